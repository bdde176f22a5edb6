import PyProof.Rows.All
import Wide.All
import Wide.FinOn
import KE.KDictOf
import KE.KFromBytes
import KE.KToBytes
import KE.KIntText
import KE.KIsAll
import KE.KItemsList
import KE.KPassesOwn
import KE.KStrWords
import KE.KTryDeep
import OpenK.ZHead
import KE.KEqDict
import KE.KUnpack
import KE.KRevIter
import PySem.Challenge.RW_loomlook_k14_whole_again
set_option Elab.async false
set_option linter.all false
section
open PySem PySem.W PyProof.Rows
set_option maxRecDepth 100000
set_option maxHeartbeats 0
section
local macro_rules | `(tactic| o_head $H)=>`(tactic| (have hk:=$H;assumption))
set_option maxHeartbeats 0 in
theorem K14.pre(h:PySem.Challenge.rw_loomlook_k14_whole_again.row.Holds):PySem.Challenge.rw_loomlook_k14_whole_again.row.Holds:=by
 k_head
end
namespace K14
set_option maxHeartbeats 0 in
theorem ws:PySem.Challenge.rw_loomlook_k14_whole_again.wellSaid=true:=by kernel_rfl
abbrev pp:Program:=PySem.Challenge.rw_loomlook_k14_whole_again.prog
abbrev qq:Program:=view pp ((List.range 89).filter fun i=>!([0,6,8,20,24,47,58,72].contains i))
abbrev rr:=OpenRow.toRowW PySem.Challenge.rw_loomlook_k14_whole_again.row
abbrev lz:List Str:=["VALUE_PARTS","STEP_PARTS","ROW_PARTS"]
abbrev lw:List Str:=["VALUE_PARTS","STEP_PARTS","ROW_PARTS","NUMBER_KINDS"]
abbrev xt(s:Shared):Bool:=xlAt qq [] s&&recOk (RowW.records rr) s
abbrev sn(s:Shared):=openSeen qq lz (importedModules pp.main.body) xt true s
set_option maxHeartbeats 0 in
theorem l0_0(w:World):(fencedOpening treeTable pp w 9000).map (fun s₀=>(topFrom treeTable pp (w.withFollow "special-get-raises" false) 9000 s₀).map fun s=>((sn s).1,(sn s).2.2.2.2.2.2.2.2))=some (some (expectedOf qq,clsGoodW qq lz)):=by
 try unfold sn
 unfold fencedOpening topFrom topStub staticsOk namesBound laidKept
 rw[PySem.W.Fast.te10274390034422433532,PySem.W.Fast.te1435165496053646825,PySem.W.Fast.te14289696077712309145,PySem.W.Fast.te14082659384304107361,PySem.W.Fast.te14364793385576792824,PySem.W.Fast.te8920871248978507458,PySem.W.Fast.te17154629097778926822,PySem.W.Fast.te12822647523644345616,PySem.W.Fast.te6905046200447255374,PySem.W.Fast.te4857012375875476094,PySem.W.Fast.te1584917186373303978,PySem.W.Fast.te14846217769314788766,PySem.W.Fast.te5923862056798008813,PySem.W.Fast.te12749700546528644094,PySem.W.Fast.te18344453789297297638,PySem.W.Fast.te12456147031677567982,PySem.W.Fast.te4187177175401517315]
 kernel_rfl
set_option maxHeartbeats 0 in
theorem l0_1(w:World):(fencedOpening treeTable pp w 9000).map (fun s₀=>(topFrom treeTable pp (w.withFollow "special-get-raises" false) 9000 s₀).map fun s=>((sn s).2.2.1,(sn s).2.2.2.2.2.2.1,(sn s).2.2.2.2.2.2.2.1))=some (some (true,plainGoodD qq lz,wideGood qq)):=by
 try unfold sn
 unfold fencedOpening topFrom topStub staticsOk namesBound laidKept
 rw[PySem.W.Fast.te10274390034422433532,PySem.W.Fast.te1435165496053646825,PySem.W.Fast.te14289696077712309145,PySem.W.Fast.te14082659384304107361,PySem.W.Fast.te14364793385576792824,PySem.W.Fast.te8920871248978507458,PySem.W.Fast.te17154629097778926822,PySem.W.Fast.te12822647523644345616,PySem.W.Fast.te6905046200447255374,PySem.W.Fast.te4857012375875476094,PySem.W.Fast.te1584917186373303978,PySem.W.Fast.te14846217769314788766,PySem.W.Fast.te5923862056798008813,PySem.W.Fast.te12749700546528644094,PySem.W.Fast.te18344453789297297638,PySem.W.Fast.te12456147031677567982,PySem.W.Fast.te4187177175401517315]
 kernel_rfl
set_option maxHeartbeats 0 in
theorem l0_2(w:World):(fencedOpening treeTable pp w 9000).map (fun s₀=>(topFrom treeTable pp (w.withFollow "special-get-raises" false) 9000 s₀).map fun s=>((sn s).2.1,(sn s).2.2.2.1,(sn s).2.2.2.2.1))=some (some (bltViewBooted,true,pinGoodD (drecsOf qq))):=by
 try unfold sn
 unfold fencedOpening topFrom topStub staticsOk namesBound laidKept
 rw[PySem.W.Fast.te10274390034422433532,PySem.W.Fast.te1435165496053646825,PySem.W.Fast.te14289696077712309145,PySem.W.Fast.te14082659384304107361,PySem.W.Fast.te14364793385576792824,PySem.W.Fast.te8920871248978507458,PySem.W.Fast.te17154629097778926822,PySem.W.Fast.te12822647523644345616,PySem.W.Fast.te6905046200447255374,PySem.W.Fast.te4857012375875476094,PySem.W.Fast.te1584917186373303978,PySem.W.Fast.te14846217769314788766,PySem.W.Fast.te5923862056798008813,PySem.W.Fast.te12749700546528644094,PySem.W.Fast.te18344453789297297638,PySem.W.Fast.te12456147031677567982,PySem.W.Fast.te4187177175401517315]
 kernel_rfl
set_option maxHeartbeats 0 in
theorem l0_3(w:World):(fencedOpening treeTable pp w 9000).map (fun s₀=>(topFrom treeTable pp (w.withFollow "special-get-raises" false) 9000 s₀).map fun s=>(plainSeenE qq lw s))=some (some (plainGoodE qq lw)):=by
 try unfold sn
 unfold fencedOpening topFrom topStub staticsOk namesBound laidKept
 rw[PySem.W.Fast.te10274390034422433532,PySem.W.Fast.te1435165496053646825,PySem.W.Fast.te14289696077712309145,PySem.W.Fast.te14082659384304107361,PySem.W.Fast.te14364793385576792824,PySem.W.Fast.te8920871248978507458,PySem.W.Fast.te17154629097778926822,PySem.W.Fast.te12822647523644345616,PySem.W.Fast.te6905046200447255374,PySem.W.Fast.te4857012375875476094,PySem.W.Fast.te1584917186373303978,PySem.W.Fast.te14846217769314788766,PySem.W.Fast.te5923862056798008813,PySem.W.Fast.te12749700546528644094,PySem.W.Fast.te18344453789297297638,PySem.W.Fast.te12456147031677567982]
 kernel_rfl
set_option maxHeartbeats 0 in
theorem l1_0(w:World):(fencedOpening treeTable pp w 9000).map (fun s₀=>(topFrom treeTable pp (w.withFollow "special-get-raises" true) 9000 s₀).map fun s=>((sn s).1,(sn s).2.2.2.2.2.2.2.2))=some (some (expectedOf qq,clsGoodW qq lz)):=by
 try unfold sn
 unfold fencedOpening topFrom topStub staticsOk namesBound laidKept
 rw[PySem.W.Fast.te10274390034422433532,PySem.W.Fast.te1435165496053646825,PySem.W.Fast.te14289696077712309145,PySem.W.Fast.te14082659384304107361,PySem.W.Fast.te14364793385576792824,PySem.W.Fast.te8920871248978507458,PySem.W.Fast.te17154629097778926822,PySem.W.Fast.te12822647523644345616,PySem.W.Fast.te6905046200447255374,PySem.W.Fast.te4857012375875476094,PySem.W.Fast.te1584917186373303978,PySem.W.Fast.te14846217769314788766,PySem.W.Fast.te5923862056798008813,PySem.W.Fast.te12749700546528644094,PySem.W.Fast.te18344453789297297638,PySem.W.Fast.te12456147031677567982,PySem.W.Fast.te4187177175401517315]
 kernel_rfl
set_option maxHeartbeats 0 in
theorem l1_1(w:World):(fencedOpening treeTable pp w 9000).map (fun s₀=>(topFrom treeTable pp (w.withFollow "special-get-raises" true) 9000 s₀).map fun s=>((sn s).2.2.1,(sn s).2.2.2.2.2.2.1,(sn s).2.2.2.2.2.2.2.1))=some (some (true,plainGoodD qq lz,wideGood qq)):=by
 try unfold sn
 unfold fencedOpening topFrom topStub staticsOk namesBound laidKept
 rw[PySem.W.Fast.te10274390034422433532,PySem.W.Fast.te1435165496053646825,PySem.W.Fast.te14289696077712309145,PySem.W.Fast.te14082659384304107361,PySem.W.Fast.te14364793385576792824,PySem.W.Fast.te8920871248978507458,PySem.W.Fast.te17154629097778926822,PySem.W.Fast.te12822647523644345616,PySem.W.Fast.te6905046200447255374,PySem.W.Fast.te4857012375875476094,PySem.W.Fast.te1584917186373303978,PySem.W.Fast.te14846217769314788766,PySem.W.Fast.te5923862056798008813,PySem.W.Fast.te12749700546528644094,PySem.W.Fast.te18344453789297297638,PySem.W.Fast.te12456147031677567982,PySem.W.Fast.te4187177175401517315]
 kernel_rfl
set_option maxHeartbeats 0 in
theorem l1_2(w:World):(fencedOpening treeTable pp w 9000).map (fun s₀=>(topFrom treeTable pp (w.withFollow "special-get-raises" true) 9000 s₀).map fun s=>((sn s).2.1,(sn s).2.2.2.1,(sn s).2.2.2.2.1))=some (some (bltViewBooted,true,pinGoodD (drecsOf qq))):=by
 try unfold sn
 unfold fencedOpening topFrom topStub staticsOk namesBound laidKept
 rw[PySem.W.Fast.te10274390034422433532,PySem.W.Fast.te1435165496053646825,PySem.W.Fast.te14289696077712309145,PySem.W.Fast.te14082659384304107361,PySem.W.Fast.te14364793385576792824,PySem.W.Fast.te8920871248978507458,PySem.W.Fast.te17154629097778926822,PySem.W.Fast.te12822647523644345616,PySem.W.Fast.te6905046200447255374,PySem.W.Fast.te4857012375875476094,PySem.W.Fast.te1584917186373303978,PySem.W.Fast.te14846217769314788766,PySem.W.Fast.te5923862056798008813,PySem.W.Fast.te12749700546528644094,PySem.W.Fast.te18344453789297297638,PySem.W.Fast.te12456147031677567982,PySem.W.Fast.te4187177175401517315]
 kernel_rfl
set_option maxHeartbeats 0 in
theorem l1_3(w:World):(fencedOpening treeTable pp w 9000).map (fun s₀=>(topFrom treeTable pp (w.withFollow "special-get-raises" true) 9000 s₀).map fun s=>(plainSeenE qq lw s))=some (some (plainGoodE qq lw)):=by
 try unfold sn
 unfold fencedOpening topFrom topStub staticsOk namesBound laidKept
 rw[PySem.W.Fast.te10274390034422433532,PySem.W.Fast.te1435165496053646825,PySem.W.Fast.te14289696077712309145,PySem.W.Fast.te14082659384304107361,PySem.W.Fast.te14364793385576792824,PySem.W.Fast.te8920871248978507458,PySem.W.Fast.te17154629097778926822,PySem.W.Fast.te12822647523644345616,PySem.W.Fast.te6905046200447255374,PySem.W.Fast.te4857012375875476094,PySem.W.Fast.te1584917186373303978,PySem.W.Fast.te14846217769314788766,PySem.W.Fast.te5923862056798008813,PySem.W.Fast.te12749700546528644094,PySem.W.Fast.te18344453789297297638,PySem.W.Fast.te12456147031677567982]
 kernel_rfl
theorem hz:looseW qq lz=lw:=by kernel_rfl
abbrev az:List Addr:=[2,3,15,22,23,24,25,28,35,36,37,40,47,48,49,52,59,60,61,64,71,72,73,83,85,86,88,89,90,92,93,95,96,97,99,100,102,103,104,106,107,109,110,111,112,113,114,115,118,119,120,121,122,123,124,125,126,127,130,131,132,134,135,137,138,139,141,142,144,145,146,148,149,151,152,153,155,156,158,159,160,163,164,165,167,168,170,171,172,173,174,175,176,177,178,179,180,181,182,183,186,187,188,190,191,193,194,195,197,198,200,201,202,204,205,207,208,209,211,212,214,215,216,219,220,221,223,224,226,227,228,231,232,233,235,236,238,239,240,243,244,245,248,249,250,252,253,255,256,257,260,261,262,264,265,267,268,269,271,272,274,275,276,277,278,279,280,281,282,283,284,285,286,287,290,291,292,294,295,297,298,299,302,303,304,306,307,309,310,311,313,314,316,317,318,320,321,323,324,325,328,329,330,333,334,335,338,339,340,343,344,345,347,348,350,351,352,354,355,357,358,359,361,362,364,365,366,369,370,371,373,374,376,377,378,380,381,383,384,385,387,388,390,391,392,394,395,397,398,399,401,402,404,405,406,408,409,411,412,413,415,416,418,419,420,422,423,425,426,427,430,431,432,434,435,437,438,449,452,453,454,456,457,459,460,466,468,469,471,472,473,476,477,478,480,481,483,484,485,487,488,490,491,492,494,495,497,498]
theorem Fq:∀P,az=(pre.heap_1 P).map (·.1):=fun _=>by kernel_rfl
set_option maxHeartbeats 0 in
theorem k0(w:World):(fencedOpening treeTable pp w 9000).map (fun s₀=>(topFrom treeTable pp (w.withFollow "special-get-raises" false) 9000 s₀).map (Hook.obs (kHook K14.pre.heap_1 K14.az K14.Fq)))=some (some (Hook.val (kHook K14.pre.heap_1 K14.az K14.Fq) (w.withFollow "special-get-raises" false))):=by
 dsimp only [kHook]
 unfold fencedOpening topFrom topStub staticsOk namesBound laidKept
 rw[PySem.W.Fast.te10274390034422433532,PySem.W.Fast.te1435165496053646825,PySem.W.Fast.te14289696077712309145,PySem.W.Fast.te14082659384304107361,PySem.W.Fast.te14364793385576792824,PySem.W.Fast.te8920871248978507458,PySem.W.Fast.te17154629097778926822,PySem.W.Fast.te12822647523644345616,PySem.W.Fast.te6905046200447255374,PySem.W.Fast.te4857012375875476094,PySem.W.Fast.te1584917186373303978,PySem.W.Fast.te14846217769314788766,PySem.W.Fast.te5923862056798008813,PySem.W.Fast.te12749700546528644094,PySem.W.Fast.te18344453789297297638,PySem.W.Fast.te12456147031677567982]
 kernel_rfl
set_option maxHeartbeats 0 in
theorem k1(w:World):(fencedOpening treeTable pp w 9000).map (fun s₀=>(topFrom treeTable pp (w.withFollow "special-get-raises" true) 9000 s₀).map (Hook.obs (kHook K14.pre.heap_1 K14.az K14.Fq)))=some (some (Hook.val (kHook K14.pre.heap_1 K14.az K14.Fq) (w.withFollow "special-get-raises" true))):=by
 dsimp only [kHook]
 unfold fencedOpening topFrom topStub staticsOk namesBound laidKept
 rw[PySem.W.Fast.te10274390034422433532,PySem.W.Fast.te1435165496053646825,PySem.W.Fast.te14289696077712309145,PySem.W.Fast.te14082659384304107361,PySem.W.Fast.te14364793385576792824,PySem.W.Fast.te8920871248978507458,PySem.W.Fast.te17154629097778926822,PySem.W.Fast.te12822647523644345616,PySem.W.Fast.te6905046200447255374,PySem.W.Fast.te4857012375875476094,PySem.W.Fast.te1584917186373303978,PySem.W.Fast.te14846217769314788766,PySem.W.Fast.te5923862056798008813,PySem.W.Fast.te12749700546528644094,PySem.W.Fast.te18344453789297297638,PySem.W.Fast.te12456147031677567982]
 kernel_rfl
end K14
end
set_option Elab.async false
set_option linter.all false
set_option maxRecDepth 100000
set_option maxHeartbeats 4000000
section
section
namespace L2
open PySem PySem.Spec PyProof.Rows
abbrev Key:=Sum Int Str
def J2:Key->Value->Bool
 | .inl k,v=>Value.isInt k v
 | .inr x,v=>Value.isStrOf x v
def keyH(w:World):Key->Int
 | .inl k=>hashInt k
 | .inr x=>hashStr w x
theorem keyIs_shape:∀{k:Key} {v:Value},J2 k v=true->(∃i t,k=Sum.inl i/\v=Value.int i t)\/(∃x t,k=Sum.inr x/\v=Value.str x t)
 | .inl i,v,h=>by
  obtain⟨t,e⟩:=Value.isInt_shape (k:=i) (v:=v) h
  exact .inl ⟨i,t,rfl,e⟩
 | .inr x,v,h=>by
  obtain⟨t,e⟩:=Value.isStrOf_shape (x:=x) (v:=v) h
  exact .inr ⟨x,t,rfl,e⟩
theorem Rr(i:Int)(t:Tok):J2 (.inl i) (.int i t)=true:=by simp[J2,Value.isInt]
theorem Q1(x:Str)(t:Tok):J2 (.inr x) (.str x t)=true:=by simp[J2,Value.isStrOf]
theorem Aaq(a b:Int):decide ((Sum.inl a:Key)=Sum.inl b)=(a==b):=by
 by_cases e:a=b
 ·subst e;simp
 ·have h:¬ (Sum.inl a:Key)=Sum.inl b:=fun q=>e (Sum.inl.inj q)
  rw[decide_eq_false h]
  exact(beq_eq_false_iff_ne.mpr e).symm
theorem N1(a b:Str):decide ((Sum.inr a:Key)=Sum.inr b)=decide (a=b):=by
 by_cases e:a=b
 ·subst e;simp
 ·have h:¬ (Sum.inr a:Key)=Sum.inr b:=fun q=>e (Sum.inr.inj q)
  rw[decide_eq_false h,decide_eq_false e]
theorem Abb(a:Int)(b:Str):decide ((Sum.inl a:Key)=Sum.inr b)=false:=decide_eq_false (fun q=>nomatch q)
theorem Acw(a:Str)(b:Int):decide ((Sum.inr a:Key)=Sum.inl b)=false:=decide_eq_false (fun q=>nomatch q)
def mixKind(prog:Program)(w:World):PySem.KeyKind prog w Key where
 is:=J2
 hash:=keyH w
 inj:=fun v a b ha hb=>by
  rcases keyIs_shape ha with⟨i,t,rfl,rfl⟩|⟨x,t,rfl,rfl⟩
  ·rcases keyIs_shape hb with⟨j,u,rfl,e⟩|⟨y,u,rfl,e⟩
   ·injection e with e1 _;rw[e1]
   ·exact nomatch e
  ·rcases keyIs_shape hb with⟨j,u,rfl,e⟩|⟨y,u,rfl,e⟩
   ·exact nomatch e
   ·injection e with e1 _;rw[e1]
 byValue:=fun k v h=>by
  rcases keyIs_shape h with⟨i,t,rfl,rfl⟩|⟨x,t,rfl,rfl⟩ <;> rfl
 pyHash:=fun hv h=>by
  rcases keyIs_shape hv with⟨i,t,rfl,rfl⟩|⟨x,t,rfl,rfl⟩
  ·exact wpAny_pyHash_int h
  ·exact wpAny_pyHash_str h
 eqBool:=fun hu hv h=>by
  rcases keyIs_shape hu with⟨i,t,rfl,rfl⟩|⟨x,t,rfl,rfl⟩
  ·rcases keyIs_shape hv with⟨j,u,rfl,rfl⟩|⟨y,u,rfl,rfl⟩
   ·rw[Aaq] at h;exact wpAny_eqBool_int h
   ·rw[Abb] at h;exact SeqAt.EqAt.int_str i t y u _ _ _ _ h
  ·rcases keyIs_shape hv with⟨j,u,rfl,rfl⟩|⟨y,u,rfl,rfl⟩
   ·rw[Acw] at h;exact SeqAt.EqAt.str_int x t j u _ _ _ _ h
   ·rw[N1] at h;exact wpAny_eqBool_str h
 «strs»:=fun k x t v h=>by
  rcases keyIs_shape h with⟨i,u,rfl,e⟩|⟨y,u,rfl,e⟩
  ·exact nomatch e
  ·injection e with e1 _
   subst e1
   cases v <;> rfl
theorem L0(prog:Program)(w:World)(i:Int)(t:Tok):(mixKind prog w).is (.inl i) (.int i t)=true:=Rr i t
theorem Ct(prog:Program)(w:World)(x:Str)(t:Tok):(mixKind prog w).is (.inr x) (.str x t)=true:=Q1 x t
end L2
namespace L2
open PySem PySem.Spec PyProof.Rows
inductive V where
 |non|bl (b:Bool)|int (i:Int)|str (x:Str)|byt (b:Array UInt8)|flt (b:UInt64)|ref (a:Addr)|ty (n:String)
 deriving DecidableEq
def RelV:V->Value->Prop
 | .non,u=>u=Value.none
 | .bl b,u=>u=Value.bool b
 | .int i,u=>∃t,u=Value.int i t
 | .str x,u=>∃t,u=Value.str x t
 | .byt b,u=>∃t,u=Value.bytes b t
 | .flt b,u=>∃t,u=Value.float b t
 | .ref a,u=>u=Value.ref a
 | .ty n,u=>u=Value.type n
abbrev Vals:List V->List Value->Prop:=Paired RelV
theorem Vals.length{xs:List V}{us:List Value}(r:Vals xs us):xs.length=us.length:=Paired.length r
theorem Vals.get:∀{xs:List V} {us:List Value} {i:Nat} {x:V},Vals xs us->xs[i]?=some x->∃u,us[i]?=some u/\RelV x u
 |_,_,_,_,.nil,e=>by simp at e
 |_,_,0,_,.cons r _,e=>by simp at e;subst e;exact⟨_,rfl,r⟩
 |_,_,i+1,x,.cons _ t,e=>by
  obtain⟨u,h1,h2⟩:=Vals.get (i:=i) (x:=x) t (by simpa using e)
  exact⟨u,by simpa using h1,h2⟩
theorem Vals.set{x:V}{u:Value}(r:RelV x u):∀{xs:List V} {us:List Value} (i:Nat),Vals xs us->Vals (xs.set i x) (us.set i u)
 |_,_,_,.nil=>.nil
 |_,_,0,.cons _ t=>.cons r t
 |_,_,i+1,.cons q t=>.cons q (Vals.set r i t)
theorem Vals.append:∀{xs ys:List V} {us ws:List Value},Vals xs us->Vals ys ws->Vals (xs++ys) (us++ws)
 |_,_,_,_,.nil,s=>s
 |_,_,_,_,.cons r t,s=>.cons r (Vals.append t s)
theorem Vals.take:∀{xs:List V} {us:List Value} (n:Nat),Vals xs us->Vals (xs.take n) (us.take n)
 |_,_,0,_=>.nil
 |_,_,_+1,.nil=>.nil
 |_,_,n+1,.cons r t=>.cons r (Vals.take n t)
theorem Vals.drop:∀{xs:List V} {us:List Value} (n:Nat),Vals xs us->Vals (xs.drop n) (us.drop n)
 |_,_,0,r=>r
 |_,_,_+1,.nil=>.nil
 |_,_,n+1,.cons _ t=>Vals.drop n t
def RelO:Option V->Option Value->Prop
 |some v,some u=>RelV v u
 |none,none=>True
 |_,_=>False
def KV{κ:Type}:List (κ×V)->List (κ×Value)->Prop:=Paired fun (p:κ×V) (q:κ×Value)=>p.1=q.1/\RelV p.2 q.2
def kV:Key->V
 | .inl i=>.int i
 | .inr x=>.str x
inductive HO where
  |lst (xs:List V)
  |tup (xs:List V)
  |dK (kvs:List (Key×V))|dT (kvs:List (List Key×V))
  |set (S:Int->Bool) (n:Nat)
  |ins (C dx:Addr) (fs:List (Str×V))
  |own (x:Addr)
  |xd (fs:List (Str×V))
  |met (f x:Addr)
  |rng (lo hi:Int)
  |frz (o:Obj) (u:HO)
  |tbl (ps:Array Value)
  |ext (φ:Heap->Prop)
abbrev Hp:=Addr->Option HO
def upd(H:Hp)(a:Addr)(o:HO):Hp:=fun b=>if b=a then some o else H b
theorem A4{H:Hp}{a:Addr}{o:HO}:upd H a o a=some o:=by unfold upd;rw[if_pos rfl]
theorem Xc{H:Hp}{a b:Addr}{o:HO}(h:b≠a):upd H a o b=H b:=by unfold upd;rw[if_neg h]
theorem Xa{H:Hp}{a b:Addr}{o:HO}(h:H a=some o)(h':H b=none):a≠b:=by
 intro e;subst e;rw[h] at h';cases h'
def TupN(h:Heap)(a:Addr)(items:Array Value):Prop:=∃o,h.get? a=some o/\o.cls=.type "tuple"/\(∃n,o.data=.seq items n)/\o.dict=none
theorem TupN.isTup{h:Heap}{a:Addr}{items:Array Value}(x:TupN h a items):IsTup h a items:=let ⟨o,e,c,d,_⟩:=x;⟨o,e,c,d⟩
theorem TupN.new(h:Heap)(items:Array Value):TupN (h.push { cls:=.type "tuple",data:=.seq items }) h.objs.size items:=⟨_,Heap.get?_push_size _ rfl,rfl,⟨_,rfl⟩,rfl⟩
theorem TupN.lt{h:Heap}{a:Addr}{items:Array Value}(x:TupN h a items):a<h.objs.size:=x.isTup.lt
section
variable(P:Program)(w:World)
def ObjOk(H:Hp)(h:Heap)(a:Addr):HO->Prop
 | .lst xs=>xs.length<=sizeLine/\∃(its:List Value) (n:Nat),Vals xs its/\h.get? a=some { cls:=.type "list",data:=.seq its.toArray n }
 | .tup xs=>xs.length<=sizeLine/\∃its:List Value,Vals xs its/\TupN h a its.toArray
 | .dK kvs=>kvs.length<=sizeLine/\(a==sysModules)=false/\∃vs,KV kvs vs/\h.DictOf (mixKind P w) a vs
 | .dT kvs=>kvs.length<=sizeLine/\(a==sysModules)=false/\∃xs:List (List Key×Addr×Value),
   Paired (fun (p:List Key×V) (q:List Key×Addr×Value)=>p.1=q.1/\H q.2.1=some (.tup (p.1.map kV))/\RelV p.2 q.2.2) kvs xs ∧
   ∃o es ep,h.get? a=some o/\o.ExactDict/\o.data=.dict es ep/\es.toList=xs.map (entryOfKey (tupleKind (mixKind P w)))/\(xs.map (·.1)).Nodup
 | .set S n=>h.SetOf (intKind P w) a S n
 | .ins C dx fs=>H dx=some (.own a)/\fs.length<=1000/\dx≠a/\h.get? a=some (PySem.W.instObj C dx) ∧
   ∃mA,h.Ns1 dx mA/\(∀f,RelO (fs.lookup f) (mA f))/\PySem.Within mA (fs.map (·.1))
 | .own _=>∃o,h.get? a=some o
 | .xd fs=>∃mA,h.Ns1 a mA/\∀f,RelO (fs.lookup f) (mA f)
 | .rng lo hi=>∃t u v,h.get? a=some { cls:=.type "range",data:=.fields #[.int lo t,.int hi u,.int 1 v] }
 | .frz o u=>h.get? a=some o/\ObjOk H h a u
 | .tbl ps=>h.get? a=some { cls:=.none,data:=.fields ps }
 | .met f x=>h.get? a=some (PySem.W.methodObj (.ref f) (.ref x))
 | .ext φ=>φ h/\(∃o,h.get? a=some o)/\∀h1 h2:Heap,φ h1->(∀o,h1.get? a=some o->h2.get? a=some o)->φ h2
def HOk(H:Hp)(h:Heap):Prop:=∀a o,H a=some o->ObjOk P w H h a o
end
section
variable{P:Program}{w:World}{H H':Hp}{h h':Heap}{a:Addr}{o:HO}
theorem ObjOk.lt(x:ObjOk P w H h a o):a<h.objs.size:=by
 cases o with
 |lst xs=>obtain⟨_,_,_,_,e⟩:=x;exact Heap.lt_size e
 |tup xs=>obtain⟨_,_,_,p⟩:=x;exact p.lt
 |dK kvs=>obtain⟨_,_,_,_,o,_,_,e,_⟩:=x;exact Heap.lt_size e
 |dT kvs=>obtain⟨_,_,_,_,o,_,_,e,_⟩:=x;exact Heap.lt_size e
 |set S n=>obtain⟨o,_,_,_,e,_⟩:=x;exact Heap.lt_size e
 |ins C dx fs=>obtain⟨_,_,_,e,_⟩:=x;exact Heap.lt_size e
 |own y=>obtain⟨_,e⟩:=x;exact Heap.lt_size e
 |xd fs=>obtain⟨_,⟨_,_,_,e,_⟩,_⟩:=x;exact Heap.lt_size e
 |rng lo hi=>obtain⟨_,_,_,e⟩:=x;exact Heap.lt_size e
 |frz ob u=>obtain⟨e,_⟩:=x;exact Heap.lt_size e
 |tbl ps=>exact Heap.lt_size (show h.get? a=some _ from x)
 |met f y=>exact Heap.lt_size (show h.get? a=some _ from x)
 |ext φ=>obtain⟨_,⟨_,e⟩,_⟩:=x;exact Heap.lt_size e
theorem Paired.mapP{α β:Type}{F G:α->β->Prop}:∀{l₁:List α} {l₂:List β},Paired F l₁ l₂->(∀a b,F a b->G a b)->Paired G l₁ l₂
 |_,_,.nil,_=>.nil
 |_,_,.cons r t,f=>.cons (f _ _ r) (Paired.mapP t f)
theorem ObjOk.stay(x:ObjOk P w H h a o)(k:∀b u,(b=a\/H b=some (.own a))->h.get? b=some u->h'.get? b=some u)
  (ho:∀b,H b=some (.own a)->H' b=some (.own a)) (ht:∀b xs,H b=some (.tup xs)->H' b=some (.tup xs)):ObjOk P w H' h' a o:=by
 induction o with
 |lst xs=>obtain⟨z,its,n,r,e⟩:=x;exact⟨z,its,n,r,k _ _ (.inl rfl) e⟩
 |tup xs=>obtain⟨z,its,r,ob,e,c⟩:=x;exact⟨z,its,r,ob,k _ _ (.inl rfl) e,c⟩
 |dK kvs=>obtain⟨z,y,vs,r,ob,es,ep,e,c⟩:=x;exact⟨z,y,vs,r,ob,es,ep,k _ _ (.inl rfl) e,c⟩
 |dT kvs =>
  obtain⟨z,y,xs,r,ob,es,ep,e,c⟩:=x
  exact⟨z,y,xs,Paired.mapP r fun p q z=>⟨z.1,ht _ _ z.2.1,z.2.2⟩,ob,es,ep,k _ _ (.inl rfl) e,c⟩
 |set S n=>obtain⟨ob,es,ep,t,e,c⟩:=x;exact⟨ob,es,ep,t,k _ _ (.inl rfl) e,c⟩
 |ins C dx fs =>
  obtain⟨d,z,ne,e,mA,⟨od,es,ep,e2,c⟩,r⟩:=x
  exact⟨ho _ d,z,ne,k _ _ (.inl rfl) e,mA,⟨od,es,ep,k _ _ (.inr d) e2,c⟩,r⟩
 |own y=>obtain⟨ob,e⟩:=x;exact⟨ob,k _ _ (.inl rfl) e⟩
 |xd fs=>obtain⟨mA,⟨od,es,ep,e,c⟩,r⟩:=x;exact⟨mA,⟨od,es,ep,k _ _ (.inl rfl) e,c⟩,r⟩
 |rng lo hi=>obtain⟨t,u,v,e⟩:=x;exact⟨t,u,v,k _ _ (.inl rfl) e⟩
 |frz ob u ih=>obtain⟨e,q⟩:=x;exact⟨k _ _ (.inl rfl) e,ih q⟩
 |tbl ps =>
  have e:h.get? a=some { cls:=.none,data:=.fields ps }:=x
  show h'.get? a=some { cls:=.none,data:=.fields ps }
  exact k a _ (.inl rfl) e
 |met f y =>
  have e:h.get? a=some (PySem.W.methodObj (.ref f) (.ref y)):=x
  show h'.get? a=some (PySem.W.methodObj (.ref f) (.ref y))
  exact k a _ (.inl rfl) e
 |ext φ=>obtain⟨p,⟨o,e⟩,st⟩:=x;exact⟨st _ _ p fun o q=>k _ _ (.inl rfl) q,⟨o,k _ _ (.inl rfl) e⟩,st⟩
theorem HOk.lt(x:HOk P w H h)(e:H a=some o):a<h.objs.size:=(x a o e).lt
theorem HOk.fresh(x:HOk P w H h)(e:h.objs.size<=a):H a=none:=by
 cases q:H a with
 |none=>rfl
 |some u=>exact absurd (Nat.lt_of_lt_of_le (x.lt q) e) (Nat.lt_irrefl _)
theorem HOk.kept(x:HOk P w H h)(k:∀b u,h.get? b=some u->h'.get? b=some u):HOk P w H h':=fun a o e =>
 (x a o e).stay (fun b u _ q=>k b u q) (fun _ q=>q) fun _ _ q=>q
theorem HOk.laid(x:HOk P w H h)(k:∀b u,h.get? b=some u->h'.get? b=some u)(hp:h.objs.size<=a)(new:ObjOk P w (upd H a o) h' a o):HOk P w (upd H a o) h':=fun b u e=>by
 have hn:=x.fresh hp
 by_cases hb:b=a
 ·subst hb;rw[A4] at e;cases e;exact new
 ·rw[Xc hb] at e
  exact(x b u e).stay (fun c v _ q=>k c v q) (fun c q=>by rw[Xc (Xa q hn)];exact q) fun c xs q=>by rw[Xc (Xa q hn)];exact q
end
def Rd(H:Hp)(a:Addr)(u:HO):Prop:=H a=some u\/∃o,H a=some (.frz o u)
theorem Rd.ok{P:Program}{w:World}{H:Hp}{h:Heap}{a:Addr}{u:HO}(r:Rd H a u)(x:HOk P w H h):ObjOk P w H h a u:=by
 rcases r with r|⟨o,r⟩
 ·exact x a u r
 ·obtain⟨_,q⟩:=x a _ r
  exact q
def Mut:Option HO->Prop
 |some (.lst _)=>True
 |some (.dK _)=>True
 |some (.dT _)=>True
 |some (.set _ _)=>True
 |some (.ins _ _ _)=>True
 |some (.ext _)=>True
 |_=>False
section
variable{P:Program}{w:World}{H:Hp}{h h':Heap}{x e:Addr}{o':HO}
theorem HOk.write(ok:HOk P w H h)(mu:Mut (H x))(he:e=x\/H e=some (.own x))(k:∀b u,b≠e->h.get? b=some u->h'.get? b=some u)(heo:∃u,h'.get? e=some u)
  (new:ObjOk P w (upd H x o') h' x o'):HOk P w (upd H x o') h':=fun b u q=>by
 have nown:∀c y,H c=some (.own y)->c≠x:=fun c y r z=>by subst z;rw[r] at mu;exact mu
 have ntup:∀c xs,H c=some (.tup xs)->c≠x:=fun c xs r z=>by subst z;rw[r] at mu;exact mu
 by_cases hb:b=x
 ·subst hb;rw[A4] at q;cases q;exact new
 ·rw[Xc hb] at q
  by_cases hbe:b=e
  ·have q':H b=some (.own x):=by
    rcases he with z|z
    ·exact absurd (hbe.trans z) hb
    ·rw[hbe];exact z
   rw[q] at q';cases q'
   obtain⟨v,hv⟩:=heo
   exact⟨v,by rw[hbe];exact hv⟩
  ·refine(ok b u q).stay (fun c v hc r=>k c v ?_ r) (fun c r=>by rw[Xc (nown c b r)];exact r) fun c xs r=>by rw[Xc (ntup c xs r)];exact r
   rcases hc with rfl|hc
   ·exact hbe
   ·rintro rfl
    rcases he with z|z
    ·exact nown c b hc z
    ·rw[hc] at z;cases z;exact hb rfl
end
structure Un(fs ex:List Addr)(H H':Hp)(h h':Heap):Prop where
 keep:∀b o,h.get? b=some o->H b=none->b ∉ fs->b ∉ ex->h'.get? b=some o
 slot:∀b o,h.get? b=some o->H b=none->b∈fs->b ∉ ex->∃sl,h'.get? b=some { o with slots:=sl }
 free:∀b o,h.get? b=some o->H b=none->b ∉ ex->H' b=none
 there:∀b o,h.get? b=some o->b ∉ ex->∃o',h'.get? b=some o'
 tups:∀b xs,H b=some (.tup xs)->H' b=some (.tup xs)
 frzs:∀b o u,H b=some (.frz o u)->H' b=some (.frz o u)
 tbls:∀b ps,H b=some (.tbl ps)->∃more,H' b=some (.tbl (ps++more))
section
variable{fs fs' ex ex':List Addr}{H H1 H2:Hp}{h h1 h2 h':Heap}{a x e:Addr}{o:HO}
theorem Un.any(u:Un fs ex H H1 h h1){b:Addr}{ob:Obj}(q:h.get? b=some ob)(n:H b=none)(hx:b ∉ ex):∃sl,h1.get? b=some { ob with slots:=sl }:=by
 by_cases hb:b∈fs
 ·exact u.slot b ob q n hb hx
 ·exact⟨ob.slots,u.keep b ob q n hb hx⟩
theorem Un.kept(k:∀b u,h.get? b=some u->h'.get? b=some u):Un fs ex H H h h' :=
 ⟨fun b ob q _ _ _=>k b ob q,fun b ob q _ _ _=>⟨ob.slots,k b ob q⟩,fun _ _ _ n _=>n,fun b ob q _=>⟨ob,k b ob q⟩,fun _ _ q=>q,fun _ _ _ q=>q,fun _ ps q=>⟨#[],by rw[q];simp⟩⟩
theorem Un.refl:Un fs ex H H h h:=Un.kept fun _ _ q=>q
theorem Un.laid(k:∀b u,h.get? b=some u->h'.get? b=some u)(hp:h.objs.size<=a)(hn:H a=none):Un fs ex H (upd H a o) h h' where
 keep:=fun b u q _ _ _=>k b u q
 slot:=fun b u q _ _ _=>⟨u.slots,k b u q⟩
 free:=fun b u q n _=>by rw[Xc (Nat.ne_of_lt (Nat.lt_of_lt_of_le (Heap.lt_size q) hp))];exact n
 there:=fun b u q _=>⟨u,k b u q⟩
 tups:=fun b xs q=>by rw[Xc (Xa q hn)];exact q
 frzs:=fun b u xs q=>by rw[Xc (Xa q hn)];exact q
 tbls:=fun b ps q=>⟨#[],by rw[Xc (Xa q hn),q];simp⟩
theorem Un.write(mu:Mut (H x))(he:e=x\/H e=some (.own x))(k:∀b u,b≠e->h.get? b=some u->h'.get? b=some u)(heo:∃u,h'.get? e=some u):Un fs ex H (upd H x o) h h':=by
 have hx:∀b,H b=none->b≠x:=fun b n z=>by subst z;rw[n] at mu;exact mu
 have hb:∀b,H b=none->b≠e:=fun b n z=>by
  subst z
  rcases he with r|r
  ·exact hx b n r
  ·rw[n] at r;cases r
 have hm:∀b u,H b=some u->¬ Mut (some u)->b≠x:=fun b u q nm z=>by subst z;rw[q] at mu;exact nm mu
 refine⟨fun b u q n _ _=>k b u (hb b n) q,fun b u q n _ _=>⟨u.slots,k b u (hb b n) q⟩,fun b u q n _=>by rw[Xc (hx b n)];exact n,fun b u q _=>?_,
  fun b xs q=>by rw[Xc (hm b _ q fun z=>z)];exact q,fun b u xs q=>by rw[Xc (hm b _ q fun z=>z)];exact q,fun b ps q=>⟨#[],by rw[Xc (hm b _ q fun z=>z),q];simp⟩⟩
 by_cases hbe:b=e
 ·subst hbe;exact heo
 ·exact⟨u,k b u hbe q⟩
end
def trk(h:Heap)(H:Hp):List Addr:=(List.range h.objs.size).filter fun a=>(H a).isSome
def Kv(h:Heap)(H:Hp):Heap:=PySem.W.hideAll h (trk h H)
theorem Sl(h:Heap)(H:Hp):(Kv h H).objs.size=h.objs.size:=PySem.W.hideAll_size _ _
theorem Vo{h:Heap}{H:Hp}{b:Addr}{o:Obj}(e:h.get? b=some o)(n:H b=none):(Kv h H).get? b=some o :=
 PySem.W.hideAll_get _ e fun hm=>by
  have q:(H b).isSome=true:=(List.mem_filter.mp hm).2
  rw[n] at q;simp at q
theorem Z7{h:Heap}{H:Hp}{b:Addr}{o:Obj}(e:(Kv h H).get? b=some o):h.get? b=some o/\H b=none:=by
 have e':h.get? b=some o:=PySem.W.of_hideAll (trk h H) e
 refine⟨e',?_⟩
 cases q:H b with
 |none=>rfl
 |some x =>
  have hm:b∈trk h H:=List.mem_filter.mpr ⟨List.mem_range.mpr (Heap.lt_size e'),by simp[q]⟩
  have z:(Kv h H).get? b=none:=PySem.W.hideAll_none (trk h H) hm
  rw[z] at e;cases e
end L2
namespace L2
open PySem PySem.Spec PyProof.Rows
structure Mod(K:PySem.W.Frag)(mg:Str->Option Value)(base:Heap):Prop where
 kin:K.In base
 glob:base.Ns mainGlobals mg
 blt:∃mb,base.Ns builtinsNs mb/\∀x:Str,x≠"__name__"->mb x=bootBuiltins x
 nolimit:base.NoLimit
structure Cx where
 prog:Program
 w:World
 K:PySem.W.Frag
 mg:Str->Option Value
 base:Heap
 A:Around
 N:List Str
 s₀:Shared
 H₀:Hp
 env:Env
 outer:List Env
 stack:List Env
 ex:List Addr
 fn:Str->Bool
 calm:Bool
 pn:List (Addr×Obj)
 xe:Value->Shared->Prop
def frs(l:List Env):List Addr:=l.filterMap (·.frame)
abbrev Cx.fs(X:Cx):List Addr:=frs X.outer
def Vis(sc:Scope)(x:Str):Prop:=sc.names.lookup x=some .local\/sc.names.lookup x=some .cell\/sc.names.lookup x=some .free
def Loc(sc:Scope)(x:Str):Prop:=sc.names.lookup x=some .local\/sc.names.lookup x=some .cell
def Look(env:Env)(h:Heap)(m:Str->Option Value)(x:Str)(u:Value):Prop :=
 (env.kindOf x=some .local/\m x=some u)\/((env.kindOf x=some .cell\/env.kindOf x=some .free)/\∃c,env.cells.lookup x=some c/\h.IsCell c (some u))
structure Cx.Ok(X:Cx):Prop where
 mod:Mod X.K X.mg X.base
 kind:X.env.scope.kind=.function
 glob:X.env.globals=mainGlobals
 blt:X.env.builtins=builtinsNs
 above:X.s₀.heap.objs.size<=X.env.locals
 inj:∀x y c,X.env.cells.lookup x=some c->X.env.cells.lookup y=some c->x=y
 has:∀x,(X.env.kindOf x=some .cell\/X.env.kindOf x=some .free)->∃c,X.env.cells.lookup x=some c
 cab:∀x c,X.fn x=true->X.env.cells.lookup x=some c->X.s₀.heap.objs.size<=c
 hd:X.calm=true->X.A.handled=none
 frames:X.A.frames=some X.stack
 stk:X.stack=X.outer\/(X.stack=X.env::X.outer/\X.env.frame=some X.env.locals)
 exf:∀b∈X.ex,b≠X.env.locals/\∀x c,X.env.cells.lookup x=some c->c≠b
 bs:∀b o,X.base.get? b=some o->X.s₀.heap.get? b=some o/\X.H₀ b=none
 bsz:X.base.objs.size<=X.s₀.heap.objs.size
 noex:∀b o,X.base.get? b=some o->b ∉ X.ex
 exfs:∀b∈X.ex,b ∉ X.fs
 funs:X.s₀.heap.FunFrames X.base X.outer
 frf:∀b∈X.fs,X.H₀ b=none
structure Inv(X:Cx)(pins:List (Addr×Obj))(σ:List (Option V))(H:Hp)(s:Shared):Prop where
 ok:X.Ok
 os:s.os=X.s₀.os
 bare:AllBare s.gens
 base:Un X.fs X.ex X.H₀ H X.s₀.heap s.heap
 loc:∃m,s.heap.Ns X.env.locals m/\∀(i:Nat) (x:Str) (v:V),X.N[i]?=some x->σ[i]?=some (some v)->Vis X.env.scope x->∃u,RelV v u/\Look X.env s.heap m x u
 cell:∀x c,X.env.cells.lookup x=some c->∃v,s.heap.IsCell c v
 free:H X.env.locals=none
 freeC:∀x c,X.env.cells.lookup x=some c->H c=none
 pin:∀p∈X.pn++pins,s.heap.get? p.1=some p.2/\H p.1=none/\p.1≠X.env.locals/\p.1 ∉ X.fs/\∀v,p.2.data≠.cell v
 hok:HOk X.prog X.w H s.heap
 len:σ.length=X.N.length
section
variable{X:Cx}{pins:List (Addr×Obj)}{σ:List (Option V)}{H H':Hp}{s:Shared}{h':Heap}
theorem Cx.Ok.nofr(ok:X.Ok){b:Addr}{o:Obj}(e:X.base.get? b=some o):b ∉ X.fs:=fun hb=>by
 have:=(ok.funs.mem hb).1
 rw[e] at this;cases this
theorem Inv.bs(I:Inv X pins σ H s):∀b o,X.base.get? b=some o->s.heap.get? b=some o/\H b=none:=fun b o e =>
 ⟨I.base.keep b o (I.ok.bs b o e).1 (I.ok.bs b o e).2 (I.ok.nofr e) (I.ok.noex b o e),I.base.free b o (I.ok.bs b o e).1 (I.ok.bs b o e).2 (I.ok.noex b o e)⟩
theorem Inv.bk(I:Inv X pins σ H s):∀b o,X.base.get? b=some o->s.heap.get? b=some o:=fun b o e=>(I.bs b o e).1
theorem Inv.mod(I:Inv X pins σ H s):Mod X.K X.mg X.base:=I.ok.mod
theorem Inv.kIn(I:Inv X pins σ H s):X.K.In s.heap:=I.ok.mod.kin.keeps I.bk
theorem Inv.lt(I:Inv X pins σ H s):X.env.locals<s.heap.objs.size:=let ⟨_,hn,_⟩:=I.loc;hn.lt
theorem Inv.sz(I:Inv X pins σ H s):X.s₀.heap.objs.size<=s.heap.objs.size:=Nat.le_trans I.ok.above (Nat.le_of_lt I.lt)
theorem Inv.nofs(I:Inv X pins σ H s){a:Addr}(h:s.heap.objs.size<=a):a ∉ X.fs:=fun hb=>by
 obtain⟨_,o,ho,_⟩:=I.ok.funs.mem hb
 exact absurd (Nat.lt_of_lt_of_le (Heap.lt_size ho) (Nat.le_trans I.sz h)) (Nat.lt_irrefl _)
theorem Inv.cne(I:Inv X pins σ H s):∀x c,X.env.cells.lookup x=some c->c≠X.env.locals:=fun x c e z=>by
 obtain⟨v,o,ho,hd⟩:=I.cell x c e
 obtain⟨m,⟨o',es,ep,ho',hd',_⟩,_⟩:=I.loc
 rw[z,ho'] at ho;cases ho;rw[hd'] at hd;cases hd
theorem Inv.funs(I:Inv X pins σ H s):s.heap.FunFrames X.base X.outer:=by
 have all:∀(l:List Env),(∀b∈frs l,b∈X.fs)->X.s₀.heap.FunFrames X.base l->s.heap.FunFrames X.base l:=by
  intro l
  induction l with
  |nil=>intro _ _;trivial
  |cons env r ih =>
   intro hs hl
   obtain⟨hk,⟨L,o,hf,hn,ho,hd⟩,hr⟩:=hl
   have hL:L∈X.fs:=hs L (by unfold frs;rw[List.filterMap_cons,hf];exact List.mem_cons_self)
   obtain⟨sl,e⟩:=I.base.slot L o ho (I.ok.frf L hL) hL fun z=>I.ok.exfs L z hL
   exact⟨hk,⟨L,_,hf,hn,e,hd⟩,ih (fun b hb=>hs b (by unfold frs;rw[List.filterMap_cons,hf];exact List.mem_cons_of_mem _ hb)) hr⟩
 exact all X.outer (fun _ hb=>hb) I.ok.funs
theorem Inv.stack(I:Inv X pins σ H s):s.heap.FunFrames X.base X.stack:=by
 rcases I.ok.stk with e|⟨e,hf⟩
 ·rw[e];exact I.funs
 ·rw[e]
  obtain⟨m,hn,_⟩:=I.loc
  refine .cons (by rw[I.ok.kind];decide) hf hn ?_ I.funs
  exact Heap.get?_none_of_le (Nat.le_trans I.ok.bsz I.ok.above)
theorem Inv.stkSub(I:Inv X pins σ H s):∀b∈frs X.stack,b∈X.env.locals::X.fs:=fun b hb=>by
 rcases I.ok.stk with e|⟨e,hf⟩
 ·rw[e] at hb;exact List.mem_cons_of_mem _ hb
 ·rw[e] at hb
  unfold frs at hb
  rw[List.filterMap_cons,hf] at hb
  exact hb
theorem Inv.stkFree(I:Inv X pins σ H s):∀b∈frs X.stack,H b=none:=fun b hb=>by
 rcases List.mem_cons.mp (I.stkSub b hb) with e|hb
 ·rw[e];exact I.free
 ·obtain⟨_,o,ho,_⟩:=I.ok.funs.mem hb
  exact I.base.free b o ho (I.ok.frf b hb) fun z=>I.ok.exfs b z hb
theorem Inv.step{g':Array GenState}{t':Nat}{d':Drawn}{ch:List Addr}(I:Inv X pins σ H s)
  (hch:∀b∈ch,(b∈X.ex\/X.s₀.heap.objs.size<=b)/\b≠X.env.locals/\(∀x c,X.env.cells.lookup x=some c->c≠b)/\∀p∈X.pn++pins,p.1≠b)
  (keep:∀b o,b≠X.env.locals->b ∉ X.fs->b ∉ ch->s.heap.get? b=some o->H b=none->h'.get? b=some o)
  (slot:∀b o,b≠X.env.locals->b∈X.fs->b ∉ ch->s.heap.get? b=some o->H b=none->∃sl,h'.get? b=some { o with slots:=sl }) (free:∀b o,b ∉ ch->s.heap.get? b=some o->H b=none->H' b=none)
  (there:∀b o,b ∉ ch->s.heap.get? b=some o->∃o',h'.get? b=some o')
  (tups:∀b xs,H b=some (.tup xs)->H' b=some (.tup xs)) (frzs:∀b o u,H b=some (.frz o u)->H' b=some (.frz o u)) (tbls:∀b ps,H b=some (.tbl ps)->∃more,H' b=some (.tbl (ps++more)))
  (ns:∀m,s.heap.Ns X.env.locals m->h'.Ns X.env.locals m) (hok:HOk X.prog X.w H' h') (hg:AllBare g') :
  Inv X pins σ H' { s with heap:=h',gens:=g',drawn:=d',toks:=t' }:=by
 have neL:∀b o,X.s₀.heap.get? b=some o->b≠X.env.locals:=fun b o e=>Nat.ne_of_lt (Nat.lt_of_lt_of_le (Heap.lt_size e) I.ok.above)
 have neC:∀b o,X.s₀.heap.get? b=some o->b ∉ X.ex->b ∉ ch:=fun b o e hx hb=>by
  rcases(hch b hb).1 with z|z
  ·exact hx z
  ·exact absurd (Nat.lt_of_lt_of_le (Heap.lt_size e) z) (Nat.lt_irrefl _)
 have cellK:∀x c,X.env.cells.lookup x=some c->∀v,s.heap.IsCell c v->h'.IsCell c v:=fun x c e v ⟨o,ho,hd⟩=>by
  have nch:c ∉ ch:=fun z=>(hch c z).2.2.1 x c e rfl
  by_cases hc:c∈X.fs
  ·obtain⟨sl,q⟩:=slot c o (I.cne x c e) hc nch ho (I.freeC x c e)
   exact⟨_,q,hd⟩
  ·exact⟨o,keep c o (I.cne x c e) hc nch ho (I.freeC x c e),hd⟩
 refine⟨I.ok,I.os,hg,⟨fun b o e n hb hx=>?_,fun b o e n hb hx=>?_,fun b o e n hx=>?_,fun b o e hx=>?_,fun b xs e=>tups b xs (I.base.tups b xs e),fun b o xs e=>frzs b o xs (I.base.frzs b o xs e),fun b ps e=>?_⟩,?_,fun x c e=>?_,?_,fun x c e=>?_,fun p hp=>?_,hok,I.len⟩
 ·exact keep b o (neL b o e) hb (neC b o e hx) (I.base.keep b o e n hb hx) (I.base.free b o e n hx)
 ·obtain⟨sl,e1⟩:=I.base.slot b o e n hb hx
  obtain⟨sl',e2⟩:=slot b _ (neL b o e) hb (neC b o e hx) e1 (I.base.free b o e n hx)
  exact⟨sl',e2⟩
 ·obtain⟨o',e1⟩:=I.base.there b o e hx
  exact free b o' (neC b o e hx) e1 (I.base.free b o e n hx)
 ·obtain⟨o',e1⟩:=I.base.there b o e hx
  exact there b o' (neC b o e hx) e1
 ·obtain⟨m1,e1⟩:=I.base.tbls b ps e
  obtain⟨m2,e2⟩:=tbls b _ e1
  exact⟨m1++m2,by rw[e2,Array.append_assoc]⟩
 ·obtain⟨m,hn,hl⟩:=I.loc
  refine⟨m,ns m hn,fun i x v e1 e2 e3=>?_⟩
  obtain⟨u,r,l⟩:=hl i x v e1 e2 e3
  refine⟨u,r,?_⟩
  rcases l with l|⟨k,c,e,z⟩
  ·exact .inl l
  ·exact .inr ⟨k,c,e,cellK x c e _ z⟩
 ·obtain⟨v,z⟩:=I.cell x c e
  exact⟨v,cellK x c e v z⟩
 ·obtain⟨m,⟨o,_,_,ho,_⟩,_⟩:=I.loc
  exact free _ o (fun z=>(hch _ z).2.1 rfl) ho I.free
 ·obtain⟨v,o,ho,hd⟩:=I.cell x c e
  exact free c o (fun z=>(hch c z).2.2.1 x c e rfl) ho (I.freeC x c e)
 ·obtain⟨e,n,ne,nf,d⟩:=I.pin p hp
  have nch:p.1 ∉ ch:=fun z=>(hch p.1 z).2.2.2 p hp rfl
  exact⟨keep p.1 p.2 ne nf nch e n,free p.1 p.2 nch e n,ne,nf,d⟩
theorem Inv.un{t':Nat}(I:Inv X pins σ H s)(u:Un X.fs [] H H' s.heap h')(hok:HOk X.prog X.w H' h'):Inv X pins σ H' { s with heap:=h',toks:=t' }:=by
 obtain⟨m,⟨o,es,ep,ho,r⟩,_⟩:=id I.loc
 obtain⟨sl,hL⟩:=u.any ho I.free (by simp)
 exact I.step (g':=s.gens) (d':=s.drawn) (ch:=[]) (fun _ z=>nomatch z) (fun b o _ hb _ e n=>u.keep b o e n hb (by simp)) (fun b o _ hb _ e n=>u.slot b o e n hb (by simp)) (fun b o _ e n=>u.free b o e n (by simp)) (fun b o _ e=>u.there b o e (by simp)) u.tups u.frzs u.tbls (fun m' hm=>by
  obtain⟨o',es',ep',ho',r'⟩:=hm
  rw[ho] at ho';cases ho'
  exact⟨_,es',ep',hL,r'⟩) hok I.bare
theorem Inv.call{g':Array GenState}{t':Nat}{d':Drawn}{ch:List Addr}(I:Inv X pins σ H s)(u:Un (frs X.stack) ch H H' s.heap h')(hok:HOk X.prog X.w H' h')(hg:AllBare g')
  (hch:∀b∈ch,(b∈X.ex\/X.s₀.heap.objs.size<=b)/\b≠X.env.locals/\(∀x c,X.env.cells.lookup x=some c->c≠b)/\∀p∈X.pn++pins,p.1≠b) :
  Inv X pins σ H' { s with heap:=h',gens:=g',drawn:=d',toks:=t' }:=by
 obtain⟨m,⟨o,es,ep,ho,r⟩,_⟩:=id I.loc
 obtain⟨sl,hL⟩:=u.any ho I.free fun z=>(hch _ z).2.1 rfl
 exact I.step (ch:=ch) hch (fun b o hL hb hc e n=>u.keep b o e n (fun z=>(List.mem_cons.mp (I.stkSub b z)).elim hL hb) hc) (fun b o _ _ hc e n=>u.any e n hc) (fun b o hc e n=>u.free b o e n hc) (fun b o hc e=>u.there b o e hc) u.tups u.frzs u.tbls (fun m' hm=>by
  obtain⟨o',es',ep',ho',r'⟩:=hm
  rw[ho] at ho';cases ho'
  exact⟨_,es',ep',hL,r'⟩) hok hg
theorem Inv.turned{t':Nat}{it:Addr}(I:Inv X pins σ H s)(k:∀b o,b≠it->s.heap.get? b=some o->h'.get? b=some o)(hn:H it=none)(hL:it≠X.env.locals)
  (h1:it∈X.ex\/X.s₀.heap.objs.size<=it) (h2:∀x c,X.env.cells.lookup x=some c->c≠it) (h3:∀p∈X.pn++pins,p.1≠it):Inv X pins σ H { s with heap:=h',toks:=t' }:=by
 have nit:∀b u,H b=some u->b≠it:=fun b u e z=>by rw[z,hn] at e;cases e
 refine I.step (g':=s.gens) (d':=s.drawn) (ch:=[it]) (fun b hb=>?_) (fun b o _ _ hc e _=>k b o (fun z=>hc (by simp[z])) e) (fun b o _ _ hc e _=>⟨o.slots,k b o (fun z=>hc (by simp[z])) e⟩) (fun _ _ _ _ n=>n)
  (fun b o hc e=>⟨o,k b o (fun z=>hc (by simp[z])) e⟩) (fun _ _ e=>e) (fun _ _ _ e=>e) (fun b ps e=>⟨#[],by rw[e];simp⟩) (fun m hm=>?_) (fun b u e=>?_) I.bare
 ·have e:b=it:=by simpa using hb
  subst e
  exact⟨h1,hL,h2,h3⟩
 ·obtain⟨o,es,ep,ho,r⟩:=hm
  exact⟨o,es,ep,k _ o (Ne.symm hL) ho,r⟩
 ·refine(I.hok b u e).stay (fun c v hc q=>k c v ?_ q) (fun _ q=>q) fun _ _ q=>q
  rcases hc with z|z
  ·rw[z];exact nit b u e
  ·exact nit c _ z
theorem Inv.tok(I:Inv X pins σ H s)(t:Nat):Inv X pins σ H { s with toks:=t }:=I.un (h':=s.heap) (t':=t) Un.refl I.hok
theorem Inv.kept{t':Nat}(I:Inv X pins σ H s)(k:∀b u,s.heap.get? b=some u->h'.get? b=some u):Inv X pins σ H { s with heap:=h',toks:=t' }:=I.un (Un.kept k) (I.hok.kept k)
theorem Inv.laid{a:Addr}{o:HO}{t':Nat}(I:Inv X pins σ H s)(k:∀b u,s.heap.get? b=some u->h'.get? b=some u)(hp:s.heap.objs.size<=a)(new:ObjOk X.prog X.w (upd H a o) h' a o):
  Inv X pins σ (upd H a o) { s with heap:=h',toks:=t' }:=I.un (Un.laid k hp (I.hok.fresh hp)) (I.hok.laid k hp new)
theorem Inv.write{x e:Addr}{o:HO}{t':Nat}(I:Inv X pins σ H s)(mu:Mut (H x))(he:e=x\/H e=some (.own x))(k:∀b u,b≠e->s.heap.get? b=some u->h'.get? b=some u)(heo:∃u,h'.get? e=some u)
  (new:ObjOk X.prog X.w (upd H x o) h' x o):Inv X pins σ (upd H x o) { s with heap:=h',toks:=t' }:=I.un (Un.write mu he k heo) (I.hok.write mu he k heo new)
theorem Inv.weak{σ':List (Option V)}(I:Inv X pins σ H s)(hl:σ'.length=σ.length)(w:∀(i:Nat) v,σ'[i]?=some (some v)->σ[i]?=some (some v)):Inv X pins σ' H s :=
 ⟨I.ok,I.os,I.bare,I.base,let ⟨m,hn,hl'⟩:=I.loc;⟨m,hn,fun i x v e1 e2 e3=>hl' i x v e1 (w i v e2) e3⟩,I.cell,I.free,I.freeC,I.pin,I.hok,hl.trans I.len⟩
theorem Inv.pins_of{pins':List (Addr×Obj)}(I:Inv X pins σ H s)(h:∀p∈pins',s.heap.get? p.1=some p.2/\H p.1=none/\p.1≠X.env.locals/\p.1 ∉ X.fs/\∀v,p.2.data≠.cell v):Inv X pins' σ H s :=
 ⟨I.ok,I.os,I.bare,I.base,I.loc,I.cell,I.free,I.freeC,fun p hp=>(List.mem_append.mp hp).elim (fun z=>I.pin p (List.mem_append_left _ z)) (h p),I.hok,I.len⟩
theorem Mi{N:List Str}(hN:N.Nodup){i j:Nat}{x:Str}(a:N[i]?=some x)(b:N[j]?=some x):i=j:=by
 obtain⟨h1,e1⟩:=List.getElem?_eq_some_iff.mp a
 obtain⟨h2,e2⟩:=List.getElem?_eq_some_iff.mp b
 exact(List.getElem_inj hN).mp (e1.trans e2.symm)
theorem Jw{M:Model}{A:Around}{E:Value->Shared->Prop}{i:Nat}{x:Str}{v:V}{u:Value}{Q:Unit->Shared->Prop}(I:Inv X pins σ H s)(hN:X.N.Nodup)(hi:X.N[i]?=some x)(hx:Loc X.env.scope x)(r:RelV v u)
  (h:∀s',Inv X pins (σ.set i (some v)) H s'->(∃a,Heap.SameBut a s.heap s'.heap/\(a=X.env.locals\/X.env.cells.lookup x=some a))->Q () s') (hf:X.fn x=true\/X.env.scope.names.lookup x=some .local:=by first|exact .inl rfl|exact .inr rfl|assumption):wpAny M A (storeName X.env x u) Q E s:=by
 obtain⟨m,hn,hl⟩:=id I.loc
 have hcls:(X.env.scope.kind==.class || (X.env.scope.kind==.module&&X.env.locals != X.env.globals))=false:=by rw[I.ok.kind];rfl
 have hiσ:i<σ.length:=by rw[I.len];exact(List.getElem?_eq_some_iff.mp hi).1
 have cne:=I.cne
 have tracked:∀{a:Addr} {h':Heap},(∃o,s.heap.get? a=some o/\H a=none)->Heap.SameBut a s.heap h'->HOk X.prog X.w H h':=fun {a h'} ha hs b ob e=>by
  obtain⟨_,_,hfree⟩:=ha
  refine(I.hok b ob e).stay (fun c w' hc q=>(hs.2 c ?_).trans q) (fun _ q=>q) fun _ _ q=>q
  rintro rfl
  rcases hc with rfl|hc
  ·rw[hfree] at e;cases e
  ·rw[hfree] at hc;cases hc
 rcases hx with hk|hk
 ·refine wpAny_storeName_local hk hn (fun h' hn' hs=>?_) hcls
  obtain⟨oL,_,_,hoL,_⟩:=id hn
  refine h _ ⟨I.ok,I.os,I.bare,⟨fun b o e n hb hx=>?_,fun b o e n hb hx=>?_,I.base.free,fun b o e hx=>?_,I.base.tups,I.base.frzs,I.base.tbls⟩,⟨_,hn',fun j y v' e1 e2 e3=>?_⟩,fun y c e=>?_,I.free,I.freeC,fun p hp=>?_,tracked ⟨oL,hoL,I.free⟩ hs,by simpa using I.len⟩ ⟨_,hs,.inl rfl⟩
  ·exact(hs.2 b (Nat.ne_of_lt (Nat.lt_of_lt_of_le (Heap.lt_size e) I.ok.above))).trans (I.base.keep b o e n hb hx)
  ·obtain⟨sl,e1⟩:=I.base.slot b o e n hb hx
   exact⟨sl,(hs.2 b (Nat.ne_of_lt (Nat.lt_of_lt_of_le (Heap.lt_size e) I.ok.above))).trans e1⟩
  ·obtain⟨o',e1⟩:=I.base.there b o e hx
   exact⟨o',(hs.2 b (Nat.ne_of_lt (Nat.lt_of_lt_of_le (Heap.lt_size e) I.ok.above))).trans e1⟩
  ·by_cases hj:j=i
   ·subst hj
    rw[hi] at e1;cases e1
    rw[List.getElem?_set_self hiσ] at e2
    cases e2
    exact⟨u,r,.inl ⟨hk,by simp⟩⟩
   ·rw[List.getElem?_set_ne (Ne.symm hj)] at e2
    obtain⟨u',r',q⟩:=hl j y v' e1 e2 e3
    refine⟨u',r',?_⟩
    rcases q with⟨k,e⟩|⟨k,c,e,z⟩
    ·refine .inl ⟨k,?_⟩
     have:y≠x:=fun e=>hj (Mi hN e1 (e ▸ hi))
     simp[this,e]
    ·exact .inr ⟨k,c,e,z.sameBut hs (cne y c e)⟩
  ·obtain⟨w',z⟩:=I.cell y c e
   exact⟨w',z.sameBut hs (cne y c e)⟩
  ·obtain⟨e,n,ne,nf,d⟩:=I.pin p hp
   exact⟨(hs.2 p.1 ne).trans e,n,ne,nf,d⟩
 ·have hfn:X.fn x=true:=by
   rcases hf with z|z
   ·exact z
   ·rw[z] at hk;cases hk
  obtain⟨c,hc⟩:=I.ok.has x (.inl hk)
  obtain⟨w',z⟩:=I.cell x c hc
  refine wpAny_storeName_cell I.ok.kind hk hc z (fun h' hc' hs=>?_)
  obtain⟨oc,hoc,hocd⟩:=id z
  refine h { s with heap:=h' } ⟨I.ok,I.os,I.bare,⟨fun b o e n hb hx=>?_,fun b o e n hb hx=>?_,I.base.free,fun b o e hx=>?_,I.base.tups,I.base.frzs,I.base.tbls⟩,⟨m,hn.sameBut hs (Ne.symm (cne x c hc)),fun j y v' e1 e2 e3=>?_⟩,fun y c' e=>?_,I.free,I.freeC,fun p hp=>?_,tracked ⟨oc,hoc,I.freeC x c hc⟩ hs,by simpa using I.len⟩ ⟨c,hs,.inr hc⟩
  ·exact(hs.2 b (Nat.ne_of_lt (Nat.lt_of_lt_of_le (Heap.lt_size e) (I.ok.cab x c hfn hc)))).trans (I.base.keep b o e n hb hx)
  ·obtain⟨sl,e1⟩:=I.base.slot b o e n hb hx
   exact⟨sl,(hs.2 b (Nat.ne_of_lt (Nat.lt_of_lt_of_le (Heap.lt_size e) (I.ok.cab x c hfn hc)))).trans e1⟩
  ·obtain⟨o',e1⟩:=I.base.there b o e hx
   exact⟨o',(hs.2 b (Nat.ne_of_lt (Nat.lt_of_lt_of_le (Heap.lt_size e) (I.ok.cab x c hfn hc)))).trans e1⟩
  ·by_cases hj:j=i
   ·subst hj
    rw[hi] at e1;cases e1
    rw[List.getElem?_set_self hiσ] at e2
    cases e2
    exact⟨u,r,.inr ⟨.inl hk,c,hc,hc'⟩⟩
   ·rw[List.getElem?_set_ne (Ne.symm hj)] at e2
    obtain⟨u',r',q⟩:=hl j y v' e1 e2 e3
    refine⟨u',r',?_⟩
    rcases q with q|⟨k,c',e,z'⟩
    ·exact .inl q
    ·refine .inr ⟨k,c',e,z'.sameBut hs ?_⟩
     rintro rfl
     exact hj (Mi hN e1 (I.ok.inj _ _ _ e hc ▸ hi))
  ·by_cases hcc:c'=c
   ·subst hcc;exact⟨_,hc'⟩
   ·obtain⟨w2,z2⟩:=I.cell y c' e
    exact⟨w2,z2.sameBut hs hcc⟩
  ·obtain⟨e,n,ne,nf,d⟩:=I.pin p hp
   refine⟨(hs.2 p.1 ?_).trans e,n,ne,nf,d⟩
   intro q
   rw[q,hoc] at e
   have q':oc=p.2:=Option.some.inj e
   exact d w' (by rw[<-q'];exact hocd)
theorem Mx{M:Model}{A:Around}{E:Value->Shared->Prop}{i:Nat}{x:Str}{v:V}{u:Value}{Q:Unit->Shared->Prop}(I:Inv X pins σ H s)(hN:X.N.Nodup)(hi:X.N[i]?=some x)(hx:Loc X.env.scope x)(r:RelV v u)
  (h:∀s',Inv X pins (σ.set i (some v)) H s'->Q () s') (hf:X.fn x=true\/X.env.scope.names.lookup x=some .local:=by first|exact .inl rfl|exact .inr rfl|assumption):wpAny M A (storeName X.env x u) Q E s :=
 Jw I hN hi hx r (fun s' I' _=>h s' I') hf
theorem Inv.call'{s':Shared}{ch:List Addr}(I:Inv X pins σ H s)(ho:s'.os=s.os)(u:Un (frs X.stack) ch H H' s.heap s'.heap)(hok:HOk X.prog X.w H' s'.heap)(hg:AllBare s'.gens)
  (hch:∀b∈ch,(b∈X.ex\/X.s₀.heap.objs.size<=b)/\b≠X.env.locals/\(∀x c,X.env.cells.lookup x=some c->c≠b)/\∀p∈X.pn++pins,p.1≠b):Inv X pins σ H' s':=by
 obtain⟨h',g',d',t',o'⟩:=s'
 have e:o'=s.os:=ho
 subst e
 exact I.call (g':=g') (t':=t') (d':=d') u hok hg hch
end
abbrev XK:=Value->Option Addr->Hp->Prop
abbrev St:=List (Option V)
abbrev VK:=V->Hp->Prop
abbrev TE:=St->Hp->VK->Prop
abbrev TT:=St->Hp->(Bool->Hp->Prop)->Prop
abbrev TA:=St->Hp->(List V->Hp->Prop)->Prop
structure Ends where
 nx:St->Hp->Prop
 rt:VK
 bk:St->Hp->Prop:=fun _ _=>False
 ct:St->Hp->Prop:=fun _ _=>False
abbrev TS:=Ends->St->Hp->Prop
def EP(X:Cx)(pins:List (Addr×Obj))(σ:St)(Q:VK)(u:Value)(s':Shared):Prop:=∃v H',Inv X pins σ H' s'/\RelV v u/\Q v H'
def TP(X:Cx)(pins:List (Addr×Obj))(σ:St)(Q:Bool->Hp->Prop)(b:Bool)(s':Shared):Prop:=∃H',Inv X pins σ H' s'/\Q b H'
def AP(X:Cx)(pins:List (Addr×Obj))(σ:St)(Q:List V->Hp->Prop)(us:List Value)(s':Shared):Prop:=∃vs H',Inv X pins σ H' s'/\Vals vs us/\Q vs H'
def SP(X:Cx)(pins:List (Addr×Obj))(D:Ends)(f:Flow)(s':Shared):Prop :=
 match f with
 | .next=>∃ σ' H',Inv X pins σ' H' s'/\D.nx σ' H'
 | .brk=>∃ σ' H',Inv X pins σ' H' s'/\D.bk σ' H'
 | .cont=>∃ σ' H',Inv X pins σ' H' s'/\D.ct σ' H'
 | .ret u=>∃v σ' H',Inv X pins σ' H' s'/\RelV v u/\D.rt v H'
def PE(X:Cx)(e:Expr)(t:TE):Prop :=
 ∀(pins:List (Addr×Obj)) (s:Shared) (σ:St) (H:Hp) (Q:VK),Inv X pins σ H s->t σ H Q->wpAny (model X.prog X.w) X.A (eval e X.env) (EP X pins σ Q) X.xe s
def PT(X:Cx)(e:Expr)(t:TT):Prop :=
 ∀(pins:List (Addr×Obj)) (s:Shared) (σ:St) (H:Hp) (Q:Bool->Hp->Prop),Inv X pins σ H s->t σ H Q->wpAny (model X.prog X.w) X.A (isTrue e X.env (eval e X.env)) (TP X pins σ Q) X.xe s
def PW(X:Cx)(e:Expr)(t:TT):Prop :=
 ∀(whole:Sem Value) (pins:List (Addr×Obj)) (s:Shared) (σ:St) (H:Hp) (Q:Bool->Hp->Prop),Inv X pins σ H s->t σ H Q->wpAny (model X.prog X.w) X.A (isTrue e X.env whole) (TP X pins σ Q) X.xe s
theorem PW.pt{X:Cx}{e:Expr}{t:TT}(h:PW X e t):PT X e t:=h _
def PA(X:Cx)(es:List Expr)(t:TA):Prop :=
 ∀(pos:Pos) (pins:List (Addr×Obj)) (s:Shared) (σ:St) (H:Hp) (Q:List V->Hp->Prop),Inv X pins σ H s->t σ H Q->wpAny (model X.prog X.w) X.A (spliced (backTo pos (starEach es X.env))) (AP X pins σ Q) X.xe s
def PS(X:Cx)(st:Stmt)(t:TS):Prop :=
 ∀(pins:List (Addr×Obj)) (s:Shared) (σ:St) (H:Hp) (D:Ends),Inv X pins σ H s->t D σ H->wpAny (model X.prog X.w) X.A (exec st X.env) (SP X pins D) X.xe s
def PSs(X:Cx)(st:List Stmt)(t:TS):Prop :=
 ∀(pins:List (Addr×Obj)) (s:Shared) (σ:St) (H:Hp) (D:Ends),Inv X pins σ H s->t D σ H->wpAny (model X.prog X.w) X.A (execs st X.env) (SP X pins D) X.xe s
theorem thn{α:Type}{t:Sem α}{Q Q':α->Shared->Prop}{M:Model}{A:Around}{E:Value->Shared->Prop}{s:Shared}(h:wpAny M A t Q E s)(hQ:∀a s,Q a s->Q' a s):wpAny M A t Q' E s:=wpAny_mono h hQ fun _ _ x=>x
end L2
namespace L2
open PySem PySem.Spec PyProof.Rows
section
variable{X:Cx}
def tVar(i:Nat):TE:=fun σ H Q=>∃v,σ[i]?=some (some v)/\Q v H
def tC(v:V):TE:=fun _ H Q=>Q v H
theorem Acu{i:Nat}{x:Str}{pos:Pos}(hN:X.N[i]?=some x)(hv:Vis X.env.scope x)(hd:(x==("__debug__":Str))=false:=by decide)(hcd:(x==("__classdict__":Str))=false:=by decide):PE X (.Name x pos) (tVar i):=by
 intro pins s σ H Q I h
 obtain⟨v,e,h⟩:=h
 obtain⟨m,hn,hl⟩:=I.loc
 obtain⟨u,r,l⟩:=hl i x v hN e hv
 have fin:EP X pins σ Q u s:=⟨v,H,I,r,h⟩
 rcases l with⟨hk,hm⟩|⟨hk,c,hc,hcell⟩
 ·exact wpAny_Name (wpAny_loadName_local I.ok.kind hk hn hm fin) hd
 ·rcases hk with hk|hk
  ·exact wpAny_Name (wpAny_loadName_cell I.ok.kind hk hc hcell fin) hd
  ·exact wpAny_Name (wpAny_loadName_free I.ok.kind hk hc hcell fin hcd) hd
theorem Abp{i j pos}:PE X (.Constant (.int i) j pos) (tC (.int i)):=fun _ _ _ H _ I h=>wpAny_Constant_int ⟨.int i,H,I.tok _,⟨_,rfl⟩,h⟩
theorem pe_bl{b j pos}:PE X (.Constant (.bool b) j pos) (tC (.bl b)):=fun _ _ _ H _ I h=>Constant_bool ⟨.bl b,H,I,rfl,h⟩
theorem Aay{j pos}:PE X (.Constant .none j pos) (tC .non):=fun _ _ _ H _ I h=>Constant_none ⟨.non,H,I,rfl,h⟩
theorem Ado{x j pos}:PE X (.Constant (.str x) j pos) (tC (.str x)):=fun _ _ _ H _ I h=>Calls.Constant_str ⟨.str x,H,I.tok _,⟨_,rfl⟩,h⟩
def Gl(X:Cx)(x:Str):Prop:=X.env.kindOf x=some .globalImplicit
theorem Bo{E:Value->Shared->Prop}{pins:List (Addr×Obj)}{s:Shared}{σ:St}{H:Hp}{x:Str}{u:Value}{pos:Pos}{Q:Value->Shared->Prop}(I:Inv X pins σ H s)(hg:Gl X x)(hm:X.mg x=some u)(h:Q u s)
  (hd:(x==("__debug__":Str))=false:=by decide):wpAny (model X.prog X.w) X.A (eval (.Name x pos) X.env) Q E s :=
 Calls.Name_function_global I.ok.kind hg (Calls.loadGlobal_global (by rw[I.ok.glob];exact I.mod.glob.keeps I.bk) hm h) hd
theorem Dg{E:Value->Shared->Prop}{pins:List (Addr×Obj)}{s:Shared}{σ:St}{H:Hp}{x:Str}{u:Value}{pos:Pos}{Q:Value->Shared->Prop}(I:Inv X pins σ H s)(hg:Gl X x)(hm:X.mg x=none)(hv:bootBuiltins x=some u)(h:Q u s)
  (hn:x≠"__name__":=by decide) (hd:(x==("__debug__":Str))=false:=by decide):wpAny (model X.prog X.w) X.A (eval (.Name x pos) X.env) Q E s:=by
 obtain⟨mb,h1,h2⟩:=I.mod.blt
 exact Calls.Name_function_global I.ok.kind hg (Calls.loadGlobal_builtin (by rw[I.ok.glob];exact I.mod.glob.keeps I.bk) hm (by rw[I.ok.blt];exact h1.keeps I.bk) ((h2 x hn).trans hv) h) hd
theorem Ph{x:Str}{v:V}{u:Value}{pos:Pos}(hg:Gl X x)(hm:X.mg x=some u)(r:RelV v u)(hd:(x==("__debug__":Str))=false:=by decide):PE X (.Name x pos) (tC v) :=
 fun _ _ _ H _ I h=>Bo I hg hm ⟨v,H,I,r,h⟩ hd
theorem Y5{x:Str}{v:V}{u:Value}{pos:Pos}(hg:Gl X x)(hm:X.mg x=none)(hv:bootBuiltins x=some u)(r:RelV v u)(hn:x≠"__name__":=by decide)(hd:(x==("__debug__":Str))=false:=by decide):PE X (.Name x pos) (tC v) :=
 fun _ _ _ H _ I h=>Dg I hg hm hv ⟨v,H,I,r,h⟩ hn hd
variable{a b:Expr}{ta tb:TE}{pos:Pos}
def PC(X:Cx)(op:CmpOp)(a b:Expr)(t:TE):Prop :=
 ∀(pins:List (Addr×Obj)) (s:Shared) (σ:St) (H:Hp) (Q:VK),Inv X pins σ H s->t σ H Q →
  wpAny (model X.prog X.w) X.A (eval a X.env) (fun v s₁=>wpAny (model X.prog X.w) X.A (eval b X.env) (fun u s₂=>wpAny (model X.prog X.w) X.A (compareOp op v u) (EP X pins σ Q) X.xe s₂) X.xe s₁) X.xe s
def tB(t:TE):TT:=fun σ H Q=>t σ H fun x H1=>∃c,x=.bl c/\Q c H1
theorem Acj{op:CmpOp}{t:TE}(h:PC X op a b t)(h1:behindInMarks op b=false:=by first|exact nobehind _ (by decide) (by decide)|rfl):PT X (.Compare a [op] [b] pos) (tB t):=by
 intro pins s σ H Q I hw
 refine wpAny_isTrue_Compare1 (thn (h pins s σ H _ I hw) fun v s1 h1=>thn h1 fun u s2 h2=>thn h2 fun c s3 ⟨x,H1,I1,r1,q1⟩=>?_) h1
 obtain⟨d,rfl,q⟩:=q1
 cases r1
 exact wpAny_truthy_bool ⟨H1,I1,q⟩
theorem Aat{e:Expr}{t:TE}(h:PE X e t)(he:∀whole,isTrue e X.env whole=(do let v ← whole;standAt e.pos;holding [v] (truthy v)):=by intro _;rfl):PT X e (tB t):=by
 intro pins s σ H Q I hw
 refine isTrue_plain (thn (h pins s σ H _ I hw) fun v s1 ⟨x,H1,I1,r1,q1⟩=>?_) (he _)
 obtain⟨d,rfl,q⟩:=q1
 cases r1
 exact wpAny_truthy_bool ⟨H1,I1,q⟩
variable{tA tB':TT}{rest:List Expr}
def tAnd(t u:TT):TT:=fun σ H Q=>t σ H fun c H1=>if c=true then u σ H1 Q else Q false H1
def tOr(t u:TT):TT:=fun σ H Q=>t σ H fun c H1=>if c=true then Q true H1 else u σ H1 Q
def tNot(t:TT):TT:=fun σ H Q=>t σ H fun c H1=>Q (!c) H1
theorem W6(ha:PT X a tA):PW X (.BoolOp .And [a] pos) tA:=by
 intro wh pins s σ H Q I h
 refine isTrue_and (thn (ha pins s σ H Q I h) fun c s1 e=>?_)
 cases c with
 |true=>exact isTrue_and_nil e
 |false=>exact e
theorem Acz(ha:PT X a tA):PW X (.BoolOp .Or [a] pos) tA:=by
 intro wh pins s σ H Q I h
 refine isTrue_or (thn (ha pins s σ H Q I h) fun c s1 e=>?_)
 cases c with
 |false=>exact isTrue_or_nil e
 |true=>exact e
theorem Aeb(ha:PT X a tA)(hb:PW X (.BoolOp .And (b::rest) pos) tB'):PW X (.BoolOp .And (a::b::rest) pos) (tAnd tA tB'):=by
 intro wh pins s σ H Q I h
 refine isTrue_and (thn (ha pins s σ H _ I h) fun c s1 ⟨H1,I1,q1⟩=>?_)
 cases c with
 |true=>exact hb wh pins s1 σ H1 Q I1 q1
 |false=>exact⟨H1,I1,q1⟩
theorem pw_or(ha:PT X a tA)(hb:PW X (.BoolOp .Or (b::rest) pos) tB'):PW X (.BoolOp .Or (a::b::rest) pos) (tOr tA tB'):=by
 intro wh pins s σ H Q I h
 refine isTrue_or (thn (ha pins s σ H _ I h) fun c s1 ⟨H1,I1,q1⟩=>?_)
 cases c with
 |true=>exact⟨H1,I1,q1⟩
 |false=>exact hb wh pins s1 σ H1 Q I1 q1
theorem Aed(ha:PT X a tA):PT X (.UnaryOp .Not a pos) (tNot tA):=by
 intro pins s σ H Q I h
 exact isTrue_not (ha pins s σ H (fun c H1=>Q (!c) H1) I h)
def tAndV(ta tb:TE):TE:=fun σ H Q=>ta σ H fun x H1=>∃c,x=.bl c/\if c=true then tb σ H1 Q else Q (.bl false) H1
theorem Abq{op}{t:TE}(h:PE X a t):PE X (.BoolOp op [a] pos) t:=fun pins s σ H Q I hw=>BoolOp_one (h pins s σ H Q I hw)
theorem Abi(ha:PE X a ta)(hb:PE X (.BoolOp .And (b::rest) pos) tb):PE X (.BoolOp .And (a::b::rest) pos) (tAndV ta tb):=by
 intro pins s σ H Q I h
 refine BoolOp_and (thn (ha pins s σ H _ I h) fun v s1 ⟨x,H1,I1,r1,q1⟩=>?_)
 obtain⟨c,rfl,q1⟩:=q1
 cases r1
 refine wpAny_truthy_bool ?_
 cases c with
 |true=>exact hb pins s1 σ H1 Q I1 q1
 |false=>exact⟨.bl false,H1,I1,rfl,q1⟩
def tIf(t:TT)(ta tb:TE):TE:=fun σ H Q=>t σ H fun c H1=>if c=true then ta σ H1 Q else tb σ H1 Q
theorem U3{c:Expr}(hc:PT X c tA)(ha:PE X a ta)(hb:PE X b tb):PE X (.IfExp c a b pos) (tIf tA ta tb):=by
 intro pins s σ H Q I h
 refine wpAny_IfExp (thn (hc pins s σ H _ I h) fun d s1 ⟨H1,I1,q1⟩=>?_)
 cases d with
 |true=>exact ha pins s1 σ H1 Q I1 q1
 |false=>exact hb pins s1 σ H1 Q I1 q1
end
end L2
namespace L2
open PySem PySem.Spec PyProof.Rows
def SqL(K:PySem.W.Frag)(H:Hp)(a:Addr)(xs:List V):Prop :=
 Rd H a (.lst xs) ∨
  ∃(o:Obj) (its:Array Value) (n:Nat),K.lookup a=some o/\o.cls=.type "list"/\o.dict=none/\o.data=.seq its n/\its.size<=sizeLine/\Vals xs its.toList
def SqT(K:PySem.W.Frag)(H:Hp)(a:Addr)(xs:List V):Prop :=
 Rd H a (.tup xs) ∨
  ∃(o:Obj) (its:Array Value) (n:Nat),K.lookup a=some o/\o.cls=.type "tuple"/\o.data=.seq its n/\its.size<=sizeLine/\Vals xs its.toList/\o.dict=none
def absV:Value->Option V
 | .none=>some .non
 | .bool b=>some (.bl b)
 | .int i _=>some (.int i)
 | .str x _=>some (.str x)
 | .bytes b _=>some (.byt b)
 | .float b _=>some (.flt b)
 | .ref a=>some (.ref a)
 | .type n=>some (.ty n)
 |_=>none
theorem RelV.abs{x:V}{u:Value}(r:RelV x u):absV u=some x:=by
 cases x with
 |non=>cases r;rfl
 |bl _=>cases r;rfl
 |int _=>obtain⟨t,rfl⟩:=r;rfl
 |str _=>obtain⟨t,rfl⟩:=r;rfl
 |byt _=>obtain⟨t,rfl⟩:=r;rfl
 |flt _=>obtain⟨t,rfl⟩:=r;rfl
 |ref _=>cases r;rfl
 |ty _=>cases r;rfl
theorem RelV.inj{x y:V}{u:Value}(r:RelV x u)(q:RelV y u):x=y:=Option.some.inj (r.abs.symm.trans q.abs)
theorem Vals.inj:∀{xs ys:List V} {us:List Value},Vals xs us->Vals ys us->xs=ys
 |_,_,_,.nil,.nil=>rfl
 |_,_,_,.cons r t,.cons r' t'=>by rw[r.inj r',Vals.inj t t']
section
variable{X:Cx}{pins:List (Addr×Obj)}{σ:St}{H:Hp}{s:Shared}{a:Addr}{xs ys:List V}
theorem SqL.of{K:PySem.W.Frag}(h:H a=some (.lst xs)):SqL K H a xs:=.inl (.inl h)
theorem Inv.list(I:Inv X pins σ H s)(h:SqL X.K H a xs):∃its:List Value,Vals xs its/\PlainL s.heap a its.toArray/\xs.length<=sizeLine:=by
 rcases h with h|⟨o,its,n,hk,hc,hd,hs,hz,r⟩
 ·obtain⟨z,its,n,r,e⟩:=h.ok I.hok
  exact⟨its,r,⟨_,n,e,rfl,rfl,rfl⟩,z⟩
 ·refine⟨its.toList,r,⟨o,n,I.kIn a o hk,hc,hd,by simpa using hs⟩,?_⟩
  have e:=r.length
  simp only[Array.length_toList] at e
  omega
theorem Inv.tuple(I:Inv X pins σ H s)(h:SqT X.K H a xs):∃its:List Value,Vals xs its/\IsTup s.heap a its.toArray/\xs.length<=sizeLine:=by
 rcases h with h|⟨o,its,n,hk,hc,hs,hz,r,_⟩
 ·obtain⟨z,its,r,p⟩:=h.ok I.hok
  exact⟨its,r,p.isTup,z⟩
 ·refine⟨its.toList,r,⟨o,I.kIn a o hk,hc,n,by simpa using hs⟩,?_⟩
  have e:=r.length
  simp only[Array.length_toList] at e
  omega
theorem Inv.tupN(I:Inv X pins σ H s)(h:SqT X.K H a xs):∃o,s.heap.get? a=some o/\o.cls=.type "tuple"/\o.dict=none:=by
 rcases h with h|⟨o,its,n,hk,hc,hs,hz,r,hd⟩
 ·obtain⟨z,its,r,o,e,c,_,d⟩:=h.ok I.hok
  exact⟨o,e,c,d⟩
 ·exact⟨o,I.kIn a o hk,hc,hd⟩
theorem Inv.list_inj(I:Inv X pins σ H s)(h:SqL X.K H a xs)(h':SqL X.K H a ys):xs=ys:=by
 obtain⟨its,r,⟨o,n,e,_,_,d⟩,_⟩:=I.list h
 obtain⟨its',r',⟨o',n',e',_,_,d'⟩,_⟩:=I.list h'
 rw[e] at e';cases e'
 rw[d] at d'
 injection d' with d1 _
 have:its=its':=by simpa using congrArg Array.toList d1
 subst this
 exact r.inj r'
theorem Inv.tuple_inj(I:Inv X pins σ H s)(h:SqT X.K H a xs)(h':SqT X.K H a ys):xs=ys:=by
 obtain⟨its,r,⟨o,e,_,n,d⟩,_⟩:=I.tuple h
 obtain⟨its',r',⟨o',e',_,n',d'⟩,_⟩:=I.tuple h'
 rw[e] at e';cases e'
 rw[d] at d'
 injection d' with d1 _
 have:its=its':=by simpa using congrArg Array.toList d1
 subst this
 exact r.inj r'
end
abbrev Cx.wish(X:Cx)(E:Value->Shared->Prop):Cx:={ X with xe:=E }
abbrev Cx.nox(X:Cx):Cx:=X.wish fun _ _=>False
theorem Cx.Ok.wish{X:Cx}(ok:X.Ok)(E:Value->Shared->Prop):(X.wish E).Ok :=
 ⟨ok.mod,ok.kind,ok.glob,ok.blt,ok.above,ok.inj,ok.has,ok.cab,ok.hd,ok.frames,ok.stk,ok.exf,ok.bs,ok.bsz,ok.noex,ok.exfs,ok.funs,ok.frf⟩
theorem Cx.Ok.unwish{X:Cx}{E:Value->Shared->Prop}(ok:(X.wish E).Ok):X.Ok :=
 ⟨ok.mod,ok.kind,ok.glob,ok.blt,ok.above,ok.inj,ok.has,ok.cab,ok.hd,ok.frames,ok.stk,ok.exf,ok.bs,ok.bsz,ok.noex,ok.exfs,ok.funs,ok.frf⟩
section
variable{X:Cx}{pins:List (Addr×Obj)}{σ:St}{H:Hp}{s:Shared}{E:Value->Shared->Prop}
theorem Inv.wish(I:Inv X pins σ H s)(E:Value->Shared->Prop):Inv (X.wish E) pins σ H s:=⟨I.ok.wish E,I.os,I.bare,I.base,I.loc,I.cell,I.free,I.freeC,I.pin,I.hok,I.len⟩
theorem Inv.unwish(I:Inv (X.wish E) pins σ H s):Inv X pins σ H s:=⟨I.ok.unwish,I.os,I.bare,I.base,I.loc,I.cell,I.free,I.freeC,I.pin,I.hok,I.len⟩
theorem SP.unwish{D:Ends}{f:Flow}{s':Shared}(h:SP (X.wish E) pins D f s'):SP X pins D f s':=by
 cases f with
 |next=>obtain⟨σ',H',I,q⟩:=h;exact⟨σ',H',I.unwish,q⟩
 |brk=>obtain⟨σ',H',I,q⟩:=h;exact⟨σ',H',I.unwish,q⟩
 |cont=>obtain⟨σ',H',I,q⟩:=h;exact⟨σ',H',I.unwish,q⟩
 |ret u=>obtain⟨v,σ',H',I,r,q⟩:=h;exact⟨v,σ',H',I.unwish,r,q⟩
theorem PSs.nox{st:List Stmt}{t:TS}(h:PSs X.nox st t):PSs X st t:=fun pins s σ H D I hw =>
 wpAny_mono (h pins s σ H D (I.wish _) hw) (fun _ _ q=>q.unwish) fun _ _ z=>False.elim z
end
section
variable{X:Cx}{st:Stmt}{rest:List Stmt}{t u:TS}{e:Expr}{te:TE}{pos:Pos}
def tNext:TS:=fun D σ H=>D.nx σ H
def tSeq(t u:TS):TS:=fun D σ H=>t { D with nx:=u D } σ H
theorem Qc:PSs X [] tNext:=fun _ _ σ H _ I h=>wpAny_execs_nil ⟨σ,H,I,h⟩
theorem Me(h1:PS X st t)(h2:PSs X rest u):PSs X (st::rest) (tSeq t u):=by
 intro pins s σ H D I h
 refine wpAny_execs_cons (thn (h1 pins s σ H { D with nx:=u D } I h) fun f s1 q=>?_)
 cases f with
 |next =>
  obtain⟨σ',H',I',q⟩:=q
  exact h2 pins s1 σ' H' D I' q
 |ret v=>exact q
 |brk=>exact q
 |cont=>exact q
theorem O9(h1:PS X st t):PSs X [st] t:=by
 intro pins s σ H D I h
 refine wpAny_execs_cons (thn (h1 pins s σ H D I h) fun f s1 q=>?_)
 cases f with
 |next=>exact wpAny_execs_nil q
 |ret v=>exact q
 |brk=>exact q
 |cont=>exact q
theorem Inv.quiet{pins:List (Addr×Obj)}{σ:St}{H:Hp}{s:Shared}(I:Inv X pins σ H s):interactive X.env=false:=by simp[interactive,I.ok.kind]
def tDrop(te:TE):TS:=fun D σ H=>te σ H fun _ H1=>D.nx σ H1
theorem P0(he:PE X e te)(hs:swapsWith e none pos.line X.env=pure false:=by rfl):PS X (.Expr e pos) (tDrop te):=by
 intro pins s σ H D I h
 exact wpAny_Expr_any (thn (he pins s σ H _ I h) fun v s1 ⟨x,H1,I1,r1,q1⟩=>⟨σ,H1,I1,q1⟩) I.quiet hs
def tRet(te:TE):TS:=fun D σ H=>te σ H D.rt
theorem Wb(he:PE X e te):PS X (.Return (some e) pos) (tRet te):=by
 intro pins s σ H D I h
 exact wpAny_Return_some (thn (he pins s σ H _ I h) fun v s1 ⟨x,H1,I1,r1,q1⟩=>⟨x,σ,H1,I1,r1,q1⟩)
def tIfS(c:TT)(t u:TS):TS:=fun D σ H=>c σ H fun b H1=>if b=true then t D σ H1 else u D σ H1
theorem Aal{c:Expr}{a b:List Stmt}{tc:TT}(hc:PT X c tc)(ha:PSs X a t)(hb:PSs X b u):PS X (.If c a b pos) (tIfS tc t u):=by
 intro pins s σ H D I h
 refine wpAny_If (thn (hc pins s σ H _ I h) fun d s1 ⟨H1,I1,q1⟩=>?_)
 cases d with
 |true=>exact ha pins s1 σ H1 D I1 q1
 |false=>exact hb pins s1 σ H1 D I1 q1
end
abbrev TG:=V->St->Hp->(St->Hp->Prop)->Prop
abbrev TGs:=List V->St->Hp->(St->Hp->Prop)->Prop
def PG(X:Cx)(target:Expr)(t:TG):Prop :=
 ∀(pins:List (Addr×Obj)) (s:Shared) (σ:St) (H:Hp) (v:V) (u:Value) (Q:St->Hp->Prop),Inv X pins σ H s->RelV v u->t v σ H Q →
  wpAny (model X.prog X.w) X.A (assign target X.env u) (fun _ s'=>∃ σ' H',Inv X pins σ' H' s'/\Q σ' H') X.xe s
def PGs(X:Cx)(ts:List Expr)(t:TGs):Prop :=
 ∀(pins:List (Addr×Obj)) (s:Shared) (σ:St) (H:Hp) (vs:List V) (us:List Value) (Q:St->Hp->Prop),Inv X pins σ H s->Vals vs us->t vs σ H Q →
  wpAny (model X.prog X.w) X.A (assignInOrder ((assignEach ts X.env).map (·.2)) us) (fun _ s'=>∃ σ' H',Inv X pins σ' H' s'/\Q σ' H') X.xe s
abbrev TSet:=V->V->V->Hp->(Hp->Prop)->Prop
def PSet(X:Cx)(t:TSet):Prop :=
 ∀(pins:List (Addr×Obj)) (s:Shared) (σ:St) (H:Hp) (o i v:V) (ov iv u:Value) (Q:Hp->Prop),Inv X pins σ H s->RelV o ov->RelV i iv->RelV v u->t o i v H Q →
  wpAny (model X.prog X.w) X.A (setItem ov iv u) (fun _ s'=>∃H',Inv X pins σ H' s'/\Q H') X.xe s
section
variable{X:Cx}{pos:Pos}
def L5(i:Nat):TG:=fun v σ H Q=>Q (σ.set i (some v)) H
theorem Bv{i:Nat}{x:Str}(hN:X.N.Nodup)(hi:X.N[i]?=some x)(hx:Loc X.env.scope x)(hf:X.fn x=true\/X.env.scope.names.lookup x=some .local:=by first|exact .inl rfl|exact .inr rfl|assumption):PG X (.Name x pos) (L5 i):=by
 intro pins s σ H v u Q I r h
 exact wpAny_assign_Name (Mx I hN hi hx r (fun s' I'=>⟨_,H,I',h⟩) hf)
def gNil:TGs:=fun vs σ H Q=>vs=[]/\Q σ H
def Te(t:TG)(u:TGs):TGs:=fun vs σ H Q=>∃v r,vs=v::r/\t v σ H fun σ' H'=>u r σ' H' Q
theorem K4:PGs X [] gNil:=by
 intro pins s σ H vs us Q I r h
 obtain⟨e,h⟩:=h
 subst e
 cases r
 exact assignInOrder_nil ⟨σ,H,I,h⟩
theorem Ce{e:Expr}{es:List Expr}{t:TG}{u:TGs}(h1:PG X e t)(h2:PGs X es u)
  (hs:(assignEach (e::es) X.env).map (·.2)=assign e X.env::(assignEach es X.env).map (·.2):=by rfl):PGs X (e::es) (Te t u):=by
 intro pins s σ H vs us Q I r h
 obtain⟨v,vr,e1,h⟩:=h
 subst e1
 cases r with
 |cons r rr =>
  rw[hs]
  refine assignInOrder_cons (thn (h1 pins s σ H _ _ _ I r h) fun _ s1 ⟨σ1,H1,I1,q1⟩=>?_)
  exact h2 pins s1 σ1 H1 _ _ Q I1 rr q1
def gTup(K:PySem.W.Frag)(n:Nat)(t:TGs):TG:=fun v σ H Q=>∃a xs,v=.ref a/\SqT K H a xs/\xs.length=n/\t xs σ H Q
theorem Ov{es:List Expr}{k:Nat}{t:TGs}{n:Nat}(hc:X.calm=true)(h:PGs X es t)
  (hn:(assignEach es X.env).length=n:=by rfl) (hst:(assignEach es X.env).findIdx? (·.1)=none:=by rfl):PG X (.Tuple es k pos) (gTup X.K n t):=by
 intro pins s σ H v u Q I r hw
 obtain⟨a,xs,e1,hq,hl,hw⟩:=hw
 subst e1
 cases r
 obtain⟨its,rv,ht,hz⟩:=I.tuple hq
 refine assign_Tuple_tuple (I.ok.hd hc) ht (by simp[hn,<-hl,rv.length]) hst fun h' hx=>?_
 have I1:Inv X pins σ H { s with heap:=h' }:=I.kept (t':=s.toks) fun b o e=>hx b o (Nat.ne_of_lt (Heap.lt_size e)) e
 exact h pins _ σ H xs _ Q I1 (by simpa using rv) hw
def gSub(to ti:TE)(t:TSet):TG:=fun v σ H Q=>to σ H fun o H1=>ti σ H1 fun i H2=>t o i v H2 fun H3=>Q σ H3
theorem Ade{o i:Expr}{to ti:TE}{t:TSet}(ho:PE X o to)(hi:PE X i ti)(hs:PSet X t)
  (ha:∀v,assign (.Subscript o i pos) X.env v=(do
   let ov ← holding [v] (eval o X.env)
   let iv ← holding [v,ov] (eval i X.env)
   standAt pos
   holding [v,ov,iv] (setItem ov iv v)
   release [v,ov,iv] []):=by intro _;rfl):PG X (.Subscript o i pos) (gSub to ti t):=by
 intro pins s σ H v u Q I r h
 rw[ha]
 refine wpAny_bind (wpAny_holding (thn (ho pins s σ H _ I h) fun ov s1 ⟨x,H1,I1,r1,q1⟩=>?_))
 refine wpAny_bind (wpAny_holding (thn (hi pins s1 σ H1 _ I1 q1) fun iv s2 ⟨y,H2,I2,r2,q2⟩=>?_))
 refine wpAny_bind (wpAny_standAt (wpAny_bind (wpAny_holding (thn (hs pins s2 σ H2 x y v ov iv u _ I2 r1 r2 r q2) fun _ s3 ⟨H3,I3,q3⟩=>?_))))
 exact wpAny_release ⟨σ,H3,I3,q3⟩
def tAsg(te:TE)(g:TG):TS:=fun D σ H=>te σ H fun x H1=>g x σ H1 D.nx
theorem Acx{tg e:Expr}{te:TE}{g:TG}(he:PE X e te)(hg:PG X tg g)(hs:swapsWithSole [tg] e pos.line X.env=pure false:=by rfl)(hw:swappedStores [tg] e X.env=pure none:=by rfl)
  (h1:(assignEach [tg] X.env).map (·.2)=[assign tg X.env]:=by rfl):PS X (.Assign [tg] e pos) (tAsg te g):=by
 intro pins s σ H D I h
 refine wpAny_Assign_stores (thn (he pins s σ H _ I h) fun v s1 ⟨x,H1,I1,r1,q1⟩=>?_) hs hw
 rw[h1]
 exact thn (hg pins s1 σ H1 x v _ I1 r1 q1) fun _ s2 q=>q
theorem ps_set{i:Nat}{x:Str}{e:Expr}{te:TE}{pos':Pos}(hN:X.N.Nodup)(hi:X.N[i]?=some x)(hx:Loc X.env.scope x)(he:PE X e te)(hs:swapsWith e (some (.Name x pos')) pos.line X.env=pure false:=by rfl)(hf:X.fn x=true\/X.env.scope.names.lookup x=some .local:=by first|exact .inl rfl|exact .inr rfl|assumption):
  PS X (.Assign [.Name x pos'] e pos) (tAsg te (L5 i)):=by
 intro pins s σ H D I h
 refine wpAny_Assign_Name (thn (he pins s σ H _ I h) fun v s1 ⟨y,H1,I1,r1,q1⟩=>?_) hs
 exact Mx I1 hN hi hx r1 (fun s2 I2=>⟨_,H1,I2,q1⟩) hf
end
section
variable{X:Cx}{pos:Pos}
def Adj(c:TT)(tb:TS):TS:=fun D σ H=>∃W:Nat->St->Hp->Prop,(∃m,W m σ H)/\∀m σ H,W m σ H →
 c σ H fun b H1=>if b=true then ∃N:St->Hp->Prop,(∀ σ' H',N σ' H'->∃m',m'<m/\W m' σ' H')/\tb { D with nx:=N,ct:=N,bk:=D.nx } σ H1 else D.nx σ H1
theorem T2{c:Expr}{body:List Stmt}{tc:TT}{tb:TS}(hp:PassesOwn (model X.prog X.w) X.A X.env X.xe)(hc:PT X c tc)(hb:PSs X body tb):PS X (.While c body [] pos) (Adj tc tb):=by
 intro pins s σ H D I h
 obtain⟨W,⟨m0,w0⟩,turn⟩:=h
 refine wpAny_While (codeAny_whileLoop (fun n s'=>∃ σ' H',Inv X pins σ' H' s'/\W n σ' H') ?_ m0 ⟨σ,H,I,w0⟩)
 rintro n s1 ⟨σ1,H1,I1,w1⟩
 refine wpAny_passesOwn hp (thn (hc pins s1 σ1 H1 _ I1 (turn n σ1 H1 w1)) fun b s2 ⟨H2,I2,q2⟩=>?_)
 cases b with
 |true =>
  obtain⟨N,hN,q2⟩:=q2
  rw[if_pos rfl]
  refine wpAny_passesOwn hp (thn (hb pins s2 σ1 H2 _ I2 q2) fun f s3 q3=>?_)
  cases f with
  |next =>
   obtain⟨σ3,H3,I3,n3⟩:=q3
   obtain⟨m',hm,w3⟩:=hN σ3 H3 n3
   exact⟨m',hm,σ3,H3,I3,w3⟩
  |cont =>
   obtain⟨σ3,H3,I3,n3⟩:=q3
   obtain⟨m',hm,w3⟩:=hN σ3 H3 n3
   exact⟨m',hm,σ3,H3,I3,w3⟩
  |brk=>exact q3
  |ret v=>exact q3
 |false =>
  rw[if_neg Bool.false_ne_true]
  exact wpAny_execs_nil ⟨σ1,H2,I2,q2⟩
end
structure It where
 go:Nat->Hp->Prop
 yld:Nat->Hp->V->Hp->Prop
 stop:Nat->Hp->Prop
def FpOk(X:Cx)(pins:List (Addr×Obj))(H:Hp)(b:Addr):Prop :=
 H b=none/\b≠X.env.locals/\b ∉ X.fs/\(b∈X.ex\/X.s₀.heap.objs.size<=b)/\(∀x c,X.env.cells.lookup x=some c->c≠b)/\∀p∈X.pn++pins,p.1≠b
theorem Inv.fpOk{X:Cx}{pins:List (Addr×Obj)}{σ:St}{H H':Hp}{s:Shared}{b:Addr}(I:Inv X pins σ H s)(hb:s.heap.objs.size<=b)(hn:H' b=none):FpOk X pins H' b:=by
 refine⟨hn,Nat.ne_of_gt (Nat.lt_of_lt_of_le I.lt hb),I.nofs hb,.inr (Nat.le_trans I.sz hb),fun x c e z=>?_,fun p hp z=>?_⟩
 ·obtain⟨v,q⟩:=I.cell x c e
  exact absurd (Nat.lt_of_lt_of_le q.lt (by rw[z];exact hb)) (Nat.lt_irrefl _)
 ·exact absurd (Nat.lt_of_lt_of_le (Heap.lt_size (I.pin p hp).1) (by rw[z];exact hb)) (Nat.lt_irrefl _)
structure Turn(P:Program)(w:World)(K:PySem.W.Frag)(tg:Expr)(J:It)(fp:List Addr)(it:Addr)(tn:Nat->Heap->Prop):Prop where
 mem:it∈fp
 obj:∀i h,tn i h->∀b∈fp,∃o,h.get? b=some o/\∀v,o.data≠.cell v
 keep:∀i h h',tn i h->(∀b∈fp,∀o,h.get? b=some o->h'.get? b=some o)->tn i h'
 item:∀(X:Cx),X.prog=P->X.w=w->X.K=K->X.calm=true->∀(i:Nat) (pins:List (Addr×Obj)) (s:Shared) (σ:St) (H:Hp) (E:Value->Shared->Prop),Inv X pins σ H s->(∀b∈fp,FpOk X pins H b)->tn i s.heap->J.go i H →
  wpAny (model P w) X.A (pyNext (.ref it)) (fun r s1=>∃u,r=some u ∧
   wpAny (model P w) X.A (letOwnedTupleGo tg (.ref it) u) (fun _ s2=>∃x H',Inv X pins σ H' s2/\RelV x u/\J.yld i H x H'/\tn (i+1) s2.heap/\∀b∈fp,H' b=none) E s1) E s
 done:∀(X:Cx),X.prog=P->X.w=w->X.K=K->X.calm=true->∀(i:Nat) (pins:List (Addr×Obj)) (s:Shared) (σ:St) (H:Hp) (E:Value->Shared->Prop),Inv X pins σ H s->(∀b∈fp,FpOk X pins H b)->tn i s.heap->J.stop i H →
  wpAny (model P w) X.A (pyNext (.ref it)) (fun r s1=>r=none/\Inv X pins σ H s1) E s
 self:∀(A:Around) (i:Nat) (s:Shared) (Q:Value->Shared->Prop) (E:Value->Shared->Prop),tn i s.heap->Q (.ref it) s->wpAny (model P w) A (pyIter (.ref it)) Q E s
abbrev TI:=St->Hp->(It->Hp->Prop)->Prop
def PIE(X:Cx)(pins:List (Addr×Obj))(σ:St)(tg:Expr)(R:It->Hp->Prop)(itv:Value)(s2:Shared):Prop :=
 ∃(it:Addr) (fp:List Addr) (tn:Nat->Heap->Prop) (J:It) (H':Hp),itv=.ref it/\Inv X pins σ H' s2/\Turn X.prog X.w X.K tg J fp it tn/\tn 0 s2.heap/\(∀b∈fp,FpOk X pins H' b)/\R J H'
def PI(X:Cx)(tg iter:Expr)(wi:TI):Prop :=
 ∀(pins:List (Addr×Obj)) (s:Shared) (σ:St) (H:Hp) (R:It->Hp->Prop),Inv X pins σ H s->wi σ H R →
  wpAny (model X.prog X.w) X.A (eval iter X.env) (fun v s1=>wpAny (model X.prog X.w) X.A (pyIter v) (PIE X pins σ tg R) X.xe s1) X.xe s
theorem Pe {M:Model} {A:Around} {E:Value->Shared->Prop} {s:Shared} {tg:Expr} {it:Addr} {u:Value} {o:Obj} {n:String} {vs:Array Value} {Q:Unit->Shared->Prop} (ho:s.heap.get? it = some o) (hc:o.cls = .type n) (hd:o.data = .fields vs)
    (hn:["enumerate","zip","dict_itemiterator","dict_reverseitemiterator","odict_iterator","itertools.zip_longest","itertools.pairwise"].contains n = false) (hQ:Q () s):wpAny M A (letOwnedTupleGo tg (.ref it) u) Q E s:=by
  unfold letOwnedTupleGo
  cases tg <;> first
    | exact wpAny_pure hQ
    | (cases u <;> first
        | exact wpAny_pure hQ
        | (refine wpAny_bind (wpAny_load ho ?_)
           rw [hc,hd]
           show wpAny M A (if (["enumerate","zip","dict_itemiterator","dict_reverseitemiterator","odict_iterator","itertools.zip_longest","itertools.pairwise"].contains n && vs[0]? == some (rawInt _)) = true then _ else _) Q E s
           rw [if_neg (by intro h;rw [hn,Bool.false_and] at h;cases h)]
           exact wpAny_pure hQ))
def Itl(K:PySem.W.Frag)(a:Addr):It :=
 ⟨fun i H=>∃xs x,SqL K H a xs/\xs[i]?=some x,fun i H x H'=>H'=H/\∀xs,SqL K H a xs->xs[i]?=some x,fun i H=>∃xs,SqL K H a xs/\xs.length<=i⟩
def Itt(K:PySem.W.Frag)(a:Addr):It :=
 ⟨fun i H=>∃xs x,SqT K H a xs/\xs[i]?=some x,fun i H x H'=>H'=H/\∀xs,SqT K H a xs->xs[i]?=some x,fun i H=>∃xs,SqT K H a xs/\xs.length<=i⟩
def Itr(lo:Int)(n:Nat):It:=⟨fun i _=>i<n,fun i H x H'=>H'=H/\x=.int (lo+i),fun i _=>n<=i⟩
theorem Q8{P:Program}{w:World}{K:PySem.W.Frag}{tg:Expr}(a it:Addr):Turn P w K tg (Itl K a) [it] it (fun i h=>h.IsListIter it a i) where
 mem:=by simp
 obj:=fun i h st b hb=>by
  have e:b=it:=by simpa using hb
  subst e
  obtain⟨o,e,c,d⟩:=st
  exact⟨o,e,fun v z=>by rw[d] at z;cases z⟩
 keep:=fun i h h' st k=>st.at fun o e=>k it (by simp) o e
 item:=by
  intro X hP hw hK hc i pins s σ H E I hf st hg
  subst hP hw hK
  obtain⟨xs,x,hq,hx⟩:=hg
  obtain⟨its,rv,p,hz⟩:=I.list hq
  obtain⟨u,hu,ru⟩:=rv.get hx
  obtain⟨f0,f1,f2,f3,f4,f5⟩:=hf it (by simp)
  refine wpAny_pyNext_list_item st p.isList (x:=u) (by simpa using hu) fun h' st' sb=>?_
  have I1:Inv X pins σ H { s with heap:=h' }:=I.turned (t':=s.toks) (fun b o hb e=>(sb.2 b hb).trans e) f0 f1 f3 f4 f5
  obtain⟨o,e,c,d⟩:=id st'
  exact⟨u,rfl,Pe (s:={ s with heap:=h' }) e c d (by decide) ⟨x,H,I1,ru,⟨rfl,fun ys hy=>by rw[I.list_inj hy hq];exact hx⟩,st',fun b hb=>(hf b hb).1⟩⟩
 done:=by
  intro X hP hw hK hc i pins s σ H E I hf st hg
  subst hP hw hK
  obtain⟨xs,hq,hx⟩:=hg
  obtain⟨its,rv,p,hz⟩:=I.list hq
  obtain⟨f0,f1,f2,f3,f4,f5⟩:=hf it (by simp)
  have hl:=rv.length
  exact wpAny_pyNext_list_end (I.ok.hd hc) st p.isList (by simp;omega) fun h' eb=>⟨rfl,I.turned (t':=s.toks) (fun b o hb e=>eb b o hb e) f0 f1 f3 f4 f5⟩
 self:=fun _ _ _ _ _ st h=>wpAny_pyIter_listiter st h
theorem No{P:Program}{w:World}{K:PySem.W.Frag}{tg:Expr}(a it:Addr):Turn P w K tg (Itt K a) [it] it (fun i h=>h.IsTupleIter it a i) where
 mem:=by simp
 obj:=fun i h st b hb=>by
  have e:b=it:=by simpa using hb
  subst e
  obtain⟨o,e,c,d⟩:=st
  exact⟨o,e,fun v z=>by rw[d] at z;cases z⟩
 keep:=fun i h h' st k=>st.at fun o e=>k it (by simp) o e
 item:=by
  intro X hP hw hK hc i pins s σ H E I hf st hg
  subst hP hw hK
  obtain⟨xs,x,hq,hx⟩:=hg
  obtain⟨its,rv,p,hz⟩:=I.tuple hq
  obtain⟨u,hu,ru⟩:=rv.get hx
  obtain⟨f0,f1,f2,f3,f4,f5⟩:=hf it (by simp)
  refine wpAny_pyNext_tuple_item st (show s.heap.IsTuple a its.toArray from p) (x:=u) (by simpa using hu) fun h' st' sb=>?_
  have I1:Inv X pins σ H { s with heap:=h' }:=I.turned (t':=s.toks) (fun b o hb e=>(sb.2 b hb).trans e) f0 f1 f3 f4 f5
  obtain⟨o,e,c,d⟩:=id st'
  exact⟨u,rfl,Pe (s:={ s with heap:=h' }) e c d (by decide) ⟨x,H,I1,ru,⟨rfl,fun ys hy=>by rw[I.tuple_inj hy hq];exact hx⟩,st',fun b hb=>(hf b hb).1⟩⟩
 done:=by
  intro X hP hw hK hc i pins s σ H E I hf st hg
  subst hP hw hK
  obtain⟨xs,hq,hx⟩:=hg
  obtain⟨its,rv,p,hz⟩:=I.tuple hq
  obtain⟨f0,f1,f2,f3,f4,f5⟩:=hf it (by simp)
  have hl:=rv.length
  exact wpAny_pyNext_tuple_end (I.ok.hd hc) st (show s.heap.IsTuple a its.toArray from p) (by simp;omega) fun h' eb=>⟨rfl,I.turned (t':=s.toks) (fun b o hb e=>eb b o hb e) f0 f1 f3 f4 f5⟩
 self:=fun _ _ _ _ _ st h=>wpAny_pyIter_tupleiter st h
theorem Nf{P:Program}{w:World}{K:PySem.W.Frag}{tg:Expr}(it:Addr)(lo:Int)(n:Nat):Turn P w K tg (Itr lo n) [it] it (fun i h=>IsRangeIter h it (lo+(i:Nat) * 1) ((n:Int) - (i:Nat)) 1) where
 mem:=by simp
 obj:=fun i h st b hb=>by
  have e:b=it:=by simpa using hb
  subst e
  exact⟨_,st,fun v z=>by
   have z':Data.fields _=Data.cell v:=z
   cases z'⟩
 keep:=fun i h h' st k=>k it (by simp) _ st
 item:=by
  intro X hP hw hK hc i pins s σ H E I hf st hg
  subst hP hw hK
  obtain⟨f0,f1,f2,f3,f4,f5⟩:=hf it (by simp)
  have W:=Walks.range (prog:=X.prog) (w:=X.w) (I.ok.hd hc) it lo 1 n
  refine W.item i s _ _ hg st fun v h' tk hv st' kk=>?_
  obtain⟨t,rfl⟩:=hv
  have I1:Inv X pins σ H { s with heap:=h',toks:=tk }:=I.turned (fun b o hb e=>kk b o (by simpa using hb) e) f0 f1 f3 f4 f5
  refine⟨_,rfl,Pe (s:={ s with heap:=h',toks:=tk }) (n:="range_iterator") st' rfl rfl (by decide) ⟨.int (lo+i),H,I1,⟨t,?_⟩,⟨rfl,rfl⟩,st',fun b hb=>(hf b hb).1⟩⟩
  rw[Int.mul_one]
 done:=by
  intro X hP hw hK hc i pins s σ H E I hf st hg
  subst hP hw hK
  obtain⟨f0,f1,f2,f3,f4,f5⟩:=hf it (by simp)
  exact wpAny_pyNext_range_end (I.ok.hd hc) st (by have:n<=i:=hg;omega) fun h' eb=>⟨rfl,I.turned (t':=s.toks) (fun b o hb e=>eb b o hb e) f0 f1 f3 f4 f5⟩
 self:=fun _ _ _ _ _ st h=>wpAny_pyIter_rangeiter st h
end L2
namespace L2
open PySem PySem.Spec PyProof.Rows
section
variable{X:Cx}{tg:Expr}
theorem Vr{pins:List (Addr×Obj)}{σ:St}{H:Hp}{s:Shared}{R:It->Hp->Prop}{E:Value->Shared->Prop}{lo hi:Int}{t u v:Tok}{tk:Nat}(I:Inv X pins σ H s)(h1:-(2 ^ 62)<=lo)(h2:lo<2 ^ 62)(h3:-(2 ^ 62)<=hi)(h4:hi<2 ^ 62)
  (q:R (Itr lo (hi - lo).toNat) H):wpAny (model X.prog X.w) X.A (pyIter (.ref s.heap.objs.size)) (PIE X pins σ tg R) E { s with heap:=s.heap.push { cls:=.type "range",data:=.fields #[.int lo t,.int hi u,.int 1 v] },toks:=tk }:=by
 refine wpAny_pyIter_range (IsRange.new ..) (small_one h1 h2 h3 h4) ?_
 have I1:Inv X pins σ H { s with heap:=s.heap.push { cls:=.type "range",data:=.fields #[.int lo t,.int hi u,.int 1 v] },toks:=tk }:=I.kept fun b o e=>Heap.get?_push_of_some _ e
 refine⟨(s.heap.push { cls:=.type "range",data:=.fields #[.int lo t,.int hi u,.int 1 v] }).objs.size,[(s.heap.push { cls:=.type "range",data:=.fields #[.int lo t,.int hi u,.int 1 v] }).objs.size],_,_,H,rfl,
  I1.kept (t':=tk) fun b o e=>Heap.get?_push_of_some _ e,Nf _ lo (hi - lo).toNat,?_,fun b hb=>?_,q⟩
 ·have e1:lo+((0:Nat):Int) * 1=lo:=by simp
  have e2:(((hi - lo).toNat:Nat):Int) - ((0:Nat):Int)=Builtin.Range.rangeSize lo hi 1:=by rw[rangeSize_one];split <;> omega
  show IsRangeIter _ _ (lo+((0:Nat):Int) * 1) ((((hi - lo).toNat:Nat):Int) - ((0:Nat):Int)) 1
  rw[e1,e2]
  exact Heap.get?_push_size _ rfl
 ·have e:b=(s.heap.push { cls:=.type "range",data:=.fields #[.int lo t,.int hi u,.int 1 v] }).objs.size:=by simpa using hb
  subst e
  exact I1.fpOk (Nat.le_refl _) (I1.hok.fresh (Nat.le_refl _))
def iRng1(ta:TA):TI:=fun σ H R=>ta σ H fun vs H1=>∃j:Int,vs=[.int j]/\-(2 ^ 62)<=j/\j<2 ^ 62/\R (Itr 0 j.toNat) H1
theorem Rs{a:Expr}{ta:TA}{p pos:Pos}(hg:Gl X "range")(hm:X.mg "range"=none)(ha:PA X [a] ta)(hs:starEach [a] X.env=[(false,eval a X.env)]:=by rfl):PI X tg (.Call (.Name "range" p) [a] [] pos) (iRng1 ta):=by
 intro pins s σ H R I h
 refine Call_ (Dg I hg hm boot_range (PyProof.Rows.callWith_type1 (thn (ha pos pins s σ H _ I h) fun us s1 ⟨vs,H1,I1,r1,q1⟩=>?_) hs rfl))
 obtain⟨j,e,q1,q2,q⟩:=q1
 subst e
 cases r1 with
 |cons r rr =>
  cases rr
  obtain⟨t,rfl⟩:=r
  exact call_range_1 (Vr I1 (by omega) (by omega) q1 q2 (by simpa using q))
def tFor(wi:TI)(g:TG)(tb:TS):TS:=fun D σ H=>wi σ H fun J H1=>∃W:Nat->Nat->St->Hp->Prop,(∃m,W 0 m σ H1)/\∀i m σ H,W i m σ H →
 (J.stop i H/\D.nx σ H)\/(J.go i H/\∃N:St->Hp->Prop,(∀ σ' H',N σ' H'->∃m',m'<m/\W (i+1) m' σ' H')/\∀x H',J.yld i H x H'->g x σ H' fun σ2 H2=>tb { D with nx:=N,ct:=N,bk:=D.nx } σ2 H2)
def pinsAt(fp:List Addr)(h:Heap):List (Addr×Obj):=fp.filterMap fun b=>(h.get? b).map fun o=>(b,o)
theorem Do{fp:List Addr}{h:Heap}{b:Addr}{o:Obj}(hb:b∈fp)(e:h.get? b=some o):(b,o)∈pinsAt fp h:=List.mem_filterMap.mpr ⟨b,hb,by rw[e];rfl⟩
theorem Sa{fp:List Addr}{h:Heap}{p:Addr×Obj}(hp:p∈pinsAt fp h):p.1∈fp/\h.get? p.1=some p.2:=by
 obtain⟨b,hb,e⟩:=List.mem_filterMap.mp hp
 cases q:h.get? b with
 |none=>rw[q] at e;cases e
 |some o =>
  rw[q] at e
  have e':(b,o)=p:=Option.some.inj e
  subst e'
  exact⟨hb,q⟩
theorem Inv.pinned{pins:List (Addr×Obj)}{σ:St}{H:Hp}{s:Shared}{fp:List Addr}(I:Inv X pins σ H s)(hf:∀b∈fp,FpOk X pins H b)(ho:∀b∈fp,∃o,s.heap.get? b=some o/\∀v,o.data≠.cell v):Inv X (pins++pinsAt fp s.heap) σ H s :=
 I.pins_of fun p hp=>(List.mem_append.mp hp).elim (fun z=>I.pin p (List.mem_append_right _ z)) fun z=>by
  obtain⟨hb,e⟩:=Sa z
  obtain⟨f0,f1,f2,_⟩:=hf p.1 hb
  obtain⟨o,e',d⟩:=ho p.1 hb
  rw[e] at e';cases e'
  exact⟨e,f0,f1,f2,d⟩
theorem Inv.unpinned{pins pl:List (Addr×Obj)}{σ:St}{H:Hp}{s:Shared}(I:Inv X (pins++pl) σ H s):Inv X pins σ H s:=I.pins_of fun p hp=>I.pin p (List.mem_append_right _ (List.mem_append_left _ hp))
theorem Tx{iter:Expr}{body:List Stmt}{wi:TI}{g:TG}{tb:TS}{pos:Pos}(hp:PassesOwn (model X.prog X.w) X.A X.env X.xe)(hc:X.calm=true)(hi:PI X tg iter wi)(hg:PG X tg g)(hb:PSs X body tb)
  (hs:∀x,foldedSetIterable iter X.env x=pure x:=by intro _;rfl):PS X (.For tg iter body [] pos) (tFor wi g tb):=by
 intro pins s σ H D I h
 refine wpAny_For (thn (hi pins s σ H _ I h) fun v s1 h1=>thn h1 fun itv s2 h2=>?_) hs
 obtain⟨it,fp,tn,J,H2,e,I2,T,st2,f2,W,⟨m0,w0⟩,turn⟩:=h2
 subst e
 have stat:∀{H':Hp},(∀b∈fp,H' b=none)->∀b∈fp,FpOk X pins H' b:=fun hn b hb=>⟨hn b hb,(f2 b hb).2⟩
 refine codeAny_forLoop_any (fun n s'=>∃i σ' H',Inv X pins σ' H' s'/\tn i s'.heap/\(∀b∈fp,H' b=none)/\W i n σ' H') ?_ m0 ⟨0,σ,H2,I2,st2,fun b hb=>(f2 b hb).1,w0⟩
 rintro n s3 ⟨i,σ3,H3,I3,st3,fr3,w3⟩
 rcases turn i n σ3 H3 w3 with⟨stop,qn⟩|⟨go,N,hN,step⟩
 ·refine wpAny_passesOwn hp (thn (T.done X rfl rfl rfl hc i pins s3 σ3 H3 X.xe I3 (stat fr3) st3 stop) fun r s4 ⟨hr,I4⟩=>?_)
  subst hr
  exact wpAny_execs_nil ⟨σ3,H3,I4,qn⟩
 ·refine wpAny_passesOwn hp (thn (T.item X rfl rfl rfl hc i pins s3 σ3 H3 X.xe I3 (stat fr3) st3 go) fun r s4 ⟨u,hr,h4⟩=>?_)
  subst hr
  refine wpAny_passesOwn hp (thn h4 fun _ s5 ⟨x,H5,I5,r5,y5,st5,fr5⟩=>?_)
  have I5':=I5.pinned (stat fr5) (T.obj _ _ st5)
  refine wpAny_passesOwn hp (thn (hg _ s5 σ3 H5 x u _ I5' r5 (step x H5 y5)) fun _ s6 ⟨σ6,H6,I6,q6⟩=>?_)
  refine wpAny_passesOwn hp (thn (hb _ s6 σ6 H6 _ I6 q6) fun f s7 q7=>?_)
  have again:∀{σ7:St} {H7:Hp},Inv X (pins++pinsAt fp s5.heap) σ7 H7 s7->N σ7 H7->∃m,m<n/\∃i σ' H',Inv X pins σ' H' s7/\tn i s7.heap/\(∀b∈fp,H' b=none)/\W i m σ' H':=fun {σ7 H7} I7 n7=>by
   obtain⟨m',hm,w7⟩:=hN σ7 H7 n7
   refine⟨m',hm,i+1,σ7,H7,I7.unpinned,T.keep _ _ _ st5 fun b hb o e=>(I7.pin (b,o) (List.mem_append_right _ (List.mem_append_right _ (Do hb e)))).1,fun b hb=>?_,w7⟩
   obtain⟨o,e,d⟩:=T.obj _ _ st5 b hb
   exact(I7.pin (b,o) (List.mem_append_right _ (List.mem_append_right _ (Do hb e)))).2.1
  cases f with
  |next=>obtain⟨σ7,H7,I7,n7⟩:=q7;exact again I7 n7
  |cont=>obtain⟨σ7,H7,I7,n7⟩:=q7;exact again I7 n7
  |brk=>obtain⟨σ7,H7,I7,q7⟩:=q7;exact⟨σ7,H7,I7.unpinned,q7⟩
  |ret v=>obtain⟨x7,σ7,H7,I7,r7,q7⟩:=q7;exact⟨x7,σ7,H7,I7.unpinned,r7,q7⟩
end
end L2
namespace L2
open PySem PySem.Spec PyProof.Rows
abbrev R2:=V->V->Hp->VK->Prop
def OpR(X:Cx)(f:Value->Value->Sem Value)(r:R2):Prop :=
 ∀(pins:List (Addr×Obj)) (s:Shared) (σ:St) (H:Hp) (x y:V) (v u:Value) (Q:VK),Inv X pins σ H s->RelV x v->RelV y u->r x y H Q →
  wpAny (model X.prog X.w) X.A (f v u) (EP X pins σ Q) X.xe s
def UnR(X:Cx)(f:Value->Sem Value)(r:V->Hp->VK->Prop):Prop :=
 ∀(pins:List (Addr×Obj)) (s:Shared) (σ:St) (H:Hp) (x:V) (v:Value) (Q:VK),Inv X pins σ H s->RelV x v->r x H Q →
  wpAny (model X.prog X.w) X.A (f v) (EP X pins σ Q) X.xe s
def CallR(X:Cx)(f:Value)(r:List V->Hp->VK->Prop):Prop :=
 ∀(pins:List (Addr×Obj)) (s:Shared) (σ:St) (H:Hp) (xs:List V) (us:List Value) (Q:VK),Inv X pins σ H s->Vals xs us->r xs H Q →
  wpAny (model X.prog X.w) X.A (call f us) (EP X pins σ Q) X.xe s
def tOp(r:R2)(ta tb:TE):TE:=fun σ H Q=>ta σ H fun x H1=>tb σ H1 fun y H2=>r x y H2 Q
def tUn(r:V->Hp->VK->Prop)(ta:TE):TE:=fun σ H Q=>ta σ H fun x H1=>r x H1 Q
def rI(C:Int->Int->Prop)(g:Int->Int->V):R2:=fun x y H Q=>∃i j,x=.int i/\y=.int j/\C i j/\Q (g i j) H
def rI0(g:Int->Int->V):R2:=fun x y H Q=>∃i j,x=.int i/\y=.int j/\Q (g i j) H
def rU(g:Int->V):V->Hp->VK->Prop:=fun x H Q=>∃i,x=.int i/\Q (g i) H
section
variable{X:Cx}{a b c:Expr}{ta tb tc:TE}{pos:Pos}
theorem binT(ha:PE X a ta)(hb:PE X b tb){pins:List (Addr×Obj)}{s:Shared}{σ:St}{H:Hp}{R:V->V->Hp->Prop}(I:Inv X pins σ H s)
  (h:ta σ H fun x H1=>tb σ H1 fun y H2=>R x y H2) {Q:Value->Shared->Prop} {f:Value->Value->Sem Value}
  (hf:∀v u s2 x y H2,Inv X pins σ H2 s2->RelV x v->RelV y u->R x y H2->wpAny (model X.prog X.w) X.A (f v u) Q X.xe s2) :
  wpAny (model X.prog X.w) X.A (eval a X.env) (fun v s₁=>wpAny (model X.prog X.w) X.A (eval b X.env) (fun u s₂=>wpAny (model X.prog X.w) X.A (f v u) Q X.xe s₂) X.xe s₁) X.xe s:=by
 refine thn (ha pins s σ H _ I h) fun v s1 ⟨x,H1,I1,r1,q1⟩=>?_
 refine thn (hb pins s1 σ H1 _ I1 q1) fun u s2 ⟨y,H2,I2,r2,q2⟩=>?_
 exact hf v u s2 x y H2 I2 r1 r2 q2
theorem pe_op{op:Operator}{r:R2}(ho:OpR X (binaryOp op) r)(ha:PE X a ta)(hb:PE X b tb):PE X (.BinOp a op b pos) (tOp r ta tb):=by
 intro pins s σ H Q I h
 exact wpAny_BinOp (binT ha hb I h fun v u s2 x y H2 I2 rx ry q=>ho pins s2 σ H2 x y v u Q I2 rx ry q)
theorem pe_un{op:UnaryOp}{r:V->Hp->VK->Prop}(ho:UnR X (unaryOp op) r)(ha:PE X a ta):PE X (.UnaryOp op a pos) (tUn r ta):=by
 intro pins s σ H Q I h
 exact UnaryOp_ (thn (ha pins s σ H _ I h) fun v s1 ⟨x,H1,I1,r1,q1⟩=>ho pins s1 σ H1 x v Q I1 r1 q1)
theorem opI{f:Value->Value->Sem Value}{C:Int->Int->Prop}{g:Int->Int->Int}
  (rule:∀(i j:Int) (t u:Tok) (s:Shared) (Q:Value->Shared->Prop) (E:Value->Shared->Prop),C i j->Q (.int (g i j) s.toks) { s with toks:=s.toks+1 }->wpAny (model X.prog X.w) X.A (f (.int i t) (.int j u)) Q E s) :
  OpR X f (rI C fun i j=>.int (g i j)):=by
 intro pins s σ H x y v u Q I rx ry h
 obtain⟨i,j,rfl,rfl,hc,q⟩:=h
 obtain⟨t,rfl⟩:=rx
 obtain⟨t',rfl⟩:=ry
 exact rule i j t t' s _ _ hc ⟨.int (g i j),H,I.tok _,⟨_,rfl⟩,q⟩
theorem opI0{f:Value->Value->Sem Value}{g:Int->Int->Int}
  (rule:∀(i j:Int) (t u:Tok) (s:Shared) (Q:Value->Shared->Prop) (E:Value->Shared->Prop),Q (.int (g i j) s.toks) { s with toks:=s.toks+1 }->wpAny (model X.prog X.w) X.A (f (.int i t) (.int j u)) Q E s) :
  OpR X f (rI0 fun i j=>.int (g i j)):=by
 intro pins s σ H x y v u Q I rx ry h
 obtain⟨i,j,rfl,rfl,q⟩:=h
 obtain⟨t,rfl⟩:=rx
 obtain⟨t',rfl⟩:=ry
 exact rule i j t t' s _ _ ⟨.int (g i j),H,I.tok _,⟨_,rfl⟩,q⟩
theorem opB0{f:Value->Value->Sem Value}{g:Int->Int->Bool}
  (rule:∀(i j:Int) (t u:Tok) (s:Shared) (Q:Value->Shared->Prop) (E:Value->Shared->Prop),Q (.bool (g i j)) s->wpAny (model X.prog X.w) X.A (f (.int i t) (.int j u)) Q E s) :
  OpR X f (rI0 fun i j=>.bl (g i j)):=by
 intro pins s σ H x y v u Q I rx ry h
 obtain⟨i,j,rfl,rfl,q⟩:=h
 obtain⟨t,rfl⟩:=rx
 obtain⟨t',rfl⟩:=ry
 exact rule i j t t' s _ _ ⟨.bl (g i j),H,I,rfl,q⟩
def CDiv(i j:Int):Prop:=0<j/\j<1073741824
def CMul(i j:Int):Prop:=(-(2 ^ 64)<i/\i<2 ^ 64)\/(-(2 ^ 64)<j/\j<2 ^ 64)
theorem CMul.ok{i j:Int}(h:CMul i j):IntMulOk i j:=by
 rcases h with⟨h1,h2⟩|⟨h1,h2⟩
 ·exact .of_left (intBits_le_64 h1 h2)
 ·exact .of_right (intBits_le_64 h1 h2)
theorem op_add:OpR X (binaryOp .Add) (rI0 fun i j=>.int (i+j)):=opI0 fun _ _ _ _ _ _ _ q=>add_int q
theorem Aby:OpR X (binaryOp .Sub) (rI0 fun i j=>.int (i - j)):=opI0 fun _ _ _ _ _ _ _ q=>sub_int q
theorem Adq:OpR X (binaryOp .Mult) (rI CMul fun i j=>.int (i * j)):=opI fun _ _ _ _ _ _ _ hc q=>mul_int q hc.ok
theorem Z1:OpR X (binaryOp .FloorDiv) (rI CDiv fun i j=>.int (i / j)):=opI fun i j _ _ _ _ _ hc q=>by
 have h1:(0:Int)<j:=hc.1
 have h2:j<1073741824:=hc.2
 exact floordiv_int (by omega) (by rw[Int.fdiv_eq_ediv_of_nonneg i (by omega)];exact q) (.inl (PyProof.noPylong_small (by omega)))
theorem Acs:OpR X (binaryOp .Mod) (rI (fun _ j=>0<j) fun i j=>.int (i % j)):=opI fun i j _ _ _ _ _ hc q=>by
 have h1:(0:Int)<j:=hc
 exact mod_int' (by omega) (by rw[Int.fmod_eq_emod_of_nonneg i (by omega)];exact q)
theorem unI{f:Value->Sem Value}{g:Int->Int}
  (rule:∀(i:Int) (t:Tok) (s:Shared) (Q:Value->Shared->Prop) (E:Value->Shared->Prop),Q (.int (g i) s.toks) { s with toks:=s.toks+1 }->wpAny (model X.prog X.w) X.A (f (.int i t)) Q E s) :
  UnR X f (rU fun i=>.int (g i)):=by
 intro pins s σ H x v Q I rx h
 obtain⟨i,rfl,q⟩:=h
 obtain⟨t,rfl⟩:=rx
 exact rule i t s _ _ ⟨.int (g i),H,I.tok _,⟨_,rfl⟩,q⟩
theorem Abh:UnR X (unaryOp .USub) (rU fun i=>.int (-i)):=unI fun _ _ _ _ _ q=>neg_int q
end
def scal:V->V->Bool
 | .non,.non=>true | .non,.int _=>true | .int _,.non=>true | .non,.bl _=>true | .bl _,.non=>true | .non,.str _=>true | .str _,.non=>true
 | .int _,.int _=>true | .bl _,.bl _=>true | .str _,.str _=>true | .byt _,.byt _=>true
 | .int _,.str _=>true | .str _,.int _=>true | .bl _,.str _=>true | .str _,.bl _=>true
 |_,_=>false
def rEq:R2:=fun x y H Q=>scal x y=true/\Q (.bl (decide (x=y))) H
def rNe:R2:=fun x y H Q=>scal x y=true/\Q (.bl (!decide (x=y))) H
theorem Ld{i j:Int}:decide (V.int i=V.int j)=(i==j):=by
 rw[Bool.eq_iff_iff]
 simp
theorem dec_bl{i j:Bool}:decide (V.bl i=V.bl j)=(i==j):=by
 rw[Bool.eq_iff_iff]
 simp
theorem Pu{i j:Str}:decide (V.str i=V.str j)=(i==j):=by
 rw[Bool.eq_iff_iff]
 simp
theorem Qm{i j:Array UInt8}:decide (V.byt i=V.byt j)=(i.toList==j.toList):=by
 rw[Bool.eq_iff_iff]
 cases i
 cases j
 simp
section
variable{X:Cx}{a b c:Expr}{ta tb tc:TE}{pos:Pos}
theorem Xr{pins:List (Addr×Obj)}{σ:St}{H:Hp}{s:Shared}{Q:VK}{k k':Bool}(I:Inv X pins σ H s)(q:Q (.bl k) H)(e:k=k'):EP X pins σ Q (.bool k') s:=by
 subst e
 exact⟨.bl k,H,I,rfl,q⟩
theorem op_eq:OpR X (compareOp .Eq) rEq:=by
 intro pins s σ H x y v u Q I rx ry h
 obtain⟨hs,q⟩:=h
 cases x with
 |non =>
  cases rx
  cases y with
  |non=>cases ry;exact PySem.EqNone.eq_none_none (Xr I q (by simp))
  |bl j=>cases ry;exact PySem.EqNone.eq_none_bool (Xr I q (by simp))
  |int j=>obtain⟨t',rfl⟩:=ry;exact PySem.EqNone.eq_none_int (Xr I q (by simp))
  |str j=>obtain⟨t',rfl⟩:=ry;exact PySem.EqNone.eq_none_str (Xr I q (by simp))
  |_=>exact absurd (show false=true from hs) Bool.false_ne_true
 |bl i =>
  cases rx
  cases y with
  |non=>cases ry;exact PySem.EqNone.eq_bool_none (Xr I q (by simp))
  |bl j=>cases ry;exact eq_bool (Xr I q dec_bl)
  |str j=>obtain⟨t',rfl⟩:=ry;exact PySem.EqMixed.eq_bool_str (Xr I q (by simp))
  |_=>exact absurd (show false=true from hs) Bool.false_ne_true
 |int i =>
  obtain⟨t,rfl⟩:=rx
  cases y with
  |non=>cases ry;exact PySem.EqNone.eq_int_none (Xr I q (by simp))
  |int j=>obtain⟨t',rfl⟩:=ry;exact eq_int (Xr I q Ld)
  |str j=>obtain⟨t',rfl⟩:=ry;exact PySem.EqMixed.eq_int_str (Xr I q (by simp))
  |_=>exact absurd (show false=true from hs) Bool.false_ne_true
 |str i =>
  obtain⟨t,rfl⟩:=rx
  cases y with
  |non=>cases ry;exact PySem.EqNone.eq_str_none (Xr I q (by simp))
  |bl j=>cases ry;exact PySem.EqMixed.eq_str_bool (Xr I q (by simp))
  |int j=>obtain⟨t',rfl⟩:=ry;exact PySem.EqMixed.eq_str_int (Xr I q (by simp))
  |str j=>obtain⟨t',rfl⟩:=ry;exact eq_str (Xr I q Pu)
  |_=>exact absurd (show false=true from hs) Bool.false_ne_true
 |byt i =>
  obtain⟨t,rfl⟩:=rx
  cases y with
  |byt j=>obtain⟨t',rfl⟩:=ry;exact PySem.W.eq_bytes (Xr I q Qm)
  |_=>exact absurd (show false=true from hs) Bool.false_ne_true
 |_=>cases y <;> exact absurd (show false=true from hs) Bool.false_ne_true
theorem op_ne:OpR X (compareOp .NotEq) rNe:=by
 intro pins s σ H x y v u Q I rx ry h
 obtain⟨hs,q⟩:=h
 cases x with
 |non =>
  cases rx
  cases y with
  |non=>cases ry;exact PySem.EqNone.ne_none_none (Xr I q (by simp))
  |bl j=>cases ry;exact PySem.EqNone.ne_none_bool (Xr I q (by simp))
  |int j=>obtain⟨t',rfl⟩:=ry;exact PySem.EqNone.ne_none_int (Xr I q (by simp))
  |str j=>obtain⟨t',rfl⟩:=ry;exact PySem.EqNone.ne_none_str (Xr I q (by simp))
  |_=>exact absurd (show false=true from hs) Bool.false_ne_true
 |bl i =>
  cases rx
  cases y with
  |non=>cases ry;exact PySem.EqNone.ne_bool_none (Xr I q (by simp))
  |bl j=>cases ry;exact ne_bool (Xr I q (congrArg not dec_bl))
  |str j=>obtain⟨t',rfl⟩:=ry;exact PySem.EqMixed.ne_bool_str (Xr I q (by simp))
  |_=>exact absurd (show false=true from hs) Bool.false_ne_true
 |int i =>
  obtain⟨t,rfl⟩:=rx
  cases y with
  |non=>cases ry;exact PySem.EqNone.ne_int_none (Xr I q (by simp))
  |int j=>obtain⟨t',rfl⟩:=ry;exact ne_int (Xr I q (congrArg not Ld))
  |str j=>obtain⟨t',rfl⟩:=ry;exact PySem.EqMixed.ne_int_str (Xr I q (by simp))
  |_=>exact absurd (show false=true from hs) Bool.false_ne_true
 |str i =>
  obtain⟨t,rfl⟩:=rx
  cases y with
  |non=>cases ry;exact PySem.EqNone.ne_str_none (Xr I q (by simp))
  |bl j=>cases ry;exact PySem.EqMixed.ne_str_bool (Xr I q (by simp))
  |int j=>obtain⟨t',rfl⟩:=ry;exact PySem.EqMixed.ne_str_int (Xr I q (by simp))
  |str j=>obtain⟨t',rfl⟩:=ry;exact ne_str (Xr I q (congrArg not Pu))
  |_=>exact absurd (show false=true from hs) Bool.false_ne_true
 |byt i =>
  obtain⟨t,rfl⟩:=rx
  cases y with
  |byt j=>obtain⟨t',rfl⟩:=ry;exact PySem.W.ne_bytes (Xr I q (congrArg not Qm))
  |_=>exact absurd (show false=true from hs) Bool.false_ne_true
 |_=>cases y <;> exact absurd (show false=true from hs) Bool.false_ne_true
theorem op_lt:OpR X (compareOp .Lt) (rI0 fun i j=>.bl (decide (i<j))):=opB0 fun _ _ _ _ _ _ _ q=>lt_int q
theorem op_le:OpR X (compareOp .LtE) (rI0 fun i j=>.bl (decide (i<=j))):=opB0 fun _ _ _ _ _ _ _ q=>le_int q
theorem Aaa:OpR X (compareOp .Gt) (rI0 fun i j=>.bl (decide (j<i))):=opB0 fun _ _ _ _ _ _ _ q=>gt_int q
theorem Ack:OpR X (compareOp .Is) (fun x y H Q=>y=.non/\Q (.bl (decide (x=.non))) H):=by
 intro pins s σ H x y v u Q I rx ry h
 obtain⟨rfl,q⟩:=h
 cases ry
 refine is_none_gen (Xr I q ?_)
 cases x <;> first
  |(cases rx;rfl)
  |(obtain⟨t,rfl⟩:=rx;rfl)
theorem OpR.or{f:Value->Value->Sem Value}{r r':R2}(h:OpR X f r)(h':OpR X f r'):OpR X f (fun x y H Q=>r x y H Q\/r' x y H Q):=by
 intro pins s σ H x y v u Q I rx ry q
 rcases q with q|q
 ·exact h pins s σ H x y v u Q I rx ry q
 ·exact h' pins s σ H x y v u Q I rx ry q
theorem Dc(b:Expr){op:CmpOp}(h:op≠.In:=by decide)(h2:op≠.NotIn:=by decide):behindInMarks op b=false:=by
 have e1:(op==CmpOp.In)=false:=by cases op <;> first|rfl|exact absurd rfl h
 have e2:(op==CmpOp.NotIn)=false:=by cases op <;> first|rfl|exact absurd rfl h2
 cases b <;> simp[behindInMarks,e1,e2]
theorem W1{op:CmpOp}{r:R2}(ho:OpR X (compareOp op) r)(ha:PE X a ta)(hb:PE X b tb)(hm:behindInMarks op b=false):PE X (.Compare a [op] [b] pos) (tOp r ta tb):=by
 intro pins s σ H Q I h
 exact wpAny_Compare1 (binT ha hb I h fun v u s2 x y H2 I2 rx ry q=>ho pins s2 σ H2 x y v u Q I2 rx ry q) hm
def Tv(t:TE):TT:=fun σ H Q=>t σ H fun x H'=>∃k,x=.bl k/\Q k H'
theorem Z4{op:CmpOp}{r:R2}(ho:OpR X (compareOp op) r)(ha:PE X a ta)(hb:PE X b tb)(hm:behindInMarks op b=false):PT X (.Compare a [op] [b] pos) (Tv (tOp r ta tb)):=by
 intro pins s σ H Q I h
 refine wpAny_isTrue_Compare1 (thn (ha pins s σ H _ I h) fun v s1 ⟨x,H1,I1,r1,q1⟩=>thn (hb pins s1 σ H1 _ I1 q1) fun u s2 ⟨y,H2,I2,r2,q2⟩ =>
  thn (ho pins s2 σ H2 x y v u _ I2 r1 r2 q2) fun c s3 ⟨z,H3,I3,r3,k,e,q3⟩=>?_) hm
 subst e
 cases r3
 exact wpAny_truthy_bool ⟨H3,I3,q3⟩
def Oe(r r':R2)(ta tb tc:TE):TE:=fun σ H Q=>ta σ H fun x H1=>tb σ H1 fun y H2=>r x y H2 fun z H3=>∃k,z=.bl k ∧
 (if k=true then tc σ H3 fun w' H4=>r' y w' H4 Q else Q (.bl false) H3)
theorem U8{op op':CmpOp}{r r':R2}(ho:OpR X (compareOp op) r)(ho':OpR X (compareOp op') r')(ha:PE X a ta)(hb:PE X b tb)(hc:PE X c tc)
  (hm:lastMarks [op,op'] [b,c]=false:=by with_unfolding_all rfl):PE X (.Compare a [op,op'] [b,c] pos) (Oe r r' ta tb tc):=by
 intro pins s σ H Q I h
 refine Compare_chain (thn (ha pins s σ H _ I h) fun v s1 ⟨x,H1,I1,r1,q1⟩=>chain_link (thn (hb pins s1 σ H1 _ I1 q1) fun u s2 ⟨y,H2,I2,r2,q2⟩ =>
  thn (ho pins s2 σ H2 x y v u _ I2 r1 r2 q2) fun d s3 ⟨z,H3,I3,r3,k,e,q3⟩=>?_)) hm
 subst e
 cases r3
 refine wpAny_truthy_bool ?_
 cases k with
 |false=>exact ite_ff ⟨.bl false,H3,I3,rfl,q3⟩
 |true=>exact ite_tt (chain_last (thn (hc pins s3 σ H3 _ I3 q3) fun w' s4 ⟨z',H4,I4,r4,q4⟩=>ho' pins s4 σ H4 y z' u w' Q I4 r2 r4 q4))
theorem Wd{op op':CmpOp}{r r':R2}(ho:OpR X (compareOp op) r)(ho':OpR X (compareOp op') r')(ha:PE X a ta)(hb:PE X b tb)(hc:PE X c tc)
  (hm:lastMarks [op,op'] [b,c]=false:=by with_unfolding_all rfl):PT X (.Compare a [op,op'] [b,c] pos) (Tv (Oe r r' ta tb tc)):=by
 intro pins s σ H Q I h
 refine isTrue_chain (thn (ha pins s σ H _ I h) fun v s1 ⟨x,H1,I1,r1,q1⟩=>test_link (thn (hb pins s1 σ H1 _ I1 q1) fun u s2 ⟨y,H2,I2,r2,q2⟩ =>
  thn (ho pins s2 σ H2 x y v u _ I2 r1 r2 q2) fun d s3 ⟨z,H3,I3,r3,k,e,q3⟩=>?_)) hm
 subst e
 cases r3
 refine wpAny_truthy_bool ?_
 cases k with
 |false =>
  obtain⟨k',e',q'⟩:=q3
  cases e'
  exact ite_ff ⟨H3,I3,q'⟩
 |true =>
  refine ite_tt (test_last (thn (hc pins s3 σ H3 _ I3 q3) fun w' s4 ⟨z',H4,I4,r4,q4⟩=>thn (ho' pins s4 σ H4 y z' u w' _ I4 r2 r4 q4) fun d' s5 ⟨z2,H5,I5,r5,k2,e2,q5⟩=>?_))
  subst e2
  cases r5
  exact wpAny_truthy_bool ⟨H5,I5,q5⟩
theorem F5:(sizeLine:Nat)<2 ^ 63:=by rw[sizeLine_eq];decide
theorem op_add_str:OpR X (binaryOp .Add) (fun x y H Q=>∃i j,x=.str i/\y=.str j/\i.length+j.length<=sizeLine/\Q (.str (i++j)) H):=by
 intro pins s σ H x y v u Q I rx ry h
 obtain⟨i,j,rfl,rfl,hz,q⟩:=h
 obtain⟨t,rfl⟩:=rx
 obtain⟨t',rfl⟩:=ry
 exact add_str (fun t' tk=>⟨.str (i++j),H,I.tok _,⟨_,rfl⟩,q⟩) hz
theorem Ej{x:V}{us:List Value}(r:Vals [x] us):∃u,us=[u]/\RelV x u:=by
 cases r with
 |cons r1 r2=>cases r2;exact⟨_,rfl,r1⟩
theorem Aaj{x y:V}{us:List Value}(r:Vals [x,y] us):∃u w',us=[u,w']/\RelV x u/\RelV y w':=by
 cases r with
 |cons r1 r2 =>
  cases r2 with
  |cons r3 r4=>cases r4;exact⟨_,_,rfl,r1,r3⟩
theorem Fe:CallR X (.type "str") (fun xs H Q=>∃i,xs=[.int i]/\i.natAbs.log2<1920/\Q (.str (toString i)) H):=by
 intro pins s σ H xs us Q I r h
 obtain⟨i,rfl,hz,q⟩:=h
 obtain⟨u,rfl,t,rfl⟩:=Ej r
 exact PySem.P.str_of_int hz ⟨.str _,H,I.tok _,⟨_,rfl⟩,q⟩
end
end L2
namespace L2
open PySem PySem.Spec PyProof.Rows
structure ObjM(h:Heap)(x dx C:Addr)(mA:Str->Option Value):Prop where
 obj:h.get? x=some (PySem.W.instObj C dx)
 ns:h.Ns1 dx mA
 ne:dx≠x
theorem Si{h:Heap}{dx:Addr}{mA:Str->Option Value}(n:h.Ns1 dx mA):∃od,h.get? dx=some od/\∀name,PySem.W.lookIn name od=some (mA name):=by
 obtain⟨o,es,ep,ho,hd,hk,_,hm⟩:=n
 refine⟨o,ho,fun name=>?_⟩
 have e:=hm name
 unfold nsFind findBy at e
 rw[<-Array.find?_toList] at e
 unfold PySem.W.lookIn
 rw[hd]
 dsimp only
 split
 ·rename_i y q
  rw[q] at e
  exact congrArg some e
 ·rename_i q
  rw[q] at e
  have a:es.toList.any (·.refKey)=false:=by
   rw[List.any_eq_false]
   intro y hy
   obtain⟨z,t,hkey⟩:=hk y (Array.mem_toList_iff.mp hy)
   simp[DictEntry.refKey,hkey]
  have a':¬ es.toList.any (·.refKey)=true:=by rw[a];exact Bool.false_ne_true
  rw[if_neg a']
  exact congrArg some e
theorem ObjM.look{h:Heap}{x dx C:Addr}{mA:Str->Option Value}(I:ObjM h x dx C mA):∃od,PySem.W.InstAt h x (PySem.W.instObj C dx) C (some od)/\∀name,PySem.W.lookIn name od=some (mA name) :=
 let ⟨od,ho,hl⟩:=Si I.ns
 ⟨od,⟨I.obj,rfl,rfl,ho⟩,hl⟩
section
variable{prog:Program}{w:World}{A:Around}{E:Value->Shared->Prop}{s:Shared}{K:PySem.W.Frag}{x dx C f:Addr}{mA:Str->Option Value}{name:Str}{v:Value}
theorem Wo{expr:Bool}{Q:Value->Shared->Prop}(X:K.In s.heap)(I:ObjM s.heap x dx C mA)(hg:PySem.W.plainGet K C name=true)(hh:PySem.W.hasDictIn K C=true)
  (ha:PySem.W.findIn K (.ref C) name=some none) (hv:mA name=some v) (hv':PySem.W.handedIn v=true) (h:Q v { s with toks:=s.toks+1 }) :
  wpAny (model prog w) A (getAttr (.ref x) name expr) Q E s:=by
 obtain⟨od,J,hl⟩:=I.look
 exact PySem.W.get_value X J (PySem.W.plainGet_of hg).1 (PySem.W.findObj_own hh ha rfl (by rw[hl,hv])) hv' h
theorem Ts{pl:Sem Bool}{Q:Value×List Value->Shared->Prop}(X:K.In s.heap)(I:ObjM s.heap x dx C mA)(hg:PySem.W.plainGet K C name=true)
  (hf:PySem.W.findIn K (.ref C) name=some (some (.ref f))) (ht:PySem.W.isFn K (.ref f)=true) (hv:mA name=none) (h:Q (.ref f,[.ref x]) s) :
  wpAny (model prog w) A (getMethod (.ref x) name pl) Q E s:=by
 obtain⟨od,J,hl⟩:=I.look
 exact PySem.W.method_fn X J (PySem.W.plainGet_of hg).1 (PySem.W.plainGet_of hg).2 hf (beq_iff_eq.mp ht) (by show (PySem.W.lookIn name od).map (·.isSome)=some false;rw[hl,hv];rfl) h
theorem X5{ns:List Str}{Q:Unit->Shared->Prop}(X:K.In s.heap)(I:ObjM s.heap x dx C mA)
  (hs:PySem.W.findIn K (.ref C) "__setattr__"=some (some (.builtin "object.__setattr__"))) (hp:PySem.W.plainOver K C=true) (ht:PySem.W.takerIn K C name=some none) (hh:PySem.W.hasDictIn K C=true)
  (hw:PySem.Within mA ns) (hsz:ns.length<=sizeLine)
  (h:∀h',ObjM h' x dx C (fun y=>if y=name then some v else mA y)->Heap.SameBut dx s.heap h'->Q () { s with heap:=h',toks:=s.toks+2 }) :
  wpAny (model prog w) A (setAttr (.ref x) name v) Q E s:=by
 obtain⟨od,J,hl⟩:=I.look
 refine PySem.W.set_plain X J hs (PySem.W.osa_open (s:={ s with toks:=s.toks+1 }) (r:=none) X J hp ht fun b=>?_)
 obtain⟨cd,hc,hd'⟩:=PySem.W.any_some hh
 have hx:s.heap.get? x=some ⟨.ref C,some dx,.plain,#[]⟩:=I.obj
 refine wpAny_bind (wpAny_pure (wpAny_bind (wpAny_bind (wpAny_loadPart hx (wpAny_bind (PySem.W.Looks.here (s:={ s with toks:=s.toks+1 }) (PySem.W.looks_clsIn X hc) ?_))))))
 rw[hd']
 refine wpAny_pure (a:=some dx) (wpAny_bind (wpAny_pure (wpAny_bind ?_)))
 refine wpAny_nsSet1 (s:={ s with toks:=s.toks+1 }) I.ns fun h' hn2 hs2=>?_
 obtain⟨oD,esD,epD,hoD,hdD,hcD⟩:=hn2.count (PySem.Within.cons name v hw)
 refine wpAny_bind (wpAny_lookBehind hoD (by rw[hdD];exact pastItsLine_dict (Nat.le_trans hcD (by rw[List.length_cons];omega))) ?_)
 exact wpAny_pure (h _ ⟨(hs2.2 _ (Ne.symm I.ne)).trans I.obj,hn2,I.ne⟩ hs2)
theorem U0{R:Result->Shared->Prop}{vs:List Value}{kw:List (Str×Value)}(X:K.In s.heap)(hm:PySem.W.makesIn K C=true)
  (hi:PySem.W.findIn K (.ref C) "__init__"=some (some (.ref f))) (hf:PySem.W.typeIn K (.ref f)=some (.type "function"))
  (h:codeAny (model prog w) (A.under (.builtin "type.__call__" ⟨.ref C::vs,kw⟩)) (.call (.ref f) ⟨.ref (s.heap.objs.size+1)::vs,kw⟩) (PySem.W.InitBack (s.heap.objs.size+1) R)
   { s with heap:=(s.heap.push PySem.W.emptyDict).push (PySem.W.instObj C s.heap.objs.size) }) :
  codeAny (model prog w) A (.call (.ref C) ⟨vs,kw⟩) R s:=by
 obtain⟨hh,g,d,t,os⟩:=s
 exact PySem.W.make_core (PySem.W.makes_of X hm) (PySem.W.looks_findIn X hi) (fun self=>PySem.W.bind_fn X self hf) (.inl rfl) h
end
def putF(f:Str)(v:V):List (Str×V)->List (Str×V)
 |[]=>[(f,v)]
 |(g,x)::r=>if g=f then (g,v)::r else (g,x)::putF f v r
theorem Go(f g:Str)(v:V):∀fs:List (Str×V),(putF f v fs).lookup g=if g=f then some v else fs.lookup g
 |[]=>by
  show List.lookup g [(f,v)]=_
  by_cases h:g=f
  ·have hb:(g==f)=true:=beq_iff_eq.mpr h
   simp only[List.lookup,hb,if_pos h]
  ·have hb:(g==f)=false:=beq_eq_false_iff_ne.mpr h
   simp only[List.lookup,hb,if_neg h]
 |(k,x)::r=>by
  have ih:=Go f g v r
  rw[show putF f v ((k,x)::r)=(if k=f then (k,v)::r else (k,x)::putF f v r) from rfl]
  by_cases hk:k=f
  ·rw[if_pos hk]
   by_cases h:g=k
   ·have hb:(g==k)=true:=beq_iff_eq.mpr h
    simp only[List.lookup,hb,if_pos (h.trans hk)]
   ·have hb:(g==k)=false:=beq_eq_false_iff_ne.mpr h
    simp only[List.lookup,hb,if_neg (fun e:g=f=>h (e.trans hk.symm))]
  ·rw[if_neg hk]
   by_cases h:g=k
   ·have hb:(g==k)=true:=beq_iff_eq.mpr h
    simp only[List.lookup,hb,if_neg (fun e:g=f=>hk (h.symm.trans e))]
   ·have hb:(g==k)=false:=beq_eq_false_iff_ne.mpr h
    simp only[List.lookup,hb]
    exact ih
theorem F9(f:Str)(v:V):∀fs:List (Str×V),f∈(putF f v fs).map (·.1)/\∀g,g∈fs.map (·.1)->g∈(putF f v fs).map (·.1)
 |[]=>⟨by simp[putF],fun g h=>by simp at h⟩
 |(k,x)::r=>by
  obtain⟨i1,i2⟩:=F9 f v r
  rw[show putF f v ((k,x)::r)=(if k=f then (k,v)::r else (k,x)::putF f v r) from rfl]
  by_cases hk:k=f
  ·rw[if_pos hk]
   subst hk
   exact⟨by simp,fun g h=>by simpa using h⟩
  ·rw[if_neg hk]
   refine⟨?_,fun g h=>?_⟩
   ·rw[List.map_cons]
    exact List.mem_cons_of_mem _ i1
   ·rw[List.map_cons] at h ⊢
    rcases List.mem_cons.mp h with e|e
    ·exact List.mem_cons.mpr (.inl e)
    ·exact List.mem_cons_of_mem _ (i2 g e)
theorem Gw(f:Str)(v:V):∀fs:List (Str×V),(putF f v fs).length<=fs.length+1
 |[]=>by simp[putF]
 |(k,x)::r=>by
  have ih:=Gw f v r
  rw[show putF f v ((k,x)::r)=(if k=f then (k,v)::r else (k,x)::putF f v r) from rfl]
  by_cases hk:k=f
  ·rw[if_pos hk,List.length_cons,List.length_cons];omega
  ·rw[if_neg hk,List.length_cons,List.length_cons];omega
theorem RelO.some_of{v:V}{o:Option Value}(r:RelO (some v) o):∃u,o=some u/\RelV v u:=by
 cases o with
 |none=>exact(show False from r).elim
 |some u=>exact⟨u,rfl,r⟩
theorem RelO.none_of{o:Option Value}(r:RelO none o):o=none:=by
 cases o with
 |none=>rfl
 |some u=>exact(show False from r).elim
theorem Rp{v:V}{u:Value}(r:RelV v u):PySem.W.handedIn u=true:=by
 cases v with
 |non=>cases (show u=Value.none from r);rfl
 |bl b=>cases (show u=Value.bool b from r);rfl
 |int i=>obtain⟨t,e⟩:=(show ∃t,u=Value.int i t from r);cases e;rfl
 |str x=>obtain⟨t,e⟩:=(show ∃t,u=Value.str x t from r);cases e;rfl
 |byt b=>obtain⟨t,e⟩:=(show ∃t,u=Value.bytes b t from r);cases e;rfl
 |flt b=>obtain⟨t,e⟩:=(show ∃t,u=Value.float b t from r);cases e;rfl
 |ref a=>cases (show u=Value.ref a from r);rfl
 |ty n=>cases (show u=Value.type n from r);rfl
section
variable{P:Program}{w:World}{H H':Hp}{h h':Heap}{a C dx:Addr}{fs fs':List (Str×V)}
theorem G4(hok:HOk P w H h)(e:H a=some (.ins C dx fs)):∃mA,ObjM h a dx C mA/\(∀f,RelO (fs.lookup f) (mA f))/\PySem.Within mA (fs.map (·.1))/\fs.length<=1000/\H dx=some (.own a):=by
 obtain⟨d,z,ne,ob,mA,n,r,q⟩:=(show ObjOk P w H h a (.ins C dx fs) from hok a _ e)
 exact⟨mA,⟨ob,n,ne⟩,r,q,z,d⟩
end
structure Cls(K:PySem.W.Frag)(C:Addr):Prop where
 pg:PySem.W.plainGet K C Str.empty=true
 hd:PySem.W.hasDictIn K C=true
 po:PySem.W.plainOver K C=true
 sa:PySem.W.findIn K (.ref C) "__setattr__"=some (some (.builtin "object.__setattr__"))
theorem Cls.get{K:PySem.W.Frag}{C:Addr}(c:Cls K C)(f:Str):PySem.W.plainGet K C f=true:=c.pg
def NoAttr(K:PySem.W.Frag)(C:Addr)(f:Str):Prop:=PySem.W.findIn K (.ref C) f=some none
theorem NoAttr.taker{K:PySem.W.Frag}{C:Addr}{f:Str}(n:NoAttr K C f):PySem.W.takerIn K C f=some none:=by
 unfold PySem.W.takerIn
 rw[show PySem.W.findIn K (.ref C) f=some none from n]
 rfl
structure Meth(K:PySem.W.Frag)(C:Addr)(m:Str)(f:Addr):Prop where
 at_:PySem.W.findIn K (.ref C) m=some (some (.ref f))
 fn:PySem.W.isFn K (.ref f)=true
 kp:PySem.W.keepIn K (.ref f)=true
section
variable{X:Cx}{pins:List (Addr×Obj)}{σ:St}{H:Hp}{s:Shared}{a C dx:Addr}{fs:List (Str×V)}{f:Str}{v:V}{A:Around}{E:Value->Shared->Prop}
theorem Ox{b:Bool}{Q:Value->Shared->Prop}(I:Inv X pins σ H s)(e:H a=some (.ins C dx fs))(c:Cls X.K C)(n:NoAttr X.K C f)(l:fs.lookup f=some v)
  (h:∀u s',Inv X pins σ H s'->RelV v u->Q u s'):wpAny (model X.prog X.w) A (getAttr (.ref a) f b) Q E s:=by
 obtain⟨mA,O,r,_,_,_⟩:=G4 I.hok e
 obtain⟨u,hu,ru⟩:=RelO.some_of (v:=v) (o:=mA f) (by rw[<-l];exact r f)
 exact Wo I.kIn O (c.get f) c.hd n hu (Rp ru) (h u _ (I.tok _) ru)
theorem Ob{m:Str}{g:Addr}{pl:Sem Bool}{Q:Value×List Value->Shared->Prop}(I:Inv X pins σ H s)(e:H a=some (.ins C dx fs))(c:Cls X.K C)(k:Meth X.K C m g)(l:fs.lookup m=none)
  (h:Q (.ref g,[.ref a]) s):wpAny (model X.prog X.w) A (getMethod (.ref a) m pl) Q E s:=by
 obtain⟨mA,O,r,_,_,_⟩:=G4 I.hok e
 have hn:mA m=none:=RelO.none_of (by rw[<-l];exact r m)
 exact Ts I.kIn O (c.get m) k.at_ k.fn hn h
theorem Nd{y:V}{u:Value}{Q:Unit->Shared->Prop}(I:Inv X pins σ H s)(e:H a=some (.ins C dx fs))(c:Cls X.K C)(n:NoAttr X.K C f)(hl:fs.length<1000)(ry:RelV y u)
  (h:∀s',Inv X pins σ (upd H a (.ins C dx (putF f y fs))) s'->Q () s'):wpAny (model X.prog X.w) A (setAttr (.ref a) f u) Q E s:=by
 obtain⟨mA,O,r,wi,_,ho⟩:=G4 I.hok e
 have hz:(fs.map (·.1)).length<=sizeLine:=by rw[List.length_map,sizeLine_eq];omega
 refine X5 I.kIn O c.sa c.po n.taker c.hd wi hz fun h' O' sb=>h _ ?_
 have hd:∃o,h'.get? dx=some o:=let ⟨o,_,_,e',_⟩:=O'.ns;⟨o,e'⟩
 refine I.write (x:=a) (e:=dx) (by rw[e];exact True.intro) (.inr ho) (fun b q hb z=>(sb.2 b hb).trans z) hd ?_
 refine⟨by rw[Xc O.ne];exact ho,?_,O.ne,O'.obj,_,O'.ns,fun g=>?_,fun g hg=>?_⟩
 ·have:=Gw f y fs;omega
 ·show RelO ((putF f y fs).lookup g) (if g=f then some u else mA g)
  rw[Go]
  by_cases q:g=f
  ·rw[if_pos q,if_pos q];exact ry
  ·rw[if_neg q,if_neg q];exact r g
 ·by_cases q:g=f
  ·rw[q];exact(F9 f y fs).1
  ·refine(F9 f y fs).2 g (wi g fun z=>hg ?_)
   show (if g=f then some u else mA g)=none
   rw[if_neg q];exact z
theorem Inv.made(I:Inv X pins σ H s):Inv X pins σ (upd (upd H s.heap.objs.size (.own (s.heap.objs.size+1))) (s.heap.objs.size+1) (.ins C s.heap.objs.size []))
  { s with heap:=(s.heap.push PySem.W.emptyDict).push (PySem.W.instObj C s.heap.objs.size) }:=by
 have e1:(s.heap.push PySem.W.emptyDict).get? s.heap.objs.size=some PySem.W.emptyDict:=Heap.get?_push_size s.heap rfl
 have e2:((s.heap.push PySem.W.emptyDict).push (PySem.W.instObj C s.heap.objs.size)).get? (s.heap.objs.size+1)=some (PySem.W.instObj C s.heap.objs.size):=by
  have:=Heap.get?_push_size (s.heap.push PySem.W.emptyDict) (o:=PySem.W.instObj C s.heap.objs.size) rfl
  rwa [Heap.size_push] at this
 have e3:(s.heap.push PySem.W.emptyDict).Ns s.heap.objs.size (fun _=>none):=⟨PySem.W.emptyDict,#[],_,e1,rfl,(fun e he=>absurd he (by simp)),fun _=>rfl⟩
 have I1:=I.laid (a:=s.heap.objs.size) (o:=.own (s.heap.objs.size+1)) (h':=s.heap.push PySem.W.emptyDict) (t':=s.toks) (fun b u q=>Heap.get?_push_of_some _ q) (Nat.le_refl _) ⟨_,e1⟩
 refine I1.laid (a:=s.heap.objs.size+1) (o:=.ins C s.heap.objs.size []) (t':=s.toks) (fun b u q=>Heap.get?_push_of_some _ q) (Nat.le_of_eq (Heap.size_push _ _)) ?_
 have ne:s.heap.objs.size≠s.heap.objs.size+1:=Nat.ne_of_lt (Nat.lt_succ_self _)
 refine⟨by rw[Xc ne,A4],Nat.zero_le _,ne,e2,fun _=>none,(Heap.Ns1.of_empty e3).at fun o q=>Heap.get?_push_of_some _ q,fun _=>True.intro,fun y hy=>absurd rfl hy⟩
theorem Yz{prog:Program}{w:World}{env:Env}{e:Expr}{f:Str}{pos:Pos}{s:Shared}{Q:Value->Shared->Prop}(hb:attributeBase e f env (eval e env)=eval e env)
  (h:wpAny (model prog w) A (eval e env) (fun o s₁=>wpAny (model prog w) A (getAttr o f true) Q E s₁) E s):wpAny (model prog w) A (eval (.Attribute e f pos) env) Q E s :=
 Attribute_any_ h (by rw[arm_eval_Attribute,hb])
end
def tFld(K:PySem.W.Frag)(ta:TE)(f:Str):TE:=fun σ H Q=>ta σ H fun x H1=>∃a C dx fs v,x=.ref a/\H1 a=some (.ins C dx fs)/\Cls K C/\NoAttr K C f/\fs.lookup f=some v/\Q v H1
def sFld(K:PySem.W.Frag)(ta tv:TE)(f:Str):TS:=fun D σ H=>tv σ H fun y H1=>ta σ H1 fun x H2=>∃a C dx fs,x=.ref a/\H2 a=some (.ins C dx fs)/\Cls K C/\NoAttr K C f/\fs.length<1000 ∧
 D.nx σ (upd H2 a (.ins C dx (putF f y fs)))
section
variable{X:Cx}{o e value:Expr}{f:Str}{pos pos' tpos:Pos}{ta tv:TE}
theorem Abc(he:PE X e ta)(hb:attributeBase e f X.env (eval e X.env)=eval e X.env):PE X (.Attribute e f pos) (tFld X.K ta f):=by
 intro pins s σ H Q I h
 refine Yz hb (thn (he pins s σ H _ I h) fun u s1 ⟨x,H1,I1,rx,a,C,dx,fs,v,ex,ea,c,n,l,q⟩=>?_)
 subst ex
 obtain rfl:u=Value.ref a:=rx
 exact Ox I1 ea c n l fun u' s2 I2 ru=>⟨v,H1,I2,ru,q⟩
theorem Adn(ha:PE X o ta)(hv:PE X value tv)(hs:swapsWith value (some (.Attribute o f pos')) pos.line X.env=pure false):PS X (.Assign [.Attribute o f pos'] value pos) (sFld X.K ta tv f):=by
 intro pins s σ H D I h
 refine plainObj_wpAny_Assign_Attribute (thn (hv pins s σ H _ I h) fun u s1 ⟨y,H1,I1,ry,q⟩=>thn (ha pins s1 σ H1 _ I1 q) fun ov s2 ⟨x,H2,I2,rx,a,C,dx,fs,ex,ea,c,n,l,q2⟩=>?_) hs
 subst ex
 obtain rfl:ov=Value.ref a:=rx
 exact Nd I2 ea c n l ry fun s3 I3=>⟨σ,_,I3,q2⟩
end
section
variable{X:Cx}{pins:List (Addr×Obj)}{σ:St}{H:Hp}{s:Shared}{A:Around}{E:Value->Shared->Prop}{Q:Value->Shared->Prop}{c:Value}{b:Bool}
inductive TyOf(K:PySem.W.Frag)(H:Hp):V->Value->Prop where
 |non:TyOf K H .non (.type "NoneType")
 |bl (x:Bool):TyOf K H (.bl x) (.type "bool")
 |int (i:Int):TyOf K H (.int i) (.type "int")
 |str (x:Str):TyOf K H (.str x) (.type "str")
 |flt (x:UInt64):TyOf K H (.flt x) (.type "float")
 |lst {a:Addr} {xs:List V} (e:H a=some (.lst xs)):TyOf K H (.ref a) (.type "list")
 |frz {a:Addr} {o:Obj} {xs:List V} (e:H a=some (.frz o (.lst xs))):TyOf K H (.ref a) (.type "list")
 |tup {a:Addr} {xs:List V} (e:H a=some (.tup xs)):TyOf K H (.ref a) (.type "tuple")
 |dK {a:Addr} {kvs:List (Key×V)} (e:H a=some (.dK kvs)):TyOf K H (.ref a) (.type "dict")
 |dT {a:Addr} {kvs:List (List Key×V)} (e:H a=some (.dT kvs)):TyOf K H (.ref a) (.type "dict")
 |ins {a C dx:Addr} {fs:List (Str×V)} (e:H a=some (.ins C dx fs)) (cl:Cls K C) (ha:PySem.W.findIn K (.ref C) "__class__"=some (some (.builtin "object.__class__")))
   (hn:PySem.W.specialIn K (.builtin "object.__class__") "__get__"=some (some (.builtin "getset_descriptor.__get__"))) (htk:PySem.W.takesIn K (.builtin "object.__class__")=some true)
   (hm:PySem.W.mroIn K C (.type "object")=some true):TyOf K H (.ref a) (.ref C)
end
end L2
namespace L2
open PySem PySem.Spec PyProof.Rows
structure Room(k:Nat)(A:Around):Prop where
 hd:A.handled=none
 dp:A.depth+3 * k+5<recursionLimit
 un:A.units+16 * k+200<cLine
theorem Room.mono{j k:Nat}{A:Around}(r:Room k A)(h:j<=k):Room j A:=⟨r.hd,by have:=r.dp;omega,by have:=r.un;omega⟩
theorem Room.deeper{k:Nat}{A:Around}(r:Room (k+1) A)(env:Env):Room k (A.deeper env) :=
 ⟨r.hd,by have:=r.dp;show A.depth+1+3 * k+5<_;omega,by have:=r.un;show A.units+3+16 * k+200<_;omega⟩
theorem Oc{A:Around}{C:Addr}{us:List Value}{kw:List (Str×Value)}:(A.under (.builtin "type.__call__" ⟨.ref C::us,kw⟩)).depth=A.depth+1:=by
 first|rfl|simp[Around.under,Code.weight,Code.isCreation,Code.isGuard,Code.isCaller,Code.frames,Code.isFrame,guardIds]
theorem Nw{A:Around}{C:Addr}{us:List Value}{kw:List (Str×Value)}:(A.under (.builtin "type.__call__" ⟨.ref C::us,kw⟩)).units=A.units+1:=by
 first|rfl|simp[Around.under,Code.cUnits,Code.frames,Code.isFrame]
theorem Room.make{k:Nat}{A:Around}(r:Room (k+1) A)(C:Addr)(us:List Value)(kw:List (Str×Value)):Room k (A.under (.builtin "type.__call__" ⟨.ref C::us,kw⟩)) :=
 ⟨r.hd,by have:=r.dp;rw[Oc];omega,by have:=r.un;rw[Nw];omega⟩
theorem Room.depth{k:Nat}{A:Around}(r:Room k A):A.depth<recursionLimit:=by have:=r.dp;omega
theorem Room.units{k:Nat}{A:Around}(r:Room k A):A.units+64<cLine:=by have:=r.un;omega
theorem Room.units0{k:Nat}{A:Around}(r:Room k A):A.units<cLine:=by have:=r.un;omega
def tNil:TA:=fun _ H Q=>Q [] H
def tCons(ta:TE)(tr:TA):TA:=fun σ H Q=>ta σ H fun x H1=>tr σ H1 fun xs H2=>Q (x::xs) H2
section
variable{X:Cx}{e:Expr}{es:List Expr}{te:TE}{t:TA}{pos:Pos}
theorem Aax:PA X [] tNil:=fun _ _ _ _ H Q I h=>Calls.spliced_nil ⟨[],H,I,.nil,h⟩
theorem Yy(ha:PE X e te)(hr:PA X es t)(hs:starEach (e::es) X.env=(false,eval e X.env)::starEach es X.env:=by rfl):PA X (e::es) (tCons te t):=by
 intro pos pins s σ H Q I h
 rw[hs]
 show wpAny _ _ (spliced ((false,eval e X.env)::backTo pos (starEach es X.env))) _ _ s
 refine Calls.spliced_cons (thn (ha pins s σ H _ I h) fun u s1 ⟨x,H1,I1,r1,q1⟩=>?_)
 exact thn (hr pos pins s1 σ H1 _ I1 q1) fun us s2 ⟨xs,H2,I2,r2,q2⟩=>⟨x::xs,H2,I2,.cons r1 r2,q2⟩
def tTup(t:TA):TE:=fun σ H Q=>t σ H fun xs H1=>xs.length<=sizeLine/\∀p,H1 p=none->Q (.ref p) (upd H1 p (.tup xs))
def tLst(t:TA):TE:=fun σ H Q=>t σ H fun xs H1=>xs.length<=sizeLine/\∀p,H1 p=none->Q (.ref p) (upd H1 p (.lst xs))
theorem Abv{x1}(h:PA X es t):PE X (.Tuple es x1 pos) (tTup t):=by
 intro pins s σ H Q I hq
 refine wpAny_Tuple_spliced (thn (h pos pins s σ H _ I hq) fun us s1 ⟨xs,H1,I1,r,z,q⟩=>⟨by rw[<-r.length];exact z,?_⟩)
 have hf:H1 s1.heap.objs.size=none:=I1.hok.fresh (Nat.le_refl _)
 refine⟨.ref s1.heap.objs.size,upd H1 s1.heap.objs.size (.tup xs),I1.laid (t':=s1.toks) (fun b u e=>Heap.get?_push_of_some _ e) (Nat.le_refl _) ?_,rfl,q _ hf⟩
 exact⟨z,us,r,TupN.new _ _⟩
theorem U1(h:PA X es t):PE X (.List es pos) (tLst t):=by
 intro pins s σ H Q I hq
 refine wpAny_List_spliced (thn (h pos pins s σ H _ I hq) fun us s1 ⟨xs,H1,I1,r,z,q⟩=>⟨by rw[<-r.length];exact z,?_⟩)
 have hf:H1 s1.heap.objs.size=none:=I1.hok.fresh (Nat.le_refl _)
 refine⟨.ref s1.heap.objs.size,upd H1 s1.heap.objs.size (.lst xs),I1.laid (t':=s1.toks) (fun b u e=>Heap.get?_push_of_some _ e) (Nat.le_refl _) ?_,rfl,q _ hf⟩
 exact⟨z,us,0,r,Heap.get?_push_size _ rfl⟩
end
abbrev Sp:=List V->Hp->VK->XK->Prop
abbrev CXT:=List Env->Hp->Shared->XK->Value->Shared->Prop
structure Env0(P:Program)(w:World)(K:PySem.W.Frag)(mg:Str->Option Value)(base:Heap)(A:Around)(outer:List Env)(s:Shared)(H:Hp):Prop where
 frames:A.frames=some outer
 mod:Mod K mg base
 bs:∀b o,base.get? b=some o->s.heap.get? b=some o/\H b=none
 bsz:base.objs.size<=s.heap.objs.size
 funs:s.heap.FunFrames base outer
 frf:∀b∈frs outer,H b=none
 hok:HOk P w H s.heap
 bare:AllBare s.gens
def CE(outer:List Env)(P:Program)(w:World)(H:Hp)(s:Shared)(Q:VK)(u:Value)(s':Shared):Prop :=
 ∃v H',s'.os=s.os/\AllBare s'.gens/\Un (frs outer) [] H H' s.heap s'.heap/\HOk P w H' s'.heap/\RelV v u/\Q v H'
def CR(CX:CXT)(outer:List Env)(P:Program)(w:World)(H:Hp)(s:Shared)(Q:VK)(E:XK)(r:Result)(s':Shared):Prop :=
 match r with
 | .ok (.ret u)=>CE outer P w H s Q u s'
 | .ok _=>False
 | .error e=>CX outer H s E e s'
structure FnOk(P:Program)(w:World)(K:PySem.W.Frag)(mg:Str->Option Value)(base:Heap)(CX:CXT)(k:Nat)(f:Addr)(fd:FuncData)(ps:List Str)(sp:Sp):Prop where
 len:∀vs H Q E,sp vs H Q E->vs.length=ps.length
 run:∀(A:Around) (outer:List Env) (s:Shared) (H:Hp) (args:Args) (us:List Value) (vs:List V) (Q:VK) (E:XK),Room k A->Env0 P w K mg base A outer s H->BindsTo s fd args (ps.zip us)->Vals vs us->sp vs H Q E →
  codeAny (model P w) A (.call (.ref f) args) (CR CX outer P w H s Q E) s
theorem FnOk.mono{P:Program}{w:World}{K:PySem.W.Frag}{mg:Str->Option Value}{base:Heap}{CX:CXT}{j k:Nat}{f:Addr}{fd:FuncData}{ps:List Str}{sp:Sp}(F:FnOk P w K mg base CX j f fd ps sp)(h:j<=k):
  FnOk P w K mg base CX k f fd ps sp:=⟨F.len,fun A outer s H args us vs Q E hr=>F.run A outer s H args us vs Q E (hr.mono h)⟩
theorem Env0.make{P:Program}{w:World}{K:PySem.W.Frag}{mg:Str->Option Value}{base:Heap}{A:Around}{outer:List Env}{s:Shared}{H:Hp}(e:Env0 P w K mg base A outer s H)(C:Addr)(us:List Value)(kw:List (Str×Value)):
  Env0 P w K mg base (A.under (.builtin "type.__call__" ⟨.ref C::us,kw⟩)) outer s H:=⟨by first|exact e.frames|(simpa [Around.under,Code.envs,Code.isFrame,pushEnvs] using e.frames),e.mod,e.bs,e.bsz,e.funs,e.frf,e.hok,e.bare⟩
section
variable{X:Cx}{pins:List (Addr×Obj)}{σ:St}{H:Hp}{s s':Shared}
theorem Inv.env0(I:Inv X pins σ H s):Env0 X.prog X.w X.K X.mg X.base X.A X.stack s H :=
 ⟨I.ok.frames,I.ok.mod,I.bs,Nat.le_trans I.ok.bsz I.sz,I.stack,I.stkFree,I.hok,I.bare⟩
theorem Inv.after{Q:VK}{u:Value}(I:Inv X pins σ H s)(h:CE X.stack X.prog X.w H s Q u s'):EP X pins σ Q u s':=by
 obtain⟨v,H',os,bare,un,hok,r,q⟩:=h
 obtain⟨hh,g,d,t,os'⟩:=s'
 obtain rfl:os'=s.os:=os
 exact⟨v,H',I.call (h':=hh) (g':=g) (d':=d) (t':=t) (ch:=[]) un hok bare (fun b z=>absurd z (by simp)),r,q⟩
end
def tCall(sp:Sp)(dvs:List V)(E:XK)(t:TA):TE:=fun σ H Q=>t σ H fun vs H1=>sp (vs++dvs) H1 Q E
def tMeth(C:Addr)(m:Str)(sp:Sp)(dvs:List V)(E:XK)(ta:TE)(t:TA):TE:=fun σ H Q=>ta σ H fun x H1=>∃a dx fs,x=.ref a/\H1 a=some (.ins C dx fs)/\fs.lookup m=none ∧
 t σ H1 fun vs H2=>sp (x::(vs++dvs)) H2 Q E
def tMake(C:Addr)(sp:Sp)(dvs:List V)(E:XK)(t:TA):TE:=fun σ H Q=>t σ H fun vs H1=>∀x dx,H1 x=none->H1 dx=none->dx≠x →
 sp (.ref x::(vs++dvs)) (upd (upd H1 dx (.own x)) x (.ins C dx [])) (fun v H2=>v=.non/\Q (.ref x) H2) E
def Binds(K:PySem.W.Frag)(fd:FuncData)(ps:List Str)(ds:List Value):Prop :=
 ∀(s:Shared) (us:List Value),K.In s.heap->(us++ds).length=ps.length->BindsTo s fd ⟨us,[]⟩ (ps.zip (us++ds))
theorem Binds.all{K:PySem.W.Frag}{fd:FuncData}{ps:List Str}(h:∀us:List Value,us.length=ps.length->bindArgs fd ⟨us,[]⟩=pure (ps.zip us)):Binds K fd ps []:=fun s us _ hl=>by
 rw[List.append_nil] at hl ⊢
 exact .of_eq (h us hl)
def Dn(CX:CXT)(X:Cx)(E:XK):Prop:=∀(pins:List (Addr×Obj)) (σ:St) (H:Hp) (s:Shared) (e:Value) (s':Shared),Inv X pins σ H s->CX X.stack H s E e s'->X.xe e s'
section
variable{X:Cx}{CX:CXT}{k:Nat}{f C:Addr}{fd:FuncData}{ps:List Str}{sp:Sp}{dvs:List V}{ds:List Value}{E:XK}{x m:Str}{p pos apos:Pos}{e o:Expr}{es:List Expr}{ta:TE}{t:TA}
theorem Vz{pins:List (Addr×Obj)}{σ:St}{H:Hp}{s:Shared}{Q:VK}{us:List Value}{vs:List V}(F:FnOk X.prog X.w X.K X.mg X.base CX k f fd ps sp)(hr:Room k X.A)(hb:Binds X.K fd ps ds)(hd:Vals dvs ds)(hx:Dn CX X E)
  (I:Inv X pins σ H s) (r:Vals vs us) (h:sp (vs++dvs) H Q E):wpAny (model X.prog X.w) X.A (call (.ref f) us) (EP X pins σ Q) X.xe s:=by
 have r2:Vals (vs++dvs) (us++ds):=r.append hd
 have hl:(us++ds).length=ps.length:=by rw[<-r2.length];exact F.len _ _ _ _ h
 refine wpAny_call (codeAny_mono (F.run X.A X.stack s H ⟨us,[]⟩ (us++ds) (vs++dvs) Q E hr I.env0 (hb s us I.kIn hl) r2 h) fun r s' hq=>?_)
 cases r with
 |error e=>exact hx pins σ H s e s' I hq
 |ok fl =>
  cases fl with
  |ret u=>exact I.after hq
  |next=>exact False.elim hq
  |brk=>exact False.elim hq
  |cont=>exact False.elim hq
theorem O6(F:FnOk X.prog X.w X.K X.mg X.base CX k f fd ps sp)(hr:Room k X.A)(hg:Gl X x)(hm:X.mg x=some (.ref f))(hk:PySem.W.keepIn X.K (.ref f)=true)(hb:Binds X.K fd ps ds)(hd:Vals dvs ds)(hx:Dn CX X E)
  (ha:PA X (e::es) t) (hdb:(x==("__debug__":Str))=false:=by decide) (he:starEach (e::es) X.env=(false,eval e X.env)::starEach es X.env:=by rfl) (hpl:(backTo pos (starEach es X.env)).any (·.1)=false:=by rfl) :
  PE X (.Call (.Name x p) (e::es) [] pos) (tCall sp dvs E t):=by
 intro pins s σ H Q I h
 refine wpAny_Call_Name_kw (Bo I hg hm ?_ hdb)
 refine PySem.W.callWith_K (h₀:=X.base) I.ok.mod.kin hk (thn (ha pos pins s σ H _ I h) fun us s1 ⟨vs,H1,I1,r,q⟩=>⟨I1.kIn,?_⟩) he hpl
 exact Vz F hr hb hd hx I1 r q
theorem Ug{pl:Sem Bool}(he:PE X o ta)(c:Cls X.K C)(hm:Meth X.K C m f)(F:FnOk X.prog X.w X.K X.mg X.base CX k f fd ps sp)(hr:Room k X.A)(hb:Binds X.K fd ps ds)(hd:Vals dvs ds)(hx:Dn CX X E)
  (ht:eval (.Call (.Attribute o m apos) [] [] pos) X.env=(do
   let ov ← eval o X.env
   standAt apos.atName
   let (f,first) ← holding [ov] (getMethod ov m pl)
   callWith pos f first (backTo pos (starEach [] X.env)) (backToKw pos (keywordEach [] X.env))):=by rfl) :
  PE X (.Call (.Attribute o m apos) [] [] pos) (tMeth C m sp dvs E ta tNil):=by
 intro pins s σ H Q I h
 refine PySem.W.methodCall_KW (pl:=pl) (thn (he pins s σ H _ I h) fun u s1 ⟨x,H1,I1,rx,a,dx,fs,ex,ea,l,q⟩=>?_) ht
 subst ex
 obtain rfl:u=Value.ref a:=rx
 refine Ob I1 ea c hm l ?_
 exact PySem.W.callWith_K0 (first:=[.ref a]) I1.kIn hm.kp (Vz (us:=[.ref a]) (vs:=[.ref a]) F hr hb hd hx I1 (.cons rfl .nil) q)
structure Mk(K:PySem.W.Frag)(C f:Addr):Prop where
 makes:PySem.W.makesIn K C=true
 init:PySem.W.findIn K (.ref C) "__init__"=some (some (.ref f))
 fn:PySem.W.isFn K (.ref f)=true
 kp:PySem.W.keepIn K (.ref C)=true
theorem Vc{pins:List (Addr×Obj)}{σ:St}{H:Hp}{s:Shared}{Q:VK}{us:List Value}{vs:List V}(M:Mk X.K C f)(F:FnOk X.prog X.w X.K X.mg X.base CX k f fd ps sp)(hr:Room (k+1) X.A)(hb:Binds X.K fd ps ds)(hd:Vals dvs ds)
  (hx:Dn CX X E) (I:Inv X pins σ H s) (r:Vals vs us)
  (h:∀x dx,H x=none->H dx=none->dx≠x->sp (.ref x::(vs++dvs)) (upd (upd H dx (.own x)) x (.ins C dx [])) (fun v H2=>v=.non/\Q (.ref x) H2) E) :
  wpAny (model X.prog X.w) X.A (call (.ref C) us) (EP X pins σ Q) X.xe s:=by
 have hq:=h (s.heap.objs.size+1) s.heap.objs.size (I.hok.fresh (Nat.le_succ _)) (I.hok.fresh (Nat.le_refl _)) (Nat.ne_of_lt (Nat.lt_succ_self _))
 have I2:=Inv.made (C:=C) I
 have r2:Vals (V.ref (s.heap.objs.size+1)::(vs++dvs)) (Value.ref (s.heap.objs.size+1)::(us++ds)):=.cons rfl (r.append hd)
 have hl:(Value.ref (s.heap.objs.size+1)::us++ds).length=ps.length:=by
  have e:=r2.length
  rw[F.len _ _ _ _ hq] at e
  exact e.symm
 refine wpAny_call (U0 (f:=f) I.kIn M.makes M.init (beq_iff_eq.mp M.fn) (codeAny_mono (F.run _ X.stack _ _ ⟨Value.ref (s.heap.objs.size+1)::us,[]⟩ (Value.ref (s.heap.objs.size+1)::(us++ds)) _ _ E (hr.make C us [])
  (I2.env0.make C us []) (hb _ (Value.ref (s.heap.objs.size+1)::us) I2.kIn hl) r2 hq) fun r s' hq'=>?_))
 cases r with
 |error e=>exact hx pins σ _ _ e s' I2 hq'
 |ok fl =>
  cases fl with
  |ret u =>
   obtain⟨v,H',I3,rv,ev,q3⟩:=I2.after hq'
   subst ev
   exact⟨rv,⟨V.ref (s.heap.objs.size+1),H',I3,rfl,q3⟩⟩
  |next=>exact False.elim hq'
  |brk=>exact False.elim hq'
  |cont=>exact False.elim hq'
theorem Y9(M:Mk X.K C f)(F:FnOk X.prog X.w X.K X.mg X.base CX k f fd ps sp)(hr:Room (k+1) X.A)(hg:Gl X x)(hm:X.mg x=some (.ref C))(hb:Binds X.K fd ps ds)(hd:Vals dvs ds)(hx:Dn CX X E)
  (ha:PA X (e::es) t) (hdb:(x==("__debug__":Str))=false:=by decide) (he:starEach (e::es) X.env=(false,eval e X.env)::starEach es X.env:=by rfl) (hpl:(backTo pos (starEach es X.env)).any (·.1)=false:=by rfl) :
  PE X (.Call (.Name x p) (e::es) [] pos) (tMake C sp dvs E t):=by
 intro pins s σ H Q I h
 refine wpAny_Call_Name_kw (Bo I hg hm ?_ hdb)
 refine PySem.W.callWith_K (h₀:=X.base) I.ok.mod.kin M.kp (thn (ha pos pins s σ H _ I h) fun us s1 ⟨vs,H1,I1,r,q⟩=>⟨I1.kIn,?_⟩) he hpl
 exact Vc M F hr hb hd hx I1 r q
end
structure Zv(N P:List Str)(sc:Scope):Prop where
 kind:sc.kind=.function
 co:sc.isCoroutine=false
 gen:sc.isGenerator=false
 nd:N.Nodup
 pre:N.take P.length=P
 par:∀x∈P,sc.names.lookup x=some .local\/sc.names.lookup x=some .cell
 nofree:∀y∈sc.names,y.2≠.free
theorem Ka{kindOf:Str->Option NameKind}{x:Str}:∀{binds:List (Str×Value)} {m:Str->Option Value},(∀v,(x,v) ∉ binds)->bindL kindOf binds m x=m x
 |[],_,_=>rfl
 |(n,v)::r,m,h=>by
  unfold bindL
  rw[Ka fun w hw=>h w (List.mem_cons_of_mem _ hw)]
  split
  ·have:x≠n:=by rintro rfl;exact h v List.mem_cons_self
   simp[this]
  ·rfl
theorem Kj{kindOf:Str->Option NameKind}{x:Str}:∀{binds:List (Str×Value)} {m:Str->Option Value},(∀v,(x,v) ∉ binds)->bindC kindOf binds m x=m x
 |[],_,_=>rfl
 |(n,v)::r,m,h=>by
  unfold bindC
  rw[Kj fun w hw=>h w (List.mem_cons_of_mem _ hw)]
  split
  ·rfl
  ·have:x≠n:=by rintro rfl;exact h v List.mem_cons_self
   simp[this]
theorem Jo{kindOf:Str->Option NameKind}{x:Str}{v:Value}:∀{P:List Str} {vs:List Value} {i:Nat} {m:Str->Option Value},P.Nodup->P[i]?=some x->vs[i]?=some v->kindOf x=some .local →
  bindL kindOf (P.zip vs) m x=some v
 |[],_,_,_,_,h,_,_=>by simp at h
 |_::_,[],_,_,_,_,h,_=>by simp at h
 |p::P,w::vs,0,m,nd,h1,h2,hk=>by
  simp at h1 h2;subst h1;subst h2
  show bindL kindOf ((p,w)::P.zip vs) m p=_
  unfold bindL
  rw[Ka fun v hv=>(List.nodup_cons.mp nd).1 (List.of_mem_zip hv).1,if_pos hk]
  simp
 |p::P,w::vs,i+1,m,nd,h1,h2,hk=>by
  show bindL kindOf ((p,w)::P.zip vs) m x=_
  unfold bindL
  exact Jo (i:=i) (List.nodup_cons.mp nd).2 (by simpa using h1) (by simpa using h2) hk
theorem Jx{kindOf:Str->Option NameKind}{x:Str}{v:Value}:∀{P:List Str} {vs:List Value} {i:Nat} {m:Str->Option Value},P.Nodup->P[i]?=some x->vs[i]?=some v->kindOf x≠some .local →
  bindC kindOf (P.zip vs) m x=some v
 |[],_,_,_,_,h,_,_=>by simp at h
 |_::_,[],_,_,_,_,h,_=>by simp at h
 |p::P,w::vs,0,m,nd,h1,h2,hk=>by
  simp at h1 h2;subst h1;subst h2
  show bindC kindOf ((p,w)::P.zip vs) m p=_
  unfold bindC
  rw[Kj fun v hv=>(List.nodup_cons.mp nd).1 (List.of_mem_zip hv).1,if_neg hk]
  simp
 |p::P,w::vs,i+1,m,nd,h1,h2,hk=>by
  show bindC kindOf ((p,w)::P.zip vs) m x=_
  unfold bindC
  exact Jx (i:=i) (List.nodup_cons.mp nd).2 (by simpa using h1) (by simpa using h2) hk
def start(N:List Str)(vs:List V):St:=vs.map some++List.replicate (N.length - vs.length) none
def cxOf(CX:CXT)(P:Program)(w:World)(K:PySem.W.Frag)(mg:Str->Option Value)(base:Heap)(N:List Str)(qual:Str)(scope:Scope)(f:Addr)(cd:Value)(A:Around)(outer:List Env)(s:Shared)(H:Hp)(E:XK):Cx where
 prog:=P
 w:=w
 K:=K
 mg:=mg
 base:=base
 A:=A.deeper (envOfC qual scope s.heap.objs.size f cd)
 N:=N
 s₀:=s
 H₀:=H
 env:=envOfC qual scope s.heap.objs.size f cd
 outer:=outer
 stack:=envOfC qual scope s.heap.objs.size f cd::outer
 ex:=[]
 calm:=true
 fn:=fun _=>true
 pn:=[]
 xe:=fun e s'=>wpAny (model P w) (A.deeper (envOfC qual scope s.heap.objs.size f cd)) (leaving (envOfC qual scope s.heap.objs.size f cd) e) (fun _ s''=>CX outer H s E e s'') (fun e' s''=>CX outer H s E e' s'') s'
theorem Mt{sc:Scope}{n:Nat}{x:Str}(h:sc.names.lookup x=some .cell):∃c,(cellsFrom n sc.names []).lookup x=some c:=by
 have q:=PySem.W.cellsFrom_some sc.names n [] (.inl h)
 exact Option.isSome_iff_exists.mp q
theorem Se{CX:CXT}{P:Program}{w:World}{K:PySem.W.Frag}{mg:Str->Option Value}{base:Heap}{N ps:List Str}{qual:Str}{scope:Scope}{f:Addr}{cd:Value}{A:Around}{outer:List Env}{s s1:Shared}{H:Hp}{E:XK}{us:List Value}{vs:List V}
  (S:Zv N ps scope) (hd:A.handled=none) (e0:Env0 P w K mg base A outer s H) (hl:vs.length=ps.length) (r:Vals vs us)
  (x:InCallC s s.heap.objs.size (bindL (envOfC qual scope s.heap.objs.size f cd).kindOf (ps.zip us) fun _=>none) (cellsFrom (s.heap.objs.size+1) scope.names []) (bindC (envOfC qual scope s.heap.objs.size f cd).kindOf (ps.zip us) fun _=>none) s1) :
  Inv (cxOf CX P w K mg base N qual scope f cd A outer s H E) [] (start N vs) H s1:=by
 have hpl:ps.length<=N.length:=by have:=congrArg List.length S.pre;rw[List.length_take] at this;omega
 obtain⟨h1,tk,rfl,hk⟩:=x.done
 have noA:∀b:Addr,b ∉ (cxOf CX P w K mg base N qual scope f cd A outer s H E).ex:=fun b z=>absurd (show b∈([]:List Addr) from z) (by simp)
 refine⟨⟨e0.mod,S.kind,rfl,rfl,Nat.le_refl _,fun y z c h1 h2=>?_,fun y hy=>?_,fun y c _ h=>?_,fun _=>hd,Around.frames_deeper e0.frames,.inr ⟨rfl,rfl⟩,fun b z=>absurd z (noA b),e0.bs,e0.bsz,fun b _ _=>noA b,fun b z=>absurd z (noA b),e0.funs,e0.frf⟩,
  rfl,e0.bare,Un.kept hk,⟨_,x.toInCall.ns,fun i y v h1 h2 h3=>?_⟩,fun y c h=>⟨_,x.cell y c h⟩,e0.hok.fresh (Nat.le_refl _),fun y c h=>?_,fun p hp=>absurd (show p∈([]:List (Addr×Obj)) from hp) (by simp),e0.hok.kept hk,?_⟩
 ·exact name_of_addr x.apart (PySem.mem_of_lookup h1) (PySem.mem_of_lookup h2)
 ·have hy:scope.names.lookup y=some .cell\/scope.names.lookup y=some .free:=hy
  rcases hy with hy|hy
  ·exact Mt hy
  ·exact absurd rfl (S.nofree _ (PySem.mem_of_lookup hy))
 ·exact Nat.le_of_lt (x.above y c (PySem.mem_of_lookup h))
 ·have hi:i<vs.length:=by
   unfold start at h2
   by_cases hi:i<vs.length
   ·exact hi
   ·rw[List.getElem?_append_right (by simpa using hi)] at h2
    rw[List.getElem?_replicate] at h2
    split at h2 <;> cases h2
  have ha:vs[i]?=some v:=by
   unfold start at h2
   rw[List.getElem?_append_left (by simpa using hi),List.getElem?_map] at h2
   cases e:vs[i]? with
   |none=>rw[e] at h2;cases h2
   |some a=>rw[e] at h2;cases h2;rfl
  obtain⟨u,hu,rv⟩:=r.get ha
  have hp:ps[i]?=some y:=by
   rw[<-S.pre,List.getElem?_take_of_lt (by omega)];exact h1
  have ndP:ps.Nodup:=by rw[<-S.pre];exact S.nd.sublist (List.take_sublist _ _)
  refine⟨u,rv,?_⟩
  rcases S.par y (List.mem_of_getElem? hp) with k|k
  ·exact .inl ⟨k,Jo ndP hp hu k⟩
  ·obtain⟨c,e⟩:=Mt (n:=s.heap.objs.size+1) k
   refine .inr ⟨.inl k,c,e,?_⟩
   have q:=x.cell y c e
   rw[Jx ndP hp hu (by show scope.names.lookup y≠_;rw[k];decide)] at q
   exact q
 ·exact e0.hok.fresh (Nat.le_of_lt (x.above y c (PySem.mem_of_lookup h)))
 ·unfold start
  show _=N.length
  rw[List.length_append,List.length_map,List.length_replicate]
  omega
theorem Z9{CX:CXT}{P:Program}{w:World}{K:PySem.W.Frag}{mg:Str->Option Value}{base:Heap}{k:Nat}{f:Addr}{name qual:Str}{params:Arguments}{body:List Stmt}{scope:Scope}{dV kV doc pm cdv ct oc:Value}{an od:Option Addr}
  {osl:Array (Option Value)} {N ps:List Str} {sp:Sp} (lk:K.lookup f=some ⟨oc,od,.func (PySem.W.fnOf name qual params body scope dV kV doc pm an cdv ct),osl⟩) (hcd:PySem.W.codeIn K cdv qual=true) (S:Zv N ps scope)
  (len:∀vs H Q E,sp vs H Q E->vs.length=ps.length)
  (hbody:∀(A:Around) (outer:List Env) (s:Shared) (H:Hp) (vs:List V) (Q:VK) (E:XK),Room k (A.deeper (envOfC qual scope s.heap.objs.size f cdv))->sp vs H Q E →
   ∃t,PSs (cxOf CX P w K mg base N qual scope f cdv A outer s H E) body t/\t { nx:=fun _ H'=>Q .non H',rt:=Q } (start N vs) H) :
  FnOk P w K mg base CX (k+1) f (PySem.W.fnOf name qual params body scope dV kV doc pm an cdv ct) ps sp:=by
 refine⟨len,fun A outer s H args us vs Q E hr e0 hb r hsp=>?_⟩
 have hl:=len _ _ _ _ hsp
 have KX:K.In s.heap:=e0.mod.kin.keeps fun b o e=>(e0.bs b o e).1
 have lim:s.heap.NoLimit:=e0.mod.nolimit.keeps fun b o e=>(e0.bs b o e).1
 have hkind:∀y∈ps.zip us,scope.names.lookup y.1=some .local\/(scope.names.lookup y.1=some .cell/\((cellsFrom (s.heap.objs.size+1) scope.names []).lookup y.1).isSome=true):=fun ⟨n,v⟩ hy=>by
  rcases S.par n (List.of_mem_zip hy).1 with q|q
  ·exact .inl q
  ·exact .inr ⟨q,PySem.W.cellsFrom_some _ _ _ (.inl q)⟩
 refine codeAny_call_function hr.depth (KX _ _ lk) rfl S.co S.gen rfl (PySem.W.codeRec_of KX hcd) (hb _ _ _ _ ?_)
 refine wpAny_newFunctionEnv_cells S.kind hkind fun env he s1 x=>?_
 subst he
 refine⟨lim.keeps x.toInCall.keep,codeAny_func ?_⟩
 obtain⟨t,ht,hq⟩:=hbody A outer s H vs Q E (hr.deeper _) hsp
 have I:Inv (cxOf CX P w K mg base N qual scope f cdv A outer s H E) [] (start N vs) H s1:=Se S hr.hd e0 hl r x
 refine wpAny_mono (ht [] s1 (start N vs) H _ I hq) (fun fl s' hs=>?_) fun e s' hs=>hs
 have fin:∀{σ':St} {H':Hp} {v:V} {u:Value},Inv (cxOf CX P w K mg base N qual scope f cdv A outer s H E) [] σ' H' s'->RelV v u->Q v H'->CE outer P w H s Q u s' :=
  fun {σ' H' v u} J rv q=>⟨v,H',J.os,J.bare,J.base,J.hok,rv,q⟩
 cases fl with
 |ret u =>
  obtain⟨v,σ',H',J,rv,q⟩:=hs
  exact fin J rv q
 |next =>
  obtain⟨σ',H',J,q⟩:=hs
  exact fin (v:=V.non) (u:=Value.none) J rfl q
 |brk =>
  obtain⟨_,_,_,q⟩:=hs
  exact False.elim q
 |cont =>
  obtain⟨_,_,_,q⟩:=hs
  exact False.elim q
end L2
namespace L2
open PySem PySem.Spec PyProof.Rows
section
variable{X:Cx}{x:Str}{p pos:Pos}{e:Expr}{es:List Expr}{t:TA}{id T:String}{r:List V->Hp->VK->Prop}
def tCB(r:List V->Hp->VK->Prop)(t:TA):TE:=fun σ H Q=>t σ H fun vs H1=>r vs H1 Q
theorem Uo(hc:CallR X (.builtin id) r)(hg:Gl X x)(hm:X.mg x=none)(hv:bootBuiltins x=some (.builtin id))(ha:PA X (e::es) t)(hn:x≠"__name__":=by decide)(hdb:(x==("__debug__":Str))=false:=by decide)
  (he:starEach (e::es) X.env=(false,eval e X.env)::starEach es X.env:=by rfl) (hpl:(backTo pos (starEach es X.env)).any (·.1)=false:=by rfl):PE X (.Call (.Name x p) (e::es) [] pos) (tCB r t):=by
 intro pins s σ H Q I h
 refine wpAny_Call_Name_kw (Dg I hg hm hv ?_ hn hdb)
 exact PyProof.Rows.callWith_builtin1 (thn (ha pos pins s σ H _ I h) fun us s1 ⟨vs,H1,I1,r1,q1⟩=>hc pins s1 σ H1 vs us Q I1 r1 q1) he hpl
theorem Sk(hc:CallR X (.type T) r)(hg:Gl X x)(hm:X.mg x=none)(hv:bootBuiltins x=some (.type T))(ha:PA X (e::es) t)(hn:x≠"__name__":=by decide)(hdb:(x==("__debug__":Str))=false:=by decide)
  (he:starEach (e::es) X.env=(false,eval e X.env)::starEach es X.env:=by rfl) (hpl:(backTo pos (starEach es X.env)).any (·.1)=false:=by rfl):PE X (.Call (.Name x p) (e::es) [] pos) (tCB r t):=by
 intro pins s σ H Q I h
 refine wpAny_Call_Name_kw (Dg I hg hm hv ?_ hn hdb)
 exact PyProof.Rows.callWith_type1 (thn (ha pos pins s σ H _ I h) fun us s1 ⟨vs,H1,I1,r1,q1⟩=>hc pins s1 σ H1 vs us Q I1 r1 q1) he hpl
end
end L2
namespace L2
open PySem PySem.Spec PyProof.Rows
section
variable{κ:Type}[DecidableEq κ]
def valV(kvs:List (κ×V))(k:κ):Option V:=(kvs.find? fun kv=>decide (kv.1=k)).map (·.2)
theorem Us{p:κ×V}{r:List (κ×V)}{k:κ}(e:p.1=k):valV (p::r) k=some p.2:=by simp[valV,List.find?_cons,e]
theorem T7{p:κ×V}{r:List (κ×V)}{k:κ}(e:¬ p.1=k):valV (p::r) k=valV r k:=by simp[valV,List.find?_cons,e]
theorem RelO.isSome_eq{o:Option V}{u:Option Value}(r:RelO o u):o.isSome=u.isSome:=by
 cases o with
 |none=>cases u with
  |none=>rfl
  |some _=>exact(show False from r).elim
 |some _=>cases u with
  |none=>exact(show False from r).elim
  |some _=>rfl
theorem RelO.getD{o:Option V}{u:Option Value}{d:V}{d':Value}(r:RelO o u)(rd:RelV d d'):RelV (o.getD d) (u.getD d'):=by
 cases o with
 |none=>cases u with
  |none=>exact rd
  |some _=>exact(show False from r).elim
 |some _=>cases u with
  |none=>exact(show False from r).elim
  |some _=>exact r
theorem KV.val{kvs:List (κ×V)}{vs:List (κ×Value)}(r:KV kvs vs)(k:κ):RelO (valV kvs k) (valueAt vs k):=by
 unfold KV at r
 induction r with
 |nil=>exact True.intro
 | @cons p q ps qs h t ih =>
  obtain⟨h1,h2⟩:=h
  by_cases e:p.1=k
  ·have e':q.1=k:=h1.symm.trans e
   have b:valueAt (q::qs) k=some q.2:=by simp[valueAt,List.find?_cons,e']
   rw[Us e,b];exact h2
  ·have e':¬ q.1=k:=fun z=>e (h1.trans z)
   have b:valueAt (q::qs) k=valueAt qs k:=by simp[valueAt,List.find?_cons,e']
   rw[T7 e,b];exact ih
end
theorem Pz{P:Program}{w:World}{k:Key}{u:Value}(r:RelV (kV k) u):(mixKind P w).is k u=true:=by
 cases k with
 |inl i=>obtain⟨t,e⟩:=(show ∃t,u=Value.int i t from r);subst e;exact L0 P w i t
 |inr x=>obtain⟨t,e⟩:=(show ∃t,u=Value.str x t from r);subst e;exact Ct P w x t
section
variable{X:Cx}{pins:List (Addr×Obj)}{σ:St}{H:Hp}{s:Shared}{a:Addr}{y v:V}{u r:Value}{o:Option V}{A:Around}{E:Value->Shared->Prop}
end
def NoSl(i:Expr):Prop:=∀ov iv,subscripted i false ov iv=operate [ov,iv] (getItem ov iv)
theorem W7{prog:Program}{w:World}{A:Around}{E:Value->Shared->Prop}{s:Shared}{env:Env}{value slice:Expr}{pos:Pos}{T id:String}{Q:Value->Shared->Prop}
  (hl:typeLookup (.type T) "__getitem__"=pure (some (.builtin id))) (hs:NoSl slice)
  (h:wpAny (model prog w) A (eval value env) (fun o s₁=>wpAny (model prog w) A (eval slice env) (fun i s₂=>s₂.TypeIs o T/\wpAny (model prog w) A (getItem o i) Q E s₂) E s₁) E s) :
  wpAny (model prog w) A (eval (.Subscript value slice pos) env) Q E s:=by
 refine Subscript_ (wpAny_mono h (fun o s₁ h₁=>wpAny_mono h₁ (fun i s₂ h₂=>?_) fun _ _ x=>x) fun _ _ x=>x)
 obtain⟨hT,h₂⟩:=h₂
 unfold subscriptTail
 refine wpAny_bind ?_
 rw[getitemInPython_of_ne hT.not_modules]
 refine wpAny_bind (wpAny_specialOf hT hl ?_)
 have fin:wpAny (model prog w) A (subscripted slice false o i) (fun r s₃=>wpAny (model prog w) A (letTemporaryGo value o r >>= fun _=>pure r) Q E s₃) E s₂:=by
  rw[hs o i]
  exact wpAny_operating (wpAny_mono h₂ (fun r s₃ h₃=>wpAny_bind (wpAny_letTemporaryGo (wpAny_pure h₃))) fun _ _ x=>x)
 first
  |exact wpAny_pure (wpAny_bind fin)
  |exact wpAny_bind (wpAny_pure (wpAny_bind fin))
  |exact wpAny_bind fin
structure M1(X:Cx)(o:Expr)(m:Str)(apos:Pos)(e:Expr)(cpos:Pos):Prop where
 base:attributeBase o m X.env (eval o X.env)=eval o X.env
 few:((backTo cpos (starEach [e] X.env)).all (fun x=>!x.1)&&(backToKw cpos (keywordEach [] X.env)).all (fun x=>x.1.isSome)
  && decide (([e]:List Expr).length+([]:List Keyword).length+(if ([]:List Keyword).isEmpty then 0 else 1)<30))=true
 line:(apos.endLine==cpos.line)=true
 trees:backTo cpos (starEach [e] X.env)=[(false,eval e X.env)]
structure M2(X:Cx)(o:Expr)(m:Str)(apos:Pos)(e f:Expr)(cpos:Pos):Prop where
 base:attributeBase o m X.env (eval o X.env)=eval o X.env
 few:((backTo cpos (starEach [e,f] X.env)).all (fun x=>!x.1)&&(backToKw cpos (keywordEach [] X.env)).all (fun x=>x.1.isSome)
  && decide (([e,f]:List Expr).length+([]:List Keyword).length+(if ([]:List Keyword).isEmpty then 0 else 1)<30))=true
 line:(apos.endLine==cpos.line)=true
 trees:backTo cpos (starEach [e,f] X.env)=[(false,eval e X.env),(false,eval f X.env)]
end L2
namespace HT
open PySem PyProof.Rows
section
open PySem.SeqAt
open PySem.AutoSeq1 (wpAny_loadPart')
open PySem.MeetsSeq PySem.MeetsSeq2 PySem.MeetsSeq3
end
section
variable{prog:Program}{w:World}{A:Around}{E:Value->Shared->Prop}{s:Shared}
theorem cat_tup{t b:Addr}{vs ws:List Value}{Q:Value->Shared->Prop}(ht:IsTup s.heap t vs.toArray)(hb:IsTup s.heap b ws.toArray)(hv:vs≠[])
  (h1:ws=[]->Q (.ref t) s) (h2:ws≠[]->Q (.ref s.heap.objs.size) { s with heap:=s.heap.push { cls:=.type "tuple",data:=.seq (vs++ws).toArray } })
  (hsz:vs.length+ws.length<=sizeLine):wpAny (model prog w) A (binaryOp .Add (.ref t) (.ref b)) Q E s:=by
 obtain⟨⟨cls,dd,data,sl⟩,ho,hc,n,hd⟩:=id ht
 obtain⟨⟨cls2,dd2,data2,sl2⟩,ho2,hc2,n2,hd2⟩:=id hb
 simp only at hc hd hc2 hd2
 subst hc hd hc2 hd2
 have e:vs.toArray++ws.toArray=(vs++ws).toArray:=by simp
 by_cases hw:ws=[]
 ·exact concat_meets ⟨_,ho,rfl⟩ ⟨_,ho2,rfl⟩ noFill_tuple_add seq_tuple_add PySem.F.slot_tuple_add PySem.F.entry_tuple_add (PySem.F.args_tuple_add_2 _ _)
   (tuple_addW1 t b vs.toArray ws.toArray n n2 dd dd2 sl sl2 (by simpa using hv) (by simp[hw])) ⟨ho,ho2,h1 hw⟩
 ·refine concat_meets ⟨_,ho,rfl⟩ ⟨_,ho2,rfl⟩ noFill_tuple_add seq_tuple_add PySem.F.slot_tuple_add PySem.F.entry_tuple_add (PySem.F.args_tuple_add_2 _ _)
   (tuple_addW2 t b vs.toArray ws.toArray n n2 dd dd2 sl sl2 (by simpa using hv) (by simpa using hw) (by rw[List.size_toArray,List.size_toArray];exact hsz)) ⟨ho,ho2,?_⟩
  rw[e]
  exact h2 hw
def sIx(n d:Nat):Option Int->Nat
 |none=>d
 |some v=>if v<0 then (v+(n:Int)).toNat else min v.toNat n
theorem Aav(n d:Nat)(hd:d<=n)(o:Option Int):sIx n d o<=n:=by
 cases o with
 |none=>exact hd
 |some v =>
  show (if v<0 then (v+(n:Int)).toNat else min v.toNat n)<=n
  by_cases hv:v<0
  ·rw[if_pos hv];omega
  ·rw[if_neg hv];exact Nat.min_le_right _ _
theorem Qq(v:Int)(n d:Nat):(if v<0 then max (v+(n:Int)) 0 else min v (n:Int))=((sIx n d (some v):Nat):Int):=by
 show (if v<0 then max (v+(n:Int)) 0 else min v (n:Int))=(((if v<0 then (v+(n:Int)).toNat else min v.toNat n):Nat):Int)
 by_cases hv:v<0
 ·simp only[if_pos hv];omega
 ·simp only[if_neg hv];omega
theorem Nv(lo hi:Option Int)(n:Nat):Builtin.Slice.sliceAdjust lo hi 1 (n:Int)=(((sIx n 0 lo:Nat):Int),((sIx n n hi:Nat):Int)):=by
 have h1:¬ ((1:Int)<0):=by omega
 unfold Builtin.Slice.sliceAdjust
 simp only[h1,if_false]
 refine Prod.ext ?_ ?_
 ·cases lo with
  |none=>rfl
  |some v=>exact Qq v n 0
 ·cases hi with
  |none=>rfl
  |some v=>exact Qq v n n
theorem Oo(i j:Nat):Builtin.Slice.slicePlaces (i:Int) (j:Int) 1=j - i:=by
 unfold Builtin.Slice.slicePlaces
 have h1:(1:Int) > 0:=by omega
 simp only[h1,if_true,Int.ediv_one]
 split <;> omega
theorem Ht{v:Value}{o:Option Int}{Q:Option Int->Shared->Prop}(p:IsPart v o)(h:Q o s):wpAny (model prog w) A (Builtin.Slice.slicePartIndex v) Q E s:=by
 cases p with
 |none=>exact slicePart_none h
 |int i t=>exact slicePart_int h
theorem Db{sl:Addr}{vl vu:Value}{lo hi:Option Int}{n:Nat}{Q:Int×Int×Nat->Shared->Prop}(hs:s.heap.IsSliceOf sl vl vu .none)(pl:IsPart vl lo)(pu:IsPart vu hi)
  (h:Q (((sIx n 0 lo:Nat):Int),1,sIx n n hi - sIx n 0 lo) s):wpAny (model prog w) A (Builtin.Slice.sliceApplied (.ref sl) (pure (n:Int))) Q E s:=by
 obtain⟨os,hos,hcs,hds⟩:=id hs
 unfold Builtin.Slice.sliceApplied Builtin.Slice.sliceFields
 refine wpAny_bind (wpAny_bind (wpAny_field hos hds (x:=vl) rfl (wpAny_bind (wpAny_field hos hds (x:=vu) rfl (wpAny_bind (wpAny_field hos hds (x:=.none) rfl (wpAny_pure ?_)))))))
 refine wpAny_bind (slicePart_none ?_)
 show wpAny _ _ (if ((1:Int)==0)=true then _ else _) _ _ s
 rw[if_neg (by decide)]
 refine wpAny_bind (Ht pl (wpAny_bind (Ht pu (wpAny_bind (wpAny_pure ?_)))))
 show wpAny _ _ (match Builtin.Slice.sliceAdjust lo hi 1 (n:Int) with|(lo,hi)=>pure (lo,(1:Int),Builtin.Slice.slicePlaces lo hi 1)) _ _ s
 rw[Nv lo hi n]
 show wpAny _ _ (pure (((sIx n 0 lo:Nat):Int),(1:Int),Builtin.Slice.slicePlaces ((sIx n 0 lo:Nat):Int) ((sIx n n hi:Nat):Int) 1)) _ _ s
 rw[Oo]
 exact wpAny_pure h
theorem V2(xs:Array Value)(i k:Nat):((List.range k).filterMap fun (m:Nat)=>xs[((i:Int)+(m:Int) * 1).toNat]?).toArray=((xs.toList.drop i).take k).toArray:=by
 have e:(fun (m:Nat)=>xs[((i:Int)+(m:Int) * 1).toNat]?)=fun m=>xs[i+m]?:=by
  funext m
  have:((i:Int)+(m:Int) * 1).toNat=i+m:=by omega
  rw[this]
 rw[e]
 have:=pick_run xs i k
 rw[List.filterMap_map] at this
 have e2:((fun x=>xs[x]?) ∘ fun x=>i+x)=fun m=>xs[i+m]?:=rfl
 rw[e2] at this
 rw[this]
theorem getItem_tuple_cut{t sl:Addr}{items:Array Value}{vl vu:Value}{lo hi:Option Int}{Q:Value->Shared->Prop}(ht:IsTup s.heap t items)(hs:s.heap.IsSliceOf sl vl vu .none)(pl:IsPart vl lo)(pu:IsPart vu hi)
  (hw:¬ (sIx items.size 0 lo=0/\sIx items.size items.size hi=items.size))
  (h:Q (.ref s.heap.objs.size) { s with heap:=s.heap.push { cls:=.type "tuple",data:=.seq ((items.toList.drop (sIx items.size 0 lo)).take (sIx items.size items.size hi - sIx items.size 0 lo)).toArray } })
  (hsz:items.size<=sizeLine):wpAny (model prog w) A (getItem (.ref t) (.ref sl)) Q E s:=by
 have htake:sizeOk (.seq ((items.toList.drop (sIx items.size 0 lo)).take (sIx items.size items.size hi - sIx items.size 0 lo)).toArray):=by
  show ((items.toList.drop (sIx items.size 0 lo)).take (sIx items.size items.size hi - sIx items.size 0 lo)).toArray.size<=sizeLine
  rw[List.size_toArray,List.length_take,List.length_drop,Array.length_toList]
  omega
 have hj:sIx items.size items.size hi<=items.size:=Aav _ _ (Nat.le_refl _) hi
 obtain⟨os,hos,hcs,hds⟩:=id hs
 have hTs:s.TypeIs (.ref sl) "slice":=⟨os,hos,hcs⟩
 unfold getItem
 try with_reducible refine wpAny_holding ?_
 first|refine wpAny_bind (wpAny_pure ?_)|skip
 refine wpAny_bind (wpAny_sequenceKey ht.typeIs (by decide) ?_)
 refine wpAny_bind (wpAny_callSpecial?_slot (name:=Str.ofString "__getitem__") ht.typeIs PyProof.Rows.slot_tuple_getitem
  (wpAny_call_entry PyProof.Rows.slot_tuple_getitem ht.typeIs entry_tuple_getitem ?_ (args_tuple_getitem _ _)))
 show wpAny _ _ (Builtin.Tuple.tupleItemsOf (.ref t) >>= _) _ _ s
 refine wpAny_bind (tupleItemsOf_ ht ?_)
 refine wpAny_bind (wpAny_typeOf hTs ?_)
 rw[if_pos (by decide)]
 refine wpAny_bind (Db hs pl pu ?_)
 have hno:¬ ((((sIx items.size 0 lo:Nat):Int)==0&&(1:Int)==1&&(sIx items.size items.size hi - sIx items.size 0 lo)==items.size)=true):=by
  intro q
  rw[Bool.and_eq_true,Bool.and_eq_true] at q
  have q1:((sIx items.size 0 lo:Nat):Int)=0:=eq_of_beq q.1.1
  have q2:sIx items.size items.size hi - sIx items.size 0 lo=items.size:=eq_of_beq q.2
  exact hw ⟨by omega,by omega⟩
 show wpAny _ _ (if (((sIx items.size 0 lo:Nat):Int)==0&&(1:Int)==1&&(sIx items.size items.size hi - sIx items.size 0 lo)==items.size)=true then _ else _) _ _ s
 rw[if_neg hno,V2]
 first
  |exact wpAny_bind (m:=Builtin.Tuple.tupleExact _) (wpAny_newObj_type (wpAny_pure ⟨_,rfl,wpAny_pure h⟩) htake)
  |exact wpAny_bind (m:=Builtin.Tuple.tupleExact _) (wpAny_newObj_type (wpAny_bind (wpAny_pure (wpAny_pure ⟨_,rfl,wpAny_pure h⟩))) htake)
  |exact wpAny_bind (wpAny_bind (m:=Builtin.Tuple.tupleExact _) (wpAny_newObj_type (wpAny_pure (wpAny_pure ⟨_,rfl,wpAny_pure h⟩)) htake))
  |exact wpAny_bind (wpAny_bind (m:=Builtin.Tuple.tupleExact _) (wpAny_newObj_type (wpAny_pure ⟨_,rfl,wpAny_pure h⟩) htake))
end
end HT
namespace L2
open PySem PySem.Spec PyProof.Rows
abbrev TO:=St->Hp->(Option Int->Hp->Prop)->Prop
def PO(X:Cx)(e:Option Expr)(t:TO):Prop :=
 ∀(pins:List (Addr×Obj)) (s:Shared) (σ:St) (H:Hp) (Q:Option Int->Hp->Prop),Inv X pins σ H s->t σ H Q →
  wpAny (model X.prog X.w) X.A (evalPart e X.env) (fun u s'=>∃o H',Inv X pins σ H' s'/\IsPart u o/\Q o H') X.xe s
def Ww:TO:=fun _ H Q=>Q none H
def tPart(t:TE):TO:=fun σ H Q=>t σ H fun x H1=>∃i,x=.int i/\Q (some i) H1
section
variable{X:Cx}{e:Expr}{te:TE}{lo hi:Option Expr}{tl th:TO}{pos p2:Pos}
theorem Yb:PO X none Ww:=by
 intro pins s σ H Q I h
 rw[evalPart_none]
 exact wpAny_pure ⟨none,H,I,.none,h⟩
theorem W3(h:PE X e te):PO X (some e) (tPart te):=by
 intro pins s σ H Q I hw
 rw[evalPart_some]
 refine thn (h pins s σ H _ I hw) fun u s1 ⟨x,H1,I1,r1,q1⟩=>?_
 obtain⟨i,rfl,q⟩:=q1
 obtain⟨t,rfl⟩:=r1
 exact⟨some i,H1,I1,.int i t,q⟩
def SlR(X:Cx)(r:V->Option Int->Option Int->Hp->VK->Prop):Prop :=
 ∀(pins:List (Addr×Obj)) (s:Shared) (σ:St) (H:Hp) (x:V) (v vl vu:Value) (lo hi:Option Int) (sl:Addr) (Q:VK),Inv X pins σ H s->RelV x v->s.heap.IsSliceOf sl vl vu .none->IsPart vl lo->IsPart vu hi->r x lo hi H Q →
  ∃T id,typeLookup (.type T) "__getitem__"=pure (some (.builtin id))/\s.TypeIs v T/\wpAny (model X.prog X.w) X.A (getItem v (.ref sl)) (EP X pins σ Q) X.xe s
theorem SlR.or{r r':V->Option Int->Option Int->Hp->VK->Prop}(h:SlR X r)(h':SlR X r'):SlR X (fun x lo hi H Q=>r x lo hi H Q\/r' x lo hi H Q):=by
 intro pins s σ H x v vl vu lo hi sl Q I rx hs pl pu q
 rcases q with q|q
 ·exact h pins s σ H x v vl vu lo hi sl Q I rx hs pl pu q
 ·exact h' pins s σ H x v vl vu lo hi sl Q I rx hs pl pu q
def tSl(r:V->Option Int->Option Int->Hp->VK->Prop)(te:TE)(tl th:TO):TE:=fun σ H Q=>te σ H fun x H1=>tl σ H1 fun l H2=>th σ H2 fun u H3=>r x l u H3 Q
theorem Lz{r:V->Option Int->Option Int->Hp->VK->Prop}(hr:SlR X r)(he:PE X e te)(hl:PO X lo tl)(hu:PO X hi th):PE X (.Subscript e (.Slice lo hi none p2) pos) (tSl r te tl th):=by
 intro pins s σ H Q I h
 refine Subscript_ (thn (he pins s σ H _ I h) fun v s1 ⟨x,H1,I1,r1,q1⟩=>?_)
 refine wpAny_Slice (thn (hl pins s1 σ H1 _ I1 q1) fun vl s2 ⟨l,H2,I2,pl,q2⟩=>thn (hu pins s2 σ H2 _ I2 q2) fun vu s3 ⟨u,H3,I3,pu,q3⟩=>?_)
 rw[evalPart_none]
 refine wpAny_pure ?_
 have I4:Inv X pins σ H3 { s3 with heap:=s3.heap.push { cls:=.type "slice",data:=.fields #[vl,vu,.none] } }:=I3.kept (t':=s3.toks) fun b ob q=>Heap.get?_push_of_some _ q
 obtain⟨T,id,hT,ht,hg⟩:=hr pins { s3 with heap:=s3.heap.push { cls:=.type "slice",data:=.fields #[vl,vu,.none] } } σ H3 x v vl vu l u s3.heap.objs.size Q I4 r1 (Heap.IsSliceOf.new ..) pl pu q3
 show wpAny (model X.prog X.w) X.A (subscriptTail e (.Slice lo hi none p2) v (.ref s3.heap.objs.size)) (EP X pins σ Q) X.xe { s3 with heap:=s3.heap.push { cls:=.type "slice",data:=.fields #[vl,vu,.none] } }
 exact tail_any (ops:=[.ref s3.heap.objs.size,v]) ht hT hg (by with_unfolding_all rfl)
def Lj(xs:List V)(lo hi:Option Int):List V:=(xs.drop (HT.sIx xs.length 0 lo)).take (HT.sIx xs.length xs.length hi - HT.sIx xs.length 0 lo)
theorem Gz(xs:List V)(lo hi:Option Int):(Lj xs lo hi).length<=xs.length:=by
 unfold Lj
 rw[List.length_take,List.length_drop]
 omega
def rSlT(K:PySem.W.Frag):V->Option Int->Option Int->Hp->VK->Prop:=fun x lo hi H Q=>∃a xs,x=.ref a/\SqT K H a xs ∧
 ¬ (HT.sIx xs.length 0 lo=0/\HT.sIx xs.length xs.length hi=xs.length)/\∀p,H p=none->Q (.ref p) (upd H p (.tup (Lj xs lo hi)))
theorem sl_tup:SlR X (rSlT X.K):=by
 intro pins s σ H x v vl vu lo hi sl Q I rx hs pl pu h
 obtain⟨a,xs,rfl,hx,hw,q⟩:=h
 cases rx
 obtain⟨its,r,ht,hz⟩:=I.tuple hx
 have hlen:its.toArray.size=xs.length:=by rw[List.size_toArray];exact r.length.symm
 refine⟨"tuple",_,PyProof.Rows.slot_tuple_getitem.lookup,ht.typeIs,?_⟩
 refine HT.getItem_tuple_cut ht hs pl pu (by rw[hlen];exact hw) ?_ (by rw[hlen];exact hz)
 rw[hlen]
 refine⟨.ref s.heap.objs.size,_,I.laid (t':=s.toks) (o:=.tup (Lj xs lo hi)) (fun b ob q=>Heap.get?_push_of_some _ q) (Nat.le_refl _) ?_,rfl,q _ (I.hok.fresh (Nat.le_refl _))⟩
 exact⟨Nat.le_trans (Gz xs lo hi) hz,_,(r.drop (HT.sIx xs.length 0 lo)).take (HT.sIx xs.length xs.length hi - HT.sIx xs.length 0 lo),TupN.new _ _⟩
def rCatT(K:PySem.W.Frag):R2:=fun x y H Q=>∃a b xs ys,x=.ref a/\y=.ref b/\SqT K H a xs/\SqT K H b ys/\xs≠[]/\xs.length+ys.length<=sizeLine ∧
 (ys=[]->Q (.ref a) H)/\(ys≠[]->∀p,H p=none->Q (.ref p) (upd H p (.tup (xs++ys))))
theorem Vals.nil_iff{xs:List V}{us:List Value}(r:Vals xs us):us=[] ↔ xs=[]:=by
 cases r with
 |nil=>simp
 |cons _ _=>simp
theorem X6:OpR X (binaryOp .Add) (rCatT X.K):=by
 intro pins s σ H x y v u Q I rx ry h
 obtain⟨a,b,xs,ys,rfl,rfl,ha,hb,hx,hz,q1,q2⟩:=h
 cases rx
 cases ry
 obtain⟨its,r1,p1,_⟩:=I.tuple ha
 obtain⟨its2,r2,p2,_⟩:=I.tuple hb
 refine HT.cat_tup p1 p2 (fun z=>hx (r1.nil_iff.mp z)) (fun z=>⟨.ref a,H,I,rfl,q1 (r2.nil_iff.mp z)⟩) (fun z=>?_) (by rw[<-r1.length,<-r2.length];exact hz)
 refine⟨.ref s.heap.objs.size,_,I.laid (t':=s.toks) (o:=.tup (xs++ys)) (fun b ob q=>Heap.get?_push_of_some _ q) (Nat.le_refl _) ?_,rfl,q2 (fun w=>z (r2.nil_iff.mpr w)) _ (I.hok.fresh (Nat.le_refl _))⟩
 exact⟨by rw[List.length_append];exact hz,_,r1.append r2,TupN.new _ _⟩
end
end L2
namespace L2
open PySem PySem.Spec PyProof.Rows
def ixN(n:Nat)(i:Int):Option Nat:=if 0<=i then (if i<n then some i.toNat else none) else if -(n:Int)<=i then some (i+n).toNat else none
def atI{α:Type}(xs:List α)(i:Int):Option α:=(ixN xs.length i).bind fun j=>xs[j]?
theorem Qe{n:Nat}{i:Int}{j:Nat}(h:ixN n i=some j):seqIndex? i n=some j/\j<n/\-(n:Int)<=i/\i<n:=by
 unfold ixN at h
 by_cases h0:0<=i
 ·rw[if_pos h0] at h
  by_cases h1:i<n
  ·rw[if_pos h1] at h
   have e:i.toNat=j:=Option.some.inj h
   exact⟨by rw[seqIndex_of h0 h1,e],by omega,by omega,h1⟩
  ·rw[if_neg h1] at h;cases h
 ·rw[if_neg h0] at h
  by_cases h1:-(n:Int)<=i
  ·rw[if_pos h1] at h
   have e:(i+n).toNat=j:=Option.some.inj h
   exact⟨by rw[seqIndex_neg (by omega) h1,e],by omega,h1,by omega⟩
  ·rw[if_neg h1] at h;cases h
theorem Ll{α:Type}{xs:List α}{i:Int}{v:α}(h:atI xs i=some v):∃j,seqIndex? i xs.length=some j/\xs[j]?=some v/\j<xs.length/\-(xs.length:Int)<=i/\i<xs.length:=by
 unfold atI at h
 cases e:ixN xs.length i with
 |none=>rw[e] at h;cases h
 |some j =>
  rw[e] at h
  obtain⟨h1,h2,h3,h4⟩:=Qe e
  exact⟨j,h1,h,h2,h3,h4⟩
theorem Xb{α:Type}{xs:List α}{j:Nat}{v:α}(h:xs[j]?=some v):atI xs (j:Int)=some v:=by
 have hj:j<xs.length:=(List.getElem?_eq_some_iff.mp h).1
 have e:ixN xs.length (j:Int)=some j:=by
  unfold ixN
  rw[if_pos (by omega),if_pos (by omega)];simp
 unfold atI;rw[e];exact h
theorem Lr{α:Type}(xs:List α)(v:α):atI (xs++[v]) (-1)=some v:=by
 have hl:(xs++[v]).length=xs.length+1:=by simp
 have e:ixN (xs++[v]).length (-1)=some xs.length:=by
  unfold ixN
  rw[hl,if_neg (by decide),if_pos (by omega)]
  congr 1
  omega
 unfold atI
 rw[e]
 show (xs++[v])[xs.length]?=some v
 simp
def O8(b:Expr):Prop:=∀o i,subscripted b false o i=operate [o,i] (getItem o i)
def IxR(X:Cx)(r:R2):Prop :=
 ∀(value slice:Expr) (pins:List (Addr×Obj)) (s:Shared) (σ:St) (H:Hp) (x y:V) (v u:Value) (Q:VK),Inv X pins σ H s->RelV x v->RelV y u->r x y H Q →
  subscripted slice false v u=operate [v,u] (getItem v u)->wpAny (model X.prog X.w) X.A (subscriptTail value slice v u) (EP X pins σ Q) X.xe s
def MtR(X:Cx)(id:String)(r:V->List V->Hp->VK->Prop):Prop :=
 ∀(pins:List (Addr×Obj)) (s:Shared) (σ:St) (H:Hp) (x:V) (xs:List V) (v:Value) (us:List Value) (Q:VK),Inv X pins σ H s->RelV x v->Vals xs us->r x xs H Q →
  wpAny (model X.prog X.w) X.A (call (.builtin id) (v::us)) (EP X pins σ Q) X.xe s
section
variable{X:Cx}{a b:Expr}{ta tb:TE}{pos:Pos}
theorem IxR.or{r r':R2}(h:IxR X r)(h':IxR X r'):IxR X (fun x y H Q=>r x y H Q\/r' x y H Q):=by
 intro value slice pins s σ H x y v u Q I rx ry q hs
 rcases q with q|q
 ·exact h value slice pins s σ H x y v u Q I rx ry q hs
 ·exact h' value slice pins s σ H x y v u Q I rx ry q hs
theorem pe_ix{r:R2}(hr:IxR X r)(ha:PE X a ta)(hb:PE X b tb)(hs:O8 b):PE X (.Subscript a b pos) (tOp r ta tb):=by
 intro pins s σ H Q I h
 exact Subscript_ (binT ha hb I h fun v u s2 x y H2 I2 rx ry q=>hr a b pins s2 σ H2 x y v u Q I2 rx ry q (hs _ _))
def rIxL(K:PySem.W.Frag):R2:=fun x y H Q=>∃p xs i v,x=.ref p/\y=.int i/\SqL K H p xs/\atI xs i=some v/\Q v H
def rIxT(K:PySem.W.Frag):R2:=fun x y H Q=>∃p xs i v,x=.ref p/\y=.int i/\SqT K H p xs/\atI xs i=some v/\Q v H
def rIxS:R2:=fun x y H Q=>∃z i c,x=.str z/\y=.int i/\z.length<=sizeLine/\atI z.cps.toList i=some c/\Q (.str ⟨#[c]⟩) H
theorem ix_list:IxR X (rIxL X.K):=by
 intro value slice pins s σ H x y v u Q I rx ry h hs
 obtain⟨p,xs,i,z,rfl,rfl,hq,he,q⟩:=h
 cases rx
 obtain⟨t,rfl⟩:=ry
 obtain⟨its,r,pl,hz⟩:=I.list hq
 obtain⟨j,h1,h2,h3,h4,h5⟩:=Ll he
 obtain⟨w,ew,rw'⟩:=r.get h2
 have hl:=r.length
 have hn:=F5
 have fin:EP X pins σ Q w s:=⟨z,H,I,rw',q⟩
 by_cases h0:0<=i
 ·have hj:i.toNat=j:=by
   rw[seqIndex_of h0 h5] at h1
   exact Option.some.inj h1
  exact item_listR pl.isList h0 (by omega) (by rw[hj];simpa using ew) fin hs
 ·have hj:(i+(its.toArray.size:Int)).toNat=j:=by
   rw[seqIndex_neg (by omega) h4] at h1
   rw[List.size_toArray,<-hl]
   exact Option.some.inj h1
  exact subscriptTail_builtinR (x:=w) pl.isList.typeIs slot_list_getitem.lookup
   (wpAny_getItem_list_neg (Q:=fun r s'=>r=w/\EP X pins σ Q r s') pl.isList (by omega) (by rw[List.size_toArray] <;> omega) (by omega) (by rw[hj];simpa using ew) ⟨rfl,fin⟩) hs
theorem ix_tup:IxR X (rIxT X.K):=by
 intro value slice pins s σ H x y v u Q I rx ry h hs
 obtain⟨p,xs,i,z,rfl,rfl,hq,he,q⟩:=h
 cases rx
 obtain⟨t,rfl⟩:=ry
 obtain⟨its,r,pl,hz⟩:=I.tuple hq
 obtain⟨j,h1,h2,h3,h4,h5⟩:=Ll he
 obtain⟨w,ew,rw'⟩:=r.get h2
 have hl:=r.length
 have hn:=F5
 have fin:EP X pins σ Q w s:=⟨z,H,I,rw',q⟩
 exact subscriptTail_builtinR (x:=w) pl.typeIs slot_tuple_getitem.lookup
  (getItem_tuple (j:=j) (Q:=fun r s'=>r=w/\EP X pins σ Q r s') pl (by omega) (by omega) (by rw[List.size_toArray,<-hl];exact h1) (by simpa using ew) ⟨rfl,fin⟩) hs
theorem Ada:IxR X rIxS:=by
 intro value slice pins s σ H x y v u Q I rx ry h hs
 obtain⟨z,i,c,rfl,rfl,hz,he,q⟩:=h
 obtain⟨t,rfl⟩:=rx
 obtain⟨t',rfl⟩:=ry
 obtain⟨j,h1,h2,h3,h4,h5⟩:=Ll he
 have hl:z.cps.toList.length=z.length:=by simp[Str.length]
 rw[hl] at h1 h4 h5
 have hn:=F5
 exact tail_any (typeIs_str s z t) slot_str_getitem.lookup (getItem_str (c:=c) (by
  have e1:decide (i < -(2 ^ 63:Int))=false:=decide_eq_false (by omega)
  have e2:decide (i ≥ 2 ^ 63)=false:=decide_eq_false (by omega)
  rw[e1,e2,Bool.or_false]) (by rw[h1];simpa using h2) ⟨.str ⟨#[c]⟩,H,I.tok _,⟨_,rfl⟩,q⟩) hs
def rIx(K:PySem.W.Frag):R2:=fun x y H Q=>rIxL K x y H Q\/rIxT K x y H Q\/rIxS x y H Q
theorem Ady:IxR X (rIx X.K):=ix_list.or (ix_tup.or Ada)
theorem Nr(its:List Value)(n j:Nat)(u:Value):Obj.mapSeq (·.setIfInBounds j u) { cls:=.type "list",data:=.seq its.toArray n }={ cls:=.type "list",data:=.seq (its.set j u).toArray n }:=by
 simp[Obj.mapSeq]
theorem Inv.lst{pins:List (Addr×Obj)}{σ:St}{H:Hp}{s:Shared}{p:Addr}{xs:List V}(I:Inv X pins σ H s)(h:H p=some (.lst xs)):
  ∃(its:List Value) (n:Nat),Vals xs its/\s.heap.get? p=some { cls:=.type "list",data:=.seq its.toArray n }/\xs.length<=sizeLine:=by
 obtain⟨z,its,n,r,e⟩:=I.hok p _ h
 exact⟨its,n,r,e,z⟩
theorem Inv.lstUpd{pins:List (Addr×Obj)}{σ:St}{H:Hp}{s:Shared}{p:Addr}{xs ys:List V}{its its':List Value}{n n':Nat}{f:Obj->Obj}(I:Inv X pins σ H s)(h:H p=some (.lst xs))
  (ho:s.heap.get? p=some { cls:=.type "list",data:=.seq its.toArray n }) (hf:f { cls:=.type "list",data:=.seq its.toArray n }={ cls:=.type "list",data:=.seq its'.toArray n' }) (r:Vals ys its') (hz:ys.length<=sizeLine) (t:Nat) :
  Inv X pins σ (upd H p (.lst ys)) { s with heap:=s.heap.update p f,toks:=t }:=by
 have e:(s.heap.update p f).get? p=some { cls:=.type "list",data:=.seq its'.toArray n' }:=by
  rw[Heap.get?_update_self f ho (by rw[hf] <;> rfl),hf]
 refine I.write (x:=p) (e:=p) (by rw[h];trivial) (.inl rfl) (fun b u hb q=>(Heap.get?_update_other _ _ (Ne.symm hb)).trans q) ⟨_,e⟩ ?_
 exact⟨hz,its',n',r,e⟩
def rSetL:V->V->V->Hp->(Hp->Prop)->Prop:=fun o i v H Q=>∃p xs k j,o=.ref p/\i=.int k/\H p=some (.lst xs)/\ixN xs.length k=some j/\Q (upd H p (.lst (xs.set j v)))
theorem Tp:PSet X rSetL:=by
 intro pins s σ H o i v ov iv u Q I ro ri rv h
 obtain⟨p,xs,k,j,rfl,rfl,hp,hj,q⟩:=h
 cases ro
 obtain⟨t,rfl⟩:=ri
 obtain⟨its,n,r,ho,hz⟩:=I.lst hp
 obtain⟨h1,h2,h3,h4⟩:=Qe hj
 have hl:=r.length
 have hn:=F5
 have I':Inv X pins σ (upd H p (.lst (xs.set j v))) { s with heap:=s.heap.update p (Obj.mapSeq (·.setIfInBounds j u)) } :=
  I.lstUpd hp ho (Nr its n j u) (r.set rv j) (by rw[List.length_set];exact hz) s.toks
 by_cases h0:0<=k
 ·have hk:k.toNat=j:=by
   rw[seqIndex_of h0 h4] at h1
   exact Option.some.inj h1
  exact PySem.W.ki_setAt ho h0 (by omega) (by rw[List.size_toArray,<-hl];exact h4) (by rw[hk];exact⟨_,I',q⟩)
 ·have hk:(k+(its.toArray.size:Int)).toNat=j:=by
   rw[seqIndex_neg (by omega) h3] at h1
   rw[List.size_toArray,<-hl]
   exact Option.some.inj h1
  exact PySem.W.ki_setBack ho (by omega) (by rw[List.size_toArray,<-hl];exact h3) (by omega) (by rw[hk];exact⟨_,I',q⟩)
theorem K5(lo hi:Option Int)(n:Nat):(sliceBounds lo hi none n).1=((HT.sIx n 0 lo:Nat):Int)/\(sliceBounds lo hi none n).2.1=((HT.sIx n n hi:Nat):Int)/\(sliceBounds lo hi none n).2.2=1:=by
 refine⟨?_,?_,rfl⟩
 ·cases lo with
  |none=>simp[sliceBounds,HT.sIx]
  |some i =>
   simp only[sliceBounds,HT.sIx,Option.getD_none,show (1:Int) > 0 by decide,if_true]
   by_cases h:i<0
   ·simp only[h,if_true] <;> omega
   ·simp only[h,if_false] <;> omega
 ·cases hi with
  |none=>simp[sliceBounds,HT.sIx]
  |some i =>
   simp only[sliceBounds,HT.sIx,Option.getD_none,show (1:Int) > 0 by decide,if_true]
   by_cases h:i<0
   ·simp only[h,if_true] <;> omega
   ·simp only[h,if_false] <;> omega
theorem Jb(its:List Value)(lo hi:Option Int):slicePick its.toArray lo hi none=((its.drop (HT.sIx its.length 0 lo)).take (HT.sIx its.length its.length hi - HT.sIx its.length 0 lo)).toArray:=by
 obtain⟨h1,h2,h3⟩:=K5 lo hi its.toArray.size
 unfold slicePick
 rw[h1,h2,h3]
 simp only[sliceRange_one,pick_run,List.size_toArray] <;> rfl
def rSlL(K:PySem.W.Frag):V->Option Int->Option Int->Hp->VK->Prop:=fun x lo hi H Q=>∃a xs,x=.ref a/\SqL K H a xs/\∀p,H p=none->Q (.ref p) (upd H p (.lst (Lj xs lo hi)))
theorem sl_list:SlR X (rSlL X.K):=by
 intro pins s σ H x v vl vu lo hi sl Q I rx hs pl pu h
 obtain⟨a,xs,rfl,hx,q⟩:=h
 cases rx
 obtain⟨its,r,ht,hz⟩:=I.list hx
 have hlen:=r.length
 refine⟨"list",_,slot_list_getitem.lookup,ht.isList.typeIs,?_⟩
 refine wpAny_getItem_list_slice ht.isList hs pl pu .none (by simp) ?_ (by rw[List.size_toArray] <;> omega)
 rw[Jb,<-hlen]
 refine⟨.ref s.heap.objs.size,_,I.laid (t':=s.toks) (o:=.lst (Lj xs lo hi)) (fun b ob q=>Heap.get?_push_of_some _ q) (Nat.le_refl _) ?_,rfl,q _ (I.hok.fresh (Nat.le_refl _))⟩
 exact⟨Nat.le_trans (Gz xs lo hi) hz,_,0,(r.drop (HT.sIx xs.length 0 lo)).take (HT.sIx xs.length xs.length hi - HT.sIx xs.length 0 lo),Heap.get?_push_size _ rfl⟩
def Fc:V->Bool
 | .non=>true
 | .bl _=>true
 | .int _=>true
 | .str _=>true
 |_=>false
def eqV:V->V->Bool
 | .non,.non=>true
 | .bl a,.bl b=>a==b
 | .bl a,.int b=>(if a then 1 else 0)==b
 | .int a,.bl b=>a==(if b then 1 else 0)
 | .int a,.int b=>a==b
 | .str a,.str b=>a==b
 |_,_=>false
theorem Aca{A:Around}{s:Shared}{y x:V}{u v:Value}(ry:RelV y u)(rx:RelV x v)(fy:Fc y=true)(fx:Fc x=true):SeqAt.EqAt A s u v (eqV y x):=by
 cases y with
 |non =>
  cases ry
  cases x with
  |non=>cases rx;exact SeqAt.EqAt.same _
  |bl b=>cases rx;exact SeqAt.EqAt.none_bool b
  |int b=>obtain⟨t,rfl⟩:=rx;exact SeqAt.EqAt.none_int b t
  |str b=>obtain⟨t,rfl⟩:=rx;exact SeqAt.EqAt.none_str b t
  |_=>exact absurd (show false=true from fx) Bool.false_ne_true
 |bl a =>
  cases ry
  cases x with
  |non=>cases rx;exact SeqAt.EqAt.bool_none a
  |bl b=>cases rx;exact SeqAt.EqAt.bool_bool a b
  |int b=>obtain⟨t,rfl⟩:=rx;exact SeqAt.EqAt.bool_int a b t
  |str b=>obtain⟨t,rfl⟩:=rx;exact SeqAt.EqAt.bool_str a b t
  |_=>exact absurd (show false=true from fx) Bool.false_ne_true
 |int a =>
  obtain⟨t',rfl⟩:=ry
  cases x with
  |non=>cases rx;exact SeqAt.EqAt.int_none a t'
  |bl b=>cases rx;exact SeqAt.EqAt.int_bool a t' b
  |int b=>obtain⟨t,rfl⟩:=rx;exact SeqAt.EqAt.int_int a t' b t
  |str b=>obtain⟨t,rfl⟩:=rx;exact SeqAt.EqAt.int_str a t' b t
  |_=>exact absurd (show false=true from fx) Bool.false_ne_true
 |str a =>
  obtain⟨t',rfl⟩:=ry
  cases x with
  |non=>cases rx;exact SeqAt.EqAt.str_none a t'
  |bl b=>cases rx;exact SeqAt.EqAt.str_bool a t' b
  |int b=>obtain⟨t,rfl⟩:=rx;exact SeqAt.EqAt.str_int a t' b t
  |str b=>obtain⟨t,rfl⟩:=rx;exact SeqAt.EqAt.str_str a t' b t
  |_=>exact absurd (show false=true from fx) Bool.false_ne_true
 |_=>exact absurd (show false=true from fy) Bool.false_ne_true
def eqU(x:V)(u:Value):Bool:=match u with
 | .none=>eqV .non x
 | .bool b=>eqV (.bl b) x
 | .int i _=>eqV (.int i) x
 | .str z _=>eqV (.str z) x
 |_=>false
theorem T5{x y:V}{u:Value}(r:RelV y u)(f:Fc y=true):eqU x u=eqV y x:=by
 cases y with
 |non=>cases r;rfl
 |bl b=>cases r;rfl
 |int i=>obtain⟨t,rfl⟩:=r;rfl
 |str z=>obtain⟨t,rfl⟩:=r;rfl
 |_=>exact absurd (show false=true from f) Bool.false_ne_true
theorem Fm{x:V}:∀{xs:List V} {us:List Value},Vals xs us->xs.all Fc=true->us.any (eqU x)=xs.any fun y=>eqV y x
 |_,_,.nil,_=>rfl
 |y::xs,u::us,.cons r t,f=>by
  rw[List.all_cons,Bool.and_eq_true] at f
  rw[List.any_cons,List.any_cons,T5 r f.1,Fm t f.2]
theorem D3{A:Around}{s:Shared}{x:V}{v:Value}(rx:RelV x v)(fx:Fc x=true):∀{xs:List V} {us:List Value},Vals xs us->xs.all Fc=true->∀u∈us,SeqAt.EqAt A s u v (eqU x u)
 |_,_,.nil,_=>fun u hu=>by cases hu
 |y::xs,u::us,.cons r t,f=>fun u' hu=>by
  rw[List.all_cons,Bool.and_eq_true] at f
  rcases List.mem_cons.mp hu with rfl|hu
  ·rw[T5 r f.1];exact Aca r rx f.1 fx
  ·exact D3 rx fx t f.2 u' hu
def inV(x:V)(xs:List V):Bool:=xs.any fun y=>eqV y x
def rIn(K:PySem.W.Frag)(neg:Bool):R2:=fun x y H Q=>∃p xs,y=.ref p/\(SqL K H p xs\/SqT K H p xs)/\Fc x=true/\xs.all Fc=true/\Q (.bl (if neg then !inV x xs else inV x xs)) H
theorem J4:OpR X (compareOp .In) (rIn X.K false):=by
 intro pins s σ H x y v u Q I rx ry h
 obtain⟨p,xs,rfl,hq,fx,fs,q⟩:=h
 cases ry
 rcases hq with hq|hq
 ·obtain⟨its,r,pl,hz⟩:=I.list hq
  refine SeqAt.in_listAt (eqU x) pl.isList (fun w hw=>D3 rx fx r fs w (by simpa using hw)) ⟨.bl _,H,I,rfl,?_⟩
  rw[show its.toArray.any (eqU x)=its.any (eqU x) by simp,Fm r fs]
  exact q
 ·obtain⟨its,r,pl,hz⟩:=I.tuple hq
  refine SeqAt.in_tupleAt (eqU x) pl (fun w hw=>D3 rx fx r fs w (by simpa using hw)) ⟨.bl _,H,I,rfl,?_⟩
  rw[show its.toArray.any (eqU x)=its.any (eqU x) by simp,Fm r fs]
  exact q
theorem K1:OpR X (compareOp .NotIn) (rIn X.K true):=by
 intro pins s σ H x y v u Q I rx ry h
 obtain⟨p,xs,rfl,hq,fx,fs,q⟩:=h
 cases ry
 rcases hq with hq|hq
 ·obtain⟨its,r,pl,hz⟩:=I.list hq
  refine SeqAt.notIn_listAt (eqU x) pl.isList (fun w hw=>D3 rx fx r fs w (by simpa using hw)) ⟨.bl _,H,I,rfl,?_⟩
  rw[show its.toArray.any (eqU x)=its.any (eqU x) by simp,Fm r fs]
  exact q
 ·obtain⟨its,r,pl,hz⟩:=I.tuple hq
  refine SeqAt.notIn_tupleAt (eqU x) pl (fun w hw=>D3 rx fx r fs w (by simpa using hw)) ⟨.bl _,H,I,rfl,?_⟩
  rw[show its.toArray.any (eqU x)=its.any (eqU x) by simp,Fm r fs]
  exact q
theorem call_len_seq:CallR X (.builtin "len") (fun xs H Q=>∃p ys,xs=[.ref p]/\(SqL X.K H p ys\/SqT X.K H p ys)/\Q (.int ys.length) H):=by
 intro pins s σ H xs us Q I r h
 obtain⟨p,ys,rfl,hq,q⟩:=h
 obtain⟨u,rfl,rx⟩:=Ej r
 cases rx
 have hn:=F5
 rcases hq with hq|hq
 ·obtain⟨its,r',pl,hz⟩:=I.list hq
  have hlen:=r'.length
  exact Calls.call_len_list pl.isList (by simp only[List.size_toArray] <;> omega) ⟨.int ys.length,H,I.tok _,⟨s.toks+1,by rw[List.size_toArray,hlen]⟩,q⟩
 ·obtain⟨its,r',pl,hz⟩:=I.tuple hq
  have hlen:=r'.length
  exact len_tuple pl (by simp only[List.size_toArray] <;> omega) ⟨.int ys.length,H,I.tok _,⟨s.toks+1,by rw[List.size_toArray,hlen]⟩,q⟩
theorem Li:CallR X (.builtin "len") (fun xs H Q=>∃z,xs=[.str z]/\z.length<=sizeLine/\Q (.int z.length) H):=by
 intro pins s σ H xs us Q I r h
 obtain⟨z,rfl,hz,q⟩:=h
 obtain⟨u,rfl,t,rfl⟩:=Ej r
 have hn:=F5
 exact len_str (by omega) ⟨.int z.length,H,I.tok _,⟨_,rfl⟩,q⟩
theorem CallR.or{f:Value}{r r':List V->Hp->VK->Prop}(h:CallR X f r)(h':CallR X f r'):CallR X f (fun xs H Q=>r xs H Q\/r' xs H Q):=by
 intro pins s σ H xs us Q I rs q
 rcases q with q|q
 ·exact h pins s σ H xs us Q I rs q
 ·exact h' pins s σ H xs us Q I rs q
theorem Ln:CallR X (.type "list") (fun xs H Q=>∃p ys,xs=[.ref p]/\(SqL X.K H p ys\/SqT X.K H p ys)/\∀l,H l=none->Q (.ref l) (upd H l (.lst ys))):=by
 intro pins s σ H xs us Q I r h
 obtain⟨p,ys,rfl,hq,q⟩:=h
 obtain⟨u,rfl,rx⟩:=Ej r
 cases rx
 have fin:∀(its:List Value),Vals ys its->ys.length<=sizeLine->∀(h':Heap) (c':Nat),(∀b o',s.heap.get? b=some o'->h'.get? b=some o') →
   h'.get? s.heap.objs.size=some { cls:=.type "list",dict:=none,data:=.seq its.toArray c',slots:=#[] }->EP X pins σ Q (.ref s.heap.objs.size) { s with heap:=h' }:=fun its r' hz h' c' kp e =>
  ⟨.ref s.heap.objs.size,_,I.laid (t':=s.toks) kp (Nat.le_refl _) (show ObjOk X.prog X.w _ h' _ (.lst ys) from⟨hz,its,c',r',e⟩),rfl,q _ (I.hok.fresh (Nat.le_refl _))⟩
 rcases hq with hq|hq
 ·obtain⟨its,r',pl,hz⟩:=I.list hq
  have hlen:=r'.length
  obtain⟨o,ho,hc,n,hd⟩:=pl.isList
  exact call_list_seq p (.inl rfl) ho hc hd (fun h' c' kp e=>fin its r' hz h' c' kp e) (by simp only[List.size_toArray] <;> omega)
 ·obtain⟨its,r',pl,hz⟩:=I.tuple hq
  have hlen:=r'.length
  obtain⟨o,ho,hc,n,hd⟩:=pl
  exact call_list_seq p (.inr rfl) ho hc hd (fun h' c' kp e=>fin its r' hz h' c' kp e) (by simp only[List.size_toArray] <;> omega)
theorem Jg:CallR X (.type "tuple") (fun xs H Q=>∃p ys,xs=[.ref p]/\((SqL X.K H p ys/\∀l,H l=none->Q (.ref l) (upd H l (.tup ys)))\/(SqT X.K H p ys/\Q (.ref p) H))):=by
 intro pins s σ H xs us Q I r h
 obtain⟨p,ys,rfl,h⟩:=h
 obtain⟨u,rfl,rx⟩:=Ej r
 cases rx
 rcases h with⟨hq,q⟩|⟨hq,q⟩
 ·obtain⟨its,r',pl,hz⟩:=I.list hq
  have hlen:=r'.length
  refine call_tuple_list pl.isList (fun h' kp=>?_) (by simp only[List.size_toArray] <;> omega)
  have I1:Inv X pins σ H { s with heap:=h' }:=I.kept (t':=s.toks) kp
  have I2:Inv X pins σ (upd H h'.objs.size (.tup ys)) { s with heap:=h'.push { cls:=.type "tuple",data:=.seq its.toArray } } :=
   I1.laid (t':=s.toks) (fun b o e=>Heap.get?_push_of_some _ e) (Nat.le_refl _) (show ObjOk X.prog X.w _ _ _ (.tup ys) from⟨hz,its,r',TupN.new _ _⟩)
  exact⟨.ref h'.objs.size,_,I2,rfl,q _ (I1.hok.fresh (Nat.le_refl _))⟩
 ·obtain⟨its,r',pl,hz⟩:=I.tuple hq
  exact call_tuple_same pl ⟨.ref p,H,I,rfl,q⟩
def tyV(K:PySem.W.Frag)(T:String)(x:V)(H:Hp):Prop:=match x with
 | .str _=>T="str"
 | .int _=>T="int"
 | .ref p=>(T="list"/\∃xs,SqL K H p xs)\/(T="tuple"/\∃xs,SqT K H p xs) ∨
   (T="dict"/\((∃kvs,H p=some (.dK kvs))\/∃kvs,H p=some (.dT kvs)))\/(T="set"/\∃S n,H p=some (.set S n))
 |_=>False
theorem Sr{pins:List (Addr×Obj)}{σ:St}{H:Hp}{s:Shared}{T:String}{x:V}{v:Value}(I:Inv X pins σ H s)(r:RelV x v)(ty:tyV X.K T x H):
  s.TypeIs v T/\∀a,v=.ref a->∃ob,s.heap.get? a=some ob/\ob.dict=none:=by
 cases x with
 |str z =>
  obtain⟨t,rfl⟩:=r
  cases (show T="str" from ty)
  exact⟨typeIs_str s z t,fun _ e=>nomatch e⟩
 |int i =>
  obtain⟨t,rfl⟩:=r
  cases (show T="int" from ty)
  exact⟨typeIs_int s i t,fun _ e=>nomatch e⟩
 |ref p =>
  cases r
  rcases ty with⟨rfl,xs,hq⟩|⟨rfl,xs,hq⟩|⟨rfl,hk⟩|⟨rfl,S,n,hk⟩
  ·obtain⟨its,_,pl,_⟩:=I.list hq
   refine⟨pl.isList.typeIs,fun a e=>?_⟩
   cases e
   obtain⟨o,n,e,c,hd,_⟩:=pl
   exact⟨o,e,hd⟩
  ·obtain⟨o,ho,hc,hd⟩:=I.tupN hq
   refine⟨⟨o,ho,hc⟩,fun a e=>?_⟩
   cases e
   exact⟨o,ho,hd⟩
  ·have z:∃o,s.heap.get? p=some o/\o.ExactDict:=by
    rcases hk with⟨kvs,hk⟩|⟨kvs,hk⟩
    ·obtain⟨_,_,_,_,o,_,_,e,ex,_⟩:=I.hok p _ hk
     exact⟨o,e,ex⟩
    ·obtain⟨_,_,_,_,o,_,_,e,ex,_⟩:=I.hok p _ hk
     exact⟨o,e,ex⟩
   obtain⟨o,e,ex⟩:=z
   refine⟨⟨o,e,ex.1⟩,fun a e2=>?_⟩
   cases e2
   exact⟨o,e,ex.2.1⟩
  ·obtain⟨o,_,_,_,e,ex,_⟩:=I.hok p _ hk
   refine⟨⟨o,e,ex.1⟩,fun a e2=>?_⟩
   cases e2
   exact⟨o,e,ex.2.1⟩
 |_=>exact False.elim ty
def tBM0(K:PySem.W.Frag)(T:String)(r:V->List V->Hp->VK->Prop)(to:TE):TE:=fun σ H Q=>to σ H fun x H1=>tyV K T x H1/\r x [] H1 Q
def tBM(K:PySem.W.Frag)(T:String)(r:V->List V->Hp->VK->Prop)(to:TE)(t:TA):TE:=fun σ H Q=>to σ H fun x H1=>tyV K T x H1/\t σ H1 fun xs H2=>r x xs H2 Q
variable{o e:Expr}{es:List Expr}{to:TE}{t:TA}{name:Str}{apos cpos:Pos}{T id:String}{r:V->List V->Hp->VK->Prop}
theorem Aco(pa:PlainAttrs T)(slot:Slot T name id)(hty:typeOf (.builtin id)=pure (.type "method_descriptor"))(hm:MtR X id r)(ho:PE X o to)
  (hbase:attributeBase o name X.env (eval o X.env)=eval o X.env:=by rfl) (hline:(apos.endLine==cpos.line)=true:=by rfl):PE X (.Call (.Attribute o name apos) [] [] cpos) (tBM0 X.K T r to):=by
 intro pins s σ H Q I h
 refine wpAny_Call_method0_late hbase hline (thn (ho pins s σ H _ I h) fun v s1 ⟨x,H1,I1,r1,ty,q1⟩=>?_)
 obtain⟨h1,h2⟩:=Sr I1 r1 ty
 exact⟨T,id,pa,slot,hty,h1,h2,Calls.callWith_builtin rfl (PySem.evalArgs_none (hm pins s1 σ H1 x [] v [] Q I1 r1 .nil q1))⟩
theorem Ki(pa:PlainAttrs T)(slot:Slot T name id)(hty:typeOf (.builtin id)=pure (.type "method_descriptor"))(hm:MtR X id r)(ho:PE X o to)(ha:PA X (e::es) t)
  (hbase:attributeBase o name X.env (eval o X.env)=eval o X.env:=by rfl)
  (hfew:((backTo cpos (starEach (e::es) X.env)).all (fun x=>!x.1)&&(backToKw cpos (keywordEach [] X.env)).all (fun x=>x.1.isSome)
   && decide ((e::es).length+([]:List Keyword).length+(if ([]:List Keyword).isEmpty then 0 else 1)<30))=true:=by rfl)
  (hline:(apos.endLine==cpos.line)=true:=by rfl) (hs:starEach (e::es) X.env=(false,eval e X.env)::starEach es X.env:=by rfl) (hplain:(backTo cpos (starEach es X.env)).any (·.1)=false:=by rfl) :
  PE X (.Call (.Attribute o name apos) (e::es) [] cpos) (tBM X.K T r to t):=by
 intro pins s σ H Q I h
 refine wpAny_Call_method_late hbase hfew hline rfl (thn (ho pins s σ H _ I h) fun v s1 ⟨x,H1,I1,r1,ty,q1⟩=>?_)
 obtain⟨h1,h2⟩:=Sr I1 r1 ty
 refine⟨T,id,pa,slot,hty,h1,h2,?_⟩
 have hA:=ha cpos pins s1 σ H1 _ I1 q1
 rw[hs] at hA ⊢
 refine Calls.callWith_builtin (by show (false || (backTo cpos (starEach es X.env)).any (·.1))=false;rw[hplain] <;> rfl) (Calls.evalArgs_plain ?_)
 exact thn hA fun us s2 ⟨vs,H2,I2,r2,q2⟩=>hm pins s2 σ H2 x vs v us Q I2 r1 r2 q2
/- xs.append(e),list.index on a module's tuple .. are MtR facts of 06m -/
end
end L2
namespace L2
open PySem PySem.Spec PyProof.Rows
def MtM(X:Cx)(id:String)(r:V->List V->Hp->VK->Prop):Prop :=
 ∀(pins:List (Addr×Obj)) (s:Shared) (σ:St) (H:Hp) (x:V) (xs:List V) (v:Value) (us:List Value) (Q:VK),Inv X pins σ H s->RelV x v->Vals xs us->r x xs H Q →
  wpAny (model X.prog X.w) X.A (call (.builtin id) (v::us)) (EP X pins σ Q) X.xe s
theorem Vals.one:∀{x:V} {us:List Value},Vals [x] us->∃u,us=[u]/\RelV x u
 |_,_,.cons r .nil=>⟨_,rfl,r⟩
theorem Vals.two:∀{x y:V} {us:List Value},Vals [x,y] us->∃u v,us=[u,v]/\RelV x u/\RelV y v
 |_,_,_,.cons r (.cons q .nil)=>⟨_,_,rfl,r,q⟩
theorem Vals.zero:∀{us:List Value},Vals [] us->us=[]
 |_,.nil=>rfl
theorem Vals.dropLast{xs:List V}{us:List Value}(h:Vals xs us):Vals xs.dropLast us.dropLast:=by
 induction h with
 |nil=>exact .nil
 |cons r t ih =>
  cases t with
  |nil=>exact .nil
  |cons q t'=>exact .cons r ih
theorem Vals.rep{xs:List V}{us:List Value}(h:Vals xs us):∀k:Nat,Vals (List.replicate k xs).flatten (List.replicate k us).flatten
 | 0=>.nil
 |k+1=>by
  rw[List.replicate_succ,List.replicate_succ,List.flatten_cons,List.flatten_cons]
  exact Vals.append h (Vals.rep h k)
theorem N4{α:Type}(l:List α):l.eraseIdx (l.length - 1)=l.dropLast:=by
 induction l with
 |nil=>rfl
 |cons a r ih =>
  cases r with
  |nil=>rfl
  |cons b r =>
   have e:(a::b::r).length - 1=((b::r).length - 1)+1:=by
    have h1:(a::b::r).length=r.length+2:=rfl
    have h2:(b::r).length=r.length+1:=rfl
    omega
   rw[e,List.eraseIdx_cons_succ,ih]
   all_goals rfl
theorem Gi(its:List Value):∀(k:Nat) (acc:List Value),
  List.foldl (fun x1 x2=>x1++x2) acc.toArray (List.replicate k its.toArray)=(acc++(List.replicate k its).flatten).toArray
 | 0,acc=>by simp
 |k+1,acc=>by
  have e:acc.toArray++its.toArray=(acc++its).toArray:=by simp
  have e2:(acc++its)++(List.replicate k its).flatten=acc++(List.replicate (k+1) its).flatten:=by
   rw[List.replicate_succ,List.flatten_cons,List.append_assoc]
  rw[<-e2,<-Gi its k (acc++its),<-e,List.replicate_succ,List.foldl_cons]
section
variable{X:Cx}{pins:List (Addr×Obj)}{σ:St}{H:Hp}{s:Shared}{l b:Addr}{xs ys zs:List V}
theorem Inv.lset{its its':List Value}{n:Nat}{f:Array Value->Array Value}{t':Nat}(I:Inv X pins σ H s)(hH:H l=some (.lst xs))
  (e:s.heap.get? l=some { cls:=.type "list",data:=.seq its.toArray n }) (hf:f its.toArray=its'.toArray) (hv:Vals ys its') (hz:ys.length<=sizeLine) :
  Inv X pins σ (upd H l (.lst ys)) { s with heap:=s.heap.update l (Obj.mapSeq f),toks:=t' }:=by
 have q:=PySem.IsL.update e f
 rw[hf] at q
 refine I.write (x:=l) (e:=l) (by rw[hH];exact trivial) (.inl rfl) (fun b' u hb hu=>(Heap.get?_update_other s.heap (Obj.mapSeq f) (Ne.symm hb)).trans hu) ⟨_,q⟩ ?_
 exact⟨hz,its',_,hv,q⟩
theorem Inv.lnew{its:List Value}{t':Nat}(I:Inv X pins σ H s)(hv:Vals ys its)(hz:ys.length<=sizeLine):
  Inv X pins σ (upd H s.heap.objs.size (.lst ys)) { s with heap:=s.heap.push { cls:=.type "list",data:=.seq its.toArray },toks:=t' } :=
 I.laid (fun _ _ q=>Heap.get?_push_of_some _ q) (Nat.le_refl _) ⟨hz,its,0,hv,Heap.get?_push_size _ rfl⟩
theorem Inv.fresh(I:Inv X pins σ H s):H s.heap.objs.size=none:=I.hok.fresh (Nat.le_refl _)
theorem Inv.lstM(I:Inv X pins σ H s)(hH:H l=some (.lst xs)):xs.length<=sizeLine/\∃(its:List Value) (n:Nat),Vals xs its/\xs.length=its.length/\s.heap.get? l=some { cls:=.type "list",data:=.seq its.toArray n }:=by
 obtain⟨z,its,n,r,e⟩:=I.hok l _ hH
 exact⟨z,its,n,r,r.length,e⟩
theorem Hr{n:Nat}(h:n<=sizeLine):Builtin.List.listTooLong n=false:=by
 unfold Builtin.List.listTooLong
 exact decide_eq_false (by omega)
end
section
variable{X:Cx}
def Xx:V->List V->Hp->VK->Prop:=fun x vs H Q=>∃l xs y,x=.ref l/\vs=[y]/\H l=some (.lst xs)/\xs.length<sizeLine/\Q .non (upd H l (.lst (xs++[y])))
theorem Ro:MtM X "list.append" Xx:=by
 intro pins s σ H x vs v us Q I rx rv h
 obtain⟨l,xs,y,rfl,rfl,hH,hz,q⟩:=h
 cases rx
 obtain⟨u,rfl,ru⟩:=rv.one
 obtain⟨z,its,n,r,hl,e⟩:=I.lstM hH
 refine call_meets F.slot_list_append ⟨_,e,rfl⟩ F.entry_list_append (F.args_list_append_2 _ _) (PySem.list_append l its.toArray n u (by rw[List.size_toArray];omega)) ⟨e,?_⟩
 refine⟨.non,_,I.lset (its':=its++[u]) hH e (by simp) (r.append (.cons ru .nil)) ?_,rfl,q⟩
 rw[List.length_append,List.length_singleton]
 omega
def rPop:V->List V->Hp->VK->Prop:=fun x vs H Q=>∃l xs y,x=.ref l/\vs=[]/\H l=some (.lst xs)/\xs[xs.length - 1]?=some y/\Q y (upd H l (.lst xs.dropLast))
theorem Abl:MtM X "list.pop" rPop:=by
 intro pins s σ H x vs v us Q I rx rv h
 obtain⟨l,xs,y,rfl,rfl,hH,hy,q⟩:=h
 cases rx
 have hus:=rv.zero
 subst hus
 obtain⟨z,its,n,r,hl,e⟩:=I.lstM hH
 obtain⟨u,hu,ru⟩:=r.get hy
 have hy':its.toArray[its.toArray.size - 1]?=some u:=by
  show its.toArray[its.length - 1]?=some u
  rw[<-Array.getElem?_toList,<-hl]
  exact hu
 refine call_meets F.slot_list_pop ⟨_,e,rfl⟩ F.entry_list_pop (F.args_list_pop_1 _) (MeetsSeq.list_pop_last l its.toArray n u hy' (by rw[List.size_toArray];omega)) ⟨e,?_⟩
 refine⟨y,_,I.lset (its':=its.dropLast) hH e ?_ r.dropLast ?_,ru,q⟩
 ·show its.toArray.eraseIdxIfInBounds (its.toArray.size - 1)=its.dropLast.toArray
  rw[List.size_toArray,List.eraseIdxIfInBounds_toArray,N4]
 ·rw[List.length_dropLast]
  omega
def rCat:R2:=fun x y H Q=>∃l b xs zs,x=.ref l/\y=.ref b/\H l=some (.lst xs)/\H b=some (.lst zs)/\xs.length+zs.length<=sizeLine/\∀p,H p=none->Q (.ref p) (upd H p (.lst (xs++zs)))
theorem op_cat:OpR X (binaryOp .Add) rCat:=by
 intro pins s σ H x y v u Q I rx ry h
 obtain⟨l,b,xs,zs,rfl,rfl,hH,hB,hz,q⟩:=h
 cases rx
 cases ry
 obtain⟨z,its,n,r,hl,e⟩:=I.lstM hH
 obtain⟨z2,its2,n2,r2,hl2,e2⟩:=I.lstM hB
 refine PySem.P.add_list e e2 ?_ (by rw[List.size_toArray,List.size_toArray];omega)
 have ea:its.toArray++its2.toArray=(its++its2).toArray:=by simp
 rw[ea]
 exact⟨.ref _,_,I.lnew (t':=s.toks) (r.append r2) (by rw[List.length_append];omega),rfl,q _ I.fresh⟩
def rRep:R2:=fun x y H Q=>∃l k xs,x=.ref l/\y=.int k/\H l=some (.lst xs)/\-(2 ^ 63)<=k/\k<2 ^ 63/\xs.length * k.toNat<=sizeLine ∧
 ∀p,H p=none->Q (.ref p) (upd H p (.lst (List.replicate k.toNat xs).flatten))
theorem O2{α:Type}(xs:List α)(k:Nat):(List.replicate k xs).flatten.length=k * xs.length:=by
 induction k with
 |zero=>simp
 |succ k ih=>rw[List.replicate_succ,List.flatten_cons,List.length_append,ih,Nat.succ_mul,Nat.add_comm]
theorem Acg:OpR X (binaryOp .Mult) rRep:=by
 intro pins s σ H x y v u Q I rx ry h
 obtain⟨l,k,xs,rfl,rfl,hH,h1,h2,hz,q⟩:=h
 cases rx
 obtain⟨t,rfl⟩:=ry
 obtain⟨z,its,n,r,hl,e⟩:=I.lstM hH
 have hlen:its.toArray.size * k.toNat<=sizeLine:=by rw[List.size_toArray,<-hl];exact hz
 have hcap:¬ its.toArray.size * k.toNat > (2 ^ 63 - 1) / 8:=by
  have:(sizeLine:Nat)<=(2 ^ 63 - 1) / 8:=by decide
  omega
 have hfit:¬ (!Builtin.List.listFitsIndex k)=true:=by
  rw[fitsIndex_both h1 h2]
  exact Bool.false_ne_true
 have hlong:¬ Builtin.List.listTooLong (its.toArray.size * k.toNat)=true:=by
  rw[Hr hlen]
  exact Bool.false_ne_true
 have hnew:List.foldl (fun x1 x2=>x1++x2) #[] (List.replicate (if its.toArray.isEmpty=true then 0 else k.toNat) its.toArray)=(List.replicate k.toNat its).flatten.toArray:=by
  have f0:∀m:Nat,List.foldl (fun x1 x2=>x1++x2) #[] (List.replicate m its.toArray)=(List.replicate m its).flatten.toArray:=fun m=>by
   have:=Gi its m []
   rw[List.nil_append] at this
   exact this
  rw[f0]
  cases its with
  |nil=>simp
  |cons a r'=>rw[if_neg (by simp)]
 refine wpAny_binaryOp_repeat_ref (T:="list") (U:="int") (by decide) ⟨_,e,rfl⟩ (fun s'=>typeIs_int s' k t) noFill_list_mul F.fills_int_mul F.slot_int_rmul repeat_list F.slot_int_index.lookup
  (call_meets F.slot_int_rmul (typeIs_int s k t) F.entry_int_rmul (F.args_int_rmul_2 _ _) (int___rmul___int_list k t l its.toArray n)
   ⟨e,rfl,⟨_,e,rfl⟩,call_meets F.slot_list_mul ⟨_,e,rfl⟩ F.entry_list_mul (F.args_list_mul_2 _ _) (AutoListH.list___mul___list_int_3 l its.toArray n k t hfit hcap hlong) ⟨e,?_⟩⟩)
 rw[hnew]
 exact⟨.ref _,_,I.lnew (t':=s.toks) (r.rep k.toNat) (by rw[O2,Nat.mul_comm];exact hz),rfl,q _ I.fresh⟩
end
end L2
namespace Att
open PySem PySem.W PySem.Calls PyProof.Rows
theorem G0{P:Params}{h:Heap}:∀(ns:List Int) (vs:List Value),WellAll P h vs (ns.map WData.int)->IntsAre vs ns:=by
 intro ns
 induction ns with
 |nil =>
  intro vs w
  rw[List.map_nil] at w
  cases w
  exact .nil
 |cons n ns ih =>
  intro vs w
  rw[List.map_cons] at w
  cases w with
  |cons a b =>
   cases a
   exact .cons _ _ (ih _ b)
theorem Ru{l:OpenLaw}{n:Nat}(hn:l.most=some n){P:Params}{h:Heap}{args:List WData}{vals:List Value}
  (hpre:l.row.toRowW.claim.pre args=true) (hwl:WellAll P h vals args) :
  ∃a vs ns,vals=[Value.ref a]/\args=[WData.list (ns.map WData.int)]/\h.get? a=some { cls:=.type "list",data:=.seq vs.toArray }/\IntsAre vs ns/\ns.length<=n:=by
 have hsh:WShape.hasAll [] args [.list .int]=true:=(pre_splitW hpre).1
 have hc:l.pre.holds [] { args:=args }=true:=(pre_splitW hpre).2
 obtain⟨d,r,rfl,h1,h2⟩:=hasAllW_cons hsh
 obtain rfl:=hasAllW_nil h2
 obtain⟨xs,rfl,h3⟩:=hasW_list h1
 obtain⟨ns,rfl⟩:=items_int h3
 have hlen:ns.length<=n:=by
  unfold OpenLaw.pre at hc
  have h4:(WTm.not (.lt (.lit (.int (n:Int))) (.len (.arg 0)))).holds [] { args:=[.list (ns.map .int)] }=true:=by
   have h4:=(holds_andW hc).1
   rw[hn] at h4
   exact h4
  have h5:=condW_of h4 (w_not (w_lt w_lit (w_len_list (w_arg rfl))))
  rw[List.length_map] at h5
  refine Nat.le_of_not_lt fun q=>?_
  have q':(n:Int)<((ns.length:Nat):Int):=by omega
  first
   |(rw[decide_eq_true q'] at h5;exact absurd h5 (by decide))
   |(simp at h5;omega)
 cases hwl with
 |cons w1 w2 =>
  cases w2
  cases w1 with
  |list ho hall=>exact⟨_,_,ns,rfl,rfl,ho,G0 ns _ hall,hlen⟩
theorem Rl(l:OpenLaw)(args:List WData):l.row.toRowW.claim.post args (.bool true) args=true :=
 postW_of (r:=l.row.toRowW) (X:=(true==true))
  (show WShape.has [] (.bool true) .bool=true by first|rfl|decide|simp[WShape.has,WShape.arms,WShape.armsAll])
  (show (WTm.eq .res (.lit (.bool true))).value [] { args:=args,res:=some (.bool true),after:=args }=some (.bool (true==true)) from w_eq_bool (w_res rfl) w_lit) rfl
theorem attach_call{l:OpenLaw}{n:Nat}{q:Program}{loose:List Str}{XP:(Str->Option Value)->Heap->Prop}{YP:World->Heap->Prop}{d:DefRec}
  (hn:l.most=some n) (hdf:d.params.defaults=[])
  (call:∀(w:World) (s₀ s₁:Shared) (mg mb:Str->Option Value) (fa:Addr) (o:Obj) (pm cd doc:Value) (a:Addr) (vs:List Value) (ns:List Int),
   Ground q loose [] XP w s₀ mg mb s₁.heap->YP w s₁.heap →
   s₁.heap.get? fa=some o->o.data=.func (docDef d.name d.params d.body d.scope pm cd doc)->s₁.heap.CodeRec cd d.name->mg d.name=some (.ref fa) →
   s₁.heap.get? a=some { cls:=.type "list",data:=.seq vs.toArray }->IntsAre vs ns->ns.length<=n->s₁.gens=#[] →
   codeAny (model l.prog w) callerA (.call (.ref fa) ⟨[.ref a],[]⟩) (fun r s'=>r=.ok (.ret (.bool true))/\OldK s₁.heap s'.heap/\s'.os=s₁.os/\AllBare s'.gens) s₁) :
  WalkO q loose XP YP l.row.toRowW d [] (fun f vs=>PySem.call f vs):=by
 intro w s₀ s₁ mg mb G Y fa o pm cd doc dV kV ho hd hcd hD hmg hg args vals as hpre hlay hrd hwl hlo
 obtain rfl:dV=.none:=Dflts.none hD hdf
 obtain rfl:kV=.none:=Dflts.noKw hD
 obtain⟨a,vs,ns,rfl,rfl,hobj,hints,hlen⟩:=Ru hn hpre hwl
 refine enter_call (codeAny_mono (call w s₀ s₁ mg mb fa o pm cd doc a vs ns G Y ho (fd_plain hd) hcd hmg hobj hints hlen hg) fun r s' hq=>?_)
 obtain⟨rfl,h2,h3,h4⟩:=hq
 exact⟨.inl ⟨.bool true,.bool true,[],rfl,fun _=>rfl,.bool true,Rl l _,fun _=>⟨List.Pairwise.nil,fun _ hm=>(nomatch hm)⟩⟩,h2,h3,h4⟩
section
variable{prog:Program}{w:World}{A:Around}{E:Value->Shared->Prop}{s:Shared}{K:Frag}
end
end Att
namespace L2
open PySem PySem.Spec PyProof.Rows
theorem Kq:∀{vs:List Value} {ns:List Int},IntsAre vs ns->Vals (ns.map V.int) vs
 |_,_,.nil=>.nil
 |_,_,.cons n t h=>.cons ⟨t,rfl⟩ (Kq h)
def T1(H:Hp):Prop:=∀b,H b=none\/∃o xs,H b=some (.frz o (.lst xs))
theorem T9{P:Program}{w:World}{K:PySem.W.Frag}{mg mb:Str->Option Value}{CX:CXT}{k:Nat}{fa a:Addr}{fd:FuncData}{x:Str}{sp:Sp}{s₁:Shared}{vs:List Value}{ns:List Int}
  (KX:K.In s₁.heap) (hns:s₁.heap.Ns mainGlobals mg) (hb:s₁.heap.Ns builtinsNs mb) (hbb:∀x:Str,x≠"__name__"->mb x=bootBuiltins x) (hlim:s₁.heap.NoLimit) (hg:s₁.gens=#[])
  (ha:s₁.heap.get? a=some { cls:=.type "list",data:=.seq vs.toArray }) (hi:IntsAre vs ns) (hl:ns.length<=sizeLine) (hr:Room k callerA)
  (F:∀base:Heap,K.In base->base.Ns mainGlobals mg->FnOk P w K mg base CX k fa fd [x] sp) (hbind:∀(s:Shared) (u:Value),BindsTo s fd ⟨[u],[]⟩ [(x,u)])
  (hsp:∀H:Hp,T1 H->SqL K H a (ns.map V.int)->sp [.ref a] H (fun v _=>v=.bl true) fun _ _ _=>False)
  (hCX:∀H e s',CX [] H s₁ (fun _ _ _=>False) e s'->False) :
  codeAny (model P w) callerA (.call (.ref fa) ⟨[.ref a],[]⟩) (fun r s'=>r=.ok (.ret (.bool true))/\OldK s₁.heap s'.heap/\s'.os=s₁.os/\AllBare s'.gens) s₁:=by
 have rv:=Kq hi
 have lenV:=hi.length
 have core:∀H:Hp,T1 H->SqL K H a (ns.map V.int)->HOk P w H s₁.heap->(∀b,H b≠none->b=a)->(H a≠none->K.lookup a=none) →
   codeAny (model P w) callerA (.call (.ref fa) ⟨[.ref a],[]⟩) (fun r s'=>r=.ok (.ret (.bool true))/\OldK s₁.heap s'.heap/\s'.os=s₁.os/\AllBare s'.gens) s₁:=by
  intro H hO hS hok hA hK
  have base_of:∀{b:Addr} {o:Obj},s₁.heap.get? b=some o->H b=none->(Kv s₁.heap H).get? b=some o:=fun e n=>Vo e n
  have noA:∀{b:Addr} {o:Obj} {es:Array DictEntry} {ep:Nat},s₁.heap.get? b=some o->o.data=.dict es ep->H b=none:=fun {b o es ep} e d=>by
   cases q:H b with
   |none=>rfl
   |some u =>
    have e':b=a:=hA b (by rw[q];simp)
    subst e'
    rw[ha] at e;cases e
    have d':Data.seq vs.toArray _=Data.dict es ep:=d
    cases d'
  have nsK:∀{b:Addr} {m:Str->Option Value},s₁.heap.Ns b m->(Kv s₁.heap H).Ns b m:=fun {b m} ⟨o,es,ep,e,d,r⟩=>⟨o,es,ep,base_of e (noA e d),d,r⟩
  have hKb:K.In (Kv s₁.heap H):=fun b o e=>base_of (KX b o e) (by
   cases q:H b with
   |none=>rfl
   |some u =>
    have e':b=a:=hA b (by rw[q];simp)
    subst e'
    rw[hK (by rw[q];simp)] at e;cases e)
  have hM:Mod K mg (Kv s₁.heap H):=⟨hKb,nsK hns,⟨mb,nsK hb,hbb⟩,let ⟨mc,h1,h2⟩:=hlim;⟨mc,nsK h1,h2⟩⟩
  have e0:Env0 P w K mg (Kv s₁.heap H) callerA [] s₁ H:=⟨rfl,hM,fun b o e=>Z7 e,Nat.le_of_eq (Sl _ _),trivial,fun b hb=>absurd (show b∈([]:List Addr) from hb) (by simp),hok,.of_eq hg⟩
  refine codeAny_mono ((F _ hKb (nsK hns)).run callerA [] s₁ H ⟨[.ref a],[]⟩ [.ref a] [.ref a] _ _ hr e0 (hbind s₁ (.ref a)) (.cons rfl .nil) (hsp H hO hS)) fun r s' h=>?_
  cases r with
  |error e=>exact(hCX H e s' h).elim
  |ok fl =>
   cases fl with
   |next=>exact False.elim h
   |brk=>exact False.elim h
   |cont=>exact False.elim h
   |ret u =>
    obtain⟨v,H',os,bare,un,hok',r',q⟩:=h
    have q':v=.bl true:=q
    subst q'
    obtain rfl:u=Value.bool true:=r'
    refine⟨rfl,OldK.of_keep fun b o e=>?_,os,bare⟩
    cases q:H b with
    |none=>exact un.keep b o e q (by intro z;exact absurd (show b∈([]:List Addr) from z) (by simp)) (by simp)
    |some u =>
     rcases hO b with z|⟨ob,xs,z⟩
     ·rw[q] at z;cases z
     ·have z2:=un.frzs b ob _ z
      obtain⟨e1,_⟩:=hok b _ z
      obtain⟨e2,_⟩:=hok' b _ z2
      rw[e] at e1;cases e1
      exact e2
 cases hk:K.lookup a with
 |some o =>
  have e:=KX a o hk
  rw[ha] at e
  cases e
  refine core (fun _=>none) (fun _=>.inl rfl) (.inr ⟨_,vs.toArray,_,hk,rfl,rfl,rfl,by rw[List.size_toArray,lenV];exact hl,by simpa using rv⟩) (fun b u z=>by have z':(none:Option HO)=some u:=z;cases z') (fun b z=>absurd rfl z) fun z=>absurd rfl z
 |none =>
  refine core (fun b=>if b=a then some (.frz { cls:=.type "list",data:=.seq vs.toArray } (.lst (ns.map V.int))) else none) (fun b=>?_) (.inl (.inr ⟨{ cls:=.type "list",data:=.seq vs.toArray },if_pos rfl⟩)) (fun b u z=>?_) (fun b z=>?_) fun _=>hk
  ·by_cases hb:b=a
   ·exact .inr ⟨_,_,if_pos hb⟩
   ·exact .inl (if_neg hb)
  ·by_cases hb:b=a
   ·have z':=(if_pos hb).symm.trans z
    cases z'
    subst hb
    exact⟨ha,by rw[List.length_map];exact hl,vs,_,rv,ha⟩
   ·have z':=(if_neg hb).symm.trans z
    cases z'
  ·by_cases hb:b=a
   ·exact hb
   ·exact absurd (if_neg hb) z
end L2
namespace L2
open PySem PySem.Spec PyProof.Rows
abbrev KOf{K:PySem.W.Frag}{h:Heap}(_:K.In h):PySem.W.Frag:=K
theorem W9{l:PySem.W.OpenLaw}{n k:Nat}{q:Program}{loose:List Str}{XP:(Str->Option Value)->Heap->Prop}{YP:World->Heap->Prop}{d:DefRec}{K:Params->PySem.W.Frag}{CX:World->CXT}{sp:World->Sp}{x:Str}
  (hn:l.most=some n) (hn2:n<=sizeLine) (hdf:d.params.defaults=[]) (hr:Room k callerA)
  (hY:∀(w:World) (h:Heap),YP w h->(K w.params).In h)
  (F:∀(w:World) (mg:Str->Option Value) (fa:Addr) (h:Heap),(K w.params).In h->h.Ns mainGlobals mg->mg d.name=some (.ref fa) →
   ∃fd:FuncData,(∀(s:Shared) (u:Value),BindsTo s fd ⟨[u],[]⟩ [(x,u)]) ∧
    ∀base:Heap,(K w.params).In base->base.Ns mainGlobals mg->FnOk l.prog w (K w.params) mg base (CX w) k fa fd [x] (sp w))
  (hsp:∀(w:World) (H:Hp) (a:Addr) (ns:List Int),ns.length<=n->T1 H->SqL (K w.params) H a (ns.map V.int)->sp w [.ref a] H (fun v _=>v=.bl true) fun _ _ _=>False)
  (hCX:∀(w:World) (H:Hp) (s:Shared) (e:Value) (s':Shared),CX w [] H s (fun _ _ _=>False) e s'->False) :
  PySem.W.WalkO q loose XP YP l.row.toRowW d [] (fun f vs=>PySem.call f vs):=by
 refine Att.attach_call hn hdf fun w s₀ s₁ mg mb fa o pm cd doc a vs ns G Y ho hd hcd hmg hobj hints hlen hg=>?_
 have KX:=hY w _ Y
 obtain⟨fd,hb,hF⟩:=F w mg fa _ KX G.T.g hmg
 exact T9 KX G.T.g G.T.b G.T.builtins G.T.nolimit hg hobj hints (Nat.le_trans hlen hn2) hr hF hb (fun H hO hS=>hsp w H a ns hlen hO hS) fun H e s'=>hCX w H s₁ e s'
theorem Wg{l:PySem.W.OpenLaw}{n k:Nat}{q:Program}{loose:List Str}{XP:(Str->Option Value)->Heap->Prop}{YP:World->Heap->Prop}{d:DefRec}{K:Params->PySem.W.Frag}{CX:CXT}{sp:PySem.W.Frag->Sp}{x:Str}
  (hn:l.most=some n) (hn2:n<=sizeLine) (hdf:d.params.defaults=[]) (hr:Room k callerA)
  (hY:∀(w:World) (h:Heap),YP w h->(K w.params).In h)
  (F:∀(w:World) (mg:Str->Option Value) (fa:Addr) (h:Heap),(K w.params).In h->h.Ns mainGlobals mg->mg d.name=some (.ref fa) →
   ∃fd:FuncData,(∀(s:Shared) (u:Value),BindsTo s fd ⟨[u],[]⟩ [(x,u)]) ∧
    ∀base:Heap,(K w.params).In base->base.Ns mainGlobals mg->FnOk l.prog w (K w.params) mg base CX k fa fd [x] (sp (K w.params)))
  (hsp:∀(K:PySem.W.Frag) (H:Hp) (a:Addr) (ns:List Int),ns.length<=n->T1 H->SqL K H a (ns.map V.int)->sp K [.ref a] H (fun v _=>v=.bl true) fun _ _ _=>False)
  (hCX:∀(H:Hp) (s:Shared) (e:Value) (s':Shared),CX [] H s (fun _ _ _=>False) e s'->False) :
  PySem.W.WalkO q loose XP YP l.row.toRowW d [] (fun f vs=>PySem.call f vs) :=
 W9 (K:=K) (CX:=fun _=>CX) (sp:=fun w=>sp (K w.params)) hn hn2 hdf hr hY F (fun w H a ns h1 h2 h3=>hsp (K w.params) H a ns h1 h2 h3) fun _ H s e s'=>hCX H s e s'
end L2
namespace L2
open PySem PySem.Spec PyProof.Rows
def Bw(s:Stmt):Arguments:=match s with
 | .FunctionDef _ a _ _ _ _ _ _ _ _=>a
 |_=>{ posonlyargs:=[],args:=[],vararg:=none,kwonlyargs:=[],kw_defaults:=[],kwarg:=none,defaults:=[] }
def defBody(s:Stmt):List Stmt:=match s with
 | .FunctionDef _ _ b _ _ _ _ _ _ _=>b
 |_=>[]
def Zb(s:Stmt):Scope:=match s with
 | .FunctionDef _ _ _ _ _ _ sc _ _ _=>sc
 |_=>{ kind:=.function,names:=[],isGenerator:=false,isCoroutine:=false }
abbrev CX0:CXT:=fun _ _ _ _ _ _=>False
abbrev E0:XK:=fun _ _ _=>False
theorem V8{X:Cx}:Dn CX0 X E0:=fun _ _ _ _ _ _ _ h=>h.elim
structure Fun(K:PySem.W.Frag)(x qual:Str)(st:Stmt)(f:Addr)(fd:FuncData):Prop where
 ex:∃(oc:Value) (od:Option Addr) (kV doc pm:Value) (an:Option Addr) (cdv ct:Value) (osl:Array (Option Value)),
  fd=PySem.W.fnOf x qual (Bw st) (defBody st) (Zb st) .none kV doc pm an cdv ct/\K.lookup f=some ⟨oc,od,.func fd,osl⟩/\PySem.W.codeIn K cdv qual=true
 kp:PySem.W.keepIn K (.ref f)=true
section
variable{P:Program}{w:World}{K:PySem.W.Frag}{mg:Str->Option Value}{base:Heap}
theorem Fun.ok{x qual:Str}{st:Stmt}{f:Addr}{fd:FuncData}{N ps:List Str}{k:Nat}{sp:Sp}(F:Fun K x qual st f fd)(S:Zv N ps (Zb st))(len:∀vs H Q E,sp vs H Q E->vs.length=ps.length)
  (hbody:∀(cdv:Value) (A:Around) (outer:List Env) (s:Shared) (H:Hp) (vs:List V) (Q:VK) (E:XK),Room k (A.deeper (envOfC qual (Zb st) s.heap.objs.size f cdv))->sp vs H Q E →
   ∃t,PSs (cxOf CX0 P w K mg base N qual (Zb st) f cdv A outer s H E).nox (defBody st) t/\t { nx:=fun _ H'=>Q .non H',rt:=Q } (start N vs) H):FnOk P w K mg base CX0 (k+1) f fd ps sp:=by
 obtain⟨oc,od,kV,doc,pm,an,cdv,ct,osl,rfl,lk,hcd⟩:=F.ex
 refine Z9 lk hcd S len fun A outer s H vs Q E hr hsp=>?_
 obtain⟨t,h,q⟩:=hbody cdv A outer s H vs Q E hr hsp
 exact⟨t,h.nox,q⟩
theorem Fun.binds{x qual:Str}{st:Stmt}{f:Addr}{fd:FuncData}{ps:List Str}(F:Fun K x qual st f fd)
  (h:∀(kV doc pm:Value) (an:Option Addr) (cdv ct:Value) (us:List Value),us.length=ps.length->bindArgs (PySem.W.fnOf x qual (Bw st) (defBody st) (Zb st) .none kV doc pm an cdv ct) ⟨us,[]⟩=pure (ps.zip us)):Binds K fd ps []:=by
 obtain⟨oc,od,kV,doc,pm,an,cdv,ct,osl,rfl,lk,hcd⟩:=F.ex
 exact .all (h kV doc pm an cdv ct)
theorem Ge{x qual:Str}{st:Stmt}{f:Addr}{oc:Value}{od an:Option Addr}{osl:Array (Option Value)}{kV doc pm cdv ct:Value}(l:K.lookup f=some ⟨oc,od,.func (PySem.W.fnOf x qual (Bw st) (defBody st) (Zb st) .none kV doc pm an cdv ct),osl⟩)
  (c:PySem.W.codeIn K cdv qual=true) (k:PySem.W.keepIn K (.ref f)=true):Fun K x qual st f (PySem.W.fnOf x qual (Bw st) (defBody st) (Zb st) .none kV doc pm an cdv ct):=⟨⟨oc,od,kV,doc,pm,an,cdv,ct,osl,rfl,l,c⟩,k⟩
end
theorem Xo{n:Nat}(h:n<=1000):n<sizeLine:=Nat.lt_of_le_of_lt h (by decide)
end L2
namespace L2
open PySem PySem.Spec PyProof.Rows
section
variable{κ:Type}[DecidableEq κ]
theorem Pf:∀{l:List κ} {k:κ},l.Nodup->¬ k∈l->(l++[k]).Nodup
 |[],k,_,_=>by simp
 |a::r,k,h,hk=>by
  obtain⟨h1,h2⟩:=List.nodup_cons.mp h
  show (a::(r++[k])).Nodup
  refine List.nodup_cons.mpr ⟨fun m=>?_,Pf h2 fun m=>hk (List.mem_cons.mpr (Or.inr m))⟩
  rcases List.mem_append.mp m with q|q
  ·exact h1 q
  ·exact hk (List.mem_cons.mpr (Or.inl (List.mem_singleton.mp q).symm))
end
end L2
end
end
section
namespace L2
open PySem PySem.Spec PyProof.Rows
def clOf(names:List (Str×NameKind))(cells:List (Str×Addr))(acc:List (Str×Addr)):List (Str×Addr) :=
 match names with
 |[]=>acc
 |(n,k)::r=>clOf r cells (if k==.free then (n,(cells.lookup n).getD 0)::acc else acc)
def Xl(X:Cx)(N:List Str)(scope:Scope)(C:Addr)(s:Shared)(H:Hp)(fp:List Addr)(pins:List (Addr×Obj)):Cx where
 prog:=X.prog
 w:=X.w
 K:=X.K
 mg:=X.mg
 base:=X.base
 A:=X.A
 N:=N
 s₀:=s
 H₀:=H
 env:=compEnvC scope (clOf scope.names X.env.cells []) C X.env
 outer:=X.stack
 stack:=X.stack
 ex:=fp
 fn:=fun _=>false
 calm:=X.calm
 pn:=X.pn++pins
 xe:=fun _ _=>False
def scopeOk(on:List (Str×NameKind))(cn:List (Str×NameKind)):Bool :=
 cn.all fun y=>y.2 != .cell&&(y.2 != .free || (on.lookup y.1==some .cell || on.lookup y.1==some .free))&&(y.2 != .local || cn.lookup y.1==some .local)&&(y.2 != .free || cn.lookup y.1==some .free)
def Dx(XN:List Str)(cn:List (Str×NameKind))(N:List Str)(pick:List (Option Nat)):Bool :=
 N.length==pick.length&&(N.zip pick).all fun y=>match y.2 with
  |none=>true
  |some j=>XN[j]?==some y.1&&cn.lookup y.1==some .free
def Xq(pick:List (Option Nat))(σ:St):St:=pick.map fun o=>match o with
 |none=>none
 |some j=>match σ[j]? with
  |some (some v)=>some v
  |_=>none
theorem Lh{k l:NameKind}(h:(k != l)=true):k≠l:=by
 intro e;subst e;cases k <;> cases h
theorem G7{k l:NameKind}(h:(k==l)=true):k=l:=by
 cases k <;> cases l <;> first|rfl|cases h
theorem E4{k:Option NameKind}{l:NameKind}(h:(k==some l)=true):k=some l:=by
 cases k with
 |none=>cases h
 |some k=>exact congrArg some (G7 h)
section
variable{on cn:List (Str×NameKind)}
theorem scopeOk.cell(h:scopeOk on cn=true):∀y∈cn,y.2≠.cell:=fun y hy=>by
 have q:=List.all_eq_true.mp h y hy
 simp only[Bool.and_eq_true] at q
 exact Lh q.1.1.1
theorem scopeOk.out(h:scopeOk on cn=true):∀y∈cn,y.2=.free->on.lookup y.1=some .cell\/on.lookup y.1=some .free:=fun y hy e=>by
 have q:=List.all_eq_true.mp h y hy
 simp only[Bool.and_eq_true,Bool.or_eq_true] at q
 rcases q.1.1.2 with z|z
 ·exact absurd e (Lh z)
 ·rcases z with z|z
  ·exact .inl (E4 z)
  ·exact .inr (E4 z)
theorem scopeOk.loc(h:scopeOk on cn=true):∀y∈cn,y.2=.local->cn.lookup y.1=some .local:=fun y hy e=>by
 have q:=List.all_eq_true.mp h y hy
 simp only[Bool.and_eq_true,Bool.or_eq_true] at q
 rcases q.1.2 with z|z
 ·exact absurd e (Lh z)
 ·exact E4 z
end
theorem Fu{cells:List (Str×Addr)}{x:Str}{c:Addr}:∀{names:List (Str×NameKind)} {acc:List (Str×Addr)},(∀y∈names,y.2=NameKind.free->(cells.lookup y.1).isSome=true) →
  (acc.lookup x=some c->cells.lookup x=some c)->(clOf names cells acc).lookup x=some c->cells.lookup x=some c
 |[],acc,_,ha,h=>ha h
 |(n,k)::r,acc,hf,ha,h=>by
  refine Fu (names:=r) (fun y hy e=>hf y (List.mem_cons_of_mem _ hy) e) ?_ h
  intro h'
  by_cases hk:(k==NameKind.free)=true
  ·rw[if_pos hk,List.lookup_cons] at h'
   cases e:(x==n) with
   |true =>
    rw[e] at h'
    have en:x=n:=by simpa using e
    subst en
    have q:=hf (x,k) List.mem_cons_self (G7 hk)
    obtain⟨d,hd⟩:=Option.isSome_iff_exists.mp q
    have hd':cells.lookup x=some d:=hd
    rw[hd'] at h' ⊢
    exact h'
   |false =>
    rw[e] at h'
    exact ha h'
  ·rw[if_neg hk] at h'
   exact ha h'
theorem Hf{cells:List (Str×Addr)}{x:Str}:∀{names:List (Str×NameKind)} {acc:List (Str×Addr)},((acc.lookup x).isSome=true\/∃y∈names,y.1=x/\y.2=NameKind.free)->((clOf names cells acc).lookup x).isSome=true
 |[],acc,h=>by
  rcases h with h|⟨y,hy,_⟩
  ·exact h
  ·cases hy
 |(n,k)::r,acc,h=>by
  refine Hf (names:=r) ?_
  by_cases hk:(k==NameKind.free)=true
  ·rw[if_pos hk,List.lookup_cons]
   rcases h with h|⟨y,hy,e1,e2⟩
   ·cases e:(x==n) with
    |true=>exact .inl rfl
    |false=>exact .inl h
   ·rcases List.mem_cons.mp hy with z|z
    ·subst z
     have:(x==n)=true:=by simpa using e1.symm
     rw[this]
     exact .inl rfl
    ·exact .inr ⟨y,z,e1,e2⟩
  ·rw[if_neg hk]
   rcases h with h|⟨y,hy,e1,e2⟩
   ·exact .inl h
   ·rcases List.mem_cons.mp hy with z|z
    ·subst z
     exfalso
     apply hk
     have e2':k=NameKind.free:=e2
     rw[e2']
     rfl
    ·exact .inr ⟨y,z,e1,e2⟩
structure Relab(f:Str×NameKind->Str×NameKind):Prop where
 nm:∀y,(f y).1=y.1
 kd:∀y,(f y).2=y.2\/(y.2=.free/\(f y).2=.cell)
theorem Relab.lookup{f:Str×NameKind->Str×NameKind}(R:Relab f){x:Str}:∀names:List (Str×NameKind),(names.map f).lookup x=names.lookup x\/(names.lookup x=some .free/\(names.map f).lookup x=some .cell)
 |[]=>.inl rfl
 |y::r=>by
  obtain⟨n,k⟩:=y
  have h1:=R.nm (n,k)
  have h2:=R.kd (n,k)
  rw[List.map_cons]
  generalize f (n,k)=z at h1 h2
  obtain⟨n',k'⟩:=z
  have h1:n'=n:=h1
  have h2:k'=k\/(k=.free/\k'=.cell):=h2
  subst h1
  rw[List.lookup_cons,List.lookup_cons]
  cases e:(x==n') with
  |true =>
   rcases h2 with h2|⟨h2,h3⟩
   ·subst h2;exact .inl rfl
   ·subst h2;subst h3;exact .inr ⟨rfl,rfl⟩
  |false=>exact R.lookup r
theorem relab(env:Env):Relab (fun y:Str×NameKind=>if (y.2==NameKind.free&&env.scope.kind==.function&&env.kindOf y.1==some .cell)=true then (y.1,NameKind.cell) else (y.1,y.2)) where
 nm:=fun y=>by
  by_cases h:(y.2==NameKind.free&&env.scope.kind==.function&&env.kindOf y.1==some .cell)=true
  ·rw[if_pos h]
  ·rw[if_neg h]
 kd:=fun y=>by
  by_cases h:(y.2==NameKind.free&&env.scope.kind==.function&&env.kindOf y.1==some .cell)=true
  ·rw[if_pos h]
   simp only[Bool.and_eq_true] at h
   exact .inr ⟨G7 h.1.1,rfl⟩
  ·rw[if_neg h]
   exact .inl rfl
theorem Ek(scope:Scope)(env:Env):(relabel scope env).names=scope.names.map (fun y:Str×NameKind=>if (y.2==NameKind.free&&env.scope.kind==.function&&env.kindOf y.1==some .cell)=true then (y.1,NameKind.cell) else (y.1,y.2)):=rfl
theorem relabel_lookup{scope:Scope}{env:Env}{x:Str}{k:NameKind}(h:(relabel scope env).names.lookup x=some k):
  scope.names.lookup x=some k\/(k=.cell/\scope.names.lookup x=some .free):=by
 rw[Ek] at h
 rcases(relab env).lookup (x:=x) scope.names with q|⟨q1,q2⟩
 ·rw[q] at h;exact .inl h
 ·rw[q2] at h;cases h;exact .inr ⟨rfl,q1⟩
theorem Kw{scope:Scope}{env:Env}{x:Str}(h:scope.names.lookup x=some .free):(relabel scope env).names.lookup x=some .cell\/(relabel scope env).names.lookup x=some .free:=by
 rw[Ek]
 rcases(relab env).lookup (x:=x) scope.names with q|⟨q1,q2⟩
 ·rw[q];exact .inr h
 ·exact .inl q2
end L2
end
section
namespace L2
open PySem PySem.Spec PyProof.Rows
theorem Et(env:Env):∀(names:List (Str×NameKind)) (acc:List (Str×Addr)),(∀y∈names,y.2=NameKind.free->(env.cells.lookup y.1).isSome=true) →
  (forIn names acc (fun (x:Str×NameKind) (cs:List (Str×Addr))=>if (x.2==NameKind.free)=true then (do let a ← cellOf env x.1;pure (ForInStep.yield ((x.1,a)::cs))) else pure (ForInStep.yield cs)):Sem (List (Str×Addr)))=pure (clOf names env.cells acc)
 |[],acc,_=>rfl
 |(n,k)::r,acc,h=>by
  rw[List.forIn_cons]
  by_cases hk:(k==NameKind.free)=true
  ·obtain⟨c,hc⟩:=Option.isSome_iff_exists.mp (h (n,k) List.mem_cons_self (G7 hk))
   have hc':env.cells.lookup n=some c:=hc
   have e:cellOf env n=pure c:=by unfold cellOf;rw[hc']
   simp only[hk,if_true]
   rw[e]
   have ih:=Et env r ((n,c)::acc) fun y hy z=>h y (List.mem_cons_of_mem _ hy) z
   have e2:clOf ((n,k)::r) env.cells acc=clOf r env.cells ((n,c)::acc):=by
    show clOf r env.cells (if (k==NameKind.free)=true then (n,(env.cells.lookup n).getD 0)::acc else acc)=_
    rw[if_pos hk,hc']
    rfl
   rw[e2,<-ih]
   rfl
  ·have hk':(k==NameKind.free)=false:=by cases q:(k==NameKind.free) with
    |true=>exact absurd q hk
    |false=>rfl
   simp only[hk']
   have ih:=Et env r acc fun y hy z=>h y (List.mem_cons_of_mem _ hy) z
   have e2:clOf ((n,k)::r) env.cells acc=clOf r env.cells acc:=by
    show clOf r env.cells (if (k==NameKind.free)=true then (n,(env.cells.lookup n).getD 0)::acc else acc)=_
    rw[if_neg hk]
   rw[e2,<-ih]
   rfl
theorem Jd{scope:Scope}{env:Env}(h:∀y∈scope.names,y.2=NameKind.free->(env.cells.lookup y.1).isSome=true):closureFor scope env=pure (clOf scope.names env.cells []):=by
 have e:=Et env scope.names [] h
 have b:closureFor scope env=((forIn scope.names ([]:List (Str×Addr)) (fun (x:Str×NameKind) (cs:List (Str×Addr))=>if (x.2==NameKind.free)=true then (do let a ← cellOf env x.1;pure (ForInStep.yield ((x.1,a)::cs))) else pure (ForInStep.yield cs)):Sem (List (Str×Addr))) >>= fun r=>pure r):=rfl
 rw[b,e]
 rfl
section
variable{X:Cx}{pins:List (Addr×Obj)}{σ:St}{H:Hp}{s:Shared}
theorem Fo(I:Inv X pins σ H s){scope:Scope}(hs:scopeOk X.env.scope.names scope.names=true):∀y∈scope.names,y.2=NameKind.free->(X.env.cells.lookup y.1).isSome=true:=fun y hy e=>by
 obtain⟨c,hc⟩:=I.ok.has y.1 (scopeOk.out hs y hy e)
 rw[hc];rfl
theorem Tc(I:Inv X pins σ H s){N:List Str}{scope:Scope}{pick:List (Option Nat)}{fp:List Addr}{C D:Addr}{h₁:Heap}{tk:Nat}{ob:Obj}
  (hs:scopeOk X.env.scope.names scope.names=true) (hp:Dx X.N scope.names N pick=true) (hk:scope.kind=.function)
  (hf:∀b∈fp,FpOk X pins H b) (ho:∀b∈fp,∃o,s.heap.get? b=some o/\∀v,o.data≠.cell v)
  (hC:s.heap.objs.size<=C) (hD:s.heap.objs.size<=D) (hDC:D≠C) (keep:∀b o,s.heap.get? b=some o->h₁.get? b=some o)
  (ns:h₁.Ns C fun _=>none) (hl:h₁.get? D=some ob) (hob:∀v,ob.data≠.cell v) :
  Inv (Xl X N scope C s H fp pins) [(D,ob)] (Xq pick σ) H { s with heap:=h₁,toks:=tk }:=by
 have cells:=Fo I hs
 have sub:∀x c,(clOf scope.names X.env.cells []).lookup x=some c->X.env.cells.lookup x=some c:=fun x c e=>Fu cells (fun z=>by cases z) e
 have lt:∀{b o},s.heap.get? b=some o->b<s.heap.objs.size:=fun e=>Heap.lt_size e
 simp only[Dx,Bool.and_eq_true] at hp
 obtain⟨hpl,hpa⟩:=hp
 have hpl:N.length=pick.length:=by simpa using hpl
 have ok:(Xl X N scope C s H fp pins).Ok:=by
  refine⟨I.ok.mod,hk,I.ok.glob,I.ok.blt,hC,fun x y c e1 e2=>I.ok.inj x y c (sub x c e1) (sub y c e2),fun x hx=>?_,fun x c e _=>?_,I.ok.hd,I.ok.frames,.inl rfl,fun b hb=>⟨?_,fun x c e=>?_⟩,I.bs,Nat.le_trans I.ok.bsz I.sz,fun b o e hb=>?_,fun b hb hb'=>?_,I.stack,I.stkFree⟩
  ·have hfree:scope.names.lookup x=some .free:=by
    rcases hx with z|z
    ·rcases relabel_lookup z with q|⟨_,q⟩
     ·exact absurd rfl (scopeOk.cell hs _ (PySem.mem_of_lookup q))
     ·exact q
    ·rcases relabel_lookup z with q|⟨q,_⟩
     ·exact q
     ·cases q
   exact Option.isSome_iff_exists.mp (Hf (.inr ⟨_,PySem.mem_of_lookup hfree,rfl,rfl⟩))
  ·cases e
  ·obtain⟨o,e,_⟩:=ho b hb
   exact Nat.ne_of_lt (Nat.lt_of_lt_of_le (lt e) hC)
  ·exact(hf b hb).2.2.2.2.1 x c (sub x c e)
  ·rcases(hf b hb).2.2.2.1 with z|z
   ·exact I.ok.noex b o e z
   ·exact absurd (Nat.lt_of_lt_of_le (Heap.lt_size (I.ok.bs b o e).1) z) (Nat.lt_irrefl _)
  ·rcases List.mem_cons.mp (I.stkSub b hb') with z|z
   ·exact(hf b hb).2.1 z
   ·exact(hf b hb).2.2.1 z
 have fresh:∀{a:Addr},s.heap.objs.size<=a->H a=none:=fun h=>I.hok.fresh h
 have nst:∀{a:Addr},s.heap.objs.size<=a->a ∉ frs X.stack:=fun {a} h hb=>by
  rcases List.mem_cons.mp (I.stkSub _ hb) with z|z
  ·rw[z] at h
   exact absurd (Nat.lt_of_lt_of_le I.lt h) (Nat.lt_irrefl _)
  ·exact I.nofs h z
 refine⟨ok,rfl,I.bare,Un.kept keep,⟨_,ns,fun i x v e1 e2 e3=>?_⟩,fun x c e=>?_,fresh hC,fun x c e=>I.freeC x c (sub x c e),fun p hp=>?_,I.hok.kept keep,?_⟩
 ·-- a free name's value is the cell's
  have e2:(Xq pick σ)[i]?=some (some v):=e2
  have e1:N[i]?=some x:=e1
  unfold Xq at e2
  rw[List.getElem?_map] at e2
  cases ep:pick[i]? with
  |none=>rw[ep] at e2;cases e2
  |some o =>
   rw[ep] at e2
   cases o with
   |none=>cases e2
   |some j =>
    have hz:(x,some j)∈N.zip pick:=by
     have:=List.getElem?_zip_eq_some (l₁:=N) (l₂:=pick) (i:=i) (z:=(x,some j))
     exact List.mem_of_getElem? (this.mpr ⟨e1,ep⟩)
    have q:=List.all_eq_true.mp hpa _ hz
    simp only[Bool.and_eq_true] at q
    have qN:X.N[j]?=some x:=by simpa using q.1
    have qF:scope.names.lookup x=some .free:=E4 q.2
    have eσ:σ[j]?=some (some v):=by
     cases eo:σ[j]? with
     |none=>simp only[eo,Option.map_some,Option.some.injEq] at e2;cases e2
     |some ov =>
      cases ov with
      |none=>simp only[eo,Option.map_some,Option.some.injEq] at e2;cases e2
      |some v'=>simp only[eo,Option.map_some,Option.some.injEq] at e2;rw[e2]
    have ok':=scopeOk.out hs _ (PySem.mem_of_lookup qF) rfl
    obtain⟨m,hn,hl'⟩:=I.loc
    obtain⟨u,r,l⟩:=hl' j x v qN eσ (.inr ok')
    refine⟨u,r,?_⟩
    rcases l with⟨k,_⟩|⟨k,c,hc,hcell⟩
    ·have k':X.env.scope.names.lookup x=some .local:=k
     rcases ok' with z|z
     ·rw[z] at k';cases k'
     ·rw[z] at k';cases k'
    ·obtain⟨c',hc'⟩:=Option.isSome_iff_exists.mp (Hf (cells:=X.env.cells) (x:=x) (acc:=[]) (.inr ⟨_,PySem.mem_of_lookup qF,rfl,rfl⟩))
     have e':=sub x c' hc'
     rw[hc] at e';cases e'
     obtain⟨o,ho',hd'⟩:=hcell
     exact .inr ⟨Kw qF,c,hc',⟨o,keep c o ho',hd'⟩⟩
 ·obtain⟨v,o,ho',hd'⟩:=I.cell x c (sub x c e)
  exact⟨v,o,keep c o ho',hd'⟩
 ·have hp:p∈(X.pn++pins)++[(D,ob)]:=hp
  rcases List.mem_append.mp hp with z|z
  ·obtain⟨a1,a2,a3,a4,a5⟩:=I.pin p z
   refine⟨keep _ _ a1,a2,Nat.ne_of_lt (Nat.lt_of_lt_of_le (lt a1) hC),fun hb=>?_,a5⟩
   rcases List.mem_cons.mp (I.stkSub _ hb) with y|y
   ·exact a3 y
   ·exact a4 y
  ·have z:p=(D,ob):=List.mem_singleton.mp z
   subst z
   exact⟨hl,fresh hD,hDC,nst hD,hob⟩
 ·show (Xq pick σ).length=N.length
  unfold Xq
  rw[List.length_map,hpl]
end
theorem Oy{prog:Program}{w:World}{A:Around}{R:Result->Shared->Prop}{s:Shared}{elt tg iter:Expr}{ifs:List Expr}{scope:Scope}{pos:Pos}{it acc:Value}{env:Env}(J:Nat->Shared->Prop)
  (turn:∀n s,J n s->wpAny (model prog w) A (pyNext it) (fun r s₁=>match r with
   |none=>R (.ok .next) s₁
   |some v=>wpAny (model prog w) A (letOwnedTupleGo tg it v) (fun _ s₂=>wpAny (model prog w) A (assign tg env v) (fun _ s₃ =>
     wpAny (model prog w) A (forIn ifs true fun c r=>if r=true then do let ok ← isTrue c env (eval c env);pure (ForInStep.yield ok) else pure (ForInStep.yield r)) (fun ok s₄ =>
      if ok=true then wpAny (model prog w) A (eval elt env) (fun x s₅=>wpAny (model prog w) A (call (.builtin "list.append") [acc,x]) (fun _ s₆=>∃m,m<n/\J m s₆) (fun _ _=>False) s₅) (fun _ _=>False) s₄
      else ∃m,m<n/\J m s₄) (fun _ _=>False) s₃) (fun _ _=>False) s₂) (fun _ _=>False) s₁) (fun _ _=>False) s)
  (n:Nat) (h:J n s):codeAny (model prog w) A (.compLoop (.ListComp elt [⟨tg,iter,ifs,0⟩] scope pos) 0 it acc env) R s:=by
 have no:∀{E:Value->Shared->Prop} (x:Value) (s':Shared),False->E x s':=fun _ _ z=>z.elim
 refine codeAny_loop rfl J (fun k s' hJ=>?_) n h
 show wpAny (model prog w) A ((compTurn (.ListComp elt [⟨tg,iter,ifs,0⟩] scope pos) 0 it acc env).onRaise (fun e=>do noteFrame e env;theTreesLotGoes e)) _ _ s'
 refine wpAny_noted ?_
 rw[compTurn_list]
 refine wpAny_bind (wpAny_standAt (wpAny_bind (wpAny_mono (turn k s' hJ) (fun r s₁ h₁=>?_) no)))
 cases r with
 |none=>exact wpAny_pure h₁
 |some v =>
  refine wpAny_bind (wpAny_mono h₁ (fun _ s₂ h₂=>?_) no)
  refine wpAny_bind (wpAny_mono h₂ (fun _ s₃ h₃=>?_) no)
  refine wpAny_bind (wpAny_mono h₃ (fun ok s₄ h₄=>?_) no)
  cases ok with
  |true =>
   simp only[if_true] at h₄ ⊢
   exact wpAny_bind (wpAny_bind (wpAny_mono h₄ (fun x s₅ h₅=>wpAny_bind (wpAny_mono h₅ (fun _ s₆ h₆=>wpAny_pure (wpAny_pure ⟨rfl,h₆⟩)) no)) no))
  |false =>
   simp only[Bool.false_eq_true,if_false] at h₄ ⊢
   exact wpAny_bind (wpAny_pure (wpAny_pure ⟨rfl,h₄⟩))
theorem HOk.track{P:Program}{w:World}{H:Hp}{h:Heap}{a:Addr}{o:HO}(x:HOk P w H h)(hn:H a=none)(new:ObjOk P w (upd H a o) h a o):HOk P w (upd H a o) h:=fun b u e=>by
 by_cases hb:b=a
 ·subst hb;rw[A4] at e;cases e;exact new
 ·rw[Xc hb] at e
  exact(x b u e).stay (fun c v _ q=>q) (fun c q=>by rw[Xc (Xa q hn)];exact q) fun c xs q=>by rw[Xc (Xa q hn)];exact q
end L2
end
section
namespace L2
open PySem PySem.Spec PyProof.Rows
def PTs(X:Cx)(ifs:List Expr)(t:TT):Prop :=
 ∀(pins:List (Addr×Obj)) (s:Shared) (σ:St) (H:Hp) (Q:Bool->Hp->Prop),Inv X pins σ H s->t σ H Q →
  wpAny (model X.prog X.w) X.A (forIn ifs true fun c r=>if r=true then do let ok ← isTrue c X.env (eval c X.env);pure (ForInStep.yield ok) else pure (ForInStep.yield r)) (TP X pins σ Q) X.xe s
def tYes:TT:=fun _ H Q=>Q true H
theorem X1{X:Cx}:PTs X [] tYes:=fun _ _ _ H _ I h=>wpAny_tests_nil ⟨H,I,h⟩
theorem Yk{X:Cx}{c:Expr}{t:TT}(h:PT X c t):PTs X [c] t:=fun pins s σ H Q I q=>wpAny_tests_one (h pins s σ H Q I q)
def Keep(σ σ':St):Prop:=σ'.length=σ.length/\∀(i:Nat) v,σ[i]?=some (some v)->σ'[i]?=some (some v)
def Pb(pick:List (Option Nat))(wi:TI)(g:TG)(tc:TT)(te:TE):TE:=fun σ H Q=>wi σ H fun J H1=>∃W:Nat->Nat->List V->Hp->Prop,(∃m,W 0 m [] H1)/\∀i m acc H,W i m acc H →
 (J.stop i H/\acc.length<=sizeLine/\∀p,H p=none->Q (.ref p) (upd H p (.lst acc))) ∨
 (J.go i H/\acc.length<sizeLine/\∃Nx:List V->Hp->Prop,(∀acc' H',Nx acc' H'->∃m',m'<m/\W (i+1) m' acc' H') ∧
  ∀x H',J.yld i H x H'->g x (Xq pick σ) H' fun σ2 H2=>Keep (Xq pick σ) σ2/\tc σ2 H2 fun b H3=>if b=true then te σ2 H3 fun y H4=>Nx (acc++[y]) H4 else Nx acc H3)
theorem M3{X:Cx}{N:List Str}{pick:List (Option Nat)}{elt tg iter:Expr}{ifs:List Expr}{scope:Scope}{pos p0:Pos}{wi:TI}{g:TG}{tc:TT}{te:TE}{use:Option (Value->Sem Unit)}{Q':Value->Shared->Prop}{pins:List (Addr×Obj)}{s:Shared}{σ:St}{H:Hp}{Q:VK}(hc:X.calm=true)
  (hs:scopeOk X.env.scope.names scope.names=true) (hp:Dx X.N scope.names N pick=true) (hk:scope.kind=.function) (hi:PI X tg iter wi)
  (hg:∀C s H fp pins,PG (Xl X N scope C s H fp pins) tg g) (ht:∀C s H fp pins,PTs (Xl X N scope C s H fp pins) ifs tc) (he:∀C s H fp pins,PE (Xl X N scope C s H fp pins) elt te)
  (hfs:∀x,foldedSetIterable iter X.env x=pure x) (I:Inv X pins σ H s) (h:Pb pick wi g tc te σ H Q)
  (fin:∀(D C:Addr) (Hx:Hp) (s4:Shared),(∃m,s4.heap.Ns C m)->(∀h',Heap.SameBut C s4.heap h'->Inv X pins σ Hx { s4 with heap:=h' })->Hx C=none->C≠X.env.locals->X.s₀.heap.objs.size<=C->(∀x c,X.env.cells.lookup x=some c->c≠C)->(∀p∈X.pn++pins,p.1≠C)->Q (.ref D) Hx →
   compPost (model X.prog X.w) X.A X.xe use Q' (.ref D) C (.ok .next) s4) :
  wpAny (model X.prog X.w) X.A (comprehension (.ListComp elt [⟨tg,iter,ifs,0⟩] scope pos) scope X.env p0 (newList []) false (eval iter X.env) use) Q' X.xe s:=by
 have no:∀{E:Value->Shared->Prop} (x:Value) (s':Shared),False->E x s':=fun _ _ z=>z.elim
 refine wpAny_comprehension_free rfl hfs (Jd (Fo I hs)) hk (scopeOk.loc hs) (thn (hi pins s σ H _ I h) fun v s1 h1=>thn h1 fun itv s2 h2=>?_)
 obtain⟨it,fp,tn,J,H2,e,I2,Tn,st2,f2,W,⟨m0,w0⟩,turn⟩:=h2
 subst e
 refine wpAny_newObj_type (wpAny_newFunctionEnv (scopeOk.cell hs) (by intro y hy;simp at hy) (fun h₁ hns hsb=>?_) hk)
 dsimp only at hns hsb ⊢
 generalize hG:s2.heap.push { cls:=.type "list",dict:=none,data:=.seq ([]:List Value).toArray }=G at hns hsb ⊢
 have hC:G.objs.size=s2.heap.objs.size+1:=by rw[<-hG,Heap.size_push]
 have hDC:s2.heap.objs.size≠G.objs.size:=by rw[hC];exact Nat.ne_of_lt (Nat.lt_succ_self _)
 have hCl:s2.heap.objs.size<=G.objs.size:=by rw[hC];exact Nat.le_succ _
 have low:∀{b o},s2.heap.get? b=some o->b≠G.objs.size:=fun e=>by rw[hC];exact Nat.ne_of_lt (Nat.lt_succ_of_lt (Heap.lt_size e))
 have low2:∀{b o},s2.heap.get? b=some o->b≠s2.heap.objs.size:=fun e=>Nat.ne_of_lt (Heap.lt_size e)
 have old:∀b o,s2.heap.get? b=some o->h₁.get? b=some o:=fun b o e=>hsb.extBut b o (low e) (Heap.get?_push_of_some _ (hG ▸ Heap.get?_push_of_some _ e))
 have hD:h₁.get? s2.heap.objs.size=some { cls:=.type "list",data:=.seq ([]:List Value).toArray }:=hsb.extBut _ _ hDC (Heap.get?_push_of_some _ (hG ▸ Heap.get?_push_size _ rfl))
 have I3:Inv (Xl X N scope G.objs.size s2 H2 fp pins) [(s2.heap.objs.size,{ cls:=.type "list",data:=.seq ([]:List Value).toArray })] (Xq pick σ) H2 { s2 with heap:=h₁,toks:=s2.toks+([]:List (Str×Value)).length } :=
  Tc I2 hs hp hk f2 (Tn.obj 0 _ st2) hCl (Nat.le_refl _) hDC old hns hD (fun v z=>by cases z)
 have cellLt:∀x c,(clOf scope.names X.env.cells []).lookup x=some c->c<s2.heap.objs.size:=fun x c e=>by
  obtain⟨v,q⟩:=I2.cell x c (Fu (Fo I2 hs) (fun z=>by cases z) e)
  exact q.lt
 have fpLt:∀b∈fp,b<s2.heap.objs.size:=fun b hb=>by
  obtain⟨o,e,_⟩:=Tn.obj 0 _ st2 b hb
  exact Heap.lt_size e
 have pinLt:∀p∈X.pn++pins,p.1<s2.heap.objs.size:=fun p hp'=>Heap.lt_size (I2.pin p hp').1
 have stat:∀{H':Hp} {ob:Obj},(∀b∈fp,H' b=none)->∀b∈fp,FpOk (Xl X N scope G.objs.size s2 H2 fp pins) [(s2.heap.objs.size,ob)] H' b:=fun {H' ob} hn b hb=>by
  refine⟨hn b hb,?_,fun z=>?_,.inl hb,fun x c e=>?_,fun p hp'=>?_⟩
  ·show b≠G.objs.size
   rw[hC];exact Nat.ne_of_lt (Nat.lt_succ_of_lt (fpLt b hb))
  ·have z:b∈frs X.stack:=z
   rcases List.mem_cons.mp (I2.stkSub b z) with y|y
   ·exact(f2 b hb).2.1 y
   ·exact(f2 b hb).2.2.1 y
  ·exact(f2 b hb).2.2.2.2.1 x c (Fu (Fo I2 hs) (fun z=>by cases z) e)
  ·have hp':p∈(X.pn++pins)++[(s2.heap.objs.size,ob)]:=hp'
   rcases List.mem_append.mp hp' with z|z
   ·exact(f2 b hb).2.2.2.2.2 p z
   ·have z:p=(s2.heap.objs.size,ob):=List.mem_singleton.mp z
    subst z
    exact Nat.ne_of_gt (fpLt b hb)
 have loop:∀s3:Shared,s3={ s2 with heap:=h₁,toks:=s2.toks+([]:List (Str×Value)).length } →
   codeAny (model X.prog X.w) X.A (.compLoop (.ListComp elt [⟨tg,iter,ifs,0⟩] scope pos) 0 (.ref it) (.ref s2.heap.objs.size) (compEnvC scope (clOf scope.names X.env.cells []) G.objs.size X.env))
    (compPost (model X.prog X.w) X.A X.xe use Q' (.ref s2.heap.objs.size) G.objs.size) s3:=by
  rintro s3 rfl
  refine Oy (fun n s'=>∃i acc its k H',Inv (Xl X N scope G.objs.size s2 H2 fp pins) [(s2.heap.objs.size,{ cls:=.type "list",data:=.seq (its:List Value).toArray k })] (Xq pick σ) H' s'/\Vals acc its/\tn i s'.heap/\(∀b∈fp,H' b=none)/\W i n acc H') ?_ m0
   ⟨0,[],[],0,H2,I3,.nil,Tn.keep _ _ _ st2 fun b hb o e=>old b o e,fun b hb=>(f2 b hb).1,w0⟩
  rintro n s3 ⟨i,acc,its,k,H3,I3,rv,st3,fr3,w3⟩
  rcases turn i n acc H3 w3 with⟨stop,hz,fin0⟩|⟨go,hz,Nx,hN,step⟩
  ·refine wpAny_mono (Tn.done (Xl X N scope G.objs.size s2 H2 fp pins) rfl rfl rfl hc i _ s3 _ H3 (fun _ _=>False) I3 (stat fr3) st3 stop) (fun r s4 hr=>?_) no
   obtain⟨hr,I4⟩:=hr
   subst hr
   obtain⟨m,hnC,_⟩:=I4.loc
   obtain⟨p1,p2,p3,p4,p5⟩:=I4.pin (s2.heap.objs.size,_) (List.mem_append_right _ (List.mem_singleton.mpr rfl))
   have nC:H3 G.objs.size=none:=I4.free
   have low3:∀{b o},X.s₀.heap.get? b=some o->b≠G.objs.size:=fun e=>by
    rw[hC];exact Nat.ne_of_lt (Nat.lt_of_lt_of_le (Heap.lt_size e) (Nat.le_succ_of_le I2.sz))
   refine fin s2.heap.objs.size G.objs.size (upd H3 s2.heap.objs.size (.lst acc)) s4 ⟨m,hnC⟩ (fun h' sb=>?_) (by rw[Xc (Ne.symm hDC)];exact nC) (fun z=>?_) (Nat.le_trans I2.sz hCl) (fun x c e=>?_) (fun p hp'=>by rw[hC];exact Nat.ne_of_lt (Nat.lt_succ_of_lt (pinLt p hp'))) (fin0 _ p2)
   rotate_left
   ·obtain⟨m',⟨o',_,_,ho',_⟩,_⟩:=I2.loc
    exact low ho' z.symm
   ·obtain⟨v',o',ho',_⟩:=I2.cell x c e
    exact low ho'
   have kp:∀b o,b≠G.objs.size->s4.heap.get? b=some o->h'.get? b=some o:=fun b o hb e=>sb.extBut b o hb e
   have hok:HOk X.prog X.w H3 h':=fun b u e=>by
    refine(I4.hok b u e).stay (fun c v hc' q=>kp c v ?_ q) (fun _ q=>q) fun _ _ q=>q
    rcases hc' with z|z
    ·rw[z];exact Xa e nC
    ·exact Xa z nC
   have hok':HOk X.prog X.w (upd H3 s2.heap.objs.size (.lst acc)) h':=hok.track p2 ⟨hz,its,k,rv,kp _ _ hDC p1⟩
   have un:=I4.base
   have un':Un (frs X.stack) fp H2 (upd H3 s2.heap.objs.size (.lst acc)) s2.heap h':=by
    have f0:H2 s2.heap.objs.size=none:=I2.fresh
    refine⟨fun b o e n' hb hx=>kp b o (low e) (un.keep b o e n' hb hx),fun b o e n' hb hx=>?_,fun b o e n' hx=>?_,fun b o e hx=>?_,fun b xs e=>?_,fun b o u e=>?_,fun b ps e=>?_⟩
    ·obtain⟨sl,q⟩:=un.slot b o e n' hb hx
     exact⟨sl,kp b _ (low e) q⟩
    ·rw[Xc (low2 e)];exact un.free b o e n' hx
    ·obtain⟨o',q⟩:=un.there b o e hx
     exact⟨o',kp b o' (low e) q⟩
    ·rw[Xc (Xa e f0)];exact un.tups b xs e
    ·rw[Xc (Xa e f0)];exact un.frzs b o u e
    ·obtain⟨more,q⟩:=un.tbls b ps e
     exact⟨more,by rw[Xc (Xa e f0)];exact q⟩
   have hos:s4.os=s2.os:=I4.os
   refine I2.call' (s':={ s4 with heap:=h' }) hos un' hok' I4.bare (fun b hb=>?_)
   exact⟨(f2 b hb).2.2.2.1,(f2 b hb).2.1,(f2 b hb).2.2.2.2.1,(f2 b hb).2.2.2.2.2⟩
  ·refine wpAny_mono (Tn.item (Xl X N scope G.objs.size s2 H2 fp pins) rfl rfl rfl hc i _ s3 _ H3 (fun _ _=>False) I3 (stat fr3) st3 go) (fun r s4 hr=>?_) no
   obtain⟨u,hr,h4⟩:=hr
   subst hr
   refine wpAny_mono h4 (fun _ s5 h5=>?_) no
   obtain⟨x,H5,I5,r5,y5,st5,fr5⟩:=h5
   have I5':=I5.pinned (stat fr5) (Tn.obj _ _ st5)
   refine wpAny_mono (hg _ _ _ _ _ _ s5 _ H5 x u _ I5' r5 (step x H5 y5)) (fun _ s6 h6=>?_) no
   obtain⟨σ6,H6,I6,kp6,q6⟩:=h6
   refine wpAny_mono (ht _ _ _ _ _ _ s6 σ6 H6 _ I6 q6) (fun ok s7 h7=>?_) no
   obtain⟨H7,I7,q7⟩:=h7
   have tnOf:∀{σ':St} {H':Hp} {s':Shared} {pl:List (Addr×Obj)},(∀p∈pinsAt fp s5.heap,p∈pl)->Inv (Xl X N scope G.objs.size s2 H2 fp pins) pl σ' H' s'->tn (i+1) s'.heap/\∀b∈fp,H' b=none:=fun {σ' H' s' pl} hpl I'=>by
    refine⟨Tn.keep _ _ _ st5 fun b hb o e=>(I'.pin (b,o) (List.mem_append_right _ (hpl _ (Do hb e)))).1,fun b hb=>?_⟩
    obtain⟨o,e,_⟩:=Tn.obj _ _ st5 b hb
    exact(I'.pin (b,o) (List.mem_append_right _ (hpl _ (Do hb e)))).2.1
   cases ok with
   |false =>
    rw[if_neg Bool.false_ne_true] at q7 ⊢
    obtain⟨m',hm,w7⟩:=hN _ _ q7
    obtain⟨t7,f7⟩:=tnOf (fun p hp'=>List.mem_append_right _ hp') I7
    exact⟨m',hm,i+1,acc,its,k,H7,(I7.unpinned).weak (kp6.1.symm) (fun j v e=>kp6.2 j v e),rv,t7,f7,w7⟩
   |true =>
    rw[if_pos rfl] at q7 ⊢
    refine wpAny_mono (he _ _ _ _ _ _ s7 σ6 H7 _ I7 q7) (fun xv s8 h8=>?_) no
    obtain⟨y,H8,I8,r8,q8⟩:=h8
    obtain⟨p1,p2,p3,p4,p5⟩:=I8.pin (s2.heap.objs.size,_) (List.mem_append_right _ (List.mem_append_left _ (List.mem_singleton.mpr rfl)))
    have hl:=rv.length
    refine wpAny_list_append_plain (items:=its.toArray) ⟨k,p1⟩ (fun h' il sb=>?_) (by rw[List.size_toArray];omega)
    obtain⟨k',e'⟩:=il
    obtain⟨t8,f8⟩:=tnOf (fun p hp'=>List.mem_append_right _ hp') I8
    have I8':Inv (Xl X N scope G.objs.size s2 H2 fp pins) [] σ6 H8 s8:=I8.pins_of fun p hp'=>by cases hp'
    have I9:Inv (Xl X N scope G.objs.size s2 H2 fp pins) [] σ6 H8 { s8 with heap:=h' }:=I8'.turned (t':=s8.toks) (it:=s2.heap.objs.size) (fun b o hb e=>sb.extBut b o hb e) p2 hDC (.inr (Nat.le_refl _)) (fun x c e=>Nat.ne_of_lt (cellLt x c e)) (fun p hp'=>by
     have hp':p∈(X.pn++pins)++[]:=hp'
     rw[List.append_nil] at hp'
     exact Nat.ne_of_lt (pinLt p hp'))
    have e'':h'.get? s2.heap.objs.size=some { cls:=.type "list",data:=.seq (its++[xv]).toArray k' }:=by rw[e'];simp
    have I10:Inv (Xl X N scope G.objs.size s2 H2 fp pins) [(s2.heap.objs.size,{ cls:=.type "list",data:=.seq (its++[xv]).toArray k' })] σ6 H8 { s8 with heap:=h' }:=I9.pins_of fun p hp'=>by
     have hp':p=(s2.heap.objs.size,_):=List.mem_singleton.mp hp'
     subst hp'
     exact⟨e'',p2,p3,p4,fun v z=>by cases z⟩
    obtain⟨m',hm,w8⟩:=hN _ _ q8
    refine⟨m',hm,i+1,acc++[y],its++[xv],k',H8,I10.weak (kp6.1.symm) (fun j v e=>kp6.2 j v e),rv.append (.cons r8 .nil),?_,f8,w8⟩
    refine Tn.keep _ _ _ t8 fun b hb o e=>sb.extBut b o (Nat.ne_of_lt (fpLt b hb)) e
 exact codeAny_compStart_list (loop _ rfl) (Tn.self _ 0 _ _ _ (Tn.keep _ _ _ st2 fun b hb o e=>old b o e) (loop _ rfl))
theorem P9{X:Cx}{N:List Str}{pick:List (Option Nat)}{elt tg iter:Expr}{ifs:List Expr}{scope:Scope}{pos:Pos}{wi:TI}{g:TG}{tc:TT}{te:TE}(hc:X.calm=true)
  (hs:scopeOk X.env.scope.names scope.names=true) (hp:Dx X.N scope.names N pick=true) (hk:scope.kind=.function) (hi:PI X tg iter wi)
  (hg:∀C s H fp pins,PG (Xl X N scope C s H fp pins) tg g) (ht:∀C s H fp pins,PTs (Xl X N scope C s H fp pins) ifs tc) (he:∀C s H fp pins,PE (Xl X N scope C s H fp pins) elt te)
  (hfs:∀x,foldedSetIterable iter X.env x=pure x:=by intro _;rfl):PE X (.ListComp elt [⟨tg,iter,ifs,0⟩] scope pos) (Pb pick wi g tc te):=by
 intro pins s σ H Q I h
 rw[eval_ListComp]
 exact M3 hc hs hp hk hi hg ht he hfs I h fun D C Hx s4 ⟨m,hn⟩ hI _ _ _ _ _ q=>⟨m,hn,fun h' sb=>⟨.ref D,Hx,hI h' sb,rfl,q⟩⟩
theorem Oq{X:Cx}{N:List Str}{pick:List (Option Nat)}{elt tg iter:Expr}{ifs:List Expr}{scope:Scope}{pos spos:Pos}{wi:TI}{g:TG}{tc:TT}{te:TE}{i:Nat}{y:Str}{py:Pos}(hc:X.calm=true)
  (hs:scopeOk X.env.scope.names scope.names=true) (hp:Dx X.N scope.names N pick=true) (hk:scope.kind=.function) (hi:PI X tg iter wi)
  (hg:∀C s H fp pins,PG (Xl X N scope C s H fp pins) tg g) (ht:∀C s H fp pins,PTs (Xl X N scope C s H fp pins) ifs tc) (he:∀C s H fp pins,PE (Xl X N scope C s H fp pins) elt te)
  (hN:X.N.Nodup) (hy:X.N[i]?=some y) (hx:Loc X.env.scope y) (hsw:swapsWith (.ListComp elt [⟨tg,iter,ifs,0⟩] scope pos) (some (.Name y py)) spos.line X.env=pure true) (hf:X.fn y=true\/X.env.scope.names.lookup y=some .local)
  (hfs:∀x,foldedSetIterable iter X.env x=pure x:=by intro _;rfl):PS X (.Assign [.Name y py] (.ListComp elt [⟨tg,iter,ifs,0⟩] scope pos) spos) (tAsg (Pb pick wi g tc te) (L5 i)):=by
 intro pins s σ H D I h
 rw[exec_Assign_Name_used _ _ _ _ hsw]
 refine wpAny_bind (wpAny_standAt (wpAny_bind ?_))
 show wpAny _ X.A (do let _ ← comprehension (.ListComp elt [⟨tg,iter,ifs,0⟩] scope pos) scope X.env _ (newList []) false (eval iter X.env) (some (assign (.Name y py) X.env))) _ _ s
 refine wpAny_bind (wpAny_mono (M3 (Q':=fun _ s'=>∃ σ' H',Inv X pins σ' H' s'/\D.nx σ' H') hc hs hp hk hi hg ht he hfs I h fun L C Hx s4 hn hI nC nL sz cs ps q=>?_) (fun _ s' hq=>wpAny_pure (wpAny_pure hq)) fun _ _ e=>e)
 obtain⟨m,hn⟩:=hn
 have I4:Inv X pins σ Hx s4:=hI s4.heap ⟨rfl,fun _ _=>rfl⟩
 show wpAny _ X.A (assign (.Name y py) X.env (.ref L)) _ _ s4
 refine wpAny_assign_Name (Jw I4 hN hy hx (v:=.ref L) rfl (fun s5 I5 ⟨a,sb,ha⟩=>?_) hf)
 have na:C≠a:=by
  rcases ha with rfl|ha
  ·exact nL
  ·exact fun z=>cs y a ha z.symm
 refine⟨m,hn.sameBut sb na,fun h' sb'=>⟨_,_,I5.turned (t':=s5.toks) (it:=C) (fun b o hb e=>sb'.extBut b o hb e) nC nL (.inr sz) cs ps,q⟩⟩
end L2
end
section
namespace L2
open PySem PySem.Spec PyProof.Rows
section
variable{X:Cx}
def Its(x:Str):It:=⟨fun i _=>i<x.cps.size,fun i H v H'=>H'=H/\∃c,x.cps[i]?=some c/\v=.str ⟨#[c]⟩,fun i _=>i=x.cps.size⟩
theorem Adk{M:Model}{A:Around}{E:Value->Shared->Prop}{s:Shared}{tg:Expr}{it:Addr}{x:Str}{t:Tok}{Q:Unit->Shared->Prop}(hQ:Q () s):wpAny M A (letOwnedTupleGo tg (.ref it) (.str x t)) Q E s:=by
 unfold letOwnedTupleGo
 cases tg <;> exact wpAny_pure hQ
theorem My{P:Program}{w:World}{K:PySem.W.Frag}{tg:Expr}{it:Addr}{x:Str}{t:Tok}{nm:String}
  (W:∀A':Around,A'.handled=none->Walks P w A' it [it] [it] x.cps.size (SignAt x) (fun i h=>h.IsStrIter it nm x t i))
  (hself:∀(A:Around) (i:Nat) (s:Shared) (Q:Value->Shared->Prop) (E:Value->Shared->Prop),s.heap.IsStrIter it nm x t i->Q (.ref it) s->wpAny (model P w) A (pyIter (.ref it)) Q E s):Turn P w K tg (Its x) [it] it (fun i h=>h.IsStrIter it nm x t i) where
 mem:=by simp
 obj:=fun i h st b hb=>by
  have e:b=it:=by simpa using hb
  subst e
  obtain⟨o,e,c,d⟩:=st
  exact⟨o,e,fun v z=>by rw[d] at z;cases z⟩
 keep:=fun i h h' st k=>by
  obtain⟨o,e,r⟩:=st
  exact⟨o,k it (by simp) o e,r⟩
 item:=by
  intro X hP hw hK hc i pins s σ H E I hf st hg
  subst hP hw hK
  obtain⟨f0,f1,f2,f3,f4,f5⟩:=hf it (by simp)
  refine(W X.A (I.ok.hd hc)).item i s _ _ hg st fun v h' tk hv st' kk=>?_
  obtain⟨c,u,hcu,rfl⟩:=hv
  have I1:Inv X pins σ H { s with heap:=h',toks:=tk }:=I.turned (fun b o hb e=>kk b o (by simpa using hb) e) f0 f1 f3 f4 f5
  exact⟨_,rfl,Adk ⟨.str ⟨#[c]⟩,H,I1,⟨u,rfl⟩,⟨rfl,c,hcu,rfl⟩,st',fun b hb=>(hf b hb).1⟩⟩
 done:=by
  intro X hP hw hK hc i pins s σ H E I hf st hg
  subst hP hw hK
  obtain⟨f0,f1,f2,f3,f4,f5⟩:=hf it (by simp)
  have hg:i=x.cps.size:=hg
  subst hg
  refine(W X.A (I.ok.hd hc)).done s _ _ st fun h' tk kk=>⟨rfl,I.turned (fun b o hb e=>kk b o (by simpa using hb) e) f0 f1 f3 f4 f5⟩
 self:=hself
def iAny(K:PySem.W.Frag)(tl:TE):TI:=fun σ H R=>tl σ H fun x H1=>(∃a,x=.ref a/\(((∃xs,SqL K H1 a xs)/\R (Itl K a) H1)\/((∃xs,SqT K H1 a xs)/\R (Itt K a) H1)))\/∃z,x=.str z/\R (Its z) H1
theorem Abj{tg iter:Expr}{tl:TE}(hl:PE X iter tl):PI X tg iter (iAny X.K tl):=by
 intro pins s σ H R I h
 refine thn (hl pins s σ H _ I h) fun v s1 hv=>?_
 obtain⟨x,H1,I1,r1,q1⟩:=hv
 have fresh:∀b∈[s1.heap.objs.size],FpOk X pins H1 b:=fun b hb=>by rw[List.mem_singleton.mp hb];exact I1.fpOk (Nat.le_refl _) (I1.hok.fresh (Nat.le_refl _))
 rcases q1 with⟨l,e,q⟩|⟨z,e,q⟩
 ·subst e
  cases r1
  rcases q with⟨⟨xs,hq⟩,q⟩|⟨⟨xs,hq⟩,q⟩
  ·obtain⟨its,rv,p,hz⟩:=I1.list hq
   exact wpAny_pyIter_list p.isList ⟨s1.heap.objs.size,[s1.heap.objs.size],_,_,H1,rfl,I1.kept (t':=s1.toks) (fun b o e=>Heap.get?_push_of_some _ e),Q8 l _,⟨_,Heap.get?_push_size _ rfl,rfl,rfl⟩,fresh,q⟩
  ·obtain⟨its,rv,p,hz⟩:=I1.tuple hq
   exact wpAny_pyIter_tuple (show s1.heap.IsTuple l its.toArray from p) ⟨s1.heap.objs.size,[s1.heap.objs.size],_,_,H1,rfl,I1.kept (t':=s1.toks) (fun b o e=>Heap.get?_push_of_some _ e),No l _,⟨_,Heap.get?_push_size _ rfl,rfl,rfl⟩,fresh,q⟩
 ·subst e
  obtain⟨t,rfl⟩:=r1
  cases ha:z.cps.all (·<128)
  ·exact wpAny_pyIter_wide ha ⟨s1.heap.objs.size,[s1.heap.objs.size],_,_,H1,rfl,I1.kept (t':=s1.toks) (fun b o e=>Heap.get?_push_of_some _ e),My (x:=z) (t:=t) (fun A' hA=>Walks.strWide hA _ z t) (fun _ _ _ _ _ st h=>wpAny_pyIter_striter_wide st h),⟨_,Heap.get?_push_size _ rfl,rfl,rfl⟩,fresh,q⟩
  ·exact wpAny_pyIter_ascii ha ⟨s1.heap.objs.size,[s1.heap.objs.size],_,_,H1,rfl,I1.kept (t':=s1.toks) (fun b o e=>Heap.get?_push_of_some _ e),My (x:=z) (t:=t) (fun A' hA=>Walks.strAscii hA _ z t) (fun _ _ _ _ _ st h=>wpAny_pyIter_striter_ascii st h),⟨_,Heap.get?_push_size _ rfl,rfl,rfl⟩,fresh,q⟩
theorem Ue(hc:X.calm=true):CallR X (.builtin "all") (fun xs H Q=>∃(p:Addr) (bs:List Bool),xs=[.ref p]/\SqL X.K H p (bs.map V.bl)/\Q (.bl (bs.all id)) H):=by
 intro pins s σ H xs us Q I r h
 obtain⟨p,bs,rfl,hq,q⟩:=h
 obtain⟨u,rfl,ru⟩:=Ej r
 cases ru
 obtain⟨its,rv,pl,hz⟩:=I.list hq
 have lt:p<s.heap.objs.size:=by
  obtain⟨o,n,e,_⟩:=pl
  exact Heap.lt_size e
 have hit:∀(i:Nat) v,its.toArray[i]?=some v->∃b,bs[i]?=some b/\v=.bool b:=fun i v e=>by
  have e':its[i]?=some v:=by simpa using e
  have hl:=rv.length
  have hi:i<its.length:=(List.getElem?_eq_some_iff.mp e').1
  have hi2:i<(bs.map V.bl).length:=by omega
  obtain⟨w',hw,rw'⟩:=rv.get (List.getElem?_eq_getElem hi2)
  rw[e'] at hw
  cases hw
  rw[List.getElem_map] at rw'
  rw[List.length_map] at hi2
  exact⟨bs[i],List.getElem?_eq_getElem hi2,rw'⟩
 refine call_all_walk (wpAny_pyIter_list pl.isList ?_)
 refine⟨s.heap.objs.size,[s.heap.objs.size,p],[s.heap.objs.size],its.toArray.size,_,_,fun i=>bs.getD i true,rfl,Walks.list (A:=X.A.in1) (show X.A.in1.handled=none from I.ok.hd hc) _ p (Nat.ne_of_lt lt) its.toArray,
  ⟨⟨_,Heap.get?_push_size _ rfl,rfl,rfl⟩,Heap.IsList.push pl.isList _⟩,fun i v s' Q' E' hv hQ'=>?_,fun h' tk kk=>?_⟩
 ·obtain⟨b,hb,rfl⟩:=hit i v hv
  have e:bs.getD i true=b:=by rw[List.getD_eq_getElem?_getD,hb];rfl
  dsimp only at hQ'
  rw[e] at hQ'
  exact wpAny_truthy_bool hQ'
 ·have hl:=rv.length
  rw[List.length_map] at hl
  have e:(List.range its.toArray.size).all (fun i=>bs.getD i true)=bs.all id:=by
   rw[List.size_toArray,<-hl,Bool.eq_iff_iff,List.all_eq_true,List.all_eq_true]
   constructor
   ·intro a b hb
    obtain⟨i,hi,rfl⟩:=List.mem_iff_getElem.mp hb
    have:=a i (List.mem_range.mpr hi)
    rw[List.getD_eq_getElem?_getD,List.getElem?_eq_getElem hi] at this
    exact this
   ·intro a i hi
    have hi':=List.mem_range.mp hi
    rw[List.getD_eq_getElem?_getD,List.getElem?_eq_getElem hi']
    exact a _ (List.getElem_mem hi')
  rw[e]
  refine⟨.bl _,H,?_,rfl,q⟩
  have I1:Inv X pins σ H { s with heap:=s.heap.push { cls:=.type "list_iterator",data:=.fields #[.ref p,.int 0 0] } }:=I.kept (t':=s.toks) fun b o e=>Heap.get?_push_of_some _ e
  have f:=I.fpOk (H':=H) (Nat.le_refl _) I.fresh
  exact I1.turned (t':=tk) (it:=s.heap.objs.size) (fun b o hb e=>kk b o (by simpa using hb) e) f.1 f.2.1 f.2.2.2.1 f.2.2.2.2.1 f.2.2.2.2.2
theorem Ed:OpR X (compareOp .LtE) (fun x y H Q=>∃i j,x=.str i/\y=.str j/\Q (.bl (!decide (j.cps.toList<i.cps.toList))) H):=by
 rintro pins s σ H x y v u Q I rx ry ⟨i,j,rfl,rfl,q⟩
 obtain⟨t,rfl⟩:=rx
 obtain⟨t',rfl⟩:=ry
 exact PySem.P.le_str ⟨.bl _,H,I,rfl,q⟩
def rSlS:V->Option Int->Option Int->Hp->VK->Prop:=fun x lo hi H Q=>∃z,x=.str z/\z.length<=sizeLine/\Q (.str (Txt.slice z lo hi)) H
theorem Abw:SlR X rSlS:=by
 intro pins s σ H x v vl vu lo hi sl Q I rx hs pl pu h
 obtain⟨z,rfl,hz,q⟩:=h
 obtain⟨t,rfl⟩:=rx
 have fin:∀t' k,EP X pins σ Q (.str (Txt.slice z lo hi) t') { s with toks:=k }:=fun t' k=>⟨.str _,H,I.tok k,⟨_,rfl⟩,q⟩
 refine⟨"str",_,F.slot_str_getitem.lookup,typeIs_str _ _ _,?_⟩
 cases pl with
 |none =>
  cases pu with
  |none=>exact wpAny_getItem_str_slice (l:=none) (u:=none) (st:=none) hs rfl (post_val_or_str ⟨Nat.le_trans (Txt.slice_le z _ _) hz,fin⟩)
  |int j uj=>exact wpAny_getItem_str_slice (l:=none) (u:=some (j,uj)) (st:=none) hs rfl (post_val_or_str ⟨Nat.le_trans (Txt.slice_le z _ _) hz,fin⟩)
 |int i ui =>
  cases pu with
  |none=>exact wpAny_getItem_str_slice (l:=some (i,ui)) (u:=none) (st:=none) hs rfl (post_val_or_str ⟨Nat.le_trans (Txt.slice_le z _ _) hz,fin⟩)
  |int j uj=>exact wpAny_getItem_str_slice (l:=some (i,ui)) (u:=some (j,uj)) (st:=none) hs rfl (post_val_or_str ⟨Nat.le_trans (Txt.slice_le z _ _) hz,fin⟩)
end
end L2
end
section
namespace L2
open PySem PySem.Spec PyProof.Rows
section
variable{X:Cx}{pins:List (Addr×Obj)}{σ:St}{H:Hp}{s:Shared}{h':Heap}
theorem Inv.turns{t':Nat}{ch:List Addr}(I:Inv X pins σ H s)(k:∀b o,b ∉ ch->s.heap.get? b=some o->h'.get? b=some o)(hf:∀b∈ch,FpOk X pins H b):Inv X pins σ H { s with heap:=h',toks:=t' }:=by
 have nch:∀b u,H b=some u->b ∉ ch:=fun b u e z=>by rw[(hf b z).1] at e;cases e
 refine I.step (g':=s.gens) (d':=s.drawn) (ch:=ch) (fun b hb=>⟨(hf b hb).2.2.2.1,(hf b hb).2.1,(hf b hb).2.2.2.2.1,(hf b hb).2.2.2.2.2⟩) (fun b o _ _ hc e _=>k b o hc e) (fun b o _ _ hc e _=>⟨o.slots,k b o hc e⟩) (fun _ _ _ _ n=>n)
  (fun b o hc e=>⟨o,k b o hc e⟩) (fun _ _ e=>e) (fun _ _ _ e=>e) (fun b ps e=>⟨#[],by rw[e];simp⟩) (fun m hm=>?_) (fun b u e=>?_) I.bare
 ·obtain⟨o,es,ep,ho,r⟩:=hm
  exact⟨o,es,ep,k _ o (fun z=>(hf _ z).2.1 rfl) ho,r⟩
 ·refine(I.hok b u e).stay (fun c v hc q=>k c v ?_ q) (fun _ q=>q) fun _ _ q=>q
  rcases hc with z|z
  ·rw[z];exact nch b u e
  ·exact nch c _ z
theorem Inv.track{a:Addr}{o:HO}(I:Inv X pins σ H s)(f:FpOk X pins H a)(new:ObjOk X.prog X.w (upd H a o) s.heap a o):Inv X pins σ (upd H a o) s:=by
 obtain⟨f0,f1,f2,f3,f4,f5⟩:=f
 have nb:∀b ob,X.s₀.heap.get? b=some ob->b ∉ X.ex->b≠a:=fun b ob e hx z=>by
  subst z
  rcases f3 with q|q
  ·exact hx q
  ·exact absurd (Nat.lt_of_lt_of_le (Heap.lt_size e) q) (Nat.lt_irrefl _)
 refine⟨I.ok,I.os,I.bare,⟨I.base.keep,I.base.slot,fun b ob e n hx=>?_,I.base.there,fun b xs e=>?_,fun b ob u e=>?_,fun b ps e=>?_⟩,I.loc,I.cell,?_,fun x c e=>?_,fun p hp=>?_,I.hok.track f0 new,I.len⟩
 ·rw[Xc (nb b ob e hx)];exact I.base.free b ob e n hx
 ·have q:=I.base.tups b xs e;rw[Xc (Xa q f0)];exact q
 ·have q:=I.base.frzs b ob u e;rw[Xc (Xa q f0)];exact q
 ·obtain⟨more,q⟩:=I.base.tbls b ps e
  exact⟨more,by rw[Xc (Xa q f0)];exact q⟩
 ·rw[Xc (Ne.symm f1)];exact I.free
 ·rw[Xc (f4 x c e)];exact I.freeC x c e
 ·obtain⟨a1,a2,a3⟩:=I.pin p hp
  exact⟨a1,by rw[Xc (f5 p hp)];exact a2,a3⟩
end
section
variable{prog:Program}{w:World}{A:Around}{E:Value->Shared->Prop}{s:Shared}
theorem B0{it t:Addr}{i:Nat}{items:Array Value}{x:Value}{Q:Value->Shared->Prop}(hit:s.heap.IsTupleIter it t i)(ht:s.heap.IsTuple t items)(hx:items[i]?=some x)
  (hQ:∀g,g.IsTupleIter it t (i+1)->Heap.SameBut it s.heap g->Q x { s with heap:=g }):wpAny (model prog w) A (Builtin.SmallTypes.nextOf (.ref it)) Q E s:=by
 obtain⟨o,ho,hc,hd⟩:=id hit
 obtain⟨ol,hol,_,nl,hdl⟩:=ht
 unfold Builtin.SmallTypes.nextOf
 refine wpAny_bind (wpAny_callSpecial?_slot (name:=Str.ofString "__next__") hit.typeIs F.slot_tuple_iterator_next (wpAny_call_entry F.slot_tuple_iterator_next hit.typeIs F.entry_tuple_iterator_next ?_ (F.args_tuple_iterator_next_1 _)))
 show wpAny _ _ (field (.ref it) 0 >>= _) _ _ s
 refine wpAny_bind (wpAny_field ho hd (x:=.ref t) rfl ?_)
 show wpAny (model prog w) _ (if (Value.ref t==Value.none)=true then _ else _) _ _ s
 rw[if_neg (show ¬ ((Value.ref t==Value.none)=true) from Bool.false_ne_true)]
 show wpAny _ _ (field (.ref it) 1 >>= _) _ _ s
 refine wpAny_bind (wpAny_field ho hd (x:=.int i 0) rfl ?_)
 show wpAny _ _ (seqItems? (.ref t) >>= _) _ _ s
 refine wpAny_bind (wpAny_seqItems hol hdl ?_)
 simp only[Int.toNat_natCast,hx]
 refine wpAny_bind (wpAny_setField ho hd (by simp) (wpAny_pure ⟨x,rfl,wpAny_pure (hQ _ ?_ (Heap.SameBut.update ..))⟩))
 refine⟨_,Heap.get?_update_self _ ho (Obj.isFreed_of_fields (Obj.data_mapFields hd _)),(Obj.cls_mapFields ..).trans hc,?_⟩
 rw[Obj.data_mapFields hd]
 simp[rawInt]
theorem Dz{it t:Addr}{i:Nat}{items:Array Value}{Q:Value->Shared->Prop}(hh:A.handled=none)(hit:s.heap.IsTupleIter it t i)(ht:s.heap.IsTuple t items)(hx:items[i]?=none)
  (hE:∀g e,Heap.ExtBut it s.heap g->(∃o,g.get? e=some o/\o.cls=.type "StopIteration")->E (.ref e) { s with heap:=g }):wpAny (model prog w) A (Builtin.SmallTypes.nextOf (.ref it)) Q E s:=by
 obtain⟨o,ho,hc,hd⟩:=id hit
 obtain⟨ol,hol,_,nl,hdl⟩:=ht
 unfold Builtin.SmallTypes.nextOf
 refine wpAny_bind (wpAny_callSpecial?_slot (name:=Str.ofString "__next__") hit.typeIs F.slot_tuple_iterator_next (wpAny_call_entry F.slot_tuple_iterator_next hit.typeIs F.entry_tuple_iterator_next ?_ (F.args_tuple_iterator_next_1 _)))
 show wpAny _ _ (field (.ref it) 0 >>= _) _ _ s
 refine wpAny_bind (wpAny_field ho hd (x:=.ref t) rfl ?_)
 show wpAny (model prog w) _ (if (Value.ref t==Value.none)=true then _ else _) _ _ s
 rw[if_neg (show ¬ ((Value.ref t==Value.none)=true) from Bool.false_ne_true)]
 show wpAny _ _ (field (.ref it) 1 >>= _) _ _ s
 refine wpAny_bind (wpAny_field ho hd (x:=.int i 0) rfl ?_)
 show wpAny _ _ (seqItems? (.ref t) >>= _) _ _ s
 refine wpAny_bind (wpAny_seqItems hol hdl ?_)
 simp only[Int.toNat_natCast,hx]
 refine wpAny_bind (wpAny_rule (wpAny_bind (wpAny_setField ho hd (by simp) ?_)))
 show wpAny _ _ (newExc (.type "StopIteration") [] >>= _) _ _ _
 refine wpAny_bind ?_
 simp only[newExc,newTuple]
 refine wpAny_bind (wpAny_newObj_type ?_ (by size_fits))
 refine wpAny_bind (m:=firstArgMember _ _) (wpAny_of_eq (a:=Value.none) (by first|rfl|(simp only[firstArgMember];rfl)) ?_)
 refine wpAny_newObj_type ?_ (by size_fits)
 simp only[raiseNew]
 refine wpAny_bind (wpAny_handled ?_)
 first|rw[show A.in1.handled=none from hh]|rw[hh]
 refine wpAny_bind (wpAny_pure (wpAny_throw ?_))
 exact hE _ _ (((Heap.SameBut.update ..).extBut.push _).push _) ⟨_,Heap.get?_push_size _ rfl,rfl⟩
end
end L2
end
section
namespace L2
open PySem PySem.Spec PyProof.Rows
section
variable{prog:Program}{w:World}{A:Around}{E:Value->Shared->Prop}{s:Shared}
structure ZipT(h:Heap)(z ti to i1 i2 t1 t2:Addr)(i:Nat):Prop where
 z:IsZip h z ti to .none
 ti:IsPair h ti (.ref i1) (.ref i2)
 to:∃a b,IsPair h to a b
 i1:h.IsTupleIter i1 t1 i
 i2:h.IsTupleIter i2 t2 i
theorem Rn{z ti to i1 i2 t1 t2:Addr}{i:Nat}{xs ys:Array Value}{x y:Value}{Q:Value->Shared->Prop}(D:ZipApart z ti to i1 i2 t1 t2)(Z:ZipT s.heap z ti to i1 i2 t1 t2 i)(l1:s.heap.IsTuple t1 xs)(l2:s.heap.IsTuple t2 ys)
  (hx:xs[i]?=some x) (hy:ys[i]?=some y)
  (hQ:∀g,IsZip g z ti to (rawInt s.heap.objs.size)->(∃a b,IsPair g to a b)->g.IsTupleIter i1 t1 (i+1)->g.IsTupleIter i2 t2 (i+1)->IsPair g s.heap.objs.size x y →
   (∀c o,c≠z->c≠to->c≠i1->c≠i2->s.heap.get? c=some o->g.get? c=some o)->Q (.ref s.heap.objs.size) { s with heap:=g }) :
  wpAny (model prog w) A (Builtin.«zip.__next__» ⟨[.ref z],[]⟩) (fun fin s'=>∃v,fin=.done (.ret v)/\Q v s') E s:=by
 obtain⟨hz,hTI,⟨a,b,hTO⟩,h1,h2⟩:=Z
 show wpAny _ _ (field (.ref z) 2 >>= _) _ _ _
 refine wpAny_bind (wpAny_field hz rfl (x:=.bool false) rfl ?_)
 show wpAny _ _ (field (.ref z) 3 >>= _) _ _ _
 refine wpAny_bind (wpAny_field hz rfl (x:=.ref ti) rfl ?_)
 refine wpAny_bind (wpAny_seqItems hTI rfl ?_)
 show wpAny (model prog w) _ (Builtin.SmallTypes.ownedTupleIsFree (.ref z) >>= _) _ _ _
 refine wpAny_bind ?_
 unfold Builtin.SmallTypes.ownedTupleIsFree
 refine wpAny_bind (wpAny_field hz rfl (x:=.none) rfl (wpAny_pure ?_))
 simp only[if_true]
 refine wpAny_bind (wpAny_rule ?_)
 refine wpAny_bind (wpAny_field hz rfl (x:=.ref to) rfl ?_)
 refine wpAny_bind (wpAny_setField_rec hz (by simp) fun g1 hz1 k1=>?_)
 replace hz1:IsZip g1 z ti to .ellipsis:=hz1
 refine wpAny_bind ?_
 simp only[List.zipIdx_cons,List.zipIdx_nil,List.forIn_cons,List.forIn_nil]
 refine wpAny_bind (wpAny_bind (wpAny_onRaise ?_))
 show wpAny (model prog w) _ (Builtin.SmallTypes.nextOf (.ref i1) >>= _) _ _ _
 refine wpAny_bind (B0 (h1.extBut k1.extBut D.i1z) (l1.extBut k1.extBut D.l1z) hx fun g2 n2 k2=>wpAny_pure ?_)
 have o2:IsPair g2 to a b:=k2.extBut _ _ D.TOi1 (k1.extBut _ _ D.TOz hTO)
 refine wpAny_bind (wpAny_seqItems o2 rfl ?_)
 refine wpAny_bind (wpAny_updateSeq_pair o2 fun g3 o3 k3=>?_)
 replace o3:IsPair g3 to x b:=o3
 refine wpAny_bind (wpAny_letGo (wpAny_pure ?_))
 refine wpAny_bind (wpAny_bind (wpAny_onRaise ?_))
 show wpAny (model prog w) _ (Builtin.SmallTypes.nextOf (.ref i2) >>= _) _ _ _
 refine wpAny_bind (B0 (((h2.extBut k1.extBut D.i2z).extBut k2.extBut D.i12.symm).extBut k3.extBut D.TOi2.symm) (((l2.extBut k1.extBut D.l2z).extBut k2.extBut D.l2i1).extBut k3.extBut D.l2TO) hy fun g4 n4 k4=>wpAny_pure ?_)
 have o4:IsPair g4 to x b:=k4.extBut _ _ D.TOi2 o3
 refine wpAny_bind (wpAny_seqItems o4 rfl ?_)
 refine wpAny_bind (wpAny_updateSeq_pair o4 fun g5 o5 k5=>?_)
 replace o5:IsPair g5 to x y:=o5
 refine wpAny_bind (wpAny_letGo (wpAny_pure (wpAny_pure ?_)))
 refine wpAny_bind (wpAny_seqItems o5 rfl ?_)
 refine wpAny_bind (wpAny_newTuple ?_)
 have sz:g5.objs.size=s.heap.objs.size:=by rw[k5.1,k4.1,k3.1,k2.1,k1.1]
 have z5:IsZip g5 z ti to .ellipsis:=k5.extBut _ _ D.TOz.symm (k4.extBut _ _ D.i2z.symm (k3.extBut _ _ D.TOz.symm (k2.extBut _ _ D.i1z.symm hz1)))
 have kk:∀c o,c≠z->c≠to->c≠i1->c≠i2->s.heap.get? c=some o->g5.get? c=some o:=fun c o c1 c2 c3 c4 e=>k5.extBut _ _ c2 (k4.extBut _ _ c4 (k3.extBut _ _ c2 (k2.extBut _ _ c3 (k1.extBut _ _ c1 e))))
 have n5:g5.IsTupleIter i1 t1 (i+1):=((n2.extBut k3.extBut D.TOi1.symm).extBut k4.extBut D.i12).extBut k5.extBut D.TOi1.symm
 have m5:g5.IsTupleIter i2 t2 (i+1):=n4.extBut k5.extBut D.TOi2.symm
 have zl:z<g5.objs.size:=Heap.lt_size z5
 show wpAny (model prog w) _ (Builtin.SmallTypes.ownedTupleHandOut (.ref z) (.ref g5.objs.size) >>= _) _ _ _
 refine wpAny_bind ?_
 unfold Builtin.SmallTypes.ownedTupleHandOut
 have z6:IsZip (g5.push { cls:=.type "tuple",data:=.seq #[x,y] }) z ti to .ellipsis:=Heap.get?_push_of_some _ z5
 refine wpAny_bind (wpAny_setField_rec z6 (by simp) fun g7 z7 k7=>?_)
 replace z7:IsZip g7 z ti to (rawInt g5.objs.size):=z7
 refine wpAny_setField_rec z7 (by simp) fun g8 z8 k8=>?_
 replace z8:IsZip g8 z ti to (rawInt g5.objs.size):=z8
 have up:∀c o,c≠z->g5.get? c=some o->g8.get? c=some o:=fun c o c1 e=>k8.extBut _ _ c1 (k7.extBut _ _ c1 (Heap.get?_push_of_some _ e))
 have t8:IsPair g8 g5.objs.size x y:=k8.extBut _ _ (Nat.ne_of_gt zl) (k7.extBut _ _ (Nat.ne_of_gt zl) (Heap.get?_push_size _ rfl))
 rw[sz] at z8 t8
 refine wpAny_pure ⟨_,rfl,?_⟩
 show Q (.ref g5.objs.size) _
 rw[sz]
 have it:∀{j t:Addr} {k:Nat},j≠z->g5.IsTupleIter j t k->g8.IsTupleIter j t k:=fun hj q=>by
  obtain⟨o,e,r⟩:=q
  exact⟨o,up _ o hj e,r⟩
 exact hQ g8 z8 ⟨x,y,up _ _ D.TOz o5⟩ (it D.i1z n5) (it D.i2z m5) t8 fun c o c1 c2 c3 c4 e=>up c o c1 (kk c o c1 c2 c3 c4 e)
theorem Tr{z ti to i1 i2 t1 t2:Addr}{i:Nat}{xs:Array Value}{Q:Fin->Shared->Prop}(hh:A.handled=none)(D:ZipApart z ti to i1 i2 t1 t2)(Z:ZipT s.heap z ti to i1 i2 t1 t2 i)(l1:s.heap.IsTuple t1 xs)(hx:xs[i]?=none)
  (hE:∀g e,(∀c o,c≠z->c≠to->c≠i1->c≠i2->s.heap.get? c=some o->g.get? c=some o)->(∃o,g.get? e=some o/\o.cls=.type "StopIteration")->E (.ref e) { s with heap:=g }) :
  wpAny (model prog w) A (Builtin.«zip.__next__» ⟨[.ref z],[]⟩) Q E s:=by
 obtain⟨hz,hTI,⟨a,b,hTO⟩,h1,h2⟩:=Z
 show wpAny _ _ (field (.ref z) 2 >>= _) _ _ _
 refine wpAny_bind (wpAny_field hz rfl (x:=.bool false) rfl ?_)
 show wpAny _ _ (field (.ref z) 3 >>= _) _ _ _
 refine wpAny_bind (wpAny_field hz rfl (x:=.ref ti) rfl ?_)
 refine wpAny_bind (wpAny_seqItems hTI rfl ?_)
 show wpAny (model prog w) _ (Builtin.SmallTypes.ownedTupleIsFree (.ref z) >>= _) _ _ _
 refine wpAny_bind ?_
 unfold Builtin.SmallTypes.ownedTupleIsFree
 refine wpAny_bind (wpAny_field hz rfl (x:=.none) rfl (wpAny_pure ?_))
 simp only[if_true]
 refine wpAny_bind (wpAny_rule ?_)
 refine wpAny_bind (wpAny_field hz rfl (x:=.ref to) rfl ?_)
 refine wpAny_bind (wpAny_setField_rec hz (by simp) fun g1 hz1 k1=>?_)
 replace hz1:IsZip g1 z ti to .ellipsis:=hz1
 refine wpAny_bind ?_
 simp only[List.zipIdx_cons,List.zipIdx_nil,List.forIn_cons,List.forIn_nil]
 refine wpAny_bind (wpAny_bind (wpAny_onRaise ?_))
 show wpAny (model prog w) _ (Builtin.SmallTypes.nextOf (.ref i1) >>= _) _ _ _
 refine wpAny_bind (Dz hh (h1.extBut k1.extBut D.i1z) (l1.extBut k1.extBut D.l1z) hx fun g2 e k2 he=>?_)
 obtain⟨oe,hoe,hce⟩:=he
 have z2:IsZip g2 z ti to .ellipsis:=k2 _ _ D.i1z.symm hz1
 have hez:e≠z:=fun q=>by subst q;rw[z2] at hoe;cases hoe;simp at hce
 refine wpAny_setField_rec z2 (by simp) fun g3 _ k3=>hE g3 e (fun c o c1 _ c3 _ q=>k3.extBut _ _ c1 (k2 _ _ c3 (k1.extBut _ _ c1 q))) ⟨oe,k3.extBut _ _ hez hoe,hce⟩
theorem F4{z ti to i1 i2 t1 t2:Addr}{i:Nat}{xs ys:Array Value}{x y:Value}{Q:Option Value->Shared->Prop}(D:ZipApart z ti to i1 i2 t1 t2)(Z:ZipT s.heap z ti to i1 i2 t1 t2 i)(l1:s.heap.IsTuple t1 xs)(l2:s.heap.IsTuple t2 ys)
  (hx:xs[i]?=some x) (hy:ys[i]?=some y)
  (hQ:∀g,IsZip g z ti to (rawInt s.heap.objs.size)->(∃a b,IsPair g to a b)->g.IsTupleIter i1 t1 (i+1)->g.IsTupleIter i2 t2 (i+1)->IsPair g s.heap.objs.size x y →
   (∀c o,c≠z->c≠to->c≠i1->c≠i2->s.heap.get? c=some o->g.get? c=some o)->Q (some (.ref s.heap.objs.size)) { s with heap:=g }):wpAny (model prog w) A (pyNext (.ref z)) Q E s:=by
 have ty:s.TypeIs (.ref z) "zip":=⟨_,Z.z,rfl⟩
 unfold pyNext
 exact wpAny_bind (wpAny_attempt (wpAny_callSpecial?_slot (name:=Str.ofString "__next__") ty F.slot_zip_next (wpAny_call_entry F.slot_zip_next ty F.entry_zip_next (Rn D Z l1 l2 hx hy fun g a1 a2 a3 a4 a5 a6=>wpAny_pure (hQ g a1 a2 a3 a4 a5 a6)) (F.args_zip_next_1 _))))
theorem G3{z ti to i1 i2 t1 t2:Addr}{i:Nat}{xs:Array Value}{Q:Option Value->Shared->Prop}(hh:A.handled=none)(D:ZipApart z ti to i1 i2 t1 t2)(Z:ZipT s.heap z ti to i1 i2 t1 t2 i)(l1:s.heap.IsTuple t1 xs)(hx:xs[i]?=none)
  (hQ:∀g,(∀c o,c≠z->c≠to->c≠i1->c≠i2->s.heap.get? c=some o->g.get? c=some o)->Q none { s with heap:=g }):wpAny (model prog w) A (pyNext (.ref z)) Q E s:=by
 have ty:s.TypeIs (.ref z) "zip":=⟨_,Z.z,rfl⟩
 unfold pyNext
 refine wpAny_bind (wpAny_attempt (wpAny_callSpecial?_slot (name:=Str.ofString "__next__") ty F.slot_zip_next (wpAny_call_entry F.slot_zip_next ty F.entry_zip_next (Tr hh D Z l1 hx fun g e hk he=>?_) (F.args_zip_next_1 _))))
 obtain⟨o,ho,hc⟩:=he
 refine wpAny_bind (wpAny_isInstance (T:="StopIteration") (b:=true) ⟨o,ho,hc⟩ isSubtype_stop ?_)
 exact wpAny_pure (hQ _ hk)
abbrev ztH1(h:Heap)(l1:Addr):Heap:=h.push { cls:=.type "tuple_iterator",data:=.fields #[.ref l1,.int 0 0] }
abbrev ztH2(h:Heap)(l1 l2:Addr):Heap:=(ztH1 h l1).push { cls:=.type "tuple_iterator",data:=.fields #[.ref l2,.int 0 0] }
abbrev ztH3(h:Heap)(l1 l2:Addr):Heap:=(ztH2 h l1 l2).push { cls:=.type "tuple",data:=.seq #[.ref h.objs.size,.ref (ztH1 h l1).objs.size] }
abbrev ztH4(h:Heap)(l1 l2:Addr):Heap:=(ztH3 h l1 l2).push { cls:=.type "tuple",data:=.seq #[.none,.none] }
abbrev Sj(h:Heap)(l1 l2:Addr):Heap:=(ztH4 h l1 l2).push { cls:=.type "zip",data:=.fields #[.none,.bool false,.bool false,.ref (ztH2 h l1 l2).objs.size,.ref (ztH3 h l1 l2).objs.size] }
theorem Ni(l1 l2:Addr)(xs ys:Array Value):Meets (Builtin.«zip.__new__» ⟨[.type "zip",.ref l1,.ref l2],[]⟩) (fun _ R s=>s.heap.IsTuple l1 xs/\s.heap.IsTuple l2 ys/\R (.ok (.ret (.ref (ztH4 s.heap l1 l2).objs.size))) { s with heap:=Sj s.heap l1 l2 }) :=
 .of_wp fun prog w A R s h=>by
  obtain⟨hp,g,d,tk,os⟩:=s;obtain⟨q1,q2,h⟩:=h
  have hsub:=sub_zip
  have L1:Heap.IsTuple (Shared.heap ⟨hp,g,d,tk,os⟩) l1 xs:=q1
  have L2:Heap.IsTuple (Shared.heap ⟨hp.push { cls:=.type "tuple_iterator",data:=.fields #[.ref l1,.int 0 0] },g,d,tk,os⟩) l2 ys:=Heap.IsTuple.push q2 _
  wp_walk using wpAny_pyIter_tuple L1,wpAny_pyIter_tuple L2
  exact⟨_,rfl,h⟩
theorem Re{l1 l2:Addr}{xs ys:Array Value}{Q:Value->Shared->Prop}(q1:s.heap.IsTuple l1 xs)(q2:s.heap.IsTuple l2 ys)
  (h:∀g,ZipT g (s.heap.objs.size+4) (s.heap.objs.size+2) (s.heap.objs.size+3) s.heap.objs.size (s.heap.objs.size+1) l1 l2 0->(∀c o,s.heap.get? c=some o->g.get? c=some o)->Q (.ref (s.heap.objs.size+4)) { s with heap:=g }) :
  wpAny (model prog w) A (call (.type "zip") [.ref l1,.ref l2]) Q E s:=by
 refine callType_new F.called_zip (by decide) (F.typeCall_zip_2 _ _) (F.newCall_zip_2 _ _) (fun obj=>F.args_object_init_3 obj _ _) F.entry_zip_new (Ni l1 l2 xs ys) ⟨q1,q2,?_⟩
 have z1:(ztH1 s.heap l1).objs.size=s.heap.objs.size+1:=Heap.size_push ..
 have z2:(ztH2 s.heap l1 l2).objs.size=s.heap.objs.size+2:=by rw[Heap.size_push,z1]
 have z3:(ztH3 s.heap l1 l2).objs.size=s.heap.objs.size+3:=by rw[Heap.size_push,z2]
 have z4:(ztH4 s.heap l1 l2).objs.size=s.heap.objs.size+4:=by rw[Heap.size_push,z3]
 have g5:(Sj s.heap l1 l2).get? (ztH4 s.heap l1 l2).objs.size=some _:=Heap.get?_push_size _ rfl
 have g4:(Sj s.heap l1 l2).get? (ztH3 s.heap l1 l2).objs.size=some _:=Heap.get?_push_of_some _ (Heap.get?_push_size _ rfl)
 have g3:(Sj s.heap l1 l2).get? (ztH2 s.heap l1 l2).objs.size=some _:=Heap.get?_push_of_some _ (Heap.get?_push_of_some _ (Heap.get?_push_size _ rfl))
 have g2:(Sj s.heap l1 l2).get? (ztH1 s.heap l1).objs.size=some _:=Heap.get?_push_of_some _ (Heap.get?_push_of_some _ (Heap.get?_push_of_some _ (Heap.get?_push_size _ rfl)))
 have g1:(Sj s.heap l1 l2).get? s.heap.objs.size=some _:=Heap.get?_push_of_some _ (Heap.get?_push_of_some _ (Heap.get?_push_of_some _ (Heap.get?_push_of_some _ (Heap.get?_push_size _ rfl))))
 show _/\_
 rw[z2,z3,z4] at g5
 rw[z1,z2] at g3
 rw[z3] at g4
 rw[z1] at g2
 rw[z4]
 exact⟨⟨_,g5,rfl⟩,h _ ⟨g5,g3,⟨_,_,g4⟩,⟨_,g1,rfl,rfl⟩,⟨_,g2,rfl,rfl⟩⟩ fun c o q=>Heap.get?_push_of_some _ (Heap.get?_push_of_some _ (Heap.get?_push_of_some _ (Heap.get?_push_of_some _ (Heap.get?_push_of_some _ q))))⟩
end
end L2
end
section
namespace L2
open PySem PySem.Spec PyProof.Rows
def Itz (K:PySem.W.Frag) (a b:Addr):It :=
  ⟨fun i H=>∃ xs ys x y,SqT K H a xs /\ SqT K H b ys /\ xs[i]? = some x /\ ys[i]? = some y,
   fun i H v H'=>∃ p x y,H p = none /\ v = .ref p /\ H' = upd H p (.tup [x,y]) /\ (∀ xs,SqT K H a xs->xs[i]? = some x) /\ ∀ ys,SqT K H b ys->ys[i]? = some y,
   fun i H=>∃ xs,SqT K H a xs /\ xs.length <= i⟩
theorem G9{h h':Heap}{j t:Addr}{k:Nat}(q:h.IsTupleIter j t k)(e:∀o,h.get? j=some o->h'.get? j=some o):h'.IsTupleIter j t k:=by
 obtain⟨o,q,r⟩:=q
 exact⟨o,e o q,r⟩
theorem Uq{P:Program}{w:World}{K:PySem.W.Frag}{es:List Expr}{k:Nat}{pos:Pos}{z ti to i1 i2 a b:Addr}(D:ZipApart z ti to i1 i2 a b):Turn P w K (.Tuple es k pos) (Itz K a b) [z,ti,to,i1,i2] z (fun i h=>ZipT h z ti to i1 i2 a b i) where
 mem:=by simp
 obj:=fun i h st c hc=>by
  obtain⟨hz,hTI,⟨x,y,hTO⟩,h1,h2⟩:=st
  simp only[List.mem_cons,List.not_mem_nil,or_false] at hc
  rcases hc with rfl|rfl|rfl|rfl|rfl
  ·exact⟨_,hz,fun v q=>by cases q⟩
  ·exact⟨_,hTI,fun v q=>by cases q⟩
  ·exact⟨_,hTO,fun v q=>by cases q⟩
  ·obtain⟨o,e,c,d⟩:=h1;exact⟨o,e,fun v q=>by rw[d] at q;cases q⟩
  ·obtain⟨o,e,c,d⟩:=h2;exact⟨o,e,fun v q=>by rw[d] at q;cases q⟩
 keep:=fun i h h' st kk=>by
  obtain⟨hz,hTI,⟨x,y,hTO⟩,h1,h2⟩:=st
  exact⟨kk z (by simp) _ hz,kk ti (by simp) _ hTI,⟨x,y,kk to (by simp) _ hTO⟩,G9 h1 fun o e=>kk i1 (by simp) o e,G9 h2 fun o e=>kk i2 (by simp) o e⟩
 item:=by
  intro X hP hw hK hc i pins s σ H E I hf st hg
  subst hP hw hK
  obtain⟨xs,ys,x,y,q1,q2,e1,e2⟩:=hg
  obtain⟨us,r1,p1,_⟩:=I.tuple q1
  obtain⟨ws,r2,p2,_⟩:=I.tuple q2
  obtain⟨u,hu,ru⟩:=r1.get e1
  obtain⟨v,hv,rv⟩:=r2.get e2
  have d:=st
  refine F4 (xs:=us.toArray) (ys:=ws.toArray) D st p1 p2 (x:=u) (y:=v) (by simpa using hu) (by simpa using hv) fun g a1 a2 a3 a4 a5 kk=>⟨_,rfl,?_⟩
  refine wpAny_letOwnedTupleGo_zip a1 fun g' z' sb=>?_
  have zl:z<s.heap.objs.size:=Heap.lt_size d.z
  have nz:s.heap.objs.size≠z:=Nat.ne_of_gt zl
  have up:∀c o,c ∉ [z,to,i1,i2]->s.heap.get? c=some o->g'.get? c=some o:=fun c o hc' e=>by
   simp only[List.mem_cons,List.not_mem_nil,or_false,not_or] at hc'
   exact sb.extBut _ _ hc'.1 (kk c o hc'.1 hc'.2.1 hc'.2.2.1 hc'.2.2.2 e)
  have sub:∀c∈[z,to,i1,i2],c∈[z,ti,to,i1,i2]:=fun c hc'=>by
   simp only[List.mem_cons,List.not_mem_nil,or_false] at hc' ⊢
   rcases hc' with q|q|q|q
   ·exact .inl q
   ·exact .inr (.inr (.inl q))
   ·exact .inr (.inr (.inr (.inl q)))
   ·exact .inr (.inr (.inr (.inr q)))
  have I1:Inv X pins σ H { s with heap:=g' }:=I.turns (t':=s.toks) up fun c hc'=>hf c (sub c hc')
  have t':IsPair g' s.heap.objs.size u v:=sb.extBut _ _ nz a5
  have I2:=I1.track (a:=s.heap.objs.size) (o:=.tup [x,y]) (I.fpOk (Nat.le_refl _) I.fresh) ⟨by show 2<=sizeLine;decide,[u,v],.cons ru (.cons rv .nil),⟨_,t',rfl,⟨_,rfl⟩,rfl⟩⟩
  refine⟨.ref s.heap.objs.size,_,I2,rfl,⟨_,x,y,I.fresh,rfl,rfl,fun xs' q=>by rw[I.tuple_inj q q1];exact e1,fun ys' q=>by rw[I.tuple_inj q q2];exact e2⟩,?_,fun c hc'=>?_⟩
  ·obtain⟨a',b',a2⟩:=a2
   refine⟨z',?_,⟨a',b',sb.extBut _ _ D.TOz a2⟩,a3.extBut sb.extBut D.i1z,a4.extBut sb.extBut D.i2z⟩
   exact sb.extBut _ _ D.TIz (kk _ _ D.TIz D.TITO D.TIi1 D.TIi2 d.ti)
  ·have ne:c≠s.heap.objs.size:=by
    have ex:∃o,s.heap.get? c=some o:=by
     obtain⟨hz,hTI,⟨x',y',hTO⟩,h1,h2⟩:=d
     simp only[List.mem_cons,List.not_mem_nil,or_false] at hc'
     rcases hc' with rfl|rfl|rfl|rfl|rfl
     ·exact⟨_,hz⟩
     ·exact⟨_,hTI⟩
     ·exact⟨_,hTO⟩
     ·obtain⟨o,e,_⟩:=h1;exact⟨o,e⟩
     ·obtain⟨o,e,_⟩:=h2;exact⟨o,e⟩
    obtain⟨o,e⟩:=ex
    exact Nat.ne_of_lt (Heap.lt_size e)
   rw[Xc ne]
   exact(hf c hc').1
 done:=by
  intro X hP hw hK hc i pins s σ H E I hf st hg
  subst hP hw hK
  obtain⟨xs,q1,hl⟩:=hg
  obtain⟨us,r1,p1,_⟩:=I.tuple q1
  have e:=r1.length
  have sub:∀c∈[z,to,i1,i2],c∈[z,ti,to,i1,i2]:=fun c hc'=>by
   simp only[List.mem_cons,List.not_mem_nil,or_false] at hc' ⊢
   rcases hc' with q|q|q|q
   ·exact .inl q
   ·exact .inr (.inr (.inl q))
   ·exact .inr (.inr (.inr (.inl q)))
   ·exact .inr (.inr (.inr (.inr q)))
  refine G3 (xs:=us.toArray) (I.ok.hd hc) D st p1 (by simp;omega) fun g kk=>⟨rfl,I.turns (t':=s.toks) (ch:=[z,to,i1,i2]) (fun c o hc' e=>?_) fun c hc'=>hf c (sub c hc')⟩
  simp only[List.mem_cons,List.not_mem_nil,or_false,not_or] at hc'
  exact kk c o hc'.1 hc'.2.1 hc'.2.2.1 hc'.2.2.2 e
 self:=fun _ _ _ _ _ st h=>wpAny_pyIter_zip st.z h
def iZip(K:PySem.W.Frag)(ta:TA):TI:=fun σ H R=>ta σ H fun vs H1=>∃a b xs ys,vs=[.ref a,.ref b]/\SqT K H1 a xs/\SqT K H1 b ys/\R (Itz K a b) H1
theorem Abx{X:Cx}{a b:Expr}{ta:TA}{p pos tp:Pos}{es:List Expr}{k:Nat}(hg:Gl X "zip")(hm:X.mg "zip"=none)(hv:bootBuiltins "zip"=some (.type "zip"))(ha:PA X [a,b] ta)
  (hs:starEach [a,b] X.env=[(false,eval a X.env),(false,eval b X.env)]:=by rfl) (hs2:starEach [b] X.env=[(false,eval b X.env)]:=by rfl):PI X (.Tuple es k tp) (.Call (.Name "zip" p) [a,b] [] pos) (iZip X.K ta):=by
 intro pins s σ H R I h
 refine Call_ (Dg I hg hm hv (PyProof.Rows.callWith_type1 (thn (ha pos pins s σ H _ I h) fun us s1 h1=>?_) (by rw[hs,hs2]) (by rw[hs2];rfl)))
 obtain⟨vs,H1,I1,r1,q1⟩:=h1
 obtain⟨c,d,xs,ys,rfl,q,q',hR⟩:=q1
 obtain⟨u,v,rfl,ru,rv⟩:=r1.two
 cases ru
 cases rv
 obtain⟨is,r,p1,_⟩:=I1.tuple q
 obtain⟨js,r',p2,_⟩:=I1.tuple q'
 have lt:∀{x:Addr} {its:List Value},IsTup s1.heap x its.toArray->x<s1.heap.objs.size:=fun z=>by
  obtain⟨o,e,_⟩:=z
  exact Heap.lt_size e
 refine Re (xs:=is.toArray) (ys:=js.toArray) p1 p2 fun g Z kk=>wpAny_pyIter_zip Z.z ?_
 refine⟨s1.heap.objs.size+4,[s1.heap.objs.size+4,s1.heap.objs.size+2,s1.heap.objs.size+3,s1.heap.objs.size,s1.heap.objs.size+1],_,_,H1,rfl,I1.kept (t':=s1.toks) kk,Uq (zipApart_new (lt p1) (lt p2)),Z,fun x hx=>?_,hR⟩
 have hl:s1.heap.objs.size<=x:=by
  simp only[List.mem_cons,List.not_mem_nil,or_false] at hx
  rcases hx with rfl|rfl|rfl|rfl|rfl <;> omega
 exact I1.fpOk hl (I1.hok.fresh hl)
end L2
end
section
namespace L2
open PySem PySem.Spec PyProof.Rows
section
variable{X:Cx}
theorem Adx{pins:List (Addr×Obj)}{σ:St}{H:Hp}{s:Shared}{x:V}{u t:Value}(I:Inv X pins σ H s)(rx:RelV x u)(ty:TyOf X.K H x t):∃Hh:Heap->Prop,PySem.W.KitX X.K u t Hh/\Hh s.heap/\u≠.builtin "__main__.__loader__#opaque":=by
 cases ty with
 |non=>cases (show u=Value.none from rx);exact⟨_,PySem.W.kitx_none,True.intro,fun z=>nomatch z⟩
 |bl y=>cases (show u=Value.bool y from rx);exact⟨_,PySem.W.kitx_bool,True.intro,fun z=>nomatch z⟩
 |int i=>obtain⟨t,q⟩:=(show ∃t,u=Value.int i t from rx);cases q;exact⟨_,PySem.W.kitx_int,True.intro,fun z=>nomatch z⟩
 |str y=>obtain⟨t,q⟩:=(show ∃t,u=Value.str y t from rx);cases q;exact⟨_,PySem.W.kitx_str,True.intro,fun z=>nomatch z⟩
 |flt y=>obtain⟨t,q⟩:=(show ∃t,u=Value.float y t from rx);cases q;exact⟨_,PySem.W.kitx_float,True.intro,fun z=>nomatch z⟩
 | @lst a xs ea =>
  cases (show u=Value.ref a from rx)
  obtain⟨_,_,n,_,h1⟩:=(show ObjOk X.prog X.w H s.heap a (.lst xs) from I.hok a _ ea)
  exact⟨_,PySem.W.kitx_list,⟨_,h1,rfl⟩,fun z=>nomatch z⟩
 | @frz a ob xs ea =>
  cases (show u=Value.ref a from rx)
  obtain⟨_,_,_,n,_,h1⟩:=(show ObjOk X.prog X.w H s.heap a (.frz ob (.lst xs)) from I.hok a _ ea)
  exact⟨_,PySem.W.kitx_list,⟨_,h1,rfl⟩,fun z=>nomatch z⟩
 | @tup a xs ea =>
  cases (show u=Value.ref a from rx)
  obtain⟨_,_,_,p⟩:=(show ObjOk X.prog X.w H s.heap a (.tup xs) from I.hok a _ ea)
  obtain⟨o,h1,h2,_⟩:=p
  exact⟨_,PySem.W.kitx_tuple,⟨o,h1,h2⟩,fun z=>nomatch z⟩
 | @dK a kvs ea =>
  cases (show u=Value.ref a from rx)
  obtain⟨_,_,vs,_,p⟩:=(show ObjOk X.prog X.w H s.heap a (.dK kvs) from I.hok a _ ea)
  obtain⟨o,es,ep,h1,h2,_⟩:=p
  exact⟨_,PySem.W.kitx_dict,⟨o,h1,h2.1⟩,fun z=>nomatch z⟩
 | @dT a kvs ea =>
  cases (show u=Value.ref a from rx)
  obtain⟨_,_,xs,_,o,es,ep,h1,h2,_⟩:=(show ObjOk X.prog X.w H s.heap a (.dT kvs) from I.hok a _ ea)
  exact⟨_,PySem.W.kitx_dict,⟨o,h1,h2.1⟩,fun z=>nomatch z⟩
 | @ins a C dx fs ea cl ha hn htk hm =>
  cases (show u=Value.ref a from rx)
  obtain⟨mA,O,_⟩:=G4 I.hok ea
  obtain⟨od,J,_⟩:=O.look
  exact⟨_,PySem.W.kitx_own (cl.get _) cl.hd ha hn htk hm,J,fun z=>nomatch z⟩
def TyV(K:PySem.W.Frag)(H:Hp)(x:V)(t:Value):Prop:=TyOf K H x t\/(t=.type "tuple"/\∃a o,x=.ref a/\K.lookup a=some o/\o.cls=.type "tuple")
theorem Pa{pins:List (Addr×Obj)}{σ:St}{H:Hp}{s:Shared}{x:V}{u t:Value}(I:Inv X pins σ H s)(rx:RelV x u)(ty:TyV X.K H x t):∃Hh:Heap->Prop,PySem.W.KitX X.K u t Hh/\Hh s.heap/\u≠.builtin "__main__.__loader__#opaque":=by
 rcases ty with ty|⟨rfl,a,o,rfl,hk,hc⟩
 ·exact Adx I rx ty
 ·cases (show u=Value.ref a from rx)
  exact⟨_,PySem.W.kitx_tuple,⟨o,I.kIn a o hk,hc⟩,fun z=>nomatch z⟩
def rIsi(K:PySem.W.Frag):List V->Hp->VK->Prop:=fun xs H Q=>∃x t b,TyV K H x t/\((∃c,xs=[x,.ty c]/\PySem.W.kitOne K t (.type c)=some b)\/∃p c d,xs=[x,.ref p]/\SqT K H p [.ty c,.ty d]/\PySem.W.kitAny K t [.type c,.type d]=some b)/\Q (.bl b) H
theorem Qr:CallR X (.builtin "isinstance") (rIsi X.K):=by
 intro pins s σ H xs us Q I r h
 obtain⟨x,t,b,ty,h,q⟩:=h
 have fin:∀tk,EP X pins σ Q (.bool b) { s with toks:=tk }:=fun tk=>⟨.bl b,H,I.tok tk,rfl,q⟩
 rcases h with⟨c,rfl,e⟩|⟨p,c,d,rfl,hp,e⟩
 ·obtain⟨u,u2,rfl,r1,r2⟩:=Aaj r
  cases (show u2=Value.type c from r2)
  obtain⟨Hh,Z,hh,hne⟩:=Pa I r1 ty
  exact PySem.W.kia_one Z I.kIn hh e hne fin
 ·obtain⟨u,u2,rfl,r1,r2⟩:=Aaj r
  cases (show u2=Value.ref p from r2)
  obtain⟨Hh,Z,hh,hne⟩:=Pa I r1 ty
  obtain⟨its,rv,pt,_⟩:=I.tuple hp
  obtain⟨u,w',rfl,ru,rw'⟩:=rv.two
  cases (show u=Value.type c from ru)
  cases (show w'=Value.type d from rw')
  obtain⟨⟨cls,dd,data,sl⟩,ho,hc,n,hd⟩:=pt
  simp only at hc hd
  subst hc hd
  exact PySem.W.kia_tup Z I.kIn hh ho e hne fin
def rCatU(K:PySem.W.Frag):R2:=fun x y H Q=>∃a b xs ys,x=.ref a/\y=.ref b/\SqT K H a xs/\SqT K H b ys/\xs.length+ys.length<=sizeLine ∧
 (xs=[]->Q (.ref b) H)/\(xs≠[]->ys=[]->Q (.ref a) H)/\(xs≠[]->ys≠[]->∀p,H p=none->Q (.ref p) (upd H p (.tup (xs++ys))))
theorem Yh:OpR X (binaryOp .Add) (rCatU X.K):=by
 intro pins s σ H x y v u Q I rx ry h
 obtain⟨a,b,xs,ys,rfl,rfl,ha,hb,hz,q0,q1,q2⟩:=h
 by_cases hx:xs=[]
 ·subst hx
  cases rx
  cases ry
  obtain⟨its,r1,p1,_⟩:=I.tuple ha
  obtain⟨its2,r2,p2,_⟩:=I.tuple hb
  obtain⟨⟨cls,dd,data,sl⟩,ho,hc,n,hd⟩:=p1
  obtain⟨⟨cls2,dd2,data2,sl2⟩,ho2,hc2,n2,hd2⟩:=p2
  simp only at hc hd hc2 hd2
  subst hc hd hc2 hd2
  exact concat_meets ⟨_,ho,rfl⟩ ⟨_,ho2,rfl⟩ noFill_tuple_add seq_tuple_add PySem.F.slot_tuple_add PySem.F.entry_tuple_add (PySem.F.args_tuple_add_2 _ _)
   (tuple_addW0 a b its.toArray its2.toArray n n2 dd dd2 sl sl2 (by rw[r1.nil_iff.mpr rfl];rfl)) ⟨ho,ho2,⟨.ref b,H,I,rfl,q0 rfl⟩⟩
 ·exact X6 pins s σ H _ _ v u Q I rx ry ⟨a,b,xs,ys,rfl,rfl,ha,hb,hx,hz,fun e=>q1 hx e,fun e=>q2 hx e⟩
end
end L2
end
section
namespace L2
open PySem PySem.Spec PyProof.Rows
section
variable{X:Cx}
def rEqN(K:PySem.W.Frag)(neg:Bool):R2:=fun x y H Q=>∃a b xs,x=.ref a/\y=.ref b/\SqL K H a xs/\SqL K H b []/\Q (.bl (Bool.xor neg xs.isEmpty)) H
theorem Ut(hu:X.A.units<cLine):OpR X (compareOp .Eq) (rEqN X.K false):=by
 intro pins s σ H x y v u Q I rx ry h
 obtain⟨a,b,xs,rfl,rfl,ha,hb,q⟩:=h
 cases rx
 cases ry
 obtain⟨its,r1,p1,_⟩:=I.list ha
 obtain⟨its2,r2,p2,_⟩:=I.list hb
 have e2:its2=[]:=r2.nil_iff.mpr rfl
 subst e2
 by_cases hx:xs=[]
 ·subst hx
  have e1:its=[]:=r1.nil_iff.mpr rfl
  subst e1
  exact SeqAt.eq_listAt (e:=fun _=>true) p1.isList p2.isList rfl hu (fun j h1 _=>absurd h1 (by simp)) ⟨.bl true,H,I,rfl,q⟩
 ·have e1:its≠[]:=fun z=>hx (r1.nil_iff.mp z)
  have e:xs.isEmpty=false:=by cases xs with
   |nil=>exact absurd rfl hx
   |cons=>rfl
  refine SeqAt.eq_list_lengthsAt p1.isList p2.isList ?_ hu ⟨.bl false,H,I,rfl,by rw[e] at q;exact q⟩
  cases its with
  |nil=>exact absurd rfl e1
  |cons=>simp
theorem Aea(hu:X.A.units<cLine):OpR X (compareOp .NotEq) (rEqN X.K true):=by
 intro pins s σ H x y v u Q I rx ry h
 obtain⟨a,b,xs,rfl,rfl,ha,hb,q⟩:=h
 cases rx
 cases ry
 obtain⟨its,r1,p1,_⟩:=I.list ha
 obtain⟨its2,r2,p2,_⟩:=I.list hb
 have e2:its2=[]:=r2.nil_iff.mpr rfl
 subst e2
 by_cases hx:xs=[]
 ·subst hx
  have e1:its=[]:=r1.nil_iff.mpr rfl
  subst e1
  exact SeqAt.RcNeAt.lists (e:=fun _=>true) p1.isList p2.isList rfl hu (fun j h1 _=>absurd h1 (by simp)) X.prog X.w _ _ ⟨.bl false,H,I,rfl,q⟩
 ·have e1:its≠[]:=fun z=>hx (r1.nil_iff.mp z)
  have e:xs.isEmpty=false:=by cases xs with
   |nil=>exact absurd rfl hx
   |cons=>rfl
  refine SeqAt.RcNeAt.lists_lengths p1.isList p2.isList ?_ hu X.prog X.w _ _ ⟨.bl true,H,I,rfl,by rw[e] at q;exact q⟩
  cases its with
  |nil=>exact absurd rfl e1
  |cons=>simp
def KD(P:Program)(w:World)(K:PySem.W.Frag)(a:Addr)(kvs:List (Key×V)):Prop:=(a==sysModules)=false/\∃vs,KV kvs vs/\∀h:Heap,K.In h->h.DictOf (mixKind P w) a vs
def tKGet(kvs:List (Key×V))(ty:TE):TE:=fun σ H Q=>ty σ H fun y H1=>∃k,y=kV k/\Q ((valV kvs k).getD .non) H1
theorem Wy{x:Str}{a:Addr}{kvs:List (Key×V)}{e:Expr}{ty:TE}{p apos cpos:Pos}(hg:Gl X x)(hm:X.mg x=some (.ref a))(kd:KD X.prog X.w X.K a kvs)(he:PE X e ty)(m:M1 X (.Name x p) "get" apos e cpos)
  (hd:(x==("__debug__":Str))=false:=by decide):PE X (.Call (.Attribute (.Name x p) "get" apos) [e] [] cpos) (tKGet kvs ty):=by
 intro pins s σ H Q I h
 obtain⟨hsm,vs,rel,hdd⟩:=kd
 refine wpAny_Call_method m.base m.few m.line PySem.F.plainAttrs_dict PySem.F.slot_dict_get PySem.F.type_dict_get (Bo I hg hm ?_ hd)
 have dd:=hdd s.heap I.kIn
 refine⟨dd.typeIs,fun b q=>?_,?_⟩
 ·cases q
  obtain⟨ob,_,_,h1,h2,_⟩:=dd
  exact⟨ob,h1,h2.2.1⟩
 rw[m.trees]
 refine Calls.callWith_builtin rfl (Calls.evalArgs_plain (Calls.spliced_cons (thn (he pins s σ H _ I h) fun iv s2 h2=>Calls.spliced_nil ?_)))
 obtain⟨y,H2,I2,ry,k,rfl,q2⟩:=h2
 have dd2:=hdd s2.heap I2.kIn
 refine call_meetsIn PySem.F.slot_dict_get dd2.typeIs PySem.F.entry_dict_get (PySem.F.args_dict_get_2 _ _) (meets_dict_get (mixKind X.prog X.w) a (Pz ry) hsm) ⟨_,dd2.mapOf,?_⟩
 exact⟨(valV kvs k).getD .non,H2,I2.tok _,RelO.getD (d:=V.non) (rel.val k) rfl,q2⟩
end
end L2
end
section
namespace TL
open PySem PySem.Spec PyProof.Rows L2
inductive T where
 |non|bl (b:Bool)|int (i:Int)|str (x:Str)|ty (n:String)
 |tup (ts:List T)|lst (ts:List T)|fls (ts:List T)|dct (kts:List (Key×T))|ref (a:Addr)
inductive Cell where
 |lst (ts:List T)|dct (kts:List (Key×T))|ins (C:Addr) (fs:List (Str×T))|tpl (ts:List T)|dtt (kts:List (List Key×T))
abbrev TH:=Addr->Option Cell
def Ad(S:TH)(a:Addr)(c:Cell):TH:=fun b=>if b=a then some c else S b
def Dv(S:TH)(a:Addr):TH:=fun b=>if b=a then none else S b
theorem Zd{S:TH}{a:Addr}{c:Cell}:Ad S a c a=some c:=by unfold Ad;rw[if_pos rfl]
theorem updT_ne{S:TH}{a b:Addr}{c:Cell}(h:b≠a):Ad S a c b=S b:=by unfold Ad;rw[if_neg h]
theorem Eb{S:TH}{a:Addr}:Dv S a a=none:=by unfold Dv;rw[if_pos rfl]
theorem delT_ne{S:TH}{a b:Addr}(h:b≠a):Dv S a b=S b:=by unfold Dv;rw[if_neg h]
def KL(K:PySem.W.Frag)(a:Addr)(vs:List V):Prop:=∃(o:Obj) (its:Array Value) (n:Nat),K.lookup a=some o/\o.cls=.type "list"/\o.dict=none/\o.data=.seq its n/\its.size<=sizeLine/\Vals vs its.toList
def KTu(K:PySem.W.Frag)(a:Addr)(vs:List V):Prop:=∃(o:Obj) (its:Array Value) (n:Nat),K.lookup a=some o/\o.cls=.type "tuple"/\o.data=.seq its n/\its.size<=sizeLine/\Vals vs its.toList/\o.dict=none
def FL(S:TH)(H:Hp)(a:Addr)(vs:List V):Prop:=S a=none/\H a=some (.lst vs)
def FX(K:PySem.W.Frag)(S:TH)(H:Hp)(a:Addr)(vs:List V):Prop:=(S a=none/\∃o,H a=some (.frz o (.lst vs)))\/KL K a vs
def FT(K:PySem.W.Frag)(S:TH)(H:Hp)(a:Addr)(vs:List V):Prop:=(S a=none/\H a=some (.tup vs))\/KTu K a vs
section
variable{K:PySem.W.Frag}{S S':TH}{H H':Hp}{a:Addr}{vs:List V}
theorem FL.sq(h:FL S H a vs):SqL K H a vs:=.inl (.inl h.2)
theorem FX.sq(h:FX K S H a vs):SqL K H a vs:=h.elim (fun z=>.inl (.inr z.2)) .inr
theorem FT.sq(h:FT K S H a vs):SqT K H a vs:=h.elim (fun z=>.inl (.inl z.2)) .inr
end
inductive Rep(K:PySem.W.Frag)(S:TH)(H:Hp):V->T->Prop where
 |non:Rep K S H .non .non
 |bl (b:Bool):Rep K S H (.bl b) (.bl b)
 |int (i:Int):Rep K S H (.int i) (.int i)
 |str (x:Str):Rep K S H (.str x) (.str x)
 |ty (n:String):Rep K S H (.ty n) (.ty n)
 |ref (a:Addr):Rep K S H (.ref a) (.ref a)
 |tup {a:Addr} {vs:List V} {ts:List T}:FT K S H a vs->vs.length=ts.length->(∀(i:Nat) v t,vs[i]?=some v->ts[i]?=some t->Rep K S H v t)->Rep K S H (.ref a) (.tup ts)
 |lst {a:Addr} {vs:List V} {ts:List T}:FL S H a vs->vs.length=ts.length->(∀(i:Nat) v t,vs[i]?=some v->ts[i]?=some t->Rep K S H v t)->Rep K S H (.ref a) (.lst ts)
 |fls {a:Addr} {vs:List V} {ts:List T}:FX K S H a vs->vs.length=ts.length->(∀(i:Nat) v t,vs[i]?=some v->ts[i]?=some t->Rep K S H v t)->Rep K S H (.ref a) (.fls ts)
 |dct {a:Addr} {kvs:List (Key×V)} {kts:List (Key×T)}:(S a=none/\H a=some (.dK kvs))->kvs.length=kts.length->(∀(i:Nat) v t,kvs[i]?=some v->kts[i]?=some t->v.1=t.1)->(∀(i:Nat) v t,kvs[i]?=some v->kts[i]?=some t->Rep K S H v.2 t.2)->Rep K S H (.ref a) (.dct kts)
def Reps(K:PySem.W.Frag)(S:TH)(H:Hp)(vs:List V)(ts:List T):Prop:=vs.length=ts.length/\∀(i:Nat) v t,vs[i]?=some v->ts[i]?=some t->Rep K S H v t
def RepK(K:PySem.W.Frag)(S:TH)(H:Hp)(kvs:List (Key×V))(kts:List (Key×T)):Prop:=kvs.length=kts.length/\∀(i:Nat) v t,kvs[i]?=some v->kts[i]?=some t->v.1=t.1/\Rep K S H v.2 t.2
def RepF(K:PySem.W.Frag)(S:TH)(H:Hp)(fvs:List (Str×V))(fts:List (Str×T)):Prop:=fvs.length=fts.length/\∀(i:Nat) v t,fvs[i]?=some v->fts[i]?=some t->v.1=t.1/\Rep K S H v.2 t.2
def RepQ(K:PySem.W.Frag)(S:TH)(H:Hp)(kvs:List (List Key×V))(kts:List (List Key×T)):Prop:=kvs.length=kts.length/\∀(i:Nat) v t,kvs[i]?=some v->kts[i]?=some t->v.1=t.1/\Rep K S H v.2 t.2
def Le(S:TH)(H:Hp)(S':TH)(H':Hp):Prop:=∀b o,S b=none->H b=some o->S' b=none/\H' b=some o
def CellOk(K:PySem.W.Frag)(S:TH)(H:Hp)(a:Addr):Cell->Prop
 | .lst ts=>∃vs,H a=some (.lst vs)/\Reps K S H vs ts
 | .dct kts=>∃kvs,H a=some (.dK kvs)/\RepK K S H kvs kts
 | .ins C fts=>∃dx fvs,H a=some (.ins C dx fvs)/\RepF K S H fvs fts
 | .tpl ts=>∃vs,H a=some (.tup vs)/\Reps K S H vs ts
 | .dtt kts=>∃kvs,H a=some (.dT kvs)/\RepQ K S H kvs kts
def Good(K:PySem.W.Frag)(S:TH)(H:Hp):Prop:=∀a c,S a=some c->CellOk K S H a c
section
variable{K:PySem.W.Frag}{S S' S'':TH}{H H' H'':Hp}{a:Addr}{v:V}{t:T}{vs ws:List V}{ts us:List T}
theorem Le.refl:Le S H S H:=fun _ _ n e=>⟨n,e⟩
theorem Le.trans(x:Le S H S' H')(y:Le S' H' S'' H''):Le S H S'' H'':=fun b o n e=>let ⟨n',e'⟩:=x b o n e;y b o n' e'
theorem FL.mono(le:Le S H S' H')(h:FL S H a vs):FL S' H' a vs:=le _ _ h.1 h.2
theorem FX.mono(le:Le S H S' H')(h:FX K S H a vs):FX K S' H' a vs:=h.elim (fun ⟨n,o,e⟩=>.inl ⟨(le _ _ n e).1,o,(le _ _ n e).2⟩) .inr
theorem FT.mono(le:Le S H S' H')(h:FT K S H a vs):FT K S' H' a vs:=h.elim (fun z=>.inl (le _ _ z.1 z.2)) .inr
theorem Rep.mono(le:Le S H S' H')(h:Rep K S H v t):Rep K S' H' v t:=by
 induction h with
 |non=>exact .non
 |bl b=>exact .bl b
 |int i=>exact .int i
 |str x=>exact .str x
 |ty n=>exact .ty n
 |ref a=>exact .ref a
 |tup f l _ ih=>exact .tup (f.mono le) l ih
 |lst f l _ ih=>exact .lst (f.mono le) l ih
 |fls f l _ ih=>exact .fls (f.mono le) l ih
 |dct f l r _ ih=>exact .dct (le _ _ f.1 f.2) l r ih
theorem Reps.mono(le:Le S H S' H')(h:Reps K S H vs ts):Reps K S' H' vs ts:=⟨h.1,fun i v t e1 e2=>(h.2 i v t e1 e2).mono le⟩
theorem RepK.mono{kvs:List (Key×V)}{kts:List (Key×T)}(le:Le S H S' H')(h:RepK K S H kvs kts):RepK K S' H' kvs kts:=⟨h.1,fun i v t e1 e2=>⟨(h.2 i v t e1 e2).1,(h.2 i v t e1 e2).2.mono le⟩⟩
theorem RepF.mono{fvs:List (Str×V)}{fts:List (Str×T)}(le:Le S H S' H')(h:RepF K S H fvs fts):RepF K S' H' fvs fts:=⟨h.1,fun i v t e1 e2=>⟨(h.2 i v t e1 e2).1,(h.2 i v t e1 e2).2.mono le⟩⟩
theorem Reps.nil:Reps K S H [] []:=⟨rfl,fun _ _ _ e=>by simp at e⟩
theorem Reps.cons(h:Rep K S H v t)(r:Reps K S H vs ts):Reps K S H (v::vs) (t::ts):=by
 refine⟨by simp only[List.length_cons,r.1],fun i v' t' e1 e2=>?_⟩
 cases i with
 |zero=>simp at e1 e2;subst e1;subst e2;exact h
 |succ i=>exact r.2 i v' t' (by simpa using e1) (by simpa using e2)
theorem Reps.head(h:Reps K S H (v::vs) (t::ts)):Rep K S H v t:=h.2 0 v t rfl rfl
theorem Reps.tail(h:Reps K S H (v::vs) (t::ts)):Reps K S H vs ts:=⟨by simpa using h.1,fun i v' t' e1 e2=>h.2 (i+1) v' t' (by simpa using e1) (by simpa using e2)⟩
theorem Reps.append:∀{vs:List V} {ts:List T},Reps K S H vs ts->Reps K S H ws us->Reps K S H (vs++ws) (ts++us)
 |[],[],_,r=>r
 |v::vs,t::ts,h,r=>Reps.cons h.head (Reps.append h.tail r)
 |[],_::_,h,_=>by have:=h.1;simp at this
 |_::_,[],h,_=>by have:=h.1;simp at this
theorem Reps.get{i:Nat}(h:Reps K S H vs ts)(e:ts[i]?=some t):∃v,vs[i]?=some v/\Rep K S H v t:=by
 have hi:i<ts.length:=(List.getElem?_eq_some_iff.mp e).1
 have hi':i<vs.length:=by rw[h.1];exact hi
 exact⟨vs[i],List.getElem?_eq_getElem hi',h.2 i _ t (List.getElem?_eq_getElem hi') e⟩
theorem Reps.get'{i:Nat}(h:Reps K S H vs ts)(e:vs[i]?=some v):∃t,ts[i]?=some t/\Rep K S H v t:=by
 have hi:i<vs.length:=(List.getElem?_eq_some_iff.mp e).1
 have hi':i<ts.length:=by rw[<-h.1];exact hi
 exact⟨ts[i],List.getElem?_eq_getElem hi',h.2 i v _ e (List.getElem?_eq_getElem hi')⟩
theorem Reps.drop(h:Reps K S H vs ts)(n:Nat):Reps K S H (vs.drop n) (ts.drop n) :=
 ⟨by simp only[List.length_drop,h.1],fun i v t e1 e2=>h.2 (n+i) v t (by simpa using e1) (by simpa using e2)⟩
theorem Reps.take(h:Reps K S H vs ts)(n:Nat):Reps K S H (vs.take n) (ts.take n):=by
 refine⟨by simp only[List.length_take,h.1],fun i v t e1 e2=>?_⟩
 by_cases hi:i<n
 ·rw[List.getElem?_take_of_lt hi] at e1 e2;exact h.2 i v t e1 e2
 ·rw[List.getElem?_take_eq_none (by omega)] at e1;cases e1
theorem Reps.set{i:Nat}(h:Reps K S H vs ts)(r:Rep K S H v t):Reps K S H (vs.set i v) (ts.set i t):=by
 refine⟨by simp only[List.length_set,h.1],fun j v' t' e1 e2=>?_⟩
 by_cases hj:i=j
 ·subst hj
  rw[List.getElem?_set] at e1 e2
  simp only[if_true] at e1 e2
  split at e1
  ·split at e2
   ·cases e1;cases e2;exact r
   ·cases e2
  ·cases e1
 ·rw[List.getElem?_set_ne hj] at e1 e2;exact h.2 j v' t' e1 e2
theorem Rep.tupI{a:Addr}(f:FT K S H a vs)(r:Reps K S H vs ts):Rep K S H (.ref a) (.tup ts):=.tup f r.1 r.2
theorem Rep.lstI{a:Addr}(f:FL S H a vs)(r:Reps K S H vs ts):Rep K S H (.ref a) (.lst ts):=.lst f r.1 r.2
theorem Rep.tupE(h:Rep K S H v (.tup ts)):∃a vs,v=.ref a/\FT K S H a vs/\Reps K S H vs ts:=by
 cases h with
 |tup f l r=>exact⟨_,_,rfl,f,l,r⟩
theorem Rep.lstE(h:Rep K S H v (.lst ts)):∃a vs,v=.ref a/\FL S H a vs/\Reps K S H vs ts:=by
 cases h with
 |lst f l r=>exact⟨_,_,rfl,f,l,r⟩
theorem Rep.flsE(h:Rep K S H v (.fls ts)):∃a vs,v=.ref a/\FX K S H a vs/\Reps K S H vs ts:=by
 cases h with
 |fls f l r=>exact⟨_,_,rfl,f,l,r⟩
theorem Rep.dctE{kts:List (Key×T)}(h:Rep K S H v (.dct kts)):∃a kvs,v=.ref a/\S a=none/\H a=some (.dK kvs)/\RepK K S H kvs kts:=by
 cases h with
 |dct f l r1 r2=>exact⟨_,_,rfl,f.1,f.2,l,fun i v t e1 e2=>⟨r1 i v t e1 e2,r2 i v t e1 e2⟩⟩
theorem Le.new{p:Addr}{o:HO}(g:Good K S H)(hp:H p=none):Le S H S (upd H p o):=fun b u n e=>⟨n,by rw[Xc (Xa e hp)];exact e⟩
theorem Good.free(g:Good K S H){p:Addr}(hp:H p=none):S p=none:=by
 cases e:S p with
 |none=>rfl
 |some c =>
  have:=g p c e
  cases c with
  |lst ts=>obtain⟨vs,q,_⟩:=this;rw[hp] at q;cases q
  |dct ts=>obtain⟨vs,q,_⟩:=this;rw[hp] at q;cases q
  |ins C fs=>obtain⟨dx,vs,q,_⟩:=this;rw[hp] at q;cases q
  |tpl ts=>obtain⟨vs,q,_⟩:=this;rw[hp] at q;cases q
  |dtt ts=>obtain⟨vs,q,_⟩:=this;rw[hp] at q;cases q
theorem CellOk.mono{c:Cell}(le:Le S H S' H')(x:CellOk K S H a c)(e:H' a=H a):CellOk K S' H' a c:=by
 cases c with
 |lst ts=>obtain⟨vs,q,r⟩:=x;exact⟨vs,by rw[e];exact q,r.mono le⟩
 |dct ts=>obtain⟨vs,q,r⟩:=x;exact⟨vs,by rw[e];exact q,r.mono le⟩
 |ins C fs=>obtain⟨dx,vs,q,r⟩:=x;exact⟨dx,vs,by rw[e];exact q,r.mono le⟩
 |tpl ts=>obtain⟨vs,q,r⟩:=x;exact⟨vs,by rw[e];exact q,r.mono le⟩
 |dtt ts=>obtain⟨vs,q,r⟩:=x;exact⟨vs,by rw[e];exact q,r.1,fun i v t a b=>⟨(r.2 i v t a b).1,(r.2 i v t a b).2.mono le⟩⟩
theorem Good.new{p:Addr}{o:HO}(g:Good K S H)(hp:H p=none):Good K S (upd H p o):=fun a c e=>by
 have ne:a≠p:=fun z=>by rw[z,g.free hp] at e;cases e
 exact(g a c e).mono (Le.new g hp) (Xc ne)
theorem Le.newC{p:Addr}{o:HO}{c:Cell}(hp:H p=none):Le S H (Ad S p c) (upd H p o):=fun b u n e=>by
 have ne:=Xa e hp
 exact⟨by rw[updT_ne ne];exact n,by rw[Xc ne];exact e⟩
theorem Good.newL{p:Addr}{vs:List V}{ts:List T}(g:Good K S H)(hp:H p=none)(r:Reps K S H vs ts):Good K (Ad S p (.lst ts)) (upd H p (.lst vs)):=fun a c e=>by
 have le:Le S H (Ad S p (.lst ts)) (upd H p (.lst vs)):=Le.newC hp
 by_cases ha:a=p
 ·subst ha
  rw[Zd] at e
  cases e
  exact⟨vs,A4,r.mono le⟩
 ·rw[updT_ne ha] at e
  exact(g a c e).mono le (Xc ha)
theorem Le.write{p:Addr}{o:HO}{c c':Cell}(e:S p=some c'):Le S H (Ad S p c) (upd H p o):=fun b u n q=>by
 have ne:b≠p:=fun z=>by rw[z,e] at n;cases n
 exact⟨by rw[updT_ne ne];exact n,by rw[Xc ne];exact q⟩
theorem Good.writeL{p:Addr}{vs:List V}{ts:List T}{c:Cell}(g:Good K S H)(hp:S p=some c)(r:Reps K S H vs ts):Good K (Ad S p (.lst ts)) (upd H p (.lst vs)):=fun a c' e=>by
 have le:Le S H (Ad S p (.lst ts)) (upd H p (.lst vs)):=Le.write hp
 by_cases ha:a=p
 ·subst ha
  rw[Zd] at e
  cases e
  exact⟨vs,A4,r.mono le⟩
 ·rw[updT_ne ha] at e
  exact(g a c' e).mono le (Xc ha)
theorem Le.del{p:Addr}:Le S H (Dv S p) H:=fun b u n q=>by
 by_cases hb:b=p
 ·subst hb;exact⟨Eb,q⟩
 ·exact⟨by rw[delT_ne hb];exact n,q⟩
theorem Good.del{p:Addr}(g:Good K S H):Good K (Dv S p) H:=fun a c e=>by
 by_cases ha:a=p
 ·subst ha;rw[Eb] at e;cases e
 ·rw[delT_ne ha] at e
  exact(g a c e).mono Le.del rfl
end
abbrev Ev:=List (Option T)
abbrev UX:=T->TH->Prop
abbrev UTE:=Ev->TH->UX->Prop
abbrev UTT:=Ev->TH->(Bool->TH->Prop)->Prop
abbrev UTA:=Ev->TH->(List T->TH->Prop)->Prop
structure UEnds where
 nx:Ev->TH->Prop
 rt:UX
 bk:Ev->TH->Prop:=fun _ _=>False
 ct:Ev->TH->Prop:=fun _ _=>False
abbrev UTS:=UEnds->Ev->TH->Prop
def REnv(K:PySem.W.Frag)(S:TH)(H:Hp)(σ:L2.St)(env:Ev):Prop:=env.length=σ.length/\∀(i:Nat) t,env[i]?=some (some t)->∃v,σ[i]?=some (some v)/\Rep K S H v t
def Fin(K:PySem.W.Frag)(S:TH)(H:Hp)(P:UX)(Q:VK):Prop:=∀v r S' H',Le S H S' H'->Good K S' H'->Rep K S' H' v r->P r S'->Q v H'
def lf(K:PySem.W.Frag)(t:UTE):TE:=fun σ H Q=>∃S env P,Good K S H/\REnv K S H σ env/\t env S P/\Fin K S H P Q
def lfT(K:PySem.W.Frag)(t:UTT):TT:=fun σ H Q=>∃S env P,Good K S H/\REnv K S H σ env/\t env S P/\∀b S' H',Le S H S' H'->Good K S' H'->P b S'->Q b H'
def lfA(K:PySem.W.Frag)(t:UTA):TA:=fun σ H Q=>∃S env P,Good K S H/\REnv K S H σ env/\t env S P/\∀vs rs S' H',Le S H S' H'->Good K S' H'->Reps K S' H' vs rs->P rs S'->Q vs H'
structure FinS(K:PySem.W.Frag)(S:TH)(H:Hp)(E:UEnds)(D:Ends):Prop where
 nx:∀ σ' env' S' H',Le S H S' H'->Good K S' H'->REnv K S' H' σ' env'->E.nx env' S'->D.nx σ' H'
 rt:∀v r S' H',Le S H S' H'->Good K S' H'->Rep K S' H' v r->E.rt r S'->D.rt v H'
 bk:∀ σ' env' S' H',Le S H S' H'->Good K S' H'->REnv K S' H' σ' env'->E.bk env' S'->D.bk σ' H'
 ct:∀ σ' env' S' H',Le S H S' H'->Good K S' H'->REnv K S' H' σ' env'->E.ct env' S'->D.ct σ' H'
def lfS(K:PySem.W.Frag)(t:UTS):TS:=fun D σ H=>∃S env E,Good K S H/\REnv K S H σ env/\t E env S/\FinS K S H E D
def UE(X:Cx)(e:Expr)(t:UTE):Prop:=PE X e (lf X.K t)
def UT(X:Cx)(e:Expr)(t:UTT):Prop:=PT X e (lfT X.K t)
def UA(X:Cx)(es:List Expr)(t:UTA):Prop:=PA X es (lfA X.K t)
def US(X:Cx)(st:Stmt)(t:UTS):Prop:=PS X st (lfS X.K t)
def USs(X:Cx)(st:List Stmt)(t:UTS):Prop:=PSs X st (lfS X.K t)
section
variable{K:PySem.W.Frag}{S S' S'':TH}{H H' H'':Hp}{σ:L2.St}{env:Ev}{P:UX}{Q Q':VK}
theorem REnv.mono(h:REnv K S H σ env)(le:Le S H S' H'):REnv K S' H' σ env:=⟨h.1,fun i t e=>let ⟨v,e',r⟩:=h.2 i t e;⟨v,e',r.mono le⟩⟩
theorem REnv.set{i:Nat}{v:V}{t:T}(h:REnv K S H σ env)(r:Rep K S H v t):REnv K S H (σ.set i (some v)) (env.set i (some t)):=by
 refine⟨by simp only[List.length_set,h.1],fun j t' e=>?_⟩
 rw[List.getElem?_set] at e
 by_cases hj:i=j
 ·subst hj
  simp only[if_true] at e
  split at e
  ·cases e
   rename_i hl
   exact⟨v,by rw[List.getElem?_set];simp;rw[<-h.1];exact hl,r⟩
  ·cases e
 ·rw[if_neg hj] at e
  obtain⟨v',e',r'⟩:=h.2 j t' e
  exact⟨v',by rw[List.getElem?_set_ne hj];exact e',r'⟩
theorem Fin.le(f:Fin K S H P Q)(le:Le S H S' H'):Fin K S' H' P Q:=fun v r S2 H2 l g rp hp=>f v r S2 H2 (le.trans l) g rp hp
theorem FinS.le{E:UEnds}{D:Ends}(f:FinS K S H E D)(le:Le S H S' H'):FinS K S' H' E D :=
 ⟨fun a b c d l=>f.nx a b c d (le.trans l),fun a b c d l=>f.rt a b c d (le.trans l),fun a b c d l=>f.bk a b c d (le.trans l),fun a b c d l=>f.ct a b c d (le.trans l)⟩
structure Mid(K:PySem.W.Frag)(σ:L2.St)(H:Hp)(S:TH)(env:Ev):Prop where
 g:Good K S H
 re:REnv K S H σ env
theorem Za{t:UTE}{S:TH}{env:Ev}{k:T->TH->Prop}(m:Mid K σ H S env)(h:t env S k)
  (q:∀v r S1 H1,Le S H S1 H1->Mid K σ H1 S1 env->Rep K S1 H1 v r->k r S1->Q v H1):lf K t σ H Q :=
 ⟨S,env,k,m.g,m.re,h,fun v r S1 H1 le g1 rp hk=>q v r S1 H1 le ⟨g1,m.re.mono le⟩ rp hk⟩
theorem Af{t:UTA}{S:TH}{env:Ev}{k:List T->TH->Prop}{Q:List V->Hp->Prop}(m:Mid K σ H S env)(h:t env S k)
  (q:∀v r S1 H1,Le S H S1 H1->Mid K σ H1 S1 env->Reps K S1 H1 v r->k r S1->Q v H1):lfA K t σ H Q :=
 ⟨S,env,k,m.g,m.re,h,fun v r S1 H1 le g1 rp hk=>q v r S1 H1 le ⟨g1,m.re.mono le⟩ rp hk⟩
theorem Bx{t:UTT}{S:TH}{env:Ev}{k:Bool->TH->Prop}{Q:Bool->Hp->Prop}(m:Mid K σ H S env)(h:t env S k)
  (q:∀b S1 H1,Le S H S1 H1->Mid K σ H1 S1 env->k b S1->Q b H1):lfT K t σ H Q :=
 ⟨S,env,k,m.g,m.re,h,fun b S1 H1 le g1 hk=>q b S1 H1 le ⟨g1,m.re.mono le⟩ hk⟩
end
theorem PE.imp{X:Cx}{e:Expr}{t t':TE}(h:PE X e t)(i:∀ σ H Q,t' σ H Q->t σ H Q):PE X e t':=fun pins s σ H Q I q=>h pins s σ H Q I (i σ H Q q)
theorem PT.imp{X:Cx}{e:Expr}{t t':TT}(h:PT X e t)(i:∀ σ H Q,t' σ H Q->t σ H Q):PT X e t':=fun pins s σ H Q I q=>h pins s σ H Q I (i σ H Q q)
theorem PA.imp{X:Cx}{e:List Expr}{t t':TA}(h:PA X e t)(i:∀ σ H Q,t' σ H Q->t σ H Q):PA X e t':=fun pos pins s σ H Q I q=>h pos pins s σ H Q I (i σ H Q q)
theorem PS.imp{X:Cx}{e:Stmt}{t t':TS}(h:PS X e t)(i:∀D σ H,t' D σ H->t D σ H):PS X e t':=fun pins s σ H D I q=>h pins s σ H D I (i D σ H q)
theorem PSs.imp{X:Cx}{e:List Stmt}{t t':TS}(h:PSs X e t)(i:∀D σ H,t' D σ H->t D σ H):PSs X e t':=fun pins s σ H D I q=>h pins s σ H D I (i D σ H q)
end TL
end
section
namespace TL
open PySem PySem.Spec PyProof.Rows L2
section
variable{X:Cx}{a b c e:Expr}{es:List Expr}{ta tb tc te:UTE}{pos:Pos}
def Cd(i:Nat):UTE:=fun env S P=>match env[i]? with
 |some (some t)=>P t S
 |_=>False
def uC(t:T):UTE:=fun _ S P=>P t S
theorem uv(i:Nat){x:Str}{pos:Pos}(hN:X.N[i]?=some x:=by rfl)(hv:Vis X.env.scope x:=by first|exact Or.inl rfl|exact Or.inr (Or.inl rfl)|exact Or.inr (Or.inr rfl))(hd:(x==("__debug__":Str))=false:=by decide)
  (hcd:(x==("__classdict__":Str))=false:=by decide):UE X (.Name x pos) (Cd i):=PE.imp (Acu hN hv hd hcd) fun σ H Q ⟨S,env,P,g,re,h,fin⟩=>by
 unfold Cd at h
 split at h
 ·rename_i t e
  obtain⟨v,ev,r⟩:=re.2 i t e
  exact⟨v,ev,fin v t S H .refl g r h⟩
 ·exact h.elim
theorem Og{v:V}{t:T}(h:PE X e (tC v))(r:∀S H,Rep X.K S H v t):UE X e (uC t):=PE.imp h fun σ H Q ⟨S,env,P,g,re,h,fin⟩=>fin v t S H .refl g (r S H) h
theorem Zi{i:Int}{j}:UE X (.Constant (.int i) j pos) (uC (.int i)):=Og Abp fun _ _=>.int i
theorem Cj{i:Bool}{j}:UE X (.Constant (.bool i) j pos) (uC (.bl i)):=Og pe_bl fun _ _=>.bl i
theorem F1{j}:UE X (.Constant .none j pos) (uC .non):=Og Aay fun _ _=>.non
theorem Zq{x:Str}{j}:UE X (.Constant (.str x) j pos) (uC (.str x)):=Og Ado fun _ _=>.str x
theorem Xv{x:Str}{n:String}(hg:Gl X x)(hm:X.mg x=none)(hv:bootBuiltins x=some (.type n))(hn:x≠"__name__":=by decide)(hd:(x==("__debug__":Str))=false:=by decide):UE X (.Name x pos) (uC (.ty n)) :=
 Og (Y5 (v:=.ty n) hg hm hv rfl hn hd) fun _ _=>.ty n
theorem A1{x:Str}{i:Int}(hg:Gl X x)(hm:∃t,X.mg x=some (.int i t))(hd:(x==("__debug__":Str))=false:=by decide):UE X (.Name x pos) (uC (.int i)):=by
 obtain⟨t,hm⟩:=hm
 exact Og (Ph (v:=.int i) hg hm ⟨t,rfl⟩ hd) fun _ _=>.int i
def Aq(o:T->T->TH->UX->Prop)(ta tb:UTE):UTE:=fun env S P=>ta env S fun x S1=>tb env S1 fun y S2=>o x y S2 P
def LOp(K:PySem.W.Frag)(r:R2)(o:T->T->TH->UX->Prop):Prop:=∀S H v w x y P Q,Good K S H->Rep K S H v x->Rep K S H w y->o x y S P->Fin K S H P Q->r v w H Q
theorem O4{r:R2}{o:T->T->TH->UX->Prop}{σ:L2.St}{H:Hp}{Q:VK}{K:PySem.W.Frag}(l:LOp K r o)(h:lf K (Aq o ta tb) σ H Q):lf K ta σ H fun v H1=>lf K tb σ H1 fun w H2=>r v w H2 Q:=by
 obtain⟨S,env,P,g,re,h,fin⟩:=h
 exact Za ⟨g,re⟩ h fun v x S1 H1 le1 m1 rx h1=>Za m1 h1 fun w y S2 H2 le2 m2 ry h2=>l S2 H2 v w x y P Q m2.g (rx.mono le2) ry h2 (fin.le (le1.trans le2))
theorem D5{op:Operator}{r:R2}{o:T->T->TH->UX->Prop}(ho:OpR X (binaryOp op) r)(l:LOp X.K r o)(ha:UE X a ta)(hb:UE X b tb):UE X (.BinOp a op b pos) (Aq o ta tb):=PE.imp (pe_op ho ha hb) fun _ _ _ h=>O4 l h
theorem Nz{op:CmpOp}{r:R2}{o:T->T->TH->UX->Prop}(ho:OpR X (compareOp op) r)(l:LOp X.K r o)(ha:UE X a ta)(hb:UE X b tb)(hm:behindInMarks op b=false):UE X (.Compare a [op] [b] pos) (Aq o ta tb) :=
 PE.imp (W1 ho ha hb hm) fun _ _ _ h=>O4 l h
def A3(t:UTE):UTT:=fun env S P=>t env S fun x S1=>match x with
 | .bl k=>P k S1
 |_=>False
theorem Np{t:UTE}{σ:L2.St}{H:Hp}{Q:Bool->Hp->Prop}{K:PySem.W.Frag}(h:lfT K (A3 t) σ H Q):lf K t σ H fun x H1=>∃k,x=.bl k/\Q k H1:=by
 obtain⟨S,env,P,g,re,h,fin⟩:=h
 refine Za ⟨g,re⟩ h fun v x S1 H1 le1 m1 rx h1=>?_
 cases x with
 |bl k=>cases rx;exact⟨k,rfl,fin k S1 H1 le1 m1.g h1⟩
 |_=>exact h1.elim
theorem Wr{r:R2}{o:T->T->TH->UX->Prop}{σ:L2.St}{H:Hp}{Q:Bool->Hp->Prop}{K:PySem.W.Frag}(l:LOp K r o)(h:lfT K (A3 (Aq o ta tb)) σ H Q):Tv (tOp r (lf K ta) (lf K tb)) σ H Q:=O4 l (Np h)
theorem Di{op:CmpOp}{r:R2}{o:T->T->TH->UX->Prop}(ho:OpR X (compareOp op) r)(l:LOp X.K r o)(ha:UE X a ta)(hb:UE X b tb)(hm:behindInMarks op b=false):UT X (.Compare a [op] [b] pos) (A3 (Aq o ta tb)) :=
 PT.imp (Z4 ho ha hb hm) fun _ _ _ h=>Wr l h
theorem Xe{t:UTE}(h:UE X e t)(he:∀whole,isTrue e X.env whole=(do let v ← whole;standAt e.pos;holding [v] (truthy v)):=by intro _;rfl):UT X e (A3 t):=PT.imp (Aat h he) fun _ _ _ h=>Np h
def oII(g:Int->Int->T):T->T->TH->UX->Prop:=fun x y S P=>match x,y with
 | .int i,.int j=>P (g i j) S
 |_,_=>False
def oIC(C:Int->Int->Prop)(g:Int->Int->T):T->T->TH->UX->Prop:=fun x y S P=>match x,y with
 | .int i,.int j=>C i j/\P (g i j) S
 |_,_=>False
theorem N7{K:PySem.W.Frag}{g:Int->Int->V}{g':Int->Int->T}(h:∀i j S H,Rep K S H (g i j) (g' i j)):LOp K (rI0 g) (oII g'):=fun S H v w x y P Q gd rx ry ho fin=>by
 cases x with
 |int i =>
  cases y with
  |int j=>cases rx;cases ry;exact⟨i,j,rfl,rfl,fin _ _ S H .refl gd (h i j S H) ho⟩
  |_=>exact ho.elim
 |_=>exact ho.elim
theorem Nn{K:PySem.W.Frag}{C:Int->Int->Prop}{g:Int->Int->V}{g':Int->Int->T}(h:∀i j S H,Rep K S H (g i j) (g' i j)):LOp K (rI C g) (oIC C g'):=fun S H v w x y P Q gd rx ry ho fin=>by
 cases x with
 |int i =>
  cases y with
  |int j=>cases rx;cases ry;exact⟨i,j,rfl,rfl,ho.1,fin _ _ S H .refl gd (h i j S H) ho.2⟩
  |_=>exact ho.elim
 |_=>exact ho.elim
abbrev oSub:=oII fun i j=>.int (i - j)
abbrev oMul:=oIC CMul fun i j=>.int (i * j)
abbrev oDiv:=oIC CDiv fun i j=>.int (i / j)
abbrev oMod:=oIC (fun _ j=>0<j) fun i j=>.int (i % j)
theorem Cf(ha:UE X a ta)(hb:UE X b tb):UE X (.BinOp a .Sub b pos) (Aq oSub ta tb):=D5 Aby (N7 fun _ _ _ _=>.int _) ha hb
theorem Lm(ha:UE X a ta)(hb:UE X b tb):UE X (.BinOp a .Mult b pos) (Aq oMul ta tb):=D5 Adq (Nn fun _ _ _ _=>.int _) ha hb
theorem Od(ha:UE X a ta)(hb:UE X b tb):UE X (.BinOp a .FloorDiv b pos) (Aq oDiv ta tb):=D5 Z1 (Nn fun _ _ _ _=>.int _) ha hb
theorem F0(ha:UE X a ta)(hb:UE X b tb):UE X (.BinOp a .Mod b pos) (Aq oMod ta tb):=D5 Acs (Nn fun _ _ _ _=>.int _) ha hb
abbrev oLt:=oII fun i j=>.bl (decide (i<j))
abbrev oGt:=oII fun i j=>.bl (decide (j<i))
theorem lLt{K:PySem.W.Frag}:LOp K (rI0 fun i j=>.bl (decide (i<j))) oLt:=N7 fun _ _ _ _=>.bl _
theorem lGt{K:PySem.W.Frag}:LOp K (rI0 fun i j=>.bl (decide (j<i))) oGt:=N7 fun _ _ _ _=>.bl _
def oEq(neg:Bool):T->T->TH->UX->Prop:=fun x y S P=>match x,y with
 | .int i,.int j=>P (.bl (Bool.xor neg (decide (i=j)))) S
 | .str i,.str j=>P (.bl (Bool.xor neg (decide (i=j)))) S
 | .bl i,.bl j=>P (.bl (Bool.xor neg (decide (i=j)))) S
 |_,_=>False
theorem dV_int{i j:Int}:decide (V.int i=V.int j)=decide (i=j):=by rw[Ld];exact Bool.beq_eq_decide_eq i j
theorem dV_str{i j:Str}:decide (V.str i=V.str j)=decide (i=j):=by
 by_cases h:i=j
 ·subst h;simp
 ·rw[decide_eq_false h,decide_eq_false];intro z;exact h (V.str.inj z)
theorem dV_bl{i j:Bool}:decide (V.bl i=V.bl j)=decide (i=j):=by
 by_cases h:i=j
 ·subst h;simp
 ·rw[decide_eq_false h,decide_eq_false];intro z;exact h (V.bl.inj z)
theorem lEq{K:PySem.W.Frag}:LOp K rEq (oEq false):=fun S H v w x y P Q gd rx ry ho fin=>by
 cases x with
 |int i =>
  cases y with
  |int j=>cases rx;cases ry;refine⟨rfl,?_⟩;rw[dV_int];exact fin _ _ S H .refl gd (.bl _) (by simpa [oEq] using ho)
  |_=>exact ho.elim
 |str i =>
  cases y with
  |str j=>cases rx;cases ry;refine⟨rfl,?_⟩;rw[dV_str];exact fin _ _ S H .refl gd (.bl _) (by simpa [oEq] using ho)
  |_=>exact ho.elim
 |bl i =>
  cases y with
  |bl j=>cases rx;cases ry;refine⟨rfl,?_⟩;rw[dV_bl];exact fin _ _ S H .refl gd (.bl _) (by simpa [oEq] using ho)
  |_=>exact ho.elim
 |_=>exact ho.elim
theorem lNe{K:PySem.W.Frag}:LOp K rNe (oEq true):=fun S H v w x y P Q gd rx ry ho fin=>by
 cases x with
 |int i =>
  cases y with
  |int j=>cases rx;cases ry;refine⟨rfl,?_⟩;rw[dV_int];exact fin _ _ S H .refl gd (.bl _) (by simpa [oEq] using ho)
  |_=>exact ho.elim
 |str i =>
  cases y with
  |str j=>cases rx;cases ry;refine⟨rfl,?_⟩;rw[dV_str];exact fin _ _ S H .refl gd (.bl _) (by simpa [oEq] using ho)
  |_=>exact ho.elim
 |bl i =>
  cases y with
  |bl j=>cases rx;cases ry;refine⟨rfl,?_⟩;rw[dV_bl];exact fin _ _ S H .refl gd (.bl _) (by simpa [oEq] using ho)
  |_=>exact ho.elim
 |_=>exact ho.elim
def uUn(o:T->TH->UX->Prop)(ta:UTE):UTE:=fun env S P=>ta env S fun x S1=>o x S1 P
def Jh:T->TH->UX->Prop:=fun x S P=>match x with
 | .int i=>P (.int (-i)) S
 |_=>False
theorem Acl(ha:UE X a ta):UE X (.UnaryOp .USub a pos) (uUn Jh ta):=PE.imp (pe_un Abh ha) fun σ H Q ⟨S,env,P,g,re,h,fin⟩=>by
 refine Za ⟨g,re⟩ h fun v x S1 H1 le1 m1 rx h1=>?_
 cases x with
 |int i=>cases rx;exact⟨i,rfl,fin _ _ S1 H1 le1 m1.g (.int _) h1⟩
 |_=>exact h1.elim
def Cc(t u:UTT):UTT:=fun env S P=>t env S fun k S1=>(k=true->u env S1 P)/\(k=false->P false S1)
def uOr(t u:UTT):UTT:=fun env S P=>t env S fun k S1=>(k=true->P true S1)/\(k=false->u env S1 P)
def I0(t:UTT):UTT:=fun env S P=>t env S fun k S1=>P (!k) S1
def UW(X:Cx)(e:Expr)(t:UTT):Prop:=PW X e (lfT X.K t)
theorem UW.ut{t:UTT}(h:UW X e t):UT X e t:=h.pt
variable{tA tB:UTT}{rest:List Expr}
theorem Cn(ha:UT X a tA):UW X (.BoolOp .And [a] pos) tA:=W6 ha
theorem Xs(ha:UT X a tA):UW X (.BoolOp .Or [a] pos) tA:=Acz ha
theorem Dd(ha:UT X a tA)(hb:UW X (.BoolOp .And (b::rest) pos) tB):UW X (.BoolOp .And (a::b::rest) pos) (Cc tA tB):=fun wh pins s σ H Q I h=>by
 refine Aeb ha hb wh pins s σ H Q I ?_
 obtain⟨S,env,P,g,re,h,fin⟩:=h
 refine Bx ⟨g,re⟩ h fun k S1 H1 le1 m1 hk=>?_
 cases k with
 |true=>rw[if_pos rfl];exact⟨S1,env,P,m1.g,m1.re,hk.1 rfl,fun b S' H' le=>fin b S' H' (le1.trans le)⟩
 |false=>rw[if_neg Bool.false_ne_true];exact fin false S1 H1 le1 m1.g (hk.2 rfl)
theorem Gp(ha:UT X a tA)(hb:UW X (.BoolOp .Or (b::rest) pos) tB):UW X (.BoolOp .Or (a::b::rest) pos) (uOr tA tB):=fun wh pins s σ H Q I h=>by
 refine pw_or ha hb wh pins s σ H Q I ?_
 obtain⟨S,env,P,g,re,h,fin⟩:=h
 refine Bx ⟨g,re⟩ h fun k S1 H1 le1 m1 hk=>?_
 cases k with
 |true=>rw[if_pos rfl];exact fin true S1 H1 le1 m1.g (hk.1 rfl)
 |false=>rw[if_neg Bool.false_ne_true];exact⟨S1,env,P,m1.g,m1.re,hk.2 rfl,fun b S' H' le=>fin b S' H' (le1.trans le)⟩
theorem Ap(ha:UT X a tA):UT X (.UnaryOp .Not a pos) (I0 tA):=PT.imp (Aed ha) fun σ H Q ⟨S,env,P,g,re,h,fin⟩ =>
 Bx ⟨g,re⟩ h fun k S1 H1 le1 m1 hk=>fin (!k) S1 H1 le1 m1.g hk
def En(ta tb:UTE):UTE:=fun env S P=>ta env S fun x S1=>match x with
 | .bl k=>(k=true->tb env S1 P)/\(k=false->P (.bl false) S1)
 |_=>False
theorem D4{op}(ha:UE X a ta):UE X (.BoolOp op [a] pos) ta:=Abq ha
theorem Ch(ha:UE X a ta)(hb:UE X (.BoolOp .And (b::rest) pos) tb):UE X (.BoolOp .And (a::b::rest) pos) (En ta tb):=PE.imp (Abi ha hb) fun σ H Q ⟨S,env,P,g,re,h,fin⟩=>by
 refine Za ⟨g,re⟩ h fun v x S1 H1 le1 m1 rx hk=>?_
 cases x with
 |bl k =>
  cases rx
  refine⟨k,rfl,?_⟩
  cases k with
  |true=>rw[if_pos rfl];exact⟨S1,env,P,m1.g,m1.re,hk.1 rfl,fin.le le1⟩
  |false=>rw[if_neg Bool.false_ne_true];exact fin _ _ S1 H1 le1 m1.g (.bl _) (hk.2 rfl)
 |_=>exact hk.elim
def Jf(t:UTT)(ta tb:UTE):UTE:=fun env S P=>t env S fun k S1=>(k=true->ta env S1 P)/\(k=false->tb env S1 P)
theorem Sw(hc:UT X c tA)(ha:UE X a ta)(hb:UE X b tb):UE X (.IfExp c a b pos) (Jf tA ta tb):=PE.imp (U3 hc ha hb) fun σ H Q ⟨S,env,P,g,re,h,fin⟩=>by
 refine Bx ⟨g,re⟩ h fun k S1 H1 le1 m1 hk=>?_
 cases k with
 |true=>rw[if_pos rfl];exact⟨S1,env,P,m1.g,m1.re,hk.1 rfl,fin.le le1⟩
 |false=>rw[if_neg Bool.false_ne_true];exact⟨S1,env,P,m1.g,m1.re,hk.2 rfl,fin.le le1⟩
def Cu:UTA:=fun _ S P=>P [] S
def B8(ta:UTE)(tr:UTA):UTA:=fun env S P=>ta env S fun x S1=>tr env S1 fun xs S2=>P (x::xs) S2
variable{tr:UTA}
theorem Zn:UA X [] Cu:=PA.imp Aax fun σ H Q ⟨S,env,P,g,re,h,fin⟩=>fin [] [] S H .refl g .nil h
theorem Zc(ha:UE X e te)(hr:UA X es tr)(hs:starEach (e::es) X.env=(false,eval e X.env)::starEach es X.env:=by rfl):UA X (e::es) (B8 te tr):=PA.imp (Yy ha hr hs) fun σ H Q ⟨S,env,P,g,re,h,fin⟩ =>
 Za ⟨g,re⟩ h fun v x S1 H1 le1 m1 rx h1=>Af m1 h1 fun vs xs S2 H2 le2 m2 rxs h2=>fin (v::vs) (x::xs) S2 H2 (le1.trans le2) m2.g (.cons (rx.mono le2) rxs) h2
def Jl(t:UTA):UTE:=fun env S P=>t env S fun ts S1=>ts.length<=sizeLine/\P (.tup ts) S1
def Hn(t:UTA):UTE:=fun env S P=>t env S fun ts S1=>ts.length<=sizeLine/\P (.lst ts) S1
def Ei(t:UTA):UTE:=fun env S P=>t env S fun ts S1=>ts.length<=sizeLine/\∀p,S1 p=none->P (.ref p) (Ad S1 p (.lst ts))
section
variable{K:PySem.W.Frag}{S S1:TH}{H H1:Hp}{P:UX}{Q:VK}{vs:List V}{ts:List T}
theorem Dj{p:Addr}(fin:Fin K S H P Q)(g:Good K S H)(hp:H p=none)(r:Reps K S H vs ts)(h:P (.tup ts) S):Q (.ref p) (upd H p (.tup vs)) :=
 fin _ _ S _ (Le.new g hp) (g.new hp) (.tupI (.inl ⟨g.free hp,A4⟩) (r.mono (Le.new g hp))) h
theorem B5{p:Addr}(fin:Fin K S H P Q)(g:Good K S H)(hp:H p=none)(r:Reps K S H vs ts)(h:P (.lst ts) S):Q (.ref p) (upd H p (.lst vs)) :=
 fin _ _ S _ (Le.new g hp) (g.new hp) (.lstI ⟨g.free hp,A4⟩ (r.mono (Le.new g hp))) h
end
theorem Zu{x1}(h:UA X es tr):UE X (.Tuple es x1 pos) (Jl tr):=PE.imp (Abv h) fun σ H Q ⟨S,env,P,g,re,h,fin⟩ =>
 Af ⟨g,re⟩ h fun vs xs S1 H1 le1 m1 rx h1=>⟨by rw[rx.1];exact h1.1,fun p hp=>Dj (fin.le le1) m1.g hp rx h1.2⟩
theorem Am(h:UA X es tr):UE X (.List es pos) (Hn tr):=PE.imp (U1 h) fun σ H Q ⟨S,env,P,g,re,h,fin⟩ =>
 Af ⟨g,re⟩ h fun vs xs S1 H1 le1 m1 rx h1=>⟨by rw[rx.1];exact h1.1,fun p hp=>B5 (fin.le le1) m1.g hp rx h1.2⟩
theorem Bu(h:UA X es tr):UE X (.List es pos) (Ei tr):=PE.imp (U1 h) fun σ H Q ⟨S,env,P,g,re,h,fin⟩ =>
 Af ⟨g,re⟩ h fun vs xs S1 H1 le1 m1 rx h1=>⟨by rw[rx.1];exact h1.1,fun p hp=>fin _ _ _ _ (le1.trans (Le.newC hp)) (m1.g.newL hp rx) (.ref p) (h1.2 p (m1.g.free hp))⟩
def spU(K:PySem.W.Frag)(t:List T->TH->UX->Prop):Sp:=fun vs H Q _=>∃S ts P,Good K S H/\Reps K S H vs ts/\t ts S P/\Fin K S H P Q
def A9(t:List T->TH->UX->Prop)(ta:UTA):UTE:=fun env S P=>ta env S fun ts S1=>t ts S1 P
theorem Yv{k:Nat}{f:Addr}{fd:FuncData}{ps:List Str}{t:List T->TH->UX->Prop}{x:Str}{p:Pos}(F:FnOk X.prog X.w X.K X.mg X.base CX0 k f fd ps (spU X.K t))(hr:Room k X.A)(hg:Gl X x)(hm:X.mg x=some (.ref f))
  (hk:PySem.W.keepIn X.K (.ref f)=true) (hb:Binds X.K fd ps []) (ha:UA X (e::es) tr) (hdb:(x==("__debug__":Str))=false:=by decide) (he:starEach (e::es) X.env=(false,eval e X.env)::starEach es X.env:=by rfl)
  (hpl:(backTo pos (starEach es X.env)).any (·.1)=false:=by rfl):UE X (.Call (.Name x p) (e::es) [] pos) (A9 t tr) :=
 PE.imp (O6 F hr hg hm hk hb .nil V8 ha hdb he hpl) fun σ H Q ⟨S,env,P,g,re,h,fin⟩=>Af ⟨g,re⟩ h fun vs xs S1 H1 le1 m1 rx h1=>by
  rw[List.append_nil]
  exact⟨S1,xs,P,m1.g,rx,h1,fin.le le1⟩
def Gx(K:PySem.W.Frag)(r:List V->Hp->VK->Prop)(o:List T->TH->UX->Prop):Prop:=∀S H vs ts P Q,Good K S H->Reps K S H vs ts->o ts S P->Fin K S H P Q->r vs H Q
theorem Hu{x:Str}{id:String}{p:Pos}{r:List V->Hp->VK->Prop}{o:List T->TH->UX->Prop}(hc:CallR X (.builtin id) r)(l:Gx X.K r o)(hg:Gl X x)(hm:X.mg x=none)(hv:bootBuiltins x=some (.builtin id))(ha:UA X (e::es) tr)
  (hn:x≠"__name__":=by decide) (hdb:(x==("__debug__":Str))=false:=by decide) (he:starEach (e::es) X.env=(false,eval e X.env)::starEach es X.env:=by rfl) (hpl:(backTo pos (starEach es X.env)).any (·.1)=false:=by rfl) :
  UE X (.Call (.Name x p) (e::es) [] pos) (A9 o tr):=PE.imp (Uo hc hg hm hv ha hn hdb he hpl) fun σ H Q ⟨S,env,P,g,re,h,fin⟩ =>
 Af ⟨g,re⟩ h fun vs xs S1 H1 le1 m1 rx h1=>l S1 H1 vs xs P Q m1.g rx h1 (fin.le le1)
theorem Da{x:Str}{n:String}{p:Pos}{r:List V->Hp->VK->Prop}{o:List T->TH->UX->Prop}(hc:CallR X (.type n) r)(l:Gx X.K r o)(hg:Gl X x)(hm:X.mg x=none)(hv:bootBuiltins x=some (.type n))(ha:UA X (e::es) tr)
  (hn:x≠"__name__":=by decide) (hdb:(x==("__debug__":Str))=false:=by decide) (he:starEach (e::es) X.env=(false,eval e X.env)::starEach es X.env:=by rfl) (hpl:(backTo pos (starEach es X.env)).any (·.1)=false:=by rfl) :
  UE X (.Call (.Name x p) (e::es) [] pos) (A9 o tr):=PE.imp (Sk hc hg hm hv ha hn hdb he hpl) fun σ H Q ⟨S,env,P,g,re,h,fin⟩ =>
 Af ⟨g,re⟩ h fun vs xs S1 H1 le1 m1 rx h1=>l S1 H1 vs xs P Q m1.g rx h1 (fin.le le1)
variable{st:Stmt}{sts:List Stmt}{t u:UTS}
def Ds:UTS:=fun E env S=>E.nx env S
def A8(t u:UTS):UTS:=fun E env S=>t { E with nx:=u E } env S
theorem Ze:USs X [] Ds:=PSs.imp Qc fun D σ H ⟨S,env,E,g,re,h,fin⟩=>fin.nx σ env S H .refl g re h
theorem Zs(h1:US X st t)(h2:USs X sts u):USs X (st::sts) (A8 t u):=PSs.imp (Me h1 h2) fun D σ H ⟨S,env,E,g,re,h,fin⟩ =>
 ⟨S,env,_,g,re,h,⟨fun σ' env' S' H' le g' re' hn=>⟨S',env',E,g',re',hn,fin.le le⟩,fin.rt,fin.bk,fin.ct⟩⟩
theorem Zo(h1:US X st t):USs X [st] t:=PSs.imp (O9 h1) fun _ _ _ h=>h
def Dp(te:UTE):UTS:=fun E env S=>te env S fun _ S1=>E.nx env S1
theorem Bb(he:UE X e te)(hs:swapsWith e none pos.line X.env=pure false:=by rfl):US X (.Expr e pos) (Dp te):=PS.imp (P0 he hs) fun D σ H ⟨S,env,E,g,re,h,fin⟩ =>
 Za ⟨g,re⟩ h fun v x S1 H1 le1 m1 rx h1=>fin.nx σ env S1 H1 le1 m1.g m1.re h1
def Ia(te:UTE):UTS:=fun E env S=>te env S E.rt
theorem Zr(he:UE X e te):US X (.Return (some e) pos) (Ia te):=PS.imp (Wb he) fun D σ H ⟨S,env,E,g,re,h,fin⟩ =>
 Za ⟨g,re⟩ h fun v x S1 H1 le1 m1 rx h1=>fin.rt v x S1 H1 le1 m1.g rx h1
def uIf(k:UTT)(t u:UTS):UTS:=fun E env S=>k env S fun b S1=>(b=true->t E env S1)/\(b=false->u E env S1)
theorem Zg{aa bb:List Stmt}(hc:UT X c tA)(ha:USs X aa t)(hb:USs X bb u):US X (.If c aa bb pos) (uIf tA t u):=PS.imp (Aal hc ha hb) fun D σ H ⟨S,env,E,g,re,h,fin⟩ =>
 Bx ⟨g,re⟩ h fun k S1 H1 le1 m1 hk=>by
  cases k with
  |true=>rw[if_pos rfl];exact⟨S1,env,E,m1.g,m1.re,hk.1 rfl,fin.le le1⟩
  |false=>rw[if_neg Bool.false_ne_true];exact⟨S1,env,E,m1.g,m1.re,hk.2 rfl,fin.le le1⟩
def uSet(i:Nat)(te:UTE):UTS:=fun E env S=>te env S fun x S1=>E.nx (env.set i (some x)) S1
theorem Zt(i:Nat){x:Str}{pos':Pos}(hN:X.N.Nodup)(he:UE X e te)(hi:X.N[i]?=some x:=by rfl)(hx:Loc X.env.scope x:=by first|exact Or.inl rfl|exact Or.inr rfl)(hs:swapsWith e (some (.Name x pos')) pos.line X.env=pure false:=by rfl)
  (hf:X.fn x=true\/X.env.scope.names.lookup x=some .local:=by first|exact .inl rfl|exact .inr rfl):US X (.Assign [.Name x pos'] e pos) (uSet i te):=PS.imp (ps_set hN hi hx he hs hf) fun D σ H ⟨S,env,E,g,re,h,fin⟩ =>
 Za ⟨g,re⟩ h fun v y S1 H1 le1 m1 ry h1=>fin.nx _ _ S1 H1 le1 m1.g (m1.re.set ry) h1
def Cw(te to ti:UTE):UTS:=fun E env S=>te env S fun x S1=>to env S1 fun o S2=>ti env S2 fun i S3=>match o,i with
 | .ref p,.int k=>∃ts j,S3 p=some (.lst ts)/\ixN ts.length k=some j/\E.nx env (Ad S3 p (.lst (ts.set j x)))
 |_,_=>False
theorem V5{o i:Expr}{to ti:UTE}{pos':Pos}(he:UE X e te)(ho:UE X o to)(hi:UE X i ti)
  (ha:∀v,assign (.Subscript o i pos') X.env v=(do
   let ov ← holding [v] (eval o X.env)
   let iv ← holding [v,ov] (eval i X.env)
   standAt pos'
   holding [v,ov,iv] (setItem ov iv v)
   release [v,ov,iv] []):=by intro _;rfl) (hs:swapsWithSole [.Subscript o i pos'] e pos.line X.env=pure false:=by rfl) (hw:swappedStores [.Subscript o i pos'] e X.env=pure none:=by rfl)
  (h1:(assignEach [.Subscript o i pos'] X.env).map (·.2)=[assign (.Subscript o i pos') X.env]:=by rfl):US X (.Assign [.Subscript o i pos'] e pos) (Cw te to ti) :=
 PS.imp (Acx he (Ade ho hi Tp ha) hs hw h1) fun D σ H ⟨S,env,E,g,re,h,fin⟩ =>
 Za ⟨g,re⟩ h fun v x S1 H1 le1 m1 rx h1=>Za m1 h1 fun ov o S2 H2 le2 m2 ro h2=>Za m2 h2 fun iv i S3 H3 le3 m3 ri h3=>by
  cases o with
  |ref p =>
   cases i with
   |int k =>
    obtain⟨ts,j,e1,e2,e3⟩:=h3
    obtain⟨vs,q,rv⟩:=m3.g p _ e1
    cases ro
    cases ri
    have rx3:=rx.mono (le2.trans le3)
    refine⟨p,vs,k,j,rfl,rfl,q,by rw[rv.1];exact e2,?_⟩
    exact fin.nx σ env _ _ (le1.trans (le2.trans (le3.trans (Le.write e1)))) (m3.g.writeL e1 (rv.set rx3)) (m3.re.mono (Le.write e1)) e3
   |_=>exact h3.elim
  |_=>exact h3.elim
end
end TL
end
section
namespace TL
open PySem PySem.Spec PyProof.Rows L2
structure Ylds(K:PySem.W.Frag)(J:It)(ts:List T)(S1:TH)(H1:Hp):Prop where
 go:∀(i:Nat) S2 H2,Le S1 H1 S2 H2->Good K S2 H2->i<ts.length->J.go i H2
 stop:∀S2 H2,Le S1 H1 S2 H2->Good K S2 H2->J.stop ts.length H2
 yld:∀(i:Nat) S2 H2 x H3,Le S1 H1 S2 H2->Good K S2 H2->i<ts.length->J.yld i H2 x H3->Le S2 H2 S2 H3/\Good K S2 H3/\∃t,ts[i]?=some t/\Rep K S2 H3 x t
def lfI(K:PySem.W.Frag)(t:UTA):TI:=fun σ H R=>∃S env P,Good K S H/\REnv K S H σ env/\t env S P/\∀ts J S1 H1,Le S H S1 H1->Good K S1 H1->P ts S1->Ylds K J ts S1 H1->R J H1
def UI(X:Cx)(tg iter:Expr)(t:UTA):Prop:=PI X tg iter (lfI X.K t)
abbrev UTG:=T->Ev->TH->(Ev->TH->Prop)->Prop
def lfG(K:PySem.W.Frag)(g:UTG):TG:=fun v σ H Q=>∃S env x P,Good K S H/\REnv K S H σ env/\Rep K S H v x/\g x env S P/\∀ σ' env' S' H',Le S H S' H'->Good K S' H'->REnv K S' H' σ' env'->P env' S'->Q σ' H'
def UG(X:Cx)(tg:Expr)(g:UTG):Prop:=PG X tg (lfG X.K g)
theorem PI.imp{X:Cx}{tg e:Expr}{t t':TI}(h:PI X tg e t)(i:∀ σ H R,t' σ H R->t σ H R):PI X tg e t':=fun pins s σ H R I q=>h pins s σ H R I (i σ H R q)
theorem PG.imp{X:Cx}{tg:Expr}{t t':TG}(h:PG X tg t)(i:∀v σ H Q,t' v σ H Q->t v σ H Q):PG X tg t':=fun pins s σ H v u Q I r q=>h pins s σ H v u Q I r (i v σ H Q q)
section
variable{K:PySem.W.Frag}{S:TH}{H:Hp}{a:Addr}{vs:List V}{ts:List T}
theorem Ju(f:∀S2 H2,Le S H S2 H2->SqL K H2 a vs)(r:Reps K S H vs ts):Ylds K (Itl K a) ts S H where
 go:=fun i S2 H2 le g hi=>⟨vs,vs[i]'(by rw[r.1];exact hi),(f S2 H2 le),List.getElem?_eq_getElem _⟩
 stop:=fun S2 H2 le g=>⟨vs,f S2 H2 le,by rw[r.1];exact Nat.le_refl _⟩
 yld:=fun i S2 H2 x H3 le g hi y=>by
  obtain⟨rfl,y⟩:=y
  obtain⟨t,et,rt⟩:=r.get' (y vs (f _ _ le))
  exact⟨.refl,g,t,et,rt.mono le⟩
theorem Uk(f:FT K S H a vs)(r:Reps K S H vs ts):Ylds K (Itt K a) ts S H where
 go:=fun i S2 H2 le g hi=>⟨vs,vs[i]'(by rw[r.1];exact hi),(f.mono le).sq,List.getElem?_eq_getElem _⟩
 stop:=fun S2 H2 le g=>⟨vs,(f.mono le).sq,by rw[r.1];exact Nat.le_refl _⟩
 yld:=fun i S2 H2 x H3 le g hi y=>by
  obtain⟨rfl,y⟩:=y
  obtain⟨t,et,rt⟩:=r.get' (y vs (f.mono le).sq)
  exact⟨.refl,g,t,et,rt.mono le⟩
def Mr(n:Nat):List T:=(List.range n).map fun (k:Nat)=>T.int (k:Int)
theorem Zh(n:Nat):(Mr n).length=n:=by simp[Mr]
theorem Iw{n i:Nat}(h:i<n):(Mr n)[i]?=some (.int i):=by simp[Mr,h]
theorem Vq{n:Nat}:Ylds K (Itr 0 n) (Mr n) S H where
 go:=fun i S2 H2 le g hi=>by rw[Zh] at hi;exact hi
 stop:=fun S2 H2 le g=>by rw[Zh];exact Nat.le_refl n
 yld:=fun i S2 H2 x H3 le g hi y=>by
  obtain⟨rfl,rfl⟩:=y
  rw[Zh] at hi
  refine⟨.refl,g,.int i,Iw hi,?_⟩
  rw[Int.zero_add]
  exact .int _
end
section
variable{X:Cx}{a b c e tg iter:Expr}{es:List Expr}{ta tb te:UTE}{tr:UTA}{pos:Pos}
def Aab(t:UTA):UTA:=fun env S P=>t env S fun ts S1=>match ts with
 |[.int j]=>-(2 ^ 62)<=j/\j<2 ^ 62/\P (Mr j.toNat) S1
 |_=>False
theorem B7{p:Pos}(hg:Gl X "range")(hm:X.mg "range"=none)(ha:UA X [a] tr)(hs:starEach [a] X.env=[(false,eval a X.env)]:=by rfl):UI X tg (.Call (.Name "range" p) [a] [] pos) (Aab tr) :=
 PI.imp (Rs hg hm ha hs) fun σ H R ⟨S,env,P,g,re,h,fin⟩=>Af ⟨g,re⟩ h fun vs xs S1 H1 le1 m1 rx h1=>by
  match xs,vs,rx,h1 with
  |[.int j],[v],rx,h1 =>
   have r0:=rx.head
   cases r0
   exact⟨j,rfl,h1.1,h1.2.1,fin _ _ S1 H1 le1 m1.g h1.2.2 Vq⟩
  |[.int j],[],rx,_=>exact absurd rx.1 (by simp)
  |[.int j],_::_::_,rx,_=>exact absurd rx.1 (by simp)
def gNm(i:Nat):UTG:=fun x env S P=>P (env.set i (some x)) S
theorem Cm(i:Nat){x:Str}(hN:X.N.Nodup)(hi:X.N[i]?=some x:=by rfl)(hx:Loc X.env.scope x:=by first|exact Or.inl rfl|exact Or.inr rfl)(hf:X.fn x=true\/X.env.scope.names.lookup x=some .local:=by first|exact .inl rfl|exact .inr rfl):
  UG X (.Name x pos) (gNm i):=PG.imp (Bv hN hi hx hf) fun v σ H Q ⟨S,env,x,P,g,re,rx,h,fin⟩=>fin _ _ S H .refl g (re.set rx) h
def gPr(i j:Nat):UTG:=fun x env S P=>match x with
 | .tup [x,y]=>P ((env.set i (some x)).set j (some y)) S
 |_=>False
theorem Qj(i j:Nat){x y:Str}{p1 p2:Pos}{k:Nat}(hc:X.calm=true)(hN:X.N.Nodup)(hi:X.N[i]?=some x:=by rfl)(hx:Loc X.env.scope x:=by first|exact Or.inl rfl|exact Or.inr rfl)(hf:X.fn x=true\/X.env.scope.names.lookup x=some .local:=by first|exact .inl rfl|exact .inr rfl)
  (hj:X.N[j]?=some y:=by rfl) (hy:Loc X.env.scope y:=by first|exact Or.inl rfl|exact Or.inr rfl) (hfy:X.fn y=true\/X.env.scope.names.lookup y=some .local:=by first|exact .inl rfl|exact .inr rfl) :
  UG X (.Tuple [.Name x p1,.Name y p2] k pos) (gPr i j) :=
 PG.imp (Ov (n:=2) hc (Ce (Bv hN hi hx hf) (Ce (Bv hN hj hy hfy) K4))) fun v σ H Q ⟨S,env,x,P,g,re,rx,h,fin⟩=>by
  cases x with
  |tup ts =>
   match ts,h with
   |[x,y],h =>
    obtain⟨l,vs,rfl,f,r⟩:=rx.tupE
    match vs,f,r with
    |[v,w],f,r=>exact⟨l,[v,w],rfl,f.sq,rfl,v,[w],rfl,w,[],rfl,rfl,fin _ _ S H .refl g ((re.set r.head).set r.tail.head) h⟩
    |[],_,r=>exact absurd r.1 (by simp)
    |[_],_,r=>exact absurd r.1 (by simp)
    |_::_::_::_,_,r=>exact absurd r.1 (by simp)
  |_=>exact h.elim
variable{t:UTS}{body:List Stmt}{ti:UTA}{gg:UTG}
def uFor(ti:UTA)(gg:UTG)(tb:UTS):UTS:=fun E env S=>ti env S fun ts S1=>∃Iv:Nat->Ev->TH->Prop,Iv 0 env S1 ∧
 (∀k x env S,ts[k]?=some x->Iv k env S->gg x env S fun env' S'=>tb { E with nx:=Iv (k+1),ct:=Iv (k+1),bk:=E.nx } env' S')/\∀env S,Iv ts.length env S->E.nx env S
theorem Cy(hp:PassesOwn (model X.prog X.w) X.A X.env X.xe)(hc:X.calm=true)(hi:UI X tg iter ti)(hg:UG X tg gg)(hb:USs X body t)(hs:∀x,foldedSetIterable iter X.env x=pure x:=by intro _;rfl):
  US X (.For tg iter body [] pos) (uFor ti gg t):=PS.imp (Tx hp hc hi hg hb hs) fun D σ H h=>by
 obtain⟨S,env,E,g,re,h,fin⟩:=h
 refine⟨S,env,_,g,re,h,fun ts J S1 H1 le1 g1 hq yl=>?_⟩
 obtain⟨Iv,i0,step,done⟩:=hq
 refine⟨fun i m σ' H'=>m=ts.length - i/\i<=ts.length/\∃S' env',Le S1 H1 S' H'/\Good X.K S' H'/\REnv X.K S' H' σ' env'/\Iv i env' S',⟨ts.length,rfl,Nat.zero_le _,S1,env,.refl,g1,re.mono le1,i0⟩,?_⟩
 rintro i m σ' H' ⟨rfl,hi,S',env',le',g',re',iv⟩
 by_cases hlt:i<ts.length
 ·refine .inr ⟨yl.go i S' H' le' g' hlt,fun σ2 H2=>∃S2 env2,Le S1 H1 S2 H2/\Good X.K S2 H2/\REnv X.K S2 H2 σ2 env2/\Iv (i+1) env2 S2,fun σ2 H2 z=>?_,fun x H2 y=>?_⟩
  ·exact⟨ts.length - (i+1),by omega,rfl,hlt,z⟩
  ·obtain⟨le2,g2,tt,et,rt⟩:=yl.yld i S' H' x H2 le' g' hlt y
   refine⟨S',env',tt,_,g2,re'.mono le2,rt,step i tt env' S' et iv,fun σ3 env3 S3 H3 le3 g3 re3 hb3=>?_⟩
   have l03:Le S H S3 H3:=le1.trans (le'.trans (le2.trans le3))
   have l13:Le S1 H1 S3 H3:=le'.trans (le2.trans le3)
   refine⟨S3,env3,_,g3,re3,hb3,⟨fun σ4 env4 S4 H4 le4 g4 re4 q=>⟨S4,env4,l13.trans le4,g4,re4,q⟩,fun v r S4 H4 le4 g4 rp q=>fin.rt v r S4 H4 (l03.trans le4) g4 rp q,fun σ4 env4 S4 H4 le4 g4 re4 q=>fin.nx σ4 env4 S4 H4 (l03.trans le4) g4 re4 q,fun σ4 env4 S4 H4 le4 g4 re4 q=>⟨S4,env4,l13.trans le4,g4,re4,q⟩⟩⟩
 ·have ei:i=ts.length:=by omega
  subst ei
  exact .inl ⟨yl.stop S' H' le' g',fin.nx σ' env' S' H' (le1.trans le') g' re' (done env' S' iv)⟩
def Adh(k:UTT)(tb:UTS):UTS:=fun E env S=>∃Iv:Nat->Ev->TH->Prop,(∃m,Iv m env S)/\∀m env S,Iv m env S->k env S fun b S1 =>
 (b=true->tb { E with nx:=fun env' S'=>∃m',m'<m/\Iv m' env' S',ct:=fun env' S'=>∃m',m'<m/\Iv m' env' S',bk:=E.nx } env S1)/\(b=false->E.nx env S1)
theorem D0{tA:UTT}(hp:PassesOwn (model X.prog X.w) X.A X.env X.xe)(hc:UT X c tA)(hb:USs X body t):US X (.While c body [] pos) (Adh tA t):=PS.imp (T2 hp hc hb) fun D σ H h=>by
 obtain⟨S,env,E,g,re,⟨Iv,⟨m0,i0⟩,step⟩,fin⟩:=h
 refine⟨fun m σ' H'=>∃S' env',Le S H S' H'/\Good X.K S' H'/\REnv X.K S' H' σ' env'/\Iv m env' S',⟨m0,S,env,.refl,g,re,i0⟩,?_⟩
 rintro m σ' H' ⟨S',env',le',g',re',iv⟩
 refine Bx ⟨g',re'⟩ (step m env' S' iv) fun k S1 H1 le1 m1 hk=>?_
 cases k with
 |false=>rw[if_neg Bool.false_ne_true];exact fin.nx σ' env' S1 H1 (le'.trans le1) m1.g m1.re (hk.2 rfl)
 |true =>
  rw[if_pos rfl]
  refine⟨fun σ2 H2=>∃m',m'<m/\∃S2 env2,Le S H S2 H2/\Good X.K S2 H2/\REnv X.K S2 H2 σ2 env2/\Iv m' env2 S2,fun σ2 H2 z=>z,S1,env',_,m1.g,m1.re,hk.1 rfl,?_⟩
  have l01:Le S H S1 H1:=le'.trans le1
  exact⟨fun σ4 env4 S4 H4 le4 g4 re4 ⟨m',hm,q⟩=>⟨m',hm,S4,env4,l01.trans le4,g4,re4,q⟩,fun v r S4 H4 le4 g4 rp q=>fin.rt v r S4 H4 (l01.trans le4) g4 rp q,fun σ4 env4 S4 H4 le4 g4 re4 q=>fin.nx σ4 env4 S4 H4 (l01.trans le4) g4 re4 q,fun σ4 env4 S4 H4 le4 g4 re4 ⟨m',hm,q⟩=>⟨m',hm,S4,env4,l01.trans le4,g4,re4,q⟩⟩
def G2(pick:List (Option Nat))(env:Ev):Ev:=pick.map fun o=>match o with
 |none=>none
 |some j=>match env[j]? with
  |some (some v)=>some v
  |_=>none
def Ag(pick:List (Option Nat))(ti:UTA)(gg:UTG)(tc:UTT)(te:UTE):UTE:=fun env S P=>ti env S fun ts S1=>ts.length<=sizeLine/\∃Iv:Nat->List T->TH->Prop,Iv 0 [] S1 ∧
 (∀k x acc S,ts[k]?=some x->Iv k acc S->gg x (G2 pick env) S fun env' S'=>tc env' S' fun b S2=>(b=true->te env' S2 fun r S3=>Iv (k+1) (acc++[r]) S3)/\(b=false->Iv (k+1) acc S2)) ∧
 ∀acc S,Iv ts.length acc S->P (.lst acc) S
end
theorem REnv.pick{K:PySem.W.Frag}{S:TH}{H:Hp}{σ:L2.St}{env:Ev}(h:REnv K S H σ env)(pick:List (Option Nat)):REnv K S H (Xq pick σ) (G2 pick env):=by
 refine⟨by simp[Xq,G2],fun i t e=>?_⟩
 unfold G2 at e
 unfold Xq
 rw[List.getElem?_map] at e ⊢
 cases ep:pick[i]? with
 |none=>rw[ep] at e;cases e
 |some o =>
  rw[ep] at e
  cases o with
  |none=>cases e
  |some j =>
   cases ev:env[j]? with
   |none=>simp only[ev,Option.map_some,Option.some.injEq] at e;cases e
   |some ov =>
    cases ov with
    |none=>simp only[ev,Option.map_some,Option.some.injEq] at e;cases e
    |some t' =>
     simp only[ev,Option.map_some,Option.some.injEq] at e
     subst e
     obtain⟨v,e',r⟩:=h.2 j _ ev
     exact⟨v,by simp only[Option.map_some,e'],r⟩
theorem Il{pick:List (Option Nat)}{σ:L2.St}{i:Nat}{v:V}(h:pick[i]?=some none):Keep (Xq pick σ) ((Xq pick σ).set i (some v)):=by
 refine⟨by simp,fun j w e=>?_⟩
 by_cases hj:i=j
 ·subst hj
  unfold Xq at e
  rw[List.getElem?_map,h] at e
  cases e
 ·rw[List.getElem?_set_ne hj];exact e
theorem Q9{pick:List (Option Nat)}{σ:L2.St}{i j:Nat}{v w:V}(h:pick[i]?=some none)(h':pick[j]?=some none):Keep (Xq pick σ) (((Xq pick σ).set i (some v)).set j (some w)):=by
 obtain⟨a1,a2⟩:=Il (σ:=σ) (v:=v) h
 refine⟨by simp,fun k x e=>?_⟩
 by_cases hj:j=k
 ·subst hj
  unfold Xq at e
  rw[List.getElem?_map,h'] at e
  cases e
 ·rw[List.getElem?_set_ne hj];exact a2 k x e
section
variable{X:Cx}{elt iter:Expr}{ti:UTA}{tc:UTT}{te:UTE}{pos:Pos}{scope:Scope}{ifs:List Expr}{N:List Str}{pick:List (Option Nat)}
theorem F8{K:PySem.W.Frag}{g:TG}{gg:UTG}{σ:L2.St}{H:Hp}{Q:VK}
  (hg:∀x tt S1 H1 env (k:Ev->TH->Prop) (R:L2.St->Hp->Prop),Good K S1 H1->REnv K S1 H1 (Xq pick σ) (G2 pick env)->Rep K S1 H1 x tt->gg tt (G2 pick env) S1 k →
   (∀ σ2 env2,REnv K S1 H1 σ2 env2->k env2 S1->R σ2 H1)->g x (Xq pick σ) H1 fun σ2 H2=>Keep (Xq pick σ) σ2/\R σ2 H2)
  (h:lf K (Ag pick ti gg tc te) σ H Q):Pb pick (lfI K ti) g (lfT K tc) (lf K te) σ H Q:=by
 obtain⟨S,env,P,gd,re,h,fin⟩:=h
 refine⟨S,env,_,gd,re,h,fun ts J S1 H1 le1 g1 hq yl=>?_⟩
 obtain⟨hz,Iv,i0,step,done⟩:=hq
 refine⟨fun k m acc H'=>m=ts.length - k/\k<=ts.length/\acc.length<=k/\∃S' racc,Le S1 H1 S' H'/\Good K S' H'/\Reps K S' H' acc racc/\Iv k racc S',⟨ts.length,rfl,Nat.zero_le _,Nat.le_refl _,S1,[],.refl,g1,.nil,i0⟩,?_⟩
 rintro k m acc H' ⟨rfl,hk,ha,S',racc,le',g',ra,iv⟩
 by_cases hlt:k<ts.length
 ·refine .inr ⟨yl.go k S' H' le' g' hlt,by omega,fun acc' H2=>acc'.length<=k+1/\∃S2 racc',Le S1 H1 S2 H2/\Good K S2 H2/\Reps K S2 H2 acc' racc'/\Iv (k+1) racc' S2,fun acc' H2 z=>⟨ts.length - (k+1),by omega,rfl,hlt,z.1,z.2⟩,fun x H2 y=>?_⟩
  obtain⟨le2,g2,tt,et,rt⟩:=yl.yld k S' H' x H2 le' g' hlt y
  have l02:Le S H S' H2:=le1.trans (le'.trans le2)
  refine hg x tt S' H2 env _ _ g2 ((re.mono l02).pick pick) rt (step k tt racc S' et iv) fun σ2 env2 re2 h2=>?_
  refine Bx ⟨g2,re2⟩ h2 fun b S3 H3 le3 m3 hb=>?_
  have l13:Le S1 H1 S3 H3:=le'.trans (le2.trans le3)
  have r3:=ra.mono (le2.trans le3)
  cases b with
  |false=>rw[if_neg Bool.false_ne_true];exact⟨by omega,S3,racc,l13,m3.g,r3,hb.2 rfl⟩
  |true =>
   rw[if_pos rfl]
   refine Za m3 (hb.1 rfl) fun w r S4 H4 le4 m4 rw4 h4=>?_
   exact⟨by rw[List.length_append,List.length_singleton];omega,S4,racc++[r],l13.trans le4,m4.g,(r3.mono le4).append (.cons rw4 .nil),h4⟩
 ·have ek:k=ts.length:=by omega
  subst ek
  exact .inl ⟨yl.stop S' H' le' g',by omega,fun p hp=>B5 (fin.le (le1.trans le')) g' hp ra (done racc S' iv)⟩
theorem Xg(i:Nat)(N:List Str)(pick:List (Option Nat)){x:Str}{px:Pos}(hc:X.calm=true)(hi:UI X (.Name x px) iter ti)(ht:∀C s H fp pins,PTs (Xl X N scope C s H fp pins) ifs (lfT X.K tc))(he:∀C s H fp pins,UE (Xl X N scope C s H fp pins) elt te)
  (hs:scopeOk X.env.scope.names scope.names=true:=by rfl) (hp:Dx X.N scope.names N pick=true:=by rfl) (hk:scope.kind=.function:=by rfl) (hN:N.Nodup:=by decide +kernel)
  (hiN:N[i]?=some x:=by rfl) (hpi:pick[i]?=some none:=by rfl) (hloc:scope.names.lookup x=some .local:=by rfl) (hfs:∀x,foldedSetIterable iter X.env x=pure x:=by intro _;rfl) :
  UE X (.ListComp elt [⟨.Name x px,iter,ifs,0⟩] scope pos) (Ag pick ti (gNm i) tc te) :=
 PE.imp (P9 hc hs hp hk hi (fun C s H fp pins=>Bv (i:=i) hN hiN (.inl (lookup_relabel_local hloc)) (.inr (lookup_relabel_local hloc))) ht (te:=lf X.K te) he hfs) fun σ H Q h =>
  F8 (fun y tt S1 H1 env k R gd re rt hg hR=>⟨Il hpi,hR _ _ (re.set rt) hg⟩) h
theorem Lv(i j:Nat)(N:List Str)(pick:List (Option Nat)){x y:Str}{p1 p2 p3:Pos}{kk:Nat}(hc:X.calm=true)(hi:UI X (.Tuple [.Name x p1,.Name y p2] kk p3) iter ti)(ht:∀C s H fp pins,PTs (Xl X N scope C s H fp pins) ifs (lfT X.K tc))
  (he:∀C s H fp pins,UE (Xl X N scope C s H fp pins) elt te)
  (hs:scopeOk X.env.scope.names scope.names=true:=by rfl) (hp:Dx X.N scope.names N pick=true:=by rfl) (hk:scope.kind=.function:=by rfl) (hN:N.Nodup:=by decide +kernel)
  (hiN:N[i]?=some x:=by rfl) (hpi:pick[i]?=some none:=by rfl) (hloc:scope.names.lookup x=some .local:=by rfl) (hjN:N[j]?=some y:=by rfl) (hpj:pick[j]?=some none:=by rfl) (hloc':scope.names.lookup y=some .local:=by rfl)
  (hfs:∀x,foldedSetIterable iter X.env x=pure x:=by intro _;rfl) :
  UE X (.ListComp elt [⟨.Tuple [.Name x p1,.Name y p2] kk p3,iter,ifs,0⟩] scope pos) (Ag pick ti (gPr i j) tc te) :=
 PE.imp (P9 (g:=gTup X.K 2 (Te (L5 i) (Te (L5 j) gNil))) hc hs hp hk hi (fun C s H fp pins=>Ov (X:=Xl X N scope C s H fp pins) (n:=2) hc (Ce (Bv (X:=Xl X N scope C s H fp pins) (i:=i) hN hiN (.inl (lookup_relabel_local hloc)) (.inr (lookup_relabel_local hloc))) (Ce (Bv (X:=Xl X N scope C s H fp pins) (i:=j) hN hjN (.inl (lookup_relabel_local hloc')) (.inr (lookup_relabel_local hloc'))) K4))) ht (te:=lf X.K te) he hfs) fun σ H Q h =>
  F8 (fun v tt S1 H1 env k R gd re rt hg hR=>by
   cases tt with
   |tup ts =>
    match ts,hg with
    |[a,b],hg =>
     obtain⟨l,vs,rfl,f,r⟩:=rt.tupE
     match vs,f,r with
     |[v,w],f,r=>exact⟨l,[v,w],rfl,f.sq,rfl,v,[w],rfl,w,[],rfl,rfl,Q9 hpi hpj,hR _ _ ((re.set r.head).set r.tail.head) hg⟩
     |[],_,r=>exact absurd r.1 (by simp)
     |[_],_,r=>exact absurd r.1 (by simp)
     |_::_::_::_,_,r=>exact absurd r.1 (by simp)
   |_=>exact hg.elim) h
def uYes:UTT:=fun _ S P=>P true S
theorem Ah:PTs X [] (lfT X.K uYes):=fun pins s σ H Q I h=>X1 pins s σ H Q I (by
 obtain⟨S,env,P,g,re,h,fin⟩:=h
 exact fin true S H .refl g h)
theorem P4{c:Expr}(h:UT X c tc):PTs X [c] (lfT X.K tc):=Yk h
end
def Xm(N:List Str)(ts:List T):Ev:=ts.map some++List.replicate (N.length - ts.length) none
section
variable{P:Program}{w:World}{K:PySem.W.Frag}{mg:Str->Option Value}{base:Heap}
theorem Ic{S:TH}{H:Hp}{N:List Str}{vs:List V}{ts:List T}(r:Reps K S H vs ts):REnv K S H (L2.start N vs) (Xm N ts):=by
 refine⟨by simp[L2.start,Xm,r.1],fun i t e=>?_⟩
 unfold Xm at e
 unfold L2.start
 by_cases hi:i<ts.length
 ·rw[List.getElem?_append_left (by simpa using hi),List.getElem?_map] at e
  cases et:ts[i]? with
  |none=>rw[et] at e;cases e
  |some t' =>
   rw[et] at e
   cases e
   obtain⟨v,ev,rv⟩:=r.get et
   refine⟨v,?_,rv⟩
   rw[List.getElem?_append_left (by simp[r.1];exact hi),List.getElem?_map,ev]
   rfl
 ·rw[List.getElem?_append_right (by simpa using hi),List.getElem?_replicate] at e
  split at e <;> cases e
theorem Pv{x qual:Str}{st:Stmt}{f:Addr}{fd:FuncData}{N ps:List Str}{k:Nat}{t:List T->TH->UX->Prop}(F:Fun K x qual st f fd)(Sc:Zv N ps (Zb st))(hl:∀ts S Pp,t ts S Pp->ts.length=ps.length)
  (hb:∀(cdv:Value) (A:Around) (outer:List Env) (s:Shared) (H:Hp) (E:XK),Room k (A.deeper (envOfC qual (Zb st) s.heap.objs.size f cdv)) →
   ∃tb,USs (cxOf CX0 P w K mg base N qual (Zb st) f cdv A outer s H E).nox (defBody st) tb/\∀ts S Pp,t ts S Pp->tb { nx:=fun _ S'=>Pp .non S',rt:=Pp } (Xm N ts) S) :
  FnOk P w K mg base CX0 (k+1) f fd ps (spU K t):=by
 refine F.ok Sc (fun vs H Q E h=>?_) (fun cdv A outer s H vs Q E hr h=>?_)
 ·obtain⟨S,ts,Pp,_,r,h,_⟩:=h
  rw[r.1]
  exact hl ts S Pp h
 ·obtain⟨S,ts,Pp,g,r,h,fin⟩:=h
  obtain⟨tb,hu,hq⟩:=hb cdv A outer s H E hr
  refine⟨_,hu,S,Xm N ts,_,g,Ic r,hq ts S Pp h,⟨fun σ' env' S' H' le g' re' q=>fin .non .non S' H' le g' .non q,fun v r' S' H' le g' rp q=>fin v r' S' H' le g' rp q,fun _ _ _ _ _ _ _ z=>z.elim,fun _ _ _ _ _ _ _ z=>z.elim⟩⟩
theorem Acv{f:Addr}{fd:FuncData}{ps:List Str}{k:Nat}{t:List T->TH->UX->Prop}(h:∀ts S Pp,¬ t ts S Pp):FnOk P w K mg base CX0 k f fd ps (spU K t):=by
 have no:∀vs H Q E,¬ spU K t vs H Q E:=fun vs H Q E z=>by
  obtain⟨S,ts,Pp,_,_,z,_⟩:=z
  exact h ts S Pp z
 exact⟨fun vs H Q E z=>absurd z (no vs H Q E),fun A outer s H args us vs Q E _ _ _ _ z=>absurd z (no vs H Q E)⟩
end
end TL
end
section
namespace L2
open PySem PySem.Spec PyProof.Rows
end L2
namespace TL
open PySem PySem.Spec PyProof.Rows L2
section
variable{K:PySem.W.Frag}{S:TH}{H:Hp}{vs:List V}{ts:List T}{t:T}{i:Int}
theorem Reps.at(h:Reps K S H vs ts)(e:atI ts i=some t):∃v,atI vs i=some v/\Rep K S H v t:=by
 unfold atI at e ⊢
 rw[h.1]
 cases q:ixN ts.length i with
 |none=>rw[q] at e;cases e
 |some j =>
  rw[q] at e
  exact h.get e
def oIx:T->T->TH->UX->Prop:=fun x y S P=>match x,y with
 | .lst ts,.int i=>∃t,atI ts i=some t/\P t S
 | .fls ts,.int i=>∃t,atI ts i=some t/\P t S
 | .tup ts,.int i=>∃t,atI ts i=some t/\P t S
 | .str z,.int i=>z.length<=sizeLine/\∃c,atI z.cps.toList i=some c/\P (.str ⟨#[c]⟩) S
 | .ref p,.int i=>∃ts,S p=some (.lst ts)/\∃t,atI ts i=some t/\P t S
 |_,_=>False
theorem lIx:LOp K (rIx K) oIx:=fun S H v w x y P Q g rx ry ho fin=>by
 have go:∀{ts:List T} {vs:List V} {i:Int} {a:Addr},Reps K S H vs ts->(∃t,atI ts i=some t/\P t S)->∃v t,atI vs i=some v/\Rep K S H v t/\P t S:=fun {ts vs i a} r h=>by
  obtain⟨t,e,h⟩:=h
  obtain⟨v,ev,rv⟩:=r.at e
  exact⟨v,t,ev,rv,h⟩
 cases y with
 |int i =>
  cases ry
  cases x with
  |lst ts =>
   obtain⟨a,vs,rfl,f,r⟩:=rx.lstE
   obtain⟨u,t,e,ru,hp⟩:=go (a:=a) r ho
   exact .inl ⟨a,vs,i,u,rfl,rfl,f.sq,e,fin u t S H .refl g ru hp⟩
  |fls ts =>
   obtain⟨a,vs,rfl,f,r⟩:=rx.flsE
   obtain⟨u,t,e,ru,hp⟩:=go (a:=a) r ho
   exact .inl ⟨a,vs,i,u,rfl,rfl,f.sq,e,fin u t S H .refl g ru hp⟩
  |tup ts =>
   obtain⟨a,vs,rfl,f,r⟩:=rx.tupE
   obtain⟨u,t,e,ru,hp⟩:=go (a:=a) r ho
   exact .inr (.inl ⟨a,vs,i,u,rfl,rfl,f.sq,e,fin u t S H .refl g ru hp⟩)
  |str z =>
   cases rx
   obtain⟨hz,c,e,ho⟩:=ho
   exact .inr (.inr ⟨z,i,c,rfl,rfl,hz,e,fin _ _ S H .refl g (.str _) ho⟩)
  |ref p =>
   cases rx
   obtain⟨ts,e,ho⟩:=ho
   obtain⟨vs,q,r⟩:=g p _ e
   obtain⟨u,t,e',ru,hp⟩:=go (a:=p) r ho
   exact .inl ⟨p,vs,i,u,rfl,rfl,SqL.of q,e',fin u t S H .refl g ru hp⟩
  |_=>exact ho.elim
 |_=>cases x <;> exact ho.elim
end
section
variable{X:Cx}{a b c e:Expr}{es:List Expr}{ta tb te:UTE}{tr:UTA}{pos:Pos}
theorem Zx(ha:UE X a ta)(hb:UE X b tb)(hs:O8 b:=by intro _ _;rfl):UE X (.Subscript a b pos) (Aq oIx ta tb):=PE.imp (pe_ix Ady ha hb hs) fun _ _ _ h=>O4 lIx h
def keyT:T->Option Key
 | .int i=>some (.inl i)
 | .str x=>some (.inr x)
 |_=>none
def valT(kts:List (Key×T))(k:Key):Option T:=(kts.find? fun kv=>decide (kv.1=k)).map (·.2)
theorem Ky{K:PySem.W.Frag}{S:TH}{H:Hp}{v:V}{t:T}{k:Key}(r:Rep K S H v t)(e:keyT t=some k):v=kV k:=by
 cases t with
 |int i=>cases r;cases e;rfl
 |str x=>cases r;cases e;rfl
 |_=>cases e
theorem RepK.val{K:PySem.W.Frag}{S:TH}{H:Hp}{k:Key}:∀{kvs:List (Key×V)} {kts:List (Key×T)},RepK K S H kvs kts->(∀t,valT kts k=some t->∃v,valV kvs k=some v/\Rep K S H v t)/\(valT kts k=none->valV kvs k=none)
 |[],[],_=>⟨fun t e=>(by simp[valT] at e),fun _=>rfl⟩
 |[],_::_,h=>by have:=h.1;simp at this
 |_::_,[],h=>by have:=h.1;simp at this
 |v::kvs,t::kts,h=>by
  have h0:=h.2 0 v t rfl rfl
  have ht:RepK K S H kvs kts:=⟨by simpa using h.1,fun i v' t' e1 e2=>h.2 (i+1) v' t' (by simpa using e1) (by simpa using e2)⟩
  have ih:=RepK.val (k:=k) ht
  by_cases e:t.1=k
  ·have e':v.1=k:=h0.1.trans e
   have q1:valT (t::kts) k=some t.2:=by simp[valT,List.find?_cons,e]
   have q2:valV (v::kvs) k=some v.2:=by simp[valV,List.find?_cons,e']
   rw[q1,q2]
   exact⟨fun t' z=>by cases z;exact⟨_,rfl,h0.2⟩,fun z=>by cases z⟩
  ·have e':¬ v.1=k:=fun z=>e (h0.1.symm.trans z)
   have q1:valT (t::kts) k=valT kts k:=by simp[valT,List.find?_cons,e]
   have q2:valV (v::kvs) k=valV kvs k:=by simp[valV,List.find?_cons,e']
   rw[q1,q2]
   exact ih
def cutA{α:Type}(xs:List α)(lo hi:Option Int):List α:=(xs.drop (HT.sIx xs.length 0 lo)).take (HT.sIx xs.length xs.length hi - HT.sIx xs.length 0 lo)
theorem Reps.cut{K:PySem.W.Frag}{S:TH}{H:Hp}{vs:List V}{ts:List T}(h:Reps K S H vs ts)(lo hi:Option Int):Reps K S H (Lj vs lo hi) (cutA ts lo hi):=by
 unfold Lj cutA
 rw[h.1]
 exact(h.drop _).take _
abbrev UTO:=Ev->TH->(Option Int->TH->Prop)->Prop
def lfO(K:PySem.W.Frag)(t:UTO):TO:=fun σ H Q=>∃S env P,Good K S H/\REnv K S H σ env/\t env S P/\∀o S' H',Le S H S' H'->Good K S' H'->P o S'->Q o H'
def UO(X:Cx)(e:Option Expr)(t:UTO):Prop:=PO X e (lfO X.K t)
theorem PO.imp{X:Cx}{e:Option Expr}{t t':TO}(h:PO X e t)(i:∀ σ H Q,t' σ H Q->t σ H Q):PO X e t':=fun pins s σ H Q I q=>h pins s σ H Q I (i σ H Q q)
def uoN:UTO:=fun _ S P=>P none S
def uoS(t:UTE):UTO:=fun env S P=>t env S fun x S1=>match x with
 | .int i=>P (some i) S1
 |_=>False
theorem Ef:UO X none uoN:=PO.imp Yb fun σ H Q ⟨S,env,P,g,re,h,fin⟩=>fin none S H .refl g h
theorem Ec(h:UE X e te):UO X (some e) (uoS te):=PO.imp (W3 h) fun σ H Q ⟨S,env,P,g,re,h,fin⟩=>Za ⟨g,re⟩ h fun v x S1 H1 le1 m1 rx h1=>by
 cases x with
 |int i=>cases rx;exact⟨i,rfl,fin _ S1 H1 le1 m1.g h1⟩
 |_=>exact h1.elim
def G1(xs:List T)(S:TH)(P:UX):Prop:=match xs with
 |[.lst ts]=>P (.int ts.length) S
 |[.fls ts]=>P (.int ts.length) S
 |[.tup ts]=>P (.int ts.length) S
 |[.str z]=>z.length<=sizeLine/\P (.int z.length) S
 |[.ref p]=>∃ts,S p=some (.lst ts)/\P (.int ts.length) S
 |_=>False
theorem Reps.one{K:PySem.W.Frag}{S:TH}{H:Hp}{vs:List V}{t:T}(h:Reps K S H vs [t]):∃v,vs=[v]/\Rep K S H v t:=by
 match vs,h with
 |[v],h=>exact⟨v,rfl,h.head⟩
 |[],h=>exact absurd h.1 (by simp)
 |_::_::_,h=>exact absurd h.1 (by simp)
theorem Reps.two{K:PySem.W.Frag}{S:TH}{H:Hp}{vs:List V}{t u:T}(h:Reps K S H vs [t,u]):∃v w,vs=[v,w]/\Rep K S H v t/\Rep K S H w u:=by
 match vs,h with
 |[v,w],h=>exact⟨v,w,rfl,h.head,h.tail.head⟩
 |[],h=>exact absurd h.1 (by simp)
 |[_],h=>exact absurd h.1 (by simp)
 |_::_::_::_,h=>exact absurd h.1 (by simp)
theorem lLen{K:PySem.W.Frag}:Gx K (fun xs H Q=>(∃p ys,xs=[.ref p]/\(SqL K H p ys\/SqT K H p ys)/\Q (.int ys.length) H)\/(∃z,xs=[.str z]/\z.length<=sizeLine/\Q (.int z.length) H)) G1:=fun S H vs xs P Q g r ho fin=>by
 match xs,r,ho with
 |[x],r,ho =>
  obtain⟨v,rfl,rx⟩:=r.one
  cases x with
  |lst ts =>
   obtain⟨a,us,rfl,f,r⟩:=rx.lstE
   refine .inl ⟨a,us,rfl,.inl f.sq,?_⟩
   rw[r.1]
   exact fin _ _ S H .refl g (.int _) ho
  |fls ts =>
   obtain⟨a,us,rfl,f,r⟩:=rx.flsE
   refine .inl ⟨a,us,rfl,.inl f.sq,?_⟩
   rw[r.1]
   exact fin _ _ S H .refl g (.int _) ho
  |tup ts =>
   obtain⟨a,us,rfl,f,r⟩:=rx.tupE
   refine .inl ⟨a,us,rfl,.inr f.sq,?_⟩
   rw[r.1]
   exact fin _ _ S H .refl g (.int _) ho
  |str z=>cases rx;exact .inr ⟨z,rfl,ho.1,fin _ _ S H .refl g (.int _) ho.2⟩
  |ref p =>
   cases rx
   obtain⟨ts,e,ho⟩:=ho
   obtain⟨us,q,r⟩:=g p _ e
   refine .inl ⟨p,us,rfl,.inl (SqL.of q),?_⟩
   rw[r.1]
   exact fin _ _ S H .refl g (.int _) ho
  |_=>exact ho.elim
 |[],_,ho=>exact ho.elim
 |_::_::_,_,ho=>exact(by revert ho;simp[G1])
theorem Zl{p:Pos}(hg:Gl X "len")(hm:X.mg "len"=none)(ha:UA X [e] tr)(he:starEach [e] X.env=(false,eval e X.env)::starEach [] X.env:=by rfl):UE X (.Call (.Name "len" p) [e] [] pos) (A9 G1 tr):=Hu (call_len_seq.or Li) lLen hg hm PySem.boot_len ha (he:=he)
def Dt(xs:List T)(S:TH)(P:UX):Prop:=match xs with
 |[.lst ts]=>P (.lst ts) S
 |[.tup ts]=>P (.lst ts) S
 |_=>False
theorem lList{K:PySem.W.Frag}:Gx K (fun xs H Q=>∃p ys,xs=[.ref p]/\(SqL K H p ys\/SqT K H p ys)/\∀l,H l=none->Q (.ref l) (upd H l (.lst ys))) Dt:=fun S H vs xs P Q g r ho fin=>by
 match xs,r,ho with
 |[x],r,ho =>
  obtain⟨v,rfl,rx⟩:=r.one
  cases x with
  |lst ts =>
   obtain⟨a,us,rfl,f,r⟩:=rx.lstE
   exact⟨a,us,rfl,.inl f.sq,fun p hp=>B5 fin g hp r ho⟩
  |tup ts =>
   obtain⟨a,us,rfl,f,r⟩:=rx.tupE
   exact⟨a,us,rfl,.inr f.sq,fun p hp=>B5 fin g hp r ho⟩
  |_=>exact ho.elim
 |[],_,ho=>exact ho.elim
 |_::_::_,_,ho=>exact(by revert ho;simp[Dt])
def strsT:List T->Option (List Str)
 |[]=>some []
 | .str x::r=>(strsT r).map (x::·)
 |_=>none
theorem J7{K:PySem.W.Frag}{S:TH}{H:Hp}:∀{vs:List V} {ts:List T} {zs:List Str},Reps K S H vs ts->strsT ts=some zs->vs=zs.map V.str
 |[],[],zs,_,e=>by cases e;rfl
 |[],_::_,_,h,_=>by have:=h.1;simp at this
 |_::_,[],_,h,_=>by have:=h.1;simp at this
 |v::vs,t::ts,zs,h,e=>by
  cases t with
  |str x =>
   have r0:=h.head
   cases r0
   simp only[strsT] at e
   cases q:strsT ts with
   |none=>rw[q] at e;cases e
   |some ys =>
    rw[q] at e
    cases e
    rw[J7 h.tail q]
    rfl
  |_=>cases e
theorem R5(zs:List Str):(zs.map V.str).all Fc=true:=by
 induction zs with
 |nil=>rfl
 |cons z r ih=>rw[List.map_cons,List.all_cons,ih];rfl
theorem Ti(x:Str)(zs:List Str):inV (.str x) (zs.map V.str)=decide (x∈zs):=by
 unfold inV
 rw[List.any_map]
 induction zs with
 |nil=>rfl
 |cons z r ih =>
  rw[List.any_cons,ih]
  show (eqV (V.str z) (V.str x) || decide (x∈r))=decide (x∈z::r)
  have q:eqV (V.str z) (V.str x)=decide (z=x):=by
   show (z==x)=_
   exact Bool.beq_eq_decide_eq z x
  rw[q,Bool.eq_iff_iff]
  simp only[Bool.or_eq_true,decide_eq_true_eq,List.mem_cons]
  constructor
  ·rintro(h|h)
   ·exact .inl h.symm
   ·exact .inr h
  ·rintro(h|h)
   ·exact .inl h.symm
   ·exact .inr h
def oIn(neg:Bool):T->T->TH->UX->Prop:=fun x y S P=>match x,y with
 | .str x,.lst ts=>(∃zs,strsT ts=some zs/\P (.bl (if neg then !decide (x∈zs) else decide (x∈zs))) S)
 | .str x,.tup ts=>(∃zs,strsT ts=some zs/\P (.bl (if neg then !decide (x∈zs) else decide (x∈zs))) S)
 | .str x,.ref p=>∃ts,S p=some (.lst ts)/\∃zs,strsT ts=some zs/\P (.bl (if neg then !decide (x∈zs) else decide (x∈zs))) S
 |_,_=>False
theorem lIn{K:PySem.W.Frag}{neg:Bool}:LOp K (rIn K neg) (oIn neg):=fun S H v w x y P Q g rx ry ho fin=>by
 cases x with
 |str x =>
  cases rx
  have go:∀{ts:List T} {vs:List V} {p:Addr},Reps K S H vs ts->(SqL K H p vs\/SqT K H p vs)->(∃zs,strsT ts=some zs/\P (.bl (if neg then !decide (x∈zs) else decide (x∈zs))) S)->rIn K neg (.str x) (.ref p) H Q:=fun {ts vs p} r sq h=>by
   obtain⟨zs,e,h⟩:=h
   have ev:=J7 r e
   subst ev
   refine⟨p,_,rfl,sq,rfl,R5 zs,?_⟩
   rw[Ti]
   exact fin _ _ S H .refl g (.bl _) h
  cases y with
  |lst ts =>
   obtain⟨a,vs,rfl,f,r⟩:=ry.lstE
   exact go r (.inl f.sq) ho
  |tup ts =>
   obtain⟨a,vs,rfl,f,r⟩:=ry.tupE
   exact go r (.inr f.sq) ho
  |ref p =>
   cases ry
   obtain⟨ts,e,ho⟩:=ho
   obtain⟨vs,q,r⟩:=g p _ e
   exact go r (.inl (SqL.of q)) ho
  |_=>exact ho.elim
 |_=>exact ho.elim
def tyT:T->Option String
 | .non=>some "NoneType" | .bl _=>some "bool" | .int _=>some "int" | .str _=>some "str" | .tup _=>some "tuple" | .lst _=>some "list" | .dct _=>some "dict"
 |_=>none
def isT(n c:String):Bool:=n==c || (n=="bool"&&c=="int")
end
end TL
end
section
namespace TL
open PySem PySem.Spec PyProof.Rows L2
def Ba(z:Str):List T:=z.cps.toList.map fun (c:Nat)=>T.str ⟨#[c]⟩
section
variable{K:PySem.W.Frag}{S:TH}{H:Hp}
theorem ylds_str{z:Str}:Ylds K (Its z) (Ba z) S H where
 go:=fun i S2 H2 le g hi=>by
  have:(Ba z).length=z.cps.size:=by simp[Ba]
  rw[this] at hi;exact hi
 stop:=fun S2 H2 le g=>by
  show (Ba z).length=z.cps.size
  simp[Ba]
 yld:=fun i S2 H2 x H3 le g hi y=>by
  obtain⟨rfl,c,hc,rfl⟩:=y
  refine⟨.refl,g,.str ⟨#[c]⟩,?_,.str _⟩
  have hc':z.cps.toList[i]?=some c:=by simpa using hc
  simp[Ba,List.getElem?_map,hc']
def Eu(xs ys:List T):List T:=List.zipWith (fun x y=>T.tup [x,y]) xs ys
theorem T8{a b:Addr}{vs ws:List V}{xs ys:List T}(f:FT K S H a vs)(r:Reps K S H vs xs)(f':FT K S H b ws)(r':Reps K S H ws ys)(hl:xs.length=ys.length):Ylds K (Itz K a b) (Eu xs ys) S H:=by
 have hz:(Eu xs ys).length=xs.length:=by simp[Eu];omega
 refine⟨fun i S2 H2 le g hi=>?_,fun S2 H2 le g=>?_,fun i S2 H2 x H3 le g hi y=>?_⟩
 ·rw[hz] at hi
  have h1:i<vs.length:=by rw[r.1];exact hi
  have h2:i<ws.length:=by rw[r'.1];omega
  exact⟨vs,ws,vs[i],ws[i],(f.mono le).sq,(f'.mono le).sq,List.getElem?_eq_getElem h1,List.getElem?_eq_getElem h2⟩
 ·rw[hz]
  exact⟨vs,(f.mono le).sq,by rw[r.1];exact Nat.le_refl _⟩
 ·obtain⟨p,v,w,hp,rfl,rfl,e1,e2⟩:=y
  obtain⟨t,et,rt⟩:=r.get' (e1 vs (f.mono le).sq)
  obtain⟨u,eu,ru⟩:=r'.get' (e2 ws (f'.mono le).sq)
  have ln:Le S2 H2 S2 (upd H2 p (.tup [v,w])):=Le.new g hp
  refine⟨ln,g.new hp,.tup [t,u],?_,.tupI (.inl ⟨g.free hp,A4⟩) (.cons (rt.mono (le.trans ln)) (.cons (ru.mono (le.trans ln)) .nil))⟩
  simp[Eu,List.getElem?_zipWith,et,eu]
end
section
variable{X:Cx}{a b c e tg iter:Expr}{es:List Expr}{ta tb tc te:UTE}{tr:UTA}{pos:Pos}
def Vf(t:UTE):UTA:=fun env S P=>t env S fun x S1=>match x with
 | .lst ts=>P ts S1
 | .fls ts=>P ts S1
 | .tup ts=>P ts S1
 | .str z=>P (Ba z) S1
 |_=>False
theorem Xu(h:UE X iter te):UI X tg iter (Vf te):=PI.imp (Abj h) fun σ H R ⟨S,env,P,g,re,h,fin⟩=>Za ⟨g,re⟩ h fun v x S1 H1 le1 m1 rx h1=>by
 cases x with
 |lst ts =>
  obtain⟨l,vs,rfl,f,r⟩:=rx.lstE
  exact .inl ⟨l,rfl,.inl ⟨⟨vs,f.sq⟩,fin ts _ S1 H1 le1 m1.g h1 (Ju (fun _ _ le=>(f.mono le).sq) r)⟩⟩
 |fls ts =>
  obtain⟨l,vs,rfl,f,r⟩:=rx.flsE
  exact .inl ⟨l,rfl,.inl ⟨⟨vs,f.sq⟩,fin ts _ S1 H1 le1 m1.g h1 (Ju (fun _ _ le=>(f.mono le).sq) r)⟩⟩
 |tup ts =>
  obtain⟨l,vs,rfl,f,r⟩:=rx.tupE
  exact .inl ⟨l,rfl,.inr ⟨⟨vs,f.sq⟩,fin ts _ S1 H1 le1 m1.g h1 (Uk f r)⟩⟩
 |str z=>cases rx;exact .inr ⟨z,rfl,fin _ _ S1 H1 le1 m1.g h1 ylds_str⟩
 |_=>exact h1.elim
def uZip(t:UTA):UTA:=fun env S P=>t env S fun ts S1=>match ts with
 |[.tup xs,.tup ys]=>xs.length=ys.length/\P (Eu xs ys) S1
 |_=>False
theorem Uz{k:Nat}{p tp:Pos}(hg:Gl X "zip")(hm:X.mg "zip"=none)(ha:UA X [a,b] tr)(hs:starEach [a,b] X.env=[(false,eval a X.env),(false,eval b X.env)]:=by rfl)(hs2:starEach [b] X.env=[(false,eval b X.env)]:=by rfl):
  UI X (.Tuple es k tp) (.Call (.Name "zip" p) [a,b] [] pos) (uZip tr):=PI.imp (Abx hg hm boot_zip ha hs hs2) fun σ H R ⟨S,env,P,g,re,h,fin⟩=>Af ⟨g,re⟩ h fun vs xs S1 H1 le1 m1 rx h1=>by
 match xs,rx,h1 with
 |[.tup xs,.tup ys],rx,h1 =>
  obtain⟨v,w,rfl,r1,r2⟩:=rx.two
  obtain⟨l,us,rfl,f,r⟩:=r1.tupE
  obtain⟨l',us',rfl,f',r'⟩:=r2.tupE
  exact⟨l,l',us,us',rfl,f.sq,f'.sq,fin _ _ S1 H1 le1 m1.g h1.2 (T8 f r f' r' h1.1)⟩
def Bm(o o':T->T->TH->UX->Prop)(ta tb tc:UTE):UTE:=fun env S P=>ta env S fun x S1=>tb env S1 fun y S2=>o x y S2 fun z S3=>match z with
 | .bl k=>(k=true->tc env S3 fun w S4=>o' y w S4 P)/\(k=false->P (.bl false) S3)
 |_=>False
def Hs:List T->Option (List Bool)
 |[]=>some []
 | .bl b::r=>(Hs r).map (b::·)
 |_=>none
theorem Mz{K:PySem.W.Frag}{S:TH}{H:Hp}:∀{vs:List V} {ts:List T} {zs:List Bool},Reps K S H vs ts->Hs ts=some zs->vs=zs.map V.bl
 |[],[],zs,_,e=>by cases e;rfl
 |[],_::_,_,h,_=>by have:=h.1;simp at this
 |_::_,[],_,h,_=>by have:=h.1;simp at this
 |v::vs,t::ts,zs,h,e=>by
  cases t with
  |bl x =>
   have r0:=h.head
   cases r0
   simp only[Hs] at e
   cases q:Hs ts with
   |none=>rw[q] at e;cases e
   |some ys =>
    rw[q] at e
    cases e
    rw[Mz h.tail q]
    rfl
  |_=>cases e
theorem Hz(bs:List Bool):Hs (bs.map T.bl)=some bs:=by
 induction bs with
 |nil=>rfl
 |cons b r ih=>simp only[List.map_cons,Hs,ih,Option.map_some]
def Fw(xs:List T)(S:TH)(P:UX):Prop:=match xs with
 |[.lst ts]=>(match Hs ts with|some bs=>P (.bl (bs.all id)) S|none=>False)
 |_=>False
theorem D2{p:Pos}(hc:X.calm=true)(hg:Gl X "all")(hm:X.mg "all"=none)(ha:UA X [e] tr)(he:starEach [e] X.env=(false,eval e X.env)::starEach [] X.env:=by rfl):UE X (.Call (.Name "all" p) [e] [] pos) (A9 Fw tr) :=
 Hu (Ue hc) (fun S H vs xs P Q g r ho fin=>by
  match xs,r,ho with
  |[.lst ts],r,ho =>
   obtain⟨v,rfl,rx⟩:=r.one
   obtain⟨l,us,rfl,f,r⟩:=rx.lstE
   simp only[Fw] at ho
   cases q:Hs ts with
   |none=>rw[q] at ho;exact ho.elim
   |some bs =>
    rw[q] at ho
    have ev:=Mz r q
    subst ev
    exact⟨l,bs,rfl,f.sq,fin _ _ S H .refl g (.bl _) ho⟩) hg hm boot_all ha (he:=he)
def okC(c:String):Bool:=c=="int" || c=="str" || c=="bool" || c=="tuple" || c=="list"
theorem La{K:PySem.W.Frag}{t:T}{n c:String}(h:tyT t=some n)(hc:okC c=true):PySem.W.kitOne K (.type n) (.type c)=some (isT n c):=by
 simp only[okC,Bool.or_eq_true,beq_iff_eq] at hc
 cases t <;> simp only[tyT,Option.some.injEq,reduceCtorEq] at h <;> subst h <;> rcases hc with(((rfl|rfl)|rfl)|rfl)|rfl <;> rfl
theorem Tq{K:PySem.W.Frag}{S:TH}{H:Hp}{v:V}{t:T}{n:String}(r:Rep K S H v t)(h:tyT t=some n):TyV K H v (.type n):=by
 cases t with
 |non=>cases r;cases h;exact .inl .non
 |bl b=>cases r;cases h;exact .inl (.bl b)
 |int i=>cases r;cases h;exact .inl (.int i)
 |str x=>cases r;cases h;exact .inl (.str x)
 |tup ts =>
  cases h
  obtain⟨a,vs,rfl,f,_⟩:=r.tupE
  rcases f with f|f
  ·exact .inl (.tup f.2)
  ·obtain⟨o,its,n,hk,hc,_⟩:=f
   exact .inr ⟨rfl,a,o,rfl,hk,hc⟩
 |lst ts =>
  cases h
  obtain⟨a,vs,rfl,f,_⟩:=r.lstE
  exact .inl (.lst f.2)
 |dct ts =>
  cases h
  obtain⟨a,vs,rfl,n,hH,_⟩:=r.dctE
  exact .inl (.dK hH)
 |_=>cases h
def Er(xs:List T)(S:TH)(P:UX):Prop:=match xs with
 |[x,.ty c]=>(match tyT x with|some n=>okC c=true/\P (.bl (isT n c)) S|none=>False)
 |[x,.tup [.ty c,.ty d]]=>(match tyT x with|some n=>okC c=true/\okC d=true/\P (.bl (isT n c || isT n d)) S|none=>False)
 |_=>False
theorem lIsi{K:PySem.W.Frag}:Gx K (rIsi K) Er:=fun S H vs xs P Q g r ho fin=>by
 match xs,r,ho with
 |[x,.ty c],r,ho =>
  obtain⟨v,w,rfl,r1,r2⟩:=r.two
  cases r2
  simp only[Er] at ho
  cases q:tyT x with
  |none=>rw[q] at ho;exact ho.elim
  |some n =>
   rw[q] at ho
   exact⟨v,_,_,Tq r1 q,.inl ⟨c,rfl,La q ho.1⟩,fin _ _ S H .refl g (.bl _) ho.2⟩
 |[x,.tup [.ty c,.ty d]],r,ho =>
  obtain⟨v,w,rfl,r1,r2⟩:=r.two
  obtain⟨p,us,rfl,f,r⟩:=r2.tupE
  obtain⟨u1,u2,rfl,r3,r4⟩:=r.two
  cases r3
  cases r4
  simp only[Er] at ho
  cases q:tyT x with
  |none=>rw[q] at ho;exact ho.elim
  |some n =>
   rw[q] at ho
   refine⟨v,_,_,Tq r1 q,.inr ⟨p,c,d,rfl,f.sq,?_⟩,fin _ _ S H .refl g (.bl _) ho.2.2⟩
   have k1:=La (K:=K) q ho.1
   have k2:=La (K:=K) q ho.2.1
   simp only[PySem.W.kitAny,k1,k2]
   cases isT n c <;> cases isT n d <;> rfl
 |[],_,ho=>exact ho.elim
 |[x],_,ho=>exact(by revert ho;simp[Er])
 |x::y::z::r,_,ho=>exact(by revert ho;simp[Er])
def Hq:T->T->TH->UX->Prop:=fun x y S P=>match y with
 | .non=>(match x with | .non=>P (.bl true) S|_=>P (.bl false) S)
 |_=>False
theorem lIsN{K:PySem.W.Frag}:LOp K (fun x y H Q=>y=.non/\Q (.bl (decide (x=.non))) H) Hq:=fun S H v w x y P Q g rx ry ho fin=>by
 cases y with
 |non =>
  cases ry
  refine⟨rfl,?_⟩
  cases x with
  |non=>cases rx;exact fin _ _ S H .refl g (.bl _) ho
  |_=>cases rx <;> exact fin _ _ S H .refl g (.bl _) ho
 |_=>exact ho.elim
def Cg:T->T->TH->UX->Prop:=fun x y S P=>match x,y with
 | .int i,.int j=>P (.int (i+j)) S
 | .str i,.str j=>i.length+j.length<=sizeLine/\P (.str (i++j)) S
 | .lst xs,.lst ys=>xs.length+ys.length<=sizeLine/\P (.lst (xs++ys)) S
 | .tup xs,.tup ys=>xs.length+ys.length<=sizeLine/\P (.tup (xs++ys)) S
 |_,_=>False
theorem Zp(ha:UE X a ta)(hb:UE X b tb):UE X (.BinOp a .Add b pos) (Aq Cg ta tb):=D5 (op_add.or (op_add_str.or (op_cat.or Yh))) (fun S H v w x y P Q g rx ry ho fin=>by
 cases x with
 |int i =>
  cases y with
  |int j=>cases rx;cases ry;exact .inl ⟨i,j,rfl,rfl,fin _ _ S H .refl g (.int _) ho⟩
  |_=>exact ho.elim
 |str i =>
  cases y with
  |str j=>cases rx;cases ry;exact .inr (.inl ⟨i,j,rfl,rfl,ho.1,fin _ _ S H .refl g (.str _) ho.2⟩)
  |_=>exact ho.elim
 |lst xs =>
  cases y with
  |lst ys =>
   obtain⟨a,vs,rfl,f,r⟩:=rx.lstE
   obtain⟨b,us,rfl,f',r'⟩:=ry.lstE
   exact .inr (.inr (.inl ⟨a,b,vs,us,rfl,rfl,f.2,f'.2,by rw[r.1,r'.1];exact ho.1,fun p hp=>B5 fin g hp (r.append r') ho.2⟩))
  |_=>exact ho.elim
 |tup xs =>
  cases y with
  |tup ys =>
   obtain⟨a,vs,rfl,f,r⟩:=rx.tupE
   obtain⟨b,us,rfl,f',r'⟩:=ry.tupE
   refine .inr (.inr (.inr ⟨a,b,vs,us,rfl,rfl,f.sq,f'.sq,by rw[r.1,r'.1];exact ho.1,fun e=>?_,fun _ e=>?_,fun _ _ p hp=>Dj fin g hp (r.append r') ho.2⟩))
   ·subst e
    have e0:xs=[]:=List.length_eq_zero_iff.mp (by rw[<-r.1];rfl)
    subst e0
    exact fin _ _ S H .refl g ry ho.2
   ·subst e
    have e0:ys=[]:=List.length_eq_zero_iff.mp (by rw[<-r'.1];rfl)
    subst e0
    have h2:=ho.2
    rw[List.append_nil] at h2
    exact fin _ _ S H .refl g rx h2
  |_=>exact ho.elim
 |_=>exact ho.elim) ha hb
def Ix(x:T)(lo hi:Option Int)(S:TH)(P:UX):Prop:=match x with
 | .lst ts=>P (.lst (cutA ts lo hi)) S
 | .tup ts=>¬ (HT.sIx ts.length 0 lo=0/\HT.sIx ts.length ts.length hi=ts.length)/\P (.tup (cutA ts lo hi)) S
 | .str z=>z.length<=sizeLine/\P (.str (Txt.slice z lo hi)) S
 | .ref p=>∃ts,S p=some (.lst ts)/\P (.lst (cutA ts lo hi)) S
 |_=>False
def Je(te:UTE)(tl th:UTO):UTE:=fun env S P=>te env S fun x S1=>tl env S1 fun l S2=>th env S2 fun u S3=>Ix x l u S3 P
theorem Aao{lo hi:Option Expr}{tl th:UTO}{p2:Pos}(he:UE X e te)(hl:UO X lo tl)(hh:UO X hi th):UE X (.Subscript e (.Slice lo hi none p2) pos) (Je te tl th) :=
 PE.imp (Lz (sl_list.or (sl_tup.or Abw)) he hl hh) fun σ H Q ⟨S,env,P,g,re,h,fin⟩=>Za ⟨g,re⟩ h fun v x S1 H1 le1 m1 rx h1 =>
  ⟨S1,env,_,m1.g,m1.re,h1,fun l S2 H2 le2 g2 h2=>⟨S2,env,_,g2,m1.re.mono le2,h2,fun u S3 H3 le3 g3 h3=>by
   have rx3:=rx.mono (le2.trans le3)
   have f3:=fin.le (le1.trans (le2.trans le3))
   cases x with
   |lst ts =>
    obtain⟨a,vs,rfl,f,r⟩:=rx3.lstE
    exact .inl ⟨a,vs,rfl,f.sq,fun p hp=>B5 f3 g3 hp (r.cut l u) h3⟩
   |tup ts =>
    obtain⟨a,vs,rfl,f,r⟩:=rx3.tupE
    refine .inr (.inl ⟨a,vs,rfl,f.sq,?_,fun p hp=>Dj f3 g3 hp (r.cut l u) h3.2⟩)
    rw[r.1]
    exact h3.1
   |str z=>cases rx3;exact .inr (.inr ⟨z,rfl,h3.1,f3 _ _ S3 H3 .refl g3 (.str _) h3.2⟩)
   |ref p =>
    cases rx3
    obtain⟨ts,e3,h3⟩:=h3
    obtain⟨vs,q,r⟩:=g3 p _ e3
    exact .inl ⟨p,vs,rfl,SqL.of q,fun b hb=>B5 f3 g3 hb (r.cut l u) h3⟩
   |_=>exact h3.elim⟩⟩
def Gk(neg:Bool):T->T->TH->UX->Prop:=fun x y S P=>match x,y with
 | .int i,.int j=>P (.bl (Bool.xor neg (decide (i=j)))) S
 | .str i,.str j=>P (.bl (Bool.xor neg (decide (i=j)))) S
 | .bl i,.bl j=>P (.bl (Bool.xor neg (decide (i=j)))) S
 | .lst xs,.lst []=>P (.bl (Bool.xor neg xs.isEmpty)) S
 |_,_=>False
theorem lEq2{K:PySem.W.Frag}{neg:Bool}{r:R2}(l:LOp K r (oEq neg)):LOp K (fun x y H Q=>r x y H Q\/rEqN K neg x y H Q) (Gk neg):=fun S H v w x y P Q g rx ry ho fin=>by
 cases x with
 |int i=>cases y with
  |int j=>exact .inl (l S H v w _ _ P Q g rx ry ho fin)
  |_=>exact ho.elim
 |str i=>cases y with
  |str j=>exact .inl (l S H v w _ _ P Q g rx ry ho fin)
  |_=>exact ho.elim
 |bl i=>cases y with
  |bl j=>exact .inl (l S H v w _ _ P Q g rx ry ho fin)
  |_=>exact ho.elim
 |lst xs =>
  cases y with
  |lst ys =>
   cases ys with
   |nil =>
    obtain⟨a,vs,rfl,f,r⟩:=rx.lstE
    obtain⟨b,us,rfl,f',r'⟩:=ry.lstE
    have e0:us=[]:=List.length_eq_zero_iff.mp (by rw[r'.1];rfl)
    subst e0
    refine .inr ⟨a,b,vs,rfl,rfl,f.sq,f'.sq,?_⟩
    have e1:vs.isEmpty=xs.isEmpty:=by
     have:=r.1
     cases vs <;> cases xs <;> simp at this ⊢
    rw[e1]
    exact fin _ _ S H .refl g (.bl _) ho
   |cons=>exact ho.elim
  |_=>exact ho.elim
 |_=>exact ho.elim
end
end TL
end
section
namespace TL
open PySem PySem.Spec PyProof.Rows L2
section
variable{X:Cx}{a b c e o:Expr}{es:List Expr}{ta tb tc te to:UTE}{tr:UTA}{pos apos cpos:Pos}
theorem Qb{K:PySem.W.Frag}{r r':R2}{q q':T->T->TH->UX->Prop}{σ:L2.St}{H:Hp}{Q:VK}(l:LOp K r q)(l':LOp K r' q')(h:lf K (Bm q q' ta tb tc) σ H Q):Oe r r' (lf K ta) (lf K tb) (lf K tc) σ H Q:=by
 obtain⟨S,env,P,g,re,h,fin⟩:=h
 refine Za ⟨g,re⟩ h fun v x S1 H1 le1 m1 rx h1=>Za m1 h1 fun w y S2 H2 le2 m2 ry h2=>?_
 refine l S2 H2 v w x y _ _ m2.g (rx.mono le2) ry h2 fun u z S3 H3 le3 g3 rz h3=>?_
 cases z with
 |bl k =>
  cases rz
  refine⟨k,rfl,?_⟩
  have m3:Mid K σ H3 S3 env:=⟨g3,m2.re.mono le3⟩
  cases k with
  |true =>
   rw[if_pos rfl]
   exact Za m3 (h3.1 rfl) fun w' z' S4 H4 le4 m4 rz' h4=>l' S4 H4 w w' y z' P Q m4.g (ry.mono (le3.trans le4)) rz' h4 (fin.le (le1.trans (le2.trans (le3.trans le4))))
  |false=>rw[if_neg Bool.false_ne_true];exact fin _ _ S3 H3 (le1.trans (le2.trans le3)) g3 (.bl _) (h3.2 rfl)
 |_=>exact h3.elim
theorem Ui{op op':CmpOp}{r r':R2}{q q':T->T->TH->UX->Prop}(ho:OpR X (compareOp op) r)(l:LOp X.K r q)(ho':OpR X (compareOp op') r')(l':LOp X.K r' q')(ha:UE X a ta)(hb:UE X b tb)(hc:UE X c tc)
  (hm:lastMarks [op,op'] [b,c]=false:=by with_unfolding_all rfl):UE X (.Compare a [op,op'] [b,c] pos) (Bm q q' ta tb tc):=PE.imp (U8 ho ho' ha hb hc hm) fun _ _ _ h=>Qb l l' h
theorem Tw{op op':CmpOp}{r r':R2}{q q':T->T->TH->UX->Prop}(ho:OpR X (compareOp op) r)(l:LOp X.K r q)(ho':OpR X (compareOp op') r')(l':LOp X.K r' q')(ha:UE X a ta)(hb:UE X b tb)(hc:UE X c tc)
  (hm:lastMarks [op,op'] [b,c]=false:=by with_unfolding_all rfl):UT X (.Compare a [op,op'] [b,c] pos) (A3 (Bm q q' ta tb tc)):=PT.imp (Wd ho ho' ha hb hc hm) fun _ _ _ h=>Qb l l' (Np h)
def Fs:T->T->TH->UX->Prop:=fun x y S P=>match x,y with
 | .int i,.int j=>P (.bl (decide (i<=j))) S
 | .str i,.str j=>P (.bl (!decide (j.cps.toList<i.cps.toList))) S
 |_,_=>False
theorem lLe2{K:PySem.W.Frag}:LOp K (fun x y H Q=>rI0 (fun i j=>.bl (decide (i<=j))) x y H Q\/∃i j,x=.str i/\y=.str j/\Q (.bl (!decide (j.cps.toList<i.cps.toList))) H) Fs:=fun S H v w x y P Q g rx ry ho fin=>by
 cases x with
 |int i=>cases y with
  |int j=>cases rx;cases ry;exact .inl ⟨i,j,rfl,rfl,fin _ _ S H .refl g (.bl _) ho⟩
  |_=>exact ho.elim
 |str i=>cases y with
  |str j=>cases rx;cases ry;exact .inr ⟨i,j,rfl,rfl,fin _ _ S H .refl g (.bl _) ho⟩
  |_=>exact ho.elim
 |_=>exact ho.elim
def D9(kts:List (Key×T))(te:UTE):UTE:=fun env S P=>te env S fun y S1=>match keyT y with
 |some k=>P ((valT kts k).getD .non) S1
 |none=>False
theorem Z8{x:Str}{d:Addr}{kvs:List (Key×V)}{kts:List (Key×T)}{p:Pos}(hg:Gl X x)(hm:X.mg x=some (.ref d))(kd:KD X.prog X.w X.K d kvs)(rk:∀S H,RepK X.K S H kvs kts)(he:UE X e te)(m:M1 X (.Name x p) "get" apos e cpos)
  (hd:(x==("__debug__":Str))=false:=by decide):UE X (.Call (.Attribute (.Name x p) "get" apos) [e] [] cpos) (D9 kts te):=PE.imp (Wy hg hm kd he m hd) fun σ H Q ⟨S,env,P,g,re,h,fin⟩ =>
 Za ⟨g,re⟩ h fun v y S1 H1 le1 m1 ry h1=>by
  cases q:keyT y with
  |none=>rw[q] at h1;exact h1.elim
  |some k =>
   rw[q] at h1
   dsimp only at h1
   refine⟨k,Ky ry q,?_⟩
   have rv:=(rk S1 H1).val (k:=k)
   cases q2:valT kts k with
   |none =>
    rw[q2] at h1
    rw[rv.2 q2]
    exact fin _ _ S1 H1 le1 m1.g .non h1
   |some t =>
    rw[q2] at h1
    obtain⟨u,eu,ru⟩:=rv.1 t q2
    rw[eu]
    exact fin _ _ S1 H1 le1 m1.g ru h1
def Xj(to:UTE)(tr:UTA):UTE:=fun env S P=>to env S fun x S1=>match x with
 | .ref p=>(∃ts0,S1 p=some (.lst ts0))/\tr env S1 fun ys S2=>match ys with
  |[y]=>∃ts,S2 p=some (.lst ts)/\ts.length<sizeLine/\P .non (Ad S2 p (.lst (ts++[y])))
  |_=>False
 |_=>False
theorem A5(ho:UE X o to)(ha:UA X [e] tr)(hbase:attributeBase o "append" X.env (eval o X.env)=eval o X.env:=by rfl)
  (hfew:((backTo cpos (starEach [e] X.env)).all (fun x=>!x.1)&&(backToKw cpos (keywordEach [] X.env)).all (fun x=>x.1.isSome)&&decide (([e]:List Expr).length+([]:List Keyword).length+(if ([]:List Keyword).isEmpty then 0 else 1)<30))=true:=by rfl)
  (hline:(apos.endLine==cpos.line)=true:=by rfl) (hs:starEach [e] X.env=(false,eval e X.env)::starEach [] X.env:=by rfl) (hplain:(backTo cpos (starEach [] X.env)).any (·.1)=false:=by rfl) :
  UE X (.Call (.Attribute o "append" apos) [e] [] cpos) (Xj to tr) :=
 PE.imp (Ki PySem.F.plainAttrs_list PySem.F.slot_list_append PySem.F.type_list_append Ro ho ha hbase hfew hline hs hplain) fun σ H Q ⟨S,env,P,g,re,h,fin⟩ =>
  Za ⟨g,re⟩ h fun v x S1 H1 le1 m1 rx h1=>by
   cases x with
   |ref p =>
    cases rx
    obtain⟨⟨ts0,e0⟩,h1⟩:=h1
    obtain⟨vs0,q0,_⟩:=m1.g p _ e0
    refine⟨.inl ⟨rfl,_,SqL.of q0⟩,Af m1 h1 fun vs rs S2 H2 le2 m2 rr h2=>?_⟩
    match rs,rr,h2 with
    |[y],rr,h2 =>
     obtain⟨w,rfl,rw'⟩:=rr.one
     obtain⟨ts,e2,hl,hp⟩:=h2
     obtain⟨us,q2,r2⟩:=m2.g p _ e2
     refine⟨p,us,w,rfl,rfl,q2,by rw[r2.1];exact hl,?_⟩
     exact fin _ _ _ _ (le1.trans (le2.trans (Le.write e2))) (m2.g.writeL e2 (r2.append (.cons rw' .nil))) .non hp
   |_=>exact h1.elim
def Iz(to:UTE):UTE:=fun env S P=>to env S fun x S1=>match x with
 | .ref p=>∃ts,S1 p=some (.lst ts)/\P (.lst ts) (Dv S1 p)
 |_=>False
theorem Dl(ho:UE X o to):UE X o (Iz to):=PE.imp ho fun σ H Q ⟨S,env,P,g,re,h,fin⟩=>Za ⟨g,re⟩ h fun v x S1 H1 le1 m1 rx h1=>by
 cases x with
 |ref p =>
  cases rx
  obtain⟨ts,e,hp⟩:=h1
  obtain⟨us,q,r⟩:=m1.g p _ e
  exact fin _ _ (Dv S1 p) H1 (le1.trans Le.del) m1.g.del (.lstI ⟨Eb,q⟩ (r.mono Le.del)) hp
 |_=>exact h1.elim
def Hm(xs:List T)(S:TH)(P:UX):Prop:=match xs with
 |[.int i]=>i.natAbs.log2<1920/\P (.str (toString i)) S
 |_=>False
theorem lStr{K:PySem.W.Frag}:Gx K (fun xs H Q=>∃i,xs=[.int i]/\i.natAbs.log2<1920/\Q (.str (toString i)) H) Hm:=fun S H vs xs P Q g r ho fin=>by
 match xs,r,ho with
 |[.int i],r,ho =>
  obtain⟨v,rfl,rx⟩:=r.one
  cases rx
  exact⟨i,rfl,ho.1,fin _ _ S H .refl g (.str _) ho.2⟩
theorem Aai(hu:X.A.units<cLine)(ha:UE X a ta)(hb:UE X b tb):UE X (.Compare a [.Eq] [b] pos) (Aq (Gk false) ta tb):=Nz (op_eq.or (Ut hu)) (lEq2 lEq) ha hb (Dc _)
theorem Xf(hu:X.A.units<cLine)(ha:UE X a ta)(hb:UE X b tb):UT X (.Compare a [.Eq] [b] pos) (A3 (Aq (Gk false) ta tb)):=Di (op_eq.or (Ut hu)) (lEq2 lEq) ha hb (Dc _)
theorem Kh(hu:X.A.units<cLine)(ha:UE X a ta)(hb:UE X b tb):UT X (.Compare a [.NotEq] [b] pos) (A3 (Aq (Gk true) ta tb)):=Di (op_ne.or (Aea hu)) (lEq2 lNe) ha hb (Dc _)
theorem Hg(ha:UE X a ta)(hb:UE X b tb):UT X (.Compare a [.Lt] [b] pos) (A3 (Aq oLt ta tb)):=Di op_lt lLt ha hb (Dc _)
theorem Cz(ha:UE X a ta)(hb:UE X b tb):UT X (.Compare a [.Gt] [b] pos) (A3 (Aq oGt ta tb)):=Di Aaa lGt ha hb (Dc _)
theorem ue_gt(ha:UE X a ta)(hb:UE X b tb):UE X (.Compare a [.Gt] [b] pos) (Aq oGt ta tb):=Nz Aaa lGt ha hb (Dc _)
theorem K7(ha:UE X a ta)(hb:UE X b tb):UT X (.Compare a [.Is] [b] pos) (A3 (Aq Hq ta tb)):=Di Ack lIsN ha hb (Dc _)
theorem ue_in(ha:UE X a ta)(hb:UE X b tb)(hm:behindInMarks .In b=false:=by with_unfolding_all rfl):UE X (.Compare a [.In] [b] pos) (Aq (oIn false) ta tb):=Nz J4 lIn ha hb hm
theorem Kk(ha:UE X a ta)(hb:UE X b tb)(hm:behindInMarks .In b=false:=by with_unfolding_all rfl):UT X (.Compare a [.In] [b] pos) (A3 (Aq (oIn false) ta tb)):=Di J4 lIn ha hb hm
theorem U2(ha:UE X a ta)(hb:UE X b tb)(hm:behindInMarks .NotIn b=false:=by with_unfolding_all rfl):UT X (.Compare a [.NotIn] [b] pos) (A3 (Aq (oIn true) ta tb)):=Di K1 lIn ha hb hm
theorem Dm(ha:UE X a ta)(hb:UE X b tb)(hc:UE X c tc)(hm:lastMarks [.LtE,.LtE] [b,c]=false:=by with_unfolding_all rfl):UE X (.Compare a [.LtE,.LtE] [b,c] pos) (Bm Fs Fs ta tb tc):=Ui (op_le.or Ed) lLe2 (op_le.or Ed) lLe2 ha hb hc hm
theorem Ij(ha:UE X a ta)(hb:UE X b tb)(hc:UE X c tc)(hm:lastMarks [.LtE,.LtE] [b,c]=false:=by with_unfolding_all rfl):UT X (.Compare a [.LtE,.LtE] [b,c] pos) (A3 (Bm Fs Fs ta tb tc)):=Tw (op_le.or Ed) lLe2 (op_le.or Ed) lLe2 ha hb hc hm
variable{p:Pos}
theorem Ey(hg:Gl X "isinstance")(hm:X.mg "isinstance"=none)(ha:UA X [a,b] tr)(he:starEach [a,b] X.env=(false,eval a X.env)::starEach [b] X.env:=by rfl)(hpl:(backTo pos (starEach [b] X.env)).any (·.1)=false:=by rfl):
  UE X (.Call (.Name "isinstance" p) [a,b] [] pos) (A9 Er tr):=Hu Qr lIsi hg hm boot_isinstance ha (he:=he) (hpl:=hpl)
theorem Ql(hg:Gl X "list")(hm:X.mg "list"=none)(ha:UA X [a] tr)(he:starEach [a] X.env=(false,eval a X.env)::starEach [] X.env:=by rfl):UE X (.Call (.Name "list" p) [a] [] pos) (A9 Dt tr):=Da Ln lList hg hm boot_list ha (he:=he)
theorem G8(hg:Gl X "str")(hm:X.mg "str"=none)(ha:UA X [a] tr)(he:starEach [a] X.env=(false,eval a X.env)::starEach [] X.env:=by rfl):UE X (.Call (.Name "str" p) [a] [] pos) (A9 Hm tr):=Da Fe lStr hg hm boot_str ha (he:=he)
end
end TL
end
section
namespace TL
open PySem PySem.Spec PyProof.Rows L2
def Has(P:Program)(w:World)(K:PySem.W.Frag)(mg:Str->Option Value)(base:Heap)(k:Nat)(x:Str)(ps:List Str)(t:List T->TH->UX->Prop):Prop :=
 ∃f fd,FnOk P w K mg base CX0 k f fd ps (spU K t)/\Binds K fd ps []/\PySem.W.keepIn K (.ref f)=true/\mg x=some (.ref f)
def Aa(K:PySem.W.Frag)(mg:Str->Option Value)(x:Str)(ps:List Str)(st:Stmt):Prop:=∃f fd,Fun K x x st f fd/\Binds K fd ps []/\mg x=some (.ref f)
theorem Has.mono{P:Program}{w:World}{K:PySem.W.Frag}{mg:Str->Option Value}{base:Heap}{j k:Nat}{x:Str}{ps:List Str}{t:List T->TH->UX->Prop}(h:Has P w K mg base j x ps t)(hk:j<=k):Has P w K mg base k x ps t:=by
 obtain⟨f,fd,h1,h2⟩:=h
 exact⟨f,fd,h1.mono hk,h2⟩
theorem Ab{P:Program}{w:World}{K:PySem.W.Frag}{mg:Str->Option Value}{base:Heap}{k:Nat}{x:Str}{N ps:List Str}{st:Stmt}{t:List T->TH->UX->Prop}(d:Aa K mg x ps st)(Sc:Zv N ps (Zb st))(hl:∀ts S Pp,t ts S Pp->ts.length=ps.length)
  (hb:∀(cdv:Value) (f:Addr) (A:Around) (outer:List Env) (s:Shared) (H:Hp) (E:XK),Room k (A.deeper (envOfC x (Zb st) s.heap.objs.size f cdv)) →
   ∃tb,USs (cxOf CX0 P w K mg base N x (Zb st) f cdv A outer s H E).nox (defBody st) tb/\∀ts S Pp,t ts S Pp->tb { nx:=fun _ S'=>Pp .non S',rt:=Pp } (Xm N ts) S):Has P w K mg base (k+1) x ps t:=by
 obtain⟨f,fd,F,b,hm⟩:=d
 exact⟨f,fd,Pv F Sc hl fun cdv A outer s H E hr=>hb cdv f A outer s H E hr,b,F.kp,hm⟩
theorem Fv{P:Program}{w:World}{K:PySem.W.Frag}{mg:Str->Option Value}{base:Heap}{k:Nat}{x:Str}{ps:List Str}{st:Stmt}{t:List T->TH->UX->Prop}(d:Aa K mg x ps st)(h:∀ts S Pp,¬ t ts S Pp):Has P w K mg base k x ps t:=by
 obtain⟨f,fd,F,b,hm⟩:=d
 exact⟨f,fd,Acv h,b,F.kp,hm⟩
def KDt(P:Program)(w:World)(K:PySem.W.Frag)(mg:Str->Option Value)(x:Str)(kts:List (Key×T)):Prop:=∃d kvs,mg x=some (.ref d)/\KD P w K d kvs/\∀S H,RepK K S H kvs kts
section
variable{X:Cx}{e:Expr}{es:List Expr}{te:UTE}{tr:UTA}{pos p apos cpos:Pos}{x:Str}
theorem Zf{k:Nat}{ps:List Str}{t:List T->TH->UX->Prop}(h:Has X.prog X.w X.K X.mg X.base k x ps t)(hr:Room k X.A)(hg:Gl X x)(ha:UA X (e::es) tr)(hdb:(x==("__debug__":Str))=false:=by decide)(he:starEach (e::es) X.env=(false,eval e X.env)::starEach es X.env:=by rfl)
  (hpl:(backTo pos (starEach es X.env)).any (·.1)=false:=by rfl):UE X (.Call (.Name x p) (e::es) [] pos) (A9 t tr):=by
 obtain⟨f,fd,F,b,kp,hm⟩:=h
 exact Yv F hr hg hm kp b ha hdb he hpl
theorem Fa{kts:List (Key×T)}(hg:Gl X x)(h:KDt X.prog X.w X.K X.mg x kts)(he:UE X e te)(m:M1 X (.Name x p) "get" apos e cpos)(hd:(x==("__debug__":Str))=false:=by decide):UE X (.Call (.Attribute (.Name x p) "get" apos) [e] [] cpos) (D9 kts te):=by
 obtain⟨d,kvs,hm,kd,rk⟩:=h
 exact Z8 hg hm kd rk he m hd
end
theorem An{A:Around}{k:Nat}(hr:Room k A):A.units<cLine:=hr.units0
inductive Pl:T->Prop where
 |non:Pl .non
 |bl (b:Bool):Pl (.bl b)
 |int (i:Int):Pl (.int i)
 |str {x:Str}:x.length<=sizeLine->Pl (.str x)
 |tup {ts:List T}:(∀t∈ts,Pl t)->Pl (.tup ts)
 |lst {ts:List T}:(∀t∈ts,Pl t)->Pl (.lst ts)
end TL
end
section
namespace TL
open PySem PySem.Spec PyProof.Rows L2
theorem R6{ts:List T}{S:TH}{gg:UTG}{tc:UTT}{te:UTE}{ev:Ev}{P:UX}(f:T->Option T)(hl:ts.length<=sizeLine)
  (turn:∀x∈ts,∀(A:UX) (B:TH->Prop),(∀r,f x=some r->A r S)->(f x=none->B S)->gg x ev S fun env' S'=>tc env' S' fun b S2=>(b=true->te env' S2 A)/\(b=false->B S2))
  (h:P (.lst (ts.filterMap f)) S):ts.length<=sizeLine/\∃Iv:Nat->List T->TH->Prop,Iv 0 [] S ∧
   (∀k x acc S,ts[k]?=some x->Iv k acc S->gg x ev S fun env' S'=>tc env' S' fun b S2=>(b=true->te env' S2 fun r S3=>Iv (k+1) (acc++[r]) S3)/\(b=false->Iv (k+1) acc S2)) ∧
   ∀acc S,Iv ts.length acc S->P (.lst acc) S:=by
 refine⟨hl,fun k acc S'=>acc=(ts.take k).filterMap f/\S'=S,⟨by simp,rfl⟩,fun k x acc S' e iv=>?_,fun acc S' iv=>?_⟩
 ·obtain⟨rfl,rfl⟩:=iv
  have hk:k<ts.length:=(List.getElem?_eq_some_iff.mp e).1
  have et:ts.take (k+1)=ts.take k++[x]:=by rw[List.take_add_one,e];rfl
  refine turn x (List.mem_of_getElem? e) _ _ (fun r er=>⟨?_,rfl⟩) (fun en=>⟨?_,rfl⟩)
  ·rw[et,List.filterMap_append];simp[er]
  ·rw[et,List.filterMap_append];simp[en]
 ·obtain⟨rfl,rfl⟩:=iv
  rw[List.take_length]
  exact h
theorem Bs{pick:List (Option Nat)}{ti:UTA}{env:Ev}{ts:List T}{S:TH}{gg:UTG}{tc:UTT}{te:UTE}{P:UX}(f:T->Option T)(hti:∀k:List T->TH->Prop,k ts S->ti env S k)(hl:ts.length<=sizeLine)
  (turn:∀x∈ts,∀(A:UX) (B:TH->Prop),(∀r,f x=some r->A r S)->(f x=none->B S)->gg x (G2 pick env) S fun env' S'=>tc env' S' fun b S2=>(b=true->te env' S2 A)/\(b=false->B S2))
  (h:P (.lst (ts.filterMap f)) S):Ag pick ti gg tc te env S P:=hti _ (R6 f hl turn h)
theorem C2(zs:List Str):strsT (zs.map T.str)=some zs:=by
 induction zs with
 |nil=>rfl
 |cons z r ih=>simp only[List.map_cons,strsT,ih,Option.map_some]
theorem Em(z:Str):(Ba z).length=z.length:=by simp[Ba,Str.length]
end TL
end
section
namespace TL
open PySem PySem.Spec PyProof.Rows L2
inductive Cs:List Expr->List T->Prop where
 |nil:Cs [] []
 |s {x:Str} {j:Nat} {p:Pos} {es:List Expr} {ts:List T}:Cs es ts->Cs (.Constant (.str x) j p::es) (.str x::ts)
 |i {x:Int} {j:Nat} {p:Pos} {es:List Expr} {ts:List T}:Cs es ts->Cs (.Constant (.int x) j p::es) (.int x::ts)
 |b {x:Bool} {j:Nat} {p:Pos} {es:List Expr} {ts:List T}:Cs es ts->Cs (.Constant (.bool x) j p::es) (.bl x::ts)
 |n {j:Nat} {p:Pos} {es:List Expr} {ts:List T}:Cs es ts->Cs (.Constant .none j p::es) (.non::ts)
def Xk(ts:List T):UTA:=fun _ S P=>P ts S
theorem Ar{X:Cx}{es:List Expr}{ts:List T}(h:Cs es ts):UA X es (Xk ts):=by
 induction h with
 |nil=>exact Zn
 |s _ ih=>exact Zc Zq ih rfl
 |i _ ih=>exact Zc Zi ih rfl
 |b _ ih=>exact Zc Cj ih rfl
 |n _ ih=>exact Zc F1 ih rfl
end TL
end
section
namespace TL
open PySem PySem.Spec PyProof.Rows L2
theorem Yu{t u:UTT}{b1 b2:Bool}{env:Ev}{S:TH}{P:Bool->TH->Prop}(ht:∀P:Bool->TH->Prop,P b1 S->t env S P)(hu:∀P:Bool->TH->Prop,P b2 S->u env S P)(h:P (b1 || b2) S):uOr t u env S P :=
 ht _ ⟨fun e=>by rw[e,Bool.true_or] at h;exact h,fun e=>hu _ (by rw[e,Bool.false_or] at h;exact h)⟩
theorem D8{t u:UTT}{b1 b2:Bool}{env:Ev}{S:TH}{P:Bool->TH->Prop}(ht:∀P:Bool->TH->Prop,P b1 S->t env S P)(hu:b1=true->∀P:Bool->TH->Prop,P b2 S->u env S P)(h:P (b1&&b2) S):Cc t u env S P :=
 ht _ ⟨fun e=>hu e _ (by rw[e,Bool.true_and] at h;exact h),fun e=>by rw[e,Bool.false_and] at h;exact h⟩
theorem X3{t u:UTT}{b1:Bool}{env:Ev}{S:TH}{P:Bool->TH->Prop}{R:TH->Prop}(ht:∀P:Bool->TH->Prop,P b1 S->t env S P)(h0:R S)
  (hu:b1=true->∀P:Bool->TH->Prop,(∀b S',R S'->P b S')->u env S P) (h:∀b S',R S'->(b=true->b1=true)->P b S'):Cc t u env S P :=
 ht _ ⟨fun e=>hu e _ fun b S' r=>h b S' r fun _=>e,fun e=>h false S h0 fun z=>by cases z⟩
theorem Adz{α:Type}{xs:List α}{i:Int}(h0:0<=i)(h1:i<xs.length):∃x∈xs,atI xs i=some x:=by
 have hl:i.toNat<xs.length:=by omega
 refine⟨xs[i.toNat],List.getElem_mem hl,?_⟩
 have q:atI xs ((i.toNat:Nat):Int)=some xs[i.toNat]:=Xb (List.getElem?_eq_getElem hl)
 rw[Int.toNat_of_nonneg h0] at q
 exact q
end TL
end
section
namespace TL
open PySem PySem.Spec PyProof.Rows L2
def toV:Value->V
 | .bool b=>.bl b
 | .int i _=>.int i
 | .str x _=>.str x
 | .ref a=>.ref a
 |_=>.non
inductive KR(K:PySem.W.Frag):Value->T->Prop where
 |non:KR K .none .non
 |bl (b:Bool):KR K (.bool b) (.bl b)
 |int (i:Int) (t:Tok):KR K (.int i t) (.int i)
 |str (x:Str) (t:Tok):KR K (.str x t) (.str x)
 |tup {a:Addr} {o:Obj} {its:Array Value} {n:Nat} {ts:List T}:K.lookup a=some o->o.cls=.type "tuple"->o.data=.seq its n->o.dict=none->its.size<=sizeLine->its.toList.length=ts.length →
   (∀(i:Nat) u t,its.toList[i]?=some u->ts[i]?=some t->KR K u t)->KR K (.ref a) (.tup ts)
section
variable{K:PySem.W.Frag}
def KRs(K:PySem.W.Frag)(us:List Value)(ts:List T):Prop:=us.length=ts.length/\∀(i:Nat) u t,us[i]?=some u->ts[i]?=some t->KR K u t
theorem KRs.nil:KRs K [] []:=⟨rfl,fun _ _ _ e=>by simp at e⟩
theorem KRs.cons{u:Value}{t:T}{us:List Value}{ts:List T}(h:KR K u t)(r:KRs K us ts):KRs K (u::us) (t::ts):=by
 refine⟨by simp only[List.length_cons,r.1],fun i u' t' e1 e2=>?_⟩
 cases i with
 |zero=>simp at e1 e2;subst e1;subst e2;exact h
 |succ i=>exact r.2 i u' t' (by simpa using e1) (by simpa using e2)
theorem KR.tupI{a:Addr}{its:List Value}{n:Nat}{sl:Array (Option Value)}{ts:List T}(l:K.lookup a=some ⟨.type "tuple",none,.seq its.toArray n,sl⟩)(hz:its.length<=1000)(r:KRs K its ts):KR K (.ref a) (.tup ts) :=
 .tup l rfl rfl rfl (by simpa using Nat.le_of_lt (Xo hz)) (by simpa using r.1) fun i u t e1 e2=>r.2 i u t (by simpa using e1) e2
theorem KR.rel{u:Value}{t:T}(h:KR K u t):RelV (toV u) u/\∀S H,Rep K S H (toV u) t:=by
 induction h with
 |non=>exact⟨rfl,fun _ _=>.non⟩
 |bl b=>exact⟨rfl,fun _ _=>.bl b⟩
 |int i t=>exact⟨⟨t,rfl⟩,fun _ _=>.int i⟩
 |str x t=>exact⟨⟨t,rfl⟩,fun _ _=>.str x⟩
 | @tup a o its n ts lk hc hd hn hz hl _ ih =>
  refine⟨rfl,fun S H=>?_⟩
  have hv:Vals (its.toList.map toV) its.toList:=by
   have:∀(us:List Value),(∀u∈us,RelV (toV u) u)->Vals (us.map toV) us:=by
    intro us
    induction us with
    |nil=>exact fun _=>.nil
    |cons u us ihu=>exact fun q=>.cons (q u List.mem_cons_self) (ihu fun z hz=>q z (List.mem_cons_of_mem _ hz))
   refine this _ fun u hu=>?_
   obtain⟨i,hi,rfl⟩:=List.mem_iff_getElem.mp hu
   exact(ih i its.toList[i] (ts[i]'(by omega)) (List.getElem?_eq_getElem hi) (List.getElem?_eq_getElem (by omega))).1
  refine .tup (.inr ⟨o,its,n,lk,hc,hd,hz,hv,hn⟩) (by rw[List.length_map];exact hl) fun i v t e1 e2=>?_
  rw[List.getElem?_map] at e1
  cases hu:its.toList[i]? with
  |none=>rw[hu] at e1;cases e1
  |some u =>
   rw[hu] at e1
   cases e1
   exact(ih i u t hu e2).2 S H
inductive Ents(w:World)(K:PySem.W.Frag):List DictEntry->List (Key×T)->Prop where
 |nil:Ents w K [] []
 |cons {x:Str} {tk:Tok} {u:Value} {t:T} {es:List DictEntry} {kts:List (Key×T)}:KR K u t->Ents w K es kts->Ents w K (⟨PyData.keyHash w.params x,.str x tk,u⟩::es) ((.inr x,t)::kts)
theorem Ents.out{P:Program}{w:World}{es:List DictEntry}{kts:List (Key×T)}(h:Ents w K es kts):∃(kvs:List (Key×V)) (vs:List (Key×Value)),KV kvs vs/\(∀S H,RepK K S H kvs kts)/\(∀e∈es,∃k,(mixKind P w).is k e.key=true/\e.hash=(mixKind P w).hash k)/\Pairs (mixKind P w) es vs/\vs.map (·.1)=kts.map (·.1):=by
 induction h with
 |nil=>exact⟨[],[],.nil,fun _ _=>⟨rfl,fun _ _ _ e=>by simp at e⟩,(fun _ h=>by cases h),.nil,rfl⟩
 | @cons x tk u t es kts kr _ ih =>
  obtain⟨kvs,vs,h1,h2,h3,h4,h5⟩:=ih
  obtain⟨r1,r2⟩:=kr.rel
  refine⟨(.inr x,toV u)::kvs,(.inr x,u)::vs,.cons ⟨rfl,r1⟩ h1,fun S H=>?_,fun e he=>?_,.cons (Ct P w x tk) rfl h4,by simp only[List.map_cons,h5]⟩
  ·refine⟨by simp only[List.length_cons,(h2 S H).1],fun i v t e1 e2=>?_⟩
   cases i with
   |zero=>simp at e1 e2;subst e1;subst e2;exact⟨rfl,r2 S H⟩
   |succ i=>exact(h2 S H).2 i v t (by simpa using e1) (by simpa using e2)
  ·rcases List.mem_cons.mp he with rfl|q
   ·exact⟨.inr x,Ct P w x tk,rfl⟩
   ·exact h3 e q
theorem Vs{P:Program}{w:World}{h:Heap}{mg:Str->Option Value}{x:Str}{d:Addr}{es:List DictEntry}{ep:Nat}{kts:List (Key×T)}(X:K.In h)(G:h.Ns mainGlobals mg)(a:PySem.W.nsIn K mainGlobals x=some (some (.ref d)))
  (l:K.lookup d=some ⟨.type "dict",none,.dict es.toArray ep,#[]⟩) (hs:(d==sysModules)=false) (en:Ents w K es kts) (nd:(kts.map (·.1)).Nodup):KDt P w K mg x kts:=by
 obtain⟨kvs,vs,h1,h2,h3,h4,h5⟩:=en.out (P:=P)
 refine⟨d,kvs,PySem.W.mg_of X G a,⟨hs,vs,h1,fun h' k'=>⟨_,_,_,k' d _ l,⟨rfl,rfl,rfl⟩,rfl,fun e he=>h3 e (by simpa using he),by simpa using h4,by rw[h5];exact nd⟩⟩,h2⟩
theorem Zk{h:Heap}{mg:Str->Option Value}{x:Str}{ps:List Str}{st:Stmt}{f:Addr}{oc:Value}{od an:Option Addr}{osl:Array (Option Value)}{kV doc pm cdv ct:Value}(X:K.In h)(G:h.Ns mainGlobals mg)(a:PySem.W.nsIn K mainGlobals x=some (some (.ref f)))
  (l:K.lookup f=some ⟨oc,od,.func (PySem.W.fnOf x x (Bw st) (defBody st) (Zb st) .none kV doc pm an cdv ct),osl⟩) (c:PySem.W.codeIn K cdv x=true) (k:PySem.W.keepIn K (.ref f)=true)
  (b:∀(kV doc pm:Value) (an:Option Addr) (cdv ct:Value) (us:List Value),us.length=ps.length->bindArgs (PySem.W.fnOf x x (Bw st) (defBody st) (Zb st) .none kV doc pm an cdv ct) ⟨us,[]⟩=pure (ps.zip us)):Aa K mg x ps st :=
 ⟨f,_,Ge l c k,(Ge l c k).binds b,PySem.W.mg_of X G a⟩
theorem Bi{h:Heap}{mg:Str->Option Value}{x:Str}{i:Int}{t:Tok}(X:K.In h)(G:h.Ns mainGlobals mg)(a:PySem.W.nsIn K mainGlobals x=some (some (.int i t))):∃t,mg x=some (.int i t):=⟨t,PySem.W.mg_of X G a⟩
theorem Q2{H:Hp}{a:Addr}{ns:List Int}{t:List T->TH->UX->Prop}(hO:T1 H)(hS:SqL K H a (ns.map V.int))(h:t [.fls (ns.map T.int)] (fun _=>none) fun r _=>r=.bl true):spU K t [.ref a] H (fun v _=>v=.bl true) fun _ _ _=>False:=by
 refine⟨fun _=>none,_,_,(fun _ _ e=>by cases e),.cons (.fls (a:=a) (vs:=ns.map V.int) ?_ (by simp) fun i v t e1 e2=>?_) .nil,h,fun v r S' H' _ _ rp q=>?_⟩
 ·rcases hS with(q|⟨o,q⟩)|q
  ·rcases hO a with z|⟨o,xs,z⟩
   ·rw[z] at q;cases q
   ·rw[z] at q;cases q
  ·exact .inl ⟨rfl,o,q⟩
  ·exact .inr q
 ·rw[List.getElem?_map] at e1 e2
  cases hn:ns[i]? with
  |none=>rw[hn] at e1;cases e1
  |some n=>rw[hn] at e1 e2;cases e1;cases e2;exact .int n
 ·have q:r=.bl true:=q
  subst q
  cases rp
  rfl
end
end TL
end
section
namespace TL
open PySem PySem.Spec PyProof.Rows L2
section
variable{X:Cx}{pos:Pos}
def Vi(xs:List T)(S:TH)(P:UX):Prop:=match xs with
 |[.lst ts]=>P (.tup ts) S
 |[.tup ts]=>P (.tup ts) S
 |[.ref p]=>∃ts,S p=some (.lst ts)/\P (.tup ts) S
 |_=>False
theorem Acp{K:PySem.W.Frag}:Gx K (fun xs H Q=>∃p ys,xs=[.ref p]/\((SqL K H p ys/\∀l,H l=none->Q (.ref l) (upd H l (.tup ys)))\/(SqT K H p ys/\Q (.ref p) H))) Vi:=fun S H vs xs P Q g r ho fin=>by
 match xs,r,ho with
 |[.lst ts],r,ho =>
  obtain⟨v,rfl⟩:∃v,vs=[v]:=List.length_eq_one_iff.mp r.1
  obtain⟨a,ws,rfl,f,r'⟩:=r.head.lstE
  exact⟨a,ws,rfl,.inl ⟨f.sq,fun l hl=>Dj fin g hl r' ho⟩⟩
 |[.tup ts],r,ho =>
  obtain⟨v,rfl⟩:∃v,vs=[v]:=List.length_eq_one_iff.mp r.1
  obtain⟨a,ws,rfl,f,r'⟩:=r.head.tupE
  exact⟨a,ws,rfl,.inr ⟨f.sq,fin _ _ S H .refl g (.tupI f r') ho⟩⟩
 |[.ref p],r,ho =>
  obtain⟨v,rfl⟩:∃v,vs=[v]:=List.length_eq_one_iff.mp r.1
  have rp:=r.head
  cases rp
  obtain⟨ts,e,ho⟩:=ho
  obtain⟨ws,q,r'⟩:=g p _ e
  exact⟨p,ws,rfl,.inl ⟨SqL.of q,fun l hl=>Dj fin g hl r' ho⟩⟩
section
variable{a b:Expr}{tr:UTA}{p:Pos}
theorem A6(hg:Gl X "tuple")(hm:X.mg "tuple"=none)(ha:UA X [a] tr)(he:starEach [a] X.env=(false,eval a X.env)::starEach [] X.env:=by rfl):UE X (.Call (.Name "tuple" p) [a] [] pos) (A9 Vi tr):=Da Jg Acp hg hm boot_tuple ha (he:=he)
end
end
end TL
end
section
namespace L2
open PySem PySem.Spec PyProof.Rows
end L2
end
section
namespace TL
open PySem PySem.Spec PyProof.Rows L2
end TL
end
section
namespace PySem
open Sem (wp)
end PySem
end
section
namespace PySem
end PySem
namespace L2
open PySem PySem.Spec PyProof.Rows
end L2
end
section
namespace PySem
end PySem
end
section
namespace L2
open PySem PySem.Spec PyProof.Rows
section
variable{X:Cx}{pins:List (Addr×Obj)}{σ:St}{H:Hp}{s:Shared}
theorem Ps{xs:List V}{us:List Value}(r:Vals xs us){i:Nat}{u:Value}(e:us[i]?=some u):∃x,xs[i]?=some x/\RelV x u:=by
 have hi:=(List.getElem?_eq_some_iff.mp e).1
 have hl:=r.length
 have ex:xs[i]?=some (xs[i]'(by omega)):=List.getElem?_eq_getElem (by omega)
 obtain⟨u',h1,h2⟩:=r.get ex
 rw[e] at h1
 cases h1
 exact⟨_,ex,h2⟩
end
end L2
end
section
namespace L2
open PySem PySem.Spec PyProof.Rows
end L2
namespace TL
open PySem PySem.Spec PyProof.Rows L2
end TL
end
section
namespace TL
open PySem PySem.Spec PyProof.Rows L2
section
variable{X:Cx}{elt iter:Expr}{ti:UTA}{tc:UTT}{te:UTE}{pos spos:Pos}{scope:Scope}{ifs:List Expr}{z:Str}{pz:Pos}
theorem Cp(k:Nat)(hNd:X.N.Nodup)(i:Nat)(N:List Str)(pick:List (Option Nat)){x:Str}{px:Pos}(hc:X.calm=true)(hi:UI X (.Name x px) iter ti)(ht:∀C s H fp pins,PTs (Xl X N scope C s H fp pins) ifs (lfT X.K tc))(he:∀C s H fp pins,UE (Xl X N scope C s H fp pins) elt te)
  (hs:scopeOk X.env.scope.names scope.names=true:=by rfl) (hp:Dx X.N scope.names N pick=true:=by rfl) (hk:scope.kind=.function:=by rfl) (hN:N.Nodup:=by decide +kernel)
  (hiN:N[i]?=some x:=by rfl) (hpi:pick[i]?=some none:=by rfl) (hloc:scope.names.lookup x=some .local:=by rfl) (hfs:∀x,foldedSetIterable iter X.env x=pure x:=by intro _;rfl)
  (hz:X.N[k]?=some z:=by rfl) (hlz:Loc X.env.scope z:=by first|exact Or.inl rfl|exact Or.inr rfl) (hsw:swapsWith (.ListComp elt [⟨.Name x px,iter,ifs,0⟩] scope pos) (some (.Name z pz)) spos.line X.env=pure true:=by rfl)
  (hf:X.fn z=true\/X.env.scope.names.lookup z=some .local:=by first|exact .inl rfl|exact .inr rfl) :
  US X (.Assign [.Name z pz] (.ListComp elt [⟨.Name x px,iter,ifs,0⟩] scope pos) spos) (uSet k (Ag pick ti (gNm i) tc te)) :=
 PS.imp (Oq (i:=k) hc hs hp hk hi (fun C s H fp pins=>Bv (i:=i) hN hiN (.inl (lookup_relabel_local hloc)) (.inr (lookup_relabel_local hloc))) ht (te:=lf X.K te) he hNd hz hlz hsw hf hfs) fun D σ H ⟨S,env,E,g,re,h,fin⟩ =>
  F8 (fun y tt S1 H1 env k R gd re rt hg hR=>⟨Il hpi,hR _ _ (re.set rt) hg⟩) (Za ⟨g,re⟩ h fun v y S1 H1 le1 m1 ry h1=>fin.nx _ _ S1 H1 le1 m1.g (m1.re.set ry) h1)
end
theorem E5{pick:List (Option Nat)}{ti:UTA}{env:Ev}{S S1:TH}{gg:UTG}{tc:UTT}{te:UTE}{P:UX}(ts:List T)(Iv:Nat->List T->TH->Prop)(hti:∀k:List T->TH->Prop,k ts S1->ti env S k)(hl:ts.length<=sizeLine)(h0:Iv 0 [] S1)
  (turn:∀k x acc S,ts[k]?=some x->Iv k acc S->gg x (G2 pick env) S fun env' S'=>tc env' S' fun b S2=>(b=true->te env' S2 fun r S3=>Iv (k+1) (acc++[r]) S3)/\(b=false->Iv (k+1) acc S2))
  (done:∀acc S,Iv ts.length acc S->P (.lst acc) S):Ag pick ti gg tc te env S P:=hti _ ⟨hl,Iv,h0,turn,done⟩
theorem Zj{t u:UTS}{E:UEnds}{env:Ev}{S:TH}(R:Ev->TH->Prop)(h:∀k:Ev->TH->Prop,(∀env' S',R env' S'->k env' S')->t { E with nx:=k } env S)(rest:∀env' S',R env' S'->u E env' S'):A8 t u E env S:=by
 unfold A8
 exact h _ rest
theorem Ss{t u:UTT}{env:Ev}{S:TH}{P:Bool->TH->Prop}(ht:∀P:Bool->TH->Prop,P true S->t env S P)(h:P true S):uOr t u env S P:=ht _ ⟨fun _=>h,fun e=>(by cases e)⟩
theorem Py{t u:UTT}{env:Ev}{S:TH}{P:Bool->TH->Prop}(ht:∀P:Bool->TH->Prop,P false S->t env S P)(h:u env S P):uOr t u env S P:=ht _ ⟨fun e=>(by cases e),fun _=>h⟩
theorem J9{t u:UTT}{env:Ev}{S:TH}{P:Bool->TH->Prop}(ht:∀P:Bool->TH->Prop,P false S->t env S P)(h:P false S):Cc t u env S P:=ht _ ⟨fun e=>(by cases e),fun _=>h⟩
theorem Fp{t u:UTT}{env:Ev}{S:TH}{P:Bool->TH->Prop}(ht:∀P:Bool->TH->Prop,P true S->t env S P)(h:u env S P):Cc t u env S P:=ht _ ⟨fun _=>h,fun e=>(by cases e)⟩
theorem al_nil{Q:T->Prop}:∀t∈([]:List T),Q t:=fun _ h=>by cases h
theorem Xd{Q:T->Prop}{a:T}{r:List T}(h:Q a)(hr:∀t∈r,Q t):∀t∈a::r,Q t:=fun t ht=>by
 rcases List.mem_cons.mp ht with rfl|q
 ·exact h
 ·exact hr t q
theorem T3{Q:T->Prop}{a b:List T}(h:∀t∈a,Q t)(hr:∀t∈b,Q t):∀t∈a++b,Q t:=fun t ht=>(List.mem_append.mp ht).elim (h t) (hr t)
end TL
end
section
namespace L2
open PySem PySem.Spec PyProof.Rows
end L2
end
section
namespace TL
open PySem PySem.Spec PyProof.Rows L2
section
variable{X:Cx}{a b e o:Expr}{ta tb te to ti:UTE}{tr:UTA}{p pos:Pos}{x:Str}
def KTp(K:PySem.W.Frag)(mg:Str->Option Value)(x:Str)(ts:List T):Prop:=∃d,mg x=some (.ref d)/\∀S H,Rep K S H (.ref d) (.tup ts)
theorem O3{ts:List T}(hg:Gl X x)(h:KTp X.K X.mg x ts)(hd:(x==("__debug__":Str))=false:=by decide):UE X (.Name x pos) (uC (.tup ts)):=by
 obtain⟨d,hm,r⟩:=h
 exact Og (Ph (v:=.ref d) hg hm rfl hd) r
end
theorem kt_mk{K:PySem.W.Frag}{h:Heap}{mg:Str->Option Value}{x:Str}{d:Addr}{ts:List T}(X:K.In h)(G:h.Ns mainGlobals mg)(a:PySem.W.nsIn K mainGlobals x=some (some (.ref d)))(r:KR K (.ref d) (.tup ts)):KTp K mg x ts :=
 ⟨d,PySem.W.mg_of X G a,r.rel.2⟩
end TL
end
section
namespace PySem
theorem Hl(a:Value):checkTypeCall "set" ⟨[a],[]⟩=pure ():=by kernel_rfl
theorem Jj(a:Value):checkBuiltinCall "set.__new__" ⟨[.type "set",a],[]⟩=pure ():=by kernel_rfl
theorem Dw:entryFor table "set.update.loop"=some Builtin.«set.update.loop»:=entryFor_of_tree (by kernel_rfl)
section
variable{prog:Program}{w:World}{K:Type}[DecidableEq K]{knd:KeyKind prog w K}{A:Around}{E:Value->Shared->Prop}{s:Shared}
theorem Ig(a:Value){Q₁:Value->Shared->Prop}
  (h:∀led:Bool,Q₁ (.ref s.heap.objs.size) { s with heap:=s.heap.push { cls:=.type "set",dict:=none,data:=.set #[] 0 (.fresh 0 0 led) } }) :
  codeAny (model prog w) A (.call (.builtin "set.__new__") ⟨[.type "set",a],[]⟩) (wants Q₁ E) s:=by
 refine codeAny_call_builtin F.plain_set_new F.entry_set_new (wpAny_of_eq (Jj a) ?_)
 unfold Builtin.«set.__new__» Builtin.Frozenset.newClass
 have hsub:=sub_set_self
 obtain⟨hp,g,d,tk,os⟩:=s
 dsimp only
 wp_walk
 refine wpAny_askSetting (wpAny_pure ?_)
 dsimp only
 simp only[newObj]
 refine wpAny_bind (wpAny_alloc (wpAny_pure ?_))
 exact wpAny_pure (h _)
inductive KeysAt(knd:KeyKind prog w K):List Value->List K->Prop where
 |nil:KeysAt knd [] []
 |cons {k:K} {v:Value} {vs:List Value} {ks:List K}:knd.is k v=true->v.scannable=true->KeysAt knd vs ks->KeysAt knd (v::vs) (k::ks)
def newN(S:K->Bool):List K->Nat
 |[]=>0
 |k::r=>(if S k then 0 else 1)+newN (fun k'=>S k' || decide (k'=k)) r
theorem Wh{it l d:Addr}{items:Array Value}(hA:A.handled=none)(hdit:it≠d)(hdl:l≠d)(hitl:it≠l):∀(rest:List Value) (ks:List K) (i:Nat) (S:K->Bool) (n:Nat) (s:Shared) (R:Result->Shared->Prop),
  items.toList.drop i=rest->s.heap.IsListIter it l i->s.heap.IsList l items->s.heap.SetOf knd d S n->KeysAt knd rest ks->n+rest.length+1<scanBound →
  (∀h' tk' S',h'.SetOf knd d S' (n+newN S ks)->(∀b o,b≠d->b≠it->s.heap.get? b=some o->h'.get? b=some o)->R (.ok (.ret .none)) { s with heap:=h',toks:=tk' }) →
  codeAny (model prog w) A (.builtin "set.update.loop" ⟨[.ref d,.ref it],[]⟩) R s:=by
 intro rest
 induction rest with
 |nil =>
  intro ks i S n s R hr hit hl hd hp hz hq
  cases hp
  refine codeAny_builtin Dw ?_
  unfold Builtin.«set.update.loop»
  refine wpAny_bind (wpAny_pyNext_list_end hA hit hl ?_ fun h' he=>?_)
  ·have:items.toList.length<=i:=by simpa using hr
   simp at this
   simpa using this
  ·refine wpAny_pure ?_
   obtain⟨o,es,ep,t,ho,r⟩:=hd
   exact hq h' s.toks S ⟨o,es,ep,t,he d o (Ne.symm hdit) ho,r⟩ fun b o _ hb e=>he b o hb e
 |cons v rest ih =>
  intro ks i S n s R hr hit hl hd hp hz hq
  cases hp with
  | @cons k _ _ ks' hk hsc hp' =>
  have hx:items[i]?=some v:=by
   have:(items.toList.drop i)[0]?=some v:=by rw[hr];rfl
   simpa using this
  have hr':items.toList.drop (i+1)=rest:=by
   have:=congrArg List.tail hr
   simpa using this
  refine codeAny_builtin Dw ?_
  unfold Builtin.«set.update.loop»
  refine wpAny_bind (wpAny_pyNext_list_item hit hl hx fun h1 hit1 sb1=>?_)
  have hd1:h1.SetOf knd d S n:=by
   obtain⟨o,es,ep,t,ho,r⟩:=hd
   exact⟨o,es,ep,t,(sb1.2 d (Ne.symm hdit)).trans ho,r⟩
  show wpAny _ _ (holding [v] (setAdd d v) >>= fun _=>again _) _ _ _
  refine wpAny_bind (wpAny_holding ?_)
  unfold setAdd
  refine wpAny_holding ?_
  refine wpAny_bind (knd.pyHash hk ?_)
  refine wpAny_setAddHashed_of (s:={ s with heap:=h1,toks:=s.toks+1 }) hk hsc hd1 (by simp only[List.length_cons] at hz;omega) fun h2 sb2 hd2=>?_
  refine wpAny_pure ⟨Code.quiet_builtin _ (by decide +kernel),?_⟩
  have keep2:∀b o,b≠d->b≠it->s.heap.get? b=some o->h2.get? b=some o:=fun b o hb hbi e=>(sb2.2 b hb).trans ((sb1.2 b hbi).trans e)
  have hit2:h2.IsListIter it l (i+1):=by
   obtain⟨o,e,r⟩:=hit1
   exact⟨o,(sb2.2 it hdit).trans e,r⟩
  have hl2:h2.IsList l items:=by
   obtain⟨o,e,r⟩:=hl
   exact⟨o,keep2 l o hdl (Ne.symm hitl) e,r⟩
  refine ih ks' (i+1) (fun k'=>S k' || decide (k'=k)) (if S k then n else n+1) _ R hr' hit2 hl2 hd2 hp' ?_ fun h' tk' S' hd' kp=>?_
  ·simp only[List.length_cons] at hz
   split <;> omega
  ·refine hq h' tk' S' ?_ fun b o hb hbi e=>kp b o hb hbi (keep2 b o hb hbi e)
   have e:(if S k then n else n+1)+newN (fun k'=>S k' || decide (k'=k)) ks'=n+newN S (k::ks'):=by
    show _=n+((if S k then 0 else 1)+newN (fun k'=>S k' || decide (k'=k)) ks')
    split <;> omega
   rw[<-e]
   exact hd'
theorem Gb{M:Model}{self x:Value}{Q:Unit->Shared->Prop}(hT:s.TypeIs self "set")(hQ:Q () s):
  wpAny M A (checkBuiltinCall "set.__init__" ⟨[self,x],[]⟩) Q E s:=by
 simp only[checkBuiltinCall,kind_set_init,split_set_init,sig_set_init]
 refine wpAny_bind (wpAny_isInstance hT sub_set_self ?_)
 simp only[Bool.not_true,Bool.false_eq_true,if_false]
 unfold Bind.checkArgs
 dsimp only
 refine wpAny_bind (m:=Bind.printed "set" true _ _) (PyProof.Rows.printed_name (by decide) ?_)
 refine wpAny_bind (m:=Bind.printed "*" false _ _) (PyProof.Rows.printed_star (self:=self) rfl hT fun short=>?_)
 have hrn:(Manifest.Receiver.self==Manifest.Receiver.none)=false:=by decide
 have hn:(if (Manifest.Receiver.self==Manifest.Receiver.none)=true then [self,x].length else [self,x].length - 1)=1:=by simp[hrn]
 rw[hn]
 simp only[List.map_nil]
 have hc:Bind.check ⟨.positional,"set","*",.self,[⟨"iterable",.posOnly,false⟩]⟩ "set" short 1 []=pure ():=by
  simp[Bind.check,Bind.checkCount,Bind.isPositional]
  exact fun z=>absurd z (by decide)
 rw[hc]
 exact wpAny_pure hQ
theorem Jc{l d:Addr}{its:Array Value}{n:Nat}{sl:Array (Option Value)}{ks:List K}{led:Bool}{A2:Around}{R:Result->Shared->Prop}(hA:A.handled=none)(hd:s.heap.get? d=some { cls:=.type "set",dict:=none,data:=.set #[] 0 (.fresh 0 0 led) })(hl:s.heap.get? l=some ⟨.type "list",none,.seq its n,sl⟩)(hld:l≠d)(hp:KeysAt knd its.toList ks)(hsz:its.size+1<scanBound)
  (h:∀h' tk S',(∀b o,b≠d->s.heap.get? b=some o->h'.get? b=some o)->h'.SetOf knd d S' (newN (fun _=>false) ks)->R (.ok (.ret .none)) { s with heap:=h',toks:=tk }) :
  wpAny (model prog w) A (Builtin.«set.__init__» ⟨[.ref d,.ref l],[]⟩) (fun fin s'=>match fin with | .done f=>R (.ok f) s' | .again c'=>c'.quiet=true/\codeAny (model prog w) A2 c' R s') (fun e s'=>R (.error e) s') s:=by
 have hT:s.TypeIs (.ref d) "set":=⟨_,hd,rfl⟩
 have hTl:s.TypeIs (.ref l) "list":=⟨_,hl,rfl⟩
 have f1:=F.sub_list_set
 have f2:=F.sub_list_frozenset
 unfold Builtin.«set.__init__»
 repeat (any_goals (first|assumption|refine wpAny_pyIter_list (items:=its) ⟨_,hl,rfl,n,rfl⟩ ?_|refine wpAny_runValue ?_|wp_step))
 have hnew:s.heap.SetOf knd d (fun _=>false) 0:=⟨_,#[],0,_,hd,⟨rfl,rfl,rfl⟩,rfl,fun e he=>by simp at he,fun k=>by simp,by decide,by rfl,rfl⟩
 have dlt:d<s.heap.objs.size:=Heap.lt_size hd
 have llt:l<s.heap.objs.size:=Heap.lt_size hl
 have k2:∀b o,s.heap.get? b=some o->(s.heap.push { cls:=.type "list_iterator",data:=.fields #[.ref l,.int 0 0] }).get? b=some o:=fun b o e=>Heap.get?_push_of_some _ e
 refine Wh (knd:=knd) (it:=s.heap.objs.size) (l:=l) (items:=its) hA (Nat.ne_of_gt dlt) hld (Nat.ne_of_gt llt) its.toList ks 0 (fun _=>false) 0 _ _ rfl ?_ ?_ ?_ hp (by simpa using hsz) fun h' tk' S' hd' kp=>?_
 ·exact⟨_,Heap.get?_push_size _ rfl,rfl,rfl⟩
 ·exact⟨_,k2 _ _ hl,rfl,n,rfl⟩
 ·obtain⟨o,es,ep,t,ho,r⟩:=hnew
  exact⟨o,es,ep,t,k2 _ _ ho,r⟩
 ·rw[Nat.zero_add] at hd'
  have q:=h h' tk' S' (fun b o hb e=>kp b o hb (Nat.ne_of_lt (Heap.lt_size e)) (k2 b o e)) hd'
  repeat (any_goals (first|assumption|wp_step))
end
end PySem
end
section
namespace PySem
section
variable{prog:Program}{w:World}{K:Type}[DecidableEq K]{knd:KeyKind prog w K}{A:Around}{E:Value->Shared->Prop}{s:Shared}
theorem Iy{l:Addr}{its:Array Value}{n:Nat}{sl:Array (Option Value)}{ks:List K}{Q:Value->Shared->Prop}(hA:A.handled=none)(hl:s.heap.get? l=some ⟨.type "list",none,.seq its n,sl⟩)(hp:KeysAt knd its.toList ks)(hsz:its.size+1<scanBound)
  (h:∀h' tk S',(∀b o,s.heap.get? b=some o->h'.get? b=some o)->h'.SetOf knd s.heap.objs.size S' (newN (fun _=>false) ks)->Q (.ref s.heap.objs.size) { s with heap:=h',toks:=tk }) :
  wpAny (model prog w) A (call (.type "set") [.ref l]) Q E s:=by
 obtain⟨c,tl,hmro⟩:=F.called_set.mro
 have hmade:=F.called_set.made
 have hsub:=F.called_set.sub
 refine wpAny_call (codeAny_of_tree ?_)
 show wpAny _ _ (callAny (.type "set") _) _ _ _
 refine wpAny_pure ⟨Code.quiet_builtin _ (by decide +kernel),codeAny_builtin F.entry_type_call ?_⟩
 rw[Around.under_plain (weight_type_call_type "set" [.ref l] []) rfl]
 have h1:=F.called_set.notType
 have h2:=F.called_set.canCreate
 have hct:=Hl (.ref l)
 repeat (any_goals (first|assumption|wp_step))
 refine codeAny_mono (Ig (.ref l) (E:=E) (Q₁:=fun obj s₁=>∃led:Bool,obj=.ref s.heap.objs.size/\s₁={ s with heap:=s.heap.push { cls:=.type "set",dict:=none,data:=.set #[] 0 (.fresh 0 0 led) } }) fun led=>⟨led,rfl,rfl⟩) fun r s₁ hr=>?_
 cases r with
 |error e=>exact hr
 |ok fl =>
  cases fl with
  |ret obj =>
   obtain⟨led,rfl,rfl⟩:=hr
   have hS:(s.heap.push { cls:=.type "set",dict:=none,data:=.set #[] 0 (.fresh 0 0 led) }).get? s.heap.objs.size=some { cls:=.type "set",dict:=none,data:=.set #[] 0 (.fresh 0 0 led) }:=Heap.get?_push_size _ rfl
   have hT:Shared.TypeIs { s with heap:=s.heap.push { cls:=.type "set",dict:=none,data:=.set #[] 0 (.fresh 0 0 led) } } (.ref s.heap.objs.size) "set":=⟨_,hS,rfl⟩
   have hl0:(s.heap.push { cls:=.type "set",dict:=none,data:=.set #[] 0 (.fresh 0 0 led) }).get? l=some ⟨.type "list",none,.seq its n,sl⟩:=Heap.get?_push_of_some _ hl
   have llt:l<s.heap.objs.size:=Heap.lt_size hl
   have hli:=F.called_set.init.lookup
   have hbi:=F.called_set.init.bind (.ref s.heap.objs.size)
   repeat (any_goals (first|assumption|wp_step))
   refine codeAny_mono (codeAny_call_builtin (R:=wants (fun r s₂=>r=.none/\Q (.ref s.heap.objs.size) s₂) E) F.called_set.init.plain F.entry_set_init (Gb hT ?_)) fun r₂ s₂ hr₂=>?_
   ·refine Jc (s:={ s with heap:=s.heap.push { cls:=.type "set",dict:=none,data:=.set #[] 0 (.fresh 0 0 led) } }) (A:=A.in1.in1) (A2:=A.in1) (R:=wants (fun r s₂=>r=.none/\Q (.ref s.heap.objs.size) s₂) E) (knd:=knd) (led:=led) hA hS hl0 (Nat.ne_of_lt llt) hp hsz fun h' tk S' kp hd=>⟨rfl,h h' tk S' (fun b o e=>kp b o (Nat.ne_of_lt (Heap.lt_size e)) (Heap.get?_push_of_some _ e)) hd⟩
   ·cases r₂ with
    |error e=>exact hr₂
    |ok fl₂ =>
     cases fl₂ with
     |ret r =>
      obtain⟨rfl,hq⟩:=hr₂
      repeat (any_goals (first|assumption|wp_step))
     |_=>exact hr₂.elim
  |_=>exact hr.elim
end
end PySem
namespace L2
open PySem PySem.Spec PyProof.Rows
theorem Q7(zs:List Str):∀S:Key->Bool,newN S (zs.map Sum.inr)<=zs.length:=by
 induction zs with
 |nil=>exact fun _=>Nat.le_refl _
 |cons z r ih =>
  intro S
  have:=ih (fun k'=>S k' || decide (k'=Sum.inr z))
  show (if S (Sum.inr z) then 0 else 1)+newN _ (r.map Sum.inr)<=r.length+1
  split <;> omega
theorem Vj(zs:List Str):∀S:Key->Bool,newN S (zs.map Sum.inr)=zs.length ↔ zs.Nodup/\∀z∈zs,S (Sum.inr z)=false:=by
 induction zs with
 |nil=>intro S;simp[newN]
 |cons z r ih =>
  intro S
  have hle:=Q7 r (fun k'=>S k' || decide (k'=Sum.inr z))
  have e:newN S ((z::r).map Sum.inr)=(if S (Sum.inr z) then 0 else 1)+newN (fun k'=>S k' || decide (k'=Sum.inr z)) (r.map Sum.inr):=rfl
  rw[e,List.nodup_cons]
  constructor
  ·intro h
   have hz:S (Sum.inr z)=false:=by
    cases q:S (Sum.inr z) with
    |false=>rfl
    |true=>rw[q,List.length_cons] at h;simp at h;omega
   rw[hz,List.length_cons] at h
   have h':newN (fun k'=>S k' || decide (k'=Sum.inr z)) (r.map Sum.inr)=r.length:=by simp at h;omega
   obtain⟨h1,h2⟩:=(ih _).mp h'
   refine⟨⟨fun m=>?_,h1⟩,fun y hy=>?_⟩
   ·have:=h2 z m;simp at this
   ·rcases List.mem_cons.mp hy with rfl|hy
    ·exact hz
    ·have:=h2 y hy;simp at this;exact this.1
  ·rintro⟨⟨h1,h2⟩,h3⟩
   have hz:=h3 z List.mem_cons_self
   have h':=(ih (fun k'=>S k' || decide (k'=Sum.inr z))).mpr ⟨h2,fun y hy=>by
    rw[h3 y (List.mem_cons_of_mem _ hy),Bool.false_or]
    exact decide_eq_false fun q=>h1 (Sum.inr.inj q ▸ hy)⟩
   rw[h',hz,List.length_cons]
   simp
   omega
section
variable{X:Cx}{p p' pos pos':Pos}{e:Expr}{te:TE}
def Xy(K:PySem.W.Frag)(te:TE):TE:=fun σ H Q=>te σ H fun x H1=>∃(a:Addr) (zs:List Str),x=.ref a/\SqL K H1 a (zs.map V.str)/\zs.length<=1000/\∀n:Nat,(n=zs.length ↔ zs.Nodup)->Q (.int n) H1
theorem Gv{P:Program}{w:World}:∀{zs:List Str} {us:List Value},Vals (zs.map V.str) us->KeysAt (mixKind P w) us (zs.map Sum.inr)
 |[],us,r=>by cases r;exact .nil
 |z::zs,us,r=>by
  cases r with
  |cons h r =>
   obtain⟨t,rfl⟩:=h
   exact .cons (Ct P w z t) rfl (Gv r)
theorem Q4(hc:X.calm=true)(hg:Gl X "len")(hm:X.mg "len"=none)(hg':Gl X "set")(hm':X.mg "set"=none)(he:PE X e te)
  (h1:starEach [.Call (.Name "set" p') [e] [] pos'] X.env=(false,eval (.Call (.Name "set" p') [e] [] pos') X.env)::starEach [] X.env:=by rfl) (h2:starEach [e] X.env=(false,eval e X.env)::starEach [] X.env:=by rfl) :
  PE X (.Call (.Name "len" p) [.Call (.Name "set" p') [e] [] pos'] [] pos) (Xy X.K te):=by
 intro pins s σ H Q I h
 refine wpAny_Call_Name_kw (Dg I hg hm boot_len ?_ (by decide) (by decide))
 refine PyProof.Rows.callWith_builtin1 ?_ h1 (by rfl)
 rw[h1]
 show wpAny _ _ (spliced ((false,eval (.Call (.Name "set" p') [e] [] pos') X.env)::backTo pos (starEach [] X.env))) _ _ s
 refine Calls.spliced_cons ?_
 refine wpAny_Call_Name_kw (Dg I hg' hm' boot_set ?_ (by decide) (by decide))
 refine PyProof.Rows.callWith_type1 ?_ h2 (by rfl)
 rw[h2]
 show wpAny _ _ (spliced ((false,eval e X.env)::backTo pos' (starEach [] X.env))) _ _ s
 refine Calls.spliced_cons (thn (he pins s σ H _ I h) fun u s1 ⟨x,H1,I1,r1,a,zs,ex,sq,hz,q⟩=>?_)
 subst ex
 cases r1
 refine Calls.spliced_nil ?_
 obtain⟨its,rv,pl,hsz⟩:=I1.list sq
 have hlen:=rv.length
 obtain⟨o,n,ho,c1,c2,c3⟩:=pl
 obtain⟨oc,od,odt,osl⟩:=o
 cases c1;cases c2;cases c3
 rw[List.length_map] at hlen
 refine Iy (knd:=mixKind X.prog X.w) (I1.ok.hd hc) ho (by simpa using Gv rv) (by simp;have:(4096:Nat)=scanBound:=rfl;omega) fun h' tk S' kp hS=>?_
 have I3:Inv X pins σ H1 { s1 with heap:=h',toks:=tk }:=I1.kept kp
 refine Calls.spliced_nil ?_
 obtain⟨o,es,ep,t,ho',hex,hd,_,_,hb,hf,hn⟩:=hS
 refine call_len_set ho' hex hd hf (by have:(4096:Nat)=scanBound:=rfl;omega) ?_
 rw[hn]
 refine⟨.int (newN (fun _=>false) (zs.map Sum.inr):Nat),H1,I3.tok _,⟨_,rfl⟩,q _ ?_⟩
 rw[Vj]
 exact⟨fun z=>z.1,fun z=>⟨z,fun _ _=>rfl⟩⟩
end
end L2
end
section
namespace L2
open PySem PySem.Spec PyProof.Rows
open AutoSeq1 (wpAny_loadPart')
theorem Rw(t:Addr)(oc:Option Addr)(its:Array Value)(n:Nat)(sl:Array (Option Value)):
  Meets (Builtin.«enumerate.__new__» ⟨[.type "enumerate",.ref t],[]⟩) (fun _ R s=>s.heap.get? t=some ⟨.type "tuple",oc,.seq its n,sl⟩ ∧
   R (.ok (.ret (.ref (s.heap.push { cls:=.type "tuple_iterator",data:=.fields #[.ref t,.int 0 0] }).objs.size)))
    { s with heap:=(s.heap.push { cls:=.type "tuple_iterator",data:=.fields #[.ref t,.int 0 0] }).push { cls:=.type "enumerate",data:=.fields #[.none,.bool false,.ref s.heap.objs.size,rawInt 0,.none,.none] } }) :=
 .of_wp fun prog w A R s h=>by
  obtain⟨hp,g,d,tk,os⟩:=s
  obtain⟨ht,h⟩:=h
  have q1:=sub_enumerate
  have q2:Heap.IsTuple (Shared.heap ⟨hp,g,d,tk,os⟩) t its:=⟨_,ht,rfl,n,rfl⟩
  wp_walk using wpAny_loadPart' ht
  refine wpAny_stack_any fun st=>wpAny_pure ?_
  split
  ·rename_i c _ _ _ _ _
   cases (c==Value.type "enumerate")
   all_goals
    wp_walk using wpAny_loadPart' ht,wpAny_pyIter_tuple q2
    exact⟨_,rfl,h⟩
  ·wp_walk using wpAny_loadPart' ht,wpAny_pyIter_tuple q2
   exact⟨_,rfl,h⟩
section
variable{prog:Program}{w:World}{A:Around}{E:Value->Shared->Prop}{s:Shared}
theorem Ja{t:Addr}{its:Array Value}{Q:Value->Shared->Prop}(ht:s.heap.IsTuple t its)
  (h:∀h',IsEnum h' (s.heap.objs.size+1) s.heap.objs.size 0 .none->h'.IsTupleIter s.heap.objs.size t 0->(∀b o,s.heap.get? b=some o->h'.get? b=some o)->Q (.ref (s.heap.objs.size+1)) { s with heap:=h' }) :
  wpAny (model prog w) A (call (.type "enumerate") [.ref t]) Q E s:=by
 obtain⟨⟨c,dct,dt,sl⟩,hl,hc,n,hd⟩:=ht
 have hc:c=.type "tuple":=hc
 have hd:dt=.seq its n:=hd
 subst hc hd
 refine callType_new F.called_enumerate (by decide) (F.typeCall_enumerate_1 _) (F.newCall_enumerate_1 _) (fun obj=>F.args_object_init_2 obj _) F.entry_enumerate_new (Rw t dct its n sl) ⟨hl,?_⟩
 have z:(s.heap.push { cls:=.type "tuple_iterator",data:=.fields #[.ref t,.int 0 0] }).objs.size=s.heap.objs.size+1:=Heap.size_push ..
 show _/\_
 rw[z]
 have en:IsEnum ((s.heap.push { cls:=.type "tuple_iterator",data:=.fields #[.ref t,.int 0 0] }).push { cls:=.type "enumerate",data:=.fields #[.none,.bool false,.ref s.heap.objs.size,rawInt 0,.none,.none] }) (s.heap.objs.size+1) s.heap.objs.size 0 .none:=by
  have q:=Heap.get?_push_size (s.heap.push { cls:=.type "tuple_iterator",data:=.fields #[.ref t,.int 0 0] }) (o:={ cls:=.type "enumerate",data:=.fields #[.none,.bool false,.ref s.heap.objs.size,rawInt 0,.none,.none] }) rfl
  rw[z] at q
  exact q
 exact⟨⟨_,en,rfl⟩,h _ en ⟨_,Heap.get?_push_of_some _ (Heap.get?_push_size _ rfl),rfl,rfl⟩ fun b o x=>Heap.get?_push_of_some _ (Heap.get?_push_of_some _ x)⟩
theorem Kr(hh:A.handled=none)(it t:Addr)(ne:t≠it)(its:Array Value):Draws prog w A it [it,t] its.size (fun i x=>its[i]?=some x) (fun i h=>h.IsTupleIter it t i/\h.IsTuple t its) where
 live:=fun i h st=>by obtain⟨o,e,_⟩:=st.1;exact⟨o,e⟩
 frame:=fun i h h' st k=>by
  obtain⟨⟨o,e,r⟩,⟨o',e',r'⟩⟩:=st
  exact⟨⟨o,k it (by simp) o e,r⟩,⟨o',k t (by simp) o' e',r'⟩⟩
 item:=fun i s Q E hi st hQ=>by
  obtain⟨h1,h2⟩:=st
  refine B0 (x:=its[i]) h1 h2 (by simp[hi]) fun g g1 sb=>?_
  obtain⟨o',e',r'⟩:=h2
  exact hQ _ g s.toks (by simp[hi]) ⟨g1,⟨o',(sb.2 t ne).trans e',r'⟩⟩ sb
 done:=fun s Q E st hE=>Dz hh st.1 st.2 (by simp) fun g e a b=>hE g e a b
end
def Ite (K:PySem.W.Frag) (a:Addr):It :=
  ⟨fun i H=>∃ xs x,SqT K H a xs /\ xs[i]? = some x,
   fun i H v H'=>∃ p x,H p = none /\ v = .ref p /\ H' = upd H p (.tup [.int (i:Int),x]) /\ ∀ xs,SqT K H a xs->xs[i]? = some x,
   fun i H=>∃ xs,SqT K H a xs /\ xs.length = i⟩
theorem Rq{P:Program}{w:World}{K:PySem.W.Frag}{es:List Expr}{k:Nat}{pos:Pos}{e it a:Addr}(nei:e≠it)(nea:a≠e)(nia:a≠it):Turn P w K (.Tuple es k pos) (Ite K a) [e,it] e (fun i h=>(∃old,IsEnum h e it i old)/\h.IsTupleIter it a i) where
 mem:=by simp
 obj:=fun i h st c hc=>by
  obtain⟨⟨old,he⟩,o,ho,cl,d⟩:=st
  simp only[List.mem_cons,List.not_mem_nil,or_false] at hc
  rcases hc with rfl|rfl
  ·exact⟨_,he,fun v q=>by cases q⟩
  ·exact⟨o,ho,fun v q=>by rw[d] at q;cases q⟩
 keep:=fun i h h' st kk=>by
  obtain⟨⟨old,he⟩,h1⟩:=st
  exact⟨⟨old,kk e (by simp) _ he⟩,G9 h1 fun o q=>kk it (by simp) o q⟩
 item:=by
  intro X hP hw hK hc i pins s σ H E I hf st hg
  subst hP hw hK
  obtain⟨xs,x,q1,e1⟩:=hg
  obtain⟨⟨old,he⟩,hi⟩:=st
  obtain⟨us,r1,p1,_⟩:=I.tuple q1
  obtain⟨u,hu,ru⟩:=r1.get e1
  have lu:i<us.length:=(List.getElem?_eq_some_iff.mp hu).1
  have el:e<s.heap.objs.size:=Heap.lt_size he
  have il:it<s.heap.objs.size:=by obtain⟨o,q,_⟩:=hi;exact Heap.lt_size q
  refine wpAny_pyNext_enum_itemD (Kr (A:=X.A.in1) (I.ok.hd hc) it a nia us.toArray) he ⟨hi,p1⟩ (by simpa using lu) nei (by simp only[List.mem_cons,List.not_mem_nil,or_false,not_or];exact⟨nei,Ne.symm nea⟩) fun y g tk py eo st' tu sz kk=>⟨_,rfl,?_⟩
  have ey:y=u:=by
   have:us.toArray[i]?=some u:=by simpa using hu
   rw[this] at py
   exact(Option.some.inj py).symm
  subst ey
  refine wpAny_letOwnedTupleGo_enum eo fun g' en sb=>?_
  have ne:s.heap.objs.size≠e:=Nat.ne_of_gt el
  have up:∀c o,c ∉ [e,it]->s.heap.get? c=some o->g'.get? c=some o:=fun c o hc' q=>by
   simp only[List.mem_cons,List.not_mem_nil,or_false,not_or] at hc'
   exact sb.extBut _ _ hc'.1 (kk c o hc'.1 hc'.2 q)
  have I1:Inv X pins σ H { s with heap:=g',toks:=tk+1 }:=I.turns (t':=tk+1) up hf
  have t':g'.get? s.heap.objs.size=some { cls:=.type "tuple",data:=.seq #[.int i tk,y] }:=sb.extBut _ _ ne tu
  have I2:=I1.track (a:=s.heap.objs.size) (o:=.tup [.int (i:Int),x]) (I.fpOk (Nat.le_refl _) I.fresh) ⟨by show 2<=sizeLine;decide,[.int i tk,y],.cons ⟨tk,rfl⟩ (.cons ru .nil),⟨_,t',rfl,⟨_,rfl⟩,rfl⟩⟩
  refine⟨.ref s.heap.objs.size,_,I2,rfl,⟨_,x,I.fresh,rfl,rfl,fun xs' q=>by rw[I.tuple_inj q q1];exact e1⟩,⟨⟨_,en⟩,G9 st'.1 fun o q=>sb.extBut _ _ (Ne.symm nei) q⟩,fun c hc'=>?_⟩
  have nc:c≠s.heap.objs.size:=by
   simp only[List.mem_cons,List.not_mem_nil,or_false] at hc'
   rcases hc' with rfl|rfl
   ·exact Nat.ne_of_lt el
   ·exact Nat.ne_of_lt il
  rw[Xc nc]
  exact(hf c hc').1
 done:=by
  intro X hP hw hK hc i pins s σ H E I hf st hg
  subst hP hw hK
  obtain⟨xs,q1,hl⟩:=hg
  obtain⟨⟨old,he⟩,hi⟩:=st
  obtain⟨us,r1,p1,_⟩:=I.tuple q1
  have el:=r1.length
  have ei:i=us.toArray.size:=by simp;omega
  subst ei
  refine wpAny_pyNext_enum_endD (Kr (A:=X.A.in1) (I.ok.hd hc) it a nia us.toArray) he ⟨hi,p1⟩ fun g kk=>⟨rfl,I.turns (t':=s.toks) (ch:=[e,it]) (fun c o hc' q=>?_) hf⟩
  simp only[List.mem_cons,List.not_mem_nil,or_false,not_or] at hc'
  exact kk c o hc'.2 q
 self:=fun _ _ _ _ _ st h=>by obtain⟨⟨old,he⟩,_⟩:=st;exact wpAny_pyIter_enum he h
def iEnum(K:PySem.W.Frag)(ta:TA):TI:=fun σ H R=>ta σ H fun vs H1=>∃a xs,vs=[.ref a]/\SqT K H1 a xs/\R (Ite K a) H1
theorem Z6{X:Cx}{a:Expr}{ta:TA}{p pos tp:Pos}{es:List Expr}{k:Nat}(hg:Gl X "enumerate")(hm:X.mg "enumerate"=none)(ha:PA X [a] ta)(hs:starEach [a] X.env=[(false,eval a X.env)]:=by rfl):PI X (.Tuple es k tp) (.Call (.Name "enumerate" p) [a] [] pos) (iEnum X.K ta):=by
 intro pins s σ H R I h
 refine Call_ (Dg I hg hm boot_enumerate (PyProof.Rows.callWith_type1 (thn (ha pos pins s σ H _ I h) fun us s1 h1=>?_) hs rfl))
 obtain⟨vs,H1,I1,r1,q1⟩:=h1
 obtain⟨c,xs,rfl,q,hR⟩:=q1
 obtain⟨u,rfl,ru⟩:=Ej r1
 cases ru
 obtain⟨is,r,p1,_⟩:=I1.tuple q
 have lt:c<s1.heap.objs.size:=by
  obtain⟨o,z,_⟩:=p1
  exact Heap.lt_size z
 refine Ja (its:=is.toArray) p1 fun g en hi kk=>wpAny_pyIter_enum en ?_
 refine⟨s1.heap.objs.size+1,[s1.heap.objs.size+1,s1.heap.objs.size],_,_,H1,rfl,I1.kept (t':=s1.toks) kk,Rq (Nat.succ_ne_self _) (Nat.ne_of_lt (Nat.lt_succ_of_lt lt)) (Nat.ne_of_lt lt),⟨⟨_,en⟩,hi⟩,fun x hx=>?_,hR⟩
 have hl:s1.heap.objs.size<=x:=by
  simp only[List.mem_cons,List.not_mem_nil,or_false] at hx
  rcases hx with rfl|rfl <;> omega
 exact I1.fpOk hl (I1.hok.fresh hl)
end L2
end
section
namespace TL
open PySem PySem.Spec PyProof.Rows L2
section
variable{X:Cx}{e a:Expr}{te:UTE}{tr:UTA}{p p' pos pos' tp:Pos}
def Yc(te:UTE):UTE:=fun env S P=>te env S fun x S1=>match x with
 | .lst ts=>∃zs,strsT ts=some zs/\zs.length<=1000/\∀n:Nat,(n=zs.length ↔ zs.Nodup)->P (.int n) S1
 |_=>False
theorem strsT_eq:∀{ts:List T} {zs:List Str},strsT ts=some zs->ts=zs.map T.str
 |[],zs,h=>by cases h;rfl
 |t::r,zs,h=>by
  cases t with
  |str x =>
   simp only[strsT] at h
   cases q:strsT r with
   |none=>rw[q] at h;cases h
   |some ys=>rw[q] at h;cases h;rw[strsT_eq q];rfl
  |_=>cases h
theorem C7{K:PySem.W.Frag}{S:TH}{H:Hp}:∀{vs:List V} {zs:List Str},Reps K S H vs (zs.map T.str)->vs=zs.map V.str
 |[],[],_=>rfl
 |[],_::_,r=>absurd r.1 (by simp)
 |_::_,[],r=>absurd r.1 (by simp)
 |v::vs,z::zs,r=>by
  have h:=r.head
  cases h
  rw[C7 r.tail]
  rfl
theorem Ry(hc:X.calm=true)(hg:Gl X "len")(hm:X.mg "len"=none)(hg':Gl X "set")(hm':X.mg "set"=none)(he:UE X e te)
  (h1:starEach [.Call (.Name "set" p') [e] [] pos'] X.env=(false,eval (.Call (.Name "set" p') [e] [] pos') X.env)::starEach [] X.env:=by rfl) (h2:starEach [e] X.env=(false,eval e X.env)::starEach [] X.env:=by rfl) :
  UE X (.Call (.Name "len" p) [.Call (.Name "set" p') [e] [] pos'] [] pos) (Yc te):=PE.imp (Q4 hc hg hm hg' hm' he h1 h2) fun σ H Q ⟨S,env,P,g,re,h,fin⟩ =>
 Za ⟨g,re⟩ h fun v x S1 H1 le1 m1 rx h1=>by
  cases x with
  |lst ts =>
   obtain⟨zs,e0,hz,h1⟩:=h1
   have et:=strsT_eq e0
   subst et
   obtain⟨l,vs,rfl,f,r⟩:=rx.lstE
   have ev:=C7 r
   subst ev
   exact⟨l,zs,rfl,f.sq,hz,fun n hn=>fin _ _ S1 H1 le1 m1.g (.int _) (h1 n hn)⟩
  |_=>exact h1.elim
def D7:Nat->List T->List T
 |_,[]=>[]
 |k,t::r=>.tup [.int (k:Int),t]::D7 (k+1) r
theorem C5:∀(ts:List T) (k:Nat),(D7 k ts).length=ts.length
 |[],_=>rfl
 |_::r,k=>by simp[D7,C5 r]
theorem Kd:∀{ts:List T} {k i:Nat} {t:T},ts[i]?=some t->(D7 k ts)[i]?=some (.tup [.int ((k+i:Nat):Int),t])
 |[],_,_,_,h=>by simp at h
 |u::r,k,0,t,h=>by simp at h;subst h;rfl
 |u::r,k,i+1,t,h=>by
  have:=Kd (k:=k+1) (show r[i]?=some t by simpa using h)
  show (D7 (k+1) r)[i]?=_
  rw[this]
  congr 4
  omega
def uEnum(tr:UTA):UTA:=fun env S P=>tr env S fun xs S1=>match xs with
 |[.tup ts]=>P (D7 0 ts) S1
 |_=>False
theorem Qd{es:List Expr}{k:Nat}(hg:Gl X "enumerate")(hm:X.mg "enumerate"=none)(ha:UA X [a] tr)(hs:starEach [a] X.env=[(false,eval a X.env)]:=by rfl):UI X (.Tuple es k tp) (.Call (.Name "enumerate" p) [a] [] pos) (uEnum tr) :=
 PI.imp (Z6 hg hm ha hs) fun σ H R ⟨S,env,P,g,re,h,fin⟩=>Af ⟨g,re⟩ h fun vs xs S1 H1 le1 m1 rx h1=>by
  match xs,rx,h1 with
  |[.tup ts],rx,h1 =>
   obtain⟨v,rfl,r1⟩:=rx.one
   obtain⟨l,us,rfl,f,r⟩:=r1.tupE
   refine⟨l,us,rfl,f.sq,fin (D7 0 ts) _ S1 H1 le1 m1.g h1 ⟨fun i S2 H2 le g2 hi=>?_,fun S2 H2 le g2=>⟨us,(f.mono le).sq,by rw[C5];exact r.1⟩,fun i S2 H2 x H3 le g2 hi y=>?_⟩⟩
   ·rw[C5] at hi
    exact⟨us,us[i]'(by rw[r.1];exact hi),(f.mono le).sq,List.getElem?_eq_getElem _⟩
   ·obtain⟨q,y,hq,rfl,rfl,hy⟩:=y
    obtain⟨t,et,rt⟩:=r.get' (hy us (f.mono le).sq)
    have l2:Le S2 H2 S2 (upd H2 q (.tup [.int (i:Int),y])):=Le.new g2 hq
    refine⟨l2,g2.new hq,.tup [.int (i:Int),t],?_,.tupI (.inl ⟨g2.free hq,A4⟩) ((Reps.cons (.int _) (.cons (rt.mono le) .nil)).mono l2)⟩
    have:=Kd (k:=0) et
    rw[Nat.zero_add] at this
    exact this
def gTr(i j k:Nat):UTG:=fun x env S P=>match x with
 | .tup [x,y,z]=>P (((env.set i (some x)).set j (some y)).set k (some z)) S
 |_=>False
theorem F7(i j k:Nat){x y z:Str}{p1 p2 p3:Pos}{n:Nat}(hc:X.calm=true)(hN:X.N.Nodup)(hi:X.N[i]?=some x:=by rfl)(hx:Loc X.env.scope x:=by first|exact Or.inl rfl|exact Or.inr rfl)(hf:X.fn x=true\/X.env.scope.names.lookup x=some .local:=by first|exact .inl rfl|exact .inr rfl)
  (hj:X.N[j]?=some y:=by rfl) (hy:Loc X.env.scope y:=by first|exact Or.inl rfl|exact Or.inr rfl) (hfy:X.fn y=true\/X.env.scope.names.lookup y=some .local:=by first|exact .inl rfl|exact .inr rfl)
  (hk:X.N[k]?=some z:=by rfl) (hz:Loc X.env.scope z:=by first|exact Or.inl rfl|exact Or.inr rfl) (hfz:X.fn z=true\/X.env.scope.names.lookup z=some .local:=by first|exact .inl rfl|exact .inr rfl) :
  UG X (.Tuple [.Name x p1,.Name y p2,.Name z p3] n pos) (gTr i j k) :=
 PG.imp (Ov (n:=3) hc (Ce (Bv hN hi hx hf) (Ce (Bv hN hj hy hfy) (Ce (Bv hN hk hz hfz) K4)))) fun v σ H Q ⟨S,env,x,P,g,re,rx,h,fin⟩=>by
  cases x with
  |tup ts =>
   match ts,h with
   |[x,y,z],h =>
    obtain⟨l,vs,rfl,f,r⟩:=rx.tupE
    match vs,f,r with
    |[v,w,u],f,r=>exact⟨l,[v,w,u],rfl,f.sq,rfl,v,[w,u],rfl,w,[u],rfl,u,[],rfl,rfl,fin _ _ S H .refl g (((re.set r.head).set r.tail.head).set r.tail.tail.head) h⟩
    |[],_,r=>exact absurd r.1 (by simp)
    |[_],_,r=>exact absurd r.1 (by simp)
    |[_,_],_,r=>exact absurd r.1 (by simp)
    |_::_::_::_::_,_,r=>exact absurd r.1 (by simp)
  |_=>exact h.elim
theorem Hy{K:PySem.W.Frag}{S:TH}{H:Hp}{vs:List V}{ts:List T}(r:Reps K S H vs ts):∀n:Nat,Reps K S H (List.replicate n vs).flatten (List.replicate n ts).flatten
 | 0=>.nil
 |n+1=>by
  rw[List.replicate_succ,List.replicate_succ,List.flatten_cons,List.flatten_cons]
  exact r.append (Hy r n)
def Abd:UTS:=fun _ _ _=>False
theorem Be{st:Stmt}:US X st Abd:=fun pins s σ H D I ⟨S,env,E,g,re,h,fin⟩=>h.elim
end
end TL
end
section
namespace L2
open PySem PySem.Spec PyProof.Rows
section
variable{X:Cx}
theorem Lg:∀{zs:List Str} {us:List Value},Vals (zs.map V.str) us->∀u∈us,∃y t,u=.str y t
 |[],us,r=>by cases r;exact fun _ h=>by cases h
 |z::zs,us,r=>by
  cases r with
  |cons h r =>
   obtain⟨t,rfl⟩:=h
   intro u hu
   rcases List.mem_cons.mp hu with rfl|hu
   ·exact⟨z,t,rfl⟩
   ·exact Lg r u hu
theorem Hj{z:Str}(e:Value->Bool)(he:∀y t,e (.str y t)=(y==z)):∀{zs:List Str} {us:List Value},Vals (zs.map V.str) us->us.countP e=zs.countP fun y=>y==z
 |[],us,r=>by cases r;rfl
 |y::zs,us,r=>by
  cases r with
  |cons h r =>
   obtain⟨t,rfl⟩:=h
   rw[List.countP_cons,List.countP_cons,Hj e he r,he]
end
end L2
end
section
namespace TL
open PySem PySem.Spec PyProof.Rows L2
def Qn(f:Str)(t:T):List (Str×T)->List (Str×T)
 |[]=>[(f,t)]
 |(g,x)::r=>if g=f then (g,t)::r else (g,x)::Qn f t r
section
variable{K:PySem.W.Frag}{S S':TH}{H H':Hp}
theorem RepF.nil:RepF K S H [] []:=⟨rfl,fun _ _ _ e=>by simp at e⟩
theorem RepF.cons{p:Str×V}{q:Str×T}{fvs:List (Str×V)}{fts:List (Str×T)}(h1:p.1=q.1)(h2:Rep K S H p.2 q.2)(r:RepF K S H fvs fts):RepF K S H (p::fvs) (q::fts):=by
 refine⟨by simp only[List.length_cons,r.1],fun i v t e1 e2=>?_⟩
 cases i with
 |zero=>simp at e1 e2;subst e1;subst e2;exact⟨h1,h2⟩
 |succ i=>exact r.2 i v t (by simpa using e1) (by simpa using e2)
theorem RepF.head{p:Str×V}{q:Str×T}{fvs:List (Str×V)}{fts:List (Str×T)}(h:RepF K S H (p::fvs) (q::fts)):p.1=q.1/\Rep K S H p.2 q.2:=h.2 0 p q rfl rfl
theorem RepF.tail{p:Str×V}{q:Str×T}{fvs:List (Str×V)}{fts:List (Str×T)}(h:RepF K S H (p::fvs) (q::fts)):RepF K S H fvs fts:=⟨by simpa using h.1,fun i v t e1 e2=>h.2 (i+1) v t (by simpa using e1) (by simpa using e2)⟩
theorem RepF.look:∀{fvs:List (Str×V)} {fts:List (Str×T)} {f:Str},RepF K S H fvs fts->(∀t,fts.lookup f=some t->∃v,fvs.lookup f=some v/\Rep K S H v t)/\(fts.lookup f=none->fvs.lookup f=none)
 |[],[],f,_=>⟨fun _ e=>(by cases e),fun _=>rfl⟩
 |[],_::_,_,h=>by have:=h.1;simp at this
 |_::_,[],_,h=>by have:=h.1;simp at this
 |(g,v)::fvs,(g',t)::fts,f,h=>by
  have hg:g=g':=h.head.1
  subst hg
  obtain⟨i1,i2⟩:=RepF.look (f:=f) h.tail
  rw[List.lookup_cons,List.lookup_cons]
  cases f==g with
  |true=>exact⟨fun t' e=>(by cases e;exact⟨v,rfl,h.head.2⟩),fun e=>(by cases e)⟩
  |false=>exact⟨i1,i2⟩
theorem RepF.put{f:Str}{v:V}{t:T}(r:Rep K S H v t):∀{fvs:List (Str×V)} {fts:List (Str×T)},RepF K S H fvs fts->RepF K S H (putF f v fvs) (Qn f t fts)
 |[],[],_=>.cons rfl r .nil
 |[],_::_,h=>by have:=h.1;simp at this
 |_::_,[],h=>by have:=h.1;simp at this
 |(g,x)::fvs,(g',y)::fts,h=>by
  have hg:g=g':=h.head.1
  subst hg
  unfold putF Qn
  split
  ·exact .cons rfl r h.tail
  ·exact .cons rfl h.head.2 (RepF.put r h.tail)
theorem Good.writeI{p C dx:Addr}{fvs:List (Str×V)}{fts:List (Str×T)}{c:Cell}(g:Good K S H)(hp:S p=some c)(r:RepF K S H fvs fts):Good K (Ad S p (.ins C fts)) (upd H p (.ins C dx fvs)):=fun a c' e=>by
 have le:Le S H (Ad S p (.ins C fts)) (upd H p (.ins C dx fvs)):=Le.write hp
 by_cases ha:a=p
 ·subst ha
  rw[Zd] at e
  cases e
  exact⟨dx,fvs,A4,r.mono le⟩
 ·rw[updT_ne ha] at e
  exact(g a c' e).mono le (Xc ha)
theorem Le.newI{p dx C:Addr}(hp:H p=none)(hd:H dx=none):Le S H (Ad S p (.ins C [])) (upd (upd H dx (.own p)) p (.ins C dx [])):=fun b u n e=>by
 have n1:=Xa e hp
 have n2:=Xa e hd
 exact⟨by rw[updT_ne n1];exact n,by rw[Xc n1,Xc n2];exact e⟩
theorem Good.newI{p dx C:Addr}(g:Good K S H)(hp:H p=none)(hd:H dx=none)(ne:dx≠p):Good K (Ad S p (.ins C [])) (upd (upd H dx (.own p)) p (.ins C dx [])):=fun a c e=>by
 by_cases ha:a=p
 ·subst ha
  rw[Zd] at e
  cases e
  exact⟨dx,[],A4,.nil⟩
 ·rw[updT_ne ha] at e
  have nd:a≠dx:=fun z=>by rw[z,g.free hd] at e;cases e
  exact(g a c e).mono (Le.newI hp hd) (by rw[Xc ha,Xc nd])
end
def HasM(P:Program)(w:World)(K:PySem.W.Frag)(mg:Str->Option Value)(base:Heap)(k:Nat)(C:Addr)(m:Str)(ps:List Str)(t:List T->TH->UX->Prop):Prop :=
 ∃f fd,FnOk P w K mg base CX0 k f fd ps (spU K t)/\Binds K fd ps []/\Meth K C m f/\Cls K C
def HasI(P:Program)(w:World)(K:PySem.W.Frag)(mg:Str->Option Value)(base:Heap)(k:Nat)(C:Addr)(x:Str)(ps:List Str)(t:List T->TH->UX->Prop):Prop :=
 ∃f fd,FnOk P w K mg base CX0 k f fd ps (spU K t)/\Binds K fd ps []/\Mk K C f/\mg x=some (.ref C)
section
variable{X:Cx}{o e:Expr}{es:List Expr}{to te:UTE}{tr:UTA}{p pos pos' apos:Pos}{f m x:Str}{C:Addr}{k:Nat}{ps:List Str}{t:List T->TH->UX->Prop}
def uFld(K:PySem.W.Frag)(to:UTE)(f:Str):UTE:=fun env S P=>to env S fun x S1=>match x with
 | .ref p=>∃C fs t,S1 p=some (.ins C fs)/\Cls K C/\NoAttr K C f/\fs.lookup f=some t/\P t S1
 |_=>False
theorem Ie(ho:UE X o to)(hb:attributeBase o f X.env (eval o X.env)=eval o X.env:=by rfl):UE X (.Attribute o f pos) (uFld X.K to f):=PE.imp (Abc ho hb) fun σ H Q ⟨S,env,P,g,re,h,fin⟩ =>
 Za ⟨g,re⟩ h fun v x S1 H1 le1 m1 rx h1=>by
  cases x with
  |ref p =>
   cases rx
   obtain⟨C,fs,t,e1,c,n,l,h1⟩:=h1
   obtain⟨dx,fvs,q,r⟩:=m1.g p _ e1
   obtain⟨u,eu,ru⟩:=(r.look (f:=f)).1 t l
   exact⟨p,C,dx,fvs,u,rfl,q,c,n,eu,fin _ _ S1 H1 le1 m1.g ru h1⟩
  |_=>exact h1.elim
def uSetF(K:PySem.W.Frag)(to te:UTE)(f:Str):UTS:=fun E env S=>te env S fun y S1=>to env S1 fun x S2=>match x with
 | .ref p=>∃C fs,S2 p=some (.ins C fs)/\Cls K C/\NoAttr K C f/\fs.length<1000/\E.nx env (Ad S2 p (.ins C (Qn f y fs)))
 |_=>False
theorem K3(ho:UE X o to)(he:UE X e te)(hs:swapsWith e (some (.Attribute o f pos')) pos.line X.env=pure false:=by rfl):US X (.Assign [.Attribute o f pos'] e pos) (uSetF X.K to te f):=PS.imp (Adn ho he hs) fun D σ H ⟨S,env,E,g,re,h,fin⟩ =>
 Za ⟨g,re⟩ h fun v y S1 H1 le1 m1 ry h1=>Za m1 h1 fun ov x S2 H2 le2 m2 rx h2=>by
  cases x with
  |ref p =>
   cases rx
   obtain⟨C,fs,e1,c,n,l,h2⟩:=h2
   obtain⟨dx,fvs,q,r⟩:=m2.g p _ e1
   refine⟨p,C,dx,fvs,rfl,q,c,n,by rw[r.1];exact l,?_⟩
   exact fin.nx σ env _ _ (le1.trans (le2.trans (Le.write e1))) (m2.g.writeI e1 (RepF.put (ry.mono le2) r)) (m2.re.mono (Le.write e1)) h2
  |_=>exact h2.elim
def uMeth(C:Addr)(m:Str)(t:List T->TH->UX->Prop)(to:UTE)(tr:UTA):UTE:=fun env S P=>to env S fun x S1=>match x with
 | .ref p=>∃fs,S1 p=some (.ins C fs)/\fs.lookup m=none/\tr env S1 fun ts S2=>t (.ref p::ts) S2 P
 |_=>False
theorem Aj{pl:Sem Bool}(h:HasM X.prog X.w X.K X.mg X.base k C m ps t)(hr:Room k X.A)(ho:UE X o to)
  (ht:eval (.Call (.Attribute o m apos) [] [] pos) X.env=(do
   let ov ← eval o X.env
   standAt apos.atName
   let (f,first) ← holding [ov] (getMethod ov m pl)
   callWith pos f first (backTo pos (starEach [] X.env)) (backToKw pos (keywordEach [] X.env))):=by rfl) :
  UE X (.Call (.Attribute o m apos) [] [] pos) (uMeth C m t to Cu):=by
 obtain⟨f,fd,F,b,hm,c⟩:=h
 refine PE.imp (Ug (pl:=pl) ho c hm F hr b .nil V8 ht) fun σ H Q ⟨S,env,P,g,re,h,fin⟩=>Za ⟨g,re⟩ h fun v x S1 H1 le1 m1 rx h1=>?_
 cases x with
 |ref p =>
  cases rx
  obtain⟨fs,e1,l,h1⟩:=h1
  obtain⟨dx,fvs,q,r⟩:=m1.g p _ e1
  exact⟨p,dx,fvs,rfl,q,(r.look (f:=m)).2 l,S1,[.ref p],P,m1.g,.cons (.ref p) .nil,h1,fin.le le1⟩
 |_=>exact h1.elim
def uMake(C:Addr)(t:List T->TH->UX->Prop)(tr:UTA):UTE:=fun env S P=>tr env S fun ts S1=>∀p,S1 p=none->t (.ref p::ts) (Ad S1 p (.ins C [])) fun r S2=>r=.non/\P (.ref p) S2
theorem Qg(h:HasI X.prog X.w X.K X.mg X.base k C x ps t)(hr:Room (k+1) X.A)(hg:Gl X x)(ha:UA X (e::es) tr)(hdb:(x==("__debug__":Str))=false:=by decide)
  (he:starEach (e::es) X.env=(false,eval e X.env)::starEach es X.env:=by rfl) (hpl:(backTo pos (starEach es X.env)).any (·.1)=false:=by rfl) :
  UE X (.Call (.Name x p) (e::es) [] pos) (uMake C t tr):=by
 obtain⟨f,fd,F,b,M,hm⟩:=h
 refine PE.imp (Y9 M F hr hg hm b .nil V8 ha hdb he hpl) fun σ H Q ⟨S,env,P,g,re,h,fin⟩=>Af ⟨g,re⟩ h fun vs ts S1 H1 le1 m1 rs h1=>fun q dx hq hd ne=>?_
 rw[List.append_nil]
 have le2:Le S1 H1 (Ad S1 q (.ins C [])) (upd (upd H1 dx (.own q)) q (.ins C dx [])):=Le.newI hq hd
 refine⟨_,.ref q::ts,_,m1.g.newI hq hd ne,.cons (.ref q) (rs.mono le2),h1 q (m1.g.free hq),fun v r S3 H3 le3 g3 rp hp=>?_⟩
 obtain⟨rfl,hp⟩:=hp
 cases rp
 exact⟨rfl,fin _ _ S3 H3 (le1.trans (le2.trans le3)) g3 (.ref q) hp⟩
end
def Ck(K:PySem.W.Frag)(C:Addr)(m qual:Str)(ps:List Str)(st:Stmt):Prop:=∃f fd,Fun K m qual st f fd/\Binds K fd ps []/\Meth K C m f/\Cls K C
def G6(K:PySem.W.Frag)(mg:Str->Option Value)(C:Addr)(x qual:Str)(ps:List Str)(st:Stmt):Prop:=∃f fd,Fun K "__init__" qual st f fd/\Binds K fd ps []/\Mk K C f/\mg x=some (.ref C)
theorem Lk{P:Program}{w:World}{K:PySem.W.Frag}{mg:Str->Option Value}{base:Heap}{k:Nat}{C:Addr}{m qual:Str}{N ps:List Str}{st:Stmt}{t:List T->TH->UX->Prop}(d:Ck K C m qual ps st)(Sc:Zv N ps (Zb st))(hl:∀ts S Pp,t ts S Pp->ts.length=ps.length)
  (hb:∀(cdv:Value) (f:Addr) (A:Around) (outer:List Env) (s:Shared) (H:Hp) (E:XK),Room k (A.deeper (envOfC qual (Zb st) s.heap.objs.size f cdv)) →
   ∃tb,USs (cxOf CX0 P w K mg base N qual (Zb st) f cdv A outer s H E).nox (defBody st) tb/\∀ts S Pp,t ts S Pp->tb { nx:=fun _ S'=>Pp .non S',rt:=Pp } (Xm N ts) S):HasM P w K mg base (k+1) C m ps t:=by
 obtain⟨f,fd,F,b,hm,c⟩:=d
 exact⟨f,fd,Pv F Sc hl fun cdv A outer s H E hr=>hb cdv f A outer s H E hr,b,hm,c⟩
theorem Xz{P:Program}{w:World}{K:PySem.W.Frag}{mg:Str->Option Value}{base:Heap}{k:Nat}{C:Addr}{x qual:Str}{N ps:List Str}{st:Stmt}{t:List T->TH->UX->Prop}(d:G6 K mg C x qual ps st)(Sc:Zv N ps (Zb st))(hl:∀ts S Pp,t ts S Pp->ts.length=ps.length)
  (hb:∀(cdv:Value) (f:Addr) (A:Around) (outer:List Env) (s:Shared) (H:Hp) (E:XK),Room k (A.deeper (envOfC qual (Zb st) s.heap.objs.size f cdv)) →
   ∃tb,USs (cxOf CX0 P w K mg base N qual (Zb st) f cdv A outer s H E).nox (defBody st) tb/\∀ts S Pp,t ts S Pp->tb { nx:=fun _ S'=>Pp .non S',rt:=Pp } (Xm N ts) S):HasI P w K mg base (k+1) C x ps t:=by
 obtain⟨f,fd,F,b,M,hm⟩:=d
 exact⟨f,fd,Pv F Sc hl fun cdv A outer s H E hr=>hb cdv f A outer s H E hr,b,M,hm⟩
theorem HasM.mono{P:Program}{w:World}{K:PySem.W.Frag}{mg:Str->Option Value}{base:Heap}{j k:Nat}{C:Addr}{x:Str}{ps:List Str}{t:List T->TH->UX->Prop}(h:HasM P w K mg base j C x ps t)(hk:j<=k):HasM P w K mg base k C x ps t:=by
 obtain⟨f,fd,h1,h2⟩:=h
 exact⟨f,fd,h1.mono hk,h2⟩
theorem HasI.mono{P:Program}{w:World}{K:PySem.W.Frag}{mg:Str->Option Value}{base:Heap}{j k:Nat}{C:Addr}{x:Str}{ps:List Str}{t:List T->TH->UX->Prop}(h:HasI P w K mg base j C x ps t)(hk:j<=k):HasI P w K mg base k C x ps t:=by
 obtain⟨f,fd,h1,h2⟩:=h
 exact⟨f,fd,h1.mono hk,h2⟩
end TL
end
section
namespace L2
open PySem PySem.Spec PyProof.Rows
inductive PlV:V->Prop where
 |non:PlV .non
 |bl (b:Bool):PlV (.bl b)
 |int (i:Int):PlV (.int i)
 |str (x:Str):PlV (.str x)
def pEq:V->V->Bool
 | .non,.non=>true
 | .bl a,.bl b=>a==b
 | .int a,.int b=>a==b
 | .str a,.str b=>a==b
 | .bl a,.int b=>(if a then 1 else 0)==b
 | .int a,.bl b=>a==(if b then 1 else 0)
 |_,_=>false
inductive EqD(K:PySem.W.Frag)(H:Hp):Nat->V->V->Bool->Prop where
 |pp {n:Nat} {x y:V}:PlV x->PlV y->EqD K H n x y (pEq x y)
 |lp {n:Nat} {a:Addr} {xs:List V} {y:V}:SqL K H a xs->PlV y->EqD K H n (.ref a) y false
 |pl {n:Nat} {a:Addr} {xs:List V} {x:V}:PlV x->SqL K H a xs->EqD K H n x (.ref a) false
 |tp {n:Nat} {a:Addr} {xs:List V} {y:V}:SqT K H a xs->PlV y->EqD K H n (.ref a) y false
 |pt {n:Nat} {a:Addr} {xs:List V} {x:V}:PlV x->SqT K H a xs->EqD K H n x (.ref a) false
 |lt {n:Nat} {a b:Addr} {xs ys:List V}:SqL K H a xs->SqT K H b ys->EqD K H n (.ref a) (.ref b) false
 |tl {n:Nat} {a b:Addr} {xs ys:List V}:SqT K H a xs->SqL K H b ys->EqD K H n (.ref a) (.ref b) false
 |ln {n:Nat} {a b:Addr} {xs ys:List V}:SqL K H a xs->SqL K H b ys->xs.length≠ys.length->EqD K H n (.ref a) (.ref b) false
 |ll {n:Nat} {a b:Addr} {xs ys:List V} (e:Nat->Bool):SqL K H a xs->SqL K H b ys->xs.length=ys.length->(∀(i:Nat) x y,xs[i]?=some x->ys[i]?=some y->EqD K H n x y (e i))->EqD K H (n+1) (.ref a) (.ref b) ((List.range xs.length).all e)
 |tt {n:Nat} {a b:Addr} {xs ys:List V} (e:Nat->Bool):SqT K H a xs->SqT K H b ys->(∀(i:Nat) x y,xs[i]?=some x->ys[i]?=some y->EqD K H n x y (e i))->EqD K H (n+1) (.ref a) (.ref b) ((List.range (min xs.length ys.length)).all e&&xs.length==ys.length)
section
variable{X:Cx}{pins:List (Addr×Obj)}{σ:St}{H:Hp}{s:Shared}
theorem Inv.lt_ne(I:Inv X pins σ H s){a b:Addr}{xs ys:List V}(h:SqL X.K H a xs)(h':SqT X.K H b ys):a≠b:=by
 obtain⟨its,r,p1,_⟩:=I.list h
 obtain⟨jts,r',p2,_⟩:=I.tuple h'
 exact SeqAt.ne_of_list_tuple p1.isList p2
theorem EqD.self(I:Inv X pins σ H s){n:Nat}{x y:V}{b:Bool}(h:EqD X.K H n x y b):x=y->b=true:=by
 induction h with
 |pp hx hy=>intro e;subst e;cases hx <;> simp[pEq]
 |lp _ hy=>intro e;subst e;cases hy
 |pl hx _=>intro e;subst e;cases hx
 |tp _ hy=>intro e;subst e;cases hy
 |pt hx _=>intro e;subst e;cases hx
 |lt h1 h2=>intro e;cases e;exact absurd rfl (I.lt_ne h1 h2)
 |tl h1 h2=>intro e;cases e;exact absurd rfl (I.lt_ne h2 h1)
 |ln h1 h2 hl=>intro e;cases e;exact absurd (congrArg List.length (I.list_inj h1 h2)) hl
 |ll e h1 h2 hl _ ih =>
  intro z;cases z
  have:=I.list_inj h1 h2
  subst this
  rw[List.all_eq_true]
  intro i hi
  have hi':=List.mem_range.mp hi
  exact ih i _ _ (List.getElem?_eq_getElem hi') (List.getElem?_eq_getElem hi') rfl
 |tt e h1 h2 _ ih =>
  intro z;cases z
  have:=I.tuple_inj h1 h2
  subst this
  rw[Bool.and_eq_true]
  refine⟨?_,by simp⟩
  rw[List.all_eq_true]
  intro i hi
  have hi':=List.mem_range.mp hi
  rw[Nat.min_self] at hi'
  exact ih i _ _ (List.getElem?_eq_getElem hi') (List.getElem?_eq_getElem hi') rfl
theorem Eg{its jts:List Value}{xs ys:List V}(r:Vals xs its)(r':Vals ys jts){A:Around}{e:Nat->Bool}(h:∀(i:Nat) x y,xs[i]?=some x->ys[i]?=some y->∀u w',RelV x u->RelV y w'->SeqAt.EqAt A s u w' (e i)):∀j (h1:j<its.toArray.size) (h2:j<jts.toArray.size),SeqAt.EqAt A s its.toArray[j] jts.toArray[j] (e j):=fun j h1 h2=>by
 have e1:its[j]?=some its.toArray[j]:=by simp at h1;simp[h1]
 have e2:jts[j]?=some jts.toArray[j]:=by simp at h2;simp[h2]
 obtain⟨x,ex,rx⟩:=Ps r e1
 obtain⟨y,ey,ry⟩:=Ps r' e2
 exact h j x y ex ey _ _ rx ry
theorem EqD.eqAt(I:Inv X pins σ H s){n:Nat}{x y:V}{b:Bool}(h:EqD X.K H n x y b):∀(A:Around) (u w':Value),A.units+n<cLine->RelV x u->RelV y w'->SeqAt.EqAt A s u w' b:=by
 induction h with
 |pp hx hy =>
  intro A u w' hu r1 r2
  cases hx <;> cases hy
  ·cases r1;cases r2;exact SeqAt.EqAt.same _
  ·cases r1;cases r2;exact SeqAt.EqAt.none_bool _
  ·cases r1;obtain⟨t2,rfl⟩:=r2;exact SeqAt.EqAt.none_int _ _
  ·cases r1;obtain⟨t2,rfl⟩:=r2;exact SeqAt.EqAt.none_str _ _
  ·cases r1;cases r2;exact SeqAt.EqAt.bool_none _
  ·cases r1;cases r2;exact SeqAt.EqAt.bool_bool _ _
  ·cases r1;obtain⟨t2,rfl⟩:=r2;exact SeqAt.EqAt.bool_int _ _ _
  ·cases r1;obtain⟨t2,rfl⟩:=r2;exact SeqAt.EqAt.bool_str _ _ _
  ·obtain⟨t1,rfl⟩:=r1;cases r2;exact SeqAt.EqAt.int_none _ _
  ·obtain⟨t1,rfl⟩:=r1;cases r2;exact SeqAt.EqAt.int_bool _ _ _
  ·obtain⟨t1,rfl⟩:=r1;obtain⟨t2,rfl⟩:=r2;exact SeqAt.EqAt.int_int _ _ _ _
  ·obtain⟨t1,rfl⟩:=r1;obtain⟨t2,rfl⟩:=r2;exact SeqAt.EqAt.int_str _ _ _ _
  ·obtain⟨t1,rfl⟩:=r1;cases r2;exact SeqAt.EqAt.str_none _ _
  ·obtain⟨t1,rfl⟩:=r1;cases r2;exact SeqAt.EqAt.str_bool _ _ _
  ·obtain⟨t1,rfl⟩:=r1;obtain⟨t2,rfl⟩:=r2;exact SeqAt.EqAt.str_int _ _ _ _
  ·obtain⟨t1,rfl⟩:=r1;obtain⟨t2,rfl⟩:=r2;exact SeqAt.EqAt.str_str _ _ _ _
 |lp hq hy =>
  intro A u w' hu r1 r2
  cases r1
  obtain⟨its,r,p1,_⟩:=I.list hq
  cases hy
  ·cases r2;exact SeqAt.EqAt.list_none p1.isList (by omega)
  ·cases r2;exact SeqAt.EqAt.list_bool _ p1.isList (by omega)
  ·obtain⟨t2,rfl⟩:=r2;exact SeqAt.EqAt.list_int _ _ p1.isList (by omega)
  ·obtain⟨t2,rfl⟩:=r2;exact SeqAt.EqAt.list_str _ _ p1.isList (by omega)
 |pl hx hq =>
  intro A u w' hu r1 r2
  cases r2
  obtain⟨its,r,p1,_⟩:=I.list hq
  cases hx
  ·cases r1;exact SeqAt.EqAt.none_list p1.isList (by omega)
  ·cases r1;exact SeqAt.EqAt.bool_list _ p1.isList (by omega)
  ·obtain⟨t2,rfl⟩:=r1;exact SeqAt.EqAt.int_list _ _ p1.isList (by omega)
  ·obtain⟨t2,rfl⟩:=r1;exact SeqAt.EqAt.str_list _ _ p1.isList (by omega)
 |tp hq hy =>
  intro A u w' hu r1 r2
  cases r1
  obtain⟨its,r,p1,_⟩:=I.tuple hq
  cases hy
  ·cases r2;exact SeqAt.EqAt.tuple_none p1 (by omega)
  ·cases r2;exact SeqAt.EqAt.tuple_bool _ p1 (by omega)
  ·obtain⟨t2,rfl⟩:=r2;exact SeqAt.EqAt.tuple_int _ _ p1 (by omega)
  ·obtain⟨t2,rfl⟩:=r2;exact SeqAt.EqAt.tuple_str _ _ p1 (by omega)
 |pt hx hq =>
  intro A u w' hu r1 r2
  cases r2
  obtain⟨its,r,p1,_⟩:=I.tuple hq
  cases hx
  ·cases r1;exact SeqAt.EqAt.none_tuple p1 (by omega)
  ·cases r1;exact SeqAt.EqAt.bool_tuple _ p1 (by omega)
  ·obtain⟨t2,rfl⟩:=r1;exact SeqAt.EqAt.int_tuple _ _ p1 (by omega)
  ·obtain⟨t2,rfl⟩:=r1;exact SeqAt.EqAt.str_tuple _ _ p1 (by omega)
 |lt h1 h2 =>
  intro A u w' hu r1 r2
  cases r1;cases r2
  obtain⟨its,r,p1,_⟩:=I.list h1
  obtain⟨jts,r',p2,_⟩:=I.tuple h2
  exact SeqAt.EqAt.list_tuple p1.isList p2 (by omega)
 |tl h1 h2 =>
  intro A u w' hu r1 r2
  cases r1;cases r2
  obtain⟨its,r,p1,_⟩:=I.tuple h1
  obtain⟨jts,r',p2,_⟩:=I.list h2
  exact SeqAt.EqAt.tuple_list p1 p2.isList (by omega)
 | @ln n a b xs ys h1 h2 hl =>
  intro A u w' hu r1 r2
  cases r1;cases r2
  obtain⟨its,r,p1,_⟩:=I.list h1
  obtain⟨jts,r',p2,_⟩:=I.list h2
  have l1:=r.length
  have l2:=r'.length
  by_cases e':a=b
  ·exact absurd (congrArg List.length (I.list_inj h1 (e' ▸ h2))) hl
  exact SeqAt.EqAt.of_refs e' (SeqAt.RcAt.lists_lengths p1.isList p2.isList (by simp;omega) (by omega))
 | @ll n a b xs ys e h1 h2 hl hs ih =>
  intro A u w' hu r1 r2
  cases r1;cases r2
  obtain⟨its,r,p1,_⟩:=I.list h1
  obtain⟨jts,r',p2,_⟩:=I.list h2
  have l1:=r.length
  have l2:=r'.length
  have q:=SeqAt.RcAt.lists (A:=A) p1.isList p2.isList (by simp;omega) (by omega) (Eg (e:=e) r r' fun i x y ex ey u w' rx ry=>ih i x y ex ey A.in1 u w' (by show A.units+1+n<cLine;omega) rx ry)
  rw[show its.toArray.size=xs.length by simp;omega] at q
  by_cases e':a=b
  ·have:=EqD.self I (.ll e h1 h2 hl hs) (by rw[e'])
   rw[this,e']
   exact SeqAt.EqAt.same _
  exact SeqAt.EqAt.of_refs e' q
 | @tt n a b xs ys e h1 h2 hs ih =>
  intro A u w' hu r1 r2
  cases r1;cases r2
  obtain⟨its,r,p1,_⟩:=I.tuple h1
  obtain⟨jts,r',p2,_⟩:=I.tuple h2
  have l1:=r.length
  have l2:=r'.length
  have q:=SeqAt.RcAt.tuples (A:=A) (show s.heap.IsTuple a its.toArray from p1) (show s.heap.IsTuple b jts.toArray from p2) (by omega) (Eg (e:=e) r r' fun i x y ex ey u w' rx ry=>ih i x y ex ey A.in1 u w' (by show A.units+1+n<cLine;omega) rx ry)
  rw[show its.toArray.size=xs.length by simp;omega,show jts.toArray.size=ys.length by simp;omega] at q
  by_cases e':a=b
  ·have:=EqD.self I (.tt e h1 h2 hs) (by rw[e'])
   rw[this,e']
   exact SeqAt.EqAt.same _
  exact SeqAt.EqAt.of_refs e' q
theorem EqD.rc(I:Inv X pins σ H s){n:Nat}{x y:V}{b:Bool}(h:EqD X.K H n x y b):∀(A:Around) (u w':Value),A.units+n<cLine->RelV x u->RelV y w'->SeqAt.RcAt A s u w' b:=by
 cases h with
 |pp hx hy =>
  intro A u w' hu r1 r2
  cases hx <;> cases hy
  ·cases r1;cases r2;exact SeqAt.RcAt.none_none
  ·cases r1;cases r2;exact SeqAt.RcAt.none_bool _
  ·cases r1;obtain⟨t2,rfl⟩:=r2;exact SeqAt.RcAt.none_int _ _
  ·cases r1;obtain⟨t2,rfl⟩:=r2;exact SeqAt.RcAt.none_str _ _
  ·cases r1;cases r2;exact SeqAt.RcAt.bool_none _
  ·cases r1;cases r2;exact SeqAt.RcAt.bool_bool _ _
  ·cases r1;obtain⟨t2,rfl⟩:=r2;exact SeqAt.RcAt.bool_int _ _ _
  ·cases r1;obtain⟨t2,rfl⟩:=r2;exact SeqAt.RcAt.bool_str _ _ _
  ·obtain⟨t1,rfl⟩:=r1;cases r2;exact SeqAt.RcAt.int_none _ _
  ·obtain⟨t1,rfl⟩:=r1;cases r2;exact SeqAt.RcAt.int_bool _ _ _
  ·obtain⟨t1,rfl⟩:=r1;obtain⟨t2,rfl⟩:=r2;exact SeqAt.RcAt.int_int _ _ _ _
  ·obtain⟨t1,rfl⟩:=r1;obtain⟨t2,rfl⟩:=r2;exact SeqAt.RcAt.int_str _ _ _ _
  ·obtain⟨t1,rfl⟩:=r1;cases r2;exact SeqAt.RcAt.str_none _ _
  ·obtain⟨t1,rfl⟩:=r1;cases r2;exact SeqAt.RcAt.str_bool _ _ _
  ·obtain⟨t1,rfl⟩:=r1;obtain⟨t2,rfl⟩:=r2;exact SeqAt.RcAt.str_int _ _ _ _
  ·obtain⟨t1,rfl⟩:=r1;obtain⟨t2,rfl⟩:=r2;exact SeqAt.RcAt.str_str _ _ _ _
 |lp hq hy =>
  intro A u w' hu r1 r2
  cases r1
  obtain⟨its,r,p1,_⟩:=I.list hq
  cases hy
  ·cases r2;exact SeqAt.RcAt.list_none p1.isList (by omega)
  ·cases r2;exact SeqAt.RcAt.list_bool _ p1.isList (by omega)
  ·obtain⟨t2,rfl⟩:=r2;exact SeqAt.RcAt.list_int _ _ p1.isList (by omega)
  ·obtain⟨t2,rfl⟩:=r2;exact SeqAt.RcAt.list_str _ _ p1.isList (by omega)
 |pl hx hq =>
  intro A u w' hu r1 r2
  cases r2
  obtain⟨its,r,p1,_⟩:=I.list hq
  cases hx
  ·cases r1;exact SeqAt.RcAt.none_list p1.isList (by omega)
  ·cases r1;exact SeqAt.RcAt.bool_list _ p1.isList (by omega)
  ·obtain⟨t2,rfl⟩:=r1;exact SeqAt.RcAt.int_list _ _ p1.isList (by omega)
  ·obtain⟨t2,rfl⟩:=r1;exact SeqAt.RcAt.str_list _ _ p1.isList (by omega)
 |tp hq hy =>
  intro A u w' hu r1 r2
  cases r1
  obtain⟨its,r,p1,_⟩:=I.tuple hq
  cases hy
  ·cases r2;exact SeqAt.RcAt.tuple_none p1 (by omega)
  ·cases r2;exact SeqAt.RcAt.tuple_bool _ p1 (by omega)
  ·obtain⟨t2,rfl⟩:=r2;exact SeqAt.RcAt.tuple_int _ _ p1 (by omega)
  ·obtain⟨t2,rfl⟩:=r2;exact SeqAt.RcAt.tuple_str _ _ p1 (by omega)
 |pt hx hq =>
  intro A u w' hu r1 r2
  cases r2
  obtain⟨its,r,p1,_⟩:=I.tuple hq
  cases hx
  ·cases r1;exact SeqAt.RcAt.none_tuple p1 (by omega)
  ·cases r1;exact SeqAt.RcAt.bool_tuple _ p1 (by omega)
  ·obtain⟨t2,rfl⟩:=r1;exact SeqAt.RcAt.int_tuple _ _ p1 (by omega)
  ·obtain⟨t2,rfl⟩:=r1;exact SeqAt.RcAt.str_tuple _ _ p1 (by omega)
 |lt h1 h2 =>
  intro A u w' hu r1 r2
  cases r1;cases r2
  obtain⟨its,r,p1,_⟩:=I.list h1
  obtain⟨jts,r',p2,_⟩:=I.tuple h2
  exact SeqAt.RcAt.list_tuple p1.isList p2 (by omega)
 |tl h1 h2 =>
  intro A u w' hu r1 r2
  cases r1;cases r2
  obtain⟨its,r,p1,_⟩:=I.tuple h1
  obtain⟨jts,r',p2,_⟩:=I.list h2
  exact SeqAt.RcAt.tuple_list p1 p2.isList (by omega)
 | @ln n a b xs ys h1 h2 hl =>
  intro A u w' hu r1 r2
  cases r1;cases r2
  obtain⟨its,r,p1,_⟩:=I.list h1
  obtain⟨jts,r',p2,_⟩:=I.list h2
  have l1:=r.length
  have l2:=r'.length
  exact SeqAt.RcAt.lists_lengths p1.isList p2.isList (by simp;omega) (by omega)
 | @ll n a b xs ys e h1 h2 hl hs =>
  intro A u w' hu r1 r2
  cases r1;cases r2
  obtain⟨its,r,p1,_⟩:=I.list h1
  obtain⟨jts,r',p2,_⟩:=I.list h2
  have l1:=r.length
  have l2:=r'.length
  have q:=SeqAt.RcAt.lists (A:=A) p1.isList p2.isList (by simp;omega) (by omega) (Eg (e:=e) r r' fun i x y ex ey u w' rx ry=>(hs i x y ex ey).eqAt I A.in1 u w' (by show A.units+1+n<cLine;omega) rx ry)
  rw[show its.toArray.size=xs.length by simp;omega] at q
  exact q
 | @tt n a b xs ys e h1 h2 hs =>
  intro A u w' hu r1 r2
  cases r1;cases r2
  obtain⟨its,r,p1,_⟩:=I.tuple h1
  obtain⟨jts,r',p2,_⟩:=I.tuple h2
  have l1:=r.length
  have l2:=r'.length
  have q:=SeqAt.RcAt.tuples (A:=A) (show s.heap.IsTuple a its.toArray from p1) (show s.heap.IsTuple b jts.toArray from p2) (by omega) (Eg (e:=e) r r' fun i x y ex ey u w' rx ry=>(hs i x y ex ey).eqAt I A.in1 u w' (by show A.units+1+n<cLine;omega) rx ry)
  rw[show its.toArray.size=xs.length by simp;omega,show jts.toArray.size=ys.length by simp;omega] at q
  exact q
theorem EqD.rcNe(I:Inv X pins σ H s){n:Nat}{x y:V}{b:Bool}(h:EqD X.K H n x y b):∀(A:Around) (u w':Value),A.units+n<cLine->RelV x u->RelV y w'->SeqAt.RcNeAt A s u w' (!b):=by
 cases h with
 |pp hx hy =>
  intro A u w' hu r1 r2
  cases hx <;> cases hy
  ·cases r1;cases r2;exact SeqAt.RcNeAt.none_none
  ·cases r1;cases r2;exact SeqAt.RcNeAt.none_bool _
  ·cases r1;obtain⟨t2,rfl⟩:=r2;exact SeqAt.RcNeAt.none_int _ _
  ·cases r1;obtain⟨t2,rfl⟩:=r2;exact SeqAt.RcNeAt.none_str _ _
  ·cases r1;cases r2;exact SeqAt.RcNeAt.bool_none _
  ·cases r1;cases r2;exact SeqAt.RcNeAt.bool_bool _ _
  ·cases r1;obtain⟨t2,rfl⟩:=r2;exact SeqAt.RcNeAt.bool_int _ _ _
  ·cases r1;obtain⟨t2,rfl⟩:=r2;exact SeqAt.RcNeAt.bool_str _ _ _
  ·obtain⟨t1,rfl⟩:=r1;cases r2;exact SeqAt.RcNeAt.int_none _ _
  ·obtain⟨t1,rfl⟩:=r1;cases r2;exact SeqAt.RcNeAt.int_bool _ _ _
  ·obtain⟨t1,rfl⟩:=r1;obtain⟨t2,rfl⟩:=r2;exact SeqAt.RcNeAt.int_int _ _ _ _
  ·obtain⟨t1,rfl⟩:=r1;obtain⟨t2,rfl⟩:=r2;exact SeqAt.RcNeAt.int_str _ _ _ _
  ·obtain⟨t1,rfl⟩:=r1;cases r2;exact SeqAt.RcNeAt.str_none _ _
  ·obtain⟨t1,rfl⟩:=r1;cases r2;exact SeqAt.RcNeAt.str_bool _ _ _
  ·obtain⟨t1,rfl⟩:=r1;obtain⟨t2,rfl⟩:=r2;exact SeqAt.RcNeAt.str_int _ _ _ _
  ·obtain⟨t1,rfl⟩:=r1;obtain⟨t2,rfl⟩:=r2;exact SeqAt.RcNeAt.str_str _ _ _ _
 |lp hq hy =>
  intro A u w' hu r1 r2
  cases r1
  obtain⟨its,r,p1,_⟩:=I.list hq
  cases hy
  ·cases r2;exact SeqAt.RcNeAt.list_none p1.isList (by omega)
  ·cases r2;exact SeqAt.RcNeAt.list_bool _ p1.isList (by omega)
  ·obtain⟨t2,rfl⟩:=r2;exact SeqAt.RcNeAt.list_int _ _ p1.isList (by omega)
  ·obtain⟨t2,rfl⟩:=r2;exact SeqAt.RcNeAt.list_str _ _ p1.isList (by omega)
 |pl hx hq =>
  intro A u w' hu r1 r2
  cases r2
  obtain⟨its,r,p1,_⟩:=I.list hq
  cases hx
  ·cases r1;exact SeqAt.RcNeAt.none_list p1.isList (by omega)
  ·cases r1;exact SeqAt.RcNeAt.bool_list _ p1.isList (by omega)
  ·obtain⟨t2,rfl⟩:=r1;exact SeqAt.RcNeAt.int_list _ _ p1.isList (by omega)
  ·obtain⟨t2,rfl⟩:=r1;exact SeqAt.RcNeAt.str_list _ _ p1.isList (by omega)
 |tp hq hy =>
  intro A u w' hu r1 r2
  cases r1
  obtain⟨its,r,p1,_⟩:=I.tuple hq
  cases hy
  ·cases r2;exact SeqAt.RcNeAt.tuple_none p1 (by omega)
  ·cases r2;exact SeqAt.RcNeAt.tuple_bool _ p1 (by omega)
  ·obtain⟨t2,rfl⟩:=r2;exact SeqAt.RcNeAt.tuple_int _ _ p1 (by omega)
  ·obtain⟨t2,rfl⟩:=r2;exact SeqAt.RcNeAt.tuple_str _ _ p1 (by omega)
 |pt hx hq =>
  intro A u w' hu r1 r2
  cases r2
  obtain⟨its,r,p1,_⟩:=I.tuple hq
  cases hx
  ·cases r1;exact SeqAt.RcNeAt.none_tuple p1 (by omega)
  ·cases r1;exact SeqAt.RcNeAt.bool_tuple _ p1 (by omega)
  ·obtain⟨t2,rfl⟩:=r1;exact SeqAt.RcNeAt.int_tuple _ _ p1 (by omega)
  ·obtain⟨t2,rfl⟩:=r1;exact SeqAt.RcNeAt.str_tuple _ _ p1 (by omega)
 |lt h1 h2 =>
  intro A u w' hu r1 r2
  cases r1;cases r2
  obtain⟨its,r,p1,_⟩:=I.list h1
  obtain⟨jts,r',p2,_⟩:=I.tuple h2
  exact SeqAt.RcNeAt.list_tuple p1.isList p2 (by omega)
 |tl h1 h2 =>
  intro A u w' hu r1 r2
  cases r1;cases r2
  obtain⟨its,r,p1,_⟩:=I.tuple h1
  obtain⟨jts,r',p2,_⟩:=I.list h2
  exact SeqAt.RcNeAt.tuple_list p1 p2.isList (by omega)
 | @ln n a b xs ys h1 h2 hl =>
  intro A u w' hu r1 r2
  cases r1;cases r2
  obtain⟨its,r,p1,_⟩:=I.list h1
  obtain⟨jts,r',p2,_⟩:=I.list h2
  have l1:=r.length
  have l2:=r'.length
  exact SeqAt.RcNeAt.lists_lengths p1.isList p2.isList (by simp;omega) (by omega)
 | @ll n a b xs ys e h1 h2 hl hs =>
  intro A u w' hu r1 r2
  cases r1;cases r2
  obtain⟨its,r,p1,_⟩:=I.list h1
  obtain⟨jts,r',p2,_⟩:=I.list h2
  have l1:=r.length
  have l2:=r'.length
  have q:=SeqAt.RcNeAt.lists (A:=A) p1.isList p2.isList (by simp;omega) (by omega) (Eg (e:=e) r r' fun i x y ex ey u w' rx ry=>(hs i x y ex ey).eqAt I A.in1 u w' (by show A.units+1+n<cLine;omega) rx ry)
  rw[show its.toArray.size=xs.length by simp;omega] at q
  exact q
 | @tt n a b xs ys e h1 h2 hs =>
  intro A u w' hu r1 r2
  cases r1;cases r2
  obtain⟨its,r,p1,_⟩:=I.tuple h1
  obtain⟨jts,r',p2,_⟩:=I.tuple h2
  have l1:=r.length
  have l2:=r'.length
  have q:=SeqAt.RcNeAt.tuples (A:=A) (show s.heap.IsTuple a its.toArray from p1) (show s.heap.IsTuple b jts.toArray from p2) (by omega) (Eg (e:=e) r r' fun i x y ex ey u w' rx ry=>(hs i x y ex ey).eqAt I A.in1 u w' (by show A.units+1+n<cLine;omega) rx ry)
  rw[show its.toArray.size=xs.length by simp;omega,show jts.toArray.size=ys.length by simp;omega] at q
  exact q
def rEqG(K:PySem.W.Frag)(neg:Bool):R2:=fun x y H Q=>∃n b,n<=60/\EqD K H n x y b/\Q (.bl (Bool.xor neg b)) H
theorem Acm(hu:X.A.units+64<cLine):OpR X (compareOp .Eq) (rEqG X.K false):=by
 intro pins s σ H x y v u Q I rx ry h
 obtain⟨n,b,hn,hd,q⟩:=h
 rw[Bool.false_xor] at q
 exact hd.rc I X.A v u (by omega) rx ry X.prog X.w _ _ ⟨.bl b,H,I,rfl,q⟩
theorem Abf(hu:X.A.units+64<cLine):OpR X (compareOp .NotEq) (rEqG X.K true):=by
 intro pins s σ H x y v u Q I rx ry h
 obtain⟨n,b,hn,hd,q⟩:=h
 rw[Bool.true_xor] at q
 exact hd.rcNe I X.A v u (by omega) rx ry X.prog X.w _ _ ⟨.bl (!b),H,I,rfl,q⟩
end
end L2
end
section
namespace TL
open PySem PySem.Spec PyProof.Rows L2
def plT:T->Bool
 | .non=>true | .bl _=>true | .int _=>true | .str _=>true|_=>false
def pEqT:T->T->Bool
 | .non,.non=>true
 | .bl a,.bl b=>a==b
 | .int a,.int b=>a==b
 | .str a,.str b=>a==b
 | .bl a,.int b=>(if a then 1 else 0)==b
 | .int a,.bl b=>a==(if b then 1 else 0)
 |_,_=>false
def sqT:T->Option (Bool×List T)
 | .lst ts=>some (true,ts)
 | .fls ts=>some (true,ts)
 | .tup ts=>some (false,ts)
 |_=>none
def teq:Nat->T->T->Bool
 | 0,t,u=>plT t&&plT u&&pEqT t u
 |n+1,t,u=>match sqT t,sqT u with
  |some (k,xs),some (l,ys)=>k==l&&(xs.length==ys.length&&(List.range xs.length).all fun i=>teq n (xs.getD i .non) (ys.getD i .non))
  |_,_=>plT t&&plT u&&pEqT t u
inductive DatQ:Nat->T->Prop where
 |p {n:Nat} {t:T}:plT t=true->DatQ n t
 |s {n:Nat} {t:T} {k:Bool} {ts:List T}:sqT t=some (k,ts)->(∀x∈ts,DatQ n x)->DatQ (n+1) t
section
variable{K:PySem.W.Frag}{S:TH}{H:Hp}
inductive VQ(K:PySem.W.Frag)(S:TH)(H:Hp):V->T->Prop where
 |p {v:V} {t:T}:plT t=true->Rep K S H v t->VQ K S H v t
 |l {a:Addr} {vs:List V} {t:T} {ts:List T}:sqT t=some (true,ts)->SqL K H a vs->Reps K S H vs ts->VQ K S H (.ref a) t
 |t {a:Addr} {vs:List V} {t:T} {ts:List T}:sqT t=some (false,ts)->SqT K H a vs->Reps K S H vs ts->VQ K S H (.ref a) t
theorem DatQ.view{n:Nat}{t:T}{v:V}(h:DatQ n t)(r:Rep K S H v t):VQ K S H v t:=by
 cases h with
 |p h=>exact .p h r
 |s h _ =>
  cases t with
  |lst ts=>obtain⟨a,vs,rfl,f,r⟩:=r.lstE;exact .l rfl f.sq r
  |fls ts=>obtain⟨a,vs,rfl,f,r⟩:=r.flsE;exact .l rfl f.sq r
  |tup ts=>obtain⟨a,vs,rfl,f,r⟩:=r.tupE;exact .t rfl f.sq r
  |_=>cases h
theorem Gs{v:V}{t:T}(h:plT t=true)(r:Rep K S H v t):PlV v:=by
 cases t with
 |non=>cases r;exact .non
 |bl b=>cases r;exact .bl b
 |int i=>cases r;exact .int i
 |str x=>cases r;exact .str x
 |_=>cases h
theorem Va{v w:V}{t u:T}(h:plT t=true)(h':plT u=true)(r:Rep K S H v t)(r':Rep K S H w u):pEq v w=pEqT t u:=by
 cases t <;> first|(cases h;done)|skip
 all_goals (cases u <;> first|(cases h';done)|skip)
 all_goals (cases r;cases r';rfl)
theorem Fg{t:T}{k:Bool}{ts:List T}(h:sqT t=some (k,ts)):plT t=false:=by
 cases t <;> first|rfl|cases h
theorem DatQ.kids{n:Nat}{t:T}{k:Bool}{ts:List T}(h:DatQ n t)(e:sqT t=some (k,ts)):∃m,n=m+1/\∀x∈ts,DatQ m x:=by
 cases h with
 |p h=>rw[Fg e] at h;cases h
 | @s n _ _ _ h g=>rw[e] at h;cases h;exact⟨n,rfl,g⟩
theorem Ux:∀{n:Nat} {v w:V} {t u:T},VQ K S H v t->VQ K S H w u->DatQ n t->DatQ n u->EqD K H n v w (teq n t u):=by
 intro n
 induction n with
 |zero =>
  intro v w t u h1 h2 d1 d2
  cases d1 with
  |p p1 =>
   cases d2 with
   |p p2 =>
    cases h1 with
    |p _ r1 =>
     cases h2 with
     |p _ r2 =>
      have q:=EqD.pp (K:=K) (H:=H) (n:=0) (Gs p1 r1) (Gs p2 r2)
      rw[Va p1 p2 r1 r2] at q
      unfold teq
      rw[p1,p2]
      exact q
     |l e _ _=>rw[Fg e] at p2;cases p2
     |t e _ _=>rw[Fg e] at p2;cases p2
    |l e _ _=>rw[Fg e] at p1;cases p1
    |t e _ _=>rw[Fg e] at p1;cases p1
 |succ n ih =>
  intro v w t u h1 h2 d1 d2
  have sqn:∀{t:T},plT t=true->sqT t=none:=fun {t} h=>by cases t <;> first|rfl|cases h
  have at':∀{vs:List V} {ts:List T} {i:Nat} {x:V},Reps K S H vs ts->vs[i]?=some x->ts[i]?=some (ts.getD i .non)/\Rep K S H x (ts.getD i .non):=fun {vs ts i x} r e=>by
   have hi:=(List.getElem?_eq_some_iff.mp e).1
   have hl:=r.1
   have e2:ts[i]?=some (ts.getD i .non):=by
    rw[List.getD_eq_getElem?_getD,List.getElem?_eq_getElem (by omega)];rfl
   exact⟨e2,r.2 i x _ e e2⟩
  have in':∀{vs ws:List V} {ts us:List T},Reps K S H vs ts->Reps K S H ws us->(∀x∈ts,DatQ n x)->(∀x∈us,DatQ n x)->∀(i:Nat) x y,vs[i]?=some x->ws[i]?=some y->EqD K H n x y (teq n (ts.getD i .non) (us.getD i .non)):=fun r r' g g' i x y ex ey=>by
   obtain⟨a1,a2⟩:=at' r ex
   obtain⟨b1,b2⟩:=at' r' ey
   have m1:=g _ (List.mem_of_getElem? a1)
   have m2:=g' _ (List.mem_of_getElem? b1)
   exact ih (m1.view a2) (m2.view b2) m1 m2
  unfold teq
  cases h1 with
  |p p1 r1 =>
   rw[sqn p1,p1]
   cases h2 with
   |p p2 r2 =>
    rw[p2]
    have q:=EqD.pp (K:=K) (H:=H) (n:=n+1) (Gs p1 r1) (Gs p2 r2)
    rw[Va p1 p2 r1 r2] at q
    exact q
   |l e q _=>rw[Fg e];exact .pl (Gs p1 r1) q
   |t e q _=>rw[Fg e];exact .pt (Gs p1 r1) q
  | @l a vs _ ts e q r =>
   obtain⟨m,em,g⟩:=d1.kids e
   cases em
   rw[e]
   cases h2 with
   |p p2 r2=>rw[sqn p2,Fg e];exact .lp q (Gs p2 r2)
   | @l b ws _ us e' q' r' =>
    obtain⟨m',em',g'⟩:=d2.kids e'
    cases em'
    rw[e']
    have l1:=r.1
    have l2:=r'.1
    by_cases hl:ts.length=us.length
    ·have z:=EqD.ll (K:=K) (H:=H) (fun i=>teq n (ts.getD i .non) (us.getD i .non)) q q' (by omega) (in' r r' g g')
     rw[l1] at z
     simpa [hl] using z
    ·have z:=EqD.ln (K:=K) (H:=H) (n:=n+1) q q' (by omega)
     have hb:(ts.length==us.length)=false:=by simpa using hl
     simpa [hb] using z
   | @t b ws _ us e' q' r'=>rw[e'];exact .lt q q'
  | @t a vs _ ts e q r =>
   obtain⟨m,em,g⟩:=d1.kids e
   cases em
   rw[e]
   cases h2 with
   |p p2 r2=>rw[sqn p2,Fg e];exact .tp q (Gs p2 r2)
   | @l b ws _ us e' q' r'=>rw[e'];exact .tl q q'
   | @t b ws _ us e' q' r' =>
    obtain⟨m',em',g'⟩:=d2.kids e'
    cases em'
    rw[e']
    have l1:=r.1
    have l2:=r'.1
    have z:=EqD.tt (K:=K) (H:=H) (fun i=>teq n (ts.getD i .non) (us.getD i .non)) q q' (in' r r' g g')
    rw[l1,l2] at z
    by_cases hl:ts.length=us.length
    ·simpa [hl] using z
    ·have hb:(ts.length==us.length)=false:=by simpa using hl
     simpa [hb] using z
def cv(S:TH):T->T
 | .ref a=>match S a with
  |some (.lst ts)=>.lst ts
  |_=>.ref a
 |t=>t
theorem O7{n:Nat}{v:V}{t:T}(g:Good K S H)(r:Rep K S H v t)(d:DatQ n (cv S t)):VQ K S H v (cv S t):=by
 cases t with
 |ref a =>
  cases r
  unfold cv at d ⊢
  dsimp only at d ⊢
  cases hc:S a with
  |none=>rw[hc] at d;cases d with
   |p h=>cases h
   |s h _=>cases h
  |some c =>
   cases c with
   |lst ts =>
    obtain⟨vs,hH,r⟩:=g a _ hc
    exact .l rfl (.inl (.inl hH)) r
   |_=>rw[hc] at d;cases d with
    |p h=>cases h
    |s h _=>cases h
 |_=>exact d.view r
def oEqG(neg:Bool):T->T->TH->UX->Prop:=fun x y S P=>∃n,n<=60/\DatQ n (cv S x)/\DatQ n (cv S y)/\P (.bl (Bool.xor neg (teq n (cv S x) (cv S y)))) S
theorem lEqG{neg:Bool}:LOp K (rEqG K neg) (oEqG neg):=fun S H v w x y P Q g rx ry ho fin=>by
 obtain⟨n,hn,d1,d2,h⟩:=ho
 exact⟨n,_,hn,Ux (O7 g rx d1) (O7 g ry d2) d1 d2,fin _ _ S H .refl g (.bl _) h⟩
end
inductive DatN:Nat->T->Prop where
 |non {n:Nat}:DatN n .non
 |int {n:Nat} (i:Int):DatN n (.int i)
 |str {n:Nat} (x:Str):DatN n (.str x)
 |lst {n:Nat} {ts:List T}:(∀t∈ts,DatN n t)->DatN (n+1) (.lst ts)
 |tup {n:Nat} {ts:List T}:(∀t∈ts,DatN n t)->DatN (n+1) (.tup ts)
theorem DatN.q{n:Nat}{t:T}(h:DatN n t):DatQ n t:=by
 induction h with
 |non=>exact .p rfl
 |int i=>exact .p rfl
 |str x=>exact .p rfl
 |lst _ ih=>exact .s rfl ih
 |tup _ ih=>exact .s rfl ih
theorem DatN.mono{n:Nat}{t:T}(h:DatN n t):∀{m:Nat},n<=m->DatN m t:=by
 induction h with
 |non=>intro _ _;exact .non
 |int i=>intro _ _;exact .int i
 |str x=>intro _ _;exact .str x
 |lst _ ih=>intro m hm;cases m with
  |zero=>omega
  |succ m=>exact .lst fun t ht=>ih t ht (by omega)
 |tup _ ih=>intro m hm;cases m with
  |zero=>omega
  |succ m=>exact .tup fun t ht=>ih t ht (by omega)
theorem Nb{n:Nat}{t:T}(h:DatQ n t):teq n t t=true:=by
 induction h with
 | @p n t h =>
  have hp:pEqT t t=true:=by cases t <;> first|(cases h;done)|simp[pEqT]
  have hs:sqT t=none:=by cases t <;> first|rfl|cases h
  cases n with
  |zero=>unfold teq;rw[h,hp];rfl
  |succ n=>unfold teq;rw[hs,h,hp];rfl
 | @s n t k ts e _ ih =>
  unfold teq
  rw[e]
  simp only[beq_self_eq_true,Bool.true_and,List.all_eq_true]
  intro i hi
  have hi':=List.mem_range.mp hi
  have e2:ts[i]?=some (ts.getD i .non):=by rw[List.getD_eq_getElem?_getD,List.getElem?_eq_getElem hi'];rfl
  exact ih _ (List.mem_of_getElem? e2)
theorem Vm:∀{n:Nat} {t u:T},DatN n t->DatN n u->teq n t u=true->t=u:=by
 have lists:∀{n:Nat} {xs ys:List T},(∀{t u:T},DatN n t->DatN n u->teq n t u=true->t=u)->(∀x∈xs,DatN n x)->(∀x∈ys,DatN n x)->(xs.length==ys.length&&(List.range xs.length).all fun i=>teq n (xs.getD i .non) (ys.getD i .non))=true->xs=ys:=fun {n xs ys} ih h1 h2 h=>by
  rw[Bool.and_eq_true,beq_iff_eq,List.all_eq_true] at h
  obtain⟨hl,ha⟩:=h
  apply List.ext_getElem hl
  intro i p1 p2
  have:=ha i (List.mem_range.mpr p1)
  rw[List.getD_eq_getElem?_getD,List.getD_eq_getElem?_getD,List.getElem?_eq_getElem p1,List.getElem?_eq_getElem p2] at this
  exact ih (h1 _ (List.getElem_mem p1)) (h2 _ (List.getElem_mem p2)) this
 intro n
 induction n with
 |zero =>
  intro t u h1 h2 h
  cases h1 <;> cases h2 <;> simp_all [teq,plT,pEqT]
 |succ n ih =>
  intro t u h1 h2 h
  unfold teq at h
  cases h1 with
  |lst g=>cases h2 with
   |lst g'=>exact congrArg T.lst (lists ih g g' (by simpa [sqT] using h))
   |_=>simp[sqT,plT,pEqT] at h
  |tup g=>cases h2 with
   |tup g'=>exact congrArg T.tup (lists ih g g' (by simpa [sqT] using h))
   |_=>simp[sqT,plT,pEqT] at h
  |non=>cases h2 <;> simp_all [sqT,plT,pEqT]
  |int i=>cases h2 <;> simp_all [sqT,plT,pEqT]
  |str x=>cases h2 <;> simp_all [sqT,plT,pEqT]
section
variable{X:Cx}{a b:Expr}{ta tb:UTE}{pos:Pos}
theorem Nk(hu:X.A.units+64<cLine)(ha:UE X a ta)(hb:UE X b tb):UT X (.Compare a [.Eq] [b] pos) (A3 (Aq (oEqG false) ta tb)):=Di (Acm hu) lEqG ha hb (Dc _)
theorem Tu(hu:X.A.units+64<cLine)(ha:UE X a ta)(hb:UE X b tb):UT X (.Compare a [.NotEq] [b] pos) (A3 (Aq (oEqG true) ta tb)):=Di (Abf hu) lEqG ha hb (Dc _)
end
end TL
end
section
namespace L2
open PySem PySem.Spec PyProof.Rows
end L2
end
section
namespace TL
open PySem PySem.Spec PyProof.Rows L2
end TL
end
section
namespace L2
open PySem PySem.Spec PyProof.Rows
def ExO(h:Heap)(e:Addr)(cls tb:Value):Prop:=∃vs,h.get? e=some { cls:=cls,data:=.fields vs }/\vs[1]?=some tb
def TbO(h:Heap)(T:Addr)(fl:Value):Prop:=∃oT ts,h.get? T=some oT/\oT.data=.fields ts/\ts[3]?=some fl
structure Nt(fs:List Addr)(e:Addr)(hd:Value)(h h':Heap):Prop where
 keep:∀b o,h.get? b=some o->b≠e->hd≠.ref b->b ∉ fs->h'.get? b=some o
 slot:∀b o,h.get? b=some o->b∈fs->∃sl,h'.get? b=some { o with slots:=sl }
section
variable{M:Model}{A:Around}{E:Value->Shared->Prop}{s:Shared}{base:Heap}{env:Env}{outer:List Env}{L e T:Addr}{cls hd fl:Value}{Q:Unit->Shared->Prop}
theorem R1{h:Heap}{a:Addr}{vs:Array Value}{c:Value}{i:Nat}{x:Value}(he:h.get? a=some { cls:=c,data:=.fields vs }):(h.update a (Obj.mapFields (·.setIfInBounds i x))).get? a=some { cls:=c,data:=.fields (vs.setIfInBounds i x) } :=
 Heap.get?_update_self (Obj.mapFields (·.setIfInBounds i x)) he rfl
theorem Jq{hadNext:Bool}(hfr:A.frames=some (env::outer))(hl:s.heap.FunFrames base (env::outer))(hf:env.frame=some L)(he:ExO s.heap e cls hd)
  (h:∀h' T,(∀b o,s.heap.get? b=some o->b≠e->b ∉ frs (env::outer)->h'.get? b=some o)->(∀b o,s.heap.get? b=some o->b∈frs (env::outer)->∃sl,h'.get? b=some { o with slots:=sl })->ExO h' e cls (.ref T)->s.heap.get? T=none->TbO h' T (rawInt L)->Q () { s with heap:=h' }) :
  wpAny M A (do let a ← frameOf env;let pl ← entryPlaceOf L hadNext;let b ← EntryCells.newEntry hd a .none (rawInt L) .none pl;setField (.ref e) 1 b) Q E s:=by
 obtain⟨vs,e1,e2⟩:=he
 have hsz:1<vs.size:=(Array.getElem?_eq_some_iff.mp e2).1
 have nf:e ∉ frs (env::outer):=fun m=>by
  obtain⟨_,o,ho,hd⟩:=hl.mem m
  rw[e1] at ho;cases ho;exact hd vs rfl
 refine wpAny_bind (wpAny_frameOf_fun hfr hl hf fun h₁ hs₁=>?_)
 refine wpAny_bind (wpAny_entryPlaceOf fun pl hpl=>?_)
 unfold EntryCells.newEntry newFields
 refine wpAny_bind (wpAny_newObj_type ?_ (hpl.sizeOk5 _ _ _ _ _))
 have a1:h₁.get? e=some { cls:=cls,data:=.fields vs }:=(hs₁.2.1 e nf).trans e1
 have a2:=Heap.get?_push_of_some (h:=h₁) { cls:=.type "traceback",dict:=none,data:=.fields ([hd,.ref L,.none,rawInt L,.none]++(if pl.isEmpty then List.replicate 6 Value.none else pl)).toArray } a1
 have ne:h₁.objs.size≠e:=Nat.ne_of_gt (Heap.lt_size a1)
 refine wpAny_setField a2 rfl hsz (h _ h₁.objs.size (fun b o q n1 n2=>?_) (fun b o q m=>?_) ⟨_,R1 a2,by simp[hsz]⟩ ?_ ⟨_,_,(Heap.get?_update_other _ _ (Ne.symm ne)).trans (Heap.get?_push_size h₁ rfl),rfl,by first|(simp;done)|(rcases hpl with rfl|⟨_,_,_,_,_,_,_,rfl⟩ <;> simp)⟩)
 ·rw[Heap.get?_update_other _ _ (Ne.symm n1)]
  exact Heap.get?_push_of_some _ ((hs₁.2.1 b n2).trans q)
 ·obtain⟨sl,q1⟩:=hs₁.2.2 b o q
  have n1:b≠e:=fun z=>nf (z ▸ m)
  exact⟨sl,by rw[Heap.get?_update_other _ _ (Ne.symm n1)];exact Heap.get?_push_of_some _ q1⟩
 ·cases q:s.heap.get? h₁.objs.size with
  |none=>rfl
  |some o =>
   obtain⟨sl,q1⟩:=hs₁.2.2 _ o q
   exact absurd (Heap.lt_size q1) (Nat.lt_irrefl _)
theorem Mv(hfr:A.frames=some (env::outer))(hl:s.heap.FunFrames base (env::outer))(hf:env.frame=some L)(he:ExO s.heap e cls hd)(ht:hd=.none\/∃T,hd=.ref T/\T≠e/\TbO s.heap T .none)
  (h:∀h' T,Nt (frs (env::outer)) e hd s.heap h'->ExO h' e cls (.ref T)->s.heap.get? T=none->TbO h' T (rawInt L)->Q () { s with heap:=h' }):wpAny M A (noteFrame (.ref e) env) Q E s:=by
 obtain⟨vs,e1,e2⟩:=id he
 unfold noteFrame
 simp only[hf]
 refine wpAny_bind (wpAny_field e1 rfl e2 ?_)
 rcases ht with rfl|⟨T,rfl,ne,oT,ts,t1,t2,t3⟩
 ·rw[if_neg (by decide)]
  exact Jq hfr hl hf he fun h' T k1 k2 x n t=>h h' T ⟨fun b o q n1 _ n2=>k1 b o q n1 n2,k2⟩ x n t
 ·rw[if_pos (show (Value.ref T != Value.none)=true from by simp)]
  refine wpAny_bind (wpAny_field t1 t2 t3 ?_)
  rw[if_neg (show ¬ ((Value.none==rawInt L)=true) from by simp[rawInt])]
  refine wpAny_bind (wpAny_setField t1 t2 (Array.getElem?_eq_some_iff.mp t3).1 ?_)
  have other:∀b,b≠T->(s.heap.update T (Obj.mapFields (·.setIfInBounds 3 Value.none))).get? b=s.heap.get? b:=fun b hb=>Heap.get?_update_other _ _ (Ne.symm hb)
  have nT:T ∉ frs (env::outer):=fun m=>by
   obtain⟨_,o,ho,hd⟩:=hl.mem m
   rw[t1] at ho;cases ho;exact hd ts t2
  refine Jq (s:={ s with heap:=s.heap.update T (Obj.mapFields (·.setIfInBounds 3 Value.none)) }) hfr (hl.of_keeps fun b o hb hnf=>⟨o,(other b fun z=>by rw[z,t1] at hb;cases hb;exact hnf ts t2).trans hb,rfl⟩) hf ⟨vs,(other e (Ne.symm ne)).trans e1,e2⟩ fun h' T' k1 k2 x n t=>h h' T' ⟨fun b o q n1 n3 n2=>?_,fun b o q m=>?_⟩ x ?_ t
  ·have nb:b≠T:=fun z=>n3 (by rw[z])
   exact k1 b o ((other b nb).trans q) n1 n2
  ·have nb:b≠T:=fun z=>nT (z ▸ m)
   exact k2 b o ((other b nb).trans q) m
  ·by_cases z:T'=T
   ·exact absurd n (by
     rw[z,Heap.get?_update_self _ t1 (Obj.isFreed_of_fields (Obj.data_mapFields t2 _))]
     exact fun y=>nomatch y)
   ·rw[<-other T' z];exact n
theorem Iu(he:ExO s.heap e cls (.ref T))(ne:T≠e)(ht:TbO s.heap T fl)
  (h:∀h',(∀b o,s.heap.get? b=some o->b≠T->h'.get? b=some o)->ExO h' e cls (.ref T)->TbO h' T .none->Q () { s with heap:=h' }):wpAny M A (setFlight (.ref e) none) Q E s:=by
 obtain⟨vs,e1,e2⟩:=he
 obtain⟨oT,ts,t1,t2,t3⟩:=ht
 have hsz3:3<ts.size:=(Array.getElem?_eq_some_iff.mp t3).1
 have other:∀b,b≠T->(s.heap.update T (Obj.mapFields (·.setIfInBounds 3 Value.none))).get? b=s.heap.get? b:=fun b hb=>Heap.get?_update_other _ _ (Ne.symm hb)
 unfold setFlight
 refine wpAny_bind (wpAny_field e1 rfl e2 ?_)
 rw[if_pos (show (Value.ref T != Value.none)=true from by simp)]
 exact wpAny_setField t1 t2 hsz3 (h _ (fun b o q n=>(other b n).trans q) ⟨vs,(other e (Ne.symm ne)).trans e1,e2⟩ ⟨_,_,Heap.get?_update_self _ t1 (Obj.isFreed_of_fields (Obj.data_mapFields t2 _)),Obj.data_mapFields t2 _,by simp[hsz3]⟩)
theorem Kl(hfr:A.frames=some (env::outer))(hl:s.heap.FunFrames base (env::outer))(hf:env.frame=some L)(he:ExO s.heap e cls hd)(ht:hd=.none\/∃T,hd=.ref T/\T≠e/\TbO s.heap T .none)
  (h:∀h' T,Nt (frs (env::outer)) e hd s.heap h'->ExO h' e cls (.ref T)->s.heap.get? T=none->TbO h' T .none->Q () { s with heap:=h' }):wpAny M A (leaving env (.ref e)) Q E s:=by
 unfold leaving
 refine wpAny_bind (Mv hfr hl hf he ht fun h' T k x n t=>?_)
 have ne:T≠e:=fun z=>by
  obtain⟨_,e1,_⟩:=he
  rw[z,e1] at n;cases n
 refine Iu (s:={ s with heap:=h' }) x ne t fun h'' k' x' t'=>h h'' T ⟨fun b o q n1 n2 n3=>k' b o (k.keep b o q n1 n2 n3) fun z=>?_,fun b o q m=>?_⟩ x' n t'
 ·rw[z,n] at q;cases q
 ·obtain⟨sl,q1⟩:=k.slot b o q m
  exact⟨sl,k' b _ q1 fun z=>by rw[z,n] at q;cases q⟩
end
end L2
end
section
namespace L2
open PySem PySem.Spec PyProof.Rows
theorem ObjOk.got{P:Program}{w:World}{H:Hp}{h:Heap}{a:Addr}{o:HO}(x:ObjOk P w H h a o):∃u,h.get? a=some u:=by
 cases o with
 |lst xs=>obtain⟨_,_,_,_,e⟩:=x;exact⟨_,e⟩
 |tup xs=>obtain⟨_,_,_,o,e,_⟩:=x;exact⟨_,e⟩
 |dK kvs=>obtain⟨_,_,_,_,o,_,_,e,_⟩:=x;exact⟨_,e⟩
 |dT kvs=>obtain⟨_,_,_,_,o,_,_,e,_⟩:=x;exact⟨_,e⟩
 |set S n=>obtain⟨o,_,_,_,e,_⟩:=x;exact⟨_,e⟩
 |ins C dx fs=>obtain⟨_,_,_,e,_⟩:=x;exact⟨_,e⟩
 |own y=>obtain⟨_,e⟩:=x;exact⟨_,e⟩
 |xd fs=>obtain⟨_,⟨_,_,_,e,_⟩,_⟩:=x;exact⟨_,e⟩
 |rng lo hi=>obtain⟨_,_,_,e⟩:=x;exact⟨_,e⟩
 |frz ob u=>obtain⟨e,_⟩:=x;exact⟨_,e⟩
 |tbl ps=>exact⟨_,show h.get? a=some _ from x⟩
 |met f y=>exact⟨_,show h.get? a=some _ from x⟩
 |ext φ=>obtain⟨_,⟨_,e⟩,_⟩:=x;exact⟨_,e⟩
theorem HOk.none_of{P:Program}{w:World}{H:Hp}{h:Heap}{a:Addr}(x:HOk P w H h)(e:h.get? a=none):H a=none:=by
 cases q:H a with
 |none=>rfl
 |some o=>obtain⟨u,hu⟩:=(x a o q).got;rw[e] at hu;cases hu
def Trc(h0:Heap)(H:Hp)(h:Heap)(e:Addr)(cls:Value):Prop:=∃T,ExO h e cls (.ref T)/\T≠e/\TbO h T .none/\h0.get? T=none/\H T=none
def Frs(h:Heap)(e:Addr)(cls:Value):Prop:=ExO h e cls .none
def CXE(P:Program)(w:World):CXT:=fun outer H s E e s'=>∃a cls H',e=.ref a/\s'.os=s.os/\AllBare s'.gens/\Un (frs outer) [] H H' s.heap s'.heap/\HOk P w H' s'.heap/\s.heap.get? a=none/\H' a=none/\Trc s.heap H' s'.heap a cls/\E cls none H'
section
variable{X:Cx}{pins:List (Addr×Obj)}{σ:St}{H H':Hp}{s:Shared}{a:Addr}{cls:Value}
theorem Wj(I:Inv X pins σ H s){hid:List Addr}{h':Heap}(k1:∀b o,s.heap.get? b=some o->b ∉ hid->b ∉ frs X.stack->h'.get? b=some o)(k2:∀b o,s.heap.get? b=some o->b∈frs X.stack->∃sl,h'.get? b=some { o with slots:=sl })
  (hx:X.ex=[]) (hh:∀b∈hid,X.s₀.heap.get? b=none/\H b=none):Un X.fs [] X.H₀ H X.s₀.heap h'/\HOk X.prog X.w H h':=by
 have ub:=I.base
 rw[hx] at ub
 have nh:∀b o,X.s₀.heap.get? b=some o->b ∉ hid:=fun b o e m=>by rw[(hh b m).1] at e;cases e
 have nl:∀b o,X.s₀.heap.get? b=some o->b≠X.env.locals:=fun b o e z=>absurd (Heap.lt_size e) (by rw[z];exact Nat.not_lt.mpr I.ok.above)
 have ns:∀b o,X.s₀.heap.get? b=some o->b ∉ X.fs->b ∉ frs X.stack:=fun b o e n m=>(List.mem_cons.mp (I.stkSub b m)).elim (nl b o e) n
 have any:∀b o,s.heap.get? b=some o->b ∉ hid->∃sl,h'.get? b=some { o with slots:=sl }:=fun b o e n=>by
  by_cases m:b∈frs X.stack
  ·exact k2 b o e m
  ·exact⟨o.slots,k1 b o e n m⟩
 refine⟨⟨fun b o e n f x=>k1 b o (ub.keep b o e n f x) (nh b o e) (ns b o e f),fun b o e n f x=>?_,ub.free,fun b o e x=>?_,ub.tups,ub.frzs,ub.tbls⟩,fun b u e=>?_⟩
 ·obtain⟨sl,h1⟩:=ub.slot b o e n f x
  obtain⟨sl',h2⟩:=any b _ h1 (nh b o e)
  exact⟨sl',h2⟩
 ·obtain⟨o',h1⟩:=ub.there b o e x
  obtain⟨sl',h2⟩:=any b _ h1 (nh b o e)
  exact⟨_,h2⟩
 ·have tr:∀c u,H c=some u->c ∉ hid/\c ∉ frs X.stack:=fun c u q=>⟨fun m=>(by rw[(hh c m).2] at q;cases q),fun m=>(by rw[I.stkFree c m] at q;cases q)⟩
  refine(I.hok b u e).stay (fun c v hc q=>?_) (fun _ q=>q) fun _ _ q=>q
  rcases hc with rfl|hc
  ·exact k1 c v q (tr c u e).1 (tr c u e).2
  ·exact k1 c v q (tr c _ hc).1 (tr c _ hc).2
theorem M5(I:Inv X pins σ H s){E:XK}{EE:Value->Shared->Prop}(hst:X.stack=X.env::X.outer)(hf:X.env.frame=some X.env.locals)(hx:X.ex=[])
  (h0:X.s₀.heap.get? a=none) (hH:H a=none) (hn:a ∉ frs X.stack) (st:Frs s.heap a cls\/Trc X.s₀.heap H s.heap a cls) (hE:E cls none H) :
  wpAny (model X.prog X.w) X.A (leaving X.env (.ref a)) (fun _ s''=>CXE X.prog X.w X.outer X.H₀ X.s₀ E (.ref a) s'') EE s:=by
 have hfr:X.A.frames=some (X.env::X.outer):=by rw[<-hst];exact I.ok.frames
 have hl:=I.stack
 rw[hst] at hl
 have fin:∀(hid:List Addr) (hd:Value) (h':Heap) (T:Addr),(∀b,b=a\/hd=.ref b->b∈hid)->(∀b∈hid,X.s₀.heap.get? b=none/\H b=none)->Nt (frs (X.env::X.outer)) a hd s.heap h'->ExO h' a cls (.ref T)->s.heap.get? T=none->TbO h' T .none →
   s.heap.get? a≠none->CXE X.prog X.w X.outer X.H₀ X.s₀ E (.ref a) { s with heap:=h' }:=fun hid hd h' T hi hh k x n t na=>by
  have k1:∀b o,s.heap.get? b=some o->b ∉ hid->b ∉ frs X.stack->h'.get? b=some o:=fun b o q n1 n2=>k.keep b o q (fun z=>n1 (hi b (.inl z))) (fun z=>n1 (hi b (.inr z))) (by rw[<-hst];exact n2)
  have k2:∀b o,s.heap.get? b=some o->b∈frs X.stack->∃sl,h'.get? b=some { o with slots:=sl }:=fun b o q m=>k.slot b o q (by rw[<-hst];exact m)
  obtain⟨un,hok⟩:=Wj I k1 k2 hx hh
  refine⟨a,cls,H,rfl,I.os,I.bare,un,hok,h0,hH,⟨T,x,fun z=>na (z ▸ n),t,?_,I.hok.none_of n⟩,hE⟩
  cases q0:X.s₀.heap.get? T with
  |none=>rfl
  |some o =>
   obtain⟨o',h1⟩:=I.base.there T o q0 (by rw[hx];simp)
   rw[n] at h1;cases h1
 rcases st with fr|⟨T,x,ne,t,t0,tH⟩
 ·refine Kl hfr hl hf fr (.inl rfl) fun h' T k x n t=>fin [a] .none h' T (fun b z=>?_) (fun b m=>?_) k x n t ?_
  ·rcases z with rfl|z
   ·simp
   ·cases z
  ·have:b=a:=by simpa using m
   subst this;exact⟨h0,hH⟩
  ·obtain⟨_,e1,_⟩:=fr
   rw[e1];exact fun z=>nomatch z
 ·refine Kl hfr hl hf x (.inr ⟨T,rfl,ne,t⟩) fun h' T' k x' n t'=>fin [a,T] (.ref T) h' T' (fun b z=>?_) (fun b m=>?_) k x' n t' ?_
  ·rcases z with rfl|z
   ·simp
   ·cases z;simp
  ·rcases List.mem_cons.mp m with rfl|m
   ·exact⟨h0,hH⟩
   ·have:b=T:=by simpa using m
    subst this;exact⟨t0,tH⟩
  ·obtain⟨_,e1,_⟩:=x
   rw[e1];exact fun z=>nomatch z
theorem Rf(I:Inv X pins σ H s){E:XK}{e:Value}{s':Shared}(hx:X.ex=[])(h:CXE X.prog X.w X.stack H s E e s'):
  ∃a cls H',e=.ref a/\Inv X pins σ H' s'/\s.heap.get? a=none/\X.s₀.heap.get? a=none/\H' a=none/\a ∉ frs X.stack/\Trc s.heap H' s'.heap a cls/\Trc X.s₀.heap H' s'.heap a cls/\E cls none H':=by
 obtain⟨a,cls,H',rfl,os,bare,un,hok,ha,hHa,tr,hE⟩:=h
 have up:∀b,s.heap.get? b=none->X.s₀.heap.get? b=none:=fun b q=>by
  cases q0:X.s₀.heap.get? b with
  |none=>rfl
  |some o =>
   obtain⟨o',h1⟩:=I.base.there b o q0 (by rw[hx];simp)
   rw[q] at h1;cases h1
 refine⟨a,cls,H',rfl,I.call' os un hok bare (fun b m=>absurd m (by simp)),ha,up a ha,hHa,fun m=>?_,tr,?_,hE⟩
 ·obtain⟨_,o,ho,_⟩:=I.stack.mem m
  rw[ha] at ho;cases ho
 ·obtain⟨T,x,ne,t,t0,tH⟩:=tr
  exact⟨T,x,ne,t,up T t0,tH⟩
end
theorem Po{P:Program}{w:World}{K:PySem.W.Frag}{mg:Str->Option Value}{base:Heap}{N:List Str}{qual:Str}{scope:Scope}{f:Addr}{cd:Value}{A:Around}{outer:List Env}{s:Shared}{H:Hp}{E E1:XK}(hE:∀c d H',E1 c d H'->E c d H'):
  Dn (CXE P w) (cxOf (CXE P w) P w K mg base N qual scope f cd A outer s H E) E1:=fun pins σ H1 s1 e s' I h=>by
 obtain⟨a,cls,H',rfl,I',_,h0,hHa,hn,_,tr,hq⟩:=Rf I rfl h
 exact M5 I' rfl rfl rfl h0 hHa hn (.inr tr) (hE _ _ _ hq)
theorem Fun.okE{P:Program}{w:World}{K:PySem.W.Frag}{mg:Str->Option Value}{base:Heap}{x qual:Str}{st:Stmt}{f:Addr}{fd:FuncData}{N ps:List Str}{k:Nat}{sp:Sp}(F:Fun K x qual st f fd)(S:Zv N ps (Zb st))(len:∀vs H Q E,sp vs H Q E->vs.length=ps.length)
  (hbody:∀(cdv:Value) (A:Around) (outer:List Env) (s:Shared) (H:Hp) (vs:List V) (Q:VK) (E:XK),Room k (A.deeper (envOfC qual (Zb st) s.heap.objs.size f cdv))->sp vs H Q E →
   ∃t,PSs (cxOf (CXE P w) P w K mg base N qual (Zb st) f cdv A outer s H E) (defBody st) t/\t { nx:=fun _ H'=>Q .non H',rt:=Q } (start N vs) H):FnOk P w K mg base (CXE P w) (k+1) f fd ps sp:=by
 obtain⟨oc,od,kV,doc,pm,an,cdv,ct,osl,rfl,lk,hcd⟩:=F.ex
 exact Z9 lk hcd S len fun A outer s H vs Q E hr hsp=>hbody cdv A outer s H vs Q E hr hsp
end L2
end
section
namespace L2
open PySem PySem.Spec PyProof.Rows
def N8(X:Cx)(E:XK):Prop:=∀(pins:List (Addr×Obj)) (σ:St) (H:Hp) (s:Shared) (a:Addr) (cls:Value),Inv X pins σ H s->X.s₀.heap.get? a=none->H a=none->a ∉ frs X.stack->Frs s.heap a cls->E cls none H->X.xe (.ref a) s
theorem B4{P:Program}{w:World}{K:PySem.W.Frag}{mg:Str->Option Value}{base:Heap}{N:List Str}{qual:Str}{scope:Scope}{f:Addr}{cd:Value}{A:Around}{outer:List Env}{s:Shared}{H:Hp}{E E1:XK}(hE:∀c d H',E1 c d H'->E c d H'):
  N8 (cxOf (CXE P w) P w K mg base N qual scope f cd A outer s H E) E1:=fun pins σ H s a cls I h0 hH hn fr h=>M5 I rfl rfl rfl h0 hH hn (.inl fr) (hE _ _ _ h)
def Acy(C:Addr)(t:TA)(E:XK):TS:=fun _ σ H=>t σ H fun vs H1=>vs.length<=sizeLine/\E (.ref C) none H1
theorem Y3{K:PySem.W.Frag}{h:Heap}{C:Addr}{bmB:List Value}{newId:String}{x:Str}{mg:Str->Option Value}(X:K.In h)(hm:mg x=some (.ref C))(q:PySem.W.excIn K C bmB newId=true):OwnCls x C bmB newId mg h:=by
 refine⟨hm,?_⟩
 unfold PySem.W.excIn at q
 split at q
 ·rename_i dd cd sl ho
  split at q
  ·rename_i C' bm k0 k1 k2 k3 n k5 hm hs
   simp only[Bool.and_eq_true,beq_iff_eq,Bool.not_eq_true'] at q
   obtain⟨⟨⟨⟨⟨rfl,rfl⟩,hdel⟩,ht⟩,hok⟩,hni⟩:=q
   obtain⟨nm,bs,mro,ns,qn,hd,sn,sub,ab,col,del⟩:=cd
   dsimp only at hm hdel hok hni
   subst hm hdel
   have hsl:sl=#[k0,k1,k2,k3,some (.builtin n),k5]:=by
    obtain⟨l⟩:=sl
    simp only at hs
    rw[hs]
   subst hsl
   exact⟨bm,ns,nm,qn,bs,hd,sn,sub,ab,col,dd,k0,k1,k2,k3,k5,_,X _ _ ho,.of_isNs (PySem.W.isNs_of_in X hok),PySem.W.nsMap_none_of_in X hok hni,PySem.W.tail_of_in X ht⟩
  ·cases q
 ·cases q
section
variable{X:Cx}{x:Str}{C:Addr}{e:Expr}{es:List Expr}{t:TA}{np cpos pos:Pos}{E:XK}{B Bn newId nid initId inN:String}{bmB bmN:List Value}
theorem Uj(hc:X.calm=true)(hex:X.ex=[])(hx:N8 X E)(hg:Gl X x)(hm:X.mg x=some (.ref C))(q:PySem.W.excIn X.K C bmB newId=true)(Fn:ExcBaseFacts Bn newId inN bmN)(hBn:bmB.contains (.type Bn)=true)(FB:ExcBaseFacts B nid initId bmB)
  (ha:PA X (e::es) t) (hdb:(x==("__debug__":Str))=false:=by decide) (he:starEach (e::es) X.env=(false,eval e X.env)::starEach es X.env:=by rfl) (hpl:(backTo cpos (starEach es X.env)).any (·.1)=false:=by rfl) :
  PS X (.Raise (some (.Call (.Name x np) (e::es) [] cpos)) none pos) (Acy C t E):=by
 intro pins s σ H D I h
 obtain⟨tl,N,nm,q',bs,hdct,sn,sub,ab,col,dd,k0,k1,k2,k3,k5,mN,hC,hN,hni,T⟩:=(Y3 (x:=x) (mg:=X.mg) I.ok.mod.kin hm q).obj
 refine wpAny_Raise_call_subU (C:=C) (nm:=nm) (q:=q') (N:=N) (bs:=bs) (bm:=tl) (hdct:=hdct) (sn:=sn) (sub:=sub) (ab:=ab) (col:=col) (dd:=dd) (k0:=k0) (k1:=k1) (k2:=k2) (k3:=k3) (k5:=k5)
  Fn hBn FB (mN:=mN) (T.hasType FB.hasBase) (I.ok.hd hc) (by rw[he];show (false || (backTo cpos (starEach es X.env)).any (·.1))=false;rw[hpl];rfl) hni (Bo I hg hm ⟨rfl,?_⟩ hdb)
 have h1:=ha cpos pins s σ H _ I h
 rw[he] at h1 ⊢
 refine Calls.evalArgs_plain (wpAny_mono h1 (fun us s₂ h₂=>?_) fun _ _ y=>y)
 obtain⟨vs,H1,I1,r,hz,hE⟩:=h₂
 refine⟨rfl,by rw[<-r.length];exact hz,I1.bk _ _ hC,hN.keeps I1.bk,T.keeps I1.bk,fun h' a mk=>?_⟩
 obtain⟨t',e1,_,_⟩:=mk.there
 refine hx pins σ H1 _ a (.ref C) (I1.kept (t':=s₂.toks) mk.keeps) ?_ (I1.hok.none_of mk.new) (fun m=>?_) ⟨_,e1,rfl⟩ hE
 ·cases q0:X.s₀.heap.get? a with
  |none=>rfl
  |some o =>
   obtain⟨o',h1⟩:=I1.base.there a o q0 (by rw[hex];simp)
   rw[mk.new] at h1;cases h1
 ·obtain⟨_,o,ho,_⟩:=I1.stack.mem m
  rw[mk.new] at ho;cases ho
end
end L2
end
section
namespace TL
open PySem PySem.Spec PyProof.Rows L2
abbrev UR:=Value->TH->Prop
def lfX(K:PySem.W.Frag)(S0:TH)(H0:Hp)(t:UTE):TE:=fun σ H Q=>∃S env P,Le S0 H0 S H/\Good K S H/\REnv K S H σ env/\t env S P/\Fin K S H P Q
def lfSX(K:PySem.W.Frag)(S0:TH)(H0:Hp)(t:UTS):TS:=fun D σ H=>∃S env E,Le S0 H0 S H/\Good K S H/\REnv K S H σ env/\t E env S/\FinS K S H E D
def UEX(X:Cx)(S0:TH)(H0:Hp)(e:Expr)(t:UTE):Prop:=PE X e (lfX X.K S0 H0 t)
def UV(X:Cx)(S0:TH)(H0:Hp)(st:Stmt)(t:UTS):Prop:=PS X st (lfSX X.K S0 H0 t)
def UVs(X:Cx)(S0:TH)(H0:Hp)(st:List Stmt)(t:UTS):Prop:=PSs X st (lfSX X.K S0 H0 t)
def XW(K:PySem.W.Frag)(S0:TH)(H0:Hp)(R:UR)(E:XK):Prop:=∀c S' H',Le S0 H0 S' H'->Good K S' H'->R c S'->E c none H'
def spE(K:PySem.W.Frag)(t:List T->TH->UX->UR->Prop):Sp:=fun vs H Q E=>∃S ts P R,Good K S H/\Reps K S H vs ts/\t ts S P R/\Fin K S H P Q/\XW K S H R E
section
variable{X:Cx}{S0:TH}{H0:Hp}{e c:Expr}{es:List Expr}{st:Stmt}{sts aa bb body:List Stmt}{te:UTE}{t u:UTS}{tA:UTT}{tr:UTA}{pos p:Pos}{E:XK}{R:UR}
theorem US.x(h:US X st t):UV X S0 H0 st t:=PS.imp h fun _ _ _ ⟨S,env,E,_,g,re,h,fin⟩=>⟨S,env,E,g,re,h,fin⟩
theorem B2:UVs X S0 H0 [] Ds:=PSs.imp Qc fun D σ H ⟨S,env,E,_,g,re,h,fin⟩=>fin.nx σ env S H .refl g re h
theorem Ai(h1:UV X S0 H0 st t)(h2:UVs X S0 H0 sts u):UVs X S0 H0 (st::sts) (A8 t u):=PSs.imp (Me h1 h2) fun D σ H ⟨S,env,E,l0,g,re,h,fin⟩ =>
 ⟨S,env,_,l0,g,re,h,⟨fun σ' env' S' H' le g' re' hn=>⟨S',env',E,l0.trans le,g',re',hn,fin.le le⟩,fin.rt,fin.bk,fin.ct⟩⟩
theorem As(h1:UV X S0 H0 st t):UVs X S0 H0 [st] t:=PSs.imp (O9 h1) fun _ _ _ h=>h
theorem Ml{K:PySem.W.Frag}{σ:L2.St}{H:Hp}{S:TH}{env:Ev}{k:T->TH->Prop}{Q:VK}(l0:Le S0 H0 S H)(m:Mid K σ H S env)(h:te env S k)
  (q:∀v r S1 H1,Le S H S1 H1->Mid K σ H1 S1 env->Rep K S1 H1 v r->k r S1->Q v H1):lfX K S0 H0 te σ H Q :=
 ⟨S,env,k,l0,m.g,m.re,h,fun v r S1 H1 le g1 rp hk=>q v r S1 H1 le ⟨g1,m.re.mono le⟩ rp hk⟩
theorem K8(he:UEX X S0 H0 e te)(hs:swapsWith e none pos.line X.env=pure false:=by rfl):UV X S0 H0 (.Expr e pos) (Dp te):=PS.imp (P0 he hs) fun D σ H ⟨S,env,E,l0,g,re,h,fin⟩ =>
 Ml l0 ⟨g,re⟩ h fun v x S1 H1 le1 m1 rx h1=>fin.nx σ env S1 H1 le1 m1.g m1.re h1
theorem Aec(he:UEX X S0 H0 e te):UV X S0 H0 (.Return (some e) pos) (Ia te):=PS.imp (Wb he) fun D σ H ⟨S,env,E,l0,g,re,h,fin⟩ =>
 Ml l0 ⟨g,re⟩ h fun v x S1 H1 le1 m1 rx h1=>fin.rt v x S1 H1 le1 m1.g rx h1
theorem Fk(hc:UT X c tA)(ha:UVs X S0 H0 aa t)(hb:UVs X S0 H0 bb u):UV X S0 H0 (.If c aa bb pos) (uIf tA t u):=PS.imp (Aal hc ha hb) fun D σ H ⟨S,env,E,l0,g,re,h,fin⟩ =>
 Bx ⟨g,re⟩ h fun k S1 H1 le1 m1 hk=>by
  cases k with
  |true=>rw[if_pos rfl];exact⟨S1,env,E,l0.trans le1,m1.g,m1.re,hk.1 rfl,fin.le le1⟩
  |false=>rw[if_neg Bool.false_ne_true];exact⟨S1,env,E,l0.trans le1,m1.g,m1.re,hk.2 rfl,fin.le le1⟩
theorem Nu{tg iter:Expr}{ti:UTA}{gg:UTG}(hp:PassesOwn (model X.prog X.w) X.A X.env X.xe)(hc:X.calm=true)(hi:UI X tg iter ti)(hg:UG X tg gg)(hb:UVs X S0 H0 body t)(hs:∀x,foldedSetIterable iter X.env x=pure x:=by intro _;rfl):
  UV X S0 H0 (.For tg iter body [] pos) (uFor ti gg t):=PS.imp (Tx hp hc hi hg hb hs) fun D σ H h=>by
 obtain⟨S,env,E,l0,g,re,h,fin⟩:=h
 refine⟨S,env,_,g,re,h,fun ts J S1 H1 le1 g1 hq yl=>?_⟩
 obtain⟨Iv,i0,step,done⟩:=hq
 refine⟨fun i m σ' H'=>m=ts.length - i/\i<=ts.length/\∃S' env',Le S1 H1 S' H'/\Good X.K S' H'/\REnv X.K S' H' σ' env'/\Iv i env' S',⟨ts.length,rfl,Nat.zero_le _,S1,env,.refl,g1,re.mono le1,i0⟩,?_⟩
 rintro i m σ' H' ⟨rfl,hi,S',env',le',g',re',iv⟩
 by_cases hlt:i<ts.length
 ·refine .inr ⟨yl.go i S' H' le' g' hlt,fun σ2 H2=>∃S2 env2,Le S1 H1 S2 H2/\Good X.K S2 H2/\REnv X.K S2 H2 σ2 env2/\Iv (i+1) env2 S2,fun σ2 H2 z=>?_,fun x H2 y=>?_⟩
  ·exact⟨ts.length - (i+1),by omega,rfl,hlt,z⟩
  ·obtain⟨le2,g2,tt,et,rt⟩:=yl.yld i S' H' x H2 le' g' hlt y
   refine⟨S',env',tt,_,g2,re'.mono le2,rt,step i tt env' S' et iv,fun σ3 env3 S3 H3 le3 g3 re3 hb3=>?_⟩
   have l03:Le S H S3 H3:=le1.trans (le'.trans (le2.trans le3))
   have l13:Le S1 H1 S3 H3:=le'.trans (le2.trans le3)
   refine⟨S3,env3,_,l0.trans l03,g3,re3,hb3,⟨fun σ4 env4 S4 H4 le4 g4 re4 q=>⟨S4,env4,l13.trans le4,g4,re4,q⟩,fun v r S4 H4 le4 g4 rp q=>fin.rt v r S4 H4 (l03.trans le4) g4 rp q,fun σ4 env4 S4 H4 le4 g4 re4 q=>fin.nx σ4 env4 S4 H4 (l03.trans le4) g4 re4 q,fun σ4 env4 S4 H4 le4 g4 re4 q=>⟨S4,env4,l13.trans le4,g4,re4,q⟩⟩⟩
 ·have ei:i=ts.length:=by omega
  subst ei
  exact .inl ⟨yl.stop S' H' le' g',fin.nx σ' env' S' H' (le1.trans le') g' re' (done env' S' iv)⟩
def Up(t:List T->TH->UX->UR->Prop)(R:UR)(ta:UTA):UTE:=fun env S P=>ta env S fun ts S1=>t ts S1 P R
theorem Tf{k:Nat}{f:Addr}{fd:FuncData}{ps:List Str}{t:List T->TH->UX->UR->Prop}{x:Str}(F:FnOk X.prog X.w X.K X.mg X.base (CXE X.prog X.w) k f fd ps (spE X.K t))(hr:Room k X.A)(hg:Gl X x)(hm:X.mg x=some (.ref f))
  (hk:PySem.W.keepIn X.K (.ref f)=true) (hb:Binds X.K fd ps []) (hp:Dn (CXE X.prog X.w) X E) (hw:XW X.K S0 H0 R E) (ha:UA X (e::es) tr) (hdb:(x==("__debug__":Str))=false:=by decide) (he:starEach (e::es) X.env=(false,eval e X.env)::starEach es X.env:=by rfl)
  (hpl:(backTo pos (starEach es X.env)).any (·.1)=false:=by rfl):UEX X S0 H0 (.Call (.Name x p) (e::es) [] pos) (Up t R tr) :=
 PE.imp (O6 F hr hg hm hk hb .nil hp ha hdb he hpl) fun σ H Q ⟨S,env,P,l0,g,re,h,fin⟩=>Af ⟨g,re⟩ h fun vs xs S1 H1 le1 m1 rx h1=>by
  rw[List.append_nil]
  exact⟨S1,xs,P,R,m1.g,rx,h1,fin.le le1,fun c S' H' le g' r=>hw c S' H' (l0.trans (le1.trans le)) g' r⟩
def Adi(C:Addr)(R:UR)(ta:UTA):UTS:=fun _ env S=>ta env S fun xs S1=>xs.length<=sizeLine/\R (.ref C) S1
theorem Bj{x:Str}{C:Addr}{np cpos:Pos}{B Bn newId nid initId inN:String}{bmB bmN:List Value}(hc:X.calm=true)(hex:X.ex=[])(hx:N8 X E)(hw:XW X.K S0 H0 R E)(hg:Gl X x)(hm:X.mg x=some (.ref C))(q:PySem.W.excIn X.K C bmB newId=true)(Fn:ExcBaseFacts Bn newId inN bmN)(hBn:bmB.contains (.type Bn)=true)(FB:ExcBaseFacts B nid initId bmB)
  (ha:UA X (e::es) tr) (hdb:(x==("__debug__":Str))=false:=by decide) (he:starEach (e::es) X.env=(false,eval e X.env)::starEach es X.env:=by rfl) (hpl:(backTo cpos (starEach es X.env)).any (·.1)=false:=by rfl) :
  UV X S0 H0 (.Raise (some (.Call (.Name x np) (e::es) [] cpos)) none pos) (Adi C R tr) :=
 PS.imp (Uj hc hex hx hg hm q Fn hBn FB ha hdb he hpl) fun D σ H ⟨S,env,P,l0,g,re,h,fin⟩=>Af ⟨g,re⟩ h fun vs xs S1 H1 le1 m1 rx h1 =>
  ⟨by rw[rx.1];exact h1.1,hw _ S1 H1 (l0.trans le1) m1.g h1.2⟩
end
def Ep(P:Program)(w:World)(K:PySem.W.Frag)(mg:Str->Option Value)(base:Heap)(k:Nat)(x:Str)(ps:List Str)(t:List T->TH->UX->UR->Prop):Prop :=
 ∃f fd,FnOk P w K mg base (CXE P w) k f fd ps (spE K t)/\Binds K fd ps []/\PySem.W.keepIn K (.ref f)=true/\mg x=some (.ref f)
theorem Ff{P:Program}{w:World}{K:PySem.W.Frag}{mg:Str->Option Value}{base:Heap}{k:Nat}{x:Str}{N ps:List Str}{st:Stmt}{t:List T->TH->UX->UR->Prop}(d:Aa K mg x ps st)(Sc:Zv N ps (Zb st))(hl:∀ts S Pp R,t ts S Pp R->ts.length=ps.length)
  (hb:∀(cdv:Value) (f:Addr) (A:Around) (outer:List Env) (s:Shared) (H:Hp) (E:XK) (S0:TH) (R:UR),Room k (A.deeper (envOfC x (Zb st) s.heap.objs.size f cdv))->XW K S0 H R E →
   ∃tb,UVs (cxOf (CXE P w) P w K mg base N x (Zb st) f cdv A outer s H E) S0 H (defBody st) tb/\∀ts Pp,t ts S0 Pp R->tb { nx:=fun _ S'=>Pp .non S',rt:=Pp } (Xm N ts) S0):Ep P w K mg base (k+1) x ps t:=by
 obtain⟨f,fd,F,b,hm⟩:=d
 refine⟨f,fd,Fun.okE F Sc (fun vs H Q E ⟨S,ts,Pp,R,g,r,q,_⟩=>by rw[r.1];exact hl _ _ _ _ q) fun cdv A outer s H vs Q E hr ⟨S,ts,Pp,R,g,r,q,fin,hw⟩=>?_,b,F.kp,hm⟩
 obtain⟨tb,h1,h2⟩:=hb cdv f A outer s H E S R hr hw
 exact⟨_,h1,S,Xm N ts,_,.refl,g,Ic r,h2 ts Pp q,⟨fun σ' env' S' H' le g' re' hp=>fin .non .non S' H' le g' .non hp,fun v r S' H' le g' rp hp=>fin v r S' H' le g' rp hp,fun _ _ _ _ _ _ _ z=>z,fun _ _ _ _ _ _ _ z=>z⟩⟩
end TL
end
section
namespace L2
open PySem PySem.Spec PyProof.Rows
section
variable{X:Cx}{pins:List (Addr×Obj)}{σ:St}{H:Hp}{s:Shared}
theorem Aas(I:Inv X pins σ H s){E:XK}{e:Value}{s':Shared}(h:CXE X.prog X.w X.stack H s E e s'):
  ∃a cls H' T,e=.ref a/\ExO s'.heap a cls (.ref T)/\T≠a/\TbO s'.heap T .none/\s'.heap.FunFrames X.base X.stack/\(∀h'',Nt (frs X.stack) a (.ref T) s'.heap h''->Inv X pins σ H' { s' with heap:=h'' })/\s.heap.get? a=none/\H' a=none/\E cls none H':=by
 obtain⟨a,cls,H',rfl,os,bare,un,hok,ha,hHa,⟨T,x,ne,t,t0,tH⟩,hE⟩:=h
 have I':Inv X pins σ H' s':=I.call' os un hok bare (fun b m=>absurd m (by simp))
 refine⟨a,cls,H',T,rfl,x,ne,t,I'.stack,fun h'' k=>?_,ha,hHa,hE⟩
 have nh:∀b o,s.heap.get? b=some o->b≠a/\(Value.ref T≠.ref b):=fun b o q=>⟨fun z=>(by rw[z,ha] at q;cases q),fun z=>(by cases z;rw[t0] at q;cases q)⟩
 have any:∀b o,s'.heap.get? b=some o->(b≠a/\(Value.ref T≠.ref b))->∃sl,h''.get? b=some { o with slots:=sl }:=fun b o q n=>by
  by_cases m:b∈frs X.stack
  ·exact k.slot b o q m
  ·exact⟨o.slots,k.keep b o q n.1 n.2 m⟩
 have un2:Un (frs X.stack) [] H H' s.heap h'':=by
  refine⟨fun b o q n f x=>k.keep b o (un.keep b o q n f x) (nh b o q).1 (nh b o q).2 f,fun b o q n f x=>?_,un.free,fun b o q x=>?_,un.tups,un.frzs,un.tbls⟩
  ·obtain⟨sl,h1⟩:=un.slot b o q n f x
   obtain⟨sl',h2⟩:=any b _ h1 (nh b o q)
   exact⟨sl',h2⟩
  ·obtain⟨o',h1⟩:=un.there b o q x
   obtain⟨sl',h2⟩:=any b _ h1 (nh b o q)
   exact⟨_,h2⟩
 have hok2:HOk X.prog X.w H' h'':=fun b u q=>by
  have tr':∀c u,H' c=some u->c≠a/\Value.ref T≠.ref c/\c ∉ frs X.stack:=fun c u z=>⟨fun y=>(by rw[y,hHa] at z;cases z),fun y=>(by cases y;rw[tH] at z;cases z),fun m=>(by rw[I'.stkFree c m] at z;cases z)⟩
  refine(hok b u q).stay (fun c v hc z=>?_) (fun _ z=>z) fun _ _ z=>z
  rcases hc with rfl|hc
  ·exact k.keep c v z (tr' c u q).1 (tr' c u q).2.1 (tr' c u q).2.2
  ·exact k.keep c v z (tr' c _ hc).1 (tr' c _ hc).2.1 (tr' c _ hc).2.2
 exact I.call' (s':={ s' with heap:=h'' }) os un2 hok2 bare (fun b m=>absurd m (by simp))
end
end L2
end
section
namespace L2
open PySem PySem.Spec PyProof.Rows
section
variable{M:Model}{A:Around}{E:Value->Shared->Prop}
variable{nm q:Str}{C N:Addr}{bs bm:List Value}{hdct:Bool}{sn:List Str}{sub:List Value}{ab:Bool}{col:Option Bool}{dd:Option Addr}{k0 k1 k2 k3 k5:Option Value}{newId:String}
variable{nm' q':Str}{C' N':Addr}{bs' bm':List Value}{hdct':Bool}{sn':List Str}{sub':List Value}{ab':Bool}{col':Option Bool}{dd':Option Addr}{k0' k1' k2' k3' k5':Option Value}{newId':String}
theorem B9{h:Heap}{g:Array GenState}{d:Drawn}{t:Nat}{os:OsState}{e:Addr}{oe:Obj}{Q:Bool->Shared->Prop}
  (hC:h.get? C=some (excClassObj nm q C N bs bm hdct sn sub ab col dd k0 k1 k2 k3 k5 newId)) (hC':h.get? C'=some (excClassObj nm' q' C' N' bs' bm' hdct' sn' sub' ab' col' dd' k0' k1' k2' k3' k5' newId')) (he:h.get? e=some oe) (hcls:oe.cls=.ref C) (hbase:bm'.contains (.type "BaseException")=true)
  (hq:Q ((Value.ref C::bm).contains (.ref C')) ⟨h,g,d,t,os⟩):wpAny M A (excMatches (.ref e) (.ref C')) Q E ⟨h,g,d,t,os⟩:=by
 have hcB:(Value.ref C'::bm').contains (.type "BaseException")=true:=by rw[List.contains_cons,hbase,Bool.or_true]
 have f:=tc_notTuple
 unfold excMatches
 repeat (first|(with_reducible refine wpAny_loadPart_at he ?_;rw[hcls])|with_reducible refine wpAny_loadPart_at hC' ?_|(with_reducible refine wpAny_isSubtype_exc hC' ?_;rw[hcB])|with_reducible refine wpAny_isSubtype_exc hC ?_|wp_step)
 cases hb:(Value.ref C::bm).contains (.ref C') <;> (rw[hb] at hq;first|exact hq|(wp_walk;exact hq))
end
def Eh(K:PySem.W.Frag)(C C':Addr):Bool:=match K.lookup C with
 |some ⟨.type "type",_,.cls cd,sl⟩=>(match cd.mro,sl.toList with
  | .ref D::bm,[_,_,_,_,some (.builtin _),_]=>D==C&&!cd.hasDel&&(Value.ref C::bm).contains (.ref C')
  |_,_=>false)
 |_=>false
theorem Pi{K:PySem.W.Frag}{h:Heap}{C C':Addr}(X:K.In h)(q:Eh K C C'=true):∃nm qn N bs bm hdct sn sub ab col dd k0 k1 k2 k3 k5 newId,
  h.get? C=some (excClassObj nm qn C N bs bm hdct sn sub ab col dd k0 k1 k2 k3 k5 newId)/\(Value.ref C::bm).contains (.ref C')=true:=by
 unfold Eh at q
 split at q
 ·rename_i dd cd sl ho
  split at q
  ·rename_i D bm k0 k1 k2 k3 n k5 hm hs
   simp only[Bool.and_eq_true,beq_iff_eq,Bool.not_eq_true'] at q
   obtain⟨⟨rfl,hdel⟩,ht⟩:=q
   obtain⟨nm,bs,mro,ns,qn,hd,sn,sub,ab,col,del⟩:=cd
   dsimp only at hm hdel
   subst hm hdel
   have hsl:sl=#[k0,k1,k2,k3,some (.builtin n),k5]:=by
    obtain⟨l⟩:=sl
    simp only at hs
    rw[hs]
   subst hsl
   exact⟨nm,qn,ns,bs,bm,hd,sn,sub,ab,col,dd,k0,k1,k2,k3,k5,n,X _ _ ho,ht⟩
  ·cases q
 ·cases q
def Cx.hnd(X:Cx)(a:Addr)(oe:Obj):Cx:={ X with A:=X.A.mark (some (.ref a)),calm:=false,pn:=(a,oe)::X.pn,xe:=fun _ _=>False }
section
variable{X:Cx}{pins:List (Addr×Obj)}{σ:St}{H:Hp}{s:Shared}{a:Addr}{oe:Obj}
theorem Inv.hnd(I:Inv X pins σ H s)(h1:s.heap.get? a=some oe)(h2:H a=none)(h3:a≠X.env.locals)(h4:a ∉ X.fs)(h5:∀v,oe.data≠.cell v):Inv (X.hnd a oe) pins σ H s :=
 ⟨⟨I.ok.mod,I.ok.kind,I.ok.glob,I.ok.blt,I.ok.above,I.ok.inj,I.ok.has,I.ok.cab,fun z=>(by cases z),I.ok.frames,I.ok.stk,I.ok.exf,I.ok.bs,I.ok.bsz,I.ok.noex,I.ok.exfs,I.ok.funs,I.ok.frf⟩,I.os,I.bare,I.base,I.loc,I.cell,I.free,I.freeC,fun p hp=>by
  rcases List.mem_cons.mp (show p∈(a,oe)::(X.pn++pins) from hp) with rfl|hp
  ·exact⟨h1,h2,h3,h4,h5⟩
  ·exact I.pin p hp,I.hok,I.len⟩
theorem Inv.unhnd(J:Inv (X.hnd a oe) pins σ H s)(ok:X.Ok):Inv X pins σ H s :=
 ⟨ok,J.os,J.bare,J.base,J.loc,J.cell,J.free,J.freeC,fun p hp=>J.pin p (List.mem_cons_of_mem _ hp),J.hok,J.len⟩
theorem Wp{k:Nat}{f:Addr}{fd:FuncData}{ps:List Str}{sp:Sp}{E1:XK}{x:Str}{e:Expr}{es:List Expr}{t:TA}{p pos:Pos}{Q:VK}(F:FnOk X.prog X.w X.K X.mg X.base (CXE X.prog X.w) k f fd ps sp)(hr:Room k X.A)(hg:Gl X x)(hm:X.mg x=some (.ref f))
  (hk:PySem.W.keepIn X.K (.ref f)=true) (hb:Binds X.K fd ps []) (ha:PA X.nox (e::es) t) (I:Inv X pins σ H s) (h:t σ H fun vs H1=>sp vs H1 Q E1)
  (hdb:(x==("__debug__":Str))=false:=by decide) (he:starEach (e::es) X.env=(false,eval e X.env)::starEach es X.env:=by rfl) (hpl:(backTo pos (starEach es X.env)).any (·.1)=false:=by rfl) :
  wpAny (model X.prog X.w) X.A (eval (.Call (.Name x p) (e::es) [] pos) X.env) (EP X pins σ Q) (fun ex s'=>∃H1 s1,Inv X pins σ H1 s1/\CXE X.prog X.w X.stack H1 s1 E1 ex s') s:=by
 refine wpAny_Call_Name_kw (Bo I hg hm ?_ hdb)
 refine PySem.W.callWith_K (h₀:=X.base) I.ok.mod.kin hk (wpAny_mono (ha pos pins s σ H _ (I.wish _) h) (fun us s1 hq=>?_) fun _ _ z=>z.elim) he hpl
 obtain⟨vs,H1,I1,r,q⟩:=hq
 have I1:Inv X pins σ H1 s1:=I1.unwish
 refine⟨I1.kIn,?_⟩
 have hl:(us++[]).length=ps.length:=by rw[List.append_nil,<-r.length];exact F.len _ _ _ _ q
 refine wpAny_call (codeAny_mono (F.run X.A X.stack s1 H1 ⟨us,[]⟩ (us++[]) vs Q E1 hr I1.env0 (hb s1 us I1.kIn hl) (by rw[List.append_nil];exact r) q) fun r s' hq=>?_)
 cases r with
 |error e=>exact⟨H1,s1,I1,hq⟩
 |ok fl =>
  cases fl with
  |ret u=>exact I1.after hq
  |next=>exact False.elim hq
  |brk=>exact False.elim hq
  |cont=>exact False.elim hq
end
end L2
end
section
namespace L2
open PySem PySem.Spec PyProof.Rows
end L2
end
section
namespace TL
open PySem PySem.Spec PyProof.Rows L2
end TL
end
section
namespace L2
open PySem PySem.Spec PyProof.Rows PySem.W
end L2
end
section
namespace TL
open PySem PySem.Spec PyProof.Rows L2
end TL
end
section
namespace L2
open PySem PySem.Spec PyProof.Rows
section
variable{X:Cx}{e v₁ v₂:Expr}{es:List Expr}{te:TE}{pos:Pos}
abbrev TJ:=Str->St->Hp->(Str->Hp->Prop)->Prop
def PJ(X:Cx)(es:List Expr)(t:TJ):Prop:=∀(acc:Str) (pins:List (Addr×Obj)) (s:Shared) (σ:St) (H:Hp) (Q:Str->Hp->Prop),Inv X pins σ H s->t acc σ H Q →
 Joins (model X.prog X.w) X.A X.xe (evalEach es X.env) acc (fun out s'=>out.length<=sizeLine/\∃H',Inv X pins σ H' s'/\Q out H') s
def jNil:TJ:=fun acc _ H Q=>acc.length<=sizeLine/\Q acc H
def jCons(te:TE)(t:TJ):TJ:=fun acc σ H Q=>te σ H fun v H1=>∃y,v=.str y/\(acc++y).length<=sizeLine/\t (acc++y) σ H1 Q
theorem Abg:PJ X [] jNil:=fun acc pins s σ H Q I h=>⟨h.1,H,I,h.2⟩
theorem Yg{t:TJ}(he:PE X e te)(hr:PJ X es t)(hs:evalEach (e::es) X.env=eval e X.env::evalEach es X.env:=by rfl):PJ X (e::es) (jCons te t):=fun acc pins s σ H Q I h=>by
 rw[hs]
 refine thn (he pins s σ H _ I h) fun u s1 ⟨v,H1,I1,r,y,hv,hz,q⟩=>?_
 subst hv
 obtain⟨t',rfl⟩:=r
 exact⟨y,t',rfl,hz,hr (acc++y) pins s1 σ H1 Q I1 q⟩
def tFmt(te:TE):TE:=fun σ H Q=>te σ H fun v H1=>(∃y,v=.str y/\y.length<=sizeLine/\Q (.str y) H1)\/∃i,v=.int i/\i.natAbs.log2<1920/\Q (.str (toString i)) H1
theorem Abm(he:PE X e te):PE X (.FormattedValue e (-1) none pos) (tFmt te):=by
 intro pins s σ H Q I h
 refine wpAny_FormattedValue_plain (thn (he pins s σ H _ I h) fun u s1 ⟨v,H1,I1,r,q⟩=>?_)
 rcases q with⟨y,rfl,hz,q⟩|⟨i,rfl,hz,q⟩
 ·obtain⟨t,rfl⟩:=r
  exact wpAny_formatField_str ⟨.str y,H1,I1,⟨_,rfl⟩,q⟩ ⟨.str y,H1,I1.tok _,⟨_,rfl⟩,q⟩ hz
 ·obtain⟨t,rfl⟩:=r
  exact wpAny_formatField_int hz ⟨.str (toString i),H1,I1.tok _,⟨_,rfl⟩,q⟩
def tJoin(t:TJ):TE:=fun σ H Q=>t Str.empty σ H fun out H1=>Q (.str out) H1
theorem Sg{t:TJ}(h:PJ X (v₁::v₂::es) t):PE X (.JoinedStr (v₁::v₂::es) pos) (tJoin t):=by
 intro pins s σ H Q I hq
 have go:∀(l:List (Sem Value)) (acc:Str) (s:Shared) {P P':Str->Shared->Prop},(∀o s,P o s->P' o s)->Joins (model X.prog X.w) X.A X.xe l acc P s->Joins (model X.prog X.w) X.A X.xe l acc P' s:=by
  intro l
  induction l with
  |nil=>intro acc s P P' m q;exact m _ _ q
  |cons x r ih=>intro acc s P P' m q;exact wpAny_mono q (fun v s1 ⟨y,t,e,z,q⟩=>⟨y,t,e,z,ih _ _ m q⟩) fun _ _ w=>w
 exact wpAny_JoinedStr (go _ _ _ (fun o s' ⟨z,H1,I1,q⟩=>⟨z,.str o,H1,I1.tok _,⟨_,rfl⟩,q⟩) (h _ pins s σ H _ I hq))
end
end L2
end
section
namespace TL
open PySem PySem.Spec PyProof.Rows L2
section
variable{X:Cx}{e v₁ v₂:Expr}{es:List Expr}{te:UTE}{pos:Pos}
abbrev UTJ:=Nat->Ev->TH->(TH->Prop)->Prop
def lfJ(K:PySem.W.Frag)(t:UTJ):TJ:=fun acc σ H Q=>∃S env P n,Good K S H/\REnv K S H σ env/\acc.length<=n/\t n env S P/\∀out S' H',Le S H S' H'->Good K S' H'->P S'->Q out H'
def UJ(X:Cx)(es:List Expr)(t:UTJ):Prop:=PJ X es (lfJ X.K t)
def ujNil:UTJ:=fun n _ S P=>n<=sizeLine/\P S
def Ach(te:UTE)(t:UTJ):UTJ:=fun n env S P=>te env S fun x S1=>∃y,x=.str y/\∃m,y.length<=m/\n+m<=sizeLine/\t (n+m) env S1 P
theorem V3:UJ X [] ujNil:=fun acc pins s σ H Q I ⟨S,env,P,n,g,re,hn,h,fin⟩=>Abg acc pins s σ H Q I ⟨Nat.le_trans hn h.1,fin acc S H .refl g h.2⟩
theorem Df{t:UTJ}(he:UE X e te)(hr:UJ X es t)(hs:evalEach (e::es) X.env=eval e X.env::evalEach es X.env:=by rfl):UJ X (e::es) (Ach te t):=fun acc pins s σ H Q I ⟨S,env,P,n,g,re,hn,h,fin⟩ =>
 Yg he hr hs acc pins s σ H Q I (Za ⟨g,re⟩ h fun v x S1 H1 le1 m1 rx h1=>by
  obtain⟨y,rfl,m,hm,hz,h1⟩:=h1
  cases rx
  have hl:(acc++y).length<=n+m:=by rw[strLen_append];omega
  exact⟨y,rfl,Nat.le_trans hl hz,S1,env,P,n+m,m1.g,m1.re,hl,h1,fun out S' H' le=>fin out S' H' (le1.trans le)⟩)
def uFmt(te:UTE):UTE:=fun env S P=>te env S fun x S1=>match x with
 | .str y=>y.length<=sizeLine/\P (.str y) S1
 | .int i=>i.natAbs.log2<1920/\P (.str (toString i)) S1
 |_=>False
theorem Nq(he:UE X e te):UE X (.FormattedValue e (-1) none pos) (uFmt te):=PE.imp (Abm he) fun σ H Q ⟨S,env,P,g,re,h,fin⟩ =>
 Za ⟨g,re⟩ h fun v x S1 H1 le1 m1 rx h1=>by
  cases x with
  |str y=>cases rx;exact .inl ⟨y,rfl,h1.1,fin _ _ S1 H1 le1 m1.g (.str y) h1.2⟩
  |int i=>cases rx;exact .inr ⟨i,rfl,h1.1,fin _ _ S1 H1 le1 m1.g (.str _) h1.2⟩
  |_=>exact h1.elim
def uJoin(t:UTJ):UTE:=fun env S P=>t 0 env S fun S1=>∀out,P (.str out) S1
theorem Kb{t:UTJ}(h:UJ X (v₁::v₂::es) t):UE X (.JoinedStr (v₁::v₂::es) pos) (uJoin t):=PE.imp (Sg h) fun σ H Q ⟨S,env,P,g,re,h,fin⟩ =>
 ⟨S,env,_,0,g,re,Nat.le_refl _,h,fun out S' H' le g' hp=>fin (.str out) (.str out) S' H' le g' (.str out) (hp out)⟩
end
end TL
end
section
namespace L2
open PySem PySem.Spec PyProof.Rows
theorem Ow{zs:List Str}:∀{its:List Value},Vals (zs.map V.str) its->StrsAre its zs:=by
 induction zs with
 |nil=>intro its r;cases r;exact .nil
 |cons z zs ih =>
  intro its r
  cases r with
  |cons h t =>
   obtain⟨tk,rfl⟩:=h
   exact .cons _ _ (ih t)
theorem Z0{X:Cx}:MtR X "str.join" (fun x vs H Q=>∃sep l zs,x=.str sep/\vs=[.ref l]/\SqL X.K H l (zs.map V.str)/\(zs.map (·.length)).sum+zs.length * sep.length<=16777216/\Q (.str (Txt.join sep zs)) H):=by
 intro pins s σ H x vs v us Q I rx rv h
 obtain⟨sep,l,zs,rfl,rfl,sq,hz,q⟩:=h
 obtain⟨t,rfl⟩:=rx
 obtain⟨u,rfl,ru⟩:=rv.one
 cases ru
 obtain⟨its,r,pl,_⟩:=I.list sq
 exact join_list pl.isList (by simpa using Ow r) hz fun t' k=>⟨.str _,H,I.tok _,⟨_,rfl⟩,q⟩
end L2
namespace TL
open PySem PySem.Spec PyProof.Rows L2
section
variable{X:Cx}{o e:Expr}{to:UTE}{tr:UTA}{apos cpos:Pos}
def U4(to:UTE)(tr:UTA):UTE:=fun env S P=>to env S fun x S1=>match x with
 | .str sep=>tr env S1 fun ys S2=>match ys with
  |[.lst ts]=>∃zs,ts=zs.map T.str/\(zs.map (·.length)).sum+zs.length * sep.length<=16777216/\P (.str (Txt.join sep zs)) S2
  |_=>False
 |_=>False
theorem Ha(ho:UE X o to)(ha:UA X [e] tr)(hbase:attributeBase o "join" X.env (eval o X.env)=eval o X.env:=by rfl)
  (hfew:((backTo cpos (starEach [e] X.env)).all (fun x=>!x.1)&&(backToKw cpos (keywordEach [] X.env)).all (fun x=>x.1.isSome)&&decide (([e]:List Expr).length+([]:List Keyword).length+(if ([]:List Keyword).isEmpty then 0 else 1)<30))=true:=by rfl)
  (hline:(apos.endLine==cpos.line)=true:=by rfl) (hs:starEach [e] X.env=(false,eval e X.env)::starEach [] X.env:=by rfl) (hplain:(backTo cpos (starEach [] X.env)).any (·.1)=false:=by rfl) :
  UE X (.Call (.Attribute o "join" apos) [e] [] cpos) (U4 to tr) :=
 PE.imp (Ki PySem.F.plainAttrs_str PySem.F.slot_str_join PySem.F.type_str_join Z0 ho ha hbase hfew hline hs hplain) fun σ H Q ⟨S,env,P,g,re,h,fin⟩ =>
  Za ⟨g,re⟩ h fun v x S1 H1 le1 m1 rx h1=>by
   cases x with
   |str sep =>
    cases rx
    refine⟨rfl,Af m1 h1 fun us ys S2 H2 le2 m2 rr h2=>?_⟩
    match ys,rr,h2 with
    |[.lst ts],rr,h2 =>
     obtain⟨w,rfl,rw'⟩:=rr.one
     obtain⟨zs,et,hz,h3⟩:=h2
     subst et
     obtain⟨l,vs,rfl,f,r⟩:=rw'.lstE
     have ev:=C7 r
     subst ev
     exact⟨sep,l,zs,rfl,rfl,f.sq,hz,fin _ _ S2 H2 (le1.trans le2) m2.g (.str _) h3⟩
   |_=>exact h1.elim
end
end TL
end
section
namespace L2
open PySem PySem.Spec PyProof.Rows
theorem C4:fillsNumberSlot (.type "tuple") "mul"=pure false :=
 PySem.fillsNumberSlot_seq (id:="tuple.__mul__") (r:=some (.builtin "tuple.__rmul__")) PySem.F.slot_tuple_mul.lookup (by decide +kernel) PySem.F.slot_tuple_rmul.lookup (by decide +kernel)
theorem E2:seqRepeat? (.type "tuple")=pure (some (.builtin "tuple.__mul__")):=by
 unfold seqRepeat?
 rw[PySem.seqSlot_of (T:="tuple") (name:="__mul__") (id:="tuple.__mul__") PySem.F.slot_tuple_mul.lookup (by decide +kernel),PySem.seqSlot_of (T:="tuple") (name:="__rmul__") (id:="tuple.__rmul__") PySem.F.slot_tuple_rmul.lookup (by decide +kernel)]
 rfl
theorem Ea(a:Int)(t:Tok)(l:Addr)(items:Array Value)(n:Nat)(dd:Option Addr)(sl:Array (Option Value)):
  Meets (Builtin.«int.__rmul__» ⟨[.int a t,.ref l],[]⟩) (fun _ R s=>s.heap.get? l=some { cls:=.type "tuple",dict:=dd,data:=.seq items n,slots:=sl }/\R (.ok (.ret Value.notImplemented)) s) :=
 .of_wp fun prog w A R s h=>by
  obtain⟨hp,g,d,tk,os⟩:=s;obtain⟨hl,h⟩:=h;wp_walk;exact⟨_,rfl,h⟩
theorem Ib(l:Addr)(items:Array Value)(n:Nat)(dd:Option Addr)(sl:Array (Option Value))(x:Int)(u:Tok)(h1:2<=x)(h2:x<2 ^ 63)(he:items.isEmpty=true):
  Meets (Builtin.«tuple.__mul__» ⟨[.ref l,.int x u],[]⟩) (fun _ R s=>s.heap.get? l=some { cls:=.type "tuple",dict:=dd,data:=.seq items n,slots:=sl }/\R (.ok (.ret (.ref l))) s) :=
 .of_wp fun prog w A R s h=>by
  obtain⟨hp,g,d,tk,os⟩:=s;obtain⟨hl,h⟩:=h
  have c1:(decide (x < -2 ^ 63) || decide (x ≥ 2 ^ 63))=false:=by rw[decide_eq_false (by omega),decide_eq_false (by omega)];rfl
  have c2:(items.isEmpty || x==1)=true:=by rw[he];rfl
  wp_walk
  rw[if_neg (by rw[c1];exact Bool.false_ne_true)]
  wp_walk
  exact⟨_,rfl,h⟩
theorem Jk(l:Addr)(items:Array Value)(n:Nat)(dd:Option Addr)(sl:Array (Option Value))(x:Int)(u:Tok)(h1:2<=x)(h2:x<2 ^ 63)(he:items.isEmpty=false)(hz:items.size * x.toNat<=sizeLine):
  Meets (Builtin.«tuple.__mul__» ⟨[.ref l,.int x u],[]⟩) (fun _ R s=>s.heap.get? l=some { cls:=.type "tuple",dict:=dd,data:=.seq items n,slots:=sl }/\R (.ok (.ret (.ref s.heap.objs.size))) { s with heap:=s.heap.push { cls:=.type "tuple",data:=.seq ((List.replicate x.toNat items).foldl (·++·) #[]) } }) :=
 .of_wp fun prog w A R s h=>by
  obtain⟨hp,g,d,tk,os⟩:=s;obtain⟨hl,h⟩:=h
  have c1:(decide (x < -2 ^ 63) || decide (x ≥ 2 ^ 63))=false:=by rw[decide_eq_false (by omega),decide_eq_false (by omega)];rfl
  have c2:(items.isEmpty || x==1)=false:=by rw[he,beq_eq_false_iff_ne.mpr (by omega)];rfl
  have c3:(decide (x<=0) || items.isEmpty)=false:=by rw[he,decide_eq_false (by omega)];rfl
  wp_walk
  rw[if_neg (by rw[c1];exact Bool.false_ne_true)]
  wp_walk
  rw[if_neg (by rw[c2];exact Bool.false_ne_true)]
  wp_walk
  rw[if_neg (by rw[c3];exact Bool.false_ne_true)]
  have e1:(items.size:Int) * x=((items.size * x.toNat:Nat):Int):=by rw[Int.natCast_mul,Int.toNat_of_nonneg (by omega)]
  have hs:(sizeLine:Nat)<=2 ^ 24:=by decide
  have c4:¬ ((items.size:Int) * x > (2 ^ 63 - 1) / 8):=by rw[e1];omega
  have c5:¬ Builtin.Tuple.tupleTooMany ((items.size:Int) * x)=true:=by
   rw[e1];unfold Builtin.Tuple.tupleTooMany
   rw[decide_eq_false (by omega)]
   exact Bool.false_ne_true
  dsimp only
  rw[if_neg c4,if_neg c5]
  wp_walk
  have c6:¬ (List.foldl (fun x1 x2=>x1++x2) #[] (List.replicate x.toNat items)).size > sizeLine:=by
   have:=AutoListH.size_joined items x.toNat #[]
   rw[this,Nat.mul_comm]
   simpa using hz
  rw[if_neg c6]
  wp_walk
  exact⟨_,rfl,h⟩
def rRepT(K:PySem.W.Frag):R2:=fun x y H Q=>∃l k xs,x=.ref l/\y=.int k/\SqT K H l xs/\2<=k/\k<2 ^ 63/\xs.length * k.toNat<=sizeLine/\(xs=[]->Q (.ref l) H)/\(xs≠[]->∀p,H p=none->Q (.ref p) (upd H p (.tup (List.replicate k.toNat xs).flatten)))
theorem Ws{X:Cx}:OpR X (binaryOp .Mult) (rRepT X.K):=by
 intro pins s σ H x y v u Q I rx ry h
 obtain⟨l,k,xs,rfl,rfl,hq,h1,h2,hz,q0,q1⟩:=h
 cases rx
 obtain⟨t,rfl⟩:=ry
 obtain⟨its,r,pt,_⟩:=I.tuple hq
 have hl:=r.length
 obtain⟨⟨cls,dd,data,sl⟩,e,hc,n,hd⟩:=pt
 simp only at hc hd
 subst hc hd
 refine wpAny_binaryOp_repeat_ref (T:="tuple") (U:="int") (by decide) ⟨_,e,rfl⟩ (fun s'=>typeIs_int s' k t) C4 PySem.F.fills_int_mul PySem.F.slot_int_rmul E2 PySem.F.slot_int_index.lookup
  (call_meets PySem.F.slot_int_rmul (typeIs_int s k t) PySem.F.entry_int_rmul (PySem.F.args_int_rmul_2 _ _) (Ea k t l its.toArray n dd sl) ⟨e,rfl,⟨_,e,rfl⟩,?_⟩)
 by_cases he:xs=[]
 ·have hi:its=[]:=by subst he;exact List.length_eq_zero_iff.mp (by simpa using hl.symm)
  exact call_meets PySem.F.slot_tuple_mul ⟨_,e,rfl⟩ PySem.F.entry_tuple_mul (PySem.F.args_tuple_mul_2 _ _) (Ib l its.toArray n dd sl k t h1 h2 (by rw[hi];rfl)) ⟨e,.ref l,H,I,rfl,q0 he⟩
 ·have hi:its≠[]:=fun z=>he (List.length_eq_zero_iff.mp (by rw[hl,z];rfl))
  refine call_meets PySem.F.slot_tuple_mul ⟨_,e,rfl⟩ PySem.F.entry_tuple_mul (PySem.F.args_tuple_mul_2 _ _) (Jk l its.toArray n dd sl k t h1 h2 (by cases its with|nil=>exact absurd rfl hi|cons a r=>rfl) (by rw[List.size_toArray,<-hl];exact hz)) ⟨e,?_⟩
  have f0:=Gi its k.toNat []
  rw[List.nil_append] at f0
  have f1:List.foldl (fun x1 x2=>x1++x2) #[] (List.replicate k.toNat its.toArray)=(List.replicate k.toNat its).flatten.toArray:=f0
  rw[f1]
  exact⟨.ref _,_,I.laid (o:=.tup (List.replicate k.toNat xs).flatten) (t':=s.toks) (fun _ _ q=>Heap.get?_push_of_some _ q) (Nat.le_refl _) ⟨by rw[O2,Nat.mul_comm];exact hz,_,r.rep k.toNat,TupN.new _ _⟩,rfl,q1 he _ I.fresh⟩
end L2
end
section
namespace TL
open PySem PySem.Spec PyProof.Rows L2
section
variable{X:Cx}{e:Expr}{es:List Expr}{tr:UTA}{pos p:Pos}{x:Str}{S0:TH}{H0:Hp}{E:XK}{R:UR}
theorem Ee{k:Nat}{ps:List Str}{t:List T->TH->UX->UR->Prop}(h:Ep X.prog X.w X.K X.mg X.base k x ps t)(hr:Room k X.A)(hg:Gl X x)(hp:Dn (CXE X.prog X.w) X E)(hw:XW X.K S0 H0 R E)(ha:UA X (e::es) tr)(hdb:(x==("__debug__":Str))=false:=by decide)(he:starEach (e::es) X.env=(false,eval e X.env)::starEach es X.env:=by rfl)
  (hpl:(backTo pos (starEach es X.env)).any (·.1)=false:=by rfl):UEX X S0 H0 (.Call (.Name x p) (e::es) [] pos) (Up t R tr):=by
 obtain⟨f,fd,F,b,kp,hm⟩:=h
 exact Tf F hr hg hm kp b hp hw ha hdb he hpl
end
def cAt(mg:Str->Option Value)(x:Str):Addr:=match mg x with
 |some (.ref a)=>a
 |_=>0
abbrev Qx:List Value:=[.type "ValueError",.type "Exception",.type "BaseException",.type "object"]
section
variable{K:PySem.W.Frag}{h:Heap}{mg:Str->Option Value}{x y:Str}{C D:Addr}
theorem Ci(X:K.In h)(G:h.Ns mainGlobals mg)(a:PySem.W.nsIn K mainGlobals x=some (some (.ref C))):cAt mg x=C:=by unfold cAt;rw[PySem.W.mg_of X G a]
theorem Gj(X:K.In h)(G:h.Ns mainGlobals mg)(a:PySem.W.nsIn K mainGlobals x=some (some (.ref C))):mg x=some (.ref (cAt mg x)):=by rw[Ci X G a];exact PySem.W.mg_of X G a
theorem Lb(X:K.In h)(G:h.Ns mainGlobals mg)(a:PySem.W.nsIn K mainGlobals x=some (some (.ref C)))(q:PySem.W.excIn K C Qx "ValueError.__new__"=true):PySem.W.excIn K (cAt mg x) Qx "ValueError.__new__"=true:=by rw[Ci X G a];exact q
theorem O5(X:K.In h)(G:h.Ns mainGlobals mg)(a:PySem.W.nsIn K mainGlobals x=some (some (.ref C)))(q:PySem.W.ktsIn K C "BaseException"=true):PySem.W.ktsIn K (cAt mg x) "BaseException"=true:=by rw[Ci X G a];exact q
theorem P8(X:K.In h)(G:h.Ns mainGlobals mg)(a:PySem.W.nsIn K mainGlobals x=some (some (.ref C)))(b:PySem.W.nsIn K mainGlobals y=some (some (.ref D)))(q:Eh K C D=true):Eh K (cAt mg x) (cAt mg y)=true:=by rw[Ci X G a,Ci X G b];exact q
end
end TL
end
section
namespace L2
open PySem PySem.Spec PyProof.Rows
theorem Gm(l:Addr)(xs:Array Value)(n:Nat)(b:Addr)(ys:Array Value)(m:Nat){dd:Option Addr}{sl:Array (Option Value)}(h0:¬(!xs.isEmpty&&Builtin.List.listTooLong (xs.size+ys.size))=true)(h1:xs.size<=sizeLine)(h2:xs.size+ys.size<=sizeLine+1):
  Meets (Builtin.«list.extend» ⟨[.ref l,.ref b],[]⟩) (fun _ R s=>s.heap.get? l=some { cls:=.type "list",dict:=none,data:=.seq xs n,slots:=#[] }/\s.heap.get? b=some { cls:=.type "tuple",dict:=dd,data:=.seq ys m,slots:=sl }/\R (.ok (.ret Value.none)) { s with heap:=s.heap.update l (Obj.mapSeq fun x=>x++ys),toks:=s.toks }) :=
 .of_wp fun _ _ _ R s q=>by
  obtain⟨q1,q2,q3⟩:=q;obtain⟨hp,g,d,tk,os⟩:=s
  have h3:(xs++ys).size<=sizeLine+1:=by rw[Array.size_append];omega
  wp_walk using (wpAny_updateSeq q1 rfl (hz:=h1) (_hz':=h3)),wpAny_loadPart' q1,wpAny_loadPart' q2;exact⟨_,rfl,q3⟩
theorem Gf(l:Addr)(xs:Array Value)(n:Nat)(b:Addr)(ys:Array Value)(m:Nat){sl:Array (Option Value)}(h0:¬(!xs.isEmpty&&Builtin.List.listTooLong (xs.size+ys.size))=true)(h1:xs.size<=sizeLine)(h2:xs.size+ys.size<=sizeLine+1):
  Meets (Builtin.«list.extend» ⟨[.ref l,.ref b],[]⟩) (fun _ R s=>s.heap.get? l=some { cls:=.type "list",dict:=none,data:=.seq xs n,slots:=#[] }/\s.heap.get? b=some { cls:=.type "list",dict:=none,data:=.seq ys m,slots:=sl }/\R (.ok (.ret Value.none)) { s with heap:=s.heap.update l (Obj.mapSeq fun x=>x++ys),toks:=s.toks }) :=
 .of_wp fun _ _ _ R s q=>by
  obtain⟨q1,q2,q3⟩:=q;obtain⟨hp,g,d,tk,os⟩:=s
  have h3:(xs++ys).size<=sizeLine+1:=by rw[Array.size_append];omega
  wp_walk using (wpAny_updateSeq q1 rfl (hz:=h1) (_hz':=h3)),wpAny_loadPart' q1,wpAny_loadPart' q2;exact⟨_,rfl,q3⟩
section
variable{X:Cx}
theorem Op:MtM X "list.extend" (fun x vs H Q=>∃l b xs zs,x=.ref l/\vs=[.ref b]/\H l=some (.lst xs)/\(SqL X.K H b zs\/SqT X.K H b zs)/\xs.length+zs.length<=sizeLine/\Q .non (upd H l (.lst (xs++zs)))):=by
 intro pins s σ H x vs v us Q I rx rv h
 obtain⟨l,b,xs,zs,rfl,rfl,hH,hB,hz,q⟩:=h
 cases rx
 obtain⟨u,rfl,ru⟩:=rv.one
 cases ru
 obtain⟨z,its,n,r,hl,e⟩:=I.lstM hH
 have fin:∀its2:List Value,Vals zs its2->∃v' H',Inv X pins σ H' { s with heap:=s.heap.update l (Obj.mapSeq fun x=>x++its2.toArray),toks:=s.toks }/\RelV v' Value.none/\Q v' H':=fun its2 r2=>by
  refine⟨.non,_,I.lset (its':=its++its2) hH e (by simp) (r.append r2) ?_,rfl,q⟩
  rw[List.length_append]
  omega
 rcases hB with hB|hB
 ·obtain⟨its2,r2,⟨o,n2,e2,c2,d2,s2⟩,z2⟩:=I.list hB
  have hl2:=r2.length
  have hsz:its.toArray.size+its2.toArray.size<=sizeLine:=by rw[List.size_toArray,List.size_toArray];omega
  have hlong:¬ (!its.toArray.isEmpty&&Builtin.List.listTooLong (its.toArray.size+its2.toArray.size))=true:=by
   rw[Hr hsz,Bool.and_false]
   exact Bool.false_ne_true
  obtain⟨oc,od,oda,osl⟩:=o
  cases c2;cases d2;cases s2
  exact call_meets F.slot_list_extend ⟨_,e,rfl⟩ F.entry_list_extend (F.args_list_extend_2 _ _) (Gf l its.toArray n b its2.toArray n2 hlong (by rw[List.size_toArray];omega) (by omega)) ⟨e,e2,fin its2 r2⟩
 ·obtain⟨its2,r2,⟨o,e2,c2,n2,s2⟩,z2⟩:=I.tuple hB
  have hl2:=r2.length
  have hsz:its.toArray.size+its2.toArray.size<=sizeLine:=by rw[List.size_toArray,List.size_toArray];omega
  have hlong:¬ (!its.toArray.isEmpty&&Builtin.List.listTooLong (its.toArray.size+its2.toArray.size))=true:=by
   rw[Hr hsz,Bool.and_false]
   exact Bool.false_ne_true
  obtain⟨oc,od,oda,osl⟩:=o
  cases c2;cases s2
  exact call_meets F.slot_list_extend ⟨_,e,rfl⟩ F.entry_list_extend (F.args_list_extend_2 _ _) (Gm l its.toArray n b its2.toArray n2 hlong (by rw[List.size_toArray];omega) (by omega)) ⟨e,e2,fin its2 r2⟩
theorem Qv:CallR X (.type "str") (fun xs H Q=>(∃i,xs=[.int i]/\i.natAbs.log2<1920/\Q (.str (toString i)) H)\/∃y,xs=[.str y]/\Q (.str y) H):=by
 intro pins s σ H xs us Q I r h
 rcases h with h|⟨y,rfl,q⟩
 ·exact Fe pins s σ H xs us Q I r h
 ·obtain⟨u,rfl,t,rfl⟩:=Ej r
  exact PySem.P.str_of_str ⟨.str _,H,I,⟨_,rfl⟩,q⟩
end
end L2
namespace HT
open PySem PySem.Spec PyProof.Rows
section
variable{prog:Program}{w:World}{A:Around}{E:Value->Shared->Prop}{s:Shared}
theorem getItem_tuple_all{t sl:Addr}{items:Array Value}{vl vu:Value}{lo hi:Option Int}{Q:Value->Shared->Prop}(ht:IsTup s.heap t items)(hs:s.heap.IsSliceOf sl vl vu .none)(pl:IsPart vl lo)(pu:IsPart vu hi)
  (hw:sIx items.size 0 lo=0/\sIx items.size items.size hi=items.size) (h:Q (.ref t) s):wpAny (model prog w) A (getItem (.ref t) (.ref sl)) Q E s:=by
 obtain⟨os,hos,hcs,hds⟩:=id hs
 have hTs:s.TypeIs (.ref sl) "slice":=⟨os,hos,hcs⟩
 obtain⟨ot,hot,hct,nt,hdt⟩:=id ht
 unfold getItem
 try with_reducible refine wpAny_holding ?_
 first|refine wpAny_bind (wpAny_pure ?_)|skip
 refine wpAny_bind (wpAny_sequenceKey ht.typeIs (by decide) ?_)
 refine wpAny_bind (wpAny_callSpecial?_slot (name:=Str.ofString "__getitem__") ht.typeIs PyProof.Rows.slot_tuple_getitem
  (wpAny_call_entry PyProof.Rows.slot_tuple_getitem ht.typeIs entry_tuple_getitem ?_ (args_tuple_getitem _ _)))
 show wpAny _ _ (Builtin.Tuple.tupleItemsOf (.ref t) >>= _) _ _ s
 refine wpAny_bind (tupleItemsOf_ ht ?_)
 refine wpAny_bind (wpAny_typeOf hTs ?_)
 rw[if_pos (by decide)]
 refine wpAny_bind (Db hs pl pu ?_)
 have hyes:(((sIx items.size 0 lo:Nat):Int)==0&&(1:Int)==1&&(sIx items.size items.size hi - sIx items.size 0 lo)==items.size)=true:=by
  rw[hw.1,hw.2];simp
 show wpAny _ _ (if (((sIx items.size 0 lo:Nat):Int)==0&&(1:Int)==1&&(sIx items.size items.size hi - sIx items.size 0 lo)==items.size)=true then _ else _) _ _ s
 rw[if_pos hyes]
 refine wpAny_bind (m:=Builtin.Tuple.tupleIsExact (.ref t)) (wpAny_bind (wpAny_typeOf ht.typeIs (wpAny_pure ?_)))
 rw[if_pos (by decide)]
 exact wpAny_bind (wpAny_rule (wpAny_pure ⟨_,rfl,wpAny_pure h⟩))
end
end HT
namespace L2
open PySem PySem.Spec PyProof.Rows
section
variable{X:Cx}
def rSlA(K:PySem.W.Frag):V->Option Int->Option Int->Hp->VK->Prop:=fun x lo hi H Q=>∃a xs,x=.ref a/\SqT K H a xs ∧
 ((HT.sIx xs.length 0 lo=0/\HT.sIx xs.length xs.length hi=xs.length)->Q (.ref a) H)/\(¬ (HT.sIx xs.length 0 lo=0/\HT.sIx xs.length xs.length hi=xs.length)->∀p,H p=none->Q (.ref p) (upd H p (.tup (Lj xs lo hi))))
theorem Wn:SlR X (rSlA X.K):=by
 intro pins s σ H x v vl vu lo hi sl Q I rx hs pl pu h
 obtain⟨a,xs,rfl,hx,q0,q1⟩:=h
 by_cases hw:HT.sIx xs.length 0 lo=0/\HT.sIx xs.length xs.length hi=xs.length
 ·cases rx
  obtain⟨its,r,ht,hz⟩:=I.tuple hx
  have hlen:its.toArray.size=xs.length:=by rw[List.size_toArray];exact r.length.symm
  refine⟨"tuple",_,PyProof.Rows.slot_tuple_getitem.lookup,ht.typeIs,?_⟩
  exact HT.getItem_tuple_all ht hs pl pu (by rw[hlen];exact hw) ⟨.ref a,H,I,rfl,q0 hw⟩
 ·exact sl_tup pins s σ H _ v vl vu lo hi sl Q I rx hs pl pu ⟨a,xs,rfl,hx,hw,q1 hw⟩
end
end L2
end
section
namespace TL
open PySem PySem.Spec PyProof.Rows L2
section
variable{X:Cx}{o e a:Expr}{to:UTE}{tr:UTA}{apos cpos pos p:Pos}
def Aan:T->Option (List T)
 | .lst ts=>some ts
 | .tup ts=>some ts
 | .fls ts=>some ts
 |_=>none
def X8(to:UTE)(tr:UTA):UTE:=fun env S P=>to env S fun x S1=>match x with
 | .ref p=>(∃ts0,S1 p=some (.lst ts0))/\tr env S1 fun ys S2=>match ys with
  |[y]=>∃ts us,S2 p=some (.lst ts)/\Aan y=some us/\ts.length+us.length<=sizeLine/\P .non (Ad S2 p (.lst (ts++us)))
  |_=>False
 |_=>False
theorem X0{K:PySem.W.Frag}{S:TH}{H:Hp}{v:V}{y:T}{us:List T}(h:Aan y=some us)(r:Rep K S H v y):∃b zs,v=.ref b/\(SqL K H b zs\/SqT K H b zs)/\Reps K S H zs us:=by
 cases y with
 |lst ts=>cases h;obtain⟨b,zs,e,f,q⟩:=r.lstE;exact⟨b,zs,e,.inl f.sq,q⟩
 |tup ts=>cases h;obtain⟨b,zs,e,f,q⟩:=r.tupE;exact⟨b,zs,e,.inr f.sq,q⟩
 |fls ts=>cases h;cases r with|fls f l q=>exact⟨_,_,rfl,.inl f.sq,l,q⟩
 |_=>cases h
theorem J3(ho:UE X o to)(ha:UA X [e] tr)(hbase:attributeBase o "extend" X.env (eval o X.env)=eval o X.env:=by rfl)
  (hfew:((backTo cpos (starEach [e] X.env)).all (fun x=>!x.1)&&(backToKw cpos (keywordEach [] X.env)).all (fun x=>x.1.isSome)&&decide (([e]:List Expr).length+([]:List Keyword).length+(if ([]:List Keyword).isEmpty then 0 else 1)<30))=true:=by rfl)
  (hline:(apos.endLine==cpos.line)=true:=by rfl) (hs:starEach [e] X.env=(false,eval e X.env)::starEach [] X.env:=by rfl) (hplain:(backTo cpos (starEach [] X.env)).any (·.1)=false:=by rfl) :
  UE X (.Call (.Attribute o "extend" apos) [e] [] cpos) (X8 to tr) :=
 PE.imp (Ki PySem.F.plainAttrs_list PySem.F.slot_list_extend PySem.F.type_list_extend Op ho ha hbase hfew hline hs hplain) fun σ H Q ⟨S,env,P,g,re,h,fin⟩ =>
  Za ⟨g,re⟩ h fun v x S1 H1 le1 m1 rx h1=>by
   cases x with
   |ref p =>
    cases rx
    obtain⟨⟨ts0,e0⟩,h1⟩:=h1
    obtain⟨vs0,q0,_⟩:=m1.g p _ e0
    refine⟨.inl ⟨rfl,_,SqL.of q0⟩,Af m1 h1 fun vs rs S2 H2 le2 m2 rr h2=>?_⟩
    match rs,rr,h2 with
    |[y],rr,h2 =>
     obtain⟨w,rfl,rw'⟩:=rr.one
     obtain⟨ts,us,e2,ey,hl,hp⟩:=h2
     obtain⟨ws,q2,r2⟩:=m2.g p _ e2
     obtain⟨b,zs,rfl,sq,r3⟩:=X0 ey rw'
     refine⟨p,b,ws,zs,rfl,rfl,q2,sq,by rw[r2.1,r3.1];exact hl,?_⟩
     exact fin _ _ _ _ (le1.trans (le2.trans (Le.write e2))) (m2.g.writeL e2 (r2.append r3)) .non hp
   |_=>exact h1.elim
def oSlT(x:T)(lo hi:Option Int)(S:TH)(P:UX):Prop:=match x with
 | .tup ts=>P (.tup (cutA ts lo hi)) S
 |_=>False
def uSlT(te:UTE)(tl th:UTO):UTE:=fun env S P=>te env S fun x S1=>tl env S1 fun l S2=>th env S2 fun u S3=>oSlT x l u S3 P
theorem Yo{α:Type}{ts:List α}{lo hi:Option Int}(h:HT.sIx ts.length 0 lo=0/\HT.sIx ts.length ts.length hi=ts.length):cutA ts lo hi=ts:=by
 unfold cutA
 rw[h.1,h.2]
 simp
theorem K0{lo hi:Option Expr}{te:UTE}{tl th:UTO}{p2:Pos}(he:UE X e te)(hl:UO X lo tl)(hh:UO X hi th):UE X (.Subscript e (.Slice lo hi none p2) pos) (uSlT te tl th) :=
 PE.imp (Lz Wn he hl hh) fun σ H Q ⟨S,env,P,g,re,h,fin⟩=>Za ⟨g,re⟩ h fun v x S1 H1 le1 m1 rx h1 =>
  ⟨S1,env,_,m1.g,m1.re,h1,fun l S2 H2 le2 g2 h2=>⟨S2,env,_,g2,m1.re.mono le2,h2,fun u S3 H3 le3 g3 h3=>by
   have rx3:=rx.mono (le2.trans le3)
   have le:=le1.trans (le2.trans le3)
   cases x with
   |tup ts =>
    obtain⟨a,vs,rfl,f,r⟩:=rx3.tupE
    refine⟨a,vs,rfl,f.sq,fun e=>?_,fun _ p hp=>Dj (fin.le le) g3 hp (r.cut _ _) h3⟩
    have h3:P (.tup (cutA ts l u)) S3:=h3
    rw[Yo (by rw[<-r.1];exact e)] at h3
    exact fin _ _ S3 H3 le g3 rx3 h3
   |_=>exact h3.elim⟩⟩
def Pd(xs:List T)(S:TH)(P:UX):Prop:=match xs with
 |[.int i]=>i.natAbs.log2<1920/\P (.str (toString i)) S
 |[.str y]=>P (.str y) S
 |_=>False
theorem lStrA{K:PySem.W.Frag}:Gx K (fun xs H Q=>(∃i,xs=[.int i]/\i.natAbs.log2<1920/\Q (.str (toString i)) H)\/∃y,xs=[.str y]/\Q (.str y) H) Pd:=fun S H vs xs P Q g r ho fin=>by
 match xs,r,ho with
 |[.int i],r,ho =>
  obtain⟨v,rfl,rx⟩:=r.one
  cases rx
  exact .inl ⟨i,rfl,ho.1,fin _ _ S H .refl g (.str _) ho.2⟩
 |[.str y],r,ho =>
  obtain⟨v,rfl,rx⟩:=r.one
  cases rx
  exact .inr ⟨y,rfl,fin _ _ S H .refl g (.str _) ho⟩
theorem Qo(hg:Gl X "str")(hm:X.mg "str"=none)(ha:UA X [a] tr)(he:starEach [a] X.env=(false,eval a X.env)::starEach [] X.env:=by rfl):UE X (.Call (.Name "str" p) [a] [] pos) (A9 Pd tr):=Da Qv lStrA hg hm boot_str ha (he:=he)
end
end TL
end
section
namespace L2
open PySem PySem.Spec PyProof.Rows
end L2
namespace PySem
open Sem (wp)
end PySem
namespace L2
open PySem PySem.Spec PyProof.Rows
end L2
end
section
namespace L2
open PySem PySem.Spec PyProof.Rows
end L2
end
section
namespace L2
open PySem PySem.Spec PyProof.Rows
section
variable{X:Cx}
def Aaz(K:PySem.W.Frag)(tup:Bool):V->List V->Hp->VK->Prop:=fun x vs H Q=>∃(l:Addr) (zs:List Str) (z:Str) (j:Nat),x=.ref l/\vs=[.str z]/\(if tup then SqT K H l (zs.map V.str) else SqL K H l (zs.map V.str))/\zs[j]?=some z/\(∀m,m<j->zs[m]?≠some z)/\Q (.int (j:Int)) H
def Wc(z:Str)(v:Value):Bool:=match v with
 | .str y _=>y==z
 |_=>false
theorem Ul{zs:List Str}{us:List Value}(r:Vals (zs.map V.str) us){z:Str}{j:Nat}(hj:zs[j]?=some z)(hm:∀m,m<j->zs[m]?≠some z):∃h:j<us.toArray.size,Wc z us.toArray[j]=true/\∀m (hm:m<us.toArray.size),m<j->Wc z us.toArray[m]=false:=by
 have get:∀m (h:m<us.length),∃y t,us[m]=.str y t/\zs[m]?=some y:=fun m h=>by
  have e:=r.length
  rw[List.length_map] at e
  have hz:zs[m]?=some zs[m]:=List.getElem?_eq_getElem (by omega)
  obtain⟨u,hu,ru⟩:=r.get (i:=m) (x:=V.str zs[m]) (by rw[List.getElem?_map,hz];rfl)
  obtain⟨t,rfl⟩:=ru
  rw[List.getElem?_eq_getElem h] at hu
  exact⟨_,t,Option.some.inj hu,hz⟩
 have hl:j<us.length:=by
  have e:=r.length
  rw[List.length_map] at e
  have:=(List.getElem?_eq_some_iff.mp hj).1
  omega
 refine⟨by simpa using hl,?_,fun m hm' hmj=>?_⟩
 ·obtain⟨y,t,e,ey⟩:=get j hl
  have:us.toArray[j]'(by simpa using hl)=.str y t:=by simpa using e
  rw[this]
  rw[hj] at ey
  cases ey
  exact beq_self_eq_true _
 ·have hm2:m<us.length:=by simpa using hm'
  obtain⟨y,t,e,ey⟩:=get m hm2
  have:us.toArray[m]'hm'=.str y t:=by simpa using e
  rw[this]
  exact beq_eq_false_iff_ne.mpr fun z'=>hm m hmj (by rw[ey,z'])
theorem Rx:MtM X "list.index" (Aaz X.K false):=by
 intro pins s σ H x vs v us Q I rx rv h
 obtain⟨l,zs,z,j,rfl,rfl,sq,hj,hm,q⟩:=h
 cases rx
 obtain⟨u,rfl,ru⟩:=rv.one
 obtain⟨tz,rfl⟩:=ru
 obtain⟨its,r,pl,hz⟩:=I.list (show SqL X.K H l (zs.map V.str) from sq)
 obtain⟨o,n,ho,c1,c2,c3⟩:=pl
 obtain⟨oc,od,odt,osl⟩:=o
 cases c1;cases c2;cases c3
 obtain⟨h1,h2,h3⟩:=Ul r hj hm
 refine call_meets F.slot_list_index ⟨_,ho,rfl⟩ F.entry_list_index (F.args_list_index_2 _ _) (SeqAt.list_indexAt l its.toArray n _ osl (.str z tz) (Wc z) j h1 ?_ h2 h3) ⟨ho,fun y hy=>?_,?_⟩
 ·have:=(List.getElem?_eq_some_iff.mp hj).1
  rw[List.length_map] at hz
  have:sizeLine<2 ^ 62:=by decide
  omega
 ·obtain⟨x,t,rfl⟩:=Lg r y (by simpa using hy)
  exact SeqAt.EqAt.str_str x t z tz
 ·exact⟨.int _,H,I.tok _,⟨_,rfl⟩,q⟩
end
end L2
end
section
namespace L2
open PySem PySem.Spec PyProof.Rows
theorem Ji(l:Addr)(items:Array Value)(n:Nat)(dd:Option Addr)(sl:Array (Option Value))(u:Tok):
  Meets (Builtin.«tuple.__mul__» ⟨[.ref l,.int 1 u],[]⟩) (fun _ R s=>s.heap.get? l=some { cls:=.type "tuple",dict:=dd,data:=.seq items n,slots:=sl }/\R (.ok (.ret (.ref l))) s) :=
 .of_wp fun prog w A R s h=>by
  obtain⟨hp,g,d,tk,os⟩:=s;obtain⟨hl,h⟩:=h
  have c2:(items.isEmpty || (1:Int)==1)=true:=by simp
  wp_walk
  exact⟨_,rfl,h⟩
theorem Io(l:Addr)(items:Array Value)(n:Nat)(dd:Option Addr)(sl:Array (Option Value))(u:Tok)(he:items.isEmpty=false):
  Meets (Builtin.«tuple.__mul__» ⟨[.ref l,.int 0 u],[]⟩) (fun _ R s=>s.heap.get? l=some { cls:=.type "tuple",dict:=dd,data:=.seq items n,slots:=sl }/\R (.ok (.ret (.ref s.heap.objs.size))) { s with heap:=s.heap.push { cls:=.type "tuple",data:=.seq #[] } }) :=
 .of_wp fun prog w A R s h=>by
  obtain⟨hp,g,d,tk,os⟩:=s;obtain⟨hl,h⟩:=h
  have c2:(items.isEmpty || (0:Int)==1)=false:=by rw[he];rfl
  wp_walk
  exact⟨_,rfl,h⟩
def Aam(K:PySem.W.Frag):R2:=fun x y H Q=>∃l k xs,x=.ref l/\y=.int k/\SqT K H l xs/\xs≠[]/\0<=k/\k<2 ^ 63/\xs.length * k.toNat<=sizeLine/\(k=1->Q (.ref l) H)/\(k≠1->∀p,H p=none->Q (.ref p) (upd H p (.tup (List.replicate k.toNat xs).flatten)))
theorem Yd{X:Cx}:OpR X (binaryOp .Mult) (Aam X.K):=by
 intro pins s σ H x y v u Q I rx ry h
 obtain⟨l,k,xs,rfl,rfl,hq,hne,h1,h2,hz,q0,q1⟩:=h
 by_cases hk:2<=k
 ·exact Ws pins s σ H _ _ v u Q I rx ry ⟨l,k,xs,rfl,rfl,hq,hk,h2,hz,fun e=>absurd e hne,fun _=>q1 (by omega)⟩
 cases rx
 obtain⟨t,rfl⟩:=ry
 obtain⟨its,r,pt,_⟩:=I.tuple hq
 have hl:=r.length
 obtain⟨⟨cls,dd,data,sl⟩,e,hc,n,hd⟩:=pt
 simp only at hc hd
 subst hc hd
 have hi:its≠[]:=fun z=>hne (List.length_eq_zero_iff.mp (by rw[hl,z];rfl))
 refine wpAny_binaryOp_repeat_ref (T:="tuple") (U:="int") (by decide) ⟨_,e,rfl⟩ (fun s'=>typeIs_int s' k t) C4 PySem.F.fills_int_mul PySem.F.slot_int_rmul E2 PySem.F.slot_int_index.lookup
  (call_meets PySem.F.slot_int_rmul (typeIs_int s k t) PySem.F.entry_int_rmul (PySem.F.args_int_rmul_2 _ _) (Ea k t l its.toArray n dd sl) ⟨e,rfl,⟨_,e,rfl⟩,?_⟩)
 have:k=0\/k=1:=by omega
 rcases this with rfl|rfl
 ·refine call_meets PySem.F.slot_tuple_mul ⟨_,e,rfl⟩ PySem.F.entry_tuple_mul (PySem.F.args_tuple_mul_2 _ _) (Io l its.toArray n dd sl t (by cases its with|nil=>exact absurd rfl hi|cons a r=>rfl)) ⟨e,?_⟩
  exact⟨.ref _,_,I.laid (o:=.tup (List.replicate (0:Int).toNat xs).flatten) (t':=s.toks) (fun _ _ q=>Heap.get?_push_of_some _ q) (Nat.le_refl _) ⟨Nat.zero_le _,[],.nil,TupN.new _ _⟩,rfl,q1 (by decide) _ I.fresh⟩
 ·exact call_meets PySem.F.slot_tuple_mul ⟨_,e,rfl⟩ PySem.F.entry_tuple_mul (PySem.F.args_tuple_mul_2 _ _) (Ji l its.toArray n dd sl t) ⟨e,.ref l,H,I,rfl,q0 rfl⟩
end L2
end
section
namespace L2
open PySem PySem.Spec PyProof.Rows
section
variable{X:Cx}
def tKDx(kvs:List (Key×V))(ty:TE):TE:=fun σ H Q=>ty σ H fun y H1=>∃k v,y=kV k/\valV kvs k=some v/\Q v H1
theorem Adu{x:Str}{a:Addr}{kvs:List (Key×V)}{i:Expr}{ty:TE}{p pos:Pos}(hg:Gl X x)(hm:X.mg x=some (.ref a))(kd:KD X.prog X.w X.K a kvs)(hi:PE X i ty)(hs:NoSl i)
  (hd:(x==("__debug__":Str))=false:=by decide):PE X (.Subscript (.Name x p) i pos) (tKDx kvs ty):=by
 intro pins s σ H Q I h
 obtain⟨hsm,vs,rel,hdd⟩:=kd
 refine W7 PySem.F.slot_dict_getitem.lookup hs (Bo I hg hm (thn (hi pins s σ H _ I h) fun iv s2 ⟨y,H2,I2,ry,k,v,ey,ev,q2⟩=>?_) hd)
 subst ey
 have dd2:=hdd s2.heap I2.kIn
 obtain⟨w',hw,rw'⟩:=RelO.some_of (v:=v) (o:=valueAt vs k) (by rw[<-ev];exact rel.val k)
 exact⟨dd2.typeIs,wpAny_getItem_of (Pz ry) dd2.mapOf hw ⟨v,H2,I2.tok _,rw',q2⟩⟩
end
end L2
namespace TL
open PySem PySem.Spec PyProof.Rows L2
section
variable{X:Cx}{o e a b c i:Expr}{to te ti ta tb tc:UTE}{tr:UTA}{apos cpos pos p q pos':Pos}{x:Str}
def uKDx(kts:List (Key×T))(te:UTE):UTE:=fun env S P=>te env S fun y S1=>∃k t,keyT y=some k/\valT kts k=some t/\P t S1
theorem Aci{kts:List (Key×T)}(hg:Gl X x)(h:KDt X.prog X.w X.K X.mg x kts)(he:UE X i ti)(hs:NoSl i:=by intro _ _;rfl)(hd:(x==("__debug__":Str))=false:=by decide):UE X (.Subscript (.Name x p) i pos) (uKDx kts ti):=by
 obtain⟨d,kvs,hm,kd,rk⟩:=h
 refine PE.imp (Adu hg hm kd he hs hd) fun σ H Q ⟨S,env,P,g,re,h,fin⟩=>Za ⟨g,re⟩ h fun v y S1 H1 le1 m1 ry h1=>?_
 obtain⟨k,t,e1,e2,h1⟩:=h1
 obtain⟨u,eu,ru⟩:=((rk S1 H1).val (k:=k)).1 t e2
 exact⟨k,u,Ky ry e1,eu,fin _ _ S1 H1 le1 m1.g ru h1⟩
def Wm(to:UTE)(tr:UTA):UTE:=fun env S P=>to env S fun x S1=>∃zs:List Str,x=.lst (zs.map T.str)/\tr env S1 fun ys S2=>∃(z:Str) (j:Nat),ys=[.str z]/\zs[j]?=some z/\(∀m,m<j->zs[m]?≠some z)/\P (.int (j:Int)) S2
theorem Rb(ho:UE X o to)(ha:UA X [e] tr)(hbase:attributeBase o "index" X.env (eval o X.env)=eval o X.env:=by rfl)
  (hfew:((backTo cpos (starEach [e] X.env)).all (fun x=>!x.1)&&(backToKw cpos (keywordEach [] X.env)).all (fun x=>x.1.isSome)&&decide (([e]:List Expr).length+([]:List Keyword).length+(if ([]:List Keyword).isEmpty then 0 else 1)<30))=true:=by rfl)
  (hline:(apos.endLine==cpos.line)=true:=by rfl) (hs:starEach [e] X.env=(false,eval e X.env)::starEach [] X.env:=by rfl) (hplain:(backTo cpos (starEach [] X.env)).any (·.1)=false:=by rfl) :
  UE X (.Call (.Attribute o "index" apos) [e] [] cpos) (Wm to tr) :=
 PE.imp (Ki PySem.F.plainAttrs_list PySem.F.slot_list_index PySem.F.type_list_index Rx ho ha hbase hfew hline hs hplain) fun σ H Q ⟨S,env,P,g,re,h,fin⟩ =>
  Za ⟨g,re⟩ h fun v x S1 H1 le1 m1 rx h1=>by
   obtain⟨zs,rfl,h1⟩:=h1
   obtain⟨l,vs,rfl,f,r⟩:=rx.lstE
   refine⟨.inl ⟨rfl,_,f.sq⟩,Af m1 h1 fun us ys S2 H2 le2 m2 rr h2=>?_⟩
   obtain⟨z,j,rfl,hj,hm,h3⟩:=h2
   obtain⟨w,rfl,rw'⟩:=rr.one
   cases rw'
   have ev:=C7 r
   subst ev
   exact⟨l,zs,z,j,rfl,rfl,(f.mono le2).sq,hj,hm,fin _ _ S2 H2 (le1.trans le2) m2.g (.int _) h3⟩
end
def Aae:T->T->TH->UX->Prop:=fun x y S P=>match x,y with
 | .tup ts,.int n=>ts≠[]/\0<=n/\n<2 ^ 63/\ts.length * n.toNat<=sizeLine/\P (.tup (List.replicate n.toNat ts).flatten) S
 |_,_=>False
theorem lRepA{K:PySem.W.Frag}:LOp K (Aam K) Aae:=fun S H v w x y P Q g rx ry ho fin=>by
 cases x with
 |tup ts =>
  cases y with
  |int n =>
   obtain⟨h0,h1,h2,h3,h⟩:=ho
   obtain⟨a,vs,rfl,f,r⟩:=id rx.tupE
   cases ry
   refine⟨a,n,vs,rfl,rfl,f.sq,fun z=>h0 (List.length_eq_zero_iff.mp (by rw[<-r.1,z];rfl)),h1,h2,by rw[r.1];exact h3,fun z=>?_,fun _ p hp=>Dj fin g hp (Hy r _) h⟩
   subst z
   have e:(List.replicate (1:Int).toNat ts).flatten=ts:=by simp
   rw[e] at h
   exact fin _ _ S H .refl g rx h
  |_=>exact ho.elim
 |_=>exact ho.elim
section
variable{X:Cx}{a b:Expr}{ta tb:UTE}{pos:Pos}
theorem Zz(ha:UE X a ta)(hb:UE X b tb):UE X (.BinOp a .Mult b pos) (Aq Aae ta tb):=D5 Yd lRepA ha hb
end
def Dq(s:Stmt)(j:Nat):Stmt:=match s with
 | .ClassDef _ _ _ body _ _ _ _ _ _ _=>body.getD j (.Pass ⟨0,0,0,0⟩)
 |_=>.Pass ⟨0,0,0,0⟩
section
variable{K:PySem.W.Frag}{h:Heap}{mg:Str->Option Value}{x:Str}{C:Addr}
theorem Adb(X:K.In h)(G:h.Ns mainGlobals mg)(a:PySem.W.nsIn K mainGlobals x=some (some (.ref C)))(pg:PySem.W.plainGet K C Str.empty=true)(hd:PySem.W.hasDictIn K C=true)(po:PySem.W.plainOver K C=true)(sa:PySem.W.findIn K (.ref C) "__setattr__"=some (some (.builtin "object.__setattr__"))):Cls K (cAt mg x):=by
 rw[Ci X G a];exact⟨pg,hd,po,sa⟩
theorem Jt{f:Str}(X:K.In h)(G:h.Ns mainGlobals mg)(a:PySem.W.nsIn K mainGlobals x=some (some (.ref C)))(q:PySem.W.findIn K (.ref C) f=some none):NoAttr K (cAt mg x) f:=by
 rw[Ci X G a];exact q
theorem Zy{m qual:Str}{ps:List Str}{st:Stmt}{f:Addr}{oc:Value}{od an:Option Addr}{osl:Array (Option Value)}{kV doc pm cdv ct:Value}(X:K.In h)(G:h.Ns mainGlobals mg)(a:PySem.W.nsIn K mainGlobals x=some (some (.ref C)))(a1:PySem.W.findIn K (.ref C) m=some (some (.ref f)))(i1:PySem.W.isFn K (.ref f)=true)
  (l:K.lookup f=some ⟨oc,od,.func (PySem.W.fnOf m qual (Bw st) (defBody st) (Zb st) .none kV doc pm an cdv ct),osl⟩) (c:PySem.W.codeIn K cdv qual=true) (k:PySem.W.keepIn K (.ref f)=true) (cl:Cls K (cAt mg x))
  (b:∀(kV doc pm:Value) (an:Option Addr) (cdv ct:Value) (us:List Value),us.length=ps.length->bindArgs (PySem.W.fnOf m qual (Bw st) (defBody st) (Zb st) .none kV doc pm an cdv ct) ⟨us,[]⟩=pure (ps.zip us)):Ck K (cAt mg x) m qual ps st :=
 ⟨f,_,Ge l c k,(Ge l c k).binds b,by rw[Ci X G a];exact⟨a1,i1,k⟩,cl⟩
theorem N6{qual:Str}{ps:List Str}{st:Stmt}{f:Addr}{oc:Value}{od an:Option Addr}{osl:Array (Option Value)}{kV doc pm cdv ct:Value}(X:K.In h)(G:h.Ns mainGlobals mg)(a:PySem.W.nsIn K mainGlobals x=some (some (.ref C)))(a1:PySem.W.findIn K (.ref C) "__init__"=some (some (.ref f)))(i1:PySem.W.isFn K (.ref f)=true)
  (l:K.lookup f=some ⟨oc,od,.func (PySem.W.fnOf "__init__" qual (Bw st) (defBody st) (Zb st) .none kV doc pm an cdv ct),osl⟩) (c:PySem.W.codeIn K cdv qual=true) (k:PySem.W.keepIn K (.ref f)=true) (mk:PySem.W.makesIn K C=true) (kc:PySem.W.keepIn K (.ref C)=true)
  (b:∀(kV doc pm:Value) (an:Option Addr) (cdv ct:Value) (us:List Value),us.length=ps.length->bindArgs (PySem.W.fnOf "__init__" qual (Bw st) (defBody st) (Zb st) .none kV doc pm an cdv ct) ⟨us,[]⟩=pure (ps.zip us)):G6 K mg (cAt mg x) x qual ps st :=
 ⟨f,_,Ge l c k,(Ge l c k).binds b,by rw[Ci X G a];exact⟨mk,a1,i1,kc⟩,Gj X G a⟩
end
end TL
end
section
namespace L2
open PySem PySem.Spec PyProof.Rows
end L2
end
section
namespace L2
open PySem PySem.Spec PyProof.Rows
open Sem (wp)
end L2
end
section
namespace TL
open PySem PySem.Spec PyProof.Rows L2
end TL
end
section
namespace L2
open PySem PySem.Spec PyProof.Rows
end L2
end
section
namespace L2
open PySem PySem.Spec PyProof.Rows
end L2
end
section
namespace TL
open PySem PySem.Spec PyProof.Rows L2
end TL
end
section
namespace L2
open PySem PySem.Spec PyProof.Rows
end L2
end
section
namespace TL
open PySem PySem.Spec PyProof.Rows L2
end TL
end
section
namespace TL
open PySem PySem.Spec PyProof.Rows L2
end TL
end
section
namespace TL
open PySem PySem.Spec PyProof.Rows L2
end TL
end
section
namespace L2
open PySem PySem.Spec PyProof.Rows
theorem Ko:∀(k:Nat) (l:List Str),Vals (l.map V.str) (strsFrom k l)
 |_,[]=>.nil
 |k,x::r=>.cons ⟨k,rfl⟩ (Ko (k+1) r)
section
variable{X:Cx}
theorem Uf:MtR X "str.split" (fun x vs H Q=>∃a b,x=.str a/\vs=[.str b]/\(b.length==0)=false/\a.length<=sizeLine/\(Txt.split a b).length<=sizeLine/\∀l,H l=none->Q (.ref l) (upd H l (.lst ((Txt.split a b).map V.str)))):=by
 intro pins s σ H x vs v us Q I rx rv h
 obtain⟨a,b,rfl,rfl,hb,hz,hn,q⟩:=h
 obtain⟨t,rfl⟩:=rx
 obtain⟨u,rfl,ru⟩:=rv.one
 obtain⟨t',rfl⟩:=ru
 have fin:∀(zs:List Value) (k:Nat),Vals ((Txt.split a b).map V.str) zs->EP X pins σ Q (.ref s.heap.objs.size) { s with heap:=s.heap.push { cls:=.type "list",data:=.seq zs.toArray },toks:=k }:=fun zs k rel =>
  ⟨.ref _,_,I.laid (o:=.lst ((Txt.split a b).map V.str)) (t':=k) (fun b o e=>Heap.get?_push_of_some _ e) (Nat.le_refl _) ⟨by rw[List.length_map];exact hn,zs,0,rel,Heap.get?_push_size _ rfl⟩,rfl,q _ I.fresh⟩
 by_cases h1:(decide (a.length<b.length) || decide (Builtin.Str.strKind a<Builtin.Str.strKind b))=true
 ·have es:Txt.split a b=[a]:=by unfold Txt.split;rw[if_pos h1]
  refine call_meets PySem.F.slot_str_split (typeIs_str _ _ _) PySem.F.entry_str_split (PySem.F.args_str_split_2 _ _) (meets_str_split_cannot_occur a b t t' h1) ?_
  exact fin [.str a t] s.toks (by rw[es];exact .cons ⟨t,rfl⟩ .nil)
 ·have h1:(decide (a.length<b.length) || decide (Builtin.Str.strKind a<Builtin.Str.strKind b))=false:=by simpa using h1
  by_cases h2:(Builtin.Str.occurrences a b 0 a.length (a.length+1)).isEmpty=true
  ·have es:Txt.split a b=[a]:=by unfold Txt.split;rw[if_neg (by rw[h1];exact Bool.false_ne_true),if_pos h2]
   refine call_meets PySem.F.slot_str_split (typeIs_str _ _ _) PySem.F.entry_str_split (PySem.F.args_str_split_2 _ _) (meets_str_split_not_found a b t t' h1 hb h2) ?_
   exact fin [.str a t] s.toks (by rw[es];exact .cons ⟨t,rfl⟩ .nil)
  ·have h2':(Builtin.Str.occurrences a b 0 a.length (a.length+1)).isEmpty=false:=by simpa using h2
   have es:Txt.split a b=Builtin.Str.partsBetween a (Builtin.Str.occurrences a b 0 a.length (a.length+1)) b.length:=by unfold Txt.split;rw[if_neg (by rw[h1];exact Bool.false_ne_true),if_neg h2]
   refine call_meets PySem.F.slot_str_split (typeIs_str _ _ _) PySem.F.entry_str_split (PySem.F.args_str_split_2 _ _) (meets_str_split_sep a b t t' h1 hb h2' hz (by rw[<-es];exact hn)) ?_
   exact fin (strsFrom s.toks _) _ (by rw[<-es];exact Ko _ _)
theorem R8:CallR X (.type "int") (fun xs H Q=>∃i:Int,xs=[.str (Str.ofString (toString i))]/\0<=i/\i<10 ^ 10/\Q (.int i) H):=by
 intro pins s σ H xs us Q I r h
 obtain⟨i,rfl,h0,h1,q⟩:=h
 obtain⟨u,rfl,ru⟩:=Ej r
 obtain⟨t,rfl⟩:=ru
 exact PySem.W.KIN.call_num h0 h1 ⟨.int i,H,I.tok _,⟨_,rfl⟩,q⟩
def Itv(K:PySem.W.Frag)(a:Addr)(n:Nat):It :=
 ⟨fun i H=>∃xs x,SqL K H a xs/\xs.length=n/\i<n/\xs[n - 1 - i]?=some x,fun i H x H'=>H'=H/\∀xs,SqL K H a xs->xs[n - 1 - i]?=some x,fun i _=>i=n⟩
theorem Ub{P:Program}{w:World}{K:PySem.W.Frag}{tg:Expr}(a it:Addr)(n:Nat):Turn P w K tg (Itv K a n) [it] it (fun i h=>i<=n/\h.IsRevIter it a ((n:Int) - 1 - (i:Int))) where
 mem:=by simp
 obj:=fun i h st b hb=>by
  have e:b=it:=by simpa using hb
  subst e
  obtain⟨_,o,e,c,d⟩:=st
  exact⟨o,e,fun v z=>by rw[d] at z;cases z⟩
 keep:=fun i h h' st k=>⟨st.1,st.2.at fun o e=>k it (by simp) o e⟩
 item:=by
  intro X hP hw hK hc i pins s σ H E I hf st hg
  subst hP hw hK
  obtain⟨xs,x,hq,hn,hi,hx⟩:=hg
  obtain⟨its,rv,p,hz⟩:=I.list hq
  obtain⟨u,hu,ru⟩:=rv.get hx
  obtain⟨f0,f1,f2,f3,f4,f5⟩:=hf it (by simp)
  obtain⟨_,st⟩:=st
  have e:(n:Int) - 1 - (i:Int)=((n - 1 - i:Nat):Int):=by omega
  rw[e] at st
  refine wpAny_pyNext_rev_item st p.isList (x:=u) (by simpa using hu) fun h' st' sb=>?_
  have I1:Inv X pins σ H { s with heap:=h' }:=I.turned (t':=s.toks) (fun b o hb e=>(sb.2 b hb).trans e) f0 f1 f3 f4 f5
  have e2:((n - 1 - i:Nat):Int) - 1=(n:Int) - 1 - ((i+1:Nat):Int):=by omega
  rw[e2] at st'
  obtain⟨o,e,c,d⟩:=id st'
  exact⟨u,rfl,Pe (s:={ s with heap:=h' }) e c d (by decide) ⟨x,H,I1,ru,⟨rfl,fun ys hy=>by rw[I.list_inj hy hq];exact hx⟩,⟨hi,st'⟩,fun b hb=>(hf b hb).1⟩⟩
 done:=by
  intro X hP hw hK hc i pins s σ H E I hf st hg
  subst hP hw hK
  obtain⟨f0,f1,f2,f3,f4,f5⟩:=hf it (by simp)
  have hg:i=n:=hg
  obtain⟨_,st⟩:=st
  have e:(n:Int) - 1 - (i:Int)=-1:=by omega
  rw[e] at st
  exact wpAny_pyNext_rev_end (I.ok.hd hc) st fun h' sb=>⟨rfl,I.turned (t':=s.toks) (fun b o hb e=>sb b o hb e) f0 f1 f3 f4 f5⟩
 self:=fun A i s Q E st hQ=>wpAny_pyIter_revIter st.2 hQ
def iRev(K:PySem.W.Frag)(ta:TA):TI:=fun σ H R=>ta σ H fun xs H1=>∃a ys,xs=[.ref a]/\SqL K H1 a ys/\R (Itv K a ys.length) H1
theorem Abo{tg e:Expr}{ta:TA}{p pos:Pos}(hg:Gl X "reversed")(hm:X.mg "reversed"=none)(ha:PA X [e] ta)(hs:starEach [e] X.env=(false,eval e X.env)::starEach [] X.env:=by rfl):PI X tg (.Call (.Name "reversed" p) [e] [] pos) (iRev X.K ta):=by
 intro pins s σ H R I h
 refine wpAny_Call_Name_kw (Dg I hg hm boot_reversed ?_)
 refine PyProof.Rows.callWith_type1 (thn (ha pos pins s σ H _ I h) fun us s1 ⟨xs,H1,I1,r1,a,ys,ex,hq,q⟩=>?_) hs
 subst ex
 obtain⟨u,rfl,ru⟩:=Ej r1
 cases ru
 obtain⟨its,rv,pl,hz⟩:=I1.list hq
 refine call_reversed_list pl.isList ?_
 have el:((its.toArray.size:Nat):Int) - 1=(ys.length:Int) - 1 - ((0:Nat):Int):=by rw[List.size_toArray,<-rv.length];simp
 have hi:({ s1 with heap:=s1.heap.push (revObj a (((its.toArray.size:Nat):Int) - 1)) }:Shared).heap.IsRevIter s1.heap.objs.size a ((ys.length:Int) - 1 - ((0:Nat):Int)):=by
  rw[el];exact⟨_,Heap.get?_push_size _ rfl,rfl,rfl⟩
 refine wpAny_pyIter_revIter hi ⟨s1.heap.objs.size,[s1.heap.objs.size],_,_,H1,rfl,I1.kept (t':=s1.toks) (fun b o e=>Heap.get?_push_of_some _ e),Ub a _ ys.length,⟨Nat.zero_le _,hi⟩,fun b hb=>?_,q⟩
 rw[List.mem_singleton.mp hb]
 exact I1.fpOk (Nat.le_refl _) I1.fresh
def tKIn(kvs:List (Key×V))(ty:TE):TE:=fun σ H Q=>ty σ H fun y H1=>∃k,y=kV k/\Q (.bl (valV kvs k).isSome) H1
theorem Acd{x:Str}{a:Addr}{kvs:List (Key×V)}{e:Expr}{ty:TE}{p:Pos}(hg:Gl X x)(hm:X.mg x=some (.ref a))(kd:KD X.prog X.w X.K a kvs)(he:PE X e ty)(hd:(x==("__debug__":Str))=false:=by decide):PC X .In e (.Name x p) (tKIn kvs ty):=by
 intro pins s σ H Q I h
 obtain⟨hsm,vs,rel,hdd⟩:=kd
 refine thn (he pins s σ H _ I h) fun iv s1 ⟨y,H1,I1,ry,k,ey,q1⟩=>Bo I1 hg hm ?_ hd
 subst ey
 refine wpAny_in_of (Pz ry) hsm (hdd s1.heap I1.kIn).mapOf ?_
 rw[<-(rel.val k).isSome_eq]
 exact⟨.bl _,H1,I1.tok _,rfl,q1⟩
def Abe(kvs:List (Key×V))(ty tz:TE):TE:=fun σ H Q=>ty σ H fun y H1=>tz σ H1 fun z H2=>∃k,y=kV k/\Q ((valV kvs k).getD z) H2
theorem Tz{x:Str}{a:Addr}{kvs:List (Key×V)}{e f:Expr}{ty tz:TE}{p apos cpos:Pos}(hg:Gl X x)(hm:X.mg x=some (.ref a))(kd:KD X.prog X.w X.K a kvs)(he:PE X e ty)(hf:PE X f tz)(m:M2 X (.Name x p) "get" apos e f cpos)
  (hd:(x==("__debug__":Str))=false:=by decide):PE X (.Call (.Attribute (.Name x p) "get" apos) [e,f] [] cpos) (Abe kvs ty tz):=by
 intro pins s σ H Q I h
 obtain⟨hsm,vs,rel,hdd⟩:=kd
 refine wpAny_Call_method m.base m.few m.line PySem.F.plainAttrs_dict PySem.F.slot_dict_get PySem.F.type_dict_get (Bo I hg hm ?_ hd)
 have dd:=hdd s.heap I.kIn
 refine⟨dd.typeIs,fun b q=>?_,?_⟩
 ·cases q
  obtain⟨ob,_,_,h1,h2,_⟩:=dd
  exact⟨ob,h1,h2.2.1⟩
 rw[m.trees]
 refine Calls.callWith_builtin rfl (Calls.evalArgs_plain (Calls.spliced_cons (thn (he pins s σ H _ I h) fun iv s2 h2=>Calls.spliced_cons ?_)))
 obtain⟨y,H2,I2,ry,h2⟩:=h2
 refine thn (hf pins s2 σ H2 _ I2 h2) fun zv s3 h3=>Calls.spliced_nil ?_
 obtain⟨z,H3,I3,rz,k,rfl,q3⟩:=h3
 have dd3:=hdd s3.heap I3.kIn
 refine call_meetsIn PySem.F.slot_dict_get dd3.typeIs PySem.F.entry_dict_get (PySem.F.args_dict_get_3 _ _ _) (meets_dict_get_default (mixKind X.prog X.w) a (Pz ry) hsm zv) ⟨_,dd3.mapOf,?_⟩
 exact⟨(valV kvs k).getD z,H3,I3.tok _,RelO.getD (d:=z) (rel.val k) rz,q3⟩
end
end L2
namespace L2
open PySem PySem.Spec PyProof.Rows
section
variable{X:Cx}
def W4(K:PySem.W.Frag):V->List V->Hp->VK->Prop:=fun x vs H Q=>∃(l:Addr) (zs:List Str) (z:Str),x=.ref l/\vs=[.str z]/\SqT K H l (zs.map V.str)/\Q (.int ((zs.countP fun y=>y==z:Nat):Int)) H
theorem Qt:MtR X "tuple.count" (W4 X.K):=by
 intro pins s σ H x vs v us Q I rx rv h
 obtain⟨l,zs,z,rfl,rfl,sq,q⟩:=h
 cases rx
 obtain⟨u,rfl,ru⟩:=rv.one
 obtain⟨tz,rfl⟩:=ru
 obtain⟨its,r,pl,hz⟩:=I.tuple sq
 obtain⟨o,ho,c1,n,c3⟩:=pl
 obtain⟨oc,od,odt,osl⟩:=o
 cases c1;cases c3
 refine call_meets PySem.F.slot_tuple_count ⟨_,ho,rfl⟩ PySem.F.entry_tuple_count (PySem.F.args_tuple_count_2 _ _) (SeqAt.tuple_countAt l its.toArray n od osl (.str z tz) (fun v=>match v with | .str y _=>y==z|_=>false)) ⟨ho,fun y hy=>?_,?_⟩
 ·obtain⟨x,t,rfl⟩:=Lg r y (by simpa using hy)
  exact SeqAt.EqAt.str_str x t z tz
 ·refine⟨.int _,H,I.tok _,⟨_,rfl⟩,?_⟩
  rw[show its.toArray.toList=its by simp,Hj _ (fun _ _=>rfl) r]
  exact q
end
end L2
end
section
namespace TL
open PySem PySem.Spec PyProof.Rows L2
section
variable{X:Cx}{o e a tg:Expr}{es:List Expr}{to te ta tf:UTE}{tr:UTA}{apos cpos pos p:Pos}
def Adl(to:UTE)(tr:UTA):UTE:=fun env S P=>to env S fun x S1=>match x with
 | .str a=>tr env S1 fun ys S2=>match ys with
  |[.str b]=>(b.length==0)=false/\a.length<=sizeLine/\(Txt.split a b).length<=sizeLine/\P (.lst ((Txt.split a b).map T.str)) S2
  |_=>False
 |_=>False
theorem Kg{K:PySem.W.Frag}{S:TH}{H:Hp}:∀(zs:List Str),Reps K S H (zs.map V.str) (zs.map T.str)
 |[]=>.nil
 |z::r=>.cons (.str z) (Kg r)
theorem Mj(ho:UE X o to)(ha:UA X [e] tr)(hbase:attributeBase o "split" X.env (eval o X.env)=eval o X.env:=by rfl)
  (hfew:((backTo cpos (starEach [e] X.env)).all (fun x=>!x.1)&&(backToKw cpos (keywordEach [] X.env)).all (fun x=>x.1.isSome)&&decide (([e]:List Expr).length+([]:List Keyword).length+(if ([]:List Keyword).isEmpty then 0 else 1)<30))=true:=by rfl)
  (hline:(apos.endLine==cpos.line)=true:=by rfl) (hs:starEach [e] X.env=(false,eval e X.env)::starEach [] X.env:=by rfl) (hplain:(backTo cpos (starEach [] X.env)).any (·.1)=false:=by rfl) :
  UE X (.Call (.Attribute o "split" apos) [e] [] cpos) (Adl to tr) :=
 PE.imp (Ki PySem.F.plainAttrs_str PySem.F.slot_str_split PySem.F.type_str_split Uf ho ha hbase hfew hline hs hplain) fun σ H Q ⟨S,env,P,g,re,h,fin⟩ =>
  Za ⟨g,re⟩ h fun v x S1 H1 le1 m1 rx h1=>by
   cases x with
   |str a =>
    cases rx
    refine⟨rfl,Af m1 h1 fun vs rs S2 H2 le2 m2 rr h2=>?_⟩
    match rs,rr,h2 with
    |[.str b],rr,h2 =>
     obtain⟨w,rfl,rw'⟩:=rr.one
     cases rw'
     obtain⟨h3,h4,h5,h6⟩:=h2
     exact⟨a,b,rfl,rfl,h3,h4,h5,fun l hl=>B5 (fin.le (le1.trans le2)) m2.g hl (Kg _) h6⟩
   |_=>exact h1.elim
def oIntT(xs:List T)(S:TH)(P:UX):Prop:=∃i:Int,xs=[.str (Str.ofString (toString i))]/\0<=i/\i<10 ^ 10/\P (.int i) S
theorem Y8(hg:Gl X "int")(hm:X.mg "int"=none)(ha:UA X [a] tr)(he:starEach [a] X.env=(false,eval a X.env)::starEach [] X.env:=by rfl):UE X (.Call (.Name "int" p) [a] [] pos) (A9 oIntT tr) :=
 Da R8 (fun S H vs xs P Q g r ho fin=>by
  obtain⟨i,rfl,h0,h1,h⟩:=ho
  obtain⟨v,rfl,rx⟩:=r.one
  cases rx
  exact⟨i,rfl,h0,h1,fin _ _ S H .refl g (.int _) h⟩) hg hm boot_int ha (he:=he)
def uPop(to:UTE):UTE:=fun env S P=>to env S fun x S1=>match x with
 | .ref p=>∃ts y,S1 p=some (.lst ts)/\ts[ts.length - 1]?=some y/\P y (Ad S1 p (.lst ts.dropLast))
 |_=>False
theorem Reps.dropLast{K:PySem.W.Frag}{S:TH}{H:Hp}{vs:List V}{ts:List T}(r:Reps K S H vs ts):Reps K S H vs.dropLast ts.dropLast:=by
 rw[List.dropLast_eq_take,List.dropLast_eq_take,r.1];exact r.take _
theorem Abu(ho:UE X o to)(hbase:attributeBase o "pop" X.env (eval o X.env)=eval o X.env:=by rfl)(hline:(apos.endLine==cpos.line)=true:=by rfl):UE X (.Call (.Attribute o "pop" apos) [] [] cpos) (uPop to) :=
 PE.imp (Aco PySem.F.plainAttrs_list PySem.F.slot_list_pop PySem.F.type_list_pop Abl ho hbase hline) fun σ H Q ⟨S,env,P,g,re,h,fin⟩ =>
  Za ⟨g,re⟩ h fun v x S1 H1 le1 m1 rx h1=>by
   cases x with
   |ref p =>
    cases rx
    obtain⟨ts,y,e1,ey,hp⟩:=h1
    obtain⟨us,q2,r2⟩:=m1.g p _ e1
    obtain⟨w,ew,rw'⟩:=r2.get ey
    exact⟨.inl ⟨rfl,_,SqL.of q2⟩,p,us,w,rfl,rfl,q2,by rw[r2.1];exact ew,fin _ _ _ _ (le1.trans (Le.write e1)) (m1.g.writeL e1 r2.dropLast) (rw'.mono (Le.write e1)) hp⟩
   |_=>exact h1.elim
theorem Vy{K:PySem.W.Frag}{S:TH}{H:Hp}{a:Addr}{vs:List V}{ts:List T}(f:FL S H a vs)(r:Reps K S H vs ts):Ylds K (Itv K a vs.length) ts.reverse S H where
 go:=fun i S2 H2 le g hi=>by
  rw[List.length_reverse,<-r.1] at hi
  exact⟨vs,vs[vs.length - 1 - i]'(by omega),(f.mono le).sq,rfl,hi,List.getElem?_eq_getElem _⟩
 stop:=fun S2 H2 le g=>by show ts.reverse.length=vs.length;rw[List.length_reverse,r.1]
 yld:=fun i S2 H2 x H3 le g hi y=>by
  obtain⟨rfl,y⟩:=y
  rw[List.length_reverse] at hi
  obtain⟨t,et,rt⟩:=r.get' (y vs (f.mono le).sq)
  refine⟨.refl,g,t,?_,rt.mono le⟩
  rw[List.getElem?_reverse hi,<-r.1]
  exact et
def Abk(t:UTA):UTA:=fun env S P=>t env S fun xs S1=>∃ts,xs=[.lst ts]/\P ts.reverse S1
theorem Adr(hg:Gl X "reversed")(hm:X.mg "reversed"=none)(ha:UA X [e] tr)(hs:starEach [e] X.env=(false,eval e X.env)::starEach [] X.env:=by rfl):UI X tg (.Call (.Name "reversed" p) [e] [] pos) (Abk tr) :=
 PI.imp (Abo hg hm ha hs) fun σ H R ⟨S,env,P,g,re,h,fin⟩=>Af ⟨g,re⟩ h fun vs xs S1 H1 le1 m1 rx h1=>by
  obtain⟨ts,rfl,h1⟩:=h1
  obtain⟨v,rfl,rv⟩:=rx.one
  obtain⟨l,us,rfl,f,r⟩:=rv.lstE
  exact⟨l,us,rfl,f.sq,fin _ _ S1 H1 le1 m1.g h1 (Vy f r)⟩
def uKIn(kts:List (Key×T))(te:UTE):UTT:=fun env S P=>te env S fun y S1=>∃k,keyT y=some k/\P (valT kts k).isSome S1
theorem Abn{x:Str}{kts:List (Key×T)}(hg:Gl X x)(h:KDt X.prog X.w X.K X.mg x kts)(he:UE X e te)(hd:(x==("__debug__":Str))=false:=by decide)(hm:behindInMarks .In (.Name x p)=false:=by with_unfolding_all rfl):UT X (.Compare e [.In] [.Name x p] pos) (uKIn kts te):=by
 obtain⟨d,kvs,hmg,kd,rk⟩:=h
 refine PT.imp (Acj (Acd hg hmg kd he hd) hm) fun σ H Q ⟨S,env,P,g,re,h,fin⟩=>Za ⟨g,re⟩ h fun v y S1 H1 le1 m1 ry h1=>?_
 obtain⟨k,ek,h1⟩:=h1
 refine⟨k,Ky ry ek,(valV kvs k).isSome,rfl,?_⟩
 have rv:=(rk S1 H1).val (k:=k)
 have es:(valV kvs k).isSome=(valT kts k).isSome:=by
  cases q:valT kts k with
  |none=>rw[rv.2 q];rfl
  |some t=>obtain⟨u,eu,_⟩:=rv.1 t q;rw[eu];rfl
 rw[es]
 exact fin _ S1 H1 le1 m1.g h1
def Acr(kts:List (Key×T))(te tf:UTE):UTE:=fun env S P=>te env S fun y S1=>tf env S1 fun z S2=>∃k,keyT y=some k/\P ((valT kts k).getD z) S2
theorem Sv{x:Str}{kts:List (Key×T)}{f:Expr}(hg:Gl X x)(h:KDt X.prog X.w X.K X.mg x kts)(he:UE X e te)(hf:UE X f tf)(m:M2 X (.Name x p) "get" apos e f cpos)(hd:(x==("__debug__":Str))=false:=by decide):UE X (.Call (.Attribute (.Name x p) "get" apos) [e,f] [] cpos) (Acr kts te tf):=by
 obtain⟨d,kvs,hmg,kd,rk⟩:=h
 refine PE.imp (Tz hg hmg kd he hf m hd) fun σ H Q ⟨S,env,P,g,re,h,fin⟩=>Za ⟨g,re⟩ h fun v y S1 H1 le1 m1 ry h1=>Za m1 h1 fun w z S2 H2 le2 m2 rz h2=>?_
 obtain⟨k,ek,h2⟩:=h2
 refine⟨k,Ky (ry.mono le2) ek,?_⟩
 have rv:=(rk S2 H2).val (k:=k)
 cases q:valT kts k with
 |none=>rw[q] at h2;rw[rv.2 q];exact fin _ _ S2 H2 (le1.trans le2) m2.g rz h2
 |some t=>rw[q] at h2;obtain⟨u,eu,ru⟩:=rv.1 t q;rw[eu];exact fin _ _ S2 H2 (le1.trans le2) m2.g ru h2
def Wv(to:UTE)(tr:UTA):UTE:=fun env S P=>to env S fun x S1=>∃zs:List Str,x=.tup (zs.map T.str)/\tr env S1 fun ys S2=>∃z:Str,ys=[.str z]/\P (.int ((zs.countP fun y=>y==z:Nat):Int)) S2
theorem R3(hu:X.A.units<cLine)(ho:UE X o to)(ha:UA X [e] tr)(hbase:attributeBase o "count" X.env (eval o X.env)=eval o X.env:=by rfl)
  (hfew:((backTo cpos (starEach [e] X.env)).all (fun x=>!x.1)&&(backToKw cpos (keywordEach [] X.env)).all (fun x=>x.1.isSome)&&decide (([e]:List Expr).length+([]:List Keyword).length+(if ([]:List Keyword).isEmpty then 0 else 1)<30))=true:=by rfl)
  (hline:(apos.endLine==cpos.line)=true:=by rfl) (hs:starEach [e] X.env=(false,eval e X.env)::starEach [] X.env:=by rfl) (hplain:(backTo cpos (starEach [] X.env)).any (·.1)=false:=by rfl) :
  UE X (.Call (.Attribute o "count" apos) [e] [] cpos) (Wv to tr) :=
 PE.imp (Ki PySem.F.plainAttrs_tuple PySem.F.slot_tuple_count PySem.F.type_tuple_count Qt ho ha hbase hfew hline hs hplain) fun σ H Q ⟨S,env,P,g,re,h,fin⟩ =>
  Za ⟨g,re⟩ h fun v x S1 H1 le1 m1 rx h1=>by
   obtain⟨zs,rfl,h1⟩:=h1
   obtain⟨l,vs,rfl,f,r⟩:=rx.tupE
   have ev:=C7 r
   subst ev
   refine⟨.inr (.inl ⟨rfl,_,f.sq⟩),Af m1 h1 fun us ys S2 H2 le2 m2 rr h2=>?_⟩
   obtain⟨z,rfl,h3⟩:=h2
   obtain⟨w,rfl,rw'⟩:=rr.one
   cases rw'
   exact⟨l,zs,z,rfl,rfl,(f.mono le2).sq,fin _ _ S2 H2 (le1.trans le2) m2.g (.int _) h3⟩
end
end TL
end
section
namespace L2
open PySem PySem.Spec PyProof.Rows
def Hi(K:PySem.W.Frag)(C C':Addr):Bool:=match K.lookup C with
 |some ⟨.type "type",_,.cls cd,sl⟩=>(match cd.mro,sl.toList with
  | .ref D::bm,[_,_,_,_,some (.builtin _),_]=>D==C&&!cd.hasDel&&!(Value.ref C::bm).contains (.ref C')
  |_,_=>false)
 |_=>false
theorem Abt{K:PySem.W.Frag}{h:Heap}{C C':Addr}(X:K.In h)(q:Hi K C C'=true):∃nm qn N bs bm hdct sn sub ab col dd k0 k1 k2 k3 k5 newId,
  h.get? C=some (excClassObj nm qn C N bs bm hdct sn sub ab col dd k0 k1 k2 k3 k5 newId)/\(Value.ref C::bm).contains (.ref C')=false:=by
 unfold Hi at q
 split at q
 ·rename_i dd cd sl ho
  split at q
  ·rename_i D bm k0 k1 k2 k3 n k5 hm hs
   simp only[Bool.and_eq_true,beq_iff_eq,Bool.not_eq_true'] at q
   obtain⟨⟨rfl,hdel⟩,ht⟩:=q
   obtain⟨nm,bs,mro,ns,qn,hd,sn,sub,ab,col,del⟩:=cd
   dsimp only at hm hdel
   subst hm hdel
   have hsl:sl=#[k0,k1,k2,k3,some (.builtin n),k5]:=by
    obtain⟨l⟩:=sl
    simp only at hs
    rw[hs]
   subst hsl
   exact⟨nm,qn,ns,bs,bm,hd,sn,sub,ab,col,dd,k0,k1,k2,k3,k5,n,X _ _ ho,ht⟩
  ·cases q
 ·cases q
section
variable{X:Cx}{Ca Cb:Addr}{pins:List (Addr×Obj)}{σ:St}{H:Hp}{s:Shared}
abbrev xTwo (K:PySem.W.Frag) (Ca Cb:Addr) (h1 h2:Addr->Obj->TS) (D:Ends) (σ:St):XK:=fun c _ H2=>∃ C1,c = .ref C1 ∧
  ((Eh K C1 Ca = true /\ ∀ a oe,(oe.cls = c /\ oe.dict = none /\ ∃ vs,oe.data = .fields vs)->H2 a = none->h1 a oe { nx:=fun _ _=>False,rt:=D.rt } σ H2) ∨
   (Hi K C1 Ca = true /\ Eh K C1 Cb = true /\ ∀ a oe,(oe.cls = c /\ oe.dict = none /\ ∃ vs,oe.data = .fields vs)->H2 a = none->h2 a oe { nx:=fun _ _=>False,rt:=D.rt } σ H2))
def tTry2(K:PySem.W.Frag)(Ca Cb:Addr)(sp:Sp)(t:TA)(h1 h2:Addr->Obj->TS):TS:=fun D σ H=>t σ H fun vs H1=>sp vs H1 D.rt (xTwo K Ca Cb h1 h2 D σ)
theorem W5{x ca cb:Str}{p cp rp np np' hp hp' pos:Pos}{e:Expr}{es:List Expr}{b₀ b₁:Stmt}{suite suite':List Stmt}{k:Nat}{f:Addr}{fd:FuncData}{ps:List Str}{sp:Sp}{t:TA}{h1 h2:Addr->Obj->TS}
  (hst:X.stack=X.env::X.outer) (hf:X.env.frame=some X.env.locals)
  (F:FnOk X.prog X.w X.K X.mg X.base (CXE X.prog X.w) k f fd ps sp) (hr:Room k X.A) (hg:Gl X x) (hm:X.mg x=some (.ref f)) (hk:PySem.W.keepIn X.K (.ref f)=true) (hb:Binds X.K fd ps []) (ha:PA X.nox (e::es) t)
  (hga:Gl X ca) (hma:X.mg ca=some (.ref Ca)) (hka:PySem.W.ktsIn X.K Ca "BaseException"=true)
  (hgb:Gl X cb) (hmb:X.mg cb=some (.ref Cb)) (hkb:PySem.W.ktsIn X.K Cb "BaseException"=true)
  (hh1:∀a oe,PSs (X.hnd a oe) (b₀::suite) (h1 a oe)) (hh2:∀a oe,PSs (X.hnd a oe) (b₁::suite') (h2 a oe))
  (hdb:(x==("__debug__":Str))=false:=by decide) (hda:(ca==("__debug__":Str))=false:=by decide) (hdc:(cb==("__debug__":Str))=false:=by decide) (he:starEach (e::es) X.env=(false,eval e X.env)::starEach es X.env:=by rfl) (hpl:(backTo cp (starEach es X.env)).any (·.1)=false:=by rfl) :
  PS X (.Try [.Return (some (.Call (.Name x p) (e::es) [] cp)) rp] [.ExceptHandler (some (.Name ca np)) none (b₀::suite) hp,.ExceptHandler (some (.Name cb np')) none (b₁::suite') hp'] [] [] pos) (tTry2 X.K Ca Cb sp t h1 h2):=by
 intro pins s σ H D I h
 have hfr:X.A.frames=some (X.env::X.outer):=by rw[<-hst];exact I.ok.frames
 refine wpAny_Try_except ?_
 refine wpAny_execs_cons ?_
 refine wpAny_mono (wpAny_Return_some (wpAny_mono (Wp F hr hg hm hk hb ha I h hdb he hpl) (fun v s1 hq=>?_) fun _ _ w=>w)) (fun f s1 hq=>hq) (fun ex s' hq=>?_)
 ·obtain⟨w,H1,I1,r1,q1⟩:=hq
  exact⟨w,σ,H1,I1,r1,q1⟩
 ·obtain⟨H1,s1,I1,hcx⟩:=hq
  obtain⟨a,cls,H',T,rfl,xo,ne,tb,ffr,keep,ha0,hHa,C1,rfl,hE⟩:=Aas I1 hcx
  obtain⟨hp0,g0,d0,t0,os0⟩:=s'
  rw[hst] at ffr keep
  have aL:a≠X.env.locals:=fun q=>by
   obtain⟨m,⟨o,_,_,ho,_⟩,_⟩:=I1.loc
   rw[<-q,ha0] at ho;cases ho
  have aF:a ∉ X.fs:=fun m=>by
   have m':a∈frs X.stack:=by
    rw[hst];unfold frs;rw[List.filterMap_cons,hf];exact .tail _ m
   obtain⟨_,o,ho,_⟩:=I1.stack.mem m'
   rw[ha0] at ho;cases ho
  refine Mv hfr ffr hf xo (.inr ⟨T,rfl,ne,tb⟩) fun h4 T4 k4 x4 n4 t4=>?_
  have ne4:T4≠a:=fun z=>by
   obtain⟨_,e1,_⟩:=xo
   rw[z,e1] at n4;cases n4
  have go:∀{h h':Heap},Nt (frs (X.env::X.outer)) a (.ref T) hp0 h->(∀b o,h.get? b=some o->b≠T4->h'.get? b=some o)->Nt (frs (X.env::X.outer)) a (.ref T) hp0 h':=fun {h h'} k k'=>⟨fun b o q n1 n2 n3=>k' b o (k.keep b o q n1 n2 n3) fun z=>(by rw[z,n4] at q;cases q),fun b o q m=>(by
   obtain⟨sl,q1⟩:=k.slot b o q m
   exact⟨sl,k' b _ q1 fun z=>by rw[z,n4] at q;cases q⟩)⟩
  refine Iu x4 ne4 t4 fun h5 kk5 x5 t5=>?_
  have I5:=keep h5 (go k4 kk5)
  obtain⟨vs5,e51,_⟩:=id x5
  have J5:=I5.hnd e51 hHa aL aF (fun v q=>by cases q)
  have fin:∀{hd:Addr->Obj->TS} {b:Stmt} {st:List Stmt} {hq:Pos},(∀a oe,PSs (X.hnd a oe) (b::st) (hd a oe))->(∀oe,(oe.cls=.ref C1/\oe.dict=none/\∃vs,oe.data=.fields vs)->hd a oe { nx:=fun _ _=>False,rt:=D.rt } σ H') →
    codeAny (model X.prog X.w) (X.A.mark (some (.ref a))) (.handlers (.ref a) [.ExceptHandler none none (b::st) hq] X.env) (fun r s₂=>match r with
     | .ok f=>SP X pins D f s₂
     | .error x=>cameBackBy (model X.prog X.w) X.A X.env X.xe x s₂) { heap:=h5,gens:=g0,drawn:=d0,toks:=t0,os:=os0 }:=fun {hd b st hq} hh hE=>by
   refine codeAny_handlers_suite ?_
   refine Iu x5 ne4 t5 fun h6 k6 x6 t6=>?_
   have I6:=keep h6 (go (go k4 kk5) k6)
   obtain⟨vs6,e61,_⟩:=id x6
   have J6:=I6.hnd e61 hHa aL aF (fun v q=>by cases q)
   refine wpAny_mono (hh a _ pins _ _ H' _ J6 (hE _ ⟨rfl,rfl,_,rfl⟩)) (fun f s8 hq=>?_) (fun _ _ w=>w.elim)
   cases f with
   |ret u =>
    obtain⟨v,σ',H2,J8,r,q⟩:=hq
    exact⟨v,_,H2,J8.unhnd I.ok,r,q⟩
   |next=>obtain⟨_,_,_,q⟩:=hq;exact q.elim
   |brk=>obtain⟨_,_,_,q⟩:=hq;exact q.elim
   |cont=>obtain⟨_,_,_,q⟩:=hq;exact q.elim
  obtain⟨nm',qn',N',bs',bm',hdct',sn',sub',ab',col',dd',k0',k1',k2',k3',k5',newId',hC',hbase,_⟩:=PySem.W.kts_cls I5.kIn hka
  refine wpAny_handleBy_cons (codeAny_handlers_test (Bo (X:=X.hnd a _) J5 hga hma ?_ hda)) (by intro q;cases q)
  rcases hE with⟨hsub,hE⟩|⟨hno,hsub,hE⟩
  ·obtain⟨nm,qn,N,bs,bm,hdct,sn,sub,ab,col,dd,k0,k1,k2,k3,k5,newId,hC,hct⟩:=Pi I5.kIn hsub
   refine B9 hC hC' e51 rfl hbase ?_
   rw[hct]
   exact fin hh1 fun oe ho=>hE a oe ho hHa
  ·obtain⟨nm,qn,N,bs,bm,hdct,sn,sub,ab,col,dd,k0,k1,k2,k3,k5,newId,hC,hct⟩:=Abt I5.kIn hno
   refine B9 hC hC' e51 rfl hbase ?_
   rw[hct]
   show wpAny _ _ (handleBy _ _ _) _ _ _
   obtain⟨nm2,qn2,N2,bs2,bm2,hdct2,sn2,sub2,ab2,col2,dd2,k02,k12,k22,k32,k52,newId2,hC2,hbase2,_⟩:=PySem.W.kts_cls I5.kIn hkb
   refine wpAny_handleBy_cons (codeAny_handlers_test (Bo (X:=X.hnd a _) J5 hgb hmb ?_ hdc)) (by intro q;cases q)
   obtain⟨nm3,qn3,N3,bs3,bm3,hdct3,sn3,sub3,ab3,col3,dd3,k03,k13,k23,k33,k53,newId3,hC3,hct3⟩:=Pi I5.kIn hsub
   refine B9 hC3 hC2 e51 rfl hbase2 ?_
   rw[hct3]
   exact fin hh2 fun oe ho=>hE a oe ho hHa
end
section
variable{X:Cx}
def repS(z:Str)(n:Nat):Str:=⟨(List.replicate n z.cps).foldl (·++·) #[]⟩
theorem R0(n:Nat)(b:Array Nat):∀a:Array Nat,((List.replicate n b).foldl (·++·) a).size=a.size+n * b.size:=by
 induction n with
 |zero=>intro a;simp
 |succ n ih =>
  intro a
  rw[List.replicate_succ,List.foldl_cons,ih,Array.size_append,Nat.succ_mul]
  omega
theorem Yp:OpR X (binaryOp .Mult) (fun x y H Q=>∃(z:Str) (n:Int),x=.str z/\y=.int n/\1<=n/\n<=10/\1<=z.length/\z.length<=1000/\Q (.str (repS z n.toNat)) H):=by
 intro pins s σ H x y v u Q I rx ry h
 obtain⟨z,n,rfl,rfl,h0,h1,z0,z1,q⟩:=h
 obtain⟨t,rfl⟩:=rx
 obtain⟨t',rfl⟩:=ry
 have szl:sizeLine=16777216:=rfl
 have hm:z.length * n.toNat<=10000:=Nat.le_trans (Nat.mul_le_mul z1 (show n.toNat<=10 by omega)) (by decide)
 refine PySem.P.mul_str (by rw[decide_eq_false (by omega),decide_eq_false (by omega)];rfl) (fun _ _=>?_) (fun _ _=>?_) ?_
 ·intro w
  have h2:(z.length:Int) * n<=2 ^ 63 - 1:=by
   have:((z.length * n.toNat:Nat):Int)=(z.length:Int) * n:=by rw[Int.natCast_mul,Int.toNat_of_nonneg (by omega)]
   omega
  have:=(Int.le_ediv_iff_mul_le (by omega)).mpr h2
  omega
 ·exact decide_eq_false (by omega)
 ·have c1:¬ n<1:=by omega
  rw[if_neg c1]
  by_cases c2:(n==1 || z.length==0)=true
  ·have e:n=1:=by
    have:¬ z.length=0:=by omega
    simpa [this] using c2
   subst e
   rw[if_pos c2]
   have e1:repS z (1:Int).toNat=z:=by
    show (⟨#[]++z.cps⟩:Str)=z
    rw[Array.empty_append]
   rw[e1] at q
   exact⟨.str z,H,I,⟨_,rfl⟩,q⟩
  ·rw[if_neg c2]
   refine⟨?_,⟨.str (repS z n.toNat),H,I.tok _,⟨_,rfl⟩,q⟩⟩
   show ((List.replicate n.toNat z.cps).foldl (·++·) #[]).size<=sizeLine
   rw[R0]
   have e:z.cps.size=z.length:=rfl
   rw[e,Nat.mul_comm]
   show 0+_<=_
   omega
end
end L2
end
section
namespace TL
open PySem PySem.Spec PyProof.Rows L2
section
variable{X:Cx}{Ca Cb:Addr}{e:Expr}{es:List Expr}{tr:UTA}
def uTry2(K:PySem.W.Frag)(Ca Cb:Addr)(t:List T->TH->UX->UR->Prop)(tr:UTA)(th1 th2:Addr->Obj->UTS):UTS:=fun E env S=>tr env S fun ts S1=>t ts S1 E.rt
 (fun c S2=>∃C1,c=.ref C1/\((Eh K C1 Ca=true/\∀a oe,(oe.cls=c/\oe.dict=none/\∃vs,oe.data=.fields vs)->th1 a oe { nx:=fun _ _=>False,rt:=E.rt } env S2) ∨
  (Hi K C1 Ca=true/\Eh K C1 Cb=true/\∀a oe,(oe.cls=c/\oe.dict=none/\∃vs,oe.data=.fields vs)->th2 a oe { nx:=fun _ _=>False,rt:=E.rt } env S2)))
theorem Y1{x ca cb:Str}{p cp rp np np' hp hp' pos:Pos}{b₀ b₁:Stmt}{suite suite':List Stmt}{k:Nat}{ps:List Str}{t:List T->TH->UX->UR->Prop}{th1 th2:Addr->Obj->UTS}
  (hst:X.stack=X.env::X.outer) (hf:X.env.frame=some X.env.locals)
  (F:Ep X.prog X.w X.K X.mg X.base k x ps t) (hr:Room k X.A) (hg:Gl X x) (ha:UA X.nox (e::es) tr)
  (hga:Gl X ca) (hma:X.mg ca=some (.ref Ca)) (hka:PySem.W.ktsIn X.K Ca "BaseException"=true)
  (hgb:Gl X cb) (hmb:X.mg cb=some (.ref Cb)) (hkb:PySem.W.ktsIn X.K Cb "BaseException"=true)
  (hh1:∀a oe,USs (X.hnd a oe) (b₀::suite) (th1 a oe)) (hh2:∀a oe,USs (X.hnd a oe) (b₁::suite') (th2 a oe))
  (hdb:(x==("__debug__":Str))=false:=by decide) (hda:(ca==("__debug__":Str))=false:=by decide) (hdc:(cb==("__debug__":Str))=false:=by decide) (he:starEach (e::es) X.env=(false,eval e X.env)::starEach es X.env:=by rfl) (hpl:(backTo cp (starEach es X.env)).any (·.1)=false:=by rfl) :
  US X (.Try [.Return (some (.Call (.Name x p) (e::es) [] cp)) rp] [.ExceptHandler (some (.Name ca np)) none (b₀::suite) hp,.ExceptHandler (some (.Name cb np')) none (b₁::suite') hp'] [] [] pos) (uTry2 X.K Ca Cb t tr th1 th2):=by
 obtain⟨f,fd,F,b,kp,hm⟩:=F
 refine PS.imp (W5 hst hf F hr hg hm kp b ha hga hma hka hgb hmb hkb hh1 hh2 hdb hda hdc he hpl) fun D σ H ⟨S,env,E,g,re,h,fin⟩=>?_
 refine Af ⟨g,re⟩ h fun vs xs S1 H1 le1 m1 rx h1=>?_
 refine⟨S1,xs,_,_,m1.g,rx,h1,fun v r S2 H2 le2 g2 rp hp=>fin.rt v r S2 H2 (le1.trans le2) g2 rp hp,fun c S2 H2 le2 g2 hq=>?_⟩
 obtain⟨C1,rfl,hq⟩:=hq
 have ends:∀{S3:TH} {H3:Hp},Le S1 H1 S3 H3->FinS X.K S3 H3 { nx:=fun _ _=>False,rt:=E.rt } { nx:=fun _ _=>False,rt:=D.rt }:=fun le2=>⟨fun _ _ _ _ _ _ _ z=>z.elim,fun v r S3 H3 le3 g3 rp hp=>fin.rt v r S3 H3 (le1.trans (le2.trans le3)) g3 rp hp,fun _ _ _ _ _ _ _ z=>z.elim,fun _ _ _ _ _ _ _ z=>z.elim⟩
 rcases hq with⟨h1,hth⟩|⟨h1,h2,hth⟩
 ·exact⟨C1,rfl,.inl ⟨h1,fun a oe ho _=>⟨S2,_,_,g2,m1.re.mono le2,hth a oe ho,ends le2⟩⟩⟩
 ·exact⟨C1,rfl,.inr ⟨h1,h2,fun a oe ho _=>⟨S2,_,_,g2,m1.re.mono le2,hth a oe ho,ends le2⟩⟩⟩
end
section
variable{K:PySem.W.Frag}{h:Heap}{mg:Str->Option Value}{x y:Str}{C D:Addr}
theorem Aba(X:K.In h)(G:h.Ns mainGlobals mg)(a:PySem.W.nsIn K mainGlobals x=some (some (.ref C)))(b:PySem.W.nsIn K mainGlobals y=some (some (.ref D)))(q:Hi K C D=true):Hi K (cAt mg x) (cAt mg y)=true:=by rw[Ci X G a,Ci X G b];exact q
end
section
variable{X:Cx}{a b:Expr}{ta tb:UTE}{pos:Pos}
def oMulS:T->T->TH->UX->Prop:=fun x y S P=>∃(z:Str) (n:Int),x=.str z/\y=.int n/\1<=n/\n<=10/\1<=z.length/\z.length<=1000/\P (.str (repS z n.toNat)) S
theorem Yx(ha:UE X a ta)(hb:UE X b tb):UE X (.BinOp a .Mult b pos) (Aq oMulS ta tb):=D5 Yp (fun S H v w x y P Q g rx ry ho fin=>by
 obtain⟨z,n,rfl,rfl,h0,h1,h2,h3,h⟩:=ho
 cases rx;cases ry
 exact⟨z,n,rfl,rfl,h0,h1,h2,h3,fin _ _ S H .refl g (.str _) h⟩) ha hb
def Aap:T->T->TH->UX->Prop:=fun x y S P=>∃ts n,x=.lst ts/\y=.int n/\0<=n/\n<=1000/\ts.length * n.toNat<=sizeLine/\P (.lst (List.replicate n.toNat ts).flatten) S
theorem lRepL{K:PySem.W.Frag}:LOp K rRep Aap:=fun S H v w x y P Q g rx ry ho fin=>by
 obtain⟨ts,n,rfl,rfl,h0,h1,h2,h⟩:=ho
 obtain⟨a,vs,rfl,f,r⟩:=rx.lstE
 cases ry
 refine⟨a,n,vs,rfl,rfl,f.2,by omega,by omega,?_,fun p hp=>B5 fin g hp (Hy r _) h⟩
 rw[r.1]
 exact h2
theorem K9(ha:UE X a ta)(hb:UE X b tb):UE X (.BinOp a .Mult b pos) (Aq Aap ta tb):=D5 Acg lRepL ha hb
end
end TL
end
local macro_rules | `(tactic| and_intros)=>`(tactic| simp only [TL.uIf,TL.uOr,TL.Cc,TL.I0,TL.A3,TL.Aq,TL.uUn,TL.Cd,TL.uC,TL.A9,TL.B8,TL.Cu,TL.Ia,TL.A8,TL.uSet,TL.Ds,TL.Dp,TL.En,TL.Jf,TL.Jl,TL.Hn,TL.Ei,TL.Bm,TL.Je,TL.uoN,TL.uoS,TL.D9,TL.Xj,TL.Xk,TL.Iz,TL.Cw,TL.Er,TL.tyT,TL.okC,TL.isT,TL.Gk,TL.oII,TL.oIC,TL.Fs,TL.oIx,TL.Ix,TL.G1,TL.Dt,TL.Hm,TL.Cg,TL.oIn,TL.Fw,TL.Hq,TL.Jh,TL.Xm,List.map_cons,List.map_nil,List.length_cons,List.length_nil,List.replicate,List.cons_append,List.nil_append,List.append_nil,List.getElem?_cons_zero,List.getElem?_cons_succ,List.set_cons_zero,List.set_cons_succ,Bool.false_eq_true,Bool.true_eq_false,false_implies,true_implies,forall_const,and_true,true_and,Bool.not_true,Bool.not_false,beq_self_eq_true,Bool.true_or,Bool.or_true,Bool.false_or,Bool.or_false,Bool.and_true,Bool.true_and,Bool.and_false,Bool.false_and,reduceCtorEq,Nat.reduceAdd,Nat.reduceSub,String.reduceBEq,Bool.false_xor,Bool.true_xor,Option.some.injEq,exists_eq_left,exists_eq_left'])
section
namespace K14
open PySem PySem.Spec PyProof.Rows L2 TL
seal UE UT UA US USs UI UG UO UW PTs
def top(i:Nat):Stmt:=PySem.Challenge.pw_loomlook_k14_whole_again.main.body.getD i (.Pass ⟨0,0,0,0⟩)
def Bq(lo hi:Int):T->Bool
 | .int i=>decide (lo<=i)&&decide (i<=hi)
 |_=>false
def Zw(x:Str):Bool:=decide (1<=x.length)&&decide (x.length<=8)&&x.cps.toList.all fun (c:Nat)=>decide (97<=c)&&decide (c<=122)
def isName:T->Bool
 | .str x=>Zw x
 |_=>false
def inS(zs:List Str):T->Bool
 | .str x=>decide (x∈zs)
 |_=>false
def Fi:T->Bool
 | .tup (.str _::_)=>true
 |_=>false
def kindTab:List (Str×List Str):=[("number",["number"]),("own",["own"]),("box",["box"]),("plus",["value","value"]),("minus",["value","value"]),("less",["value","value"]),("same",["value","value"]),("not",["value"])]
def C9:List (Key×T):=kindTab.map fun p=>(Sum.inr p.1,T.tup (p.2.map T.str))
def Aw(w:Str):Option (List Str):=(kindTab.find? fun p=>decide (p.1=w)).map (·.2)
def Bt(f:T->Bool)(ow bx:List Str)(k:Str)(x:T):Bool :=
 if k="number" then Bq 0 99 x else if k="own" then isName x&&inS ow x else if k="box" then isName x&&inS bx x else f x
def valOk:Nat->List Str->List Str->T->Bool
 | 0,_,_,_=>false
 |d+1,ow,bx,t=>match t with
  | .tup (.str w::r)=>(match Aw w with
   |none=>false
   |some ks=>decide (r.length=ks.length)&&(List.zipWith (fun x k=>Bt (valOk d ow bx) ow bx k x) r ks).all id)
  |_=>false
def stepTab:List (Str×List Str):=[("set",["own","value"]),("get",["own","box"]),("put",["box","value"]),("add",["box","value"]),("take",["lock"]),("give",["lock"]),("wait",["box","value"]),("check",["value"]),("skip",["count"]),("unless",["value","count"])]
def Bz:List (Key×T):=stepTab.map fun p=>(Sum.inr p.1,T.tup (p.2.map T.str))
def A7(w:Str):Option (List Str):=(stepTab.find? fun p=>decide (p.1=w)).map (·.2)
def rowTab:List (Str×List Str):=[("size",["number"]),("box",["name","number"]),("lock",["name"]),("program",["name"]),("own",["name","number"]),("worker",["name"]),("claim",["value"]),("again",["number"]),("end",[])]
def G5:List (Key×T):=rowTab.map fun p=>(Sum.inr p.1,T.tup (p.2.map T.str))
structure Nm(P:Program)(w:World)(K:PySem.W.Frag)(mg:Str->Option Value):Prop where
 isinstance:mg "isinstance"=none
 str:mg "str"=none
 int:mg "int"=none
 bool:mg "bool"=none
 tuple:mg "tuple"=none
 list:mg "list"=none
 len:mg "len"=none
 all:mg "all"=none
 zip:mg "zip"=none
 range:mg "range"=none
 max:mg "max"=none
 set:mg "set"=none
 enumerate:mg "enumerate"=none
 min:mg "min"=none
 reversed:mg "reversed"=none
 LONGEST_NAME:∃t,mg "LONGEST_NAME"=some (.int 8 t)
 GREATEST_NUMBER:∃t,mg "GREATEST_NUMBER"=some (.int 99 t)
 DEEPEST_VALUE:∃t,mg "DEEPEST_VALUE"=some (.int 5 t)
 LEAST_SIZE:∃t,mg "LEAST_SIZE"=some (.int 2 t)
 GREATEST_SIZE:∃t,mg "GREATEST_SIZE"=some (.int 16 t)
 MOST_BOXES:∃t,mg "MOST_BOXES"=some (.int 8 t)
 MOST_LOCKS:∃t,mg "MOST_LOCKS"=some (.int 4 t)
 MOST_PROGRAMS:∃t,mg "MOST_PROGRAMS"=some (.int 4 t)
 MOST_OWNS:∃t,mg "MOST_OWNS"=some (.int 4 t)
 MOST_STEPS:∃t,mg "MOST_STEPS"=some (.int 30 t)
 MOST_WORKERS:∃t,mg "MOST_WORKERS"=some (.int 6 t)
 MOST_CLAIMS:∃t,mg "MOST_CLAIMS"=some (.int 4 t)
 MOST_FIGURES:∃t,mg "MOST_FIGURES"=some (.int 2 t)
 LEAST_TIMES:∃t,mg "LEAST_TIMES"=some (.int 1 t)
 MOST_TIMES:∃t,mg "MOST_TIMES"=some (.int 5 t)
 NUMBER_KINDS:KTp K mg "NUMBER_KINDS" [T.str "number",T.str "count"]
 VALUE_PARTS:KDt P w K mg "VALUE_PARTS" C9
 STEP_PARTS:KDt P w K mg "STEP_PARTS" Bz
 ROW_PARTS:KDt P w K mg "ROW_PARTS" G5
 NoLoom_at:mg "NoLoom"=some (.ref (cAt mg "NoLoom"))
 NoLoom_ok:PySem.W.excIn K (cAt mg "NoLoom") Qx "ValueError.__new__"=true
 NoStep_at:mg "NoStep"=some (.ref (cAt mg "NoStep"))
 NoStep_ok:PySem.W.excIn K (cAt mg "NoStep") Qx "ValueError.__new__"=true
 NoClaim_at:mg "NoClaim"=some (.ref (cAt mg "NoClaim"))
 NoClaim_ok:PySem.W.excIn K (cAt mg "NoClaim") Qx "ValueError.__new__"=true
 NoText_at:mg "NoText"=some (.ref (cAt mg "NoText"))
 NoText_ok:PySem.W.excIn K (cAt mg "NoText") Qx "ValueError.__new__"=true
 Feed_at:mg "Feed"=some (.ref (cAt mg "Feed"))
 Feed_cls:Cls K (cAt mg "Feed")
 Feed_no_things:NoAttr K (cAt mg "Feed") "things"
 Feed_no_place:NoAttr K (cAt mg "Feed") "place"
 NoStep_kts:PySem.W.ktsIn K (cAt mg "NoStep") "BaseException"=true
 NoLoom_kts:PySem.W.ktsIn K (cAt mg "NoLoom") "BaseException"=true
 NoStep_in:Eh K (cAt mg "NoStep") (cAt mg "NoStep")=true
 NoLoom_no:Hi K (cAt mg "NoLoom") (cAt mg "NoStep")=true
 NoLoom_in:Eh K (cAt mg "NoLoom") (cAt mg "NoLoom")=true
end K14
end
section
namespace K14
open PySem PySem.Spec PyProof.Rows L2 TL
seal UE UT UA US USs UI UG UO UW PTs
section
variable{P:Program}{w:World}{K:PySem.W.Frag}{mg:Str->Option Value}{base:Heap}
def Dk:List T->TH->UX->Prop:=fun ts S Pp=>∃x lo hi,ts=[x,.int lo,.int hi]/\Pl x/\Pp (.bl (Bq lo hi x)) S
theorem Sm:Zv ["thing","least","greatest"] ["thing","least","greatest"] (Zb (top 15)):=⟨rfl,rfl,rfl,by decide +kernel,rfl,by decide +kernel,by decide +kernel⟩
theorem is_number(N:Nm P w K mg)(d:Aa K mg "is_number" ["thing","least","greatest"] (top 15)):Has P w K mg base 1 "is_number" ["thing","least","greatest"] Dk:=by
 have sc:=Sm
 refine Ab (k:=0) d sc (fun ts S Pp h=>?_) fun cdv f A outer s H E hr=>?_
 ·obtain⟨x,lo,hi,rfl,_⟩:=h;rfl
 have hu0:=An hr
 refine⟨_,(Zs (Zg (UW.ut (Gp (Xe (Ey rfl N.isinstance (Zc (uv 0) (Zc (Xv rfl N.bool boot_bool) Zn)))) (Xs (Ap (Xe (Ey rfl N.isinstance (Zc (uv 0) (Zc (Xv rfl N.int boot_int) Zn)))))))) (Zo (Zr Cj)) Ze)
   (Zo (Zr (Dm (uv 1) (uv 0) (uv 2))))),fun ts S Pp h=>?_⟩
 obtain⟨x,lo,hi,rfl,px,h⟩:=h
 cases px with
 |int i =>
  and_intros
  exact⟨fun e=>by rw[Bq,e,Bool.true_and] at h;exact h,fun e=>by rw[Bq,e,Bool.false_and] at h;exact h⟩
 |_=>and_intros;exact h
def L3:List T->TH->UX->Prop:=fun ts S Pp=>∃x,ts=[x]/\Pl x/\Pp (.bl (isName x)) S
theorem Adg:Zv ["thing"] ["thing"] (Zb (top 13)):=⟨rfl,rfl,rfl,by decide +kernel,rfl,by decide +kernel,by decide +kernel⟩
theorem lt1(a b:Nat):decide ([a]<[b])=decide (a<b):=by
 rw[Bool.eq_iff_iff]
 simp[List.cons_lt_cons_iff]
theorem Adf(c:Nat):((!decide ((⟨#[c]⟩:Str).cps.toList<(Str.ofString "a").cps.toList))=true ↔ 97<=c)/\((!decide ((Str.ofString "z").cps.toList<(⟨#[c]⟩:Str).cps.toList))=true ↔ c<=122):=by
 have ea:(Str.ofString "a").cps.toList=[97]:=by decide +kernel
 have ez:(Str.ofString "z").cps.toList=[122]:=by decide +kernel
 rw[ea,ez]
 show ((!decide ([c]<[97]))=true ↔ 97<=c)/\((!decide ([122]<[c]))=true ↔ c<=122)
 rw[lt1,lt1]
 simp
theorem is_name(N:Nm P w K mg)(d:Aa K mg "is_name" ["thing"] (top 13)):Has P w K mg base 1 "is_name" ["thing"] L3:=by
 have sc:=Adg
 refine Ab (k:=0) d sc (fun ts S Pp h=>?_) fun cdv f A outer s H E hr=>?_
 ·obtain⟨x,rfl,_⟩:=h;rfl
 have hu0:=An hr
 refine⟨_,(Zs (Zg (UW.ut (Gp (Ap (Xe (Ey rfl N.isinstance (Zc (uv 0) (Zc (Xv rfl N.str boot_str) Zn))))) (Xs (Ap (Ij Zi (Zl rfl N.len (Zc (uv 0) Zn)) (A1 rfl N.LONGEST_NAME)))))) (Zo (Zr Cj)) Ze)
   (Zo (Zr (D2 rfl rfl N.all (Zc (Xg 0 ["sign"] [none] rfl (Xu (uv 0)) (fun _ _ _ _ _=>Ah) (fun _ _ _ _ _=>(Dm Zq (uv 0) Zq))) Zn))))),fun ts S Pp h=>?_⟩
 obtain⟨x,rfl,px,h⟩:=h
 cases px with
 |str hx =>
  rename_i x
  and_intros
  refine⟨hx,fun e1=>⟨fun e2=>?_,fun e2=>?_⟩,fun e1=>?_⟩
  ·have e:isName (.str x)=false:=by
    have:¬ ((x.length:Int)<=8):=by simpa using e2
    simp only[isName,Zw]
    rw[decide_eq_false (show ¬ x.length<=8 by omega)]
    simp
   rw[e] at h
   exact h
  ·have h1:(1:Int)<=x.length:=by simpa using e1
   have h2:(x.length:Int)<=8:=by simpa using e2
   have e:isName (.str x)=x.cps.toList.all fun (c:Nat)=>decide (97<=c)&&decide (c<=122):=by
    simp only[isName,Zw]
    rw[decide_eq_true (show 1<=x.length by omega),decide_eq_true (show x.length<=8 by omega)]
    simp
   refine Bs (ts:=Ba x) (f:=fun t=>match t with | .str y=>some (.bl (y.cps.toList.all fun (c:Nat)=>decide (97<=c)&&decide (c<=122)))|_=>none) (fun k hk=>hk) (by rw[Em];exact hx) (fun y hy A B hA hB=>?_) ?_
   ·obtain⟨c,_,rfl⟩:=List.mem_map.mp hy
    have hA:=hA _ rfl
    simp only[gNm,G2,uYes,List.map_cons,List.map_nil]
    and_intros
    obtain⟨l1,l2⟩:=Adf c
    have hA:A (.bl (decide (97<=c)&&decide (c<=122))) S:=by simpa using hA
    refine⟨fun q=>?_,fun q=>?_⟩
    ·have q1:=l1.mp q
     have e3:(!decide ((Str.ofString "z").cps.toList<(⟨#[c]⟩:Str).cps.toList))=decide (c<=122):=by
      rw[Bool.eq_iff_iff,l2];simp
     rw[e3]
     rw[decide_eq_true q1,Bool.true_and] at hA
     exact hA
    ·have q1:¬ 97<=c:=fun z=>by rw[l1.mpr z] at q;cases q
     rw[decide_eq_false q1,Bool.false_and] at hA
     exact hA
   ·have e4:(Ba x).filterMap (fun t=>match t with | .str y=>some (.bl (y.cps.toList.all fun (c:Nat)=>decide (97<=c)&&decide (c<=122)))|_=>none)=(x.cps.toList.map fun (c:Nat)=>decide (97<=c)&&decide (c<=122)).map T.bl:=by
     unfold Ba
     rw[List.filterMap_map,List.map_map]
     rw[<-List.filterMap_eq_map]
     congr 1
     funext c
     simp
    rw[e4]
    dsimp only
    rw[Hz]
    dsimp only
    rw[List.all_map]
    rw[e] at h
    exact h
  ·have e:isName (.str x)=false:=by
    have:¬ ((1:Int)<=x.length):=by simpa using e1
    simp only[isName,Zw]
    rw[decide_eq_false (show ¬ 1<=x.length by omega)]
    simp
   rw[e] at h
   exact h
 |_=>and_intros;exact h
def Hb:List T->TH->UX->Prop:=fun ts S Pp=>∃x zs,ts=[x,.lst (zs.map T.str)]/\Pl x/\Pp (.bl (isName x&&inS zs x)) S
theorem V0:Zv ["thing","names"] ["thing","names"] (Zb (top 14)):=⟨rfl,rfl,rfl,by decide +kernel,rfl,by decide +kernel,by decide +kernel⟩
theorem is_name_of(d:Aa K mg "is_name_of" ["thing","names"] (top 14))(c1:Has P w K mg base 1 "is_name" ["thing"] L3):Has P w K mg base 2 "is_name_of" ["thing","names"] Hb:=by
 have sc:=V0
 refine Ab (k:=1) d sc (fun ts S Pp h=>?_) fun cdv f A outer s H E hr=>?_
 ·obtain⟨x,zs,rfl,_⟩:=h;rfl
 have hu0:=An hr
 refine⟨_,(Zo (Zr (Ch (Zf c1 hr rfl (Zc (uv 0) Zn)) (D4 (ue_in (uv 0) (uv 1)))))),fun ts S Pp h=>?_⟩
 obtain⟨x,zs,rfl,px,h⟩:=h
 and_intros
 refine⟨x,rfl,px,fun e=>?_,fun e=>?_⟩
 ·rw[e,Bool.true_and] at h
  cases px with
  |str hx =>
   exact⟨zs,C2 zs,h⟩
  |_=>cases e
 ·rw[e,Bool.false_and] at h
  exact h
def Pq:List T->TH->UX->Prop:=fun ts S Pp=>∃x,ts=[x]/\Pl x/\Pp (.bl (Fi x)) S
theorem Acb:Zv ["thing"] ["thing"] (Zb (top 16)):=⟨rfl,rfl,rfl,by decide +kernel,rfl,by decide +kernel,by decide +kernel⟩
theorem has_word(N:Nm P w K mg)(d:Aa K mg "has_word" ["thing"] (top 16)):Has P w K mg base 1 "has_word" ["thing"] Pq:=by
 have sc:=Acb
 refine Ab (k:=0) d sc (fun ts S Pp h=>?_) fun cdv f A outer s H E hr=>?_
 ·obtain⟨x,rfl,_⟩:=h;rfl
 have hu0:=An hr
 refine⟨_,(Zo (Zr (Ch (Ey rfl N.isinstance (Zc (uv 0) (Zc (Xv rfl N.tuple boot_tuple) Zn))) (Ch (ue_gt (Zl rfl N.len (Zc (uv 0) Zn)) Zi) (D4 (Ey rfl N.isinstance (Zc (Zx (uv 0) Zi) (Zc (Xv rfl N.str boot_str) Zn)))))))),fun ts S Pp h=>?_⟩
 obtain⟨x,rfl,px,h⟩:=h
 cases px with
 |tup ht =>
  rename_i ts
  cases ts with
  |nil=>and_intros;exact⟨fun e=>absurd e (by decide),fun _=>h⟩
  |cons t r =>
   have pt:=ht t List.mem_cons_self
   have e0:atI (t::r) (0:Int)=some t:=Xb (j:=0) rfl
   and_intros
   refine⟨fun _=>?_,fun e=>absurd e (by simp)⟩
   refine⟨_,e0,?_⟩
   cases pt <;> exact h
 |_=>and_intros;exact h
end
end K14
end
section
namespace K14
open PySem PySem.Spec PyProof.Rows L2 TL
seal UE UT UA US USs UI UG UO UW PTs
section
variable{P:Program}{w:World}{K:PySem.W.Frag}{mg:Str->Option Value}{base:Heap}
def He(n:Nat):List T->TH->UX->Prop:=fun ts S Pp=>∃x ow bx,ts=[x,.lst (ow.map T.str),.lst (bx.map T.str),.int (n:Int)]/\Pl x/\Pp (.bl (valOk n ow bx x)) S
def Aac(n:Nat):List T->TH->UX->Prop:=fun ts S Pp=>∃x k ow bx,ts=[x,.str k,.lst (ow.map T.str),.lst (bx.map T.str),.int ((n:Int)+1)]/\Pl x/\Pp (.bl (Bt (valOk n ow bx) ow bx k x)) S
theorem Sn:Zv ["thing","owns","boxes","depth","kinds"] ["thing","owns","boxes","depth"] (Zb (top 18)):=⟨rfl,rfl,rfl,by decide +kernel,rfl,by decide +kernel,by decide +kernel⟩
theorem Acn:Zv ["thing","kind","owns","boxes","depth"] ["thing","kind","owns","boxes","depth"] (Zb (top 19)):=⟨rfl,rfl,rfl,by decide +kernel,rfl,by decide +kernel,by decide +kernel⟩
theorem is_value_part{n m:Nat}(hm:2<=m)(N:Nm P w K mg)(d:Aa K mg "is_value_part" ["thing","kind","owns","boxes","depth"] (top 19))(c1:Has P w K mg base 1 "is_number" ["thing","least","greatest"] Dk)(c2:Has P w K mg base 2 "is_name_of" ["thing","names"] Hb)
  (c3:Has P w K mg base m "is_value_within" ["thing","owns","boxes","depth"] (He n)):Has P w K mg base (m+1) "is_value_part" ["thing","kind","owns","boxes","depth"] (Aac n):=by
 have sc:=Acn
 refine Ab (k:=m) d sc (fun ts S Pp h=>?_) fun cdv f A outer s H E hr=>?_
 ·obtain⟨x,k,ow,bx,rfl,_⟩:=h;rfl
 have hu0:=An hr
 have c1:=c1.mono (show 1<=m by omega)
 have c2:=c2.mono (show 2<=m by omega)
 refine⟨_,(Zs (Zg (Xf hu0 (uv 1) Zq) (Zo (Zr (Zf c1 hr rfl (Zc (uv 0) (Zc Zi (Zc (A1 rfl N.GREATEST_NUMBER) Zn)))))) Ze)
   (Zs (Zg (Xf hu0 (uv 1) Zq) (Zo (Zr (Zf c2 hr rfl (Zc (uv 0) (Zc (uv 2) Zn))))) Ze)
   (Zs (Zg (Xf hu0 (uv 1) Zq) (Zo (Zr (Zf c2 hr rfl (Zc (uv 0) (Zc (uv 3) Zn))))) Ze)
   (Zo (Zr (Zf c3 hr rfl (Zc (uv 0) (Zc (uv 2) (Zc (uv 3) (Zc (Cf (uv 4) Zi) Zn)))))))))),fun ts S Pp h=>?_⟩
 obtain⟨x,k,ow,bx,rfl,px,h⟩:=h
 and_intros
 unfold Bt at h
 refine⟨fun e=>?_,fun e=>⟨fun e1=>?_,fun e1=>⟨fun e2=>?_,fun e2=>?_⟩⟩⟩
 ·rw[if_pos (of_decide_eq_true e)] at h
  exact⟨x,0,99,rfl,px,h⟩
 ·rw[if_neg (of_decide_eq_false e),if_pos (of_decide_eq_true e1)] at h
  exact⟨x,ow,rfl,px,h⟩
 ·rw[if_neg (of_decide_eq_false e),if_neg (of_decide_eq_false e1),if_pos (of_decide_eq_true e2)] at h
  exact⟨x,bx,rfl,px,h⟩
 ·rw[if_neg (of_decide_eq_false e),if_neg (of_decide_eq_false e1),if_neg (of_decide_eq_false e2)] at h
  refine⟨x,ow,bx,?_,px,h⟩
  rw[Int.add_sub_cancel]
theorem Jm(wd:Str):valT C9 (Sum.inr wd)=(Aw wd).map fun ks=>T.tup (ks.map T.str):=by
 unfold valT C9 Aw
 rw[List.find?_map,Option.map_map,Option.map_map]
 have e:((fun kv:Key×T=>decide (kv.1=Sum.inr wd)) ∘ fun p:Str×List Str=>((Sum.inr p.1:Key),T.tup (p.2.map T.str)))=fun p=>decide (p.1=wd):=by
  funext p
  show decide ((Sum.inr p.1:Key)=Sum.inr wd)=decide (p.1=wd)
  exact N1 _ _
 rw[e]
 rfl
theorem Mu{wd:Str}{ks:List Str}(h:Aw wd=some ks):ks.length<=sizeLine:=by
 unfold Aw at h
 cases e:kindTab.find? fun p=>decide (p.1=wd) with
 |none=>rw[e] at h;cases h
 |some p =>
  rw[e] at h
  cases h
  have m:=List.mem_of_find?_eq_some e
  have all:∀q∈kindTab,q.2.length<=2:=by decide
  exact Nat.le_trans (all p m) (by decide)
theorem C8(a:T)(r:List T):cutA (a::r) (some 1) none=r:=by
 simp[cutA,HT.sIx]
theorem Mc{r:List T}{ks:List Str}{y:T}(h:y∈Eu r (ks.map T.str)):∃x kd,x∈r/\y=.tup [x,.str kd]:=by
 unfold Eu at h
 induction r generalizing ks with
 |nil=>simp at h
 |cons a r ih =>
  cases ks with
  |nil=>simp at h
  |cons k ks =>
   simp only[List.map_cons,List.zipWith_cons_cons,List.mem_cons] at h
   rcases h with h|h
   ·exact⟨a,k,List.mem_cons_self,h⟩
   ·obtain⟨x,kd,hx,e⟩:=ih h
    exact⟨x,kd,List.mem_cons_of_mem _ hx,e⟩
theorem Rh(g:T->Str->Bool)(r:List T)(ks:List Str):(Eu r (ks.map T.str)).filterMap (fun t=>match t with | .tup [x,.str k]=>some (.bl (g x k))|_=>none)=(List.zipWith g r ks).map T.bl:=by
 unfold Eu
 induction r generalizing ks with
 |nil=>rfl
 |cons a r ih =>
  cases ks with
  |nil=>rfl
  |cons k ks =>
   simp only[List.map_cons,List.zipWith_cons_cons,List.filterMap_cons]
   rw[ih]
theorem Xh{n m:Nat}{tp:List T->TH->UX->Prop}(hm:1<=m)(N:Nm P w K mg)(d:Aa K mg "is_value_within" ["thing","owns","boxes","depth"] (top 18))(c1:Has P w K mg base 1 "has_word" ["thing"] Pq)
  (c2:Has P w K mg base m "is_value_part" ["thing","kind","owns","boxes","depth"] tp) (ht:n=0\/∃j,n=j+1/\tp=Aac j):Has P w K mg base (m+1) "is_value_within" ["thing","owns","boxes","depth"] (He n):=by
 have sc:=Sn
 refine Ab (k:=m) d sc (fun ts S Pp h=>?_) fun cdv f A outer s H E hr=>?_
 ·obtain⟨x,ow,bx,rfl,_⟩:=h;rfl
 have hu0:=An hr
 have c1:=c1.mono hm
 refine⟨_,(Zs (Zg (UW.ut (Gp (Xf hu0 (uv 3) Zi) (Xs (Ap (Xe (Zf c1 hr rfl (Zc (uv 0) Zn))))))) (Zo (Zr Cj)) Ze)
   (Zs (Zt 4 sc.nd (Fa rfl N.VALUE_PARTS (Zx (uv 0) Zi) ⟨rfl,rfl,rfl,rfl⟩))
   (Zs (Zg (UW.ut (Gp (K7 (uv 4) F1) (Xs (Kh hu0 (Zl rfl N.len (Zc (uv 0) Zn)) (Zp Zi (Zl rfl N.len (Zc (uv 4) Zn))))))) (Zo (Zr Cj)) Ze)
   (Zo (Zr (D2 rfl rfl N.all (Zc (Lv 0 1 ["part","kind","owns","boxes","depth"] [none,none,some 1,some 2,some 3] rfl (Uz rfl N.zip (Zc (Aao (uv 0) (Ec Zi) Ef) (Zc (uv 4) Zn))) (fun _ _ _ _ _=>Ah) (fun _ _ _ _ _=>(Zf c2 hr rfl (Zc (uv 0) (Zc (uv 1) (Zc (uv 2) (Zc (uv 3) (Zc (uv 4) Zn)))))))) Zn))))))),fun ts S Pp h=>?_⟩
 obtain⟨x,ow,bx,rfl,px,h⟩:=h
 rcases ht with rfl|⟨j,rfl,rfl⟩
 ·and_intros
  exact⟨fun _=>h,fun e=>absurd e (by decide)⟩
 have nz:decide (((j+1:Nat):Int)=0)=false:=decide_eq_false (by omega)
 by_cases hw:Fi x=true
 case neg =>
  have hw:Fi x=false:=by simpa using hw
  have e0:valOk (j+1) ow bx x=false:=by
   unfold valOk
   split
   ·cases hw
   ·rfl
  rw[e0] at h
  simp only[uIf,uOr,Cc,I0,A3,Aq,uUn,Cd,uC,A9,B8,Cu,Ia,A8,uSet,Ds,Dp,En,Jf,Jl,Hn,Ei,Bm,Je,uoN,uoS,D9,Xj,Xk,Iz,Cw,Er,tyT,okC,isT,Gk,oII,oIC,Fs,oIx,Ix,G1,Dt,Hm,Cg,oIn,Fw,Hq,Jh,TL.Xm,List.map_cons,List.map_nil,List.length_cons,List.length_nil,List.replicate,List.cons_append,List.nil_append,List.append_nil,List.getElem?_cons_zero,List.getElem?_cons_succ,List.set_cons_zero,List.set_cons_succ,Bool.false_eq_true,Bool.true_eq_false,false_implies,true_implies,forall_const,and_true,true_and,Bool.not_true,Bool.not_false,beq_self_eq_true,Bool.true_or,Bool.or_true,Bool.false_or,Bool.or_false,Bool.and_true,Bool.true_and,Bool.and_false,Bool.false_and,reduceCtorEq,Nat.reduceAdd,Nat.reduceSub,String.reduceBEq,Bool.false_xor,Bool.true_xor,Option.some.injEq,exists_eq_left,exists_eq_left',nz]
  refine⟨x,rfl,px,?_⟩
  rw[hw]
  exact⟨fun _=>h,fun e=>by cases e⟩
 case pos =>
  match x,hw,px,h with
  | .tup (.str wd::r),hw,px,h =>
   have pr:∀t∈r,Pl t:=by
    cases px with
    |tup q=>exact fun t ht=>q t (List.mem_cons_of_mem _ ht)
   have ei:atI (T.str wd::r) (0:Int)=some (.str wd):=Xb (j:=0) rfl
   have hv:=Jm wd
   cases hk:Aw wd with
   |none =>
    rw[hk] at hv
    have e0:valOk (j+1) ow bx (.tup (.str wd::r))=false:=by simp only[valOk,hk]
    rw[e0] at h
    simp only[uIf,uOr,Cc,I0,A3,Aq,uUn,Cd,uC,A9,B8,Cu,Ia,A8,uSet,Ds,Dp,En,Jf,Jl,Hn,Ei,Bm,Je,uoN,uoS,D9,Xj,Xk,Iz,Cw,Er,tyT,okC,isT,Gk,oII,oIC,Fs,oIx,Ix,G1,Dt,Hm,Cg,oIn,Fw,Hq,Jh,TL.Xm,List.map_cons,List.map_nil,List.length_cons,List.length_nil,List.replicate,List.cons_append,List.nil_append,List.append_nil,List.getElem?_cons_zero,List.getElem?_cons_succ,List.set_cons_zero,List.set_cons_succ,Bool.false_eq_true,Bool.true_eq_false,false_implies,true_implies,forall_const,and_true,true_and,Bool.not_true,Bool.not_false,beq_self_eq_true,Bool.true_or,Bool.or_true,Bool.false_or,Bool.or_false,Bool.and_true,Bool.true_and,Bool.and_false,Bool.false_and,reduceCtorEq,Nat.reduceAdd,Nat.reduceSub,String.reduceBEq,Bool.false_xor,Bool.true_xor,Option.some.injEq,exists_eq_left,exists_eq_left',nz,ei,keyT,hv,Option.map_none,Option.getD_none]
    exact⟨_,rfl,px,And.intro (fun e=>by cases e) (fun _=>h)⟩
   |some ks =>
    rw[hk] at hv
    have e0:valOk (j+1) ow bx (.tup (.str wd::r))=(decide (r.length=ks.length)&&(List.zipWith (fun x k=>Bt (valOk j ow bx) ow bx k x) r ks).all id):=by simp only[valOk,hk]
    rw[e0] at h
    simp only[uIf,uOr,Cc,I0,A3,Aq,uUn,Cd,uC,A9,B8,Cu,Ia,A8,uSet,Ds,Dp,En,Jf,Jl,Hn,Ei,Bm,Je,uoN,uoS,D9,Xj,Xk,Iz,Cw,Er,tyT,okC,isT,Gk,oII,oIC,Fs,oIx,Ix,G1,Dt,Hm,Cg,oIn,Fw,Hq,Jh,TL.Xm,List.map_cons,List.map_nil,List.length_cons,List.length_nil,List.replicate,List.cons_append,List.nil_append,List.append_nil,List.getElem?_cons_zero,List.getElem?_cons_succ,List.set_cons_zero,List.set_cons_succ,Bool.false_eq_true,Bool.true_eq_false,false_implies,true_implies,forall_const,and_true,true_and,Bool.not_true,Bool.not_false,beq_self_eq_true,Bool.true_or,Bool.or_true,Bool.false_or,Bool.or_false,Bool.and_true,Bool.true_and,Bool.and_false,Bool.false_and,reduceCtorEq,Nat.reduceAdd,Nat.reduceSub,String.reduceBEq,Bool.false_xor,Bool.true_xor,Option.some.injEq,exists_eq_left,exists_eq_left',nz,ei,keyT,hv,Option.map_some,Option.getD_some,List.length_map]
    refine⟨_,rfl,px,And.intro (fun e=>by cases e) (fun _=>And.intro (fun e=>?_) (fun e=>?_))⟩
    ·have:¬ r.length=ks.length:=by
      intro q
      rw[q] at e
      simp at e
      omega
     rw[decide_eq_false this,Bool.false_and] at h
     exact h
    ·have hl:r.length=ks.length:=by simp at e;omega
     rw[decide_eq_true hl,Bool.true_and] at h
     have hz:r.length<=sizeLine:=by
      rw[hl]
      exact Mu hk
     refine Bs (ts:=Eu r (ks.map T.str)) (f:=fun t=>match t with | .tup [x,.str k]=>some (.bl (Bt (valOk j ow bx) ow bx k x))|_=>none) (fun k hk'=>?_) ?_ (fun y hy A B hA hB=>?_) ?_
     ·simp only[uZip]
      simp only[uIf,uOr,Cc,I0,A3,Aq,uUn,Cd,uC,A9,B8,Cu,Ia,A8,uSet,Ds,Dp,En,Jf,Jl,Hn,Ei,Bm,Je,uoN,uoS,D9,Xj,Xk,Iz,Cw,Er,tyT,okC,isT,Gk,oII,oIC,Fs,oIx,Ix,G1,Dt,Hm,Cg,oIn,Fw,Hq,Jh,TL.Xm,List.map_cons,List.map_nil,List.length_cons,List.length_nil,List.replicate,List.cons_append,List.nil_append,List.append_nil,List.getElem?_cons_zero,List.getElem?_cons_succ,List.set_cons_zero,List.set_cons_succ,Bool.false_eq_true,Bool.true_eq_false,false_implies,true_implies,forall_const,and_true,true_and,Bool.not_true,Bool.not_false,beq_self_eq_true,Bool.true_or,Bool.or_true,Bool.false_or,Bool.or_false,Bool.and_true,Bool.true_and,Bool.and_false,Bool.false_and,reduceCtorEq,Nat.reduceAdd,Nat.reduceSub,String.reduceBEq,Bool.false_xor,Bool.true_xor,Option.some.injEq,exists_eq_left,exists_eq_left',C8]
      refine⟨?_,?_,hk'⟩
      ·rintro⟨q,_⟩
       simp[HT.sIx] at q
      ·rw[List.length_map];exact hl
     ·simp only[Eu,List.length_zipWith,List.length_map]
      omega
     ·obtain⟨x,kd,hx,rfl⟩:=Mc hy
      have hA:=hA _ rfl
      simp only[gPr,G2,uYes,List.map_cons,List.map_nil]
      and_intros
      exact⟨x,kd,ow,bx,by simp,pr x hx,hA⟩
     ·dsimp only
      rw[Rh]
      rw[Hz]
      exact h
theorem Id(N:Nm P w K mg)(dW:Aa K mg "is_value_within" ["thing","owns","boxes","depth"] (top 18))(dP:Aa K mg "is_value_part" ["thing","kind","owns","boxes","depth"] (top 19))(c1:Has P w K mg base 1 "is_number" ["thing","least","greatest"] Dk)
  (c2:Has P w K mg base 2 "is_name_of" ["thing","names"] Hb) (c3:Has P w K mg base 1 "has_word" ["thing"] Pq):∀n:Nat,Has P w K mg base (2 * n+4) "is_value_within" ["thing","owns","boxes","depth"] (He n)
 | 0=>Xh (m:=3) (tp:=fun _ _ _=>False) (by omega) N dW c3 (Fv dP fun _ _ _ z=>z) (.inl rfl)
 |n+1=>Xh (m:=2 * n+5) (by omega) N dW c3 (is_value_part (m:=2 * n+4) (by omega) N dP c1 c2 (Id N dW dP c1 c2 c3 n)) (.inr ⟨n,rfl,rfl⟩)
def Ny:List T->TH->UX->Prop:=fun ts S Pp=>∃x ow bx,ts=[x,.lst (ow.map T.str),.lst (bx.map T.str)]/\Pl x/\Pp (.bl (valOk 5 ow bx x)) S
theorem Y2:Zv ["thing","owns","boxes"] ["thing","owns","boxes"] (Zb (top 17)):=⟨rfl,rfl,rfl,by decide +kernel,rfl,by decide +kernel,by decide +kernel⟩
theorem is_value(N:Nm P w K mg)(d:Aa K mg "is_value" ["thing","owns","boxes"] (top 17))(c1:Has P w K mg base 14 "is_value_within" ["thing","owns","boxes","depth"] (He 5)):Has P w K mg base 15 "is_value" ["thing","owns","boxes"] Ny:=by
 have sc:=Y2
 refine Ab (k:=14) d sc (fun ts S Pp h=>?_) fun cdv f A outer s H E hr=>?_
 ·obtain⟨x,ow,bx,rfl,_⟩:=h;rfl
 refine⟨_,(Zo (Zr (Zf c1 hr rfl (Zc (uv 0) (Zc (uv 1) (Zc (uv 2) (Zc (A1 rfl N.DEEPEST_VALUE) Zn))))))),fun ts S Pp h=>?_⟩
 obtain⟨x,ow,bx,rfl,px,h⟩:=h
 and_intros
 exact⟨x,ow,bx,rfl,px,h⟩
end
end K14
end
section
namespace K14
open PySem PySem.Spec PyProof.Rows L2 TL
seal UE UT UA US USs UI UG UO UW PTs
section
variable{P:Program}{w:World}{K:PySem.W.Frag}{mg:Str->Option Value}{base:Heap}
def Sd(S:TH)(a:Addr):Prop:=∃x:Int,S a=some (.lst [.int x])
structure Dr(a:Addr)(S S':TH):Prop where
 same:∀b,b≠a->S' b=S b
 sd:Sd S' a
theorem Dr.trans{a:Addr}{S S1 S2:TH}(x:Dr a S S1)(y:Dr a S1 S2):Dr a S S2:=⟨fun b h=>(y.same b h).trans (x.same b h),y.sd⟩
def Aad:List T->TH->UX->Prop:=fun ts S Pp=>∃(ns:List Int) (k:Nat),ts=[.fls (ns.map T.int),.int (k:Int)]/\∀v:Int,Pp (.int v) S
theorem Adw:Zv ["_law_script","_law_k"] ["_law_script","_law_k"] (Zb (top 73)):=⟨rfl,rfl,rfl,by decide +kernel,rfl,by decide +kernel,by decide +kernel⟩
theorem Yr(N:Nm P w K mg)(d:Aa K mg "_law_cell_at" ["_law_script","_law_k"] (top 73)):Has P w K mg base 1 "_law_cell_at" ["_law_script","_law_k"] Aad:=by
 have sc:=Adw
 refine Ab (k:=0) d sc (fun ts S Pp h=>?_) fun cdv f A outer s H E hr=>?_
 ·obtain⟨ns,k,rfl,_⟩:=h;rfl
 refine⟨_,(Zs (Zg (Hg (uv 1) (Zl rfl N.len (Zc (uv 0) Zn))) (Zo (Zr (Zx (uv 0) (uv 1)))) Ze)
   (Zo (Zr Zi))),fun ts S Pp h=>?_⟩
 obtain⟨ns,k,rfl,h⟩:=h
 simp only[uIf,uOr,Cc,I0,A3,Aq,uUn,Cd,uC,A9,B8,Cu,Ia,A8,uSet,Ds,Dp,En,Jf,Jl,Hn,Ei,Bm,Je,uoN,uoS,D9,Xj,Xk,Iz,Cw,Er,tyT,okC,isT,Gk,oII,oIC,Fs,oIx,Ix,G1,Dt,Hm,Cg,oIn,Fw,Hq,Jh,TL.Xm,List.map_cons,List.map_nil,List.length_cons,List.length_nil,List.replicate,List.cons_append,List.nil_append,List.append_nil,List.getElem?_cons_zero,List.getElem?_cons_succ,List.set_cons_zero,List.set_cons_succ,Bool.false_eq_true,Bool.true_eq_false,false_implies,true_implies,forall_const,and_true,true_and,Bool.not_true,Bool.not_false,beq_self_eq_true,Bool.true_or,Bool.or_true,Bool.false_or,Bool.or_false,Bool.and_true,Bool.true_and,Bool.and_false,Bool.false_and,reduceCtorEq,Nat.reduceAdd,Nat.reduceSub,String.reduceBEq,Bool.false_xor,Bool.true_xor,Option.some.injEq,exists_eq_left,exists_eq_left',List.length_map]
 refine⟨fun e=>?_,fun _=>h 0⟩
 have hk:k<ns.length:=by simpa using e
 have e1:atI (ns.map T.int) (k:Int)=some (.int ns[k]):=Xb (by rw[List.getElem?_map,List.getElem?_eq_getElem hk];rfl)
 exact⟨_,e1,h _⟩
def Vu:List T->TH->UX->Prop:=fun ts S Pp=>∃c k:Int,ts=[.int c,.int k]/\∀(a:Addr) (x:Int),S a=none->Pp (.ref a) (Ad S a (.lst [.int x]))
theorem Zm:Zv ["_law_cell","_law_k","_law_drawn"] ["_law_cell","_law_k"] (Zb (top 74)):=⟨rfl,rfl,rfl,by decide +kernel,rfl,by decide +kernel,by decide +kernel⟩
theorem Rk(N:Nm P w K mg)(d:Aa K mg "_law_state" ["_law_cell","_law_k"] (top 74)):Has P w K mg base 1 "_law_state" ["_law_cell","_law_k"] Vu:=by
 have sc:=Zm
 refine Ab (k:=0) d sc (fun ts S Pp h=>?_) fun cdv f A outer s H E hr=>?_
 ·obtain⟨c,k,rfl,_⟩:=h;rfl
 refine⟨_,(Zs (Zt 2 sc.nd (F0 (Lm (Zp (uv 0) (Lm Zi (uv 1))) Zi) Zi))
   (Zo (Zr (Bu (Zc (F0 (Lm (uv 2) (uv 2)) Zi) Zn))))),fun ts S Pp h=>?_⟩
 obtain⟨c,k,rfl,h⟩:=h
 and_intros
 refine⟨.inl ⟨by decide,by decide⟩,.inr ⟨by decide,by decide⟩,by decide,?_,by decide,by decide,fun p hp=>h p _ hp⟩
 have h1:=Int.emod_nonneg ((c+7919 * k) * 48271) (show (2147483647:Int)≠0 by decide)
 have h2:=Int.emod_lt_of_pos ((c+7919 * k) * 48271) (show (0:Int)<2147483647 by decide)
 exact .inl ⟨by omega,by omega⟩
def H9:List T->TH->UX->Prop:=fun ts S Pp=>∃(a:Addr) (n:Int),ts=[.ref a,.int n]/\Sd S a/\0<n/\∀(r:Int) S',Dr a S S'->0<=r->r<n->Pp (.int r) S'
theorem Acq:Zv ["_law_state_here","_law_size"] ["_law_state_here","_law_size"] (Zb (top 75)):=⟨rfl,rfl,rfl,by decide +kernel,rfl,by decide +kernel,by decide +kernel⟩
theorem T0(N:Nm P w K mg)(d:Aa K mg "_law_next" ["_law_state_here","_law_size"] (top 75)):Has P w K mg base 1 "_law_next" ["_law_state_here","_law_size"] H9:=by
 have sc:=Acq
 refine Ab (k:=0) d sc (fun ts S Pp h=>?_) fun cdv f A outer s H E hr=>?_
 ·obtain⟨a,n,rfl,_⟩:=h;rfl
 refine⟨_,(Zs (V5 (F0 (Zp (Lm (Zx (uv 0) Zi) Zi) Zi) Zi) (uv 0) Zi)
   (Zo (Zr (F0 (Od (Zx (uv 0) Zi) Zi) (uv 1))))),fun ts S Pp h=>?_⟩
 obtain⟨a,n,rfl,⟨x,hx⟩,hn,h⟩:=h
 have e0:atI [T.int x] (0:Int)=some (.int x):=Xb (j:=0) rfl
 refine⟨_,hx,_,e0,.inr ⟨by decide,by decide⟩,show (0:Int)<2147483647 by decide,[.int x],0,hx,rfl,?_⟩
 have e1:atI ([T.int x].set 0 (T.int ((x * 48271+11) % 2147483647))) (0:Int)=some (T.int ((x * 48271+11) % 2147483647)):=Xb (j:=0) rfl
 refine⟨_,Zd,_,e1,⟨by decide,by decide⟩,hn,h _ _ ⟨fun b hb=>updT_ne hb,_,Zd⟩ (Int.emod_nonneg _ (by omega)) (Int.emod_lt_of_pos _ hn)⟩
end
end K14
end
section
namespace K14
open PySem PySem.Spec PyProof.Rows L2 TL
seal UE UT UA US USs UI UG UO UW PTs
section
variable{P:Program}{w:World}{K:PySem.W.Frag}{mg:Str->Option Value}{base:Heap}
def abc:Str:=Str.ofString "abcdefghijklmnopqrstuvwxyz"
theorem Iq:abc.cps.toList=[97,98,99,100,101,102,103,104,105,106,107,108,109,110,111,112,113,114,115,116,117,118,119,120,121,122]:=by decide +kernel
theorem Vb{i:Int}(h0:0<=i)(h1:i<26):∃c,atI abc.cps.toList i=some c/\97<=c/\c<=122:=by
 have hl:i.toNat<abc.cps.toList.length:=by rw[Iq];simp;omega
 refine⟨abc.cps.toList[i.toNat],?_,?_⟩
 ·have q:=Xb (List.getElem?_eq_getElem hl)
  rw[Int.toNat_of_nonneg h0] at q
  exact q
 ·have all:∀c∈abc.cps.toList,97<=c/\c<=122:=by rw[Iq];decide
  exact all _ (List.getElem_mem hl)
theorem P7{i:Int}(h0:0<=i)(h1:i<26):atI abc.cps.toList i=some (97+i.toNat):=by
 have all:∀j:Nat,j<26->abc.cps.toList[j]?=some (97+j):=by rw[Iq];decide
 have q:=Xb (all i.toNat (by omega))
 rw[Int.toNat_of_nonneg h0] at q
 exact q
def Lt(x:Str):Prop:=∀c∈x.cps.toList,97<=c/\c<=122
theorem nameOk_iff{x:Str}:Zw x=true ↔ 1<=x.length/\x.length<=8/\Lt x:=by
 simp only[Zw,Bool.and_eq_true,decide_eq_true_eq,List.all_eq_true,Lt,and_assoc]
theorem Lt.one{c:Nat}(h1:97<=c)(h2:c<=122):Lt ⟨#[c]⟩:=fun d hd=>by
 have:d=c:=by simpa using hd
 subst this
 exact⟨h1,h2⟩
theorem Lt.app{x y:Str}(h:Lt x)(h':Lt y):Lt (x++y):=fun d hd=>by
 have hd:d∈x.cps.toList++y.cps.toList:=by simpa [Str.cps_append] using hd
 rcases List.mem_append.mp hd with q|q
 ·exact h d q
 ·exact h' d q
def words:List Str:=["box","own","end","number","plus","lock","skip","again","program","worker","claim","size","set","get","put","add","take","give","wait","check","unless","not","minus","less","same"]
theorem On:∀z∈words,¬ z.length=1:=by decide +kernel
theorem Tb:∀z∈words,Zw z=true:=by decide +kernel
theorem U7{α:Type}{β:Type}(g:α->β){xs:List α}{i:Int}(h0:0<=i)(h1:i<xs.length):∃x∈xs,atI (xs.map g) i=some (g x):=by
 have hl:i.toNat<xs.length:=by omega
 refine⟨xs[i.toNat],List.getElem_mem hl,?_⟩
 have q:atI (xs.map g) ((i.toNat:Nat):Int)=some (g xs[i.toNat]):=Xb (by rw[List.getElem?_map,List.getElem?_eq_getElem hl];rfl)
 rw[Int.toNat_of_nonneg h0] at q
 exact q
theorem Xp{n:Nat}(h:n<=1000):n<=sizeLine:=Nat.le_of_lt (Xo h)
def Ua:List T->TH->UX->Prop:=fun ts S Pp=>∃(a:Addr) (m:Nat),ts=[.ref a,.int (m:Int)]/\Sd S a/\m<=26/\∀(zs:List Str) S',Dr a S S'->zs.length=m->(∀z∈zs,Zw z=true)->zs.Nodup->Pp (.lst (zs.map T.str)) S'
theorem Yq:Zv ["_law_state_here","_law_amount","_law_letters","_law_shift","_law_found","_law_k","_law_name","_law_turn","_law_words"] ["_law_state_here","_law_amount"] (Zb (top 76)):=⟨rfl,rfl,rfl,by decide +kernel,rfl,by decide +kernel,by decide +kernel⟩
structure NI(S0:TH)(a p:Addr)(sh:Int)(k:Nat)(zs:List Str)(S:TH):Prop where
 nd:zs.Nodup
 one:∀z∈zs,z.length=1->∃(j:Nat) (c:Nat),j<k/\atI abc.cps.toList ((sh+j) % 26)=some c/\z=⟨#[c]⟩
 sd:Sd S a
 found:S p=some (.lst (zs.map T.str))
 len:zs.length=k
 ok:∀z∈zs,Zw z=true
 rest:∀b,b≠a->b≠p->S b=S0 b
theorem NI.dr{S0 S S':TH}{a p:Addr}{k:Nat}{sh:Int}{zs:List Str}(h:NI S0 a p sh k zs S)(np:p≠a)(d:Dr a S S'):NI S0 a p sh k zs S' :=
 ⟨h.nd,h.one,d.sd,(d.same p np).trans h.found,h.len,h.ok,fun b h1 h2=>(d.same b h1).trans (h.rest b h1 h2)⟩
theorem Ra(N:Nm P w K mg)(d:Aa K mg "_law_names" ["_law_state_here","_law_amount"] (top 76))(c_law_next:Has P w K mg base 1 "_law_next" ["_law_state_here","_law_size"] H9):Has P w K mg base 2 "_law_names" ["_law_state_here","_law_amount"] Ua:=by
 have sc:=Yq
 refine Ab (k:=1) d sc (fun ts S Pp h=>?_) fun cdv f A outer s H E hr=>?_
 ·obtain⟨a,m,rfl,_⟩:=h;rfl
 have hu0:=An hr
 refine⟨_,(Zs (Zt 2 sc.nd Zq)
   (Zs (Zt 3 sc.nd (Zf c_law_next hr rfl (Zc (uv 0) (Zc Zi Zn))))
   (Zs (Zt 4 sc.nd (Bu Zn))
   (Zs (Cy PassesOwn.never rfl (B7 rfl N.range (Zc (uv 1) Zn)) (Cm 5 sc.nd) (Zs (Zt 6 sc.nd (Zx (uv 2) (F0 (Zp (uv 3) (uv 5)) Zi)))
   (Zs (Cy PassesOwn.never rfl (B7 rfl N.range (Zc (Zx (Am (Zc Zi (Zc Zi (Zc Zi (Zc Zi (Zc (Zf c_law_next hr rfl (Zc (uv 0) (Zc Zi Zn))) Zn)))))) (Zf c_law_next hr rfl (Zc (uv 0) (Zc Zi Zn)))) Zn)) (Cm 7 sc.nd) (Zo (Zt 6 sc.nd (Zp (Zx (uv 2) (Zf c_law_next hr rfl (Zc (uv 0) (Zc Zi Zn)))) (uv 6)))))
   (Zs (Zg (Xf hu0 (Zf c_law_next hr rfl (Zc (uv 0) (Zc Zi Zn))) Zi) (Zs (Zt 8 sc.nd (Am (Ar (Cs.s (Cs.s (Cs.s (Cs.s (Cs.s (Cs.s (Cs.s (Cs.s (Cs.s (Cs.s (Cs.s Cs.nil))))))))))))))
   (Zs (Zt 8 sc.nd (Zp (uv 8) (Am (Ar (Cs.s (Cs.s (Cs.s (Cs.s (Cs.s (Cs.s (Cs.s (Cs.s (Cs.s (Cs.s (Cs.s Cs.nil)))))))))))))))
   (Zo (Zt 6 sc.nd (Zx (Zp (uv 8) (Am (Ar (Cs.s (Cs.s (Cs.s Cs.nil)))))) (Zf c_law_next hr rfl (Zc (uv 0) (Zc Zi Zn)))))))) Ze)
   (Zs (Zg (Kk (uv 6) (uv 4)) (Zo (Zt 6 sc.nd (Zx (uv 2) (F0 (Zp (uv 3) (uv 5)) Zi)))) Ze)
   (Zo (Bb (A5 (uv 4) (Zc (uv 6) Zn)))))))))
   (Zo (Zr (Dl (uv 4)))))))),fun ts S0 Pp h=>?_⟩
 obtain⟨a,m,rfl,hs,hm,h⟩:=h
 and_intros
 refine⟨a,26,rfl,hs,by decide,fun sh S1 d1 s0 s1=>⟨by decide,fun p hp=>?_⟩⟩
 have np:p≠a:=fun z=>by rw[z] at hp;obtain⟨x,q⟩:=d1.sd;rw[q] at hp;cases hp
 simp only[uFor,Aab]
 and_intros
 refine⟨by omega,by omega,fun k env S=>∃e5 e6 e7 e8 zs,env=[some (.ref a),some (.int m),some (.str abc),some (.int sh),some (.ref p),e5,e6,e7,e8]/\NI S0 a p sh k zs S,⟨none,none,none,none,[],rfl,?_⟩,?_,?_⟩
 ·exact⟨List.nodup_nil,fun z hz=>(by cases hz),by obtain⟨x,q⟩:=d1.sd;exact⟨x,by rw[updT_ne (Ne.symm np)];exact q⟩,Zd,rfl,fun z hz=>(by cases hz),fun b h1 h2=>by rw[updT_ne h2];exact d1.same b h1⟩
 ·rintro k x env S hk ⟨e5,e6,e7,e8,zs,rfl,ni⟩
  have hkm:k<m:=by
   have:=(List.getElem?_eq_some_iff.mp hk).1
   rw[Zh] at this
   simpa using this
  have hx:x=.int k:=by
   rw[Iw (by simpa using hkm)] at hk
   exact(Option.some.inj hk).symm
  subst hx
  obtain⟨c0,hc0,l0,l1⟩:=Vb (i:=(sh+k) % 26) (Int.emod_nonneg _ (by decide)) (Int.emod_lt_of_pos _ (by decide))
  have fresh:∀{S:TH} {zs:List Str},NI S0 a p sh k zs S->(⟨#[c0]⟩:Str) ∉ zs:=fun {S zs} n hm=>by
   obtain⟨j,c,hj,ej,e⟩:=n.one _ hm rfl
   have r0:=Int.emod_nonneg (sh+k) (show (26:Int)≠0 by decide)
   have r1:=Int.emod_lt_of_pos (sh+k) (show (0:Int)<26 by decide)
   have r2:=Int.emod_nonneg (sh+j) (show (26:Int)≠0 by decide)
   have r3:=Int.emod_lt_of_pos (sh+j) (show (0:Int)<26 by decide)
   rw[P7 r2 r3] at ej
   rw[P7 r0 r1] at hc0
   have ec:c0=c:=by
    have:=congrArg Str.cps e
    simpa using this
   have e1:=Option.some.inj ej
   have e2:=Option.some.inj hc0
   omega
  have one0:Zw ⟨#[c0]⟩=true:=nameOk_iff.mpr ⟨show 1<=1 by omega,show 1<=8 by omega,Lt.one l0 l1⟩
  refine⟨show (0:Int)<26 by decide,by decide +kernel,c0,hc0,?_⟩
  refine⟨a,8,rfl,ni.sd,by decide,fun r8 S2 d2 r80 r81=>⟨show 5<=sizeLine by decide,a,5,rfl,d2.sd,by decide,fun r5 S3 d3 r50 r51=>?_⟩⟩
  have n3:=(ni.dr np d2).dr np d3
  have pk:∃t:Nat,t<=7/\atI [T.int 0,T.int 0,T.int 1,T.int 7,T.int r8] r5=some (.int t):=by
   have:r5=0\/r5=1\/r5=2\/r5=3\/r5=4:=by omega
   rcases this with rfl|rfl|rfl|rfl|rfl
   ·exact⟨0,by omega,rfl⟩
   ·exact⟨0,by omega,rfl⟩
   ·exact⟨1,by omega,rfl⟩
   ·exact⟨7,by omega,rfl⟩
   ·refine⟨r8.toNat,by omega,?_⟩
    rw[Int.toNat_of_nonneg r80]
    rfl
  obtain⟨t,ht,et⟩:=pk
  refine⟨_,et,show -(2^62)<=(t:Int) by omega,show (t:Int)<2^62 by omega,fun j env S=>∃e7 x,env=[some (.ref a),some (.int m),some (.str abc),some (.int sh),some (.ref p),some (.int k),some (.str x),e7,e8]/\NI S0 a p sh k zs S/\1<=x.length/\x.length<=1+j/\Lt x/\(x.length=1->x=⟨#[c0]⟩),⟨e7,_,rfl,n3,show 1<=1 by omega,show 1<=1+0 by omega,Lt.one l0 l1,fun _=>rfl⟩,?_,?_⟩
  ·rintro j y env S hj ⟨e7',x,rfl,n4,x1,x2,x3,x4⟩
   have hjt:j<t:=by
    have:=(List.getElem?_eq_some_iff.mp hj).1
    rw[Zh] at this
    simpa using this
   refine⟨a,26,rfl,n4.sd,by decide,fun r S5 d5 r0 r1=>?_⟩
   obtain⟨c,hc,q0,q1⟩:=Vb r0 r1
   have lx:(⟨#[c]⟩++x:Str).length=1+x.length:=by rw[Str.length_append];rfl
   refine⟨by decide +kernel,c,hc,Xp (show 1+x.length<=1000 by omega),_,_,rfl,n4.dr np d5,by omega,by omega,(Lt.one q0 q1).app x3,fun z=>by omega⟩
  ·rintro env S ⟨e7',x,rfl,n4,x1,x2,x3,x4⟩
   have okx0:Zw x=true:=nameOk_iff.mpr ⟨x1,by rw[Zh] at x2;simp at x2;omega,x3⟩
   have okx:Zw x=true/\(x.length=1->x=⟨#[c0]⟩):=⟨okx0,x4⟩
   have close:∀(x:Str) (e8:Option T) S,(Zw x=true/\(x.length=1->x=⟨#[c0]⟩))->x ∉ zs->NI S0 a p sh k zs S->∀S',S'=Ad S p (.lst (zs.map T.str++[.str x]))->∃e5 e6 e7 e8' zs',[some (T.ref a),some (.int m),some (.str abc),some (.int sh),some (.ref p),some (.int k),some (.str x),e7',e8]=[some (.ref a),some (.int m),some (.str abc),some (.int sh),some (.ref p),e5,e6,e7,e8']/\NI S0 a p sh (k+1) zs' S':=fun x e8 S okx nin n S' e=>by
    subst e
    refine⟨_,_,_,_,zs++[x],rfl,Pf n.nd nin,fun z hz hl=>?_,?_,?_,?_,?_,?_⟩
    ·rcases List.mem_append.mp hz with q|q
     ·obtain⟨j,c,hj,ej,e⟩:=n.one z q hl
      exact⟨j,c,by omega,ej,e⟩
     ·have e:z=x:=List.mem_singleton.mp q
      subst e
      exact⟨k,c0,by omega,hc0,okx.2 hl⟩
    ·obtain⟨y,q⟩:=n.sd
     exact⟨y,by rw[updT_ne (Ne.symm np)];exact q⟩
    ·rw[Zd,List.map_append];rfl
    ·simp[n.len]
    ·intro z hz
     rcases List.mem_append.mp hz with q|q
     ·exact n.ok z q
     ·have:z=x:=by simpa using q
      rw[this];exact okx.1
    ·intro b h1 h2
     rw[updT_ne h2];exact n.rest b h1 h2
   have lz:∀S,NI S0 a p sh k zs S->(zs.map T.str).length<sizeLine:=fun S n=>by
    rw[List.length_map,n.len]
    exact Xo (by omega)
   have tail:∀(x:Str) (e8:Option T) S (E:UEnds),(Zw x=true/\(x.length=1->x=⟨#[c0]⟩))->NI S0 a p sh k zs S->(∀(x:Str) (e8:Option T) S,(Zw x=true/\(x.length=1->x=⟨#[c0]⟩))->x ∉ zs->NI S0 a p sh k zs S->E.nx [some (T.ref a),some (.int m),some (.str abc),some (.int sh),some (.ref p),some (.int k),some (.str x),e7',e8] (Ad S p (.lst (zs.map T.str++[.str x]))))->A8 (uIf (A3 (Aq (oIn false) (Cd 6) (Cd 4))) (uSet 6 (Aq oIx (Cd 2) (Aq oMod (Aq Cg (Cd 3) (Cd 5)) (uC (.int 26))))) Ds) (Dp (Xj (Cd 4) (B8 (Cd 6) Cu))) E [some (T.ref a),some (.int m),some (.str abc),some (.int sh),some (.ref p),some (.int k),some (.str x),e7',e8] S:=fun x e8 S E okx n fin=>by
    refine⟨_,n.found,zs,C2 zs,fun _=>?_,fun e=>?_⟩
    ·refine⟨show (0:Int)<26 by decide,by decide +kernel,c0,hc0,?_⟩
     refine⟨⟨_,n.found⟩,_,n.found,lz S n,fin _ _ _ ⟨one0,fun _=>rfl⟩ (fresh n) n⟩
    ·exact⟨⟨_,n.found⟩,_,n.found,lz S n,fin _ _ _ okx (of_decide_eq_false e) n⟩
   refine⟨a,6,rfl,n4.sd,by decide,fun r6 S6 d6 r60 r61=>⟨fun _=>?_,fun _=>?_⟩⟩
   ·refine⟨show 11<=sizeLine by decide,show 11<=sizeLine by decide,show 22<=sizeLine by decide,show 3<=sizeLine by decide,show 25<=sizeLine by decide,a,25,rfl,d6.sd,by decide,fun r25 S7 d7 r0 r1=>?_⟩
    obtain⟨z,hz,ez⟩:=U7 T.str (xs:=words) r0 r1
    exact⟨_,ez,tail z _ S7 _ ⟨Tb z hz,fun e=>absurd e (On z hz)⟩ ((n4.dr np d6).dr np d7) fun x e8 S okx nin n=>close x e8 S okx nin n _ rfl⟩
   ·exact tail x e8 S6 _ okx (n4.dr np d6) fun x e8 S okx nin n=>close x e8 S okx nin n _ rfl
 ·rintro env S ⟨e5,e6,e7,e8,zs,rfl,ni⟩
  and_intros
  refine⟨_,ni.found,h zs _ ?_ ?_ ni.ok ni.nd⟩
  ·refine⟨fun b hb=>?_,?_⟩
   ·by_cases hbp:b=p
    ·subst hbp
     rw[Eb,<-d1.same b hb,hp]
    ·rw[delT_ne hbp];exact ni.rest b hb hbp
   ·obtain⟨x,q⟩:=ni.sd
    exact⟨x,by rw[delT_ne (Ne.symm np)];exact q⟩
  ·rw[ni.len,Zh];rfl
end
end K14
end
section
namespace K14
open PySem PySem.Spec PyProof.Rows L2 TL
seal UE UT UA US USs UI UG UO UW PTs Ag uOr Cc
section
variable{P:Program}{w:World}{K:PySem.W.Frag}{mg:Str->Option Value}{base:Heap}
structure Nms(zs:List Str):Prop where
 few:zs.length<=100
 ok:∀z∈zs,Zw z=true
inductive VF(ow bx:List Str):Nat->T->Prop where
 |num {n:Nat} {i:Int}:0<=i->i<=99->VF ow bx (n+1) (.tup [.str "number",.int i])
 |own {n:Nat} {x:Str}:x∈ow->VF ow bx (n+1) (.tup [.str "own",.str x])
 |box {n:Nat} {x:Str}:x∈bx->VF ow bx (n+1) (.tup [.str "box",.str x])
 |neg {n:Nat} {t:T}:VF ow bx n t->VF ow bx (n+1) (.tup [.str "not",t])
 |two {n:Nat} {z:Str} {t u:T}:(z="plus"\/z="minus"\/z="less"\/z="same")->VF ow bx n t->VF ow bx n u->VF ow bx (n+1) (.tup [.str z,t,u])
theorem VF.up{ow bx:List Str}{n:Nat}{t:T}(h:VF ow bx n t):∀{m},n<=m->VF ow bx m t:=by
 induction h with
 |num a b=>intro m hm;cases m with
  |zero=>omega
  |succ m=>exact .num a b
 |own a=>intro m hm;cases m with
  |zero=>omega
  |succ m=>exact .own a
 |box a=>intro m hm;cases m with
  |zero=>omega
  |succ m=>exact .box a
 |neg _ ih=>intro m hm;cases m with
  |zero=>omega
  |succ m=>exact .neg (ih (by omega))
 |two a _ _ ih1 ih2=>intro m hm;cases m with
  |zero=>omega
  |succ m=>exact .two a (ih1 (by omega)) (ih2 (by omega))
theorem Adp{ow bx:List Str}{n:Nat}{t:T}(h:VF ow bx n t):∃us,t=.tup us:=by cases h <;> exact⟨_,rfl⟩
def tagT(z:Str):T->Option T
 | .str x=>some (.tup [.str z,.str x])
 |_=>none
theorem Fr(z:Str)(zs:List Str):(zs.map T.str).filterMap (tagT z)=zs.map fun x=>T.tup [.str z,.str x]:=by
 rw[List.filterMap_map,<-List.filterMap_eq_map]
 rfl
theorem Ac{x:Str}(h:Zw x=true):x.length<=8:=(nameOk_iff.mp h).2.1
def cVal(n:Nat):List T->TH->UX->Prop:=fun ts S Pp=>∃(a:Addr) (ow bx:List Str),ts=[.ref a,.int (n:Int),.lst (ow.map T.str),.lst (bx.map T.str)]/\Sd S a/\Nms ow/\Nms bx/\∀t S',Dr a S S'->VF ow bx n t->Pp t S'
theorem scVal:Zv ["_law_state_here","_law_deep","_law_owns","_law_boxes","_law_kind","_law_names_here","_law_one"] ["_law_state_here","_law_deep","_law_owns","_law_boxes"] (Zb (top 77)):=⟨rfl,rfl,rfl,by decide +kernel,rfl,by decide +kernel,by decide +kernel⟩
def Qf(n:Nat):List T->TH->UX->Prop:=fun ts S Pp=>∃j,j<n/\cVal (j+1) ts S Pp
theorem Oi{n m:Nat}(hm:1<=m)(N:Nm P w K mg)(d:Aa K mg "_law_value" ["_law_state_here","_law_deep","_law_owns","_law_boxes"] (top 77))(c_law_next:Has P w K mg base 1 "_law_next" ["_law_state_here","_law_size"] H9)
  (c_law_value:Has P w K mg base m "_law_value" ["_law_state_here","_law_deep","_law_owns","_law_boxes"] (Qf n)):Has P w K mg base (m+1) "_law_value" ["_law_state_here","_law_deep","_law_owns","_law_boxes"] (Qf (n+1)):=by
 have sc:=scVal
 have c_law_next:=c_law_next.mono hm
 refine Ab (k:=m) d sc (fun ts S Pp h=>?_) fun cdv f A outer s H E hr=>?_
 ·obtain⟨j,_,a,ow,bx,rfl,_⟩:=h;rfl
 have hu0:=An hr
 refine⟨_,(Zs (Zt 4 sc.nd (Zf c_law_next hr rfl (Zc (uv 0) (Zc Zi Zn))))
   (Zs (Zt 5 sc.nd (Zp (Xg 0 ["_law_own"] [none] rfl (Xu (uv 2)) (fun _ _ _ _ _=>Ah) (fun _ _ _ _ _=>(Zu (Zc Zq (Zc (uv 0) Zn))))) (Xg 0 ["_law_box"] [none] rfl (Xu (uv 3)) (fun _ _ _ _ _=>Ah) (fun _ _ _ _ _=>(Zu (Zc Zq (Zc (uv 0) Zn)))))))
   (Zs (Zg (UW.ut (Gp (Hg (uv 1) Zi) (Xs (Hg (uv 4) Zi)))) (Zs (Zg (UW.ut (Dd (Cz (Zl rfl N.len (Zc (uv 5) Zn)) Zi) (Cn (Cz (Zf c_law_next hr rfl (Zc (uv 0) (Zc Zi Zn))) Zi)))) (Zo (Zr (Zx (uv 5) (Zf c_law_next hr rfl (Zc (uv 0) (Zc (Zl rfl N.len (Zc (uv 5) Zn)) Zn)))))) Ze)
   (Zo (Zr (Zu (Zc Zq (Zc (Zx (Am (Zc (Zf c_law_next hr rfl (Zc (uv 0) (Zc Zi Zn))) (Zc (Zf c_law_next hr rfl (Zc (uv 0) (Zc Zi Zn))) Zn))) (Od (Zf c_law_next hr rfl (Zc (uv 0) (Zc Zi Zn))) Zi)) Zn)))))) Ze)
   (Zs (Zt 6 sc.nd (Zf c_law_value hr rfl (Zc (uv 0) (Zc (Cf (uv 1) Zi) (Zc (uv 2) (Zc (uv 3) Zn))))))
   (Zs (Zg (Xf hu0 (uv 4) Zi) (Zo (Zr (Zu (Zc Zq (Zc (uv 6) Zn))))) Ze)
   (Zo (Zr (Zu (Zc (Zx (Am (Ar (Cs.s (Cs.s (Cs.s (Cs.s Cs.nil)))))) (Cf (uv 4) Zi)) (Zc (uv 6) (Zc (Zf c_law_value hr rfl (Zc (uv 0) (Zc (Cf (uv 1) Zi) (Zc (uv 2) (Zc (uv 3) Zn))))) Zn))))))))))),fun ts S0 Pp h=>?_⟩
 obtain⟨j,hj,a,ow,bx,rfl,hs,now,nbx,h⟩:=h
 refine⟨a,8,rfl,hs,by decide,fun kd S1 d1 k0 k1=>?_⟩
 have l1:(ow.map T.str).length<=sizeLine:=by rw[List.length_map];exact Xp (by have:=now.few;omega)
 have l2:(bx.map T.str).length<=sizeLine:=by rw[List.length_map];exact Xp (by have:=nbx.few;omega)
 refine Bs (ts:=ow.map T.str) (f:=tagT "own") (fun k hk=>hk) l1 (fun y hy A B hA hB=>?_) ?_
 ·obtain⟨z,_,rfl⟩:=List.mem_map.mp hy
  exact⟨fun _=>⟨show 2<=sizeLine by decide,hA _ rfl⟩,fun e=>(by cases e)⟩
 refine Bs (ts:=bx.map T.str) (f:=tagT "box") (fun k hk=>hk) l2 (fun y hy A B hA hB=>?_) ?_
 ·obtain⟨z,_,rfl⟩:=List.mem_map.mp hy
  exact⟨fun _=>⟨show 2<=sizeLine by decide,hA _ rfl⟩,fun e=>(by cases e)⟩
 have vts:∀t∈(ow.map T.str).filterMap (tagT "own")++(bx.map T.str).filterMap (tagT "box"),VF ow bx 1 t:=by
  intro t ht
  rw[Fr,Fr] at ht
  rcases List.mem_append.mp ht with q|q
  ·obtain⟨z,hz,rfl⟩:=List.mem_map.mp q
   exact .own hz
  ·obtain⟨z,hz,rfl⟩:=List.mem_map.mp q
   exact .box hz
 refine⟨?_,?_⟩
 ·rw[Fr,Fr,List.length_map,List.length_map]
  exact Xp (by have:=now.few;have:=nbx.few;omega)
 refine Yu (fun _ h=>h) (fun _ h=>h) ⟨fun e=>?_,fun e=>?_⟩
 ·refine X3 (R:=Dr a S0) (fun _ h=>h) d1 (fun e1 P hP=>⟨a,3,rfl,d1.sd,by decide,fun r S2 d2 _ _=>hP _ S2 (d1.trans d2)⟩) fun b S2 d2 hb=>⟨fun e2=>?_,fun e2=>?_⟩
  ·have hl:=hb e2
   have hl:=of_decide_eq_true hl
   refine⟨a,_,rfl,d2.sd,hl,fun r S3 d3 r0 r1=>?_⟩
   obtain⟨t,ht,et⟩:=Adz r0 r1
   exact⟨t,et,h t S3 (d2.trans d3) ((vts t ht).up (by omega))⟩
  ·refine⟨a,4,rfl,d2.sd,by decide,fun r4 S3 d3 r40 r41=>⟨a,100,rfl,d3.sd,by decide,fun r100 S4 d4 r0 r1=>⟨show 2<=sizeLine by decide,a,6,rfl,d4.sd,by decide,fun r6 S5 d5 r60 r61=>⟨⟨by decide,by decide⟩,?_⟩⟩⟩⟩
   have:r6 / 5=0\/r6 / 5=1:=by omega
   rcases this with q|q
   ·refine⟨.int r4,by rw[q];rfl,show 2<=sizeLine by decide,h _ S5 (((d2.trans d3).trans d4).trans d5) (.num r40 (by omega))⟩
   ·refine⟨.int r100,by rw[q];rfl,show 2<=sizeLine by decide,h _ S5 (((d2.trans d3).trans d4).trans d5) (.num r0 (by omega))⟩
 ·have e1:¬ ((j+1:Nat):Int)<2/\¬ kd<3:=by simpa using e
  obtain⟨i,rfl⟩:∃i,j=i+1:=⟨j - 1,by omega⟩
  have en:((i+1+1:Nat):Int) - 1=((i+1:Nat):Int):=by omega
  refine⟨i,by omega,a,ow,bx,by dsimp only;rw[en],d1.sd,now,nbx,fun t S2 d2 vt=>⟨fun e3=>?_,fun e3=>?_⟩⟩
  ·exact⟨show 2<=sizeLine by decide,h _ S2 (d1.trans d2) (.neg vt)⟩
  ·have e4:¬ kd=3:=by simpa using e3
   refine⟨show 4<=sizeLine by decide,?_⟩
   have:kd - 4=0\/kd - 4=1\/kd - 4=2\/kd - 4=3:=by omega
   have wd:∃z:Str,(z="plus"\/z="minus"\/z="less"\/z="same")/\atI [T.str "plus",T.str "minus",T.str "less",T.str "same"] (kd - 4)=some (.str z):=by
    rcases this with q|q|q|q <;> rw[q]
    ·exact⟨"plus",.inl rfl,rfl⟩
    ·exact⟨"minus",.inr (.inl rfl),rfl⟩
    ·exact⟨"less",.inr (.inr (.inl rfl)),rfl⟩
    ·exact⟨"same",.inr (.inr (.inr rfl)),rfl⟩
   obtain⟨z,lz,ez⟩:=wd
   refine⟨_,ez,i,by omega,a,ow,bx,by dsimp only;rw[en],d2.sd,now,nbx,fun t' S3 d3 vt'=>⟨show 3<=sizeLine by decide,h _ S3 ((d1.trans d2).trans d3) (.two lz vt vt')⟩⟩
theorem Jr(N:Nm P w K mg)(d:Aa K mg "_law_value" ["_law_state_here","_law_deep","_law_owns","_law_boxes"] (top 77))(c:Has P w K mg base 1 "_law_next" ["_law_state_here","_law_size"] H9):∀n:Nat,Has P w K mg base (n+1) "_law_value" ["_law_state_here","_law_deep","_law_owns","_law_boxes"] (Qf n)
 | 0=>Fv d fun _ _ _ ⟨_,z,_⟩=>by omega
 |n+1=>Oi (m:=n+1) (by omega) N d c (Jr N d c n)
end
end K14
end
section
namespace K14
open PySem PySem.Spec PyProof.Rows L2 TL
seal UE UT UA US USs UI UG UO UW PTs Ag
section
variable{P:Program}{w:World}{K:PySem.W.Frag}{mg:Str->Option Value}{base:Heap}
def Ae(ow bx lk:List Str)(behind:Int)(k:Str)(x:T):Bool :=
 if k="own" then isName x&&inS ow x else if k="box" then isName x&&inS bx x else if k="lock" then isName x&&inS lk x else if k="value" then valOk 5 ow [] x else Bq 0 behind x
def stepOk(ow bx lk:List Str)(behind:Int):T->Bool
 | .tup (.str w::r)=>(match A7 w with
  |none=>false
  |some ks=>decide (r.length=ks.length)&&(List.zipWith (fun x k=>Ae ow bx lk behind k x) r ks).all id)
 |_=>false
def Kn:List T->TH->UX->Prop:=fun ts S Pp=>∃x k ow bx lk behind,ts=[x,.str k,.lst (ow.map T.str),.lst (bx.map T.str),.lst (lk.map T.str),.int behind]/\Pl x/\Pp (.bl (Ae ow bx lk behind k x)) S
def Aak:List T->TH->UX->Prop:=fun ts S Pp=>∃x ow bx lk behind,ts=[x,.lst (ow.map T.str),.lst (bx.map T.str),.lst (lk.map T.str),.int behind]/\Pl x/\Pp (.bl (stepOk ow bx lk behind x)) S
theorem O0:Zv ["thing","kind","owns","boxes","locks","behind"] ["thing","kind","owns","boxes","locks","behind"] (Zb (top 23)):=⟨rfl,rfl,rfl,by decide +kernel,rfl,by decide +kernel,by decide +kernel⟩
theorem Adt:Zv ["thing","owns","boxes","locks","behind","kinds"] ["thing","owns","boxes","locks","behind"] (Zb (top 22)):=⟨rfl,rfl,rfl,by decide +kernel,rfl,by decide +kernel,by decide +kernel⟩
theorem is_step_part{m:Nat}(N:Nm P w K mg)(d:Aa K mg "is_step_part" ["thing","kind","owns","boxes","locks","behind"] (top 23))(c_is_name_of:Has P w K mg base m "is_name_of" ["thing","names"] Hb)(c_is_number:Has P w K mg base m "is_number" ["thing","least","greatest"] Dk)(c_is_value:Has P w K mg base m "is_value" ["thing","owns","boxes"] Ny):Has P w K mg base (m+1) "is_step_part" ["thing","kind","owns","boxes","locks","behind"] Kn:=by
 have sc:=O0
 refine Ab (k:=m) d sc (fun ts S Pp h=>?_) fun cdv f A outer s H E hr=>?_
 ·obtain⟨x,k,ow,bx,lk,b,rfl,_⟩:=h;rfl
 have hu0:=An hr
 refine⟨_,(Zs (Zg (Xf hu0 (uv 1) Zq) (Zo (Zr (Zf c_is_name_of hr rfl (Zc (uv 0) (Zc (uv 2) Zn))))) Ze)
   (Zs (Zg (Xf hu0 (uv 1) Zq) (Zo (Zr (Zf c_is_name_of hr rfl (Zc (uv 0) (Zc (uv 3) Zn))))) Ze)
   (Zs (Zg (Xf hu0 (uv 1) Zq) (Zo (Zr (Zf c_is_name_of hr rfl (Zc (uv 0) (Zc (uv 4) Zn))))) Ze)
   (Zs (Zg (Xf hu0 (uv 1) Zq) (Zo (Zr (Zf c_is_value hr rfl (Zc (uv 0) (Zc (uv 2) (Zc (Am Zn) Zn)))))) Ze)
   (Zo (Zr (Zf c_is_number hr rfl (Zc (uv 0) (Zc Zi (Zc (uv 5) Zn)))))))))),fun ts S Pp h=>?_⟩
 obtain⟨x,k,ow,bx,lk,b,rfl,px,h⟩:=h
 unfold Ae at h
 refine⟨fun e=>?_,fun e=>⟨fun e1=>?_,fun e1=>⟨fun e2=>?_,fun e2=>⟨fun e3=>?_,fun e3=>?_⟩⟩⟩⟩
 ·rw[if_pos (by simpa using e)] at h
  exact⟨x,ow,rfl,px,h⟩
 ·rw[if_neg (by simpa using e),if_pos (by simpa using e1)] at h
  exact⟨x,bx,rfl,px,h⟩
 ·rw[if_neg (by simpa using e),if_neg (by simpa using e1),if_pos (by simpa using e2)] at h
  exact⟨x,lk,rfl,px,h⟩
 ·rw[if_neg (by simpa using e),if_neg (by simpa using e1),if_neg (by simpa using e2),if_pos (by simpa using e3)] at h
  exact⟨show 0<=sizeLine by decide,x,ow,[],rfl,px,h⟩
 ·rw[if_neg (by simpa using e),if_neg (by simpa using e1),if_neg (by simpa using e2),if_neg (by simpa using e3)] at h
  exact⟨x,0,b,rfl,px,h⟩
theorem Sh(wd:Str):valT Bz (Sum.inr wd)=(A7 wd).map fun ks=>T.tup (ks.map T.str):=by
 unfold valT Bz A7
 rw[List.find?_map,Option.map_map,Option.map_map]
 have e:((fun kv:Key×T=>decide (kv.1=Sum.inr wd)) ∘ fun p:Str×List Str=>((Sum.inr p.1:Key),T.tup (p.2.map T.str)))=fun p=>decide (p.1=wd):=by
  funext p
  show decide ((Sum.inr p.1:Key)=Sum.inr wd)=decide (p.1=wd)
  exact N1 _ _
 rw[e]
 rfl
theorem Rm{wd:Str}{ks:List Str}(h:A7 wd=some ks):1<=ks.length/\ks.length<=2:=by
 unfold A7 at h
 cases e:stepTab.find? fun p=>decide (p.1=wd) with
 |none=>rw[e] at h;cases h
 |some p =>
  rw[e] at h
  cases h
  have m:=List.mem_of_find?_eq_some e
  have all:∀q∈stepTab,1<=q.2.length/\q.2.length<=2:=by decide
  exact all p m
def Vk(g:T->Str->Bool):T->Option T
 | .tup [x,.str k]=>some (.bl (g x k))
 |_=>none
theorem Os(g:T->Str->Bool)(r:List T)(ks:List Str):(Eu r (ks.map T.str)).filterMap (Vk g)=(List.zipWith g r ks).map T.bl:=by
 unfold Eu
 induction r generalizing ks with
 |nil=>rfl
 |cons a r ih =>
  cases ks with
  |nil=>rfl
  |cons k ks =>
   simp only[List.map_cons,List.zipWith_cons_cons,List.filterMap_cons,Vk]
   rw[ih]
theorem is_step{m:Nat}(N:Nm P w K mg)(d:Aa K mg "is_step" ["thing","owns","boxes","locks","behind"] (top 22))(c_has_word:Has P w K mg base m "has_word" ["thing"] Pq)(c_is_step_part:Has P w K mg base m "is_step_part" ["thing","kind","owns","boxes","locks","behind"] Kn):Has P w K mg base (m+1) "is_step" ["thing","owns","boxes","locks","behind"] Aak:=by
 have sc:=Adt
 refine Ab (k:=m) d sc (fun ts S Pp h=>?_) fun cdv f A outer s H E hr=>?_
 ·obtain⟨x,ow,bx,lk,b,rfl,_⟩:=h;rfl
 have hu0:=An hr
 refine⟨_,(Zs (Zg (Ap (Xe (Zf c_has_word hr rfl (Zc (uv 0) Zn)))) (Zo (Zr Cj)) Ze)
   (Zs (Zt 5 sc.nd (Fa rfl N.STEP_PARTS (Zx (uv 0) Zi) ⟨rfl,rfl,rfl,rfl⟩))
   (Zs (Zg (UW.ut (Gp (K7 (uv 5) F1) (Xs (Kh hu0 (Zl rfl N.len (Zc (uv 0) Zn)) (Zp Zi (Zl rfl N.len (Zc (uv 5) Zn))))))) (Zo (Zr Cj)) Ze)
   (Zo (Zr (D2 rfl rfl N.all (Zc (Lv 0 1 ["part","kind","owns","boxes","locks","behind"] [none,none,some 1,some 2,some 3,some 4] rfl (Uz rfl N.zip (Zc (Aao (uv 0) (Ec Zi) Ef) (Zc (uv 5) Zn))) (fun _ _ _ _ _=>Ah) (fun _ _ _ _ _=>(Zf c_is_step_part hr rfl (Zc (uv 0) (Zc (uv 1) (Zc (uv 2) (Zc (uv 3) (Zc (uv 4) (Zc (uv 5) Zn))))))))) Zn))))))),fun ts S Pp h=>?_⟩
 obtain⟨x,ow,bx,lk,b,rfl,px,h⟩:=h
 refine⟨x,rfl,px,fun hw=>?_,fun hw=>?_⟩
 ·have hw:Fi x=false:=by simpa using hw
  have e0:stepOk ow bx lk b x=false:=by
   unfold stepOk
   split
   ·cases hw
   ·rfl
  rw[e0] at h
  exact h
 have hw:Fi x=true:=by simpa using hw
 match x,hw,px,h with
 | .tup (.str wd::r),hw,px,h =>
  have pr:∀t∈r,Pl t:=by
   cases px with
   |tup q=>exact fun t ht=>q t (List.mem_cons_of_mem _ ht)
  have ei:atI (T.str wd::r) (0:Int)=some (.str wd):=Xb (j:=0) rfl
  have hv:=Sh wd
  cases hk:A7 wd with
  |none =>
   rw[hk] at hv
   have e0:stepOk ow bx lk b (.tup (.str wd::r))=false:=by simp only[stepOk,hk]
   rw[e0] at h
   refine⟨_,ei,?_⟩
   simp only[uIf,uOr,Cc,I0,A3,Aq,uUn,Cd,uC,A9,B8,Cu,Ia,A8,uSet,Ds,Dp,En,Jf,Jl,Hn,Ei,Bm,Je,uoN,uoS,D9,Xj,Xk,Iz,Cw,Er,tyT,okC,isT,Gk,oII,oIC,Fs,oIx,Ix,G1,Dt,Hm,Cg,oIn,Fw,Hq,Jh,TL.Xm,List.map_cons,List.map_nil,List.length_cons,List.length_nil,List.replicate,List.cons_append,List.nil_append,List.append_nil,List.getElem?_cons_zero,List.getElem?_cons_succ,List.set_cons_zero,List.set_cons_succ,Bool.false_eq_true,Bool.true_eq_false,false_implies,true_implies,forall_const,and_true,true_and,Bool.not_true,Bool.not_false,beq_self_eq_true,Bool.true_or,Bool.or_true,Bool.false_or,Bool.or_false,Bool.and_true,Bool.true_and,Bool.and_false,Bool.false_and,reduceCtorEq,Nat.reduceAdd,Nat.reduceSub,String.reduceBEq,Bool.false_xor,Bool.true_xor,Option.some.injEq,exists_eq_left,exists_eq_left',keyT,hv,Option.map_none,Option.getD_none]
   exact h
  |some ks =>
   rw[hk] at hv
   have e0:stepOk ow bx lk b (.tup (.str wd::r))=(decide (r.length=ks.length)&&(List.zipWith (fun x k=>Ae ow bx lk b k x) r ks).all id):=by simp only[stepOk,hk]
   rw[e0] at h
   refine⟨_,ei,?_⟩
   simp only[uIf,uOr,Cc,I0,A3,Aq,uUn,Cd,uC,A9,B8,Cu,Ia,A8,uSet,Ds,Dp,En,Jf,Jl,Hn,Ei,Bm,Je,uoN,uoS,D9,Xj,Xk,Iz,Cw,Er,tyT,okC,isT,Gk,oII,oIC,Fs,oIx,Ix,G1,Dt,Hm,Cg,oIn,Fw,Hq,Jh,TL.Xm,List.map_cons,List.map_nil,List.length_cons,List.length_nil,List.replicate,List.cons_append,List.nil_append,List.append_nil,List.getElem?_cons_zero,List.getElem?_cons_succ,List.set_cons_zero,List.set_cons_succ,Bool.false_eq_true,Bool.true_eq_false,false_implies,true_implies,forall_const,and_true,true_and,Bool.not_true,Bool.not_false,beq_self_eq_true,Bool.true_or,Bool.or_true,Bool.false_or,Bool.or_false,Bool.and_true,Bool.true_and,Bool.and_false,Bool.false_and,reduceCtorEq,Nat.reduceAdd,Nat.reduceSub,String.reduceBEq,Bool.false_xor,Bool.true_xor,Option.some.injEq,exists_eq_left,exists_eq_left',keyT,hv,Option.map_some,Option.getD_some,List.length_map]
   refine And.intro (fun e=>?_) (fun e=>?_)
   ·have:¬ r.length=ks.length:=by
     intro q
     rw[q] at e
     simp at e
     omega
    rw[decide_eq_false this,Bool.false_and] at h
    exact h
   ·have hl:r.length=ks.length:=by simp at e;omega
    rw[decide_eq_true hl,Bool.true_and] at h
    have kl:=Rm hk
    refine Bs (ts:=Eu r (ks.map T.str)) (f:=Vk fun x k=>Ae ow bx lk b k x) (fun k hk'=>?_) ?_ (fun y hy A B hA hB=>?_) ?_
    ·simp only[uZip]
     simp only[uIf,uOr,Cc,I0,A3,Aq,uUn,Cd,uC,A9,B8,Cu,Ia,A8,uSet,Ds,Dp,En,Jf,Jl,Hn,Ei,Bm,Je,uoN,uoS,D9,Xj,Xk,Iz,Cw,Er,tyT,okC,isT,Gk,oII,oIC,Fs,oIx,Ix,G1,Dt,Hm,Cg,oIn,Fw,Hq,Jh,TL.Xm,List.map_cons,List.map_nil,List.length_cons,List.length_nil,List.replicate,List.cons_append,List.nil_append,List.append_nil,List.getElem?_cons_zero,List.getElem?_cons_succ,List.set_cons_zero,List.set_cons_succ,Bool.false_eq_true,Bool.true_eq_false,false_implies,true_implies,forall_const,and_true,true_and,Bool.not_true,Bool.not_false,beq_self_eq_true,Bool.true_or,Bool.or_true,Bool.false_or,Bool.or_false,Bool.and_true,Bool.true_and,Bool.and_false,Bool.false_and,reduceCtorEq,Nat.reduceAdd,Nat.reduceSub,String.reduceBEq,Bool.false_xor,Bool.true_xor,Option.some.injEq,exists_eq_left,exists_eq_left',C8]
     refine⟨?_,?_,hk'⟩
     ·rintro⟨q,_⟩
      simp[HT.sIx] at q
     ·rw[List.length_map];exact hl
    ·simp only[Eu,List.length_zipWith,List.length_map]
     exact Nat.le_trans (show min r.length ks.length<=1000 by omega) (by decide)
    ·obtain⟨x,kd,hx,rfl⟩:=Mc hy
     have hA:=hA _ rfl
     exact⟨fun _=>⟨x,kd,ow,bx,lk,b,rfl,pr x hx,hA⟩,fun e=>by cases e⟩
    ·dsimp only
     rw[Os]
     rw[Hz]
     exact h
end
end K14
end
section
namespace K14
open PySem PySem.Spec PyProof.Rows L2 TL
seal UE UT UA US USs UI UG UO UW PTs Ag
theorem no_{A B:Prop}{b:Bool}(h:b=false)(k:B):(b=true->A)/\(b=false->B):=⟨fun e=>(by rw[h] at e;cases e),fun _=>k⟩
theorem yes_{A B:Prop}{b:Bool}(h:b=true)(k:A):(b=true->A)/\(b=false->B):=⟨fun _=>k,fun e=>(by rw[h] at e;cases e)⟩
section
variable{P:Program}{w:World}{K:PySem.W.Frag}{mg:Str->Option Value}{base:Heap}
def Ak(lo hi:Int):T->Bool
 | .tup ts=>decide (lo<=ts.length)&&decide ((ts.length:Int)<=hi)
 |_=>false
def pairOk(size:Int)(x:T):Bool:=Ak 2 2 x&&(match x with | .tup [n,i]=>isName n&&Bq 0 (size - 1) i|_=>false)
def headS:T->Option Str
 | .tup (.str x::_)=>some x
 |_=>none
def Xn(ts:List T):List Str:=ts.filterMap headS
def items:T->List T
 | .tup ts=>ts
 |_=>[]
def Bf(most size:Int)(x:T):Bool:=Ak 0 most x&&((items x).all (pairOk size)&&decide (Xn (items x)).Nodup)
def Bg(ts:List T):List Str:=ts.filterMap fun t=>match t with
 | .str x=>some x
 |_=>none
def Cv(bs:List Str)(x:T):Bool:=Ak 0 4 x&&((items x).all isName&&decide (bs++Bg (items x)).Nodup)
def progOk(size:Int)(x:T):Bool:=Ak 3 3 x&&(match x with | .tup [n,o,s]=>isName n&&(Bf 4 size o&&Ak 0 30 s)|_=>false)
def Co(size:Int)(x:T):Bool:=Ak 1 4 x&&((items x).all (progOk size)&&decide (Xn (items x)).Nodup)
def Cq(n:Int)(x:T):Bool:=Ak 1 6 x&&(items x).all (Bq 0 (n - 1))
def Lu:List T->TH->UX->Prop:=fun ts S Pp=>∃x lo hi,ts=[x,.int lo,.int hi]/\Pl x/\Pp (.bl (Ak lo hi x)) S
theorem scRow:Zv ["thing","fewest","most"] ["thing","fewest","most"] (Zb (top 36)):=⟨rfl,rfl,rfl,by decide +kernel,rfl,by decide +kernel,by decide +kernel⟩
theorem is_tuple_of(N:Nm P w K mg)(d:Aa K mg "is_tuple_of" ["thing","fewest","most"] (top 36)):Has P w K mg base 1 "is_tuple_of" ["thing","fewest","most"] Lu:=by
 have sc:=scRow
 refine Ab (k:=0) d sc (fun ts S Pp h=>?_) fun cdv f A outer s H E hr=>?_
 ·obtain⟨x,lo,hi,rfl,_⟩:=h;rfl
 refine⟨_,(Zo (Zr (Ch (Ey rfl N.isinstance (Zc (uv 0) (Zc (Xv rfl N.tuple boot_tuple) Zn))) (D4 (Dm (uv 1) (Zl rfl N.len (Zc (uv 0) Zn)) (uv 2)))))),fun ts S Pp h=>?_⟩
 obtain⟨x,lo,hi,rfl,px,h⟩:=h
 cases px with
 | @tup ts _ =>
  and_intros
  exact⟨fun e=>by rw[Ak,e,Bool.true_and] at h;exact h,fun e=>by rw[Ak,e,Bool.false_and] at h;exact h⟩
 |_=>and_intros;exact h
def Su:T->Option T
 | .tup (x::_)=>some x
 |_=>none
def Es:List T->TH->UX->Prop:=fun ts S Pp=>∃L,ts=[.tup L]/\L.length<=1000/\(∀x∈L,∃y r,x=.tup (.str y::r))/\Pp (.lst ((Xn L).map T.str)) S
theorem Yn:Zv ["things"] ["things"] (Zb (top 37)):=⟨rfl,rfl,rfl,by decide +kernel,rfl,by decide +kernel,by decide +kernel⟩
theorem Gu:∀{L:List T},(∀x∈L,∃y r,x=.tup (.str y::r))->L.filterMap Su=(Xn L).map T.str
 |[],_=>rfl
 |x::r,h=>by
  obtain⟨y,q,rfl⟩:=h x List.mem_cons_self
  have ih:=Gu (L:=r) fun z hz=>h z (List.mem_cons_of_mem _ hz)
  show T.str y::r.filterMap Su=T.str y::(Xn r).map T.str
  rw[ih]
theorem names_of(N:Nm P w K mg)(d:Aa K mg "names_of" ["things"] (top 37)):Has P w K mg base 1 "names_of" ["things"] Es:=by
 have sc:=Yn
 refine Ab (k:=0) d sc (fun ts S Pp h=>?_) fun cdv f A outer s H E hr=>?_
 ·obtain⟨L,rfl,_⟩:=h;rfl
 refine⟨_,(Zo (Zr (Xg 0 ["thing"] [none] rfl (Xu (uv 0)) (fun _ _ _ _ _=>Ah) (fun _ _ _ _ _=>(Zx (uv 0) Zi))))),fun ts S Pp h=>?_⟩
 obtain⟨L,rfl,hl,hh,h⟩:=h
 refine Bs (ts:=L) (f:=Su) (fun k hk=>hk) (Xp hl) (fun x hx A B hA hB=>?_) ?_
 ·obtain⟨y,r,rfl⟩:=hh x hx
  exact⟨fun _=>⟨_,Xb (j:=0) rfl,hA _ rfl⟩,fun e=>(by cases e)⟩
 ·rw[Gu hh]
  exact h
def Hc:List T->TH->UX->Prop:=fun ts S Pp=>∃zs:List Str,ts=[.lst (zs.map T.str)]/\zs.length<=1000/\Pp (.bl (decide zs.Nodup)) S
theorem Vl:Zv ["names"] ["names"] (Zb (top 38)):=⟨rfl,rfl,rfl,by decide +kernel,rfl,by decide +kernel,by decide +kernel⟩
theorem are_unlike(N:Nm P w K mg)(d:Aa K mg "are_unlike" ["names"] (top 38)):Has P w K mg base 1 "are_unlike" ["names"] Hc:=by
 have sc:=Vl
 refine Ab (k:=0) d sc (fun ts S Pp h=>?_) fun cdv f A outer s H E hr=>?_
 ·obtain⟨zs,rfl,_⟩:=h;rfl
 have hu0:=An hr
 refine⟨_,(Zo (Zr (Aai hu0 (Ry rfl rfl N.len rfl N.set (uv 0)) (Zl rfl N.len (Zc (uv 0) Zn))))),fun ts S Pp h=>?_⟩
 obtain⟨zs,rfl,hz,h⟩:=h
 refine⟨zs,C2 zs,hz,fun n hn=>?_⟩
 show Pp (.bl (Bool.xor false (decide ((n:Int)=((zs.map T.str).length:Int))))) S
 rw[Bool.false_xor,List.length_map]
 have e:decide ((n:Int)=(zs.length:Int))=decide zs.Nodup:=by
  by_cases q:zs.Nodup
  ·rw[decide_eq_true q,decide_eq_true (by rw[hn.mpr q])]
  ·rw[decide_eq_false q,decide_eq_false fun z=>q (hn.mp (by omega))]
 rw[e]
 exact h
def Ms:List T->TH->UX->Prop:=fun ts S Pp=>∃x size,ts=[x,.int size]/\Pl x/\Pp (.bl (pairOk size x)) S
theorem Q5:Zv ["thing","size"] ["thing","size"] (Zb (top 40)):=⟨rfl,rfl,rfl,by decide +kernel,rfl,by decide +kernel,by decide +kernel⟩
theorem row2{x:T}(h:Ak 2 2 x=true):∃a b,x=.tup [a,b]:=by
 cases x with
 |tup ts =>
  simp only[Ak,Bool.and_eq_true,decide_eq_true_eq] at h
  match ts,h with
  |[a,b],_=>exact⟨a,b,rfl⟩
  |[],h=>simp at h
  |[_],h=>simp at h
  |_::_::_::_,h=>simp at h;omega
 |_=>cases h
theorem row3{x:T}(h:Ak 3 3 x=true):∃a b c,x=.tup [a,b,c]:=by
 cases x with
 |tup ts =>
  simp only[Ak,Bool.and_eq_true,decide_eq_true_eq] at h
  match ts,h with
  |[a,b,c],_=>exact⟨a,b,c,rfl⟩
  |[],h=>simp at h
  |[_],h=>simp at h
  |[_,_],h=>simp at h
  |_::_::_::_::_,h=>simp at h;omega
 |_=>cases h
theorem B3{lo hi:Int}{x:T}(h:Ak lo hi x=true):∃ts,x=.tup ts/\lo<=ts.length/\(ts.length:Int)<=hi:=by
 cases x with
 |tup ts =>
  simp only[Ak,Bool.and_eq_true,decide_eq_true_eq] at h
  exact⟨ts,rfl,h⟩
 |_=>cases h
theorem Ax{ts:List T}(h:Pl (.tup ts)):∀t∈ts,Pl t:=by cases h with|tup q=>exact q
theorem is_holding{m:Nat}(N:Nm P w K mg)(d:Aa K mg "is_holding" ["thing","size"] (top 40))(c_is_tuple_of:Has P w K mg base m "is_tuple_of" ["thing","fewest","most"] Lu)(c_is_name:Has P w K mg base m "is_name" ["thing"] L3)(c_is_number:Has P w K mg base m "is_number" ["thing","least","greatest"] Dk):Has P w K mg base (m+1) "is_holding" ["thing","size"] Ms:=by
 have sc:=Q5
 refine Ab (k:=m) d sc (fun ts S Pp h=>?_) fun cdv f A outer s H E hr=>?_
 ·obtain⟨x,size,rfl,_⟩:=h;rfl
 refine⟨_,(Zo (Zr (Ch (Zf c_is_tuple_of hr rfl (Zc (uv 0) (Ar (Cs.i (Cs.i Cs.nil))))) (Ch (Zf c_is_name hr rfl (Zc (Zx (uv 0) Zi) Zn)) (D4 (Zf c_is_number hr rfl (Zc (Zx (uv 0) Zi) (Zc Zi (Zc (Cf (uv 1) Zi) Zn))))))))),fun ts S Pp h=>?_⟩
 obtain⟨x,size,rfl,px,h⟩:=h
 unfold pairOk at h
 refine⟨x,2,2,rfl,px,?_⟩
 cases e:Ak 2 2 x with
 |false=>rw[e,Bool.false_and] at h;exact no_ rfl h
 |true =>
  obtain⟨a,b,rfl⟩:=row2 e
  rw[e,Bool.true_and] at h
  have h:Pp (.bl (isName a&&Bq 0 (size - 1) b)) S:=h
  have pa:=Ax px a (by simp)
  have pb:=Ax px b (by simp)
  refine yes_ rfl ⟨_,Xb (j:=0) rfl,a,rfl,pa,?_⟩
  cases ea:isName a with
  |false=>rw[ea] at h;exact no_ rfl h
  |true=>rw[ea] at h;exact yes_ rfl ⟨_,Xb (j:=1) rfl,b,0,size - 1,rfl,pb,h⟩
def Fz:List T->TH->UX->Prop:=fun ts S Pp=>∃x most size,ts=[x,.int most,.int size]/\Pl x/\most<=1000/\Pp (.bl (Bf most size x)) S
theorem Nc:Zv ["thing","most","size"] ["thing","most","size"] (Zb (top 39)):=⟨rfl,rfl,rfl,by decide +kernel,rfl,by decide +kernel,by decide +kernel⟩
theorem C0{size:Int}{x:T}(h:pairOk size x=true):∃y r,x=.tup (.str y::r):=by
 unfold pairOk at h
 rw[Bool.and_eq_true] at h
 obtain⟨a,b,rfl⟩:=row2 h.1
 have q:=h.2
 simp only[Bool.and_eq_true] at q
 cases a with
 |str y=>exact⟨y,[b],rfl⟩
 |_=>cases q.1
theorem Z3(f:T->Bool)(ts:List T):Hs (ts.filterMap fun t=>some (.bl (f t)))=some (ts.map f):=by
 induction ts with
 |nil=>rfl
 |cons t r ih =>
  show Hs (.bl (f t)::r.filterMap fun t=>some (.bl (f t)))=_
  unfold Hs
  rw[ih]
  rfl
theorem Ft(f:T->Bool){ts:List T}{S:TH}{P:UX}(h:P (.bl (ts.all f)) S):Fw [.lst (ts.filterMap fun t=>some (.bl (f t)))] S P:=by
 unfold Fw
 simp only[Z3]
 rw[List.all_map]
 exact h
theorem Fx(ts:List T):(Xn ts).length<=ts.length:=List.length_filterMap_le _ _
theorem are_holdings{m:Nat}(N:Nm P w K mg)(d:Aa K mg "are_holdings" ["thing","most","size"] (top 39))(c_is_tuple_of:Has P w K mg base m "is_tuple_of" ["thing","fewest","most"] Lu)(c_is_holding:Has P w K mg base m "is_holding" ["thing","size"] Ms)(c_names_of:Has P w K mg base m "names_of" ["things"] Es)(c_are_unlike:Has P w K mg base m "are_unlike" ["names"] Hc):Has P w K mg base (m+1) "are_holdings" ["thing","most","size"] Fz:=by
 have sc:=Nc
 refine Ab (k:=m) d sc (fun ts S Pp h=>?_) fun cdv f A outer s H E hr=>?_
 ·obtain⟨x,most,size,rfl,_⟩:=h;rfl
 refine⟨_,(Zs (Zg (Ap (Xe (Zf c_is_tuple_of hr rfl (Zc (uv 0) (Zc Zi (Zc (uv 1) Zn)))))) (Zo (Zr Cj)) Ze)
   (Zo (Zr (Ch (D2 rfl rfl N.all (Zc (Xg 0 ["pair","size"] [none,some 2] rfl (Xu (uv 0)) (fun _ _ _ _ _=>Ah) (fun _ _ _ _ _=>(Zf c_is_holding hr rfl (Zc (uv 0) (Zc (uv 1) Zn))))) Zn)) (D4 (Zf c_are_unlike hr rfl (Zc (Zf c_names_of hr rfl (Zc (uv 0) Zn)) Zn))))))),fun ts S Pp h=>?_⟩
 obtain⟨x,most,size,rfl,px,hm,h⟩:=h
 unfold Bf at h
 refine⟨x,0,most,rfl,px,?_⟩
 cases e:Ak 0 most x with
 |false=>rw[e,Bool.false_and] at h;exact yes_ rfl h
 |true =>
  obtain⟨ts,rfl,l0,l1⟩:=B3 e
  rw[e,Bool.true_and] at h
  refine no_ rfl ?_
  refine Bs (ts:=ts) (f:=fun t=>some (.bl (pairOk size t))) (fun k hk=>hk) (Xp (by omega)) (fun y hy A B hA hB=>⟨fun _=>⟨y,size,rfl,Ax px y hy,hA _ rfl⟩,fun e=>(by cases e)⟩) ?_
  dsimp only [Cu]
  refine Ft (pairOk size) ?_
  have h:Pp (.bl (ts.all (pairOk size)&&decide (Xn ts).Nodup)) S:=h
  cases ea:ts.all (pairOk size) with
  |false=>rw[ea,Bool.false_and] at h;exact no_ rfl h
  |true =>
   rw[ea,Bool.true_and] at h
   have all:=List.all_eq_true.mp ea
   exact yes_ rfl ⟨ts,rfl,by omega,fun y hy=>C0 (all y hy),Xn ts,rfl,Nat.le_trans (Fx ts) (by omega),h⟩
def Um:List T->TH->UX->Prop:=fun ts S Pp=>∃x bs,ts=[x,.lst (bs.map T.str)]/\Pl x/\bs.length<=900/\Pp (.bl (Cv bs x)) S
theorem Wk:Zv ["thing","box_names"] ["thing","box_names"] (Zb (top 41)):=⟨rfl,rfl,rfl,by decide +kernel,rfl,by decide +kernel,by decide +kernel⟩
theorem Kt:∀{ts:List T},(∀t∈ts,isName t=true)->ts=(Bg ts).map T.str
 |[],_=>rfl
 |t::r,h=>by
  have h0:=h t List.mem_cons_self
  have ih:=Kt (ts:=r) fun z hz=>h z (List.mem_cons_of_mem _ hz)
  cases t with
  |str x =>
   show T.str x::r=T.str x::(Bg r).map T.str
   rw[<-ih]
  |_=>cases h0
theorem Wa(ts:List T):(Bg ts).length<=ts.length:=List.length_filterMap_le _ _
theorem are_locks{m:Nat}(N:Nm P w K mg)(d:Aa K mg "are_locks" ["thing","box_names"] (top 41))(c_is_tuple_of:Has P w K mg base m "is_tuple_of" ["thing","fewest","most"] Lu)(c_is_name:Has P w K mg base m "is_name" ["thing"] L3)(c_are_unlike:Has P w K mg base m "are_unlike" ["names"] Hc):Has P w K mg base (m+1) "are_locks" ["thing","box_names"] Um:=by
 have sc:=Wk
 refine Ab (k:=m) d sc (fun ts S Pp h=>?_) fun cdv f A outer s H E hr=>?_
 ·obtain⟨x,bs,rfl,_⟩:=h;rfl
 refine⟨_,(Zs (Zg (Ap (Xe (Zf c_is_tuple_of hr rfl (Zc (uv 0) (Zc Zi (Zc (A1 rfl N.MOST_LOCKS) Zn)))))) (Zo (Zr Cj)) Ze)
   (Zo (Zr (Ch (D2 rfl rfl N.all (Zc (Xg 0 ["lock"] [none] rfl (Xu (uv 0)) (fun _ _ _ _ _=>Ah) (fun _ _ _ _ _=>(Zf c_is_name hr rfl (Zc (uv 0) Zn)))) Zn)) (D4 (Zf c_are_unlike hr rfl (Zc (Zp (uv 1) (Ql rfl N.list (Zc (uv 0) Zn))) Zn))))))),fun ts S Pp h=>?_⟩
 obtain⟨x,bs,rfl,px,hb,h⟩:=h
 unfold Cv at h
 refine⟨x,0,4,rfl,px,?_⟩
 cases e:Ak 0 4 x with
 |false=>rw[e,Bool.false_and] at h;exact yes_ rfl h
 |true =>
  obtain⟨ts,rfl,l0,l1⟩:=B3 e
  rw[e,Bool.true_and] at h
  refine no_ rfl ?_
  refine Bs (ts:=ts) (f:=fun t=>some (.bl (isName t))) (fun k hk=>hk) (Xp (by omega)) (fun y hy A B hA hB=>⟨fun _=>⟨y,rfl,Ax px y hy,hA _ rfl⟩,fun e=>(by cases e)⟩) ?_
  dsimp only [Cu]
  refine Ft isName ?_
  have h:Pp (.bl (ts.all isName&&decide (bs++Bg ts).Nodup)) S:=h
  cases ea:ts.all isName with
  |false=>rw[ea,Bool.false_and] at h;exact no_ rfl h
  |true =>
   rw[ea,Bool.true_and] at h
   have es:=Kt (List.all_eq_true.mp ea)
   have ls:=Wa ts
   refine yes_ rfl ⟨?_,bs++Bg ts,?_,?_,h⟩
   ·rw[List.length_map];exact Xp (by omega)
   ·rw[List.map_append,<-es]
   ·rw[List.length_append];omega
def Mb:List T->TH->UX->Prop:=fun ts S Pp=>∃x size,ts=[x,.int size]/\Pl x/\Pp (.bl (progOk size x)) S
theorem Qs:Zv ["thing","size"] ["thing","size"] (Zb (top 43)):=⟨rfl,rfl,rfl,by decide +kernel,rfl,by decide +kernel,by decide +kernel⟩
theorem is_program{m:Nat}(N:Nm P w K mg)(d:Aa K mg "is_program" ["thing","size"] (top 43))(c_is_tuple_of:Has P w K mg base m "is_tuple_of" ["thing","fewest","most"] Lu)(c_is_name:Has P w K mg base m "is_name" ["thing"] L3)(c_are_holdings:Has P w K mg base m "are_holdings" ["thing","most","size"] Fz):Has P w K mg base (m+1) "is_program" ["thing","size"] Mb:=by
 have sc:=Qs
 refine Ab (k:=m) d sc (fun ts S Pp h=>?_) fun cdv f A outer s H E hr=>?_
 ·obtain⟨x,size,rfl,_⟩:=h;rfl
 refine⟨_,(Zs (Zg (Ap (Xe (Zf c_is_tuple_of hr rfl (Zc (uv 0) (Ar (Cs.i (Cs.i Cs.nil))))))) (Zo (Zr Cj)) Ze)
   (Zo (Zr (Ch (Zf c_is_name hr rfl (Zc (Zx (uv 0) Zi) Zn)) (Ch (Zf c_are_holdings hr rfl (Zc (Zx (uv 0) Zi) (Zc (A1 rfl N.MOST_OWNS) (Zc (uv 1) Zn)))) (D4 (Zf c_is_tuple_of hr rfl (Zc (Zx (uv 0) Zi) (Zc Zi (Zc (A1 rfl N.MOST_STEPS) Zn)))))))))),fun ts S Pp h=>?_⟩
 obtain⟨x,size,rfl,px,h⟩:=h
 unfold progOk at h
 refine⟨x,3,3,rfl,px,?_⟩
 cases e:Ak 3 3 x with
 |false=>rw[e,Bool.false_and] at h;exact yes_ rfl h
 |true =>
  obtain⟨a,b,c,rfl⟩:=row3 e
  rw[e,Bool.true_and] at h
  have h:Pp (.bl (isName a&&(Bf 4 size b&&Ak 0 30 c))) S:=h
  have pa:=Ax px a (by simp)
  have pb:=Ax px b (by simp)
  have pc:=Ax px c (by simp)
  refine no_ rfl ⟨_,Xb (j:=0) rfl,a,rfl,pa,?_⟩
  cases ea:isName a with
  |false=>rw[ea] at h;exact no_ rfl h
  |true =>
   rw[ea] at h
   refine yes_ rfl ⟨_,Xb (j:=1) rfl,b,4,size,rfl,pb,by decide,?_⟩
   have h:Pp (.bl (Bf 4 size b&&Ak 0 30 c)) S:=h
   cases eb:Bf 4 size b with
   |false=>rw[eb] at h;exact no_ rfl h
   |true=>rw[eb] at h;exact yes_ rfl ⟨_,Xb (j:=2) rfl,c,0,30,rfl,pc,h⟩
def Jn:List T->TH->UX->Prop:=fun ts S Pp=>∃x size,ts=[x,.int size]/\Pl x/\Pp (.bl (Co size x)) S
theorem Nj:Zv ["thing","size"] ["thing","size"] (Zb (top 42)):=⟨rfl,rfl,rfl,by decide +kernel,rfl,by decide +kernel,by decide +kernel⟩
theorem Qz{size:Int}{x:T}(h:progOk size x=true):∃y r,x=.tup (.str y::r):=by
 unfold progOk at h
 rw[Bool.and_eq_true] at h
 obtain⟨a,b,c,rfl⟩:=row3 h.1
 have q:=h.2
 simp only[Bool.and_eq_true] at q
 cases a with
 |str y=>exact⟨y,[b,c],rfl⟩
 |_=>cases q.1
theorem are_programs{m:Nat}(N:Nm P w K mg)(d:Aa K mg "are_programs" ["thing","size"] (top 42))(c_is_tuple_of:Has P w K mg base m "is_tuple_of" ["thing","fewest","most"] Lu)(c_is_program:Has P w K mg base m "is_program" ["thing","size"] Mb)(c_names_of:Has P w K mg base m "names_of" ["things"] Es)(c_are_unlike:Has P w K mg base m "are_unlike" ["names"] Hc):Has P w K mg base (m+1) "are_programs" ["thing","size"] Jn:=by
 have sc:=Nj
 refine Ab (k:=m) d sc (fun ts S Pp h=>?_) fun cdv f A outer s H E hr=>?_
 ·obtain⟨x,size,rfl,_⟩:=h;rfl
 refine⟨_,(Zs (Zg (Ap (Xe (Zf c_is_tuple_of hr rfl (Zc (uv 0) (Zc Zi (Zc (A1 rfl N.MOST_PROGRAMS) Zn)))))) (Zo (Zr Cj)) Ze)
   (Zo (Zr (Ch (D2 rfl rfl N.all (Zc (Xg 0 ["program","size"] [none,some 1] rfl (Xu (uv 0)) (fun _ _ _ _ _=>Ah) (fun _ _ _ _ _=>(Zf c_is_program hr rfl (Zc (uv 0) (Zc (uv 1) Zn))))) Zn)) (D4 (Zf c_are_unlike hr rfl (Zc (Zf c_names_of hr rfl (Zc (uv 0) Zn)) Zn))))))),fun ts S Pp h=>?_⟩
 obtain⟨x,size,rfl,px,h⟩:=h
 unfold Co at h
 refine⟨x,1,4,rfl,px,?_⟩
 cases e:Ak 1 4 x with
 |false=>rw[e,Bool.false_and] at h;exact yes_ rfl h
 |true =>
  obtain⟨ts,rfl,l0,l1⟩:=B3 e
  rw[e,Bool.true_and] at h
  refine no_ rfl ?_
  refine Bs (ts:=ts) (f:=fun t=>some (.bl (progOk size t))) (fun k hk=>hk) (Xp (by omega)) (fun y hy A B hA hB=>⟨fun _=>⟨y,size,rfl,Ax px y hy,hA _ rfl⟩,fun e=>(by cases e)⟩) ?_
  dsimp only [Cu]
  refine Ft (progOk size) ?_
  have h:Pp (.bl (ts.all (progOk size)&&decide (Xn ts).Nodup)) S:=h
  cases ea:ts.all (progOk size) with
  |false=>rw[ea,Bool.false_and] at h;exact no_ rfl h
  |true =>
   rw[ea,Bool.true_and] at h
   have all:=List.all_eq_true.mp ea
   exact yes_ rfl ⟨ts,rfl,by omega,fun y hy=>Qz (all y hy),Xn ts,rfl,Nat.le_trans (Fx ts) (by omega),h⟩
def Mp:List T->TH->UX->Prop:=fun ts S Pp=>∃x n,ts=[x,.int n]/\Pl x/\Pp (.bl (Cq n x)) S
theorem Qu:Zv ["thing","many_programs"] ["thing","many_programs"] (Zb (top 44)):=⟨rfl,rfl,rfl,by decide +kernel,rfl,by decide +kernel,by decide +kernel⟩
theorem are_workers{m:Nat}(N:Nm P w K mg)(d:Aa K mg "are_workers" ["thing","many_programs"] (top 44))(c_is_tuple_of:Has P w K mg base m "is_tuple_of" ["thing","fewest","most"] Lu)(c_is_number:Has P w K mg base m "is_number" ["thing","least","greatest"] Dk):Has P w K mg base (m+1) "are_workers" ["thing","many_programs"] Mp:=by
 have sc:=Qu
 refine Ab (k:=m) d sc (fun ts S Pp h=>?_) fun cdv f A outer s H E hr=>?_
 ·obtain⟨x,n,rfl,_⟩:=h;rfl
 refine⟨_,(Zs (Zg (Ap (Xe (Zf c_is_tuple_of hr rfl (Zc (uv 0) (Zc Zi (Zc (A1 rfl N.MOST_WORKERS) Zn)))))) (Zo (Zr Cj)) Ze)
   (Zo (Zr (D2 rfl rfl N.all (Zc (Xg 0 ["worker","many_programs"] [none,some 1] rfl (Xu (uv 0)) (fun _ _ _ _ _=>Ah) (fun _ _ _ _ _=>(Zf c_is_number hr rfl (Zc (uv 0) (Zc Zi (Zc (Cf (uv 1) Zi) Zn)))))) Zn))))),fun ts S Pp h=>?_⟩
 obtain⟨x,n,rfl,px,h⟩:=h
 unfold Cq at h
 refine⟨x,1,6,rfl,px,?_⟩
 cases e:Ak 1 6 x with
 |false=>rw[e,Bool.false_and] at h;exact yes_ rfl h
 |true =>
  obtain⟨ts,rfl,l0,l1⟩:=B3 e
  rw[e,Bool.true_and] at h
  refine no_ rfl ?_
  refine Bs (ts:=ts) (f:=fun t=>some (.bl (Bq 0 (n - 1) t))) (fun k hk=>hk) (Xp (by omega)) (fun y hy A B hA hB=>⟨fun _=>⟨y,0,n - 1,rfl,Ax px y hy,hA _ rfl⟩,fun e=>(by cases e)⟩) ?_
  dsimp only [Cu]
  exact Ft (Bq 0 (n - 1)) h
end
end K14
end
section
namespace K14
open PySem PySem.Spec PyProof.Rows L2 TL
seal UE UT UA US USs UI UG UO UW PTs Ag A8
section
variable{P:Program}{w:World}{K:PySem.W.Frag}{mg:Str->Option Value}{base:Heap}
theorem Hw{most size:Int}{x:T}(h:Bf most size x=true):∃ts,x=.tup ts/\(ts.length:Int)<=most/\(∀t∈ts,pairOk size t=true)/\(Xn ts).Nodup:=by
 unfold Bf at h
 rw[Bool.and_eq_true,Bool.and_eq_true] at h
 obtain⟨ts,rfl,_,l1⟩:=B3 h.1
 exact⟨ts,rfl,l1,List.all_eq_true.mp h.2.1,of_decide_eq_true h.2.2⟩
theorem Vt{bs:List Str}{x:T}(h:Cv bs x=true):∃ts,x=.tup ts/\(ts.length:Int)<=4/\ts=(Bg ts).map T.str:=by
 unfold Cv at h
 rw[Bool.and_eq_true,Bool.and_eq_true] at h
 obtain⟨ts,rfl,_,l1⟩:=B3 h.1
 exact⟨ts,rfl,l1,Kt (List.all_eq_true.mp h.2.1)⟩
theorem Ke{size:Int}{x:T}(h:Co size x=true):∃ts,x=.tup ts/\(ts.length:Int)<=4/\∀t∈ts,progOk size t=true:=by
 unfold Co at h
 rw[Bool.and_eq_true,Bool.and_eq_true] at h
 obtain⟨ts,rfl,_,l1⟩:=B3 h.1
 exact⟨ts,rfl,l1,List.all_eq_true.mp h.2.1⟩
theorem T6{size:Int}{x:T}(h:progOk size x=true):∃n o s,x=.tup [.str n,o,s]/\Bf 4 size o=true/\Ak 0 30 s=true:=by
 unfold progOk at h
 rw[Bool.and_eq_true] at h
 obtain⟨a,b,c,rfl⟩:=row3 h.1
 have q:=h.2
 simp only[Bool.and_eq_true] at q
 cases a with
 |str y=>exact⟨y,b,c,rfl,q.2.1,q.2.2⟩
 |_=>cases q.1
theorem Lp:∀{ts:List T} {k i:Nat} {x:T},(D7 k ts)[i]?=some x->∃t,ts[i]?=some t/\x=.tup [.int ((k+i:Nat):Int),t]
 |[],_,_,_,h=>by simp[D7] at h
 |u::r,k,0,x,h=>by simp[D7] at h;exact⟨u,rfl,h.symm⟩
 |u::r,k,i+1,x,h=>by
  have h:(D7 (k+1) r)[i]?=some x:=h
  obtain⟨t,e1,e2⟩:=Lp h
  exact⟨t,e1,by rw[e2];congr 4;omega⟩
theorem Ye:Zv ["size","boxes","locks","programs","workers","claims"] ["size","boxes","locks","programs","workers","claims"] (Zb (top 35)):=⟨rfl,rfl,rfl,by decide +kernel,rfl,by decide +kernel,by decide +kernel⟩
theorem Ng:Zv ["programs","box_names","locks","name","owns","steps","own_names","place","step"] ["programs","box_names","locks"] (Zb (top 45)):=⟨rfl,rfl,rfl,by decide +kernel,rfl,by decide +kernel,by decide +kernel⟩
theorem Mh:Zv ["claims","box_names","place","claim"] ["claims","box_names"] (Zb (top 46)):=⟨rfl,rfl,rfl,by decide +kernel,rfl,by decide +kernel,by decide +kernel⟩
theorem We:Zv ["size","boxes","locks","programs","workers","claims"] ["size","boxes","locks","programs","workers","claims"] (Zb (top 34)):=⟨rfl,rfl,rfl,by decide +kernel,rfl,by decide +kernel,by decide +kernel⟩
end
end K14
end
section
namespace K14
open PySem PySem.Spec PyProof.Rows L2 TL
seal UE UT UA US USs UI UG UO UW PTs Ag A8 UEX UV UVs UJ
section
variable{P:Program}{w:World}{K:PySem.W.Frag}{mg:Str->Option Value}{base:Heap}
def Gq(C:Addr):List T->TH->UX->UR->Prop:=fun ts S Pp R=>∃cs bs,ts=[.tup cs,.lst (bs.map T.str)]/\cs.length<=1000/\(∀t∈cs,Pl t)/\((∀t∈cs,valOk 5 [] bs t=true)->Pp .non S)/\((∃t∈cs,valOk 5 [] bs t=false)->R (.ref C) S)
theorem Mo{m:Nat}(N:Nm P w K mg)(d:Aa K mg "ask_claims" ["claims","box_names"] (top 46))(c_is_value:Has P w K mg base m "is_value" ["thing","owns","boxes"] Ny):Ep P w K mg base (m+1) "ask_claims" ["claims","box_names"] (Gq (cAt mg "NoClaim")):=by
 have sc:=Mh
 refine Ff (k:=m) d sc (fun ts S Pp R h=>?_) fun cdv f A outer s H E S0 R hr hw=>?_
 ·obtain⟨cs,bs,rfl,_⟩:=h;rfl
 refine⟨_,(As (Nu PassesOwn.leaving rfl (Qd rfl N.enumerate (Zc (uv 0) Zn)) (Qj 2 3 rfl sc.nd) (As (Fk (Ap (Xe (Zf c_is_value hr rfl (Zc (uv 3) (Zc (Am Zn) (Zc (uv 1) Zn)))))) (As (Bj rfl rfl (B4 fun _ _ _ z=>z) hw rfl N.NoClaim_at N.NoClaim_ok PySem.F.excBase_ValueError rfl PySem.F.excBase_ValueError (Zc (Kb (Df Zq (Df (Nq (uv 2)) (Df Zq V3)))) Zn))) B2)))),fun ts Pp h=>?_⟩
 obtain⟨cs,bs,rfl,hl,hc,h1,h2⟩:=h
 refine⟨fun k env S=>S0=S/\(∃e2 e3,env=[some (.tup cs),some (.lst (bs.map T.str)),e2,e3])/\∀(i:Nat) t,i<k->cs[i]?=some t->valOk 5 [] bs t=true,⟨rfl,⟨_,_,rfl⟩,fun i t hi _=>by omega⟩,?_,?_⟩
 ·rintro k x env S ek ⟨rfl,⟨e2,e3,rfl⟩,hk⟩
  obtain⟨t,et,rfl⟩:=Lp ek
  have pt:=hc t (List.mem_of_getElem? et)
  refine⟨show 0<=sizeLine by decide,t,[],bs,rfl,pt,?_⟩
  cases hv:valOk 5 [] bs t with
  |true =>
   refine no_ rfl ⟨rfl,⟨_,_,rfl⟩,fun i u hi eu=>?_⟩
   by_cases e:i=k
   ·subst e;rw[et] at eu;cases eu;exact hv
   ·exact hk i u (by omega) eu
  |false =>
   refine yes_ rfl ?_
   have hlt:k<1000:=Nat.lt_of_lt_of_le (List.getElem?_eq_some_iff.mp et).1 hl
   have hlog:(((0+k:Nat):Int)).natAbs.log2<1920:=by
    rw[Int.natAbs_natCast]
    have:(0+k).log2<=0+k:=Nat.log2_le_self _
    omega
   exact⟨_,rfl,100,by decide,by decide,hlog,_,rfl,1921,int_text_len_1921 hlog,by decide,_,rfl,100,by decide,by decide,by decide,fun out=>⟨show 1<=sizeLine by decide,h2 ⟨t,List.mem_of_getElem? et,hv⟩⟩⟩
 ·rintro env S ⟨rfl,⟨e2,e3,rfl⟩,hk⟩
  refine h1 fun t ht=>?_
  obtain⟨i,ei⟩:=List.mem_iff_getElem?.mp ht
  exact hk i t (by rw[C5];exact(List.getElem?_eq_some_iff.mp ei).1) ei
def E6(size:Int)(b l p wk c:T):Bool:=Bf 8 size b&&(Cv (Xn (items b)) l&&(Co size p&&(Cq (items p).length wk&&Ak 0 4 c)))
def formed(x b l p wk c:T):Bool:=match x with
 | .int size=>Bq 2 16 (.int size)&&E6 size b l p wk c
 |_=>false
def P2(C:Addr):List T->TH->UX->UR->Prop:=fun ts S Pp R=>∃x b l p wk c,ts=[x,b,l,p,wk,c]/\Pl x/\Pl b/\Pl l/\Pl p/\Pl wk/\Pl c/\(formed x b l p wk c=true->Pp .non S)/\(formed x b l p wk c=false->R (.ref C) S)
theorem Oz{m:Nat}(N:Nm P w K mg)(d:Aa K mg "ask_parts" ["size","boxes","locks","programs","workers","claims"] (top 35))(c_is_number:Has P w K mg base m "is_number" ["thing","least","greatest"] Dk)(c_are_holdings:Has P w K mg base m "are_holdings" ["thing","most","size"] Fz)(c_names_of:Has P w K mg base m "names_of" ["things"] Es)(c_are_locks:Has P w K mg base m "are_locks" ["thing","box_names"] Um)(c_are_programs:Has P w K mg base m "are_programs" ["thing","size"] Jn)(c_are_workers:Has P w K mg base m "are_workers" ["thing","many_programs"] Mp)(c_is_tuple_of:Has P w K mg base m "is_tuple_of" ["thing","fewest","most"] Lu):Ep P w K mg base (m+1) "ask_parts" ["size","boxes","locks","programs","workers","claims"] (P2 (cAt mg "NoLoom")):=by
 have sc:=Ye
 refine Ff (k:=m) d sc (fun ts S Pp R h=>?_) fun cdv f A outer s H E S0 R hr hw=>?_
 ·obtain⟨x,b,l,p,wk,c,rfl,_⟩:=h;rfl
 refine⟨_,(Ai (Fk (Ap (Xe (Zf c_is_number hr rfl (Zc (uv 0) (Zc (A1 rfl N.LEAST_SIZE) (Zc (A1 rfl N.GREATEST_SIZE) Zn)))))) (As (Bj rfl rfl (B4 fun _ _ _ z=>z) hw rfl N.NoLoom_at N.NoLoom_ok PySem.F.excBase_ValueError rfl PySem.F.excBase_ValueError (Zc Zq Zn))) B2)
   (Ai (Fk (Ap (Xe (Zf c_are_holdings hr rfl (Zc (uv 1) (Zc (A1 rfl N.MOST_BOXES) (Zc (uv 0) Zn)))))) (As (Bj rfl rfl (B4 fun _ _ _ z=>z) hw rfl N.NoLoom_at N.NoLoom_ok PySem.F.excBase_ValueError rfl PySem.F.excBase_ValueError (Zc Zq Zn))) B2)
   (Ai (Fk (Ap (Xe (Zf c_are_locks hr rfl (Zc (uv 2) (Zc (Zf c_names_of hr rfl (Zc (uv 1) Zn)) Zn))))) (As (Bj rfl rfl (B4 fun _ _ _ z=>z) hw rfl N.NoLoom_at N.NoLoom_ok PySem.F.excBase_ValueError rfl PySem.F.excBase_ValueError (Zc Zq Zn))) B2)
   (Ai (Fk (Ap (Xe (Zf c_are_programs hr rfl (Zc (uv 3) (Zc (uv 0) Zn))))) (As (Bj rfl rfl (B4 fun _ _ _ z=>z) hw rfl N.NoLoom_at N.NoLoom_ok PySem.F.excBase_ValueError rfl PySem.F.excBase_ValueError (Zc Zq Zn))) B2)
   (Ai (Fk (Ap (Xe (Zf c_are_workers hr rfl (Zc (uv 4) (Zc (Zl rfl N.len (Zc (uv 3) Zn)) Zn))))) (As (Bj rfl rfl (B4 fun _ _ _ z=>z) hw rfl N.NoLoom_at N.NoLoom_ok PySem.F.excBase_ValueError rfl PySem.F.excBase_ValueError (Zc Zq Zn))) B2)
   (As (Fk (Ap (Xe (Zf c_is_tuple_of hr rfl (Zc (uv 5) (Zc Zi (Zc (A1 rfl N.MOST_CLAIMS) Zn)))))) (As (Bj rfl rfl (B4 fun _ _ _ z=>z) hw rfl N.NoLoom_at N.NoLoom_ok PySem.F.excBase_ValueError rfl PySem.F.excBase_ValueError (Zc Zq Zn))) B2))))))),fun ts Pp h=>?_⟩
 obtain⟨x,b,l,p,wk,c,rfl,px,pb,pl,pp,pw,pc,h1,h2⟩:=h
 have one:1<=sizeLine:=by decide
 refine Zj (fun env S'=>env=[some x,some b,some l,some p,some wk,some c]/\S0=S'/\Bq 2 16 x=true) (fun k hk=>⟨x,2,16,rfl,px,?_⟩) ?_
 ·cases e:Bq 2 16 x with
  |true=>exact no_ rfl (hk _ _ ⟨rfl,rfl,e⟩)
  |false=>exact yes_ rfl ⟨one,h2 (by cases x <;> first|rfl|(unfold formed;dsimp only;rw[e];rfl))⟩
 rintro _ _ ⟨rfl,rfl,en⟩
 obtain⟨size,rfl⟩:∃size,x=.int size:=by cases x <;> first|exact⟨_,rfl⟩|cases en
 have hf:formed (.int size) b l p wk c=E6 size b l p wk c:=by unfold formed;dsimp only;rw[en];rfl
 rw[hf] at h1 h2
 unfold E6 at h1 h2
 refine Zj (fun env S'=>env=[some (.int size),some b,some l,some p,some wk,some c]/\S0=S'/\Bf 8 size b=true) (fun k hk=>⟨b,8,size,rfl,pb,by decide,?_⟩) ?_
 ·cases e:Bf 8 size b with
  |true=>exact no_ rfl (hk _ _ ⟨rfl,rfl,e⟩)
  |false=>exact yes_ rfl ⟨one,h2 (by rw[e];rfl)⟩
 rintro _ _ ⟨rfl,rfl,eb⟩
 rw[eb,Bool.true_and] at h1 h2
 obtain⟨bs,rfl,lb,hb,_⟩:=Hw eb
 refine Zj (fun env S'=>env=[some (.int size),some (.tup bs),some l,some p,some wk,some c]/\S0=S'/\Cv (Xn (items (.tup bs))) l=true) (fun k hk=>⟨bs,rfl,by omega,fun y hy=>C0 (hb y hy),l,_,rfl,pl,?_,?_⟩) ?_
 ·have:=Fx bs;omega
 ·cases e:Cv (Xn (items (.tup bs))) l with
  |true=>exact no_ (by rw[show Cv (Xn bs) l=true from e];rfl) (hk _ _ ⟨rfl,rfl,e⟩)
  |false=>exact yes_ (by rw[show Cv (Xn bs) l=false from e];rfl) ⟨one,h2 (by rw[e];rfl)⟩
 rintro _ _ ⟨rfl,rfl,el⟩
 rw[el,Bool.true_and] at h1 h2
 refine Zj (fun env S'=>env=[some (.int size),some (.tup bs),some l,some p,some wk,some c]/\S0=S'/\Co size p=true) (fun k hk=>⟨p,size,rfl,pp,?_⟩) ?_
 ·cases e:Co size p with
  |true=>exact no_ rfl (hk _ _ ⟨rfl,rfl,e⟩)
  |false=>exact yes_ rfl ⟨one,h2 (by rw[e];rfl)⟩
 rintro _ _ ⟨rfl,rfl,ep⟩
 rw[ep,Bool.true_and] at h1 h2
 obtain⟨ps,rfl,_,_⟩:=Ke ep
 refine Zj (fun env S'=>env=[some (.int size),some (.tup bs),some l,some (.tup ps),some wk,some c]/\S0=S'/\Cq (items (.tup ps)).length wk=true) (fun k hk=>⟨wk,(ps.length:Int),rfl,pw,?_⟩) ?_
 ·cases e:Cq (items (.tup ps)).length wk with
  |true=>exact no_ (by rw[show Cq ps.length wk=true from e];rfl) (hk _ _ ⟨rfl,rfl,e⟩)
  |false=>exact yes_ (by rw[show Cq ps.length wk=false from e];rfl) ⟨one,h2 (by rw[e];rfl)⟩
 rintro _ _ ⟨rfl,rfl,ew⟩
 rw[ew,Bool.true_and] at h1 h2
 refine⟨c,0,4,rfl,pc,?_⟩
 cases e:Ak 0 4 c with
 |true=>exact no_ rfl (h1 e)
 |false=>exact yes_ rfl ⟨one,h2 e⟩
def StepsAll(bs ls:List Str)(ps:List T):Prop:=∀n os ss,T.tup [n,.tup os,.tup ss]∈ps->∀(k:Nat) t,ss[k]?=some t->stepOk (Xn os) bs ls ((ss.length:Int) - (k:Int) - 1) t=true
def Ik(C:Addr):List T->TH->UX->UR->Prop:=fun ts S Pp R=>∃ps bs ls,ts=[.tup ps,.lst (bs.map T.str),.lst (ls.map T.str)]/\(∀x∈ps,∃n os ss,x=.tup [.str n,.tup os,.tup ss]/\n.length<=100/\os.length<=1000/\ss.length<=1000/\(∀y∈os,∃z r,y=.tup (.str z::r))/\∀t∈ss,Pl t)/\(StepsAll bs ls ps->Pp .non S)/\(¬ StepsAll bs ls ps->R (.ref C) S)
theorem N0{m:Nat}(N:Nm P w K mg)(d:Aa K mg "ask_steps" ["programs","box_names","locks"] (top 45))(c_names_of:Has P w K mg base m "names_of" ["things"] Es)(c_is_step:Has P w K mg base m "is_step" ["thing","owns","boxes","locks","behind"] Aak):Ep P w K mg base (m+1) "ask_steps" ["programs","box_names","locks"] (Ik (cAt mg "NoStep")):=by
 have sc:=Ng
 refine Ff (k:=m) d sc (fun ts S Pp R h=>?_) fun cdv f A outer s H E S0 R hr hw=>?_
 ·obtain⟨ps,bs,ls,rfl,_⟩:=h;rfl
 refine⟨_,(As (Nu PassesOwn.leaving rfl (Xu (uv 0)) (F7 3 4 5 rfl sc.nd) (Ai (US.x (Zt 6 sc.nd (Zf c_names_of hr rfl (Zc (uv 4) Zn))))
   (As (Nu PassesOwn.leaving rfl (Qd rfl N.enumerate (Zc (uv 5) Zn)) (Qj 7 8 rfl sc.nd) (As (Fk (Ap (Xe (Zf c_is_step hr rfl (Zc (uv 8) (Zc (uv 6) (Zc (uv 1) (Zc (uv 2) (Zc (Cf (Cf (Zl rfl N.len (Zc (uv 5) Zn)) (uv 7)) Zi) Zn)))))))) (As (Bj rfl rfl (B4 fun _ _ _ z=>z) hw rfl N.NoStep_at N.NoStep_ok PySem.F.excBase_ValueError rfl PySem.F.excBase_ValueError (Zc (Kb (Df Zq (Df (Nq (uv 3)) (Df Zq (Df (Nq (uv 7)) V3))))) Zn))) B2))))))),fun ts Pp h=>?_⟩
 obtain⟨ps,bs,ls,rfl,hp,h1,h2⟩:=h
 refine⟨fun k env S=>S0=S/\(∃e3 e4 e5 e6 e7 e8,env=[some (.tup ps),some (.lst (bs.map T.str)),some (.lst (ls.map T.str)),e3,e4,e5,e6,e7,e8])/\∀(i:Nat) n os ss,i<k->ps[i]?=some (.tup [n,.tup os,.tup ss])->∀(j:Nat) t,ss[j]?=some t->stepOk (Xn os) bs ls ((ss.length:Int) - (j:Int) - 1) t=true,⟨rfl,⟨_,_,_,_,_,_,rfl⟩,fun i _ _ _ hi=>by omega⟩,?_,?_⟩
 ·rintro k x env S ek ⟨rfl,⟨e3,e4,e5,e6,e7,e8,rfl⟩,hk0⟩
  obtain⟨n,os,ss,rfl,ln,lo,lss,hos,hss⟩:=hp x (List.mem_of_getElem? ek)
  refine Zj (fun env S=>S0=S/\env=[some (.tup ps),some (.lst (bs.map T.str)),some (.lst (ls.map T.str)),some (.str n),some (.tup os),some (.tup ss),some (.lst ((Xn os).map T.str)),e7,e8]) (fun k hk=>⟨os,rfl,lo,hos,hk _ _ ⟨rfl,rfl⟩⟩) ?_
  rintro _ _ ⟨rfl,rfl⟩
  refine⟨fun j env S=>S0=S/\(∃e7 e8,env=[some (.tup ps),some (.lst (bs.map T.str)),some (.lst (ls.map T.str)),some (.str n),some (.tup os),some (.tup ss),some (.lst ((Xn os).map T.str)),e7,e8])/\∀(i:Nat) t,i<j->ss[i]?=some t->stepOk (Xn os) bs ls ((ss.length:Int) - (i:Int) - 1) t=true,⟨rfl,⟨_,_,rfl⟩,fun i _ hi=>by omega⟩,?_,?_⟩
  ·rintro j y env S ej ⟨rfl,⟨e7,e8,rfl⟩,hj⟩
   obtain⟨t,et,rfl⟩:=Lp ej
   have pt:=hss t (List.mem_of_getElem? et)
   refine⟨t,Xn os,bs,ls,(ss.length:Int) - ((0+j:Nat):Int) - 1,rfl,pt,?_⟩
   rw[Nat.zero_add]
   cases hv:stepOk (Xn os) bs ls ((ss.length:Int) - (j:Int) - 1) t with
   |true =>
    refine no_ rfl ⟨rfl,⟨_,_,rfl⟩,fun i u hi eu=>?_⟩
    by_cases e:i=j
    ·subst e;rw[et] at eu;cases eu;exact hv
    ·exact hj i u (by omega) eu
   |false =>
    refine yes_ rfl ?_
    have hlt:j<1000:=Nat.lt_of_lt_of_le (List.getElem?_eq_some_iff.mp et).1 lss
    have hlog:((j:Int)).natAbs.log2<1920:=by
     rw[Int.natAbs_natCast]
     have:j.log2<=j:=Nat.log2_le_self _
     omega
    have hR:R (.ref (cAt mg "NoStep")) S0:=h2 fun al=>by
     have q:=al (.str n) os ss (List.mem_of_getElem? ek) j t et
     rw[hv] at q;cases q
    exact⟨_,rfl,100,by decide,by decide,Nat.le_trans ln (by decide),n,rfl,100,ln,by decide,_,rfl,100,by decide,by decide,hlog,_,rfl,1921,int_text_len_1921 hlog,by decide,by decide,fun out=>⟨show 1<=sizeLine by decide,hR⟩⟩
  ·rintro env S ⟨rfl,⟨e7,e8,rfl⟩,hj⟩
   refine⟨rfl,⟨_,_,_,_,_,_,rfl⟩,fun i n' os' ss' hi ei=>?_⟩
   by_cases e:i=k
   ·subst e
    rw[ek] at ei
    cases ei
    exact fun j t et=>hj j t (by rw[C5];exact(List.getElem?_eq_some_iff.mp et).1) et
   ·exact hk0 i n' os' ss' (by omega) ei
 ·rintro env S ⟨rfl,⟨e3,e4,e5,e6,e7,e8,rfl⟩,hk0⟩
  refine h1 fun n os ss hm=>?_
  obtain⟨i,ei⟩:=List.mem_iff_getElem?.mp hm
  exact hk0 i n os ss (List.getElem?_eq_some_iff.mp ei).1 ei
theorem Rc{size:Int}{n:Str}{o s:T}(h:progOk size (.tup [.str n,o,s])=true):n.length<=100:=by
 unfold progOk at h
 rw[Bool.and_eq_true] at h
 have q:=h.2
 simp only[Bool.and_eq_true] at q
 have r:Zw n=true:=q.1
 unfold Zw at r
 rw[Bool.and_eq_true,Bool.and_eq_true] at r
 have:=of_decide_eq_true r.1.2
 omega
def F3(bs:List Str)(c:T):Prop:=∀t∈items c,valOk 5 [] bs t=true
def cLoomOfE(CL CS CC:Addr):List T->TH->UX->UR->Prop:=fun ts S Pp R=>∃x b l p wk c,ts=[x,b,l,p,wk,c]/\Pl x/\Pl b/\Pl l/\Pl p/\Pl wk/\Pl c/\(formed x b l p wk c=false->R (.ref CL) S) ∧
 (formed x b l p wk c=true->(¬ StepsAll (Xn (items b)) (Bg (items l)) (items p)->R (.ref CS) S)/\(StepsAll (Xn (items b)) (Bg (items l)) (items p)->(¬ F3 (Xn (items b)) c->R (.ref CC) S)/\(F3 (Xn (items b)) c->Pp (.tup [x,b,l,p,wk,c]) S)))
theorem Uh{m:Nat}(N:Nm P w K mg)(d:Aa K mg "loom_of" ["size","boxes","locks","programs","workers","claims"] (top 34))(c_ask_parts:Ep P w K mg base m "ask_parts" ["size","boxes","locks","programs","workers","claims"] (P2 (cAt mg "NoLoom")))(c_ask_steps:Ep P w K mg base m "ask_steps" ["programs","box_names","locks"] (Ik (cAt mg "NoStep")))(c_ask_claims:Ep P w K mg base m "ask_claims" ["claims","box_names"] (Gq (cAt mg "NoClaim")))(c_names_of:Has P w K mg base m "names_of" ["things"] Es):
  Ep P w K mg base (m+1) "loom_of" ["size","boxes","locks","programs","workers","claims"] (cLoomOfE (cAt mg "NoLoom") (cAt mg "NoStep") (cAt mg "NoClaim")):=by
 have sc:=We
 refine Ff (k:=m) d sc (fun ts S Pp R h=>?_) fun cdv f A outer s H E S0 R hr hw=>?_
 ·obtain⟨x,b,l,p,wk,c,rfl,_⟩:=h;rfl
 refine⟨_,(Ai (K8 (Ee c_ask_parts hr rfl (Po fun _ _ _ z=>z) hw (Zc (uv 0) (Zc (uv 1) (Zc (uv 2) (Zc (uv 3) (Zc (uv 4) (Zc (uv 5) Zn))))))))
   (Ai (K8 (Ee c_ask_steps hr rfl (Po fun _ _ _ z=>z) hw (Zc (uv 3) (Zc (Zf c_names_of hr rfl (Zc (uv 1) Zn)) (Zc (Ql rfl N.list (Zc (uv 2) Zn)) Zn)))))
   (Ai (K8 (Ee c_ask_claims hr rfl (Po fun _ _ _ z=>z) hw (Zc (uv 5) (Zc (Zf c_names_of hr rfl (Zc (uv 1) Zn)) Zn))))
   (As (US.x (Zr (Zu (Zc (uv 0) (Zc (uv 1) (Zc (uv 2) (Zc (uv 3) (Zc (uv 4) (Zc (uv 5) Zn))))))))))))),fun ts Pp h=>?_⟩
 obtain⟨x,b,l,p,wk,c,rfl,px,pb,pl,pp,pw,pc,hL,hS⟩:=h
 refine Zj (fun env S=>S0=S/\env=[some x,some b,some l,some p,some wk,some c]/\formed x b l p wk c=true) (fun k hk=>⟨x,b,l,p,wk,c,rfl,px,pb,pl,pp,pw,pc,fun hf=>hk _ _ ⟨rfl,rfl,hf⟩,hL⟩) ?_
 rintro _ _ ⟨rfl,rfl,hf⟩
 obtain⟨h1,h2⟩:=hS hf
 obtain⟨size,rfl⟩:∃size,x=.int size:=by cases x <;> first|exact⟨_,rfl⟩|cases hf
 unfold formed at hf
 dsimp only at hf
 rw[Bool.and_eq_true] at hf
 have hf:=hf.2
 unfold E6 at hf
 simp only[Bool.and_eq_true] at hf
 obtain⟨fb,fl,fp,fw,fc⟩:=hf
 obtain⟨bs,rfl,lb,hb,_⟩:=Hw fb
 obtain⟨ls,rfl,ll,el⟩:=Vt fl
 obtain⟨ps,rfl,lp,hp⟩:=Ke fp
 obtain⟨cs,rfl,_,lc⟩:=B3 fc
 refine Zj (fun env S=>S0=S/\env=[some (.int size),some (.tup bs),some (.tup ls),some (.tup ps),some wk,some (.tup cs)]/\StepsAll (Xn bs) (Bg ls) ps) (fun k hk=>⟨bs,rfl,by omega,fun y hy=>C0 (hb y hy),ps,Xn bs,Bg ls,by rw[<-el],fun x hx=>?_,fun q=>hk _ _ ⟨rfl,rfl,q⟩,h1⟩) ?_
 ·have g:=hp x hx
  obtain⟨n,o,ss,rfl,ho,hs⟩:=T6 g
  obtain⟨os,rfl,lo,hos,_⟩:=Hw ho
  obtain⟨ss,rfl,_,lss⟩:=B3 hs
  have px:=Ax pp _ hx
  exact⟨n,os,ss,rfl,Rc g,by omega,by omega,fun y hy=>C0 (hos y hy),Ax (Ax px (.tup ss) (by simp))⟩
 rintro _ _ ⟨rfl,rfl,hst⟩
 obtain⟨h3,h4⟩:=h2 hst
 refine Zj (fun env S=>S0=S/\env=[some (.int size),some (.tup bs),some (.tup ls),some (.tup ps),some wk,some (.tup cs)]/\F3 (Xn bs) (.tup cs)) (fun k hk=>⟨bs,rfl,by omega,fun y hy=>C0 (hb y hy),cs,Xn bs,rfl,by omega,Ax pc,fun q=>hk _ _ ⟨rfl,rfl,q⟩,fun ⟨t,ht,hv⟩=>h3 fun al=>?_⟩) ?_
 ·have q:valOk 5 [] (Xn bs) t=true:=al t ht
  rw[hv] at q;cases q
 rintro _ _ ⟨rfl,rfl,hcl⟩
 exact⟨show 6<=sizeLine by decide,h4 hcl⟩
end
end K14
end
section
namespace K14
open PySem PySem.Spec PyProof.Rows L2 TL
theorem Pj{d:Nat}{ow bx:List Str}{wd k:Str}{x:T}(hk:Aw wd=some [k])(h:Bt (valOk d ow bx) ow bx k x=true):valOk (d+1) ow bx (.tup [.str wd,x])=true:=by
 simp only[valOk,hk]
 simp[h]
theorem Qk{d:Nat}{ow bx:List Str}{wd k k':Str}{x y:T}(hk:Aw wd=some [k,k'])(h:Bt (valOk d ow bx) ow bx k x=true)(h':Bt (valOk d ow bx) ow bx k' y=true):valOk (d+1) ow bx (.tup [.str wd,x,y])=true:=by
 simp only[valOk,hk]
 simp[h,h']
theorem Bl{f:T->Bool}{ow bx:List Str}{x:T}(h:f x=true):Bt f ow bx "value" x=true:=by
 unfold Bt
 rw[if_neg (by decide),if_neg (by decide),if_neg (by decide)]
 exact h
theorem vf_ok{ow bx:List Str}(now:∀z∈ow,Zw z=true)(nbx:∀z∈bx,Zw z=true){n:Nat}{t:T}(h:VF ow bx n t):valOk n ow bx t=true:=by
 induction h with
 | @num _ i a b =>
  refine Pj (k:="number") rfl ?_
  unfold Bt
  rw[if_pos rfl]
  show (decide (0<=i)&&decide (i<=99))=true
  rw[decide_eq_true a,decide_eq_true b];rfl
 | @own _ x q =>
  refine Pj (k:="own") rfl ?_
  unfold Bt
  rw[if_neg (by decide),if_pos rfl]
  show (Zw x&&decide (x∈ow))=true
  rw[now x q,decide_eq_true q];rfl
 | @box _ x q =>
  refine Pj (k:="box") rfl ?_
  unfold Bt
  rw[if_neg (by decide),if_neg (by decide),if_pos rfl]
  show (Zw x&&decide (x∈bx))=true
  rw[nbx x q,decide_eq_true q];rfl
 |neg _ ih=>exact Pj (k:="value") rfl (Bl ih)
 |two hz _ _ ih1 ih2 =>
  rcases hz with rfl|rfl|rfl|rfl
  ·exact Qk (k:="value") (k':="value") rfl (Bl ih1) (Bl ih2)
  ·exact Qk (k:="value") (k':="value") rfl (Bl ih1) (Bl ih2)
  ·exact Qk (k:="value") (k':="value") rfl (Bl ih1) (Bl ih2)
  ·exact Qk (k:="value") (k':="value") rfl (Bl ih1) (Bl ih2)
theorem Az{x:Str}(h:x.length<=8):Pl (.str x):=.str (Xp (by omega))
theorem vf_pl{ow bx:List Str}(now:∀z∈ow,Zw z=true)(nbx:∀z∈bx,Zw z=true){n:Nat}{t:T}(h:VF ow bx n t):Pl t:=by
 induction h with
 |num _ _=>exact .tup (Xd (Az (by decide)) (Xd (.int _) al_nil))
 |own q=>exact .tup (Xd (Az (by decide)) (Xd (Az (Ac (now _ q))) al_nil))
 |box q=>exact .tup (Xd (Az (by decide)) (Xd (Az (Ac (nbx _ q))) al_nil))
 |neg _ ih=>exact .tup (Xd (Az (by decide)) (Xd ih al_nil))
 |two hz _ _ ih1 ih2 =>
  refine .tup (Xd (Az ?_) (Xd ih1 (Xd ih2 al_nil)))
  rcases hz with rfl|rfl|rfl|rfl <;> decide
inductive SN(ow bx lk:List Str)(b:Int):T->Prop where
 |take {y:Str}:y∈lk->SN ow bx lk b (.tup [.str "take",.str y])
 |give {y:Str}:y∈lk->SN ow bx lk b (.tup [.str "give",.str y])
 |get {x y:Str}:x∈ow->y∈bx->SN ow bx lk b (.tup [.str "get",.str x,.str y])
 |add {y:Str} {v:T}:y∈bx->VF ow [] 5 v->SN ow bx lk b (.tup [.str "add",.str y,v])
 |put {y:Str} {v:T}:y∈bx->VF ow [] 5 v->SN ow bx lk b (.tup [.str "put",.str y,v])
 |wait {y:Str} {v:T}:y∈bx->VF ow [] 5 v->SN ow bx lk b (.tup [.str "wait",.str y,v])
 |set {x:Str} {v:T}:x∈ow->VF ow [] 5 v->SN ow bx lk b (.tup [.str "set",.str x,v])
 |check {v:T}:VF ow [] 5 v->SN ow bx lk b (.tup [.str "check",v])
 |skip {i:Int}:0<=i->i<=b->SN ow bx lk b (.tup [.str "skip",.int i])
 |unl {v:T} {i:Int}:VF ow [] 5 v->0<=i->i<=b->SN ow bx lk b (.tup [.str "unless",v,.int i])
theorem Qp{ow bx lk:List Str}{b:Int}{wd k:Str}{x:T}(hk:A7 wd=some [k])(h:Ae ow bx lk b k x=true):stepOk ow bx lk b (.tup [.str wd,x])=true:=by
 simp only[stepOk,hk]
 simp[h]
theorem Kf{ow bx lk:List Str}{b:Int}{wd k k':Str}{x y:T}(hk:A7 wd=some [k,k'])(h:Ae ow bx lk b k x=true)(h':Ae ow bx lk b k' y=true):stepOk ow bx lk b (.tup [.str wd,x,y])=true:=by
 simp only[stepOk,hk]
 simp[h,h']
section
variable{ow bx lk:List Str}{b:Int}
theorem Uy{x:Str}(h:Zw x=true)(m:x∈ow):Ae ow bx lk b "own" (.str x)=true:=by
 unfold Ae
 rw[if_pos rfl]
 show (Zw x&&decide (x∈ow))=true
 rw[h,decide_eq_true m];rfl
theorem Lo{x:Str}(h:Zw x=true)(m:x∈bx):Ae ow bx lk b "box" (.str x)=true:=by
 unfold Ae
 rw[if_neg (by decide),if_pos rfl]
 show (Zw x&&decide (x∈bx))=true
 rw[h,decide_eq_true m];rfl
theorem Qi{x:Str}(h:Zw x=true)(m:x∈lk):Ae ow bx lk b "lock" (.str x)=true:=by
 unfold Ae
 rw[if_neg (by decide),if_neg (by decide),if_pos rfl]
 show (Zw x&&decide (x∈lk))=true
 rw[h,decide_eq_true m];rfl
theorem Gd{x:T}(h:valOk 5 ow [] x=true):Ae ow bx lk b "value" x=true:=by
 unfold Ae
 rw[if_neg (by decide),if_neg (by decide),if_neg (by decide),if_pos rfl]
 exact h
theorem Md{i:Int}(h0:0<=i)(h1:i<=b):Ae ow bx lk b "count" (.int i)=true:=by
 unfold Ae
 rw[if_neg (by decide),if_neg (by decide),if_neg (by decide),if_neg (by decide)]
 show (decide (0<=i)&&decide (i<=b))=true
 rw[decide_eq_true h0,decide_eq_true h1];rfl
theorem sn_ok(now:∀z∈ow,Zw z=true)(nbx:∀z∈bx,Zw z=true)(nlk:∀z∈lk,Zw z=true){t:T}(h:SN ow bx lk b t):stepOk ow bx lk b t=true:=by
 have vo:∀{v:T},VF ow [] 5 v->valOk 5 ow [] v=true:=fun q=>vf_ok now (fun _ z=>by cases z) q
 cases h with
 |take m=>exact Qp (k:="lock") rfl (Qi (nlk _ m) m)
 |give m=>exact Qp (k:="lock") rfl (Qi (nlk _ m) m)
 |get m m'=>exact Kf (k:="own") (k':="box") rfl (Uy (now _ m) m) (Lo (nbx _ m') m')
 |add m q=>exact Kf (k:="box") (k':="value") rfl (Lo (nbx _ m) m) (Gd (vo q))
 |put m q=>exact Kf (k:="box") (k':="value") rfl (Lo (nbx _ m) m) (Gd (vo q))
 |wait m q=>exact Kf (k:="box") (k':="value") rfl (Lo (nbx _ m) m) (Gd (vo q))
 |set m q=>exact Kf (k:="own") (k':="value") rfl (Uy (now _ m) m) (Gd (vo q))
 |check q=>exact Qp (k:="value") rfl (Gd (vo q))
 |skip a c=>exact Qp (k:="count") rfl (Md a c)
 |unl q a c=>exact Kf (k:="value") (k':="count") rfl (Gd (vo q)) (Md a c)
theorem sn_pl(now:∀z∈ow,Zw z=true)(nbx:∀z∈bx,Zw z=true)(nlk:∀z∈lk,Zw z=true){t:T}(h:SN ow bx lk b t):Pl t:=by
 have vp:∀{v:T},VF ow [] 5 v->Pl v:=fun q=>vf_pl now (fun _ z=>by cases z) q
 have p2:∀{x:Str} {y:T},x.length<=8->Pl y->Pl (.tup [.str x,y]):=fun hx hy=>.tup (Xd (Az hx) (Xd hy al_nil))
 have p3:∀{x:Str} {y z:T},x.length<=8->Pl y->Pl z->Pl (.tup [.str x,y,z]):=fun hx hy hz=>.tup (Xd (Az hx) (Xd hy (Xd hz al_nil)))
 have po:∀{x:Str},x∈ow->Pl (.str x):=fun m=>Az (Ac (now _ m))
 have pb:∀{x:Str},x∈bx->Pl (.str x):=fun m=>Az (Ac (nbx _ m))
 have pk:∀{x:Str},x∈lk->Pl (.str x):=fun m=>Az (Ac (nlk _ m))
 cases h with
 |take m=>exact p2 (by decide) (pk m)
 |give m=>exact p2 (by decide) (pk m)
 |get m m'=>exact p3 (by decide) (po m) (pb m')
 |add m q=>exact p3 (by decide) (pb m) (vp q)
 |put m q=>exact p3 (by decide) (pb m) (vp q)
 |wait m q=>exact p3 (by decide) (pb m) (vp q)
 |set m q=>exact p3 (by decide) (po m) (vp q)
 |check q=>exact p2 (by decide) (vp q)
 |skip _ _=>exact p2 (by decide) (.int _)
 |unl q _ _=>exact p3 (by decide) (vp q) (.int _)
end
end K14
end
section
namespace K14
open PySem PySem.Spec PyProof.Rows L2 TL
seal UE UT UA US USs UI UG UO UW PTs Ag uOr Cc A8
theorem Sd.new{S:TH}{a:Addr}{x:Int}:Sd (Ad S a (.lst [.int x])) a:=⟨x,Zd⟩
theorem at0{a:T}{r:List T}:atI (a::r) (0:Int)=some a:=Xb (j:=0) rfl
section
variable{P:Program}{w:World}{K:PySem.W.Frag}{mg:Str->Option Value}{base:Heap}
def Ve:List T->TH->UX->Prop:=fun ts S Pp=>∃(a:Addr) (ow bx lk:List Str) (b:Int),ts=[.ref a,.lst (ow.map T.str),.lst (bx.map T.str),.lst (lk.map T.str),.int b]/\Sd S a/\Nms ow/\Nms bx/\Nms lk/\0<=b/\b<=90 ∧
 ∀t S',Dr a S S'->SN ow bx lk b t->Pp t S'
theorem Wx:Zv ["_law_state_here","_law_owns","_law_boxes","_law_locks","_law_behind","_law_kind","_law_value_here"] ["_law_state_here","_law_owns","_law_boxes","_law_locks","_law_behind"] (Zb (top 78)):=⟨rfl,rfl,rfl,by decide +kernel,rfl,by decide +kernel,by decide +kernel⟩
theorem Br{zs:List Str}{r:Int}(h0:0<=r)(h1:r<(zs.map T.str).length):∃z∈zs,atI (zs.map T.str) r=some (.str z):=by
 rw[List.length_map] at h1
 exact U7 T.str h0 h1
theorem Wf{m:Nat}(N:Nm P w K mg)(d:Aa K mg "_law_step" ["_law_state_here","_law_owns","_law_boxes","_law_locks","_law_behind"] (top 78))(c_law_next:Has P w K mg base m "_law_next" ["_law_state_here","_law_size"] H9)(c_law_value:Has P w K mg base m "_law_value" ["_law_state_here","_law_deep","_law_owns","_law_boxes"] (Qf 5)):Has P w K mg base (m+1) "_law_step" ["_law_state_here","_law_owns","_law_boxes","_law_locks","_law_behind"] Ve:=by
 have sc:=Wx
 refine Ab (k:=m) d sc (fun ts S Pp h=>?_) fun cdv f A outer s H E hr=>?_
 ·obtain⟨a,ow,bx,lk,b,rfl,_⟩:=h;rfl
 have hu0:=An hr
 refine⟨_,(Zs (Zt 5 sc.nd (Zf c_law_next hr rfl (Zc (uv 0) (Zc Zi Zn))))
   (Zs (Zt 6 sc.nd (Zf c_law_value hr rfl (Zc (uv 0) (Zc (Zx (Am (Zc Zi (Zc Zi (Zc Zi (Zc (Zp Zi (Zf c_law_next hr rfl (Zc (uv 0) (Zc Zi Zn)))) Zn))))) (Zf c_law_next hr rfl (Zc (uv 0) (Zc Zi Zn)))) (Zc (uv 1) (Zc (Am Zn) Zn))))))
   (Zs (Zg (UW.ut (Dd (Hg (uv 5) Zi) (Cn (Cz (Zl rfl N.len (Zc (uv 3) Zn)) Zi)))) (Zo (Zr (Zu (Zc (Zx (Am (Ar (Cs.s (Cs.s Cs.nil)))) (uv 5)) (Zc (Zx (uv 3) (Zf c_law_next hr rfl (Zc (uv 0) (Zc (Zl rfl N.len (Zc (uv 3) Zn)) Zn)))) Zn))))) Ze)
   (Zs (Zg (UW.ut (Dd (Hg (uv 5) Zi) (Dd (Cz (Zl rfl N.len (Zc (uv 1) Zn)) Zi) (Cn (Cz (Zl rfl N.len (Zc (uv 2) Zn)) Zi))))) (Zo (Zr (Zu (Zc Zq (Zc (Zx (uv 1) (Zf c_law_next hr rfl (Zc (uv 0) (Zc (Zl rfl N.len (Zc (uv 1) Zn)) Zn)))) (Zc (Zx (uv 2) (Zf c_law_next hr rfl (Zc (uv 0) (Zc (Zl rfl N.len (Zc (uv 2) Zn)) Zn)))) Zn)))))) Ze)
   (Zs (Zg (UW.ut (Dd (Hg (uv 5) Zi) (Cn (Cz (Zl rfl N.len (Zc (uv 2) Zn)) Zi)))) (Zo (Zr (Zu (Zc (Zx (Am (Ar (Cs.s (Cs.s (Cs.s Cs.nil))))) (Od (uv 5) Zi)) (Zc (Zx (uv 2) (Zf c_law_next hr rfl (Zc (uv 0) (Zc (Zl rfl N.len (Zc (uv 2) Zn)) Zn)))) (Zc (uv 6) Zn)))))) Ze)
   (Zs (Zg (UW.ut (Dd (Xf hu0 (uv 5) Zi) (Cn (Cz (Zl rfl N.len (Zc (uv 1) Zn)) Zi)))) (Zo (Zr (Zu (Zc Zq (Zc (Zx (uv 1) (Zf c_law_next hr rfl (Zc (uv 0) (Zc (Zl rfl N.len (Zc (uv 1) Zn)) Zn)))) (Zc (uv 6) Zn)))))) Ze)
   (Zs (Zg (Hg (uv 5) Zi) (Zo (Zr (Zu (Zc Zq (Zc (uv 6) Zn))))) Ze)
   (Zs (Zg (Xf hu0 (uv 5) Zi) (Zo (Zr (Zu (Zc Zq (Zc (Zf c_law_next hr rfl (Zc (uv 0) (Zc (Zp (uv 4) Zi) Zn))) Zn))))) Ze)
   (Zs (Zg (Xf hu0 (uv 5) Zi) (Zo (Zr (Zu (Zc Zq (Zc (uv 6) (Zc (Zf c_law_next hr rfl (Zc (uv 0) (Zc (Zp (uv 4) Zi) Zn))) Zn)))))) Ze)
   (Zs (Zg (Cz (Zl rfl N.len (Zc (uv 2) Zn)) Zi) (Zo (Zr (Zu (Zc Zq (Zc (Zx (uv 2) (Zf c_law_next hr rfl (Zc (uv 0) (Zc (Zl rfl N.len (Zc (uv 2) Zn)) Zn)))) (Zc (Zu (Ar (Cs.s (Cs.i Cs.nil)))) Zn)))))) Ze)
   (Zo (Zr (Zu (Zc Zq (Zc (Zu (Zc Zq (Zc (Zp Zi (Zf c_law_next hr rfl (Zc (uv 0) (Zc Zi Zn)))) Zn))) Zn))))))))))))))),fun ts S0 Pp h=>?_⟩
 obtain⟨a,ow,bx,lk,b,rfl,hs,now,nbx,nlk,hb0,hb,h⟩:=h
 have o2:2<=sizeLine:=by decide
 have o3:3<=sizeLine:=by decide
 refine Zj (fun env S=>∃kd:Int,env=[some (.ref a),some (.lst (ow.map T.str)),some (.lst (bx.map T.str)),some (.lst (lk.map T.str)),some (.int b),some (.int kd),none]/\Dr a S0 S/\0<=kd/\kd<12) (fun k hk=>⟨a,12,rfl,hs,by decide,fun r S1 d1 r0 r1=>hk _ _ ⟨r,rfl,d1,r0,r1⟩⟩) ?_
 rintro _ S1 ⟨kd,rfl,d1,kd0,kd1⟩
 refine Zj (fun env S=>∃v:T,env=[some (.ref a),some (.lst (ow.map T.str)),some (.lst (bx.map T.str)),some (.lst (lk.map T.str)),some (.int b),some (.int kd),some v]/\Dr a S0 S/\VF ow [] 5 v) (fun k hk=>⟨a,5,rfl,d1.sd,by decide,fun r5 S2 d2 r50 r51=>⟨show 4<=sizeLine by decide,a,4,rfl,d2.sd,by decide,fun r4 S3 d3 r40 r41=>?_⟩⟩) ?_
 ·have pk:∃j:Nat,j<5/\atI [T.int 1,T.int 2,T.int 2,T.int (1+r5)] r4=some (.int ((j+1:Nat):Int)):=by
   have:r4=0\/r4=1\/r4=2\/r4=3:=by omega
   rcases this with rfl|rfl|rfl|rfl
   ·exact⟨0,by omega,rfl⟩
   ·exact⟨1,by omega,rfl⟩
   ·exact⟨1,by omega,rfl⟩
   ·refine⟨r5.toNat,by omega,?_⟩
    rw[show ((r5.toNat+1:Nat):Int)=1+r5 by omega]
    rfl
  obtain⟨j,hj,ej⟩:=pk
  exact⟨_,ej,show 0<=sizeLine by decide,j,hj,a,ow,[],rfl,d3.sd,now,⟨by decide,fun _ z=>(by cases z)⟩,fun t S4 d4 vt=>hk _ _ ⟨t,rfl,((d1.trans d2).trans d3).trans d4,vt.up (by omega)⟩⟩
 rintro _ S2 ⟨v,rfl,d2,vv⟩
 clear d1 S1
 have tru:∀{b:Bool} {p:Prop} [Decidable p],(b&&decide p)=true->p:=fun {b p _} e=>by
  rw[Bool.and_eq_true] at e
  exact of_decide_eq_true e.2
 refine Zj (fun env S=>env=[some (.ref a),some (.lst (ow.map T.str)),some (.lst (bx.map T.str)),some (.lst (lk.map T.str)),some (.int b),some (.int kd),some v]/\S=S2) (fun k hk=>D8 (fun _ h=>h) (fun _ _ h=>h) ⟨fun e=>?_,fun _=>hk _ _ ⟨rfl,rfl⟩⟩) ?_
 ·have e1:kd<2:=by rw[Bool.and_eq_true] at e;exact of_decide_eq_true e.1
  have e2:=tru e
  have:kd=0\/kd=1:=by omega
  rcases this with rfl|rfl
  ·refine⟨o2,.str "take",rfl,a,_,rfl,d2.sd,e2,fun r S3 d3 r0 r1=>?_⟩
   obtain⟨y,ly,ey⟩:=Br r0 r1
   exact⟨_,ey,o2,h _ _ (d2.trans d3) (.take ly)⟩
  ·refine⟨o2,.str "give",rfl,a,_,rfl,d2.sd,e2,fun r S3 d3 r0 r1=>?_⟩
   obtain⟨y,ly,ey⟩:=Br r0 r1
   exact⟨_,ey,o2,h _ _ (d2.trans d3) (.give ly)⟩
 rintro _ _ ⟨rfl,rfl⟩
 refine Zj (fun env S=>env=[some (.ref a),some (.lst (ow.map T.str)),some (.lst (bx.map T.str)),some (.lst (lk.map T.str)),some (.int b),some (.int kd),some v]/\Dr a S0 S) (fun k hk=>D8 (fun _ h=>h) (fun _ _ h=>D8 (fun _ h=>h) (fun _ _ h=>h) h) ⟨fun e=>?_,fun _=>hk _ _ ⟨rfl,d2⟩⟩) ?_
 ·rw[Bool.and_eq_true,Bool.and_eq_true] at e
  refine⟨a,_,rfl,d2.sd,of_decide_eq_true e.2.1,fun r S3 d3 r0 r1=>?_⟩
  obtain⟨y,ly,ey⟩:=Br r0 r1
  refine⟨_,ey,a,_,rfl,d3.sd,of_decide_eq_true e.2.2,fun r' S4 d4 r0' r1'=>?_⟩
  obtain⟨y',ly',ey'⟩:=Br r0' r1'
  exact⟨_,ey',o3,h _ _ ((d2.trans d3).trans d4) (.get ly ly')⟩
 rintro _ S2 ⟨rfl,d2⟩
 refine Zj (fun env S=>env=[some (.ref a),some (.lst (ow.map T.str)),some (.lst (bx.map T.str)),some (.lst (lk.map T.str)),some (.int b),some (.int kd),some v]/\Dr a S0 S) (fun k hk=>D8 (fun _ h=>h) (fun _ _ h=>h) ⟨fun e=>?_,fun _=>hk _ _ ⟨rfl,d2⟩⟩) ?_
 ·have e1:kd<7:=by rw[Bool.and_eq_true] at e;exact of_decide_eq_true e.1
  have e2:=tru e
  have wd:∃z:Str,(∀y∈bx,SN ow bx lk b (.tup [.str z,.str y,v]))/\atI [T.str "add",T.str "put",T.str "wait"] (kd / 3)=some (.str z):=by
   have:kd / 3=0\/kd / 3=1\/kd / 3=2:=by omega
   rcases this with q|q|q <;> rw[q]
   ·exact⟨"add",fun y hy=>.add hy vv,rfl⟩
   ·exact⟨"put",fun y hy=>.put hy vv,rfl⟩
   ·exact⟨"wait",fun y hy=>.wait hy vv,rfl⟩
  obtain⟨z,lz,ez⟩:=wd
  refine⟨o3,⟨by decide,by decide⟩,_,ez,a,_,rfl,d2.sd,e2,fun r S3 d3 r0 r1=>?_⟩
  obtain⟨y,ly,ey⟩:=Br r0 r1
  exact⟨_,ey,o3,h _ _ (d2.trans d3) (lz y ly)⟩
 rintro _ S2 ⟨rfl,d2⟩
 refine Zj (fun env S=>env=[some (.ref a),some (.lst (ow.map T.str)),some (.lst (bx.map T.str)),some (.lst (lk.map T.str)),some (.int b),some (.int kd),some v]/\Dr a S0 S) (fun k hk=>D8 (fun _ h=>h) (fun _ _ h=>h) ⟨fun e=>?_,fun _=>hk _ _ ⟨rfl,d2⟩⟩) ?_
 ·have e2:=tru e
  refine⟨a,_,rfl,d2.sd,e2,fun r S3 d3 r0 r1=>?_⟩
  obtain⟨y,ly,ey⟩:=Br r0 r1
  exact⟨_,ey,o3,h _ _ (d2.trans d3) (.set ly vv)⟩
 rintro _ S2 ⟨rfl,d2⟩
 refine Zj (fun env S=>env=[some (.ref a),some (.lst (ow.map T.str)),some (.lst (bx.map T.str)),some (.lst (lk.map T.str)),some (.int b),some (.int kd),some v]/\Dr a S0 S) (fun k hk=>⟨fun _=>⟨o2,h _ _ d2 (.check vv)⟩,fun _=>hk _ _ ⟨rfl,d2⟩⟩) ?_
 rintro _ S2 ⟨rfl,d2⟩
 refine Zj (fun env S=>env=[some (.ref a),some (.lst (ow.map T.str)),some (.lst (bx.map T.str)),some (.lst (lk.map T.str)),some (.int b),some (.int kd),some v]/\Dr a S0 S) (fun k hk=>⟨fun _=>⟨a,_,rfl,d2.sd,show (0:Int)<b+1 by omega,fun r S3 d3 r0 r1=>⟨o2,h _ _ (d2.trans d3) (.skip r0 (by omega))⟩⟩,fun _=>hk _ _ ⟨rfl,d2⟩⟩) ?_
 rintro _ S2 ⟨rfl,d2⟩
 refine Zj (fun env S=>env=[some (.ref a),some (.lst (ow.map T.str)),some (.lst (bx.map T.str)),some (.lst (lk.map T.str)),some (.int b),some (.int kd),some v]/\Dr a S0 S) (fun k hk=>⟨fun _=>⟨a,_,rfl,d2.sd,show (0:Int)<b+1 by omega,fun r S3 d3 r0 r1=>⟨o3,h _ _ (d2.trans d3) (.unl vv r0 (by omega))⟩⟩,fun _=>hk _ _ ⟨rfl,d2⟩⟩) ?_
 rintro _ S2 ⟨rfl,d2⟩
 refine Zj (fun env S=>env=[some (.ref a),some (.lst (ow.map T.str)),some (.lst (bx.map T.str)),some (.lst (lk.map T.str)),some (.int b),some (.int kd),some v]/\Dr a S0 S) (fun k hk=>⟨fun e=>⟨a,_,rfl,d2.sd,of_decide_eq_true e,fun r S3 d3 r0 r1=>?_⟩,fun _=>hk _ _ ⟨rfl,d2⟩⟩) ?_
 ·obtain⟨y,ly,ey⟩:=Br r0 r1
  exact⟨_,ey,o2,o3,h _ _ (d2.trans d3) (.add ly (.num (by decide) (by decide)))⟩
 rintro _ S2 ⟨rfl,d2⟩
 exact⟨a,2,rfl,d2.sd,by decide,fun r S3 d3 r0 r1=>⟨o2,o2,h _ _ (d2.trans d3) (.check (.num (by omega) (by omega)))⟩⟩
end
end K14
end
section
namespace K14
open PySem PySem.Spec PyProof.Rows L2 TL
seal UE UT UA US USs UI UG UO UW PTs Ag uOr Cc A8
abbrev Prg:=Str×List (Str×Int)×List T
def pairT(p:Str×Int):T:=.tup [.str p.1,.int p.2]
def At(p:Prg):T:=.tup [.str p.1,.tup (p.2.1.map pairT),.tup p.2.2]
def Num(size:Int)(os:List (Str×Int)):Prop:=∀q∈os,Zw q.1=true/\0<=q.2/\q.2<size
theorem D6:∀bs:List (Str×Int),Xn (bs.map pairT)=bs.map (·.1)
 |[]=>rfl
 |p::r=>by
  show p.1::Xn (r.map pairT)=p.1::r.map (·.1)
  rw[D6 r]
theorem Mg:∀ls:List Str,Bg (ls.map T.str)=ls
 |[]=>rfl
 |z::r=>by
  show z::Bg (r.map T.str)=z::r
  rw[Mg r]
theorem F6{lo hi:Int}{ts:List T}(h0:lo<=ts.length)(h1:(ts.length:Int)<=hi):Ak lo hi (.tup ts)=true:=by
 show (decide (lo<=ts.length)&&decide ((ts.length:Int)<=hi))=true
 rw[decide_eq_true h0,decide_eq_true h1];rfl
theorem Vx{lo hi i:Int}(h0:lo<=i)(h1:i<=hi):Bq lo hi (.int i)=true:=by
 show (decide (lo<=i)&&decide (i<=hi))=true
 rw[decide_eq_true h0,decide_eq_true h1];rfl
theorem Y0{size:Int}{p:Str×Int}(h:Zw p.1=true/\0<=p.2/\p.2<size):pairOk size (pairT p)=true:=by
 show (Ak 2 2 (.tup [.str p.1,.int p.2])&&(Zw p.1&&Bq 0 (size - 1) (.int p.2)))=true
 rw[F6 (by simp) (by simp),h.1,Vx h.2.1 (by omega)];rfl
theorem Pk{most size:Int}{os:List (Str×Int)}(hl:(os.length:Int)<=most)(hn:Num size os)(nd:(os.map (·.1)).Nodup):Bf most size (.tup (os.map pairT))=true:=by
 show (Ak 0 most (.tup (os.map pairT))&&((os.map pairT).all (pairOk size)&&decide (Xn (os.map pairT)).Nodup))=true
 rw[F6 (by omega) (by rw[List.length_map];exact hl),D6,decide_eq_true nd]
 have e:(os.map pairT).all (pairOk size)=true:=by
  rw[List.all_eq_true]
  intro x hx
  obtain⟨p,hp,rfl⟩:=List.mem_map.mp hx
  exact Y0 (hn p hp)
 rw[e];rfl
theorem X2{size:Int}{p:Str×Int}(h:Zw p.1=true/\0<=p.2/\p.2<size):Pl (pairT p):=.tup (Xd (Az (Ac h.1)) (Xd (.int _) al_nil))
theorem Mq{size:Int}{os:List (Str×Int)}(hn:Num size os):Pl (.tup (os.map pairT)):=.tup fun x hx=>by
 obtain⟨p,hp,rfl⟩:=List.mem_map.mp hx
 exact X2 (hn p hp)
end K14
end
section
namespace K14
open PySem PySem.Spec PyProof.Rows L2 TL
seal UE UT UA US USs UI UG UO UW PTs Ag uOr Cc A8
end K14
end
section
namespace K14
open PySem PySem.Spec PyProof.Rows L2 TL
seal UE UT UA US USs UI UG UO UW PTs Ag A8
theorem upd2{S:TH}{p:Addr}{c d:Cell}:Ad (Ad S p c) p d=Ad S p d:=by
 funext b
 unfold Ad
 split <;> rfl
theorem Y7{S:TH}{p:Addr}{c:Cell}(h:S p=none):Dv (Ad S p c) p=S:=by
 funext b
 unfold Dv Ad
 split
 ·next e=>rw[e,h]
 ·rfl
theorem Fj{α:Type}{pick:List (Option Nat)}{ti:UTA}{env:Ev}{S S0:TH}{gg:UTG}{tc:UTT}{te:UTE}{P:UX}(xs:List α)(e g:α->T)(hti:∀k:List T->TH->Prop,k (xs.map e) S->ti env S0 k)(hl:xs.length<=sizeLine)
  (turn:∀x∈xs,∀(A:UX) (B:TH->Prop),A (g x) S->gg (e x) (G2 pick env) S fun env' S'=>tc env' S' fun b S2=>(b=true->te env' S2 A)/\(b=false->B S2))
  (done:P (.lst (xs.map g)) S):Ag pick ti gg tc te env S0 P:=by
 refine E5 (xs.map e) (fun k acc S'=>S'=S/\acc=(xs.take k).map g) hti (by rw[List.length_map];exact hl) ⟨rfl,rfl⟩ ?_ ?_
 ·rintro k x acc S' ek ⟨rfl,rfl⟩
  rw[List.getElem?_map] at ek
  cases ex:xs[k]? with
  |none=>rw[ex] at ek;cases ek
  |some y =>
   rw[ex] at ek
   cases ek
   refine turn y (List.mem_of_getElem? ex) _ _ ⟨rfl,?_⟩
   rw[List.take_add_one,ex,List.map_append]
   rfl
 ·rintro acc S' ⟨rfl,rfl⟩
  rw[List.length_map,List.take_length]
  exact done
end K14
end
section
namespace K14
open PySem PySem.Spec PyProof.Rows L2 TL
seal UE UT UA US USs UI UG UO UW PTs Ag A8
def numS(i:Int):Str:=toString i
mutual
def wordsT:T->List Str
 | .tup ts=>wordsL ts
 | .str x=>[x]
 | .int i=>[numS i]
 |_=>[]
def wordsL:List T->List Str
 |[]=>[]
 |t::r=>wordsT t++wordsL r
end
inductive Wt:Nat->T->Prop where
 |str {n:Nat} {x:Str}:x.length<=8->Wt n (.str x)
 |int {n:Nat} {i:Int}:0<=i->i<=99->Wt n (.int i)
 |tup {n:Nat} {ts:List T}:ts.length<=3->(∀t∈ts,Wt n t)->Wt (n+1) (.tup ts)
theorem Wt.up{n:Nat}{t:T}(h:Wt n t):∀{m},n<=m->Wt m t:=by
 induction h with
 |str h=>intro m _;exact .str h
 |int a b=>intro m _;exact .int a b
 |tup l _ ih=>intro m hm;cases m with
  |zero=>omega
  |succ m=>exact .tup l fun t ht=>ih t ht (by omega)
theorem numS_len{i:Int}(h0:0<=i)(h1:i<=99):(numS i).length<=8:=by
 have all:∀n:Nat,n<100->(numS (n:Int)).length<=8:=by decide +kernel
 have:=all i.toNat (by omega)
 rwa [Int.toNat_of_nonneg h0] at this
theorem Fb{i:Int}(h0:0<=i)(h1:i<=99):i.natAbs.log2<1920:=Nat.lt_of_le_of_lt (Nat.log2_le_self _) (by omega)
theorem wordsL_short{n:Nat}:∀{ts:List T},(∀t∈ts,∀z∈wordsT t,z.length<=8)->∀z∈wordsL ts,z.length<=8
 |[],_=>fun z hz=>by simp[wordsL] at hz
 |t::r,h=>fun z hz=>by
  simp only[wordsL,List.mem_append] at hz
  rcases hz with q|q
  ·exact h t List.mem_cons_self z q
  ·exact wordsL_short (n:=n) (fun t ht=>h t (List.mem_cons_of_mem _ ht)) z q
theorem Ip{n:Nat}:∀{ts:List T},(∀t∈ts,(wordsT t).length<=n)->(wordsL ts).length<=ts.length * n
 |[],_=>by simp[wordsL]
 |t::r,h=>by
  have:=Ip (fun t ht=>h t (List.mem_cons_of_mem _ ht):∀t∈r,(wordsT t).length<=n)
  have q:=h t List.mem_cons_self
  simp only[wordsL,List.length_append,List.length_cons,Nat.succ_mul]
  omega
theorem Wt.short{n:Nat}{t:T}(h:Wt n t):∀z∈wordsT t,z.length<=8:=by
 induction h with
 |str h=>intro z hz;simp only[wordsT,List.mem_singleton] at hz;rw[hz];exact h
 |int a b=>intro z hz;simp only[wordsT,List.mem_singleton] at hz;rw[hz];exact numS_len a b
 |tup l _ ih=>intro z hz;simp only[wordsT] at hz;exact wordsL_short (n:=0) ih z hz
theorem Wt.few{n:Nat}{t:T}(h:Wt n t):(wordsT t).length<=3 ^ n:=by
 induction h with
 |str h=>simp only[wordsT,List.length_singleton];exact Nat.pow_pos (by decide)
 |int a b=>simp only[wordsT,List.length_singleton];exact Nat.pow_pos (by decide)
 |tup l _ ih =>
  simp only[wordsT]
  refine Nat.le_trans (Ip ih) ?_
  rw[Nat.pow_succ,Nat.mul_comm]
  exact Nat.mul_le_mul_left _ l
theorem Wt.few6{n:Nat}{t:T}(h:Wt n t)(hn:n<=7):(wordsT t).length<=2187:=Nat.le_trans h.few (Nat.le_trans (Nat.pow_le_pow_right (by decide) hn) (by decide))
theorem Js:∀{zs:List Str},(∀z∈zs,z.length<=8)->(zs.map (·.length)).sum<=8 * zs.length
 |[],_=>by simp
 |z::r,h=>by
  have:=Js fun x hx=>h x (List.mem_cons_of_mem _ hx)
  have q:=h z List.mem_cons_self
  simp only[List.map_cons,List.sum_cons,List.length_cons]
  omega
def joinW(zs:List Str):Str:=Txt.join " " zs
theorem tj(sep:Str)(zs:List Str):Txt.join sep zs=Str.join sep zs:=StrLaws.glued_eq_join sep zs
theorem joinW_one(x:Str):joinW [x]=x:=tj _ _
theorem Au(x:Str){ys:List Str}(h:ys≠[]):joinW (x::ys)=x++" "++joinW ys:=by
 unfold joinW
 rw[tj,tj]
 cases ys with
 |nil=>exact absurd rfl h
 |cons y r=>rfl
theorem Kc:∀{xs ys:List Str},xs≠[]->ys≠[]->joinW (xs++ys)=joinW xs++" "++joinW ys
 |[],_,h,_=>absurd rfl h
 |[x],ys,_,hy=>by rw[List.singleton_append,Au x hy,joinW_one]
 |x::y::r,ys,_,hy=>by
  rw[List.cons_append,Au x (by simp),Kc (by simp) hy,Au x (by simp)]
  simp only[Str.append_assoc]
theorem Ih(sep:Str)(zs:List Str):(Txt.join sep zs).length<=(zs.map (·.length)).sum+zs.length * sep.length:=by
 rw[tj]
 cases zs with
 |nil=>exact Nat.zero_le _
 |cons a r =>
  rw[len_join_cons]
  exact Nat.add_le_add_left (Nat.mul_le_mul_right _ (by simp)) _
theorem wsum{t:T}{n:Nat}(h:Wt n t)(hn:n<=7):((wordsT t).map (·.length)).sum+(wordsT t).length * (" ":Str).length<=20000:=by
 have h1:=Js h.short
 have h2:=h.few6 hn
 have e:(" ":Str).length=1:=rfl
 rw[e]
 omega
theorem Gc{t:T}{n:Nat}(h:Wt n t)(hn:n<=7):(joinW (wordsT t)).length<=20000:=Nat.le_trans (Ih _ _) (wsum h hn)
end K14
end
section
namespace K14
open PySem PySem.Spec PyProof.Rows L2 TL
seal UE UT UA US USs UI UG UO UW PTs Ag A8
theorem wt2{n:Nat}{a b:T}(ha:Wt n a)(hb:Wt n b):Wt (n+1) (.tup [a,b]):=.tup (show 2<=3 by decide) (Xd ha (Xd hb al_nil))
theorem wt3{n:Nat}{a b c:T}(ha:Wt n a)(hb:Wt n b)(hc:Wt n c):Wt (n+1) (.tup [a,b,c]):=.tup (show 3<=3 by decide) (Xd ha (Xd hb (Xd hc al_nil)))
theorem wn{n:Nat}{x:Str}(h:Zw x=true):Wt n (.str x):=.str (Ac h)
theorem Aah{ow bx:List Str}(now:∀z∈ow,Zw z=true)(nbx:∀z∈bx,Zw z=true){n:Nat}{t:T}(h:VF ow bx n t):Wt n t:=by
 induction h with
 |num a b=>exact wt2 (.str (by decide)) (.int a b)
 |own q=>exact wt2 (.str (by decide)) (wn (now _ q))
 |box q=>exact wt2 (.str (by decide)) (wn (nbx _ q))
 |neg _ ih=>exact wt2 (.str (by decide)) ih
 |two hz _ _ ih1 ih2 =>
  refine wt3 (.str ?_) ih1 ih2
  rcases hz with rfl|rfl|rfl|rfl <;> decide
theorem sn_wt{ow bx lk:List Str}{b:Int}(hb:b<=99)(now:∀z∈ow,Zw z=true)(nbx:∀z∈bx,Zw z=true)(nlk:∀z∈lk,Zw z=true){t:T}(h:SN ow bx lk b t):Wt 6 t:=by
 have vp:∀{v:T},VF ow [] 5 v->Wt 5 v:=fun q=>Aah now (fun _ z=>by cases z) q
 cases h with
 |take m=>exact wt2 (.str (by decide)) (wn (nlk _ m))
 |give m=>exact wt2 (.str (by decide)) (wn (nlk _ m))
 |get m m'=>exact wt3 (.str (by decide)) (wn (now _ m)) (wn (nbx _ m'))
 |add m q=>exact wt3 (.str (by decide)) (wn (nbx _ m)) (vp q)
 |put m q=>exact wt3 (.str (by decide)) (wn (nbx _ m)) (vp q)
 |wait m q=>exact wt3 (.str (by decide)) (wn (nbx _ m)) (vp q)
 |set m q=>exact wt3 (.str (by decide)) (wn (now _ m)) (vp q)
 |check q=>exact wt2 (.str (by decide)) (vp q)
 |skip a c=>exact wt2 (.str (by decide)) (.int a (by omega))
 |unl q a c=>exact wt3 (.str (by decide)) (vp q) (.int a (by omega))
def boxRow(p:Str×Int):T:=.tup [.str "box",.str p.1,.int p.2]
def ownRow(p:Str×Int):T:=.tup [.str "own",.str p.1,.int p.2]
def lockRow(x:Str):T:=.tup [.str "lock",.str x]
def B1(x:Str):T:=.tup [.str "program",.str x]
def Om(ps:List Prg)(i:Int):Str:=match ps[i.toNat]? with
 |some p=>p.1
 |none=>""
def workRow(ps:List Prg)(i:Int):T:=.tup [.str "worker",.str (Om ps i)]
def claimRow(t:T):T:=.tup [.str "claim",t]
def A0(t:T):Str:=joinW (wordsT t)++"\n"
def textOf(rows:List T):Str:=Txt.join "" (rows.map A0)
theorem M7{t:T}{n:Nat}(h:Wt n t)(hn:n<=7):(A0 t).length<=20001:=by
 unfold A0
 rw[Str.length_append]
 exact Nat.add_le_add_right (Gc h hn) 1
theorem Lc{n:Nat}:∀{zs:List Str},(∀z∈zs,z.length<=n)->(zs.map (·.length)).sum<=zs.length * n
 |[],_=>by simp
 |z::r,h=>by
  have:=Lc fun x hx=>h x (List.mem_cons_of_mem _ hx)
  have q:=h z List.mem_cons_self
  simp only[List.map_cons,List.sum_cons,List.length_cons,Nat.succ_mul]
  omega
theorem Rg{rows:List T}(hl:rows.length<=163)(hw:∀t∈rows,Wt 6 t):((rows.map A0).map (·.length)).sum+(rows.map A0).length * ("":Str).length<=16777216:=by
 have h:=Lc (n:=20001) (zs:=rows.map A0) fun z hz=>by
  obtain⟨t,ht,rfl⟩:=List.mem_map.mp hz
  exact M7 (hw t ht) (by decide)
 have e:("":Str).length=0:=rfl
 rw[e,Nat.mul_zero,Nat.add_zero]
 rw[List.length_map] at h
 exact Nat.le_trans h (Nat.le_trans (Nat.mul_le_mul_right _ hl) (by decide))
end K14
end
section
namespace K14
open PySem PySem.Spec PyProof.Rows L2 TL
seal UE UT UA US USs UI UG UO UW PTs Ag A8
theorem Fy:∀ts:List T,wordsL ts=(ts.map wordsT).flatten
 |[]=>by simp[wordsL]
 |t::r=>by simp[wordsL,Fy r]
theorem Z2:∀{gs:List (List Str)},gs≠[]->(∀g∈gs,g≠[])->gs.flatten≠[]
 |[],h,_=>absurd rfl h
 |g::r,_,h=>by
  rw[List.flatten_cons]
  exact fun e=>h g List.mem_cons_self (List.append_eq_nil_iff.mp e).1
theorem E7:∀{gs:List (List Str)},(∀g∈gs,g≠[])->joinW (gs.map joinW)=joinW gs.flatten
 |[],_=>rfl
 |[g],_=>by simp[joinW_one]
 |g::g'::r,h=>by
  have h':∀x∈g'::r,x≠[]:=fun x hx=>h x (List.mem_cons_of_mem _ hx)
  have e:(g::g'::r).flatten=g++(g'::r).flatten:=rfl
  rw[List.map_cons,Au _ (by simp),E7 h',e,Kc (h g List.mem_cons_self) (Z2 (by simp) h')]
theorem Gr(w:Str){rs:List T}(h:∀x∈rs,wordsT x≠[]):joinW (w::rs.map fun x=>joinW (wordsT x))=joinW (wordsT (.tup (.str w::rs))):=by
 have q:=E7 (gs:=[w]::rs.map wordsT) fun g hg=>by
  rcases List.mem_cons.mp hg with rfl|m
  ·simp
  ·obtain⟨x,hx,rfl⟩:=List.mem_map.mp m
   exact h x hx
 rw[List.map_cons,joinW_one,List.map_map,List.flatten_cons,<-Fy] at q
 have e:wordsT (.tup (.str w::rs))=[w]++wordsL rs:=by simp[wordsT,wordsL]
 rw[e]
 exact q
theorem Tj{ow bx:List Str}{n:Nat}{t:T}(h:VF ow bx n t):wordsT t≠[]:=by
 cases h <;> simp[wordsT,wordsL]
theorem joins_sum{w:Str}{rs:List T}(hw:w.length<=8)(hl:rs.length<=2)(h:∀x∈rs,Wt 6 x):((w::rs.map fun x=>joinW (wordsT x)).map (·.length)).sum+(w::rs.map fun x=>joinW (wordsT x)).length * (" ":Str).length<=16777216:=by
 have q:=Lc (n:=20000) (zs:=rs.map fun x=>joinW (wordsT x)) fun z hz=>by
  obtain⟨t,ht,rfl⟩:=List.mem_map.mp hz
  exact Gc (h t ht) (by decide)
 have e:(" ":Str).length=1:=rfl
 rw[e,Nat.mul_one]
 rw[List.length_map] at q
 simp only[List.map_cons,List.sum_cons,List.length_cons,List.length_map] at q ⊢
 omega
section
variable{P:Program}{w:World}{K:PySem.W.Frag}{mg:Str->Option Value}{base:Heap}
def Vn(n:Nat)(t:T):Prop:=∃ow bx,VF ow bx n t/\(∀z∈ow,Zw z=true)/\∀z∈bx,Zw z=true
theorem Vn.wt{n:Nat}{t:T}(h:Vn n t):Wt n t:=by obtain⟨ow,bx,v,h1,h2⟩:=h;exact Aah h1 h2 v
theorem Vn.words{n:Nat}{t:T}(h:Vn n t):wordsT t≠[]:=by obtain⟨ow,bx,v,h1,h2⟩:=h;exact Tj v
def cVT(n:Nat):List T->TH->UX->Prop:=fun ts S Pp=>∃(t:T) (j:Nat),j<n/\ts=[t]/\Vn j t/\Pp (.str (joinW (wordsT t))) S
theorem scVT:Zv ["_law_value_here"] ["_law_value_here"] (Zb (top 81)):=⟨rfl,rfl,rfl,by decide +kernel,rfl,by decide +kernel,by decide +kernel⟩
theorem Ls{n m:Nat}(hn:n<=6)(N:Nm P w K mg)(d:Aa K mg "_law_value_text" ["_law_value_here"] (top 81))(c_law_value_text:Has P w K mg base m "_law_value_text" ["_law_value_here"] (cVT n)):Has P w K mg base (m+1) "_law_value_text" ["_law_value_here"] (cVT (n+1)):=by
 have sc:=scVT
 refine Ab (k:=m) d sc (fun ts S Pp h=>?_) fun cdv f A outer s H E hr=>?_
 ·obtain⟨t,j,_,rfl,_⟩:=h;rfl
 have hu0:=An hr
 refine⟨_,(Zs (Zg (Kk (Zx (uv 0) Zi) (Zu (Ar (Cs.s (Cs.s (Cs.s Cs.nil)))))) (Zo (Zr (Zp (Zp (Zx (uv 0) Zi) Zq) (Qo rfl N.str (Zc (Zx (uv 0) Zi) Zn))))) Ze)
   (Zo (Zr (Ha Zq (Zc (Zp (Am (Zc (Zx (uv 0) Zi) Zn)) (Xg 0 ["_law_part"] [none] rfl (Xu (K0 (uv 0) (Ec Zi) Ef)) (fun _ _ _ _ _=>Ah) (fun _ _ _ _ _=>(Zf c_law_value_text hr rfl (Zc (uv 0) Zn))))) Zn))))),fun ts S0 Pp h=>?_⟩
 obtain⟨t,j,hj,rfl,⟨ow,bx,vf,now,nbx⟩,h⟩:=h
 have o3:3<=sizeLine:=by decide
 have deep:∀(z:Str) (rs:List T) (i:Nat),t=.tup (.str z::rs)->i<n->rs.length<=2->z.length<=8->(∀x∈rs,Vn i x)->∀Q:UX,Q (.str (joinW (wordsT t))) S0->U4 (uC (.str " ")) (B8 (Aq Cg (Hn (B8 (Aq oIx (Cd 0) (uC (.int 0))) Cu)) (Ag [none] (Vf (uSlT (Cd 0) (uoS (uC (.int 1))) uoN)) (gNm 0) uYes (A9 (cVT n) (B8 (Cd 0) Cu)))) Cu) [some t] S0 Q:=by
  intro z rs i et hi hl hz hx Q hQ
  subst et
  refine⟨_,at0,show 1<=sizeLine by decide,Fj (S:=S0) rs id (fun x=>.str (joinW (wordsT x))) (fun k hk=>?_) (Xp (by omega)) (fun x hx' A B hA=>⟨fun _=>⟨x,i,hi,rfl,hx x hx',hA⟩,fun e=>(by cases e)⟩) ⟨?_,_,?_,joins_sum hz hl fun x hx'=>(hx x hx').wt.up (by omega),?_⟩⟩
  ·show k (cutA (.str z::rs) (some 1) none) S0
   rw[C8]
   rw[List.map_id] at hk
   exact hk
  ·show [T.str z].length+_<=sizeLine
   rw[List.length_map,List.length_singleton]
   exact Xp (by omega)
  ·show T.str z::_=(z::rs.map fun x=>joinW (wordsT x)).map T.str
   rw[List.map_cons,List.map_map];rfl
  ·show Q (.str (joinW (z::rs.map fun x=>joinW (wordsT x)))) S0
   rw[Gr z fun x hx'=>(hx x hx').words]
   exact hQ
 have flat:∀(z:Str) (u:T) (y:Str),t=.tup [.str z,u]->(z="number"\/z="own"\/z="box")->wordsT u=[y]->y.length<=8->(∀Q:UX,Q (.str y) S0->Pd [u] S0 Q)->∀Q:UX,Q (.str (joinW (wordsT t))) S0->Aq Cg (Aq Cg (Aq oIx (Cd 0) (uC (.int 0))) (uC (.str " "))) (A9 Pd (B8 (Aq oIx (Cd 0) (uC (.int 1))) Cu)) [some t] S0 Q:=by
  intro z u y et hz hu hy hq Q hQ
  subst et
  have lz:z.length<=8:=by rcases hz with rfl|rfl|rfl <;> decide
  have ls:(" ":Str).length=1:=rfl
  refine⟨_,at0,?_,_,rfl,hq (fun y S2=>Cg (.str (z++" ")) y S2 Q) ⟨?_,?_⟩⟩
  ·rw[ls];exact Xp (by omega)
  ·rw[Str.length_append,ls];exact Xp (by omega)
  ·have e:joinW (wordsT (.tup [.str z,u]))=z++" "++y:=by
    have:wordsT (.tup [.str z,u])=[z,y]:=by simp[wordsT,wordsL,hu]
    rw[this,Au z (by simp),joinW_one]
   rw[e] at hQ
   exact hQ
 refine Zj (fun env S=>env=[some t]/\S0=S/\∃z rs i,t=.tup (.str z::rs)/\i<n/\rs.length<=2/\z.length<=8/\∀x∈rs,Vn i x) (fun k hk=>?_) ?_
 ·cases vf with
  | @num i x a b=>exact⟨_,at0,o3,_,rfl,fun _=>flat _ _ (numS x) rfl (.inl rfl) rfl (numS_len a b) (fun Q hQ=>⟨Fb a b,hQ⟩) _ h,fun e=>(by cases e)⟩
  |own q=>exact⟨_,at0,o3,_,rfl,fun _=>flat _ _ _ rfl (.inr (.inl rfl)) rfl (Ac (now _ q)) (fun Q hQ=>hQ) _ h,fun e=>(by cases e)⟩
  |box q=>exact⟨_,at0,o3,_,rfl,fun _=>flat _ _ _ rfl (.inr (.inr rfl)) rfl (Ac (nbx _ q)) (fun Q hQ=>hQ) _ h,fun e=>(by cases e)⟩
  | @neg i u q=>exact⟨_,at0,o3,_,rfl,fun e=>(by cases e),fun _=>hk _ _ ⟨rfl,rfl,"not",[u],i,rfl,by omega,by simp,by decide,Xd ⟨ow,bx,q,now,nbx⟩ al_nil⟩⟩
  | @two i z u u' hz q q' =>
   refine⟨_,at0,o3,_,rfl,fun e=>?_,fun _=>hk _ _ ⟨rfl,rfl,z,[u,u'],i,rfl,by omega,by simp,?_,Xd ⟨ow,bx,q,now,nbx⟩ (Xd ⟨ow,bx,q',now,nbx⟩ al_nil)⟩⟩
   ·rcases hz with rfl|rfl|rfl|rfl <;> cases e
   ·rcases hz with rfl|rfl|rfl|rfl <;> decide
 rintro _ _ ⟨rfl,rfl,z,rs,i,et,hi,hl,hz,hx⟩
 exact deep z rs i et hi hl hz hx _ h
theorem Ir(N:Nm P w K mg)(d:Aa K mg "_law_value_text" ["_law_value_here"] (top 81)):∀n:Nat,n<=6->Has P w K mg base (n+1) "_law_value_text" ["_law_value_here"] (cVT n)
 | 0,_=>Fv d fun _ _ _ ⟨_,_,z,_⟩=>by omega
 |n+1,h=>Ls (m:=n+1) (by omega) N d (Ir N d n (by omega))
inductive Part:T->Prop where
 |str {x:Str}:x.length<=8->Part (.str x)
 |int {i:Int}:0<=i->i<=99->Part (.int i)
 |val {t:T}:Vn 5 t->Part t
theorem Part.wt{t:T}(h:Part t):Wt 6 t:=by
 cases h with
 |str h=>exact .str h
 |int a b=>exact .int a b
 |val h=>exact h.wt.up (by decide)
theorem Part.words{t:T}(h:Part t):wordsT t≠[]:=by
 cases h with
 |str h=>simp[wordsT]
 |int a b=>simp[wordsT]
 |val h=>exact h.words
def Sp(t:T):Prop:=∃z rs,t=.tup (.str z::rs)/\z.length<=8/\rs.length<=2/\∀x∈rs,Part x
theorem sn_sp{ow bx lk:List Str}{b:Int}(hb:b<=99)(now:∀z∈ow,Zw z=true)(nbx:∀z∈bx,Zw z=true)(nlk:∀z∈lk,Zw z=true){t:T}(h:SN ow bx lk b t):Sp t:=by
 have pn:∀{zs:List Str} {x:Str},(∀z∈zs,Zw z=true)->x∈zs->Part (.str x):=fun h m=>.str (Ac (h _ m))
 have pv:∀{v:T},VF ow [] 5 v->Part v:=fun q=>.val ⟨ow,[],q,now,fun _ z=>by cases z⟩
 cases h with
 |take m=>exact⟨_,_,rfl,by decide,by simp,Xd (pn nlk m) al_nil⟩
 |give m=>exact⟨_,_,rfl,by decide,by simp,Xd (pn nlk m) al_nil⟩
 |get m m'=>exact⟨_,_,rfl,by decide,by simp,Xd (pn now m) (Xd (pn nbx m') al_nil)⟩
 |add m q=>exact⟨_,_,rfl,by decide,by simp,Xd (pn nbx m) (Xd (pv q) al_nil)⟩
 |put m q=>exact⟨_,_,rfl,by decide,by simp,Xd (pn nbx m) (Xd (pv q) al_nil)⟩
 |wait m q=>exact⟨_,_,rfl,by decide,by simp,Xd (pn nbx m) (Xd (pv q) al_nil)⟩
 |set m q=>exact⟨_,_,rfl,by decide,by simp,Xd (pn now m) (Xd (pv q) al_nil)⟩
 |check q=>exact⟨_,_,rfl,by decide,by simp,Xd (pv q) al_nil⟩
 |skip a c=>exact⟨_,_,rfl,by decide,by simp,Xd (.int a (by omega)) al_nil⟩
 |unl q a c=>exact⟨_,_,rfl,by decide,by simp,Xd (pv q) (Xd (.int a (by omega)) al_nil)⟩
def cST:List T->TH->UX->Prop:=fun ts S Pp=>∃t,ts=[t]/\Sp t/\Pp (.str (joinW (wordsT t))) S
theorem scST:Zv ["_law_step_here","_law_found","_law_part"] ["_law_step_here"] (Zb (top 82)):=⟨rfl,rfl,rfl,by decide +kernel,rfl,by decide +kernel,by decide +kernel⟩
theorem Rj{m:Nat}(N:Nm P w K mg)(d:Aa K mg "_law_step_text" ["_law_step_here"] (top 82))(c_law_value_text:Has P w K mg base m "_law_value_text" ["_law_value_here"] (cVT 6)):Has P w K mg base (m+1) "_law_step_text" ["_law_step_here"] cST:=by
 have sc:=scST
 refine Ab (k:=m) d sc (fun ts S Pp h=>?_) fun cdv f A outer s H E hr=>?_
 ·obtain⟨t,rfl,_⟩:=h;rfl
 have hu0:=An hr
 refine⟨_,(Zs (Zt 1 sc.nd (Bu (Zc (Zx (uv 0) Zi) Zn)))
   (Zs (Cy PassesOwn.never rfl (Xu (K0 (uv 0) (Ec Zi) Ef)) (Cm 2 sc.nd) (Zo (Zg (Xe (Ey rfl N.isinstance (Zc (uv 2) (Zc (Xv rfl N.tuple boot_tuple) Zn)))) (Zo (Bb (A5 (uv 1) (Zc (Zf c_law_value_text hr rfl (Zc (uv 2) Zn)) Zn)))) (Zo (Bb (A5 (uv 1) (Zc (Qo rfl N.str (Zc (uv 2) Zn)) Zn)))))))
   (Zo (Zr (Ha Zq (Zc (Dl (uv 1)) Zn)))))),fun ts S0 Pp h=>?_⟩
 obtain⟨_,rfl,⟨z,rs,rfl,hz,hl,hx⟩,h⟩:=h
 let g:=fun x:T=>T.str (joinW (wordsT x))
 refine Zj (fun env S=>∃p,env=[some (.tup (.str z::rs)),some (.ref p),none]/\S0 p=none/\S=Ad S0 p (.lst [.str z])) (fun k hk=>⟨_,at0,show 1<=sizeLine by decide,fun p hp=>hk _ _ ⟨p,rfl,hp,rfl⟩⟩) ?_
 rintro _ _ ⟨p,rfl,hp,rfl⟩
 refine Zj (fun env S=>∃e2,env=[some (.tup (.str z::rs)),some (.ref p),e2]/\S=Ad S0 p (.lst (.str z::rs.map g))) (fun k hk=>?_) ?_
 ·show ∃Iv:Nat->Ev->TH->Prop,_/\(∀(k:Nat) (x:T) env S,(cutA (T.str z::rs) (some 1) none)[k]?=some x->_)/\∀env S,Iv (cutA (T.str z::rs) (some 1) none).length env S->_
  rw[C8]
  refine⟨fun k env S=>∃e2,env=[some (.tup (.str z::rs)),some (.ref p),e2]/\S=Ad S0 p (.lst (.str z::(rs.take k).map g)),⟨none,rfl,rfl⟩,?_,?_⟩
  ·rintro k x env S ek ⟨e2,rfl,rfl⟩
   have hp':=hx x (List.mem_of_getElem? ek)
   have ln:(T.str z::(rs.take k).map g).length<sizeLine:=by
    rw[List.length_cons,List.length_map,List.length_take]
    exact Xo (by omega)
   have nx:Ad (Ad S0 p (.lst (.str z::(rs.take k).map g))) p (.lst (.str z::(rs.take k).map g++[g x]))=Ad S0 p (.lst (.str z::(rs.take (k+1)).map g)):=by
    rw[upd2,List.take_add_one,ek,List.map_append];rfl
   cases hp' with
   | @str y hy =>
    have e:g (.str y)=.str y:=by show T.str (joinW (wordsT (.str y)))=_;simp[wordsT,joinW_one]
    rw[e] at nx
    exact⟨rfl,fun e=>(by cases e),fun _=>⟨⟨_,Zd⟩,_,Zd,ln,_,rfl,nx⟩⟩
   | @int i a b =>
    have e:g (.int i)=.str (numS i):=by show T.str (joinW (wordsT (.int i)))=_;simp[wordsT,joinW_one]
    rw[e] at nx
    exact⟨rfl,fun e=>(by cases e),fun _=>⟨⟨_,Zd⟩,Fb a b,_,Zd,ln,_,rfl,nx⟩⟩
   |val hv =>
    obtain⟨ow,bx,vf,h1,h2⟩:=hv
    obtain⟨us,rfl⟩:=Adp vf
    exact⟨rfl,fun _=>⟨⟨_,Zd⟩,_,5,by decide,rfl,⟨ow,bx,vf,h1,h2⟩,_,Zd,ln,_,rfl,nx⟩,fun e=>(by cases e)⟩
  ·rintro env S ⟨e2,rfl,rfl⟩
   rw[List.take_length]
   exact hk _ _ ⟨e2,rfl,rfl⟩
 rintro _ _ ⟨e2,rfl,rfl⟩
 refine⟨_,Zd,z::rs.map fun x=>joinW (wordsT x),?_,joins_sum hz hl fun x hx'=>(hx x hx').wt,?_⟩
 ·rw[List.map_cons,List.map_map];rfl
 ·rw[Y7 hp]
  show Pp (.str (joinW (z::rs.map fun x=>joinW (wordsT x)))) S0
  rw[Gr z fun x hx'=>(hx x hx').words]
  exact h
end
end K14
end
section
namespace K14
open PySem PySem.Spec PyProof.Rows L2 TL
seal UE UT UA US USs UI UG UO UW PTs Ag A8 uOr Cc
def tx(t:T):T:=.str (joinW (wordsT t))
theorem N5(a b:Str):joinW [a,b]=a++" "++b:=by rw[Au a (by simp),joinW_one]
theorem Ads(a b c:Str):joinW [a,b,c]=a++" "++b++" "++c:=by
 rw[Au a (by simp),N5]
 simp only[Str.append_assoc]
theorem tx2(a b:Str):tx (.tup [.str a,.str b])=.str (a++" "++b):=by
 show T.str (joinW (wordsT (.tup [.str a,.str b])))=_
 simp[wordsT,wordsL,N5]
theorem tx2i(a:Str)(i:Int):tx (.tup [.str a,.int i])=.str (a++" "++numS i):=by
 show T.str (joinW (wordsT (.tup [.str a,.int i])))=_
 simp[wordsT,wordsL,N5]
theorem tx3(a b:Str)(i:Int):tx (.tup [.str a,.str b,.int i])=.str (a++" "++b++" "++numS i):=by
 show T.str (joinW (wordsT (.tup [.str a,.str b,.int i])))=_
 simp[wordsT,wordsL,Ads]
section
variable{P:Program}{w:World}{K:PySem.W.Frag}{mg:Str->Option Value}{base:Heap}
def Al(S S':TH):Prop:=∀b c,S b=some c->S' b=some c
end
end K14
end
section
namespace K14
open PySem PySem.Spec PyProof.Rows L2 TL
seal UE UT UA US USs UI UG UO UW PTs Ag
def fdC(mg:Str->Option Value)(pre rem:List T):Cell:=.ins (cAt mg "Feed") [("things",.lst (pre++rem)),("place",.int (pre.length:Int))]
def Fd(mg:Str->Option Value)(S:TH)(q:Addr)(pre rem:List T):Prop:=S q=some (fdC mg pre rem)
def Ot(q:Addr)(S S':TH):Prop:=∀b c,b≠q->S b=some c->S' b=some c
theorem Ot.trans{q:Addr}{S S1 S2:TH}(x:Ot q S S1)(y:Ot q S1 S2):Ot q S S2:=fun b c n h=>y b c n (x b c n h)
theorem Ot.upd{q:Addr}{S:TH}{c:Cell}:Ot q S (Ad S q c):=fun b d n h=>by rw[updT_ne n];exact h
theorem Ot.new{q p:Addr}{S:TH}{c:Cell}(h:S p=none):Ot q S (Ad S p c):=fun b d _ e=>by rw[updT_ne (fun z=>by rw[z,h] at e;cases e)];exact e
theorem Wi(mg:Str->Option Value)(pre rem:List T)(t:T):(.ins (cAt mg "Feed") [("things",.lst (pre++t::rem)),("place",.int ((pre.length:Int)+1))]:Cell)=fdC mg (pre++[t]) rem:=by
 unfold fdC
 rw[List.append_assoc,List.singleton_append,List.length_append,List.length_singleton]
 rfl
section
variable{P:Program}{w:World}{K:PySem.W.Frag}{mg:Str->Option Value}{base:Heap}
def O1(mg:Str->Option Value):List T->TH->UX->Prop:=fun ts S Pp=>∃q xs,ts=[.ref q,.lst xs]/\S q=some (.ins (cAt mg "Feed") [])/\Pp .non (Ad S q (fdC mg [] xs))
theorem Wl:Zv ["self","things"] ["self","things"] (Zb (Dq (top 7) 0)):=⟨rfl,rfl,rfl,by decide +kernel,rfl,by decide +kernel,by decide +kernel⟩
theorem initF{m:Nat}(N:Nm P w K mg)(d:G6 K mg (cAt mg "Feed") "Feed" "Feed.__init__" ["self","things"] (Dq (top 7) 0)):HasI P w K mg base (m+1) (cAt mg "Feed") "Feed" ["self","things"] (O1 mg):=by
 have sc:=Wl
 refine Xz (k:=m) d sc (fun ts S Pp h=>?_) fun cdv f A outer s H E hr=>?_
 ·obtain⟨_,_,rfl,_⟩:=h;rfl
 refine⟨_,(Zs (K3 (uv 0) (uv 1))
   (Zo (K3 (uv 0) Zi))),fun ts S Pp h=>?_⟩
 obtain⟨q,xs,rfl,h0,h⟩:=h
 refine⟨_,_,h0,N.Feed_cls,N.Feed_no_things,by decide,_,_,Zd,N.Feed_cls,N.Feed_no_place,?_,?_⟩
 ·exact Nat.lt_of_le_of_lt (show _<=1 from Nat.le_refl _) (by decide)
 ·rw[upd2]
  exact h
def Ii(mg:Str->Option Value):List T->TH->UX->Prop:=fun ts S Pp=>∃q pre rem,ts=[.ref q]/\Fd mg S q pre rem/\Pp (.bl (decide (rem=[]))) S
theorem Wu:Zv ["self"] ["self"] (Zb (Dq (top 7) 1)):=⟨rfl,rfl,rfl,by decide +kernel,rfl,by decide +kernel,by decide +kernel⟩
theorem is_empty{m:Nat}(N:Nm P w K mg)(d:Ck K (cAt mg "Feed") "is_empty" "Feed.is_empty" ["self"] (Dq (top 7) 1)):HasM P w K mg base (m+1) (cAt mg "Feed") "is_empty" ["self"] (Ii mg):=by
 have sc:=Wu
 refine Lk (k:=m) d sc (fun ts S Pp h=>?_) fun cdv f A outer s H E hr=>?_
 ·obtain⟨_,_,_,rfl,_⟩:=h;rfl
 have hu0:=An hr
 refine⟨_,(Zo (Zr (Aai hu0 (Ie (uv 0)) (Zl rfl N.len (Zc (Ie (uv 0)) Zn))))),fun ts S Pp h=>?_⟩
 obtain⟨q,pre,rem,rfl,fd,h⟩:=h
 refine⟨_,_,_,fd,N.Feed_cls,N.Feed_no_place,rfl,_,_,_,fd,N.Feed_cls,N.Feed_no_things,rfl,?_⟩
 have e:decide ((pre.length:Int)=((pre++rem).length:Nat))=decide (rem=[]):=by
  rw[Bool.eq_iff_iff,decide_eq_true_iff,decide_eq_true_iff,List.length_append]
  constructor
  ·intro z;exact List.length_eq_zero_iff.mp (by omega)
  ·rintro rfl;simp
 show Pp (.bl (Bool.xor false (decide ((pre.length:Int)=((pre++rem).length:Nat))))) S
 rw[e,Bool.false_xor]
 exact h
def Ol(mg:Str->Option Value):List T->TH->UX->Prop:=fun ts S Pp=>∃q pre t rem,ts=[.ref q]/\Fd mg S q pre (t::rem)/\Pp t S
theorem Yl:Zv ["self"] ["self"] (Zb (Dq (top 7) 2)):=⟨rfl,rfl,rfl,by decide +kernel,rfl,by decide +kernel,by decide +kernel⟩
theorem ahead{m:Nat}(N:Nm P w K mg)(d:Ck K (cAt mg "Feed") "ahead" "Feed.ahead" ["self"] (Dq (top 7) 2))(c_m_is_empty:HasM P w K mg base m (cAt mg "Feed") "is_empty" ["self"] (Ii mg)):HasM P w K mg base (m+1) (cAt mg "Feed") "ahead" ["self"] (Ol mg):=by
 have sc:=Yl
 refine Lk (k:=m) d sc (fun ts S Pp h=>?_) fun cdv f A outer s H E hr=>?_
 ·obtain⟨_,_,_,_,rfl,_⟩:=h;rfl
 refine⟨_,(Zs (Zg (Xe (Aj c_m_is_empty hr (uv 0))) (Zo Be) Ze)
   (Zo (Zr (Zx (Ie (uv 0)) (Ie (uv 0)))))),fun ts S Pp h=>?_⟩
 obtain⟨q,pre,t,rem,rfl,fd,h⟩:=h
 refine⟨_,fd,rfl,q,pre,t::rem,rfl,fd,no_ (decide_eq_false (by simp)) ⟨_,_,_,fd,N.Feed_cls,N.Feed_no_things,rfl,_,_,_,fd,N.Feed_cls,N.Feed_no_place,rfl,t,?_,h⟩⟩
 exact Xb (by rw[List.getElem?_append_right (Nat.le_refl _),Nat.sub_self];rfl)
def El(mg:Str->Option Value):List T->TH->UX->Prop:=fun ts S Pp=>∃q pre t rem,ts=[.ref q]/\Fd mg S q pre (t::rem)/\Pp t (Ad S q (fdC mg (pre++[t]) rem))
theorem Adm:Zv ["self","thing"] ["self"] (Zb (Dq (top 7) 3)):=⟨rfl,rfl,rfl,by decide +kernel,rfl,by decide +kernel,by decide +kernel⟩
theorem draw{m:Nat}(N:Nm P w K mg)(d:Ck K (cAt mg "Feed") "draw" "Feed.draw" ["self"] (Dq (top 7) 3))(c_m_ahead:HasM P w K mg base m (cAt mg "Feed") "ahead" ["self"] (Ol mg)):HasM P w K mg base (m+1) (cAt mg "Feed") "draw" ["self"] (El mg):=by
 have sc:=Adm
 refine Lk (k:=m) d sc (fun ts S Pp h=>?_) fun cdv f A outer s H E hr=>?_
 ·obtain⟨_,_,_,_,rfl,_⟩:=h;rfl
 refine⟨_,(Zs (Zt 1 sc.nd (Aj c_m_ahead hr (uv 0)))
   (Zs (K3 (uv 0) (Zp (Ie (uv 0)) Zi))
   (Zo (Zr (uv 1))))),fun ts S Pp h=>?_⟩
 obtain⟨q,pre,t,rem,rfl,fd,h⟩:=h
 refine Zj (fun env S'=>env=[some (.ref q),some t]/\S=S') (fun k hk=>⟨_,fd,rfl,q,pre,t,rem,rfl,fd,hk _ _ ⟨rfl,rfl⟩⟩) ?_
 rintro _ _ ⟨rfl,rfl⟩
 refine Zj (fun env S'=>env=[some (.ref q),some t]/\S'=Ad S q (fdC mg (pre++[t]) rem)) (fun k hk=>⟨_,_,_,fd,N.Feed_cls,N.Feed_no_place,rfl,_,_,fd,N.Feed_cls,N.Feed_no_place,?_,?_⟩) ?_
 ·exact Nat.lt_of_le_of_lt (show _<=2 from Nat.le_refl _) (by decide)
 ·refine hk _ _ ⟨rfl,?_⟩
  rw[<-Wi];rfl
 rintro _ _ ⟨rfl,rfl⟩
 exact h
end
end K14
end
section
namespace K14
open PySem PySem.Spec PyProof.Rows L2 TL
seal UE UT UA US USs UI UG UO UW PTs Ag A8
theorem Uv{n:Nat}(h:n<=10):n<=sizeLine:=Xp (by omega)
def Ks:T->Bool
 | .str c=>(!decide (c.cps.toList<("0":Str).cps.toList))&&!decide (("9":Str).cps.toList<c.cps.toList)
 |_=>false
theorem Ri{z:Str}{x:T}(h:x∈Ba z):∃c:Str,x=.str c:=by
 unfold Ba at h
 obtain⟨c,_,rfl⟩:=List.mem_map.mp h
 exact⟨_,rfl⟩
theorem Sb{i:Int}(h0:0<=i)(h1:i<=99):(numS i).length<=2/\(Ba (numS i)).all Ks=true/\∃c r,(numS i).cps.toList=c::r/\(c=48->numS i="0"):=by
 have all:∀n:Nat,n<100->(numS (n:Int)).length<=2/\(Ba (numS (n:Int))).all Ks=true/\(numS (n:Int)).cps.toList≠[]/\((numS (n:Int)).cps.toList.head?=some 48->numS (n:Int)="0"):=by decide +kernel
 have:=all i.toNat (by omega)
 rw[Int.toNat_of_nonneg h0] at this
 refine⟨this.1,this.2.1,?_⟩
 cases e:(numS i).cps.toList with
 |nil=>exact absurd e this.2.2.1
 |cons c r=>exact⟨c,r,rfl,fun z=>this.2.2.2 (by rw[e,z];rfl)⟩
section
variable{P:Program}{w:World}{K:PySem.W.Frag}{mg:Str->Option Value}{base:Heap}
def Ga:List T->TH->UX->Prop:=fun ts S Pp=>∃i:Int,ts=[.str (numS i)]/\0<=i/\i<=99/\Pp (.int i) S
theorem Of:Zv ["word"] ["word"] (Zb (top 53)):=⟨rfl,rfl,rfl,by decide +kernel,rfl,by decide +kernel,by decide +kernel⟩
theorem number_of{m:Nat}(N:Nm P w K mg)(d:Aa K mg "number_of" ["word"] (top 53)):Has P w K mg base (m+1) "number_of" ["word"] Ga:=by
 have sc:=Of
 refine Ab (k:=m) d sc (fun ts S Pp h=>?_) fun cdv f A outer s H E hr=>?_
 ·obtain⟨_,rfl,_⟩:=h;rfl
 have hu0:=An hr
 refine⟨_,(Zs (Zg (UW.ut (Gp (Cz (Zl rfl N.len (Zc (uv 0) Zn)) (A1 rfl N.MOST_FIGURES)) (Xs (Ap (Xe (D2 rfl rfl N.all (Zc (Xg 0 ["sign"] [none] rfl (Xu (uv 0)) (fun _ _ _ _ _=>Ah) (fun _ _ _ _ _=>(Dm Zq (uv 0) Zq))) Zn))))))) (Zo Be) Ze)
   (Zs (Zg (UW.ut (Dd (Xf hu0 (Zx (uv 0) Zi) Zq) (Cn (Kh hu0 (uv 0) Zq)))) (Zo Be) Ze)
   (Zo (Zr (Y8 rfl N.int (Zc (uv 0) Zn)))))),fun ts S Pp h=>?_⟩
 obtain⟨i,rfl,h0,h1,h⟩:=h
 obtain⟨f1,f2,c,r,f3,f4⟩:=Sb h0 h1
 have hl:(numS i).length<=sizeLine:=Uv (by omega)
 refine Zj (fun env S'=>env=[some (.str (numS i))]/\S=S') (fun k hk=>⟨hl,no_ (decide_eq_false (by show ¬ ((numS i).length:Int) > 2;omega)) ?_⟩) ?_
 ·refine Bs (ts:=Ba (numS i)) (f:=fun t=>some (.bl (Ks t))) (fun k hk=>hk) (by rw[Em];exact hl) (fun x hx A B hA hB=>⟨fun _=>?_,fun z=>(by cases z)⟩) ?_
  ·obtain⟨c,rfl⟩:=Ri hx
   have hA:=hA _ rfl
   cases e1:(!decide (c.cps.toList<("0":Str).cps.toList)) with
   |true =>
    refine yes_ e1 ?_
    have:Ks (.str c)=!decide (("9":Str).cps.toList<c.cps.toList):=by show (_&&_)=_;rw[e1,Bool.true_and]
    rw[this] at hA
    exact hA
   |false =>
    refine no_ e1 ?_
    have:Ks (.str c)=false:=by show (_&&_)=_;rw[e1,Bool.false_and]
    rw[this] at hA
    exact hA
  ·unfold Cu
   refine Ft Ks ?_
   rw[f2]
   exact no_ rfl (hk _ _ ⟨rfl,rfl⟩)
 rintro _ _ ⟨rfl,rfl⟩
 refine Zj (fun env S'=>env=[some (.str (numS i))]/\S=S') (fun k hk=>⟨hl,c,Xb (j:=0) (by rw[f3];rfl),⟨fun z=>?_,fun z=>no_ rfl (hk _ _ ⟨rfl,rfl⟩)⟩⟩) ?_
 ·have z:(⟨#[c]⟩:Str)="0":=by simpa using z
  have zc:c=48:=by
   have q:[c]=[48]:=congrArg (fun s:Str=>s.cps.toList) z
   exact(List.cons.inj q).1
  have e:=f4 zc
  exact no_ (by rw[e];rfl) (hk _ _ ⟨rfl,rfl⟩)
 rintro _ _ ⟨rfl,rfl⟩
 exact⟨i,rfl,h0,by omega,h⟩
inductive Pt:Str->T->Str->Prop where
 |num {k:Str} {i:Int}:(k="number"\/k="count")->0<=i->i<=99->Pt k (.int i) (numS i)
 |nam {k x:Str}:k≠"value"->k≠"number"->k≠"count"->Pt k (.str x) x
def U5(mg:Str->Option Value):List T->TH->UX->Prop:=fun ts S Pp=>∃q pre rem k t z,ts=[.ref q,.str k]/\Fd mg S q pre (.str z::rem)/\Pt k t z/\Pp t (Ad S q (fdC mg (pre++[.str z]) rem))
theorem M4:Zv ["feed","kind"] ["feed","kind"] (Zb (top 52)):=⟨rfl,rfl,rfl,by decide +kernel,rfl,by decide +kernel,by decide +kernel⟩
abbrev V4:List T->TH->UX->Prop:=fun _ _ _=>False
theorem Uc{m:Nat}(N:Nm P w K mg)(d:Aa K mg "part_of" ["feed","kind"] (top 52))(c_value_of:Has P w K mg base m "value_of" ["feed"] V4)(c_number_of:Has P w K mg base m "number_of" ["word"] Ga)(c_m_draw:HasM P w K mg base m (cAt mg "Feed") "draw" ["self"] (El mg)):Has P w K mg base (m+1) "part_of" ["feed","kind"] (U5 mg):=by
 have sc:=M4
 refine Ab (k:=m) d sc (fun ts S Pp h=>?_) fun cdv f A outer s H E hr=>?_
 ·obtain⟨_,_,_,_,_,_,rfl,_⟩:=h;rfl
 have hu0:=An hr
 refine⟨_,(Zs (Zg (Xf hu0 (uv 1) Zq) (Zo (Zr (Zf c_value_of hr rfl (Zc (uv 0) Zn)))) Ze)
   (Zs (Zg (Kk (uv 1) (O3 rfl N.NUMBER_KINDS)) (Zo (Zr (Zf c_number_of hr rfl (Zc (Aj c_m_draw hr (uv 0)) Zn)))) Ze)
   (Zo (Zr (Aj c_m_draw hr (uv 0)))))),fun ts S Pp h=>?_⟩
 obtain⟨q,pre,rem,k,t,z,rfl,fd,pt,h⟩:=h
 cases pt with
 |num hk h0 h1 =>
  rename_i i
  have kv:k≠"value":=fun z=>by rcases hk with e|e <;> (rw[e] at z;exact absurd z (by decide))
  refine Zj (fun env S'=>env=[some (.ref q),some (.str k)]/\S=S') (fun kk hkk=>no_ (by show Bool.xor false (decide (k="value"))=false;rw[decide_eq_false kv];rfl) (hkk _ _ ⟨rfl,rfl⟩)) ?_
  rintro _ _ ⟨rfl,rfl⟩
  refine Zj (fun _ _=>False) (fun kk hkk=>⟨["number","count"],rfl,yes_ ?_ ⟨_,fd,rfl,q,pre,_,rem,rfl,fd,i,rfl,h0,h1,h⟩⟩) (fun _ _ z=>z.elim)
  rcases hk with rfl|rfl <;> rfl
 |nam k1 k2 k3 =>
  refine Zj (fun env S'=>env=[some (.ref q),some (.str k)]/\S=S') (fun kk hkk=>no_ (by show Bool.xor false (decide (k="value"))=false;rw[decide_eq_false k1];rfl) (hkk _ _ ⟨rfl,rfl⟩)) ?_
  rintro _ _ ⟨rfl,rfl⟩
  refine Zj (fun env S'=>env=[some (.ref q),some (.str k)]/\S=S') (fun kk hkk=>⟨["number","count"],rfl,no_ ?_ (hkk _ _ ⟨rfl,rfl⟩)⟩) ?_
  ·have:k ∉ (["number","count"]:List Str):=by simp[k2,k3]
   rw[decide_eq_false this];rfl
  rintro _ _ ⟨rfl,rfl⟩
  exact⟨_,fd,rfl,q,pre,_,rem,rfl,fd,h⟩
end
end K14
end
section
namespace K14
open PySem PySem.Spec PyProof.Rows L2 TL
seal UE UT UA US USs UI UG UO UW PTs Ag A8
inductive Leaf:T->Prop where
 |num {i:Int}:0<=i->i<=99->Leaf (.tup [.str "number",.int i])
 |own {x:Str}:Leaf (.tup [.str "own",.str x])
 |box {x:Str}:Leaf (.tup [.str "box",.str x])
def Two(z:Str):Prop:=z="plus"\/z="minus"\/z="less"\/z="same"
inductive Pcs:T->List T->Prop where
 |leaf {t:T}:Leaf t->Pcs t [t]
 |neg {a:T} {p:List T}:Pcs a p->Pcs (.tup [.str "not",a]) (.tup [.str "not"]::p)
 |two {z:Str} {a b:T} {p q:List T}:Two z->Pcs a p->Pcs b q->Pcs (.tup [.str z,a,b]) (.tup [.str z]::(p++q))
inductive PcsL:List T->List T->Prop where
 |nil:PcsL [] []
 |cons {t:T} {ts p q:List T}:Pcs t p->PcsL ts q->PcsL (t::ts) (p++q)
theorem Ew(n:Nat):2<=2 ^ (n+1):=by
 rw[Nat.pow_succ]
 have:=Nat.one_le_two_pow (n:=n)
 omega
theorem Adv{ow bx:List Str}{n:Nat}{t:T}(h:VF ow bx n t):∃p,Pcs t p/\p.length+1<=2 ^ n:=by
 induction h with
 | @num n i a b=>exact⟨_,.leaf (.num a b),Ew n⟩
 | @own n x _=>exact⟨_,.leaf .own,Ew n⟩
 | @box n x _=>exact⟨_,.leaf .box,Ew n⟩
 |neg _ ih =>
  obtain⟨p,h,l⟩:=ih
  refine⟨_,.neg h,?_⟩
  rw[List.length_cons,Nat.pow_succ]
  omega
 |two hz _ _ ih1 ih2 =>
  obtain⟨p,h1,l1⟩:=ih1
  obtain⟨q,h2,l2⟩:=ih2
  refine⟨_,.two hz h1 h2,?_⟩
  rw[List.length_cons,List.length_append,Nat.pow_succ]
  omega
inductive Stp1:List T->T->List T->Prop where
 |leaf {M:List T} {t:T}:Leaf t->Stp1 M t (M++[t])
 |neg {M:List T} {a:T}:Stp1 (M++[a]) (.tup [.str "not"]) (M++[.tup [.str "not",a]])
 |two {M:List T} {z:Str} {a b:T}:Two z->Stp1 (M++[b,a]) (.tup [.str z]) (M++[.tup [.str z,a,b]])
inductive Runs:List T->List T->List T->Prop where
 |nil {M:List T}:Runs M [] M
 |cons {M M1 M2 l:List T} {x:T}:Stp1 M x M1->Runs M1 l M2->Runs M (x::l) M2
theorem Runs.app{M M1 M2 l l':List T}(h:Runs M l M1)(h':Runs M1 l' M2):Runs M (l++l') M2:=by
 induction h with
 |nil=>exact h'
 |cons s _ ih=>exact .cons s (ih h')
theorem Runs.one{M M1:List T}{x:T}(h:Stp1 M x M1):Runs M [x] M1:=.cons h .nil
theorem Td{t:T}{p:List T}(h:Pcs t p):∀M,Runs M p.reverse (M++[t]):=by
 induction h with
 |leaf hl=>intro M;exact .one (.leaf hl)
 |neg _ ih =>
  intro M
  rw[List.reverse_cons]
  exact(ih M).app (.one .neg)
 | @two z a b p q hz _ _ ih1 ih2 =>
  intro M
  rw[List.reverse_cons,List.reverse_append]
  refine((ih2 M).app (ih1 (M++[b]))).app (.one ?_)
  rw[List.append_assoc]
  exact .two hz
section
variable{P:Program}{w:World}{K:PySem.W.Frag}{mg:Str->Option Value}{base:Heap}
theorem Kx{n k:Nat}{x:T}(e:(Mr n)[k]?=some x):k<n/\x=.int (k:Int):=by
 have hl:=(List.getElem?_eq_some_iff.mp e).1
 rw[Zh] at hl
 rw[Iw hl] at e
 exact⟨hl,(Option.some.inj e).symm⟩
theorem kv{wd:Str}{ks:List Str}(h:Aw wd=some ks):valT C9 (Sum.inr wd)=some (.tup (ks.map T.str)):=by rw[Jm,h];rfl
def Aaf:T->Nat
 | .tup [.str z]=>if z="not" then 1 else 2
 |_=>0
theorem Lx{M M1:List T}{x:T}(h:Stp1 M x M1):∃z r ks,x=.tup (.str z::r)/\Aw z=some ks/\(ks.countP fun y:Str=>y=="value")=Aaf x:=by
 cases h with
 |leaf hl=>cases hl <;> exact⟨_,_,_,rfl,rfl,rfl⟩
 |neg=>exact⟨_,_,_,rfl,rfl,rfl⟩
 |two hz=>rcases hz with rfl|rfl|rfl|rfl <;> exact⟨_,_,_,rfl,rfl,rfl⟩
theorem V7{M M1:List T}{x:T}(h:Stp1 M x M1):∃xs M0 ws,x=.tup xs/\xs.length<=2/\M=M0++ws.reverse/\ws.length=Aaf x/\ws.length<=2/\M1=M0++[.tup (xs++ws)]:=by
 cases h with
 |leaf hl=>cases hl <;> exact⟨_,M,[],rfl,Nat.le_refl _,(List.append_nil _).symm,rfl,Nat.zero_le _,rfl⟩
 | @neg M0 a=>exact⟨_,M0,[a],rfl,show 1<=2 by decide,rfl,rfl,show 1<=2 by decide,rfl⟩
 | @two M0 z a b hz=>
  refine⟨_,M0,[a,b],rfl,show 1<=2 by decide,rfl,?_,Nat.le_refl _,rfl⟩
  rcases hz with rfl|rfl|rfl|rfl <;> rfl
def V6:List T->TH->UX->Prop:=fun ts S Pp=>∃z r ks,ts=[.tup (.str z::r)]/\Aw z=some ks/\Pp (.int ((ks.countP fun y:Str=>y=="value":Nat):Int)) S
theorem Ace:Zv ["piece"] ["piece"] (Zb (top 56)):=⟨rfl,rfl,rfl,by decide +kernel,rfl,by decide +kernel,by decide +kernel⟩
theorem many_within{m:Nat}(N:Nm P w K mg)(d:Aa K mg "many_within" ["piece"] (top 56)):Has P w K mg base (m+1) "many_within" ["piece"] V6:=by
 have sc:=Ace
 refine Ab (k:=m) d sc (fun ts S Pp h=>?_) fun cdv f A outer s H E hr=>?_
 ·obtain⟨_,_,_,rfl,_⟩:=h;rfl
 have hu0:=An hr
 refine⟨_,(Zo (Zr (R3 hu0 (Aci rfl N.VALUE_PARTS (Zx (uv 0) Zi)) (Zc Zq Zn)))),fun ts S Pp h=>?_⟩
 obtain⟨z,r,ks,rfl,hk,h⟩:=h
 exact⟨_,at0,Sum.inr z,_,rfl,kv hk,ks,rfl,"value",rfl,h⟩
def Pm:List T->TH->UX->Prop:=fun ts S Pp=>∃t p,ts=[.lst p]/\Pcs t p/\p.length<=1000/\∀S',(∀b c,S b=some c->S' b=some c)->Pp t S'
theorem V1:Zv ["pieces","made","piece","within"] ["pieces"] (Zb (top 57)):=⟨rfl,rfl,rfl,by decide +kernel,rfl,by decide +kernel,by decide +kernel⟩
theorem value_of_pieces{m:Nat}(N:Nm P w K mg)(d:Aa K mg "value_of_pieces" ["pieces"] (top 57))(c_many_within:Has P w K mg base m "many_within" ["piece"] V6):Has P w K mg base (m+1) "value_of_pieces" ["pieces"] Pm:=by
 have sc:=V1
 refine Ab (k:=m) d sc (fun ts S Pp h=>?_) fun cdv f A outer s H E hr=>?_
 ·obtain⟨_,_,rfl,_⟩:=h;rfl
 refine⟨_,(Zs (Zt 1 sc.nd (Bu Zn))
   (Zs (Cy PassesOwn.never rfl (Adr rfl N.reversed (Zc (uv 0) Zn)) (Cm 2 sc.nd) (Zs (Cp 3 sc.nd 0 ["turn","made"] [none,some 1] rfl (B7 rfl N.range (Zc (Zf c_many_within hr rfl (Zc (uv 2) Zn)) Zn)) (fun _ _ _ _ _=>Ah) (fun _ _ _ _ _=>(Abu (uv 1))))
   (Zo (Bb (A5 (uv 1) (Zc (Zp (uv 2) (A6 rfl N.tuple (Zc (uv 3) Zn))) Zn))))))
   (Zo (Zr (Zx (uv 1) Zi))))),fun ts S Pp h=>?_⟩
 obtain⟨t,p,rfl,hp,hl,h⟩:=h
 have run:=Td hp []
 let e0:Option T:=some (.lst p)
 refine Zj (fun env S1=>∃r,env=[e0,some (.ref r),none,none]/\S r=none/\S1=Ad S r (.lst [])) (fun k hk=>⟨show 0<=sizeLine by decide,fun r hr'=>hk _ _ ⟨r,rfl,hr',rfl⟩⟩) ?_
 rintro _ _ ⟨r,rfl,er0,rfl⟩
 let B:Nat->Ev->TH->Prop:=fun k env S'=>∃M,(∃a b,env=[e0,some (.ref r),a,b])/\(∀b c,S b=some c->S' b=some c)/\S' r=some (.lst M)/\Runs M (p.reverse.drop k) [t]/\M.length<=k
 refine Zj (B p.length) (fun k hk=>⟨p,rfl,B,⟨[],⟨_,_,rfl⟩,fun b c e=>by rw[updT_ne (fun z=>by rw[z,er0] at e;cases e)];exact e,Zd,run,Nat.le_refl _⟩,?_,?_⟩) ?_
 ·rintro k x env S1 ek ⟨M,⟨a,b,rfl⟩,k1,er,rn,lm⟩
  have hk:k<p.reverse.length:=(List.getElem?_eq_some_iff.mp ek).1
  rw[List.length_reverse] at hk
  have ed:p.reverse.drop k=x::p.reverse.drop (k+1):=List.drop_eq_getElem?_toList_append.trans (by rw[ek];rfl)
  rw[ed] at rn
  cases rn with
  |cons st rest =>
   rename_i Mn
   obtain⟨z,r2,ks,ex,hks,hc⟩:=Lx st
   obtain⟨xs,M0,ws,exs,lx,eM,lw,lw2,eM1⟩:=V7 st
   have lM:M.length=M0.length+ws.length:=by rw[eM,List.length_append,List.length_reverse]
   refine Zj (fun env S'=>env=[e0,some (.ref r),some x,some (.lst ws)]/\(∀b c,S b=some c->S' b=some c)/\S' r=some (.lst M0)) (fun kk hkk=>?_) ?_
   ·refine E5 (S1:=S1) (Mr ws.length) (fun j acc S'=>acc=ws.take j/\(∀b c,S b=some c->S' b=some c)/\S' r=some (.lst (M0++(ws.drop j).reverse))) (fun k' hk'=>?_) (by rw[Zh];exact Uv (by omega)) ⟨rfl,k1,by rw[er,eM];rfl⟩ ?_ ?_
    ·refine⟨z,r2,ks,by rw[ex],hks,?_⟩
     rw[hc,<-lw]
     exact⟨by omega,by omega,by rw[Int.toNat_natCast];exact hk'⟩
    ·rintro j y acc S' ej ⟨rfl,k2,er2⟩
     obtain⟨hj,rfl⟩:=Kx ej
     have edr:ws.drop j=ws[j]::ws.drop (j+1):=List.drop_eq_getElem_cons hj
     have er3:(M0++(ws.drop j).reverse)=(M0++(ws.drop (j+1)).reverse)++[ws[j]]:=by rw[edr,List.reverse_cons,List.append_assoc]
     refine⟨fun _=>⟨_,ws[j],er2,?_,?_,fun b c e=>?_,?_⟩,fun z=>(by cases z)⟩
     ·rw[er3,List.length_append,List.length_singleton,Nat.add_sub_cancel,List.getElem?_append_right (Nat.le_refl _),Nat.sub_self];rfl
     ·rw[List.take_add_one,List.getElem?_eq_getElem hj];rfl
     ·rw[updT_ne (fun z=>by rw[z,er0] at e;cases e)];exact k2 b c e
     ·rw[er3,List.dropLast_concat];exact Zd
    ·rintro acc S' ⟨rfl,k2,er2⟩
     rw[Zh] at er2 ⊢
     rw[List.take_length]
     rw[List.drop_length,List.reverse_nil,List.append_nil] at er2
     exact hkk _ _ ⟨rfl,k2,er2⟩
   rintro _ S2 ⟨rfl,k2,er2⟩
   subst exs
   have hM1:S2 r=some (.lst M0):=er2
   refine⟨⟨_,er2⟩,?_⟩
   refine⟨Uv (by omega),M0,er2,Nat.lt_of_le_of_lt (show M0.length<=1000 by omega) (by decide),Mn,⟨_,_,rfl⟩,fun b c e=>?_,?_,rest,?_⟩
   ·rw[updT_ne (fun z=>by rw[z,er0] at e;cases e)];exact k2 b c e
   ·rw[eM1];exact Zd
   ·rw[eM1,List.length_append,List.length_singleton]
    omega
 ·rw[List.length_reverse]
  intro env S1 hB
  exact hk _ _ hB
 rintro _ S1 ⟨M,⟨a,b,rfl⟩,k1,er,rn,lm⟩
 rw[List.drop_of_length_le (by rw[List.length_reverse];exact Nat.le_refl _)] at rn
 cases rn
 exact⟨_,er,t,at0,h S1 k1⟩
end
end K14
end
section
namespace K14
open PySem PySem.Spec PyProof.Rows L2 TL
seal UE UT UA US USs UI UG UO UW PTs Ag A8
abbrev sW(ws:List Str):List T:=ws.map T.str
inductive Pw:T->List Str->Prop where
 |leaf {z k:Str} {x:T} {zx:Str}:Aw z=some [k]->Pt k x zx->Pw (.tup [.str z,x]) [z,zx]
 |opn {z:Str} {ks:List Str}:Aw z=some ks->("value":Str)∈ks->Pw (.tup [.str z]) [z]
theorem Yw{t:T}(h:Leaf t):∃z zx,Pw t [z,zx]/\wordsT t=[z,zx]/\∃r ks,t=.tup (.str z::r)/\Aw z=some ks/\(ks.countP fun y:Str=>y=="value")=0:=by
 cases h with
 | @num i a b=>exact⟨_,_,.leaf rfl (.num (.inl rfl) a b),by simp[wordsT,wordsL],_,_,rfl,rfl,rfl⟩
 | @own x=>exact⟨"own",x,.leaf rfl (.nam (by decide) (by decide) (by decide)),by simp[wordsT,wordsL],_,_,rfl,rfl,rfl⟩
 | @box x=>exact⟨"box",x,.leaf rfl (.nam (by decide) (by decide) (by decide)),by simp[wordsT,wordsL],_,_,rfl,rfl,rfl⟩
theorem J0{z:Str}(h:Two z):Aw z=some (["value","value"]:List Str):=by rcases h with rfl|rfl|rfl|rfl <;> rfl
section
variable{P:Program}{w:World}{K:PySem.W.Frag}{mg:Str->Option Value}{base:Heap}
def Ty(mg:Str->Option Value):List T->TH->UX->Prop:=fun ts S Pp=>∃q pre rem x ws,ts=[.ref q]/\Fd mg S q pre (sW ws++rem)/\Pw x ws/\∀S' pre',Fd mg S' q pre' rem->Ot q S S'->Pp x S'
theorem X7:Zv ["feed","word","kinds"] ["feed"] (Zb (top 55)):=⟨rfl,rfl,rfl,by decide +kernel,rfl,by decide +kernel,by decide +kernel⟩
theorem piece_of{m:Nat}(N:Nm P w K mg)(d:Aa K mg "piece_of" ["feed"] (top 55))(c_part_of:Has P w K mg base m "part_of" ["feed","kind"] (U5 mg))(c_m_draw:HasM P w K mg base m (cAt mg "Feed") "draw" ["self"] (El mg)):Has P w K mg base (m+1) "piece_of" ["feed"] (Ty mg):=by
 have sc:=X7
 refine Ab (k:=m) d sc (fun ts S Pp h=>?_) fun cdv f A outer s H E hr=>?_
 ·obtain⟨_,_,_,_,_,rfl,_⟩:=h;rfl
 refine⟨_,(Zs (Zt 1 sc.nd (Aj c_m_draw hr (uv 0)))
   (Zs (Zt 2 sc.nd (Fa rfl N.VALUE_PARTS (uv 1) ⟨rfl,rfl,rfl,rfl⟩))
   (Zs (Zg (K7 (uv 2) F1) (Zo Be) Ze)
   (Zs (Zg (Kk Zq (uv 2)) (Zo (Zr (Zu (Zc (uv 1) Zn)))) Ze)
   (Zo (Zr (Zu (Zc (uv 1) (Zc (Zf c_part_of hr rfl (Zc (uv 0) (Zc (Zx (uv 2) Zi) Zn))) Zn))))))))),fun ts S Pp h=>?_⟩
 obtain⟨q,pre,rem,x,ws,rfl,fd,pw,h⟩:=h
 have o2:2<=sizeLine:=by decide
 have o1:1<=sizeLine:=by decide
 cases pw with
 | @leaf z k x zx hk pt =>
  have fd:Fd mg S q pre (.str z::.str zx::rem):=fd
  refine Zj (fun env S'=>env=[some (.ref q),some (.str z),none]/\S'=Ad S q (fdC mg (pre++[.str z]) (.str zx::rem))) (fun kk hkk=>⟨_,fd,rfl,q,pre,_,_,rfl,fd,hkk _ _ ⟨rfl,rfl⟩⟩) ?_
  rintro _ _ ⟨rfl,rfl⟩
  refine Zj (fun env S'=>env=[some (.ref q),some (.str z),some (.tup [.str k])]/\S'=Ad S q (fdC mg (pre++[.str z]) (.str zx::rem))) (fun kk hkk=>?_) ?_
  ·show kk [some (.ref q),some (.str z),some ((valT C9 (Sum.inr z)).getD .non)] _
   rw[kv hk]
   exact hkk _ _ ⟨rfl,rfl⟩
  rintro _ _ ⟨rfl,rfl⟩
  refine Zj (fun env S'=>env=[some (.ref q),some (.str z),some (.tup [.str k])]/\S'=Ad S q (fdC mg (pre++[.str z]) (.str zx::rem))) (fun kk hkk=>no_ rfl (hkk _ _ ⟨rfl,rfl⟩)) ?_
  rintro _ _ ⟨rfl,rfl⟩
  have kn:k≠"value":=by
   cases pt with
   |num hk _ _=>rcases hk with rfl|rfl <;> decide
   |nam h1 _ _=>exact h1
  refine Zj (fun env S'=>env=[some (.ref q),some (.str z),some (.tup [.str k])]/\S'=Ad S q (fdC mg (pre++[.str z]) (.str zx::rem))) (fun kk hkk=>⟨[k],rfl,no_ ?_ (hkk _ _ ⟨rfl,rfl⟩)⟩) ?_
  ·have:("value":Str) ∉ ([k]:List Str):=fun z=>kn (List.mem_singleton.mp z).symm
   rw[decide_eq_false this];rfl
  rintro _ _ ⟨rfl,rfl⟩
  have fd2:Fd mg (Ad S q (fdC mg (pre++[T.str z]) (T.str zx::rem))) q (pre++[T.str z]) (T.str zx::rem):=Zd
  refine⟨_,at0,q,pre++[T.str z],rem,k,x,zx,rfl,fd2,pt,o2,h _ (pre++[T.str z]++[T.str zx]) ?_ (Ot.upd.trans Ot.upd)⟩
  exact Zd
 | @opn z ks hk hv =>
  have fd:Fd mg S q pre (.str z::rem):=fd
  refine Zj (fun env S'=>env=[some (.ref q),some (.str z),none]/\S'=Ad S q (fdC mg (pre++[.str z]) rem)) (fun kk hkk=>⟨_,fd,rfl,q,pre,_,_,rfl,fd,hkk _ _ ⟨rfl,rfl⟩⟩) ?_
  rintro _ _ ⟨rfl,rfl⟩
  refine Zj (fun env S'=>env=[some (.ref q),some (.str z),some (.tup (sW ks))]/\S'=Ad S q (fdC mg (pre++[.str z]) rem)) (fun kk hkk=>?_) ?_
  ·show kk [some (.ref q),some (.str z),some ((valT C9 (Sum.inr z)).getD .non)] _
   rw[kv hk]
   exact hkk _ _ ⟨rfl,rfl⟩
  rintro _ _ ⟨rfl,rfl⟩
  refine Zj (fun env S'=>env=[some (.ref q),some (.str z),some (.tup (sW ks))]/\S'=Ad S q (fdC mg (pre++[.str z]) rem)) (fun kk hkk=>no_ rfl (hkk _ _ ⟨rfl,rfl⟩)) ?_
  rintro _ _ ⟨rfl,rfl⟩
  refine Zj (fun _ _=>False) (fun kk hkk=>⟨ks,C2 ks,yes_ ?_ ⟨o1,h _ _ Zd Ot.upd⟩⟩) (fun _ _ z=>z.elim)
  rw[decide_eq_true hv];rfl
def L9(mg:Str->Option Value):List T->TH->UX->Prop:=fun ts S Pp=>∃q pre rem t p,ts=[.ref q]/\Pcs t p/\p.length<=900/\Fd mg S q pre (sW (wordsT t)++rem)/\∀S' pre',Fd mg S' q pre' rem->Ot q S S'->Pp t S'
theorem Qy:Zv ["feed","pieces","lacking","piece"] ["feed"] (Zb (top 54)):=⟨rfl,rfl,rfl,by decide +kernel,rfl,by decide +kernel,by decide +kernel⟩
theorem value_of{m:Nat}(N:Nm P w K mg)(d:Aa K mg "value_of" ["feed"] (top 54))(c_piece_of:Has P w K mg base m "piece_of" ["feed"] (Ty mg))(c_many_within:Has P w K mg base m "many_within" ["piece"] V6)(c_value_of_pieces:Has P w K mg base m "value_of_pieces" ["pieces"] Pm):Has P w K mg base (m+1) "value_of" ["feed"] (L9 mg):=by
 have sc:=Qy
 refine Ab (k:=m) d sc (fun ts S Pp h=>?_) fun cdv f A outer s H E hr=>?_
 ·obtain⟨_,_,_,_,_,rfl,_⟩:=h;rfl
 refine⟨_,(Zs (Zt 1 sc.nd (Bu Zn))
   (Zs (Zt 2 sc.nd Zi)
   (Zs (D0 PassesOwn.never (Cz (uv 2) Zi) (Zs (Zt 3 sc.nd (Zf c_piece_of hr rfl (Zc (uv 0) Zn)))
   (Zs (Bb (A5 (uv 1) (Zc (uv 3) Zn)))
   (Zo (Zt 2 sc.nd (Zp (Cf (uv 2) Zi) (Zf c_many_within hr rfl (Zc (uv 3) Zn))))))))
   (Zo (Zr (Zf c_value_of_pieces hr rfl (Zc (Dl (uv 1)) Zn))))))),fun ts S Pp h=>?_⟩
 obtain⟨q,pre,rem,t,p,rfl,hp,lp,fd,h⟩:=h
 let e0:Option T:=some (.ref q)
 refine Zj (fun env S1=>∃r,env=[e0,some (.ref r),none,none]/\S r=none/\S1=Ad S r (.lst [])) (fun k hk=>⟨show 0<=sizeLine by decide,fun r hr'=>hk _ _ ⟨r,rfl,hr',rfl⟩⟩) ?_
 rintro _ _ ⟨r,rfl,er0,rfl⟩
 have nq:q≠r:=fun z=>by rw[<-z] at er0;rw[show S q=_ from fd] at er0;cases er0
 let e1:Option T:=some (.ref r)
 refine Zj (fun env S1=>env=[e0,e1,some (.int 1),none]/\S1=Ad S r (.lst [])) (fun k hk=>hk _ _ ⟨rfl,rfl⟩) ?_
 rintro _ _ ⟨rfl,rfl⟩
 let B:Nat->Ev->TH->Prop:=fun n env S'=>∃fs qs ps pre' e3,env=[e0,e1,some (.int (fs.length:Int)),e3]/\Fd mg S' q pre' (sW (wordsL fs)++rem)/\PcsL fs qs/\ps++qs=p/\n=qs.length/\S' r=some (.lst ps)/\Ot q S S'
 have start:B p.length [e0,e1,some (.int 1),none] (Ad S r (.lst [])):=by
  refine⟨[t],p,[],pre,none,rfl,?_,?_,rfl,rfl,Zd,Ot.new er0⟩
  ·show Ad S r (.lst []) q=_
   rw[updT_ne nq]
   have:wordsL [t]=wordsT t:=by simp[wordsL]
   rw[this]
   exact fd
  ·have:=PcsL.cons hp .nil
   rwa [List.append_nil] at this
 refine Zj (fun env S'=>∃pre' e2 e3,env=[e0,e1,e2,e3]/\Fd mg S' q pre' rem/\S' r=some (.lst p)/\Ot q S S') (fun kk hkk=>⟨B,⟨_,start⟩,?_⟩) ?_
 ·rintro n env S1 ⟨fs,qs,ps,pre1,e3,rfl,fd1,hf,eq,rfl,er,ot⟩
  cases hf with
  |nil =>
   refine no_ (decide_eq_false (by show ¬ ((0:Nat):Int) > 0;omega)) (hkk _ _ ⟨pre1,_,_,rfl,?_,?_,ot⟩)
   ·exact fd1
   ·rw[List.append_nil] at eq
    rw[<-eq];exact er
  | @cons v fs' pv qv hv hr' =>
   refine yes_ (decide_eq_true (by show ((fs'.length+1:Nat):Int) > 0;omega)) ?_
   have go:∃x ws gs qs',Pw x ws/\sW (wordsL (v::fs'))=sW ws++sW (wordsL gs)/\PcsL gs qs'/\pv++qv=x::qs'/\∃z r2 ks,x=.tup (.str z::r2)/\Aw z=some ks/\(fs'.length:Int)+((ks.countP fun y:Str=>y=="value":Nat):Int)=gs.length:=by
    cases hv with
    |leaf hl =>
     obtain⟨z,zx,pw,ew,r2,ks,ex,hk,hc⟩:=Yw hl
     refine⟨v,[z,zx],fs',qv,pw,?_,hr',rfl,z,r2,ks,ex,hk,?_⟩
     ·show sW (wordsT v++wordsL fs')=_
      rw[ew];rfl
     ·rw[hc];simp
    | @neg a pa ha =>
     refine⟨.tup [.str "not"],["not"],a::fs',pa++qv,.opn (ks:=(["value"]:List Str)) rfl (by decide),?_,.cons ha hr',rfl,"not",[],["value"],rfl,rfl,?_⟩
     ·simp[wordsL,wordsT]
     ·show (fs'.length:Int)+((1:Nat):Int)=((fs'.length+1:Nat):Int);omega
    | @two z a b pa pb hz ha hb =>
     refine⟨.tup [.str z],[z],a::b::fs',pa++(pb++qv),.opn (J0 hz) (by decide),?_,.cons ha (.cons hb hr'),by simp,z,[],_,rfl,J0 hz,?_⟩
     ·simp[wordsL,wordsT]
     ·show (fs'.length:Int)+((2:Nat):Int)=((fs'.length+1+1:Nat):Int);omega
   obtain⟨x,ws,gs,qs',pw,ew,hg,eqs,z,r2,ks,ex,hk,hc⟩:=go
   have lps:ps.length<=900:=by
    have:=congrArg List.length eq
    rw[List.length_append] at this
    omega
   refine Zj (fun env S'=>∃pre2,env=[e0,e1,some (.int ((fs'.length+1:Nat):Int)),some x]/\Fd mg S' q pre2 (sW (wordsL gs)++rem)/\S' r=some (.lst ps)/\Ot q S S') (fun k hk=>⟨q,pre1,sW (wordsL gs)++rem,x,ws,rfl,?_,pw,fun S' pre' fd' ot'=>hk _ _ ⟨pre',rfl,fd',ot' r _ nq.symm er,ot.trans ot'⟩⟩) ?_
   ·rw[<-List.append_assoc,<-ew];exact fd1
   rintro _ S2 ⟨pre2,rfl,fd2,er2,ot2⟩
   refine Zj (fun env S'=>env=[e0,e1,some (.int ((fs'.length+1:Nat):Int)),some x]/\S'=Ad S2 r (.lst (ps++[x]))) (fun k hk=>⟨⟨_,er2⟩,ps,er2,Xo (by omega),hk _ _ ⟨rfl,rfl⟩⟩) ?_
   rintro _ _ ⟨rfl,rfl⟩
   refine⟨z,r2,ks,by rw[ex],hk,qs'.length,?_,gs,qs',ps++[x],pre2,some x,?_,?_,hg,?_,rfl,Zd,fun b c n e=>?_⟩
   ·rw[eqs,List.length_cons];exact Nat.lt_succ_self _
   ·show [e0,e1,some (T.int (((fs'.length+1:Nat):Int) - 1+((ks.countP fun y:Str=>y=="value":Nat):Int))),some x]=_
    have:((fs'.length+1:Nat):Int) - 1+((ks.countP fun y:Str=>y=="value":Nat):Int)=(gs.length:Int):=by omega
    rw[this]
   ·show Ad S2 r _ q=_
    rw[updT_ne nq];exact fd2
   ·rw[List.append_assoc,List.singleton_append,<-eqs];exact eq
   ·rw[updT_ne (fun z=>by rw[z,er0] at e;cases e)];exact ot2 b c n e
 rintro _ S1 ⟨pre1,e2,e3,rfl,fd1,er,ot⟩
 refine⟨p,er,t,p,rfl,hp,by omega,fun S' keep=>h S' pre1 (keep _ _ ?_) fun b c n e=>keep _ _ ?_⟩
 ·show Dv S1 r q=_
  rw[delT_ne nq];exact fd1
 ·show Dv S1 r b=_
  rw[delT_ne (fun z=>by rw[z,er0] at e;cases e)];exact ot b c n e
end
end K14
end
section
namespace K14
open PySem PySem.Spec PyProof.Rows L2 TL
seal UE UT UA US USs UI UG UO UW PTs Ag A8
inductive PtV:Str->T->List Str->Prop where
 |w {k z:Str} {t:T}:Pt k t z->PtV k t [z]
 |v {t:T} {p:List T}:Pcs t p->p.length<=900->PtV "value" t (wordsT t)
inductive PtsV:List Str->List T->List Str->Prop where
 |nil:PtsV [] [] []
 |cons {k:Str} {t:T} {ws:List Str} {ks:List Str} {ts:List T} {vs:List Str}:PtV k t ws->PtsV ks ts vs->PtsV (k::ks) (t::ts) (ws++vs)
def Hk(z:Str):T:=(valT G5 (Sum.inr z)).getD ((valT Bz (Sum.inr z)).getD .non)
structure RowW(t:T)(ws:List Str):Prop where
 is:∃z ts vs ks,t=.tup (.str z::ts)/\ws=z::vs/\Hk z=.tup (ks.map T.str)/\ks.length<=2/\PtsV ks ts vs
theorem Vg{ks:List Str}{ts:List T}{vs:List Str}(h:PtsV ks ts vs):ts.length=ks.length:=by
 induction h with
 |nil=>rfl
 |cons _ _ ih=>rw[List.length_cons,List.length_cons,ih]
section
variable{P:Program}{w:World}{K:PySem.W.Frag}{mg:Str->Option Value}{base:Heap}
def Tk(mg:Str->Option Value):List T->TH->UX->Prop:=fun ts S Pp=>∃q pre rem k t ws,ts=[.ref q,.str k]/\Fd mg S q pre (sW ws++rem)/\PtV k t ws/\∀S' pre',Fd mg S' q pre' rem->Ot q S S'->Pp t S'
theorem part_of{m:Nat}(N:Nm P w K mg)(d:Aa K mg "part_of" ["feed","kind"] (top 52))(c_value_of:Has P w K mg base m "value_of" ["feed"] (L9 mg))(c_number_of:Has P w K mg base m "number_of" ["word"] Ga)(c_m_draw:HasM P w K mg base m (cAt mg "Feed") "draw" ["self"] (El mg)):Has P w K mg base (m+1) "part_of" ["feed","kind"] (Tk mg):=by
 have sc:=M4
 refine Ab (k:=m) d sc (fun ts S Pp h=>?_) fun cdv f A outer s H E hr=>?_
 ·obtain⟨_,_,_,_,_,_,rfl,_⟩:=h;rfl
 have hu0:=An hr
 refine⟨_,(Zs (Zg (Xf hu0 (uv 1) Zq) (Zo (Zr (Zf c_value_of hr rfl (Zc (uv 0) Zn)))) Ze)
   (Zs (Zg (Kk (uv 1) (O3 rfl N.NUMBER_KINDS)) (Zo (Zr (Zf c_number_of hr rfl (Zc (Aj c_m_draw hr (uv 0)) Zn)))) Ze)
   (Zo (Zr (Aj c_m_draw hr (uv 0)))))),fun ts S Pp h=>?_⟩
 obtain⟨q,pre,rem,k,t,ws,rfl,fd,pt,h⟩:=h
 cases pt with
 | @v t p hp lp=>exact Zj (fun _ _=>False) (fun kk hkk=>yes_ rfl ⟨q,pre,rem,t,p,rfl,hp,lp,fd,h⟩) (fun _ _ z=>z.elim)
 | @w k z t pt =>
  replace fd:Fd mg S q pre (.str z::rem):=fd
  cases pt with
  |num hk h0 h1 =>
   rename_i i
   have kv:k≠"value":=fun z=>by rcases hk with e|e <;> (rw[e] at z;exact absurd z (by decide))
   refine Zj (fun env S'=>env=[some (.ref q),some (.str k)]/\S=S') (fun kk hkk=>no_ (by show Bool.xor false (decide (k="value"))=false;rw[decide_eq_false kv];rfl) (hkk _ _ ⟨rfl,rfl⟩)) ?_
   rintro _ _ ⟨rfl,rfl⟩
   refine Zj (fun _ _=>False) (fun kk hkk=>⟨["number","count"],rfl,yes_ ?_ ⟨_,fd,rfl,q,pre,_,rem,rfl,fd,i,rfl,h0,h1,h _ _ Zd Ot.upd⟩⟩) (fun _ _ z=>z.elim)
   rcases hk with rfl|rfl <;> rfl
  |nam k1 k2 k3 =>
   refine Zj (fun env S'=>env=[some (.ref q),some (.str k)]/\S=S') (fun kk hkk=>no_ (by show Bool.xor false (decide (k="value"))=false;rw[decide_eq_false k1];rfl) (hkk _ _ ⟨rfl,rfl⟩)) ?_
   rintro _ _ ⟨rfl,rfl⟩
   refine Zj (fun env S'=>env=[some (.ref q),some (.str k)]/\S=S') (fun kk hkk=>⟨["number","count"],rfl,no_ ?_ (hkk _ _ ⟨rfl,rfl⟩)⟩) ?_
   ·have:k ∉ (["number","count"]:List Str):=by simp[k2,k3]
    rw[decide_eq_false this];rfl
   rintro _ _ ⟨rfl,rfl⟩
   exact⟨_,fd,rfl,q,pre,_,rem,rfl,fd,h _ _ Zd Ot.upd⟩
def To:List T->TH->UX->Prop:=fun ts S Pp=>∃t ws,ts=[.lst (sW ws)]/\RowW t ws/\∀S',Al S S'->Pp t S'
theorem Yt:Zv ["words","feed","word","kinds","parts"] ["words"] (Zb (top 51)):=⟨rfl,rfl,rfl,by decide +kernel,rfl,by decide +kernel,by decide +kernel⟩
theorem row_of{m:Nat}(N:Nm P w K mg)(d:Aa K mg "row_of" ["words"] (top 51))(c_i_Feed:HasI P w K mg base m (cAt mg "Feed") "Feed" ["self","things"] (O1 mg))(c_m_draw:HasM P w K mg base m (cAt mg "Feed") "draw" ["self"] (El mg))(c_m_is_empty:HasM P w K mg base m (cAt mg "Feed") "is_empty" ["self"] (Ii mg))(c_part_of:Has P w K mg base m "part_of" ["feed","kind"] (Tk mg)):Has P w K mg base (m+2) "row_of" ["words"] To:=by
 have sc:=Yt
 refine Ab (k:=m+1) d sc (fun ts S Pp h=>?_) fun cdv f A outer s H E hr=>?_
 ·obtain⟨_,_,rfl,_⟩:=h;rfl
 have hr1:=hr
 have hr:=hr.mono (Nat.le_succ m)
 refine⟨_,(Zs (Zt 1 sc.nd (Qg c_i_Feed hr1 rfl (Zc (uv 0) Zn)))
   (Zs (Zt 2 sc.nd (Aj c_m_draw hr (uv 1)))
   (Zs (Zt 3 sc.nd (Sv rfl N.ROW_PARTS (uv 2) (Fa rfl N.STEP_PARTS (uv 2) ⟨rfl,rfl,rfl,rfl⟩) ⟨rfl,rfl,rfl,rfl⟩))
   (Zs (Zg (K7 (uv 3) F1) (Zo Be) Ze)
   (Zs (Cp 4 sc.nd 0 ["kind","feed"] [none,some 1] rfl (Xu (uv 3)) (fun _ _ _ _ _=>Ah) (fun _ _ _ _ _=>(Zf c_part_of hr rfl (Zc (uv 1) (Zc (uv 0) Zn)))))
   (Zs (Zg (Ap (Xe (Aj c_m_is_empty hr (uv 1)))) (Zo Be) Ze)
   (Zo (Zr (Zp (Zu (Zc (uv 2) Zn)) (A6 rfl N.tuple (Zc (uv 4) Zn))))))))))),fun ts S Pp h=>?_⟩
 obtain⟨t,ws,rfl,⟨z,ts,vs,ks,rfl,rfl,hk,lk,hp⟩,h⟩:=h
 let e0:Option T:=some (.lst (sW (z::vs)))
 refine Zj (fun env S'=>∃q,env=[e0,some (.ref q),none,none,none]/\S q=none/\Fd mg S' q [] (sW (z::vs))/\Al S S') (fun k hk=>fun q hq=>⟨q,_,rfl,Zd,rfl,hk _ _ ⟨q,rfl,hq,Zd,?_⟩⟩) ?_
 ·intro b c e
  have n:b≠q:=fun z=>by rw[z,hq] at e;cases e
  rw[updT_ne n,updT_ne n];exact e
 rintro _ S1 ⟨q,rfl,hq,fd,al⟩
 let e1:Option T:=some (.ref q)
 have step:∀{S1 S2:TH},Al S S1->Ot q S1 S2->Al S S2:=fun al ot b c e=>ot b c (fun z=>by rw[z,hq] at e;cases e) (al b c e)
 refine Zj (fun env S'=>∃pre,env=[e0,e1,some (.str z),none,none]/\Fd mg S' q pre (sW vs)/\Al S S') (fun k hk=>⟨_,fd,rfl,q,[],_,sW vs,rfl,fd,hk _ _ ⟨_,rfl,Zd,step al Ot.upd⟩⟩) ?_
 clear fd al
 rintro _ S1 ⟨pre,rfl,fd,al⟩
 let e2:Option T:=some (.str z)
 refine Zj (fun env S'=>env=[e0,e1,e2,some (.tup (sW ks)),none]/\S1=S') (fun k hkk=>⟨Sum.inr z,rfl,?_⟩) ?_
 ·have hk2:(valT G5 (Sum.inr z)).getD ((valT Bz (Sum.inr z)).getD .non)=.tup (ks.map T.str):=hk
  show k [e0,e1,e2,some ((valT G5 (Sum.inr z)).getD ((valT Bz (Sum.inr z)).getD .non)),none] S1
  rw[hk2]
  exact hkk _ _ ⟨rfl,rfl⟩
 rintro _ _ ⟨rfl,rfl⟩
 let e3:Option T:=some (.tup (sW ks))
 refine Zj (fun env S'=>env=[e0,e1,e2,e3,none]/\S1=S') (fun k hk=>no_ rfl (hk _ _ ⟨rfl,rfl⟩)) ?_
 rintro _ _ ⟨rfl,rfl⟩
 have lt:=Vg hp
 refine Zj (fun env S'=>∃pre',env=[e0,e1,e2,e3,some (.lst ts)]/\Fd mg S' q pre' []/\Al S S') (fun k hk=>?_) ?_
 ·refine E5 (S1:=S1) (sW ks) (fun j acc S'=>∃pre' us,acc=ts.take j/\Fd mg S' q pre' (sW us)/\PtsV (ks.drop j) (ts.drop j) us/\Al S S') (fun k hk=>hk) (Uv (by show (ks.map T.str).length<=10;rw[List.length_map];omega)) ⟨pre,vs,rfl,fd,hp,al⟩ ?_ ?_
  ·rintro j x acc S2 ej ⟨pre2,us,rfl,fd2,hp2,al2⟩
   have ej:(ks.map T.str)[j]?=some x:=ej
   rw[List.getElem?_map] at ej
   cases ek:ks[j]? with
   |none=>rw[ek] at ej;cases ej
   |some k =>
    rw[ek] at ej
    cases ej
    have hj:=(List.getElem?_eq_some_iff.mp ek).1
    have ed:ks.drop j=k::ks.drop (j+1):=List.drop_eq_getElem?_toList_append.trans (by rw[ek];rfl)
    have ht:j<ts.length:=by omega
    have et:ts.drop j=ts[j]::ts.drop (j+1):=List.drop_eq_getElem_cons ht
    rw[ed,et] at hp2
    cases hp2 with
    | @cons _ _ ws _ _ us' pv rest =>
     refine⟨fun _=>⟨q,pre2,sW us',k,ts[j],ws,rfl,?_,pv,fun S' pre' fd' ot=>⟨pre',us',?_,fd',rest,step al2 ot⟩⟩,fun z=>(by cases z)⟩
     ·have e:sW (ws++us')=sW ws++sW us':=List.map_append
      rw[<-e];exact fd2
     ·rw[List.take_add_one,List.getElem?_eq_getElem ht];rfl
  ·rintro acc S2 ⟨pre2,us,rfl,fd2,hp2,al2⟩
   have el:(sW ks).length=ks.length:=List.length_map _
   rw[el] at hp2 ⊢
   rw[List.drop_length,List.drop_of_length_le (by omega)] at hp2
   cases hp2
   rw[List.take_of_length_le (by omega)]
   exact hk _ _ ⟨pre2,rfl,fd2,al2⟩
 rintro _ S2 ⟨pre2,rfl,fd2,al2⟩
 refine Zj (fun env S'=>env=[e0,e1,e2,e3,some (.lst ts)]/\S2=S') (fun k hk=>⟨_,fd2,rfl,q,pre2,[],rfl,fd2,no_ rfl (hk _ _ ⟨rfl,rfl⟩)⟩) ?_
 rintro _ _ ⟨rfl,rfl⟩
 exact⟨show 1<=sizeLine by decide,Uv (by show 1+ts.length<=10;omega),h _ al2⟩
end
end K14
end
section
namespace K14
open PySem PySem.Spec PyProof.Rows L2 TL
seal UE UT UA US USs UI UG UO UW PTs Ag A8
theorem at1{a b:T}{r:List T}:atI (a::b::r) (1:Int)=some b:=Xb (j:=1) rfl
def Hd(z:Str)(t:T):Prop:=∃r,t=.tup (.str z::r)
def Stop(Q:Str->Prop)(rem:List T):Prop:=rem=[]\/∃y t r,rem=t::r/\Hd y t/\¬ Q y
section
variable{P:Program}{w:World}{K:PySem.W.Frag}{mg:Str->Option Value}{base:Heap}
def Ex(mg:Str->Option Value):List T->TH->UX->Prop:=fun ts S Pp=>∃q pre rem,ts=[.ref q]/\Fd mg S q pre rem/\((rem=[]/\Pp .non S)\/∃z t r,rem=t::r/\Hd z t/\Pp (.str z) S)
theorem Y4:Zv ["rows"] ["rows"] (Zb (top 64)):=⟨rfl,rfl,rfl,by decide +kernel,rfl,by decide +kernel,by decide +kernel⟩
theorem word_ahead{m:Nat}(N:Nm P w K mg)(d:Aa K mg "word_ahead" ["rows"] (top 64))(c_m_is_empty:HasM P w K mg base m (cAt mg "Feed") "is_empty" ["self"] (Ii mg))(c_m_ahead:HasM P w K mg base m (cAt mg "Feed") "ahead" ["self"] (Ol mg)):Has P w K mg base (m+1) "word_ahead" ["rows"] (Ex mg):=by
 have sc:=Y4
 refine Ab (k:=m) d sc (fun ts S Pp h=>?_) fun cdv f A outer s H E hr=>?_
 ·obtain⟨_,_,_,rfl,_⟩:=h;rfl
 refine⟨_,(Zo (Zr (Sw (Xe (Aj c_m_is_empty hr (uv 0))) F1 (Zx (Aj c_m_ahead hr (uv 0)) Zi)))),fun ts S Pp h=>?_⟩
 obtain⟨q,pre,rem,rfl,fd,h⟩:=h
 rcases h with⟨rfl,h⟩|⟨z,t,r,rfl,⟨r2,rfl⟩,h⟩
 ·exact⟨_,fd,rfl,q,pre,[],rfl,fd,yes_ rfl h⟩
 ·exact⟨_,fd,rfl,q,pre,_,rfl,fd,no_ (decide_eq_false (by simp)) ⟨_,fd,rfl,q,pre,_,_,rfl,fd,_,at0,h⟩⟩
def Oa(mg:Str->Option Value):List T->TH->UX->Prop:=fun ts S Pp=>∃q pre ds rem z,ts=[.ref q,.str z]/\Fd mg S q pre (ds++rem)/\(∀t∈ds,Hd z t)/\Stop (·=z) rem/\ds.length<=900/\∀S' pre',Fd mg S' q pre' rem->Ot q S S'->Pp (.lst ds) S'
theorem Z5:Zv ["rows","word","found"] ["rows","word"] (Zb (top 65)):=⟨rfl,rfl,rfl,by decide +kernel,rfl,by decide +kernel,by decide +kernel⟩
theorem Dh(y z:Str):teq 0 (.str y) (.str z)=decide (y=z):=by
 by_cases e:y=z
 ·rw[decide_eq_true e,e];exact Nb (DatN.str z).q
 ·rw[decide_eq_false e]
  cases q:teq 0 (.str y) (.str z) with
  |false=>rfl
  |true=>exact absurd (T.str.inj (Vm (DatN.str y) (DatN.str z) q)) e
theorem W8(z:Str):teq 0 .non (.str z)=false:=by
 cases q:teq 0 .non (.str z) with
 |false=>rfl
 |true=>have:=Vm (n:=0) DatN.non (DatN.str z) q;cases this
theorem drawn{m:Nat}(N:Nm P w K mg)(d:Aa K mg "drawn" ["rows","word"] (top 65))(c_word_ahead:Has P w K mg base m "word_ahead" ["rows"] (Ex mg))(c_m_draw:HasM P w K mg base m (cAt mg "Feed") "draw" ["self"] (El mg)):Has P w K mg base (m+1) "drawn" ["rows","word"] (Oa mg):=by
 have sc:=Z5
 refine Ab (k:=m) d sc (fun ts S Pp h=>?_) fun cdv f A outer s H E hr=>?_
 ·obtain⟨_,_,_,_,_,rfl,_⟩:=h;rfl
 have hu64:=hr.units
 refine⟨_,(Zs (Zt 2 sc.nd (Bu Zn))
   (Zs (D0 PassesOwn.never (Nk hu64 (Zf c_word_ahead hr rfl (Zc (uv 0) Zn)) (uv 1)) (Zo (Bb (A5 (uv 2) (Zc (Aj c_m_draw hr (uv 0)) Zn)))))
   (Zo (Zr (Dl (uv 2)))))),fun ts S Pp h=>?_⟩
 obtain⟨q,pre,ds,rem,z,rfl,fd,hd,st,ld,h⟩:=h
 let e0:Option T:=some (.ref q)
 let e1:Option T:=some (.str z)
 refine Zj (fun env S1=>∃r,env=[e0,e1,some (.ref r)]/\S r=none/\S1=Ad S r (.lst [])) (fun k hk=>⟨show 0<=sizeLine by decide,fun r hr'=>hk _ _ ⟨r,rfl,hr',rfl⟩⟩) ?_
 rintro _ _ ⟨r,rfl,er0,rfl⟩
 have nq:q≠r:=fun z=>by rw[<-z] at er0;rw[show S q=_ from fd] at er0;cases er0
 let B:Nat->Ev->TH->Prop:=fun n env S'=>∃k pre',env=[e0,e1,some (.ref r)]/\n=ds.length - k/\k<=ds.length/\Fd mg S' q pre' (ds.drop k++rem)/\S' r=some (.lst (ds.take k))/\Ot q S S'
 refine Zj (fun env S'=>∃pre',env=[e0,e1,some (.ref r)]/\Fd mg S' q pre' rem/\S' r=some (.lst ds)/\Ot q S S') (fun kk hkk=>⟨B,⟨_,0,pre,rfl,rfl,Nat.zero_le _,?_,Zd,Ot.new er0⟩,?_⟩) ?_
 ·show Ad S r _ q=_
  rw[updT_ne nq];exact fd
 ·rintro n env S1 ⟨k,pre1,rfl,rfl,hk,fd1,er,ot⟩
  by_cases hlt:k<ds.length
  ·obtain⟨r2,et⟩:=hd ds[k] (List.getElem_mem hlt)
   have ed:ds.drop k=ds[k]::ds.drop (k+1):=List.drop_eq_getElem_cons hlt
   rw[ed,List.cons_append] at fd1
   refine⟨q,pre1,_,rfl,fd1,.inr ⟨z,ds[k],_,rfl,⟨r2,et⟩,0,by omega,(DatN.str z).q,(DatN.str z).q,yes_ ?_ ?_⟩⟩
   ·show Bool.xor false (teq 0 (.str z) (.str z))=true
    rw[Dh,decide_eq_true rfl];rfl
   ·refine⟨⟨_,er⟩,_,fd1,rfl,q,pre1,ds[k],ds.drop (k+1)++rem,rfl,fd1,ds.take k,?_,Xo (by rw[List.length_take];omega),ds.length - (k+1),by omega,k+1,pre1++[ds[k]],rfl,rfl,hlt,?_,?_,fun b c n e=>?_⟩
    ·rw[updT_ne nq.symm];exact er
    ·show Ad (Ad S1 q _) r _ q=_
     rw[updT_ne nq];exact Zd
    ·rw[List.take_add_one,List.getElem?_eq_getElem hlt];exact Zd
    ·rw[updT_ne (fun z=>by rw[z,er0] at e;cases e),updT_ne n];exact ot b c n e
  ·have ek:k=ds.length:=by omega
   subst ek
   rw[List.drop_length,List.nil_append] at fd1
   rw[List.take_length] at er
   have fin:=hkk _ _ ⟨pre1,rfl,fd1,er,ot⟩
   rcases st with rfl|⟨y,t,rr,rfl,hy,ny⟩
   ·refine⟨q,pre1,_,rfl,fd1,.inl ⟨rfl,0,by omega,DatN.non.q,(DatN.str z).q,no_ ?_ fin⟩⟩
    show Bool.xor false (teq 0 .non (.str z))=false
    rw[W8];rfl
   ·refine⟨q,pre1,_,rfl,fd1,.inr ⟨y,t,rr,rfl,hy,0,by omega,(DatN.str y).q,(DatN.str z).q,no_ ?_ fin⟩⟩
    show Bool.xor false (teq 0 (.str y) (.str z))=false
    rw[Dh,decide_eq_false ny];rfl
 rintro _ S1 ⟨pre1,rfl,fd1,er,ot⟩
 refine⟨ds,er,h _ pre1 ?_ fun b c n e=>?_⟩
 ·show Dv S1 r q=_
  rw[delT_ne nq];exact fd1
 ·rw[delT_ne (fun z=>by rw[z,er0] at e;cases e)];exact ot b c n e
def Qa(mg:Str->Option Value):List T->TH->UX->Prop:=fun ts S Pp=>∃q pre rem x,ts=[.ref q]/\Fd mg S q pre (.tup [.str "size",x]::rem)/\∀S' pre',Fd mg S' q pre' rem->Ot q S S'->Pp x S'
theorem Vp:Zv ["rows"] ["rows"] (Zb (top 66)):=⟨rfl,rfl,rfl,by decide +kernel,rfl,by decide +kernel,by decide +kernel⟩
theorem size_of{m:Nat}(N:Nm P w K mg)(d:Aa K mg "size_of" ["rows"] (top 66))(c_word_ahead:Has P w K mg base m "word_ahead" ["rows"] (Ex mg))(c_m_draw:HasM P w K mg base m (cAt mg "Feed") "draw" ["self"] (El mg)):Has P w K mg base (m+1) "size_of" ["rows"] (Qa mg):=by
 have sc:=Vp
 refine Ab (k:=m) d sc (fun ts S Pp h=>?_) fun cdv f A outer s H E hr=>?_
 ·obtain⟨_,_,_,_,rfl,_⟩:=h;rfl
 have hu64:=hr.units
 refine⟨_,(Zs (Zg (Tu hu64 (Zf c_word_ahead hr rfl (Zc (uv 0) Zn)) Zq) (Zo Be) Ze)
   (Zo (Zr (Zx (Aj c_m_draw hr (uv 0)) Zi)))),fun ts S Pp h=>?_⟩
 obtain⟨q,pre,rem,x,rfl,fd,h⟩:=h
 refine Zj (fun env S'=>env=[some (.ref q)]/\S=S') (fun k hk=>⟨q,pre,_,rfl,fd,.inr ⟨"size",_,_,rfl,⟨_,rfl⟩,0,by omega,(DatN.str _).q,(DatN.str _).q,no_ ?_ (hk _ _ ⟨rfl,rfl⟩)⟩⟩) ?_
 ·show Bool.xor true (teq 0 (.str "size") (.str "size"))=false
  rw[Dh,decide_eq_true rfl];rfl
 rintro _ _ ⟨rfl,rfl⟩
 exact⟨_,fd,rfl,q,pre,_,rem,rfl,fd,_,at1,h _ _ Zd Ot.upd⟩
def SW(y:Str):Prop:=(valT Bz (Sum.inr y)).isSome=true
end
end K14
end
section
namespace K14
open PySem PySem.Spec PyProof.Rows L2 TL
seal UE UT UA US USs UI UG UO UW PTs Ag A8
def Ao(n:Int):T:=.tup [.str "again",.int n]
def Ay:T:=.tup [.str "end"]
def St(s:T):Prop:=∃z,Hd z s/\SW z
inductive Bd:List T->List T->Prop where
 |nil:Bd [] []
 |plain {s:T} {rows steps:List T}:St s->Bd rows steps->Bd (s::rows) (s::steps)
 |block {n:Int} {ss rows steps:List T}:1<=n->n<=5->(∀s∈ss,St s)->ss.length<=100->Bd rows steps->Bd (Ao n::(ss++Ay::rows)) ((List.replicate n.toNat ss).flatten++steps)
inductive Bh:List T->List T->Prop where
 |nil:Bh [] []
 |block {n:Int} {ss rows steps:List T}:1<=n->n<=5->(∀s∈ss,St s)->ss.length<=100->Bd rows steps->Bh (Ao n::(ss++Ay::rows)) ((List.replicate n.toNat ss).flatten++steps)
theorem Ma{rows steps:List T}(h:Bd rows steps):∃ds rows' steps',rows=ds++rows'/\steps=ds++steps'/\(∀t∈ds,St t)/\Bh rows' steps':=by
 induction h with
 |nil=>exact⟨[],[],[],rfl,rfl,fun _ z=>(by cases z),.nil⟩
 | @plain s rows steps hs _ ih =>
  obtain⟨ds,r',s',e1,e2,hd,b⟩:=ih
  exact⟨s::ds,r',s',by rw[e1];rfl,by rw[e2];rfl,Xd hs hd,b⟩
 |block a b c d e _=>exact⟨[],_,_,rfl,rfl,fun _ z=>(by cases z),.block a b c d e⟩
theorem Aau{r1 s1 r2 s2:List T}(h:Bd r1 s1)(h':Bd r2 s2):Bd (r1++r2) (s1++s2):=by
 induction h with
 |nil=>exact h'
 |plain hs _ ih=>exact .plain hs ih
 | @block n ss rows steps a b c d _ ih =>
  have:=Bd.block a b c d ih
  rw[List.append_assoc,List.cons_append,List.append_assoc,List.cons_append]
  exact this
theorem M6:∀{ss:List T},(∀s∈ss,St s)->Bd ss ss
 |[],_=>.nil
 |s::r,h=>.plain (h s (.head _)) (M6 fun t ht=>h t (.tail _ ht))
theorem Sq:¬ SW "again":=by unfold SW;decide +kernel
theorem Abz:¬ SW "end":=by unfold SW;decide +kernel
section
variable{P:Program}{w:World}{K:PySem.W.Frag}{mg:Str->Option Value}{base:Heap}
def Nh(mg:Str->Option Value):List T->TH->UX->Prop:=fun ts S Pp=>∃q pre ds t rem y,ts=[.ref q]/\Fd mg S q pre (ds++t::rem)/\(∀t∈ds,St t)/\Hd y t/\¬ SW y/\ds.length<=900/\∀S' pre' r,Fd mg S' q pre' (t::rem)->S r=none->r≠q->S' r=some (.lst ds)->Ot q S S'->Pp (.ref r) S'
theorem W2:Zv ["rows","steps"] ["rows"] (Zb (top 69)):=⟨rfl,rfl,rfl,by decide +kernel,rfl,by decide +kernel,by decide +kernel⟩
theorem plain_steps{m:Nat}(N:Nm P w K mg)(d:Aa K mg "plain_steps" ["rows"] (top 69))(c_word_ahead:Has P w K mg base m "word_ahead" ["rows"] (Ex mg))(c_m_draw:HasM P w K mg base m (cAt mg "Feed") "draw" ["self"] (El mg)):Has P w K mg base (m+1) "plain_steps" ["rows"] (Nh mg):=by
 have sc:=W2
 refine Ab (k:=m) d sc (fun ts S Pp h=>?_) fun cdv f A outer s H E hr=>?_
 ·obtain⟨_,_,_,_,_,_,rfl,_⟩:=h;rfl
 refine⟨_,(Zs (Zt 1 sc.nd (Bu Zn))
   (Zs (D0 PassesOwn.never (Abn rfl N.STEP_PARTS (Zf c_word_ahead hr rfl (Zc (uv 0) Zn))) (Zo (Bb (A5 (uv 1) (Zc (Aj c_m_draw hr (uv 0)) Zn)))))
   (Zo (Zr (uv 1))))),fun ts S Pp h=>?_⟩
 obtain⟨q,pre,ds,t,rem,y,rfl,fd,hd,hy,ny,ld,h⟩:=h
 let e0:Option T:=some (.ref q)
 refine Zj (fun env S1=>∃r,env=[e0,some (.ref r)]/\S r=none/\S1=Ad S r (.lst [])) (fun k hk=>⟨show 0<=sizeLine by decide,fun r hr'=>hk _ _ ⟨r,rfl,hr',rfl⟩⟩) ?_
 rintro _ _ ⟨r,rfl,er0,rfl⟩
 have nq:q≠r:=fun z=>by rw[<-z] at er0;rw[show S q=_ from fd] at er0;cases er0
 let B:Nat->Ev->TH->Prop:=fun n env S'=>∃k pre',env=[e0,some (.ref r)]/\n=ds.length - k/\k<=ds.length/\Fd mg S' q pre' (ds.drop k++t::rem)/\S' r=some (.lst (ds.take k))/\Ot q S S'
 refine Zj (fun env S'=>∃pre',env=[e0,some (.ref r)]/\Fd mg S' q pre' (t::rem)/\S' r=some (.lst ds)/\Ot q S S') (fun kk hkk=>⟨B,⟨_,0,pre,rfl,rfl,Nat.zero_le _,?_,Zd,Ot.new er0⟩,?_⟩) ?_
 ·show Ad S r _ q=_
  rw[updT_ne nq];exact fd
 ·rintro n env S1 ⟨k,pre1,rfl,rfl,hk,fd1,er,ot⟩
  by_cases hlt:k<ds.length
  ·obtain⟨z,ht,hz⟩:=hd ds[k] (List.getElem_mem hlt)
   have ed:ds.drop k=ds[k]::ds.drop (k+1):=List.drop_eq_getElem_cons hlt
   rw[ed,List.cons_append] at fd1
   refine⟨q,pre1,_,rfl,fd1,.inr ⟨z,ds[k],_,rfl,ht,Sum.inr z,rfl,yes_ hz ?_⟩⟩
   refine⟨⟨_,er⟩,_,fd1,rfl,q,pre1,ds[k],ds.drop (k+1)++t::rem,rfl,fd1,ds.take k,?_,Xo (by rw[List.length_take];omega),ds.length - (k+1),by omega,k+1,pre1++[ds[k]],rfl,rfl,hlt,?_,?_,fun b c n e=>?_⟩
   ·rw[updT_ne nq.symm];exact er
   ·show Ad (Ad S1 q _) r _ q=_
    rw[updT_ne nq];exact Zd
   ·rw[List.take_add_one,List.getElem?_eq_getElem hlt];exact Zd
   ·rw[updT_ne (fun z=>by rw[z,er0] at e;cases e),updT_ne n];exact ot b c n e
  ·have ek:k=ds.length:=by omega
   subst ek
   rw[List.drop_length,List.nil_append] at fd1
   rw[List.take_length] at er
   refine⟨q,pre1,_,rfl,fd1,.inr ⟨y,t,rem,rfl,hy,Sum.inr y,rfl,no_ ?_ (hkk _ _ ⟨pre1,rfl,fd1,er,ot⟩)⟩⟩
   cases q:(valT Bz (Sum.inr y)).isSome with
   |false=>rfl
   |true=>exact absurd q ny
 rintro _ S1 ⟨pre1,rfl,fd1,er,ot⟩
 exact h _ pre1 r fd1 er0 nq.symm er ot
def U9(mg:Str->Option Value):List T->TH->UX->Prop:=fun ts S Pp=>∃q pre n ss rem,ts=[.ref q]/\Fd mg S q pre (Ao n::(ss++Ay::rem))/\1<=n/\n<=5/\(∀s∈ss,St s)/\ss.length<=100/\∀S' pre',Fd mg S' q pre' rem->Ot q S S'->Pp (.lst (List.replicate n.toNat ss).flatten) S'
theorem W0:Zv ["rows","times","steps"] ["rows"] (Zb (top 70)):=⟨rfl,rfl,rfl,by decide +kernel,rfl,by decide +kernel,by decide +kernel⟩
theorem block_of{m:Nat}(N:Nm P w K mg)(d:Aa K mg "block_of" ["rows"] (top 70))(c_plain_steps:Has P w K mg base m "plain_steps" ["rows"] (Nh mg))(c_word_ahead:Has P w K mg base m "word_ahead" ["rows"] (Ex mg))(c_m_draw:HasM P w K mg base m (cAt mg "Feed") "draw" ["self"] (El mg)):Has P w K mg base (m+1) "block_of" ["rows"] (U9 mg):=by
 have sc:=W0
 refine Ab (k:=m) d sc (fun ts S Pp h=>?_) fun cdv f A outer s H E hr=>?_
 ·obtain⟨_,_,_,_,_,rfl,_⟩:=h;rfl
 have hu0:=An hr
 refine⟨_,(Zs (Zt 1 sc.nd (Zx (Aj c_m_draw hr (uv 0)) Zi))
   (Zs (Zg (Ap (Ij (A1 rfl N.LEAST_TIMES) (uv 1) (A1 rfl N.MOST_TIMES))) (Zo Be) Ze)
   (Zs (Zt 2 sc.nd (Zf c_plain_steps hr rfl (Zc (uv 0) Zn)))
   (Zs (Zg (Kh hu0 (Zf c_word_ahead hr rfl (Zc (uv 0) Zn)) Zq) (Zo Be) Ze)
   (Zs (Bb (Aj c_m_draw hr (uv 0)))
   (Zo (Zr (K9 (Dl (uv 2)) (uv 1))))))))),fun ts S Pp h=>?_⟩
 obtain⟨q,pre,n,ss,rem,rfl,fd,n1,n5,hs,ls,h⟩:=h
 let e0:Option T:=some (.ref q)
 refine Zj (fun env S'=>∃pre',env=[e0,some (.int n),none]/\Fd mg S' q pre' (ss++Ay::rem)/\Ot q S S') (fun k hk=>⟨_,fd,rfl,q,pre,_,_,rfl,fd,_,at1,hk _ _ ⟨_,rfl,Zd,Ot.upd⟩⟩) ?_
 clear fd
 rintro _ S1 ⟨pre1,rfl,fd,ot⟩
 let e1:Option T:=some (.int n)
 refine Zj (fun env S'=>env=[e0,e1,none]/\S1=S') (fun k hk=>?_) ?_
 ·have h1:decide ((1:Int)<=n)=true:=decide_eq_true n1
  have h2:decide (n<=(5:Int))=true:=decide_eq_true n5
  refine⟨fun _=>?_,fun z=>?_⟩
  ·exact⟨fun z=>(by rw[h2] at z;cases z),fun _=>hk _ _ ⟨rfl,rfl⟩⟩
  ·rw[h1] at z;cases z
 rintro _ _ ⟨rfl,rfl⟩
 refine Zj (fun env S'=>∃pre' r,env=[e0,e1,some (.ref r)]/\Fd mg S' q pre' (Ay::rem)/\S r=none/\r≠q/\S' r=some (.lst ss)/\Ot q S S') (fun k hk=>⟨q,pre1,ss,Ay,rem,"end",rfl,fd,hs,⟨_,rfl⟩,Abz,by omega,fun S' pre' r fd' er0 nr er ot'=>hk _ _ ⟨pre',r,rfl,fd',?_,nr,er,ot.trans ot'⟩⟩) ?_
 ·cases e:S r with
  |none=>rfl
  |some c=>rw[ot r c nr e] at er0;cases er0
 clear fd ot
 rintro _ S2 ⟨pre2,r,rfl,fd,er0,nr,er,ot⟩
 let e2:Option T:=some (.ref r)
 refine Zj (fun env S'=>env=[e0,e1,e2]/\S2=S') (fun k hk=>⟨q,pre2,_,rfl,fd,.inr ⟨"end",Ay,rem,rfl,⟨_,rfl⟩,no_ ?_ (hk _ _ ⟨rfl,rfl⟩)⟩⟩) ?_
 ·show Bool.xor true (decide (("end":Str)="end"))=false
  rw[decide_eq_true rfl];rfl
 rintro _ _ ⟨rfl,rfl⟩
 refine Zj (fun env S'=>∃pre',env=[e0,e1,e2]/\Fd mg S' q pre' rem/\S' r=some (.lst ss)/\Ot q S S') (fun k hk=>⟨_,fd,rfl,q,pre2,_,_,rfl,fd,hk _ _ ⟨_,rfl,Zd,by rw[updT_ne nr];exact er,ot.trans Ot.upd⟩⟩) ?_
 clear fd er ot
 rintro _ S3 ⟨pre3,rfl,fd,er,ot⟩
 have szl:sizeLine=16777216:=rfl
 have hm:ss.length * n.toNat<=500:=Nat.le_trans (Nat.mul_le_mul ls (show n.toNat<=5 by omega)) (by decide)
 refine⟨ss,er,ss,n,rfl,rfl,by omega,by omega,by omega,h _ pre3 ?_ fun b c n e=>?_⟩
 ·show Dv S3 r q=_
  rw[delT_ne nr.symm];exact fd
 ·rw[delT_ne (fun z=>by rw[z,er0] at e;cases e)];exact ot b c n e
def P3(mg:Str->Option Value):List T->TH->UX->Prop:=fun ts S Pp=>∃q pre rows steps t rem y,ts=[.ref q]/\Fd mg S q pre (rows++t::rem)/\Bd rows steps/\Hd y t/\¬ SW y/\y≠"again"/\rows.length<=800/\steps.length<=800/\∀S' pre',Fd mg S' q pre' (t::rem)->Ot q S S'->Pp (.lst steps) S'
theorem Uu:Zv ["rows","steps"] ["rows"] (Zb (top 68)):=⟨rfl,rfl,rfl,by decide +kernel,rfl,by decide +kernel,by decide +kernel⟩
theorem steps_of{m:Nat}(N:Nm P w K mg)(d:Aa K mg "steps_of" ["rows"] (top 68))(c_plain_steps:Has P w K mg base m "plain_steps" ["rows"] (Nh mg))(c_word_ahead:Has P w K mg base m "word_ahead" ["rows"] (Ex mg))(c_block_of:Has P w K mg base m "block_of" ["rows"] (U9 mg)):Has P w K mg base (m+1) "steps_of" ["rows"] (P3 mg):=by
 have sc:=Uu
 refine Ab (k:=m) d sc (fun ts S Pp h=>?_) fun cdv f A outer s H E hr=>?_
 ·obtain⟨_,_,_,_,_,_,_,rfl,_⟩:=h;rfl
 have hu64:=hr.units
 have szl:sizeLine=16777216:=rfl
 refine⟨_,(Zs (Zt 1 sc.nd (Zf c_plain_steps hr rfl (Zc (uv 0) Zn)))
   (Zs (D0 PassesOwn.never (Nk hu64 (Zf c_word_ahead hr rfl (Zc (uv 0) Zn)) Zq) (Zs (Bb (J3 (uv 1) (Zc (Zf c_block_of hr rfl (Zc (uv 0) Zn)) Zn)))
   (Zo (Bb (J3 (uv 1) (Zc (Dl (Zf c_plain_steps hr rfl (Zc (uv 0) Zn))) Zn))))))
   (Zo (Zr (Dl (uv 1)))))),fun ts S Pp h=>?_⟩
 obtain⟨q,pre,rows,steps,t,rem,y,rfl,fd,bd,hy,ny,na,lr,ls,h⟩:=h
 let e0:Option T:=some (.ref q)
 have ahead:∀{r' s':List T},Bh r' s'->∃t' rem' y',r'++t::rem=t'::rem'/\Hd y' t'/\¬ SW y':=fun b=>by
  cases b with
  |nil=>exact⟨t,rem,y,rfl,hy,ny⟩
  |block _ _ _ _ _=>exact⟨_,_,"again",rfl,⟨_,rfl⟩,Sq⟩
 let J:Ev->TH->List T->Addr->Prop:=fun env S' r' r=>∃pre' acc s',env=[e0,some (.ref r)]/\Fd mg S' q pre' (r'++t::rem)/\Bh r' s'/\acc++s'=steps/\r'.length<=rows.length/\S r=none/\r≠q/\S' r=some (.lst acc)/\Ot q S S'
 refine Zj (fun env S'=>∃r r',J env S' r' r) (fun k hk=>?_) ?_
 ·obtain⟨ds,r',s',rfl,rfl,hd,bh⟩:=Ma bd
  obtain⟨t',rem',y',er,hy',ny'⟩:=ahead bh
  rw[List.append_assoc,er] at fd
  rw[List.length_append] at lr
  exact⟨q,pre,ds,t',rem',y',rfl,fd,hd,hy',ny',by omega,fun S' pre' r fd' er0 nr er' ot=>hk _ _ ⟨r,r',pre',ds,s',rfl,by rw[er];exact fd',bh,rfl,by rw[List.length_append];omega,er0,nr,er',ot⟩⟩
 rintro _ S1 ⟨r,r1,j1⟩
 let B:Nat->Ev->TH->Prop:=fun n env S'=>∃r',n=r'.length/\J env S' r' r
 refine Zj (fun env S'=>∃pre',env=[e0,some (.ref r)]/\Fd mg S' q pre' (t::rem)/\S' r=some (.lst steps)/\Ot q S S'/\S r=none/\r≠q) (fun kk hkk=>⟨B,⟨_,r1,rfl,j1⟩,?_⟩) ?_
 ·rintro n env S2 ⟨r',rfl,pre2,acc,s',rfl,fd2,bh,ea,lr',er0,nr,er2,ot2⟩
  cases bh with
  |nil =>
   rw[List.append_nil] at ea
   subst ea
   refine⟨q,pre2,_,rfl,fd2,.inr ⟨y,t,rem,rfl,hy,0,by omega,(DatN.str y).q,(DatN.str _).q,no_ ?_ (hkk _ _ ⟨pre2,rfl,fd2,er2,ot2,er0,nr⟩)⟩⟩
   show Bool.xor false (teq 0 (.str y) (.str "again"))=false
   rw[Dh,decide_eq_false na];rfl
  | @block n ss rw' st n1 n5 hs lss bd' =>
   refine⟨q,pre2,_,rfl,fd2,.inr ⟨"again",Ao n,_,rfl,⟨_,rfl⟩,0,by omega,(DatN.str _).q,(DatN.str _).q,yes_ ?_ ?_⟩⟩
   ·show Bool.xor false (teq 0 (.str "again") (.str "again"))=true
    rw[Dh,decide_eq_true rfl];rfl
   have ls2:acc.length+(List.replicate n.toNat ss).flatten.length+st.length=steps.length:=by rw[<-ea,List.length_append,List.length_append];omega
   have fd2':Fd mg S2 q pre2 (Ao n::(ss++Ay::(rw'++t::rem))):=by
    rw[show Ao n::(ss++Ay::(rw'++t::rem))=(Ao n::(ss++Ay::rw'))++t::rem by rw[List.cons_append,List.append_assoc,List.cons_append]]
    exact fd2
   refine Zj (fun env S'=>∃pre',env=[e0,some (.ref r)]/\Fd mg S' q pre' (rw'++t::rem)/\S' r=some (.lst (acc++(List.replicate n.toNat ss).flatten))/\Ot q S S') (fun k hk=>⟨⟨_,er2⟩,q,pre2,n,ss,_,rfl,fd2',n1,n5,hs,lss,fun S3 pre3 fd3 ot3=>⟨acc,_,ot3 r _ nr er2,rfl,by omega,hk _ _ ⟨pre3,rfl,?_,Zd,fun b c nb e=>?_⟩⟩⟩) ?_
   ·show Ad S3 r _ q=_
    rw[updT_ne nr.symm];exact fd3
   ·rw[updT_ne (fun z=>by rw[z,er0] at e;cases e)];exact ot3 b c nb (ot2 b c nb e)
   rintro _ S3 ⟨pre3,rfl,fd3,er3,ot3⟩
   obtain⟨ds,r3,s3,rfl,rfl,hd,bh3⟩:=Ma bd'
   obtain⟨t',rem',y',eq3,hy',ny'⟩:=ahead bh3
   rw[List.append_assoc,eq3] at fd3
   rw[List.length_append] at ls2
   have lr3:r3.length+1<=(Ao n::(ss++Ay::(ds++r3))).length:=by
    rw[List.length_cons,List.length_append,List.length_cons,List.length_append];omega
   refine⟨⟨_,er3⟩,q,pre3,ds,t',rem',y',rfl,fd3,hd,hy',ny',by omega,fun S4 pre4 r4 fd4 er40 nr4 er4 ot4=>⟨ds,er4,acc++(List.replicate n.toNat ss).flatten,ds,?_,rfl,by rw[List.length_append];omega,r3.length,by omega,r3,rfl,pre4,_,s3,rfl,?_,bh3,?_,by omega,er0,nr,Zd,fun b c nb e=>?_⟩⟩
   ·have n4:r≠r4:=fun z=>by rw[<-z,er3] at er40;cases er40
    rw[delT_ne n4]
    exact ot4 r _ nr er3
   ·show Ad (Dv S4 r4) r _ q=_
    rw[updT_ne nr.symm,delT_ne nr4.symm,eq3];exact fd4
   ·rw[List.append_assoc,List.append_assoc];exact ea
   ·have nb4:b≠r4:=fun z=>by rw[z] at e nb;rw[ot3 r4 c nb e] at er40;cases er40
    rw[updT_ne (fun z=>by rw[z,er0] at e;cases e),delT_ne nb4]
    exact ot4 b c nb (ot3 b c nb e)
 rintro _ S2 ⟨pre2,rfl,fd2,er2,ot2,er0,nr⟩
 refine⟨steps,er2,h _ pre2 ?_ fun b c nb e=>?_⟩
 ·show Dv S2 r q=_
  rw[delT_ne nr.symm];exact fd2
 ·rw[delT_ne (fun z=>by rw[z,er0] at e;cases e)];exact ot2 b c nb e
end
end K14
end
section
namespace K14
open PySem PySem.Spec PyProof.Rows L2 TL
seal UE UT UA US USs UI UG UO UW PTs Ag A8
abbrev Kz:=Prg×List T
def progRowsB(p:Kz):List T:=B1 p.1.1::(p.1.2.1.map ownRow++p.2)
structure Pg(p:Kz):Prop where
 ow:p.1.2.1.length<=900
 bd:Bd p.2 p.1.2.2
 sl:p.2.length<=800
 ss:p.1.2.2.length<=800
theorem Abs:¬ SW "own":=by unfold SW;decide +kernel
theorem Xw:¬ SW "program":=by unfold SW;decide +kernel
theorem Y6:¬ SW "worker":=by unfold SW;decide +kernel
theorem Sz{rows steps:List T}{t:T}{rem:List T}{y:Str}(hs:Bd rows steps)(hy:Hd y t)(ny:y≠"own"):Stop (·="own") (rows++t::rem):=by
 cases hs with
 |nil=>exact .inr ⟨y,t,rem,rfl,hy,ny⟩
 | @plain s r _ h _ =>
  obtain⟨z,hz,sz⟩:=h
  exact .inr ⟨z,s,r++t::rem,rfl,hz,fun e=>Abs (by rw[<-e];exact sz)⟩
 |block _ _ _ _ _=>exact .inr ⟨"again",_,_,rfl,⟨_,rfl⟩,by decide⟩
theorem Vv{ps:List Kz}{t:T}{rem:List T}(ht:Hd "worker" t):∃y t' rem',ps.flatMap progRowsB++t::rem=t'::rem'/\Hd y t'/\(y="program"\/y="worker"):=by
 cases ps with
 |nil=>exact⟨_,t,rem,rfl,ht,.inr rfl⟩
 |cons p r=>exact⟨"program",B1 p.1.1,_,rfl,⟨_,rfl⟩,.inl rfl⟩
theorem C6{α:Type}{pick:List (Option Nat)}{ti:UTA}{env:Ev}{S0:TH}{gg:UTG}{tc:UTT}{te:UTE}{P:UX}(xs:List α)(e g:α->T)(R:TH->Prop)(hti:∀k:List T->TH->Prop,(∀S,R S->k (xs.map e) S)->ti env S0 k)(hl:xs.length<=sizeLine)
  (turn:∀S,R S->∀x∈xs,∀(A:UX) (B:TH->Prop),A (g x) S->gg (e x) (G2 pick env) S fun env' S'=>tc env' S' fun b S2=>(b=true->te env' S2 A)/\(b=false->B S2))
  (done:∀S,R S->P (.lst (xs.map g)) S):Ag pick ti gg tc te env S0 P:=by
 unfold Ag
 refine hti _ fun S hS=>?_
 have:=Fj (pick:=pick) (ti:=fun _ S' k=>k (xs.map e) S') (env:=env) (S0:=S) (S:=S) (gg:=gg) (tc:=tc) (te:=te) (P:=P) xs e g (fun k hk=>hk) hl (turn S hS) (done S hS)
 unfold Ag at this
 exact this
section
variable{P:Program}{w:World}{K:PySem.W.Frag}{mg:Str->Option Value}{base:Heap}
def Uw(mg:Str->Option Value):List T->TH->UX->Prop:=fun ts S Pp=>∃q pre,∃ps:List Kz,∃t rem,ts=[.ref q]/\Fd mg S q pre (ps.flatMap progRowsB++t::rem)/\(∀p∈ps,Pg p)/\Hd "worker" t/\ps.length<=900/\∀S' pre',Fd mg S' q pre' (t::rem)->Ot q S S'->Pp (.tup (ps.map fun p=>At p.1)) S'
theorem Xi:Zv ["rows","programs","name","owns"] ["rows"] (Zb (top 67)):=⟨rfl,rfl,rfl,by decide +kernel,rfl,by decide +kernel,by decide +kernel⟩
theorem programs_of{m:Nat}(N:Nm P w K mg)(d:Aa K mg "programs_of" ["rows"] (top 67))(c_word_ahead:Has P w K mg base m "word_ahead" ["rows"] (Ex mg))(c_m_draw:HasM P w K mg base m (cAt mg "Feed") "draw" ["self"] (El mg))(c_drawn:Has P w K mg base m "drawn" ["rows","word"] (Oa mg))(c_steps_of:Has P w K mg base m "steps_of" ["rows"] (P3 mg)):Has P w K mg base (m+1) "programs_of" ["rows"] (Uw mg):=by
 have sc:=Xi
 refine Ab (k:=m) d sc (fun ts S Pp h=>?_) fun cdv f A outer s H E hr=>?_
 ·obtain⟨_,_,_,_,_,rfl,_⟩:=h;rfl
 have hu64:=hr.units
 refine⟨_,(Zs (Zt 1 sc.nd (Bu Zn))
   (Zs (D0 PassesOwn.never (Nk hu64 (Zf c_word_ahead hr rfl (Zc (uv 0) Zn)) Zq) (Zs (Zt 2 sc.nd (Zx (Aj c_m_draw hr (uv 0)) Zi))
   (Zs (Zt 3 sc.nd (A6 rfl N.tuple (Zc (Xg 0 ["row"] [none] rfl (Xu (Zf c_drawn hr rfl (Zc (uv 0) (Zc Zq Zn)))) (fun _ _ _ _ _=>Ah) (fun _ _ _ _ _=>(K0 (uv 0) (Ec Zi) Ef))) Zn)))
   (Zo (Bb (A5 (uv 1) (Zc (Zu (Zc (uv 2) (Zc (uv 3) (Zc (A6 rfl N.tuple (Zc (Zf c_steps_of hr rfl (Zc (uv 0) Zn)) Zn)) Zn)))) Zn)))))))
   (Zo (Zr (A6 rfl N.tuple (Zc (uv 1) Zn)))))),fun ts S Pp h=>?_⟩
 obtain⟨q,pre,ps,t,rem,rfl,fd,hp,ht,lp,h⟩:=h
 let e0:Option T:=some (.ref q)
 refine Zj (fun env S1=>∃r,env=[e0,some (.ref r),none,none]/\S r=none/\S1=Ad S r (.lst [])) (fun k hk=>⟨show 0<=sizeLine by decide,fun r hr'=>hk _ _ ⟨r,rfl,hr',rfl⟩⟩) ?_
 rintro _ _ ⟨r,rfl,er0,rfl⟩
 have nq:q≠r:=fun z=>by rw[<-z] at er0;rw[show S q=_ from fd] at er0;cases er0
 let e1:Option T:=some (.ref r)
 let B:Nat->Ev->TH->Prop:=fun n env S'=>∃k pre' e2 e3,env=[e0,e1,e2,e3]/\n=ps.length - k/\k<=ps.length/\Fd mg S' q pre' ((ps.drop k).flatMap progRowsB++t::rem)/\S' r=some (.lst ((ps.take k).map fun p=>At p.1))/\Ot q S S'
 refine Zj (fun env S'=>∃pre' e2 e3,env=[e0,e1,e2,e3]/\Fd mg S' q pre' (t::rem)/\S' r=some (.lst (ps.map fun p=>At p.1))/\Ot q S S') (fun kk hkk=>⟨B,⟨_,0,pre,none,none,rfl,rfl,Nat.zero_le _,?_,Zd,Ot.new er0⟩,?_⟩) ?_
 ·show Ad S r _ q=_
  rw[updT_ne nq];exact fd
 ·rintro n env S1 ⟨k,pre1,e2,e3,rfl,rfl,hk,fd1,er,ot⟩
  by_cases hlt:k<ps.length
  ·have hpk:=hp ps[k] (List.getElem_mem hlt)
   have ed:ps.drop k=ps[k]::ps.drop (k+1):=List.drop_eq_getElem_cons hlt
   have et:(ps.take (k+1)).map (fun p=>At p.1)=(ps.take k).map (fun p=>At p.1)++[At ps[k].1]:=by rw[List.take_add_one,List.getElem?_eq_getElem hlt,List.map_append];rfl
   generalize ps[k]=pk at hpk ed et
   obtain⟨y,t',rem',er',hy,yy⟩:=Vv (ps:=ps.drop (k+1)) (rem:=rem) ht
   have rows:(ps.drop k).flatMap progRowsB++t::rem=B1 pk.1.1::(pk.1.2.1.map ownRow++(pk.2++t'::rem')):=by
    rw[ed,List.flatMap_cons,List.append_assoc,er']
    show (B1 pk.1.1::(pk.1.2.1.map ownRow++pk.2))++t'::rem'=_
    rw[List.cons_append,List.append_assoc]
   rw[rows] at fd1
   refine⟨q,pre1,_,rfl,fd1,.inr ⟨"program",_,_,rfl,⟨_,rfl⟩,0,by omega,(DatN.str _).q,(DatN.str _).q,yes_ ?_ ?_⟩⟩
   ·show Bool.xor false (teq 0 (.str "program") (.str "program"))=true
    rw[Dh,decide_eq_true rfl];rfl
   let e2:Option T:=some (.str pk.1.1)
   refine Zj (fun env S'=>∃pre2,env=[e0,e1,e2,e3]/\Fd mg S' q pre2 (pk.1.2.1.map ownRow++(pk.2++t'::rem'))/\S' r=some (.lst ((ps.take k).map fun p=>At p.1))/\Ot q S S') (fun k2 hk2=>⟨_,fd1,rfl,q,pre1,_,_,rfl,fd1,_,at1,hk2 _ _ ⟨_,rfl,Zd,by rw[updT_ne nq.symm];exact er,ot.trans Ot.upd⟩⟩) ?_
   rintro _ S2 ⟨pre2,rfl,fd2,er2,ot2⟩
   let e3:Option T:=some (.tup (pk.1.2.1.map pairT))
   refine Zj (fun env S'=>∃pre2,env=[e0,e1,e2,e3]/\Fd mg S' q pre2 (pk.2++t'::rem')/\S' r=some (.lst ((ps.take k).map fun p=>At p.1))/\Ot q S S') (fun k2 hk2=>?_) ?_
   ·have hown:∀u∈pk.1.2.1.map ownRow,Hd "own" u:=fun u hu=>by
     obtain⟨x,_,rfl⟩:=List.mem_map.mp hu
     exact⟨_,rfl⟩
    have ny:y≠"own":=by rcases yy with rfl|rfl <;> decide
    refine C6 pk.1.2.1 ownRow pairT (fun S3=>∃pre3,Fd mg S3 q pre3 (pk.2++t'::rem')/\S3 r=some (.lst ((ps.take k).map fun p=>At p.1))/\Ot q S S3) (fun kc hkc=>⟨q,pre2,pk.1.2.1.map ownRow,pk.2++t'::rem',"own",rfl,fd2,hown,Sz hpk.bd hy ny,by rw[List.length_map];exact hpk.ow,fun S3 pre3 fd3 ot3=>hkc S3 ⟨pre3,fd3,ot3 r _ nq.symm er2,ot2.trans ot3⟩⟩) (Xp (by have:=hpk.ow;omega)) (fun S3 _ x hx A B hA=>⟨fun _=>?_,fun z=>(by cases z)⟩) (fun S3 ⟨pre3,fd3,er3,ot3⟩=>hk2 _ _ ⟨pre3,rfl,fd3,er3,ot3⟩)
    show A (.tup (cutA [.str "own",.str x.1,.int x.2] (some 1) none)) S3
    rw[C8]
    exact hA
   rintro _ S3 ⟨pre3,rfl,fd3,er3,ot3⟩
   have ny:¬ SW y:=by
    rcases yy with rfl|rfl
    ·exact Xw
    ·exact Y6
   have na:y≠"again":=by rcases yy with rfl|rfl <;> decide
   refine⟨⟨_,er3⟩,q,pre3,pk.2,pk.1.2.2,t',rem',y,rfl,fd3,hpk.bd,hy,ny,na,hpk.sl,hpk.ss,fun S4 pre4 fd4 ot4=>⟨show 3<=sizeLine by decide,(ps.take k).map (fun p=>At p.1),ot4 r _ nq.symm er3,Xo (by rw[List.length_map,List.length_take];omega),ps.length - (k+1),by omega,k+1,pre4,e2,e3,rfl,rfl,hlt,?_,?_,fun b c n e=>?_⟩⟩
   ·show Ad S4 r _ q=_
    rw[updT_ne nq,er'];exact fd4
   ·rw[et];exact Zd
   ·rw[updT_ne (fun z=>by rw[z,er0] at e;cases e)];exact ot4 b c n (ot3 b c n e)
  ·have ek:k=ps.length:=by omega
   subst ek
   rw[List.drop_length] at fd1
   rw[List.take_length] at er
   refine⟨q,pre1,_,rfl,fd1,.inr ⟨"worker",t,rem,rfl,ht,0,by omega,(DatN.str _).q,(DatN.str _).q,no_ ?_ (hkk _ _ ⟨pre1,e2,e3,rfl,fd1,er,ot⟩)⟩⟩
   show Bool.xor false (teq 0 (.str "worker") (.str "program"))=false
   rw[Dh];rfl
 rintro _ S1 ⟨pre1,e2,e3,rfl,fd1,er,ot⟩
 exact⟨_,er,h _ pre1 fd1 ot⟩
def Mf:List T->TH->UX->Prop:=fun ts S Pp=>∃(zs:List Str) (z:Str) (j:Nat),ts=[.str z,.lst (sW zs)]/\zs[j]?=some z/\(∀m,m<j->zs[m]?≠some z)/\Pp (.int (j:Int)) S
theorem R4:Zv ["name","names"] ["name","names"] (Zb (top 71)):=⟨rfl,rfl,rfl,by decide +kernel,rfl,by decide +kernel,by decide +kernel⟩
theorem number_of_program{m:Nat}(N:Nm P w K mg)(d:Aa K mg "number_of_program" ["name","names"] (top 71)):Has P w K mg base (m+1) "number_of_program" ["name","names"] Mf:=by
 have sc:=R4
 refine Ab (k:=m) d sc (fun ts S Pp h=>?_) fun cdv f A outer s H E hr=>?_
 ·obtain⟨_,_,_,rfl,_⟩:=h;rfl
 refine⟨_,(Zs (Zg (U2 (uv 0) (uv 1)) (Zo Be) Ze)
   (Zo (Zr (Rb (uv 1) (Zc (uv 0) Zn))))),fun ts S Pp h=>?_⟩
 obtain⟨zs,z,j,rfl,hj,hf,h⟩:=h
 refine Zj (fun env S'=>env=[some (.str z),some (.lst (sW zs))]/\S=S') (fun k hk=>⟨zs,C2 zs,no_ ?_ (hk _ _ ⟨rfl,rfl⟩)⟩) ?_
 ·show (!decide (z∈zs))=false
  rw[decide_eq_true (List.mem_of_getElem? hj)];rfl
 rintro _ _ ⟨rfl,rfl⟩
 exact⟨zs,rfl,z,j,rfl,hj,hf,h⟩
def Av(l:Str):List Str:=(Txt.split l " ").filter fun z=>!decide (z="")
def worded(x:Str):List (List Str):=((Txt.split x "\n").map Av).filter fun ws=>!ws.isEmpty
def Mw:List T->TH->UX->Prop:=fun ts S Pp=>∃l:Str,ts=[.str l]/\l.length<=sizeLine/\(Txt.split l " ").length<=sizeLine/\Pp (.lst (sW (Av l))) S
theorem R9:Zv ["row"] ["row"] (Zb (top 63)):=⟨rfl,rfl,rfl,by decide +kernel,rfl,by decide +kernel,by decide +kernel⟩
def Qh(f:Str->Bool):T->Option T
 | .str z=>if f z then some (.str z) else none
 |_=>none
theorem Q6(f:Str->Bool)(zs:List Str):(sW zs).filterMap (Qh f)=sW (zs.filter f):=by
 induction zs with
 |nil=>rfl
 |cons z r ih =>
  show ((T.str z)::sW r).filterMap (Qh f)=_
  rw[List.filterMap_cons,List.filter_cons]
  have e:Qh f (.str z)=if f z then some (.str z) else none:=rfl
  rw[e]
  cases f z with
  |true=>rw[if_pos rfl,if_pos rfl,ih];rfl
  |false=>rw[if_neg Bool.false_ne_true,if_neg Bool.false_ne_true,ih]
theorem words_in{m:Nat}(N:Nm P w K mg)(d:Aa K mg "words_in" ["row"] (top 63)):Has P w K mg base (m+1) "words_in" ["row"] Mw:=by
 have sc:=R9
 refine Ab (k:=m) d sc (fun ts S Pp h=>?_) fun cdv f A outer s H E hr=>?_
 ·obtain⟨_,rfl,_⟩:=h;rfl
 have hu0:=An hr
 refine⟨_,(Zo (Zr (Xg 0 ["word"] [none] rfl (Xu (Mj (uv 0) (Zc Zq Zn))) (fun _ _ _ _ _=>P4 (Kh hu0 (uv 0) Zq)) (fun _ _ _ _ _=>(uv 0))))),fun ts S Pp h=>?_⟩
 obtain⟨l,rfl,hl,hs,h⟩:=h
 refine Bs (ts:=sW (Txt.split l " ")) (f:=Qh fun z=>!decide (z="")) (fun k hk=>⟨by decide,hl,hs,hk⟩) (by show (List.map T.str _).length<=_;rw[List.length_map];exact hs) (fun x hx A B hA hB=>?_) ?_
 ·obtain⟨z,_,rfl⟩:=List.mem_map.mp hx
  by_cases e:z=""
  ·refine no_ (by show Bool.xor true (decide (z=""))=false;rw[decide_eq_true e];rfl) (hB ?_)
   show (if !decide (z="") then _ else _)=_
   rw[decide_eq_true e];rfl
  ·refine yes_ (by show Bool.xor true (decide (z=""))=true;rw[decide_eq_false e];rfl) (hA _ ?_)
   show (if !decide (z="") then _ else _)=_
   rw[decide_eq_false e];rfl
 ·rw[Q6]
  exact h
structure TxOk(x:Str):Prop where
 l:x.length<=sizeLine
 n:(Txt.split x "\n").length<=sizeLine
 w:∀l∈Txt.split x "\n",l.length<=sizeLine/\(Txt.split l " ").length<=sizeLine
def Pn:List T->TH->UX->Prop:=fun ts S Pp=>∃x:Str,ts=[.str x]/\TxOk x/\Pp (.lst ((worded x).map fun ws=>.lst (sW ws))) S
theorem Ta:Zv ["text","rows"] ["text"] (Zb (top 62)):=⟨rfl,rfl,rfl,by decide +kernel,rfl,by decide +kernel,by decide +kernel⟩
def Ud:T->Option T
 | .lst []=>none
 |t=>some t
theorem Sf(gs:List (List Str)):(gs.map fun ws=>T.lst (sW ws)).filterMap Ud=(gs.filter fun ws=>!ws.isEmpty).map fun ws=>T.lst (sW ws):=by
 induction gs with
 |nil=>rfl
 |cons g r ih =>
  rw[List.map_cons,List.filterMap_cons,List.filter_cons]
  cases g with
  |nil=>exact ih
  |cons a b =>
   show T.lst (sW (a::b))::(r.map fun ws=>T.lst (sW ws)).filterMap Ud=_
   rw[ih];rfl
theorem worded_rows{m:Nat}(N:Nm P w K mg)(d:Aa K mg "worded_rows" ["text"] (top 62))(c_words_in:Has P w K mg base m "words_in" ["row"] Mw):Has P w K mg base (m+1) "worded_rows" ["text"] Pn:=by
 have sc:=Ta
 refine Ab (k:=m) d sc (fun ts S Pp h=>?_) fun cdv f A outer s H E hr=>?_
 ·obtain⟨_,rfl,_⟩:=h;rfl
 have hu0:=An hr
 refine⟨_,(Zs (Cp 1 sc.nd 0 ["row"] [none] rfl (Xu (Mj (uv 0) (Zc Zq Zn))) (fun _ _ _ _ _=>Ah) (fun _ _ _ _ _=>(Zf c_words_in hr rfl (Zc (uv 0) Zn))))
   (Zo (Zr (Xg 0 ["words"] [none] rfl (Xu (uv 1)) (fun _ _ _ _ _=>P4 (Kh hu0 (uv 0) (Am Zn))) (fun _ _ _ _ _=>(uv 0)))))),fun ts S Pp h=>?_⟩
 obtain⟨x,rfl,ok,h⟩:=h
 refine Zj (fun env S'=>env=[some (.str x),some (.lst (((Txt.split x "\n").map Av).map fun ws=>.lst (sW ws)))]/\S=S') (fun k hk=>?_) ?_
 ·refine Fj (S:=S) (Txt.split x "\n") T.str (fun l=>.lst (sW (Av l))) (fun k hk=>⟨by decide,ok.l,ok.n,hk⟩) ok.n (fun l hl A B hA=>⟨fun _=>⟨l,rfl,(ok.w l hl).1,(ok.w l hl).2,hA⟩,fun z=>(by cases z)⟩) ?_
  refine hk _ _ ⟨?_,rfl⟩
  rw[List.map_map];rfl
 rintro _ _ ⟨rfl,rfl⟩
 refine Bs (ts:=((Txt.split x "\n").map Av).map fun ws=>.lst (sW ws)) (f:=Ud) (fun k hk=>hk) (by rw[List.length_map,List.length_map];exact ok.n) (fun y hy A B hA hB=>?_) ?_
 ·obtain⟨g,_,rfl⟩:=List.mem_map.mp hy
  refine⟨show 0<=sizeLine by decide,?_⟩
  cases g with
  |nil=>exact⟨fun z=>(by cases z),fun _=>hB rfl⟩
  |cons a b=>exact⟨fun _=>hA _ rfl,fun z=>(by cases z)⟩
 ·rw[Sf]
  exact h
end
end K14
end
section
namespace K14
open PySem PySem.Spec PyProof.Rows L2 TL
seal UE UT UA US USs UI UG UO UW PTs Ag A8
theorem vpt{ow bx:List Str}{n:Nat}{t:T}(h:VF ow bx n t)(hn:n<=5):PtV "value" t (wordsT t):=by
 obtain⟨p,hp,hl⟩:=Adv h
 have:2 ^ n<=32:=Nat.pow_le_pow_right (by decide) hn
 exact .v hp (by omega)
theorem npt{k x:Str}(h1:k≠"value")(h2:k≠"number")(h3:k≠"count"):PtV k (.str x) (wordsT (.str x)):=by
 rw[show wordsT (.str x)=[x] by simp[wordsT]]
 exact .w (.nam h1 h2 h3)
theorem ipt{k:Str}{i:Int}(h:k="number"\/k="count")(h0:0<=i)(h1:i<=99):PtV k (.int i) (wordsT (.int i)):=by
 rw[show wordsT (.int i)=[numS i] by simp[wordsT]]
 exact .w (.num h h0 h1)
theorem rw1{z k:Str}{x:T}(hk:Hk z=.tup [.str k])(h:PtV k x (wordsT x)):RowW (.tup [.str z,x]) (wordsT (.tup [.str z,x])):=⟨z,[x],wordsT x++[],[k],rfl,by simp[wordsT,wordsL],hk,Nat.le_succ 1,.cons h .nil⟩
theorem rw2{z k k':Str}{x y:T}(hk:Hk z=.tup [.str k,.str k'])(h:PtV k x (wordsT x))(h':PtV k' y (wordsT y)):RowW (.tup [.str z,x,y]) (wordsT (.tup [.str z,x,y])):=⟨z,[x,y],wordsT x++(wordsT y++[]),[k,k'],rfl,by simp[wordsT,wordsL],hk,Nat.le_refl 2,.cons h (.cons h' .nil)⟩
theorem sn_rw{ow bx lk:List Str}{b:Int}(hb:b<=99){t:T}(h:SN ow bx lk b t):RowW t (wordsT t):=by
 have vp:∀{v:T},VF ow [] 5 v->PtV "value" v (wordsT v):=fun q=>vpt q (by decide)
 cases h with
 |take m=>exact rw1 (k:="lock") rfl (npt (by decide) (by decide) (by decide))
 |give m=>exact rw1 (k:="lock") rfl (npt (by decide) (by decide) (by decide))
 |get m m'=>exact rw2 (k:="own") (k':="box") rfl (npt (by decide) (by decide) (by decide)) (npt (by decide) (by decide) (by decide))
 |add m q=>exact rw2 (k:="box") (k':="value") rfl (npt (by decide) (by decide) (by decide)) (vp q)
 |put m q=>exact rw2 (k:="box") (k':="value") rfl (npt (by decide) (by decide) (by decide)) (vp q)
 |wait m q=>exact rw2 (k:="box") (k':="value") rfl (npt (by decide) (by decide) (by decide)) (vp q)
 |set m q=>exact rw2 (k:="own") (k':="value") rfl (npt (by decide) (by decide) (by decide)) (vp q)
 |check q=>exact rw1 (k:="value") rfl (vp q)
 |skip a c=>exact rw1 (k:="count") rfl (ipt (.inr rfl) a (by omega))
 |unl q a c=>exact rw2 (k:="value") (k':="count") rfl (vp q) (ipt (.inr rfl) a (by omega))
theorem sn_hd{ow bx lk:List Str}{b:Int}{t:T}(h:SN ow bx lk b t):St t:=by
 cases h <;> exact⟨_,⟨_,rfl⟩,rfl⟩
theorem C3{Q:Str->Prop}{z:Str}{ds rem:List T}(hd:∀t∈ds,Hd z t)(nz:¬ Q z)(h:Stop Q rem):Stop Q (ds++rem):=by
 cases ds with
 |nil=>exact h
 |cons d r=>exact .inr ⟨z,d,r++rem,rfl,hd d (.head _),nz⟩
theorem Im{Q:Str->Prop}{ps:List Kz}{rem:List T}(nz:¬ Q "program")(h:Stop Q rem):Stop Q (ps.flatMap progRowsB++rem):=by
 cases ps with
 |nil=>exact h
 |cons p r=>exact .inr ⟨"program",B1 p.1.1,_,rfl,⟨_,rfl⟩,nz⟩
theorem Lf{α:Type}{z:Str}{f:α->T}(h:∀x,Hd z (f x))(xs:List α):∀t∈xs.map f,Hd z t:=fun t ht=>by
 obtain⟨x,_,rfl⟩:=List.mem_map.mp ht
 exact h x
theorem Gn{a b:Str}(h:decide (a=b)=false):¬ a=b:=of_decide_eq_false h
section
variable{P:Program}{w:World}{K:PySem.W.Frag}{mg:Str->Option Value}{base:Heap}
def rowsB(size:Int)(bs:List (Str×Int))(ls:List Str)(ps:List Kz)(ws:List Int)(cs:List T):List T :=
 .tup [.str "size",.int size]::(bs.map boxRow++(ls.map lockRow++(ps.flatMap progRowsB++(ws.map (workRow (ps.map (·.1)))++(cs.map claimRow++[])))))
structure RdOk(size:Int)(bs:List (Str×Int))(ls:List Str)(ps:List Kz)(ws:List Int)(cs:List T):Prop where
 rw:∀t∈rowsB size bs ls ps ws cs,RowW t (wordsT t)
 rl:(rowsB size bs ls ps ws cs).length<=900
 bn:bs.length<=900
 ln:ls.length<=900
 pg:∀p∈ps,Pg p
 p4:ps.length<=900
 w1:1<=ws.length
 w6:ws.length<=900
 wa:∀i∈ws,∃j:Nat,(j:Int)=i/\(ps.map fun p=>p.1.1)[j]?=some (Om (ps.map (·.1)) i)/\∀m,m<j->(ps.map fun p=>p.1.1)[m]?≠some (Om (ps.map (·.1)) i)
 cn:cs.length<=900
theorem Fl:∀ps:List Kz,Xn (ps.map fun p=>At p.1)=ps.map fun p=>p.1.1
 |[]=>rfl
 |p::r=>by
  show p.1.1::Xn (r.map fun p=>At p.1)=_
  rw[Fl r]
  rfl
def Oj(CL CS CC:Addr):List T->TH->UX->UR->Prop:=fun ts S Pp R=>∃x size bs ls ps ws cs,ts=[.str x]/\TxOk x/\RdOk size bs ls ps ws cs/\worded x=(rowsB size bs ls ps ws cs).map wordsT/\∀S',Al S S'->cLoomOfE CL CS CC [.int size,.tup (bs.map pairT),.tup (ls.map T.str),.tup (ps.map fun p=>At p.1),.tup (ws.map T.int),.tup cs] S' Pp R
theorem Acc:Zv ["text","rows","size","boxes","locks","programs","names","workers","claims"] ["text"] (Zb (top 61)):=⟨rfl,rfl,rfl,by decide +kernel,rfl,by decide +kernel,by decide +kernel⟩
theorem readE{m:Nat}(N:Nm P w K mg)(d:Aa K mg "read" ["text"] (top 61))(c_i_Feed:HasI P w K mg base m (cAt mg "Feed") "Feed" ["self","things"] (O1 mg))(c_m_is_empty:HasM P w K mg base m (cAt mg "Feed") "is_empty" ["self"] (Ii mg))(c_worded_rows:Has P w K mg base m "worded_rows" ["text"] Pn)(c_row_of:Has P w K mg base m "row_of" ["words"] To)(c_size_of:Has P w K mg base m "size_of" ["rows"] (Qa mg))(c_drawn:Has P w K mg base m "drawn" ["rows","word"] (Oa mg))(c_programs_of:Has P w K mg base m "programs_of" ["rows"] (Uw mg))(c_names_of:Has P w K mg base m "names_of" ["things"] Es)(c_number_of_program:Has P w K mg base m "number_of_program" ["name","names"] Mf)(c_loom_of:Ep P w K mg base m "loom_of" ["size","boxes","locks","programs","workers","claims"] (cLoomOfE (cAt mg "NoLoom") (cAt mg "NoStep") (cAt mg "NoClaim"))):Ep P w K mg base (m+2) "read" ["text"] (Oj (cAt mg "NoLoom") (cAt mg "NoStep") (cAt mg "NoClaim")):=by
 have sc:=Acc
 refine Ff (k:=m+1) d sc (fun ts S Pp R h=>?_) fun cdv f A outer s H E S R hr hw=>?_
 ·obtain⟨_,_,_,_,_,_,_,rfl,_⟩:=h;rfl
 have hr1:=hr
 have hr:=hr.mono (Nat.le_succ m)
 refine⟨_,(Ai (US.x (Zt 1 sc.nd (Qg c_i_Feed hr1 rfl (Zc (Xg 0 ["words"] [none] rfl (Xu (Zf c_worded_rows hr rfl (Zc (uv 0) Zn))) (fun _ _ _ _ _=>Ah) (fun _ _ _ _ _=>(Zf c_row_of hr rfl (Zc (uv 0) Zn)))) Zn))))
   (Ai (US.x (Zt 2 sc.nd (Zf c_size_of hr rfl (Zc (uv 1) Zn))))
   (Ai (US.x (Zt 3 sc.nd (A6 rfl N.tuple (Zc (Xg 0 ["row"] [none] rfl (Xu (Zf c_drawn hr rfl (Zc (uv 1) (Zc Zq Zn)))) (fun _ _ _ _ _=>Ah) (fun _ _ _ _ _=>(K0 (uv 0) (Ec Zi) Ef))) Zn))))
   (Ai (US.x (Zt 4 sc.nd (A6 rfl N.tuple (Zc (Xg 0 ["row"] [none] rfl (Xu (Zf c_drawn hr rfl (Zc (uv 1) (Zc Zq Zn)))) (fun _ _ _ _ _=>Ah) (fun _ _ _ _ _=>(Zx (uv 0) Zi))) Zn))))
   (Ai (US.x (Zt 5 sc.nd (Zf c_programs_of hr rfl (Zc (uv 1) Zn))))
   (Ai (US.x (Zt 6 sc.nd (Zf c_names_of hr rfl (Zc (uv 5) Zn))))
   (Ai (US.x (Zt 7 sc.nd (A6 rfl N.tuple (Zc (Xg 0 ["row","names"] [none,some 6] rfl (Xu (Zf c_drawn hr rfl (Zc (uv 1) (Zc Zq Zn)))) (fun _ _ _ _ _=>Ah) (fun _ _ _ _ _=>(Zf c_number_of_program hr rfl (Zc (Zx (uv 0) Zi) (Zc (uv 1) Zn))))) Zn))))
   (Ai (US.x (Zt 8 sc.nd (A6 rfl N.tuple (Zc (Xg 0 ["row"] [none] rfl (Xu (Zf c_drawn hr rfl (Zc (uv 1) (Zc Zq Zn)))) (fun _ _ _ _ _=>Ah) (fun _ _ _ _ _=>(Zx (uv 0) Zi))) Zn))))
   (Ai (Fk (Ap (Xe (Aj c_m_is_empty hr (uv 1)))) (As (Bj rfl rfl (B4 fun _ _ _ z=>z) hw rfl N.NoText_at N.NoText_ok PySem.F.excBase_ValueError rfl PySem.F.excBase_ValueError (Zc Zq Zn))) B2)
   (As (Aec (Ee c_loom_of hr rfl (Po fun _ _ _ z=>z) hw (Zc (uv 2) (Zc (uv 3) (Zc (uv 4) (Zc (uv 5) (Zc (uv 7) (Zc (uv 8) Zn)))))))))))))))))),fun ts Pp h=>?_⟩
 obtain⟨x,size,bs,ls,ps,ws,cs,rfl,ok,lv,hw',h⟩:=h
 have rr:=lv.rw
 have rl:=lv.rl
 have er:rowsB size bs ls ps ws cs=.tup [.str "size",.int size]::(bs.map boxRow++(ls.map lockRow++(ps.flatMap progRowsB++(ws.map (workRow (ps.map (·.1)))++(cs.map claimRow++[]))))):=rfl
 have hw:=hw'
 generalize rowsB size bs ls ps ws cs=rows at hw rr rl er
 let e0:Option T:=some (.str x)
 refine Zj (fun env S'=>∃q,env=[e0,some (.ref q),none,none,none,none,none,none,none]/\S q=none/\Fd mg S' q [] rows/\Al S S') (fun k hk=>?_) ?_
 ·refine E5 (S1:=S) ((worded x).map fun ws=>.lst (sW ws)) (fun j acc S'=>acc=rows.take j/\Al S S') (fun k hk=>⟨x,rfl,ok,hk⟩) (Xp (by rw[List.length_map,hw,List.length_map];omega)) ⟨rfl,fun _ _ e=>e⟩ ?_ ?_
  ·rintro j y acc S2 ej ⟨rfl,al⟩
   rw[hw,List.map_map,List.getElem?_map] at ej
   cases ek:rows[j]? with
   |none=>rw[ek] at ej;cases ej
   |some t =>
    rw[ek] at ej
    cases ej
    exact⟨fun _=>⟨t,wordsT t,rfl,rr t (List.mem_of_getElem? ek),fun S3 al3=>⟨by rw[List.take_add_one,ek];rfl,fun b c e=>al3 b c (al b c e)⟩⟩,fun z=>(by cases z)⟩
  ·rintro acc S2 ⟨rfl,al⟩
   rw[List.take_of_length_le (by rw[List.length_map,hw,List.length_map];exact Nat.le_refl _)]
   refine fun q hq=>⟨q,_,rfl,Zd,rfl,hk _ _ ⟨q,rfl,?_,Zd,?_⟩⟩
   ·cases es:S q with
    |none=>rfl
    |some c=>rw[al q c es] at hq;cases hq
   ·intro b c e
    have e2:=al b c e
    have n:b≠q:=fun z=>by rw[z,hq] at e2;cases e2
    rw[updT_ne n,updT_ne n];exact e2
 rintro _ S1 ⟨q,rfl,hq,fd,al⟩
 rw[er] at fd
 have step:∀{S1 S2:TH},Al S S1->Ot q S1 S2->Al S S2:=fun al ot b c e=>ot b c (fun z=>by rw[z,hq] at e;cases e) (al b c e)
 let e1:Option T:=some (.ref q)
 refine Zj (fun env S'=>∃pre,env=[e0,e1,some (.int size),none,none,none,none,none,none]/\Fd mg S' q pre (bs.map boxRow++(ls.map lockRow++(ps.flatMap progRowsB++(ws.map (workRow (ps.map (·.1)))++(cs.map claimRow++[])))))/\Al S S') (fun k hk=>⟨q,[],_,.int size,rfl,fd,fun S' pre' fd' ot=>hk _ _ ⟨pre',rfl,fd',step al ot⟩⟩) ?_
 clear fd al
 rintro _ S1 ⟨pre,rfl,fd,al⟩
 let e2:Option T:=some (.int size)
 have hB:∀t∈bs.map boxRow,Hd "box" t:=Lf (fun p=>⟨_,rfl⟩) bs
 have hL:∀t∈ls.map lockRow,Hd "lock" t:=Lf (fun p=>⟨_,rfl⟩) ls
 have hW:∀t∈ws.map (workRow (ps.map (·.1))),Hd "worker" t:=Lf (fun p=>⟨_,rfl⟩) ws
 have hC:∀t∈cs.map claimRow,Hd "claim" t:=Lf (fun p=>⟨_,rfl⟩) cs
 have bn:=lv.bn
 have ln:=lv.ln
 have w6:=lv.w6
 have w1:=lv.w1
 have cn:=lv.cn
 have p4:=lv.p4
 refine Zj (fun env S'=>∃pre,env=[e0,e1,e2,some (.tup (bs.map pairT)),none,none,none,none,none]/\Fd mg S' q pre (ls.map lockRow++(ps.flatMap progRowsB++(ws.map (workRow (ps.map (·.1)))++(cs.map claimRow++[]))))/\Al S S') (fun k hk=>?_) ?_
 ·refine C6 bs boxRow pairT (fun S3=>∃pre3,Fd mg S3 q pre3 (ls.map lockRow++(ps.flatMap progRowsB++(ws.map (workRow (ps.map (·.1)))++(cs.map claimRow++[]))))/\Al S S3) (fun kc hkc=>⟨q,pre,bs.map boxRow,_,"box",rfl,fd,hB,C3 hL (Gn rfl) (Im (Gn rfl) (C3 hW (Gn rfl) (C3 hC (Gn rfl) (.inl rfl)))),by rw[List.length_map];omega,fun S3 pre3 fd3 ot3=>hkc S3 ⟨pre3,fd3,step al ot3⟩⟩) (Xp (by omega)) (fun S3 _ x hx A B hA=>⟨fun _=>?_,fun z=>(by cases z)⟩) (fun S3 ⟨pre3,fd3,al3⟩=>hk _ _ ⟨pre3,rfl,fd3,al3⟩)
  show A (.tup (cutA [.str "box",.str x.1,.int x.2] (some 1) none)) S3
  rw[C8]
  exact hA
 clear fd al
 rintro _ S1 ⟨pre,rfl,fd,al⟩
 let e3:Option T:=some (.tup (bs.map pairT))
 refine Zj (fun env S'=>∃pre,env=[e0,e1,e2,e3,some (.tup (ls.map T.str)),none,none,none,none]/\Fd mg S' q pre (ps.flatMap progRowsB++(ws.map (workRow (ps.map (·.1)))++(cs.map claimRow++[])))/\Al S S') (fun k hk=>?_) ?_
 ·exact C6 ls lockRow T.str (fun S3=>∃pre3,Fd mg S3 q pre3 (ps.flatMap progRowsB++(ws.map (workRow (ps.map (·.1)))++(cs.map claimRow++[])))/\Al S S3) (fun kc hkc=>⟨q,pre,ls.map lockRow,_,"lock",rfl,fd,hL,Im (Gn rfl) (C3 hW (Gn rfl) (C3 hC (Gn rfl) (.inl rfl))),by rw[List.length_map];omega,fun S3 pre3 fd3 ot3=>hkc S3 ⟨pre3,fd3,step al ot3⟩⟩) (Xp (by omega)) (fun S3 _ x hx A B hA=>⟨fun _=>⟨_,at1,hA⟩,fun z=>(by cases z)⟩) (fun S3 ⟨pre3,fd3,al3⟩=>hk _ _ ⟨pre3,rfl,fd3,al3⟩)
 clear fd al
 rintro _ S1 ⟨pre,rfl,fd,al⟩
 let e4:Option T:=some (.tup (ls.map T.str))
 refine Zj (fun env S'=>∃pre,env=[e0,e1,e2,e3,e4,some (.tup (ps.map fun p=>At p.1)),none,none,none]/\Fd mg S' q pre (ws.map (workRow (ps.map (·.1)))++(cs.map claimRow++[]))/\Al S S') (fun k hk=>?_) ?_
 ·cases ws with
  |nil=>exact absurd w1 (by decide)
  |cons i wr=>exact⟨q,pre,ps,workRow (ps.map fun p:Kz=>p.1) i,_,rfl,fd,lv.pg,⟨_,rfl⟩,by omega,fun S' pre' fd' ot=>hk _ _ ⟨pre',rfl,fd',step al ot⟩⟩
 clear fd al
 rintro _ S1 ⟨pre,rfl,fd,al⟩
 let e5:Option T:=some (.tup (ps.map fun p=>At p.1))
 refine Zj (fun env S'=>env=[e0,e1,e2,e3,e4,e5,some (.lst (sW (ps.map fun p=>p.1.1))),none,none]/\S1=S') (fun k hk=>⟨_,rfl,by rw[List.length_map];omega,fun y hy=>?_,?_⟩) ?_
 ·obtain⟨p,_,rfl⟩:=List.mem_map.mp hy
  exact⟨_,_,rfl⟩
 ·rw[Fl]
  exact hk _ _ ⟨rfl,rfl⟩
 rintro _ _ ⟨rfl,rfl⟩
 let e6:Option T:=some (.lst (sW (ps.map fun p=>p.1.1)))
 refine Zj (fun env S'=>∃pre,env=[e0,e1,e2,e3,e4,e5,e6,some (.tup (ws.map T.int)),none]/\Fd mg S' q pre (cs.map claimRow++[])/\Al S S') (fun k hk=>?_) ?_
 ·refine C6 ws (workRow (ps.map (·.1))) T.int (fun S3=>∃pre3,Fd mg S3 q pre3 (cs.map claimRow++[])/\Al S S3) (fun kc hkc=>⟨q,pre,ws.map (workRow (ps.map (·.1))),_,"worker",rfl,fd,hW,C3 hC (Gn rfl) (.inl rfl),by rw[List.length_map];omega,fun S3 pre3 fd3 ot3=>hkc S3 ⟨pre3,fd3,step al ot3⟩⟩) (Xp (by omega)) (fun S3 _ i hi A B hA=>⟨fun _=>?_,fun z=>(by cases z)⟩) (fun S3 ⟨pre3,fd3,al3⟩=>hk _ _ ⟨pre3,rfl,fd3,al3⟩)
  obtain⟨j,rfl,ej,nj⟩:=lv.wa i hi
  exact⟨_,at1,ps.map (fun p=>p.1.1),_,j,rfl,ej,nj,hA⟩
 clear fd al
 rintro _ S1 ⟨pre,rfl,fd,al⟩
 let e7:Option T:=some (.tup (ws.map T.int))
 refine Zj (fun env S'=>∃pre,env=[e0,e1,e2,e3,e4,e5,e6,e7,some (.tup cs)]/\Fd mg S' q pre []/\Al S S') (fun k hk=>?_) ?_
 ·refine C6 cs claimRow id (fun S3=>∃pre3,Fd mg S3 q pre3 []/\Al S S3) (fun kc hkc=>⟨q,pre,cs.map claimRow,_,"claim",rfl,fd,hC,.inl rfl,by rw[List.length_map];omega,fun S3 pre3 fd3 ot3=>hkc S3 ⟨pre3,fd3,step al ot3⟩⟩) (Xp (by omega)) (fun S3 _ x hx A B hA=>⟨fun _=>⟨_,at1,hA⟩,fun z=>(by cases z)⟩) (fun S3 ⟨pre3,fd3,al3⟩=>?_)
  rw[List.map_id]
  exact hk _ _ ⟨pre3,rfl,fd3,al3⟩
 clear fd al
 rintro _ S1 ⟨pre,rfl,fd,al⟩
 refine Zj (fun env S'=>env=[e0,e1,e2,e3,e4,e5,e6,e7,some (.tup cs)]/\S1=S') (fun k hk=>⟨_,fd,rfl,q,pre,[],rfl,fd,no_ rfl (hk _ _ ⟨rfl,rfl⟩)⟩) ?_
 rintro _ _ ⟨rfl,rfl⟩
 exact h _ al
end
end K14
end
section
namespace K14
open PySem PySem.Spec PyProof.Rows L2 TL
theorem L8{c:Nat}:∀{a b r s:List Nat},c ∉ a->c ∉ b->a++c::r=b++c::s->a=b/\r=s
 |[],[],r,s,_,_,h=>by injection h with _ e;exact⟨rfl,e⟩
 |[],y::b,r,s,_,hb,h=>by injection h with e _;exact absurd (e ▸ List.mem_cons_self) hb
 |x::a,[],r,s,ha,_,h=>by injection h with e _;exact absurd (e ▸ List.mem_cons_self) ha
 |x::a,y::b,r,s,ha,hb,h=>by
  injection h with e1 e2
  obtain⟨p,q⟩:=L8 (fun m=>ha (.tail _ m)) (fun m=>hb (.tail _ m)) e2
  exact⟨by rw[e1,p],q⟩
theorem E8{a b:Str}(h:a.cps.toList=b.cps.toList):a=b:=Str.ext' (Array.toList_inj.mp h)
theorem Bk(a b:Str):(a++b).cps.toList=a.cps.toList++b.cps.toList:=by rw[Str.cps_append,Array.toList_append]
theorem Tm(a b c:Str):a++b++c=a++(b++c):=E8 (by rw[Bk,Bk,Bk,Bk,List.append_assoc])
theorem P1(a:Str):a++("":Str)=a:=E8 (by rw[Bk];exact List.append_nil _)
theorem e_app(a:Str):("":Str)++a=a:=E8 (by rw[Bk];rfl)
theorem E3(a b:Str)(c:Nat):(a++(⟨#[c]⟩:Str)++b).cps.toList=a.cps.toList++c::b.cps.toList:=by rw[Bk,Bk,List.append_assoc];rfl
theorem L6{c:Nat}:∀{xs ys:List Str},xs≠[]->ys≠[]->(∀z∈xs,c ∉ z.cps.toList)->(∀z∈ys,c ∉ z.cps.toList)->Str.join ⟨#[c]⟩ xs=Str.join ⟨#[c]⟩ ys->xs=ys
 |[],_,h,_,_,_,_=>absurd rfl h
 |_::_,[],_,h,_,_,_=>absurd rfl h
 |[x],[y],_,_,_,_,e=>by rw[show x=y from e]
 |[x],y::y2::r,_,_,hx,_,e=>by
  have e2:x.cps.toList=y.cps.toList++c::(Str.join ⟨#[c]⟩ (y2::r)).cps.toList:=by rw[show x=y++⟨#[c]⟩++Str.join ⟨#[c]⟩ (y2::r) from e,E3]
  exact absurd (by rw[e2];exact List.mem_append.mpr (.inr (.head _))) (hx x (.head _))
 |x::x2::r,[y],_,_,_,hy,e=>by
  have e2:y.cps.toList=x.cps.toList++c::(Str.join ⟨#[c]⟩ (x2::r)).cps.toList:=by rw[<-show x++⟨#[c]⟩++Str.join ⟨#[c]⟩ (x2::r)=y from e,E3]
  exact absurd (by rw[e2];exact List.mem_append.mpr (.inr (.head _))) (hy y (.head _))
 |x::x2::r,y::y2::s,_,_,hx,hy,e=>by
  have e:x++⟨#[c]⟩++Str.join ⟨#[c]⟩ (x2::r)=y++⟨#[c]⟩++Str.join ⟨#[c]⟩ (y2::s):=e
  have e2:=congrArg (fun z:Str=>z.cps.toList) e
  rw[E3,E3] at e2
  obtain⟨p,q⟩:=L8 (hx x (.head _)) (hy y (.head _)) e2
  rw[E8 p,L6 (fun z=>by cases z) (fun z=>by cases z) (fun z hz=>hx z (.tail _ hz)) (fun z hz=>hy z (.tail _ hz)) (E8 q)]
theorem Ez(x y:Str):Txt.split x y≠[]:=fun h=>by
 have:=split_pos x y
 rw[h] at this
 exact absurd this (by decide)
theorem Hv{c:Nat}{zs:List Str}(hz:zs≠[])(hf:∀z∈zs,c ∉ z.cps.toList):Txt.split (Str.join ⟨#[c]⟩ zs) ⟨#[c]⟩=zs:=L6 (Ez _ _) hz (StrLaws.split_free _ c) hf (StrLaws.join_split _ _)
theorem M8(s:Str):∀{xs ys:List Str},xs≠[]->ys≠[]->Str.join s (xs++ys)=Str.join s xs++s++Str.join s ys
 |[],_,h,_=>absurd rfl h
 |[x],[],_,h=>absurd rfl h
 |[x],y::r,_,_=>rfl
 |x::x2::r,ys,_,h=>by
  show x++s++Str.join s ((x2::r)++ys)=x++s++Str.join s (x2::r)++s++Str.join s ys
  rw[M8 s (fun z=>by cases z) h]
  simp only[Tm]
theorem J1(a b:Str)(c:Nat):Txt.split (a++⟨#[c]⟩++b) ⟨#[c]⟩=Txt.split a ⟨#[c]⟩++Txt.split b ⟨#[c]⟩:=by
 have e:a++⟨#[c]⟩++b=Str.join ⟨#[c]⟩ (Txt.split a ⟨#[c]⟩++Txt.split b ⟨#[c]⟩):=by rw[M8 _ (Ez _ _) (Ez _ _),StrLaws.join_split,StrLaws.join_split]
 rw[e]
 exact Hv (fun z=>Ez a ⟨#[c]⟩ (List.append_eq_nil_iff.mp z).1) fun z hz=>(List.mem_append.mp hz).elim (StrLaws.split_free _ _ _) (StrLaws.split_free _ _ _)
theorem Gg{a:Str}{c:Nat}(h:c ∉ a.cps.toList):Txt.split a ⟨#[c]⟩=[a]:=Hv (zs:=[a]) (fun z=>by cases z) fun z hz=>by rw[List.mem_singleton.mp hz];exact h
theorem wi_app(a b:Str):Av (a++" "++b)=Av a++Av b:=by
 show (Txt.split (a++⟨#[32]⟩++b) ⟨#[32]⟩).filter _=_
 rw[J1,List.filter_append]
 rfl
theorem wi_e:Av ""=[]:=by
 show (Txt.split "" ⟨#[32]⟩).filter _=_
 rw[Gg (by decide)]
 rfl
def wd(z:Str):Bool:=!z.cps.toList.isEmpty&&z.cps.toList.all fun c=>decide (32<c)
theorem K6{z:Str}(h:wd z=true){c:Nat}(hc:c<=32):c ∉ z.cps.toList:=fun m=>by
 have:=of_decide_eq_true (List.all_eq_true.mp (Bool.and_eq_true_iff.mp h).2 c m)
 omega
theorem wd_ne{z:Str}(h:wd z=true):z≠"":=fun e=>by
 rw[e] at h
 exact absurd h (by decide)
theorem wi_one{z:Str}(h:wd z=true):Av z=[z]:=by
 show (Txt.split z ⟨#[32]⟩).filter _=_
 rw[Gg (K6 h (by decide)),List.filter_cons,decide_eq_false (wd_ne h)]
 rfl
theorem wi_join:∀{zs:List Str},(∀z∈zs,wd z=true)->Av (joinW zs)=zs
 |[],_=>wi_e
 |[z],h=>by rw[joinW_one,wi_one (h z (.head _))]
 |z::y::r,h=>by
  rw[Au z (fun e=>by cases e),wi_app,wi_one (h z (.head _)),wi_join fun x hx=>h x (.tail _ hx)]
  rfl
theorem Sx{c:Nat}{a b:Str}(ha:c ∉ a.cps.toList)(hb:c ∉ b.cps.toList):c ∉ (a++b).cps.toList:=by
 rw[Bk]
 exact fun m=>(List.mem_append.mp m).elim ha hb
theorem P5:∀{zs:List Str},(∀z∈zs,wd z=true)->10 ∉ (joinW zs).cps.toList
 |[],_=>by decide
 |[z],h=>by rw[joinW_one];exact K6 (h z (.head _)) (by decide)
 |z::y::r,h=>by
  rw[Au z (fun e=>by cases e)]
  exact Sx (Sx (K6 (h z (.head _)) (by decide)) (by decide)) (P5 fun x hx=>h x (.tail _ hx))
theorem Adc(a b:Str):worded (a++"\n"++b)=worded a++worded b:=by
 show ((Txt.split (a++⟨#[10]⟩++b) ⟨#[10]⟩).map Av).filter _=_
 rw[J1,List.map_append,List.filter_append]
 rfl
theorem Tt{l:Str}(h:10 ∉ l.cps.toList):worded l=[Av l].filter fun ws=>!ws.isEmpty:=by
 show ((Txt.split l ⟨#[10]⟩).map Av).filter _=_
 rw[Gg h]
 rfl
theorem wo_e:worded ""=[]:=by
 rw[Tt (by decide),wi_e]
 rfl
theorem X4{l:Str}{ws:List Str}(h:10 ∉ l.cps.toList)(hw:Av l=ws)(ne:ws≠[]):worded l=[ws]:=by
 rw[Tt h,hw]
 cases ws with
 |nil=>exact absurd rfl ne
 |cons a b=>rfl
theorem Vd:∀{l:List Nat} {a:Nat},a∈l->a<=l.sum
 |b::r,a,h=>by
  rw[List.sum_cons]
  cases h with
  |head=>omega
  |tail _ m=>have:=Vd m;omega
theorem tx_ok{x:Str}(h:x.length<=9000000):TxOk x:=by
 have szl:sizeLine=16777216:=rfl
 have sp:∀{y s:Str},y.length<=9000000->(Txt.split y s).length<=sizeLine:=fun {y s} hy=>Nat.le_trans (split_le y s) (by omega)
 refine⟨by omega,sp h,fun l hl=>?_⟩
 have sw:=split_weight x "\n" (Nat.le_refl 1)
 have hm:l.length<=((Txt.split x "\n").map (·.length)).sum:=Vd (List.mem_map.mpr ⟨l,hl,rfl⟩)
 have hp:=split_pos x "\n"
 have hl:l.length<=9000000:=by omega
 exact⟨by omega,sp hl⟩
end K14
end
section
namespace K14
open PySem PySem.Spec PyProof.Rows L2 TL
seal UE UT UA US USs UI UG UO UW PTs Ag A8
def Wz(t:T):Prop:=∀z∈wordsT t,wd z=true
theorem Gh{x:Str}(h:wd x=true):Wz (.str x):=fun z hz=>by
 rw[show wordsT (.str x)=[x] by simp[wordsT]] at hz
 rw[List.mem_singleton.mp hz];exact h
theorem F2{i:Int}(h0:0<=i)(h1:i<=99):Wz (.int i):=fun z hz=>by
 rw[show wordsT (.int i)=[numS i] by simp[wordsT]] at hz
 rw[List.mem_singleton.mp hz]
 have all:∀n:Nat,n<100->wd (numS (n:Int))=true:=by decide +kernel
 have:=all i.toNat (by omega)
 rwa [Int.toNat_of_nonneg h0] at this
theorem N9{ts:List T}(h:∀t∈ts,Wz t):Wz (.tup ts):=fun z hz=>by
 rw[show wordsT (.tup ts)=wordsL ts by simp[wordsT],Fy] at hz
 obtain⟨g,hg,hz⟩:=List.mem_flatten.mp hz
 obtain⟨t,ht,rfl⟩:=List.mem_map.mp hg
 exact h t ht z hz
theorem wz2{a b:T}(ha:Wz a)(hb:Wz b):Wz (.tup [a,b]):=N9 (Xd ha (Xd hb al_nil))
theorem wz3{a b c:T}(ha:Wz a)(hb:Wz b)(hc:Wz c):Wz (.tup [a,b,c]):=N9 (Xd ha (Xd hb (Xd hc al_nil)))
theorem wzn{x:Str}(h:Zw x=true):Wz (.str x):=Gh (by
 unfold Zw at h
 obtain⟨h1,h3⟩:=Bool.and_eq_true_iff.mp h
 have h1:=of_decide_eq_true (Bool.and_eq_true_iff.mp h1).1
 unfold wd
 refine Bool.and_eq_true_iff.mpr ⟨?_,List.all_eq_true.mpr fun c hc=>?_⟩
 ·cases e:x.cps.toList with
  |nil =>
   have:x.cps.toList.length=x.length:=Array.length_toList
   rw[e] at this
   have:0=x.length:=this
   omega
  |cons a b=>rfl
 ·have:=of_decide_eq_true (Bool.and_eq_true_iff.mp (List.all_eq_true.mp h3 c hc)).1
  exact decide_eq_true (by omega))
theorem wzw{x:Str}(h:wd x=true:=by decide):Wz (.str x):=Gh h
theorem vf_wz{ow bx:List Str}(now:∀z∈ow,Zw z=true)(nbx:∀z∈bx,Zw z=true){n:Nat}{t:T}(h:VF ow bx n t):Wz t:=by
 induction h with
 |num a b=>exact wz2 wzw (F2 a b)
 |own q=>exact wz2 wzw (wzn (now _ q))
 |box q=>exact wz2 wzw (wzn (nbx _ q))
 |neg _ ih=>exact wz2 wzw ih
 |two hz _ _ ih1 ih2 =>
  refine wz3 (Gh ?_) ih1 ih2
  rcases hz with rfl|rfl|rfl|rfl <;> decide
theorem sn_wz{ow bx lk:List Str}{b:Int}(hb:b<=99)(now:∀z∈ow,Zw z=true)(nbx:∀z∈bx,Zw z=true)(nlk:∀z∈lk,Zw z=true){t:T}(h:SN ow bx lk b t):Wz t:=by
 have vp:∀{v:T},VF ow [] 5 v->Wz v:=fun q=>vf_wz now (fun _ z=>by cases z) q
 cases h with
 |take m=>exact wz2 wzw (wzn (nlk _ m))
 |give m=>exact wz2 wzw (wzn (nlk _ m))
 |get m m'=>exact wz3 wzw (wzn (now _ m)) (wzn (nbx _ m'))
 |add m q=>exact wz3 wzw (wzn (nbx _ m)) (vp q)
 |put m q=>exact wz3 wzw (wzn (nbx _ m)) (vp q)
 |wait m q=>exact wz3 wzw (wzn (nbx _ m)) (vp q)
 |set m q=>exact wz3 wzw (wzn (now _ m)) (vp q)
 |check q=>exact wz2 wzw (vp q)
 |skip a c=>exact wz2 wzw (F2 a (by omega))
 |unl q a c=>exact wz3 wzw (vp q) (F2 a (by omega))
structure RowG(t:T):Prop where
 wt:Wt 6 t
 wz:Wz t
 ne:wordsT t≠[]
def Cl(x:Str)(rows:List T):Prop:=∀y,worded (x++y)=rows.map wordsT++worded y
end K14
end
section
namespace K14
open PySem PySem.Spec PyProof.Rows L2 TL
seal UE UT UA US USs UI UG UO UW PTs Ag A8 uOr Cc
theorem at2{a b c:T}{r:List T}:atI (a::b::c::r) (2:Int)=some c:=Xb (j:=2) rfl
theorem at3{a b c d:T}{r:List T}:atI (a::b::c::d::r) (3:Int)=some d:=Xb (j:=3) rfl
theorem at4{a b c d e:T}{r:List T}:atI (a::b::c::d::e::r) (4:Int)=some e:=Xb (j:=4) rfl
abbrev Pce:=List T×Int×Int
def pceT(p:Pce):T:=.tup [.lst p.1,.int p.2.1,.int p.2.2]
def Drawn(n0 n1 n2:Str)(s:T):Prop:=∃b,b<=3/\SN [n0] [n1] [n2] b s
structure Pc(n0 n1 n2:Str)(p:Pce):Prop where
 st:∀s∈p.1,Drawn n0 n1 n2 s
 ln:p.1.length<=4
 a1:1<=p.2.1
 a5:p.2.1<=5
def rep(p:Pce):List T:=(List.replicate p.2.1.toNat p.1).flatten
def Bp(f:Bool)(p:Pce):Bool:=f&&(decide (p.2.2=1) || decide (1<p.2.1))
def bodyRow(f:Bool)(p:Pce):List T:=if Bp f p=true then Ao p.2.1::(p.1++[Ay]) else rep p
theorem Ku{n0 n1 n2:Str}{p:Pce}(h:Pc n0 n1 n2 p):(rep p).length<=20:=by
 unfold rep
 rw[List.length_flatten,List.map_replicate,List.sum_replicate_nat]
 have:=h.ln
 have:=h.a5
 exact Nat.le_trans (Nat.mul_le_mul (show p.2.1.toNat<=5 by omega) h.ln) (by decide)
theorem M9{n0 n1 n2:Str}{p:Pce}{f:Bool}(h:Pc n0 n1 n2 p):(bodyRow f p).length<=20:=by
 unfold bodyRow
 split
 ·have:=h.ln
  rw[List.length_cons,List.length_append,List.length_singleton];omega
 ·exact Ku h
theorem Fh{n:Nat}{g:Pce->List T}:∀{ps:List Pce},(∀p∈ps,(g p).length<=n)->(ps.flatMap g).length<=ps.length * n
 |[],_=>Nat.zero_le _
 |p::r,h=>by
  have h1:=h p (.head _)
  have h2:=Fh (ps:=r) fun q hq=>h q (.tail _ hq)
  rw[List.flatMap_cons,List.length_append,List.length_cons,Nat.succ_mul]
  omega
theorem K2{p:Pce}{s:T}(h:s∈rep p):s∈p.1:=by
 unfold rep at h
 obtain⟨l,hl,hs⟩:=List.mem_flatten.mp h
 rw[List.eq_of_mem_replicate hl] at hs
 exact hs
theorem L7{n0 n1 n2:Str}{s:T}(h:Drawn n0 n1 n2 s):St s:=by
 obtain⟨b,_,sn⟩:=h
 exact sn_hd sn
theorem Ym{n0 n1 n2:Str}{p:Pce}(f:Bool)(h:Pc n0 n1 n2 p):Bd (bodyRow f p) (rep p):=by
 unfold bodyRow
 split
 ·have:=Bd.block (rows:=[]) (steps:=[]) h.a1 h.a5 (fun s hs=>L7 (h.st s hs)) (by have:=h.ln;omega) .nil
  rw[List.append_nil] at this
  exact this
 ·exact M6 fun s hs=>L7 (h.st s (K2 hs))
theorem Jy{n0 n1 n2:Str}(f:Bool):∀{ps:List Pce},(∀p∈ps,Pc n0 n1 n2 p)->Bd (ps.flatMap (bodyRow f)) (ps.flatMap rep)
 |[],_=>.nil
 |p::r,h=>Aau (Ym f (h p (.head _))) (Jy f fun q hq=>h q (.tail _ hq))
section
variable{n0 n1 n2:Str}
structure Nm3(n0 n1 n2:Str):Prop where
 o0:Zw n0=true
 o1:Zw n1=true
 o2:Zw n2=true
theorem Bc{n:Str}(h:Zw n=true):∀z∈[n],Zw z=true:=fun z hz=>by rw[List.mem_singleton.mp hz];exact h
theorem Ur(h:Nm3 n0 n1 n2){s:T}(d:Drawn n0 n1 n2 s):Sp s:=by
 obtain⟨b,hb,sn⟩:=d
 exact sn_sp (by omega) (Bc h.o0) (Bc h.o1) (Bc h.o2) sn
theorem De(h:Nm3 n0 n1 n2){s:T}(d:Drawn n0 n1 n2 s):RowG s/\RowW s (wordsT s):=by
 obtain⟨b,hb,sn⟩:=d
 have rw_:=sn_rw (by omega) sn
 refine⟨⟨sn_wt (by omega) (Bc h.o0) (Bc h.o1) (Bc h.o2) sn,sn_wz (by omega) (Bc h.o0) (Bc h.o1) (Bc h.o2) sn,?_⟩,rw_⟩
 obtain⟨z,ts,vs,ks,rfl,e,_⟩:=rw_.is
 rw[e]
 exact fun z=>by cases z
theorem Nl{n:Int}(h1:1<=n)(h5:n<=5):RowG (Ao n)/\RowW (Ao n) (wordsT (Ao n)):=by
 refine⟨⟨(wt2 (n:=0) (.str (by decide)) (.int (by omega) (by omega))).up (by decide),wz2 wzw (F2 (by omega) (by omega)),?_⟩,rw1 (k:="number") rfl (ipt (.inl rfl) (by omega) (by omega))⟩
 unfold Ao
 simp[wordsT,wordsL]
theorem V9:RowG Ay/\RowW Ay (wordsT Ay):=by
 refine⟨⟨(Wt.tup (n:=0) (ts:=[.str "end"]) (show 1<=3 by decide) (Xd (.str (by decide)) al_nil)).up (by decide),N9 (Xd wzw al_nil),?_⟩,⟨"end",[],[],[],rfl,by unfold Ay;simp[wordsT,wordsL],rfl,by decide,.nil⟩⟩
 unfold Ay
 simp[wordsT,wordsL]
theorem Kp(h:Nm3 n0 n1 n2){p:Pce}(hp:Pc n0 n1 n2 p)(f:Bool):∀t∈bodyRow f p,RowG t/\RowW t (wordsT t):=by
 unfold bodyRow
 split
 ·exact Xd (Q:=fun t=>RowG t/\RowW t (wordsT t)) (Nl hp.a1 hp.a5) (T3 (fun s hs=>De h (hp.st s hs)) (Xd V9 al_nil))
 ·exact fun s hs=>De h (hp.st s (K2 hs))
end
section
variable{P:Program}{w:World}{K:PySem.W.Frag}{mg:Str->Option Value}{base:Heap}
def Mm:List T->TH->UX->Prop:=fun ts S Pp=>∃(a:Addr) (n0 n1 n2 n3:Str),ts=[.ref a,.lst (sW [n0,n1,n2,n3])]/\Sd S a/\Nm3 n0 n1 n2/\∀(ps:List Pce) S',ps.length<=4->(∀p∈ps,Pc n0 n1 n2 p)->Pp (.lst (ps.map pceT)) S'
theorem R7:Zv ["_law_state_here","_law_names_here","_law_found","_law_k","_law_steps_here","_law_at"] ["_law_state_here","_law_names_here"] (Zb (top 84)):=⟨rfl,rfl,rfl,by decide +kernel,rfl,by decide +kernel,by decide +kernel⟩
theorem nms1{n:Str}(h:Zw n=true):Nms [n]:=⟨by show 1<=100;decide,Bc h⟩
theorem Oh{m:Nat}(N:Nm P w K mg)(d:Aa K mg "_law_pieces" ["_law_state_here","_law_names_here"] (top 84))(c_law_next:Has P w K mg base m "_law_next" ["_law_state_here","_law_size"] H9)(c_law_step:Has P w K mg base m "_law_step" ["_law_state_here","_law_owns","_law_boxes","_law_locks","_law_behind"] Ve):Has P w K mg base (m+1) "_law_pieces" ["_law_state_here","_law_names_here"] Mm:=by
 have sc:=R7
 refine Ab (k:=m) d sc (fun ts S Pp h=>?_) fun cdv f A outer s H E hr=>?_
 ·obtain⟨_,_,_,_,_,rfl,_⟩:=h;rfl
 refine⟨_,(Zs (Zt 2 sc.nd (Bu Zn))
   (Zs (Cy PassesOwn.never rfl (B7 rfl N.range (Zc (Zf c_law_next hr rfl (Zc (uv 0) (Zc Zi Zn))) Zn)) (Cm 3 sc.nd) (Zs (Zt 4 sc.nd (Bu Zn))
   (Zs (Cy PassesOwn.never rfl (B7 rfl N.range (Zc (Zf c_law_next hr rfl (Zc (uv 0) (Zc Zi Zn))) Zn)) (Cm 5 sc.nd) (Zo (Bb (A5 (uv 4) (Zc (Zf c_law_step hr rfl (Zc (uv 0) (Zc (Am (Zc (Zx (uv 1) Zi) Zn)) (Zc (Am (Zc (Zx (uv 1) Zi) Zn)) (Zc (Am (Zc (Zx (uv 1) Zi) Zn)) (Zc (Zf c_law_next hr rfl (Zc (uv 0) (Zc Zi Zn))) Zn)))))) Zn)))))
   (Zo (Bb (A5 (uv 2) (Zc (Zu (Zc (Dl (uv 4)) (Zc (Zx (Am (Zc Zi (Zc Zi (Zc (Zp Zi (Zf c_law_next hr rfl (Zc (uv 0) (Zc Zi Zn)))) Zn)))) (Zf c_law_next hr rfl (Zc (uv 0) (Zc Zi Zn)))) (Zc (Zf c_law_next hr rfl (Zc (uv 0) (Zc Zi Zn))) Zn)))) Zn)))))))
   (Zo (Zr (Dl (uv 2)))))),fun ts S0 Pp h=>?_⟩
 obtain⟨a,n0,n1,n2,n3,rfl,sd,nm,h⟩:=h
 have o1:1<=sizeLine:=by decide
 have o3:3<=sizeLine:=by decide
 let e0:Option T:=some (.ref a)
 let e1:Option T:=some (.lst (sW [n0,n1,n2,n3]))
 refine Zj (fun env S=>∃f,env=[e0,e1,some (.ref f),none,none,none]/\S f=some (.lst [])/\Sd S a/\a≠f) (fun k hk=>⟨show 0<=sizeLine by decide,fun f hf=>hk _ _ ⟨f,rfl,Zd,?_,?_⟩⟩) ?_
 ·obtain⟨x,e⟩:=sd
  exact⟨x,by rw[updT_ne (fun z=>by rw[z,hf] at e;cases e)];exact e⟩
 ·obtain⟨x,e⟩:=sd
  exact fun z=>by rw[z,hf] at e;cases e
 rintro _ S1 ⟨f,rfl,ef,sd1,naf⟩
 let e2:Option T:=some (.ref f)
 refine Zj (fun env S=>∃ps:List Pce,∃e3 e4 e5,env=[e0,e1,e2,e3,e4,e5]/\S f=some (.lst (ps.map pceT))/\ps.length<=4/\∀p∈ps,Pc n0 n1 n2 p) (fun kk hkk=>⟨a,5,rfl,sd1,by decide,fun r S2 d2 r0 r1=>⟨by omega,by omega,?_⟩⟩) ?_
 ·refine⟨fun k env S=>∃ps:List Pce,∃e3 e4 e5,env=[e0,e1,e2,e3,e4,e5]/\S f=some (.lst (ps.map pceT))/\ps.length=k/\(∀p∈ps,Pc n0 n1 n2 p)/\Sd S a,⟨[],none,none,none,rfl,(d2.same f naf.symm).trans ef,rfl,fun _ z=>(by cases z),d2.sd⟩,?_,?_⟩
  ·rintro k x env S ek ⟨ps,e3,e4,e5,rfl,ef3,lp,hp,sd3⟩
   obtain⟨hlt,rfl⟩:=Kx ek
   let e3:Option T:=some (.int (k:Int))
   refine Zj (fun env S'=>∃g,env=[e0,e1,e2,e3,some (.ref g),e5]/\S' g=some (.lst [])/\S' f=some (.lst (ps.map pceT))/\Sd S' a/\g≠f/\g≠a) (fun k2 hk2=>⟨show 0<=sizeLine by decide,fun g hg=>?_⟩) ?_
   ·have ngf:g≠f:=fun z=>by rw[<-z,hg] at ef3;cases ef3
    obtain⟨x,e⟩:=sd3
    have nga:g≠a:=fun z=>by rw[<-z,hg] at e;cases e
    exact hk2 _ _ ⟨g,rfl,Zd,by rw[updT_ne ngf.symm];exact ef3,⟨x,by rw[updT_ne nga.symm];exact e⟩,ngf,nga⟩
   clear ef3 sd3
   rintro _ S4 ⟨g,rfl,eg,ef4,sd4,ngf,nga⟩
   let e4:Option T:=some (.ref g)
   refine Zj (fun env S'=>∃ss e5,env=[e0,e1,e2,e3,e4,e5]/\S' g=some (.lst ss)/\ss.length<=4/\(∀s∈ss,Drawn n0 n1 n2 s)/\S' f=some (.lst (ps.map pceT))/\Sd S' a) (fun k2 hk2=>⟨a,5,rfl,sd4,by decide,fun r' S5 d5 r0' r1'=>⟨by omega,by omega,?_⟩⟩) ?_
   ·refine⟨fun j env S'=>∃ss e5,env=[e0,e1,e2,e3,e4,e5]/\S' g=some (.lst ss)/\ss.length=j/\(∀s∈ss,Drawn n0 n1 n2 s)/\S' f=some (.lst (ps.map pceT))/\Sd S' a,⟨[],e5,rfl,(d5.same g nga).trans eg,rfl,fun _ z=>(by cases z),(d5.same f naf.symm).trans ef4,d5.sd⟩,?_,?_⟩
    ·rintro j x env S6 ej ⟨ss,e5,rfl,eg6,ls,hs,ef6,sd6⟩
     obtain⟨hlj,rfl⟩:=Kx ej
     refine⟨⟨_,eg6⟩,_,at0,o1,_,at1,o1,_,at2,o1,a,4,rfl,sd6,by decide,fun b S7 d7 b0 b1=>⟨a,[n0],[n1],[n2],b,rfl,d7.sd,nms1 nm.o0,nms1 nm.o1,nms1 nm.o2,b0,by omega,fun t S8 d8 sn=>⟨ss,?_,Xo (by omega),ss++[t],_,rfl,Zd,by rw[List.length_append,ls];rfl,T3 hs (Xd ⟨b,by omega,sn⟩ al_nil),?_,?_⟩⟩⟩
     ·exact(d8.same g nga).trans ((d7.same g nga).trans eg6)
     ·rw[updT_ne ngf.symm];exact(d8.same f naf.symm).trans ((d7.same f naf.symm).trans ef6)
     ·obtain⟨y,e⟩:=d8.sd
      exact⟨y,by rw[updT_ne nga.symm];exact e⟩
    ·rintro env S6 ⟨ss,e5,rfl,eg6,ls,hs,ef6,sd6⟩
     rw[Zh] at ls
     exact hk2 _ _ ⟨ss,e5,rfl,eg6,by omega,hs,ef6,sd6⟩
   rintro _ S6 ⟨ss,e5,rfl,eg6,ls,hs,ef6,sd6⟩
   have ef7:Dv S6 g f=some (.lst (ps.map pceT)):=by rw[delT_ne ngf.symm];exact ef6
   have sd7:Sd (Dv S6 g) a:=by
    obtain⟨y,e⟩:=sd6
    exact⟨y,by rw[delT_ne nga.symm];exact e⟩
   refine⟨⟨_,ef6⟩,ss,eg6,a,5,rfl,sd7,by decide,fun r5 S8 d8 p0 p1=>⟨o3,a,3,rfl,d8.sd,by decide,fun i S9 d9 i0 i1=>?_⟩⟩
   obtain⟨v,ev,v1,v5⟩:∃v:Int,atI [T.int 1,T.int 1,T.int (1+r5)] i=some (.int v)/\1<=v/\v<=5:=by
    rcases(by omega:i=0\/i=1\/i=2) with rfl|rfl|rfl
    ·exact⟨1,rfl,by decide,by decide⟩
    ·exact⟨1,rfl,by decide,by decide⟩
    ·exact⟨1+r5,rfl,by omega,by omega⟩
   refine⟨_,ev,a,2,rfl,d9.sd,by decide,fun b S10 d10 b0 b1=>⟨o3,ps.map pceT,?_,Xo (by rw[List.length_map];omega),ps++[(ss,v,b)],_,_,_,rfl,?_,by rw[List.length_append,lp];rfl,fun p hp'=>?_,?_⟩⟩
   ·exact(d10.same f naf.symm).trans ((d9.same f naf.symm).trans ((d8.same f naf.symm).trans ef7))
   ·rw[List.map_append];exact Zd
   ·rcases List.mem_append.mp hp' with hp'|hp'
    ·exact hp p hp'
    ·rw[List.mem_singleton.mp hp'];exact⟨hs,ls,v1,v5⟩
   ·obtain⟨y,e⟩:=d10.sd
    exact⟨y,by rw[updT_ne naf];exact e⟩
  ·rintro env S ⟨ps,e3,e4,e5,rfl,ef3,lp,hp,_⟩
   rw[Zh] at lp
   exact hkk _ _ ⟨ps,e3,e4,e5,rfl,ef3,by omega,hp⟩
 rintro _ S2 ⟨ps,e3,e4,e5,rfl,ef2,lp,hp⟩
 exact⟨_,ef2,h ps _ lp hp⟩
def P6:List T->TH->UX->Prop:=fun ts S Pp=>∃(n0 n1 n2:Str) (ps:List Pce) (f:Bool),ts=[.lst (ps.map pceT),.bl f]/\Nm3 n0 n1 n2/\ps.length<=4/\(∀p∈ps,Pc n0 n1 n2 p)/\Pp (.str (textOf (ps.flatMap (bodyRow f)))) S
theorem Tg:Zv ["_law_pieces_here","_law_blocks","_law_lines_here","_law_steps_here","_law_times","_law_block","_law_rows_here"] ["_law_pieces_here","_law_blocks"] (Zb (top 85)):=⟨rfl,rfl,rfl,by decide +kernel,rfl,by decide +kernel,by decide +kernel⟩
def ln1(t:T):T:=.str (A0 t)
theorem Qw{m:Nat}(N:Nm P w K mg)(d:Aa K mg "_law_lines" ["_law_pieces_here","_law_blocks"] (top 85))(c_law_step_text:Has P w K mg base m "_law_step_text" ["_law_step_here"] cST):Has P w K mg base (m+1) "_law_lines" ["_law_pieces_here","_law_blocks"] P6:=by
 have sc:=Tg
 refine Ab (k:=m) d sc (fun ts S Pp h=>?_) fun cdv f A outer s H E hr=>?_
 ·obtain⟨_,_,_,_,_,rfl,_⟩:=h;rfl
 have hu0:=An hr
 refine⟨_,(Zs (Zt 2 sc.nd (Am Zn))
   (Zs (Cy PassesOwn.never rfl (Xu (uv 0)) (F7 3 4 5 rfl sc.nd) (Zs (Cp 6 sc.nd 0 ["_law_step_here"] [none] rfl (Xu (uv 3)) (fun _ _ _ _ _=>Ah) (fun _ _ _ _ _=>(Zp (Zf c_law_step_text hr rfl (Zc (uv 0) Zn)) Zq)))
   (Zo (Zg (UW.ut (Dd (Xe (uv 1)) (Cn (UW.ut (Gp (Xf hu0 (uv 5) Zi) (Xs (Cz (uv 4) Zi))))))) (Zo (Zt 2 sc.nd (Zp (Zp (Zp (uv 2) (Am (Zc (Zp (Zp Zq (G8 rfl N.str (Zc (uv 4) Zn))) Zq) Zn))) (uv 6)) (Am (Zc Zq Zn))))) (Zo (Zt 2 sc.nd (Zp (uv 2) (K9 (uv 6) (uv 4)))))))))
   (Zo (Zr (Ha Zq (Zc (uv 2) Zn)))))),fun ts S Pp h=>?_⟩
 obtain⟨n0,n1,n2,ps,f,rfl,nm,lp,hp,h⟩:=h
 have szl:sizeLine=16777216:=rfl
 have o1:1<=sizeLine:=by decide
 let e0:Option T:=some (.lst (ps.map pceT))
 let e1:Option T:=some (.bl f)
 have few:∀k,((ps.take k).flatMap (bodyRow f)).length<=80:=fun k=>by
  have h1:=Fh (g:=bodyRow f) (n:=20) (ps:=ps.take k) fun p hp'=>M9 (hp p (List.mem_of_mem_take hp'))
  rw[List.length_take] at h1
  omega
 refine Zj (fun env S'=>env=[e0,e1,some (.lst []),none,none,none,none]/\S=S') (fun k hk=>⟨show 0<=sizeLine by decide,hk _ _ ⟨rfl,rfl⟩⟩) ?_
 rintro _ _ ⟨rfl,rfl⟩
 refine Zj (fun env S'=>∃e3 e4 e5 e6,env=[e0,e1,some (.lst ((ps.flatMap (bodyRow f)).map ln1)),e3,e4,e5,e6]/\S=S') (fun kk hkk=>?_) ?_
 ·refine⟨fun k env S'=>∃e3 e4 e5 e6,env=[e0,e1,some (.lst (((ps.take k).flatMap (bodyRow f)).map ln1)),e3,e4,e5,e6]/\S=S',⟨none,none,none,none,rfl,rfl⟩,?_,?_⟩
  ·rintro k x env _ ek ⟨e3,e4,e5,e6,rfl,rfl⟩
   rw[List.getElem?_map] at ek
   cases ex:ps[k]? with
   |none=>rw[ex] at ek;cases ek
   |some p =>
    rw[ex] at ek
    cases ek
    have pc:=hp p (List.mem_of_getElem? ex)
    have fk:=few k
    have et:(ps.take (k+1)).flatMap (bodyRow f)=(ps.take k).flatMap (bodyRow f)++bodyRow f p:=by
     rw[List.take_add_one,ex,List.flatMap_append]
     simp
    generalize (ps.take k).flatMap (bodyRow f)=R at *
    have l4:=pc.ln
    have a1:=pc.a1
    have a5:=pc.a5
    let e2:Option T:=some (.lst (R.map ln1))
    let e3:Option T:=some (.lst p.1)
    let e4:Option T:=some (.int p.2.1)
    let e5:Option T:=some (.int p.2.2)
    refine Zj (fun env S'=>env=[e0,e1,e2,e3,e4,e5,some (.lst (p.1.map ln1))]/\S=S') (fun k2 hk2=>?_) ?_
    ·refine Fj (S:=S) p.1 id ln1 (fun k hk=>?_) (Xp (by omega)) (fun t ht A B hA=>⟨fun _=>⟨t,rfl,Ur nm (pc.st t ht),?_,hA⟩,fun z=>(by cases z)⟩) (hk2 _ _ ⟨rfl,rfl⟩)
     ·rw[List.map_id] at hk;exact hk
     ·have:=Gc (De nm (pc.st t ht)).1.wt (by decide)
      show (joinW (wordsT t)).length+1<=16777216
      omega
    rintro _ _ ⟨rfl,rfl⟩
    have nl:=numS_len (i:=p.2.1) (by omega) (by omega)
    have blk:Bp f p=true->R.map ln1++[T.str ("again "++numS p.2.1++"\n")]++p.1.map ln1++[T.str "end\n"]=((ps.take (k+1)).flatMap (bodyRow f)).map ln1:=fun hb=>by
     have eb:bodyRow f p=Ao p.2.1::(p.1++[Ay]):=by unfold bodyRow;rw[if_pos hb]
     rw[et,eb,List.map_append,List.map_cons,List.map_append]
     have h1:ln1 (Ao p.2.1)=.str ("again "++numS p.2.1++"\n"):=by
      show T.str (joinW (wordsT (.tup [.str "again",.int p.2.1]))++"\n")=_
      rw[show wordsT (.tup [.str "again",.int p.2.1])=(["again",numS p.2.1]:List Str) by simp[wordsT,wordsL],Au _ (fun z=>by cases z),joinW_one]
      rfl
     have h2:ln1 Ay=.str "end\n":=by
      show T.str (joinW (wordsT (.tup [.str "end"]))++"\n")=_
      rw[show wordsT (.tup [.str "end"])=(["end"]:List Str) by simp[wordsT,wordsL],joinW_one]
      rfl
     rw[h1]
     simp only[List.map_cons,List.map_nil,h2,List.append_assoc,List.cons_append,List.nil_append]
    have pln:Bp f p=false->R.map ln1++(List.replicate p.2.1.toNat (p.1.map ln1)).flatten=((ps.take (k+1)).flatMap (bodyRow f)).map ln1:=fun hb=>by
     have eb:bodyRow f p=rep p:=by unfold bodyRow;rw[hb,if_neg Bool.false_ne_true]
     rw[et,eb,List.map_append]
     unfold rep
     rw[List.map_flatten,List.map_replicate]
    have rl:(p.1.map ln1).length * p.2.1.toNat<=20:=by
     rw[List.length_map]
     exact Nat.le_trans (Nat.mul_le_mul l4 (show p.2.1.toNat<=5 by omega)) (by decide)
    have fl:(List.replicate p.2.1.toNat (p.1.map ln1)).flatten.length<=20:=by
     rw[List.length_flatten,List.map_replicate,List.sum_replicate_nat,Nat.mul_comm]
     exact rl
    have lR:(R.map ln1).length<=80:=by rw[List.length_map];exact fk
    have lp1:(p.1.map ln1).length<=4:=by rw[List.length_map];exact l4
    have yes:Bp f p=true->(R.map ln1).length+[T.str ("again "++numS p.2.1++"\n")].length<=sizeLine:=fun _=>by show (R.map ln1).length+1<=_;omega
    have sl1:("again ":Str).length+(numS p.2.1).length<=sizeLine:=by show 6+_<=_;omega
    have sl2:("again "++numS p.2.1:Str).length+("\n":Str).length<=sizeLine:=by rw[Str.length_append];show 6+_+1<=_;omega
    have sl3:((R.map ln1)++[T.str ("again "++numS p.2.1++"\n")]).length+(p.1.map ln1).length<=sizeLine:=by rw[List.length_append];show (R.map ln1).length+1+_<=_;omega
    have sl4:((R.map ln1)++[T.str ("again "++numS p.2.1++"\n")]++(p.1.map ln1)).length+[T.str "end\n"].length<=sizeLine:=by rw[List.length_append,List.length_append];show (R.map ln1).length+1+_+1<=_;omega
    have hlog:=Fb (i:=p.2.1) (by omega) (by omega)
    by_cases hf:f=true
    ·have hab:Bp f p=(decide (p.2.2=1) || decide (1<p.2.1)):=by unfold Bp;rw[hf];rfl
     by_cases hb1:p.2.2=1
     ·have hb:Bp f p=true:=by rw[hab,decide_eq_true hb1];rfl
      refine Fp (fun P hP=>by show P f S;rw[hf];exact hP) (Ss (fun P hP=>by show P (Bool.xor false (decide (p.2.2=1))) S;rw[decide_eq_true hb1];exact hP) (yes_ rfl ⟨hlog,sl1,sl2,o1,yes hb,sl3,o1,sl4,e3,e4,e5,some (.lst (p.1.map ln1)),?_,rfl⟩))
      exact congrArg (fun z=>[e0,e1,some (T.lst z),e3,e4,e5,some (T.lst (p.1.map ln1))]) (blk hb)
     ·by_cases hb2:1<p.2.1
      ·have hb:Bp f p=true:=by rw[hab,decide_eq_true hb2,Bool.or_true]
       refine Fp (fun P hP=>by show P f S;rw[hf];exact hP) (Py (fun P hP=>by show P (Bool.xor false (decide (p.2.2=1))) S;rw[decide_eq_false hb1];exact hP) (yes_ (decide_eq_true hb2) ⟨hlog,sl1,sl2,o1,yes hb,sl3,o1,sl4,e3,e4,e5,some (.lst (p.1.map ln1)),?_,rfl⟩))
       exact congrArg (fun z=>[e0,e1,some (T.lst z),e3,e4,e5,some (T.lst (p.1.map ln1))]) (blk hb)
      ·have hb:Bp f p=false:=by rw[hab,decide_eq_false hb1,decide_eq_false hb2];rfl
       refine Fp (fun P hP=>by show P f S;rw[hf];exact hP) (Py (fun P hP=>by show P (Bool.xor false (decide (p.2.2=1))) S;rw[decide_eq_false hb1];exact hP) (no_ (decide_eq_false hb2) ⟨(p.1.map ln1),p.2.1,rfl,rfl,by omega,by omega,by omega,by omega,e3,e4,e5,some (.lst (p.1.map ln1)),?_,rfl⟩))
       exact congrArg (fun z=>[e0,e1,some (T.lst z),e3,e4,e5,some (T.lst (p.1.map ln1))]) (pln hb)
    ·have hf':f=false:=by cases f with|true=>exact absurd rfl hf|false=>rfl
     have hb:Bp f p=false:=by unfold Bp;rw[hf'];rfl
     refine J9 (fun P hP=>by show P f S;rw[hf'];exact hP) (no_ rfl ⟨(p.1.map ln1),p.2.1,rfl,rfl,by omega,by omega,by omega,by omega,e3,e4,e5,some (.lst (p.1.map ln1)),?_,rfl⟩)
     exact congrArg (fun z=>[e0,e1,some (T.lst z),e3,e4,e5,some (T.lst (p.1.map ln1))]) (pln hb)
  ·rintro env _ ⟨e3,e4,e5,e6,rfl,rfl⟩
   rw[List.length_map,List.take_length]
   exact hkk _ _ ⟨e3,e4,e5,e6,rfl,rfl⟩
 rintro _ _ ⟨e3,e4,e5,e6,rfl,rfl⟩
 have fa:=few ps.length
 rw[List.take_length] at fa
 have wts:∀t∈ps.flatMap (bodyRow f),Wt 6 t:=fun t ht=>by
  obtain⟨p,hp',ht⟩:=List.mem_flatMap.mp ht
  exact(Kp nm (hp p hp') f t ht).1.wt
 exact⟨(ps.flatMap (bodyRow f)).map A0,by rw[List.map_map];rfl,Rg (by omega) wts,h⟩
end
end K14
end
section
namespace K14
open PySem PySem.Spec PyProof.Rows L2 TL
seal UE UT UA US USs UI UG UO UW PTs Ag A8 uOr Cc
theorem Vw:Cl "" []:=fun y=>by rw[e_app];rfl
theorem Ys{l:Str}{t:T}(hl:10 ∉ l.cps.toList)(hw:Av l=wordsT t)(ne:wordsT t≠[]):Cl (l++"\n") [t]:=fun y=>by
 rw[Adc,X4 hl hw ne];rfl
theorem D1{x y:Str}{rs ss:List T}(h:Cl x rs)(h':Cl y ss):Cl (x++y) (rs++ss):=fun z=>by
 rw[Tm,h,h',List.map_append,List.append_assoc]
theorem Eo{t:T}(h:RowG t):Cl (A0 t) [t]:=Ys (P5 h.wz) (wi_join h.wz) h.ne
theorem Rv(t:T)(r:List T):textOf (t::r)=A0 t++textOf r:=by
 unfold textOf
 rw[tj,tj]
 cases r with
 |nil=>rw[List.map_nil];show A0 t=A0 t++"";rw[P1]
 |cons u r=>show A0 t++""++Str.join "" ((u::r).map A0)=_;rw[P1]
theorem Pr:∀{rows:List T},(∀t∈rows,RowG t)->Cl (textOf rows) rows
 |[],_=>by
  have e:textOf []="":=by unfold textOf;rw[tj];rfl
  rw[e];exact Vw
 |t::r,h=>by
  rw[Rv]
  exact D1 (rs:=[t]) (Eo (h t (.head _))) (Pr fun u hu=>h u (.tail _ hu))
theorem Km(z:Str)(n:Nat):repS z (n+1)=repS z n++z:=by
 unfold repS
 rw[List.replicate_succ',List.foldl_append]
 rfl
theorem Sy{z:Str}{t:T}(h:Cl z [t]):∀n,Cl (repS z n) (List.replicate n t)
 | 0=>by
  have e:repS z 0="":=rfl
  rw[e];exact Vw
 |n+1=>by rw[Km,List.replicate_succ'];exact D1 (Sy h n) h
theorem Ly(z:Str):∀n,(repS z n).length=n * z.length
 | 0=>by rw[Nat.zero_mul];rfl
 |n+1=>by rw[Km,Str.length_append,Ly z n,Nat.succ_mul]
theorem Vh{r1 r2 r3 r4 r5:T}{a b c d e:Str}(h1:RowG r1)(h2:RowG r2)(h3:RowG r3)(h4:RowG r4)(h5:RowG r5)(ea:tx r1=.str a)(eb:tx r2=.str b)(ec:tx r3=.str c)(ed:tx r4=.str d)(ee:tx r5=.str e):Cl (Txt.join "\n" [a,b,c,d,e,""]) [r1,r2,r3,r4,r5]:=by
 have ea:=T.str.inj ea
 have eb:=T.str.inj eb
 have ec:=T.str.inj ec
 have ed:=T.str.inj ed
 have ee:=T.str.inj ee
 subst ea eb ec ed ee
 rw[tj]
 show Cl (joinW (wordsT r1)++"\n"++(joinW (wordsT r2)++"\n"++(joinW (wordsT r3)++"\n"++(joinW (wordsT r4)++"\n"++(joinW (wordsT r5)++"\n"++""))))) _
 rw[P1]
 exact D1 (rs:=[r1]) (Eo h1) (D1 (rs:=[r2]) (Eo h2) (D1 (rs:=[r3]) (Eo h3) (D1 (rs:=[r4]) (Eo h4) (Eo h5))))
theorem s_no1{ow bx lk:List Str}{b:Int}{wd k:Str}{x:T}(hk:A7 wd=some [k])(h:Ae ow bx lk b k x=false):stepOk ow bx lk b (.tup [.str wd,x])=false:=by
 simp only[stepOk,hk]
 simp[h]
theorem s_no2{ow bx lk:List Str}{b:Int}{wd k k':Str}{x y:T}(hk:A7 wd=some [k,k'])(h':Ae ow bx lk b k' y=false):stepOk ow bx lk b (.tup [.str wd,x,y])=false:=by
 simp only[stepOk,hk]
 simp[h']
theorem Ho{ow bx lk:List Str}{b i:Int}(h:¬ i<=b):Ae ow bx lk b "count" (.int i)=false:=by
 unfold Ae
 rw[if_neg (by decide),if_neg (by decide),if_neg (by decide),if_neg (by decide)]
 show (decide (0<=i)&&decide (i<=b))=false
 rw[decide_eq_false h,Bool.and_false]
theorem atm2{a b:T}:atI [a,b] (-1)=some b:=Lr [a] b
theorem atm3{a b c:T}:atI [a,b,c] (-1)=some c:=Lr [a,b] c
def Jv:List Str:=["skip","unless"]
theorem Rt{n0 n1 n2:Str}(h:Nm3 n0 n1 n2){s:T}(d:Drawn n0 n1 n2 s):∃(z:Str) (r:List T),s=.tup (.str z::r)/\((decide (z∈Jv)=false/\∀m,stepOk [n0] [n1] [n2] m s=true)\/(decide (z∈Jv)=true/\∃i,atI (T.str z::r) (-1)=some (.int i)/\∀m,stepOk [n0] [n1] [n2] m s=decide (i<=m))):=by
 obtain⟨b,_,sn⟩:=d
 have ok:∀{m t},SN [n0] [n1] [n2] m t->stepOk [n0] [n1] [n2] m t=true:=fun q=>sn_ok (Bc h.o0) (Bc h.o1) (Bc h.o2) q
 cases sn with
 |take q=>exact⟨_,_,rfl,.inl ⟨by decide,fun m=>ok (.take q)⟩⟩
 |give q=>exact⟨_,_,rfl,.inl ⟨by decide,fun m=>ok (.give q)⟩⟩
 |get q q'=>exact⟨_,_,rfl,.inl ⟨by decide,fun m=>ok (.get q q')⟩⟩
 |add q v=>exact⟨_,_,rfl,.inl ⟨by decide,fun m=>ok (.add q v)⟩⟩
 |put q v=>exact⟨_,_,rfl,.inl ⟨by decide,fun m=>ok (.put q v)⟩⟩
 |wait q v=>exact⟨_,_,rfl,.inl ⟨by decide,fun m=>ok (.wait q v)⟩⟩
 |set q v=>exact⟨_,_,rfl,.inl ⟨by decide,fun m=>ok (.set q v)⟩⟩
 |check v=>exact⟨_,_,rfl,.inl ⟨by decide,fun m=>ok (.check v)⟩⟩
 | @skip i a c =>
  refine⟨_,_,rfl,.inr ⟨by decide,i,atm2,fun m=>?_⟩⟩
  by_cases hm:i<=m
  ·rw[decide_eq_true hm];exact ok (.skip a hm)
  ·rw[decide_eq_false hm];exact s_no1 (k:="count") rfl (Ho hm)
 | @unl v i q a c =>
  refine⟨_,_,rfl,.inr ⟨by decide,i,atm3,fun m=>?_⟩⟩
  by_cases hm:i<=m
  ·rw[decide_eq_true hm];exact ok (.unl q a hm)
  ·rw[decide_eq_false hm];exact s_no2 (k:="value") (k':="count") rfl (Ho hm)
structure Lw where
 n0:Str
 n1:Str
 n2:Str
 n3:Str
 size:Int
 bx:Int
 ow:Int
 w:Int
 steps:List T
structure LwOk(l:Lw):Prop where
 nm:Nm3 l.n0 l.n1 l.n2
 o3:Zw l.n3=true
 nd:l.n1≠l.n2
 s2:2<=l.size
 s16:l.size<=16
 b0:0<=l.bx
 b1:l.bx<l.size
 w0:0<=l.ow
 w1:l.ow<l.size
 k1:1<=l.w
 k2:l.w<=2
 st:∀s∈l.steps,Drawn l.n0 l.n1 l.n2 s
 sl:l.steps.length<=80
def Fit(l:Lw):Prop:=∀(k:Nat) t,l.steps[k]?=some t->stepOk [l.n0] [l.n1] [l.n2] ((l.steps.length:Int) - (k:Int) - 1) t=true
def Lw.prg(l:Lw):Prg:=(l.n3,[(l.n0,l.ow)],l.steps)
def Lw.ws(l:Lw):List Int:=List.replicate l.w.toNat 0
def Lw.ans(l:Lw):T:=.tup [.int l.size,.tup ([(l.n1,l.bx)].map pairT),.tup ([l.n2].map T.str),.tup [At l.prg],.tup (l.ws.map T.int),.tup []]
inductive Du(l:Lw):T->Prop where
 |long:30<l.steps.length->Du l (.str "loom")
 |step:l.steps.length<=30->¬ Fit l->Du l (.str "step")
 |ok:l.steps.length<=30->Fit l->Du l l.ans
theorem Du.uniq{l:Lw}{u v:T}(h:Du l u)(h':Du l v):u=v:=by
 cases h with
 |long a =>
  cases h' with
  |long _=>rfl
  |step b _=>omega
  |ok b _=>omega
 |step a n =>
  cases h' with
  |long b=>omega
  |step _ _=>rfl
  |ok _ f=>exact absurd f n
 |ok a f =>
  cases h' with
  |long b=>omega
  |step _ n=>exact absurd f n
  |ok _ _=>rfl
theorem Wt.dat{n:Nat}{t:T}(h:Wt n t):DatN n t:=by
 induction h with
 |str _=>exact .str _
 |int _ _=>exact .int _
 |tup _ _ ih=>exact .tup ih
theorem Aar{l:Lw}(ok:LwOk l){u:T}(h:Du l u):DatN 12 u:=by
 cases h with
 |long _=>exact .str _
 |step _ _=>exact .str _
 |ok _ _ =>
  have p:∀(x:Str) (i:Int) (n:Nat),DatN (n+1) (pairT (x,i)):=fun x i n=>.tup (Xd (.str x) (Xd (.int i) al_nil))
  refine .tup (Xd (.int _) (Xd (.tup (Xd (p _ _ 9) al_nil)) (Xd (.tup (Xd (.str _) al_nil)) (Xd (.tup (Xd (.tup (Xd (.str _) (Xd (.tup (Xd (p _ _ 7) al_nil)) (Xd (.tup fun t ht=>?_) al_nil)))) al_nil)) (Xd (.tup fun t ht=>?_) (Xd (.tup fun t ht=>by cases ht) al_nil))))))
  ·exact(De ok.nm (ok.st t ht)).1.wt.dat.mono (by decide)
  ·obtain⟨i,_,rfl⟩:=List.mem_map.mp ht
   exact .int _
theorem Abr{S:TH}{n:Nat}{t:T}(h:DatN n t):cv S t=t:=by cases h <;> rfl
def Jz(l:Lw)(body:List T):List T:=rowsB l.size [(l.n1,l.bx)] [l.n2] [(l.prg,body)] l.ws []
def Jp(l:Lw):T:=.tup [.str "worker",.str l.n3]
def headRows(l:Lw):List T:=[.tup [.str "size",.int l.size],boxRow (l.n1,l.bx),lockRow l.n2,B1 l.n3,ownRow (l.n0,l.ow)]
theorem Lq(l:Lw)(body:List T):Jz l body=headRows l++body++List.replicate l.w.toNat (Jp l):=by
 have e:l.ws.map (workRow [l.prg])=List.replicate l.w.toNat (Jp l):=by
  unfold Lw.ws
  rw[List.map_replicate]
  rfl
 have e2:Jz l body=.tup [.str "size",.int l.size]::boxRow (l.n1,l.bx)::lockRow l.n2::(((B1 l.n3::ownRow (l.n0,l.ow)::body)++[])++(l.ws.map (workRow [l.prg])++([]++[]))):=rfl
 rw[e2,e]
 simp only[List.append_nil,List.cons_append,headRows,List.nil_append]
theorem g_s{z x:Str}(hz:wd z=true)(lz:z.length<=8)(hx:Zw x=true):RowG (.tup [.str z,.str x]):=⟨(wt2 (n:=0) (.str lz) (wn hx)).up (by decide),wz2 (Gh hz) (wzn hx),fun e=>by simp[wordsT,wordsL] at e⟩
theorem g_i{z:Str}{i:Int}(hz:wd z=true)(lz:z.length<=8)(h0:0<=i)(h1:i<=99):RowG (.tup [.str z,.int i]):=⟨(wt2 (n:=0) (.str lz) (.int h0 h1)).up (by decide),wz2 (Gh hz) (F2 h0 h1),fun e=>by simp[wordsT,wordsL] at e⟩
theorem g_si{z x:Str}{i:Int}(hz:wd z=true)(lz:z.length<=8)(hx:Zw x=true)(h0:0<=i)(h1:i<=99):RowG (.tup [.str z,.str x,.int i]):=⟨(wt3 (n:=0) (.str lz) (wn hx) (.int h0 h1)).up (by decide),wz3 (Gh hz) (wzn hx) (F2 h0 h1),fun e=>by simp[wordsT,wordsL] at e⟩
section
variable{l:Lw}
theorem LwOk.r1(ok:LwOk l):RowG (.tup [.str "size",.int l.size]):=g_i (by decide) (by decide) (by have:=ok.s2;omega) (by have:=ok.s16;omega)
theorem LwOk.r2(ok:LwOk l):RowG (boxRow (l.n1,l.bx)):=g_si (by decide) (by decide) ok.nm.o1 ok.b0 (by have:=ok.s16;have:=ok.b1;omega)
theorem LwOk.r3(ok:LwOk l):RowG (lockRow l.n2):=g_s (by decide) (by decide) ok.nm.o2
theorem LwOk.r4(ok:LwOk l):RowG (B1 l.n3):=g_s (by decide) (by decide) ok.o3
theorem LwOk.r5(ok:LwOk l):RowG (ownRow (l.n0,l.ow)):=g_si (by decide) (by decide) ok.nm.o0 ok.w0 (by have:=ok.s16;have:=ok.w1;omega)
theorem LwOk.r6(ok:LwOk l):RowG (Jp l):=g_s (by decide) (by decide) ok.o3
theorem Wq(ok:LwOk l):∀t∈headRows l,RowW t (wordsT t):=by
 have nn:∀{x:Str},PtV "name" (.str x) (wordsT (.str x)):=npt (by decide) (by decide) (by decide)
 have s2:=ok.s2
 have s16:=ok.s16
 have b1:=ok.b1
 have w1:=ok.w1
 exact Xd (rw1 (k:="number") rfl (ipt (.inl rfl) (by omega) (by omega))) (Xd (rw2 (k:="name") (k':="number") rfl nn (ipt (.inl rfl) ok.b0 (by show l.bx<=99;omega))) (Xd (rw1 (k:="name") rfl nn) (Xd (rw1 (k:="name") rfl nn) (Xd (rw2 (k:="name") (k':="number") rfl nn (ipt (.inl rfl) ok.w0 (by show l.ow<=99;omega))) al_nil))))
structure BdOk(l:Lw)(body:List T):Prop where
 bd:Bd body l.steps
 ln:body.length<=80
 g:∀t∈body,RowG t/\RowW t (wordsT t)
theorem rd_ok{body:List T}(ok:LwOk l)(hb:BdOk l body):RdOk l.size [(l.n1,l.bx)] [l.n2] [(l.prg,body)] l.ws []:=by
 have k1:=ok.k1
 have k2:=ok.k2
 have bl:=hb.ln
 have sl:=ok.sl
 have wl:l.ws.length=l.w.toNat:=List.length_replicate
 refine⟨fun t ht=>?_,?_,show 1<=900 by decide,show 1<=900 by decide,fun p hp=>?_,show 1<=900 by decide,by omega,by omega,fun i hi=>?_,Nat.zero_le _⟩
 ·have ht:t∈Jz l body:=ht
  rw[Lq] at ht
  rcases List.mem_append.mp ht with ht|ht
  ·rcases List.mem_append.mp ht with ht|ht
   ·exact Wq ok t ht
   ·exact(hb.g t ht).2
  ·rw[List.eq_of_mem_replicate ht]
   exact rw1 (k:="name") rfl (npt (by decide) (by decide) (by decide))
 ·show (Jz l body).length<=900
  rw[Lq,List.length_append,List.length_append,List.length_replicate]
  show 5+body.length+l.w.toNat<=900
  omega
 ·rw[List.mem_singleton.mp hp]
  exact⟨show 1<=900 by decide,hb.bd,by show body.length<=800;omega,by show l.steps.length<=800;omega⟩
 ·have hi:i∈List.replicate l.w.toNat (0:Int):=hi
  rw[List.eq_of_mem_replicate hi]
  exact⟨0,rfl,rfl,fun m hm=>by omega⟩
theorem Q0(ok:LwOk l):formed (.int l.size) (.tup ([(l.n1,l.bx)].map pairT)) (.tup ([l.n2].map T.str)) (.tup [At l.prg]) (.tup (l.ws.map T.int)) (.tup [])=decide (l.steps.length<=30):=by
 have k1:=ok.k1
 have k2:=ok.k2
 have wl:(l.ws.map T.int).length=l.w.toNat:=by rw[List.length_map];exact List.length_replicate
 have nb:Num l.size [(l.n1,l.bx)]:=fun q hq=>by rw[List.mem_singleton.mp hq];exact⟨ok.nm.o1,ok.b0,ok.b1⟩
 have no:Num l.size [(l.n0,l.ow)]:=fun q hq=>by rw[List.mem_singleton.mp hq];exact⟨ok.nm.o0,ok.w0,ok.w1⟩
 have e1:Bq 2 16 (.int l.size)=true:=Vx ok.s2 ok.s16
 have e2:Bf 8 l.size (.tup ([(l.n1,l.bx)].map pairT))=true:=Pk (show (1:Int)<=8 by decide) nb (List.nodup_cons.mpr ⟨List.not_mem_nil,List.nodup_nil⟩)
 have e3:Cv (Xn (items (.tup ([(l.n1,l.bx)].map pairT)))) (.tup ([l.n2].map T.str))=true:=by
  show (Ak 0 4 (.tup ([l.n2].map T.str))&&(([l.n2].map T.str).all isName&&decide (Xn ([(l.n1,l.bx)].map pairT)++Bg ([l.n2].map T.str)).Nodup))=true
  have e:([l.n2].map T.str).all isName=true:=by
   rw[List.all_eq_true]
   intro x hx
   rw[List.mem_singleton.mp hx]
   exact ok.nm.o2
  rw[F6 (show (0:Int)<=1 by decide) (show (1:Int)<=4 by decide),e,D6,Mg]
  have nd:([l.n1]++[l.n2]).Nodup:=List.nodup_cons.mpr ⟨fun h=>ok.nd (List.mem_singleton.mp h),List.nodup_cons.mpr ⟨List.not_mem_nil,List.nodup_nil⟩⟩
  rw[show decide (([(l.n1,l.bx)].map (·.1))++[l.n2]).Nodup=true from decide_eq_true nd];rfl
 have e4:Co l.size (.tup [At l.prg])=decide (l.steps.length<=30):=by
  show (Ak 1 4 (.tup [At l.prg])&&([At l.prg].all (progOk l.size)&&decide (Xn [At l.prg]).Nodup))=_
  have e:progOk l.size (At l.prg)=decide (l.steps.length<=30):=by
   show (Ak 3 3 (.tup [.str l.n3,.tup ([(l.n0,l.ow)].map pairT),.tup l.steps])&&(Zw l.n3&&(Bf 4 l.size (.tup ([(l.n0,l.ow)].map pairT))&&(decide ((0:Int)<=l.steps.length)&&decide ((l.steps.length:Int)<=30)))))=_
   rw[F6 (show (3:Int)<=3 by decide) (show (3:Int)<=3 by decide),ok.o3,Pk (show (1:Int)<=4 by decide) no (List.nodup_cons.mpr ⟨List.not_mem_nil,List.nodup_nil⟩),decide_eq_true (show (0:Int)<=l.steps.length by omega)]
   by_cases h:l.steps.length<=30
   ·rw[decide_eq_true h,decide_eq_true (by omega)];rfl
   ·rw[decide_eq_false h,decide_eq_false (by omega)];rfl
  rw[F6 (show (1:Int)<=1 by decide) (show (1:Int)<=4 by decide),List.all_cons,e,show Xn [At l.prg]=[l.n3] from rfl,decide_eq_true (List.nodup_cons.mpr ⟨List.not_mem_nil,List.nodup_nil⟩),List.all_nil,Bool.and_true,Bool.and_true,Bool.true_and]
 have e5:Cq (items (.tup [At l.prg])).length (.tup (l.ws.map T.int))=true:=by
  show (Ak 1 6 (.tup (l.ws.map T.int))&&(l.ws.map T.int).all (Bq 0 (([At l.prg].length:Int) - 1)))=true
  have e:(l.ws.map T.int).all (Bq 0 (([At l.prg].length:Int) - 1))=true:=by
   rw[List.all_eq_true]
   intro x hx
   obtain⟨i,hi,rfl⟩:=List.mem_map.mp hx
   have hi:i∈List.replicate l.w.toNat (0:Int):=hi
   rw[List.eq_of_mem_replicate hi]
   rfl
  rw[F6 (by omega) (by omega),e];rfl
 have e6:Ak 0 4 (.tup [])=true:=rfl
 unfold formed E6
 dsimp only
 rw[e1,e2,e3,e4,e5,e6]
 simp
theorem Yi(l:Lw):StepsAll (Xn (items (.tup ([(l.n1,l.bx)].map pairT)))) (Bg (items (.tup ([l.n2].map T.str)))) (items (.tup [At l.prg])) ↔ Fit l:=by
 constructor
 ·intro h k t e
  exact h (.str l.n3) ([(l.n0,l.ow)].map pairT) l.steps (List.mem_singleton.mpr rfl) k t e
 ·intro h n os ss hm k t e
  have hm:=List.mem_singleton.mp (show T.tup [n,.tup os,.tup ss]∈[At l.prg] from hm)
  have hm:T.tup [n,.tup os,.tup ss]=T.tup [.str l.n3,.tup ([(l.n0,l.ow)].map pairT),.tup l.steps]:=hm
  injection hm with hm
  injection hm with h1 hm
  injection hm with h2 hm
  injection hm with h3 hm
  injection h2 with h2
  injection h3 with h3
  subst h2 h3
  exact h k t e
theorem pls(ok:LwOk l):Pl (.tup ([(l.n1,l.bx)].map pairT))/\Pl (.tup ([l.n2].map T.str))/\Pl (.tup [At l.prg])/\Pl (.tup (l.ws.map T.int))/\Pl (.tup []):=by
 have nb:Num l.size [(l.n1,l.bx)]:=fun q hq=>by rw[List.mem_singleton.mp hq];exact⟨ok.nm.o1,ok.b0,ok.b1⟩
 have no:Num l.size [(l.n0,l.ow)]:=fun q hq=>by rw[List.mem_singleton.mp hq];exact⟨ok.nm.o0,ok.w0,ok.w1⟩
 refine⟨Mq nb,.tup (Xd (Az (Ac ok.nm.o2)) al_nil),.tup (Xd (.tup (Xd (Az (Ac ok.o3)) (Xd (Mq no) (Xd (.tup fun t ht=>?_) al_nil)))) al_nil),.tup fun t ht=>?_,.tup al_nil⟩
 ·obtain⟨b,_,sn⟩:=ok.st t ht
  exact sn_pl (Bc ok.nm.o0) (Bc ok.nm.o1) (Bc ok.nm.o2) sn
 ·obtain⟨i,_,rfl⟩:=List.mem_map.mp ht
  exact .int _
end
end K14
end
section
namespace K14
open PySem PySem.Spec PyProof.Rows L2 TL
seal UE UT UA US USs UI UG UO UW PTs Ag A8 uOr Cc
section
variable{P:Program}{w:World}{K:PySem.W.Frag}{mg:Str->Option Value}{base:Heap}
def Lw.head(l:Lw):T:=.lst [.int l.size,.tup [pairT (l.n1,l.bx)],.tup [.str l.n2],.str l.n3,.tup [pairT (l.n0,l.ow)]]
def cDue:List T->TH->UX->Prop:=fun ts S Pp=>∃l:Lw,ts=[l.head,.lst l.steps,.int l.w]/\LwOk l/\∀u,Du l u->Pp u S
theorem scDue:Zv ["_law_head","_law_steps_here","_law_workers","_law_k"] ["_law_head","_law_steps_here","_law_workers"] (Zb (top 87)):=⟨rfl,rfl,rfl,by decide +kernel,rfl,by decide +kernel,by decide +kernel⟩
theorem X9{m:Nat}(N:Nm P w K mg)(d:Aa K mg "_law_due" ["_law_head","_law_steps_here","_law_workers"] (top 87)):Has P w K mg base (m+1) "_law_due" ["_law_head","_law_steps_here","_law_workers"] cDue:=by
 have sc:=scDue
 refine Ab (k:=m) d sc (fun ts S Pp h=>?_) fun cdv f A outer s H E hr=>?_
 ·obtain⟨_,rfl,_⟩:=h;rfl
 refine⟨_,(Zs (Zg (Cz (Zl rfl N.len (Zc (uv 1) Zn)) Zi) (Zo (Zr Zq)) Ze)
   (Zs (Cy PassesOwn.never rfl (B7 rfl N.range (Zc (Zl rfl N.len (Zc (uv 1) Zn)) Zn)) (Cm 3 sc.nd) (Zo (Zg (UW.ut (Dd (Kk (Zx (Zx (uv 1) (uv 3)) Zi) (Zu (Ar (Cs.s (Cs.s Cs.nil))))) (Cn (Cz (Zx (Zx (uv 1) (uv 3)) (Acl Zi)) (Cf (Cf (Zl rfl N.len (Zc (uv 1) Zn)) Zi) (uv 3)))))) (Zo (Zr Zq)) Ze)))
   (Zo (Zr (Zu (Zc (Zx (uv 0) Zi) (Zc (Zx (uv 0) Zi) (Zc (Zx (uv 0) Zi) (Zc (Zu (Zc (Zu (Zc (Zx (uv 0) Zi) (Zc (Zx (uv 0) Zi) (Zc (A6 rfl N.tuple (Zc (uv 1) Zn)) Zn)))) Zn)) (Zc (Zz (Zu (Zc Zi Zn)) (uv 2)) (Zc (Zu Zn) Zn))))))))))),fun ts S Pp h=>?_⟩
 obtain⟨l,rfl,ok,h⟩:=h
 have o1:1<=sizeLine:=by decide
 have o2:2<=sizeLine:=by decide
 have o3:3<=sizeLine:=by decide
 have k1:=ok.k1
 have k2:=ok.k2
 have sl:=ok.sl
 have szl:sizeLine=16777216:=rfl
 let e0:Option T:=some l.head
 let e1:Option T:=some (.lst l.steps)
 let e2:Option T:=some (.int l.w)
 refine Zj (fun env S'=>env=[e0,e1,e2,none]/\S=S'/\l.steps.length<=30) (fun k hk=>?_) ?_
 ·by_cases hl:30<l.steps.length
  ·exact yes_ (decide_eq_true (by omega)) (h _ (.long hl))
  ·exact no_ (decide_eq_false (by omega)) (hk _ _ ⟨rfl,rfl,by omega⟩)
 rintro _ _ ⟨rfl,rfl,l30⟩
 refine Zj (fun env S'=>∃e3,env=[e0,e1,e2,e3]/\S=S'/\Fit l) (fun kk hkk=>⟨by omega,by omega,?_⟩) ?_
 ·refine⟨fun k env S'=>∃e3,env=[e0,e1,e2,e3]/\S=S'/\∀(i:Nat) t,i<k->l.steps[i]?=some t->stepOk [l.n0] [l.n1] [l.n2] ((l.steps.length:Int) - (i:Int) - 1) t=true,⟨none,rfl,rfl,fun i t hi=>by omega⟩,?_,?_⟩
  ·rintro k x env _ ek ⟨e3,rfl,rfl,hf⟩
   obtain⟨hlt,rfl⟩:=Kx ek
   have hlt:k<l.steps.length:=by omega
   have et:=List.getElem?_eq_getElem hlt
   have hs:=ok.st _ (List.getElem_mem hlt)
   generalize l.steps[k]=s at et hs
   obtain⟨z,r,rfl,hz⟩:=Rt ok.nm hs
   have go:stepOk [l.n0] [l.n1] [l.n2] ((l.steps.length:Int) - (k:Int) - 1) (.tup (.str z::r))=true->∀(i:Nat) t,i<k+1->l.steps[i]?=some t->stepOk [l.n0] [l.n1] [l.n2] ((l.steps.length:Int) - (i:Int) - 1) t=true:=fun hv i t hi ei=>by
    by_cases e:i=k
    ·subst e;rw[et] at ei;cases ei;exact hv
    ·exact hf i t (by omega) ei
   rcases hz with⟨hj,hv⟩|⟨hj,i,ei,hv⟩
   ·refine J9 (fun P hP=>⟨_,Xb et,_,at0,o2,Jv,rfl,?_⟩) (no_ rfl ⟨_,rfl,rfl,go (hv _)⟩)
    show P (decide (z∈Jv)) S
    rw[hj];exact hP
   ·refine Fp (fun P hP=>⟨_,Xb et,_,at0,o2,Jv,rfl,?_⟩) ⟨_,Xb et,_,ei,?_⟩
    ·show P (decide (z∈Jv)) S
     rw[hj];exact hP
    have hv:=hv ((l.steps.length:Int) - (k:Int) - 1)
    by_cases hi:i<=(l.steps.length:Int) - (k:Int) - 1
    ·rw[decide_eq_true hi] at hv
     exact no_ (decide_eq_false (by omega)) ⟨_,rfl,rfl,go hv⟩
    ·rw[decide_eq_false hi] at hv
     refine yes_ (decide_eq_true (by omega)) (h _ (.step l30 fun ft=>?_))
     rw[ft k _ et] at hv;cases hv
  ·rintro env _ ⟨e3,rfl,rfl,hf⟩
   refine hkk _ _ ⟨e3,rfl,rfl,fun k t e=>hf k t ?_ e⟩
   rw[Zh]
   have:=(List.getElem?_eq_some_iff.mp e).1
   omega
 rintro _ _ ⟨e3,rfl,rfl,ft⟩
 have er:(List.replicate l.w.toNat [T.int 0]).flatten=l.ws.map T.int:=by
  unfold Lw.ws
  rw[List.map_replicate]
  exact List.flatten_replicate_singleton
 refine⟨_,at0,_,at1,_,at2,_,at3,_,at4,o3,o1,o1,fun z=>(by cases z),by omega,by omega,?_,show 0<=sizeLine by decide,show 6<=sizeLine by decide,?_⟩
 ·show 1 * l.w.toNat<=16777216
  omega
 ·rw[er]
  exact h _ (.ok l30 ft)
def Aag:List T->TH->UX->Prop:=fun ts S Pp=>∃(l:Lw) (body:List T) (x:Str),ts=[.str x]/\LwOk l/\TxOk x/\BdOk l body/\worded x=(Jz l body).map wordsT/\∀u S',Du l u->Pp u S'
theorem Aaw:Zv ["_law_text"] ["_law_text"] (Zb (top 86)):=⟨rfl,rfl,rfl,by decide +kernel,rfl,by decide +kernel,by decide +kernel⟩
theorem U6{m:Nat}(N:Nm P w K mg)(d:Aa K mg "_law_told" ["_law_text"] (top 86))(c_read:Ep P w K mg base m "read" ["text"] (Oj (cAt mg "NoLoom") (cAt mg "NoStep") (cAt mg "NoClaim"))):Has P w K mg base (m+1) "_law_told" ["_law_text"] Aag:=by
 have sc:=Aaw
 refine Ab (k:=m) d sc (fun ts S Pp h=>?_) fun cdv f A outer s H E hr=>?_
 ·obtain⟨_,_,_,rfl,_⟩:=h;rfl
 refine⟨_,(Zo (Y1 rfl rfl c_read hr rfl (Zc (uv 0) Zn) rfl N.NoStep_at N.NoStep_kts rfl N.NoLoom_at N.NoLoom_kts (fun a oe=>(Zo (Zr Zq))) (fun a oe=>(Zo (Zr Zq))))),fun ts S Pp h=>?_⟩
 obtain⟨l,body,x,rfl,ok,tk,hb,hw,h⟩:=h
 obtain⟨p1,p2,p3,p4,p5⟩:=pls ok
 have hf:=Q0 ok
 have hs:=Yi l
 refine⟨x,l.size,[(l.n1,l.bx)],[l.n2],[(l.prg,body)],l.ws,[],rfl,tk,rd_ok ok hb,hw,fun S' _=>⟨.int l.size,_,_,_,_,_,rfl,.int _,p1,p2,p3,p4,p5,fun e=>?_,fun e=>⟨fun ns=>?_,fun fs=>⟨fun nc=>?_,fun _=>?_⟩⟩⟩⟩
 ·have e:=hf.symm.trans e
  exact⟨_,rfl,.inr ⟨N.NoLoom_no,N.NoLoom_in,fun _ _ _=>h _ _ (.long (by have:=of_decide_eq_false e;omega))⟩⟩
 ·have e:=hf.symm.trans e
  exact⟨_,rfl,.inl ⟨N.NoStep_in,fun _ _ _=>h _ _ (.step (of_decide_eq_true e) fun z=>ns (hs.mpr z))⟩⟩
 ·exact absurd (fun t ht=>(by cases ht)) nc
 ·have e:=hf.symm.trans e
  exact h _ _ (.ok (of_decide_eq_true e) (hs.mp fs))
end
end K14
end
section
namespace K14
open PySem PySem.Spec PyProof.Rows L2 TL
seal UE UT UA US USs UI UG UO UW PTs Ag A8 uOr Cc
structure Dfs(K:PySem.W.Frag)(mg:Str->Option Value):Prop where
 s_is_name:Aa K mg "is_name" ["thing"] (top 13)
 s_is_name_of:Aa K mg "is_name_of" ["thing","names"] (top 14)
 s_is_number:Aa K mg "is_number" ["thing","least","greatest"] (top 15)
 s_has_word:Aa K mg "has_word" ["thing"] (top 16)
 s_is_value:Aa K mg "is_value" ["thing","owns","boxes"] (top 17)
 s_is_value_within:Aa K mg "is_value_within" ["thing","owns","boxes","depth"] (top 18)
 s_is_value_part:Aa K mg "is_value_part" ["thing","kind","owns","boxes","depth"] (top 19)
 s_is_step:Aa K mg "is_step" ["thing","owns","boxes","locks","behind"] (top 22)
 s_is_step_part:Aa K mg "is_step_part" ["thing","kind","owns","boxes","locks","behind"] (top 23)
 s_loom_of:Aa K mg "loom_of" ["size","boxes","locks","programs","workers","claims"] (top 34)
 s_ask_parts:Aa K mg "ask_parts" ["size","boxes","locks","programs","workers","claims"] (top 35)
 s_is_tuple_of:Aa K mg "is_tuple_of" ["thing","fewest","most"] (top 36)
 s_names_of:Aa K mg "names_of" ["things"] (top 37)
 s_are_unlike:Aa K mg "are_unlike" ["names"] (top 38)
 s_are_holdings:Aa K mg "are_holdings" ["thing","most","size"] (top 39)
 s_is_holding:Aa K mg "is_holding" ["thing","size"] (top 40)
 s_are_locks:Aa K mg "are_locks" ["thing","box_names"] (top 41)
 s_are_programs:Aa K mg "are_programs" ["thing","size"] (top 42)
 s_is_program:Aa K mg "is_program" ["thing","size"] (top 43)
 s_are_workers:Aa K mg "are_workers" ["thing","many_programs"] (top 44)
 s_ask_steps:Aa K mg "ask_steps" ["programs","box_names","locks"] (top 45)
 s_ask_claims:Aa K mg "ask_claims" ["claims","box_names"] (top 46)
 s_row_of:Aa K mg "row_of" ["words"] (top 51)
 s_part_of:Aa K mg "part_of" ["feed","kind"] (top 52)
 s_number_of:Aa K mg "number_of" ["word"] (top 53)
 s_value_of:Aa K mg "value_of" ["feed"] (top 54)
 s_piece_of:Aa K mg "piece_of" ["feed"] (top 55)
 s_many_within:Aa K mg "many_within" ["piece"] (top 56)
 s_value_of_pieces:Aa K mg "value_of_pieces" ["pieces"] (top 57)
 s_read:Aa K mg "read" ["text"] (top 61)
 s_worded_rows:Aa K mg "worded_rows" ["text"] (top 62)
 s_words_in:Aa K mg "words_in" ["row"] (top 63)
 s_word_ahead:Aa K mg "word_ahead" ["rows"] (top 64)
 s_drawn:Aa K mg "drawn" ["rows","word"] (top 65)
 s_size_of:Aa K mg "size_of" ["rows"] (top 66)
 s_programs_of:Aa K mg "programs_of" ["rows"] (top 67)
 s_steps_of:Aa K mg "steps_of" ["rows"] (top 68)
 s_plain_steps:Aa K mg "plain_steps" ["rows"] (top 69)
 s_block_of:Aa K mg "block_of" ["rows"] (top 70)
 s_number_of_program:Aa K mg "number_of_program" ["name","names"] (top 71)
 s_law_cell_at:Aa K mg "_law_cell_at" ["_law_script","_law_k"] (top 73)
 s_law_state:Aa K mg "_law_state" ["_law_cell","_law_k"] (top 74)
 s_law_next:Aa K mg "_law_next" ["_law_state_here","_law_size"] (top 75)
 s_law_names:Aa K mg "_law_names" ["_law_state_here","_law_amount"] (top 76)
 s_law_value:Aa K mg "_law_value" ["_law_state_here","_law_deep","_law_owns","_law_boxes"] (top 77)
 s_law_step:Aa K mg "_law_step" ["_law_state_here","_law_owns","_law_boxes","_law_locks","_law_behind"] (top 78)
 s_law_value_text:Aa K mg "_law_value_text" ["_law_value_here"] (top 81)
 s_law_step_text:Aa K mg "_law_step_text" ["_law_step_here"] (top 82)
 s_law_pieces:Aa K mg "_law_pieces" ["_law_state_here","_law_names_here"] (top 84)
 s_law_lines:Aa K mg "_law_lines" ["_law_pieces_here","_law_blocks"] (top 85)
 s_law_told:Aa K mg "_law_told" ["_law_text"] (top 86)
 s_law_due:Aa K mg "_law_due" ["_law_head","_law_steps_here","_law_workers"] (top 87)
 m_is_empty:Ck K (cAt mg "Feed") "is_empty" "Feed.is_empty" ["self"] (Dq (top 7) 1)
 m_ahead:Ck K (cAt mg "Feed") "ahead" "Feed.ahead" ["self"] (Dq (top 7) 2)
 m_draw:Ck K (cAt mg "Feed") "draw" "Feed.draw" ["self"] (Dq (top 7) 3)
 i_Feed:G6 K mg (cAt mg "Feed") "Feed" "Feed.__init__" ["self","things"] (Dq (top 7) 0)
section
variable{P:Program}{w:World}{K:PySem.W.Frag}{mg:Str->Option Value}{base:Heap}
def cLaw:List T->TH->UX->Prop:=fun ts S Pp=>∃ns:List Int,ts=[.fls (ns.map T.int)]/\∀S',Pp (.bl true) S'
theorem scLaw:Zv ["_law_script","_law_state_here","_law_names_here","_law_size","_law_box","_law_own","_law_workers","_law_pieces_here","_law_steps_here","_law_some","_law_times","_law_block","_law_rows_here","_law_ahead","_law_behind","_law_head","_law_due_here","_law_blocks"] ["_law_script"] (Zb (top 88)):=⟨rfl,rfl,rfl,by decide +kernel,rfl,by decide +kernel,by decide +kernel⟩
theorem Gy{a b:Str}(ha:a.length<=20)(hb:b.length<=8):a.length+b.length<=sizeLine:=Nat.le_trans (Nat.add_le_add ha hb) (by decide)
theorem Px{a b:Str}{n k:Nat}(ha:a.length<=n)(hb:b.length<=k):(a++b).length<=n+k:=by rw[Str.length_append];omega
theorem So{a q:Str}{i:Int}(ha:a.length<=8)(hq:Zw q=true)(h0:0<=i)(h1:i<=99):a.length+q.length<=sizeLine/\(a++q).length+(" ":Str).length<=sizeLine/\i.natAbs.log2<1920/\(a++q++" ").length+(numS i).length<=sizeLine:=by
 have n1:=Ac hq
 have h1':=Px ha n1
 have h2:(a++q++" ").length<=8+8+1:=Px h1' (show (" ":Str).length<=1 by decide)
 exact⟨Gy (by omega) n1,Gy (by omega) (by decide),Fb h0 h1,Gy (by omega) (numS_len h0 h1)⟩
def E9(n0 n1 n2 n3:Str)(size bx ow:Int):List Str:=["size "++numS size,"box "++n1++" "++numS bx,"lock "++n2,"program "++n3,"own "++n0++" "++numS ow,""]
def B6(l:Lw):Str:=Txt.join "\n" (E9 l.n0 l.n1 l.n2 l.n3 l.size l.bx l.ow)
def By(l:Lw):Str:=repS ("worker "++l.n3++"\n") l.w.toNat
theorem Yj{l:Lw}{body:List T}(ok:LwOk l)(hb:BdOk l body):worded (B6 l++textOf body++By l)=(Jz l body).map wordsT:=by
 have c1:Cl (B6 l) (headRows l):=by
  unfold B6 E9
  exact Vh ok.r1 ok.r2 ok.r3 ok.r4 ok.r5 (by rw[tx2i];rfl) (by unfold boxRow;rw[tx3];rfl) (by unfold lockRow;rw[tx2];rfl) (by unfold B1;rw[tx2];rfl) (by unfold ownRow;rw[tx3];rfl)
 have c2:=Pr fun t ht=>(hb.g t ht).1
 have e:("worker "++l.n3++"\n":Str)=A0 (Jp l):=by
  have q:tx (Jp l)=.str ("worker"++" "++l.n3):=tx2 _ _
  have q:=T.str.inj q
  unfold A0
  rw[q];rfl
 have c3:Cl (By l) (List.replicate l.w.toNat (Jp l)):=by
  unfold By
  rw[e]
  exact Sy (Eo ok.r6) _
 have:=D1 (D1 c1 c2) c3 ""
 rw[P1,wo_e,List.append_nil] at this
 rw[this,Lq]
theorem Na{n0 n1 n2 n3:Str}{size bx ow:Int}(o0:Zw n0=true)(o1:Zw n1=true)(o2:Zw n2=true)(o3:Zw n3=true)(s2:2<=size)(s16:size<=16)(b0:0<=bx)(b1:bx<size)(w0:0<=ow)(w1:ow<size):((E9 n0 n1 n2 n3 size bx ow).map (·.length)).sum+(E9 n0 n1 n2 n3 size bx ow).length * ("\n":Str).length<=200:=by
 have a1:=numS_len (i:=size) (by omega) (by omega)
 have a2:=numS_len (i:=bx) b0 (by omega)
 have a3:=numS_len (i:=ow) w0 (by omega)
 have b1:=Ac o0
 have b2:=Ac o1
 have b3:=Ac o2
 have b4:=Ac o3
 unfold E9
 simp only[List.map_cons,List.map_nil,List.sum_cons,List.sum_nil,List.length_cons,List.length_nil,Str.length_append]
 have c1:("size ":Str).length=5:=rfl
 have c2:("box ":Str).length=4:=rfl
 have c3:("lock ":Str).length=5:=rfl
 have c4:("program ":Str).length=8:=rfl
 have c5:("own ":Str).length=4:=rfl
 have c6:(" ":Str).length=1:=rfl
 have c7:("\n":Str).length=1:=rfl
 have c8:("":Str).length=0:=rfl
 omega
theorem Rz{l:Lw}(ok:LwOk l):(B6 l).length<=200:=by
 have h:=Na ok.nm.o0 ok.nm.o1 ok.nm.o2 ok.o3 ok.s2 ok.s16 ok.b0 ok.b1 ok.w0 ok.w1
 unfold B6
 exact Nat.le_trans (Ih _ _) h
theorem Ou{l:Lw}(ok:LwOk l):(By l).length<=200:=by
 unfold By
 have b4:=Ac ok.o3
 have k2:=ok.k2
 rw[Ly,Str.length_append,Str.length_append]
 have c6:("worker ":Str).length=7:=rfl
 have c7:("\n":Str).length=1:=rfl
 exact Nat.le_trans (Nat.mul_le_mul (show l.w.toNat<=2 by omega) (show _<=16 by omega)) (by decide)
theorem Th{rows:List T}(hl:rows.length<=80)(h:∀t∈rows,RowG t/\RowW t (wordsT t)):(textOf rows).length<=8000000:=by
 have h1:(textOf rows).length<=((rows.map A0).map (·.length)).sum+(rows.map A0).length * ("":Str).length:=Ih _ _
 have h2:=Lc (n:=20001) (zs:=rows.map A0) fun z hz=>by
  obtain⟨t,ht,rfl⟩:=List.mem_map.mp hz
  exact M7 (h t ht).1.wt (by decide)
 rw[show ("":Str).length=0 from rfl,Nat.mul_zero,Nat.add_zero] at h1
 rw[List.length_map] at h2
 omega
theorem Acf{m:Nat}{f:Addr}{fd:FuncData}(N:Nm P w K mg)(F:Fun K "law" "law" (top 88) f fd)(c_law_cell_at:Has P w K mg base m "_law_cell_at" ["_law_script","_law_k"] Aad)(c_law_state:Has P w K mg base m "_law_state" ["_law_cell","_law_k"] Vu)(c_law_names:Has P w K mg base m "_law_names" ["_law_state_here","_law_amount"] Ua)(c_law_next:Has P w K mg base m "_law_next" ["_law_state_here","_law_size"] H9)(c_law_pieces:Has P w K mg base m "_law_pieces" ["_law_state_here","_law_names_here"] Mm)(c_law_lines:Has P w K mg base m "_law_lines" ["_law_pieces_here","_law_blocks"] P6)(c_law_due:Has P w K mg base m "_law_due" ["_law_head","_law_steps_here","_law_workers"] cDue)(c_law_told:Has P w K mg base m "_law_told" ["_law_text"] Aag):FnOk P w K mg base CX0 (m+1) f fd ["_law_script"] (spU K cLaw):=by
 have sc:=scLaw
 refine Pv (k:=m) F sc (fun ts S Pp h=>?_) fun cdv A outer s H E hr=>?_
 ·obtain⟨ns,rfl,_⟩:=h;rfl
 have hu0:=An hr
 have hu64:=hr.units
 refine⟨_,(Zs (Zt 1 sc.nd (Zf c_law_state hr rfl (Zc (Zf c_law_cell_at hr rfl (Zc (uv 0) (Zc Zi Zn))) (Zc Zi Zn))))
   (Zs (Zt 2 sc.nd (Zf c_law_names hr rfl (Zc (uv 1) (Zc Zi Zn))))
   (Zs (Zt 3 sc.nd (Zp Zi (Zf c_law_next hr rfl (Zc (uv 1) (Zc Zi Zn)))))
   (Zs (Zt 4 sc.nd (Zf c_law_next hr rfl (Zc (uv 1) (Zc (uv 3) Zn))))
   (Zs (Zt 5 sc.nd (Zf c_law_next hr rfl (Zc (uv 1) (Zc (uv 3) Zn))))
   (Zs (Zt 6 sc.nd (Zp Zi (Zf c_law_next hr rfl (Zc (uv 1) (Zc Zi Zn)))))
   (Zs (Zt 7 sc.nd (Zf c_law_pieces hr rfl (Zc (Zf c_law_state hr rfl (Zc (Zf c_law_cell_at hr rfl (Zc (uv 0) (Zc Zi Zn))) (Zc Zi Zn))) (Zc (uv 2) Zn))))
   (Zs (Zt 8 sc.nd (Am Zn))
   (Zs (Cy PassesOwn.never rfl (Xu (uv 7)) (F7 9 10 11 rfl sc.nd) (Zo (Zt 8 sc.nd (Zp (uv 8) (K9 (uv 9) (uv 10))))))
   (Zs (Zt 12 sc.nd (Am (Zc (Zp Zq (G8 rfl N.str (Zc (uv 3) Zn))) (Zc (Zp (Zp (Zp Zq (Zx (uv 2) Zi)) Zq) (G8 rfl N.str (Zc (uv 4) Zn))) (Zc (Zp Zq (Zx (uv 2) Zi)) Zn)))))
   (Zs (Zt 12 sc.nd (Zp (uv 12) (Am (Zc (Zp Zq (Zx (uv 2) Zi)) (Zc (Zp (Zp (Zp Zq (Zx (uv 2) Zi)) Zq) (G8 rfl N.str (Zc (uv 5) Zn))) (Zc Zq Zn))))))
   (Zs (Zt 13 sc.nd (Ha Zq (Zc (uv 12) Zn)))
   (Zs (Zt 14 sc.nd (Yx (Zp (Zp Zq (Zx (uv 2) Zi)) Zq) (uv 6)))
   (Zs (Zt 15 sc.nd (Am (Zc (uv 3) (Zc (Zu (Zc (Zu (Zc (Zx (uv 2) Zi) (Zc (uv 4) Zn))) Zn)) (Zc (Zu (Zc (Zx (uv 2) Zi) Zn)) (Zc (Zx (uv 2) Zi) (Zc (Zu (Zc (Zu (Zc (Zx (uv 2) Zi) (Zc (uv 5) Zn))) Zn)) Zn)))))))
   (Zs (Zt 16 sc.nd (Zf c_law_due hr rfl (Zc (uv 15) (Zc (uv 8) (Zc (uv 6) Zn)))))
   (Zs (Cy PassesOwn.never rfl (Xu (Zu (Ar (Cs.b (Cs.b (Cs.b Cs.nil)))))) (Cm 17 sc.nd) (Zo (Zg (Tu hu64 (Zf c_law_told hr rfl (Zc (Zp (Zp (uv 13) (Zf c_law_lines hr rfl (Zc (uv 7) (Zc (uv 17) Zn)))) (uv 14)) Zn)) (uv 16)) (Zo (Zr Cj)) Ze)))
   (Zo (Zr Cj)))))))))))))))))),fun ts S0 Pp h=>?_⟩
 obtain⟨ns,rfl,h⟩:=h
 have o1:1<=sizeLine:=by decide
 have o2:2<=sizeLine:=by decide
 have o3:3<=sizeLine:=by decide
 have o5:5<=sizeLine:=by decide
 have szl:sizeLine=16777216:=rfl
 let e0:Option T:=some (.fls (ns.map T.int))
 refine Zj (fun env S=>∃a,env=[e0,some (.ref a),none,none,none,none,none,none,none,none,none,none,none,none,none,none,none,none]/\Sd S a) (fun k hk=>⟨ns,0,rfl,fun v=>⟨v,1,rfl,fun a y ha=>hk _ _ ⟨a,rfl,Sd.new⟩⟩⟩) ?_
 rintro _ S1 ⟨a,rfl,sd1⟩
 let e1:Option T:=some (.ref a)
 refine Zj (fun env S=>∃n0 n1 n2 n3:Str,env=[e0,e1,some (.lst (sW [n0,n1,n2,n3])),none,none,none,none,none,none,none,none,none,none,none,none,none,none,none]/\Sd S a/\(∀z∈[n0,n1,n2,n3],Zw z=true)/\[n0,n1,n2,n3].Nodup) (fun k hk=>⟨a,4,rfl,sd1,by decide,fun zs S2 d2 hz ok nd=>?_⟩) ?_
 ·match zs,hz with
  |[n0,n1,n2,n3],_=>exact hk _ _ ⟨n0,n1,n2,n3,rfl,d2.sd,ok,nd⟩
 rintro _ S2 ⟨n0,n1,n2,n3,rfl,sd2,oks,nds⟩
 have ok0:Zw n0=true:=oks n0 (by simp)
 have ok1:Zw n1=true:=oks n1 (by simp)
 have ok2:Zw n2=true:=oks n2 (by simp)
 have ok3:Zw n3=true:=oks n3 (by simp)
 have nd12:n1≠n2:=by
  have q:=(List.nodup_cons.mp (List.nodup_cons.mp nds).2).1
  exact fun z=>q (z ▸ List.mem_cons_self)
 let e2:Option T:=some (.lst (sW [n0,n1,n2,n3]))
 refine Zj (fun env S=>∃size:Int,env=[e0,e1,e2,some (.int size),none,none,none,none,none,none,none,none,none,none,none,none,none,none]/\Sd S a/\2<=size/\size<=16) (fun k hk=>⟨a,15,rfl,sd2,by decide,fun r S3 d3 r0 r1=>hk _ _ ⟨2+r,rfl,d3.sd,by omega,by omega⟩⟩) ?_
 rintro _ S3 ⟨size,rfl,sd3,s2,s16⟩
 let e3:Option T:=some (.int size)
 refine Zj (fun env S=>∃bx:Int,env=[e0,e1,e2,e3,some (.int bx),none,none,none,none,none,none,none,none,none,none,none,none,none]/\Sd S a/\0<=bx/\bx<size) (fun k hk=>⟨a,size,rfl,sd3,by omega,fun r S4 d4 r0 r1=>hk _ _ ⟨r,rfl,d4.sd,r0,r1⟩⟩) ?_
 rintro _ S4 ⟨bx,rfl,sd4,bx0,bx1⟩
 let e4:Option T:=some (.int bx)
 refine Zj (fun env S=>∃ow:Int,env=[e0,e1,e2,e3,e4,some (.int ow),none,none,none,none,none,none,none,none,none,none,none,none]/\Sd S a/\0<=ow/\ow<size) (fun k hk=>⟨a,size,rfl,sd4,by omega,fun r S4 d4 r0 r1=>hk _ _ ⟨r,rfl,d4.sd,r0,r1⟩⟩) ?_
 rintro _ S5 ⟨ow,rfl,sd5,ow0,ow1⟩
 let e5:Option T:=some (.int ow)
 refine Zj (fun env S=>∃wk:Int,env=[e0,e1,e2,e3,e4,e5,some (.int wk),none,none,none,none,none,none,none,none,none,none,none]/\1<=wk/\wk<=2) (fun k hk=>⟨a,2,rfl,sd5,by decide,fun r S3 d3 r0 r1=>hk _ _ ⟨1+r,rfl,by omega,by omega⟩⟩) ?_
 rintro _ S6 ⟨wk,rfl,k1,k2⟩
 let e6:Option T:=some (.int wk)
 have nm:Nm3 n0 n1 n2:=⟨ok0,ok1,ok2⟩
 refine Zj (fun env S=>∃ps:List Pce,env=[e0,e1,e2,e3,e4,e5,e6,some (.lst (ps.map pceT)),none,none,none,none,none,none,none,none,none,none]/\ps.length<=4/\∀p∈ps,Pc n0 n1 n2 p) (fun k hk=>⟨ns,1,rfl,fun v=>⟨v,2,rfl,fun b y hb=>⟨b,n0,n1,n2,n3,rfl,Sd.new,nm,fun ps S lp hp=>hk _ _ ⟨ps,rfl,lp,hp⟩⟩⟩⟩) ?_
 rintro _ S7 ⟨ps,rfl,lp,hp⟩
 let e7:Option T:=some (.lst (ps.map pceT))
 refine Zj (fun env S=>env=[e0,e1,e2,e3,e4,e5,e6,e7,some (.lst []),none,none,none,none,none,none,none,none,none]) (fun k hk=>⟨show 0<=sizeLine by decide,hk _ _ rfl⟩) ?_
 rintro _ S8 rfl
 have few:∀k,((ps.take k).flatMap rep).length<=80:=fun k=>by
  have h1:=Fh (g:=rep) (n:=20) (ps:=ps.take k) fun p hp'=>Ku (hp p (List.mem_of_mem_take hp'))
  rw[List.length_take] at h1
  omega
 refine Zj (fun env S=>∃e9 e10 e11,env=[e0,e1,e2,e3,e4,e5,e6,e7,some (.lst (ps.flatMap rep)),e9,e10,e11,none,none,none,none,none,none]) (fun kk hkk=>?_) ?_
 ·refine⟨fun k env S=>∃e9 e10 e11,env=[e0,e1,e2,e3,e4,e5,e6,e7,some (.lst ((ps.take k).flatMap rep)),e9,e10,e11,none,none,none,none,none,none],⟨none,none,none,rfl⟩,?_,?_⟩
  ·rintro k x env S ek ⟨e9,e10,e11,rfl⟩
   rw[List.getElem?_map] at ek
   cases ex:ps[k]? with
   |none=>rw[ex] at ek;cases ek
   |some p =>
    rw[ex] at ek
    cases ek
    have pc:=hp p (List.mem_of_getElem? ex)
    have fk:=few k
    have l4:=pc.ln
    have a1:=pc.a1
    have a5:=pc.a5
    have et:(ps.take (k+1)).flatMap rep=(ps.take k).flatMap rep++rep p:=by
     rw[List.take_add_one,ex,List.flatMap_append]
     simp
    have rl:p.1.length * p.2.1.toNat<=20:=Nat.le_trans (Nat.mul_le_mul l4 (show p.2.1.toNat<=5 by omega)) (by decide)
    have rl2:=Ku pc
    unfold rep at rl2
    refine⟨p.1,p.2.1,rfl,rfl,by omega,by omega,by omega,by omega,some (.lst p.1),some (.int p.2.1),some (.int p.2.2),?_⟩
    rw[et];rfl
  ·rintro env S ⟨e9,e10,e11,rfl⟩
   rw[List.length_map,List.take_length]
   exact hkk _ _ ⟨e9,e10,e11,rfl⟩
 rintro _ S9 ⟨e9,e10,e11,rfl⟩
 have sl:=few ps.length
 rw[List.take_length] at sl
 have hst:∀s∈ps.flatMap rep,Drawn n0 n1 n2 s:=fun s hs=>by
  obtain⟨p,hp',hs⟩:=List.mem_flatMap.mp hs
  exact(hp p hp').st s (K2 hs)
 let l:Lw:=⟨n0,n1,n2,n3,size,bx,ow,wk,ps.flatMap rep⟩
 have ok:LwOk l:=⟨nm,ok3,nd12,s2,s16,bx0,bx1,ow0,ow1,k1,k2,hst,sl⟩
 have hb:∀f,BdOk l (ps.flatMap (bodyRow f)):=fun f=>⟨Jy f hp,by
  have h1:=Fh (g:=bodyRow f) (n:=20) (ps:=ps) fun p hp'=>M9 (hp p hp')
  omega,fun t ht=>by
  obtain⟨p,hp',ht⟩:=List.mem_flatMap.mp ht
  exact Kp nm (hp p hp') f t ht⟩
 let e8:Option T:=some (.lst (ps.flatMap rep))
 obtain⟨q1,q2,q3,q4⟩:=So (a:="box ") (by decide) ok1 bx0 (show bx<=99 by omega)
 obtain⟨p1,p2,p3,p4⟩:=So (a:="own ") (by decide) ok0 ow0 (show ow<=99 by omega)
 have nz:=numS_len (i:=size) (by omega) (by omega)
 refine Zj (fun env S=>env=[e0,e1,e2,e3,e4,e5,e6,e7,e8,e9,e10,e11,some (.lst [.str ("size "++numS size),.str ("box "++n1++" "++numS bx),.str ("lock "++n2)]),none,none,none,none,none]) (fun k hk=>⟨Fb (by omega) (by omega),Gy (by decide) nz,_,at1,q1,q2,q3,q4,_,at2,Gy (by decide) (Ac ok2),o3,hk _ _ rfl⟩) ?_
 rintro _ S10 rfl
 refine Zj (fun env S=>env=[e0,e1,e2,e3,e4,e5,e6,e7,e8,e9,e10,e11,some (.lst [.str ("size "++numS size),.str ("box "++n1++" "++numS bx),.str ("lock "++n2),.str ("program "++n3),.str ("own "++n0++" "++numS ow),.str ""]),none,none,none,none,none]) (fun k hk=>⟨_,at3,Gy (by decide) (Ac ok3),_,at0,p1,p2,p3,p4,o3,show 6<=sizeLine by decide,hk _ _ rfl⟩) ?_
 rintro _ S11 rfl
 let e12:Option T:=some (.lst [.str ("size "++numS size),.str ("box "++n1++" "++numS bx),.str ("lock "++n2),.str ("program "++n3),.str ("own "++n0++" "++numS ow),.str ""])
 have ea:Txt.join "\n" (E9 n0 n1 n2 n3 size bx ow)=B6 l:=rfl
 have hsum:((E9 n0 n1 n2 n3 size bx ow).map (·.length)).sum+(E9 n0 n1 n2 n3 size bx ow).length * ("\n":Str).length<=16777216:=Nat.le_trans (Na ok0 ok1 ok2 ok3 s2 s16 bx0 bx1 ow0 ow1) (by decide)
 refine Zj (fun env S=>env=[e0,e1,e2,e3,e4,e5,e6,e7,e8,e9,e10,e11,e12,some (.str (B6 l)),none,none,none,none]) (fun k hk=>⟨E9 n0 n1 n2 n3 size bx ow,rfl,hsum,hk _ _ (congrArg (fun z=>[e0,e1,e2,e3,e4,e5,e6,e7,e8,e9,e10,e11,e12,some (T.str z),none,none,none,none]) ea)⟩) ?_
 rintro _ S12 rfl
 let e13:Option T:=some (.str (B6 l))
 have n3l:=Ac ok3
 have wl:("worker "++n3:Str).length<=7+8:=Px (by decide) n3l
 have wl2:("worker "++n3++"\n":Str).length<=7+8+1:=Px wl (by decide)
 have wl3:1<=("worker "++n3++"\n":Str).length:=by rw[Str.length_append,show ("\n":Str).length=1 from rfl];omega
 refine Zj (fun env S=>env=[e0,e1,e2,e3,e4,e5,e6,e7,e8,e9,e10,e11,e12,e13,some (.str (By l)),none,none,none]) (fun k hk=>⟨_,at3,Gy (by decide) n3l,Gy (by omega) (by decide),_,wk,rfl,rfl,k1,by omega,wl3,by omega,hk _ _ rfl⟩) ?_
 rintro _ S13 rfl
 let e14:Option T:=some (.str (By l))
 refine Zj (fun env S=>env=[e0,e1,e2,e3,e4,e5,e6,e7,e8,e9,e10,e11,e12,e13,e14,some l.head,none,none]) (fun k hk=>⟨_,at1,o2,o1,_,at2,o1,_,at3,_,at0,o2,o1,o5,hk _ _ rfl⟩) ?_
 rintro _ S14 rfl
 let e15:Option T:=some l.head
 refine Zj (fun env S=>∃u,env=[e0,e1,e2,e3,e4,e5,e6,e7,e8,e9,e10,e11,e12,e13,e14,e15,some u,none]/\Du l u) (fun k hk=>⟨l,rfl,ok,fun u hu=>hk _ _ ⟨u,rfl,hu⟩⟩) ?_
 rintro _ S15 ⟨u,rfl,hu⟩
 let e16:Option T:=some u
 have al:=Rz ok
 have bl:=Ou ok
 refine Zj (fun _ _=>True) (fun k hk=>⟨o3,?_⟩) fun _ _ _=>h _
 refine⟨fun _ env S=>∃e17,env=[e0,e1,e2,e3,e4,e5,e6,e7,e8,e9,e10,e11,e12,e13,e14,e15,e16,e17],⟨none,rfl⟩,?_,fun _ _ _=>hk _ _ trivial⟩
 rintro k0 z env S ek ⟨e17,rfl⟩
 obtain⟨b,rfl⟩:∃b,z=.bl b:=by
  rcases k0 with _|_|_|k0
  ·simp at ek;exact⟨_,ek.symm⟩
  ·simp at ek;exact⟨_,ek.symm⟩
  ·simp at ek;exact⟨_,ek.symm⟩
  ·simp at ek
 have tl:=Th (hb b).ln (hb b).g
 have tw:=Yj ok (hb b)
 have xl:(B6 l++textOf (ps.flatMap (bodyRow b))++By l).length<=9000000:=by rw[Str.length_append,Str.length_append];omega
 refine⟨n0,n1,n2,ps,b,rfl,nm,lp,hp,by omega,by rw[Str.length_append];omega,l,ps.flatMap (bodyRow b),_,rfl,ok,tx_ok xl,hb b,tw,fun v S' hv=>?_⟩
 have ev:=hv.uniq hu
 subst ev
 have dv:=Aar ok hv
 have dq:DatQ 12 (cv S' v):=by rw[Abr dv];exact dv.q
 refine⟨12,by decide,dq,dq,no_ ?_ ⟨_,rfl⟩⟩
 show Bool.xor true (teq 12 (cv S' v) (cv S' v))=false
 rw[Nb dq];rfl
theorem L4(N:Nm P w K mg)(D:Dfs K mg):Ep P w K mg base 19 "loom_of" ["size","boxes","locks","programs","workers","claims"] (cLoomOfE (cAt mg "NoLoom") (cAt mg "NoStep") (cAt mg "NoClaim")):=by
 have c_number:=is_number (P:=P) (w:=w) (base:=base) N D.s_is_number
 have c_name:=is_name (P:=P) (w:=w) (base:=base) N D.s_is_name
 have c_name_of:=is_name_of (P:=P) (w:=w) (base:=base) D.s_is_name_of c_name
 have c_word:=has_word (P:=P) (w:=w) (base:=base) N D.s_has_word
 have c_within:=Id (base:=base) N D.s_is_value_within D.s_is_value_part c_number c_name_of c_word 5
 have c_value:=is_value N D.s_is_value c_within
 have c_part:=is_step_part (m:=15) N D.s_is_step_part (c_name_of.mono (by omega)) (c_number.mono (by omega)) c_value
 have c_step:=is_step (m:=16) N D.s_is_step (c_word.mono (by omega)) c_part
 have c_row:=is_tuple_of (P:=P) (w:=w) (base:=base) N D.s_is_tuple_of
 have c_names:=names_of (P:=P) (w:=w) (base:=base) N D.s_names_of
 have c_unlike:=are_unlike (P:=P) (w:=w) (base:=base) N D.s_are_unlike
 have c_hold:=is_holding (m:=1) N D.s_is_holding c_row c_name c_number
 have c_holds:=are_holdings (m:=2) N D.s_are_holdings (c_row.mono (by omega)) c_hold (c_names.mono (by omega)) (c_unlike.mono (by omega))
 have c_locks:=are_locks (m:=1) N D.s_are_locks c_row c_name c_unlike
 have c_prog:=is_program (m:=3) N D.s_is_program (c_row.mono (by omega)) (c_name.mono (by omega)) c_holds
 have c_progs:=are_programs (m:=4) N D.s_are_programs (c_row.mono (by omega)) c_prog (c_names.mono (by omega)) (c_unlike.mono (by omega))
 have c_works:=are_workers (m:=1) N D.s_are_workers c_row c_number
 have c_parts:=Oz (m:=17) N D.s_ask_parts (c_number.mono (by omega)) (c_holds.mono (by omega)) (c_names.mono (by omega)) (c_locks.mono (by omega)) (c_progs.mono (by omega)) (c_works.mono (by omega)) (c_row.mono (by omega))
 have c_steps:=N0 (m:=17) N D.s_ask_steps (c_names.mono (by omega)) c_step
 have c_claims:=Mo (m:=17) N D.s_ask_claims (c_value.mono (by omega))
 exact Uh (m:=18) N D.s_loom_of c_parts c_steps c_claims (c_names.mono (by omega))
theorem Tl(N:Nm P w K mg)(D:Dfs K mg):Ep P w K mg base 21 "read" ["text"] (Oj (cAt mg "NoLoom") (cAt mg "NoStep") (cAt mg "NoClaim")):=by
 have i_f:=initF (P:=P) (w:=w) (base:=base) (m:=0) N D.i_Feed
 have m_em:=is_empty (P:=P) (w:=w) (base:=base) (m:=0) N D.m_is_empty
 have m_ah:=ahead (m:=1) N D.m_ahead m_em
 have m_dr:=draw (m:=2) N D.m_draw m_ah
 have c_no:=number_of (P:=P) (w:=w) (base:=base) (m:=0) N D.s_number_of
 have c_vn:Has P w K mg base 3 "value_of" ["feed"] V4:=Fv D.s_value_of fun _ _ _ z=>z
 have c_p0:=Uc (m:=3) N D.s_part_of c_vn (c_no.mono (by omega)) m_dr
 have c_mw:=many_within (P:=P) (w:=w) (base:=base) (m:=0) N D.s_many_within
 have c_vp:=value_of_pieces (m:=1) N D.s_value_of_pieces c_mw
 have c_pi:=piece_of (m:=4) N D.s_piece_of c_p0 (m_dr.mono (by omega))
 have c_vo:=value_of (m:=5) N D.s_value_of c_pi (c_mw.mono (by omega)) (c_vp.mono (by omega))
 have c_po:=part_of (m:=6) N D.s_part_of c_vo (c_no.mono (by omega)) (m_dr.mono (by omega))
 have c_ro:=row_of (m:=7) N D.s_row_of (i_f.mono (by omega)) (m_dr.mono (by omega)) (m_em.mono (by omega)) c_po
 have c_wa:=word_ahead (m:=2) N D.s_word_ahead (m_em.mono (by omega)) m_ah
 have c_dn:=drawn (m:=3) N D.s_drawn c_wa m_dr
 have c_si:=size_of (m:=3) N D.s_size_of c_wa m_dr
 have c_pl:=plain_steps (m:=3) N D.s_plain_steps c_wa m_dr
 have c_bo:=block_of (m:=4) N D.s_block_of c_pl (c_wa.mono (by omega)) (m_dr.mono (by omega))
 have c_so:=steps_of (m:=5) N D.s_steps_of (c_pl.mono (by omega)) (c_wa.mono (by omega)) c_bo
 have c_pr:=programs_of (m:=6) N D.s_programs_of (c_wa.mono (by omega)) (m_dr.mono (by omega)) (c_dn.mono (by omega)) c_so
 have c_np:=number_of_program (P:=P) (w:=w) (base:=base) (m:=0) N D.s_number_of_program
 have c_wi:=words_in (P:=P) (w:=w) (base:=base) (m:=0) N D.s_words_in
 have c_wr:=worded_rows (m:=1) N D.s_worded_rows c_wi
 have c_nm:=names_of (P:=P) (w:=w) (base:=base) N D.s_names_of
 have c_lo:=L4 (P:=P) (w:=w) (base:=base) N D
 exact readE (m:=19) N D.s_read (i_f.mono (by omega)) (m_em.mono (by omega)) (c_wr.mono (by omega)) (c_ro.mono (by omega)) (c_si.mono (by omega)) (c_dn.mono (by omega)) (c_pr.mono (by omega)) (c_nm.mono (by omega)) (c_np.mono (by omega)) c_lo
theorem Act{f:Addr}{fd:FuncData}(N:Nm P w K mg)(D:Dfs K mg)(F:Fun K "law" "law" (top 88) f fd):FnOk P w K mg base CX0 40 f fd ["_law_script"] (spU K cLaw):=by
 have c_next:=T0 (P:=P) (w:=w) (base:=base) N D.s_law_next
 have c_cell:=Yr (P:=P) (w:=w) (base:=base) N D.s_law_cell_at
 have c_state:=Rk (P:=P) (w:=w) (base:=base) N D.s_law_state
 have c_names:=Ra (base:=base) N D.s_law_names c_next
 have c_val:=Jr (base:=base) N D.s_law_value c_next 5
 have c_step:=Wf (base:=base) (m:=6) N D.s_law_step (c_next.mono (by omega)) c_val
 have c_pcs:=Oh (base:=base) (m:=7) N D.s_law_pieces (c_next.mono (by omega)) c_step
 have c_vt:=Ir (base:=base) N D.s_law_value_text 6 (by decide)
 have c_st:=Rj (base:=base) (m:=7) N D.s_law_step_text c_vt
 have c_li:=Qw (base:=base) (m:=8) N D.s_law_lines c_st
 have c_due:=X9 (P:=P) (w:=w) (base:=base) (m:=0) N D.s_law_due
 have c_to:=U6 (m:=21) N D.s_law_told (Tl (P:=P) (w:=w) (base:=base) N D)
 exact Acf (m:=39) N F (c_cell.mono (by omega)) (c_state.mono (by omega)) (c_names.mono (by omega)) (c_next.mono (by omega)) (c_pcs.mono (by omega)) (c_li.mono (by omega)) (c_due.mono (by omega)) (c_to.mono (by omega))
end
end K14
end
section
namespace TL
open PySem PySem.W PyProof.Rows
theorem Q3{p q:Program}{loose:List Str}{Xt:Shared->Bool}{α:Type}{Yf:Shared->α}{Ya:World->α}{N:Nat}(h1:LeftO p q loose Xt (Hook.obs Hook.none) (Hook.val Hook.none) N)(h2:∀w,(openEnds treeTable p w N).map Yf=some (Ya w)):LeftO p q loose Xt Yf Ya N:=fun w=>by
 have a:=h1 w
 have b:=h2 w
 cases e:openEnds treeTable p w N with
 |none=>rw[e] at b;cases b
 |some s =>
  rw[e] at a b
  have a:=congrArg Prod.fst (Option.some.inj a)
  have b:=Option.some.inj b
  show some (_,Yf s)=some (_,Ya w)
  rw[b]
  exact congrArg (fun z=>some (z,Ya w)) a
end TL
namespace TL
open PySem PySem.W PyProof.Rows
theorem Dy{p:Program}{α:Type}{F:Shared->α}{A:World->α}{N:Nat}(row:String)
  (h0:∀w:World,(fencedOpening treeTable p w N).map (fun s₀=>(topFrom treeTable p (w.withFollow row false) N s₀).map F)=some (some (A (w.withFollow row false))))
  (h1:∀w:World,(fencedOpening treeTable p w N).map (fun s₀=>(topFrom treeTable p (w.withFollow row true) N s₀).map F)=some (some (A (w.withFollow row true)))) :
  ∀w,(openEnds treeTable p w N).map F=some (A w):=fun w=>by
 have e:=World.withFollow_self w row
 unfold openEnds
 cases hb:w.params.followText row <;> rw[hb] at e
 ·obtain⟨s₀,a,b⟩:=Option.map_eq_some_iff.mp (h0 w)
  rw[e] at b
  rw[a]
  exact b
 ·obtain⟨s₀,a,b⟩:=Option.map_eq_some_iff.mp (h1 w)
  rw[e] at b
  rw[a]
  exact b
end TL
namespace TL
open PySem PySem.W PyProof.Rows
end TL
namespace TL
theorem Cr{α β:Type}{x y:α×β}(h1:x.1=y.1)(h2:x.2=y.2):x=y:=Prod.ext h1 h2
end TL
end
section
open PySem PySem.W PyProof.Rows
set_option maxHeartbeats 0
namespace K14
theorem m_0:∀w,(openEnds treeTable pp w 9000).map (fun s=>((sn s).1,(sn s).2.2.2.2.2.2.2.2))=some (expectedOf qq,clsGoodW qq lz):=TL.Dy (A:=fun _=>(expectedOf qq,clsGoodW qq lz)) "special-get-raises" l0_0 l1_0
theorem m_1:∀w,(openEnds treeTable pp w 9000).map (fun s=>((sn s).2.2.1,(sn s).2.2.2.2.2.2.1,(sn s).2.2.2.2.2.2.2.1))=some (true,plainGoodD qq lz,wideGood qq):=TL.Dy (A:=fun _=>(true,plainGoodD qq lz,wideGood qq)) "special-get-raises" l0_1 l1_1
theorem m_2:∀w,(openEnds treeTable pp w 9000).map (fun s=>((sn s).2.1,(sn s).2.2.2.1,(sn s).2.2.2.2.1))=some (bltViewBooted,true,pinGoodD (drecsOf qq)):=TL.Dy (A:=fun _=>(bltViewBooted,true,pinGoodD (drecsOf qq))) "special-get-raises" l0_2 l1_2
theorem m_3:∀w,(openEnds treeTable pp w 9000).map (fun s=>(plainSeenE qq lw s))=some (plainGoodE qq lw):=TL.Dy (A:=fun _=>(plainGoodE qq lw)) "special-get-raises" l0_3 l1_3
theorem left1:LeftO pp qq lz xt (Hook.obs Hook.none) (Hook.val Hook.none) 9000:=fun w=>by
 have h0:=m_0 w
 have h1:=m_1 w
 have h2:=m_2 w
 have h3:=m_3 w
 cases e:openEnds treeTable pp w 9000 with
 |none=>rw[e] at h0;cases h0
 |some s =>
  rw[e] at h0
  have h0:=Option.some.inj h0
  rw[e] at h1
  have h1:=Option.some.inj h1
  rw[e] at h2
  have h2:=Option.some.inj h2
  rw[e] at h3
  have h3:=Option.some.inj h3
  exact congrArg (fun z=>some (z,())) (show sn s=openGood qq lz from(TL.Cr (Prod.mk.inj h0).1 (TL.Cr (Prod.mk.inj h2).1 (TL.Cr (Prod.mk.inj h1).1 (TL.Cr (Prod.mk.inj (Prod.mk.inj h2).2).1 (TL.Cr (Prod.mk.inj (Prod.mk.inj h2).2).2 (TL.Cr (show plainSeenE qq (looseW qq lz) s=plainGoodE qq (looseW qq lz) by rw[hz];exact h3) (TL.Cr (Prod.mk.inj (Prod.mk.inj h1).2).1 (TL.Cr (Prod.mk.inj (Prod.mk.inj h1).2).2 (Prod.mk.inj h0).2)))))))))
end K14
set_option maxRecDepth 100000 in
set_option maxHeartbeats 0 in
theorem K14.nm_ok(w:World)(mg:Str->Option Value)(h:Heap)(KX:(K14.pre.heap_1 w.params).In h)(G:h.Ns mainGlobals mg):K14.Nm PySem.Challenge.rw_loomlook_k14_whole_again.prog w (L2.KOf KX) mg:=by
 dsimp only [L2.KOf]
 refine' ⟨PySem.W.mg_none_of KX G ?z_isinstance,PySem.W.mg_none_of KX G ?z_str,PySem.W.mg_none_of KX G ?z_int,PySem.W.mg_none_of KX G ?z_bool,PySem.W.mg_none_of KX G ?z_tuple,PySem.W.mg_none_of KX G ?z_list,PySem.W.mg_none_of KX G ?z_len,PySem.W.mg_none_of KX G ?z_all,PySem.W.mg_none_of KX G ?z_zip,PySem.W.mg_none_of KX G ?z_range,PySem.W.mg_none_of KX G ?z_max,PySem.W.mg_none_of KX G ?z_set,PySem.W.mg_none_of KX G ?z_enumerate,PySem.W.mg_none_of KX G ?z_min,PySem.W.mg_none_of KX G ?z_reversed,TL.Bi KX G ?i_LONGEST_NAME,TL.Bi KX G ?i_GREATEST_NUMBER,TL.Bi KX G ?i_DEEPEST_VALUE,TL.Bi KX G ?i_LEAST_SIZE,TL.Bi KX G ?i_GREATEST_SIZE,TL.Bi KX G ?i_MOST_BOXES,TL.Bi KX G ?i_MOST_LOCKS,TL.Bi KX G ?i_MOST_PROGRAMS,TL.Bi KX G ?i_MOST_OWNS,TL.Bi KX G ?i_MOST_STEPS,TL.Bi KX G ?i_MOST_WORKERS,TL.Bi KX G ?i_MOST_CLAIMS,TL.Bi KX G ?i_MOST_FIGURES,TL.Bi KX G ?i_LEAST_TIMES,TL.Bi KX G ?i_MOST_TIMES,TL.kt_mk KX G ?t1_NUMBER_KINDS (TL.KR.tupI ?t2_NUMBER_KINDS ?t3_NUMBER_KINDS ?t4_NUMBER_KINDS),TL.Vs KX G ?d1_VALUE_PARTS ?d2_VALUE_PARTS ?d3_VALUE_PARTS ?d4_VALUE_PARTS ?d5_VALUE_PARTS,TL.Vs KX G ?d1_STEP_PARTS ?d2_STEP_PARTS ?d3_STEP_PARTS ?d4_STEP_PARTS ?d5_STEP_PARTS,TL.Vs KX G ?d1_ROW_PARTS ?d2_ROW_PARTS ?d3_ROW_PARTS ?d4_ROW_PARTS ?d5_ROW_PARTS,TL.Gj KX G ?xa_NoLoom,TL.Lb KX G ?xa2_NoLoom ?xo_NoLoom,TL.Gj KX G ?xa_NoStep,TL.Lb KX G ?xa2_NoStep ?xo_NoStep,TL.Gj KX G ?xa_NoClaim,TL.Lb KX G ?xa2_NoClaim ?xo_NoClaim,TL.Gj KX G ?xa_NoText,TL.Lb KX G ?xa2_NoText ?xo_NoText,TL.Gj KX G ?ca_Feed,TL.Adb KX G ?cb_Feed ?cp_Feed ?ch_Feed ?co_Feed ?cs_Feed,TL.Jt KX G ?cn_Feed_things ?cq_Feed_things,TL.Jt KX G ?cn_Feed_place ?cq_Feed_place,TL.O5 KX G ?yc1 ?yc2,TL.O5 KX G ?yd1 ?yd2,TL.P8 KX G ?ye1 ?ye2 ?ye3,TL.Aba KX G ?yf1 ?yf2 ?yf3,TL.P8 KX G ?yg1 ?yg2 ?yg3⟩
 (case yc1=>first|k_is|kernel_rfl)
 (case yc2=>first|k_is|kernel_rfl)
 (case yd1=>first|k_is|kernel_rfl)
 (case yd2=>first|k_is|kernel_rfl)
 (case ye1=>first|k_is|kernel_rfl)
 (case ye2=>first|k_is|kernel_rfl)
 (case ye3=>first|k_is|kernel_rfl)
 (case yf1=>first|k_is|kernel_rfl)
 (case yf2=>first|k_is|kernel_rfl)
 (case yf3=>first|k_is|kernel_rfl)
 (case yg1=>first|k_is|kernel_rfl)
 (case yg2=>first|k_is|kernel_rfl)
 (case yg3=>first|k_is|kernel_rfl)
 (case xa_NoLoom=>k_is)
 (case xa2_NoLoom=>k_is)
 (case xo_NoLoom=>first|k_is|kernel_rfl)
 (case xa_NoStep=>k_is)
 (case xa2_NoStep=>k_is)
 (case xo_NoStep=>first|k_is|kernel_rfl)
 (case xa_NoClaim=>k_is)
 (case xa2_NoClaim=>k_is)
 (case xo_NoClaim=>first|k_is|kernel_rfl)
 (case xa_NoText=>k_is)
 (case xa2_NoText=>k_is)
 (case xo_NoText=>first|k_is|kernel_rfl)
 (case ca_Feed=>k_is)
 (case cb_Feed=>k_is)
 (case cp_Feed=>k_is)
 (case ch_Feed=>k_is)
 (case co_Feed=>k_is)
 (case cs_Feed=>k_is)
 (case cn_Feed_things=>k_is)
 (case cq_Feed_things=>k_is)
 (case cn_Feed_place=>k_is)
 (case cq_Feed_place=>k_is)
 (case z_isinstance=>k_is)
 (case z_str=>k_is)
 (case z_int=>k_is)
 (case z_bool=>k_is)
 (case z_tuple=>k_is)
 (case z_list=>k_is)
 (case z_len=>k_is)
 (case z_all=>k_is)
 (case z_zip=>k_is)
 (case z_range=>k_is)
 (case z_max=>k_is)
 (case z_set=>k_is)
 (case z_enumerate=>k_is)
 (case z_min=>k_is)
 (case z_reversed=>k_is)
 (case i_LONGEST_NAME=>k_is)
 (case i_GREATEST_NUMBER=>k_is)
 (case i_DEEPEST_VALUE=>k_is)
 (case i_LEAST_SIZE=>k_is)
 (case i_GREATEST_SIZE=>k_is)
 (case i_MOST_BOXES=>k_is)
 (case i_MOST_LOCKS=>k_is)
 (case i_MOST_PROGRAMS=>k_is)
 (case i_MOST_OWNS=>k_is)
 (case i_MOST_STEPS=>k_is)
 (case i_MOST_WORKERS=>k_is)
 (case i_MOST_CLAIMS=>k_is)
 (case i_MOST_FIGURES=>k_is)
 (case i_LEAST_TIMES=>k_is)
 (case i_MOST_TIMES=>k_is)
 (case t1_NUMBER_KINDS=>k_is)
 (case t2_NUMBER_KINDS=>k_is)
 (case t3_NUMBER_KINDS=>decide)
 (case t4_NUMBER_KINDS=>repeat first|exact TL.KRs.nil|refine TL.KRs.cons (TL.KR.str _ _) ?_|refine TL.KRs.cons (TL.KR.int _ _) ?_)
 (case d1_VALUE_PARTS=>k_is)
 (case d2_VALUE_PARTS=>k_is)
 (case d3_VALUE_PARTS=>decide)
 (case d5_VALUE_PARTS=>decide +kernel)
 (case d4_VALUE_PARTS =>
  refine' (TL.Ents.cons (TL.KR.tupI ?l7 ?m7 ?r7) (TL.Ents.cons (TL.KR.tupI ?l6 ?m6 ?r6) (TL.Ents.cons (TL.KR.tupI ?l5 ?m5 ?r5) (TL.Ents.cons (TL.KR.tupI ?l4 ?m4 ?r4) (TL.Ents.cons (TL.KR.tupI ?l3 ?m3 ?r3) (TL.Ents.cons (TL.KR.tupI ?l2 ?m2 ?r2) (TL.Ents.cons (TL.KR.tupI ?l1 ?m1 ?r1) (TL.Ents.cons (TL.KR.tupI ?l0 ?m0 ?r0) TL.Ents.nil))))))))
  (case l0=>k_is)
  (case l1=>k_is)
  (case l2=>k_is)
  (case l3=>k_is)
  (case l4=>k_is)
  (case l5=>k_is)
  (case l6=>k_is)
  (case l7=>k_is)
  (case m0=>decide)
  (case m1=>decide)
  (case m2=>decide)
  (case m3=>decide)
  (case m4=>decide)
  (case m5=>decide)
  (case m6=>decide)
  (case m7=>decide)
  (case r0=>repeat first|exact TL.KRs.nil|refine TL.KRs.cons (TL.KR.str _ _) ?_|refine TL.KRs.cons (TL.KR.int _ _) ?_)
  (case r1=>repeat first|exact TL.KRs.nil|refine TL.KRs.cons (TL.KR.str _ _) ?_|refine TL.KRs.cons (TL.KR.int _ _) ?_)
  (case r2=>repeat first|exact TL.KRs.nil|refine TL.KRs.cons (TL.KR.str _ _) ?_|refine TL.KRs.cons (TL.KR.int _ _) ?_)
  (case r3=>repeat first|exact TL.KRs.nil|refine TL.KRs.cons (TL.KR.str _ _) ?_|refine TL.KRs.cons (TL.KR.int _ _) ?_)
  (case r4=>repeat first|exact TL.KRs.nil|refine TL.KRs.cons (TL.KR.str _ _) ?_|refine TL.KRs.cons (TL.KR.int _ _) ?_)
  (case r5=>repeat first|exact TL.KRs.nil|refine TL.KRs.cons (TL.KR.str _ _) ?_|refine TL.KRs.cons (TL.KR.int _ _) ?_)
  (case r6=>repeat first|exact TL.KRs.nil|refine TL.KRs.cons (TL.KR.str _ _) ?_|refine TL.KRs.cons (TL.KR.int _ _) ?_)
  (case r7=>repeat first|exact TL.KRs.nil|refine TL.KRs.cons (TL.KR.str _ _) ?_|refine TL.KRs.cons (TL.KR.int _ _) ?_))
 (case d1_STEP_PARTS=>k_is)
 (case d2_STEP_PARTS=>k_is)
 (case d3_STEP_PARTS=>decide)
 (case d5_STEP_PARTS=>decide +kernel)
 (case d4_STEP_PARTS =>
  refine' (TL.Ents.cons (TL.KR.tupI ?l9 ?m9 ?r9) (TL.Ents.cons (TL.KR.tupI ?l8 ?m8 ?r8) (TL.Ents.cons (TL.KR.tupI ?l7 ?m7 ?r7) (TL.Ents.cons (TL.KR.tupI ?l6 ?m6 ?r6) (TL.Ents.cons (TL.KR.tupI ?l5 ?m5 ?r5) (TL.Ents.cons (TL.KR.tupI ?l4 ?m4 ?r4) (TL.Ents.cons (TL.KR.tupI ?l3 ?m3 ?r3) (TL.Ents.cons (TL.KR.tupI ?l2 ?m2 ?r2) (TL.Ents.cons (TL.KR.tupI ?l1 ?m1 ?r1) (TL.Ents.cons (TL.KR.tupI ?l0 ?m0 ?r0) TL.Ents.nil))))))))))
  (case l0=>k_is)
  (case l1=>k_is)
  (case l2=>k_is)
  (case l3=>k_is)
  (case l4=>k_is)
  (case l5=>k_is)
  (case l6=>k_is)
  (case l7=>k_is)
  (case l8=>k_is)
  (case l9=>k_is)
  (case m0=>decide)
  (case m1=>decide)
  (case m2=>decide)
  (case m3=>decide)
  (case m4=>decide)
  (case m5=>decide)
  (case m6=>decide)
  (case m7=>decide)
  (case m8=>decide)
  (case m9=>decide)
  (case r0=>repeat first|exact TL.KRs.nil|refine TL.KRs.cons (TL.KR.str _ _) ?_|refine TL.KRs.cons (TL.KR.int _ _) ?_)
  (case r1=>repeat first|exact TL.KRs.nil|refine TL.KRs.cons (TL.KR.str _ _) ?_|refine TL.KRs.cons (TL.KR.int _ _) ?_)
  (case r2=>repeat first|exact TL.KRs.nil|refine TL.KRs.cons (TL.KR.str _ _) ?_|refine TL.KRs.cons (TL.KR.int _ _) ?_)
  (case r3=>repeat first|exact TL.KRs.nil|refine TL.KRs.cons (TL.KR.str _ _) ?_|refine TL.KRs.cons (TL.KR.int _ _) ?_)
  (case r4=>repeat first|exact TL.KRs.nil|refine TL.KRs.cons (TL.KR.str _ _) ?_|refine TL.KRs.cons (TL.KR.int _ _) ?_)
  (case r5=>repeat first|exact TL.KRs.nil|refine TL.KRs.cons (TL.KR.str _ _) ?_|refine TL.KRs.cons (TL.KR.int _ _) ?_)
  (case r6=>repeat first|exact TL.KRs.nil|refine TL.KRs.cons (TL.KR.str _ _) ?_|refine TL.KRs.cons (TL.KR.int _ _) ?_)
  (case r7=>repeat first|exact TL.KRs.nil|refine TL.KRs.cons (TL.KR.str _ _) ?_|refine TL.KRs.cons (TL.KR.int _ _) ?_)
  (case r8=>repeat first|exact TL.KRs.nil|refine TL.KRs.cons (TL.KR.str _ _) ?_|refine TL.KRs.cons (TL.KR.int _ _) ?_)
  (case r9=>repeat first|exact TL.KRs.nil|refine TL.KRs.cons (TL.KR.str _ _) ?_|refine TL.KRs.cons (TL.KR.int _ _) ?_))
 (case d1_ROW_PARTS=>k_is)
 (case d2_ROW_PARTS=>k_is)
 (case d3_ROW_PARTS=>decide)
 (case d5_ROW_PARTS=>decide +kernel)
 (case d4_ROW_PARTS =>
  refine' (TL.Ents.cons (TL.KR.tupI ?l8 ?m8 ?r8) (TL.Ents.cons (TL.KR.tupI ?l7 ?m7 ?r7) (TL.Ents.cons (TL.KR.tupI ?l6 ?m6 ?r6) (TL.Ents.cons (TL.KR.tupI ?l5 ?m5 ?r5) (TL.Ents.cons (TL.KR.tupI ?l4 ?m4 ?r4) (TL.Ents.cons (TL.KR.tupI ?l3 ?m3 ?r3) (TL.Ents.cons (TL.KR.tupI ?l2 ?m2 ?r2) (TL.Ents.cons (TL.KR.tupI ?l1 ?m1 ?r1) (TL.Ents.cons (TL.KR.tupI ?l0 ?m0 ?r0) TL.Ents.nil)))))))))
  (case l0=>k_is)
  (case l1=>k_is)
  (case l2=>k_is)
  (case l3=>k_is)
  (case l4=>k_is)
  (case l5=>k_is)
  (case l6=>k_is)
  (case l7=>k_is)
  (case l8=>k_is)
  (case m0=>decide)
  (case m1=>decide)
  (case m2=>decide)
  (case m3=>decide)
  (case m4=>decide)
  (case m5=>decide)
  (case m6=>decide)
  (case m7=>decide)
  (case m8=>decide)
  (case r0=>repeat first|exact TL.KRs.nil|refine TL.KRs.cons (TL.KR.str _ _) ?_|refine TL.KRs.cons (TL.KR.int _ _) ?_)
  (case r1=>repeat first|exact TL.KRs.nil|refine TL.KRs.cons (TL.KR.str _ _) ?_|refine TL.KRs.cons (TL.KR.int _ _) ?_)
  (case r2=>repeat first|exact TL.KRs.nil|refine TL.KRs.cons (TL.KR.str _ _) ?_|refine TL.KRs.cons (TL.KR.int _ _) ?_)
  (case r3=>repeat first|exact TL.KRs.nil|refine TL.KRs.cons (TL.KR.str _ _) ?_|refine TL.KRs.cons (TL.KR.int _ _) ?_)
  (case r4=>repeat first|exact TL.KRs.nil|refine TL.KRs.cons (TL.KR.str _ _) ?_|refine TL.KRs.cons (TL.KR.int _ _) ?_)
  (case r5=>repeat first|exact TL.KRs.nil|refine TL.KRs.cons (TL.KR.str _ _) ?_|refine TL.KRs.cons (TL.KR.int _ _) ?_)
  (case r6=>repeat first|exact TL.KRs.nil|refine TL.KRs.cons (TL.KR.str _ _) ?_|refine TL.KRs.cons (TL.KR.int _ _) ?_)
  (case r7=>repeat first|exact TL.KRs.nil|refine TL.KRs.cons (TL.KR.str _ _) ?_|refine TL.KRs.cons (TL.KR.int _ _) ?_)
  (case r8=>repeat first|exact TL.KRs.nil|refine TL.KRs.cons (TL.KR.str _ _) ?_|refine TL.KRs.cons (TL.KR.int _ _) ?_))
set_option maxRecDepth 100000 in
set_option maxHeartbeats 0 in
theorem K14.dfs_ok(w:World)(mg:Str->Option Value)(h:Heap)(KX:(K14.pre.heap_1 w.params).In h)(G:h.Ns mainGlobals mg)(nm:K14.Nm PySem.Challenge.rw_loomlook_k14_whole_again.prog w (L2.KOf KX) mg):K14.Dfs (L2.KOf KX) mg:=by
 dsimp only [L2.KOf]
 refine' ⟨TL.Zk KX G ?a0 ?l0 ?c0 ?k0 (fun _ _ _ _ _ _ us hl=>match us,hl with|[_],_=>rfl),TL.Zk KX G ?a1 ?l1 ?c1 ?k1 (fun _ _ _ _ _ _ us hl=>match us,hl with|[_,_],_=>rfl),TL.Zk KX G ?a2 ?l2 ?c2 ?k2 (fun _ _ _ _ _ _ us hl=>match us,hl with|[_,_,_],_=>rfl),TL.Zk KX G ?a3 ?l3 ?c3 ?k3 (fun _ _ _ _ _ _ us hl=>match us,hl with|[_],_=>rfl),TL.Zk KX G ?a4 ?l4 ?c4 ?k4 (fun _ _ _ _ _ _ us hl=>match us,hl with|[_,_,_],_=>rfl),TL.Zk KX G ?a5 ?l5 ?c5 ?k5 (fun _ _ _ _ _ _ us hl=>match us,hl with|[_,_,_,_],_=>rfl),TL.Zk KX G ?a6 ?l6 ?c6 ?k6 (fun _ _ _ _ _ _ us hl=>match us,hl with|[_,_,_,_,_],_=>rfl),TL.Zk KX G ?a7 ?l7 ?c7 ?k7 (fun _ _ _ _ _ _ us hl=>match us,hl with|[_,_,_,_,_],_=>rfl),TL.Zk KX G ?a8 ?l8 ?c8 ?k8 (fun _ _ _ _ _ _ us hl=>match us,hl with|[_,_,_,_,_,_],_=>rfl),TL.Zk KX G ?a9 ?l9 ?c9 ?k9 (fun _ _ _ _ _ _ us hl=>match us,hl with|[_,_,_,_,_,_],_=>rfl),TL.Zk KX G ?a10 ?l10 ?c10 ?k10 (fun _ _ _ _ _ _ us hl=>match us,hl with|[_,_,_,_,_,_],_=>rfl),TL.Zk KX G ?a11 ?l11 ?c11 ?k11 (fun _ _ _ _ _ _ us hl=>match us,hl with|[_,_,_],_=>rfl),TL.Zk KX G ?a12 ?l12 ?c12 ?k12 (fun _ _ _ _ _ _ us hl=>match us,hl with|[_],_=>rfl),TL.Zk KX G ?a13 ?l13 ?c13 ?k13 (fun _ _ _ _ _ _ us hl=>match us,hl with|[_],_=>rfl),TL.Zk KX G ?a14 ?l14 ?c14 ?k14 (fun _ _ _ _ _ _ us hl=>match us,hl with|[_,_,_],_=>rfl),TL.Zk KX G ?a15 ?l15 ?c15 ?k15 (fun _ _ _ _ _ _ us hl=>match us,hl with|[_,_],_=>rfl),TL.Zk KX G ?a16 ?l16 ?c16 ?k16 (fun _ _ _ _ _ _ us hl=>match us,hl with|[_,_],_=>rfl),TL.Zk KX G ?a17 ?l17 ?c17 ?k17 (fun _ _ _ _ _ _ us hl=>match us,hl with|[_,_],_=>rfl),TL.Zk KX G ?a18 ?l18 ?c18 ?k18 (fun _ _ _ _ _ _ us hl=>match us,hl with|[_,_],_=>rfl),TL.Zk KX G ?a19 ?l19 ?c19 ?k19 (fun _ _ _ _ _ _ us hl=>match us,hl with|[_,_],_=>rfl),TL.Zk KX G ?a20 ?l20 ?c20 ?k20 (fun _ _ _ _ _ _ us hl=>match us,hl with|[_,_,_],_=>rfl),TL.Zk KX G ?a21 ?l21 ?c21 ?k21 (fun _ _ _ _ _ _ us hl=>match us,hl with|[_,_],_=>rfl),TL.Zk KX G ?a22 ?l22 ?c22 ?k22 (fun _ _ _ _ _ _ us hl=>match us,hl with|[_],_=>rfl),TL.Zk KX G ?a23 ?l23 ?c23 ?k23 (fun _ _ _ _ _ _ us hl=>match us,hl with|[_,_],_=>rfl),TL.Zk KX G ?a24 ?l24 ?c24 ?k24 (fun _ _ _ _ _ _ us hl=>match us,hl with|[_],_=>rfl),TL.Zk KX G ?a25 ?l25 ?c25 ?k25 (fun _ _ _ _ _ _ us hl=>match us,hl with|[_],_=>rfl),TL.Zk KX G ?a26 ?l26 ?c26 ?k26 (fun _ _ _ _ _ _ us hl=>match us,hl with|[_],_=>rfl),TL.Zk KX G ?a27 ?l27 ?c27 ?k27 (fun _ _ _ _ _ _ us hl=>match us,hl with|[_],_=>rfl),TL.Zk KX G ?a28 ?l28 ?c28 ?k28 (fun _ _ _ _ _ _ us hl=>match us,hl with|[_],_=>rfl),TL.Zk KX G ?a29 ?l29 ?c29 ?k29 (fun _ _ _ _ _ _ us hl=>match us,hl with|[_],_=>rfl),TL.Zk KX G ?a30 ?l30 ?c30 ?k30 (fun _ _ _ _ _ _ us hl=>match us,hl with|[_],_=>rfl),TL.Zk KX G ?a31 ?l31 ?c31 ?k31 (fun _ _ _ _ _ _ us hl=>match us,hl with|[_],_=>rfl),TL.Zk KX G ?a32 ?l32 ?c32 ?k32 (fun _ _ _ _ _ _ us hl=>match us,hl with|[_],_=>rfl),TL.Zk KX G ?a33 ?l33 ?c33 ?k33 (fun _ _ _ _ _ _ us hl=>match us,hl with|[_,_],_=>rfl),TL.Zk KX G ?a34 ?l34 ?c34 ?k34 (fun _ _ _ _ _ _ us hl=>match us,hl with|[_],_=>rfl),TL.Zk KX G ?a35 ?l35 ?c35 ?k35 (fun _ _ _ _ _ _ us hl=>match us,hl with|[_],_=>rfl),TL.Zk KX G ?a36 ?l36 ?c36 ?k36 (fun _ _ _ _ _ _ us hl=>match us,hl with|[_],_=>rfl),TL.Zk KX G ?a37 ?l37 ?c37 ?k37 (fun _ _ _ _ _ _ us hl=>match us,hl with|[_],_=>rfl),TL.Zk KX G ?a38 ?l38 ?c38 ?k38 (fun _ _ _ _ _ _ us hl=>match us,hl with|[_],_=>rfl),TL.Zk KX G ?a39 ?l39 ?c39 ?k39 (fun _ _ _ _ _ _ us hl=>match us,hl with|[_,_],_=>rfl),TL.Zk KX G ?a40 ?l40 ?c40 ?k40 (fun _ _ _ _ _ _ us hl=>match us,hl with|[_,_],_=>rfl),TL.Zk KX G ?a41 ?l41 ?c41 ?k41 (fun _ _ _ _ _ _ us hl=>match us,hl with|[_,_],_=>rfl),TL.Zk KX G ?a42 ?l42 ?c42 ?k42 (fun _ _ _ _ _ _ us hl=>match us,hl with|[_,_],_=>rfl),TL.Zk KX G ?a43 ?l43 ?c43 ?k43 (fun _ _ _ _ _ _ us hl=>match us,hl with|[_,_],_=>rfl),TL.Zk KX G ?a44 ?l44 ?c44 ?k44 (fun _ _ _ _ _ _ us hl=>match us,hl with|[_,_,_,_],_=>rfl),TL.Zk KX G ?a45 ?l45 ?c45 ?k45 (fun _ _ _ _ _ _ us hl=>match us,hl with|[_,_,_,_,_],_=>rfl),TL.Zk KX G ?a46 ?l46 ?c46 ?k46 (fun _ _ _ _ _ _ us hl=>match us,hl with|[_],_=>rfl),TL.Zk KX G ?a47 ?l47 ?c47 ?k47 (fun _ _ _ _ _ _ us hl=>match us,hl with|[_],_=>rfl),TL.Zk KX G ?a48 ?l48 ?c48 ?k48 (fun _ _ _ _ _ _ us hl=>match us,hl with|[_,_],_=>rfl),TL.Zk KX G ?a49 ?l49 ?c49 ?k49 (fun _ _ _ _ _ _ us hl=>match us,hl with|[_,_],_=>rfl),TL.Zk KX G ?a50 ?l50 ?c50 ?k50 (fun _ _ _ _ _ _ us hl=>match us,hl with|[_],_=>rfl),TL.Zk KX G ?a51 ?l51 ?c51 ?k51 (fun _ _ _ _ _ _ us hl=>match us,hl with|[_,_,_],_=>rfl),TL.Zy KX G ?a52 ?b52 ?i52 ?l52 ?c52 ?k52 nm.Feed_cls (fun _ _ _ _ _ _ us hl=>match us,hl with|[_],_=>rfl),TL.Zy KX G ?a53 ?b53 ?i53 ?l53 ?c53 ?k53 nm.Feed_cls (fun _ _ _ _ _ _ us hl=>match us,hl with|[_],_=>rfl),TL.Zy KX G ?a54 ?b54 ?i54 ?l54 ?c54 ?k54 nm.Feed_cls (fun _ _ _ _ _ _ us hl=>match us,hl with|[_],_=>rfl),TL.N6 KX G ?a55 ?b55 ?i55 ?l55 ?c55 ?k55 ?m55 ?n55 (fun _ _ _ _ _ _ us hl=>match us,hl with|[_,_],_=>rfl)⟩
 case a0|l0|c0|k0|a1|l1|c1|k1|a2|l2|c2|k2|a3|l3|c3|k3|a4|l4|c4|k4|a5|l5|c5|k5|a6|l6|c6|k6|a7|l7|c7|k7|a8|l8|c8|k8|a9|l9|c9|k9|a10|l10|c10|k10|a11|l11|c11|k11|a12|l12|c12|k12|a13|l13|c13|k13|a14|l14|c14|k14|a15|l15|c15|k15|a16|l16|c16|k16|a17|l17|c17|k17|a18|l18|c18|k18|a19|l19|c19|k19|a20|l20|c20|k20|a21|l21|c21|k21|a22|l22|c22|k22|a23|l23|c23|k23|a24|l24|c24|k24|a25|l25|c25|k25|a26|l26|c26|k26|a27|l27|c27|k27|a28|l28|c28|k28|a29|l29|c29|k29|a30|l30|c30|k30|a31|l31|c31|k31|a32|l32|c32|k32|a33|l33|c33|k33|a34|l34|c34|k34|a35|l35|c35|k35|a36|l36|c36|k36|a37|l37|c37|k37|a38|l38|c38|k38|a39|l39|c39|k39|a40|l40|c40|k40|a41|l41|c41|k41|a42|l42|c42|k42|a43|l43|c43|k43|a44|l44|c44|k44|a45|l45|c45|k45|a46|l46|c46|k46|a47|l47|c47|k47|a48|l48|c48|k48|a49|l49|c49|k49|a50|l50|c50|k50|a51|l51|c51|k51|a52|b52|i52|l52|c52|k52|a53|b53|i53|l53|c53|k53|a54|b54|i54|l54|c54|k54|a55|b55|i55|l55|c55|k55|m55|n55=>k_is
set_option maxRecDepth 100000 in
set_option maxHeartbeats 0 in
theorem PySem.Challenge.cw_loomlook_k14_whole_again_holds : PySem.Challenge.rw_loomlook_k14_whole_again.Holds := by
  refine holds_law K14.ws fun said=>?_
  refine holds_open (q:=K14.qq) (loose:=K14.lz) (Xt:=K14.xt) (XP:=XL K14.qq []) (Yf:=Hook.obs (kHook K14.pre.heap_1 K14.az K14.Fq)) (Ya:=Hook.val (kHook K14.pre.heap_1 K14.az K14.Fq)) (YP:=Hook.says (kHook K14.pre.heap_1 K14.az K14.Fq)) (N:=9000) (TL.Q3 K14.left1 (TL.Dy "special-get-raises" K14.k0 K14.k1)) (Hook.of (kHook K14.pre.heap_1 K14.az K14.Fq)) (Hook.keeps (kHook K14.pre.heap_1 K14.az K14.Fq)) (fun s e=>xl_of s (Bool.and_eq_true_iff.mp e).1) XL.keeps (by rfl) (by rfl) (by rfl) (fun s e=>recFacts_of (Bool.and_eq_true_iff.mp e).2) (by rfl) (by assumption) (by decide +kernel) ⟨rfl,rfl,rfl,rfl,rfl,by decide +kernel⟩ ?hw ?hc
  (case hw=>w_witness2)
  k_fill
  refine L2.Wg (l:=PySem.Challenge.rw_loomlook_k14_whole_again) (n:=63) (k:=40) (x:="_law_script") (CX:=L2.CX0) (sp:=fun K=>TL.spU K K14.cLaw) rfl (by decide) rfl ⟨rfl,by decide,by decide⟩ (fun w h Y=>PySem.W.kIn_of Y) ?F ?S ?C
  case S=>exact fun K H a ns hl hO hS=>TL.Q2 hO hS ⟨ns,rfl,fun _=>rfl⟩
  case C=>exact fun _ _ _ _ z=>z
  case F =>
    intro w mg fa h KX G hmg
    have nm:=K14.nm_ok w mg h KX G
    have D:=K14.dfs_ok w mg h KX G nm
    have lw:TL.Aa (L2.KOf KX) mg "law" ["_law_script"] (K14.top 88):=by
      dsimp only [L2.KOf]
      refine' TL.Zk KX G ?a1 ?l1 ?c1 ?k1 (fun _ _ _ _ _ _ us hl=>match us,hl with | [_],_=>rfl)
      (case a1=>k_is);(case l1=>k_is);(case c1=>k_is);(case k1=>k_is)
    obtain ⟨f,fd,F,b,hm⟩:=lw
    have e:=hmg.symm.trans hm
    cases e
    obtain ⟨oc,od,kV,doc,pm,an,cdv,ct,osl,rfl,_⟩:=F.ex
    exact ⟨_,fun s u=>.of_eq rfl,fun base _ _=>K14.Act nm D F⟩
end

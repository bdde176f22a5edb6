import PyProof.Rows.All
import Wide.All
import Wide.FinOn
import KE.KDictOf
import KE.KFromBytes
import KE.KToBytes
import KE.KIntText
import KE.KIsAll
import KE.KItemsList
import KE.KPassesOwn
import KE.KStrWords
import KE.KTryDeep
import OpenK.ZHead
import KE.KEqDict
import KE.KMinKey
import KE.KUnpack
import PySem.Challenge.RW_loomlook_k52_kept
set_option Elab.async false
set_option linter.all false
section
open PySem PySem.W PyProof.Rows
set_option maxRecDepth 100000
set_option maxHeartbeats 0
section
local macro_rules | `(tactic| o_head $H)=>`(tactic| (have hk:=$H;assumption))
set_option maxHeartbeats 0 in
theorem K52.pre(h:PySem.Challenge.rw_loomlook_k52_kept.row.Holds):PySem.Challenge.rw_loomlook_k52_kept.row.Holds:=by
 k_head
end
namespace K52
set_option maxHeartbeats 0 in
theorem ws:PySem.Challenge.rw_loomlook_k52_kept.wellSaid=true:=by kernel_rfl
abbrev pp:Program:=PySem.Challenge.rw_loomlook_k52_kept.prog
abbrev qq:Program:=view pp ((List.range 54).filter fun i=>!([1,4,8,14,16,21,26].contains i))
abbrev rr:=OpenRow.toRowW PySem.Challenge.rw_loomlook_k52_kept.row
abbrev lz:List Str:=["STEP_PARTS","TOUCHES"]
abbrev lw:List Str:=["STEP_PARTS","TOUCHES","SHARED_WAYS"]
abbrev xt(s:Shared):Bool:=xlAt qq [] s&&recOk (RowW.records rr) s
abbrev sn(s:Shared):=openSeen qq lz (importedModules pp.main.body) xt true s
set_option maxHeartbeats 0 in
theorem l0_0(w:World):(fencedOpening treeTable pp w 9000).map (fun s₀=>(topFrom treeTable pp (w.withFollow "special-get-raises" false) 9000 s₀).map fun s=>((sn s).1,(sn s).2.2.2.2.2.2.2.2))=some (some (expectedOf qq,clsGoodW qq lz)):=by
 unfold sn
 unfold fencedOpening topFrom topStub staticsOk namesBound laidKept
 rw[PySem.W.Fast.te10274390034422433532,PySem.W.Fast.te1435165496053646825,PySem.W.Fast.te14289696077712309145,PySem.W.Fast.te14082659384304107361,PySem.W.Fast.te14364793385576792824,PySem.W.Fast.te8920871248978507458,PySem.W.Fast.te17154629097778926822,PySem.W.Fast.te12822647523644345616,PySem.W.Fast.te6905046200447255374,PySem.W.Fast.te4857012375875476094,PySem.W.Fast.te1584917186373303978,PySem.W.Fast.te14846217769314788766,PySem.W.Fast.te5923862056798008813,PySem.W.Fast.te12749700546528644094,PySem.W.Fast.te18344453789297297638,PySem.W.Fast.te12456147031677567982,PySem.W.Fast.te4187177175401517315]
 kernel_rfl
set_option maxHeartbeats 0 in
theorem l0_1(w:World):(fencedOpening treeTable pp w 9000).map (fun s₀=>(topFrom treeTable pp (w.withFollow "special-get-raises" false) 9000 s₀).map fun s=>((sn s).2.2.1))=some (some (true)):=by
 unfold sn
 unfold fencedOpening topFrom topStub staticsOk namesBound laidKept
 rw[PySem.W.Fast.te10274390034422433532,PySem.W.Fast.te1435165496053646825,PySem.W.Fast.te14289696077712309145,PySem.W.Fast.te14082659384304107361,PySem.W.Fast.te14364793385576792824,PySem.W.Fast.te8920871248978507458,PySem.W.Fast.te17154629097778926822,PySem.W.Fast.te12822647523644345616,PySem.W.Fast.te6905046200447255374,PySem.W.Fast.te4857012375875476094,PySem.W.Fast.te1584917186373303978,PySem.W.Fast.te14846217769314788766,PySem.W.Fast.te5923862056798008813,PySem.W.Fast.te12749700546528644094,PySem.W.Fast.te18344453789297297638,PySem.W.Fast.te12456147031677567982,PySem.W.Fast.te4187177175401517315]
 kernel_rfl
set_option maxHeartbeats 0 in
theorem l0_2(w:World):(fencedOpening treeTable pp w 9000).map (fun s₀=>(topFrom treeTable pp (w.withFollow "special-get-raises" false) 9000 s₀).map fun s=>((sn s).2.1,(sn s).2.2.2.1,(sn s).2.2.2.2.1))=some (some (bltViewBooted,true,pinGoodD (drecsOf qq))):=by
 unfold sn
 unfold fencedOpening topFrom topStub staticsOk namesBound laidKept
 rw[PySem.W.Fast.te10274390034422433532,PySem.W.Fast.te1435165496053646825,PySem.W.Fast.te14289696077712309145,PySem.W.Fast.te14082659384304107361,PySem.W.Fast.te14364793385576792824,PySem.W.Fast.te8920871248978507458,PySem.W.Fast.te17154629097778926822,PySem.W.Fast.te12822647523644345616,PySem.W.Fast.te6905046200447255374,PySem.W.Fast.te4857012375875476094,PySem.W.Fast.te1584917186373303978,PySem.W.Fast.te14846217769314788766,PySem.W.Fast.te5923862056798008813,PySem.W.Fast.te12749700546528644094,PySem.W.Fast.te18344453789297297638,PySem.W.Fast.te12456147031677567982,PySem.W.Fast.te4187177175401517315]
 kernel_rfl
set_option maxHeartbeats 0 in
theorem l0_3(w:World):(fencedOpening treeTable pp w 9000).map (fun s₀=>(topFrom treeTable pp (w.withFollow "special-get-raises" false) 9000 s₀).map fun s=>(plainSeenE qq lw s,(sn s).2.2.2.2.2.2.1,(sn s).2.2.2.2.2.2.2.1))=some (some (plainGoodE qq lw,plainGoodD qq lz,wideGood qq)):=by
 unfold sn
 unfold fencedOpening topFrom topStub staticsOk namesBound laidKept
 rw[PySem.W.Fast.te10274390034422433532,PySem.W.Fast.te1435165496053646825,PySem.W.Fast.te14289696077712309145,PySem.W.Fast.te14082659384304107361,PySem.W.Fast.te14364793385576792824,PySem.W.Fast.te8920871248978507458,PySem.W.Fast.te17154629097778926822,PySem.W.Fast.te12822647523644345616,PySem.W.Fast.te6905046200447255374,PySem.W.Fast.te4857012375875476094,PySem.W.Fast.te1584917186373303978,PySem.W.Fast.te14846217769314788766,PySem.W.Fast.te5923862056798008813,PySem.W.Fast.te12749700546528644094,PySem.W.Fast.te18344453789297297638,PySem.W.Fast.te12456147031677567982,PySem.W.Fast.te4187177175401517315]
 kernel_rfl
set_option maxHeartbeats 0 in
theorem l1_0(w:World):(fencedOpening treeTable pp w 9000).map (fun s₀=>(topFrom treeTable pp (w.withFollow "special-get-raises" true) 9000 s₀).map fun s=>((sn s).1,(sn s).2.2.2.2.2.2.2.2))=some (some (expectedOf qq,clsGoodW qq lz)):=by
 unfold sn
 unfold fencedOpening topFrom topStub staticsOk namesBound laidKept
 rw[PySem.W.Fast.te10274390034422433532,PySem.W.Fast.te1435165496053646825,PySem.W.Fast.te14289696077712309145,PySem.W.Fast.te14082659384304107361,PySem.W.Fast.te14364793385576792824,PySem.W.Fast.te8920871248978507458,PySem.W.Fast.te17154629097778926822,PySem.W.Fast.te12822647523644345616,PySem.W.Fast.te6905046200447255374,PySem.W.Fast.te4857012375875476094,PySem.W.Fast.te1584917186373303978,PySem.W.Fast.te14846217769314788766,PySem.W.Fast.te5923862056798008813,PySem.W.Fast.te12749700546528644094,PySem.W.Fast.te18344453789297297638,PySem.W.Fast.te12456147031677567982,PySem.W.Fast.te4187177175401517315]
 kernel_rfl
set_option maxHeartbeats 0 in
theorem l1_1(w:World):(fencedOpening treeTable pp w 9000).map (fun s₀=>(topFrom treeTable pp (w.withFollow "special-get-raises" true) 9000 s₀).map fun s=>((sn s).2.2.1))=some (some (true)):=by
 unfold sn
 unfold fencedOpening topFrom topStub staticsOk namesBound laidKept
 rw[PySem.W.Fast.te10274390034422433532,PySem.W.Fast.te1435165496053646825,PySem.W.Fast.te14289696077712309145,PySem.W.Fast.te14082659384304107361,PySem.W.Fast.te14364793385576792824,PySem.W.Fast.te8920871248978507458,PySem.W.Fast.te17154629097778926822,PySem.W.Fast.te12822647523644345616,PySem.W.Fast.te6905046200447255374,PySem.W.Fast.te4857012375875476094,PySem.W.Fast.te1584917186373303978,PySem.W.Fast.te14846217769314788766,PySem.W.Fast.te5923862056798008813,PySem.W.Fast.te12749700546528644094,PySem.W.Fast.te18344453789297297638,PySem.W.Fast.te12456147031677567982,PySem.W.Fast.te4187177175401517315]
 kernel_rfl
set_option maxHeartbeats 0 in
theorem l1_2(w:World):(fencedOpening treeTable pp w 9000).map (fun s₀=>(topFrom treeTable pp (w.withFollow "special-get-raises" true) 9000 s₀).map fun s=>((sn s).2.1,(sn s).2.2.2.1,(sn s).2.2.2.2.1))=some (some (bltViewBooted,true,pinGoodD (drecsOf qq))):=by
 unfold sn
 unfold fencedOpening topFrom topStub staticsOk namesBound laidKept
 rw[PySem.W.Fast.te10274390034422433532,PySem.W.Fast.te1435165496053646825,PySem.W.Fast.te14289696077712309145,PySem.W.Fast.te14082659384304107361,PySem.W.Fast.te14364793385576792824,PySem.W.Fast.te8920871248978507458,PySem.W.Fast.te17154629097778926822,PySem.W.Fast.te12822647523644345616,PySem.W.Fast.te6905046200447255374,PySem.W.Fast.te4857012375875476094,PySem.W.Fast.te1584917186373303978,PySem.W.Fast.te14846217769314788766,PySem.W.Fast.te5923862056798008813,PySem.W.Fast.te12749700546528644094,PySem.W.Fast.te18344453789297297638,PySem.W.Fast.te12456147031677567982,PySem.W.Fast.te4187177175401517315]
 kernel_rfl
set_option maxHeartbeats 0 in
theorem l1_3(w:World):(fencedOpening treeTable pp w 9000).map (fun s₀=>(topFrom treeTable pp (w.withFollow "special-get-raises" true) 9000 s₀).map fun s=>(plainSeenE qq lw s,(sn s).2.2.2.2.2.2.1,(sn s).2.2.2.2.2.2.2.1))=some (some (plainGoodE qq lw,plainGoodD qq lz,wideGood qq)):=by
 unfold sn
 unfold fencedOpening topFrom topStub staticsOk namesBound laidKept
 rw[PySem.W.Fast.te10274390034422433532,PySem.W.Fast.te1435165496053646825,PySem.W.Fast.te14289696077712309145,PySem.W.Fast.te14082659384304107361,PySem.W.Fast.te14364793385576792824,PySem.W.Fast.te8920871248978507458,PySem.W.Fast.te17154629097778926822,PySem.W.Fast.te12822647523644345616,PySem.W.Fast.te6905046200447255374,PySem.W.Fast.te4857012375875476094,PySem.W.Fast.te1584917186373303978,PySem.W.Fast.te14846217769314788766,PySem.W.Fast.te5923862056798008813,PySem.W.Fast.te12749700546528644094,PySem.W.Fast.te18344453789297297638,PySem.W.Fast.te12456147031677567982,PySem.W.Fast.te4187177175401517315]
 kernel_rfl
theorem hz:looseW qq lz=lw:=by kernel_rfl
abbrev az:List Addr:=[2,3,15,17,18,20,21,22,29,30,31,32,35,42,43,44,47,49,50,52,53,54,56,57,59,60,61,63,64,66,67,68,69,70,71,72,73,74,75,76,77,78,79,80,81,82,83,84,85,86,87,89,90,92,93,94,96,97,99,100,101,104,105,113,116,117,118,120,121,123,124,125,128,129,130,132,133,135,136,137,139,140,142,143,144,146,147,149,150,151,153,154,156,157,158,160,161,163,164,165,167,168,170,171,172,174,175,177,178,179,181,182,184,185,186,188,189,191,192,193,195,196,198,199,200,202,203,205,206,207,209,210,212,213,214,216,217,219,220,221,222,223,224,225,228,230,231,233,234,235,237,238,240,241,249,251,252,254,255,256,258,259,261,262,263,265,266,268,269,270,273,274,275,278,279,280,282,283,285,286,287,289,290,292,293,294,297,298,299,300,301,302,303,306,309,310,311,313,314,316,317,318,320,321,323,324,325,327,328,330,331,332,334,335,337,338,339,341,342,344,345,346,349,350,351,353,354,356,357,358,360,361,363,364,365,368,369,370,373,374,375,378,379,380,382,383,385,386,387,390,391,392,394,395,397,398,399,402,403,404,406,407,409,410,411,413,414,416,417,418,421,422,423,426,427,435,437,438,440,441,442,444,445,447,448,449,451,452,454,455,456,458,459,461,462,463,465,466,468,469,470,473,474,475,477,478,480,481,482,484,485,487,488]
theorem Dy:∀P,az=(pre.heap_1 P).map (·.1):=fun _=>by kernel_rfl
set_option maxHeartbeats 0 in
theorem k0(w:World):(fencedOpening treeTable pp w 9000).map (fun s₀=>(topFrom treeTable pp (w.withFollow "special-get-raises" false) 9000 s₀).map (Hook.obs (kHook K52.pre.heap_1 K52.az K52.Dy)))=some (some (Hook.val (kHook K52.pre.heap_1 K52.az K52.Dy) (w.withFollow "special-get-raises" false))):=by
 dsimp only [kHook]
 unfold fencedOpening topFrom topStub staticsOk namesBound laidKept
 rw[PySem.W.Fast.te10274390034422433532,PySem.W.Fast.te1435165496053646825,PySem.W.Fast.te14289696077712309145,PySem.W.Fast.te14082659384304107361,PySem.W.Fast.te14364793385576792824,PySem.W.Fast.te8920871248978507458,PySem.W.Fast.te17154629097778926822,PySem.W.Fast.te12822647523644345616,PySem.W.Fast.te6905046200447255374,PySem.W.Fast.te4857012375875476094,PySem.W.Fast.te1584917186373303978,PySem.W.Fast.te14846217769314788766,PySem.W.Fast.te5923862056798008813,PySem.W.Fast.te12749700546528644094,PySem.W.Fast.te18344453789297297638,PySem.W.Fast.te12456147031677567982]
 kernel_rfl
set_option maxHeartbeats 0 in
theorem k1(w:World):(fencedOpening treeTable pp w 9000).map (fun s₀=>(topFrom treeTable pp (w.withFollow "special-get-raises" true) 9000 s₀).map (Hook.obs (kHook K52.pre.heap_1 K52.az K52.Dy)))=some (some (Hook.val (kHook K52.pre.heap_1 K52.az K52.Dy) (w.withFollow "special-get-raises" true))):=by
 dsimp only [kHook]
 unfold fencedOpening topFrom topStub staticsOk namesBound laidKept
 rw[PySem.W.Fast.te10274390034422433532,PySem.W.Fast.te1435165496053646825,PySem.W.Fast.te14289696077712309145,PySem.W.Fast.te14082659384304107361,PySem.W.Fast.te14364793385576792824,PySem.W.Fast.te8920871248978507458,PySem.W.Fast.te17154629097778926822,PySem.W.Fast.te12822647523644345616,PySem.W.Fast.te6905046200447255374,PySem.W.Fast.te4857012375875476094,PySem.W.Fast.te1584917186373303978,PySem.W.Fast.te14846217769314788766,PySem.W.Fast.te5923862056798008813,PySem.W.Fast.te12749700546528644094,PySem.W.Fast.te18344453789297297638,PySem.W.Fast.te12456147031677567982]
 kernel_rfl
end K52
end
set_option Elab.async false
set_option linter.all false
set_option maxRecDepth 100000
set_option maxHeartbeats 4000000
section
namespace L2
open PySem PySem.Spec PyProof.Rows
abbrev Key:=Sum Int Str
def G1:Key->Value->Bool
 | .inl k,v=>Value.isInt k v
 | .inr x,v=>Value.isStrOf x v
def keyH(w:World):Key->Int
 | .inl k=>hashInt k
 | .inr x=>hashStr w x
theorem keyIs_shape:∀{k:Key} {v:Value},G1 k v=true->(∃i t,k=Sum.inl i/\v=Value.int i t)\/(∃x t,k=Sum.inr x/\v=Value.str x t)
 | .inl i,v,h=>by
  obtain⟨t,e⟩:=Value.isInt_shape (k:=i) (v:=v) h
  exact .inl ⟨i,t,rfl,e⟩
 | .inr x,v,h=>by
  obtain⟨t,e⟩:=Value.isStrOf_shape (x:=x) (v:=v) h
  exact .inr ⟨x,t,rfl,e⟩
theorem Nv(i:Int)(t:Tok):G1 (.inl i) (.int i t)=true:=by simp[G1,Value.isInt]
theorem N5(x:Str)(t:Tok):G1 (.inr x) (.str x t)=true:=by simp[G1,Value.isStrOf]
theorem W7(a b:Int):decide ((Sum.inl a:Key)=Sum.inl b)=(a==b):=by
 by_cases e:a=b
 ·subst e;simp
 ·have h:¬ (Sum.inl a:Key)=Sum.inl b:=fun q=>e (Sum.inl.inj q)
  rw[decide_eq_false h]
  exact(beq_eq_false_iff_ne.mpr e).symm
theorem Yg(a b:Str):decide ((Sum.inr a:Key)=Sum.inr b)=decide (a=b):=by
 by_cases e:a=b
 ·subst e;simp
 ·have h:¬ (Sum.inr a:Key)=Sum.inr b:=fun q=>e (Sum.inr.inj q)
  rw[decide_eq_false h,decide_eq_false e]
theorem Yh(a:Int)(b:Str):decide ((Sum.inl a:Key)=Sum.inr b)=false:=decide_eq_false (fun q=>nomatch q)
theorem Yx(a:Str)(b:Int):decide ((Sum.inr a:Key)=Sum.inl b)=false:=decide_eq_false (fun q=>nomatch q)
def mixKind(prog:Program)(w:World):PySem.KeyKind prog w Key where
 is:=G1
 hash:=keyH w
 inj:=fun v a b ha hb=>by
  rcases keyIs_shape ha with⟨i,t,rfl,rfl⟩|⟨x,t,rfl,rfl⟩
  ·rcases keyIs_shape hb with⟨j,u,rfl,e⟩|⟨y,u,rfl,e⟩
   ·injection e with e1 _;rw[e1]
   ·exact nomatch e
  ·rcases keyIs_shape hb with⟨j,u,rfl,e⟩|⟨y,u,rfl,e⟩
   ·exact nomatch e
   ·injection e with e1 _;rw[e1]
 byValue:=fun k v h=>by
  rcases keyIs_shape h with⟨i,t,rfl,rfl⟩|⟨x,t,rfl,rfl⟩ <;> rfl
 pyHash:=fun hv h=>by
  rcases keyIs_shape hv with⟨i,t,rfl,rfl⟩|⟨x,t,rfl,rfl⟩
  ·exact wpAny_pyHash_int h
  ·exact wpAny_pyHash_str h
 eqBool:=fun hu hv h=>by
  rcases keyIs_shape hu with⟨i,t,rfl,rfl⟩|⟨x,t,rfl,rfl⟩
  ·rcases keyIs_shape hv with⟨j,u,rfl,rfl⟩|⟨y,u,rfl,rfl⟩
   ·rw[W7] at h;exact wpAny_eqBool_int h
   ·rw[Yh] at h;exact SeqAt.EqAt.int_str i t y u _ _ _ _ h
  ·rcases keyIs_shape hv with⟨j,u,rfl,rfl⟩|⟨y,u,rfl,rfl⟩
   ·rw[Yx] at h;exact SeqAt.EqAt.str_int x t j u _ _ _ _ h
   ·rw[Yg] at h;exact wpAny_eqBool_str h
 «strs»:=fun k x t v h=>by
  rcases keyIs_shape h with⟨i,u,rfl,e⟩|⟨y,u,rfl,e⟩
  ·exact nomatch e
  ·injection e with e1 _
   subst e1
   cases v <;> rfl
theorem Je(prog:Program)(w:World)(i:Int)(t:Tok):(mixKind prog w).is (.inl i) (.int i t)=true:=Nv i t
theorem Cr(prog:Program)(w:World)(x:Str)(t:Tok):(mixKind prog w).is (.inr x) (.str x t)=true:=N5 x t
end L2
namespace L2
open PySem PySem.Spec PyProof.Rows
inductive V where
 |non|bl (b:Bool)|int (i:Int)|str (x:Str)|byt (b:Array UInt8)|flt (b:UInt64)|ref (a:Addr)|ty (n:String)
 deriving DecidableEq
def RelV:V->Value->Prop
 | .non,u=>u=Value.none
 | .bl b,u=>u=Value.bool b
 | .int i,u=>∃t,u=Value.int i t
 | .str x,u=>∃t,u=Value.str x t
 | .byt b,u=>∃t,u=Value.bytes b t
 | .flt b,u=>∃t,u=Value.float b t
 | .ref a,u=>u=Value.ref a
 | .ty n,u=>u=Value.type n
abbrev Vals:List V->List Value->Prop:=Paired RelV
theorem Vals.length{xs:List V}{us:List Value}(r:Vals xs us):xs.length=us.length:=Paired.length r
theorem Vals.get:∀{xs:List V} {us:List Value} {i:Nat} {x:V},Vals xs us->xs[i]?=some x->∃u,us[i]?=some u/\RelV x u
 |_,_,_,_,.nil,e=>by simp at e
 |_,_,0,_,.cons r _,e=>by simp at e;subst e;exact⟨_,rfl,r⟩
 |_,_,i+1,x,.cons _ t,e=>by
  obtain⟨u,h1,h2⟩:=Vals.get (i:=i) (x:=x) t (by simpa using e)
  exact⟨u,by simpa using h1,h2⟩
theorem Vals.set{x:V}{u:Value}(r:RelV x u):∀{xs:List V} {us:List Value} (i:Nat),Vals xs us->Vals (xs.set i x) (us.set i u)
 |_,_,_,.nil=>.nil
 |_,_,0,.cons _ t=>.cons r t
 |_,_,i+1,.cons q t=>.cons q (Vals.set r i t)
theorem Vals.append:∀{xs ys:List V} {us ws:List Value},Vals xs us->Vals ys ws->Vals (xs++ys) (us++ws)
 |_,_,_,_,.nil,s=>s
 |_,_,_,_,.cons r t,s=>.cons r (Vals.append t s)
theorem Vals.take:∀{xs:List V} {us:List Value} (n:Nat),Vals xs us->Vals (xs.take n) (us.take n)
 |_,_,0,_=>.nil
 |_,_,_+1,.nil=>.nil
 |_,_,n+1,.cons r t=>.cons r (Vals.take n t)
theorem Vals.drop:∀{xs:List V} {us:List Value} (n:Nat),Vals xs us->Vals (xs.drop n) (us.drop n)
 |_,_,0,r=>r
 |_,_,_+1,.nil=>.nil
 |_,_,n+1,.cons _ t=>Vals.drop n t
theorem Vals.none_of:∀{xs:List V} {us:List Value} {i:Nat},Vals xs us->xs[i]?=none->us[i]?=none:=fun {xs us i} r e=>by
 have h1:=r.length
 have h2:xs.length<=i:=List.getElem?_eq_none_iff.mp e
 exact List.getElem?_eq_none_iff.mpr (by omega)
def RelO:Option V->Option Value->Prop
 |some v,some u=>RelV v u
 |none,none=>True
 |_,_=>False
def KV{κ:Type}:List (κ×V)->List (κ×Value)->Prop:=Paired fun (p:κ×V) (q:κ×Value)=>p.1=q.1/\RelV p.2 q.2
def kV:Key->V
 | .inl i=>.int i
 | .inr x=>.str x
inductive HO where
  |lst (xs:List V)
  |tup (xs:List V)
  |dK (kvs:List (Key×V))|dT (kvs:List (List Key×V))
  |set (S:Int->Bool) (n:Nat)
  |ins (C dx:Addr) (fs:List (Str×V))
  |own (x:Addr)
  |xd (fs:List (Str×V))
  |met (f x:Addr)
  |rng (lo hi:Int)
  |frz (o:Obj) (u:HO)
  |tbl (ps:Array Value)
  |ext (φ:Heap->Prop)
abbrev Hp:=Addr->Option HO
def upd(H:Hp)(a:Addr)(o:HO):Hp:=fun b=>if b=a then some o else H b
theorem Ak{H:Hp}{a:Addr}{o:HO}:upd H a o a=some o:=by unfold upd;rw[if_pos rfl]
theorem Xc{H:Hp}{a b:Addr}{o:HO}(h:b≠a):upd H a o b=H b:=by unfold upd;rw[if_neg h]
theorem ne_of{H:Hp}{a b:Addr}{o u:HO}(h:H a=some o)(h':H b=some u)(d:o≠u):a≠b:=by
 intro e;subst e;rw[h] at h';exact d (Option.some.inj h')
theorem Xa{H:Hp}{a b:Addr}{o:HO}(h:H a=some o)(h':H b=none):a≠b:=by
 intro e;subst e;rw[h] at h';cases h'
def TupN(h:Heap)(a:Addr)(items:Array Value):Prop:=∃o,h.get? a=some o/\o.cls=.type "tuple"/\(∃n,o.data=.seq items n)/\o.dict=none
theorem TupN.isTup{h:Heap}{a:Addr}{items:Array Value}(x:TupN h a items):IsTup h a items:=let ⟨o,e,c,d,_⟩:=x;⟨o,e,c,d⟩
theorem TupN.new(h:Heap)(items:Array Value):TupN (h.push { cls:=.type "tuple",data:=.seq items }) h.objs.size items:=⟨_,Heap.get?_push_size _ rfl,rfl,⟨_,rfl⟩,rfl⟩
theorem TupN.lt{h:Heap}{a:Addr}{items:Array Value}(x:TupN h a items):a<h.objs.size:=x.isTup.lt
section
variable(P:Program)(w:World)
def ObjOk(H:Hp)(h:Heap)(a:Addr):HO->Prop
 | .lst xs=>xs.length<=sizeLine/\∃(its:List Value) (n:Nat),Vals xs its/\h.get? a=some { cls:=.type "list",data:=.seq its.toArray n }
 | .tup xs=>xs.length<=sizeLine/\∃its:List Value,Vals xs its/\TupN h a its.toArray
 | .dK kvs=>kvs.length<=sizeLine/\(a==sysModules)=false/\∃vs,KV kvs vs/\h.DictOf (mixKind P w) a vs
 | .dT kvs=>kvs.length<=sizeLine/\(a==sysModules)=false/\∃xs:List (List Key×Addr×Value),
   Paired (fun (p:List Key×V) (q:List Key×Addr×Value)=>p.1=q.1/\H q.2.1=some (.tup (p.1.map kV))/\RelV p.2 q.2.2) kvs xs ∧
   ∃o es ep,h.get? a=some o/\o.ExactDict/\o.data=.dict es ep/\es.toList=xs.map (entryOfKey (tupleKind (mixKind P w)))/\(xs.map (·.1)).Nodup
 | .set S n=>h.SetOf (intKind P w) a S n
 | .ins C dx fs=>H dx=some (.own a)/\fs.length<=1000/\dx≠a/\h.get? a=some (PySem.W.instObj C dx) ∧
   ∃mA,h.Ns1 dx mA/\(∀f,RelO (fs.lookup f) (mA f))/\PySem.Within mA (fs.map (·.1))
 | .own _=>∃o,h.get? a=some o
 | .xd fs=>∃mA,h.Ns1 a mA/\∀f,RelO (fs.lookup f) (mA f)
 | .rng lo hi=>∃t u v,h.get? a=some { cls:=.type "range",data:=.fields #[.int lo t,.int hi u,.int 1 v] }
 | .frz o u=>h.get? a=some o/\ObjOk H h a u
 | .tbl ps=>h.get? a=some { cls:=.none,data:=.fields ps }
 | .met f x=>h.get? a=some (PySem.W.methodObj (.ref f) (.ref x))
 | .ext φ=>φ h/\(∃o,h.get? a=some o)/\∀h1 h2:Heap,φ h1->(∀o,h1.get? a=some o->h2.get? a=some o)->φ h2
def HOk(H:Hp)(h:Heap):Prop:=∀a o,H a=some o->ObjOk P w H h a o
end
section
variable{P:Program}{w:World}{H H':Hp}{h h':Heap}{a:Addr}{o:HO}
theorem ObjOk.lt(x:ObjOk P w H h a o):a<h.objs.size:=by
 cases o with
 |lst xs=>obtain⟨_,_,_,_,e⟩:=x;exact Heap.lt_size e
 |tup xs=>obtain⟨_,_,_,p⟩:=x;exact p.lt
 |dK kvs=>obtain⟨_,_,_,_,o,_,_,e,_⟩:=x;exact Heap.lt_size e
 |dT kvs=>obtain⟨_,_,_,_,o,_,_,e,_⟩:=x;exact Heap.lt_size e
 |set S n=>obtain⟨o,_,_,_,e,_⟩:=x;exact Heap.lt_size e
 |ins C dx fs=>obtain⟨_,_,_,e,_⟩:=x;exact Heap.lt_size e
 |own y=>obtain⟨_,e⟩:=x;exact Heap.lt_size e
 |xd fs=>obtain⟨_,⟨_,_,_,e,_⟩,_⟩:=x;exact Heap.lt_size e
 |rng lo hi=>obtain⟨_,_,_,e⟩:=x;exact Heap.lt_size e
 |frz ob u=>obtain⟨e,_⟩:=x;exact Heap.lt_size e
 |tbl ps=>exact Heap.lt_size (show h.get? a=some _ from x)
 |met f y=>exact Heap.lt_size (show h.get? a=some _ from x)
 |ext φ=>obtain⟨_,⟨_,e⟩,_⟩:=x;exact Heap.lt_size e
theorem Paired.mapP{α β:Type}{F G:α->β->Prop}:∀{l₁:List α} {l₂:List β},Paired F l₁ l₂->(∀a b,F a b->G a b)->Paired G l₁ l₂
 |_,_,.nil,_=>.nil
 |_,_,.cons r t,f=>.cons (f _ _ r) (Paired.mapP t f)
theorem ObjOk.stay(x:ObjOk P w H h a o)(k:∀b u,(b=a\/H b=some (.own a))->h.get? b=some u->h'.get? b=some u)
  (ho:∀b,H b=some (.own a)->H' b=some (.own a)) (ht:∀b xs,H b=some (.tup xs)->H' b=some (.tup xs)):ObjOk P w H' h' a o:=by
 induction o with
 |lst xs=>obtain⟨z,its,n,r,e⟩:=x;exact⟨z,its,n,r,k _ _ (.inl rfl) e⟩
 |tup xs=>obtain⟨z,its,r,ob,e,c⟩:=x;exact⟨z,its,r,ob,k _ _ (.inl rfl) e,c⟩
 |dK kvs=>obtain⟨z,y,vs,r,ob,es,ep,e,c⟩:=x;exact⟨z,y,vs,r,ob,es,ep,k _ _ (.inl rfl) e,c⟩
 |dT kvs =>
  obtain⟨z,y,xs,r,ob,es,ep,e,c⟩:=x
  exact⟨z,y,xs,Paired.mapP r fun p q z=>⟨z.1,ht _ _ z.2.1,z.2.2⟩,ob,es,ep,k _ _ (.inl rfl) e,c⟩
 |set S n=>obtain⟨ob,es,ep,t,e,c⟩:=x;exact⟨ob,es,ep,t,k _ _ (.inl rfl) e,c⟩
 |ins C dx fs =>
  obtain⟨d,z,ne,e,mA,⟨od,es,ep,e2,c⟩,r⟩:=x
  exact⟨ho _ d,z,ne,k _ _ (.inl rfl) e,mA,⟨od,es,ep,k _ _ (.inr d) e2,c⟩,r⟩
 |own y=>obtain⟨ob,e⟩:=x;exact⟨ob,k _ _ (.inl rfl) e⟩
 |xd fs=>obtain⟨mA,⟨od,es,ep,e,c⟩,r⟩:=x;exact⟨mA,⟨od,es,ep,k _ _ (.inl rfl) e,c⟩,r⟩
 |rng lo hi=>obtain⟨t,u,v,e⟩:=x;exact⟨t,u,v,k _ _ (.inl rfl) e⟩
 |frz ob u ih=>obtain⟨e,q⟩:=x;exact⟨k _ _ (.inl rfl) e,ih q⟩
 |tbl ps =>
  have e:h.get? a=some { cls:=.none,data:=.fields ps }:=x
  show h'.get? a=some { cls:=.none,data:=.fields ps }
  exact k a _ (.inl rfl) e
 |met f y =>
  have e:h.get? a=some (PySem.W.methodObj (.ref f) (.ref y)):=x
  show h'.get? a=some (PySem.W.methodObj (.ref f) (.ref y))
  exact k a _ (.inl rfl) e
 |ext φ=>obtain⟨p,⟨o,e⟩,st⟩:=x;exact⟨st _ _ p fun o q=>k _ _ (.inl rfl) q,⟨o,k _ _ (.inl rfl) e⟩,st⟩
theorem HOk.lt(x:HOk P w H h)(e:H a=some o):a<h.objs.size:=(x a o e).lt
theorem HOk.fresh(x:HOk P w H h)(e:h.objs.size<=a):H a=none:=by
 cases q:H a with
 |none=>rfl
 |some u=>exact absurd (Nat.lt_of_lt_of_le (x.lt q) e) (Nat.lt_irrefl _)
theorem HOk.kept(x:HOk P w H h)(k:∀b u,h.get? b=some u->h'.get? b=some u):HOk P w H h':=fun a o e =>
 (x a o e).stay (fun b u _ q=>k b u q) (fun _ q=>q) fun _ _ q=>q
theorem HOk.laid(x:HOk P w H h)(k:∀b u,h.get? b=some u->h'.get? b=some u)(hp:h.objs.size<=a)(new:ObjOk P w (upd H a o) h' a o):HOk P w (upd H a o) h':=fun b u e=>by
 have hn:=x.fresh hp
 by_cases hb:b=a
 ·subst hb;rw[Ak] at e;cases e;exact new
 ·rw[Xc hb] at e
  exact(x b u e).stay (fun c v _ q=>k c v q) (fun c q=>by rw[Xc (Xa q hn)];exact q) fun c xs q=>by rw[Xc (Xa q hn)];exact q
end
def Rd(H:Hp)(a:Addr)(u:HO):Prop:=H a=some u\/∃o,H a=some (.frz o u)
theorem Rd.ok{P:Program}{w:World}{H:Hp}{h:Heap}{a:Addr}{u:HO}(r:Rd H a u)(x:HOk P w H h):ObjOk P w H h a u:=by
 rcases r with r|⟨o,r⟩
 ·exact x a u r
 ·obtain⟨_,q⟩:=x a _ r
  exact q
def Mut:Option HO->Prop
 |some (.lst _)=>True
 |some (.dK _)=>True
 |some (.dT _)=>True
 |some (.set _ _)=>True
 |some (.ins _ _ _)=>True
 |some (.ext _)=>True
 |_=>False
section
variable{P:Program}{w:World}{H:Hp}{h h':Heap}{x e:Addr}{o':HO}
theorem HOk.write(ok:HOk P w H h)(mu:Mut (H x))(he:e=x\/H e=some (.own x))(k:∀b u,b≠e->h.get? b=some u->h'.get? b=some u)(heo:∃u,h'.get? e=some u)
  (new:ObjOk P w (upd H x o') h' x o'):HOk P w (upd H x o') h':=fun b u q=>by
 have nown:∀c y,H c=some (.own y)->c≠x:=fun c y r z=>by subst z;rw[r] at mu;exact mu
 have ntup:∀c xs,H c=some (.tup xs)->c≠x:=fun c xs r z=>by subst z;rw[r] at mu;exact mu
 by_cases hb:b=x
 ·subst hb;rw[Ak] at q;cases q;exact new
 ·rw[Xc hb] at q
  by_cases hbe:b=e
  ·have q':H b=some (.own x):=by
    rcases he with z|z
    ·exact absurd (hbe.trans z) hb
    ·rw[hbe];exact z
   rw[q] at q';cases q'
   obtain⟨v,hv⟩:=heo
   exact⟨v,by rw[hbe];exact hv⟩
  ·refine(ok b u q).stay (fun c v hc r=>k c v ?_ r) (fun c r=>by rw[Xc (nown c b r)];exact r) fun c xs r=>by rw[Xc (ntup c xs r)];exact r
   rcases hc with rfl|hc
   ·exact hbe
   ·rintro rfl
    rcases he with z|z
    ·exact nown c b hc z
    ·rw[hc] at z;cases z;exact hb rfl
end
structure Un(fs ex:List Addr)(H H':Hp)(h h':Heap):Prop where
 keep:∀b o,h.get? b=some o->H b=none->b ∉ fs->b ∉ ex->h'.get? b=some o
 slot:∀b o,h.get? b=some o->H b=none->b∈fs->b ∉ ex->∃sl,h'.get? b=some { o with slots:=sl }
 free:∀b o,h.get? b=some o->H b=none->b ∉ ex->H' b=none
 there:∀b o,h.get? b=some o->b ∉ ex->∃o',h'.get? b=some o'
 tups:∀b xs,H b=some (.tup xs)->H' b=some (.tup xs)
 frzs:∀b o u,H b=some (.frz o u)->H' b=some (.frz o u)
 tbls:∀b ps,H b=some (.tbl ps)->∃more,H' b=some (.tbl (ps++more))
section
variable{fs fs' ex ex':List Addr}{H H1 H2:Hp}{h h1 h2 h':Heap}{a x e:Addr}{o:HO}
theorem Un.any(u:Un fs ex H H1 h h1){b:Addr}{ob:Obj}(q:h.get? b=some ob)(n:H b=none)(hx:b ∉ ex):∃sl,h1.get? b=some { ob with slots:=sl }:=by
 by_cases hb:b∈fs
 ·exact u.slot b ob q n hb hx
 ·exact⟨ob.slots,u.keep b ob q n hb hx⟩
theorem Un.kept(k:∀b u,h.get? b=some u->h'.get? b=some u):Un fs ex H H h h' :=
 ⟨fun b ob q _ _ _=>k b ob q,fun b ob q _ _ _=>⟨ob.slots,k b ob q⟩,fun _ _ _ n _=>n,fun b ob q _=>⟨ob,k b ob q⟩,fun _ _ q=>q,fun _ _ _ q=>q,fun _ ps q=>⟨#[],by rw[q];simp⟩⟩
theorem Un.refl:Un fs ex H H h h:=Un.kept fun _ _ q=>q
theorem Un.laid(k:∀b u,h.get? b=some u->h'.get? b=some u)(hp:h.objs.size<=a)(hn:H a=none):Un fs ex H (upd H a o) h h' where
 keep:=fun b u q _ _ _=>k b u q
 slot:=fun b u q _ _ _=>⟨u.slots,k b u q⟩
 free:=fun b u q n _=>by rw[Xc (Nat.ne_of_lt (Nat.lt_of_lt_of_le (Heap.lt_size q) hp))];exact n
 there:=fun b u q _=>⟨u,k b u q⟩
 tups:=fun b xs q=>by rw[Xc (Xa q hn)];exact q
 frzs:=fun b u xs q=>by rw[Xc (Xa q hn)];exact q
 tbls:=fun b ps q=>⟨#[],by rw[Xc (Xa q hn),q];simp⟩
theorem Un.write(mu:Mut (H x))(he:e=x\/H e=some (.own x))(k:∀b u,b≠e->h.get? b=some u->h'.get? b=some u)(heo:∃u,h'.get? e=some u):Un fs ex H (upd H x o) h h':=by
 have hx:∀b,H b=none->b≠x:=fun b n z=>by subst z;rw[n] at mu;exact mu
 have hb:∀b,H b=none->b≠e:=fun b n z=>by
  subst z
  rcases he with r|r
  ·exact hx b n r
  ·rw[n] at r;cases r
 have hm:∀b u,H b=some u->¬ Mut (some u)->b≠x:=fun b u q nm z=>by subst z;rw[q] at mu;exact nm mu
 refine⟨fun b u q n _ _=>k b u (hb b n) q,fun b u q n _ _=>⟨u.slots,k b u (hb b n) q⟩,fun b u q n _=>by rw[Xc (hx b n)];exact n,fun b u q _=>?_,
  fun b xs q=>by rw[Xc (hm b _ q fun z=>z)];exact q,fun b u xs q=>by rw[Xc (hm b _ q fun z=>z)];exact q,fun b ps q=>⟨#[],by rw[Xc (hm b _ q fun z=>z),q];simp⟩⟩
 by_cases hbe:b=e
 ·subst hbe;exact heo
 ·exact⟨u,k b u hbe q⟩
end
def trk(h:Heap)(H:Hp):List Addr:=(List.range h.objs.size).filter fun a=>(H a).isSome
def H0(h:Heap)(H:Hp):Heap:=PySem.W.hideAll h (trk h H)
theorem Nc(h:Heap)(H:Hp):(H0 h H).objs.size=h.objs.size:=PySem.W.hideAll_size _ _
theorem R4{h:Heap}{H:Hp}{b:Addr}{o:Obj}(e:h.get? b=some o)(n:H b=none):(H0 h H).get? b=some o :=
 PySem.W.hideAll_get _ e fun hm=>by
  have q:(H b).isSome=true:=(List.mem_filter.mp hm).2
  rw[n] at q;simp at q
theorem Vb{h:Heap}{H:Hp}{b:Addr}{o:Obj}(e:(H0 h H).get? b=some o):h.get? b=some o/\H b=none:=by
 have e':h.get? b=some o:=PySem.W.of_hideAll (trk h H) e
 refine⟨e',?_⟩
 cases q:H b with
 |none=>rfl
 |some x =>
  have hm:b∈trk h H:=List.mem_filter.mpr ⟨List.mem_range.mpr (Heap.lt_size e'),by simp[q]⟩
  have z:(H0 h H).get? b=none:=PySem.W.hideAll_none (trk h H) hm
  rw[z] at e;cases e
end L2
namespace L2
open PySem PySem.Spec PyProof.Rows
structure Mod(K:PySem.W.Frag)(mg:Str->Option Value)(base:Heap):Prop where
 kin:K.In base
 glob:base.Ns mainGlobals mg
 blt:∃mb,base.Ns builtinsNs mb/\∀x:Str,x≠"__name__"->mb x=bootBuiltins x
 nolimit:base.NoLimit
structure Cx where
 prog:Program
 w:World
 K:PySem.W.Frag
 mg:Str->Option Value
 base:Heap
 A:Around
 N:List Str
 s₀:Shared
 H₀:Hp
 env:Env
 outer:List Env
 stack:List Env
 ex:List Addr
 fn:Str->Bool
 calm:Bool
 pn:List (Addr×Obj)
 xe:Value->Shared->Prop
def frs(l:List Env):List Addr:=l.filterMap (·.frame)
abbrev Cx.fs(X:Cx):List Addr:=frs X.outer
def Vis(sc:Scope)(x:Str):Prop:=sc.names.lookup x=some .local\/sc.names.lookup x=some .cell\/sc.names.lookup x=some .free
def Loc(sc:Scope)(x:Str):Prop:=sc.names.lookup x=some .local\/sc.names.lookup x=some .cell
def Look(env:Env)(h:Heap)(m:Str->Option Value)(x:Str)(u:Value):Prop :=
 (env.kindOf x=some .local/\m x=some u)\/((env.kindOf x=some .cell\/env.kindOf x=some .free)/\∃c,env.cells.lookup x=some c/\h.IsCell c (some u))
structure Cx.Ok(X:Cx):Prop where
 mod:Mod X.K X.mg X.base
 kind:X.env.scope.kind=.function
 glob:X.env.globals=mainGlobals
 blt:X.env.builtins=builtinsNs
 above:X.s₀.heap.objs.size<=X.env.locals
 inj:∀x y c,X.env.cells.lookup x=some c->X.env.cells.lookup y=some c->x=y
 has:∀x,(X.env.kindOf x=some .cell\/X.env.kindOf x=some .free)->∃c,X.env.cells.lookup x=some c
 cab:∀x c,X.fn x=true->X.env.cells.lookup x=some c->X.s₀.heap.objs.size<=c
 hd:X.calm=true->X.A.handled=none
 frames:X.A.frames=some X.stack
 stk:X.stack=X.outer\/(X.stack=X.env::X.outer/\X.env.frame=some X.env.locals)
 exf:∀b∈X.ex,b≠X.env.locals/\∀x c,X.env.cells.lookup x=some c->c≠b
 bs:∀b o,X.base.get? b=some o->X.s₀.heap.get? b=some o/\X.H₀ b=none
 bsz:X.base.objs.size<=X.s₀.heap.objs.size
 noex:∀b o,X.base.get? b=some o->b ∉ X.ex
 exfs:∀b∈X.ex,b ∉ X.fs
 funs:X.s₀.heap.FunFrames X.base X.outer
 frf:∀b∈X.fs,X.H₀ b=none
structure Inv(X:Cx)(pins:List (Addr×Obj))(σ:List (Option V))(H:Hp)(s:Shared):Prop where
 ok:X.Ok
 os:s.os=X.s₀.os
 bare:AllBare s.gens
 base:Un X.fs X.ex X.H₀ H X.s₀.heap s.heap
 loc:∃m,s.heap.Ns X.env.locals m/\∀(i:Nat) (x:Str) (v:V),X.N[i]?=some x->σ[i]?=some (some v)->Vis X.env.scope x->∃u,RelV v u/\Look X.env s.heap m x u
 cell:∀x c,X.env.cells.lookup x=some c->∃v,s.heap.IsCell c v
 free:H X.env.locals=none
 freeC:∀x c,X.env.cells.lookup x=some c->H c=none
 pin:∀p∈X.pn++pins,s.heap.get? p.1=some p.2/\H p.1=none/\p.1≠X.env.locals/\p.1 ∉ X.fs/\∀v,p.2.data≠.cell v
 hok:HOk X.prog X.w H s.heap
 len:σ.length=X.N.length
section
variable{X:Cx}{pins:List (Addr×Obj)}{σ:List (Option V)}{H H':Hp}{s:Shared}{h':Heap}
theorem Cx.Ok.nofr(ok:X.Ok){b:Addr}{o:Obj}(e:X.base.get? b=some o):b ∉ X.fs:=fun hb=>by
 have:=(ok.funs.mem hb).1
 rw[e] at this;cases this
theorem Inv.bs(I:Inv X pins σ H s):∀b o,X.base.get? b=some o->s.heap.get? b=some o/\H b=none:=fun b o e =>
 ⟨I.base.keep b o (I.ok.bs b o e).1 (I.ok.bs b o e).2 (I.ok.nofr e) (I.ok.noex b o e),I.base.free b o (I.ok.bs b o e).1 (I.ok.bs b o e).2 (I.ok.noex b o e)⟩
theorem Inv.bk(I:Inv X pins σ H s):∀b o,X.base.get? b=some o->s.heap.get? b=some o:=fun b o e=>(I.bs b o e).1
theorem Inv.mod(I:Inv X pins σ H s):Mod X.K X.mg X.base:=I.ok.mod
theorem Inv.kIn(I:Inv X pins σ H s):X.K.In s.heap:=I.ok.mod.kin.keeps I.bk
theorem Inv.lt(I:Inv X pins σ H s):X.env.locals<s.heap.objs.size:=let ⟨_,hn,_⟩:=I.loc;hn.lt
theorem Inv.sz(I:Inv X pins σ H s):X.s₀.heap.objs.size<=s.heap.objs.size:=Nat.le_trans I.ok.above (Nat.le_of_lt I.lt)
theorem Inv.nofs(I:Inv X pins σ H s){a:Addr}(h:s.heap.objs.size<=a):a ∉ X.fs:=fun hb=>by
 obtain⟨_,o,ho,_⟩:=I.ok.funs.mem hb
 exact absurd (Nat.lt_of_lt_of_le (Heap.lt_size ho) (Nat.le_trans I.sz h)) (Nat.lt_irrefl _)
theorem Inv.cne(I:Inv X pins σ H s):∀x c,X.env.cells.lookup x=some c->c≠X.env.locals:=fun x c e z=>by
 obtain⟨v,o,ho,hd⟩:=I.cell x c e
 obtain⟨m,⟨o',es,ep,ho',hd',_⟩,_⟩:=I.loc
 rw[z,ho'] at ho;cases ho;rw[hd'] at hd;cases hd
theorem Inv.funs(I:Inv X pins σ H s):s.heap.FunFrames X.base X.outer:=by
 have all:∀(l:List Env),(∀b∈frs l,b∈X.fs)->X.s₀.heap.FunFrames X.base l->s.heap.FunFrames X.base l:=by
  intro l
  induction l with
  |nil=>intro _ _;trivial
  |cons env r ih =>
   intro hs hl
   obtain⟨hk,⟨L,o,hf,hn,ho,hd⟩,hr⟩:=hl
   have hL:L∈X.fs:=hs L (by unfold frs;rw[List.filterMap_cons,hf];exact List.mem_cons_self)
   obtain⟨sl,e⟩:=I.base.slot L o ho (I.ok.frf L hL) hL fun z=>I.ok.exfs L z hL
   exact⟨hk,⟨L,_,hf,hn,e,hd⟩,ih (fun b hb=>hs b (by unfold frs;rw[List.filterMap_cons,hf];exact List.mem_cons_of_mem _ hb)) hr⟩
 exact all X.outer (fun _ hb=>hb) I.ok.funs
theorem Inv.stack(I:Inv X pins σ H s):s.heap.FunFrames X.base X.stack:=by
 rcases I.ok.stk with e|⟨e,hf⟩
 ·rw[e];exact I.funs
 ·rw[e]
  obtain⟨m,hn,_⟩:=I.loc
  refine .cons (by rw[I.ok.kind];decide) hf hn ?_ I.funs
  exact Heap.get?_none_of_le (Nat.le_trans I.ok.bsz I.ok.above)
theorem Inv.stkSub(I:Inv X pins σ H s):∀b∈frs X.stack,b∈X.env.locals::X.fs:=fun b hb=>by
 rcases I.ok.stk with e|⟨e,hf⟩
 ·rw[e] at hb;exact List.mem_cons_of_mem _ hb
 ·rw[e] at hb
  unfold frs at hb
  rw[List.filterMap_cons,hf] at hb
  exact hb
theorem Inv.stkFree(I:Inv X pins σ H s):∀b∈frs X.stack,H b=none:=fun b hb=>by
 rcases List.mem_cons.mp (I.stkSub b hb) with e|hb
 ·rw[e];exact I.free
 ·obtain⟨_,o,ho,_⟩:=I.ok.funs.mem hb
  exact I.base.free b o ho (I.ok.frf b hb) fun z=>I.ok.exfs b z hb
theorem Inv.step{g':Array GenState}{t':Nat}{d':Drawn}{ch:List Addr}(I:Inv X pins σ H s)
  (hch:∀b∈ch,(b∈X.ex\/X.s₀.heap.objs.size<=b)/\b≠X.env.locals/\(∀x c,X.env.cells.lookup x=some c->c≠b)/\∀p∈X.pn++pins,p.1≠b)
  (keep:∀b o,b≠X.env.locals->b ∉ X.fs->b ∉ ch->s.heap.get? b=some o->H b=none->h'.get? b=some o)
  (slot:∀b o,b≠X.env.locals->b∈X.fs->b ∉ ch->s.heap.get? b=some o->H b=none->∃sl,h'.get? b=some { o with slots:=sl }) (free:∀b o,b ∉ ch->s.heap.get? b=some o->H b=none->H' b=none)
  (there:∀b o,b ∉ ch->s.heap.get? b=some o->∃o',h'.get? b=some o')
  (tups:∀b xs,H b=some (.tup xs)->H' b=some (.tup xs)) (frzs:∀b o u,H b=some (.frz o u)->H' b=some (.frz o u)) (tbls:∀b ps,H b=some (.tbl ps)->∃more,H' b=some (.tbl (ps++more)))
  (ns:∀m,s.heap.Ns X.env.locals m->h'.Ns X.env.locals m) (hok:HOk X.prog X.w H' h') (hg:AllBare g') :
  Inv X pins σ H' { s with heap:=h',gens:=g',drawn:=d',toks:=t' }:=by
 have neL:∀b o,X.s₀.heap.get? b=some o->b≠X.env.locals:=fun b o e=>Nat.ne_of_lt (Nat.lt_of_lt_of_le (Heap.lt_size e) I.ok.above)
 have neC:∀b o,X.s₀.heap.get? b=some o->b ∉ X.ex->b ∉ ch:=fun b o e hx hb=>by
  rcases(hch b hb).1 with z|z
  ·exact hx z
  ·exact absurd (Nat.lt_of_lt_of_le (Heap.lt_size e) z) (Nat.lt_irrefl _)
 have cellK:∀x c,X.env.cells.lookup x=some c->∀v,s.heap.IsCell c v->h'.IsCell c v:=fun x c e v ⟨o,ho,hd⟩=>by
  have nch:c ∉ ch:=fun z=>(hch c z).2.2.1 x c e rfl
  by_cases hc:c∈X.fs
  ·obtain⟨sl,q⟩:=slot c o (I.cne x c e) hc nch ho (I.freeC x c e)
   exact⟨_,q,hd⟩
  ·exact⟨o,keep c o (I.cne x c e) hc nch ho (I.freeC x c e),hd⟩
 refine⟨I.ok,I.os,hg,⟨fun b o e n hb hx=>?_,fun b o e n hb hx=>?_,fun b o e n hx=>?_,fun b o e hx=>?_,fun b xs e=>tups b xs (I.base.tups b xs e),fun b o xs e=>frzs b o xs (I.base.frzs b o xs e),fun b ps e=>?_⟩,?_,fun x c e=>?_,?_,fun x c e=>?_,fun p hp=>?_,hok,I.len⟩
 ·exact keep b o (neL b o e) hb (neC b o e hx) (I.base.keep b o e n hb hx) (I.base.free b o e n hx)
 ·obtain⟨sl,e1⟩:=I.base.slot b o e n hb hx
  obtain⟨sl',e2⟩:=slot b _ (neL b o e) hb (neC b o e hx) e1 (I.base.free b o e n hx)
  exact⟨sl',e2⟩
 ·obtain⟨o',e1⟩:=I.base.there b o e hx
  exact free b o' (neC b o e hx) e1 (I.base.free b o e n hx)
 ·obtain⟨o',e1⟩:=I.base.there b o e hx
  exact there b o' (neC b o e hx) e1
 ·obtain⟨m1,e1⟩:=I.base.tbls b ps e
  obtain⟨m2,e2⟩:=tbls b _ e1
  exact⟨m1++m2,by rw[e2,Array.append_assoc]⟩
 ·obtain⟨m,hn,hl⟩:=I.loc
  refine⟨m,ns m hn,fun i x v e1 e2 e3=>?_⟩
  obtain⟨u,r,l⟩:=hl i x v e1 e2 e3
  refine⟨u,r,?_⟩
  rcases l with l|⟨k,c,e,z⟩
  ·exact .inl l
  ·exact .inr ⟨k,c,e,cellK x c e _ z⟩
 ·obtain⟨v,z⟩:=I.cell x c e
  exact⟨v,cellK x c e v z⟩
 ·obtain⟨m,⟨o,_,_,ho,_⟩,_⟩:=I.loc
  exact free _ o (fun z=>(hch _ z).2.1 rfl) ho I.free
 ·obtain⟨v,o,ho,hd⟩:=I.cell x c e
  exact free c o (fun z=>(hch c z).2.2.1 x c e rfl) ho (I.freeC x c e)
 ·obtain⟨e,n,ne,nf,d⟩:=I.pin p hp
  have nch:p.1 ∉ ch:=fun z=>(hch p.1 z).2.2.2 p hp rfl
  exact⟨keep p.1 p.2 ne nf nch e n,free p.1 p.2 nch e n,ne,nf,d⟩
theorem Inv.un{t':Nat}(I:Inv X pins σ H s)(u:Un X.fs [] H H' s.heap h')(hok:HOk X.prog X.w H' h'):Inv X pins σ H' { s with heap:=h',toks:=t' }:=by
 obtain⟨m,⟨o,es,ep,ho,r⟩,_⟩:=id I.loc
 obtain⟨sl,hL⟩:=u.any ho I.free (by simp)
 exact I.step (g':=s.gens) (d':=s.drawn) (ch:=[]) (fun _ z=>nomatch z) (fun b o _ hb _ e n=>u.keep b o e n hb (by simp)) (fun b o _ hb _ e n=>u.slot b o e n hb (by simp)) (fun b o _ e n=>u.free b o e n (by simp)) (fun b o _ e=>u.there b o e (by simp)) u.tups u.frzs u.tbls (fun m' hm=>by
  obtain⟨o',es',ep',ho',r'⟩:=hm
  rw[ho] at ho';cases ho'
  exact⟨_,es',ep',hL,r'⟩) hok I.bare
theorem Inv.call{g':Array GenState}{t':Nat}{d':Drawn}{ch:List Addr}(I:Inv X pins σ H s)(u:Un (frs X.stack) ch H H' s.heap h')(hok:HOk X.prog X.w H' h')(hg:AllBare g')
  (hch:∀b∈ch,(b∈X.ex\/X.s₀.heap.objs.size<=b)/\b≠X.env.locals/\(∀x c,X.env.cells.lookup x=some c->c≠b)/\∀p∈X.pn++pins,p.1≠b) :
  Inv X pins σ H' { s with heap:=h',gens:=g',drawn:=d',toks:=t' }:=by
 obtain⟨m,⟨o,es,ep,ho,r⟩,_⟩:=id I.loc
 obtain⟨sl,hL⟩:=u.any ho I.free fun z=>(hch _ z).2.1 rfl
 exact I.step (ch:=ch) hch (fun b o hL hb hc e n=>u.keep b o e n (fun z=>(List.mem_cons.mp (I.stkSub b z)).elim hL hb) hc) (fun b o _ _ hc e n=>u.any e n hc) (fun b o hc e n=>u.free b o e n hc) (fun b o hc e=>u.there b o e hc) u.tups u.frzs u.tbls (fun m' hm=>by
  obtain⟨o',es',ep',ho',r'⟩:=hm
  rw[ho] at ho';cases ho'
  exact⟨_,es',ep',hL,r'⟩) hok hg
theorem Inv.turned{t':Nat}{it:Addr}(I:Inv X pins σ H s)(k:∀b o,b≠it->s.heap.get? b=some o->h'.get? b=some o)(hn:H it=none)(hL:it≠X.env.locals)
  (h1:it∈X.ex\/X.s₀.heap.objs.size<=it) (h2:∀x c,X.env.cells.lookup x=some c->c≠it) (h3:∀p∈X.pn++pins,p.1≠it):Inv X pins σ H { s with heap:=h',toks:=t' }:=by
 have nit:∀b u,H b=some u->b≠it:=fun b u e z=>by rw[z,hn] at e;cases e
 refine I.step (g':=s.gens) (d':=s.drawn) (ch:=[it]) (fun b hb=>?_) (fun b o _ _ hc e _=>k b o (fun z=>hc (by simp[z])) e) (fun b o _ _ hc e _=>⟨o.slots,k b o (fun z=>hc (by simp[z])) e⟩) (fun _ _ _ _ n=>n)
  (fun b o hc e=>⟨o,k b o (fun z=>hc (by simp[z])) e⟩) (fun _ _ e=>e) (fun _ _ _ e=>e) (fun b ps e=>⟨#[],by rw[e];simp⟩) (fun m hm=>?_) (fun b u e=>?_) I.bare
 ·have e:b=it:=by simpa using hb
  subst e
  exact⟨h1,hL,h2,h3⟩
 ·obtain⟨o,es,ep,ho,r⟩:=hm
  exact⟨o,es,ep,k _ o (Ne.symm hL) ho,r⟩
 ·refine(I.hok b u e).stay (fun c v hc q=>k c v ?_ q) (fun _ q=>q) fun _ _ q=>q
  rcases hc with z|z
  ·rw[z];exact nit b u e
  ·exact nit c _ z
theorem Inv.tok(I:Inv X pins σ H s)(t:Nat):Inv X pins σ H { s with toks:=t }:=I.un (h':=s.heap) (t':=t) Un.refl I.hok
theorem Inv.kept{t':Nat}(I:Inv X pins σ H s)(k:∀b u,s.heap.get? b=some u->h'.get? b=some u):Inv X pins σ H { s with heap:=h',toks:=t' }:=I.un (Un.kept k) (I.hok.kept k)
theorem Inv.laid{a:Addr}{o:HO}{t':Nat}(I:Inv X pins σ H s)(k:∀b u,s.heap.get? b=some u->h'.get? b=some u)(hp:s.heap.objs.size<=a)(new:ObjOk X.prog X.w (upd H a o) h' a o):
  Inv X pins σ (upd H a o) { s with heap:=h',toks:=t' }:=I.un (Un.laid k hp (I.hok.fresh hp)) (I.hok.laid k hp new)
theorem Inv.write{x e:Addr}{o:HO}{t':Nat}(I:Inv X pins σ H s)(mu:Mut (H x))(he:e=x\/H e=some (.own x))(k:∀b u,b≠e->s.heap.get? b=some u->h'.get? b=some u)(heo:∃u,h'.get? e=some u)
  (new:ObjOk X.prog X.w (upd H x o) h' x o):Inv X pins σ (upd H x o) { s with heap:=h',toks:=t' }:=I.un (Un.write mu he k heo) (I.hok.write mu he k heo new)
theorem Inv.weak{σ':List (Option V)}(I:Inv X pins σ H s)(hl:σ'.length=σ.length)(w:∀(i:Nat) v,σ'[i]?=some (some v)->σ[i]?=some (some v)):Inv X pins σ' H s :=
 ⟨I.ok,I.os,I.bare,I.base,let ⟨m,hn,hl'⟩:=I.loc;⟨m,hn,fun i x v e1 e2 e3=>hl' i x v e1 (w i v e2) e3⟩,I.cell,I.free,I.freeC,I.pin,I.hok,hl.trans I.len⟩
theorem Inv.pins_of{pins':List (Addr×Obj)}(I:Inv X pins σ H s)(h:∀p∈pins',s.heap.get? p.1=some p.2/\H p.1=none/\p.1≠X.env.locals/\p.1 ∉ X.fs/\∀v,p.2.data≠.cell v):Inv X pins' σ H s :=
 ⟨I.ok,I.os,I.bare,I.base,I.loc,I.cell,I.free,I.freeC,fun p hp=>(List.mem_append.mp hp).elim (fun z=>I.pin p (List.mem_append_left _ z)) (h p),I.hok,I.len⟩
theorem Iu{N:List Str}(hN:N.Nodup){i j:Nat}{x:Str}(a:N[i]?=some x)(b:N[j]?=some x):i=j:=by
 obtain⟨h1,e1⟩:=List.getElem?_eq_some_iff.mp a
 obtain⟨h2,e2⟩:=List.getElem?_eq_some_iff.mp b
 exact(List.getElem_inj hN).mp (e1.trans e2.symm)
theorem Gs{M:Model}{A:Around}{E:Value->Shared->Prop}{i:Nat}{x:Str}{v:V}{u:Value}{Q:Unit->Shared->Prop}(I:Inv X pins σ H s)(hN:X.N.Nodup)(hi:X.N[i]?=some x)(hx:Loc X.env.scope x)(r:RelV v u)
  (h:∀s',Inv X pins (σ.set i (some v)) H s'->(∃a,Heap.SameBut a s.heap s'.heap/\(a=X.env.locals\/X.env.cells.lookup x=some a))->Q () s') (hf:X.fn x=true\/X.env.scope.names.lookup x=some .local:=by first|exact .inl rfl|exact .inr rfl|assumption):wpAny M A (storeName X.env x u) Q E s:=by
 obtain⟨m,hn,hl⟩:=id I.loc
 have hcls:(X.env.scope.kind==.class || (X.env.scope.kind==.module&&X.env.locals != X.env.globals))=false:=by rw[I.ok.kind];rfl
 have hiσ:i<σ.length:=by rw[I.len];exact(List.getElem?_eq_some_iff.mp hi).1
 have cne:=I.cne
 have tracked:∀{a:Addr} {h':Heap},(∃o,s.heap.get? a=some o/\H a=none)->Heap.SameBut a s.heap h'->HOk X.prog X.w H h':=fun {a h'} ha hs b ob e=>by
  obtain⟨_,_,hfree⟩:=ha
  refine(I.hok b ob e).stay (fun c w' hc q=>(hs.2 c ?_).trans q) (fun _ q=>q) fun _ _ q=>q
  rintro rfl
  rcases hc with rfl|hc
  ·rw[hfree] at e;cases e
  ·rw[hfree] at hc;cases hc
 rcases hx with hk|hk
 ·refine wpAny_storeName_local hk hn (fun h' hn' hs=>?_) hcls
  obtain⟨oL,_,_,hoL,_⟩:=id hn
  refine h _ ⟨I.ok,I.os,I.bare,⟨fun b o e n hb hx=>?_,fun b o e n hb hx=>?_,I.base.free,fun b o e hx=>?_,I.base.tups,I.base.frzs,I.base.tbls⟩,⟨_,hn',fun j y v' e1 e2 e3=>?_⟩,fun y c e=>?_,I.free,I.freeC,fun p hp=>?_,tracked ⟨oL,hoL,I.free⟩ hs,by simpa using I.len⟩ ⟨_,hs,.inl rfl⟩
  ·exact(hs.2 b (Nat.ne_of_lt (Nat.lt_of_lt_of_le (Heap.lt_size e) I.ok.above))).trans (I.base.keep b o e n hb hx)
  ·obtain⟨sl,e1⟩:=I.base.slot b o e n hb hx
   exact⟨sl,(hs.2 b (Nat.ne_of_lt (Nat.lt_of_lt_of_le (Heap.lt_size e) I.ok.above))).trans e1⟩
  ·obtain⟨o',e1⟩:=I.base.there b o e hx
   exact⟨o',(hs.2 b (Nat.ne_of_lt (Nat.lt_of_lt_of_le (Heap.lt_size e) I.ok.above))).trans e1⟩
  ·by_cases hj:j=i
   ·subst hj
    rw[hi] at e1;cases e1
    rw[List.getElem?_set_self hiσ] at e2
    cases e2
    exact⟨u,r,.inl ⟨hk,by simp⟩⟩
   ·rw[List.getElem?_set_ne (Ne.symm hj)] at e2
    obtain⟨u',r',q⟩:=hl j y v' e1 e2 e3
    refine⟨u',r',?_⟩
    rcases q with⟨k,e⟩|⟨k,c,e,z⟩
    ·refine .inl ⟨k,?_⟩
     have:y≠x:=fun e=>hj (Iu hN e1 (e ▸ hi))
     simp[this,e]
    ·exact .inr ⟨k,c,e,z.sameBut hs (cne y c e)⟩
  ·obtain⟨w',z⟩:=I.cell y c e
   exact⟨w',z.sameBut hs (cne y c e)⟩
  ·obtain⟨e,n,ne,nf,d⟩:=I.pin p hp
   exact⟨(hs.2 p.1 ne).trans e,n,ne,nf,d⟩
 ·have hfn:X.fn x=true:=by
   rcases hf with z|z
   ·exact z
   ·rw[z] at hk;cases hk
  obtain⟨c,hc⟩:=I.ok.has x (.inl hk)
  obtain⟨w',z⟩:=I.cell x c hc
  refine wpAny_storeName_cell I.ok.kind hk hc z (fun h' hc' hs=>?_)
  obtain⟨oc,hoc,hocd⟩:=id z
  refine h { s with heap:=h' } ⟨I.ok,I.os,I.bare,⟨fun b o e n hb hx=>?_,fun b o e n hb hx=>?_,I.base.free,fun b o e hx=>?_,I.base.tups,I.base.frzs,I.base.tbls⟩,⟨m,hn.sameBut hs (Ne.symm (cne x c hc)),fun j y v' e1 e2 e3=>?_⟩,fun y c' e=>?_,I.free,I.freeC,fun p hp=>?_,tracked ⟨oc,hoc,I.freeC x c hc⟩ hs,by simpa using I.len⟩ ⟨c,hs,.inr hc⟩
  ·exact(hs.2 b (Nat.ne_of_lt (Nat.lt_of_lt_of_le (Heap.lt_size e) (I.ok.cab x c hfn hc)))).trans (I.base.keep b o e n hb hx)
  ·obtain⟨sl,e1⟩:=I.base.slot b o e n hb hx
   exact⟨sl,(hs.2 b (Nat.ne_of_lt (Nat.lt_of_lt_of_le (Heap.lt_size e) (I.ok.cab x c hfn hc)))).trans e1⟩
  ·obtain⟨o',e1⟩:=I.base.there b o e hx
   exact⟨o',(hs.2 b (Nat.ne_of_lt (Nat.lt_of_lt_of_le (Heap.lt_size e) (I.ok.cab x c hfn hc)))).trans e1⟩
  ·by_cases hj:j=i
   ·subst hj
    rw[hi] at e1;cases e1
    rw[List.getElem?_set_self hiσ] at e2
    cases e2
    exact⟨u,r,.inr ⟨.inl hk,c,hc,hc'⟩⟩
   ·rw[List.getElem?_set_ne (Ne.symm hj)] at e2
    obtain⟨u',r',q⟩:=hl j y v' e1 e2 e3
    refine⟨u',r',?_⟩
    rcases q with q|⟨k,c',e,z'⟩
    ·exact .inl q
    ·refine .inr ⟨k,c',e,z'.sameBut hs ?_⟩
     rintro rfl
     exact hj (Iu hN e1 (I.ok.inj _ _ _ e hc ▸ hi))
  ·by_cases hcc:c'=c
   ·subst hcc;exact⟨_,hc'⟩
   ·obtain⟨w2,z2⟩:=I.cell y c' e
    exact⟨w2,z2.sameBut hs hcc⟩
  ·obtain⟨e,n,ne,nf,d⟩:=I.pin p hp
   refine⟨(hs.2 p.1 ?_).trans e,n,ne,nf,d⟩
   intro q
   rw[q,hoc] at e
   have q':oc=p.2:=Option.some.inj e
   exact d w' (by rw[<-q'];exact hocd)
theorem Ib{M:Model}{A:Around}{E:Value->Shared->Prop}{i:Nat}{x:Str}{v:V}{u:Value}{Q:Unit->Shared->Prop}(I:Inv X pins σ H s)(hN:X.N.Nodup)(hi:X.N[i]?=some x)(hx:Loc X.env.scope x)(r:RelV v u)
  (h:∀s',Inv X pins (σ.set i (some v)) H s'->Q () s') (hf:X.fn x=true\/X.env.scope.names.lookup x=some .local:=by first|exact .inl rfl|exact .inr rfl|assumption):wpAny M A (storeName X.env x u) Q E s :=
 Gs I hN hi hx r (fun s' I' _=>h s' I') hf
theorem Inv.call'{s':Shared}{ch:List Addr}(I:Inv X pins σ H s)(ho:s'.os=s.os)(u:Un (frs X.stack) ch H H' s.heap s'.heap)(hok:HOk X.prog X.w H' s'.heap)(hg:AllBare s'.gens)
  (hch:∀b∈ch,(b∈X.ex\/X.s₀.heap.objs.size<=b)/\b≠X.env.locals/\(∀x c,X.env.cells.lookup x=some c->c≠b)/\∀p∈X.pn++pins,p.1≠b):Inv X pins σ H' s':=by
 obtain⟨h',g',d',t',o'⟩:=s'
 have e:o'=s.os:=ho
 subst e
 exact I.call (g':=g') (t':=t') (d':=d') u hok hg hch
end
abbrev XK:=Value->Option Addr->Hp->Prop
abbrev St:=List (Option V)
abbrev VK:=V->Hp->Prop
abbrev TE:=St->Hp->VK->Prop
abbrev TT:=St->Hp->(Bool->Hp->Prop)->Prop
abbrev TA:=St->Hp->(List V->Hp->Prop)->Prop
structure Ends where
 nx:St->Hp->Prop
 rt:VK
 bk:St->Hp->Prop:=fun _ _=>False
 ct:St->Hp->Prop:=fun _ _=>False
abbrev TS:=Ends->St->Hp->Prop
def EP(X:Cx)(pins:List (Addr×Obj))(σ:St)(Q:VK)(u:Value)(s':Shared):Prop:=∃v H',Inv X pins σ H' s'/\RelV v u/\Q v H'
def TP(X:Cx)(pins:List (Addr×Obj))(σ:St)(Q:Bool->Hp->Prop)(b:Bool)(s':Shared):Prop:=∃H',Inv X pins σ H' s'/\Q b H'
def AP(X:Cx)(pins:List (Addr×Obj))(σ:St)(Q:List V->Hp->Prop)(us:List Value)(s':Shared):Prop:=∃vs H',Inv X pins σ H' s'/\Vals vs us/\Q vs H'
def SP(X:Cx)(pins:List (Addr×Obj))(D:Ends)(f:Flow)(s':Shared):Prop :=
 match f with
 | .next=>∃ σ' H',Inv X pins σ' H' s'/\D.nx σ' H'
 | .brk=>∃ σ' H',Inv X pins σ' H' s'/\D.bk σ' H'
 | .cont=>∃ σ' H',Inv X pins σ' H' s'/\D.ct σ' H'
 | .ret u=>∃v σ' H',Inv X pins σ' H' s'/\RelV v u/\D.rt v H'
def PE(X:Cx)(e:Expr)(t:TE):Prop :=
 ∀(pins:List (Addr×Obj)) (s:Shared) (σ:St) (H:Hp) (Q:VK),Inv X pins σ H s->t σ H Q->wpAny (model X.prog X.w) X.A (eval e X.env) (EP X pins σ Q) X.xe s
def PT(X:Cx)(e:Expr)(t:TT):Prop :=
 ∀(pins:List (Addr×Obj)) (s:Shared) (σ:St) (H:Hp) (Q:Bool->Hp->Prop),Inv X pins σ H s->t σ H Q->wpAny (model X.prog X.w) X.A (isTrue e X.env (eval e X.env)) (TP X pins σ Q) X.xe s
def PW(X:Cx)(e:Expr)(t:TT):Prop :=
 ∀(whole:Sem Value) (pins:List (Addr×Obj)) (s:Shared) (σ:St) (H:Hp) (Q:Bool->Hp->Prop),Inv X pins σ H s->t σ H Q->wpAny (model X.prog X.w) X.A (isTrue e X.env whole) (TP X pins σ Q) X.xe s
theorem PW.pt{X:Cx}{e:Expr}{t:TT}(h:PW X e t):PT X e t:=h _
def PA(X:Cx)(es:List Expr)(t:TA):Prop :=
 ∀(pos:Pos) (pins:List (Addr×Obj)) (s:Shared) (σ:St) (H:Hp) (Q:List V->Hp->Prop),Inv X pins σ H s->t σ H Q->wpAny (model X.prog X.w) X.A (spliced (backTo pos (starEach es X.env))) (AP X pins σ Q) X.xe s
def PS(X:Cx)(st:Stmt)(t:TS):Prop :=
 ∀(pins:List (Addr×Obj)) (s:Shared) (σ:St) (H:Hp) (D:Ends),Inv X pins σ H s->t D σ H->wpAny (model X.prog X.w) X.A (exec st X.env) (SP X pins D) X.xe s
def PSs(X:Cx)(st:List Stmt)(t:TS):Prop :=
 ∀(pins:List (Addr×Obj)) (s:Shared) (σ:St) (H:Hp) (D:Ends),Inv X pins σ H s->t D σ H->wpAny (model X.prog X.w) X.A (execs st X.env) (SP X pins D) X.xe s
theorem thn{α:Type}{t:Sem α}{Q Q':α->Shared->Prop}{M:Model}{A:Around}{E:Value->Shared->Prop}{s:Shared}(h:wpAny M A t Q E s)(hQ:∀a s,Q a s->Q' a s):wpAny M A t Q' E s:=wpAny_mono h hQ fun _ _ x=>x
end L2
namespace L2
open PySem PySem.Spec PyProof.Rows
section
variable{X:Cx}
def tVar(i:Nat):TE:=fun σ H Q=>∃v,σ[i]?=some (some v)/\Q v H
def tC(v:V):TE:=fun _ H Q=>Q v H
theorem Wh{i:Nat}{x:Str}{pos:Pos}(hN:X.N[i]?=some x)(hv:Vis X.env.scope x)(hd:(x==("__debug__":Str))=false:=by decide)(hcd:(x==("__classdict__":Str))=false:=by decide):PE X (.Name x pos) (tVar i):=by
 intro pins s σ H Q I h
 obtain⟨v,e,h⟩:=h
 obtain⟨m,hn,hl⟩:=I.loc
 obtain⟨u,r,l⟩:=hl i x v hN e hv
 have fin:EP X pins σ Q u s:=⟨v,H,I,r,h⟩
 rcases l with⟨hk,hm⟩|⟨hk,c,hc,hcell⟩
 ·exact wpAny_Name (wpAny_loadName_local I.ok.kind hk hn hm fin) hd
 ·rcases hk with hk|hk
  ·exact wpAny_Name (wpAny_loadName_cell I.ok.kind hk hc hcell fin) hd
  ·exact wpAny_Name (wpAny_loadName_free I.ok.kind hk hc hcell fin hcd) hd
theorem Ph{i j pos}:PE X (.Constant (.int i) j pos) (tC (.int i)):=fun _ _ _ H _ I h=>wpAny_Constant_int ⟨.int i,H,I.tok _,⟨_,rfl⟩,h⟩
theorem pe_bl{b j pos}:PE X (.Constant (.bool b) j pos) (tC (.bl b)):=fun _ _ _ H _ I h=>Constant_bool ⟨.bl b,H,I,rfl,h⟩
theorem Wx{j pos}:PE X (.Constant .none j pos) (tC .non):=fun _ _ _ H _ I h=>Constant_none ⟨.non,H,I,rfl,h⟩
theorem Wj{x j pos}:PE X (.Constant (.str x) j pos) (tC (.str x)):=fun _ _ _ H _ I h=>Calls.Constant_str ⟨.str x,H,I.tok _,⟨_,rfl⟩,h⟩
def Gl(X:Cx)(x:Str):Prop:=X.env.kindOf x=some .globalImplicit
theorem Da{E:Value->Shared->Prop}{pins:List (Addr×Obj)}{s:Shared}{σ:St}{H:Hp}{x:Str}{u:Value}{pos:Pos}{Q:Value->Shared->Prop}(I:Inv X pins σ H s)(hg:Gl X x)(hm:X.mg x=some u)(h:Q u s)
  (hd:(x==("__debug__":Str))=false:=by decide):wpAny (model X.prog X.w) X.A (eval (.Name x pos) X.env) Q E s :=
 Calls.Name_function_global I.ok.kind hg (Calls.loadGlobal_global (by rw[I.ok.glob];exact I.mod.glob.keeps I.bk) hm h) hd
theorem Br{E:Value->Shared->Prop}{pins:List (Addr×Obj)}{s:Shared}{σ:St}{H:Hp}{x:Str}{u:Value}{pos:Pos}{Q:Value->Shared->Prop}(I:Inv X pins σ H s)(hg:Gl X x)(hm:X.mg x=none)(hv:bootBuiltins x=some u)(h:Q u s)
  (hn:x≠"__name__":=by decide) (hd:(x==("__debug__":Str))=false:=by decide):wpAny (model X.prog X.w) X.A (eval (.Name x pos) X.env) Q E s:=by
 obtain⟨mb,h1,h2⟩:=I.mod.blt
 exact Calls.Name_function_global I.ok.kind hg (Calls.loadGlobal_builtin (by rw[I.ok.glob];exact I.mod.glob.keeps I.bk) hm (by rw[I.ok.blt];exact h1.keeps I.bk) ((h2 x hn).trans hv) h) hd
theorem Mf{x:Str}{v:V}{u:Value}{pos:Pos}(hg:Gl X x)(hm:X.mg x=some u)(r:RelV v u)(hd:(x==("__debug__":Str))=false:=by decide):PE X (.Name x pos) (tC v) :=
 fun _ _ _ H _ I h=>Da I hg hm ⟨v,H,I,r,h⟩ hd
theorem Vc{x:Str}{v:V}{u:Value}{pos:Pos}(hg:Gl X x)(hm:X.mg x=none)(hv:bootBuiltins x=some u)(r:RelV v u)(hn:x≠"__name__":=by decide)(hd:(x==("__debug__":Str))=false:=by decide):PE X (.Name x pos) (tC v) :=
 fun _ _ _ H _ I h=>Br I hg hm hv ⟨v,H,I,r,h⟩ hn hd
variable{a b:Expr}{ta tb:TE}{pos:Pos}
def tB(t:TE):TT:=fun σ H Q=>t σ H fun x H1=>∃c,x=.bl c/\Q c H1
theorem Wn{e:Expr}{t:TE}(h:PE X e t)(he:∀whole,isTrue e X.env whole=(do let v ← whole;standAt e.pos;holding [v] (truthy v)):=by intro _;rfl):PT X e (tB t):=by
 intro pins s σ H Q I hw
 refine isTrue_plain (thn (h pins s σ H _ I hw) fun v s1 ⟨x,H1,I1,r1,q1⟩=>?_) (he _)
 obtain⟨d,rfl,q⟩:=q1
 cases r1
 exact wpAny_truthy_bool ⟨H1,I1,q⟩
variable{tA tB':TT}{rest:List Expr}
def tAnd(t u:TT):TT:=fun σ H Q=>t σ H fun c H1=>if c=true then u σ H1 Q else Q false H1
def tOr(t u:TT):TT:=fun σ H Q=>t σ H fun c H1=>if c=true then Q true H1 else u σ H1 Q
def tNot(t:TT):TT:=fun σ H Q=>t σ H fun c H1=>Q (!c) H1
theorem Tr(ha:PT X a tA):PW X (.BoolOp .And [a] pos) tA:=by
 intro wh pins s σ H Q I h
 refine isTrue_and (thn (ha pins s σ H Q I h) fun c s1 e=>?_)
 cases c with
 |true=>exact isTrue_and_nil e
 |false=>exact e
theorem Yq(ha:PT X a tA):PW X (.BoolOp .Or [a] pos) tA:=by
 intro wh pins s σ H Q I h
 refine isTrue_or (thn (ha pins s σ H Q I h) fun c s1 e=>?_)
 cases c with
 |false=>exact isTrue_or_nil e
 |true=>exact e
theorem Y4(ha:PT X a tA)(hb:PW X (.BoolOp .And (b::rest) pos) tB'):PW X (.BoolOp .And (a::b::rest) pos) (tAnd tA tB'):=by
 intro wh pins s σ H Q I h
 refine isTrue_and (thn (ha pins s σ H _ I h) fun c s1 ⟨H1,I1,q1⟩=>?_)
 cases c with
 |true=>exact hb wh pins s1 σ H1 Q I1 q1
 |false=>exact⟨H1,I1,q1⟩
theorem pw_or(ha:PT X a tA)(hb:PW X (.BoolOp .Or (b::rest) pos) tB'):PW X (.BoolOp .Or (a::b::rest) pos) (tOr tA tB'):=by
 intro wh pins s σ H Q I h
 refine isTrue_or (thn (ha pins s σ H _ I h) fun c s1 ⟨H1,I1,q1⟩=>?_)
 cases c with
 |true=>exact⟨H1,I1,q1⟩
 |false=>exact hb wh pins s1 σ H1 Q I1 q1
theorem Yt(ha:PT X a tA):PT X (.UnaryOp .Not a pos) (tNot tA):=by
 intro pins s σ H Q I h
 exact isTrue_not (ha pins s σ H (fun c H1=>Q (!c) H1) I h)
def tAndV(ta tb:TE):TE:=fun σ H Q=>ta σ H fun x H1=>∃c,x=.bl c/\if c=true then tb σ H1 Q else Q (.bl false) H1
def tNotV(ta:TE):TE:=fun σ H Q=>ta σ H fun x H1=>∃c,x=.bl c/\Q (.bl (!c)) H1
theorem Yk{op}{t:TE}(h:PE X a t):PE X (.BoolOp op [a] pos) t:=fun pins s σ H Q I hw=>BoolOp_one (h pins s σ H Q I hw)
theorem Wz(ha:PE X a ta)(hb:PE X (.BoolOp .And (b::rest) pos) tb):PE X (.BoolOp .And (a::b::rest) pos) (tAndV ta tb):=by
 intro pins s σ H Q I h
 refine BoolOp_and (thn (ha pins s σ H _ I h) fun v s1 ⟨x,H1,I1,r1,q1⟩=>?_)
 obtain⟨c,rfl,q1⟩:=q1
 cases r1
 refine wpAny_truthy_bool ?_
 cases c with
 |true=>exact hb pins s1 σ H1 Q I1 q1
 |false=>exact⟨.bl false,H1,I1,rfl,q1⟩
theorem Yv(ha:PE X a ta):PE X (.UnaryOp .Not a pos) (tNotV ta):=by
 intro pins s σ H Q I h
 refine UnaryOp_ (thn (ha pins s σ H _ I h) fun v s1 ⟨x,H1,I1,r1,q1⟩=>?_)
 obtain⟨c,rfl,q1⟩:=q1
 cases r1
 exact not_of (wpAny_truthy_bool ⟨.bl (!c),H1,I1,rfl,q1⟩)
def tIf(t:TT)(ta tb:TE):TE:=fun σ H Q=>t σ H fun c H1=>if c=true then ta σ H1 Q else tb σ H1 Q
theorem Ql{c:Expr}(hc:PT X c tA)(ha:PE X a ta)(hb:PE X b tb):PE X (.IfExp c a b pos) (tIf tA ta tb):=by
 intro pins s σ H Q I h
 refine wpAny_IfExp (thn (hc pins s σ H _ I h) fun d s1 ⟨H1,I1,q1⟩=>?_)
 cases d with
 |true=>exact ha pins s1 σ H1 Q I1 q1
 |false=>exact hb pins s1 σ H1 Q I1 q1
end
end L2
namespace L2
open PySem PySem.Spec PyProof.Rows
def SqL(K:PySem.W.Frag)(H:Hp)(a:Addr)(xs:List V):Prop :=
 Rd H a (.lst xs) ∨
  ∃(o:Obj) (its:Array Value) (n:Nat),K.lookup a=some o/\o.cls=.type "list"/\o.dict=none/\o.data=.seq its n/\its.size<=sizeLine/\Vals xs its.toList
def SqT(K:PySem.W.Frag)(H:Hp)(a:Addr)(xs:List V):Prop :=
 Rd H a (.tup xs) ∨
  ∃(o:Obj) (its:Array Value) (n:Nat),K.lookup a=some o/\o.cls=.type "tuple"/\o.data=.seq its n/\its.size<=sizeLine/\Vals xs its.toList/\o.dict=none
def absV:Value->Option V
 | .none=>some .non
 | .bool b=>some (.bl b)
 | .int i _=>some (.int i)
 | .str x _=>some (.str x)
 | .bytes b _=>some (.byt b)
 | .float b _=>some (.flt b)
 | .ref a=>some (.ref a)
 | .type n=>some (.ty n)
 |_=>none
theorem RelV.abs{x:V}{u:Value}(r:RelV x u):absV u=some x:=by
 cases x with
 |non=>cases r;rfl
 |bl _=>cases r;rfl
 |int _=>obtain⟨t,rfl⟩:=r;rfl
 |str _=>obtain⟨t,rfl⟩:=r;rfl
 |byt _=>obtain⟨t,rfl⟩:=r;rfl
 |flt _=>obtain⟨t,rfl⟩:=r;rfl
 |ref _=>cases r;rfl
 |ty _=>cases r;rfl
theorem RelV.inj{x y:V}{u:Value}(r:RelV x u)(q:RelV y u):x=y:=Option.some.inj (r.abs.symm.trans q.abs)
theorem Vals.inj:∀{xs ys:List V} {us:List Value},Vals xs us->Vals ys us->xs=ys
 |_,_,_,.nil,.nil=>rfl
 |_,_,_,.cons r t,.cons r' t'=>by rw[r.inj r',Vals.inj t t']
section
variable{X:Cx}{pins:List (Addr×Obj)}{σ:St}{H:Hp}{s:Shared}{a:Addr}{xs ys:List V}
theorem SqL.of{K:PySem.W.Frag}(h:H a=some (.lst xs)):SqL K H a xs:=.inl (.inl h)
theorem Inv.list(I:Inv X pins σ H s)(h:SqL X.K H a xs):∃its:List Value,Vals xs its/\PlainL s.heap a its.toArray/\xs.length<=sizeLine:=by
 rcases h with h|⟨o,its,n,hk,hc,hd,hs,hz,r⟩
 ·obtain⟨z,its,n,r,e⟩:=h.ok I.hok
  exact⟨its,r,⟨_,n,e,rfl,rfl,rfl⟩,z⟩
 ·refine⟨its.toList,r,⟨o,n,I.kIn a o hk,hc,hd,by simpa using hs⟩,?_⟩
  have e:=r.length
  simp only[Array.length_toList] at e
  omega
theorem Inv.tuple(I:Inv X pins σ H s)(h:SqT X.K H a xs):∃its:List Value,Vals xs its/\IsTup s.heap a its.toArray/\xs.length<=sizeLine:=by
 rcases h with h|⟨o,its,n,hk,hc,hs,hz,r,_⟩
 ·obtain⟨z,its,r,p⟩:=h.ok I.hok
  exact⟨its,r,p.isTup,z⟩
 ·refine⟨its.toList,r,⟨o,I.kIn a o hk,hc,n,by simpa using hs⟩,?_⟩
  have e:=r.length
  simp only[Array.length_toList] at e
  omega
theorem Inv.tupN(I:Inv X pins σ H s)(h:SqT X.K H a xs):∃o,s.heap.get? a=some o/\o.cls=.type "tuple"/\o.dict=none:=by
 rcases h with h|⟨o,its,n,hk,hc,hs,hz,r,hd⟩
 ·obtain⟨z,its,r,o,e,c,_,d⟩:=h.ok I.hok
  exact⟨o,e,c,d⟩
 ·exact⟨o,I.kIn a o hk,hc,hd⟩
theorem Inv.list_inj(I:Inv X pins σ H s)(h:SqL X.K H a xs)(h':SqL X.K H a ys):xs=ys:=by
 obtain⟨its,r,⟨o,n,e,_,_,d⟩,_⟩:=I.list h
 obtain⟨its',r',⟨o',n',e',_,_,d'⟩,_⟩:=I.list h'
 rw[e] at e';cases e'
 rw[d] at d'
 injection d' with d1 _
 have:its=its':=by simpa using congrArg Array.toList d1
 subst this
 exact r.inj r'
theorem Inv.tuple_inj(I:Inv X pins σ H s)(h:SqT X.K H a xs)(h':SqT X.K H a ys):xs=ys:=by
 obtain⟨its,r,⟨o,e,_,n,d⟩,_⟩:=I.tuple h
 obtain⟨its',r',⟨o',e',_,n',d'⟩,_⟩:=I.tuple h'
 rw[e] at e';cases e'
 rw[d] at d'
 injection d' with d1 _
 have:its=its':=by simpa using congrArg Array.toList d1
 subst this
 exact r.inj r'
end
abbrev Cx.wish(X:Cx)(E:Value->Shared->Prop):Cx:={ X with xe:=E }
abbrev Cx.nox(X:Cx):Cx:=X.wish fun _ _=>False
theorem Cx.Ok.wish{X:Cx}(ok:X.Ok)(E:Value->Shared->Prop):(X.wish E).Ok :=
 ⟨ok.mod,ok.kind,ok.glob,ok.blt,ok.above,ok.inj,ok.has,ok.cab,ok.hd,ok.frames,ok.stk,ok.exf,ok.bs,ok.bsz,ok.noex,ok.exfs,ok.funs,ok.frf⟩
theorem Cx.Ok.unwish{X:Cx}{E:Value->Shared->Prop}(ok:(X.wish E).Ok):X.Ok :=
 ⟨ok.mod,ok.kind,ok.glob,ok.blt,ok.above,ok.inj,ok.has,ok.cab,ok.hd,ok.frames,ok.stk,ok.exf,ok.bs,ok.bsz,ok.noex,ok.exfs,ok.funs,ok.frf⟩
section
variable{X:Cx}{pins:List (Addr×Obj)}{σ:St}{H:Hp}{s:Shared}{E:Value->Shared->Prop}
theorem Inv.wish(I:Inv X pins σ H s)(E:Value->Shared->Prop):Inv (X.wish E) pins σ H s:=⟨I.ok.wish E,I.os,I.bare,I.base,I.loc,I.cell,I.free,I.freeC,I.pin,I.hok,I.len⟩
theorem Inv.unwish(I:Inv (X.wish E) pins σ H s):Inv X pins σ H s:=⟨I.ok.unwish,I.os,I.bare,I.base,I.loc,I.cell,I.free,I.freeC,I.pin,I.hok,I.len⟩
theorem SP.unwish{D:Ends}{f:Flow}{s':Shared}(h:SP (X.wish E) pins D f s'):SP X pins D f s':=by
 cases f with
 |next=>obtain⟨σ',H',I,q⟩:=h;exact⟨σ',H',I.unwish,q⟩
 |brk=>obtain⟨σ',H',I,q⟩:=h;exact⟨σ',H',I.unwish,q⟩
 |cont=>obtain⟨σ',H',I,q⟩:=h;exact⟨σ',H',I.unwish,q⟩
 |ret u=>obtain⟨v,σ',H',I,r,q⟩:=h;exact⟨v,σ',H',I.unwish,r,q⟩
theorem PSs.nox{st:List Stmt}{t:TS}(h:PSs X.nox st t):PSs X st t:=fun pins s σ H D I hw =>
 wpAny_mono (h pins s σ H D (I.wish _) hw) (fun _ _ q=>q.unwish) fun _ _ z=>False.elim z
end
section
variable{X:Cx}{st:Stmt}{rest:List Stmt}{t u:TS}{e:Expr}{te:TE}{pos:Pos}
def tNext:TS:=fun D σ H=>D.nx σ H
def tSeq(t u:TS):TS:=fun D σ H=>t { D with nx:=u D } σ H
theorem Tl:PSs X [] tNext:=fun _ _ σ H _ I h=>wpAny_execs_nil ⟨σ,H,I,h⟩
theorem Pu(h1:PS X st t)(h2:PSs X rest u):PSs X (st::rest) (tSeq t u):=by
 intro pins s σ H D I h
 refine wpAny_execs_cons (thn (h1 pins s σ H { D with nx:=u D } I h) fun f s1 q=>?_)
 cases f with
 |next =>
  obtain⟨σ',H',I',q⟩:=q
  exact h2 pins s1 σ' H' D I' q
 |ret v=>exact q
 |brk=>exact q
 |cont=>exact q
theorem U2(h1:PS X st t):PSs X [st] t:=by
 intro pins s σ H D I h
 refine wpAny_execs_cons (thn (h1 pins s σ H D I h) fun f s1 q=>?_)
 cases f with
 |next=>exact wpAny_execs_nil q
 |ret v=>exact q
 |brk=>exact q
 |cont=>exact q
theorem Inv.quiet{pins:List (Addr×Obj)}{σ:St}{H:Hp}{s:Shared}(I:Inv X pins σ H s):interactive X.env=false:=by simp[interactive,I.ok.kind]
def tDrop(te:TE):TS:=fun D σ H=>te σ H fun _ H1=>D.nx σ H1
theorem Uc(he:PE X e te)(hs:swapsWith e none pos.line X.env=pure false:=by rfl):PS X (.Expr e pos) (tDrop te):=by
 intro pins s σ H D I h
 exact wpAny_Expr_any (thn (he pins s σ H _ I h) fun v s1 ⟨x,H1,I1,r1,q1⟩=>⟨σ,H1,I1,q1⟩) I.quiet hs
def tRet(te:TE):TS:=fun D σ H=>te σ H D.rt
theorem Wr(he:PE X e te):PS X (.Return (some e) pos) (tRet te):=by
 intro pins s σ H D I h
 exact wpAny_Return_some (thn (he pins s σ H _ I h) fun v s1 ⟨x,H1,I1,r1,q1⟩=>⟨x,σ,H1,I1,r1,q1⟩)
def tIfS(c:TT)(t u:TS):TS:=fun D σ H=>c σ H fun b H1=>if b=true then t D σ H1 else u D σ H1
theorem ps_if{c:Expr}{a b:List Stmt}{tc:TT}(hc:PT X c tc)(ha:PSs X a t)(hb:PSs X b u):PS X (.If c a b pos) (tIfS tc t u):=by
 intro pins s σ H D I h
 refine wpAny_If (thn (hc pins s σ H _ I h) fun d s1 ⟨H1,I1,q1⟩=>?_)
 cases d with
 |true=>exact ha pins s1 σ H1 D I1 q1
 |false=>exact hb pins s1 σ H1 D I1 q1
end
abbrev TG:=V->St->Hp->(St->Hp->Prop)->Prop
abbrev TGs:=List V->St->Hp->(St->Hp->Prop)->Prop
def PG(X:Cx)(target:Expr)(t:TG):Prop :=
 ∀(pins:List (Addr×Obj)) (s:Shared) (σ:St) (H:Hp) (v:V) (u:Value) (Q:St->Hp->Prop),Inv X pins σ H s->RelV v u->t v σ H Q →
  wpAny (model X.prog X.w) X.A (assign target X.env u) (fun _ s'=>∃ σ' H',Inv X pins σ' H' s'/\Q σ' H') X.xe s
def PGs(X:Cx)(ts:List Expr)(t:TGs):Prop :=
 ∀(pins:List (Addr×Obj)) (s:Shared) (σ:St) (H:Hp) (vs:List V) (us:List Value) (Q:St->Hp->Prop),Inv X pins σ H s->Vals vs us->t vs σ H Q →
  wpAny (model X.prog X.w) X.A (assignInOrder ((assignEach ts X.env).map (·.2)) us) (fun _ s'=>∃ σ' H',Inv X pins σ' H' s'/\Q σ' H') X.xe s
abbrev TSet:=V->V->V->Hp->(Hp->Prop)->Prop
def PSet(X:Cx)(t:TSet):Prop :=
 ∀(pins:List (Addr×Obj)) (s:Shared) (σ:St) (H:Hp) (o i v:V) (ov iv u:Value) (Q:Hp->Prop),Inv X pins σ H s->RelV o ov->RelV i iv->RelV v u->t o i v H Q →
  wpAny (model X.prog X.w) X.A (setItem ov iv u) (fun _ s'=>∃H',Inv X pins σ H' s'/\Q H') X.xe s
section
variable{X:Cx}{pos:Pos}
def Gg(i:Nat):TG:=fun v σ H Q=>Q (σ.set i (some v)) H
theorem Bj{i:Nat}{x:Str}(hN:X.N.Nodup)(hi:X.N[i]?=some x)(hx:Loc X.env.scope x)(hf:X.fn x=true\/X.env.scope.names.lookup x=some .local:=by first|exact .inl rfl|exact .inr rfl|assumption):PG X (.Name x pos) (Gg i):=by
 intro pins s σ H v u Q I r h
 exact wpAny_assign_Name (Ib I hN hi hx r (fun s' I'=>⟨_,H,I',h⟩) hf)
def gNil:TGs:=fun vs σ H Q=>vs=[]/\Q σ H
def Pf(t:TG)(u:TGs):TGs:=fun vs σ H Q=>∃v r,vs=v::r/\t v σ H fun σ' H'=>u r σ' H' Q
theorem L4:PGs X [] gNil:=by
 intro pins s σ H vs us Q I r h
 obtain⟨e,h⟩:=h
 subst e
 cases r
 exact assignInOrder_nil ⟨σ,H,I,h⟩
theorem Fk{e:Expr}{es:List Expr}{t:TG}{u:TGs}(h1:PG X e t)(h2:PGs X es u)
  (hs:(assignEach (e::es) X.env).map (·.2)=assign e X.env::(assignEach es X.env).map (·.2):=by rfl):PGs X (e::es) (Pf t u):=by
 intro pins s σ H vs us Q I r h
 obtain⟨v,vr,e1,h⟩:=h
 subst e1
 cases r with
 |cons r rr =>
  rw[hs]
  refine assignInOrder_cons (thn (h1 pins s σ H _ _ _ I r h) fun _ s1 ⟨σ1,H1,I1,q1⟩=>?_)
  exact h2 pins s1 σ1 H1 _ _ Q I1 rr q1
def gTup(K:PySem.W.Frag)(n:Nat)(t:TGs):TG:=fun v σ H Q=>∃a xs,v=.ref a/\SqT K H a xs/\xs.length=n/\t xs σ H Q
theorem Q9{es:List Expr}{k:Nat}{t:TGs}{n:Nat}(hc:X.calm=true)(h:PGs X es t)
  (hn:(assignEach es X.env).length=n:=by rfl) (hst:(assignEach es X.env).findIdx? (·.1)=none:=by rfl):PG X (.Tuple es k pos) (gTup X.K n t):=by
 intro pins s σ H v u Q I r hw
 obtain⟨a,xs,e1,hq,hl,hw⟩:=hw
 subst e1
 cases r
 obtain⟨its,rv,ht,hz⟩:=I.tuple hq
 refine assign_Tuple_tuple (I.ok.hd hc) ht (by simp[hn,<-hl,rv.length]) hst fun h' hx=>?_
 have I1:Inv X pins σ H { s with heap:=h' }:=I.kept (t':=s.toks) fun b o e=>hx b o (Nat.ne_of_lt (Heap.lt_size e)) e
 exact h pins _ σ H xs _ Q I1 (by simpa using rv) hw
def gSub(to ti:TE)(t:TSet):TG:=fun v σ H Q=>to σ H fun o H1=>ti σ H1 fun i H2=>t o i v H2 fun H3=>Q σ H3
theorem W5{o i:Expr}{to ti:TE}{t:TSet}(ho:PE X o to)(hi:PE X i ti)(hs:PSet X t)
  (ha:∀v,assign (.Subscript o i pos) X.env v=(do
   let ov ← holding [v] (eval o X.env)
   let iv ← holding [v,ov] (eval i X.env)
   standAt pos
   holding [v,ov,iv] (setItem ov iv v)
   release [v,ov,iv] []):=by intro _;rfl):PG X (.Subscript o i pos) (gSub to ti t):=by
 intro pins s σ H v u Q I r h
 rw[ha]
 refine wpAny_bind (wpAny_holding (thn (ho pins s σ H _ I h) fun ov s1 ⟨x,H1,I1,r1,q1⟩=>?_))
 refine wpAny_bind (wpAny_holding (thn (hi pins s1 σ H1 _ I1 q1) fun iv s2 ⟨y,H2,I2,r2,q2⟩=>?_))
 refine wpAny_bind (wpAny_standAt (wpAny_bind (wpAny_holding (thn (hs pins s2 σ H2 x y v ov iv u _ I2 r1 r2 r q2) fun _ s3 ⟨H3,I3,q3⟩=>?_))))
 exact wpAny_release ⟨σ,H3,I3,q3⟩
def tAsg(te:TE)(g:TG):TS:=fun D σ H=>te σ H fun x H1=>g x σ H1 D.nx
theorem Oz{tg e:Expr}{te:TE}{g:TG}(he:PE X e te)(hg:PG X tg g)(hs:swapsWithSole [tg] e pos.line X.env=pure false:=by rfl)(hw:swappedStores [tg] e X.env=pure none:=by rfl)
  (h1:(assignEach [tg] X.env).map (·.2)=[assign tg X.env]:=by rfl):PS X (.Assign [tg] e pos) (tAsg te g):=by
 intro pins s σ H D I h
 refine wpAny_Assign_stores (thn (he pins s σ H _ I h) fun v s1 ⟨x,H1,I1,r1,q1⟩=>?_) hs hw
 rw[h1]
 exact thn (hg pins s1 σ H1 x v _ I1 r1 q1) fun _ s2 q=>q
theorem ps_set{i:Nat}{x:Str}{e:Expr}{te:TE}{pos':Pos}(hN:X.N.Nodup)(hi:X.N[i]?=some x)(hx:Loc X.env.scope x)(he:PE X e te)(hs:swapsWith e (some (.Name x pos')) pos.line X.env=pure false:=by rfl)(hf:X.fn x=true\/X.env.scope.names.lookup x=some .local:=by first|exact .inl rfl|exact .inr rfl|assumption):
  PS X (.Assign [.Name x pos'] e pos) (tAsg te (Gg i)):=by
 intro pins s σ H D I h
 refine wpAny_Assign_Name (thn (he pins s σ H _ I h) fun v s1 ⟨y,H1,I1,r1,q1⟩=>?_) hs
 exact Ib I1 hN hi hx r1 (fun s2 I2=>⟨_,H1,I2,q1⟩) hf
end
section
variable{X:Cx}{pos:Pos}
def Ym(c:TT)(tb:TS):TS:=fun D σ H=>∃W:Nat->St->Hp->Prop,(∃m,W m σ H)/\∀m σ H,W m σ H →
 c σ H fun b H1=>if b=true then ∃N:St->Hp->Prop,(∀ σ' H',N σ' H'->∃m',m'<m/\W m' σ' H')/\tb { D with nx:=N,ct:=N,bk:=D.nx } σ H1 else D.nx σ H1
theorem Pb{c:Expr}{body:List Stmt}{tc:TT}{tb:TS}(hp:PassesOwn (model X.prog X.w) X.A X.env X.xe)(hc:PT X c tc)(hb:PSs X body tb):PS X (.While c body [] pos) (Ym tc tb):=by
 intro pins s σ H D I h
 obtain⟨W,⟨m0,w0⟩,turn⟩:=h
 refine wpAny_While (codeAny_whileLoop (fun n s'=>∃ σ' H',Inv X pins σ' H' s'/\W n σ' H') ?_ m0 ⟨σ,H,I,w0⟩)
 rintro n s1 ⟨σ1,H1,I1,w1⟩
 refine wpAny_passesOwn hp (thn (hc pins s1 σ1 H1 _ I1 (turn n σ1 H1 w1)) fun b s2 ⟨H2,I2,q2⟩=>?_)
 cases b with
 |true =>
  obtain⟨N,hN,q2⟩:=q2
  rw[if_pos rfl]
  refine wpAny_passesOwn hp (thn (hb pins s2 σ1 H2 _ I2 q2) fun f s3 q3=>?_)
  cases f with
  |next =>
   obtain⟨σ3,H3,I3,n3⟩:=q3
   obtain⟨m',hm,w3⟩:=hN σ3 H3 n3
   exact⟨m',hm,σ3,H3,I3,w3⟩
  |cont =>
   obtain⟨σ3,H3,I3,n3⟩:=q3
   obtain⟨m',hm,w3⟩:=hN σ3 H3 n3
   exact⟨m',hm,σ3,H3,I3,w3⟩
  |brk=>exact q3
  |ret v=>exact q3
 |false =>
  rw[if_neg Bool.false_ne_true]
  exact wpAny_execs_nil ⟨σ1,H2,I2,q2⟩
end
structure It where
 go:Nat->Hp->Prop
 yld:Nat->Hp->V->Hp->Prop
 stop:Nat->Hp->Prop
def FpOk(X:Cx)(pins:List (Addr×Obj))(H:Hp)(b:Addr):Prop :=
 H b=none/\b≠X.env.locals/\b ∉ X.fs/\(b∈X.ex\/X.s₀.heap.objs.size<=b)/\(∀x c,X.env.cells.lookup x=some c->c≠b)/\∀p∈X.pn++pins,p.1≠b
theorem Inv.fpOk{X:Cx}{pins:List (Addr×Obj)}{σ:St}{H H':Hp}{s:Shared}{b:Addr}(I:Inv X pins σ H s)(hb:s.heap.objs.size<=b)(hn:H' b=none):FpOk X pins H' b:=by
 refine⟨hn,Nat.ne_of_gt (Nat.lt_of_lt_of_le I.lt hb),I.nofs hb,.inr (Nat.le_trans I.sz hb),fun x c e z=>?_,fun p hp z=>?_⟩
 ·obtain⟨v,q⟩:=I.cell x c e
  exact absurd (Nat.lt_of_lt_of_le q.lt (by rw[z];exact hb)) (Nat.lt_irrefl _)
 ·exact absurd (Nat.lt_of_lt_of_le (Heap.lt_size (I.pin p hp).1) (by rw[z];exact hb)) (Nat.lt_irrefl _)
structure Turn(P:Program)(w:World)(K:PySem.W.Frag)(tg:Expr)(J:It)(fp:List Addr)(it:Addr)(tn:Nat->Heap->Prop):Prop where
 mem:it∈fp
 obj:∀i h,tn i h->∀b∈fp,∃o,h.get? b=some o/\∀v,o.data≠.cell v
 keep:∀i h h',tn i h->(∀b∈fp,∀o,h.get? b=some o->h'.get? b=some o)->tn i h'
 item:∀(X:Cx),X.prog=P->X.w=w->X.K=K->X.calm=true->∀(i:Nat) (pins:List (Addr×Obj)) (s:Shared) (σ:St) (H:Hp) (E:Value->Shared->Prop),Inv X pins σ H s->(∀b∈fp,FpOk X pins H b)->tn i s.heap->J.go i H →
  wpAny (model P w) X.A (pyNext (.ref it)) (fun r s1=>∃u,r=some u ∧
   wpAny (model P w) X.A (letOwnedTupleGo tg (.ref it) u) (fun _ s2=>∃x H',Inv X pins σ H' s2/\RelV x u/\J.yld i H x H'/\tn (i+1) s2.heap/\∀b∈fp,H' b=none) E s1) E s
 done:∀(X:Cx),X.prog=P->X.w=w->X.K=K->X.calm=true->∀(i:Nat) (pins:List (Addr×Obj)) (s:Shared) (σ:St) (H:Hp) (E:Value->Shared->Prop),Inv X pins σ H s->(∀b∈fp,FpOk X pins H b)->tn i s.heap->J.stop i H →
  wpAny (model P w) X.A (pyNext (.ref it)) (fun r s1=>r=none/\Inv X pins σ H s1) E s
 self:∀(A:Around) (i:Nat) (s:Shared) (Q:Value->Shared->Prop) (E:Value->Shared->Prop),tn i s.heap->Q (.ref it) s->wpAny (model P w) A (pyIter (.ref it)) Q E s
abbrev TI:=St->Hp->(It->Hp->Prop)->Prop
def PIE(X:Cx)(pins:List (Addr×Obj))(σ:St)(tg:Expr)(R:It->Hp->Prop)(itv:Value)(s2:Shared):Prop :=
 ∃(it:Addr) (fp:List Addr) (tn:Nat->Heap->Prop) (J:It) (H':Hp),itv=.ref it/\Inv X pins σ H' s2/\Turn X.prog X.w X.K tg J fp it tn/\tn 0 s2.heap/\(∀b∈fp,FpOk X pins H' b)/\R J H'
def PI(X:Cx)(tg iter:Expr)(wi:TI):Prop :=
 ∀(pins:List (Addr×Obj)) (s:Shared) (σ:St) (H:Hp) (R:It->Hp->Prop),Inv X pins σ H s->wi σ H R →
  wpAny (model X.prog X.w) X.A (eval iter X.env) (fun v s1=>wpAny (model X.prog X.w) X.A (pyIter v) (PIE X pins σ tg R) X.xe s1) X.xe s
theorem P9 {M:Model} {A:Around} {E:Value->Shared->Prop} {s:Shared} {tg:Expr} {it:Addr} {u:Value} {o:Obj} {n:String} {vs:Array Value} {Q:Unit->Shared->Prop} (ho:s.heap.get? it = some o) (hc:o.cls = .type n) (hd:o.data = .fields vs)
    (hn:["enumerate","zip","dict_itemiterator","dict_reverseitemiterator","odict_iterator","itertools.zip_longest","itertools.pairwise"].contains n = false) (hQ:Q () s):wpAny M A (letOwnedTupleGo tg (.ref it) u) Q E s:=by
  unfold letOwnedTupleGo
  cases tg <;> first
    | exact wpAny_pure hQ
    | (cases u <;> first
        | exact wpAny_pure hQ
        | (refine wpAny_bind (wpAny_load ho ?_)
           rw [hc,hd]
           show wpAny M A (if (["enumerate","zip","dict_itemiterator","dict_reverseitemiterator","odict_iterator","itertools.zip_longest","itertools.pairwise"].contains n && vs[0]? == some (rawInt _)) = true then _ else _) Q E s
           rw [if_neg (by intro h;rw [hn,Bool.false_and] at h;cases h)]
           exact wpAny_pure hQ))
def Itl(K:PySem.W.Frag)(a:Addr):It :=
 ⟨fun i H=>∃xs x,SqL K H a xs/\xs[i]?=some x,fun i H x H'=>H'=H/\∀xs,SqL K H a xs->xs[i]?=some x,fun i H=>∃xs,SqL K H a xs/\xs.length<=i⟩
def Itt(K:PySem.W.Frag)(a:Addr):It :=
 ⟨fun i H=>∃xs x,SqT K H a xs/\xs[i]?=some x,fun i H x H'=>H'=H/\∀xs,SqT K H a xs->xs[i]?=some x,fun i H=>∃xs,SqT K H a xs/\xs.length<=i⟩
def Itr(lo:Int)(n:Nat):It:=⟨fun i _=>i<n,fun i H x H'=>H'=H/\x=.int (lo+i),fun i _=>n<=i⟩
theorem Go{P:Program}{w:World}{K:PySem.W.Frag}{tg:Expr}(a it:Addr):Turn P w K tg (Itl K a) [it] it (fun i h=>h.IsListIter it a i) where
 mem:=by simp
 obj:=fun i h st b hb=>by
  have e:b=it:=by simpa using hb
  subst e
  obtain⟨o,e,c,d⟩:=st
  exact⟨o,e,fun v z=>by rw[d] at z;cases z⟩
 keep:=fun i h h' st k=>st.at fun o e=>k it (by simp) o e
 item:=by
  intro X hP hw hK hc i pins s σ H E I hf st hg
  subst hP hw hK
  obtain⟨xs,x,hq,hx⟩:=hg
  obtain⟨its,rv,p,hz⟩:=I.list hq
  obtain⟨u,hu,ru⟩:=rv.get hx
  obtain⟨f0,f1,f2,f3,f4,f5⟩:=hf it (by simp)
  refine wpAny_pyNext_list_item st p.isList (x:=u) (by simpa using hu) fun h' st' sb=>?_
  have I1:Inv X pins σ H { s with heap:=h' }:=I.turned (t':=s.toks) (fun b o hb e=>(sb.2 b hb).trans e) f0 f1 f3 f4 f5
  obtain⟨o,e,c,d⟩:=id st'
  exact⟨u,rfl,P9 (s:={ s with heap:=h' }) e c d (by decide) ⟨x,H,I1,ru,⟨rfl,fun ys hy=>by rw[I.list_inj hy hq];exact hx⟩,st',fun b hb=>(hf b hb).1⟩⟩
 done:=by
  intro X hP hw hK hc i pins s σ H E I hf st hg
  subst hP hw hK
  obtain⟨xs,hq,hx⟩:=hg
  obtain⟨its,rv,p,hz⟩:=I.list hq
  obtain⟨f0,f1,f2,f3,f4,f5⟩:=hf it (by simp)
  have hl:=rv.length
  exact wpAny_pyNext_list_end (I.ok.hd hc) st p.isList (by simp;omega) fun h' eb=>⟨rfl,I.turned (t':=s.toks) (fun b o hb e=>eb b o hb e) f0 f1 f3 f4 f5⟩
 self:=fun _ _ _ _ _ st h=>wpAny_pyIter_listiter st h
theorem Fq{P:Program}{w:World}{K:PySem.W.Frag}{tg:Expr}(a it:Addr):Turn P w K tg (Itt K a) [it] it (fun i h=>h.IsTupleIter it a i) where
 mem:=by simp
 obj:=fun i h st b hb=>by
  have e:b=it:=by simpa using hb
  subst e
  obtain⟨o,e,c,d⟩:=st
  exact⟨o,e,fun v z=>by rw[d] at z;cases z⟩
 keep:=fun i h h' st k=>st.at fun o e=>k it (by simp) o e
 item:=by
  intro X hP hw hK hc i pins s σ H E I hf st hg
  subst hP hw hK
  obtain⟨xs,x,hq,hx⟩:=hg
  obtain⟨its,rv,p,hz⟩:=I.tuple hq
  obtain⟨u,hu,ru⟩:=rv.get hx
  obtain⟨f0,f1,f2,f3,f4,f5⟩:=hf it (by simp)
  refine wpAny_pyNext_tuple_item st (show s.heap.IsTuple a its.toArray from p) (x:=u) (by simpa using hu) fun h' st' sb=>?_
  have I1:Inv X pins σ H { s with heap:=h' }:=I.turned (t':=s.toks) (fun b o hb e=>(sb.2 b hb).trans e) f0 f1 f3 f4 f5
  obtain⟨o,e,c,d⟩:=id st'
  exact⟨u,rfl,P9 (s:={ s with heap:=h' }) e c d (by decide) ⟨x,H,I1,ru,⟨rfl,fun ys hy=>by rw[I.tuple_inj hy hq];exact hx⟩,st',fun b hb=>(hf b hb).1⟩⟩
 done:=by
  intro X hP hw hK hc i pins s σ H E I hf st hg
  subst hP hw hK
  obtain⟨xs,hq,hx⟩:=hg
  obtain⟨its,rv,p,hz⟩:=I.tuple hq
  obtain⟨f0,f1,f2,f3,f4,f5⟩:=hf it (by simp)
  have hl:=rv.length
  exact wpAny_pyNext_tuple_end (I.ok.hd hc) st (show s.heap.IsTuple a its.toArray from p) (by simp;omega) fun h' eb=>⟨rfl,I.turned (t':=s.toks) (fun b o hb e=>eb b o hb e) f0 f1 f3 f4 f5⟩
 self:=fun _ _ _ _ _ st h=>wpAny_pyIter_tupleiter st h
theorem Kq{P:Program}{w:World}{K:PySem.W.Frag}{tg:Expr}(it:Addr)(lo:Int)(n:Nat):Turn P w K tg (Itr lo n) [it] it (fun i h=>IsRangeIter h it (lo+(i:Nat) * 1) ((n:Int) - (i:Nat)) 1) where
 mem:=by simp
 obj:=fun i h st b hb=>by
  have e:b=it:=by simpa using hb
  subst e
  exact⟨_,st,fun v z=>by
   have z':Data.fields _=Data.cell v:=z
   cases z'⟩
 keep:=fun i h h' st k=>k it (by simp) _ st
 item:=by
  intro X hP hw hK hc i pins s σ H E I hf st hg
  subst hP hw hK
  obtain⟨f0,f1,f2,f3,f4,f5⟩:=hf it (by simp)
  have W:=Walks.range (prog:=X.prog) (w:=X.w) (I.ok.hd hc) it lo 1 n
  refine W.item i s _ _ hg st fun v h' tk hv st' kk=>?_
  obtain⟨t,rfl⟩:=hv
  have I1:Inv X pins σ H { s with heap:=h',toks:=tk }:=I.turned (fun b o hb e=>kk b o (by simpa using hb) e) f0 f1 f3 f4 f5
  refine⟨_,rfl,P9 (s:={ s with heap:=h',toks:=tk }) (n:="range_iterator") st' rfl rfl (by decide) ⟨.int (lo+i),H,I1,⟨t,?_⟩,⟨rfl,rfl⟩,st',fun b hb=>(hf b hb).1⟩⟩
  rw[Int.mul_one]
 done:=by
  intro X hP hw hK hc i pins s σ H E I hf st hg
  subst hP hw hK
  obtain⟨f0,f1,f2,f3,f4,f5⟩:=hf it (by simp)
  exact wpAny_pyNext_range_end (I.ok.hd hc) st (by have:n<=i:=hg;omega) fun h' eb=>⟨rfl,I.turned (t':=s.toks) (fun b o hb e=>eb b o hb e) f0 f1 f3 f4 f5⟩
 self:=fun _ _ _ _ _ st h=>wpAny_pyIter_rangeiter st h
end L2
namespace L2
open PySem PySem.Spec PyProof.Rows
section
variable{X:Cx}{tg:Expr}
theorem So{pins:List (Addr×Obj)}{σ:St}{H:Hp}{s:Shared}{R:It->Hp->Prop}{E:Value->Shared->Prop}{lo hi:Int}{t u v:Tok}{tk:Nat}(I:Inv X pins σ H s)(h1:-(2 ^ 62)<=lo)(h2:lo<2 ^ 62)(h3:-(2 ^ 62)<=hi)(h4:hi<2 ^ 62)
  (q:R (Itr lo (hi - lo).toNat) H):wpAny (model X.prog X.w) X.A (pyIter (.ref s.heap.objs.size)) (PIE X pins σ tg R) E { s with heap:=s.heap.push { cls:=.type "range",data:=.fields #[.int lo t,.int hi u,.int 1 v] },toks:=tk }:=by
 refine wpAny_pyIter_range (IsRange.new ..) (small_one h1 h2 h3 h4) ?_
 have I1:Inv X pins σ H { s with heap:=s.heap.push { cls:=.type "range",data:=.fields #[.int lo t,.int hi u,.int 1 v] },toks:=tk }:=I.kept fun b o e=>Heap.get?_push_of_some _ e
 refine⟨(s.heap.push { cls:=.type "range",data:=.fields #[.int lo t,.int hi u,.int 1 v] }).objs.size,[(s.heap.push { cls:=.type "range",data:=.fields #[.int lo t,.int hi u,.int 1 v] }).objs.size],_,_,H,rfl,
  I1.kept (t':=tk) fun b o e=>Heap.get?_push_of_some _ e,Kq _ lo (hi - lo).toNat,?_,fun b hb=>?_,q⟩
 ·have e1:lo+((0:Nat):Int) * 1=lo:=by simp
  have e2:(((hi - lo).toNat:Nat):Int) - ((0:Nat):Int)=Builtin.Range.rangeSize lo hi 1:=by rw[rangeSize_one];split <;> omega
  show IsRangeIter _ _ (lo+((0:Nat):Int) * 1) ((((hi - lo).toNat:Nat):Int) - ((0:Nat):Int)) 1
  rw[e1,e2]
  exact Heap.get?_push_size _ rfl
 ·have e:b=(s.heap.push { cls:=.type "range",data:=.fields #[.int lo t,.int hi u,.int 1 v] }).objs.size:=by simpa using hb
  subst e
  exact I1.fpOk (Nat.le_refl _) (I1.hok.fresh (Nat.le_refl _))
def iRng1(ta:TA):TI:=fun σ H R=>ta σ H fun vs H1=>∃j:Int,vs=[.int j]/\-(2 ^ 62)<=j/\j<2 ^ 62/\R (Itr 0 j.toNat) H1
theorem Mv{a:Expr}{ta:TA}{p pos:Pos}(hg:Gl X "range")(hm:X.mg "range"=none)(ha:PA X [a] ta)(hs:starEach [a] X.env=[(false,eval a X.env)]:=by rfl):PI X tg (.Call (.Name "range" p) [a] [] pos) (iRng1 ta):=by
 intro pins s σ H R I h
 refine Call_ (Br I hg hm boot_range (PyProof.Rows.callWith_type1 (thn (ha pos pins s σ H _ I h) fun us s1 ⟨vs,H1,I1,r1,q1⟩=>?_) hs rfl))
 obtain⟨j,e,q1,q2,q⟩:=q1
 subst e
 cases r1 with
 |cons r rr =>
  cases rr
  obtain⟨t,rfl⟩:=r
  exact call_range_1 (So I1 (by omega) (by omega) q1 q2 (by simpa using q))
def tFor(wi:TI)(g:TG)(tb:TS):TS:=fun D σ H=>wi σ H fun J H1=>∃W:Nat->Nat->St->Hp->Prop,(∃m,W 0 m σ H1)/\∀i m σ H,W i m σ H →
 (J.stop i H/\D.nx σ H)\/(J.go i H/\∃N:St->Hp->Prop,(∀ σ' H',N σ' H'->∃m',m'<m/\W (i+1) m' σ' H')/\∀x H',J.yld i H x H'->g x σ H' fun σ2 H2=>tb { D with nx:=N,ct:=N,bk:=D.nx } σ2 H2)
def pinsAt(fp:List Addr)(h:Heap):List (Addr×Obj):=fp.filterMap fun b=>(h.get? b).map fun o=>(b,o)
theorem Bb{fp:List Addr}{h:Heap}{b:Addr}{o:Obj}(hb:b∈fp)(e:h.get? b=some o):(b,o)∈pinsAt fp h:=List.mem_filterMap.mpr ⟨b,hb,by rw[e];rfl⟩
theorem Nh{fp:List Addr}{h:Heap}{p:Addr×Obj}(hp:p∈pinsAt fp h):p.1∈fp/\h.get? p.1=some p.2:=by
 obtain⟨b,hb,e⟩:=List.mem_filterMap.mp hp
 cases q:h.get? b with
 |none=>rw[q] at e;cases e
 |some o =>
  rw[q] at e
  have e':(b,o)=p:=Option.some.inj e
  subst e'
  exact⟨hb,q⟩
theorem Inv.pinned{pins:List (Addr×Obj)}{σ:St}{H:Hp}{s:Shared}{fp:List Addr}(I:Inv X pins σ H s)(hf:∀b∈fp,FpOk X pins H b)(ho:∀b∈fp,∃o,s.heap.get? b=some o/\∀v,o.data≠.cell v):Inv X (pins++pinsAt fp s.heap) σ H s :=
 I.pins_of fun p hp=>(List.mem_append.mp hp).elim (fun z=>I.pin p (List.mem_append_right _ z)) fun z=>by
  obtain⟨hb,e⟩:=Nh z
  obtain⟨f0,f1,f2,_⟩:=hf p.1 hb
  obtain⟨o,e',d⟩:=ho p.1 hb
  rw[e] at e';cases e'
  exact⟨e,f0,f1,f2,d⟩
theorem Inv.unpinned{pins pl:List (Addr×Obj)}{σ:St}{H:Hp}{s:Shared}(I:Inv X (pins++pl) σ H s):Inv X pins σ H s:=I.pins_of fun p hp=>I.pin p (List.mem_append_right _ (List.mem_append_left _ hp))
theorem P2{iter:Expr}{body:List Stmt}{wi:TI}{g:TG}{tb:TS}{pos:Pos}(hp:PassesOwn (model X.prog X.w) X.A X.env X.xe)(hc:X.calm=true)(hi:PI X tg iter wi)(hg:PG X tg g)(hb:PSs X body tb)
  (hs:∀x,foldedSetIterable iter X.env x=pure x:=by intro _;rfl):PS X (.For tg iter body [] pos) (tFor wi g tb):=by
 intro pins s σ H D I h
 refine wpAny_For (thn (hi pins s σ H _ I h) fun v s1 h1=>thn h1 fun itv s2 h2=>?_) hs
 obtain⟨it,fp,tn,J,H2,e,I2,T,st2,f2,W,⟨m0,w0⟩,turn⟩:=h2
 subst e
 have stat:∀{H':Hp},(∀b∈fp,H' b=none)->∀b∈fp,FpOk X pins H' b:=fun hn b hb=>⟨hn b hb,(f2 b hb).2⟩
 refine codeAny_forLoop_any (fun n s'=>∃i σ' H',Inv X pins σ' H' s'/\tn i s'.heap/\(∀b∈fp,H' b=none)/\W i n σ' H') ?_ m0 ⟨0,σ,H2,I2,st2,fun b hb=>(f2 b hb).1,w0⟩
 rintro n s3 ⟨i,σ3,H3,I3,st3,fr3,w3⟩
 rcases turn i n σ3 H3 w3 with⟨stop,qn⟩|⟨go,N,hN,step⟩
 ·refine wpAny_passesOwn hp (thn (T.done X rfl rfl rfl hc i pins s3 σ3 H3 X.xe I3 (stat fr3) st3 stop) fun r s4 ⟨hr,I4⟩=>?_)
  subst hr
  exact wpAny_execs_nil ⟨σ3,H3,I4,qn⟩
 ·refine wpAny_passesOwn hp (thn (T.item X rfl rfl rfl hc i pins s3 σ3 H3 X.xe I3 (stat fr3) st3 go) fun r s4 ⟨u,hr,h4⟩=>?_)
  subst hr
  refine wpAny_passesOwn hp (thn h4 fun _ s5 ⟨x,H5,I5,r5,y5,st5,fr5⟩=>?_)
  have I5':=I5.pinned (stat fr5) (T.obj _ _ st5)
  refine wpAny_passesOwn hp (thn (hg _ s5 σ3 H5 x u _ I5' r5 (step x H5 y5)) fun _ s6 ⟨σ6,H6,I6,q6⟩=>?_)
  refine wpAny_passesOwn hp (thn (hb _ s6 σ6 H6 _ I6 q6) fun f s7 q7=>?_)
  have again:∀{σ7:St} {H7:Hp},Inv X (pins++pinsAt fp s5.heap) σ7 H7 s7->N σ7 H7->∃m,m<n/\∃i σ' H',Inv X pins σ' H' s7/\tn i s7.heap/\(∀b∈fp,H' b=none)/\W i m σ' H':=fun {σ7 H7} I7 n7=>by
   obtain⟨m',hm,w7⟩:=hN σ7 H7 n7
   refine⟨m',hm,i+1,σ7,H7,I7.unpinned,T.keep _ _ _ st5 fun b hb o e=>(I7.pin (b,o) (List.mem_append_right _ (List.mem_append_right _ (Bb hb e)))).1,fun b hb=>?_,w7⟩
   obtain⟨o,e,d⟩:=T.obj _ _ st5 b hb
   exact(I7.pin (b,o) (List.mem_append_right _ (List.mem_append_right _ (Bb hb e)))).2.1
  cases f with
  |next=>obtain⟨σ7,H7,I7,n7⟩:=q7;exact again I7 n7
  |cont=>obtain⟨σ7,H7,I7,n7⟩:=q7;exact again I7 n7
  |brk=>obtain⟨σ7,H7,I7,q7⟩:=q7;exact⟨σ7,H7,I7.unpinned,q7⟩
  |ret v=>obtain⟨x7,σ7,H7,I7,r7,q7⟩:=q7;exact⟨x7,σ7,H7,I7.unpinned,r7,q7⟩
end
end L2
namespace L2
open PySem PySem.Spec PyProof.Rows
abbrev R2:=V->V->Hp->VK->Prop
def OpR(X:Cx)(f:Value->Value->Sem Value)(r:R2):Prop :=
 ∀(pins:List (Addr×Obj)) (s:Shared) (σ:St) (H:Hp) (x y:V) (v u:Value) (Q:VK),Inv X pins σ H s->RelV x v->RelV y u->r x y H Q →
  wpAny (model X.prog X.w) X.A (f v u) (EP X pins σ Q) X.xe s
def UnR(X:Cx)(f:Value->Sem Value)(r:V->Hp->VK->Prop):Prop :=
 ∀(pins:List (Addr×Obj)) (s:Shared) (σ:St) (H:Hp) (x:V) (v:Value) (Q:VK),Inv X pins σ H s->RelV x v->r x H Q →
  wpAny (model X.prog X.w) X.A (f v) (EP X pins σ Q) X.xe s
def CallR(X:Cx)(f:Value)(r:List V->Hp->VK->Prop):Prop :=
 ∀(pins:List (Addr×Obj)) (s:Shared) (σ:St) (H:Hp) (xs:List V) (us:List Value) (Q:VK),Inv X pins σ H s->Vals xs us->r xs H Q →
  wpAny (model X.prog X.w) X.A (call f us) (EP X pins σ Q) X.xe s
def tOp(r:R2)(ta tb:TE):TE:=fun σ H Q=>ta σ H fun x H1=>tb σ H1 fun y H2=>r x y H2 Q
def tUn(r:V->Hp->VK->Prop)(ta:TE):TE:=fun σ H Q=>ta σ H fun x H1=>r x H1 Q
def rI(C:Int->Int->Prop)(g:Int->Int->V):R2:=fun x y H Q=>∃i j,x=.int i/\y=.int j/\C i j/\Q (g i j) H
def rI0(g:Int->Int->V):R2:=fun x y H Q=>∃i j,x=.int i/\y=.int j/\Q (g i j) H
def rU(g:Int->V):V->Hp->VK->Prop:=fun x H Q=>∃i,x=.int i/\Q (g i) H
section
variable{X:Cx}{a b c:Expr}{ta tb tc:TE}{pos:Pos}
theorem binT(ha:PE X a ta)(hb:PE X b tb){pins:List (Addr×Obj)}{s:Shared}{σ:St}{H:Hp}{R:V->V->Hp->Prop}(I:Inv X pins σ H s)
  (h:ta σ H fun x H1=>tb σ H1 fun y H2=>R x y H2) {Q:Value->Shared->Prop} {f:Value->Value->Sem Value}
  (hf:∀v u s2 x y H2,Inv X pins σ H2 s2->RelV x v->RelV y u->R x y H2->wpAny (model X.prog X.w) X.A (f v u) Q X.xe s2) :
  wpAny (model X.prog X.w) X.A (eval a X.env) (fun v s₁=>wpAny (model X.prog X.w) X.A (eval b X.env) (fun u s₂=>wpAny (model X.prog X.w) X.A (f v u) Q X.xe s₂) X.xe s₁) X.xe s:=by
 refine thn (ha pins s σ H _ I h) fun v s1 ⟨x,H1,I1,r1,q1⟩=>?_
 refine thn (hb pins s1 σ H1 _ I1 q1) fun u s2 ⟨y,H2,I2,r2,q2⟩=>?_
 exact hf v u s2 x y H2 I2 r1 r2 q2
theorem pe_op{op:Operator}{r:R2}(ho:OpR X (binaryOp op) r)(ha:PE X a ta)(hb:PE X b tb):PE X (.BinOp a op b pos) (tOp r ta tb):=by
 intro pins s σ H Q I h
 exact wpAny_BinOp (binT ha hb I h fun v u s2 x y H2 I2 rx ry q=>ho pins s2 σ H2 x y v u Q I2 rx ry q)
theorem Vy{op:UnaryOp}{r:V->Hp->VK->Prop}(ho:UnR X (unaryOp op) r)(ha:PE X a ta):PE X (.UnaryOp op a pos) (tUn r ta):=by
 intro pins s σ H Q I h
 exact UnaryOp_ (thn (ha pins s σ H _ I h) fun v s1 ⟨x,H1,I1,r1,q1⟩=>ho pins s1 σ H1 x v Q I1 r1 q1)
theorem opI{f:Value->Value->Sem Value}{C:Int->Int->Prop}{g:Int->Int->Int}
  (rule:∀(i j:Int) (t u:Tok) (s:Shared) (Q:Value->Shared->Prop) (E:Value->Shared->Prop),C i j->Q (.int (g i j) s.toks) { s with toks:=s.toks+1 }->wpAny (model X.prog X.w) X.A (f (.int i t) (.int j u)) Q E s) :
  OpR X f (rI C fun i j=>.int (g i j)):=by
 intro pins s σ H x y v u Q I rx ry h
 obtain⟨i,j,rfl,rfl,hc,q⟩:=h
 obtain⟨t,rfl⟩:=rx
 obtain⟨t',rfl⟩:=ry
 exact rule i j t t' s _ _ hc ⟨.int (g i j),H,I.tok _,⟨_,rfl⟩,q⟩
theorem opI0{f:Value->Value->Sem Value}{g:Int->Int->Int}
  (rule:∀(i j:Int) (t u:Tok) (s:Shared) (Q:Value->Shared->Prop) (E:Value->Shared->Prop),Q (.int (g i j) s.toks) { s with toks:=s.toks+1 }->wpAny (model X.prog X.w) X.A (f (.int i t) (.int j u)) Q E s) :
  OpR X f (rI0 fun i j=>.int (g i j)):=by
 intro pins s σ H x y v u Q I rx ry h
 obtain⟨i,j,rfl,rfl,q⟩:=h
 obtain⟨t,rfl⟩:=rx
 obtain⟨t',rfl⟩:=ry
 exact rule i j t t' s _ _ ⟨.int (g i j),H,I.tok _,⟨_,rfl⟩,q⟩
theorem opB0{f:Value->Value->Sem Value}{g:Int->Int->Bool}
  (rule:∀(i j:Int) (t u:Tok) (s:Shared) (Q:Value->Shared->Prop) (E:Value->Shared->Prop),Q (.bool (g i j)) s->wpAny (model X.prog X.w) X.A (f (.int i t) (.int j u)) Q E s) :
  OpR X f (rI0 fun i j=>.bl (g i j)):=by
 intro pins s σ H x y v u Q I rx ry h
 obtain⟨i,j,rfl,rfl,q⟩:=h
 obtain⟨t,rfl⟩:=rx
 obtain⟨t',rfl⟩:=ry
 exact rule i j t t' s _ _ ⟨.bl (g i j),H,I,rfl,q⟩
def CDiv(i j:Int):Prop:=0<j/\j<1073741824
def CMul(i j:Int):Prop:=(-(2 ^ 64)<i/\i<2 ^ 64)\/(-(2 ^ 64)<j/\j<2 ^ 64)
theorem CMul.ok{i j:Int}(h:CMul i j):IntMulOk i j:=by
 rcases h with⟨h1,h2⟩|⟨h1,h2⟩
 ·exact .of_left (intBits_le_64 h1 h2)
 ·exact .of_right (intBits_le_64 h1 h2)
theorem op_add:OpR X (binaryOp .Add) (rI0 fun i j=>.int (i+j)):=opI0 fun _ _ _ _ _ _ _ q=>add_int q
theorem Y7:OpR X (binaryOp .Sub) (rI0 fun i j=>.int (i - j)):=opI0 fun _ _ _ _ _ _ _ q=>sub_int q
theorem W6:OpR X (binaryOp .Mult) (rI CMul fun i j=>.int (i * j)):=opI fun _ _ _ _ _ _ _ hc q=>mul_int q hc.ok
theorem Tx:OpR X (binaryOp .FloorDiv) (rI CDiv fun i j=>.int (i / j)):=opI fun i j _ _ _ _ _ hc q=>by
 have h1:(0:Int)<j:=hc.1
 have h2:j<1073741824:=hc.2
 exact floordiv_int (by omega) (by rw[Int.fdiv_eq_ediv_of_nonneg i (by omega)];exact q) (.inl (PyProof.noPylong_small (by omega)))
theorem Z0:OpR X (binaryOp .Mod) (rI (fun _ j=>0<j) fun i j=>.int (i % j)):=opI fun i j _ _ _ _ _ hc q=>by
 have h1:(0:Int)<j:=hc
 exact mod_int' (by omega) (by rw[Int.fmod_eq_emod_of_nonneg i (by omega)];exact q)
theorem unI{f:Value->Sem Value}{g:Int->Int}
  (rule:∀(i:Int) (t:Tok) (s:Shared) (Q:Value->Shared->Prop) (E:Value->Shared->Prop),Q (.int (g i) s.toks) { s with toks:=s.toks+1 }->wpAny (model X.prog X.w) X.A (f (.int i t)) Q E s) :
  UnR X f (rU fun i=>.int (g i)):=by
 intro pins s σ H x v Q I rx h
 obtain⟨i,rfl,q⟩:=h
 obtain⟨t,rfl⟩:=rx
 exact rule i t s _ _ ⟨.int (g i),H,I.tok _,⟨_,rfl⟩,q⟩
theorem Qc:UnR X (unaryOp .USub) (rU fun i=>.int (-i)):=unI fun _ _ _ _ _ q=>neg_int q
end
def scal:V->V->Bool
 | .non,.non=>true | .non,.int _=>true | .int _,.non=>true | .non,.bl _=>true | .bl _,.non=>true | .non,.str _=>true | .str _,.non=>true
 | .int _,.int _=>true | .bl _,.bl _=>true | .str _,.str _=>true | .byt _,.byt _=>true
 | .int _,.str _=>true | .str _,.int _=>true | .bl _,.str _=>true | .str _,.bl _=>true
 |_,_=>false
def rEq:R2:=fun x y H Q=>scal x y=true/\Q (.bl (decide (x=y))) H
def rNe:R2:=fun x y H Q=>scal x y=true/\Q (.bl (!decide (x=y))) H
theorem Hj{i j:Int}:decide (V.int i=V.int j)=(i==j):=by
 rw[Bool.eq_iff_iff]
 simp
theorem dec_bl{i j:Bool}:decide (V.bl i=V.bl j)=(i==j):=by
 rw[Bool.eq_iff_iff]
 simp
theorem Md{i j:Str}:decide (V.str i=V.str j)=(i==j):=by
 rw[Bool.eq_iff_iff]
 simp
theorem K9{i j:Array UInt8}:decide (V.byt i=V.byt j)=(i.toList==j.toList):=by
 rw[Bool.eq_iff_iff]
 cases i
 cases j
 simp
section
variable{X:Cx}{a b c:Expr}{ta tb tc:TE}{pos:Pos}
theorem Xr{pins:List (Addr×Obj)}{σ:St}{H:Hp}{s:Shared}{Q:VK}{k k':Bool}(I:Inv X pins σ H s)(q:Q (.bl k) H)(e:k=k'):EP X pins σ Q (.bool k') s:=by
 subst e
 exact⟨.bl k,H,I,rfl,q⟩
theorem op_eq:OpR X (compareOp .Eq) rEq:=by
 intro pins s σ H x y v u Q I rx ry h
 obtain⟨hs,q⟩:=h
 cases x with
 |non =>
  cases rx
  cases y with
  |non=>cases ry;exact PySem.EqNone.eq_none_none (Xr I q (by simp))
  |bl j=>cases ry;exact PySem.EqNone.eq_none_bool (Xr I q (by simp))
  |int j=>obtain⟨t',rfl⟩:=ry;exact PySem.EqNone.eq_none_int (Xr I q (by simp))
  |str j=>obtain⟨t',rfl⟩:=ry;exact PySem.EqNone.eq_none_str (Xr I q (by simp))
  |_=>exact absurd (show false=true from hs) Bool.false_ne_true
 |bl i =>
  cases rx
  cases y with
  |non=>cases ry;exact PySem.EqNone.eq_bool_none (Xr I q (by simp))
  |bl j=>cases ry;exact eq_bool (Xr I q dec_bl)
  |str j=>obtain⟨t',rfl⟩:=ry;exact PySem.EqMixed.eq_bool_str (Xr I q (by simp))
  |_=>exact absurd (show false=true from hs) Bool.false_ne_true
 |int i =>
  obtain⟨t,rfl⟩:=rx
  cases y with
  |non=>cases ry;exact PySem.EqNone.eq_int_none (Xr I q (by simp))
  |int j=>obtain⟨t',rfl⟩:=ry;exact eq_int (Xr I q Hj)
  |str j=>obtain⟨t',rfl⟩:=ry;exact PySem.EqMixed.eq_int_str (Xr I q (by simp))
  |_=>exact absurd (show false=true from hs) Bool.false_ne_true
 |str i =>
  obtain⟨t,rfl⟩:=rx
  cases y with
  |non=>cases ry;exact PySem.EqNone.eq_str_none (Xr I q (by simp))
  |bl j=>cases ry;exact PySem.EqMixed.eq_str_bool (Xr I q (by simp))
  |int j=>obtain⟨t',rfl⟩:=ry;exact PySem.EqMixed.eq_str_int (Xr I q (by simp))
  |str j=>obtain⟨t',rfl⟩:=ry;exact eq_str (Xr I q Md)
  |_=>exact absurd (show false=true from hs) Bool.false_ne_true
 |byt i =>
  obtain⟨t,rfl⟩:=rx
  cases y with
  |byt j=>obtain⟨t',rfl⟩:=ry;exact PySem.W.eq_bytes (Xr I q K9)
  |_=>exact absurd (show false=true from hs) Bool.false_ne_true
 |_=>cases y <;> exact absurd (show false=true from hs) Bool.false_ne_true
theorem op_ne:OpR X (compareOp .NotEq) rNe:=by
 intro pins s σ H x y v u Q I rx ry h
 obtain⟨hs,q⟩:=h
 cases x with
 |non =>
  cases rx
  cases y with
  |non=>cases ry;exact PySem.EqNone.ne_none_none (Xr I q (by simp))
  |bl j=>cases ry;exact PySem.EqNone.ne_none_bool (Xr I q (by simp))
  |int j=>obtain⟨t',rfl⟩:=ry;exact PySem.EqNone.ne_none_int (Xr I q (by simp))
  |str j=>obtain⟨t',rfl⟩:=ry;exact PySem.EqNone.ne_none_str (Xr I q (by simp))
  |_=>exact absurd (show false=true from hs) Bool.false_ne_true
 |bl i =>
  cases rx
  cases y with
  |non=>cases ry;exact PySem.EqNone.ne_bool_none (Xr I q (by simp))
  |bl j=>cases ry;exact ne_bool (Xr I q (congrArg not dec_bl))
  |str j=>obtain⟨t',rfl⟩:=ry;exact PySem.EqMixed.ne_bool_str (Xr I q (by simp))
  |_=>exact absurd (show false=true from hs) Bool.false_ne_true
 |int i =>
  obtain⟨t,rfl⟩:=rx
  cases y with
  |non=>cases ry;exact PySem.EqNone.ne_int_none (Xr I q (by simp))
  |int j=>obtain⟨t',rfl⟩:=ry;exact ne_int (Xr I q (congrArg not Hj))
  |str j=>obtain⟨t',rfl⟩:=ry;exact PySem.EqMixed.ne_int_str (Xr I q (by simp))
  |_=>exact absurd (show false=true from hs) Bool.false_ne_true
 |str i =>
  obtain⟨t,rfl⟩:=rx
  cases y with
  |non=>cases ry;exact PySem.EqNone.ne_str_none (Xr I q (by simp))
  |bl j=>cases ry;exact PySem.EqMixed.ne_str_bool (Xr I q (by simp))
  |int j=>obtain⟨t',rfl⟩:=ry;exact PySem.EqMixed.ne_str_int (Xr I q (by simp))
  |str j=>obtain⟨t',rfl⟩:=ry;exact ne_str (Xr I q (congrArg not Md))
  |_=>exact absurd (show false=true from hs) Bool.false_ne_true
 |byt i =>
  obtain⟨t,rfl⟩:=rx
  cases y with
  |byt j=>obtain⟨t',rfl⟩:=ry;exact PySem.W.ne_bytes (Xr I q (congrArg not K9))
  |_=>exact absurd (show false=true from hs) Bool.false_ne_true
 |_=>cases y <;> exact absurd (show false=true from hs) Bool.false_ne_true
theorem Sa:OpR X (compareOp .Lt) (rI0 fun i j=>.bl (decide (i<j))):=opB0 fun _ _ _ _ _ _ _ q=>lt_int q
theorem op_le:OpR X (compareOp .LtE) (rI0 fun i j=>.bl (decide (i<=j))):=opB0 fun _ _ _ _ _ _ _ q=>le_int q
theorem op_gt:OpR X (compareOp .Gt) (rI0 fun i j=>.bl (decide (j<i))):=opB0 fun _ _ _ _ _ _ _ q=>gt_int q
theorem op_ge:OpR X (compareOp .GtE) (rI0 fun i j=>.bl (decide (j<=i))):=opB0 fun _ _ _ _ _ _ _ q=>ge_int q
theorem Ws:OpR X (compareOp .Is) (fun x y H Q=>y=.non/\Q (.bl (decide (x=.non))) H):=by
 intro pins s σ H x y v u Q I rx ry h
 obtain⟨rfl,q⟩:=h
 cases ry
 refine is_none_gen (Xr I q ?_)
 cases x <;> first
  |(cases rx;rfl)
  |(obtain⟨t,rfl⟩:=rx;rfl)
theorem Vk:OpR X (compareOp .IsNot) (fun x y H Q=>y=.non/\Q (.bl (!decide (x=.non))) H):=by
 intro pins s σ H x y v u Q I rx ry h
 obtain⟨rfl,q⟩:=h
 cases ry
 refine isnot_none_gen (Xr I q ?_)
 cases x <;> first
  |(cases rx;rfl)
  |(obtain⟨t,rfl⟩:=rx;rfl)
theorem OpR.or{f:Value->Value->Sem Value}{r r':R2}(h:OpR X f r)(h':OpR X f r'):OpR X f (fun x y H Q=>r x y H Q\/r' x y H Q):=by
 intro pins s σ H x y v u Q I rx ry q
 rcases q with q|q
 ·exact h pins s σ H x y v u Q I rx ry q
 ·exact h' pins s σ H x y v u Q I rx ry q
theorem Bo(b:Expr){op:CmpOp}(h:op≠.In:=by decide)(h2:op≠.NotIn:=by decide):behindInMarks op b=false:=by
 have e1:(op==CmpOp.In)=false:=by cases op <;> first|rfl|exact absurd rfl h
 have e2:(op==CmpOp.NotIn)=false:=by cases op <;> first|rfl|exact absurd rfl h2
 cases b <;> simp[behindInMarks,e1,e2]
theorem Uk{op:CmpOp}{r:R2}(ho:OpR X (compareOp op) r)(ha:PE X a ta)(hb:PE X b tb)(hm:behindInMarks op b=false):PE X (.Compare a [op] [b] pos) (tOp r ta tb):=by
 intro pins s σ H Q I h
 exact wpAny_Compare1 (binT ha hb I h fun v u s2 x y H2 I2 rx ry q=>ho pins s2 σ H2 x y v u Q I2 rx ry q) hm
def Q5(t:TE):TT:=fun σ H Q=>t σ H fun x H'=>∃k,x=.bl k/\Q k H'
theorem Ti{op:CmpOp}{r:R2}(ho:OpR X (compareOp op) r)(ha:PE X a ta)(hb:PE X b tb)(hm:behindInMarks op b=false):PT X (.Compare a [op] [b] pos) (Q5 (tOp r ta tb)):=by
 intro pins s σ H Q I h
 refine wpAny_isTrue_Compare1 (thn (ha pins s σ H _ I h) fun v s1 ⟨x,H1,I1,r1,q1⟩=>thn (hb pins s1 σ H1 _ I1 q1) fun u s2 ⟨y,H2,I2,r2,q2⟩ =>
  thn (ho pins s2 σ H2 x y v u _ I2 r1 r2 q2) fun c s3 ⟨z,H3,I3,r3,k,e,q3⟩=>?_) hm
 subst e
 cases r3
 exact wpAny_truthy_bool ⟨H3,I3,q3⟩
def Jq(r r':R2)(ta tb tc:TE):TE:=fun σ H Q=>ta σ H fun x H1=>tb σ H1 fun y H2=>r x y H2 fun z H3=>∃k,z=.bl k ∧
 (if k=true then tc σ H3 fun w' H4=>r' y w' H4 Q else Q (.bl false) H3)
theorem Rl{op op':CmpOp}{r r':R2}(ho:OpR X (compareOp op) r)(ho':OpR X (compareOp op') r')(ha:PE X a ta)(hb:PE X b tb)(hc:PE X c tc)
  (hm:lastMarks [op,op'] [b,c]=false:=by with_unfolding_all rfl):PE X (.Compare a [op,op'] [b,c] pos) (Jq r r' ta tb tc):=by
 intro pins s σ H Q I h
 refine Compare_chain (thn (ha pins s σ H _ I h) fun v s1 ⟨x,H1,I1,r1,q1⟩=>chain_link (thn (hb pins s1 σ H1 _ I1 q1) fun u s2 ⟨y,H2,I2,r2,q2⟩ =>
  thn (ho pins s2 σ H2 x y v u _ I2 r1 r2 q2) fun d s3 ⟨z,H3,I3,r3,k,e,q3⟩=>?_)) hm
 subst e
 cases r3
 refine wpAny_truthy_bool ?_
 cases k with
 |false=>exact ite_ff ⟨.bl false,H3,I3,rfl,q3⟩
 |true=>exact ite_tt (chain_last (thn (hc pins s3 σ H3 _ I3 q3) fun w' s4 ⟨z',H4,I4,r4,q4⟩=>ho' pins s4 σ H4 y z' u w' Q I4 r2 r4 q4))
theorem Qt{op op':CmpOp}{r r':R2}(ho:OpR X (compareOp op) r)(ho':OpR X (compareOp op') r')(ha:PE X a ta)(hb:PE X b tb)(hc:PE X c tc)
  (hm:lastMarks [op,op'] [b,c]=false:=by with_unfolding_all rfl):PT X (.Compare a [op,op'] [b,c] pos) (Q5 (Jq r r' ta tb tc)):=by
 intro pins s σ H Q I h
 refine isTrue_chain (thn (ha pins s σ H _ I h) fun v s1 ⟨x,H1,I1,r1,q1⟩=>test_link (thn (hb pins s1 σ H1 _ I1 q1) fun u s2 ⟨y,H2,I2,r2,q2⟩ =>
  thn (ho pins s2 σ H2 x y v u _ I2 r1 r2 q2) fun d s3 ⟨z,H3,I3,r3,k,e,q3⟩=>?_)) hm
 subst e
 cases r3
 refine wpAny_truthy_bool ?_
 cases k with
 |false =>
  obtain⟨k',e',q'⟩:=q3
  cases e'
  exact ite_ff ⟨H3,I3,q'⟩
 |true =>
  refine ite_tt (test_last (thn (hc pins s3 σ H3 _ I3 q3) fun w' s4 ⟨z',H4,I4,r4,q4⟩=>thn (ho' pins s4 σ H4 y z' u w' _ I4 r2 r4 q4) fun d' s5 ⟨z2,H5,I5,r5,k2,e2,q5⟩=>?_))
  subst e2
  cases r5
  exact wpAny_truthy_bool ⟨H5,I5,q5⟩
theorem D8:(sizeLine:Nat)<2 ^ 63:=by rw[sizeLine_eq];decide
theorem op_add_str:OpR X (binaryOp .Add) (fun x y H Q=>∃i j,x=.str i/\y=.str j/\i.length+j.length<=sizeLine/\Q (.str (i++j)) H):=by
 intro pins s σ H x y v u Q I rx ry h
 obtain⟨i,j,rfl,rfl,hz,q⟩:=h
 obtain⟨t,rfl⟩:=rx
 obtain⟨t',rfl⟩:=ry
 exact add_str (fun t' tk=>⟨.str (i++j),H,I.tok _,⟨_,rfl⟩,q⟩) hz
theorem Dg{x:V}{us:List Value}(r:Vals [x] us):∃u,us=[u]/\RelV x u:=by
 cases r with
 |cons r1 r2=>cases r2;exact⟨_,rfl,r1⟩
theorem P5{x y:V}{us:List Value}(r:Vals [x,y] us):∃u w',us=[u,w']/\RelV x u/\RelV y w':=by
 cases r with
 |cons r1 r2 =>
  cases r2 with
  |cons r3 r4=>cases r4;exact⟨_,_,rfl,r1,r3⟩
theorem Mw(hc:X.calm=true):CallR X (.builtin "max") (fun xs H Q=>∃i j,xs=[.int i,.int j]/\Q (.int (if j > i then j else i)) H):=by
 intro pins s σ H xs us Q I r h
 obtain⟨i,j,rfl,q⟩:=h
 obtain⟨u,w',rfl,⟨t,rfl⟩,⟨t',rfl⟩⟩:=P5 r
 refine max_two_ints (I.ok.hd hc) fun h' tk k=>⟨_,H,I.kept k,?_,q⟩
 by_cases hj:j > i
 ·rw[if_pos hj,if_pos hj];exact⟨_,rfl⟩
 ·rw[if_neg hj,if_neg hj];exact⟨_,rfl⟩
theorem Mn:CallR X (.type "int") (fun xs H Q=>(∃i,xs=[.int i]/\Q (.int i) H)\/∃k,xs=[.bl k]/\Q (.int (if k then 1 else 0)) H):=by
 intro pins s σ H xs us Q I r h
 rcases h with⟨i,rfl,q⟩|⟨k,rfl,q⟩
 ·obtain⟨u,rfl,t,rfl⟩:=Dg r
  exact call_int_int ⟨.int i,H,I,⟨_,rfl⟩,q⟩
 ·obtain⟨u,rfl,r1⟩:=Dg r
  cases r1
  exact call_int_bool ⟨.int (if k then 1 else 0),H,I.tok _,⟨_,rfl⟩,q⟩
end
end L2
namespace L2
open PySem PySem.Spec PyProof.Rows
structure ObjM(h:Heap)(x dx C:Addr)(mA:Str->Option Value):Prop where
 obj:h.get? x=some (PySem.W.instObj C dx)
 ns:h.Ns1 dx mA
 ne:dx≠x
theorem Ny{h:Heap}{dx:Addr}{mA:Str->Option Value}(n:h.Ns1 dx mA):∃od,h.get? dx=some od/\∀name,PySem.W.lookIn name od=some (mA name):=by
 obtain⟨o,es,ep,ho,hd,hk,_,hm⟩:=n
 refine⟨o,ho,fun name=>?_⟩
 have e:=hm name
 unfold nsFind findBy at e
 rw[<-Array.find?_toList] at e
 unfold PySem.W.lookIn
 rw[hd]
 dsimp only
 split
 ·rename_i y q
  rw[q] at e
  exact congrArg some e
 ·rename_i q
  rw[q] at e
  have a:es.toList.any (·.refKey)=false:=by
   rw[List.any_eq_false]
   intro y hy
   obtain⟨z,t,hkey⟩:=hk y (Array.mem_toList_iff.mp hy)
   simp[DictEntry.refKey,hkey]
  have a':¬ es.toList.any (·.refKey)=true:=by rw[a];exact Bool.false_ne_true
  rw[if_neg a']
  exact congrArg some e
theorem ObjM.look{h:Heap}{x dx C:Addr}{mA:Str->Option Value}(I:ObjM h x dx C mA):∃od,PySem.W.InstAt h x (PySem.W.instObj C dx) C (some od)/\∀name,PySem.W.lookIn name od=some (mA name) :=
 let ⟨od,ho,hl⟩:=Ny I.ns
 ⟨od,⟨I.obj,rfl,rfl,ho⟩,hl⟩
section
variable{prog:Program}{w:World}{A:Around}{E:Value->Shared->Prop}{s:Shared}{K:PySem.W.Frag}{x dx C f:Addr}{mA:Str->Option Value}{name:Str}{v:Value}
theorem U0{expr:Bool}{Q:Value->Shared->Prop}(X:K.In s.heap)(I:ObjM s.heap x dx C mA)(hg:PySem.W.plainGet K C name=true)(hh:PySem.W.hasDictIn K C=true)
  (ha:PySem.W.findIn K (.ref C) name=some none) (hv:mA name=some v) (hv':PySem.W.handedIn v=true) (h:Q v { s with toks:=s.toks+1 }) :
  wpAny (model prog w) A (getAttr (.ref x) name expr) Q E s:=by
 obtain⟨od,J,hl⟩:=I.look
 exact PySem.W.get_value X J (PySem.W.plainGet_of hg).1 (PySem.W.findObj_own hh ha rfl (by rw[hl,hv])) hv' h
theorem Qh{pl:Sem Bool}{Q:Value×List Value->Shared->Prop}(X:K.In s.heap)(I:ObjM s.heap x dx C mA)(hg:PySem.W.plainGet K C name=true)
  (hf:PySem.W.findIn K (.ref C) name=some (some (.ref f))) (ht:PySem.W.isFn K (.ref f)=true) (hv:mA name=none) (h:Q (.ref f,[.ref x]) s) :
  wpAny (model prog w) A (getMethod (.ref x) name pl) Q E s:=by
 obtain⟨od,J,hl⟩:=I.look
 exact PySem.W.method_fn X J (PySem.W.plainGet_of hg).1 (PySem.W.plainGet_of hg).2 hf (beq_iff_eq.mp ht) (by show (PySem.W.lookIn name od).map (·.isSome)=some false;rw[hl,hv];rfl) h
theorem Ut{ns:List Str}{Q:Unit->Shared->Prop}(X:K.In s.heap)(I:ObjM s.heap x dx C mA)
  (hs:PySem.W.findIn K (.ref C) "__setattr__"=some (some (.builtin "object.__setattr__"))) (hp:PySem.W.plainOver K C=true) (ht:PySem.W.takerIn K C name=some none) (hh:PySem.W.hasDictIn K C=true)
  (hw:PySem.Within mA ns) (hsz:ns.length<=sizeLine)
  (h:∀h',ObjM h' x dx C (fun y=>if y=name then some v else mA y)->Heap.SameBut dx s.heap h'->Q () { s with heap:=h',toks:=s.toks+2 }) :
  wpAny (model prog w) A (setAttr (.ref x) name v) Q E s:=by
 obtain⟨od,J,hl⟩:=I.look
 refine PySem.W.set_plain X J hs (PySem.W.osa_open (s:={ s with toks:=s.toks+1 }) (r:=none) X J hp ht fun b=>?_)
 obtain⟨cd,hc,hd'⟩:=PySem.W.any_some hh
 have hx:s.heap.get? x=some ⟨.ref C,some dx,.plain,#[]⟩:=I.obj
 refine wpAny_bind (wpAny_pure (wpAny_bind (wpAny_bind (wpAny_loadPart hx (wpAny_bind (PySem.W.Looks.here (s:={ s with toks:=s.toks+1 }) (PySem.W.looks_clsIn X hc) ?_))))))
 rw[hd']
 refine wpAny_pure (a:=some dx) (wpAny_bind (wpAny_pure (wpAny_bind ?_)))
 refine wpAny_nsSet1 (s:={ s with toks:=s.toks+1 }) I.ns fun h' hn2 hs2=>?_
 obtain⟨oD,esD,epD,hoD,hdD,hcD⟩:=hn2.count (PySem.Within.cons name v hw)
 refine wpAny_bind (wpAny_lookBehind hoD (by rw[hdD];exact pastItsLine_dict (Nat.le_trans hcD (by rw[List.length_cons];omega))) ?_)
 exact wpAny_pure (h _ ⟨(hs2.2 _ (Ne.symm I.ne)).trans I.obj,hn2,I.ne⟩ hs2)
theorem Ot{R:Result->Shared->Prop}{vs:List Value}{kw:List (Str×Value)}(X:K.In s.heap)(hm:PySem.W.makesIn K C=true)
  (hi:PySem.W.findIn K (.ref C) "__init__"=some (some (.ref f))) (hf:PySem.W.typeIn K (.ref f)=some (.type "function"))
  (h:codeAny (model prog w) (A.under (.builtin "type.__call__" ⟨.ref C::vs,kw⟩)) (.call (.ref f) ⟨.ref (s.heap.objs.size+1)::vs,kw⟩) (PySem.W.InitBack (s.heap.objs.size+1) R)
   { s with heap:=(s.heap.push PySem.W.emptyDict).push (PySem.W.instObj C s.heap.objs.size) }) :
  codeAny (model prog w) A (.call (.ref C) ⟨vs,kw⟩) R s:=by
 obtain⟨hh,g,d,t,os⟩:=s
 exact PySem.W.make_core (PySem.W.makes_of X hm) (PySem.W.looks_findIn X hi) (fun self=>PySem.W.bind_fn X self hf) (.inl rfl) h
end
def putF(f:Str)(v:V):List (Str×V)->List (Str×V)
 |[]=>[(f,v)]
 |(g,x)::r=>if g=f then (g,v)::r else (g,x)::putF f v r
theorem Es(f g:Str)(v:V):∀fs:List (Str×V),(putF f v fs).lookup g=if g=f then some v else fs.lookup g
 |[]=>by
  show List.lookup g [(f,v)]=_
  by_cases h:g=f
  ·have hb:(g==f)=true:=beq_iff_eq.mpr h
   simp only[List.lookup,hb,if_pos h]
  ·have hb:(g==f)=false:=beq_eq_false_iff_ne.mpr h
   simp only[List.lookup,hb,if_neg h]
 |(k,x)::r=>by
  have ih:=Es f g v r
  rw[show putF f v ((k,x)::r)=(if k=f then (k,v)::r else (k,x)::putF f v r) from rfl]
  by_cases hk:k=f
  ·rw[if_pos hk]
   by_cases h:g=k
   ·have hb:(g==k)=true:=beq_iff_eq.mpr h
    simp only[List.lookup,hb,if_pos (h.trans hk)]
   ·have hb:(g==k)=false:=beq_eq_false_iff_ne.mpr h
    simp only[List.lookup,hb,if_neg (fun e:g=f=>h (e.trans hk.symm))]
  ·rw[if_neg hk]
   by_cases h:g=k
   ·have hb:(g==k)=true:=beq_iff_eq.mpr h
    simp only[List.lookup,hb,if_neg (fun e:g=f=>hk (h.symm.trans e))]
   ·have hb:(g==k)=false:=beq_eq_false_iff_ne.mpr h
    simp only[List.lookup,hb]
    exact ih
theorem El(f:Str)(v:V):∀fs:List (Str×V),f∈(putF f v fs).map (·.1)/\∀g,g∈fs.map (·.1)->g∈(putF f v fs).map (·.1)
 |[]=>⟨by simp[putF],fun g h=>by simp at h⟩
 |(k,x)::r=>by
  obtain⟨i1,i2⟩:=El f v r
  rw[show putF f v ((k,x)::r)=(if k=f then (k,v)::r else (k,x)::putF f v r) from rfl]
  by_cases hk:k=f
  ·rw[if_pos hk]
   subst hk
   exact⟨by simp,fun g h=>by simpa using h⟩
  ·rw[if_neg hk]
   refine⟨?_,fun g h=>?_⟩
   ·rw[List.map_cons]
    exact List.mem_cons_of_mem _ i1
   ·rw[List.map_cons] at h ⊢
    rcases List.mem_cons.mp h with e|e
    ·exact List.mem_cons.mpr (.inl e)
    ·exact List.mem_cons_of_mem _ (i2 g e)
theorem Ep(f:Str)(v:V):∀fs:List (Str×V),(putF f v fs).length<=fs.length+1
 |[]=>by simp[putF]
 |(k,x)::r=>by
  have ih:=Ep f v r
  rw[show putF f v ((k,x)::r)=(if k=f then (k,v)::r else (k,x)::putF f v r) from rfl]
  by_cases hk:k=f
  ·rw[if_pos hk,List.length_cons,List.length_cons];omega
  ·rw[if_neg hk,List.length_cons,List.length_cons];omega
theorem RelO.some_of{v:V}{o:Option Value}(r:RelO (some v) o):∃u,o=some u/\RelV v u:=by
 cases o with
 |none=>exact(show False from r).elim
 |some u=>exact⟨u,rfl,r⟩
theorem RelO.none_of{o:Option Value}(r:RelO none o):o=none:=by
 cases o with
 |none=>rfl
 |some u=>exact(show False from r).elim
theorem On{v:V}{u:Value}(r:RelV v u):PySem.W.handedIn u=true:=by
 cases v with
 |non=>cases (show u=Value.none from r);rfl
 |bl b=>cases (show u=Value.bool b from r);rfl
 |int i=>obtain⟨t,e⟩:=(show ∃t,u=Value.int i t from r);cases e;rfl
 |str x=>obtain⟨t,e⟩:=(show ∃t,u=Value.str x t from r);cases e;rfl
 |byt b=>obtain⟨t,e⟩:=(show ∃t,u=Value.bytes b t from r);cases e;rfl
 |flt b=>obtain⟨t,e⟩:=(show ∃t,u=Value.float b t from r);cases e;rfl
 |ref a=>cases (show u=Value.ref a from r);rfl
 |ty n=>cases (show u=Value.type n from r);rfl
section
variable{P:Program}{w:World}{H H':Hp}{h h':Heap}{a C dx:Addr}{fs fs':List (Str×V)}
theorem Fa(hok:HOk P w H h)(e:H a=some (.ins C dx fs)):∃mA,ObjM h a dx C mA/\(∀f,RelO (fs.lookup f) (mA f))/\PySem.Within mA (fs.map (·.1))/\fs.length<=1000/\H dx=some (.own a):=by
 obtain⟨d,z,ne,ob,mA,n,r,q⟩:=(show ObjOk P w H h a (.ins C dx fs) from hok a _ e)
 exact⟨mA,⟨ob,n,ne⟩,r,q,z,d⟩
end
structure Cls(K:PySem.W.Frag)(C:Addr):Prop where
 pg:PySem.W.plainGet K C Str.empty=true
 hd:PySem.W.hasDictIn K C=true
 po:PySem.W.plainOver K C=true
 sa:PySem.W.findIn K (.ref C) "__setattr__"=some (some (.builtin "object.__setattr__"))
theorem Cls.get{K:PySem.W.Frag}{C:Addr}(c:Cls K C)(f:Str):PySem.W.plainGet K C f=true:=c.pg
def NoAttr(K:PySem.W.Frag)(C:Addr)(f:Str):Prop:=PySem.W.findIn K (.ref C) f=some none
theorem NoAttr.taker{K:PySem.W.Frag}{C:Addr}{f:Str}(n:NoAttr K C f):PySem.W.takerIn K C f=some none:=by
 unfold PySem.W.takerIn
 rw[show PySem.W.findIn K (.ref C) f=some none from n]
 rfl
structure Meth(K:PySem.W.Frag)(C:Addr)(m:Str)(f:Addr):Prop where
 at_:PySem.W.findIn K (.ref C) m=some (some (.ref f))
 fn:PySem.W.isFn K (.ref f)=true
 kp:PySem.W.keepIn K (.ref f)=true
section
variable{X:Cx}{pins:List (Addr×Obj)}{σ:St}{H:Hp}{s:Shared}{a C dx:Addr}{fs:List (Str×V)}{f:Str}{v:V}{A:Around}{E:Value->Shared->Prop}
theorem J3{b:Bool}{Q:Value->Shared->Prop}(I:Inv X pins σ H s)(e:H a=some (.ins C dx fs))(c:Cls X.K C)(n:NoAttr X.K C f)(l:fs.lookup f=some v)
  (h:∀u s',Inv X pins σ H s'->RelV v u->Q u s'):wpAny (model X.prog X.w) A (getAttr (.ref a) f b) Q E s:=by
 obtain⟨mA,O,r,_,_,_⟩:=Fa I.hok e
 obtain⟨u,hu,ru⟩:=RelO.some_of (v:=v) (o:=mA f) (by rw[<-l];exact r f)
 exact U0 I.kIn O (c.get f) c.hd n hu (On ru) (h u _ (I.tok _) ru)
theorem Js{m:Str}{g:Addr}{pl:Sem Bool}{Q:Value×List Value->Shared->Prop}(I:Inv X pins σ H s)(e:H a=some (.ins C dx fs))(c:Cls X.K C)(k:Meth X.K C m g)(l:fs.lookup m=none)
  (h:Q (.ref g,[.ref a]) s):wpAny (model X.prog X.w) A (getMethod (.ref a) m pl) Q E s:=by
 obtain⟨mA,O,r,_,_,_⟩:=Fa I.hok e
 have hn:mA m=none:=RelO.none_of (by rw[<-l];exact r m)
 exact Qh I.kIn O (c.get m) k.at_ k.fn hn h
theorem J8{y:V}{u:Value}{Q:Unit->Shared->Prop}(I:Inv X pins σ H s)(e:H a=some (.ins C dx fs))(c:Cls X.K C)(n:NoAttr X.K C f)(hl:fs.length<1000)(ry:RelV y u)
  (h:∀s',Inv X pins σ (upd H a (.ins C dx (putF f y fs))) s'->Q () s'):wpAny (model X.prog X.w) A (setAttr (.ref a) f u) Q E s:=by
 obtain⟨mA,O,r,wi,_,ho⟩:=Fa I.hok e
 have hz:(fs.map (·.1)).length<=sizeLine:=by rw[List.length_map,sizeLine_eq];omega
 refine Ut I.kIn O c.sa c.po n.taker c.hd wi hz fun h' O' sb=>h _ ?_
 have hd:∃o,h'.get? dx=some o:=let ⟨o,_,_,e',_⟩:=O'.ns;⟨o,e'⟩
 refine I.write (x:=a) (e:=dx) (by rw[e];exact True.intro) (.inr ho) (fun b q hb z=>(sb.2 b hb).trans z) hd ?_
 refine⟨by rw[Xc O.ne];exact ho,?_,O.ne,O'.obj,_,O'.ns,fun g=>?_,fun g hg=>?_⟩
 ·have:=Ep f y fs;omega
 ·show RelO ((putF f y fs).lookup g) (if g=f then some u else mA g)
  rw[Es]
  by_cases q:g=f
  ·rw[if_pos q,if_pos q];exact ry
  ·rw[if_neg q,if_neg q];exact r g
 ·by_cases q:g=f
  ·rw[q];exact(El f y fs).1
  ·refine(El f y fs).2 g (wi g fun z=>hg ?_)
   show (if g=f then some u else mA g)=none
   rw[if_neg q];exact z
theorem Inv.made(I:Inv X pins σ H s):Inv X pins σ (upd (upd H s.heap.objs.size (.own (s.heap.objs.size+1))) (s.heap.objs.size+1) (.ins C s.heap.objs.size []))
  { s with heap:=(s.heap.push PySem.W.emptyDict).push (PySem.W.instObj C s.heap.objs.size) }:=by
 have e1:(s.heap.push PySem.W.emptyDict).get? s.heap.objs.size=some PySem.W.emptyDict:=Heap.get?_push_size s.heap rfl
 have e2:((s.heap.push PySem.W.emptyDict).push (PySem.W.instObj C s.heap.objs.size)).get? (s.heap.objs.size+1)=some (PySem.W.instObj C s.heap.objs.size):=by
  have:=Heap.get?_push_size (s.heap.push PySem.W.emptyDict) (o:=PySem.W.instObj C s.heap.objs.size) rfl
  rwa [Heap.size_push] at this
 have e3:(s.heap.push PySem.W.emptyDict).Ns s.heap.objs.size (fun _=>none):=⟨PySem.W.emptyDict,#[],_,e1,rfl,(fun e he=>absurd he (by simp)),fun _=>rfl⟩
 have I1:=I.laid (a:=s.heap.objs.size) (o:=.own (s.heap.objs.size+1)) (h':=s.heap.push PySem.W.emptyDict) (t':=s.toks) (fun b u q=>Heap.get?_push_of_some _ q) (Nat.le_refl _) ⟨_,e1⟩
 refine I1.laid (a:=s.heap.objs.size+1) (o:=.ins C s.heap.objs.size []) (t':=s.toks) (fun b u q=>Heap.get?_push_of_some _ q) (Nat.le_of_eq (Heap.size_push _ _)) ?_
 have ne:s.heap.objs.size≠s.heap.objs.size+1:=Nat.ne_of_lt (Nat.lt_succ_self _)
 refine⟨by rw[Xc ne,Ak],Nat.zero_le _,ne,e2,fun _=>none,(Heap.Ns1.of_empty e3).at fun o q=>Heap.get?_push_of_some _ q,fun _=>True.intro,fun y hy=>absurd rfl hy⟩
theorem Tf{prog:Program}{w:World}{env:Env}{e:Expr}{f:Str}{pos:Pos}{s:Shared}{Q:Value->Shared->Prop}(hb:attributeBase e f env (eval e env)=eval e env)
  (h:wpAny (model prog w) A (eval e env) (fun o s₁=>wpAny (model prog w) A (getAttr o f true) Q E s₁) E s):wpAny (model prog w) A (eval (.Attribute e f pos) env) Q E s :=
 Attribute_any_ h (by rw[arm_eval_Attribute,hb])
end
def tFld(K:PySem.W.Frag)(ta:TE)(f:Str):TE:=fun σ H Q=>ta σ H fun x H1=>∃a C dx fs v,x=.ref a/\H1 a=some (.ins C dx fs)/\Cls K C/\NoAttr K C f/\fs.lookup f=some v/\Q v H1
def sFld(K:PySem.W.Frag)(ta tv:TE)(f:Str):TS:=fun D σ H=>tv σ H fun y H1=>ta σ H1 fun x H2=>∃a C dx fs,x=.ref a/\H2 a=some (.ins C dx fs)/\Cls K C/\NoAttr K C f/\fs.length<1000 ∧
 D.nx σ (upd H2 a (.ins C dx (putF f y fs)))
section
variable{X:Cx}{o e value:Expr}{f:Str}{pos pos' tpos:Pos}{ta tv:TE}
theorem Ww(he:PE X e ta)(hb:attributeBase e f X.env (eval e X.env)=eval e X.env):PE X (.Attribute e f pos) (tFld X.K ta f):=by
 intro pins s σ H Q I h
 refine Tf hb (thn (he pins s σ H _ I h) fun u s1 ⟨x,H1,I1,rx,a,C,dx,fs,v,ex,ea,c,n,l,q⟩=>?_)
 subst ex
 obtain rfl:u=Value.ref a:=rx
 exact J3 I1 ea c n l fun u' s2 I2 ru=>⟨v,H1,I2,ru,q⟩
theorem Y1(ha:PE X o ta)(hv:PE X value tv)(hs:swapsWith value (some (.Attribute o f pos')) pos.line X.env=pure false):PS X (.Assign [.Attribute o f pos'] value pos) (sFld X.K ta tv f):=by
 intro pins s σ H D I h
 refine plainObj_wpAny_Assign_Attribute (thn (hv pins s σ H _ I h) fun u s1 ⟨y,H1,I1,ry,q⟩=>thn (ha pins s1 σ H1 _ I1 q) fun ov s2 ⟨x,H2,I2,rx,a,C,dx,fs,ex,ea,c,n,l,q2⟩=>?_) hs
 subst ex
 obtain rfl:ov=Value.ref a:=rx
 exact J8 I2 ea c n l ry fun s3 I3=>⟨σ,_,I3,q2⟩
end
section
variable{X:Cx}{pins:List (Addr×Obj)}{σ:St}{H:Hp}{s:Shared}{A:Around}{E:Value->Shared->Prop}{Q:Value->Shared->Prop}{c:Value}{b:Bool}
inductive TyOf(K:PySem.W.Frag)(H:Hp):V->Value->Prop where
 |non:TyOf K H .non (.type "NoneType")
 |bl (x:Bool):TyOf K H (.bl x) (.type "bool")
 |int (i:Int):TyOf K H (.int i) (.type "int")
 |str (x:Str):TyOf K H (.str x) (.type "str")
 |flt (x:UInt64):TyOf K H (.flt x) (.type "float")
 |lst {a:Addr} {xs:List V} (e:H a=some (.lst xs)):TyOf K H (.ref a) (.type "list")
 |frz {a:Addr} {o:Obj} {xs:List V} (e:H a=some (.frz o (.lst xs))):TyOf K H (.ref a) (.type "list")
 |tup {a:Addr} {xs:List V} (e:H a=some (.tup xs)):TyOf K H (.ref a) (.type "tuple")
 |dK {a:Addr} {kvs:List (Key×V)} (e:H a=some (.dK kvs)):TyOf K H (.ref a) (.type "dict")
 |dT {a:Addr} {kvs:List (List Key×V)} (e:H a=some (.dT kvs)):TyOf K H (.ref a) (.type "dict")
 |ins {a C dx:Addr} {fs:List (Str×V)} (e:H a=some (.ins C dx fs)) (cl:Cls K C) (ha:PySem.W.findIn K (.ref C) "__class__"=some (some (.builtin "object.__class__")))
   (hn:PySem.W.specialIn K (.builtin "object.__class__") "__get__"=some (some (.builtin "getset_descriptor.__get__"))) (htk:PySem.W.takesIn K (.builtin "object.__class__")=some true)
   (hm:PySem.W.mroIn K C (.type "object")=some true):TyOf K H (.ref a) (.ref C)
end
end L2
namespace L2
open PySem PySem.Spec PyProof.Rows
structure Room(k:Nat)(A:Around):Prop where
 hd:A.handled=none
 dp:A.depth+3 * k+5<recursionLimit
 un:A.units+16 * k+200<cLine
theorem Room.mono{j k:Nat}{A:Around}(r:Room k A)(h:j<=k):Room j A:=⟨r.hd,by have:=r.dp;omega,by have:=r.un;omega⟩
theorem Room.deeper{k:Nat}{A:Around}(r:Room (k+1) A)(env:Env):Room k (A.deeper env) :=
 ⟨r.hd,by have:=r.dp;show A.depth+1+3 * k+5<_;omega,by have:=r.un;show A.units+3+16 * k+200<_;omega⟩
theorem Room.in1{k:Nat}{A:Around}(r:Room (k+1) A):Room k A.in1 :=
 ⟨r.hd,by have:=r.dp;show A.depth+3 * k+5<_;omega,by have:=r.un;show A.units+1+16 * k+200<_;omega⟩
theorem Kc{A:Around}{C:Addr}{us:List Value}{kw:List (Str×Value)}:(A.under (.builtin "type.__call__" ⟨.ref C::us,kw⟩)).depth=A.depth+1:=by
 first|rfl|simp[Around.under,Code.weight,Code.isCreation,Code.isGuard,Code.isCaller,Code.frames,Code.isFrame,guardIds]
theorem J6{A:Around}{C:Addr}{us:List Value}{kw:List (Str×Value)}:(A.under (.builtin "type.__call__" ⟨.ref C::us,kw⟩)).units=A.units+1:=by
 first|rfl|simp[Around.under,Code.cUnits,Code.frames,Code.isFrame]
theorem Room.make{k:Nat}{A:Around}(r:Room (k+1) A)(C:Addr)(us:List Value)(kw:List (Str×Value)):Room k (A.under (.builtin "type.__call__" ⟨.ref C::us,kw⟩)) :=
 ⟨r.hd,by have:=r.dp;rw[Kc];omega,by have:=r.un;rw[J6];omega⟩
theorem Room.depth{k:Nat}{A:Around}(r:Room k A):A.depth<recursionLimit:=by have:=r.dp;omega
theorem Room.units{k:Nat}{A:Around}(r:Room k A):A.units+64<cLine:=by have:=r.un;omega
theorem Room.units0{k:Nat}{A:Around}(r:Room k A):A.units<cLine:=by have:=r.un;omega
def tNil:TA:=fun _ H Q=>Q [] H
def tCons(ta:TE)(tr:TA):TA:=fun σ H Q=>ta σ H fun x H1=>tr σ H1 fun xs H2=>Q (x::xs) H2
section
variable{X:Cx}{e:Expr}{es:List Expr}{te:TE}{t:TA}{pos:Pos}
theorem Tb:PA X [] tNil:=fun _ _ _ _ H Q I h=>Calls.spliced_nil ⟨[],H,I,.nil,h⟩
theorem Mg(ha:PE X e te)(hr:PA X es t)(hs:starEach (e::es) X.env=(false,eval e X.env)::starEach es X.env:=by rfl):PA X (e::es) (tCons te t):=by
 intro pos pins s σ H Q I h
 rw[hs]
 show wpAny _ _ (spliced ((false,eval e X.env)::backTo pos (starEach es X.env))) _ _ s
 refine Calls.spliced_cons (thn (ha pins s σ H _ I h) fun u s1 ⟨x,H1,I1,r1,q1⟩=>?_)
 exact thn (hr pos pins s1 σ H1 _ I1 q1) fun us s2 ⟨xs,H2,I2,r2,q2⟩=>⟨x::xs,H2,I2,.cons r1 r2,q2⟩
def tTup(t:TA):TE:=fun σ H Q=>t σ H fun xs H1=>xs.length<=sizeLine/\∀p,H1 p=none->Q (.ref p) (upd H1 p (.tup xs))
def tLst(t:TA):TE:=fun σ H Q=>t σ H fun xs H1=>xs.length<=sizeLine/\∀p,H1 p=none->Q (.ref p) (upd H1 p (.lst xs))
theorem Pz{x1}(h:PA X es t):PE X (.Tuple es x1 pos) (tTup t):=by
 intro pins s σ H Q I hq
 refine wpAny_Tuple_spliced (thn (h pos pins s σ H _ I hq) fun us s1 ⟨xs,H1,I1,r,z,q⟩=>⟨by rw[<-r.length];exact z,?_⟩)
 have hf:H1 s1.heap.objs.size=none:=I1.hok.fresh (Nat.le_refl _)
 refine⟨.ref s1.heap.objs.size,upd H1 s1.heap.objs.size (.tup xs),I1.laid (t':=s1.toks) (fun b u e=>Heap.get?_push_of_some _ e) (Nat.le_refl _) ?_,rfl,q _ hf⟩
 exact⟨z,us,r,TupN.new _ _⟩
theorem Po(h:PA X es t):PE X (.List es pos) (tLst t):=by
 intro pins s σ H Q I hq
 refine wpAny_List_spliced (thn (h pos pins s σ H _ I hq) fun us s1 ⟨xs,H1,I1,r,z,q⟩=>⟨by rw[<-r.length];exact z,?_⟩)
 have hf:H1 s1.heap.objs.size=none:=I1.hok.fresh (Nat.le_refl _)
 refine⟨.ref s1.heap.objs.size,upd H1 s1.heap.objs.size (.lst xs),I1.laid (t':=s1.toks) (fun b u e=>Heap.get?_push_of_some _ e) (Nat.le_refl _) ?_,rfl,q _ hf⟩
 exact⟨z,us,0,r,Heap.get?_push_size _ rfl⟩
end
abbrev Sp:=List V->Hp->VK->XK->Prop
abbrev CXT:=List Env->Hp->Shared->XK->Value->Shared->Prop
structure Env0(P:Program)(w:World)(K:PySem.W.Frag)(mg:Str->Option Value)(base:Heap)(A:Around)(outer:List Env)(s:Shared)(H:Hp):Prop where
 frames:A.frames=some outer
 mod:Mod K mg base
 bs:∀b o,base.get? b=some o->s.heap.get? b=some o/\H b=none
 bsz:base.objs.size<=s.heap.objs.size
 funs:s.heap.FunFrames base outer
 frf:∀b∈frs outer,H b=none
 hok:HOk P w H s.heap
 bare:AllBare s.gens
def CE(outer:List Env)(P:Program)(w:World)(H:Hp)(s:Shared)(Q:VK)(u:Value)(s':Shared):Prop :=
 ∃v H',s'.os=s.os/\AllBare s'.gens/\Un (frs outer) [] H H' s.heap s'.heap/\HOk P w H' s'.heap/\RelV v u/\Q v H'
def CR(CX:CXT)(outer:List Env)(P:Program)(w:World)(H:Hp)(s:Shared)(Q:VK)(E:XK)(r:Result)(s':Shared):Prop :=
 match r with
 | .ok (.ret u)=>CE outer P w H s Q u s'
 | .ok _=>False
 | .error e=>CX outer H s E e s'
structure FnOk(P:Program)(w:World)(K:PySem.W.Frag)(mg:Str->Option Value)(base:Heap)(CX:CXT)(k:Nat)(f:Addr)(fd:FuncData)(ps:List Str)(sp:Sp):Prop where
 len:∀vs H Q E,sp vs H Q E->vs.length=ps.length
 run:∀(A:Around) (outer:List Env) (s:Shared) (H:Hp) (args:Args) (us:List Value) (vs:List V) (Q:VK) (E:XK),Room k A->Env0 P w K mg base A outer s H->BindsTo s fd args (ps.zip us)->Vals vs us->sp vs H Q E →
  codeAny (model P w) A (.call (.ref f) args) (CR CX outer P w H s Q E) s
theorem FnOk.mono{P:Program}{w:World}{K:PySem.W.Frag}{mg:Str->Option Value}{base:Heap}{CX:CXT}{j k:Nat}{f:Addr}{fd:FuncData}{ps:List Str}{sp:Sp}(F:FnOk P w K mg base CX j f fd ps sp)(h:j<=k):
  FnOk P w K mg base CX k f fd ps sp:=⟨F.len,fun A outer s H args us vs Q E hr=>F.run A outer s H args us vs Q E (hr.mono h)⟩
theorem Env0.make{P:Program}{w:World}{K:PySem.W.Frag}{mg:Str->Option Value}{base:Heap}{A:Around}{outer:List Env}{s:Shared}{H:Hp}(e:Env0 P w K mg base A outer s H)(C:Addr)(us:List Value)(kw:List (Str×Value)):
  Env0 P w K mg base (A.under (.builtin "type.__call__" ⟨.ref C::us,kw⟩)) outer s H:=⟨by first|exact e.frames|(simpa [Around.under,Code.envs,Code.isFrame,pushEnvs] using e.frames),e.mod,e.bs,e.bsz,e.funs,e.frf,e.hok,e.bare⟩
theorem Env0.in1{P:Program}{w:World}{K:PySem.W.Frag}{mg:Str->Option Value}{base:Heap}{A:Around}{outer:List Env}{s:Shared}{H:Hp}(e:Env0 P w K mg base A outer s H):
  Env0 P w K mg base A.in1 outer s H:=⟨e.frames,e.mod,e.bs,e.bsz,e.funs,e.frf,e.hok,e.bare⟩
section
variable{X:Cx}{pins:List (Addr×Obj)}{σ:St}{H:Hp}{s s':Shared}
theorem Inv.env0(I:Inv X pins σ H s):Env0 X.prog X.w X.K X.mg X.base X.A X.stack s H :=
 ⟨I.ok.frames,I.ok.mod,I.bs,Nat.le_trans I.ok.bsz I.sz,I.stack,I.stkFree,I.hok,I.bare⟩
theorem Inv.after{Q:VK}{u:Value}(I:Inv X pins σ H s)(h:CE X.stack X.prog X.w H s Q u s'):EP X pins σ Q u s':=by
 obtain⟨v,H',os,bare,un,hok,r,q⟩:=h
 obtain⟨hh,g,d,t,os'⟩:=s'
 obtain rfl:os'=s.os:=os
 exact⟨v,H',I.call (h':=hh) (g':=g) (d':=d) (t':=t) (ch:=[]) un hok bare (fun b z=>absurd z (by simp)),r,q⟩
end
def tCall(sp:Sp)(dvs:List V)(E:XK)(t:TA):TE:=fun σ H Q=>t σ H fun vs H1=>sp (vs++dvs) H1 Q E
def Wb(C:Addr)(m:Str)(sp:Sp)(dvs:List V)(E:XK)(ta:TE)(t:TA):TE:=fun σ H Q=>ta σ H fun x H1=>∃a dx fs,x=.ref a/\H1 a=some (.ins C dx fs)/\fs.lookup m=none ∧
 t σ H1 fun vs H2=>sp (x::(vs++dvs)) H2 Q E
def tMake(C:Addr)(sp:Sp)(dvs:List V)(E:XK)(t:TA):TE:=fun σ H Q=>t σ H fun vs H1=>∀x dx,H1 x=none->H1 dx=none->dx≠x →
 sp (.ref x::(vs++dvs)) (upd (upd H1 dx (.own x)) x (.ins C dx [])) (fun v H2=>v=.non/\Q (.ref x) H2) E
def Binds(K:PySem.W.Frag)(fd:FuncData)(ps:List Str)(ds:List Value):Prop :=
 ∀(s:Shared) (us:List Value),K.In s.heap->(us++ds).length=ps.length->BindsTo s fd ⟨us,[]⟩ (ps.zip (us++ds))
theorem Binds.all{K:PySem.W.Frag}{fd:FuncData}{ps:List Str}(h:∀us:List Value,us.length=ps.length->bindArgs fd ⟨us,[]⟩=pure (ps.zip us)):Binds K fd ps []:=fun s us _ hl=>by
 rw[List.append_nil] at hl ⊢
 exact .of_eq (h us hl)
def Eh(CX:CXT)(X:Cx)(E:XK):Prop:=∀(pins:List (Addr×Obj)) (σ:St) (H:Hp) (s:Shared) (e:Value) (s':Shared),Inv X pins σ H s->CX X.stack H s E e s'->X.xe e s'
section
variable{X:Cx}{CX:CXT}{k:Nat}{f C:Addr}{fd:FuncData}{ps:List Str}{sp:Sp}{dvs:List V}{ds:List Value}{E:XK}{x m:Str}{p pos apos:Pos}{e o:Expr}{es:List Expr}{ta:TE}{t:TA}
theorem Sv{pins:List (Addr×Obj)}{σ:St}{H:Hp}{s:Shared}{Q:VK}{us:List Value}{vs:List V}(F:FnOk X.prog X.w X.K X.mg X.base CX k f fd ps sp)(hr:Room k X.A)(hb:Binds X.K fd ps ds)(hd:Vals dvs ds)(hx:Eh CX X E)
  (I:Inv X pins σ H s) (r:Vals vs us) (h:sp (vs++dvs) H Q E):wpAny (model X.prog X.w) X.A (call (.ref f) us) (EP X pins σ Q) X.xe s:=by
 have r2:Vals (vs++dvs) (us++ds):=r.append hd
 have hl:(us++ds).length=ps.length:=by rw[<-r2.length];exact F.len _ _ _ _ h
 refine wpAny_call (codeAny_mono (F.run X.A X.stack s H ⟨us,[]⟩ (us++ds) (vs++dvs) Q E hr I.env0 (hb s us I.kIn hl) r2 h) fun r s' hq=>?_)
 cases r with
 |error e=>exact hx pins σ H s e s' I hq
 |ok fl =>
  cases fl with
  |ret u=>exact I.after hq
  |next=>exact False.elim hq
  |brk=>exact False.elim hq
  |cont=>exact False.elim hq
theorem T5(F:FnOk X.prog X.w X.K X.mg X.base CX k f fd ps sp)(hr:Room k X.A)(hg:Gl X x)(hm:X.mg x=some (.ref f))(hk:PySem.W.keepIn X.K (.ref f)=true)(hb:Binds X.K fd ps ds)(hd:Vals dvs ds)(hx:Eh CX X E)
  (ha:PA X (e::es) t) (hdb:(x==("__debug__":Str))=false:=by decide) (he:starEach (e::es) X.env=(false,eval e X.env)::starEach es X.env:=by rfl) (hpl:(backTo pos (starEach es X.env)).any (·.1)=false:=by rfl) :
  PE X (.Call (.Name x p) (e::es) [] pos) (tCall sp dvs E t):=by
 intro pins s σ H Q I h
 refine wpAny_Call_Name_kw (Da I hg hm ?_ hdb)
 refine PySem.W.callWith_K (h₀:=X.base) I.ok.mod.kin hk (thn (ha pos pins s σ H _ I h) fun us s1 ⟨vs,H1,I1,r,q⟩=>⟨I1.kIn,?_⟩) he hpl
 exact Sv F hr hb hd hx I1 r q
theorem U5{pl:Sem Bool}(he:PE X o ta)(c:Cls X.K C)(hm:Meth X.K C m f)(F:FnOk X.prog X.w X.K X.mg X.base CX k f fd ps sp)(hr:Room k X.A)(hb:Binds X.K fd ps ds)(hd:Vals dvs ds)(hx:Eh CX X E)(ha:PA X (e::es) t)
  (hst:starEach (e::es) X.env=(false,eval e X.env)::starEach es X.env:=by rfl) (hpl:(backTo pos (starEach es X.env)).any (·.1)=false:=by rfl)
  (ht:eval (.Call (.Attribute o m apos) (e::es) [] pos) X.env=(do
   let ov ← eval o X.env
   standAt apos.atName
   let (f,first) ← holding [ov] (getMethod ov m pl)
   callWith pos f first (backTo pos (starEach (e::es) X.env)) (backToKw pos (keywordEach [] X.env))):=by rfl) :
  PE X (.Call (.Attribute o m apos) (e::es) [] pos) (Wb C m sp dvs E ta t):=by
 intro pins s σ H Q I h
 refine PySem.W.methodCall_KW (pl:=pl) (thn (he pins s σ H _ I h) fun u s1 ⟨x,H1,I1,rx,a,dx,fs,ex,ea,l,q⟩=>?_) ht
 subst ex
 obtain rfl:u=Value.ref a:=rx
 refine Js I1 ea c hm l ?_
 refine PySem.W.callWith_K (first:=[.ref a]) (h₀:=X.base) I.ok.mod.kin hm.kp (thn (ha pos pins s1 σ H1 _ I1 q) fun us s2 ⟨vs,H2,I2,r,q2⟩=>⟨I2.kIn,?_⟩) hst hpl
 exact Sv (us:=.ref a::us) (vs:=.ref a::vs) F hr hb hd hx I2 (.cons rfl r) q2
structure Mk(K:PySem.W.Frag)(C f:Addr):Prop where
 makes:PySem.W.makesIn K C=true
 init:PySem.W.findIn K (.ref C) "__init__"=some (some (.ref f))
 fn:PySem.W.isFn K (.ref f)=true
 kp:PySem.W.keepIn K (.ref C)=true
theorem Pq{pins:List (Addr×Obj)}{σ:St}{H:Hp}{s:Shared}{Q:VK}{us:List Value}{vs:List V}(M:Mk X.K C f)(F:FnOk X.prog X.w X.K X.mg X.base CX k f fd ps sp)(hr:Room (k+1) X.A)(hb:Binds X.K fd ps ds)(hd:Vals dvs ds)
  (hx:Eh CX X E) (I:Inv X pins σ H s) (r:Vals vs us)
  (h:∀x dx,H x=none->H dx=none->dx≠x->sp (.ref x::(vs++dvs)) (upd (upd H dx (.own x)) x (.ins C dx [])) (fun v H2=>v=.non/\Q (.ref x) H2) E) :
  wpAny (model X.prog X.w) X.A (call (.ref C) us) (EP X pins σ Q) X.xe s:=by
 have hq:=h (s.heap.objs.size+1) s.heap.objs.size (I.hok.fresh (Nat.le_succ _)) (I.hok.fresh (Nat.le_refl _)) (Nat.ne_of_lt (Nat.lt_succ_self _))
 have I2:=Inv.made (C:=C) I
 have r2:Vals (V.ref (s.heap.objs.size+1)::(vs++dvs)) (Value.ref (s.heap.objs.size+1)::(us++ds)):=.cons rfl (r.append hd)
 have hl:(Value.ref (s.heap.objs.size+1)::us++ds).length=ps.length:=by
  have e:=r2.length
  rw[F.len _ _ _ _ hq] at e
  exact e.symm
 refine wpAny_call (Ot (f:=f) I.kIn M.makes M.init (beq_iff_eq.mp M.fn) (codeAny_mono (F.run _ X.stack _ _ ⟨Value.ref (s.heap.objs.size+1)::us,[]⟩ (Value.ref (s.heap.objs.size+1)::(us++ds)) _ _ E (hr.make C us [])
  (I2.env0.make C us []) (hb _ (Value.ref (s.heap.objs.size+1)::us) I2.kIn hl) r2 hq) fun r s' hq'=>?_))
 cases r with
 |error e=>exact hx pins σ _ _ e s' I2 hq'
 |ok fl =>
  cases fl with
  |ret u =>
   obtain⟨v,H',I3,rv,ev,q3⟩:=I2.after hq'
   subst ev
   exact⟨rv,⟨V.ref (s.heap.objs.size+1),H',I3,rfl,q3⟩⟩
  |next=>exact False.elim hq'
  |brk=>exact False.elim hq'
  |cont=>exact False.elim hq'
theorem U9(M:Mk X.K C f)(F:FnOk X.prog X.w X.K X.mg X.base CX k f fd ps sp)(hr:Room (k+1) X.A)(hg:Gl X x)(hm:X.mg x=some (.ref C))(hb:Binds X.K fd ps ds)(hd:Vals dvs ds)(hx:Eh CX X E)
  (ha:PA X (e::es) t) (hdb:(x==("__debug__":Str))=false:=by decide) (he:starEach (e::es) X.env=(false,eval e X.env)::starEach es X.env:=by rfl) (hpl:(backTo pos (starEach es X.env)).any (·.1)=false:=by rfl) :
  PE X (.Call (.Name x p) (e::es) [] pos) (tMake C sp dvs E t):=by
 intro pins s σ H Q I h
 refine wpAny_Call_Name_kw (Da I hg hm ?_ hdb)
 refine PySem.W.callWith_K (h₀:=X.base) I.ok.mod.kin M.kp (thn (ha pos pins s σ H _ I h) fun us s1 ⟨vs,H1,I1,r,q⟩=>⟨I1.kIn,?_⟩) he hpl
 exact Pq M F hr hb hd hx I1 r q
end
structure Zv(N P:List Str)(sc:Scope):Prop where
 kind:sc.kind=.function
 co:sc.isCoroutine=false
 gen:sc.isGenerator=false
 nd:N.Nodup
 pre:N.take P.length=P
 par:∀x∈P,sc.names.lookup x=some .local\/sc.names.lookup x=some .cell
 nofree:∀y∈sc.names,y.2≠.free
theorem Gk{kindOf:Str->Option NameKind}{x:Str}:∀{binds:List (Str×Value)} {m:Str->Option Value},(∀v,(x,v) ∉ binds)->bindL kindOf binds m x=m x
 |[],_,_=>rfl
 |(n,v)::r,m,h=>by
  unfold bindL
  rw[Gk fun w hw=>h w (List.mem_cons_of_mem _ hw)]
  split
  ·have:x≠n:=by rintro rfl;exact h v List.mem_cons_self
   simp[this]
  ·rfl
theorem Gc{kindOf:Str->Option NameKind}{x:Str}:∀{binds:List (Str×Value)} {m:Str->Option Value},(∀v,(x,v) ∉ binds)->bindC kindOf binds m x=m x
 |[],_,_=>rfl
 |(n,v)::r,m,h=>by
  unfold bindC
  rw[Gc fun w hw=>h w (List.mem_cons_of_mem _ hw)]
  split
  ·rfl
  ·have:x≠n:=by rintro rfl;exact h v List.mem_cons_self
   simp[this]
theorem Gi{kindOf:Str->Option NameKind}{x:Str}{v:Value}:∀{P:List Str} {vs:List Value} {i:Nat} {m:Str->Option Value},P.Nodup->P[i]?=some x->vs[i]?=some v->kindOf x=some .local →
  bindL kindOf (P.zip vs) m x=some v
 |[],_,_,_,_,h,_,_=>by simp at h
 |_::_,[],_,_,_,_,h,_=>by simp at h
 |p::P,w::vs,0,m,nd,h1,h2,hk=>by
  simp at h1 h2;subst h1;subst h2
  show bindL kindOf ((p,w)::P.zip vs) m p=_
  unfold bindL
  rw[Gk fun v hv=>(List.nodup_cons.mp nd).1 (List.of_mem_zip hv).1,if_pos hk]
  simp
 |p::P,w::vs,i+1,m,nd,h1,h2,hk=>by
  show bindL kindOf ((p,w)::P.zip vs) m x=_
  unfold bindL
  exact Gi (i:=i) (List.nodup_cons.mp nd).2 (by simpa using h1) (by simpa using h2) hk
theorem Gn{kindOf:Str->Option NameKind}{x:Str}{v:Value}:∀{P:List Str} {vs:List Value} {i:Nat} {m:Str->Option Value},P.Nodup->P[i]?=some x->vs[i]?=some v->kindOf x≠some .local →
  bindC kindOf (P.zip vs) m x=some v
 |[],_,_,_,_,h,_,_=>by simp at h
 |_::_,[],_,_,_,_,h,_=>by simp at h
 |p::P,w::vs,0,m,nd,h1,h2,hk=>by
  simp at h1 h2;subst h1;subst h2
  show bindC kindOf ((p,w)::P.zip vs) m p=_
  unfold bindC
  rw[Gc fun v hv=>(List.nodup_cons.mp nd).1 (List.of_mem_zip hv).1,if_neg hk]
  simp
 |p::P,w::vs,i+1,m,nd,h1,h2,hk=>by
  show bindC kindOf ((p,w)::P.zip vs) m x=_
  unfold bindC
  exact Gn (i:=i) (List.nodup_cons.mp nd).2 (by simpa using h1) (by simpa using h2) hk
def Cp(N:List Str)(vs:List V):St:=vs.map some++List.replicate (N.length - vs.length) none
def cxOf(CX:CXT)(P:Program)(w:World)(K:PySem.W.Frag)(mg:Str->Option Value)(base:Heap)(N:List Str)(qual:Str)(scope:Scope)(f:Addr)(cd:Value)(A:Around)(outer:List Env)(s:Shared)(H:Hp)(E:XK):Cx where
 prog:=P
 w:=w
 K:=K
 mg:=mg
 base:=base
 A:=A.deeper (envOfC qual scope s.heap.objs.size f cd)
 N:=N
 s₀:=s
 H₀:=H
 env:=envOfC qual scope s.heap.objs.size f cd
 outer:=outer
 stack:=envOfC qual scope s.heap.objs.size f cd::outer
 ex:=[]
 calm:=true
 fn:=fun _=>true
 pn:=[]
 xe:=fun e s'=>wpAny (model P w) (A.deeper (envOfC qual scope s.heap.objs.size f cd)) (leaving (envOfC qual scope s.heap.objs.size f cd) e) (fun _ s''=>CX outer H s E e s'') (fun e' s''=>CX outer H s E e' s'') s'
theorem Ij{sc:Scope}{n:Nat}{x:Str}(h:sc.names.lookup x=some .cell):∃c,(cellsFrom n sc.names []).lookup x=some c:=by
 have q:=PySem.W.cellsFrom_some sc.names n [] (.inl h)
 exact Option.isSome_iff_exists.mp q
theorem Og{CX:CXT}{P:Program}{w:World}{K:PySem.W.Frag}{mg:Str->Option Value}{base:Heap}{N ps:List Str}{qual:Str}{scope:Scope}{f:Addr}{cd:Value}{A:Around}{outer:List Env}{s s1:Shared}{H:Hp}{E:XK}{us:List Value}{vs:List V}
  (S:Zv N ps scope) (hd:A.handled=none) (e0:Env0 P w K mg base A outer s H) (hl:vs.length=ps.length) (r:Vals vs us)
  (x:InCallC s s.heap.objs.size (bindL (envOfC qual scope s.heap.objs.size f cd).kindOf (ps.zip us) fun _=>none) (cellsFrom (s.heap.objs.size+1) scope.names []) (bindC (envOfC qual scope s.heap.objs.size f cd).kindOf (ps.zip us) fun _=>none) s1) :
  Inv (cxOf CX P w K mg base N qual scope f cd A outer s H E) [] (Cp N vs) H s1:=by
 have hpl:ps.length<=N.length:=by have:=congrArg List.length S.pre;rw[List.length_take] at this;omega
 obtain⟨h1,tk,rfl,hk⟩:=x.done
 have noA:∀b:Addr,b ∉ (cxOf CX P w K mg base N qual scope f cd A outer s H E).ex:=fun b z=>absurd (show b∈([]:List Addr) from z) (by simp)
 refine⟨⟨e0.mod,S.kind,rfl,rfl,Nat.le_refl _,fun y z c h1 h2=>?_,fun y hy=>?_,fun y c _ h=>?_,fun _=>hd,Around.frames_deeper e0.frames,.inr ⟨rfl,rfl⟩,fun b z=>absurd z (noA b),e0.bs,e0.bsz,fun b _ _=>noA b,fun b z=>absurd z (noA b),e0.funs,e0.frf⟩,
  rfl,e0.bare,Un.kept hk,⟨_,x.toInCall.ns,fun i y v h1 h2 h3=>?_⟩,fun y c h=>⟨_,x.cell y c h⟩,e0.hok.fresh (Nat.le_refl _),fun y c h=>?_,fun p hp=>absurd (show p∈([]:List (Addr×Obj)) from hp) (by simp),e0.hok.kept hk,?_⟩
 ·exact name_of_addr x.apart (PySem.mem_of_lookup h1) (PySem.mem_of_lookup h2)
 ·have hy:scope.names.lookup y=some .cell\/scope.names.lookup y=some .free:=hy
  rcases hy with hy|hy
  ·exact Ij hy
  ·exact absurd rfl (S.nofree _ (PySem.mem_of_lookup hy))
 ·exact Nat.le_of_lt (x.above y c (PySem.mem_of_lookup h))
 ·have hi:i<vs.length:=by
   unfold Cp at h2
   by_cases hi:i<vs.length
   ·exact hi
   ·rw[List.getElem?_append_right (by simpa using hi)] at h2
    rw[List.getElem?_replicate] at h2
    split at h2 <;> cases h2
  have ha:vs[i]?=some v:=by
   unfold Cp at h2
   rw[List.getElem?_append_left (by simpa using hi),List.getElem?_map] at h2
   cases e:vs[i]? with
   |none=>rw[e] at h2;cases h2
   |some a=>rw[e] at h2;cases h2;rfl
  obtain⟨u,hu,rv⟩:=r.get ha
  have hp:ps[i]?=some y:=by
   rw[<-S.pre,List.getElem?_take_of_lt (by omega)];exact h1
  have ndP:ps.Nodup:=by rw[<-S.pre];exact S.nd.sublist (List.take_sublist _ _)
  refine⟨u,rv,?_⟩
  rcases S.par y (List.mem_of_getElem? hp) with k|k
  ·exact .inl ⟨k,Gi ndP hp hu k⟩
  ·obtain⟨c,e⟩:=Ij (n:=s.heap.objs.size+1) k
   refine .inr ⟨.inl k,c,e,?_⟩
   have q:=x.cell y c e
   rw[Gn ndP hp hu (by show scope.names.lookup y≠_;rw[k];decide)] at q
   exact q
 ·exact e0.hok.fresh (Nat.le_of_lt (x.above y c (PySem.mem_of_lookup h)))
 ·unfold Cp
  show _=N.length
  rw[List.length_append,List.length_map,List.length_replicate]
  omega
theorem fn_of{CX:CXT}{P:Program}{w:World}{K:PySem.W.Frag}{mg:Str->Option Value}{base:Heap}{k:Nat}{f:Addr}{name qual:Str}{params:Arguments}{body:List Stmt}{scope:Scope}{dV kV doc pm cdv ct oc:Value}{an od:Option Addr}
  {osl:Array (Option Value)} {N ps:List Str} {sp:Sp} (lk:K.lookup f=some ⟨oc,od,.func (PySem.W.fnOf name qual params body scope dV kV doc pm an cdv ct),osl⟩) (hcd:PySem.W.codeIn K cdv qual=true) (S:Zv N ps scope)
  (len:∀vs H Q E,sp vs H Q E->vs.length=ps.length)
  (hbody:∀(A:Around) (outer:List Env) (s:Shared) (H:Hp) (vs:List V) (Q:VK) (E:XK),Room k (A.deeper (envOfC qual scope s.heap.objs.size f cdv))->sp vs H Q E →
   ∃t,PSs (cxOf CX P w K mg base N qual scope f cdv A outer s H E) body t/\t { nx:=fun _ H'=>Q .non H',rt:=Q } (Cp N vs) H) :
  FnOk P w K mg base CX (k+1) f (PySem.W.fnOf name qual params body scope dV kV doc pm an cdv ct) ps sp:=by
 refine⟨len,fun A outer s H args us vs Q E hr e0 hb r hsp=>?_⟩
 have hl:=len _ _ _ _ hsp
 have KX:K.In s.heap:=e0.mod.kin.keeps fun b o e=>(e0.bs b o e).1
 have lim:s.heap.NoLimit:=e0.mod.nolimit.keeps fun b o e=>(e0.bs b o e).1
 have hkind:∀y∈ps.zip us,scope.names.lookup y.1=some .local\/(scope.names.lookup y.1=some .cell/\((cellsFrom (s.heap.objs.size+1) scope.names []).lookup y.1).isSome=true):=fun ⟨n,v⟩ hy=>by
  rcases S.par n (List.of_mem_zip hy).1 with q|q
  ·exact .inl q
  ·exact .inr ⟨q,PySem.W.cellsFrom_some _ _ _ (.inl q)⟩
 refine codeAny_call_function hr.depth (KX _ _ lk) rfl S.co S.gen rfl (PySem.W.codeRec_of KX hcd) (hb _ _ _ _ ?_)
 refine wpAny_newFunctionEnv_cells S.kind hkind fun env he s1 x=>?_
 subst he
 refine⟨lim.keeps x.toInCall.keep,codeAny_func ?_⟩
 obtain⟨t,ht,hq⟩:=hbody A outer s H vs Q E (hr.deeper _) hsp
 have I:Inv (cxOf CX P w K mg base N qual scope f cdv A outer s H E) [] (Cp N vs) H s1:=Og S hr.hd e0 hl r x
 refine wpAny_mono (ht [] s1 (Cp N vs) H _ I hq) (fun fl s' hs=>?_) fun e s' hs=>hs
 have fin:∀{σ':St} {H':Hp} {v:V} {u:Value},Inv (cxOf CX P w K mg base N qual scope f cdv A outer s H E) [] σ' H' s'->RelV v u->Q v H'->CE outer P w H s Q u s' :=
  fun {σ' H' v u} J rv q=>⟨v,H',J.os,J.bare,J.base,J.hok,rv,q⟩
 cases fl with
 |ret u =>
  obtain⟨v,σ',H',J,rv,q⟩:=hs
  exact fin J rv q
 |next =>
  obtain⟨σ',H',J,q⟩:=hs
  exact fin (v:=V.non) (u:=Value.none) J rfl q
 |brk =>
  obtain⟨_,_,_,q⟩:=hs
  exact False.elim q
 |cont =>
  obtain⟨_,_,_,q⟩:=hs
  exact False.elim q
end L2
namespace L2
open PySem PySem.Spec PyProof.Rows
section
variable{X:Cx}{x:Str}{p pos:Pos}{e:Expr}{es:List Expr}{t:TA}{id T:String}{r:List V->Hp->VK->Prop}
def tCB(r:List V->Hp->VK->Prop)(t:TA):TE:=fun σ H Q=>t σ H fun vs H1=>r vs H1 Q
theorem Qe(hc:CallR X (.builtin id) r)(hg:Gl X x)(hm:X.mg x=none)(hv:bootBuiltins x=some (.builtin id))(ha:PA X (e::es) t)(hn:x≠"__name__":=by decide)(hdb:(x==("__debug__":Str))=false:=by decide)
  (he:starEach (e::es) X.env=(false,eval e X.env)::starEach es X.env:=by rfl) (hpl:(backTo pos (starEach es X.env)).any (·.1)=false:=by rfl):PE X (.Call (.Name x p) (e::es) [] pos) (tCB r t):=by
 intro pins s σ H Q I h
 refine wpAny_Call_Name_kw (Br I hg hm hv ?_ hn hdb)
 exact PyProof.Rows.callWith_builtin1 (thn (ha pos pins s σ H _ I h) fun us s1 ⟨vs,H1,I1,r1,q1⟩=>hc pins s1 σ H1 vs us Q I1 r1 q1) he hpl
theorem M8(hc:CallR X (.type T) r)(hg:Gl X x)(hm:X.mg x=none)(hv:bootBuiltins x=some (.type T))(ha:PA X (e::es) t)(hn:x≠"__name__":=by decide)(hdb:(x==("__debug__":Str))=false:=by decide)
  (he:starEach (e::es) X.env=(false,eval e X.env)::starEach es X.env:=by rfl) (hpl:(backTo pos (starEach es X.env)).any (·.1)=false:=by rfl):PE X (.Call (.Name x p) (e::es) [] pos) (tCB r t):=by
 intro pins s σ H Q I h
 refine wpAny_Call_Name_kw (Br I hg hm hv ?_ hn hdb)
 exact PyProof.Rows.callWith_type1 (thn (ha pos pins s σ H _ I h) fun us s1 ⟨vs,H1,I1,r1,q1⟩=>hc pins s1 σ H1 vs us Q I1 r1 q1) he hpl
end
end L2
namespace L2
open PySem PySem.Spec PyProof.Rows
section
variable{κ:Type}[DecidableEq κ]
def valV(kvs:List (κ×V))(k:κ):Option V:=(kvs.find? fun kv=>decide (kv.1=k)).map (·.2)
def Bx(kvs:List (κ×V))(k:κ)(v:V):List (κ×V) :=
 if (kvs.any fun kv=>decide (kv.1=k))=true then kvs.map (fun kv=>if kv.1=k then (kv.1,v) else kv) else kvs++[(k,v)]
theorem D1{p:κ×V}{r:List (κ×V)}{k:κ}(e:p.1=k):valV (p::r) k=some p.2:=by simp[valV,List.find?_cons,e]
theorem D5{p:κ×V}{r:List (κ×V)}{k:κ}(e:¬ p.1=k):valV (p::r) k=valV r k:=by simp[valV,List.find?_cons,e]
theorem Fh(k:κ):∀kvs:List (κ×V),(kvs.any fun kv=>decide (kv.1=k))=(valV kvs k).isSome
 |[]=>rfl
 |p::r=>by
  rw[List.any_cons]
  by_cases e:p.1=k
  ·simp only[D1 e,decide_eq_true e,Bool.true_or,Option.isSome_some]
  ·rw[D5 e,decide_eq_false e,Bool.false_or];exact Fh k r
theorem Cm(kvs:List (κ×V))(k:κ)(v:V):(Bx kvs k v).length<=kvs.length+1:=by
 unfold Bx
 split
 ·rw[List.length_map];omega
 ·rw[List.length_append,List.length_cons,List.length_nil];omega
theorem Q1{kvs:List (κ×V)}{k:κ}(v:V)(h:valV kvs k=none):Bx kvs k v=kvs++[(k,v)]:=by
 unfold Bx
 rw[Fh,h]
 exact if_neg (by decide)
theorem RelO.isSome_eq{o:Option V}{u:Option Value}(r:RelO o u):o.isSome=u.isSome:=by
 cases o with
 |none=>cases u with
  |none=>rfl
  |some _=>exact(show False from r).elim
 |some _=>cases u with
  |none=>exact(show False from r).elim
  |some _=>rfl
theorem RelO.getD{o:Option V}{u:Option Value}{d:V}{d':Value}(r:RelO o u)(rd:RelV d d'):RelV (o.getD d) (u.getD d'):=by
 cases o with
 |none=>cases u with
  |none=>exact rd
  |some _=>exact(show False from r).elim
 |some _=>cases u with
  |none=>exact(show False from r).elim
  |some _=>exact r
theorem KV.val{kvs:List (κ×V)}{vs:List (κ×Value)}(r:KV kvs vs)(k:κ):RelO (valV kvs k) (valueAt vs k):=by
 unfold KV at r
 induction r with
 |nil=>exact True.intro
 | @cons p q ps qs h t ih =>
  obtain⟨h1,h2⟩:=h
  by_cases e:p.1=k
  ·have e':q.1=k:=h1.symm.trans e
   have b:valueAt (q::qs) k=some q.2:=by simp[valueAt,List.find?_cons,e']
   rw[D1 e,b];exact h2
  ·have e':¬ q.1=k:=fun z=>e (h1.trans z)
   have b:valueAt (q::qs) k=valueAt qs k:=by simp[valueAt,List.find?_cons,e']
   rw[D5 e,b];exact ih
theorem KV.any{kvs:List (κ×V)}{vs:List (κ×Value)}(r:KV kvs vs)(k:κ):(kvs.any fun kv=>decide (kv.1=k))=vs.any fun kv=>decide (kv.1=k):=by
 unfold KV at r
 induction r with
 |nil=>rfl
 |cons h t ih=>rw[List.any_cons,List.any_cons,ih,h.1]
theorem KV.repl{kvs:List (κ×V)}{vs:List (κ×Value)}(r:KV kvs vs)(k:κ){y:V}{u:Value}(ry:RelV y u):
  KV (kvs.map fun kv=>if kv.1=k then (kv.1,y) else kv) (vs.map fun kv=>if kv.1=k then (kv.1,u) else kv):=by
 unfold KV at r ⊢
 induction r with
 |nil=>exact .nil
 | @cons p q ps qs h t ih =>
  rw[List.map_cons,List.map_cons]
  refine .cons ?_ ih
  obtain⟨h1,h2⟩:=h
  by_cases e:p.1=k
  ·rw[if_pos e,if_pos (h1.symm.trans e)];exact⟨h1,ry⟩
  ·rw[if_neg e,if_neg (fun z=>e (h1.trans z))];exact⟨h1,h2⟩
theorem KV.put{kvs:List (κ×V)}{vs:List (κ×Value)}(r:KV kvs vs)(k:κ){y:V}{u:Value}(ry:RelV y u):KV (Bx kvs k y) (stored vs k u):=by
 unfold Bx stored
 rw[r.any k]
 by_cases e:(vs.any fun kv=>decide (kv.1=k))=true
 ·rw[if_pos e,if_pos e];exact r.repl k ry
 ·rw[if_neg e,if_neg e];exact Paired.snoc r ⟨rfl,ry⟩
theorem KV.length{kvs:List (κ×V)}{vs:List (κ×Value)}(r:KV kvs vs):kvs.length=vs.length:=Paired.length r
end
theorem Fy{P:Program}{w:World}{k:Key}{u:Value}(r:RelV (kV k) u):(mixKind P w).is k u=true:=by
 cases k with
 |inl i=>obtain⟨t,e⟩:=(show ∃t,u=Value.int i t from r);subst e;exact Je P w i t
 |inr x=>obtain⟨t,e⟩:=(show ∃t,u=Value.str x t from r);subst e;exact Cr P w x t
theorem Gb{P:Program}{w:World}:∀{ks:List Key} {us:List Value},Vals (ks.map kV) us->ItemsAre (mixKind P w) ks us
 |[],_,r=>by rw[List.map_nil] at r;cases r;exact .nil
 |k::ks,_,r=>by
  rw[List.map_cons] at r
  cases r with
  |cons h t=>exact .cons (Fy h) (Gb t)
abbrev KT(H:Hp):List (List Key×V)->List (List Key×Addr×Value)->Prop:=Paired fun p q=>p.1=q.1/\H q.2.1=some (.tup (p.1.map kV))/\RelV p.2 q.2.2
theorem KT.val{H:Hp}{kvs:List (List Key×V)}{xs:List (List Key×Addr×Value)}(r:KT H kvs xs)(k:List Key):RelO (valV kvs k) ((atKey xs k).map (·.2)):=by
 induction r with
 |nil=>exact True.intro
 | @cons p q ps qs h t ih =>
  obtain⟨h1,_,h2⟩:=h
  by_cases e:p.1=k
  ·have e':q.1=k:=h1.symm.trans e
   have b:atKey (q::qs) k=some q.2:=by simp[atKey,List.find?_cons,e']
   rw[D1 e,b];exact h2
  ·have e':¬ q.1=k:=fun z=>e (h1.trans z)
   have b:atKey (q::qs) k=atKey qs k:=by simp[atKey,List.find?_cons,e']
   rw[D5 e,b];exact ih
theorem KT.repl{H:Hp}{kvs:List (List Key×V)}{xs:List (List Key×Addr×Value)}(r:KT H kvs xs)(k:List Key){y:V}{u:Value}(ry:RelV y u):
  KT H (kvs.map fun kv=>if kv.1=k then (kv.1,y) else kv) (xs.map (putAt k u)):=by
 induction r with
 |nil=>exact .nil
 | @cons p q ps qs h t ih =>
  rw[List.map_cons,List.map_cons]
  refine .cons ?_ ih
  obtain⟨h1,h2,h3⟩:=h
  unfold putAt
  by_cases e:p.1=k
  ·rw[if_pos e,if_pos (h1.symm.trans e)];exact⟨h1,h2,ry⟩
  ·rw[if_neg e,if_neg (fun z=>e (h1.trans z))];exact⟨h1,h2,h3⟩
theorem KT.put{H:Hp}{kvs:List (List Key×V)}{xs:List (List Key×Addr×Value)}(r:KT H kvs xs)(k:List Key){b:Addr}{y:V}{u:Value}(hb:H b=some (.tup (k.map kV)))(ry:RelV y u):
  KT H (Bx kvs k y) (storedH xs k b u):=by
 have e:(kvs.any fun kv=>decide (kv.1=k))=(atKey xs k).isSome:=by
  rw[Fh,(r.val k).isSome_eq,Option.isSome_map]
 unfold Bx storedH
 rw[e]
 by_cases q:(atKey xs k).isSome=true
 ·rw[if_pos q,if_pos q];exact r.repl k ry
 ·rw[if_neg q,if_neg q];exact Paired.snoc r ⟨rfl,hb,ry⟩
theorem KT.keeps{H H':Hp}{kvs:List (List Key×V)}{xs:List (List Key×Addr×Value)}(r:KT H kvs xs)(ht:∀b ys,H b=some (.tup ys)->H' b=some (.tup ys)):KT H' kvs xs :=
 Paired.mapP r fun _ _ z=>⟨z.1,ht _ _ z.2.1,z.2.2⟩
section
variable{P:Program}{w:World}{H:Hp}{h:Heap}{a:Addr}
theorem V8{u:HO}(ok:HOk P w H h)(e:Rd H a u):ObjOk P w H h a u:=e.ok ok
theorem Mb{kvs:List (Key×V)}(ok:HOk P w H h)(e:Rd H a (.dK kvs)):kvs.length<=sizeLine/\(a==sysModules)=false/\∃vs,KV kvs vs/\h.DictOf (mixKind P w) a vs :=
 show ObjOk P w H h a (.dK kvs) from V8 ok e
theorem dk_of{kvs:List (Key×V)}(ok:HOk P w H h)(e:H a=some (.dK kvs)):kvs.length<=sizeLine/\(a==sysModules)=false/\∃vs,KV kvs vs/\h.DictOf (mixKind P w) a vs:=Mb ok (.inl e)
theorem Hm{ks:List Key}(ok:HOk P w H h)(e:H a=some (.tup (ks.map kV))):(tupleKind (mixKind P w)).is h ks a:=by
 obtain⟨_,its,r,o,h1,h2,⟨n,h3⟩,_⟩:=(show ObjOk P w H h a (.tup (ks.map kV)) from ok a _ e)
 exact⟨o,its.toArray,n,h1,h2,h3,by simpa using Gb r⟩
theorem L8{kvs:List (List Key×V)}(ok:HOk P w H h)(e:Rd H a (.dT kvs)):kvs.length<=sizeLine/\(a==sysModules)=false ∧
  ∃xs,KT H kvs xs/\h.DictOfH (tupleKind (mixKind P w)) a xs:=by
 obtain⟨z,y,xs,r,o,es,ep,h1,h2,h3,h4,h5⟩:=(show ObjOk P w H h a (.dT kvs) from V8 ok e)
 refine⟨z,y,xs,r,o,es,ep,h1,h2,h3,h4,fun x hx=>?_,h5⟩
 have all:∀{l:List (List Key×V)} {m:List (List Key×Addr×Value)},KT H l m->∀x∈m,(tupleKind (mixKind P w)).is h x.1 x.2.1:=by
  intro l m q
  induction q with
  |nil=>intro x hx;exact nomatch hx
  | @cons p q ps qs hq t ih =>
   intro x hx
   rcases List.mem_cons.mp hx with e|hx
   ·subst e
    exact Hm ok (by rw[<-hq.1];exact hq.2.1)
   ·exact ih x hx
 exact all r x hx
theorem dt_of{kvs:List (List Key×V)}(ok:HOk P w H h)(e:H a=some (.dT kvs)):kvs.length<=sizeLine/\(a==sysModules)=false ∧
  ∃xs,KT H kvs xs/\h.DictOfH (tupleKind (mixKind P w)) a xs:=L8 ok (.inl e)
end
def DGet(H:Hp)(a:Addr)(y:V)(r:Option V):Prop :=
 (∃kvs k,Rd H a (.dK kvs)/\y=kV k/\r=valV kvs k)\/∃kvs k b,Rd H a (.dT kvs)/\y=.ref b/\H b=some (.tup (k.map kV))/\r=valV kvs k
def DPut(H:Hp)(a:Addr)(y v:V)(H':Hp):Prop :=
 (∃kvs k,H a=some (.dK kvs)/\y=kV k/\kvs.length<sizeLine/\H'=upd H a (.dK (Bx kvs k v))) ∨
 ∃kvs k b,H a=some (.dT kvs)/\y=.ref b/\H b=some (.tup (k.map kV))/\kvs.length<sizeLine/\H'=upd H a (.dT (Bx kvs k v))
theorem DGet.k{H:Hp}{a:Addr}{kvs:List (Key×V)}{k:Key}(e:H a=some (.dK kvs)):DGet H a (kV k) (valV kvs k):=.inl ⟨kvs,k,.inl e,rfl,rfl⟩
theorem DPut.t{H:Hp}{a b:Addr}{kvs:List (List Key×V)}{k:List Key}{v:V}(e:H a=some (.dT kvs))(eb:H b=some (.tup (k.map kV)))(hl:kvs.length<sizeLine):
  DPut H a (.ref b) v (upd H a (.dT (Bx kvs k v))):=.inr ⟨kvs,k,b,e,rfl,eb,hl,rfl⟩
section
variable{X:Cx}{pins:List (Addr×Obj)}{σ:St}{H:Hp}{s:Shared}{a:Addr}{y v:V}{u r:Value}{o:Option V}{A:Around}{E:Value->Shared->Prop}
theorem Inv.big(I:Inv X pins σ H s):sysModules<s.heap.objs.size:=by
 have h:mainGlobals<s.heap.objs.size:=(I.mod.glob.keeps I.bk).lt
 exact Nat.lt_trans (by decide) h
theorem M5{Q:Value->Shared->Prop}(hu:A.units+1<cLine)(I:Inv X pins σ H s)(g:DGet H a y (some v))(ry:RelV y u)(h:∀w' s',Inv X pins σ H s'->RelV v w'->Q w' s'):
  wpAny (model X.prog X.w) A (getItem (.ref a) u) Q E s:=by
 rcases g with⟨kvs,k,e,ey,l⟩|⟨kvs,k,b,e,ey,eb,l⟩
 ·subst ey
  obtain⟨z,hd,vs,rel,dd⟩:=Mb I.hok e
  obtain⟨w',hw,rw'⟩:=RelO.some_of (v:=v) (o:=valueAt vs k) (by rw[l];exact rel.val k)
  exact wpAny_getItem_of (Fy ry) dd.mapOf hw (h w' _ (I.tok _) rw')
 ·subst ey
  cases (show u=Value.ref b from ry)
  obtain⟨z,hd,xs,rel,dd⟩:=L8 I.hok e
  obtain⟨w',hw,rw'⟩:=RelO.some_of (v:=v) (o:=(atKey xs k).map (·.2)) (by rw[l];exact rel.val k)
  obtain⟨p,hp,hp2⟩:=Option.map_eq_some_iff.mp hw
  refine wpAny_getItem_heap (tupleKind_room_in1 hu) (Hm I.hok eb) dd hp ?_
  rw[hp2]
  exact h w' _ (I.tok _) rw'
theorem Ue{Q:Value->Shared->Prop}(hu:A.units+1<cLine)(I:Inv X pins σ H s)(g:DGet H a y o)(ry:RelV y u)(h:∀s',Inv X pins σ H s'->Q (.bool (!o.isSome)) s'):
  wpAny (model X.prog X.w) A (compareOp .NotIn u (.ref a)) Q E s:=by
 rcases g with⟨kvs,k,e,ey,l⟩|⟨kvs,k,b,e,ey,eb,l⟩
 ·subst ey
  obtain⟨z,hd,vs,rel,dd⟩:=Mb I.hok e
  refine wpAny_notIn_of (Fy ry) hd dd.mapOf ?_
  rw[<-(rel.val k).isSome_eq,<-l]
  exact h _ (I.tok _)
 ·subst ey
  cases (show u=Value.ref b from ry)
  obtain⟨z,hd,xs,rel,dd⟩:=L8 I.hok e
  refine wpAny_notIn_heap (tupleKind_room_in1 hu) (Hm I.hok eb) hd dd ?_
  have q:=(rel.val k).isSome_eq
  rw[Option.isSome_map] at q
  rw[<-q,<-l]
  exact h _ (I.tok _)
theorem Mj{h':Heap}{t':Nat}{ob:HO}(I:Inv X pins σ H s)(mu:Mut (H a))(hs:Heap.SameBut a s.heap h')(he:∃q,h'.get? a=some q)(new:ObjOk X.prog X.w (upd H a ob) h' a ob):
  Inv X pins σ (upd H a ob) { s with heap:=h',toks:=t' } :=
 I.write (x:=a) (e:=a) mu (.inl rfl) (fun b q hb z=>(hs.2 b hb).trans z) he new
theorem dk_new{P:Program}{w:World}{H':Hp}{h':Heap}{kvs:List (Key×V)}{vs:List (Key×Value)}(z:kvs.length<=sizeLine)(hd:(a==sysModules)=false)(rel:KV kvs vs)(dd:h'.DictOf (mixKind P w) a vs):
  ObjOk P w H' h' a (.dK kvs):=⟨z,hd,vs,rel,dd⟩
theorem N9{H':Hp}{Q:Unit->Shared->Prop}(hu:A.units+1<cLine)(I:Inv X pins σ H s)(g:DPut H a y v H')(ry:RelV y u)(rv:RelV v r)(h:∀s',Inv X pins σ H' s'->Q () s'):
  wpAny (model X.prog X.w) A (setItem (.ref a) u r) Q E s:=by
 rcases g with⟨kvs,k,e,ey,l,eH⟩|⟨kvs,k,b,e,ey,eb,l,eH⟩
 ·subst ey eH
  obtain⟨z,hd,vs,rel,dd⟩:=dk_of I.hok e
  have hz:vs.length<=sizeLine:=by rw[<-rel.length];exact z
  have hl:(Bx kvs k v).length<=sizeLine:=by have:=Cm kvs k v;omega
  refine wpAny_setItem_pairs (hsz:=hz) (Fy ry) dd fun h' dd' hs=>h _ ?_
  have he:∃q,h'.get? a=some q:=let ⟨q,_,_,hq,_⟩:=dd';⟨q,hq⟩
  exact Mj I (by rw[e];exact True.intro) hs he (dk_new hl hd (rel.put k rv) dd')
 ·subst ey eH
  cases (show u=Value.ref b from ry)
  obtain⟨z,hd,xs,rel,dd⟩:=dt_of I.hok e
  have hz:xs.length<=sizeLine:=by rw[<-Paired.length rel];exact z
  have hl:(Bx kvs k v).length<=sizeLine:=by have:=Cm kvs k v;omega
  refine wpAny_setItem_heap (hsz:=hz) (tupleKind_room_in1 hu) (Hm I.hok eb) dd fun h' dd' hs=>h _ ?_
  obtain⟨q,es,ep,hq,h2,h3,h4,_,h5⟩:=dd'
  refine Mj I (by rw[e];exact True.intro) hs ⟨q,hq⟩ ⟨hl,hd,_,(rel.put k eb rv).keeps fun c ys ec=>?_,q,es,ep,hq,h2,h3,h4,h5⟩
  rw[Xc (ne_of ec e (fun z=>nomatch z))]
  exact ec
end
def Nu(i:Expr):Prop:=∀ov iv,subscripted i false ov iv=operate [ov,iv] (getItem ov iv)
theorem K3{prog:Program}{w:World}{A:Around}{E:Value->Shared->Prop}{s:Shared}{env:Env}{value slice:Expr}{pos:Pos}{T id:String}{Q:Value->Shared->Prop}
  (hl:typeLookup (.type T) "__getitem__"=pure (some (.builtin id))) (hs:Nu slice)
  (h:wpAny (model prog w) A (eval value env) (fun o s₁=>wpAny (model prog w) A (eval slice env) (fun i s₂=>s₂.TypeIs o T/\wpAny (model prog w) A (getItem o i) Q E s₂) E s₁) E s) :
  wpAny (model prog w) A (eval (.Subscript value slice pos) env) Q E s:=by
 refine Subscript_ (wpAny_mono h (fun o s₁ h₁=>wpAny_mono h₁ (fun i s₂ h₂=>?_) fun _ _ x=>x) fun _ _ x=>x)
 obtain⟨hT,h₂⟩:=h₂
 unfold subscriptTail
 refine wpAny_bind ?_
 rw[getitemInPython_of_ne hT.not_modules]
 refine wpAny_bind (wpAny_specialOf hT hl ?_)
 have fin:wpAny (model prog w) A (subscripted slice false o i) (fun r s₃=>wpAny (model prog w) A (letTemporaryGo value o r >>= fun _=>pure r) Q E s₃) E s₂:=by
  rw[hs o i]
  exact wpAny_operating (wpAny_mono h₂ (fun r s₃ h₃=>wpAny_bind (wpAny_letTemporaryGo (wpAny_pure h₃))) fun _ _ x=>x)
 first
  |exact wpAny_pure (wpAny_bind fin)
  |exact wpAny_bind (wpAny_pure (wpAny_bind fin))
  |exact wpAny_bind fin
theorem Jl{X:Cx}{pins:List (Addr×Obj)}{σ:St}{H:Hp}{s:Shared}{a:Addr}{y:V}{o:Option V}(I:Inv X pins σ H s)(g:DGet H a y o):s.TypeIs (.ref a) "dict":=by
 rcases g with⟨kvs,k,e,_,_⟩|⟨kvs,k,b,e,_,_,_⟩
 ·obtain⟨_,_,vs,_,dd⟩:=Mb I.hok e
  exact dd.typeIs
 ·obtain⟨_,_,xs,_,dd⟩:=L8 I.hok e
  exact dd.typeIs
def tDGet(td ty:TE):TE:=fun σ H Q=>td σ H fun x H1=>ty σ H1 fun y H2=>∃a v,x=.ref a/\DGet H2 a y (some v)/\Q v H2
def sDPut(td ty tv:TE):TS:=fun D σ H=>tv σ H fun v H1=>td σ H1 fun x H2=>ty σ H2 fun y H3=>∃a H4,x=.ref a/\DPut H3 a y v H4/\D.nx σ H4
section
variable{X:Cx}{o i e value:Expr}{pos pos' tpos:Pos}{td ty tv:TE}
theorem K5(hu:X.A.units+1<cLine)(ho:PE X o td)(hi:PE X i ty)(hs:Nu i):PE X (.Subscript o i pos) (tDGet td ty):=by
 intro pins s σ H Q I h
 refine K3 PySem.F.slot_dict_getitem.lookup hs (thn (ho pins s σ H _ I h) fun u s1 ⟨x,H1,I1,rx,q1⟩=>thn (hi pins s1 σ H1 _ I1 q1) fun iv s2 ⟨y,H2,I2,ry,a,v,ex,g,q2⟩=>?_)
 subst ex
 obtain rfl:u=Value.ref a:=rx
 exact⟨Jl I2 g,M5 hu I2 g ry fun w' s3 I3 rw'=>⟨v,H2,I3,rw',q2⟩⟩
theorem Uu(hu:X.A.units+1<cLine)(ho:PE X o td)(hi:PE X i ty)(hv:PE X value tv)(hs:swapsWith value (some (.Subscript o i pos')) pos.line X.env=pure false):
  PS X (.Assign [.Subscript o i pos'] value pos) (sDPut td ty tv):=by
 intro pins s σ H D I h
 refine wpAny_Assign_Subscript (thn (hv pins s σ H _ I h) fun r s1 ⟨v,H1,I1,rv,q1⟩=>thn (ho pins s1 σ H1 _ I1 q1) fun u s2 ⟨x,H2,I2,rx,q2⟩=>thn (hi pins s2 σ H2 _ I2 q2) fun iv s3 ⟨y,H3,I3,ry,a,H4,ex,g,q3⟩=>?_) hs
 subst ex
 obtain rfl:u=Value.ref a:=rx
 exact N9 hu I3 g ry rv fun s4 I4=>⟨σ,H4,I4,q3⟩
end
theorem Ta{P:Program}{w:World}{H:Hp}(h:Heap)(hb:sysModules<h.objs.size):ObjOk P w H (h.push { cls:=.type "dict",data:=.dict #[] }) h.objs.size (.dK []) :=
 ⟨Nat.zero_le _,beq_eq_false_iff_ne.mpr (Ne.symm (Nat.ne_of_lt hb)),[],.nil,Heap.DictOf.new h⟩
theorem O2{P:Program}{w:World}{H:Hp}(h:Heap)(hb:sysModules<h.objs.size):ObjOk P w H (h.push { cls:=.type "dict",data:=.dict #[] }) h.objs.size (.dT []) :=
 ⟨Nat.zero_le _,beq_eq_false_iff_ne.mpr (Ne.symm (Nat.ne_of_lt hb)),[],.nil,_,#[],0,Heap.get?_push_size _ rfl,⟨rfl,rfl,rfl⟩,rfl,rfl,List.nodup_nil⟩
def Xx:TE:=fun _ H Q=>∀p,H p=none->Q (.ref p) (upd H p (.dK []))
def W0:TE:=fun _ H Q=>∀p,H p=none->Q (.ref p) (upd H p (.dT []))
section
variable{X:Cx}{pos:Pos}
theorem Q0:PE X (.Dict [] [] pos) Xx:=fun pins s σ H Q I h =>
 wpAny_Dict_empty ⟨.ref s.heap.objs.size,_,I.laid (a:=s.heap.objs.size) (o:=.dK []) (t':=s.toks) (fun _ _ q=>Heap.get?_push_of_some _ q) (Nat.le_refl _) (Ta s.heap I.big),rfl,h _ (I.hok.fresh (Nat.le_refl _))⟩
theorem O3:PE X (.Dict [] [] pos) W0:=fun pins s σ H Q I h =>
 wpAny_Dict_empty ⟨.ref s.heap.objs.size,_,I.laid (a:=s.heap.objs.size) (o:=.dT []) (t':=s.toks) (fun _ _ q=>Heap.get?_push_of_some _ q) (Nat.le_refl _) (O2 s.heap I.big),rfl,h _ (I.hok.fresh (Nat.le_refl _))⟩
end
def Di(kvs more:List (Key×V)):List (Key×V):=more.foldl (fun acc kv=>Bx acc kv.1 kv.2) kvs
theorem KV.merge:∀{more:List (Key×V)} {rs:List (Key×Value)} {kvs:List (Key×V)} {vs:List (Key×Value)},KV more rs->KV kvs vs->KV (Di kvs more) (merged vs rs):=by
 intro more rs kvs vs r
 unfold KV at r
 induction r generalizing kvs vs with
 |nil=>intro q;exact q
 | @cons p q ps qs h t ih =>
  intro r0
  have e:KV (Bx kvs p.1 p.2) (stored vs q.1 q.2):=by
   have:=r0.put p.1 h.2
   rw[<-h.1];exact this
  exact ih e
theorem Dc:∀(more kvs:List (Key×V)),(Di kvs more).length<=kvs.length+more.length
 |[],kvs=>by show kvs.length<=kvs.length+0;omega
 |p::r,kvs=>by
  have h1:=Dc r (Bx kvs p.1 p.2)
  have h2:=Cm kvs p.1 p.2
  show (Di (Bx kvs p.1 p.2) r).length<=_
  rw[List.length_cons];omega
structure M1(X:Cx)(o:Expr)(m:Str)(apos:Pos)(e:Expr)(cpos:Pos):Prop where
 base:attributeBase o m X.env (eval o X.env)=eval o X.env
 few:((backTo cpos (starEach [e] X.env)).all (fun x=>!x.1)&&(backToKw cpos (keywordEach [] X.env)).all (fun x=>x.1.isSome)
  && decide (([e]:List Expr).length+([]:List Keyword).length+(if ([]:List Keyword).isEmpty then 0 else 1)<30))=true
 line:(apos.endLine==cpos.line)=true
 trees:backTo cpos (starEach [e] X.env)=[(false,eval e X.env)]
end L2
namespace HT
open PySem PyProof.Rows
section
open PySem.SeqAt
open PySem.AutoSeq1 (wpAny_loadPart')
open PySem.MeetsSeq PySem.MeetsSeq2 PySem.MeetsSeq3
end
section
variable{prog:Program}{w:World}{A:Around}{E:Value->Shared->Prop}{s:Shared}
theorem cat_tup{t b:Addr}{vs ws:List Value}{Q:Value->Shared->Prop}(ht:IsTup s.heap t vs.toArray)(hb:IsTup s.heap b ws.toArray)(hv:vs≠[])
  (h1:ws=[]->Q (.ref t) s) (h2:ws≠[]->Q (.ref s.heap.objs.size) { s with heap:=s.heap.push { cls:=.type "tuple",data:=.seq (vs++ws).toArray } })
  (hsz:vs.length+ws.length<=sizeLine):wpAny (model prog w) A (binaryOp .Add (.ref t) (.ref b)) Q E s:=by
 obtain⟨⟨cls,dd,data,sl⟩,ho,hc,n,hd⟩:=id ht
 obtain⟨⟨cls2,dd2,data2,sl2⟩,ho2,hc2,n2,hd2⟩:=id hb
 simp only at hc hd hc2 hd2
 subst hc hd hc2 hd2
 have e:vs.toArray++ws.toArray=(vs++ws).toArray:=by simp
 by_cases hw:ws=[]
 ·exact concat_meets ⟨_,ho,rfl⟩ ⟨_,ho2,rfl⟩ noFill_tuple_add seq_tuple_add PySem.F.slot_tuple_add PySem.F.entry_tuple_add (PySem.F.args_tuple_add_2 _ _)
   (tuple_addW1 t b vs.toArray ws.toArray n n2 dd dd2 sl sl2 (by simpa using hv) (by simp[hw])) ⟨ho,ho2,h1 hw⟩
 ·refine concat_meets ⟨_,ho,rfl⟩ ⟨_,ho2,rfl⟩ noFill_tuple_add seq_tuple_add PySem.F.slot_tuple_add PySem.F.entry_tuple_add (PySem.F.args_tuple_add_2 _ _)
   (tuple_addW2 t b vs.toArray ws.toArray n n2 dd dd2 sl sl2 (by simpa using hv) (by simpa using hw) (by rw[List.size_toArray,List.size_toArray];exact hsz)) ⟨ho,ho2,?_⟩
  rw[e]
  exact h2 hw
def sIx(n d:Nat):Option Int->Nat
 |none=>d
 |some v=>if v<0 then (v+(n:Int)).toNat else min v.toNat n
theorem X9(n d:Nat)(hd:d<=n)(o:Option Int):sIx n d o<=n:=by
 cases o with
 |none=>exact hd
 |some v =>
  show (if v<0 then (v+(n:Int)).toNat else min v.toNat n)<=n
  by_cases hv:v<0
  ·rw[if_pos hv];omega
  ·rw[if_neg hv];exact Nat.min_le_right _ _
theorem Lu(v:Int)(n d:Nat):(if v<0 then max (v+(n:Int)) 0 else min v (n:Int))=((sIx n d (some v):Nat):Int):=by
 show (if v<0 then max (v+(n:Int)) 0 else min v (n:Int))=(((if v<0 then (v+(n:Int)).toNat else min v.toNat n):Nat):Int)
 by_cases hv:v<0
 ·simp only[if_pos hv];omega
 ·simp only[if_neg hv];omega
theorem Kw(lo hi:Option Int)(n:Nat):Builtin.Slice.sliceAdjust lo hi 1 (n:Int)=(((sIx n 0 lo:Nat):Int),((sIx n n hi:Nat):Int)):=by
 have h1:¬ ((1:Int)<0):=by omega
 unfold Builtin.Slice.sliceAdjust
 simp only[h1,if_false]
 refine Prod.ext ?_ ?_
 ·cases lo with
  |none=>rfl
  |some v=>exact Lu v n 0
 ·cases hi with
  |none=>rfl
  |some v=>exact Lu v n n
theorem Ju(i j:Nat):Builtin.Slice.slicePlaces (i:Int) (j:Int) 1=j - i:=by
 unfold Builtin.Slice.slicePlaces
 have h1:(1:Int) > 0:=by omega
 simp only[h1,if_true,Int.ediv_one]
 split <;> omega
theorem Fl{v:Value}{o:Option Int}{Q:Option Int->Shared->Prop}(p:IsPart v o)(h:Q o s):wpAny (model prog w) A (Builtin.Slice.slicePartIndex v) Q E s:=by
 cases p with
 |none=>exact slicePart_none h
 |int i t=>exact slicePart_int h
theorem B2{sl:Addr}{vl vu:Value}{lo hi:Option Int}{n:Nat}{Q:Int×Int×Nat->Shared->Prop}(hs:s.heap.IsSliceOf sl vl vu .none)(pl:IsPart vl lo)(pu:IsPart vu hi)
  (h:Q (((sIx n 0 lo:Nat):Int),1,sIx n n hi - sIx n 0 lo) s):wpAny (model prog w) A (Builtin.Slice.sliceApplied (.ref sl) (pure (n:Int))) Q E s:=by
 obtain⟨os,hos,hcs,hds⟩:=id hs
 unfold Builtin.Slice.sliceApplied Builtin.Slice.sliceFields
 refine wpAny_bind (wpAny_bind (wpAny_field hos hds (x:=vl) rfl (wpAny_bind (wpAny_field hos hds (x:=vu) rfl (wpAny_bind (wpAny_field hos hds (x:=.none) rfl (wpAny_pure ?_)))))))
 refine wpAny_bind (slicePart_none ?_)
 show wpAny _ _ (if ((1:Int)==0)=true then _ else _) _ _ s
 rw[if_neg (by decide)]
 refine wpAny_bind (Fl pl (wpAny_bind (Fl pu (wpAny_bind (wpAny_pure ?_)))))
 show wpAny _ _ (match Builtin.Slice.sliceAdjust lo hi 1 (n:Int) with|(lo,hi)=>pure (lo,(1:Int),Builtin.Slice.slicePlaces lo hi 1)) _ _ s
 rw[Kw lo hi n]
 show wpAny _ _ (pure (((sIx n 0 lo:Nat):Int),(1:Int),Builtin.Slice.slicePlaces ((sIx n 0 lo:Nat):Int) ((sIx n n hi:Nat):Int) 1)) _ _ s
 rw[Ju]
 exact wpAny_pure h
theorem Rz(xs:Array Value)(i k:Nat):((List.range k).filterMap fun (m:Nat)=>xs[((i:Int)+(m:Int) * 1).toNat]?).toArray=((xs.toList.drop i).take k).toArray:=by
 have e:(fun (m:Nat)=>xs[((i:Int)+(m:Int) * 1).toNat]?)=fun m=>xs[i+m]?:=by
  funext m
  have:((i:Int)+(m:Int) * 1).toNat=i+m:=by omega
  rw[this]
 rw[e]
 have:=pick_run xs i k
 rw[List.filterMap_map] at this
 have e2:((fun x=>xs[x]?) ∘ fun x=>i+x)=fun m=>xs[i+m]?:=rfl
 rw[e2] at this
 rw[this]
theorem getItem_tuple_cut{t sl:Addr}{items:Array Value}{vl vu:Value}{lo hi:Option Int}{Q:Value->Shared->Prop}(ht:IsTup s.heap t items)(hs:s.heap.IsSliceOf sl vl vu .none)(pl:IsPart vl lo)(pu:IsPart vu hi)
  (hw:¬ (sIx items.size 0 lo=0/\sIx items.size items.size hi=items.size))
  (h:Q (.ref s.heap.objs.size) { s with heap:=s.heap.push { cls:=.type "tuple",data:=.seq ((items.toList.drop (sIx items.size 0 lo)).take (sIx items.size items.size hi - sIx items.size 0 lo)).toArray } })
  (hsz:items.size<=sizeLine):wpAny (model prog w) A (getItem (.ref t) (.ref sl)) Q E s:=by
 have htake:sizeOk (.seq ((items.toList.drop (sIx items.size 0 lo)).take (sIx items.size items.size hi - sIx items.size 0 lo)).toArray):=by
  show ((items.toList.drop (sIx items.size 0 lo)).take (sIx items.size items.size hi - sIx items.size 0 lo)).toArray.size<=sizeLine
  rw[List.size_toArray,List.length_take,List.length_drop,Array.length_toList]
  omega
 have hj:sIx items.size items.size hi<=items.size:=X9 _ _ (Nat.le_refl _) hi
 obtain⟨os,hos,hcs,hds⟩:=id hs
 have hTs:s.TypeIs (.ref sl) "slice":=⟨os,hos,hcs⟩
 unfold getItem
 try with_reducible refine wpAny_holding ?_
 first|refine wpAny_bind (wpAny_pure ?_)|skip
 refine wpAny_bind (wpAny_sequenceKey ht.typeIs (by decide) ?_)
 refine wpAny_bind (wpAny_callSpecial?_slot (name:=Str.ofString "__getitem__") ht.typeIs PyProof.Rows.slot_tuple_getitem
  (wpAny_call_entry PyProof.Rows.slot_tuple_getitem ht.typeIs entry_tuple_getitem ?_ (args_tuple_getitem _ _)))
 show wpAny _ _ (Builtin.Tuple.tupleItemsOf (.ref t) >>= _) _ _ s
 refine wpAny_bind (tupleItemsOf_ ht ?_)
 refine wpAny_bind (wpAny_typeOf hTs ?_)
 rw[if_pos (by decide)]
 refine wpAny_bind (B2 hs pl pu ?_)
 have hno:¬ ((((sIx items.size 0 lo:Nat):Int)==0&&(1:Int)==1&&(sIx items.size items.size hi - sIx items.size 0 lo)==items.size)=true):=by
  intro q
  rw[Bool.and_eq_true,Bool.and_eq_true] at q
  have q1:((sIx items.size 0 lo:Nat):Int)=0:=eq_of_beq q.1.1
  have q2:sIx items.size items.size hi - sIx items.size 0 lo=items.size:=eq_of_beq q.2
  exact hw ⟨by omega,by omega⟩
 show wpAny _ _ (if (((sIx items.size 0 lo:Nat):Int)==0&&(1:Int)==1&&(sIx items.size items.size hi - sIx items.size 0 lo)==items.size)=true then _ else _) _ _ s
 rw[if_neg hno,Rz]
 first
  |exact wpAny_bind (m:=Builtin.Tuple.tupleExact _) (wpAny_newObj_type (wpAny_pure ⟨_,rfl,wpAny_pure h⟩) htake)
  |exact wpAny_bind (m:=Builtin.Tuple.tupleExact _) (wpAny_newObj_type (wpAny_bind (wpAny_pure (wpAny_pure ⟨_,rfl,wpAny_pure h⟩))) htake)
  |exact wpAny_bind (wpAny_bind (m:=Builtin.Tuple.tupleExact _) (wpAny_newObj_type (wpAny_pure (wpAny_pure ⟨_,rfl,wpAny_pure h⟩)) htake))
  |exact wpAny_bind (wpAny_bind (m:=Builtin.Tuple.tupleExact _) (wpAny_newObj_type (wpAny_pure ⟨_,rfl,wpAny_pure h⟩) htake))
end
end HT
namespace L2
open PySem PySem.Spec PyProof.Rows
abbrev TO:=St->Hp->(Option Int->Hp->Prop)->Prop
def PO(X:Cx)(e:Option Expr)(t:TO):Prop :=
 ∀(pins:List (Addr×Obj)) (s:Shared) (σ:St) (H:Hp) (Q:Option Int->Hp->Prop),Inv X pins σ H s->t σ H Q →
  wpAny (model X.prog X.w) X.A (evalPart e X.env) (fun u s'=>∃o H',Inv X pins σ H' s'/\IsPart u o/\Q o H') X.xe s
def Ul:TO:=fun _ H Q=>Q none H
def tPart(t:TE):TO:=fun σ H Q=>t σ H fun x H1=>∃i,x=.int i/\Q (some i) H1
section
variable{X:Cx}{e:Expr}{te:TE}{lo hi:Option Expr}{tl th:TO}{pos p2:Pos}
theorem Ui:PO X none Ul:=by
 intro pins s σ H Q I h
 rw[evalPart_none]
 exact wpAny_pure ⟨none,H,I,.none,h⟩
theorem Ty(h:PE X e te):PO X (some e) (tPart te):=by
 intro pins s σ H Q I hw
 rw[evalPart_some]
 refine thn (h pins s σ H _ I hw) fun u s1 ⟨x,H1,I1,r1,q1⟩=>?_
 obtain⟨i,rfl,q⟩:=q1
 obtain⟨t,rfl⟩:=r1
 exact⟨some i,H1,I1,.int i t,q⟩
def SlR(X:Cx)(r:V->Option Int->Option Int->Hp->VK->Prop):Prop :=
 ∀(pins:List (Addr×Obj)) (s:Shared) (σ:St) (H:Hp) (x:V) (v vl vu:Value) (lo hi:Option Int) (sl:Addr) (Q:VK),Inv X pins σ H s->RelV x v->s.heap.IsSliceOf sl vl vu .none->IsPart vl lo->IsPart vu hi->r x lo hi H Q →
  ∃T id,typeLookup (.type T) "__getitem__"=pure (some (.builtin id))/\s.TypeIs v T/\wpAny (model X.prog X.w) X.A (getItem v (.ref sl)) (EP X pins σ Q) X.xe s
theorem SlR.or{r r':V->Option Int->Option Int->Hp->VK->Prop}(h:SlR X r)(h':SlR X r'):SlR X (fun x lo hi H Q=>r x lo hi H Q\/r' x lo hi H Q):=by
 intro pins s σ H x v vl vu lo hi sl Q I rx hs pl pu q
 rcases q with q|q
 ·exact h pins s σ H x v vl vu lo hi sl Q I rx hs pl pu q
 ·exact h' pins s σ H x v vl vu lo hi sl Q I rx hs pl pu q
def tSl(r:V->Option Int->Option Int->Hp->VK->Prop)(te:TE)(tl th:TO):TE:=fun σ H Q=>te σ H fun x H1=>tl σ H1 fun l H2=>th σ H2 fun u H3=>r x l u H3 Q
theorem F1{r:V->Option Int->Option Int->Hp->VK->Prop}(hr:SlR X r)(he:PE X e te)(hl:PO X lo tl)(hu:PO X hi th):PE X (.Subscript e (.Slice lo hi none p2) pos) (tSl r te tl th):=by
 intro pins s σ H Q I h
 refine Subscript_ (thn (he pins s σ H _ I h) fun v s1 ⟨x,H1,I1,r1,q1⟩=>?_)
 refine wpAny_Slice (thn (hl pins s1 σ H1 _ I1 q1) fun vl s2 ⟨l,H2,I2,pl,q2⟩=>thn (hu pins s2 σ H2 _ I2 q2) fun vu s3 ⟨u,H3,I3,pu,q3⟩=>?_)
 rw[evalPart_none]
 refine wpAny_pure ?_
 have I4:Inv X pins σ H3 { s3 with heap:=s3.heap.push { cls:=.type "slice",data:=.fields #[vl,vu,.none] } }:=I3.kept (t':=s3.toks) fun b ob q=>Heap.get?_push_of_some _ q
 obtain⟨T,id,hT,ht,hg⟩:=hr pins { s3 with heap:=s3.heap.push { cls:=.type "slice",data:=.fields #[vl,vu,.none] } } σ H3 x v vl vu l u s3.heap.objs.size Q I4 r1 (Heap.IsSliceOf.new ..) pl pu q3
 show wpAny (model X.prog X.w) X.A (subscriptTail e (.Slice lo hi none p2) v (.ref s3.heap.objs.size)) (EP X pins σ Q) X.xe { s3 with heap:=s3.heap.push { cls:=.type "slice",data:=.fields #[vl,vu,.none] } }
 exact tail_any (ops:=[.ref s3.heap.objs.size,v]) ht hT hg (by with_unfolding_all rfl)
def Hb(xs:List V)(lo hi:Option Int):List V:=(xs.drop (HT.sIx xs.length 0 lo)).take (HT.sIx xs.length xs.length hi - HT.sIx xs.length 0 lo)
theorem Ez(xs:List V)(lo hi:Option Int):(Hb xs lo hi).length<=xs.length:=by
 unfold Hb
 rw[List.length_take,List.length_drop]
 omega
def rSlT(K:PySem.W.Frag):V->Option Int->Option Int->Hp->VK->Prop:=fun x lo hi H Q=>∃a xs,x=.ref a/\SqT K H a xs ∧
 ¬ (HT.sIx xs.length 0 lo=0/\HT.sIx xs.length xs.length hi=xs.length)/\∀p,H p=none->Q (.ref p) (upd H p (.tup (Hb xs lo hi)))
theorem sl_tup:SlR X (rSlT X.K):=by
 intro pins s σ H x v vl vu lo hi sl Q I rx hs pl pu h
 obtain⟨a,xs,rfl,hx,hw,q⟩:=h
 cases rx
 obtain⟨its,r,ht,hz⟩:=I.tuple hx
 have hlen:its.toArray.size=xs.length:=by rw[List.size_toArray];exact r.length.symm
 refine⟨"tuple",_,PyProof.Rows.slot_tuple_getitem.lookup,ht.typeIs,?_⟩
 refine HT.getItem_tuple_cut ht hs pl pu (by rw[hlen];exact hw) ?_ (by rw[hlen];exact hz)
 rw[hlen]
 refine⟨.ref s.heap.objs.size,_,I.laid (t':=s.toks) (o:=.tup (Hb xs lo hi)) (fun b ob q=>Heap.get?_push_of_some _ q) (Nat.le_refl _) ?_,rfl,q _ (I.hok.fresh (Nat.le_refl _))⟩
 exact⟨Nat.le_trans (Ez xs lo hi) hz,_,(r.drop (HT.sIx xs.length 0 lo)).take (HT.sIx xs.length xs.length hi - HT.sIx xs.length 0 lo),TupN.new _ _⟩
def rCatT(K:PySem.W.Frag):R2:=fun x y H Q=>∃a b xs ys,x=.ref a/\y=.ref b/\SqT K H a xs/\SqT K H b ys/\xs≠[]/\xs.length+ys.length<=sizeLine ∧
 (ys=[]->Q (.ref a) H)/\(ys≠[]->∀p,H p=none->Q (.ref p) (upd H p (.tup (xs++ys))))
theorem Vals.nil_iff{xs:List V}{us:List Value}(r:Vals xs us):us=[] ↔ xs=[]:=by
 cases r with
 |nil=>simp
 |cons _ _=>simp
theorem T6:OpR X (binaryOp .Add) (rCatT X.K):=by
 intro pins s σ H x y v u Q I rx ry h
 obtain⟨a,b,xs,ys,rfl,rfl,ha,hb,hx,hz,q1,q2⟩:=h
 cases rx
 cases ry
 obtain⟨its,r1,p1,_⟩:=I.tuple ha
 obtain⟨its2,r2,p2,_⟩:=I.tuple hb
 refine HT.cat_tup p1 p2 (fun z=>hx (r1.nil_iff.mp z)) (fun z=>⟨.ref a,H,I,rfl,q1 (r2.nil_iff.mp z)⟩) (fun z=>?_) (by rw[<-r1.length,<-r2.length];exact hz)
 refine⟨.ref s.heap.objs.size,_,I.laid (t':=s.toks) (o:=.tup (xs++ys)) (fun b ob q=>Heap.get?_push_of_some _ q) (Nat.le_refl _) ?_,rfl,q2 (fun w=>z (r2.nil_iff.mpr w)) _ (I.hok.fresh (Nat.le_refl _))⟩
 exact⟨by rw[List.length_append];exact hz,_,r1.append r2,TupN.new _ _⟩
end
end L2
namespace L2
open PySem PySem.Spec PyProof.Rows
def ixN(n:Nat)(i:Int):Option Nat:=if 0<=i then (if i<n then some i.toNat else none) else if -(n:Int)<=i then some (i+n).toNat else none
def atI{α:Type}(xs:List α)(i:Int):Option α:=(ixN xs.length i).bind fun j=>xs[j]?
theorem K7{n:Nat}{i:Int}{j:Nat}(h:ixN n i=some j):seqIndex? i n=some j/\j<n/\-(n:Int)<=i/\i<n:=by
 unfold ixN at h
 by_cases h0:0<=i
 ·rw[if_pos h0] at h
  by_cases h1:i<n
  ·rw[if_pos h1] at h
   have e:i.toNat=j:=Option.some.inj h
   exact⟨by rw[seqIndex_of h0 h1,e],by omega,by omega,h1⟩
  ·rw[if_neg h1] at h;cases h
 ·rw[if_neg h0] at h
  by_cases h1:-(n:Int)<=i
  ·rw[if_pos h1] at h
   have e:(i+n).toNat=j:=Option.some.inj h
   exact⟨by rw[seqIndex_neg (by omega) h1,e],by omega,h1,by omega⟩
  ·rw[if_neg h1] at h;cases h
theorem G8{α:Type}{xs:List α}{i:Int}{v:α}(h:atI xs i=some v):∃j,seqIndex? i xs.length=some j/\xs[j]?=some v/\j<xs.length/\-(xs.length:Int)<=i/\i<xs.length:=by
 unfold atI at h
 cases e:ixN xs.length i with
 |none=>rw[e] at h;cases h
 |some j =>
  rw[e] at h
  obtain⟨h1,h2,h3,h4⟩:=K7 e
  exact⟨j,h1,h,h2,h3,h4⟩
theorem Xb{α:Type}{xs:List α}{j:Nat}{v:α}(h:xs[j]?=some v):atI xs (j:Int)=some v:=by
 have hj:j<xs.length:=(List.getElem?_eq_some_iff.mp h).1
 have e:ixN xs.length (j:Int)=some j:=by
  unfold ixN
  rw[if_pos (by omega),if_pos (by omega)];simp
 unfold atI;rw[e];exact h
def Lf(b:Expr):Prop:=∀o i,subscripted b false o i=operate [o,i] (getItem o i)
def IxR(X:Cx)(r:R2):Prop :=
 ∀(value slice:Expr) (pins:List (Addr×Obj)) (s:Shared) (σ:St) (H:Hp) (x y:V) (v u:Value) (Q:VK),Inv X pins σ H s->RelV x v->RelV y u->r x y H Q →
  subscripted slice false v u=operate [v,u] (getItem v u)->wpAny (model X.prog X.w) X.A (subscriptTail value slice v u) (EP X pins σ Q) X.xe s
def MtR(X:Cx)(id:String)(r:V->List V->Hp->VK->Prop):Prop :=
 ∀(pins:List (Addr×Obj)) (s:Shared) (σ:St) (H:Hp) (x:V) (xs:List V) (v:Value) (us:List Value) (Q:VK),Inv X pins σ H s->RelV x v->Vals xs us->r x xs H Q →
  wpAny (model X.prog X.w) X.A (call (.builtin id) (v::us)) (EP X pins σ Q) X.xe s
section
variable{X:Cx}{a b:Expr}{ta tb:TE}{pos:Pos}
theorem IxR.or{r r':R2}(h:IxR X r)(h':IxR X r'):IxR X (fun x y H Q=>r x y H Q\/r' x y H Q):=by
 intro value slice pins s σ H x y v u Q I rx ry q hs
 rcases q with q|q
 ·exact h value slice pins s σ H x y v u Q I rx ry q hs
 ·exact h' value slice pins s σ H x y v u Q I rx ry q hs
theorem pe_ix{r:R2}(hr:IxR X r)(ha:PE X a ta)(hb:PE X b tb)(hs:Lf b):PE X (.Subscript a b pos) (tOp r ta tb):=by
 intro pins s σ H Q I h
 exact Subscript_ (binT ha hb I h fun v u s2 x y H2 I2 rx ry q=>hr a b pins s2 σ H2 x y v u Q I2 rx ry q (hs _ _))
def rIxL(K:PySem.W.Frag):R2:=fun x y H Q=>∃p xs i v,x=.ref p/\y=.int i/\SqL K H p xs/\atI xs i=some v/\Q v H
def rIxT(K:PySem.W.Frag):R2:=fun x y H Q=>∃p xs i v,x=.ref p/\y=.int i/\SqT K H p xs/\atI xs i=some v/\Q v H
def rIxS:R2:=fun x y H Q=>∃z i c,x=.str z/\y=.int i/\z.length<=sizeLine/\atI z.cps.toList i=some c/\Q (.str ⟨#[c]⟩) H
theorem ix_list:IxR X (rIxL X.K):=by
 intro value slice pins s σ H x y v u Q I rx ry h hs
 obtain⟨p,xs,i,z,rfl,rfl,hq,he,q⟩:=h
 cases rx
 obtain⟨t,rfl⟩:=ry
 obtain⟨its,r,pl,hz⟩:=I.list hq
 obtain⟨j,h1,h2,h3,h4,h5⟩:=G8 he
 obtain⟨w,ew,rw'⟩:=r.get h2
 have hl:=r.length
 have hn:=D8
 have fin:EP X pins σ Q w s:=⟨z,H,I,rw',q⟩
 by_cases h0:0<=i
 ·have hj:i.toNat=j:=by
   rw[seqIndex_of h0 h5] at h1
   exact Option.some.inj h1
  exact item_listR pl.isList h0 (by omega) (by rw[hj];simpa using ew) fin hs
 ·have hj:(i+(its.toArray.size:Int)).toNat=j:=by
   rw[seqIndex_neg (by omega) h4] at h1
   rw[List.size_toArray,<-hl]
   exact Option.some.inj h1
  exact subscriptTail_builtinR (x:=w) pl.isList.typeIs slot_list_getitem.lookup
   (wpAny_getItem_list_neg (Q:=fun r s'=>r=w/\EP X pins σ Q r s') pl.isList (by omega) (by rw[List.size_toArray] <;> omega) (by omega) (by rw[hj];simpa using ew) ⟨rfl,fin⟩) hs
theorem ix_tup:IxR X (rIxT X.K):=by
 intro value slice pins s σ H x y v u Q I rx ry h hs
 obtain⟨p,xs,i,z,rfl,rfl,hq,he,q⟩:=h
 cases rx
 obtain⟨t,rfl⟩:=ry
 obtain⟨its,r,pl,hz⟩:=I.tuple hq
 obtain⟨j,h1,h2,h3,h4,h5⟩:=G8 he
 obtain⟨w,ew,rw'⟩:=r.get h2
 have hl:=r.length
 have hn:=D8
 have fin:EP X pins σ Q w s:=⟨z,H,I,rw',q⟩
 exact subscriptTail_builtinR (x:=w) pl.typeIs slot_tuple_getitem.lookup
  (getItem_tuple (j:=j) (Q:=fun r s'=>r=w/\EP X pins σ Q r s') pl (by omega) (by omega) (by rw[List.size_toArray,<-hl];exact h1) (by simpa using ew) ⟨rfl,fin⟩) hs
theorem Xw:IxR X rIxS:=by
 intro value slice pins s σ H x y v u Q I rx ry h hs
 obtain⟨z,i,c,rfl,rfl,hz,he,q⟩:=h
 obtain⟨t,rfl⟩:=rx
 obtain⟨t',rfl⟩:=ry
 obtain⟨j,h1,h2,h3,h4,h5⟩:=G8 he
 have hl:z.cps.toList.length=z.length:=by simp[Str.length]
 rw[hl] at h1 h4 h5
 have hn:=D8
 exact tail_any (typeIs_str s z t) slot_str_getitem.lookup (getItem_str (c:=c) (by
  have e1:decide (i < -(2 ^ 63:Int))=false:=decide_eq_false (by omega)
  have e2:decide (i ≥ 2 ^ 63)=false:=decide_eq_false (by omega)
  rw[e1,e2,Bool.or_false]) (by rw[h1];simpa using h2) ⟨.str ⟨#[c]⟩,H,I.tok _,⟨_,rfl⟩,q⟩) hs
def rIx(K:PySem.W.Frag):R2:=fun x y H Q=>rIxL K x y H Q\/rIxT K x y H Q\/rIxS x y H Q
theorem Yb:IxR X (rIx X.K):=ix_list.or (ix_tup.or Xw)
theorem J7(its:List Value)(n j:Nat)(u:Value):Obj.mapSeq (·.setIfInBounds j u) { cls:=.type "list",data:=.seq its.toArray n }={ cls:=.type "list",data:=.seq (its.set j u).toArray n }:=by
 simp[Obj.mapSeq]
theorem Inv.lst{pins:List (Addr×Obj)}{σ:St}{H:Hp}{s:Shared}{p:Addr}{xs:List V}(I:Inv X pins σ H s)(h:H p=some (.lst xs)):
  ∃(its:List Value) (n:Nat),Vals xs its/\s.heap.get? p=some { cls:=.type "list",data:=.seq its.toArray n }/\xs.length<=sizeLine:=by
 obtain⟨z,its,n,r,e⟩:=I.hok p _ h
 exact⟨its,n,r,e,z⟩
theorem Inv.lstUpd{pins:List (Addr×Obj)}{σ:St}{H:Hp}{s:Shared}{p:Addr}{xs ys:List V}{its its':List Value}{n n':Nat}{f:Obj->Obj}(I:Inv X pins σ H s)(h:H p=some (.lst xs))
  (ho:s.heap.get? p=some { cls:=.type "list",data:=.seq its.toArray n }) (hf:f { cls:=.type "list",data:=.seq its.toArray n }={ cls:=.type "list",data:=.seq its'.toArray n' }) (r:Vals ys its') (hz:ys.length<=sizeLine) (t:Nat) :
  Inv X pins σ (upd H p (.lst ys)) { s with heap:=s.heap.update p f,toks:=t }:=by
 have e:(s.heap.update p f).get? p=some { cls:=.type "list",data:=.seq its'.toArray n' }:=by
  rw[Heap.get?_update_self f ho (by rw[hf] <;> rfl),hf]
 refine I.write (x:=p) (e:=p) (by rw[h];trivial) (.inl rfl) (fun b u hb q=>(Heap.get?_update_other _ _ (Ne.symm hb)).trans q) ⟨_,e⟩ ?_
 exact⟨hz,its',n',r,e⟩
def rSetL:V->V->V->Hp->(Hp->Prop)->Prop:=fun o i v H Q=>∃p xs k j,o=.ref p/\i=.int k/\H p=some (.lst xs)/\ixN xs.length k=some j/\Q (upd H p (.lst (xs.set j v)))
theorem Sy:PSet X rSetL:=by
 intro pins s σ H o i v ov iv u Q I ro ri rv h
 obtain⟨p,xs,k,j,rfl,rfl,hp,hj,q⟩:=h
 cases ro
 obtain⟨t,rfl⟩:=ri
 obtain⟨its,n,r,ho,hz⟩:=I.lst hp
 obtain⟨h1,h2,h3,h4⟩:=K7 hj
 have hl:=r.length
 have hn:=D8
 have I':Inv X pins σ (upd H p (.lst (xs.set j v))) { s with heap:=s.heap.update p (Obj.mapSeq (·.setIfInBounds j u)) } :=
  I.lstUpd hp ho (J7 its n j u) (r.set rv j) (by rw[List.length_set];exact hz) s.toks
 by_cases h0:0<=k
 ·have hk:k.toNat=j:=by
   rw[seqIndex_of h0 h4] at h1
   exact Option.some.inj h1
  exact PySem.W.ki_setAt ho h0 (by omega) (by rw[List.size_toArray,<-hl];exact h4) (by rw[hk];exact⟨_,I',q⟩)
 ·have hk:(k+(its.toArray.size:Int)).toNat=j:=by
   rw[seqIndex_neg (by omega) h3] at h1
   rw[List.size_toArray,<-hl]
   exact Option.some.inj h1
  exact PySem.W.ki_setBack ho (by omega) (by rw[List.size_toArray,<-hl];exact h3) (by omega) (by rw[hk];exact⟨_,I',q⟩)
theorem Hw(lo hi:Option Int)(n:Nat):(sliceBounds lo hi none n).1=((HT.sIx n 0 lo:Nat):Int)/\(sliceBounds lo hi none n).2.1=((HT.sIx n n hi:Nat):Int)/\(sliceBounds lo hi none n).2.2=1:=by
 refine⟨?_,?_,rfl⟩
 ·cases lo with
  |none=>simp[sliceBounds,HT.sIx]
  |some i =>
   simp only[sliceBounds,HT.sIx,Option.getD_none,show (1:Int) > 0 by decide,if_true]
   by_cases h:i<0
   ·simp only[h,if_true] <;> omega
   ·simp only[h,if_false] <;> omega
 ·cases hi with
  |none=>simp[sliceBounds,HT.sIx]
  |some i =>
   simp only[sliceBounds,HT.sIx,Option.getD_none,show (1:Int) > 0 by decide,if_true]
   by_cases h:i<0
   ·simp only[h,if_true] <;> omega
   ·simp only[h,if_false] <;> omega
theorem F5(its:List Value)(lo hi:Option Int):slicePick its.toArray lo hi none=((its.drop (HT.sIx its.length 0 lo)).take (HT.sIx its.length its.length hi - HT.sIx its.length 0 lo)).toArray:=by
 obtain⟨h1,h2,h3⟩:=Hw lo hi its.toArray.size
 unfold slicePick
 rw[h1,h2,h3]
 simp only[sliceRange_one,pick_run,List.size_toArray] <;> rfl
def rSlL(K:PySem.W.Frag):V->Option Int->Option Int->Hp->VK->Prop:=fun x lo hi H Q=>∃a xs,x=.ref a/\SqL K H a xs/\∀p,H p=none->Q (.ref p) (upd H p (.lst (Hb xs lo hi)))
theorem sl_list:SlR X (rSlL X.K):=by
 intro pins s σ H x v vl vu lo hi sl Q I rx hs pl pu h
 obtain⟨a,xs,rfl,hx,q⟩:=h
 cases rx
 obtain⟨its,r,ht,hz⟩:=I.list hx
 have hlen:=r.length
 refine⟨"list",_,slot_list_getitem.lookup,ht.isList.typeIs,?_⟩
 refine wpAny_getItem_list_slice ht.isList hs pl pu .none (by simp) ?_ (by rw[List.size_toArray] <;> omega)
 rw[F5,<-hlen]
 refine⟨.ref s.heap.objs.size,_,I.laid (t':=s.toks) (o:=.lst (Hb xs lo hi)) (fun b ob q=>Heap.get?_push_of_some _ q) (Nat.le_refl _) ?_,rfl,q _ (I.hok.fresh (Nat.le_refl _))⟩
 exact⟨Nat.le_trans (Ez xs lo hi) hz,_,0,(r.drop (HT.sIx xs.length 0 lo)).take (HT.sIx xs.length xs.length hi - HT.sIx xs.length 0 lo),Heap.get?_push_size _ rfl⟩
def Dz:V->Bool
 | .non=>true
 | .bl _=>true
 | .int _=>true
 | .str _=>true
 |_=>false
def eqV:V->V->Bool
 | .non,.non=>true
 | .bl a,.bl b=>a==b
 | .bl a,.int b=>(if a then 1 else 0)==b
 | .int a,.bl b=>a==(if b then 1 else 0)
 | .int a,.int b=>a==b
 | .str a,.str b=>a==b
 |_,_=>false
theorem Wi{A:Around}{s:Shared}{y x:V}{u v:Value}(ry:RelV y u)(rx:RelV x v)(fy:Dz y=true)(fx:Dz x=true):SeqAt.EqAt A s u v (eqV y x):=by
 cases y with
 |non =>
  cases ry
  cases x with
  |non=>cases rx;exact SeqAt.EqAt.same _
  |bl b=>cases rx;exact SeqAt.EqAt.none_bool b
  |int b=>obtain⟨t,rfl⟩:=rx;exact SeqAt.EqAt.none_int b t
  |str b=>obtain⟨t,rfl⟩:=rx;exact SeqAt.EqAt.none_str b t
  |_=>exact absurd (show false=true from fx) Bool.false_ne_true
 |bl a =>
  cases ry
  cases x with
  |non=>cases rx;exact SeqAt.EqAt.bool_none a
  |bl b=>cases rx;exact SeqAt.EqAt.bool_bool a b
  |int b=>obtain⟨t,rfl⟩:=rx;exact SeqAt.EqAt.bool_int a b t
  |str b=>obtain⟨t,rfl⟩:=rx;exact SeqAt.EqAt.bool_str a b t
  |_=>exact absurd (show false=true from fx) Bool.false_ne_true
 |int a =>
  obtain⟨t',rfl⟩:=ry
  cases x with
  |non=>cases rx;exact SeqAt.EqAt.int_none a t'
  |bl b=>cases rx;exact SeqAt.EqAt.int_bool a t' b
  |int b=>obtain⟨t,rfl⟩:=rx;exact SeqAt.EqAt.int_int a t' b t
  |str b=>obtain⟨t,rfl⟩:=rx;exact SeqAt.EqAt.int_str a t' b t
  |_=>exact absurd (show false=true from fx) Bool.false_ne_true
 |str a =>
  obtain⟨t',rfl⟩:=ry
  cases x with
  |non=>cases rx;exact SeqAt.EqAt.str_none a t'
  |bl b=>cases rx;exact SeqAt.EqAt.str_bool a t' b
  |int b=>obtain⟨t,rfl⟩:=rx;exact SeqAt.EqAt.str_int a t' b t
  |str b=>obtain⟨t,rfl⟩:=rx;exact SeqAt.EqAt.str_str a t' b t
  |_=>exact absurd (show false=true from fx) Bool.false_ne_true
 |_=>exact absurd (show false=true from fy) Bool.false_ne_true
def eqU(x:V)(u:Value):Bool:=match u with
 | .none=>eqV .non x
 | .bool b=>eqV (.bl b) x
 | .int i _=>eqV (.int i) x
 | .str z _=>eqV (.str z) x
 |_=>false
theorem Ry{x y:V}{u:Value}(r:RelV y u)(f:Dz y=true):eqU x u=eqV y x:=by
 cases y with
 |non=>cases r;rfl
 |bl b=>cases r;rfl
 |int i=>obtain⟨t,rfl⟩:=r;rfl
 |str z=>obtain⟨t,rfl⟩:=r;rfl
 |_=>exact absurd (show false=true from f) Bool.false_ne_true
theorem Hl{x:V}:∀{xs:List V} {us:List Value},Vals xs us->xs.all Dz=true->us.any (eqU x)=xs.any fun y=>eqV y x
 |_,_,.nil,_=>rfl
 |y::xs,u::us,.cons r t,f=>by
  rw[List.all_cons,Bool.and_eq_true] at f
  rw[List.any_cons,List.any_cons,Ry r f.1,Hl t f.2]
theorem Fp{A:Around}{s:Shared}{x:V}{v:Value}(rx:RelV x v)(fx:Dz x=true):∀{xs:List V} {us:List Value},Vals xs us->xs.all Dz=true->∀u∈us,SeqAt.EqAt A s u v (eqU x u)
 |_,_,.nil,_=>fun u hu=>by cases hu
 |y::xs,u::us,.cons r t,f=>fun u' hu=>by
  rw[List.all_cons,Bool.and_eq_true] at f
  rcases List.mem_cons.mp hu with rfl|hu
  ·rw[Ry r f.1];exact Wi r rx f.1 fx
  ·exact Fp rx fx t f.2 u' hu
def inV(x:V)(xs:List V):Bool:=xs.any fun y=>eqV y x
def rIn(K:PySem.W.Frag)(neg:Bool):R2:=fun x y H Q=>∃p xs,y=.ref p/\(SqL K H p xs\/SqT K H p xs)/\Dz x=true/\xs.all Dz=true/\Q (.bl (if neg then !inV x xs else inV x xs)) H
theorem F9:OpR X (compareOp .In) (rIn X.K false):=by
 intro pins s σ H x y v u Q I rx ry h
 obtain⟨p,xs,rfl,hq,fx,fs,q⟩:=h
 cases ry
 rcases hq with hq|hq
 ·obtain⟨its,r,pl,hz⟩:=I.list hq
  refine SeqAt.in_listAt (eqU x) pl.isList (fun w hw=>Fp rx fx r fs w (by simpa using hw)) ⟨.bl _,H,I,rfl,?_⟩
  rw[show its.toArray.any (eqU x)=its.any (eqU x) by simp,Hl r fs]
  exact q
 ·obtain⟨its,r,pl,hz⟩:=I.tuple hq
  refine SeqAt.in_tupleAt (eqU x) pl (fun w hw=>Fp rx fx r fs w (by simpa using hw)) ⟨.bl _,H,I,rfl,?_⟩
  rw[show its.toArray.any (eqU x)=its.any (eqU x) by simp,Hl r fs]
  exact q
theorem call_len_seq:CallR X (.builtin "len") (fun xs H Q=>∃p ys,xs=[.ref p]/\(SqL X.K H p ys\/SqT X.K H p ys)/\Q (.int ys.length) H):=by
 intro pins s σ H xs us Q I r h
 obtain⟨p,ys,rfl,hq,q⟩:=h
 obtain⟨u,rfl,rx⟩:=Dg r
 cases rx
 have hn:=D8
 rcases hq with hq|hq
 ·obtain⟨its,r',pl,hz⟩:=I.list hq
  have hlen:=r'.length
  exact Calls.call_len_list pl.isList (by simp only[List.size_toArray] <;> omega) ⟨.int ys.length,H,I.tok _,⟨s.toks+1,by rw[List.size_toArray,hlen]⟩,q⟩
 ·obtain⟨its,r',pl,hz⟩:=I.tuple hq
  have hlen:=r'.length
  exact len_tuple pl (by simp only[List.size_toArray] <;> omega) ⟨.int ys.length,H,I.tok _,⟨s.toks+1,by rw[List.size_toArray,hlen]⟩,q⟩
theorem Hv:CallR X (.builtin "len") (fun xs H Q=>∃z,xs=[.str z]/\z.length<=sizeLine/\Q (.int z.length) H):=by
 intro pins s σ H xs us Q I r h
 obtain⟨z,rfl,hz,q⟩:=h
 obtain⟨u,rfl,t,rfl⟩:=Dg r
 have hn:=D8
 exact len_str (by omega) ⟨.int z.length,H,I.tok _,⟨_,rfl⟩,q⟩
theorem CallR.or{f:Value}{r r':List V->Hp->VK->Prop}(h:CallR X f r)(h':CallR X f r'):CallR X f (fun xs H Q=>r xs H Q\/r' xs H Q):=by
 intro pins s σ H xs us Q I rs q
 rcases q with q|q
 ·exact h pins s σ H xs us Q I rs q
 ·exact h' pins s σ H xs us Q I rs q
theorem G4:CallR X (.type "list") (fun xs H Q=>∃p ys,xs=[.ref p]/\(SqL X.K H p ys\/SqT X.K H p ys)/\∀l,H l=none->Q (.ref l) (upd H l (.lst ys))):=by
 intro pins s σ H xs us Q I r h
 obtain⟨p,ys,rfl,hq,q⟩:=h
 obtain⟨u,rfl,rx⟩:=Dg r
 cases rx
 have fin:∀(its:List Value),Vals ys its->ys.length<=sizeLine->∀(h':Heap) (c':Nat),(∀b o',s.heap.get? b=some o'->h'.get? b=some o') →
   h'.get? s.heap.objs.size=some { cls:=.type "list",dict:=none,data:=.seq its.toArray c',slots:=#[] }->EP X pins σ Q (.ref s.heap.objs.size) { s with heap:=h' }:=fun its r' hz h' c' kp e =>
  ⟨.ref s.heap.objs.size,_,I.laid (t':=s.toks) kp (Nat.le_refl _) (show ObjOk X.prog X.w _ h' _ (.lst ys) from⟨hz,its,c',r',e⟩),rfl,q _ (I.hok.fresh (Nat.le_refl _))⟩
 rcases hq with hq|hq
 ·obtain⟨its,r',pl,hz⟩:=I.list hq
  have hlen:=r'.length
  obtain⟨o,ho,hc,n,hd⟩:=pl.isList
  exact call_list_seq p (.inl rfl) ho hc hd (fun h' c' kp e=>fin its r' hz h' c' kp e) (by simp only[List.size_toArray] <;> omega)
 ·obtain⟨its,r',pl,hz⟩:=I.tuple hq
  have hlen:=r'.length
  obtain⟨o,ho,hc,n,hd⟩:=pl
  exact call_list_seq p (.inr rfl) ho hc hd (fun h' c' kp e=>fin its r' hz h' c' kp e) (by simp only[List.size_toArray] <;> omega)
theorem F2:CallR X (.type "tuple") (fun xs H Q=>∃p ys,xs=[.ref p]/\((SqL X.K H p ys/\∀l,H l=none->Q (.ref l) (upd H l (.tup ys)))\/(SqT X.K H p ys/\Q (.ref p) H))):=by
 intro pins s σ H xs us Q I r h
 obtain⟨p,ys,rfl,h⟩:=h
 obtain⟨u,rfl,rx⟩:=Dg r
 cases rx
 rcases h with⟨hq,q⟩|⟨hq,q⟩
 ·obtain⟨its,r',pl,hz⟩:=I.list hq
  have hlen:=r'.length
  refine call_tuple_list pl.isList (fun h' kp=>?_) (by simp only[List.size_toArray] <;> omega)
  have I1:Inv X pins σ H { s with heap:=h' }:=I.kept (t':=s.toks) kp
  have I2:Inv X pins σ (upd H h'.objs.size (.tup ys)) { s with heap:=h'.push { cls:=.type "tuple",data:=.seq its.toArray } } :=
   I1.laid (t':=s.toks) (fun b o e=>Heap.get?_push_of_some _ e) (Nat.le_refl _) (show ObjOk X.prog X.w _ _ _ (.tup ys) from⟨hz,its,r',TupN.new _ _⟩)
  exact⟨.ref h'.objs.size,_,I2,rfl,q _ (I1.hok.fresh (Nat.le_refl _))⟩
 ·obtain⟨its,r',pl,hz⟩:=I.tuple hq
  exact call_tuple_same pl ⟨.ref p,H,I,rfl,q⟩
def tyV(K:PySem.W.Frag)(T:String)(x:V)(H:Hp):Prop:=match x with
 | .str _=>T="str"
 | .int _=>T="int"
 | .ref p=>(T="list"/\∃xs,SqL K H p xs)\/(T="tuple"/\∃xs,SqT K H p xs) ∨
   (T="dict"/\((∃kvs,H p=some (.dK kvs))\/∃kvs,H p=some (.dT kvs)))\/(T="set"/\∃S n,H p=some (.set S n))
 |_=>False
theorem W1{pins:List (Addr×Obj)}{σ:St}{H:Hp}{s:Shared}{T:String}{x:V}{v:Value}(I:Inv X pins σ H s)(r:RelV x v)(ty:tyV X.K T x H):
  s.TypeIs v T/\∀a,v=.ref a->∃ob,s.heap.get? a=some ob/\ob.dict=none:=by
 cases x with
 |str z =>
  obtain⟨t,rfl⟩:=r
  cases (show T="str" from ty)
  exact⟨typeIs_str s z t,fun _ e=>nomatch e⟩
 |int i =>
  obtain⟨t,rfl⟩:=r
  cases (show T="int" from ty)
  exact⟨typeIs_int s i t,fun _ e=>nomatch e⟩
 |ref p =>
  cases r
  rcases ty with⟨rfl,xs,hq⟩|⟨rfl,xs,hq⟩|⟨rfl,hk⟩|⟨rfl,S,n,hk⟩
  ·obtain⟨its,_,pl,_⟩:=I.list hq
   refine⟨pl.isList.typeIs,fun a e=>?_⟩
   cases e
   obtain⟨o,n,e,c,hd,_⟩:=pl
   exact⟨o,e,hd⟩
  ·obtain⟨o,ho,hc,hd⟩:=I.tupN hq
   refine⟨⟨o,ho,hc⟩,fun a e=>?_⟩
   cases e
   exact⟨o,ho,hd⟩
  ·have z:∃o,s.heap.get? p=some o/\o.ExactDict:=by
    rcases hk with⟨kvs,hk⟩|⟨kvs,hk⟩
    ·obtain⟨_,_,_,_,o,_,_,e,ex,_⟩:=I.hok p _ hk
     exact⟨o,e,ex⟩
    ·obtain⟨_,_,_,_,o,_,_,e,ex,_⟩:=I.hok p _ hk
     exact⟨o,e,ex⟩
   obtain⟨o,e,ex⟩:=z
   refine⟨⟨o,e,ex.1⟩,fun a e2=>?_⟩
   cases e2
   exact⟨o,e,ex.2.1⟩
  ·obtain⟨o,_,_,_,e,ex,_⟩:=I.hok p _ hk
   refine⟨⟨o,e,ex.1⟩,fun a e2=>?_⟩
   cases e2
   exact⟨o,e,ex.2.1⟩
 |_=>exact False.elim ty
def tBM(K:PySem.W.Frag)(T:String)(r:V->List V->Hp->VK->Prop)(to:TE)(t:TA):TE:=fun σ H Q=>to σ H fun x H1=>tyV K T x H1/\t σ H1 fun xs H2=>r x xs H2 Q
variable{o e:Expr}{es:List Expr}{to:TE}{t:TA}{name:Str}{apos cpos:Pos}{T id:String}{r:V->List V->Hp->VK->Prop}
theorem Ll(pa:PlainAttrs T)(slot:Slot T name id)(hty:typeOf (.builtin id)=pure (.type "method_descriptor"))(hm:MtR X id r)(ho:PE X o to)(ha:PA X (e::es) t)
  (hbase:attributeBase o name X.env (eval o X.env)=eval o X.env:=by rfl)
  (hfew:((backTo cpos (starEach (e::es) X.env)).all (fun x=>!x.1)&&(backToKw cpos (keywordEach [] X.env)).all (fun x=>x.1.isSome)
   && decide ((e::es).length+([]:List Keyword).length+(if ([]:List Keyword).isEmpty then 0 else 1)<30))=true:=by rfl)
  (hline:(apos.endLine==cpos.line)=true:=by rfl) (hs:starEach (e::es) X.env=(false,eval e X.env)::starEach es X.env:=by rfl) (hplain:(backTo cpos (starEach es X.env)).any (·.1)=false:=by rfl) :
  PE X (.Call (.Attribute o name apos) (e::es) [] cpos) (tBM X.K T r to t):=by
 intro pins s σ H Q I h
 refine wpAny_Call_method_late hbase hfew hline rfl (thn (ho pins s σ H _ I h) fun v s1 ⟨x,H1,I1,r1,ty,q1⟩=>?_)
 obtain⟨h1,h2⟩:=W1 I1 r1 ty
 refine⟨T,id,pa,slot,hty,h1,h2,?_⟩
 have hA:=ha cpos pins s1 σ H1 _ I1 q1
 rw[hs] at hA ⊢
 refine Calls.callWith_builtin (by show (false || (backTo cpos (starEach es X.env)).any (·.1))=false;rw[hplain] <;> rfl) (Calls.evalArgs_plain ?_)
 exact thn hA fun us s2 ⟨vs,H2,I2,r2,q2⟩=>hm pins s2 σ H2 x vs v us Q I2 r1 r2 q2
/- xs.append(e),list.index on a module's tuple .. are MtR facts of 06m -/
end
end L2
namespace L2
open PySem PySem.Spec PyProof.Rows
def MtM(X:Cx)(id:String)(r:V->List V->Hp->VK->Prop):Prop :=
 ∀(pins:List (Addr×Obj)) (s:Shared) (σ:St) (H:Hp) (x:V) (xs:List V) (v:Value) (us:List Value) (Q:VK),Inv X pins σ H s->RelV x v->Vals xs us->r x xs H Q →
  wpAny (model X.prog X.w) X.A (call (.builtin id) (v::us)) (EP X pins σ Q) X.xe s
theorem Vals.one:∀{x:V} {us:List Value},Vals [x] us->∃u,us=[u]/\RelV x u
 |_,_,.cons r .nil=>⟨_,rfl,r⟩
theorem Vals.two:∀{x y:V} {us:List Value},Vals [x,y] us->∃u v,us=[u,v]/\RelV x u/\RelV y v
 |_,_,_,.cons r (.cons q .nil)=>⟨_,_,rfl,r,q⟩
section
variable{X:Cx}{pins:List (Addr×Obj)}{σ:St}{H:Hp}{s:Shared}{l b:Addr}{xs ys zs:List V}
theorem Inv.lset{its its':List Value}{n:Nat}{f:Array Value->Array Value}{t':Nat}(I:Inv X pins σ H s)(hH:H l=some (.lst xs))
  (e:s.heap.get? l=some { cls:=.type "list",data:=.seq its.toArray n }) (hf:f its.toArray=its'.toArray) (hv:Vals ys its') (hz:ys.length<=sizeLine) :
  Inv X pins σ (upd H l (.lst ys)) { s with heap:=s.heap.update l (Obj.mapSeq f),toks:=t' }:=by
 have q:=PySem.IsL.update e f
 rw[hf] at q
 refine I.write (x:=l) (e:=l) (by rw[hH];exact trivial) (.inl rfl) (fun b' u hb hu=>(Heap.get?_update_other s.heap (Obj.mapSeq f) (Ne.symm hb)).trans hu) ⟨_,q⟩ ?_
 exact⟨hz,its',_,hv,q⟩
theorem Inv.lnew{its:List Value}{t':Nat}(I:Inv X pins σ H s)(hv:Vals ys its)(hz:ys.length<=sizeLine):
  Inv X pins σ (upd H s.heap.objs.size (.lst ys)) { s with heap:=s.heap.push { cls:=.type "list",data:=.seq its.toArray },toks:=t' } :=
 I.laid (fun _ _ q=>Heap.get?_push_of_some _ q) (Nat.le_refl _) ⟨hz,its,0,hv,Heap.get?_push_size _ rfl⟩
theorem Inv.fresh(I:Inv X pins σ H s):H s.heap.objs.size=none:=I.hok.fresh (Nat.le_refl _)
theorem Inv.lstM(I:Inv X pins σ H s)(hH:H l=some (.lst xs)):xs.length<=sizeLine/\∃(its:List Value) (n:Nat),Vals xs its/\xs.length=its.length/\s.heap.get? l=some { cls:=.type "list",data:=.seq its.toArray n }:=by
 obtain⟨z,its,n,r,e⟩:=I.hok l _ hH
 exact⟨z,its,n,r,r.length,e⟩
theorem Ih{n:Nat}(h:n<=sizeLine):Builtin.List.listTooLong n=false:=by
 unfold Builtin.List.listTooLong
 exact decide_eq_false (by omega)
end
section
variable{X:Cx}
def U6:V->List V->Hp->VK->Prop:=fun x vs H Q=>∃l xs y,x=.ref l/\vs=[y]/\H l=some (.lst xs)/\xs.length<sizeLine/\Q .non (upd H l (.lst (xs++[y])))
theorem Mu:MtM X "list.append" U6:=by
 intro pins s σ H x vs v us Q I rx rv h
 obtain⟨l,xs,y,rfl,rfl,hH,hz,q⟩:=h
 cases rx
 obtain⟨u,rfl,ru⟩:=rv.one
 obtain⟨z,its,n,r,hl,e⟩:=I.lstM hH
 refine call_meets F.slot_list_append ⟨_,e,rfl⟩ F.entry_list_append (F.args_list_append_2 _ _) (PySem.list_append l its.toArray n u (by rw[List.size_toArray];omega)) ⟨e,?_⟩
 refine⟨.non,_,I.lset (its':=its++[u]) hH e (by simp) (r.append (.cons ru .nil)) ?_,rfl,q⟩
 rw[List.length_append,List.length_singleton]
 omega
def rCat:R2:=fun x y H Q=>∃l b xs zs,x=.ref l/\y=.ref b/\H l=some (.lst xs)/\H b=some (.lst zs)/\xs.length+zs.length<=sizeLine/\∀p,H p=none->Q (.ref p) (upd H p (.lst (xs++zs)))
theorem op_cat:OpR X (binaryOp .Add) rCat:=by
 intro pins s σ H x y v u Q I rx ry h
 obtain⟨l,b,xs,zs,rfl,rfl,hH,hB,hz,q⟩:=h
 cases rx
 cases ry
 obtain⟨z,its,n,r,hl,e⟩:=I.lstM hH
 obtain⟨z2,its2,n2,r2,hl2,e2⟩:=I.lstM hB
 refine PySem.P.add_list e e2 ?_ (by rw[List.size_toArray,List.size_toArray];omega)
 have ea:its.toArray++its2.toArray=(its++its2).toArray:=by simp
 rw[ea]
 exact⟨.ref _,_,I.lnew (t':=s.toks) (r.append r2) (by rw[List.length_append];omega),rfl,q _ I.fresh⟩
end
end L2
namespace Att
open PySem PySem.W PySem.Calls PyProof.Rows
theorem E3{P:Params}{h:Heap}:∀(ns:List Int) (vs:List Value),WellAll P h vs (ns.map WData.int)->IntsAre vs ns:=by
 intro ns
 induction ns with
 |nil =>
  intro vs w
  rw[List.map_nil] at w
  cases w
  exact .nil
 |cons n ns ih =>
  intro vs w
  rw[List.map_cons] at w
  cases w with
  |cons a b =>
   cases a
   exact .cons _ _ (ih _ b)
theorem My{l:OpenLaw}{n:Nat}(hn:l.most=some n){P:Params}{h:Heap}{args:List WData}{vals:List Value}
  (hpre:l.row.toRowW.claim.pre args=true) (hwl:WellAll P h vals args) :
  ∃a vs ns,vals=[Value.ref a]/\args=[WData.list (ns.map WData.int)]/\h.get? a=some { cls:=.type "list",data:=.seq vs.toArray }/\IntsAre vs ns/\ns.length<=n:=by
 have hsh:WShape.hasAll [] args [.list .int]=true:=(pre_splitW hpre).1
 have hc:l.pre.holds [] { args:=args }=true:=(pre_splitW hpre).2
 obtain⟨d,r,rfl,h1,h2⟩:=hasAllW_cons hsh
 obtain rfl:=hasAllW_nil h2
 obtain⟨xs,rfl,h3⟩:=hasW_list h1
 obtain⟨ns,rfl⟩:=items_int h3
 have hlen:ns.length<=n:=by
  unfold OpenLaw.pre at hc
  have h4:(WTm.not (.lt (.lit (.int (n:Int))) (.len (.arg 0)))).holds [] { args:=[.list (ns.map .int)] }=true:=by
   have h4:=(holds_andW hc).1
   rw[hn] at h4
   exact h4
  have h5:=condW_of h4 (w_not (w_lt w_lit (w_len_list (w_arg rfl))))
  rw[List.length_map] at h5
  refine Nat.le_of_not_lt fun q=>?_
  have q':(n:Int)<((ns.length:Nat):Int):=by omega
  first
   |(rw[decide_eq_true q'] at h5;exact absurd h5 (by decide))
   |(simp at h5;omega)
 cases hwl with
 |cons w1 w2 =>
  cases w2
  cases w1 with
  |list ho hall=>exact⟨_,_,ns,rfl,rfl,ho,E3 ns _ hall,hlen⟩
theorem M7(l:OpenLaw)(args:List WData):l.row.toRowW.claim.post args (.bool true) args=true :=
 postW_of (r:=l.row.toRowW) (X:=(true==true))
  (show WShape.has [] (.bool true) .bool=true by first|rfl|decide|simp[WShape.has,WShape.arms,WShape.armsAll])
  (show (WTm.eq .res (.lit (.bool true))).value [] { args:=args,res:=some (.bool true),after:=args }=some (.bool (true==true)) from w_eq_bool (w_res rfl) w_lit) rfl
theorem attach_call{l:OpenLaw}{n:Nat}{q:Program}{loose:List Str}{XP:(Str->Option Value)->Heap->Prop}{YP:World->Heap->Prop}{d:DefRec}
  (hn:l.most=some n) (hdf:d.params.defaults=[])
  (call:∀(w:World) (s₀ s₁:Shared) (mg mb:Str->Option Value) (fa:Addr) (o:Obj) (pm cd doc:Value) (a:Addr) (vs:List Value) (ns:List Int),
   Ground q loose [] XP w s₀ mg mb s₁.heap->YP w s₁.heap →
   s₁.heap.get? fa=some o->o.data=.func (docDef d.name d.params d.body d.scope pm cd doc)->s₁.heap.CodeRec cd d.name->mg d.name=some (.ref fa) →
   s₁.heap.get? a=some { cls:=.type "list",data:=.seq vs.toArray }->IntsAre vs ns->ns.length<=n->s₁.gens=#[] →
   codeAny (model l.prog w) callerA (.call (.ref fa) ⟨[.ref a],[]⟩) (fun r s'=>r=.ok (.ret (.bool true))/\OldK s₁.heap s'.heap/\s'.os=s₁.os/\AllBare s'.gens) s₁) :
  WalkO q loose XP YP l.row.toRowW d [] (fun f vs=>PySem.call f vs):=by
 intro w s₀ s₁ mg mb G Y fa o pm cd doc dV kV ho hd hcd hD hmg hg args vals as hpre hlay hrd hwl hlo
 obtain rfl:dV=.none:=Dflts.none hD hdf
 obtain rfl:kV=.none:=Dflts.noKw hD
 obtain⟨a,vs,ns,rfl,rfl,hobj,hints,hlen⟩:=My hn hpre hwl
 refine enter_call (codeAny_mono (call w s₀ s₁ mg mb fa o pm cd doc a vs ns G Y ho (fd_plain hd) hcd hmg hobj hints hlen hg) fun r s' hq=>?_)
 obtain⟨rfl,h2,h3,h4⟩:=hq
 exact⟨.inl ⟨.bool true,.bool true,[],rfl,fun _=>rfl,.bool true,M7 l _,fun _=>⟨List.Pairwise.nil,fun _ hm=>(nomatch hm)⟩⟩,h2,h3,h4⟩
section
variable{prog:Program}{w:World}{A:Around}{E:Value->Shared->Prop}{s:Shared}{K:Frag}
end
end Att
namespace L2
open PySem PySem.Spec PyProof.Rows
theorem Gd:∀{vs:List Value} {ns:List Int},IntsAre vs ns->Vals (ns.map V.int) vs
 |_,_,.nil=>.nil
 |_,_,.cons n t h=>.cons ⟨t,rfl⟩ (Gd h)
def Sb(H:Hp):Prop:=∀b,H b=none\/∃o xs,H b=some (.frz o (.lst xs))
theorem O4{P:Program}{w:World}{K:PySem.W.Frag}{mg mb:Str->Option Value}{CX:CXT}{k:Nat}{fa a:Addr}{fd:FuncData}{x:Str}{sp:Sp}{s₁:Shared}{vs:List Value}{ns:List Int}
  (KX:K.In s₁.heap) (hns:s₁.heap.Ns mainGlobals mg) (hb:s₁.heap.Ns builtinsNs mb) (hbb:∀x:Str,x≠"__name__"->mb x=bootBuiltins x) (hlim:s₁.heap.NoLimit) (hg:s₁.gens=#[])
  (ha:s₁.heap.get? a=some { cls:=.type "list",data:=.seq vs.toArray }) (hi:IntsAre vs ns) (hl:ns.length<=sizeLine) (hr:Room k callerA)
  (F:∀base:Heap,K.In base->base.Ns mainGlobals mg->FnOk P w K mg base CX k fa fd [x] sp) (hbind:∀(s:Shared) (u:Value),BindsTo s fd ⟨[u],[]⟩ [(x,u)])
  (hsp:∀H:Hp,Sb H->SqL K H a (ns.map V.int)->sp [.ref a] H (fun v _=>v=.bl true) fun _ _ _=>False)
  (hCX:∀H e s',CX [] H s₁ (fun _ _ _=>False) e s'->False) :
  codeAny (model P w) callerA (.call (.ref fa) ⟨[.ref a],[]⟩) (fun r s'=>r=.ok (.ret (.bool true))/\OldK s₁.heap s'.heap/\s'.os=s₁.os/\AllBare s'.gens) s₁:=by
 have rv:=Gd hi
 have lenV:=hi.length
 have core:∀H:Hp,Sb H->SqL K H a (ns.map V.int)->HOk P w H s₁.heap->(∀b,H b≠none->b=a)->(H a≠none->K.lookup a=none) →
   codeAny (model P w) callerA (.call (.ref fa) ⟨[.ref a],[]⟩) (fun r s'=>r=.ok (.ret (.bool true))/\OldK s₁.heap s'.heap/\s'.os=s₁.os/\AllBare s'.gens) s₁:=by
  intro H hO hS hok hA hK
  have base_of:∀{b:Addr} {o:Obj},s₁.heap.get? b=some o->H b=none->(H0 s₁.heap H).get? b=some o:=fun e n=>R4 e n
  have noA:∀{b:Addr} {o:Obj} {es:Array DictEntry} {ep:Nat},s₁.heap.get? b=some o->o.data=.dict es ep->H b=none:=fun {b o es ep} e d=>by
   cases q:H b with
   |none=>rfl
   |some u =>
    have e':b=a:=hA b (by rw[q];simp)
    subst e'
    rw[ha] at e;cases e
    have d':Data.seq vs.toArray _=Data.dict es ep:=d
    cases d'
  have nsK:∀{b:Addr} {m:Str->Option Value},s₁.heap.Ns b m->(H0 s₁.heap H).Ns b m:=fun {b m} ⟨o,es,ep,e,d,r⟩=>⟨o,es,ep,base_of e (noA e d),d,r⟩
  have hKb:K.In (H0 s₁.heap H):=fun b o e=>base_of (KX b o e) (by
   cases q:H b with
   |none=>rfl
   |some u =>
    have e':b=a:=hA b (by rw[q];simp)
    subst e'
    rw[hK (by rw[q];simp)] at e;cases e)
  have hM:Mod K mg (H0 s₁.heap H):=⟨hKb,nsK hns,⟨mb,nsK hb,hbb⟩,let ⟨mc,h1,h2⟩:=hlim;⟨mc,nsK h1,h2⟩⟩
  have e0:Env0 P w K mg (H0 s₁.heap H) callerA [] s₁ H:=⟨rfl,hM,fun b o e=>Vb e,Nat.le_of_eq (Nc _ _),trivial,fun b hb=>absurd (show b∈([]:List Addr) from hb) (by simp),hok,.of_eq hg⟩
  refine codeAny_mono ((F _ hKb (nsK hns)).run callerA [] s₁ H ⟨[.ref a],[]⟩ [.ref a] [.ref a] _ _ hr e0 (hbind s₁ (.ref a)) (.cons rfl .nil) (hsp H hO hS)) fun r s' h=>?_
  cases r with
  |error e=>exact(hCX H e s' h).elim
  |ok fl =>
   cases fl with
   |next=>exact False.elim h
   |brk=>exact False.elim h
   |cont=>exact False.elim h
   |ret u =>
    obtain⟨v,H',os,bare,un,hok',r',q⟩:=h
    have q':v=.bl true:=q
    subst q'
    obtain rfl:u=Value.bool true:=r'
    refine⟨rfl,OldK.of_keep fun b o e=>?_,os,bare⟩
    cases q:H b with
    |none=>exact un.keep b o e q (by intro z;exact absurd (show b∈([]:List Addr) from z) (by simp)) (by simp)
    |some u =>
     rcases hO b with z|⟨ob,xs,z⟩
     ·rw[q] at z;cases z
     ·have z2:=un.frzs b ob _ z
      obtain⟨e1,_⟩:=hok b _ z
      obtain⟨e2,_⟩:=hok' b _ z2
      rw[e] at e1;cases e1
      exact e2
 cases hk:K.lookup a with
 |some o =>
  have e:=KX a o hk
  rw[ha] at e
  cases e
  refine core (fun _=>none) (fun _=>.inl rfl) (.inr ⟨_,vs.toArray,_,hk,rfl,rfl,rfl,by rw[List.size_toArray,lenV];exact hl,by simpa using rv⟩) (fun b u z=>by have z':(none:Option HO)=some u:=z;cases z') (fun b z=>absurd rfl z) fun z=>absurd rfl z
 |none =>
  refine core (fun b=>if b=a then some (.frz { cls:=.type "list",data:=.seq vs.toArray } (.lst (ns.map V.int))) else none) (fun b=>?_) (.inl (.inr ⟨{ cls:=.type "list",data:=.seq vs.toArray },if_pos rfl⟩)) (fun b u z=>?_) (fun b z=>?_) fun _=>hk
  ·by_cases hb:b=a
   ·exact .inr ⟨_,_,if_pos hb⟩
   ·exact .inl (if_neg hb)
  ·by_cases hb:b=a
   ·have z':=(if_pos hb).symm.trans z
    cases z'
    subst hb
    exact⟨ha,by rw[List.length_map];exact hl,vs,_,rv,ha⟩
   ·have z':=(if_neg hb).symm.trans z
    cases z'
  ·by_cases hb:b=a
   ·exact hb
   ·exact absurd (if_neg hb) z
end L2
namespace L2
open PySem PySem.Spec PyProof.Rows
abbrev KOf{K:PySem.W.Frag}{h:Heap}(_:K.In h):PySem.W.Frag:=K
theorem Vo{l:PySem.W.OpenLaw}{n k:Nat}{q:Program}{loose:List Str}{XP:(Str->Option Value)->Heap->Prop}{YP:World->Heap->Prop}{d:DefRec}{K:Params->PySem.W.Frag}{CX:World->CXT}{sp:World->Sp}{x:Str}
  (hn:l.most=some n) (hn2:n<=sizeLine) (hdf:d.params.defaults=[]) (hr:Room k callerA)
  (hY:∀(w:World) (h:Heap),YP w h->(K w.params).In h)
  (F:∀(w:World) (mg:Str->Option Value) (fa:Addr) (h:Heap),(K w.params).In h->h.Ns mainGlobals mg->mg d.name=some (.ref fa) →
   ∃fd:FuncData,(∀(s:Shared) (u:Value),BindsTo s fd ⟨[u],[]⟩ [(x,u)]) ∧
    ∀base:Heap,(K w.params).In base->base.Ns mainGlobals mg->FnOk l.prog w (K w.params) mg base (CX w) k fa fd [x] (sp w))
  (hsp:∀(w:World) (H:Hp) (a:Addr) (ns:List Int),ns.length<=n->Sb H->SqL (K w.params) H a (ns.map V.int)->sp w [.ref a] H (fun v _=>v=.bl true) fun _ _ _=>False)
  (hCX:∀(w:World) (H:Hp) (s:Shared) (e:Value) (s':Shared),CX w [] H s (fun _ _ _=>False) e s'->False) :
  PySem.W.WalkO q loose XP YP l.row.toRowW d [] (fun f vs=>PySem.call f vs):=by
 refine Att.attach_call hn hdf fun w s₀ s₁ mg mb fa o pm cd doc a vs ns G Y ho hd hcd hmg hobj hints hlen hg=>?_
 have KX:=hY w _ Y
 obtain⟨fd,hb,hF⟩:=F w mg fa _ KX G.T.g hmg
 exact O4 KX G.T.g G.T.b G.T.builtins G.T.nolimit hg hobj hints (Nat.le_trans hlen hn2) hr hF hb (fun H hO hS=>hsp w H a ns hlen hO hS) fun H e s'=>hCX w H s₁ e s'
theorem Sl{l:PySem.W.OpenLaw}{n k:Nat}{q:Program}{loose:List Str}{XP:(Str->Option Value)->Heap->Prop}{YP:World->Heap->Prop}{d:DefRec}{K:Params->PySem.W.Frag}{CX:CXT}{sp:PySem.W.Frag->Sp}{x:Str}
  (hn:l.most=some n) (hn2:n<=sizeLine) (hdf:d.params.defaults=[]) (hr:Room k callerA)
  (hY:∀(w:World) (h:Heap),YP w h->(K w.params).In h)
  (F:∀(w:World) (mg:Str->Option Value) (fa:Addr) (h:Heap),(K w.params).In h->h.Ns mainGlobals mg->mg d.name=some (.ref fa) →
   ∃fd:FuncData,(∀(s:Shared) (u:Value),BindsTo s fd ⟨[u],[]⟩ [(x,u)]) ∧
    ∀base:Heap,(K w.params).In base->base.Ns mainGlobals mg->FnOk l.prog w (K w.params) mg base CX k fa fd [x] (sp (K w.params)))
  (hsp:∀(K:PySem.W.Frag) (H:Hp) (a:Addr) (ns:List Int),ns.length<=n->Sb H->SqL K H a (ns.map V.int)->sp K [.ref a] H (fun v _=>v=.bl true) fun _ _ _=>False)
  (hCX:∀(H:Hp) (s:Shared) (e:Value) (s':Shared),CX [] H s (fun _ _ _=>False) e s'->False) :
  PySem.W.WalkO q loose XP YP l.row.toRowW d [] (fun f vs=>PySem.call f vs) :=
 Vo (K:=K) (CX:=fun _=>CX) (sp:=fun w=>sp (K w.params)) hn hn2 hdf hr hY F (fun w H a ns h1 h2 h3=>hsp (K w.params) H a ns h1 h2 h3) fun _ H s e s'=>hCX H s e s'
end L2
namespace L2
open PySem PySem.Spec PyProof.Rows
def Be(s:Stmt):Arguments:=match s with
 | .FunctionDef _ a _ _ _ _ _ _ _ _=>a
 |_=>{ posonlyargs:=[],args:=[],vararg:=none,kwonlyargs:=[],kw_defaults:=[],kwarg:=none,defaults:=[] }
def defBody(s:Stmt):List Stmt:=match s with
 | .FunctionDef _ _ b _ _ _ _ _ _ _=>b
 |_=>[]
def Zb(s:Stmt):Scope:=match s with
 | .FunctionDef _ _ _ _ _ _ sc _ _ _=>sc
 |_=>{ kind:=.function,names:=[],isGenerator:=false,isCoroutine:=false }
abbrev CX0:CXT:=fun _ _ _ _ _ _=>False
abbrev E0:XK:=fun _ _ _=>False
theorem Rn{X:Cx}:Eh CX0 X E0:=fun _ _ _ _ _ _ _ h=>h.elim
structure Fun(K:PySem.W.Frag)(x qual:Str)(st:Stmt)(f:Addr)(fd:FuncData):Prop where
 ex:∃(oc:Value) (od:Option Addr) (kV doc pm:Value) (an:Option Addr) (cdv ct:Value) (osl:Array (Option Value)),
  fd=PySem.W.fnOf x qual (Be st) (defBody st) (Zb st) .none kV doc pm an cdv ct/\K.lookup f=some ⟨oc,od,.func fd,osl⟩/\PySem.W.codeIn K cdv qual=true
 kp:PySem.W.keepIn K (.ref f)=true
section
variable{P:Program}{w:World}{K:PySem.W.Frag}{mg:Str->Option Value}{base:Heap}
theorem Fun.ok{x qual:Str}{st:Stmt}{f:Addr}{fd:FuncData}{N ps:List Str}{k:Nat}{sp:Sp}(F:Fun K x qual st f fd)(S:Zv N ps (Zb st))(len:∀vs H Q E,sp vs H Q E->vs.length=ps.length)
  (hbody:∀(cdv:Value) (A:Around) (outer:List Env) (s:Shared) (H:Hp) (vs:List V) (Q:VK) (E:XK),Room k (A.deeper (envOfC qual (Zb st) s.heap.objs.size f cdv))->sp vs H Q E →
   ∃t,PSs (cxOf CX0 P w K mg base N qual (Zb st) f cdv A outer s H E).nox (defBody st) t/\t { nx:=fun _ H'=>Q .non H',rt:=Q } (Cp N vs) H):FnOk P w K mg base CX0 (k+1) f fd ps sp:=by
 obtain⟨oc,od,kV,doc,pm,an,cdv,ct,osl,rfl,lk,hcd⟩:=F.ex
 refine fn_of lk hcd S len fun A outer s H vs Q E hr hsp=>?_
 obtain⟨t,h,q⟩:=hbody cdv A outer s H vs Q E hr hsp
 exact⟨t,h.nox,q⟩
theorem Fun.binds{x qual:Str}{st:Stmt}{f:Addr}{fd:FuncData}{ps:List Str}(F:Fun K x qual st f fd)
  (h:∀(kV doc pm:Value) (an:Option Addr) (cdv ct:Value) (us:List Value),us.length=ps.length->bindArgs (PySem.W.fnOf x qual (Be st) (defBody st) (Zb st) .none kV doc pm an cdv ct) ⟨us,[]⟩=pure (ps.zip us)):Binds K fd ps []:=by
 obtain⟨oc,od,kV,doc,pm,an,cdv,ct,osl,rfl,lk,hcd⟩:=F.ex
 exact .all (h kV doc pm an cdv ct)
theorem Ej{x qual:Str}{st:Stmt}{f:Addr}{oc:Value}{od an:Option Addr}{osl:Array (Option Value)}{kV doc pm cdv ct:Value}(l:K.lookup f=some ⟨oc,od,.func (PySem.W.fnOf x qual (Be st) (defBody st) (Zb st) .none kV doc pm an cdv ct),osl⟩)
  (c:PySem.W.codeIn K cdv qual=true) (k:PySem.W.keepIn K (.ref f)=true):Fun K x qual st f (PySem.W.fnOf x qual (Be st) (defBody st) (Zb st) .none kV doc pm an cdv ct):=⟨⟨oc,od,kV,doc,pm,an,cdv,ct,osl,rfl,l,c⟩,k⟩
end
theorem Ss{A:Around}{k:Nat}(hr:Room k A):A.units+1<cLine:=Nat.lt_of_le_of_lt (Nat.add_le_add_left (by decide:1<=64) _) hr.units
theorem Xo{n:Nat}(h:n<=1000):n<sizeLine:=Nat.lt_of_le_of_lt h (by decide)
end L2
namespace L2
open PySem PySem.Spec PyProof.Rows
end L2
end
section
namespace L2
open PySem PySem.Spec PyProof.Rows
def clOf(names:List (Str×NameKind))(cells:List (Str×Addr))(acc:List (Str×Addr)):List (Str×Addr) :=
 match names with
 |[]=>acc
 |(n,k)::r=>clOf r cells (if k==.free then (n,(cells.lookup n).getD 0)::acc else acc)
def Xl(X:Cx)(N:List Str)(scope:Scope)(C:Addr)(s:Shared)(H:Hp)(fp:List Addr)(pins:List (Addr×Obj)):Cx where
 prog:=X.prog
 w:=X.w
 K:=X.K
 mg:=X.mg
 base:=X.base
 A:=X.A
 N:=N
 s₀:=s
 H₀:=H
 env:=compEnvC scope (clOf scope.names X.env.cells []) C X.env
 outer:=X.stack
 stack:=X.stack
 ex:=fp
 fn:=fun _=>false
 calm:=X.calm
 pn:=X.pn++pins
 xe:=fun _ _=>False
def scopeOk(on:List (Str×NameKind))(cn:List (Str×NameKind)):Bool :=
 cn.all fun y=>y.2 != .cell&&(y.2 != .free || (on.lookup y.1==some .cell || on.lookup y.1==some .free))&&(y.2 != .local || cn.lookup y.1==some .local)&&(y.2 != .free || cn.lookup y.1==some .free)
def A2(XN:List Str)(cn:List (Str×NameKind))(N:List Str)(pick:List (Option Nat)):Bool :=
 N.length==pick.length&&(N.zip pick).all fun y=>match y.2 with
  |none=>true
  |some j=>XN[j]?==some y.1&&cn.lookup y.1==some .free
def Xq(pick:List (Option Nat))(σ:St):St:=pick.map fun o=>match o with
 |none=>none
 |some j=>match σ[j]? with
  |some (some v)=>some v
  |_=>none
theorem Bu{k l:NameKind}(h:(k != l)=true):k≠l:=by
 intro e;subst e;cases k <;> cases h
theorem C1{k l:NameKind}(h:(k==l)=true):k=l:=by
 cases k <;> cases l <;> first|rfl|cases h
theorem A6{k:Option NameKind}{l:NameKind}(h:(k==some l)=true):k=some l:=by
 cases k with
 |none=>cases h
 |some k=>exact congrArg some (C1 h)
section
variable{on cn:List (Str×NameKind)}
theorem scopeOk.cell(h:scopeOk on cn=true):∀y∈cn,y.2≠.cell:=fun y hy=>by
 have q:=List.all_eq_true.mp h y hy
 simp only[Bool.and_eq_true] at q
 exact Bu q.1.1.1
theorem scopeOk.out(h:scopeOk on cn=true):∀y∈cn,y.2=.free->on.lookup y.1=some .cell\/on.lookup y.1=some .free:=fun y hy e=>by
 have q:=List.all_eq_true.mp h y hy
 simp only[Bool.and_eq_true,Bool.or_eq_true] at q
 rcases q.1.1.2 with z|z
 ·exact absurd e (Bu z)
 ·rcases z with z|z
  ·exact .inl (A6 z)
  ·exact .inr (A6 z)
theorem scopeOk.loc(h:scopeOk on cn=true):∀y∈cn,y.2=.local->cn.lookup y.1=some .local:=fun y hy e=>by
 have q:=List.all_eq_true.mp h y hy
 simp only[Bool.and_eq_true,Bool.or_eq_true] at q
 rcases q.1.2 with z|z
 ·exact absurd e (Bu z)
 ·exact A6 z
end
theorem Bm{cells:List (Str×Addr)}{x:Str}{c:Addr}:∀{names:List (Str×NameKind)} {acc:List (Str×Addr)},(∀y∈names,y.2=NameKind.free->(cells.lookup y.1).isSome=true) →
  (acc.lookup x=some c->cells.lookup x=some c)->(clOf names cells acc).lookup x=some c->cells.lookup x=some c
 |[],acc,_,ha,h=>ha h
 |(n,k)::r,acc,hf,ha,h=>by
  refine Bm (names:=r) (fun y hy e=>hf y (List.mem_cons_of_mem _ hy) e) ?_ h
  intro h'
  by_cases hk:(k==NameKind.free)=true
  ·rw[if_pos hk,List.lookup_cons] at h'
   cases e:(x==n) with
   |true =>
    rw[e] at h'
    have en:x=n:=by simpa using e
    subst en
    have q:=hf (x,k) List.mem_cons_self (C1 hk)
    obtain⟨d,hd⟩:=Option.isSome_iff_exists.mp q
    have hd':cells.lookup x=some d:=hd
    rw[hd'] at h' ⊢
    exact h'
   |false =>
    rw[e] at h'
    exact ha h'
  ·rw[if_neg hk] at h'
   exact ha h'
theorem Co{cells:List (Str×Addr)}{x:Str}:∀{names:List (Str×NameKind)} {acc:List (Str×Addr)},((acc.lookup x).isSome=true\/∃y∈names,y.1=x/\y.2=NameKind.free)->((clOf names cells acc).lookup x).isSome=true
 |[],acc,h=>by
  rcases h with h|⟨y,hy,_⟩
  ·exact h
  ·cases hy
 |(n,k)::r,acc,h=>by
  refine Co (names:=r) ?_
  by_cases hk:(k==NameKind.free)=true
  ·rw[if_pos hk,List.lookup_cons]
   rcases h with h|⟨y,hy,e1,e2⟩
   ·cases e:(x==n) with
    |true=>exact .inl rfl
    |false=>exact .inl h
   ·rcases List.mem_cons.mp hy with z|z
    ·subst z
     have:(x==n)=true:=by simpa using e1.symm
     rw[this]
     exact .inl rfl
    ·exact .inr ⟨y,z,e1,e2⟩
  ·rw[if_neg hk]
   rcases h with h|⟨y,hy,e1,e2⟩
   ·exact .inl h
   ·rcases List.mem_cons.mp hy with z|z
    ·subst z
     exfalso
     apply hk
     have e2':k=NameKind.free:=e2
     rw[e2']
     rfl
    ·exact .inr ⟨y,z,e1,e2⟩
structure Relab(f:Str×NameKind->Str×NameKind):Prop where
 nm:∀y,(f y).1=y.1
 kd:∀y,(f y).2=y.2\/(y.2=.free/\(f y).2=.cell)
theorem Relab.lookup{f:Str×NameKind->Str×NameKind}(R:Relab f){x:Str}:∀names:List (Str×NameKind),(names.map f).lookup x=names.lookup x\/(names.lookup x=some .free/\(names.map f).lookup x=some .cell)
 |[]=>.inl rfl
 |y::r=>by
  obtain⟨n,k⟩:=y
  have h1:=R.nm (n,k)
  have h2:=R.kd (n,k)
  rw[List.map_cons]
  generalize f (n,k)=z at h1 h2
  obtain⟨n',k'⟩:=z
  have h1:n'=n:=h1
  have h2:k'=k\/(k=.free/\k'=.cell):=h2
  subst h1
  rw[List.lookup_cons,List.lookup_cons]
  cases e:(x==n') with
  |true =>
   rcases h2 with h2|⟨h2,h3⟩
   ·subst h2;exact .inl rfl
   ·subst h2;subst h3;exact .inr ⟨rfl,rfl⟩
  |false=>exact R.lookup r
theorem relab(env:Env):Relab (fun y:Str×NameKind=>if (y.2==NameKind.free&&env.scope.kind==.function&&env.kindOf y.1==some .cell)=true then (y.1,NameKind.cell) else (y.1,y.2)) where
 nm:=fun y=>by
  by_cases h:(y.2==NameKind.free&&env.scope.kind==.function&&env.kindOf y.1==some .cell)=true
  ·rw[if_pos h]
  ·rw[if_neg h]
 kd:=fun y=>by
  by_cases h:(y.2==NameKind.free&&env.scope.kind==.function&&env.kindOf y.1==some .cell)=true
  ·rw[if_pos h]
   simp only[Bool.and_eq_true] at h
   exact .inr ⟨C1 h.1.1,rfl⟩
  ·rw[if_neg h]
   exact .inl rfl
theorem By(scope:Scope)(env:Env):(relabel scope env).names=scope.names.map (fun y:Str×NameKind=>if (y.2==NameKind.free&&env.scope.kind==.function&&env.kindOf y.1==some .cell)=true then (y.1,NameKind.cell) else (y.1,y.2)):=rfl
theorem relabel_lookup{scope:Scope}{env:Env}{x:Str}{k:NameKind}(h:(relabel scope env).names.lookup x=some k):
  scope.names.lookup x=some k\/(k=.cell/\scope.names.lookup x=some .free):=by
 rw[By] at h
 rcases(relab env).lookup (x:=x) scope.names with q|⟨q1,q2⟩
 ·rw[q] at h;exact .inl h
 ·rw[q2] at h;cases h;exact .inr ⟨rfl,q1⟩
theorem Ds{scope:Scope}{env:Env}{x:Str}(h:scope.names.lookup x=some .free):(relabel scope env).names.lookup x=some .cell\/(relabel scope env).names.lookup x=some .free:=by
 rw[By]
 rcases(relab env).lookup (x:=x) scope.names with q|⟨q1,q2⟩
 ·rw[q];exact .inr h
 ·exact .inl q2
end L2
end
section
namespace L2
open PySem PySem.Spec PyProof.Rows
theorem Dk(env:Env):∀(names:List (Str×NameKind)) (acc:List (Str×Addr)),(∀y∈names,y.2=NameKind.free->(env.cells.lookup y.1).isSome=true) →
  (forIn names acc (fun (x:Str×NameKind) (cs:List (Str×Addr))=>if (x.2==NameKind.free)=true then (do let a ← cellOf env x.1;pure (ForInStep.yield ((x.1,a)::cs))) else pure (ForInStep.yield cs)):Sem (List (Str×Addr)))=pure (clOf names env.cells acc)
 |[],acc,_=>rfl
 |(n,k)::r,acc,h=>by
  rw[List.forIn_cons]
  by_cases hk:(k==NameKind.free)=true
  ·obtain⟨c,hc⟩:=Option.isSome_iff_exists.mp (h (n,k) List.mem_cons_self (C1 hk))
   have hc':env.cells.lookup n=some c:=hc
   have e:cellOf env n=pure c:=by unfold cellOf;rw[hc']
   simp only[hk,if_true]
   rw[e]
   have ih:=Dk env r ((n,c)::acc) fun y hy z=>h y (List.mem_cons_of_mem _ hy) z
   have e2:clOf ((n,k)::r) env.cells acc=clOf r env.cells ((n,c)::acc):=by
    show clOf r env.cells (if (k==NameKind.free)=true then (n,(env.cells.lookup n).getD 0)::acc else acc)=_
    rw[if_pos hk,hc']
    rfl
   rw[e2,<-ih]
   rfl
  ·have hk':(k==NameKind.free)=false:=by cases q:(k==NameKind.free) with
    |true=>exact absurd q hk
    |false=>rfl
   simp only[hk']
   have ih:=Dk env r acc fun y hy z=>h y (List.mem_cons_of_mem _ hy) z
   have e2:clOf ((n,k)::r) env.cells acc=clOf r env.cells acc:=by
    show clOf r env.cells (if (k==NameKind.free)=true then (n,(env.cells.lookup n).getD 0)::acc else acc)=_
    rw[if_neg hk]
   rw[e2,<-ih]
   rfl
theorem De{scope:Scope}{env:Env}(h:∀y∈scope.names,y.2=NameKind.free->(env.cells.lookup y.1).isSome=true):closureFor scope env=pure (clOf scope.names env.cells []):=by
 have e:=Dk env scope.names [] h
 have b:closureFor scope env=((forIn scope.names ([]:List (Str×Addr)) (fun (x:Str×NameKind) (cs:List (Str×Addr))=>if (x.2==NameKind.free)=true then (do let a ← cellOf env x.1;pure (ForInStep.yield ((x.1,a)::cs))) else pure (ForInStep.yield cs)):Sem (List (Str×Addr))) >>= fun r=>pure r):=rfl
 rw[b,e]
 rfl
section
variable{X:Cx}{pins:List (Addr×Obj)}{σ:St}{H:Hp}{s:Shared}
theorem D6(I:Inv X pins σ H s){scope:Scope}(hs:scopeOk X.env.scope.names scope.names=true):∀y∈scope.names,y.2=NameKind.free->(X.env.cells.lookup y.1).isSome=true:=fun y hy e=>by
 obtain⟨c,hc⟩:=I.ok.has y.1 (scopeOk.out hs y hy e)
 rw[hc];rfl
theorem Rx(I:Inv X pins σ H s){N:List Str}{scope:Scope}{pick:List (Option Nat)}{fp:List Addr}{C D:Addr}{h₁:Heap}{tk:Nat}{ob:Obj}
  (hs:scopeOk X.env.scope.names scope.names=true) (hp:A2 X.N scope.names N pick=true) (hk:scope.kind=.function)
  (hf:∀b∈fp,FpOk X pins H b) (ho:∀b∈fp,∃o,s.heap.get? b=some o/\∀v,o.data≠.cell v)
  (hC:s.heap.objs.size<=C) (hD:s.heap.objs.size<=D) (hDC:D≠C) (keep:∀b o,s.heap.get? b=some o->h₁.get? b=some o)
  (ns:h₁.Ns C fun _=>none) (hl:h₁.get? D=some ob) (hob:∀v,ob.data≠.cell v) :
  Inv (Xl X N scope C s H fp pins) [(D,ob)] (Xq pick σ) H { s with heap:=h₁,toks:=tk }:=by
 have cells:=D6 I hs
 have sub:∀x c,(clOf scope.names X.env.cells []).lookup x=some c->X.env.cells.lookup x=some c:=fun x c e=>Bm cells (fun z=>by cases z) e
 have lt:∀{b o},s.heap.get? b=some o->b<s.heap.objs.size:=fun e=>Heap.lt_size e
 simp only[A2,Bool.and_eq_true] at hp
 obtain⟨hpl,hpa⟩:=hp
 have hpl:N.length=pick.length:=by simpa using hpl
 have ok:(Xl X N scope C s H fp pins).Ok:=by
  refine⟨I.ok.mod,hk,I.ok.glob,I.ok.blt,hC,fun x y c e1 e2=>I.ok.inj x y c (sub x c e1) (sub y c e2),fun x hx=>?_,fun x c e _=>?_,I.ok.hd,I.ok.frames,.inl rfl,fun b hb=>⟨?_,fun x c e=>?_⟩,I.bs,Nat.le_trans I.ok.bsz I.sz,fun b o e hb=>?_,fun b hb hb'=>?_,I.stack,I.stkFree⟩
  ·have hfree:scope.names.lookup x=some .free:=by
    rcases hx with z|z
    ·rcases relabel_lookup z with q|⟨_,q⟩
     ·exact absurd rfl (scopeOk.cell hs _ (PySem.mem_of_lookup q))
     ·exact q
    ·rcases relabel_lookup z with q|⟨q,_⟩
     ·exact q
     ·cases q
   exact Option.isSome_iff_exists.mp (Co (.inr ⟨_,PySem.mem_of_lookup hfree,rfl,rfl⟩))
  ·cases e
  ·obtain⟨o,e,_⟩:=ho b hb
   exact Nat.ne_of_lt (Nat.lt_of_lt_of_le (lt e) hC)
  ·exact(hf b hb).2.2.2.2.1 x c (sub x c e)
  ·rcases(hf b hb).2.2.2.1 with z|z
   ·exact I.ok.noex b o e z
   ·exact absurd (Nat.lt_of_lt_of_le (Heap.lt_size (I.ok.bs b o e).1) z) (Nat.lt_irrefl _)
  ·rcases List.mem_cons.mp (I.stkSub b hb') with z|z
   ·exact(hf b hb).2.1 z
   ·exact(hf b hb).2.2.1 z
 have fresh:∀{a:Addr},s.heap.objs.size<=a->H a=none:=fun h=>I.hok.fresh h
 have nst:∀{a:Addr},s.heap.objs.size<=a->a ∉ frs X.stack:=fun {a} h hb=>by
  rcases List.mem_cons.mp (I.stkSub _ hb) with z|z
  ·rw[z] at h
   exact absurd (Nat.lt_of_lt_of_le I.lt h) (Nat.lt_irrefl _)
  ·exact I.nofs h z
 refine⟨ok,rfl,I.bare,Un.kept keep,⟨_,ns,fun i x v e1 e2 e3=>?_⟩,fun x c e=>?_,fresh hC,fun x c e=>I.freeC x c (sub x c e),fun p hp=>?_,I.hok.kept keep,?_⟩
 ·-- a free name's value is the cell's
  have e2:(Xq pick σ)[i]?=some (some v):=e2
  have e1:N[i]?=some x:=e1
  unfold Xq at e2
  rw[List.getElem?_map] at e2
  cases ep:pick[i]? with
  |none=>rw[ep] at e2;cases e2
  |some o =>
   rw[ep] at e2
   cases o with
   |none=>cases e2
   |some j =>
    have hz:(x,some j)∈N.zip pick:=by
     have:=List.getElem?_zip_eq_some (l₁:=N) (l₂:=pick) (i:=i) (z:=(x,some j))
     exact List.mem_of_getElem? (this.mpr ⟨e1,ep⟩)
    have q:=List.all_eq_true.mp hpa _ hz
    simp only[Bool.and_eq_true] at q
    have qN:X.N[j]?=some x:=by simpa using q.1
    have qF:scope.names.lookup x=some .free:=A6 q.2
    have eσ:σ[j]?=some (some v):=by
     cases eo:σ[j]? with
     |none=>simp only[eo,Option.map_some,Option.some.injEq] at e2;cases e2
     |some ov =>
      cases ov with
      |none=>simp only[eo,Option.map_some,Option.some.injEq] at e2;cases e2
      |some v'=>simp only[eo,Option.map_some,Option.some.injEq] at e2;rw[e2]
    have ok':=scopeOk.out hs _ (PySem.mem_of_lookup qF) rfl
    obtain⟨m,hn,hl'⟩:=I.loc
    obtain⟨u,r,l⟩:=hl' j x v qN eσ (.inr ok')
    refine⟨u,r,?_⟩
    rcases l with⟨k,_⟩|⟨k,c,hc,hcell⟩
    ·have k':X.env.scope.names.lookup x=some .local:=k
     rcases ok' with z|z
     ·rw[z] at k';cases k'
     ·rw[z] at k';cases k'
    ·obtain⟨c',hc'⟩:=Option.isSome_iff_exists.mp (Co (cells:=X.env.cells) (x:=x) (acc:=[]) (.inr ⟨_,PySem.mem_of_lookup qF,rfl,rfl⟩))
     have e':=sub x c' hc'
     rw[hc] at e';cases e'
     obtain⟨o,ho',hd'⟩:=hcell
     exact .inr ⟨Ds qF,c,hc',⟨o,keep c o ho',hd'⟩⟩
 ·obtain⟨v,o,ho',hd'⟩:=I.cell x c (sub x c e)
  exact⟨v,o,keep c o ho',hd'⟩
 ·have hp:p∈(X.pn++pins)++[(D,ob)]:=hp
  rcases List.mem_append.mp hp with z|z
  ·obtain⟨a1,a2,a3,a4,a5⟩:=I.pin p z
   refine⟨keep _ _ a1,a2,Nat.ne_of_lt (Nat.lt_of_lt_of_le (lt a1) hC),fun hb=>?_,a5⟩
   rcases List.mem_cons.mp (I.stkSub _ hb) with y|y
   ·exact a3 y
   ·exact a4 y
  ·have z:p=(D,ob):=List.mem_singleton.mp z
   subst z
   exact⟨hl,fresh hD,hDC,nst hD,hob⟩
 ·show (Xq pick σ).length=N.length
  unfold Xq
  rw[List.length_map,hpl]
end
theorem Ft{prog:Program}{w:World}{A:Around}{R:Result->Shared->Prop}{s:Shared}{elt tg iter:Expr}{ifs:List Expr}{scope:Scope}{pos:Pos}{it acc:Value}{env:Env}(J:Nat->Shared->Prop)
  (turn:∀n s,J n s->wpAny (model prog w) A (pyNext it) (fun r s₁=>match r with
   |none=>R (.ok .next) s₁
   |some v=>wpAny (model prog w) A (letOwnedTupleGo tg it v) (fun _ s₂=>wpAny (model prog w) A (assign tg env v) (fun _ s₃ =>
     wpAny (model prog w) A (forIn ifs true fun c r=>if r=true then do let ok ← isTrue c env (eval c env);pure (ForInStep.yield ok) else pure (ForInStep.yield r)) (fun ok s₄ =>
      if ok=true then wpAny (model prog w) A (eval elt env) (fun x s₅=>wpAny (model prog w) A (call (.builtin "list.append") [acc,x]) (fun _ s₆=>∃m,m<n/\J m s₆) (fun _ _=>False) s₅) (fun _ _=>False) s₄
      else ∃m,m<n/\J m s₄) (fun _ _=>False) s₃) (fun _ _=>False) s₂) (fun _ _=>False) s₁) (fun _ _=>False) s)
  (n:Nat) (h:J n s):codeAny (model prog w) A (.compLoop (.ListComp elt [⟨tg,iter,ifs,0⟩] scope pos) 0 it acc env) R s:=by
 have no:∀{E:Value->Shared->Prop} (x:Value) (s':Shared),False->E x s':=fun _ _ z=>z.elim
 refine codeAny_loop rfl J (fun k s' hJ=>?_) n h
 show wpAny (model prog w) A ((compTurn (.ListComp elt [⟨tg,iter,ifs,0⟩] scope pos) 0 it acc env).onRaise (fun e=>do noteFrame e env;theTreesLotGoes e)) _ _ s'
 refine wpAny_noted ?_
 rw[compTurn_list]
 refine wpAny_bind (wpAny_standAt (wpAny_bind (wpAny_mono (turn k s' hJ) (fun r s₁ h₁=>?_) no)))
 cases r with
 |none=>exact wpAny_pure h₁
 |some v =>
  refine wpAny_bind (wpAny_mono h₁ (fun _ s₂ h₂=>?_) no)
  refine wpAny_bind (wpAny_mono h₂ (fun _ s₃ h₃=>?_) no)
  refine wpAny_bind (wpAny_mono h₃ (fun ok s₄ h₄=>?_) no)
  cases ok with
  |true =>
   simp only[if_true] at h₄ ⊢
   exact wpAny_bind (wpAny_bind (wpAny_mono h₄ (fun x s₅ h₅=>wpAny_bind (wpAny_mono h₅ (fun _ s₆ h₆=>wpAny_pure (wpAny_pure ⟨rfl,h₆⟩)) no)) no))
  |false =>
   simp only[Bool.false_eq_true,if_false] at h₄ ⊢
   exact wpAny_bind (wpAny_pure (wpAny_pure ⟨rfl,h₄⟩))
theorem HOk.track{P:Program}{w:World}{H:Hp}{h:Heap}{a:Addr}{o:HO}(x:HOk P w H h)(hn:H a=none)(new:ObjOk P w (upd H a o) h a o):HOk P w (upd H a o) h:=fun b u e=>by
 by_cases hb:b=a
 ·subst hb;rw[Ak] at e;cases e;exact new
 ·rw[Xc hb] at e
  exact(x b u e).stay (fun c v _ q=>q) (fun c q=>by rw[Xc (Xa q hn)];exact q) fun c xs q=>by rw[Xc (Xa q hn)];exact q
end L2
end
section
namespace L2
open PySem PySem.Spec PyProof.Rows
def PTs(X:Cx)(ifs:List Expr)(t:TT):Prop :=
 ∀(pins:List (Addr×Obj)) (s:Shared) (σ:St) (H:Hp) (Q:Bool->Hp->Prop),Inv X pins σ H s->t σ H Q →
  wpAny (model X.prog X.w) X.A (forIn ifs true fun c r=>if r=true then do let ok ← isTrue c X.env (eval c X.env);pure (ForInStep.yield ok) else pure (ForInStep.yield r)) (TP X pins σ Q) X.xe s
def tYes:TT:=fun _ H Q=>Q true H
theorem U4{X:Cx}:PTs X [] tYes:=fun _ _ _ H _ I h=>wpAny_tests_nil ⟨H,I,h⟩
theorem T9{X:Cx}{c:Expr}{t:TT}(h:PT X c t):PTs X [c] t:=fun pins s σ H Q I q=>wpAny_tests_one (h pins s σ H Q I q)
def Ni(σ σ':St):Prop:=σ'.length=σ.length/\∀(i:Nat) v,σ[i]?=some (some v)->σ'[i]?=some (some v)
def Ex(pick:List (Option Nat))(wi:TI)(g:TG)(tc:TT)(te:TE):TE:=fun σ H Q=>wi σ H fun J H1=>∃W:Nat->Nat->List V->Hp->Prop,(∃m,W 0 m [] H1)/\∀i m acc H,W i m acc H →
 (J.stop i H/\acc.length<=sizeLine/\∀p,H p=none->Q (.ref p) (upd H p (.lst acc))) ∨
 (J.go i H/\acc.length<sizeLine/\∃Nx:List V->Hp->Prop,(∀acc' H',Nx acc' H'->∃m',m'<m/\W (i+1) m' acc' H') ∧
  ∀x H',J.yld i H x H'->g x (Xq pick σ) H' fun σ2 H2=>Ni (Xq pick σ) σ2/\tc σ2 H2 fun b H3=>if b=true then te σ2 H3 fun y H4=>Nx (acc++[y]) H4 else Nx acc H3)
theorem Jd{X:Cx}{N:List Str}{pick:List (Option Nat)}{elt tg iter:Expr}{ifs:List Expr}{scope:Scope}{pos p0:Pos}{wi:TI}{g:TG}{tc:TT}{te:TE}{use:Option (Value->Sem Unit)}{Q':Value->Shared->Prop}{pins:List (Addr×Obj)}{s:Shared}{σ:St}{H:Hp}{Q:VK}(hc:X.calm=true)
  (hs:scopeOk X.env.scope.names scope.names=true) (hp:A2 X.N scope.names N pick=true) (hk:scope.kind=.function) (hi:PI X tg iter wi)
  (hg:∀C s H fp pins,PG (Xl X N scope C s H fp pins) tg g) (ht:∀C s H fp pins,PTs (Xl X N scope C s H fp pins) ifs tc) (he:∀C s H fp pins,PE (Xl X N scope C s H fp pins) elt te)
  (hfs:∀x,foldedSetIterable iter X.env x=pure x) (I:Inv X pins σ H s) (h:Ex pick wi g tc te σ H Q)
  (fin:∀(D C:Addr) (Hx:Hp) (s4:Shared),(∃m,s4.heap.Ns C m)->(∀h',Heap.SameBut C s4.heap h'->Inv X pins σ Hx { s4 with heap:=h' })->Hx C=none->C≠X.env.locals->X.s₀.heap.objs.size<=C->(∀x c,X.env.cells.lookup x=some c->c≠C)->(∀p∈X.pn++pins,p.1≠C)->Q (.ref D) Hx →
   compPost (model X.prog X.w) X.A X.xe use Q' (.ref D) C (.ok .next) s4) :
  wpAny (model X.prog X.w) X.A (comprehension (.ListComp elt [⟨tg,iter,ifs,0⟩] scope pos) scope X.env p0 (newList []) false (eval iter X.env) use) Q' X.xe s:=by
 have no:∀{E:Value->Shared->Prop} (x:Value) (s':Shared),False->E x s':=fun _ _ z=>z.elim
 refine wpAny_comprehension_free rfl hfs (De (D6 I hs)) hk (scopeOk.loc hs) (thn (hi pins s σ H _ I h) fun v s1 h1=>thn h1 fun itv s2 h2=>?_)
 obtain⟨it,fp,tn,J,H2,e,I2,Tn,st2,f2,W,⟨m0,w0⟩,turn⟩:=h2
 subst e
 refine wpAny_newObj_type (wpAny_newFunctionEnv (scopeOk.cell hs) (by intro y hy;simp at hy) (fun h₁ hns hsb=>?_) hk)
 dsimp only at hns hsb ⊢
 generalize hG:s2.heap.push { cls:=.type "list",dict:=none,data:=.seq ([]:List Value).toArray }=G at hns hsb ⊢
 have hC:G.objs.size=s2.heap.objs.size+1:=by rw[<-hG,Heap.size_push]
 have hDC:s2.heap.objs.size≠G.objs.size:=by rw[hC];exact Nat.ne_of_lt (Nat.lt_succ_self _)
 have hCl:s2.heap.objs.size<=G.objs.size:=by rw[hC];exact Nat.le_succ _
 have low:∀{b o},s2.heap.get? b=some o->b≠G.objs.size:=fun e=>by rw[hC];exact Nat.ne_of_lt (Nat.lt_succ_of_lt (Heap.lt_size e))
 have low2:∀{b o},s2.heap.get? b=some o->b≠s2.heap.objs.size:=fun e=>Nat.ne_of_lt (Heap.lt_size e)
 have old:∀b o,s2.heap.get? b=some o->h₁.get? b=some o:=fun b o e=>hsb.extBut b o (low e) (Heap.get?_push_of_some _ (hG ▸ Heap.get?_push_of_some _ e))
 have hD:h₁.get? s2.heap.objs.size=some { cls:=.type "list",data:=.seq ([]:List Value).toArray }:=hsb.extBut _ _ hDC (Heap.get?_push_of_some _ (hG ▸ Heap.get?_push_size _ rfl))
 have I3:Inv (Xl X N scope G.objs.size s2 H2 fp pins) [(s2.heap.objs.size,{ cls:=.type "list",data:=.seq ([]:List Value).toArray })] (Xq pick σ) H2 { s2 with heap:=h₁,toks:=s2.toks+([]:List (Str×Value)).length } :=
  Rx I2 hs hp hk f2 (Tn.obj 0 _ st2) hCl (Nat.le_refl _) hDC old hns hD (fun v z=>by cases z)
 have cellLt:∀x c,(clOf scope.names X.env.cells []).lookup x=some c->c<s2.heap.objs.size:=fun x c e=>by
  obtain⟨v,q⟩:=I2.cell x c (Bm (D6 I2 hs) (fun z=>by cases z) e)
  exact q.lt
 have fpLt:∀b∈fp,b<s2.heap.objs.size:=fun b hb=>by
  obtain⟨o,e,_⟩:=Tn.obj 0 _ st2 b hb
  exact Heap.lt_size e
 have pinLt:∀p∈X.pn++pins,p.1<s2.heap.objs.size:=fun p hp'=>Heap.lt_size (I2.pin p hp').1
 have stat:∀{H':Hp} {ob:Obj},(∀b∈fp,H' b=none)->∀b∈fp,FpOk (Xl X N scope G.objs.size s2 H2 fp pins) [(s2.heap.objs.size,ob)] H' b:=fun {H' ob} hn b hb=>by
  refine⟨hn b hb,?_,fun z=>?_,.inl hb,fun x c e=>?_,fun p hp'=>?_⟩
  ·show b≠G.objs.size
   rw[hC];exact Nat.ne_of_lt (Nat.lt_succ_of_lt (fpLt b hb))
  ·have z:b∈frs X.stack:=z
   rcases List.mem_cons.mp (I2.stkSub b z) with y|y
   ·exact(f2 b hb).2.1 y
   ·exact(f2 b hb).2.2.1 y
  ·exact(f2 b hb).2.2.2.2.1 x c (Bm (D6 I2 hs) (fun z=>by cases z) e)
  ·have hp':p∈(X.pn++pins)++[(s2.heap.objs.size,ob)]:=hp'
   rcases List.mem_append.mp hp' with z|z
   ·exact(f2 b hb).2.2.2.2.2 p z
   ·have z:p=(s2.heap.objs.size,ob):=List.mem_singleton.mp z
    subst z
    exact Nat.ne_of_gt (fpLt b hb)
 have loop:∀s3:Shared,s3={ s2 with heap:=h₁,toks:=s2.toks+([]:List (Str×Value)).length } →
   codeAny (model X.prog X.w) X.A (.compLoop (.ListComp elt [⟨tg,iter,ifs,0⟩] scope pos) 0 (.ref it) (.ref s2.heap.objs.size) (compEnvC scope (clOf scope.names X.env.cells []) G.objs.size X.env))
    (compPost (model X.prog X.w) X.A X.xe use Q' (.ref s2.heap.objs.size) G.objs.size) s3:=by
  rintro s3 rfl
  refine Ft (fun n s'=>∃i acc its k H',Inv (Xl X N scope G.objs.size s2 H2 fp pins) [(s2.heap.objs.size,{ cls:=.type "list",data:=.seq (its:List Value).toArray k })] (Xq pick σ) H' s'/\Vals acc its/\tn i s'.heap/\(∀b∈fp,H' b=none)/\W i n acc H') ?_ m0
   ⟨0,[],[],0,H2,I3,.nil,Tn.keep _ _ _ st2 fun b hb o e=>old b o e,fun b hb=>(f2 b hb).1,w0⟩
  rintro n s3 ⟨i,acc,its,k,H3,I3,rv,st3,fr3,w3⟩
  rcases turn i n acc H3 w3 with⟨stop,hz,fin0⟩|⟨go,hz,Nx,hN,step⟩
  ·refine wpAny_mono (Tn.done (Xl X N scope G.objs.size s2 H2 fp pins) rfl rfl rfl hc i _ s3 _ H3 (fun _ _=>False) I3 (stat fr3) st3 stop) (fun r s4 hr=>?_) no
   obtain⟨hr,I4⟩:=hr
   subst hr
   obtain⟨m,hnC,_⟩:=I4.loc
   obtain⟨p1,p2,p3,p4,p5⟩:=I4.pin (s2.heap.objs.size,_) (List.mem_append_right _ (List.mem_singleton.mpr rfl))
   have nC:H3 G.objs.size=none:=I4.free
   have low3:∀{b o},X.s₀.heap.get? b=some o->b≠G.objs.size:=fun e=>by
    rw[hC];exact Nat.ne_of_lt (Nat.lt_of_lt_of_le (Heap.lt_size e) (Nat.le_succ_of_le I2.sz))
   refine fin s2.heap.objs.size G.objs.size (upd H3 s2.heap.objs.size (.lst acc)) s4 ⟨m,hnC⟩ (fun h' sb=>?_) (by rw[Xc (Ne.symm hDC)];exact nC) (fun z=>?_) (Nat.le_trans I2.sz hCl) (fun x c e=>?_) (fun p hp'=>by rw[hC];exact Nat.ne_of_lt (Nat.lt_succ_of_lt (pinLt p hp'))) (fin0 _ p2)
   rotate_left
   ·obtain⟨m',⟨o',_,_,ho',_⟩,_⟩:=I2.loc
    exact low ho' z.symm
   ·obtain⟨v',o',ho',_⟩:=I2.cell x c e
    exact low ho'
   have kp:∀b o,b≠G.objs.size->s4.heap.get? b=some o->h'.get? b=some o:=fun b o hb e=>sb.extBut b o hb e
   have hok:HOk X.prog X.w H3 h':=fun b u e=>by
    refine(I4.hok b u e).stay (fun c v hc' q=>kp c v ?_ q) (fun _ q=>q) fun _ _ q=>q
    rcases hc' with z|z
    ·rw[z];exact Xa e nC
    ·exact Xa z nC
   have hok':HOk X.prog X.w (upd H3 s2.heap.objs.size (.lst acc)) h':=hok.track p2 ⟨hz,its,k,rv,kp _ _ hDC p1⟩
   have un:=I4.base
   have un':Un (frs X.stack) fp H2 (upd H3 s2.heap.objs.size (.lst acc)) s2.heap h':=by
    have f0:H2 s2.heap.objs.size=none:=I2.fresh
    refine⟨fun b o e n' hb hx=>kp b o (low e) (un.keep b o e n' hb hx),fun b o e n' hb hx=>?_,fun b o e n' hx=>?_,fun b o e hx=>?_,fun b xs e=>?_,fun b o u e=>?_,fun b ps e=>?_⟩
    ·obtain⟨sl,q⟩:=un.slot b o e n' hb hx
     exact⟨sl,kp b _ (low e) q⟩
    ·rw[Xc (low2 e)];exact un.free b o e n' hx
    ·obtain⟨o',q⟩:=un.there b o e hx
     exact⟨o',kp b o' (low e) q⟩
    ·rw[Xc (Xa e f0)];exact un.tups b xs e
    ·rw[Xc (Xa e f0)];exact un.frzs b o u e
    ·obtain⟨more,q⟩:=un.tbls b ps e
     exact⟨more,by rw[Xc (Xa e f0)];exact q⟩
   have hos:s4.os=s2.os:=I4.os
   refine I2.call' (s':={ s4 with heap:=h' }) hos un' hok' I4.bare (fun b hb=>?_)
   exact⟨(f2 b hb).2.2.2.1,(f2 b hb).2.1,(f2 b hb).2.2.2.2.1,(f2 b hb).2.2.2.2.2⟩
  ·refine wpAny_mono (Tn.item (Xl X N scope G.objs.size s2 H2 fp pins) rfl rfl rfl hc i _ s3 _ H3 (fun _ _=>False) I3 (stat fr3) st3 go) (fun r s4 hr=>?_) no
   obtain⟨u,hr,h4⟩:=hr
   subst hr
   refine wpAny_mono h4 (fun _ s5 h5=>?_) no
   obtain⟨x,H5,I5,r5,y5,st5,fr5⟩:=h5
   have I5':=I5.pinned (stat fr5) (Tn.obj _ _ st5)
   refine wpAny_mono (hg _ _ _ _ _ _ s5 _ H5 x u _ I5' r5 (step x H5 y5)) (fun _ s6 h6=>?_) no
   obtain⟨σ6,H6,I6,kp6,q6⟩:=h6
   refine wpAny_mono (ht _ _ _ _ _ _ s6 σ6 H6 _ I6 q6) (fun ok s7 h7=>?_) no
   obtain⟨H7,I7,q7⟩:=h7
   have tnOf:∀{σ':St} {H':Hp} {s':Shared} {pl:List (Addr×Obj)},(∀p∈pinsAt fp s5.heap,p∈pl)->Inv (Xl X N scope G.objs.size s2 H2 fp pins) pl σ' H' s'->tn (i+1) s'.heap/\∀b∈fp,H' b=none:=fun {σ' H' s' pl} hpl I'=>by
    refine⟨Tn.keep _ _ _ st5 fun b hb o e=>(I'.pin (b,o) (List.mem_append_right _ (hpl _ (Bb hb e)))).1,fun b hb=>?_⟩
    obtain⟨o,e,_⟩:=Tn.obj _ _ st5 b hb
    exact(I'.pin (b,o) (List.mem_append_right _ (hpl _ (Bb hb e)))).2.1
   cases ok with
   |false =>
    rw[if_neg Bool.false_ne_true] at q7 ⊢
    obtain⟨m',hm,w7⟩:=hN _ _ q7
    obtain⟨t7,f7⟩:=tnOf (fun p hp'=>List.mem_append_right _ hp') I7
    exact⟨m',hm,i+1,acc,its,k,H7,(I7.unpinned).weak (kp6.1.symm) (fun j v e=>kp6.2 j v e),rv,t7,f7,w7⟩
   |true =>
    rw[if_pos rfl] at q7 ⊢
    refine wpAny_mono (he _ _ _ _ _ _ s7 σ6 H7 _ I7 q7) (fun xv s8 h8=>?_) no
    obtain⟨y,H8,I8,r8,q8⟩:=h8
    obtain⟨p1,p2,p3,p4,p5⟩:=I8.pin (s2.heap.objs.size,_) (List.mem_append_right _ (List.mem_append_left _ (List.mem_singleton.mpr rfl)))
    have hl:=rv.length
    refine wpAny_list_append_plain (items:=its.toArray) ⟨k,p1⟩ (fun h' il sb=>?_) (by rw[List.size_toArray];omega)
    obtain⟨k',e'⟩:=il
    obtain⟨t8,f8⟩:=tnOf (fun p hp'=>List.mem_append_right _ hp') I8
    have I8':Inv (Xl X N scope G.objs.size s2 H2 fp pins) [] σ6 H8 s8:=I8.pins_of fun p hp'=>by cases hp'
    have I9:Inv (Xl X N scope G.objs.size s2 H2 fp pins) [] σ6 H8 { s8 with heap:=h' }:=I8'.turned (t':=s8.toks) (it:=s2.heap.objs.size) (fun b o hb e=>sb.extBut b o hb e) p2 hDC (.inr (Nat.le_refl _)) (fun x c e=>Nat.ne_of_lt (cellLt x c e)) (fun p hp'=>by
     have hp':p∈(X.pn++pins)++[]:=hp'
     rw[List.append_nil] at hp'
     exact Nat.ne_of_lt (pinLt p hp'))
    have e'':h'.get? s2.heap.objs.size=some { cls:=.type "list",data:=.seq (its++[xv]).toArray k' }:=by rw[e'];simp
    have I10:Inv (Xl X N scope G.objs.size s2 H2 fp pins) [(s2.heap.objs.size,{ cls:=.type "list",data:=.seq (its++[xv]).toArray k' })] σ6 H8 { s8 with heap:=h' }:=I9.pins_of fun p hp'=>by
     have hp':p=(s2.heap.objs.size,_):=List.mem_singleton.mp hp'
     subst hp'
     exact⟨e'',p2,p3,p4,fun v z=>by cases z⟩
    obtain⟨m',hm,w8⟩:=hN _ _ q8
    refine⟨m',hm,i+1,acc++[y],its++[xv],k',H8,I10.weak (kp6.1.symm) (fun j v e=>kp6.2 j v e),rv.append (.cons r8 .nil),?_,f8,w8⟩
    refine Tn.keep _ _ _ t8 fun b hb o e=>sb.extBut b o (Nat.ne_of_lt (fpLt b hb)) e
 exact codeAny_compStart_list (loop _ rfl) (Tn.self _ 0 _ _ _ (Tn.keep _ _ _ st2 fun b hb o e=>old b o e) (loop _ rfl))
theorem Hc{X:Cx}{N:List Str}{pick:List (Option Nat)}{elt tg iter:Expr}{ifs:List Expr}{scope:Scope}{pos:Pos}{wi:TI}{g:TG}{tc:TT}{te:TE}(hc:X.calm=true)
  (hs:scopeOk X.env.scope.names scope.names=true) (hp:A2 X.N scope.names N pick=true) (hk:scope.kind=.function) (hi:PI X tg iter wi)
  (hg:∀C s H fp pins,PG (Xl X N scope C s H fp pins) tg g) (ht:∀C s H fp pins,PTs (Xl X N scope C s H fp pins) ifs tc) (he:∀C s H fp pins,PE (Xl X N scope C s H fp pins) elt te)
  (hfs:∀x,foldedSetIterable iter X.env x=pure x:=by intro _;rfl):PE X (.ListComp elt [⟨tg,iter,ifs,0⟩] scope pos) (Ex pick wi g tc te):=by
 intro pins s σ H Q I h
 rw[eval_ListComp]
 exact Jd hc hs hp hk hi hg ht he hfs I h fun D C Hx s4 ⟨m,hn⟩ hI _ _ _ _ _ q=>⟨m,hn,fun h' sb=>⟨.ref D,Hx,hI h' sb,rfl,q⟩⟩
theorem Fz{X:Cx}{N:List Str}{pick:List (Option Nat)}{elt tg iter:Expr}{ifs:List Expr}{scope:Scope}{pos spos:Pos}{wi:TI}{g:TG}{tc:TT}{te:TE}{i:Nat}{y:Str}{py:Pos}(hc:X.calm=true)
  (hs:scopeOk X.env.scope.names scope.names=true) (hp:A2 X.N scope.names N pick=true) (hk:scope.kind=.function) (hi:PI X tg iter wi)
  (hg:∀C s H fp pins,PG (Xl X N scope C s H fp pins) tg g) (ht:∀C s H fp pins,PTs (Xl X N scope C s H fp pins) ifs tc) (he:∀C s H fp pins,PE (Xl X N scope C s H fp pins) elt te)
  (hN:X.N.Nodup) (hy:X.N[i]?=some y) (hx:Loc X.env.scope y) (hsw:swapsWith (.ListComp elt [⟨tg,iter,ifs,0⟩] scope pos) (some (.Name y py)) spos.line X.env=pure true) (hf:X.fn y=true\/X.env.scope.names.lookup y=some .local)
  (hfs:∀x,foldedSetIterable iter X.env x=pure x:=by intro _;rfl):PS X (.Assign [.Name y py] (.ListComp elt [⟨tg,iter,ifs,0⟩] scope pos) spos) (tAsg (Ex pick wi g tc te) (Gg i)):=by
 intro pins s σ H D I h
 rw[exec_Assign_Name_used _ _ _ _ hsw]
 refine wpAny_bind (wpAny_standAt (wpAny_bind ?_))
 show wpAny _ X.A (do let _ ← comprehension (.ListComp elt [⟨tg,iter,ifs,0⟩] scope pos) scope X.env _ (newList []) false (eval iter X.env) (some (assign (.Name y py) X.env))) _ _ s
 refine wpAny_bind (wpAny_mono (Jd (Q':=fun _ s'=>∃ σ' H',Inv X pins σ' H' s'/\D.nx σ' H') hc hs hp hk hi hg ht he hfs I h fun L C Hx s4 hn hI nC nL sz cs ps q=>?_) (fun _ s' hq=>wpAny_pure (wpAny_pure hq)) fun _ _ e=>e)
 obtain⟨m,hn⟩:=hn
 have I4:Inv X pins σ Hx s4:=hI s4.heap ⟨rfl,fun _ _=>rfl⟩
 show wpAny _ X.A (assign (.Name y py) X.env (.ref L)) _ _ s4
 refine wpAny_assign_Name (Gs I4 hN hy hx (v:=.ref L) rfl (fun s5 I5 ⟨a,sb,ha⟩=>?_) hf)
 have na:C≠a:=by
  rcases ha with rfl|ha
  ·exact nL
  ·exact fun z=>cs y a ha z.symm
 refine⟨m,hn.sameBut sb na,fun h' sb'=>⟨_,_,I5.turned (t':=s5.toks) (it:=C) (fun b o hb e=>sb'.extBut b o hb e) nC nL (.inr sz) cs ps,q⟩⟩
end L2
end
section
namespace L2
open PySem PySem.Spec PyProof.Rows
section
variable{X:Cx}
def Its(x:Str):It:=⟨fun i _=>i<x.cps.size,fun i H v H'=>H'=H/\∃c,x.cps[i]?=some c/\v=.str ⟨#[c]⟩,fun i _=>i=x.cps.size⟩
theorem Zw{M:Model}{A:Around}{E:Value->Shared->Prop}{s:Shared}{tg:Expr}{it:Addr}{x:Str}{t:Tok}{Q:Unit->Shared->Prop}(hQ:Q () s):wpAny M A (letOwnedTupleGo tg (.ref it) (.str x t)) Q E s:=by
 unfold letOwnedTupleGo
 cases tg <;> exact wpAny_pure hQ
theorem Jb{P:Program}{w:World}{K:PySem.W.Frag}{tg:Expr}{it:Addr}{x:Str}{t:Tok}{nm:String}
  (W:∀A':Around,A'.handled=none->Walks P w A' it [it] [it] x.cps.size (SignAt x) (fun i h=>h.IsStrIter it nm x t i))
  (hself:∀(A:Around) (i:Nat) (s:Shared) (Q:Value->Shared->Prop) (E:Value->Shared->Prop),s.heap.IsStrIter it nm x t i->Q (.ref it) s->wpAny (model P w) A (pyIter (.ref it)) Q E s):Turn P w K tg (Its x) [it] it (fun i h=>h.IsStrIter it nm x t i) where
 mem:=by simp
 obj:=fun i h st b hb=>by
  have e:b=it:=by simpa using hb
  subst e
  obtain⟨o,e,c,d⟩:=st
  exact⟨o,e,fun v z=>by rw[d] at z;cases z⟩
 keep:=fun i h h' st k=>by
  obtain⟨o,e,r⟩:=st
  exact⟨o,k it (by simp) o e,r⟩
 item:=by
  intro X hP hw hK hc i pins s σ H E I hf st hg
  subst hP hw hK
  obtain⟨f0,f1,f2,f3,f4,f5⟩:=hf it (by simp)
  refine(W X.A (I.ok.hd hc)).item i s _ _ hg st fun v h' tk hv st' kk=>?_
  obtain⟨c,u,hcu,rfl⟩:=hv
  have I1:Inv X pins σ H { s with heap:=h',toks:=tk }:=I.turned (fun b o hb e=>kk b o (by simpa using hb) e) f0 f1 f3 f4 f5
  exact⟨_,rfl,Zw ⟨.str ⟨#[c]⟩,H,I1,⟨u,rfl⟩,⟨rfl,c,hcu,rfl⟩,st',fun b hb=>(hf b hb).1⟩⟩
 done:=by
  intro X hP hw hK hc i pins s σ H E I hf st hg
  subst hP hw hK
  obtain⟨f0,f1,f2,f3,f4,f5⟩:=hf it (by simp)
  have hg:i=x.cps.size:=hg
  subst hg
  refine(W X.A (I.ok.hd hc)).done s _ _ st fun h' tk kk=>⟨rfl,I.turned (fun b o hb e=>kk b o (by simpa using hb) e) f0 f1 f3 f4 f5⟩
 self:=hself
def iAny(K:PySem.W.Frag)(tl:TE):TI:=fun σ H R=>tl σ H fun x H1=>(∃a,x=.ref a/\(((∃xs,SqL K H1 a xs)/\R (Itl K a) H1)\/((∃xs,SqT K H1 a xs)/\R (Itt K a) H1)))\/∃z,x=.str z/\R (Its z) H1
theorem Ou{tg iter:Expr}{tl:TE}(hl:PE X iter tl):PI X tg iter (iAny X.K tl):=by
 intro pins s σ H R I h
 refine thn (hl pins s σ H _ I h) fun v s1 hv=>?_
 obtain⟨x,H1,I1,r1,q1⟩:=hv
 have fresh:∀b∈[s1.heap.objs.size],FpOk X pins H1 b:=fun b hb=>by rw[List.mem_singleton.mp hb];exact I1.fpOk (Nat.le_refl _) (I1.hok.fresh (Nat.le_refl _))
 rcases q1 with⟨l,e,q⟩|⟨z,e,q⟩
 ·subst e
  cases r1
  rcases q with⟨⟨xs,hq⟩,q⟩|⟨⟨xs,hq⟩,q⟩
  ·obtain⟨its,rv,p,hz⟩:=I1.list hq
   exact wpAny_pyIter_list p.isList ⟨s1.heap.objs.size,[s1.heap.objs.size],_,_,H1,rfl,I1.kept (t':=s1.toks) (fun b o e=>Heap.get?_push_of_some _ e),Go l _,⟨_,Heap.get?_push_size _ rfl,rfl,rfl⟩,fresh,q⟩
  ·obtain⟨its,rv,p,hz⟩:=I1.tuple hq
   exact wpAny_pyIter_tuple (show s1.heap.IsTuple l its.toArray from p) ⟨s1.heap.objs.size,[s1.heap.objs.size],_,_,H1,rfl,I1.kept (t':=s1.toks) (fun b o e=>Heap.get?_push_of_some _ e),Fq l _,⟨_,Heap.get?_push_size _ rfl,rfl,rfl⟩,fresh,q⟩
 ·subst e
  obtain⟨t,rfl⟩:=r1
  cases ha:z.cps.all (·<128)
  ·exact wpAny_pyIter_wide ha ⟨s1.heap.objs.size,[s1.heap.objs.size],_,_,H1,rfl,I1.kept (t':=s1.toks) (fun b o e=>Heap.get?_push_of_some _ e),Jb (x:=z) (t:=t) (fun A' hA=>Walks.strWide hA _ z t) (fun _ _ _ _ _ st h=>wpAny_pyIter_striter_wide st h),⟨_,Heap.get?_push_size _ rfl,rfl,rfl⟩,fresh,q⟩
  ·exact wpAny_pyIter_ascii ha ⟨s1.heap.objs.size,[s1.heap.objs.size],_,_,H1,rfl,I1.kept (t':=s1.toks) (fun b o e=>Heap.get?_push_of_some _ e),Jb (x:=z) (t:=t) (fun A' hA=>Walks.strAscii hA _ z t) (fun _ _ _ _ _ st h=>wpAny_pyIter_striter_ascii st h),⟨_,Heap.get?_push_size _ rfl,rfl,rfl⟩,fresh,q⟩
theorem En:OpR X (compareOp .LtE) (fun x y H Q=>∃i j,x=.str i/\y=.str j/\Q (.bl (!decide (j.cps.toList<i.cps.toList))) H):=by
 rintro pins s σ H x y v u Q I rx ry ⟨i,j,rfl,rfl,q⟩
 obtain⟨t,rfl⟩:=rx
 obtain⟨t',rfl⟩:=ry
 exact PySem.P.le_str ⟨.bl _,H,I,rfl,q⟩
def rSlS:V->Option Int->Option Int->Hp->VK->Prop:=fun x lo hi H Q=>∃z,x=.str z/\z.length<=sizeLine/\Q (.str (Txt.slice z lo hi)) H
theorem Yy:SlR X rSlS:=by
 intro pins s σ H x v vl vu lo hi sl Q I rx hs pl pu h
 obtain⟨z,rfl,hz,q⟩:=h
 obtain⟨t,rfl⟩:=rx
 have fin:∀t' k,EP X pins σ Q (.str (Txt.slice z lo hi) t') { s with toks:=k }:=fun t' k=>⟨.str _,H,I.tok k,⟨_,rfl⟩,q⟩
 refine⟨"str",_,F.slot_str_getitem.lookup,typeIs_str _ _ _,?_⟩
 cases pl with
 |none =>
  cases pu with
  |none=>exact wpAny_getItem_str_slice (l:=none) (u:=none) (st:=none) hs rfl (post_val_or_str ⟨Nat.le_trans (Txt.slice_le z _ _) hz,fin⟩)
  |int j uj=>exact wpAny_getItem_str_slice (l:=none) (u:=some (j,uj)) (st:=none) hs rfl (post_val_or_str ⟨Nat.le_trans (Txt.slice_le z _ _) hz,fin⟩)
 |int i ui =>
  cases pu with
  |none=>exact wpAny_getItem_str_slice (l:=some (i,ui)) (u:=none) (st:=none) hs rfl (post_val_or_str ⟨Nat.le_trans (Txt.slice_le z _ _) hz,fin⟩)
  |int j uj=>exact wpAny_getItem_str_slice (l:=some (i,ui)) (u:=some (j,uj)) (st:=none) hs rfl (post_val_or_str ⟨Nat.le_trans (Txt.slice_le z _ _) hz,fin⟩)
end
end L2
end
section
namespace L2
open PySem PySem.Spec PyProof.Rows
section
variable{X:Cx}{pins:List (Addr×Obj)}{σ:St}{H:Hp}{s:Shared}{h':Heap}
theorem Inv.turns{t':Nat}{ch:List Addr}(I:Inv X pins σ H s)(k:∀b o,b ∉ ch->s.heap.get? b=some o->h'.get? b=some o)(hf:∀b∈ch,FpOk X pins H b):Inv X pins σ H { s with heap:=h',toks:=t' }:=by
 have nch:∀b u,H b=some u->b ∉ ch:=fun b u e z=>by rw[(hf b z).1] at e;cases e
 refine I.step (g':=s.gens) (d':=s.drawn) (ch:=ch) (fun b hb=>⟨(hf b hb).2.2.2.1,(hf b hb).2.1,(hf b hb).2.2.2.2.1,(hf b hb).2.2.2.2.2⟩) (fun b o _ _ hc e _=>k b o hc e) (fun b o _ _ hc e _=>⟨o.slots,k b o hc e⟩) (fun _ _ _ _ n=>n)
  (fun b o hc e=>⟨o,k b o hc e⟩) (fun _ _ e=>e) (fun _ _ _ e=>e) (fun b ps e=>⟨#[],by rw[e];simp⟩) (fun m hm=>?_) (fun b u e=>?_) I.bare
 ·obtain⟨o,es,ep,ho,r⟩:=hm
  exact⟨o,es,ep,k _ o (fun z=>(hf _ z).2.1 rfl) ho,r⟩
 ·refine(I.hok b u e).stay (fun c v hc q=>k c v ?_ q) (fun _ q=>q) fun _ _ q=>q
  rcases hc with z|z
  ·rw[z];exact nch b u e
  ·exact nch c _ z
theorem Inv.track{a:Addr}{o:HO}(I:Inv X pins σ H s)(f:FpOk X pins H a)(new:ObjOk X.prog X.w (upd H a o) s.heap a o):Inv X pins σ (upd H a o) s:=by
 obtain⟨f0,f1,f2,f3,f4,f5⟩:=f
 have nb:∀b ob,X.s₀.heap.get? b=some ob->b ∉ X.ex->b≠a:=fun b ob e hx z=>by
  subst z
  rcases f3 with q|q
  ·exact hx q
  ·exact absurd (Nat.lt_of_lt_of_le (Heap.lt_size e) q) (Nat.lt_irrefl _)
 refine⟨I.ok,I.os,I.bare,⟨I.base.keep,I.base.slot,fun b ob e n hx=>?_,I.base.there,fun b xs e=>?_,fun b ob u e=>?_,fun b ps e=>?_⟩,I.loc,I.cell,?_,fun x c e=>?_,fun p hp=>?_,I.hok.track f0 new,I.len⟩
 ·rw[Xc (nb b ob e hx)];exact I.base.free b ob e n hx
 ·have q:=I.base.tups b xs e;rw[Xc (Xa q f0)];exact q
 ·have q:=I.base.frzs b ob u e;rw[Xc (Xa q f0)];exact q
 ·obtain⟨more,q⟩:=I.base.tbls b ps e
  exact⟨more,by rw[Xc (Xa q f0)];exact q⟩
 ·rw[Xc (Ne.symm f1)];exact I.free
 ·rw[Xc (f4 x c e)];exact I.freeC x c e
 ·obtain⟨a1,a2,a3⟩:=I.pin p hp
  exact⟨a1,by rw[Xc (f5 p hp)];exact a2,a3⟩
end
section
variable{prog:Program}{w:World}{A:Around}{E:Value->Shared->Prop}{s:Shared}
theorem Au{it t:Addr}{i:Nat}{items:Array Value}{x:Value}{Q:Value->Shared->Prop}(hit:s.heap.IsTupleIter it t i)(ht:s.heap.IsTuple t items)(hx:items[i]?=some x)
  (hQ:∀g,g.IsTupleIter it t (i+1)->Heap.SameBut it s.heap g->Q x { s with heap:=g }):wpAny (model prog w) A (Builtin.SmallTypes.nextOf (.ref it)) Q E s:=by
 obtain⟨o,ho,hc,hd⟩:=id hit
 obtain⟨ol,hol,_,nl,hdl⟩:=ht
 unfold Builtin.SmallTypes.nextOf
 refine wpAny_bind (wpAny_callSpecial?_slot (name:=Str.ofString "__next__") hit.typeIs F.slot_tuple_iterator_next (wpAny_call_entry F.slot_tuple_iterator_next hit.typeIs F.entry_tuple_iterator_next ?_ (F.args_tuple_iterator_next_1 _)))
 show wpAny _ _ (field (.ref it) 0 >>= _) _ _ s
 refine wpAny_bind (wpAny_field ho hd (x:=.ref t) rfl ?_)
 show wpAny (model prog w) _ (if (Value.ref t==Value.none)=true then _ else _) _ _ s
 rw[if_neg (show ¬ ((Value.ref t==Value.none)=true) from Bool.false_ne_true)]
 show wpAny _ _ (field (.ref it) 1 >>= _) _ _ s
 refine wpAny_bind (wpAny_field ho hd (x:=.int i 0) rfl ?_)
 show wpAny _ _ (seqItems? (.ref t) >>= _) _ _ s
 refine wpAny_bind (wpAny_seqItems hol hdl ?_)
 simp only[Int.toNat_natCast,hx]
 refine wpAny_bind (wpAny_setField ho hd (by simp) (wpAny_pure ⟨x,rfl,wpAny_pure (hQ _ ?_ (Heap.SameBut.update ..))⟩))
 refine⟨_,Heap.get?_update_self _ ho (Obj.isFreed_of_fields (Obj.data_mapFields hd _)),(Obj.cls_mapFields ..).trans hc,?_⟩
 rw[Obj.data_mapFields hd]
 simp[rawInt]
theorem Cn{it t:Addr}{i:Nat}{items:Array Value}{Q:Value->Shared->Prop}(hh:A.handled=none)(hit:s.heap.IsTupleIter it t i)(ht:s.heap.IsTuple t items)(hx:items[i]?=none)
  (hE:∀g e,Heap.ExtBut it s.heap g->(∃o,g.get? e=some o/\o.cls=.type "StopIteration")->E (.ref e) { s with heap:=g }):wpAny (model prog w) A (Builtin.SmallTypes.nextOf (.ref it)) Q E s:=by
 obtain⟨o,ho,hc,hd⟩:=id hit
 obtain⟨ol,hol,_,nl,hdl⟩:=ht
 unfold Builtin.SmallTypes.nextOf
 refine wpAny_bind (wpAny_callSpecial?_slot (name:=Str.ofString "__next__") hit.typeIs F.slot_tuple_iterator_next (wpAny_call_entry F.slot_tuple_iterator_next hit.typeIs F.entry_tuple_iterator_next ?_ (F.args_tuple_iterator_next_1 _)))
 show wpAny _ _ (field (.ref it) 0 >>= _) _ _ s
 refine wpAny_bind (wpAny_field ho hd (x:=.ref t) rfl ?_)
 show wpAny (model prog w) _ (if (Value.ref t==Value.none)=true then _ else _) _ _ s
 rw[if_neg (show ¬ ((Value.ref t==Value.none)=true) from Bool.false_ne_true)]
 show wpAny _ _ (field (.ref it) 1 >>= _) _ _ s
 refine wpAny_bind (wpAny_field ho hd (x:=.int i 0) rfl ?_)
 show wpAny _ _ (seqItems? (.ref t) >>= _) _ _ s
 refine wpAny_bind (wpAny_seqItems hol hdl ?_)
 simp only[Int.toNat_natCast,hx]
 refine wpAny_bind (wpAny_rule (wpAny_bind (wpAny_setField ho hd (by simp) ?_)))
 show wpAny _ _ (newExc (.type "StopIteration") [] >>= _) _ _ _
 refine wpAny_bind ?_
 simp only[newExc,newTuple]
 refine wpAny_bind (wpAny_newObj_type ?_ (by size_fits))
 refine wpAny_bind (m:=firstArgMember _ _) (wpAny_of_eq (a:=Value.none) (by first|rfl|(simp only[firstArgMember];rfl)) ?_)
 refine wpAny_newObj_type ?_ (by size_fits)
 simp only[raiseNew]
 refine wpAny_bind (wpAny_handled ?_)
 first|rw[show A.in1.handled=none from hh]|rw[hh]
 refine wpAny_bind (wpAny_pure (wpAny_throw ?_))
 exact hE _ _ (((Heap.SameBut.update ..).extBut.push _).push _) ⟨_,Heap.get?_push_size _ rfl,rfl⟩
end
end L2
end
section
namespace L2
open PySem PySem.Spec PyProof.Rows
section
variable{prog:Program}{w:World}{A:Around}{E:Value->Shared->Prop}{s:Shared}
structure ZipT(h:Heap)(z ti to i1 i2 t1 t2:Addr)(i:Nat):Prop where
 z:IsZip h z ti to .none
 ti:IsPair h ti (.ref i1) (.ref i2)
 to:∃a b,IsPair h to a b
 i1:h.IsTupleIter i1 t1 i
 i2:h.IsTupleIter i2 t2 i
abbrev ztH1(h:Heap)(l1:Addr):Heap:=h.push { cls:=.type "tuple_iterator",data:=.fields #[.ref l1,.int 0 0] }
abbrev ztH2(h:Heap)(l1 l2:Addr):Heap:=(ztH1 h l1).push { cls:=.type "tuple_iterator",data:=.fields #[.ref l2,.int 0 0] }
abbrev ztH3(h:Heap)(l1 l2:Addr):Heap:=(ztH2 h l1 l2).push { cls:=.type "tuple",data:=.seq #[.ref h.objs.size,.ref (ztH1 h l1).objs.size] }
abbrev ztH4(h:Heap)(l1 l2:Addr):Heap:=(ztH3 h l1 l2).push { cls:=.type "tuple",data:=.seq #[.none,.none] }
abbrev Mq(h:Heap)(l1 l2:Addr):Heap:=(ztH4 h l1 l2).push { cls:=.type "zip",data:=.fields #[.none,.bool false,.bool false,.ref (ztH2 h l1 l2).objs.size,.ref (ztH3 h l1 l2).objs.size] }
theorem Jt(l1 l2:Addr)(xs ys:Array Value):Meets (Builtin.«zip.__new__» ⟨[.type "zip",.ref l1,.ref l2],[]⟩) (fun _ R s=>s.heap.IsTuple l1 xs/\s.heap.IsTuple l2 ys/\R (.ok (.ret (.ref (ztH4 s.heap l1 l2).objs.size))) { s with heap:=Mq s.heap l1 l2 }) :=
 .of_wp fun prog w A R s h=>by
  obtain⟨hp,g,d,tk,os⟩:=s;obtain⟨q1,q2,h⟩:=h
  have hsub:=sub_zip
  have L1:Heap.IsTuple (Shared.heap ⟨hp,g,d,tk,os⟩) l1 xs:=q1
  have L2:Heap.IsTuple (Shared.heap ⟨hp.push { cls:=.type "tuple_iterator",data:=.fields #[.ref l1,.int 0 0] },g,d,tk,os⟩) l2 ys:=Heap.IsTuple.push q2 _
  wp_walk using wpAny_pyIter_tuple L1,wpAny_pyIter_tuple L2
  exact⟨_,rfl,h⟩
theorem Ol{l1 l2:Addr}{xs ys:Array Value}{Q:Value->Shared->Prop}(q1:s.heap.IsTuple l1 xs)(q2:s.heap.IsTuple l2 ys)
  (h:∀g,ZipT g (s.heap.objs.size+4) (s.heap.objs.size+2) (s.heap.objs.size+3) s.heap.objs.size (s.heap.objs.size+1) l1 l2 0->(∀c o,s.heap.get? c=some o->g.get? c=some o)->Q (.ref (s.heap.objs.size+4)) { s with heap:=g }) :
  wpAny (model prog w) A (call (.type "zip") [.ref l1,.ref l2]) Q E s:=by
 refine callType_new F.called_zip (by decide) (F.typeCall_zip_2 _ _) (F.newCall_zip_2 _ _) (fun obj=>F.args_object_init_3 obj _ _) F.entry_zip_new (Jt l1 l2 xs ys) ⟨q1,q2,?_⟩
 have z1:(ztH1 s.heap l1).objs.size=s.heap.objs.size+1:=Heap.size_push ..
 have z2:(ztH2 s.heap l1 l2).objs.size=s.heap.objs.size+2:=by rw[Heap.size_push,z1]
 have z3:(ztH3 s.heap l1 l2).objs.size=s.heap.objs.size+3:=by rw[Heap.size_push,z2]
 have z4:(ztH4 s.heap l1 l2).objs.size=s.heap.objs.size+4:=by rw[Heap.size_push,z3]
 have g5:(Mq s.heap l1 l2).get? (ztH4 s.heap l1 l2).objs.size=some _:=Heap.get?_push_size _ rfl
 have g4:(Mq s.heap l1 l2).get? (ztH3 s.heap l1 l2).objs.size=some _:=Heap.get?_push_of_some _ (Heap.get?_push_size _ rfl)
 have g3:(Mq s.heap l1 l2).get? (ztH2 s.heap l1 l2).objs.size=some _:=Heap.get?_push_of_some _ (Heap.get?_push_of_some _ (Heap.get?_push_size _ rfl))
 have g2:(Mq s.heap l1 l2).get? (ztH1 s.heap l1).objs.size=some _:=Heap.get?_push_of_some _ (Heap.get?_push_of_some _ (Heap.get?_push_of_some _ (Heap.get?_push_size _ rfl)))
 have g1:(Mq s.heap l1 l2).get? s.heap.objs.size=some _:=Heap.get?_push_of_some _ (Heap.get?_push_of_some _ (Heap.get?_push_of_some _ (Heap.get?_push_of_some _ (Heap.get?_push_size _ rfl))))
 show _/\_
 rw[z2,z3,z4] at g5
 rw[z1,z2] at g3
 rw[z3] at g4
 rw[z1] at g2
 rw[z4]
 exact⟨⟨_,g5,rfl⟩,h _ ⟨g5,g3,⟨_,_,g4⟩,⟨_,g1,rfl,rfl⟩,⟨_,g2,rfl,rfl⟩⟩ fun c o q=>Heap.get?_push_of_some _ (Heap.get?_push_of_some _ (Heap.get?_push_of_some _ (Heap.get?_push_of_some _ (Heap.get?_push_of_some _ q))))⟩
end
end L2
end
section
namespace L2
open PySem PySem.Spec PyProof.Rows
theorem Cw{h h':Heap}{j t:Addr}{k:Nat}(q:h.IsTupleIter j t k)(e:∀o,h.get? j=some o->h'.get? j=some o):h'.IsTupleIter j t k:=by
 obtain⟨o,q,r⟩:=q
 exact⟨o,e o q,r⟩
end L2
end
section
namespace L2
open PySem PySem.Spec PyProof.Rows
section
variable{X:Cx}
theorem Z5{pins:List (Addr×Obj)}{σ:St}{H:Hp}{s:Shared}{x:V}{u t:Value}(I:Inv X pins σ H s)(rx:RelV x u)(ty:TyOf X.K H x t):∃Hh:Heap->Prop,PySem.W.KitX X.K u t Hh/\Hh s.heap/\u≠.builtin "__main__.__loader__#opaque":=by
 cases ty with
 |non=>cases (show u=Value.none from rx);exact⟨_,PySem.W.kitx_none,True.intro,fun z=>nomatch z⟩
 |bl y=>cases (show u=Value.bool y from rx);exact⟨_,PySem.W.kitx_bool,True.intro,fun z=>nomatch z⟩
 |int i=>obtain⟨t,q⟩:=(show ∃t,u=Value.int i t from rx);cases q;exact⟨_,PySem.W.kitx_int,True.intro,fun z=>nomatch z⟩
 |str y=>obtain⟨t,q⟩:=(show ∃t,u=Value.str y t from rx);cases q;exact⟨_,PySem.W.kitx_str,True.intro,fun z=>nomatch z⟩
 |flt y=>obtain⟨t,q⟩:=(show ∃t,u=Value.float y t from rx);cases q;exact⟨_,PySem.W.kitx_float,True.intro,fun z=>nomatch z⟩
 | @lst a xs ea =>
  cases (show u=Value.ref a from rx)
  obtain⟨_,_,n,_,h1⟩:=(show ObjOk X.prog X.w H s.heap a (.lst xs) from I.hok a _ ea)
  exact⟨_,PySem.W.kitx_list,⟨_,h1,rfl⟩,fun z=>nomatch z⟩
 | @frz a ob xs ea =>
  cases (show u=Value.ref a from rx)
  obtain⟨_,_,_,n,_,h1⟩:=(show ObjOk X.prog X.w H s.heap a (.frz ob (.lst xs)) from I.hok a _ ea)
  exact⟨_,PySem.W.kitx_list,⟨_,h1,rfl⟩,fun z=>nomatch z⟩
 | @tup a xs ea =>
  cases (show u=Value.ref a from rx)
  obtain⟨_,_,_,p⟩:=(show ObjOk X.prog X.w H s.heap a (.tup xs) from I.hok a _ ea)
  obtain⟨o,h1,h2,_⟩:=p
  exact⟨_,PySem.W.kitx_tuple,⟨o,h1,h2⟩,fun z=>nomatch z⟩
 | @dK a kvs ea =>
  cases (show u=Value.ref a from rx)
  obtain⟨_,_,vs,_,p⟩:=(show ObjOk X.prog X.w H s.heap a (.dK kvs) from I.hok a _ ea)
  obtain⟨o,es,ep,h1,h2,_⟩:=p
  exact⟨_,PySem.W.kitx_dict,⟨o,h1,h2.1⟩,fun z=>nomatch z⟩
 | @dT a kvs ea =>
  cases (show u=Value.ref a from rx)
  obtain⟨_,_,xs,_,o,es,ep,h1,h2,_⟩:=(show ObjOk X.prog X.w H s.heap a (.dT kvs) from I.hok a _ ea)
  exact⟨_,PySem.W.kitx_dict,⟨o,h1,h2.1⟩,fun z=>nomatch z⟩
 | @ins a C dx fs ea cl ha hn htk hm =>
  cases (show u=Value.ref a from rx)
  obtain⟨mA,O,_⟩:=Fa I.hok ea
  obtain⟨od,J,_⟩:=O.look
  exact⟨_,PySem.W.kitx_own (cl.get _) cl.hd ha hn htk hm,J,fun z=>nomatch z⟩
def TyV(K:PySem.W.Frag)(H:Hp)(x:V)(t:Value):Prop:=TyOf K H x t\/(t=.type "tuple"/\∃a o,x=.ref a/\K.lookup a=some o/\o.cls=.type "tuple")
theorem Li{pins:List (Addr×Obj)}{σ:St}{H:Hp}{s:Shared}{x:V}{u t:Value}(I:Inv X pins σ H s)(rx:RelV x u)(ty:TyV X.K H x t):∃Hh:Heap->Prop,PySem.W.KitX X.K u t Hh/\Hh s.heap/\u≠.builtin "__main__.__loader__#opaque":=by
 rcases ty with ty|⟨rfl,a,o,rfl,hk,hc⟩
 ·exact Z5 I rx ty
 ·cases (show u=Value.ref a from rx)
  exact⟨_,PySem.W.kitx_tuple,⟨o,I.kIn a o hk,hc⟩,fun z=>nomatch z⟩
def rIsi(K:PySem.W.Frag):List V->Hp->VK->Prop:=fun xs H Q=>∃x t b,TyV K H x t/\((∃c,xs=[x,.ty c]/\PySem.W.kitOne K t (.type c)=some b)\/∃p c d,xs=[x,.ref p]/\SqT K H p [.ty c,.ty d]/\PySem.W.kitAny K t [.type c,.type d]=some b)/\Q (.bl b) H
theorem Gu:CallR X (.builtin "isinstance") (rIsi X.K):=by
 intro pins s σ H xs us Q I r h
 obtain⟨x,t,b,ty,h,q⟩:=h
 have fin:∀tk,EP X pins σ Q (.bool b) { s with toks:=tk }:=fun tk=>⟨.bl b,H,I.tok tk,rfl,q⟩
 rcases h with⟨c,rfl,e⟩|⟨p,c,d,rfl,hp,e⟩
 ·obtain⟨u,u2,rfl,r1,r2⟩:=P5 r
  cases (show u2=Value.type c from r2)
  obtain⟨Hh,Z,hh,hne⟩:=Li I r1 ty
  exact PySem.W.kia_one Z I.kIn hh e hne fin
 ·obtain⟨u,u2,rfl,r1,r2⟩:=P5 r
  cases (show u2=Value.ref p from r2)
  obtain⟨Hh,Z,hh,hne⟩:=Li I r1 ty
  obtain⟨its,rv,pt,_⟩:=I.tuple hp
  obtain⟨u,w',rfl,ru,rw'⟩:=rv.two
  cases (show u=Value.type c from ru)
  cases (show w'=Value.type d from rw')
  obtain⟨⟨cls,dd,data,sl⟩,ho,hc,n,hd⟩:=pt
  simp only at hc hd
  subst hc hd
  exact PySem.W.kia_tup Z I.kIn hh ho e hne fin
def rCatU(K:PySem.W.Frag):R2:=fun x y H Q=>∃a b xs ys,x=.ref a/\y=.ref b/\SqT K H a xs/\SqT K H b ys/\xs.length+ys.length<=sizeLine ∧
 (xs=[]->Q (.ref b) H)/\(xs≠[]->ys=[]->Q (.ref a) H)/\(xs≠[]->ys≠[]->∀p,H p=none->Q (.ref p) (upd H p (.tup (xs++ys))))
theorem Tj:OpR X (binaryOp .Add) (rCatU X.K):=by
 intro pins s σ H x y v u Q I rx ry h
 obtain⟨a,b,xs,ys,rfl,rfl,ha,hb,hz,q0,q1,q2⟩:=h
 by_cases hx:xs=[]
 ·subst hx
  cases rx
  cases ry
  obtain⟨its,r1,p1,_⟩:=I.tuple ha
  obtain⟨its2,r2,p2,_⟩:=I.tuple hb
  obtain⟨⟨cls,dd,data,sl⟩,ho,hc,n,hd⟩:=p1
  obtain⟨⟨cls2,dd2,data2,sl2⟩,ho2,hc2,n2,hd2⟩:=p2
  simp only at hc hd hc2 hd2
  subst hc hd hc2 hd2
  exact concat_meets ⟨_,ho,rfl⟩ ⟨_,ho2,rfl⟩ noFill_tuple_add seq_tuple_add PySem.F.slot_tuple_add PySem.F.entry_tuple_add (PySem.F.args_tuple_add_2 _ _)
   (tuple_addW0 a b its.toArray its2.toArray n n2 dd dd2 sl sl2 (by rw[r1.nil_iff.mpr rfl];rfl)) ⟨ho,ho2,⟨.ref b,H,I,rfl,q0 rfl⟩⟩
 ·exact T6 pins s σ H _ _ v u Q I rx ry ⟨a,b,xs,ys,rfl,rfl,ha,hb,hx,hz,fun e=>q1 hx e,fun e=>q2 hx e⟩
theorem Vals.pick{xs:List V}{us:List Value}(r:Vals xs us):∀ix:List Nat,Vals (ix.filterMap fun (i:Nat)=>xs[i]?) (ix.filterMap fun (i:Nat)=>us[i]?)
 |[]=>.nil
 |i::ix=>by
  cases e:xs[i]? with
  |none=>simp only[List.filterMap_cons,e,r.none_of e];exact Vals.pick r ix
  |some x =>
   obtain⟨u,hu,ru⟩:=r.get e
   simp only[List.filterMap_cons,e,hu]
   exact .cons ru (Vals.pick r ix)
theorem R8{α:Type}{xs:List α}{ix:List Nat}{y:α}(h:y∈ix.filterMap fun (i:Nat)=>xs[i]?):y∈xs:=by
 obtain⟨i,_,e⟩:=List.mem_filterMap.mp h
 exact List.mem_of_getElem? e
end
end L2
end
section
namespace L2
open PySem PySem.Spec PyProof.Rows
section
variable{X:Cx}
def rEqN(K:PySem.W.Frag)(neg:Bool):R2:=fun x y H Q=>∃a b xs,x=.ref a/\y=.ref b/\SqL K H a xs/\SqL K H b []/\Q (.bl (Bool.xor neg xs.isEmpty)) H
theorem Ow(hu:X.A.units<cLine):OpR X (compareOp .Eq) (rEqN X.K false):=by
 intro pins s σ H x y v u Q I rx ry h
 obtain⟨a,b,xs,rfl,rfl,ha,hb,q⟩:=h
 cases rx
 cases ry
 obtain⟨its,r1,p1,_⟩:=I.list ha
 obtain⟨its2,r2,p2,_⟩:=I.list hb
 have e2:its2=[]:=r2.nil_iff.mpr rfl
 subst e2
 by_cases hx:xs=[]
 ·subst hx
  have e1:its=[]:=r1.nil_iff.mpr rfl
  subst e1
  exact SeqAt.eq_listAt (e:=fun _=>true) p1.isList p2.isList rfl hu (fun j h1 _=>absurd h1 (by simp)) ⟨.bl true,H,I,rfl,q⟩
 ·have e1:its≠[]:=fun z=>hx (r1.nil_iff.mp z)
  have e:xs.isEmpty=false:=by cases xs with
   |nil=>exact absurd rfl hx
   |cons=>rfl
  refine SeqAt.eq_list_lengthsAt p1.isList p2.isList ?_ hu ⟨.bl false,H,I,rfl,by rw[e] at q;exact q⟩
  cases its with
  |nil=>exact absurd rfl e1
  |cons=>simp
theorem Wk(hu:X.A.units<cLine):OpR X (compareOp .NotEq) (rEqN X.K true):=by
 intro pins s σ H x y v u Q I rx ry h
 obtain⟨a,b,xs,rfl,rfl,ha,hb,q⟩:=h
 cases rx
 cases ry
 obtain⟨its,r1,p1,_⟩:=I.list ha
 obtain⟨its2,r2,p2,_⟩:=I.list hb
 have e2:its2=[]:=r2.nil_iff.mpr rfl
 subst e2
 by_cases hx:xs=[]
 ·subst hx
  have e1:its=[]:=r1.nil_iff.mpr rfl
  subst e1
  exact SeqAt.RcNeAt.lists (e:=fun _=>true) p1.isList p2.isList rfl hu (fun j h1 _=>absurd h1 (by simp)) X.prog X.w _ _ ⟨.bl false,H,I,rfl,q⟩
 ·have e1:its≠[]:=fun z=>hx (r1.nil_iff.mp z)
  have e:xs.isEmpty=false:=by cases xs with
   |nil=>exact absurd rfl hx
   |cons=>rfl
  refine SeqAt.RcNeAt.lists_lengths p1.isList p2.isList ?_ hu X.prog X.w _ _ ⟨.bl true,H,I,rfl,by rw[e] at q;exact q⟩
  cases its with
  |nil=>exact absurd rfl e1
  |cons=>simp
def KD(P:Program)(w:World)(K:PySem.W.Frag)(a:Addr)(kvs:List (Key×V)):Prop:=(a==sysModules)=false/\∃vs,KV kvs vs/\∀h:Heap,K.In h->h.DictOf (mixKind P w) a vs
def tKGet(kvs:List (Key×V))(ty:TE):TE:=fun σ H Q=>ty σ H fun y H1=>∃k,y=kV k/\Q ((valV kvs k).getD .non) H1
theorem Ub{x:Str}{a:Addr}{kvs:List (Key×V)}{e:Expr}{ty:TE}{p apos cpos:Pos}(hg:Gl X x)(hm:X.mg x=some (.ref a))(kd:KD X.prog X.w X.K a kvs)(he:PE X e ty)(m:M1 X (.Name x p) "get" apos e cpos)
  (hd:(x==("__debug__":Str))=false:=by decide):PE X (.Call (.Attribute (.Name x p) "get" apos) [e] [] cpos) (tKGet kvs ty):=by
 intro pins s σ H Q I h
 obtain⟨hsm,vs,rel,hdd⟩:=kd
 refine wpAny_Call_method m.base m.few m.line PySem.F.plainAttrs_dict PySem.F.slot_dict_get PySem.F.type_dict_get (Da I hg hm ?_ hd)
 have dd:=hdd s.heap I.kIn
 refine⟨dd.typeIs,fun b q=>?_,?_⟩
 ·cases q
  obtain⟨ob,_,_,h1,h2,_⟩:=dd
  exact⟨ob,h1,h2.2.1⟩
 rw[m.trees]
 refine Calls.callWith_builtin rfl (Calls.evalArgs_plain (Calls.spliced_cons (thn (he pins s σ H _ I h) fun iv s2 h2=>Calls.spliced_nil ?_)))
 obtain⟨y,H2,I2,ry,k,rfl,q2⟩:=h2
 have dd2:=hdd s2.heap I2.kIn
 refine call_meetsIn PySem.F.slot_dict_get dd2.typeIs PySem.F.entry_dict_get (PySem.F.args_dict_get_2 _ _) (meets_dict_get (mixKind X.prog X.w) a (Fy ry) hsm) ⟨_,dd2.mapOf,?_⟩
 exact⟨(valV kvs k).getD .non,H2,I2.tok _,RelO.getD (d:=V.non) (rel.val k) rfl,q2⟩
end
end L2
end
section
namespace TL
open PySem PySem.Spec PyProof.Rows L2
inductive T where
 |non|bl (b:Bool)|int (i:Int)|str (x:Str)|ty (n:String)
 |tup (ts:List T)|lst (ts:List T)|fls (ts:List T)|dct (kts:List (Key×T))|ref (a:Addr)
inductive Cell where
 |lst (ts:List T)|dct (kts:List (Key×T))|ins (C:Addr) (fs:List (Str×T))|tpl (ts:List T)|dtt (kts:List (List Key×T))
abbrev TH:=Addr->Option Cell
def updT(S:TH)(a:Addr)(c:Cell):TH:=fun b=>if b=a then some c else S b
theorem Zd{S:TH}{a:Addr}{c:Cell}:updT S a c a=some c:=by unfold updT;rw[if_pos rfl]
theorem Ab{S:TH}{a b:Addr}{c:Cell}(h:b≠a):updT S a c b=S b:=by unfold updT;rw[if_neg h]
def KL(K:PySem.W.Frag)(a:Addr)(vs:List V):Prop:=∃(o:Obj) (its:Array Value) (n:Nat),K.lookup a=some o/\o.cls=.type "list"/\o.dict=none/\o.data=.seq its n/\its.size<=sizeLine/\Vals vs its.toList
def KTu(K:PySem.W.Frag)(a:Addr)(vs:List V):Prop:=∃(o:Obj) (its:Array Value) (n:Nat),K.lookup a=some o/\o.cls=.type "tuple"/\o.data=.seq its n/\its.size<=sizeLine/\Vals vs its.toList/\o.dict=none
def FL(S:TH)(H:Hp)(a:Addr)(vs:List V):Prop:=S a=none/\H a=some (.lst vs)
def FX(K:PySem.W.Frag)(S:TH)(H:Hp)(a:Addr)(vs:List V):Prop:=(S a=none/\∃o,H a=some (.frz o (.lst vs)))\/KL K a vs
def FT(K:PySem.W.Frag)(S:TH)(H:Hp)(a:Addr)(vs:List V):Prop:=(S a=none/\H a=some (.tup vs))\/KTu K a vs
section
variable{K:PySem.W.Frag}{S S':TH}{H H':Hp}{a:Addr}{vs:List V}
theorem FL.sq(h:FL S H a vs):SqL K H a vs:=.inl (.inl h.2)
theorem FX.sq(h:FX K S H a vs):SqL K H a vs:=h.elim (fun z=>.inl (.inr z.2)) .inr
theorem FT.sq(h:FT K S H a vs):SqT K H a vs:=h.elim (fun z=>.inl (.inl z.2)) .inr
end
inductive Rep(K:PySem.W.Frag)(S:TH)(H:Hp):V->T->Prop where
 |non:Rep K S H .non .non
 |bl (b:Bool):Rep K S H (.bl b) (.bl b)
 |int (i:Int):Rep K S H (.int i) (.int i)
 |str (x:Str):Rep K S H (.str x) (.str x)
 |ty (n:String):Rep K S H (.ty n) (.ty n)
 |ref (a:Addr):Rep K S H (.ref a) (.ref a)
 |tup {a:Addr} {vs:List V} {ts:List T}:FT K S H a vs->vs.length=ts.length->(∀(i:Nat) v t,vs[i]?=some v->ts[i]?=some t->Rep K S H v t)->Rep K S H (.ref a) (.tup ts)
 |lst {a:Addr} {vs:List V} {ts:List T}:FL S H a vs->vs.length=ts.length->(∀(i:Nat) v t,vs[i]?=some v->ts[i]?=some t->Rep K S H v t)->Rep K S H (.ref a) (.lst ts)
 |fls {a:Addr} {vs:List V} {ts:List T}:FX K S H a vs->vs.length=ts.length->(∀(i:Nat) v t,vs[i]?=some v->ts[i]?=some t->Rep K S H v t)->Rep K S H (.ref a) (.fls ts)
 |dct {a:Addr} {kvs:List (Key×V)} {kts:List (Key×T)}:(S a=none/\H a=some (.dK kvs))->kvs.length=kts.length->(∀(i:Nat) v t,kvs[i]?=some v->kts[i]?=some t->v.1=t.1)->(∀(i:Nat) v t,kvs[i]?=some v->kts[i]?=some t->Rep K S H v.2 t.2)->Rep K S H (.ref a) (.dct kts)
def Reps(K:PySem.W.Frag)(S:TH)(H:Hp)(vs:List V)(ts:List T):Prop:=vs.length=ts.length/\∀(i:Nat) v t,vs[i]?=some v->ts[i]?=some t->Rep K S H v t
def RepK(K:PySem.W.Frag)(S:TH)(H:Hp)(kvs:List (Key×V))(kts:List (Key×T)):Prop:=kvs.length=kts.length/\∀(i:Nat) v t,kvs[i]?=some v->kts[i]?=some t->v.1=t.1/\Rep K S H v.2 t.2
def RepF(K:PySem.W.Frag)(S:TH)(H:Hp)(fvs:List (Str×V))(fts:List (Str×T)):Prop:=fvs.length=fts.length/\∀(i:Nat) v t,fvs[i]?=some v->fts[i]?=some t->v.1=t.1/\Rep K S H v.2 t.2
def RepQ(K:PySem.W.Frag)(S:TH)(H:Hp)(kvs:List (List Key×V))(kts:List (List Key×T)):Prop:=kvs.length=kts.length/\∀(i:Nat) v t,kvs[i]?=some v->kts[i]?=some t->v.1=t.1/\Rep K S H v.2 t.2
def Le(S:TH)(H:Hp)(S':TH)(H':Hp):Prop:=∀b o,S b=none->H b=some o->S' b=none/\H' b=some o
def CellOk(K:PySem.W.Frag)(S:TH)(H:Hp)(a:Addr):Cell->Prop
 | .lst ts=>∃vs,H a=some (.lst vs)/\Reps K S H vs ts
 | .dct kts=>∃kvs,H a=some (.dK kvs)/\RepK K S H kvs kts
 | .ins C fts=>∃dx fvs,H a=some (.ins C dx fvs)/\RepF K S H fvs fts
 | .tpl ts=>∃vs,H a=some (.tup vs)/\Reps K S H vs ts
 | .dtt kts=>∃kvs,H a=some (.dT kvs)/\RepQ K S H kvs kts
def Good(K:PySem.W.Frag)(S:TH)(H:Hp):Prop:=∀a c,S a=some c->CellOk K S H a c
section
variable{K:PySem.W.Frag}{S S' S'':TH}{H H' H'':Hp}{a:Addr}{v:V}{t:T}{vs ws:List V}{ts us:List T}
theorem Le.refl:Le S H S H:=fun _ _ n e=>⟨n,e⟩
theorem Le.trans(x:Le S H S' H')(y:Le S' H' S'' H''):Le S H S'' H'':=fun b o n e=>let ⟨n',e'⟩:=x b o n e;y b o n' e'
theorem FL.mono(le:Le S H S' H')(h:FL S H a vs):FL S' H' a vs:=le _ _ h.1 h.2
theorem FX.mono(le:Le S H S' H')(h:FX K S H a vs):FX K S' H' a vs:=h.elim (fun ⟨n,o,e⟩=>.inl ⟨(le _ _ n e).1,o,(le _ _ n e).2⟩) .inr
theorem FT.mono(le:Le S H S' H')(h:FT K S H a vs):FT K S' H' a vs:=h.elim (fun z=>.inl (le _ _ z.1 z.2)) .inr
theorem Rep.mono(le:Le S H S' H')(h:Rep K S H v t):Rep K S' H' v t:=by
 induction h with
 |non=>exact .non
 |bl b=>exact .bl b
 |int i=>exact .int i
 |str x=>exact .str x
 |ty n=>exact .ty n
 |ref a=>exact .ref a
 |tup f l _ ih=>exact .tup (f.mono le) l ih
 |lst f l _ ih=>exact .lst (f.mono le) l ih
 |fls f l _ ih=>exact .fls (f.mono le) l ih
 |dct f l r _ ih=>exact .dct (le _ _ f.1 f.2) l r ih
theorem Reps.mono(le:Le S H S' H')(h:Reps K S H vs ts):Reps K S' H' vs ts:=⟨h.1,fun i v t e1 e2=>(h.2 i v t e1 e2).mono le⟩
theorem RepK.mono{kvs:List (Key×V)}{kts:List (Key×T)}(le:Le S H S' H')(h:RepK K S H kvs kts):RepK K S' H' kvs kts:=⟨h.1,fun i v t e1 e2=>⟨(h.2 i v t e1 e2).1,(h.2 i v t e1 e2).2.mono le⟩⟩
theorem RepF.mono{fvs:List (Str×V)}{fts:List (Str×T)}(le:Le S H S' H')(h:RepF K S H fvs fts):RepF K S' H' fvs fts:=⟨h.1,fun i v t e1 e2=>⟨(h.2 i v t e1 e2).1,(h.2 i v t e1 e2).2.mono le⟩⟩
theorem Reps.nil:Reps K S H [] []:=⟨rfl,fun _ _ _ e=>by simp at e⟩
theorem Reps.cons(h:Rep K S H v t)(r:Reps K S H vs ts):Reps K S H (v::vs) (t::ts):=by
 refine⟨by simp only[List.length_cons,r.1],fun i v' t' e1 e2=>?_⟩
 cases i with
 |zero=>simp at e1 e2;subst e1;subst e2;exact h
 |succ i=>exact r.2 i v' t' (by simpa using e1) (by simpa using e2)
theorem Reps.head(h:Reps K S H (v::vs) (t::ts)):Rep K S H v t:=h.2 0 v t rfl rfl
theorem Reps.tail(h:Reps K S H (v::vs) (t::ts)):Reps K S H vs ts:=⟨by simpa using h.1,fun i v' t' e1 e2=>h.2 (i+1) v' t' (by simpa using e1) (by simpa using e2)⟩
theorem Reps.append:∀{vs:List V} {ts:List T},Reps K S H vs ts->Reps K S H ws us->Reps K S H (vs++ws) (ts++us)
 |[],[],_,r=>r
 |v::vs,t::ts,h,r=>Reps.cons h.head (Reps.append h.tail r)
 |[],_::_,h,_=>by have:=h.1;simp at this
 |_::_,[],h,_=>by have:=h.1;simp at this
theorem Reps.get{i:Nat}(h:Reps K S H vs ts)(e:ts[i]?=some t):∃v,vs[i]?=some v/\Rep K S H v t:=by
 have hi:i<ts.length:=(List.getElem?_eq_some_iff.mp e).1
 have hi':i<vs.length:=by rw[h.1];exact hi
 exact⟨vs[i],List.getElem?_eq_getElem hi',h.2 i _ t (List.getElem?_eq_getElem hi') e⟩
theorem Reps.get'{i:Nat}(h:Reps K S H vs ts)(e:vs[i]?=some v):∃t,ts[i]?=some t/\Rep K S H v t:=by
 have hi:i<vs.length:=(List.getElem?_eq_some_iff.mp e).1
 have hi':i<ts.length:=by rw[<-h.1];exact hi
 exact⟨ts[i],List.getElem?_eq_getElem hi',h.2 i v _ e (List.getElem?_eq_getElem hi')⟩
theorem Reps.drop(h:Reps K S H vs ts)(n:Nat):Reps K S H (vs.drop n) (ts.drop n) :=
 ⟨by simp only[List.length_drop,h.1],fun i v t e1 e2=>h.2 (n+i) v t (by simpa using e1) (by simpa using e2)⟩
theorem Reps.take(h:Reps K S H vs ts)(n:Nat):Reps K S H (vs.take n) (ts.take n):=by
 refine⟨by simp only[List.length_take,h.1],fun i v t e1 e2=>?_⟩
 by_cases hi:i<n
 ·rw[List.getElem?_take_of_lt hi] at e1 e2;exact h.2 i v t e1 e2
 ·rw[List.getElem?_take_eq_none (by omega)] at e1;cases e1
theorem Reps.set{i:Nat}(h:Reps K S H vs ts)(r:Rep K S H v t):Reps K S H (vs.set i v) (ts.set i t):=by
 refine⟨by simp only[List.length_set,h.1],fun j v' t' e1 e2=>?_⟩
 by_cases hj:i=j
 ·subst hj
  rw[List.getElem?_set] at e1 e2
  simp only[if_true] at e1 e2
  split at e1
  ·split at e2
   ·cases e1;cases e2;exact r
   ·cases e2
  ·cases e1
 ·rw[List.getElem?_set_ne hj] at e1 e2;exact h.2 j v' t' e1 e2
theorem Rep.tupI{a:Addr}(f:FT K S H a vs)(r:Reps K S H vs ts):Rep K S H (.ref a) (.tup ts):=.tup f r.1 r.2
theorem Rep.lstI{a:Addr}(f:FL S H a vs)(r:Reps K S H vs ts):Rep K S H (.ref a) (.lst ts):=.lst f r.1 r.2
theorem Rep.tupE(h:Rep K S H v (.tup ts)):∃a vs,v=.ref a/\FT K S H a vs/\Reps K S H vs ts:=by
 cases h with
 |tup f l r=>exact⟨_,_,rfl,f,l,r⟩
theorem Rep.lstE(h:Rep K S H v (.lst ts)):∃a vs,v=.ref a/\FL S H a vs/\Reps K S H vs ts:=by
 cases h with
 |lst f l r=>exact⟨_,_,rfl,f,l,r⟩
theorem Rep.flsE(h:Rep K S H v (.fls ts)):∃a vs,v=.ref a/\FX K S H a vs/\Reps K S H vs ts:=by
 cases h with
 |fls f l r=>exact⟨_,_,rfl,f,l,r⟩
theorem Rep.dctE{kts:List (Key×T)}(h:Rep K S H v (.dct kts)):∃a kvs,v=.ref a/\S a=none/\H a=some (.dK kvs)/\RepK K S H kvs kts:=by
 cases h with
 |dct f l r1 r2=>exact⟨_,_,rfl,f.1,f.2,l,fun i v t e1 e2=>⟨r1 i v t e1 e2,r2 i v t e1 e2⟩⟩
theorem Le.new{p:Addr}{o:HO}(g:Good K S H)(hp:H p=none):Le S H S (upd H p o):=fun b u n e=>⟨n,by rw[Xc (Xa e hp)];exact e⟩
theorem Good.free(g:Good K S H){p:Addr}(hp:H p=none):S p=none:=by
 cases e:S p with
 |none=>rfl
 |some c =>
  have:=g p c e
  cases c with
  |lst ts=>obtain⟨vs,q,_⟩:=this;rw[hp] at q;cases q
  |dct ts=>obtain⟨vs,q,_⟩:=this;rw[hp] at q;cases q
  |ins C fs=>obtain⟨dx,vs,q,_⟩:=this;rw[hp] at q;cases q
  |tpl ts=>obtain⟨vs,q,_⟩:=this;rw[hp] at q;cases q
  |dtt ts=>obtain⟨vs,q,_⟩:=this;rw[hp] at q;cases q
theorem CellOk.mono{c:Cell}(le:Le S H S' H')(x:CellOk K S H a c)(e:H' a=H a):CellOk K S' H' a c:=by
 cases c with
 |lst ts=>obtain⟨vs,q,r⟩:=x;exact⟨vs,by rw[e];exact q,r.mono le⟩
 |dct ts=>obtain⟨vs,q,r⟩:=x;exact⟨vs,by rw[e];exact q,r.mono le⟩
 |ins C fs=>obtain⟨dx,vs,q,r⟩:=x;exact⟨dx,vs,by rw[e];exact q,r.mono le⟩
 |tpl ts=>obtain⟨vs,q,r⟩:=x;exact⟨vs,by rw[e];exact q,r.mono le⟩
 |dtt ts=>obtain⟨vs,q,r⟩:=x;exact⟨vs,by rw[e];exact q,r.1,fun i v t a b=>⟨(r.2 i v t a b).1,(r.2 i v t a b).2.mono le⟩⟩
theorem Good.new{p:Addr}{o:HO}(g:Good K S H)(hp:H p=none):Good K S (upd H p o):=fun a c e=>by
 have ne:a≠p:=fun z=>by rw[z,g.free hp] at e;cases e
 exact(g a c e).mono (Le.new g hp) (Xc ne)
theorem Le.newC{p:Addr}{o:HO}{c:Cell}(hp:H p=none):Le S H (updT S p c) (upd H p o):=fun b u n e=>by
 have ne:=Xa e hp
 exact⟨by rw[Ab ne];exact n,by rw[Xc ne];exact e⟩
theorem Good.newL{p:Addr}{vs:List V}{ts:List T}(g:Good K S H)(hp:H p=none)(r:Reps K S H vs ts):Good K (updT S p (.lst ts)) (upd H p (.lst vs)):=fun a c e=>by
 have le:Le S H (updT S p (.lst ts)) (upd H p (.lst vs)):=Le.newC hp
 by_cases ha:a=p
 ·subst ha
  rw[Zd] at e
  cases e
  exact⟨vs,Ak,r.mono le⟩
 ·rw[Ab ha] at e
  exact(g a c e).mono le (Xc ha)
theorem Le.write{p:Addr}{o:HO}{c c':Cell}(e:S p=some c'):Le S H (updT S p c) (upd H p o):=fun b u n q=>by
 have ne:b≠p:=fun z=>by rw[z,e] at n;cases n
 exact⟨by rw[Ab ne];exact n,by rw[Xc ne];exact q⟩
theorem Good.writeL{p:Addr}{vs:List V}{ts:List T}{c:Cell}(g:Good K S H)(hp:S p=some c)(r:Reps K S H vs ts):Good K (updT S p (.lst ts)) (upd H p (.lst vs)):=fun a c' e=>by
 have le:Le S H (updT S p (.lst ts)) (upd H p (.lst vs)):=Le.write hp
 by_cases ha:a=p
 ·subst ha
  rw[Zd] at e
  cases e
  exact⟨vs,Ak,r.mono le⟩
 ·rw[Ab ha] at e
  exact(g a c' e).mono le (Xc ha)
end
abbrev Ev:=List (Option T)
abbrev UX:=T->TH->Prop
abbrev UTE:=Ev->TH->UX->Prop
abbrev UTT:=Ev->TH->(Bool->TH->Prop)->Prop
abbrev UTA:=Ev->TH->(List T->TH->Prop)->Prop
structure UEnds where
 nx:Ev->TH->Prop
 rt:UX
 bk:Ev->TH->Prop:=fun _ _=>False
 ct:Ev->TH->Prop:=fun _ _=>False
abbrev UTS:=UEnds->Ev->TH->Prop
def REnv(K:PySem.W.Frag)(S:TH)(H:Hp)(σ:L2.St)(env:Ev):Prop:=env.length=σ.length/\∀(i:Nat) t,env[i]?=some (some t)->∃v,σ[i]?=some (some v)/\Rep K S H v t
def Fin(K:PySem.W.Frag)(S:TH)(H:Hp)(P:UX)(Q:VK):Prop:=∀v r S' H',Le S H S' H'->Good K S' H'->Rep K S' H' v r->P r S'->Q v H'
def lf(K:PySem.W.Frag)(t:UTE):TE:=fun σ H Q=>∃S env P,Good K S H/\REnv K S H σ env/\t env S P/\Fin K S H P Q
def lfT(K:PySem.W.Frag)(t:UTT):TT:=fun σ H Q=>∃S env P,Good K S H/\REnv K S H σ env/\t env S P/\∀b S' H',Le S H S' H'->Good K S' H'->P b S'->Q b H'
def lfA(K:PySem.W.Frag)(t:UTA):TA:=fun σ H Q=>∃S env P,Good K S H/\REnv K S H σ env/\t env S P/\∀vs rs S' H',Le S H S' H'->Good K S' H'->Reps K S' H' vs rs->P rs S'->Q vs H'
structure FinS(K:PySem.W.Frag)(S:TH)(H:Hp)(E:UEnds)(D:Ends):Prop where
 nx:∀ σ' env' S' H',Le S H S' H'->Good K S' H'->REnv K S' H' σ' env'->E.nx env' S'->D.nx σ' H'
 rt:∀v r S' H',Le S H S' H'->Good K S' H'->Rep K S' H' v r->E.rt r S'->D.rt v H'
 bk:∀ σ' env' S' H',Le S H S' H'->Good K S' H'->REnv K S' H' σ' env'->E.bk env' S'->D.bk σ' H'
 ct:∀ σ' env' S' H',Le S H S' H'->Good K S' H'->REnv K S' H' σ' env'->E.ct env' S'->D.ct σ' H'
def lfS(K:PySem.W.Frag)(t:UTS):TS:=fun D σ H=>∃S env E,Good K S H/\REnv K S H σ env/\t E env S/\FinS K S H E D
def UE(X:Cx)(e:Expr)(t:UTE):Prop:=PE X e (lf X.K t)
def UT(X:Cx)(e:Expr)(t:UTT):Prop:=PT X e (lfT X.K t)
def UA(X:Cx)(es:List Expr)(t:UTA):Prop:=PA X es (lfA X.K t)
def US(X:Cx)(st:Stmt)(t:UTS):Prop:=PS X st (lfS X.K t)
def USs(X:Cx)(st:List Stmt)(t:UTS):Prop:=PSs X st (lfS X.K t)
section
variable{K:PySem.W.Frag}{S S' S'':TH}{H H' H'':Hp}{σ:L2.St}{env:Ev}{P:UX}{Q Q':VK}
theorem REnv.mono(h:REnv K S H σ env)(le:Le S H S' H'):REnv K S' H' σ env:=⟨h.1,fun i t e=>let ⟨v,e',r⟩:=h.2 i t e;⟨v,e',r.mono le⟩⟩
theorem REnv.set{i:Nat}{v:V}{t:T}(h:REnv K S H σ env)(r:Rep K S H v t):REnv K S H (σ.set i (some v)) (env.set i (some t)):=by
 refine⟨by simp only[List.length_set,h.1],fun j t' e=>?_⟩
 rw[List.getElem?_set] at e
 by_cases hj:i=j
 ·subst hj
  simp only[if_true] at e
  split at e
  ·cases e
   rename_i hl
   exact⟨v,by rw[List.getElem?_set];simp;rw[<-h.1];exact hl,r⟩
  ·cases e
 ·rw[if_neg hj] at e
  obtain⟨v',e',r'⟩:=h.2 j t' e
  exact⟨v',by rw[List.getElem?_set_ne hj];exact e',r'⟩
theorem Fin.le(f:Fin K S H P Q)(le:Le S H S' H'):Fin K S' H' P Q:=fun v r S2 H2 l g rp hp=>f v r S2 H2 (le.trans l) g rp hp
theorem FinS.le{E:UEnds}{D:Ends}(f:FinS K S H E D)(le:Le S H S' H'):FinS K S' H' E D :=
 ⟨fun a b c d l=>f.nx a b c d (le.trans l),fun a b c d l=>f.rt a b c d (le.trans l),fun a b c d l=>f.bk a b c d (le.trans l),fun a b c d l=>f.ct a b c d (le.trans l)⟩
structure Mid(K:PySem.W.Frag)(σ:L2.St)(H:Hp)(S:TH)(env:Ev):Prop where
 g:Good K S H
 re:REnv K S H σ env
theorem Za{t:UTE}{S:TH}{env:Ev}{k:T->TH->Prop}(m:Mid K σ H S env)(h:t env S k)
  (q:∀v r S1 H1,Le S H S1 H1->Mid K σ H1 S1 env->Rep K S1 H1 v r->k r S1->Q v H1):lf K t σ H Q :=
 ⟨S,env,k,m.g,m.re,h,fun v r S1 H1 le g1 rp hk=>q v r S1 H1 le ⟨g1,m.re.mono le⟩ rp hk⟩
theorem Ai{t:UTA}{S:TH}{env:Ev}{k:List T->TH->Prop}{Q:List V->Hp->Prop}(m:Mid K σ H S env)(h:t env S k)
  (q:∀v r S1 H1,Le S H S1 H1->Mid K σ H1 S1 env->Reps K S1 H1 v r->k r S1->Q v H1):lfA K t σ H Q :=
 ⟨S,env,k,m.g,m.re,h,fun v r S1 H1 le g1 rp hk=>q v r S1 H1 le ⟨g1,m.re.mono le⟩ rp hk⟩
theorem A9{t:UTT}{S:TH}{env:Ev}{k:Bool->TH->Prop}{Q:Bool->Hp->Prop}(m:Mid K σ H S env)(h:t env S k)
  (q:∀b S1 H1,Le S H S1 H1->Mid K σ H1 S1 env->k b S1->Q b H1):lfT K t σ H Q :=
 ⟨S,env,k,m.g,m.re,h,fun b S1 H1 le g1 hk=>q b S1 H1 le ⟨g1,m.re.mono le⟩ hk⟩
end
theorem PE.imp{X:Cx}{e:Expr}{t t':TE}(h:PE X e t)(i:∀ σ H Q,t' σ H Q->t σ H Q):PE X e t':=fun pins s σ H Q I q=>h pins s σ H Q I (i σ H Q q)
theorem PT.imp{X:Cx}{e:Expr}{t t':TT}(h:PT X e t)(i:∀ σ H Q,t' σ H Q->t σ H Q):PT X e t':=fun pins s σ H Q I q=>h pins s σ H Q I (i σ H Q q)
theorem PA.imp{X:Cx}{e:List Expr}{t t':TA}(h:PA X e t)(i:∀ σ H Q,t' σ H Q->t σ H Q):PA X e t':=fun pos pins s σ H Q I q=>h pos pins s σ H Q I (i σ H Q q)
theorem PS.imp{X:Cx}{e:Stmt}{t t':TS}(h:PS X e t)(i:∀D σ H,t' D σ H->t D σ H):PS X e t':=fun pins s σ H D I q=>h pins s σ H D I (i D σ H q)
theorem PSs.imp{X:Cx}{e:List Stmt}{t t':TS}(h:PSs X e t)(i:∀D σ H,t' D σ H->t D σ H):PSs X e t':=fun pins s σ H D I q=>h pins s σ H D I (i D σ H q)
end TL
end
section
namespace TL
open PySem PySem.Spec PyProof.Rows L2
section
variable{X:Cx}{a b c e:Expr}{es:List Expr}{ta tb tc te:UTE}{pos:Pos}
def uVar(i:Nat):UTE:=fun env S P=>match env[i]? with
 |some (some t)=>P t S
 |_=>False
def uC(t:T):UTE:=fun _ S P=>P t S
theorem uv(i:Nat){x:Str}{pos:Pos}(hN:X.N[i]?=some x:=by rfl)(hv:Vis X.env.scope x:=by first|exact Or.inl rfl|exact Or.inr (Or.inl rfl)|exact Or.inr (Or.inr rfl))(hd:(x==("__debug__":Str))=false:=by decide)
  (hcd:(x==("__classdict__":Str))=false:=by decide):UE X (.Name x pos) (uVar i):=PE.imp (Wh hN hv hd hcd) fun σ H Q ⟨S,env,P,g,re,h,fin⟩=>by
 unfold uVar at h
 split at h
 ·rename_i t e
  obtain⟨v,ev,r⟩:=re.2 i t e
  exact⟨v,ev,fin v t S H .refl g r h⟩
 ·exact h.elim
theorem Kn{v:V}{t:T}(h:PE X e (tC v))(r:∀S H,Rep X.K S H v t):UE X e (uC t):=PE.imp h fun σ H Q ⟨S,env,P,g,re,h,fin⟩=>fin v t S H .refl g (r S H) h
theorem Zi{i:Int}{j}:UE X (.Constant (.int i) j pos) (uC (.int i)):=Kn Ph fun _ _=>.int i
theorem B4{i:Bool}{j}:UE X (.Constant (.bool i) j pos) (uC (.bl i)):=Kn pe_bl fun _ _=>.bl i
theorem As{j}:UE X (.Constant .none j pos) (uC .non):=Kn Wx fun _ _=>.non
theorem Zq{x:Str}{j}:UE X (.Constant (.str x) j pos) (uC (.str x)):=Kn Wj fun _ _=>.str x
theorem Xv{x:Str}{n:String}(hg:Gl X x)(hm:X.mg x=none)(hv:bootBuiltins x=some (.type n))(hn:x≠"__name__":=by decide)(hd:(x==("__debug__":Str))=false:=by decide):UE X (.Name x pos) (uC (.ty n)) :=
 Kn (Vc (v:=.ty n) hg hm hv rfl hn hd) fun _ _=>.ty n
theorem Uf{x:Str}{i:Int}(hg:Gl X x)(hm:∃t,X.mg x=some (.int i t))(hd:(x==("__debug__":Str))=false:=by decide):UE X (.Name x pos) (uC (.int i)):=by
 obtain⟨t,hm⟩:=hm
 exact Kn (Mf (v:=.int i) hg hm ⟨t,rfl⟩ hd) fun _ _=>.int i
def A0(o:T->T->TH->UX->Prop)(ta tb:UTE):UTE:=fun env S P=>ta env S fun x S1=>tb env S1 fun y S2=>o x y S2 P
def LOp(K:PySem.W.Frag)(r:R2)(o:T->T->TH->UX->Prop):Prop:=∀S H v w x y P Q,Good K S H->Rep K S H v x->Rep K S H w y->o x y S P->Fin K S H P Q->r v w H Q
theorem Gj{r:R2}{o:T->T->TH->UX->Prop}{σ:L2.St}{H:Hp}{Q:VK}{K:PySem.W.Frag}(l:LOp K r o)(h:lf K (A0 o ta tb) σ H Q):lf K ta σ H fun v H1=>lf K tb σ H1 fun w H2=>r v w H2 Q:=by
 obtain⟨S,env,P,g,re,h,fin⟩:=h
 exact Za ⟨g,re⟩ h fun v x S1 H1 le1 m1 rx h1=>Za m1 h1 fun w y S2 H2 le2 m2 ry h2=>l S2 H2 v w x y P Q m2.g (rx.mono le2) ry h2 (fin.le (le1.trans le2))
theorem Eb{op:Operator}{r:R2}{o:T->T->TH->UX->Prop}(ho:OpR X (binaryOp op) r)(l:LOp X.K r o)(ha:UE X a ta)(hb:UE X b tb):UE X (.BinOp a op b pos) (A0 o ta tb):=PE.imp (pe_op ho ha hb) fun _ _ _ h=>Gj l h
theorem Ht{op:CmpOp}{r:R2}{o:T->T->TH->UX->Prop}(ho:OpR X (compareOp op) r)(l:LOp X.K r o)(ha:UE X a ta)(hb:UE X b tb)(hm:behindInMarks op b=false):UE X (.Compare a [op] [b] pos) (A0 o ta tb) :=
 PE.imp (Uk ho ha hb hm) fun _ _ _ h=>Gj l h
def A4(t:UTE):UTT:=fun env S P=>t env S fun x S1=>match x with
 | .bl k=>P k S1
 |_=>False
theorem J2{t:UTE}{σ:L2.St}{H:Hp}{Q:Bool->Hp->Prop}{K:PySem.W.Frag}(h:lfT K (A4 t) σ H Q):lf K t σ H fun x H1=>∃k,x=.bl k/\Q k H1:=by
 obtain⟨S,env,P,g,re,h,fin⟩:=h
 refine Za ⟨g,re⟩ h fun v x S1 H1 le1 m1 rx h1=>?_
 cases x with
 |bl k=>cases rx;exact⟨k,rfl,fin k S1 H1 le1 m1.g h1⟩
 |_=>exact h1.elim
theorem Uw{r:R2}{o:T->T->TH->UX->Prop}{σ:L2.St}{H:Hp}{Q:Bool->Hp->Prop}{K:PySem.W.Frag}(l:LOp K r o)(h:lfT K (A4 (A0 o ta tb)) σ H Q):Q5 (tOp r (lf K ta) (lf K tb)) σ H Q:=Gj l (J2 h)
theorem Bf{op:CmpOp}{r:R2}{o:T->T->TH->UX->Prop}(ho:OpR X (compareOp op) r)(l:LOp X.K r o)(ha:UE X a ta)(hb:UE X b tb)(hm:behindInMarks op b=false):UT X (.Compare a [op] [b] pos) (A4 (A0 o ta tb)) :=
 PT.imp (Ti ho ha hb hm) fun _ _ _ h=>Uw l h
theorem Xe{t:UTE}(h:UE X e t)(he:∀whole,isTrue e X.env whole=(do let v ← whole;standAt e.pos;holding [v] (truthy v)):=by intro _;rfl):UT X e (A4 t):=PT.imp (Wn h he) fun _ _ _ h=>J2 h
def oII(g:Int->Int->T):T->T->TH->UX->Prop:=fun x y S P=>match x,y with
 | .int i,.int j=>P (g i j) S
 |_,_=>False
def oIC(C:Int->Int->Prop)(g:Int->Int->T):T->T->TH->UX->Prop:=fun x y S P=>match x,y with
 | .int i,.int j=>C i j/\P (g i j) S
 |_,_=>False
theorem H9{K:PySem.W.Frag}{g:Int->Int->V}{g':Int->Int->T}(h:∀i j S H,Rep K S H (g i j) (g' i j)):LOp K (rI0 g) (oII g'):=fun S H v w x y P Q gd rx ry ho fin=>by
 cases x with
 |int i =>
  cases y with
  |int j=>cases rx;cases ry;exact⟨i,j,rfl,rfl,fin _ _ S H .refl gd (h i j S H) ho⟩
  |_=>exact ho.elim
 |_=>exact ho.elim
theorem Kh{K:PySem.W.Frag}{C:Int->Int->Prop}{g:Int->Int->V}{g':Int->Int->T}(h:∀i j S H,Rep K S H (g i j) (g' i j)):LOp K (rI C g) (oIC C g'):=fun S H v w x y P Q gd rx ry ho fin=>by
 cases x with
 |int i =>
  cases y with
  |int j=>cases rx;cases ry;exact⟨i,j,rfl,rfl,ho.1,fin _ _ S H .refl gd (h i j S H) ho.2⟩
  |_=>exact ho.elim
 |_=>exact ho.elim
abbrev oSub:=oII fun i j=>.int (i - j)
abbrev oMul:=oIC CMul fun i j=>.int (i * j)
abbrev oDiv:=oIC CDiv fun i j=>.int (i / j)
abbrev oMod:=oIC (fun _ j=>0<j) fun i j=>.int (i % j)
theorem Cl(ha:UE X a ta)(hb:UE X b tb):UE X (.BinOp a .Sub b pos) (A0 oSub ta tb):=Eb Y7 (H9 fun _ _ _ _=>.int _) ha hb
theorem Ee(ha:UE X a ta)(hb:UE X b tb):UE X (.BinOp a .Mult b pos) (A0 oMul ta tb):=Eb W6 (Kh fun _ _ _ _=>.int _) ha hb
theorem X4(ha:UE X a ta)(hb:UE X b tb):UE X (.BinOp a .FloorDiv b pos) (A0 oDiv ta tb):=Eb Tx (Kh fun _ _ _ _=>.int _) ha hb
theorem A3(ha:UE X a ta)(hb:UE X b tb):UE X (.BinOp a .Mod b pos) (A0 oMod ta tb):=Eb Z0 (Kh fun _ _ _ _=>.int _) ha hb
abbrev oLt:=oII fun i j=>.bl (decide (i<j))
abbrev oGt:=oII fun i j=>.bl (decide (j<i))
abbrev oGe:=oII fun i j=>.bl (decide (j<=i))
theorem lLt{K:PySem.W.Frag}:LOp K (rI0 fun i j=>.bl (decide (i<j))) oLt:=H9 fun _ _ _ _=>.bl _
theorem lGt{K:PySem.W.Frag}:LOp K (rI0 fun i j=>.bl (decide (j<i))) oGt:=H9 fun _ _ _ _=>.bl _
theorem lGe{K:PySem.W.Frag}:LOp K (rI0 fun i j=>.bl (decide (j<=i))) oGe:=H9 fun _ _ _ _=>.bl _
def oEq(neg:Bool):T->T->TH->UX->Prop:=fun x y S P=>match x,y with
 | .int i,.int j=>P (.bl (Bool.xor neg (decide (i=j)))) S
 | .str i,.str j=>P (.bl (Bool.xor neg (decide (i=j)))) S
 | .bl i,.bl j=>P (.bl (Bool.xor neg (decide (i=j)))) S
 |_,_=>False
theorem dV_int{i j:Int}:decide (V.int i=V.int j)=decide (i=j):=by rw[Hj];exact Bool.beq_eq_decide_eq i j
theorem dV_str{i j:Str}:decide (V.str i=V.str j)=decide (i=j):=by
 by_cases h:i=j
 ·subst h;simp
 ·rw[decide_eq_false h,decide_eq_false];intro z;exact h (V.str.inj z)
theorem dV_bl{i j:Bool}:decide (V.bl i=V.bl j)=decide (i=j):=by
 by_cases h:i=j
 ·subst h;simp
 ·rw[decide_eq_false h,decide_eq_false];intro z;exact h (V.bl.inj z)
theorem lEq{K:PySem.W.Frag}:LOp K rEq (oEq false):=fun S H v w x y P Q gd rx ry ho fin=>by
 cases x with
 |int i =>
  cases y with
  |int j=>cases rx;cases ry;refine⟨rfl,?_⟩;rw[dV_int];exact fin _ _ S H .refl gd (.bl _) (by simpa [oEq] using ho)
  |_=>exact ho.elim
 |str i =>
  cases y with
  |str j=>cases rx;cases ry;refine⟨rfl,?_⟩;rw[dV_str];exact fin _ _ S H .refl gd (.bl _) (by simpa [oEq] using ho)
  |_=>exact ho.elim
 |bl i =>
  cases y with
  |bl j=>cases rx;cases ry;refine⟨rfl,?_⟩;rw[dV_bl];exact fin _ _ S H .refl gd (.bl _) (by simpa [oEq] using ho)
  |_=>exact ho.elim
 |_=>exact ho.elim
theorem lNe{K:PySem.W.Frag}:LOp K rNe (oEq true):=fun S H v w x y P Q gd rx ry ho fin=>by
 cases x with
 |int i =>
  cases y with
  |int j=>cases rx;cases ry;refine⟨rfl,?_⟩;rw[dV_int];exact fin _ _ S H .refl gd (.bl _) (by simpa [oEq] using ho)
  |_=>exact ho.elim
 |str i =>
  cases y with
  |str j=>cases rx;cases ry;refine⟨rfl,?_⟩;rw[dV_str];exact fin _ _ S H .refl gd (.bl _) (by simpa [oEq] using ho)
  |_=>exact ho.elim
 |bl i =>
  cases y with
  |bl j=>cases rx;cases ry;refine⟨rfl,?_⟩;rw[dV_bl];exact fin _ _ S H .refl gd (.bl _) (by simpa [oEq] using ho)
  |_=>exact ho.elim
 |_=>exact ho.elim
def uUn(o:T->TH->UX->Prop)(ta:UTE):UTE:=fun env S P=>ta env S fun x S1=>o x S1 P
def oNeg:T->TH->UX->Prop:=fun x S P=>match x with
 | .int i=>P (.int (-i)) S
 |_=>False
theorem Hk(ha:UE X a ta):UE X (.UnaryOp .USub a pos) (uUn oNeg ta):=PE.imp (Vy Qc ha) fun σ H Q ⟨S,env,P,g,re,h,fin⟩=>by
 refine Za ⟨g,re⟩ h fun v x S1 H1 le1 m1 rx h1=>?_
 cases x with
 |int i=>cases rx;exact⟨i,rfl,fin _ _ S1 H1 le1 m1.g (.int _) h1⟩
 |_=>exact h1.elim
def Hs(t u:UTT):UTT:=fun env S P=>t env S fun k S1=>(k=true->u env S1 P)/\(k=false->P false S1)
def uOr(t u:UTT):UTT:=fun env S P=>t env S fun k S1=>(k=true->P true S1)/\(k=false->u env S1 P)
def uNot(t:UTT):UTT:=fun env S P=>t env S fun k S1=>P (!k) S1
def UW(X:Cx)(e:Expr)(t:UTT):Prop:=PW X e (lfT X.K t)
theorem UW.ut{t:UTT}(h:UW X e t):UT X e t:=h.pt
variable{tA tB:UTT}{rest:List Expr}
theorem Cf(ha:UT X a tA):UW X (.BoolOp .And [a] pos) tA:=Tr ha
theorem Xs(ha:UT X a tA):UW X (.BoolOp .Or [a] pos) tA:=Yq ha
theorem B9(ha:UT X a tA)(hb:UW X (.BoolOp .And (b::rest) pos) tB):UW X (.BoolOp .And (a::b::rest) pos) (Hs tA tB):=fun wh pins s σ H Q I h=>by
 refine Y4 ha hb wh pins s σ H Q I ?_
 obtain⟨S,env,P,g,re,h,fin⟩:=h
 refine A9 ⟨g,re⟩ h fun k S1 H1 le1 m1 hk=>?_
 cases k with
 |true=>rw[if_pos rfl];exact⟨S1,env,P,m1.g,m1.re,hk.1 rfl,fun b S' H' le=>fin b S' H' (le1.trans le)⟩
 |false=>rw[if_neg Bool.false_ne_true];exact fin false S1 H1 le1 m1.g (hk.2 rfl)
theorem Ck(ha:UT X a tA)(hb:UW X (.BoolOp .Or (b::rest) pos) tB):UW X (.BoolOp .Or (a::b::rest) pos) (uOr tA tB):=fun wh pins s σ H Q I h=>by
 refine pw_or ha hb wh pins s σ H Q I ?_
 obtain⟨S,env,P,g,re,h,fin⟩:=h
 refine A9 ⟨g,re⟩ h fun k S1 H1 le1 m1 hk=>?_
 cases k with
 |true=>rw[if_pos rfl];exact fin true S1 H1 le1 m1.g (hk.1 rfl)
 |false=>rw[if_neg Bool.false_ne_true];exact⟨S1,env,P,m1.g,m1.re,hk.2 rfl,fun b S' H' le=>fin b S' H' (le1.trans le)⟩
theorem Do(ha:UT X a tA):UT X (.UnaryOp .Not a pos) (uNot tA):=PT.imp (Yt ha) fun σ H Q ⟨S,env,P,g,re,h,fin⟩ =>
 A9 ⟨g,re⟩ h fun k S1 H1 le1 m1 hk=>fin (!k) S1 H1 le1 m1.g hk
def Qi(ta tb:UTE):UTE:=fun env S P=>ta env S fun x S1=>match x with
 | .bl k=>(k=true->tb env S1 P)/\(k=false->P (.bl false) S1)
 |_=>False
def O0(ta:UTE):UTE:=fun env S P=>ta env S fun x S1=>match x with
 | .bl k=>P (.bl (!k)) S1
 |_=>False
theorem J0{op}(ha:UE X a ta):UE X (.BoolOp op [a] pos) ta:=Yk ha
theorem Jp(ha:UE X a ta)(hb:UE X (.BoolOp .And (b::rest) pos) tb):UE X (.BoolOp .And (a::b::rest) pos) (Qi ta tb):=PE.imp (Wz ha hb) fun σ H Q ⟨S,env,P,g,re,h,fin⟩=>by
 refine Za ⟨g,re⟩ h fun v x S1 H1 le1 m1 rx hk=>?_
 cases x with
 |bl k =>
  cases rx
  refine⟨k,rfl,?_⟩
  cases k with
  |true=>rw[if_pos rfl];exact⟨S1,env,P,m1.g,m1.re,hk.1 rfl,fin.le le1⟩
  |false=>rw[if_neg Bool.false_ne_true];exact fin _ _ S1 H1 le1 m1.g (.bl _) (hk.2 rfl)
 |_=>exact hk.elim
theorem Wt(ha:UE X a ta):UE X (.UnaryOp .Not a pos) (O0 ta):=PE.imp (Yv ha) fun σ H Q ⟨S,env,P,g,re,h,fin⟩=>by
 refine Za ⟨g,re⟩ h fun v x S1 H1 le1 m1 rx hk=>?_
 cases x with
 |bl k=>cases rx;exact⟨k,rfl,fin _ _ S1 H1 le1 m1.g (.bl _) hk⟩
 |_=>exact hk.elim
def uIfE(t:UTT)(ta tb:UTE):UTE:=fun env S P=>t env S fun k S1=>(k=true->ta env S1 P)/\(k=false->tb env S1 P)
theorem Dw(hc:UT X c tA)(ha:UE X a ta)(hb:UE X b tb):UE X (.IfExp c a b pos) (uIfE tA ta tb):=PE.imp (Ql hc ha hb) fun σ H Q ⟨S,env,P,g,re,h,fin⟩=>by
 refine A9 ⟨g,re⟩ h fun k S1 H1 le1 m1 hk=>?_
 cases k with
 |true=>rw[if_pos rfl];exact⟨S1,env,P,m1.g,m1.re,hk.1 rfl,fin.le le1⟩
 |false=>rw[if_neg Bool.false_ne_true];exact⟨S1,env,P,m1.g,m1.re,hk.2 rfl,fin.le le1⟩
def uNil:UTA:=fun _ S P=>P [] S
def R7(ta:UTE)(tr:UTA):UTA:=fun env S P=>ta env S fun x S1=>tr env S1 fun xs S2=>P (x::xs) S2
variable{tr:UTA}
theorem Zn:UA X [] uNil:=PA.imp Tb fun σ H Q ⟨S,env,P,g,re,h,fin⟩=>fin [] [] S H .refl g .nil h
theorem Zc(ha:UE X e te)(hr:UA X es tr)(hs:starEach (e::es) X.env=(false,eval e X.env)::starEach es X.env:=by rfl):UA X (e::es) (R7 te tr):=PA.imp (Mg ha hr hs) fun σ H Q ⟨S,env,P,g,re,h,fin⟩ =>
 Za ⟨g,re⟩ h fun v x S1 H1 le1 m1 rx h1=>Ai m1 h1 fun vs xs S2 H2 le2 m2 rxs h2=>fin (v::vs) (x::xs) S2 H2 (le1.trans le2) m2.g (.cons (rx.mono le2) rxs) h2
def uTup(t:UTA):UTE:=fun env S P=>t env S fun ts S1=>ts.length<=sizeLine/\P (.tup ts) S1
def uLst(t:UTA):UTE:=fun env S P=>t env S fun ts S1=>ts.length<=sizeLine/\P (.lst ts) S1
def Rw(t:UTA):UTE:=fun env S P=>t env S fun ts S1=>ts.length<=sizeLine/\∀p,S1 p=none->P (.ref p) (updT S1 p (.lst ts))
section
variable{K:PySem.W.Frag}{S S1:TH}{H H1:Hp}{P:UX}{Q:VK}{vs:List V}{ts:List T}
theorem C7{p:Addr}(fin:Fin K S H P Q)(g:Good K S H)(hp:H p=none)(r:Reps K S H vs ts)(h:P (.tup ts) S):Q (.ref p) (upd H p (.tup vs)) :=
 fin _ _ S _ (Le.new g hp) (g.new hp) (.tupI (.inl ⟨g.free hp,Ak⟩) (r.mono (Le.new g hp))) h
theorem A8{p:Addr}(fin:Fin K S H P Q)(g:Good K S H)(hp:H p=none)(r:Reps K S H vs ts)(h:P (.lst ts) S):Q (.ref p) (upd H p (.lst vs)) :=
 fin _ _ S _ (Le.new g hp) (g.new hp) (.lstI ⟨g.free hp,Ak⟩ (r.mono (Le.new g hp))) h
end
theorem Zu{x1}(h:UA X es tr):UE X (.Tuple es x1 pos) (uTup tr):=PE.imp (Pz h) fun σ H Q ⟨S,env,P,g,re,h,fin⟩ =>
 Ai ⟨g,re⟩ h fun vs xs S1 H1 le1 m1 rx h1=>⟨by rw[rx.1];exact h1.1,fun p hp=>C7 (fin.le le1) m1.g hp rx h1.2⟩
theorem Ad(h:UA X es tr):UE X (.List es pos) (uLst tr):=PE.imp (Po h) fun σ H Q ⟨S,env,P,g,re,h,fin⟩ =>
 Ai ⟨g,re⟩ h fun vs xs S1 H1 le1 m1 rx h1=>⟨by rw[rx.1];exact h1.1,fun p hp=>A8 (fin.le le1) m1.g hp rx h1.2⟩
theorem Bk(h:UA X es tr):UE X (.List es pos) (Rw tr):=PE.imp (Po h) fun σ H Q ⟨S,env,P,g,re,h,fin⟩ =>
 Ai ⟨g,re⟩ h fun vs xs S1 H1 le1 m1 rx h1=>⟨by rw[rx.1];exact h1.1,fun p hp=>fin _ _ _ _ (le1.trans (Le.newC hp)) (m1.g.newL hp rx) (.ref p) (h1.2 p (m1.g.free hp))⟩
def spU(K:PySem.W.Frag)(t:List T->TH->UX->Prop):Sp:=fun vs H Q _=>∃S ts P,Good K S H/\Reps K S H vs ts/\t ts S P/\Fin K S H P Q
def Bh(t:List T->TH->UX->Prop)(ta:UTA):UTE:=fun env S P=>ta env S fun ts S1=>t ts S1 P
theorem Ud{k:Nat}{f:Addr}{fd:FuncData}{ps:List Str}{t:List T->TH->UX->Prop}{x:Str}{p:Pos}(F:FnOk X.prog X.w X.K X.mg X.base CX0 k f fd ps (spU X.K t))(hr:Room k X.A)(hg:Gl X x)(hm:X.mg x=some (.ref f))
  (hk:PySem.W.keepIn X.K (.ref f)=true) (hb:Binds X.K fd ps []) (ha:UA X (e::es) tr) (hdb:(x==("__debug__":Str))=false:=by decide) (he:starEach (e::es) X.env=(false,eval e X.env)::starEach es X.env:=by rfl)
  (hpl:(backTo pos (starEach es X.env)).any (·.1)=false:=by rfl):UE X (.Call (.Name x p) (e::es) [] pos) (Bh t tr) :=
 PE.imp (T5 F hr hg hm hk hb .nil Rn ha hdb he hpl) fun σ H Q ⟨S,env,P,g,re,h,fin⟩=>Ai ⟨g,re⟩ h fun vs xs S1 H1 le1 m1 rx h1=>by
  rw[List.append_nil]
  exact⟨S1,xs,P,m1.g,rx,h1,fin.le le1⟩
def Dt(K:PySem.W.Frag)(r:List V->Hp->VK->Prop)(o:List T->TH->UX->Prop):Prop:=∀S H vs ts P Q,Good K S H->Reps K S H vs ts->o ts S P->Fin K S H P Q->r vs H Q
theorem Bn{x:Str}{id:String}{p:Pos}{r:List V->Hp->VK->Prop}{o:List T->TH->UX->Prop}(hc:CallR X (.builtin id) r)(l:Dt X.K r o)(hg:Gl X x)(hm:X.mg x=none)(hv:bootBuiltins x=some (.builtin id))(ha:UA X (e::es) tr)
  (hn:x≠"__name__":=by decide) (hdb:(x==("__debug__":Str))=false:=by decide) (he:starEach (e::es) X.env=(false,eval e X.env)::starEach es X.env:=by rfl) (hpl:(backTo pos (starEach es X.env)).any (·.1)=false:=by rfl) :
  UE X (.Call (.Name x p) (e::es) [] pos) (Bh o tr):=PE.imp (Qe hc hg hm hv ha hn hdb he hpl) fun σ H Q ⟨S,env,P,g,re,h,fin⟩ =>
 Ai ⟨g,re⟩ h fun vs xs S1 H1 le1 m1 rx h1=>l S1 H1 vs xs P Q m1.g rx h1 (fin.le le1)
theorem Ei{x:Str}{n:String}{p:Pos}{r:List V->Hp->VK->Prop}{o:List T->TH->UX->Prop}(hc:CallR X (.type n) r)(l:Dt X.K r o)(hg:Gl X x)(hm:X.mg x=none)(hv:bootBuiltins x=some (.type n))(ha:UA X (e::es) tr)
  (hn:x≠"__name__":=by decide) (hdb:(x==("__debug__":Str))=false:=by decide) (he:starEach (e::es) X.env=(false,eval e X.env)::starEach es X.env:=by rfl) (hpl:(backTo pos (starEach es X.env)).any (·.1)=false:=by rfl) :
  UE X (.Call (.Name x p) (e::es) [] pos) (Bh o tr):=PE.imp (M8 hc hg hm hv ha hn hdb he hpl) fun σ H Q ⟨S,env,P,g,re,h,fin⟩ =>
 Ai ⟨g,re⟩ h fun vs xs S1 H1 le1 m1 rx h1=>l S1 H1 vs xs P Q m1.g rx h1 (fin.le le1)
variable{st:Stmt}{sts:List Stmt}{t u:UTS}
def Pn:UTS:=fun E env S=>E.nx env S
def D0(t u:UTS):UTS:=fun E env S=>t { E with nx:=u E } env S
theorem Ze:USs X [] Pn:=PSs.imp Tl fun D σ H ⟨S,env,E,g,re,h,fin⟩=>fin.nx σ env S H .refl g re h
theorem Zs(h1:US X st t)(h2:USs X sts u):USs X (st::sts) (D0 t u):=PSs.imp (Pu h1 h2) fun D σ H ⟨S,env,E,g,re,h,fin⟩ =>
 ⟨S,env,_,g,re,h,⟨fun σ' env' S' H' le g' re' hn=>⟨S',env',E,g',re',hn,fin.le le⟩,fin.rt,fin.bk,fin.ct⟩⟩
theorem Zo(h1:US X st t):USs X [st] t:=PSs.imp (U2 h1) fun _ _ _ h=>h
def Sk(te:UTE):UTS:=fun E env S=>te env S fun _ S1=>E.nx env S1
theorem Dq(he:UE X e te)(hs:swapsWith e none pos.line X.env=pure false:=by rfl):US X (.Expr e pos) (Sk te):=PS.imp (Uc he hs) fun D σ H ⟨S,env,E,g,re,h,fin⟩ =>
 Za ⟨g,re⟩ h fun v x S1 H1 le1 m1 rx h1=>fin.nx σ env S1 H1 le1 m1.g m1.re h1
def uRet(te:UTE):UTS:=fun E env S=>te env S E.rt
theorem Zr(he:UE X e te):US X (.Return (some e) pos) (uRet te):=PS.imp (Wr he) fun D σ H ⟨S,env,E,g,re,h,fin⟩ =>
 Za ⟨g,re⟩ h fun v x S1 H1 le1 m1 rx h1=>fin.rt v x S1 H1 le1 m1.g rx h1
def uIf(k:UTT)(t u:UTS):UTS:=fun E env S=>k env S fun b S1=>(b=true->t E env S1)/\(b=false->u E env S1)
theorem Ac{aa bb:List Stmt}(hc:UT X c tA)(ha:USs X aa t)(hb:USs X bb u):US X (.If c aa bb pos) (uIf tA t u):=PS.imp (ps_if hc ha hb) fun D σ H ⟨S,env,E,g,re,h,fin⟩ =>
 A9 ⟨g,re⟩ h fun k S1 H1 le1 m1 hk=>by
  cases k with
  |true=>rw[if_pos rfl];exact⟨S1,env,E,m1.g,m1.re,hk.1 rfl,fin.le le1⟩
  |false=>rw[if_neg Bool.false_ne_true];exact⟨S1,env,E,m1.g,m1.re,hk.2 rfl,fin.le le1⟩
def uSet(i:Nat)(te:UTE):UTS:=fun E env S=>te env S fun x S1=>E.nx (env.set i (some x)) S1
theorem Zt(i:Nat){x:Str}{pos':Pos}(hN:X.N.Nodup)(he:UE X e te)(hi:X.N[i]?=some x:=by rfl)(hx:Loc X.env.scope x:=by first|exact Or.inl rfl|exact Or.inr rfl)(hs:swapsWith e (some (.Name x pos')) pos.line X.env=pure false:=by rfl)
  (hf:X.fn x=true\/X.env.scope.names.lookup x=some .local:=by first|exact .inl rfl|exact .inr rfl):US X (.Assign [.Name x pos'] e pos) (uSet i te):=PS.imp (ps_set hN hi hx he hs hf) fun D σ H ⟨S,env,E,g,re,h,fin⟩ =>
 Za ⟨g,re⟩ h fun v y S1 H1 le1 m1 ry h1=>fin.nx _ _ S1 H1 le1 m1.g (m1.re.set ry) h1
def Jv(te to ti:UTE):UTS:=fun E env S=>te env S fun x S1=>to env S1 fun o S2=>ti env S2 fun i S3=>match o,i with
 | .ref p,.int k=>∃ts j,S3 p=some (.lst ts)/\ixN ts.length k=some j/\E.nx env (updT S3 p (.lst (ts.set j x)))
 |_,_=>False
theorem D7{o i:Expr}{to ti:UTE}{pos':Pos}(he:UE X e te)(ho:UE X o to)(hi:UE X i ti)
  (ha:∀v,assign (.Subscript o i pos') X.env v=(do
   let ov ← holding [v] (eval o X.env)
   let iv ← holding [v,ov] (eval i X.env)
   standAt pos'
   holding [v,ov,iv] (setItem ov iv v)
   release [v,ov,iv] []):=by intro _;rfl) (hs:swapsWithSole [.Subscript o i pos'] e pos.line X.env=pure false:=by rfl) (hw:swappedStores [.Subscript o i pos'] e X.env=pure none:=by rfl)
  (h1:(assignEach [.Subscript o i pos'] X.env).map (·.2)=[assign (.Subscript o i pos') X.env]:=by rfl):US X (.Assign [.Subscript o i pos'] e pos) (Jv te to ti) :=
 PS.imp (Oz he (W5 ho hi Sy ha) hs hw h1) fun D σ H ⟨S,env,E,g,re,h,fin⟩ =>
 Za ⟨g,re⟩ h fun v x S1 H1 le1 m1 rx h1=>Za m1 h1 fun ov o S2 H2 le2 m2 ro h2=>Za m2 h2 fun iv i S3 H3 le3 m3 ri h3=>by
  cases o with
  |ref p =>
   cases i with
   |int k =>
    obtain⟨ts,j,e1,e2,e3⟩:=h3
    obtain⟨vs,q,rv⟩:=m3.g p _ e1
    cases ro
    cases ri
    have rx3:=rx.mono (le2.trans le3)
    refine⟨p,vs,k,j,rfl,rfl,q,by rw[rv.1];exact e2,?_⟩
    exact fin.nx σ env _ _ (le1.trans (le2.trans (le3.trans (Le.write e1)))) (m3.g.writeL e1 (rv.set rx3)) (m3.re.mono (Le.write e1)) e3
   |_=>exact h3.elim
  |_=>exact h3.elim
end
end TL
end
section
namespace TL
open PySem PySem.Spec PyProof.Rows L2
structure Ylds(K:PySem.W.Frag)(J:It)(ts:List T)(S1:TH)(H1:Hp):Prop where
 go:∀(i:Nat) S2 H2,Le S1 H1 S2 H2->Good K S2 H2->i<ts.length->J.go i H2
 stop:∀S2 H2,Le S1 H1 S2 H2->Good K S2 H2->J.stop ts.length H2
 yld:∀(i:Nat) S2 H2 x H3,Le S1 H1 S2 H2->Good K S2 H2->i<ts.length->J.yld i H2 x H3->Le S2 H2 S2 H3/\Good K S2 H3/\∃t,ts[i]?=some t/\Rep K S2 H3 x t
def lfI(K:PySem.W.Frag)(t:UTA):TI:=fun σ H R=>∃S env P,Good K S H/\REnv K S H σ env/\t env S P/\∀ts J S1 H1,Le S H S1 H1->Good K S1 H1->P ts S1->Ylds K J ts S1 H1->R J H1
def UI(X:Cx)(tg iter:Expr)(t:UTA):Prop:=PI X tg iter (lfI X.K t)
abbrev UTG:=T->Ev->TH->(Ev->TH->Prop)->Prop
def lfG(K:PySem.W.Frag)(g:UTG):TG:=fun v σ H Q=>∃S env x P,Good K S H/\REnv K S H σ env/\Rep K S H v x/\g x env S P/\∀ σ' env' S' H',Le S H S' H'->Good K S' H'->REnv K S' H' σ' env'->P env' S'->Q σ' H'
def UG(X:Cx)(tg:Expr)(g:UTG):Prop:=PG X tg (lfG X.K g)
theorem PI.imp{X:Cx}{tg e:Expr}{t t':TI}(h:PI X tg e t)(i:∀ σ H R,t' σ H R->t σ H R):PI X tg e t':=fun pins s σ H R I q=>h pins s σ H R I (i σ H R q)
theorem PG.imp{X:Cx}{tg:Expr}{t t':TG}(h:PG X tg t)(i:∀v σ H Q,t' v σ H Q->t v σ H Q):PG X tg t':=fun pins s σ H v u Q I r q=>h pins s σ H v u Q I r (i v σ H Q q)
section
variable{K:PySem.W.Frag}{S:TH}{H:Hp}{a:Addr}{vs:List V}{ts:List T}
theorem Gp(f:∀S2 H2,Le S H S2 H2->SqL K H2 a vs)(r:Reps K S H vs ts):Ylds K (Itl K a) ts S H where
 go:=fun i S2 H2 le g hi=>⟨vs,vs[i]'(by rw[r.1];exact hi),(f S2 H2 le),List.getElem?_eq_getElem _⟩
 stop:=fun S2 H2 le g=>⟨vs,f S2 H2 le,by rw[r.1];exact Nat.le_refl _⟩
 yld:=fun i S2 H2 x H3 le g hi y=>by
  obtain⟨rfl,y⟩:=y
  obtain⟨t,et,rt⟩:=r.get' (y vs (f _ _ le))
  exact⟨.refl,g,t,et,rt.mono le⟩
theorem Sz(f:FT K S H a vs)(r:Reps K S H vs ts):Ylds K (Itt K a) ts S H where
 go:=fun i S2 H2 le g hi=>⟨vs,vs[i]'(by rw[r.1];exact hi),(f.mono le).sq,List.getElem?_eq_getElem _⟩
 stop:=fun S2 H2 le g=>⟨vs,(f.mono le).sq,by rw[r.1];exact Nat.le_refl _⟩
 yld:=fun i S2 H2 x H3 le g hi y=>by
  obtain⟨rfl,y⟩:=y
  obtain⟨t,et,rt⟩:=r.get' (y vs (f.mono le).sq)
  exact⟨.refl,g,t,et,rt.mono le⟩
def Db(n:Nat):List T:=(List.range n).map fun (k:Nat)=>T.int (k:Int)
theorem Zh(n:Nat):(Db n).length=n:=by simp[Db]
theorem Fj{n i:Nat}(h:i<n):(Db n)[i]?=some (.int i):=by simp[Db,h]
theorem Q2{n:Nat}:Ylds K (Itr 0 n) (Db n) S H where
 go:=fun i S2 H2 le g hi=>by rw[Zh] at hi;exact hi
 stop:=fun S2 H2 le g=>by rw[Zh];exact Nat.le_refl n
 yld:=fun i S2 H2 x H3 le g hi y=>by
  obtain⟨rfl,rfl⟩:=y
  rw[Zh] at hi
  refine⟨.refl,g,.int i,Fj hi,?_⟩
  rw[Int.zero_add]
  exact .int _
end
section
variable{X:Cx}{a b c e tg iter:Expr}{es:List Expr}{ta tb te:UTE}{tr:UTA}{pos:Pos}
def iSeq(K:PySem.W.Frag)(tl:TE):TI:=fun σ H R=>tl σ H fun x H1=>∃a,x=.ref a/\(((∃xs,SqL K H1 a xs)/\R (Itl K a) H1)\/((∃xs,SqT K H1 a xs)/\R (Itt K a) H1))
theorem Y5{tl:TE}(hl:PE X iter tl):PI X tg iter (iSeq X.K tl):=by
 intro pins s σ H R I h
 refine thn (hl pins s σ H _ I h) fun v s1 hv=>?_
 obtain⟨x,H1,I1,r1,q1⟩:=hv
 obtain⟨l,e,q⟩:=q1
 subst e
 cases r1
 rcases q with⟨⟨xs,hq⟩,q⟩|⟨⟨xs,hq⟩,q⟩
 ·obtain⟨its,rv,p,hz⟩:=I1.list hq
  exact wpAny_pyIter_list p.isList ⟨s1.heap.objs.size,[s1.heap.objs.size],_,_,H1,rfl,I1.kept (t':=s1.toks) (fun b o e=>Heap.get?_push_of_some _ e),Go l _,⟨_,Heap.get?_push_size _ rfl,rfl,rfl⟩,
   (fun b hb=>by rw[List.mem_singleton.mp hb];exact I1.fpOk (Nat.le_refl _) (I1.hok.fresh (Nat.le_refl _))),q⟩
 ·obtain⟨its,rv,p,hz⟩:=I1.tuple hq
  exact wpAny_pyIter_tuple (show s1.heap.IsTuple l its.toArray from p) ⟨s1.heap.objs.size,[s1.heap.objs.size],_,_,H1,rfl,I1.kept (t':=s1.toks) (fun b o e=>Heap.get?_push_of_some _ e),Fq l _,⟨_,Heap.get?_push_size _ rfl,rfl,rfl⟩,
   (fun b hb=>by rw[List.mem_singleton.mp hb];exact I1.fpOk (Nat.le_refl _) (I1.hok.fresh (Nat.le_refl _))),q⟩
def uRng1(t:UTA):UTA:=fun env S P=>t env S fun ts S1=>match ts with
 |[.int j]=>-(2 ^ 62)<=j/\j<2 ^ 62/\P (Db j.toNat) S1
 |_=>False
theorem Ba{p:Pos}(hg:Gl X "range")(hm:X.mg "range"=none)(ha:UA X [a] tr)(hs:starEach [a] X.env=[(false,eval a X.env)]:=by rfl):UI X tg (.Call (.Name "range" p) [a] [] pos) (uRng1 tr) :=
 PI.imp (Mv hg hm ha hs) fun σ H R ⟨S,env,P,g,re,h,fin⟩=>Ai ⟨g,re⟩ h fun vs xs S1 H1 le1 m1 rx h1=>by
  match xs,vs,rx,h1 with
  |[.int j],[v],rx,h1 =>
   have r0:=rx.head
   cases r0
   exact⟨j,rfl,h1.1,h1.2.1,fin _ _ S1 H1 le1 m1.g h1.2.2 Q2⟩
  |[.int j],[],rx,_=>exact absurd rx.1 (by simp)
  |[.int j],_::_::_,rx,_=>exact absurd rx.1 (by simp)
def gNm(i:Nat):UTG:=fun x env S P=>P (env.set i (some x)) S
theorem Ca(i:Nat){x:Str}(hN:X.N.Nodup)(hi:X.N[i]?=some x:=by rfl)(hx:Loc X.env.scope x:=by first|exact Or.inl rfl|exact Or.inr rfl)(hf:X.fn x=true\/X.env.scope.names.lookup x=some .local:=by first|exact .inl rfl|exact .inr rfl):
  UG X (.Name x pos) (gNm i):=PG.imp (Bj hN hi hx hf) fun v σ H Q ⟨S,env,x,P,g,re,rx,h,fin⟩=>fin _ _ S H .refl g (re.set rx) h
def gPr(i j:Nat):UTG:=fun x env S P=>match x with
 | .tup [x,y]=>P ((env.set i (some x)).set j (some y)) S
 |_=>False
variable{t:UTS}{body:List Stmt}{ti:UTA}{gg:UTG}
def uFor(ti:UTA)(gg:UTG)(tb:UTS):UTS:=fun E env S=>ti env S fun ts S1=>∃Iv:Nat->Ev->TH->Prop,Iv 0 env S1 ∧
 (∀k x env S,ts[k]?=some x->Iv k env S->gg x env S fun env' S'=>tb { E with nx:=Iv (k+1),ct:=Iv (k+1),bk:=E.nx } env' S')/\∀env S,Iv ts.length env S->E.nx env S
theorem Dj(hp:PassesOwn (model X.prog X.w) X.A X.env X.xe)(hc:X.calm=true)(hi:UI X tg iter ti)(hg:UG X tg gg)(hb:USs X body t)(hs:∀x,foldedSetIterable iter X.env x=pure x:=by intro _;rfl):
  US X (.For tg iter body [] pos) (uFor ti gg t):=PS.imp (P2 hp hc hi hg hb hs) fun D σ H h=>by
 obtain⟨S,env,E,g,re,h,fin⟩:=h
 refine⟨S,env,_,g,re,h,fun ts J S1 H1 le1 g1 hq yl=>?_⟩
 obtain⟨Iv,i0,step,done⟩:=hq
 refine⟨fun i m σ' H'=>m=ts.length - i/\i<=ts.length/\∃S' env',Le S1 H1 S' H'/\Good X.K S' H'/\REnv X.K S' H' σ' env'/\Iv i env' S',⟨ts.length,rfl,Nat.zero_le _,S1,env,.refl,g1,re.mono le1,i0⟩,?_⟩
 rintro i m σ' H' ⟨rfl,hi,S',env',le',g',re',iv⟩
 by_cases hlt:i<ts.length
 ·refine .inr ⟨yl.go i S' H' le' g' hlt,fun σ2 H2=>∃S2 env2,Le S1 H1 S2 H2/\Good X.K S2 H2/\REnv X.K S2 H2 σ2 env2/\Iv (i+1) env2 S2,fun σ2 H2 z=>?_,fun x H2 y=>?_⟩
  ·exact⟨ts.length - (i+1),by omega,rfl,hlt,z⟩
  ·obtain⟨le2,g2,tt,et,rt⟩:=yl.yld i S' H' x H2 le' g' hlt y
   refine⟨S',env',tt,_,g2,re'.mono le2,rt,step i tt env' S' et iv,fun σ3 env3 S3 H3 le3 g3 re3 hb3=>?_⟩
   have l03:Le S H S3 H3:=le1.trans (le'.trans (le2.trans le3))
   have l13:Le S1 H1 S3 H3:=le'.trans (le2.trans le3)
   refine⟨S3,env3,_,g3,re3,hb3,⟨fun σ4 env4 S4 H4 le4 g4 re4 q=>⟨S4,env4,l13.trans le4,g4,re4,q⟩,fun v r S4 H4 le4 g4 rp q=>fin.rt v r S4 H4 (l03.trans le4) g4 rp q,fun σ4 env4 S4 H4 le4 g4 re4 q=>fin.nx σ4 env4 S4 H4 (l03.trans le4) g4 re4 q,fun σ4 env4 S4 H4 le4 g4 re4 q=>⟨S4,env4,l13.trans le4,g4,re4,q⟩⟩⟩
 ·have ei:i=ts.length:=by omega
  subst ei
  exact .inl ⟨yl.stop S' H' le' g',fin.nx σ' env' S' H' (le1.trans le') g' re' (done env' S' iv)⟩
def Wu(k:UTT)(tb:UTS):UTS:=fun E env S=>∃Iv:Nat->Ev->TH->Prop,(∃m,Iv m env S)/\∀m env S,Iv m env S->k env S fun b S1 =>
 (b=true->tb { E with nx:=fun env' S'=>∃m',m'<m/\Iv m' env' S',ct:=fun env' S'=>∃m',m'<m/\Iv m' env' S',bk:=E.nx } env S1)/\(b=false->E.nx env S1)
theorem P3{tA:UTT}(hp:PassesOwn (model X.prog X.w) X.A X.env X.xe)(hc:UT X c tA)(hb:USs X body t):US X (.While c body [] pos) (Wu tA t):=PS.imp (Pb hp hc hb) fun D σ H h=>by
 obtain⟨S,env,E,g,re,⟨Iv,⟨m0,i0⟩,step⟩,fin⟩:=h
 refine⟨fun m σ' H'=>∃S' env',Le S H S' H'/\Good X.K S' H'/\REnv X.K S' H' σ' env'/\Iv m env' S',⟨m0,S,env,.refl,g,re,i0⟩,?_⟩
 rintro m σ' H' ⟨S',env',le',g',re',iv⟩
 refine A9 ⟨g',re'⟩ (step m env' S' iv) fun k S1 H1 le1 m1 hk=>?_
 cases k with
 |false=>rw[if_neg Bool.false_ne_true];exact fin.nx σ' env' S1 H1 (le'.trans le1) m1.g m1.re (hk.2 rfl)
 |true =>
  rw[if_pos rfl]
  refine⟨fun σ2 H2=>∃m',m'<m/\∃S2 env2,Le S H S2 H2/\Good X.K S2 H2/\REnv X.K S2 H2 σ2 env2/\Iv m' env2 S2,fun σ2 H2 z=>z,S1,env',_,m1.g,m1.re,hk.1 rfl,?_⟩
  have l01:Le S H S1 H1:=le'.trans le1
  exact⟨fun σ4 env4 S4 H4 le4 g4 re4 ⟨m',hm,q⟩=>⟨m',hm,S4,env4,l01.trans le4,g4,re4,q⟩,fun v r S4 H4 le4 g4 rp q=>fin.rt v r S4 H4 (l01.trans le4) g4 rp q,fun σ4 env4 S4 H4 le4 g4 re4 q=>fin.nx σ4 env4 S4 H4 (l01.trans le4) g4 re4 q,fun σ4 env4 S4 H4 le4 g4 re4 ⟨m',hm,q⟩=>⟨m',hm,S4,env4,l01.trans le4,g4,re4,q⟩⟩
def B1(pick:List (Option Nat))(env:Ev):Ev:=pick.map fun o=>match o with
 |none=>none
 |some j=>match env[j]? with
  |some (some v)=>some v
  |_=>none
def Aq(pick:List (Option Nat))(ti:UTA)(gg:UTG)(tc:UTT)(te:UTE):UTE:=fun env S P=>ti env S fun ts S1=>ts.length<=sizeLine/\∃Iv:Nat->List T->TH->Prop,Iv 0 [] S1 ∧
 (∀k x acc S,ts[k]?=some x->Iv k acc S->gg x (B1 pick env) S fun env' S'=>tc env' S' fun b S2=>(b=true->te env' S2 fun r S3=>Iv (k+1) (acc++[r]) S3)/\(b=false->Iv (k+1) acc S2)) ∧
 ∀acc S,Iv ts.length acc S->P (.lst acc) S
end
theorem REnv.pick{K:PySem.W.Frag}{S:TH}{H:Hp}{σ:L2.St}{env:Ev}(h:REnv K S H σ env)(pick:List (Option Nat)):REnv K S H (Xq pick σ) (B1 pick env):=by
 refine⟨by simp[Xq,B1],fun i t e=>?_⟩
 unfold B1 at e
 unfold Xq
 rw[List.getElem?_map] at e ⊢
 cases ep:pick[i]? with
 |none=>rw[ep] at e;cases e
 |some o =>
  rw[ep] at e
  cases o with
  |none=>cases e
  |some j =>
   cases ev:env[j]? with
   |none=>simp only[ev,Option.map_some,Option.some.injEq] at e;cases e
   |some ov =>
    cases ov with
    |none=>simp only[ev,Option.map_some,Option.some.injEq] at e;cases e
    |some t' =>
     simp only[ev,Option.map_some,Option.some.injEq] at e
     subst e
     obtain⟨v,e',r⟩:=h.2 j _ ev
     exact⟨v,by simp only[Option.map_some,e'],r⟩
theorem B7{pick:List (Option Nat)}{σ:L2.St}{i:Nat}{v:V}(h:pick[i]?=some none):Ni (Xq pick σ) ((Xq pick σ).set i (some v)):=by
 refine⟨by simp,fun j w e=>?_⟩
 by_cases hj:i=j
 ·subst hj
  unfold Xq at e
  rw[List.getElem?_map,h] at e
  cases e
 ·rw[List.getElem?_set_ne hj];exact e
theorem Na{pick:List (Option Nat)}{σ:L2.St}{i j:Nat}{v w:V}(h:pick[i]?=some none)(h':pick[j]?=some none):Ni (Xq pick σ) (((Xq pick σ).set i (some v)).set j (some w)):=by
 obtain⟨a1,a2⟩:=B7 (σ:=σ) (v:=v) h
 refine⟨by simp,fun k x e=>?_⟩
 by_cases hj:j=k
 ·subst hj
  unfold Xq at e
  rw[List.getElem?_map,h'] at e
  cases e
 ·rw[List.getElem?_set_ne hj];exact a2 k x e
section
variable{X:Cx}{elt iter:Expr}{ti:UTA}{tc:UTT}{te:UTE}{pos:Pos}{scope:Scope}{ifs:List Expr}{N:List Str}{pick:List (Option Nat)}
theorem C4{K:PySem.W.Frag}{g:TG}{gg:UTG}{σ:L2.St}{H:Hp}{Q:VK}
  (hg:∀x tt S1 H1 env (k:Ev->TH->Prop) (R:L2.St->Hp->Prop),Good K S1 H1->REnv K S1 H1 (Xq pick σ) (B1 pick env)->Rep K S1 H1 x tt->gg tt (B1 pick env) S1 k →
   (∀ σ2 env2,REnv K S1 H1 σ2 env2->k env2 S1->R σ2 H1)->g x (Xq pick σ) H1 fun σ2 H2=>Ni (Xq pick σ) σ2/\R σ2 H2)
  (h:lf K (Aq pick ti gg tc te) σ H Q):Ex pick (lfI K ti) g (lfT K tc) (lf K te) σ H Q:=by
 obtain⟨S,env,P,gd,re,h,fin⟩:=h
 refine⟨S,env,_,gd,re,h,fun ts J S1 H1 le1 g1 hq yl=>?_⟩
 obtain⟨hz,Iv,i0,step,done⟩:=hq
 refine⟨fun k m acc H'=>m=ts.length - k/\k<=ts.length/\acc.length<=k/\∃S' racc,Le S1 H1 S' H'/\Good K S' H'/\Reps K S' H' acc racc/\Iv k racc S',⟨ts.length,rfl,Nat.zero_le _,Nat.le_refl _,S1,[],.refl,g1,.nil,i0⟩,?_⟩
 rintro k m acc H' ⟨rfl,hk,ha,S',racc,le',g',ra,iv⟩
 by_cases hlt:k<ts.length
 ·refine .inr ⟨yl.go k S' H' le' g' hlt,by omega,fun acc' H2=>acc'.length<=k+1/\∃S2 racc',Le S1 H1 S2 H2/\Good K S2 H2/\Reps K S2 H2 acc' racc'/\Iv (k+1) racc' S2,fun acc' H2 z=>⟨ts.length - (k+1),by omega,rfl,hlt,z.1,z.2⟩,fun x H2 y=>?_⟩
  obtain⟨le2,g2,tt,et,rt⟩:=yl.yld k S' H' x H2 le' g' hlt y
  have l02:Le S H S' H2:=le1.trans (le'.trans le2)
  refine hg x tt S' H2 env _ _ g2 ((re.mono l02).pick pick) rt (step k tt racc S' et iv) fun σ2 env2 re2 h2=>?_
  refine A9 ⟨g2,re2⟩ h2 fun b S3 H3 le3 m3 hb=>?_
  have l13:Le S1 H1 S3 H3:=le'.trans (le2.trans le3)
  have r3:=ra.mono (le2.trans le3)
  cases b with
  |false=>rw[if_neg Bool.false_ne_true];exact⟨by omega,S3,racc,l13,m3.g,r3,hb.2 rfl⟩
  |true =>
   rw[if_pos rfl]
   refine Za m3 (hb.1 rfl) fun w r S4 H4 le4 m4 rw4 h4=>?_
   exact⟨by rw[List.length_append,List.length_singleton];omega,S4,racc++[r],l13.trans le4,m4.g,(r3.mono le4).append (.cons rw4 .nil),h4⟩
 ·have ek:k=ts.length:=by omega
  subst ek
  exact .inl ⟨yl.stop S' H' le' g',by omega,fun p hp=>A8 (fin.le (le1.trans le')) g' hp ra (done racc S' iv)⟩
theorem Xg(i:Nat)(N:List Str)(pick:List (Option Nat)){x:Str}{px:Pos}(hc:X.calm=true)(hi:UI X (.Name x px) iter ti)(ht:∀C s H fp pins,PTs (Xl X N scope C s H fp pins) ifs (lfT X.K tc))(he:∀C s H fp pins,UE (Xl X N scope C s H fp pins) elt te)
  (hs:scopeOk X.env.scope.names scope.names=true:=by rfl) (hp:A2 X.N scope.names N pick=true:=by rfl) (hk:scope.kind=.function:=by rfl) (hN:N.Nodup:=by decide +kernel)
  (hiN:N[i]?=some x:=by rfl) (hpi:pick[i]?=some none:=by rfl) (hloc:scope.names.lookup x=some .local:=by rfl) (hfs:∀x,foldedSetIterable iter X.env x=pure x:=by intro _;rfl) :
  UE X (.ListComp elt [⟨.Name x px,iter,ifs,0⟩] scope pos) (Aq pick ti (gNm i) tc te) :=
 PE.imp (Hc hc hs hp hk hi (fun C s H fp pins=>Bj (i:=i) hN hiN (.inl (lookup_relabel_local hloc)) (.inr (lookup_relabel_local hloc))) ht (te:=lf X.K te) he hfs) fun σ H Q h =>
  C4 (fun y tt S1 H1 env k R gd re rt hg hR=>⟨B7 hpi,hR _ _ (re.set rt) hg⟩) h
theorem Jm(i j:Nat)(N:List Str)(pick:List (Option Nat)){x y:Str}{p1 p2 p3:Pos}{kk:Nat}(hc:X.calm=true)(hi:UI X (.Tuple [.Name x p1,.Name y p2] kk p3) iter ti)(ht:∀C s H fp pins,PTs (Xl X N scope C s H fp pins) ifs (lfT X.K tc))
  (he:∀C s H fp pins,UE (Xl X N scope C s H fp pins) elt te)
  (hs:scopeOk X.env.scope.names scope.names=true:=by rfl) (hp:A2 X.N scope.names N pick=true:=by rfl) (hk:scope.kind=.function:=by rfl) (hN:N.Nodup:=by decide +kernel)
  (hiN:N[i]?=some x:=by rfl) (hpi:pick[i]?=some none:=by rfl) (hloc:scope.names.lookup x=some .local:=by rfl) (hjN:N[j]?=some y:=by rfl) (hpj:pick[j]?=some none:=by rfl) (hloc':scope.names.lookup y=some .local:=by rfl)
  (hfs:∀x,foldedSetIterable iter X.env x=pure x:=by intro _;rfl) :
  UE X (.ListComp elt [⟨.Tuple [.Name x p1,.Name y p2] kk p3,iter,ifs,0⟩] scope pos) (Aq pick ti (gPr i j) tc te) :=
 PE.imp (Hc (g:=gTup X.K 2 (Pf (Gg i) (Pf (Gg j) gNil))) hc hs hp hk hi (fun C s H fp pins=>Q9 (X:=Xl X N scope C s H fp pins) (n:=2) hc (Fk (Bj (X:=Xl X N scope C s H fp pins) (i:=i) hN hiN (.inl (lookup_relabel_local hloc)) (.inr (lookup_relabel_local hloc))) (Fk (Bj (X:=Xl X N scope C s H fp pins) (i:=j) hN hjN (.inl (lookup_relabel_local hloc')) (.inr (lookup_relabel_local hloc'))) L4))) ht (te:=lf X.K te) he hfs) fun σ H Q h =>
  C4 (fun v tt S1 H1 env k R gd re rt hg hR=>by
   cases tt with
   |tup ts =>
    match ts,hg with
    |[a,b],hg =>
     obtain⟨l,vs,rfl,f,r⟩:=rt.tupE
     match vs,f,r with
     |[v,w],f,r=>exact⟨l,[v,w],rfl,f.sq,rfl,v,[w],rfl,w,[],rfl,rfl,Na hpi hpj,hR _ _ ((re.set r.head).set r.tail.head) hg⟩
     |[],_,r=>exact absurd r.1 (by simp)
     |[_],_,r=>exact absurd r.1 (by simp)
     |_::_::_::_,_,r=>exact absurd r.1 (by simp)
   |_=>exact hg.elim) h
def uYes:UTT:=fun _ S P=>P true S
theorem Al:PTs X [] (lfT X.K uYes):=fun pins s σ H Q I h=>U4 pins s σ H Q I (by
 obtain⟨S,env,P,g,re,h,fin⟩:=h
 exact fin true S H .refl g h)
theorem C5{c:Expr}(h:UT X c tc):PTs X [c] (lfT X.K tc):=T9 h
end
def Xm(N:List Str)(ts:List T):Ev:=ts.map some++List.replicate (N.length - ts.length) none
section
variable{P:Program}{w:World}{K:PySem.W.Frag}{mg:Str->Option Value}{base:Heap}
theorem J9{S:TH}{H:Hp}{N:List Str}{vs:List V}{ts:List T}(r:Reps K S H vs ts):REnv K S H (L2.Cp N vs) (Xm N ts):=by
 refine⟨by simp[L2.Cp,Xm,r.1],fun i t e=>?_⟩
 unfold Xm at e
 unfold L2.Cp
 by_cases hi:i<ts.length
 ·rw[List.getElem?_append_left (by simpa using hi),List.getElem?_map] at e
  cases et:ts[i]? with
  |none=>rw[et] at e;cases e
  |some t' =>
   rw[et] at e
   cases e
   obtain⟨v,ev,rv⟩:=r.get et
   refine⟨v,?_,rv⟩
   rw[List.getElem?_append_left (by simp[r.1];exact hi),List.getElem?_map,ev]
   rfl
 ·rw[List.getElem?_append_right (by simpa using hi),List.getElem?_replicate] at e
  split at e <;> cases e
theorem Mi{x qual:Str}{st:Stmt}{f:Addr}{fd:FuncData}{N ps:List Str}{k:Nat}{t:List T->TH->UX->Prop}(F:Fun K x qual st f fd)(Sc:Zv N ps (Zb st))(hl:∀ts S Pp,t ts S Pp->ts.length=ps.length)
  (hb:∀(cdv:Value) (A:Around) (outer:List Env) (s:Shared) (H:Hp) (E:XK),Room k (A.deeper (envOfC qual (Zb st) s.heap.objs.size f cdv)) →
   ∃tb,USs (cxOf CX0 P w K mg base N qual (Zb st) f cdv A outer s H E).nox (defBody st) tb/\∀ts S Pp,t ts S Pp->tb { nx:=fun _ S'=>Pp .non S',rt:=Pp } (Xm N ts) S) :
  FnOk P w K mg base CX0 (k+1) f fd ps (spU K t):=by
 refine F.ok Sc (fun vs H Q E h=>?_) (fun cdv A outer s H vs Q E hr h=>?_)
 ·obtain⟨S,ts,Pp,_,r,h,_⟩:=h
  rw[r.1]
  exact hl ts S Pp h
 ·obtain⟨S,ts,Pp,g,r,h,fin⟩:=h
  obtain⟨tb,hu,hq⟩:=hb cdv A outer s H E hr
  refine⟨_,hu,S,Xm N ts,_,g,J9 r,hq ts S Pp h,⟨fun σ' env' S' H' le g' re' q=>fin .non .non S' H' le g' .non q,fun v r' S' H' le g' rp q=>fin v r' S' H' le g' rp q,fun _ _ _ _ _ _ _ z=>z.elim,fun _ _ _ _ _ _ _ z=>z.elim⟩⟩
theorem Wv{f:Addr}{fd:FuncData}{ps:List Str}{k:Nat}{t:List T->TH->UX->Prop}(h:∀ts S Pp,¬ t ts S Pp):FnOk P w K mg base CX0 k f fd ps (spU K t):=by
 have no:∀vs H Q E,¬ spU K t vs H Q E:=fun vs H Q E z=>by
  obtain⟨S,ts,Pp,_,_,z,_⟩:=z
  exact h ts S Pp z
 exact⟨fun vs H Q E z=>absurd z (no vs H Q E),fun A outer s H args us vs Q E _ _ _ _ z=>absurd z (no vs H Q E)⟩
end
end TL
end
section
namespace L2
open PySem PySem.Spec PyProof.Rows
end L2
namespace TL
open PySem PySem.Spec PyProof.Rows L2
section
variable{K:PySem.W.Frag}{S:TH}{H:Hp}{vs:List V}{ts:List T}{t:T}{i:Int}
theorem Reps.at(h:Reps K S H vs ts)(e:atI ts i=some t):∃v,atI vs i=some v/\Rep K S H v t:=by
 unfold atI at e ⊢
 rw[h.1]
 cases q:ixN ts.length i with
 |none=>rw[q] at e;cases e
 |some j =>
  rw[q] at e
  exact h.get e
def oIx:T->T->TH->UX->Prop:=fun x y S P=>match x,y with
 | .lst ts,.int i=>∃t,atI ts i=some t/\P t S
 | .fls ts,.int i=>∃t,atI ts i=some t/\P t S
 | .tup ts,.int i=>∃t,atI ts i=some t/\P t S
 | .str z,.int i=>z.length<=sizeLine/\∃c,atI z.cps.toList i=some c/\P (.str ⟨#[c]⟩) S
 | .ref p,.int i=>∃ts,S p=some (.lst ts)/\∃t,atI ts i=some t/\P t S
 |_,_=>False
theorem lIx:LOp K (rIx K) oIx:=fun S H v w x y P Q g rx ry ho fin=>by
 have go:∀{ts:List T} {vs:List V} {i:Int} {a:Addr},Reps K S H vs ts->(∃t,atI ts i=some t/\P t S)->∃v t,atI vs i=some v/\Rep K S H v t/\P t S:=fun {ts vs i a} r h=>by
  obtain⟨t,e,h⟩:=h
  obtain⟨v,ev,rv⟩:=r.at e
  exact⟨v,t,ev,rv,h⟩
 cases y with
 |int i =>
  cases ry
  cases x with
  |lst ts =>
   obtain⟨a,vs,rfl,f,r⟩:=rx.lstE
   obtain⟨u,t,e,ru,hp⟩:=go (a:=a) r ho
   exact .inl ⟨a,vs,i,u,rfl,rfl,f.sq,e,fin u t S H .refl g ru hp⟩
  |fls ts =>
   obtain⟨a,vs,rfl,f,r⟩:=rx.flsE
   obtain⟨u,t,e,ru,hp⟩:=go (a:=a) r ho
   exact .inl ⟨a,vs,i,u,rfl,rfl,f.sq,e,fin u t S H .refl g ru hp⟩
  |tup ts =>
   obtain⟨a,vs,rfl,f,r⟩:=rx.tupE
   obtain⟨u,t,e,ru,hp⟩:=go (a:=a) r ho
   exact .inr (.inl ⟨a,vs,i,u,rfl,rfl,f.sq,e,fin u t S H .refl g ru hp⟩)
  |str z =>
   cases rx
   obtain⟨hz,c,e,ho⟩:=ho
   exact .inr (.inr ⟨z,i,c,rfl,rfl,hz,e,fin _ _ S H .refl g (.str _) ho⟩)
  |ref p =>
   cases rx
   obtain⟨ts,e,ho⟩:=ho
   obtain⟨vs,q,r⟩:=g p _ e
   obtain⟨u,t,e',ru,hp⟩:=go (a:=p) r ho
   exact .inl ⟨p,vs,i,u,rfl,rfl,SqL.of q,e',fin u t S H .refl g ru hp⟩
  |_=>exact ho.elim
 |_=>cases x <;> exact ho.elim
end
section
variable{X:Cx}{a b c e:Expr}{es:List Expr}{ta tb te:UTE}{tr:UTA}{pos:Pos}
theorem Zx(ha:UE X a ta)(hb:UE X b tb)(hs:Lf b:=by intro _ _;rfl):UE X (.Subscript a b pos) (A0 oIx ta tb):=PE.imp (pe_ix Yb ha hb hs) fun _ _ _ h=>Gj lIx h
def keyT:T->Option Key
 | .int i=>some (.inl i)
 | .str x=>some (.inr x)
 |_=>none
def valT(kts:List (Key×T))(k:Key):Option T:=(kts.find? fun kv=>decide (kv.1=k)).map (·.2)
theorem Jr{K:PySem.W.Frag}{S:TH}{H:Hp}{v:V}{t:T}{k:Key}(r:Rep K S H v t)(e:keyT t=some k):v=kV k:=by
 cases t with
 |int i=>cases r;cases e;rfl
 |str x=>cases r;cases e;rfl
 |_=>cases e
theorem RepK.val{K:PySem.W.Frag}{S:TH}{H:Hp}{k:Key}:∀{kvs:List (Key×V)} {kts:List (Key×T)},RepK K S H kvs kts->(∀t,valT kts k=some t->∃v,valV kvs k=some v/\Rep K S H v t)/\(valT kts k=none->valV kvs k=none)
 |[],[],_=>⟨fun t e=>(by simp[valT] at e),fun _=>rfl⟩
 |[],_::_,h=>by have:=h.1;simp at this
 |_::_,[],h=>by have:=h.1;simp at this
 |v::kvs,t::kts,h=>by
  have h0:=h.2 0 v t rfl rfl
  have ht:RepK K S H kvs kts:=⟨by simpa using h.1,fun i v' t' e1 e2=>h.2 (i+1) v' t' (by simpa using e1) (by simpa using e2)⟩
  have ih:=RepK.val (k:=k) ht
  by_cases e:t.1=k
  ·have e':v.1=k:=h0.1.trans e
   have q1:valT (t::kts) k=some t.2:=by simp[valT,List.find?_cons,e]
   have q2:valV (v::kvs) k=some v.2:=by simp[valV,List.find?_cons,e']
   rw[q1,q2]
   exact⟨fun t' z=>by cases z;exact⟨_,rfl,h0.2⟩,fun z=>by cases z⟩
  ·have e':¬ v.1=k:=fun z=>e (h0.1.symm.trans z)
   have q1:valT (t::kts) k=valT kts k:=by simp[valT,List.find?_cons,e]
   have q2:valV (v::kvs) k=valV kvs k:=by simp[valV,List.find?_cons,e']
   rw[q1,q2]
   exact ih
def oDx:T->T->TH->UX->Prop:=fun x y S P=>match x with
 | .dct kts=>∃k t,keyT y=some k/\valT kts k=some t/\P t S
 | .ref p=>∃kts,S p=some (.dct kts)/\∃k t,keyT y=some k/\valT kts k=some t/\P t S
 |_=>False
theorem lDx{K:PySem.W.Frag}:LOp K (fun x y H Q=>∃a v,x=.ref a/\DGet H a y (some v)/\Q v H) oDx:=fun S H v w x y P Q g rx ry ho fin=>by
 have go:∀{kts:List (Key×T)} {kvs:List (Key×V)} {a:Addr},H a=some (.dK kvs)->RepK K S H kvs kts->(∃k t,keyT y=some k/\valT kts k=some t/\P t S)->∃b u,V.ref a=.ref b/\DGet H b w (some u)/\Q u H:=fun {kts kvs a} hH r h=>by
  obtain⟨k,t,e,e2,h⟩:=h
  obtain⟨u,eu,ru⟩:=(r.val (k:=k)).1 t e2
  refine⟨a,u,rfl,?_,fin u t S H .refl g ru h⟩
  rw[Jr ry e,<-eu]
  exact DGet.k hH
 cases x with
 |dct kts =>
  obtain⟨a,kvs,rfl,n,hH,r⟩:=rx.dctE
  exact go hH r ho
 |ref p =>
  cases rx
  obtain⟨kts,e,ho⟩:=ho
  obtain⟨kvs,q,r⟩:=g p _ e
  exact go q r ho
 |_=>exact ho.elim
theorem Rg(hu:X.A.units+1<cLine)(ha:UE X a ta)(hb:UE X b tb)(hs:Nu b:=by intro _ _;rfl):UE X (.Subscript a b pos) (A0 oDx ta tb):=PE.imp (K5 hu ha hb hs) fun _ _ _ h=>Gj lDx h
def cutA{α:Type}(xs:List α)(lo hi:Option Int):List α:=(xs.drop (HT.sIx xs.length 0 lo)).take (HT.sIx xs.length xs.length hi - HT.sIx xs.length 0 lo)
theorem Reps.cut{K:PySem.W.Frag}{S:TH}{H:Hp}{vs:List V}{ts:List T}(h:Reps K S H vs ts)(lo hi:Option Int):Reps K S H (Hb vs lo hi) (cutA ts lo hi):=by
 unfold Hb cutA
 rw[h.1]
 exact(h.drop _).take _
abbrev UTO:=Ev->TH->(Option Int->TH->Prop)->Prop
def lfO(K:PySem.W.Frag)(t:UTO):TO:=fun σ H Q=>∃S env P,Good K S H/\REnv K S H σ env/\t env S P/\∀o S' H',Le S H S' H'->Good K S' H'->P o S'->Q o H'
def UO(X:Cx)(e:Option Expr)(t:UTO):Prop:=PO X e (lfO X.K t)
theorem PO.imp{X:Cx}{e:Option Expr}{t t':TO}(h:PO X e t)(i:∀ σ H Q,t' σ H Q->t σ H Q):PO X e t':=fun pins s σ H Q I q=>h pins s σ H Q I (i σ H Q q)
def uoN:UTO:=fun _ S P=>P none S
def uoS(t:UTE):UTO:=fun env S P=>t env S fun x S1=>match x with
 | .int i=>P (some i) S1
 |_=>False
theorem Cc:UO X none uoN:=PO.imp Ui fun σ H Q ⟨S,env,P,g,re,h,fin⟩=>fin none S H .refl g h
theorem A7(h:UE X e te):UO X (some e) (uoS te):=PO.imp (Ty h) fun σ H Q ⟨S,env,P,g,re,h,fin⟩=>Za ⟨g,re⟩ h fun v x S1 H1 le1 m1 rx h1=>by
 cases x with
 |int i=>cases rx;exact⟨i,rfl,fin _ S1 H1 le1 m1.g h1⟩
 |_=>exact h1.elim
def Ox(xs:List T)(S:TH)(P:UX):Prop:=match xs with
 |[.lst ts]=>P (.int ts.length) S
 |[.fls ts]=>P (.int ts.length) S
 |[.tup ts]=>P (.int ts.length) S
 |[.str z]=>z.length<=sizeLine/\P (.int z.length) S
 |[.ref p]=>∃ts,S p=some (.lst ts)/\P (.int ts.length) S
 |_=>False
theorem Reps.one{K:PySem.W.Frag}{S:TH}{H:Hp}{vs:List V}{t:T}(h:Reps K S H vs [t]):∃v,vs=[v]/\Rep K S H v t:=by
 match vs,h with
 |[v],h=>exact⟨v,rfl,h.head⟩
 |[],h=>exact absurd h.1 (by simp)
 |_::_::_,h=>exact absurd h.1 (by simp)
theorem Reps.two{K:PySem.W.Frag}{S:TH}{H:Hp}{vs:List V}{t u:T}(h:Reps K S H vs [t,u]):∃v w,vs=[v,w]/\Rep K S H v t/\Rep K S H w u:=by
 match vs,h with
 |[v,w],h=>exact⟨v,w,rfl,h.head,h.tail.head⟩
 |[],h=>exact absurd h.1 (by simp)
 |[_],h=>exact absurd h.1 (by simp)
 |_::_::_::_,h=>exact absurd h.1 (by simp)
theorem lLen{K:PySem.W.Frag}:Dt K (fun xs H Q=>(∃p ys,xs=[.ref p]/\(SqL K H p ys\/SqT K H p ys)/\Q (.int ys.length) H)\/(∃z,xs=[.str z]/\z.length<=sizeLine/\Q (.int z.length) H)) Ox:=fun S H vs xs P Q g r ho fin=>by
 match xs,r,ho with
 |[x],r,ho =>
  obtain⟨v,rfl,rx⟩:=r.one
  cases x with
  |lst ts =>
   obtain⟨a,us,rfl,f,r⟩:=rx.lstE
   refine .inl ⟨a,us,rfl,.inl f.sq,?_⟩
   rw[r.1]
   exact fin _ _ S H .refl g (.int _) ho
  |fls ts =>
   obtain⟨a,us,rfl,f,r⟩:=rx.flsE
   refine .inl ⟨a,us,rfl,.inl f.sq,?_⟩
   rw[r.1]
   exact fin _ _ S H .refl g (.int _) ho
  |tup ts =>
   obtain⟨a,us,rfl,f,r⟩:=rx.tupE
   refine .inl ⟨a,us,rfl,.inr f.sq,?_⟩
   rw[r.1]
   exact fin _ _ S H .refl g (.int _) ho
  |str z=>cases rx;exact .inr ⟨z,rfl,ho.1,fin _ _ S H .refl g (.int _) ho.2⟩
  |ref p =>
   cases rx
   obtain⟨ts,e,ho⟩:=ho
   obtain⟨us,q,r⟩:=g p _ e
   refine .inl ⟨p,us,rfl,.inl (SqL.of q),?_⟩
   rw[r.1]
   exact fin _ _ S H .refl g (.int _) ho
  |_=>exact ho.elim
 |[],_,ho=>exact ho.elim
 |_::_::_,_,ho=>exact(by revert ho;simp[Ox])
theorem Zl{p:Pos}(hg:Gl X "len")(hm:X.mg "len"=none)(ha:UA X [e] tr)(he:starEach [e] X.env=(false,eval e X.env)::starEach [] X.env:=by rfl):UE X (.Call (.Name "len" p) [e] [] pos) (Bh Ox tr):=Bn (call_len_seq.or Hv) lLen hg hm PySem.boot_len ha (he:=he)
def Ic(xs:List T)(S:TH)(P:UX):Prop:=match xs with
 |[.lst ts]=>P (.lst ts) S
 |[.tup ts]=>P (.lst ts) S
 |_=>False
theorem lList{K:PySem.W.Frag}:Dt K (fun xs H Q=>∃p ys,xs=[.ref p]/\(SqL K H p ys\/SqT K H p ys)/\∀l,H l=none->Q (.ref l) (upd H l (.lst ys))) Ic:=fun S H vs xs P Q g r ho fin=>by
 match xs,r,ho with
 |[x],r,ho =>
  obtain⟨v,rfl,rx⟩:=r.one
  cases x with
  |lst ts =>
   obtain⟨a,us,rfl,f,r⟩:=rx.lstE
   exact⟨a,us,rfl,.inl f.sq,fun p hp=>A8 fin g hp r ho⟩
  |tup ts =>
   obtain⟨a,us,rfl,f,r⟩:=rx.tupE
   exact⟨a,us,rfl,.inr f.sq,fun p hp=>A8 fin g hp r ho⟩
  |_=>exact ho.elim
 |[],_,ho=>exact ho.elim
 |_::_::_,_,ho=>exact(by revert ho;simp[Ic])
def Qb(xs:List T)(S:TH)(P:UX):Prop:=match xs with
 |[.int i]=>P (.int i) S
 |[.bl k]=>P (.int (if k then 1 else 0)) S
 |_=>False
theorem lInt{K:PySem.W.Frag}:Dt K (fun xs H Q=>(∃i,xs=[.int i]/\Q (.int i) H)\/∃k,xs=[.bl k]/\Q (.int (if k then 1 else 0)) H) Qb:=fun S H vs xs P Q g r ho fin=>by
 match xs,r,ho with
 |[x],r,ho =>
  obtain⟨v,rfl,rx⟩:=r.one
  cases x with
  |int i=>cases rx;exact .inl ⟨i,rfl,fin _ _ S H .refl g (.int _) ho⟩
  |bl k=>cases rx;exact .inr ⟨k,rfl,fin _ _ S H .refl g (.int _) ho⟩
  |_=>exact ho.elim
 |[],_,ho=>exact ho.elim
 |_::_::_,_,ho=>exact(by revert ho;simp[Qb])
def strsT:List T->Option (List Str)
 |[]=>some []
 | .str x::r=>(strsT r).map (x::·)
 |_=>none
theorem Gz{K:PySem.W.Frag}{S:TH}{H:Hp}:∀{vs:List V} {ts:List T} {zs:List Str},Reps K S H vs ts->strsT ts=some zs->vs=zs.map V.str
 |[],[],zs,_,e=>by cases e;rfl
 |[],_::_,_,h,_=>by have:=h.1;simp at this
 |_::_,[],_,h,_=>by have:=h.1;simp at this
 |v::vs,t::ts,zs,h,e=>by
  cases t with
  |str x =>
   have r0:=h.head
   cases r0
   simp only[strsT] at e
   cases q:strsT ts with
   |none=>rw[q] at e;cases e
   |some ys =>
    rw[q] at e
    cases e
    rw[Gz h.tail q]
    rfl
  |_=>cases e
theorem N7(zs:List Str):(zs.map V.str).all Dz=true:=by
 induction zs with
 |nil=>rfl
 |cons z r ih=>rw[List.map_cons,List.all_cons,ih];rfl
theorem Pd(x:Str)(zs:List Str):inV (.str x) (zs.map V.str)=decide (x∈zs):=by
 unfold inV
 rw[List.any_map]
 induction zs with
 |nil=>rfl
 |cons z r ih =>
  rw[List.any_cons,ih]
  show (eqV (V.str z) (V.str x) || decide (x∈r))=decide (x∈z::r)
  have q:eqV (V.str z) (V.str x)=decide (z=x):=by
   show (z==x)=_
   exact Bool.beq_eq_decide_eq z x
  rw[q,Bool.eq_iff_iff]
  simp only[Bool.or_eq_true,decide_eq_true_eq,List.mem_cons]
  constructor
  ·rintro(h|h)
   ·exact .inl h.symm
   ·exact .inr h
  ·rintro(h|h)
   ·exact .inl h.symm
   ·exact .inr h
def oIn(neg:Bool):T->T->TH->UX->Prop:=fun x y S P=>match x,y with
 | .str x,.lst ts=>(∃zs,strsT ts=some zs/\P (.bl (if neg then !decide (x∈zs) else decide (x∈zs))) S)
 | .str x,.tup ts=>(∃zs,strsT ts=some zs/\P (.bl (if neg then !decide (x∈zs) else decide (x∈zs))) S)
 | .str x,.ref p=>∃ts,S p=some (.lst ts)/\∃zs,strsT ts=some zs/\P (.bl (if neg then !decide (x∈zs) else decide (x∈zs))) S
 |_,_=>False
theorem lIn{K:PySem.W.Frag}{neg:Bool}:LOp K (rIn K neg) (oIn neg):=fun S H v w x y P Q g rx ry ho fin=>by
 cases x with
 |str x =>
  cases rx
  have go:∀{ts:List T} {vs:List V} {p:Addr},Reps K S H vs ts->(SqL K H p vs\/SqT K H p vs)->(∃zs,strsT ts=some zs/\P (.bl (if neg then !decide (x∈zs) else decide (x∈zs))) S)->rIn K neg (.str x) (.ref p) H Q:=fun {ts vs p} r sq h=>by
   obtain⟨zs,e,h⟩:=h
   have ev:=Gz r e
   subst ev
   refine⟨p,_,rfl,sq,rfl,N7 zs,?_⟩
   rw[Pd]
   exact fin _ _ S H .refl g (.bl _) h
  cases y with
  |lst ts =>
   obtain⟨a,vs,rfl,f,r⟩:=ry.lstE
   exact go r (.inl f.sq) ho
  |tup ts =>
   obtain⟨a,vs,rfl,f,r⟩:=ry.tupE
   exact go r (.inr f.sq) ho
  |ref p =>
   cases ry
   obtain⟨ts,e,ho⟩:=ho
   obtain⟨vs,q,r⟩:=g p _ e
   exact go r (.inl (SqL.of q)) ho
  |_=>exact ho.elim
 |_=>exact ho.elim
def tyT:T->Option String
 | .non=>some "NoneType" | .bl _=>some "bool" | .int _=>some "int" | .str _=>some "str" | .tup _=>some "tuple" | .lst _=>some "list" | .dct _=>some "dict"
 |_=>none
def isT(n c:String):Bool:=n==c || (n=="bool"&&c=="int")
end
end TL
end
section
namespace TL
open PySem PySem.Spec PyProof.Rows L2
def Dh(z:Str):List T:=z.cps.toList.map fun (c:Nat)=>T.str ⟨#[c]⟩
section
variable{K:PySem.W.Frag}{S:TH}{H:Hp}
theorem ylds_str{z:Str}:Ylds K (Its z) (Dh z) S H where
 go:=fun i S2 H2 le g hi=>by
  have:(Dh z).length=z.cps.size:=by simp[Dh]
  rw[this] at hi;exact hi
 stop:=fun S2 H2 le g=>by
  show (Dh z).length=z.cps.size
  simp[Dh]
 yld:=fun i S2 H2 x H3 le g hi y=>by
  obtain⟨rfl,c,hc,rfl⟩:=y
  refine⟨.refl,g,.str ⟨#[c]⟩,?_,.str _⟩
  have hc':z.cps.toList[i]?=some c:=by simpa using hc
  simp[Dh,List.getElem?_map,hc']
def Te(xs ys:List T):List T:=List.zipWith (fun x y=>T.tup [x,y]) xs ys
end
section
variable{X:Cx}{a b c e tg iter:Expr}{es:List Expr}{ta tb tc te:UTE}{tr:UTA}{pos:Pos}
def Qf(t:UTE):UTA:=fun env S P=>t env S fun x S1=>match x with
 | .lst ts=>P ts S1
 | .fls ts=>P ts S1
 | .tup ts=>P ts S1
 | .str z=>P (Dh z) S1
 |_=>False
theorem Xu(h:UE X iter te):UI X tg iter (Qf te):=PI.imp (Ou h) fun σ H R ⟨S,env,P,g,re,h,fin⟩=>Za ⟨g,re⟩ h fun v x S1 H1 le1 m1 rx h1=>by
 cases x with
 |lst ts =>
  obtain⟨l,vs,rfl,f,r⟩:=rx.lstE
  exact .inl ⟨l,rfl,.inl ⟨⟨vs,f.sq⟩,fin ts _ S1 H1 le1 m1.g h1 (Gp (fun _ _ le=>(f.mono le).sq) r)⟩⟩
 |fls ts =>
  obtain⟨l,vs,rfl,f,r⟩:=rx.flsE
  exact .inl ⟨l,rfl,.inl ⟨⟨vs,f.sq⟩,fin ts _ S1 H1 le1 m1.g h1 (Gp (fun _ _ le=>(f.mono le).sq) r)⟩⟩
 |tup ts =>
  obtain⟨l,vs,rfl,f,r⟩:=rx.tupE
  exact .inl ⟨l,rfl,.inr ⟨⟨vs,f.sq⟩,fin ts _ S1 H1 le1 m1.g h1 (Sz f r)⟩⟩
 |str z=>cases rx;exact .inr ⟨z,rfl,fin _ _ S1 H1 le1 m1.g h1 ylds_str⟩
 |_=>exact h1.elim
def Dl(o o':T->T->TH->UX->Prop)(ta tb tc:UTE):UTE:=fun env S P=>ta env S fun x S1=>tb env S1 fun y S2=>o x y S2 fun z S3=>match z with
 | .bl k=>(k=true->tc env S3 fun w S4=>o' y w S4 P)/\(k=false->P (.bl false) S3)
 |_=>False
def Mp:List T->Option (List Bool)
 |[]=>some []
 | .bl b::r=>(Mp r).map (b::·)
 |_=>none
theorem Ji{K:PySem.W.Frag}{S:TH}{H:Hp}:∀{vs:List V} {ts:List T} {zs:List Bool},Reps K S H vs ts->Mp ts=some zs->vs=zs.map V.bl
 |[],[],zs,_,e=>by cases e;rfl
 |[],_::_,_,h,_=>by have:=h.1;simp at this
 |_::_,[],_,h,_=>by have:=h.1;simp at this
 |v::vs,t::ts,zs,h,e=>by
  cases t with
  |bl x =>
   have r0:=h.head
   cases r0
   simp only[Mp] at e
   cases q:Mp ts with
   |none=>rw[q] at e;cases e
   |some ys =>
    rw[q] at e
    cases e
    rw[Ji h.tail q]
    rfl
  |_=>cases e
theorem Qw(bs:List Bool):Mp (bs.map T.bl)=some bs:=by
 induction bs with
 |nil=>rfl
 |cons b r ih=>simp only[List.map_cons,Mp,ih,Option.map_some]
def okC(c:String):Bool:=c=="int" || c=="str" || c=="bool" || c=="tuple" || c=="list"
theorem E6{K:PySem.W.Frag}{t:T}{n c:String}(h:tyT t=some n)(hc:okC c=true):PySem.W.kitOne K (.type n) (.type c)=some (isT n c):=by
 simp only[okC,Bool.or_eq_true,beq_iff_eq] at hc
 cases t <;> simp only[tyT,Option.some.injEq,reduceCtorEq] at h <;> subst h <;> rcases hc with(((rfl|rfl)|rfl)|rfl)|rfl <;> rfl
theorem Pg{K:PySem.W.Frag}{S:TH}{H:Hp}{v:V}{t:T}{n:String}(r:Rep K S H v t)(h:tyT t=some n):TyV K H v (.type n):=by
 cases t with
 |non=>cases r;cases h;exact .inl .non
 |bl b=>cases r;cases h;exact .inl (.bl b)
 |int i=>cases r;cases h;exact .inl (.int i)
 |str x=>cases r;cases h;exact .inl (.str x)
 |tup ts =>
  cases h
  obtain⟨a,vs,rfl,f,_⟩:=r.tupE
  rcases f with f|f
  ·exact .inl (.tup f.2)
  ·obtain⟨o,its,n,hk,hc,_⟩:=f
   exact .inr ⟨rfl,a,o,rfl,hk,hc⟩
 |lst ts =>
  cases h
  obtain⟨a,vs,rfl,f,_⟩:=r.lstE
  exact .inl (.lst f.2)
 |dct ts =>
  cases h
  obtain⟨a,vs,rfl,n,hH,_⟩:=r.dctE
  exact .inl (.dK hH)
 |_=>cases h
def Jj(xs:List T)(S:TH)(P:UX):Prop:=match xs with
 |[x,.ty c]=>(match tyT x with|some n=>okC c=true/\P (.bl (isT n c)) S|none=>False)
 |[x,.tup [.ty c,.ty d]]=>(match tyT x with|some n=>okC c=true/\okC d=true/\P (.bl (isT n c || isT n d)) S|none=>False)
 |_=>False
theorem lIsi{K:PySem.W.Frag}:Dt K (rIsi K) Jj:=fun S H vs xs P Q g r ho fin=>by
 match xs,r,ho with
 |[x,.ty c],r,ho =>
  obtain⟨v,w,rfl,r1,r2⟩:=r.two
  cases r2
  simp only[Jj] at ho
  cases q:tyT x with
  |none=>rw[q] at ho;exact ho.elim
  |some n =>
   rw[q] at ho
   exact⟨v,_,_,Pg r1 q,.inl ⟨c,rfl,E6 q ho.1⟩,fin _ _ S H .refl g (.bl _) ho.2⟩
 |[x,.tup [.ty c,.ty d]],r,ho =>
  obtain⟨v,w,rfl,r1,r2⟩:=r.two
  obtain⟨p,us,rfl,f,r⟩:=r2.tupE
  obtain⟨u1,u2,rfl,r3,r4⟩:=r.two
  cases r3
  cases r4
  simp only[Jj] at ho
  cases q:tyT x with
  |none=>rw[q] at ho;exact ho.elim
  |some n =>
   rw[q] at ho
   refine⟨v,_,_,Pg r1 q,.inr ⟨p,c,d,rfl,f.sq,?_⟩,fin _ _ S H .refl g (.bl _) ho.2.2⟩
   have k1:=E6 (K:=K) q ho.1
   have k2:=E6 (K:=K) q ho.2.1
   simp only[PySem.W.kitAny,k1,k2]
   cases isT n c <;> cases isT n d <;> rfl
 |[],_,ho=>exact ho.elim
 |[x],_,ho=>exact(by revert ho;simp[Jj])
 |x::y::z::r,_,ho=>exact(by revert ho;simp[Jj])
def oIsN:T->T->TH->UX->Prop:=fun x y S P=>match y with
 | .non=>(match x with | .non=>P (.bl true) S|_=>P (.bl false) S)
 |_=>False
theorem lIsN{K:PySem.W.Frag}:LOp K (fun x y H Q=>y=.non/\Q (.bl (decide (x=.non))) H) oIsN:=fun S H v w x y P Q g rx ry ho fin=>by
 cases y with
 |non =>
  cases ry
  refine⟨rfl,?_⟩
  cases x with
  |non=>cases rx;exact fin _ _ S H .refl g (.bl _) ho
  |_=>cases rx <;> exact fin _ _ S H .refl g (.bl _) ho
 |_=>exact ho.elim
def Ra:T->T->TH->UX->Prop:=fun x y S P=>match x,y with
 | .int i,.int j=>P (.int (i+j)) S
 | .str i,.str j=>i.length+j.length<=sizeLine/\P (.str (i++j)) S
 | .lst xs,.lst ys=>xs.length+ys.length<=sizeLine/\P (.lst (xs++ys)) S
 | .tup xs,.tup ys=>xs.length+ys.length<=sizeLine/\P (.tup (xs++ys)) S
 |_,_=>False
theorem Zp(ha:UE X a ta)(hb:UE X b tb):UE X (.BinOp a .Add b pos) (A0 Ra ta tb):=Eb (op_add.or (op_add_str.or (op_cat.or Tj))) (fun S H v w x y P Q g rx ry ho fin=>by
 cases x with
 |int i =>
  cases y with
  |int j=>cases rx;cases ry;exact .inl ⟨i,j,rfl,rfl,fin _ _ S H .refl g (.int _) ho⟩
  |_=>exact ho.elim
 |str i =>
  cases y with
  |str j=>cases rx;cases ry;exact .inr (.inl ⟨i,j,rfl,rfl,ho.1,fin _ _ S H .refl g (.str _) ho.2⟩)
  |_=>exact ho.elim
 |lst xs =>
  cases y with
  |lst ys =>
   obtain⟨a,vs,rfl,f,r⟩:=rx.lstE
   obtain⟨b,us,rfl,f',r'⟩:=ry.lstE
   exact .inr (.inr (.inl ⟨a,b,vs,us,rfl,rfl,f.2,f'.2,by rw[r.1,r'.1];exact ho.1,fun p hp=>A8 fin g hp (r.append r') ho.2⟩))
  |_=>exact ho.elim
 |tup xs =>
  cases y with
  |tup ys =>
   obtain⟨a,vs,rfl,f,r⟩:=rx.tupE
   obtain⟨b,us,rfl,f',r'⟩:=ry.tupE
   refine .inr (.inr (.inr ⟨a,b,vs,us,rfl,rfl,f.sq,f'.sq,by rw[r.1,r'.1];exact ho.1,fun e=>?_,fun _ e=>?_,fun _ _ p hp=>C7 fin g hp (r.append r') ho.2⟩))
   ·subst e
    have e0:xs=[]:=List.length_eq_zero_iff.mp (by rw[<-r.1];rfl)
    subst e0
    exact fin _ _ S H .refl g ry ho.2
   ·subst e
    have e0:ys=[]:=List.length_eq_zero_iff.mp (by rw[<-r'.1];rfl)
    subst e0
    have h2:=ho.2
    rw[List.append_nil] at h2
    exact fin _ _ S H .refl g rx h2
  |_=>exact ho.elim
 |_=>exact ho.elim) ha hb
def oSl3(x:T)(lo hi:Option Int)(S:TH)(P:UX):Prop:=match x with
 | .lst ts=>P (.lst (cutA ts lo hi)) S
 | .tup ts=>¬ (HT.sIx ts.length 0 lo=0/\HT.sIx ts.length ts.length hi=ts.length)/\P (.tup (cutA ts lo hi)) S
 | .str z=>z.length<=sizeLine/\P (.str (Txt.slice z lo hi)) S
 | .ref p=>∃ts,S p=some (.lst ts)/\P (.lst (cutA ts lo hi)) S
 |_=>False
def uSl3(te:UTE)(tl th:UTO):UTE:=fun env S P=>te env S fun x S1=>tl env S1 fun l S2=>th env S2 fun u S3=>oSl3 x l u S3 P
theorem Ga{lo hi:Option Expr}{tl th:UTO}{p2:Pos}(he:UE X e te)(hl:UO X lo tl)(hh:UO X hi th):UE X (.Subscript e (.Slice lo hi none p2) pos) (uSl3 te tl th) :=
 PE.imp (F1 (sl_list.or (sl_tup.or Yy)) he hl hh) fun σ H Q ⟨S,env,P,g,re,h,fin⟩=>Za ⟨g,re⟩ h fun v x S1 H1 le1 m1 rx h1 =>
  ⟨S1,env,_,m1.g,m1.re,h1,fun l S2 H2 le2 g2 h2=>⟨S2,env,_,g2,m1.re.mono le2,h2,fun u S3 H3 le3 g3 h3=>by
   have rx3:=rx.mono (le2.trans le3)
   have f3:=fin.le (le1.trans (le2.trans le3))
   cases x with
   |lst ts =>
    obtain⟨a,vs,rfl,f,r⟩:=rx3.lstE
    exact .inl ⟨a,vs,rfl,f.sq,fun p hp=>A8 f3 g3 hp (r.cut l u) h3⟩
   |tup ts =>
    obtain⟨a,vs,rfl,f,r⟩:=rx3.tupE
    refine .inr (.inl ⟨a,vs,rfl,f.sq,?_,fun p hp=>C7 f3 g3 hp (r.cut l u) h3.2⟩)
    rw[r.1]
    exact h3.1
   |str z=>cases rx3;exact .inr (.inr ⟨z,rfl,h3.1,f3 _ _ S3 H3 .refl g3 (.str _) h3.2⟩)
   |ref p =>
    cases rx3
    obtain⟨ts,e3,h3⟩:=h3
    obtain⟨vs,q,r⟩:=g3 p _ e3
    exact .inl ⟨p,vs,rfl,SqL.of q,fun b hb=>A8 f3 g3 hb (r.cut l u) h3⟩
   |_=>exact h3.elim⟩⟩
theorem Reps.pick{K:PySem.W.Frag}{S:TH}{H:Hp}{vs:List V}{ts:List T}(r:Reps K S H vs ts):∀ix:List Nat,Reps K S H (ix.filterMap fun (i:Nat)=>vs[i]?) (ix.filterMap fun (i:Nat)=>ts[i]?)
 |[]=>.nil
 |i::ix=>by
  cases e:vs[i]? with
  |none =>
   have e':ts[i]?=none:=by
    rw[List.getElem?_eq_none_iff] at e ⊢
    rw[<-r.1];exact e
   simp only[List.filterMap_cons,e,e']
   exact Reps.pick r ix
  |some v =>
   obtain⟨t,ht,rt⟩:=r.get' e
   simp only[List.filterMap_cons,e,ht]
   exact .cons rt (Reps.pick r ix)
def Om(neg:Bool):T->T->TH->UX->Prop:=fun x y S P=>match x,y with
 | .int i,.int j=>P (.bl (Bool.xor neg (decide (i=j)))) S
 | .str i,.str j=>P (.bl (Bool.xor neg (decide (i=j)))) S
 | .bl i,.bl j=>P (.bl (Bool.xor neg (decide (i=j)))) S
 | .lst xs,.lst []=>P (.bl (Bool.xor neg xs.isEmpty)) S
 |_,_=>False
theorem lEq2{K:PySem.W.Frag}{neg:Bool}{r:R2}(l:LOp K r (oEq neg)):LOp K (fun x y H Q=>r x y H Q\/rEqN K neg x y H Q) (Om neg):=fun S H v w x y P Q g rx ry ho fin=>by
 cases x with
 |int i=>cases y with
  |int j=>exact .inl (l S H v w _ _ P Q g rx ry ho fin)
  |_=>exact ho.elim
 |str i=>cases y with
  |str j=>exact .inl (l S H v w _ _ P Q g rx ry ho fin)
  |_=>exact ho.elim
 |bl i=>cases y with
  |bl j=>exact .inl (l S H v w _ _ P Q g rx ry ho fin)
  |_=>exact ho.elim
 |lst xs =>
  cases y with
  |lst ys =>
   cases ys with
   |nil =>
    obtain⟨a,vs,rfl,f,r⟩:=rx.lstE
    obtain⟨b,us,rfl,f',r'⟩:=ry.lstE
    have e0:us=[]:=List.length_eq_zero_iff.mp (by rw[r'.1];rfl)
    subst e0
    refine .inr ⟨a,b,vs,rfl,rfl,f.sq,f'.sq,?_⟩
    have e1:vs.isEmpty=xs.isEmpty:=by
     have:=r.1
     cases vs <;> cases xs <;> simp at this ⊢
    rw[e1]
    exact fin _ _ S H .refl g (.bl _) ho
   |cons=>exact ho.elim
  |_=>exact ho.elim
 |_=>exact ho.elim
end
end TL
end
section
namespace TL
open PySem PySem.Spec PyProof.Rows L2
section
variable{X:Cx}{a b c e o:Expr}{es:List Expr}{ta tb tc te to:UTE}{tr:UTA}{pos apos cpos:Pos}
theorem Lz{K:PySem.W.Frag}{r r':R2}{q q':T->T->TH->UX->Prop}{σ:L2.St}{H:Hp}{Q:VK}(l:LOp K r q)(l':LOp K r' q')(h:lf K (Dl q q' ta tb tc) σ H Q):Jq r r' (lf K ta) (lf K tb) (lf K tc) σ H Q:=by
 obtain⟨S,env,P,g,re,h,fin⟩:=h
 refine Za ⟨g,re⟩ h fun v x S1 H1 le1 m1 rx h1=>Za m1 h1 fun w y S2 H2 le2 m2 ry h2=>?_
 refine l S2 H2 v w x y _ _ m2.g (rx.mono le2) ry h2 fun u z S3 H3 le3 g3 rz h3=>?_
 cases z with
 |bl k =>
  cases rz
  refine⟨k,rfl,?_⟩
  have m3:Mid K σ H3 S3 env:=⟨g3,m2.re.mono le3⟩
  cases k with
  |true =>
   rw[if_pos rfl]
   exact Za m3 (h3.1 rfl) fun w' z' S4 H4 le4 m4 rz' h4=>l' S4 H4 w w' y z' P Q m4.g (ry.mono (le3.trans le4)) rz' h4 (fin.le (le1.trans (le2.trans (le3.trans le4))))
  |false=>rw[if_neg Bool.false_ne_true];exact fin _ _ S3 H3 (le1.trans (le2.trans le3)) g3 (.bl _) (h3.2 rfl)
 |_=>exact h3.elim
theorem Su{op op':CmpOp}{r r':R2}{q q':T->T->TH->UX->Prop}(ho:OpR X (compareOp op) r)(l:LOp X.K r q)(ho':OpR X (compareOp op') r')(l':LOp X.K r' q')(ha:UE X a ta)(hb:UE X b tb)(hc:UE X c tc)
  (hm:lastMarks [op,op'] [b,c]=false:=by with_unfolding_all rfl):UE X (.Compare a [op,op'] [b,c] pos) (Dl q q' ta tb tc):=PE.imp (Rl ho ho' ha hb hc hm) fun _ _ _ h=>Lz l l' h
theorem Rq{op op':CmpOp}{r r':R2}{q q':T->T->TH->UX->Prop}(ho:OpR X (compareOp op) r)(l:LOp X.K r q)(ho':OpR X (compareOp op') r')(l':LOp X.K r' q')(ha:UE X a ta)(hb:UE X b tb)(hc:UE X c tc)
  (hm:lastMarks [op,op'] [b,c]=false:=by with_unfolding_all rfl):UT X (.Compare a [op,op'] [b,c] pos) (A4 (Dl q q' ta tb tc)):=PT.imp (Qt ho ho' ha hb hc hm) fun _ _ _ h=>Lz l l' (J2 h)
def Mo:T->T->TH->UX->Prop:=fun x y S P=>match x,y with
 | .int i,.int j=>P (.bl (decide (i<=j))) S
 | .str i,.str j=>P (.bl (!decide (j.cps.toList<i.cps.toList))) S
 |_,_=>False
theorem lLe2{K:PySem.W.Frag}:LOp K (fun x y H Q=>rI0 (fun i j=>.bl (decide (i<=j))) x y H Q\/∃i j,x=.str i/\y=.str j/\Q (.bl (!decide (j.cps.toList<i.cps.toList))) H) Mo:=fun S H v w x y P Q g rx ry ho fin=>by
 cases x with
 |int i=>cases y with
  |int j=>cases rx;cases ry;exact .inl ⟨i,j,rfl,rfl,fin _ _ S H .refl g (.bl _) ho⟩
  |_=>exact ho.elim
 |str i=>cases y with
  |str j=>cases rx;cases ry;exact .inr ⟨i,j,rfl,rfl,fin _ _ S H .refl g (.bl _) ho⟩
  |_=>exact ho.elim
 |_=>exact ho.elim
def Lk(kts:List (Key×T))(te:UTE):UTE:=fun env S P=>te env S fun y S1=>match keyT y with
 |some k=>P ((valT kts k).getD .non) S1
 |none=>False
theorem Tv{x:Str}{d:Addr}{kvs:List (Key×V)}{kts:List (Key×T)}{p:Pos}(hg:Gl X x)(hm:X.mg x=some (.ref d))(kd:KD X.prog X.w X.K d kvs)(rk:∀S H,RepK X.K S H kvs kts)(he:UE X e te)(m:M1 X (.Name x p) "get" apos e cpos)
  (hd:(x==("__debug__":Str))=false:=by decide):UE X (.Call (.Attribute (.Name x p) "get" apos) [e] [] cpos) (Lk kts te):=PE.imp (Ub hg hm kd he m hd) fun σ H Q ⟨S,env,P,g,re,h,fin⟩ =>
 Za ⟨g,re⟩ h fun v y S1 H1 le1 m1 ry h1=>by
  cases q:keyT y with
  |none=>rw[q] at h1;exact h1.elim
  |some k =>
   rw[q] at h1
   dsimp only at h1
   refine⟨k,Jr ry q,?_⟩
   have rv:=(rk S1 H1).val (k:=k)
   cases q2:valT kts k with
   |none =>
    rw[q2] at h1
    rw[rv.2 q2]
    exact fin _ _ S1 H1 le1 m1.g .non h1
   |some t =>
    rw[q2] at h1
    obtain⟨u,eu,ru⟩:=rv.1 t q2
    rw[eu]
    exact fin _ _ S1 H1 le1 m1.g ru h1
def Xj(to:UTE)(tr:UTA):UTE:=fun env S P=>to env S fun x S1=>match x with
 | .ref p=>(∃ts0,S1 p=some (.lst ts0))/\tr env S1 fun ys S2=>match ys with
  |[y]=>∃ts,S2 p=some (.lst ts)/\ts.length<sizeLine/\P .non (updT S2 p (.lst (ts++[y])))
  |_=>False
 |_=>False
theorem Cy(ho:UE X o to)(ha:UA X [e] tr)(hbase:attributeBase o "append" X.env (eval o X.env)=eval o X.env:=by rfl)
  (hfew:((backTo cpos (starEach [e] X.env)).all (fun x=>!x.1)&&(backToKw cpos (keywordEach [] X.env)).all (fun x=>x.1.isSome)&&decide (([e]:List Expr).length+([]:List Keyword).length+(if ([]:List Keyword).isEmpty then 0 else 1)<30))=true:=by rfl)
  (hline:(apos.endLine==cpos.line)=true:=by rfl) (hs:starEach [e] X.env=(false,eval e X.env)::starEach [] X.env:=by rfl) (hplain:(backTo cpos (starEach [] X.env)).any (·.1)=false:=by rfl) :
  UE X (.Call (.Attribute o "append" apos) [e] [] cpos) (Xj to tr) :=
 PE.imp (Ll PySem.F.plainAttrs_list PySem.F.slot_list_append PySem.F.type_list_append Mu ho ha hbase hfew hline hs hplain) fun σ H Q ⟨S,env,P,g,re,h,fin⟩ =>
  Za ⟨g,re⟩ h fun v x S1 H1 le1 m1 rx h1=>by
   cases x with
   |ref p =>
    cases rx
    obtain⟨⟨ts0,e0⟩,h1⟩:=h1
    obtain⟨vs0,q0,_⟩:=m1.g p _ e0
    refine⟨.inl ⟨rfl,_,SqL.of q0⟩,Ai m1 h1 fun vs rs S2 H2 le2 m2 rr h2=>?_⟩
    match rs,rr,h2 with
    |[y],rr,h2 =>
     obtain⟨w,rfl,rw'⟩:=rr.one
     obtain⟨ts,e2,hl,hp⟩:=h2
     obtain⟨us,q2,r2⟩:=m2.g p _ e2
     refine⟨p,us,w,rfl,rfl,q2,by rw[r2.1];exact hl,?_⟩
     exact fin _ _ _ _ (le1.trans (le2.trans (Le.write e2))) (m2.g.writeL e2 (r2.append (.cons rw' .nil))) .non hp
   |_=>exact h1.elim
theorem Df(hu:X.A.units<cLine)(ha:UE X a ta)(hb:UE X b tb):UE X (.Compare a [.Eq] [b] pos) (A0 (Om false) ta tb):=Ht (op_eq.or (Ow hu)) (lEq2 lEq) ha hb (Bo _)
theorem Xf(hu:X.A.units<cLine)(ha:UE X a ta)(hb:UE X b tb):UT X (.Compare a [.Eq] [b] pos) (A4 (A0 (Om false) ta tb)):=Bf (op_eq.or (Ow hu)) (lEq2 lEq) ha hb (Bo _)
theorem Bs(hu:X.A.units<cLine)(ha:UE X a ta)(hb:UE X b tb):UT X (.Compare a [.NotEq] [b] pos) (A4 (A0 (Om true) ta tb)):=Bf (op_ne.or (Wk hu)) (lEq2 lNe) ha hb (Bo _)
theorem Gm(ha:UE X a ta)(hb:UE X b tb):UT X (.Compare a [.Lt] [b] pos) (A4 (A0 oLt ta tb)):=Bf Sa lLt ha hb (Bo _)
theorem ue_lt(ha:UE X a ta)(hb:UE X b tb):UE X (.Compare a [.Lt] [b] pos) (A0 oLt ta tb):=Ht Sa lLt ha hb (Bo _)
theorem Pm(ha:UE X a ta)(hb:UE X b tb):UT X (.Compare a [.Gt] [b] pos) (A4 (A0 oGt ta tb)):=Bf op_gt lGt ha hb (Bo _)
theorem Cb(ha:UE X a ta)(hb:UE X b tb):UT X (.Compare a [.Is] [b] pos) (A4 (A0 oIsN ta tb)):=Bf Ws lIsN ha hb (Bo _)
theorem Vw(ha:UE X a ta)(hb:UE X b tb)(hm:behindInMarks .In b=false:=by with_unfolding_all rfl):UE X (.Compare a [.In] [b] pos) (A0 (oIn false) ta tb):=Ht F9 lIn ha hb hm
theorem G3(ha:UE X a ta)(hb:UE X b tb)(hm:behindInMarks .In b=false:=by with_unfolding_all rfl):UT X (.Compare a [.In] [b] pos) (A4 (A0 (oIn false) ta tb)):=Bf F9 lIn ha hb hm
theorem Ky(ha:UE X a ta)(hb:UE X b tb)(hc:UE X c tc)(hm:lastMarks [.LtE,.LtE] [b,c]=false:=by with_unfolding_all rfl):UE X (.Compare a [.LtE,.LtE] [b,c] pos) (Dl Mo Mo ta tb tc):=Su (op_le.or En) lLe2 (op_le.or En) lLe2 ha hb hc hm
variable{p:Pos}
theorem Jz(hg:Gl X "isinstance")(hm:X.mg "isinstance"=none)(ha:UA X [a,b] tr)(he:starEach [a,b] X.env=(false,eval a X.env)::starEach [b] X.env:=by rfl)(hpl:(backTo pos (starEach [b] X.env)).any (·.1)=false:=by rfl):
  UE X (.Call (.Name "isinstance" p) [a,b] [] pos) (Bh Jj tr):=Bn Gu lIsi hg hm boot_isinstance ha (he:=he) (hpl:=hpl)
theorem K2(hg:Gl X "list")(hm:X.mg "list"=none)(ha:UA X [a] tr)(he:starEach [a] X.env=(false,eval a X.env)::starEach [] X.env:=by rfl):UE X (.Call (.Name "list" p) [a] [] pos) (Bh Ic tr):=Ei G4 lList hg hm boot_list ha (he:=he)
theorem Cg(hg:Gl X "int")(hm:X.mg "int"=none)(ha:UA X [a] tr)(he:starEach [a] X.env=(false,eval a X.env)::starEach [] X.env:=by rfl):UE X (.Call (.Name "int" p) [a] [] pos) (Bh Qb tr):=Ei Mn lInt hg hm boot_int ha (he:=he)
end
end TL
end
section
namespace TL
open PySem PySem.Spec PyProof.Rows L2
def Has(P:Program)(w:World)(K:PySem.W.Frag)(mg:Str->Option Value)(base:Heap)(k:Nat)(x:Str)(ps:List Str)(t:List T->TH->UX->Prop):Prop :=
 ∃f fd,FnOk P w K mg base CX0 k f fd ps (spU K t)/\Binds K fd ps []/\PySem.W.keepIn K (.ref f)=true/\mg x=some (.ref f)
def Aa(K:PySem.W.Frag)(mg:Str->Option Value)(x:Str)(ps:List Str)(st:Stmt):Prop:=∃f fd,Fun K x x st f fd/\Binds K fd ps []/\mg x=some (.ref f)
theorem Has.mono{P:Program}{w:World}{K:PySem.W.Frag}{mg:Str->Option Value}{base:Heap}{j k:Nat}{x:Str}{ps:List Str}{t:List T->TH->UX->Prop}(h:Has P w K mg base j x ps t)(hk:j<=k):Has P w K mg base k x ps t:=by
 obtain⟨f,fd,h1,h2⟩:=h
 exact⟨f,fd,h1.mono hk,h2⟩
theorem Ag{P:Program}{w:World}{K:PySem.W.Frag}{mg:Str->Option Value}{base:Heap}{k:Nat}{x:Str}{N ps:List Str}{st:Stmt}{t:List T->TH->UX->Prop}(d:Aa K mg x ps st)(Sc:Zv N ps (Zb st))(hl:∀ts S Pp,t ts S Pp->ts.length=ps.length)
  (hb:∀(cdv:Value) (f:Addr) (A:Around) (outer:List Env) (s:Shared) (H:Hp) (E:XK),Room k (A.deeper (envOfC x (Zb st) s.heap.objs.size f cdv)) →
   ∃tb,USs (cxOf CX0 P w K mg base N x (Zb st) f cdv A outer s H E).nox (defBody st) tb/\∀ts S Pp,t ts S Pp->tb { nx:=fun _ S'=>Pp .non S',rt:=Pp } (Xm N ts) S):Has P w K mg base (k+1) x ps t:=by
 obtain⟨f,fd,F,b,hm⟩:=d
 exact⟨f,fd,Mi F Sc hl fun cdv A outer s H E hr=>hb cdv f A outer s H E hr,b,F.kp,hm⟩
theorem Fu{P:Program}{w:World}{K:PySem.W.Frag}{mg:Str->Option Value}{base:Heap}{k:Nat}{x:Str}{ps:List Str}{st:Stmt}{t:List T->TH->UX->Prop}(d:Aa K mg x ps st)(h:∀ts S Pp,¬ t ts S Pp):Has P w K mg base k x ps t:=by
 obtain⟨f,fd,F,b,hm⟩:=d
 exact⟨f,fd,Wv h,b,F.kp,hm⟩
def KDt(P:Program)(w:World)(K:PySem.W.Frag)(mg:Str->Option Value)(x:Str)(kts:List (Key×T)):Prop:=∃d kvs,mg x=some (.ref d)/\KD P w K d kvs/\∀S H,RepK K S H kvs kts
section
variable{X:Cx}{e:Expr}{es:List Expr}{te:UTE}{tr:UTA}{pos p apos cpos:Pos}{x:Str}
theorem Zf{k:Nat}{ps:List Str}{t:List T->TH->UX->Prop}(h:Has X.prog X.w X.K X.mg X.base k x ps t)(hr:Room k X.A)(hg:Gl X x)(ha:UA X (e::es) tr)(hdb:(x==("__debug__":Str))=false:=by decide)(he:starEach (e::es) X.env=(false,eval e X.env)::starEach es X.env:=by rfl)
  (hpl:(backTo pos (starEach es X.env)).any (·.1)=false:=by rfl):UE X (.Call (.Name x p) (e::es) [] pos) (Bh t tr):=by
 obtain⟨f,fd,F,b,kp,hm⟩:=h
 exact Ud F hr hg hm kp b ha hdb he hpl
theorem Rv{kts:List (Key×T)}(hg:Gl X x)(h:KDt X.prog X.w X.K X.mg x kts)(he:UE X e te)(m:M1 X (.Name x p) "get" apos e cpos)(hd:(x==("__debug__":Str))=false:=by decide):UE X (.Call (.Attribute (.Name x p) "get" apos) [e] [] cpos) (Lk kts te):=by
 obtain⟨d,kvs,hm,kd,rk⟩:=h
 exact Tv hg hm kd rk he m hd
end
theorem Ao{A:Around}{k:Nat}(hr:Room k A):A.units<cLine:=hr.units0
inductive Pl:T->Prop where
 |non:Pl .non
 |bl (b:Bool):Pl (.bl b)
 |int (i:Int):Pl (.int i)
 |str {x:Str}:x.length<=sizeLine->Pl (.str x)
 |tup {ts:List T}:(∀t∈ts,Pl t)->Pl (.tup ts)
 |lst {ts:List T}:(∀t∈ts,Pl t)->Pl (.lst ts)
end TL
end
section
namespace TL
open PySem PySem.Spec PyProof.Rows L2
theorem N6{ts:List T}{S:TH}{gg:UTG}{tc:UTT}{te:UTE}{ev:Ev}{P:UX}(f:T->Option T)(hl:ts.length<=sizeLine)
  (turn:∀x∈ts,∀(A:UX) (B:TH->Prop),(∀r,f x=some r->A r S)->(f x=none->B S)->gg x ev S fun env' S'=>tc env' S' fun b S2=>(b=true->te env' S2 A)/\(b=false->B S2))
  (h:P (.lst (ts.filterMap f)) S):ts.length<=sizeLine/\∃Iv:Nat->List T->TH->Prop,Iv 0 [] S ∧
   (∀k x acc S,ts[k]?=some x->Iv k acc S->gg x ev S fun env' S'=>tc env' S' fun b S2=>(b=true->te env' S2 fun r S3=>Iv (k+1) (acc++[r]) S3)/\(b=false->Iv (k+1) acc S2)) ∧
   ∀acc S,Iv ts.length acc S->P (.lst acc) S:=by
 refine⟨hl,fun k acc S'=>acc=(ts.take k).filterMap f/\S'=S,⟨by simp,rfl⟩,fun k x acc S' e iv=>?_,fun acc S' iv=>?_⟩
 ·obtain⟨rfl,rfl⟩:=iv
  have hk:k<ts.length:=(List.getElem?_eq_some_iff.mp e).1
  have et:ts.take (k+1)=ts.take k++[x]:=by rw[List.take_add_one,e];rfl
  refine turn x (List.mem_of_getElem? e) _ _ (fun r er=>⟨?_,rfl⟩) (fun en=>⟨?_,rfl⟩)
  ·rw[et,List.filterMap_append];simp[er]
  ·rw[et,List.filterMap_append];simp[en]
 ·obtain⟨rfl,rfl⟩:=iv
  rw[List.take_length]
  exact h
theorem Fi{pick:List (Option Nat)}{ti:UTA}{env:Ev}{ts:List T}{S:TH}{gg:UTG}{tc:UTT}{te:UTE}{P:UX}(f:T->Option T)(hti:∀k:List T->TH->Prop,k ts S->ti env S k)(hl:ts.length<=sizeLine)
  (turn:∀x∈ts,∀(A:UX) (B:TH->Prop),(∀r,f x=some r->A r S)->(f x=none->B S)->gg x (B1 pick env) S fun env' S'=>tc env' S' fun b S2=>(b=true->te env' S2 A)/\(b=false->B S2))
  (h:P (.lst (ts.filterMap f)) S):Aq pick ti gg tc te env S P:=hti _ (N6 f hl turn h)
end TL
end
section
namespace TL
open PySem PySem.Spec PyProof.Rows L2
inductive Cs:List Expr->List T->Prop where
 |nil:Cs [] []
 |s {x:Str} {j:Nat} {p:Pos} {es:List Expr} {ts:List T}:Cs es ts->Cs (.Constant (.str x) j p::es) (.str x::ts)
 |i {x:Int} {j:Nat} {p:Pos} {es:List Expr} {ts:List T}:Cs es ts->Cs (.Constant (.int x) j p::es) (.int x::ts)
 |b {x:Bool} {j:Nat} {p:Pos} {es:List Expr} {ts:List T}:Cs es ts->Cs (.Constant (.bool x) j p::es) (.bl x::ts)
 |n {j:Nat} {p:Pos} {es:List Expr} {ts:List T}:Cs es ts->Cs (.Constant .none j p::es) (.non::ts)
def Xk(ts:List T):UTA:=fun _ S P=>P ts S
theorem Ae{X:Cx}{es:List Expr}{ts:List T}(h:Cs es ts):UA X es (Xk ts):=by
 induction h with
 |nil=>exact Zn
 |s _ ih=>exact Zc Zq ih rfl
 |i _ ih=>exact Zc Zi ih rfl
 |b _ ih=>exact Zc B4 ih rfl
 |n _ ih=>exact Zc As ih rfl
end TL
end
section
namespace TL
open PySem PySem.Spec PyProof.Rows L2
theorem Yn{α:Type}{xs:List α}{i:Int}(h0:0<=i)(h1:i<xs.length):∃x∈xs,atI xs i=some x:=by
 have hl:i.toNat<xs.length:=by omega
 refine⟨xs[i.toNat],List.getElem_mem hl,?_⟩
 have q:atI xs ((i.toNat:Nat):Int)=some xs[i.toNat]:=Xb (List.getElem?_eq_getElem hl)
 rw[Int.toNat_of_nonneg h0] at q
 exact q
end TL
end
section
namespace TL
open PySem PySem.Spec PyProof.Rows L2
def toV:Value->V
 | .bool b=>.bl b
 | .int i _=>.int i
 | .str x _=>.str x
 | .ref a=>.ref a
 |_=>.non
inductive KR(K:PySem.W.Frag):Value->T->Prop where
 |non:KR K .none .non
 |bl (b:Bool):KR K (.bool b) (.bl b)
 |int (i:Int) (t:Tok):KR K (.int i t) (.int i)
 |str (x:Str) (t:Tok):KR K (.str x t) (.str x)
 |tup {a:Addr} {o:Obj} {its:Array Value} {n:Nat} {ts:List T}:K.lookup a=some o->o.cls=.type "tuple"->o.data=.seq its n->o.dict=none->its.size<=sizeLine->its.toList.length=ts.length →
   (∀(i:Nat) u t,its.toList[i]?=some u->ts[i]?=some t->KR K u t)->KR K (.ref a) (.tup ts)
section
variable{K:PySem.W.Frag}
def KRs(K:PySem.W.Frag)(us:List Value)(ts:List T):Prop:=us.length=ts.length/\∀(i:Nat) u t,us[i]?=some u->ts[i]?=some t->KR K u t
theorem KRs.nil:KRs K [] []:=⟨rfl,fun _ _ _ e=>by simp at e⟩
theorem KRs.cons{u:Value}{t:T}{us:List Value}{ts:List T}(h:KR K u t)(r:KRs K us ts):KRs K (u::us) (t::ts):=by
 refine⟨by simp only[List.length_cons,r.1],fun i u' t' e1 e2=>?_⟩
 cases i with
 |zero=>simp at e1 e2;subst e1;subst e2;exact h
 |succ i=>exact r.2 i u' t' (by simpa using e1) (by simpa using e2)
theorem KR.tupI{a:Addr}{its:List Value}{n:Nat}{sl:Array (Option Value)}{ts:List T}(l:K.lookup a=some ⟨.type "tuple",none,.seq its.toArray n,sl⟩)(hz:its.length<=1000)(r:KRs K its ts):KR K (.ref a) (.tup ts) :=
 .tup l rfl rfl rfl (by simpa using Nat.le_of_lt (Xo hz)) (by simpa using r.1) fun i u t e1 e2=>r.2 i u t (by simpa using e1) e2
theorem KR.rel{u:Value}{t:T}(h:KR K u t):RelV (toV u) u/\∀S H,Rep K S H (toV u) t:=by
 induction h with
 |non=>exact⟨rfl,fun _ _=>.non⟩
 |bl b=>exact⟨rfl,fun _ _=>.bl b⟩
 |int i t=>exact⟨⟨t,rfl⟩,fun _ _=>.int i⟩
 |str x t=>exact⟨⟨t,rfl⟩,fun _ _=>.str x⟩
 | @tup a o its n ts lk hc hd hn hz hl _ ih =>
  refine⟨rfl,fun S H=>?_⟩
  have hv:Vals (its.toList.map toV) its.toList:=by
   have:∀(us:List Value),(∀u∈us,RelV (toV u) u)->Vals (us.map toV) us:=by
    intro us
    induction us with
    |nil=>exact fun _=>.nil
    |cons u us ihu=>exact fun q=>.cons (q u List.mem_cons_self) (ihu fun z hz=>q z (List.mem_cons_of_mem _ hz))
   refine this _ fun u hu=>?_
   obtain⟨i,hi,rfl⟩:=List.mem_iff_getElem.mp hu
   exact(ih i its.toList[i] (ts[i]'(by omega)) (List.getElem?_eq_getElem hi) (List.getElem?_eq_getElem (by omega))).1
  refine .tup (.inr ⟨o,its,n,lk,hc,hd,hz,hv,hn⟩) (by rw[List.length_map];exact hl) fun i v t e1 e2=>?_
  rw[List.getElem?_map] at e1
  cases hu:its.toList[i]? with
  |none=>rw[hu] at e1;cases e1
  |some u =>
   rw[hu] at e1
   cases e1
   exact(ih i u t hu e2).2 S H
inductive Ents(w:World)(K:PySem.W.Frag):List DictEntry->List (Key×T)->Prop where
 |nil:Ents w K [] []
 |cons {x:Str} {tk:Tok} {u:Value} {t:T} {es:List DictEntry} {kts:List (Key×T)}:KR K u t->Ents w K es kts->Ents w K (⟨PyData.keyHash w.params x,.str x tk,u⟩::es) ((.inr x,t)::kts)
theorem Ents.out{P:Program}{w:World}{es:List DictEntry}{kts:List (Key×T)}(h:Ents w K es kts):∃(kvs:List (Key×V)) (vs:List (Key×Value)),KV kvs vs/\(∀S H,RepK K S H kvs kts)/\(∀e∈es,∃k,(mixKind P w).is k e.key=true/\e.hash=(mixKind P w).hash k)/\Pairs (mixKind P w) es vs/\vs.map (·.1)=kts.map (·.1):=by
 induction h with
 |nil=>exact⟨[],[],.nil,fun _ _=>⟨rfl,fun _ _ _ e=>by simp at e⟩,(fun _ h=>by cases h),.nil,rfl⟩
 | @cons x tk u t es kts kr _ ih =>
  obtain⟨kvs,vs,h1,h2,h3,h4,h5⟩:=ih
  obtain⟨r1,r2⟩:=kr.rel
  refine⟨(.inr x,toV u)::kvs,(.inr x,u)::vs,.cons ⟨rfl,r1⟩ h1,fun S H=>?_,fun e he=>?_,.cons (Cr P w x tk) rfl h4,by simp only[List.map_cons,h5]⟩
  ·refine⟨by simp only[List.length_cons,(h2 S H).1],fun i v t e1 e2=>?_⟩
   cases i with
   |zero=>simp at e1 e2;subst e1;subst e2;exact⟨rfl,r2 S H⟩
   |succ i=>exact(h2 S H).2 i v t (by simpa using e1) (by simpa using e2)
  ·rcases List.mem_cons.mp he with rfl|q
   ·exact⟨.inr x,Cr P w x tk,rfl⟩
   ·exact h3 e q
theorem Vs{P:Program}{w:World}{h:Heap}{mg:Str->Option Value}{x:Str}{d:Addr}{es:List DictEntry}{ep:Nat}{kts:List (Key×T)}(X:K.In h)(G:h.Ns mainGlobals mg)(a:PySem.W.nsIn K mainGlobals x=some (some (.ref d)))
  (l:K.lookup d=some ⟨.type "dict",none,.dict es.toArray ep,#[]⟩) (hs:(d==sysModules)=false) (en:Ents w K es kts) (nd:(kts.map (·.1)).Nodup):KDt P w K mg x kts:=by
 obtain⟨kvs,vs,h1,h2,h3,h4,h5⟩:=en.out (P:=P)
 refine⟨d,kvs,PySem.W.mg_of X G a,⟨hs,vs,h1,fun h' k'=>⟨_,_,_,k' d _ l,⟨rfl,rfl,rfl⟩,rfl,fun e he=>h3 e (by simpa using he),by simpa using h4,by rw[h5];exact nd⟩⟩,h2⟩
theorem Zk{h:Heap}{mg:Str->Option Value}{x:Str}{ps:List Str}{st:Stmt}{f:Addr}{oc:Value}{od an:Option Addr}{osl:Array (Option Value)}{kV doc pm cdv ct:Value}(X:K.In h)(G:h.Ns mainGlobals mg)(a:PySem.W.nsIn K mainGlobals x=some (some (.ref f)))
  (l:K.lookup f=some ⟨oc,od,.func (PySem.W.fnOf x x (Be st) (defBody st) (Zb st) .none kV doc pm an cdv ct),osl⟩) (c:PySem.W.codeIn K cdv x=true) (k:PySem.W.keepIn K (.ref f)=true)
  (b:∀(kV doc pm:Value) (an:Option Addr) (cdv ct:Value) (us:List Value),us.length=ps.length->bindArgs (PySem.W.fnOf x x (Be st) (defBody st) (Zb st) .none kV doc pm an cdv ct) ⟨us,[]⟩=pure (ps.zip us)):Aa K mg x ps st :=
 ⟨f,_,Ej l c k,(Ej l c k).binds b,PySem.W.mg_of X G a⟩
theorem Z4{h:Heap}{mg:Str->Option Value}{x:Str}{i:Int}{t:Tok}(X:K.In h)(G:h.Ns mainGlobals mg)(a:PySem.W.nsIn K mainGlobals x=some (some (.int i t))):∃t,mg x=some (.int i t):=⟨t,PySem.W.mg_of X G a⟩
theorem Nd{H:Hp}{a:Addr}{ns:List Int}{t:List T->TH->UX->Prop}(hO:Sb H)(hS:SqL K H a (ns.map V.int))(h:t [.fls (ns.map T.int)] (fun _=>none) fun r _=>r=.bl true):spU K t [.ref a] H (fun v _=>v=.bl true) fun _ _ _=>False:=by
 refine⟨fun _=>none,_,_,(fun _ _ e=>by cases e),.cons (.fls (a:=a) (vs:=ns.map V.int) ?_ (by simp) fun i v t e1 e2=>?_) .nil,h,fun v r S' H' _ _ rp q=>?_⟩
 ·rcases hS with(q|⟨o,q⟩)|q
  ·rcases hO a with z|⟨o,xs,z⟩
   ·rw[z] at q;cases q
   ·rw[z] at q;cases q
  ·exact .inl ⟨rfl,o,q⟩
  ·exact .inr q
 ·rw[List.getElem?_map] at e1 e2
  cases hn:ns[i]? with
  |none=>rw[hn] at e1;cases e1
  |some n=>rw[hn] at e1 e2;cases e1;cases e2;exact .int n
 ·have q:r=.bl true:=q
  subst q
  cases rp
  rfl
end
end TL
end
section
namespace TL
open PySem PySem.Spec PyProof.Rows L2
section
variable{X:Cx}{pos:Pos}
def Rt(xs:List T)(S:TH)(P:UX):Prop:=match xs with
 |[.lst ts]=>P (.tup ts) S
 |[.tup ts]=>P (.tup ts) S
 |[.ref p]=>∃ts,S p=some (.lst ts)/\P (.tup ts) S
 |_=>False
theorem W2{K:PySem.W.Frag}:Dt K (fun xs H Q=>∃p ys,xs=[.ref p]/\((SqL K H p ys/\∀l,H l=none->Q (.ref l) (upd H l (.tup ys)))\/(SqT K H p ys/\Q (.ref p) H))) Rt:=fun S H vs xs P Q g r ho fin=>by
 match xs,r,ho with
 |[.lst ts],r,ho =>
  obtain⟨v,rfl⟩:∃v,vs=[v]:=List.length_eq_one_iff.mp r.1
  obtain⟨a,ws,rfl,f,r'⟩:=r.head.lstE
  exact⟨a,ws,rfl,.inl ⟨f.sq,fun l hl=>C7 fin g hl r' ho⟩⟩
 |[.tup ts],r,ho =>
  obtain⟨v,rfl⟩:∃v,vs=[v]:=List.length_eq_one_iff.mp r.1
  obtain⟨a,ws,rfl,f,r'⟩:=r.head.tupE
  exact⟨a,ws,rfl,.inr ⟨f.sq,fin _ _ S H .refl g (.tupI f r') ho⟩⟩
 |[.ref p],r,ho =>
  obtain⟨v,rfl⟩:∃v,vs=[v]:=List.length_eq_one_iff.mp r.1
  have rp:=r.head
  cases rp
  obtain⟨ts,e,ho⟩:=ho
  obtain⟨ws,q,r'⟩:=g p _ e
  exact⟨p,ws,rfl,.inl ⟨SqL.of q,fun l hl=>C7 fin g hl r' ho⟩⟩
def oMax(xs:List T)(S:TH)(P:UX):Prop:=match xs with
 |[.int i,.int j]=>P (.int (if j > i then j else i)) S
 |_=>False
theorem lMax{K:PySem.W.Frag}:Dt K (fun xs H Q=>∃i j,xs=[.int i,.int j]/\Q (.int (if j > i then j else i)) H) oMax:=fun S H vs xs P Q g r ho fin=>by
 match xs,r,ho with
 |[.int i,.int j],r,ho =>
  match vs,r with
  |[v,w],r =>
   have r1:=r.head
   have r2:=r.tail.head
   cases r1
   cases r2
   exact⟨i,j,rfl,fin _ _ S H .refl g (.int _) ho⟩
  |[],r=>exact absurd r.1 (by simp)
  |[_],r=>exact absurd r.1 (by simp)
  |_::_::_::_,r=>exact absurd r.1 (by simp)
section
variable{a b:Expr}{tr:UTA}{p:Pos}
theorem Aj(hg:Gl X "tuple")(hm:X.mg "tuple"=none)(ha:UA X [a] tr)(he:starEach [a] X.env=(false,eval a X.env)::starEach [] X.env:=by rfl):UE X (.Call (.Name "tuple" p) [a] [] pos) (Bh Rt tr):=Ei F2 W2 hg hm boot_tuple ha (he:=he)
theorem P7(hc:X.calm=true)(hg:Gl X "max")(hm:X.mg "max"=none)(ha:UA X [a,b] tr)(he:starEach [a,b] X.env=(false,eval a X.env)::starEach [b] X.env:=by rfl)(hpl:(backTo pos (starEach [b] X.env)).any (·.1)=false:=by rfl):UE X (.Call (.Name "max" p) [a,b] [] pos) (Bh oMax tr) :=
 Bn (Mw hc) lMax hg hm boot_max ha (he:=he) (hpl:=hpl)
end
end
end TL
end
section
namespace L2
open PySem PySem.Spec PyProof.Rows
end L2
end
section
namespace TL
open PySem PySem.Spec PyProof.Rows L2
end TL
end
section
namespace PySem
open Sem (wp)
section
variable{prog:Program}{w:World}{A:Around}{E:Value->Shared->Prop}{h:Heap}{g:Array GenState}{d:Drawn}{t:Nat}{os:OsState}{a:Addr}{o:Obj}
theorem Bt:entryFor table "dict.update.loop"=some Builtin.«dict.update.loop»:=entryFor_of_tree (by kernel_rfl)
end
end PySem
end
section
namespace PySem
end PySem
namespace L2
open PySem PySem.Spec PyProof.Rows
end L2
end
section
namespace PySem
end PySem
end
section
namespace L2
open PySem PySem.Spec PyProof.Rows
section
variable{X:Cx}{pins:List (Addr×Obj)}{σ:St}{H:Hp}{s:Shared}
theorem Fd{xs:List V}{us:List Value}(r:Vals xs us){i:Nat}{u:Value}(e:us[i]?=some u):∃x,xs[i]?=some x/\RelV x u:=by
 have hi:=(List.getElem?_eq_some_iff.mp e).1
 have hl:=r.length
 have ex:xs[i]?=some (xs[i]'(by omega)):=List.getElem?_eq_getElem (by omega)
 obtain⟨u',h1,h2⟩:=r.get ex
 rw[e] at h1
 cases h1
 exact⟨_,ex,h2⟩
end
end L2
end
section
namespace L2
open PySem PySem.Spec PyProof.Rows
end L2
namespace TL
open PySem PySem.Spec PyProof.Rows L2
section
variable{K:PySem.W.Frag}{S:TH}{H:Hp}
theorem Kz{P:UX}{Q:VK}{p:Addr}{kvs:List (Key×V)}{kts:List (Key×T)}(fin:Fin K S H P Q)(g:Good K S H)(hp:H p=none)(r:RepK K S H kvs kts)(h:P (.dct kts) S):Q (.ref p) (upd H p (.dK kvs)):=by
 have le:Le S H S (upd H p (.dK kvs)):=Le.new g hp
 have r3:=r.mono le
 exact fin _ _ _ _ le (g.new hp) (.dct ⟨g.free hp,Ak⟩ r3.1 (fun i v t a b=>(r3.2 i v t a b).1) fun i v t a b=>(r3.2 i v t a b).2) h
end
end TL
end
section
namespace TL
open PySem PySem.Spec PyProof.Rows L2
section
variable{X:Cx}{elt iter:Expr}{ti:UTA}{tc:UTT}{te:UTE}{pos spos:Pos}{scope:Scope}{ifs:List Expr}{z:Str}{pz:Pos}
theorem Ar(k:Nat)(hNd:X.N.Nodup)(i:Nat)(N:List Str)(pick:List (Option Nat)){x:Str}{px:Pos}(hc:X.calm=true)(hi:UI X (.Name x px) iter ti)(ht:∀C s H fp pins,PTs (Xl X N scope C s H fp pins) ifs (lfT X.K tc))(he:∀C s H fp pins,UE (Xl X N scope C s H fp pins) elt te)
  (hs:scopeOk X.env.scope.names scope.names=true:=by rfl) (hp:A2 X.N scope.names N pick=true:=by rfl) (hk:scope.kind=.function:=by rfl) (hN:N.Nodup:=by decide +kernel)
  (hiN:N[i]?=some x:=by rfl) (hpi:pick[i]?=some none:=by rfl) (hloc:scope.names.lookup x=some .local:=by rfl) (hfs:∀x,foldedSetIterable iter X.env x=pure x:=by intro _;rfl)
  (hz:X.N[k]?=some z:=by rfl) (hlz:Loc X.env.scope z:=by first|exact Or.inl rfl|exact Or.inr rfl) (hsw:swapsWith (.ListComp elt [⟨.Name x px,iter,ifs,0⟩] scope pos) (some (.Name z pz)) spos.line X.env=pure true:=by rfl)
  (hf:X.fn z=true\/X.env.scope.names.lookup z=some .local:=by first|exact .inl rfl|exact .inr rfl) :
  US X (.Assign [.Name z pz] (.ListComp elt [⟨.Name x px,iter,ifs,0⟩] scope pos) spos) (uSet k (Aq pick ti (gNm i) tc te)) :=
 PS.imp (Fz (i:=k) hc hs hp hk hi (fun C s H fp pins=>Bj (i:=i) hN hiN (.inl (lookup_relabel_local hloc)) (.inr (lookup_relabel_local hloc))) ht (te:=lf X.K te) he hNd hz hlz hsw hf hfs) fun D σ H ⟨S,env,E,g,re,h,fin⟩ =>
  C4 (fun y tt S1 H1 env k R gd re rt hg hR=>⟨B7 hpi,hR _ _ (re.set rt) hg⟩) (Za ⟨g,re⟩ h fun v y S1 H1 le1 m1 ry h1=>fin.nx _ _ S1 H1 le1 m1.g (m1.re.set ry) h1)
end
theorem B6{pick:List (Option Nat)}{ti:UTA}{env:Ev}{S S1:TH}{gg:UTG}{tc:UTT}{te:UTE}{P:UX}(ts:List T)(Iv:Nat->List T->TH->Prop)(hti:∀k:List T->TH->Prop,k ts S1->ti env S k)(hl:ts.length<=sizeLine)(h0:Iv 0 [] S1)
  (turn:∀k x acc S,ts[k]?=some x->Iv k acc S->gg x (B1 pick env) S fun env' S'=>tc env' S' fun b S2=>(b=true->te env' S2 fun r S3=>Iv (k+1) (acc++[r]) S3)/\(b=false->Iv (k+1) acc S2))
  (done:∀acc S,Iv ts.length acc S->P (.lst acc) S):Aq pick ti gg tc te env S P:=hti _ ⟨hl,Iv,h0,turn,done⟩
theorem Zj{t u:UTS}{E:UEnds}{env:Ev}{S:TH}(R:Ev->TH->Prop)(h:∀k:Ev->TH->Prop,(∀env' S',R env' S'->k env' S')->t { E with nx:=k } env S)(rest:∀env' S',R env' S'->u E env' S'):D0 t u E env S:=by
 unfold D0
 exact h _ rest
theorem Cv{t u:UTT}{env:Ev}{S:TH}{P:Bool->TH->Prop}(ht:∀P:Bool->TH->Prop,P true S->t env S P)(h:P true S):uOr t u env S P:=ht _ ⟨fun _=>h,fun e=>(by cases e)⟩
theorem Bd{t u:UTT}{env:Ev}{S:TH}{P:Bool->TH->Prop}(ht:∀P:Bool->TH->Prop,P false S->t env S P)(h:u env S P):uOr t u env S P:=ht _ ⟨fun e=>(by cases e),fun _=>h⟩
theorem C8{t u:UTT}{env:Ev}{S:TH}{P:Bool->TH->Prop}(ht:∀P:Bool->TH->Prop,P false S->t env S P)(h:P false S):Hs t u env S P:=ht _ ⟨fun e=>(by cases e),fun _=>h⟩
theorem Dp{t u:UTT}{env:Ev}{S:TH}{P:Bool->TH->Prop}(ht:∀P:Bool->TH->Prop,P true S->t env S P)(h:u env S P):Hs t u env S P:=ht _ ⟨fun _=>h,fun e=>(by cases e)⟩
theorem Me{α β:Type}(f:α->β)(zs:List α)(lo hi:Option Int):cutA (zs.map f) lo hi=(cutA zs lo hi).map f:=by
 unfold cutA
 rw[List.length_map,List.map_take,List.map_drop]
theorem Ja{α:Type}(a:List α)(lo hi:Option Int):(cutA a lo hi).length<=a.length:=by
 unfold cutA
 rw[List.length_take,List.length_drop]
 omega
theorem R9{α:Type}{a:List α}{lo hi:Option Int}{t:α}(ht:t∈cutA a lo hi):t∈a:=List.mem_of_mem_drop (List.mem_of_mem_take ht)
end TL
end
section
namespace L2
open PySem PySem.Spec PyProof.Rows
section
variable{X:Cx}
theorem N1(hu:X.A.units+1<cLine):OpR X (compareOp .NotIn) (fun y x H Q=>∃a o,x=.ref a/\DGet H a y o/\Q (.bl (!o.isSome)) H):=by
 intro pins s σ H y x v u Q I ry rx h
 obtain⟨a,o,rfl,g,q⟩:=h
 cases rx
 exact Ue hu I g ry fun s3 I3=>⟨.bl (!o.isSome),H,I3,rfl,q⟩
end
end L2
end
section
namespace TL
open PySem PySem.Spec PyProof.Rows L2
section
variable{K:PySem.W.Frag}{S S':TH}{H H':Hp}
def Wc:T->T->TH->UX->Prop:=fun x y S P=>match y with
 | .non=>(match x with | .non=>P (.bl false) S|_=>P (.bl true) S)
 |_=>False
theorem lNotN:LOp K (fun x y H Q=>y=.non/\Q (.bl (!decide (x=.non))) H) Wc:=fun S H v w x y P Q g rx ry ho fin=>by
 cases y with
 |non =>
  cases ry
  refine⟨rfl,?_⟩
  cases x with
  |non=>cases rx;exact fin _ _ S H .refl g (.bl _) ho
  |_ =>
   have:v≠.non:=fun z=>by subst z;cases rx
   rw[decide_eq_false this]
   exact fin _ _ S H .refl g (.bl _) ho
 |_=>exact ho.elim
end
section
variable{X:Cx}{a b e o:Expr}{ta tb te to ti:UTE}{tr:UTA}{p pos:Pos}{x:Str}
theorem Lx(ha:UE X a ta)(hb:UE X b tb):UT X (.Compare a [.IsNot] [b] pos) (A4 (A0 Wc ta tb)):=Bf Vk lNotN ha hb (Bo _)
def KTp(K:PySem.W.Frag)(mg:Str->Option Value)(x:Str)(ts:List T):Prop:=∃d,mg x=some (.ref d)/\∀S H,Rep K S H (.ref d) (.tup ts)
theorem U3{ts:List T}(hg:Gl X x)(h:KTp X.K X.mg x ts)(hd:(x==("__debug__":Str))=false:=by decide):UE X (.Name x pos) (uC (.tup ts)):=by
 obtain⟨d,hm,r⟩:=h
 exact Kn (Mf (v:=.ref d) hg hm rfl hd) r
end
theorem kt_mk{K:PySem.W.Frag}{h:Heap}{mg:Str->Option Value}{x:Str}{d:Addr}{ts:List T}(X:K.In h)(G:h.Ns mainGlobals mg)(a:PySem.W.nsIn K mainGlobals x=some (some (.ref d)))(r:KR K (.ref d) (.tup ts)):KTp K mg x ts :=
 ⟨d,PySem.W.mg_of X G a,r.rel.2⟩
end TL
end
section
namespace PySem
end PySem
end
section
namespace PySem
end PySem
namespace L2
open PySem PySem.Spec PyProof.Rows
end L2
end
section
namespace L2
open PySem PySem.Spec PyProof.Rows
open AutoSeq1 (wpAny_loadPart')
theorem Oi(t:Addr)(oc:Option Addr)(its:Array Value)(n:Nat)(sl:Array (Option Value)):
  Meets (Builtin.«enumerate.__new__» ⟨[.type "enumerate",.ref t],[]⟩) (fun _ R s=>s.heap.get? t=some ⟨.type "tuple",oc,.seq its n,sl⟩ ∧
   R (.ok (.ret (.ref (s.heap.push { cls:=.type "tuple_iterator",data:=.fields #[.ref t,.int 0 0] }).objs.size)))
    { s with heap:=(s.heap.push { cls:=.type "tuple_iterator",data:=.fields #[.ref t,.int 0 0] }).push { cls:=.type "enumerate",data:=.fields #[.none,.bool false,.ref s.heap.objs.size,rawInt 0,.none,.none] } }) :=
 .of_wp fun prog w A R s h=>by
  obtain⟨hp,g,d,tk,os⟩:=s
  obtain⟨ht,h⟩:=h
  have q1:=sub_enumerate
  have q2:Heap.IsTuple (Shared.heap ⟨hp,g,d,tk,os⟩) t its:=⟨_,ht,rfl,n,rfl⟩
  wp_walk using wpAny_loadPart' ht
  refine wpAny_stack_any fun st=>wpAny_pure ?_
  split
  ·rename_i c _ _ _ _ _
   cases (c==Value.type "enumerate")
   all_goals
    wp_walk using wpAny_loadPart' ht,wpAny_pyIter_tuple q2
    exact⟨_,rfl,h⟩
  ·wp_walk using wpAny_loadPart' ht,wpAny_pyIter_tuple q2
   exact⟨_,rfl,h⟩
section
variable{prog:Program}{w:World}{A:Around}{E:Value->Shared->Prop}{s:Shared}
theorem F3{t:Addr}{its:Array Value}{Q:Value->Shared->Prop}(ht:s.heap.IsTuple t its)
  (h:∀h',IsEnum h' (s.heap.objs.size+1) s.heap.objs.size 0 .none->h'.IsTupleIter s.heap.objs.size t 0->(∀b o,s.heap.get? b=some o->h'.get? b=some o)->Q (.ref (s.heap.objs.size+1)) { s with heap:=h' }) :
  wpAny (model prog w) A (call (.type "enumerate") [.ref t]) Q E s:=by
 obtain⟨⟨c,dct,dt,sl⟩,hl,hc,n,hd⟩:=ht
 have hc:c=.type "tuple":=hc
 have hd:dt=.seq its n:=hd
 subst hc hd
 refine callType_new F.called_enumerate (by decide) (F.typeCall_enumerate_1 _) (F.newCall_enumerate_1 _) (fun obj=>F.args_object_init_2 obj _) F.entry_enumerate_new (Oi t dct its n sl) ⟨hl,?_⟩
 have z:(s.heap.push { cls:=.type "tuple_iterator",data:=.fields #[.ref t,.int 0 0] }).objs.size=s.heap.objs.size+1:=Heap.size_push ..
 show _/\_
 rw[z]
 have en:IsEnum ((s.heap.push { cls:=.type "tuple_iterator",data:=.fields #[.ref t,.int 0 0] }).push { cls:=.type "enumerate",data:=.fields #[.none,.bool false,.ref s.heap.objs.size,rawInt 0,.none,.none] }) (s.heap.objs.size+1) s.heap.objs.size 0 .none:=by
  have q:=Heap.get?_push_size (s.heap.push { cls:=.type "tuple_iterator",data:=.fields #[.ref t,.int 0 0] }) (o:={ cls:=.type "enumerate",data:=.fields #[.none,.bool false,.ref s.heap.objs.size,rawInt 0,.none,.none] }) rfl
  rw[z] at q
  exact q
 exact⟨⟨_,en,rfl⟩,h _ en ⟨_,Heap.get?_push_of_some _ (Heap.get?_push_size _ rfl),rfl,rfl⟩ fun b o x=>Heap.get?_push_of_some _ (Heap.get?_push_of_some _ x)⟩
theorem Gv(hh:A.handled=none)(it t:Addr)(ne:t≠it)(its:Array Value):Draws prog w A it [it,t] its.size (fun i x=>its[i]?=some x) (fun i h=>h.IsTupleIter it t i/\h.IsTuple t its) where
 live:=fun i h st=>by obtain⟨o,e,_⟩:=st.1;exact⟨o,e⟩
 frame:=fun i h h' st k=>by
  obtain⟨⟨o,e,r⟩,⟨o',e',r'⟩⟩:=st
  exact⟨⟨o,k it (by simp) o e,r⟩,⟨o',k t (by simp) o' e',r'⟩⟩
 item:=fun i s Q E hi st hQ=>by
  obtain⟨h1,h2⟩:=st
  refine Au (x:=its[i]) h1 h2 (by simp[hi]) fun g g1 sb=>?_
  obtain⟨o',e',r'⟩:=h2
  exact hQ _ g s.toks (by simp[hi]) ⟨g1,⟨o',(sb.2 t ne).trans e',r'⟩⟩ sb
 done:=fun s Q E st hE=>Cn hh st.1 st.2 (by simp) fun g e a b=>hE g e a b
end
def Ite (K:PySem.W.Frag) (a:Addr):It :=
  ⟨fun i H=>∃ xs x,SqT K H a xs /\ xs[i]? = some x,
   fun i H v H'=>∃ p x,H p = none /\ v = .ref p /\ H' = upd H p (.tup [.int (i:Int),x]) /\ ∀ xs,SqT K H a xs->xs[i]? = some x,
   fun i H=>∃ xs,SqT K H a xs /\ xs.length = i⟩
theorem Oj{P:Program}{w:World}{K:PySem.W.Frag}{es:List Expr}{k:Nat}{pos:Pos}{e it a:Addr}(nei:e≠it)(nea:a≠e)(nia:a≠it):Turn P w K (.Tuple es k pos) (Ite K a) [e,it] e (fun i h=>(∃old,IsEnum h e it i old)/\h.IsTupleIter it a i) where
 mem:=by simp
 obj:=fun i h st c hc=>by
  obtain⟨⟨old,he⟩,o,ho,cl,d⟩:=st
  simp only[List.mem_cons,List.not_mem_nil,or_false] at hc
  rcases hc with rfl|rfl
  ·exact⟨_,he,fun v q=>by cases q⟩
  ·exact⟨o,ho,fun v q=>by rw[d] at q;cases q⟩
 keep:=fun i h h' st kk=>by
  obtain⟨⟨old,he⟩,h1⟩:=st
  exact⟨⟨old,kk e (by simp) _ he⟩,Cw h1 fun o q=>kk it (by simp) o q⟩
 item:=by
  intro X hP hw hK hc i pins s σ H E I hf st hg
  subst hP hw hK
  obtain⟨xs,x,q1,e1⟩:=hg
  obtain⟨⟨old,he⟩,hi⟩:=st
  obtain⟨us,r1,p1,_⟩:=I.tuple q1
  obtain⟨u,hu,ru⟩:=r1.get e1
  have lu:i<us.length:=(List.getElem?_eq_some_iff.mp hu).1
  have el:e<s.heap.objs.size:=Heap.lt_size he
  have il:it<s.heap.objs.size:=by obtain⟨o,q,_⟩:=hi;exact Heap.lt_size q
  refine wpAny_pyNext_enum_itemD (Gv (A:=X.A.in1) (I.ok.hd hc) it a nia us.toArray) he ⟨hi,p1⟩ (by simpa using lu) nei (by simp only[List.mem_cons,List.not_mem_nil,or_false,not_or];exact⟨nei,Ne.symm nea⟩) fun y g tk py eo st' tu sz kk=>⟨_,rfl,?_⟩
  have ey:y=u:=by
   have:us.toArray[i]?=some u:=by simpa using hu
   rw[this] at py
   exact(Option.some.inj py).symm
  subst ey
  refine wpAny_letOwnedTupleGo_enum eo fun g' en sb=>?_
  have ne:s.heap.objs.size≠e:=Nat.ne_of_gt el
  have up:∀c o,c ∉ [e,it]->s.heap.get? c=some o->g'.get? c=some o:=fun c o hc' q=>by
   simp only[List.mem_cons,List.not_mem_nil,or_false,not_or] at hc'
   exact sb.extBut _ _ hc'.1 (kk c o hc'.1 hc'.2 q)
  have I1:Inv X pins σ H { s with heap:=g',toks:=tk+1 }:=I.turns (t':=tk+1) up hf
  have t':g'.get? s.heap.objs.size=some { cls:=.type "tuple",data:=.seq #[.int i tk,y] }:=sb.extBut _ _ ne tu
  have I2:=I1.track (a:=s.heap.objs.size) (o:=.tup [.int (i:Int),x]) (I.fpOk (Nat.le_refl _) I.fresh) ⟨by show 2<=sizeLine;decide,[.int i tk,y],.cons ⟨tk,rfl⟩ (.cons ru .nil),⟨_,t',rfl,⟨_,rfl⟩,rfl⟩⟩
  refine⟨.ref s.heap.objs.size,_,I2,rfl,⟨_,x,I.fresh,rfl,rfl,fun xs' q=>by rw[I.tuple_inj q q1];exact e1⟩,⟨⟨_,en⟩,Cw st'.1 fun o q=>sb.extBut _ _ (Ne.symm nei) q⟩,fun c hc'=>?_⟩
  have nc:c≠s.heap.objs.size:=by
   simp only[List.mem_cons,List.not_mem_nil,or_false] at hc'
   rcases hc' with rfl|rfl
   ·exact Nat.ne_of_lt el
   ·exact Nat.ne_of_lt il
  rw[Xc nc]
  exact(hf c hc').1
 done:=by
  intro X hP hw hK hc i pins s σ H E I hf st hg
  subst hP hw hK
  obtain⟨xs,q1,hl⟩:=hg
  obtain⟨⟨old,he⟩,hi⟩:=st
  obtain⟨us,r1,p1,_⟩:=I.tuple q1
  have el:=r1.length
  have ei:i=us.toArray.size:=by simp;omega
  subst ei
  refine wpAny_pyNext_enum_endD (Gv (A:=X.A.in1) (I.ok.hd hc) it a nia us.toArray) he ⟨hi,p1⟩ fun g kk=>⟨rfl,I.turns (t':=s.toks) (ch:=[e,it]) (fun c o hc' q=>?_) hf⟩
  simp only[List.mem_cons,List.not_mem_nil,or_false,not_or] at hc'
  exact kk c o hc'.2 q
 self:=fun _ _ _ _ _ st h=>by obtain⟨⟨old,he⟩,_⟩:=st;exact wpAny_pyIter_enum he h
def iEnum(K:PySem.W.Frag)(ta:TA):TI:=fun σ H R=>ta σ H fun vs H1=>∃a xs,vs=[.ref a]/\SqT K H1 a xs/\R (Ite K a) H1
theorem Vn{X:Cx}{a:Expr}{ta:TA}{p pos tp:Pos}{es:List Expr}{k:Nat}(hg:Gl X "enumerate")(hm:X.mg "enumerate"=none)(ha:PA X [a] ta)(hs:starEach [a] X.env=[(false,eval a X.env)]:=by rfl):PI X (.Tuple es k tp) (.Call (.Name "enumerate" p) [a] [] pos) (iEnum X.K ta):=by
 intro pins s σ H R I h
 refine Call_ (Br I hg hm boot_enumerate (PyProof.Rows.callWith_type1 (thn (ha pos pins s σ H _ I h) fun us s1 h1=>?_) hs rfl))
 obtain⟨vs,H1,I1,r1,q1⟩:=h1
 obtain⟨c,xs,rfl,q,hR⟩:=q1
 obtain⟨u,rfl,ru⟩:=Dg r1
 cases ru
 obtain⟨is,r,p1,_⟩:=I1.tuple q
 have lt:c<s1.heap.objs.size:=by
  obtain⟨o,z,_⟩:=p1
  exact Heap.lt_size z
 refine F3 (its:=is.toArray) p1 fun g en hi kk=>wpAny_pyIter_enum en ?_
 refine⟨s1.heap.objs.size+1,[s1.heap.objs.size+1,s1.heap.objs.size],_,_,H1,rfl,I1.kept (t':=s1.toks) kk,Oj (Nat.succ_ne_self _) (Nat.ne_of_lt (Nat.lt_succ_of_lt lt)) (Nat.ne_of_lt lt),⟨⟨_,en⟩,hi⟩,fun x hx=>?_,hR⟩
 have hl:s1.heap.objs.size<=x:=by
  simp only[List.mem_cons,List.not_mem_nil,or_false] at hx
  rcases hx with rfl|rfl <;> omega
 exact I1.fpOk hl (I1.hok.fresh hl)
end L2
end
section
namespace TL
open PySem PySem.Spec PyProof.Rows L2
section
variable{X:Cx}{e a:Expr}{te:UTE}{tr:UTA}{p p' pos pos' tp:Pos}
theorem C0{K:PySem.W.Frag}{S:TH}{H:Hp}:∀{vs:List V} {zs:List Str},Reps K S H vs (zs.map T.str)->vs=zs.map V.str
 |[],[],_=>rfl
 |[],_::_,r=>absurd r.1 (by simp)
 |_::_,[],r=>absurd r.1 (by simp)
 |v::vs,z::zs,r=>by
  have h:=r.head
  cases h
  rw[C0 r.tail]
  rfl
def Ci:Nat->List T->List T
 |_,[]=>[]
 |k,t::r=>.tup [.int (k:Int),t]::Ci (k+1) r
theorem B0:∀(ts:List T) (k:Nat),(Ci k ts).length=ts.length
 |[],_=>rfl
 |_::r,k=>by simp[Ci,B0 r]
theorem G0:∀{ts:List T} {k i:Nat} {t:T},ts[i]?=some t->(Ci k ts)[i]?=some (.tup [.int ((k+i:Nat):Int),t])
 |[],_,_,_,h=>by simp at h
 |u::r,k,0,t,h=>by simp at h;subst h;rfl
 |u::r,k,i+1,t,h=>by
  have:=G0 (k:=k+1) (show r[i]?=some t by simpa using h)
  show (Ci (k+1) r)[i]?=_
  rw[this]
  congr 4
  omega
def uEnum(tr:UTA):UTA:=fun env S P=>tr env S fun xs S1=>match xs with
 |[.tup ts]=>P (Ci 0 ts) S1
 |_=>False
theorem Uz{es:List Expr}{k:Nat}(hg:Gl X "enumerate")(hm:X.mg "enumerate"=none)(ha:UA X [a] tr)(hs:starEach [a] X.env=[(false,eval a X.env)]:=by rfl):UI X (.Tuple es k tp) (.Call (.Name "enumerate" p) [a] [] pos) (uEnum tr) :=
 PI.imp (Vn hg hm ha hs) fun σ H R ⟨S,env,P,g,re,h,fin⟩=>Ai ⟨g,re⟩ h fun vs xs S1 H1 le1 m1 rx h1=>by
  match xs,rx,h1 with
  |[.tup ts],rx,h1 =>
   obtain⟨v,rfl,r1⟩:=rx.one
   obtain⟨l,us,rfl,f,r⟩:=r1.tupE
   refine⟨l,us,rfl,f.sq,fin (Ci 0 ts) _ S1 H1 le1 m1.g h1 ⟨fun i S2 H2 le g2 hi=>?_,fun S2 H2 le g2=>⟨us,(f.mono le).sq,by rw[B0];exact r.1⟩,fun i S2 H2 x H3 le g2 hi y=>?_⟩⟩
   ·rw[B0] at hi
    exact⟨us,us[i]'(by rw[r.1];exact hi),(f.mono le).sq,List.getElem?_eq_getElem _⟩
   ·obtain⟨q,y,hq,rfl,rfl,hy⟩:=y
    obtain⟨t,et,rt⟩:=r.get' (hy us (f.mono le).sq)
    have l2:Le S2 H2 S2 (upd H2 q (.tup [.int (i:Int),y])):=Le.new g2 hq
    refine⟨l2,g2.new hq,.tup [.int (i:Int),t],?_,.tupI (.inl ⟨g2.free hq,Ak⟩) ((Reps.cons (.int _) (.cons (rt.mono le) .nil)).mono l2)⟩
    have:=G0 (k:=0) et
    rw[Nat.zero_add] at this
    exact this
theorem Oh{pick:List (Option Nat)}{ti:UTA}{env:Ev}{S:TH}{gg:UTG}{tc:UTT}{te:UTE}{P:UX}(Qs:List T->TH->Prop)(hti:∀k:List T->TH->Prop,(∀ts S1,Qs ts S1->k ts S1)->ti env S k)
  (body:∀ts S1,Qs ts S1->ts.length<=sizeLine/\∃Iv:Nat->List T->TH->Prop,Iv 0 [] S1 ∧
   (∀k x acc S,ts[k]?=some x->Iv k acc S->gg x (B1 pick env) S fun env' S'=>tc env' S' fun b S2=>(b=true->te env' S2 fun r S3=>Iv (k+1) (acc++[r]) S3)/\(b=false->Iv (k+1) acc S2)) ∧
   ∀acc S,Iv ts.length acc S->P (.lst acc) S):Aq pick ti gg tc te env S P:=hti _ body
def W9:UTS:=fun _ _ _=>False
theorem Rc{st:Stmt}:US X st W9:=fun pins s σ H D I ⟨S,env,E,g,re,h,fin⟩=>h.elim
end
end TL
end
section
namespace L2
open PySem PySem.Spec PyProof.Rows
section
variable{X:Cx}
theorem Hy:∀{zs:List Str} {us:List Value},Vals (zs.map V.str) us->∀u∈us,∃y t,u=.str y t
 |[],us,r=>by cases r;exact fun _ h=>by cases h
 |z::zs,us,r=>by
  cases r with
  |cons h r =>
   obtain⟨t,rfl⟩:=h
   intro u hu
   rcases List.mem_cons.mp hu with rfl|hu
   ·exact⟨z,t,rfl⟩
   ·exact Hy r u hu
end
end L2
end
section
namespace TL
open PySem PySem.Spec PyProof.Rows L2
def K8(f:Str)(t:T):List (Str×T)->List (Str×T)
 |[]=>[(f,t)]
 |(g,x)::r=>if g=f then (g,t)::r else (g,x)::K8 f t r
section
variable{K:PySem.W.Frag}{S S':TH}{H H':Hp}
theorem RepF.nil:RepF K S H [] []:=⟨rfl,fun _ _ _ e=>by simp at e⟩
theorem RepF.cons{p:Str×V}{q:Str×T}{fvs:List (Str×V)}{fts:List (Str×T)}(h1:p.1=q.1)(h2:Rep K S H p.2 q.2)(r:RepF K S H fvs fts):RepF K S H (p::fvs) (q::fts):=by
 refine⟨by simp only[List.length_cons,r.1],fun i v t e1 e2=>?_⟩
 cases i with
 |zero=>simp at e1 e2;subst e1;subst e2;exact⟨h1,h2⟩
 |succ i=>exact r.2 i v t (by simpa using e1) (by simpa using e2)
theorem RepF.head{p:Str×V}{q:Str×T}{fvs:List (Str×V)}{fts:List (Str×T)}(h:RepF K S H (p::fvs) (q::fts)):p.1=q.1/\Rep K S H p.2 q.2:=h.2 0 p q rfl rfl
theorem RepF.tail{p:Str×V}{q:Str×T}{fvs:List (Str×V)}{fts:List (Str×T)}(h:RepF K S H (p::fvs) (q::fts)):RepF K S H fvs fts:=⟨by simpa using h.1,fun i v t e1 e2=>h.2 (i+1) v t (by simpa using e1) (by simpa using e2)⟩
theorem RepF.look:∀{fvs:List (Str×V)} {fts:List (Str×T)} {f:Str},RepF K S H fvs fts->(∀t,fts.lookup f=some t->∃v,fvs.lookup f=some v/\Rep K S H v t)/\(fts.lookup f=none->fvs.lookup f=none)
 |[],[],f,_=>⟨fun _ e=>(by cases e),fun _=>rfl⟩
 |[],_::_,_,h=>by have:=h.1;simp at this
 |_::_,[],_,h=>by have:=h.1;simp at this
 |(g,v)::fvs,(g',t)::fts,f,h=>by
  have hg:g=g':=h.head.1
  subst hg
  obtain⟨i1,i2⟩:=RepF.look (f:=f) h.tail
  rw[List.lookup_cons,List.lookup_cons]
  cases f==g with
  |true=>exact⟨fun t' e=>(by cases e;exact⟨v,rfl,h.head.2⟩),fun e=>(by cases e)⟩
  |false=>exact⟨i1,i2⟩
theorem RepF.put{f:Str}{v:V}{t:T}(r:Rep K S H v t):∀{fvs:List (Str×V)} {fts:List (Str×T)},RepF K S H fvs fts->RepF K S H (putF f v fvs) (K8 f t fts)
 |[],[],_=>.cons rfl r .nil
 |[],_::_,h=>by have:=h.1;simp at this
 |_::_,[],h=>by have:=h.1;simp at this
 |(g,x)::fvs,(g',y)::fts,h=>by
  have hg:g=g':=h.head.1
  subst hg
  unfold putF K8
  split
  ·exact .cons rfl r h.tail
  ·exact .cons rfl h.head.2 (RepF.put r h.tail)
theorem Good.writeI{p C dx:Addr}{fvs:List (Str×V)}{fts:List (Str×T)}{c:Cell}(g:Good K S H)(hp:S p=some c)(r:RepF K S H fvs fts):Good K (updT S p (.ins C fts)) (upd H p (.ins C dx fvs)):=fun a c' e=>by
 have le:Le S H (updT S p (.ins C fts)) (upd H p (.ins C dx fvs)):=Le.write hp
 by_cases ha:a=p
 ·subst ha
  rw[Zd] at e
  cases e
  exact⟨dx,fvs,Ak,r.mono le⟩
 ·rw[Ab ha] at e
  exact(g a c' e).mono le (Xc ha)
theorem Le.newI{p dx C:Addr}(hp:H p=none)(hd:H dx=none):Le S H (updT S p (.ins C [])) (upd (upd H dx (.own p)) p (.ins C dx [])):=fun b u n e=>by
 have n1:=Xa e hp
 have n2:=Xa e hd
 exact⟨by rw[Ab n1];exact n,by rw[Xc n1,Xc n2];exact e⟩
theorem Good.newI{p dx C:Addr}(g:Good K S H)(hp:H p=none)(hd:H dx=none)(ne:dx≠p):Good K (updT S p (.ins C [])) (upd (upd H dx (.own p)) p (.ins C dx [])):=fun a c e=>by
 by_cases ha:a=p
 ·subst ha
  rw[Zd] at e
  cases e
  exact⟨dx,[],Ak,.nil⟩
 ·rw[Ab ha] at e
  have nd:a≠dx:=fun z=>by rw[z,g.free hd] at e;cases e
  exact(g a c e).mono (Le.newI hp hd) (by rw[Xc ha,Xc nd])
end
def HasM(P:Program)(w:World)(K:PySem.W.Frag)(mg:Str->Option Value)(base:Heap)(k:Nat)(C:Addr)(m:Str)(ps:List Str)(t:List T->TH->UX->Prop):Prop :=
 ∃f fd,FnOk P w K mg base CX0 k f fd ps (spU K t)/\Binds K fd ps []/\Meth K C m f/\Cls K C
def HasI(P:Program)(w:World)(K:PySem.W.Frag)(mg:Str->Option Value)(base:Heap)(k:Nat)(C:Addr)(x:Str)(ps:List Str)(t:List T->TH->UX->Prop):Prop :=
 ∃f fd,FnOk P w K mg base CX0 k f fd ps (spU K t)/\Binds K fd ps []/\Mk K C f/\mg x=some (.ref C)
section
variable{X:Cx}{o e:Expr}{es:List Expr}{to te:UTE}{tr:UTA}{p pos pos' apos:Pos}{f m x:Str}{C:Addr}{k:Nat}{ps:List Str}{t:List T->TH->UX->Prop}
def uFld(K:PySem.W.Frag)(to:UTE)(f:Str):UTE:=fun env S P=>to env S fun x S1=>match x with
 | .ref p=>∃C fs t,S1 p=some (.ins C fs)/\Cls K C/\NoAttr K C f/\fs.lookup f=some t/\P t S1
 |_=>False
theorem Az(ho:UE X o to)(hb:attributeBase o f X.env (eval o X.env)=eval o X.env:=by rfl):UE X (.Attribute o f pos) (uFld X.K to f):=PE.imp (Ww ho hb) fun σ H Q ⟨S,env,P,g,re,h,fin⟩ =>
 Za ⟨g,re⟩ h fun v x S1 H1 le1 m1 rx h1=>by
  cases x with
  |ref p =>
   cases rx
   obtain⟨C,fs,t,e1,c,n,l,h1⟩:=h1
   obtain⟨dx,fvs,q,r⟩:=m1.g p _ e1
   obtain⟨u,eu,ru⟩:=(r.look (f:=f)).1 t l
   exact⟨p,C,dx,fvs,u,rfl,q,c,n,eu,fin _ _ S1 H1 le1 m1.g ru h1⟩
  |_=>exact h1.elim
def uSetF(K:PySem.W.Frag)(to te:UTE)(f:Str):UTS:=fun E env S=>te env S fun y S1=>to env S1 fun x S2=>match x with
 | .ref p=>∃C fs,S2 p=some (.ins C fs)/\Cls K C/\NoAttr K C f/\fs.length<1000/\E.nx env (updT S2 p (.ins C (K8 f y fs)))
 |_=>False
theorem Cd(ho:UE X o to)(he:UE X e te)(hs:swapsWith e (some (.Attribute o f pos')) pos.line X.env=pure false:=by rfl):US X (.Assign [.Attribute o f pos'] e pos) (uSetF X.K to te f):=PS.imp (Y1 ho he hs) fun D σ H ⟨S,env,E,g,re,h,fin⟩ =>
 Za ⟨g,re⟩ h fun v y S1 H1 le1 m1 ry h1=>Za m1 h1 fun ov x S2 H2 le2 m2 rx h2=>by
  cases x with
  |ref p =>
   cases rx
   obtain⟨C,fs,e1,c,n,l,h2⟩:=h2
   obtain⟨dx,fvs,q,r⟩:=m2.g p _ e1
   refine⟨p,C,dx,fvs,rfl,q,c,n,by rw[r.1];exact l,?_⟩
   exact fin.nx σ env _ _ (le1.trans (le2.trans (Le.write e1))) (m2.g.writeI e1 (RepF.put (ry.mono le2) r)) (m2.re.mono (Le.write e1)) h2
  |_=>exact h2.elim
def Vu(C:Addr)(m:Str)(t:List T->TH->UX->Prop)(to:UTE)(tr:UTA):UTE:=fun env S P=>to env S fun x S1=>match x with
 | .ref p=>∃fs,S1 p=some (.ins C fs)/\fs.lookup m=none/\tr env S1 fun ts S2=>t (.ref p::ts) S2 P
 |_=>False
theorem Z9{K:PySem.W.Frag}{ta:TA}{σ:L2.St}{H:Hp}{Q:VK}(hta:ta=lfA K tr)(h:lf K (Vu C m t to tr) σ H Q):Wb C m (spU K t) [] E0 (lf K to) ta σ H Q:=by
 subst hta
 obtain⟨S,env,P,g,re,h,fin⟩:=h
 exact Za ⟨g,re⟩ h fun v x S1 H1 le1 m1 rx h1=>by
  cases x with
  |ref p =>
   cases rx
   obtain⟨fs,e1,l,h1⟩:=h1
   obtain⟨dx,fvs,q,r⟩:=m1.g p _ e1
   refine⟨p,dx,fvs,rfl,q,(r.look (f:=m)).2 l,Ai m1 h1 fun vs ts S2 H2 le2 m2 rs h2=>?_⟩
   rw[List.append_nil]
   exact⟨S2,.ref p::ts,P,m2.g,.cons (.ref p) rs,h2,fin.le (le1.trans le2)⟩
  |_=>exact h1.elim
theorem Zm{pl:Sem Bool}(h:HasM X.prog X.w X.K X.mg X.base k C m ps t)(hr:Room k X.A)(ho:UE X o to)(ha:UA X (e::es) tr)
  (hst:starEach (e::es) X.env=(false,eval e X.env)::starEach es X.env:=by rfl) (hpl:(backTo pos (starEach es X.env)).any (·.1)=false:=by rfl)
  (ht:eval (.Call (.Attribute o m apos) (e::es) [] pos) X.env=(do
   let ov ← eval o X.env
   standAt apos.atName
   let (f,first) ← holding [ov] (getMethod ov m pl)
   callWith pos f first (backTo pos (starEach (e::es) X.env)) (backToKw pos (keywordEach [] X.env))):=by rfl) :
  UE X (.Call (.Attribute o m apos) (e::es) [] pos) (Vu C m t to tr):=by
 obtain⟨f,fd,F,b,hm,c⟩:=h
 exact PE.imp (U5 (pl:=pl) ho c hm F hr b .nil Rn ha hst hpl ht) fun σ H Q h=>Z9 rfl h
def uMake(C:Addr)(t:List T->TH->UX->Prop)(tr:UTA):UTE:=fun env S P=>tr env S fun ts S1=>∀p,S1 p=none->t (.ref p::ts) (updT S1 p (.ins C [])) fun r S2=>r=.non/\P (.ref p) S2
theorem Ly(h:HasI X.prog X.w X.K X.mg X.base k C x ps t)(hr:Room (k+1) X.A)(hg:Gl X x)(ha:UA X (e::es) tr)(hdb:(x==("__debug__":Str))=false:=by decide)
  (he:starEach (e::es) X.env=(false,eval e X.env)::starEach es X.env:=by rfl) (hpl:(backTo pos (starEach es X.env)).any (·.1)=false:=by rfl) :
  UE X (.Call (.Name x p) (e::es) [] pos) (uMake C t tr):=by
 obtain⟨f,fd,F,b,M,hm⟩:=h
 refine PE.imp (U9 M F hr hg hm b .nil Rn ha hdb he hpl) fun σ H Q ⟨S,env,P,g,re,h,fin⟩=>Ai ⟨g,re⟩ h fun vs ts S1 H1 le1 m1 rs h1=>fun q dx hq hd ne=>?_
 rw[List.append_nil]
 have le2:Le S1 H1 (updT S1 q (.ins C [])) (upd (upd H1 dx (.own q)) q (.ins C dx [])):=Le.newI hq hd
 refine⟨_,.ref q::ts,_,m1.g.newI hq hd ne,.cons (.ref q) (rs.mono le2),h1 q (m1.g.free hq),fun v r S3 H3 le3 g3 rp hp=>?_⟩
 obtain⟨rfl,hp⟩:=hp
 cases rp
 exact⟨rfl,fin _ _ S3 H3 (le1.trans (le2.trans le3)) g3 (.ref q) hp⟩
end
def Af(K:PySem.W.Frag)(C:Addr)(m qual:Str)(ps:List Str)(st:Stmt):Prop:=∃f fd,Fun K m qual st f fd/\Binds K fd ps []/\Meth K C m f/\Cls K C
def C6(K:PySem.W.Frag)(mg:Str->Option Value)(C:Addr)(x qual:Str)(ps:List Str)(st:Stmt):Prop:=∃f fd,Fun K "__init__" qual st f fd/\Binds K fd ps []/\Mk K C f/\mg x=some (.ref C)
theorem Ay{P:Program}{w:World}{K:PySem.W.Frag}{mg:Str->Option Value}{base:Heap}{k:Nat}{C:Addr}{m qual:Str}{N ps:List Str}{st:Stmt}{t:List T->TH->UX->Prop}(d:Af K C m qual ps st)(Sc:Zv N ps (Zb st))(hl:∀ts S Pp,t ts S Pp->ts.length=ps.length)
  (hb:∀(cdv:Value) (f:Addr) (A:Around) (outer:List Env) (s:Shared) (H:Hp) (E:XK),Room k (A.deeper (envOfC qual (Zb st) s.heap.objs.size f cdv)) →
   ∃tb,USs (cxOf CX0 P w K mg base N qual (Zb st) f cdv A outer s H E).nox (defBody st) tb/\∀ts S Pp,t ts S Pp->tb { nx:=fun _ S'=>Pp .non S',rt:=Pp } (Xm N ts) S):HasM P w K mg base (k+1) C m ps t:=by
 obtain⟨f,fd,F,b,hm,c⟩:=d
 exact⟨f,fd,Mi F Sc hl fun cdv A outer s H E hr=>hb cdv f A outer s H E hr,b,hm,c⟩
theorem L7{P:Program}{w:World}{K:PySem.W.Frag}{mg:Str->Option Value}{base:Heap}{k:Nat}{C:Addr}{x qual:Str}{N ps:List Str}{st:Stmt}{t:List T->TH->UX->Prop}(d:C6 K mg C x qual ps st)(Sc:Zv N ps (Zb st))(hl:∀ts S Pp,t ts S Pp->ts.length=ps.length)
  (hb:∀(cdv:Value) (f:Addr) (A:Around) (outer:List Env) (s:Shared) (H:Hp) (E:XK),Room k (A.deeper (envOfC qual (Zb st) s.heap.objs.size f cdv)) →
   ∃tb,USs (cxOf CX0 P w K mg base N qual (Zb st) f cdv A outer s H E).nox (defBody st) tb/\∀ts S Pp,t ts S Pp->tb { nx:=fun _ S'=>Pp .non S',rt:=Pp } (Xm N ts) S):HasI P w K mg base (k+1) C x ps t:=by
 obtain⟨f,fd,F,b,M,hm⟩:=d
 exact⟨f,fd,Mi F Sc hl fun cdv A outer s H E hr=>hb cdv f A outer s H E hr,b,M,hm⟩
theorem HasM.mono{P:Program}{w:World}{K:PySem.W.Frag}{mg:Str->Option Value}{base:Heap}{j k:Nat}{C:Addr}{x:Str}{ps:List Str}{t:List T->TH->UX->Prop}(h:HasM P w K mg base j C x ps t)(hk:j<=k):HasM P w K mg base k C x ps t:=by
 obtain⟨f,fd,h1,h2⟩:=h
 exact⟨f,fd,h1.mono hk,h2⟩
theorem HasI.mono{P:Program}{w:World}{K:PySem.W.Frag}{mg:Str->Option Value}{base:Heap}{j k:Nat}{C:Addr}{x:Str}{ps:List Str}{t:List T->TH->UX->Prop}(h:HasI P w K mg base j C x ps t)(hk:j<=k):HasI P w K mg base k C x ps t:=by
 obtain⟨f,fd,h1,h2⟩:=h
 exact⟨f,fd,h1.mono hk,h2⟩
end TL
end
section
namespace L2
open PySem PySem.Spec PyProof.Rows
inductive PlV:V->Prop where
 |non:PlV .non
 |bl (b:Bool):PlV (.bl b)
 |int (i:Int):PlV (.int i)
 |str (x:Str):PlV (.str x)
def pEq:V->V->Bool
 | .non,.non=>true
 | .bl a,.bl b=>a==b
 | .int a,.int b=>a==b
 | .str a,.str b=>a==b
 | .bl a,.int b=>(if a then 1 else 0)==b
 | .int a,.bl b=>a==(if b then 1 else 0)
 |_,_=>false
inductive EqD(K:PySem.W.Frag)(H:Hp):Nat->V->V->Bool->Prop where
 |pp {n:Nat} {x y:V}:PlV x->PlV y->EqD K H n x y (pEq x y)
 |lp {n:Nat} {a:Addr} {xs:List V} {y:V}:SqL K H a xs->PlV y->EqD K H n (.ref a) y false
 |pl {n:Nat} {a:Addr} {xs:List V} {x:V}:PlV x->SqL K H a xs->EqD K H n x (.ref a) false
 |tp {n:Nat} {a:Addr} {xs:List V} {y:V}:SqT K H a xs->PlV y->EqD K H n (.ref a) y false
 |pt {n:Nat} {a:Addr} {xs:List V} {x:V}:PlV x->SqT K H a xs->EqD K H n x (.ref a) false
 |lt {n:Nat} {a b:Addr} {xs ys:List V}:SqL K H a xs->SqT K H b ys->EqD K H n (.ref a) (.ref b) false
 |tl {n:Nat} {a b:Addr} {xs ys:List V}:SqT K H a xs->SqL K H b ys->EqD K H n (.ref a) (.ref b) false
 |ln {n:Nat} {a b:Addr} {xs ys:List V}:SqL K H a xs->SqL K H b ys->xs.length≠ys.length->EqD K H n (.ref a) (.ref b) false
 |ll {n:Nat} {a b:Addr} {xs ys:List V} (e:Nat->Bool):SqL K H a xs->SqL K H b ys->xs.length=ys.length->(∀(i:Nat) x y,xs[i]?=some x->ys[i]?=some y->EqD K H n x y (e i))->EqD K H (n+1) (.ref a) (.ref b) ((List.range xs.length).all e)
 |tt {n:Nat} {a b:Addr} {xs ys:List V} (e:Nat->Bool):SqT K H a xs->SqT K H b ys->(∀(i:Nat) x y,xs[i]?=some x->ys[i]?=some y->EqD K H n x y (e i))->EqD K H (n+1) (.ref a) (.ref b) ((List.range (min xs.length ys.length)).all e&&xs.length==ys.length)
section
variable{X:Cx}{pins:List (Addr×Obj)}{σ:St}{H:Hp}{s:Shared}
theorem Inv.lt_ne(I:Inv X pins σ H s){a b:Addr}{xs ys:List V}(h:SqL X.K H a xs)(h':SqT X.K H b ys):a≠b:=by
 obtain⟨its,r,p1,_⟩:=I.list h
 obtain⟨jts,r',p2,_⟩:=I.tuple h'
 exact SeqAt.ne_of_list_tuple p1.isList p2
theorem EqD.self(I:Inv X pins σ H s){n:Nat}{x y:V}{b:Bool}(h:EqD X.K H n x y b):x=y->b=true:=by
 induction h with
 |pp hx hy=>intro e;subst e;cases hx <;> simp[pEq]
 |lp _ hy=>intro e;subst e;cases hy
 |pl hx _=>intro e;subst e;cases hx
 |tp _ hy=>intro e;subst e;cases hy
 |pt hx _=>intro e;subst e;cases hx
 |lt h1 h2=>intro e;cases e;exact absurd rfl (I.lt_ne h1 h2)
 |tl h1 h2=>intro e;cases e;exact absurd rfl (I.lt_ne h2 h1)
 |ln h1 h2 hl=>intro e;cases e;exact absurd (congrArg List.length (I.list_inj h1 h2)) hl
 |ll e h1 h2 hl _ ih =>
  intro z;cases z
  have:=I.list_inj h1 h2
  subst this
  rw[List.all_eq_true]
  intro i hi
  have hi':=List.mem_range.mp hi
  exact ih i _ _ (List.getElem?_eq_getElem hi') (List.getElem?_eq_getElem hi') rfl
 |tt e h1 h2 _ ih =>
  intro z;cases z
  have:=I.tuple_inj h1 h2
  subst this
  rw[Bool.and_eq_true]
  refine⟨?_,by simp⟩
  rw[List.all_eq_true]
  intro i hi
  have hi':=List.mem_range.mp hi
  rw[Nat.min_self] at hi'
  exact ih i _ _ (List.getElem?_eq_getElem hi') (List.getElem?_eq_getElem hi') rfl
theorem Cz{its jts:List Value}{xs ys:List V}(r:Vals xs its)(r':Vals ys jts){A:Around}{e:Nat->Bool}(h:∀(i:Nat) x y,xs[i]?=some x->ys[i]?=some y->∀u w',RelV x u->RelV y w'->SeqAt.EqAt A s u w' (e i)):∀j (h1:j<its.toArray.size) (h2:j<jts.toArray.size),SeqAt.EqAt A s its.toArray[j] jts.toArray[j] (e j):=fun j h1 h2=>by
 have e1:its[j]?=some its.toArray[j]:=by simp at h1;simp[h1]
 have e2:jts[j]?=some jts.toArray[j]:=by simp at h2;simp[h2]
 obtain⟨x,ex,rx⟩:=Fd r e1
 obtain⟨y,ey,ry⟩:=Fd r' e2
 exact h j x y ex ey _ _ rx ry
theorem EqD.eqAt(I:Inv X pins σ H s){n:Nat}{x y:V}{b:Bool}(h:EqD X.K H n x y b):∀(A:Around) (u w':Value),A.units+n<cLine->RelV x u->RelV y w'->SeqAt.EqAt A s u w' b:=by
 induction h with
 |pp hx hy =>
  intro A u w' hu r1 r2
  cases hx <;> cases hy
  ·cases r1;cases r2;exact SeqAt.EqAt.same _
  ·cases r1;cases r2;exact SeqAt.EqAt.none_bool _
  ·cases r1;obtain⟨t2,rfl⟩:=r2;exact SeqAt.EqAt.none_int _ _
  ·cases r1;obtain⟨t2,rfl⟩:=r2;exact SeqAt.EqAt.none_str _ _
  ·cases r1;cases r2;exact SeqAt.EqAt.bool_none _
  ·cases r1;cases r2;exact SeqAt.EqAt.bool_bool _ _
  ·cases r1;obtain⟨t2,rfl⟩:=r2;exact SeqAt.EqAt.bool_int _ _ _
  ·cases r1;obtain⟨t2,rfl⟩:=r2;exact SeqAt.EqAt.bool_str _ _ _
  ·obtain⟨t1,rfl⟩:=r1;cases r2;exact SeqAt.EqAt.int_none _ _
  ·obtain⟨t1,rfl⟩:=r1;cases r2;exact SeqAt.EqAt.int_bool _ _ _
  ·obtain⟨t1,rfl⟩:=r1;obtain⟨t2,rfl⟩:=r2;exact SeqAt.EqAt.int_int _ _ _ _
  ·obtain⟨t1,rfl⟩:=r1;obtain⟨t2,rfl⟩:=r2;exact SeqAt.EqAt.int_str _ _ _ _
  ·obtain⟨t1,rfl⟩:=r1;cases r2;exact SeqAt.EqAt.str_none _ _
  ·obtain⟨t1,rfl⟩:=r1;cases r2;exact SeqAt.EqAt.str_bool _ _ _
  ·obtain⟨t1,rfl⟩:=r1;obtain⟨t2,rfl⟩:=r2;exact SeqAt.EqAt.str_int _ _ _ _
  ·obtain⟨t1,rfl⟩:=r1;obtain⟨t2,rfl⟩:=r2;exact SeqAt.EqAt.str_str _ _ _ _
 |lp hq hy =>
  intro A u w' hu r1 r2
  cases r1
  obtain⟨its,r,p1,_⟩:=I.list hq
  cases hy
  ·cases r2;exact SeqAt.EqAt.list_none p1.isList (by omega)
  ·cases r2;exact SeqAt.EqAt.list_bool _ p1.isList (by omega)
  ·obtain⟨t2,rfl⟩:=r2;exact SeqAt.EqAt.list_int _ _ p1.isList (by omega)
  ·obtain⟨t2,rfl⟩:=r2;exact SeqAt.EqAt.list_str _ _ p1.isList (by omega)
 |pl hx hq =>
  intro A u w' hu r1 r2
  cases r2
  obtain⟨its,r,p1,_⟩:=I.list hq
  cases hx
  ·cases r1;exact SeqAt.EqAt.none_list p1.isList (by omega)
  ·cases r1;exact SeqAt.EqAt.bool_list _ p1.isList (by omega)
  ·obtain⟨t2,rfl⟩:=r1;exact SeqAt.EqAt.int_list _ _ p1.isList (by omega)
  ·obtain⟨t2,rfl⟩:=r1;exact SeqAt.EqAt.str_list _ _ p1.isList (by omega)
 |tp hq hy =>
  intro A u w' hu r1 r2
  cases r1
  obtain⟨its,r,p1,_⟩:=I.tuple hq
  cases hy
  ·cases r2;exact SeqAt.EqAt.tuple_none p1 (by omega)
  ·cases r2;exact SeqAt.EqAt.tuple_bool _ p1 (by omega)
  ·obtain⟨t2,rfl⟩:=r2;exact SeqAt.EqAt.tuple_int _ _ p1 (by omega)
  ·obtain⟨t2,rfl⟩:=r2;exact SeqAt.EqAt.tuple_str _ _ p1 (by omega)
 |pt hx hq =>
  intro A u w' hu r1 r2
  cases r2
  obtain⟨its,r,p1,_⟩:=I.tuple hq
  cases hx
  ·cases r1;exact SeqAt.EqAt.none_tuple p1 (by omega)
  ·cases r1;exact SeqAt.EqAt.bool_tuple _ p1 (by omega)
  ·obtain⟨t2,rfl⟩:=r1;exact SeqAt.EqAt.int_tuple _ _ p1 (by omega)
  ·obtain⟨t2,rfl⟩:=r1;exact SeqAt.EqAt.str_tuple _ _ p1 (by omega)
 |lt h1 h2 =>
  intro A u w' hu r1 r2
  cases r1;cases r2
  obtain⟨its,r,p1,_⟩:=I.list h1
  obtain⟨jts,r',p2,_⟩:=I.tuple h2
  exact SeqAt.EqAt.list_tuple p1.isList p2 (by omega)
 |tl h1 h2 =>
  intro A u w' hu r1 r2
  cases r1;cases r2
  obtain⟨its,r,p1,_⟩:=I.tuple h1
  obtain⟨jts,r',p2,_⟩:=I.list h2
  exact SeqAt.EqAt.tuple_list p1 p2.isList (by omega)
 | @ln n a b xs ys h1 h2 hl =>
  intro A u w' hu r1 r2
  cases r1;cases r2
  obtain⟨its,r,p1,_⟩:=I.list h1
  obtain⟨jts,r',p2,_⟩:=I.list h2
  have l1:=r.length
  have l2:=r'.length
  by_cases e':a=b
  ·exact absurd (congrArg List.length (I.list_inj h1 (e' ▸ h2))) hl
  exact SeqAt.EqAt.of_refs e' (SeqAt.RcAt.lists_lengths p1.isList p2.isList (by simp;omega) (by omega))
 | @ll n a b xs ys e h1 h2 hl hs ih =>
  intro A u w' hu r1 r2
  cases r1;cases r2
  obtain⟨its,r,p1,_⟩:=I.list h1
  obtain⟨jts,r',p2,_⟩:=I.list h2
  have l1:=r.length
  have l2:=r'.length
  have q:=SeqAt.RcAt.lists (A:=A) p1.isList p2.isList (by simp;omega) (by omega) (Cz (e:=e) r r' fun i x y ex ey u w' rx ry=>ih i x y ex ey A.in1 u w' (by show A.units+1+n<cLine;omega) rx ry)
  rw[show its.toArray.size=xs.length by simp;omega] at q
  by_cases e':a=b
  ·have:=EqD.self I (.ll e h1 h2 hl hs) (by rw[e'])
   rw[this,e']
   exact SeqAt.EqAt.same _
  exact SeqAt.EqAt.of_refs e' q
 | @tt n a b xs ys e h1 h2 hs ih =>
  intro A u w' hu r1 r2
  cases r1;cases r2
  obtain⟨its,r,p1,_⟩:=I.tuple h1
  obtain⟨jts,r',p2,_⟩:=I.tuple h2
  have l1:=r.length
  have l2:=r'.length
  have q:=SeqAt.RcAt.tuples (A:=A) (show s.heap.IsTuple a its.toArray from p1) (show s.heap.IsTuple b jts.toArray from p2) (by omega) (Cz (e:=e) r r' fun i x y ex ey u w' rx ry=>ih i x y ex ey A.in1 u w' (by show A.units+1+n<cLine;omega) rx ry)
  rw[show its.toArray.size=xs.length by simp;omega,show jts.toArray.size=ys.length by simp;omega] at q
  by_cases e':a=b
  ·have:=EqD.self I (.tt e h1 h2 hs) (by rw[e'])
   rw[this,e']
   exact SeqAt.EqAt.same _
  exact SeqAt.EqAt.of_refs e' q
theorem EqD.rc(I:Inv X pins σ H s){n:Nat}{x y:V}{b:Bool}(h:EqD X.K H n x y b):∀(A:Around) (u w':Value),A.units+n<cLine->RelV x u->RelV y w'->SeqAt.RcAt A s u w' b:=by
 cases h with
 |pp hx hy =>
  intro A u w' hu r1 r2
  cases hx <;> cases hy
  ·cases r1;cases r2;exact SeqAt.RcAt.none_none
  ·cases r1;cases r2;exact SeqAt.RcAt.none_bool _
  ·cases r1;obtain⟨t2,rfl⟩:=r2;exact SeqAt.RcAt.none_int _ _
  ·cases r1;obtain⟨t2,rfl⟩:=r2;exact SeqAt.RcAt.none_str _ _
  ·cases r1;cases r2;exact SeqAt.RcAt.bool_none _
  ·cases r1;cases r2;exact SeqAt.RcAt.bool_bool _ _
  ·cases r1;obtain⟨t2,rfl⟩:=r2;exact SeqAt.RcAt.bool_int _ _ _
  ·cases r1;obtain⟨t2,rfl⟩:=r2;exact SeqAt.RcAt.bool_str _ _ _
  ·obtain⟨t1,rfl⟩:=r1;cases r2;exact SeqAt.RcAt.int_none _ _
  ·obtain⟨t1,rfl⟩:=r1;cases r2;exact SeqAt.RcAt.int_bool _ _ _
  ·obtain⟨t1,rfl⟩:=r1;obtain⟨t2,rfl⟩:=r2;exact SeqAt.RcAt.int_int _ _ _ _
  ·obtain⟨t1,rfl⟩:=r1;obtain⟨t2,rfl⟩:=r2;exact SeqAt.RcAt.int_str _ _ _ _
  ·obtain⟨t1,rfl⟩:=r1;cases r2;exact SeqAt.RcAt.str_none _ _
  ·obtain⟨t1,rfl⟩:=r1;cases r2;exact SeqAt.RcAt.str_bool _ _ _
  ·obtain⟨t1,rfl⟩:=r1;obtain⟨t2,rfl⟩:=r2;exact SeqAt.RcAt.str_int _ _ _ _
  ·obtain⟨t1,rfl⟩:=r1;obtain⟨t2,rfl⟩:=r2;exact SeqAt.RcAt.str_str _ _ _ _
 |lp hq hy =>
  intro A u w' hu r1 r2
  cases r1
  obtain⟨its,r,p1,_⟩:=I.list hq
  cases hy
  ·cases r2;exact SeqAt.RcAt.list_none p1.isList (by omega)
  ·cases r2;exact SeqAt.RcAt.list_bool _ p1.isList (by omega)
  ·obtain⟨t2,rfl⟩:=r2;exact SeqAt.RcAt.list_int _ _ p1.isList (by omega)
  ·obtain⟨t2,rfl⟩:=r2;exact SeqAt.RcAt.list_str _ _ p1.isList (by omega)
 |pl hx hq =>
  intro A u w' hu r1 r2
  cases r2
  obtain⟨its,r,p1,_⟩:=I.list hq
  cases hx
  ·cases r1;exact SeqAt.RcAt.none_list p1.isList (by omega)
  ·cases r1;exact SeqAt.RcAt.bool_list _ p1.isList (by omega)
  ·obtain⟨t2,rfl⟩:=r1;exact SeqAt.RcAt.int_list _ _ p1.isList (by omega)
  ·obtain⟨t2,rfl⟩:=r1;exact SeqAt.RcAt.str_list _ _ p1.isList (by omega)
 |tp hq hy =>
  intro A u w' hu r1 r2
  cases r1
  obtain⟨its,r,p1,_⟩:=I.tuple hq
  cases hy
  ·cases r2;exact SeqAt.RcAt.tuple_none p1 (by omega)
  ·cases r2;exact SeqAt.RcAt.tuple_bool _ p1 (by omega)
  ·obtain⟨t2,rfl⟩:=r2;exact SeqAt.RcAt.tuple_int _ _ p1 (by omega)
  ·obtain⟨t2,rfl⟩:=r2;exact SeqAt.RcAt.tuple_str _ _ p1 (by omega)
 |pt hx hq =>
  intro A u w' hu r1 r2
  cases r2
  obtain⟨its,r,p1,_⟩:=I.tuple hq
  cases hx
  ·cases r1;exact SeqAt.RcAt.none_tuple p1 (by omega)
  ·cases r1;exact SeqAt.RcAt.bool_tuple _ p1 (by omega)
  ·obtain⟨t2,rfl⟩:=r1;exact SeqAt.RcAt.int_tuple _ _ p1 (by omega)
  ·obtain⟨t2,rfl⟩:=r1;exact SeqAt.RcAt.str_tuple _ _ p1 (by omega)
 |lt h1 h2 =>
  intro A u w' hu r1 r2
  cases r1;cases r2
  obtain⟨its,r,p1,_⟩:=I.list h1
  obtain⟨jts,r',p2,_⟩:=I.tuple h2
  exact SeqAt.RcAt.list_tuple p1.isList p2 (by omega)
 |tl h1 h2 =>
  intro A u w' hu r1 r2
  cases r1;cases r2
  obtain⟨its,r,p1,_⟩:=I.tuple h1
  obtain⟨jts,r',p2,_⟩:=I.list h2
  exact SeqAt.RcAt.tuple_list p1 p2.isList (by omega)
 | @ln n a b xs ys h1 h2 hl =>
  intro A u w' hu r1 r2
  cases r1;cases r2
  obtain⟨its,r,p1,_⟩:=I.list h1
  obtain⟨jts,r',p2,_⟩:=I.list h2
  have l1:=r.length
  have l2:=r'.length
  exact SeqAt.RcAt.lists_lengths p1.isList p2.isList (by simp;omega) (by omega)
 | @ll n a b xs ys e h1 h2 hl hs =>
  intro A u w' hu r1 r2
  cases r1;cases r2
  obtain⟨its,r,p1,_⟩:=I.list h1
  obtain⟨jts,r',p2,_⟩:=I.list h2
  have l1:=r.length
  have l2:=r'.length
  have q:=SeqAt.RcAt.lists (A:=A) p1.isList p2.isList (by simp;omega) (by omega) (Cz (e:=e) r r' fun i x y ex ey u w' rx ry=>(hs i x y ex ey).eqAt I A.in1 u w' (by show A.units+1+n<cLine;omega) rx ry)
  rw[show its.toArray.size=xs.length by simp;omega] at q
  exact q
 | @tt n a b xs ys e h1 h2 hs =>
  intro A u w' hu r1 r2
  cases r1;cases r2
  obtain⟨its,r,p1,_⟩:=I.tuple h1
  obtain⟨jts,r',p2,_⟩:=I.tuple h2
  have l1:=r.length
  have l2:=r'.length
  have q:=SeqAt.RcAt.tuples (A:=A) (show s.heap.IsTuple a its.toArray from p1) (show s.heap.IsTuple b jts.toArray from p2) (by omega) (Cz (e:=e) r r' fun i x y ex ey u w' rx ry=>(hs i x y ex ey).eqAt I A.in1 u w' (by show A.units+1+n<cLine;omega) rx ry)
  rw[show its.toArray.size=xs.length by simp;omega,show jts.toArray.size=ys.length by simp;omega] at q
  exact q
theorem EqD.rcNe(I:Inv X pins σ H s){n:Nat}{x y:V}{b:Bool}(h:EqD X.K H n x y b):∀(A:Around) (u w':Value),A.units+n<cLine->RelV x u->RelV y w'->SeqAt.RcNeAt A s u w' (!b):=by
 cases h with
 |pp hx hy =>
  intro A u w' hu r1 r2
  cases hx <;> cases hy
  ·cases r1;cases r2;exact SeqAt.RcNeAt.none_none
  ·cases r1;cases r2;exact SeqAt.RcNeAt.none_bool _
  ·cases r1;obtain⟨t2,rfl⟩:=r2;exact SeqAt.RcNeAt.none_int _ _
  ·cases r1;obtain⟨t2,rfl⟩:=r2;exact SeqAt.RcNeAt.none_str _ _
  ·cases r1;cases r2;exact SeqAt.RcNeAt.bool_none _
  ·cases r1;cases r2;exact SeqAt.RcNeAt.bool_bool _ _
  ·cases r1;obtain⟨t2,rfl⟩:=r2;exact SeqAt.RcNeAt.bool_int _ _ _
  ·cases r1;obtain⟨t2,rfl⟩:=r2;exact SeqAt.RcNeAt.bool_str _ _ _
  ·obtain⟨t1,rfl⟩:=r1;cases r2;exact SeqAt.RcNeAt.int_none _ _
  ·obtain⟨t1,rfl⟩:=r1;cases r2;exact SeqAt.RcNeAt.int_bool _ _ _
  ·obtain⟨t1,rfl⟩:=r1;obtain⟨t2,rfl⟩:=r2;exact SeqAt.RcNeAt.int_int _ _ _ _
  ·obtain⟨t1,rfl⟩:=r1;obtain⟨t2,rfl⟩:=r2;exact SeqAt.RcNeAt.int_str _ _ _ _
  ·obtain⟨t1,rfl⟩:=r1;cases r2;exact SeqAt.RcNeAt.str_none _ _
  ·obtain⟨t1,rfl⟩:=r1;cases r2;exact SeqAt.RcNeAt.str_bool _ _ _
  ·obtain⟨t1,rfl⟩:=r1;obtain⟨t2,rfl⟩:=r2;exact SeqAt.RcNeAt.str_int _ _ _ _
  ·obtain⟨t1,rfl⟩:=r1;obtain⟨t2,rfl⟩:=r2;exact SeqAt.RcNeAt.str_str _ _ _ _
 |lp hq hy =>
  intro A u w' hu r1 r2
  cases r1
  obtain⟨its,r,p1,_⟩:=I.list hq
  cases hy
  ·cases r2;exact SeqAt.RcNeAt.list_none p1.isList (by omega)
  ·cases r2;exact SeqAt.RcNeAt.list_bool _ p1.isList (by omega)
  ·obtain⟨t2,rfl⟩:=r2;exact SeqAt.RcNeAt.list_int _ _ p1.isList (by omega)
  ·obtain⟨t2,rfl⟩:=r2;exact SeqAt.RcNeAt.list_str _ _ p1.isList (by omega)
 |pl hx hq =>
  intro A u w' hu r1 r2
  cases r2
  obtain⟨its,r,p1,_⟩:=I.list hq
  cases hx
  ·cases r1;exact SeqAt.RcNeAt.none_list p1.isList (by omega)
  ·cases r1;exact SeqAt.RcNeAt.bool_list _ p1.isList (by omega)
  ·obtain⟨t2,rfl⟩:=r1;exact SeqAt.RcNeAt.int_list _ _ p1.isList (by omega)
  ·obtain⟨t2,rfl⟩:=r1;exact SeqAt.RcNeAt.str_list _ _ p1.isList (by omega)
 |tp hq hy =>
  intro A u w' hu r1 r2
  cases r1
  obtain⟨its,r,p1,_⟩:=I.tuple hq
  cases hy
  ·cases r2;exact SeqAt.RcNeAt.tuple_none p1 (by omega)
  ·cases r2;exact SeqAt.RcNeAt.tuple_bool _ p1 (by omega)
  ·obtain⟨t2,rfl⟩:=r2;exact SeqAt.RcNeAt.tuple_int _ _ p1 (by omega)
  ·obtain⟨t2,rfl⟩:=r2;exact SeqAt.RcNeAt.tuple_str _ _ p1 (by omega)
 |pt hx hq =>
  intro A u w' hu r1 r2
  cases r2
  obtain⟨its,r,p1,_⟩:=I.tuple hq
  cases hx
  ·cases r1;exact SeqAt.RcNeAt.none_tuple p1 (by omega)
  ·cases r1;exact SeqAt.RcNeAt.bool_tuple _ p1 (by omega)
  ·obtain⟨t2,rfl⟩:=r1;exact SeqAt.RcNeAt.int_tuple _ _ p1 (by omega)
  ·obtain⟨t2,rfl⟩:=r1;exact SeqAt.RcNeAt.str_tuple _ _ p1 (by omega)
 |lt h1 h2 =>
  intro A u w' hu r1 r2
  cases r1;cases r2
  obtain⟨its,r,p1,_⟩:=I.list h1
  obtain⟨jts,r',p2,_⟩:=I.tuple h2
  exact SeqAt.RcNeAt.list_tuple p1.isList p2 (by omega)
 |tl h1 h2 =>
  intro A u w' hu r1 r2
  cases r1;cases r2
  obtain⟨its,r,p1,_⟩:=I.tuple h1
  obtain⟨jts,r',p2,_⟩:=I.list h2
  exact SeqAt.RcNeAt.tuple_list p1 p2.isList (by omega)
 | @ln n a b xs ys h1 h2 hl =>
  intro A u w' hu r1 r2
  cases r1;cases r2
  obtain⟨its,r,p1,_⟩:=I.list h1
  obtain⟨jts,r',p2,_⟩:=I.list h2
  have l1:=r.length
  have l2:=r'.length
  exact SeqAt.RcNeAt.lists_lengths p1.isList p2.isList (by simp;omega) (by omega)
 | @ll n a b xs ys e h1 h2 hl hs =>
  intro A u w' hu r1 r2
  cases r1;cases r2
  obtain⟨its,r,p1,_⟩:=I.list h1
  obtain⟨jts,r',p2,_⟩:=I.list h2
  have l1:=r.length
  have l2:=r'.length
  have q:=SeqAt.RcNeAt.lists (A:=A) p1.isList p2.isList (by simp;omega) (by omega) (Cz (e:=e) r r' fun i x y ex ey u w' rx ry=>(hs i x y ex ey).eqAt I A.in1 u w' (by show A.units+1+n<cLine;omega) rx ry)
  rw[show its.toArray.size=xs.length by simp;omega] at q
  exact q
 | @tt n a b xs ys e h1 h2 hs =>
  intro A u w' hu r1 r2
  cases r1;cases r2
  obtain⟨its,r,p1,_⟩:=I.tuple h1
  obtain⟨jts,r',p2,_⟩:=I.tuple h2
  have l1:=r.length
  have l2:=r'.length
  have q:=SeqAt.RcNeAt.tuples (A:=A) (show s.heap.IsTuple a its.toArray from p1) (show s.heap.IsTuple b jts.toArray from p2) (by omega) (Cz (e:=e) r r' fun i x y ex ey u w' rx ry=>(hs i x y ex ey).eqAt I A.in1 u w' (by show A.units+1+n<cLine;omega) rx ry)
  rw[show its.toArray.size=xs.length by simp;omega,show jts.toArray.size=ys.length by simp;omega] at q
  exact q
def rEqG(K:PySem.W.Frag)(neg:Bool):R2:=fun x y H Q=>∃n b,n<=60/\EqD K H n x y b/\Q (.bl (Bool.xor neg b)) H
theorem W8(hu:X.A.units+64<cLine):OpR X (compareOp .Eq) (rEqG X.K false):=by
 intro pins s σ H x y v u Q I rx ry h
 obtain⟨n,b,hn,hd,q⟩:=h
 rw[Bool.false_xor] at q
 exact hd.rc I X.A v u (by omega) rx ry X.prog X.w _ _ ⟨.bl b,H,I,rfl,q⟩
theorem Yl(hu:X.A.units+64<cLine):OpR X (compareOp .NotEq) (rEqG X.K true):=by
 intro pins s σ H x y v u Q I rx ry h
 obtain⟨n,b,hn,hd,q⟩:=h
 rw[Bool.true_xor] at q
 exact hd.rcNe I X.A v u (by omega) rx ry X.prog X.w _ _ ⟨.bl (!b),H,I,rfl,q⟩
def rInG(K:PySem.W.Frag)(neg:Bool):R2:=fun x y H Q=>∃n p xs,∃e:Nat->Bool,n<=60/\y=.ref p/\(SqL K H p xs\/SqT K H p xs)/\(∀(i:Nat) z,xs[i]?=some z->EqD K H n z x (e i))/\Q (.bl (Bool.xor neg ((List.range xs.length).any e))) H
open Classical in
theorem Ml(I:Inv X pins σ H s){n:Nat}{x:V}{xs:List V}{e:Nat->Bool}{its:List Value}{v:Value}{A:Around}(hu:A.units+n<cLine)(rx:RelV x v)(r:Vals xs its)(h:∀(i:Nat) z,xs[i]?=some z->EqD X.K H n z x (e i)):
  ∃f:Value->Bool,(∀y,y∈its.toArray->SeqAt.EqAt A s y v (f y))/\its.toArray.any f=(List.range xs.length).any e:=by
 have l:=r.length
 refine⟨fun y=>decide (∃i,its[i]?=some y/\e i=true),fun y hy=>?_,?_⟩
 ·by_cases hc:∃i,its[i]?=some y/\e i=true
  ·show SeqAt.EqAt A s y v (decide (∃i,its[i]?=some y/\e i=true))
   rw[decide_eq_true hc]
   obtain⟨i,ei,et⟩:=hc
   obtain⟨z,ez,rz⟩:=Fd r ei
   have q:=(h i z ez).eqAt I A y v hu rz rx
   rw[et] at q
   exact q
  ·show SeqAt.EqAt A s y v (decide (∃i,its[i]?=some y/\e i=true))
   rw[decide_eq_false hc]
   obtain⟨i,ei⟩:=List.mem_iff_getElem?.mp (by simpa using hy)
   obtain⟨z,ez,rz⟩:=Fd r ei
   have q:=(h i z ez).eqAt I A y v hu rz rx
   cases et:e i with
   |true=>exact absurd ⟨i,ei,et⟩ hc
   |false=>rw[et] at q;exact q
 ·rw[Bool.eq_iff_iff,Array.any_eq_true,List.any_eq_true]
  constructor
  ·rintro⟨j,hj,hd⟩
   obtain⟨i,ei,et⟩:=of_decide_eq_true hd
   have:=(List.getElem?_eq_some_iff.mp ei).1
   exact⟨i,List.mem_range.mpr (by omega),et⟩
  ·rintro⟨i,hi,et⟩
   have hi':i<its.length:=by have:=List.mem_range.mp hi;omega
   exact⟨i,by simpa using hi',decide_eq_true ⟨i,by simp[hi'],et⟩⟩
theorem Yu(hu:X.A.units+64<cLine):OpR X (compareOp .In) (rInG X.K false):=by
 intro pins s σ H x y v u Q I rx ry h
 obtain⟨n,p,xs,e,hn,rfl,hq,he,q⟩:=h
 rw[Bool.false_xor] at q
 cases ry
 rcases hq with hq|hq
 ·obtain⟨its,r,pl,hz⟩:=I.list hq
  obtain⟨f,h1,h2⟩:=Ml I (A:=X.A.in1) (by show X.A.units+1+n<cLine;omega) rx r he
  refine SeqAt.in_listAt f pl.isList h1 ⟨.bl _,H,I,rfl,?_⟩
  rw[h2];exact q
 ·obtain⟨its,r,pl,hz⟩:=I.tuple hq
  obtain⟨f,h1,h2⟩:=Ml I (A:=X.A.in1) (by show X.A.units+1+n<cLine;omega) rx r he
  refine SeqAt.in_tupleAt f pl h1 ⟨.bl _,H,I,rfl,?_⟩
  rw[h2];exact q
theorem M3(hu:X.A.units+64<cLine):OpR X (compareOp .NotIn) (rInG X.K true):=by
 intro pins s σ H x y v u Q I rx ry h
 obtain⟨n,p,xs,e,hn,rfl,hq,he,q⟩:=h
 rw[Bool.true_xor] at q
 cases ry
 rcases hq with hq|hq
 ·obtain⟨its,r,pl,hz⟩:=I.list hq
  obtain⟨f,h1,h2⟩:=Ml I (A:=X.A.in1) (by show X.A.units+1+n<cLine;omega) rx r he
  refine SeqAt.notIn_listAt f pl.isList h1 ⟨.bl _,H,I,rfl,?_⟩
  rw[h2];exact q
 ·obtain⟨its,r,pl,hz⟩:=I.tuple hq
  obtain⟨f,h1,h2⟩:=Ml I (A:=X.A.in1) (by show X.A.units+1+n<cLine;omega) rx r he
  refine SeqAt.notIn_tupleAt f pl h1 ⟨.bl _,H,I,rfl,?_⟩
  rw[h2];exact q
end
end L2
end
section
namespace TL
open PySem PySem.Spec PyProof.Rows L2
def plT:T->Bool
 | .non=>true | .bl _=>true | .int _=>true | .str _=>true|_=>false
def pEqT:T->T->Bool
 | .non,.non=>true
 | .bl a,.bl b=>a==b
 | .int a,.int b=>a==b
 | .str a,.str b=>a==b
 | .bl a,.int b=>(if a then 1 else 0)==b
 | .int a,.bl b=>a==(if b then 1 else 0)
 |_,_=>false
def sqT:T->Option (Bool×List T)
 | .lst ts=>some (true,ts)
 | .fls ts=>some (true,ts)
 | .tup ts=>some (false,ts)
 |_=>none
def teq:Nat->T->T->Bool
 | 0,t,u=>plT t&&plT u&&pEqT t u
 |n+1,t,u=>match sqT t,sqT u with
  |some (k,xs),some (l,ys)=>k==l&&(xs.length==ys.length&&(List.range xs.length).all fun i=>teq n (xs.getD i .non) (ys.getD i .non))
  |_,_=>plT t&&plT u&&pEqT t u
inductive DatQ:Nat->T->Prop where
 |p {n:Nat} {t:T}:plT t=true->DatQ n t
 |s {n:Nat} {t:T} {k:Bool} {ts:List T}:sqT t=some (k,ts)->(∀x∈ts,DatQ n x)->DatQ (n+1) t
section
variable{K:PySem.W.Frag}{S:TH}{H:Hp}
inductive VQ(K:PySem.W.Frag)(S:TH)(H:Hp):V->T->Prop where
 |p {v:V} {t:T}:plT t=true->Rep K S H v t->VQ K S H v t
 |l {a:Addr} {vs:List V} {t:T} {ts:List T}:sqT t=some (true,ts)->SqL K H a vs->Reps K S H vs ts->VQ K S H (.ref a) t
 |t {a:Addr} {vs:List V} {t:T} {ts:List T}:sqT t=some (false,ts)->SqT K H a vs->Reps K S H vs ts->VQ K S H (.ref a) t
theorem DatQ.view{n:Nat}{t:T}{v:V}(h:DatQ n t)(r:Rep K S H v t):VQ K S H v t:=by
 cases h with
 |p h=>exact .p h r
 |s h _ =>
  cases t with
  |lst ts=>obtain⟨a,vs,rfl,f,r⟩:=r.lstE;exact .l rfl f.sq r
  |fls ts=>obtain⟨a,vs,rfl,f,r⟩:=r.flsE;exact .l rfl f.sq r
  |tup ts=>obtain⟨a,vs,rfl,f,r⟩:=r.tupE;exact .t rfl f.sq r
  |_=>cases h
theorem Bi{v:V}{t:T}(h:plT t=true)(r:Rep K S H v t):PlV v:=by
 cases t with
 |non=>cases r;exact .non
 |bl b=>cases r;exact .bl b
 |int i=>cases r;exact .int i
 |str x=>cases r;exact .str x
 |_=>cases h
theorem Hu{v w:V}{t u:T}(h:plT t=true)(h':plT u=true)(r:Rep K S H v t)(r':Rep K S H w u):pEq v w=pEqT t u:=by
 cases t <;> first|(cases h;done)|skip
 all_goals (cases u <;> first|(cases h';done)|skip)
 all_goals (cases r;cases r';rfl)
theorem A5{t:T}{k:Bool}{ts:List T}(h:sqT t=some (k,ts)):plT t=false:=by
 cases t <;> first|rfl|cases h
theorem DatQ.kids{n:Nat}{t:T}{k:Bool}{ts:List T}(h:DatQ n t)(e:sqT t=some (k,ts)):∃m,n=m+1/\∀x∈ts,DatQ m x:=by
 cases h with
 |p h=>rw[A5 e] at h;cases h
 | @s n _ _ _ h g=>rw[e] at h;cases h;exact⟨n,rfl,g⟩
theorem Qd:∀{n:Nat} {v w:V} {t u:T},VQ K S H v t->VQ K S H w u->DatQ n t->DatQ n u->EqD K H n v w (teq n t u):=by
 intro n
 induction n with
 |zero =>
  intro v w t u h1 h2 d1 d2
  cases d1 with
  |p p1 =>
   cases d2 with
   |p p2 =>
    cases h1 with
    |p _ r1 =>
     cases h2 with
     |p _ r2 =>
      have q:=EqD.pp (K:=K) (H:=H) (n:=0) (Bi p1 r1) (Bi p2 r2)
      rw[Hu p1 p2 r1 r2] at q
      unfold teq
      rw[p1,p2]
      exact q
     |l e _ _=>rw[A5 e] at p2;cases p2
     |t e _ _=>rw[A5 e] at p2;cases p2
    |l e _ _=>rw[A5 e] at p1;cases p1
    |t e _ _=>rw[A5 e] at p1;cases p1
 |succ n ih =>
  intro v w t u h1 h2 d1 d2
  have sqn:∀{t:T},plT t=true->sqT t=none:=fun {t} h=>by cases t <;> first|rfl|cases h
  have at':∀{vs:List V} {ts:List T} {i:Nat} {x:V},Reps K S H vs ts->vs[i]?=some x->ts[i]?=some (ts.getD i .non)/\Rep K S H x (ts.getD i .non):=fun {vs ts i x} r e=>by
   have hi:=(List.getElem?_eq_some_iff.mp e).1
   have hl:=r.1
   have e2:ts[i]?=some (ts.getD i .non):=by
    rw[List.getD_eq_getElem?_getD,List.getElem?_eq_getElem (by omega)];rfl
   exact⟨e2,r.2 i x _ e e2⟩
  have in':∀{vs ws:List V} {ts us:List T},Reps K S H vs ts->Reps K S H ws us->(∀x∈ts,DatQ n x)->(∀x∈us,DatQ n x)->∀(i:Nat) x y,vs[i]?=some x->ws[i]?=some y->EqD K H n x y (teq n (ts.getD i .non) (us.getD i .non)):=fun r r' g g' i x y ex ey=>by
   obtain⟨a1,a2⟩:=at' r ex
   obtain⟨b1,b2⟩:=at' r' ey
   have m1:=g _ (List.mem_of_getElem? a1)
   have m2:=g' _ (List.mem_of_getElem? b1)
   exact ih (m1.view a2) (m2.view b2) m1 m2
  unfold teq
  cases h1 with
  |p p1 r1 =>
   rw[sqn p1,p1]
   cases h2 with
   |p p2 r2 =>
    rw[p2]
    have q:=EqD.pp (K:=K) (H:=H) (n:=n+1) (Bi p1 r1) (Bi p2 r2)
    rw[Hu p1 p2 r1 r2] at q
    exact q
   |l e q _=>rw[A5 e];exact .pl (Bi p1 r1) q
   |t e q _=>rw[A5 e];exact .pt (Bi p1 r1) q
  | @l a vs _ ts e q r =>
   obtain⟨m,em,g⟩:=d1.kids e
   cases em
   rw[e]
   cases h2 with
   |p p2 r2=>rw[sqn p2,A5 e];exact .lp q (Bi p2 r2)
   | @l b ws _ us e' q' r' =>
    obtain⟨m',em',g'⟩:=d2.kids e'
    cases em'
    rw[e']
    have l1:=r.1
    have l2:=r'.1
    by_cases hl:ts.length=us.length
    ·have z:=EqD.ll (K:=K) (H:=H) (fun i=>teq n (ts.getD i .non) (us.getD i .non)) q q' (by omega) (in' r r' g g')
     rw[l1] at z
     simpa [hl] using z
    ·have z:=EqD.ln (K:=K) (H:=H) (n:=n+1) q q' (by omega)
     have hb:(ts.length==us.length)=false:=by simpa using hl
     simpa [hb] using z
   | @t b ws _ us e' q' r'=>rw[e'];exact .lt q q'
  | @t a vs _ ts e q r =>
   obtain⟨m,em,g⟩:=d1.kids e
   cases em
   rw[e]
   cases h2 with
   |p p2 r2=>rw[sqn p2,A5 e];exact .tp q (Bi p2 r2)
   | @l b ws _ us e' q' r'=>rw[e'];exact .tl q q'
   | @t b ws _ us e' q' r' =>
    obtain⟨m',em',g'⟩:=d2.kids e'
    cases em'
    rw[e']
    have l1:=r.1
    have l2:=r'.1
    have z:=EqD.tt (K:=K) (H:=H) (fun i=>teq n (ts.getD i .non) (us.getD i .non)) q q' (in' r r' g g')
    rw[l1,l2] at z
    by_cases hl:ts.length=us.length
    ·simpa [hl] using z
    ·have hb:(ts.length==us.length)=false:=by simpa using hl
     simpa [hb] using z
def cv(S:TH):T->T
 | .ref a=>match S a with
  |some (.lst ts)=>.lst ts
  |_=>.ref a
 |t=>t
theorem Hn{n:Nat}{v:V}{t:T}(g:Good K S H)(r:Rep K S H v t)(d:DatQ n (cv S t)):VQ K S H v (cv S t):=by
 cases t with
 |ref a =>
  cases r
  unfold cv at d ⊢
  dsimp only at d ⊢
  cases hc:S a with
  |none=>rw[hc] at d;cases d with
   |p h=>cases h
   |s h _=>cases h
  |some c =>
   cases c with
   |lst ts =>
    obtain⟨vs,hH,r⟩:=g a _ hc
    exact .l rfl (.inl (.inl hH)) r
   |_=>rw[hc] at d;cases d with
    |p h=>cases h
    |s h _=>cases h
 |_=>exact d.view r
def oInG(neg:Bool):T->T->TH->UX->Prop:=fun x y S P=>∃n k ts,n<=60/\sqT (cv S y)=some (k,ts)/\DatQ n (cv S x)/\(∀z∈ts,DatQ n z)/\P (.bl (Bool.xor neg (ts.any fun z=>teq n z (cv S x)))) S
theorem Tg{ts:List T}{f:T->Bool}:(List.range ts.length).any (fun i=>f (ts.getD i .non))=ts.any f:=by
 rw[Bool.eq_iff_iff,List.any_eq_true,List.any_eq_true]
 constructor
 ·rintro⟨i,hi,h⟩
  have hi':=List.mem_range.mp hi
  refine⟨_,?_,h⟩
  rw[List.getD_eq_getElem?_getD,List.getElem?_eq_getElem hi']
  exact List.getElem_mem hi'
 ·rintro⟨x,hx,h⟩
  obtain⟨i,hi⟩:=List.mem_iff_getElem?.mp hx
  refine⟨i,List.mem_range.mpr (List.getElem?_eq_some_iff.mp hi).1,?_⟩
  rw[List.getD_eq_getElem?_getD,hi]
  exact h
theorem lInG{neg:Bool}:LOp K (rInG K neg) (oInG neg):=fun S H v w x y P Q g rx ry ho fin=>by
 obtain⟨n,k,ts,hn,e,d1,d2,h⟩:=ho
 have vw:=Hn g ry (.s e d2)
 have fn:∀{vs:List V},Reps K S H vs ts->(∀(i:Nat) z,vs[i]?=some z->EqD K H n z v (teq n (ts.getD i .non) (cv S x)))/\Q (.bl (Bool.xor neg ((List.range vs.length).any fun i=>teq n (ts.getD i .non) (cv S x)))) H:=fun {vs} r=>by
  refine⟨fun i z ez=>?_,?_⟩
  ·have hi:=(List.getElem?_eq_some_iff.mp ez).1
   have hl:=r.1
   have e2:ts[i]?=some (ts.getD i .non):=by
    rw[List.getD_eq_getElem?_getD,List.getElem?_eq_getElem (by omega)];rfl
   have m:=d2 _ (List.mem_of_getElem? e2)
   exact Qd (m.view (r.2 i z _ ez e2)) (Hn g rx d1) m d1
  ·rw[r.1,Tg (f:=fun z=>teq n z (cv S x))]
   exact fin _ _ S H .refl g (.bl _) h
 cases vw with
 |p hp _=>rw[A5 e] at hp;cases hp
 | @l a vs _ us e' q r =>
  rw[e] at e';cases e'
  exact⟨n,a,vs,_,hn,rfl,.inl q,(fn r).1,(fn r).2⟩
 | @t a vs _ us e' q r =>
  rw[e] at e';cases e'
  exact⟨n,a,vs,_,hn,rfl,.inr q,(fn r).1,(fn r).2⟩
end
inductive DatN:Nat->T->Prop where
 |non {n:Nat}:DatN n .non
 |int {n:Nat} (i:Int):DatN n (.int i)
 |str {n:Nat} (x:Str):DatN n (.str x)
 |lst {n:Nat} {ts:List T}:(∀t∈ts,DatN n t)->DatN (n+1) (.lst ts)
 |tup {n:Nat} {ts:List T}:(∀t∈ts,DatN n t)->DatN (n+1) (.tup ts)
theorem DatN.q{n:Nat}{t:T}(h:DatN n t):DatQ n t:=by
 induction h with
 |non=>exact .p rfl
 |int i=>exact .p rfl
 |str x=>exact .p rfl
 |lst _ ih=>exact .s rfl ih
 |tup _ ih=>exact .s rfl ih
theorem Im{n:Nat}{t:T}(h:DatQ n t):teq n t t=true:=by
 induction h with
 | @p n t h =>
  have hp:pEqT t t=true:=by cases t <;> first|(cases h;done)|simp[pEqT]
  have hs:sqT t=none:=by cases t <;> first|rfl|cases h
  cases n with
  |zero=>unfold teq;rw[h,hp];rfl
  |succ n=>unfold teq;rw[hs,h,hp];rfl
 | @s n t k ts e _ ih =>
  unfold teq
  rw[e]
  simp only[beq_self_eq_true,Bool.true_and,List.all_eq_true]
  intro i hi
  have hi':=List.mem_range.mp hi
  have e2:ts[i]?=some (ts.getD i .non):=by rw[List.getD_eq_getElem?_getD,List.getElem?_eq_getElem hi'];rfl
  exact ih _ (List.mem_of_getElem? e2)
theorem X0:∀{n:Nat} {t u:T},DatN n t->DatN n u->teq n t u=true->t=u:=by
 have lists:∀{n:Nat} {xs ys:List T},(∀{t u:T},DatN n t->DatN n u->teq n t u=true->t=u)->(∀x∈xs,DatN n x)->(∀x∈ys,DatN n x)->(xs.length==ys.length&&(List.range xs.length).all fun i=>teq n (xs.getD i .non) (ys.getD i .non))=true->xs=ys:=fun {n xs ys} ih h1 h2 h=>by
  rw[Bool.and_eq_true,beq_iff_eq,List.all_eq_true] at h
  obtain⟨hl,ha⟩:=h
  apply List.ext_getElem hl
  intro i p1 p2
  have:=ha i (List.mem_range.mpr p1)
  rw[List.getD_eq_getElem?_getD,List.getD_eq_getElem?_getD,List.getElem?_eq_getElem p1,List.getElem?_eq_getElem p2] at this
  exact ih (h1 _ (List.getElem_mem p1)) (h2 _ (List.getElem_mem p2)) this
 intro n
 induction n with
 |zero =>
  intro t u h1 h2 h
  cases h1 <;> cases h2 <;> simp_all [teq,plT,pEqT]
 |succ n ih =>
  intro t u h1 h2 h
  unfold teq at h
  cases h1 with
  |lst g=>cases h2 with
   |lst g'=>exact congrArg T.lst (lists ih g g' (by simpa [sqT] using h))
   |_=>simp[sqT,plT,pEqT] at h
  |tup g=>cases h2 with
   |tup g'=>exact congrArg T.tup (lists ih g g' (by simpa [sqT] using h))
   |_=>simp[sqT,plT,pEqT] at h
  |non=>cases h2 <;> simp_all [sqT,plT,pEqT]
  |int i=>cases h2 <;> simp_all [sqT,plT,pEqT]
  |str x=>cases h2 <;> simp_all [sqT,plT,pEqT]
section
variable{X:Cx}{a b:Expr}{ta tb:UTE}{pos:Pos}
theorem Q4(hu:X.A.units+64<cLine)(ha:UE X a ta)(hb:UE X b tb)(hm:behindInMarks .In b=false:=by with_unfolding_all rfl):UT X (.Compare a [.In] [b] pos) (A4 (A0 (oInG false) ta tb)):=Bf (Yu hu) lInG ha hb hm
theorem Ea(hu:X.A.units+64<cLine)(ha:UE X a ta)(hb:UE X b tb)(hm:behindInMarks .NotIn b=false:=by with_unfolding_all rfl):UT X (.Compare a [.NotIn] [b] pos) (A4 (A0 (oInG true) ta tb)):=Bf (M3 hu) lInG ha hb hm
end
end TL
end
section
namespace L2
open PySem PySem.Spec PyProof.Rows
def setS:St->List Nat->List V->St
 | σ,i::is,v::vs=>setS (σ.set i (some v)) is vs
 | σ,_,_=>σ
def Kd(is:List Nat):TGs:=fun vs σ H Q=>vs.length=is.length/\Q (setS σ is vs) H
section
variable{X:Cx}{pos:Pos}
theorem Fo:PGs X [] (Kd []):=fun pins s σ H vs us Q I r ⟨hl,h⟩=>by
 cases vs with
 |nil=>exact L4 pins s σ H [] us Q I r ⟨rfl,h⟩
 |cons=>simp at hl
theorem Tt{i:Nat}{is:List Nat}{e:Expr}{es:List Expr}(h1:PG X e (Gg i))(h2:PGs X es (Kd is))(hs:(assignEach (e::es) X.env).map (·.2)=assign e X.env::(assignEach es X.env).map (·.2):=by rfl):PGs X (e::es) (Kd (i::is)):=fun pins s σ H vs us Q I r ⟨hl,h⟩=>by
 cases vs with
 |nil=>simp at hl
 |cons v vs=>exact Fk h1 h2 hs pins s σ H (v::vs) us Q I r ⟨v,vs,rfl,by simpa using hl,h⟩
def gSeq(K:PySem.W.Frag)(n:Nat)(t:TGs):TG:=fun v σ H Q=>∃a xs,v=.ref a/\(SqT K H a xs\/SqL K H a xs)/\xs.length=n/\t xs σ H Q
theorem Wo{es:List Expr}{k:Nat}{t:TGs}{n:Nat}(hc:X.calm=true)(h:PGs X es t)
  (hn:(assignEach es X.env).length=n:=by rfl) (hst:(assignEach es X.env).findIdx? (·.1)=none:=by rfl):PG X (.Tuple es k pos) (gSeq X.K n t):=by
 intro pins s σ H v u Q I r hw
 obtain⟨a,xs,e1,hq,hl,hw⟩:=hw
 rcases hq with hq|hq
 ·exact Q9 hc h hn hst pins s σ H v u Q I r ⟨a,xs,e1,hq,hl,hw⟩
 subst e1
 cases r
 obtain⟨its,rv,ht,hz⟩:=I.list hq
 rw[assign_Tuple]
 refine wpAny_bind (wpAny_standAt ?_)
 unfold unpack
 rw[hst,show (assignEach es X.env).length=its.toArray.size by simp[hn,<-hl,rv.length]]
 refine wpAny_bind (wpAny_holding (PySem.W.kun_itemsOf (I.ok.hd hc) ht.isList fun h' hx=>?_))
 have I1:Inv X pins σ H { s with heap:=h' }:=I.kept (t':=s.toks) fun b o e=>hx b o (Nat.ne_of_lt (Heap.lt_size e)) e
 exact h pins _ σ H xs _ Q I1 (by simpa using rv) hw
end
end L2
end
section
namespace TL
open PySem PySem.Spec PyProof.Rows L2
def setT:Ev->List Nat->List T->Ev
 |env,i::is,t::ts=>setT (env.set i (some t)) is ts
 |env,_,_=>env
theorem Lr{K:PySem.W.Frag}{S:TH}{H:Hp}:∀{is:List Nat} {vs:List V} {ts:List T} {σ:L2.St} {env:Ev},REnv K S H σ env->Reps K S H vs ts->REnv K S H (setS σ is vs) (setT env is ts)
 |[],_,_,_,_,re,_=>re
 |_::_,[],[],_,_,re,_=>re
 |_::_,[],_::_,_,_,_,r=>absurd r.1 (by simp)
 |_::_,_::_,[],_,_,_,r=>absurd r.1 (by simp)
 |i::is,v::vs,t::ts,σ,env,re,r=>Lr (is:=is) (re.set r.head) r.tail
section
variable{X:Cx}{a b e:Expr}{pos p:Pos}{te:UTE}{tr:UTA}{gg:UTG}
def uAsg(te:UTE)(gg:UTG):UTS:=fun E env S=>te env S fun x S1=>gg x env S1 E.nx
theorem Jo{tg:Expr}(he:UE X e te)(hg:UG X tg gg)(hs:swapsWithSole [tg] e pos.line X.env=pure false:=by rfl)(hw:swappedStores [tg] e X.env=pure none:=by rfl)(h1:(assignEach [tg] X.env).map (·.2)=[assign tg X.env]:=by rfl):US X (.Assign [tg] e pos) (uAsg te gg) :=
 PS.imp (Oz he hg hs hw h1) fun D σ H ⟨S,env,E,g,re,h,fin⟩ =>
  Za ⟨g,re⟩ h fun v y S1 H1 le1 m1 ry h1=>⟨S1,env,y,_,m1.g,m1.re,ry,h1,fun σ' env' S' H' le' g' re' hp=>fin.nx _ _ S' H' (le1.trans le') g' re' hp⟩
def gMany(is:List Nat):UTG:=fun x env S P=>∃k ts,sqT (cv S x)=some (k,ts)/\ts.length=is.length/\P (setT env is ts) S
theorem Hg{is:List Nat}{es:List Expr}{k n:Nat}(hc:X.calm=true)(h:PGs X es (Kd is))(hl:n=is.length:=by rfl)(hn:(assignEach es X.env).length=n:=by rfl)(hst:(assignEach es X.env).findIdx? (·.1)=none:=by rfl):UG X (.Tuple es k pos) (gMany is) :=
 PG.imp (Wo (n:=n) hc h hn hst) fun v σ H Q ⟨S,env,x,P,g,re,rx,h,fin⟩=>by
  obtain⟨k,ts,e,el,hp⟩:=h
  have go:∀{a:Addr} {vs:List V},(SqT X.K H a vs\/SqL X.K H a vs)->Reps X.K S H vs ts->gSeq X.K n (Kd is) (.ref a) σ H Q:=fun {a vs} sq r =>
   ⟨a,vs,rfl,sq,by rw[r.1,el,hl],by rw[r.1,el],fin _ _ S H .refl g (Lr re r) hp⟩
  cases x with
  |lst us=>obtain⟨a,vs,rfl,f,r⟩:=rx.lstE;cases e;exact go (.inr f.sq) r
  |fls us=>obtain⟨a,vs,rfl,f,r⟩:=rx.flsE;cases e;exact go (.inr f.sq) r
  |tup us=>obtain⟨a,vs,rfl,f,r⟩:=rx.tupE;cases e;exact go (.inl f.sq) r
  |ref a =>
   cases rx
   unfold cv at e
   dsimp only at e
   cases hc:S a with
   |none=>rw[hc] at e;cases e
   |some c =>
    rw[hc] at e
    cases c with
    |lst us =>
     cases e
     obtain⟨vs,hH,r⟩:=g a _ hc
     exact go (.inr (.inl (.inl hH))) r
    |_=>cases e
  |_=>cases e
theorem C9(i:Nat){is:List Nat}{x:Str}{es:List Expr}(hN:X.N.Nodup)(h2:PGs X es (Kd is))(hi:X.N[i]?=some x:=by rfl)(hx:Loc X.env.scope x:=by first|exact Or.inl rfl|exact Or.inr rfl)(hf:X.fn x=true\/X.env.scope.names.lookup x=some .local:=by first|exact .inl rfl|exact .inr rfl)(hs:(assignEach (.Name x p::es) X.env).map (·.2)=assign (.Name x p) X.env::(assignEach es X.env).map (·.2):=by rfl):PGs X (.Name x p::es) (Kd (i::is)):=Tt (Bj hN hi hx hf) h2 hs
end
end TL
end
section
namespace L2
open PySem PySem.Spec PyProof.Rows
end L2
end
section
namespace L2
open PySem PySem.Spec PyProof.Rows
end L2
end
section
namespace L2
open PySem PySem.Spec PyProof.Rows
end L2
end
section
namespace TL
open PySem PySem.Spec PyProof.Rows L2
end TL
end
section
namespace L2
open PySem PySem.Spec PyProof.Rows
end L2
end
section
namespace L2
open PySem PySem.Spec PyProof.Rows
end L2
end
section
namespace L2
open PySem PySem.Spec PyProof.Rows
end L2
end
section
namespace TL
open PySem PySem.Spec PyProof.Rows L2
end TL
end
section
namespace L2
open PySem PySem.Spec PyProof.Rows PySem.W
end L2
end
section
namespace TL
open PySem PySem.Spec PyProof.Rows L2
end TL
end
section
namespace L2
open PySem PySem.Spec PyProof.Rows
end L2
end
section
namespace TL
open PySem PySem.Spec PyProof.Rows L2
end TL
end
section
namespace L2
open PySem PySem.Spec PyProof.Rows
end L2
namespace TL
open PySem PySem.Spec PyProof.Rows L2
end TL
end
section
namespace L2
open PySem PySem.Spec PyProof.Rows
end L2
end
section
namespace TL
open PySem PySem.Spec PyProof.Rows L2
def cAt(mg:Str->Option Value)(x:Str):Addr:=match mg x with
 |some (.ref a)=>a
 |_=>0
section
variable{K:PySem.W.Frag}{h:Heap}{mg:Str->Option Value}{x y:Str}{C D:Addr}
theorem Fr(X:K.In h)(G:h.Ns mainGlobals mg)(a:PySem.W.nsIn K mainGlobals x=some (some (.ref C))):cAt mg x=C:=by unfold cAt;rw[PySem.W.mg_of X G a]
theorem J4(X:K.In h)(G:h.Ns mainGlobals mg)(a:PySem.W.nsIn K mainGlobals x=some (some (.ref C))):mg x=some (.ref (cAt mg x)):=by rw[Fr X G a];exact PySem.W.mg_of X G a
end
end TL
end
section
namespace L2
open PySem PySem.Spec PyProof.Rows
theorem Ed(l:Addr)(xs:Array Value)(n:Nat)(b:Addr)(ys:Array Value)(m:Nat){dd:Option Addr}{sl:Array (Option Value)}(h0:¬(!xs.isEmpty&&Builtin.List.listTooLong (xs.size+ys.size))=true)(h1:xs.size<=sizeLine)(h2:xs.size+ys.size<=sizeLine+1):
  Meets (Builtin.«list.extend» ⟨[.ref l,.ref b],[]⟩) (fun _ R s=>s.heap.get? l=some { cls:=.type "list",dict:=none,data:=.seq xs n,slots:=#[] }/\s.heap.get? b=some { cls:=.type "tuple",dict:=dd,data:=.seq ys m,slots:=sl }/\R (.ok (.ret Value.none)) { s with heap:=s.heap.update l (Obj.mapSeq fun x=>x++ys),toks:=s.toks }) :=
 .of_wp fun _ _ _ R s q=>by
  obtain⟨q1,q2,q3⟩:=q;obtain⟨hp,g,d,tk,os⟩:=s
  have h3:(xs++ys).size<=sizeLine+1:=by rw[Array.size_append];omega
  wp_walk using (wpAny_updateSeq q1 rfl (hz:=h1) (_hz':=h3)),wpAny_loadPart' q1,wpAny_loadPart' q2;exact⟨_,rfl,q3⟩
theorem Em(l:Addr)(xs:Array Value)(n:Nat)(b:Addr)(ys:Array Value)(m:Nat){sl:Array (Option Value)}(h0:¬(!xs.isEmpty&&Builtin.List.listTooLong (xs.size+ys.size))=true)(h1:xs.size<=sizeLine)(h2:xs.size+ys.size<=sizeLine+1):
  Meets (Builtin.«list.extend» ⟨[.ref l,.ref b],[]⟩) (fun _ R s=>s.heap.get? l=some { cls:=.type "list",dict:=none,data:=.seq xs n,slots:=#[] }/\s.heap.get? b=some { cls:=.type "list",dict:=none,data:=.seq ys m,slots:=sl }/\R (.ok (.ret Value.none)) { s with heap:=s.heap.update l (Obj.mapSeq fun x=>x++ys),toks:=s.toks }) :=
 .of_wp fun _ _ _ R s q=>by
  obtain⟨q1,q2,q3⟩:=q;obtain⟨hp,g,d,tk,os⟩:=s
  have h3:(xs++ys).size<=sizeLine+1:=by rw[Array.size_append];omega
  wp_walk using (wpAny_updateSeq q1 rfl (hz:=h1) (_hz':=h3)),wpAny_loadPart' q1,wpAny_loadPart' q2;exact⟨_,rfl,q3⟩
section
variable{X:Cx}
theorem Ke:MtM X "list.extend" (fun x vs H Q=>∃l b xs zs,x=.ref l/\vs=[.ref b]/\H l=some (.lst xs)/\(SqL X.K H b zs\/SqT X.K H b zs)/\xs.length+zs.length<=sizeLine/\Q .non (upd H l (.lst (xs++zs)))):=by
 intro pins s σ H x vs v us Q I rx rv h
 obtain⟨l,b,xs,zs,rfl,rfl,hH,hB,hz,q⟩:=h
 cases rx
 obtain⟨u,rfl,ru⟩:=rv.one
 cases ru
 obtain⟨z,its,n,r,hl,e⟩:=I.lstM hH
 have fin:∀its2:List Value,Vals zs its2->∃v' H',Inv X pins σ H' { s with heap:=s.heap.update l (Obj.mapSeq fun x=>x++its2.toArray),toks:=s.toks }/\RelV v' Value.none/\Q v' H':=fun its2 r2=>by
  refine⟨.non,_,I.lset (its':=its++its2) hH e (by simp) (r.append r2) ?_,rfl,q⟩
  rw[List.length_append]
  omega
 rcases hB with hB|hB
 ·obtain⟨its2,r2,⟨o,n2,e2,c2,d2,s2⟩,z2⟩:=I.list hB
  have hl2:=r2.length
  have hsz:its.toArray.size+its2.toArray.size<=sizeLine:=by rw[List.size_toArray,List.size_toArray];omega
  have hlong:¬ (!its.toArray.isEmpty&&Builtin.List.listTooLong (its.toArray.size+its2.toArray.size))=true:=by
   rw[Ih hsz,Bool.and_false]
   exact Bool.false_ne_true
  obtain⟨oc,od,oda,osl⟩:=o
  cases c2;cases d2;cases s2
  exact call_meets F.slot_list_extend ⟨_,e,rfl⟩ F.entry_list_extend (F.args_list_extend_2 _ _) (Em l its.toArray n b its2.toArray n2 hlong (by rw[List.size_toArray];omega) (by omega)) ⟨e,e2,fin its2 r2⟩
 ·obtain⟨its2,r2,⟨o,e2,c2,n2,s2⟩,z2⟩:=I.tuple hB
  have hl2:=r2.length
  have hsz:its.toArray.size+its2.toArray.size<=sizeLine:=by rw[List.size_toArray,List.size_toArray];omega
  have hlong:¬ (!its.toArray.isEmpty&&Builtin.List.listTooLong (its.toArray.size+its2.toArray.size))=true:=by
   rw[Ih hsz,Bool.and_false]
   exact Bool.false_ne_true
  obtain⟨oc,od,oda,osl⟩:=o
  cases c2;cases s2
  exact call_meets F.slot_list_extend ⟨_,e,rfl⟩ F.entry_list_extend (F.args_list_extend_2 _ _) (Ed l its.toArray n b its2.toArray n2 hlong (by rw[List.size_toArray];omega) (by omega)) ⟨e,e2,fin its2 r2⟩
end
end L2
namespace HT
open PySem PySem.Spec PyProof.Rows
section
variable{prog:Program}{w:World}{A:Around}{E:Value->Shared->Prop}{s:Shared}
theorem getItem_tuple_all{t sl:Addr}{items:Array Value}{vl vu:Value}{lo hi:Option Int}{Q:Value->Shared->Prop}(ht:IsTup s.heap t items)(hs:s.heap.IsSliceOf sl vl vu .none)(pl:IsPart vl lo)(pu:IsPart vu hi)
  (hw:sIx items.size 0 lo=0/\sIx items.size items.size hi=items.size) (h:Q (.ref t) s):wpAny (model prog w) A (getItem (.ref t) (.ref sl)) Q E s:=by
 obtain⟨os,hos,hcs,hds⟩:=id hs
 have hTs:s.TypeIs (.ref sl) "slice":=⟨os,hos,hcs⟩
 obtain⟨ot,hot,hct,nt,hdt⟩:=id ht
 unfold getItem
 try with_reducible refine wpAny_holding ?_
 first|refine wpAny_bind (wpAny_pure ?_)|skip
 refine wpAny_bind (wpAny_sequenceKey ht.typeIs (by decide) ?_)
 refine wpAny_bind (wpAny_callSpecial?_slot (name:=Str.ofString "__getitem__") ht.typeIs PyProof.Rows.slot_tuple_getitem
  (wpAny_call_entry PyProof.Rows.slot_tuple_getitem ht.typeIs entry_tuple_getitem ?_ (args_tuple_getitem _ _)))
 show wpAny _ _ (Builtin.Tuple.tupleItemsOf (.ref t) >>= _) _ _ s
 refine wpAny_bind (tupleItemsOf_ ht ?_)
 refine wpAny_bind (wpAny_typeOf hTs ?_)
 rw[if_pos (by decide)]
 refine wpAny_bind (B2 hs pl pu ?_)
 have hyes:(((sIx items.size 0 lo:Nat):Int)==0&&(1:Int)==1&&(sIx items.size items.size hi - sIx items.size 0 lo)==items.size)=true:=by
  rw[hw.1,hw.2];simp
 show wpAny _ _ (if (((sIx items.size 0 lo:Nat):Int)==0&&(1:Int)==1&&(sIx items.size items.size hi - sIx items.size 0 lo)==items.size)=true then _ else _) _ _ s
 rw[if_pos hyes]
 refine wpAny_bind (m:=Builtin.Tuple.tupleIsExact (.ref t)) (wpAny_bind (wpAny_typeOf ht.typeIs (wpAny_pure ?_)))
 rw[if_pos (by decide)]
 exact wpAny_bind (wpAny_rule (wpAny_pure ⟨_,rfl,wpAny_pure h⟩))
end
end HT
namespace L2
open PySem PySem.Spec PyProof.Rows
section
variable{X:Cx}
def rSlA(K:PySem.W.Frag):V->Option Int->Option Int->Hp->VK->Prop:=fun x lo hi H Q=>∃a xs,x=.ref a/\SqT K H a xs ∧
 ((HT.sIx xs.length 0 lo=0/\HT.sIx xs.length xs.length hi=xs.length)->Q (.ref a) H)/\(¬ (HT.sIx xs.length 0 lo=0/\HT.sIx xs.length xs.length hi=xs.length)->∀p,H p=none->Q (.ref p) (upd H p (.tup (Hb xs lo hi))))
theorem Vj:SlR X (rSlA X.K):=by
 intro pins s σ H x v vl vu lo hi sl Q I rx hs pl pu h
 obtain⟨a,xs,rfl,hx,q0,q1⟩:=h
 by_cases hw:HT.sIx xs.length 0 lo=0/\HT.sIx xs.length xs.length hi=xs.length
 ·cases rx
  obtain⟨its,r,ht,hz⟩:=I.tuple hx
  have hlen:its.toArray.size=xs.length:=by rw[List.size_toArray];exact r.length.symm
  refine⟨"tuple",_,PyProof.Rows.slot_tuple_getitem.lookup,ht.typeIs,?_⟩
  exact HT.getItem_tuple_all ht hs pl pu (by rw[hlen];exact hw) ⟨.ref a,H,I,rfl,q0 hw⟩
 ·exact sl_tup pins s σ H _ v vl vu lo hi sl Q I rx hs pl pu ⟨a,xs,rfl,hx,hw,q1 hw⟩
end
end L2
end
section
namespace TL
open PySem PySem.Spec PyProof.Rows L2
section
variable{X:Cx}{o e a:Expr}{to:UTE}{tr:UTA}{apos cpos pos p:Pos}
def V2:T->Option (List T)
 | .lst ts=>some ts
 | .tup ts=>some ts
 | .fls ts=>some ts
 |_=>none
def U1(to:UTE)(tr:UTA):UTE:=fun env S P=>to env S fun x S1=>match x with
 | .ref p=>(∃ts0,S1 p=some (.lst ts0))/\tr env S1 fun ys S2=>match ys with
  |[y]=>∃ts us,S2 p=some (.lst ts)/\V2 y=some us/\ts.length+us.length<=sizeLine/\P .non (updT S2 p (.lst (ts++us)))
  |_=>False
 |_=>False
theorem Us{K:PySem.W.Frag}{S:TH}{H:Hp}{v:V}{y:T}{us:List T}(h:V2 y=some us)(r:Rep K S H v y):∃b zs,v=.ref b/\(SqL K H b zs\/SqT K H b zs)/\Reps K S H zs us:=by
 cases y with
 |lst ts=>cases h;obtain⟨b,zs,e,f,q⟩:=r.lstE;exact⟨b,zs,e,.inl f.sq,q⟩
 |tup ts=>cases h;obtain⟨b,zs,e,f,q⟩:=r.tupE;exact⟨b,zs,e,.inr f.sq,q⟩
 |fls ts=>cases h;cases r with|fls f l q=>exact⟨_,_,rfl,.inl f.sq,l,q⟩
 |_=>cases h
theorem Oe(ho:UE X o to)(ha:UA X [e] tr)(hbase:attributeBase o "extend" X.env (eval o X.env)=eval o X.env:=by rfl)
  (hfew:((backTo cpos (starEach [e] X.env)).all (fun x=>!x.1)&&(backToKw cpos (keywordEach [] X.env)).all (fun x=>x.1.isSome)&&decide (([e]:List Expr).length+([]:List Keyword).length+(if ([]:List Keyword).isEmpty then 0 else 1)<30))=true:=by rfl)
  (hline:(apos.endLine==cpos.line)=true:=by rfl) (hs:starEach [e] X.env=(false,eval e X.env)::starEach [] X.env:=by rfl) (hplain:(backTo cpos (starEach [] X.env)).any (·.1)=false:=by rfl) :
  UE X (.Call (.Attribute o "extend" apos) [e] [] cpos) (U1 to tr) :=
 PE.imp (Ll PySem.F.plainAttrs_list PySem.F.slot_list_extend PySem.F.type_list_extend Ke ho ha hbase hfew hline hs hplain) fun σ H Q ⟨S,env,P,g,re,h,fin⟩ =>
  Za ⟨g,re⟩ h fun v x S1 H1 le1 m1 rx h1=>by
   cases x with
   |ref p =>
    cases rx
    obtain⟨⟨ts0,e0⟩,h1⟩:=h1
    obtain⟨vs0,q0,_⟩:=m1.g p _ e0
    refine⟨.inl ⟨rfl,_,SqL.of q0⟩,Ai m1 h1 fun vs rs S2 H2 le2 m2 rr h2=>?_⟩
    match rs,rr,h2 with
    |[y],rr,h2 =>
     obtain⟨w,rfl,rw'⟩:=rr.one
     obtain⟨ts,us,e2,ey,hl,hp⟩:=h2
     obtain⟨ws,q2,r2⟩:=m2.g p _ e2
     obtain⟨b,zs,rfl,sq,r3⟩:=Us ey rw'
     refine⟨p,b,ws,zs,rfl,rfl,q2,sq,by rw[r2.1,r3.1];exact hl,?_⟩
     exact fin _ _ _ _ (le1.trans (le2.trans (Le.write e2))) (m2.g.writeL e2 (r2.append r3)) .non hp
   |_=>exact h1.elim
def lstAt(S:TH)(x:T)(xs:List T):Prop:=match x with
 | .lst ts=>ts=xs
 | .ref p=>S p=some (.lst xs)
 |_=>False
theorem lstAt.rep{K:PySem.W.Frag}{S:TH}{H:Hp}{v:V}{x:T}{xs:List T}(h:lstAt S x xs)(g:Good K S H)(r:Rep K S H v x):∃b vs,v=.ref b/\H b=some (.lst vs)/\Reps K S H vs xs:=by
 cases x with
 |lst ts=>have e:ts=xs:=h;subst e;obtain⟨b,vs,e,f,q⟩:=r.lstE;exact⟨b,vs,e,f.2,q⟩
 |ref p=>cases r;obtain⟨vs,q,rv⟩:=g p _ h;exact⟨p,vs,rfl,q,rv⟩
 |_=>exact h.elim
def Sx:T->T->TH->UX->Prop:=fun x y S P=>∃xs ys,lstAt S x xs/\lstAt S y ys/\xs.length+ys.length<=sizeLine/\∀p,S p=none->P (.ref p) (updT S p (.lst (xs++ys)))
theorem Pj{b:Expr}{ta tb:UTE}(ha:UE X a ta)(hb:UE X b tb):UE X (.BinOp a .Add b pos) (A0 Sx ta tb):=Eb op_cat (fun S H v w x y P Q g rx ry ho fin=>by
 obtain⟨xs,ys,hx,hy,hl,hp⟩:=ho
 obtain⟨l,vs,rfl,e1,r1⟩:=hx.rep g rx
 obtain⟨b,us,rfl,e2,r2⟩:=hy.rep g ry
 exact⟨l,b,vs,us,rfl,rfl,e1,e2,by rw[r1.1,r2.1];exact hl,fun p hq=>fin _ _ _ _ (Le.newC hq) (g.newL hq (r1.append r2)) (.ref p) (hp p (g.free hq))⟩) ha hb
def oSlT(x:T)(lo hi:Option Int)(S:TH)(P:UX):Prop:=match x with
 | .tup ts=>P (.tup (cutA ts lo hi)) S
 |_=>False
def uSlT(te:UTE)(tl th:UTO):UTE:=fun env S P=>te env S fun x S1=>tl env S1 fun l S2=>th env S2 fun u S3=>oSlT x l u S3 P
theorem Ve{α:Type}{ts:List α}{lo hi:Option Int}(h:HT.sIx ts.length 0 lo=0/\HT.sIx ts.length ts.length hi=ts.length):cutA ts lo hi=ts:=by
 unfold cutA
 rw[h.1,h.2]
 simp
theorem Sj{lo hi:Option Expr}{te:UTE}{tl th:UTO}{p2:Pos}(he:UE X e te)(hl:UO X lo tl)(hh:UO X hi th):UE X (.Subscript e (.Slice lo hi none p2) pos) (uSlT te tl th) :=
 PE.imp (F1 Vj he hl hh) fun σ H Q ⟨S,env,P,g,re,h,fin⟩=>Za ⟨g,re⟩ h fun v x S1 H1 le1 m1 rx h1 =>
  ⟨S1,env,_,m1.g,m1.re,h1,fun l S2 H2 le2 g2 h2=>⟨S2,env,_,g2,m1.re.mono le2,h2,fun u S3 H3 le3 g3 h3=>by
   have rx3:=rx.mono (le2.trans le3)
   have le:=le1.trans (le2.trans le3)
   cases x with
   |tup ts =>
    obtain⟨a,vs,rfl,f,r⟩:=rx3.tupE
    refine⟨a,vs,rfl,f.sq,fun e=>?_,fun _ p hp=>C7 (fin.le le) g3 hp (r.cut _ _) h3⟩
    have h3:P (.tup (cutA ts l u)) S3:=h3
    rw[Ve (by rw[<-r.1];exact e)] at h3
    exact fin _ _ S3 H3 le g3 rx3 h3
   |_=>exact h3.elim⟩⟩
end
end TL
end
section
namespace L2
open PySem PySem.Spec PyProof.Rows
section
variable{bq:Bool}{prog:Program}{w:World}{A:Around}{E:Value->Shared->Prop}{s:Shared}
def SqA(k:Bool)(h:Heap)(l:Addr)(xs:Array Value):Prop:=match k with
 |false=>h.IsList l xs
 |true=>h.IsTuple l xs
def ItA(k:Bool)(h:Heap)(it l:Addr)(i:Nat):Prop:=match k with
 |false=>h.IsListIter it l i
 |true=>h.IsTupleIter it l i
theorem SqA.extBut{k:Bool}{h h':Heap}{l b:Addr}{xs:Array Value}(q:SqA k h l xs)(e:Heap.ExtBut b h h')(n:l≠b):SqA k h' l xs:=by
 cases k with
 |false=>exact Heap.IsList.extBut q e n
 |true=>exact Heap.IsTuple.extBut q e n
theorem ItA.extBut{k:Bool}{h h':Heap}{j l b:Addr}{i:Nat}(q:ItA k h j l i)(e:Heap.ExtBut b h h')(n:j≠b):ItA k h' j l i:=by
 cases k with
 |false=>exact Heap.IsListIter.extBut q e n
 |true=>exact Heap.IsTupleIter.extBut q e n
theorem SqA.imp{k:Bool}{h h':Heap}{l:Addr}{xs:Array Value}(q:SqA k h l xs)(e:∀o,h.get? l=some o->h'.get? l=some o):SqA k h' l xs:=by
 cases k with
 |false=>obtain⟨o,q,r⟩:=(show h.IsList l xs from q);exact⟨o,e o q,r⟩
 |true=>obtain⟨o,q,r⟩:=(show h.IsTuple l xs from q);exact⟨o,e o q,r⟩
theorem ItA.at{k:Bool}{h:Heap}{j l:Addr}{i:Nat}(q:ItA k h j l i):∃o,h.get? j=some o:=by
 cases k with
 |false=>obtain⟨o,q,r⟩:=(show h.IsListIter j l i from q);exact⟨o,q⟩
 |true=>obtain⟨o,q,r⟩:=(show h.IsTupleIter j l i from q);exact⟨o,q⟩
theorem SqA.at{k:Bool}{h:Heap}{l:Addr}{xs:Array Value}(q:SqA k h l xs):∃o,h.get? l=some o:=by
 cases k with
 |false=>obtain⟨o,q,r⟩:=(show h.IsList l xs from q);exact⟨o,q⟩
 |true=>obtain⟨o,q,r⟩:=(show h.IsTuple l xs from q);exact⟨o,q⟩
theorem Bw{k:Bool}{it l:Addr}{i:Nat}{items:Array Value}{x:Value}{Q:Value->Shared->Prop}(hit:ItA k s.heap it l i)(hl:SqA k s.heap l items)(hx:items[i]?=some x)
  (hQ:∀h',ItA k h' it l (i+1)->Heap.SameBut it s.heap h'->Q x { s with heap:=h' }):wpAny (model prog w) A (Builtin.SmallTypes.nextOf (.ref it)) Q E s:=by
 cases k with
 |false=>exact wpAny_nextOf_list_item hit hl hx hQ
 |true=>exact Au hit hl hx hQ
theorem Ch{k:Bool}{it l:Addr}{i:Nat}{items:Array Value}{Q:Value->Shared->Prop}(hh:A.handled=none)(hit:ItA k s.heap it l i)(hl:SqA k s.heap l items)(hx:items[i]?=none)
  (hE:∀h' e,Heap.ExtBut it s.heap h'->(∃o,h'.get? e=some o/\o.cls=.type "StopIteration")->E (.ref e) { s with heap:=h' }):wpAny (model prog w) A (Builtin.SmallTypes.nextOf (.ref it)) Q E s:=by
 cases k with
 |false=>exact wpAny_nextOf_list_end hh hit hl hx hE
 |true=>exact Cn hh hit hl hx hE
structure ZipL(bq:Bool)(h:Heap)(z ti to i1 i2 l1 t2:Addr)(i:Nat)(f0 f1:Value):Prop where
 z:h.get? z=some { cls:=.type "zip",dict:=none,data:=.fields #[f0,f1,.bool false,.ref ti,.ref to],slots:=#[] }
 ti:IsPair h ti (.ref i1) (.ref i2)
 to:∃a b,IsPair h to a b
 i1:ItA bq h i1 l1 i
 i2:h.IsTupleIter i2 t2 i
theorem Ha{h h':Heap}{j t:Addr}{k:Nat}(q:ItA bq h j t k)(e:∀o,h.get? j=some o->h'.get? j=some o):ItA bq h' j t k:=by
 cases bq with
 |false=>obtain⟨o,q,r⟩:=(show h.IsListIter j t k from q);exact⟨o,e o q,r⟩
 |true=>obtain⟨o,q,r⟩:=(show h.IsTupleIter j t k from q);exact⟨o,e o q,r⟩
theorem Ms{z ti to i1 i2 l1 t2 p:Addr}{bf:Bool}{op:Obj}{i:Nat}{xs ys:Array Value}{x y:Value}{Q:Value->Shared->Prop}(D:ZipApart z ti to i1 i2 l1 t2)(Z:ZipL bq s.heap z ti to i1 i2 l1 t2 i (rawInt (p:Nat)) (.bool bf))(hp:s.heap.get? p=some op)
  (l1':SqA bq s.heap l1 xs) (l2':s.heap.IsTuple t2 ys) (hx:xs[i]?=some x) (hy:ys[i]?=some y)
  (hQ:∀g,ZipL bq g z ti to i1 i2 l1 t2 (i+1) (rawInt (p:Nat)) (.bool true)->IsPair g s.heap.objs.size x y →
   (∀c o,c≠z->c≠i1->c≠i2->s.heap.get? c=some o->g.get? c=some o)->Q (.ref s.heap.objs.size) { s with heap:=g }) :
  wpAny (model prog w) A (Builtin.«zip.__next__» ⟨[.ref z],[]⟩) (fun fin s'=>∃v,fin=.done (.ret v)/\Q v s') E s:=by
 obtain⟨hz,hTI,⟨a,b,hTO⟩,h1,h2⟩:=Z
 show wpAny _ _ (field (.ref z) 2 >>= _) _ _ _
 refine wpAny_bind (wpAny_field hz rfl (x:=.bool false) rfl ?_)
 show wpAny _ _ (field (.ref z) 3 >>= _) _ _ _
 refine wpAny_bind (wpAny_field hz rfl (x:=.ref ti) rfl ?_)
 refine wpAny_bind (wpAny_seqItems hTI rfl ?_)
 show wpAny (model prog w) _ (Builtin.SmallTypes.ownedTupleIsFree (.ref z) >>= _) _ _ _
 refine wpAny_bind ?_
 unfold Builtin.SmallTypes.ownedTupleIsFree
 refine wpAny_bind (wpAny_field hz rfl (x:=rawInt p) rfl ?_)
 show wpAny _ _ (loadIfAlive ((p:Nat):Int).toNat >>= _) _ _ _
 rw[Int.toNat_natCast]
 refine wpAny_bind (PySem.W.kdx_alive hp ?_)
 rw[if_neg (show ¬ ((some op).isNone=true) from Bool.false_ne_true)]
 refine wpAny_bind (wpAny_field hz rfl (x:=.bool bf) rfl ?_)
 have tail:∀g1,Heap.SameBut z s.heap g1->g1.get? z=some { cls:=.type "zip",dict:=none,data:=.fields #[rawInt p,.bool true,.bool false,.ref ti,.ref to],slots:=#[] } →
   ∀g2,ItA bq g2 i1 l1 (i+1)->Heap.SameBut i1 g1 g2->∀g3,g3.IsTupleIter i2 t2 (i+1)->Heap.SameBut i2 g2 g3->Q (.ref g3.objs.size) { s with heap:=g3.push { cls:=.type "tuple",data:=.seq #[x,y] } }:=fun g1 k1 z1 g2 n2 k2 g3 n3 k3=>by
  have sz:g3.objs.size=s.heap.objs.size:=by rw[k3.1,k2.1,k1.1]
  have up:∀c o,c≠z->c≠i1->c≠i2->s.heap.get? c=some o->(g3.push { cls:=.type "tuple",data:=.seq #[x,y] }).get? c=some o:=fun c o c1 c2 c3 e=>Heap.get?_push_of_some _ (k3.extBut _ _ c3 (k2.extBut _ _ c2 (k1.extBut _ _ c1 e)))
  have hpair:IsPair (g3.push { cls:=.type "tuple",data:=.seq #[x,y] }) g3.objs.size x y:=Heap.get?_push_size _ rfl
  rw[sz] at hpair ⊢
  refine hQ _ ⟨Heap.get?_push_of_some _ (k3.extBut _ _ D.i2z.symm (k2.extBut _ _ D.i1z.symm z1)),up _ _ D.TIz D.TIi1 D.TIi2 hTI,⟨a,b,up _ _ D.TOz D.TOi1 D.TOi2 hTO⟩,Ha n2 fun o e=>Heap.get?_push_of_some _ (k3.extBut _ _ D.i12 e),Cw n3 fun o e=>Heap.get?_push_of_some _ e⟩ hpair up
 cases bf
 ·show wpAny _ _ (setField (.ref z) 1 (.bool true) >>= _) _ _ _
  refine wpAny_bind (wpAny_setField_rec hz (by simp) fun g1 z1 k1=>wpAny_pure ?_)
  replace z1:g1.get? z=some { cls:=.type "zip",dict:=none,data:=.fields #[rawInt p,.bool true,.bool false,.ref ti,.ref to],slots:=#[] }:=z1
  have h1':=h1.extBut k1.extBut D.i1z
  have q1:=l1'.extBut k1.extBut D.l1z
  have h2':=h2.extBut k1.extBut D.i2z
  have q2:=l2'.extBut k1.extBut D.l2z
  have tail:=tail g1 k1 z1
  clear hz hp l1' l2' h1 h2
  rw[if_neg Bool.false_ne_true]
  dsimp only
  rw[<-Array.forIn_toList]
  simp only[List.forIn_cons,List.forIn_nil]
  refine wpAny_bind (wpAny_bind (wpAny_bind (wpAny_holding ?_)))
  show wpAny (model prog w) _ (Builtin.SmallTypes.nextOf (.ref i1) >>= _) _ _ _
  refine wpAny_bind (Bw h1' q1 hx fun g2 n2 k2=>wpAny_pure (wpAny_pure ?_))
  refine wpAny_bind (wpAny_bind (wpAny_holding ?_))
  show wpAny (model prog w) _ (Builtin.SmallTypes.nextOf (.ref i2) >>= _) _ _ _
  refine wpAny_bind (Au (h2'.extBut k2.extBut D.i12.symm) (q2.extBut k2.extBut D.l2i1) hy fun g3 n3 k3=>wpAny_pure (wpAny_pure (wpAny_pure ?_)))
  refine wpAny_bind (wpAny_newTuple ?_ (hsz:=show 2<=sizeLine by decide))
  exact wpAny_pure ⟨_,rfl,tail g2 n2 k2 g3 n3 k3⟩
 ·refine wpAny_pure ?_
  have k1:Heap.SameBut z s.heap s.heap:=⟨rfl,fun _ _=>rfl⟩
  have tail:=tail s.heap k1 hz
  have h1':=h1
  have q1:=l1'
  have h2':=h2
  have q2:=l2'
  rw[if_neg Bool.false_ne_true]
  dsimp only
  rw[<-Array.forIn_toList]
  simp only[List.forIn_cons,List.forIn_nil]
  refine wpAny_bind (wpAny_bind (wpAny_bind (wpAny_holding ?_)))
  show wpAny (model prog w) _ (Builtin.SmallTypes.nextOf (.ref i1) >>= _) _ _ _
  refine wpAny_bind (Bw h1' q1 hx fun g2 n2 k2=>wpAny_pure (wpAny_pure ?_))
  refine wpAny_bind (wpAny_bind (wpAny_holding ?_))
  show wpAny (model prog w) _ (Builtin.SmallTypes.nextOf (.ref i2) >>= _) _ _ _
  refine wpAny_bind (Au (h2'.extBut k2.extBut D.i12.symm) (q2.extBut k2.extBut D.l2i1) hy fun g3 n3 k3=>wpAny_pure (wpAny_pure (wpAny_pure ?_)))
  refine wpAny_bind (wpAny_newTuple ?_ (hsz:=show 2<=sizeLine by decide))
  exact wpAny_pure ⟨_,rfl,tail g2 n2 k2 g3 n3 k3⟩
theorem Kf{z ti to i1 i2 l1 t2:Addr}{xs ys:Array Value}{x y:Value}{Q:Value->Shared->Prop}(D:ZipApart z ti to i1 i2 l1 t2)(Z:ZipL bq s.heap z ti to i1 i2 l1 t2 0 .none (.bool false))(l1':SqA bq s.heap l1 xs)(l2':s.heap.IsTuple t2 ys)
  (hx:xs[0]?=some x) (hy:ys[0]?=some y)
  (hQ:∀g,ZipL bq g z ti to i1 i2 l1 t2 1 (rawInt (s.heap.objs.size:Nat)) (.bool false)->IsPair g s.heap.objs.size x y →
   (∀c o,c≠z->c≠to->c≠i1->c≠i2->s.heap.get? c=some o->g.get? c=some o)->Q (.ref s.heap.objs.size) { s with heap:=g }) :
  wpAny (model prog w) A (Builtin.«zip.__next__» ⟨[.ref z],[]⟩) (fun fin s'=>∃v,fin=.done (.ret v)/\Q v s') E s:=by
 obtain⟨hz,hTI,⟨a,b,hTO⟩,h1,h2⟩:=Z
 have hz:IsZip s.heap z ti to .none:=hz
 show wpAny _ _ (field (.ref z) 2 >>= _) _ _ _
 refine wpAny_bind (wpAny_field hz rfl (x:=.bool false) rfl ?_)
 show wpAny _ _ (field (.ref z) 3 >>= _) _ _ _
 refine wpAny_bind (wpAny_field hz rfl (x:=.ref ti) rfl ?_)
 refine wpAny_bind (wpAny_seqItems hTI rfl ?_)
 show wpAny (model prog w) _ (Builtin.SmallTypes.ownedTupleIsFree (.ref z) >>= _) _ _ _
 refine wpAny_bind ?_
 unfold Builtin.SmallTypes.ownedTupleIsFree
 refine wpAny_bind (wpAny_field hz rfl (x:=.none) rfl (wpAny_pure ?_))
 simp only[if_true]
 refine wpAny_bind (wpAny_rule ?_)
 refine wpAny_bind (wpAny_field hz rfl (x:=.ref to) rfl ?_)
 refine wpAny_bind (wpAny_setField_rec hz (by simp) fun g1 hz1 k1=>?_)
 replace hz1:IsZip g1 z ti to .ellipsis:=hz1
 refine wpAny_bind ?_
 simp only[List.zipIdx_cons,List.zipIdx_nil,List.forIn_cons,List.forIn_nil]
 refine wpAny_bind (wpAny_bind (wpAny_onRaise ?_))
 show wpAny (model prog w) _ (Builtin.SmallTypes.nextOf (.ref i1) >>= _) _ _ _
 refine wpAny_bind (Bw (h1.extBut k1.extBut D.i1z) (l1'.extBut k1.extBut D.l1z) hx fun g2 n2 k2=>wpAny_pure ?_)
 have o2:IsPair g2 to a b:=k2.extBut _ _ D.TOi1 (k1.extBut _ _ D.TOz hTO)
 refine wpAny_bind (wpAny_seqItems o2 rfl ?_)
 refine wpAny_bind (wpAny_updateSeq_pair o2 fun g3 o3 k3=>?_)
 replace o3:IsPair g3 to x b:=o3
 refine wpAny_bind (wpAny_letGo (wpAny_pure ?_))
 refine wpAny_bind (wpAny_bind (wpAny_onRaise ?_))
 show wpAny (model prog w) _ (Builtin.SmallTypes.nextOf (.ref i2) >>= _) _ _ _
 refine wpAny_bind (Au (((h2.extBut k1.extBut D.i2z).extBut k2.extBut D.i12.symm).extBut k3.extBut D.TOi2.symm) (((l2'.extBut k1.extBut D.l2z).extBut k2.extBut D.l2i1).extBut k3.extBut D.l2TO) hy fun g4 n4 k4=>wpAny_pure ?_)
 have o4:IsPair g4 to x b:=k4.extBut _ _ D.TOi2 o3
 refine wpAny_bind (wpAny_seqItems o4 rfl ?_)
 refine wpAny_bind (wpAny_updateSeq_pair o4 fun g5 o5 k5=>?_)
 replace o5:IsPair g5 to x y:=o5
 refine wpAny_bind (wpAny_letGo (wpAny_pure (wpAny_pure ?_)))
 refine wpAny_bind (wpAny_seqItems o5 rfl ?_)
 refine wpAny_bind (wpAny_newTuple ?_)
 have sz:g5.objs.size=s.heap.objs.size:=by rw[k5.1,k4.1,k3.1,k2.1,k1.1]
 have z5:IsZip g5 z ti to .ellipsis:=k5.extBut _ _ D.TOz.symm (k4.extBut _ _ D.i2z.symm (k3.extBut _ _ D.TOz.symm (k2.extBut _ _ D.i1z.symm hz1)))
 have kk:∀c o,c≠z->c≠to->c≠i1->c≠i2->s.heap.get? c=some o->g5.get? c=some o:=fun c o c1 c2 c3 c4 e=>k5.extBut _ _ c2 (k4.extBut _ _ c4 (k3.extBut _ _ c2 (k2.extBut _ _ c3 (k1.extBut _ _ c1 e))))
 have n5:ItA bq g5 i1 l1 1:=((n2.extBut k3.extBut D.TOi1.symm).extBut k4.extBut D.i12).extBut k5.extBut D.TOi1.symm
 have m5:g5.IsTupleIter i2 t2 1:=n4.extBut k5.extBut D.TOi2.symm
 have zl:z<g5.objs.size:=Heap.lt_size z5
 show wpAny (model prog w) _ (Builtin.SmallTypes.ownedTupleHandOut (.ref z) (.ref g5.objs.size) >>= _) _ _ _
 refine wpAny_bind ?_
 unfold Builtin.SmallTypes.ownedTupleHandOut
 have z6:IsZip (g5.push { cls:=.type "tuple",data:=.seq #[x,y] }) z ti to .ellipsis:=Heap.get?_push_of_some _ z5
 refine wpAny_bind (wpAny_setField_rec z6 (by simp) fun g7 z7 k7=>?_)
 replace z7:IsZip g7 z ti to (rawInt g5.objs.size):=z7
 refine wpAny_setField_rec z7 (by simp) fun g8 z8 k8=>?_
 replace z8:IsZip g8 z ti to (rawInt g5.objs.size):=z8
 have up:∀c o,c≠z->g5.get? c=some o->g8.get? c=some o:=fun c o c1 e=>k8.extBut _ _ c1 (k7.extBut _ _ c1 (Heap.get?_push_of_some _ e))
 have t8:IsPair g8 g5.objs.size x y:=k8.extBut _ _ (Nat.ne_of_gt zl) (k7.extBut _ _ (Nat.ne_of_gt zl) (Heap.get?_push_size _ rfl))
 rw[sz] at z8 t8
 refine wpAny_pure ⟨_,rfl,?_⟩
 show Q (.ref g5.objs.size) _
 rw[sz]
 exact hQ g8 ⟨z8,up _ _ D.TIz (kk _ _ D.TIz D.TITO D.TIi1 D.TIi2 hTI),⟨x,y,up _ _ D.TOz o5⟩,Ha n5 fun o e=>up _ o D.i1z e,Cw m5 fun o e=>up _ o D.i2z e⟩ t8 fun c o c1 c2 c3 c4 e=>up c o c1 (kk c o c1 c2 c3 c4 e)
theorem Oc{z ti to i1 i2 l1 t2:Addr}{xs:Array Value}{Q:Fin->Shared->Prop}(hh:A.handled=none)(D:ZipApart z ti to i1 i2 l1 t2)(Z:ZipL bq s.heap z ti to i1 i2 l1 t2 0 .none (.bool false))(l1':SqA bq s.heap l1 xs)(hx:xs[0]?=none)
  (hE:∀g e,(∀c o,c≠z->c≠to->c≠i1->c≠i2->s.heap.get? c=some o->g.get? c=some o)->(∃o,g.get? e=some o/\o.cls=.type "StopIteration")->E (.ref e) { s with heap:=g }) :
  wpAny (model prog w) A (Builtin.«zip.__next__» ⟨[.ref z],[]⟩) Q E s:=by
 obtain⟨hz,hTI,⟨a,b,hTO⟩,h1,h2⟩:=Z
 have hz:IsZip s.heap z ti to .none:=hz
 show wpAny _ _ (field (.ref z) 2 >>= _) _ _ _
 refine wpAny_bind (wpAny_field hz rfl (x:=.bool false) rfl ?_)
 show wpAny _ _ (field (.ref z) 3 >>= _) _ _ _
 refine wpAny_bind (wpAny_field hz rfl (x:=.ref ti) rfl ?_)
 refine wpAny_bind (wpAny_seqItems hTI rfl ?_)
 show wpAny (model prog w) _ (Builtin.SmallTypes.ownedTupleIsFree (.ref z) >>= _) _ _ _
 refine wpAny_bind ?_
 unfold Builtin.SmallTypes.ownedTupleIsFree
 refine wpAny_bind (wpAny_field hz rfl (x:=.none) rfl (wpAny_pure ?_))
 simp only[if_true]
 refine wpAny_bind (wpAny_rule ?_)
 refine wpAny_bind (wpAny_field hz rfl (x:=.ref to) rfl ?_)
 refine wpAny_bind (wpAny_setField_rec hz (by simp) fun g1 hz1 k1=>?_)
 replace hz1:IsZip g1 z ti to .ellipsis:=hz1
 refine wpAny_bind ?_
 simp only[List.zipIdx_cons,List.zipIdx_nil,List.forIn_cons,List.forIn_nil]
 refine wpAny_bind (wpAny_bind (wpAny_onRaise ?_))
 show wpAny (model prog w) _ (Builtin.SmallTypes.nextOf (.ref i1) >>= _) _ _ _
 refine wpAny_bind (Ch hh (h1.extBut k1.extBut D.i1z) (l1'.extBut k1.extBut D.l1z) hx fun g2 e k2 he=>?_)
 obtain⟨oe,hoe,hce⟩:=he
 have z2:IsZip g2 z ti to .ellipsis:=k2 _ _ D.i1z.symm hz1
 have hez:e≠z:=fun q=>by subst q;rw[z2] at hoe;cases hoe;simp at hce
 refine wpAny_setField_rec z2 (by simp) fun g3 _ k3=>hE g3 e (fun c o c1 _ c3 _ q=>k3.extBut _ _ c1 (k2 _ _ c3 (k1.extBut _ _ c1 q))) ⟨oe,k3.extBut _ _ hez hoe,hce⟩
theorem Qa{z ti to i1 i2 l1 t2 p:Addr}{bf:Bool}{op:Obj}{i:Nat}{xs:Array Value}{Q:Fin->Shared->Prop}(hh:A.handled=none)(D:ZipApart z ti to i1 i2 l1 t2)(Z:ZipL bq s.heap z ti to i1 i2 l1 t2 i (rawInt (p:Nat)) (.bool bf))(hp:s.heap.get? p=some op)(l1':SqA bq s.heap l1 xs)(hx:xs[i]?=none)
  (hE:∀g e,(∀c o,c≠z->c≠to->c≠i1->c≠i2->s.heap.get? c=some o->g.get? c=some o)->(∃o,g.get? e=some o/\o.cls=.type "StopIteration")->E (.ref e) { s with heap:=g }) :
  wpAny (model prog w) A (Builtin.«zip.__next__» ⟨[.ref z],[]⟩) Q E s:=by
 obtain⟨hz,hTI,⟨a,b,hTO⟩,h1,h2⟩:=Z
 show wpAny _ _ (field (.ref z) 2 >>= _) _ _ _
 refine wpAny_bind (wpAny_field hz rfl (x:=.bool false) rfl ?_)
 show wpAny _ _ (field (.ref z) 3 >>= _) _ _ _
 refine wpAny_bind (wpAny_field hz rfl (x:=.ref ti) rfl ?_)
 refine wpAny_bind (wpAny_seqItems hTI rfl ?_)
 show wpAny (model prog w) _ (Builtin.SmallTypes.ownedTupleIsFree (.ref z) >>= _) _ _ _
 refine wpAny_bind ?_
 unfold Builtin.SmallTypes.ownedTupleIsFree
 refine wpAny_bind (wpAny_field hz rfl (x:=rawInt p) rfl ?_)
 show wpAny _ _ (loadIfAlive ((p:Nat):Int).toNat >>= _) _ _ _
 rw[Int.toNat_natCast]
 refine wpAny_bind (PySem.W.kdx_alive hp ?_)
 rw[if_neg (show ¬ ((some op).isNone=true) from Bool.false_ne_true)]
 refine wpAny_bind (wpAny_field hz rfl (x:=.bool bf) rfl ?_)
 cases bf
 ·show wpAny _ _ (setField (.ref z) 1 (.bool true) >>= _) _ _ _
  refine wpAny_bind (wpAny_setField_rec hz (by simp) fun g1 z1 k1=>wpAny_pure ?_)
  rw[if_neg Bool.false_ne_true]
  dsimp only
  rw[<-Array.forIn_toList]
  simp only[List.forIn_cons,List.forIn_nil]
  refine wpAny_bind (wpAny_bind (wpAny_bind (wpAny_holding ?_)))
  show wpAny (model prog w) _ (Builtin.SmallTypes.nextOf (.ref i1) >>= _) _ _ _
  exact wpAny_bind (Ch hh (h1.extBut k1.extBut D.i1z) (l1'.extBut k1.extBut D.l1z) hx fun g2 e k2 he=>hE g2 e (fun c o c1 _ c3 _ q=>k2 _ _ c3 (k1.extBut _ _ c1 q)) he)
 ·refine wpAny_pure ?_
  rw[if_neg Bool.false_ne_true]
  dsimp only
  rw[<-Array.forIn_toList]
  simp only[List.forIn_cons,List.forIn_nil]
  refine wpAny_bind (wpAny_bind (wpAny_bind (wpAny_holding ?_)))
  show wpAny (model prog w) _ (Builtin.SmallTypes.nextOf (.ref i1) >>= _) _ _ _
  exact wpAny_bind (Ch hh h1 l1' hx fun g2 e k2 he=>hE g2 e (fun c o _ _ c3 _ q=>k2 _ _ c3 q) he)
theorem Ef{z:Addr}{Q:Option Value->Shared->Prop}(ty:s.TypeIs (.ref z) "zip")(h:wpAny (model prog w) A.in1 (Builtin.«zip.__next__» ⟨[.ref z],[]⟩) (fun fin s'=>∃v,fin=.done (.ret v)/\Q (some v) s') (fun _ _=>False) s):wpAny (model prog w) A (pyNext (.ref z)) Q E s:=by
 unfold pyNext
 refine wpAny_bind (wpAny_attempt (wpAny_callSpecial?_slot (name:=Str.ofString "__next__") ty F.slot_zip_next (wpAny_call_entry F.slot_zip_next ty F.entry_zip_next ?_ (F.args_zip_next_1 _))))
 exact wpAny_mono h (fun fin s' ⟨v,e,q⟩=>⟨v,e,wpAny_pure q⟩) fun _ _ z=>z.elim
theorem E4{z:Addr}{Q:Option Value->Shared->Prop}(ty:s.TypeIs (.ref z) "zip")(h:wpAny (model prog w) A.in1 (Builtin.«zip.__next__» ⟨[.ref z],[]⟩) (fun _ _=>False) (fun e s'=>∃a o,e=.ref a/\s'.heap.get? a=some o/\o.cls=.type "StopIteration"/\Q none s') s):wpAny (model prog w) A (pyNext (.ref z)) Q E s:=by
 unfold pyNext
 refine wpAny_bind (wpAny_attempt (wpAny_callSpecial?_slot (name:=Str.ofString "__next__") ty F.slot_zip_next (wpAny_call_entry F.slot_zip_next ty F.entry_zip_next ?_ (F.args_zip_next_1 _))))
 refine wpAny_mono h (fun _ _ z=>z.elim) fun e s' ⟨a,o,ee,ho,hc,q⟩=>?_
 subst ee
 refine wpAny_bind (wpAny_isInstance (T:="StopIteration") (b:=true) ⟨o,ho,hc⟩ isSubtype_stop ?_)
 exact wpAny_pure q
end
section
variable{prog:Program}{w:World}{K:Type}[DecidableEq K]{knd:KeyKind prog w K}{A:Around}{E:Value->Shared->Prop}{s:Shared}
def ZipS(bq:Bool)(h:Heap)(z ti to i1 i2 l t d:Addr)(i:Nat):Prop:=(i=0/\ZipL bq h z ti to i1 i2 l t 0 .none (.bool false))\/∃(p:Addr) (bf:Bool) (op:Obj),ZipL bq h z ti to i1 i2 l t i (rawInt (p:Nat)) (.bool bf)/\h.get? p=some op/\p≠z/\p≠to/\p≠i1/\p≠i2/\p≠d
theorem ZipS.ty{z ti to i1 i2 l t d:Addr}{i:Nat}(h:ZipS bq s.heap z ti to i1 i2 l t d i):s.TypeIs (.ref z) "zip":=by
 rcases h with⟨_,Z⟩|⟨p,bf,op,Z,_⟩
 ·exact⟨_,Z.z,rfl⟩
 ·exact⟨_,Z.z,rfl⟩
theorem Oo{z ti to i1 i2 l t d:Addr}{i:Nat}{xs ys:Array Value}{x y:Value}{Q:Option Value->Shared->Prop}(D:ZipApart z ti to i1 i2 l t)(nd:d<s.heap.objs.size)(Z:ZipS bq s.heap z ti to i1 i2 l t d i)(l1:SqA bq s.heap l xs)(l2:s.heap.IsTuple t ys)(hx:xs[i]?=some x)(hy:ys[i]?=some y)
  (hQ:∀g,ZipS bq g z ti to i1 i2 l t d (i+1)->IsPair g s.heap.objs.size x y->(∀c o,c≠z->c≠to->c≠i1->c≠i2->s.heap.get? c=some o->g.get? c=some o)->Q (some (.ref s.heap.objs.size)) { s with heap:=g }) :
  wpAny (model prog w) A (pyNext (.ref z)) Q E s:=by
 refine Ef Z.ty ?_
 rcases Z with⟨rfl,Z⟩|⟨p,bf,op,Z,hp,p1,p2,p3,p4,p5⟩
 ·have lz:z<s.heap.objs.size:=Heap.lt_size Z.z
  have lo:to<s.heap.objs.size:=by obtain⟨a,b,e⟩:=Z.to;exact Heap.lt_size e
  have l1':i1<s.heap.objs.size:=by obtain⟨o,e⟩:=Z.i1.at;exact Heap.lt_size e
  have l2':i2<s.heap.objs.size:=by obtain⟨o,e,_⟩:=Z.i2;exact Heap.lt_size e
  exact Kf D Z l1 l2 hx hy fun g Zg pr kk=>hQ g (.inr ⟨_,_,_,Zg,pr,Nat.ne_of_gt lz,Nat.ne_of_gt lo,Nat.ne_of_gt l1',Nat.ne_of_gt l2',Nat.ne_of_gt nd⟩) pr kk
 ·exact Ms D Z hp l1 l2 hx hy fun g Zg pr kk=>hQ g (.inr ⟨p,_,op,Zg,kk p op p1 p3 p4 hp,p1,p2,p3,p4,p5⟩) pr fun c o c1 _ c3 c4 e=>kk c o c1 c3 c4 e
theorem O8{z ti to i1 i2 l t d:Addr}{i:Nat}{xs:Array Value}{Q:Option Value->Shared->Prop}(hh:A.handled=none)(D:ZipApart z ti to i1 i2 l t)(Z:ZipS bq s.heap z ti to i1 i2 l t d i)(l1:SqA bq s.heap l xs)(hx:xs[i]?=none)
  (hQ:∀g,(∀c o,c≠z->c≠to->c≠i1->c≠i2->s.heap.get? c=some o->g.get? c=some o)->Q none { s with heap:=g }):wpAny (model prog w) A (pyNext (.ref z)) Q E s:=by
 refine E4 Z.ty ?_
 rcases Z with⟨rfl,Z⟩|⟨p,bf,op,Z,hp,_⟩
 ·exact Oc hh D Z l1 hx fun g e kk ⟨o,ho,hc⟩=>⟨e,o,rfl,ho,hc,hQ g kk⟩
 ·exact Qa hh D Z hp l1 hx fun g e kk ⟨o,ho,hc⟩=>⟨e,o,rfl,ho,hc,hQ g kk⟩
theorem ZipS.keep{h h':Heap}{z ti to i1 i2 l t d:Addr}{i:Nat}(D:d≠z/\d≠ti/\d≠to/\d≠i1/\d≠i2)(Z:ZipS bq h z ti to i1 i2 l t d i)(k:∀b o,b≠d->h.get? b=some o->h'.get? b=some o):ZipS bq h' z ti to i1 i2 l t d i:=by
 obtain⟨d1,d2,d3,d4,d5⟩:=D
 have go:∀{f0 f1:Value} {i:Nat},ZipL bq h z ti to i1 i2 l t i f0 f1->ZipL bq h' z ti to i1 i2 l t i f0 f1:=fun Z=>by
  obtain⟨a,b,e⟩:=Z.to
  exact⟨k _ _ d1.symm Z.z,k _ _ d2.symm Z.ti,⟨a,b,k _ _ d3.symm e⟩,Ha Z.i1 fun o e=>k _ o d4.symm e,Cw Z.i2 fun o e=>k _ o d5.symm e⟩
 rcases Z with⟨rfl,Z⟩|⟨p,bf,op,Z,hp,p1,p2,p3,p4,p5⟩
 ·exact .inl ⟨rfl,go Z⟩
 ·exact .inr ⟨p,bf,op,go Z,k _ _ p5 hp,p1,p2,p3,p4,p5⟩
theorem Hi{z ti to i1 i2 l t d:Addr}{xs ys:Array Value}(hA:A.handled=none)(D:ZipApart z ti to i1 i2 l t)(Dd:d≠z/\d≠ti/\d≠to/\d≠i1/\d≠i2)(dl:l≠d)(dt:t≠d):∀(more:List (K×Value)) (i:Nat) (kvs:List (K×Value)) (s:Shared) (tk:Tok) (R:Result->Shared->Prop),
  xs.size=i+more.length->(∀j k v,more[j]?=some (k,v)->∃key,xs[i+j]?=some key/\knd.is k key=true/\ys[i+j]?=some v) →
  ZipS bq s.heap z ti to i1 i2 l t d i->SqA bq s.heap l xs->s.heap.IsTuple t ys->s.heap.DictOf knd d kvs->kvs.length+more.length<=sizeLine →
  (∀h' tk',h'.DictOf knd d (merged kvs more)->(∀b o,b≠d->b≠z->b≠to->b≠i1->b≠i2->s.heap.get? b=some o->h'.get? b=some o)->R (.ok (.ret .none)) { s with heap:=h',toks:=tk' }) →
  codeAny (model prog w) A (.builtin "dict.update.loop" ⟨[.ref d,.ref z,.int i tk,.none],[]⟩) R s:=by
 intro more
 induction more with
 |nil =>
  intro i kvs s tk R hn hm Z hl ht hd hz hq
  refine codeAny_builtin Bt ?_
  unfold Builtin.«dict.update.loop»
  refine wpAny_bind (O8 hA D Z hl (by rw[Array.getElem?_eq_none];simp at hn;omega) fun g kk=>?_)
  show wpAny _ _ (Builtin.Dict.addKeywords d [] >>= fun _=>ret .none) _ _ _
  refine wpAny_bind (wpAny_pure (wpAny_pure ?_))
  obtain⟨o,es,ep,ho,r⟩:=hd
  exact hq g s.toks ⟨o,es,ep,kk d o Dd.1 Dd.2.2.1 Dd.2.2.2.1 Dd.2.2.2.2 ho,r⟩ fun b o _ b1 b2 b3 b4 e=>kk b o b1 b2 b3 b4 e
 |cons kv more ih =>
  obtain⟨k,v⟩:=kv
  intro i kvs s tk R hn hm Z hl ht hd hz hq
  obtain⟨key,hx,hkey,hy⟩:=hm 0 k v rfl
  have nd:d<s.heap.objs.size:=by obtain⟨o,es,ep,ho,r⟩:=hd;exact Heap.lt_size ho
  refine codeAny_builtin Bt ?_
  unfold Builtin.«dict.update.loop»
  refine wpAny_bind (Oo D nd Z hl ht hx hy fun g Zg pr kk=>?_)
  have hd1:g.DictOf knd d kvs:=by
   obtain⟨o,es,ep,ho,r⟩:=hd
   exact⟨o,es,ep,kk d o Dd.1 Dd.2.2.1 Dd.2.2.2.1 Dd.2.2.2.2 ho,r⟩
  show wpAny _ _ (holding [Value.ref s.heap.objs.size] _ >>= fun _=>again _) _ _ _
  refine wpAny_bind (wpAny_holding ?_)
  refine wpAny_bind (wpAny_tryCatch ?_)
  unfold Builtin.Dict.pairItems
  refine wpAny_bind (wpAny_typeOf (T:="tuple") ⟨_,pr,rfl⟩ ?_)
  rw[if_pos (by decide)]
  refine wpAny_bind (wpAny_seqItems pr rfl (wpAny_pure ?_))
  show wpAny _ _ (holding [key,v] (dictSet d key v)) _ _ _
  simp only[List.length_cons] at hz hn
  refine wpAny_holding (wpAny_dictSet_pairs hkey hd1 (fun h2 hd2 sb2=>?_) (by omega))
  refine wpAny_pure ⟨Code.quiet_builtin _ (by decide +kernel),?_⟩
  have keep2:∀b o,b≠d->b≠z->b≠to->b≠i1->b≠i2->s.heap.get? b=some o->h2.get? b=some o:=fun b o hb b1 b2 b3 b4 e=>(sb2.2 b hb).trans (kk b o b1 b2 b3 b4 e)
  have ei:rawInt ((i:Int)+1)=.int ((i+1:Nat):Int) 0:=rfl
  rw[ei]
  refine ih (i+1) (stored kvs k v) _ 0 R (by omega) (fun j k' v' e=>?_) (Zg.keep Dd fun b o hb e=>(sb2.2 b hb).trans e) ?_ ?_ hd2 ?_ fun h' tk' hd' kp=>?_
  ·have:=hm (j+1) k' v' (by simpa using e)
   rw[show i+1+j=i+(j+1) by omega]
   exact this
  ·exact hl.imp fun o e=>keep2 l o dl D.l1z D.l1TO D.l1i1 D.l1i2 e
  ·obtain⟨o,e,r⟩:=ht
   exact⟨o,keep2 t o dt D.l2z D.l2TO D.l2i1 D.l2i2 e,r⟩
  ·have:(stored kvs k v).length<=kvs.length+1:=by
    unfold stored
    split <;> simp
   omega
  ·exact hq h' tk' hd' fun b o hb b1 b2 b3 b4 e=>kp b o hb b1 b2 b3 b4 (keep2 b o hb b1 b2 b3 b4 e)
end
end L2
namespace PySem
open Sem (wp)
section
variable{bq:Bool}{prog:Program}{w:World}{A:Around}{E:Value->Shared->Prop}{h:Heap}{g:Array GenState}{d:Drawn}{t:Nat}{os:OsState}{a:Addr}{o:Obj}
theorem Ix:typeLookup (.type "zip") "keys"=pure none:=am_miss_of_fast (by decide +kernel)
theorem Nb:typeLookup (.type "zip") "__getattr__"=pure none:=am_miss_of_fast (by decide +kernel)
theorem G7:entryFor table "zip.__getattribute__"=some Builtin.«object.__getattribute__» :=
 entryFor_alias (id':="object.__getattribute__") (by kernel_rfl) (by first|rfl|decide +kernel) (by decide +kernel) (by kernel_rfl)
theorem Fs{tk:Tok}{fs:Array Value}{sl:Array (Option Value)}{Q:Fin->Shared->Prop}(hx:h.get? a=some ⟨.type "zip",none,.fields fs,sl⟩)(hA:A.handled=none)
  (hq:∀h' tk e,Heap.NewAttrErr h h' e (.ref a) "keys"->E (.ref e) ⟨h',g,d,tk,os⟩) :
  wpAny (model prog w) A (Builtin.«object.__getattribute__» ⟨[.ref a,.str "keys" tk],[]⟩) Q E ⟨h,g,d,t,os⟩:=by
 have hT:(⟨h,g,d,t,os⟩:Shared).TypeIs (.ref a) "zip":=⟨_,hx,rfl⟩
 have f4:=Ix
 unfold Builtin.«object.__getattribute__»
 repeat (any_goals (first|assumption|wp_step))
 exact wpAny_raiseAttrError hA hq (attrMsg_fits (by decide +kernel) (by decide +kernel))
theorem F6{tk:Tok}{fs:Array Value}{sl:Array (Option Value)}{R:Result->Shared->Prop}(hx:h.get? a=some ⟨.type "zip",none,.fields fs,sl⟩)(hA:A.handled=none)
  (hq:∀h' tk e,Heap.NewAttrErr h h' e (.ref a) "keys"->R (.error (.ref e)) ⟨h',g,d,tk,os⟩) :
  codeAny (model prog w) A (.call (.builtin "zip.__getattribute__") ⟨[.ref a,.str "keys" tk],[]⟩) R ⟨h,g,d,t,os⟩ :=
 codeAny_call_builtin F.slot_zip_getattribute.plain G7 (F.slot_zip_getattribute.check _ _ _ _ _ _ _ _ (show (⟨h,g,d,t,os⟩:Shared).TypeIs (.ref a) "zip" from⟨_,hx,rfl⟩) (F.args_zip_getattribute_2 _ _) (Fs hx hA hq))
theorem F8{fs:Array Value}{sl:Array (Option Value)}{Q:Option Value->Shared->Prop}(hx:h.get? a=some ⟨.type "zip",none,.fields fs,sl⟩)(hA:A.handled=none)
  (hq:∀h' tk e,Heap.NewAttrErr h h' e (.ref a) "keys"->Q none ⟨h',g,d,tk,os⟩):wpAny (model prog w) A (getAttr? (.ref a) "keys") Q E ⟨h,g,d,t,os⟩:=by
 have hT:(⟨h,g,d,t,os⟩:Shared).TypeIs (.ref a) "zip":=⟨_,hx,rfl⟩
 have f1:=sub_AttributeError
 have f2:=F.slot_zip_getattribute.lookup
 have f3:=F.slot_zip_getattribute.bind (.ref a)
 have f5:=Nb
 unfold getAttr? getAttrBy? getAttrBy
 repeat (any_goals (first|assumption|wp_step))
 refine F6 hx hA fun h' tk' e hx'=>?_
 obtain⟨t',u',he⟩:=hx'.there
 show wpAny _ _ (getattributeRaised _ _ _ _ _ _ _) _ _ _
 unfold getattributeRaised
 repeat (any_goals (first|assumption|wp_step))
 exact hq _ _ _ hx'
end
end PySem
namespace L2
open PySem PySem.Spec PyProof.Rows
section
variable{prog:Program}{w:World}{K:Type}[DecidableEq K]{knd:KeyKind prog w K}{A:Around}{E:Value->Shared->Prop}{s:Shared}
theorem F7{z ti to i1 i2 l t:Addr}{xs ys:Array Value}{more:List (K×Value)}{Q:Value->Shared->Prop}(hA:A.handled=none)(D:ZipApart z ti to i1 i2 l t)(Z:ZipL bq s.heap z ti to i1 i2 l t 0 .none (.bool false))(hl:SqA bq s.heap l xs)(ht:s.heap.IsTuple t ys)
  (hn:xs.size=more.length) (hm:∀(j:Nat) k v,more[j]?=some (k,v)->∃key,xs[j]?=some key/\knd.is k key=true/\ys[j]?=some v) (hsz:more.length<=sizeLine)
  (h:∀h' tk,(∀b o,b≠z->b≠to->b≠i1->b≠i2->s.heap.get? b=some o->h'.get? b=some o)->h'.DictOf knd s.heap.objs.size (merged [] more)->Q (.ref s.heap.objs.size) { s with heap:=h',toks:=tk }) :
  wpAny (model prog w) A (call (.type "dict") [.ref z]) Q E s:=by
 refine callType_codes (Q₁:=fun obj s₁=>obj=.ref s.heap.objs.size/\s₁={ s with heap:=s.heap.push { cls:=.type "dict",data:=.dict #[] } }) F.kt_called_dict (F.kt_typeCall_dict_1 _) F.entry_dict_init (kt_code_dict_new _ ⟨rfl,rfl⟩) ?_
 rintro obj s₁ ⟨rfl,rfl⟩
 have hnew:(s.heap.push { cls:=.type "dict",data:=.dict #[] }).DictOf knd s.heap.objs.size []:=Heap.DictOf.new s.heap
 have hz0:=Heap.get?_push_of_some { cls:=.type "dict",data:=.dict #[] } Z.z
 refine⟨hnew.typeIs,F.args_dict_init_2 _ _,?_⟩
 unfold Builtin.«dict.__init__»
 refine wpAny_bind ?_
 unfold Builtin.Dict.selfAndRest
 refine wpAny_bind (wpAny_notOrdered_dict hnew.typeIs ?_)
 show wpAny _ _ (pure (s.heap.objs.size,[Value.ref z])) _ _ _
 refine wpAny_pure ?_
 show wpAny _ _ (Builtin.Dict.updateFrom "dict.__init__" s.heap.objs.size (.ref z) [] .none) _ _ _
 unfold Builtin.Dict.updateFrom
 refine wpAny_bind (wpAny_typeOf (T:="zip") ⟨_,hz0,rfl⟩ ?_)
 rw[if_pos (by decide)]
 refine wpAny_bind (F8 hz0 hA fun h1 tk1 e1 ne1=>?_)
 rw[if_pos (by rfl)]
 refine wpAny_bind (wpAny_rule ?_)
 have k0:∀b o,s.heap.get? b=some o->h1.get? b=some o:=fun b o e=>ne1.keeps b o (Heap.get?_push_of_some _ e)
 have Z1:ZipL bq h1 z ti to i1 i2 l t 0 .none (.bool false):=by
  obtain⟨a,b,e⟩:=Z.to
  exact⟨k0 _ _ Z.z,k0 _ _ Z.ti,⟨a,b,k0 _ _ e⟩,Ha Z.i1 fun o e=>k0 _ o e,Cw Z.i2 fun o e=>k0 _ o e⟩
 refine wpAny_bind (wpAny_pyIter_zip (show IsZip h1 z ti to .none from Z1.z) ?_)
 have lt:∀{b:Addr} {o:Obj},s.heap.get? b=some o->s.heap.objs.size≠b:=fun e=>Nat.ne_of_gt (Heap.lt_size e)
 refine wpAny_pure ⟨Code.quiet_builtin _ (by decide +kernel),?_⟩
 obtain⟨oa,ob,hto⟩:=Z.to
 obtain⟨o1,e1'⟩:=Z.i1.at
 obtain⟨o2,e2',_⟩:=id Z.i2
 obtain⟨o3,e3'⟩:=hl.at
 obtain⟨o4,e4',r4⟩:=ht
 refine Hi (knd:=knd) (A:=A.in1) (d:=s.heap.objs.size) hA D ⟨lt Z.z,lt Z.ti,lt hto,lt e1',lt e2'⟩ (lt e3').symm (lt e4').symm more 0 [] _ 0 _ (by omega) (fun j k v e=>by rw[Nat.zero_add];exact hm j k v e) (.inl ⟨rfl,Z1⟩) (hl.imp fun o e=>k0 _ _ e) ⟨o4,k0 _ _ e4',r4⟩ ?_ (by simpa using hsz) fun h' tk' hd' kp=>?_
 ·obtain⟨o,es,ep,ho,r⟩:=hnew
  exact⟨o,es,ep,ne1.keeps _ _ ho,r⟩
 ·exact⟨rfl,h h' tk' (fun b o b1 b2 b3 b4 e=>kp b o (lt e).symm b1 b2 b3 b4 (k0 b o e)) hd'⟩
end
end L2
end
section
namespace L2
open PySem PySem.Spec PyProof.Rows
section
variable{prog:Program}{w:World}{A:Around}{E:Value->Shared->Prop}{s:Shared}
abbrev zlH1(h:Heap)(l1:Addr):Heap:=h.push { cls:=.type "list_iterator",data:=.fields #[.ref l1,.int 0 0] }
abbrev zlH2(h:Heap)(l1 l2:Addr):Heap:=(zlH1 h l1).push { cls:=.type "tuple_iterator",data:=.fields #[.ref l2,.int 0 0] }
abbrev zlH3(h:Heap)(l1 l2:Addr):Heap:=(zlH2 h l1 l2).push { cls:=.type "tuple",data:=.seq #[.ref h.objs.size,.ref (zlH1 h l1).objs.size] }
abbrev zlH4(h:Heap)(l1 l2:Addr):Heap:=(zlH3 h l1 l2).push { cls:=.type "tuple",data:=.seq #[.none,.none] }
abbrev M6(h:Heap)(l1 l2:Addr):Heap:=(zlH4 h l1 l2).push { cls:=.type "zip",data:=.fields #[.none,.bool false,.bool false,.ref (zlH2 h l1 l2).objs.size,.ref (zlH3 h l1 l2).objs.size] }
theorem Ku(l1 l2:Addr)(xs ys:Array Value):Meets (Builtin.«zip.__new__» ⟨[.type "zip",.ref l1,.ref l2],[]⟩) (fun _ R s=>s.heap.IsList l1 xs/\s.heap.IsTuple l2 ys/\R (.ok (.ret (.ref (zlH4 s.heap l1 l2).objs.size))) { s with heap:=M6 s.heap l1 l2 }) :=
 .of_wp fun prog w A R s h=>by
  obtain⟨hp,g,d,tk,os⟩:=s;obtain⟨q1,q2,h⟩:=h
  have hsub:=sub_zip
  have L1:Heap.IsList (Shared.heap ⟨hp,g,d,tk,os⟩) l1 xs:=q1
  have L2:Heap.IsTuple (Shared.heap ⟨hp.push { cls:=.type "list_iterator",data:=.fields #[.ref l1,.int 0 0] },g,d,tk,os⟩) l2 ys:=Heap.IsTuple.push q2 _
  wp_walk using wpAny_pyIter_list L1,wpAny_pyIter_tuple L2
  exact⟨_,rfl,h⟩
theorem Ob{l1 l2:Addr}{xs ys:Array Value}{Q:Value->Shared->Prop}(q1:s.heap.IsList l1 xs)(q2:s.heap.IsTuple l2 ys)
  (h:∀g,ZipL false g (s.heap.objs.size+4) (s.heap.objs.size+2) (s.heap.objs.size+3) s.heap.objs.size (s.heap.objs.size+1) l1 l2 0 .none (.bool false)->(∀c o,s.heap.get? c=some o->g.get? c=some o)->Q (.ref (s.heap.objs.size+4)) { s with heap:=g }) :
  wpAny (model prog w) A (call (.type "zip") [.ref l1,.ref l2]) Q E s:=by
 refine callType_new F.called_zip (by decide) (F.typeCall_zip_2 _ _) (F.newCall_zip_2 _ _) (fun obj=>F.args_object_init_3 obj _ _) F.entry_zip_new (Ku l1 l2 xs ys) ⟨q1,q2,?_⟩
 have z1:(zlH1 s.heap l1).objs.size=s.heap.objs.size+1:=Heap.size_push ..
 have z2:(zlH2 s.heap l1 l2).objs.size=s.heap.objs.size+2:=by rw[Heap.size_push,z1]
 have z3:(zlH3 s.heap l1 l2).objs.size=s.heap.objs.size+3:=by rw[Heap.size_push,z2]
 have z4:(zlH4 s.heap l1 l2).objs.size=s.heap.objs.size+4:=by rw[Heap.size_push,z3]
 have g5:(M6 s.heap l1 l2).get? (zlH4 s.heap l1 l2).objs.size=some _:=Heap.get?_push_size _ rfl
 have g4:(M6 s.heap l1 l2).get? (zlH3 s.heap l1 l2).objs.size=some _:=Heap.get?_push_of_some _ (Heap.get?_push_size _ rfl)
 have g3:(M6 s.heap l1 l2).get? (zlH2 s.heap l1 l2).objs.size=some _:=Heap.get?_push_of_some _ (Heap.get?_push_of_some _ (Heap.get?_push_size _ rfl))
 have g2:(M6 s.heap l1 l2).get? (zlH1 s.heap l1).objs.size=some _:=Heap.get?_push_of_some _ (Heap.get?_push_of_some _ (Heap.get?_push_of_some _ (Heap.get?_push_size _ rfl)))
 have g1:(M6 s.heap l1 l2).get? s.heap.objs.size=some _:=Heap.get?_push_of_some _ (Heap.get?_push_of_some _ (Heap.get?_push_of_some _ (Heap.get?_push_of_some _ (Heap.get?_push_size _ rfl))))
 show _/\_
 rw[z2,z3,z4] at g5
 rw[z1,z2] at g3
 rw[z3] at g4
 rw[z1] at g2
 rw[z4]
 exact⟨⟨_,g5,rfl⟩,h _ ⟨g5,g3,⟨_,_,g4⟩,⟨_,g1,rfl,rfl⟩,⟨_,g2,rfl,rfl⟩⟩ fun c o q=>Heap.get?_push_of_some _ (Heap.get?_push_of_some _ (Heap.get?_push_of_some _ (Heap.get?_push_of_some _ (Heap.get?_push_of_some _ q))))⟩
theorem Nk{kk:Bool}{l1 l2:Addr}{xs ys:Array Value}{Q:Value->Shared->Prop}(q1:SqA kk s.heap l1 xs)(q2:s.heap.IsTuple l2 ys)
  (h:∀g,ZipL kk g (s.heap.objs.size+4) (s.heap.objs.size+2) (s.heap.objs.size+3) s.heap.objs.size (s.heap.objs.size+1) l1 l2 0 .none (.bool false)->(∀c o,s.heap.get? c=some o->g.get? c=some o)->Q (.ref (s.heap.objs.size+4)) { s with heap:=g }) :
  wpAny (model prog w) A (call (.type "zip") [.ref l1,.ref l2]) Q E s:=by
 cases kk with
 |false=>exact Ob q1 q2 h
 |true=>exact Ol q1 q2 fun g Z k=>h g ⟨Z.z,Z.ti,Z.to,Z.i1,Z.i2⟩ k
end
section
variable{X:Cx}
def SqV(k:Bool)(K:PySem.W.Frag)(H:Hp)(a:Addr)(xs:List V):Prop:=match k with
 |false=>SqL K H a xs
 |true=>SqT K H a xs
def Y3(kk:Bool)(K:PySem.W.Frag)(ta:TA):TE:=fun σ H Q=>ta σ H fun vs H1=>∃(a b:Addr) (ks:List Str) (ys:List V),vs=[.ref a,.ref b]/\SqV kk K H1 a (ks.map V.str)/\SqT K H1 b ys/\ks.length=ys.length/\ks.length<=1000 ∧
 ∀p,H1 p=none->Q (.ref p) (upd H1 p (.dK (Di [] ((ks.map Sum.inr).zip ys))))
theorem Qz{kk:Bool}{a b:Expr}{ta:TA}{p q pos pos':Pos}(hc:X.calm=true)(hg:Gl X "dict")(hm:X.mg "dict"=none)(hgz:Gl X "zip")(hmz:X.mg "zip"=none)(hv:bootBuiltins "dict"=some (.type "dict"))(hvz:bootBuiltins "zip"=some (.type "zip"))(ha:PA X [a,b] ta)
  (hs:starEach [a,b] X.env=[(false,eval a X.env),(false,eval b X.env)]:=by rfl) (hs2:starEach [b] X.env=[(false,eval b X.env)]:=by rfl)
  (hs3:starEach [.Call (.Name "zip" q) [a,b] [] pos'] X.env=(false,eval (.Call (.Name "zip" q) [a,b] [] pos') X.env)::starEach [] X.env:=by rfl) :
  PE X (.Call (.Name "dict" p) [.Call (.Name "zip" q) [a,b] [] pos'] [] pos) (Y3 kk X.K ta):=by
 intro pins s σ H Q I h
 refine wpAny_Call_Name_kw (Br I hg hm hv ?_)
 refine PyProof.Rows.callWith_type1 ?_ hs3 rfl
 rw[hs3]
 show wpAny _ _ (spliced ((false,eval (.Call (.Name "zip" q) [a,b] [] pos') X.env)::backTo pos (starEach [] X.env))) _ _ s
 refine Calls.spliced_cons ?_
 refine Call_ (Br I hgz hmz hvz (PyProof.Rows.callWith_type1 (thn (ha pos' pins s σ H _ I h) fun us s1 h1=>?_) (by rw[hs,hs2]) (by rw[hs2];rfl)))
 obtain⟨vs,H1,I1,r1,q1⟩:=h1
 obtain⟨c,d,ks,ys,rfl,q,q',hn,hl,hR⟩:=q1
 obtain⟨u,v,rfl,ru,rv⟩:=r1.two
 cases ru
 cases rv
 obtain⟨js,r',p2,_⟩:=I1.tuple q'
 obtain⟨is,r,p1⟩:∃is,Vals (ks.map V.str) is/\SqA kk s1.heap c is.toArray:=by
  cases kk with
  |false=>obtain⟨is,r,pl,_⟩:=I1.list q;exact⟨is,r,pl.isList⟩
  |true=>obtain⟨is,r,pl,_⟩:=I1.tuple q;exact⟨is,r,pl⟩
 have lt:∀{x:Addr} {o:Obj},s1.heap.get? x=some o->x<s1.heap.objs.size:=fun z=>Heap.lt_size z
 have lc:c<s1.heap.objs.size:=by
  cases kk with
  |false=>obtain⟨oc,ec,_⟩:=(show s1.heap.IsList c is.toArray from p1);exact lt ec
  |true=>obtain⟨oc,ec,_⟩:=(show s1.heap.IsTuple c is.toArray from p1);exact lt ec
 obtain⟨od,ed,_⟩:=id p2
 refine Nk (xs:=is.toArray) (ys:=js.toArray) p1 p2 fun g Z kp0=>?_
 refine Calls.spliced_nil ?_
 have e1:is.length=ks.length:=by rw[<-r.length,List.length_map]
 have e2:js.length=ks.length:=by rw[<-r'.length,hn]
 have zl:s1.heap.objs.size+4<g.objs.size:=Heap.lt_size Z.z
 have zg:s1.heap.objs.size<=g.objs.size:=by omega
 have kv:KV ((ks.map Sum.inr).zip ys:List (Key×V)) ((ks.map Sum.inr).zip js):=by
  have go:∀(ks:List Str) (ys:List V) (js:List Value),Vals ys js->KV ((ks.map Sum.inr).zip ys:List (Key×V)) ((ks.map Sum.inr).zip js):=by
   intro ks
   induction ks with
   |nil=>intro ys js _;exact .nil
   |cons k ks ih =>
    intro ys js r
    cases r with
    |nil=>exact .nil
    |cons ra rr=>exact .cons ⟨rfl,ra⟩ (ih _ _ rr)
  exact go ks ys js r'
 refine F7 (knd:=mixKind X.prog X.w) (xs:=is.toArray) (ys:=js.toArray) (more:=(ks.map Sum.inr).zip js) (I1.ok.hd hc) (zipApart_new lc (lt ed)) Z (p1.imp fun o e=>kp0 _ _ e) (p2.imp fun o ⟨e,z⟩=>⟨kp0 _ _ e,z⟩) ?_ (fun j k v e=>?_) ?_ fun h' tk kp dd=>?_
 ·rw[List.size_toArray,List.length_zip,List.length_map];omega
 ·obtain⟨f1,f2⟩:=List.getElem?_zip_eq_some.mp e
  rw[List.getElem?_map] at f1
  cases ek:ks[j]? with
  |none=>rw[ek] at f1;cases f1
  |some z =>
   rw[ek] at f1
   cases f1
   obtain⟨u,hu,ru⟩:=r.get (i:=j) (x:=V.str z) (by rw[List.getElem?_map,ek];rfl)
   exact⟨u,by simpa using hu,Fy (k:=Sum.inr z) ru,by simpa using f2⟩
 ·rw[List.length_zip,List.length_map];exact Nat.le_of_lt (Xo (by omega))
 ·refine⟨.ref g.objs.size,_,I1.laid (t':=tk) (fun b o e=>?_) zg (dk_new ?_ ?_ (kv.merge .nil) dd),rfl,hR _ (I1.hok.fresh zg)⟩
  ·have bl:=lt e
   exact kp b o (Nat.ne_of_lt (Nat.lt_of_lt_of_le bl (Nat.le_add_right _ _))) (Nat.ne_of_lt (Nat.lt_of_lt_of_le bl (Nat.le_add_right _ _))) (Nat.ne_of_lt bl) (Nat.ne_of_lt (Nat.lt_of_lt_of_le bl (Nat.le_add_right _ _))) (kp0 b o e)
  ·have:=Dc ((ks.map Sum.inr).zip ys:List (Key×V)) []
   rw[List.length_nil,List.length_zip,List.length_map] at this
   exact Nat.le_of_lt (Xo (by omega))
  ·exact beq_eq_false_iff_ne.mpr (Ne.symm (Nat.ne_of_lt (Nat.lt_of_lt_of_le I1.big zg)))
end
end L2
end
section
namespace L2
open PySem PySem.Spec PyProof.Rows
theorem F4(t:Addr)(items:Array Value)(n:Nat)(dd:Option Addr)(sl:Array (Option Value))(x:Value)(e:Value->Bool)(j:Nat)(hj:j<items.size)(hit:e items[j]=true)(hno:∀m (hm:m<items.size),m<j->e items[m]=false):
  Meets (Builtin.«tuple.index» ⟨[.ref t,x],[]⟩)
   (fun A R s=>s.heap.get? t=some { cls:=.type "tuple",dict:=dd,data:=.seq items n,slots:=sl }/\(∀y,y∈items->SeqAt.EqAt A.in1 s y x (e y))/\R (.ok (.ret (.int j s.toks))) { s with toks:=s.toks+1 }):=by
 refine .of_wp fun prog w A R s h=>?_
 obtain⟨hl,he,h⟩:=h
 unfold Builtin.«tuple.index»
 simp only[Std.Legacy.Range.forIn_eq_forIn_range']
 obtain⟨hp,g,d,tk,os⟩:=s
 have F:∀(k i:Nat),i+k=items.size->i<=j->∀(Q:Option PySem.Fin×Unit->Shared->Prop) E,Q (some (.done (.ret (.int j tk))),()) ⟨hp,g,d,tk+1,os⟩ →
   wpAny (model prog w) A.in1 (forIn (List.range' i k) ((none,()):Option PySem.Fin×Unit) fun (i:Nat) __s =>
      match items[i]? with
      |some y=>do
       let __do_lift ← eqBool y x
       if __do_lift=true then do
         let __do_lift ← retInt (i:Int)
         pure (ForInStep.done (some __do_lift,()))
        else pure (ForInStep.yield (none,()))
      |x=>pure (ForInStep.yield (none,()))) Q E ⟨hp,g,d,tk,os⟩:=by
  intro k
  induction k with
  |zero=>intro i hk hi;omega
  |succ k ih =>
   intro i hk hi Q E hQ
   have hlt:i<items.size:=by omega
   rw[List.range'_succ,List.forIn_cons]
   have ei:items[i]?=some items[i]:=Array.getElem?_eq_getElem hlt
   simp only[ei]
   refine wpAny_bind (wpAny_bind (he _ (Array.getElem_mem hlt) prog w _ _ ?_))
   by_cases hj':i=j
   ·subst hj'
    rw[if_pos hit]
    refine wpAny_bind ?_
    unfold retInt mkInt
    refine wpAny_bind (wpAny_bind (wpAny_fresh (wpAny_pure (wpAny_pure (wpAny_pure (wpAny_pure hQ))))))
   ·rw[if_neg (by rw[hno i hlt (by omega)];exact Bool.false_ne_true)]
    refine wpAny_pure ?_
    exact ih (i+1) (by omega) (by omega) Q E hQ
 wp_walk using wpAny_loadPart' hl
 exact F _ 0 (by simp[Std.Legacy.Range.size]) (Nat.zero_le _) _ _ (wpAny_pure ⟨_,rfl,h⟩)
section
variable{X:Cx}
def Pt(K:PySem.W.Frag)(tup:Bool):V->List V->Hp->VK->Prop:=fun x vs H Q=>∃(l:Addr) (zs:List Str) (z:Str) (j:Nat),x=.ref l/\vs=[.str z]/\(if tup then SqT K H l (zs.map V.str) else SqL K H l (zs.map V.str))/\zs[j]?=some z/\(∀m,m<j->zs[m]?≠some z)/\Q (.int (j:Int)) H
def Ld(z:Str)(v:Value):Bool:=match v with
 | .str y _=>y==z
 |_=>false
theorem Io{zs:List Str}{us:List Value}(r:Vals (zs.map V.str) us){z:Str}{j:Nat}(hj:zs[j]?=some z)(hm:∀m,m<j->zs[m]?≠some z):∃h:j<us.toArray.size,Ld z us.toArray[j]=true/\∀m (hm:m<us.toArray.size),m<j->Ld z us.toArray[m]=false:=by
 have get:∀m (h:m<us.length),∃y t,us[m]=.str y t/\zs[m]?=some y:=fun m h=>by
  have e:=r.length
  rw[List.length_map] at e
  have hz:zs[m]?=some zs[m]:=List.getElem?_eq_getElem (by omega)
  obtain⟨u,hu,ru⟩:=r.get (i:=m) (x:=V.str zs[m]) (by rw[List.getElem?_map,hz];rfl)
  obtain⟨t,rfl⟩:=ru
  rw[List.getElem?_eq_getElem h] at hu
  exact⟨_,t,Option.some.inj hu,hz⟩
 have hl:j<us.length:=by
  have e:=r.length
  rw[List.length_map] at e
  have:=(List.getElem?_eq_some_iff.mp hj).1
  omega
 refine⟨by simpa using hl,?_,fun m hm' hmj=>?_⟩
 ·obtain⟨y,t,e,ey⟩:=get j hl
  have:us.toArray[j]'(by simpa using hl)=.str y t:=by simpa using e
  rw[this]
  rw[hj] at ey
  cases ey
  exact beq_self_eq_true _
 ·have hm2:m<us.length:=by simpa using hm'
  obtain⟨y,t,e,ey⟩:=get m hm2
  have:us.toArray[m]'hm'=.str y t:=by simpa using e
  rw[this]
  exact beq_eq_false_iff_ne.mpr fun z'=>hm m hmj (by rw[ey,z'])
theorem Mz:MtM X "list.index" (Pt X.K false):=by
 intro pins s σ H x vs v us Q I rx rv h
 obtain⟨l,zs,z,j,rfl,rfl,sq,hj,hm,q⟩:=h
 cases rx
 obtain⟨u,rfl,ru⟩:=rv.one
 obtain⟨tz,rfl⟩:=ru
 obtain⟨its,r,pl,hz⟩:=I.list (show SqL X.K H l (zs.map V.str) from sq)
 obtain⟨o,n,ho,c1,c2,c3⟩:=pl
 obtain⟨oc,od,odt,osl⟩:=o
 cases c1;cases c2;cases c3
 obtain⟨h1,h2,h3⟩:=Io r hj hm
 refine call_meets F.slot_list_index ⟨_,ho,rfl⟩ F.entry_list_index (F.args_list_index_2 _ _) (SeqAt.list_indexAt l its.toArray n _ osl (.str z tz) (Ld z) j h1 ?_ h2 h3) ⟨ho,fun y hy=>?_,?_⟩
 ·have:=(List.getElem?_eq_some_iff.mp hj).1
  rw[List.length_map] at hz
  have:sizeLine<2 ^ 62:=by decide
  omega
 ·obtain⟨x,t,rfl⟩:=Hy r y (by simpa using hy)
  exact SeqAt.EqAt.str_str x t z tz
 ·exact⟨.int _,H,I.tok _,⟨_,rfl⟩,q⟩
theorem Nr:MtM X "tuple.index" (Pt X.K true):=by
 intro pins s σ H x vs v us Q I rx rv h
 obtain⟨l,zs,z,j,rfl,rfl,sq,hj,hm,q⟩:=h
 cases rx
 obtain⟨u,rfl,ru⟩:=rv.one
 obtain⟨tz,rfl⟩:=ru
 obtain⟨its,r,⟨o,ho,c1,n,c3⟩,hz⟩:=I.tuple (show SqT X.K H l (zs.map V.str) from sq)
 obtain⟨oc,od,odt,osl⟩:=o
 cases c1;cases c3
 obtain⟨h1,h2,h3⟩:=Io r hj hm
 refine call_meets F.slot_tuple_index ⟨_,ho,rfl⟩ F.entry_tuple_index (F.args_tuple_index_2 _ _) (F4 l its.toArray n _ osl (.str z tz) (Ld z) j h1 h2 h3) ⟨ho,fun y hy=>?_,?_⟩
 ·obtain⟨x,t,rfl⟩:=Hy r y (by simpa using hy)
  exact SeqAt.EqAt.str_str x t z tz
 ·exact⟨.int _,H,I.tok _,⟨_,rfl⟩,q⟩
end
end L2
end
section
namespace L2
open PySem PySem.Spec PyProof.Rows
end L2
end
section
namespace L2
open PySem PySem.Spec PyProof.Rows
section
variable{X:Cx}
def tKDx(kvs:List (Key×V))(ty:TE):TE:=fun σ H Q=>ty σ H fun y H1=>∃k v,y=kV k/\valV kvs k=some v/\Q v H1
theorem Y0{x:Str}{a:Addr}{kvs:List (Key×V)}{i:Expr}{ty:TE}{p pos:Pos}(hg:Gl X x)(hm:X.mg x=some (.ref a))(kd:KD X.prog X.w X.K a kvs)(hi:PE X i ty)(hs:Nu i)
  (hd:(x==("__debug__":Str))=false:=by decide):PE X (.Subscript (.Name x p) i pos) (tKDx kvs ty):=by
 intro pins s σ H Q I h
 obtain⟨hsm,vs,rel,hdd⟩:=kd
 refine K3 PySem.F.slot_dict_getitem.lookup hs (Da I hg hm (thn (hi pins s σ H _ I h) fun iv s2 ⟨y,H2,I2,ry,k,v,ey,ev,q2⟩=>?_) hd)
 subst ey
 have dd2:=hdd s2.heap I2.kIn
 obtain⟨w',hw,rw'⟩:=RelO.some_of (v:=v) (o:=valueAt vs k) (by rw[<-ev];exact rel.val k)
 exact⟨dd2.typeIs,wpAny_getItem_of (Fy ry) dd2.mapOf hw ⟨v,H2,I2.tok _,rw',q2⟩⟩
end
end L2
namespace TL
open PySem PySem.Spec PyProof.Rows L2
section
variable{X:Cx}{o e a b c i:Expr}{to te ti ta tb tc:UTE}{tr:UTA}{apos cpos pos p q pos':Pos}{x:Str}
def uKDx(kts:List (Key×T))(te:UTE):UTE:=fun env S P=>te env S fun y S1=>∃k t,keyT y=some k/\valT kts k=some t/\P t S1
theorem Z2{kts:List (Key×T)}(hg:Gl X x)(h:KDt X.prog X.w X.K X.mg x kts)(he:UE X i ti)(hs:Nu i:=by intro _ _;rfl)(hd:(x==("__debug__":Str))=false:=by decide):UE X (.Subscript (.Name x p) i pos) (uKDx kts ti):=by
 obtain⟨d,kvs,hm,kd,rk⟩:=h
 refine PE.imp (Y0 hg hm kd he hs hd) fun σ H Q ⟨S,env,P,g,re,h,fin⟩=>Za ⟨g,re⟩ h fun v y S1 H1 le1 m1 ry h1=>?_
 obtain⟨k,t,e1,e2,h1⟩:=h1
 obtain⟨u,eu,ru⟩:=((rk S1 H1).val (k:=k)).1 t e2
 exact⟨k,u,Jr ry e1,eu,fin _ _ S1 H1 le1 m1.g ru h1⟩
def U7(to:UTE)(tr:UTA):UTE:=fun env S P=>to env S fun x S1=>∃zs:List Str,x=.lst (zs.map T.str)/\tr env S1 fun ys S2=>∃(z:Str) (j:Nat),ys=[.str z]/\zs[j]?=some z/\(∀m,m<j->zs[m]?≠some z)/\P (.int (j:Int)) S2
def Up(to:UTE)(tr:UTA):UTE:=fun env S P=>to env S fun x S1=>∃zs:List Str,x=.tup (zs.map T.str)/\tr env S1 fun ys S2=>∃(z:Str) (j:Nat),ys=[.str z]/\zs[j]?=some z/\(∀m,m<j->zs[m]?≠some z)/\P (.int (j:Int)) S2
theorem Bz(ho:UE X o to)(ha:UA X [e] tr)(hbase:attributeBase o "index" X.env (eval o X.env)=eval o X.env:=by rfl)
  (hfew:((backTo cpos (starEach [e] X.env)).all (fun x=>!x.1)&&(backToKw cpos (keywordEach [] X.env)).all (fun x=>x.1.isSome)&&decide (([e]:List Expr).length+([]:List Keyword).length+(if ([]:List Keyword).isEmpty then 0 else 1)<30))=true:=by rfl)
  (hline:(apos.endLine==cpos.line)=true:=by rfl) (hs:starEach [e] X.env=(false,eval e X.env)::starEach [] X.env:=by rfl) (hplain:(backTo cpos (starEach [] X.env)).any (·.1)=false:=by rfl) :
  UE X (.Call (.Attribute o "index" apos) [e] [] cpos) (U7 to tr) :=
 PE.imp (Ll PySem.F.plainAttrs_list PySem.F.slot_list_index PySem.F.type_list_index Mz ho ha hbase hfew hline hs hplain) fun σ H Q ⟨S,env,P,g,re,h,fin⟩ =>
  Za ⟨g,re⟩ h fun v x S1 H1 le1 m1 rx h1=>by
   obtain⟨zs,rfl,h1⟩:=h1
   obtain⟨l,vs,rfl,f,r⟩:=rx.lstE
   refine⟨.inl ⟨rfl,_,f.sq⟩,Ai m1 h1 fun us ys S2 H2 le2 m2 rr h2=>?_⟩
   obtain⟨z,j,rfl,hj,hm,h3⟩:=h2
   obtain⟨w,rfl,rw'⟩:=rr.one
   cases rw'
   have ev:=C0 r
   subst ev
   exact⟨l,zs,z,j,rfl,rfl,(f.mono le2).sq,hj,hm,fin _ _ S2 H2 (le1.trans le2) m2.g (.int _) h3⟩
theorem Eo(ho:UE X o to)(ha:UA X [e] tr)(hbase:attributeBase o "index" X.env (eval o X.env)=eval o X.env:=by rfl)
  (hfew:((backTo cpos (starEach [e] X.env)).all (fun x=>!x.1)&&(backToKw cpos (keywordEach [] X.env)).all (fun x=>x.1.isSome)&&decide (([e]:List Expr).length+([]:List Keyword).length+(if ([]:List Keyword).isEmpty then 0 else 1)<30))=true:=by rfl)
  (hline:(apos.endLine==cpos.line)=true:=by rfl) (hs:starEach [e] X.env=(false,eval e X.env)::starEach [] X.env:=by rfl) (hplain:(backTo cpos (starEach [] X.env)).any (·.1)=false:=by rfl) :
  UE X (.Call (.Attribute o "index" apos) [e] [] cpos) (Up to tr) :=
 PE.imp (Ll PySem.F.plainAttrs_tuple PySem.F.slot_tuple_index PySem.F.type_tuple_index Nr ho ha hbase hfew hline hs hplain) fun σ H Q ⟨S,env,P,g,re,h,fin⟩ =>
  Za ⟨g,re⟩ h fun v x S1 H1 le1 m1 rx h1=>by
   obtain⟨zs,rfl,h1⟩:=h1
   obtain⟨l,vs,rfl,f,r⟩:=rx.tupE
   refine⟨.inr (.inl ⟨rfl,_,f.sq⟩),Ai m1 h1 fun us ys S2 H2 le2 m2 rr h2=>?_⟩
   obtain⟨z,j,rfl,hj,hm,h3⟩:=h2
   obtain⟨w,rfl,rw'⟩:=rr.one
   cases rw'
   have ev:=C0 r
   subst ev
   exact⟨l,zs,z,j,rfl,rfl,(f.mono le2).sq,hj,hm,fin _ _ S2 H2 (le1.trans le2) m2.g (.int _) h3⟩
theorem F0:∀{more kvs:List (Key×V)},((kvs++more).map (·.1)).Nodup->Di kvs more=kvs++more
 |[],kvs,_=>by rw[List.append_nil];rfl
 |(k,v)::more,kvs,h=>by
  show Di (Bx kvs k v) more=_
  have hn:valV kvs k=none:=by
   cases e:valV kvs k with
   |none=>rfl
   |some u =>
    exfalso
    have:∀{kvs:List (Key×V)} {u:V},valV kvs k=some u->k∈kvs.map (·.1):=by
     intro kvs
     induction kvs with
     |nil=>intro u e;simp[valV] at e
     |cons p r ih =>
      intro u e
      by_cases hp:p.1=k
      ·exact List.mem_map.mpr ⟨p,List.mem_cons_self,hp⟩
      ·have e':valV r k=some u:=by simpa [valV,hp] using e
       obtain⟨q,hq,hqk⟩:=List.mem_map.mp (ih e')
       exact List.mem_map.mpr ⟨q,List.mem_cons_of_mem _ hq,hqk⟩
    have hm:=this e
    rw[List.map_append,List.nodup_append] at h
    exact h.2.2 k hm k (by simp) rfl
  rw[Q1 _ hn,F0 (by rw[List.append_assoc];exact h),List.append_assoc]
  rfl
theorem Tc{K:PySem.W.Frag}{S:TH}{H:Hp}{ks:List Str}{ws:List V}{ts:List T}(r:Reps K S H ws ts):RepK K S H ((ks.map Sum.inr).zip ws:List (Key×V)) ((ks.map Sum.inr).zip ts):=by
 refine⟨by rw[List.length_zip,List.length_zip,r.1],fun i v t e1 e2=>?_⟩
 obtain⟨a1,a2⟩:=List.getElem?_zip_eq_some.mp e1
 obtain⟨b1,b2⟩:=List.getElem?_zip_eq_some.mp e2
 rw[a1] at b1
 exact⟨Option.some.inj b1,r.2 i _ _ a2 b2⟩
def Yp(tr:UTA):UTE:=fun env S P=>tr env S fun xs S1=>∃(ks:List Str) (ts:List T),xs=[.lst (ks.map T.str),.tup ts]/\ks.length=ts.length/\ks.length<=1000/\ks.Nodup/\P (.dct ((ks.map Sum.inr).zip ts)) S1
theorem Il(hc:X.calm=true)(hg:Gl X "dict")(hm:X.mg "dict"=none)(hgz:Gl X "zip")(hmz:X.mg "zip"=none)(ha:UA X [a,b] tr)
  (hs:starEach [a,b] X.env=[(false,eval a X.env),(false,eval b X.env)]:=by rfl) (hs2:starEach [b] X.env=[(false,eval b X.env)]:=by rfl)
  (hs3:starEach [.Call (.Name "zip" q) [a,b] [] pos'] X.env=(false,eval (.Call (.Name "zip" q) [a,b] [] pos') X.env)::starEach [] X.env:=by rfl) :
  UE X (.Call (.Name "dict" p) [.Call (.Name "zip" q) [a,b] [] pos'] [] pos) (Yp tr) :=
 PE.imp (Qz (kk:=false) hc hg hm hgz hmz boot_dict boot_zip ha hs hs2 hs3) fun σ H Q ⟨S,env,P,g,re,h,fin⟩=>Ai ⟨g,re⟩ h fun vs xs S1 H1 le1 m1 rx h1=>by
  obtain⟨ks,ts,rfl,hn,hl,nd,h1⟩:=h1
  obtain⟨v,w,rfl,r1,r2⟩:=rx.two
  obtain⟨l,us,rfl,f,r⟩:=r1.lstE
  obtain⟨t,ws,rfl,f',r'⟩:=r2.tupE
  have ev:=C0 r
  subst ev
  refine⟨l,t,ks,ws,rfl,f.sq,f'.sq,by rw[hn,r'.1],hl,fun p hp=>?_⟩
  have e:Di [] ((ks.map Sum.inr).zip ws:List (Key×V))=(ks.map Sum.inr).zip ws:=by
   rw[F0]
   ·rfl
   ·rw[List.nil_append,List.map_fst_zip (by rw[List.length_map,hn,r'.1];exact Nat.le_refl _)]
    exact List.Pairwise.map _ (fun a b h z=>h (by injection z)) nd
  rw[e]
  exact Kz (fin.le le1) m1.g hp (Tc r') h1
theorem Ua(ha:UE X a ta)(hb:UE X b tb)(hc:UE X c tc)(hm:lastMarks [.LtE,.Lt] [b,c]=false:=by with_unfolding_all rfl):UT X (.Compare a [.LtE,.Lt] [b,c] pos) (A4 (Dl Mo oLt ta tb tc)):=Rq (op_le.or En) lLe2 Sa lLt ha hb hc hm
end
section
variable{X:Cx}{a b:Expr}{ta tb:UTE}{pos:Pos}
theorem Qy:UE X (.Dict [] [] pos) (uC (.dct [])):=PE.imp Q0 fun σ H Q ⟨S,env,P,g,re,h,fin⟩=>fun p hp=>Kz fin g hp ⟨rfl,fun _ _ _ e=>by simp at e⟩ h
end
def Ah(s:Stmt)(j:Nat):Stmt:=match s with
 | .ClassDef _ _ _ body _ _ _ _ _ _ _=>body.getD j (.Pass ⟨0,0,0,0⟩)
 |_=>.Pass ⟨0,0,0,0⟩
section
variable{K:PySem.W.Frag}{h:Heap}{mg:Str->Option Value}{x:Str}{C:Addr}
theorem Rj(X:K.In h)(G:h.Ns mainGlobals mg)(a:PySem.W.nsIn K mainGlobals x=some (some (.ref C)))(pg:PySem.W.plainGet K C Str.empty=true)(hd:PySem.W.hasDictIn K C=true)(po:PySem.W.plainOver K C=true)(sa:PySem.W.findIn K (.ref C) "__setattr__"=some (some (.builtin "object.__setattr__"))):Cls K (cAt mg x):=by
 rw[Fr X G a];exact⟨pg,hd,po,sa⟩
theorem Bc{f:Str}(X:K.In h)(G:h.Ns mainGlobals mg)(a:PySem.W.nsIn K mainGlobals x=some (some (.ref C)))(q:PySem.W.findIn K (.ref C) f=some none):NoAttr K (cAt mg x) f:=by
 rw[Fr X G a];exact q
theorem Zy{m qual:Str}{ps:List Str}{st:Stmt}{f:Addr}{oc:Value}{od an:Option Addr}{osl:Array (Option Value)}{kV doc pm cdv ct:Value}(X:K.In h)(G:h.Ns mainGlobals mg)(a:PySem.W.nsIn K mainGlobals x=some (some (.ref C)))(a1:PySem.W.findIn K (.ref C) m=some (some (.ref f)))(i1:PySem.W.isFn K (.ref f)=true)
  (l:K.lookup f=some ⟨oc,od,.func (PySem.W.fnOf m qual (Be st) (defBody st) (Zb st) .none kV doc pm an cdv ct),osl⟩) (c:PySem.W.codeIn K cdv qual=true) (k:PySem.W.keepIn K (.ref f)=true) (cl:Cls K (cAt mg x))
  (b:∀(kV doc pm:Value) (an:Option Addr) (cdv ct:Value) (us:List Value),us.length=ps.length->bindArgs (PySem.W.fnOf m qual (Be st) (defBody st) (Zb st) .none kV doc pm an cdv ct) ⟨us,[]⟩=pure (ps.zip us)):Af K (cAt mg x) m qual ps st :=
 ⟨f,_,Ej l c k,(Ej l c k).binds b,by rw[Fr X G a];exact⟨a1,i1,k⟩,cl⟩
theorem Fe{qual:Str}{ps:List Str}{st:Stmt}{f:Addr}{oc:Value}{od an:Option Addr}{osl:Array (Option Value)}{kV doc pm cdv ct:Value}(X:K.In h)(G:h.Ns mainGlobals mg)(a:PySem.W.nsIn K mainGlobals x=some (some (.ref C)))(a1:PySem.W.findIn K (.ref C) "__init__"=some (some (.ref f)))(i1:PySem.W.isFn K (.ref f)=true)
  (l:K.lookup f=some ⟨oc,od,.func (PySem.W.fnOf "__init__" qual (Be st) (defBody st) (Zb st) .none kV doc pm an cdv ct),osl⟩) (c:PySem.W.codeIn K cdv qual=true) (k:PySem.W.keepIn K (.ref f)=true) (mk:PySem.W.makesIn K C=true) (kc:PySem.W.keepIn K (.ref C)=true)
  (b:∀(kV doc pm:Value) (an:Option Addr) (cdv ct:Value) (us:List Value),us.length=ps.length->bindArgs (PySem.W.fnOf "__init__" qual (Be st) (defBody st) (Zb st) .none kV doc pm an cdv ct) ⟨us,[]⟩=pure (ps.zip us)):C6 K mg (cAt mg x) x qual ps st :=
 ⟨f,_,Ej l c k,(Ej l c k).binds b,by rw[Fr X G a];exact⟨mk,a1,i1,kc⟩,J4 X G a⟩
end
end TL
end
section
namespace L2
open PySem PySem.Spec PyProof.Rows
section
variable{X:Cx}
theorem S9(hc:X.calm=true):CallR X (.builtin "any") (fun xs H Q=>∃(p:Addr) (bs:List Bool),xs=[.ref p]/\SqL X.K H p (bs.map V.bl)/\Q (.bl (bs.any id)) H):=by
 intro pins s σ H xs us Q I r h
 obtain⟨p,bs,rfl,hq,q⟩:=h
 obtain⟨u,rfl,ru⟩:=Dg r
 cases ru
 obtain⟨its,rv,pl,hz⟩:=I.list hq
 have lt:p<s.heap.objs.size:=by
  obtain⟨o,n,e,_⟩:=pl
  exact Heap.lt_size e
 have hit:∀(i:Nat) v,its.toArray[i]?=some v->∃b,bs[i]?=some b/\v=.bool b:=fun i v e=>by
  have e':its[i]?=some v:=by simpa using e
  have hl:=rv.length
  have hi:i<its.length:=(List.getElem?_eq_some_iff.mp e').1
  have hi2:i<(bs.map V.bl).length:=by omega
  obtain⟨w',hw,rw'⟩:=rv.get (List.getElem?_eq_getElem hi2)
  rw[e'] at hw
  cases hw
  rw[List.getElem_map] at rw'
  rw[List.length_map] at hi2
  exact⟨bs[i],List.getElem?_eq_getElem hi2,rw'⟩
 refine call_any_walk (wpAny_pyIter_list pl.isList ?_)
 refine⟨s.heap.objs.size,[s.heap.objs.size,p],[s.heap.objs.size],its.toArray.size,_,_,fun i=>bs.getD i false,rfl,Walks.list (A:=X.A.in1) (show X.A.in1.handled=none from I.ok.hd hc) _ p (Nat.ne_of_lt lt) its.toArray,
  ⟨⟨_,Heap.get?_push_size _ rfl,rfl,rfl⟩,Heap.IsList.push pl.isList _⟩,fun i v s' Q' E' hv hQ'=>?_,fun h' tk kk=>?_⟩
 ·obtain⟨b,hb,rfl⟩:=hit i v hv
  have e:bs.getD i false=b:=by rw[List.getD_eq_getElem?_getD,hb];rfl
  dsimp only at hQ'
  rw[e] at hQ'
  exact wpAny_truthy_bool hQ'
 ·have hl:=rv.length
  rw[List.length_map] at hl
  have e:(List.range its.toArray.size).any (fun i=>bs.getD i false)=bs.any id:=by
   rw[List.size_toArray,<-hl,Bool.eq_iff_iff,List.any_eq_true,List.any_eq_true]
   constructor
   ·rintro⟨i,hi,hb⟩
    have hi':=List.mem_range.mp hi
    rw[List.getD_eq_getElem?_getD,List.getElem?_eq_getElem hi'] at hb
    exact⟨_,List.getElem_mem hi',hb⟩
   ·rintro⟨b,hb,h⟩
    obtain⟨i,hi,rfl⟩:=List.mem_iff_getElem.mp hb
    refine⟨i,List.mem_range.mpr hi,?_⟩
    rw[List.getD_eq_getElem?_getD,List.getElem?_eq_getElem hi]
    exact h
  rw[e]
  refine⟨.bl _,H,?_,rfl,q⟩
  have I1:Inv X pins σ H { s with heap:=s.heap.push { cls:=.type "list_iterator",data:=.fields #[.ref p,.int 0 0] } }:=I.kept (t':=s.toks) fun b o e=>Heap.get?_push_of_some _ e
  have f:=I.fpOk (H':=H) (Nat.le_refl _) I.fresh
  exact I1.turned (t':=tk) (it:=s.heap.objs.size) (fun b o hb e=>kk b o (by simpa using hb) e) f.1 f.2.1 f.2.2.2.1 f.2.2.2.2.1 f.2.2.2.2.2
end
end L2
end
section
namespace L2
open PySem PySem.Spec PyProof.Rows
open Sem (wp)
end L2
end
section
namespace TL
open PySem PySem.Spec PyProof.Rows L2
section
variable{X:Cx}{a b e:Expr}{ta tb:UTE}{tr:UTA}{p q pos pos':Pos}
theorem ut_ge(ha:UE X a ta)(hb:UE X b tb):UT X (.Compare a [.GtE] [b] pos) (A4 (A0 oGe ta tb)):=Bf op_ge lGe ha hb (Bo _)
def oAny(xs:List T)(S:TH)(P:UX):Prop:=∃bs:List Bool,xs=[.lst (bs.map T.bl)]/\P (.bl (bs.any id)) S
theorem Qj(hc:X.calm=true)(hg:Gl X "any")(hm:X.mg "any"=none)(ha:UA X [e] tr)(he:starEach [e] X.env=(false,eval e X.env)::starEach [] X.env:=by rfl):UE X (.Call (.Name "any" p) [e] [] pos) (Bh oAny tr) :=
 Bn (S9 hc) (fun S H vs xs P Q g r ho fin=>by
  obtain⟨bs,rfl,ho⟩:=ho
  obtain⟨v,rfl,rx⟩:=r.one
  obtain⟨l,us,rfl,f,r⟩:=rx.lstE
  have ev:=Ji r (Qw bs)
  subst ev
  exact⟨l,bs,rfl,f.sq,fin _ _ S H .refl g (.bl _) ho⟩) hg hm boot_any ha (he:=he)
end
end TL
end
section
namespace L2
open PySem PySem.Spec PyProof.Rows
end L2
end
section
namespace L2
open PySem PySem.Spec PyProof.Rows
end L2
end
section
namespace TL
open PySem PySem.Spec PyProof.Rows L2
end TL
end
section
namespace TL
open PySem PySem.Spec PyProof.Rows L2
def Ax(pick:List (Option Nat))(ti:UTA)(gg:UTG)(tc:UTT)(te:UTE):UTE:=fun env S P=>ti env S fun ts S1=>ts.length<=sizeLine/\∃Iv:Nat->List T->TH->Prop,Iv 0 [] S1 ∧
 (∀k x acc S,ts[k]?=some x->Iv k acc S->gg x (B1 pick env) S fun env' S'=>tc env' S' fun b S2=>(b=true->te env' S2 fun r S3=>Iv (k+1) (acc++[r]) S3)/\(b=false->Iv (k+1) acc S2)) ∧
 ∀acc S,Iv ts.length acc S->∀p,S p=none->P (.ref p) (updT S p (.lst acc))
section
variable{X:Cx}{elt iter:Expr}{ti:UTA}{tc:UTT}{te:UTE}{pos p:Pos}{scope:Scope}{ifs:List Expr}{N:List Str}{pick:List (Option Nat)}{a b:Expr}{tr:UTA}
theorem Kk{K:PySem.W.Frag}{g:TG}{gg:UTG}{σ:L2.St}{H:Hp}{Q:VK}
  (hg:∀x tt S1 H1 env (k:Ev->TH->Prop) (R:L2.St->Hp->Prop),Good K S1 H1->REnv K S1 H1 (Xq pick σ) (B1 pick env)->Rep K S1 H1 x tt->gg tt (B1 pick env) S1 k →
   (∀ σ2 env2,REnv K S1 H1 σ2 env2->k env2 S1->R σ2 H1)->g x (Xq pick σ) H1 fun σ2 H2=>Ni (Xq pick σ) σ2/\R σ2 H2)
  (h:lf K (Ax pick ti gg tc te) σ H Q):Ex pick (lfI K ti) g (lfT K tc) (lf K te) σ H Q:=by
 obtain⟨S,env,P,gd,re,h,fin⟩:=h
 refine⟨S,env,_,gd,re,h,fun ts J S1 H1 le1 g1 hq yl=>?_⟩
 obtain⟨hz,Iv,i0,step,done⟩:=hq
 refine⟨fun k m acc H'=>m=ts.length - k/\k<=ts.length/\acc.length<=k/\∃S' racc,Le S1 H1 S' H'/\Good K S' H'/\Reps K S' H' acc racc/\Iv k racc S',⟨ts.length,rfl,Nat.zero_le _,Nat.le_refl _,S1,[],.refl,g1,.nil,i0⟩,?_⟩
 rintro k m acc H' ⟨rfl,hk,ha,S',racc,le',g',ra,iv⟩
 by_cases hlt:k<ts.length
 ·refine .inr ⟨yl.go k S' H' le' g' hlt,by omega,fun acc' H2=>acc'.length<=k+1/\∃S2 racc',Le S1 H1 S2 H2/\Good K S2 H2/\Reps K S2 H2 acc' racc'/\Iv (k+1) racc' S2,fun acc' H2 z=>⟨ts.length - (k+1),by omega,rfl,hlt,z.1,z.2⟩,fun x H2 y=>?_⟩
  obtain⟨le2,g2,tt,et,rt⟩:=yl.yld k S' H' x H2 le' g' hlt y
  have l02:Le S H S' H2:=le1.trans (le'.trans le2)
  refine hg x tt S' H2 env _ _ g2 ((re.mono l02).pick pick) rt (step k tt racc S' et iv) fun σ2 env2 re2 h2=>?_
  refine A9 ⟨g2,re2⟩ h2 fun b S3 H3 le3 m3 hb=>?_
  have l13:Le S1 H1 S3 H3:=le'.trans (le2.trans le3)
  have r3:=ra.mono (le2.trans le3)
  cases b with
  |false=>rw[if_neg Bool.false_ne_true];exact⟨by omega,S3,racc,l13,m3.g,r3,hb.2 rfl⟩
  |true =>
   rw[if_pos rfl]
   refine Za m3 (hb.1 rfl) fun w r S4 H4 le4 m4 rw4 h4=>?_
   exact⟨by rw[List.length_append,List.length_singleton];omega,S4,racc++[r],l13.trans le4,m4.g,(r3.mono le4).append (.cons rw4 .nil),h4⟩
 ·have ek:k=ts.length:=by omega
  subst ek
  exact .inl ⟨yl.stop S' H' le' g',by omega,fun p hp=>fin _ _ _ _ ((le1.trans le').trans (Le.newC hp)) (g'.newL hp ra) (.ref p) (done racc S' iv p (g'.free hp))⟩
def V4(xs:List T)(S:TH)(P:UX):Prop:=∃p ts c,xs=[.ref p,.ty c]/\S p=some (.lst ts)/\okC c=true/\P (.bl (isT "list" c)) S
theorem lIsiC{K:PySem.W.Frag}:Dt K (rIsi K) V4:=fun S H vs xs P Q g r ho fin=>by
 obtain⟨p,ts,c,rfl,e,hc,h⟩:=ho
 obtain⟨v,w,rfl,r1,r2⟩:=r.two
 cases r2
 cases r1
 obtain⟨us,q,_⟩:=g p _ e
 exact⟨_,_,_,.inl (.lst q),.inl ⟨c,rfl,E6 (t:=.lst []) rfl hc⟩,fin _ _ S H .refl g (.bl _) h⟩
theorem L5(hg:Gl X "isinstance")(hm:X.mg "isinstance"=none)(ha:UA X [a,b] tr)(he:starEach [a,b] X.env=(false,eval a X.env)::starEach [b] X.env:=by rfl)(hpl:(backTo pos (starEach [b] X.env)).any (·.1)=false:=by rfl):
  UE X (.Call (.Name "isinstance" p) [a,b] [] pos) (Bh V4 tr):=Bn Gu lIsiC hg hm boot_isinstance ha (he:=he) (hpl:=hpl)
theorem Jy{S:TH}{q:Addr}{ts:List T}(h:S q=some (.lst ts)):cv S (.ref q)=.lst ts:=by show (match S q with|some (.lst ts)=>T.lst ts|_=>T.ref q)=_;rw[h]
end
end TL
end
section
namespace L2
open PySem PySem.Spec PyProof.Rows
def Yw(ta:TA):TE:=fun σ H Q=>ta σ H fun vs H1=>∃n:Nat,vs=[.int (n:Int)]/\n<=1000/\∀l,H1 l=none->Q (.ref l) (upd H1 l (.lst ((List.range n).map fun i:Nat=>V.int (i:Int))))
theorem J1{acc:Array Value}{n:Nat}(h:ItemsOf (fun i v=>∃t,v=.int (0+i * 1) t) acc n):Vals ((List.range n).map fun i:Nat=>V.int (i:Int)) acc.toList:=by
 obtain⟨hz,hi⟩:=h
 have go:∀(l:List Value) (k:Nat),(∀(j:Nat) v,l[j]?=some v->∃t,v=.int ((k:Int)+j) t)->Vals ((List.range' k l.length).map fun i:Nat=>V.int (i:Int)) l:=by
  intro l
  induction l with
  |nil=>intro k _;exact .nil
  |cons x r ih =>
   intro k hk
   rw[List.length_cons,List.range'_succ,List.map_cons]
   refine .cons ?_ (ih (k+1) fun j v e=>?_)
   ·obtain⟨t,e⟩:=hk 0 x rfl
    rw[e]
    exact⟨t,by simp⟩
   ·obtain⟨t,e'⟩:=hk (j+1) v e
    exact⟨t,by rw[e'];congr 1;omega⟩
 have hl:acc.toList.length=n:=by rw[Array.length_toList];exact hz
 have q:=go acc.toList 0 fun j v e=>by
  obtain⟨t,e'⟩:=hi j v (by rw[<-Array.getElem?_toList];exact e)
  exact⟨t,by rw[e'];congr 1;omega⟩
 rw[hl,<-List.range_eq_range'] at q
 exact q
section
variable{X:Cx}
theorem Si{a:Expr}{ta:TA}{p q pos pos':Pos}(hc:X.calm=true)(hg:Gl X "list")(hm:X.mg "list"=none)(hgr:Gl X "range")(hmr:X.mg "range"=none)(hv:bootBuiltins "list"=some (.type "list"))(ha:PA X [a] ta)
  (hs:starEach [a] X.env=[(false,eval a X.env)]:=by rfl)
  (hs3:starEach [.Call (.Name "range" q) [a] [] pos'] X.env=(false,eval (.Call (.Name "range" q) [a] [] pos') X.env)::starEach [] X.env:=by rfl) :
  PE X (.Call (.Name "list" p) [.Call (.Name "range" q) [a] [] pos'] [] pos) (Yw ta):=by
 intro pins s σ H Q I h
 refine wpAny_Call_Name_kw (Br I hg hm hv ?_)
 refine PyProof.Rows.callWith_type1 ?_ hs3 rfl
 rw[hs3]
 show wpAny _ _ (spliced ((false,eval (.Call (.Name "range" q) [a] [] pos') X.env)::backTo pos (starEach [] X.env))) _ _ s
 refine Calls.spliced_cons ?_
 refine Call_ (Br I hgr hmr boot_range (PyProof.Rows.callWith_type1 (thn (ha pos' pins s σ H _ I h) fun us s1 ⟨vs,H1,I1,r1,q1⟩=>?_) hs rfl))
 obtain⟨n,rfl,hn,hR⟩:=q1
 cases r1 with
 |cons r rr =>
  cases rr
  obtain⟨t,rfl⟩:=r
  refine call_range_1 ?_
  refine Calls.spliced_nil ?_
  refine call_list_range (n:=n) (I1.ok.hd hc) (IsRange.new ..) (small_one (by omega) (by omega) (by omega) (by omega)) (by rw[rangeSize_one];split <;> omega) (by omega) fun h' tk acc' c' kp e it=>?_
  have r':=J1 it
  have hz:((List.range n).map fun i:Nat=>V.int (i:Int)).length<=sizeLine:=by
   rw[List.length_map,List.length_range];exact Nat.le_of_lt (Xo hn)
  have I2:Inv X pins σ H1 { s1 with heap:=s1.heap.push { cls:=.type "range",data:=.fields #[.int 0 s1.toks,.int (n:Int) t,.int 1 (s1.toks+1)] },toks:=s1.toks+1+1 }:=I1.kept fun b o e=>Heap.get?_push_of_some _ e
  exact⟨.ref _,_,I2.laid (t':=tk) kp (Nat.le_refl _) (show ObjOk X.prog X.w _ h' _ (.lst _) from⟨hz,acc'.toList,c',r',by simpa using e⟩),rfl,hR _ (I2.hok.fresh (Nat.le_refl _))⟩
end
end L2
end
section
namespace L2
open PySem PySem.Spec PyProof.Rows
theorem Se{α:Type}{xs:List α}{n:Nat}(hl:xs.length=n)(hne:xs≠[]):
  ((sliceRange (sliceBounds none none (some (-1)) n).1 (sliceBounds none none (some (-1)) n).2.1 (sliceBounds none none (some (-1)) n).2.2).filterMap fun (i:Nat)=>xs[i]?)≠[]:=by
 have hp:=List.length_pos_iff.mpr hne
 have hlt:n - 1<xs.length:=by omega
 have e:sliceBounds none none (some (-1)) n=((n:Int) - 1,-1,-1):=rfl
 rw[e]
 have hm:(n - 1:Nat)∈sliceRange ((n:Int) - 1) (-1) (-1):=by
  unfold sliceRange
  refine List.mem_map.mpr ⟨0,List.mem_range.mpr ?_,by simp⟩
  rw[if_neg (by decide),if_pos (by omega),show (-(-1):Int)=1 from rfl,Int.ediv_one]
  omega
 exact List.ne_nil_of_mem (List.mem_filterMap.mpr ⟨n - 1,hm,List.getElem?_eq_getElem hlt⟩)
section
variable{X:Cx}
def tRevN(K:PySem.W.Frag)(te:TE):TE:=fun σ H Q=>te σ H fun x H1=>∃a xs,x=.ref a ∧
 SqL K H1 a xs/\∀ix:List Nat,(ix.filterMap fun (i:Nat)=>xs[i]?).length<=xs.length->(xs≠[]->(ix.filterMap fun (i:Nat)=>xs[i]?)≠[])->∀p,H1 p=none->Q (.ref p) (upd H1 p (.lst (ix.filterMap fun (i:Nat)=>xs[i]?)))
theorem Tm{e:Expr}{te:TE}{p1 p2 p3 pos:Pos}{j:Nat}(he:PE X e te):PE X (.Subscript e (.Slice none none (some (.UnaryOp .USub (.Constant (.int 1) j p1) p2)) p3) pos) (tRevN X.K te):=by
 intro pins s σ H Q I h
 refine Subscript_ (thn (he pins s σ H _ I h) fun v s1 h1=>?_)
 obtain⟨x,H1,I1,r1,q1⟩:=h1
 refine wpAny_Slice ?_
 rw[evalPart_none,evalPart_some]
 refine wpAny_pure (wpAny_pure ?_)
 refine thn (Vy (pos:=p2) Qc (Ph (X:=X) (i:=1) (j:=j) (pos:=p1)) pins s1 σ H1 (fun v H2=>v=.int (-1)/\H2=H1) I1 ⟨1,rfl,rfl,rfl⟩) fun vs s2 h2=>?_
 obtain⟨y,H2,I2,r2,rfl,rfl⟩:=h2
 obtain⟨tk,rfl⟩:=r2
 obtain⟨a,xs,rfl,hx,q⟩:=q1
 cases r1
 have I4:Inv X pins σ H2 { s2 with heap:=s2.heap.push { cls:=.type "slice",data:=.fields #[.none,.none,.int (-1) tk] } }:=I2.kept (t':=s2.toks) fun b ob q=>Heap.get?_push_of_some _ q
 have hs:(s2.heap.push { cls:=.type "slice",data:=.fields #[.none,.none,.int (-1) tk] }).IsSliceOf s2.heap.objs.size .none .none (.int (-1) tk):=Heap.IsSliceOf.new ..
 show wpAny (model X.prog X.w) X.A (subscriptTail e (.Slice none none (some (.UnaryOp .USub (.Constant (.int 1) j p1) p2)) p3) (.ref a) (.ref s2.heap.objs.size)) (EP X pins σ Q) X.xe { s2 with heap:=s2.heap.push { cls:=.type "slice",data:=.fields #[.none,.none,.int (-1) tk] } }
 obtain⟨its,r,ht,hz⟩:=I4.list hx
 have hl:=r.length
 refine tail_any (ops:=[.ref a,.ref s2.heap.objs.size]) ht.isList.typeIs slot_list_getitem.lookup ?_ (by with_unfolding_all rfl)
 refine wpAny_getItem_list_slice ht.isList hs .none .none (.int (-1) tk) (by decide) ?_ (by rw[List.size_toArray];omega)
 have hsz:=slicePick_size_le its.toArray none none (some (-1))
 have hns:xs≠[]->((sliceRange (sliceBounds none none (some (-1)) its.toArray.size).1 (sliceBounds none none (some (-1)) its.toArray.size).2.1 (sliceBounds none none (some (-1)) its.toArray.size).2.2).filterMap fun (i:Nat)=>xs[i]?)≠[]:=Se (by rw[List.size_toArray];omega)
 have e:slicePick its.toArray none none (some (-1))=(((sliceRange (sliceBounds none none (some (-1)) its.toArray.size).1 (sliceBounds none none (some (-1)) its.toArray.size).2.1 (sliceBounds none none (some (-1)) its.toArray.size).2.2)).filterMap fun (i:Nat)=>its[i]?).toArray:=by
  unfold slicePick
  congr 2
  funext i
  simp
 rw[e] at hsz ⊢
 generalize sliceRange (sliceBounds none none (some (-1)) its.toArray.size).1 (sliceBounds none none (some (-1)) its.toArray.size).2.1 (sliceBounds none none (some (-1)) its.toArray.size).2.2=ix at hsz hns ⊢
 have rp:=r.pick ix
 have hl2:=rp.length
 refine⟨.ref _,_,I4.laid (t':=s2.toks) (o:=.lst (ix.filterMap fun (i:Nat)=>xs[i]?)) (fun b ob q=>Heap.get?_push_of_some _ q) (Nat.le_refl _) ?_,rfl,q ix (by rw[List.size_toArray,List.size_toArray] at hsz;omega) hns _ (I4.hok.fresh (Nat.le_refl _))⟩
 refine⟨?_,_,0,rp,Heap.get?_push_size _ rfl⟩
 rw[List.size_toArray,List.size_toArray] at hsz
 omega
end
end L2
end
section
namespace TL
open PySem PySem.Spec PyProof.Rows L2
section
variable{X:Cx}{elt iter a e:Expr}{ti:UTA}{tc:UTT}{te:UTE}{pos spos p q pos':Pos}{scope:Scope}{ifs:List Expr}{z:Str}{pz:Pos}{tr:UTA}
theorem G9(k:Nat)(hNd:X.N.Nodup)(i:Nat)(N:List Str)(pick:List (Option Nat)){x:Str}{px:Pos}(hc:X.calm=true)(hi:UI X (.Name x px) iter ti)(ht:∀C s H fp pins,PTs (Xl X N scope C s H fp pins) ifs (lfT X.K tc))(he:∀C s H fp pins,UE (Xl X N scope C s H fp pins) elt te)
  (hs:scopeOk X.env.scope.names scope.names=true:=by rfl) (hp:A2 X.N scope.names N pick=true:=by rfl) (hk:scope.kind=.function:=by rfl) (hN:N.Nodup:=by decide +kernel)
  (hiN:N[i]?=some x:=by rfl) (hpi:pick[i]?=some none:=by rfl) (hloc:scope.names.lookup x=some .local:=by rfl) (hfs:∀x,foldedSetIterable iter X.env x=pure x:=by intro _;rfl)
  (hz:X.N[k]?=some z:=by rfl) (hlz:Loc X.env.scope z:=by first|exact Or.inl rfl|exact Or.inr rfl) (hsw:swapsWith (.ListComp elt [⟨.Name x px,iter,ifs,0⟩] scope pos) (some (.Name z pz)) spos.line X.env=pure true:=by rfl)
  (hf:X.fn z=true\/X.env.scope.names.lookup z=some .local:=by first|exact .inl rfl|exact .inr rfl) :
  US X (.Assign [.Name z pz] (.ListComp elt [⟨.Name x px,iter,ifs,0⟩] scope pos) spos) (uSet k (Ax pick ti (gNm i) tc te)) :=
 PS.imp (Fz (i:=k) hc hs hp hk hi (fun C s H fp pins=>Bj (i:=i) hN hiN (.inl (lookup_relabel_local hloc)) (.inr (lookup_relabel_local hloc))) ht (te:=lf X.K te) he hNd hz hlz hsw hf hfs) fun D σ H ⟨S,env,E,g,re,h,fin⟩ =>
  Kk (fun y tt S1 H1 env k R gd re rt hg hR=>⟨B7 hpi,hR _ _ (re.set rt) hg⟩) (Za ⟨g,re⟩ h fun v y S1 H1 le1 m1 ry h1=>fin.nx _ _ S1 H1 le1 m1.g (m1.re.set ry) h1)
theorem Mx{pick:List (Option Nat)}{ti:UTA}{env:Ev}{S S1:TH}{gg:UTG}{tc:UTT}{te:UTE}{P:UX}(ts:List T)(Iv:Nat->List T->TH->Prop)(hti:∀k:List T->TH->Prop,k ts S1->ti env S k)(hl:ts.length<=sizeLine)(h0:Iv 0 [] S1)
  (turn:∀k x acc S,ts[k]?=some x->Iv k acc S->gg x (B1 pick env) S fun env' S'=>tc env' S' fun b S2=>(b=true->te env' S2 fun r S3=>Iv (k+1) (acc++[r]) S3)/\(b=false->Iv (k+1) acc S2))
  (done:∀acc S,Iv ts.length acc S->∀p,S p=none->P (.ref p) (updT S p (.lst acc))):Ax pick ti gg tc te env S P:=hti _ ⟨hl,Iv,h0,turn,done⟩
def uSlC(te:UTE)(tl th:UTO):UTE:=fun env S P=>te env S fun x S1=>tl env S1 fun l S2=>th env S2 fun u S3=>match x with
 | .lst ts=>∀p,S3 p=none->P (.ref p) (updT S3 p (.lst (cutA ts l u)))
 |_=>False
theorem Wg{lo hi:Option Expr}{te:UTE}{tl th:UTO}{p2:Pos}(he:UE X e te)(hl:UO X lo tl)(hh:UO X hi th):UE X (.Subscript e (.Slice lo hi none p2) pos) (uSlC te tl th) :=
 PE.imp (F1 sl_list he hl hh) fun σ H Q ⟨S,env,P,g,re,h,fin⟩=>Za ⟨g,re⟩ h fun v x S1 H1 le1 m1 rx h1 =>
  ⟨S1,env,_,m1.g,m1.re,h1,fun l S2 H2 le2 g2 h2=>⟨S2,env,_,g2,m1.re.mono le2,h2,fun u S3 H3 le3 g3 h3=>by
   have rx3:=rx.mono (le2.trans le3)
   have f3:=fin.le (le1.trans (le2.trans le3))
   cases x with
   |lst ts =>
    obtain⟨a,vs,rfl,f,r⟩:=rx3.lstE
    exact⟨a,vs,rfl,f.sq,fun p hp=>f3 _ _ _ _ (Le.newC hp) (g3.newL hp (r.cut l u)) (.ref p) (h3 p (g3.free hp))⟩
   |_=>exact h3.elim⟩⟩
def uRevC(te:UTE):UTE:=fun env S P=>te env S fun x S1=>match x with
 | .ref q=>∃ts,S1 q=some (.lst ts)/\∀ys:List T,ys.length<=ts.length->(ts≠[]->ys≠[])->(∀y∈ys,y∈ts)->P (.lst ys) S1
 |_=>False
theorem L3{p1 p2 p3:Pos}{j:Nat}(he:UE X e te):UE X (.Subscript e (.Slice none none (some (.UnaryOp .USub (.Constant (.int 1) j p1) p2)) p3) pos) (uRevC te):=PE.imp (Tm he) fun σ H Q ⟨S,env,P,g,re,h,fin⟩ =>
 Za ⟨g,re⟩ h fun v x S1 H1 le1 m1 rx h1=>by
  cases x with
  |ref q =>
   cases rx
   obtain⟨ts,e,h1⟩:=h1
   obtain⟨vs,hq,r⟩:=m1.g q _ e
   refine⟨q,vs,rfl,.inl (.inl hq),fun ix hl hn p hp=>?_⟩
   have rp:=r.pick ix
   have l1:=r.1
   have l2:=rp.1
   refine A8 (fin.le le1) m1.g hp rp (h1 _ (by omega) (fun hne z=>?_) fun y hy=>R8 hy)
   rw[z,List.length_nil] at l2
   have hv:vs≠[]:=fun z=>hne (List.length_eq_zero_iff.mp (by rw[<-l1,z];rfl))
   exact hn hv (List.length_eq_zero_iff.mp l2)
  |_=>exact h1.elim
def Xi(ta:UTA):UTE:=fun env S P=>ta env S fun ts S1=>∃n:Nat,ts=[.int (n:Int)]/\n<=1000/\P (.lst (Db n)) S1
theorem Qk(hc:X.calm=true)(hg:Gl X "list")(hm:X.mg "list"=none)(hgr:Gl X "range")(hmr:X.mg "range"=none)(ha:UA X [a] tr)
  (hs:starEach [a] X.env=[(false,eval a X.env)]:=by rfl)
  (hs3:starEach [.Call (.Name "range" q) [a] [] pos'] X.env=(false,eval (.Call (.Name "range" q) [a] [] pos') X.env)::starEach [] X.env:=by rfl) :
  UE X (.Call (.Name "list" p) [.Call (.Name "range" q) [a] [] pos'] [] pos) (Xi tr) :=
 PE.imp (Si hc hg hm hgr hmr boot_list ha hs hs3) fun σ H Q ⟨S,env,P,g,re,h,fin⟩=>Ai ⟨g,re⟩ h fun vs xs S1 H1 le1 m1 rx h1=>by
  obtain⟨n,rfl,hn,h1⟩:=h1
  obtain⟨v,rfl⟩:∃v,vs=[v]:=List.length_eq_one_iff.mp rx.1
  have r0:=rx.head
  cases r0
  refine⟨n,rfl,hn,fun l hl=>A8 (fin.le le1) m1.g hl ⟨?_,fun i v t e1 e2=>?_⟩ h1⟩
  ·rw[List.length_map,List.length_range,Zh]
  ·unfold Db at e2
   rw[List.getElem?_map] at e1 e2
   cases ek:(List.range n)[i]? with
   |none=>rw[ek] at e1;cases e1
   |some k =>
    rw[ek] at e1 e2
    cases e1
    cases e2
    exact .int _
end
end TL
end
section
namespace L2
open PySem PySem.Spec PyProof.Rows
end L2
end
section
namespace TL
open PySem PySem.Spec PyProof.Rows L2
end TL
end
section
namespace TL
open PySem PySem.Spec PyProof.Rows L2
def kT:Key->T
 | .inl i=>.int i
 | .inr x=>.str x
section
variable{K:PySem.W.Frag}{S:TH}{H:Hp}
theorem X5{v:V}{k:Key}(r:Rep K S H v (kT k)):v=kV k:=by
 cases k with
 |inl i=>cases r;rfl
 |inr x=>cases r;rfl
theorem Ma:∀{vs:List V} {ks:List Key},Reps K S H vs (ks.map kT)->vs=ks.map kV
 |[],[],_=>rfl
 |[],_::_,r=>absurd r.1 (by simp)
 |_::_,[],r=>absurd r.1 (by simp)
 |v::vs,k::ks,r=>by
  rw[X5 r.head,Ma (ks:=ks) r.tail]
  rfl
def valQ(kts:List (List Key×T))(k:List Key):Option T:=(kts.find? fun kv=>decide (kv.1=k)).map (·.2)
def Hq(kts:List (List Key×T))(k:List Key)(t:T):List (List Key×T) :=
 if (kts.any fun kv=>decide (kv.1=k))=true then kts.map (fun kv=>if kv.1=k then (kv.1,t) else kv) else kts++[(k,t)]
theorem RepQ.tail{v:List Key×V}{t:List Key×T}{kvs:List (List Key×V)}{kts:List (List Key×T)}(r:RepQ K S H (v::kvs) (t::kts)):(v.1=t.1/\Rep K S H v.2 t.2)/\RepQ K S H kvs kts:=by
 refine⟨r.2 0 v t rfl rfl,?_,fun i v' t' a b=>r.2 (i+1) v' t' a b⟩
 have:=r.1
 simpa using this
theorem RepQ.val{k:List Key}:∀{kvs:List (List Key×V)} {kts:List (List Key×T)},RepQ K S H kvs kts->(∀t,valQ kts k=some t->∃v,valV kvs k=some v/\Rep K S H v t)/\(valQ kts k=none->valV kvs k=none)
 |[],[],_=>⟨fun t e=>(by simp[valQ] at e),fun _=>rfl⟩
 |[],_::_,h=>by have:=h.1;simp at this
 |_::_,[],h=>by have:=h.1;simp at this
 |v::kvs,t::kts,h=>by
  obtain⟨⟨h0,r0⟩,ht⟩:=h.tail
  have ih:=RepQ.val (k:=k) ht
  by_cases e:t.1=k
  ·have e':v.1=k:=h0.trans e
   have q1:valQ (t::kts) k=some t.2:=by simp[valQ,List.find?_cons,e]
   rw[q1,D1 e']
   exact⟨fun u eu=>by cases eu;exact⟨_,rfl,r0⟩,fun z=>by cases z⟩
  ·have e':¬ v.1=k:=fun z=>e (h0.symm.trans z)
   have q1:valQ (t::kts) k=valQ kts k:=by simp[valQ,List.find?_cons,e]
   rw[q1,D5 e']
   exact ih
theorem RepQ.any{k:List Key}:∀{kvs:List (List Key×V)} {kts:List (List Key×T)},RepQ K S H kvs kts->(kvs.any fun kv=>decide (kv.1=k))=(kts.any fun kv=>decide (kv.1=k))
 |[],[],_=>rfl
 |[],_::_,h=>by have:=h.1;simp at this
 |_::_,[],h=>by have:=h.1;simp at this
 |v::kvs,t::kts,h=>by
  obtain⟨⟨h0,_⟩,ht⟩:=h.tail
  rw[List.any_cons,List.any_cons,RepQ.any ht,h0]
theorem RepQ.put{k:List Key}{v:V}{t:T}{kvs:List (List Key×V)}{kts:List (List Key×T)}(r:RepQ K S H kvs kts)(rv:Rep K S H v t):RepQ K S H (Bx kvs k v) (Hq kts k t):=by
 have ha:=r.any (k:=k)
 unfold Bx Hq
 rw[ha]
 split
 ·refine⟨by rw[List.length_map,List.length_map];exact r.1,fun i v' t' e1 e2=>?_⟩
  rw[List.getElem?_map] at e1 e2
  cases h1:kvs[i]? with
  |none=>rw[h1] at e1;cases e1
  |some a =>
   cases h2:kts[i]? with
   |none=>rw[h2] at e2;cases e2
   |some b =>
    rw[h1] at e1
    rw[h2] at e2
    cases e1
    cases e2
    obtain⟨q,q2⟩:=r.2 i a b h1 h2
    dsimp only
    by_cases e:b.1=k
    ·rw[if_pos (q.trans e),if_pos e];exact⟨q,rv⟩
    ·rw[if_neg (fun z=>e (q.symm.trans z)),if_neg e];exact⟨q,q2⟩
 ·refine⟨by rw[List.length_append,List.length_append,r.1];rfl,fun i v' t' e1 e2=>?_⟩
  by_cases hi:i<kvs.length
  ·rw[List.getElem?_append_left hi] at e1
   rw[List.getElem?_append_left (by rw[<-r.1];exact hi)] at e2
   exact r.2 i v' t' e1 e2
  ·rw[List.getElem?_append_right (by omega)] at e1
   rw[List.getElem?_append_right (by have:=r.1;omega),<-r.1] at e2
   cases hk:i - kvs.length with
   |zero =>
    rw[hk] at e1 e2
    cases e1
    cases e2
    exact⟨rfl,rv⟩
   |succ n=>rw[hk] at e1;cases e1
theorem RepQ.mono{S':TH}{H':Hp}{kvs:List (List Key×V)}{kts:List (List Key×T)}(r:RepQ K S H kvs kts)(le:Le S H S' H'):RepQ K S' H' kvs kts:=⟨r.1,fun i v t a b=>⟨(r.2 i v t a b).1,(r.2 i v t a b).2.mono le⟩⟩
theorem Good.newQ{p:Addr}{kvs:List (List Key×V)}{kts:List (List Key×T)}(g:Good K S H)(hp:H p=none)(r:RepQ K S H kvs kts):Good K (updT S p (.dtt kts)) (upd H p (.dT kvs)):=fun a c e=>by
 have le:Le S H (updT S p (.dtt kts)) (upd H p (.dT kvs)):=Le.newC hp
 by_cases ha:a=p
 ·subst ha
  rw[Zd] at e
  cases e
  exact⟨kvs,Ak,r.mono le⟩
 ·rw[Ab ha] at e
  exact(g a c e).mono le (Xc ha)
theorem Good.writeQ{p:Addr}{kvs:List (List Key×V)}{kts:List (List Key×T)}{c:Cell}(g:Good K S H)(hp:S p=some c)(r:RepQ K S H kvs kts):Good K (updT S p (.dtt kts)) (upd H p (.dT kvs)):=fun a c' e=>by
 have le:Le S H (updT S p (.dtt kts)) (upd H p (.dT kvs)):=Le.write hp
 by_cases ha:a=p
 ·subst ha
  rw[Zd] at e
  cases e
  exact⟨kvs,Ak,r.mono le⟩
 ·rw[Ab ha] at e
  exact(g a c' e).mono le (Xc ha)
theorem Good.newP{p:Addr}{vs:List V}{ts:List T}(g:Good K S H)(hp:H p=none)(r:Reps K S H vs ts):Good K (updT S p (.tpl ts)) (upd H p (.tup vs)):=fun a c e=>by
 have le:Le S H (updT S p (.tpl ts)) (upd H p (.tup vs)):=Le.newC hp
 by_cases ha:a=p
 ·subst ha
  rw[Zd] at e
  cases e
  exact⟨vs,Ak,r.mono le⟩
 ·rw[Ab ha] at e
  exact(g a c e).mono le (Xc ha)
def We(neg:Bool):T->T->TH->UX->Prop:=fun y x S P=>∃p q kts ks,x=.ref p/\y=.ref q/\S p=some (.dtt kts)/\S q=some (.tpl (ks.map kT))/\P (.bl (Bool.xor neg (valQ kts ks).isSome)) S
theorem Oy{p q:Addr}{kts:List (List Key×T)}{ks:List Key}(g:Good K S H)(e1:S p=some (.dtt kts))(e2:S q=some (.tpl (ks.map kT))):∃kvs,H p=some (.dT kvs)/\RepQ K S H kvs kts/\H q=some (.tup (ks.map kV))/\DGet H p (.ref q) (valV kvs ks):=by
 obtain⟨kvs,h1,r⟩:=g p _ e1
 obtain⟨vs,h2,r2⟩:=g q _ e2
 have ev:=Ma r2
 subst ev
 exact⟨kvs,h1,r,h2,.inr ⟨kvs,ks,q,.inl h1,rfl,h2,rfl⟩⟩
theorem Qg:LOp K (fun y x H Q=>∃a o,x=.ref a/\DGet H a y o/\Q (.bl (!o.isSome)) H) (We true):=fun S H v w y x P Q g ry rx ho fin=>by
 obtain⟨p,q,kts,ks,rfl,rfl,e1,e2,h⟩:=ho
 cases rx
 cases ry
 obtain⟨kvs,h1,r,h2,dg⟩:=Oy g e1 e2
 refine⟨p,_,rfl,dg,?_⟩
 have rv:=r.val (k:=ks)
 cases hq:valQ kts ks with
 |none=>rw[hq] at h;rw[rv.2 hq];exact fin _ _ S H .refl g (.bl _) h
 |some t =>
  rw[hq] at h
  obtain⟨u,eu,_⟩:=rv.1 t hq
  rw[eu]
  exact fin _ _ S H .refl g (.bl _) h
end
section
variable{X:Cx}{a b o e i:Expr}{ta tb to te ti:UTE}{tr:UTA}{es:List Expr}{pos pos':Pos}
theorem Jx(hu:X.A.units+1<cLine)(ha:UE X a ta)(hb:UE X b tb)(hm:behindInMarks .NotIn b=false:=by with_unfolding_all rfl):UT X (.Compare a [.NotIn] [b] pos) (A4 (A0 (We true) ta tb)):=Bf (N1 hu) Qg ha hb hm
def uTupC(tr:UTA):UTE:=fun env S P=>tr env S fun ts S1=>ts.length<=sizeLine/\∀p,S1 p=none->P (.ref p) (updT S1 p (.tpl ts))
theorem T4{x1}(h:UA X es tr):UE X (.Tuple es x1 pos) (uTupC tr):=PE.imp (Pz h) fun σ H Q ⟨S,env,P,g,re,h,fin⟩ =>
 Ai ⟨g,re⟩ h fun vs xs S1 H1 le1 m1 rx h1=>⟨by rw[rx.1];exact h1.1,fun p hp=>fin _ _ _ _ (le1.trans (Le.newC hp)) (m1.g.newP hp rx) (.ref p) (h1.2 p (m1.g.free hp))⟩
def uQNew:UTE:=fun _ S P=>∀p,S p=none->P (.ref p) (updT S p (.dtt []))
theorem Mm:UE X (.Dict [] [] pos) uQNew:=PE.imp O3 fun σ H Q ⟨S,env,P,g,re,h,fin⟩=>fun p hp =>
 fin _ _ _ _ (Le.newC hp) (g.newQ hp ⟨rfl,fun _ _ _ e=>by simp at e⟩) (.ref p) (h p (g.free hp))
def oDxQ:T->T->TH->UX->Prop:=fun x y S P=>∃p q kts ks t,x=.ref p/\y=.ref q/\S p=some (.dtt kts)/\S q=some (.tpl (ks.map kT))/\valQ kts ks=some t/\P t S
theorem lDxQ{K:PySem.W.Frag}:LOp K (fun x y H Q=>∃a v,x=.ref a/\DGet H a y (some v)/\Q v H) oDxQ:=fun S H v w x y P Q g rx ry ho fin=>by
 obtain⟨p,q,kts,ks,t,rfl,rfl,e1,e2,ev,h⟩:=ho
 cases rx
 cases ry
 obtain⟨kvs,h1,r,h2,dg⟩:=Oy g e1 e2
 obtain⟨u,eu,ru⟩:=(r.val (k:=ks)).1 t ev
 rw[eu] at dg
 exact⟨p,u,rfl,dg,fin _ _ S H .refl g ru h⟩
theorem Y9(hu:X.A.units+1<cLine)(ha:UE X a ta)(hb:UE X b tb)(hs:Nu b:=by intro _ _;rfl):UE X (.Subscript a b pos) (A0 oDxQ ta tb):=PE.imp (K5 hu ha hb hs) fun _ _ _ h=>Gj lDxQ h
def uSetQ(te to ti:UTE):UTS:=fun E env S=>te env S fun x S1=>to env S1 fun o S2=>ti env S2 fun i S3=>∃p q kts ks,o=.ref p/\i=.ref q/\S3 p=some (.dtt kts)/\S3 q=some (.tpl (ks.map kT))/\kts.length<sizeLine/\E.nx env (updT S3 p (.dtt (Hq kts ks x)))
theorem Uv(hu:X.A.units+1<cLine)(he:UE X e te)(ho:UE X o to)(hi:UE X i ti)(hs:swapsWith e (some (.Subscript o i pos')) pos.line X.env=pure false:=by rfl):US X (.Assign [.Subscript o i pos'] e pos) (uSetQ te to ti) :=
 PS.imp (Uu hu ho hi he hs) fun D σ H ⟨S,env,E,g,re,h,fin⟩ =>
 Za ⟨g,re⟩ h fun v x S1 H1 le1 m1 rx h1=>Za m1 h1 fun ov o S2 H2 le2 m2 ro h2=>Za m2 h2 fun iv i S3 H3 le3 m3 ri h3=>by
  obtain⟨p,q,kts,ks,rfl,rfl,e1,e2,hl,h4⟩:=h3
  cases ro
  cases ri
  obtain⟨kvs,hp,r,hq,_⟩:=Oy m3.g e1 e2
  have rx3:=rx.mono (le2.trans le3)
  refine⟨p,upd H3 p (.dT (Bx kvs ks v)),rfl,DPut.t hp hq (by rw[r.1];exact hl),?_⟩
  exact fin.nx σ env _ _ (le1.trans (le2.trans (le3.trans (Le.write e1)))) (m3.g.writeQ e1 (r.put rx3)) (m3.re.mono (Le.write e1)) h4
end
end TL
end
section
namespace L2
open PySem PySem.Spec PyProof.Rows
structure ZipLL(h:Heap)(z ti to i1 i2 t1 t2:Addr)(i:Nat):Prop where
 z:IsZip h z ti to .none
 ti:IsPair h ti (.ref i1) (.ref i2)
 to:∃a b,IsPair h to a b
 i1:h.IsListIter i1 t1 i
 i2:h.IsListIter i2 t2 i
def ItzL (K:PySem.W.Frag) (a b:Addr):It :=
  ⟨fun i H=>∃ xs ys x y,SqL K H a xs /\ SqL K H b ys /\ xs[i]? = some x /\ ys[i]? = some y,
   fun i H v H'=>∃ p x y,H p = none /\ v = .ref p /\ H' = upd H p (.tup [x,y]) /\ (∀ xs,SqL K H a xs->xs[i]? = some x) /\ ∀ ys,SqL K H b ys->ys[i]? = some y,
   fun i H=>∃ xs ys,SqL K H a xs /\ SqL K H b ys /\ xs.length <= i⟩
theorem Jg{h h':Heap}{j t:Addr}{k:Nat}(q:h.IsListIter j t k)(e:∀o,h.get? j=some o->h'.get? j=some o):h'.IsListIter j t k:=by
 obtain⟨o,q,r⟩:=q
 exact⟨o,e o q,r⟩
theorem Mr{P:Program}{w:World}{K:PySem.W.Frag}{es:List Expr}{k:Nat}{pos:Pos}{z ti to i1 i2 a b:Addr}(D:ZipApart z ti to i1 i2 a b):Turn P w K (.Tuple es k pos) (ItzL K a b) [z,ti,to,i1,i2] z (fun i h=>ZipLL h z ti to i1 i2 a b i) where
 mem:=by simp
 obj:=fun i h st c hc=>by
  obtain⟨hz,hTI,⟨x,y,hTO⟩,h1,h2⟩:=st
  simp only[List.mem_cons,List.not_mem_nil,or_false] at hc
  rcases hc with rfl|rfl|rfl|rfl|rfl
  ·exact⟨_,hz,fun v q=>by cases q⟩
  ·exact⟨_,hTI,fun v q=>by cases q⟩
  ·exact⟨_,hTO,fun v q=>by cases q⟩
  ·obtain⟨o,e,c,d⟩:=h1;exact⟨o,e,fun v q=>by rw[d] at q;cases q⟩
  ·obtain⟨o,e,c,d⟩:=h2;exact⟨o,e,fun v q=>by rw[d] at q;cases q⟩
 keep:=fun i h h' st kk=>by
  obtain⟨hz,hTI,⟨x,y,hTO⟩,h1,h2⟩:=st
  exact⟨kk z (by simp) _ hz,kk ti (by simp) _ hTI,⟨x,y,kk to (by simp) _ hTO⟩,Jg h1 fun o e=>kk i1 (by simp) o e,Jg h2 fun o e=>kk i2 (by simp) o e⟩
 item:=by
  intro X hP hw hK hc i pins s σ H E I hf st hg
  subst hP hw hK
  obtain⟨xs,ys,x,y,q1,q2,e1,e2⟩:=hg
  obtain⟨us,r1,p1,_⟩:=I.list q1
  replace p1:=p1.isList
  obtain⟨ws,r2,p2,_⟩:=I.list q2
  replace p2:=p2.isList
  obtain⟨u,hu,ru⟩:=r1.get e1
  obtain⟨v,hv,rv⟩:=r2.get e2
  have d:=st
  obtain⟨pa,pb,sto⟩:=st.to
  refine wpAny_pyNext_zip_item (xs:=us.toArray) (ys:=ws.toArray) D st.z st.ti sto st.i1 st.i2 p1 p2 (x:=u) (y:=v) (by simpa using hu) (by simpa using hv) fun g a1 a2 a3 a4 a5 _ kk=>⟨_,rfl,?_⟩
  refine wpAny_letOwnedTupleGo_zip a1 fun g' z' sb=>?_
  have zl:z<s.heap.objs.size:=Heap.lt_size d.z
  have nz:s.heap.objs.size≠z:=Nat.ne_of_gt zl
  have up:∀c o,c ∉ [z,to,i1,i2]->s.heap.get? c=some o->g'.get? c=some o:=fun c o hc' e=>by
   simp only[List.mem_cons,List.not_mem_nil,or_false,not_or] at hc'
   exact sb.extBut _ _ hc'.1 (kk c o hc'.1 hc'.2.1 hc'.2.2.1 hc'.2.2.2 e)
  have sub:∀c∈[z,to,i1,i2],c∈[z,ti,to,i1,i2]:=fun c hc'=>by
   simp only[List.mem_cons,List.not_mem_nil,or_false] at hc' ⊢
   rcases hc' with q|q|q|q
   ·exact .inl q
   ·exact .inr (.inr (.inl q))
   ·exact .inr (.inr (.inr (.inl q)))
   ·exact .inr (.inr (.inr (.inr q)))
  have I1:Inv X pins σ H { s with heap:=g' }:=I.turns (t':=s.toks) up fun c hc'=>hf c (sub c hc')
  have t':IsPair g' s.heap.objs.size u v:=sb.extBut _ _ nz a5
  have I2:=I1.track (a:=s.heap.objs.size) (o:=.tup [x,y]) (I.fpOk (Nat.le_refl _) I.fresh) ⟨by show 2<=sizeLine;decide,[u,v],.cons ru (.cons rv .nil),⟨_,t',rfl,⟨_,rfl⟩,rfl⟩⟩
  refine⟨.ref s.heap.objs.size,_,I2,rfl,⟨_,x,y,I.fresh,rfl,rfl,fun xs' q=>by rw[I.list_inj q q1];exact e1,fun ys' q=>by rw[I.list_inj q q2];exact e2⟩,?_,fun c hc'=>?_⟩
  ·refine⟨z',?_,⟨_,_,sb.extBut _ _ D.TOz a2⟩,a3.extBut sb.extBut D.i1z,a4.extBut sb.extBut D.i2z⟩
   exact sb.extBut _ _ D.TIz (kk _ _ D.TIz D.TITO D.TIi1 D.TIi2 d.ti)
  ·have ne:c≠s.heap.objs.size:=by
    have ex:∃o,s.heap.get? c=some o:=by
     obtain⟨hz,hTI,⟨x',y',hTO⟩,h1,h2⟩:=d
     simp only[List.mem_cons,List.not_mem_nil,or_false] at hc'
     rcases hc' with rfl|rfl|rfl|rfl|rfl
     ·exact⟨_,hz⟩
     ·exact⟨_,hTI⟩
     ·exact⟨_,hTO⟩
     ·obtain⟨o,e,_⟩:=h1;exact⟨o,e⟩
     ·obtain⟨o,e,_⟩:=h2;exact⟨o,e⟩
    obtain⟨o,e⟩:=ex
    exact Nat.ne_of_lt (Heap.lt_size e)
   rw[Xc ne]
   exact(hf c hc').1
 done:=by
  intro X hP hw hK hc i pins s σ H E I hf st hg
  subst hP hw hK
  obtain⟨xs,ys,q1,q2,hl⟩:=hg
  obtain⟨ws,r2,p2,_⟩:=I.list q2
  replace p2:=p2.isList
  obtain⟨pa,pb,sto⟩:=st.to
  obtain⟨us,r1,p1,_⟩:=I.list q1
  replace p1:=p1.isList
  have e:=r1.length
  have sub:∀c∈[z,to,i1,i2],c∈[z,ti,to,i1,i2]:=fun c hc'=>by
   simp only[List.mem_cons,List.not_mem_nil,or_false] at hc' ⊢
   rcases hc' with q|q|q|q
   ·exact .inl q
   ·exact .inr (.inr (.inl q))
   ·exact .inr (.inr (.inr (.inl q)))
   ·exact .inr (.inr (.inr (.inr q)))
  refine wpAny_pyNext_zip_end (xs:=us.toArray) (ys:=ws.toArray) (I.ok.hd hc) D st.z st.ti sto st.i1 st.i2 p1 p2 (.inl (by simp;omega)) fun g kk=>⟨rfl,I.turns (t':=s.toks) (ch:=[z,to,i1,i2]) (fun c o hc' e=>?_) fun c hc'=>hf c (sub c hc')⟩
  simp only[List.mem_cons,List.not_mem_nil,or_false,not_or] at hc'
  exact kk c o hc'.1 hc'.2.1 hc'.2.2.1 hc'.2.2.2 e
 self:=fun _ _ _ _ _ st h=>wpAny_pyIter_zip st.z h
def iZipL(K:PySem.W.Frag)(ta:TA):TI:=fun σ H R=>ta σ H fun vs H1=>∃a b xs ys,vs=[.ref a,.ref b]/\SqL K H1 a xs/\SqL K H1 b ys/\R (ItzL K a b) H1
theorem T3{X:Cx}{a b:Expr}{ta:TA}{p pos tp:Pos}{es:List Expr}{k:Nat}(hg:Gl X "zip")(hm:X.mg "zip"=none)(hv:bootBuiltins "zip"=some (.type "zip"))(ha:PA X [a,b] ta)
  (hs:starEach [a,b] X.env=[(false,eval a X.env),(false,eval b X.env)]:=by rfl) (hs2:starEach [b] X.env=[(false,eval b X.env)]:=by rfl):PI X (.Tuple es k tp) (.Call (.Name "zip" p) [a,b] [] pos) (iZipL X.K ta):=by
 intro pins s σ H R I h
 refine Call_ (Br I hg hm hv (PyProof.Rows.callWith_type1 (thn (ha pos pins s σ H _ I h) fun us s1 h1=>?_) (by rw[hs,hs2]) (by rw[hs2];rfl)))
 obtain⟨vs,H1,I1,r1,q1⟩:=h1
 obtain⟨c,d,xs,ys,rfl,q,q',hR⟩:=q1
 obtain⟨u,v,rfl,ru,rv⟩:=r1.two
 cases ru
 cases rv
 obtain⟨is,r,p1,_⟩:=I1.list q
 replace p1:=p1.isList
 obtain⟨js,r',p2,_⟩:=I1.list q'
 replace p2:=p2.isList
 have lt:∀{x:Addr} {its:List Value},s1.heap.IsList x its.toArray->x<s1.heap.objs.size:=fun z=>by
  obtain⟨o,e,_⟩:=z
  exact Heap.lt_size e
 refine call_zip_2 (xs:=is.toArray) (ys:=js.toArray) p1 p2 fun g b1 b2 b3 b4 b5 _ kk=>wpAny_pyIter_zip b1 ?_
 have Z:ZipLL g (s1.heap.objs.size+4) (s1.heap.objs.size+2) (s1.heap.objs.size+3) s1.heap.objs.size (s1.heap.objs.size+1) c d 0:=⟨b1,b2,⟨_,_,b3⟩,b4,b5⟩
 refine⟨s1.heap.objs.size+4,[s1.heap.objs.size+4,s1.heap.objs.size+2,s1.heap.objs.size+3,s1.heap.objs.size,s1.heap.objs.size+1],_,_,H1,rfl,I1.kept (t':=s1.toks) kk,Mr (zipApart_new (lt p1) (lt p2)),Z,fun x hx=>?_,hR⟩
 have hl:s1.heap.objs.size<=x:=by
  simp only[List.mem_cons,List.not_mem_nil,or_false] at hx
  rcases hx with rfl|rfl|rfl|rfl|rfl <;> omega
 exact I1.fpOk hl (I1.hok.fresh hl)
end L2
end
section
namespace TL
open PySem PySem.Spec PyProof.Rows L2
section
variable{K:PySem.W.Frag}{S:TH}{H:Hp}
theorem Oa{a b:Addr}{vs ws:List V}{xs ys:List T}(f:∀S2 H2,Le S H S2 H2->SqL K H2 a vs)(r:Reps K S H vs xs)(f':∀S2 H2,Le S H S2 H2->SqL K H2 b ws)(r':Reps K S H ws ys)(hl:xs.length=ys.length):Ylds K (ItzL K a b) (Te xs ys) S H:=by
 have hz:(Te xs ys).length=xs.length:=by simp[Te];omega
 refine⟨fun i S2 H2 le g hi=>?_,fun S2 H2 le g=>?_,fun i S2 H2 x H3 le g hi y=>?_⟩
 ·rw[hz] at hi
  have h1:i<vs.length:=by rw[r.1];exact hi
  have h2:i<ws.length:=by rw[r'.1];omega
  exact⟨vs,ws,vs[i],ws[i],f _ _ le,f' _ _ le,List.getElem?_eq_getElem h1,List.getElem?_eq_getElem h2⟩
 ·rw[hz]
  exact⟨vs,ws,f _ _ le,f' _ _ le,by rw[r.1];exact Nat.le_refl _⟩
 ·obtain⟨p,v,w,hp,rfl,rfl,e1,e2⟩:=y
  obtain⟨t,et,rt⟩:=r.get' (e1 vs (f _ _ le))
  obtain⟨u,eu,ru⟩:=r'.get' (e2 ws (f' _ _ le))
  have ln:Le S2 H2 S2 (upd H2 p (.tup [v,w])):=Le.new g hp
  refine⟨ln,g.new hp,.tup [t,u],?_,.tupI (.inl ⟨g.free hp,Ak⟩) (.cons (rt.mono (le.trans ln)) (.cons (ru.mono (le.trans ln)) .nil))⟩
  simp[Te,List.getElem?_zipWith,et,eu]
end
section
variable{X:Cx}{a b:Expr}{tr:UTA}{es:List Expr}{pos:Pos}
def uZipL(t:UTA):UTA:=fun env S P=>t env S fun ts S1=>match ts with
 |[.lst xs,.lst ys]=>xs.length=ys.length/\P (Te xs ys) S1
 |_=>False
theorem Vf{k:Nat}{p tp:Pos}(hg:Gl X "zip")(hm:X.mg "zip"=none)(ha:UA X [a,b] tr)(hs:starEach [a,b] X.env=[(false,eval a X.env),(false,eval b X.env)]:=by rfl)(hs2:starEach [b] X.env=[(false,eval b X.env)]:=by rfl):
  UI X (.Tuple es k tp) (.Call (.Name "zip" p) [a,b] [] pos) (uZipL tr):=PI.imp (T3 hg hm boot_zip ha hs hs2) fun σ H R ⟨S,env,P,g,re,h,fin⟩=>Ai ⟨g,re⟩ h fun vs xs S1 H1 le1 m1 rx h1=>by
 match xs,rx,h1 with
 |[.lst xs,.lst ys],rx,h1 =>
  obtain⟨v,w,rfl,r1,r2⟩:=rx.two
  obtain⟨l,us,rfl,f,r⟩:=r1.lstE
  obtain⟨l',us',rfl,f',r'⟩:=r2.lstE
  exact⟨l,l',us,us',rfl,f.sq,f'.sq,fin _ _ S1 H1 le1 m1.g h1.2 (Oa (fun _ _ le=>(f.mono le).sq) r (fun _ _ le=>(f'.mono le).sq) r' h1.1)⟩
end
end TL
end
section
namespace L2
open PySem PySem.Spec PyProof.Rows
def cxCompX(X:Cx)(z:Str)(N:List Str)(scope:Scope)(C c:Addr)(s:Shared)(H:Hp)(fp:List Addr)(pins:List (Addr×Obj)):Cx where
 prog:=X.prog
 w:=X.w
 K:=X.K
 mg:=X.mg
 base:=X.base
 A:=X.A
 N:=N
 s₀:=s
 H₀:=H
 env:=compEnvC scope ((z,c)::clOf scope.names X.env.cells []) C X.env
 outer:=X.stack
 stack:=X.stack
 ex:=fp
 fn:=fun y=>y==z
 calm:=X.calm
 pn:=X.pn++pins
 xe:=fun _ _=>False
def oneCell(z:Str):List (Str×NameKind)->Bool
 |[]=>false
 |(n,k)::r=>if k==.cell then n==z&&r.all (fun y=>y.2 != .cell) else oneCell z r
def scopeOkC(z:Str)(on:List (Str×NameKind))(cn:List (Str×NameKind)):Bool :=
 (cn.all fun y=>(y.2 != .free || (on.lookup y.1==some .cell || on.lookup y.1==some .free))&&(y.2 != .local || cn.lookup y.1==some .local)&&(y.2 != .free || cn.lookup y.1==some .free))&&(oneCell z cn&&cn.lookup z==some .cell)
section
variable{z:Str}{on cn:List (Str×NameKind)}
theorem oneCell.at:∀{cn:List (Str×NameKind)},oneCell z cn=true->∀y∈cn,y.2=.cell->y.1=z
 |[],h,_,_,_=>by cases h
 |(n,k)::r,h,y,hy,e=>by
  unfold oneCell at h
  by_cases hk:(k==NameKind.cell)=true
  ·rw[if_pos hk,Bool.and_eq_true] at h
   rcases List.mem_cons.mp hy with q|q
   ·subst q;simpa using h.1
   ·exact absurd e (Bu (List.all_eq_true.mp h.2 y q))
  ·rw[if_neg hk] at h
   rcases List.mem_cons.mp hy with q|q
   ·subst q
    have e:k=NameKind.cell:=e
    exact absurd (by rw[e];rfl) hk
   ·exact oneCell.at h y q e
theorem Eu{n:Nat}:∀{cn:List (Str×NameKind)} {acc:List (Str×Addr)},(cn.all fun y=>y.2 != .cell)=true->cellsFrom n cn acc=acc
 |[],_,_=>rfl
 |(m,k)::r,acc,h=>by
  rw[List.all_cons,Bool.and_eq_true] at h
  unfold cellsFrom
  rw[if_neg (fun q=>absurd (C1 q) (Bu h.1))]
  exact Eu h.2
theorem E1{g:Heap}:∀{cn:List (Str×NameKind)},(cn.all fun y=>y.2 != .cell)=true->pushCells g cn=g
 |[],_=>rfl
 |(m,k)::r,h=>by
  rw[List.all_cons,Bool.and_eq_true] at h
  unfold pushCells
  rw[if_neg (fun q=>absurd (C1 q) (Bu h.1))]
  exact E1 h.2
theorem oneCell.from{n:Nat}:∀{cn:List (Str×NameKind)} {acc:List (Str×Addr)},oneCell z cn=true->cellsFrom n cn acc=(z,n)::acc
 |[],_,h=>by cases h
 |(m,k)::r,acc,h=>by
  unfold oneCell at h
  unfold cellsFrom
  by_cases hk:(k==NameKind.cell)=true
  ·rw[if_pos hk,Bool.and_eq_true] at h
   have e:m=z:=by simpa using h.1
   rw[if_pos hk,Eu h.2,e]
  ·rw[if_neg hk] at h
   rw[if_neg hk]
   exact oneCell.from h
theorem oneCell.push{g:Heap}:∀{cn:List (Str×NameKind)},oneCell z cn=true->pushCells g cn=g.push { cls:=.type "cell",data:=.cell none }
 |[],h=>by cases h
 |(m,k)::r,h=>by
  unfold oneCell at h
  unfold pushCells
  by_cases hk:(k==NameKind.cell)=true
  ·rw[if_pos hk,Bool.and_eq_true] at h
   rw[if_pos hk,E1 h.2]
  ·rw[if_neg hk] at h
   rw[if_neg hk]
   exact oneCell.push h
theorem scopeOkC.one(h:scopeOkC z on cn=true):oneCell z cn=true:=by
 simp only[scopeOkC,Bool.and_eq_true] at h
 exact h.2.1
theorem scopeOkC.cell(h:scopeOkC z on cn=true):∀y∈cn,y.2=.cell->y.1=z:=oneCell.at (scopeOkC.one h)
theorem scopeOkC.is(h:scopeOkC z on cn=true):cn.lookup z=some .cell:=by
 simp only[scopeOkC,Bool.and_eq_true] at h
 exact A6 h.2.2
theorem scopeOkC.out(h:scopeOkC z on cn=true):∀y∈cn,y.2=.free->on.lookup y.1=some .cell\/on.lookup y.1=some .free:=fun y hy e=>by
 simp only[scopeOkC,Bool.and_eq_true] at h
 have q:=List.all_eq_true.mp h.1 y hy
 simp only[Bool.and_eq_true,Bool.or_eq_true] at q
 rcases q.1.1 with z|z
 ·exact absurd e (Bu z)
 ·rcases z with z|z
  ·exact .inl (A6 z)
  ·exact .inr (A6 z)
theorem scopeOkC.loc(h:scopeOkC z on cn=true):∀y∈cn,y.2=.local->cn.lookup y.1=some .local:=fun y hy e=>by
 simp only[scopeOkC,Bool.and_eq_true] at h
 have q:=List.all_eq_true.mp h.1 y hy
 simp only[Bool.and_eq_true,Bool.or_eq_true] at q
 rcases q.1.2 with z|z
 ·exact absurd e (Bu z)
 ·exact A6 z
end
theorem lookup_cl{z y:Str}{c d:Addr}{cl:List (Str×Addr)}(h:((z,c)::cl).lookup y=some d):(y=z/\d=c)\/(y≠z/\cl.lookup y=some d):=by
 rw[List.lookup_cons] at h
 cases e:(y==z) with
 |true=>rw[e] at h;exact .inl ⟨by simpa using e,(Option.some.inj h).symm⟩
 |false=>rw[e] at h;exact .inr ⟨by simpa using e,h⟩
theorem Du{z y:Str}{c:Addr}{cl:List (Str×Addr)}(h:y≠z):((z,c)::cl).lookup y=cl.lookup y:=by
 rw[List.lookup_cons,show (y==z)=false from by simpa using h]
theorem G6{z:Str}{c:Addr}{cl:List (Str×Addr)}:((z,c)::cl).lookup z=some c:=by
 rw[List.lookup_cons,show (z==z)=true from by simp]
theorem Kt{M:Model}{A:Around}{E:Value->Shared->Prop}{s:Shared}{scope:Scope}{z:Str}{globals:Addr}{cl:List (Str×Addr)}{qual:Str}{env:Env}{Q:Env->Shared->Prop}(h1:oneCell z scope.names=true)
  (hQ:∀h',h'.Ns s.heap.objs.size (fun _=>none)->(∀b o,s.heap.get? b=some o->h'.get? b=some o)->h'.IsCell (s.heap.objs.size+1) none->Q (newEnv scope s.heap.objs.size globals ((z,s.heap.objs.size+1)::cl) qual none .none (some env) builtinsNs) { s with heap:=h' }) :
  wpAny M A (newFunctionEnv scope globals cl [] qual none .none (some env)) Q E s:=by
 simp only[newFunctionEnv,Option.isSome_some,if_true]
 refine wpAny_bind (wpAny_alloc ?_)
 refine wpAny_bind (wpAny_layCells _ (fun name kind cells=>by cases hkc:kind==NameKind.cell <;> simp[hkc]) _ _ _ _ ?_)
 rw[show ({ s with heap:=s.heap.push { cls:=.type "dict",data:=.dict #[] } }:Shared).heap.objs.size=s.heap.objs.size+1 from Heap.size_push ..]
 rw[oneCell.from h1]
 refine wpAny_bind ?_
 rw[List.forIn_nil]
 refine wpAny_pure (wpAny_pure ?_)
 refine hQ _ ?_ (fun b o e=>?_) ?_
 ·exact(Heap.Ns.new s.heap (.type "dict")).keeps (pushCells_keeps _ _)
 ·exact pushCells_keeps _ _ b o (Heap.get?_push_of_some _ e)
 ·rw[oneCell.push h1]
  have sz:(s.heap.push { cls:=.type "dict",data:=.dict #[] }).objs.size=s.heap.objs.size+1:=Heap.size_push ..
  exact⟨_,by rw[<-sz];exact Heap.get?_push_size _ rfl,rfl⟩
section
variable{X:Cx}{pins:List (Addr×Obj)}{σ:St}{H:Hp}{s:Shared}
theorem C3(I:Inv X pins σ H s){z:Str}{scope:Scope}(hs:scopeOkC z X.env.scope.names scope.names=true):∀y∈scope.names,y.2=NameKind.free->(X.env.cells.lookup y.1).isSome=true:=fun y hy e=>by
 obtain⟨c,hc⟩:=I.ok.has y.1 (scopeOkC.out hs y hy e)
 rw[hc];rfl
theorem Hf{scope:Scope}{env:Env}{x:Str}(h:scope.names.lookup x=some .cell):(relabel scope env).names.lookup x=some .cell:=by
 rw[By]
 rcases(relab env).lookup (x:=x) scope.names with q|⟨q1,q2⟩
 ·rw[q];exact h
 ·rw[h] at q1;cases q1
theorem Op{z:Str}{c0:Addr}(I:Inv X pins σ H s){N:List Str}{scope:Scope}{pick:List (Option Nat)}{fp:List Addr}{C D:Addr}{h₁:Heap}{tk:Nat}{ob:Obj}
  (hs:scopeOkC z X.env.scope.names scope.names=true) (hp:A2 X.N scope.names N pick=true) (hk:scope.kind=.function)
  (hf:∀b∈fp,FpOk X pins H b) (ho:∀b∈fp,∃o,s.heap.get? b=some o/\∀v,o.data≠.cell v)
  (hC:s.heap.objs.size<=C) (hC0:s.heap.objs.size<=c0) (hc0:h₁.IsCell c0 none) (hD:s.heap.objs.size<=D) (hDC:D≠C) (keep:∀b o,s.heap.get? b=some o->h₁.get? b=some o)
  (ns:h₁.Ns C fun _=>none) (hl:h₁.get? D=some ob) (hob:∀v,ob.data≠.cell v) :
  Inv (cxCompX X z N scope C c0 s H fp pins) [(D,ob)] (Xq pick σ) H { s with heap:=h₁,toks:=tk }:=by
 have cells:=C3 I hs
 have sub:∀x c,(clOf scope.names X.env.cells []).lookup x=some c->X.env.cells.lookup x=some c:=fun x c e=>Bm cells (fun z=>by cases z) e
 have lt:∀{b o},s.heap.get? b=some o->b<s.heap.objs.size:=fun e=>Heap.lt_size e
 have old0:∀x c,X.env.cells.lookup x=some c->c≠c0:=fun x c e q=>by
  obtain⟨v,o,ho',_⟩:=I.cell x c e
  rw[q] at ho'
  exact Nat.lt_irrefl _ (Nat.lt_of_lt_of_le (lt ho') hC0)
 simp only[A2,Bool.and_eq_true] at hp
 obtain⟨hpl,hpa⟩:=hp
 have hpl:N.length=pick.length:=by simpa using hpl
 have ok:(cxCompX X z N scope C c0 s H fp pins).Ok:=by
  refine⟨I.ok.mod,hk,I.ok.glob,I.ok.blt,hC,fun x y c e1 e2=>?_,fun x hx=>?_,fun x c e h'=>?_,I.ok.hd,I.ok.frames,.inl rfl,fun b hb=>⟨?_,fun x c e=>?_⟩,I.bs,Nat.le_trans I.ok.bsz I.sz,fun b o e hb=>?_,fun b hb hb'=>?_,I.stack,I.stkFree⟩
  ·rcases lookup_cl e1 with⟨a1,b1⟩|⟨a1,b1⟩
   ·rcases lookup_cl e2 with⟨a2,b2⟩|⟨a2,b2⟩
    ·rw[a1,a2]
    ·exact absurd b1 (old0 y c (sub y c b2))
   ·rcases lookup_cl e2 with⟨a2,b2⟩|⟨a2,b2⟩
    ·exact absurd b2 (old0 x c (sub x c b1))
    ·exact I.ok.inj x y c (sub x c b1) (sub y c b2)
  ·by_cases xz:x=z
   ·exact⟨c0,by rw[xz];exact G6⟩
   have hfree:scope.names.lookup x=some .free:=by
    rcases hx with z'|z'
    ·rcases relabel_lookup z' with q|⟨_,q⟩
     ·exact absurd (scopeOkC.cell hs _ (PySem.mem_of_lookup q) rfl) xz
     ·exact q
    ·rcases relabel_lookup z' with q|⟨q,_⟩
     ·exact q
     ·cases q
   obtain⟨d,hd⟩:=Option.isSome_iff_exists.mp (Co (cells:=X.env.cells) (acc:=[]) (.inr ⟨_,PySem.mem_of_lookup hfree,rfl,rfl⟩))
   exact⟨d,by show ((z,c0)::_).lookup x=_;rw[Du xz];exact hd⟩
  ·rcases lookup_cl h' with⟨_,b1⟩|⟨a1,_⟩
   ·rw[b1];exact hC0
   ·have e:(x==z)=true:=e
    exact absurd (by simpa using e) a1
  ·obtain⟨o,e,_⟩:=ho b hb
   exact Nat.ne_of_lt (Nat.lt_of_lt_of_le (lt e) hC)
  ·rcases lookup_cl e with⟨_,b1⟩|⟨_,b1⟩
   ·obtain⟨o,e',_⟩:=ho b hb
    rw[b1]
    intro q
    rw[<-q] at e'
    exact Nat.lt_irrefl _ (Nat.lt_of_lt_of_le (lt e') hC0)
   ·exact(hf b hb).2.2.2.2.1 x c (sub x c b1)
  ·rcases(hf b hb).2.2.2.1 with z|z
   ·exact I.ok.noex b o e z
   ·exact absurd (Nat.lt_of_lt_of_le (Heap.lt_size (I.ok.bs b o e).1) z) (Nat.lt_irrefl _)
  ·rcases List.mem_cons.mp (I.stkSub b hb') with z|z
   ·exact(hf b hb).2.1 z
   ·exact(hf b hb).2.2.1 z
 have fresh:∀{a:Addr},s.heap.objs.size<=a->H a=none:=fun h=>I.hok.fresh h
 have nst:∀{a:Addr},s.heap.objs.size<=a->a ∉ frs X.stack:=fun {a} h hb=>by
  rcases List.mem_cons.mp (I.stkSub _ hb) with z|z
  ·rw[z] at h
   exact absurd (Nat.lt_of_lt_of_le I.lt h) (Nat.lt_irrefl _)
  ·exact I.nofs h z
 refine⟨ok,rfl,I.bare,Un.kept keep,⟨_,ns,fun i x v e1 e2 e3=>?_⟩,fun x c e=>?_,fresh hC,fun x c e=>?_,fun p hp=>?_,I.hok.kept keep,?_⟩
 ·-- a free name's value is the cell's
  have e2:(Xq pick σ)[i]?=some (some v):=e2
  have e1:N[i]?=some x:=e1
  unfold Xq at e2
  rw[List.getElem?_map] at e2
  cases ep:pick[i]? with
  |none=>rw[ep] at e2;cases e2
  |some o =>
   rw[ep] at e2
   cases o with
   |none=>cases e2
   |some j =>
    have hz:(x,some j)∈N.zip pick:=by
     have:=List.getElem?_zip_eq_some (l₁:=N) (l₂:=pick) (i:=i) (z:=(x,some j))
     exact List.mem_of_getElem? (this.mpr ⟨e1,ep⟩)
    have q:=List.all_eq_true.mp hpa _ hz
    simp only[Bool.and_eq_true] at q
    have qN:X.N[j]?=some x:=by simpa using q.1
    have qF:scope.names.lookup x=some .free:=A6 q.2
    have eσ:σ[j]?=some (some v):=by
     cases eo:σ[j]? with
     |none=>simp only[eo,Option.map_some,Option.some.injEq] at e2;cases e2
     |some ov =>
      cases ov with
      |none=>simp only[eo,Option.map_some,Option.some.injEq] at e2;cases e2
      |some v'=>simp only[eo,Option.map_some,Option.some.injEq] at e2;rw[e2]
    have ok':=scopeOkC.out hs _ (PySem.mem_of_lookup qF) rfl
    obtain⟨m,hn,hl'⟩:=I.loc
    obtain⟨u,r,l⟩:=hl' j x v qN eσ (.inr ok')
    refine⟨u,r,?_⟩
    rcases l with⟨k,_⟩|⟨k,c,hc,hcell⟩
    ·have k':X.env.scope.names.lookup x=some .local:=k
     rcases ok' with z|z
     ·rw[z] at k';cases k'
     ·rw[z] at k';cases k'
    ·obtain⟨c',hc'⟩:=Option.isSome_iff_exists.mp (Co (cells:=X.env.cells) (x:=x) (acc:=[]) (.inr ⟨_,PySem.mem_of_lookup qF,rfl,rfl⟩))
     have e':=sub x c' hc'
     rw[hc] at e';cases e'
     obtain⟨o,ho',hd'⟩:=hcell
     have xz:x≠z:=fun q=>by rw[q,scopeOkC.is hs] at qF;cases qF
     exact .inr ⟨Ds qF,c,by show ((z,c0)::_).lookup x=_;rw[Du xz];exact hc',⟨o,keep c o ho',hd'⟩⟩
 ·rcases lookup_cl e with⟨_,b1⟩|⟨_,b1⟩
  ·rw[b1];exact⟨none,hc0⟩
  ·obtain⟨v,o,ho',hd'⟩:=I.cell x c (sub x c b1)
   exact⟨v,o,keep c o ho',hd'⟩
 ·rcases lookup_cl e with⟨_,b1⟩|⟨_,b1⟩
  ·rw[b1];exact fresh hC0
  ·exact I.freeC x c (sub x c b1)
 ·have hp:p∈(X.pn++pins)++[(D,ob)]:=hp
  rcases List.mem_append.mp hp with z|z
  ·obtain⟨a1,a2,a3,a4,a5⟩:=I.pin p z
   refine⟨keep _ _ a1,a2,Nat.ne_of_lt (Nat.lt_of_lt_of_le (lt a1) hC),fun hb=>?_,a5⟩
   rcases List.mem_cons.mp (I.stkSub _ hb) with y|y
   ·exact a3 y
   ·exact a4 y
  ·have z:p=(D,ob):=List.mem_singleton.mp z
   subst z
   exact⟨hl,fresh hD,hDC,nst hD,hob⟩
 ·show (Xq pick σ).length=N.length
  unfold Xq
  rw[List.length_map,hpl]
end
theorem N8{X:Cx}{z:Str}{N:List Str}{pick:List (Option Nat)}{elt tg iter:Expr}{ifs:List Expr}{scope:Scope}{pos p0:Pos}{wi:TI}{g:TG}{tc:TT}{te:TE}{use:Option (Value->Sem Unit)}{Q':Value->Shared->Prop}{pins:List (Addr×Obj)}{s:Shared}{σ:St}{H:Hp}{Q:VK}(hc:X.calm=true)
  (hs:scopeOkC z X.env.scope.names scope.names=true) (hp:A2 X.N scope.names N pick=true) (hk:scope.kind=.function) (hi:PI X tg iter wi)
  (hg:∀C c s H fp pins,PG (cxCompX X z N scope C c s H fp pins) tg g) (ht:∀C c s H fp pins,PTs (cxCompX X z N scope C c s H fp pins) ifs tc) (he:∀C c s H fp pins,PE (cxCompX X z N scope C c s H fp pins) elt te)
  (hfs:∀x,foldedSetIterable iter X.env x=pure x) (I:Inv X pins σ H s) (h:Ex pick wi g tc te σ H Q)
  (fin:∀(D C:Addr) (Hx:Hp) (s4:Shared),(∃m,s4.heap.Ns C m)->(∀h',Heap.SameBut C s4.heap h'->Inv X pins σ Hx { s4 with heap:=h' })->Hx C=none->C≠X.env.locals->X.s₀.heap.objs.size<=C->(∀x c,X.env.cells.lookup x=some c->c≠C)->(∀p∈X.pn++pins,p.1≠C)->Q (.ref D) Hx →
   compPost (model X.prog X.w) X.A X.xe use Q' (.ref D) C (.ok .next) s4) :
  wpAny (model X.prog X.w) X.A (comprehension (.ListComp elt [⟨tg,iter,ifs,0⟩] scope pos) scope X.env p0 (newList []) false (eval iter X.env) use) Q' X.xe s:=by
 have no:∀{E:Value->Shared->Prop} (x:Value) (s':Shared),False->E x s':=fun _ _ z=>z.elim
 refine wpAny_comprehension_free rfl hfs (De (C3 I hs)) hk (scopeOkC.loc hs) (thn (hi pins s σ H _ I h) fun v s1 h1=>thn h1 fun itv s2 h2=>?_)
 obtain⟨it,fp,tn,J,H2,e,I2,Tn,st2,f2,W,⟨m0,w0⟩,turn⟩:=h2
 subst e
 refine wpAny_newObj_type (Kt (scopeOkC.one hs) (fun h₁ hns hsb hcl=>?_))
 dsimp only at hns hsb hcl ⊢
 generalize hG:s2.heap.push { cls:=.type "list",dict:=none,data:=.seq ([]:List Value).toArray }=G at hns hsb hcl ⊢
 have hC:G.objs.size=s2.heap.objs.size+1:=by rw[<-hG,Heap.size_push]
 have hDC:s2.heap.objs.size≠G.objs.size:=by rw[hC];exact Nat.ne_of_lt (Nat.lt_succ_self _)
 have hCl:s2.heap.objs.size<=G.objs.size:=by rw[hC];exact Nat.le_succ _
 have low:∀{b o},s2.heap.get? b=some o->b≠G.objs.size:=fun e=>by rw[hC];exact Nat.ne_of_lt (Nat.lt_succ_of_lt (Heap.lt_size e))
 have low2:∀{b o},s2.heap.get? b=some o->b≠s2.heap.objs.size:=fun e=>Nat.ne_of_lt (Heap.lt_size e)
 have old:∀b o,s2.heap.get? b=some o->h₁.get? b=some o:=fun b o e=>hsb b o (hG ▸ Heap.get?_push_of_some _ e)
 have hD:h₁.get? s2.heap.objs.size=some { cls:=.type "list",data:=.seq ([]:List Value).toArray }:=hsb _ _ (hG ▸ Heap.get?_push_size _ rfl)
 have I3:Inv (cxCompX X z N scope G.objs.size (G.objs.size+1) s2 H2 fp pins) [(s2.heap.objs.size,{ cls:=.type "list",data:=.seq ([]:List Value).toArray })] (Xq pick σ) H2 { s2 with heap:=h₁ } :=
  Op (tk:=s2.toks) I2 hs hp hk f2 (Tn.obj 0 _ st2) hCl (Nat.le_succ_of_le hCl) hcl (Nat.le_refl _) hDC old hns hD (fun v z=>by cases z)
 have cellNe:∀x c,((z,G.objs.size+1)::clOf scope.names X.env.cells []).lookup x=some c->c≠s2.heap.objs.size:=fun x c e=>by
  rcases lookup_cl e with⟨_,b1⟩|⟨_,b1⟩
  ·rw[b1,hC];exact Nat.ne_of_gt (Nat.lt_succ_of_lt (Nat.lt_succ_self _))
  ·obtain⟨v,q⟩:=I2.cell x c (Bm (C3 I2 hs) (fun z=>by cases z) b1)
   exact Nat.ne_of_lt q.lt
 have fpLt:∀b∈fp,b<s2.heap.objs.size:=fun b hb=>by
  obtain⟨o,e,_⟩:=Tn.obj 0 _ st2 b hb
  exact Heap.lt_size e
 have pinLt:∀p∈X.pn++pins,p.1<s2.heap.objs.size:=fun p hp'=>Heap.lt_size (I2.pin p hp').1
 have stat:∀{H':Hp} {ob:Obj},(∀b∈fp,H' b=none)->∀b∈fp,FpOk (cxCompX X z N scope G.objs.size (G.objs.size+1) s2 H2 fp pins) [(s2.heap.objs.size,ob)] H' b:=fun {H' ob} hn b hb=>by
  refine⟨hn b hb,?_,fun z=>?_,.inl hb,fun x c e=>?_,fun p hp'=>?_⟩
  ·show b≠G.objs.size
   rw[hC];exact Nat.ne_of_lt (Nat.lt_succ_of_lt (fpLt b hb))
  ·have z:b∈frs X.stack:=z
   rcases List.mem_cons.mp (I2.stkSub b z) with y|y
   ·exact(f2 b hb).2.1 y
   ·exact(f2 b hb).2.2.1 y
  ·rcases lookup_cl e with⟨_,b1⟩|⟨_,b1⟩
   ·rw[b1,hC];exact Nat.ne_of_gt (Nat.lt_succ_of_lt (Nat.lt_succ_of_lt (fpLt b hb)))
   ·exact(f2 b hb).2.2.2.2.1 x c (Bm (C3 I2 hs) (fun z=>by cases z) b1)
  ·have hp':p∈(X.pn++pins)++[(s2.heap.objs.size,ob)]:=hp'
   rcases List.mem_append.mp hp' with z|z
   ·exact(f2 b hb).2.2.2.2.2 p z
   ·have z:p=(s2.heap.objs.size,ob):=List.mem_singleton.mp z
    subst z
    exact Nat.ne_of_gt (fpLt b hb)
 have loop:∀s3:Shared,s3={ s2 with heap:=h₁ } →
   codeAny (model X.prog X.w) X.A (.compLoop (.ListComp elt [⟨tg,iter,ifs,0⟩] scope pos) 0 (.ref it) (.ref s2.heap.objs.size) (compEnvC scope ((z,G.objs.size+1)::clOf scope.names X.env.cells []) G.objs.size X.env))
    (compPost (model X.prog X.w) X.A X.xe use Q' (.ref s2.heap.objs.size) G.objs.size) s3:=by
  rintro s3 rfl
  refine Ft (fun n s'=>∃i acc its k H',Inv (cxCompX X z N scope G.objs.size (G.objs.size+1) s2 H2 fp pins) [(s2.heap.objs.size,{ cls:=.type "list",data:=.seq (its:List Value).toArray k })] (Xq pick σ) H' s'/\Vals acc its/\tn i s'.heap/\(∀b∈fp,H' b=none)/\W i n acc H') ?_ m0
   ⟨0,[],[],0,H2,I3,.nil,Tn.keep _ _ _ st2 fun b hb o e=>old b o e,fun b hb=>(f2 b hb).1,w0⟩
  rintro n s3 ⟨i,acc,its,k,H3,I3,rv,st3,fr3,w3⟩
  rcases turn i n acc H3 w3 with⟨stop,hz,fin0⟩|⟨go,hz,Nx,hN,step⟩
  ·refine wpAny_mono (Tn.done (cxCompX X z N scope G.objs.size (G.objs.size+1) s2 H2 fp pins) rfl rfl rfl hc i _ s3 _ H3 (fun _ _=>False) I3 (stat fr3) st3 stop) (fun r s4 hr=>?_) no
   obtain⟨hr,I4⟩:=hr
   subst hr
   obtain⟨m,hnC,_⟩:=I4.loc
   obtain⟨p1,p2,p3,p4,p5⟩:=I4.pin (s2.heap.objs.size,_) (List.mem_append_right _ (List.mem_singleton.mpr rfl))
   have nC:H3 G.objs.size=none:=I4.free
   have low3:∀{b o},X.s₀.heap.get? b=some o->b≠G.objs.size:=fun e=>by
    rw[hC];exact Nat.ne_of_lt (Nat.lt_of_lt_of_le (Heap.lt_size e) (Nat.le_succ_of_le I2.sz))
   refine fin s2.heap.objs.size G.objs.size (upd H3 s2.heap.objs.size (.lst acc)) s4 ⟨m,hnC⟩ (fun h' sb=>?_) (by rw[Xc (Ne.symm hDC)];exact nC) (fun z=>?_) (Nat.le_trans I2.sz hCl) (fun x c e=>?_) (fun p hp'=>by rw[hC];exact Nat.ne_of_lt (Nat.lt_succ_of_lt (pinLt p hp'))) (fin0 _ p2)
   rotate_left
   ·obtain⟨m',⟨o',_,_,ho',_⟩,_⟩:=I2.loc
    exact low ho' z.symm
   ·obtain⟨v',o',ho',_⟩:=I2.cell x c e
    exact low ho'
   have kp:∀b o,b≠G.objs.size->s4.heap.get? b=some o->h'.get? b=some o:=fun b o hb e=>sb.extBut b o hb e
   have hok:HOk X.prog X.w H3 h':=fun b u e=>by
    refine(I4.hok b u e).stay (fun c v hc' q=>kp c v ?_ q) (fun _ q=>q) fun _ _ q=>q
    rcases hc' with z|z
    ·rw[z];exact Xa e nC
    ·exact Xa z nC
   have hok':HOk X.prog X.w (upd H3 s2.heap.objs.size (.lst acc)) h':=hok.track p2 ⟨hz,its,k,rv,kp _ _ hDC p1⟩
   have un:=I4.base
   have un':Un (frs X.stack) fp H2 (upd H3 s2.heap.objs.size (.lst acc)) s2.heap h':=by
    have f0:H2 s2.heap.objs.size=none:=I2.fresh
    refine⟨fun b o e n' hb hx=>kp b o (low e) (un.keep b o e n' hb hx),fun b o e n' hb hx=>?_,fun b o e n' hx=>?_,fun b o e hx=>?_,fun b xs e=>?_,fun b o u e=>?_,fun b ps e=>?_⟩
    ·obtain⟨sl,q⟩:=un.slot b o e n' hb hx
     exact⟨sl,kp b _ (low e) q⟩
    ·rw[Xc (low2 e)];exact un.free b o e n' hx
    ·obtain⟨o',q⟩:=un.there b o e hx
     exact⟨o',kp b o' (low e) q⟩
    ·rw[Xc (Xa e f0)];exact un.tups b xs e
    ·rw[Xc (Xa e f0)];exact un.frzs b o u e
    ·obtain⟨more,q⟩:=un.tbls b ps e
     exact⟨more,by rw[Xc (Xa e f0)];exact q⟩
   have hos:s4.os=s2.os:=I4.os
   refine I2.call' (s':={ s4 with heap:=h' }) hos un' hok' I4.bare (fun b hb=>?_)
   exact⟨(f2 b hb).2.2.2.1,(f2 b hb).2.1,(f2 b hb).2.2.2.2.1,(f2 b hb).2.2.2.2.2⟩
  ·refine wpAny_mono (Tn.item (cxCompX X z N scope G.objs.size (G.objs.size+1) s2 H2 fp pins) rfl rfl rfl hc i _ s3 _ H3 (fun _ _=>False) I3 (stat fr3) st3 go) (fun r s4 hr=>?_) no
   obtain⟨u,hr,h4⟩:=hr
   subst hr
   refine wpAny_mono h4 (fun _ s5 h5=>?_) no
   obtain⟨x,H5,I5,r5,y5,st5,fr5⟩:=h5
   have I5':=I5.pinned (stat fr5) (Tn.obj _ _ st5)
   refine wpAny_mono (hg _ _ _ _ _ _ _ s5 _ H5 x u _ I5' r5 (step x H5 y5)) (fun _ s6 h6=>?_) no
   obtain⟨σ6,H6,I6,kp6,q6⟩:=h6
   refine wpAny_mono (ht _ _ _ _ _ _ _ s6 σ6 H6 _ I6 q6) (fun ok s7 h7=>?_) no
   obtain⟨H7,I7,q7⟩:=h7
   have tnOf:∀{σ':St} {H':Hp} {s':Shared} {pl:List (Addr×Obj)},(∀p∈pinsAt fp s5.heap,p∈pl)->Inv (cxCompX X z N scope G.objs.size (G.objs.size+1) s2 H2 fp pins) pl σ' H' s'->tn (i+1) s'.heap/\∀b∈fp,H' b=none:=fun {σ' H' s' pl} hpl I'=>by
    refine⟨Tn.keep _ _ _ st5 fun b hb o e=>(I'.pin (b,o) (List.mem_append_right _ (hpl _ (Bb hb e)))).1,fun b hb=>?_⟩
    obtain⟨o,e,_⟩:=Tn.obj _ _ st5 b hb
    exact(I'.pin (b,o) (List.mem_append_right _ (hpl _ (Bb hb e)))).2.1
   cases ok with
   |false =>
    rw[if_neg Bool.false_ne_true] at q7 ⊢
    obtain⟨m',hm,w7⟩:=hN _ _ q7
    obtain⟨t7,f7⟩:=tnOf (fun p hp'=>List.mem_append_right _ hp') I7
    exact⟨m',hm,i+1,acc,its,k,H7,(I7.unpinned).weak (kp6.1.symm) (fun j v e=>kp6.2 j v e),rv,t7,f7,w7⟩
   |true =>
    rw[if_pos rfl] at q7 ⊢
    refine wpAny_mono (he _ _ _ _ _ _ _ s7 σ6 H7 _ I7 q7) (fun xv s8 h8=>?_) no
    obtain⟨y,H8,I8,r8,q8⟩:=h8
    obtain⟨p1,p2,p3,p4,p5⟩:=I8.pin (s2.heap.objs.size,_) (List.mem_append_right _ (List.mem_append_left _ (List.mem_singleton.mpr rfl)))
    have hl:=rv.length
    refine wpAny_list_append_plain (items:=its.toArray) ⟨k,p1⟩ (fun h' il sb=>?_) (by rw[List.size_toArray];omega)
    obtain⟨k',e'⟩:=il
    obtain⟨t8,f8⟩:=tnOf (fun p hp'=>List.mem_append_right _ hp') I8
    have I8':Inv (cxCompX X z N scope G.objs.size (G.objs.size+1) s2 H2 fp pins) [] σ6 H8 s8:=I8.pins_of fun p hp'=>by cases hp'
    have I9:Inv (cxCompX X z N scope G.objs.size (G.objs.size+1) s2 H2 fp pins) [] σ6 H8 { s8 with heap:=h' }:=I8'.turned (t':=s8.toks) (it:=s2.heap.objs.size) (fun b o hb e=>sb.extBut b o hb e) p2 hDC (.inr (Nat.le_refl _)) (fun x c e=>cellNe x c e) (fun p hp'=>by
     have hp':p∈(X.pn++pins)++[]:=hp'
     rw[List.append_nil] at hp'
     exact Nat.ne_of_lt (pinLt p hp'))
    have e'':h'.get? s2.heap.objs.size=some { cls:=.type "list",data:=.seq (its++[xv]).toArray k' }:=by rw[e'];simp
    have I10:Inv (cxCompX X z N scope G.objs.size (G.objs.size+1) s2 H2 fp pins) [(s2.heap.objs.size,{ cls:=.type "list",data:=.seq (its++[xv]).toArray k' })] σ6 H8 { s8 with heap:=h' }:=I9.pins_of fun p hp'=>by
     have hp':p=(s2.heap.objs.size,_):=List.mem_singleton.mp hp'
     subst hp'
     exact⟨e'',p2,p3,p4,fun v z=>by cases z⟩
    obtain⟨m',hm,w8⟩:=hN _ _ q8
    refine⟨m',hm,i+1,acc++[y],its++[xv],k',H8,I10.weak (kp6.1.symm) (fun j v e=>kp6.2 j v e),rv.append (.cons r8 .nil),?_,f8,w8⟩
    refine Tn.keep _ _ _ t8 fun b hb o e=>sb.extBut b o (Nat.ne_of_lt (fpLt b hb)) e
 exact codeAny_compStart_list (loop _ rfl) (Tn.self _ 0 _ _ _ (Tn.keep _ _ _ st2 fun b hb o e=>old b o e) (loop _ rfl))
theorem Pr{X:Cx}{z:Str}{N:List Str}{pick:List (Option Nat)}{elt tg iter:Expr}{ifs:List Expr}{scope:Scope}{pos:Pos}{wi:TI}{g:TG}{tc:TT}{te:TE}(hc:X.calm=true)
  (hs:scopeOkC z X.env.scope.names scope.names=true) (hp:A2 X.N scope.names N pick=true) (hk:scope.kind=.function) (hi:PI X tg iter wi)
  (hg:∀C c s H fp pins,PG (cxCompX X z N scope C c s H fp pins) tg g) (ht:∀C c s H fp pins,PTs (cxCompX X z N scope C c s H fp pins) ifs tc) (he:∀C c s H fp pins,PE (cxCompX X z N scope C c s H fp pins) elt te)
  (hfs:∀x,foldedSetIterable iter X.env x=pure x:=by intro _;rfl):PE X (.ListComp elt [⟨tg,iter,ifs,0⟩] scope pos) (Ex pick wi g tc te):=by
 intro pins s σ H Q I h
 rw[eval_ListComp]
 exact N8 hc hs hp hk hi hg ht he hfs I h fun D C Hx s4 ⟨m,hn⟩ hI _ _ _ _ _ q=>⟨m,hn,fun h' sb=>⟨.ref D,Hx,hI h' sb,rfl,q⟩⟩
end L2
end
section
namespace TL
open PySem PySem.Spec PyProof.Rows L2
section
variable{X:Cx}{elt iter:Expr}{ti:UTA}{tc:UTT}{te:UTE}{pos:Pos}{scope:Scope}{ifs:List Expr}
theorem Oq(i:Nat)(N:List Str)(pick:List (Option Nat)){x:Str}{px:Pos}(hc:X.calm=true)(hi:UI X (.Name x px) iter ti)(ht:∀C c s H fp pins,PTs (cxCompX X x N scope C c s H fp pins) ifs (lfT X.K tc))(he:∀C c s H fp pins,UE (cxCompX X x N scope C c s H fp pins) elt te)
  (hs:scopeOkC x X.env.scope.names scope.names=true:=by rfl) (hp:A2 X.N scope.names N pick=true:=by rfl) (hk:scope.kind=.function:=by rfl) (hN:N.Nodup:=by decide +kernel)
  (hiN:N[i]?=some x:=by rfl) (hpi:pick[i]?=some none:=by rfl) (hfs:∀x,foldedSetIterable iter X.env x=pure x:=by intro _;rfl) :
  UE X (.ListComp elt [⟨.Name x px,iter,ifs,0⟩] scope pos) (Aq pick ti (gNm i) tc te) :=
 PE.imp (Pr hc hs hp hk hi (fun C c s H fp pins=>Bj (i:=i) hN hiN (.inr (Hf (scopeOkC.is hs))) (.inl (show (x==x)=true from by simp))) ht (te:=lf X.K te) he hfs) fun σ H Q h =>
  C4 (fun y tt S1 H1 env k R gd re rt hg hR=>⟨B7 hpi,hR _ _ (re.set rt) hg⟩) h
end
end TL
end
section
namespace L2
open PySem PySem.Spec PyProof.Rows
theorem Ff:∀{ns:List Int} {its:List Value},Vals (ns.map V.int) its->IntsAre its ns
 |[],_,.nil=>.nil
 |n::r,_,.cons h t=>by
  obtain⟨k,rfl⟩:=h
  exact .cons n k (Ff t)
theorem Gf:∀{its:List Value} {ns:List Int},IntsAre its ns->Vals (ns.map V.int) its
 |_,_,.nil=>.nil
 |_,_,.cons n t h=>.cons ⟨t,rfl⟩ (Gf h)
section
variable{X:Cx}
theorem Ey:CallR X (.builtin "sorted") (fun xs H Q=>∃(p:Addr) (ns:List Int),xs=[.ref p]/\SqL X.K H p (ns.map V.int)/\ns.length<64/\∀ns':List Int,ns'.Perm ns->ns'.Pairwise (·<=·)->∀l,H l=none->Q (.ref l) (upd H l (.lst (ns'.map V.int)))):=by
 intro pins s σ H xs us Q I r h
 obtain⟨p,ns,rfl,hq,h64,q⟩:=h
 obtain⟨u,rfl,ru⟩:=Dg r
 cases ru
 obtain⟨its,rv,pl,hz⟩:=I.list hq
 have hl:=rv.length
 rw[List.length_map] at hl
 refine sorted_ints pl.isList (Ff rv) (by omega) fun out ns' a1 a2 a3=>?_
 obtain⟨e,he⟩:=sortedAll_at s.heap its out
 refine⟨.ref (s.heap.objs.size+1),_,I.laid (o:=.lst (ns'.map V.int)) (t':=s.toks) (fun b o e=>sortedAll_old e) (Nat.le_succ _) ⟨?_,out.toList,e,Gf a1,?_⟩,rfl,q ns' a2 a3 _ (I.hok.fresh (Nat.le_succ _))⟩
 ·rw[List.length_map,a2.length_eq]
  exact Nat.le_of_lt (Xo (by omega))
 ·exact he
end
end L2
end
section
namespace TL
open PySem PySem.Spec PyProof.Rows L2
theorem Ew:bootBuiltins "sorted"=some (.builtin "sorted"):=by decide +kernel
theorem Dm{K:PySem.W.Frag}{S:TH}{H:Hp}:∀{vs:List V} {ns:List Int},Reps K S H vs (ns.map T.int)->vs=ns.map V.int
 |[],[],_=>rfl
 |[],_::_,r=>absurd r.1 (by simp)
 |_::_,[],r=>absurd r.1 (by simp)
 |v::vs,k::ks,r=>by
  have h:=r.head
  have t:=Dm (ns:=ks) r.tail
  cases h
  rw[t]
  rfl
theorem Dn{K:PySem.W.Frag}{S:TH}{H:Hp}:∀(ns:List Int),Reps K S H (ns.map V.int) (ns.map T.int)
 |[]=>.nil
 |n::r=>.cons (.int n) (Dn r)
section
variable{X:Cx}{e:Expr}{tr:UTA}{p pos:Pos}
def T8(xs:List T)(S:TH)(P:UX):Prop:=∃(x:T) (ns:List Int),xs=[x]/\lstAt S x (ns.map T.int)/\ns.length<64/\∀ns':List Int,ns'.Perm ns->ns'.Pairwise (·<=·)->P (.lst (ns'.map T.int)) S
theorem M9(hg:Gl X "sorted")(hm:X.mg "sorted"=none)(ha:UA X [e] tr)(he:starEach [e] X.env=(false,eval e X.env)::starEach [] X.env:=by rfl):UE X (.Call (.Name "sorted" p) [e] [] pos) (Bh T8 tr) :=
 Bn Ey (fun S H vs xs P Q g r ho fin=>by
  obtain⟨x,ns,rfl,hl,h64,ho⟩:=ho
  obtain⟨v,rfl,rx⟩:=r.one
  obtain⟨b,us,rfl,hb,r⟩:=hl.rep g rx
  have ev:=Dm r
  subst ev
  exact⟨b,ns,rfl,.inl (.inl hb),h64,fun ns' h1 h2 l hl=>A8 fin g hl (Dn ns') (ho ns' h1 h2)⟩) hg hm Ew ha (he:=he)
def Ru(xs:List T)(S:TH)(P:UX):Prop:=∃(x:T) (ns:List Int),xs=[x]/\lstAt S x (ns.map T.int)/\ns.length<64/\∀ns':List Int,ns'.Perm ns->ns'.Pairwise (·<=·)->∀q,S q=none->P (.ref q) (updT S q (.lst (ns'.map T.int)))
theorem Ki(hg:Gl X "sorted")(hm:X.mg "sorted"=none)(ha:UA X [e] tr)(he:starEach [e] X.env=(false,eval e X.env)::starEach [] X.env:=by rfl):UE X (.Call (.Name "sorted" p) [e] [] pos) (Bh Ru tr) :=
 Bn Ey (fun S H vs xs P Q g r ho fin=>by
  obtain⟨x,ns,rfl,hl,h64,ho⟩:=ho
  obtain⟨v,rfl,rx⟩:=r.one
  obtain⟨b,us,rfl,hb,r⟩:=hl.rep g rx
  have ev:=Dm r
  subst ev
  exact⟨b,ns,rfl,.inl (.inl hb),h64,fun ns' h1 h2 l hl=>fin _ _ _ _ (Le.newC hl) (g.newL hl (Dn ns')) (.ref l) (ho ns' h1 h2 l (g.free hl))⟩) hg hm Ew ha (he:=he)
end
end TL
end
section
namespace L2
open PySem PySem.Spec PyProof.Rows
theorem Ek:∀{as:List Addr} {its:List Value},Vals (as.map V.ref) its->its=as.map Value.ref
 |[],_,.nil=>rfl
 |a::r,_,.cons h t=>by
  have h:_=Value.ref a:=h
  rw[h,Ek t];rfl
theorem Um(a v d:Value):argsOk "min" ⟨[a],[(Str.ofString "key",v),(Str.ofString "default",d)]⟩:=by unfold argsOk;kernel_rfl
section
variable{X:Cx}{pins:List (Addr×Obj)}{σ:St}{H H':Hp}{s:Shared}
theorem FpOk.at'{b:Addr}(f:FpOk X pins H b)(h:H' b=none):FpOk X pins H' b:=⟨h,f.2⟩
theorem Lj{k:Nat}{f:Addr}{fd:FuncData}{ps:List Str}{sp:Sp}{Q:VK}{us:List Value}{vs:List V}(F:FnOk X.prog X.w X.K X.mg X.base CX0 k f fd ps sp)(hr:Room (k+1) X.A)(hb:Binds X.K fd ps [])(I:Inv X pins σ H s)(r:Vals vs us)(h:sp vs H Q E0):
  wpAny (model X.prog X.w) X.A.in1 (call (.ref f) us) (EP X pins σ Q) (fun _ _=>False) s:=by
 have hl:(us++[]).length=ps.length:=by rw[List.append_nil,<-r.length];exact F.len _ _ _ _ h
 have b:=hb s us I.kIn hl
 rw[List.append_nil] at b
 refine wpAny_call (codeAny_mono (F.run X.A.in1 X.stack s H ⟨us,[]⟩ us vs Q E0 hr.in1 I.env0.in1 b r h) fun r s' hq=>?_)
 cases r with
 |error e=>exact False.elim hq
 |ok fl =>
  cases fl with
  |ret u=>exact I.after hq
  |next=>exact False.elim hq
  |brk=>exact False.elim hq
  |cont=>exact False.elim hq
variable{k:Nat}{p q S I:Addr}{as:List Addr}{J:Hp->Prop}{Q:VK}{d:Value}{kf:Nat->Int}{fd:FuncData}{ps:List Str}{sp:Sp}{H₀:Hp}
theorem Inv.repin{oS oI:Obj}(J:Inv X pins σ H s)(fI:FpOk X pins H I)(fS:FpOk X pins H S)(eS:s.heap.get? S=some oS)(eI:s.heap.get? I=some oI)(cS:∀v,oS.data≠.cell v)(cI:∀v,oI.data≠.cell v):Inv X (pins++[(S,oS),(I,oI)]) σ H s:=by
 refine J.pins_of fun p' hp'=>?_
 rcases List.mem_append.mp hp' with z|z
 ·exact J.pin p' (List.mem_append_right _ z)
 ·rcases List.mem_cons.mp z with rfl|z
  ·exact⟨eS,fS.1,fS.2.1,fS.2.2.1,cS⟩
  ·rw[List.mem_singleton.mp z]
   exact⟨eI,fI.1,fI.2.1,fI.2.2.1,cI⟩
abbrev mkRes(X:Cx)(pins:List (Addr×Obj))(σ:St)(Q:VK):Result->Shared->Prop:=fun r s'=>match r with | .ok (.ret v)=>EP X pins σ Q v s' | .ok _=>False | .error e=>X.xe e s'
theorem Nl(F:FnOk X.prog X.w X.K X.mg X.base CX0 k q fd ps sp)(hr:Room (k+1) X.A)(hb:Binds X.K fd ps [])(hJ:∀H,J H->SqL X.K H p (as.map V.ref))
  (turn:∀(i:Nat) a,as[i]?=some a->∀H,J H->sp [.ref a] H (fun r H'=>r=.int (kf i)/\J H') E0) (hp:p≠I) (hSI:S≠I) (fI:FpOk X pins H₀ I) (fS:FpOk X pins H₀ S)
  (fin:∀(i:Nat) a H,as[i]?=some a->(∀j,j<as.length->kf i<=kf j/\(j<i->kf i<kf j))->J H->Q (.ref a) H) :
  ∀(r j i:Nat) (H:Hp) (s:Shared) (ab:Addr) (tb:Tok) (c:Nat) (oI:Obj),as.length - (j+1)=r->j+1<=as.length->Inv X (pins++[(S,seqObj "list" #[.ref ab,.int (kf i) tb] c),(I,oI)]) σ H s->J H->s.heap.IsListIter I p (j+1) →
   as[i]?=some ab->i<=j->(∀j',j'<=j->kf i<=kf j'/\(j'<i->kf i<kf j')) →
   codeAny (model X.prog X.w) X.A (.builtin "min.loop" ⟨[.ref I,.ref q,.ref S],[(Str.ofString "default",d)]⟩) (mkRes X pins σ Q) s:=by
 have hname:(toString "min"++toString ".loop":String)="min.loop":=by decide
 have W:=Walks.list (prog:=X.prog) (w:=X.w) (A:=X.A.in1) (show X.A.in1.handled=none from hr.hd) I p hp ((as.map Value.ref).toArray)
 have hsz:((as.map Value.ref).toArray).size=as.length:=by simp
 have isl:∀{pn':List (Addr×Obj)} {H:Hp} {s:Shared},Inv X pn' σ H s->J H->s.heap.IsList p (as.map Value.ref).toArray:=fun J' hj=>by
  obtain⟨its,rv,pl,_⟩:=J'.list (hJ _ hj)
  rw[<-Ek rv];exact pl.isList
 intro r
 induction r with
 |zero =>
  intro j i H s ab tb c oI hr' hj I0 hj0 hit hab hij hbest
  have hin:j+1=as.length:=by omega
  have nS:=I0.pin (S,_) (List.mem_append_right _ (List.mem_append_right _ (.head _)))
  have nI:=I0.pin (I,oI) (List.mem_append_right _ (List.mem_append_right _ (.tail _ (.head _))))
  refine codeAny_builtin PySem.F.entry_min_loop ?_
  rw[Around.under_plainId PySem.F.plain_min_loop _]
  show wpAny _ X.A.in1 (seqItems? (.ref S) >>= _) _ _ _
  refine wpAny_bind (wpAny_seqItems nS.1 rfl ?_)
  show wpAny _ X.A.in1 (tryCatch (pyNext (.ref I)) _ >>= _) _ _ _
  refine wpAny_bind (wpAny_tryCatch (W.done _ _ _ ⟨by rw[hsz,<-hin];exact hit,isl I0 hj0⟩ fun h' tk' hk'=>?_))
  have hS':=hk' S _ (by simpa using hSI) nS.1
  have s1:=Heap.SameBut.update h' S (Obj.mapSeq fun _=>(#[]:Array Value))
  show wpAny _ X.A.in1 (updateSeq S (fun _=>#[]) >>= _) _ _ _
  refine wpAny_bind ?_
  refine wpAny_updateSeq hS' rfl (wpAny_bind (wpAny_letGo (wpAny_pure ?_)))
  refine⟨.ref ab,H,?_,rfl,fin i ab H hab (fun j' hj'=>hbest j' (by omega)) hj0⟩
  refine Inv.turns (s:=s) (h':=h'.update S (Obj.mapSeq fun _=>(#[]:Array Value))) (ch:=[I,S]) (t':=tk') (I0.unpinned) (fun b o hb e=>?_) (fun b hb=>?_)
  ·have hb1:b≠I:=fun z=>hb (by simp[z])
   have hb2:b≠S:=fun z=>hb (by simp[z])
   exact(s1.2 b hb2).trans (hk' b o (by simpa using hb1) e)
  ·rcases List.mem_cons.mp hb with rfl|hb
   ·exact fI.at' nI.2.1
   ·rw[List.mem_singleton.mp hb];exact fS.at' nS.2.1
 |succ r ih =>
  intro j i H s ab tb c oI hr' hj I0 hj0 hit hab hij hbest
  have hlt:j+1<as.length:=by omega
  have nS:=I0.pin (S,_) (List.mem_append_right _ (List.mem_append_right _ (.head _)))
  have nI:=I0.pin (I,oI) (List.mem_append_right _ (List.mem_append_right _ (.tail _ (.head _))))
  refine codeAny_builtin PySem.F.entry_min_loop ?_
  rw[Around.under_plainId PySem.F.plain_min_loop _]
  show wpAny _ X.A.in1 (seqItems? (.ref S) >>= _) _ _ _
  refine wpAny_bind (wpAny_seqItems nS.1 rfl ?_)
  show wpAny _ X.A.in1 (tryCatch (pyNext (.ref I)) _ >>= _) _ _ _
  refine wpAny_bind (wpAny_tryCatch (W.item (j+1) _ _ _ (by rw[hsz];exact hlt) ⟨hit,isl I0 hj0⟩ fun v h' tk' hP hst' hk'=>?_))
  have hv:(as.map Value.ref)[j+1]?=some v:=by simpa using hP
  rw[List.getElem?_map] at hv
  obtain⟨a,ea,rfl⟩:∃a,as[j+1]?=some a/\v=.ref a:=by
   cases e:as[j+1]? with
   |none=>rw[e] at hv;cases hv
   |some a=>rw[e] at hv;exact⟨a,rfl,(Option.some.inj hv).symm⟩
  obtain⟨oI',hoI',hoc,hod⟩:=id hst'.1
  have I1:=((I0.unpinned).turns (ch:=[I]) (t':=tk') (h':=h') (fun b o hb e=>hk' b o hb e) (fun b hb=>by rw[List.mem_singleton.mp hb];exact fI.at' nI.2.1)).repin (fI.at' nI.2.1) (fS.at' nS.2.1) (hk' S _ (by simpa using hSI) nS.1) hoI' nS.2.2.2.2 (fun v e=>by rw[hod] at e;cases e)
  show wpAny _ X.A.in1 (tryCatch (holding [.ref a] (call (.ref q) [.ref a])) _ >>= _) _ _ _
  refine wpAny_bind (wpAny_tryCatch (wpAny_holding (wpAny_mono (Lj (vs:=[.ref a]) F hr hb I1 (.cons rfl .nil) (turn (j+1) a ea H hj0)) (fun x s2 he=>?_) fun _ _ hF=>hF.elim)))
  obtain⟨rv,H2,I2,rr,er,hj2⟩:=he
  subst er
  obtain⟨t2,rfl⟩:=rr
  have nS2:=I2.pin (S,_) (List.mem_append_right _ (List.mem_append_right _ (.head _)))
  have nI2:=I2.pin (I,oI') (List.mem_append_right _ (List.mem_append_right _ (.tail _ (.head _))))
  have hit2:s2.heap.IsListIter I p (j+1+1):=⟨oI',nI2.1,hoc,hod⟩
  show wpAny _ X.A.in1 (tryCatch (holding [.ref a,.int (kf (j+1)) t2] (richCompare .Lt (.int (kf (j+1)) t2) (.int (kf i) tb) >>= _)) _ >>= _) _ _ _
  refine wpAny_bind (wpAny_tryCatch (wpAny_holding (wpAny_bind (CmpOf.ints_lt (prog:=X.prog) (w:=X.w) (A:=X.A.in1) (P:=fun i v=>∃t,v=.int (kf i) t) kf (fun i v h=>h) (j+1) i _ _ _ _ _ ⟨t2,rfl⟩ ⟨tb,rfl⟩ ?_))))
  refine wpAny_bind (wpAny_holding (wpAny_truthy_bool ?_))
  refine wpAny_bind (wpAny_letGo (wpAny_pure ?_))
  by_cases hb':kf (j+1)<kf i
  ·have s1:=Heap.SameBut.update s2.heap S (Obj.mapSeq fun _=>#[.ref a,.int (kf (j+1)) t2])
   obtain⟨c2,hc2⟩:∃c2,(s2.heap.update S (Obj.mapSeq fun _=>#[.ref a,.int (kf (j+1)) t2])).get? S=some (seqObj "list" #[.ref a,.int (kf (j+1)) t2] c2):=⟨_,get?_update_seq nS2.1 fun _=>#[.ref a,.int (kf (j+1)) t2]⟩
   simp only[hb',decide_true,if_true]
   refine wpAny_bind ?_
   refine wpAny_updateSeq nS2.1 rfl (wpAny_bind (wpAny_letGo ?_))
   rw[hname]
   have I3:=((I2.unpinned).turns (ch:=[S]) (t':=s2.toks) (h':=s2.heap.update S (Obj.mapSeq fun _=>#[.ref a,.int (kf (j+1)) t2])) (fun b o hb e=>(s1.2 b (by simpa using hb)).trans e) (fun b hb=>by rw[List.mem_singleton.mp hb];exact fS.at' nS2.2.1)).repin (fI.at' nI2.2.1) (fS.at' nS2.2.1) hc2 ((s1.2 I hSI.symm).trans nI2.1) (fun v e=>by cases e) nI2.2.2.2.2
   refine wpAny_pure ⟨plainId_quiet PySem.F.plain_min_loop _,ih (j+1) (j+1) H2 _ a t2 c2 oI' (by omega) hlt I3 hj2 ⟨oI',(s1.2 I hSI.symm).trans nI2.1,hoc,hod⟩ ea (Nat.le_refl _) fun j' hj'=>?_⟩
   by_cases e:j'=j+1
   ·subst e
    exact⟨by omega,fun _=>by omega⟩
   ·have hb1:=hbest j' (by omega)
    have hb2:=hb1.1
    exact⟨by omega,fun _=>by omega⟩
  ·simp only[hb',decide_false,Bool.false_eq_true,if_false]
   refine wpAny_bind (wpAny_letGo ?_)
   rw[hname]
   refine wpAny_pure ⟨plainId_quiet PySem.F.plain_min_loop _,ih (j+1) i H2 _ ab tb c oI' (by omega) hlt I2 hj2 hit2 hab (by omega) fun j' hj'=>?_⟩
   by_cases e:j'=j+1
   ·subst e
    exact⟨by omega,fun _=>by omega⟩
   ·exact hbest j' (by omega)
theorem Nt{dv:V}(F:FnOk X.prog X.w X.K X.mg X.base CX0 k q fd ps sp)(hr:Room (k+1) X.A)(hb:Binds X.K fd ps [])(I0:Inv X pins σ H s)(hj0:J H)(hJ:∀H,J H->SqL X.K H p (as.map V.ref))
  (turn:∀(i:Nat) a,as[i]?=some a->∀H,J H->sp [.ref a] H (fun r H'=>r=.int (kf i)/\J H') E0) (rd:RelV dv d) (dflt:as=[]->∀H,J H->Q dv H)
  (fin:∀(i:Nat) a H,as[i]?=some a->(∀j,j<as.length->kf i<=kf j/\(j<i->kf i<kf j))->J H->Q (.ref a) H) :
  wpAny (model X.prog X.w) X.A (call (.builtin "min") [.ref p] [(Str.ofString "key",.ref q),(Str.ofString "default",d)]) (EP X pins σ Q) X.xe s:=by
 have hname:(toString "min"++toString ".loop":String)="min.loop":=by decide
 have isl:∀{pn':List (Addr×Obj)} {H:Hp} {s:Shared},Inv X pn' σ H s->J H->s.heap.IsList p (as.map Value.ref).toArray:=fun J' hj=>by
  obtain⟨its,rv,pl,_⟩:=J'.list (hJ _ hj)
  rw[<-Ek rv];exact pl.isList
 have hls:=isl I0 hj0
 obtain⟨ol,hol,_⟩:=id hls
 have hll:p<s.heap.objs.size:=Heap.lt_size hol
 refine kmk_tree PySem.F.kind_min PySem.F.plain_min PySem.F.entry_min (Um _ _ _) ?_
 show wpAny _ X.A.in1 (Builtin.Builtins.bindParams "min" ["key","default"] 0 ⟨[],[(Str.ofString "key",.ref q),(Str.ofString "default",d)]⟩ >>= _) _ _ s
 refine wpAny_bind (wpAny_of_eq (show Builtin.Builtins.bindParams "min" ["key","default"] 0 ⟨[],[(Str.ofString "key",.ref q),(Str.ofString "default",d)]⟩=pure [some (.ref q),some d] from rfl) ?_)
 refine wpAny_bind (wpAny_pure ?_)
 refine wpAny_bind (wpAny_pyIter_list hls ?_)
 refine wpAny_bind (wpAny_newList ?_ (Nat.zero_le _))
 rw[hname]
 refine wpAny_pure ⟨plainId_quiet PySem.F.plain_min_loop _,?_⟩
 have fI:=I0.fpOk (H':=H) (Nat.le_refl _) I0.fresh
 have fS:=I0.fpOk (H':=H) (Nat.le_succ s.heap.objs.size) (I0.hok.fresh (Nat.le_succ _))
 have hS:(s.heap.push { cls:=.type "list_iterator",data:=.fields #[.ref p,.int 0 0] }).objs.size=s.heap.objs.size+1:=size_push' ..
 have gI:((s.heap.push { cls:=.type "list_iterator",data:=.fields #[.ref p,.int 0 0] }).push (seqObj "list" #[] 0)).get? s.heap.objs.size=some { cls:=.type "list_iterator",data:=.fields #[.ref p,.int 0 0] } :=
  Heap.get?_push_of_some _ (Heap.get?_push_size _ rfl)
 have gS:((s.heap.push { cls:=.type "list_iterator",data:=.fields #[.ref p,.int 0 0] }).push (seqObj "list" #[] 0)).get? (s.heap.push { cls:=.type "list_iterator",data:=.fields #[.ref p,.int 0 0] }).objs.size=some (seqObj "list" #[] 0):=Heap.get?_push_size _ rfl
 have I1:Inv X pins σ H { s with heap:=(s.heap.push { cls:=.type "list_iterator",data:=.fields #[.ref p,.int 0 0] }).push (seqObj "list" #[] 0) }:=I0.kept (t':=s.toks) fun b o e=>Heap.get?_push_of_some _ (Heap.get?_push_of_some _ e)
 rw[hS] at gS ⊢
 have hSI:s.heap.objs.size+1≠s.heap.objs.size:=Nat.ne_of_gt (Nat.lt_succ_self _)
 have hp:p≠s.heap.objs.size:=Nat.ne_of_lt hll
 have W:=Walks.list (prog:=X.prog) (w:=X.w) (A:=X.A.in1) (show X.A.in1.handled=none from hr.hd) s.heap.objs.size p hp ((as.map Value.ref).toArray)
 have hsz:((as.map Value.ref).toArray).size=as.length:=by simp
 generalize hIa:s.heap.objs.size=Ia at *
 refine codeAny_builtin PySem.F.entry_min_loop ?_
 rw[Around.under_plainId PySem.F.plain_min_loop _]
 show wpAny _ X.A.in1 (seqItems? (.ref (Ia+1)) >>= _) _ _ _
 refine wpAny_bind (wpAny_seqItems gS rfl ?_)
 show wpAny _ X.A.in1 (tryCatch (pyNext (.ref Ia)) _ >>= _) _ _ _
 cases as with
 |nil =>
  refine wpAny_bind (wpAny_tryCatch (W.done _ _ _ ⟨⟨_,gI,rfl,rfl⟩,isl I1 hj0⟩ fun h' tk' hk'=>?_))
  refine wpAny_bind (wpAny_rule (wpAny_pure ?_))
  refine⟨dv,H,?_,rd,dflt rfl H hj0⟩
  exact I1.turns (ch:=[Ia]) (t':=tk') (fun b o hb e=>hk' b o hb e) fun b hb=>by rw[List.mem_singleton.mp hb];exact fI
 |cons a0 ar =>
  refine wpAny_bind (wpAny_tryCatch (W.item 0 _ _ _ (by rw[hsz];exact Nat.succ_pos _) ⟨⟨_,gI,rfl,rfl⟩,isl I1 hj0⟩ fun v h' tk' hP hst' hk'=>?_))
  have hv:v=.ref a0:=by simpa using hP.symm
  subst hv
  obtain⟨oI',hoI',hoc,hod⟩:=id hst'.1
  have I2:=(I1.turns (ch:=[Ia]) (t':=tk') (h':=h') (fun b o hb e=>hk' b o hb e) (fun b hb=>by rw[List.mem_singleton.mp hb];exact fI)).repin fI fS (hk' (Ia+1) _ (by simp) gS) hoI' (fun v e=>by cases e) (fun v e=>by rw[hod] at e;cases e)
  show wpAny _ X.A.in1 (tryCatch (holding [.ref a0] (call (.ref q) [.ref a0])) _ >>= _) _ _ _
  refine wpAny_bind (wpAny_tryCatch (wpAny_holding (wpAny_mono (Lj (vs:=[.ref a0]) F hr hb I2 (.cons rfl .nil) (turn 0 a0 rfl H hj0)) (fun x s2 he=>?_) fun _ _ hF=>hF.elim)))
  obtain⟨rv,H2,I3,rr,er,hj2⟩:=he
  subst er
  obtain⟨t2,rfl⟩:=rr
  have nS2:=I3.pin (Ia+1,_) (List.mem_append_right _ (List.mem_append_right _ (.head _)))
  have nI2:=I3.pin (Ia,oI') (List.mem_append_right _ (List.mem_append_right _ (.tail _ (.head _))))
  have s1:=Heap.SameBut.update s2.heap (Ia+1) (Obj.mapSeq fun _=>#[.ref a0,.int (kf 0) t2])
  obtain⟨c2,hc2⟩:∃c2,(s2.heap.update (Ia+1) (Obj.mapSeq fun _=>#[.ref a0,.int (kf 0) t2])).get? (Ia+1)=some (seqObj "list" #[.ref a0,.int (kf 0) t2] c2):=⟨_,get?_update_seq nS2.1 fun _=>#[.ref a0,.int (kf 0) t2]⟩
  show wpAny _ X.A.in1 (updateSeq (Ia+1) (fun _=>#[.ref a0,.int (kf 0) t2]) >>= _) _ _ _
  refine wpAny_bind ?_
  refine wpAny_updateSeq nS2.1 rfl ?_
  rw[hname]
  have I4:=((I3.unpinned).turns (ch:=[Ia+1]) (t':=s2.toks) (h':=s2.heap.update (Ia+1) (Obj.mapSeq fun _=>#[.ref a0,.int (kf 0) t2])) (fun b o hb e=>(s1.2 b (by simpa using hb)).trans e) (fun b hb=>by rw[List.mem_singleton.mp hb];exact fS.at' nS2.2.1)).repin (fI.at' nI2.2.1) (fS.at' nS2.2.1) hc2 ((s1.2 Ia hSI.symm).trans nI2.1) (fun v e=>by cases e) nI2.2.2.2.2
  refine wpAny_pure ⟨plainId_quiet PySem.F.plain_min_loop _,Nl F hr hb hJ turn hp hSI fI fS fin _ 0 0 H2 _ a0 t2 c2 oI' rfl (Nat.succ_le_succ (Nat.zero_le _)) I4 hj2 ⟨oI',(s1.2 _ hSI.symm).trans nI2.1,hoc,hod⟩ rfl (Nat.le_refl _) fun j' hj'=>?_⟩
  have e:j'=0:=by omega
  subst e
  exact⟨by omega,fun h=>absurd h (Nat.lt_irrefl _)⟩
def tMinK(K:PySem.W.Frag)(sp:Sp)(te td:TE):TE:=fun σ H Q=>te σ H fun v H1=>td σ H1 fun dv H2=>∃(p:Addr) (as:List Addr) (kf:Nat->Int) (J:Hp->Prop),v=.ref p/\J H2/\(∀H,J H->SqL K H p (as.map V.ref)) ∧
 (∀(i:Nat) a,as[i]?=some a->∀H,J H->sp [.ref a] H (fun r H'=>r=.int (kf i)/\J H') E0)/\(as=[]->∀H,J H->Q dv H) ∧
 ∀(i:Nat) a H,as[i]?=some a->(∀j,j<as.length->kf i<=kf j/\(j<i->kf i<kf j))->J H->Q (.ref a) H
theorem Tq{x:Str}{e ed:Expr}{te td:TE}{pn pf pk pd pos:Pos}(F:FnOk X.prog X.w X.K X.mg X.base CX0 k q fd ps sp)(hr:Room (k+1) X.A)(hb:Binds X.K fd ps [])(hg:Gl X "min")(hm:X.mg "min"=none)(hv:bootBuiltins "min"=some (.builtin "min"))
  (hgx:Gl X x) (hmx:X.mg x=some (.ref q)) (he:PE X e te) (hd:PE X ed td) (hdb:(x==("__debug__":Str))=false:=by decide) (hst:starEach [e] X.env=(false,eval e X.env)::starEach [] X.env:=by rfl) :
  PE X (.Call (.Name "min" pn) [e] [⟨some "key",.Name x pf,pk⟩,⟨some "default",ed,pd⟩] pos) (tMinK X.K sp te td):=by
 intro pins s σ H Q I h
 refine wpAny_Call_Name_kw (Br I hg hm hv ?_)
 refine callWith_kw (he:=by rw[hst];rfl) (hplain:=by rw[hst];rfl) (thn (Mg he Tb hst pos pins s σ H (fun vs H1=>match vs with
  |[v]=>td σ H1 fun dv H2=>∃(p:Addr) (as:List Addr) (kf:Nat->Int) (J:Hp->Prop),v=.ref p/\J H2/\(∀H,J H->SqL X.K H p (as.map V.ref)) ∧
   (∀(i:Nat) a,as[i]?=some a->∀H,J H->sp [.ref a] H (fun r H'=>r=.int (kf i)/\J H') E0)/\(as=[]->∀H,J H->Q dv H) ∧
   ∀(i:Nat) a H,as[i]?=some a->(∀j,j<as.length->kf i<=kf j/\(j<i->kf i<kf j))->J H->Q (.ref a) H
  |_=>False) I h) fun us s1 ⟨vs,H1,I1,r1,q1⟩=>?_)
 match vs,r1,q1 with
 |[v],r1,q1 =>
  obtain⟨u,rfl,ru⟩:=Dg r1
  refine kws_cons (Da I1 hgx hmx ?_ hdb)
  refine kws_cons (thn (hd pins s1 σ H1 _ I1 q1) fun ud s2 ⟨dv,H2,I2,rd,p,as,kf,J,ep,hj,hJ,turn,dflt,fin⟩=>?_)
  refine kws_nil ?_
  subst ep
  obtain rfl:u=Value.ref p:=ru
  exact Nt F hr hb I2 hj hJ turn rd dflt fin
end
end L2
end
section
namespace TL
open PySem PySem.Spec PyProof.Rows L2
theorem R6:bootBuiltins "min"=some (.builtin "min"):=by decide +kernel
def RecT:T->Prop
 | .tup _=>True
 | .lst _=>True
 | .ref _=>True
 |_=>False
theorem Rep.recd{K:PySem.W.Frag}{S:TH}{H:Hp}{v:V}{t:T}(r:Rep K S H v t)(h:RecT t):∃a,v=.ref a:=by
 cases r with
 |tup=>exact⟨_,rfl⟩
 |lst=>exact⟨_,rfl⟩
 |ref a=>exact⟨_,rfl⟩
 |_=>exact h.elim
theorem G2{K:PySem.W.Frag}{S:TH}{H:Hp}:∀{vs:List V} {ts:List T},Reps K S H vs ts->(∀t∈ts,RecT t)->∃as:List Addr,vs=as.map V.ref
 |[],[],_,_=>⟨[],rfl⟩
 |[],_::_,r,_=>absurd r.1 (by simp)
 |_::_,[],r,_=>absurd r.1 (by simp)
 |v::vs,t::ts,r,h=>by
  obtain⟨a,rfl⟩:=r.head.recd (h t (.head _))
  obtain⟨as,rfl⟩:=G2 r.tail fun t ht=>h t (.tail _ ht)
  exact⟨a::as,rfl⟩
section
variable{X:Cx}{e ed:Expr}{te td:UTE}{pn pf pk pd pos:Pos}
def uMinK(t:List T->TH->UX->Prop)(te td:UTE):UTE:=fun env S P=>te env S fun xs S1=>td env S1 fun d S2=>∃(ts:List T) (kf:Nat->Int),xs=.lst ts/\(∀t∈ts,RecT t) ∧
 (∀(i:Nat) x,ts[i]?=some x->t [x] S2 fun r S'=>r=.int (kf i)/\S'=S2)/\(ts=[]->P d S2) ∧
 ∀(i:Nat) x,ts[i]?=some x->(∀j,j<ts.length->kf i<=kf j/\(j<i->kf i<kf j))->P x S2
theorem Uq{k:Nat}{x:Str}{ps:List Str}{t:List T->TH->UX->Prop}(h:Has X.prog X.w X.K X.mg X.base k x ps t)(hr:Room (k+1) X.A)(hg:Gl X "min")(hm:X.mg "min"=none)(hgx:Gl X x)(he:UE X e te)(hd:UE X ed td)(hdb:(x==("__debug__":Str))=false:=by decide)
  (hst:starEach [e] X.env=(false,eval e X.env)::starEach [] X.env:=by rfl):UE X (.Call (.Name "min" pn) [e] [⟨some "key",.Name x pf,pk⟩,⟨some "default",ed,pd⟩] pos) (uMinK t te td):=by
 obtain⟨f,fd,F,b,kp,hmx⟩:=h
 refine PE.imp (Tq F hr b hg hm R6 hgx hmx he hd hdb hst) fun σ H Q ⟨S,env,P,g,re,h,fin⟩=>Za ⟨g,re⟩ h fun v xs S1 H1 le1 m1 rx h1=>Za m1 h1 fun dv d S2 H2 le2 m2 rd h2=>?_
 obtain⟨ts,kf,rfl,hrec,turn,dflt,best⟩:=h2
 obtain⟨p,vs,rfl,fl,r⟩:=(rx.mono le2).lstE
 obtain⟨as,rfl⟩:=G2 r hrec
 have hl:as.length=ts.length:=by rw[<-r.1,List.length_map]
 refine⟨p,as,kf,fun H=>Le S2 H2 S2 H/\Good X.K S2 H,rfl,⟨.refl,m2.g⟩,fun H ⟨le,g⟩=>(fl.mono le).sq,fun i a ea H ⟨le,g⟩=>?_,fun ea H ⟨le,g⟩=>?_,fun i a H ea hb ⟨le,g⟩=>?_⟩
 ·have ea':(as.map V.ref)[i]?=some (.ref a):=by rw[List.getElem?_map,ea];rfl
  obtain⟨x,ex,rx⟩:=r.get' ea'
  exact⟨S2,[x],_,g,.cons (rx.mono le) .nil,turn i x ex,fun v' r' S' H' le' g' rp ⟨h1,h2⟩=>by
   subst h1;subst h2
   cases rp
   exact⟨rfl,le.trans le',g'⟩⟩
 ·subst ea
  exact fin dv d S2 H ((le1.trans le2).trans le) g (rd.mono le) (dflt (List.length_eq_zero_iff.mp hl.symm))
 ·have ea':(as.map V.ref)[i]?=some (.ref a):=by rw[List.getElem?_map,ea];rfl
  obtain⟨x,ex,rx⟩:=r.get' ea'
  exact fin (.ref a) x S2 H ((le1.trans le2).trans le) g (rx.mono le) (best i x ex fun j hj=>hb j (by rw[hl];exact hj))
end
end TL
end
section
namespace L2
open PySem PySem.Spec PyProof.Rows
end L2
end
section
namespace TL
open PySem PySem.Spec PyProof.Rows L2
section
variable{K:PySem.W.Frag}{S:TH}{H:Hp}
inductive VW(K:PySem.W.Frag)(S:TH)(H:Hp):V->T->Prop where
 |p {v:V} {t:T}:plT t=true->Rep K S H v t->VW K S H v t
 |l {a:Addr} {vs:List V} {t:T} {ts:List T}:sqT t=some (true,ts)->SqL K H a vs->vs.length=ts.length->(∀(i:Nat) v t,vs[i]?=some v->ts[i]?=some t->VW K S H v t)->VW K S H (.ref a) t
 |t {a:Addr} {vs:List V} {t:T} {ts:List T}:sqT t=some (false,ts)->SqT K H a vs->vs.length=ts.length->(∀(i:Nat) v t,vs[i]?=some v->ts[i]?=some t->VW K S H v t)->VW K S H (.ref a) t
theorem VQ.w:∀{n:Nat} {v:V} {t:T},VQ K S H v t->DatQ n t->VW K S H v t:=by
 intro n
 induction n with
 |zero =>
  intro v t h d
  cases d with
  |p hp =>
   cases h with
   |p _ r=>exact .p hp r
   |l e _ _=>rw[A5 e] at hp;cases hp
   |t e _ _=>rw[A5 e] at hp;cases hp
 |succ n ih =>
  intro v t h d
  cases h with
  |p hp r=>exact .p hp r
  |l e q r =>
   obtain⟨m,em,g⟩:=d.kids e
   cases em
   exact .l e q r.1 fun i v t ev et=>ih ((g t (List.mem_of_getElem? et)).view (r.2 i v t ev et)) (g t (List.mem_of_getElem? et))
  |t e q r =>
   obtain⟨m,em,g⟩:=d.kids e
   cases em
   exact .t e q r.1 fun i v t ev et=>ih ((g t (List.mem_of_getElem? et)).view (r.2 i v t ev et)) (g t (List.mem_of_getElem? et))
theorem Nj:∀{n:Nat} {v w:V} {t u:T},VW K S H v t->VW K S H w u->DatQ n t->DatQ n u->EqD K H n v w (teq n t u):=by
 intro n
 induction n with
 |zero =>
  intro v w t u h1 h2 d1 d2
  cases d1 with
  |p p1 =>
   cases d2 with
   |p p2 =>
    cases h1 with
    |p _ r1 =>
     cases h2 with
     |p _ r2 =>
      have q:=EqD.pp (K:=K) (H:=H) (n:=0) (Bi p1 r1) (Bi p2 r2)
      rw[Hu p1 p2 r1 r2] at q
      unfold teq
      rw[p1,p2]
      exact q
     |l e _ _ _=>rw[A5 e] at p2;cases p2
     |t e _ _ _=>rw[A5 e] at p2;cases p2
    |l e _ _ _=>rw[A5 e] at p1;cases p1
    |t e _ _ _=>rw[A5 e] at p1;cases p1
 |succ n ih =>
  intro v w t u h1 h2 d1 d2
  have sqn:∀{t:T},plT t=true->sqT t=none:=fun {t} h=>by cases t <;> first|rfl|cases h
  have at':∀{vs:List V} {ts:List T} {i:Nat} {x:V},vs.length=ts.length->vs[i]?=some x->ts[i]?=some (ts.getD i .non):=fun {vs ts i x} hl e=>by
   have hi:=(List.getElem?_eq_some_iff.mp e).1
   rw[List.getD_eq_getElem?_getD,List.getElem?_eq_getElem (by omega)];rfl
  have in':∀{vs ws:List V} {ts us:List T},vs.length=ts.length->(∀(i:Nat) v t,vs[i]?=some v->ts[i]?=some t->VW K S H v t)->ws.length=us.length->(∀(i:Nat) v t,ws[i]?=some v->us[i]?=some t->VW K S H v t)->(∀x∈ts,DatQ n x)->(∀x∈us,DatQ n x) →
    ∀(i:Nat) x y,vs[i]?=some x->ws[i]?=some y->EqD K H n x y (teq n (ts.getD i .non) (us.getD i .non)):=fun l1 r l2 r' g g' i x y ex ey=>by
   have a1:=at' l1 ex
   have b1:=at' l2 ey
   exact ih (r i x _ ex a1) (r' i y _ ey b1) (g _ (List.mem_of_getElem? a1)) (g' _ (List.mem_of_getElem? b1))
  unfold teq
  cases h1 with
  |p p1 r1 =>
   rw[sqn p1,p1]
   cases h2 with
   |p p2 r2 =>
    rw[p2]
    have q:=EqD.pp (K:=K) (H:=H) (n:=n+1) (Bi p1 r1) (Bi p2 r2)
    rw[Hu p1 p2 r1 r2] at q
    exact q
   |l e q _ _=>rw[A5 e];exact .pl (Bi p1 r1) q
   |t e q _ _=>rw[A5 e];exact .pt (Bi p1 r1) q
  | @l a vs _ ts e q l1 r =>
   obtain⟨m,em,g⟩:=d1.kids e
   cases em
   rw[e]
   cases h2 with
   |p p2 r2=>rw[sqn p2,A5 e];exact .lp q (Bi p2 r2)
   | @l b ws _ us e' q' l2 r' =>
    obtain⟨m',em',g'⟩:=d2.kids e'
    cases em'
    rw[e']
    by_cases hl:ts.length=us.length
    ·have z:=EqD.ll (K:=K) (H:=H) (fun i=>teq n (ts.getD i .non) (us.getD i .non)) q q' (by omega) (in' l1 r l2 r' g g')
     rw[l1] at z
     simpa [hl] using z
    ·have z:=EqD.ln (K:=K) (H:=H) (n:=n+1) q q' (by omega)
     have hb:(ts.length==us.length)=false:=by simpa using hl
     simpa [hb] using z
   | @t b ws _ us e' q' l2 r'=>rw[e'];exact .lt q q'
  | @t a vs _ ts e q l1 r =>
   obtain⟨m,em,g⟩:=d1.kids e
   cases em
   rw[e]
   cases h2 with
   |p p2 r2=>rw[sqn p2,A5 e];exact .tp q (Bi p2 r2)
   | @l b ws _ us e' q' l2 r'=>rw[e'];exact .tl q q'
   | @t b ws _ us e' q' l2 r' =>
    obtain⟨m',em',g'⟩:=d2.kids e'
    cases em'
    rw[e']
    have z:=EqD.tt (K:=K) (H:=H) (fun i=>teq n (ts.getD i .non) (us.getD i .non)) q q' (in' l1 r l2 r' g g')
    rw[l1,l2] at z
    by_cases hl:ts.length=us.length
    ·simpa [hl] using z
    ·have hb:(ts.length==us.length)=false:=by simpa using hl
     simpa [hb] using z
def cw(S:TH):T->T
 | .ref a=>match S a with
  |some (.lst ts)=>.lst (ts.map (cv S))
  |_=>.ref a
 |t=>t
theorem R1{q:Addr}{ts:List T}(h:S q=some (.lst ts)):cw S (.ref q)=.lst (ts.map (cv S)):=by show (match S q with|some (.lst ts)=>T.lst (ts.map (cv S))|_=>T.ref q)=_;rw[h]
theorem Lg{n:Nat}{v:V}{t:T}(g:Good K S H)(r:Rep K S H v t)(d:DatQ n (cw S t)):VW K S H v (cw S t):=by
 cases t with
 |ref a =>
  cases r
  cases hc:S a with
  |none =>
   have e:cw S (.ref a)=.ref a:=by show (match S a with|some (.lst ts)=>T.lst (ts.map (cv S))|_=>T.ref a)=_;rw[hc]
   rw[e] at d
   cases d with
   |p h=>cases h
   |s h _=>cases h
  |some c =>
   cases c with
   |lst ts =>
    rw[R1 hc] at d ⊢
    obtain⟨vs,hH,r⟩:=g a _ hc
    obtain⟨m,em,gk⟩:=d.kids (k:=true) (ts:=ts.map (cv S)) rfl
    refine .l rfl (.inl (.inl hH)) (by rw[List.length_map];exact r.1) fun i v t ev et=>?_
    rw[List.getElem?_map] at et
    cases eu:ts[i]? with
    |none=>rw[eu] at et;cases et
    |some u =>
     rw[eu] at et
     cases et
     have du:=gk _ (List.mem_map.mpr ⟨u,List.mem_of_getElem? eu,rfl⟩)
     exact(Hn g (r.2 i v u ev eu) du).w du
   |_ =>
    have e:cw S (.ref a)=.ref a:=by show (match S a with|some (.lst ts)=>T.lst (ts.map (cv S))|_=>T.ref a)=_;rw[hc]
    rw[e] at d
    cases d with
    |p h=>cases h
    |s h _=>cases h
 |_=>exact(d.view r).w d
def oEqW(neg:Bool):T->T->TH->UX->Prop:=fun x y S P=>∃n,n<=60/\DatQ n (cw S x)/\DatQ n (cw S y)/\P (.bl (Bool.xor neg (teq n (cw S x) (cw S y)))) S
theorem lEqW{neg:Bool}:LOp K (rEqG K neg) (oEqW neg):=fun S H v w x y P Q g rx ry ho fin=>by
 obtain⟨n,hn,d1,d2,h⟩:=ho
 exact⟨n,_,hn,Nj (Lg g rx d1) (Lg g ry d2) d1 d2,fin _ _ S H .refl g (.bl _) h⟩
end
section
variable{X:Cx}{a b o e f:Expr}{ta tb to te tf:UTE}{pos p apos cpos:Pos}
theorem Z3(hu:X.A.units+64<cLine)(ha:UE X a ta)(hb:UE X b tb):UT X (.Compare a [.NotEq] [b] pos) (A4 (A0 (oEqW true) ta tb)):=Bf (Yl hu) lEqW ha hb (Bo _)
end
end TL
end
section
namespace L2
open PySem PySem.Spec PyProof.Rows
end L2
end
section
namespace TL
open PySem PySem.Spec PyProof.Rows L2
end TL
end
section
namespace TL
open PySem PySem.Spec PyProof.Rows L2
section
variable{X:Cx}{o iter tg:Expr}{to te:UTE}{gg:UTG}{t u:UTS}{body:List Stmt}{st:Stmt}{pos apos cpos:Pos}
def Wa(te:UTE)(gg:UTG)(tb:UTS):UTS:=fun E env S=>te env S fun x S1=>match x with
 | .ref p=>∃ts,S1 p=some (.lst ts)/\∃Iv:Nat->Ev->TH->Prop,Iv 0 env S1/\(∀k env S,Iv k env S->S p=some (.lst ts)) ∧
  (∀k x env S,ts[k]?=some x->Iv k env S->gg x env S fun env' S'=>tb { E with nx:=Iv (k+1),ct:=Iv (k+1),bk:=E.nx } env' S')/\∀env S,Iv ts.length env S->E.nx env S
 |_=>False
theorem Ts(hp:PassesOwn (model X.prog X.w) X.A X.env X.xe)(hc:X.calm=true)(hi:UE X iter te)(hg:UG X tg gg)(hb:USs X body t)(hs:∀x,foldedSetIterable iter X.env x=pure x:=by intro _;rfl):
  US X (.For tg iter body [] pos) (Wa te gg t):=PS.imp (P2 hp hc (Ou hi) hg hb hs) fun D σ H h=>by
 obtain⟨S,env,E,g,re,h,fin⟩:=h
 refine Za ⟨g,re⟩ h fun v x S1 H1 le1 m1 rx h1=>?_
 cases x with
 |ref p =>
  cases rx
  obtain⟨ts,ep,Iv,i0,keep,step,done⟩:=h1
  obtain⟨vs0,q0,r0⟩:=m1.g p _ ep
  refine .inl ⟨p,rfl,.inl ⟨⟨vs0,SqL.of q0⟩,?_⟩⟩
  refine⟨fun i m σ' H'=>m=ts.length - i/\i<=ts.length/\∃S' env',Le S1 H1 S' H'/\Good X.K S' H'/\REnv X.K S' H' σ' env'/\Iv i env' S',⟨ts.length,rfl,Nat.zero_le _,S1,env,.refl,m1.g,m1.re,i0⟩,?_⟩
  rintro i m σ' H' ⟨rfl,hi,S',env',le',g',re',iv⟩
  obtain⟨vs,q,r⟩:=g' p _ (keep i env' S' iv)
  by_cases hlt:i<ts.length
  ·refine .inr ⟨⟨vs,vs[i]'(by rw[r.1];exact hlt),SqL.of q,List.getElem?_eq_getElem _⟩,fun σ2 H2=>∃S2 env2,Le S1 H1 S2 H2/\Good X.K S2 H2/\REnv X.K S2 H2 σ2 env2/\Iv (i+1) env2 S2,fun σ2 H2 z=>?_,fun x H2 y=>?_⟩
   ·exact⟨ts.length - (i+1),by omega,rfl,hlt,z⟩
   ·obtain⟨rfl,y⟩:=y
    obtain⟨tt,et,rt⟩:=r.get' (y vs (SqL.of q))
    refine⟨S',env',tt,_,g',re',rt,step i tt env' S' et iv,fun σ3 env3 S3 H3 le3 g3 re3 hb3=>?_⟩
    have l03:Le S H S3 H3:=le1.trans (le'.trans le3)
    have l13:Le S1 H1 S3 H3:=le'.trans le3
    refine⟨S3,env3,_,g3,re3,hb3,⟨fun σ4 env4 S4 H4 le4 g4 re4 q=>⟨S4,env4,l13.trans le4,g4,re4,q⟩,fun v r S4 H4 le4 g4 rp q=>fin.rt v r S4 H4 (l03.trans le4) g4 rp q,fun σ4 env4 S4 H4 le4 g4 re4 q=>fin.nx σ4 env4 S4 H4 (l03.trans le4) g4 re4 q,fun σ4 env4 S4 H4 le4 g4 re4 q=>⟨S4,env4,l13.trans le4,g4,re4,q⟩⟩⟩
  ·have ei:i=ts.length:=by omega
   subst ei
   exact .inl ⟨⟨vs,SqL.of q,by rw[r.1];exact Nat.le_refl _⟩,fin.nx σ' env' S' H' (le1.trans le') g' re' (done env' S' iv)⟩
 |_=>exact h1.elim
theorem us_or(h1:US X st t)(h2:US X st u):US X st fun E env S=>t E env S\/u E env S:=fun pins s σ H D I ⟨S,env,E,g,re,h,fin⟩ =>
 h.elim (fun h=>h1 pins s σ H D I ⟨S,env,E,g,re,h,fin⟩) fun h=>h2 pins s σ H D I ⟨S,env,E,g,re,h,fin⟩
theorem Th(hp:PassesOwn (model X.prog X.w) X.A X.env X.xe)(hc:X.calm=true)(hi:UE X iter te)(hg:UG X tg gg)(hb:USs X body t)(hs:∀x,foldedSetIterable iter X.env x=pure x:=by intro _;rfl):
  US X (.For tg iter body [] pos) (fun E env S=>uFor (Qf te) gg t E env S\/Wa te gg t E env S):=us_or (Dj hp hc (Xu hi) hg hb hs) (Ts hp hc hi hg hb hs)
end
end TL
end
section
namespace TL
open PySem PySem.Spec PyProof.Rows L2
def Cj(c:Bool)(pick:List (Option Nat))(ti:UTE)(gg:UTG)(tc:UTT)(te:UTE):UTE:=fun env S P=>ti env S fun x S1=>∃p ts,x=.ref p/\S1 p=some (.lst ts)/\ts.length<=sizeLine/\∃Iv:Nat->List T->TH->Prop,Iv 0 [] S1/\(∀k acc S,Iv k acc S->S p=some (.lst ts)) ∧
 (∀k x acc S,ts[k]?=some x->Iv k acc S->gg x (B1 pick env) S fun env' S'=>tc env' S' fun b S2=>(b=true->te env' S2 fun r S3=>Iv (k+1) (acc++[r]) S3)/\(b=false->Iv (k+1) acc S2)) ∧
 ∀acc S,Iv ts.length acc S->(c=true->∀q,S q=none->P (.ref q) (updT S q (.lst acc)))/\(c=false->P (.lst acc) S)
section
variable{X:Cx}{elt iter:Expr}{ti:UTE}{tc:UTT}{te:UTE}{pos p:Pos}{scope:Scope}{ifs:List Expr}{N:List Str}{pick:List (Option Nat)}{a b:Expr}{tr:UTA}{c:Bool}
theorem Kb{K:PySem.W.Frag}{g:TG}{gg:UTG}{σ:L2.St}{H:Hp}{Q:VK}
  (hg:∀x tt S1 H1 env (k:Ev->TH->Prop) (R:L2.St->Hp->Prop),Good K S1 H1->REnv K S1 H1 (Xq pick σ) (B1 pick env)->Rep K S1 H1 x tt->gg tt (B1 pick env) S1 k →
   (∀ σ2 env2,REnv K S1 H1 σ2 env2->k env2 S1->R σ2 H1)->g x (Xq pick σ) H1 fun σ2 H2=>Ni (Xq pick σ) σ2/\R σ2 H2)
  (h:lf K (Cj c pick ti gg tc te) σ H Q):Ex pick (iSeq K (lf K ti)) g (lfT K tc) (lf K te) σ H Q:=by
 obtain⟨S,env,P,gd,re,h,fin⟩:=h
 refine Za ⟨gd,re⟩ h fun v x S1 H1 le1 m1 rx h1=>?_
 obtain⟨p,ts,rfl,ep,hz,Iv,i0,keep,step,done⟩:=h1
 cases rx
 obtain⟨vs0,q0,r0⟩:=m1.g p _ ep
 refine⟨p,rfl,.inl ⟨⟨vs0,SqL.of q0⟩,?_⟩⟩
 refine⟨fun k m acc H'=>m=ts.length - k/\k<=ts.length/\acc.length<=k/\∃S' racc,Le S1 H1 S' H'/\Good K S' H'/\Reps K S' H' acc racc/\Iv k racc S',⟨ts.length,rfl,Nat.zero_le _,Nat.le_refl _,S1,[],.refl,m1.g,.nil,i0⟩,?_⟩
 rintro k m acc H' ⟨rfl,hk,ha,S',racc,le',g',ra,iv⟩
 obtain⟨vs,q,r⟩:=g' p _ (keep k racc S' iv)
 by_cases hlt:k<ts.length
 ·refine .inr ⟨⟨vs,vs[k]'(by rw[r.1];exact hlt),SqL.of q,List.getElem?_eq_getElem _⟩,by omega,fun acc' H2=>acc'.length<=k+1/\∃S2 racc',Le S1 H1 S2 H2/\Good K S2 H2/\Reps K S2 H2 acc' racc'/\Iv (k+1) racc' S2,fun acc' H2 z=>⟨ts.length - (k+1),by omega,rfl,hlt,z.1,z.2⟩,fun x H2 y=>?_⟩
  obtain⟨rfl,y⟩:=y
  obtain⟨tt,et,rt⟩:=r.get' (y vs (SqL.of q))
  refine hg x tt S' _ env _ _ g' ((m1.re.mono le').pick pick) rt (step k tt racc S' et iv) fun σ2 env2 re2 h2=>?_
  refine A9 ⟨g',re2⟩ h2 fun b S3 H3 le3 m3 hb=>?_
  have l13:Le S1 H1 S3 H3:=le'.trans le3
  have r3:=ra.mono le3
  cases b with
  |false=>rw[if_neg Bool.false_ne_true];exact⟨by omega,S3,racc,l13,m3.g,r3,hb.2 rfl⟩
  |true =>
   rw[if_pos rfl]
   refine Za m3 (hb.1 rfl) fun w r S4 H4 le4 m4 rw4 h4=>?_
   exact⟨by rw[List.length_append,List.length_singleton];omega,S4,racc++[r],l13.trans le4,m4.g,(r3.mono le4).append (.cons rw4 .nil),h4⟩
 ·have ek:k=ts.length:=by omega
  subst ek
  refine .inl ⟨⟨vs,SqL.of q,by rw[r.1];exact Nat.le_refl _⟩,by omega,fun p hp=>?_⟩
  have d:=done racc S' iv
  cases c with
  |true=>exact fin _ _ _ _ ((le1.trans le').trans (Le.newC hp)) (g'.newL hp ra) (.ref p) (d.1 rfl p (g'.free hp))
  |false=>exact A8 (fin.le (le1.trans le')) g' hp ra (d.2 rfl)
theorem Ge(c:Bool)(i:Nat)(N:List Str)(pick:List (Option Nat)){x:Str}{px:Pos}(hc:X.calm=true)(hi:UE X iter ti)(ht:∀C s H fp pins,PTs (Xl X N scope C s H fp pins) ifs (lfT X.K tc))(he:∀C s H fp pins,UE (Xl X N scope C s H fp pins) elt te)
  (hs:scopeOk X.env.scope.names scope.names=true:=by rfl) (hp:A2 X.N scope.names N pick=true:=by rfl) (hk:scope.kind=.function:=by rfl) (hN:N.Nodup:=by decide +kernel)
  (hiN:N[i]?=some x:=by rfl) (hpi:pick[i]?=some none:=by rfl) (hloc:scope.names.lookup x=some .local:=by rfl) (hfs:∀x,foldedSetIterable iter X.env x=pure x:=by intro _;rfl) :
  UE X (.ListComp elt [⟨.Name x px,iter,ifs,0⟩] scope pos) (Cj c pick ti (gNm i) tc te) :=
 PE.imp (Hc hc hs hp hk (Y5 hi) (fun C s H fp pins=>Bj (i:=i) hN hiN (.inl (lookup_relabel_local hloc)) (.inr (lookup_relabel_local hloc))) ht (te:=lf X.K te) he hfs) fun σ H Q h =>
  Kb (fun y tt S1 H1 env k R gd re rt hg hR=>⟨B7 hpi,hR _ _ (re.set rt) hg⟩) h
theorem Vi{env:Ev}{q:Addr}{ts:List T}{S:TH}{gg:UTG}{P:UX}(f:T->Option T)(hti:∀k:T->TH->Prop,k (.ref q) S->ti env S k)(ep:S q=some (.lst ts))(hl:ts.length<=sizeLine)
  (turn:∀x∈ts,∀(A:UX) (B:TH->Prop),(∀r,f x=some r->A r S)->(f x=none->B S)->gg x (B1 pick env) S fun env' S'=>tc env' S' fun b S2=>(b=true->te env' S2 A)/\(b=false->B S2))
  (h:(c=true->∀p,S p=none->P (.ref p) (updT S p (.lst (ts.filterMap f))))/\(c=false->P (.lst (ts.filterMap f)) S)):Cj c pick ti gg tc te env S P:=by
 refine hti _ ⟨q,ts,rfl,ep,hl,fun k acc S'=>acc=(ts.take k).filterMap f/\S'=S,⟨by simp,rfl⟩,fun k acc S' iv=>by rw[iv.2];exact ep,fun k x acc S' e iv=>?_,fun acc S' iv=>?_⟩
 ·obtain⟨rfl,rfl⟩:=iv
  have et:ts.take (k+1)=ts.take k++[x]:=by rw[List.take_add_one,e];rfl
  refine turn x (List.mem_of_getElem? e) _ _ (fun r er=>⟨?_,rfl⟩) (fun en=>⟨?_,rfl⟩)
  ·rw[et,List.filterMap_append];simp[er]
  ·rw[et,List.filterMap_append];simp[en]
 ·obtain⟨rfl,rfl⟩:=iv
  rw[List.take_length]
  exact h
theorem N4{env:Ev}{q:Addr}{S S1:TH}{gg:UTG}{P:UX}(ts:List T)(Iv:Nat->List T->TH->Prop)(hti:∀k:T->TH->Prop,k (.ref q) S1->ti env S k)(ep:S1 q=some (.lst ts))(hl:ts.length<=sizeLine)(h0:Iv 0 [] S1)(keep:∀k acc S,Iv k acc S->S q=some (.lst ts))
  (turn:∀k x acc S,ts[k]?=some x->Iv k acc S->gg x (B1 pick env) S fun env' S'=>tc env' S' fun b S2=>(b=true->te env' S2 fun r S3=>Iv (k+1) (acc++[r]) S3)/\(b=false->Iv (k+1) acc S2))
  (done:∀acc S,Iv ts.length acc S->(c=true->∀q,S q=none->P (.ref q) (updT S q (.lst acc)))/\(c=false->P (.lst acc) S)):Cj c pick ti gg tc te env S P:=hti _ ⟨q,ts,rfl,ep,hl,Iv,h0,keep,turn,done⟩
variable{ta tb:UTE}
theorem Sg(hu:X.A.units+64<cLine)(ha:UE X a ta)(hb:UE X b tb):UE X (.Compare a [.Eq] [b] pos) (A0 (oEqW false) ta tb):=Ht (W8 hu) lEqW ha hb (Bo _)
end
end TL
end
local macro_rules | `(tactic| and_intros)=>`(tactic| simp only [TL.uIf,TL.uOr,TL.Hs,TL.uNot,TL.A4,TL.A0,TL.uUn,TL.uVar,TL.uC,TL.Bh,TL.R7,TL.uNil,TL.uRet,TL.D0,TL.uSet,TL.Pn,TL.Sk,TL.Qi,TL.O0,TL.uIfE,TL.uTup,TL.uLst,TL.Rw,TL.Dl,TL.uSl3,TL.uoN,TL.uoS,TL.Lk,TL.Xj,TL.Xk,TL.Jv,TL.Jj,TL.tyT,TL.okC,TL.isT,TL.Om,TL.oII,TL.oIC,TL.Mo,TL.oIx,TL.oDx,TL.oSl3,TL.Ox,TL.Ic,TL.Qb,TL.Ra,TL.oIn,TL.oIsN,TL.oNeg,TL.Xm,List.map_cons,List.map_nil,List.length_cons,List.length_nil,List.replicate,List.cons_append,List.nil_append,List.append_nil,List.getElem?_cons_zero,List.getElem?_cons_succ,List.set_cons_zero,List.set_cons_succ,Bool.false_eq_true,Bool.true_eq_false,false_implies,true_implies,forall_const,and_true,true_and,Bool.not_true,Bool.not_false,beq_self_eq_true,Bool.true_or,Bool.or_true,Bool.false_or,Bool.or_false,Bool.and_true,Bool.true_and,Bool.and_false,Bool.false_and,reduceCtorEq,Nat.reduceAdd,Nat.reduceSub,String.reduceBEq,Bool.false_xor,Bool.true_xor,Option.some.injEq,exists_eq_left,exists_eq_left'])
section
namespace K52
open PySem PySem.Spec PyProof.Rows L2 TL
seal UE UT UA US USs UI UG UO UW PTs
def top(i:Nat):Stmt:=PySem.Challenge.pw_loomlook_k52_kept.main.body.getD i (.Pass ⟨0,0,0,0⟩)
def Ik(lo hi:Int):T->Bool
 | .int i=>decide (lo<=i)&&decide (i<=hi)
 |_=>false
def stepTab:List (Str×List Str):=[("set",["own","value"]),("get",["own","box"]),("put",["box","value"]),("add",["box","value"]),("take",["lock"]),("give",["lock"]),("wait",["box","value"]),("check",["value"]),("skip",["count"]),("unless",["value","count"])]
def Q6:List (Key×T):=stepTab.map fun p=>(Sum.inr p.1,T.tup (p.2.map T.str))
def touchTree:List (Key×T):=[(.inr "get",.tup [.int 2,.str "read"]),(.inr "put",.tup [.int 1,.str "write"]),(.inr "add",.tup [.int 1,.str "add"]),(.inr "take",.tup [.int 1,.str "lock"]),(.inr "give",.tup [.int 1,.str "lock"]),(.inr "wait",.tup [.int 1,.str "read"])]
structure Nm(P:Program)(w:World)(K:PySem.W.Frag)(mg:Str->Option Value):Prop where
 isinstance:mg "isinstance"=none
 str:mg "str"=none
 int:mg "int"=none
 bool:mg "bool"=none
 tuple:mg "tuple"=none
 list:mg "list"=none
 len:mg "len"=none
 range:mg "range"=none
 max:mg "max"=none
 enumerate:mg "enumerate"=none
 dict:mg "dict"=none
 zip:mg "zip"=none
 any:mg "any"=none
 sorted:mg "sorted"=none
 min:mg "min"=none
 FREE:∃t,mg "FREE"=some (.int (-1) t)
 SHARED_WAYS:KTp K mg "SHARED_WAYS" [T.str "read",T.str "add"]
 STEP_PARTS:KDt P w K mg "STEP_PARTS" Q6
 TOUCHES:KDt P w K mg "TOUCHES" touchTree
 Machine_at:mg "Machine"=some (.ref (cAt mg "Machine"))
 Machine_cls:Cls K (cAt mg "Machine")
 Machine_no_size:NoAttr K (cAt mg "Machine") "size"
 Machine_no_boxes:NoAttr K (cAt mg "Machine") "boxes"
 Machine_no_locks:NoAttr K (cAt mg "Machine") "locks"
 Machine_no_programs:NoAttr K (cAt mg "Machine") "programs"
 Leaver_at:mg "Leaver"=some (.ref (cAt mg "Leaver"))
 Leaver_cls:Cls K (cAt mg "Leaver")
 Leaver_no_machine:NoAttr K (cAt mg "Leaver") "machine"
 Leaver_no_everyone:NoAttr K (cAt mg "Leaver") "everyone"
 Leaver_no_meddlings:NoAttr K (cAt mg "Leaver") "meddlings"
inductive VF(ow bx:List Str):Nat->T->Prop where
 |num {n:Nat} {i:Int}:0<=i->i<=99->VF ow bx (n+1) (.tup [.str "number",.int i])
 |own {n:Nat} {x:Str}:x∈ow->VF ow bx (n+1) (.tup [.str "own",.str x])
 |box {n:Nat} {x:Str}:x∈bx->VF ow bx (n+1) (.tup [.str "box",.str x])
 |neg {n:Nat} {t:T}:VF ow bx n t->VF ow bx (n+1) (.tup [.str "not",t])
 |two {n:Nat} {z:Str} {t u:T}:(z="plus"\/z="minus"\/z="less"\/z="same")->VF ow bx n t->VF ow bx n u->VF ow bx (n+1) (.tup [.str z,t,u])
theorem VF.up{ow bx:List Str}{n:Nat}{t:T}(h:VF ow bx n t):∀{m},n<=m->VF ow bx m t:=by
 induction h with
 |num a b=>intro m hm;cases m with
  |zero=>omega
  |succ m=>exact .num a b
 |own a=>intro m hm;cases m with
  |zero=>omega
  |succ m=>exact .own a
 |box a=>intro m hm;cases m with
  |zero=>omega
  |succ m=>exact .box a
 |neg _ ih=>intro m hm;cases m with
  |zero=>omega
  |succ m=>exact .neg (ih (by omega))
 |two a _ _ ih1 ih2=>intro m hm;cases m with
  |zero=>omega
  |succ m=>exact .two a (ih1 (by omega)) (ih2 (by omega))
inductive SN(ow bx lk:List Str)(b:Int):T->Prop where
 |take {y:Str}:y∈lk->SN ow bx lk b (.tup [.str "take",.str y])
 |give {y:Str}:y∈lk->SN ow bx lk b (.tup [.str "give",.str y])
 |get {x y:Str}:x∈ow->y∈bx->SN ow bx lk b (.tup [.str "get",.str x,.str y])
 |add {y:Str} {v:T}:y∈bx->VF ow [] 5 v->SN ow bx lk b (.tup [.str "add",.str y,v])
 |put {y:Str} {v:T}:y∈bx->VF ow [] 5 v->SN ow bx lk b (.tup [.str "put",.str y,v])
 |wait {y:Str} {v:T}:y∈bx->VF ow [] 5 v->SN ow bx lk b (.tup [.str "wait",.str y,v])
 |set {x:Str} {v:T}:x∈ow->VF ow [] 5 v->SN ow bx lk b (.tup [.str "set",.str x,v])
 |check {v:T}:VF ow [] 5 v->SN ow bx lk b (.tup [.str "check",v])
 |skip {i:Int}:0<=i->i<=b->SN ow bx lk b (.tup [.str "skip",.int i])
 |unl {v:T} {i:Int}:VF ow [] 5 v->0<=i->i<=b->SN ow bx lk b (.tup [.str "unless",v,.int i])
def Fg(ow bx lk:List Str)(ss:List T):Prop:=∀(k:Nat) t,ss[k]?=some t->SN ow bx lk ((ss.length:Int) - 1 - k) t
abbrev Prg:=Str×List (Str×Int)×List T
def pairT(p:Str×Int):T:=.tup [.str p.1,.int p.2]
def Am(p:Prg):T:=.tup [.str p.1,.tup (p.2.1.map pairT),.tup p.2.2]
structure PV(size:Int)(bn ls:List Str)(p:Prg):Prop where
 few:p.2.1.length<=4
 nd:(p.2.1.map (·.1)).Nodup
 short:p.2.2.length<=30
 steps:Fg (p.2.1.map (·.1)) bn ls p.2.2
structure LV(size:Int)(bs:List (Str×Int))(ls:List Str)(ps:List Prg)(ws:List Int)(cs:List T):Prop where
 s2:2<=size
 s16:size<=16
 bn:bs.length<=8
 ln:ls.length<=4
 nd:(bs.map (·.1)++ls).Nodup
 p1:1<=ps.length
 p4:ps.length<=4
 po:∀p∈ps,PV size (bs.map (·.1)) ls p
 w1:1<=ws.length
 w6:ws.length<=6
 wo:∀x∈ws,0<=x/\x<ps.length
def loomT(size:Int)(bs:List (Str×Int))(ls:List Str)(ps:List Prg)(ws:List Int)(cs:List T):List T:=[.int size,.tup (bs.map pairT),.tup (ls.map T.str),.tup (ps.map Am),.tup (ws.map T.int),.tup cs]
def Rh(size:Int)(z:Str)(a b:Int):Int :=
 if z="plus" then (a+b) % size else if z="minus" then (a - b) % size else if z="less" then (if a<b then 1 else 0) else (if a=b then 1 else 0)
inductive W(size:Int)(od bd:List (Key×T)):Nat->T->Int->Prop where
 |num {n:Nat} {i:Int}:W size od bd (n+1) (.tup [.str "number",.int i]) (i % size)
 |own {n:Nat} {x:Str} {i:Int}:valT od (.inr x)=some (.int i)->W size od bd (n+1) (.tup [.str "own",.str x]) i
 |box {n:Nat} {x:Str} {i:Int}:valT bd (.inr x)=some (.int i)->W size od bd (n+1) (.tup [.str "box",.str x]) i
 |neg {n:Nat} {t:T} {i:Int}:W size od bd n t i->W size od bd (n+1) (.tup [.str "not",t]) (if i=0 then 1 else 0)
 |two {n:Nat} {z:Str} {t u:T} {i j:Int}:(z="plus"\/z="minus"\/z="less"\/z="same")->W size od bd n t i->W size od bd n u j->W size od bd (n+1) (.tup [.str z,t,u]) (Rh size z i j)
theorem no_{A B:Prop}{b:Bool}(h:b=false)(k:B):(b=true->A)/\(b=false->B):=⟨fun e=>(by rw[h] at e;cases e),fun _=>k⟩
theorem yes_{A B:Prop}{b:Bool}(h:b=true)(k:A):(b=true->A)/\(b=false->B):=⟨fun _=>k,fun e=>(by rw[h] at e;cases e)⟩
theorem an{α:Type}{p:α->Prop}:∀x∈([]:List α),p x:=fun _ h=>by cases h
theorem ac{α:Type}{p:α->Prop}{a:α}{r:List α}(h:p a)(hr:∀x∈r,p x):∀x∈a::r,p x:=fun x hx=>(List.mem_cons.mp hx).elim (fun e=>e ▸ h) (hr x)
theorem pm{n:Int}(h:(decide (0<n))=true:=by decide):0<n:=of_decide_eq_true h
theorem Xp{n:Nat}(h:n<=1000):n<=sizeLine:=Nat.le_of_lt (Xo h)
theorem at0{a:T}{r:List T}:atI (a::r) (0:Int)=some a:=Xb (j:=0) rfl
theorem at1{a b:T}{r:List T}:atI (a::b::r) (1:Int)=some b:=Xb (j:=1) rfl
theorem at2{a b c:T}{r:List T}:atI (a::b::c::r) (2:Int)=some c:=Xb (j:=2) rfl
theorem at3{a b c d:T}{r:List T}:atI (a::b::c::d::r) (3:Int)=some d:=Xb (j:=3) rfl
theorem at4{a b c d e:T}{r:List T}:atI (a::b::c::d::e::r) (4:Int)=some e:=Xb (j:=4) rfl
theorem X7{lo hi i:Int}(h0:lo<=i)(h1:i<=hi):Ik lo hi (.int i)=true:=by
 show (decide (lo<=i)&&decide (i<=hi))=true
 rw[decide_eq_true h0,decide_eq_true h1];rfl
theorem X2{α:Type}{β:Type}(g:α->β){xs:List α}{i:Int}(h0:0<=i)(h1:i<xs.length):∃x∈xs,atI (xs.map g) i=some (g x):=by
 have hl:i.toNat<xs.length:=by omega
 refine⟨xs[i.toNat],List.getElem_mem hl,?_⟩
 have q:atI (xs.map g) ((i.toNat:Nat):Int)=some (g xs[i.toNat]):=Xb (by rw[List.getElem?_map,List.getElem?_eq_getElem hl];rfl)
 rw[Int.toNat_of_nonneg h0] at q
 exact q
theorem B3{zs:List Str}{r:Int}(h0:0<=r)(h1:r<(zs.map T.str).length):∃z∈zs,atI (zs.map T.str) r=some (.str z):=by
 rw[List.length_map] at h1
 exact X2 T.str h0 h1
theorem Fb{l d n:Nat}(h:n<=l):HT.sIx l d (some (n:Int))=n:=by
 simp only[HT.sIx]
 rw[if_neg (by omega),Int.toNat_natCast]
 exact Nat.min_eq_left h
theorem P8{α:Type}{zs:List α}{n:Nat}(h:n<=zs.length):cutA zs none (some (n:Int))=zs.take n:=by
 unfold cutA
 rw[Fb h]
 simp[HT.sIx]
theorem Ie{α:Type}{zs:List α}{n:Nat}(h:n<=zs.length):cutA zs (some (n:Int)) none=zs.drop n:=by
 unfold cutA
 rw[Fb h]
 exact List.take_of_length_le (by rw[List.length_drop];exact Nat.le_refl _)
theorem Tu{α:Type}{zs:List α}{n m:Nat}(h:n<=zs.length)(hm:m<=zs.length):cutA zs (some (n:Int)) (some (m:Int))=(zs.drop n).take (m - n):=by
 unfold cutA
 rw[Fb h,Fb hm]
def Sd(S:TH)(a:Addr):Prop:=∃x:Int,S a=some (.lst [.int x])
structure Dr(a:Addr)(S S':TH):Prop where
 same:∀b,b≠a->S' b=S b
 sd:Sd S' a
theorem Dr.trans{a:Addr}{S S1 S2:TH}(x:Dr a S S1)(y:Dr a S1 S2):Dr a S S2:=⟨fun b h=>(y.same b h).trans (x.same b h),y.sd⟩
theorem Dr.rfl{a:Addr}{S:TH}(h:Sd S a):Dr a S S:=⟨fun _ _=>Eq.refl _,h⟩
structure Dx(a:Addr)(S S':TH):Prop where
 same:∀b c,b≠a->S b=some c->S' b=some c
 sd:Sd S' a
theorem Dx.of{a:Addr}{S S':TH}(d:Dr a S S'):Dx a S S':=⟨fun b c hb e=>(d.same b hb).trans e,d.sd⟩
theorem Dx.trans{a:Addr}{S S1 S2:TH}(x:Dx a S S1)(y:Dx a S1 S2):Dx a S S2:=⟨fun b c hb e=>y.same b c hb (x.same b c hb e),y.sd⟩
theorem Dx.dr{a:Addr}{S S1 S2:TH}(x:Dx a S S1)(y:Dr a S1 S2):Dx a S S2:=x.trans (.of y)
theorem Sd.ne{S:TH}{a p:Addr}(h:Sd S a)(hp:S p=none):p≠a:=fun z=>by obtain⟨x,q⟩:=h;rw[z,q] at hp;cases hp
theorem Dx.new{a p:Addr}{S S1:TH}{c:Cell}(x:Dx a S S1)(hp:S1 p=none):Dx a S (updT S1 p c):=by
 have np:=x.sd.ne hp
 refine⟨fun b d hb e=>?_,?_⟩
 ·have q:=x.same b d hb e
  rw[Ab (fun z=>by rw[z,hp] at q;cases q)];exact q
 ·obtain⟨y,q⟩:=x.sd
  exact⟨y,by rw[Ab np.symm];exact q⟩
theorem Dx.put{a p:Addr}{S S1:TH}{c:Cell}(x:Dx a S S1)(hp:∀d,¬ S p=some d)(np:p≠a):Dx a S (updT S1 p c):=by
 refine⟨fun b d hb e=>?_,?_⟩
 ·rw[Ab (fun z=>hp d (by rw[<-z];exact e))];exact x.same b d hb e
 ·obtain⟨y,q⟩:=x.sd
  exact⟨y,by rw[Ab np.symm];exact q⟩
theorem K1{n w:Nat}(h:w<n):ixN n (w:Int)=some w:=by
 unfold ixN
 rw[if_pos (by omega),if_pos (by omega)];simp
theorem upd2{S:TH}{p:Addr}{c d:Cell}:updT (updT S p c) p d=updT S p d:=by
 funext b
 unfold updT
 split <;> rfl
theorem A1{α:Type}{pick:List (Option Nat)}{ti:UTA}{env:Ev}{S S0:TH}{gg:UTG}{tc:UTT}{te:UTE}{P:UX}(xs:List α)(e g:α->T)(hti:∀k:List T->TH->Prop,k (xs.map e) S->ti env S0 k)(hl:xs.length<=sizeLine)
  (turn:∀x∈xs,∀(A:UX) (B:TH->Prop),A (g x) S->gg (e x) (B1 pick env) S fun env' S'=>tc env' S' fun b S2=>(b=true->te env' S2 A)/\(b=false->B S2))
  (done:P (.lst (xs.map g)) S):Aq pick ti gg tc te env S0 P:=by
 refine B6 (xs.map e) (fun k acc S'=>S'=S/\acc=(xs.take k).map g) hti (by rw[List.length_map];exact hl) ⟨rfl,rfl⟩ ?_ ?_
 ·rintro k x acc S' ek ⟨rfl,rfl⟩
  rw[List.getElem?_map] at ek
  cases ex:xs[k]? with
  |none=>rw[ex] at ek;cases ek
  |some y =>
   rw[ex] at ek
   cases ek
   refine turn y (List.mem_of_getElem? ex) _ _ ⟨rfl,?_⟩
   rw[List.take_add_one,ex,List.map_append]
   rfl
 ·rintro acc S' ⟨rfl,rfl⟩
  rw[List.length_map,List.take_length]
  exact done
theorem Et{pick:List (Option Nat)}{ti:UTA}{env:Ev}{S0:TH}{a:Addr}{size:Int}{gg:UTG}{tc:UTT}{te:UTE}{P:UX}{zs:List Str}(nz:zs.length<=1000)(sd:Sd S0 a)(hti:∀k:List T->TH->Prop,k (zs.map T.str) S0->ti env S0 k)
  (turn:∀(z:Str) S (A:UX) (B:TH->Prop),Sd S a->(∀(r:Int) S',Dr a S S'->0<=r->r<size->A (pairT (z,r)) S')->gg (.str z) (B1 pick env) S fun env' S'=>tc env' S' fun b S2=>(b=true->te env' S2 A)/\(b=false->B S2))
  (done:∀(os:List (Str×Int)) S,Dr a S0 S->os.map (·.1)=zs->P (.lst (os.map pairT)) S):Aq pick ti gg tc te env S0 P:=by
 refine B6 (zs.map T.str) (fun k acc S=>Dr a S0 S/\∃os:List (Str×Int),acc=os.map pairT/\os.map (·.1)=zs.take k) hti (by rw[List.length_map];exact Xp nz) ⟨Dr.rfl sd,[],rfl,rfl⟩ ?_ ?_
 ·rintro k x acc S e ⟨d1,os,rfl,hk⟩
  have ek:zs[k]?≠none:=fun z=>by rw[List.getElem?_map,z] at e;cases e
  obtain⟨z,ez⟩:=Option.ne_none_iff_exists'.mp ek
  have ex:x=.str z:=by rw[List.getElem?_map,ez] at e;exact(Option.some.inj e).symm
  subst ex
  refine turn z S _ _ d1.sd fun r S' d2 r0 r1=>⟨d1.trans d2,os++[(z,r)],?_,?_⟩
  ·rw[List.map_append];rfl
  ·rw[List.map_append,hk,List.take_add_one,ez];rfl
 ·rintro acc S ⟨d1,os,rfl,hk⟩
  rw[List.length_map,List.take_length] at hk
  exact done os S d1 hk
end K52
end
section
namespace K52
open PySem PySem.Spec PyProof.Rows L2 TL
seal UE UT UA US USs UI UG UO UW PTs Aq Ax
section
variable{P:Program}{w:World}{K:PySem.W.Frag}{mg:Str->Option Value}{base:Heap}
def Lc:List T->TH->UX->Prop:=fun ts S Pp=>∃(ns:List Int) (k:Nat),ts=[.fls (ns.map T.int),.int (k:Int)]/\∀v:Int,Pp (.int v) S
theorem Zz:Zv ["_law_script","_law_k"] ["_law_script","_law_k"] (Zb (top 27)):=⟨rfl,rfl,rfl,by decide +kernel,rfl,by decide +kernel,by decide +kernel⟩
theorem T0(N:Nm P w K mg)(d:Aa K mg "_law_cell_at" ["_law_script","_law_k"] (top 27)):Has P w K mg base 1 "_law_cell_at" ["_law_script","_law_k"] Lc:=by
 have sc:=Zz
 refine Ag (k:=0) d sc (fun ts S Pp h=>?_) fun cdv f A outer s H E hr=>?_
 ·obtain⟨ns,k,rfl,_⟩:=h;rfl
 refine⟨_,(Zs (Ac (Gm (uv 1) (Zl rfl N.len (Zc (uv 0) Zn))) (Zo (Zr (Zx (uv 0) (uv 1)))) Ze)
   (Zo (Zr Zi))),fun ts S Pp h=>?_⟩
 obtain⟨ns,k,rfl,h⟩:=h
 simp only[uIf,uOr,Hs,uNot,A4,A0,uUn,uVar,uC,Bh,R7,uNil,uRet,D0,uSet,Pn,Sk,Qi,O0,uIfE,uTup,uLst,Rw,Dl,uSl3,uoN,uoS,Lk,Xj,Xk,Jv,Jj,tyT,okC,isT,Om,oII,oIC,Mo,oIx,oDx,oSl3,Ox,Ic,Qb,Ra,oIn,oIsN,oNeg,TL.Xm,List.map_cons,List.map_nil,List.length_cons,List.length_nil,List.replicate,List.cons_append,List.nil_append,List.append_nil,List.getElem?_cons_zero,List.getElem?_cons_succ,List.set_cons_zero,List.set_cons_succ,Bool.false_eq_true,Bool.true_eq_false,false_implies,true_implies,forall_const,and_true,true_and,Bool.not_true,Bool.not_false,beq_self_eq_true,Bool.true_or,Bool.or_true,Bool.false_or,Bool.or_false,Bool.and_true,Bool.true_and,Bool.and_false,Bool.false_and,reduceCtorEq,Nat.reduceAdd,Nat.reduceSub,String.reduceBEq,Bool.false_xor,Bool.true_xor,Option.some.injEq,exists_eq_left,exists_eq_left',List.length_map]
 refine⟨fun e=>?_,fun _=>h 0⟩
 have hk:k<ns.length:=by simpa using e
 have e1:atI (ns.map T.int) (k:Int)=some (.int ns[k]):=Xb (by rw[List.getElem?_map,List.getElem?_eq_getElem hk];rfl)
 exact⟨_,e1,h _⟩
theorem Ux:Zv ["_law_script","_law_k","_law_number"] ["_law_script","_law_k"] (Zb (top 28)):=⟨rfl,rfl,rfl,by decide +kernel,rfl,by decide +kernel,by decide +kernel⟩
theorem N3(N:Nm P w K mg)(d:Aa K mg "_law_mixed" ["_law_script","_law_k"] (top 28))(c_law_cell_at:Has P w K mg base 1 "_law_cell_at" ["_law_script","_law_k"] Lc):Has P w K mg base 2 "_law_mixed" ["_law_script","_law_k"] Lc:=by
 have sc:=Ux
 refine Ag (k:=1) d sc (fun ts S Pp h=>?_) fun cdv f A outer s H E hr=>?_
 ·obtain⟨ns,k,rfl,_⟩:=h;rfl
 refine⟨_,(Zs (Zt 2 sc.nd (A3 (Ee (Zp (Zf c_law_cell_at hr rfl (Zc (uv 0) (Zc (uv 1) Zn))) (Ee Zi (uv 1))) Zi) Zi))
   (Zo (Zr (A3 (Zp (Zp (Ee (uv 2) (uv 2)) (Ee Zi (uv 2))) (uv 1)) Zi)))),fun ts S Pp h=>?_⟩
 obtain⟨ns,k,rfl,h⟩:=h
 refine⟨ns,k,rfl,fun v=>⟨.inl ⟨by decide,by decide⟩,.inr ⟨by decide,by decide⟩,pm (n:=2147483647),?_,.inl ⟨by decide,by decide⟩,pm (n:=2147483629),h _⟩⟩
 have h1:=Int.emod_nonneg ((v+7919 * (k:Int)) * 48271) (show (2147483647:Int)≠0 by decide)
 have h2:=Int.emod_lt_of_pos ((v+7919 * (k:Int)) * 48271) (show (0:Int)<2147483647 by decide)
 exact .inl ⟨by omega,by omega⟩
def Px:List T->TH->UX->Prop:=fun ts S Pp=>∃(ns:List Int) (k:Nat),ts=[.fls (ns.map T.int),.int (k:Int)]/\∀(a:Addr) (x:Int),S a=none->Pp (.ref a) (updT S a (.lst [.int x]))
theorem Vq:Zv ["_law_script","_law_k"] ["_law_script","_law_k"] (Zb (top 30)):=⟨rfl,rfl,rfl,by decide +kernel,rfl,by decide +kernel,by decide +kernel⟩
theorem Np(N:Nm P w K mg)(d:Aa K mg "_law_begun" ["_law_script","_law_k"] (top 30))(c_law_mixed:Has P w K mg base 2 "_law_mixed" ["_law_script","_law_k"] Lc):Has P w K mg base 3 "_law_begun" ["_law_script","_law_k"] Px:=by
 have sc:=Vq
 refine Ag (k:=2) d sc (fun ts S Pp h=>?_) fun cdv f A outer s H E hr=>?_
 ·obtain⟨ns,k,rfl,_⟩:=h;rfl
 refine⟨_,(Zo (Zr (Bk (Zc (A3 (Zf c_law_mixed hr rfl (Zc (uv 0) (Zc (uv 1) Zn))) Zi) Zn)))),fun ts S Pp h=>?_⟩
 obtain⟨ns,k,rfl,h⟩:=h
 exact⟨ns,k,rfl,fun v=>⟨pm (n:=2147483647),show 1<=sizeLine by decide,fun p hp=>h p _ hp⟩⟩
def cNext:List T->TH->UX->Prop:=fun ts S Pp=>∃(a:Addr) (n:Int),ts=[.ref a,.int n]/\Sd S a/\0<n/\∀(r:Int) S',Dr a S S'->0<=r->r<n->Pp (.int r) S'
theorem Yj:Zv ["_law_state","_law_size"] ["_law_state","_law_size"] (Zb (top 29)):=⟨rfl,rfl,rfl,by decide +kernel,rfl,by decide +kernel,by decide +kernel⟩
theorem Q8(N:Nm P w K mg)(d:Aa K mg "_law_next" ["_law_state","_law_size"] (top 29)):Has P w K mg base 1 "_law_next" ["_law_state","_law_size"] cNext:=by
 have sc:=Yj
 refine Ag (k:=0) d sc (fun ts S Pp h=>?_) fun cdv f A outer s H E hr=>?_
 ·obtain⟨a,n,rfl,_⟩:=h;rfl
 refine⟨_,(Zs (D7 (A3 (Zp (Ee (Zx (uv 0) Zi) Zi) Zi) Zi) (uv 0) Zi)
   (Zo (Zr (A3 (X4 (Zx (uv 0) Zi) Zi) (uv 1))))),fun ts S Pp h=>?_⟩
 obtain⟨a,n,rfl,⟨x,hx⟩,hn,h⟩:=h
 have e0:atI [T.int x] (0:Int)=some (.int x):=Xb (j:=0) rfl
 refine⟨_,hx,_,e0,.inr ⟨by decide,by decide⟩,show (0:Int)<2147483647 by decide,[.int x],0,hx,rfl,?_⟩
 have e1:atI ([T.int x].set 0 (T.int ((x * 48271+11) % 2147483647))) (0:Int)=some (T.int ((x * 48271+11) % 2147483647)):=Xb (j:=0) rfl
 refine⟨_,Zd,_,e1,⟨by decide,by decide⟩,hn,h _ _ ⟨fun b hb=>Ab hb,_,Zd⟩ (Int.emod_nonneg _ (by omega)) (Int.emod_lt_of_pos _ hn)⟩
def words15:List Str:=["a","b","box","own","end","lock","x","yy","size","claim","number","put","take","q","zz"]
def words20:List Str:=words15++(["wait","skip","abcdefgh","set","not"]:List Str)
def Fw(a n:Nat):List Str:=(List.range n).map fun k=>words20.getD ((a+3 * k) % 20) ""
theorem Nz:∀i,i<20->∀j,j<20->words20.getD i ""=words20.getD j ""->i=j:=by decide +kernel
theorem Nf{a n:Nat}(h:n<=20):(Fw a n).Nodup:=by
 unfold Fw List.Nodup
 rw[List.pairwise_map]
 refine List.Pairwise.imp_of_mem ?_ (List.nodup_range (n:=n))
 intro i j hi hj ne e
 have hi:=List.mem_range.mp hi
 have hj:=List.mem_range.mp hj
 have q:=Nz _ (Nat.mod_lt _ (by decide)) _ (Nat.mod_lt _ (by decide)) e
 exact ne (by omega)
theorem Od{r:Int}{k:Nat}(h:0<=r):atI (words20.map T.str) ((r+3 * (k:Int)) % 20)=some (.str (words20.getD ((r.toNat+3 * k) % 20) "")):=by
 have e:(r+3 * (k:Int)) % 20=(((r.toNat+3 * k) % 20:Nat):Int):=by omega
 rw[e]
 refine Xb ?_
 have hl:(r.toNat+3 * k) % 20<words20.length:=Nat.mod_lt _ (by decide)
 rw[List.getElem?_map,List.getElem?_eq_getElem hl,List.getD_eq_getElem?_getD,List.getElem?_eq_getElem hl]
 rfl
def J5:List T->TH->UX->Prop:=fun ts S Pp=>∃(a:Addr) (n:Nat),ts=[.ref a,.int (n:Int)]/\Sd S a/\n<=20/\∀(zs:List Str) S',Dr a S S'->zs.length=n->zs.Nodup->Pp (.lst (zs.map T.str)) S'
theorem Vl:Zv ["_law_state","_law_amount","_law_some","_law_at"] ["_law_state","_law_amount"] (Zb (top 31)):=⟨rfl,rfl,rfl,by decide +kernel,rfl,by decide +kernel,by decide +kernel⟩
theorem No{m:Nat}(N:Nm P w K mg)(d:Aa K mg "_law_names" ["_law_state","_law_amount"] (top 31))(c_law_next:Has P w K mg base m "_law_next" ["_law_state","_law_size"] cNext):Has P w K mg base (m+1) "_law_names" ["_law_state","_law_amount"] J5:=by
 have sc:=Vl
 refine Ag (k:=m) d sc (fun ts S Pp h=>?_) fun cdv f A outer s H E hr=>?_
 ·obtain⟨_,_,rfl,_⟩:=h;rfl
 refine⟨_,(Zs (Zt 2 sc.nd (Ad (Ae (Cs.s (Cs.s (Cs.s (Cs.s (Cs.s (Cs.s (Cs.s (Cs.s (Cs.s (Cs.s (Cs.s (Cs.s (Cs.s (Cs.s (Cs.s Cs.nil))))))))))))))))))
   (Zs (Zt 2 sc.nd (Zp (uv 2) (Ad (Ae (Cs.s (Cs.s (Cs.s (Cs.s (Cs.s Cs.nil)))))))))
   (Zs (Zt 3 sc.nd (Zf c_law_next hr rfl (Zc (uv 0) (Zc Zi Zn))))
   (Zo (Zr (Xg 0 ["_law_k","_law_some","_law_at"] [none,some 2,some 3] rfl (Ba rfl N.range (Zc (uv 1) Zn)) (fun _ _ _ _ _=>Al) (fun _ _ _ _ _=>(Zx (uv 1) (A3 (Zp (uv 2) (Ee Zi (uv 0))) Zi))))))))),fun ts S0 Pp h=>?_⟩
 obtain⟨a,n,rfl,hs,hn,h⟩:=h
 refine Zj (fun env S=>S0=S/\env=[some (.ref a),some (.int (n:Int)),some (.lst (words15.map T.str)),none]) (fun k hk=>⟨show 15<=sizeLine by decide,hk _ _ ⟨rfl,rfl⟩⟩) ?_
 rintro _ _ ⟨rfl,rfl⟩
 refine Zj (fun env S=>S0=S/\env=[some (.ref a),some (.int (n:Int)),some (.lst (words20.map T.str)),none]) (fun k hk=>⟨show 5<=sizeLine by decide,show 15+5<=sizeLine by decide,hk _ _ ⟨rfl,by unfold words20;rw[List.map_append];rfl⟩⟩) ?_
 rintro _ _ ⟨rfl,rfl⟩
 refine Zj (fun env S=>∃r:Int,0<=r/\Dr a S0 S/\env=[some (.ref a),some (.int (n:Int)),some (.lst (words20.map T.str)),some (.int r)]) (fun k hk=>⟨a,20,rfl,hs,by decide,fun r S1 d1 r0 _=>hk _ _ ⟨r,r0,d1,rfl⟩⟩) ?_
 rintro _ S1 ⟨r,r0,d1,rfl⟩
 refine A1 (S:=S1) (List.range n) (fun k:Nat=>T.int (k:Int)) (fun k=>.str (words20.getD ((r.toNat+3 * k) % 20) "")) (fun k hk=>⟨by omega,by omega,by rw[Int.toNat_natCast];exact hk⟩) (by rw[List.length_range];exact Xp (by omega)) (fun k hk A B hA=>⟨fun _=>⟨.inl ⟨by decide,by decide⟩,pm (n:=20),_,Od r0,hA⟩,fun z=>(by cases z)⟩) ?_
 have q:=h (Fw r.toNat n) S1 d1 (by unfold Fw;rw[List.length_map,List.length_range]) (Nf hn)
 unfold Fw at q
 rw[List.map_map] at q
 exact q
def cVal(n:Nat):List T->TH->UX->Prop:=fun ts S Pp=>∃(a:Addr) (ow:List Str) (k:Nat),k<n/\ts=[.ref a,.lst (ow.map T.str),.int (k:Int)]/\Sd S a/\∀t S',Dr a S S'->VF ow [] (k+1) t->Pp t S'
theorem scVal:Zv ["_law_state","_law_owns","_law_deep","_law_way","_law_one"] ["_law_state","_law_owns","_law_deep"] (Zb (top 32)):=⟨rfl,rfl,rfl,by decide +kernel,rfl,by decide +kernel,by decide +kernel⟩
theorem Ce{zs:List Str}(h:Bool.xor true (zs.map T.str).isEmpty=true):zs≠[]:=fun z=>by rw[z] at h;cases h
theorem Fc{zs:List Str}(h:zs≠[]):0<((zs.map T.str).length:Int):=by
 have:=List.length_pos_iff.mpr h
 rw[List.length_map];omega
theorem Kl{n m:Nat}(N:Nm P w K mg)(d:Aa K mg "_law_value" ["_law_state","_law_owns","_law_deep"] (top 32))(c_law_next:Has P w K mg base m "_law_next" ["_law_state","_law_size"] cNext)(c_law_value:Has P w K mg base m "_law_value" ["_law_state","_law_owns","_law_deep"] (cVal n)):Has P w K mg base (m+1) "_law_value" ["_law_state","_law_owns","_law_deep"] (cVal (n+1)):=by
 have sc:=scVal
 refine Ag (k:=m) d sc (fun ts S Pp h=>?_) fun cdv f A outer s H E hr=>?_
 ·obtain⟨_,_,_,_,rfl,_⟩:=h;rfl
 have hu0:=Ao hr
 refine⟨_,(Zs (Zt 3 sc.nd (Zf c_law_next hr rfl (Zc (uv 0) (Zc Zi Zn))))
   (Zs (Ac (UW.ut (Ck (Xf hu0 (uv 2) Zi) (Xs (Gm (uv 3) Zi)))) (Zs (Ac (UW.ut (B9 (Bs hu0 (uv 1) (Ad Zn)) (Cf (Xf hu0 (A3 (uv 3) Zi) Zi)))) (Zo (Zr (Zu (Zc Zq (Zc (Zx (uv 1) (Zf c_law_next hr rfl (Zc (uv 0) (Zc (Zl rfl N.len (Zc (uv 1) Zn)) Zn)))) Zn))))) Ze)
   (Zo (Zr (Zu (Zc Zq (Zc (Zx (Ad (Zc (Zf c_law_next hr rfl (Zc (uv 0) (Zc Zi Zn))) (Zc (Zf c_law_next hr rfl (Zc (uv 0) (Zc Zi Zn))) Zn))) (Cg rfl N.int (Zc (Df hu0 (Zf c_law_next hr rfl (Zc (uv 0) (Zc Zi Zn))) Zi) Zn))) Zn)))))) Ze)
   (Zs (Zt 4 sc.nd (Zf c_law_value hr rfl (Zc (uv 0) (Zc (uv 1) (Zc (Cl (uv 2) Zi) Zn)))))
   (Zs (Ac (Xf hu0 (uv 3) Zi) (Zo (Zr (Zu (Zc Zq (Zc (uv 4) Zn))))) Ze)
   (Zo (Zr (Zu (Zc (Zx (Ad (Ae (Cs.s (Cs.s (Cs.s (Cs.s Cs.nil)))))) (A3 (uv 3) Zi)) (Zc (uv 4) (Zc (Zf c_law_value hr rfl (Zc (uv 0) (Zc (uv 1) (Zc (Cl (uv 2) Zi) Zn)))) Zn)))))))))),fun ts S0 Pp h=>?_⟩
 obtain⟨a,ow,k,hk,rfl,hs,h⟩:=h
 have o2:2<=sizeLine:=by decide
 have o3:3<=sizeLine:=by decide
 have o0:0<=sizeLine:=by decide
 have o4:4<=sizeLine:=by decide
 let e0:Option T:=some (.ref a)
 let e1:Option T:=some (.lst (ow.map T.str))
 let e2:Option T:=some (.int (k:Int))
 refine Zj (fun env S=>∃r:Int,0<=r/\r<8/\Dr a S0 S/\env=[e0,e1,e2,some (.int r),none]) (fun k hk=>⟨a,8,rfl,hs,by decide,fun r S1 d1 r0 r1=>hk _ _ ⟨r,r0,r1,d1,rfl⟩⟩) ?_
 rintro _ S1 ⟨r,r0,r1,d1,rfl⟩
 refine Zj (fun env S=>S1=S/\env=[e0,e1,e2,some (.int r),none]/\k≠0) (fun kk hkk=>?_) ?_
 ·have own:ow≠[]->∀{X:UX},(∀t S',Dr a S0 S'->VF ow [] (k+1) t->X t S')->cNext [.ref a,.int ((ow.map T.str).length:Int)] S1 fun y S2=>match y with | .int i=>∃t,atI (ow.map T.str) i=some t/\2<=sizeLine/\X (.tup [.str "own",t]) S2|_=>False:=fun hne X hX=>⟨a,_,rfl,d1.sd,Fc hne,fun q S2 d2 q0 q1=>by
   obtain⟨y,ly,ey⟩:=B3 q0 q1
   exact⟨_,ey,o2,hX _ _ (d1.trans d2) (.own ly)⟩⟩
  have num:∀{X:UX},(∀t S',Dr a S0 S'->VF ow [] (k+1) t->X t S')->cNext [.ref a,.int 4] S1 fun y S2=>match y with | .int i=>cNext [.ref a,.int 100] S2 (fun y S3=>match y with | .int j=>cNext [.ref a,.int 8] S3 (fun y S4=>match y with | .int u=>∃t,atI [T.int i,T.int j] (if Bool.xor false (decide (u=0))=true then 1 else 0)=some t/\2<=sizeLine/\X (.tup [.str "number",t]) S4|_=>False)|_=>False)|_=>False:=fun hX=>⟨a,4,rfl,d1.sd,by decide,fun i S2 d2 i0 i1=>⟨a,100,rfl,d2.sd,by decide,fun j S3 d3 j0 j1=>⟨a,8,rfl,d3.sd,by decide,fun u S4 d4 _ _=>by
   have D:=((d1.trans d2).trans d3).trans d4
   dsimp only
   by_cases hu:u=0
   ·exact⟨.int j,by rw[hu];rfl,o2,hX _ _ D (.num j0 (by omega))⟩
   ·exact⟨.int i,by rw[decide_eq_false hu];rfl,o2,hX _ _ D (.num i0 (by omega))⟩⟩⟩⟩
  refine⟨fun _=>⟨fun _=>?_,fun z=>(by cases z)⟩,fun e=>⟨fun _=>?_,fun _=>hkk _ _ ⟨rfl,rfl,fun z=>?_⟩⟩⟩
  ·refine Zj (fun env S=>S1=S/\env=[e0,e1,e2,some (.int r),none]) (fun k2 hk2=>⟨o0,fun e=>⟨pm (n:=2),fun _=>own (Ce e) h,fun _=>hk2 _ _ ⟨rfl,rfl⟩⟩,fun _=>⟨fun z=>(by cases z),fun _=>hk2 _ _ ⟨rfl,rfl⟩⟩⟩) ?_
   rintro _ _ ⟨rfl,rfl⟩
   obtain⟨b1,b2,b3,b4,b5,b6⟩:=num h
   refine⟨b1,b2,b3,b4,b5,fun i S2 d2 i0 i1=>?_⟩
   obtain⟨c1,c2,c3,c4,c5,c6⟩:=b6 i S2 d2 i0 i1
   refine⟨c1,c2,c3,c4,c5,fun j S3 d3 j0 j1=>⟨o2,c6 j S3 d3 j0 j1⟩⟩
  ·refine Zj (fun env S=>S1=S/\env=[e0,e1,e2,some (.int r),none]) (fun k2 hk2=>⟨o0,fun e=>⟨pm (n:=2),fun _=>own (Ce e) h,fun _=>hk2 _ _ ⟨rfl,rfl⟩⟩,fun _=>⟨fun z=>(by cases z),fun _=>hk2 _ _ ⟨rfl,rfl⟩⟩⟩) ?_
   rintro _ _ ⟨rfl,rfl⟩
   obtain⟨b1,b2,b3,b4,b5,b6⟩:=num h
   refine⟨b1,b2,b3,b4,b5,fun i S2 d2 i0 i1=>?_⟩
   obtain⟨c1,c2,c3,c4,c5,c6⟩:=b6 i S2 d2 i0 i1
   refine⟨c1,c2,c3,c4,c5,fun j S3 d3 j0 j1=>⟨o2,c6 j S3 d3 j0 j1⟩⟩
  ·subst z
   exact absurd e (by decide)
 rintro _ _ ⟨rfl,rfl,hk0⟩
 obtain⟨j,rfl⟩:∃j,k=j+1:=⟨k - 1,by omega⟩
 have ej:(((j+1:Nat):Int) - 1)=(j:Int):=by omega
 refine Zj (fun env S=>∃t,Dr a S0 S/\VF ow [] (j+1) t/\env=[e0,e1,e2,some (.int r),some t]) (fun kk hkk=>⟨a,ow,j,by omega,by dsimp only;rw[ej],d1.sd,fun t S2 d2 vt=>hkk _ _ ⟨t,d1.trans d2,vt,rfl⟩⟩) ?_
 rintro _ S2 ⟨t,d2,vt,rfl⟩
 refine Zj (fun env S=>S2=S/\env=[e0,e1,e2,some (.int r),some t]) (fun kk hkk=>⟨fun _=>⟨o2,h _ _ d2 (.neg vt)⟩,fun _=>hkk _ _ ⟨rfl,rfl⟩⟩) ?_
 rintro _ _ ⟨rfl,rfl⟩
 have wd:∃z:Str,(z="plus"\/z="minus"\/z="less"\/z="same")/\atI [T.str "plus",T.str "minus",T.str "less",T.str "same"] (r % 4)=some (.str z):=by
  have:r % 4=0\/r % 4=1\/r % 4=2\/r % 4=3:=by omega
  rcases this with q|q|q|q <;> rw[q]
  ·exact⟨_,.inl rfl,rfl⟩
  ·exact⟨_,.inr (.inl rfl),rfl⟩
  ·exact⟨_,.inr (.inr (.inl rfl)),rfl⟩
  ·exact⟨_,.inr (.inr (.inr rfl)),rfl⟩
 obtain⟨z,lz,ez⟩:=wd
 exact⟨o4,pm (n:=4),_,ez,a,ow,j,by omega,by dsimp only;rw[ej],d2.sd,fun t' S3 d3 vt'=>⟨o3,h _ S3 (d2.trans d3) (.two lz vt vt')⟩⟩
theorem Gy{m:Nat}(N:Nm P w K mg)(d:Aa K mg "_law_value" ["_law_state","_law_owns","_law_deep"] (top 32))(c:Has P w K mg base 1 "_law_next" ["_law_state","_law_size"] cNext):∀n:Nat,Has P w K mg base (n+1) "_law_value" ["_law_state","_law_owns","_law_deep"] (cVal n)
 | 0=>Fu d fun _ _ _ ⟨_,_,_,z,_⟩=>by omega
 |n+1=>Kl (m:=n+1) N d (c.mono (by omega)) (Gy (m:=m) N d c n)
def StW(ow bx lk:List Str)(z:Str):Prop:=z="check"\/z="skip"\/z="unless"\/(z="set"/\ow≠[])\/((z="put"\/z="add"\/z="wait")/\bx≠[])\/((z="take"\/z="give")/\lk≠[])\/(z="get"/\ow≠[]/\bx≠[])
def Sr:List T->TH->UX->Prop:=fun ts S Pp=>∃(a:Addr) (ow bx lk:List Str) (b:Int),ts=[.ref a,.lst (ow.map T.str),.lst (bx.map T.str),.lst (lk.map T.str),.int b]/\Sd S a/\ow.length<=20/\bx.length<=20/\0<=b ∧
 ∀t S',Dr a S S'->SN ow bx lk b t->Pp t S'
theorem T2:Zv ["_law_state","_law_owns","_law_boxes","_law_locks","_law_behind","_law_words","_law_word","_law_value_here","_law_own","_law_box"] ["_law_state","_law_owns","_law_boxes","_law_locks","_law_behind"] (Zb (top 33)):=⟨rfl,rfl,rfl,by decide +kernel,rfl,by decide +kernel,by decide +kernel⟩
theorem La{zs:List Str}{x:Str}{r:Int}(h0:0<=r)(h1:r<(if ((zs.map T.str).length:Int) > 1 then ((zs.map T.str).length:Int) else 1)):∃z,(zs≠[]->z∈zs)/\atI (zs.map T.str++[T.str x]) r=some (.str z):=by
 cases zs with
 |nil =>
  have e:r=0:=by
   rw[if_neg (by decide)] at h1
   omega
  exact⟨x,fun z=>absurd rfl z,by rw[e];rfl⟩
 |cons y ys =>
  have h2:r<(((y::ys).map T.str).length:Int):=by
   split at h1
   ·exact h1
   ·have:1<=((y::ys).map T.str).length:=by simp
    omega
  obtain⟨z,hz,ez⟩:=B3 (zs:=y::ys) h0 h2
  refine⟨z,fun _=>hz,?_⟩
  have hl:r.toNat<((y::ys).map T.str).length:=by omega
  have q:((y::ys).map T.str)[r.toNat]?=some (.str z):=by
   have e2:atI ((y::ys).map T.str) r=((y::ys).map T.str)[r.toNat]?:=by
    have e3:=Xb (List.getElem?_eq_getElem hl)
    rw[Int.toNat_of_nonneg h0] at e3
    rw[e3,List.getElem?_eq_getElem hl]
   rw[<-e2];exact ez
  have q2:((y::ys).map T.str++[T.str x])[r.toNat]?=some (.str z):=by rw[List.getElem?_append_left hl];exact q
  have q3:=Xb q2
  rw[Int.toNat_of_nonneg h0] at q3
  exact q3
end
end K52
end
section
namespace K52
open PySem PySem.Spec PyProof.Rows L2 TL
seal UE UT UA US USs UI UG UO UW PTs Aq Ax D0
section
variable{P:Program}{w:World}{K:PySem.W.Frag}{mg:Str->Option Value}{base:Heap}
theorem E5(xs ys:List Str):T.lst ((xs++ys).map T.str)=T.lst (xs.map T.str++ys.map T.str):=by rw[List.map_append]
theorem Pa{m:Nat}(N:Nm P w K mg)(d:Aa K mg "_law_step" ["_law_state","_law_owns","_law_boxes","_law_locks","_law_behind"] (top 33))(c_law_next:Has P w K mg base m "_law_next" ["_law_state","_law_size"] cNext)(c_law_value:Has P w K mg base m "_law_value" ["_law_state","_law_owns","_law_deep"] (cVal 4)):Has P w K mg base (m+1) "_law_step" ["_law_state","_law_owns","_law_boxes","_law_locks","_law_behind"] Sr:=by
 have sc:=T2
 refine Ag (k:=m) d sc (fun ts S Pp h=>?_) fun cdv f A outer s H E hr=>?_
 ·obtain⟨_,_,_,_,_,rfl,_⟩:=h;rfl
 have hu0:=Ao hr
 refine⟨_,(Zs (Zt 5 sc.nd (Ad (Ae (Cs.s (Cs.s (Cs.s Cs.nil))))))
   (Zs (Ac (Bs hu0 (uv 1) (Ad Zn)) (Zo (Zt 5 sc.nd (Zp (uv 5) (Ad (Ae (Cs.s (Cs.s Cs.nil))))))) Ze)
   (Zs (Ac (Bs hu0 (uv 2) (Ad Zn)) (Zo (Zt 5 sc.nd (Zp (uv 5) (Ad (Ae (Cs.s (Cs.s (Cs.s (Cs.s (Cs.s (Cs.s Cs.nil))))))))))) Ze)
   (Zs (Ac (Bs hu0 (uv 3) (Ad Zn)) (Zo (Zt 5 sc.nd (Zp (uv 5) (Ad (Ae (Cs.s (Cs.s (Cs.s (Cs.s Cs.nil))))))))) Ze)
   (Zs (Ac (UW.ut (B9 (Bs hu0 (uv 1) (Ad Zn)) (Cf (Bs hu0 (uv 2) (Ad Zn))))) (Zo (Zt 5 sc.nd (Zp (uv 5) (Ad (Ae (Cs.s (Cs.s (Cs.s Cs.nil)))))))) Ze)
   (Zs (Zt 6 sc.nd (Zx (uv 5) (Zf c_law_next hr rfl (Zc (uv 0) (Zc (Zl rfl N.len (Zc (uv 5) Zn)) Zn)))))
   (Zs (Zt 7 sc.nd (Zf c_law_value hr rfl (Zc (uv 0) (Zc (uv 1) (Zc (Zf c_law_next hr rfl (Zc (uv 0) (Zc Zi Zn))) Zn)))))
   (Zs (Zt 8 sc.nd (Zx (Zp (uv 1) (Ad (Zc Zq Zn))) (Zf c_law_next hr rfl (Zc (uv 0) (Zc (P7 rfl rfl N.max (Zc Zi (Zc (Zl rfl N.len (Zc (uv 1) Zn)) Zn))) Zn)))))
   (Zs (Zt 9 sc.nd (Zx (Zp (uv 2) (Ad (Zc Zq Zn))) (Zf c_law_next hr rfl (Zc (uv 0) (Zc (P7 rfl rfl N.max (Zc Zi (Zc (Zl rfl N.len (Zc (uv 2) Zn)) Zn))) Zn)))))
   (Zs (Ac (Xf hu0 (uv 6) Zq) (Zo (Zr (Zu (Zc Zq (Zc (Zf c_law_next hr rfl (Zc (uv 0) (Zc (Zp (uv 4) Zi) Zn))) Zn))))) Ze)
   (Zs (Ac (Xf hu0 (uv 6) Zq) (Zo (Zr (Zu (Zc Zq (Zc (uv 7) (Zc (Zf c_law_next hr rfl (Zc (uv 0) (Zc (Zp (uv 4) Zi) Zn))) Zn)))))) Ze)
   (Zs (Ac (Xf hu0 (uv 6) Zq) (Zo (Zr (Zu (Zc Zq (Zc (uv 7) Zn))))) Ze)
   (Zs (Ac (G3 (uv 6) (Zu (Ae (Cs.s (Cs.s Cs.nil))))) (Zo (Zr (Zu (Zc (uv 6) (Zc (Zx (uv 3) (Zf c_law_next hr rfl (Zc (uv 0) (Zc (Zl rfl N.len (Zc (uv 3) Zn)) Zn)))) Zn))))) Ze)
   (Zs (Ac (Xf hu0 (uv 6) Zq) (Zo (Zr (Zu (Zc Zq (Zc (uv 8) (Zc (uv 7) Zn)))))) Ze)
   (Zs (Ac (Xf hu0 (uv 6) Zq) (Zo (Zr (Zu (Zc Zq (Zc (uv 8) (Zc (uv 9) Zn)))))) Ze)
   (Zo (Zr (Zu (Zc (uv 6) (Zc (uv 9) (Zc (uv 7) Zn))))))))))))))))))))),fun ts S0 Pp h=>?_⟩
 obtain⟨a,ow,bx,lk,b,rfl,hs,low,lbx,hb,h⟩:=h
 have o0:0<=sizeLine:=by decide
 have o1:1<=sizeLine:=by decide
 have o2:2<=sizeLine:=by decide
 have o3:3<=sizeLine:=by decide
 let e0:Option T:=some (.ref a)
 let e1:Option T:=some (.lst (ow.map T.str))
 let e2:Option T:=some (.lst (bx.map T.str))
 let e3:Option T:=some (.lst (lk.map T.str))
 let e4:Option T:=some (.int b)
 let ev:List Str->Ev:=fun zs=>[e0,e1,e2,e3,e4,some (.lst (zs.map T.str)),none,none,none,none]
 let G:List Str->Nat->Prop:=fun zs n=>(∀z∈zs,StW ow bx lk z)/\1<=zs.length/\zs.length<=n
 have grow:∀{zs ys:List Str} {n k:Nat},G zs n->(∀y∈ys,StW ow bx lk y)->ys.length<=k->G (zs++ys) (n+k):=fun hg hy hk=>⟨fun z hz=>(List.mem_append.mp hz).elim (hg.1 z) (hy z),by rw[List.length_append];have:=hg.2.1;omega,by rw[List.length_append];have:=hg.2.2;omega⟩
 have more:∀{zs:List Str} {n m:Nat},G zs n->n<=m->G zs m:=fun hg hk=>⟨hg.1,hg.2.1,Nat.le_trans hg.2.2 hk⟩
 refine Zj (fun env S=>S0=S/\∃zs,env=ev zs/\G zs 3) (fun k hk=>⟨o3,hk _ _ ⟨rfl,["check","skip","unless"],rfl,ac (.inl rfl) (ac (.inr (.inl rfl)) (ac (.inr (.inr (.inl rfl))) an)),by decide,by decide⟩⟩) ?_
 rintro _ _ ⟨rfl,z1,rfl,g1⟩
 refine Zj (fun env S=>S0=S/\∃zs,env=ev zs/\G zs 5) (fun k hk=>⟨o0,fun e=>⟨o2,Xp (by have:=g1.2.2;rw[List.length_map];simp only[List.length_cons,List.length_nil];omega),hk _ _ ⟨rfl,z1++(["set","set"]:List Str),by show [e0,e1,e2,e3,e4,some (T.lst (z1.map T.str++(["set","set"]:List Str).map T.str)),none,none,none,none]=_;rw[<-E5],grow g1 (ac (.inr (.inr (.inr (.inl ⟨rfl,Ce e⟩)))) (ac (.inr (.inr (.inr (.inl ⟨rfl,Ce e⟩)))) an)) (Nat.le_refl 2)⟩⟩,fun _=>hk _ _ ⟨rfl,z1,rfl,more g1 (by decide)⟩⟩) ?_
 rintro _ _ ⟨rfl,z2,rfl,g2⟩
 refine Zj (fun env S=>S0=S/\∃zs,env=ev zs/\G zs 11) (fun k hk=>⟨o0,fun e=>⟨show 6<=sizeLine by decide,Xp (by have:=g2.2.2;rw[List.length_map];simp only[List.length_cons,List.length_nil];omega),hk _ _ ⟨rfl,z2++(["put","put","add","add","add","wait"]:List Str),by show [e0,e1,e2,e3,e4,some (T.lst (z2.map T.str++(["put","put","add","add","add","wait"]:List Str).map T.str)),none,none,none,none]=_;rw[<-E5],grow (k:=6) g2 (fun y hy=>.inr (.inr (.inr (.inr (.inl ⟨?_,Ce e⟩))))) (Nat.le_refl 6)⟩⟩,fun _=>hk _ _ ⟨rfl,z2,rfl,more g2 (by decide)⟩⟩) ?_
 ·revert y
  exact ac (.inl rfl) (ac (.inl rfl) (ac (.inr (.inl rfl)) (ac (.inr (.inl rfl)) (ac (.inr (.inl rfl)) (ac (.inr (.inr rfl)) an)))))
 rintro _ _ ⟨rfl,z3,rfl,g3⟩
 refine Zj (fun env S=>S0=S/\∃zs,env=ev zs/\G zs 15) (fun k hk=>⟨o0,fun e=>⟨show 4<=sizeLine by decide,Xp (by have:=g3.2.2;rw[List.length_map];simp only[List.length_cons,List.length_nil];omega),hk _ _ ⟨rfl,z3++(["take","take","give","give"]:List Str),by show [e0,e1,e2,e3,e4,some (T.lst (z3.map T.str++(["take","take","give","give"]:List Str).map T.str)),none,none,none,none]=_;rw[<-E5],grow (k:=4) g3 (fun y hy=>.inr (.inr (.inr (.inr (.inr (.inl ⟨?_,Ce e⟩)))))) (Nat.le_refl 4)⟩⟩,fun _=>hk _ _ ⟨rfl,z3,rfl,more g3 (by decide)⟩⟩) ?_
 ·revert y
  exact ac (.inl rfl) (ac (.inl rfl) (ac (.inr rfl) (ac (.inr rfl) an)))
 rintro _ _ ⟨rfl,z4,rfl,g4⟩
 refine Zj (fun env S=>S0=S/\∃zs,env=ev zs/\G zs 18) (fun k hk=>⟨o0,fun e=>⟨o0,fun e'=>⟨o3,Xp (by have:=g4.2.2;rw[List.length_map];simp only[List.length_cons,List.length_nil];omega),hk _ _ ⟨rfl,z4++(["get","get","get"]:List Str),by show [e0,e1,e2,e3,e4,some (T.lst (z4.map T.str++(["get","get","get"]:List Str).map T.str)),none,none,none,none]=_;rw[<-E5],grow (k:=3) g4 (fun y hy=>.inr (.inr (.inr (.inr (.inr (.inr ⟨?_,Ce e,Ce e'⟩)))))) (Nat.le_refl 3)⟩⟩,fun _=>hk _ _ ⟨rfl,z4,rfl,more g4 (by decide)⟩⟩,fun _=>⟨fun z=>(by cases z),fun _=>hk _ _ ⟨rfl,z4,rfl,more g4 (by decide)⟩⟩⟩) ?_
 ·revert y
  exact ac rfl (ac rfl (ac rfl an))
 rintro _ _ ⟨rfl,zs,rfl,g5⟩
 refine Zj (fun env S=>∃z,StW ow bx lk z/\Dr a S0 S/\env=[e0,e1,e2,e3,e4,some (.lst (zs.map T.str)),some (.str z),none,none,none]) (fun k hk=>⟨a,_,rfl,hs,Fc (fun z=>by rw[z] at g5;exact absurd g5.2.1 (by decide)),fun r S1 d1 r0 r1=>?_⟩) ?_
 ·obtain⟨z,hz,ez⟩:=B3 r0 r1
  exact⟨_,ez,hk _ _ ⟨z,g5.1 z hz,d1,rfl⟩⟩
 rintro _ S1 ⟨z,hz,d1,rfl⟩
 let e5:Option T:=some (.lst (zs.map T.str))
 let e6:Option T:=some (.str z)
 refine Zj (fun env S=>∃v,VF ow [] 5 v/\Dr a S0 S/\env=[e0,e1,e2,e3,e4,e5,e6,some v,none,none]) (fun k hk=>⟨a,3,rfl,d1.sd,by decide,fun r S2 d2 r0 r1=>⟨a,ow,r.toNat,by omega,by rw[Int.toNat_of_nonneg r0],d2.sd,fun t S3 d3 vt=>hk _ _ ⟨t,vt.up (by omega),(d1.trans d2).trans d3,rfl⟩⟩⟩) ?_
 clear d1
 rintro _ S1 ⟨v,vf,d1,rfl⟩
 let e7:Option T:=some v
 refine Zj (fun env S=>∃x,(ow≠[]->x∈ow)/\Dr a S0 S/\env=[e0,e1,e2,e3,e4,e5,e6,e7,some (.str x),none]) (fun k hk=>⟨o1,Xp (by rw[List.length_map];simp only[List.length_cons,List.length_nil];omega),a,_,rfl,d1.sd,?_,fun r S2 d2 r0 r1=>?_⟩) ?_
 ·split <;> omega
 ·obtain⟨x,hx,ex⟩:=La (x:="a") r0 r1
  exact⟨_,ex,hk _ _ ⟨x,hx,d1.trans d2,rfl⟩⟩
 clear d1
 rintro _ S1 ⟨x,hx,d1,rfl⟩
 let e8:Option T:=some (.str x)
 refine Zj (fun env S=>∃y,(bx≠[]->y∈bx)/\Dr a S0 S/\env=[e0,e1,e2,e3,e4,e5,e6,e7,e8,some (.str y)]) (fun k hk=>⟨o1,Xp (by rw[List.length_map];simp only[List.length_cons,List.length_nil];omega),a,_,rfl,d1.sd,?_,fun r S2 d2 r0 r1=>?_⟩) ?_
 ·split <;> omega
 ·obtain⟨y,hy,ey⟩:=La (x:="a") r0 r1
  exact⟨_,ey,hk _ _ ⟨y,hy,d1.trans d2,rfl⟩⟩
 clear d1
 rintro _ S1 ⟨y,hy,d1,rfl⟩
 let E9:Ev:=[e0,e1,e2,e3,e4,e5,e6,e7,e8,some (.str y)]
 have yes:∀{p q:Str},Bool.xor false (decide (p=q))=true->p=q:=fun e=>by simpa using e
 have nope:∀{p q:Str},Bool.xor false (decide (p=q))=false->p≠q:=fun e=>by simpa using e
 refine Zj (fun env S=>S1=S/\env=E9/\z≠"skip") (fun k hk=>⟨fun _=>⟨a,_,rfl,d1.sd,by omega,fun r S2 d2 r0 r1=>⟨o2,h _ _ (d1.trans d2) (.skip r0 (by omega))⟩⟩,fun e=>hk _ _ ⟨rfl,rfl,nope e⟩⟩) ?_
 rintro _ _ ⟨rfl,rfl,n1⟩
 refine Zj (fun env S=>S1=S/\env=E9/\z≠"unless") (fun k hk=>⟨fun _=>⟨a,_,rfl,d1.sd,by omega,fun r S2 d2 r0 r1=>⟨o3,h _ _ (d1.trans d2) (.unl vf r0 (by omega))⟩⟩,fun e=>hk _ _ ⟨rfl,rfl,nope e⟩⟩) ?_
 rintro _ _ ⟨rfl,rfl,n2⟩
 refine Zj (fun env S=>S1=S/\env=E9/\z≠"check") (fun k hk=>⟨fun _=>⟨o2,h _ _ d1 (.check vf)⟩,fun e=>hk _ _ ⟨rfl,rfl,nope e⟩⟩) ?_
 rintro _ _ ⟨rfl,rfl,n3⟩
 refine Zj (fun env S=>S1=S/\env=E9/\z≠"take"/\z≠"give") (fun k hk=>⟨o2,["take","give"],rfl,fun e=>?_,fun e=>hk _ _ ⟨rfl,rfl,?_⟩⟩) ?_
 ·have e:z∈(["take","give"]:List Str):=of_decide_eq_true e
  have hne:lk≠[]:=by
   rcases hz with q|q|q|q|q|q|q
   ·exact absurd q n3
   ·exact absurd q n1
   ·exact absurd q n2
   ·rw[q.1] at e;exact absurd e (by decide)
   ·rcases q.1 with q|q|q <;> (rw[q] at e;exact absurd e (by decide))
   ·exact q.2
   ·rw[q.1] at e;exact absurd e (by decide)
  refine⟨a,_,rfl,d1.sd,Fc hne,fun r S2 d2 r0 r1=>?_⟩
  obtain⟨l,hl,el⟩:=B3 r0 r1
  refine⟨_,el,o2,h _ _ (d1.trans d2) ?_⟩
  rcases List.mem_cons.mp e with e|e
  ·subst e;exact .take hl
  ·obtain rfl:=List.mem_singleton.mp e;exact .give hl
 ·have e:z ∉ (["take","give"]:List Str):=of_decide_eq_false e
  exact⟨fun q=>e (by rw[q];decide),fun q=>e (by rw[q];decide)⟩
 rintro _ _ ⟨rfl,rfl,n4,n5⟩
 refine Zj (fun env S=>S1=S/\env=E9/\z≠"set") (fun k hk=>⟨fun e=>⟨o3,h _ _ d1 (.set (hx ?_) vf)⟩,fun e=>hk _ _ ⟨rfl,rfl,nope e⟩⟩) ?_
 ·have e:=yes e
  subst e
  rcases hz with q|q|q|q|q|q|q
  ·exact absurd q (by decide)
  ·exact absurd q (by decide)
  ·exact absurd q (by decide)
  ·exact q.2
  ·exact absurd q.1 (by decide)
  ·exact absurd q.1 (by decide)
  ·exact absurd q.1 (by decide)
 rintro _ _ ⟨rfl,rfl,n6⟩
 refine Zj (fun env S=>S1=S/\env=E9/\z≠"get") (fun k hk=>⟨fun e=>⟨o3,?_⟩,fun e=>hk _ _ ⟨rfl,rfl,nope e⟩⟩) ?_
 ·have e:=yes e
  subst e
  have q:ow≠[]/\bx≠[]:=by
   rcases hz with q|q|q|q|q|q|q
   ·exact absurd q (by decide)
   ·exact absurd q (by decide)
   ·exact absurd q (by decide)
   ·exact absurd q.1 (by decide)
   ·exact absurd q.1 (by decide)
   ·exact absurd q.1 (by decide)
   ·exact q.2
  exact h _ _ d1 (.get (hx q.1) (hy q.2))
 rintro _ _ ⟨rfl,rfl,n7⟩
 refine⟨o3,?_⟩
 rcases hz with q|q|q|q|q|q|q
 ·exact absurd q n3
 ·exact absurd q n1
 ·exact absurd q n2
 ·exact absurd q.1 n6
 ·obtain⟨q,hne⟩:=q
  rcases q with rfl|rfl|rfl
  ·exact h _ _ d1 (.put (hy hne) vf)
  ·exact h _ _ d1 (.add (hy hne) vf)
  ·exact h _ _ d1 (.wait (hy hne) vf)
 ·exact absurd q.1 (fun q=>q.elim n4 n5)
 ·exact absurd q.1 n7
def Wd:List T->TH->UX->Prop:=fun ts S Pp=>∃(a:Addr) (x:Str) (size:Int) (bx lk:List Str) (most:Int),ts=[.ref a,.str x,.int size,.lst (bx.map T.str),.lst (lk.map T.str),.int most]/\Sd S a/\0<size/\bx.length<=20/\0<=most/\most<=30 ∧
 ∀(p:Prg) S',Dx a S S'->PV size bx lk p->Pp (Am p) S'
theorem Wq:Zv ["_law_state","_law_name","_law_size","_law_boxes","_law_locks","_law_most","_law_owns","_law_amount","_law_steps"] ["_law_state","_law_name","_law_size","_law_boxes","_law_locks","_law_most"] (Zb (top 34)):=⟨rfl,rfl,rfl,by decide +kernel,rfl,by decide +kernel,by decide +kernel⟩
theorem Iw{m:Nat}(N:Nm P w K mg)(d:Aa K mg "_law_program" ["_law_state","_law_name","_law_size","_law_boxes","_law_locks","_law_most"] (top 34))(c_law_next:Has P w K mg base m "_law_next" ["_law_state","_law_size"] cNext)(c_law_names:Has P w K mg base m "_law_names" ["_law_state","_law_amount"] J5)(c_law_step:Has P w K mg base m "_law_step" ["_law_state","_law_owns","_law_boxes","_law_locks","_law_behind"] Sr):Has P w K mg base (m+1) "_law_program" ["_law_state","_law_name","_law_size","_law_boxes","_law_locks","_law_most"] Wd:=by
 have sc:=Wq
 refine Ag (k:=m) d sc (fun ts S Pp h=>?_) fun cdv f A outer s H E hr=>?_
 ·obtain⟨_,_,_,_,_,_,rfl,_⟩:=h;rfl
 have hu0:=Ao hr
 refine⟨_,(Zs (Zt 6 sc.nd (Zf c_law_names hr rfl (Zc (uv 0) (Zc (Zf c_law_next hr rfl (Zc (uv 0) (Zc Zi Zn))) Zn))))
   (Zs (Zt 7 sc.nd (Zf c_law_next hr rfl (Zc (uv 0) (Zc (Zp (uv 5) Zi) Zn))))
   (Zs (G9 8 sc.nd 0 ["_law_k","_law_state","_law_owns","_law_boxes","_law_locks","_law_amount"] [none,some 0,some 6,some 3,some 4,some 7] rfl (Ba rfl N.range (Zc (uv 7) Zn)) (fun _ _ _ _ _=>Al) (fun _ _ _ _ _=>(Zf c_law_step hr rfl (Zc (uv 1) (Zc (uv 2) (Zc (uv 3) (Zc (uv 4) (Zc (Cl (Cl (uv 5) Zi) (uv 0)) Zn))))))))
   (Zs (Ac (UW.ut (B9 (Bs hu0 (uv 4) (Ad Zn)) (B9 (Pm (uv 7) Zi) (Cf (Xf hu0 (Zf c_law_next hr rfl (Zc (uv 0) (Zc Zi Zn))) Zi))))) (Zs (D7 (Zu (Zc Zq (Zc (Zx (uv 4) Zi) Zn))) (uv 8) Zi)
   (Zo (D7 (Zu (Zc Zq (Zc (Zx (uv 4) Zi) Zn))) (uv 8) (Cl (uv 7) Zi)))) Ze)
   (Zo (Zr (Zu (Zc (uv 1) (Zc (Aj rfl N.tuple (Zc (Xg 0 ["_law_own","_law_state","_law_size"] [none,some 0,some 2] rfl (Xu (uv 6)) (fun _ _ _ _ _=>Al) (fun _ _ _ _ _=>(Zu (Zc (uv 0) (Zc (Zf c_law_next hr rfl (Zc (uv 1) (Zc (uv 2) Zn))) Zn))))) Zn)) (Zc (Aj rfl N.tuple (Zc (uv 8) Zn)) Zn)))))))))),fun ts S0 Pp h=>?_⟩
 obtain⟨a,x,size,bx,lk,most,rfl,hs,hsz,lbx,m0,m30,h⟩:=h
 have o0:0<=sizeLine:=by decide
 have o2:2<=sizeLine:=by decide
 have o3:3<=sizeLine:=by decide
 let e0:Option T:=some (.ref a)
 let e1:Option T:=some (.str x)
 let e2:Option T:=some (.int size)
 let e3:Option T:=some (.lst (bx.map T.str))
 let e4:Option T:=some (.lst (lk.map T.str))
 let e5:Option T:=some (.int most)
 refine Zj (fun env S=>∃ow:List Str,ow.length<=2/\ow.Nodup/\Dr a S0 S/\env=[e0,e1,e2,e3,e4,e5,some (.lst (ow.map T.str)),none,none]) (fun k hk=>⟨a,3,rfl,hs,by decide,fun r S1 d1 r0 r1=>⟨a,r.toNat,by rw[Int.toNat_of_nonneg r0],d1.sd,by omega,fun zs S2 d2 lz nz=>hk _ _ ⟨zs,by omega,nz,d1.trans d2,rfl⟩⟩⟩) ?_
 rintro _ S1 ⟨ow,low,now,d1,rfl⟩
 let e6:Option T:=some (.lst (ow.map T.str))
 refine Zj (fun env S=>∃n:Nat,(n:Int)<=most/\Dr a S0 S/\env=[e0,e1,e2,e3,e4,e5,e6,some (.int (n:Int)),none]) (fun k hk=>⟨a,_,rfl,d1.sd,by omega,fun r S2 d2 r0 r1=>hk _ _ ⟨r.toNat,by omega,d1.trans d2,by rw[Int.toNat_of_nonneg r0];rfl⟩⟩) ?_
 clear d1
 rintro _ S1 ⟨n,hn,d1,rfl⟩
 let e7:Option T:=some (.int (n:Int))
 let SF:List T->Prop:=fun ss=>ss.length=n/\Fg ow bx lk ss
 refine Zj (fun env S=>∃(p:Addr) (ss:List T),S p=some (.lst ss)/\SF ss/\p≠a/\(∀c,¬ S0 p=some c)/\Dx a S0 S/\env=[e0,e1,e2,e3,e4,e5,e6,e7,some (.ref p)]) (fun k hk=>?_) ?_
 ·refine Mx (S1:=S1) (Db n) (fun i acc S=>Dr a S0 S/\acc.length=i/\∀(j:Nat) t,acc[j]?=some t->SN ow bx lk ((n:Int) - 1 - j) t) (fun k hk=>⟨by omega,by omega,by rw[Int.toNat_natCast];exact hk⟩) (by rw[Zh];exact Xp (by omega)) ⟨d1,rfl,fun j t e=>by simp at e⟩ ?_ ?_
  ·rintro i y acc S ei ⟨dd,la,ha⟩
   have hi:i<n:=by
    have:=(List.getElem?_eq_some_iff.mp ei).1
    rw[Zh] at this
    exact this
   rw[Fj hi] at ei
   cases ei
   refine⟨fun _=>⟨a,ow,bx,lk,_,rfl,dd.sd,by omega,lbx,by omega,fun t S2 d2 sn=>⟨dd.trans d2,by rw[List.length_append,la];rfl,fun j u eu=>?_⟩⟩,fun z=>(by cases z)⟩
   by_cases hj:j<acc.length
   ·rw[List.getElem?_append_left hj] at eu
    exact ha j u eu
   ·rw[List.getElem?_append_right (by omega)] at eu
    have ej:j=acc.length:=by
     have:=(List.getElem?_eq_some_iff.mp eu).1
     simp only[List.length_cons,List.length_nil] at this
     omega
    rw[ej,Nat.sub_self] at eu
    cases eu
    rw[ej,la]
    exact sn
  ·rintro acc S ⟨dd,la,ha⟩ p hp
   rw[Zh] at la
   have np:=dd.sd.ne hp
   refine hk _ _ ⟨p,acc,Zd,⟨la,fun j t e=>by rw[la];exact ha j t e⟩,np,fun c e=>?_,(Dx.of dd).new hp,rfl⟩
   rw[<-dd.same p np,hp] at e
   cases e
 clear d1
 rintro _ S1 ⟨p,ss,es,sf,np,fp,x1,rfl⟩
 refine Zj (fun env S=>∃(ss:List T),S p=some (.lst ss)/\SF ss/\Dx a S0 S/\env=[e0,e1,e2,e3,e4,e5,e6,e7,some (.ref p)]) (fun k hk=>⟨o0,fun e=>⟨fun en=>⟨a,2,rfl,x1.sd,by decide,fun r S2 d2 _ _=>⟨fun _=>?_,fun _=>hk _ _ ⟨ss,(d2.same p np).trans es,sf,x1.dr d2,rfl⟩⟩⟩,fun _=>⟨fun z=>(by cases z),fun _=>hk _ _ ⟨ss,es,sf,x1,rfl⟩⟩⟩,fun _=>⟨fun z=>(by cases z),fun _=>hk _ _ ⟨ss,es,sf,x1,rfl⟩⟩⟩) ?_
 ·have hne:=Ce e
  obtain⟨l,hl,el⟩:=B3 (zs:=lk) (r:=0) (by decide) (Fc hne)
  have en:1<(n:Int):=of_decide_eq_true en
  have s2:S2 p=some (.lst ss):=(d2.same p np).trans es
  have l0:=sf.1
  have put:∀{ss:List T} {i:Nat} {t:T},SF ss->SN ow bx lk ((n:Int) - 1 - i) t->SF (ss.set i t):=fun hf ht=>⟨by rw[List.length_set];exact hf.1,fun j u eu=>by
   rw[List.length_set]
   rw[List.getElem?_set] at eu
   split at eu
   ·next hij =>
    split at eu
    ·cases eu;rw[<-hij,hf.1];exact ht
    ·cases eu
   ·exact hf.2 j u eu⟩
  refine Zj (fun env S=>∃(ss:List T),S p=some (.lst ss)/\SF ss/\Dx a S0 S/\env=[e0,e1,e2,e3,e4,e5,e6,e7,some (.ref p)]) (fun k hk=>⟨_,el,o2,_,0,s2,K1 (w:=0) (by omega),hk _ _ ⟨_,Zd,put (i:=0) sf (.take hl),(x1.dr d2).put fp np,rfl⟩⟩) ?_
  rintro _ S3 ⟨ss3,es3,sf3,x3,rfl⟩
  have en1:((n:Int) - 1)=((n - 1:Nat):Int):=by omega
  refine⟨_,el,o2,_,n - 1,es3,by rw[en1];exact K1 (by have:=sf3.1;omega),hk _ _ ⟨_,Zd,put (i:=n - 1) sf3 (.give hl),x3.put fp np,rfl⟩⟩
 clear x1 es sf
 rintro _ S1 ⟨ss,es,sf,x1,rfl⟩
 refine Et (zs:=ow) (size:=size) (a:=a) (by omega) x1.sd (fun k hk=>hk) (fun z S A B sd hA=>⟨fun _=>⟨a,size,rfl,sd,hsz,fun r S' d r0 r1=>⟨o2,hA r S' d r0 r1⟩⟩,fun z=>(by cases z)⟩) fun os S dd ho=>?_
 have lo:os.length=ow.length:=by rw[<-ho,List.length_map]
 refine⟨ss,(dd.same p np).trans es,o3,h (x,os,ss) S (x1.dr dd) ⟨by show os.length<=4;omega,by show (os.map (·.1)).Nodup;rw[ho];exact now,by show ss.length<=30;rw[sf.1];omega,by show Fg (os.map (·.1)) bx lk ss;rw[ho];exact sf.2⟩⟩
end
end K52
end
section
namespace K52
open PySem PySem.Spec PyProof.Rows L2 TL
seal UE UT UA US USs UI UG UO UW PTs Aq Ax D0
section
variable{P:Program}{w:World}{K:PySem.W.Frag}{mg:Str->Option Value}{base:Heap}
def Vt:List T->TH->UX->Prop:=fun ts S Pp=>∃(a:Addr) (most:Int),ts=[.ref a,.int most]/\Sd S a/\0<=most/\most<=30/\∀size bs ls ps ws cs S',Dx a S S'->LV size bs ls ps ws cs->Pp (.tup (loomT size bs ls ps ws cs)) S'
theorem Wy:Zv ["_law_state","_law_most","_law_size","_law_amount","_law_names_here","_law_boxes","_law_locks","_law_words","_law_programs","_law_number","_law_workers","_law_claims","_law_given"] ["_law_state","_law_most"] (Zb (top 35)):=⟨rfl,rfl,rfl,by decide +kernel,rfl,by decide +kernel,by decide +kernel⟩
theorem P6{m:Nat}(N:Nm P w K mg)(d:Aa K mg "_law_loom" ["_law_state","_law_most"] (top 35))(c_law_next:Has P w K mg base m "_law_next" ["_law_state","_law_size"] cNext)(c_law_names:Has P w K mg base m "_law_names" ["_law_state","_law_amount"] J5)(c_law_program:Has P w K mg base m "_law_program" ["_law_state","_law_name","_law_size","_law_boxes","_law_locks","_law_most"] Wd):Has P w K mg base (m+1) "_law_loom" ["_law_state","_law_most"] Vt:=by
 have sc:=Wy
 refine Ag (k:=m) d sc (fun ts S Pp h=>?_) fun cdv f A outer s H E hr=>?_
 ·obtain⟨_,_,rfl,_⟩:=h;rfl
 have hu0:=Ao hr
 refine⟨_,(Zs (Zt 2 sc.nd (Zx (Ad (Ae (Cs.i (Cs.i (Cs.i (Cs.i (Cs.i (Cs.i (Cs.i (Cs.i Cs.nil)))))))))) (Zf c_law_next hr rfl (Zc (uv 0) (Zc Zi Zn)))))
   (Zs (Zt 3 sc.nd (Bk (Zc (Zf c_law_next hr rfl (Zc (uv 0) (Zc Zi Zn))) (Zc (Zf c_law_next hr rfl (Zc (uv 0) (Zc Zi Zn))) Zn))))
   (Zs (Ac (Xf hu0 (Zf c_law_next hr rfl (Zc (uv 0) (Zc Zi Zn))) Zi) (Zo (D7 Zi (uv 3) Zi)) Ze)
   (Zs (Zt 4 sc.nd (Zf c_law_names hr rfl (Zc (uv 0) (Zc Zi Zn))))
   (Zs (Zt 5 sc.nd (Ga (uv 4) Cc (A7 (Zx (uv 3) Zi))))
   (Zs (Zt 6 sc.nd (Ga (uv 4) (A7 Zi) (A7 (Zp Zi (Zx (uv 3) Zi)))))
   (Zs (Zt 7 sc.nd (Zf c_law_names hr rfl (Zc (uv 0) (Zc (Zp Zi (Zf c_law_next hr rfl (Zc (uv 0) (Zc Zi Zn)))) Zn))))
   (Zs (Ar 8 sc.nd 0 ["_law_name","_law_state","_law_size","_law_boxes","_law_locks","_law_most"] [none,some 0,some 2,some 5,some 6,some 1] rfl (Xu (uv 7)) (fun _ _ _ _ _=>Al) (fun _ _ _ _ _=>(Zf c_law_program hr rfl (Zc (uv 1) (Zc (uv 0) (Zc (uv 2) (Zc (uv 3) (Zc (uv 4) (Zc (uv 5) Zn)))))))))
   (Zs (Zt 9 sc.nd (Zf c_law_next hr rfl (Zc (uv 0) (Zc (Zl rfl N.len (Zc (uv 8) Zn)) Zn))))
   (Zs (Zt 10 sc.nd (Wg (Ad (Zc (uv 9) (Zc (uv 9) Zn))) Cc (A7 (Zp Zi (Zf c_law_next hr rfl (Zc (uv 0) (Zc Zi Zn)))))))
   (Zs (Ac (Pm (Zf c_law_next hr rfl (Zc (uv 0) (Zc Zi Zn))) Zi) (Zo (Dq (Cy (uv 10) (Zc (Zf c_law_next hr rfl (Zc (uv 0) (Zc (Zl rfl N.len (Zc (uv 8) Zn)) Zn))) Zn)))) Ze)
   (Zs (Ac (Xf hu0 (Zf c_law_next hr rfl (Zc (uv 0) (Zc Zi Zn))) Zi) (Zo (Zt 10 sc.nd (L3 (uv 10)))) Ze)
   (Zs (Ac (UW.ut (B9 (Xf hu0 (Zf c_law_next hr rfl (Zc (uv 0) (Zc Zi Zn))) Zi) (Cf (Pm (Zl rfl N.len (Zc (uv 8) Zn)) Zi)))) (Zo (Zt 10 sc.nd (Ga (Ad (Ae (Cs.i (Cs.i (Cs.i (Cs.i Cs.nil)))))) Cc (A7 (Zp Zi (Zf c_law_next hr rfl (Zc (uv 0) (Zc Zi Zn)))))))) Ze)
   (Zs (Ar 11 sc.nd 0 ["_law_box"] [none] rfl (Xu (Ga (uv 5) Cc (A7 (Zf c_law_next hr rfl (Zc (uv 0) (Zc Zi Zn)))))) (fun _ _ _ _ _=>Al) (fun _ _ _ _ _=>(Zu (Zc Zq (Zc (uv 0) Zn)))))
   (Zs (Zt 12 sc.nd (Aj rfl N.tuple (Zc (Xg 0 ["_law_box","_law_state","_law_size"] [none,some 0,some 2] rfl (Xu (uv 5)) (fun _ _ _ _ _=>Al) (fun _ _ _ _ _=>(Zu (Zc (uv 0) (Zc (Zf c_law_next hr rfl (Zc (uv 1) (Zc (uv 2) Zn))) Zn))))) Zn)))
   (Zo (Zr (Zu (Zc (uv 2) (Zc (uv 12) (Zc (Aj rfl N.tuple (Zc (uv 6) Zn)) (Zc (Aj rfl N.tuple (Zc (uv 8) Zn)) (Zc (Aj rfl N.tuple (Zc (uv 10) Zn)) (Zc (Aj rfl N.tuple (Zc (uv 11) Zn)) Zn)))))))))))))))))))))))),fun ts S0 Pp h=>?_⟩
 obtain⟨a,most,rfl,hs,m0,m30,h⟩:=h
 have o0:0<=sizeLine:=by decide
 have o2:2<=sizeLine:=by decide
 have o4:4<=sizeLine:=by decide
 let e0:Option T:=some (.ref a)
 let e1:Option T:=some (.int most)
 refine Zj (fun env S=>∃size:Int,2<=size/\size<=16/\Dx a S0 S/\env=[e0,e1,some (.int size),none,none,none,none,none,none,none,none,none,none]) (fun k hk=>⟨show 8<=sizeLine by decide,a,8,rfl,hs,by decide,fun r S1 d1 r0 r1=>?_⟩) ?_
 ·have pk:∃i:Int,atI [T.int 2,T.int 3,T.int 3,T.int 4,T.int 5,T.int 2,T.int 3,T.int 16] r=some (.int i)/\2<=i/\i<=16:=by
   have:r=0\/r=1\/r=2\/r=3\/r=4\/r=5\/r=6\/r=7:=by omega
   rcases this with rfl|rfl|rfl|rfl|rfl|rfl|rfl|rfl <;> exact⟨_,rfl,by decide,by decide⟩
  obtain⟨i,ei,i0,i1⟩:=pk
  exact⟨_,ei,hk _ _ ⟨i,i0,i1,Dx.of d1,rfl⟩⟩
 rintro _ S1 ⟨size,s2,s16,x1,rfl⟩
 let e2:Option T:=some (.int size)
 refine Zj (fun env S=>∃(p:Addr) (i j:Int),S p=some (.lst [.int i,.int j])/\0<=i/\i<=8/\0<=j/\j<=2/\p≠a/\(∀c,¬ S0 p=some c)/\Dx a S0 S/\env=[e0,e1,e2,some (.ref p),none,none,none,none,none,none,none,none,none]) (fun k hk=>⟨a,4,rfl,x1.sd,by decide,fun i S2 d2 i0 i1=>⟨a,3,rfl,d2.sd,by decide,fun j S3 d3 j0 j1=>⟨o2,fun p hp=>?_⟩⟩⟩) ?_
 ·have x3:=(x1.dr d2).dr d3
  have np:=x3.sd.ne hp
  exact hk _ _ ⟨p,i,j,Zd,i0,by omega,j0,by omega,np,(fun c e=>by rw[x3.same p c np e] at hp;cases hp),x3.new hp,rfl⟩
 clear x1
 rintro _ S1 ⟨p,i,j,es,i0,i8,j0,j2,np,fp,x1,rfl⟩
 let e3:Option T:=some (.ref p)
 refine Zj (fun env S=>∃(i:Int),S p=some (.lst [.int i,.int j])/\0<=i/\i<=8/\Dx a S0 S/\env=[e0,e1,e2,e3,none,none,none,none,none,none,none,none,none]) (fun k hk=>⟨a,12,rfl,x1.sd,by decide,fun r S2 d2 _ _=>⟨fun _=>⟨_,0,(d2.same p np).trans es,rfl,hk _ _ ⟨8,Zd,by decide,by decide,(x1.dr d2).put fp np,rfl⟩⟩,fun _=>hk _ _ ⟨i,(d2.same p np).trans es,i0,i8,x1.dr d2,rfl⟩⟩⟩) ?_
 clear x1 es i0 i8
 rintro _ S1 ⟨i,es,i0,i8,x1,rfl⟩
 refine Zj (fun env S=>∃zs:List Str,zs.length=10/\zs.Nodup/\S p=some (.lst [.int i,.int j])/\Dx a S0 S/\env=[e0,e1,e2,e3,some (.lst (zs.map T.str)),none,none,none,none,none,none,none,none]) (fun k hk=>⟨a,10,rfl,x1.sd,by decide,fun zs S2 d2 lz nz=>hk _ _ ⟨zs,lz,nz,(d2.same p np).trans es,x1.dr d2,rfl⟩⟩) ?_
 clear x1 es
 rintro _ S1 ⟨zs,lz,nz,es,x1,rfl⟩
 let e4:Option T:=some (.lst (zs.map T.str))
 let bx:List Str:=zs.take i.toNat
 let lk:List Str:=(zs.drop 8).take j.toNat
 let e5:Option T:=some (.lst (bx.map T.str))
 let e6:Option T:=some (.lst (lk.map T.str))
 refine Zj (fun env S=>S1=S/\env=[e0,e1,e2,e3,e4,e5,none,none,none,none,none,none,none]) (fun k hk=>⟨_,es,_,at0,hk _ _ ⟨rfl,?_⟩⟩) ?_
 ·have e:=P8 (zs:=zs.map T.str) (n:=i.toNat) (by rw[List.length_map];omega)
  rw[Int.toNat_of_nonneg i0] at e
  show [e0,e1,e2,e3,e4,some (T.lst (cutA (zs.map T.str) none (some i))),none,none,none,none,none,none,none]=_
  rw[e,<-List.map_take]
 rintro _ _ ⟨rfl,rfl⟩
 refine Zj (fun env S=>S1=S/\env=[e0,e1,e2,e3,e4,e5,e6,none,none,none,none,none,none]) (fun k hk=>⟨_,es,_,at1,hk _ _ ⟨rfl,?_⟩⟩) ?_
 ·have e:=Tu (zs:=zs.map T.str) (n:=8) (m:=8+j.toNat) (by rw[List.length_map];omega) (by rw[List.length_map];omega)
  have ej:((8+j.toNat:Nat):Int)=8+j:=by omega
  rw[ej,show 8+j.toNat - 8=j.toNat by omega] at e
  show [e0,e1,e2,e3,e4,e5,some (T.lst (cutA (zs.map T.str) (some 8) (some (8+j)))),none,none,none,none,none,none]=_
  rw[show (some (8:Int))=some ((8:Nat):Int) from rfl,e,<-List.map_drop,<-List.map_take]
 rintro _ _ ⟨rfl,rfl⟩
 have lbx:bx.length<=8:=by show (zs.take i.toNat).length<=8;rw[List.length_take];omega
 have llk:lk.length<=4:=by show ((zs.drop 8).take j.toNat).length<=4;rw[List.length_take];omega
 have nbl:(bx++lk).Nodup:=by
  have q:bx.Sublist (zs.take 8):=by
   have e2:zs.take i.toNat=(zs.take 8).take i.toNat:=by rw[List.take_take];congr 1;omega
   show (zs.take i.toNat).Sublist _
   rw[e2]
   exact List.take_sublist _ _
  have q2:lk.Sublist (zs.drop 8):=List.take_sublist _ _
  have q3:=q.append q2
  rw[List.take_append_drop] at q3
  exact nz.sublist q3
 refine Zj (fun env S=>∃ws:List Str,1<=ws.length/\ws.length<=3/\Dx a S0 S/\env=[e0,e1,e2,e3,e4,e5,e6,some (.lst (ws.map T.str)),none,none,none,none,none]) (fun k hk=>⟨a,3,rfl,x1.sd,by decide,fun r S2 d2 r0 r1=>⟨a,1+r.toNat,by rw[show (1+r:Int)=((1+r.toNat:Nat):Int) by omega],d2.sd,by omega,fun ws S3 d3 lw nw=>hk _ _ ⟨ws,by omega,by omega,(x1.dr d2).dr d3,rfl⟩⟩⟩) ?_
 clear x1 es
 rintro _ S1 ⟨wd,l1,l3,x1,rfl⟩
 let e7:Option T:=some (.lst (wd.map T.str))
 refine Zj (fun env S=>∃ps:List Prg,ps.length=wd.length/\(∀q∈ps,PV size bx lk q)/\Dx a S0 S/\env=[e0,e1,e2,e3,e4,e5,e6,e7,some (.lst (ps.map Am)),none,none,none,none]) (fun k hk=>?_) ?_
 ·refine B6 (wd.map T.str) (fun n acc S=>∃ps:List Prg,acc=ps.map Am/\ps.length=n/\(∀q∈ps,PV size bx lk q)/\Dx a S0 S) (fun k hk=>hk) (by rw[List.length_map];exact Xp (by omega)) ⟨[],rfl,rfl,an,x1⟩ ?_ ?_
  ·rintro n y acc S en ⟨ps,rfl,lp,hp,xx⟩
   obtain⟨z,_,rfl⟩:=List.mem_map.mp (List.mem_of_getElem? en)
   refine⟨fun _=>⟨a,z,size,bx,lk,most,rfl,xx.sd,by omega,by omega,m0,m30,fun q S' x' pv=>⟨ps++[q],by rw[List.map_append];rfl,by rw[List.length_append,lp];rfl,fun u hu=>?_,xx.trans x'⟩⟩,fun z=>(by cases z)⟩
   rcases List.mem_append.mp hu with hu|hu
   ·exact hp u hu
   ·rw[List.mem_singleton.mp hu];exact pv
  ·rintro acc S ⟨ps,rfl,lp,hp,xx⟩
   rw[List.length_map] at lp
   exact hk _ _ ⟨ps,lp,hp,xx,rfl⟩
 clear x1
 rintro _ S1 ⟨ps,lp,hps,x1,rfl⟩
 let e8:Option T:=some (.lst (ps.map Am))
 have pp:0<((ps.map Am).length:Int):=by rw[List.length_map];omega
 refine Zj (fun env S=>∃n:Int,0<=n/\n<ps.length/\Dx a S0 S/\env=[e0,e1,e2,e3,e4,e5,e6,e7,e8,some (.int n),none,none,none]) (fun k hk=>⟨a,_,rfl,x1.sd,pp,fun r S2 d2 r0 r1=>hk _ _ ⟨r,r0,by rw[List.length_map] at r1;exact r1,x1.dr d2,rfl⟩⟩) ?_
 clear x1
 rintro _ S1 ⟨n,n0,n1,x1,rfl⟩
 let e9:Option T:=some (.int n)
 let WG:List Int->Nat->Prop:=fun ws k=>1<=ws.length/\ws.length<=k/\∀y∈ws,0<=y/\y<ps.length
 refine Zj (fun env S=>∃(q:Addr) (ws:List Int),S q=some (.lst (ws.map T.int))/\WG ws 2/\q≠a/\(∀c,¬ S0 q=some c)/\Dx a S0 S/\env=[e0,e1,e2,e3,e4,e5,e6,e7,e8,e9,some (.ref q),none,none]) (fun k hk=>⟨o2,a,4,rfl,x1.sd,by decide,fun r S2 d2 r0 r1=>fun q hq=>?_⟩) ?_
 ·have pk:∃ws:List Int,cutA [T.int n,T.int n] none (some (1+r))=ws.map T.int/\WG ws 2:=by
   have w1:WG [n] 2:=⟨Nat.le_refl 1,Nat.le_succ 1,ac ⟨n0,n1⟩ an⟩
   have w2:WG [n,n] 2:=⟨Nat.le_succ 1,Nat.le_refl 2,ac ⟨n0,n1⟩ (ac ⟨n0,n1⟩ an)⟩
   have:r=0\/r=1\/r=2\/r=3:=by omega
   rcases this with rfl|rfl|rfl|rfl
   ·exact⟨[n],rfl,w1⟩
   ·exact⟨[n,n],rfl,w2⟩
   ·exact⟨[n,n],rfl,w2⟩
   ·exact⟨[n,n],rfl,w2⟩
  obtain⟨ws,ew,gw⟩:=pk
  have x2:=x1.dr d2
  have nq:=x2.sd.ne hq
  refine hk _ _ ⟨q,ws,?_,gw,nq,(fun c e=>by rw[x2.same q c nq e] at hq;cases hq),x2.new hq,rfl⟩
  rw[Zd]
  exact congrArg (fun z=>some (Cell.lst z)) ew
 clear x1
 rintro _ S1 ⟨q,ws,es,gw,nq,fq,x1,rfl⟩
 let e10:Option T:=some (.ref q)
 refine Zj (fun env S=>∃(ws:List Int),S q=some (.lst (ws.map T.int))/\WG ws 3/\Dx a S0 S/\env=[e0,e1,e2,e3,e4,e5,e6,e7,e8,e9,e10,none,none]) (fun k hk=>⟨a,3,rfl,x1.sd,by decide,fun r S2 d2 _ _=>⟨fun _=>⟨⟨_,(d2.same q nq).trans es⟩,a,_,rfl,d2.sd,pp,fun u S3 d3 u0 u1=>⟨_,(d3.same q nq).trans ((d2.same q nq).trans es),?_,hk _ _ ⟨ws++[u],?_,?_,((x1.dr d2).dr d3).put fq nq,rfl⟩⟩⟩,fun _=>hk _ _ ⟨ws,(d2.same q nq).trans es,⟨gw.1,Nat.le_succ_of_le gw.2.1,gw.2.2⟩,x1.dr d2,rfl⟩⟩⟩) ?_
 ·rw[List.length_map];exact Xo (by have:=gw.2.1;omega)
 ·rw[Zd,List.map_append];rfl
 ·refine⟨by rw[List.length_append];have:=gw.1;omega,by rw[List.length_append];have:=gw.2.1;simp only[List.length_cons,List.length_nil];omega,fun y hy=>?_⟩
  rcases List.mem_append.mp hy with hy|hy
  ·exact gw.2.2 y hy
  ·rw[List.mem_singleton.mp hy];exact⟨u0,by rw[List.length_map] at u1;exact u1⟩
 clear x1 es gw
 rintro _ S1 ⟨ws,es,gw,x1,rfl⟩
 let WV:TH->T->List Int->Prop:=fun S x ws=>x=.lst (ws.map T.int)\/(x=.ref q/\S q=some (.lst (ws.map T.int)))
 refine Zj (fun env S=>∃(x:T) (ws:List Int),WV S x ws/\WG ws 3/\Dx a S0 S/\env=[e0,e1,e2,e3,e4,e5,e6,e7,e8,e9,some x,none,none]) (fun k hk=>⟨a,3,rfl,x1.sd,by decide,fun r S2 d2 _ _=>⟨fun _=>⟨_,(d2.same q nq).trans es,fun ys ly hn hy=>?_⟩,fun _=>hk _ _ ⟨_,ws,.inr ⟨rfl,(d2.same q nq).trans es⟩,gw,x1.dr d2,rfl⟩⟩⟩) ?_
 ·have pk:∃vs:List Int,ys=vs.map T.int/\∀v∈vs,v∈ws:=by
   clear ly hn
   induction ys with
   |nil=>exact⟨[],rfl,an⟩
   |cons y r ih =>
    obtain⟨vs,ev,hv⟩:=ih fun u hu=>hy u (List.mem_cons_of_mem _ hu)
    obtain⟨v,mv,rfl⟩:=List.mem_map.mp (hy y (List.mem_cons_self ..))
    exact⟨v::vs,by rw[ev];rfl,fun u hu=>(List.mem_cons.mp hu).elim (fun z=>z ▸ mv) (hv u)⟩
  obtain⟨vs,rfl,hv⟩:=pk
  rw[List.length_map,List.length_map] at ly
  have hne:vs≠[]:=fun z=>hn (fun z'=>by
   have q1:=gw.1
   have q2:ws=[]:=List.map_eq_nil_iff.mp z'
   rw[q2] at q1
   exact absurd q1 (by decide)) (by rw[z];rfl)
  exact hk _ _ ⟨_,vs,.inl rfl,⟨List.length_pos_iff.mpr hne,Nat.le_trans ly gw.2.1,fun y hy=>gw.2.2 y (hv y hy)⟩,x1.dr d2,rfl⟩
 clear x1 es gw
 rintro _ S1 ⟨xw,ws,ew,gw,x1,rfl⟩
 have keep:∀{S S':TH},WV S xw ws->Dr a S S'->WV S' xw ws:=fun h d=>h.imp id fun ⟨h1,h2⟩=>⟨h1,(d.same q nq).trans h2⟩
 refine Zj (fun env S=>∃(x:T) (ws:List Int),WV S x ws/\WG ws 4/\Dx a S0 S/\env=[e0,e1,e2,e3,e4,e5,e6,e7,e8,e9,some x,none,none]) (fun k hk=>⟨a,6,rfl,x1.sd,by decide,fun r S2 d2 _ _=>⟨fun _=>⟨fun e=>?_,fun _=>hk _ _ ⟨xw,ws,keep ew d2,⟨gw.1,Nat.le_succ_of_le gw.2.1,gw.2.2⟩,x1.dr d2,rfl⟩⟩,fun _=>⟨fun z=>(by cases z),fun _=>hk _ _ ⟨xw,ws,keep ew d2,⟨gw.1,Nat.le_succ_of_le gw.2.1,gw.2.2⟩,x1.dr d2,rfl⟩⟩⟩⟩) ?_
 ·have e:1<((ps.map Am).length:Int):=of_decide_eq_true e
  rw[List.length_map] at e
  have w01:∀y∈([0,1,0,1]:List Int),0<=y/\y<ps.length:=ac ⟨by decide,by omega⟩ (ac ⟨by decide,by omega⟩ (ac ⟨by decide,by omega⟩ (ac ⟨by decide,by omega⟩ an)))
  refine⟨o4,a,2,rfl,d2.sd,by decide,fun u S3 d3 u0 u1=>?_⟩
  have:u=0\/u=1:=by omega
  rcases this with rfl|rfl
  ·exact hk _ _ ⟨_,[0,1,0],.inl rfl,⟨by decide,by decide,fun y hy=>w01 y (List.mem_of_mem_take (i:=3) hy)⟩,(x1.dr d2).dr d3,rfl⟩
  ·exact hk _ _ ⟨_,[0,1,0,1],.inl rfl,⟨by decide,by decide,w01⟩,(x1.dr d2).dr d3,rfl⟩
 clear x1 ew gw keep
 rintro _ S1 ⟨xw,ws,ew,gw,x1,rfl⟩
 have keep:∀{S S':TH},WV S xw ws->Dr a S S'->WV S' xw ws:=fun h d=>h.imp id fun ⟨h1,h2⟩=>⟨h1,(d.same q nq).trans h2⟩
 let e10:Option T:=some xw
 refine Zj (fun env S=>∃cs:List T,WV S xw ws/\Dx a S0 S/\env=[e0,e1,e2,e3,e4,e5,e6,e7,e8,e9,e10,some (.lst cs),none]) (fun k hk=>?_) ?_
 ·refine Oh (fun ts S2=>Dr a S1 S2/\∃zs:List Str,ts=zs.map T.str/\zs.length<=8) (fun k hk=>⟨a,2,rfl,x1.sd,by decide,fun r S2 d2 _ _=>hk _ _ ⟨d2,cutA bx none (some r),Me T.str bx none (some r),Nat.le_trans (Ja bx none (some r)) lbx⟩⟩) ?_
  rintro ts S2 ⟨d2,ys,rfl,ly⟩
  refine⟨by rw[List.length_map];exact Xp (by omega),fun _ _ S=>S2=S,rfl,?_,?_⟩
  ·rintro k y acc S ek rfl
   obtain⟨z,_,rfl⟩:=List.mem_map.mp (List.mem_of_getElem? ek)
   exact⟨fun _=>⟨o2,rfl⟩,fun z=>(by cases z)⟩
  ·rintro acc S rfl
   exact hk _ _ ⟨_,keep ew d2,x1.dr d2,rfl⟩
 clear x1 ew
 rintro _ S1 ⟨cs,ew,x1,rfl⟩
 let e11:Option T:=some (.lst cs)
 refine Zj (fun env S=>∃os:List (Str×Int),os.map (·.1)=bx/\WV S xw ws/\Dx a S0 S/\env=[e0,e1,e2,e3,e4,e5,e6,e7,e8,e9,e10,e11,some (.tup (os.map pairT))]) (fun k hk=>?_) ?_
 ·refine Et (zs:=bx) (size:=size) (a:=a) (by omega) x1.sd (fun k hk=>hk) (fun z S A B sd hA=>⟨fun _=>⟨a,size,rfl,sd,by omega,fun r S' d r0 r1=>⟨o2,hA r S' d r0 r1⟩⟩,fun z=>(by cases z)⟩) fun os S dd ho=>?_
  exact hk _ _ ⟨os,ho,keep ew dd,x1.dr dd,rfl⟩
 clear x1 ew
 rintro _ S1 ⟨os,ho,ew,x1,rfl⟩
 have lo:os.length=bx.length:=by rw[<-ho,List.length_map]
 have lv:LV size os lk ps ws cs:=⟨s2,s16,by omega,llk,by rw[ho];exact nbl,by omega,by omega,fun q hq=>by rw[ho];exact hps q hq,gw.1,by have:=gw.2.1;omega,gw.2.2⟩
 have fin:Pp (.tup (loomT size os lk ps ws cs)) S1:=h size os lk ps ws cs S1 x1 lv
 rcases ew with rfl|⟨rfl,ew⟩
 ·exact⟨show 6<=sizeLine by decide,fin⟩
 ·exact⟨_,ew,show 6<=sizeLine by decide,fin⟩
end
end K52
end
section
namespace K52
open PySem PySem.Spec PyProof.Rows L2 TL
structure Lm where
 size:Int
 bs:List (Str×Int)
 ls:List Str
 ps:List Prg
 ws:List Int
 cs:List T
def Lm.V(L:Lm):Prop:=LV L.size L.bs L.ls L.ps L.ws L.cs
def Lm.tree(L:Lm):T:=.tup (loomT L.size L.bs L.ls L.ps L.ws L.cs)
def Bp:Prg:=("",[],[])
def Lm.prs(L:Lm):List Prg:=L.ws.map fun x=>L.ps.getD x.toNat Bp
def Lm.pr(L:Lm)(w:Nat):Prg:=L.prs.getD w Bp
def Lm.ow(L:Lm)(w:Nat):List Str:=(L.pr w).2.1.map (·.1)
def Lm.bn(L:Lm):List Str:=L.bs.map (·.1)
def Lm.fs(L:Lm):List (Str×T):=[("size",.int L.size),("boxes",.tup (L.bs.map pairT)),("locks",.tup (L.ls.map T.str)),("programs",.tup (L.prs.map Am))]
structure Sta where
 bx:List Int
 ho:List Int
 sp:List (Int×List Int)
def spT(q:Int×List Int):T:=.tup [.int q.1,.tup (q.2.map T.int)]
def Sta.tree(s:Sta):T:=.tup [.tup (s.bx.map T.int),.tup (s.ho.map T.int),.tup (s.sp.map spT)]
def Sta.at(s:Sta)(w:Nat):Int×List Int:=s.sp.getD w (0,[])
structure SV(L:Lm)(s:Sta):Prop where
 bx:s.bx.length=L.bs.length
 ho:s.ho.length=L.ls.length
 sp:s.sp.length=L.ws.length
 ow:∀w,w<L.ws.length->(s.at w).2.length=(L.pr w).2.1.length
 lo:∀w,w<L.ws.length->-1<=(s.at w).1
 hi:∀w,w<L.ws.length->(s.at w).1<=((L.pr w).2.2.length:Int)
def ix:List Str->Str->Nat
 |[],_=>0
 |z::r,x=>if z=x then 0 else ix r x+1
theorem Bg:∀{zs:List Str} {x:Str},x∈zs->zs[ix zs x]?=some x
 |z::r,x,h=>by
  unfold ix
  by_cases e:z=x
  ·rw[if_pos e,e];rfl
  ·rw[if_neg e]
   exact Bg (zs:=r) ((List.mem_cons.mp h).resolve_left fun q=>e q.symm)
theorem Id{zs:List Str}{x:Str}(h:x∈zs):ix zs x<zs.length:=(List.getElem?_eq_some_iff.mp (Bg h)).1
theorem Av:∀{zs:List Str} {x:Str} (m:Nat),m<ix zs x->zs[m]?≠some x
 |z::r,x,m,h=>by
  unfold ix at h
  by_cases e:z=x
  ·rw[if_pos e] at h;cases h
  ·rw[if_neg e] at h
   cases m with
   |zero=>intro q;exact e (Option.some.inj q)
   |succ m=>exact Av (zs:=r) m (Nat.lt_of_succ_lt_succ h)
theorem Mc:∀{ks:List Str} {is:List Int} {x:Str},x∈ks->ks.length=is.length->valT ((ks.map Sum.inr).zip (is.map T.int)) (.inr x)=some (.int (is.getD (ix ks x) 0))
 |k::ks,i::is,x,h,hl=>by
  show ((((Sum.inr k:Key),T.int i)::(ks.map Sum.inr).zip (is.map T.int)).find? fun kv=>decide (kv.1=Sum.inr x)).map (·.2)=_
  unfold ix
  by_cases e:k=x
  ·rw[if_pos e,List.find?_cons_of_pos (by simp[e])];rfl
  ·rw[if_neg e,List.find?_cons_of_neg (by simp[e])]
   exact Mc (ks:=ks) ((List.mem_cons.mp h).resolve_left fun q=>e q.symm) (by simpa using hl)
 |_::_,[],_,_,hl=>by simp at hl
def intOf:T->Int
 | .int i=>i
 |_=>0
def strOf:T->Str
 | .str x=>x
 |_=>""
def wv(size:Int)(nu:Str->Int):Nat->T->Int
 | 0,_=>0
 |n+1,t=>match t with
  | .tup [.str z,x]=>if z="number" then intOf x % size else if z="not" then (if wv size nu n x=0 then 1 else 0) else nu (strOf x)
  | .tup [.str z,x,y]=>Rh size z (wv size nu n x) (wv size nu n y)
  |_=>0
theorem wv1{size:Int}{nu:Str->Int}{n:Nat}(z:Str)(x:T):wv size nu (n+1) (.tup [.str z,x])=if z="number" then intOf x % size else if z="not" then (if wv size nu n x=0 then 1 else 0) else nu (strOf x):=rfl
theorem Wf{ow bx:List Str}{od bd:List (Key×T)}{size:Int}{nu:Str->Int}(ho:∀x∈ow,valT od (.inr x)=some (.int (nu x)))(hb:∀x∈bx,valT bd (.inr x)=some (.int (nu x))){n:Nat}{t:T}(h:VF ow bx n t):W size od bd n t (wv size nu n t):=by
 induction h with
 | @num n i _ _ =>
  have e:wv size nu (n+1) (.tup [.str "number",.int i])=i % size:=by rw[wv1,if_pos rfl];rfl
  rw[e];exact .num
 | @own n x q =>
  have e:wv size nu (n+1) (.tup [.str "own",.str x])=nu x:=by rw[wv1,if_neg (by decide),if_neg (by decide)];rfl
  rw[e];exact .own (ho x q)
 | @box n x q =>
  have e:wv size nu (n+1) (.tup [.str "box",.str x])=nu x:=by rw[wv1,if_neg (by decide),if_neg (by decide)];rfl
  rw[e];exact .box (hb x q)
 | @neg n t _ ih =>
  have e:wv size nu (n+1) (.tup [.str "not",t])=if wv size nu n t=0 then 1 else 0:=by rw[wv1,if_neg (by decide),if_pos rfl]
  rw[e];exact .neg ih
 |two q _ _ ih1 ih2=>exact .two q ih1 ih2
inductive Stp where
 |take (y:Str)|give (y:Str)|get (x y:Str)|add (y:Str) (v:T)|put (y:Str) (v:T)|wait (y:Str) (v:T)
 |set (x:Str) (v:T)|check (v:T)|skip (i:Int)|unl (v:T) (i:Int)
def Stp.tree:Stp->T
 | .take y=>.tup [.str "take",.str y]
 | .give y=>.tup [.str "give",.str y]
 | .get x y=>.tup [.str "get",.str x,.str y]
 | .add y v=>.tup [.str "add",.str y,v]
 | .put y v=>.tup [.str "put",.str y,v]
 | .wait y v=>.tup [.str "wait",.str y,v]
 | .set x v=>.tup [.str "set",.str x,v]
 | .check v=>.tup [.str "check",v]
 | .skip i=>.tup [.str "skip",.int i]
 | .unl v i=>.tup [.str "unless",v,.int i]
def Stp.Ok(ow bx lk:List Str)(b:Int):Stp->Prop
 | .take y=>y∈lk
 | .give y=>y∈lk
 | .get x y=>x∈ow/\y∈bx
 | .add y v=>y∈bx/\VF ow [] 5 v
 | .put y v=>y∈bx/\VF ow [] 5 v
 | .wait y v=>y∈bx/\VF ow [] 5 v
 | .set x v=>x∈ow/\VF ow [] 5 v
 | .check v=>VF ow [] 5 v
 | .skip i=>0<=i/\i<=b
 | .unl v i=>VF ow [] 5 v/\0<=i/\i<=b
def toStp(t:T):Stp:=match t with
 | .tup [.str z,x]=>if z="take" then .take (strOf x) else if z="give" then .give (strOf x) else if z="skip" then .skip (intOf x) else .check x
 | .tup [.str z,x,y]=>if z="get" then .get (strOf x) (strOf y) else if z="add" then .add (strOf x) y else if z="put" then .put (strOf x) y else if z="wait" then .wait (strOf x) y else if z="set" then .set (strOf x) y else .unl x (intOf y)
 |_=>.skip 0
theorem Hd(z:Str)(x:T):toStp (.tup [.str z,x])=if z="take" then .take (strOf x) else if z="give" then .give (strOf x) else if z="skip" then .skip (intOf x) else .check x:=rfl
theorem D9(z:Str)(x y:T):toStp (.tup [.str z,x,y])=if z="get" then .get (strOf x) (strOf y) else if z="add" then .add (strOf x) y else if z="put" then .put (strOf x) y else if z="wait" then .wait (strOf x) y else if z="set" then .set (strOf x) y else .unl x (intOf y):=rfl
theorem Fn(q:Stp):toStp q.tree=q:=by
 cases q with
 |take y=>unfold Stp.tree;rw[Hd,if_pos rfl];rfl
 |give y=>unfold Stp.tree;rw[Hd,if_neg (by decide),if_pos rfl];rfl
 |get x y=>unfold Stp.tree;rw[D9,if_pos rfl];rfl
 |add y v=>unfold Stp.tree;rw[D9,if_neg (by decide),if_pos rfl];rfl
 |put y v=>unfold Stp.tree;rw[D9,if_neg (by decide),if_neg (by decide),if_pos rfl];rfl
 |wait y v=>unfold Stp.tree;rw[D9,if_neg (by decide),if_neg (by decide),if_neg (by decide),if_pos rfl];rfl
 |set x v=>unfold Stp.tree;rw[D9,if_neg (by decide),if_neg (by decide),if_neg (by decide),if_neg (by decide),if_pos rfl];rfl
 |check v=>unfold Stp.tree;rw[Hd,if_neg (by decide),if_neg (by decide),if_neg (by decide)]
 |skip i=>unfold Stp.tree;rw[Hd,if_neg (by decide),if_neg (by decide),if_pos rfl];rfl
 |unl v i=>unfold Stp.tree;rw[D9,if_neg (by decide),if_neg (by decide),if_neg (by decide),if_neg (by decide),if_neg (by decide)];rfl
theorem SN.stp{ow bx lk:List Str}{b:Int}{t:T}(h:SN ow bx lk b t):∃q:Stp,t=q.tree/\q.Ok ow bx lk b:=by
 cases h with
 | @take y m=>exact⟨.take y,rfl,m⟩
 | @give y m=>exact⟨.give y,rfl,m⟩
 | @get x y m m'=>exact⟨.get x y,rfl,m,m'⟩
 | @add y v m q=>exact⟨.add y v,rfl,m,q⟩
 | @put y v m q=>exact⟨.put y v,rfl,m,q⟩
 | @wait y v m q=>exact⟨.wait y v,rfl,m,q⟩
 | @set x v m q=>exact⟨.set x v,rfl,m,q⟩
 | @check v q=>exact⟨.check v,rfl,q⟩
 | @skip i a c=>exact⟨.skip i,rfl,a,c⟩
 | @unl v i q a c=>exact⟨.unl v i,rfl,q,a,c⟩
namespace Lm
variable(L:Lm)(s:Sta)(w:Nat)
def nx:Option Stp:=if 0<=(s.at w).1 then ((L.pr w).2.2[(s.at w).1.toNat]?).map toStp else none
def nu(x:Str):Int:=(s.at w).2.getD (ix (L.ow w) x) 0
def wo(v:T):Int:=wv L.size (L.nu s w) 5 v
def box(y:Str):Int:=s.bx.getD (ix L.bn y) 0
def hold(y:Str):Int:=s.ho.getD (ix L.ls y) 0
def free:Stp->Bool
 | .take y=>decide (L.hold s y=-1)
 | .wait y v=>decide (L.box s y=L.wo s w v)
 |_=>true
def can:Bool:=match L.nx s w with
 |none=>false
 |some q=>L.free s w q
def brk:Stp->Bool
 | .give y=>!decide (L.hold s y=(w:Int))
 | .check v=>decide (L.wo s w v=0)
 |_=>false
def pl:Stp->Int
 | .skip i=>(s.at w).1+1+i
 | .unl v i=>if L.wo s w v=0 then (s.at w).1+1+i else (s.at w).1+1
 |_=>(s.at w).1+1
def own:Stp->List Int
 | .set x v=>(s.at w).2.set (ix (L.ow w) x) (L.wo s w v)
 | .get x y=>(s.at w).2.set (ix (L.ow w) x) (L.box s y)
 |_=>(s.at w).2
def bxs:Stp->List Int
 | .put y v=>s.bx.set (ix L.bn y) (L.wo s w v)
 | .add y v=>s.bx.set (ix L.bn y) ((L.box s y+L.wo s w v) % L.size)
 |_=>s.bx
def hos:Stp->List Int
 | .take y=>s.ho.set (ix L.ls y) (w:Int)
 | .give y=>s.ho.set (ix L.ls y) (-1)
 |_=>s.ho
def go(q:Stp):Sta:=if L.brk s w q then ⟨s.bx,s.ho,s.sp.set w (-1,(s.at w).2)⟩ else ⟨L.bxs s w q,L.hos s w q,s.sp.set w (L.pl s w q,L.own s w q)⟩
def next:Sta:=match L.nx s w with
 |none=>s
 |some q=>L.go s w q
def ables:List Nat:=(List.range L.ws.length).filter fun w=>L.can s w
def first:Sta:=⟨L.bs.map (·.2),L.ls.map fun _=>-1,L.prs.map fun p=>(0,p.2.1.map (·.2))⟩
end Lm
section
variable{L:Lm}{s:Sta}{w:Nat}
theorem E7:L.prs.length=L.ws.length:=List.length_map _
theorem Hz(h:w<L.ws.length):L.prs[w]?=some (L.pr w):=by
 have h':w<L.prs.length:=by rw[E7];exact h
 rw[List.getElem?_eq_getElem h']
 unfold Lm.pr
 rw[List.getD_eq_getElem?_getD,List.getElem?_eq_getElem h'];rfl
theorem Yc(h:w<s.sp.length):s.sp[w]?=some (s.at w):=by
 rw[List.getElem?_eq_getElem h]
 unfold Sta.at
 rw[List.getD_eq_getElem?_getD,List.getElem?_eq_getElem h];rfl
theorem Ye(V:L.V)(h:w<L.ws.length):L.pr w∈L.ps:=by
 have e:=Hz h
 unfold Lm.prs at e
 rw[List.getElem?_map] at e
 cases q:L.ws[w]? with
 |none=>rw[q] at e;cases e
 |some x =>
  rw[q] at e
  have hx:=V.wo x (List.mem_of_getElem? q)
  have e:L.ps.getD x.toNat Bp=L.pr w:=Option.some.inj e
  rw[<-e,List.getD_eq_getElem?_getD,List.getElem?_eq_getElem (by omega)]
  exact List.getElem_mem _
theorem pr_pv(V:L.V)(h:w<L.ws.length):PV L.size L.bn L.ls (L.pr w):=V.po _ (Ye V h)
theorem ow_len:(L.ow w).length=(L.pr w).2.1.length:=List.length_map _
theorem P0:L.bn.length=L.bs.length:=List.length_map _
theorem C2{q:Stp}(V:L.V)(h:w<L.ws.length)(e:L.nx s w=some q):0<=(s.at w).1/\(L.pr w).2.2[(s.at w).1.toNat]?=some q.tree/\q.Ok (L.ow w) L.bn L.ls (((L.pr w).2.2.length:Int) - 1 - (s.at w).1):=by
 unfold Lm.nx at e
 split at e
 ·next h0 =>
  refine⟨h0,?_⟩
  cases g:(L.pr w).2.2[(s.at w).1.toNat]? with
  |none=>rw[g] at e;cases e
  |some t =>
   rw[g] at e
   have e:toStp t=q:=Option.some.inj e
   obtain⟨q',rfl,ok⟩:=((pr_pv V h).steps _ t g).stp
   rw[Fn] at e
   subst e
   rw[Int.toNat_of_nonneg h0] at ok
   exact⟨rfl,ok⟩
 ·cases e
theorem G5(e:L.nx s w=none):¬ (0<=(s.at w).1/\(s.at w).1<((L.pr w).2.2.length:Int)):=by
 rintro⟨h0,h1⟩
 unfold Lm.nx at e
 rw[if_pos h0,List.getElem?_eq_getElem (by omega)] at e
 cases e
theorem Xz{s':Sta}{w':Nat}{q:Int×List Int}(h:s'.sp=s.sp.set w q)(hw:w<s.sp.length):s'.at w'=if w'=w then q else s.at w':=by
 unfold Sta.at
 rw[h,List.getD_eq_getElem?_getD,List.getD_eq_getElem?_getD,List.getElem?_set]
 by_cases e:w=w'
 ·subst e
  rw[if_pos rfl,if_pos hw,if_pos rfl];rfl
 ·rw[if_neg e,if_neg (fun z=>e z.symm)]
theorem go_sp{q:Stp}:∃pl ow,(L.go s w q).sp=s.sp.set w (pl,ow)/\((L.brk s w q=true/\pl=-1/\ow=(s.at w).2)\/(L.brk s w q=false/\pl=L.pl s w q/\ow=L.own s w q)):=by
 unfold Lm.go
 cases e:L.brk s w q with
 |true=>exact⟨_,_,rfl,.inl ⟨rfl,rfl,rfl⟩⟩
 |false=>exact⟨_,_,rfl,.inr ⟨rfl,rfl,rfl⟩⟩
theorem pl_gt{b:Int}{q:Stp}(ok:q.Ok (L.ow w) L.bn L.ls b):(s.at w).1<L.pl s w q:=by
 cases q with
 |skip i=>have:=ok.1;show _<(s.at w).1+1+i;omega
 |unl v i=>have:=ok.2.1;show _<if L.wo s w v=0 then (s.at w).1+1+i else (s.at w).1+1;split <;> omega
 |_=>show (s.at w).1<(s.at w).1+1;omega
theorem pl_le{q:Stp}{b:Int}(hb:0<=b)(ok:q.Ok (L.ow w) L.bn L.ls b):L.pl s w q<=(s.at w).1+1+b:=by
 cases q with
 |skip i=>have:=ok.2;show (s.at w).1+1+i<=_;omega
 |unl v i=>have:=ok.2.2;show (if L.wo s w v=0 then (s.at w).1+1+i else (s.at w).1+1)<=_;split <;> omega
 |_=>show (s.at w).1+1<=_;omega
theorem Tw(q:Stp):(L.own s w q).length=(s.at w).2.length:=by
 cases q <;> first|rfl|exact List.length_set
theorem Tk(q:Stp):(L.bxs s w q).length=s.bx.length:=by
 cases q <;> first|rfl|exact List.length_set
theorem To(q:Stp):(L.hos s w q).length=s.ho.length:=by
 cases q <;> first|rfl|exact List.length_set
theorem go_sv{q:Stp}(V:L.V)(sv:SV L s)(h:w<L.ws.length)(e:L.nx s w=some q):SV L (L.go s w q):=by
 obtain⟨h0,g,ok⟩:=C2 V h e
 have hl:(s.at w).1.toNat<(L.pr w).2.2.length:=(List.getElem?_eq_some_iff.mp g).1
 have hs:w<s.sp.length:=by rw[sv.sp];exact h
 obtain⟨pl,ow,es,hc⟩:=go_sp (L:=L) (s:=s) (w:=w) (q:=q)
 have hp:-1<=pl/\pl<=((L.pr w).2.2.length:Int)/\ow.length=(s.at w).2.length:=by
  rcases hc with⟨_,rfl,rfl⟩|⟨_,rfl,rfl⟩
  ·exact⟨by omega,by omega,rfl⟩
  ·have h1:=pl_gt (s:=s) ok
   have h2:=pl_le (s:=s) (by omega) ok
   exact⟨by omega,by omega,Tw q⟩
 refine⟨?_,?_,?_,fun w' h'=>?_,fun w' h'=>?_,fun w' h'=>?_⟩
 ·unfold Lm.go;split
  ·exact sv.bx
  ·exact(Tk q).trans sv.bx
 ·unfold Lm.go;split
  ·exact sv.ho
  ·exact(To q).trans sv.ho
 ·rw[es,List.length_set];exact sv.sp
 all_goals rw[Xz es hs];split
 ·next z=>subst z;exact hp.2.2.trans (sv.ow _ h)
 ·exact sv.ow w' h'
 ·exact hp.1
 ·exact sv.lo w' h'
 ·next z=>subst z;exact hp.2.1
 ·exact sv.hi w' h'
theorem Z8(h:L.can s w=true):∃q,L.nx s w=some q/\L.free s w q=true:=by
 unfold Lm.can at h
 cases e:L.nx s w with
 |none=>rw[e] at h;cases h
 |some q=>rw[e] at h;exact⟨q,rfl,h⟩
theorem Lw{q:Stp}(e:L.nx s w=some q):L.next s w=L.go s w q:=by unfold Lm.next;rw[e]
theorem next_sv(V:L.V)(sv:SV L s)(h:w<L.ws.length)(c:L.can s w=true):SV L (L.next s w):=by
 obtain⟨q,e,_⟩:=Z8 c
 rw[Lw e]
 exact go_sv V sv h e
theorem ables_mem:w∈L.ables s ↔ w<L.ws.length/\L.can s w=true:=by
 unfold Lm.ables
 rw[List.mem_filter,List.mem_range]
theorem Rk(h:w<L.ws.length):L.first.at w=(0,(L.pr w).2.1.map (·.2)):=by
 unfold Sta.at
 rw[List.getD_eq_getElem?_getD]
 show ((L.prs.map fun p=>((0:Int),p.2.1.map (·.2)))[w]?).getD (0,[])=_
 rw[List.getElem?_map,Hz h];rfl
theorem Rm:SV L L.first:=by
 refine⟨List.length_map _,List.length_map _,?_,fun w h=>?_,fun w h=>?_,fun w h=>?_⟩
 ·show (L.prs.map _).length=_
  rw[List.length_map,E7]
 all_goals rw[Rk h]
 ·exact List.length_map _
 ·exact(by decide:(-1:Int)<=0)
 ·exact Int.natCast_nonneg _
theorem Sm(V:L.V)(sv:SV L s)(h:w<L.ws.length):∀x∈L.ow w,valT (((L.ow w).map Sum.inr).zip ((s.at w).2.map T.int)) (.inr x)=some (.int (L.nu s w x)):=fun x hx =>
 Mc hx (by rw[ow_len,sv.ow w h])
end
end K52
end
section
namespace K52
open PySem PySem.Spec PyProof.Rows L2 TL
seal UE UT UA US USs UI UG UO UW PTs Aq
def Stp.word:Stp->Str
 | .take _=>"take"
 | .give _=>"give"
 | .get _ _=>"get"
 | .add _ _=>"add"
 | .put _ _=>"put"
 | .wait _ _=>"wait"
 | .set _ _=>"set"
 | .check _=>"check"
 | .skip _=>"skip"
 | .unl _ _=>"unless"
def Stp.rest:Stp->List T
 | .take y=>[.str y]
 | .give y=>[.str y]
 | .get x y=>[.str x,.str y]
 | .add y v=>[.str y,v]
 | .put y v=>[.str y,v]
 | .wait y v=>[.str y,v]
 | .set x v=>[.str x,v]
 | .check v=>[v]
 | .skip i=>[.int i]
 | .unl v i=>[v,.int i]
theorem Stp.head(q:Stp):q.tree=.tup (.str q.word::q.rest):=by cases q <;> rfl
theorem X6{q:Stp}(h:q.word="take"):∃y,q=.take y:=by cases q <;> first|exact⟨_,rfl⟩|exact absurd h (by simp only[Stp.word];decide)
theorem W4{q:Stp}(h:q.word="wait"):∃y v,q=.wait y v:=by cases q <;> first|exact⟨_,_,rfl⟩|exact absurd h (by simp only[Stp.word];decide)
section
variable{L:Lm}{s:Sta}{w:Nat}{q:Stp}
theorem Xy(h1:¬ q.word="take")(h2:¬ q.word="wait"):L.free s w q=true:=by cases q <;> first|rfl|exact absurd rfl h1|exact absurd rfl h2
end
theorem O1{a b:Str}(e:Bool.xor false (decide (a=b))=true):a=b:=by simpa using e
theorem Vr{a b:Str}(e:Bool.xor false (decide (a=b))=false):¬ a=b:=by simpa using e
end K52
end
section
namespace K52
open PySem PySem.Spec PyProof.Rows L2 TL
seal UE UT UA US USs UI UG UO UW PTs Aq Ax
theorem Ro{L:Lm}{w:Nat}(h:w<L.ws.length):atI (L.prs.map Am) (w:Int)=some (Am (L.pr w)):=Xb (by rw[List.getElem?_map,Hz h];rfl)
theorem B8{is:List Int}{k:Nat}(h:k<is.length):atI (is.map T.int) (k:Int)=some (.int (is.getD k 0)):=Xb (by rw[List.getElem?_map,List.getElem?_eq_getElem h,List.getD_eq_getElem?_getD,List.getElem?_eq_getElem h];rfl)
theorem Cu{L:Lm}{s:Sta}{w:Nat}(sv:SV L s)(h:w<L.ws.length):atI (s.sp.map spT) (w:Int)=some (spT (s.at w)):=Xb (by rw[List.getElem?_map,Yc (by rw[sv.sp];exact h)];rfl)
theorem Rb{L:Lm}{w:Nat}(h:w<L.ws.length):atI (L.ws.map T.int) (w:Int)=some (.int (L.ws.getD w 0)):=B8 h
theorem Rs{L:Lm}{w:Nat}(V:L.V)(h:w<L.ws.length):atI (L.ps.map Am) (L.ws.getD w 0)=some (Am (L.pr w)):=by
 have e:L.ws[w]?=some (L.ws.getD w 0):=by rw[List.getElem?_eq_getElem h,List.getD_eq_getElem?_getD,List.getElem?_eq_getElem h];rfl
 have hx:=V.wo _ (List.mem_of_getElem? e)
 have ep:L.ps.getD (L.ws.getD w 0).toNat Bp=L.pr w:=by
  have q:=Hz h
  unfold Lm.prs at q
  rw[List.getElem?_map,e] at q
  exact Option.some.inj q
 generalize L.ws.getD w 0=x at hx ep ⊢
 have q:(L.ps.map Am)[x.toNat]?=some (Am (L.pr w)):=by rw[<-ep,List.getElem?_map,List.getD_eq_getElem?_getD,List.getElem?_eq_getElem (by omega)];rfl
 have q:=Xb q
 rw[Int.toNat_of_nonneg hx.1] at q
 exact q
structure Wl(L:Lm)(s:Sta)(w:Nat):Prop where
 v:L.V
 sv:SV L s
 hw:w<L.ws.length
def nxT:Option Stp->T
 |none=>.non
 |some q=>q.tree
theorem Bl(q:Stp):nxT (some q)=.tup (.str q.word::q.rest):=q.head
theorem Lb:∀{ts:List T} {k i:Nat} {x:T},(Ci k ts)[i]?=some x->∃t,ts[i]?=some t/\x=.tup [.int ((k+i:Nat):Int),t]
 |[],_,_,_,h=>by simp[Ci] at h
 |u::r,k,0,x,h=>by simp[Ci] at h;exact⟨u,rfl,h.symm⟩
 |u::r,k,i+1,x,h=>by
  have h:(Ci (k+1) r)[i]?=some x:=h
  obtain⟨t,e1,e2⟩:=Lb h
  exact⟨t,e1,by rw[e2];congr 4;omega⟩
theorem Qv{L:Lm}{s:Sta}{w:Nat}(V:L.V)(sv:SV L s)(h:w<L.ws.length):((s.at w).2.map T.int).length<=1000:=by
 have:=(pr_pv V h).few
 rw[List.length_map,sv.ow w h];omega
theorem Vv{L:Lm}{s:Sta}{w:Nat}(sv:SV L s)(h:w<L.ws.length){x:Str}(hx:x∈L.ow w):ix (L.ow w) x<((s.at w).2.map T.int).length:=by
 rw[List.length_map,sv.ow w h,<-ow_len];exact Id hx
theorem Qr{L:Lm}{s:Sta}(V:L.V)(sv:SV L s):(s.bx.map T.int).length<=1000:=by
 have:=V.bn
 rw[List.length_map,sv.bx];omega
theorem Pv{L:Lm}{s:Sta}(sv:SV L s){y:Str}(hy:y∈L.bn):ix L.bn y<(s.bx.map T.int).length:=by
 rw[List.length_map,sv.bx,<-P0];exact Id hy
theorem Td{L:Lm}{s:Sta}(V:L.V)(sv:SV L s):(s.ho.map T.int).length<=1000:=by
 have:=V.ln
 rw[List.length_map,sv.ho];omega
theorem R0{L:Lm}{s:Sta}(sv:SV L s){y:Str}(hy:y∈L.ls):ix L.ls y<(s.ho.map T.int).length:=by
 rw[List.length_map,sv.ho];exact Id hy
theorem Fv{L:Lm}{s:Sta}(V:L.V)(sv:SV L s):(s.sp.map spT).length<=1000:=by
 have:=V.w6
 rw[List.length_map,sv.sp];omega
theorem Ig{L:Lm}{s:Sta}{w:Nat}(sv:SV L s)(h:w<L.ws.length):w<(s.sp.map spT).length:=by
 rw[List.length_map,sv.sp];exact h
def nats(ws:List Nat):List T:=ws.map fun w:Nat=>T.int (w:Int)
def Cq(f:Nat->Bool):T->Option T
 | .int i=>if f i.toNat then some (.int i) else none
 |_=>none
theorem Ec(f:Nat->Bool)(n:Nat):(Db n).filterMap (Cq f)=nats ((List.range n).filter f):=by
 unfold Db nats
 generalize List.range n=ks
 induction ks with
 |nil=>rfl
 |cons k r ih =>
  rw[List.map_cons,List.filterMap_cons,List.filter_cons]
  cases e:f k with
  |true =>
   have q:Cq f (.int (k:Int))=some (.int (k:Int)):=by show (if f (k:Int).toNat then _ else _)=_;rw[Int.toNat_natCast,e];rfl
   rw[q,ih];rfl
  |false =>
   have q:Cq f (.int (k:Int))=none:=by show (if f (k:Int).toNat then _ else _)=_;rw[Int.toNat_natCast,e];rfl
   rw[q,ih];rfl
theorem wn{X:Prop}(p q:Str)(h:p≠q)(e:Bool.xor false (decide (p=q))=true):X:=absurd (by simpa using e) h
theorem wy{X:Prop}(p q:Str)(h:p=q)(e:Bool.xor false (decide (p=q))=false):X:=absurd h (by simpa using e)
theorem win{X:Prop}(p:Str)(zs:List Str)(h:p ∉ zs)(e:(if false=true then !decide (p∈zs) else decide (p∈zs))=true):X:=absurd (of_decide_eq_true (show decide (p∈zs)=true from e)) h
theorem wim{X:Prop}(p:Str)(zs:List Str)(h:p∈zs)(e:(if false=true then !decide (p∈zs) else decide (p∈zs))=false):X:=absurd h (of_decide_eq_false (show decide (p∈zs)=false from e))
section
variable{P:Program}{w:World}{K:PySem.W.Frag}{mg:Str->Option Value}{base:Heap}
def cLW(n:Nat):List T->TH->UX->Prop:=fun ts S Pp=>∃(t:T) (size:Int) (od:List (Key×T)) (i:Int),ts=[t,.int size,.dct od]/\0<size/\W size od [] n t i/\Pp (.int i) S
theorem scLW:Zv ["_law_value_here","_law_size","_law_owns","_law_one","_law_other"] ["_law_value_here","_law_size","_law_owns"] (Zb (top 37)):=⟨rfl,rfl,rfl,by decide +kernel,rfl,by decide +kernel,by decide +kernel⟩
theorem Km{n m:Nat}(N:Nm P w K mg)(d:Aa K mg "_law_worth" ["_law_value_here","_law_size","_law_owns"] (top 37))(c_law_worth:Has P w K mg base m "_law_worth" ["_law_value_here","_law_size","_law_owns"] (cLW n)):Has P w K mg base (m+1) "_law_worth" ["_law_value_here","_law_size","_law_owns"] (cLW (n+1)):=by
 have sc:=scLW
 refine Ag (k:=m) d sc (fun ts S Pp h=>?_) fun cdv f A outer s H E hr=>?_
 ·obtain⟨_,_,_,_,rfl,_⟩:=h;rfl
 have hu0:=Ao hr
 have hu1:=Ss hr
 refine⟨_,(Zs (Ac (Xf hu0 (Zx (uv 0) Zi) Zq) (Zo (Zr (A3 (Zx (uv 0) Zi) (uv 1)))) Ze)
   (Zs (Ac (Xf hu0 (Zx (uv 0) Zi) Zq) (Zo (Zr (Rg hu1 (uv 2) (Zx (uv 0) Zi)))) Ze)
   (Zs (Zt 3 sc.nd (Zf c_law_worth hr rfl (Zc (Zx (uv 0) Zi) (Zc (uv 1) (Zc (uv 2) Zn)))))
   (Zs (Ac (Xf hu0 (Zx (uv 0) Zi) Zq) (Zo (Zr (Cg rfl N.int (Zc (Df hu0 (uv 3) Zi) Zn)))) Ze)
   (Zs (Zt 4 sc.nd (Zf c_law_worth hr rfl (Zc (Zx (uv 0) Zi) (Zc (uv 1) (Zc (uv 2) Zn)))))
   (Zs (Ac (Xf hu0 (Zx (uv 0) Zi) Zq) (Zo (Zr (A3 (Zp (uv 3) (uv 4)) (uv 1)))) Ze)
   (Zs (Ac (Xf hu0 (Zx (uv 0) Zi) Zq) (Zo (Zr (A3 (Cl (uv 3) (uv 4)) (uv 1)))) Ze)
   (Zo (Zr (Zx (Ad (Zc (Cg rfl N.int (Zc (Df hu0 (uv 3) (uv 4)) Zn)) (Zc (Cg rfl N.int (Zc (ue_lt (uv 3) (uv 4)) Zn)) Zn))) (Cg rfl N.int (Zc (Df hu0 (Zx (uv 0) Zi) Zq) Zn)))))))))))),fun ts S Pp h=>?_⟩
 obtain⟨t,size,od,i,rfl,hs,hw,h⟩:=h
 have o2:2<=sizeLine:=by decide
 cases hw with
 |num=>exact⟨_,at0,fun _=>⟨_,at1,hs,h⟩,fun e=>absurd e (by decide)⟩
 |own e=>exact⟨_,at0,fun e=>absurd e (by decide),fun _=>⟨_,at0,fun _=>⟨_,at1,_,_,rfl,e,h⟩,fun e=>absurd e (by decide)⟩⟩
 |box e=>cases e
 | @neg _ t i hw =>
  refine⟨_,at0,fun e=>absurd e (by decide),fun _=>⟨_,at0,fun e=>absurd e (by decide),fun _=>⟨_,at1,t,size,od,i,rfl,hs,hw,_,at0,fun _=>?_,fun e=>absurd e (by decide)⟩⟩⟩
  show Pp (.int (if Bool.xor false (decide (i=0))=true then 1 else 0)) S
  rw[Bool.false_xor]
  simp only[decide_eq_true_eq]
  exact h
 | @two _ z t u i j hz hw hw' =>
  unfold Rh at h
  rcases hz with rfl|rfl|rfl|rfl
  ·refine⟨_,at0,fun e=>absurd e (by decide),fun _=>⟨_,at0,fun e=>absurd e (by decide),fun _=>⟨_,at1,t,size,od,i,rfl,hs,hw,_,at0,fun e=>absurd e (by decide),fun _=>⟨_,at2,u,size,od,j,rfl,hs,hw',_,at0,fun _=>⟨hs,?_⟩,fun e=>absurd e (by decide)⟩⟩⟩⟩
   rw[if_pos rfl] at h
   exact h
  ·refine⟨_,at0,fun e=>absurd e (by decide),fun _=>⟨_,at0,fun e=>absurd e (by decide),fun _=>⟨_,at1,t,size,od,i,rfl,hs,hw,_,at0,fun e=>absurd e (by decide),fun _=>⟨_,at2,u,size,od,j,rfl,hs,hw',_,at0,fun e=>absurd e (by decide),fun _=>⟨_,at0,fun _=>⟨hs,?_⟩,fun e=>absurd e (by decide)⟩⟩⟩⟩⟩
   rw[if_neg (by decide),if_pos rfl] at h
   exact h
  ·refine⟨_,at0,fun e=>absurd e (by decide),fun _=>⟨_,at0,fun e=>absurd e (by decide),fun _=>⟨_,at1,t,size,od,i,rfl,hs,hw,_,at0,fun e=>absurd e (by decide),fun _=>⟨_,at2,u,size,od,j,rfl,hs,hw',_,at0,fun e=>absurd e (by decide),fun _=>⟨_,at0,fun e=>absurd e (by decide),fun _=>⟨o2,_,at0,_,rfl,?_⟩⟩⟩⟩⟩⟩
   rw[if_neg (by decide),if_neg (by decide),if_pos rfl] at h
   show Pp (.int (if decide (i<j)=true then 1 else 0)) S
   simp only[decide_eq_true_eq]
   exact h
  ·refine⟨_,at0,fun e=>absurd e (by decide),fun _=>⟨_,at0,fun e=>absurd e (by decide),fun _=>⟨_,at1,t,size,od,i,rfl,hs,hw,_,at0,fun e=>absurd e (by decide),fun _=>⟨_,at2,u,size,od,j,rfl,hs,hw',_,at0,fun e=>absurd e (by decide),fun _=>⟨_,at0,fun e=>absurd e (by decide),fun _=>⟨o2,_,at0,_,rfl,?_⟩⟩⟩⟩⟩⟩
   rw[if_neg (by decide),if_neg (by decide),if_neg (by decide)] at h
   show Pp (.int (if Bool.xor false (decide (i=j))=true then 1 else 0)) S
   rw[Bool.false_xor]
   simp only[decide_eq_true_eq]
   exact h
theorem Gq(N:Nm P w K mg)(d:Aa K mg "_law_worth" ["_law_value_here","_law_size","_law_owns"] (top 37)):∀n:Nat,Has P w K mg base (n+1) "_law_worth" ["_law_value_here","_law_size","_law_owns"] (cLW n)
 | 0=>Fu d fun _ _ _ ⟨_,_,_,_,_,_,q,_⟩=>by cases q
 |n+1=>Km (m:=n+1) N d (Gq N d n)
def L9:List T->TH->UX->Prop:=fun ts S Pp=>∃(xs:List T) (k:Nat) (t:T),ts=[.tup xs,.int (k:Int),t]/\k<xs.length/\xs.length<=1000/\Pp (.tup (xs.set k t)) S
theorem X3:Zv ["_law_row","_law_at","_law_thing"] ["_law_row","_law_at","_law_thing"] (Zb (top 38)):=⟨rfl,rfl,rfl,by decide +kernel,rfl,by decide +kernel,by decide +kernel⟩
theorem Qm(N:Nm P w K mg)(d:Aa K mg "_law_with" ["_law_row","_law_at","_law_thing"] (top 38)):Has P w K mg base 1 "_law_with" ["_law_row","_law_at","_law_thing"] L9:=by
 have sc:=X3
 refine Ag (k:=0) d sc (fun ts S Pp h=>?_) fun cdv f A outer s H E hr=>?_
 ·obtain⟨_,_,_,rfl,_⟩:=h;rfl
 have hu0:=Ao hr
 refine⟨_,(Zo (Zr (Aj rfl N.tuple (Zc (Jm 0 1 ["_law_k","_law_one","_law_thing","_law_at"] [none,none,some 2,some 1] rfl (Uz rfl N.enumerate (Zc (uv 0) Zn)) (fun _ _ _ _ _=>Al) (fun _ _ _ _ _=>(Zx (Ad (Zc (uv 1) (Zc (uv 2) Zn))) (Cg rfl N.int (Zc (Df hu0 (uv 0) (uv 3)) Zn))))) Zn)))),fun ts S Pp h=>?_⟩
 obtain⟨xs,k,t,rfl,hk,hl,h⟩:=h
 refine B6 (S1:=S) (Ci 0 xs) (fun n acc S'=>S=S'/\acc=(xs.set k t).take n) (fun c hc=>hc) (by rw[B0];exact Xp hl) ⟨rfl,rfl⟩ ?_ ?_
 ·rintro n y acc S' en ⟨rfl,rfl⟩
  obtain⟨u,eu,rfl⟩:=Lb en
  have hn:=(List.getElem?_eq_some_iff.mp eu).1
  have step:∀v,(xs.set k t)[n]?=some v->S=S/\(xs.set k t).take n++[v]=(xs.set k t).take (n+1):=fun v ev=>⟨rfl,by rw[List.take_add_one,ev];rfl⟩
  refine⟨fun _=>⟨show 2<=sizeLine by decide,?_⟩,fun z=>(by cases z)⟩
  by_cases e:n=k
  ·subst e
   refine⟨t,?_,step t (by rw[List.getElem?_set_self hn])⟩
   show atI [u,t] (if Bool.xor false (decide (((0+n:Nat):Int)=(n:Int)))=true then 1 else 0)=some t
   rw[decide_eq_true (by omega)]
   rfl
  ·refine⟨u,?_,step u (by rw[List.getElem?_set_ne (fun z=>e z.symm)];exact eu)⟩
   show atI [u,t] (if Bool.xor false (decide (((0+n:Nat):Int)=(k:Int)))=true then 1 else 0)=some u
   rw[decide_eq_false (by omega)]
   rfl
 ·rintro acc S' ⟨rfl,rfl⟩
  rw[B0,List.take_of_length_le (by rw[List.length_set];exact Nat.le_refl _)]
  exact h
def D4:List T->TH->UX->Prop:=fun ts S Pp=>∃L s w,ts=[Lm.tree L,Sta.tree s,.int ((w:Nat):Int)]/\Wl L s w/\Pp (nxT (L.nx s w)) S
theorem S7:Zv ["_law_loom_here","_law_state","_law_worker","_law_place","_law_steps"] ["_law_loom_here","_law_state","_law_worker"] (Zb (top 39)):=⟨rfl,rfl,rfl,by decide +kernel,rfl,by decide +kernel,by decide +kernel⟩
theorem Ip(N:Nm P w K mg)(d:Aa K mg "_law_step_of" ["_law_loom_here","_law_state","_law_worker"] (top 39)):Has P w K mg base 1 "_law_step_of" ["_law_loom_here","_law_state","_law_worker"] D4:=by
 have sc:=S7
 refine Ag (k:=0) d sc (fun ts S Pp h=>?_) fun cdv f A outer s H E hr=>?_
 ·obtain⟨_,_,_,rfl,_⟩:=h;rfl
 have hu0:=Ao hr
 refine⟨_,(Zs (Zt 3 sc.nd (Zx (Zx (Zx (uv 1) Zi) (uv 2)) Zi))
   (Zs (Zt 4 sc.nd (Zx (Zx (Zx (uv 0) Zi) (Zx (Zx (uv 0) Zi) (uv 2))) Zi))
   (Zs (Ac (UW.ut (Ck (Gm (uv 3) Zi) (Xs (Xf hu0 (uv 3) (Zl rfl N.len (Zc (uv 4) Zn)))))) (Zo (Zr As)) Ze)
   (Zo (Zr (Zx (uv 4) (uv 3))))))),fun ts S Pp h=>?_⟩
 obtain⟨L,s,w,rfl,⟨V,sv,hw⟩,h⟩:=h
 have lo:=sv.lo w hw
 have hi:=sv.hi w hw
 refine⟨_,at2,_,Cu sv hw,_,at0,_,at3,_,at4,_,Rb hw,_,Rs V hw,_,at2,?_⟩
 cases e:L.nx s w with
 |none =>
  rw[e] at h
  have hn:=G5 e
  refine⟨fun _=>⟨fun _=>h,fun z=>(by cases z)⟩,fun e1=>⟨fun _=>h,fun e2=>?_⟩⟩
  have e1:¬ (s.at w).1<0:=of_decide_eq_false e1
  have e2:¬ (s.at w).1=((L.pr w).2.2.length:Int):=by simpa using e2
  exact absurd ⟨by omega,by omega⟩ hn
 |some q =>
  rw[e] at h
  obtain⟨h0,g,ok⟩:=C2 V hw e
  have hl:(s.at w).1.toNat<(L.pr w).2.2.length:=(List.getElem?_eq_some_iff.mp g).1
  refine⟨fun e1=>?_,fun _=>⟨fun e2=>?_,fun _=>?_⟩⟩
  ·have e1:(s.at w).1<0:=of_decide_eq_true e1
   omega
  ·have e2:(s.at w).1=((L.pr w).2.2.length:Int):=by simpa using e2
   omega
  ·have ea:atI (L.pr w).2.2 (s.at w).1=some q.tree:=by
    have q':=Xb g
    rw[Int.toNat_of_nonneg h0] at q'
    exact q'
   exact⟨_,ea,h⟩
def goT(L:Lm)(s:Sta)(w:Nat)(q:Stp):T:=if L.free s w q then (L.go s w q).tree else .non
theorem Jk(b h:List Int)(p:List (Int×List Int)):Sta.tree ⟨b,h,p⟩=.tup [.tup (b.map T.int),.tup (h.map T.int),.tup (p.map spT)]:=rfl
theorem go_no{L:Lm}{s:Sta}{w:Nat}{q:Stp}(h:L.brk s w q=false):L.go s w q=⟨L.bxs s w q,L.hos s w q,s.sp.set w (L.pl s w q,L.own s w q)⟩:=by unfold Lm.go;rw[h];rfl
theorem Re{L:Lm}{s:Sta}{w:Nat}{q:Stp}(h:L.brk s w q=true):L.go s w q=⟨s.bx,s.ho,s.sp.set w (-1,(s.at w).2)⟩:=by unfold Lm.go;rw[h];rfl
theorem Kv{L:Lm}{s:Sta}(sv:SV L s){y:Str}(hy:y∈L.bn):ix L.bn y<s.bx.length:=by have:=Pv sv hy;rw[List.length_map] at this;exact this
theorem S8{L:Lm}{s:Sta}(sv:SV L s){y:Str}(hy:y∈L.ls):ix L.ls y<s.ho.length:=by have:=R0 sv hy;rw[List.length_map] at this;exact this
def Stp.boxed:Stp->Option (Str×T)
 | .put y v=>some (y,v)
 | .add y v=>some (y,v)
 | .wait y v=>some (y,v)
 |_=>none
def Qq:List T->TH->UX->Prop:=fun ts S Pp=>∃L s w q y v,ts=[Lm.tree L,Sta.tree s,.int ((w:Nat):Int),.int (L.wo s w v),.int ((ix L.bn y:Nat):Int)]/\Wl L s w/\L.nx s w=some q/\q.boxed=some (y,v)/\y∈L.bn/\Pp (goT L s w q) S
theorem Vp:Zv ["_law_loom_here","_law_state","_law_worker","_law_number","_law_at","_law_word","_law_place","_law_owns","_law_spots"] ["_law_loom_here","_law_state","_law_worker","_law_number","_law_at"] (Zb (top 41)):=⟨rfl,rfl,rfl,by decide +kernel,rfl,by decide +kernel,by decide +kernel⟩
theorem Ko{m:Nat}(N:Nm P w K mg)(d:Aa K mg "_law_go_box" ["_law_loom_here","_law_state","_law_worker","_law_number","_law_at"] (top 41))(c_law_step_of:Has P w K mg base m "_law_step_of" ["_law_loom_here","_law_state","_law_worker"] D4)(c_law_with:Has P w K mg base m "_law_with" ["_law_row","_law_at","_law_thing"] L9):Has P w K mg base (m+1) "_law_go_box" ["_law_loom_here","_law_state","_law_worker","_law_number","_law_at"] Qq:=by
 have sc:=Vp
 refine Ag (k:=m) d sc (fun ts S Pp h=>?_) fun cdv f A outer s H E hr=>?_
 ·obtain⟨_,_,_,_,_,_,rfl,_⟩:=h;rfl
 have hu0:=Ao hr
 refine⟨_,(Zs (Zt 5 sc.nd (Zx (Zf c_law_step_of hr rfl (Zc (uv 0) (Zc (uv 1) (Zc (uv 2) Zn)))) Zi))
   (Zs (Jo (Zx (Zx (uv 1) Zi) (uv 2)) (Hg rfl (C9 6 sc.nd (C9 7 sc.nd Fo))))
   (Zs (Zt 8 sc.nd (Zf c_law_with hr rfl (Zc (Zx (uv 1) Zi) (Zc (uv 2) (Zc (Zu (Zc (Zp (uv 6) Zi) (Zc (uv 7) Zn))) Zn)))))
   (Zs (Ac (Xf hu0 (uv 5) Zq) (Zs (Ac (Bs hu0 (Zx (Zx (uv 1) Zi) (uv 4)) (uv 3)) (Zo (Zr As)) Ze)
   (Zo (Zr (Zu (Zc (Zx (uv 1) Zi) (Zc (Zx (uv 1) Zi) (Zc (uv 8) Zn))))))) Ze)
   (Zs (Ac (Xf hu0 (uv 5) Zq) (Zo (Zt 3 sc.nd (A3 (Zp (Zx (Zx (uv 1) Zi) (uv 4)) (uv 3)) (Zx (uv 0) Zi)))) Ze)
   (Zo (Zr (Zu (Zc (Zf c_law_with hr rfl (Zc (Zx (uv 1) Zi) (Zc (uv 4) (Zc (uv 3) Zn)))) (Zc (Zx (uv 1) Zi) (Zc (uv 8) Zn))))))))))),fun ts S Pp h=>?_⟩
 obtain⟨L,s,w,q,y,v,rfl,wl,eq,hb,hy,h⟩:=h
 have V:=wl.v
 have sv:=wl.sv
 have hw:=wl.hw
 have o2:2<=sizeLine:=by decide
 have o3:3<=sizeLine:=by decide
 have s0:0<L.size:=by have:=V.s2;omega
 refine⟨L,s,w,rfl,wl,?_⟩
 rw[eq,Bl]
 refine⟨_,at0,_,at2,_,Cu sv hw,false,_,rfl,rfl,_,at2,o2,_,w,_,rfl,Ig sv hw,Fv V sv,?_⟩
 have eb:∀{q:Stp},L.pl s w q=(s.at w).1+1->L.own s w q=(s.at w).2->(s.sp.map spT).set w (T.tup [.int ((s.at w).1+1),.tup ((s.at w).2.map T.int)])=(s.sp.set w (L.pl s w q,L.own s w q)).map spT:=fun h1 h2=>by rw[List.map_set,h1,h2];rfl
 have yes:∀{p q:Str},Bool.xor false (decide (p=q))=true->p=q:=fun e=>by simpa using e
 cases q with
 |wait z u =>
  cases hb
  refine⟨fun _=>⟨_,at0,_,B8 (Kv sv hy),fun e=>?_,fun e=>⟨_,at0,_,at1,o3,?_⟩⟩,wy "wait" "wait" rfl⟩
  ·have e:Bool.xor true (decide (L.box s y=L.wo s w v))=true:=e
   have e:¬ L.box s y=L.wo s w v:=by simpa using e
   have ef:L.free s w (.wait y v)=false:=decide_eq_false e
   unfold goT at h
   rw[ef] at h
   exact h
  ·have e:Bool.xor true (decide (L.box s y=L.wo s w v))=false:=e
   have e:L.box s y=L.wo s w v:=by simpa using e
   have ef:L.free s w (.wait y v)=true:=decide_eq_true e
   unfold goT at h
   rw[ef,if_pos rfl,go_no rfl] at h
   rw[eb (q:=.wait y v) rfl rfl]
   exact h
 |put z u =>
  cases hb
  refine⟨wn "put" "wait" (by decide),fun _=>⟨wn "put" "add" (by decide),fun _=>⟨_,at0,_,ix L.bn y,_,rfl,Pv sv hy,Qr V sv,_,at1,o3,?_⟩⟩⟩
  unfold goT at h
  rw[show L.free s w (.put y v)=true from rfl,if_pos rfl,go_no rfl] at h
  rw[eb (q:=.put y v) rfl rfl]
  have e2:(s.bx.map T.int).set (ix L.bn y) (.int (L.wo s w v))=(L.bxs s w (.put y v)).map T.int:=by show _=(s.bx.set (ix L.bn y) (L.wo s w v)).map T.int;rw[List.map_set]
  rw[e2]
  exact h
 |add z u =>
  cases hb
  refine⟨wn "add" "wait" (by decide),fun _=>⟨fun _=>⟨_,at0,_,B8 (Kv sv hy),_,at0,s0,_,at0,_,ix L.bn y,_,rfl,Pv sv hy,Qr V sv,_,at1,o3,?_⟩,wy "add" "add" rfl⟩⟩
  unfold goT at h
  rw[show L.free s w (.add y v)=true from rfl,if_pos rfl,go_no rfl] at h
  rw[eb (q:=.add y v) rfl rfl]
  have e2:(s.bx.map T.int).set (ix L.bn y) (.int ((s.bx.getD (ix L.bn y) 0+L.wo s w v) % L.size))=(L.bxs s w (.add y v)).map T.int:=by show _=(s.bx.set (ix L.bn y) ((L.box s y+L.wo s w v) % L.size)).map T.int;rw[List.map_set];rfl
  rw[e2]
  exact h
 |_=>cases hb
def Stp.locked:Stp->Option Str
 | .take y=>some y
 | .give y=>some y
 |_=>none
def K6:List T->TH->UX->Prop:=fun ts S Pp=>∃L s w q y,ts=[Lm.tree L,Sta.tree s,.int ((w:Nat):Int),.int ((ix L.ls y:Nat):Int)]/\Wl L s w/\(∀i∈s.ho,-1<=i)/\L.nx s w=some q/\q.locked=some y/\y∈L.ls/\Pp (goT L s w q) S
theorem Sf:Zv ["_law_loom_here","_law_state","_law_worker","_law_at","_law_word","_law_place","_law_owns","_law_holder"] ["_law_loom_here","_law_state","_law_worker","_law_at"] (Zb (top 42)):=⟨rfl,rfl,rfl,by decide +kernel,rfl,by decide +kernel,by decide +kernel⟩
theorem Iz{m:Nat}(N:Nm P w K mg)(d:Aa K mg "_law_go_lock" ["_law_loom_here","_law_state","_law_worker","_law_at"] (top 42))(c_law_step_of:Has P w K mg base m "_law_step_of" ["_law_loom_here","_law_state","_law_worker"] D4)(c_law_with:Has P w K mg base m "_law_with" ["_law_row","_law_at","_law_thing"] L9):Has P w K mg base (m+1) "_law_go_lock" ["_law_loom_here","_law_state","_law_worker","_law_at"] K6:=by
 have sc:=Sf
 refine Ag (k:=m) d sc (fun ts S Pp h=>?_) fun cdv f A outer s H E hr=>?_
 ·obtain⟨_,_,_,_,_,rfl,_⟩:=h;rfl
 have hu0:=Ao hr
 refine⟨_,(Zs (Zt 4 sc.nd (Zx (Zf c_law_step_of hr rfl (Zc (uv 0) (Zc (uv 1) (Zc (uv 2) Zn)))) Zi))
   (Zs (Jo (Zx (Zx (uv 1) Zi) (uv 2)) (Hg rfl (C9 5 sc.nd (C9 6 sc.nd Fo))))
   (Zs (Zt 7 sc.nd (Zx (Zx (uv 1) Zi) (uv 3)))
   (Zs (Ac (Xf hu0 (uv 4) Zq) (Zs (Ac (ut_ge (uv 7) Zi) (Zo (Zr As)) Ze)
   (Zo (Zr (Zu (Zc (Zx (uv 1) Zi) (Zc (Zf c_law_with hr rfl (Zc (Zx (uv 1) Zi) (Zc (uv 3) (Zc (uv 2) Zn)))) (Zc (Zf c_law_with hr rfl (Zc (Zx (uv 1) Zi) (Zc (uv 2) (Zc (Zu (Zc (Zp (uv 5) Zi) (Zc (uv 6) Zn))) Zn)))) Zn))))))) Ze)
   (Zs (Ac (Bs hu0 (uv 7) (uv 2)) (Zo (Zr (Zu (Zc (Zx (uv 1) Zi) (Zc (Zx (uv 1) Zi) (Zc (Zf c_law_with hr rfl (Zc (Zx (uv 1) Zi) (Zc (uv 2) (Zc (Zu (Zc (Hk Zi) (Zc (uv 6) Zn))) Zn)))) Zn)))))) Ze)
   (Zo (Zr (Zu (Zc (Zx (uv 1) Zi) (Zc (Zf c_law_with hr rfl (Zc (Zx (uv 1) Zi) (Zc (uv 3) (Zc (Hk Zi) Zn)))) (Zc (Zf c_law_with hr rfl (Zc (Zx (uv 1) Zi) (Zc (uv 2) (Zc (Zu (Zc (Zp (uv 5) Zi) (Zc (uv 6) Zn))) Zn)))) Zn))))))))))),fun ts S Pp h=>?_⟩
 obtain⟨L,s,w,q,y,rfl,wl,hm,eq,hb,hy,h⟩:=h
 have V:=wl.v
 have sv:=wl.sv
 have hw:=wl.hw
 have o2:2<=sizeLine:=by decide
 have o3:3<=sizeLine:=by decide
 have hh:-1<=L.hold s y:=by
  have hl:=S8 sv hy
  refine hm _ ?_
  show s.ho.getD (ix L.ls y) 0∈s.ho
  rw[List.getD_eq_getElem?_getD,List.getElem?_eq_getElem hl]
  exact List.getElem_mem _
 refine⟨L,s,w,rfl,wl,?_⟩
 rw[eq,Bl]
 refine⟨_,at0,_,at2,_,Cu sv hw,false,_,rfl,rfl,_,at1,_,B8 (S8 sv hy),?_⟩
 have eb:∀{q:Stp},L.pl s w q=(s.at w).1+1->L.own s w q=(s.at w).2->(s.sp.map spT).set w (T.tup [.int ((s.at w).1+1),.tup ((s.at w).2.map T.int)])=(s.sp.set w (L.pl s w q,L.own s w q)).map spT:=fun h1 h2=>by rw[List.map_set,h1,h2];rfl
 cases q with
 |take z =>
  cases hb
  refine⟨fun _=>⟨fun e=>?_,fun e=>⟨_,at0,_,at1,_,ix L.ls y,_,rfl,R0 sv hy,Td V sv,_,at2,o2,_,w,_,rfl,Ig sv hw,Fv V sv,o3,?_⟩⟩,wy "take" "take" rfl⟩
  ·have e:0<=L.hold s y:=of_decide_eq_true e
   have ef:L.free s w (.take y)=false:=decide_eq_false (by omega)
   unfold goT at h
   rw[ef] at h
   exact h
  ·have e:¬ 0<=L.hold s y:=of_decide_eq_false e
   have ef:L.free s w (.take y)=true:=decide_eq_true (by omega)
   unfold goT at h
   rw[ef,if_pos rfl,go_no rfl] at h
   rw[eb (q:=.take y) rfl rfl]
   have e2:(s.ho.map T.int).set (ix L.ls y) (.int (w:Int))=(L.hos s w (.take y)).map T.int:=by show _=(s.ho.set (ix L.ls y) (w:Int)).map T.int;rw[List.map_set]
   rw[e2]
   exact h
 |give z =>
  cases hb
  unfold goT at h
  rw[show L.free s w (.give y)=true from rfl,if_pos rfl] at h
  refine⟨wn "give" "take" (by decide),fun _=>⟨fun e=>⟨_,at0,_,at1,_,at2,o2,_,w,_,rfl,Ig sv hw,Fv V sv,o3,?_⟩,fun e=>⟨_,at0,_,at1,_,ix L.ls y,_,rfl,R0 sv hy,Td V sv,_,at2,o2,_,w,_,rfl,Ig sv hw,Fv V sv,o3,?_⟩⟩⟩
  ·have e:Bool.xor true (decide (L.hold s y=(w:Int)))=true:=e
   have e:¬ L.hold s y=(w:Int):=by simpa using e
   have eb':L.brk s w (.give y)=true:=by show (!decide (L.hold s y=(w:Int)))=true;rw[decide_eq_false e];rfl
   rw[Re eb',Jk,List.map_set] at h
   exact h
  ·have e:Bool.xor true (decide (L.hold s y=(w:Int)))=false:=e
   have e:L.hold s y=(w:Int):=by simpa using e
   have eb':L.brk s w (.give y)=false:=by show (!decide (L.hold s y=(w:Int)))=false;rw[decide_eq_true e];rfl
   rw[go_no eb'] at h
   rw[eb (q:=.give y) rfl rfl]
   have e2:(s.ho.map T.int).set (ix L.ls y) (.int (-1))=(L.hos s w (.give y)).map T.int:=by show _=(s.ho.set (ix L.ls y) (-1)).map T.int;rw[List.map_set]
   rw[e2]
   exact h
 |_=>cases hb
end
end K52
end
section
namespace K52
open PySem PySem.Spec PyProof.Rows L2 TL
seal UE UT UA US USs UI UG UO UW PTs Aq Ax D0
def Ho(s:Sta):Prop:=∀i∈s.ho,-1<=i
theorem go_ho{L:Lm}{s:Sta}{w:Nat}{q:Stp}(h:Ho s):Ho (L.go s w q):=by
 have st:∀{k:Nat} {v:Int},-1<=v->∀i∈s.ho.set k v,-1<=i:=fun hv i hi=>(List.mem_or_eq_of_mem_set hi).elim (h i) (fun e=>e ▸ hv)
 unfold Lm.go
 split
 ·exact h
 ·show ∀i∈L.hos s w q,-1<=i
  cases q with
  |take y=>exact st (by omega)
  |give y=>exact st (by decide)
  |_=>exact h
theorem next_ho{L:Lm}{s:Sta}{w:Nat}(h:Ho s):Ho (L.next s w):=by
 unfold Lm.next
 split
 ·exact h
 ·exact go_ho h
theorem Pk{L:Lm}:Ho L.first:=fun i hi=>by
 obtain⟨_,_,rfl⟩:=List.mem_map.mp hi
 decide
section
variable{P:Program}{w:World}{K:PySem.W.Frag}{mg:Str->Option Value}{base:Heap}
def Fm(L:Lm)(s:Sta)(w:Nat):T:=if L.can s w then (L.next s w).tree else .non
theorem T7{L:Lm}{s:Sta}{w:Nat}{q:Stp}(e:L.nx s w=some q):Fm L s w=goT L s w q:=by
 unfold Fm goT
 rw[Lw e]
 unfold Lm.can
 rw[e]
theorem M0{L:Lm}{s:Sta}{w:Nat}(e:L.nx s w=none):Fm L s w=.non:=by
 unfold Fm Lm.can
 rw[e]
 rfl
def cGo:List T->TH->UX->Prop:=fun ts S Pp=>∃L s w,ts=[Lm.tree L,Sta.tree s,.int ((w:Nat):Int)]/\Wl L s w/\Ho s/\Pp (Fm L s w) S
theorem scGo:Zv ["_law_loom_here","_law_state","_law_worker","_law_step_here","_law_names_here","_law_boxes","_law_place","_law_owns","_law_values"] ["_law_loom_here","_law_state","_law_worker"] (Zb (top 40)):=⟨rfl,rfl,rfl,by decide +kernel,rfl,by decide +kernel,by decide +kernel⟩
theorem Y8{m:Nat}(N:Nm P w K mg)(d:Aa K mg "_law_go" ["_law_loom_here","_law_state","_law_worker"] (top 40))(c_law_step_of:Has P w K mg base m "_law_step_of" ["_law_loom_here","_law_state","_law_worker"] D4)(c_law_with:Has P w K mg base m "_law_with" ["_law_row","_law_at","_law_thing"] L9)(c_law_worth:Has P w K mg base m "_law_worth" ["_law_value_here","_law_size","_law_owns"] (cLW 5))(c_law_go_box:Has P w K mg base m "_law_go_box" ["_law_loom_here","_law_state","_law_worker","_law_number","_law_at"] Qq)(c_law_go_lock:Has P w K mg base m "_law_go_lock" ["_law_loom_here","_law_state","_law_worker","_law_at"] K6):Has P w K mg base (m+1) "_law_go" ["_law_loom_here","_law_state","_law_worker"] cGo:=by
 have sc:=scGo
 refine Ag (k:=m) d sc (fun ts S Pp h=>?_) fun cdv f A outer s H E hr=>?_
 ·obtain⟨_,_,_,rfl,_⟩:=h;rfl
 have hu0:=Ao hr
 refine⟨_,(Zs (Zt 3 sc.nd (Zf c_law_step_of hr rfl (Zc (uv 0) (Zc (uv 1) (Zc (uv 2) Zn)))))
   (Zs (Ac (Cb (uv 3) As) (Zo (Zr As)) Ze)
   (Zs (Ar 4 sc.nd 0 ["_law_own"] [none] rfl (Xu (Zx (Zx (Zx (uv 0) Zi) (Zx (Zx (uv 0) Zi) (uv 2))) Zi)) (fun _ _ _ _ _=>Al) (fun _ _ _ _ _=>(Zx (uv 0) Zi)))
   (Zs (Ar 5 sc.nd 0 ["_law_box"] [none] rfl (Xu (Zx (uv 0) Zi)) (fun _ _ _ _ _=>Al) (fun _ _ _ _ _=>(Zx (uv 0) Zi)))
   (Zs (Jo (Zx (Zx (uv 1) Zi) (uv 2)) (Hg rfl (C9 6 sc.nd (C9 7 sc.nd Fo))))
   (Zs (Zt 8 sc.nd (Il rfl rfl N.dict rfl N.zip (Zc (uv 4) (Zc (uv 7) Zn))))
   (Zs (Ac (Xf hu0 (Zx (uv 3) Zi) Zq) (Zo (Zt 7 sc.nd (Zf c_law_with hr rfl (Zc (uv 7) (Zc (Bz (uv 4) (Zc (Zx (uv 3) Zi) Zn)) (Zc (Zx (Zx (uv 1) Zi) (Bz (uv 5) (Zc (Zx (uv 3) Zi) Zn))) Zn)))))) (Zo (Ac (Xf hu0 (Zx (uv 3) Zi) Zq) (Zo (Zt 7 sc.nd (Zf c_law_with hr rfl (Zc (uv 7) (Zc (Bz (uv 4) (Zc (Zx (uv 3) Zi) Zn)) (Zc (Zf c_law_worth hr rfl (Zc (Zx (uv 3) Zi) (Zc (Zx (uv 0) Zi) (Zc (uv 8) Zn)))) Zn)))))) (Zo (Ac (G3 (Zx (uv 3) Zi) (Zu (Ae (Cs.s (Cs.s (Cs.s Cs.nil)))))) (Zo (Zr (Zf c_law_go_box hr rfl (Zc (uv 0) (Zc (uv 1) (Zc (uv 2) (Zc (Zf c_law_worth hr rfl (Zc (Zx (uv 3) Zi) (Zc (Zx (uv 0) Zi) (Zc (uv 8) Zn)))) (Zc (Bz (uv 5) (Zc (Zx (uv 3) Zi) Zn)) Zn)))))))) (Zo (Ac (G3 (Zx (uv 3) Zi) (Zu (Ae (Cs.s (Cs.s Cs.nil))))) (Zo (Zr (Zf c_law_go_lock hr rfl (Zc (uv 0) (Zc (uv 1) (Zc (uv 2) (Zc (Eo (Zx (uv 0) Zi) (Zc (Zx (uv 3) Zi) Zn)) Zn))))))) (Zo (Ac (Xf hu0 (Zx (uv 3) Zi) Zq) (Zo (Zt 6 sc.nd (Zp (uv 6) (Zx (uv 3) Zi)))) (Zo (Ac (Xf hu0 (Zf c_law_worth hr rfl (Zc (Zx (uv 3) Zi) (Zc (Zx (uv 0) Zi) (Zc (uv 8) Zn)))) Zi) (Zs (Zt 6 sc.nd (Hk Zi))
   (Zo (Ac (Xf hu0 (Zx (uv 3) Zi) Zq) (Zo (Zt 6 sc.nd (Zp (Zx (Zx (Zx (uv 1) Zi) (uv 2)) Zi) (Zx (uv 3) Zi)))) Ze))) Ze)))))))))))
   (Zo (Zr (Zu (Zc (Zx (uv 1) Zi) (Zc (Zx (uv 1) Zi) (Zc (Zf c_law_with hr rfl (Zc (Zx (uv 1) Zi) (Zc (uv 2) (Zc (Zu (Zc (Zp (uv 6) Zi) (Zc (uv 7) Zn))) Zn)))) Zn))))))))))))),fun ts S Pp h=>?_⟩
 obtain⟨L,s,w,rfl,wl,hm,h⟩:=h
 have V:=wl.v
 have sv:=wl.sv
 have hw:=wl.hw
 have l4:=(pr_pv V hw).few
 have l8:=V.bn
 have o2:2<=sizeLine:=by decide
 have o3:3<=sizeLine:=by decide
 have s0:0<L.size:=by have:=V.s2;omega
 let e0:Option T:=some L.tree
 let e1:Option T:=some s.tree
 let e2:Option T:=some (.int (w:Int))
 refine Zj (fun env S'=>S=S'/\env=[e0,e1,e2,some (nxT (L.nx s w)),none,none,none,none,none]) (fun k hk=>⟨L,s,w,rfl,wl,hk _ _ ⟨rfl,rfl⟩⟩) ?_
 rintro _ _ ⟨rfl,rfl⟩
 cases eq:L.nx s w with
 |none =>
  rw[M0 eq] at h
  exact Zj (fun _ _=>False) (fun k hk=>⟨fun _=>h,fun z=>(by cases z)⟩) (fun _ _ z=>z.elim)
 |some q =>
 rw[T7 eq] at h
 rw[Bl]
 obtain⟨_,_,ok⟩:=C2 V hw eq
 let e3:Option T:=some (.tup (.str q.word::q.rest))
 refine Zj (fun env S'=>S=S'/\env=[e0,e1,e2,e3,none,none,none,none,none]) (fun k hk=>⟨fun z=>(by cases z),fun _=>hk _ _ ⟨rfl,rfl⟩⟩) ?_
 rintro _ _ ⟨rfl,rfl⟩
 let e4:Option T:=some (.lst ((L.ow w).map T.str))
 refine Zj (fun env S'=>S=S'/\env=[e0,e1,e2,e3,e4,none,none,none,none]) (fun k hk=>A1 (S:=S) (L.pr w).2.1 pairT (fun q=>.str q.1) (fun k hk=>⟨_,at3,_,at4,_,Rb hw,_,Rs V hw,_,at1,hk⟩) (Xp (by omega)) (fun q hq A B hA=>⟨fun _=>⟨_,at0,hA⟩,fun z=>(by cases z)⟩) (hk _ _ ⟨rfl,?_⟩)) ?_
 ·show [e0,e1,e2,e3,some (T.lst ((L.pr w).2.1.map fun q=>T.str q.1)),none,none,none,none]=[_,_,_,_,some (T.lst (((L.pr w).2.1.map (·.1)).map T.str)),_,_,_,_]
  rw[List.map_map]
  rfl
 rintro _ _ ⟨rfl,rfl⟩
 let e5:Option T:=some (.lst (L.bn.map T.str))
 refine Zj (fun env S'=>S=S'/\env=[e0,e1,e2,e3,e4,e5,none,none,none]) (fun k hk=>A1 (S:=S) L.bs pairT (fun q=>.str q.1) (fun k hk=>⟨_,at1,hk⟩) (Xp (by omega)) (fun q hq A B hA=>⟨fun _=>⟨_,at0,hA⟩,fun z=>(by cases z)⟩) (hk _ _ ⟨rfl,?_⟩)) ?_
 ·show [e0,e1,e2,e3,e4,some (T.lst (L.bs.map fun q=>T.str q.1)),none,none,none]=[_,_,_,_,_,some (T.lst ((L.bs.map (·.1)).map T.str)),_,_,_]
  rw[List.map_map]
  rfl
 rintro _ _ ⟨rfl,rfl⟩
 let o7:List Int->Option T:=fun os=>some (.tup (os.map T.int))
 let p6:Int->Option T:=fun i=>some (.int i)
 refine Zj (fun env S'=>S=S'/\env=[e0,e1,e2,e3,e4,e5,p6 (s.at w).1,o7 (s.at w).2,none]) (fun k hk=>⟨_,at2,_,Cu sv hw,false,_,rfl,rfl,hk _ _ ⟨rfl,rfl⟩⟩) ?_
 rintro _ _ ⟨rfl,rfl⟩
 let od:List (Key×T):=((L.ow w).map Sum.inr).zip ((s.at w).2.map T.int)
 let e8:Option T:=some (.dct od)
 refine Zj (fun env S'=>S=S'/\env=[e0,e1,e2,e3,e4,e5,p6 (s.at w).1,o7 (s.at w).2,e8]) (fun k hk=>⟨L.ow w,(s.at w).2.map T.int,rfl,by rw[List.length_map,sv.ow w hw,ow_len],by rw[ow_len];omega,(pr_pv V hw).nd,hk _ _ ⟨rfl,rfl⟩⟩) ?_
 rintro _ _ ⟨rfl,rfl⟩
 have wo:∀{v:T},VF (L.ow w) [] 5 v->W L.size od [] 5 v (L.wo s w v):=fun hv=>Wf (Sm V sv hw) an hv
 refine Zj (fun env S'=>∃pl ow',S=S'/\L.free s w q=true/\L.go s w q=⟨s.bx,s.ho,s.sp.set w (pl+1,ow')⟩/\env=[e0,e1,e2,e3,e4,e5,p6 pl,o7 ow',e8]) (fun k hk=>?_) ?_
 ·cases q with
  |get x y =>
   refine⟨_,at0,fun _=>⟨L.ow w,rfl,_,at1,x,ix (L.ow w) x,rfl,Bg ok.1,fun m hm=>Av m hm,_,at0,L.bn,rfl,_,at2,y,ix L.bn y,rfl,Bg ok.2,fun m hm=>Av m hm,_,B8 (Kv sv ok.2),_,ix (L.ow w) x,_,rfl,Vv sv hw ok.1,Qv V sv hw,hk _ _ ⟨(s.at w).1,L.own s w (.get x y),rfl,rfl,by rw[go_no rfl];rfl,?_⟩⟩,wy "get" "get" rfl⟩
   show [e0,e1,e2,e3,e4,e5,p6 (s.at w).1,some (T.tup (((s.at w).2.map T.int).set (ix (L.ow w) x) (.int (s.bx.getD (ix L.bn y) 0)))),e8]=[_,_,_,_,_,_,_,some (T.tup (((s.at w).2.set (ix (L.ow w) x) (L.box s y)).map T.int)),_]
   rw[List.map_set]
   rfl
  |set x v =>
   refine⟨_,at0,wn "set" "get" (by decide),fun _=>⟨_,at0,fun _=>⟨L.ow w,rfl,_,at1,x,ix (L.ow w) x,rfl,Bg ok.1,fun m hm=>Av m hm,_,at2,_,at0,v,L.size,od,_,rfl,s0,wo ok.2,_,ix (L.ow w) x,_,rfl,Vv sv hw ok.1,Qv V sv hw,hk _ _ ⟨(s.at w).1,L.own s w (.set x v),rfl,rfl,by rw[go_no rfl];rfl,?_⟩⟩,wy "set" "set" rfl⟩⟩
   show [e0,e1,e2,e3,e4,e5,p6 (s.at w).1,some (T.tup (((s.at w).2.map T.int).set (ix (L.ow w) x) (.int (L.wo s w v)))),e8]=[_,_,_,_,_,_,_,some (T.tup (((s.at w).2.set (ix (L.ow w) x) (L.wo s w v)).map T.int)),_]
   rw[List.map_set]
  |put y v =>
   exact⟨_,at0,wn "put" "get" (by decide),fun _=>⟨_,at0,wn "put" "set" (by decide),fun _=>⟨_,at0,o3,["put","add","wait"],rfl,fun _=>⟨_,at2,_,at0,v,L.size,od,_,rfl,s0,wo ok.2,L.bn,rfl,_,at1,y,ix L.bn y,rfl,Bg ok.1,fun m hm=>Av m hm,L,s,w,.put y v,y,v,rfl,wl,eq,rfl,ok.1,h⟩,wim "put" ["put","add","wait"] (by decide)⟩⟩⟩
  |add y v =>
   exact⟨_,at0,wn "add" "get" (by decide),fun _=>⟨_,at0,wn "add" "set" (by decide),fun _=>⟨_,at0,o3,["put","add","wait"],rfl,fun _=>⟨_,at2,_,at0,v,L.size,od,_,rfl,s0,wo ok.2,L.bn,rfl,_,at1,y,ix L.bn y,rfl,Bg ok.1,fun m hm=>Av m hm,L,s,w,.add y v,y,v,rfl,wl,eq,rfl,ok.1,h⟩,wim "add" ["put","add","wait"] (by decide)⟩⟩⟩
  |wait y v =>
   exact⟨_,at0,wn "wait" "get" (by decide),fun _=>⟨_,at0,wn "wait" "set" (by decide),fun _=>⟨_,at0,o3,["put","add","wait"],rfl,fun _=>⟨_,at2,_,at0,v,L.size,od,_,rfl,s0,wo ok.2,L.bn,rfl,_,at1,y,ix L.bn y,rfl,Bg ok.1,fun m hm=>Av m hm,L,s,w,.wait y v,y,v,rfl,wl,eq,rfl,ok.1,h⟩,wim "wait" ["put","add","wait"] (by decide)⟩⟩⟩
  |take y =>
   exact⟨_,at0,wn "take" "get" (by decide),fun _=>⟨_,at0,wn "take" "set" (by decide),fun _=>⟨_,at0,o3,["put","add","wait"],rfl,win "take" ["put","add","wait"] (by decide),fun _=>⟨_,at0,o2,["take","give"],rfl,fun _=>⟨_,at2,L.ls,rfl,_,at1,y,ix L.ls y,rfl,Bg ok,fun m hm=>Av m hm,L,s,w,.take y,y,rfl,wl,hm,eq,rfl,ok,h⟩,wim "take" ["take","give"] (by decide)⟩⟩⟩⟩
  |give y =>
   exact⟨_,at0,wn "give" "get" (by decide),fun _=>⟨_,at0,wn "give" "set" (by decide),fun _=>⟨_,at0,o3,["put","add","wait"],rfl,win "give" ["put","add","wait"] (by decide),fun _=>⟨_,at0,o2,["take","give"],rfl,fun _=>⟨_,at2,L.ls,rfl,_,at1,y,ix L.ls y,rfl,Bg ok,fun m hm=>Av m hm,L,s,w,.give y,y,rfl,wl,hm,eq,rfl,ok,h⟩,wim "give" ["take","give"] (by decide)⟩⟩⟩⟩
  |skip i =>
   refine⟨_,at0,wn "skip" "get" (by decide),fun _=>⟨_,at0,wn "skip" "set" (by decide),fun _=>⟨_,at0,o3,["put","add","wait"],rfl,win "skip" ["put","add","wait"] (by decide),fun _=>⟨_,at0,o2,["take","give"],rfl,win "skip" ["take","give"] (by decide),fun _=>⟨_,at0,fun _=>⟨_,at1,hk _ _ ⟨(s.at w).1+i,(s.at w).2,rfl,rfl,?_,rfl⟩⟩,wy "skip" "skip" rfl⟩⟩⟩⟩⟩
   rw[go_no rfl]
   show (⟨s.bx,s.ho,s.sp.set w ((s.at w).1+1+i,(s.at w).2)⟩:Sta)=_
   rw[show (s.at w).1+1+i=(s.at w).1+i+1 by omega]
  |unl v i =>
   refine⟨_,at0,wn "unless" "get" (by decide),fun _=>⟨_,at0,wn "unless" "set" (by decide),fun _=>⟨_,at0,o3,["put","add","wait"],rfl,win "unless" ["put","add","wait"] (by decide),fun _=>⟨_,at0,o2,["take","give"],rfl,win "unless" ["take","give"] (by decide),fun _=>⟨_,at0,wn "unless" "skip" (by decide),fun _=>⟨_,at1,_,at0,v,L.size,od,_,rfl,s0,wo ok.1,fun e=>?_,fun e=>hk _ _ ⟨(s.at w).1,(s.at w).2,rfl,rfl,?_,rfl⟩⟩⟩⟩⟩⟩⟩
   ·have e:L.wo s w v=0:=by simpa using e
    refine Zj (fun env S'=>S=S'/\env=[e0,e1,e2,e3,e4,e5,p6 (-2),o7 (s.at w).2,e8]) (fun k hk=>hk _ _ ⟨rfl,rfl⟩) ?_
    rintro _ _ ⟨rfl,rfl⟩
    refine⟨_,at0,fun _=>⟨_,at2,_,Cu sv hw,_,at0,_,at2,hk _ _ ⟨(s.at w).1+i,(s.at w).2,rfl,rfl,?_,rfl⟩⟩,wy "unless" "unless" rfl⟩
    rw[go_no rfl]
    show (⟨s.bx,s.ho,s.sp.set w (if L.wo s w v=0 then (s.at w).1+1+i else (s.at w).1+1,(s.at w).2)⟩:Sta)=_
    rw[if_pos e,show (s.at w).1+1+i=(s.at w).1+i+1 by omega]
   ·have e:¬ L.wo s w v=0:=by simpa using e
    rw[go_no rfl]
    show (⟨s.bx,s.ho,s.sp.set w (if L.wo s w v=0 then (s.at w).1+1+i else (s.at w).1+1,(s.at w).2)⟩:Sta)=_
    rw[if_neg e]
  |check v =>
   refine⟨_,at0,wn "check" "get" (by decide),fun _=>⟨_,at0,wn "check" "set" (by decide),fun _=>⟨_,at0,o3,["put","add","wait"],rfl,win "check" ["put","add","wait"] (by decide),fun _=>⟨_,at0,o2,["take","give"],rfl,win "check" ["take","give"] (by decide),fun _=>⟨_,at0,wn "check" "skip" (by decide),fun _=>⟨_,at1,_,at0,v,L.size,od,_,rfl,s0,wo ok,fun e=>?_,fun e=>hk _ _ ⟨(s.at w).1,(s.at w).2,rfl,rfl,?_,rfl⟩⟩⟩⟩⟩⟩⟩
   ·have e:L.wo s w v=0:=by simpa using e
    refine Zj (fun env S'=>S=S'/\env=[e0,e1,e2,e3,e4,e5,p6 (-2),o7 (s.at w).2,e8]) (fun k hk=>hk _ _ ⟨rfl,rfl⟩) ?_
    rintro _ _ ⟨rfl,rfl⟩
    refine⟨_,at0,wn "check" "unless" (by decide),fun _=>hk _ _ ⟨-2,(s.at w).2,rfl,rfl,?_,rfl⟩⟩
    have eb':L.brk s w (.check v)=true:=decide_eq_true e
    rw[Re eb']
    rfl
   ·have e:¬ L.wo s w v=0:=by simpa using e
    have eb':L.brk s w (.check v)=false:=decide_eq_false e
    rw[go_no eb']
    rfl
 rintro _ _ ⟨pl,ow',rfl,ef,eg,rfl⟩
 unfold goT at h
 rw[ef,if_pos rfl,eg,Jk,List.map_set] at h
 exact⟨_,at0,_,at1,_,at2,o2,_,w,_,rfl,Ig sv hw,Fv V sv,o3,h⟩
def Jw:List T->TH->UX->Prop:=fun ts S Pp=>∃L s,ts=[Lm.tree L,Sta.tree s]/\L.V/\SV L s/\Ho s/\Pp (.lst (nats (L.ables s))) S
theorem Va:Zv ["_law_loom_here","_law_state"] ["_law_loom_here","_law_state"] (Zb (top 43)):=⟨rfl,rfl,rfl,by decide +kernel,rfl,by decide +kernel,by decide +kernel⟩
theorem Qo{m:Nat}(N:Nm P w K mg)(d:Aa K mg "_law_able" ["_law_loom_here","_law_state"] (top 43))(c_law_go:Has P w K mg base m "_law_go" ["_law_loom_here","_law_state","_law_worker"] cGo):Has P w K mg base (m+1) "_law_able" ["_law_loom_here","_law_state"] Jw:=by
 have sc:=Va
 refine Ag (k:=m) d sc (fun ts S Pp h=>?_) fun cdv f A outer s H E hr=>?_
 ·obtain⟨_,_,rfl,_⟩:=h;rfl
 refine⟨_,(Zo (Zr (Xg 0 ["_law_worker","_law_loom_here","_law_state"] [none,some 0,some 1] rfl (Ba rfl N.range (Zc (Zl rfl N.len (Zc (Zx (uv 0) Zi) Zn)) Zn)) (fun _ _ _ _ _=>C5 (Lx (Zf c_law_go hr rfl (Zc (uv 1) (Zc (uv 2) (Zc (uv 0) Zn)))) As)) (fun _ _ _ _ _=>(uv 0))))),fun ts S Pp h=>?_⟩
 obtain⟨L,s,rfl,V,sv,ho,h⟩:=h
 have l6:=V.w6
 refine Fi (ts:=Db L.ws.length) (f:=Cq fun w=>L.can s w) (fun k hk=>⟨_,at4,by rw[List.length_map];omega,by rw[List.length_map];omega,by rw[List.length_map,Int.toNat_natCast];exact hk⟩) (by rw[Zh];exact Xp (by omega)) (fun x hx A B hA hB=>?_) ?_
 ·obtain⟨k,hk,rfl⟩:=List.mem_map.mp hx
  have hk:=List.mem_range.mp hk
  refine⟨L,s,k,rfl,⟨V,sv,hk⟩,ho,?_⟩
  unfold Fm
  cases ec:L.can s k with
  |true=>exact⟨fun _=>hA _ (by show (if L.can s (k:Int).toNat then _ else _)=_;rw[Int.toNat_natCast,ec];rfl),fun z=>(by cases z)⟩
  |false=>exact⟨fun z=>(by cases z),fun _=>hB (by show (if L.can s (k:Int).toNat then _ else _)=_;rw[Int.toNat_natCast,ec];rfl)⟩
 ·rw[Ec]
  exact h
def Ls:List T->TH->UX->Prop:=fun ts S Pp=>∃L,ts=[Lm.tree L]/\L.V/\Pp L.first.tree S
theorem Sq:Zv ["_law_loom_here","_law_spots"] ["_law_loom_here"] (Zb (top 44)):=⟨rfl,rfl,rfl,by decide +kernel,rfl,by decide +kernel,by decide +kernel⟩
theorem N0(N:Nm P w K mg)(d:Aa K mg "_law_first" ["_law_loom_here"] (top 44)):Has P w K mg base 1 "_law_first" ["_law_loom_here"] Ls:=by
 have sc:=Sq
 refine Ag (k:=0) d sc (fun ts S Pp h=>?_) fun cdv f A outer s H E hr=>?_
 ·obtain⟨_,rfl,_⟩:=h;rfl
 refine⟨_,(Zs (Ar 1 sc.nd 0 ["_law_number","_law_loom_here"] [none,some 0] rfl (Xu (Zx (uv 0) Zi)) (fun _ _ _ _ _=>Al) (fun _ _ _ _ _=>(Zu (Zc Zi (Zc (Aj rfl N.tuple (Zc (Xg 0 ["_law_own"] [none] rfl (Xu (Zx (Zx (Zx (uv 1) Zi) (uv 0)) Zi)) (fun _ _ _ _ _=>Al) (fun _ _ _ _ _=>(Zx (uv 0) Zi))) Zn)) Zn)))))
   (Zo (Zr (Zu (Zc (Aj rfl N.tuple (Zc (Xg 0 ["_law_box"] [none] rfl (Xu (Zx (uv 0) Zi)) (fun _ _ _ _ _=>Al) (fun _ _ _ _ _=>(Zx (uv 0) Zi))) Zn)) (Zc (Aj rfl N.tuple (Zc (Xg 0 ["_law_lock"] [none] rfl (Xu (Zx (uv 0) Zi)) (fun _ _ _ _ _=>Al) (fun _ _ _ _ _=>(Hk Zi))) Zn)) (Zc (Aj rfl N.tuple (Zc (uv 1) Zn)) Zn))))))),fun ts S Pp h=>?_⟩
 obtain⟨L,rfl,V,h⟩:=h
 have l6:=V.w6
 have l8:=V.bn
 have l4:=V.ln
 have o2:2<=sizeLine:=by decide
 have o3:3<=sizeLine:=by decide
 let g:Int->T:=fun x=>spT (0,(L.ps.getD x.toNat Bp).2.1.map (·.2))
 refine Zj (fun env S'=>S=S'/\env=[some L.tree,some (.lst (L.ws.map g))]) (fun k hk=>A1 (S:=S) L.ws T.int g (fun k hk=>⟨_,at4,hk⟩) (Xp (by omega)) (fun x hx A B hA=>⟨fun _=>?_,fun z=>(by cases z)⟩) (hk _ _ ⟨rfl,rfl⟩)) ?_
 ·have hx:=V.wo x hx
  have hm:L.ps.getD x.toNat Bp∈L.ps:=by rw[List.getD_eq_getElem?_getD,List.getElem?_eq_getElem (by omega)];exact List.getElem_mem _
  have ea:atI (L.ps.map Am) x=some (Am (L.ps.getD x.toNat Bp)):=by
   have q:(L.ps.map Am)[x.toNat]?=some (Am (L.ps.getD x.toNat Bp)):=by rw[List.getElem?_map,List.getD_eq_getElem?_getD,List.getElem?_eq_getElem (by omega)];rfl
   have q:=Xb q
   rw[Int.toNat_of_nonneg hx.1] at q
   exact q
  have lf:=(V.po _ hm).few
  refine A1 (S:=S) (L.ps.getD x.toNat Bp).2.1 pairT (fun q=>.int q.2) (fun k hk=>⟨_,at3,_,ea,_,at1,hk⟩) (Xp (by omega)) (fun q hq A B hA=>⟨fun _=>⟨_,at1,hA⟩,fun z=>(by cases z)⟩) ?_
  refine⟨o2,?_⟩
  have hA:A (.tup [.int 0,.tup (((L.ps.getD x.toNat Bp).2.1.map (·.2)).map T.int)]) S:=hA
  rw[List.map_map] at hA
  exact hA
 rintro _ _ ⟨rfl,rfl⟩
 refine A1 (S:=S) L.bs pairT (fun q=>.int q.2) (fun k hk=>⟨_,at1,hk⟩) (Xp (by omega)) (fun q hq A B hA=>⟨fun _=>⟨_,at1,hA⟩,fun z=>(by cases z)⟩) ?_
 refine A1 (S:=S) L.ls T.str (fun _=>.int (-1)) (fun k hk=>⟨_,at2,hk⟩) (Xp (by omega)) (fun q hq A B hA=>⟨fun _=>hA,fun z=>(by cases z)⟩) ?_
 refine⟨o3,?_⟩
 have h:Pp (.tup [.tup ((L.bs.map (·.2)).map T.int),.tup ((L.ls.map fun _=>(-1:Int)).map T.int),.tup ((L.prs.map fun p=>((0:Int),p.2.1.map (·.2))).map spT)]) S:=h
 rw[List.map_map,List.map_map,List.map_map,show L.prs=L.ws.map fun x=>L.ps.getD x.toNat Bp from rfl,List.map_map] at h
 exact h
end
end K52
end
section
namespace K52
open PySem PySem.Spec PyProof.Rows L2 TL
seal UE UT UA US USs UI UG UO UW PTs Aq Ax uOr Hs
def headS:T->Option Str
 | .tup (.str x::_)=>some x
 |_=>none
def Xn(ts:List T):List Str:=ts.filterMap headS
theorem names_pairs:∀bs:List (Str×Int),Xn (bs.map pairT)=bs.map (·.1)
 |[]=>rfl
 |p::r=>by
  show p.1::Xn (r.map pairT)=p.1::r.map (·.1)
  rw[names_pairs r]
section
variable{P:Program}{w:World}{K:PySem.W.Frag}{mg:Str->Option Value}{base:Heap}
def Pe:T->Option T
 | .tup (x::_)=>some x
 |_=>none
def Kx:List T->TH->UX->Prop:=fun ts S Pp=>∃L,ts=[.tup L]/\L.length<=1000/\(∀x∈L,∃y r,x=.tup (.str y::r))/\Pp (.lst ((Xn L).map T.str)) S
theorem Vg:Zv ["things"] ["things"] (Zb (top 15)):=⟨rfl,rfl,rfl,by decide +kernel,rfl,by decide +kernel,by decide +kernel⟩
theorem Er:∀{L:List T},(∀x∈L,∃y r,x=.tup (.str y::r))->L.filterMap Pe=(Xn L).map T.str
 |[],_=>rfl
 |x::r,h=>by
  obtain⟨y,q,rfl⟩:=h x List.mem_cons_self
  have ih:=Er (L:=r) fun z hz=>h z (List.mem_cons_of_mem _ hz)
  show T.str y::r.filterMap Pe=T.str y::(Xn r).map T.str
  rw[ih]
theorem names_of(N:Nm P w K mg)(d:Aa K mg "names_of" ["things"] (top 15)):Has P w K mg base 1 "names_of" ["things"] Kx:=by
 have sc:=Vg
 refine Ag (k:=0) d sc (fun ts S Pp h=>?_) fun cdv f A outer s H E hr=>?_
 ·obtain⟨L,rfl,_⟩:=h;rfl
 refine⟨_,(Zo (Zr (Xg 0 ["thing"] [none] rfl (Xu (uv 0)) (fun _ _ _ _ _=>Al) (fun _ _ _ _ _=>(Zx (uv 0) Zi))))),fun ts S Pp h=>?_⟩
 obtain⟨L,rfl,hl,hh,h⟩:=h
 refine Fi (ts:=L) (f:=Pe) (fun k hk=>hk) (Xp hl) (fun x hx A B hA hB=>?_) ?_
 ·obtain⟨y,r,rfl⟩:=hh x hx
  exact⟨fun _=>⟨_,Xb (j:=0) rfl,hA _ rfl⟩,fun e=>(by cases e)⟩
 ·rw[Er hh]
  exact h
def cTwo:List T->TH->UX->Prop:=fun ts S Pp=>∃(z:Str) (i j size:Int),ts=[.str z,.int i,.int j,.int size]/\0<size/\Pp (.int (Rh size z i j)) S
theorem scTwo:Zv ["word","one","other","size"] ["word","one","other","size"] (Zb (top 7)):=⟨rfl,rfl,rfl,by decide +kernel,rfl,by decide +kernel,by decide +kernel⟩
theorem worth_of_two(N:Nm P w K mg)(d:Aa K mg "worth_of_two" ["word","one","other","size"] (top 7)):Has P w K mg base 1 "worth_of_two" ["word","one","other","size"] cTwo:=by
 have sc:=scTwo
 refine Ag (k:=0) d sc (fun ts S Pp h=>?_) fun cdv f A outer s H E hr=>?_
 ·obtain⟨z,i,j,size,rfl,_⟩:=h;rfl
 have hu0:=Ao hr
 refine⟨_,(Zs (Ac (Xf hu0 (uv 0) Zq) (Zo (Zr (A3 (Zp (uv 1) (uv 2)) (uv 3)))) Ze)
   (Zs (Ac (Xf hu0 (uv 0) Zq) (Zo (Zr (A3 (Cl (uv 1) (uv 2)) (uv 3)))) Ze)
   (Zs (Ac (Xf hu0 (uv 0) Zq) (Zo (Zr (Dw (Gm (uv 1) (uv 2)) Zi Zi))) Ze)
   (Zo (Zr (Dw (Xf hu0 (uv 1) (uv 2)) Zi Zi)))))),fun ts S Pp h=>?_⟩
 obtain⟨z,i,j,size,rfl,hs,h⟩:=h
 unfold Rh at h
 refine⟨fun e=>?_,fun e=>⟨fun e1=>?_,fun e1=>⟨fun e2=>⟨fun e3=>?_,fun e3=>?_⟩,fun e2=>⟨fun e3=>?_,fun e3=>?_⟩⟩⟩⟩
 ·rw[if_pos (by simpa using e)] at h
  exact⟨hs,h⟩
 ·rw[if_neg (by simpa using e),if_pos (by simpa using e1)] at h
  exact⟨hs,h⟩
 ·rw[if_neg (by simpa using e),if_neg (by simpa using e1),if_pos (by simpa using e2),if_pos (by simpa using e3)] at h
  exact h
 ·rw[if_neg (by simpa using e),if_neg (by simpa using e1),if_pos (by simpa using e2),if_neg (by simpa using e3)] at h
  exact h
 ·rw[if_neg (by simpa using e),if_neg (by simpa using e1),if_neg (by simpa using e2),if_pos (by simpa using e3)] at h
  exact h
 ·rw[if_neg (by simpa using e),if_neg (by simpa using e1),if_neg (by simpa using e2),if_neg (by simpa using e3)] at h
  exact h
def He(n:Nat):List T->TH->UX->Prop:=fun ts S Pp=>∃(t:T) (size:Int) (od bd:List (Key×T)) (i:Int),ts=[t,.int size,.dct od,.dct bd]/\0<size/\W size od bd n t i/\Pp (.int i) S
theorem Uo:Zv ["value","size","owns","boxes","word","one"] ["value","size","owns","boxes"] (Zb (top 6)):=⟨rfl,rfl,rfl,by decide +kernel,rfl,by decide +kernel,by decide +kernel⟩
theorem Xd{n m:Nat}(N:Nm P w K mg)(d:Aa K mg "worth" ["value","size","owns","boxes"] (top 6))(c_worth_of_two:Has P w K mg base m "worth_of_two" ["word","one","other","size"] cTwo)(c_worth:Has P w K mg base m "worth" ["value","size","owns","boxes"] (He n)):Has P w K mg base (m+1) "worth" ["value","size","owns","boxes"] (He (n+1)):=by
 have sc:=Uo
 refine Ag (k:=m) d sc (fun ts S Pp h=>?_) fun cdv f A outer s H E hr=>?_
 ·obtain⟨t,size,od,bd,i,rfl,_⟩:=h;rfl
 have hu0:=Ao hr
 have hu1:=Ss hr
 refine⟨_,(Zs (Zt 4 sc.nd (Zx (uv 0) Zi))
   (Zs (Ac (Xf hu0 (uv 4) Zq) (Zo (Zr (A3 (Zx (uv 0) Zi) (uv 1)))) Ze)
   (Zs (Ac (Xf hu0 (uv 4) Zq) (Zo (Zr (Rg hu1 (uv 2) (Zx (uv 0) Zi)))) Ze)
   (Zs (Ac (Xf hu0 (uv 4) Zq) (Zo (Zr (Rg hu1 (uv 3) (Zx (uv 0) Zi)))) Ze)
   (Zs (Zt 5 sc.nd (Zf c_worth hr rfl (Zc (Zx (uv 0) Zi) (Zc (uv 1) (Zc (uv 2) (Zc (uv 3) Zn))))))
   (Zs (Ac (Xf hu0 (uv 4) Zq) (Zo (Zr (Dw (Xf hu0 (uv 5) Zi) Zi Zi))) Ze)
   (Zo (Zr (Zf c_worth_of_two hr rfl (Zc (uv 4) (Zc (uv 5) (Zc (Zf c_worth hr rfl (Zc (Zx (uv 0) Zi) (Zc (uv 1) (Zc (uv 2) (Zc (uv 3) Zn))))) (Zc (uv 1) Zn))))))))))))),fun ts S Pp h=>?_⟩
 obtain⟨t,size,od,bd,i,rfl,hs,hw,h⟩:=h
 cases hw with
 |num=>exact⟨_,at0,fun _=>⟨_,at1,hs,h⟩,fun e=>absurd e (by decide)⟩
 |own e=>exact⟨_,at0,fun e=>absurd e (by decide),fun _=>⟨fun _=>⟨_,at1,_,_,rfl,e,h⟩,fun e=>absurd e (by decide)⟩⟩
 |box e=>exact⟨_,at0,fun e=>absurd e (by decide),fun _=>⟨fun e=>absurd e (by decide),fun _=>⟨fun _=>⟨_,at1,_,_,rfl,e,h⟩,fun e=>absurd e (by decide)⟩⟩⟩
 | @neg _ t i hw =>
  refine⟨_,at0,fun e=>absurd e (by decide),fun _=>⟨fun e=>absurd e (by decide),fun _=>⟨fun e=>absurd e (by decide),fun _=>⟨_,at1,t,size,od,bd,i,rfl,hs,hw,fun _=>⟨fun e3=>?_,fun e3=>?_⟩,fun e=>absurd e (by decide)⟩⟩⟩⟩
  ·rw[if_pos (by simpa using e3)] at h;exact h
  ·rw[if_neg (by simpa using e3)] at h;exact h
 | @two _ z t u i j hz hw hw' =>
  have no:∀{y:Str},y="number"\/y="own"\/y="box"\/y="not"->decide (z=y)=false:=fun {y} hy=>by
   rcases hz with rfl|rfl|rfl|rfl <;> rcases hy with rfl|rfl|rfl|rfl <;> decide
  have n1:=no (.inl rfl)
  have n2:=no (.inr (.inl rfl))
  have n3:=no (.inr (.inr (.inl rfl)))
  have n4:=no (.inr (.inr (.inr rfl)))
  refine⟨_,at0,fun e=>?_,fun _=>⟨fun e=>?_,fun _=>⟨fun e=>?_,fun _=>⟨_,at1,t,size,od,bd,i,rfl,hs,hw,fun e=>?_,fun _=>⟨_,at2,u,size,od,bd,j,rfl,hs,hw',z,i,j,size,rfl,hs,h⟩⟩⟩⟩⟩
  ·simp[n1] at e
  ·simp[n2] at e
  ·simp[n3] at e
  ·simp[n4] at e
theorem worth(N:Nm P w K mg)(d:Aa K mg "worth" ["value","size","owns","boxes"] (top 6))(c:Has P w K mg base 1 "worth_of_two" ["word","one","other","size"] cTwo):∀n:Nat,Has P w K mg base (n+1) "worth" ["value","size","owns","boxes"] (He n)
 | 0=>Fu d fun _ _ _ ⟨_,_,_,_,_,_,_,q,_⟩=>by cases q
 |n+1=>Xd (m:=n+1) N d (c.mono (by omega)) (worth N d c n)
end
end K52
end
section
namespace K52
open PySem PySem.Spec PyProof.Rows L2 TL
seal UE UT UA US USs UI UG UO UW PTs Aq Ax
structure Aw(mg:Str->Option Value)(L:Lm)(S:TH)(p:Addr):Prop where
 me:S p=some (.ins (cAt mg "Machine") L.fs)
 v:L.V
structure Wos(mg:Str->Option Value)(L:Lm)(S:TH)(p:Addr)(s:Sta)(w:Nat):Prop where
 aw:Aw mg L S p
 sv:SV L s
 hw:w<L.ws.length
def Kp(S S':TH):Prop:=∀b c,S b=some c->S' b=some c
theorem Kp.rfl{S:TH}:Kp S S:=fun _ _ h=>h
theorem Kp.trans{S S1 S2:TH}(x:Kp S S1)(y:Kp S1 S2):Kp S S2:=fun b c h=>y b c (x b c h)
theorem Kp.new{S:TH}{p:Addr}{c:Cell}(h:S p=none):Kp S (updT S p c):=fun b d e=>by rw[Ab (fun z=>by rw[z,h] at e;cases e)];exact e
section
variable{P:Program}{w:World}{K:PySem.W.Frag}{mg:Str->Option Value}{base:Heap}
def L6:List T->TH->UX->Prop:=fun ts S Pp=>∃x lo hi,ts=[x,.int lo,.int hi]/\Pl x/\Pp (.bl (Ik lo hi x)) S
theorem Py:Zv ["thing","least","greatest"] ["thing","least","greatest"] (Zb (top 5)):=⟨rfl,rfl,rfl,by decide +kernel,rfl,by decide +kernel,by decide +kernel⟩
theorem is_number(N:Nm P w K mg)(d:Aa K mg "is_number" ["thing","least","greatest"] (top 5)):Has P w K mg base 1 "is_number" ["thing","least","greatest"] L6:=by
 have sc:=Py
 refine Ag (k:=0) d sc (fun ts S Pp h=>?_) fun cdv f A outer s H E hr=>?_
 ·obtain⟨x,lo,hi,rfl,_⟩:=h;rfl
 have hu0:=Ao hr
 refine⟨_,(Zs (Ac (UW.ut (Ck (Xe (Jz rfl N.isinstance (Zc (uv 0) (Zc (Xv rfl N.bool boot_bool) Zn)))) (Xs (Do (Xe (Jz rfl N.isinstance (Zc (uv 0) (Zc (Xv rfl N.int boot_int) Zn)))))))) (Zo (Zr B4)) Ze)
   (Zo (Zr (Ky (uv 1) (uv 0) (uv 2))))),fun ts S Pp h=>?_⟩
 obtain⟨x,lo,hi,rfl,px,h⟩:=h
 cases px with
 |int i =>
  and_intros
  exact⟨fun e=>by rw[Ik,e,Bool.true_and] at h;exact h,fun e=>by rw[Ik,e,Bool.false_and] at h;exact h⟩
 |_=>and_intros;exact h
abbrev cWo(mg:Str->Option Value)(C:Lm->Sta->Nat->Prop)(r:Lm->Sta->Nat->T):List T->TH->UX->Prop:=fun ts S Pp=>∃L p s w,ts=[.ref p,s.tree,.int ((w:Nat):Int)]/\Wos mg L S p s w/\C L s w/\Pp (r L s w) S
def cNx(mg:Str->Option Value):=cWo mg (fun _ _ _=>True) fun L s w=>nxT (L.nx s w)
theorem scNx:Zv ["self","state","worker","steps","place"] ["self","state","worker"] (Zb (Ah (top 19) 3)):=⟨rfl,rfl,rfl,by decide +kernel,rfl,by decide +kernel,by decide +kernel⟩
theorem next_step{m:Nat}(N:Nm P w K mg)(d:Af K (cAt mg "Machine") "next_step" "Machine.next_step" ["self","state","worker"] (Ah (top 19) 3))(c_is_number:Has P w K mg base m "is_number" ["thing","least","greatest"] L6):HasM P w K mg base (m+1) (cAt mg "Machine") "next_step" ["self","state","worker"] (cNx mg):=by
 have sc:=scNx
 refine Ay (k:=m) d sc (fun ts S Pp h=>?_) fun cdv f A outer s H E hr=>?_
 ·obtain⟨_,_,_,_,rfl,_⟩:=h;rfl
 refine⟨_,(Zs (Ac (Do (Xe (Zf c_is_number hr rfl (Zc (uv 2) (Zc Zi (Zc (Cl (Zl rfl N.len (Zc (Az (uv 0)) Zn)) Zi) Zn)))))) (Zo Rc) Ze)
   (Zs (Zt 3 sc.nd (Zx (Zx (Az (uv 0)) (uv 2)) Zi))
   (Zs (Zt 4 sc.nd (Zx (Zx (Zx (uv 1) Zi) (uv 2)) Zi))
   (Zo (Zr (Dw (Ua Zi (uv 4) (Zl rfl N.len (Zc (uv 3) Zn))) (Zx (uv 3) (uv 4)) As)))))),fun ts S Pp h=>?_⟩
 obtain⟨L,p,s,w,rfl,⟨aw,sv,hw⟩,_,h⟩:=h
 have h:Pp (nxT (L.nx s w)) S:=h
 have hn:Ik 0 (((L.prs.map Am).length:Int) - 1) (.int (w:Int))=true:=X7 (by omega) (by rw[List.length_map,E7];omega)
 refine⟨_,_,_,aw.me,N.Machine_cls,N.Machine_no_programs,rfl,.int (w:Int),0,_,rfl,.int _,no_ (congrArg (!·) hn) ?_⟩
 refine⟨_,_,_,aw.me,N.Machine_cls,N.Machine_no_programs,rfl,_,Ro hw,_,at2,_,at2,_,Cu sv hw,_,at0,?_⟩
 cases e:L.nx s w with
 |none =>
  rw[e] at h
  have hn:=G5 e
  refine⟨fun e1=>⟨fun e2=>?_,fun _=>h⟩,fun _=>⟨fun z=>(by cases z),fun _=>h⟩⟩
  exact absurd ⟨of_decide_eq_true e1,of_decide_eq_true e2⟩ hn
 |some q =>
  rw[e] at h
  obtain⟨h0,g,ok⟩:=C2 aw.v hw e
  have hl:(s.at w).1.toNat<(L.pr w).2.2.length:=(List.getElem?_eq_some_iff.mp g).1
  refine⟨fun _=>⟨fun _=>?_,fun e2=>?_⟩,fun e1=>absurd h0 (of_decide_eq_false e1)⟩
  ·have ea:atI (L.pr w).2.2 (s.at w).1=some q.tree:=by
    have q':=Xb g
    rw[Int.toNat_of_nonneg h0] at q'
    exact q'
   exact⟨_,ea,h⟩
  ·exact absurd (show (s.at w).1<((L.pr w).2.2.length:Int) by omega) (of_decide_eq_false e2)
def Vx(mg:Str->Option Value):List T->TH->UX->Prop:=fun ts S Pp=>∃L p,ts=[.ref p,Lm.tree L]/\S p=some (.ins (cAt mg "Machine") [])/\L.V/\Pp .non (updT S p (.ins (cAt mg "Machine") L.fs))
theorem Wm:Zv ["self","loom"] ["self","loom"] (Zb (Ah (top 19) 0)):=⟨rfl,rfl,rfl,by decide +kernel,rfl,by decide +kernel,by decide +kernel⟩
theorem init{m:Nat}(N:Nm P w K mg)(d:C6 K mg (cAt mg "Machine") "Machine" "Machine.__init__" ["self","loom"] (Ah (top 19) 0)):HasI P w K mg base (m+1) (cAt mg "Machine") "Machine" ["self","loom"] (Vx mg):=by
 have sc:=Wm
 refine L7 (k:=m) d sc (fun ts S Pp h=>?_) fun cdv f A outer s H E hr=>?_
 ·obtain⟨_,_,rfl,_⟩:=h;rfl
 refine⟨_,(Zs (Cd (uv 0) (Zx (uv 1) Zi))
   (Zs (Cd (uv 0) (Zx (uv 1) Zi))
   (Zs (Cd (uv 0) (Zx (uv 1) Zi))
   (Zo (Cd (uv 0) (Aj rfl N.tuple (Zc (Xg 0 ["number","loom"] [none,some 1] rfl (Xu (Zx (uv 1) Zi)) (fun _ _ _ _ _=>Al) (fun _ _ _ _ _=>(Zx (Zx (uv 1) Zi) (uv 0)))) Zn))))))),fun ts S Pp h=>?_⟩
 obtain⟨L,p,rfl,h0,V,h⟩:=h
 have l6:=V.w6
 have at3:∀{a b c d:T} {r:List T},atI (a::b::c::d::r) (3:Int)=some d:=Xb (j:=3) rfl
 have at4:∀{a b c d e:T} {r:List T},atI (a::b::c::d::e::r) (4:Int)=some e:=Xb (j:=4) rfl
 refine⟨_,at0,_,_,h0,N.Machine_cls,N.Machine_no_size,by decide,_,at1,_,_,Zd,N.Machine_cls,N.Machine_no_boxes,?_,_,at2,_,_,Zd,N.Machine_cls,N.Machine_no_locks,?_,?_⟩
 ·exact Nat.lt_of_le_of_lt (show _<=1 from Nat.le_refl _) (by decide)
 ·exact Nat.lt_of_le_of_lt (show _<=2 from Nat.le_refl _) (by decide)
 refine A1 L.ws T.int (fun x=>Am (L.ps.getD x.toNat Bp)) (fun k hk=>⟨_,at4,hk⟩) (Xp (by omega)) (fun x hx A B hA=>⟨fun _=>⟨_,at3,?_⟩,fun z=>(by cases z)⟩) ?_
 ·have hx:=V.wo x hx
  have ea:atI (L.ps.map Am) x=some (Am (L.ps.getD x.toNat Bp)):=by
   have q:(L.ps.map Am)[x.toNat]?=some (Am (L.ps.getD x.toNat Bp)):=by rw[List.getElem?_map,List.getD_eq_getElem?_getD,List.getElem?_eq_getElem (by omega)];rfl
   have q:=Xb q
   rw[Int.toNat_of_nonneg hx.1] at q
   exact q
  exact⟨_,ea,hA⟩
 refine⟨_,_,Zd,N.Machine_cls,N.Machine_no_programs,?_,?_⟩
 ·exact Nat.lt_of_le_of_lt (show _<=3 from Nat.le_refl _) (by decide)
 ·rw[upd2,upd2,upd2]
  have e:L.prs.map Am=L.ws.map fun x=>Am (L.ps.getD x.toNat Bp):=by unfold Lm.prs;rw[List.map_map];rfl
  have h:Pp .non (updT S p (.ins (cAt mg "Machine") [("size",.int L.size),("boxes",.tup (L.bs.map pairT)),("locks",.tup (L.ls.map T.str)),("programs",.tup (L.prs.map Am))])):=h
  rw[e] at h
  exact h
theorem E2(os:List (Str×Int)):∀x∈os.map pairT,∃y r,x=.tup (.str y::r):=fun x hx=>by
 obtain⟨p,_,rfl⟩:=List.mem_map.mp hx
 exact⟨_,_,rfl⟩
theorem X1{L:Lm}(V:L.V):(L.bs.map pairT).length<=1000:=by have:=V.bn;rw[List.length_map];omega
theorem Yz{L:Lm}{w:Nat}(V:L.V)(h:w<L.ws.length):((L.pr w).2.1.map pairT).length<=1000:=by have:=(pr_pv V h).few;rw[List.length_map];omega
def Ps(mg:Str->Option Value):List T->TH->UX->Prop:=fun ts S Pp=>∃L p y,ts=[.ref p,.str y]/\Aw mg L S p/\y∈L.bn/\Pp (.int (ix L.bn y:Nat)) S
theorem T1:Zv ["self","name"] ["self","name"] (Zb (Ah (top 19) 13)):=⟨rfl,rfl,rfl,by decide +kernel,rfl,by decide +kernel,by decide +kernel⟩
theorem box_place{m:Nat}(N:Nm P w K mg)(d:Af K (cAt mg "Machine") "box_place" "Machine.box_place" ["self","name"] (Ah (top 19) 13))(c_names_of:Has P w K mg base m "names_of" ["things"] Kx):HasM P w K mg base (m+1) (cAt mg "Machine") "box_place" ["self","name"] (Ps mg):=by
 have sc:=T1
 refine Ay (k:=m) d sc (fun ts S Pp h=>?_) fun cdv f A outer s H E hr=>?_
 ·obtain⟨_,_,_,rfl,_⟩:=h;rfl
 refine⟨_,(Zo (Zr (Bz (Zf c_names_of hr rfl (Zc (Az (uv 0)) Zn)) (Zc (uv 1) Zn)))),fun ts S Pp h=>?_⟩
 obtain⟨L,p,y,rfl,aw,hy,h⟩:=h
 exact⟨_,_,_,aw.me,N.Machine_cls,N.Machine_no_boxes,rfl,L.bs.map pairT,rfl,X1 aw.v,E2 _,L.bn,by rw[names_pairs];rfl,y,ix L.bn y,rfl,Bg hy,fun m hm=>Av m hm,h⟩
def V7(mg:Str->Option Value):List T->TH->UX->Prop:=fun ts S Pp=>∃L p s y,ts=[.ref p,s.tree,.str y]/\Aw mg L S p/\SV L s/\y∈L.bn/\Pp (.int (L.box s y)) S
theorem Z6:Zv ["self","state","name"] ["self","state","name"] (Zb (Ah (top 19) 14)):=⟨rfl,rfl,rfl,by decide +kernel,rfl,by decide +kernel,by decide +kernel⟩
theorem box_number{m:Nat}(N:Nm P w K mg)(d:Af K (cAt mg "Machine") "box_number" "Machine.box_number" ["self","state","name"] (Ah (top 19) 14))(c_m_box_place:HasM P w K mg base m (cAt mg "Machine") "box_place" ["self","name"] (Ps mg)):HasM P w K mg base (m+1) (cAt mg "Machine") "box_number" ["self","state","name"] (V7 mg):=by
 have sc:=Z6
 refine Ay (k:=m) d sc (fun ts S Pp h=>?_) fun cdv f A outer s H E hr=>?_
 ·obtain⟨_,_,_,_,rfl,_⟩:=h;rfl
 refine⟨_,(Zo (Zr (Zx (Zx (uv 1) Zi) (Zm c_m_box_place hr (uv 0) (Zc (uv 2) Zn))))),fun ts S Pp h=>?_⟩
 obtain⟨L,p,s,y,rfl,aw,sv,hy,h⟩:=h
 exact⟨_,at0,L.fs,aw.me,rfl,L,p,y,rfl,aw,hy,_,B8 (by rw[sv.bx,<-P0];exact Id hy),h⟩
def V1(mg:Str->Option Value):List T->TH->UX->Prop:=fun ts S Pp=>∃L p s y,ts=[.ref p,s.tree,.str y]/\Aw mg L S p/\SV L s/\y∈L.ls/\Pp (.int (L.hold s y)) S
theorem W3:Zv ["self","state","name"] ["self","state","name"] (Zb (Ah (top 19) 15)):=⟨rfl,rfl,rfl,by decide +kernel,rfl,by decide +kernel,by decide +kernel⟩
theorem holder{m:Nat}(N:Nm P w K mg)(d:Af K (cAt mg "Machine") "holder" "Machine.holder" ["self","state","name"] (Ah (top 19) 15)):HasM P w K mg base (m+1) (cAt mg "Machine") "holder" ["self","state","name"] (V1 mg):=by
 have sc:=W3
 refine Ay (k:=m) d sc (fun ts S Pp h=>?_) fun cdv f A outer s H E hr=>?_
 ·obtain⟨_,_,_,_,rfl,_⟩:=h;rfl
 refine⟨_,(Zo (Zr (Zx (Zx (uv 1) Zi) (Eo (Az (uv 0)) (Zc (uv 2) Zn))))),fun ts S Pp h=>?_⟩
 obtain⟨L,p,s,y,rfl,aw,sv,hy,h⟩:=h
 exact⟨_,at1,_,_,_,aw.me,N.Machine_cls,N.Machine_no_locks,rfl,L.ls,rfl,y,ix L.ls y,rfl,Bg hy,fun m hm=>Av m hm,_,B8 (by rw[sv.ho];exact Id hy),h⟩
def Stp.val:Stp->Option T
 | .add _ v=>some v
 | .put _ v=>some v
 | .wait _ v=>some v
 | .set _ v=>some v
 | .check v=>some v
 | .unl v _=>some v
 |_=>none
def cSW(mg:Str->Option Value):List T->TH->UX->Prop:=fun ts S Pp=>∃L p s w q v,ts=[.ref p,s.tree,.int ((w:Nat):Int),Stp.tree q]/\Aw mg L S p/\SV L s/\w<L.ws.length/\q.val=some v/\VF (L.ow w) [] 5 v/\Pp (.int (L.wo s w v)) S
theorem scSW:Zv ["self","state","worker","step","value","owns"] ["self","state","worker","step"] (Zb (Ah (top 19) 11)):=⟨rfl,rfl,rfl,by decide +kernel,rfl,by decide +kernel,by decide +kernel⟩
theorem first1{a b:Str}(h:a≠b):∀m,m<1->[a,b][m]?≠some b:=fun m hm=>by
 cases m with
 |zero=>intro q;exact h (Option.some.inj q)
 |succ m=>omega
theorem step_worth{m:Nat}(N:Nm P w K mg)(d:Af K (cAt mg "Machine") "step_worth" "Machine.step_worth" ["self","state","worker","step"] (Ah (top 19) 11))(c_names_of:Has P w K mg base m "names_of" ["things"] Kx)(c_worth:Has P w K mg base m "worth" ["value","size","owns","boxes"] (He 5)):HasM P w K mg base (m+1) (cAt mg "Machine") "step_worth" ["self","state","worker","step"] (cSW mg):=by
 have sc:=scSW
 refine Ay (k:=m) d sc (fun ts S Pp h=>?_) fun cdv f A outer s H E hr=>?_
 ·obtain⟨_,_,_,_,_,_,rfl,_⟩:=h;rfl
 refine⟨_,(Zs (Zt 4 sc.nd (Zx (uv 3) (Zp Zi (Eo (Z2 rfl N.STEP_PARTS (Zx (uv 3) Zi)) (Zc Zq Zn)))))
   (Zs (Zt 5 sc.nd (Il rfl rfl N.dict rfl N.zip (Zc (Zf c_names_of hr rfl (Zc (Zx (Zx (Az (uv 0)) (uv 2)) Zi) Zn)) (Zc (Zx (Zx (Zx (uv 1) Zi) (uv 2)) Zi) Zn))))
   (Zo (Zr (Zf c_worth hr rfl (Zc (uv 4) (Zc (Az (uv 0)) (Zc (uv 5) (Zc Qy Zn))))))))),fun ts S Pp h=>?_⟩
 obtain⟨L,p,s,w,q,v,rfl,aw,sv,hw,hq,vf,h⟩:=h
 refine Zj (fun env S'=>env=[some (.ref p),some s.tree,some (.int (w:Int)),some q.tree,some v,none]/\S=S') (fun k hk=>?_) ?_
 ·cases q with
  |add y u=>cases hq;exact⟨_,at0,_,_,rfl,rfl,["box","value"],rfl,"value",1,rfl,rfl,first1 (by decide),_,at2,hk _ _ ⟨rfl,rfl⟩⟩
  |put y u=>cases hq;exact⟨_,at0,_,_,rfl,rfl,["box","value"],rfl,"value",1,rfl,rfl,first1 (by decide),_,at2,hk _ _ ⟨rfl,rfl⟩⟩
  |wait y u=>cases hq;exact⟨_,at0,_,_,rfl,rfl,["box","value"],rfl,"value",1,rfl,rfl,first1 (by decide),_,at2,hk _ _ ⟨rfl,rfl⟩⟩
  |set y u=>cases hq;exact⟨_,at0,_,_,rfl,rfl,["own","value"],rfl,"value",1,rfl,rfl,first1 (by decide),_,at2,hk _ _ ⟨rfl,rfl⟩⟩
  |check u=>cases hq;exact⟨_,at0,_,_,rfl,rfl,["value"],rfl,"value",0,rfl,rfl,(fun m hm=>by omega),_,at1,hk _ _ ⟨rfl,rfl⟩⟩
  |unl u i=>cases hq;exact⟨_,at0,_,_,rfl,rfl,["value","count"],rfl,"value",0,rfl,rfl,(fun m hm=>by omega),_,at1,hk _ _ ⟨rfl,rfl⟩⟩
  |_=>cases hq
 rintro _ _ ⟨rfl,rfl⟩
 have lo:=sv.ow w hw
 refine⟨_,_,_,aw.me,N.Machine_cls,N.Machine_no_programs,rfl,_,Ro hw,_,at1,(L.pr w).2.1.map pairT,rfl,Yz aw.v hw,E2 _,_,at2,_,Cu sv hw,_,at1,L.ow w,(s.at w).2.map T.int,by rw[names_pairs];rfl,by rw[List.length_map,lo,ow_len],by rw[ow_len];have:=(pr_pv aw.v hw).few;omega,(pr_pv aw.v hw).nd,?_⟩
 exact⟨_,_,_,aw.me,N.Machine_cls,N.Machine_no_size,rfl,v,L.size,_,[],L.wo s w v,rfl,by have:=aw.v.s2;omega,Wf (Sm aw.v sv hw) (fun _ z=>by cases z) vf,h⟩
def cCan(mg:Str->Option Value):=cWo mg (fun _ _ _=>True) fun L s w=>.bl (L.can s w)
theorem scCan:Zv ["self","state","worker","step"] ["self","state","worker"] (Zb (Ah (top 19) 4)):=⟨rfl,rfl,rfl,by decide +kernel,rfl,by decide +kernel,by decide +kernel⟩
theorem is_able{m:Nat}(N:Nm P w K mg)(d:Af K (cAt mg "Machine") "is_able" "Machine.is_able" ["self","state","worker"] (Ah (top 19) 4))(c_m_next_step:HasM P w K mg base m (cAt mg "Machine") "next_step" ["self","state","worker"] (cNx mg))(c_m_holder:HasM P w K mg base m (cAt mg "Machine") "holder" ["self","state","name"] (V1 mg))(c_m_box_number:HasM P w K mg base m (cAt mg "Machine") "box_number" ["self","state","name"] (V7 mg))(c_m_step_worth:HasM P w K mg base m (cAt mg "Machine") "step_worth" ["self","state","worker","step"] (cSW mg)):HasM P w K mg base (m+1) (cAt mg "Machine") "is_able" ["self","state","worker"] (cCan mg):=by
 have sc:=scCan
 refine Ay (k:=m) d sc (fun ts S Pp h=>?_) fun cdv f A outer s H E hr=>?_
 ·obtain⟨_,_,_,_,rfl,_⟩:=h;rfl
 have hu0:=Ao hr
 refine⟨_,(Zs (Zt 3 sc.nd (Zm c_m_next_step hr (uv 0) (Zc (uv 1) (Zc (uv 2) Zn))))
   (Zs (Ac (Cb (uv 3) As) (Zo (Zr B4)) Ze)
   (Zs (Ac (Xf hu0 (Zx (uv 3) Zi) Zq) (Zo (Zr (Df hu0 (Zm c_m_holder hr (uv 0) (Zc (uv 1) (Zc (Zx (uv 3) Zi) Zn))) (Uf rfl N.FREE)))) Ze)
   (Zs (Ac (Xf hu0 (Zx (uv 3) Zi) Zq) (Zo (Zr (Df hu0 (Zm c_m_box_number hr (uv 0) (Zc (uv 1) (Zc (Zx (uv 3) Zi) Zn))) (Zm c_m_step_worth hr (uv 0) (Zc (uv 1) (Zc (uv 2) (Zc (uv 3) Zn))))))) Ze)
   (Zo (Zr B4)))))),fun ts S Pp h=>?_⟩
 obtain⟨L,p,s,w,rfl,wo,_,h⟩:=h
 have aw:=wo.aw
 have h:Pp (.bl (match L.nx s w with|none=>false|some q=>L.free s w q)) S:=h
 refine⟨L.fs,aw.me,rfl,L,p,s,w,rfl,wo,trivial,?_⟩
 dsimp only
 cases e:L.nx s w with
 |none =>
  rw[e] at h
  exact⟨fun _=>h,fun z=>(by cases z)⟩
 |some q =>
  rw[e] at h
  have h:Pp (.bl (L.free s w q)) S:=h
  rw[Bl]
  have ok:=(C2 aw.v wo.hw e).2.2
  refine⟨fun z=>(by cases z),fun _=>⟨_,at0,fun e=>?_,fun e=>⟨_,at0,fun e2=>?_,fun e2=>?_⟩⟩⟩
  ·obtain⟨y,rfl⟩:=X6 (O1 e)
   refine⟨L.fs,aw.me,rfl,_,at1,L,p,s,y,rfl,aw,wo.sv,ok,?_⟩
   show Pp (.bl (Bool.xor false (decide _))) S
   rw[Bool.false_xor];exact h
  ·obtain⟨y,v,rfl⟩:=W4 (O1 e2)
   refine⟨L.fs,aw.me,rfl,_,at1,L,p,s,y,rfl,aw,wo.sv,ok.1,L.fs,aw.me,rfl,L,p,s,w,.wait y v,v,rfl,aw,wo.sv,wo.hw,rfl,ok.2,?_⟩
   show Pp (.bl (Bool.xor false (decide _))) S
   rw[Bool.false_xor];exact h
  ·rw[Xy (Vr e) (Vr e2)] at h
   exact h
end
end K52
end
section
namespace K52
open PySem PySem.Spec PyProof.Rows L2 TL
seal UE UT UA US USs UI UG UO UW PTs Aq uOr Hs D0
inductive Tch where
 |no|lock (y:Str)|read (y:Str)|write (y:Str)|add (y:Str)
def Tch.nm:Tch->Str
 | .no=>""
 | .lock y=>y
 | .read y=>y
 | .write y=>y
 | .add y=>y
def Tch.way:Tch->Str
 | .no=>""
 | .lock _=>"lock"
 | .read _=>"read"
 | .write _=>"write"
 | .add _=>"add"
def Tch.is:Tch->Bool
 | .no=>false
 |_=>true
def Stp.tch:Stp->Tch
 | .take y=>.lock y
 | .give y=>.lock y
 | .get _ y=>.read y
 | .wait y _=>.read y
 | .put y _=>.write y
 | .add y _=>.add y
 |_=>.no
def apa(r s:Tch):Bool:=!r.is || !s.is || !decide (r.nm=s.nm) || (decide (r.way=s.way)&&decide (r.way∈(["read","add"]:List Str)))
theorem Jh(a c:Tch):apa a c=apa c a:=by
 unfold apa
 by_cases h1:a.nm=c.nm
 ·by_cases h2:a.way=c.way
  ·rw[h1,h2]
   cases a.is <;> cases c.is <;> rfl
  ·rw[decide_eq_false h2,decide_eq_false (fun z:c.way=a.way=>h2 z.symm),h1]
   cases a.is <;> cases c.is <;> rfl
 ·rw[decide_eq_false h1,decide_eq_false (fun z:c.nm=a.nm=>h1 z.symm)]
  cases a.is <;> cases c.is <;> rfl
def wT:Tch->T
 | .no=>.non
 | .lock y=>.tup [.str y,.str "lock"]
 | .read y=>.tup [.str y,.str "read"]
 | .write y=>.tup [.str y,.str "write"]
 | .add y=>.tup [.str y,.str "add"]
theorem Lh{r:Tch}(h:r.is=true):wT r=.tup [.str r.nm,.str r.way]:=by cases r <;> first|rfl|cases h
theorem Ln{r s:Tch}(h1:r.is=true)(h2:s.is=true)(h:r.nm=s.nm):apa r s=(decide (r.way=s.way)&&decide (r.way∈(["read","add"]:List Str))):=by
 unfold apa
 rw[h1,h2,decide_eq_true h]
 rfl
section
variable{P:Program}{w:World}{K:PySem.W.Frag}{mg:Str->Option Value}{base:Heap}
def Iy:List T->TH->UX->Prop:=fun ts S Pp=>∃(q:Stp),ts=[q.tree]/\Pp (wT q.tch) S
theorem Rp(q:Stp):∃z rest,q.tree=.tup (.str z::rest)/\((∃i y wy,valT touchTree (.inr z)=some (.tup [.int i,.str wy])/\atI (T.str z::rest) i=some y/\wT q.tch=.tup [y,.str wy])\/(valT touchTree (.inr z)=none/\wT q.tch=.non)):=by
 cases q with
 |take y=>exact⟨_,_,rfl,.inl ⟨_,_,_,rfl,at1,rfl⟩⟩
 |give y=>exact⟨_,_,rfl,.inl ⟨_,_,_,rfl,at1,rfl⟩⟩
 |get _ _=>exact⟨_,_,rfl,.inl ⟨_,_,_,rfl,at2,rfl⟩⟩
 |add _ _=>exact⟨_,_,rfl,.inl ⟨_,_,_,rfl,at1,rfl⟩⟩
 |put _ _=>exact⟨_,_,rfl,.inl ⟨_,_,_,rfl,at1,rfl⟩⟩
 |wait _ _=>exact⟨_,_,rfl,.inl ⟨_,_,_,rfl,at1,rfl⟩⟩
 |set _ _=>exact⟨_,_,rfl,.inr ⟨rfl,rfl⟩⟩
 |check _=>exact⟨_,_,rfl,.inr ⟨rfl,rfl⟩⟩
 |skip i=>exact⟨_,_,rfl,.inr ⟨rfl,rfl⟩⟩
 |unl _ _=>exact⟨_,_,rfl,.inr ⟨rfl,rfl⟩⟩
theorem N2:Zv ["step","touch"] ["step"] (Zb (top 12)):=⟨rfl,rfl,rfl,by decide +kernel,rfl,by decide +kernel,by decide +kernel⟩
theorem touched(N:Nm P w K mg)(d:Aa K mg "touched" ["step"] (top 12)):Has P w K mg base 1 "touched" ["step"] Iy:=by
 have sc:=N2
 refine Ag (k:=0) d sc (fun ts S Pp h=>?_) fun cdv f A outer s H E hr=>?_
 ·obtain⟨q,rfl,_⟩:=h;rfl
 refine⟨_,(Zs (Zt 1 sc.nd (Rv rfl N.TOUCHES (Zx (uv 0) Zi) ⟨rfl,rfl,rfl,rfl⟩))
   (Zs (Ac (Cb (uv 1) As) (Zo (Zr As)) Ze)
   (Zo (Zr (Zu (Zc (Zx (uv 0) (Zx (uv 1) Zi)) (Zc (Zx (uv 1) Zi) Zn))))))),fun ts S Pp h=>?_⟩
 obtain⟨q,rfl,h⟩:=h
 have o2:2<=sizeLine:=by decide
 obtain⟨z,rest,eq,qq⟩:=Rp q
 rw[eq]
 rcases qq with⟨i,y,wy,e,ey,er⟩|⟨e,er⟩
 ·rw[er] at h
  refine Zj (fun env S'=>env=[some (.tup (.str z::rest)),some (.tup [.int i,.str wy])]/\S=S') (fun k hk=>⟨_,at0,?_⟩) ?_
  ·show k ([some (T.tup (.str z::rest)),none].set 1 (some ((valT touchTree (.inr z)).getD .non))) S
   rw[e]
   exact hk _ _ ⟨rfl,rfl⟩
  rintro _ _ ⟨rfl,rfl⟩
  refine Zj (fun env S'=>env=[some (.tup (.str z::rest)),some (.tup [.int i,.str wy])]/\S=S') (fun k hk=>⟨fun e=>(by cases e),fun _=>hk _ _ ⟨rfl,rfl⟩⟩) ?_
  rintro _ _ ⟨rfl,rfl⟩
  exact⟨_,at0,_,ey,_,at1,o2,h⟩
 ·rw[er] at h
  refine Zj (fun env S'=>env=[some (.tup (.str z::rest)),some .non]/\S=S') (fun k hk=>⟨_,at0,?_⟩) ?_
  ·show k ([some (T.tup (.str z::rest)),none].set 1 (some ((valT touchTree (.inr z)).getD .non))) S
   rw[e]
   exact hk _ _ ⟨rfl,rfl⟩
  rintro _ _ ⟨rfl,rfl⟩
  refine Zj (fun _ _=>False) (fun k hk=>⟨fun _=>h,fun e=>(by cases e)⟩) ?_
  exact fun _ _ z=>z.elim
def Ov:List T->TH->UX->Prop:=fun ts S Pp=>∃(q q2:Stp),ts=[q.tree,q2.tree]/\Pp (.bl (apa q.tch q2.tch)) S
theorem Vh:Zv ["step","other","mine","theirs"] ["step","other"] (Zb (top 13)):=⟨rfl,rfl,rfl,by decide +kernel,rfl,by decide +kernel,by decide +kernel⟩
theorem Tch.no_of{r:Tch}(h:r.is=false):r=.no:=by cases r <;> first|rfl|cases h
theorem P4{r s:Tch}(h:r.is=false):apa r s=true:=by unfold apa;rw[h];rfl
theorem R5{r s:Tch}(h:s.is=false):apa r s=true:=by rw[Jh];exact P4 h
theorem Pw{r s:Tch}(h:¬ r.nm=s.nm):apa r s=true:=by
 unfold apa
 rw[decide_eq_false h]
 cases r.is <;> cases s.is <;> rfl
theorem apart{m:Nat}(N:Nm P w K mg)(d:Aa K mg "apart" ["step","other"] (top 13))(c_touched:Has P w K mg base m "touched" ["step"] Iy):Has P w K mg base (m+1) "apart" ["step","other"] Ov:=by
 have sc:=Vh
 refine Ag (k:=m) d sc (fun ts S Pp h=>?_) fun cdv f A outer s H E hr=>?_
 ·obtain⟨_,_,rfl,_⟩:=h;rfl
 have hu0:=Ao hr
 refine⟨_,(Zs (Zt 2 sc.nd (Zf c_touched hr rfl (Zc (uv 0) Zn)))
   (Zs (Zt 3 sc.nd (Zf c_touched hr rfl (Zc (uv 1) Zn)))
   (Zs (Ac (UW.ut (Ck (Cb (uv 2) As) (Ck (Cb (uv 3) As) (Xs (Bs hu0 (Zx (uv 2) Zi) (Zx (uv 3) Zi)))))) (Zo (Zr B4)) Ze)
   (Zo (Zr (Jp (Df hu0 (Zx (uv 2) Zi) (Zx (uv 3) Zi)) (J0 (Vw (Zx (uv 2) Zi) (U3 rfl N.SHARED_WAYS))))))))),fun ts S Pp h=>?_⟩
 obtain⟨q,q2,rfl,h⟩:=h
 generalize er0:q.tch=r at h
 generalize es0:q2.tch=s at h
 refine Zj (fun env S'=>env=[some q.tree,some q2.tree,some (wT r),none]/\S=S') (fun k hk=>⟨q,rfl,by rw[er0];exact hk _ _ ⟨rfl,rfl⟩⟩) ?_
 rintro _ _ ⟨rfl,rfl⟩
 refine Zj (fun env S'=>env=[some q.tree,some q2.tree,some (wT r),some (wT s)]/\S=S') (fun k hk=>⟨q2,rfl,by rw[es0];exact hk _ _ ⟨rfl,rfl⟩⟩) ?_
 rintro _ _ ⟨rfl,rfl⟩
 cases er:r.is with
 |false =>
  rw[P4 er] at h
  cases Tch.no_of er
  exact Zj (fun _ _=>False) (fun k hk=>Cv (fun _ h=>h) ⟨fun _=>h,fun e=>(by cases e)⟩) fun _ _ z=>z.elim
 |true =>
  rw[Lh er]
  cases es:s.is with
  |false =>
   rw[R5 es] at h
   cases Tch.no_of es
   exact Zj (fun _ _=>False) (fun k hk=>Bd (fun _ h=>h) (Cv (fun _ h=>h) ⟨fun _=>h,fun e=>(by cases e)⟩)) fun _ _ z=>z.elim
  |true =>
   rw[Lh es]
   refine Zj (fun env S'=>env=[some q.tree,some q2.tree,some (.tup [.str r.nm,.str r.way]),some (.tup [.str s.nm,.str s.way])]/\S=S'/\r.nm=s.nm) (fun k hk=>Bd (fun _ h=>h) (Bd (fun _ h=>h) ⟨_,at0,_,at0,fun e=>?_,fun e=>?_⟩)) ?_
   ·have ne:¬ r.nm=s.nm:=fun z=>by simp[z] at e
    rw[Pw ne] at h
    exact h
   ·refine hk _ _ ⟨rfl,rfl,?_⟩
    by_cases z:r.nm=s.nm
    ·exact z
    ·simp[z] at e
   rintro _ _ ⟨rfl,rfl,en⟩
   rw[Ln er es en] at h
   refine⟨_,at1,_,at1,fun e=>⟨_,at1,["read","add"],rfl,?_⟩,fun e=>?_⟩
   ·have e1:decide (r.way=s.way)=true:=by simpa using e
    rw[e1,Bool.true_and] at h
    exact h
   ·have e1:decide (r.way=s.way)=false:=by simpa using e
    rw[e1,Bool.false_and] at h
    exact h
end
end K52
end
section
namespace K52
open PySem PySem.Spec PyProof.Rows L2 TL
seal UE UT UA US USs UI UG UO UW PTs Aq Ax
def left(L:Lm)(s:Sta)(w:Nat):List T:=if 0<=(s.at w).1 then (L.pr w).2.2.drop (s.at w).1.toNat else []
theorem M2{L:Lm}{s:Sta}{w:Nat}(e:L.nx s w=none):left L s w=[]:=by
 have hn:=G5 e
 unfold left
 split
 ·next h0=>exact List.drop_of_length_le (by omega)
 ·rfl
theorem Ri{L:Lm}{s:Sta}{w:Nat}(V:L.V)(h:w<L.ws.length):(left L s w).length<=30:=by
 have:=(pr_pv V h).short
 unfold left
 split
 ·rw[List.length_drop];omega
 ·exact Nat.zero_le _
theorem Ii{L:Lm}{s:Sta}{w:Nat}(V:L.V)(h:w<L.ws.length){t:T}(ht:t∈left L s w):t=(toStp t).tree:=by
 unfold left at ht
 split at ht
 ·have ht:=List.mem_of_mem_drop ht
  obtain⟨k,e⟩:=List.mem_iff_getElem?.mp ht
  obtain⟨q,rfl,_⟩:=((pr_pv V h).steps k t e).stp
  rw[Fn]
 ·cases ht
def med(L:Lm)(s:Sta)(o w:Nat):Bool:=match L.nx s w with
 |none=>false
 |some q=>(left L s o).any fun t=>!apa q.tch (toStp t).tch
def keyM(s:Sta)(o w:Nat):List Key:=[.inl (o:Int),.inl (s.at o).1,.inl (w:Int),.inl (s.at w).1]
theorem O7{s:Sta}{o w o' w':Nat}(h:keyM s o w=keyM s o' w'):o=o'/\w=w':=by
 unfold keyM at h
 simp only[List.cons.injEq,Sum.inl.injEq] at h
 omega
theorem Iq{kts:List (List Key×T)}{k k':List Key}{t:T}:valQ (Hq kts k t) k'=if k=k' then some t else valQ kts k':=by
 have go:∀kts:List (List Key×T),(kts.any fun kv=>decide (kv.1=k))=true->valQ (kts.map fun kv=>if kv.1=k then (kv.1,t) else kv) k'=if k=k' then some t else valQ kts k':=by
  intro kts
  induction kts with
  |nil=>intro h;cases h
  |cons x r ih =>
   intro h
   unfold valQ at ih ⊢
   rw[List.map_cons,List.find?_cons,List.find?_cons]
   by_cases e:x.1=k
   ·rw[if_pos e]
    by_cases e':k=k'
    ·rw[if_pos e',decide_eq_true (show x.1=k' from e.trans e')];rfl
    ·rw[if_neg e',decide_eq_false (fun z:x.1=k'=>e' (e.symm.trans z))]
     dsimp only
     by_cases ha:(r.any fun kv=>decide (kv.1=k))=true
     ·rw[ih ha,if_neg e']
     ·have em:(r.map fun kv=>if kv.1=k then (kv.1,t) else kv)=r:=by
       conv=>rhs;rw[<-List.map_id r]
       refine List.map_congr_left fun y hy=>?_
       have hn:¬ y.1=k:=fun z=>ha (List.any_eq_true.mpr ⟨y,hy,decide_eq_true z⟩)
       rw[if_neg hn];rfl
      rw[em]
   ·rw[if_neg e]
    have ha:(r.any fun kv=>decide (kv.1=k))=true:=by
     rw[List.any_cons,decide_eq_false e,Bool.false_or] at h;exact h
    by_cases e2:x.1=k'
    ·have e':¬ k=k':=fun z=>e (e2.trans z.symm)
     rw[if_neg e',decide_eq_true e2]
    ·rw[decide_eq_false e2]
     exact ih ha
 unfold Hq
 by_cases ha:(kts.any fun kv=>decide (kv.1=k))=true
 ·rw[if_pos ha];exact go kts ha
 ·rw[if_neg ha]
  unfold valQ
  rw[List.find?_append]
  by_cases e:k=k'
  ·rw[if_pos e]
   have:kts.find? (fun kv=>decide (kv.1=k'))=none:=List.find?_eq_none.mpr fun y hy z=>ha (List.any_eq_true.mpr ⟨y,hy,by rw[e];exact z⟩)
   rw[this]
   simp[e]
  ·rw[if_neg e]
   cases kts.find? (fun kv=>decide (kv.1=k')) with
   |none=>simp[e]
   |some _=>rfl
theorem Qx{kts:List (List Key×T)}{k:List Key}{t:T}:(Hq kts k t).length<=kts.length+1:=by
 unfold Hq
 split
 ·rw[List.length_map];omega
 ·rw[List.length_append];exact Nat.le_refl _
structure Mem(L:Lm)(s:Sta)(n:Nat)(kts:List (List Key×T)):Prop where
 few:kts.length<=n
 ok:∀o w t,valQ kts (keyM s o w)=some t->t=.bl (med L s o w)
theorem Mem.put{L:Lm}{s:Sta}{n:Nat}{kts:List (List Key×T)}(m:Mem L s n kts)(o w:Nat):Mem L s (n+1) (Hq kts (keyM s o w) (.bl (med L s o w))) where
 few:=by have:=m.few;have:=Qx (kts:=kts) (k:=keyM s o w) (t:=.bl (med L s o w));omega
 ok:=fun o' w' t h=>by
  rw[Iq] at h
  by_cases e:keyM s o w=keyM s o' w'
  ·rw[if_pos e] at h
   obtain⟨rfl,rfl⟩:=O7 e
   exact(Option.some.inj h).symm
  ·rw[if_neg e] at h
   exact m.ok o' w' t h
def lvF(L:Lm)(p d:Addr):List (Str×T):=[("machine",.ref p),("everyone",.lst (Db (L.ws.map T.int).length)),("meddlings",.ref d)]
structure Lv(mg:Str->Option Value)(L:Lm)(s:Sta)(n:Nat)(S:TH)(q p d:Addr)(kts:List (List Key×T)):Prop where
 me:S q=some (.ins (cAt mg "Leaver") (lvF L p d))
 aw:Aw mg L S p
 at':S d=some (.dtt kts)
 mem:Mem L s n kts
def Ks(S S':TH):Prop:=∀b c,S b=some c->(∀kts,c≠.dtt kts)->S' b=some c
theorem Ks.refl{S:TH}:Ks S S:=fun _ _ h _=>h
theorem Ks.trans{S S1 S2:TH}(x:Ks S S1)(y:Ks S1 S2):Ks S S2:=fun b c h n=>y b c (x b c h n) n
theorem Ks.new{S:TH}{p:Addr}{c:Cell}(h:S p=none):Ks S (updT S p c):=fun b d e _=>by rw[Ab (fun z=>by rw[z,h] at e;cases e)];exact e
theorem Ks.dict{S:TH}{p:Addr}{k k':List (List Key×T)}(h:S p=some (.dtt k)):Ks S (updT S p (.dtt k')):=fun b d e n=>by rw[Ab (fun z=>by rw[z,h] at e;cases e;exact n _ rfl)];exact e
theorem Ks.aw{mg:Str->Option Value}{L:Lm}{S S':TH}{p:Addr}(k:Ks S S')(h:Aw mg L S p):Aw mg L S' p:=⟨k _ _ h.me (fun _ z=>by cases z),h.v⟩
theorem Mem.mono{L:Lm}{s:Sta}{n m:Nat}{kts:List (List Key×T)}(h:Mem L s n kts)(hm:n<=m):Mem L s m kts:=⟨Nat.le_trans h.few hm,h.ok⟩
section
variable{P:Program}{w:World}{K:PySem.W.Frag}{mg:Str->Option Value}{base:Heap}
def Pi(mg:Str->Option Value):List T->TH->UX->Prop:=fun ts S Pp=>∃L q,ts=[.ref q,Lm.tree L]/\S q=some (.ins (cAt mg "Leaver") [])/\L.V/\∀p d S',(∀s,Lv mg L s 0 S' q p d [])->(∀b c,b≠q->S b=some c->S' b=some c)->Pp .non S'
theorem Vd:Zv ["self","loom"] ["self","loom"] (Zb (Ah (top 23) 0)):=⟨rfl,rfl,rfl,by decide +kernel,rfl,by decide +kernel,by decide +kernel⟩
theorem initL{m:Nat}(N:Nm P w K mg)(d:C6 K mg (cAt mg "Leaver") "Leaver" "Leaver.__init__" ["self","loom"] (Ah (top 23) 0))(c_i_Machine:HasI P w K mg base m (cAt mg "Machine") "Machine" ["self","loom"] (Vx mg)):HasI P w K mg base (m+2) (cAt mg "Leaver") "Leaver" ["self","loom"] (Pi mg):=by
 have sc:=Vd
 refine L7 (k:=m+1) d sc (fun ts S Pp h=>?_) fun cdv f A outer s H E hr=>?_
 ·obtain⟨_,_,rfl,_⟩:=h;rfl
 have hr1:=hr
 have hr:=hr.mono (Nat.le_succ m)
 refine⟨_,(Zs (Cd (uv 0) (Ly c_i_Machine hr1 rfl (Zc (uv 1) Zn)))
   (Zs (Cd (uv 0) (Qk rfl rfl N.list rfl N.range (Zc (Zl rfl N.len (Zc (Zx (uv 1) Zi) Zn)) Zn)))
   (Zo (Cd (uv 0) Mm)))),fun ts S Pp h=>?_⟩
 obtain⟨L,q,rfl,h0,V,h⟩:=h
 have l6:=V.w6
 intro p hp
 have np:q≠p:=fun z=>by rw[<-z,h0] at hp;cases hp
 refine⟨L,p,rfl,Zd,V,rfl,cAt mg "Leaver",[],?_,N.Leaver_cls,N.Leaver_no_machine,by decide,_,at4,_,rfl,by rw[List.length_map];omega,_,_,Zd,N.Leaver_cls,N.Leaver_no_everyone,?_,?_⟩
 ·rw[Ab np,Ab np];exact h0
 ·exact Nat.lt_of_le_of_lt (show _<=1 from Nat.le_refl _) (by decide)
 intro d hd
 have nq:q≠d:=fun z=>by rw[<-z,Zd] at hd;cases hd
 have npd:p≠d:=fun z=>by rw[<-z,Ab np.symm,Ab np.symm,Zd] at hd;cases hd
 refine⟨_,_,by rw[Ab nq];exact Zd,N.Leaver_cls,N.Leaver_no_meddlings,?_,?_⟩
 ·exact Nat.lt_of_le_of_lt (show _<=2 from Nat.le_refl _) (by decide)
 ·refine h p d _ (fun s=>⟨Zd,⟨?_,V⟩,by rw[Ab nq.symm];exact Zd,⟨Nat.zero_le _,fun _ _ _ z=>by cases z⟩⟩) fun b c hb e=>?_
  ·rw[Ab np.symm,Ab npd,Ab np.symm,Ab np.symm,Zd]
  ·have nb:b≠p:=fun z=>by rw[z,hp] at e;cases e
   have nb2:b≠d:=fun z=>by rw[<-z,Ab hb,Ab hb,Ab nb,Ab nb,e] at hd;cases hd
   rw[Ab hb,Ab nb2,Ab hb,Ab hb,Ab nb,Ab nb]
   exact e
abbrev cLs(mg:Str->Option Value)(r:Lm->Sta->Nat->T):List T->TH->UX->Prop:=fun ts S Pp=>∃L q p d kts s n w,ts=[.ref q,Sta.tree s,.int ((w:Nat):Int)]/\Lv mg L s n S q p d kts/\SV L s/\w<L.ws.length/\Pp (r L s w) S
def V5(mg:Str->Option Value):=cLs mg fun L s w=>.lst (left L s w)
theorem Yi:Zv ["self","state","worker","place"] ["self","state","worker"] (Zb (Ah (top 23) 1)):=⟨rfl,rfl,rfl,by decide +kernel,rfl,by decide +kernel,by decide +kernel⟩
theorem steps_left{m:Nat}(N:Nm P w K mg)(d:Af K (cAt mg "Leaver") "steps_left" "Leaver.steps_left" ["self","state","worker"] (Ah (top 23) 1))(c_m_next_step:HasM P w K mg base m (cAt mg "Machine") "next_step" ["self","state","worker"] (cNx mg)):HasM P w K mg base (m+1) (cAt mg "Leaver") "steps_left" ["self","state","worker"] (V5 mg):=by
 have sc:=Yi
 refine Ay (k:=m) d sc (fun ts S Pp h=>?_) fun cdv f A outer s H E hr=>?_
 ·obtain⟨_,_,_,_,_,_,_,_,rfl,_⟩:=h;rfl
 refine⟨_,(Zs (Ac (Cb (Zm c_m_next_step hr (Az (uv 0)) (Zc (uv 1) (Zc (uv 2) Zn))) As) (Zo (Zr (Ad Zn))) Ze)
   (Zs (Zt 3 sc.nd (Zx (Zx (Zx (uv 1) Zi) (uv 2)) Zi))
   (Zo (Zr (K2 rfl N.list (Zc (Sj (Zx (Zx (Az (Az (uv 0))) (uv 2)) Zi) (A7 (uv 3)) Cc) Zn)))))),fun ts S Pp h=>?_⟩
 obtain⟨L,q,p,d,kts,s,n,w,rfl,lv,sv,hw,h⟩:=h
 have aw:=lv.aw
 dsimp only at h
 refine⟨_,_,_,lv.me,N.Leaver_cls,N.Leaver_no_machine,rfl,L.fs,aw.me,rfl,L,p,s,w,rfl,⟨aw,sv,hw⟩,trivial,?_⟩
 dsimp only
 cases e:L.nx s w with
 |none =>
  rw[M2 e] at h
  exact⟨fun _=>⟨show 0<=sizeLine by decide,h⟩,fun z=>(by cases z)⟩
 |some st =>
  rw[Bl]
  obtain⟨h0,g,ok⟩:=C2 aw.v hw e
  have hl:(s.at w).1.toNat<(L.pr w).2.2.length:=(List.getElem?_eq_some_iff.mp g).1
  refine⟨fun z=>(by cases z),fun _=>⟨_,at2,_,Cu sv hw,_,at0,_,_,_,lv.me,N.Leaver_cls,N.Leaver_no_machine,rfl,_,_,_,aw.me,N.Machine_cls,N.Machine_no_programs,rfl,_,Ro hw,_,at2,?_⟩⟩
  have ec:cutA (L.pr w).2.2 (some (s.at w).1) none=left L s w:=by
   unfold left
   rw[if_pos h0]
   have q:=Ie (zs:=(L.pr w).2.2) (n:=(s.at w).1.toNat) (by omega)
   rw[Int.toNat_of_nonneg h0] at q
   exact q
  show Pp (.lst (cutA (L.pr w).2.2 (some (s.at w).1) none)) S
  rw[ec]
  exact h
abbrev cLs2(mg:Str->Option Value)(r:Lm->Sta->Nat->Nat->T):List T->TH->UX->Prop:=fun ts S Pp=>∃L q p d kts s n o w,ts=[.ref q,Sta.tree s,.int ((o:Nat):Int),.int ((w:Nat):Int)]/\Lv mg L s n S q p d kts/\SV L s/\o<L.ws.length/\w<L.ws.length/\Pp (r L s o w) S
def Rf(mg:Str->Option Value):=cLs2 mg fun L s o w=>.bl (med L s o w)
theorem Tz:Zv ["self","state","other","worker","step"] ["self","state","other","worker"] (Zb (Ah (top 23) 3)):=⟨rfl,rfl,rfl,by decide +kernel,rfl,by decide +kernel,by decide +kernel⟩
theorem finds_meddling{m:Nat}(N:Nm P w K mg)(d:Af K (cAt mg "Leaver") "finds_meddling" "Leaver.finds_meddling" ["self","state","other","worker"] (Ah (top 23) 3))(c_m_next_step:HasM P w K mg base m (cAt mg "Machine") "next_step" ["self","state","worker"] (cNx mg))(c_m_steps_left:HasM P w K mg base m (cAt mg "Leaver") "steps_left" ["self","state","worker"] (V5 mg))(c_apart:Has P w K mg base m "apart" ["step","other"] Ov):HasM P w K mg base (m+1) (cAt mg "Leaver") "finds_meddling" ["self","state","other","worker"] (Rf mg):=by
 have sc:=Tz
 refine Ay (k:=m) d sc (fun ts S Pp h=>?_) fun cdv f A outer s H E hr=>?_
 ·obtain⟨_,_,_,_,_,_,_,_,_,rfl,_⟩:=h;rfl
 refine⟨_,(Zs (Zt 4 sc.nd (Zm c_m_next_step hr (Az (uv 0)) (Zc (uv 1) (Zc (uv 3) Zn))))
   (Zs (Ac (Cb (uv 4) As) (Zo (Zr B4)) Ze)
   (Zo (Zr (Qj rfl rfl N.any (Zc (Xg 0 ["left","step"] [none,some 4] rfl (Xu (Zm c_m_steps_left hr (uv 0) (Zc (uv 1) (Zc (uv 2) Zn)))) (fun _ _ _ _ _=>Al) (fun _ _ _ _ _=>(Wt (Zf c_apart hr rfl (Zc (uv 1) (Zc (uv 0) Zn)))))) Zn)))))),fun ts S Pp h=>?_⟩
 obtain⟨L,q,p,d,kts,s,n,o,w,rfl,lv,sv,ho,hw,h⟩:=h
 have aw:=lv.aw
 dsimp only at h
 refine⟨_,_,_,lv.me,N.Leaver_cls,N.Leaver_no_machine,rfl,L.fs,aw.me,rfl,L,p,s,w,rfl,⟨aw,sv,hw⟩,trivial,?_⟩
 dsimp only
 unfold med at h
 cases e:L.nx s w with
 |none =>
  rw[e] at h
  exact⟨fun _=>h,fun z=>(by cases z)⟩
 |some st =>
  rw[e] at h
  rw[Bl]
  refine⟨fun z=>(by cases z),fun _=>?_⟩
  refine A1 (left L s o) id (fun t=>.bl (!apa st.tch (toStp t).tch)) (fun k hk=>⟨_,lv.me,rfl,L,q,p,d,kts,s,n,o,rfl,lv,sv,ho,by rw[List.map_id] at hk;exact hk⟩) (Xp (by have:=Ri (s:=s) aw.v ho;omega)) (fun t ht A B hA=>⟨fun _=>⟨st,toStp t,?_,hA⟩,fun z=>(by cases z)⟩) ⟨(left L s o).map fun t=>!apa st.tch (toStp t).tch,by rw[List.map_map];rfl,?_⟩
  ·rw[<-Ii aw.v ho ht,<-Stp.head];rfl
  ·rw[List.any_map];exact h
end
end K52
end
section
namespace K52
open PySem PySem.Spec PyProof.Rows L2 TL
seal UE UT UA US USs UI UG UO UW PTs Aq Ax Cj D0
theorem Lv.ks{mg:Str->Option Value}{L:Lm}{s:Sta}{n n':Nat}{S S':TH}{q p d:Addr}{kts kts':List (List Key×T)}(lv:Lv mg L s n S q p d kts)(k:Ks S S')(hd:S' d=some (.dtt kts'))(m:Mem L s n' kts'):Lv mg L s n' S' q p d kts':=⟨k _ _ lv.me (fun _ z=>by cases z),k.aw lv.aw,hd,m⟩
theorem Lv.mono{mg:Str->Option Value}{L:Lm}{s:Sta}{n n':Nat}{S:TH}{q p d:Addr}{kts:List (List Key×T)}(lv:Lv mg L s n S q p d kts)(h:n<=n'):Lv mg L s n' S q p d kts:=⟨lv.me,lv.aw,lv.at',lv.mem.mono h⟩
theorem Sw{n:Nat}(h:n<=10000):n<sizeLine:=Nat.lt_of_le_of_lt h (by decide)
theorem D2{S:TH}{r:Addr}{ts:List T}(h:S r=some (.lst ts)):sqT (cv S (.ref r))=some (true,ts):=by rw[Jy h];rfl
theorem Dv(ws:List Nat)(k:Nat):((nats ws).any fun z=>teq 0 z (.int (k:Int)))=decide (k∈ws):=by
 rw[Bool.eq_iff_iff,List.any_eq_true,decide_eq_true_iff]
 constructor
 ·rintro⟨z,hz,e⟩
  obtain⟨j,hj,rfl⟩:=List.mem_map.mp hz
  have e:=X0 (DatN.int _) (DatN.int _) e
  have:(j:Int)=k:=T.int.inj e
  have:j=k:=by omega
  exact this ▸ hj
 ·intro h
  exact⟨.int k,List.mem_map.mpr ⟨k,h,rfl⟩,Im (DatN.int _).q⟩
theorem Bq(ws:List Nat):∀z∈nats ws,DatQ 0 z:=fun z hz=>by
 obtain⟨j,hj,rfl⟩:=List.mem_map.mp hz
 exact(DatN.int _).q
theorem Fx(f:Nat->Bool)(ws:List Nat):(nats ws).filterMap (Cq f)=nats (ws.filter f):=by
 induction ws with
 |nil=>rfl
 |cons w r ih =>
  show (T.int (w:Int)::nats r).filterMap (Cq f)=_
  rw[List.filterMap_cons,List.filter_cons]
  have e:Cq f (.int (w:Int))=if f w then some (.int (w:Int)) else none:=by show (if f (w:Int).toNat then _ else _)=_;rw[Int.toNat_natCast]
  rw[e,ih]
  cases f w <;> rfl
section
variable{P:Program}{w:World}{K:PySem.W.Frag}{mg:Str->Option Value}{base:Heap}
def cMay(mg:Str->Option Value):List T->TH->UX->Prop:=fun ts S Pp=>∃L q p d kts s n o w,ts=[.ref q,Sta.tree s,.int ((o:Nat):Int),.int ((w:Nat):Int)]/\Lv mg L s n S q p d kts/\SV L s/\o<L.ws.length/\w<L.ws.length/\n<=10000/\∀S' kts',Lv mg L s (n+1) S' q p d kts'->Ks S S'->Pp (.bl (med L s o w)) S'
theorem scMay:Zv ["self","state","other","worker","key"] ["self","state","other","worker"] (Zb (Ah (top 23) 2)):=⟨rfl,rfl,rfl,by decide +kernel,rfl,by decide +kernel,by decide +kernel⟩
theorem may_meddle{m:Nat}(N:Nm P w K mg)(d:Af K (cAt mg "Leaver") "may_meddle" "Leaver.may_meddle" ["self","state","other","worker"] (Ah (top 23) 2))(c_m_finds_meddling:HasM P w K mg base m (cAt mg "Leaver") "finds_meddling" ["self","state","other","worker"] (Rf mg)):HasM P w K mg base (m+1) (cAt mg "Leaver") "may_meddle" ["self","state","other","worker"] (cMay mg):=by
 have sc:=scMay
 refine Ay (k:=m) d sc (fun ts S Pp h=>?_) fun cdv f A outer s H E hr=>?_
 ·obtain⟨_,_,_,_,_,_,_,_,_,rfl,_⟩:=h;rfl
 have hu1:=Ss hr
 refine⟨_,(Zs (Zt 4 sc.nd (T4 (Zc (uv 2) (Zc (Zx (Zx (Zx (uv 1) Zi) (uv 2)) Zi) (Zc (uv 3) (Zc (Zx (Zx (Zx (uv 1) Zi) (uv 3)) Zi) Zn))))))
   (Zs (Ac (Jx hu1 (uv 4) (Az (uv 0))) (Zo (Uv hu1 (Zm c_m_finds_meddling hr (uv 0) (Zc (uv 1) (Zc (uv 2) (Zc (uv 3) Zn)))) (Az (uv 0)) (uv 4))) Ze)
   (Zo (Zr (Y9 hu1 (Az (uv 0)) (uv 4)))))),fun ts S Pp h=>?_⟩
 obtain⟨L,q,p,d,kts,s,n,o,w,rfl,lv,sv,ho,hw,hn,h⟩:=h
 refine Zj (fun env S1=>∃r,env=[some (.ref q),some s.tree,some (.int (o:Int)),some (.int (w:Int)),some (.ref r)]/\S r=none/\S1=updT S r (.tpl ((keyM s o w).map kT))) (fun k hk=>⟨_,at2,_,Cu sv ho,_,at0,_,at2,_,Cu sv hw,_,at0,show 4<=sizeLine by decide,fun r hr'=>hk _ _ ⟨r,rfl,hr',rfl⟩⟩) ?_
 rintro _ _ ⟨r,rfl,hr',rfl⟩
 have nd:d≠r:=fun z=>by rw[<-z,lv.at'] at hr';cases hr'
 have k1:Ks S (updT S r (.tpl ((keyM s o w).map kT))):=Ks.new hr'
 have hd1:updT S r (.tpl ((keyM s o w).map kT)) d=some (.dtt kts):=by rw[Ab nd];exact lv.at'
 have lv1:=lv.ks k1 hd1 lv.mem
 have e1:updT S r (.tpl ((keyM s o w).map kT)) r=some (.tpl ((keyM s o w).map kT)):=Zd
 generalize updT S r (.tpl ((keyM s o w).map kT))=S1 at k1 hd1 lv1 e1
 refine Zj (fun env S2=>∃kts',env=[some (.ref q),some s.tree,some (.int (o:Int)),some (.int (w:Int)),some (.ref r)]/\Lv mg L s (n+1) S2 q p d kts'/\Ks S S2/\S2 r=some (.tpl ((keyM s o w).map kT))/\valQ kts' (keyM s o w)=some (.bl (med L s o w))) (fun k hk=>⟨_,_,_,lv1.me,N.Leaver_cls,N.Leaver_no_meddlings,rfl,d,r,kts,keyM s o w,rfl,rfl,hd1,e1,?_⟩) ?_
 ·cases ev:valQ kts (keyM s o w) with
  |some t =>
   have et:=lv1.mem.ok o w t ev
   subst et
   exact⟨fun z=>(by cases z),fun _=>hk _ _ ⟨kts,rfl,lv1.mono (Nat.le_succ n),k1,e1,ev⟩⟩
  |none =>
   refine⟨fun _=>⟨_,lv1.me,rfl,L,q,p,d,kts,s,n,o,w,rfl,lv1,sv,ho,hw,_,_,_,lv1.me,N.Leaver_cls,N.Leaver_no_meddlings,rfl,d,r,kts,keyM s o w,rfl,rfl,hd1,e1,Sw (Nat.le_trans lv.mem.few hn),?_⟩,fun z=>(by cases z)⟩
   have k2:Ks S1 (updT S1 d (.dtt (Hq kts (keyM s o w) (.bl (med L s o w))))):=Ks.dict hd1
   exact hk _ _ ⟨_,rfl,lv1.ks k2 Zd (lv1.mem.put o w),k1.trans k2,by rw[Ab nd.symm];exact e1,by rw[Iq,if_pos rfl]⟩
 rintro _ S2 ⟨kts',rfl,lv2,k2,e2,ev⟩
 exact⟨_,_,_,lv2.me,N.Leaver_cls,N.Leaver_no_meddlings,rfl,d,r,kts',keyM s o w,_,rfl,rfl,lv2.at',e2,ev,h S2 kts' lv2 k2⟩
def outs(L:Lm)(ws:List Nat):List Nat:=(List.range L.ws.length).filter fun o=>!decide (o∈ws)
def meds(L:Lm)(s:Sta)(ws:List Nat):List Nat:=(outs L ws).filter fun o=>ws.any (med L s o)
theorem Ks.lst{S S':TH}{r:Addr}{ts:List T}(k:Ks S S')(h:S r=some (.lst ts)):S' r=some (.lst ts):=k _ _ h fun _ z=>by cases z
def V6(mg:Str->Option Value):List T->TH->UX->Prop:=fun ts S Pp=>∃L q p d kts s n ws r,ts=[.ref q,Sta.tree s,.ref r]/\Lv mg L s n S q p d kts/\SV L s/\S r=some (.lst (nats ws))/\(∀w∈ws,w<L.ws.length)/\ws.length<=6/\n<=9000/\∀S' kts',Lv mg L s (n+36) S' q p d kts'->Ks S S'->Pp (.lst (nats (meds L s ws))) S'
theorem Yo:Zv ["self","state","workers","others"] ["self","state","workers"] (Zb (Ah (top 23) 4)):=⟨rfl,rfl,rfl,by decide +kernel,rfl,by decide +kernel,by decide +kernel⟩
theorem meddlers{m:Nat}(N:Nm P w K mg)(d:Af K (cAt mg "Leaver") "meddlers" "Leaver.meddlers" ["self","state","workers"] (Ah (top 23) 4))(c_m_may_meddle:HasM P w K mg base m (cAt mg "Leaver") "may_meddle" ["self","state","other","worker"] (cMay mg)):HasM P w K mg base (m+1) (cAt mg "Leaver") "meddlers" ["self","state","workers"] (V6 mg):=by
 have sc:=Yo
 refine Ay (k:=m) d sc (fun ts S Pp h=>?_) fun cdv f A outer s H E hr=>?_
 ·obtain⟨_,_,_,_,_,_,_,_,_,rfl,_⟩:=h;rfl
 have hu64:=hr.units
 refine⟨_,(Zs (Ar 3 sc.nd 0 ["other","workers"] [none,some 2] rfl (Xu (Az (uv 0))) (fun _ _ _ _ _=>C5 (Ea hu64 (uv 0) (uv 1))) (fun _ _ _ _ _=>(uv 0)))
   (Zo (Zr (Oq 0 ["other","self","state","workers"] [none,some 0,some 1,some 2] rfl (Xu (uv 3)) (fun _ _ _ _ _ _=>C5 (Xe (Qj rfl rfl N.any (Zc (Ge false 0 ["worker","self","state","other"] [none,some 1,some 2,some 0] rfl (uv 3) (fun _ _ _ _ _=>Al) (fun _ _ _ _ _=>(Zm c_m_may_meddle hr (uv 1) (Zc (uv 2) (Zc (uv 3) (Zc (uv 0) Zn)))))) Zn)))) (fun _ _ _ _ _ _=>(uv 0)))))),fun ts S Pp h=>?_⟩
 obtain⟨L,q,p,d,kts,s,n,ws,r,rfl,lv,sv,er,hws,lw,hn,h⟩:=h
 have l6:=lv.aw.v.w6
 refine Zj (fun env S1=>env=[some (.ref q),some s.tree,some (.ref r),some (.lst (nats (outs L ws)))]/\S=S1) (fun k hk=>?_) ?_
 ·refine Fi (ts:=Db L.ws.length) (f:=Cq fun o=>!decide (o∈ws)) (fun k hk=>⟨_,_,_,lv.me,N.Leaver_cls,N.Leaver_no_everyone,rfl,by rw[List.length_map];exact hk⟩) (by rw[Zh];exact Xp (by omega)) (fun x hx A B hA hB=>?_) ?_
  ·obtain⟨o,ho,rfl⟩:=List.mem_map.mp hx
   refine⟨0,true,nats ws,by omega,D2 er,(DatN.int _).q,Bq ws,?_⟩
   have et:((nats ws).any fun z=>teq 0 z (cv S (.int (o:Int))))=decide (o∈ws):=Dv ws o
   rw[et]
   cases eo:decide (o∈ws) with
   |true=>exact⟨fun z=>(by cases z),fun _=>hB (by show (if !decide ((o:Int).toNat∈ws) then _ else _)=_;rw[Int.toNat_natCast,eo];rfl)⟩
   |false=>exact⟨fun _=>hA _ (by show (if !decide ((o:Int).toNat∈ws) then _ else _)=_;rw[Int.toNat_natCast,eo];rfl),fun z=>(by cases z)⟩
  ·rw[Ec]
   exact hk _ _ ⟨rfl,rfl⟩
 rintro _ _ ⟨rfl,rfl⟩
 have lo:(outs L ws).length<=6:=by
  have:=List.length_filter_le (fun o=>!decide (o∈ws)) (List.range L.ws.length)
  rw[List.length_range] at this
  unfold outs
  omega
 have eo:∀o∈outs L ws,o<L.ws.length:=fun o h=>List.mem_range.mp (List.mem_filter.mp h).1
 refine B6 (nats (outs L ws)) (fun k acc S1=>∃kts',Lv mg L s (n+k * 6) S1 q p d kts'/\Ks S S1/\acc=nats (((outs L ws).take k).filter fun o=>ws.any (med L s o))) (fun k hk=>hk) (Xp (by unfold nats;rw[List.length_map];omega)) ⟨kts,lv.mono (by omega),Ks.refl,rfl⟩ ?_ ?_
 ·rintro k x acc S1 ek ⟨kts1,lv1,k1,rfl⟩
  unfold nats at ek
  rw[List.getElem?_map] at ek
  cases ex:(outs L ws)[k]? with
  |none=>rw[ex] at ek;cases ek
  |some o =>
   rw[ex] at ek
   cases ek
   have hk6:k<6:=Nat.lt_of_lt_of_le (List.getElem?_eq_some_iff.mp ex).1 lo
   have ho:=eo o (List.mem_of_getElem? ex)
   have et:((outs L ws).take (k+1)).filter (fun o=>ws.any (med L s o))=((outs L ws).take k).filter (fun o=>ws.any (med L s o))++[o].filter (fun o=>ws.any (med L s o)):=by
    rw[List.take_add_one,ex,List.filter_append];rfl
   refine N4 (nats ws) (fun j acc S2=>∃kts',Lv mg L s (n+k * 6+j) S2 q p d kts'/\Ks S S2/\acc=(ws.take j).map fun w=>T.bl (med L s o w)) (fun k hk=>hk) (k1.lst er) (Xp (by unfold nats;rw[List.length_map];omega)) ⟨kts1,lv1,k1,rfl⟩ (fun _ _ S2 ⟨_,_,k2,_⟩=>k2.lst er) ?_ ?_
   ·rintro j x acc S2 ej ⟨kts2,lv2,k2,rfl⟩
    unfold nats at ej
    rw[List.getElem?_map] at ej
    cases ew:ws[j]? with
    |none=>rw[ew] at ej;cases ej
    |some w =>
     rw[ew] at ej
     cases ej
     have hj:j<6:=Nat.lt_of_lt_of_le (List.getElem?_eq_some_iff.mp ew).1 lw
     refine⟨fun _=>⟨_,lv2.me,rfl,L,q,p,d,kts2,s,n+k * 6+j,o,w,rfl,lv2,sv,ho,hws w (List.mem_of_getElem? ew),by omega,fun S3 kts3 lv3 k3=>⟨kts3,lv3,k2.trans k3,?_⟩⟩,fun z=>(by cases z)⟩
     rw[List.take_add_one,ew,List.map_append];rfl
   ·rintro acc S2 ⟨kts2,lv2,k2,rfl⟩
    refine⟨fun z=>(by cases z),fun _=>?_⟩
    have el:(nats ws).length=ws.length:=List.length_map _
    rw[el,List.take_length]
    refine⟨ws.map (med L s o),by rw[List.map_map];rfl,?_⟩
    have lv3:Lv mg L s (n+(k+1) * 6) S2 q p d kts2:=by rw[el] at lv2;exact lv2.mono (by omega)
    rw[List.any_map]
    refine⟨fun e=>⟨kts2,lv3,k2,?_⟩,fun e=>⟨kts2,lv3,k2,?_⟩⟩
    ·have e:ws.any (med L s o)=true:=e
     rw[et,List.filter_cons,if_pos e]
     unfold nats
     rw[List.map_append];rfl
    ·have e:ws.any (med L s o)=false:=e
     rw[et,List.filter_cons,if_neg (by rw[e];exact Bool.false_ne_true),List.filter_nil,List.append_nil]
 ·rintro acc S1 ⟨kts1,lv1,k1,rfl⟩
  have el:(nats (outs L ws)).length=(outs L ws).length:=List.length_map _
  rw[el] at lv1 ⊢
  rw[List.take_length]
  exact h S1 kts1 (lv1.mono (by omega)) k1
end
end K52
end
section
namespace K52
open PySem PySem.Spec PyProof.Rows L2 TL
seal UE UT UA US USs UI UG UO UW PTs Aq Ax uOr Hs
def lT:Tch->T
 | .no=>.non
 | .lock y=>.lst [.str y,.str "lock"]
 | .read y=>.lst [.str y,.str "read"]
 | .write y=>.lst [.str y,.str "put"]
 | .add y=>.lst [.str y,.str "add"]
def Tch.lw:Tch->Str
 | .no=>""
 | .lock _=>"lock"
 | .read _=>"read"
 | .write _=>"put"
 | .add _=>"add"
theorem Mh{r:Tch}(h:r.is=true):lT r=.lst [.str r.nm,.str r.lw]:=by cases r <;> first|rfl|cases h
theorem Uj{r s:Tch}(h1:r.is=true)(h2:s.is=true)(h:r.nm=s.nm):apa r s=(decide (r.lw=s.lw)&&decide (r.lw∈(["read","add"]:List Str))):=by
 rw[Ln h1 h2 h]
 cases r <;> cases s <;> first|(cases h1;done)|(cases h2;done)|rfl
section
variable{P:Program}{w:World}{K:PySem.W.Frag}{mg:Str->Option Value}{base:Heap}
def Gr:List T->TH->UX->Prop:=fun ts S Pp=>∃(q:Stp),ts=[q.tree]/\Pp (lT q.tch) S
theorem Kg:Zv ["_law_step_here"] ["_law_step_here"] (Zb (top 46)):=⟨rfl,rfl,rfl,by decide +kernel,rfl,by decide +kernel,by decide +kernel⟩
theorem Ir(N:Nm P w K mg)(d:Aa K mg "_law_touched" ["_law_step_here"] (top 46)):Has P w K mg base 1 "_law_touched" ["_law_step_here"] Gr:=by
 have sc:=Kg
 refine Ag (k:=0) d sc (fun ts S Pp h=>?_) fun cdv f A outer s H E hr=>?_
 ·obtain⟨q,rfl,_⟩:=h;rfl
 have hu0:=Ao hr
 refine⟨_,(Zs (Ac (G3 (Zx (uv 0) Zi) (Zu (Ae (Cs.s (Cs.s Cs.nil))))) (Zo (Zr (Ad (Zc (Zx (uv 0) (Zp Zi (Cg rfl N.int (Zc (Df hu0 (Zx (uv 0) Zi) Zq) Zn)))) (Zc Zq Zn))))) Ze)
   (Zs (Ac (G3 (Zx (uv 0) Zi) (Zu (Ae (Cs.s (Cs.s Cs.nil))))) (Zo (Zr (Ad (Zc (Zx (uv 0) Zi) (Zc (Zx (uv 0) Zi) Zn))))) Ze)
   (Zs (Ac (G3 (Zx (uv 0) Zi) (Zu (Ae (Cs.s (Cs.s Cs.nil))))) (Zo (Zr (Ad (Zc (Zx (uv 0) Zi) (Zc Zq Zn))))) Ze)
   (Zo (Zr As))))),fun ts S Pp h=>?_⟩
 obtain⟨q,rfl,h⟩:=h
 have o2:2<=sizeLine:=by decide
 cases q with
 |get x y=>exact⟨_,at0,o2,["get","wait"],rfl,fun _=>⟨_,at0,_,at2,o2,h⟩,wim "get" ["get","wait"] (by decide)⟩
 |wait y v=>exact⟨_,at0,o2,["get","wait"],rfl,fun _=>⟨_,at0,_,at1,o2,h⟩,wim "wait" ["get","wait"] (by decide)⟩
 |put y v=>exact⟨_,at0,o2,["get","wait"],rfl,win "put" ["get","wait"] (by decide),fun _=>⟨_,at0,o2,["put","add"],rfl,fun _=>⟨_,at1,_,at0,o2,h⟩,wim "put" ["put","add"] (by decide)⟩⟩
 |add y v=>exact⟨_,at0,o2,["get","wait"],rfl,win "add" ["get","wait"] (by decide),fun _=>⟨_,at0,o2,["put","add"],rfl,fun _=>⟨_,at1,_,at0,o2,h⟩,wim "add" ["put","add"] (by decide)⟩⟩
 |take y=>exact⟨_,at0,o2,["get","wait"],rfl,win "take" ["get","wait"] (by decide),fun _=>⟨_,at0,o2,["put","add"],rfl,win "take" ["put","add"] (by decide),fun _=>⟨_,at0,o2,["take","give"],rfl,fun _=>⟨_,at1,o2,h⟩,wim "take" ["take","give"] (by decide)⟩⟩⟩
 |give y=>exact⟨_,at0,o2,["get","wait"],rfl,win "give" ["get","wait"] (by decide),fun _=>⟨_,at0,o2,["put","add"],rfl,win "give" ["put","add"] (by decide),fun _=>⟨_,at0,o2,["take","give"],rfl,fun _=>⟨_,at1,o2,h⟩,wim "give" ["take","give"] (by decide)⟩⟩⟩
 |set x v=>exact⟨_,at0,o2,["get","wait"],rfl,win "set" ["get","wait"] (by decide),fun _=>⟨_,at0,o2,["put","add"],rfl,win "set" ["put","add"] (by decide),fun _=>⟨_,at0,o2,["take","give"],rfl,win "set" ["take","give"] (by decide),fun _=>h⟩⟩⟩
 |check v=>exact⟨_,at0,o2,["get","wait"],rfl,win "check" ["get","wait"] (by decide),fun _=>⟨_,at0,o2,["put","add"],rfl,win "check" ["put","add"] (by decide),fun _=>⟨_,at0,o2,["take","give"],rfl,win "check" ["take","give"] (by decide),fun _=>h⟩⟩⟩
 |skip i=>exact⟨_,at0,o2,["get","wait"],rfl,win "skip" ["get","wait"] (by decide),fun _=>⟨_,at0,o2,["put","add"],rfl,win "skip" ["put","add"] (by decide),fun _=>⟨_,at0,o2,["take","give"],rfl,win "skip" ["take","give"] (by decide),fun _=>h⟩⟩⟩
 |unl v i=>exact⟨_,at0,o2,["get","wait"],rfl,win "unless" ["get","wait"] (by decide),fun _=>⟨_,at0,o2,["put","add"],rfl,win "unless" ["put","add"] (by decide),fun _=>⟨_,at0,o2,["take","give"],rfl,win "unless" ["take","give"] (by decide),fun _=>h⟩⟩⟩
def K4:List T->TH->UX->Prop:=fun ts S Pp=>∃(q q2:Stp),ts=[q.tree,q2.tree]/\Pp (.bl (apa q.tch q2.tch)) S
theorem Qn:Zv ["_law_one","_law_other","_law_left","_law_right_here"] ["_law_one","_law_other"] (Zb (top 47)):=⟨rfl,rfl,rfl,by decide +kernel,rfl,by decide +kernel,by decide +kernel⟩
theorem Nn{m:Nat}(N:Nm P w K mg)(d:Aa K mg "_law_apart" ["_law_one","_law_other"] (top 47))(c_law_touched:Has P w K mg base m "_law_touched" ["_law_step_here"] Gr):Has P w K mg base (m+1) "_law_apart" ["_law_one","_law_other"] K4:=by
 have sc:=Qn
 refine Ag (k:=m) d sc (fun ts S Pp h=>?_) fun cdv f A outer s H E hr=>?_
 ·obtain⟨_,_,rfl,_⟩:=h;rfl
 have hu0:=Ao hr
 refine⟨_,(Zs (Zt 2 sc.nd (Zf c_law_touched hr rfl (Zc (uv 0) Zn)))
   (Zs (Zt 3 sc.nd (Zf c_law_touched hr rfl (Zc (uv 1) Zn)))
   (Zs (Ac (UW.ut (Ck (Cb (uv 2) As) (Ck (Cb (uv 3) As) (Xs (Bs hu0 (Zx (uv 2) Zi) (Zx (uv 3) Zi)))))) (Zo (Zr B4)) Ze)
   (Zo (Zr (Jp (Df hu0 (Zx (uv 2) Zi) (Zx (uv 3) Zi)) (J0 (Vw (Zx (uv 2) Zi) (Zu (Ae (Cs.s (Cs.s Cs.nil)))))))))))),fun ts S Pp h=>?_⟩
 obtain⟨q,q2,rfl,h⟩:=h
 have o2:2<=sizeLine:=by decide
 generalize er0:q.tch=r at h
 generalize es0:q2.tch=s at h
 refine Zj (fun env S'=>env=[some q.tree,some q2.tree,some (lT r),none]/\S=S') (fun k hk=>⟨q,rfl,by rw[er0];exact hk _ _ ⟨rfl,rfl⟩⟩) ?_
 rintro _ _ ⟨rfl,rfl⟩
 refine Zj (fun env S'=>env=[some q.tree,some q2.tree,some (lT r),some (lT s)]/\S=S') (fun k hk=>⟨q2,rfl,by rw[es0];exact hk _ _ ⟨rfl,rfl⟩⟩) ?_
 rintro _ _ ⟨rfl,rfl⟩
 cases er:r.is with
 |false =>
  rw[P4 er] at h
  cases Tch.no_of er
  exact Zj (fun _ _=>False) (fun k hk=>Cv (fun _ h=>h) ⟨fun _=>h,fun e=>(by cases e)⟩) fun _ _ z=>z.elim
 |true =>
  rw[Mh er]
  cases es:s.is with
  |false =>
   rw[R5 es] at h
   cases Tch.no_of es
   exact Zj (fun _ _=>False) (fun k hk=>Bd (fun _ h=>h) (Cv (fun _ h=>h) ⟨fun _=>h,fun e=>(by cases e)⟩)) fun _ _ z=>z.elim
  |true =>
   rw[Mh es]
   refine Zj (fun env S'=>env=[some q.tree,some q2.tree,some (.lst [.str r.nm,.str r.lw]),some (.lst [.str s.nm,.str s.lw])]/\S=S'/\r.nm=s.nm) (fun k hk=>Bd (fun _ h=>h) (Bd (fun _ h=>h) ⟨_,at0,_,at0,fun e=>?_,fun e=>?_⟩)) ?_
   ·have ne:¬ r.nm=s.nm:=fun z=>by simp[z] at e
    rw[Pw ne] at h
    exact h
   ·refine hk _ _ ⟨rfl,rfl,?_⟩
    by_cases z:r.nm=s.nm
    ·exact z
    ·simp[z] at e
   rintro _ _ ⟨rfl,rfl,en⟩
   rw[Uj er es en] at h
   refine⟨_,at1,_,at1,fun e=>⟨_,at1,o2,["read","add"],rfl,?_⟩,fun e=>?_⟩
   ·have e1:decide (r.lw=s.lw)=true:=by simpa using e
    rw[e1,Bool.true_and] at h
    exact h
   ·have e1:decide (r.lw=s.lw)=false:=by simpa using e
    rw[e1,Bool.false_and] at h
    exact h
def P1:List T->TH->UX->Prop:=fun ts S Pp=>∃L s w,ts=[Lm.tree L,Sta.tree s,.int ((w:Nat):Int)]/\Wl L s w/\Pp (.lst (left L s w)) S
theorem Vm:Zv ["_law_loom_here","_law_state","_law_worker","_law_place"] ["_law_loom_here","_law_state","_law_worker"] (Zb (top 48)):=⟨rfl,rfl,rfl,by decide +kernel,rfl,by decide +kernel,by decide +kernel⟩
theorem Mt(N:Nm P w K mg)(d:Aa K mg "_law_still" ["_law_loom_here","_law_state","_law_worker"] (top 48)):Has P w K mg base 1 "_law_still" ["_law_loom_here","_law_state","_law_worker"] P1:=by
 have sc:=Vm
 refine Ag (k:=0) d sc (fun ts S Pp h=>?_) fun cdv f A outer s H E hr=>?_
 ·obtain⟨_,_,_,rfl,_⟩:=h;rfl
 refine⟨_,(Zs (Zt 3 sc.nd (Zx (Zx (Zx (uv 1) Zi) (uv 2)) Zi))
   (Zs (Ac (Gm (uv 3) Zi) (Zo (Zr (Ad Zn))) Ze)
   (Zo (Zr (K2 rfl N.list (Zc (Sj (Zx (Zx (Zx (uv 0) Zi) (Zx (Zx (uv 0) Zi) (uv 2))) Zi) (A7 (uv 3)) Cc) Zn)))))),fun ts S Pp h=>?_⟩
 obtain⟨L,s,w,rfl,⟨V,sv,hw⟩,h⟩:=h
 refine⟨_,at2,_,Cu sv hw,_,at0,fun e=>?_,fun e=>?_⟩
 ·have e:(s.at w).1<0:=of_decide_eq_true e
  have el:left L s w=[]:=by unfold left;rw[if_neg (by omega)]
  rw[el] at h
  exact⟨show 0<=sizeLine by decide,h⟩
 ·have e:¬ (s.at w).1<0:=of_decide_eq_false e
  have h0:0<=(s.at w).1:=by omega
  have hi:=sv.hi w hw
  refine⟨_,at3,_,at4,_,Rb hw,_,Rs V hw,_,at2,?_⟩
  have ec:cutA (L.pr w).2.2 (some (s.at w).1) none=left L s w:=by
   unfold left
   rw[if_pos h0]
   have q:=Ie (zs:=(L.pr w).2.2) (n:=(s.at w).1.toNat) (by omega)
   rw[Int.toNat_of_nonneg h0] at q
   exact q
  show Pp (.lst (cutA (L.pr w).2.2 (some (s.at w).1) none)) S
  rw[ec]
  exact h
def bad(L:Lm)(s:Sta)(t:T)(w:Nat):Bool:=match L.nx s w with
 |none=>false
 |some q=>!apa (toStp t).tch q.tch
theorem K0(L:Lm)(s:Sta)(o w:Nat):med L s o w=(left L s o).any fun t=>bad L s t w:=by
 unfold med bad
 cases L.nx s w with
 |none=>exact(List.any_eq_false.mpr fun _ _=>Bool.false_ne_true).symm
 |some q=>simp only[Jh q.tch]
theorem Y2{L:Lm}{s:Sta}{o:Nat}{ws:List Nat}(h:∀t∈left L s o,∀w∈ws,bad L s t w=false):ws.any (med L s o)=false:=by
 rw[List.any_eq_false]
 intro w hw
 rw[K0,List.any_eq_true]
 rintro⟨t,ht,e⟩
 rw[h t ht w hw] at e
 cases e
theorem a_med{L:Lm}{s:Sta}{o w:Nat}{ws:List Nat}{t:T}(ht:t∈left L s o)(hw:w∈ws)(h:bad L s t w=true):ws.any (med L s o)=true:=by
 rw[List.any_eq_true]
 exact⟨w,hw,by rw[K0,List.any_eq_true];exact⟨t,ht,h⟩⟩
theorem Eg{α:Type}{xs:List α}{k:Nat}{x:α}(e:xs[k]?=some x){Q:α->Prop}(h:∀y∈xs.take k,Q y)(hx:Q x):∀y∈xs.take (k+1),Q y:=fun y hy=>by
 rw[List.take_add_one,e] at hy
 rcases List.mem_append.mp hy with z|z
 ·exact h y z
 ·have z:y=x:=by simpa using z
  rw[z];exact hx
theorem Pc{n k:Nat}{x:T}(e:(Db n)[k]?=some x):k<n/\x=.int (k:Int):=by
 have hl:=(List.getElem?_eq_some_iff.mp e).1
 rw[Zh] at hl
 rw[Fj hl] at e
 exact⟨hl,(Option.some.inj e).symm⟩
def Ka:List T->TH->UX->Prop:=fun ts S Pp=>∃L s o ws r,ts=[Lm.tree L,Sta.tree s,.int ((o:Nat):Int),.ref r]/\Wl L s o/\S r=some (.lst (nats ws))/\(∀w∈ws,w<L.ws.length)/\Pp (.bl (ws.any (med L s o))) S
theorem U8:Zv ["_law_loom_here","_law_state","_law_worker","_law_workers","_law_one","_law_other","_law_step_here"] ["_law_loom_here","_law_state","_law_worker","_law_workers"] (Zb (top 49)):=⟨rfl,rfl,rfl,by decide +kernel,rfl,by decide +kernel,by decide +kernel⟩
theorem Ng{m:Nat}(N:Nm P w K mg)(d:Aa K mg "_law_meets" ["_law_loom_here","_law_state","_law_worker","_law_workers"] (top 49))(c_law_still:Has P w K mg base m "_law_still" ["_law_loom_here","_law_state","_law_worker"] P1)(c_law_step_of:Has P w K mg base m "_law_step_of" ["_law_loom_here","_law_state","_law_worker"] D4)(c_law_apart:Has P w K mg base m "_law_apart" ["_law_one","_law_other"] K4):Has P w K mg base (m+1) "_law_meets" ["_law_loom_here","_law_state","_law_worker","_law_workers"] Ka:=by
 have sc:=U8
 refine Ag (k:=m) d sc (fun ts S Pp h=>?_) fun cdv f A outer s H E hr=>?_
 ·obtain⟨_,_,_,_,_,rfl,_⟩:=h;rfl
 refine⟨_,(Zs (Dj PassesOwn.never rfl (Xu (Zf c_law_still hr rfl (Zc (uv 0) (Zc (uv 1) (Zc (uv 2) Zn))))) (Ca 4 sc.nd) (Zo (Th PassesOwn.never rfl (uv 3) (Ca 5 sc.nd) (Zs (Zt 6 sc.nd (Zf c_law_step_of hr rfl (Zc (uv 0) (Zc (uv 1) (Zc (uv 5) Zn)))))
   (Zo (Ac (UW.ut (B9 (Lx (uv 6) As) (Cf (Do (Xe (Zf c_law_apart hr rfl (Zc (uv 4) (Zc (uv 6) Zn)))))))) (Zo (Zr B4)) Ze))))))
   (Zo (Zr B4))),fun ts S Pp h=>?_⟩
 obtain⟨L,s,o,ws,r,rfl,wl,er,hws,h⟩:=h
 let e0:Option T:=some L.tree
 let e1:Option T:=some s.tree
 let e2:Option T:=some (.int (o:Int))
 let e3:Option T:=some (.ref r)
 refine⟨L,s,o,rfl,wl,fun k env S'=>S=S'/\(∃a b c,env=[e0,e1,e2,e3,a,b,c])/\∀t∈(left L s o).take k,∀w∈ws,bad L s t w=false,⟨rfl,⟨_,_,_,rfl⟩,fun t ht=>by rw[List.take_zero] at ht;cases ht⟩,?_,?_⟩
 ·rintro k t env S' et ⟨rfl,⟨a,b,c,rfl⟩,hk⟩
  have tm:=List.mem_of_getElem? et
  refine .inr ⟨nats ws,er,fun j env S'=>S=S'/\(∃b c,env=[e0,e1,e2,e3,some t,b,c])/\∀w∈ws.take j,bad L s t w=false,⟨rfl,⟨_,_,rfl⟩,fun t ht=>by rw[List.take_zero] at ht;cases ht⟩,fun _ _ S' iv=>by rw[<-iv.1];exact er,?_,?_⟩
  ·rintro j x env S' ej ⟨rfl,⟨b,c,rfl⟩,hj⟩
   unfold nats at ej
   rw[List.getElem?_map] at ej
   cases ew:ws[j]? with
   |none=>rw[ew] at ej;cases ej
   |some w =>
    rw[ew] at ej
    cases ej
    have wm:=List.mem_of_getElem? ew
    refine⟨L,s,w,rfl,⟨wl.v,wl.sv,hws w wm⟩,?_⟩
    cases e:L.nx s w with
    |none=>exact C8 (fun _ h=>h) ⟨fun z=>(by cases z),fun _=>⟨rfl,⟨_,_,rfl⟩,Eg ew hj (by unfold bad;rw[e])⟩⟩
    |some q =>
     rw[Bl]
     refine Dp (fun _ h=>h) ⟨toStp t,q,?_,fun z=>?_,fun z=>⟨rfl,⟨_,_,rfl⟩,Eg ew hj (by unfold bad;rw[e];exact z)⟩⟩
     ·rw[<-Ii wl.v wl.hw tm,<-Stp.head]
     ·have em:ws.any (med L s o)=true:=a_med tm wm (by unfold bad;rw[e];exact z)
      rw[em] at h
      exact h
  ·rintro env S' ⟨rfl,⟨b,c,rfl⟩,hj⟩
   have el:(nats ws).length=ws.length:=List.length_map _
   rw[el,List.take_length] at hj
   exact⟨rfl,⟨_,_,_,rfl⟩,Eg et hk hj⟩
 ·rintro env S' ⟨rfl,⟨a,b,c,rfl⟩,hk⟩
  rw[List.take_length] at hk
  rw[Y2 hk] at h
  exact h
end
end K52
end
section
namespace K52
open PySem PySem.Spec PyProof.Rows L2 TL
inductive Rch(L:Lm)(s:Sta)(w:Nat):Nat->Prop where
 |one:Rch L s w w
 |more {x o:Nat}:Rch L s w x->o<L.ws.length->med L s o x=true->Rch L s w o
noncomputable def clo(L:Lm)(s:Sta)(w:Nat):List Nat:=(List.range L.ws.length).filter fun o=>@decide (Rch L s w o) (Classical.propDecidable _)
theorem clo_mem{L:Lm}{s:Sta}{w o:Nat}:o∈clo L s w ↔ o<L.ws.length/\Rch L s w o:=by
 unfold clo
 rw[List.mem_filter,List.mem_range]
 exact⟨fun h=>⟨h.1,@of_decide_eq_true _ (Classical.propDecidable _) h.2⟩,fun h=>⟨h.1,@decide_eq_true _ (Classical.propDecidable _) h.2⟩⟩
theorem Xh(L:Lm)(s:Sta)(w:Nat):(clo L s w).Nodup:=List.Pairwise.filter _ List.nodup_range
theorem Ys(L:Lm)(s:Sta)(w:Nat):(clo L s w).Pairwise (·<·):=List.Pairwise.filter _ List.pairwise_lt_range
structure Gw(L:Lm)(s:Sta)(w:Nat)(ws:List Nat):Prop where
 nd:ws.Nodup
 hw:w∈ws
 all:∀x∈ws,x<L.ws.length/\Rch L s w x
section
variable{L:Lm}{s:Sta}{w:Nat}{ws:List Nat}
theorem Gw.one(h:w<L.ws.length):Gw L s w [w]:=⟨List.nodup_cons.mpr ⟨List.not_mem_nil,List.nodup_nil⟩,.head _,fun x hx=>by rw[List.mem_singleton.mp hx];exact⟨h,.one⟩⟩
theorem Gw.lt(g:Gw L s w ws):∀x∈ws,x<L.ws.length:=fun x hx=>(g.all x hx).1
theorem Gw.len(g:Gw L s w ws):ws.length<=L.ws.length:=by
 have:=List.Nodup.length_le_of_subset g.nd (l₂:=List.range L.ws.length) fun x hx=>List.mem_range.mpr (g.lt x hx)
 rwa [List.length_range] at this
def Closed(L:Lm)(s:Sta)(ws:List Nat):Prop:=∀o,o<L.ws.length->o ∉ ws->ws.any (med L s o)=false
theorem Gw.same(g:Gw L s w ws)(c:Closed L s ws)(x:Nat):x∈ws ↔ x∈clo L s w:=by
 rw[clo_mem]
 refine⟨fun h=>g.all x h,fun z=>?_⟩
 have h:=z.2
 clear z
 induction h with
 |one=>exact g.hw
 | @more y o hy ho hm ih =>
  refine Classical.byContradiction fun hn=>?_
  have z:=c o ho hn
  rw[List.any_eq_false] at z
  exact z y ih hm
theorem Gw.perm(g:Gw L s w ws)(c:Closed L s ws):ws.Perm (clo L s w):=(List.perm_ext_iff_of_nodup g.nd (Xh L s w)).mpr (g.same c)
theorem Gw.sorted(g:Gw L s w ws)(c:Closed L s ws){ns:List Int}(p:ns.Perm (ws.map fun n:Nat=>(n:Int)))(so:ns.Pairwise (·<=·)):ns.map T.int=nats (clo L s w):=by
 have p2:ns.Perm ((clo L s w).map fun n:Nat=>(n:Int)):=p.trans ((g.perm c).map _)
 have so2:((clo L s w).map fun n:Nat=>(n:Int)).Pairwise (·<=·):=by
  rw[List.pairwise_map]
  exact(Ys L s w).imp fun h=>by omega
 have e:=List.Perm.eq_of_pairwise (fun a b _ _ h1 h2=>Int.le_antisymm h1 h2) so so2 p2
 rw[e]
 unfold nats
 rw[List.map_map];rfl
theorem Jf(ws:List Nat):(ws.map fun n:Nat=>(n:Int)).map T.int=nats ws:=by unfold nats;rw[List.map_map];rfl
theorem meds_mem{o:Nat}:o∈meds L s ws ↔ (o<L.ws.length/\o ∉ ws)/\ws.any (med L s o)=true:=by
 unfold meds outs
 rw[List.mem_filter,List.mem_filter,List.mem_range]
 constructor
 ·rintro⟨⟨a,b⟩,c⟩;exact⟨⟨a,by simpa using b⟩,c⟩
 ·rintro⟨⟨a,b⟩,c⟩;exact⟨⟨a,by simpa using b⟩,c⟩
theorem Jc(h:meds L s ws=[]):Closed L s ws:=fun o ho hn=>by
 cases e:ws.any (med L s o) with
 |false=>rfl
 |true =>
  have:=meds_mem.mpr ⟨⟨ho,hn⟩,e⟩
  rw[h] at this;cases this
theorem Gw.add{o:Nat}(g:Gw L s w ws)(ho:o<L.ws.length)(hn:o ∉ ws)(hm:ws.any (med L s o)=true):Gw L s w (ws++[o]):=by
 obtain⟨y,hy,e⟩:=List.any_eq_true.mp hm
 refine⟨List.nodup_append.mpr ⟨g.nd,List.nodup_cons.mpr ⟨List.not_mem_nil,List.nodup_nil⟩,fun a ha b hb z=>?_⟩,List.mem_append_left _ g.hw,fun x hx=>?_⟩
 ·rw[List.mem_singleton.mp hb] at z
  exact hn (z ▸ ha)
 ·rcases List.mem_append.mp hx with z|z
  ·exact g.all x z
  ·rw[List.mem_singleton.mp z]
   exact⟨ho,.more (g.all y hy).2 ho e⟩
theorem Gw.meds(g:Gw L s w ws):Gw L s w (ws++meds L s ws):=by
 refine⟨List.nodup_append.mpr ⟨g.nd,List.Pairwise.filter _ (List.Pairwise.filter _ List.nodup_range),fun a ha b hb z=>?_⟩,List.mem_append_left _ g.hw,fun x hx=>?_⟩
 ·exact(meds_mem.mp hb).1.2 (z ▸ ha)
 ·rcases List.mem_append.mp hx with z|z
  ·exact g.all x z
  ·obtain⟨⟨h1,_⟩,h3⟩:=meds_mem.mp z
   obtain⟨y,hy,e⟩:=List.any_eq_true.mp h3
   exact⟨h1,.more (g.all y hy).2 h1 e⟩
end
theorem Q3{L:Lm}{s:Sta}{w:Nat}(h:w<L.ws.length):w∈clo L s w:=clo_mem.mpr ⟨h,.one⟩
theorem Yr{L:Lm}{s:Sta}{w:Nat}:∀x∈clo L s w,x<L.ws.length:=fun x hx=>(clo_mem.mp hx).1
theorem E8(L:Lm)(s:Sta)(w:Nat):(clo L s w).length<=L.ws.length:=by
 have:=List.length_filter_le (fun o=>@decide (Rch L s w o) (Classical.propDecidable _)) (List.range L.ws.length)
 rw[List.length_range] at this
 exact this
theorem Kr(L:Lm)(s:Sta)(w:Nat):Closed L s (clo L s w):=fun o ho hn=>by
 rw[List.any_eq_false]
 intro y hy hm
 exact hn (clo_mem.mpr ⟨ho,.more (clo_mem.mp hy).2 ho hm⟩)
noncomputable def An(L:Lm)(s:Sta)(w:Nat):List Nat:=(clo L s w).filter fun x=>decide (x∈L.ables s)
theorem Qp{L:Lm}{s:Sta}{w:Nat}(h:w∈L.ables s):An L s w≠[]:=fun z=>by
 have:w∈An L s w:=List.mem_filter.mpr ⟨Q3 (ables_mem.mp h).1,decide_eq_true h⟩
 rw[z] at this;cases this
theorem Nq(L:Lm)(s:Sta)(w:Nat):(An L s w).length<=L.ws.length:=Nat.le_trans (List.length_filter_le _ _) (E8 L s w)
def Best(L:Lm)(s:Sta)(n i w:Nat):Prop:=(L.ables s)[i]?=some w/\∀j v,j<n->(L.ables s)[j]?=some v->(An L s w).length<=(An L s v).length/\(j<i->(An L s w).length<(An L s v).length)
def KeptP(L:Lm)(s:Sta)(a b:List Nat):Prop:=(L.ables s=[]/\a=[]/\b=[])\/∃i w,Best L s (L.ables s).length i w/\a=clo L s w/\b=An L s w
theorem KeptP.same{L:Lm}{s:Sta}{a b a' b':List Nat}(h:KeptP L s a b)(h':KeptP L s a' b'):a=a'/\b=b':=by
 rcases h with⟨e,rfl,rfl⟩|⟨i,w,⟨ei,hi⟩,rfl,rfl⟩
 ·rcases h' with⟨_,rfl,rfl⟩|⟨i,w,⟨ei,hi⟩,rfl,rfl⟩
  ·exact⟨rfl,rfl⟩
  ·rw[e] at ei;cases ei
 ·rcases h' with⟨e,rfl,rfl⟩|⟨i',w',⟨ei',hi'⟩,rfl,rfl⟩
  ·rw[e] at ei;cases ei
  ·have l1:=(List.getElem?_eq_some_iff.mp ei).1
   have l2:=(List.getElem?_eq_some_iff.mp ei').1
   have a1:=hi i' w' l2 ei'
   have a2:=hi' i w l1 ei
   have:i=i':=by
    by_cases z:i<i'
    ·have:=a2.2 z;have:=a1.1;omega
    ·by_cases z':i'<i
     ·have:=a1.2 z';have:=a2.1;omega
     ·omega
   subst this
   rw[ei] at ei'
   cases ei'
   exact⟨rfl,rfl⟩
theorem KeptP.lt{L:Lm}{s:Sta}{a b:List Nat}(h:KeptP L s a b):∀x∈a,x<L.ws.length:=by
 rcases h with⟨_,rfl,rfl⟩|⟨i,w,_,rfl,rfl⟩
 ·exact fun x hx=>by cases hx
 ·exact Yr
theorem KeptP.len{L:Lm}{s:Sta}{a b:List Nat}(h:KeptP L s a b):a.length<=L.ws.length/\b.length<=L.ws.length:=by
 rcases h with⟨_,rfl,rfl⟩|⟨i,w,_,rfl,rfl⟩
 ·exact⟨Nat.zero_le _,Nat.zero_le _⟩
 ·exact⟨E8 L s w,Nq L s w⟩
theorem KeptP.closed{L:Lm}{s:Sta}{a b:List Nat}(h:KeptP L s a b):Closed L s a:=by
 rcases h with⟨_,rfl,rfl⟩|⟨i,w,_,rfl,rfl⟩
 ·exact fun _ _ _=>rfl
 ·exact Kr L s w
end K52
end
section
namespace K52
open PySem PySem.Spec PyProof.Rows L2 TL
seal UE UT UA US USs UI UG UO UW PTs Aq Ax Cj D0
def Nw(S:TH)(r:Addr):Prop:=∀c,S r=some c->∃kts,c=.dtt kts
theorem Nw.of{S S':TH}{r:Addr}(k:Ks S S')(h:S' r=none):Nw S r:=fun c e=>by
 refine Classical.byContradiction fun hn=>?_
 rw[k r c e fun kts z=>hn ⟨kts,z⟩] at h
 cases h
theorem Nw.back{S S':TH}{r:Addr}(k:Ks S S')(h:Nw S' r):Nw S r:=fun c e=>by
 refine Classical.byContradiction fun hn=>?_
 obtain⟨kts,z⟩:=h c (k r c e fun kts z=>hn ⟨kts,z⟩)
 exact hn ⟨kts,z⟩
theorem Nw.upd{S S':TH}{r:Addr}{c:Cell}(h:Nw S r)(k:Ks S S'):Ks S (updT S' r c):=fun b d e n=>by
 rw[Ab (fun z=>by obtain⟨_,q⟩:=h _ (z ▸ e);exact n _ q)]
 exact k b d e n
theorem Lv.new{mg:Str->Option Value}{L:Lm}{s:Sta}{n:Nat}{S:TH}{q p d r:Addr}{kts:List (List Key×T)}{c:Cell}(lv:Lv mg L s n S q p d kts)(h:S r=none):Lv mg L s n (updT S r c) q p d kts :=
 lv.ks (Ks.new h) (by rw[Ab (fun z=>by rw[<-z,lv.at'] at h;cases h)];exact lv.at') lv.mem
section
variable{P:Program}{w:World}{K:PySem.W.Frag}{mg:Str->Option Value}{base:Heap}
def V9(mg:Str->Option Value):List T->TH->UX->Prop:=fun ts S Pp=>∃L p s,ts=[.ref p,s.tree]/\Aw mg L S p/\SV L s/\Pp (.lst (nats (L.ables s))) S
theorem X8:Zv ["self","state"] ["self","state"] (Zb (Ah (top 19) 2)):=⟨rfl,rfl,rfl,by decide +kernel,rfl,by decide +kernel,by decide +kernel⟩
theorem able{m:Nat}(N:Nm P w K mg)(d:Af K (cAt mg "Machine") "able" "Machine.able" ["self","state"] (Ah (top 19) 2))(c_m_is_able:HasM P w K mg base m (cAt mg "Machine") "is_able" ["self","state","worker"] (cCan mg)):HasM P w K mg base (m+1) (cAt mg "Machine") "able" ["self","state"] (V9 mg):=by
 have sc:=X8
 refine Ay (k:=m) d sc (fun ts S Pp h=>?_) fun cdv f A outer s H E hr=>?_
 ·obtain⟨_,_,_,rfl,_⟩:=h;rfl
 refine⟨_,(Zo (Zr (Xg 0 ["worker","self","state"] [none,some 0,some 1] rfl (Ba rfl N.range (Zc (Zl rfl N.len (Zc (Az (uv 0)) Zn)) Zn)) (fun _ _ _ _ _=>C5 (Xe (Zm c_m_is_able hr (uv 1) (Zc (uv 2) (Zc (uv 0) Zn))))) (fun _ _ _ _ _=>(uv 0))))),fun ts S Pp h=>?_⟩
 obtain⟨L,p,s,rfl,aw,sv,h⟩:=h
 have l6:=aw.v.w6
 have el:(L.prs.map Am).length=L.ws.length:=by rw[List.length_map,E7]
 refine Fi (ts:=Db L.ws.length) (f:=Cq fun w=>L.can s w) (fun k hk=>⟨_,_,_,aw.me,N.Machine_cls,N.Machine_no_programs,rfl,?_⟩) (by rw[Zh];exact Xp (by omega)) (fun x hx A B hA hB=>?_) ?_
 ·exact⟨by rw[el];omega,by rw[el];omega,by rw[el,Int.toNat_natCast];exact hk⟩
 ·obtain⟨k,hk,rfl⟩:=List.mem_map.mp hx
  have hk:=List.mem_range.mp hk
  refine⟨L.fs,aw.me,rfl,L,p,s,k,rfl,⟨aw,sv,hk⟩,trivial,fun e=>?_,fun e=>?_⟩
  ·exact hA _ (by show (if L.can s (k:Int).toNat then _ else _)=_;rw[Int.toNat_natCast,e];rfl)
  ·exact hB (by show (if L.can s (k:Int).toNat then _ else _)=_;rw[Int.toNat_natCast,e];rfl)
 ·rw[Ec]
  exact h
def R3(mg:Str->Option Value):List T->TH->UX->Prop:=fun ts S Pp=>∃L q p d kts s n w,ts=[.ref q,Sta.tree s,.int ((w:Nat):Int)]/\Lv mg L s n S q p d kts/\SV L s/\w<L.ws.length/\n<=8000 ∧
 ∀S' kts' r,Lv mg L s (n+216) S' q p d kts'->Ks S S'->Nw S r->S' r=some (.lst (nats (clo L s w)))->Pp (.ref r) S'
theorem Tp:Zv ["self","state","worker","workers","coming"] ["self","state","worker"] (Zb (Ah (top 23) 6)):=⟨rfl,rfl,rfl,by decide +kernel,rfl,by decide +kernel,by decide +kernel⟩
theorem grown{m:Nat}(N:Nm P w K mg)(d:Af K (cAt mg "Leaver") "grown" "Leaver.grown" ["self","state","worker"] (Ah (top 23) 6))(c_m_meddlers:HasM P w K mg base m (cAt mg "Leaver") "meddlers" ["self","state","workers"] (V6 mg)):HasM P w K mg base (m+1) (cAt mg "Leaver") "grown" ["self","state","worker"] (R3 mg):=by
 have sc:=Tp
 refine Ay (k:=m) d sc (fun ts S Pp h=>?_) fun cdv f A outer s H E hr=>?_
 ·obtain⟨_,_,_,_,_,_,_,_,rfl,_⟩:=h;rfl
 have hu0:=Ao hr
 refine⟨_,(Zs (Zt 3 sc.nd (Bk (Zc (uv 2) Zn)))
   (Zs (Zt 4 sc.nd (Zm c_m_meddlers hr (uv 0) (Zc (uv 1) (Zc (uv 3) Zn))))
   (Zs (P3 PassesOwn.never (Bs hu0 (uv 4) (Ad Zn)) (Zs (Dq (Oe (uv 3) (Zc (uv 4) Zn)))
   (Zo (Zt 4 sc.nd (Zm c_m_meddlers hr (uv 0) (Zc (uv 1) (Zc (uv 3) Zn)))))))
   (Zo (Zr (Ki rfl N.sorted (Zc (uv 3) Zn))))))),fun ts S Pp h=>?_⟩
 obtain⟨L,q,p,d,kts,s,n,w,rfl,lv,sv,hw,hn,h⟩:=h
 have l6:=lv.aw.v.w6
 let e0:Option T:=some (.ref q)
 let e1:Option T:=some s.tree
 let e2:Option T:=some (.int (w:Int))
 refine Zj (fun env S1=>∃r,env=[e0,e1,e2,some (.ref r),none]/\S r=none/\S1=updT S r (.lst (nats [w]))) (fun k hk=>⟨show 1<=sizeLine by decide,fun r hr'=>hk _ _ ⟨r,rfl,hr',rfl⟩⟩) ?_
 rintro _ _ ⟨r,rfl,er0,rfl⟩
 have k1:Ks S (updT S r (.lst (nats [w]))):=Ks.new er0
 have lv1:=lv.new (c:=.lst (nats [w])) er0
 have er1:updT S r (.lst (nats [w])) r=some (.lst (nats [w])):=Zd
 generalize updT S r (.lst (nats [w]))=S1 at k1 lv1 er1
 let R:List Nat->Ev->TH->Prop:=fun ws env S'=>env=[e0,e1,e2,some (.ref r),some (.lst (nats (meds L s ws)))]/\Gw L s w ws/\(∃kts',Lv mg L s (n+36 * ws.length) S' q p d kts')/\Ks S S'/\S' r=some (.lst (nats ws))
 have g1:Gw L s w [w]:=Gw.one hw
 refine Zj (R [w]) (fun k hk=>⟨_,lv1.me,rfl,L,q,p,d,kts,s,n,[w],r,rfl,lv1,sv,er1,g1.lt,show 1<=6 by decide,by omega,fun S' kts' lv' ks=>hk _ _ ⟨rfl,g1,⟨kts',lv'⟩,k1.trans ks,ks.lst er1⟩⟩) ?_
 clear er1 lv1 k1
 rintro env0 S2 hR
 refine Zj (fun env S'=>∃ws,R ws env S'/\meds L s ws=[]) (fun k hk=>?_) ?_
 ·refine⟨fun m env S'=>∃ws,m=7 - ws.length/\R ws env S',⟨_,[w],rfl,hR⟩,?_⟩
  rintro m env S3 ⟨ws,rfl,rfl,gw,⟨kts3,lv3⟩,k3,er3⟩
  have lw:=gw.len
  have gm:=gw.meds
  have lm:=gm.len
  refine⟨show 0<=sizeLine by decide,?_⟩
  cases em:meds L s ws with
  |nil=>exact⟨fun z=>(by cases z),fun _=>hk _ _ ⟨ws,⟨by rw[em],gw,⟨kts3,lv3⟩,k3,er3⟩,em⟩⟩
  |cons o os =>
   refine⟨fun _=>?_,fun z=>(by cases z)⟩
   have el:(meds L s ws).length=os.length+1:=by rw[em];rfl
   rw[<-em]
   rw[List.length_append] at lm
   have ln:(nats ws++nats (meds L s ws))=nats (ws++meds L s ws):=by unfold nats;rw[List.map_append]
   refine Zj (fun env S'=>env=[e0,e1,e2,some (.ref r),some (.lst (nats (meds L s ws)))]/\S'=updT S3 r (.lst (nats (ws++meds L s ws)))) (fun k hk=>⟨⟨_,er3⟩,nats ws,nats (meds L s ws),er3,rfl,?_,?_⟩) ?_
   ·unfold nats
    rw[List.length_map,List.length_map]
    exact Xp (by omega)
   ·rw[ln]
    exact hk _ _ ⟨rfl,rfl⟩
   rintro _ _ ⟨rfl,rfl⟩
   have hd:d≠r:=fun z=>by rw[<-z,lv3.at'] at er3;cases er3
   have hq:q≠r:=fun z=>by rw[<-z,lv3.me] at er3;cases er3
   have hp:p≠r:=fun z=>by rw[<-z,lv3.aw.me] at er3;cases er3
   have lv4:Lv mg L s (n+36 * ws.length) (updT S3 r (.lst (nats (ws++meds L s ws)))) q p d kts3:=⟨by rw[Ab hq];exact lv3.me,⟨by rw[Ab hp];exact lv3.aw.me,lv3.aw.v⟩,by rw[Ab hd];exact lv3.at',lv3.mem⟩
   have k4:Ks S (updT S3 r (.lst (nats (ws++meds L s ws)))):=fun b c e nd=>by
    rw[Ab (fun z=>by rw[z,er0] at e;cases e)];exact k3 b c e nd
   have er4:updT S3 r (.lst (nats (ws++meds L s ws))) r=some (.lst (nats (ws++meds L s ws))):=Zd
   generalize updT S3 r (.lst (nats (ws++meds L s ws)))=S4 at lv4 k4 er4
   refine⟨_,lv4.me,rfl,L,q,p,d,kts3,s,n+36 * ws.length,ws++meds L s ws,r,rfl,lv4,sv,er4,gm.lt,by rw[List.length_append];omega,by omega,fun S' kts' lv' ks=>⟨7 - (ws++meds L s ws).length,by rw[List.length_append];omega,ws++meds L s ws,rfl,rfl,gm,⟨kts',lv'.mono (by rw[List.length_append];omega)⟩,k4.trans ks,ks.lst er4⟩⟩
 clear hR
 rintro env S3 ⟨ws,⟨rfl,gw,⟨kts3,lv3⟩,k3,er3⟩,em⟩
 have lw:=gw.len
 refine⟨_,ws.map fun n:Nat=>(n:Int),rfl,?_,by rw[List.length_map];omega,fun ns pm so b hb=>?_⟩
 ·show S3 r=some (.lst ((ws.map fun n:Nat=>(n:Int)).map T.int))
  rw[Jf];exact er3
 ·rw[gw.sorted (Jc em) pm so]
  exact h _ kts3 b ((lv3.new hb).mono (by omega)) (k3.trans (Ks.new hb)) (Nw.of k3 hb) Zd
def O9:List T->TH->UX->Prop:=fun ts S Pp=>∃r ws vs,ts=[.ref r,.lst (nats vs)]/\S r=some (.lst (nats ws))/\ws.length<=6/\∀b,S b=none->Pp (.tup [.ref r,.ref b]) (updT S b (.lst (nats (ws.filter fun x=>decide (x∈vs)))))
theorem Ug:Zv ["workers","able"] ["workers","able"] (Zb (top 24)):=⟨rfl,rfl,rfl,by decide +kernel,rfl,by decide +kernel,by decide +kernel⟩
theorem with_able{m:Nat}(N:Nm P w K mg)(d:Aa K mg "with_able" ["workers","able"] (top 24)):Has P w K mg base (m+1) "with_able" ["workers","able"] O9:=by
 have sc:=Ug
 refine Ag (k:=m) d sc (fun ts S Pp h=>?_) fun cdv f A outer s H E hr=>?_
 ·obtain⟨_,_,_,rfl,_⟩:=h;rfl
 have hu64:=hr.units
 refine⟨_,(Zo (Zr (Zu (Zc (uv 0) (Zc (Ge true 0 ["worker","able"] [none,some 1] rfl (uv 0) (fun _ _ _ _ _=>C5 (Q4 hu64 (uv 0) (uv 1))) (fun _ _ _ _ _=>(uv 0))) Zn))))),fun ts S Pp h=>?_⟩
 obtain⟨r,ws,vs,rfl,er,lw,h⟩:=h
 refine Vi (q:=r) (ts:=nats ws) (Cq fun x=>decide (x∈vs)) (fun k hk=>hk) er (Xp (by unfold nats;rw[List.length_map];omega)) (fun x hx A B hA hB=>?_) ⟨fun _ b hb=>⟨show 2<=sizeLine by decide,?_⟩,fun z=>(by cases z)⟩
 ·obtain⟨o,_,rfl⟩:=List.mem_map.mp hx
  refine⟨0,true,nats vs,by omega,rfl,(DatN.int _).q,Bq _,?_⟩
  have et:((nats vs).any fun z=>teq 0 z (cv S (.int (o:Int))))=decide (o∈vs):=Dv _ o
  rw[et]
  cases eo:decide (o∈vs) with
  |true=>exact⟨fun _=>hA _ (by show (if decide ((o:Int).toNat∈vs) then _ else _)=_;rw[Int.toNat_natCast,eo];rfl),fun z=>(by cases z)⟩
  |false=>exact⟨fun z=>(by cases z),fun _=>hB (by show (if decide ((o:Int).toNat∈vs) then _ else _)=_;rw[Int.toNat_natCast,eo];rfl)⟩
 ·rw[Fx]
  exact h b hb
def V3:List T->TH->UX->Prop:=fun ts S Pp=>∃x r us,ts=[.tup [x,.ref r]]/\S r=some (.lst us)/\Pp (.int us.length) S
theorem Z7:Zv ["pair"] ["pair"] (Zb (top 25)):=⟨rfl,rfl,rfl,by decide +kernel,rfl,by decide +kernel,by decide +kernel⟩
theorem many_able{m:Nat}(N:Nm P w K mg)(d:Aa K mg "many_able" ["pair"] (top 25)):Has P w K mg base (m+1) "many_able" ["pair"] V3:=by
 have sc:=Z7
 refine Ag (k:=m) d sc (fun ts S Pp h=>?_) fun cdv f A outer s H E hr=>?_
 ·obtain⟨_,_,_,rfl,_⟩:=h;rfl
 refine⟨_,(Zo (Zr (Zl rfl N.len (Zc (Zx (uv 0) Zi) Zn)))),fun ts S Pp h=>?_⟩
 obtain⟨x,r,us,rfl,er,h⟩:=h
 exact⟨_,at1,us,er,h⟩
def Gh(p:Addr×Addr):T:=.tup [.ref p.1,.ref p.2]
theorem Ap(ws:List Nat):(nats ws).length=ws.length:=List.length_map _
theorem Lq{L:Lm}{s:Sta}{prs:List (Addr×Addr)}(hl:prs.length=(L.ables s).length){i:Nat}{x:T}(e:(prs.map Gh)[i]?=some x):∃pr w,prs[i]?=some pr/\(L.ables s)[i]?=some w/\x=Gh pr:=by
 rw[List.getElem?_map] at e
 cases ep:prs[i]? with
 |none=>rw[ep] at e;cases e
 |some pr =>
  rw[ep] at e
  have hi:i<prs.length:=(List.getElem?_eq_some_iff.mp ep).1
  rw[hl] at hi
  exact⟨pr,_,rfl,List.getElem?_eq_getElem hi,(Option.some.inj e).symm⟩
structure PairOk(L:Lm)(s:Sta)(S0 S:TH)(p:Addr×Addr)(w:Nat):Prop where
 a:S p.1=some (.lst (nats (clo L s w)))
 b:S p.2=some (.lst (nats (An L s w)))
 ne:p.1≠p.2
 na:Nw S0 p.1
 nb:Nw S0 p.2
theorem PairOk.ks{L:Lm}{s:Sta}{S0 S S':TH}{p:Addr×Addr}{w:Nat}(h:PairOk L s S0 S p w)(k:Ks S S'):PairOk L s S0 S' p w:=⟨k.lst h.a,k.lst h.b,h.ne,h.na,h.nb⟩
def Lp(mg:Str->Option Value):List T->TH->UX->Prop:=fun ts S Pp=>∃L q p d kts s,ts=[.ref q,Sta.tree s]/\Lv mg L s 0 S q p d kts/\SV L s ∧
 ∀S' r1 r2 a b,Ks S S'->Nw S r1->Nw S r2->r1≠r2->S' r1=some (.lst (nats a))->S' r2=some (.lst (nats b))->KeptP L s a b->Pp (.tup [.ref r1,.ref r2]) S'
theorem Sn:Zv ["self","state","able","pairs"] ["self","state"] (Zb (Ah (top 23) 7)):=⟨rfl,rfl,rfl,by decide +kernel,rfl,by decide +kernel,by decide +kernel⟩
theorem choose{m:Nat}(N:Nm P w K mg)(d:Af K (cAt mg "Leaver") "choose" "Leaver.choose" ["self","state"] (Ah (top 23) 7))(c_m_able:HasM P w K mg base m (cAt mg "Machine") "able" ["self","state"] (V9 mg))(c_m_grown:HasM P w K mg base m (cAt mg "Leaver") "grown" ["self","state","worker"] (R3 mg))(c_with_able:Has P w K mg base m "with_able" ["workers","able"] O9)(c_many_able:Has P w K mg base m "many_able" ["pair"] V3):HasM P w K mg base (m+2) (cAt mg "Leaver") "choose" ["self","state"] (Lp mg):=by
 have sc:=Sn
 refine Ay (k:=m+1) d sc (fun ts S Pp h=>?_) fun cdv f A outer s H E hr=>?_
 ·obtain⟨_,_,_,_,_,_,rfl,_⟩:=h;rfl
 have hr1:=hr
 have hr:=hr.mono (Nat.le_succ m)
 refine⟨_,(Zs (Zt 2 sc.nd (Zm c_m_able hr (Az (uv 0)) (Zc (uv 1) Zn)))
   (Zs (Ar 3 sc.nd 0 ["worker","self","state","able"] [none,some 0,some 1,some 2] rfl (Xu (uv 2)) (fun _ _ _ _ _=>Al) (fun _ _ _ _ _=>(Zf c_with_able hr rfl (Zc (Zm c_m_grown hr (uv 1) (Zc (uv 2) (Zc (uv 0) Zn))) (Zc (uv 3) Zn)))))
   (Zo (Zr (Uq c_many_able hr1 rfl N.min rfl (uv 3) (Zu (Zc (Bk Zn) (Zc (Bk Zn) Zn)))))))),fun ts S Pp h=>?_⟩
 obtain⟨L,q,p,d,kts,s,rfl,lv,sv,h⟩:=h
 have l6:=lv.aw.v.w6
 let e0:Option T:=some (.ref q)
 let e1:Option T:=some s.tree
 let e2:Option T:=some (.lst (nats (L.ables s)))
 have la:(L.ables s).length<=L.ws.length:=by
  have:=List.length_filter_le (fun w=>L.can s w) (List.range L.ws.length)
  rw[List.length_range] at this
  exact this
 refine Zj (fun env S1=>env=[e0,e1,e2,none]/\S=S1) (fun k hk=>⟨_,_,_,lv.me,N.Leaver_cls,N.Leaver_no_machine,rfl,L.fs,lv.aw.me,rfl,L,p,s,rfl,lv.aw,sv,hk _ _ ⟨rfl,rfl⟩⟩) ?_
 rintro _ _ ⟨rfl,rfl⟩
 refine Zj (fun env S1=>∃prs:List (Addr×Addr),env=[e0,e1,e2,some (.lst (prs.map Gh))]/\Ks S S1/\prs.length=(L.ables s).length/\∀(j:Nat) pr w,prs[j]?=some pr->(L.ables s)[j]?=some w->PairOk L s S S1 pr w) (fun k hk=>?_) ?_
 ·refine B6 (nats (L.ables s)) (fun k acc S1=>∃kts' prs,Lv mg L s (k * 216) S1 q p d kts'/\Ks S S1/\acc=prs.map Gh/\prs.length=k/\∀(j:Nat) pr w,prs[j]?=some pr->(L.ables s)[j]?=some w->PairOk L s S S1 pr w) (fun k hk=>hk) (Xp (by unfold nats;rw[List.length_map];omega)) ⟨kts,[],lv.mono (by omega),Ks.refl,rfl,rfl,fun _ _ _ z=>by cases z⟩ ?_ ?_
  ·rintro k x acc S1 ek ⟨kts1,prs,lv1,k1,rfl,hl,ok⟩
   unfold nats at ek
   rw[List.getElem?_map] at ek
   cases ex:(L.ables s)[k]? with
   |none=>rw[ex] at ek;cases ek
   |some w =>
    rw[ex] at ek
    cases ek
    have hk:k<(L.ables s).length:=(List.getElem?_eq_some_iff.mp ex).1
    have hw:=(ables_mem.mp (List.mem_of_getElem? ex)).1
    refine⟨fun _=>⟨_,lv1.me,rfl,L,q,p,d,kts1,s,k * 216,w,rfl,lv1,sv,hw,by omega,fun S2 kts2 r lv2 k2 nr er=>⟨r,clo L s w,L.ables s,rfl,er,by have:=E8 L s w;omega,fun b hb=>⟨kts2,prs++[(r,b)],(lv2.new hb).mono (by omega),(k1.trans k2).trans (Ks.new hb),by rw[List.map_append];rfl,by rw[List.length_append,hl];rfl,fun j pr v ej ev=>?_⟩⟩⟩,fun z=>(by cases z)⟩
    by_cases z:j<prs.length
    ·rw[List.getElem?_append_left z] at ej
     exact(ok j pr v ej ev).ks (k2.trans (Ks.new hb))
    ·have hj:j<(prs++[(r,b)]).length:=(List.getElem?_eq_some_iff.mp ej).1
     rw[List.length_append,List.length_singleton] at hj
     have ez:j=k:=by omega
     subst ez
     rw[ex] at ev
     cases ev
     rw[List.getElem?_append_right (by omega),hl,Nat.sub_self] at ej
     cases ej
     have nb:r≠b:=fun z=>by rw[<-z,er] at hb;cases hb
     exact⟨by rw[Ab nb];exact er,Zd,nb,nr.back k1,Nw.of (k1.trans k2) hb⟩
  ·rintro acc S1 ⟨kts1,prs,lv1,k1,rfl,hl,ok⟩
   have el:(nats (L.ables s)).length=(L.ables s).length:=List.length_map _
   rw[el] at hl
   exact hk _ _ ⟨prs,rfl,k1,hl,ok⟩
 rintro _ S1 ⟨prs,rfl,k1,hl,ok⟩
 have o0:0<=sizeLine:=by decide
 refine⟨o0,fun u hu=>⟨o0,fun v hv=>⟨show 2<=sizeLine by decide,prs.map Gh,fun i=>((((L.ables s)[i]?.map fun w=>(An L s w).length).getD 0:Nat):Int),rfl,fun t ht=>?_,fun i x ex=>?_,fun ez=>?_,fun i x ex hb=>?_⟩⟩⟩
 ·obtain⟨pr,_,rfl⟩:=List.mem_map.mp ht
  exact trivial
 all_goals have k3:Ks S1 (updT (updT S1 u (.lst [])) v (.lst [])):=(Ks.new hu).trans (Ks.new hv)
 ·obtain⟨pr,w,ep,ew,rfl⟩:=Lq hl ex
  have ok':=(ok i pr w ep ew).ks k3
  refine⟨.ref pr.1,pr.2,_,rfl,ok'.b,?_,rfl⟩
  dsimp only
  rw[ew,Ap];rfl
 ·have ea:L.ables s=[]:=List.length_eq_zero_iff.mp (by rw[<-hl,<-List.length_map (f:=Gh),ez];rfl)
  have nuv:u≠v:=fun z=>by rw[<-z,Zd] at hv;cases hv
  refine h _ u v [] [] (k1.trans k3) (Nw.of k1 hu) (Nw.of (k1.trans (Ks.new hu)) hv) nuv ?_ Zd (.inl ⟨ea,rfl,rfl⟩)
  rw[Ab nuv];exact Zd
 ·obtain⟨pr,w,ep,ew,rfl⟩:=Lq hl ex
  have ok':=(ok i pr w ep ew).ks k3
  refine h _ pr.1 pr.2 _ _ (k1.trans k3) ok'.na ok'.nb ok'.ne ok'.a ok'.b (.inr ⟨i,w,⟨ew,fun j v hj ev=>?_⟩,rfl,rfl⟩)
  have z:=hb j (by rw[List.length_map,hl];exact hj)
  dsimp only at z
  rw[ew,ev] at z
  have z1:((An L s w).length:Int)<=((An L s v).length:Int):=z.1
  have z2:j<i->((An L s w).length:Int)<((An L s v).length:Int):=z.2
  exact⟨by omega,fun hji=>by have:=z2 hji;omega⟩
def Vz:List T->TH->UX->Prop:=fun ts S Pp=>∃L s,ts=[Lm.tree L,Sta.tree s]/\L.V/\SV L s ∧
 ∀S' r1 r2 a b,Ks S S'->Nw S r1->Nw S r2->r1≠r2->S' r1=some (.lst (nats a))->S' r2=some (.lst (nats b))->KeptP L s a b->Pp (.tup [.ref r1,.ref r2]) S'
theorem Y6:Zv ["loom","state"] ["loom","state"] (Zb (top 22)):=⟨rfl,rfl,rfl,by decide +kernel,rfl,by decide +kernel,by decide +kernel⟩
theorem kept{m:Nat}(N:Nm P w K mg)(d:Aa K mg "kept" ["loom","state"] (top 22))(c_i_Leaver:HasI P w K mg base m (cAt mg "Leaver") "Leaver" ["self","loom"] (Pi mg))(c_m_choose:HasM P w K mg base m (cAt mg "Leaver") "choose" ["self","state"] (Lp mg)):Has P w K mg base (m+2) "kept" ["loom","state"] Vz:=by
 have sc:=Y6
 refine Ag (k:=m+1) d sc (fun ts S Pp h=>?_) fun cdv f A outer s H E hr=>?_
 ·obtain⟨_,_,rfl,_⟩:=h;rfl
 have hr1:=hr
 have hr:=hr.mono (Nat.le_succ m)
 refine⟨_,(Zo (Zr (Zm c_m_choose hr (Ly c_i_Leaver hr1 rfl (Zc (uv 0) Zn)) (Zc (uv 1) Zn)))),fun ts S Pp h=>?_⟩
 obtain⟨L,s,rfl,V,sv,h⟩:=h
 intro q hq
 refine⟨L,q,rfl,Zd,V,fun p d S' lv keep=>⟨rfl,_,(lv s).me,rfl,L,q,p,d,[],s,rfl,lv s,sv,fun S2 r1 r2 a b k2 n1 n2=>?_⟩⟩
 have k1:Ks S S':=fun b c e _=>by
  have nb:b≠q:=fun z=>by rw[z,hq] at e;cases e
  exact keep b c nb (by rw[Ab nb];exact e)
 exact h S2 r1 r2 a b (k1.trans k2) (n1.back k1) (n2.back k1)
end
end K52
end
section
namespace K52
open PySem PySem.Spec PyProof.Rows L2 TL
seal UE UT UA US USs UI UG UO UW PTs Aq Ax Cj D0 uOr Hs
theorem Kp.ks{S S':TH}(k:Kp S S'):Ks S S':=fun b c e _=>k b c e
section
variable{P:Program}{w:World}{K:PySem.W.Frag}{mg:Str->Option Value}{base:Heap}
def Lo:List T->TH->UX->Prop:=fun ts S Pp=>∃L s w,ts=[Lm.tree L,Sta.tree s,.int ((w:Nat):Int)]/\Wl L s w/\∀S',Kp S S'->Pp (.lst (nats (clo L s w))) S'
theorem O5:Zv ["_law_loom_here","_law_state","_law_worker","_law_chosen","_law_turn","_law_other"] ["_law_loom_here","_law_state","_law_worker"] (Zb (top 50)):=⟨rfl,rfl,rfl,by decide +kernel,rfl,by decide +kernel,by decide +kernel⟩
theorem Kj{m:Nat}(N:Nm P w K mg)(d:Aa K mg "_law_closed" ["_law_loom_here","_law_state","_law_worker"] (top 50))(c_law_meets:Has P w K mg base m "_law_meets" ["_law_loom_here","_law_state","_law_worker","_law_workers"] Ka):Has P w K mg base (m+1) "_law_closed" ["_law_loom_here","_law_state","_law_worker"] Lo:=by
 have sc:=O5
 refine Ag (k:=m) d sc (fun ts S Pp h=>?_) fun cdv f A outer s H E hr=>?_
 ·obtain⟨_,_,_,rfl,_⟩:=h;rfl
 have hu64:=hr.units
 refine⟨_,(Zs (Zt 3 sc.nd (Bk (Zc (uv 2) Zn)))
   (Zs (Dj PassesOwn.never rfl (Xu (Zx (uv 0) Zi)) (Ca 4 sc.nd) (Zo (Dj PassesOwn.never rfl (Ba rfl N.range (Zc (Zl rfl N.len (Zc (Zx (uv 0) Zi) Zn)) Zn)) (Ca 5 sc.nd) (Zo (Ac (UW.ut (B9 (Ea hu64 (uv 5) (uv 3)) (Cf (Xe (Zf c_law_meets hr rfl (Zc (uv 0) (Zc (uv 1) (Zc (uv 5) (Zc (uv 3) Zn))))))))) (Zo (Dq (Cy (uv 3) (Zc (uv 5) Zn)))) Ze)))))
   (Zo (Zr (M9 rfl N.sorted (Zc (uv 3) Zn)))))),fun ts S Pp h=>?_⟩
 obtain⟨L,s,w,rfl,⟨V,sv,hw⟩,h⟩:=h
 have l6:=V.w6
 let e0:Option T:=some L.tree
 let e1:Option T:=some s.tree
 let e2:Option T:=some (.int (w:Int))
 refine Zj (fun env S1=>∃r,env=[e0,e1,e2,some (.ref r),none,none]/\S r=none/\S1=updT S r (.lst (nats [w]))) (fun k hk=>⟨show 1<=sizeLine by decide,fun r hr'=>hk _ _ ⟨r,rfl,hr',rfl⟩⟩) ?_
 rintro _ _ ⟨r,rfl,er0,rfl⟩
 let B:List Nat->Ev->TH->Prop:=fun ws env S'=>(∃a b,env=[e0,e1,e2,some (.ref r),a,b])/\Gw L s w ws/\Kp S S'/\S' r=some (.lst (nats ws))
 have el:(L.ws.map T.int).length=L.ws.length:=List.length_map _
 refine Zj (fun env S'=>∃ws,B ws env S'/\Closed L s ws) (fun k hk=>⟨_,at4,fun k env S'=>∃ws,B ws env S'/\(Closed L s ws\/k+1<=ws.length),⟨[w],⟨⟨_,_,rfl⟩,Gw.one hw,Kp.new er0,Zd⟩,.inr (Nat.le_refl _)⟩,?_,?_⟩) ?_
 ·rintro k x env S1 _ ⟨ws0,⟨⟨a,b,rfl⟩,g0,k0,er1⟩,hc⟩
  refine⟨_,at4,by rw[el];omega,by rw[el];omega,fun j env S'=>∃ws,B ws env S'/\(ws0.length<ws.length\/(ws=ws0/\∀o,o<j->o ∉ ws0->ws0.any (med L s o)=false))/\(Closed L s ws0->ws=ws0),⟨ws0,⟨⟨_,_,rfl⟩,g0,k0,er1⟩,.inr ⟨rfl,fun o z=>by omega⟩,fun _=>rfl⟩,?_,?_⟩
  ·rw[el,Int.toNat_natCast]
   rintro j y env S2 ej ⟨ws,⟨⟨a,b,rfl⟩,g,k2,er⟩,hg,hz⟩
   obtain⟨hj,rfl⟩:=Pc ej
   have lw:=g.len
   have et:((nats ws).any fun z=>teq 0 z (cv S2 (.int (j:Int))))=decide (j∈ws):=Dv ws j
   by_cases hn:j∈ws
   ·refine C8 (fun P' h=>⟨0,true,nats ws,by omega,D2 er,(DatN.int _).q,Bq ws,?_⟩) ⟨fun z=>(by cases z),fun _=>⟨ws,⟨⟨_,_,rfl⟩,g,k2,er⟩,?_,hz⟩⟩
    ·rw[et,decide_eq_true hn];exact h
    ·rcases hg with z|⟨rfl,z⟩
     ·exact .inl z
     ·refine .inr ⟨rfl,fun o ho hno=>?_⟩
      by_cases q:o=j
      ·rw[q] at hno;exact absurd hn hno
      ·exact z o (by omega) hno
   ·refine Dp (fun P' h=>⟨0,true,nats ws,by omega,D2 er,(DatN.int _).q,Bq ws,?_⟩) ⟨L,s,j,ws,r,rfl,⟨V,sv,hj⟩,er,g.lt,fun hm=>?_,fun hm=>⟨ws,⟨⟨_,_,rfl⟩,g,k2,er⟩,?_,hz⟩⟩
    ·rw[et,decide_eq_false hn];exact h
    ·have hm:ws.any (med L s j)=true:=hm
     have ln:nats ws++[T.int (j:Int)]=nats (ws++[j]):=by unfold nats;rw[List.map_append];rfl
     refine⟨⟨_,er⟩,nats ws,er,Xo (by rw[Ap];omega),ws++[j],⟨⟨_,_,rfl⟩,g.add hj hn hm,fun b c e=>?_,?_⟩,.inl ?_,fun c0=>?_⟩
     ·rw[Ab (fun z=>by rw[z,er0] at e;cases e)];exact k2 b c e
     ·rw[ln];exact Zd
     ·rw[List.length_append,List.length_singleton]
      rcases hg with z|⟨rfl,_⟩
      ·omega
      ·omega
     ·have:=hz c0
      subst this
      rw[c0 j hj hn] at hm
      cases hm
    ·have hm:ws.any (med L s j)=false:=hm
     rcases hg with z|⟨rfl,z⟩
     ·exact .inl z
     ·refine .inr ⟨rfl,fun o ho hno=>?_⟩
      by_cases q:o=j
      ·rw[q];exact hm
      ·exact z o (by omega) hno
  ·rw[el,Int.toNat_natCast,Zh]
   rintro env S2 ⟨ws,⟨⟨a,b,rfl⟩,g,k2,er⟩,hg,hz⟩
   refine⟨ws,⟨⟨_,_,rfl⟩,g,k2,er⟩,?_⟩
   rcases hg with z|⟨rfl,z⟩
   ·rcases hc with c0|c0
    ·have:=hz c0
     subst this
     omega
    ·exact .inr (by omega)
   ·exact .inl fun o ho hn=>z o ho hn
 ·rw[el]
  rintro env S2 ⟨ws,hB,hc⟩
  refine hk _ _ ⟨ws,hB,?_⟩
  rcases hc with c0|c0
  ·exact c0
  ·have:=hB.2.1.len
   omega
 rintro _ S2 ⟨ws,⟨⟨a,b,rfl⟩,g,k2,er⟩,cl⟩
 have lw:=g.len
 refine⟨_,ws.map fun n:Nat=>(n:Int),rfl,?_,by rw[List.length_map];omega,fun ns pm so=>?_⟩
 ·show S2 r=some (.lst ((ws.map fun n:Nat=>(n:Int)).map T.int))
  rw[Jf];exact er
 ·rw[g.sorted cl pm so]
  exact h S2 k2
def Rr:List T->TH->UX->Prop:=fun ts S Pp=>∃L s,ts=[Lm.tree L,Sta.tree s]/\L.V/\SV L s/\Ho s/\∀S' a b,Kp S S'->KeptP L s a b->Pp (.lst [.lst (nats a),.lst (nats b)]) S'
theorem Ur:Zv ["_law_loom_here","_law_state","_law_able_here","_law_best","_law_worker","_law_chosen","_law_going"] ["_law_loom_here","_law_state"] (Zb (top 51)):=⟨rfl,rfl,rfl,by decide +kernel,rfl,by decide +kernel,by decide +kernel⟩
theorem O6{m:Nat}(N:Nm P w K mg)(d:Aa K mg "_law_kept" ["_law_loom_here","_law_state"] (top 51))(c_law_able:Has P w K mg base m "_law_able" ["_law_loom_here","_law_state"] Jw)(c_law_closed:Has P w K mg base m "_law_closed" ["_law_loom_here","_law_state","_law_worker"] Lo):Has P w K mg base (m+1) "_law_kept" ["_law_loom_here","_law_state"] Rr:=by
 have sc:=Ur
 refine Ag (k:=m) d sc (fun ts S Pp h=>?_) fun cdv f A outer s H E hr=>?_
 ·obtain⟨_,_,rfl,_⟩:=h;rfl
 have hu0:=Ao hr
 have hu64:=hr.units
 refine⟨_,(Zs (Zt 2 sc.nd (Zf c_law_able hr rfl (Zc (uv 0) (Zc (uv 1) Zn))))
   (Zs (Zt 3 sc.nd (Ad (Zc (Ad Zn) (Zc (Ad Zn) Zn))))
   (Zs (Dj PassesOwn.never rfl (Xu (uv 2)) (Ca 4 sc.nd) (Zs (Zt 5 sc.nd (Zf c_law_closed hr rfl (Zc (uv 0) (Zc (uv 1) (Zc (uv 4) Zn)))))
   (Zs (Ar 6 sc.nd 0 ["_law_one","_law_able_here"] [none,some 2] rfl (Xu (uv 5)) (fun _ _ _ _ _=>C5 (Q4 hu64 (uv 0) (uv 1))) (fun _ _ _ _ _=>(uv 0)))
   (Zo (Ac (UW.ut (Ck (Xf hu0 (Zx (uv 3) Zi) (Ad Zn)) (Xs (Gm (Zl rfl N.len (Zc (uv 6) Zn)) (Zl rfl N.len (Zc (Zx (uv 3) Zi) Zn)))))) (Zo (Zt 3 sc.nd (Ad (Zc (uv 5) (Zc (uv 6) Zn))))) Ze)))))
   (Zo (Zr (uv 3)))))),fun ts S Pp h=>?_⟩
 obtain⟨L,s,rfl,V,sv,ho,h⟩:=h
 have l6:=V.w6
 have o0:0<=sizeLine:=by decide
 have o2:2<=sizeLine:=by decide
 let e0:Option T:=some L.tree
 let e1:Option T:=some s.tree
 let e2:Option T:=some (.lst (nats (L.ables s)))
 refine Zj (fun env S'=>env=[e0,e1,e2,none,none,none,none]/\S=S') (fun k hk=>⟨L,s,rfl,V,sv,ho,hk _ _ ⟨rfl,rfl⟩⟩) ?_
 rintro _ _ ⟨rfl,rfl⟩
 refine Zj (fun env S'=>env=[e0,e1,e2,some (.lst [.lst (nats []),.lst (nats [])]),none,none,none]/\S=S') (fun k hk=>⟨o0,o0,o2,hk _ _ ⟨rfl,rfl⟩⟩) ?_
 rintro _ _ ⟨rfl,rfl⟩
 let B:Nat->Ev->TH->Prop:=fun k env S'=>∃a b,(∃e4 e5 e6,env=[e0,e1,e2,some (.lst [.lst (nats a),.lst (nats b)]),e4,e5,e6])/\Kp S S'/\((k=0/\a=[]/\b=[])\/∃i w,i<k/\Best L s k i w/\a=clo L s w/\b=An L s w)
 refine Zj (B (L.ables s).length) (fun k hk=>⟨B,⟨[],[],⟨_,_,_,rfl⟩,Kp.rfl,.inl ⟨rfl,rfl,rfl⟩⟩,?_,?_⟩) ?_
 ·rintro k x env S1 ek ⟨a,b,⟨e4,e5,e6,rfl⟩,k1,hb⟩
  unfold nats at ek
  rw[List.getElem?_map] at ek
  cases ex:(L.ables s)[k]? with
  |none=>rw[ex] at ek;cases ek
  |some v =>
   rw[ex] at ek
   cases ek
   have vm:=List.mem_of_getElem? ex
   have hv:=(ables_mem.mp vm).1
   let e4:Option T:=some (.int (v:Int))
   let e3:Option T:=some (.lst [.lst (nats a),.lst (nats b)])
   refine Zj (fun env S'=>env=[e0,e1,e2,e3,e4,some (.lst (nats (clo L s v))),e6]/\Kp S S') (fun k hk=>⟨L,s,v,rfl,⟨V,sv,hv⟩,fun S' kp=>hk _ _ ⟨rfl,k1.trans kp⟩⟩) ?_
   clear k1
   rintro _ S1 ⟨rfl,k1⟩
   let e5:Option T:=some (.lst (nats (clo L s v)))
   refine Zj (fun env S'=>env=[e0,e1,e2,e3,e4,e5,some (.lst (nats (An L s v)))]/\S1=S') (fun k hk=>?_) ?_
   ·refine Fi (ts:=nats (clo L s v)) (f:=Cq fun w=>decide (w∈L.ables s)) (fun k hk=>hk) (Xp (by rw[Ap];have:=E8 L s v;omega)) (fun x hx A B hA hB=>?_) ?_
    ·obtain⟨o,_,rfl⟩:=List.mem_map.mp hx
     refine⟨0,true,nats (L.ables s),by omega,rfl,(DatN.int _).q,Bq _,?_⟩
     have et:((nats (L.ables s)).any fun z=>teq 0 z (cv S1 (.int (o:Int))))=decide (o∈L.ables s):=Dv _ o
     rw[et]
     cases eo:decide (o∈L.ables s) with
     |true=>exact⟨fun _=>hA _ (by show (if decide ((o:Int).toNat∈L.ables s) then _ else _)=_;rw[Int.toNat_natCast,eo];rfl),fun z=>(by cases z)⟩
     |false=>exact⟨fun z=>(by cases z),fun _=>hB (by show (if decide ((o:Int).toNat∈L.ables s) then _ else _)=_;rw[Int.toNat_natCast,eo];rfl)⟩
    ·rw[Fx]
     exact hk _ _ ⟨rfl,rfl⟩
   rintro _ _ ⟨rfl,rfl⟩
   have new:(∀j v',j<k->(L.ables s)[j]?=some v'->(An L s v).length<(An L s v').length)->∃i w,i<k+1/\Best L s (k+1) i w/\clo L s v=clo L s w/\An L s v=An L s w:=fun hlt=>by
    refine⟨k,v,Nat.lt_succ_self k,⟨ex,fun j v' hj ej=>?_⟩,rfl,rfl⟩
    by_cases z:j=k
    ·subst z
     rw[ex] at ej
     cases ej
     exact⟨Nat.le_refl _,fun z=>absurd z (Nat.lt_irrefl _)⟩
    ·have:=hlt j v' (by omega) ej
     exact⟨by omega,fun _=>this⟩
   rcases hb with⟨rfl,rfl,rfl⟩|⟨i,w,hi,⟨ei,bi⟩,rfl,rfl⟩
   ·refine Cv (fun P' h=>⟨_,at1,o0,h⟩) ⟨fun _=>⟨o2,clo L s v,An L s v,⟨_,_,_,rfl⟩,k1,.inr (new fun j _ hj=>by omega)⟩,fun z=>(by cases z)⟩
   ·have gn:(nats (An L s w)).isEmpty=false:=by
     cases e:An L s w with
     |nil=>exact absurd e (Qp (List.mem_of_getElem? ei))
     |cons _ _=>rfl
    refine Bd (fun P' h=>⟨_,at1,o0,?_⟩) ⟨_,at1,fun z=>⟨o2,clo L s v,An L s v,⟨_,_,_,rfl⟩,k1,.inr (new fun j v' hj ej=>?_)⟩,fun z=>⟨clo L s w,An L s w,⟨_,_,_,rfl⟩,k1,.inr ⟨i,w,by omega,⟨ei,fun j v' hj ej=>?_⟩,rfl,rfl⟩⟩⟩
    ·show P' (Bool.xor false (nats (An L s w)).isEmpty) S1
     rw[gn];exact h
    ·have z:(((nats (An L s v)).length:Nat):Int)<((nats (An L s w)).length:Nat):=of_decide_eq_true z
     rw[Ap,Ap] at z
     have:=(bi j v' hj ej).1
     omega
    ·have z:¬ (((nats (An L s v)).length:Nat):Int)<((nats (An L s w)).length:Nat):=of_decide_eq_false z
     rw[Ap,Ap] at z
     by_cases q:j=k
     ·subst q
      rw[ex] at ej
      cases ej
      exact⟨by omega,fun _=>by omega⟩
     ·exact bi j v' (by omega) ej
 ·rw[Ap]
  intro env S1 hB
  exact hk _ _ hB
 rintro _ S1 ⟨a,b,⟨e4,e5,e6,rfl⟩,k1,hb⟩
 refine h S1 a b k1 ?_
 rcases hb with⟨z,rfl,rfl⟩|⟨i,w,_,bi,rfl,rfl⟩
 ·exact .inl ⟨List.length_eq_zero_iff.mp z,rfl,rfl⟩
 ·exact .inr ⟨i,w,bi,rfl,rfl⟩
theorem At(ws:List Nat):DatN 1 (.lst (nats ws)):=.lst fun t ht=>by
 obtain⟨w,_,rfl⟩:=List.mem_map.mp ht
 exact .int _
theorem D3{x y:T}(hx:DatN 1 x)(hy:DatN 1 y):DatN 2 (.lst [x,y]):=.lst (ac hx (ac hy an))
theorem B5(ws:List Nat):DatN 1 (.lst (nats ws++[.int 9])):=.lst fun t ht=>by
 rcases List.mem_append.mp ht with z|z
 ·obtain⟨w,_,rfl⟩:=List.mem_map.mp z
  exact .int _
 ·rw[List.mem_singleton.mp z];exact .int _
theorem Q7{S:TH}{t r1 r2:Addr}{x y:List T}(h:S t=none)(e1:S r1=some (.lst x))(e2:S r2=some (.lst y)):cw (updT S t (.lst [.ref r1,.ref r2])) (.ref t)=.lst [.lst x,.lst y]:=by
 have n1:r1≠t:=fun z=>by rw[z,h] at e1;cases e1
 have n2:r2≠t:=fun z=>by rw[z,h] at e2;cases e2
 rw[R1 Zd]
 show T.lst [cv _ (.ref r1),cv _ (.ref r2)]=_
 rw[Jy (ts:=x) (by rw[Ab n1];exact e1),Jy (ts:=y) (by rw[Ab n2];exact e2)]
theorem Jn{S:TH}{t r1 r2:Addr}{x y:List T}(h:S t=none)(e1:S r1=some (.lst x))(e2:S r2=some (.lst y))(dx:DatN 1 (.lst x))(dy:DatN 1 (.lst y)):DatQ 2 (cw (updT S t (.lst [.ref r1,.ref r2])) (.ref t)):=by
 rw[Q7 h e1 e2];exact(D3 dx dy).q
theorem Hr{S:TH}{t r1 r2:Addr}{x y:List T}(h:S t=none)(e1:S r1=some (.lst x))(e2:S r2=some (.lst y))(dx:DatN 1 (.lst x))(dy:DatN 1 (.lst y)):
  teq 2 (cw (updT S t (.lst [.ref r1,.ref r2])) (.ref t)) (cw (updT S t (.lst [.ref r1,.ref r2])) (.lst [.lst x,.lst y]))=true:=by
 rw[Q7 h e1 e2];exact Im (D3 dx dy).q
def Qu:List T->TH->UX->Prop:=fun ts S Pp=>∃L s,ts=[Lm.tree L,Sta.tree s]/\L.V/\SV L s/\Ho s/\∀S',Ks S S'->Pp (.bl true) S'
theorem Uh:Zv ["_law_loom_here","_law_there","_law_due","_law_found","_law_other","_law_again"] ["_law_loom_here","_law_there"] (Zb (top 52)):=⟨rfl,rfl,rfl,by decide +kernel,rfl,by decide +kernel,by decide +kernel⟩
theorem M4{m:Nat}(N:Nm P w K mg)(d:Aa K mg "_law_right" ["_law_loom_here","_law_there"] (top 52))(c_law_kept:Has P w K mg base m "_law_kept" ["_law_loom_here","_law_state"] Rr)(c_kept:Has P w K mg base m "kept" ["loom","state"] Vz)(c_law_meets:Has P w K mg base m "_law_meets" ["_law_loom_here","_law_state","_law_worker","_law_workers"] Ka):Has P w K mg base (m+1) "_law_right" ["_law_loom_here","_law_there"] Qu:=by
 have sc:=Uh
 refine Ag (k:=m) d sc (fun ts S Pp h=>?_) fun cdv f A outer s H E hr=>?_
 ·obtain⟨_,_,rfl,_⟩:=h;rfl
 have hu0:=Ao hr
 have hu64:=hr.units
 refine⟨_,(Zs (Zt 2 sc.nd (Zf c_law_kept hr rfl (Zc (uv 0) (Zc (uv 1) Zn))))
   (Zs (Zt 3 sc.nd (Zf c_kept hr rfl (Zc (uv 0) (Zc (uv 1) Zn))))
   (Zs (Ac (UW.ut (Ck (Do (Xe (Jz rfl N.isinstance (Zc (uv 3) (Zc (Xv rfl N.tuple boot_tuple) Zn))))) (Ck (Bs hu0 (Zl rfl N.len (Zc (uv 3) Zn)) Zi) (Xs (Do (Xe (L5 rfl N.isinstance (Zc (Zx (uv 3) Zi) (Zc (Xv rfl N.list boot_list) Zn))))))))) (Zo (Zr B4)) Ze)
   (Zs (Ac (UW.ut (Ck (Do (Xe (L5 rfl N.isinstance (Zc (Zx (uv 3) Zi) (Zc (Xv rfl N.list boot_list) Zn))))) (Xs (Z3 hu64 (Bk (Zc (Zx (uv 3) Zi) (Zc (Zx (uv 3) Zi) Zn))) (uv 2))))) (Zo (Zr B4)) Ze)
   (Zs (Dj PassesOwn.never rfl (Ba rfl N.range (Zc (Zl rfl N.len (Zc (Zx (uv 0) Zi) Zn)) Zn)) (Ca 4 sc.nd) (Zo (Ac (UW.ut (B9 (Bs hu0 (Zx (uv 2) Zi) (Ad Zn)) (B9 (Ea hu64 (uv 4) (Zx (uv 3) Zi)) (Cf (Xe (Zf c_law_meets hr rfl (Zc (uv 0) (Zc (uv 1) (Zc (uv 4) (Zc (Zx (uv 3) Zi) Zn)))))))))) (Zo (Zr B4)) Ze)))
   (Zs (Dq (Cy (Zx (uv 3) Zi) (Zc Zi Zn)))
   (Zs (Dq (Cy (Zx (uv 3) Zi) (Zc Zi Zn)))
   (Zs (Zt 5 sc.nd (Zf c_kept hr rfl (Zc (uv 0) (Zc (uv 1) Zn))))
   (Zo (Zr (Jp (Sg hu64 (Bk (Zc (Zx (uv 5) Zi) (Zc (Zx (uv 5) Zi) Zn))) (uv 2)) (J0 (Sg hu64 (Bk (Zc (Zx (uv 3) Zi) (Zc (Zx (uv 3) Zi) Zn))) (Ad (Zc (Zp (Zx (uv 2) Zi) (Ad (Zc Zi Zn))) (Zc (Zp (Zx (uv 2) Zi) (Ad (Zc Zi Zn))) Zn)))))))))))))))),fun ts S Pp h=>?_⟩
 obtain⟨L,s,rfl,V,sv,ho,h⟩:=h
 have l6:=V.w6
 have o0:0<=sizeLine:=by decide
 have o1:1<=sizeLine:=by decide
 have o2:2<=sizeLine:=by decide
 let e0:Option T:=some L.tree
 let e1:Option T:=some s.tree
 refine Zj (fun env S'=>∃a b,env=[e0,e1,some (.lst [.lst (nats a),.lst (nats b)]),none,none,none]/\Ks S S'/\KeptP L s a b) (fun k hk=>⟨L,s,rfl,V,sv,ho,fun S' a b kp kt=>hk _ _ ⟨a,b,rfl,kp.ks,kt⟩⟩) ?_
 rintro _ S1 ⟨a,b,rfl,k1,kt⟩
 let e2:Option T:=some (.lst [.lst (nats a),.lst (nats b)])
 have la:=kt.len
 refine Zj (fun env S'=>∃r1 r2,env=[e0,e1,e2,some (.tup [.ref r1,.ref r2]),none,none]/\Ks S S'/\Nw S r1/\Nw S r2/\r1≠r2/\S' r1=some (.lst (nats a))/\S' r2=some (.lst (nats b))) (fun k hk=>⟨L,s,rfl,V,sv,fun S' r1 r2 a' b' ks n1 n2 ne x1 x2 kt'=>?_⟩) ?_
 ·obtain⟨rfl,rfl⟩:=kt.same kt'
  exact hk _ _ ⟨r1,r2,rfl,k1.trans ks,n1.back k1,n2.back k1,ne,x1,x2⟩
 clear k1
 rintro _ S1 ⟨r1,r2,rfl,k1,n1,n2,ne,x1,x2⟩
 let e3:Option T:=some (.tup [.ref r1,.ref r2])
 refine Zj (fun env S'=>env=[e0,e1,e2,e3,none,none]/\S1=S') (fun k hk=>Bd (fun P' h=>⟨by decide,h⟩) (Bd (fun P' h=>h) ⟨_,at0,r1,nats a,"list",rfl,x1,by decide,no_ rfl (hk _ _ ⟨rfl,rfl⟩)⟩)) ?_
 rintro _ _ ⟨rfl,rfl⟩
 refine Zj (fun env S'=>∃t,env=[e0,e1,e2,e3,none,none]/\S1 t=none/\S'=updT S1 t (.lst [.ref r1,.ref r2])) (fun k hk=>Bd (fun P' h=>⟨_,at1,r2,nats b,"list",rfl,x2,by decide,h⟩) ⟨_,at0,_,at1,o2,fun t ht=>⟨2,by decide,Jn ht x1 x2 (At a) (At b),(D3 (At a) (At b)).q,no_ (congrArg (Bool.xor true) (Hr ht x1 x2 (At a) (At b))) (hk _ _ ⟨t,rfl,ht,rfl⟩)⟩⟩) ?_
 rintro _ _ ⟨t,rfl,ht,rfl⟩
 have k2:=k1.trans (Ks.new (c:=.lst [.ref r1,.ref r2]) ht)
 have x1':=(Ks.new (c:=.lst [.ref r1,.ref r2]) ht).lst x1
 have x2':=(Ks.new (c:=.lst [.ref r1,.ref r2]) ht).lst x2
 generalize updT S1 t (.lst [.ref r1,.ref r2])=S2 at k2 x1' x2'
 clear x1 x2 k1 ht
 have el:(L.ws.map T.int).length=L.ws.length:=List.length_map _
 refine Zj (fun env S'=>(∃e4,env=[e0,e1,e2,e3,e4,none])/\S2=S') (fun k hk=>⟨_,at4,by rw[el];omega,by rw[el];omega,fun _ env S'=>(∃e4,env=[e0,e1,e2,e3,e4,none])/\S2=S',⟨⟨_,rfl⟩,rfl⟩,?_,fun env S' hI=>hk _ _ hI⟩) ?_
 ·rw[el,Int.toNat_natCast]
  rintro j x env S' ej ⟨⟨e4,rfl⟩,rfl⟩
  obtain⟨hj,rfl⟩:=Pc ej
  cases ea:(nats a).isEmpty with
  |true =>
   refine C8 (fun P' h=>⟨_,at0,o0,?_⟩) ⟨fun z=>(by cases z),fun _=>⟨⟨_,rfl⟩,rfl⟩⟩
   show P' (Bool.xor true (nats a).isEmpty) S2
   rw[ea];exact h
  |false =>
   have et:((nats a).any fun z=>teq 0 z (cv S2 (.int (j:Int))))=decide (j∈a):=Dv a j
   refine Dp (fun P' h=>⟨_,at0,o0,?_⟩) ?_
   ·show P' (Bool.xor true (nats a).isEmpty) S2
    rw[ea];exact h
   by_cases hn:j∈a
   ·refine C8 (fun P' h=>⟨_,at0,0,true,nats a,by omega,D2 x1',(DatN.int _).q,Bq a,?_⟩) ⟨fun z=>(by cases z),fun _=>⟨⟨_,rfl⟩,rfl⟩⟩
    rw[et,decide_eq_true hn];exact h
   ·refine Dp (fun P' h=>⟨_,at0,0,true,nats a,by omega,D2 x1',(DatN.int _).q,Bq a,?_⟩) ⟨_,at0,L,s,j,a,r1,rfl,⟨V,sv,hj⟩,x1',kt.lt,no_ (kt.closed j hj hn) ⟨⟨_,rfl⟩,rfl⟩⟩
    rw[et,decide_eq_false hn];exact h
 rintro _ _ ⟨⟨e4,rfl⟩,rfl⟩
 refine Zj (fun env S'=>env=[e0,e1,e2,e3,e4,none]/\S'=updT S2 r1 (.lst (nats a++[.int 9]))) (fun k hk=>⟨_,at0,⟨_,x1'⟩,nats a,x1',Xo (by rw[Ap];omega),hk _ _ ⟨rfl,rfl⟩⟩) ?_
 rintro _ _ ⟨rfl,rfl⟩
 have k3:Ks S (updT S2 r1 (.lst (nats a++[.int 9]))):=n1.upd k2
 have y1:updT S2 r1 (.lst (nats a++[.int 9])) r1=some (.lst (nats a++[.int 9])):=Zd
 have y2:updT S2 r1 (.lst (nats a++[.int 9])) r2=some (.lst (nats b)):=by rw[Ab ne.symm];exact x2'
 generalize updT S2 r1 (.lst (nats a++[.int 9]))=S3 at k3 y1 y2
 refine Zj (fun env S'=>env=[e0,e1,e2,e3,e4,none]/\S'=updT S3 r2 (.lst (nats b++[.int 9]))) (fun k hk=>⟨_,at1,⟨_,y2⟩,nats b,y2,Xo (by rw[Ap];omega),hk _ _ ⟨rfl,rfl⟩⟩) ?_
 rintro _ _ ⟨rfl,rfl⟩
 have k4:Ks S (updT S3 r2 (.lst (nats b++[.int 9]))):=n2.upd k3
 have z1:updT S3 r2 (.lst (nats b++[.int 9])) r1=some (.lst (nats a++[.int 9])):=by rw[Ab ne];exact y1
 have z2:updT S3 r2 (.lst (nats b++[.int 9])) r2=some (.lst (nats b++[.int 9])):=Zd
 generalize updT S3 r2 (.lst (nats b++[.int 9]))=S4 at k4 z1 z2
 refine Zj (fun env S'=>∃r3 r4,env=[e0,e1,e2,e3,e4,some (.tup [.ref r3,.ref r4])]/\Ks S4 S'/\S' r3=some (.lst (nats a))/\S' r4=some (.lst (nats b))) (fun k hk=>⟨L,s,rfl,V,sv,fun S' r3 r4 a' b' ks _ _ _ x1 x2 kt'=>?_⟩) ?_
 ·obtain⟨rfl,rfl⟩:=kt.same kt'
  exact hk _ _ ⟨r3,r4,rfl,ks,x1,x2⟩
 rintro _ S5 ⟨r3,r4,rfl,k5,x3,x4⟩
 refine⟨_,at0,_,at1,o2,fun t ht=>⟨2,by decide,Jn ht x3 x4 (At a) (At b),(D3 (At a) (At b)).q,yes_ (congrArg (Bool.xor false) (Hr ht x3 x4 (At a) (At b))) ?_⟩⟩
 have k6:=Ks.new (c:=.lst [.ref r3,.ref r4]) ht
 generalize updT S5 t (.lst [.ref r3,.ref r4])=S6 at k6
 have lp:∀ws:List Nat,ws.length<=L.ws.length->(nats ws).length+([.int 9]:List T).length<=sizeLine:=fun ws hl=>by
  rw[Ap]
  exact Xp (by show ws.length+1<=1000;omega)
 refine⟨_,at0,_,at1,o2,fun u hu=>⟨_,at0,o1,lp a la.1,_,at1,o1,lp b la.2,o2,2,by decide,Jn hu (k6.lst (k5.lst z1)) (k6.lst (k5.lst z2)) (B5 a) (B5 b),(D3 (B5 a) (B5 b)).q,?_⟩⟩
 have q:=Hr hu (k6.lst (k5.lst z1)) (k6.lst (k5.lst z2)) (B5 a) (B5 b)
 show Pp (.bl (Bool.xor false (teq 2 (cw (updT S6 u (.lst [.ref r1,.ref r2])) (.ref u)) (cw (updT S6 u (.lst [.ref r1,.ref r2])) (.lst [.lst (nats a++[.int 9]),.lst (nats b++[.int 9])]))))) _
 rw[q]
 exact h _ (k4.trans (k5.trans (k6.trans (Ks.new hu))))
end
end K52
end
section
namespace K52
open PySem PySem.Spec PyProof.Rows L2 TL
seal UE UT UA US USs UI UG UO UW PTs Aq Ax D0
def v1:T:=.tup [.str "number",.int 1]
def qT:List T:=[.tup [.str "take",.str "l"],.tup [.str "add",.str "x",v1],.tup [.str "give",.str "l"]]
def qP(y:Str):List T:=[.tup [.str "check",v1],.tup [.str "put",.str y,v1],.tup [.str "check",v1]]
def qO:List T:=[.tup [.str "put",.str "y",v1],.tup [.str "add",.str "y",v1]]
def qS(y:Str):List (Str×List T):=[("p",qT),("q",qP y),("r",qO)]
def qL(y:Str)(ws:List Int):Lm:=⟨3,[("x",0),("y",0)],["l"],(qS y).map fun x=>(x.1,[],x.2),ws,[]⟩
theorem st3{ow bx lk:List Str}{a b c:T}(ha:∀n,SN ow bx lk n a)(hb:∀n,SN ow bx lk n b)(hc:∀n,SN ow bx lk n c):Fg ow bx lk [a,b,c]:=fun k t e=>by
 cases k with
 |zero=>cases e;exact ha _
 |succ k =>
  cases k with
  |zero=>cases e;exact hb _
  |succ k =>
   cases k with
   |zero=>cases e;exact hc _
   |succ k=>cases e
theorem st2{ow bx lk:List Str}{a b:T}(ha:∀n,SN ow bx lk n a)(hb:∀n,SN ow bx lk n b):Fg ow bx lk [a,b]:=fun k t e=>by
 cases k with
 |zero=>cases e;exact ha _
 |succ k =>
  cases k with
  |zero=>cases e;exact hb _
  |succ k=>cases e
theorem Gx{ow:List Str}:VF ow [] 5 v1:=.num (by decide) (by decide)
theorem qL_v{y:Str}{ws:List Int}(hy:y∈(["x","y"]:List Str))(w1:1<=ws.length)(w6:ws.length<=6)(wo:∀i∈ws,0<=i/\i<3):(qL y ws).V where
 s2:=by show (2:Int)<=3;decide
 s16:=by show (3:Int)<=16;decide
 bn:=by show 2<=8;decide
 ln:=by show 1<=4;decide
 nd:=by show (["x","y","l"]:List Str).Nodup;decide
 p1:=by show 1<=3;decide
 p4:=by show 3<=4;decide
 po:=ac ⟨by show 0<=4;decide,.nil,by show 3<=30;decide,st3 (fun _=>.take (List.mem_cons_self ..)) (fun _=>.add (List.mem_cons_self ..) Gx) (fun _=>.give (List.mem_cons_self ..))⟩
  (ac ⟨by show 0<=4;decide,.nil,by show 3<=30;decide,st3 (fun _=>.check Gx) (fun _=>.put hy Gx) (fun _=>.check Gx)⟩
  (ac ⟨by show 0<=4;decide,.nil,by show 2<=30;decide,st2 (fun _=>.put (List.mem_cons_of_mem _ (List.mem_cons_self ..)) Gx) (fun _=>.add (List.mem_cons_of_mem _ (List.mem_cons_self ..)) Gx)⟩ an))
 w1:=w1
 w6:=w6
 wo:=wo
section
variable{P:Program}{w:World}{K:PySem.W.Frag}{mg:Str->Option Value}{base:Heap}
def Sh:List T->TH->UX->Prop:=fun ts S Pp=>∃(a:Addr),ts=[.ref a]/\Sd S a/\∀L S',Lm.V L->Sd S' a->Pp (Lm.tree L) S'
theorem Uy:Zv ["_law_state","_law_value_here","_law_turned","_law_plain","_law_other","_law_programs","_law_workers"] ["_law_state"] (Zb (top 36)):=⟨rfl,rfl,rfl,by decide +kernel,rfl,by decide +kernel,by decide +kernel⟩
theorem Os{m:Nat}(N:Nm P w K mg)(d:Aa K mg "_law_queue" ["_law_state"] (top 36))(c_law_next:Has P w K mg base m "_law_next" ["_law_state","_law_size"] cNext):Has P w K mg base (m+1) "_law_queue" ["_law_state"] Sh:=by
 have sc:=Uy
 refine Ag (k:=m) d sc (fun ts S Pp h=>?_) fun cdv f A outer s H E hr=>?_
 ·obtain⟨_,rfl,_⟩:=h;rfl
 have hu0:=Ao hr
 refine⟨_,(Zs (Zt 1 sc.nd (Zu (Ae (Cs.s (Cs.i Cs.nil)))))
   (Zs (Zt 2 sc.nd (Ad (Zc (Zu (Ae (Cs.s (Cs.s Cs.nil)))) (Zc (Zu (Zc Zq (Zc Zq (Zc (uv 1) Zn)))) (Zc (Zu (Ae (Cs.s (Cs.s Cs.nil)))) Zn)))))
   (Zs (Zt 3 sc.nd (Ad (Zc (Zu (Zc Zq (Zc (uv 1) Zn))) (Zc (Zu (Zc Zq (Zc (Zx (Ad (Ae (Cs.s (Cs.s Cs.nil)))) (Zf c_law_next hr rfl (Zc (uv 0) (Zc Zi Zn)))) (Zc (uv 1) Zn)))) (Zc (Zu (Zc Zq (Zc (uv 1) Zn))) Zn)))))
   (Zs (Zt 4 sc.nd (Ad (Zc (Zu (Zc Zq (Zc Zq (Zc (uv 1) Zn)))) (Zc (Zu (Zc Zq (Zc Zq (Zc (uv 1) Zn)))) Zn))))
   (Zs (Zt 5 sc.nd (Aj rfl N.tuple (Zc (Jm 0 1 ["_law_name","_law_steps"] [none,none] rfl (Vf rfl N.zip (Zc (Ad (Ae (Cs.s (Cs.s (Cs.s Cs.nil))))) (Zc (Ad (Zc (uv 2) (Zc (uv 3) (Zc (uv 4) Zn)))) Zn))) (fun _ _ _ _ _=>Al) (fun _ _ _ _ _=>(Zu (Zc (uv 0) (Zc (Zu Zn) (Zc (Aj rfl N.tuple (Zc (uv 1) Zn)) Zn)))))) Zn)))
   (Zs (Zt 6 sc.nd (Pj (Ga (Ad (Ae (Cs.i (Cs.i (Cs.i Cs.nil))))) Cc (A7 (Zp Zi (Zf c_law_next hr rfl (Zc (uv 0) (Zc Zi Zn)))))) (Ga (Ad (Ae (Cs.i (Cs.i (Cs.i Cs.nil))))) (A7 (Zf c_law_next hr rfl (Zc (uv 0) (Zc Zi Zn)))) (A7 (Zp Zi (Zf c_law_next hr rfl (Zc (uv 0) (Zc Zi Zn))))))))
   (Zs (Ac (Xf hu0 (Zf c_law_next hr rfl (Zc (uv 0) (Zc Zi Zn))) Zi) (Zo (Zt 6 sc.nd (L3 (uv 6)))) Ze)
   (Zo (Zr (Zu (Zc Zi (Zc (Zu (Zc (Zu (Ae (Cs.s (Cs.i Cs.nil)))) (Zc (Zu (Ae (Cs.s (Cs.i Cs.nil)))) Zn))) (Zc (Zu (Zc Zq Zn)) (Zc (uv 5) (Zc (Aj rfl N.tuple (Zc (uv 6) Zn)) (Zc (Zu Zn) Zn)))))))))))))))),fun ts S0 Pp h=>?_⟩
 obtain⟨a,rfl,sd,h⟩:=h
 have o0:0<=sizeLine:=by decide
 have o1:1<=sizeLine:=by decide
 have o2:2<=sizeLine:=by decide
 have o3:3<=sizeLine:=by decide
 have o6:6<=sizeLine:=by decide
 let e0:Option T:=some (.ref a)
 let e1:Option T:=some v1
 let e2:Option T:=some (.lst qT)
 refine Zj (fun env S=>S0=S/\env=[e0,e1,none,none,none,none,none]) (fun k hk=>⟨o2,hk _ _ ⟨rfl,rfl⟩⟩) ?_
 rintro _ _ ⟨rfl,rfl⟩
 refine Zj (fun env S=>S0=S/\env=[e0,e1,e2,none,none,none,none]) (fun k hk=>⟨o2,o3,o2,o3,hk _ _ ⟨rfl,rfl⟩⟩) ?_
 rintro _ _ ⟨rfl,rfl⟩
 refine Zj (fun env S=>∃y,y∈(["x","y"]:List Str)/\Sd S a/\env=[e0,e1,e2,some (.lst (qP y)),none,none,none]) (fun k hk=>⟨o2,o2,a,2,rfl,sd,by decide,fun r S2 d2 r0 r1=>?_⟩) ?_
 ·have:r=0\/r=1:=by omega
  rcases this with rfl|rfl
  ·exact⟨_,at0,o3,o2,o3,hk _ _ ⟨"x",List.mem_cons_self ..,d2.sd,rfl⟩⟩
  ·exact⟨_,at1,o3,o2,o3,hk _ _ ⟨"y",List.mem_cons_of_mem _ (List.mem_cons_self ..),d2.sd,rfl⟩⟩
 clear sd
 rintro _ S1 ⟨y,hy,sd,rfl⟩
 let e3:Option T:=some (.lst (qP y))
 let e4:Option T:=some (.lst qO)
 refine Zj (fun env S=>S1=S/\env=[e0,e1,e2,e3,e4,none,none]) (fun k hk=>⟨o3,o3,o2,hk _ _ ⟨rfl,rfl⟩⟩) ?_
 rintro _ _ ⟨rfl,rfl⟩
 let e5:Option T:=some (.tup (((qS y).map fun x=>((x.1,[],x.2):Prg)).map Am))
 refine Zj (fun env S=>S1=S/\env=[e0,e1,e2,e3,e4,e5,none]) (fun k hk=>A1 (S:=S1) (qS y) (fun x=>T.tup [.str x.1,.lst x.2]) (fun x=>Am (x.1,[],x.2)) (fun k hk=>⟨o3,o3,rfl,hk⟩) o3 (fun x hx A B hA=>⟨fun _=>⟨o0,o3,hA⟩,fun z=>(by cases z)⟩) (hk _ _ ⟨rfl,rfl⟩)) ?_
 rintro _ _ ⟨rfl,rfl⟩
 let WG:List Int->Prop:=fun ws=>1<=ws.length/\ws.length<=6/\∀i∈ws,0<=i/\i<3
 refine Zj (fun env S=>∃(q:Addr) (ws:List Int),S q=some (.lst (ws.map T.int))/\WG ws/\q≠a/\Sd S a/\env=[e0,e1,e2,e3,e4,e5,some (.ref q)]) (fun k hk=>⟨o3,a,2,rfl,sd,by decide,fun r1 S2 d2 a0 a1=>⟨o3,a,2,rfl,d2.sd,by decide,fun r2 S3 d3 b0 b1=>⟨a,2,rfl,d3.sd,by decide,fun r3 S4 d4 c0 c1=>?_⟩⟩⟩) ?_
 ·have fin:∀xs:List Int,1<=xs.length->xs.length<=3->(∀i∈xs,0<=i/\i<3)->cutA [T.int 0,T.int 0,T.int 0] none (some (2+r1))=xs.map T.int->Sx (.lst (cutA [T.int 0,T.int 0,T.int 0] none (some (2+r1)))) (.lst (cutA [T.int 1,T.int 2,T.int 2] (some r2) (some (2+r3)))) S4 (fun r S'=>k ([e0,e1,e2,e3,e4,e5,none].set 6 (some r)) S'):=by
   intro xs l1 l3 hx ex
   have ey:cutA [T.int 1,T.int 2,T.int 2] (some r2) (some (2+r3))=(cutA ([1,2,2]:List Int) (some r2) (some (2+r3))).map T.int:=Me T.int [1,2,2] _ _
   have ly:=Ja ([1,2,2]:List Int) (some r2) (some (2+r3))
   have ly:(cutA ([1,2,2]:List Int) (some r2) (some (2+r3))).length<=3:=ly
   have my:∀i∈cutA ([1,2,2]:List Int) (some r2) (some (2+r3)),0<=i/\i<3:=fun i hi=>(ac (p:=fun i:Int=>0<=i/\i<3) (by decide) (ac (by decide) (ac (by decide) an))) i (R9 hi)
   generalize cutA ([1,2,2]:List Int) (some r2) (some (2+r3))=ys at ey ly my
   rw[ex,ey]
   refine⟨_,_,rfl,rfl,by rw[List.length_map,List.length_map];exact Xp (by omega),fun p hp=>hk _ _ ⟨p,xs++ys,by rw[Zd,List.map_append],⟨by rw[List.length_append];omega,by rw[List.length_append];omega,fun i hi=>(List.mem_append.mp hi).elim (hx i) (my i)⟩,d4.sd.ne hp,?_,rfl⟩⟩
   obtain⟨x,q⟩:=d4.sd
   exact⟨x,by rw[Ab (d4.sd.ne hp).symm];exact q⟩
  have:r1=0\/r1=1:=by omega
  rcases this with rfl|rfl
  ·exact fin [0,0] (by decide) (by decide) (ac (by decide) (ac (by decide) an)) rfl
  ·exact fin [0,0,0] (by decide) (by decide) (ac (by decide) (ac (by decide) (ac (by decide) an))) rfl
 clear sd
 rintro _ S2 ⟨q,ws,es,gw,nq,sd,rfl⟩
 refine Zj (fun env S=>∃(x:T) (ws:List Int),(x=.lst (ws.map T.int)\/(x=.ref q/\S q=some (.lst (ws.map T.int))))/\WG ws/\Sd S a/\env=[e0,e1,e2,e3,e4,e5,some x]) (fun k hk=>⟨a,2,rfl,sd,by decide,fun r S3 d3 _ _=>⟨fun _=>⟨_,(d3.same q nq).trans es,fun ys ly hn hy=>?_⟩,fun _=>hk _ _ ⟨_,ws,.inr ⟨rfl,(d3.same q nq).trans es⟩,gw,d3.sd,rfl⟩⟩⟩) ?_
 ·have pk:∃vs:List Int,ys=vs.map T.int/\∀v∈vs,v∈ws:=by
   clear ly hn
   induction ys with
   |nil=>exact⟨[],rfl,an⟩
   |cons y r ih =>
    obtain⟨vs,ev,hv⟩:=ih fun u hu=>hy u (List.mem_cons_of_mem _ hu)
    obtain⟨v,mv,rfl⟩:=List.mem_map.mp (hy y (List.mem_cons_self ..))
    exact⟨v::vs,by rw[ev];rfl,fun u hu=>(List.mem_cons.mp hu).elim (fun z=>z ▸ mv) (hv u)⟩
  obtain⟨vs,rfl,hv⟩:=pk
  rw[List.length_map,List.length_map] at ly
  have hne:vs≠[]:=fun z=>hn (fun z'=>by
   have q1:=gw.1
   have q2:ws=[]:=List.map_eq_nil_iff.mp z'
   rw[q2] at q1
   exact absurd q1 (by decide)) (by rw[z];rfl)
  exact hk _ _ ⟨_,vs,.inl rfl,⟨List.length_pos_iff.mpr hne,Nat.le_trans ly gw.2.1,fun y hy=>gw.2.2 y (hv y hy)⟩,d3.sd,rfl⟩
 clear sd es gw ws
 rintro _ S3 ⟨x,ws,ex,gw,sd,rfl⟩
 have V:(qL y ws).V:=qL_v hy gw.1 gw.2.1 gw.2.2
 have hh:=h (qL y ws) S3 V sd
 rcases ex with rfl|⟨rfl,eq⟩
 ·exact⟨o2,o2,o2,o1,o0,o6,hh⟩
 ·exact⟨o2,o2,o2,o1,_,eq,o0,o6,hh⟩
end
end K52
end
section
namespace K52
open PySem PySem.Spec PyProof.Rows L2 TL
seal UE UT UA US USs UI UG UO UW PTs Aq Ax Cj D0
structure Dfs(K:PySem.W.Frag)(mg:Str->Option Value):Prop where
 s_is_number:Aa K mg "is_number" ["thing","least","greatest"] (top 5)
 s_worth:Aa K mg "worth" ["value","size","owns","boxes"] (top 6)
 s_worth_of_two:Aa K mg "worth_of_two" ["word","one","other","size"] (top 7)
 s_touched:Aa K mg "touched" ["step"] (top 12)
 s_apart:Aa K mg "apart" ["step","other"] (top 13)
 s_names_of:Aa K mg "names_of" ["things"] (top 15)
 s_law_cell_at:Aa K mg "_law_cell_at" ["_law_script","_law_k"] (top 27)
 s_law_mixed:Aa K mg "_law_mixed" ["_law_script","_law_k"] (top 28)
 s_law_next:Aa K mg "_law_next" ["_law_state","_law_size"] (top 29)
 s_law_begun:Aa K mg "_law_begun" ["_law_script","_law_k"] (top 30)
 s_law_names:Aa K mg "_law_names" ["_law_state","_law_amount"] (top 31)
 s_law_value:Aa K mg "_law_value" ["_law_state","_law_owns","_law_deep"] (top 32)
 s_law_step:Aa K mg "_law_step" ["_law_state","_law_owns","_law_boxes","_law_locks","_law_behind"] (top 33)
 s_law_program:Aa K mg "_law_program" ["_law_state","_law_name","_law_size","_law_boxes","_law_locks","_law_most"] (top 34)
 s_law_loom:Aa K mg "_law_loom" ["_law_state","_law_most"] (top 35)
 s_law_queue:Aa K mg "_law_queue" ["_law_state"] (top 36)
 s_law_worth:Aa K mg "_law_worth" ["_law_value_here","_law_size","_law_owns"] (top 37)
 s_law_with:Aa K mg "_law_with" ["_law_row","_law_at","_law_thing"] (top 38)
 s_law_step_of:Aa K mg "_law_step_of" ["_law_loom_here","_law_state","_law_worker"] (top 39)
 s_law_go:Aa K mg "_law_go" ["_law_loom_here","_law_state","_law_worker"] (top 40)
 s_law_go_box:Aa K mg "_law_go_box" ["_law_loom_here","_law_state","_law_worker","_law_number","_law_at"] (top 41)
 s_law_go_lock:Aa K mg "_law_go_lock" ["_law_loom_here","_law_state","_law_worker","_law_at"] (top 42)
 s_law_able:Aa K mg "_law_able" ["_law_loom_here","_law_state"] (top 43)
 s_law_first:Aa K mg "_law_first" ["_law_loom_here"] (top 44)
 s_law_touched:Aa K mg "_law_touched" ["_law_step_here"] (top 46)
 s_law_apart:Aa K mg "_law_apart" ["_law_one","_law_other"] (top 47)
 s_law_still:Aa K mg "_law_still" ["_law_loom_here","_law_state","_law_worker"] (top 48)
 s_law_meets:Aa K mg "_law_meets" ["_law_loom_here","_law_state","_law_worker","_law_workers"] (top 49)
 s_kept:Aa K mg "kept" ["loom","state"] (top 22)
 s_with_able:Aa K mg "with_able" ["workers","able"] (top 24)
 s_many_able:Aa K mg "many_able" ["pair"] (top 25)
 s_law_closed:Aa K mg "_law_closed" ["_law_loom_here","_law_state","_law_worker"] (top 50)
 s_law_kept:Aa K mg "_law_kept" ["_law_loom_here","_law_state"] (top 51)
 s_law_right:Aa K mg "_law_right" ["_law_loom_here","_law_there"] (top 52)
 m_next_step:Af K (cAt mg "Machine") "next_step" "Machine.next_step" ["self","state","worker"] (Ah (top 19) 3)
 m_is_able:Af K (cAt mg "Machine") "is_able" "Machine.is_able" ["self","state","worker"] (Ah (top 19) 4)
 m_step_worth:Af K (cAt mg "Machine") "step_worth" "Machine.step_worth" ["self","state","worker","step"] (Ah (top 19) 11)
 m_box_place:Af K (cAt mg "Machine") "box_place" "Machine.box_place" ["self","name"] (Ah (top 19) 13)
 m_box_number:Af K (cAt mg "Machine") "box_number" "Machine.box_number" ["self","state","name"] (Ah (top 19) 14)
 m_holder:Af K (cAt mg "Machine") "holder" "Machine.holder" ["self","state","name"] (Ah (top 19) 15)
 m_steps_left:Af K (cAt mg "Leaver") "steps_left" "Leaver.steps_left" ["self","state","worker"] (Ah (top 23) 1)
 m_may_meddle:Af K (cAt mg "Leaver") "may_meddle" "Leaver.may_meddle" ["self","state","other","worker"] (Ah (top 23) 2)
 m_finds_meddling:Af K (cAt mg "Leaver") "finds_meddling" "Leaver.finds_meddling" ["self","state","other","worker"] (Ah (top 23) 3)
 m_meddlers:Af K (cAt mg "Leaver") "meddlers" "Leaver.meddlers" ["self","state","workers"] (Ah (top 23) 4)
 m_able:Af K (cAt mg "Machine") "able" "Machine.able" ["self","state"] (Ah (top 19) 2)
 m_grown:Af K (cAt mg "Leaver") "grown" "Leaver.grown" ["self","state","worker"] (Ah (top 23) 6)
 m_choose:Af K (cAt mg "Leaver") "choose" "Leaver.choose" ["self","state"] (Ah (top 23) 7)
 i_Machine:C6 K mg (cAt mg "Machine") "Machine" "Machine.__init__" ["self","loom"] (Ah (top 19) 0)
 i_Leaver:C6 K mg (cAt mg "Leaver") "Leaver" "Leaver.__init__" ["self","loom"] (Ah (top 23) 0)
theorem Ks.sd{S S':TH}{a:Addr}(k:Ks S S')(h:Sd S a):Sd S' a:=by
 obtain⟨x,e⟩:=h
 exact⟨x,k _ _ e fun _ z=>by cases z⟩
section
variable{P:Program}{w:World}{K:PySem.W.Frag}{mg:Str->Option Value}{base:Heap}
def cLaw:List T->TH->UX->Prop:=fun ts S Pp=>∃ns:List Int,ts=[.fls (ns.map T.int)]/\∀S',Pp (.bl true) S'
theorem scLaw:Zv ["_law_script","_law_state","_law_loom_here","_law_there","_law_turn","_law_able_here"] ["_law_script"] (Zb (top 53)):=⟨rfl,rfl,rfl,by decide +kernel,rfl,by decide +kernel,by decide +kernel⟩
theorem Wp{m:Nat}(N:Nm P w K mg)(c_law_begun:Has P w K mg base m "_law_begun" ["_law_script","_law_k"] Px)(c_law_loom:Has P w K mg base m "_law_loom" ["_law_state","_law_most"] Vt)(c_law_queue:Has P w K mg base m "_law_queue" ["_law_state"] Sh)(c_law_first:Has P w K mg base m "_law_first" ["_law_loom_here"] Ls)(c_law_next:Has P w K mg base m "_law_next" ["_law_state","_law_size"] cNext)(c_law_able:Has P w K mg base m "_law_able" ["_law_loom_here","_law_state"] Jw)(c_law_go:Has P w K mg base m "_law_go" ["_law_loom_here","_law_state","_law_worker"] cGo)(c_law_right:Has P w K mg base m "_law_right" ["_law_loom_here","_law_there"] Qu)
  {f:Addr} {fd:FuncData} (F:Fun K "law" "law" (top 53) f fd):FnOk P w K mg base CX0 (m+1) f fd ["_law_script"] (spU K cLaw):=by
 have sc:=scLaw
 refine Mi F sc (fun ts S Pp h=>?_) fun cdv A outer s H E hr=>?_
 ·obtain⟨_,rfl,_⟩:=h;rfl
 have hu0:=Ao hr
 refine⟨_,(Zs (Zt 1 sc.nd (Zf c_law_begun hr rfl (Zc (uv 0) (Zc Zi Zn))))
   (Zs (Zt 2 sc.nd (Zf c_law_loom hr rfl (Zc (uv 1) (Zc Zi Zn))))
   (Zs (Ac (Xf hu0 (Zf c_law_next hr rfl (Zc (uv 1) (Zc Zi Zn))) Zi) (Zo (Zt 2 sc.nd (Zf c_law_queue hr rfl (Zc (uv 1) Zn)))) Ze)
   (Zs (Zt 3 sc.nd (Zf c_law_first hr rfl (Zc (uv 2) Zn)))
   (Zs (Dj PassesOwn.never rfl (Ba rfl N.range (Zc Zi Zn)) (Ca 4 sc.nd) (Zs (Ac (Do (Xe (Zf c_law_right hr rfl (Zc (uv 2) (Zc (uv 3) Zn))))) (Zo (Zr B4)) Ze)
   (Zs (Zt 5 sc.nd (Zf c_law_able hr rfl (Zc (uv 2) (Zc (uv 3) Zn))))
   (Zo (Ac (Bs hu0 (uv 5) (Ad Zn)) (Zo (Zt 3 sc.nd (Zf c_law_go hr rfl (Zc (uv 2) (Zc (uv 3) (Zc (Zx (uv 5) (Zf c_law_next hr rfl (Zc (uv 1) (Zc (Zl rfl N.len (Zc (uv 5) Zn)) Zn)))) Zn)))))) Ze)))))
   (Zo (Zr (Zf c_law_right hr rfl (Zc (uv 2) (Zc (uv 3) Zn)))))))))),fun ts S0 Pp h=>?_⟩
 obtain⟨ns,rfl,h⟩:=h
 have o0:0<=sizeLine:=by decide
 let e0:Option T:=some (.fls (ns.map T.int))
 refine Zj (fun env S=>∃a,Sd S a/\env=[e0,some (.ref a),none,none,none,none]) (fun k hk=>⟨ns,0,rfl,fun a x ha=>hk _ _ ⟨a,⟨x,Zd⟩,rfl⟩⟩) ?_
 rintro _ S1 ⟨a,sd,rfl⟩
 let e1:Option T:=some (.ref a)
 refine Zj (fun env S=>∃L,Lm.V L/\Sd S a/\env=[e0,e1,some L.tree,none,none,none]) (fun k hk=>⟨a,5,rfl,sd,by decide,by decide,fun size bs ls ps ws cs S' x lv=>hk _ _ ⟨⟨size,bs,ls,ps,ws,cs⟩,lv,x.sd,rfl⟩⟩) ?_
 clear sd
 rintro _ S1 ⟨L0,V0,sd,rfl⟩
 refine Zj (fun env S=>∃L,Lm.V L/\Sd S a/\env=[e0,e1,some L.tree,none,none,none]) (fun k hk=>⟨a,4,rfl,sd,by decide,fun r S2 d2 r0 r1=>⟨fun _=>⟨a,rfl,d2.sd,fun L S3 V sd3=>hk _ _ ⟨L,V,sd3,rfl⟩⟩,fun _=>hk _ _ ⟨L0,V0,d2.sd,rfl⟩⟩⟩) ?_
 clear sd V0 L0
 rintro _ S1 ⟨L,V,sd,rfl⟩
 let e2:Option T:=some L.tree
 refine Zj (fun env S=>S1=S/\env=[e0,e1,e2,some L.first.tree,none,none]) (fun k hk=>⟨L,rfl,V,hk _ _ ⟨rfl,rfl⟩⟩) ?_
 rintro _ _ ⟨rfl,rfl⟩
 let R:Ev->TH->Prop:=fun env S=>∃(s:Sta) (e4 e5:Option T),SV L s/\Ho s/\Sd S a/\env=[e0,e1,e2,some s.tree,e4,e5]
 refine Zj R (fun kk hkk=>⟨by decide,by decide,fun _=>R,⟨L.first,_,_,Rm,Pk,sd,rfl⟩,?_,fun env S hR=>hkk _ _ hR⟩) ?_
 ·clear sd
  rintro i x env S ei ⟨s,e4,e5,sv,ho,sd,rfl⟩
  let e4:Option T:=some x
  refine Zj (fun env S'=>Sd S' a/\env=[e0,e1,e2,some s.tree,e4,e5]) (fun k hk=>⟨L,s,rfl,V,sv,ho,fun S' ks=>no_ rfl (hk _ _ ⟨ks.sd sd,rfl⟩)⟩) ?_
  clear sd
  rintro _ S ⟨sd,rfl⟩
  refine Zj (fun env S'=>S=S'/\env=[e0,e1,e2,some s.tree,e4,some (.lst (nats (L.ables s)))]) (fun k hk=>⟨L,s,rfl,V,sv,ho,hk _ _ ⟨rfl,rfl⟩⟩) ?_
  rintro _ _ ⟨rfl,rfl⟩
  refine⟨o0,fun e=>?_,fun _=>⟨s,_,_,sv,ho,sd,rfl⟩⟩
  have hl:0<((nats (L.ables s)).length:Int):=by
   cases q:nats (L.ables s) with
   |nil=>rw[q] at e;cases e
   |cons _ _=>simp
  refine⟨a,_,rfl,sd,hl,fun r S2 d2 r0 r1=>?_⟩
  obtain⟨t,ht,et⟩:=Yn (xs:=nats (L.ables s)) r0 r1
  obtain⟨u,hu,rfl⟩:=List.mem_map.mp ht
  obtain⟨u1,u2⟩:=ables_mem.mp hu
  refine⟨_,et,L,s,u,rfl,⟨V,sv,u1⟩,ho,L.next s u,e4,some (.lst (nats (L.ables s))),next_sv V sv u1 u2,next_ho ho,d2.sd,?_⟩
  unfold Fm
  rw[u2]
  rfl
 clear sd
 rintro _ S3 ⟨s,e4,e5,sv,ho,sd,rfl⟩
 exact⟨L,s,rfl,V,sv,ho,fun S' _=>h S'⟩
theorem Yd{f:Addr}{fd:FuncData}(N:Nm P w K mg)(D:Dfs K mg)(F:Fun K "law" "law" (top 53) f fd):FnOk P w K mg base CX0 60 f fd ["_law_script"] (spU K cLaw):=by
 have c_cell:=T0 (P:=P) (w:=w) (base:=base) N D.s_law_cell_at
 have c_next:=Q8 (P:=P) (w:=w) (base:=base) N D.s_law_next
 have c_begun:=Np N D.s_law_begun (N3 N D.s_law_mixed c_cell)
 have c_names:=No (m:=1) N D.s_law_names c_next
 have c_val:=Gy (m:=0) N D.s_law_value c_next 4
 have c_step:=Pa (m:=5) N D.s_law_step (c_next.mono (by omega)) c_val
 have c_prog:=Iw (m:=6) N D.s_law_program (c_next.mono (by omega)) (c_names.mono (by omega)) c_step
 have c_loom:=P6 (m:=7) N D.s_law_loom (c_next.mono (by omega)) (c_names.mono (by omega)) c_prog
 have c_queue:=Os (m:=1) N D.s_law_queue c_next
 have c_lw:=Gq (base:=base) N D.s_law_worth 5
 have c_with:=Qm (P:=P) (w:=w) (base:=base) N D.s_law_with
 have c_so:=Ip (P:=P) (w:=w) (base:=base) N D.s_law_step_of
 have c_gb:=Ko (m:=1) N D.s_law_go_box c_so c_with
 have c_gl:=Iz (m:=1) N D.s_law_go_lock c_so c_with
 have c_go:=Y8 (m:=6) N D.s_law_go (c_so.mono (by omega)) (c_with.mono (by omega)) c_lw (c_gb.mono (by omega)) (c_gl.mono (by omega))
 have c_able:=Qo (m:=7) N D.s_law_able c_go
 have c_first:=N0 (P:=P) (w:=w) (base:=base) N D.s_law_first
 have c_lt:=Ir (P:=P) (w:=w) (base:=base) N D.s_law_touched
 have c_la:=Nn (m:=1) N D.s_law_apart c_lt
 have c_st:=Mt (P:=P) (w:=w) (base:=base) N D.s_law_still
 have c_me:=Ng (m:=2) N D.s_law_meets (c_st.mono (by omega)) (c_so.mono (by omega)) c_la
 have c_cl:=Kj (m:=3) N D.s_law_closed c_me
 have c_lk:=O6 (m:=8) N D.s_law_kept c_able (c_cl.mono (by omega))
 have c_num:=is_number (P:=P) (w:=w) (base:=base) N D.s_is_number
 have c_nm:=names_of (P:=P) (w:=w) (base:=base) N D.s_names_of
 have c_two:=worth_of_two (P:=P) (w:=w) (base:=base) N D.s_worth_of_two
 have c_wo:=worth (base:=base) N D.s_worth c_two 5
 have c_to:=touched (P:=P) (w:=w) (base:=base) N D.s_touched
 have c_ap:=apart (m:=1) N D.s_apart c_to
 have m_nx:=next_step (m:=1) N D.m_next_step c_num
 have m_bp:=box_place (m:=1) N D.m_box_place c_nm
 have m_bn:=box_number (m:=2) N D.m_box_number m_bp
 have m_ho:=holder (P:=P) (w:=w) (base:=base) (m:=0) N D.m_holder
 have m_sw:=step_worth (m:=6) N D.m_step_worth (c_nm.mono (by omega)) c_wo
 have m_ia:=is_able (m:=7) N D.m_is_able (m_nx.mono (by omega)) (m_ho.mono (by omega)) (m_bn.mono (by omega)) m_sw
 have m_ab:=able (m:=8) N D.m_able m_ia
 have m_in:=init (P:=P) (w:=w) (base:=base) (m:=0) N D.i_Machine
 have m_il:=initL (m:=1) N D.i_Leaver m_in
 have m_left:=steps_left (m:=2) N D.m_steps_left m_nx
 have m_fm:=finds_meddling (m:=3) N D.m_finds_meddling (m_nx.mono (by omega)) m_left (c_ap.mono (by omega))
 have m_mm:=may_meddle (m:=4) N D.m_may_meddle m_fm
 have m_ms:=meddlers (m:=5) N D.m_meddlers m_mm
 have m_gr:=grown (m:=6) N D.m_grown m_ms
 have c_wa:=with_able (P:=P) (w:=w) (base:=base) (m:=0) N D.s_with_able
 have c_ma:=many_able (P:=P) (w:=w) (base:=base) (m:=0) N D.s_many_able
 have m_ch:=choose (m:=9) N D.m_choose m_ab (m_gr.mono (by omega)) (c_wa.mono (by omega)) (c_ma.mono (by omega))
 have c_ke:=kept (m:=11) N D.s_kept (m_il.mono (by omega)) m_ch
 have c_ri:=M4 (m:=13) N D.s_law_right (c_lk.mono (by omega)) c_ke (c_me.mono (by omega))
 exact Wp (m:=59) N (c_begun.mono (by omega)) (c_loom.mono (by omega)) (c_queue.mono (by omega)) (c_first.mono (by omega)) (c_next.mono (by omega)) (c_able.mono (by omega)) (c_go.mono (by omega)) (c_ri.mono (by omega)) F
end
end K52
end
section
namespace TL
open PySem PySem.W PyProof.Rows
theorem Of{p q:Program}{loose:List Str}{Xt:Shared->Bool}{α:Type}{Yf:Shared->α}{Ya:World->α}{N:Nat}(h1:LeftO p q loose Xt (Hook.obs Hook.none) (Hook.val Hook.none) N)(h2:∀w,(openEnds treeTable p w N).map Yf=some (Ya w)):LeftO p q loose Xt Yf Ya N:=fun w=>by
 have a:=h1 w
 have b:=h2 w
 cases e:openEnds treeTable p w N with
 |none=>rw[e] at b;cases b
 |some s =>
  rw[e] at a b
  have a:=congrArg Prod.fst (Option.some.inj a)
  have b:=Option.some.inj b
  show some (_,Yf s)=some (_,Ya w)
  rw[b]
  exact congrArg (fun z=>some (z,Ya w)) a
end TL
namespace TL
open PySem PySem.W PyProof.Rows
theorem Ct{p:Program}{α:Type}{F:Shared->α}{A:World->α}{N:Nat}(row:String)
  (h0:∀w:World,(fencedOpening treeTable p w N).map (fun s₀=>(topFrom treeTable p (w.withFollow row false) N s₀).map F)=some (some (A (w.withFollow row false))))
  (h1:∀w:World,(fencedOpening treeTable p w N).map (fun s₀=>(topFrom treeTable p (w.withFollow row true) N s₀).map F)=some (some (A (w.withFollow row true)))) :
  ∀w,(openEnds treeTable p w N).map F=some (A w):=fun w=>by
 have e:=World.withFollow_self w row
 unfold openEnds
 cases hb:w.params.followText row <;> rw[hb] at e
 ·obtain⟨s₀,a,b⟩:=Option.map_eq_some_iff.mp (h0 w)
  rw[e] at b
  rw[a]
  exact b
 ·obtain⟨s₀,a,b⟩:=Option.map_eq_some_iff.mp (h1 w)
  rw[e] at b
  rw[a]
  exact b
end TL
namespace TL
open PySem PySem.W PyProof.Rows
end TL
namespace TL
theorem Bv{α β:Type}{x y:α×β}(h1:x.1=y.1)(h2:x.2=y.2):x=y:=Prod.ext h1 h2
end TL
end
section
open PySem PySem.W PyProof.Rows
set_option maxHeartbeats 0
namespace K52
theorem m_0:∀w,(openEnds treeTable pp w 9000).map (fun s=>((sn s).1,(sn s).2.2.2.2.2.2.2.2))=some (expectedOf qq,clsGoodW qq lz):=TL.Ct (A:=fun _=>(expectedOf qq,clsGoodW qq lz)) "special-get-raises" l0_0 l1_0
theorem m_1:∀w,(openEnds treeTable pp w 9000).map (fun s=>((sn s).2.2.1))=some (true):=TL.Ct (A:=fun _=>(true)) "special-get-raises" l0_1 l1_1
theorem m_2:∀w,(openEnds treeTable pp w 9000).map (fun s=>((sn s).2.1,(sn s).2.2.2.1,(sn s).2.2.2.2.1))=some (bltViewBooted,true,pinGoodD (drecsOf qq)):=TL.Ct (A:=fun _=>(bltViewBooted,true,pinGoodD (drecsOf qq))) "special-get-raises" l0_2 l1_2
theorem m_3:∀w,(openEnds treeTable pp w 9000).map (fun s=>(plainSeenE qq lw s,(sn s).2.2.2.2.2.2.1,(sn s).2.2.2.2.2.2.2.1))=some (plainGoodE qq lw,plainGoodD qq lz,wideGood qq):=TL.Ct (A:=fun _=>(plainGoodE qq lw,plainGoodD qq lz,wideGood qq)) "special-get-raises" l0_3 l1_3
theorem left1:LeftO pp qq lz xt (Hook.obs Hook.none) (Hook.val Hook.none) 9000:=fun w=>by
 have h0:=m_0 w
 have h1:=m_1 w
 have h2:=m_2 w
 have h3:=m_3 w
 cases e:openEnds treeTable pp w 9000 with
 |none=>rw[e] at h0;cases h0
 |some s =>
  rw[e] at h0
  have h0:=Option.some.inj h0
  rw[e] at h1
  have h1:=Option.some.inj h1
  rw[e] at h2
  have h2:=Option.some.inj h2
  rw[e] at h3
  have h3:=Option.some.inj h3
  exact congrArg (fun z=>some (z,())) (show sn s=openGood qq lz from(TL.Bv (Prod.mk.inj h0).1 (TL.Bv (Prod.mk.inj h2).1 (TL.Bv h1 (TL.Bv (Prod.mk.inj (Prod.mk.inj h2).2).1 (TL.Bv (Prod.mk.inj (Prod.mk.inj h2).2).2 (TL.Bv (show plainSeenE qq (looseW qq lz) s=plainGoodE qq (looseW qq lz) by rw[hz];exact(Prod.mk.inj h3).1) (TL.Bv (Prod.mk.inj (Prod.mk.inj h3).2).1 (TL.Bv (Prod.mk.inj (Prod.mk.inj h3).2).2 (Prod.mk.inj h0).2)))))))))
end K52
set_option maxRecDepth 100000 in
set_option maxHeartbeats 0 in
theorem K52.nm_ok(w:World)(mg:Str->Option Value)(h:Heap)(KX:(K52.pre.heap_1 w.params).In h)(G:h.Ns mainGlobals mg):K52.Nm PySem.Challenge.rw_loomlook_k52_kept.prog w (L2.KOf KX) mg:=by
 dsimp only [L2.KOf]
 refine' ⟨PySem.W.mg_none_of KX G ?z_isinstance,PySem.W.mg_none_of KX G ?z_str,PySem.W.mg_none_of KX G ?z_int,PySem.W.mg_none_of KX G ?z_bool,PySem.W.mg_none_of KX G ?z_tuple,PySem.W.mg_none_of KX G ?z_list,PySem.W.mg_none_of KX G ?z_len,PySem.W.mg_none_of KX G ?z_range,PySem.W.mg_none_of KX G ?z_max,PySem.W.mg_none_of KX G ?z_enumerate,PySem.W.mg_none_of KX G ?z_dict,PySem.W.mg_none_of KX G ?z_zip,PySem.W.mg_none_of KX G ?z_any,PySem.W.mg_none_of KX G ?z_sorted,PySem.W.mg_none_of KX G ?z_min,TL.Z4 KX G ?i_FREE,TL.kt_mk KX G ?t1_SHARED_WAYS (TL.KR.tupI ?t2_SHARED_WAYS ?t3_SHARED_WAYS ?t4_SHARED_WAYS),TL.Vs KX G ?d1_STEP_PARTS ?d2_STEP_PARTS ?d3_STEP_PARTS ?d4_STEP_PARTS ?d5_STEP_PARTS,TL.Vs KX G ?d1_TOUCHES ?d2_TOUCHES ?d3_TOUCHES ?d4_TOUCHES ?d5_TOUCHES,TL.J4 KX G ?ca_Machine,TL.Rj KX G ?cb_Machine ?cp_Machine ?ch_Machine ?co_Machine ?cs_Machine,TL.Bc KX G ?cn_Machine_size ?cq_Machine_size,TL.Bc KX G ?cn_Machine_boxes ?cq_Machine_boxes,TL.Bc KX G ?cn_Machine_locks ?cq_Machine_locks,TL.Bc KX G ?cn_Machine_programs ?cq_Machine_programs,TL.J4 KX G ?ca_Leaver,TL.Rj KX G ?cb_Leaver ?cp_Leaver ?ch_Leaver ?co_Leaver ?cs_Leaver,TL.Bc KX G ?cn_Leaver_machine ?cq_Leaver_machine,TL.Bc KX G ?cn_Leaver_everyone ?cq_Leaver_everyone,TL.Bc KX G ?cn_Leaver_meddlings ?cq_Leaver_meddlings⟩
 (case ca_Machine=>k_is)
 (case cb_Machine=>k_is)
 (case cp_Machine=>k_is)
 (case ch_Machine=>k_is)
 (case co_Machine=>k_is)
 (case cs_Machine=>k_is)
 (case cn_Machine_size=>k_is)
 (case cq_Machine_size=>k_is)
 (case cn_Machine_boxes=>k_is)
 (case cq_Machine_boxes=>k_is)
 (case cn_Machine_locks=>k_is)
 (case cq_Machine_locks=>k_is)
 (case cn_Machine_programs=>k_is)
 (case cq_Machine_programs=>k_is)
 (case ca_Leaver=>k_is)
 (case cb_Leaver=>k_is)
 (case cp_Leaver=>k_is)
 (case ch_Leaver=>k_is)
 (case co_Leaver=>k_is)
 (case cs_Leaver=>k_is)
 (case cn_Leaver_machine=>k_is)
 (case cq_Leaver_machine=>k_is)
 (case cn_Leaver_everyone=>k_is)
 (case cq_Leaver_everyone=>k_is)
 (case cn_Leaver_meddlings=>k_is)
 (case cq_Leaver_meddlings=>k_is)
 (case z_isinstance=>k_is)
 (case z_str=>k_is)
 (case z_int=>k_is)
 (case z_bool=>k_is)
 (case z_tuple=>k_is)
 (case z_list=>k_is)
 (case z_len=>k_is)
 (case z_range=>k_is)
 (case z_max=>k_is)
 (case z_enumerate=>k_is)
 (case z_dict=>k_is)
 (case z_zip=>k_is)
 (case z_any=>k_is)
 (case z_sorted=>k_is)
 (case z_min=>k_is)
 (case i_FREE=>k_is)
 (case t1_SHARED_WAYS=>k_is)
 (case t2_SHARED_WAYS=>k_is)
 (case t3_SHARED_WAYS=>decide)
 (case t4_SHARED_WAYS=>repeat first|exact TL.KRs.nil|refine TL.KRs.cons (TL.KR.str _ _) ?_|refine TL.KRs.cons (TL.KR.int _ _) ?_)
 (case d1_STEP_PARTS=>k_is)
 (case d2_STEP_PARTS=>k_is)
 (case d3_STEP_PARTS=>decide)
 (case d5_STEP_PARTS=>decide +kernel)
 (case d4_STEP_PARTS =>
  refine' (TL.Ents.cons (TL.KR.tupI ?l9 ?m9 ?r9) (TL.Ents.cons (TL.KR.tupI ?l8 ?m8 ?r8) (TL.Ents.cons (TL.KR.tupI ?l7 ?m7 ?r7) (TL.Ents.cons (TL.KR.tupI ?l6 ?m6 ?r6) (TL.Ents.cons (TL.KR.tupI ?l5 ?m5 ?r5) (TL.Ents.cons (TL.KR.tupI ?l4 ?m4 ?r4) (TL.Ents.cons (TL.KR.tupI ?l3 ?m3 ?r3) (TL.Ents.cons (TL.KR.tupI ?l2 ?m2 ?r2) (TL.Ents.cons (TL.KR.tupI ?l1 ?m1 ?r1) (TL.Ents.cons (TL.KR.tupI ?l0 ?m0 ?r0) TL.Ents.nil))))))))))
  (case l0=>k_is)
  (case l1=>k_is)
  (case l2=>k_is)
  (case l3=>k_is)
  (case l4=>k_is)
  (case l5=>k_is)
  (case l6=>k_is)
  (case l7=>k_is)
  (case l8=>k_is)
  (case l9=>k_is)
  (case m0=>decide)
  (case m1=>decide)
  (case m2=>decide)
  (case m3=>decide)
  (case m4=>decide)
  (case m5=>decide)
  (case m6=>decide)
  (case m7=>decide)
  (case m8=>decide)
  (case m9=>decide)
  (case r0=>repeat first|exact TL.KRs.nil|refine TL.KRs.cons (TL.KR.str _ _) ?_|refine TL.KRs.cons (TL.KR.int _ _) ?_)
  (case r1=>repeat first|exact TL.KRs.nil|refine TL.KRs.cons (TL.KR.str _ _) ?_|refine TL.KRs.cons (TL.KR.int _ _) ?_)
  (case r2=>repeat first|exact TL.KRs.nil|refine TL.KRs.cons (TL.KR.str _ _) ?_|refine TL.KRs.cons (TL.KR.int _ _) ?_)
  (case r3=>repeat first|exact TL.KRs.nil|refine TL.KRs.cons (TL.KR.str _ _) ?_|refine TL.KRs.cons (TL.KR.int _ _) ?_)
  (case r4=>repeat first|exact TL.KRs.nil|refine TL.KRs.cons (TL.KR.str _ _) ?_|refine TL.KRs.cons (TL.KR.int _ _) ?_)
  (case r5=>repeat first|exact TL.KRs.nil|refine TL.KRs.cons (TL.KR.str _ _) ?_|refine TL.KRs.cons (TL.KR.int _ _) ?_)
  (case r6=>repeat first|exact TL.KRs.nil|refine TL.KRs.cons (TL.KR.str _ _) ?_|refine TL.KRs.cons (TL.KR.int _ _) ?_)
  (case r7=>repeat first|exact TL.KRs.nil|refine TL.KRs.cons (TL.KR.str _ _) ?_|refine TL.KRs.cons (TL.KR.int _ _) ?_)
  (case r8=>repeat first|exact TL.KRs.nil|refine TL.KRs.cons (TL.KR.str _ _) ?_|refine TL.KRs.cons (TL.KR.int _ _) ?_)
  (case r9=>repeat first|exact TL.KRs.nil|refine TL.KRs.cons (TL.KR.str _ _) ?_|refine TL.KRs.cons (TL.KR.int _ _) ?_))
 (case d1_TOUCHES=>k_is)
 (case d2_TOUCHES=>k_is)
 (case d3_TOUCHES=>decide)
 (case d5_TOUCHES=>decide +kernel)
 (case d4_TOUCHES =>
  refine' (TL.Ents.cons (TL.KR.tupI ?l5 ?m5 ?r5) (TL.Ents.cons (TL.KR.tupI ?l4 ?m4 ?r4) (TL.Ents.cons (TL.KR.tupI ?l3 ?m3 ?r3) (TL.Ents.cons (TL.KR.tupI ?l2 ?m2 ?r2) (TL.Ents.cons (TL.KR.tupI ?l1 ?m1 ?r1) (TL.Ents.cons (TL.KR.tupI ?l0 ?m0 ?r0) TL.Ents.nil))))))
  (case l0=>k_is)
  (case l1=>k_is)
  (case l2=>k_is)
  (case l3=>k_is)
  (case l4=>k_is)
  (case l5=>k_is)
  (case m0=>decide)
  (case m1=>decide)
  (case m2=>decide)
  (case m3=>decide)
  (case m4=>decide)
  (case m5=>decide)
  (case r0=>repeat first|exact TL.KRs.nil|refine TL.KRs.cons (TL.KR.str _ _) ?_|refine TL.KRs.cons (TL.KR.int _ _) ?_)
  (case r1=>repeat first|exact TL.KRs.nil|refine TL.KRs.cons (TL.KR.str _ _) ?_|refine TL.KRs.cons (TL.KR.int _ _) ?_)
  (case r2=>repeat first|exact TL.KRs.nil|refine TL.KRs.cons (TL.KR.str _ _) ?_|refine TL.KRs.cons (TL.KR.int _ _) ?_)
  (case r3=>repeat first|exact TL.KRs.nil|refine TL.KRs.cons (TL.KR.str _ _) ?_|refine TL.KRs.cons (TL.KR.int _ _) ?_)
  (case r4=>repeat first|exact TL.KRs.nil|refine TL.KRs.cons (TL.KR.str _ _) ?_|refine TL.KRs.cons (TL.KR.int _ _) ?_)
  (case r5=>repeat first|exact TL.KRs.nil|refine TL.KRs.cons (TL.KR.str _ _) ?_|refine TL.KRs.cons (TL.KR.int _ _) ?_))
set_option maxRecDepth 100000 in
set_option maxHeartbeats 0 in
theorem K52.dfs_ok(w:World)(mg:Str->Option Value)(h:Heap)(KX:(K52.pre.heap_1 w.params).In h)(G:h.Ns mainGlobals mg)(nm:K52.Nm PySem.Challenge.rw_loomlook_k52_kept.prog w (L2.KOf KX) mg):K52.Dfs (L2.KOf KX) mg:=by
 dsimp only [L2.KOf]
 refine' ⟨TL.Zk KX G ?a0 ?l0 ?c0 ?k0 (fun _ _ _ _ _ _ us hl=>match us,hl with|[_,_,_],_=>rfl),TL.Zk KX G ?a1 ?l1 ?c1 ?k1 (fun _ _ _ _ _ _ us hl=>match us,hl with|[_,_,_,_],_=>rfl),TL.Zk KX G ?a2 ?l2 ?c2 ?k2 (fun _ _ _ _ _ _ us hl=>match us,hl with|[_,_,_,_],_=>rfl),TL.Zk KX G ?a3 ?l3 ?c3 ?k3 (fun _ _ _ _ _ _ us hl=>match us,hl with|[_],_=>rfl),TL.Zk KX G ?a4 ?l4 ?c4 ?k4 (fun _ _ _ _ _ _ us hl=>match us,hl with|[_,_],_=>rfl),TL.Zk KX G ?a5 ?l5 ?c5 ?k5 (fun _ _ _ _ _ _ us hl=>match us,hl with|[_],_=>rfl),TL.Zk KX G ?a6 ?l6 ?c6 ?k6 (fun _ _ _ _ _ _ us hl=>match us,hl with|[_,_],_=>rfl),TL.Zk KX G ?a7 ?l7 ?c7 ?k7 (fun _ _ _ _ _ _ us hl=>match us,hl with|[_,_],_=>rfl),TL.Zk KX G ?a8 ?l8 ?c8 ?k8 (fun _ _ _ _ _ _ us hl=>match us,hl with|[_,_],_=>rfl),TL.Zk KX G ?a9 ?l9 ?c9 ?k9 (fun _ _ _ _ _ _ us hl=>match us,hl with|[_,_],_=>rfl),TL.Zk KX G ?a10 ?l10 ?c10 ?k10 (fun _ _ _ _ _ _ us hl=>match us,hl with|[_,_],_=>rfl),TL.Zk KX G ?a11 ?l11 ?c11 ?k11 (fun _ _ _ _ _ _ us hl=>match us,hl with|[_,_,_],_=>rfl),TL.Zk KX G ?a12 ?l12 ?c12 ?k12 (fun _ _ _ _ _ _ us hl=>match us,hl with|[_,_,_,_,_],_=>rfl),TL.Zk KX G ?a13 ?l13 ?c13 ?k13 (fun _ _ _ _ _ _ us hl=>match us,hl with|[_,_,_,_,_,_],_=>rfl),TL.Zk KX G ?a14 ?l14 ?c14 ?k14 (fun _ _ _ _ _ _ us hl=>match us,hl with|[_,_],_=>rfl),TL.Zk KX G ?a15 ?l15 ?c15 ?k15 (fun _ _ _ _ _ _ us hl=>match us,hl with|[_],_=>rfl),TL.Zk KX G ?a16 ?l16 ?c16 ?k16 (fun _ _ _ _ _ _ us hl=>match us,hl with|[_,_,_],_=>rfl),TL.Zk KX G ?a17 ?l17 ?c17 ?k17 (fun _ _ _ _ _ _ us hl=>match us,hl with|[_,_,_],_=>rfl),TL.Zk KX G ?a18 ?l18 ?c18 ?k18 (fun _ _ _ _ _ _ us hl=>match us,hl with|[_,_,_],_=>rfl),TL.Zk KX G ?a19 ?l19 ?c19 ?k19 (fun _ _ _ _ _ _ us hl=>match us,hl with|[_,_,_],_=>rfl),TL.Zk KX G ?a20 ?l20 ?c20 ?k20 (fun _ _ _ _ _ _ us hl=>match us,hl with|[_,_,_,_,_],_=>rfl),TL.Zk KX G ?a21 ?l21 ?c21 ?k21 (fun _ _ _ _ _ _ us hl=>match us,hl with|[_,_,_,_],_=>rfl),TL.Zk KX G ?a22 ?l22 ?c22 ?k22 (fun _ _ _ _ _ _ us hl=>match us,hl with|[_,_],_=>rfl),TL.Zk KX G ?a23 ?l23 ?c23 ?k23 (fun _ _ _ _ _ _ us hl=>match us,hl with|[_],_=>rfl),TL.Zk KX G ?a24 ?l24 ?c24 ?k24 (fun _ _ _ _ _ _ us hl=>match us,hl with|[_],_=>rfl),TL.Zk KX G ?a25 ?l25 ?c25 ?k25 (fun _ _ _ _ _ _ us hl=>match us,hl with|[_,_],_=>rfl),TL.Zk KX G ?a26 ?l26 ?c26 ?k26 (fun _ _ _ _ _ _ us hl=>match us,hl with|[_,_,_],_=>rfl),TL.Zk KX G ?a27 ?l27 ?c27 ?k27 (fun _ _ _ _ _ _ us hl=>match us,hl with|[_,_,_,_],_=>rfl),TL.Zk KX G ?a28 ?l28 ?c28 ?k28 (fun _ _ _ _ _ _ us hl=>match us,hl with|[_,_],_=>rfl),TL.Zk KX G ?a29 ?l29 ?c29 ?k29 (fun _ _ _ _ _ _ us hl=>match us,hl with|[_,_],_=>rfl),TL.Zk KX G ?a30 ?l30 ?c30 ?k30 (fun _ _ _ _ _ _ us hl=>match us,hl with|[_],_=>rfl),TL.Zk KX G ?a31 ?l31 ?c31 ?k31 (fun _ _ _ _ _ _ us hl=>match us,hl with|[_,_,_],_=>rfl),TL.Zk KX G ?a32 ?l32 ?c32 ?k32 (fun _ _ _ _ _ _ us hl=>match us,hl with|[_,_],_=>rfl),TL.Zk KX G ?a33 ?l33 ?c33 ?k33 (fun _ _ _ _ _ _ us hl=>match us,hl with|[_,_],_=>rfl),TL.Zy KX G ?a34 ?b34 ?i34 ?l34 ?c34 ?k34 nm.Machine_cls (fun _ _ _ _ _ _ us hl=>match us,hl with|[_,_,_],_=>rfl),TL.Zy KX G ?a35 ?b35 ?i35 ?l35 ?c35 ?k35 nm.Machine_cls (fun _ _ _ _ _ _ us hl=>match us,hl with|[_,_,_],_=>rfl),TL.Zy KX G ?a36 ?b36 ?i36 ?l36 ?c36 ?k36 nm.Machine_cls (fun _ _ _ _ _ _ us hl=>match us,hl with|[_,_,_,_],_=>rfl),TL.Zy KX G ?a37 ?b37 ?i37 ?l37 ?c37 ?k37 nm.Machine_cls (fun _ _ _ _ _ _ us hl=>match us,hl with|[_,_],_=>rfl),TL.Zy KX G ?a38 ?b38 ?i38 ?l38 ?c38 ?k38 nm.Machine_cls (fun _ _ _ _ _ _ us hl=>match us,hl with|[_,_,_],_=>rfl),TL.Zy KX G ?a39 ?b39 ?i39 ?l39 ?c39 ?k39 nm.Machine_cls (fun _ _ _ _ _ _ us hl=>match us,hl with|[_,_,_],_=>rfl),TL.Zy KX G ?a40 ?b40 ?i40 ?l40 ?c40 ?k40 nm.Leaver_cls (fun _ _ _ _ _ _ us hl=>match us,hl with|[_,_,_],_=>rfl),TL.Zy KX G ?a41 ?b41 ?i41 ?l41 ?c41 ?k41 nm.Leaver_cls (fun _ _ _ _ _ _ us hl=>match us,hl with|[_,_,_,_],_=>rfl),TL.Zy KX G ?a42 ?b42 ?i42 ?l42 ?c42 ?k42 nm.Leaver_cls (fun _ _ _ _ _ _ us hl=>match us,hl with|[_,_,_,_],_=>rfl),TL.Zy KX G ?a43 ?b43 ?i43 ?l43 ?c43 ?k43 nm.Leaver_cls (fun _ _ _ _ _ _ us hl=>match us,hl with|[_,_,_],_=>rfl),TL.Zy KX G ?a44 ?b44 ?i44 ?l44 ?c44 ?k44 nm.Machine_cls (fun _ _ _ _ _ _ us hl=>match us,hl with|[_,_],_=>rfl),TL.Zy KX G ?a45 ?b45 ?i45 ?l45 ?c45 ?k45 nm.Leaver_cls (fun _ _ _ _ _ _ us hl=>match us,hl with|[_,_,_],_=>rfl),TL.Zy KX G ?a46 ?b46 ?i46 ?l46 ?c46 ?k46 nm.Leaver_cls (fun _ _ _ _ _ _ us hl=>match us,hl with|[_,_],_=>rfl),TL.Fe KX G ?a47 ?b47 ?i47 ?l47 ?c47 ?k47 ?m47 ?n47 (fun _ _ _ _ _ _ us hl=>match us,hl with|[_,_],_=>rfl),TL.Fe KX G ?a48 ?b48 ?i48 ?l48 ?c48 ?k48 ?m48 ?n48 (fun _ _ _ _ _ _ us hl=>match us,hl with|[_,_],_=>rfl)⟩
 case a0|l0|c0|k0|a1|l1|c1|k1|a2|l2|c2|k2|a3|l3|c3|k3|a4|l4|c4|k4|a5|l5|c5|k5|a6|l6|c6|k6|a7|l7|c7|k7|a8|l8|c8|k8|a9|l9|c9|k9|a10|l10|c10|k10|a11|l11|c11|k11|a12|l12|c12|k12|a13|l13|c13|k13|a14|l14|c14|k14|a15|l15|c15|k15|a16|l16|c16|k16|a17|l17|c17|k17|a18|l18|c18|k18|a19|l19|c19|k19|a20|l20|c20|k20|a21|l21|c21|k21|a22|l22|c22|k22|a23|l23|c23|k23|a24|l24|c24|k24|a25|l25|c25|k25|a26|l26|c26|k26|a27|l27|c27|k27|a28|l28|c28|k28|a29|l29|c29|k29|a30|l30|c30|k30|a31|l31|c31|k31|a32|l32|c32|k32|a33|l33|c33|k33|a34|b34|i34|l34|c34|k34|a35|b35|i35|l35|c35|k35|a36|b36|i36|l36|c36|k36|a37|b37|i37|l37|c37|k37|a38|b38|i38|l38|c38|k38|a39|b39|i39|l39|c39|k39|a40|b40|i40|l40|c40|k40|a41|b41|i41|l41|c41|k41|a42|b42|i42|l42|c42|k42|a43|b43|i43|l43|c43|k43|a44|b44|i44|l44|c44|k44|a45|b45|i45|l45|c45|k45|a46|b46|i46|l46|c46|k46|a47|b47|i47|l47|c47|k47|m47|n47|a48|b48|i48|l48|c48|k48|m48|n48=>k_is
set_option maxRecDepth 100000 in
set_option maxHeartbeats 0 in
theorem PySem.Challenge.cw_loomlook_k52_kept_holds : PySem.Challenge.rw_loomlook_k52_kept.Holds := by
  refine holds_law K52.ws fun said=>?_
  refine holds_open (q:=K52.qq) (loose:=K52.lz) (Xt:=K52.xt) (XP:=XL K52.qq []) (Yf:=Hook.obs (kHook K52.pre.heap_1 K52.az K52.Dy)) (Ya:=Hook.val (kHook K52.pre.heap_1 K52.az K52.Dy)) (YP:=Hook.says (kHook K52.pre.heap_1 K52.az K52.Dy)) (N:=9000) (TL.Of K52.left1 (TL.Ct "special-get-raises" K52.k0 K52.k1)) (Hook.of (kHook K52.pre.heap_1 K52.az K52.Dy)) (Hook.keeps (kHook K52.pre.heap_1 K52.az K52.Dy)) (fun s e=>xl_of s (Bool.and_eq_true_iff.mp e).1) XL.keeps (by rfl) (by rfl) (by rfl) (fun s e=>recFacts_of (Bool.and_eq_true_iff.mp e).2) (by rfl) (by assumption) (by decide +kernel) ⟨rfl,rfl,rfl,rfl,rfl,by decide +kernel⟩ ?hw ?hc
  (case hw=>w_witness2)
  k_fill
  refine L2.Sl (l:=PySem.Challenge.rw_loomlook_k52_kept) (n:=63) (k:=60) (x:="_law_script") (CX:=L2.CX0) (sp:=fun K=>TL.spU K K52.cLaw) rfl (by decide) rfl ⟨rfl,by decide,by decide⟩ (fun w h Y=>PySem.W.kIn_of Y) ?F ?S ?C
  case S=>exact fun K H a ns hl hO hS=>TL.Nd hO hS ⟨ns,rfl,fun _=>rfl⟩
  case C=>exact fun _ _ _ _ z=>z
  case F =>
    intro w mg fa h KX G hmg
    have nm:=K52.nm_ok w mg h KX G
    have D:=K52.dfs_ok w mg h KX G nm
    have lw:TL.Aa (L2.KOf KX) mg "law" ["_law_script"] (K52.top 53):=by
      dsimp only [L2.KOf]
      refine' TL.Zk KX G ?a1 ?l1 ?c1 ?k1 (fun _ _ _ _ _ _ us hl=>match us,hl with | [_],_=>rfl)
      (case a1=>k_is);(case l1=>k_is);(case c1=>k_is);(case k1=>k_is)
    obtain ⟨f,fd,F,b,hm⟩:=lw
    have e:=hmg.symm.trans hm
    cases e
    obtain ⟨oc,od,kV,doc,pm,an,cdv,ct,osl,rfl,_⟩:=F.ex
    exact ⟨_,fun s u=>.of_eq rfl,fun base _ _=>K52.Yd nm D F⟩
end

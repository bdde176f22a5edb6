import PyProof.Rows.All
import Wide.All
import Wide.FinOn
import KE.KDictOf
import KE.KFromBytes
import KE.KToBytes
import KE.KIntText
import KE.KIsAll
import KE.KItemsList
import KE.KPassesOwn
import KE.KStrWords
import KE.KTryDeep
import OpenK.ZHead
import KE.KEqDict
import KE.KUnpack
import PySem.Challenge.RW_loomlook_k10_looms_refused
set_option Elab.async false
set_option linter.all false
section
open PySem PySem.W PyProof.Rows
set_option maxRecDepth 100000
set_option maxHeartbeats 0
section
local macro_rules | `(tactic| o_head $H)=>`(tactic| (have hk:=$H;assumption))
set_option maxHeartbeats 0 in
theorem K10.pre(h:PySem.Challenge.rw_loomlook_k10_looms_refused.row.Holds):PySem.Challenge.rw_loomlook_k10_looms_refused.row.Holds:=by
 k_head
end
namespace K10
set_option maxHeartbeats 0 in
theorem ws:PySem.Challenge.rw_loomlook_k10_looms_refused.wellSaid=true:=by kernel_rfl
abbrev pp:Program:=PySem.Challenge.rw_loomlook_k10_looms_refused.prog
abbrev qq:Program:=view pp ((List.range 75).filter fun i=>!([0,9,21,25,48].contains i))
abbrev rr:=OpenRow.toRowW PySem.Challenge.rw_loomlook_k10_looms_refused.row
abbrev lz:List Str:=["VALUE_PARTS","STEP_PARTS"]
abbrev lw:List Str:=["VALUE_PARTS","STEP_PARTS"]
abbrev xt(s:Shared):Bool:=xlAt qq [] s&&recOk (RowW.records rr) s
abbrev sn(s:Shared):=openSeen qq lz (importedModules pp.main.body) xt true s
set_option maxHeartbeats 0 in
theorem l0_0(w:World):(fencedOpening treeTable pp w 9000).map (fun s₀=>(topFrom treeTable pp (w.withFollow "special-get-raises" false) 9000 s₀).map fun s=>((sn s).1,(sn s).2.2.2.2.2.2.2.2))=some (some (expectedOf qq,clsGoodW qq lz)):=by
 try unfold sn
 unfold fencedOpening topFrom topStub staticsOk namesBound laidKept
 rw[PySem.W.Fast.te10274390034422433532,PySem.W.Fast.te1435165496053646825,PySem.W.Fast.te14289696077712309145,PySem.W.Fast.te14082659384304107361,PySem.W.Fast.te14364793385576792824,PySem.W.Fast.te8920871248978507458,PySem.W.Fast.te17154629097778926822,PySem.W.Fast.te12822647523644345616,PySem.W.Fast.te6905046200447255374,PySem.W.Fast.te4857012375875476094,PySem.W.Fast.te1584917186373303978,PySem.W.Fast.te14846217769314788766,PySem.W.Fast.te5923862056798008813,PySem.W.Fast.te12749700546528644094,PySem.W.Fast.te18344453789297297638,PySem.W.Fast.te12456147031677567982,PySem.W.Fast.te4187177175401517315]
 kernel_rfl
set_option maxHeartbeats 0 in
theorem l0_1(w:World):(fencedOpening treeTable pp w 9000).map (fun s₀=>(topFrom treeTable pp (w.withFollow "special-get-raises" false) 9000 s₀).map fun s=>((sn s).2.2.1,(sn s).2.2.2.2.2.2.1,(sn s).2.2.2.2.2.2.2.1))=some (some (true,plainGoodD qq lz,wideGood qq)):=by
 try unfold sn
 unfold fencedOpening topFrom topStub staticsOk namesBound laidKept
 rw[PySem.W.Fast.te10274390034422433532,PySem.W.Fast.te1435165496053646825,PySem.W.Fast.te14289696077712309145,PySem.W.Fast.te14082659384304107361,PySem.W.Fast.te14364793385576792824,PySem.W.Fast.te8920871248978507458,PySem.W.Fast.te17154629097778926822,PySem.W.Fast.te12822647523644345616,PySem.W.Fast.te6905046200447255374,PySem.W.Fast.te4857012375875476094,PySem.W.Fast.te1584917186373303978,PySem.W.Fast.te14846217769314788766,PySem.W.Fast.te5923862056798008813,PySem.W.Fast.te12749700546528644094,PySem.W.Fast.te18344453789297297638,PySem.W.Fast.te12456147031677567982,PySem.W.Fast.te4187177175401517315]
 kernel_rfl
set_option maxHeartbeats 0 in
theorem l0_2(w:World):(fencedOpening treeTable pp w 9000).map (fun s₀=>(topFrom treeTable pp (w.withFollow "special-get-raises" false) 9000 s₀).map fun s=>((sn s).2.1,(sn s).2.2.2.1,(sn s).2.2.2.2.1))=some (some (bltViewBooted,true,pinGoodD (drecsOf qq))):=by
 try unfold sn
 unfold fencedOpening topFrom topStub staticsOk namesBound laidKept
 rw[PySem.W.Fast.te10274390034422433532,PySem.W.Fast.te1435165496053646825,PySem.W.Fast.te14289696077712309145,PySem.W.Fast.te14082659384304107361,PySem.W.Fast.te14364793385576792824,PySem.W.Fast.te8920871248978507458,PySem.W.Fast.te17154629097778926822,PySem.W.Fast.te12822647523644345616,PySem.W.Fast.te6905046200447255374,PySem.W.Fast.te4857012375875476094,PySem.W.Fast.te1584917186373303978,PySem.W.Fast.te14846217769314788766,PySem.W.Fast.te5923862056798008813,PySem.W.Fast.te12749700546528644094,PySem.W.Fast.te18344453789297297638,PySem.W.Fast.te12456147031677567982,PySem.W.Fast.te4187177175401517315]
 kernel_rfl
set_option maxHeartbeats 0 in
theorem l0_3(w:World):(fencedOpening treeTable pp w 9000).map (fun s₀=>(topFrom treeTable pp (w.withFollow "special-get-raises" false) 9000 s₀).map fun s=>(plainSeenE qq lw s))=some (some (plainGoodE qq lw)):=by
 try unfold sn
 unfold fencedOpening topFrom topStub staticsOk namesBound laidKept
 rw[PySem.W.Fast.te10274390034422433532,PySem.W.Fast.te1435165496053646825,PySem.W.Fast.te14289696077712309145,PySem.W.Fast.te14082659384304107361,PySem.W.Fast.te14364793385576792824,PySem.W.Fast.te8920871248978507458,PySem.W.Fast.te17154629097778926822,PySem.W.Fast.te12822647523644345616,PySem.W.Fast.te6905046200447255374,PySem.W.Fast.te4857012375875476094,PySem.W.Fast.te1584917186373303978,PySem.W.Fast.te14846217769314788766,PySem.W.Fast.te5923862056798008813,PySem.W.Fast.te12749700546528644094,PySem.W.Fast.te18344453789297297638,PySem.W.Fast.te12456147031677567982]
 kernel_rfl
set_option maxHeartbeats 0 in
theorem l1_0(w:World):(fencedOpening treeTable pp w 9000).map (fun s₀=>(topFrom treeTable pp (w.withFollow "special-get-raises" true) 9000 s₀).map fun s=>((sn s).1,(sn s).2.2.2.2.2.2.2.2))=some (some (expectedOf qq,clsGoodW qq lz)):=by
 try unfold sn
 unfold fencedOpening topFrom topStub staticsOk namesBound laidKept
 rw[PySem.W.Fast.te10274390034422433532,PySem.W.Fast.te1435165496053646825,PySem.W.Fast.te14289696077712309145,PySem.W.Fast.te14082659384304107361,PySem.W.Fast.te14364793385576792824,PySem.W.Fast.te8920871248978507458,PySem.W.Fast.te17154629097778926822,PySem.W.Fast.te12822647523644345616,PySem.W.Fast.te6905046200447255374,PySem.W.Fast.te4857012375875476094,PySem.W.Fast.te1584917186373303978,PySem.W.Fast.te14846217769314788766,PySem.W.Fast.te5923862056798008813,PySem.W.Fast.te12749700546528644094,PySem.W.Fast.te18344453789297297638,PySem.W.Fast.te12456147031677567982,PySem.W.Fast.te4187177175401517315]
 kernel_rfl
set_option maxHeartbeats 0 in
theorem l1_1(w:World):(fencedOpening treeTable pp w 9000).map (fun s₀=>(topFrom treeTable pp (w.withFollow "special-get-raises" true) 9000 s₀).map fun s=>((sn s).2.2.1,(sn s).2.2.2.2.2.2.1,(sn s).2.2.2.2.2.2.2.1))=some (some (true,plainGoodD qq lz,wideGood qq)):=by
 try unfold sn
 unfold fencedOpening topFrom topStub staticsOk namesBound laidKept
 rw[PySem.W.Fast.te10274390034422433532,PySem.W.Fast.te1435165496053646825,PySem.W.Fast.te14289696077712309145,PySem.W.Fast.te14082659384304107361,PySem.W.Fast.te14364793385576792824,PySem.W.Fast.te8920871248978507458,PySem.W.Fast.te17154629097778926822,PySem.W.Fast.te12822647523644345616,PySem.W.Fast.te6905046200447255374,PySem.W.Fast.te4857012375875476094,PySem.W.Fast.te1584917186373303978,PySem.W.Fast.te14846217769314788766,PySem.W.Fast.te5923862056798008813,PySem.W.Fast.te12749700546528644094,PySem.W.Fast.te18344453789297297638,PySem.W.Fast.te12456147031677567982,PySem.W.Fast.te4187177175401517315]
 kernel_rfl
set_option maxHeartbeats 0 in
theorem l1_2(w:World):(fencedOpening treeTable pp w 9000).map (fun s₀=>(topFrom treeTable pp (w.withFollow "special-get-raises" true) 9000 s₀).map fun s=>((sn s).2.1,(sn s).2.2.2.1,(sn s).2.2.2.2.1))=some (some (bltViewBooted,true,pinGoodD (drecsOf qq))):=by
 try unfold sn
 unfold fencedOpening topFrom topStub staticsOk namesBound laidKept
 rw[PySem.W.Fast.te10274390034422433532,PySem.W.Fast.te1435165496053646825,PySem.W.Fast.te14289696077712309145,PySem.W.Fast.te14082659384304107361,PySem.W.Fast.te14364793385576792824,PySem.W.Fast.te8920871248978507458,PySem.W.Fast.te17154629097778926822,PySem.W.Fast.te12822647523644345616,PySem.W.Fast.te6905046200447255374,PySem.W.Fast.te4857012375875476094,PySem.W.Fast.te1584917186373303978,PySem.W.Fast.te14846217769314788766,PySem.W.Fast.te5923862056798008813,PySem.W.Fast.te12749700546528644094,PySem.W.Fast.te18344453789297297638,PySem.W.Fast.te12456147031677567982,PySem.W.Fast.te4187177175401517315]
 kernel_rfl
set_option maxHeartbeats 0 in
theorem l1_3(w:World):(fencedOpening treeTable pp w 9000).map (fun s₀=>(topFrom treeTable pp (w.withFollow "special-get-raises" true) 9000 s₀).map fun s=>(plainSeenE qq lw s))=some (some (plainGoodE qq lw)):=by
 try unfold sn
 unfold fencedOpening topFrom topStub staticsOk namesBound laidKept
 rw[PySem.W.Fast.te10274390034422433532,PySem.W.Fast.te1435165496053646825,PySem.W.Fast.te14289696077712309145,PySem.W.Fast.te14082659384304107361,PySem.W.Fast.te14364793385576792824,PySem.W.Fast.te8920871248978507458,PySem.W.Fast.te17154629097778926822,PySem.W.Fast.te12822647523644345616,PySem.W.Fast.te6905046200447255374,PySem.W.Fast.te4857012375875476094,PySem.W.Fast.te1584917186373303978,PySem.W.Fast.te14846217769314788766,PySem.W.Fast.te5923862056798008813,PySem.W.Fast.te12749700546528644094,PySem.W.Fast.te18344453789297297638,PySem.W.Fast.te12456147031677567982]
 kernel_rfl
theorem hz:looseW qq lz=lw:=by kernel_rfl
abbrev az:List Addr:=[2,3,15,22,23,24,25,28,35,36,37,40,47,48,49,52,59,60,61,64,71,72,73,76,83,84,85,88,95,96,97,100,107,108,109,112,113,114,115,116,117,118,119,120,121,124,125,126,128,129,131,132,133,135,136,138,139,140,142,143,145,146,147,149,150,152,153,154,157,158,159,161,162,164,165,166,167,168,169,170,171,172,173,174,175,176,177,180,181,182,184,185,187,188,189,191,192,194,195,196,198,199,201,202,203,205,206,208,209,210,213,214,215,217,218,220,221,222,225,226,227,229,230,232,233,234,237,238,239,242,243,244,246,247,249,250,251,254,255,256,258,259,261,262,263,265,266,268,269,270,272,273,275,276,277,279,280,282,283,284,286,287,289,290,291,293,294,296,297,298,301,302,303,305,306,308,309,310,313,314,315,318,319,320,323,324,325,327,328,330,331,332,335,336,337,340,341,342,345,346,347,349,350,352,353,354,356,357,359,360,361,363,364,366,367,368,370,371,373,374,375,378,379,380,383,384,385,388,389,390,393,394,395,398,399,400,403,404,405,408,409,410,412,413,415,416,417,419,420,422,423]
theorem Fi:∀P,az=(pre.heap_1 P).map (·.1):=fun _=>by kernel_rfl
set_option maxHeartbeats 0 in
theorem k0(w:World):(fencedOpening treeTable pp w 9000).map (fun s₀=>(topFrom treeTable pp (w.withFollow "special-get-raises" false) 9000 s₀).map (Hook.obs (kHook K10.pre.heap_1 K10.az K10.Fi)))=some (some (Hook.val (kHook K10.pre.heap_1 K10.az K10.Fi) (w.withFollow "special-get-raises" false))):=by
 dsimp only [kHook]
 unfold fencedOpening topFrom topStub staticsOk namesBound laidKept
 rw[PySem.W.Fast.te10274390034422433532,PySem.W.Fast.te1435165496053646825,PySem.W.Fast.te14289696077712309145,PySem.W.Fast.te14082659384304107361,PySem.W.Fast.te14364793385576792824,PySem.W.Fast.te8920871248978507458,PySem.W.Fast.te17154629097778926822,PySem.W.Fast.te12822647523644345616,PySem.W.Fast.te6905046200447255374,PySem.W.Fast.te4857012375875476094,PySem.W.Fast.te1584917186373303978,PySem.W.Fast.te14846217769314788766,PySem.W.Fast.te5923862056798008813,PySem.W.Fast.te12749700546528644094,PySem.W.Fast.te18344453789297297638,PySem.W.Fast.te12456147031677567982]
 kernel_rfl
set_option maxHeartbeats 0 in
theorem k1(w:World):(fencedOpening treeTable pp w 9000).map (fun s₀=>(topFrom treeTable pp (w.withFollow "special-get-raises" true) 9000 s₀).map (Hook.obs (kHook K10.pre.heap_1 K10.az K10.Fi)))=some (some (Hook.val (kHook K10.pre.heap_1 K10.az K10.Fi) (w.withFollow "special-get-raises" true))):=by
 dsimp only [kHook]
 unfold fencedOpening topFrom topStub staticsOk namesBound laidKept
 rw[PySem.W.Fast.te10274390034422433532,PySem.W.Fast.te1435165496053646825,PySem.W.Fast.te14289696077712309145,PySem.W.Fast.te14082659384304107361,PySem.W.Fast.te14364793385576792824,PySem.W.Fast.te8920871248978507458,PySem.W.Fast.te17154629097778926822,PySem.W.Fast.te12822647523644345616,PySem.W.Fast.te6905046200447255374,PySem.W.Fast.te4857012375875476094,PySem.W.Fast.te1584917186373303978,PySem.W.Fast.te14846217769314788766,PySem.W.Fast.te5923862056798008813,PySem.W.Fast.te12749700546528644094,PySem.W.Fast.te18344453789297297638,PySem.W.Fast.te12456147031677567982]
 kernel_rfl
end K10
end
set_option Elab.async false
set_option linter.all false
set_option maxRecDepth 100000
set_option maxHeartbeats 4000000
section
section
namespace L2
open PySem PySem.Spec PyProof.Rows
abbrev Key:=Sum Int Str
def J9:Key->Value->Bool
 | .inl k,v=>Value.isInt k v
 | .inr x,v=>Value.isStrOf x v
def keyH(w:World):Key->Int
 | .inl k=>hashInt k
 | .inr x=>hashStr w x
theorem keyIs_shape:∀{k:Key} {v:Value},J9 k v=true->(∃i t,k=Sum.inl i/\v=Value.int i t)\/(∃x t,k=Sum.inr x/\v=Value.str x t)
 | .inl i,v,h=>by
  obtain⟨t,e⟩:=Value.isInt_shape (k:=i) (v:=v) h
  exact .inl ⟨i,t,rfl,e⟩
 | .inr x,v,h=>by
  obtain⟨t,e⟩:=Value.isStrOf_shape (x:=x) (v:=v) h
  exact .inr ⟨x,t,rfl,e⟩
theorem Q4(i:Int)(t:Tok):J9 (.inl i) (.int i t)=true:=by simp[J9,Value.isInt]
theorem Qh(x:Str)(t:Tok):J9 (.inr x) (.str x t)=true:=by simp[J9,Value.isStrOf]
theorem Aae(a b:Int):decide ((Sum.inl a:Key)=Sum.inl b)=(a==b):=by
 by_cases e:a=b
 ·subst e;simp
 ·have h:¬ (Sum.inl a:Key)=Sum.inl b:=fun q=>e (Sum.inl.inj q)
  rw[decide_eq_false h]
  exact(beq_eq_false_iff_ne.mpr e).symm
theorem K3(a b:Str):decide ((Sum.inr a:Key)=Sum.inr b)=decide (a=b):=by
 by_cases e:a=b
 ·subst e;simp
 ·have h:¬ (Sum.inr a:Key)=Sum.inr b:=fun q=>e (Sum.inr.inj q)
  rw[decide_eq_false h,decide_eq_false e]
theorem Zz(a:Int)(b:Str):decide ((Sum.inl a:Key)=Sum.inr b)=false:=decide_eq_false (fun q=>nomatch q)
theorem Yn(a:Str)(b:Int):decide ((Sum.inr a:Key)=Sum.inl b)=false:=decide_eq_false (fun q=>nomatch q)
def mixKind(prog:Program)(w:World):PySem.KeyKind prog w Key where
 is:=J9
 hash:=keyH w
 inj:=fun v a b ha hb=>by
  rcases keyIs_shape ha with⟨i,t,rfl,rfl⟩|⟨x,t,rfl,rfl⟩
  ·rcases keyIs_shape hb with⟨j,u,rfl,e⟩|⟨y,u,rfl,e⟩
   ·injection e with e1 _;rw[e1]
   ·exact nomatch e
  ·rcases keyIs_shape hb with⟨j,u,rfl,e⟩|⟨y,u,rfl,e⟩
   ·exact nomatch e
   ·injection e with e1 _;rw[e1]
 byValue:=fun k v h=>by
  rcases keyIs_shape h with⟨i,t,rfl,rfl⟩|⟨x,t,rfl,rfl⟩ <;> rfl
 pyHash:=fun hv h=>by
  rcases keyIs_shape hv with⟨i,t,rfl,rfl⟩|⟨x,t,rfl,rfl⟩
  ·exact wpAny_pyHash_int h
  ·exact wpAny_pyHash_str h
 eqBool:=fun hu hv h=>by
  rcases keyIs_shape hu with⟨i,t,rfl,rfl⟩|⟨x,t,rfl,rfl⟩
  ·rcases keyIs_shape hv with⟨j,u,rfl,rfl⟩|⟨y,u,rfl,rfl⟩
   ·rw[Aae] at h;exact wpAny_eqBool_int h
   ·rw[Zz] at h;exact SeqAt.EqAt.int_str i t y u _ _ _ _ h
  ·rcases keyIs_shape hv with⟨j,u,rfl,rfl⟩|⟨y,u,rfl,rfl⟩
   ·rw[Yn] at h;exact SeqAt.EqAt.str_int x t j u _ _ _ _ h
   ·rw[K3] at h;exact wpAny_eqBool_str h
 «strs»:=fun k x t v h=>by
  rcases keyIs_shape h with⟨i,u,rfl,e⟩|⟨y,u,rfl,e⟩
  ·exact nomatch e
  ·injection e with e1 _
   subst e1
   cases v <;> rfl
theorem Mw(prog:Program)(w:World)(i:Int)(t:Tok):(mixKind prog w).is (.inl i) (.int i t)=true:=Q4 i t
theorem Dg(prog:Program)(w:World)(x:Str)(t:Tok):(mixKind prog w).is (.inr x) (.str x t)=true:=Qh x t
end L2
namespace L2
open PySem PySem.Spec PyProof.Rows
inductive V where
 |non|bl (b:Bool)|int (i:Int)|str (x:Str)|byt (b:Array UInt8)|flt (b:UInt64)|ref (a:Addr)|ty (n:String)
 deriving DecidableEq
def RelV:V->Value->Prop
 | .non,u=>u=Value.none
 | .bl b,u=>u=Value.bool b
 | .int i,u=>∃t,u=Value.int i t
 | .str x,u=>∃t,u=Value.str x t
 | .byt b,u=>∃t,u=Value.bytes b t
 | .flt b,u=>∃t,u=Value.float b t
 | .ref a,u=>u=Value.ref a
 | .ty n,u=>u=Value.type n
abbrev Vals:List V->List Value->Prop:=Paired RelV
theorem Vals.length{xs:List V}{us:List Value}(r:Vals xs us):xs.length=us.length:=Paired.length r
theorem Vals.get:∀{xs:List V} {us:List Value} {i:Nat} {x:V},Vals xs us->xs[i]?=some x->∃u,us[i]?=some u/\RelV x u
 |_,_,_,_,.nil,e=>by simp at e
 |_,_,0,_,.cons r _,e=>by simp at e;subst e;exact⟨_,rfl,r⟩
 |_,_,i+1,x,.cons _ t,e=>by
  obtain⟨u,h1,h2⟩:=Vals.get (i:=i) (x:=x) t (by simpa using e)
  exact⟨u,by simpa using h1,h2⟩
theorem Vals.set{x:V}{u:Value}(r:RelV x u):∀{xs:List V} {us:List Value} (i:Nat),Vals xs us->Vals (xs.set i x) (us.set i u)
 |_,_,_,.nil=>.nil
 |_,_,0,.cons _ t=>.cons r t
 |_,_,i+1,.cons q t=>.cons q (Vals.set r i t)
theorem Vals.append:∀{xs ys:List V} {us ws:List Value},Vals xs us->Vals ys ws->Vals (xs++ys) (us++ws)
 |_,_,_,_,.nil,s=>s
 |_,_,_,_,.cons r t,s=>.cons r (Vals.append t s)
theorem Vals.take:∀{xs:List V} {us:List Value} (n:Nat),Vals xs us->Vals (xs.take n) (us.take n)
 |_,_,0,_=>.nil
 |_,_,_+1,.nil=>.nil
 |_,_,n+1,.cons r t=>.cons r (Vals.take n t)
theorem Vals.drop:∀{xs:List V} {us:List Value} (n:Nat),Vals xs us->Vals (xs.drop n) (us.drop n)
 |_,_,0,r=>r
 |_,_,_+1,.nil=>.nil
 |_,_,n+1,.cons _ t=>Vals.drop n t
theorem Vals.none_of:∀{xs:List V} {us:List Value} {i:Nat},Vals xs us->xs[i]?=none->us[i]?=none:=fun {xs us i} r e=>by
 have h1:=r.length
 have h2:xs.length<=i:=List.getElem?_eq_none_iff.mp e
 exact List.getElem?_eq_none_iff.mpr (by omega)
def RelO:Option V->Option Value->Prop
 |some v,some u=>RelV v u
 |none,none=>True
 |_,_=>False
def KV{κ:Type}:List (κ×V)->List (κ×Value)->Prop:=Paired fun (p:κ×V) (q:κ×Value)=>p.1=q.1/\RelV p.2 q.2
def kV:Key->V
 | .inl i=>.int i
 | .inr x=>.str x
inductive HO where
  |lst (xs:List V)
  |tup (xs:List V)
  |dK (kvs:List (Key×V))|dT (kvs:List (List Key×V))
  |set (S:Int->Bool) (n:Nat)
  |ins (C dx:Addr) (fs:List (Str×V))
  |own (x:Addr)
  |xd (fs:List (Str×V))
  |met (f x:Addr)
  |rng (lo hi:Int)
  |frz (o:Obj) (u:HO)
  |tbl (ps:Array Value)
  |ext (φ:Heap->Prop)
abbrev Hp:=Addr->Option HO
def upd(H:Hp)(a:Addr)(o:HO):Hp:=fun b=>if b=a then some o else H b
theorem Br{H:Hp}{a:Addr}{o:HO}:upd H a o a=some o:=by unfold upd;rw[if_pos rfl]
theorem Xc{H:Hp}{a b:Addr}{o:HO}(h:b≠a):upd H a o b=H b:=by unfold upd;rw[if_neg h]
theorem Xa{H:Hp}{a b:Addr}{o:HO}(h:H a=some o)(h':H b=none):a≠b:=by
 intro e;subst e;rw[h] at h';cases h'
def TupN(h:Heap)(a:Addr)(items:Array Value):Prop:=∃o,h.get? a=some o/\o.cls=.type "tuple"/\(∃n,o.data=.seq items n)/\o.dict=none
theorem TupN.isTup{h:Heap}{a:Addr}{items:Array Value}(x:TupN h a items):IsTup h a items:=let ⟨o,e,c,d,_⟩:=x;⟨o,e,c,d⟩
theorem TupN.new(h:Heap)(items:Array Value):TupN (h.push { cls:=.type "tuple",data:=.seq items }) h.objs.size items:=⟨_,Heap.get?_push_size _ rfl,rfl,⟨_,rfl⟩,rfl⟩
theorem TupN.lt{h:Heap}{a:Addr}{items:Array Value}(x:TupN h a items):a<h.objs.size:=x.isTup.lt
section
variable(P:Program)(w:World)
def ObjOk(H:Hp)(h:Heap)(a:Addr):HO->Prop
 | .lst xs=>xs.length<=sizeLine/\∃(its:List Value) (n:Nat),Vals xs its/\h.get? a=some { cls:=.type "list",data:=.seq its.toArray n }
 | .tup xs=>xs.length<=sizeLine/\∃its:List Value,Vals xs its/\TupN h a its.toArray
 | .dK kvs=>kvs.length<=sizeLine/\(a==sysModules)=false/\∃vs,KV kvs vs/\h.DictOf (mixKind P w) a vs
 | .dT kvs=>kvs.length<=sizeLine/\(a==sysModules)=false/\∃xs:List (List Key×Addr×Value),
   Paired (fun (p:List Key×V) (q:List Key×Addr×Value)=>p.1=q.1/\H q.2.1=some (.tup (p.1.map kV))/\RelV p.2 q.2.2) kvs xs ∧
   ∃o es ep,h.get? a=some o/\o.ExactDict/\o.data=.dict es ep/\es.toList=xs.map (entryOfKey (tupleKind (mixKind P w)))/\(xs.map (·.1)).Nodup
 | .set S n=>h.SetOf (intKind P w) a S n
 | .ins C dx fs=>H dx=some (.own a)/\fs.length<=1000/\dx≠a/\h.get? a=some (PySem.W.instObj C dx) ∧
   ∃mA,h.Ns1 dx mA/\(∀f,RelO (fs.lookup f) (mA f))/\PySem.Within mA (fs.map (·.1))
 | .own _=>∃o,h.get? a=some o
 | .xd fs=>∃mA,h.Ns1 a mA/\∀f,RelO (fs.lookup f) (mA f)
 | .rng lo hi=>∃t u v,h.get? a=some { cls:=.type "range",data:=.fields #[.int lo t,.int hi u,.int 1 v] }
 | .frz o u=>h.get? a=some o/\ObjOk H h a u
 | .tbl ps=>h.get? a=some { cls:=.none,data:=.fields ps }
 | .met f x=>h.get? a=some (PySem.W.methodObj (.ref f) (.ref x))
 | .ext φ=>φ h/\(∃o,h.get? a=some o)/\∀h1 h2:Heap,φ h1->(∀o,h1.get? a=some o->h2.get? a=some o)->φ h2
def HOk(H:Hp)(h:Heap):Prop:=∀a o,H a=some o->ObjOk P w H h a o
end
section
variable{P:Program}{w:World}{H H':Hp}{h h':Heap}{a:Addr}{o:HO}
theorem ObjOk.lt(x:ObjOk P w H h a o):a<h.objs.size:=by
 cases o with
 |lst xs=>obtain⟨_,_,_,_,e⟩:=x;exact Heap.lt_size e
 |tup xs=>obtain⟨_,_,_,p⟩:=x;exact p.lt
 |dK kvs=>obtain⟨_,_,_,_,o,_,_,e,_⟩:=x;exact Heap.lt_size e
 |dT kvs=>obtain⟨_,_,_,_,o,_,_,e,_⟩:=x;exact Heap.lt_size e
 |set S n=>obtain⟨o,_,_,_,e,_⟩:=x;exact Heap.lt_size e
 |ins C dx fs=>obtain⟨_,_,_,e,_⟩:=x;exact Heap.lt_size e
 |own y=>obtain⟨_,e⟩:=x;exact Heap.lt_size e
 |xd fs=>obtain⟨_,⟨_,_,_,e,_⟩,_⟩:=x;exact Heap.lt_size e
 |rng lo hi=>obtain⟨_,_,_,e⟩:=x;exact Heap.lt_size e
 |frz ob u=>obtain⟨e,_⟩:=x;exact Heap.lt_size e
 |tbl ps=>exact Heap.lt_size (show h.get? a=some _ from x)
 |met f y=>exact Heap.lt_size (show h.get? a=some _ from x)
 |ext φ=>obtain⟨_,⟨_,e⟩,_⟩:=x;exact Heap.lt_size e
theorem Paired.mapP{α β:Type}{F G:α->β->Prop}:∀{l₁:List α} {l₂:List β},Paired F l₁ l₂->(∀a b,F a b->G a b)->Paired G l₁ l₂
 |_,_,.nil,_=>.nil
 |_,_,.cons r t,f=>.cons (f _ _ r) (Paired.mapP t f)
theorem ObjOk.stay(x:ObjOk P w H h a o)(k:∀b u,(b=a\/H b=some (.own a))->h.get? b=some u->h'.get? b=some u)
  (ho:∀b,H b=some (.own a)->H' b=some (.own a)) (ht:∀b xs,H b=some (.tup xs)->H' b=some (.tup xs)):ObjOk P w H' h' a o:=by
 induction o with
 |lst xs=>obtain⟨z,its,n,r,e⟩:=x;exact⟨z,its,n,r,k _ _ (.inl rfl) e⟩
 |tup xs=>obtain⟨z,its,r,ob,e,c⟩:=x;exact⟨z,its,r,ob,k _ _ (.inl rfl) e,c⟩
 |dK kvs=>obtain⟨z,y,vs,r,ob,es,ep,e,c⟩:=x;exact⟨z,y,vs,r,ob,es,ep,k _ _ (.inl rfl) e,c⟩
 |dT kvs =>
  obtain⟨z,y,xs,r,ob,es,ep,e,c⟩:=x
  exact⟨z,y,xs,Paired.mapP r fun p q z=>⟨z.1,ht _ _ z.2.1,z.2.2⟩,ob,es,ep,k _ _ (.inl rfl) e,c⟩
 |set S n=>obtain⟨ob,es,ep,t,e,c⟩:=x;exact⟨ob,es,ep,t,k _ _ (.inl rfl) e,c⟩
 |ins C dx fs =>
  obtain⟨d,z,ne,e,mA,⟨od,es,ep,e2,c⟩,r⟩:=x
  exact⟨ho _ d,z,ne,k _ _ (.inl rfl) e,mA,⟨od,es,ep,k _ _ (.inr d) e2,c⟩,r⟩
 |own y=>obtain⟨ob,e⟩:=x;exact⟨ob,k _ _ (.inl rfl) e⟩
 |xd fs=>obtain⟨mA,⟨od,es,ep,e,c⟩,r⟩:=x;exact⟨mA,⟨od,es,ep,k _ _ (.inl rfl) e,c⟩,r⟩
 |rng lo hi=>obtain⟨t,u,v,e⟩:=x;exact⟨t,u,v,k _ _ (.inl rfl) e⟩
 |frz ob u ih=>obtain⟨e,q⟩:=x;exact⟨k _ _ (.inl rfl) e,ih q⟩
 |tbl ps =>
  have e:h.get? a=some { cls:=.none,data:=.fields ps }:=x
  show h'.get? a=some { cls:=.none,data:=.fields ps }
  exact k a _ (.inl rfl) e
 |met f y =>
  have e:h.get? a=some (PySem.W.methodObj (.ref f) (.ref y)):=x
  show h'.get? a=some (PySem.W.methodObj (.ref f) (.ref y))
  exact k a _ (.inl rfl) e
 |ext φ=>obtain⟨p,⟨o,e⟩,st⟩:=x;exact⟨st _ _ p fun o q=>k _ _ (.inl rfl) q,⟨o,k _ _ (.inl rfl) e⟩,st⟩
theorem HOk.lt(x:HOk P w H h)(e:H a=some o):a<h.objs.size:=(x a o e).lt
theorem HOk.fresh(x:HOk P w H h)(e:h.objs.size<=a):H a=none:=by
 cases q:H a with
 |none=>rfl
 |some u=>exact absurd (Nat.lt_of_lt_of_le (x.lt q) e) (Nat.lt_irrefl _)
theorem HOk.kept(x:HOk P w H h)(k:∀b u,h.get? b=some u->h'.get? b=some u):HOk P w H h':=fun a o e =>
 (x a o e).stay (fun b u _ q=>k b u q) (fun _ q=>q) fun _ _ q=>q
theorem HOk.laid(x:HOk P w H h)(k:∀b u,h.get? b=some u->h'.get? b=some u)(hp:h.objs.size<=a)(new:ObjOk P w (upd H a o) h' a o):HOk P w (upd H a o) h':=fun b u e=>by
 have hn:=x.fresh hp
 by_cases hb:b=a
 ·subst hb;rw[Br] at e;cases e;exact new
 ·rw[Xc hb] at e
  exact(x b u e).stay (fun c v _ q=>k c v q) (fun c q=>by rw[Xc (Xa q hn)];exact q) fun c xs q=>by rw[Xc (Xa q hn)];exact q
end
def Rd(H:Hp)(a:Addr)(u:HO):Prop:=H a=some u\/∃o,H a=some (.frz o u)
theorem Rd.ok{P:Program}{w:World}{H:Hp}{h:Heap}{a:Addr}{u:HO}(r:Rd H a u)(x:HOk P w H h):ObjOk P w H h a u:=by
 rcases r with r|⟨o,r⟩
 ·exact x a u r
 ·obtain⟨_,q⟩:=x a _ r
  exact q
def Mut:Option HO->Prop
 |some (.lst _)=>True
 |some (.dK _)=>True
 |some (.dT _)=>True
 |some (.set _ _)=>True
 |some (.ins _ _ _)=>True
 |some (.ext _)=>True
 |_=>False
section
variable{P:Program}{w:World}{H:Hp}{h h':Heap}{x e:Addr}{o':HO}
theorem HOk.write(ok:HOk P w H h)(mu:Mut (H x))(he:e=x\/H e=some (.own x))(k:∀b u,b≠e->h.get? b=some u->h'.get? b=some u)(heo:∃u,h'.get? e=some u)
  (new:ObjOk P w (upd H x o') h' x o'):HOk P w (upd H x o') h':=fun b u q=>by
 have nown:∀c y,H c=some (.own y)->c≠x:=fun c y r z=>by subst z;rw[r] at mu;exact mu
 have ntup:∀c xs,H c=some (.tup xs)->c≠x:=fun c xs r z=>by subst z;rw[r] at mu;exact mu
 by_cases hb:b=x
 ·subst hb;rw[Br] at q;cases q;exact new
 ·rw[Xc hb] at q
  by_cases hbe:b=e
  ·have q':H b=some (.own x):=by
    rcases he with z|z
    ·exact absurd (hbe.trans z) hb
    ·rw[hbe];exact z
   rw[q] at q';cases q'
   obtain⟨v,hv⟩:=heo
   exact⟨v,by rw[hbe];exact hv⟩
  ·refine(ok b u q).stay (fun c v hc r=>k c v ?_ r) (fun c r=>by rw[Xc (nown c b r)];exact r) fun c xs r=>by rw[Xc (ntup c xs r)];exact r
   rcases hc with rfl|hc
   ·exact hbe
   ·rintro rfl
    rcases he with z|z
    ·exact nown c b hc z
    ·rw[hc] at z;cases z;exact hb rfl
end
structure Un(fs ex:List Addr)(H H':Hp)(h h':Heap):Prop where
 keep:∀b o,h.get? b=some o->H b=none->b ∉ fs->b ∉ ex->h'.get? b=some o
 slot:∀b o,h.get? b=some o->H b=none->b∈fs->b ∉ ex->∃sl,h'.get? b=some { o with slots:=sl }
 free:∀b o,h.get? b=some o->H b=none->b ∉ ex->H' b=none
 there:∀b o,h.get? b=some o->b ∉ ex->∃o',h'.get? b=some o'
 tups:∀b xs,H b=some (.tup xs)->H' b=some (.tup xs)
 frzs:∀b o u,H b=some (.frz o u)->H' b=some (.frz o u)
 tbls:∀b ps,H b=some (.tbl ps)->∃more,H' b=some (.tbl (ps++more))
section
variable{fs fs' ex ex':List Addr}{H H1 H2:Hp}{h h1 h2 h':Heap}{a x e:Addr}{o:HO}
theorem Un.any(u:Un fs ex H H1 h h1){b:Addr}{ob:Obj}(q:h.get? b=some ob)(n:H b=none)(hx:b ∉ ex):∃sl,h1.get? b=some { ob with slots:=sl }:=by
 by_cases hb:b∈fs
 ·exact u.slot b ob q n hb hx
 ·exact⟨ob.slots,u.keep b ob q n hb hx⟩
theorem Un.kept(k:∀b u,h.get? b=some u->h'.get? b=some u):Un fs ex H H h h' :=
 ⟨fun b ob q _ _ _=>k b ob q,fun b ob q _ _ _=>⟨ob.slots,k b ob q⟩,fun _ _ _ n _=>n,fun b ob q _=>⟨ob,k b ob q⟩,fun _ _ q=>q,fun _ _ _ q=>q,fun _ ps q=>⟨#[],by rw[q];simp⟩⟩
theorem Un.refl:Un fs ex H H h h:=Un.kept fun _ _ q=>q
theorem Un.laid(k:∀b u,h.get? b=some u->h'.get? b=some u)(hp:h.objs.size<=a)(hn:H a=none):Un fs ex H (upd H a o) h h' where
 keep:=fun b u q _ _ _=>k b u q
 slot:=fun b u q _ _ _=>⟨u.slots,k b u q⟩
 free:=fun b u q n _=>by rw[Xc (Nat.ne_of_lt (Nat.lt_of_lt_of_le (Heap.lt_size q) hp))];exact n
 there:=fun b u q _=>⟨u,k b u q⟩
 tups:=fun b xs q=>by rw[Xc (Xa q hn)];exact q
 frzs:=fun b u xs q=>by rw[Xc (Xa q hn)];exact q
 tbls:=fun b ps q=>⟨#[],by rw[Xc (Xa q hn),q];simp⟩
theorem Un.write(mu:Mut (H x))(he:e=x\/H e=some (.own x))(k:∀b u,b≠e->h.get? b=some u->h'.get? b=some u)(heo:∃u,h'.get? e=some u):Un fs ex H (upd H x o) h h':=by
 have hx:∀b,H b=none->b≠x:=fun b n z=>by subst z;rw[n] at mu;exact mu
 have hb:∀b,H b=none->b≠e:=fun b n z=>by
  subst z
  rcases he with r|r
  ·exact hx b n r
  ·rw[n] at r;cases r
 have hm:∀b u,H b=some u->¬ Mut (some u)->b≠x:=fun b u q nm z=>by subst z;rw[q] at mu;exact nm mu
 refine⟨fun b u q n _ _=>k b u (hb b n) q,fun b u q n _ _=>⟨u.slots,k b u (hb b n) q⟩,fun b u q n _=>by rw[Xc (hx b n)];exact n,fun b u q _=>?_,
  fun b xs q=>by rw[Xc (hm b _ q fun z=>z)];exact q,fun b u xs q=>by rw[Xc (hm b _ q fun z=>z)];exact q,fun b ps q=>⟨#[],by rw[Xc (hm b _ q fun z=>z),q];simp⟩⟩
 by_cases hbe:b=e
 ·subst hbe;exact heo
 ·exact⟨u,k b u hbe q⟩
end
def trk(h:Heap)(H:Hp):List Addr:=(List.range h.objs.size).filter fun a=>(H a).isSome
def Kq(h:Heap)(H:Hp):Heap:=PySem.W.hideAll h (trk h H)
theorem Re(h:Heap)(H:Hp):(Kq h H).objs.size=h.objs.size:=PySem.W.hideAll_size _ _
theorem Th{h:Heap}{H:Hp}{b:Addr}{o:Obj}(e:h.get? b=some o)(n:H b=none):(Kq h H).get? b=some o :=
 PySem.W.hideAll_get _ e fun hm=>by
  have q:(H b).isSome=true:=(List.mem_filter.mp hm).2
  rw[n] at q;simp at q
theorem U1{h:Heap}{H:Hp}{b:Addr}{o:Obj}(e:(Kq h H).get? b=some o):h.get? b=some o/\H b=none:=by
 have e':h.get? b=some o:=PySem.W.of_hideAll (trk h H) e
 refine⟨e',?_⟩
 cases q:H b with
 |none=>rfl
 |some x =>
  have hm:b∈trk h H:=List.mem_filter.mpr ⟨List.mem_range.mpr (Heap.lt_size e'),by simp[q]⟩
  have z:(Kq h H).get? b=none:=PySem.W.hideAll_none (trk h H) hm
  rw[z] at e;cases e
end L2
namespace L2
open PySem PySem.Spec PyProof.Rows
structure Mod(K:PySem.W.Frag)(mg:Str->Option Value)(base:Heap):Prop where
 kin:K.In base
 glob:base.Ns mainGlobals mg
 blt:∃mb,base.Ns builtinsNs mb/\∀x:Str,x≠"__name__"->mb x=bootBuiltins x
 nolimit:base.NoLimit
structure Cx where
 prog:Program
 w:World
 K:PySem.W.Frag
 mg:Str->Option Value
 base:Heap
 A:Around
 N:List Str
 s₀:Shared
 H₀:Hp
 env:Env
 outer:List Env
 stack:List Env
 ex:List Addr
 fn:Str->Bool
 calm:Bool
 pn:List (Addr×Obj)
 xe:Value->Shared->Prop
def frs(l:List Env):List Addr:=l.filterMap (·.frame)
abbrev Cx.fs(X:Cx):List Addr:=frs X.outer
def Vis(sc:Scope)(x:Str):Prop:=sc.names.lookup x=some .local\/sc.names.lookup x=some .cell\/sc.names.lookup x=some .free
def Loc(sc:Scope)(x:Str):Prop:=sc.names.lookup x=some .local\/sc.names.lookup x=some .cell
def Look(env:Env)(h:Heap)(m:Str->Option Value)(x:Str)(u:Value):Prop :=
 (env.kindOf x=some .local/\m x=some u)\/((env.kindOf x=some .cell\/env.kindOf x=some .free)/\∃c,env.cells.lookup x=some c/\h.IsCell c (some u))
structure Cx.Ok(X:Cx):Prop where
 mod:Mod X.K X.mg X.base
 kind:X.env.scope.kind=.function
 glob:X.env.globals=mainGlobals
 blt:X.env.builtins=builtinsNs
 above:X.s₀.heap.objs.size<=X.env.locals
 inj:∀x y c,X.env.cells.lookup x=some c->X.env.cells.lookup y=some c->x=y
 has:∀x,(X.env.kindOf x=some .cell\/X.env.kindOf x=some .free)->∃c,X.env.cells.lookup x=some c
 cab:∀x c,X.fn x=true->X.env.cells.lookup x=some c->X.s₀.heap.objs.size<=c
 hd:X.calm=true->X.A.handled=none
 frames:X.A.frames=some X.stack
 stk:X.stack=X.outer\/(X.stack=X.env::X.outer/\X.env.frame=some X.env.locals)
 exf:∀b∈X.ex,b≠X.env.locals/\∀x c,X.env.cells.lookup x=some c->c≠b
 bs:∀b o,X.base.get? b=some o->X.s₀.heap.get? b=some o/\X.H₀ b=none
 bsz:X.base.objs.size<=X.s₀.heap.objs.size
 noex:∀b o,X.base.get? b=some o->b ∉ X.ex
 exfs:∀b∈X.ex,b ∉ X.fs
 funs:X.s₀.heap.FunFrames X.base X.outer
 frf:∀b∈X.fs,X.H₀ b=none
structure Inv(X:Cx)(pins:List (Addr×Obj))(σ:List (Option V))(H:Hp)(s:Shared):Prop where
 ok:X.Ok
 os:s.os=X.s₀.os
 bare:AllBare s.gens
 base:Un X.fs X.ex X.H₀ H X.s₀.heap s.heap
 loc:∃m,s.heap.Ns X.env.locals m/\∀(i:Nat) (x:Str) (v:V),X.N[i]?=some x->σ[i]?=some (some v)->Vis X.env.scope x->∃u,RelV v u/\Look X.env s.heap m x u
 cell:∀x c,X.env.cells.lookup x=some c->∃v,s.heap.IsCell c v
 free:H X.env.locals=none
 freeC:∀x c,X.env.cells.lookup x=some c->H c=none
 pin:∀p∈X.pn++pins,s.heap.get? p.1=some p.2/\H p.1=none/\p.1≠X.env.locals/\p.1 ∉ X.fs/\∀v,p.2.data≠.cell v
 hok:HOk X.prog X.w H s.heap
 len:σ.length=X.N.length
section
variable{X:Cx}{pins:List (Addr×Obj)}{σ:List (Option V)}{H H':Hp}{s:Shared}{h':Heap}
theorem Cx.Ok.nofr(ok:X.Ok){b:Addr}{o:Obj}(e:X.base.get? b=some o):b ∉ X.fs:=fun hb=>by
 have:=(ok.funs.mem hb).1
 rw[e] at this;cases this
theorem Inv.bs(I:Inv X pins σ H s):∀b o,X.base.get? b=some o->s.heap.get? b=some o/\H b=none:=fun b o e =>
 ⟨I.base.keep b o (I.ok.bs b o e).1 (I.ok.bs b o e).2 (I.ok.nofr e) (I.ok.noex b o e),I.base.free b o (I.ok.bs b o e).1 (I.ok.bs b o e).2 (I.ok.noex b o e)⟩
theorem Inv.bk(I:Inv X pins σ H s):∀b o,X.base.get? b=some o->s.heap.get? b=some o:=fun b o e=>(I.bs b o e).1
theorem Inv.mod(I:Inv X pins σ H s):Mod X.K X.mg X.base:=I.ok.mod
theorem Inv.kIn(I:Inv X pins σ H s):X.K.In s.heap:=I.ok.mod.kin.keeps I.bk
theorem Inv.lt(I:Inv X pins σ H s):X.env.locals<s.heap.objs.size:=let ⟨_,hn,_⟩:=I.loc;hn.lt
theorem Inv.sz(I:Inv X pins σ H s):X.s₀.heap.objs.size<=s.heap.objs.size:=Nat.le_trans I.ok.above (Nat.le_of_lt I.lt)
theorem Inv.nofs(I:Inv X pins σ H s){a:Addr}(h:s.heap.objs.size<=a):a ∉ X.fs:=fun hb=>by
 obtain⟨_,o,ho,_⟩:=I.ok.funs.mem hb
 exact absurd (Nat.lt_of_lt_of_le (Heap.lt_size ho) (Nat.le_trans I.sz h)) (Nat.lt_irrefl _)
theorem Inv.cne(I:Inv X pins σ H s):∀x c,X.env.cells.lookup x=some c->c≠X.env.locals:=fun x c e z=>by
 obtain⟨v,o,ho,hd⟩:=I.cell x c e
 obtain⟨m,⟨o',es,ep,ho',hd',_⟩,_⟩:=I.loc
 rw[z,ho'] at ho;cases ho;rw[hd'] at hd;cases hd
theorem Inv.funs(I:Inv X pins σ H s):s.heap.FunFrames X.base X.outer:=by
 have all:∀(l:List Env),(∀b∈frs l,b∈X.fs)->X.s₀.heap.FunFrames X.base l->s.heap.FunFrames X.base l:=by
  intro l
  induction l with
  |nil=>intro _ _;trivial
  |cons env r ih =>
   intro hs hl
   obtain⟨hk,⟨L,o,hf,hn,ho,hd⟩,hr⟩:=hl
   have hL:L∈X.fs:=hs L (by unfold frs;rw[List.filterMap_cons,hf];exact List.mem_cons_self)
   obtain⟨sl,e⟩:=I.base.slot L o ho (I.ok.frf L hL) hL fun z=>I.ok.exfs L z hL
   exact⟨hk,⟨L,_,hf,hn,e,hd⟩,ih (fun b hb=>hs b (by unfold frs;rw[List.filterMap_cons,hf];exact List.mem_cons_of_mem _ hb)) hr⟩
 exact all X.outer (fun _ hb=>hb) I.ok.funs
theorem Inv.stack(I:Inv X pins σ H s):s.heap.FunFrames X.base X.stack:=by
 rcases I.ok.stk with e|⟨e,hf⟩
 ·rw[e];exact I.funs
 ·rw[e]
  obtain⟨m,hn,_⟩:=I.loc
  refine .cons (by rw[I.ok.kind];decide) hf hn ?_ I.funs
  exact Heap.get?_none_of_le (Nat.le_trans I.ok.bsz I.ok.above)
theorem Inv.stkSub(I:Inv X pins σ H s):∀b∈frs X.stack,b∈X.env.locals::X.fs:=fun b hb=>by
 rcases I.ok.stk with e|⟨e,hf⟩
 ·rw[e] at hb;exact List.mem_cons_of_mem _ hb
 ·rw[e] at hb
  unfold frs at hb
  rw[List.filterMap_cons,hf] at hb
  exact hb
theorem Inv.stkFree(I:Inv X pins σ H s):∀b∈frs X.stack,H b=none:=fun b hb=>by
 rcases List.mem_cons.mp (I.stkSub b hb) with e|hb
 ·rw[e];exact I.free
 ·obtain⟨_,o,ho,_⟩:=I.ok.funs.mem hb
  exact I.base.free b o ho (I.ok.frf b hb) fun z=>I.ok.exfs b z hb
theorem Inv.step{g':Array GenState}{t':Nat}{d':Drawn}{ch:List Addr}(I:Inv X pins σ H s)
  (hch:∀b∈ch,(b∈X.ex\/X.s₀.heap.objs.size<=b)/\b≠X.env.locals/\(∀x c,X.env.cells.lookup x=some c->c≠b)/\∀p∈X.pn++pins,p.1≠b)
  (keep:∀b o,b≠X.env.locals->b ∉ X.fs->b ∉ ch->s.heap.get? b=some o->H b=none->h'.get? b=some o)
  (slot:∀b o,b≠X.env.locals->b∈X.fs->b ∉ ch->s.heap.get? b=some o->H b=none->∃sl,h'.get? b=some { o with slots:=sl }) (free:∀b o,b ∉ ch->s.heap.get? b=some o->H b=none->H' b=none)
  (there:∀b o,b ∉ ch->s.heap.get? b=some o->∃o',h'.get? b=some o')
  (tups:∀b xs,H b=some (.tup xs)->H' b=some (.tup xs)) (frzs:∀b o u,H b=some (.frz o u)->H' b=some (.frz o u)) (tbls:∀b ps,H b=some (.tbl ps)->∃more,H' b=some (.tbl (ps++more)))
  (ns:∀m,s.heap.Ns X.env.locals m->h'.Ns X.env.locals m) (hok:HOk X.prog X.w H' h') (hg:AllBare g') :
  Inv X pins σ H' { s with heap:=h',gens:=g',drawn:=d',toks:=t' }:=by
 have neL:∀b o,X.s₀.heap.get? b=some o->b≠X.env.locals:=fun b o e=>Nat.ne_of_lt (Nat.lt_of_lt_of_le (Heap.lt_size e) I.ok.above)
 have neC:∀b o,X.s₀.heap.get? b=some o->b ∉ X.ex->b ∉ ch:=fun b o e hx hb=>by
  rcases(hch b hb).1 with z|z
  ·exact hx z
  ·exact absurd (Nat.lt_of_lt_of_le (Heap.lt_size e) z) (Nat.lt_irrefl _)
 have cellK:∀x c,X.env.cells.lookup x=some c->∀v,s.heap.IsCell c v->h'.IsCell c v:=fun x c e v ⟨o,ho,hd⟩=>by
  have nch:c ∉ ch:=fun z=>(hch c z).2.2.1 x c e rfl
  by_cases hc:c∈X.fs
  ·obtain⟨sl,q⟩:=slot c o (I.cne x c e) hc nch ho (I.freeC x c e)
   exact⟨_,q,hd⟩
  ·exact⟨o,keep c o (I.cne x c e) hc nch ho (I.freeC x c e),hd⟩
 refine⟨I.ok,I.os,hg,⟨fun b o e n hb hx=>?_,fun b o e n hb hx=>?_,fun b o e n hx=>?_,fun b o e hx=>?_,fun b xs e=>tups b xs (I.base.tups b xs e),fun b o xs e=>frzs b o xs (I.base.frzs b o xs e),fun b ps e=>?_⟩,?_,fun x c e=>?_,?_,fun x c e=>?_,fun p hp=>?_,hok,I.len⟩
 ·exact keep b o (neL b o e) hb (neC b o e hx) (I.base.keep b o e n hb hx) (I.base.free b o e n hx)
 ·obtain⟨sl,e1⟩:=I.base.slot b o e n hb hx
  obtain⟨sl',e2⟩:=slot b _ (neL b o e) hb (neC b o e hx) e1 (I.base.free b o e n hx)
  exact⟨sl',e2⟩
 ·obtain⟨o',e1⟩:=I.base.there b o e hx
  exact free b o' (neC b o e hx) e1 (I.base.free b o e n hx)
 ·obtain⟨o',e1⟩:=I.base.there b o e hx
  exact there b o' (neC b o e hx) e1
 ·obtain⟨m1,e1⟩:=I.base.tbls b ps e
  obtain⟨m2,e2⟩:=tbls b _ e1
  exact⟨m1++m2,by rw[e2,Array.append_assoc]⟩
 ·obtain⟨m,hn,hl⟩:=I.loc
  refine⟨m,ns m hn,fun i x v e1 e2 e3=>?_⟩
  obtain⟨u,r,l⟩:=hl i x v e1 e2 e3
  refine⟨u,r,?_⟩
  rcases l with l|⟨k,c,e,z⟩
  ·exact .inl l
  ·exact .inr ⟨k,c,e,cellK x c e _ z⟩
 ·obtain⟨v,z⟩:=I.cell x c e
  exact⟨v,cellK x c e v z⟩
 ·obtain⟨m,⟨o,_,_,ho,_⟩,_⟩:=I.loc
  exact free _ o (fun z=>(hch _ z).2.1 rfl) ho I.free
 ·obtain⟨v,o,ho,hd⟩:=I.cell x c e
  exact free c o (fun z=>(hch c z).2.2.1 x c e rfl) ho (I.freeC x c e)
 ·obtain⟨e,n,ne,nf,d⟩:=I.pin p hp
  have nch:p.1 ∉ ch:=fun z=>(hch p.1 z).2.2.2 p hp rfl
  exact⟨keep p.1 p.2 ne nf nch e n,free p.1 p.2 nch e n,ne,nf,d⟩
theorem Inv.un{t':Nat}(I:Inv X pins σ H s)(u:Un X.fs [] H H' s.heap h')(hok:HOk X.prog X.w H' h'):Inv X pins σ H' { s with heap:=h',toks:=t' }:=by
 obtain⟨m,⟨o,es,ep,ho,r⟩,_⟩:=id I.loc
 obtain⟨sl,hL⟩:=u.any ho I.free (by simp)
 exact I.step (g':=s.gens) (d':=s.drawn) (ch:=[]) (fun _ z=>nomatch z) (fun b o _ hb _ e n=>u.keep b o e n hb (by simp)) (fun b o _ hb _ e n=>u.slot b o e n hb (by simp)) (fun b o _ e n=>u.free b o e n (by simp)) (fun b o _ e=>u.there b o e (by simp)) u.tups u.frzs u.tbls (fun m' hm=>by
  obtain⟨o',es',ep',ho',r'⟩:=hm
  rw[ho] at ho';cases ho'
  exact⟨_,es',ep',hL,r'⟩) hok I.bare
theorem Inv.call{g':Array GenState}{t':Nat}{d':Drawn}{ch:List Addr}(I:Inv X pins σ H s)(u:Un (frs X.stack) ch H H' s.heap h')(hok:HOk X.prog X.w H' h')(hg:AllBare g')
  (hch:∀b∈ch,(b∈X.ex\/X.s₀.heap.objs.size<=b)/\b≠X.env.locals/\(∀x c,X.env.cells.lookup x=some c->c≠b)/\∀p∈X.pn++pins,p.1≠b) :
  Inv X pins σ H' { s with heap:=h',gens:=g',drawn:=d',toks:=t' }:=by
 obtain⟨m,⟨o,es,ep,ho,r⟩,_⟩:=id I.loc
 obtain⟨sl,hL⟩:=u.any ho I.free fun z=>(hch _ z).2.1 rfl
 exact I.step (ch:=ch) hch (fun b o hL hb hc e n=>u.keep b o e n (fun z=>(List.mem_cons.mp (I.stkSub b z)).elim hL hb) hc) (fun b o _ _ hc e n=>u.any e n hc) (fun b o hc e n=>u.free b o e n hc) (fun b o hc e=>u.there b o e hc) u.tups u.frzs u.tbls (fun m' hm=>by
  obtain⟨o',es',ep',ho',r'⟩:=hm
  rw[ho] at ho';cases ho'
  exact⟨_,es',ep',hL,r'⟩) hok hg
theorem Inv.turned{t':Nat}{it:Addr}(I:Inv X pins σ H s)(k:∀b o,b≠it->s.heap.get? b=some o->h'.get? b=some o)(hn:H it=none)(hL:it≠X.env.locals)
  (h1:it∈X.ex\/X.s₀.heap.objs.size<=it) (h2:∀x c,X.env.cells.lookup x=some c->c≠it) (h3:∀p∈X.pn++pins,p.1≠it):Inv X pins σ H { s with heap:=h',toks:=t' }:=by
 have nit:∀b u,H b=some u->b≠it:=fun b u e z=>by rw[z,hn] at e;cases e
 refine I.step (g':=s.gens) (d':=s.drawn) (ch:=[it]) (fun b hb=>?_) (fun b o _ _ hc e _=>k b o (fun z=>hc (by simp[z])) e) (fun b o _ _ hc e _=>⟨o.slots,k b o (fun z=>hc (by simp[z])) e⟩) (fun _ _ _ _ n=>n)
  (fun b o hc e=>⟨o,k b o (fun z=>hc (by simp[z])) e⟩) (fun _ _ e=>e) (fun _ _ _ e=>e) (fun b ps e=>⟨#[],by rw[e];simp⟩) (fun m hm=>?_) (fun b u e=>?_) I.bare
 ·have e:b=it:=by simpa using hb
  subst e
  exact⟨h1,hL,h2,h3⟩
 ·obtain⟨o,es,ep,ho,r⟩:=hm
  exact⟨o,es,ep,k _ o (Ne.symm hL) ho,r⟩
 ·refine(I.hok b u e).stay (fun c v hc q=>k c v ?_ q) (fun _ q=>q) fun _ _ q=>q
  rcases hc with z|z
  ·rw[z];exact nit b u e
  ·exact nit c _ z
theorem Inv.tok(I:Inv X pins σ H s)(t:Nat):Inv X pins σ H { s with toks:=t }:=I.un (h':=s.heap) (t':=t) Un.refl I.hok
theorem Inv.kept{t':Nat}(I:Inv X pins σ H s)(k:∀b u,s.heap.get? b=some u->h'.get? b=some u):Inv X pins σ H { s with heap:=h',toks:=t' }:=I.un (Un.kept k) (I.hok.kept k)
theorem Inv.laid{a:Addr}{o:HO}{t':Nat}(I:Inv X pins σ H s)(k:∀b u,s.heap.get? b=some u->h'.get? b=some u)(hp:s.heap.objs.size<=a)(new:ObjOk X.prog X.w (upd H a o) h' a o):
  Inv X pins σ (upd H a o) { s with heap:=h',toks:=t' }:=I.un (Un.laid k hp (I.hok.fresh hp)) (I.hok.laid k hp new)
theorem Inv.write{x e:Addr}{o:HO}{t':Nat}(I:Inv X pins σ H s)(mu:Mut (H x))(he:e=x\/H e=some (.own x))(k:∀b u,b≠e->s.heap.get? b=some u->h'.get? b=some u)(heo:∃u,h'.get? e=some u)
  (new:ObjOk X.prog X.w (upd H x o) h' x o):Inv X pins σ (upd H x o) { s with heap:=h',toks:=t' }:=I.un (Un.write mu he k heo) (I.hok.write mu he k heo new)
theorem Inv.weak{σ':List (Option V)}(I:Inv X pins σ H s)(hl:σ'.length=σ.length)(w:∀(i:Nat) v,σ'[i]?=some (some v)->σ[i]?=some (some v)):Inv X pins σ' H s :=
 ⟨I.ok,I.os,I.bare,I.base,let ⟨m,hn,hl'⟩:=I.loc;⟨m,hn,fun i x v e1 e2 e3=>hl' i x v e1 (w i v e2) e3⟩,I.cell,I.free,I.freeC,I.pin,I.hok,hl.trans I.len⟩
theorem Inv.pins_of{pins':List (Addr×Obj)}(I:Inv X pins σ H s)(h:∀p∈pins',s.heap.get? p.1=some p.2/\H p.1=none/\p.1≠X.env.locals/\p.1 ∉ X.fs/\∀v,p.2.data≠.cell v):Inv X pins' σ H s :=
 ⟨I.ok,I.os,I.bare,I.base,I.loc,I.cell,I.free,I.freeC,fun p hp=>(List.mem_append.mp hp).elim (fun z=>I.pin p (List.mem_append_left _ z)) (h p),I.hok,I.len⟩
theorem Lz{N:List Str}(hN:N.Nodup){i j:Nat}{x:Str}(a:N[i]?=some x)(b:N[j]?=some x):i=j:=by
 obtain⟨h1,e1⟩:=List.getElem?_eq_some_iff.mp a
 obtain⟨h2,e2⟩:=List.getElem?_eq_some_iff.mp b
 exact(List.getElem_inj hN).mp (e1.trans e2.symm)
theorem Kj{M:Model}{A:Around}{E:Value->Shared->Prop}{i:Nat}{x:Str}{v:V}{u:Value}{Q:Unit->Shared->Prop}(I:Inv X pins σ H s)(hN:X.N.Nodup)(hi:X.N[i]?=some x)(hx:Loc X.env.scope x)(r:RelV v u)
  (h:∀s',Inv X pins (σ.set i (some v)) H s'->(∃a,Heap.SameBut a s.heap s'.heap/\(a=X.env.locals\/X.env.cells.lookup x=some a))->Q () s') (hf:X.fn x=true\/X.env.scope.names.lookup x=some .local:=by first|exact .inl rfl|exact .inr rfl|assumption):wpAny M A (storeName X.env x u) Q E s:=by
 obtain⟨m,hn,hl⟩:=id I.loc
 have hcls:(X.env.scope.kind==.class || (X.env.scope.kind==.module&&X.env.locals != X.env.globals))=false:=by rw[I.ok.kind];rfl
 have hiσ:i<σ.length:=by rw[I.len];exact(List.getElem?_eq_some_iff.mp hi).1
 have cne:=I.cne
 have tracked:∀{a:Addr} {h':Heap},(∃o,s.heap.get? a=some o/\H a=none)->Heap.SameBut a s.heap h'->HOk X.prog X.w H h':=fun {a h'} ha hs b ob e=>by
  obtain⟨_,_,hfree⟩:=ha
  refine(I.hok b ob e).stay (fun c w' hc q=>(hs.2 c ?_).trans q) (fun _ q=>q) fun _ _ q=>q
  rintro rfl
  rcases hc with rfl|hc
  ·rw[hfree] at e;cases e
  ·rw[hfree] at hc;cases hc
 rcases hx with hk|hk
 ·refine wpAny_storeName_local hk hn (fun h' hn' hs=>?_) hcls
  obtain⟨oL,_,_,hoL,_⟩:=id hn
  refine h _ ⟨I.ok,I.os,I.bare,⟨fun b o e n hb hx=>?_,fun b o e n hb hx=>?_,I.base.free,fun b o e hx=>?_,I.base.tups,I.base.frzs,I.base.tbls⟩,⟨_,hn',fun j y v' e1 e2 e3=>?_⟩,fun y c e=>?_,I.free,I.freeC,fun p hp=>?_,tracked ⟨oL,hoL,I.free⟩ hs,by simpa using I.len⟩ ⟨_,hs,.inl rfl⟩
  ·exact(hs.2 b (Nat.ne_of_lt (Nat.lt_of_lt_of_le (Heap.lt_size e) I.ok.above))).trans (I.base.keep b o e n hb hx)
  ·obtain⟨sl,e1⟩:=I.base.slot b o e n hb hx
   exact⟨sl,(hs.2 b (Nat.ne_of_lt (Nat.lt_of_lt_of_le (Heap.lt_size e) I.ok.above))).trans e1⟩
  ·obtain⟨o',e1⟩:=I.base.there b o e hx
   exact⟨o',(hs.2 b (Nat.ne_of_lt (Nat.lt_of_lt_of_le (Heap.lt_size e) I.ok.above))).trans e1⟩
  ·by_cases hj:j=i
   ·subst hj
    rw[hi] at e1;cases e1
    rw[List.getElem?_set_self hiσ] at e2
    cases e2
    exact⟨u,r,.inl ⟨hk,by simp⟩⟩
   ·rw[List.getElem?_set_ne (Ne.symm hj)] at e2
    obtain⟨u',r',q⟩:=hl j y v' e1 e2 e3
    refine⟨u',r',?_⟩
    rcases q with⟨k,e⟩|⟨k,c,e,z⟩
    ·refine .inl ⟨k,?_⟩
     have:y≠x:=fun e=>hj (Lz hN e1 (e ▸ hi))
     simp[this,e]
    ·exact .inr ⟨k,c,e,z.sameBut hs (cne y c e)⟩
  ·obtain⟨w',z⟩:=I.cell y c e
   exact⟨w',z.sameBut hs (cne y c e)⟩
  ·obtain⟨e,n,ne,nf,d⟩:=I.pin p hp
   exact⟨(hs.2 p.1 ne).trans e,n,ne,nf,d⟩
 ·have hfn:X.fn x=true:=by
   rcases hf with z|z
   ·exact z
   ·rw[z] at hk;cases hk
  obtain⟨c,hc⟩:=I.ok.has x (.inl hk)
  obtain⟨w',z⟩:=I.cell x c hc
  refine wpAny_storeName_cell I.ok.kind hk hc z (fun h' hc' hs=>?_)
  obtain⟨oc,hoc,hocd⟩:=id z
  refine h { s with heap:=h' } ⟨I.ok,I.os,I.bare,⟨fun b o e n hb hx=>?_,fun b o e n hb hx=>?_,I.base.free,fun b o e hx=>?_,I.base.tups,I.base.frzs,I.base.tbls⟩,⟨m,hn.sameBut hs (Ne.symm (cne x c hc)),fun j y v' e1 e2 e3=>?_⟩,fun y c' e=>?_,I.free,I.freeC,fun p hp=>?_,tracked ⟨oc,hoc,I.freeC x c hc⟩ hs,by simpa using I.len⟩ ⟨c,hs,.inr hc⟩
  ·exact(hs.2 b (Nat.ne_of_lt (Nat.lt_of_lt_of_le (Heap.lt_size e) (I.ok.cab x c hfn hc)))).trans (I.base.keep b o e n hb hx)
  ·obtain⟨sl,e1⟩:=I.base.slot b o e n hb hx
   exact⟨sl,(hs.2 b (Nat.ne_of_lt (Nat.lt_of_lt_of_le (Heap.lt_size e) (I.ok.cab x c hfn hc)))).trans e1⟩
  ·obtain⟨o',e1⟩:=I.base.there b o e hx
   exact⟨o',(hs.2 b (Nat.ne_of_lt (Nat.lt_of_lt_of_le (Heap.lt_size e) (I.ok.cab x c hfn hc)))).trans e1⟩
  ·by_cases hj:j=i
   ·subst hj
    rw[hi] at e1;cases e1
    rw[List.getElem?_set_self hiσ] at e2
    cases e2
    exact⟨u,r,.inr ⟨.inl hk,c,hc,hc'⟩⟩
   ·rw[List.getElem?_set_ne (Ne.symm hj)] at e2
    obtain⟨u',r',q⟩:=hl j y v' e1 e2 e3
    refine⟨u',r',?_⟩
    rcases q with q|⟨k,c',e,z'⟩
    ·exact .inl q
    ·refine .inr ⟨k,c',e,z'.sameBut hs ?_⟩
     rintro rfl
     exact hj (Lz hN e1 (I.ok.inj _ _ _ e hc ▸ hi))
  ·by_cases hcc:c'=c
   ·subst hcc;exact⟨_,hc'⟩
   ·obtain⟨w2,z2⟩:=I.cell y c' e
    exact⟨w2,z2.sameBut hs hcc⟩
  ·obtain⟨e,n,ne,nf,d⟩:=I.pin p hp
   refine⟨(hs.2 p.1 ?_).trans e,n,ne,nf,d⟩
   intro q
   rw[q,hoc] at e
   have q':oc=p.2:=Option.some.inj e
   exact d w' (by rw[<-q'];exact hocd)
theorem F5{M:Model}{A:Around}{E:Value->Shared->Prop}{i:Nat}{x:Str}{v:V}{u:Value}{Q:Unit->Shared->Prop}(I:Inv X pins σ H s)(hN:X.N.Nodup)(hi:X.N[i]?=some x)(hx:Loc X.env.scope x)(r:RelV v u)
  (h:∀s',Inv X pins (σ.set i (some v)) H s'->Q () s') (hf:X.fn x=true\/X.env.scope.names.lookup x=some .local:=by first|exact .inl rfl|exact .inr rfl|assumption):wpAny M A (storeName X.env x u) Q E s :=
 Kj I hN hi hx r (fun s' I' _=>h s' I') hf
theorem Inv.call'{s':Shared}{ch:List Addr}(I:Inv X pins σ H s)(ho:s'.os=s.os)(u:Un (frs X.stack) ch H H' s.heap s'.heap)(hok:HOk X.prog X.w H' s'.heap)(hg:AllBare s'.gens)
  (hch:∀b∈ch,(b∈X.ex\/X.s₀.heap.objs.size<=b)/\b≠X.env.locals/\(∀x c,X.env.cells.lookup x=some c->c≠b)/\∀p∈X.pn++pins,p.1≠b):Inv X pins σ H' s':=by
 obtain⟨h',g',d',t',o'⟩:=s'
 have e:o'=s.os:=ho
 subst e
 exact I.call (g':=g') (t':=t') (d':=d') u hok hg hch
end
abbrev XK:=Value->Option Addr->Hp->Prop
abbrev St:=List (Option V)
abbrev VK:=V->Hp->Prop
abbrev TE:=St->Hp->VK->Prop
abbrev TT:=St->Hp->(Bool->Hp->Prop)->Prop
abbrev TA:=St->Hp->(List V->Hp->Prop)->Prop
structure Ends where
 nx:St->Hp->Prop
 rt:VK
 bk:St->Hp->Prop:=fun _ _=>False
 ct:St->Hp->Prop:=fun _ _=>False
abbrev TS:=Ends->St->Hp->Prop
def EP(X:Cx)(pins:List (Addr×Obj))(σ:St)(Q:VK)(u:Value)(s':Shared):Prop:=∃v H',Inv X pins σ H' s'/\RelV v u/\Q v H'
def TP(X:Cx)(pins:List (Addr×Obj))(σ:St)(Q:Bool->Hp->Prop)(b:Bool)(s':Shared):Prop:=∃H',Inv X pins σ H' s'/\Q b H'
def AP(X:Cx)(pins:List (Addr×Obj))(σ:St)(Q:List V->Hp->Prop)(us:List Value)(s':Shared):Prop:=∃vs H',Inv X pins σ H' s'/\Vals vs us/\Q vs H'
def SP(X:Cx)(pins:List (Addr×Obj))(D:Ends)(f:Flow)(s':Shared):Prop :=
 match f with
 | .next=>∃ σ' H',Inv X pins σ' H' s'/\D.nx σ' H'
 | .brk=>∃ σ' H',Inv X pins σ' H' s'/\D.bk σ' H'
 | .cont=>∃ σ' H',Inv X pins σ' H' s'/\D.ct σ' H'
 | .ret u=>∃v σ' H',Inv X pins σ' H' s'/\RelV v u/\D.rt v H'
def PE(X:Cx)(e:Expr)(t:TE):Prop :=
 ∀(pins:List (Addr×Obj)) (s:Shared) (σ:St) (H:Hp) (Q:VK),Inv X pins σ H s->t σ H Q->wpAny (model X.prog X.w) X.A (eval e X.env) (EP X pins σ Q) X.xe s
def PT(X:Cx)(e:Expr)(t:TT):Prop :=
 ∀(pins:List (Addr×Obj)) (s:Shared) (σ:St) (H:Hp) (Q:Bool->Hp->Prop),Inv X pins σ H s->t σ H Q->wpAny (model X.prog X.w) X.A (isTrue e X.env (eval e X.env)) (TP X pins σ Q) X.xe s
def PW(X:Cx)(e:Expr)(t:TT):Prop :=
 ∀(whole:Sem Value) (pins:List (Addr×Obj)) (s:Shared) (σ:St) (H:Hp) (Q:Bool->Hp->Prop),Inv X pins σ H s->t σ H Q->wpAny (model X.prog X.w) X.A (isTrue e X.env whole) (TP X pins σ Q) X.xe s
theorem PW.pt{X:Cx}{e:Expr}{t:TT}(h:PW X e t):PT X e t:=h _
def PA(X:Cx)(es:List Expr)(t:TA):Prop :=
 ∀(pos:Pos) (pins:List (Addr×Obj)) (s:Shared) (σ:St) (H:Hp) (Q:List V->Hp->Prop),Inv X pins σ H s->t σ H Q->wpAny (model X.prog X.w) X.A (spliced (backTo pos (starEach es X.env))) (AP X pins σ Q) X.xe s
def PS(X:Cx)(st:Stmt)(t:TS):Prop :=
 ∀(pins:List (Addr×Obj)) (s:Shared) (σ:St) (H:Hp) (D:Ends),Inv X pins σ H s->t D σ H->wpAny (model X.prog X.w) X.A (exec st X.env) (SP X pins D) X.xe s
def PSs(X:Cx)(st:List Stmt)(t:TS):Prop :=
 ∀(pins:List (Addr×Obj)) (s:Shared) (σ:St) (H:Hp) (D:Ends),Inv X pins σ H s->t D σ H->wpAny (model X.prog X.w) X.A (execs st X.env) (SP X pins D) X.xe s
theorem thn{α:Type}{t:Sem α}{Q Q':α->Shared->Prop}{M:Model}{A:Around}{E:Value->Shared->Prop}{s:Shared}(h:wpAny M A t Q E s)(hQ:∀a s,Q a s->Q' a s):wpAny M A t Q' E s:=wpAny_mono h hQ fun _ _ x=>x
end L2
namespace L2
open PySem PySem.Spec PyProof.Rows
section
variable{X:Cx}
def tVar(i:Nat):TE:=fun σ H Q=>∃v,σ[i]?=some (some v)/\Q v H
def tC(v:V):TE:=fun _ H Q=>Q v H
theorem Ye{i:Nat}{x:Str}{pos:Pos}(hN:X.N[i]?=some x)(hv:Vis X.env.scope x)(hd:(x==("__debug__":Str))=false:=by decide)(hcd:(x==("__classdict__":Str))=false:=by decide):PE X (.Name x pos) (tVar i):=by
 intro pins s σ H Q I h
 obtain⟨v,e,h⟩:=h
 obtain⟨m,hn,hl⟩:=I.loc
 obtain⟨u,r,l⟩:=hl i x v hN e hv
 have fin:EP X pins σ Q u s:=⟨v,H,I,r,h⟩
 rcases l with⟨hk,hm⟩|⟨hk,c,hc,hcell⟩
 ·exact wpAny_Name (wpAny_loadName_local I.ok.kind hk hn hm fin) hd
 ·rcases hk with hk|hk
  ·exact wpAny_Name (wpAny_loadName_cell I.ok.kind hk hc hcell fin) hd
  ·exact wpAny_Name (wpAny_loadName_free I.ok.kind hk hc hcell fin hcd) hd
theorem Uv{i j pos}:PE X (.Constant (.int i) j pos) (tC (.int i)):=fun _ _ _ H _ I h=>wpAny_Constant_int ⟨.int i,H,I.tok _,⟨_,rfl⟩,h⟩
theorem pe_bl{b j pos}:PE X (.Constant (.bool b) j pos) (tC (.bl b)):=fun _ _ _ H _ I h=>Constant_bool ⟨.bl b,H,I,rfl,h⟩
theorem Zy{j pos}:PE X (.Constant .none j pos) (tC .non):=fun _ _ _ H _ I h=>Constant_none ⟨.non,H,I,rfl,h⟩
theorem Abe{x j pos}:PE X (.Constant (.str x) j pos) (tC (.str x)):=fun _ _ _ H _ I h=>Calls.Constant_str ⟨.str x,H,I.tok _,⟨_,rfl⟩,h⟩
def Gl(X:Cx)(x:Str):Prop:=X.env.kindOf x=some .globalImplicit
theorem Es{E:Value->Shared->Prop}{pins:List (Addr×Obj)}{s:Shared}{σ:St}{H:Hp}{x:Str}{u:Value}{pos:Pos}{Q:Value->Shared->Prop}(I:Inv X pins σ H s)(hg:Gl X x)(hm:X.mg x=some u)(h:Q u s)
  (hd:(x==("__debug__":Str))=false:=by decide):wpAny (model X.prog X.w) X.A (eval (.Name x pos) X.env) Q E s :=
 Calls.Name_function_global I.ok.kind hg (Calls.loadGlobal_global (by rw[I.ok.glob];exact I.mod.glob.keeps I.bk) hm h) hd
theorem Dk{E:Value->Shared->Prop}{pins:List (Addr×Obj)}{s:Shared}{σ:St}{H:Hp}{x:Str}{u:Value}{pos:Pos}{Q:Value->Shared->Prop}(I:Inv X pins σ H s)(hg:Gl X x)(hm:X.mg x=none)(hv:bootBuiltins x=some u)(h:Q u s)
  (hn:x≠"__name__":=by decide) (hd:(x==("__debug__":Str))=false:=by decide):wpAny (model X.prog X.w) X.A (eval (.Name x pos) X.env) Q E s:=by
 obtain⟨mb,h1,h2⟩:=I.mod.blt
 exact Calls.Name_function_global I.ok.kind hg (Calls.loadGlobal_builtin (by rw[I.ok.glob];exact I.mod.glob.keeps I.bk) hm (by rw[I.ok.blt];exact h1.keeps I.bk) ((h2 x hn).trans hv) h) hd
theorem Oi{x:Str}{v:V}{u:Value}{pos:Pos}(hg:Gl X x)(hm:X.mg x=some u)(r:RelV v u)(hd:(x==("__debug__":Str))=false:=by decide):PE X (.Name x pos) (tC v) :=
 fun _ _ _ H _ I h=>Es I hg hm ⟨v,H,I,r,h⟩ hd
theorem Vh{x:Str}{v:V}{u:Value}{pos:Pos}(hg:Gl X x)(hm:X.mg x=none)(hv:bootBuiltins x=some u)(r:RelV v u)(hn:x≠"__name__":=by decide)(hd:(x==("__debug__":Str))=false:=by decide):PE X (.Name x pos) (tC v) :=
 fun _ _ _ H _ I h=>Dk I hg hm hv ⟨v,H,I,r,h⟩ hn hd
variable{a b:Expr}{ta tb:TE}{pos:Pos}
def tB(t:TE):TT:=fun σ H Q=>t σ H fun x H1=>∃c,x=.bl c/\Q c H1
theorem Z3{e:Expr}{t:TE}(h:PE X e t)(he:∀whole,isTrue e X.env whole=(do let v ← whole;standAt e.pos;holding [v] (truthy v)):=by intro _;rfl):PT X e (tB t):=by
 intro pins s σ H Q I hw
 refine isTrue_plain (thn (h pins s σ H _ I hw) fun v s1 ⟨x,H1,I1,r1,q1⟩=>?_) (he _)
 obtain⟨d,rfl,q⟩:=q1
 cases r1
 exact wpAny_truthy_bool ⟨H1,I1,q⟩
variable{tA tB':TT}{rest:List Expr}
def tAnd(t u:TT):TT:=fun σ H Q=>t σ H fun c H1=>if c=true then u σ H1 Q else Q false H1
def tOr(t u:TT):TT:=fun σ H Q=>t σ H fun c H1=>if c=true then Q true H1 else u σ H1 Q
def tNot(t:TT):TT:=fun σ H Q=>t σ H fun c H1=>Q (!c) H1
theorem Wy(ha:PT X a tA):PW X (.BoolOp .And [a] pos) tA:=by
 intro wh pins s σ H Q I h
 refine isTrue_and (thn (ha pins s σ H Q I h) fun c s1 e=>?_)
 cases c with
 |true=>exact isTrue_and_nil e
 |false=>exact e
theorem Yz(ha:PT X a tA):PW X (.BoolOp .Or [a] pos) tA:=by
 intro wh pins s σ H Q I h
 refine isTrue_or (thn (ha pins s σ H Q I h) fun c s1 e=>?_)
 cases c with
 |false=>exact isTrue_or_nil e
 |true=>exact e
theorem Aac(ha:PT X a tA)(hb:PW X (.BoolOp .And (b::rest) pos) tB'):PW X (.BoolOp .And (a::b::rest) pos) (tAnd tA tB'):=by
 intro wh pins s σ H Q I h
 refine isTrue_and (thn (ha pins s σ H _ I h) fun c s1 ⟨H1,I1,q1⟩=>?_)
 cases c with
 |true=>exact hb wh pins s1 σ H1 Q I1 q1
 |false=>exact⟨H1,I1,q1⟩
theorem pw_or(ha:PT X a tA)(hb:PW X (.BoolOp .Or (b::rest) pos) tB'):PW X (.BoolOp .Or (a::b::rest) pos) (tOr tA tB'):=by
 intro wh pins s σ H Q I h
 refine isTrue_or (thn (ha pins s σ H _ I h) fun c s1 ⟨H1,I1,q1⟩=>?_)
 cases c with
 |true=>exact⟨H1,I1,q1⟩
 |false=>exact hb wh pins s1 σ H1 Q I1 q1
theorem Ym(ha:PT X a tA):PT X (.UnaryOp .Not a pos) (tNot tA):=by
 intro pins s σ H Q I h
 exact isTrue_not (ha pins s σ H (fun c H1=>Q (!c) H1) I h)
def tAndV(ta tb:TE):TE:=fun σ H Q=>ta σ H fun x H1=>∃c,x=.bl c/\if c=true then tb σ H1 Q else Q (.bl false) H1
def tNotV(ta:TE):TE:=fun σ H Q=>ta σ H fun x H1=>∃c,x=.bl c/\Q (.bl (!c)) H1
theorem Z1{op}{t:TE}(h:PE X a t):PE X (.BoolOp op [a] pos) t:=fun pins s σ H Q I hw=>BoolOp_one (h pins s σ H Q I hw)
theorem Yd(ha:PE X a ta)(hb:PE X (.BoolOp .And (b::rest) pos) tb):PE X (.BoolOp .And (a::b::rest) pos) (tAndV ta tb):=by
 intro pins s σ H Q I h
 refine BoolOp_and (thn (ha pins s σ H _ I h) fun v s1 ⟨x,H1,I1,r1,q1⟩=>?_)
 obtain⟨c,rfl,q1⟩:=q1
 cases r1
 refine wpAny_truthy_bool ?_
 cases c with
 |true=>exact hb pins s1 σ H1 Q I1 q1
 |false=>exact⟨.bl false,H1,I1,rfl,q1⟩
theorem Aba(ha:PE X a ta):PE X (.UnaryOp .Not a pos) (tNotV ta):=by
 intro pins s σ H Q I h
 refine UnaryOp_ (thn (ha pins s σ H _ I h) fun v s1 ⟨x,H1,I1,r1,q1⟩=>?_)
 obtain⟨c,rfl,q1⟩:=q1
 cases r1
 exact not_of (wpAny_truthy_bool ⟨.bl (!c),H1,I1,rfl,q1⟩)
end
end L2
namespace L2
open PySem PySem.Spec PyProof.Rows
def SqL(K:PySem.W.Frag)(H:Hp)(a:Addr)(xs:List V):Prop :=
 Rd H a (.lst xs) ∨
  ∃(o:Obj) (its:Array Value) (n:Nat),K.lookup a=some o/\o.cls=.type "list"/\o.dict=none/\o.data=.seq its n/\its.size<=sizeLine/\Vals xs its.toList
def SqT(K:PySem.W.Frag)(H:Hp)(a:Addr)(xs:List V):Prop :=
 Rd H a (.tup xs) ∨
  ∃(o:Obj) (its:Array Value) (n:Nat),K.lookup a=some o/\o.cls=.type "tuple"/\o.data=.seq its n/\its.size<=sizeLine/\Vals xs its.toList/\o.dict=none
def absV:Value->Option V
 | .none=>some .non
 | .bool b=>some (.bl b)
 | .int i _=>some (.int i)
 | .str x _=>some (.str x)
 | .bytes b _=>some (.byt b)
 | .float b _=>some (.flt b)
 | .ref a=>some (.ref a)
 | .type n=>some (.ty n)
 |_=>none
theorem RelV.abs{x:V}{u:Value}(r:RelV x u):absV u=some x:=by
 cases x with
 |non=>cases r;rfl
 |bl _=>cases r;rfl
 |int _=>obtain⟨t,rfl⟩:=r;rfl
 |str _=>obtain⟨t,rfl⟩:=r;rfl
 |byt _=>obtain⟨t,rfl⟩:=r;rfl
 |flt _=>obtain⟨t,rfl⟩:=r;rfl
 |ref _=>cases r;rfl
 |ty _=>cases r;rfl
theorem RelV.inj{x y:V}{u:Value}(r:RelV x u)(q:RelV y u):x=y:=Option.some.inj (r.abs.symm.trans q.abs)
theorem Vals.inj:∀{xs ys:List V} {us:List Value},Vals xs us->Vals ys us->xs=ys
 |_,_,_,.nil,.nil=>rfl
 |_,_,_,.cons r t,.cons r' t'=>by rw[r.inj r',Vals.inj t t']
section
variable{X:Cx}{pins:List (Addr×Obj)}{σ:St}{H:Hp}{s:Shared}{a:Addr}{xs ys:List V}
theorem SqL.of{K:PySem.W.Frag}(h:H a=some (.lst xs)):SqL K H a xs:=.inl (.inl h)
theorem Inv.list(I:Inv X pins σ H s)(h:SqL X.K H a xs):∃its:List Value,Vals xs its/\PlainL s.heap a its.toArray/\xs.length<=sizeLine:=by
 rcases h with h|⟨o,its,n,hk,hc,hd,hs,hz,r⟩
 ·obtain⟨z,its,n,r,e⟩:=h.ok I.hok
  exact⟨its,r,⟨_,n,e,rfl,rfl,rfl⟩,z⟩
 ·refine⟨its.toList,r,⟨o,n,I.kIn a o hk,hc,hd,by simpa using hs⟩,?_⟩
  have e:=r.length
  simp only[Array.length_toList] at e
  omega
theorem Inv.tuple(I:Inv X pins σ H s)(h:SqT X.K H a xs):∃its:List Value,Vals xs its/\IsTup s.heap a its.toArray/\xs.length<=sizeLine:=by
 rcases h with h|⟨o,its,n,hk,hc,hs,hz,r,_⟩
 ·obtain⟨z,its,r,p⟩:=h.ok I.hok
  exact⟨its,r,p.isTup,z⟩
 ·refine⟨its.toList,r,⟨o,I.kIn a o hk,hc,n,by simpa using hs⟩,?_⟩
  have e:=r.length
  simp only[Array.length_toList] at e
  omega
theorem Inv.tupN(I:Inv X pins σ H s)(h:SqT X.K H a xs):∃o,s.heap.get? a=some o/\o.cls=.type "tuple"/\o.dict=none:=by
 rcases h with h|⟨o,its,n,hk,hc,hs,hz,r,hd⟩
 ·obtain⟨z,its,r,o,e,c,_,d⟩:=h.ok I.hok
  exact⟨o,e,c,d⟩
 ·exact⟨o,I.kIn a o hk,hc,hd⟩
theorem Inv.list_inj(I:Inv X pins σ H s)(h:SqL X.K H a xs)(h':SqL X.K H a ys):xs=ys:=by
 obtain⟨its,r,⟨o,n,e,_,_,d⟩,_⟩:=I.list h
 obtain⟨its',r',⟨o',n',e',_,_,d'⟩,_⟩:=I.list h'
 rw[e] at e';cases e'
 rw[d] at d'
 injection d' with d1 _
 have:its=its':=by simpa using congrArg Array.toList d1
 subst this
 exact r.inj r'
theorem Inv.tuple_inj(I:Inv X pins σ H s)(h:SqT X.K H a xs)(h':SqT X.K H a ys):xs=ys:=by
 obtain⟨its,r,⟨o,e,_,n,d⟩,_⟩:=I.tuple h
 obtain⟨its',r',⟨o',e',_,n',d'⟩,_⟩:=I.tuple h'
 rw[e] at e';cases e'
 rw[d] at d'
 injection d' with d1 _
 have:its=its':=by simpa using congrArg Array.toList d1
 subst this
 exact r.inj r'
end
abbrev Cx.wish(X:Cx)(E:Value->Shared->Prop):Cx:={ X with xe:=E }
abbrev Cx.nox(X:Cx):Cx:=X.wish fun _ _=>False
theorem Cx.Ok.wish{X:Cx}(ok:X.Ok)(E:Value->Shared->Prop):(X.wish E).Ok :=
 ⟨ok.mod,ok.kind,ok.glob,ok.blt,ok.above,ok.inj,ok.has,ok.cab,ok.hd,ok.frames,ok.stk,ok.exf,ok.bs,ok.bsz,ok.noex,ok.exfs,ok.funs,ok.frf⟩
theorem Cx.Ok.unwish{X:Cx}{E:Value->Shared->Prop}(ok:(X.wish E).Ok):X.Ok :=
 ⟨ok.mod,ok.kind,ok.glob,ok.blt,ok.above,ok.inj,ok.has,ok.cab,ok.hd,ok.frames,ok.stk,ok.exf,ok.bs,ok.bsz,ok.noex,ok.exfs,ok.funs,ok.frf⟩
section
variable{X:Cx}{pins:List (Addr×Obj)}{σ:St}{H:Hp}{s:Shared}{E:Value->Shared->Prop}
theorem Inv.wish(I:Inv X pins σ H s)(E:Value->Shared->Prop):Inv (X.wish E) pins σ H s:=⟨I.ok.wish E,I.os,I.bare,I.base,I.loc,I.cell,I.free,I.freeC,I.pin,I.hok,I.len⟩
theorem Inv.unwish(I:Inv (X.wish E) pins σ H s):Inv X pins σ H s:=⟨I.ok.unwish,I.os,I.bare,I.base,I.loc,I.cell,I.free,I.freeC,I.pin,I.hok,I.len⟩
theorem SP.unwish{D:Ends}{f:Flow}{s':Shared}(h:SP (X.wish E) pins D f s'):SP X pins D f s':=by
 cases f with
 |next=>obtain⟨σ',H',I,q⟩:=h;exact⟨σ',H',I.unwish,q⟩
 |brk=>obtain⟨σ',H',I,q⟩:=h;exact⟨σ',H',I.unwish,q⟩
 |cont=>obtain⟨σ',H',I,q⟩:=h;exact⟨σ',H',I.unwish,q⟩
 |ret u=>obtain⟨v,σ',H',I,r,q⟩:=h;exact⟨v,σ',H',I.unwish,r,q⟩
theorem PSs.nox{st:List Stmt}{t:TS}(h:PSs X.nox st t):PSs X st t:=fun pins s σ H D I hw =>
 wpAny_mono (h pins s σ H D (I.wish _) hw) (fun _ _ q=>q.unwish) fun _ _ z=>False.elim z
end
section
variable{X:Cx}{st:Stmt}{rest:List Stmt}{t u:TS}{e:Expr}{te:TE}{pos:Pos}
def tNext:TS:=fun D σ H=>D.nx σ H
def tSeq(t u:TS):TS:=fun D σ H=>t { D with nx:=u D } σ H
theorem Pm:PSs X [] tNext:=fun _ _ σ H _ I h=>wpAny_execs_nil ⟨σ,H,I,h⟩
theorem Mv(h1:PS X st t)(h2:PSs X rest u):PSs X (st::rest) (tSeq t u):=by
 intro pins s σ H D I h
 refine wpAny_execs_cons (thn (h1 pins s σ H { D with nx:=u D } I h) fun f s1 q=>?_)
 cases f with
 |next =>
  obtain⟨σ',H',I',q⟩:=q
  exact h2 pins s1 σ' H' D I' q
 |ret v=>exact q
 |brk=>exact q
 |cont=>exact q
theorem O5(h1:PS X st t):PSs X [st] t:=by
 intro pins s σ H D I h
 refine wpAny_execs_cons (thn (h1 pins s σ H D I h) fun f s1 q=>?_)
 cases f with
 |next=>exact wpAny_execs_nil q
 |ret v=>exact q
 |brk=>exact q
 |cont=>exact q
theorem Inv.quiet{pins:List (Addr×Obj)}{σ:St}{H:Hp}{s:Shared}(I:Inv X pins σ H s):interactive X.env=false:=by simp[interactive,I.ok.kind]
def tDrop(te:TE):TS:=fun D σ H=>te σ H fun _ H1=>D.nx σ H1
theorem Op(he:PE X e te)(hs:swapsWith e none pos.line X.env=pure false:=by rfl):PS X (.Expr e pos) (tDrop te):=by
 intro pins s σ H D I h
 exact wpAny_Expr_any (thn (he pins s σ H _ I h) fun v s1 ⟨x,H1,I1,r1,q1⟩=>⟨σ,H1,I1,q1⟩) I.quiet hs
def tRet(te:TE):TS:=fun D σ H=>te σ H D.rt
theorem Aav(he:PE X e te):PS X (.Return (some e) pos) (tRet te):=by
 intro pins s σ H D I h
 exact wpAny_Return_some (thn (he pins s σ H _ I h) fun v s1 ⟨x,H1,I1,r1,q1⟩=>⟨x,σ,H1,I1,r1,q1⟩)
def tIfS(c:TT)(t u:TS):TS:=fun D σ H=>c σ H fun b H1=>if b=true then t D σ H1 else u D σ H1
theorem X3{c:Expr}{a b:List Stmt}{tc:TT}(hc:PT X c tc)(ha:PSs X a t)(hb:PSs X b u):PS X (.If c a b pos) (tIfS tc t u):=by
 intro pins s σ H D I h
 refine wpAny_If (thn (hc pins s σ H _ I h) fun d s1 ⟨H1,I1,q1⟩=>?_)
 cases d with
 |true=>exact ha pins s1 σ H1 D I1 q1
 |false=>exact hb pins s1 σ H1 D I1 q1
end
abbrev TG:=V->St->Hp->(St->Hp->Prop)->Prop
abbrev TGs:=List V->St->Hp->(St->Hp->Prop)->Prop
def PG(X:Cx)(target:Expr)(t:TG):Prop :=
 ∀(pins:List (Addr×Obj)) (s:Shared) (σ:St) (H:Hp) (v:V) (u:Value) (Q:St->Hp->Prop),Inv X pins σ H s->RelV v u->t v σ H Q →
  wpAny (model X.prog X.w) X.A (assign target X.env u) (fun _ s'=>∃ σ' H',Inv X pins σ' H' s'/\Q σ' H') X.xe s
def PGs(X:Cx)(ts:List Expr)(t:TGs):Prop :=
 ∀(pins:List (Addr×Obj)) (s:Shared) (σ:St) (H:Hp) (vs:List V) (us:List Value) (Q:St->Hp->Prop),Inv X pins σ H s->Vals vs us->t vs σ H Q →
  wpAny (model X.prog X.w) X.A (assignInOrder ((assignEach ts X.env).map (·.2)) us) (fun _ s'=>∃ σ' H',Inv X pins σ' H' s'/\Q σ' H') X.xe s
abbrev TSet:=V->V->V->Hp->(Hp->Prop)->Prop
def PSet(X:Cx)(t:TSet):Prop :=
 ∀(pins:List (Addr×Obj)) (s:Shared) (σ:St) (H:Hp) (o i v:V) (ov iv u:Value) (Q:Hp->Prop),Inv X pins σ H s->RelV o ov->RelV i iv->RelV v u->t o i v H Q →
  wpAny (model X.prog X.w) X.A (setItem ov iv u) (fun _ s'=>∃H',Inv X pins σ H' s'/\Q H') X.xe s
section
variable{X:Cx}{pos:Pos}
def Jz(i:Nat):TG:=fun v σ H Q=>Q (σ.set i (some v)) H
theorem B8{i:Nat}{x:Str}(hN:X.N.Nodup)(hi:X.N[i]?=some x)(hx:Loc X.env.scope x)(hf:X.fn x=true\/X.env.scope.names.lookup x=some .local:=by first|exact .inl rfl|exact .inr rfl|assumption):PG X (.Name x pos) (Jz i):=by
 intro pins s σ H v u Q I r h
 exact wpAny_assign_Name (F5 I hN hi hx r (fun s' I'=>⟨_,H,I',h⟩) hf)
def gNil:TGs:=fun vs σ H Q=>vs=[]/\Q σ H
def Sh(t:TG)(u:TGs):TGs:=fun vs σ H Q=>∃v r,vs=v::r/\t v σ H fun σ' H'=>u r σ' H' Q
theorem Hj:PGs X [] gNil:=by
 intro pins s σ H vs us Q I r h
 obtain⟨e,h⟩:=h
 subst e
 cases r
 exact assignInOrder_nil ⟨σ,H,I,h⟩
theorem Cm{e:Expr}{es:List Expr}{t:TG}{u:TGs}(h1:PG X e t)(h2:PGs X es u)
  (hs:(assignEach (e::es) X.env).map (·.2)=assign e X.env::(assignEach es X.env).map (·.2):=by rfl):PGs X (e::es) (Sh t u):=by
 intro pins s σ H vs us Q I r h
 obtain⟨v,vr,e1,h⟩:=h
 subst e1
 cases r with
 |cons r rr =>
  rw[hs]
  refine assignInOrder_cons (thn (h1 pins s σ H _ _ _ I r h) fun _ s1 ⟨σ1,H1,I1,q1⟩=>?_)
  exact h2 pins s1 σ1 H1 _ _ Q I1 rr q1
def gTup(K:PySem.W.Frag)(n:Nat)(t:TGs):TG:=fun v σ H Q=>∃a xs,v=.ref a/\SqT K H a xs/\xs.length=n/\t xs σ H Q
theorem Lh{es:List Expr}{k:Nat}{t:TGs}{n:Nat}(hc:X.calm=true)(h:PGs X es t)
  (hn:(assignEach es X.env).length=n:=by rfl) (hst:(assignEach es X.env).findIdx? (·.1)=none:=by rfl):PG X (.Tuple es k pos) (gTup X.K n t):=by
 intro pins s σ H v u Q I r hw
 obtain⟨a,xs,e1,hq,hl,hw⟩:=hw
 subst e1
 cases r
 obtain⟨its,rv,ht,hz⟩:=I.tuple hq
 refine assign_Tuple_tuple (I.ok.hd hc) ht (by simp[hn,<-hl,rv.length]) hst fun h' hx=>?_
 have I1:Inv X pins σ H { s with heap:=h' }:=I.kept (t':=s.toks) fun b o e=>hx b o (Nat.ne_of_lt (Heap.lt_size e)) e
 exact h pins _ σ H xs _ Q I1 (by simpa using rv) hw
def gSub(to ti:TE)(t:TSet):TG:=fun v σ H Q=>to σ H fun o H1=>ti σ H1 fun i H2=>t o i v H2 fun H3=>Q σ H3
theorem Y0{o i:Expr}{to ti:TE}{t:TSet}(ho:PE X o to)(hi:PE X i ti)(hs:PSet X t)
  (ha:∀v,assign (.Subscript o i pos) X.env v=(do
   let ov ← holding [v] (eval o X.env)
   let iv ← holding [v,ov] (eval i X.env)
   standAt pos
   holding [v,ov,iv] (setItem ov iv v)
   release [v,ov,iv] []):=by intro _;rfl):PG X (.Subscript o i pos) (gSub to ti t):=by
 intro pins s σ H v u Q I r h
 rw[ha]
 refine wpAny_bind (wpAny_holding (thn (ho pins s σ H _ I h) fun ov s1 ⟨x,H1,I1,r1,q1⟩=>?_))
 refine wpAny_bind (wpAny_holding (thn (hi pins s1 σ H1 _ I1 q1) fun iv s2 ⟨y,H2,I2,r2,q2⟩=>?_))
 refine wpAny_bind (wpAny_standAt (wpAny_bind (wpAny_holding (thn (hs pins s2 σ H2 x y v ov iv u _ I2 r1 r2 r q2) fun _ s3 ⟨H3,I3,q3⟩=>?_))))
 exact wpAny_release ⟨σ,H3,I3,q3⟩
def tAsg(te:TE)(g:TG):TS:=fun D σ H=>te σ H fun x H1=>g x σ H1 D.nx
theorem Sb{tg e:Expr}{te:TE}{g:TG}(he:PE X e te)(hg:PG X tg g)(hs:swapsWithSole [tg] e pos.line X.env=pure false:=by rfl)(hw:swappedStores [tg] e X.env=pure none:=by rfl)
  (h1:(assignEach [tg] X.env).map (·.2)=[assign tg X.env]:=by rfl):PS X (.Assign [tg] e pos) (tAsg te g):=by
 intro pins s σ H D I h
 refine wpAny_Assign_stores (thn (he pins s σ H _ I h) fun v s1 ⟨x,H1,I1,r1,q1⟩=>?_) hs hw
 rw[h1]
 exact thn (hg pins s1 σ H1 x v _ I1 r1 q1) fun _ s2 q=>q
theorem ps_set{i:Nat}{x:Str}{e:Expr}{te:TE}{pos':Pos}(hN:X.N.Nodup)(hi:X.N[i]?=some x)(hx:Loc X.env.scope x)(he:PE X e te)(hs:swapsWith e (some (.Name x pos')) pos.line X.env=pure false:=by rfl)(hf:X.fn x=true\/X.env.scope.names.lookup x=some .local:=by first|exact .inl rfl|exact .inr rfl|assumption):
  PS X (.Assign [.Name x pos'] e pos) (tAsg te (Jz i)):=by
 intro pins s σ H D I h
 refine wpAny_Assign_Name (thn (he pins s σ H _ I h) fun v s1 ⟨y,H1,I1,r1,q1⟩=>?_) hs
 exact F5 I1 hN hi hx r1 (fun s2 I2=>⟨_,H1,I2,q1⟩) hf
end
structure It where
 go:Nat->Hp->Prop
 yld:Nat->Hp->V->Hp->Prop
 stop:Nat->Hp->Prop
def FpOk(X:Cx)(pins:List (Addr×Obj))(H:Hp)(b:Addr):Prop :=
 H b=none/\b≠X.env.locals/\b ∉ X.fs/\(b∈X.ex\/X.s₀.heap.objs.size<=b)/\(∀x c,X.env.cells.lookup x=some c->c≠b)/\∀p∈X.pn++pins,p.1≠b
theorem Inv.fpOk{X:Cx}{pins:List (Addr×Obj)}{σ:St}{H H':Hp}{s:Shared}{b:Addr}(I:Inv X pins σ H s)(hb:s.heap.objs.size<=b)(hn:H' b=none):FpOk X pins H' b:=by
 refine⟨hn,Nat.ne_of_gt (Nat.lt_of_lt_of_le I.lt hb),I.nofs hb,.inr (Nat.le_trans I.sz hb),fun x c e z=>?_,fun p hp z=>?_⟩
 ·obtain⟨v,q⟩:=I.cell x c e
  exact absurd (Nat.lt_of_lt_of_le q.lt (by rw[z];exact hb)) (Nat.lt_irrefl _)
 ·exact absurd (Nat.lt_of_lt_of_le (Heap.lt_size (I.pin p hp).1) (by rw[z];exact hb)) (Nat.lt_irrefl _)
structure Turn(P:Program)(w:World)(K:PySem.W.Frag)(tg:Expr)(J:It)(fp:List Addr)(it:Addr)(tn:Nat->Heap->Prop):Prop where
 mem:it∈fp
 obj:∀i h,tn i h->∀b∈fp,∃o,h.get? b=some o/\∀v,o.data≠.cell v
 keep:∀i h h',tn i h->(∀b∈fp,∀o,h.get? b=some o->h'.get? b=some o)->tn i h'
 item:∀(X:Cx),X.prog=P->X.w=w->X.K=K->X.calm=true->∀(i:Nat) (pins:List (Addr×Obj)) (s:Shared) (σ:St) (H:Hp) (E:Value->Shared->Prop),Inv X pins σ H s->(∀b∈fp,FpOk X pins H b)->tn i s.heap->J.go i H →
  wpAny (model P w) X.A (pyNext (.ref it)) (fun r s1=>∃u,r=some u ∧
   wpAny (model P w) X.A (letOwnedTupleGo tg (.ref it) u) (fun _ s2=>∃x H',Inv X pins σ H' s2/\RelV x u/\J.yld i H x H'/\tn (i+1) s2.heap/\∀b∈fp,H' b=none) E s1) E s
 done:∀(X:Cx),X.prog=P->X.w=w->X.K=K->X.calm=true->∀(i:Nat) (pins:List (Addr×Obj)) (s:Shared) (σ:St) (H:Hp) (E:Value->Shared->Prop),Inv X pins σ H s->(∀b∈fp,FpOk X pins H b)->tn i s.heap->J.stop i H →
  wpAny (model P w) X.A (pyNext (.ref it)) (fun r s1=>r=none/\Inv X pins σ H s1) E s
 self:∀(A:Around) (i:Nat) (s:Shared) (Q:Value->Shared->Prop) (E:Value->Shared->Prop),tn i s.heap->Q (.ref it) s->wpAny (model P w) A (pyIter (.ref it)) Q E s
abbrev TI:=St->Hp->(It->Hp->Prop)->Prop
def PIE(X:Cx)(pins:List (Addr×Obj))(σ:St)(tg:Expr)(R:It->Hp->Prop)(itv:Value)(s2:Shared):Prop :=
 ∃(it:Addr) (fp:List Addr) (tn:Nat->Heap->Prop) (J:It) (H':Hp),itv=.ref it/\Inv X pins σ H' s2/\Turn X.prog X.w X.K tg J fp it tn/\tn 0 s2.heap/\(∀b∈fp,FpOk X pins H' b)/\R J H'
def PI(X:Cx)(tg iter:Expr)(wi:TI):Prop :=
 ∀(pins:List (Addr×Obj)) (s:Shared) (σ:St) (H:Hp) (R:It->Hp->Prop),Inv X pins σ H s->wi σ H R →
  wpAny (model X.prog X.w) X.A (eval iter X.env) (fun v s1=>wpAny (model X.prog X.w) X.A (pyIter v) (PIE X pins σ tg R) X.xe s1) X.xe s
theorem Ud {M:Model} {A:Around} {E:Value->Shared->Prop} {s:Shared} {tg:Expr} {it:Addr} {u:Value} {o:Obj} {n:String} {vs:Array Value} {Q:Unit->Shared->Prop} (ho:s.heap.get? it = some o) (hc:o.cls = .type n) (hd:o.data = .fields vs)
    (hn:["enumerate","zip","dict_itemiterator","dict_reverseitemiterator","odict_iterator","itertools.zip_longest","itertools.pairwise"].contains n = false) (hQ:Q () s):wpAny M A (letOwnedTupleGo tg (.ref it) u) Q E s:=by
  unfold letOwnedTupleGo
  cases tg <;> first
    | exact wpAny_pure hQ
    | (cases u <;> first
        | exact wpAny_pure hQ
        | (refine wpAny_bind (wpAny_load ho ?_)
           rw [hc,hd]
           show wpAny M A (if (["enumerate","zip","dict_itemiterator","dict_reverseitemiterator","odict_iterator","itertools.zip_longest","itertools.pairwise"].contains n && vs[0]? == some (rawInt _)) = true then _ else _) Q E s
           rw [if_neg (by intro h;rw [hn,Bool.false_and] at h;cases h)]
           exact wpAny_pure hQ))
def Itl(K:PySem.W.Frag)(a:Addr):It :=
 ⟨fun i H=>∃xs x,SqL K H a xs/\xs[i]?=some x,fun i H x H'=>H'=H/\∀xs,SqL K H a xs->xs[i]?=some x,fun i H=>∃xs,SqL K H a xs/\xs.length<=i⟩
def Itt(K:PySem.W.Frag)(a:Addr):It :=
 ⟨fun i H=>∃xs x,SqT K H a xs/\xs[i]?=some x,fun i H x H'=>H'=H/\∀xs,SqT K H a xs->xs[i]?=some x,fun i H=>∃xs,SqT K H a xs/\xs.length<=i⟩
def Itr(lo:Int)(n:Nat):It:=⟨fun i _=>i<n,fun i H x H'=>H'=H/\x=.int (lo+i),fun i _=>n<=i⟩
theorem Q6{P:Program}{w:World}{K:PySem.W.Frag}{tg:Expr}(a it:Addr):Turn P w K tg (Itl K a) [it] it (fun i h=>h.IsListIter it a i) where
 mem:=by simp
 obj:=fun i h st b hb=>by
  have e:b=it:=by simpa using hb
  subst e
  obtain⟨o,e,c,d⟩:=st
  exact⟨o,e,fun v z=>by rw[d] at z;cases z⟩
 keep:=fun i h h' st k=>st.at fun o e=>k it (by simp) o e
 item:=by
  intro X hP hw hK hc i pins s σ H E I hf st hg
  subst hP hw hK
  obtain⟨xs,x,hq,hx⟩:=hg
  obtain⟨its,rv,p,hz⟩:=I.list hq
  obtain⟨u,hu,ru⟩:=rv.get hx
  obtain⟨f0,f1,f2,f3,f4,f5⟩:=hf it (by simp)
  refine wpAny_pyNext_list_item st p.isList (x:=u) (by simpa using hu) fun h' st' sb=>?_
  have I1:Inv X pins σ H { s with heap:=h' }:=I.turned (t':=s.toks) (fun b o hb e=>(sb.2 b hb).trans e) f0 f1 f3 f4 f5
  obtain⟨o,e,c,d⟩:=id st'
  exact⟨u,rfl,Ud (s:={ s with heap:=h' }) e c d (by decide) ⟨x,H,I1,ru,⟨rfl,fun ys hy=>by rw[I.list_inj hy hq];exact hx⟩,st',fun b hb=>(hf b hb).1⟩⟩
 done:=by
  intro X hP hw hK hc i pins s σ H E I hf st hg
  subst hP hw hK
  obtain⟨xs,hq,hx⟩:=hg
  obtain⟨its,rv,p,hz⟩:=I.list hq
  obtain⟨f0,f1,f2,f3,f4,f5⟩:=hf it (by simp)
  have hl:=rv.length
  exact wpAny_pyNext_list_end (I.ok.hd hc) st p.isList (by simp;omega) fun h' eb=>⟨rfl,I.turned (t':=s.toks) (fun b o hb e=>eb b o hb e) f0 f1 f3 f4 f5⟩
 self:=fun _ _ _ _ _ st h=>wpAny_pyIter_listiter st h
theorem N7{P:Program}{w:World}{K:PySem.W.Frag}{tg:Expr}(a it:Addr):Turn P w K tg (Itt K a) [it] it (fun i h=>h.IsTupleIter it a i) where
 mem:=by simp
 obj:=fun i h st b hb=>by
  have e:b=it:=by simpa using hb
  subst e
  obtain⟨o,e,c,d⟩:=st
  exact⟨o,e,fun v z=>by rw[d] at z;cases z⟩
 keep:=fun i h h' st k=>st.at fun o e=>k it (by simp) o e
 item:=by
  intro X hP hw hK hc i pins s σ H E I hf st hg
  subst hP hw hK
  obtain⟨xs,x,hq,hx⟩:=hg
  obtain⟨its,rv,p,hz⟩:=I.tuple hq
  obtain⟨u,hu,ru⟩:=rv.get hx
  obtain⟨f0,f1,f2,f3,f4,f5⟩:=hf it (by simp)
  refine wpAny_pyNext_tuple_item st (show s.heap.IsTuple a its.toArray from p) (x:=u) (by simpa using hu) fun h' st' sb=>?_
  have I1:Inv X pins σ H { s with heap:=h' }:=I.turned (t':=s.toks) (fun b o hb e=>(sb.2 b hb).trans e) f0 f1 f3 f4 f5
  obtain⟨o,e,c,d⟩:=id st'
  exact⟨u,rfl,Ud (s:={ s with heap:=h' }) e c d (by decide) ⟨x,H,I1,ru,⟨rfl,fun ys hy=>by rw[I.tuple_inj hy hq];exact hx⟩,st',fun b hb=>(hf b hb).1⟩⟩
 done:=by
  intro X hP hw hK hc i pins s σ H E I hf st hg
  subst hP hw hK
  obtain⟨xs,hq,hx⟩:=hg
  obtain⟨its,rv,p,hz⟩:=I.tuple hq
  obtain⟨f0,f1,f2,f3,f4,f5⟩:=hf it (by simp)
  have hl:=rv.length
  exact wpAny_pyNext_tuple_end (I.ok.hd hc) st (show s.heap.IsTuple a its.toArray from p) (by simp;omega) fun h' eb=>⟨rfl,I.turned (t':=s.toks) (fun b o hb e=>eb b o hb e) f0 f1 f3 f4 f5⟩
 self:=fun _ _ _ _ _ st h=>wpAny_pyIter_tupleiter st h
theorem M8{P:Program}{w:World}{K:PySem.W.Frag}{tg:Expr}(it:Addr)(lo:Int)(n:Nat):Turn P w K tg (Itr lo n) [it] it (fun i h=>IsRangeIter h it (lo+(i:Nat) * 1) ((n:Int) - (i:Nat)) 1) where
 mem:=by simp
 obj:=fun i h st b hb=>by
  have e:b=it:=by simpa using hb
  subst e
  exact⟨_,st,fun v z=>by
   have z':Data.fields _=Data.cell v:=z
   cases z'⟩
 keep:=fun i h h' st k=>k it (by simp) _ st
 item:=by
  intro X hP hw hK hc i pins s σ H E I hf st hg
  subst hP hw hK
  obtain⟨f0,f1,f2,f3,f4,f5⟩:=hf it (by simp)
  have W:=Walks.range (prog:=X.prog) (w:=X.w) (I.ok.hd hc) it lo 1 n
  refine W.item i s _ _ hg st fun v h' tk hv st' kk=>?_
  obtain⟨t,rfl⟩:=hv
  have I1:Inv X pins σ H { s with heap:=h',toks:=tk }:=I.turned (fun b o hb e=>kk b o (by simpa using hb) e) f0 f1 f3 f4 f5
  refine⟨_,rfl,Ud (s:={ s with heap:=h',toks:=tk }) (n:="range_iterator") st' rfl rfl (by decide) ⟨.int (lo+i),H,I1,⟨t,?_⟩,⟨rfl,rfl⟩,st',fun b hb=>(hf b hb).1⟩⟩
  rw[Int.mul_one]
 done:=by
  intro X hP hw hK hc i pins s σ H E I hf st hg
  subst hP hw hK
  obtain⟨f0,f1,f2,f3,f4,f5⟩:=hf it (by simp)
  exact wpAny_pyNext_range_end (I.ok.hd hc) st (by have:n<=i:=hg;omega) fun h' eb=>⟨rfl,I.turned (t':=s.toks) (fun b o hb e=>eb b o hb e) f0 f1 f3 f4 f5⟩
 self:=fun _ _ _ _ _ st h=>wpAny_pyIter_rangeiter st h
end L2
namespace L2
open PySem PySem.Spec PyProof.Rows
section
variable{X:Cx}{tg:Expr}
theorem Tq{pins:List (Addr×Obj)}{σ:St}{H:Hp}{s:Shared}{R:It->Hp->Prop}{E:Value->Shared->Prop}{lo hi:Int}{t u v:Tok}{tk:Nat}(I:Inv X pins σ H s)(h1:-(2 ^ 62)<=lo)(h2:lo<2 ^ 62)(h3:-(2 ^ 62)<=hi)(h4:hi<2 ^ 62)
  (q:R (Itr lo (hi - lo).toNat) H):wpAny (model X.prog X.w) X.A (pyIter (.ref s.heap.objs.size)) (PIE X pins σ tg R) E { s with heap:=s.heap.push { cls:=.type "range",data:=.fields #[.int lo t,.int hi u,.int 1 v] },toks:=tk }:=by
 refine wpAny_pyIter_range (IsRange.new ..) (small_one h1 h2 h3 h4) ?_
 have I1:Inv X pins σ H { s with heap:=s.heap.push { cls:=.type "range",data:=.fields #[.int lo t,.int hi u,.int 1 v] },toks:=tk }:=I.kept fun b o e=>Heap.get?_push_of_some _ e
 refine⟨(s.heap.push { cls:=.type "range",data:=.fields #[.int lo t,.int hi u,.int 1 v] }).objs.size,[(s.heap.push { cls:=.type "range",data:=.fields #[.int lo t,.int hi u,.int 1 v] }).objs.size],_,_,H,rfl,
  I1.kept (t':=tk) fun b o e=>Heap.get?_push_of_some _ e,M8 _ lo (hi - lo).toNat,?_,fun b hb=>?_,q⟩
 ·have e1:lo+((0:Nat):Int) * 1=lo:=by simp
  have e2:(((hi - lo).toNat:Nat):Int) - ((0:Nat):Int)=Builtin.Range.rangeSize lo hi 1:=by rw[rangeSize_one];split <;> omega
  show IsRangeIter _ _ (lo+((0:Nat):Int) * 1) ((((hi - lo).toNat:Nat):Int) - ((0:Nat):Int)) 1
  rw[e1,e2]
  exact Heap.get?_push_size _ rfl
 ·have e:b=(s.heap.push { cls:=.type "range",data:=.fields #[.int lo t,.int hi u,.int 1 v] }).objs.size:=by simpa using hb
  subst e
  exact I1.fpOk (Nat.le_refl _) (I1.hok.fresh (Nat.le_refl _))
def iRng1(ta:TA):TI:=fun σ H R=>ta σ H fun vs H1=>∃j:Int,vs=[.int j]/\-(2 ^ 62)<=j/\j<2 ^ 62/\R (Itr 0 j.toNat) H1
theorem Rc{a:Expr}{ta:TA}{p pos:Pos}(hg:Gl X "range")(hm:X.mg "range"=none)(ha:PA X [a] ta)(hs:starEach [a] X.env=[(false,eval a X.env)]:=by rfl):PI X tg (.Call (.Name "range" p) [a] [] pos) (iRng1 ta):=by
 intro pins s σ H R I h
 refine Call_ (Dk I hg hm boot_range (PyProof.Rows.callWith_type1 (thn (ha pos pins s σ H _ I h) fun us s1 ⟨vs,H1,I1,r1,q1⟩=>?_) hs rfl))
 obtain⟨j,e,q1,q2,q⟩:=q1
 subst e
 cases r1 with
 |cons r rr =>
  cases rr
  obtain⟨t,rfl⟩:=r
  exact call_range_1 (Tq I1 (by omega) (by omega) q1 q2 (by simpa using q))
def tFor(wi:TI)(g:TG)(tb:TS):TS:=fun D σ H=>wi σ H fun J H1=>∃W:Nat->Nat->St->Hp->Prop,(∃m,W 0 m σ H1)/\∀i m σ H,W i m σ H →
 (J.stop i H/\D.nx σ H)\/(J.go i H/\∃N:St->Hp->Prop,(∀ σ' H',N σ' H'->∃m',m'<m/\W (i+1) m' σ' H')/\∀x H',J.yld i H x H'->g x σ H' fun σ2 H2=>tb { D with nx:=N,ct:=N,bk:=D.nx } σ2 H2)
def pinsAt(fp:List Addr)(h:Heap):List (Addr×Obj):=fp.filterMap fun b=>(h.get? b).map fun o=>(b,o)
theorem Du{fp:List Addr}{h:Heap}{b:Addr}{o:Obj}(hb:b∈fp)(e:h.get? b=some o):(b,o)∈pinsAt fp h:=List.mem_filterMap.mpr ⟨b,hb,by rw[e];rfl⟩
theorem Qi{fp:List Addr}{h:Heap}{p:Addr×Obj}(hp:p∈pinsAt fp h):p.1∈fp/\h.get? p.1=some p.2:=by
 obtain⟨b,hb,e⟩:=List.mem_filterMap.mp hp
 cases q:h.get? b with
 |none=>rw[q] at e;cases e
 |some o =>
  rw[q] at e
  have e':(b,o)=p:=Option.some.inj e
  subst e'
  exact⟨hb,q⟩
theorem Inv.pinned{pins:List (Addr×Obj)}{σ:St}{H:Hp}{s:Shared}{fp:List Addr}(I:Inv X pins σ H s)(hf:∀b∈fp,FpOk X pins H b)(ho:∀b∈fp,∃o,s.heap.get? b=some o/\∀v,o.data≠.cell v):Inv X (pins++pinsAt fp s.heap) σ H s :=
 I.pins_of fun p hp=>(List.mem_append.mp hp).elim (fun z=>I.pin p (List.mem_append_right _ z)) fun z=>by
  obtain⟨hb,e⟩:=Qi z
  obtain⟨f0,f1,f2,_⟩:=hf p.1 hb
  obtain⟨o,e',d⟩:=ho p.1 hb
  rw[e] at e';cases e'
  exact⟨e,f0,f1,f2,d⟩
theorem Inv.unpinned{pins pl:List (Addr×Obj)}{σ:St}{H:Hp}{s:Shared}(I:Inv X (pins++pl) σ H s):Inv X pins σ H s:=I.pins_of fun p hp=>I.pin p (List.mem_append_right _ (List.mem_append_left _ hp))
theorem Rl{iter:Expr}{body:List Stmt}{wi:TI}{g:TG}{tb:TS}{pos:Pos}(hp:PassesOwn (model X.prog X.w) X.A X.env X.xe)(hc:X.calm=true)(hi:PI X tg iter wi)(hg:PG X tg g)(hb:PSs X body tb)
  (hs:∀x,foldedSetIterable iter X.env x=pure x:=by intro _;rfl):PS X (.For tg iter body [] pos) (tFor wi g tb):=by
 intro pins s σ H D I h
 refine wpAny_For (thn (hi pins s σ H _ I h) fun v s1 h1=>thn h1 fun itv s2 h2=>?_) hs
 obtain⟨it,fp,tn,J,H2,e,I2,T,st2,f2,W,⟨m0,w0⟩,turn⟩:=h2
 subst e
 have stat:∀{H':Hp},(∀b∈fp,H' b=none)->∀b∈fp,FpOk X pins H' b:=fun hn b hb=>⟨hn b hb,(f2 b hb).2⟩
 refine codeAny_forLoop_any (fun n s'=>∃i σ' H',Inv X pins σ' H' s'/\tn i s'.heap/\(∀b∈fp,H' b=none)/\W i n σ' H') ?_ m0 ⟨0,σ,H2,I2,st2,fun b hb=>(f2 b hb).1,w0⟩
 rintro n s3 ⟨i,σ3,H3,I3,st3,fr3,w3⟩
 rcases turn i n σ3 H3 w3 with⟨stop,qn⟩|⟨go,N,hN,step⟩
 ·refine wpAny_passesOwn hp (thn (T.done X rfl rfl rfl hc i pins s3 σ3 H3 X.xe I3 (stat fr3) st3 stop) fun r s4 ⟨hr,I4⟩=>?_)
  subst hr
  exact wpAny_execs_nil ⟨σ3,H3,I4,qn⟩
 ·refine wpAny_passesOwn hp (thn (T.item X rfl rfl rfl hc i pins s3 σ3 H3 X.xe I3 (stat fr3) st3 go) fun r s4 ⟨u,hr,h4⟩=>?_)
  subst hr
  refine wpAny_passesOwn hp (thn h4 fun _ s5 ⟨x,H5,I5,r5,y5,st5,fr5⟩=>?_)
  have I5':=I5.pinned (stat fr5) (T.obj _ _ st5)
  refine wpAny_passesOwn hp (thn (hg _ s5 σ3 H5 x u _ I5' r5 (step x H5 y5)) fun _ s6 ⟨σ6,H6,I6,q6⟩=>?_)
  refine wpAny_passesOwn hp (thn (hb _ s6 σ6 H6 _ I6 q6) fun f s7 q7=>?_)
  have again:∀{σ7:St} {H7:Hp},Inv X (pins++pinsAt fp s5.heap) σ7 H7 s7->N σ7 H7->∃m,m<n/\∃i σ' H',Inv X pins σ' H' s7/\tn i s7.heap/\(∀b∈fp,H' b=none)/\W i m σ' H':=fun {σ7 H7} I7 n7=>by
   obtain⟨m',hm,w7⟩:=hN σ7 H7 n7
   refine⟨m',hm,i+1,σ7,H7,I7.unpinned,T.keep _ _ _ st5 fun b hb o e=>(I7.pin (b,o) (List.mem_append_right _ (List.mem_append_right _ (Du hb e)))).1,fun b hb=>?_,w7⟩
   obtain⟨o,e,d⟩:=T.obj _ _ st5 b hb
   exact(I7.pin (b,o) (List.mem_append_right _ (List.mem_append_right _ (Du hb e)))).2.1
  cases f with
  |next=>obtain⟨σ7,H7,I7,n7⟩:=q7;exact again I7 n7
  |cont=>obtain⟨σ7,H7,I7,n7⟩:=q7;exact again I7 n7
  |brk=>obtain⟨σ7,H7,I7,q7⟩:=q7;exact⟨σ7,H7,I7.unpinned,q7⟩
  |ret v=>obtain⟨x7,σ7,H7,I7,r7,q7⟩:=q7;exact⟨x7,σ7,H7,I7.unpinned,r7,q7⟩
end
end L2
namespace L2
open PySem PySem.Spec PyProof.Rows
abbrev R2:=V->V->Hp->VK->Prop
def OpR(X:Cx)(f:Value->Value->Sem Value)(r:R2):Prop :=
 ∀(pins:List (Addr×Obj)) (s:Shared) (σ:St) (H:Hp) (x y:V) (v u:Value) (Q:VK),Inv X pins σ H s->RelV x v->RelV y u->r x y H Q →
  wpAny (model X.prog X.w) X.A (f v u) (EP X pins σ Q) X.xe s
def UnR(X:Cx)(f:Value->Sem Value)(r:V->Hp->VK->Prop):Prop :=
 ∀(pins:List (Addr×Obj)) (s:Shared) (σ:St) (H:Hp) (x:V) (v:Value) (Q:VK),Inv X pins σ H s->RelV x v->r x H Q →
  wpAny (model X.prog X.w) X.A (f v) (EP X pins σ Q) X.xe s
def CallR(X:Cx)(f:Value)(r:List V->Hp->VK->Prop):Prop :=
 ∀(pins:List (Addr×Obj)) (s:Shared) (σ:St) (H:Hp) (xs:List V) (us:List Value) (Q:VK),Inv X pins σ H s->Vals xs us->r xs H Q →
  wpAny (model X.prog X.w) X.A (call f us) (EP X pins σ Q) X.xe s
def TruR(X:Cx)(r:V->Hp->(Bool->Hp->Prop)->Prop):Prop :=
 ∀(pins:List (Addr×Obj)) (s:Shared) (σ:St) (H:Hp) (x:V) (v:Value) (Q:Bool->Hp->Prop),Inv X pins σ H s->RelV x v->r x H Q →
  wpAny (model X.prog X.w) X.A (truthy v) (TP X pins σ Q) X.xe s
def tOp(r:R2)(ta tb:TE):TE:=fun σ H Q=>ta σ H fun x H1=>tb σ H1 fun y H2=>r x y H2 Q
def tUn(r:V->Hp->VK->Prop)(ta:TE):TE:=fun σ H Q=>ta σ H fun x H1=>r x H1 Q
def rI(C:Int->Int->Prop)(g:Int->Int->V):R2:=fun x y H Q=>∃i j,x=.int i/\y=.int j/\C i j/\Q (g i j) H
def rI0(g:Int->Int->V):R2:=fun x y H Q=>∃i j,x=.int i/\y=.int j/\Q (g i j) H
def rU(g:Int->V):V->Hp->VK->Prop:=fun x H Q=>∃i,x=.int i/\Q (g i) H
section
variable{X:Cx}{a b c:Expr}{ta tb tc:TE}{pos:Pos}
theorem binT(ha:PE X a ta)(hb:PE X b tb){pins:List (Addr×Obj)}{s:Shared}{σ:St}{H:Hp}{R:V->V->Hp->Prop}(I:Inv X pins σ H s)
  (h:ta σ H fun x H1=>tb σ H1 fun y H2=>R x y H2) {Q:Value->Shared->Prop} {f:Value->Value->Sem Value}
  (hf:∀v u s2 x y H2,Inv X pins σ H2 s2->RelV x v->RelV y u->R x y H2->wpAny (model X.prog X.w) X.A (f v u) Q X.xe s2) :
  wpAny (model X.prog X.w) X.A (eval a X.env) (fun v s₁=>wpAny (model X.prog X.w) X.A (eval b X.env) (fun u s₂=>wpAny (model X.prog X.w) X.A (f v u) Q X.xe s₂) X.xe s₁) X.xe s:=by
 refine thn (ha pins s σ H _ I h) fun v s1 ⟨x,H1,I1,r1,q1⟩=>?_
 refine thn (hb pins s1 σ H1 _ I1 q1) fun u s2 ⟨y,H2,I2,r2,q2⟩=>?_
 exact hf v u s2 x y H2 I2 r1 r2 q2
theorem pe_op{op:Operator}{r:R2}(ho:OpR X (binaryOp op) r)(ha:PE X a ta)(hb:PE X b tb):PE X (.BinOp a op b pos) (tOp r ta tb):=by
 intro pins s σ H Q I h
 exact wpAny_BinOp (binT ha hb I h fun v u s2 x y H2 I2 rx ry q=>ho pins s2 σ H2 x y v u Q I2 rx ry q)
theorem Sy{op:UnaryOp}{r:V->Hp->VK->Prop}(ho:UnR X (unaryOp op) r)(ha:PE X a ta):PE X (.UnaryOp op a pos) (tUn r ta):=by
 intro pins s σ H Q I h
 exact UnaryOp_ (thn (ha pins s σ H _ I h) fun v s1 ⟨x,H1,I1,r1,q1⟩=>ho pins s1 σ H1 x v Q I1 r1 q1)
theorem opI{f:Value->Value->Sem Value}{C:Int->Int->Prop}{g:Int->Int->Int}
  (rule:∀(i j:Int) (t u:Tok) (s:Shared) (Q:Value->Shared->Prop) (E:Value->Shared->Prop),C i j->Q (.int (g i j) s.toks) { s with toks:=s.toks+1 }->wpAny (model X.prog X.w) X.A (f (.int i t) (.int j u)) Q E s) :
  OpR X f (rI C fun i j=>.int (g i j)):=by
 intro pins s σ H x y v u Q I rx ry h
 obtain⟨i,j,rfl,rfl,hc,q⟩:=h
 obtain⟨t,rfl⟩:=rx
 obtain⟨t',rfl⟩:=ry
 exact rule i j t t' s _ _ hc ⟨.int (g i j),H,I.tok _,⟨_,rfl⟩,q⟩
theorem opI0{f:Value->Value->Sem Value}{g:Int->Int->Int}
  (rule:∀(i j:Int) (t u:Tok) (s:Shared) (Q:Value->Shared->Prop) (E:Value->Shared->Prop),Q (.int (g i j) s.toks) { s with toks:=s.toks+1 }->wpAny (model X.prog X.w) X.A (f (.int i t) (.int j u)) Q E s) :
  OpR X f (rI0 fun i j=>.int (g i j)):=by
 intro pins s σ H x y v u Q I rx ry h
 obtain⟨i,j,rfl,rfl,q⟩:=h
 obtain⟨t,rfl⟩:=rx
 obtain⟨t',rfl⟩:=ry
 exact rule i j t t' s _ _ ⟨.int (g i j),H,I.tok _,⟨_,rfl⟩,q⟩
theorem opB0{f:Value->Value->Sem Value}{g:Int->Int->Bool}
  (rule:∀(i j:Int) (t u:Tok) (s:Shared) (Q:Value->Shared->Prop) (E:Value->Shared->Prop),Q (.bool (g i j)) s->wpAny (model X.prog X.w) X.A (f (.int i t) (.int j u)) Q E s) :
  OpR X f (rI0 fun i j=>.bl (g i j)):=by
 intro pins s σ H x y v u Q I rx ry h
 obtain⟨i,j,rfl,rfl,q⟩:=h
 obtain⟨t,rfl⟩:=rx
 obtain⟨t',rfl⟩:=ry
 exact rule i j t t' s _ _ ⟨.bl (g i j),H,I,rfl,q⟩
def CDiv(i j:Int):Prop:=0<j/\j<1073741824
def CPow(i j:Int):Prop:=0<=j/\j<=1000000/\i.natAbs<2 ^ 64
def CMul(i j:Int):Prop:=(-(2 ^ 64)<i/\i<2 ^ 64)\/(-(2 ^ 64)<j/\j<2 ^ 64)
theorem CMul.ok{i j:Int}(h:CMul i j):IntMulOk i j:=by
 rcases h with⟨h1,h2⟩|⟨h1,h2⟩
 ·exact .of_left (intBits_le_64 h1 h2)
 ·exact .of_right (intBits_le_64 h1 h2)
theorem op_add:OpR X (binaryOp .Add) (rI0 fun i j=>.int (i+j)):=opI0 fun _ _ _ _ _ _ _ q=>add_int q
theorem op_sub:OpR X (binaryOp .Sub) (rI0 fun i j=>.int (i - j)):=opI0 fun _ _ _ _ _ _ _ q=>sub_int q
theorem Yi:OpR X (binaryOp .Mult) (rI CMul fun i j=>.int (i * j)):=opI fun _ _ _ _ _ _ _ hc q=>mul_int q hc.ok
theorem W2:OpR X (binaryOp .FloorDiv) (rI CDiv fun i j=>.int (i / j)):=opI fun i j _ _ _ _ _ hc q=>by
 have h1:(0:Int)<j:=hc.1
 have h2:j<1073741824:=hc.2
 exact floordiv_int (by omega) (by rw[Int.fdiv_eq_ediv_of_nonneg i (by omega)];exact q) (.inl (PyProof.noPylong_small (by omega)))
theorem Yq:OpR X (binaryOp .Mod) (rI (fun _ j=>0<j) fun i j=>.int (i % j)):=opI fun i j _ _ _ _ _ hc q=>by
 have h1:(0:Int)<j:=hc
 exact mod_int' (by omega) (by rw[Int.fmod_eq_emod_of_nonneg i (by omega)];exact q)
theorem Y3:OpR X (binaryOp .Pow) (rI CPow fun i j=>.int (i ^ j.toNat)):=opI fun _ _ _ _ _ _ _ hc q=>pow_int_small hc.1 hc.2.1 hc.2.2 q
theorem unI{f:Value->Sem Value}{g:Int->Int}
  (rule:∀(i:Int) (t:Tok) (s:Shared) (Q:Value->Shared->Prop) (E:Value->Shared->Prop),Q (.int (g i) s.toks) { s with toks:=s.toks+1 }->wpAny (model X.prog X.w) X.A (f (.int i t)) Q E s) :
  UnR X f (rU fun i=>.int (g i)):=by
 intro pins s σ H x v Q I rx h
 obtain⟨i,rfl,q⟩:=h
 obtain⟨t,rfl⟩:=rx
 exact rule i t s _ _ ⟨.int (g i),H,I.tok _,⟨_,rfl⟩,q⟩
theorem Rj:UnR X (unaryOp .USub) (rU fun i=>.int (-i)):=unI fun _ _ _ _ _ q=>neg_int q
end
def scal:V->V->Bool
 | .non,.non=>true | .non,.int _=>true | .int _,.non=>true | .non,.bl _=>true | .bl _,.non=>true | .non,.str _=>true | .str _,.non=>true
 | .int _,.int _=>true | .bl _,.bl _=>true | .str _,.str _=>true | .byt _,.byt _=>true
 | .int _,.str _=>true | .str _,.int _=>true | .bl _,.str _=>true | .str _,.bl _=>true
 |_,_=>false
def rEq:R2:=fun x y H Q=>scal x y=true/\Q (.bl (decide (x=y))) H
def rNe:R2:=fun x y H Q=>scal x y=true/\Q (.bl (!decide (x=y))) H
theorem Kt{i j:Int}:decide (V.int i=V.int j)=(i==j):=by
 rw[Bool.eq_iff_iff]
 simp
theorem dec_bl{i j:Bool}:decide (V.bl i=V.bl j)=(i==j):=by
 rw[Bool.eq_iff_iff]
 simp
theorem O3{i j:Str}:decide (V.str i=V.str j)=(i==j):=by
 rw[Bool.eq_iff_iff]
 simp
theorem Pn{i j:Array UInt8}:decide (V.byt i=V.byt j)=(i.toList==j.toList):=by
 rw[Bool.eq_iff_iff]
 cases i
 cases j
 simp
section
variable{X:Cx}{a b c:Expr}{ta tb tc:TE}{pos:Pos}
theorem Xr{pins:List (Addr×Obj)}{σ:St}{H:Hp}{s:Shared}{Q:VK}{k k':Bool}(I:Inv X pins σ H s)(q:Q (.bl k) H)(e:k=k'):EP X pins σ Q (.bool k') s:=by
 subst e
 exact⟨.bl k,H,I,rfl,q⟩
theorem op_eq:OpR X (compareOp .Eq) rEq:=by
 intro pins s σ H x y v u Q I rx ry h
 obtain⟨hs,q⟩:=h
 cases x with
 |non =>
  cases rx
  cases y with
  |non=>cases ry;exact PySem.EqNone.eq_none_none (Xr I q (by simp))
  |bl j=>cases ry;exact PySem.EqNone.eq_none_bool (Xr I q (by simp))
  |int j=>obtain⟨t',rfl⟩:=ry;exact PySem.EqNone.eq_none_int (Xr I q (by simp))
  |str j=>obtain⟨t',rfl⟩:=ry;exact PySem.EqNone.eq_none_str (Xr I q (by simp))
  |_=>exact absurd (show false=true from hs) Bool.false_ne_true
 |bl i =>
  cases rx
  cases y with
  |non=>cases ry;exact PySem.EqNone.eq_bool_none (Xr I q (by simp))
  |bl j=>cases ry;exact eq_bool (Xr I q dec_bl)
  |str j=>obtain⟨t',rfl⟩:=ry;exact PySem.EqMixed.eq_bool_str (Xr I q (by simp))
  |_=>exact absurd (show false=true from hs) Bool.false_ne_true
 |int i =>
  obtain⟨t,rfl⟩:=rx
  cases y with
  |non=>cases ry;exact PySem.EqNone.eq_int_none (Xr I q (by simp))
  |int j=>obtain⟨t',rfl⟩:=ry;exact eq_int (Xr I q Kt)
  |str j=>obtain⟨t',rfl⟩:=ry;exact PySem.EqMixed.eq_int_str (Xr I q (by simp))
  |_=>exact absurd (show false=true from hs) Bool.false_ne_true
 |str i =>
  obtain⟨t,rfl⟩:=rx
  cases y with
  |non=>cases ry;exact PySem.EqNone.eq_str_none (Xr I q (by simp))
  |bl j=>cases ry;exact PySem.EqMixed.eq_str_bool (Xr I q (by simp))
  |int j=>obtain⟨t',rfl⟩:=ry;exact PySem.EqMixed.eq_str_int (Xr I q (by simp))
  |str j=>obtain⟨t',rfl⟩:=ry;exact eq_str (Xr I q O3)
  |_=>exact absurd (show false=true from hs) Bool.false_ne_true
 |byt i =>
  obtain⟨t,rfl⟩:=rx
  cases y with
  |byt j=>obtain⟨t',rfl⟩:=ry;exact PySem.W.eq_bytes (Xr I q Pn)
  |_=>exact absurd (show false=true from hs) Bool.false_ne_true
 |_=>cases y <;> exact absurd (show false=true from hs) Bool.false_ne_true
theorem op_ne:OpR X (compareOp .NotEq) rNe:=by
 intro pins s σ H x y v u Q I rx ry h
 obtain⟨hs,q⟩:=h
 cases x with
 |non =>
  cases rx
  cases y with
  |non=>cases ry;exact PySem.EqNone.ne_none_none (Xr I q (by simp))
  |bl j=>cases ry;exact PySem.EqNone.ne_none_bool (Xr I q (by simp))
  |int j=>obtain⟨t',rfl⟩:=ry;exact PySem.EqNone.ne_none_int (Xr I q (by simp))
  |str j=>obtain⟨t',rfl⟩:=ry;exact PySem.EqNone.ne_none_str (Xr I q (by simp))
  |_=>exact absurd (show false=true from hs) Bool.false_ne_true
 |bl i =>
  cases rx
  cases y with
  |non=>cases ry;exact PySem.EqNone.ne_bool_none (Xr I q (by simp))
  |bl j=>cases ry;exact ne_bool (Xr I q (congrArg not dec_bl))
  |str j=>obtain⟨t',rfl⟩:=ry;exact PySem.EqMixed.ne_bool_str (Xr I q (by simp))
  |_=>exact absurd (show false=true from hs) Bool.false_ne_true
 |int i =>
  obtain⟨t,rfl⟩:=rx
  cases y with
  |non=>cases ry;exact PySem.EqNone.ne_int_none (Xr I q (by simp))
  |int j=>obtain⟨t',rfl⟩:=ry;exact ne_int (Xr I q (congrArg not Kt))
  |str j=>obtain⟨t',rfl⟩:=ry;exact PySem.EqMixed.ne_int_str (Xr I q (by simp))
  |_=>exact absurd (show false=true from hs) Bool.false_ne_true
 |str i =>
  obtain⟨t,rfl⟩:=rx
  cases y with
  |non=>cases ry;exact PySem.EqNone.ne_str_none (Xr I q (by simp))
  |bl j=>cases ry;exact PySem.EqMixed.ne_str_bool (Xr I q (by simp))
  |int j=>obtain⟨t',rfl⟩:=ry;exact PySem.EqMixed.ne_str_int (Xr I q (by simp))
  |str j=>obtain⟨t',rfl⟩:=ry;exact ne_str (Xr I q (congrArg not O3))
  |_=>exact absurd (show false=true from hs) Bool.false_ne_true
 |byt i =>
  obtain⟨t,rfl⟩:=rx
  cases y with
  |byt j=>obtain⟨t',rfl⟩:=ry;exact PySem.W.ne_bytes (Xr I q (congrArg not Pn))
  |_=>exact absurd (show false=true from hs) Bool.false_ne_true
 |_=>cases y <;> exact absurd (show false=true from hs) Bool.false_ne_true
theorem op_lt:OpR X (compareOp .Lt) (rI0 fun i j=>.bl (decide (i<j))):=opB0 fun _ _ _ _ _ _ _ q=>lt_int q
theorem op_le:OpR X (compareOp .LtE) (rI0 fun i j=>.bl (decide (i<=j))):=opB0 fun _ _ _ _ _ _ _ q=>le_int q
theorem W7:OpR X (compareOp .Gt) (rI0 fun i j=>.bl (decide (j<i))):=opB0 fun _ _ _ _ _ _ _ q=>gt_int q
theorem Aab:OpR X (compareOp .Is) (fun x y H Q=>y=.non/\Q (.bl (decide (x=.non))) H):=by
 intro pins s σ H x y v u Q I rx ry h
 obtain⟨rfl,q⟩:=h
 cases ry
 refine is_none_gen (Xr I q ?_)
 cases x <;> first
  |(cases rx;rfl)
  |(obtain⟨t,rfl⟩:=rx;rfl)
theorem OpR.or{f:Value->Value->Sem Value}{r r':R2}(h:OpR X f r)(h':OpR X f r'):OpR X f (fun x y H Q=>r x y H Q\/r' x y H Q):=by
 intro pins s σ H x y v u Q I rx ry q
 rcases q with q|q
 ·exact h pins s σ H x y v u Q I rx ry q
 ·exact h' pins s σ H x y v u Q I rx ry q
theorem Dj(b:Expr){op:CmpOp}(h:op≠.In:=by decide)(h2:op≠.NotIn:=by decide):behindInMarks op b=false:=by
 have e1:(op==CmpOp.In)=false:=by cases op <;> first|rfl|exact absurd rfl h
 have e2:(op==CmpOp.NotIn)=false:=by cases op <;> first|rfl|exact absurd rfl h2
 cases b <;> simp[behindInMarks,e1,e2]
theorem U9{op:CmpOp}{r:R2}(ho:OpR X (compareOp op) r)(ha:PE X a ta)(hb:PE X b tb)(hm:behindInMarks op b=false):PE X (.Compare a [op] [b] pos) (tOp r ta tb):=by
 intro pins s σ H Q I h
 exact wpAny_Compare1 (binT ha hb I h fun v u s2 x y H2 I2 rx ry q=>ho pins s2 σ H2 x y v u Q I2 rx ry q) hm
def Rk(t:TE):TT:=fun σ H Q=>t σ H fun x H'=>∃k,x=.bl k/\Q k H'
theorem W0{op:CmpOp}{r:R2}(ho:OpR X (compareOp op) r)(ha:PE X a ta)(hb:PE X b tb)(hm:behindInMarks op b=false):PT X (.Compare a [op] [b] pos) (Rk (tOp r ta tb)):=by
 intro pins s σ H Q I h
 refine wpAny_isTrue_Compare1 (thn (ha pins s σ H _ I h) fun v s1 ⟨x,H1,I1,r1,q1⟩=>thn (hb pins s1 σ H1 _ I1 q1) fun u s2 ⟨y,H2,I2,r2,q2⟩ =>
  thn (ho pins s2 σ H2 x y v u _ I2 r1 r2 q2) fun c s3 ⟨z,H3,I3,r3,k,e,q3⟩=>?_) hm
 subst e
 cases r3
 exact wpAny_truthy_bool ⟨H3,I3,q3⟩
def Nl(r r':R2)(ta tb tc:TE):TE:=fun σ H Q=>ta σ H fun x H1=>tb σ H1 fun y H2=>r x y H2 fun z H3=>∃k,z=.bl k ∧
 (if k=true then tc σ H3 fun w' H4=>r' y w' H4 Q else Q (.bl false) H3)
theorem T3{op op':CmpOp}{r r':R2}(ho:OpR X (compareOp op) r)(ho':OpR X (compareOp op') r')(ha:PE X a ta)(hb:PE X b tb)(hc:PE X c tc)
  (hm:lastMarks [op,op'] [b,c]=false:=by with_unfolding_all rfl):PE X (.Compare a [op,op'] [b,c] pos) (Nl r r' ta tb tc):=by
 intro pins s σ H Q I h
 refine Compare_chain (thn (ha pins s σ H _ I h) fun v s1 ⟨x,H1,I1,r1,q1⟩=>chain_link (thn (hb pins s1 σ H1 _ I1 q1) fun u s2 ⟨y,H2,I2,r2,q2⟩ =>
  thn (ho pins s2 σ H2 x y v u _ I2 r1 r2 q2) fun d s3 ⟨z,H3,I3,r3,k,e,q3⟩=>?_)) hm
 subst e
 cases r3
 refine wpAny_truthy_bool ?_
 cases k with
 |false=>exact ite_ff ⟨.bl false,H3,I3,rfl,q3⟩
 |true=>exact ite_tt (chain_last (thn (hc pins s3 σ H3 _ I3 q3) fun w' s4 ⟨z',H4,I4,r4,q4⟩=>ho' pins s4 σ H4 y z' u w' Q I4 r2 r4 q4))
theorem R8{op op':CmpOp}{r r':R2}(ho:OpR X (compareOp op) r)(ho':OpR X (compareOp op') r')(ha:PE X a ta)(hb:PE X b tb)(hc:PE X c tc)
  (hm:lastMarks [op,op'] [b,c]=false:=by with_unfolding_all rfl):PT X (.Compare a [op,op'] [b,c] pos) (Rk (Nl r r' ta tb tc)):=by
 intro pins s σ H Q I h
 refine isTrue_chain (thn (ha pins s σ H _ I h) fun v s1 ⟨x,H1,I1,r1,q1⟩=>test_link (thn (hb pins s1 σ H1 _ I1 q1) fun u s2 ⟨y,H2,I2,r2,q2⟩ =>
  thn (ho pins s2 σ H2 x y v u _ I2 r1 r2 q2) fun d s3 ⟨z,H3,I3,r3,k,e,q3⟩=>?_)) hm
 subst e
 cases r3
 refine wpAny_truthy_bool ?_
 cases k with
 |false =>
  obtain⟨k',e',q'⟩:=q3
  cases e'
  exact ite_ff ⟨H3,I3,q'⟩
 |true =>
  refine ite_tt (test_last (thn (hc pins s3 σ H3 _ I3 q3) fun w' s4 ⟨z',H4,I4,r4,q4⟩=>thn (ho' pins s4 σ H4 y z' u w' _ I4 r2 r4 q4) fun d' s5 ⟨z2,H5,I5,r5,k2,e2,q5⟩=>?_))
  subst e2
  cases r5
  exact wpAny_truthy_bool ⟨H5,I5,q5⟩
def TruV(K:PySem.W.Frag)(x:V)(H:Hp)(k:Bool):Prop :=
 match x with
 | .non=>k=false
 | .bl b=>k=b
 | .int i=>k=(i != 0)
 | .str y=>y.length<=sizeLine/\k=((y.length:Int) != 0)
 | .byt y=>y.size<=sizeLine/\k=((y.size:Int) != 0)
 | .ref p=>(∃xs,SqL K H p xs/\k=!xs.isEmpty)\/(∃xs,SqT K H p xs/\k=!xs.isEmpty)\/∃kvs,H p=some (.dK kvs)/\k=!kvs.isEmpty
 |_=>False
theorem Nn{κ:Type}{kvs:List (κ×V)}{vs:List (κ×Value)}(r:KV kvs vs):(!vs.isEmpty)=!kvs.isEmpty:=by
 cases r <;> rfl
theorem Ii{xs:List V}{its:List Value}(r:Vals xs its):(!its.toArray.isEmpty)=!xs.isEmpty:=by
 cases r <;> simp
theorem E8:(sizeLine:Nat)<2 ^ 63:=by rw[sizeLine_eq];decide
theorem Aau:TruR X (fun x H Q=>∃k,TruV X.K x H k/\Q k H):=by
 intro pins s σ H x v Q I rx h
 obtain⟨k,e,q⟩:=h
 have hl:=E8
 have hs:sizeLine=16777216:=sizeLine_eq
 cases x with
 |non =>
  cases rx
  have e':k=false:=e
  subst e'
  exact truthy_none ⟨H,I,q⟩
 |bl b =>
  cases rx
  have e':k=b:=e
  subst e'
  exact wpAny_truthy_bool ⟨H,I,q⟩
 |int i =>
  obtain⟨t,rfl⟩:=rx
  have e':k=(i != 0):=e
  subst e'
  exact PySem.P.truthy_int ⟨H,I,q⟩
 |str y =>
  obtain⟨t,rfl⟩:=rx
  obtain⟨hy,e'⟩:y.length<=sizeLine/\k=((y.length:Int) != 0):=e
  subst e'
  exact PySem.P.truthy_str (by omega) ⟨H,I.tok _,q⟩
 |byt y =>
  obtain⟨t,rfl⟩:=rx
  obtain⟨hy,e'⟩:y.size<=sizeLine/\k=((y.size:Int) != 0):=e
  subst e'
  exact PySem.W.truthy_bytes (by omega) ⟨H,I.tok _,q⟩
 |ref p =>
  cases rx
  have e':(∃xs,SqL X.K H p xs/\k=!xs.isEmpty)\/(∃xs,SqT X.K H p xs/\k=!xs.isEmpty)\/∃kvs,H p=some (.dK kvs)/\k=!kvs.isEmpty:=e
  rcases e' with⟨xs,hx,e'⟩|⟨xs,hx,e'⟩|⟨kvs,hx,e'⟩
  ·subst e'
   obtain⟨its,r,pl,hz⟩:=I.list hx
   have hlen:=r.length
   exact wpAny_truthy_list pl.isList (by simp only[List.size_toArray];omega) ⟨H,I.tok _,by rw[Ii r];exact q⟩
  ·subst e'
   obtain⟨its,r,pl,hz⟩:=I.tuple hx
   have hlen:=r.length
   exact truthy_tuple pl (by simp only[List.size_toArray];omega) ⟨H,I.tok _,by rw[Ii r];exact q⟩
  ·subst e'
   obtain⟨hz,hS,vs,r,m⟩:kvs.length<=sizeLine/\(p==sysModules)=false/\∃vs,KV kvs vs/\s.heap.DictOf (mixKind X.prog X.w) p vs:=I.hok p _ hx
   have hlen:kvs.length=vs.length:=Paired.length r
   exact wpAny_truthy_dict hS m (by omega) ⟨H,I.tok _,by rw[Nn r];exact q⟩
 |_=>exact(show False from e).elim
theorem Ua(ha:PE X a ta)(he:∀whole,isTrue a X.env whole=(do let v ← whole;standAt a.pos;holding [v] (truthy v))):
  PT X a (fun σ H Q=>ta σ H fun x H'=>∃k,TruV X.K x H' k/\Q k H'):=by
 intro pins s σ H Q I h
 exact isTrue_plain (thn (ha pins s σ H _ I h) fun v s1 ⟨x,H1,I1,r1,q1⟩=>Aau pins s1 σ H1 x v Q I1 r1 q1) (he _)
theorem op_add_str:OpR X (binaryOp .Add) (fun x y H Q=>∃i j,x=.str i/\y=.str j/\i.length+j.length<=sizeLine/\Q (.str (i++j)) H):=by
 intro pins s σ H x y v u Q I rx ry h
 obtain⟨i,j,rfl,rfl,hz,q⟩:=h
 obtain⟨t,rfl⟩:=rx
 obtain⟨t',rfl⟩:=ry
 exact add_str (fun t' tk=>⟨.str (i++j),H,I.tok _,⟨_,rfl⟩,q⟩) hz
theorem E3{x:V}{us:List Value}(r:Vals [x] us):∃u,us=[u]/\RelV x u:=by
 cases r with
 |cons r1 r2=>cases r2;exact⟨_,rfl,r1⟩
theorem Kn{x y:V}{us:List Value}(r:Vals [x,y] us):∃u w',us=[u,w']/\RelV x u/\RelV y w':=by
 cases r with
 |cons r1 r2 =>
  cases r2 with
  |cons r3 r4=>cases r4;exact⟨_,_,rfl,r1,r3⟩
theorem Q8(hc:X.calm=true):CallR X (.builtin "min") (fun xs H Q=>∃i j,xs=[.int i,.int j]/\Q (.int (if j<i then j else i)) H):=by
 intro pins s σ H xs us Q I r h
 obtain⟨i,j,rfl,q⟩:=h
 obtain⟨u,w',rfl,⟨t,rfl⟩,⟨t',rfl⟩⟩:=Kn r
 refine min_two_ints (I.ok.hd hc) fun h' tk k=>⟨_,H,I.kept k,?_,q⟩
 by_cases hj:j<i
 ·rw[if_pos hj,if_pos hj];exact⟨_,rfl⟩
 ·rw[if_neg hj,if_neg hj];exact⟨_,rfl⟩
theorem P6:CallR X (.type "int") (fun xs H Q=>(∃i,xs=[.int i]/\Q (.int i) H)\/∃k,xs=[.bl k]/\Q (.int (if k then 1 else 0)) H):=by
 intro pins s σ H xs us Q I r h
 rcases h with⟨i,rfl,q⟩|⟨k,rfl,q⟩
 ·obtain⟨u,rfl,t,rfl⟩:=E3 r
  exact call_int_int ⟨.int i,H,I,⟨_,rfl⟩,q⟩
 ·obtain⟨u,rfl,r1⟩:=E3 r
  cases r1
  exact call_int_bool ⟨.int (if k then 1 else 0),H,I.tok _,⟨_,rfl⟩,q⟩
theorem Lg:CallR X (.type "str") (fun xs H Q=>∃i,xs=[.int i]/\i.natAbs.log2<1920/\Q (.str (toString i)) H):=by
 intro pins s σ H xs us Q I r h
 obtain⟨i,rfl,hz,q⟩:=h
 obtain⟨u,rfl,t,rfl⟩:=E3 r
 exact PySem.P.str_of_int hz ⟨.str _,H,I.tok _,⟨_,rfl⟩,q⟩
end
end L2
namespace L2
open PySem PySem.Spec PyProof.Rows
structure ObjM(h:Heap)(x dx C:Addr)(mA:Str->Option Value):Prop where
 obj:h.get? x=some (PySem.W.instObj C dx)
 ns:h.Ns1 dx mA
 ne:dx≠x
theorem Q5{h:Heap}{dx:Addr}{mA:Str->Option Value}(n:h.Ns1 dx mA):∃od,h.get? dx=some od/\∀name,PySem.W.lookIn name od=some (mA name):=by
 obtain⟨o,es,ep,ho,hd,hk,_,hm⟩:=n
 refine⟨o,ho,fun name=>?_⟩
 have e:=hm name
 unfold nsFind findBy at e
 rw[<-Array.find?_toList] at e
 unfold PySem.W.lookIn
 rw[hd]
 dsimp only
 split
 ·rename_i y q
  rw[q] at e
  exact congrArg some e
 ·rename_i q
  rw[q] at e
  have a:es.toList.any (·.refKey)=false:=by
   rw[List.any_eq_false]
   intro y hy
   obtain⟨z,t,hkey⟩:=hk y (Array.mem_toList_iff.mp hy)
   simp[DictEntry.refKey,hkey]
  have a':¬ es.toList.any (·.refKey)=true:=by rw[a];exact Bool.false_ne_true
  rw[if_neg a']
  exact congrArg some e
theorem ObjM.look{h:Heap}{x dx C:Addr}{mA:Str->Option Value}(I:ObjM h x dx C mA):∃od,PySem.W.InstAt h x (PySem.W.instObj C dx) C (some od)/\∀name,PySem.W.lookIn name od=some (mA name) :=
 let ⟨od,ho,hl⟩:=Q5 I.ns
 ⟨od,⟨I.obj,rfl,rfl,ho⟩,hl⟩
section
variable{prog:Program}{w:World}{A:Around}{E:Value->Shared->Prop}{s:Shared}{K:PySem.W.Frag}{x dx C f:Addr}{mA:Str->Option Value}{name:Str}{v:Value}
end
section
variable{P:Program}{w:World}{H H':Hp}{h h':Heap}{a C dx:Addr}{fs fs':List (Str×V)}
theorem Ws(hok:HOk P w H h)(e:H a=some (.ins C dx fs)):∃mA,ObjM h a dx C mA/\(∀f,RelO (fs.lookup f) (mA f))/\PySem.Within mA (fs.map (·.1))/\fs.length<=1000/\H dx=some (.own a):=by
 obtain⟨d,z,ne,ob,mA,n,r,q⟩:=(show ObjOk P w H h a (.ins C dx fs) from hok a _ e)
 exact⟨mA,⟨ob,n,ne⟩,r,q,z,d⟩
end
structure Cls(K:PySem.W.Frag)(C:Addr):Prop where
 pg:PySem.W.plainGet K C Str.empty=true
 hd:PySem.W.hasDictIn K C=true
 po:PySem.W.plainOver K C=true
 sa:PySem.W.findIn K (.ref C) "__setattr__"=some (some (.builtin "object.__setattr__"))
theorem Cls.get{K:PySem.W.Frag}{C:Addr}(c:Cls K C)(f:Str):PySem.W.plainGet K C f=true:=c.pg
section
variable{X:Cx}{pins:List (Addr×Obj)}{σ:St}{H:Hp}{s:Shared}{a C dx:Addr}{fs:List (Str×V)}{f:Str}{v:V}{A:Around}{E:Value->Shared->Prop}
end
section
variable{X:Cx}{pins:List (Addr×Obj)}{σ:St}{H:Hp}{s:Shared}{A:Around}{E:Value->Shared->Prop}{Q:Value->Shared->Prop}{c:Value}{b:Bool}
inductive TyOf(K:PySem.W.Frag)(H:Hp):V->Value->Prop where
 |non:TyOf K H .non (.type "NoneType")
 |bl (x:Bool):TyOf K H (.bl x) (.type "bool")
 |int (i:Int):TyOf K H (.int i) (.type "int")
 |str (x:Str):TyOf K H (.str x) (.type "str")
 |flt (x:UInt64):TyOf K H (.flt x) (.type "float")
 |lst {a:Addr} {xs:List V} (e:H a=some (.lst xs)):TyOf K H (.ref a) (.type "list")
 |frz {a:Addr} {o:Obj} {xs:List V} (e:H a=some (.frz o (.lst xs))):TyOf K H (.ref a) (.type "list")
 |tup {a:Addr} {xs:List V} (e:H a=some (.tup xs)):TyOf K H (.ref a) (.type "tuple")
 |dK {a:Addr} {kvs:List (Key×V)} (e:H a=some (.dK kvs)):TyOf K H (.ref a) (.type "dict")
 |dT {a:Addr} {kvs:List (List Key×V)} (e:H a=some (.dT kvs)):TyOf K H (.ref a) (.type "dict")
 |ins {a C dx:Addr} {fs:List (Str×V)} (e:H a=some (.ins C dx fs)) (cl:Cls K C) (ha:PySem.W.findIn K (.ref C) "__class__"=some (some (.builtin "object.__class__")))
   (hn:PySem.W.specialIn K (.builtin "object.__class__") "__get__"=some (some (.builtin "getset_descriptor.__get__"))) (htk:PySem.W.takesIn K (.builtin "object.__class__")=some true)
   (hm:PySem.W.mroIn K C (.type "object")=some true):TyOf K H (.ref a) (.ref C)
end
end L2
namespace L2
open PySem PySem.Spec PyProof.Rows
structure Room(k:Nat)(A:Around):Prop where
 hd:A.handled=none
 dp:A.depth+3 * k+5<recursionLimit
 un:A.units+16 * k+200<cLine
theorem Room.mono{j k:Nat}{A:Around}(r:Room k A)(h:j<=k):Room j A:=⟨r.hd,by have:=r.dp;omega,by have:=r.un;omega⟩
theorem Room.deeper{k:Nat}{A:Around}(r:Room (k+1) A)(env:Env):Room k (A.deeper env) :=
 ⟨r.hd,by have:=r.dp;show A.depth+1+3 * k+5<_;omega,by have:=r.un;show A.units+3+16 * k+200<_;omega⟩
theorem Room.depth{k:Nat}{A:Around}(r:Room k A):A.depth<recursionLimit:=by have:=r.dp;omega
theorem Room.units{k:Nat}{A:Around}(r:Room k A):A.units+64<cLine:=by have:=r.un;omega
theorem Room.units0{k:Nat}{A:Around}(r:Room k A):A.units<cLine:=by have:=r.un;omega
def tNil:TA:=fun _ H Q=>Q [] H
def tCons(ta:TE)(tr:TA):TA:=fun σ H Q=>ta σ H fun x H1=>tr σ H1 fun xs H2=>Q (x::xs) H2
section
variable{X:Cx}{e:Expr}{es:List Expr}{te:TE}{t:TA}{pos:Pos}
theorem Z2:PA X [] tNil:=fun _ _ _ _ H Q I h=>Calls.spliced_nil ⟨[],H,I,.nil,h⟩
theorem Wt(ha:PE X e te)(hr:PA X es t)(hs:starEach (e::es) X.env=(false,eval e X.env)::starEach es X.env:=by rfl):PA X (e::es) (tCons te t):=by
 intro pos pins s σ H Q I h
 rw[hs]
 show wpAny _ _ (spliced ((false,eval e X.env)::backTo pos (starEach es X.env))) _ _ s
 refine Calls.spliced_cons (thn (ha pins s σ H _ I h) fun u s1 ⟨x,H1,I1,r1,q1⟩=>?_)
 exact thn (hr pos pins s1 σ H1 _ I1 q1) fun us s2 ⟨xs,H2,I2,r2,q2⟩=>⟨x::xs,H2,I2,.cons r1 r2,q2⟩
def tTup(t:TA):TE:=fun σ H Q=>t σ H fun xs H1=>xs.length<=sizeLine/\∀p,H1 p=none->Q (.ref p) (upd H1 p (.tup xs))
def tLst(t:TA):TE:=fun σ H Q=>t σ H fun xs H1=>xs.length<=sizeLine/\∀p,H1 p=none->Q (.ref p) (upd H1 p (.lst xs))
theorem Yj{x1}(h:PA X es t):PE X (.Tuple es x1 pos) (tTup t):=by
 intro pins s σ H Q I hq
 refine wpAny_Tuple_spliced (thn (h pos pins s σ H _ I hq) fun us s1 ⟨xs,H1,I1,r,z,q⟩=>⟨by rw[<-r.length];exact z,?_⟩)
 have hf:H1 s1.heap.objs.size=none:=I1.hok.fresh (Nat.le_refl _)
 refine⟨.ref s1.heap.objs.size,upd H1 s1.heap.objs.size (.tup xs),I1.laid (t':=s1.toks) (fun b u e=>Heap.get?_push_of_some _ e) (Nat.le_refl _) ?_,rfl,q _ hf⟩
 exact⟨z,us,r,TupN.new _ _⟩
theorem T9(h:PA X es t):PE X (.List es pos) (tLst t):=by
 intro pins s σ H Q I hq
 refine wpAny_List_spliced (thn (h pos pins s σ H _ I hq) fun us s1 ⟨xs,H1,I1,r,z,q⟩=>⟨by rw[<-r.length];exact z,?_⟩)
 have hf:H1 s1.heap.objs.size=none:=I1.hok.fresh (Nat.le_refl _)
 refine⟨.ref s1.heap.objs.size,upd H1 s1.heap.objs.size (.lst xs),I1.laid (t':=s1.toks) (fun b u e=>Heap.get?_push_of_some _ e) (Nat.le_refl _) ?_,rfl,q _ hf⟩
 exact⟨z,us,0,r,Heap.get?_push_size _ rfl⟩
end
abbrev Sp:=List V->Hp->VK->XK->Prop
abbrev CXT:=List Env->Hp->Shared->XK->Value->Shared->Prop
structure Env0(P:Program)(w:World)(K:PySem.W.Frag)(mg:Str->Option Value)(base:Heap)(A:Around)(outer:List Env)(s:Shared)(H:Hp):Prop where
 frames:A.frames=some outer
 mod:Mod K mg base
 bs:∀b o,base.get? b=some o->s.heap.get? b=some o/\H b=none
 bsz:base.objs.size<=s.heap.objs.size
 funs:s.heap.FunFrames base outer
 frf:∀b∈frs outer,H b=none
 hok:HOk P w H s.heap
 bare:AllBare s.gens
def CE(outer:List Env)(P:Program)(w:World)(H:Hp)(s:Shared)(Q:VK)(u:Value)(s':Shared):Prop :=
 ∃v H',s'.os=s.os/\AllBare s'.gens/\Un (frs outer) [] H H' s.heap s'.heap/\HOk P w H' s'.heap/\RelV v u/\Q v H'
def CR(CX:CXT)(outer:List Env)(P:Program)(w:World)(H:Hp)(s:Shared)(Q:VK)(E:XK)(r:Result)(s':Shared):Prop :=
 match r with
 | .ok (.ret u)=>CE outer P w H s Q u s'
 | .ok _=>False
 | .error e=>CX outer H s E e s'
structure FnOk(P:Program)(w:World)(K:PySem.W.Frag)(mg:Str->Option Value)(base:Heap)(CX:CXT)(k:Nat)(f:Addr)(fd:FuncData)(ps:List Str)(sp:Sp):Prop where
 len:∀vs H Q E,sp vs H Q E->vs.length=ps.length
 run:∀(A:Around) (outer:List Env) (s:Shared) (H:Hp) (args:Args) (us:List Value) (vs:List V) (Q:VK) (E:XK),Room k A->Env0 P w K mg base A outer s H->BindsTo s fd args (ps.zip us)->Vals vs us->sp vs H Q E →
  codeAny (model P w) A (.call (.ref f) args) (CR CX outer P w H s Q E) s
theorem FnOk.mono{P:Program}{w:World}{K:PySem.W.Frag}{mg:Str->Option Value}{base:Heap}{CX:CXT}{j k:Nat}{f:Addr}{fd:FuncData}{ps:List Str}{sp:Sp}(F:FnOk P w K mg base CX j f fd ps sp)(h:j<=k):
  FnOk P w K mg base CX k f fd ps sp:=⟨F.len,fun A outer s H args us vs Q E hr=>F.run A outer s H args us vs Q E (hr.mono h)⟩
section
variable{X:Cx}{pins:List (Addr×Obj)}{σ:St}{H:Hp}{s s':Shared}
theorem Inv.env0(I:Inv X pins σ H s):Env0 X.prog X.w X.K X.mg X.base X.A X.stack s H :=
 ⟨I.ok.frames,I.ok.mod,I.bs,Nat.le_trans I.ok.bsz I.sz,I.stack,I.stkFree,I.hok,I.bare⟩
theorem Inv.after{Q:VK}{u:Value}(I:Inv X pins σ H s)(h:CE X.stack X.prog X.w H s Q u s'):EP X pins σ Q u s':=by
 obtain⟨v,H',os,bare,un,hok,r,q⟩:=h
 obtain⟨hh,g,d,t,os'⟩:=s'
 obtain rfl:os'=s.os:=os
 exact⟨v,H',I.call (h':=hh) (g':=g) (d':=d) (t':=t) (ch:=[]) un hok bare (fun b z=>absurd z (by simp)),r,q⟩
end
def tCall(sp:Sp)(dvs:List V)(E:XK)(t:TA):TE:=fun σ H Q=>t σ H fun vs H1=>sp (vs++dvs) H1 Q E
def Binds(K:PySem.W.Frag)(fd:FuncData)(ps:List Str)(ds:List Value):Prop :=
 ∀(s:Shared) (us:List Value),K.In s.heap->(us++ds).length=ps.length->BindsTo s fd ⟨us,[]⟩ (ps.zip (us++ds))
theorem Binds.all{K:PySem.W.Frag}{fd:FuncData}{ps:List Str}(h:∀us:List Value,us.length=ps.length->bindArgs fd ⟨us,[]⟩=pure (ps.zip us)):Binds K fd ps []:=fun s us _ hl=>by
 rw[List.append_nil] at hl ⊢
 exact .of_eq (h us hl)
def Gn(CX:CXT)(X:Cx)(E:XK):Prop:=∀(pins:List (Addr×Obj)) (σ:St) (H:Hp) (s:Shared) (e:Value) (s':Shared),Inv X pins σ H s->CX X.stack H s E e s'->X.xe e s'
section
variable{X:Cx}{CX:CXT}{k:Nat}{f C:Addr}{fd:FuncData}{ps:List Str}{sp:Sp}{dvs:List V}{ds:List Value}{E:XK}{x m:Str}{p pos apos:Pos}{e o:Expr}{es:List Expr}{ta:TE}{t:TA}
theorem Aai{pins:List (Addr×Obj)}{σ:St}{H:Hp}{s:Shared}{Q:VK}{us:List Value}{vs:List V}(F:FnOk X.prog X.w X.K X.mg X.base CX k f fd ps sp)(hr:Room k X.A)(hb:Binds X.K fd ps ds)(hd:Vals dvs ds)(hx:Gn CX X E)
  (I:Inv X pins σ H s) (r:Vals vs us) (h:sp (vs++dvs) H Q E):wpAny (model X.prog X.w) X.A (call (.ref f) us) (EP X pins σ Q) X.xe s:=by
 have r2:Vals (vs++dvs) (us++ds):=r.append hd
 have hl:(us++ds).length=ps.length:=by rw[<-r2.length];exact F.len _ _ _ _ h
 refine wpAny_call (codeAny_mono (F.run X.A X.stack s H ⟨us,[]⟩ (us++ds) (vs++dvs) Q E hr I.env0 (hb s us I.kIn hl) r2 h) fun r s' hq=>?_)
 cases r with
 |error e=>exact hx pins σ H s e s' I hq
 |ok fl =>
  cases fl with
  |ret u=>exact I.after hq
  |next=>exact False.elim hq
  |brk=>exact False.elim hq
  |cont=>exact False.elim hq
theorem Oo(F:FnOk X.prog X.w X.K X.mg X.base CX k f fd ps sp)(hr:Room k X.A)(hg:Gl X x)(hm:X.mg x=some (.ref f))(hk:PySem.W.keepIn X.K (.ref f)=true)(hb:Binds X.K fd ps ds)(hd:Vals dvs ds)(hx:Gn CX X E)
  (ha:PA X (e::es) t) (hdb:(x==("__debug__":Str))=false:=by decide) (he:starEach (e::es) X.env=(false,eval e X.env)::starEach es X.env:=by rfl) (hpl:(backTo pos (starEach es X.env)).any (·.1)=false:=by rfl) :
  PE X (.Call (.Name x p) (e::es) [] pos) (tCall sp dvs E t):=by
 intro pins s σ H Q I h
 refine wpAny_Call_Name_kw (Es I hg hm ?_ hdb)
 refine PySem.W.callWith_K (h₀:=X.base) I.ok.mod.kin hk (thn (ha pos pins s σ H _ I h) fun us s1 ⟨vs,H1,I1,r,q⟩=>⟨I1.kIn,?_⟩) he hpl
 exact Aai F hr hb hd hx I1 r q
end
structure Zv(N P:List Str)(sc:Scope):Prop where
 kind:sc.kind=.function
 co:sc.isCoroutine=false
 gen:sc.isGenerator=false
 nd:N.Nodup
 pre:N.take P.length=P
 par:∀x∈P,sc.names.lookup x=some .local\/sc.names.lookup x=some .cell
 nofree:∀y∈sc.names,y.2≠.free
theorem Kd{kindOf:Str->Option NameKind}{x:Str}:∀{binds:List (Str×Value)} {m:Str->Option Value},(∀v,(x,v) ∉ binds)->bindL kindOf binds m x=m x
 |[],_,_=>rfl
 |(n,v)::r,m,h=>by
  unfold bindL
  rw[Kd fun w hw=>h w (List.mem_cons_of_mem _ hw)]
  split
  ·have:x≠n:=by rintro rfl;exact h v List.mem_cons_self
   simp[this]
  ·rfl
theorem Jt{kindOf:Str->Option NameKind}{x:Str}:∀{binds:List (Str×Value)} {m:Str->Option Value},(∀v,(x,v) ∉ binds)->bindC kindOf binds m x=m x
 |[],_,_=>rfl
 |(n,v)::r,m,h=>by
  unfold bindC
  rw[Jt fun w hw=>h w (List.mem_cons_of_mem _ hw)]
  split
  ·rfl
  ·have:x≠n:=by rintro rfl;exact h v List.mem_cons_self
   simp[this]
theorem Ke{kindOf:Str->Option NameKind}{x:Str}{v:Value}:∀{P:List Str} {vs:List Value} {i:Nat} {m:Str->Option Value},P.Nodup->P[i]?=some x->vs[i]?=some v->kindOf x=some .local →
  bindL kindOf (P.zip vs) m x=some v
 |[],_,_,_,_,h,_,_=>by simp at h
 |_::_,[],_,_,_,_,h,_=>by simp at h
 |p::P,w::vs,0,m,nd,h1,h2,hk=>by
  simp at h1 h2;subst h1;subst h2
  show bindL kindOf ((p,w)::P.zip vs) m p=_
  unfold bindL
  rw[Kd fun v hv=>(List.nodup_cons.mp nd).1 (List.of_mem_zip hv).1,if_pos hk]
  simp
 |p::P,w::vs,i+1,m,nd,h1,h2,hk=>by
  show bindL kindOf ((p,w)::P.zip vs) m x=_
  unfold bindL
  exact Ke (i:=i) (List.nodup_cons.mp nd).2 (by simpa using h1) (by simpa using h2) hk
theorem Kb{kindOf:Str->Option NameKind}{x:Str}{v:Value}:∀{P:List Str} {vs:List Value} {i:Nat} {m:Str->Option Value},P.Nodup->P[i]?=some x->vs[i]?=some v->kindOf x≠some .local →
  bindC kindOf (P.zip vs) m x=some v
 |[],_,_,_,_,h,_,_=>by simp at h
 |_::_,[],_,_,_,_,h,_=>by simp at h
 |p::P,w::vs,0,m,nd,h1,h2,hk=>by
  simp at h1 h2;subst h1;subst h2
  show bindC kindOf ((p,w)::P.zip vs) m p=_
  unfold bindC
  rw[Jt fun v hv=>(List.nodup_cons.mp nd).1 (List.of_mem_zip hv).1,if_neg hk]
  simp
 |p::P,w::vs,i+1,m,nd,h1,h2,hk=>by
  show bindC kindOf ((p,w)::P.zip vs) m x=_
  unfold bindC
  exact Kb (i:=i) (List.nodup_cons.mp nd).2 (by simpa using h1) (by simpa using h2) hk
def D2(N:List Str)(vs:List V):St:=vs.map some++List.replicate (N.length - vs.length) none
def cxOf(CX:CXT)(P:Program)(w:World)(K:PySem.W.Frag)(mg:Str->Option Value)(base:Heap)(N:List Str)(qual:Str)(scope:Scope)(f:Addr)(cd:Value)(A:Around)(outer:List Env)(s:Shared)(H:Hp)(E:XK):Cx where
 prog:=P
 w:=w
 K:=K
 mg:=mg
 base:=base
 A:=A.deeper (envOfC qual scope s.heap.objs.size f cd)
 N:=N
 s₀:=s
 H₀:=H
 env:=envOfC qual scope s.heap.objs.size f cd
 outer:=outer
 stack:=envOfC qual scope s.heap.objs.size f cd::outer
 ex:=[]
 calm:=true
 fn:=fun _=>true
 pn:=[]
 xe:=fun e s'=>wpAny (model P w) (A.deeper (envOfC qual scope s.heap.objs.size f cd)) (leaving (envOfC qual scope s.heap.objs.size f cd) e) (fun _ s''=>CX outer H s E e s'') (fun e' s''=>CX outer H s E e' s'') s'
theorem Ma{sc:Scope}{n:Nat}{x:Str}(h:sc.names.lookup x=some .cell):∃c,(cellsFrom n sc.names []).lookup x=some c:=by
 have q:=PySem.W.cellsFrom_some sc.names n [] (.inl h)
 exact Option.isSome_iff_exists.mp q
theorem Pv{CX:CXT}{P:Program}{w:World}{K:PySem.W.Frag}{mg:Str->Option Value}{base:Heap}{N ps:List Str}{qual:Str}{scope:Scope}{f:Addr}{cd:Value}{A:Around}{outer:List Env}{s s1:Shared}{H:Hp}{E:XK}{us:List Value}{vs:List V}
  (S:Zv N ps scope) (hd:A.handled=none) (e0:Env0 P w K mg base A outer s H) (hl:vs.length=ps.length) (r:Vals vs us)
  (x:InCallC s s.heap.objs.size (bindL (envOfC qual scope s.heap.objs.size f cd).kindOf (ps.zip us) fun _=>none) (cellsFrom (s.heap.objs.size+1) scope.names []) (bindC (envOfC qual scope s.heap.objs.size f cd).kindOf (ps.zip us) fun _=>none) s1) :
  Inv (cxOf CX P w K mg base N qual scope f cd A outer s H E) [] (D2 N vs) H s1:=by
 have hpl:ps.length<=N.length:=by have:=congrArg List.length S.pre;rw[List.length_take] at this;omega
 obtain⟨h1,tk,rfl,hk⟩:=x.done
 have noA:∀b:Addr,b ∉ (cxOf CX P w K mg base N qual scope f cd A outer s H E).ex:=fun b z=>absurd (show b∈([]:List Addr) from z) (by simp)
 refine⟨⟨e0.mod,S.kind,rfl,rfl,Nat.le_refl _,fun y z c h1 h2=>?_,fun y hy=>?_,fun y c _ h=>?_,fun _=>hd,Around.frames_deeper e0.frames,.inr ⟨rfl,rfl⟩,fun b z=>absurd z (noA b),e0.bs,e0.bsz,fun b _ _=>noA b,fun b z=>absurd z (noA b),e0.funs,e0.frf⟩,
  rfl,e0.bare,Un.kept hk,⟨_,x.toInCall.ns,fun i y v h1 h2 h3=>?_⟩,fun y c h=>⟨_,x.cell y c h⟩,e0.hok.fresh (Nat.le_refl _),fun y c h=>?_,fun p hp=>absurd (show p∈([]:List (Addr×Obj)) from hp) (by simp),e0.hok.kept hk,?_⟩
 ·exact name_of_addr x.apart (PySem.mem_of_lookup h1) (PySem.mem_of_lookup h2)
 ·have hy:scope.names.lookup y=some .cell\/scope.names.lookup y=some .free:=hy
  rcases hy with hy|hy
  ·exact Ma hy
  ·exact absurd rfl (S.nofree _ (PySem.mem_of_lookup hy))
 ·exact Nat.le_of_lt (x.above y c (PySem.mem_of_lookup h))
 ·have hi:i<vs.length:=by
   unfold D2 at h2
   by_cases hi:i<vs.length
   ·exact hi
   ·rw[List.getElem?_append_right (by simpa using hi)] at h2
    rw[List.getElem?_replicate] at h2
    split at h2 <;> cases h2
  have ha:vs[i]?=some v:=by
   unfold D2 at h2
   rw[List.getElem?_append_left (by simpa using hi),List.getElem?_map] at h2
   cases e:vs[i]? with
   |none=>rw[e] at h2;cases h2
   |some a=>rw[e] at h2;cases h2;rfl
  obtain⟨u,hu,rv⟩:=r.get ha
  have hp:ps[i]?=some y:=by
   rw[<-S.pre,List.getElem?_take_of_lt (by omega)];exact h1
  have ndP:ps.Nodup:=by rw[<-S.pre];exact S.nd.sublist (List.take_sublist _ _)
  refine⟨u,rv,?_⟩
  rcases S.par y (List.mem_of_getElem? hp) with k|k
  ·exact .inl ⟨k,Ke ndP hp hu k⟩
  ·obtain⟨c,e⟩:=Ma (n:=s.heap.objs.size+1) k
   refine .inr ⟨.inl k,c,e,?_⟩
   have q:=x.cell y c e
   rw[Kb ndP hp hu (by show scope.names.lookup y≠_;rw[k];decide)] at q
   exact q
 ·exact e0.hok.fresh (Nat.le_of_lt (x.above y c (PySem.mem_of_lookup h)))
 ·unfold D2
  show _=N.length
  rw[List.length_append,List.length_map,List.length_replicate]
  omega
theorem X2{CX:CXT}{P:Program}{w:World}{K:PySem.W.Frag}{mg:Str->Option Value}{base:Heap}{k:Nat}{f:Addr}{name qual:Str}{params:Arguments}{body:List Stmt}{scope:Scope}{dV kV doc pm cdv ct oc:Value}{an od:Option Addr}
  {osl:Array (Option Value)} {N ps:List Str} {sp:Sp} (lk:K.lookup f=some ⟨oc,od,.func (PySem.W.fnOf name qual params body scope dV kV doc pm an cdv ct),osl⟩) (hcd:PySem.W.codeIn K cdv qual=true) (S:Zv N ps scope)
  (len:∀vs H Q E,sp vs H Q E->vs.length=ps.length)
  (hbody:∀(A:Around) (outer:List Env) (s:Shared) (H:Hp) (vs:List V) (Q:VK) (E:XK),Room k (A.deeper (envOfC qual scope s.heap.objs.size f cdv))->sp vs H Q E →
   ∃t,PSs (cxOf CX P w K mg base N qual scope f cdv A outer s H E) body t/\t { nx:=fun _ H'=>Q .non H',rt:=Q } (D2 N vs) H) :
  FnOk P w K mg base CX (k+1) f (PySem.W.fnOf name qual params body scope dV kV doc pm an cdv ct) ps sp:=by
 refine⟨len,fun A outer s H args us vs Q E hr e0 hb r hsp=>?_⟩
 have hl:=len _ _ _ _ hsp
 have KX:K.In s.heap:=e0.mod.kin.keeps fun b o e=>(e0.bs b o e).1
 have lim:s.heap.NoLimit:=e0.mod.nolimit.keeps fun b o e=>(e0.bs b o e).1
 have hkind:∀y∈ps.zip us,scope.names.lookup y.1=some .local\/(scope.names.lookup y.1=some .cell/\((cellsFrom (s.heap.objs.size+1) scope.names []).lookup y.1).isSome=true):=fun ⟨n,v⟩ hy=>by
  rcases S.par n (List.of_mem_zip hy).1 with q|q
  ·exact .inl q
  ·exact .inr ⟨q,PySem.W.cellsFrom_some _ _ _ (.inl q)⟩
 refine codeAny_call_function hr.depth (KX _ _ lk) rfl S.co S.gen rfl (PySem.W.codeRec_of KX hcd) (hb _ _ _ _ ?_)
 refine wpAny_newFunctionEnv_cells S.kind hkind fun env he s1 x=>?_
 subst he
 refine⟨lim.keeps x.toInCall.keep,codeAny_func ?_⟩
 obtain⟨t,ht,hq⟩:=hbody A outer s H vs Q E (hr.deeper _) hsp
 have I:Inv (cxOf CX P w K mg base N qual scope f cdv A outer s H E) [] (D2 N vs) H s1:=Pv S hr.hd e0 hl r x
 refine wpAny_mono (ht [] s1 (D2 N vs) H _ I hq) (fun fl s' hs=>?_) fun e s' hs=>hs
 have fin:∀{σ':St} {H':Hp} {v:V} {u:Value},Inv (cxOf CX P w K mg base N qual scope f cdv A outer s H E) [] σ' H' s'->RelV v u->Q v H'->CE outer P w H s Q u s' :=
  fun {σ' H' v u} J rv q=>⟨v,H',J.os,J.bare,J.base,J.hok,rv,q⟩
 cases fl with
 |ret u =>
  obtain⟨v,σ',H',J,rv,q⟩:=hs
  exact fin J rv q
 |next =>
  obtain⟨σ',H',J,q⟩:=hs
  exact fin (v:=V.non) (u:=Value.none) J rfl q
 |brk =>
  obtain⟨_,_,_,q⟩:=hs
  exact False.elim q
 |cont =>
  obtain⟨_,_,_,q⟩:=hs
  exact False.elim q
end L2
namespace L2
open PySem PySem.Spec PyProof.Rows
section
variable{X:Cx}{x:Str}{p pos:Pos}{e:Expr}{es:List Expr}{t:TA}{id T:String}{r:List V->Hp->VK->Prop}
def tCB(r:List V->Hp->VK->Prop)(t:TA):TE:=fun σ H Q=>t σ H fun vs H1=>r vs H1 Q
theorem To(hc:CallR X (.builtin id) r)(hg:Gl X x)(hm:X.mg x=none)(hv:bootBuiltins x=some (.builtin id))(ha:PA X (e::es) t)(hn:x≠"__name__":=by decide)(hdb:(x==("__debug__":Str))=false:=by decide)
  (he:starEach (e::es) X.env=(false,eval e X.env)::starEach es X.env:=by rfl) (hpl:(backTo pos (starEach es X.env)).any (·.1)=false:=by rfl):PE X (.Call (.Name x p) (e::es) [] pos) (tCB r t):=by
 intro pins s σ H Q I h
 refine wpAny_Call_Name_kw (Dk I hg hm hv ?_ hn hdb)
 exact PyProof.Rows.callWith_builtin1 (thn (ha pos pins s σ H _ I h) fun us s1 ⟨vs,H1,I1,r1,q1⟩=>hc pins s1 σ H1 vs us Q I1 r1 q1) he hpl
theorem Qf(hc:CallR X (.type T) r)(hg:Gl X x)(hm:X.mg x=none)(hv:bootBuiltins x=some (.type T))(ha:PA X (e::es) t)(hn:x≠"__name__":=by decide)(hdb:(x==("__debug__":Str))=false:=by decide)
  (he:starEach (e::es) X.env=(false,eval e X.env)::starEach es X.env:=by rfl) (hpl:(backTo pos (starEach es X.env)).any (·.1)=false:=by rfl):PE X (.Call (.Name x p) (e::es) [] pos) (tCB r t):=by
 intro pins s σ H Q I h
 refine wpAny_Call_Name_kw (Dk I hg hm hv ?_ hn hdb)
 exact PyProof.Rows.callWith_type1 (thn (ha pos pins s σ H _ I h) fun us s1 ⟨vs,H1,I1,r1,q1⟩=>hc pins s1 σ H1 vs us Q I1 r1 q1) he hpl
end
end L2
namespace L2
open PySem PySem.Spec PyProof.Rows
section
variable{κ:Type}[DecidableEq κ]
def valV(kvs:List (κ×V))(k:κ):Option V:=(kvs.find? fun kv=>decide (kv.1=k)).map (·.2)
def Hu(kvs:List (κ×V))(k:κ)(v:V):List (κ×V) :=
 if (kvs.any fun kv=>decide (kv.1=k))=true then kvs.map (fun kv=>if kv.1=k then (kv.1,v) else kv) else kvs++[(k,v)]
theorem Mk{p:κ×V}{r:List (κ×V)}{k:κ}(e:p.1=k):valV (p::r) k=some p.2:=by simp[valV,List.find?_cons,e]
theorem Mu{p:κ×V}{r:List (κ×V)}{k:κ}(e:¬ p.1=k):valV (p::r) k=valV r k:=by simp[valV,List.find?_cons,e]
theorem Mr(kvs:List (κ×V))(k:κ)(v:V):(Hu kvs k v).length<=kvs.length+1:=by
 unfold Hu
 split
 ·rw[List.length_map];omega
 ·rw[List.length_append,List.length_cons,List.length_nil];omega
theorem RelO.getD{o:Option V}{u:Option Value}{d:V}{d':Value}(r:RelO o u)(rd:RelV d d'):RelV (o.getD d) (u.getD d'):=by
 cases o with
 |none=>cases u with
  |none=>exact rd
  |some _=>exact(show False from r).elim
 |some _=>cases u with
  |none=>exact(show False from r).elim
  |some _=>exact r
theorem KV.val{kvs:List (κ×V)}{vs:List (κ×Value)}(r:KV kvs vs)(k:κ):RelO (valV kvs k) (valueAt vs k):=by
 unfold KV at r
 induction r with
 |nil=>exact True.intro
 | @cons p q ps qs h t ih =>
  obtain⟨h1,h2⟩:=h
  by_cases e:p.1=k
  ·have e':q.1=k:=h1.symm.trans e
   have b:valueAt (q::qs) k=some q.2:=by simp[valueAt,List.find?_cons,e']
   rw[Mk e,b];exact h2
  ·have e':¬ q.1=k:=fun z=>e (h1.trans z)
   have b:valueAt (q::qs) k=valueAt qs k:=by simp[valueAt,List.find?_cons,e']
   rw[Mu e,b];exact ih
theorem KV.any{kvs:List (κ×V)}{vs:List (κ×Value)}(r:KV kvs vs)(k:κ):(kvs.any fun kv=>decide (kv.1=k))=vs.any fun kv=>decide (kv.1=k):=by
 unfold KV at r
 induction r with
 |nil=>rfl
 |cons h t ih=>rw[List.any_cons,List.any_cons,ih,h.1]
theorem KV.repl{kvs:List (κ×V)}{vs:List (κ×Value)}(r:KV kvs vs)(k:κ){y:V}{u:Value}(ry:RelV y u):
  KV (kvs.map fun kv=>if kv.1=k then (kv.1,y) else kv) (vs.map fun kv=>if kv.1=k then (kv.1,u) else kv):=by
 unfold KV at r ⊢
 induction r with
 |nil=>exact .nil
 | @cons p q ps qs h t ih =>
  rw[List.map_cons,List.map_cons]
  refine .cons ?_ ih
  obtain⟨h1,h2⟩:=h
  by_cases e:p.1=k
  ·rw[if_pos e,if_pos (h1.symm.trans e)];exact⟨h1,ry⟩
  ·rw[if_neg e,if_neg (fun z=>e (h1.trans z))];exact⟨h1,h2⟩
theorem KV.put{kvs:List (κ×V)}{vs:List (κ×Value)}(r:KV kvs vs)(k:κ){y:V}{u:Value}(ry:RelV y u):KV (Hu kvs k y) (stored vs k u):=by
 unfold Hu stored
 rw[r.any k]
 by_cases e:(vs.any fun kv=>decide (kv.1=k))=true
 ·rw[if_pos e,if_pos e];exact r.repl k ry
 ·rw[if_neg e,if_neg e];exact Paired.snoc r ⟨rfl,ry⟩
end
theorem Os{P:Program}{w:World}{k:Key}{u:Value}(r:RelV (kV k) u):(mixKind P w).is k u=true:=by
 cases k with
 |inl i=>obtain⟨t,e⟩:=(show ∃t,u=Value.int i t from r);subst e;exact Mw P w i t
 |inr x=>obtain⟨t,e⟩:=(show ∃t,u=Value.str x t from r);subst e;exact Dg P w x t
theorem Kc{P:Program}{w:World}:∀{ks:List Key} {us:List Value},Vals (ks.map kV) us->ItemsAre (mixKind P w) ks us
 |[],_,r=>by rw[List.map_nil] at r;cases r;exact .nil
 |k::ks,_,r=>by
  rw[List.map_cons] at r
  cases r with
  |cons h t=>exact .cons (Os h) (Kc t)
abbrev KT(H:Hp):List (List Key×V)->List (List Key×Addr×Value)->Prop:=Paired fun p q=>p.1=q.1/\H q.2.1=some (.tup (p.1.map kV))/\RelV p.2 q.2.2
theorem KT.val{H:Hp}{kvs:List (List Key×V)}{xs:List (List Key×Addr×Value)}(r:KT H kvs xs)(k:List Key):RelO (valV kvs k) ((atKey xs k).map (·.2)):=by
 induction r with
 |nil=>exact True.intro
 | @cons p q ps qs h t ih =>
  obtain⟨h1,_,h2⟩:=h
  by_cases e:p.1=k
  ·have e':q.1=k:=h1.symm.trans e
   have b:atKey (q::qs) k=some q.2:=by simp[atKey,List.find?_cons,e']
   rw[Mk e,b];exact h2
  ·have e':¬ q.1=k:=fun z=>e (h1.trans z)
   have b:atKey (q::qs) k=atKey qs k:=by simp[atKey,List.find?_cons,e']
   rw[Mu e,b];exact ih
section
variable{P:Program}{w:World}{H:Hp}{h:Heap}{a:Addr}
theorem X7{u:HO}(ok:HOk P w H h)(e:Rd H a u):ObjOk P w H h a u:=e.ok ok
theorem Se{kvs:List (Key×V)}(ok:HOk P w H h)(e:Rd H a (.dK kvs)):kvs.length<=sizeLine/\(a==sysModules)=false/\∃vs,KV kvs vs/\h.DictOf (mixKind P w) a vs :=
 show ObjOk P w H h a (.dK kvs) from X7 ok e
theorem dk_of{kvs:List (Key×V)}(ok:HOk P w H h)(e:H a=some (.dK kvs)):kvs.length<=sizeLine/\(a==sysModules)=false/\∃vs,KV kvs vs/\h.DictOf (mixKind P w) a vs:=Se ok (.inl e)
theorem Si{ks:List Key}(ok:HOk P w H h)(e:H a=some (.tup (ks.map kV))):(tupleKind (mixKind P w)).is h ks a:=by
 obtain⟨_,its,r,o,h1,h2,⟨n,h3⟩,_⟩:=(show ObjOk P w H h a (.tup (ks.map kV)) from ok a _ e)
 exact⟨o,its.toArray,n,h1,h2,h3,by simpa using Kc r⟩
theorem X5{kvs:List (List Key×V)}(ok:HOk P w H h)(e:Rd H a (.dT kvs)):kvs.length<=sizeLine/\(a==sysModules)=false ∧
  ∃xs,KT H kvs xs/\h.DictOfH (tupleKind (mixKind P w)) a xs:=by
 obtain⟨z,y,xs,r,o,es,ep,h1,h2,h3,h4,h5⟩:=(show ObjOk P w H h a (.dT kvs) from X7 ok e)
 refine⟨z,y,xs,r,o,es,ep,h1,h2,h3,h4,fun x hx=>?_,h5⟩
 have all:∀{l:List (List Key×V)} {m:List (List Key×Addr×Value)},KT H l m->∀x∈m,(tupleKind (mixKind P w)).is h x.1 x.2.1:=by
  intro l m q
  induction q with
  |nil=>intro x hx;exact nomatch hx
  | @cons p q ps qs hq t ih =>
   intro x hx
   rcases List.mem_cons.mp hx with e|hx
   ·subst e
    exact Si ok (by rw[<-hq.1];exact hq.2.1)
   ·exact ih x hx
 exact all r x hx
end
def DGet(H:Hp)(a:Addr)(y:V)(r:Option V):Prop :=
 (∃kvs k,Rd H a (.dK kvs)/\y=kV k/\r=valV kvs k)\/∃kvs k b,Rd H a (.dT kvs)/\y=.ref b/\H b=some (.tup (k.map kV))/\r=valV kvs k
section
variable{X:Cx}{pins:List (Addr×Obj)}{σ:St}{H:Hp}{s:Shared}{a:Addr}{y v:V}{u r:Value}{o:Option V}{A:Around}{E:Value->Shared->Prop}
theorem Inv.big(I:Inv X pins σ H s):sysModules<s.heap.objs.size:=by
 have h:mainGlobals<s.heap.objs.size:=(I.mod.glob.keeps I.bk).lt
 exact Nat.lt_trans (by decide) h
theorem Wa{h':Heap}{t':Nat}{ob:HO}(I:Inv X pins σ H s)(mu:Mut (H a))(hs:Heap.SameBut a s.heap h')(he:∃q,h'.get? a=some q)(new:ObjOk X.prog X.w (upd H a ob) h' a ob):
  Inv X pins σ (upd H a ob) { s with heap:=h',toks:=t' } :=
 I.write (x:=a) (e:=a) mu (.inl rfl) (fun b q hb z=>(hs.2 b hb).trans z) he new
theorem dk_new{P:Program}{w:World}{H':Hp}{h':Heap}{kvs:List (Key×V)}{vs:List (Key×Value)}(z:kvs.length<=sizeLine)(hd:(a==sysModules)=false)(rel:KV kvs vs)(dd:h'.DictOf (mixKind P w) a vs):
  ObjOk P w H' h' a (.dK kvs):=⟨z,hd,vs,rel,dd⟩
end
theorem T1{P:Program}{w:World}{H:Hp}(h:Heap)(hb:sysModules<h.objs.size):ObjOk P w H (h.push { cls:=.type "dict",data:=.dict #[] }) h.objs.size (.dK []) :=
 ⟨Nat.zero_le _,beq_eq_false_iff_ne.mpr (Ne.symm (Nat.ne_of_lt hb)),[],.nil,Heap.DictOf.new h⟩
def Iw:List (TE×TE)->St->Hp->(List (V×V)->Hp->Prop)->Prop
 |[],_,H,Q=>Q [] H
 |(tk,tv)::r,σ,H,Q=>tk σ H fun x H1=>tv σ H1 fun y H2=>Iw r σ H2 fun ps H3=>Q ((x,y)::ps) H3
abbrev VV:List (V×V)->List (Value×Value)->Prop:=Paired fun p q=>RelV p.1 q.1/\RelV p.2 q.2
def PPs(X:Cx)(pos:Pos)(keys:List (Option Expr))(values:List Expr)(trs:List (TE×TE)):Prop :=
 ∀(pins:List (Addr×Obj)) (s:Shared) (σ:St) (H:Hp) (Q:List (V×V)->Hp->Prop),Inv X pins σ H s->Iw trs σ H Q →
  wpAny (model X.prog X.w) X.A (evalPairs (pairTrees keys values X.env pos)) (fun vs s'=>∃ps H',Inv X pins σ H' s'/\VV ps vs/\Q ps H') X.xe s
theorem Vf{X:Cx}{pos:Pos}:PPs X pos [] [] []:=fun pins s σ H Q I h=>pairTrees_nil_walk ⟨[],H,I,.nil,h⟩
theorem Tw{X:Cx}{pos:Pos}{k v:Expr}{ks:List (Option Expr)}{vs:List Expr}{tk tv:TE}{trs:List (TE×TE)}(hk:PE X k tk)(hv:PE X v tv)(hr:PPs X pos ks vs trs):
  PPs X pos (some k::ks) (v::vs) ((tk,tv)::trs):=fun pins s σ H Q I h =>
 pairTrees_cons_walk (thn (hk pins s σ H _ I h) fun u s1 ⟨x,H1,I1,rx,q1⟩=>thn (hv pins s1 σ H1 _ I1 q1) fun w2 s2 ⟨y,H2,I2,ry,q2⟩ =>
  thn (hr pins s2 σ H2 _ I2 q2) fun ws s3 ⟨ps,H3,I3,rel,q3⟩=>⟨(x,y)::ps,H3,I3,.cons ⟨rx,ry⟩ rel,q3⟩)
def C6(kvs more:List (Key×V)):List (Key×V):=more.foldl (fun acc kv=>Hu acc kv.1 kv.2) kvs
theorem KV.merge:∀{more:List (Key×V)} {rs:List (Key×Value)} {kvs:List (Key×V)} {vs:List (Key×Value)},KV more rs->KV kvs vs->KV (C6 kvs more) (merged vs rs):=by
 intro more rs kvs vs r
 unfold KV at r
 induction r generalizing kvs vs with
 |nil=>intro q;exact q
 | @cons p q ps qs h t ih =>
  intro r0
  have e:KV (Hu kvs p.1 p.2) (stored vs q.1 q.2):=by
   have:=r0.put p.1 h.2
   rw[<-h.1];exact this
  exact ih e
theorem Et:∀(more kvs:List (Key×V)),(C6 kvs more).length<=kvs.length+more.length
 |[],kvs=>by show kvs.length<=kvs.length+0;omega
 |p::r,kvs=>by
  have h1:=Et r (Hu kvs p.1 p.2)
  have h2:=Mr kvs p.1 p.2
  show (C6 (Hu kvs p.1 p.2) r).length<=_
  rw[List.length_cons];omega
theorem Hq{P:Program}{w:World}:∀{kvs:List (Key×V)} {ws:List (Value×Value)},VV (kvs.map fun kv=>(kV kv.1,kv.2)) ws->∃rs,Carries (mixKind P w) ws rs/\KV kvs rs
 |[],_,r=>by rw[List.map_nil] at r;cases r;exact⟨[],True.intro,.nil⟩
 |p::kvs,_,r=>by
  rw[List.map_cons] at r
  cases r with
  | @cons a b as bs h t =>
   obtain⟨rs,c,q⟩:=Hq (P:=P) (w:=w) t
   obtain⟨b1,b2⟩:=b
   exact⟨(p.1,b2)::rs,⟨Os h.1,rfl,c⟩,.cons ⟨rfl,h.2⟩ q⟩
def tDisp(trs:List (TE×TE)):TE:=fun σ H Q=>∀p,H p=none->Iw trs σ (upd H p (.dK [])) fun ps H2=>H2 p=some (.dK [])/\∃kvs:List (Key×V),ps=kvs.map (fun kv=>(kV kv.1,kv.2))/\kvs.length<=15/\Q (.ref p) (upd H2 p (.dK (C6 [] kvs)))
theorem Ww{X:Cx}{pos:Pos}{keys:List (Option Expr)}{values:List Expr}{trs:List (TE×TE)}(h:PPs X pos keys values trs)(hall:keys.all (·.isSome)=true)(hl:keys.length=values.length)(h0:keys≠[])
  (h15:keys.length<=15):PE X (.Dict keys values pos) (tDisp trs):=by
 intro pins s σ H Q I q
 have hn:=I.hok.fresh (Nat.le_refl s.heap.objs.size)
 have I1:=I.laid (a:=s.heap.objs.size) (o:=.dK []) (h':=s.heap.push { cls:=.type "dict",data:=.dict #[] }) (t':=s.toks) (fun _ _ q=>Heap.get?_push_of_some _ q) (Nat.le_refl _) (T1 s.heap I.big)
 refine wpAny_Dict_walk (knd:=mixKind X.prog X.w) hall hl h0 h15 (thn (h pins _ σ _ _ I1 (q _ hn)) fun ws s2 ⟨ps,H2,I2,rel,e,kvs,ep,lk,q2⟩=>?_)
 subst ep
 obtain⟨rs,c,rk⟩:=Hq (P:=X.prog) (w:=X.w) rel
 obtain⟨z,hd,vs0,r0,dd⟩:=dk_of I2.hok e
 cases r0
 refine⟨rs,c,dd,fun h' dd' hs=>⟨.ref s.heap.objs.size,_,?_,rfl,q2⟩⟩
 have hz:(C6 [] kvs).length<=sizeLine:=by
  have h1:=Et kvs []
  rw[List.length_nil] at h1
  rw[sizeLine_eq];omega
 have he:∃q,h'.get? s.heap.objs.size=some q:=let ⟨q,_,_,hq,_⟩:=dd';⟨q,hq⟩
 exact Wa I2 (by rw[e];exact True.intro) hs he (dk_new hz hd (rk.merge .nil) dd')
structure M1(X:Cx)(o:Expr)(m:Str)(apos:Pos)(e:Expr)(cpos:Pos):Prop where
 base:attributeBase o m X.env (eval o X.env)=eval o X.env
 few:((backTo cpos (starEach [e] X.env)).all (fun x=>!x.1)&&(backToKw cpos (keywordEach [] X.env)).all (fun x=>x.1.isSome)
  && decide (([e]:List Expr).length+([]:List Keyword).length+(if ([]:List Keyword).isEmpty then 0 else 1)<30))=true
 line:(apos.endLine==cpos.line)=true
 trees:backTo cpos (starEach [e] X.env)=[(false,eval e X.env)]
structure M2(X:Cx)(o:Expr)(m:Str)(apos:Pos)(e f:Expr)(cpos:Pos):Prop where
 base:attributeBase o m X.env (eval o X.env)=eval o X.env
 few:((backTo cpos (starEach [e,f] X.env)).all (fun x=>!x.1)&&(backToKw cpos (keywordEach [] X.env)).all (fun x=>x.1.isSome)
  && decide (([e,f]:List Expr).length+([]:List Keyword).length+(if ([]:List Keyword).isEmpty then 0 else 1)<30))=true
 line:(apos.endLine==cpos.line)=true
 trees:backTo cpos (starEach [e,f] X.env)=[(false,eval e X.env),(false,eval f X.env)]
def IsD(H:Hp)(a:Addr):Prop:=(∃kvs,Rd H a (.dK kvs))\/∃kvs,Rd H a (.dT kvs)
theorem Aah{X:Cx}{pins:List (Addr×Obj)}{σ:St}{H:Hp}{s:Shared}{a:Addr}(I:Inv X pins σ H s)(d:IsD H a):
  s.TypeIs (.ref a) "dict"/\(∀b,Value.ref a=.ref b->∃ob,s.heap.get? b=some ob/\ob.dict=none)/\(a==sysModules)=false:=by
 rcases d with⟨kvs,e⟩|⟨kvs,e⟩
 ·obtain⟨_,hd,vs,_,dd⟩:=Se I.hok e
  refine⟨dd.typeIs,fun b q=>?_,hd⟩
  cases q
  obtain⟨ob,_,_,h1,h2,_⟩:=dd
  exact⟨ob,h1,h2.2.1⟩
 ·obtain⟨_,hd,xs,_,dd⟩:=X5 I.hok e
  refine⟨dd.typeIs,fun b q=>?_,hd⟩
  cases q
  obtain⟨ob,_,_,h1,h2,_⟩:=dd
  exact⟨ob,h1,h2.2.1⟩
section
variable{X:Cx}{pins:List (Addr×Obj)}{σ:St}{H:Hp}{s:Shared}{a:Addr}{y d:V}{u r:Value}{o:Option V}{A:Around}{E:Value->Shared->Prop}
theorem Aat{Q:Value->Shared->Prop}(hu:A.units+1<cLine)(I:Inv X pins σ H s)(g:DGet H a y o)(ry:RelV y u)(rd:RelV d r)(h:∀w' s',Inv X pins σ H s'->RelV (o.getD d) w'->Q w' s'):
  wpAny (model X.prog X.w) A (call (.builtin "dict.get") [.ref a,u,r]) Q E s:=by
 rcases g with⟨kvs,k,e,ey,l⟩|⟨kvs,k,b,e,ey,eb,l⟩
 ·subst ey
  obtain⟨z,hd,vs,rel,dd⟩:=Se I.hok e
  refine call_meetsIn PySem.F.slot_dict_get dd.typeIs PySem.F.entry_dict_get (PySem.F.args_dict_get_3 _ _ _) (meets_dict_get_default (mixKind X.prog X.w) a (Os ry) hd r) ⟨_,dd.mapOf,h _ _ (I.tok _) ?_⟩
  rw[l]
  exact(rel.val k).getD rd
 ·subst ey
  cases (show u=Value.ref b from ry)
  obtain⟨z,hd,xs,rel,dd⟩:=X5 I.hok e
  refine call_meetsIn PySem.F.slot_dict_get dd.typeIs PySem.F.entry_dict_get (PySem.F.args_dict_get_3 _ _ _) (meetsH_dict_get_default (tupleKind (mixKind X.prog X.w)) a b hd r) ⟨tupleKind_room_in1 hu,k,xs,Si I.hok eb,dd,h _ _ (I.tok _) ?_⟩
  rw[l]
  exact(rel.val k).getD rd
end
def Aal(td ty tx:TE):TE:=fun σ H Q=>td σ H fun x H1=>∃a,x=.ref a/\IsD H1 a/\ty σ H1 fun y H2=>tx σ H2 fun z H3=>∃o,DGet H3 a y o/\Q (o.getD z) H3
section
variable{X:Cx}{o e f:Expr}{apos cpos:Pos}{td ty tx:TE}
theorem Us(hu:X.A.units+1<cLine)(ho:PE X o td)(he:PE X e ty)(hf:PE X f tx)(m:M2 X o "get" apos e f cpos):PE X (.Call (.Attribute o "get" apos) [e,f] [] cpos) (Aal td ty tx):=by
 intro pins s σ H Q I h
 refine wpAny_Call_method m.base m.few m.line PySem.F.plainAttrs_dict PySem.F.slot_dict_get PySem.F.type_dict_get (thn (ho pins s σ H _ I h) fun u s1 ⟨x,H1,I1,rx,a,ex,d,q1⟩=>?_)
 subst ex
 obtain rfl:u=Value.ref a:=rx
 obtain⟨t1,t2,_⟩:=Aah I1 d
 refine⟨t1,t2,?_⟩
 rw[m.trees]
 refine Calls.callWith_builtin rfl (Calls.evalArgs_plain (Calls.spliced_cons (thn (he pins s1 σ H1 _ I1 q1) fun iv s2 ⟨y,H2,I2,ry,q2⟩ =>
  Calls.spliced_cons (thn (hf pins s2 σ H2 _ I2 q2) fun fv s3 ⟨z,H3,I3,rz,ov,g,q3⟩=>Calls.spliced_nil ?_))))
 exact Aat hu I3 g ry rz fun w' s4 I4 rw'=>⟨_,H3,I4,rw',q3⟩
end
end L2
namespace HT
open PySem PyProof.Rows
section
open PySem.SeqAt
open PySem.AutoSeq1 (wpAny_loadPart')
open PySem.MeetsSeq PySem.MeetsSeq2 PySem.MeetsSeq3
end
section
variable{prog:Program}{w:World}{A:Around}{E:Value->Shared->Prop}{s:Shared}
theorem cat_tup{t b:Addr}{vs ws:List Value}{Q:Value->Shared->Prop}(ht:IsTup s.heap t vs.toArray)(hb:IsTup s.heap b ws.toArray)(hv:vs≠[])
  (h1:ws=[]->Q (.ref t) s) (h2:ws≠[]->Q (.ref s.heap.objs.size) { s with heap:=s.heap.push { cls:=.type "tuple",data:=.seq (vs++ws).toArray } })
  (hsz:vs.length+ws.length<=sizeLine):wpAny (model prog w) A (binaryOp .Add (.ref t) (.ref b)) Q E s:=by
 obtain⟨⟨cls,dd,data,sl⟩,ho,hc,n,hd⟩:=id ht
 obtain⟨⟨cls2,dd2,data2,sl2⟩,ho2,hc2,n2,hd2⟩:=id hb
 simp only at hc hd hc2 hd2
 subst hc hd hc2 hd2
 have e:vs.toArray++ws.toArray=(vs++ws).toArray:=by simp
 by_cases hw:ws=[]
 ·exact concat_meets ⟨_,ho,rfl⟩ ⟨_,ho2,rfl⟩ noFill_tuple_add seq_tuple_add PySem.F.slot_tuple_add PySem.F.entry_tuple_add (PySem.F.args_tuple_add_2 _ _)
   (tuple_addW1 t b vs.toArray ws.toArray n n2 dd dd2 sl sl2 (by simpa using hv) (by simp[hw])) ⟨ho,ho2,h1 hw⟩
 ·refine concat_meets ⟨_,ho,rfl⟩ ⟨_,ho2,rfl⟩ noFill_tuple_add seq_tuple_add PySem.F.slot_tuple_add PySem.F.entry_tuple_add (PySem.F.args_tuple_add_2 _ _)
   (tuple_addW2 t b vs.toArray ws.toArray n n2 dd dd2 sl sl2 (by simpa using hv) (by simpa using hw) (by rw[List.size_toArray,List.size_toArray];exact hsz)) ⟨ho,ho2,?_⟩
  rw[e]
  exact h2 hw
def sIx(n d:Nat):Option Int->Nat
 |none=>d
 |some v=>if v<0 then (v+(n:Int)).toNat else min v.toNat n
theorem Aay(n d:Nat)(hd:d<=n)(o:Option Int):sIx n d o<=n:=by
 cases o with
 |none=>exact hd
 |some v =>
  show (if v<0 then (v+(n:Int)).toNat else min v.toNat n)<=n
  by_cases hv:v<0
  ·rw[if_pos hv];omega
  ·rw[if_neg hv];exact Nat.min_le_right _ _
theorem Pc(v:Int)(n d:Nat):(if v<0 then max (v+(n:Int)) 0 else min v (n:Int))=((sIx n d (some v):Nat):Int):=by
 show (if v<0 then max (v+(n:Int)) 0 else min v (n:Int))=(((if v<0 then (v+(n:Int)).toNat else min v.toNat n):Nat):Int)
 by_cases hv:v<0
 ·simp only[if_pos hv];omega
 ·simp only[if_neg hv];omega
theorem Nf(lo hi:Option Int)(n:Nat):Builtin.Slice.sliceAdjust lo hi 1 (n:Int)=(((sIx n 0 lo:Nat):Int),((sIx n n hi:Nat):Int)):=by
 have h1:¬ ((1:Int)<0):=by omega
 unfold Builtin.Slice.sliceAdjust
 simp only[h1,if_false]
 refine Prod.ext ?_ ?_
 ·cases lo with
  |none=>rfl
  |some v=>exact Pc v n 0
 ·cases hi with
  |none=>rfl
  |some v=>exact Pc v n n
theorem N1(i j:Nat):Builtin.Slice.slicePlaces (i:Int) (j:Int) 1=j - i:=by
 unfold Builtin.Slice.slicePlaces
 have h1:(1:Int) > 0:=by omega
 simp only[h1,if_true,Int.ediv_one]
 split <;> omega
theorem Hv{v:Value}{o:Option Int}{Q:Option Int->Shared->Prop}(p:IsPart v o)(h:Q o s):wpAny (model prog w) A (Builtin.Slice.slicePartIndex v) Q E s:=by
 cases p with
 |none=>exact slicePart_none h
 |int i t=>exact slicePart_int h
theorem Do{sl:Addr}{vl vu:Value}{lo hi:Option Int}{n:Nat}{Q:Int×Int×Nat->Shared->Prop}(hs:s.heap.IsSliceOf sl vl vu .none)(pl:IsPart vl lo)(pu:IsPart vu hi)
  (h:Q (((sIx n 0 lo:Nat):Int),1,sIx n n hi - sIx n 0 lo) s):wpAny (model prog w) A (Builtin.Slice.sliceApplied (.ref sl) (pure (n:Int))) Q E s:=by
 obtain⟨os,hos,hcs,hds⟩:=id hs
 unfold Builtin.Slice.sliceApplied Builtin.Slice.sliceFields
 refine wpAny_bind (wpAny_bind (wpAny_field hos hds (x:=vl) rfl (wpAny_bind (wpAny_field hos hds (x:=vu) rfl (wpAny_bind (wpAny_field hos hds (x:=.none) rfl (wpAny_pure ?_)))))))
 refine wpAny_bind (slicePart_none ?_)
 show wpAny _ _ (if ((1:Int)==0)=true then _ else _) _ _ s
 rw[if_neg (by decide)]
 refine wpAny_bind (Hv pl (wpAny_bind (Hv pu (wpAny_bind (wpAny_pure ?_)))))
 show wpAny _ _ (match Builtin.Slice.sliceAdjust lo hi 1 (n:Int) with|(lo,hi)=>pure (lo,(1:Int),Builtin.Slice.slicePlaces lo hi 1)) _ _ s
 rw[Nf lo hi n]
 show wpAny _ _ (pure (((sIx n 0 lo:Nat):Int),(1:Int),Builtin.Slice.slicePlaces ((sIx n 0 lo:Nat):Int) ((sIx n n hi:Nat):Int) 1)) _ _ s
 rw[N1]
 exact wpAny_pure h
theorem Uo(xs:Array Value)(i k:Nat):((List.range k).filterMap fun (m:Nat)=>xs[((i:Int)+(m:Int) * 1).toNat]?).toArray=((xs.toList.drop i).take k).toArray:=by
 have e:(fun (m:Nat)=>xs[((i:Int)+(m:Int) * 1).toNat]?)=fun m=>xs[i+m]?:=by
  funext m
  have:((i:Int)+(m:Int) * 1).toNat=i+m:=by omega
  rw[this]
 rw[e]
 have:=pick_run xs i k
 rw[List.filterMap_map] at this
 have e2:((fun x=>xs[x]?) ∘ fun x=>i+x)=fun m=>xs[i+m]?:=rfl
 rw[e2] at this
 rw[this]
theorem getItem_tuple_cut{t sl:Addr}{items:Array Value}{vl vu:Value}{lo hi:Option Int}{Q:Value->Shared->Prop}(ht:IsTup s.heap t items)(hs:s.heap.IsSliceOf sl vl vu .none)(pl:IsPart vl lo)(pu:IsPart vu hi)
  (hw:¬ (sIx items.size 0 lo=0/\sIx items.size items.size hi=items.size))
  (h:Q (.ref s.heap.objs.size) { s with heap:=s.heap.push { cls:=.type "tuple",data:=.seq ((items.toList.drop (sIx items.size 0 lo)).take (sIx items.size items.size hi - sIx items.size 0 lo)).toArray } })
  (hsz:items.size<=sizeLine):wpAny (model prog w) A (getItem (.ref t) (.ref sl)) Q E s:=by
 have htake:sizeOk (.seq ((items.toList.drop (sIx items.size 0 lo)).take (sIx items.size items.size hi - sIx items.size 0 lo)).toArray):=by
  show ((items.toList.drop (sIx items.size 0 lo)).take (sIx items.size items.size hi - sIx items.size 0 lo)).toArray.size<=sizeLine
  rw[List.size_toArray,List.length_take,List.length_drop,Array.length_toList]
  omega
 have hj:sIx items.size items.size hi<=items.size:=Aay _ _ (Nat.le_refl _) hi
 obtain⟨os,hos,hcs,hds⟩:=id hs
 have hTs:s.TypeIs (.ref sl) "slice":=⟨os,hos,hcs⟩
 unfold getItem
 try with_reducible refine wpAny_holding ?_
 first|refine wpAny_bind (wpAny_pure ?_)|skip
 refine wpAny_bind (wpAny_sequenceKey ht.typeIs (by decide) ?_)
 refine wpAny_bind (wpAny_callSpecial?_slot (name:=Str.ofString "__getitem__") ht.typeIs PyProof.Rows.slot_tuple_getitem
  (wpAny_call_entry PyProof.Rows.slot_tuple_getitem ht.typeIs entry_tuple_getitem ?_ (args_tuple_getitem _ _)))
 show wpAny _ _ (Builtin.Tuple.tupleItemsOf (.ref t) >>= _) _ _ s
 refine wpAny_bind (tupleItemsOf_ ht ?_)
 refine wpAny_bind (wpAny_typeOf hTs ?_)
 rw[if_pos (by decide)]
 refine wpAny_bind (Do hs pl pu ?_)
 have hno:¬ ((((sIx items.size 0 lo:Nat):Int)==0&&(1:Int)==1&&(sIx items.size items.size hi - sIx items.size 0 lo)==items.size)=true):=by
  intro q
  rw[Bool.and_eq_true,Bool.and_eq_true] at q
  have q1:((sIx items.size 0 lo:Nat):Int)=0:=eq_of_beq q.1.1
  have q2:sIx items.size items.size hi - sIx items.size 0 lo=items.size:=eq_of_beq q.2
  exact hw ⟨by omega,by omega⟩
 show wpAny _ _ (if (((sIx items.size 0 lo:Nat):Int)==0&&(1:Int)==1&&(sIx items.size items.size hi - sIx items.size 0 lo)==items.size)=true then _ else _) _ _ s
 rw[if_neg hno,Uo]
 first
  |exact wpAny_bind (m:=Builtin.Tuple.tupleExact _) (wpAny_newObj_type (wpAny_pure ⟨_,rfl,wpAny_pure h⟩) htake)
  |exact wpAny_bind (m:=Builtin.Tuple.tupleExact _) (wpAny_newObj_type (wpAny_bind (wpAny_pure (wpAny_pure ⟨_,rfl,wpAny_pure h⟩))) htake)
  |exact wpAny_bind (wpAny_bind (m:=Builtin.Tuple.tupleExact _) (wpAny_newObj_type (wpAny_pure (wpAny_pure ⟨_,rfl,wpAny_pure h⟩)) htake))
  |exact wpAny_bind (wpAny_bind (m:=Builtin.Tuple.tupleExact _) (wpAny_newObj_type (wpAny_pure ⟨_,rfl,wpAny_pure h⟩) htake))
end
end HT
namespace L2
open PySem PySem.Spec PyProof.Rows
abbrev TO:=St->Hp->(Option Int->Hp->Prop)->Prop
def PO(X:Cx)(e:Option Expr)(t:TO):Prop :=
 ∀(pins:List (Addr×Obj)) (s:Shared) (σ:St) (H:Hp) (Q:Option Int->Hp->Prop),Inv X pins σ H s->t σ H Q →
  wpAny (model X.prog X.w) X.A (evalPart e X.env) (fun u s'=>∃o H',Inv X pins σ H' s'/\IsPart u o/\Q o H') X.xe s
def Vz:TO:=fun _ H Q=>Q none H
def tPart(t:TE):TO:=fun σ H Q=>t σ H fun x H1=>∃i,x=.int i/\Q (some i) H1
section
variable{X:Cx}{e:Expr}{te:TE}{lo hi:Option Expr}{tl th:TO}{pos p2:Pos}
theorem U6:PO X none Vz:=by
 intro pins s σ H Q I h
 rw[evalPart_none]
 exact wpAny_pure ⟨none,H,I,.none,h⟩
theorem Vi(h:PE X e te):PO X (some e) (tPart te):=by
 intro pins s σ H Q I hw
 rw[evalPart_some]
 refine thn (h pins s σ H _ I hw) fun u s1 ⟨x,H1,I1,r1,q1⟩=>?_
 obtain⟨i,rfl,q⟩:=q1
 obtain⟨t,rfl⟩:=r1
 exact⟨some i,H1,I1,.int i t,q⟩
def SlR(X:Cx)(r:V->Option Int->Option Int->Hp->VK->Prop):Prop :=
 ∀(pins:List (Addr×Obj)) (s:Shared) (σ:St) (H:Hp) (x:V) (v vl vu:Value) (lo hi:Option Int) (sl:Addr) (Q:VK),Inv X pins σ H s->RelV x v->s.heap.IsSliceOf sl vl vu .none->IsPart vl lo->IsPart vu hi->r x lo hi H Q →
  ∃T id,typeLookup (.type T) "__getitem__"=pure (some (.builtin id))/\s.TypeIs v T/\wpAny (model X.prog X.w) X.A (getItem v (.ref sl)) (EP X pins σ Q) X.xe s
theorem SlR.or{r r':V->Option Int->Option Int->Hp->VK->Prop}(h:SlR X r)(h':SlR X r'):SlR X (fun x lo hi H Q=>r x lo hi H Q\/r' x lo hi H Q):=by
 intro pins s σ H x v vl vu lo hi sl Q I rx hs pl pu q
 rcases q with q|q
 ·exact h pins s σ H x v vl vu lo hi sl Q I rx hs pl pu q
 ·exact h' pins s σ H x v vl vu lo hi sl Q I rx hs pl pu q
def tSl(r:V->Option Int->Option Int->Hp->VK->Prop)(te:TE)(tl th:TO):TE:=fun σ H Q=>te σ H fun x H1=>tl σ H1 fun l H2=>th σ H2 fun u H3=>r x l u H3 Q
theorem Mo{r:V->Option Int->Option Int->Hp->VK->Prop}(hr:SlR X r)(he:PE X e te)(hl:PO X lo tl)(hu:PO X hi th):PE X (.Subscript e (.Slice lo hi none p2) pos) (tSl r te tl th):=by
 intro pins s σ H Q I h
 refine Subscript_ (thn (he pins s σ H _ I h) fun v s1 ⟨x,H1,I1,r1,q1⟩=>?_)
 refine wpAny_Slice (thn (hl pins s1 σ H1 _ I1 q1) fun vl s2 ⟨l,H2,I2,pl,q2⟩=>thn (hu pins s2 σ H2 _ I2 q2) fun vu s3 ⟨u,H3,I3,pu,q3⟩=>?_)
 rw[evalPart_none]
 refine wpAny_pure ?_
 have I4:Inv X pins σ H3 { s3 with heap:=s3.heap.push { cls:=.type "slice",data:=.fields #[vl,vu,.none] } }:=I3.kept (t':=s3.toks) fun b ob q=>Heap.get?_push_of_some _ q
 obtain⟨T,id,hT,ht,hg⟩:=hr pins { s3 with heap:=s3.heap.push { cls:=.type "slice",data:=.fields #[vl,vu,.none] } } σ H3 x v vl vu l u s3.heap.objs.size Q I4 r1 (Heap.IsSliceOf.new ..) pl pu q3
 show wpAny (model X.prog X.w) X.A (subscriptTail e (.Slice lo hi none p2) v (.ref s3.heap.objs.size)) (EP X pins σ Q) X.xe { s3 with heap:=s3.heap.push { cls:=.type "slice",data:=.fields #[vl,vu,.none] } }
 exact tail_any (ops:=[.ref s3.heap.objs.size,v]) ht hT hg (by with_unfolding_all rfl)
def K4(xs:List V)(lo hi:Option Int):List V:=(xs.drop (HT.sIx xs.length 0 lo)).take (HT.sIx xs.length xs.length hi - HT.sIx xs.length 0 lo)
theorem Gs(xs:List V)(lo hi:Option Int):(K4 xs lo hi).length<=xs.length:=by
 unfold K4
 rw[List.length_take,List.length_drop]
 omega
def rSlT(K:PySem.W.Frag):V->Option Int->Option Int->Hp->VK->Prop:=fun x lo hi H Q=>∃a xs,x=.ref a/\SqT K H a xs ∧
 ¬ (HT.sIx xs.length 0 lo=0/\HT.sIx xs.length xs.length hi=xs.length)/\∀p,H p=none->Q (.ref p) (upd H p (.tup (K4 xs lo hi)))
theorem sl_tup:SlR X (rSlT X.K):=by
 intro pins s σ H x v vl vu lo hi sl Q I rx hs pl pu h
 obtain⟨a,xs,rfl,hx,hw,q⟩:=h
 cases rx
 obtain⟨its,r,ht,hz⟩:=I.tuple hx
 have hlen:its.toArray.size=xs.length:=by rw[List.size_toArray];exact r.length.symm
 refine⟨"tuple",_,PyProof.Rows.slot_tuple_getitem.lookup,ht.typeIs,?_⟩
 refine HT.getItem_tuple_cut ht hs pl pu (by rw[hlen];exact hw) ?_ (by rw[hlen];exact hz)
 rw[hlen]
 refine⟨.ref s.heap.objs.size,_,I.laid (t':=s.toks) (o:=.tup (K4 xs lo hi)) (fun b ob q=>Heap.get?_push_of_some _ q) (Nat.le_refl _) ?_,rfl,q _ (I.hok.fresh (Nat.le_refl _))⟩
 exact⟨Nat.le_trans (Gs xs lo hi) hz,_,(r.drop (HT.sIx xs.length 0 lo)).take (HT.sIx xs.length xs.length hi - HT.sIx xs.length 0 lo),TupN.new _ _⟩
def rCatT(K:PySem.W.Frag):R2:=fun x y H Q=>∃a b xs ys,x=.ref a/\y=.ref b/\SqT K H a xs/\SqT K H b ys/\xs≠[]/\xs.length+ys.length<=sizeLine ∧
 (ys=[]->Q (.ref a) H)/\(ys≠[]->∀p,H p=none->Q (.ref p) (upd H p (.tup (xs++ys))))
theorem Vals.nil_iff{xs:List V}{us:List Value}(r:Vals xs us):us=[] ↔ xs=[]:=by
 cases r with
 |nil=>simp
 |cons _ _=>simp
theorem V8:OpR X (binaryOp .Add) (rCatT X.K):=by
 intro pins s σ H x y v u Q I rx ry h
 obtain⟨a,b,xs,ys,rfl,rfl,ha,hb,hx,hz,q1,q2⟩:=h
 cases rx
 cases ry
 obtain⟨its,r1,p1,_⟩:=I.tuple ha
 obtain⟨its2,r2,p2,_⟩:=I.tuple hb
 refine HT.cat_tup p1 p2 (fun z=>hx (r1.nil_iff.mp z)) (fun z=>⟨.ref a,H,I,rfl,q1 (r2.nil_iff.mp z)⟩) (fun z=>?_) (by rw[<-r1.length,<-r2.length];exact hz)
 refine⟨.ref s.heap.objs.size,_,I.laid (t':=s.toks) (o:=.tup (xs++ys)) (fun b ob q=>Heap.get?_push_of_some _ q) (Nat.le_refl _) ?_,rfl,q2 (fun w=>z (r2.nil_iff.mpr w)) _ (I.hok.fresh (Nat.le_refl _))⟩
 exact⟨by rw[List.length_append];exact hz,_,r1.append r2,TupN.new _ _⟩
end
end L2
namespace L2
open PySem PySem.Spec PyProof.Rows
def ixN(n:Nat)(i:Int):Option Nat:=if 0<=i then (if i<n then some i.toNat else none) else if -(n:Int)<=i then some (i+n).toNat else none
def atI{α:Type}(xs:List α)(i:Int):Option α:=(ixN xs.length i).bind fun j=>xs[j]?
theorem Om{n:Nat}{i:Int}{j:Nat}(h:ixN n i=some j):seqIndex? i n=some j/\j<n/\-(n:Int)<=i/\i<n:=by
 unfold ixN at h
 by_cases h0:0<=i
 ·rw[if_pos h0] at h
  by_cases h1:i<n
  ·rw[if_pos h1] at h
   have e:i.toNat=j:=Option.some.inj h
   exact⟨by rw[seqIndex_of h0 h1,e],by omega,by omega,h1⟩
  ·rw[if_neg h1] at h;cases h
 ·rw[if_neg h0] at h
  by_cases h1:-(n:Int)<=i
  ·rw[if_pos h1] at h
   have e:(i+n).toNat=j:=Option.some.inj h
   exact⟨by rw[seqIndex_neg (by omega) h1,e],by omega,h1,by omega⟩
  ·rw[if_neg h1] at h;cases h
theorem Lf{α:Type}{xs:List α}{i:Int}{v:α}(h:atI xs i=some v):∃j,seqIndex? i xs.length=some j/\xs[j]?=some v/\j<xs.length/\-(xs.length:Int)<=i/\i<xs.length:=by
 unfold atI at h
 cases e:ixN xs.length i with
 |none=>rw[e] at h;cases h
 |some j =>
  rw[e] at h
  obtain⟨h1,h2,h3,h4⟩:=Om e
  exact⟨j,h1,h,h2,h3,h4⟩
theorem Xb{α:Type}{xs:List α}{j:Nat}{v:α}(h:xs[j]?=some v):atI xs (j:Int)=some v:=by
 have hj:j<xs.length:=(List.getElem?_eq_some_iff.mp h).1
 have e:ixN xs.length (j:Int)=some j:=by
  unfold ixN
  rw[if_pos (by omega),if_pos (by omega)];simp
 unfold atI;rw[e];exact h
theorem Ux{α:Type}(xs:List α)(v:α):atI (xs++[v]) (-1)=some v:=by
 have hl:(xs++[v]).length=xs.length+1:=by simp
 have e:ixN (xs++[v]).length (-1)=some xs.length:=by
  unfold ixN
  rw[hl,if_neg (by decide),if_pos (by omega)]
  congr 1
  omega
 unfold atI
 rw[e]
 show (xs++[v])[xs.length]?=some v
 simp
def Ox(b:Expr):Prop:=∀o i,subscripted b false o i=operate [o,i] (getItem o i)
def IxR(X:Cx)(r:R2):Prop :=
 ∀(value slice:Expr) (pins:List (Addr×Obj)) (s:Shared) (σ:St) (H:Hp) (x y:V) (v u:Value) (Q:VK),Inv X pins σ H s->RelV x v->RelV y u->r x y H Q →
  subscripted slice false v u=operate [v,u] (getItem v u)->wpAny (model X.prog X.w) X.A (subscriptTail value slice v u) (EP X pins σ Q) X.xe s
def MtR(X:Cx)(id:String)(r:V->List V->Hp->VK->Prop):Prop :=
 ∀(pins:List (Addr×Obj)) (s:Shared) (σ:St) (H:Hp) (x:V) (xs:List V) (v:Value) (us:List Value) (Q:VK),Inv X pins σ H s->RelV x v->Vals xs us->r x xs H Q →
  wpAny (model X.prog X.w) X.A (call (.builtin id) (v::us)) (EP X pins σ Q) X.xe s
section
variable{X:Cx}{a b:Expr}{ta tb:TE}{pos:Pos}
theorem IxR.or{r r':R2}(h:IxR X r)(h':IxR X r'):IxR X (fun x y H Q=>r x y H Q\/r' x y H Q):=by
 intro value slice pins s σ H x y v u Q I rx ry q hs
 rcases q with q|q
 ·exact h value slice pins s σ H x y v u Q I rx ry q hs
 ·exact h' value slice pins s σ H x y v u Q I rx ry q hs
theorem pe_ix{r:R2}(hr:IxR X r)(ha:PE X a ta)(hb:PE X b tb)(hs:Ox b):PE X (.Subscript a b pos) (tOp r ta tb):=by
 intro pins s σ H Q I h
 exact Subscript_ (binT ha hb I h fun v u s2 x y H2 I2 rx ry q=>hr a b pins s2 σ H2 x y v u Q I2 rx ry q (hs _ _))
def rIxL(K:PySem.W.Frag):R2:=fun x y H Q=>∃p xs i v,x=.ref p/\y=.int i/\SqL K H p xs/\atI xs i=some v/\Q v H
def rIxT(K:PySem.W.Frag):R2:=fun x y H Q=>∃p xs i v,x=.ref p/\y=.int i/\SqT K H p xs/\atI xs i=some v/\Q v H
def rIxS:R2:=fun x y H Q=>∃z i c,x=.str z/\y=.int i/\z.length<=sizeLine/\atI z.cps.toList i=some c/\Q (.str ⟨#[c]⟩) H
theorem ix_list:IxR X (rIxL X.K):=by
 intro value slice pins s σ H x y v u Q I rx ry h hs
 obtain⟨p,xs,i,z,rfl,rfl,hq,he,q⟩:=h
 cases rx
 obtain⟨t,rfl⟩:=ry
 obtain⟨its,r,pl,hz⟩:=I.list hq
 obtain⟨j,h1,h2,h3,h4,h5⟩:=Lf he
 obtain⟨w,ew,rw'⟩:=r.get h2
 have hl:=r.length
 have hn:=E8
 have fin:EP X pins σ Q w s:=⟨z,H,I,rw',q⟩
 by_cases h0:0<=i
 ·have hj:i.toNat=j:=by
   rw[seqIndex_of h0 h5] at h1
   exact Option.some.inj h1
  exact item_listR pl.isList h0 (by omega) (by rw[hj];simpa using ew) fin hs
 ·have hj:(i+(its.toArray.size:Int)).toNat=j:=by
   rw[seqIndex_neg (by omega) h4] at h1
   rw[List.size_toArray,<-hl]
   exact Option.some.inj h1
  exact subscriptTail_builtinR (x:=w) pl.isList.typeIs slot_list_getitem.lookup
   (wpAny_getItem_list_neg (Q:=fun r s'=>r=w/\EP X pins σ Q r s') pl.isList (by omega) (by rw[List.size_toArray] <;> omega) (by omega) (by rw[hj];simpa using ew) ⟨rfl,fin⟩) hs
theorem ix_tup:IxR X (rIxT X.K):=by
 intro value slice pins s σ H x y v u Q I rx ry h hs
 obtain⟨p,xs,i,z,rfl,rfl,hq,he,q⟩:=h
 cases rx
 obtain⟨t,rfl⟩:=ry
 obtain⟨its,r,pl,hz⟩:=I.tuple hq
 obtain⟨j,h1,h2,h3,h4,h5⟩:=Lf he
 obtain⟨w,ew,rw'⟩:=r.get h2
 have hl:=r.length
 have hn:=E8
 have fin:EP X pins σ Q w s:=⟨z,H,I,rw',q⟩
 exact subscriptTail_builtinR (x:=w) pl.typeIs slot_tuple_getitem.lookup
  (getItem_tuple (j:=j) (Q:=fun r s'=>r=w/\EP X pins σ Q r s') pl (by omega) (by omega) (by rw[List.size_toArray,<-hl];exact h1) (by simpa using ew) ⟨rfl,fin⟩) hs
theorem Yw:IxR X rIxS:=by
 intro value slice pins s σ H x y v u Q I rx ry h hs
 obtain⟨z,i,c,rfl,rfl,hz,he,q⟩:=h
 obtain⟨t,rfl⟩:=rx
 obtain⟨t',rfl⟩:=ry
 obtain⟨j,h1,h2,h3,h4,h5⟩:=Lf he
 have hl:z.cps.toList.length=z.length:=by simp[Str.length]
 rw[hl] at h1 h4 h5
 have hn:=E8
 exact tail_any (typeIs_str s z t) slot_str_getitem.lookup (getItem_str (c:=c) (by
  have e1:decide (i < -(2 ^ 63:Int))=false:=decide_eq_false (by omega)
  have e2:decide (i ≥ 2 ^ 63)=false:=decide_eq_false (by omega)
  rw[e1,e2,Bool.or_false]) (by rw[h1];simpa using h2) ⟨.str ⟨#[c]⟩,H,I.tok _,⟨_,rfl⟩,q⟩) hs
def rIx(K:PySem.W.Frag):R2:=fun x y H Q=>rIxL K x y H Q\/rIxT K x y H Q\/rIxS x y H Q
theorem Ys:IxR X (rIx X.K):=ix_list.or (ix_tup.or Yw)
theorem M4(its:List Value)(n j:Nat)(u:Value):Obj.mapSeq (·.setIfInBounds j u) { cls:=.type "list",data:=.seq its.toArray n }={ cls:=.type "list",data:=.seq (its.set j u).toArray n }:=by
 simp[Obj.mapSeq]
theorem Inv.lst{pins:List (Addr×Obj)}{σ:St}{H:Hp}{s:Shared}{p:Addr}{xs:List V}(I:Inv X pins σ H s)(h:H p=some (.lst xs)):
  ∃(its:List Value) (n:Nat),Vals xs its/\s.heap.get? p=some { cls:=.type "list",data:=.seq its.toArray n }/\xs.length<=sizeLine:=by
 obtain⟨z,its,n,r,e⟩:=I.hok p _ h
 exact⟨its,n,r,e,z⟩
theorem Inv.lstUpd{pins:List (Addr×Obj)}{σ:St}{H:Hp}{s:Shared}{p:Addr}{xs ys:List V}{its its':List Value}{n n':Nat}{f:Obj->Obj}(I:Inv X pins σ H s)(h:H p=some (.lst xs))
  (ho:s.heap.get? p=some { cls:=.type "list",data:=.seq its.toArray n }) (hf:f { cls:=.type "list",data:=.seq its.toArray n }={ cls:=.type "list",data:=.seq its'.toArray n' }) (r:Vals ys its') (hz:ys.length<=sizeLine) (t:Nat) :
  Inv X pins σ (upd H p (.lst ys)) { s with heap:=s.heap.update p f,toks:=t }:=by
 have e:(s.heap.update p f).get? p=some { cls:=.type "list",data:=.seq its'.toArray n' }:=by
  rw[Heap.get?_update_self f ho (by rw[hf] <;> rfl),hf]
 refine I.write (x:=p) (e:=p) (by rw[h];trivial) (.inl rfl) (fun b u hb q=>(Heap.get?_update_other _ _ (Ne.symm hb)).trans q) ⟨_,e⟩ ?_
 exact⟨hz,its',n',r,e⟩
def rSetL:V->V->V->Hp->(Hp->Prop)->Prop:=fun o i v H Q=>∃p xs k j,o=.ref p/\i=.int k/\H p=some (.lst xs)/\ixN xs.length k=some j/\Q (upd H p (.lst (xs.set j v)))
theorem Tt:PSet X rSetL:=by
 intro pins s σ H o i v ov iv u Q I ro ri rv h
 obtain⟨p,xs,k,j,rfl,rfl,hp,hj,q⟩:=h
 cases ro
 obtain⟨t,rfl⟩:=ri
 obtain⟨its,n,r,ho,hz⟩:=I.lst hp
 obtain⟨h1,h2,h3,h4⟩:=Om hj
 have hl:=r.length
 have hn:=E8
 have I':Inv X pins σ (upd H p (.lst (xs.set j v))) { s with heap:=s.heap.update p (Obj.mapSeq (·.setIfInBounds j u)) } :=
  I.lstUpd hp ho (M4 its n j u) (r.set rv j) (by rw[List.length_set];exact hz) s.toks
 by_cases h0:0<=k
 ·have hk:k.toNat=j:=by
   rw[seqIndex_of h0 h4] at h1
   exact Option.some.inj h1
  exact PySem.W.ki_setAt ho h0 (by omega) (by rw[List.size_toArray,<-hl];exact h4) (by rw[hk];exact⟨_,I',q⟩)
 ·have hk:(k+(its.toArray.size:Int)).toNat=j:=by
   rw[seqIndex_neg (by omega) h3] at h1
   rw[List.size_toArray,<-hl]
   exact Option.some.inj h1
  exact PySem.W.ki_setBack ho (by omega) (by rw[List.size_toArray,<-hl];exact h3) (by omega) (by rw[hk];exact⟨_,I',q⟩)
theorem Ku(lo hi:Option Int)(n:Nat):(sliceBounds lo hi none n).1=((HT.sIx n 0 lo:Nat):Int)/\(sliceBounds lo hi none n).2.1=((HT.sIx n n hi:Nat):Int)/\(sliceBounds lo hi none n).2.2=1:=by
 refine⟨?_,?_,rfl⟩
 ·cases lo with
  |none=>simp[sliceBounds,HT.sIx]
  |some i =>
   simp only[sliceBounds,HT.sIx,Option.getD_none,show (1:Int) > 0 by decide,if_true]
   by_cases h:i<0
   ·simp only[h,if_true] <;> omega
   ·simp only[h,if_false] <;> omega
 ·cases hi with
  |none=>simp[sliceBounds,HT.sIx]
  |some i =>
   simp only[sliceBounds,HT.sIx,Option.getD_none,show (1:Int) > 0 by decide,if_true]
   by_cases h:i<0
   ·simp only[h,if_true] <;> omega
   ·simp only[h,if_false] <;> omega
theorem Jn(its:List Value)(lo hi:Option Int):slicePick its.toArray lo hi none=((its.drop (HT.sIx its.length 0 lo)).take (HT.sIx its.length its.length hi - HT.sIx its.length 0 lo)).toArray:=by
 obtain⟨h1,h2,h3⟩:=Ku lo hi its.toArray.size
 unfold slicePick
 rw[h1,h2,h3]
 simp only[sliceRange_one,pick_run,List.size_toArray] <;> rfl
def rSlL(K:PySem.W.Frag):V->Option Int->Option Int->Hp->VK->Prop:=fun x lo hi H Q=>∃a xs,x=.ref a/\SqL K H a xs/\∀p,H p=none->Q (.ref p) (upd H p (.lst (K4 xs lo hi)))
theorem sl_list:SlR X (rSlL X.K):=by
 intro pins s σ H x v vl vu lo hi sl Q I rx hs pl pu h
 obtain⟨a,xs,rfl,hx,q⟩:=h
 cases rx
 obtain⟨its,r,ht,hz⟩:=I.list hx
 have hlen:=r.length
 refine⟨"list",_,slot_list_getitem.lookup,ht.isList.typeIs,?_⟩
 refine wpAny_getItem_list_slice ht.isList hs pl pu .none (by simp) ?_ (by rw[List.size_toArray] <;> omega)
 rw[Jn,<-hlen]
 refine⟨.ref s.heap.objs.size,_,I.laid (t':=s.toks) (o:=.lst (K4 xs lo hi)) (fun b ob q=>Heap.get?_push_of_some _ q) (Nat.le_refl _) ?_,rfl,q _ (I.hok.fresh (Nat.le_refl _))⟩
 exact⟨Nat.le_trans (Gs xs lo hi) hz,_,0,(r.drop (HT.sIx xs.length 0 lo)).take (HT.sIx xs.length xs.length hi - HT.sIx xs.length 0 lo),Heap.get?_push_size _ rfl⟩
def Fh:V->Bool
 | .non=>true
 | .bl _=>true
 | .int _=>true
 | .str _=>true
 |_=>false
def eqV:V->V->Bool
 | .non,.non=>true
 | .bl a,.bl b=>a==b
 | .bl a,.int b=>(if a then 1 else 0)==b
 | .int a,.bl b=>a==(if b then 1 else 0)
 | .int a,.int b=>a==b
 | .str a,.str b=>a==b
 |_,_=>false
theorem Aaq{A:Around}{s:Shared}{y x:V}{u v:Value}(ry:RelV y u)(rx:RelV x v)(fy:Fh y=true)(fx:Fh x=true):SeqAt.EqAt A s u v (eqV y x):=by
 cases y with
 |non =>
  cases ry
  cases x with
  |non=>cases rx;exact SeqAt.EqAt.same _
  |bl b=>cases rx;exact SeqAt.EqAt.none_bool b
  |int b=>obtain⟨t,rfl⟩:=rx;exact SeqAt.EqAt.none_int b t
  |str b=>obtain⟨t,rfl⟩:=rx;exact SeqAt.EqAt.none_str b t
  |_=>exact absurd (show false=true from fx) Bool.false_ne_true
 |bl a =>
  cases ry
  cases x with
  |non=>cases rx;exact SeqAt.EqAt.bool_none a
  |bl b=>cases rx;exact SeqAt.EqAt.bool_bool a b
  |int b=>obtain⟨t,rfl⟩:=rx;exact SeqAt.EqAt.bool_int a b t
  |str b=>obtain⟨t,rfl⟩:=rx;exact SeqAt.EqAt.bool_str a b t
  |_=>exact absurd (show false=true from fx) Bool.false_ne_true
 |int a =>
  obtain⟨t',rfl⟩:=ry
  cases x with
  |non=>cases rx;exact SeqAt.EqAt.int_none a t'
  |bl b=>cases rx;exact SeqAt.EqAt.int_bool a t' b
  |int b=>obtain⟨t,rfl⟩:=rx;exact SeqAt.EqAt.int_int a t' b t
  |str b=>obtain⟨t,rfl⟩:=rx;exact SeqAt.EqAt.int_str a t' b t
  |_=>exact absurd (show false=true from fx) Bool.false_ne_true
 |str a =>
  obtain⟨t',rfl⟩:=ry
  cases x with
  |non=>cases rx;exact SeqAt.EqAt.str_none a t'
  |bl b=>cases rx;exact SeqAt.EqAt.str_bool a t' b
  |int b=>obtain⟨t,rfl⟩:=rx;exact SeqAt.EqAt.str_int a t' b t
  |str b=>obtain⟨t,rfl⟩:=rx;exact SeqAt.EqAt.str_str a t' b t
  |_=>exact absurd (show false=true from fx) Bool.false_ne_true
 |_=>exact absurd (show false=true from fy) Bool.false_ne_true
def eqU(x:V)(u:Value):Bool:=match u with
 | .none=>eqV .non x
 | .bool b=>eqV (.bl b) x
 | .int i _=>eqV (.int i) x
 | .str z _=>eqV (.str z) x
 |_=>false
theorem So{x y:V}{u:Value}(r:RelV y u)(f:Fh y=true):eqU x u=eqV y x:=by
 cases y with
 |non=>cases r;rfl
 |bl b=>cases r;rfl
 |int i=>obtain⟨t,rfl⟩:=r;rfl
 |str z=>obtain⟨t,rfl⟩:=r;rfl
 |_=>exact absurd (show false=true from f) Bool.false_ne_true
theorem F3{x:V}:∀{xs:List V} {us:List Value},Vals xs us->xs.all Fh=true->us.any (eqU x)=xs.any fun y=>eqV y x
 |_,_,.nil,_=>rfl
 |y::xs,u::us,.cons r t,f=>by
  rw[List.all_cons,Bool.and_eq_true] at f
  rw[List.any_cons,List.any_cons,So r f.1,F3 t f.2]
theorem Ec{A:Around}{s:Shared}{x:V}{v:Value}(rx:RelV x v)(fx:Fh x=true):∀{xs:List V} {us:List Value},Vals xs us->xs.all Fh=true->∀u∈us,SeqAt.EqAt A s u v (eqU x u)
 |_,_,.nil,_=>fun u hu=>by cases hu
 |y::xs,u::us,.cons r t,f=>fun u' hu=>by
  rw[List.all_cons,Bool.and_eq_true] at f
  rcases List.mem_cons.mp hu with rfl|hu
  ·rw[So r f.1];exact Aaq r rx f.1 fx
  ·exact Ec rx fx t f.2 u' hu
def inV(x:V)(xs:List V):Bool:=xs.any fun y=>eqV y x
def rIn(K:PySem.W.Frag)(neg:Bool):R2:=fun x y H Q=>∃p xs,y=.ref p/\(SqL K H p xs\/SqT K H p xs)/\Fh x=true/\xs.all Fh=true/\Q (.bl (if neg then !inV x xs else inV x xs)) H
theorem Jw:OpR X (compareOp .In) (rIn X.K false):=by
 intro pins s σ H x y v u Q I rx ry h
 obtain⟨p,xs,rfl,hq,fx,fs,q⟩:=h
 cases ry
 rcases hq with hq|hq
 ·obtain⟨its,r,pl,hz⟩:=I.list hq
  refine SeqAt.in_listAt (eqU x) pl.isList (fun w hw=>Ec rx fx r fs w (by simpa using hw)) ⟨.bl _,H,I,rfl,?_⟩
  rw[show its.toArray.any (eqU x)=its.any (eqU x) by simp,F3 r fs]
  exact q
 ·obtain⟨its,r,pl,hz⟩:=I.tuple hq
  refine SeqAt.in_tupleAt (eqU x) pl (fun w hw=>Ec rx fx r fs w (by simpa using hw)) ⟨.bl _,H,I,rfl,?_⟩
  rw[show its.toArray.any (eqU x)=its.any (eqU x) by simp,F3 r fs]
  exact q
theorem Ky:OpR X (compareOp .NotIn) (rIn X.K true):=by
 intro pins s σ H x y v u Q I rx ry h
 obtain⟨p,xs,rfl,hq,fx,fs,q⟩:=h
 cases ry
 rcases hq with hq|hq
 ·obtain⟨its,r,pl,hz⟩:=I.list hq
  refine SeqAt.notIn_listAt (eqU x) pl.isList (fun w hw=>Ec rx fx r fs w (by simpa using hw)) ⟨.bl _,H,I,rfl,?_⟩
  rw[show its.toArray.any (eqU x)=its.any (eqU x) by simp,F3 r fs]
  exact q
 ·obtain⟨its,r,pl,hz⟩:=I.tuple hq
  refine SeqAt.notIn_tupleAt (eqU x) pl (fun w hw=>Ec rx fx r fs w (by simpa using hw)) ⟨.bl _,H,I,rfl,?_⟩
  rw[show its.toArray.any (eqU x)=its.any (eqU x) by simp,F3 r fs]
  exact q
theorem call_len_seq:CallR X (.builtin "len") (fun xs H Q=>∃p ys,xs=[.ref p]/\(SqL X.K H p ys\/SqT X.K H p ys)/\Q (.int ys.length) H):=by
 intro pins s σ H xs us Q I r h
 obtain⟨p,ys,rfl,hq,q⟩:=h
 obtain⟨u,rfl,rx⟩:=E3 r
 cases rx
 have hn:=E8
 rcases hq with hq|hq
 ·obtain⟨its,r',pl,hz⟩:=I.list hq
  have hlen:=r'.length
  exact Calls.call_len_list pl.isList (by simp only[List.size_toArray] <;> omega) ⟨.int ys.length,H,I.tok _,⟨s.toks+1,by rw[List.size_toArray,hlen]⟩,q⟩
 ·obtain⟨its,r',pl,hz⟩:=I.tuple hq
  have hlen:=r'.length
  exact len_tuple pl (by simp only[List.size_toArray] <;> omega) ⟨.int ys.length,H,I.tok _,⟨s.toks+1,by rw[List.size_toArray,hlen]⟩,q⟩
theorem K1:CallR X (.builtin "len") (fun xs H Q=>∃z,xs=[.str z]/\z.length<=sizeLine/\Q (.int z.length) H):=by
 intro pins s σ H xs us Q I r h
 obtain⟨z,rfl,hz,q⟩:=h
 obtain⟨u,rfl,t,rfl⟩:=E3 r
 have hn:=E8
 exact len_str (by omega) ⟨.int z.length,H,I.tok _,⟨_,rfl⟩,q⟩
theorem CallR.or{f:Value}{r r':List V->Hp->VK->Prop}(h:CallR X f r)(h':CallR X f r'):CallR X f (fun xs H Q=>r xs H Q\/r' xs H Q):=by
 intro pins s σ H xs us Q I rs q
 rcases q with q|q
 ·exact h pins s σ H xs us Q I rs q
 ·exact h' pins s σ H xs us Q I rs q
theorem K2:CallR X (.type "list") (fun xs H Q=>∃p ys,xs=[.ref p]/\(SqL X.K H p ys\/SqT X.K H p ys)/\∀l,H l=none->Q (.ref l) (upd H l (.lst ys))):=by
 intro pins s σ H xs us Q I r h
 obtain⟨p,ys,rfl,hq,q⟩:=h
 obtain⟨u,rfl,rx⟩:=E3 r
 cases rx
 have fin:∀(its:List Value),Vals ys its->ys.length<=sizeLine->∀(h':Heap) (c':Nat),(∀b o',s.heap.get? b=some o'->h'.get? b=some o') →
   h'.get? s.heap.objs.size=some { cls:=.type "list",dict:=none,data:=.seq its.toArray c',slots:=#[] }->EP X pins σ Q (.ref s.heap.objs.size) { s with heap:=h' }:=fun its r' hz h' c' kp e =>
  ⟨.ref s.heap.objs.size,_,I.laid (t':=s.toks) kp (Nat.le_refl _) (show ObjOk X.prog X.w _ h' _ (.lst ys) from⟨hz,its,c',r',e⟩),rfl,q _ (I.hok.fresh (Nat.le_refl _))⟩
 rcases hq with hq|hq
 ·obtain⟨its,r',pl,hz⟩:=I.list hq
  have hlen:=r'.length
  obtain⟨o,ho,hc,n,hd⟩:=pl.isList
  exact call_list_seq p (.inl rfl) ho hc hd (fun h' c' kp e=>fin its r' hz h' c' kp e) (by simp only[List.size_toArray] <;> omega)
 ·obtain⟨its,r',pl,hz⟩:=I.tuple hq
  have hlen:=r'.length
  obtain⟨o,ho,hc,n,hd⟩:=pl
  exact call_list_seq p (.inr rfl) ho hc hd (fun h' c' kp e=>fin its r' hz h' c' kp e) (by simp only[List.size_toArray] <;> omega)
theorem Jg:CallR X (.type "tuple") (fun xs H Q=>∃p ys,xs=[.ref p]/\((SqL X.K H p ys/\∀l,H l=none->Q (.ref l) (upd H l (.tup ys)))\/(SqT X.K H p ys/\Q (.ref p) H))):=by
 intro pins s σ H xs us Q I r h
 obtain⟨p,ys,rfl,h⟩:=h
 obtain⟨u,rfl,rx⟩:=E3 r
 cases rx
 rcases h with⟨hq,q⟩|⟨hq,q⟩
 ·obtain⟨its,r',pl,hz⟩:=I.list hq
  have hlen:=r'.length
  refine call_tuple_list pl.isList (fun h' kp=>?_) (by simp only[List.size_toArray] <;> omega)
  have I1:Inv X pins σ H { s with heap:=h' }:=I.kept (t':=s.toks) kp
  have I2:Inv X pins σ (upd H h'.objs.size (.tup ys)) { s with heap:=h'.push { cls:=.type "tuple",data:=.seq its.toArray } } :=
   I1.laid (t':=s.toks) (fun b o e=>Heap.get?_push_of_some _ e) (Nat.le_refl _) (show ObjOk X.prog X.w _ _ _ (.tup ys) from⟨hz,its,r',TupN.new _ _⟩)
  exact⟨.ref h'.objs.size,_,I2,rfl,q _ (I1.hok.fresh (Nat.le_refl _))⟩
 ·obtain⟨its,r',pl,hz⟩:=I.tuple hq
  exact call_tuple_same pl ⟨.ref p,H,I,rfl,q⟩
def tyV(K:PySem.W.Frag)(T:String)(x:V)(H:Hp):Prop:=match x with
 | .str _=>T="str"
 | .int _=>T="int"
 | .ref p=>(T="list"/\∃xs,SqL K H p xs)\/(T="tuple"/\∃xs,SqT K H p xs) ∨
   (T="dict"/\((∃kvs,H p=some (.dK kvs))\/∃kvs,H p=some (.dT kvs)))\/(T="set"/\∃S n,H p=some (.set S n))
 |_=>False
theorem Sr{pins:List (Addr×Obj)}{σ:St}{H:Hp}{s:Shared}{T:String}{x:V}{v:Value}(I:Inv X pins σ H s)(r:RelV x v)(ty:tyV X.K T x H):
  s.TypeIs v T/\∀a,v=.ref a->∃ob,s.heap.get? a=some ob/\ob.dict=none:=by
 cases x with
 |str z =>
  obtain⟨t,rfl⟩:=r
  cases (show T="str" from ty)
  exact⟨typeIs_str s z t,fun _ e=>nomatch e⟩
 |int i =>
  obtain⟨t,rfl⟩:=r
  cases (show T="int" from ty)
  exact⟨typeIs_int s i t,fun _ e=>nomatch e⟩
 |ref p =>
  cases r
  rcases ty with⟨rfl,xs,hq⟩|⟨rfl,xs,hq⟩|⟨rfl,hk⟩|⟨rfl,S,n,hk⟩
  ·obtain⟨its,_,pl,_⟩:=I.list hq
   refine⟨pl.isList.typeIs,fun a e=>?_⟩
   cases e
   obtain⟨o,n,e,c,hd,_⟩:=pl
   exact⟨o,e,hd⟩
  ·obtain⟨o,ho,hc,hd⟩:=I.tupN hq
   refine⟨⟨o,ho,hc⟩,fun a e=>?_⟩
   cases e
   exact⟨o,ho,hd⟩
  ·have z:∃o,s.heap.get? p=some o/\o.ExactDict:=by
    rcases hk with⟨kvs,hk⟩|⟨kvs,hk⟩
    ·obtain⟨_,_,_,_,o,_,_,e,ex,_⟩:=I.hok p _ hk
     exact⟨o,e,ex⟩
    ·obtain⟨_,_,_,_,o,_,_,e,ex,_⟩:=I.hok p _ hk
     exact⟨o,e,ex⟩
   obtain⟨o,e,ex⟩:=z
   refine⟨⟨o,e,ex.1⟩,fun a e2=>?_⟩
   cases e2
   exact⟨o,e,ex.2.1⟩
  ·obtain⟨o,_,_,_,e,ex,_⟩:=I.hok p _ hk
   refine⟨⟨o,e,ex.1⟩,fun a e2=>?_⟩
   cases e2
   exact⟨o,e,ex.2.1⟩
 |_=>exact False.elim ty
def tBM0(K:PySem.W.Frag)(T:String)(r:V->List V->Hp->VK->Prop)(to:TE):TE:=fun σ H Q=>to σ H fun x H1=>tyV K T x H1/\r x [] H1 Q
def tBM(K:PySem.W.Frag)(T:String)(r:V->List V->Hp->VK->Prop)(to:TE)(t:TA):TE:=fun σ H Q=>to σ H fun x H1=>tyV K T x H1/\t σ H1 fun xs H2=>r x xs H2 Q
variable{o e:Expr}{es:List Expr}{to:TE}{t:TA}{name:Str}{apos cpos:Pos}{T id:String}{r:V->List V->Hp->VK->Prop}
theorem Aax(pa:PlainAttrs T)(slot:Slot T name id)(hty:typeOf (.builtin id)=pure (.type "method_descriptor"))(hm:MtR X id r)(ho:PE X o to)
  (hbase:attributeBase o name X.env (eval o X.env)=eval o X.env:=by rfl) (hline:(apos.endLine==cpos.line)=true:=by rfl):PE X (.Call (.Attribute o name apos) [] [] cpos) (tBM0 X.K T r to):=by
 intro pins s σ H Q I h
 refine wpAny_Call_method0_late hbase hline (thn (ho pins s σ H _ I h) fun v s1 ⟨x,H1,I1,r1,ty,q1⟩=>?_)
 obtain⟨h1,h2⟩:=Sr I1 r1 ty
 exact⟨T,id,pa,slot,hty,h1,h2,Calls.callWith_builtin rfl (PySem.evalArgs_none (hm pins s1 σ H1 x [] v [] Q I1 r1 .nil q1))⟩
theorem Pa(pa:PlainAttrs T)(slot:Slot T name id)(hty:typeOf (.builtin id)=pure (.type "method_descriptor"))(hm:MtR X id r)(ho:PE X o to)(ha:PA X (e::es) t)
  (hbase:attributeBase o name X.env (eval o X.env)=eval o X.env:=by rfl)
  (hfew:((backTo cpos (starEach (e::es) X.env)).all (fun x=>!x.1)&&(backToKw cpos (keywordEach [] X.env)).all (fun x=>x.1.isSome)
   && decide ((e::es).length+([]:List Keyword).length+(if ([]:List Keyword).isEmpty then 0 else 1)<30))=true:=by rfl)
  (hline:(apos.endLine==cpos.line)=true:=by rfl) (hs:starEach (e::es) X.env=(false,eval e X.env)::starEach es X.env:=by rfl) (hplain:(backTo cpos (starEach es X.env)).any (·.1)=false:=by rfl) :
  PE X (.Call (.Attribute o name apos) (e::es) [] cpos) (tBM X.K T r to t):=by
 intro pins s σ H Q I h
 refine wpAny_Call_method_late hbase hfew hline rfl (thn (ho pins s σ H _ I h) fun v s1 ⟨x,H1,I1,r1,ty,q1⟩=>?_)
 obtain⟨h1,h2⟩:=Sr I1 r1 ty
 refine⟨T,id,pa,slot,hty,h1,h2,?_⟩
 have hA:=ha cpos pins s1 σ H1 _ I1 q1
 rw[hs] at hA ⊢
 refine Calls.callWith_builtin (by show (false || (backTo cpos (starEach es X.env)).any (·.1))=false;rw[hplain] <;> rfl) (Calls.evalArgs_plain ?_)
 exact thn hA fun us s2 ⟨vs,H2,I2,r2,q2⟩=>hm pins s2 σ H2 x vs v us Q I2 r1 r2 q2
/- xs.append(e),list.index on a module's tuple .. are MtR facts of 06m -/
end
end L2
namespace L2
open PySem PySem.Spec PyProof.Rows
def MtM(X:Cx)(id:String)(r:V->List V->Hp->VK->Prop):Prop :=
 ∀(pins:List (Addr×Obj)) (s:Shared) (σ:St) (H:Hp) (x:V) (xs:List V) (v:Value) (us:List Value) (Q:VK),Inv X pins σ H s->RelV x v->Vals xs us->r x xs H Q →
  wpAny (model X.prog X.w) X.A (call (.builtin id) (v::us)) (EP X pins σ Q) X.xe s
theorem Vals.one:∀{x:V} {us:List Value},Vals [x] us->∃u,us=[u]/\RelV x u
 |_,_,.cons r .nil=>⟨_,rfl,r⟩
theorem Vals.two:∀{x y:V} {us:List Value},Vals [x,y] us->∃u v,us=[u,v]/\RelV x u/\RelV y v
 |_,_,_,.cons r (.cons q .nil)=>⟨_,_,rfl,r,q⟩
theorem Vals.zero:∀{us:List Value},Vals [] us->us=[]
 |_,.nil=>rfl
theorem Vals.rep{xs:List V}{us:List Value}(h:Vals xs us):∀k:Nat,Vals (List.replicate k xs).flatten (List.replicate k us).flatten
 | 0=>.nil
 |k+1=>by
  rw[List.replicate_succ,List.replicate_succ,List.flatten_cons,List.flatten_cons]
  exact Vals.append h (Vals.rep h k)
theorem Ge(its:List Value):∀(k:Nat) (acc:List Value),
  List.foldl (fun x1 x2=>x1++x2) acc.toArray (List.replicate k its.toArray)=(acc++(List.replicate k its).flatten).toArray
 | 0,acc=>by simp
 |k+1,acc=>by
  have e:acc.toArray++its.toArray=(acc++its).toArray:=by simp
  have e2:(acc++its)++(List.replicate k its).flatten=acc++(List.replicate (k+1) its).flatten:=by
   rw[List.replicate_succ,List.flatten_cons,List.append_assoc]
  rw[<-e2,<-Ge its k (acc++its),<-e,List.replicate_succ,List.foldl_cons]
section
variable{X:Cx}{pins:List (Addr×Obj)}{σ:St}{H:Hp}{s:Shared}{l b:Addr}{xs ys zs:List V}
theorem Inv.lset{its its':List Value}{n:Nat}{f:Array Value->Array Value}{t':Nat}(I:Inv X pins σ H s)(hH:H l=some (.lst xs))
  (e:s.heap.get? l=some { cls:=.type "list",data:=.seq its.toArray n }) (hf:f its.toArray=its'.toArray) (hv:Vals ys its') (hz:ys.length<=sizeLine) :
  Inv X pins σ (upd H l (.lst ys)) { s with heap:=s.heap.update l (Obj.mapSeq f),toks:=t' }:=by
 have q:=PySem.IsL.update e f
 rw[hf] at q
 refine I.write (x:=l) (e:=l) (by rw[hH];exact trivial) (.inl rfl) (fun b' u hb hu=>(Heap.get?_update_other s.heap (Obj.mapSeq f) (Ne.symm hb)).trans hu) ⟨_,q⟩ ?_
 exact⟨hz,its',_,hv,q⟩
theorem Inv.lnew{its:List Value}{t':Nat}(I:Inv X pins σ H s)(hv:Vals ys its)(hz:ys.length<=sizeLine):
  Inv X pins σ (upd H s.heap.objs.size (.lst ys)) { s with heap:=s.heap.push { cls:=.type "list",data:=.seq its.toArray },toks:=t' } :=
 I.laid (fun _ _ q=>Heap.get?_push_of_some _ q) (Nat.le_refl _) ⟨hz,its,0,hv,Heap.get?_push_size _ rfl⟩
theorem Inv.fresh(I:Inv X pins σ H s):H s.heap.objs.size=none:=I.hok.fresh (Nat.le_refl _)
theorem Inv.lstM(I:Inv X pins σ H s)(hH:H l=some (.lst xs)):xs.length<=sizeLine/\∃(its:List Value) (n:Nat),Vals xs its/\xs.length=its.length/\s.heap.get? l=some { cls:=.type "list",data:=.seq its.toArray n }:=by
 obtain⟨z,its,n,r,e⟩:=I.hok l _ hH
 exact⟨z,its,n,r,r.length,e⟩
theorem Sg{n:Nat}(h:n<=sizeLine):Builtin.List.listTooLong n=false:=by
 unfold Builtin.List.listTooLong
 exact decide_eq_false (by omega)
end
section
variable{X:Cx}
def Wk:V->List V->Hp->VK->Prop:=fun x vs H Q=>∃l xs y,x=.ref l/\vs=[y]/\H l=some (.lst xs)/\xs.length<sizeLine/\Q .non (upd H l (.lst (xs++[y])))
theorem Qn:MtM X "list.append" Wk:=by
 intro pins s σ H x vs v us Q I rx rv h
 obtain⟨l,xs,y,rfl,rfl,hH,hz,q⟩:=h
 cases rx
 obtain⟨u,rfl,ru⟩:=rv.one
 obtain⟨z,its,n,r,hl,e⟩:=I.lstM hH
 refine call_meets F.slot_list_append ⟨_,e,rfl⟩ F.entry_list_append (F.args_list_append_2 _ _) (PySem.list_append l its.toArray n u (by rw[List.size_toArray];omega)) ⟨e,?_⟩
 refine⟨.non,_,I.lset (its':=its++[u]) hH e (by simp) (r.append (.cons ru .nil)) ?_,rfl,q⟩
 rw[List.length_append,List.length_singleton]
 omega
def rCat:R2:=fun x y H Q=>∃l b xs zs,x=.ref l/\y=.ref b/\H l=some (.lst xs)/\H b=some (.lst zs)/\xs.length+zs.length<=sizeLine/\∀p,H p=none->Q (.ref p) (upd H p (.lst (xs++zs)))
theorem op_cat:OpR X (binaryOp .Add) rCat:=by
 intro pins s σ H x y v u Q I rx ry h
 obtain⟨l,b,xs,zs,rfl,rfl,hH,hB,hz,q⟩:=h
 cases rx
 cases ry
 obtain⟨z,its,n,r,hl,e⟩:=I.lstM hH
 obtain⟨z2,its2,n2,r2,hl2,e2⟩:=I.lstM hB
 refine PySem.P.add_list e e2 ?_ (by rw[List.size_toArray,List.size_toArray];omega)
 have ea:its.toArray++its2.toArray=(its++its2).toArray:=by simp
 rw[ea]
 exact⟨.ref _,_,I.lnew (t':=s.toks) (r.append r2) (by rw[List.length_append];omega),rfl,q _ I.fresh⟩
def rRep:R2:=fun x y H Q=>∃l k xs,x=.ref l/\y=.int k/\H l=some (.lst xs)/\-(2 ^ 63)<=k/\k<2 ^ 63/\xs.length * k.toNat<=sizeLine ∧
 ∀p,H p=none->Q (.ref p) (upd H p (.lst (List.replicate k.toNat xs).flatten))
theorem O9{α:Type}(xs:List α)(k:Nat):(List.replicate k xs).flatten.length=k * xs.length:=by
 induction k with
 |zero=>simp
 |succ k ih=>rw[List.replicate_succ,List.flatten_cons,List.length_append,ih,Nat.succ_mul,Nat.add_comm]
theorem Yy:OpR X (binaryOp .Mult) rRep:=by
 intro pins s σ H x y v u Q I rx ry h
 obtain⟨l,k,xs,rfl,rfl,hH,h1,h2,hz,q⟩:=h
 cases rx
 obtain⟨t,rfl⟩:=ry
 obtain⟨z,its,n,r,hl,e⟩:=I.lstM hH
 have hlen:its.toArray.size * k.toNat<=sizeLine:=by rw[List.size_toArray,<-hl];exact hz
 have hcap:¬ its.toArray.size * k.toNat > (2 ^ 63 - 1) / 8:=by
  have:(sizeLine:Nat)<=(2 ^ 63 - 1) / 8:=by decide
  omega
 have hfit:¬ (!Builtin.List.listFitsIndex k)=true:=by
  rw[fitsIndex_both h1 h2]
  exact Bool.false_ne_true
 have hlong:¬ Builtin.List.listTooLong (its.toArray.size * k.toNat)=true:=by
  rw[Sg hlen]
  exact Bool.false_ne_true
 have hnew:List.foldl (fun x1 x2=>x1++x2) #[] (List.replicate (if its.toArray.isEmpty=true then 0 else k.toNat) its.toArray)=(List.replicate k.toNat its).flatten.toArray:=by
  have f0:∀m:Nat,List.foldl (fun x1 x2=>x1++x2) #[] (List.replicate m its.toArray)=(List.replicate m its).flatten.toArray:=fun m=>by
   have:=Ge its m []
   rw[List.nil_append] at this
   exact this
  rw[f0]
  cases its with
  |nil=>simp
  |cons a r'=>rw[if_neg (by simp)]
 refine wpAny_binaryOp_repeat_ref (T:="list") (U:="int") (by decide) ⟨_,e,rfl⟩ (fun s'=>typeIs_int s' k t) noFill_list_mul F.fills_int_mul F.slot_int_rmul repeat_list F.slot_int_index.lookup
  (call_meets F.slot_int_rmul (typeIs_int s k t) F.entry_int_rmul (F.args_int_rmul_2 _ _) (int___rmul___int_list k t l its.toArray n)
   ⟨e,rfl,⟨_,e,rfl⟩,call_meets F.slot_list_mul ⟨_,e,rfl⟩ F.entry_list_mul (F.args_list_mul_2 _ _) (AutoListH.list___mul___list_int_3 l its.toArray n k t hfit hcap hlong) ⟨e,?_⟩⟩)
 rw[hnew]
 exact⟨.ref _,_,I.lnew (t':=s.toks) (r.rep k.toNat) (by rw[O9,Nat.mul_comm];exact hz),rfl,q _ I.fresh⟩
end
end L2
namespace Att
open PySem PySem.W PySem.Calls PyProof.Rows
theorem G2{P:Params}{h:Heap}:∀(ns:List Int) (vs:List Value),WellAll P h vs (ns.map WData.int)->IntsAre vs ns:=by
 intro ns
 induction ns with
 |nil =>
  intro vs w
  rw[List.map_nil] at w
  cases w
  exact .nil
 |cons n ns ih =>
  intro vs w
  rw[List.map_cons] at w
  cases w with
  |cons a b =>
   cases a
   exact .cons _ _ (ih _ b)
theorem Qm{l:OpenLaw}{n:Nat}(hn:l.most=some n){P:Params}{h:Heap}{args:List WData}{vals:List Value}
  (hpre:l.row.toRowW.claim.pre args=true) (hwl:WellAll P h vals args) :
  ∃a vs ns,vals=[Value.ref a]/\args=[WData.list (ns.map WData.int)]/\h.get? a=some { cls:=.type "list",data:=.seq vs.toArray }/\IntsAre vs ns/\ns.length<=n:=by
 have hsh:WShape.hasAll [] args [.list .int]=true:=(pre_splitW hpre).1
 have hc:l.pre.holds [] { args:=args }=true:=(pre_splitW hpre).2
 obtain⟨d,r,rfl,h1,h2⟩:=hasAllW_cons hsh
 obtain rfl:=hasAllW_nil h2
 obtain⟨xs,rfl,h3⟩:=hasW_list h1
 obtain⟨ns,rfl⟩:=items_int h3
 have hlen:ns.length<=n:=by
  unfold OpenLaw.pre at hc
  have h4:(WTm.not (.lt (.lit (.int (n:Int))) (.len (.arg 0)))).holds [] { args:=[.list (ns.map .int)] }=true:=by
   have h4:=(holds_andW hc).1
   rw[hn] at h4
   exact h4
  have h5:=condW_of h4 (w_not (w_lt w_lit (w_len_list (w_arg rfl))))
  rw[List.length_map] at h5
  refine Nat.le_of_not_lt fun q=>?_
  have q':(n:Int)<((ns.length:Nat):Int):=by omega
  first
   |(rw[decide_eq_true q'] at h5;exact absurd h5 (by decide))
   |(simp at h5;omega)
 cases hwl with
 |cons w1 w2 =>
  cases w2
  cases w1 with
  |list ho hall=>exact⟨_,_,ns,rfl,rfl,ho,G2 ns _ hall,hlen⟩
theorem P5(l:OpenLaw)(args:List WData):l.row.toRowW.claim.post args (.bool true) args=true :=
 postW_of (r:=l.row.toRowW) (X:=(true==true))
  (show WShape.has [] (.bool true) .bool=true by first|rfl|decide|simp[WShape.has,WShape.arms,WShape.armsAll])
  (show (WTm.eq .res (.lit (.bool true))).value [] { args:=args,res:=some (.bool true),after:=args }=some (.bool (true==true)) from w_eq_bool (w_res rfl) w_lit) rfl
theorem attach_call{l:OpenLaw}{n:Nat}{q:Program}{loose:List Str}{XP:(Str->Option Value)->Heap->Prop}{YP:World->Heap->Prop}{d:DefRec}
  (hn:l.most=some n) (hdf:d.params.defaults=[])
  (call:∀(w:World) (s₀ s₁:Shared) (mg mb:Str->Option Value) (fa:Addr) (o:Obj) (pm cd doc:Value) (a:Addr) (vs:List Value) (ns:List Int),
   Ground q loose [] XP w s₀ mg mb s₁.heap->YP w s₁.heap →
   s₁.heap.get? fa=some o->o.data=.func (docDef d.name d.params d.body d.scope pm cd doc)->s₁.heap.CodeRec cd d.name->mg d.name=some (.ref fa) →
   s₁.heap.get? a=some { cls:=.type "list",data:=.seq vs.toArray }->IntsAre vs ns->ns.length<=n->s₁.gens=#[] →
   codeAny (model l.prog w) callerA (.call (.ref fa) ⟨[.ref a],[]⟩) (fun r s'=>r=.ok (.ret (.bool true))/\OldK s₁.heap s'.heap/\s'.os=s₁.os/\AllBare s'.gens) s₁) :
  WalkO q loose XP YP l.row.toRowW d [] (fun f vs=>PySem.call f vs):=by
 intro w s₀ s₁ mg mb G Y fa o pm cd doc dV kV ho hd hcd hD hmg hg args vals as hpre hlay hrd hwl hlo
 obtain rfl:dV=.none:=Dflts.none hD hdf
 obtain rfl:kV=.none:=Dflts.noKw hD
 obtain⟨a,vs,ns,rfl,rfl,hobj,hints,hlen⟩:=Qm hn hpre hwl
 refine enter_call (codeAny_mono (call w s₀ s₁ mg mb fa o pm cd doc a vs ns G Y ho (fd_plain hd) hcd hmg hobj hints hlen hg) fun r s' hq=>?_)
 obtain⟨rfl,h2,h3,h4⟩:=hq
 exact⟨.inl ⟨.bool true,.bool true,[],rfl,fun _=>rfl,.bool true,P5 l _,fun _=>⟨List.Pairwise.nil,fun _ hm=>(nomatch hm)⟩⟩,h2,h3,h4⟩
section
variable{prog:Program}{w:World}{A:Around}{E:Value->Shared->Prop}{s:Shared}{K:Frag}
end
end Att
namespace L2
open PySem PySem.Spec PyProof.Rows
theorem Kk:∀{vs:List Value} {ns:List Int},IntsAre vs ns->Vals (ns.map V.int) vs
 |_,_,.nil=>.nil
 |_,_,.cons n t h=>.cons ⟨t,rfl⟩ (Kk h)
def Uq(H:Hp):Prop:=∀b,H b=none\/∃o xs,H b=some (.frz o (.lst xs))
theorem T5{P:Program}{w:World}{K:PySem.W.Frag}{mg mb:Str->Option Value}{CX:CXT}{k:Nat}{fa a:Addr}{fd:FuncData}{x:Str}{sp:Sp}{s₁:Shared}{vs:List Value}{ns:List Int}
  (KX:K.In s₁.heap) (hns:s₁.heap.Ns mainGlobals mg) (hb:s₁.heap.Ns builtinsNs mb) (hbb:∀x:Str,x≠"__name__"->mb x=bootBuiltins x) (hlim:s₁.heap.NoLimit) (hg:s₁.gens=#[])
  (ha:s₁.heap.get? a=some { cls:=.type "list",data:=.seq vs.toArray }) (hi:IntsAre vs ns) (hl:ns.length<=sizeLine) (hr:Room k callerA)
  (F:∀base:Heap,K.In base->base.Ns mainGlobals mg->FnOk P w K mg base CX k fa fd [x] sp) (hbind:∀(s:Shared) (u:Value),BindsTo s fd ⟨[u],[]⟩ [(x,u)])
  (hsp:∀H:Hp,Uq H->SqL K H a (ns.map V.int)->sp [.ref a] H (fun v _=>v=.bl true) fun _ _ _=>False)
  (hCX:∀H e s',CX [] H s₁ (fun _ _ _=>False) e s'->False) :
  codeAny (model P w) callerA (.call (.ref fa) ⟨[.ref a],[]⟩) (fun r s'=>r=.ok (.ret (.bool true))/\OldK s₁.heap s'.heap/\s'.os=s₁.os/\AllBare s'.gens) s₁:=by
 have rv:=Kk hi
 have lenV:=hi.length
 have core:∀H:Hp,Uq H->SqL K H a (ns.map V.int)->HOk P w H s₁.heap->(∀b,H b≠none->b=a)->(H a≠none->K.lookup a=none) →
   codeAny (model P w) callerA (.call (.ref fa) ⟨[.ref a],[]⟩) (fun r s'=>r=.ok (.ret (.bool true))/\OldK s₁.heap s'.heap/\s'.os=s₁.os/\AllBare s'.gens) s₁:=by
  intro H hO hS hok hA hK
  have base_of:∀{b:Addr} {o:Obj},s₁.heap.get? b=some o->H b=none->(Kq s₁.heap H).get? b=some o:=fun e n=>Th e n
  have noA:∀{b:Addr} {o:Obj} {es:Array DictEntry} {ep:Nat},s₁.heap.get? b=some o->o.data=.dict es ep->H b=none:=fun {b o es ep} e d=>by
   cases q:H b with
   |none=>rfl
   |some u =>
    have e':b=a:=hA b (by rw[q];simp)
    subst e'
    rw[ha] at e;cases e
    have d':Data.seq vs.toArray _=Data.dict es ep:=d
    cases d'
  have nsK:∀{b:Addr} {m:Str->Option Value},s₁.heap.Ns b m->(Kq s₁.heap H).Ns b m:=fun {b m} ⟨o,es,ep,e,d,r⟩=>⟨o,es,ep,base_of e (noA e d),d,r⟩
  have hKb:K.In (Kq s₁.heap H):=fun b o e=>base_of (KX b o e) (by
   cases q:H b with
   |none=>rfl
   |some u =>
    have e':b=a:=hA b (by rw[q];simp)
    subst e'
    rw[hK (by rw[q];simp)] at e;cases e)
  have hM:Mod K mg (Kq s₁.heap H):=⟨hKb,nsK hns,⟨mb,nsK hb,hbb⟩,let ⟨mc,h1,h2⟩:=hlim;⟨mc,nsK h1,h2⟩⟩
  have e0:Env0 P w K mg (Kq s₁.heap H) callerA [] s₁ H:=⟨rfl,hM,fun b o e=>U1 e,Nat.le_of_eq (Re _ _),trivial,fun b hb=>absurd (show b∈([]:List Addr) from hb) (by simp),hok,.of_eq hg⟩
  refine codeAny_mono ((F _ hKb (nsK hns)).run callerA [] s₁ H ⟨[.ref a],[]⟩ [.ref a] [.ref a] _ _ hr e0 (hbind s₁ (.ref a)) (.cons rfl .nil) (hsp H hO hS)) fun r s' h=>?_
  cases r with
  |error e=>exact(hCX H e s' h).elim
  |ok fl =>
   cases fl with
   |next=>exact False.elim h
   |brk=>exact False.elim h
   |cont=>exact False.elim h
   |ret u =>
    obtain⟨v,H',os,bare,un,hok',r',q⟩:=h
    have q':v=.bl true:=q
    subst q'
    obtain rfl:u=Value.bool true:=r'
    refine⟨rfl,OldK.of_keep fun b o e=>?_,os,bare⟩
    cases q:H b with
    |none=>exact un.keep b o e q (by intro z;exact absurd (show b∈([]:List Addr) from z) (by simp)) (by simp)
    |some u =>
     rcases hO b with z|⟨ob,xs,z⟩
     ·rw[q] at z;cases z
     ·have z2:=un.frzs b ob _ z
      obtain⟨e1,_⟩:=hok b _ z
      obtain⟨e2,_⟩:=hok' b _ z2
      rw[e] at e1;cases e1
      exact e2
 cases hk:K.lookup a with
 |some o =>
  have e:=KX a o hk
  rw[ha] at e
  cases e
  refine core (fun _=>none) (fun _=>.inl rfl) (.inr ⟨_,vs.toArray,_,hk,rfl,rfl,rfl,by rw[List.size_toArray,lenV];exact hl,by simpa using rv⟩) (fun b u z=>by have z':(none:Option HO)=some u:=z;cases z') (fun b z=>absurd rfl z) fun z=>absurd rfl z
 |none =>
  refine core (fun b=>if b=a then some (.frz { cls:=.type "list",data:=.seq vs.toArray } (.lst (ns.map V.int))) else none) (fun b=>?_) (.inl (.inr ⟨{ cls:=.type "list",data:=.seq vs.toArray },if_pos rfl⟩)) (fun b u z=>?_) (fun b z=>?_) fun _=>hk
  ·by_cases hb:b=a
   ·exact .inr ⟨_,_,if_pos hb⟩
   ·exact .inl (if_neg hb)
  ·by_cases hb:b=a
   ·have z':=(if_pos hb).symm.trans z
    cases z'
    subst hb
    exact⟨ha,by rw[List.length_map];exact hl,vs,_,rv,ha⟩
   ·have z':=(if_neg hb).symm.trans z
    cases z'
  ·by_cases hb:b=a
   ·exact hb
   ·exact absurd (if_neg hb) z
end L2
namespace L2
open PySem PySem.Spec PyProof.Rows
abbrev KOf{K:PySem.W.Frag}{h:Heap}(_:K.In h):PySem.W.Frag:=K
theorem W1{l:PySem.W.OpenLaw}{n k:Nat}{q:Program}{loose:List Str}{XP:(Str->Option Value)->Heap->Prop}{YP:World->Heap->Prop}{d:DefRec}{K:Params->PySem.W.Frag}{CX:World->CXT}{sp:World->Sp}{x:Str}
  (hn:l.most=some n) (hn2:n<=sizeLine) (hdf:d.params.defaults=[]) (hr:Room k callerA)
  (hY:∀(w:World) (h:Heap),YP w h->(K w.params).In h)
  (F:∀(w:World) (mg:Str->Option Value) (fa:Addr) (h:Heap),(K w.params).In h->h.Ns mainGlobals mg->mg d.name=some (.ref fa) →
   ∃fd:FuncData,(∀(s:Shared) (u:Value),BindsTo s fd ⟨[u],[]⟩ [(x,u)]) ∧
    ∀base:Heap,(K w.params).In base->base.Ns mainGlobals mg->FnOk l.prog w (K w.params) mg base (CX w) k fa fd [x] (sp w))
  (hsp:∀(w:World) (H:Hp) (a:Addr) (ns:List Int),ns.length<=n->Uq H->SqL (K w.params) H a (ns.map V.int)->sp w [.ref a] H (fun v _=>v=.bl true) fun _ _ _=>False)
  (hCX:∀(w:World) (H:Hp) (s:Shared) (e:Value) (s':Shared),CX w [] H s (fun _ _ _=>False) e s'->False) :
  PySem.W.WalkO q loose XP YP l.row.toRowW d [] (fun f vs=>PySem.call f vs):=by
 refine Att.attach_call hn hdf fun w s₀ s₁ mg mb fa o pm cd doc a vs ns G Y ho hd hcd hmg hobj hints hlen hg=>?_
 have KX:=hY w _ Y
 obtain⟨fd,hb,hF⟩:=F w mg fa _ KX G.T.g hmg
 exact T5 KX G.T.g G.T.b G.T.builtins G.T.nolimit hg hobj hints (Nat.le_trans hlen hn2) hr hF hb (fun H hO hS=>hsp w H a ns hlen hO hS) fun H e s'=>hCX w H s₁ e s'
theorem R9{l:PySem.W.OpenLaw}{n k:Nat}{q:Program}{loose:List Str}{XP:(Str->Option Value)->Heap->Prop}{YP:World->Heap->Prop}{d:DefRec}{K:Params->PySem.W.Frag}{CX:CXT}{sp:PySem.W.Frag->Sp}{x:Str}
  (hn:l.most=some n) (hn2:n<=sizeLine) (hdf:d.params.defaults=[]) (hr:Room k callerA)
  (hY:∀(w:World) (h:Heap),YP w h->(K w.params).In h)
  (F:∀(w:World) (mg:Str->Option Value) (fa:Addr) (h:Heap),(K w.params).In h->h.Ns mainGlobals mg->mg d.name=some (.ref fa) →
   ∃fd:FuncData,(∀(s:Shared) (u:Value),BindsTo s fd ⟨[u],[]⟩ [(x,u)]) ∧
    ∀base:Heap,(K w.params).In base->base.Ns mainGlobals mg->FnOk l.prog w (K w.params) mg base CX k fa fd [x] (sp (K w.params)))
  (hsp:∀(K:PySem.W.Frag) (H:Hp) (a:Addr) (ns:List Int),ns.length<=n->Uq H->SqL K H a (ns.map V.int)->sp K [.ref a] H (fun v _=>v=.bl true) fun _ _ _=>False)
  (hCX:∀(H:Hp) (s:Shared) (e:Value) (s':Shared),CX [] H s (fun _ _ _=>False) e s'->False) :
  PySem.W.WalkO q loose XP YP l.row.toRowW d [] (fun f vs=>PySem.call f vs) :=
 W1 (K:=K) (CX:=fun _=>CX) (sp:=fun w=>sp (K w.params)) hn hn2 hdf hr hY F (fun w H a ns h1 h2 h3=>hsp (K w.params) H a ns h1 h2 h3) fun _ H s e s'=>hCX H s e s'
end L2
namespace L2
open PySem PySem.Spec PyProof.Rows
def Ek(s:Stmt):Arguments:=match s with
 | .FunctionDef _ a _ _ _ _ _ _ _ _=>a
 |_=>{ posonlyargs:=[],args:=[],vararg:=none,kwonlyargs:=[],kw_defaults:=[],kwarg:=none,defaults:=[] }
def defBody(s:Stmt):List Stmt:=match s with
 | .FunctionDef _ _ b _ _ _ _ _ _ _=>b
 |_=>[]
def Zb(s:Stmt):Scope:=match s with
 | .FunctionDef _ _ _ _ _ _ sc _ _ _=>sc
 |_=>{ kind:=.function,names:=[],isGenerator:=false,isCoroutine:=false }
abbrev CX0:CXT:=fun _ _ _ _ _ _=>False
abbrev E0:XK:=fun _ _ _=>False
theorem pass0{X:Cx}:Gn CX0 X E0:=fun _ _ _ _ _ _ _ h=>h.elim
structure Fun(K:PySem.W.Frag)(x qual:Str)(st:Stmt)(f:Addr)(fd:FuncData):Prop where
 ex:∃(oc:Value) (od:Option Addr) (kV doc pm:Value) (an:Option Addr) (cdv ct:Value) (osl:Array (Option Value)),
  fd=PySem.W.fnOf x qual (Ek st) (defBody st) (Zb st) .none kV doc pm an cdv ct/\K.lookup f=some ⟨oc,od,.func fd,osl⟩/\PySem.W.codeIn K cdv qual=true
 kp:PySem.W.keepIn K (.ref f)=true
section
variable{P:Program}{w:World}{K:PySem.W.Frag}{mg:Str->Option Value}{base:Heap}
theorem Fun.ok{x qual:Str}{st:Stmt}{f:Addr}{fd:FuncData}{N ps:List Str}{k:Nat}{sp:Sp}(F:Fun K x qual st f fd)(S:Zv N ps (Zb st))(len:∀vs H Q E,sp vs H Q E->vs.length=ps.length)
  (hbody:∀(cdv:Value) (A:Around) (outer:List Env) (s:Shared) (H:Hp) (vs:List V) (Q:VK) (E:XK),Room k (A.deeper (envOfC qual (Zb st) s.heap.objs.size f cdv))->sp vs H Q E →
   ∃t,PSs (cxOf CX0 P w K mg base N qual (Zb st) f cdv A outer s H E).nox (defBody st) t/\t { nx:=fun _ H'=>Q .non H',rt:=Q } (D2 N vs) H):FnOk P w K mg base CX0 (k+1) f fd ps sp:=by
 obtain⟨oc,od,kV,doc,pm,an,cdv,ct,osl,rfl,lk,hcd⟩:=F.ex
 refine X2 lk hcd S len fun A outer s H vs Q E hr hsp=>?_
 obtain⟨t,h,q⟩:=hbody cdv A outer s H vs Q E hr hsp
 exact⟨t,h.nox,q⟩
theorem Fun.binds{x qual:Str}{st:Stmt}{f:Addr}{fd:FuncData}{ps:List Str}(F:Fun K x qual st f fd)
  (h:∀(kV doc pm:Value) (an:Option Addr) (cdv ct:Value) (us:List Value),us.length=ps.length->bindArgs (PySem.W.fnOf x qual (Ek st) (defBody st) (Zb st) .none kV doc pm an cdv ct) ⟨us,[]⟩=pure (ps.zip us)):Binds K fd ps []:=by
 obtain⟨oc,od,kV,doc,pm,an,cdv,ct,osl,rfl,lk,hcd⟩:=F.ex
 exact .all (h kV doc pm an cdv ct)
theorem R3{x qual:Str}{st:Stmt}{f:Addr}{oc:Value}{od an:Option Addr}{osl:Array (Option Value)}{kV doc pm cdv ct:Value}(l:K.lookup f=some ⟨oc,od,.func (PySem.W.fnOf x qual (Ek st) (defBody st) (Zb st) .none kV doc pm an cdv ct),osl⟩)
  (c:PySem.W.codeIn K cdv qual=true) (k:PySem.W.keepIn K (.ref f)=true):Fun K x qual st f (PySem.W.fnOf x qual (Ek st) (defBody st) (Zb st) .none kV doc pm an cdv ct):=⟨⟨oc,od,kV,doc,pm,an,cdv,ct,osl,rfl,l,c⟩,k⟩
end
theorem hu_of{A:Around}{k:Nat}(hr:Room k A):A.units+1<cLine:=Nat.lt_of_le_of_lt (Nat.add_le_add_left (by decide:1<=64) _) hr.units
theorem Xo{n:Nat}(h:n<=1000):n<sizeLine:=Nat.lt_of_le_of_lt h (by decide)
end L2
namespace L2
open PySem PySem.Spec PyProof.Rows
section
variable{κ:Type}[DecidableEq κ]
theorem Pb:∀{l:List κ} {k:κ},l.Nodup->¬ k∈l->(l++[k]).Nodup
 |[],k,_,_=>by simp
 |a::r,k,h,hk=>by
  obtain⟨h1,h2⟩:=List.nodup_cons.mp h
  show (a::(r++[k])).Nodup
  refine List.nodup_cons.mpr ⟨fun m=>?_,Pb h2 fun m=>hk (List.mem_cons.mpr (Or.inr m))⟩
  rcases List.mem_append.mp m with q|q
  ·exact h1 q
  ·exact hk (List.mem_cons.mpr (Or.inl (List.mem_singleton.mp q).symm))
end
end L2
end
end
section
namespace L2
open PySem PySem.Spec PyProof.Rows
def clOf(names:List (Str×NameKind))(cells:List (Str×Addr))(acc:List (Str×Addr)):List (Str×Addr) :=
 match names with
 |[]=>acc
 |(n,k)::r=>clOf r cells (if k==.free then (n,(cells.lookup n).getD 0)::acc else acc)
def Xl(X:Cx)(N:List Str)(scope:Scope)(C:Addr)(s:Shared)(H:Hp)(fp:List Addr)(pins:List (Addr×Obj)):Cx where
 prog:=X.prog
 w:=X.w
 K:=X.K
 mg:=X.mg
 base:=X.base
 A:=X.A
 N:=N
 s₀:=s
 H₀:=H
 env:=compEnvC scope (clOf scope.names X.env.cells []) C X.env
 outer:=X.stack
 stack:=X.stack
 ex:=fp
 fn:=fun _=>false
 calm:=X.calm
 pn:=X.pn++pins
 xe:=fun _ _=>False
def scopeOk(on:List (Str×NameKind))(cn:List (Str×NameKind)):Bool :=
 cn.all fun y=>y.2 != .cell&&(y.2 != .free || (on.lookup y.1==some .cell || on.lookup y.1==some .free))&&(y.2 != .local || cn.lookup y.1==some .local)&&(y.2 != .free || cn.lookup y.1==some .free)
def D7(XN:List Str)(cn:List (Str×NameKind))(N:List Str)(pick:List (Option Nat)):Bool :=
 N.length==pick.length&&(N.zip pick).all fun y=>match y.2 with
  |none=>true
  |some j=>XN[j]?==some y.1&&cn.lookup y.1==some .free
def Xq(pick:List (Option Nat))(σ:St):St:=pick.map fun o=>match o with
 |none=>none
 |some j=>match σ[j]? with
  |some (some v)=>some v
  |_=>none
theorem Li{k l:NameKind}(h:(k != l)=true):k≠l:=by
 intro e;subst e;cases k <;> cases h
theorem He{k l:NameKind}(h:(k==l)=true):k=l:=by
 cases k <;> cases l <;> first|rfl|cases h
theorem Ft{k:Option NameKind}{l:NameKind}(h:(k==some l)=true):k=some l:=by
 cases k with
 |none=>cases h
 |some k=>exact congrArg some (He h)
section
variable{on cn:List (Str×NameKind)}
theorem scopeOk.cell(h:scopeOk on cn=true):∀y∈cn,y.2≠.cell:=fun y hy=>by
 have q:=List.all_eq_true.mp h y hy
 simp only[Bool.and_eq_true] at q
 exact Li q.1.1.1
theorem scopeOk.out(h:scopeOk on cn=true):∀y∈cn,y.2=.free->on.lookup y.1=some .cell\/on.lookup y.1=some .free:=fun y hy e=>by
 have q:=List.all_eq_true.mp h y hy
 simp only[Bool.and_eq_true,Bool.or_eq_true] at q
 rcases q.1.1.2 with z|z
 ·exact absurd e (Li z)
 ·rcases z with z|z
  ·exact .inl (Ft z)
  ·exact .inr (Ft z)
theorem scopeOk.loc(h:scopeOk on cn=true):∀y∈cn,y.2=.local->cn.lookup y.1=some .local:=fun y hy e=>by
 have q:=List.all_eq_true.mp h y hy
 simp only[Bool.and_eq_true,Bool.or_eq_true] at q
 rcases q.1.2 with z|z
 ·exact absurd e (Li z)
 ·exact Ft z
end
theorem Ff{cells:List (Str×Addr)}{x:Str}{c:Addr}:∀{names:List (Str×NameKind)} {acc:List (Str×Addr)},(∀y∈names,y.2=NameKind.free->(cells.lookup y.1).isSome=true) →
  (acc.lookup x=some c->cells.lookup x=some c)->(clOf names cells acc).lookup x=some c->cells.lookup x=some c
 |[],acc,_,ha,h=>ha h
 |(n,k)::r,acc,hf,ha,h=>by
  refine Ff (names:=r) (fun y hy e=>hf y (List.mem_cons_of_mem _ hy) e) ?_ h
  intro h'
  by_cases hk:(k==NameKind.free)=true
  ·rw[if_pos hk,List.lookup_cons] at h'
   cases e:(x==n) with
   |true =>
    rw[e] at h'
    have en:x=n:=by simpa using e
    subst en
    have q:=hf (x,k) List.mem_cons_self (He hk)
    obtain⟨d,hd⟩:=Option.isSome_iff_exists.mp q
    have hd':cells.lookup x=some d:=hd
    rw[hd'] at h' ⊢
    exact h'
   |false =>
    rw[e] at h'
    exact ha h'
  ·rw[if_neg hk] at h'
   exact ha h'
theorem Ie{cells:List (Str×Addr)}{x:Str}:∀{names:List (Str×NameKind)} {acc:List (Str×Addr)},((acc.lookup x).isSome=true\/∃y∈names,y.1=x/\y.2=NameKind.free)->((clOf names cells acc).lookup x).isSome=true
 |[],acc,h=>by
  rcases h with h|⟨y,hy,_⟩
  ·exact h
  ·cases hy
 |(n,k)::r,acc,h=>by
  refine Ie (names:=r) ?_
  by_cases hk:(k==NameKind.free)=true
  ·rw[if_pos hk,List.lookup_cons]
   rcases h with h|⟨y,hy,e1,e2⟩
   ·cases e:(x==n) with
    |true=>exact .inl rfl
    |false=>exact .inl h
   ·rcases List.mem_cons.mp hy with z|z
    ·subst z
     have:(x==n)=true:=by simpa using e1.symm
     rw[this]
     exact .inl rfl
    ·exact .inr ⟨y,z,e1,e2⟩
  ·rw[if_neg hk]
   rcases h with h|⟨y,hy,e1,e2⟩
   ·exact .inl h
   ·rcases List.mem_cons.mp hy with z|z
    ·subst z
     exfalso
     apply hk
     have e2':k=NameKind.free:=e2
     rw[e2']
     rfl
    ·exact .inr ⟨y,z,e1,e2⟩
structure Relab(f:Str×NameKind->Str×NameKind):Prop where
 nm:∀y,(f y).1=y.1
 kd:∀y,(f y).2=y.2\/(y.2=.free/\(f y).2=.cell)
theorem Relab.lookup{f:Str×NameKind->Str×NameKind}(R:Relab f){x:Str}:∀names:List (Str×NameKind),(names.map f).lookup x=names.lookup x\/(names.lookup x=some .free/\(names.map f).lookup x=some .cell)
 |[]=>.inl rfl
 |y::r=>by
  obtain⟨n,k⟩:=y
  have h1:=R.nm (n,k)
  have h2:=R.kd (n,k)
  rw[List.map_cons]
  generalize f (n,k)=z at h1 h2
  obtain⟨n',k'⟩:=z
  have h1:n'=n:=h1
  have h2:k'=k\/(k=.free/\k'=.cell):=h2
  subst h1
  rw[List.lookup_cons,List.lookup_cons]
  cases e:(x==n') with
  |true =>
   rcases h2 with h2|⟨h2,h3⟩
   ·subst h2;exact .inl rfl
   ·subst h2;subst h3;exact .inr ⟨rfl,rfl⟩
  |false=>exact R.lookup r
theorem relab(env:Env):Relab (fun y:Str×NameKind=>if (y.2==NameKind.free&&env.scope.kind==.function&&env.kindOf y.1==some .cell)=true then (y.1,NameKind.cell) else (y.1,y.2)) where
 nm:=fun y=>by
  by_cases h:(y.2==NameKind.free&&env.scope.kind==.function&&env.kindOf y.1==some .cell)=true
  ·rw[if_pos h]
  ·rw[if_neg h]
 kd:=fun y=>by
  by_cases h:(y.2==NameKind.free&&env.scope.kind==.function&&env.kindOf y.1==some .cell)=true
  ·rw[if_pos h]
   simp only[Bool.and_eq_true] at h
   exact .inr ⟨He h.1.1,rfl⟩
  ·rw[if_neg h]
   exact .inl rfl
theorem Eu(scope:Scope)(env:Env):(relabel scope env).names=scope.names.map (fun y:Str×NameKind=>if (y.2==NameKind.free&&env.scope.kind==.function&&env.kindOf y.1==some .cell)=true then (y.1,NameKind.cell) else (y.1,y.2)):=rfl
theorem relabel_lookup{scope:Scope}{env:Env}{x:Str}{k:NameKind}(h:(relabel scope env).names.lookup x=some k):
  scope.names.lookup x=some k\/(k=.cell/\scope.names.lookup x=some .free):=by
 rw[Eu] at h
 rcases(relab env).lookup (x:=x) scope.names with q|⟨q1,q2⟩
 ·rw[q] at h;exact .inl h
 ·rw[q2] at h;cases h;exact .inr ⟨rfl,q1⟩
theorem K6{scope:Scope}{env:Env}{x:Str}(h:scope.names.lookup x=some .free):(relabel scope env).names.lookup x=some .cell\/(relabel scope env).names.lookup x=some .free:=by
 rw[Eu]
 rcases(relab env).lookup (x:=x) scope.names with q|⟨q1,q2⟩
 ·rw[q];exact .inr h
 ·exact .inl q2
end L2
end
section
namespace L2
open PySem PySem.Spec PyProof.Rows
theorem E6(env:Env):∀(names:List (Str×NameKind)) (acc:List (Str×Addr)),(∀y∈names,y.2=NameKind.free->(env.cells.lookup y.1).isSome=true) →
  (forIn names acc (fun (x:Str×NameKind) (cs:List (Str×Addr))=>if (x.2==NameKind.free)=true then (do let a ← cellOf env x.1;pure (ForInStep.yield ((x.1,a)::cs))) else pure (ForInStep.yield cs)):Sem (List (Str×Addr)))=pure (clOf names env.cells acc)
 |[],acc,_=>rfl
 |(n,k)::r,acc,h=>by
  rw[List.forIn_cons]
  by_cases hk:(k==NameKind.free)=true
  ·obtain⟨c,hc⟩:=Option.isSome_iff_exists.mp (h (n,k) List.mem_cons_self (He hk))
   have hc':env.cells.lookup n=some c:=hc
   have e:cellOf env n=pure c:=by unfold cellOf;rw[hc']
   simp only[hk,if_true]
   rw[e]
   have ih:=E6 env r ((n,c)::acc) fun y hy z=>h y (List.mem_cons_of_mem _ hy) z
   have e2:clOf ((n,k)::r) env.cells acc=clOf r env.cells ((n,c)::acc):=by
    show clOf r env.cells (if (k==NameKind.free)=true then (n,(env.cells.lookup n).getD 0)::acc else acc)=_
    rw[if_pos hk,hc']
    rfl
   rw[e2,<-ih]
   rfl
  ·have hk':(k==NameKind.free)=false:=by cases q:(k==NameKind.free) with
    |true=>exact absurd q hk
    |false=>rfl
   simp only[hk']
   have ih:=E6 env r acc fun y hy z=>h y (List.mem_cons_of_mem _ hy) z
   have e2:clOf ((n,k)::r) env.cells acc=clOf r env.cells acc:=by
    show clOf r env.cells (if (k==NameKind.free)=true then (n,(env.cells.lookup n).getD 0)::acc else acc)=_
    rw[if_neg hk]
   rw[e2,<-ih]
   rfl
theorem Jk{scope:Scope}{env:Env}(h:∀y∈scope.names,y.2=NameKind.free->(env.cells.lookup y.1).isSome=true):closureFor scope env=pure (clOf scope.names env.cells []):=by
 have e:=E6 env scope.names [] h
 have b:closureFor scope env=((forIn scope.names ([]:List (Str×Addr)) (fun (x:Str×NameKind) (cs:List (Str×Addr))=>if (x.2==NameKind.free)=true then (do let a ← cellOf env x.1;pure (ForInStep.yield ((x.1,a)::cs))) else pure (ForInStep.yield cs)):Sem (List (Str×Addr))) >>= fun r=>pure r):=rfl
 rw[b,e]
 rfl
section
variable{X:Cx}{pins:List (Addr×Obj)}{σ:St}{H:Hp}{s:Shared}
theorem Fp(I:Inv X pins σ H s){scope:Scope}(hs:scopeOk X.env.scope.names scope.names=true):∀y∈scope.names,y.2=NameKind.free->(X.env.cells.lookup y.1).isSome=true:=fun y hy e=>by
 obtain⟨c,hc⟩:=I.ok.has y.1 (scopeOk.out hs y hy e)
 rw[hc];rfl
theorem R7(I:Inv X pins σ H s){N:List Str}{scope:Scope}{pick:List (Option Nat)}{fp:List Addr}{C D:Addr}{h₁:Heap}{tk:Nat}{ob:Obj}
  (hs:scopeOk X.env.scope.names scope.names=true) (hp:D7 X.N scope.names N pick=true) (hk:scope.kind=.function)
  (hf:∀b∈fp,FpOk X pins H b) (ho:∀b∈fp,∃o,s.heap.get? b=some o/\∀v,o.data≠.cell v)
  (hC:s.heap.objs.size<=C) (hD:s.heap.objs.size<=D) (hDC:D≠C) (keep:∀b o,s.heap.get? b=some o->h₁.get? b=some o)
  (ns:h₁.Ns C fun _=>none) (hl:h₁.get? D=some ob) (hob:∀v,ob.data≠.cell v) :
  Inv (Xl X N scope C s H fp pins) [(D,ob)] (Xq pick σ) H { s with heap:=h₁,toks:=tk }:=by
 have cells:=Fp I hs
 have sub:∀x c,(clOf scope.names X.env.cells []).lookup x=some c->X.env.cells.lookup x=some c:=fun x c e=>Ff cells (fun z=>by cases z) e
 have lt:∀{b o},s.heap.get? b=some o->b<s.heap.objs.size:=fun e=>Heap.lt_size e
 simp only[D7,Bool.and_eq_true] at hp
 obtain⟨hpl,hpa⟩:=hp
 have hpl:N.length=pick.length:=by simpa using hpl
 have ok:(Xl X N scope C s H fp pins).Ok:=by
  refine⟨I.ok.mod,hk,I.ok.glob,I.ok.blt,hC,fun x y c e1 e2=>I.ok.inj x y c (sub x c e1) (sub y c e2),fun x hx=>?_,fun x c e _=>?_,I.ok.hd,I.ok.frames,.inl rfl,fun b hb=>⟨?_,fun x c e=>?_⟩,I.bs,Nat.le_trans I.ok.bsz I.sz,fun b o e hb=>?_,fun b hb hb'=>?_,I.stack,I.stkFree⟩
  ·have hfree:scope.names.lookup x=some .free:=by
    rcases hx with z|z
    ·rcases relabel_lookup z with q|⟨_,q⟩
     ·exact absurd rfl (scopeOk.cell hs _ (PySem.mem_of_lookup q))
     ·exact q
    ·rcases relabel_lookup z with q|⟨q,_⟩
     ·exact q
     ·cases q
   exact Option.isSome_iff_exists.mp (Ie (.inr ⟨_,PySem.mem_of_lookup hfree,rfl,rfl⟩))
  ·cases e
  ·obtain⟨o,e,_⟩:=ho b hb
   exact Nat.ne_of_lt (Nat.lt_of_lt_of_le (lt e) hC)
  ·exact(hf b hb).2.2.2.2.1 x c (sub x c e)
  ·rcases(hf b hb).2.2.2.1 with z|z
   ·exact I.ok.noex b o e z
   ·exact absurd (Nat.lt_of_lt_of_le (Heap.lt_size (I.ok.bs b o e).1) z) (Nat.lt_irrefl _)
  ·rcases List.mem_cons.mp (I.stkSub b hb') with z|z
   ·exact(hf b hb).2.1 z
   ·exact(hf b hb).2.2.1 z
 have fresh:∀{a:Addr},s.heap.objs.size<=a->H a=none:=fun h=>I.hok.fresh h
 have nst:∀{a:Addr},s.heap.objs.size<=a->a ∉ frs X.stack:=fun {a} h hb=>by
  rcases List.mem_cons.mp (I.stkSub _ hb) with z|z
  ·rw[z] at h
   exact absurd (Nat.lt_of_lt_of_le I.lt h) (Nat.lt_irrefl _)
  ·exact I.nofs h z
 refine⟨ok,rfl,I.bare,Un.kept keep,⟨_,ns,fun i x v e1 e2 e3=>?_⟩,fun x c e=>?_,fresh hC,fun x c e=>I.freeC x c (sub x c e),fun p hp=>?_,I.hok.kept keep,?_⟩
 ·-- a free name's value is the cell's
  have e2:(Xq pick σ)[i]?=some (some v):=e2
  have e1:N[i]?=some x:=e1
  unfold Xq at e2
  rw[List.getElem?_map] at e2
  cases ep:pick[i]? with
  |none=>rw[ep] at e2;cases e2
  |some o =>
   rw[ep] at e2
   cases o with
   |none=>cases e2
   |some j =>
    have hz:(x,some j)∈N.zip pick:=by
     have:=List.getElem?_zip_eq_some (l₁:=N) (l₂:=pick) (i:=i) (z:=(x,some j))
     exact List.mem_of_getElem? (this.mpr ⟨e1,ep⟩)
    have q:=List.all_eq_true.mp hpa _ hz
    simp only[Bool.and_eq_true] at q
    have qN:X.N[j]?=some x:=by simpa using q.1
    have qF:scope.names.lookup x=some .free:=Ft q.2
    have eσ:σ[j]?=some (some v):=by
     cases eo:σ[j]? with
     |none=>simp only[eo,Option.map_some,Option.some.injEq] at e2;cases e2
     |some ov =>
      cases ov with
      |none=>simp only[eo,Option.map_some,Option.some.injEq] at e2;cases e2
      |some v'=>simp only[eo,Option.map_some,Option.some.injEq] at e2;rw[e2]
    have ok':=scopeOk.out hs _ (PySem.mem_of_lookup qF) rfl
    obtain⟨m,hn,hl'⟩:=I.loc
    obtain⟨u,r,l⟩:=hl' j x v qN eσ (.inr ok')
    refine⟨u,r,?_⟩
    rcases l with⟨k,_⟩|⟨k,c,hc,hcell⟩
    ·have k':X.env.scope.names.lookup x=some .local:=k
     rcases ok' with z|z
     ·rw[z] at k';cases k'
     ·rw[z] at k';cases k'
    ·obtain⟨c',hc'⟩:=Option.isSome_iff_exists.mp (Ie (cells:=X.env.cells) (x:=x) (acc:=[]) (.inr ⟨_,PySem.mem_of_lookup qF,rfl,rfl⟩))
     have e':=sub x c' hc'
     rw[hc] at e';cases e'
     obtain⟨o,ho',hd'⟩:=hcell
     exact .inr ⟨K6 qF,c,hc',⟨o,keep c o ho',hd'⟩⟩
 ·obtain⟨v,o,ho',hd'⟩:=I.cell x c (sub x c e)
  exact⟨v,o,keep c o ho',hd'⟩
 ·have hp:p∈(X.pn++pins)++[(D,ob)]:=hp
  rcases List.mem_append.mp hp with z|z
  ·obtain⟨a1,a2,a3,a4,a5⟩:=I.pin p z
   refine⟨keep _ _ a1,a2,Nat.ne_of_lt (Nat.lt_of_lt_of_le (lt a1) hC),fun hb=>?_,a5⟩
   rcases List.mem_cons.mp (I.stkSub _ hb) with y|y
   ·exact a3 y
   ·exact a4 y
  ·have z:p=(D,ob):=List.mem_singleton.mp z
   subst z
   exact⟨hl,fresh hD,hDC,nst hD,hob⟩
 ·show (Xq pick σ).length=N.length
  unfold Xq
  rw[List.length_map,hpl]
end
theorem N0{prog:Program}{w:World}{A:Around}{R:Result->Shared->Prop}{s:Shared}{elt tg iter:Expr}{ifs:List Expr}{scope:Scope}{pos:Pos}{it acc:Value}{env:Env}(J:Nat->Shared->Prop)
  (turn:∀n s,J n s->wpAny (model prog w) A (pyNext it) (fun r s₁=>match r with
   |none=>R (.ok .next) s₁
   |some v=>wpAny (model prog w) A (letOwnedTupleGo tg it v) (fun _ s₂=>wpAny (model prog w) A (assign tg env v) (fun _ s₃ =>
     wpAny (model prog w) A (forIn ifs true fun c r=>if r=true then do let ok ← isTrue c env (eval c env);pure (ForInStep.yield ok) else pure (ForInStep.yield r)) (fun ok s₄ =>
      if ok=true then wpAny (model prog w) A (eval elt env) (fun x s₅=>wpAny (model prog w) A (call (.builtin "list.append") [acc,x]) (fun _ s₆=>∃m,m<n/\J m s₆) (fun _ _=>False) s₅) (fun _ _=>False) s₄
      else ∃m,m<n/\J m s₄) (fun _ _=>False) s₃) (fun _ _=>False) s₂) (fun _ _=>False) s₁) (fun _ _=>False) s)
  (n:Nat) (h:J n s):codeAny (model prog w) A (.compLoop (.ListComp elt [⟨tg,iter,ifs,0⟩] scope pos) 0 it acc env) R s:=by
 have no:∀{E:Value->Shared->Prop} (x:Value) (s':Shared),False->E x s':=fun _ _ z=>z.elim
 refine codeAny_loop rfl J (fun k s' hJ=>?_) n h
 show wpAny (model prog w) A ((compTurn (.ListComp elt [⟨tg,iter,ifs,0⟩] scope pos) 0 it acc env).onRaise (fun e=>do noteFrame e env;theTreesLotGoes e)) _ _ s'
 refine wpAny_noted ?_
 rw[compTurn_list]
 refine wpAny_bind (wpAny_standAt (wpAny_bind (wpAny_mono (turn k s' hJ) (fun r s₁ h₁=>?_) no)))
 cases r with
 |none=>exact wpAny_pure h₁
 |some v =>
  refine wpAny_bind (wpAny_mono h₁ (fun _ s₂ h₂=>?_) no)
  refine wpAny_bind (wpAny_mono h₂ (fun _ s₃ h₃=>?_) no)
  refine wpAny_bind (wpAny_mono h₃ (fun ok s₄ h₄=>?_) no)
  cases ok with
  |true =>
   simp only[if_true] at h₄ ⊢
   exact wpAny_bind (wpAny_bind (wpAny_mono h₄ (fun x s₅ h₅=>wpAny_bind (wpAny_mono h₅ (fun _ s₆ h₆=>wpAny_pure (wpAny_pure ⟨rfl,h₆⟩)) no)) no))
  |false =>
   simp only[Bool.false_eq_true,if_false] at h₄ ⊢
   exact wpAny_bind (wpAny_pure (wpAny_pure ⟨rfl,h₄⟩))
theorem HOk.track{P:Program}{w:World}{H:Hp}{h:Heap}{a:Addr}{o:HO}(x:HOk P w H h)(hn:H a=none)(new:ObjOk P w (upd H a o) h a o):HOk P w (upd H a o) h:=fun b u e=>by
 by_cases hb:b=a
 ·subst hb;rw[Br] at e;cases e;exact new
 ·rw[Xc hb] at e
  exact(x b u e).stay (fun c v _ q=>q) (fun c q=>by rw[Xc (Xa q hn)];exact q) fun c xs q=>by rw[Xc (Xa q hn)];exact q
end L2
end
section
namespace L2
open PySem PySem.Spec PyProof.Rows
def PTs(X:Cx)(ifs:List Expr)(t:TT):Prop :=
 ∀(pins:List (Addr×Obj)) (s:Shared) (σ:St) (H:Hp) (Q:Bool->Hp->Prop),Inv X pins σ H s->t σ H Q →
  wpAny (model X.prog X.w) X.A (forIn ifs true fun c r=>if r=true then do let ok ← isTrue c X.env (eval c X.env);pure (ForInStep.yield ok) else pure (ForInStep.yield r)) (TP X pins σ Q) X.xe s
def tYes:TT:=fun _ H Q=>Q true H
theorem Wo{X:Cx}:PTs X [] tYes:=fun _ _ _ H _ I h=>wpAny_tests_nil ⟨H,I,h⟩
theorem Wv{X:Cx}{c:Expr}{t:TT}(h:PT X c t):PTs X [c] t:=fun pins s σ H Q I q=>wpAny_tests_one (h pins s σ H Q I q)
def Keep(σ σ':St):Prop:=σ'.length=σ.length/\∀(i:Nat) v,σ[i]?=some (some v)->σ'[i]?=some (some v)
def On(pick:List (Option Nat))(wi:TI)(g:TG)(tc:TT)(te:TE):TE:=fun σ H Q=>wi σ H fun J H1=>∃W:Nat->Nat->List V->Hp->Prop,(∃m,W 0 m [] H1)/\∀i m acc H,W i m acc H →
 (J.stop i H/\acc.length<=sizeLine/\∀p,H p=none->Q (.ref p) (upd H p (.lst acc))) ∨
 (J.go i H/\acc.length<sizeLine/\∃Nx:List V->Hp->Prop,(∀acc' H',Nx acc' H'->∃m',m'<m/\W (i+1) m' acc' H') ∧
  ∀x H',J.yld i H x H'->g x (Xq pick σ) H' fun σ2 H2=>Keep (Xq pick σ) σ2/\tc σ2 H2 fun b H3=>if b=true then te σ2 H3 fun y H4=>Nx (acc++[y]) H4 else Nx acc H3)
theorem Lx{X:Cx}{N:List Str}{pick:List (Option Nat)}{elt tg iter:Expr}{ifs:List Expr}{scope:Scope}{pos p0:Pos}{wi:TI}{g:TG}{tc:TT}{te:TE}{use:Option (Value->Sem Unit)}{Q':Value->Shared->Prop}{pins:List (Addr×Obj)}{s:Shared}{σ:St}{H:Hp}{Q:VK}(hc:X.calm=true)
  (hs:scopeOk X.env.scope.names scope.names=true) (hp:D7 X.N scope.names N pick=true) (hk:scope.kind=.function) (hi:PI X tg iter wi)
  (hg:∀C s H fp pins,PG (Xl X N scope C s H fp pins) tg g) (ht:∀C s H fp pins,PTs (Xl X N scope C s H fp pins) ifs tc) (he:∀C s H fp pins,PE (Xl X N scope C s H fp pins) elt te)
  (hfs:∀x,foldedSetIterable iter X.env x=pure x) (I:Inv X pins σ H s) (h:On pick wi g tc te σ H Q)
  (fin:∀(D C:Addr) (Hx:Hp) (s4:Shared),(∃m,s4.heap.Ns C m)->(∀h',Heap.SameBut C s4.heap h'->Inv X pins σ Hx { s4 with heap:=h' })->Hx C=none->C≠X.env.locals->X.s₀.heap.objs.size<=C->(∀x c,X.env.cells.lookup x=some c->c≠C)->(∀p∈X.pn++pins,p.1≠C)->Q (.ref D) Hx →
   compPost (model X.prog X.w) X.A X.xe use Q' (.ref D) C (.ok .next) s4) :
  wpAny (model X.prog X.w) X.A (comprehension (.ListComp elt [⟨tg,iter,ifs,0⟩] scope pos) scope X.env p0 (newList []) false (eval iter X.env) use) Q' X.xe s:=by
 have no:∀{E:Value->Shared->Prop} (x:Value) (s':Shared),False->E x s':=fun _ _ z=>z.elim
 refine wpAny_comprehension_free rfl hfs (Jk (Fp I hs)) hk (scopeOk.loc hs) (thn (hi pins s σ H _ I h) fun v s1 h1=>thn h1 fun itv s2 h2=>?_)
 obtain⟨it,fp,tn,J,H2,e,I2,Tn,st2,f2,W,⟨m0,w0⟩,turn⟩:=h2
 subst e
 refine wpAny_newObj_type (wpAny_newFunctionEnv (scopeOk.cell hs) (by intro y hy;simp at hy) (fun h₁ hns hsb=>?_) hk)
 dsimp only at hns hsb ⊢
 generalize hG:s2.heap.push { cls:=.type "list",dict:=none,data:=.seq ([]:List Value).toArray }=G at hns hsb ⊢
 have hC:G.objs.size=s2.heap.objs.size+1:=by rw[<-hG,Heap.size_push]
 have hDC:s2.heap.objs.size≠G.objs.size:=by rw[hC];exact Nat.ne_of_lt (Nat.lt_succ_self _)
 have hCl:s2.heap.objs.size<=G.objs.size:=by rw[hC];exact Nat.le_succ _
 have low:∀{b o},s2.heap.get? b=some o->b≠G.objs.size:=fun e=>by rw[hC];exact Nat.ne_of_lt (Nat.lt_succ_of_lt (Heap.lt_size e))
 have low2:∀{b o},s2.heap.get? b=some o->b≠s2.heap.objs.size:=fun e=>Nat.ne_of_lt (Heap.lt_size e)
 have old:∀b o,s2.heap.get? b=some o->h₁.get? b=some o:=fun b o e=>hsb.extBut b o (low e) (Heap.get?_push_of_some _ (hG ▸ Heap.get?_push_of_some _ e))
 have hD:h₁.get? s2.heap.objs.size=some { cls:=.type "list",data:=.seq ([]:List Value).toArray }:=hsb.extBut _ _ hDC (Heap.get?_push_of_some _ (hG ▸ Heap.get?_push_size _ rfl))
 have I3:Inv (Xl X N scope G.objs.size s2 H2 fp pins) [(s2.heap.objs.size,{ cls:=.type "list",data:=.seq ([]:List Value).toArray })] (Xq pick σ) H2 { s2 with heap:=h₁,toks:=s2.toks+([]:List (Str×Value)).length } :=
  R7 I2 hs hp hk f2 (Tn.obj 0 _ st2) hCl (Nat.le_refl _) hDC old hns hD (fun v z=>by cases z)
 have cellLt:∀x c,(clOf scope.names X.env.cells []).lookup x=some c->c<s2.heap.objs.size:=fun x c e=>by
  obtain⟨v,q⟩:=I2.cell x c (Ff (Fp I2 hs) (fun z=>by cases z) e)
  exact q.lt
 have fpLt:∀b∈fp,b<s2.heap.objs.size:=fun b hb=>by
  obtain⟨o,e,_⟩:=Tn.obj 0 _ st2 b hb
  exact Heap.lt_size e
 have pinLt:∀p∈X.pn++pins,p.1<s2.heap.objs.size:=fun p hp'=>Heap.lt_size (I2.pin p hp').1
 have stat:∀{H':Hp} {ob:Obj},(∀b∈fp,H' b=none)->∀b∈fp,FpOk (Xl X N scope G.objs.size s2 H2 fp pins) [(s2.heap.objs.size,ob)] H' b:=fun {H' ob} hn b hb=>by
  refine⟨hn b hb,?_,fun z=>?_,.inl hb,fun x c e=>?_,fun p hp'=>?_⟩
  ·show b≠G.objs.size
   rw[hC];exact Nat.ne_of_lt (Nat.lt_succ_of_lt (fpLt b hb))
  ·have z:b∈frs X.stack:=z
   rcases List.mem_cons.mp (I2.stkSub b z) with y|y
   ·exact(f2 b hb).2.1 y
   ·exact(f2 b hb).2.2.1 y
  ·exact(f2 b hb).2.2.2.2.1 x c (Ff (Fp I2 hs) (fun z=>by cases z) e)
  ·have hp':p∈(X.pn++pins)++[(s2.heap.objs.size,ob)]:=hp'
   rcases List.mem_append.mp hp' with z|z
   ·exact(f2 b hb).2.2.2.2.2 p z
   ·have z:p=(s2.heap.objs.size,ob):=List.mem_singleton.mp z
    subst z
    exact Nat.ne_of_gt (fpLt b hb)
 have loop:∀s3:Shared,s3={ s2 with heap:=h₁,toks:=s2.toks+([]:List (Str×Value)).length } →
   codeAny (model X.prog X.w) X.A (.compLoop (.ListComp elt [⟨tg,iter,ifs,0⟩] scope pos) 0 (.ref it) (.ref s2.heap.objs.size) (compEnvC scope (clOf scope.names X.env.cells []) G.objs.size X.env))
    (compPost (model X.prog X.w) X.A X.xe use Q' (.ref s2.heap.objs.size) G.objs.size) s3:=by
  rintro s3 rfl
  refine N0 (fun n s'=>∃i acc its k H',Inv (Xl X N scope G.objs.size s2 H2 fp pins) [(s2.heap.objs.size,{ cls:=.type "list",data:=.seq (its:List Value).toArray k })] (Xq pick σ) H' s'/\Vals acc its/\tn i s'.heap/\(∀b∈fp,H' b=none)/\W i n acc H') ?_ m0
   ⟨0,[],[],0,H2,I3,.nil,Tn.keep _ _ _ st2 fun b hb o e=>old b o e,fun b hb=>(f2 b hb).1,w0⟩
  rintro n s3 ⟨i,acc,its,k,H3,I3,rv,st3,fr3,w3⟩
  rcases turn i n acc H3 w3 with⟨stop,hz,fin0⟩|⟨go,hz,Nx,hN,step⟩
  ·refine wpAny_mono (Tn.done (Xl X N scope G.objs.size s2 H2 fp pins) rfl rfl rfl hc i _ s3 _ H3 (fun _ _=>False) I3 (stat fr3) st3 stop) (fun r s4 hr=>?_) no
   obtain⟨hr,I4⟩:=hr
   subst hr
   obtain⟨m,hnC,_⟩:=I4.loc
   obtain⟨p1,p2,p3,p4,p5⟩:=I4.pin (s2.heap.objs.size,_) (List.mem_append_right _ (List.mem_singleton.mpr rfl))
   have nC:H3 G.objs.size=none:=I4.free
   have low3:∀{b o},X.s₀.heap.get? b=some o->b≠G.objs.size:=fun e=>by
    rw[hC];exact Nat.ne_of_lt (Nat.lt_of_lt_of_le (Heap.lt_size e) (Nat.le_succ_of_le I2.sz))
   refine fin s2.heap.objs.size G.objs.size (upd H3 s2.heap.objs.size (.lst acc)) s4 ⟨m,hnC⟩ (fun h' sb=>?_) (by rw[Xc (Ne.symm hDC)];exact nC) (fun z=>?_) (Nat.le_trans I2.sz hCl) (fun x c e=>?_) (fun p hp'=>by rw[hC];exact Nat.ne_of_lt (Nat.lt_succ_of_lt (pinLt p hp'))) (fin0 _ p2)
   rotate_left
   ·obtain⟨m',⟨o',_,_,ho',_⟩,_⟩:=I2.loc
    exact low ho' z.symm
   ·obtain⟨v',o',ho',_⟩:=I2.cell x c e
    exact low ho'
   have kp:∀b o,b≠G.objs.size->s4.heap.get? b=some o->h'.get? b=some o:=fun b o hb e=>sb.extBut b o hb e
   have hok:HOk X.prog X.w H3 h':=fun b u e=>by
    refine(I4.hok b u e).stay (fun c v hc' q=>kp c v ?_ q) (fun _ q=>q) fun _ _ q=>q
    rcases hc' with z|z
    ·rw[z];exact Xa e nC
    ·exact Xa z nC
   have hok':HOk X.prog X.w (upd H3 s2.heap.objs.size (.lst acc)) h':=hok.track p2 ⟨hz,its,k,rv,kp _ _ hDC p1⟩
   have un:=I4.base
   have un':Un (frs X.stack) fp H2 (upd H3 s2.heap.objs.size (.lst acc)) s2.heap h':=by
    have f0:H2 s2.heap.objs.size=none:=I2.fresh
    refine⟨fun b o e n' hb hx=>kp b o (low e) (un.keep b o e n' hb hx),fun b o e n' hb hx=>?_,fun b o e n' hx=>?_,fun b o e hx=>?_,fun b xs e=>?_,fun b o u e=>?_,fun b ps e=>?_⟩
    ·obtain⟨sl,q⟩:=un.slot b o e n' hb hx
     exact⟨sl,kp b _ (low e) q⟩
    ·rw[Xc (low2 e)];exact un.free b o e n' hx
    ·obtain⟨o',q⟩:=un.there b o e hx
     exact⟨o',kp b o' (low e) q⟩
    ·rw[Xc (Xa e f0)];exact un.tups b xs e
    ·rw[Xc (Xa e f0)];exact un.frzs b o u e
    ·obtain⟨more,q⟩:=un.tbls b ps e
     exact⟨more,by rw[Xc (Xa e f0)];exact q⟩
   have hos:s4.os=s2.os:=I4.os
   refine I2.call' (s':={ s4 with heap:=h' }) hos un' hok' I4.bare (fun b hb=>?_)
   exact⟨(f2 b hb).2.2.2.1,(f2 b hb).2.1,(f2 b hb).2.2.2.2.1,(f2 b hb).2.2.2.2.2⟩
  ·refine wpAny_mono (Tn.item (Xl X N scope G.objs.size s2 H2 fp pins) rfl rfl rfl hc i _ s3 _ H3 (fun _ _=>False) I3 (stat fr3) st3 go) (fun r s4 hr=>?_) no
   obtain⟨u,hr,h4⟩:=hr
   subst hr
   refine wpAny_mono h4 (fun _ s5 h5=>?_) no
   obtain⟨x,H5,I5,r5,y5,st5,fr5⟩:=h5
   have I5':=I5.pinned (stat fr5) (Tn.obj _ _ st5)
   refine wpAny_mono (hg _ _ _ _ _ _ s5 _ H5 x u _ I5' r5 (step x H5 y5)) (fun _ s6 h6=>?_) no
   obtain⟨σ6,H6,I6,kp6,q6⟩:=h6
   refine wpAny_mono (ht _ _ _ _ _ _ s6 σ6 H6 _ I6 q6) (fun ok s7 h7=>?_) no
   obtain⟨H7,I7,q7⟩:=h7
   have tnOf:∀{σ':St} {H':Hp} {s':Shared} {pl:List (Addr×Obj)},(∀p∈pinsAt fp s5.heap,p∈pl)->Inv (Xl X N scope G.objs.size s2 H2 fp pins) pl σ' H' s'->tn (i+1) s'.heap/\∀b∈fp,H' b=none:=fun {σ' H' s' pl} hpl I'=>by
    refine⟨Tn.keep _ _ _ st5 fun b hb o e=>(I'.pin (b,o) (List.mem_append_right _ (hpl _ (Du hb e)))).1,fun b hb=>?_⟩
    obtain⟨o,e,_⟩:=Tn.obj _ _ st5 b hb
    exact(I'.pin (b,o) (List.mem_append_right _ (hpl _ (Du hb e)))).2.1
   cases ok with
   |false =>
    rw[if_neg Bool.false_ne_true] at q7 ⊢
    obtain⟨m',hm,w7⟩:=hN _ _ q7
    obtain⟨t7,f7⟩:=tnOf (fun p hp'=>List.mem_append_right _ hp') I7
    exact⟨m',hm,i+1,acc,its,k,H7,(I7.unpinned).weak (kp6.1.symm) (fun j v e=>kp6.2 j v e),rv,t7,f7,w7⟩
   |true =>
    rw[if_pos rfl] at q7 ⊢
    refine wpAny_mono (he _ _ _ _ _ _ s7 σ6 H7 _ I7 q7) (fun xv s8 h8=>?_) no
    obtain⟨y,H8,I8,r8,q8⟩:=h8
    obtain⟨p1,p2,p3,p4,p5⟩:=I8.pin (s2.heap.objs.size,_) (List.mem_append_right _ (List.mem_append_left _ (List.mem_singleton.mpr rfl)))
    have hl:=rv.length
    refine wpAny_list_append_plain (items:=its.toArray) ⟨k,p1⟩ (fun h' il sb=>?_) (by rw[List.size_toArray];omega)
    obtain⟨k',e'⟩:=il
    obtain⟨t8,f8⟩:=tnOf (fun p hp'=>List.mem_append_right _ hp') I8
    have I8':Inv (Xl X N scope G.objs.size s2 H2 fp pins) [] σ6 H8 s8:=I8.pins_of fun p hp'=>by cases hp'
    have I9:Inv (Xl X N scope G.objs.size s2 H2 fp pins) [] σ6 H8 { s8 with heap:=h' }:=I8'.turned (t':=s8.toks) (it:=s2.heap.objs.size) (fun b o hb e=>sb.extBut b o hb e) p2 hDC (.inr (Nat.le_refl _)) (fun x c e=>Nat.ne_of_lt (cellLt x c e)) (fun p hp'=>by
     have hp':p∈(X.pn++pins)++[]:=hp'
     rw[List.append_nil] at hp'
     exact Nat.ne_of_lt (pinLt p hp'))
    have e'':h'.get? s2.heap.objs.size=some { cls:=.type "list",data:=.seq (its++[xv]).toArray k' }:=by rw[e'];simp
    have I10:Inv (Xl X N scope G.objs.size s2 H2 fp pins) [(s2.heap.objs.size,{ cls:=.type "list",data:=.seq (its++[xv]).toArray k' })] σ6 H8 { s8 with heap:=h' }:=I9.pins_of fun p hp'=>by
     have hp':p=(s2.heap.objs.size,_):=List.mem_singleton.mp hp'
     subst hp'
     exact⟨e'',p2,p3,p4,fun v z=>by cases z⟩
    obtain⟨m',hm,w8⟩:=hN _ _ q8
    refine⟨m',hm,i+1,acc++[y],its++[xv],k',H8,I10.weak (kp6.1.symm) (fun j v e=>kp6.2 j v e),rv.append (.cons r8 .nil),?_,f8,w8⟩
    refine Tn.keep _ _ _ t8 fun b hb o e=>sb.extBut b o (Nat.ne_of_lt (fpLt b hb)) e
 exact codeAny_compStart_list (loop _ rfl) (Tn.self _ 0 _ _ _ (Tn.keep _ _ _ st2 fun b hb o e=>old b o e) (loop _ rfl))
theorem Oh{X:Cx}{N:List Str}{pick:List (Option Nat)}{elt tg iter:Expr}{ifs:List Expr}{scope:Scope}{pos:Pos}{wi:TI}{g:TG}{tc:TT}{te:TE}(hc:X.calm=true)
  (hs:scopeOk X.env.scope.names scope.names=true) (hp:D7 X.N scope.names N pick=true) (hk:scope.kind=.function) (hi:PI X tg iter wi)
  (hg:∀C s H fp pins,PG (Xl X N scope C s H fp pins) tg g) (ht:∀C s H fp pins,PTs (Xl X N scope C s H fp pins) ifs tc) (he:∀C s H fp pins,PE (Xl X N scope C s H fp pins) elt te)
  (hfs:∀x,foldedSetIterable iter X.env x=pure x:=by intro _;rfl):PE X (.ListComp elt [⟨tg,iter,ifs,0⟩] scope pos) (On pick wi g tc te):=by
 intro pins s σ H Q I h
 rw[eval_ListComp]
 exact Lx hc hs hp hk hi hg ht he hfs I h fun D C Hx s4 ⟨m,hn⟩ hI _ _ _ _ _ q=>⟨m,hn,fun h' sb=>⟨.ref D,Hx,hI h' sb,rfl,q⟩⟩
theorem M5{X:Cx}{N:List Str}{pick:List (Option Nat)}{elt tg iter:Expr}{ifs:List Expr}{scope:Scope}{pos spos:Pos}{wi:TI}{g:TG}{tc:TT}{te:TE}{i:Nat}{y:Str}{py:Pos}(hc:X.calm=true)
  (hs:scopeOk X.env.scope.names scope.names=true) (hp:D7 X.N scope.names N pick=true) (hk:scope.kind=.function) (hi:PI X tg iter wi)
  (hg:∀C s H fp pins,PG (Xl X N scope C s H fp pins) tg g) (ht:∀C s H fp pins,PTs (Xl X N scope C s H fp pins) ifs tc) (he:∀C s H fp pins,PE (Xl X N scope C s H fp pins) elt te)
  (hN:X.N.Nodup) (hy:X.N[i]?=some y) (hx:Loc X.env.scope y) (hsw:swapsWith (.ListComp elt [⟨tg,iter,ifs,0⟩] scope pos) (some (.Name y py)) spos.line X.env=pure true) (hf:X.fn y=true\/X.env.scope.names.lookup y=some .local)
  (hfs:∀x,foldedSetIterable iter X.env x=pure x:=by intro _;rfl):PS X (.Assign [.Name y py] (.ListComp elt [⟨tg,iter,ifs,0⟩] scope pos) spos) (tAsg (On pick wi g tc te) (Jz i)):=by
 intro pins s σ H D I h
 rw[exec_Assign_Name_used _ _ _ _ hsw]
 refine wpAny_bind (wpAny_standAt (wpAny_bind ?_))
 show wpAny _ X.A (do let _ ← comprehension (.ListComp elt [⟨tg,iter,ifs,0⟩] scope pos) scope X.env _ (newList []) false (eval iter X.env) (some (assign (.Name y py) X.env))) _ _ s
 refine wpAny_bind (wpAny_mono (Lx (Q':=fun _ s'=>∃ σ' H',Inv X pins σ' H' s'/\D.nx σ' H') hc hs hp hk hi hg ht he hfs I h fun L C Hx s4 hn hI nC nL sz cs ps q=>?_) (fun _ s' hq=>wpAny_pure (wpAny_pure hq)) fun _ _ e=>e)
 obtain⟨m,hn⟩:=hn
 have I4:Inv X pins σ Hx s4:=hI s4.heap ⟨rfl,fun _ _=>rfl⟩
 show wpAny _ X.A (assign (.Name y py) X.env (.ref L)) _ _ s4
 refine wpAny_assign_Name (Kj I4 hN hy hx (v:=.ref L) rfl (fun s5 I5 ⟨a,sb,ha⟩=>?_) hf)
 have na:C≠a:=by
  rcases ha with rfl|ha
  ·exact nL
  ·exact fun z=>cs y a ha z.symm
 refine⟨m,hn.sameBut sb na,fun h' sb'=>⟨_,_,I5.turned (t':=s5.toks) (it:=C) (fun b o hb e=>sb'.extBut b o hb e) nC nL (.inr sz) cs ps,q⟩⟩
end L2
end
section
namespace L2
open PySem PySem.Spec PyProof.Rows
section
variable{X:Cx}
def Its(x:Str):It:=⟨fun i _=>i<x.cps.size,fun i H v H'=>H'=H/\∃c,x.cps[i]?=some c/\v=.str ⟨#[c]⟩,fun i _=>i=x.cps.size⟩
theorem Y6{M:Model}{A:Around}{E:Value->Shared->Prop}{s:Shared}{tg:Expr}{it:Addr}{x:Str}{t:Tok}{Q:Unit->Shared->Prop}(hQ:Q () s):wpAny M A (letOwnedTupleGo tg (.ref it) (.str x t)) Q E s:=by
 unfold letOwnedTupleGo
 cases tg <;> exact wpAny_pure hQ
theorem L8{P:Program}{w:World}{K:PySem.W.Frag}{tg:Expr}{it:Addr}{x:Str}{t:Tok}{nm:String}
  (W:∀A':Around,A'.handled=none->Walks P w A' it [it] [it] x.cps.size (SignAt x) (fun i h=>h.IsStrIter it nm x t i))
  (hself:∀(A:Around) (i:Nat) (s:Shared) (Q:Value->Shared->Prop) (E:Value->Shared->Prop),s.heap.IsStrIter it nm x t i->Q (.ref it) s->wpAny (model P w) A (pyIter (.ref it)) Q E s):Turn P w K tg (Its x) [it] it (fun i h=>h.IsStrIter it nm x t i) where
 mem:=by simp
 obj:=fun i h st b hb=>by
  have e:b=it:=by simpa using hb
  subst e
  obtain⟨o,e,c,d⟩:=st
  exact⟨o,e,fun v z=>by rw[d] at z;cases z⟩
 keep:=fun i h h' st k=>by
  obtain⟨o,e,r⟩:=st
  exact⟨o,k it (by simp) o e,r⟩
 item:=by
  intro X hP hw hK hc i pins s σ H E I hf st hg
  subst hP hw hK
  obtain⟨f0,f1,f2,f3,f4,f5⟩:=hf it (by simp)
  refine(W X.A (I.ok.hd hc)).item i s _ _ hg st fun v h' tk hv st' kk=>?_
  obtain⟨c,u,hcu,rfl⟩:=hv
  have I1:Inv X pins σ H { s with heap:=h',toks:=tk }:=I.turned (fun b o hb e=>kk b o (by simpa using hb) e) f0 f1 f3 f4 f5
  exact⟨_,rfl,Y6 ⟨.str ⟨#[c]⟩,H,I1,⟨u,rfl⟩,⟨rfl,c,hcu,rfl⟩,st',fun b hb=>(hf b hb).1⟩⟩
 done:=by
  intro X hP hw hK hc i pins s σ H E I hf st hg
  subst hP hw hK
  obtain⟨f0,f1,f2,f3,f4,f5⟩:=hf it (by simp)
  have hg:i=x.cps.size:=hg
  subst hg
  refine(W X.A (I.ok.hd hc)).done s _ _ st fun h' tk kk=>⟨rfl,I.turned (fun b o hb e=>kk b o (by simpa using hb) e) f0 f1 f3 f4 f5⟩
 self:=hself
def iAny(K:PySem.W.Frag)(tl:TE):TI:=fun σ H R=>tl σ H fun x H1=>(∃a,x=.ref a/\(((∃xs,SqL K H1 a xs)/\R (Itl K a) H1)\/((∃xs,SqT K H1 a xs)/\R (Itt K a) H1)))\/∃z,x=.str z/\R (Its z) H1
theorem Y9{tg iter:Expr}{tl:TE}(hl:PE X iter tl):PI X tg iter (iAny X.K tl):=by
 intro pins s σ H R I h
 refine thn (hl pins s σ H _ I h) fun v s1 hv=>?_
 obtain⟨x,H1,I1,r1,q1⟩:=hv
 have fresh:∀b∈[s1.heap.objs.size],FpOk X pins H1 b:=fun b hb=>by rw[List.mem_singleton.mp hb];exact I1.fpOk (Nat.le_refl _) (I1.hok.fresh (Nat.le_refl _))
 rcases q1 with⟨l,e,q⟩|⟨z,e,q⟩
 ·subst e
  cases r1
  rcases q with⟨⟨xs,hq⟩,q⟩|⟨⟨xs,hq⟩,q⟩
  ·obtain⟨its,rv,p,hz⟩:=I1.list hq
   exact wpAny_pyIter_list p.isList ⟨s1.heap.objs.size,[s1.heap.objs.size],_,_,H1,rfl,I1.kept (t':=s1.toks) (fun b o e=>Heap.get?_push_of_some _ e),Q6 l _,⟨_,Heap.get?_push_size _ rfl,rfl,rfl⟩,fresh,q⟩
  ·obtain⟨its,rv,p,hz⟩:=I1.tuple hq
   exact wpAny_pyIter_tuple (show s1.heap.IsTuple l its.toArray from p) ⟨s1.heap.objs.size,[s1.heap.objs.size],_,_,H1,rfl,I1.kept (t':=s1.toks) (fun b o e=>Heap.get?_push_of_some _ e),N7 l _,⟨_,Heap.get?_push_size _ rfl,rfl,rfl⟩,fresh,q⟩
 ·subst e
  obtain⟨t,rfl⟩:=r1
  cases ha:z.cps.all (·<128)
  ·exact wpAny_pyIter_wide ha ⟨s1.heap.objs.size,[s1.heap.objs.size],_,_,H1,rfl,I1.kept (t':=s1.toks) (fun b o e=>Heap.get?_push_of_some _ e),L8 (x:=z) (t:=t) (fun A' hA=>Walks.strWide hA _ z t) (fun _ _ _ _ _ st h=>wpAny_pyIter_striter_wide st h),⟨_,Heap.get?_push_size _ rfl,rfl,rfl⟩,fresh,q⟩
  ·exact wpAny_pyIter_ascii ha ⟨s1.heap.objs.size,[s1.heap.objs.size],_,_,H1,rfl,I1.kept (t':=s1.toks) (fun b o e=>Heap.get?_push_of_some _ e),L8 (x:=z) (t:=t) (fun A' hA=>Walks.strAscii hA _ z t) (fun _ _ _ _ _ st h=>wpAny_pyIter_striter_ascii st h),⟨_,Heap.get?_push_size _ rfl,rfl,rfl⟩,fresh,q⟩
theorem R0(hc:X.calm=true):CallR X (.builtin "all") (fun xs H Q=>∃(p:Addr) (bs:List Bool),xs=[.ref p]/\SqL X.K H p (bs.map V.bl)/\Q (.bl (bs.all id)) H):=by
 intro pins s σ H xs us Q I r h
 obtain⟨p,bs,rfl,hq,q⟩:=h
 obtain⟨u,rfl,ru⟩:=E3 r
 cases ru
 obtain⟨its,rv,pl,hz⟩:=I.list hq
 have lt:p<s.heap.objs.size:=by
  obtain⟨o,n,e,_⟩:=pl
  exact Heap.lt_size e
 have hit:∀(i:Nat) v,its.toArray[i]?=some v->∃b,bs[i]?=some b/\v=.bool b:=fun i v e=>by
  have e':its[i]?=some v:=by simpa using e
  have hl:=rv.length
  have hi:i<its.length:=(List.getElem?_eq_some_iff.mp e').1
  have hi2:i<(bs.map V.bl).length:=by omega
  obtain⟨w',hw,rw'⟩:=rv.get (List.getElem?_eq_getElem hi2)
  rw[e'] at hw
  cases hw
  rw[List.getElem_map] at rw'
  rw[List.length_map] at hi2
  exact⟨bs[i],List.getElem?_eq_getElem hi2,rw'⟩
 refine call_all_walk (wpAny_pyIter_list pl.isList ?_)
 refine⟨s.heap.objs.size,[s.heap.objs.size,p],[s.heap.objs.size],its.toArray.size,_,_,fun i=>bs.getD i true,rfl,Walks.list (A:=X.A.in1) (show X.A.in1.handled=none from I.ok.hd hc) _ p (Nat.ne_of_lt lt) its.toArray,
  ⟨⟨_,Heap.get?_push_size _ rfl,rfl,rfl⟩,Heap.IsList.push pl.isList _⟩,fun i v s' Q' E' hv hQ'=>?_,fun h' tk kk=>?_⟩
 ·obtain⟨b,hb,rfl⟩:=hit i v hv
  have e:bs.getD i true=b:=by rw[List.getD_eq_getElem?_getD,hb];rfl
  dsimp only at hQ'
  rw[e] at hQ'
  exact wpAny_truthy_bool hQ'
 ·have hl:=rv.length
  rw[List.length_map] at hl
  have e:(List.range its.toArray.size).all (fun i=>bs.getD i true)=bs.all id:=by
   rw[List.size_toArray,<-hl,Bool.eq_iff_iff,List.all_eq_true,List.all_eq_true]
   constructor
   ·intro a b hb
    obtain⟨i,hi,rfl⟩:=List.mem_iff_getElem.mp hb
    have:=a i (List.mem_range.mpr hi)
    rw[List.getD_eq_getElem?_getD,List.getElem?_eq_getElem hi] at this
    exact this
   ·intro a i hi
    have hi':=List.mem_range.mp hi
    rw[List.getD_eq_getElem?_getD,List.getElem?_eq_getElem hi']
    exact a _ (List.getElem_mem hi')
  rw[e]
  refine⟨.bl _,H,?_,rfl,q⟩
  have I1:Inv X pins σ H { s with heap:=s.heap.push { cls:=.type "list_iterator",data:=.fields #[.ref p,.int 0 0] } }:=I.kept (t':=s.toks) fun b o e=>Heap.get?_push_of_some _ e
  have f:=I.fpOk (H':=H) (Nat.le_refl _) I.fresh
  exact I1.turned (t':=tk) (it:=s.heap.objs.size) (fun b o hb e=>kk b o (by simpa using hb) e) f.1 f.2.1 f.2.2.2.1 f.2.2.2.2.1 f.2.2.2.2.2
theorem Ep:OpR X (compareOp .LtE) (fun x y H Q=>∃i j,x=.str i/\y=.str j/\Q (.bl (!decide (j.cps.toList<i.cps.toList))) H):=by
 rintro pins s σ H x y v u Q I rx ry ⟨i,j,rfl,rfl,q⟩
 obtain⟨t,rfl⟩:=rx
 obtain⟨t',rfl⟩:=ry
 exact PySem.P.le_str ⟨.bl _,H,I,rfl,q⟩
theorem Wm:MtR X "str.find" (fun x vs H Q=>∃a b,x=.str a/\vs=[.str b]/\Q (.int (Txt.find a b)) H):=by
 intro pins s σ H x vs v us Q I rx rv h
 obtain⟨a,b,rfl,rfl,q⟩:=h
 obtain⟨t,rfl⟩:=rx
 obtain⟨u,rfl,ru⟩:=rv.one
 obtain⟨t',rfl⟩:=ru
 exact SC.find ⟨.int _,H,I.tok _,⟨_,rfl⟩,q⟩
theorem Rq:MtR X "str.upper" (fun x vs H Q=>∃a,x=.str a/\vs=[]/\Builtin.Str.tooLong (Txt.upper a).length=false/\Q (.str (Txt.upper a)) H):=by
 intro pins s σ H x vs v us Q I rx rv h
 obtain⟨a,rfl,rfl,hl,q⟩:=h
 obtain⟨t,rfl⟩:=rx
 cases rv.zero
 exact SC.upper hl ⟨.str _,H,I.tok _,⟨_,rfl⟩,q⟩
def rSlS:V->Option Int->Option Int->Hp->VK->Prop:=fun x lo hi H Q=>∃z,x=.str z/\z.length<=sizeLine/\Q (.str (Txt.slice z lo hi)) H
theorem Abf:SlR X rSlS:=by
 intro pins s σ H x v vl vu lo hi sl Q I rx hs pl pu h
 obtain⟨z,rfl,hz,q⟩:=h
 obtain⟨t,rfl⟩:=rx
 have fin:∀t' k,EP X pins σ Q (.str (Txt.slice z lo hi) t') { s with toks:=k }:=fun t' k=>⟨.str _,H,I.tok k,⟨_,rfl⟩,q⟩
 refine⟨"str",_,F.slot_str_getitem.lookup,typeIs_str _ _ _,?_⟩
 cases pl with
 |none =>
  cases pu with
  |none=>exact wpAny_getItem_str_slice (l:=none) (u:=none) (st:=none) hs rfl (post_val_or_str ⟨Nat.le_trans (Txt.slice_le z _ _) hz,fin⟩)
  |int j uj=>exact wpAny_getItem_str_slice (l:=none) (u:=some (j,uj)) (st:=none) hs rfl (post_val_or_str ⟨Nat.le_trans (Txt.slice_le z _ _) hz,fin⟩)
 |int i ui =>
  cases pu with
  |none=>exact wpAny_getItem_str_slice (l:=some (i,ui)) (u:=none) (st:=none) hs rfl (post_val_or_str ⟨Nat.le_trans (Txt.slice_le z _ _) hz,fin⟩)
  |int j uj=>exact wpAny_getItem_str_slice (l:=some (i,ui)) (u:=some (j,uj)) (st:=none) hs rfl (post_val_or_str ⟨Nat.le_trans (Txt.slice_le z _ _) hz,fin⟩)
end
end L2
end
section
namespace L2
open PySem PySem.Spec PyProof.Rows
section
variable{X:Cx}{pins:List (Addr×Obj)}{σ:St}{H:Hp}{s:Shared}{h':Heap}
theorem Inv.turns{t':Nat}{ch:List Addr}(I:Inv X pins σ H s)(k:∀b o,b ∉ ch->s.heap.get? b=some o->h'.get? b=some o)(hf:∀b∈ch,FpOk X pins H b):Inv X pins σ H { s with heap:=h',toks:=t' }:=by
 have nch:∀b u,H b=some u->b ∉ ch:=fun b u e z=>by rw[(hf b z).1] at e;cases e
 refine I.step (g':=s.gens) (d':=s.drawn) (ch:=ch) (fun b hb=>⟨(hf b hb).2.2.2.1,(hf b hb).2.1,(hf b hb).2.2.2.2.1,(hf b hb).2.2.2.2.2⟩) (fun b o _ _ hc e _=>k b o hc e) (fun b o _ _ hc e _=>⟨o.slots,k b o hc e⟩) (fun _ _ _ _ n=>n)
  (fun b o hc e=>⟨o,k b o hc e⟩) (fun _ _ e=>e) (fun _ _ _ e=>e) (fun b ps e=>⟨#[],by rw[e];simp⟩) (fun m hm=>?_) (fun b u e=>?_) I.bare
 ·obtain⟨o,es,ep,ho,r⟩:=hm
  exact⟨o,es,ep,k _ o (fun z=>(hf _ z).2.1 rfl) ho,r⟩
 ·refine(I.hok b u e).stay (fun c v hc q=>k c v ?_ q) (fun _ q=>q) fun _ _ q=>q
  rcases hc with z|z
  ·rw[z];exact nch b u e
  ·exact nch c _ z
theorem Inv.track{a:Addr}{o:HO}(I:Inv X pins σ H s)(f:FpOk X pins H a)(new:ObjOk X.prog X.w (upd H a o) s.heap a o):Inv X pins σ (upd H a o) s:=by
 obtain⟨f0,f1,f2,f3,f4,f5⟩:=f
 have nb:∀b ob,X.s₀.heap.get? b=some ob->b ∉ X.ex->b≠a:=fun b ob e hx z=>by
  subst z
  rcases f3 with q|q
  ·exact hx q
  ·exact absurd (Nat.lt_of_lt_of_le (Heap.lt_size e) q) (Nat.lt_irrefl _)
 refine⟨I.ok,I.os,I.bare,⟨I.base.keep,I.base.slot,fun b ob e n hx=>?_,I.base.there,fun b xs e=>?_,fun b ob u e=>?_,fun b ps e=>?_⟩,I.loc,I.cell,?_,fun x c e=>?_,fun p hp=>?_,I.hok.track f0 new,I.len⟩
 ·rw[Xc (nb b ob e hx)];exact I.base.free b ob e n hx
 ·have q:=I.base.tups b xs e;rw[Xc (Xa q f0)];exact q
 ·have q:=I.base.frzs b ob u e;rw[Xc (Xa q f0)];exact q
 ·obtain⟨more,q⟩:=I.base.tbls b ps e
  exact⟨more,by rw[Xc (Xa q f0)];exact q⟩
 ·rw[Xc (Ne.symm f1)];exact I.free
 ·rw[Xc (f4 x c e)];exact I.freeC x c e
 ·obtain⟨a1,a2,a3⟩:=I.pin p hp
  exact⟨a1,by rw[Xc (f5 p hp)];exact a2,a3⟩
end
section
variable{prog:Program}{w:World}{A:Around}{E:Value->Shared->Prop}{s:Shared}
theorem Ct{it t:Addr}{i:Nat}{items:Array Value}{x:Value}{Q:Value->Shared->Prop}(hit:s.heap.IsTupleIter it t i)(ht:s.heap.IsTuple t items)(hx:items[i]?=some x)
  (hQ:∀g,g.IsTupleIter it t (i+1)->Heap.SameBut it s.heap g->Q x { s with heap:=g }):wpAny (model prog w) A (Builtin.SmallTypes.nextOf (.ref it)) Q E s:=by
 obtain⟨o,ho,hc,hd⟩:=id hit
 obtain⟨ol,hol,_,nl,hdl⟩:=ht
 unfold Builtin.SmallTypes.nextOf
 refine wpAny_bind (wpAny_callSpecial?_slot (name:=Str.ofString "__next__") hit.typeIs F.slot_tuple_iterator_next (wpAny_call_entry F.slot_tuple_iterator_next hit.typeIs F.entry_tuple_iterator_next ?_ (F.args_tuple_iterator_next_1 _)))
 show wpAny _ _ (field (.ref it) 0 >>= _) _ _ s
 refine wpAny_bind (wpAny_field ho hd (x:=.ref t) rfl ?_)
 show wpAny (model prog w) _ (if (Value.ref t==Value.none)=true then _ else _) _ _ s
 rw[if_neg (show ¬ ((Value.ref t==Value.none)=true) from Bool.false_ne_true)]
 show wpAny _ _ (field (.ref it) 1 >>= _) _ _ s
 refine wpAny_bind (wpAny_field ho hd (x:=.int i 0) rfl ?_)
 show wpAny _ _ (seqItems? (.ref t) >>= _) _ _ s
 refine wpAny_bind (wpAny_seqItems hol hdl ?_)
 simp only[Int.toNat_natCast,hx]
 refine wpAny_bind (wpAny_setField ho hd (by simp) (wpAny_pure ⟨x,rfl,wpAny_pure (hQ _ ?_ (Heap.SameBut.update ..))⟩))
 refine⟨_,Heap.get?_update_self _ ho (Obj.isFreed_of_fields (Obj.data_mapFields hd _)),(Obj.cls_mapFields ..).trans hc,?_⟩
 rw[Obj.data_mapFields hd]
 simp[rawInt]
theorem D9{it t:Addr}{i:Nat}{items:Array Value}{Q:Value->Shared->Prop}(hh:A.handled=none)(hit:s.heap.IsTupleIter it t i)(ht:s.heap.IsTuple t items)(hx:items[i]?=none)
  (hE:∀g e,Heap.ExtBut it s.heap g->(∃o,g.get? e=some o/\o.cls=.type "StopIteration")->E (.ref e) { s with heap:=g }):wpAny (model prog w) A (Builtin.SmallTypes.nextOf (.ref it)) Q E s:=by
 obtain⟨o,ho,hc,hd⟩:=id hit
 obtain⟨ol,hol,_,nl,hdl⟩:=ht
 unfold Builtin.SmallTypes.nextOf
 refine wpAny_bind (wpAny_callSpecial?_slot (name:=Str.ofString "__next__") hit.typeIs F.slot_tuple_iterator_next (wpAny_call_entry F.slot_tuple_iterator_next hit.typeIs F.entry_tuple_iterator_next ?_ (F.args_tuple_iterator_next_1 _)))
 show wpAny _ _ (field (.ref it) 0 >>= _) _ _ s
 refine wpAny_bind (wpAny_field ho hd (x:=.ref t) rfl ?_)
 show wpAny (model prog w) _ (if (Value.ref t==Value.none)=true then _ else _) _ _ s
 rw[if_neg (show ¬ ((Value.ref t==Value.none)=true) from Bool.false_ne_true)]
 show wpAny _ _ (field (.ref it) 1 >>= _) _ _ s
 refine wpAny_bind (wpAny_field ho hd (x:=.int i 0) rfl ?_)
 show wpAny _ _ (seqItems? (.ref t) >>= _) _ _ s
 refine wpAny_bind (wpAny_seqItems hol hdl ?_)
 simp only[Int.toNat_natCast,hx]
 refine wpAny_bind (wpAny_rule (wpAny_bind (wpAny_setField ho hd (by simp) ?_)))
 show wpAny _ _ (newExc (.type "StopIteration") [] >>= _) _ _ _
 refine wpAny_bind ?_
 simp only[newExc,newTuple]
 refine wpAny_bind (wpAny_newObj_type ?_ (by size_fits))
 refine wpAny_bind (m:=firstArgMember _ _) (wpAny_of_eq (a:=Value.none) (by first|rfl|(simp only[firstArgMember];rfl)) ?_)
 refine wpAny_newObj_type ?_ (by size_fits)
 simp only[raiseNew]
 refine wpAny_bind (wpAny_handled ?_)
 first|rw[show A.in1.handled=none from hh]|rw[hh]
 refine wpAny_bind (wpAny_pure (wpAny_throw ?_))
 exact hE _ _ (((Heap.SameBut.update ..).extBut.push _).push _) ⟨_,Heap.get?_push_size _ rfl,rfl⟩
end
end L2
end
section
namespace L2
open PySem PySem.Spec PyProof.Rows
section
variable{prog:Program}{w:World}{A:Around}{E:Value->Shared->Prop}{s:Shared}
structure ZipT(h:Heap)(z ti to i1 i2 t1 t2:Addr)(i:Nat):Prop where
 z:IsZip h z ti to .none
 ti:IsPair h ti (.ref i1) (.ref i2)
 to:∃a b,IsPair h to a b
 i1:h.IsTupleIter i1 t1 i
 i2:h.IsTupleIter i2 t2 i
theorem P1{z ti to i1 i2 t1 t2:Addr}{i:Nat}{xs ys:Array Value}{x y:Value}{Q:Value->Shared->Prop}(D:ZipApart z ti to i1 i2 t1 t2)(Z:ZipT s.heap z ti to i1 i2 t1 t2 i)(l1:s.heap.IsTuple t1 xs)(l2:s.heap.IsTuple t2 ys)
  (hx:xs[i]?=some x) (hy:ys[i]?=some y)
  (hQ:∀g,IsZip g z ti to (rawInt s.heap.objs.size)->(∃a b,IsPair g to a b)->g.IsTupleIter i1 t1 (i+1)->g.IsTupleIter i2 t2 (i+1)->IsPair g s.heap.objs.size x y →
   (∀c o,c≠z->c≠to->c≠i1->c≠i2->s.heap.get? c=some o->g.get? c=some o)->Q (.ref s.heap.objs.size) { s with heap:=g }) :
  wpAny (model prog w) A (Builtin.«zip.__next__» ⟨[.ref z],[]⟩) (fun fin s'=>∃v,fin=.done (.ret v)/\Q v s') E s:=by
 obtain⟨hz,hTI,⟨a,b,hTO⟩,h1,h2⟩:=Z
 show wpAny _ _ (field (.ref z) 2 >>= _) _ _ _
 refine wpAny_bind (wpAny_field hz rfl (x:=.bool false) rfl ?_)
 show wpAny _ _ (field (.ref z) 3 >>= _) _ _ _
 refine wpAny_bind (wpAny_field hz rfl (x:=.ref ti) rfl ?_)
 refine wpAny_bind (wpAny_seqItems hTI rfl ?_)
 show wpAny (model prog w) _ (Builtin.SmallTypes.ownedTupleIsFree (.ref z) >>= _) _ _ _
 refine wpAny_bind ?_
 unfold Builtin.SmallTypes.ownedTupleIsFree
 refine wpAny_bind (wpAny_field hz rfl (x:=.none) rfl (wpAny_pure ?_))
 simp only[if_true]
 refine wpAny_bind (wpAny_rule ?_)
 refine wpAny_bind (wpAny_field hz rfl (x:=.ref to) rfl ?_)
 refine wpAny_bind (wpAny_setField_rec hz (by simp) fun g1 hz1 k1=>?_)
 replace hz1:IsZip g1 z ti to .ellipsis:=hz1
 refine wpAny_bind ?_
 simp only[List.zipIdx_cons,List.zipIdx_nil,List.forIn_cons,List.forIn_nil]
 refine wpAny_bind (wpAny_bind (wpAny_onRaise ?_))
 show wpAny (model prog w) _ (Builtin.SmallTypes.nextOf (.ref i1) >>= _) _ _ _
 refine wpAny_bind (Ct (h1.extBut k1.extBut D.i1z) (l1.extBut k1.extBut D.l1z) hx fun g2 n2 k2=>wpAny_pure ?_)
 have o2:IsPair g2 to a b:=k2.extBut _ _ D.TOi1 (k1.extBut _ _ D.TOz hTO)
 refine wpAny_bind (wpAny_seqItems o2 rfl ?_)
 refine wpAny_bind (wpAny_updateSeq_pair o2 fun g3 o3 k3=>?_)
 replace o3:IsPair g3 to x b:=o3
 refine wpAny_bind (wpAny_letGo (wpAny_pure ?_))
 refine wpAny_bind (wpAny_bind (wpAny_onRaise ?_))
 show wpAny (model prog w) _ (Builtin.SmallTypes.nextOf (.ref i2) >>= _) _ _ _
 refine wpAny_bind (Ct (((h2.extBut k1.extBut D.i2z).extBut k2.extBut D.i12.symm).extBut k3.extBut D.TOi2.symm) (((l2.extBut k1.extBut D.l2z).extBut k2.extBut D.l2i1).extBut k3.extBut D.l2TO) hy fun g4 n4 k4=>wpAny_pure ?_)
 have o4:IsPair g4 to x b:=k4.extBut _ _ D.TOi2 o3
 refine wpAny_bind (wpAny_seqItems o4 rfl ?_)
 refine wpAny_bind (wpAny_updateSeq_pair o4 fun g5 o5 k5=>?_)
 replace o5:IsPair g5 to x y:=o5
 refine wpAny_bind (wpAny_letGo (wpAny_pure (wpAny_pure ?_)))
 refine wpAny_bind (wpAny_seqItems o5 rfl ?_)
 refine wpAny_bind (wpAny_newTuple ?_)
 have sz:g5.objs.size=s.heap.objs.size:=by rw[k5.1,k4.1,k3.1,k2.1,k1.1]
 have z5:IsZip g5 z ti to .ellipsis:=k5.extBut _ _ D.TOz.symm (k4.extBut _ _ D.i2z.symm (k3.extBut _ _ D.TOz.symm (k2.extBut _ _ D.i1z.symm hz1)))
 have kk:∀c o,c≠z->c≠to->c≠i1->c≠i2->s.heap.get? c=some o->g5.get? c=some o:=fun c o c1 c2 c3 c4 e=>k5.extBut _ _ c2 (k4.extBut _ _ c4 (k3.extBut _ _ c2 (k2.extBut _ _ c3 (k1.extBut _ _ c1 e))))
 have n5:g5.IsTupleIter i1 t1 (i+1):=((n2.extBut k3.extBut D.TOi1.symm).extBut k4.extBut D.i12).extBut k5.extBut D.TOi1.symm
 have m5:g5.IsTupleIter i2 t2 (i+1):=n4.extBut k5.extBut D.TOi2.symm
 have zl:z<g5.objs.size:=Heap.lt_size z5
 show wpAny (model prog w) _ (Builtin.SmallTypes.ownedTupleHandOut (.ref z) (.ref g5.objs.size) >>= _) _ _ _
 refine wpAny_bind ?_
 unfold Builtin.SmallTypes.ownedTupleHandOut
 have z6:IsZip (g5.push { cls:=.type "tuple",data:=.seq #[x,y] }) z ti to .ellipsis:=Heap.get?_push_of_some _ z5
 refine wpAny_bind (wpAny_setField_rec z6 (by simp) fun g7 z7 k7=>?_)
 replace z7:IsZip g7 z ti to (rawInt g5.objs.size):=z7
 refine wpAny_setField_rec z7 (by simp) fun g8 z8 k8=>?_
 replace z8:IsZip g8 z ti to (rawInt g5.objs.size):=z8
 have up:∀c o,c≠z->g5.get? c=some o->g8.get? c=some o:=fun c o c1 e=>k8.extBut _ _ c1 (k7.extBut _ _ c1 (Heap.get?_push_of_some _ e))
 have t8:IsPair g8 g5.objs.size x y:=k8.extBut _ _ (Nat.ne_of_gt zl) (k7.extBut _ _ (Nat.ne_of_gt zl) (Heap.get?_push_size _ rfl))
 rw[sz] at z8 t8
 refine wpAny_pure ⟨_,rfl,?_⟩
 show Q (.ref g5.objs.size) _
 rw[sz]
 have it:∀{j t:Addr} {k:Nat},j≠z->g5.IsTupleIter j t k->g8.IsTupleIter j t k:=fun hj q=>by
  obtain⟨o,e,r⟩:=q
  exact⟨o,up _ o hj e,r⟩
 exact hQ g8 z8 ⟨x,y,up _ _ D.TOz o5⟩ (it D.i1z n5) (it D.i2z m5) t8 fun c o c1 c2 c3 c4 e=>up c o c1 (kk c o c1 c2 c3 c4 e)
theorem Uh{z ti to i1 i2 t1 t2:Addr}{i:Nat}{xs:Array Value}{Q:Fin->Shared->Prop}(hh:A.handled=none)(D:ZipApart z ti to i1 i2 t1 t2)(Z:ZipT s.heap z ti to i1 i2 t1 t2 i)(l1:s.heap.IsTuple t1 xs)(hx:xs[i]?=none)
  (hE:∀g e,(∀c o,c≠z->c≠to->c≠i1->c≠i2->s.heap.get? c=some o->g.get? c=some o)->(∃o,g.get? e=some o/\o.cls=.type "StopIteration")->E (.ref e) { s with heap:=g }) :
  wpAny (model prog w) A (Builtin.«zip.__next__» ⟨[.ref z],[]⟩) Q E s:=by
 obtain⟨hz,hTI,⟨a,b,hTO⟩,h1,h2⟩:=Z
 show wpAny _ _ (field (.ref z) 2 >>= _) _ _ _
 refine wpAny_bind (wpAny_field hz rfl (x:=.bool false) rfl ?_)
 show wpAny _ _ (field (.ref z) 3 >>= _) _ _ _
 refine wpAny_bind (wpAny_field hz rfl (x:=.ref ti) rfl ?_)
 refine wpAny_bind (wpAny_seqItems hTI rfl ?_)
 show wpAny (model prog w) _ (Builtin.SmallTypes.ownedTupleIsFree (.ref z) >>= _) _ _ _
 refine wpAny_bind ?_
 unfold Builtin.SmallTypes.ownedTupleIsFree
 refine wpAny_bind (wpAny_field hz rfl (x:=.none) rfl (wpAny_pure ?_))
 simp only[if_true]
 refine wpAny_bind (wpAny_rule ?_)
 refine wpAny_bind (wpAny_field hz rfl (x:=.ref to) rfl ?_)
 refine wpAny_bind (wpAny_setField_rec hz (by simp) fun g1 hz1 k1=>?_)
 replace hz1:IsZip g1 z ti to .ellipsis:=hz1
 refine wpAny_bind ?_
 simp only[List.zipIdx_cons,List.zipIdx_nil,List.forIn_cons,List.forIn_nil]
 refine wpAny_bind (wpAny_bind (wpAny_onRaise ?_))
 show wpAny (model prog w) _ (Builtin.SmallTypes.nextOf (.ref i1) >>= _) _ _ _
 refine wpAny_bind (D9 hh (h1.extBut k1.extBut D.i1z) (l1.extBut k1.extBut D.l1z) hx fun g2 e k2 he=>?_)
 obtain⟨oe,hoe,hce⟩:=he
 have z2:IsZip g2 z ti to .ellipsis:=k2 _ _ D.i1z.symm hz1
 have hez:e≠z:=fun q=>by subst q;rw[z2] at hoe;cases hoe;simp at hce
 refine wpAny_setField_rec z2 (by simp) fun g3 _ k3=>hE g3 e (fun c o c1 _ c3 _ q=>k3.extBut _ _ c1 (k2 _ _ c3 (k1.extBut _ _ c1 q))) ⟨oe,k3.extBut _ _ hez hoe,hce⟩
theorem Gf{z ti to i1 i2 t1 t2:Addr}{i:Nat}{xs ys:Array Value}{x y:Value}{Q:Option Value->Shared->Prop}(D:ZipApart z ti to i1 i2 t1 t2)(Z:ZipT s.heap z ti to i1 i2 t1 t2 i)(l1:s.heap.IsTuple t1 xs)(l2:s.heap.IsTuple t2 ys)
  (hx:xs[i]?=some x) (hy:ys[i]?=some y)
  (hQ:∀g,IsZip g z ti to (rawInt s.heap.objs.size)->(∃a b,IsPair g to a b)->g.IsTupleIter i1 t1 (i+1)->g.IsTupleIter i2 t2 (i+1)->IsPair g s.heap.objs.size x y →
   (∀c o,c≠z->c≠to->c≠i1->c≠i2->s.heap.get? c=some o->g.get? c=some o)->Q (some (.ref s.heap.objs.size)) { s with heap:=g }):wpAny (model prog w) A (pyNext (.ref z)) Q E s:=by
 have ty:s.TypeIs (.ref z) "zip":=⟨_,Z.z,rfl⟩
 unfold pyNext
 exact wpAny_bind (wpAny_attempt (wpAny_callSpecial?_slot (name:=Str.ofString "__next__") ty F.slot_zip_next (wpAny_call_entry F.slot_zip_next ty F.entry_zip_next (P1 D Z l1 l2 hx hy fun g a1 a2 a3 a4 a5 a6=>wpAny_pure (hQ g a1 a2 a3 a4 a5 a6)) (F.args_zip_next_1 _))))
theorem G3{z ti to i1 i2 t1 t2:Addr}{i:Nat}{xs:Array Value}{Q:Option Value->Shared->Prop}(hh:A.handled=none)(D:ZipApart z ti to i1 i2 t1 t2)(Z:ZipT s.heap z ti to i1 i2 t1 t2 i)(l1:s.heap.IsTuple t1 xs)(hx:xs[i]?=none)
  (hQ:∀g,(∀c o,c≠z->c≠to->c≠i1->c≠i2->s.heap.get? c=some o->g.get? c=some o)->Q none { s with heap:=g }):wpAny (model prog w) A (pyNext (.ref z)) Q E s:=by
 have ty:s.TypeIs (.ref z) "zip":=⟨_,Z.z,rfl⟩
 unfold pyNext
 refine wpAny_bind (wpAny_attempt (wpAny_callSpecial?_slot (name:=Str.ofString "__next__") ty F.slot_zip_next (wpAny_call_entry F.slot_zip_next ty F.entry_zip_next (Uh hh D Z l1 hx fun g e hk he=>?_) (F.args_zip_next_1 _))))
 obtain⟨o,ho,hc⟩:=he
 refine wpAny_bind (wpAny_isInstance (T:="StopIteration") (b:=true) ⟨o,ho,hc⟩ isSubtype_stop ?_)
 exact wpAny_pure (hQ _ hk)
abbrev ztH1(h:Heap)(l1:Addr):Heap:=h.push { cls:=.type "tuple_iterator",data:=.fields #[.ref l1,.int 0 0] }
abbrev ztH2(h:Heap)(l1 l2:Addr):Heap:=(ztH1 h l1).push { cls:=.type "tuple_iterator",data:=.fields #[.ref l2,.int 0 0] }
abbrev ztH3(h:Heap)(l1 l2:Addr):Heap:=(ztH2 h l1 l2).push { cls:=.type "tuple",data:=.seq #[.ref h.objs.size,.ref (ztH1 h l1).objs.size] }
abbrev ztH4(h:Heap)(l1 l2:Addr):Heap:=(ztH3 h l1 l2).push { cls:=.type "tuple",data:=.seq #[.none,.none] }
abbrev Pt(h:Heap)(l1 l2:Addr):Heap:=(ztH4 h l1 l2).push { cls:=.type "zip",data:=.fields #[.none,.bool false,.bool false,.ref (ztH2 h l1 l2).objs.size,.ref (ztH3 h l1 l2).objs.size] }
theorem Nu(l1 l2:Addr)(xs ys:Array Value):Meets (Builtin.«zip.__new__» ⟨[.type "zip",.ref l1,.ref l2],[]⟩) (fun _ R s=>s.heap.IsTuple l1 xs/\s.heap.IsTuple l2 ys/\R (.ok (.ret (.ref (ztH4 s.heap l1 l2).objs.size))) { s with heap:=Pt s.heap l1 l2 }) :=
 .of_wp fun prog w A R s h=>by
  obtain⟨hp,g,d,tk,os⟩:=s;obtain⟨q1,q2,h⟩:=h
  have hsub:=sub_zip
  have L1:Heap.IsTuple (Shared.heap ⟨hp,g,d,tk,os⟩) l1 xs:=q1
  have L2:Heap.IsTuple (Shared.heap ⟨hp.push { cls:=.type "tuple_iterator",data:=.fields #[.ref l1,.int 0 0] },g,d,tk,os⟩) l2 ys:=Heap.IsTuple.push q2 _
  wp_walk using wpAny_pyIter_tuple L1,wpAny_pyIter_tuple L2
  exact⟨_,rfl,h⟩
theorem Q1{l1 l2:Addr}{xs ys:Array Value}{Q:Value->Shared->Prop}(q1:s.heap.IsTuple l1 xs)(q2:s.heap.IsTuple l2 ys)
  (h:∀g,ZipT g (s.heap.objs.size+4) (s.heap.objs.size+2) (s.heap.objs.size+3) s.heap.objs.size (s.heap.objs.size+1) l1 l2 0->(∀c o,s.heap.get? c=some o->g.get? c=some o)->Q (.ref (s.heap.objs.size+4)) { s with heap:=g }) :
  wpAny (model prog w) A (call (.type "zip") [.ref l1,.ref l2]) Q E s:=by
 refine callType_new F.called_zip (by decide) (F.typeCall_zip_2 _ _) (F.newCall_zip_2 _ _) (fun obj=>F.args_object_init_3 obj _ _) F.entry_zip_new (Nu l1 l2 xs ys) ⟨q1,q2,?_⟩
 have z1:(ztH1 s.heap l1).objs.size=s.heap.objs.size+1:=Heap.size_push ..
 have z2:(ztH2 s.heap l1 l2).objs.size=s.heap.objs.size+2:=by rw[Heap.size_push,z1]
 have z3:(ztH3 s.heap l1 l2).objs.size=s.heap.objs.size+3:=by rw[Heap.size_push,z2]
 have z4:(ztH4 s.heap l1 l2).objs.size=s.heap.objs.size+4:=by rw[Heap.size_push,z3]
 have g5:(Pt s.heap l1 l2).get? (ztH4 s.heap l1 l2).objs.size=some _:=Heap.get?_push_size _ rfl
 have g4:(Pt s.heap l1 l2).get? (ztH3 s.heap l1 l2).objs.size=some _:=Heap.get?_push_of_some _ (Heap.get?_push_size _ rfl)
 have g3:(Pt s.heap l1 l2).get? (ztH2 s.heap l1 l2).objs.size=some _:=Heap.get?_push_of_some _ (Heap.get?_push_of_some _ (Heap.get?_push_size _ rfl))
 have g2:(Pt s.heap l1 l2).get? (ztH1 s.heap l1).objs.size=some _:=Heap.get?_push_of_some _ (Heap.get?_push_of_some _ (Heap.get?_push_of_some _ (Heap.get?_push_size _ rfl)))
 have g1:(Pt s.heap l1 l2).get? s.heap.objs.size=some _:=Heap.get?_push_of_some _ (Heap.get?_push_of_some _ (Heap.get?_push_of_some _ (Heap.get?_push_of_some _ (Heap.get?_push_size _ rfl))))
 show _/\_
 rw[z2,z3,z4] at g5
 rw[z1,z2] at g3
 rw[z3] at g4
 rw[z1] at g2
 rw[z4]
 exact⟨⟨_,g5,rfl⟩,h _ ⟨g5,g3,⟨_,_,g4⟩,⟨_,g1,rfl,rfl⟩,⟨_,g2,rfl,rfl⟩⟩ fun c o q=>Heap.get?_push_of_some _ (Heap.get?_push_of_some _ (Heap.get?_push_of_some _ (Heap.get?_push_of_some _ (Heap.get?_push_of_some _ q))))⟩
end
end L2
end
section
namespace L2
open PySem PySem.Spec PyProof.Rows
def Itz (K:PySem.W.Frag) (a b:Addr):It :=
  ⟨fun i H=>∃ xs ys x y,SqT K H a xs /\ SqT K H b ys /\ xs[i]? = some x /\ ys[i]? = some y,
   fun i H v H'=>∃ p x y,H p = none /\ v = .ref p /\ H' = upd H p (.tup [x,y]) /\ (∀ xs,SqT K H a xs->xs[i]? = some x) /\ ∀ ys,SqT K H b ys->ys[i]? = some y,
   fun i H=>∃ xs,SqT K H a xs /\ xs.length <= i⟩
theorem Hf{h h':Heap}{j t:Addr}{k:Nat}(q:h.IsTupleIter j t k)(e:∀o,h.get? j=some o->h'.get? j=some o):h'.IsTupleIter j t k:=by
 obtain⟨o,q,r⟩:=q
 exact⟨o,e o q,r⟩
theorem Tf{P:Program}{w:World}{K:PySem.W.Frag}{es:List Expr}{k:Nat}{pos:Pos}{z ti to i1 i2 a b:Addr}(D:ZipApart z ti to i1 i2 a b):Turn P w K (.Tuple es k pos) (Itz K a b) [z,ti,to,i1,i2] z (fun i h=>ZipT h z ti to i1 i2 a b i) where
 mem:=by simp
 obj:=fun i h st c hc=>by
  obtain⟨hz,hTI,⟨x,y,hTO⟩,h1,h2⟩:=st
  simp only[List.mem_cons,List.not_mem_nil,or_false] at hc
  rcases hc with rfl|rfl|rfl|rfl|rfl
  ·exact⟨_,hz,fun v q=>by cases q⟩
  ·exact⟨_,hTI,fun v q=>by cases q⟩
  ·exact⟨_,hTO,fun v q=>by cases q⟩
  ·obtain⟨o,e,c,d⟩:=h1;exact⟨o,e,fun v q=>by rw[d] at q;cases q⟩
  ·obtain⟨o,e,c,d⟩:=h2;exact⟨o,e,fun v q=>by rw[d] at q;cases q⟩
 keep:=fun i h h' st kk=>by
  obtain⟨hz,hTI,⟨x,y,hTO⟩,h1,h2⟩:=st
  exact⟨kk z (by simp) _ hz,kk ti (by simp) _ hTI,⟨x,y,kk to (by simp) _ hTO⟩,Hf h1 fun o e=>kk i1 (by simp) o e,Hf h2 fun o e=>kk i2 (by simp) o e⟩
 item:=by
  intro X hP hw hK hc i pins s σ H E I hf st hg
  subst hP hw hK
  obtain⟨xs,ys,x,y,q1,q2,e1,e2⟩:=hg
  obtain⟨us,r1,p1,_⟩:=I.tuple q1
  obtain⟨ws,r2,p2,_⟩:=I.tuple q2
  obtain⟨u,hu,ru⟩:=r1.get e1
  obtain⟨v,hv,rv⟩:=r2.get e2
  have d:=st
  refine Gf (xs:=us.toArray) (ys:=ws.toArray) D st p1 p2 (x:=u) (y:=v) (by simpa using hu) (by simpa using hv) fun g a1 a2 a3 a4 a5 kk=>⟨_,rfl,?_⟩
  refine wpAny_letOwnedTupleGo_zip a1 fun g' z' sb=>?_
  have zl:z<s.heap.objs.size:=Heap.lt_size d.z
  have nz:s.heap.objs.size≠z:=Nat.ne_of_gt zl
  have up:∀c o,c ∉ [z,to,i1,i2]->s.heap.get? c=some o->g'.get? c=some o:=fun c o hc' e=>by
   simp only[List.mem_cons,List.not_mem_nil,or_false,not_or] at hc'
   exact sb.extBut _ _ hc'.1 (kk c o hc'.1 hc'.2.1 hc'.2.2.1 hc'.2.2.2 e)
  have sub:∀c∈[z,to,i1,i2],c∈[z,ti,to,i1,i2]:=fun c hc'=>by
   simp only[List.mem_cons,List.not_mem_nil,or_false] at hc' ⊢
   rcases hc' with q|q|q|q
   ·exact .inl q
   ·exact .inr (.inr (.inl q))
   ·exact .inr (.inr (.inr (.inl q)))
   ·exact .inr (.inr (.inr (.inr q)))
  have I1:Inv X pins σ H { s with heap:=g' }:=I.turns (t':=s.toks) up fun c hc'=>hf c (sub c hc')
  have t':IsPair g' s.heap.objs.size u v:=sb.extBut _ _ nz a5
  have I2:=I1.track (a:=s.heap.objs.size) (o:=.tup [x,y]) (I.fpOk (Nat.le_refl _) I.fresh) ⟨by show 2<=sizeLine;decide,[u,v],.cons ru (.cons rv .nil),⟨_,t',rfl,⟨_,rfl⟩,rfl⟩⟩
  refine⟨.ref s.heap.objs.size,_,I2,rfl,⟨_,x,y,I.fresh,rfl,rfl,fun xs' q=>by rw[I.tuple_inj q q1];exact e1,fun ys' q=>by rw[I.tuple_inj q q2];exact e2⟩,?_,fun c hc'=>?_⟩
  ·obtain⟨a',b',a2⟩:=a2
   refine⟨z',?_,⟨a',b',sb.extBut _ _ D.TOz a2⟩,a3.extBut sb.extBut D.i1z,a4.extBut sb.extBut D.i2z⟩
   exact sb.extBut _ _ D.TIz (kk _ _ D.TIz D.TITO D.TIi1 D.TIi2 d.ti)
  ·have ne:c≠s.heap.objs.size:=by
    have ex:∃o,s.heap.get? c=some o:=by
     obtain⟨hz,hTI,⟨x',y',hTO⟩,h1,h2⟩:=d
     simp only[List.mem_cons,List.not_mem_nil,or_false] at hc'
     rcases hc' with rfl|rfl|rfl|rfl|rfl
     ·exact⟨_,hz⟩
     ·exact⟨_,hTI⟩
     ·exact⟨_,hTO⟩
     ·obtain⟨o,e,_⟩:=h1;exact⟨o,e⟩
     ·obtain⟨o,e,_⟩:=h2;exact⟨o,e⟩
    obtain⟨o,e⟩:=ex
    exact Nat.ne_of_lt (Heap.lt_size e)
   rw[Xc ne]
   exact(hf c hc').1
 done:=by
  intro X hP hw hK hc i pins s σ H E I hf st hg
  subst hP hw hK
  obtain⟨xs,q1,hl⟩:=hg
  obtain⟨us,r1,p1,_⟩:=I.tuple q1
  have e:=r1.length
  have sub:∀c∈[z,to,i1,i2],c∈[z,ti,to,i1,i2]:=fun c hc'=>by
   simp only[List.mem_cons,List.not_mem_nil,or_false] at hc' ⊢
   rcases hc' with q|q|q|q
   ·exact .inl q
   ·exact .inr (.inr (.inl q))
   ·exact .inr (.inr (.inr (.inl q)))
   ·exact .inr (.inr (.inr (.inr q)))
  refine G3 (xs:=us.toArray) (I.ok.hd hc) D st p1 (by simp;omega) fun g kk=>⟨rfl,I.turns (t':=s.toks) (ch:=[z,to,i1,i2]) (fun c o hc' e=>?_) fun c hc'=>hf c (sub c hc')⟩
  simp only[List.mem_cons,List.not_mem_nil,or_false,not_or] at hc'
  exact kk c o hc'.1 hc'.2.1 hc'.2.2.1 hc'.2.2.2 e
 self:=fun _ _ _ _ _ st h=>wpAny_pyIter_zip st.z h
def iZip(K:PySem.W.Frag)(ta:TA):TI:=fun σ H R=>ta σ H fun vs H1=>∃a b xs ys,vs=[.ref a,.ref b]/\SqT K H1 a xs/\SqT K H1 b ys/\R (Itz K a b) H1
theorem Aan{X:Cx}{a b:Expr}{ta:TA}{p pos tp:Pos}{es:List Expr}{k:Nat}(hg:Gl X "zip")(hm:X.mg "zip"=none)(hv:bootBuiltins "zip"=some (.type "zip"))(ha:PA X [a,b] ta)
  (hs:starEach [a,b] X.env=[(false,eval a X.env),(false,eval b X.env)]:=by rfl) (hs2:starEach [b] X.env=[(false,eval b X.env)]:=by rfl):PI X (.Tuple es k tp) (.Call (.Name "zip" p) [a,b] [] pos) (iZip X.K ta):=by
 intro pins s σ H R I h
 refine Call_ (Dk I hg hm hv (PyProof.Rows.callWith_type1 (thn (ha pos pins s σ H _ I h) fun us s1 h1=>?_) (by rw[hs,hs2]) (by rw[hs2];rfl)))
 obtain⟨vs,H1,I1,r1,q1⟩:=h1
 obtain⟨c,d,xs,ys,rfl,q,q',hR⟩:=q1
 obtain⟨u,v,rfl,ru,rv⟩:=r1.two
 cases ru
 cases rv
 obtain⟨is,r,p1,_⟩:=I1.tuple q
 obtain⟨js,r',p2,_⟩:=I1.tuple q'
 have lt:∀{x:Addr} {its:List Value},IsTup s1.heap x its.toArray->x<s1.heap.objs.size:=fun z=>by
  obtain⟨o,e,_⟩:=z
  exact Heap.lt_size e
 refine Q1 (xs:=is.toArray) (ys:=js.toArray) p1 p2 fun g Z kk=>wpAny_pyIter_zip Z.z ?_
 refine⟨s1.heap.objs.size+4,[s1.heap.objs.size+4,s1.heap.objs.size+2,s1.heap.objs.size+3,s1.heap.objs.size,s1.heap.objs.size+1],_,_,H1,rfl,I1.kept (t':=s1.toks) kk,Tf (zipApart_new (lt p1) (lt p2)),Z,fun x hx=>?_,hR⟩
 have hl:s1.heap.objs.size<=x:=by
  simp only[List.mem_cons,List.not_mem_nil,or_false] at hx
  rcases hx with rfl|rfl|rfl|rfl|rfl <;> omega
 exact I1.fpOk hl (I1.hok.fresh hl)
end L2
end
section
namespace L2
open PySem PySem.Spec PyProof.Rows
section
variable{X:Cx}
theorem Aak{pins:List (Addr×Obj)}{σ:St}{H:Hp}{s:Shared}{x:V}{u t:Value}(I:Inv X pins σ H s)(rx:RelV x u)(ty:TyOf X.K H x t):∃Hh:Heap->Prop,PySem.W.KitX X.K u t Hh/\Hh s.heap/\u≠.builtin "__main__.__loader__#opaque":=by
 cases ty with
 |non=>cases (show u=Value.none from rx);exact⟨_,PySem.W.kitx_none,True.intro,fun z=>nomatch z⟩
 |bl y=>cases (show u=Value.bool y from rx);exact⟨_,PySem.W.kitx_bool,True.intro,fun z=>nomatch z⟩
 |int i=>obtain⟨t,q⟩:=(show ∃t,u=Value.int i t from rx);cases q;exact⟨_,PySem.W.kitx_int,True.intro,fun z=>nomatch z⟩
 |str y=>obtain⟨t,q⟩:=(show ∃t,u=Value.str y t from rx);cases q;exact⟨_,PySem.W.kitx_str,True.intro,fun z=>nomatch z⟩
 |flt y=>obtain⟨t,q⟩:=(show ∃t,u=Value.float y t from rx);cases q;exact⟨_,PySem.W.kitx_float,True.intro,fun z=>nomatch z⟩
 | @lst a xs ea =>
  cases (show u=Value.ref a from rx)
  obtain⟨_,_,n,_,h1⟩:=(show ObjOk X.prog X.w H s.heap a (.lst xs) from I.hok a _ ea)
  exact⟨_,PySem.W.kitx_list,⟨_,h1,rfl⟩,fun z=>nomatch z⟩
 | @frz a ob xs ea =>
  cases (show u=Value.ref a from rx)
  obtain⟨_,_,_,n,_,h1⟩:=(show ObjOk X.prog X.w H s.heap a (.frz ob (.lst xs)) from I.hok a _ ea)
  exact⟨_,PySem.W.kitx_list,⟨_,h1,rfl⟩,fun z=>nomatch z⟩
 | @tup a xs ea =>
  cases (show u=Value.ref a from rx)
  obtain⟨_,_,_,p⟩:=(show ObjOk X.prog X.w H s.heap a (.tup xs) from I.hok a _ ea)
  obtain⟨o,h1,h2,_⟩:=p
  exact⟨_,PySem.W.kitx_tuple,⟨o,h1,h2⟩,fun z=>nomatch z⟩
 | @dK a kvs ea =>
  cases (show u=Value.ref a from rx)
  obtain⟨_,_,vs,_,p⟩:=(show ObjOk X.prog X.w H s.heap a (.dK kvs) from I.hok a _ ea)
  obtain⟨o,es,ep,h1,h2,_⟩:=p
  exact⟨_,PySem.W.kitx_dict,⟨o,h1,h2.1⟩,fun z=>nomatch z⟩
 | @dT a kvs ea =>
  cases (show u=Value.ref a from rx)
  obtain⟨_,_,xs,_,o,es,ep,h1,h2,_⟩:=(show ObjOk X.prog X.w H s.heap a (.dT kvs) from I.hok a _ ea)
  exact⟨_,PySem.W.kitx_dict,⟨o,h1,h2.1⟩,fun z=>nomatch z⟩
 | @ins a C dx fs ea cl ha hn htk hm =>
  cases (show u=Value.ref a from rx)
  obtain⟨mA,O,_⟩:=Ws I.hok ea
  obtain⟨od,J,_⟩:=O.look
  exact⟨_,PySem.W.kitx_own (cl.get _) cl.hd ha hn htk hm,J,fun z=>nomatch z⟩
def TyV(K:PySem.W.Frag)(H:Hp)(x:V)(t:Value):Prop:=TyOf K H x t\/(t=.type "tuple"/\∃a o,x=.ref a/\K.lookup a=some o/\o.cls=.type "tuple")
theorem Ph{pins:List (Addr×Obj)}{σ:St}{H:Hp}{s:Shared}{x:V}{u t:Value}(I:Inv X pins σ H s)(rx:RelV x u)(ty:TyV X.K H x t):∃Hh:Heap->Prop,PySem.W.KitX X.K u t Hh/\Hh s.heap/\u≠.builtin "__main__.__loader__#opaque":=by
 rcases ty with ty|⟨rfl,a,o,rfl,hk,hc⟩
 ·exact Aak I rx ty
 ·cases (show u=Value.ref a from rx)
  exact⟨_,PySem.W.kitx_tuple,⟨o,I.kIn a o hk,hc⟩,fun z=>nomatch z⟩
def rIsi(K:PySem.W.Frag):List V->Hp->VK->Prop:=fun xs H Q=>∃x t b,TyV K H x t/\((∃c,xs=[x,.ty c]/\PySem.W.kitOne K t (.type c)=some b)\/∃p c d,xs=[x,.ref p]/\SqT K H p [.ty c,.ty d]/\PySem.W.kitAny K t [.type c,.type d]=some b)/\Q (.bl b) H
theorem Qv:CallR X (.builtin "isinstance") (rIsi X.K):=by
 intro pins s σ H xs us Q I r h
 obtain⟨x,t,b,ty,h,q⟩:=h
 have fin:∀tk,EP X pins σ Q (.bool b) { s with toks:=tk }:=fun tk=>⟨.bl b,H,I.tok tk,rfl,q⟩
 rcases h with⟨c,rfl,e⟩|⟨p,c,d,rfl,hp,e⟩
 ·obtain⟨u,u2,rfl,r1,r2⟩:=Kn r
  cases (show u2=Value.type c from r2)
  obtain⟨Hh,Z,hh,hne⟩:=Ph I r1 ty
  exact PySem.W.kia_one Z I.kIn hh e hne fin
 ·obtain⟨u,u2,rfl,r1,r2⟩:=Kn r
  cases (show u2=Value.ref p from r2)
  obtain⟨Hh,Z,hh,hne⟩:=Ph I r1 ty
  obtain⟨its,rv,pt,_⟩:=I.tuple hp
  obtain⟨u,w',rfl,ru,rw'⟩:=rv.two
  cases (show u=Value.type c from ru)
  cases (show w'=Value.type d from rw')
  obtain⟨⟨cls,dd,data,sl⟩,ho,hc,n,hd⟩:=pt
  simp only at hc hd
  subst hc hd
  exact PySem.W.kia_tup Z I.kIn hh ho e hne fin
def rCatU(K:PySem.W.Frag):R2:=fun x y H Q=>∃a b xs ys,x=.ref a/\y=.ref b/\SqT K H a xs/\SqT K H b ys/\xs.length+ys.length<=sizeLine ∧
 (xs=[]->Q (.ref b) H)/\(xs≠[]->ys=[]->Q (.ref a) H)/\(xs≠[]->ys≠[]->∀p,H p=none->Q (.ref p) (upd H p (.tup (xs++ys))))
theorem U0:OpR X (binaryOp .Add) (rCatU X.K):=by
 intro pins s σ H x y v u Q I rx ry h
 obtain⟨a,b,xs,ys,rfl,rfl,ha,hb,hz,q0,q1,q2⟩:=h
 by_cases hx:xs=[]
 ·subst hx
  cases rx
  cases ry
  obtain⟨its,r1,p1,_⟩:=I.tuple ha
  obtain⟨its2,r2,p2,_⟩:=I.tuple hb
  obtain⟨⟨cls,dd,data,sl⟩,ho,hc,n,hd⟩:=p1
  obtain⟨⟨cls2,dd2,data2,sl2⟩,ho2,hc2,n2,hd2⟩:=p2
  simp only at hc hd hc2 hd2
  subst hc hd hc2 hd2
  exact concat_meets ⟨_,ho,rfl⟩ ⟨_,ho2,rfl⟩ noFill_tuple_add seq_tuple_add PySem.F.slot_tuple_add PySem.F.entry_tuple_add (PySem.F.args_tuple_add_2 _ _)
   (tuple_addW0 a b its.toArray its2.toArray n n2 dd dd2 sl sl2 (by rw[r1.nil_iff.mpr rfl];rfl)) ⟨ho,ho2,⟨.ref b,H,I,rfl,q0 rfl⟩⟩
 ·exact V8 pins s σ H _ _ v u Q I rx ry ⟨a,b,xs,ys,rfl,rfl,ha,hb,hx,hz,fun e=>q1 hx e,fun e=>q2 hx e⟩
theorem Vals.pick{xs:List V}{us:List Value}(r:Vals xs us):∀ix:List Nat,Vals (ix.filterMap fun (i:Nat)=>xs[i]?) (ix.filterMap fun (i:Nat)=>us[i]?)
 |[]=>.nil
 |i::ix=>by
  cases e:xs[i]? with
  |none=>simp only[List.filterMap_cons,e,r.none_of e];exact Vals.pick r ix
  |some x =>
   obtain⟨u,hu,ru⟩:=r.get e
   simp only[List.filterMap_cons,e,hu]
   exact .cons ru (Vals.pick r ix)
theorem Ng(n:Nat):Builtin.Slice.sliceAdjust none none (-1) (n:Int)=((n:Int) - 1,-1)/\Builtin.Slice.slicePlaces ((n:Int) - 1) (-1) (-1)<=n:=by
 refine⟨rfl,?_⟩
 unfold Builtin.Slice.slicePlaces
 rw[if_neg (by decide),show (-(-1):Int)=1 from rfl,Int.ediv_one]
 split <;> omega
section
variable{prog:Program}{w:World}{A:Around}{E:Value->Shared->Prop}{s:Shared}
theorem Fr{t sl:Addr}{its:List Value}{tk:Tok}{Q:Value->Shared->Prop}(ht:IsTup s.heap t its.toArray)(hs:s.heap.IsSliceOf sl .none .none (.int (-1) tk))
  (h:∀ix:List Nat,ix.length<=its.length->Q (.ref s.heap.objs.size) { s with heap:=s.heap.push { cls:=.type "tuple",data:=.seq (ix.filterMap fun (i:Nat)=>its[i]?).toArray } }) (hsz:its.length<=sizeLine) :
  wpAny (model prog w) A (getItem (.ref t) (.ref sl)) Q E s:=by
 obtain⟨os,hos,hcs,hds⟩:=id hs
 have hTs:s.TypeIs (.ref sl) "slice":=⟨os,hos,hcs⟩
 unfold getItem
 try with_reducible refine wpAny_holding ?_
 first|refine wpAny_bind (wpAny_pure ?_)|skip
 refine wpAny_bind (wpAny_sequenceKey ht.typeIs (by decide) ?_)
 refine wpAny_bind (wpAny_callSpecial?_slot (name:=Str.ofString "__getitem__") ht.typeIs PyProof.Rows.slot_tuple_getitem (wpAny_call_entry PyProof.Rows.slot_tuple_getitem ht.typeIs entry_tuple_getitem ?_ (args_tuple_getitem _ _)))
 show wpAny (model prog w) _ (Builtin.Tuple.tupleItemsOf (.ref t) >>= _) _ _ s
 refine wpAny_bind (tupleItemsOf_ ht ?_)
 refine wpAny_bind (wpAny_typeOf hTs ?_)
 rw[if_pos (by decide)]
 refine wpAny_bind ?_
 unfold Builtin.Slice.sliceApplied Builtin.Slice.sliceFields
 refine wpAny_bind (wpAny_bind (wpAny_field hos hds (x:=.none) rfl (wpAny_bind (wpAny_field hos hds (x:=.none) rfl (wpAny_bind (wpAny_field hos hds (x:=.int (-1) tk) rfl (wpAny_pure ?_)))))))
 refine wpAny_bind (slicePart_int ?_)
 show wpAny (model prog w) _ (if ((-1:Int)==0)=true then _ else _) _ _ s
 rw[if_neg (by decide)]
 refine wpAny_bind (slicePart_none (wpAny_bind (slicePart_none (wpAny_bind (wpAny_pure ?_)))))
 have e1:its.toArray.size=its.length:=List.size_toArray
 show wpAny (model prog w) _ (match Builtin.Slice.sliceAdjust none none (-1) (its.toArray.size:Int) with|(lo,hi)=>pure (lo,(-1:Int),Builtin.Slice.slicePlaces lo hi (-1))) _ _ s
 obtain⟨a1,a2⟩:=Ng its.length
 rw[e1,a1]
 refine wpAny_pure ?_
 have hno:¬ ((((its.length:Int) - 1)==0&&(-1:Int)==1&&Builtin.Slice.slicePlaces ((its.length:Int) - 1) (-1) (-1)==its.length)=true):=by
  intro q
  rw[Bool.and_eq_true,Bool.and_eq_true] at q
  exact absurd q.1.2 (by decide)
 generalize hm:Builtin.Slice.slicePlaces ((its.length:Int) - 1) (-1) (-1)=m at a2 hno ⊢
 dsimp only
 rw[if_neg hno]
 have e2:((List.range m).filterMap fun (k:Nat)=>its.toArray[((its.length:Int) - 1+(k:Int) * -1).toNat]?)=(((List.range m).map fun (k:Nat)=>((its.length:Int) - 1+(k:Int) * -1).toNat).filterMap fun (i:Nat)=>its[i]?):=by
  rw[List.filterMap_map]
  congr 1
  funext k
  simp
 rw[e2]
 have h':=h ((List.range m).map fun (k:Nat)=>((its.length:Int) - 1+(k:Int) * -1).toNat) (by simpa using a2)
 have htake:sizeOk (.seq ((((List.range m).map fun (k:Nat)=>((its.length:Int) - 1+(k:Int) * -1).toNat).filterMap fun (i:Nat)=>its[i]?).toArray)):=by
  show ((((List.range m).map fun (k:Nat)=>((its.length:Int) - 1+(k:Int) * -1).toNat).filterMap fun (i:Nat)=>its[i]?).toArray).size<=sizeLine
  rw[List.size_toArray]
  refine Nat.le_trans (List.length_filterMap_le _ _) ?_
  simp
  omega
 first
  |exact wpAny_bind (m:=Builtin.Tuple.tupleExact _) (wpAny_newObj_type (wpAny_pure ⟨_,rfl,wpAny_pure h'⟩) htake)
  |exact wpAny_bind (m:=Builtin.Tuple.tupleExact _) (wpAny_newObj_type (wpAny_bind (wpAny_pure (wpAny_pure ⟨_,rfl,wpAny_pure h'⟩))) htake)
  |exact wpAny_bind (wpAny_bind (m:=Builtin.Tuple.tupleExact _) (wpAny_newObj_type (wpAny_pure (wpAny_pure ⟨_,rfl,wpAny_pure h'⟩)) htake))
  |exact wpAny_bind (wpAny_bind (m:=Builtin.Tuple.tupleExact _) (wpAny_newObj_type (wpAny_pure ⟨_,rfl,wpAny_pure h'⟩) htake))
end
def tRev (K:PySem.W.Frag) (te:TE):TE:=fun σ H Q=>te σ H fun x H1=>∃ a xs,x = .ref a ∧
  ((SqL K H1 a xs /\ ∀ ix:List Nat,(ix.filterMap fun (i:Nat)=>xs[i]?).length <= xs.length->∀ p,H1 p = none->Q (.ref p) (upd H1 p (.lst (ix.filterMap fun (i:Nat)=>xs[i]?)))) ∨
   (SqT K H1 a xs /\ ∀ ix:List Nat,(ix.filterMap fun (i:Nat)=>xs[i]?).length <= xs.length->∀ p,H1 p = none->Q (.ref p) (upd H1 p (.tup (ix.filterMap fun (i:Nat)=>xs[i]?)))))
theorem Y5{e:Expr}{te:TE}{p1 p2 p3 pos:Pos}{j:Nat}(he:PE X e te):PE X (.Subscript e (.Slice none none (some (.UnaryOp .USub (.Constant (.int 1) j p1) p2)) p3) pos) (tRev X.K te):=by
 intro pins s σ H Q I h
 refine Subscript_ (thn (he pins s σ H _ I h) fun v s1 h1=>?_)
 obtain⟨x,H1,I1,r1,q1⟩:=h1
 refine wpAny_Slice ?_
 rw[evalPart_none,evalPart_some]
 refine wpAny_pure (wpAny_pure ?_)
 refine thn (Sy (pos:=p2) Rj (Uv (X:=X) (i:=1) (j:=j) (pos:=p1)) pins s1 σ H1 (fun v H2=>v=.int (-1)/\H2=H1) I1 ⟨1,rfl,rfl,rfl⟩) fun vs s2 h2=>?_
 obtain⟨y,H2,I2,r2,rfl,rfl⟩:=h2
 obtain⟨tk,rfl⟩:=r2
 obtain⟨a,xs,rfl,q⟩:=q1
 cases r1
 have I4:Inv X pins σ H2 { s2 with heap:=s2.heap.push { cls:=.type "slice",data:=.fields #[.none,.none,.int (-1) tk] } }:=I2.kept (t':=s2.toks) fun b ob q=>Heap.get?_push_of_some _ q
 have hs:(s2.heap.push { cls:=.type "slice",data:=.fields #[.none,.none,.int (-1) tk] }).IsSliceOf s2.heap.objs.size .none .none (.int (-1) tk):=Heap.IsSliceOf.new ..
 show wpAny (model X.prog X.w) X.A (subscriptTail e (.Slice none none (some (.UnaryOp .USub (.Constant (.int 1) j p1) p2)) p3) (.ref a) (.ref s2.heap.objs.size)) (EP X pins σ Q) X.xe { s2 with heap:=s2.heap.push { cls:=.type "slice",data:=.fields #[.none,.none,.int (-1) tk] } }
 rcases q with⟨hx,q⟩|⟨hx,q⟩
 ·obtain⟨its,r,ht,hz⟩:=I4.list hx
  have hl:=r.length
  refine tail_any (ops:=[.ref a,.ref s2.heap.objs.size]) ht.isList.typeIs slot_list_getitem.lookup ?_ (by with_unfolding_all rfl)
  refine wpAny_getItem_list_slice ht.isList hs .none .none (.int (-1) tk) (by decide) ?_ (by rw[List.size_toArray];omega)
  have hsz:=slicePick_size_le its.toArray none none (some (-1))
  have e:slicePick its.toArray none none (some (-1))=(((sliceRange (sliceBounds none none (some (-1)) its.toArray.size).1 (sliceBounds none none (some (-1)) its.toArray.size).2.1 (sliceBounds none none (some (-1)) its.toArray.size).2.2)).filterMap fun (i:Nat)=>its[i]?).toArray:=by
   unfold slicePick
   congr 2
   funext i
   simp
  rw[e] at hsz ⊢
  generalize sliceRange (sliceBounds none none (some (-1)) its.toArray.size).1 (sliceBounds none none (some (-1)) its.toArray.size).2.1 (sliceBounds none none (some (-1)) its.toArray.size).2.2=ix at hsz ⊢
  have rp:=r.pick ix
  have hl2:=rp.length
  refine⟨.ref _,_,I4.laid (t':=s2.toks) (o:=.lst (ix.filterMap fun (i:Nat)=>xs[i]?)) (fun b ob q=>Heap.get?_push_of_some _ q) (Nat.le_refl _) ?_,rfl,q ix (by rw[List.size_toArray,List.size_toArray] at hsz;omega) _ (I4.hok.fresh (Nat.le_refl _))⟩
  refine⟨?_,_,0,rp,Heap.get?_push_size _ rfl⟩
  rw[List.size_toArray,List.size_toArray] at hsz
  omega
 ·obtain⟨its,r,ht,hz⟩:=I4.tuple hx
  have hl:=r.length
  refine tail_any (ops:=[.ref a,.ref s2.heap.objs.size]) ht.typeIs PyProof.Rows.slot_tuple_getitem.lookup ?_ (by with_unfolding_all rfl)
  refine Fr ht hs (fun ix hix=>?_) (by omega)
  have rp:=r.pick ix
  have hl2:=rp.length
  refine⟨.ref _,_,I4.laid (t':=s2.toks) (o:=.tup (ix.filterMap fun (i:Nat)=>xs[i]?)) (fun b ob q=>Heap.get?_push_of_some _ q) (Nat.le_refl _) ?_,rfl,q ix (by have:=List.length_filterMap_le (fun (i:Nat)=>xs[i]?) ix;omega) _ (I4.hok.fresh (Nat.le_refl _))⟩
  refine⟨?_,_,rp,TupN.new _ _⟩
  have:=List.length_filterMap_le (fun (i:Nat)=>xs[i]?) ix
  omega
end
end L2
end
section
namespace L2
open PySem PySem.Spec PyProof.Rows
section
variable{X:Cx}
def rEqN(K:PySem.W.Frag)(neg:Bool):R2:=fun x y H Q=>∃a b xs,x=.ref a/\y=.ref b/\SqL K H a xs/\SqL K H b []/\Q (.bl (Bool.xor neg xs.isEmpty)) H
theorem Ta(hu:X.A.units<cLine):OpR X (compareOp .Eq) (rEqN X.K false):=by
 intro pins s σ H x y v u Q I rx ry h
 obtain⟨a,b,xs,rfl,rfl,ha,hb,q⟩:=h
 cases rx
 cases ry
 obtain⟨its,r1,p1,_⟩:=I.list ha
 obtain⟨its2,r2,p2,_⟩:=I.list hb
 have e2:its2=[]:=r2.nil_iff.mpr rfl
 subst e2
 by_cases hx:xs=[]
 ·subst hx
  have e1:its=[]:=r1.nil_iff.mpr rfl
  subst e1
  exact SeqAt.eq_listAt (e:=fun _=>true) p1.isList p2.isList rfl hu (fun j h1 _=>absurd h1 (by simp)) ⟨.bl true,H,I,rfl,q⟩
 ·have e1:its≠[]:=fun z=>hx (r1.nil_iff.mp z)
  have e:xs.isEmpty=false:=by cases xs with
   |nil=>exact absurd rfl hx
   |cons=>rfl
  refine SeqAt.eq_list_lengthsAt p1.isList p2.isList ?_ hu ⟨.bl false,H,I,rfl,by rw[e] at q;exact q⟩
  cases its with
  |nil=>exact absurd rfl e1
  |cons=>simp
theorem Tj(hu:X.A.units<cLine):OpR X (compareOp .NotEq) (rEqN X.K true):=by
 intro pins s σ H x y v u Q I rx ry h
 obtain⟨a,b,xs,rfl,rfl,ha,hb,q⟩:=h
 cases rx
 cases ry
 obtain⟨its,r1,p1,_⟩:=I.list ha
 obtain⟨its2,r2,p2,_⟩:=I.list hb
 have e2:its2=[]:=r2.nil_iff.mpr rfl
 subst e2
 by_cases hx:xs=[]
 ·subst hx
  have e1:its=[]:=r1.nil_iff.mpr rfl
  subst e1
  exact SeqAt.RcNeAt.lists (e:=fun _=>true) p1.isList p2.isList rfl hu (fun j h1 _=>absurd h1 (by simp)) X.prog X.w _ _ ⟨.bl false,H,I,rfl,q⟩
 ·have e1:its≠[]:=fun z=>hx (r1.nil_iff.mp z)
  have e:xs.isEmpty=false:=by cases xs with
   |nil=>exact absurd rfl hx
   |cons=>rfl
  refine SeqAt.RcNeAt.lists_lengths p1.isList p2.isList ?_ hu X.prog X.w _ _ ⟨.bl true,H,I,rfl,by rw[e] at q;exact q⟩
  cases its with
  |nil=>exact absurd rfl e1
  |cons=>simp
def KD(P:Program)(w:World)(K:PySem.W.Frag)(a:Addr)(kvs:List (Key×V)):Prop:=(a==sysModules)=false/\∃vs,KV kvs vs/\∀h:Heap,K.In h->h.DictOf (mixKind P w) a vs
def tKGet(kvs:List (Key×V))(ty:TE):TE:=fun σ H Q=>ty σ H fun y H1=>∃k,y=kV k/\Q ((valV kvs k).getD .non) H1
theorem W3{x:Str}{a:Addr}{kvs:List (Key×V)}{e:Expr}{ty:TE}{p apos cpos:Pos}(hg:Gl X x)(hm:X.mg x=some (.ref a))(kd:KD X.prog X.w X.K a kvs)(he:PE X e ty)(m:M1 X (.Name x p) "get" apos e cpos)
  (hd:(x==("__debug__":Str))=false:=by decide):PE X (.Call (.Attribute (.Name x p) "get" apos) [e] [] cpos) (tKGet kvs ty):=by
 intro pins s σ H Q I h
 obtain⟨hsm,vs,rel,hdd⟩:=kd
 refine wpAny_Call_method m.base m.few m.line PySem.F.plainAttrs_dict PySem.F.slot_dict_get PySem.F.type_dict_get (Es I hg hm ?_ hd)
 have dd:=hdd s.heap I.kIn
 refine⟨dd.typeIs,fun b q=>?_,?_⟩
 ·cases q
  obtain⟨ob,_,_,h1,h2,_⟩:=dd
  exact⟨ob,h1,h2.2.1⟩
 rw[m.trees]
 refine Calls.callWith_builtin rfl (Calls.evalArgs_plain (Calls.spliced_cons (thn (he pins s σ H _ I h) fun iv s2 h2=>Calls.spliced_nil ?_)))
 obtain⟨y,H2,I2,ry,k,rfl,q2⟩:=h2
 have dd2:=hdd s2.heap I2.kIn
 refine call_meetsIn PySem.F.slot_dict_get dd2.typeIs PySem.F.entry_dict_get (PySem.F.args_dict_get_2 _ _) (meets_dict_get (mixKind X.prog X.w) a (Os ry) hsm) ⟨_,dd2.mapOf,?_⟩
 exact⟨(valV kvs k).getD .non,H2,I2.tok _,RelO.getD (d:=V.non) (rel.val k) rfl,q2⟩
end
end L2
end
section
namespace TL
open PySem PySem.Spec PyProof.Rows L2
inductive T where
 |non|bl (b:Bool)|int (i:Int)|str (x:Str)|ty (n:String)
 |tup (ts:List T)|lst (ts:List T)|fls (ts:List T)|dct (kts:List (Key×T))|ref (a:Addr)
inductive Cell where
 |lst (ts:List T)|dct (kts:List (Key×T))|ins (C:Addr) (fs:List (Str×T))|tpl (ts:List T)|dtt (kts:List (List Key×T))
abbrev TH:=Addr->Option Cell
def C8(S:TH)(a:Addr)(c:Cell):TH:=fun b=>if b=a then some c else S b
def F0(S:TH)(a:Addr):TH:=fun b=>if b=a then none else S b
theorem Zd{S:TH}{a:Addr}{c:Cell}:C8 S a c a=some c:=by unfold C8;rw[if_pos rfl]
theorem A5{S:TH}{a b:Addr}{c:Cell}(h:b≠a):C8 S a c b=S b:=by unfold C8;rw[if_neg h]
theorem C4{S:TH}{a:Addr}:F0 S a a=none:=by unfold F0;rw[if_pos rfl]
theorem En{S:TH}{a b:Addr}(h:b≠a):F0 S a b=S b:=by unfold F0;rw[if_neg h]
def KL(K:PySem.W.Frag)(a:Addr)(vs:List V):Prop:=∃(o:Obj) (its:Array Value) (n:Nat),K.lookup a=some o/\o.cls=.type "list"/\o.dict=none/\o.data=.seq its n/\its.size<=sizeLine/\Vals vs its.toList
def KTu(K:PySem.W.Frag)(a:Addr)(vs:List V):Prop:=∃(o:Obj) (its:Array Value) (n:Nat),K.lookup a=some o/\o.cls=.type "tuple"/\o.data=.seq its n/\its.size<=sizeLine/\Vals vs its.toList/\o.dict=none
def FL(S:TH)(H:Hp)(a:Addr)(vs:List V):Prop:=S a=none/\H a=some (.lst vs)
def FX(K:PySem.W.Frag)(S:TH)(H:Hp)(a:Addr)(vs:List V):Prop:=(S a=none/\∃o,H a=some (.frz o (.lst vs)))\/KL K a vs
def FT(K:PySem.W.Frag)(S:TH)(H:Hp)(a:Addr)(vs:List V):Prop:=(S a=none/\H a=some (.tup vs))\/KTu K a vs
section
variable{K:PySem.W.Frag}{S S':TH}{H H':Hp}{a:Addr}{vs:List V}
theorem FL.sq(h:FL S H a vs):SqL K H a vs:=.inl (.inl h.2)
theorem FX.sq(h:FX K S H a vs):SqL K H a vs:=h.elim (fun z=>.inl (.inr z.2)) .inr
theorem FT.sq(h:FT K S H a vs):SqT K H a vs:=h.elim (fun z=>.inl (.inl z.2)) .inr
end
inductive Rep(K:PySem.W.Frag)(S:TH)(H:Hp):V->T->Prop where
 |non:Rep K S H .non .non
 |bl (b:Bool):Rep K S H (.bl b) (.bl b)
 |int (i:Int):Rep K S H (.int i) (.int i)
 |str (x:Str):Rep K S H (.str x) (.str x)
 |ty (n:String):Rep K S H (.ty n) (.ty n)
 |ref (a:Addr):Rep K S H (.ref a) (.ref a)
 |tup {a:Addr} {vs:List V} {ts:List T}:FT K S H a vs->vs.length=ts.length->(∀(i:Nat) v t,vs[i]?=some v->ts[i]?=some t->Rep K S H v t)->Rep K S H (.ref a) (.tup ts)
 |lst {a:Addr} {vs:List V} {ts:List T}:FL S H a vs->vs.length=ts.length->(∀(i:Nat) v t,vs[i]?=some v->ts[i]?=some t->Rep K S H v t)->Rep K S H (.ref a) (.lst ts)
 |fls {a:Addr} {vs:List V} {ts:List T}:FX K S H a vs->vs.length=ts.length->(∀(i:Nat) v t,vs[i]?=some v->ts[i]?=some t->Rep K S H v t)->Rep K S H (.ref a) (.fls ts)
 |dct {a:Addr} {kvs:List (Key×V)} {kts:List (Key×T)}:(S a=none/\H a=some (.dK kvs))->kvs.length=kts.length->(∀(i:Nat) v t,kvs[i]?=some v->kts[i]?=some t->v.1=t.1)->(∀(i:Nat) v t,kvs[i]?=some v->kts[i]?=some t->Rep K S H v.2 t.2)->Rep K S H (.ref a) (.dct kts)
def Reps(K:PySem.W.Frag)(S:TH)(H:Hp)(vs:List V)(ts:List T):Prop:=vs.length=ts.length/\∀(i:Nat) v t,vs[i]?=some v->ts[i]?=some t->Rep K S H v t
def RepK(K:PySem.W.Frag)(S:TH)(H:Hp)(kvs:List (Key×V))(kts:List (Key×T)):Prop:=kvs.length=kts.length/\∀(i:Nat) v t,kvs[i]?=some v->kts[i]?=some t->v.1=t.1/\Rep K S H v.2 t.2
def RepF(K:PySem.W.Frag)(S:TH)(H:Hp)(fvs:List (Str×V))(fts:List (Str×T)):Prop:=fvs.length=fts.length/\∀(i:Nat) v t,fvs[i]?=some v->fts[i]?=some t->v.1=t.1/\Rep K S H v.2 t.2
def RepQ(K:PySem.W.Frag)(S:TH)(H:Hp)(kvs:List (List Key×V))(kts:List (List Key×T)):Prop:=kvs.length=kts.length/\∀(i:Nat) v t,kvs[i]?=some v->kts[i]?=some t->v.1=t.1/\Rep K S H v.2 t.2
def Le(S:TH)(H:Hp)(S':TH)(H':Hp):Prop:=∀b o,S b=none->H b=some o->S' b=none/\H' b=some o
def CellOk(K:PySem.W.Frag)(S:TH)(H:Hp)(a:Addr):Cell->Prop
 | .lst ts=>∃vs,H a=some (.lst vs)/\Reps K S H vs ts
 | .dct kts=>∃kvs,H a=some (.dK kvs)/\RepK K S H kvs kts
 | .ins C fts=>∃dx fvs,H a=some (.ins C dx fvs)/\RepF K S H fvs fts
 | .tpl ts=>∃vs,H a=some (.tup vs)/\Reps K S H vs ts
 | .dtt kts=>∃kvs,H a=some (.dT kvs)/\RepQ K S H kvs kts
def Good(K:PySem.W.Frag)(S:TH)(H:Hp):Prop:=∀a c,S a=some c->CellOk K S H a c
section
variable{K:PySem.W.Frag}{S S' S'':TH}{H H' H'':Hp}{a:Addr}{v:V}{t:T}{vs ws:List V}{ts us:List T}
theorem Le.refl:Le S H S H:=fun _ _ n e=>⟨n,e⟩
theorem Le.trans(x:Le S H S' H')(y:Le S' H' S'' H''):Le S H S'' H'':=fun b o n e=>let ⟨n',e'⟩:=x b o n e;y b o n' e'
theorem FL.mono(le:Le S H S' H')(h:FL S H a vs):FL S' H' a vs:=le _ _ h.1 h.2
theorem FX.mono(le:Le S H S' H')(h:FX K S H a vs):FX K S' H' a vs:=h.elim (fun ⟨n,o,e⟩=>.inl ⟨(le _ _ n e).1,o,(le _ _ n e).2⟩) .inr
theorem FT.mono(le:Le S H S' H')(h:FT K S H a vs):FT K S' H' a vs:=h.elim (fun z=>.inl (le _ _ z.1 z.2)) .inr
theorem Rep.mono(le:Le S H S' H')(h:Rep K S H v t):Rep K S' H' v t:=by
 induction h with
 |non=>exact .non
 |bl b=>exact .bl b
 |int i=>exact .int i
 |str x=>exact .str x
 |ty n=>exact .ty n
 |ref a=>exact .ref a
 |tup f l _ ih=>exact .tup (f.mono le) l ih
 |lst f l _ ih=>exact .lst (f.mono le) l ih
 |fls f l _ ih=>exact .fls (f.mono le) l ih
 |dct f l r _ ih=>exact .dct (le _ _ f.1 f.2) l r ih
theorem Reps.mono(le:Le S H S' H')(h:Reps K S H vs ts):Reps K S' H' vs ts:=⟨h.1,fun i v t e1 e2=>(h.2 i v t e1 e2).mono le⟩
theorem RepK.mono{kvs:List (Key×V)}{kts:List (Key×T)}(le:Le S H S' H')(h:RepK K S H kvs kts):RepK K S' H' kvs kts:=⟨h.1,fun i v t e1 e2=>⟨(h.2 i v t e1 e2).1,(h.2 i v t e1 e2).2.mono le⟩⟩
theorem RepF.mono{fvs:List (Str×V)}{fts:List (Str×T)}(le:Le S H S' H')(h:RepF K S H fvs fts):RepF K S' H' fvs fts:=⟨h.1,fun i v t e1 e2=>⟨(h.2 i v t e1 e2).1,(h.2 i v t e1 e2).2.mono le⟩⟩
theorem Reps.nil:Reps K S H [] []:=⟨rfl,fun _ _ _ e=>by simp at e⟩
theorem Reps.cons(h:Rep K S H v t)(r:Reps K S H vs ts):Reps K S H (v::vs) (t::ts):=by
 refine⟨by simp only[List.length_cons,r.1],fun i v' t' e1 e2=>?_⟩
 cases i with
 |zero=>simp at e1 e2;subst e1;subst e2;exact h
 |succ i=>exact r.2 i v' t' (by simpa using e1) (by simpa using e2)
theorem Reps.head(h:Reps K S H (v::vs) (t::ts)):Rep K S H v t:=h.2 0 v t rfl rfl
theorem Reps.tail(h:Reps K S H (v::vs) (t::ts)):Reps K S H vs ts:=⟨by simpa using h.1,fun i v' t' e1 e2=>h.2 (i+1) v' t' (by simpa using e1) (by simpa using e2)⟩
theorem Reps.append:∀{vs:List V} {ts:List T},Reps K S H vs ts->Reps K S H ws us->Reps K S H (vs++ws) (ts++us)
 |[],[],_,r=>r
 |v::vs,t::ts,h,r=>Reps.cons h.head (Reps.append h.tail r)
 |[],_::_,h,_=>by have:=h.1;simp at this
 |_::_,[],h,_=>by have:=h.1;simp at this
theorem Reps.get{i:Nat}(h:Reps K S H vs ts)(e:ts[i]?=some t):∃v,vs[i]?=some v/\Rep K S H v t:=by
 have hi:i<ts.length:=(List.getElem?_eq_some_iff.mp e).1
 have hi':i<vs.length:=by rw[h.1];exact hi
 exact⟨vs[i],List.getElem?_eq_getElem hi',h.2 i _ t (List.getElem?_eq_getElem hi') e⟩
theorem Reps.get'{i:Nat}(h:Reps K S H vs ts)(e:vs[i]?=some v):∃t,ts[i]?=some t/\Rep K S H v t:=by
 have hi:i<vs.length:=(List.getElem?_eq_some_iff.mp e).1
 have hi':i<ts.length:=by rw[<-h.1];exact hi
 exact⟨ts[i],List.getElem?_eq_getElem hi',h.2 i v _ e (List.getElem?_eq_getElem hi')⟩
theorem Reps.drop(h:Reps K S H vs ts)(n:Nat):Reps K S H (vs.drop n) (ts.drop n) :=
 ⟨by simp only[List.length_drop,h.1],fun i v t e1 e2=>h.2 (n+i) v t (by simpa using e1) (by simpa using e2)⟩
theorem Reps.take(h:Reps K S H vs ts)(n:Nat):Reps K S H (vs.take n) (ts.take n):=by
 refine⟨by simp only[List.length_take,h.1],fun i v t e1 e2=>?_⟩
 by_cases hi:i<n
 ·rw[List.getElem?_take_of_lt hi] at e1 e2;exact h.2 i v t e1 e2
 ·rw[List.getElem?_take_eq_none (by omega)] at e1;cases e1
theorem Reps.set{i:Nat}(h:Reps K S H vs ts)(r:Rep K S H v t):Reps K S H (vs.set i v) (ts.set i t):=by
 refine⟨by simp only[List.length_set,h.1],fun j v' t' e1 e2=>?_⟩
 by_cases hj:i=j
 ·subst hj
  rw[List.getElem?_set] at e1 e2
  simp only[if_true] at e1 e2
  split at e1
  ·split at e2
   ·cases e1;cases e2;exact r
   ·cases e2
  ·cases e1
 ·rw[List.getElem?_set_ne hj] at e1 e2;exact h.2 j v' t' e1 e2
theorem Rep.tupI{a:Addr}(f:FT K S H a vs)(r:Reps K S H vs ts):Rep K S H (.ref a) (.tup ts):=.tup f r.1 r.2
theorem Rep.lstI{a:Addr}(f:FL S H a vs)(r:Reps K S H vs ts):Rep K S H (.ref a) (.lst ts):=.lst f r.1 r.2
theorem Rep.tupE(h:Rep K S H v (.tup ts)):∃a vs,v=.ref a/\FT K S H a vs/\Reps K S H vs ts:=by
 cases h with
 |tup f l r=>exact⟨_,_,rfl,f,l,r⟩
theorem Rep.lstE(h:Rep K S H v (.lst ts)):∃a vs,v=.ref a/\FL S H a vs/\Reps K S H vs ts:=by
 cases h with
 |lst f l r=>exact⟨_,_,rfl,f,l,r⟩
theorem Rep.flsE(h:Rep K S H v (.fls ts)):∃a vs,v=.ref a/\FX K S H a vs/\Reps K S H vs ts:=by
 cases h with
 |fls f l r=>exact⟨_,_,rfl,f,l,r⟩
theorem Rep.dctE{kts:List (Key×T)}(h:Rep K S H v (.dct kts)):∃a kvs,v=.ref a/\S a=none/\H a=some (.dK kvs)/\RepK K S H kvs kts:=by
 cases h with
 |dct f l r1 r2=>exact⟨_,_,rfl,f.1,f.2,l,fun i v t e1 e2=>⟨r1 i v t e1 e2,r2 i v t e1 e2⟩⟩
theorem Le.new{p:Addr}{o:HO}(g:Good K S H)(hp:H p=none):Le S H S (upd H p o):=fun b u n e=>⟨n,by rw[Xc (Xa e hp)];exact e⟩
theorem Good.free(g:Good K S H){p:Addr}(hp:H p=none):S p=none:=by
 cases e:S p with
 |none=>rfl
 |some c =>
  have:=g p c e
  cases c with
  |lst ts=>obtain⟨vs,q,_⟩:=this;rw[hp] at q;cases q
  |dct ts=>obtain⟨vs,q,_⟩:=this;rw[hp] at q;cases q
  |ins C fs=>obtain⟨dx,vs,q,_⟩:=this;rw[hp] at q;cases q
  |tpl ts=>obtain⟨vs,q,_⟩:=this;rw[hp] at q;cases q
  |dtt ts=>obtain⟨vs,q,_⟩:=this;rw[hp] at q;cases q
theorem CellOk.mono{c:Cell}(le:Le S H S' H')(x:CellOk K S H a c)(e:H' a=H a):CellOk K S' H' a c:=by
 cases c with
 |lst ts=>obtain⟨vs,q,r⟩:=x;exact⟨vs,by rw[e];exact q,r.mono le⟩
 |dct ts=>obtain⟨vs,q,r⟩:=x;exact⟨vs,by rw[e];exact q,r.mono le⟩
 |ins C fs=>obtain⟨dx,vs,q,r⟩:=x;exact⟨dx,vs,by rw[e];exact q,r.mono le⟩
 |tpl ts=>obtain⟨vs,q,r⟩:=x;exact⟨vs,by rw[e];exact q,r.mono le⟩
 |dtt ts=>obtain⟨vs,q,r⟩:=x;exact⟨vs,by rw[e];exact q,r.1,fun i v t a b=>⟨(r.2 i v t a b).1,(r.2 i v t a b).2.mono le⟩⟩
theorem Good.new{p:Addr}{o:HO}(g:Good K S H)(hp:H p=none):Good K S (upd H p o):=fun a c e=>by
 have ne:a≠p:=fun z=>by rw[z,g.free hp] at e;cases e
 exact(g a c e).mono (Le.new g hp) (Xc ne)
theorem Le.newC{p:Addr}{o:HO}{c:Cell}(hp:H p=none):Le S H (C8 S p c) (upd H p o):=fun b u n e=>by
 have ne:=Xa e hp
 exact⟨by rw[A5 ne];exact n,by rw[Xc ne];exact e⟩
theorem Good.newL{p:Addr}{vs:List V}{ts:List T}(g:Good K S H)(hp:H p=none)(r:Reps K S H vs ts):Good K (C8 S p (.lst ts)) (upd H p (.lst vs)):=fun a c e=>by
 have le:Le S H (C8 S p (.lst ts)) (upd H p (.lst vs)):=Le.newC hp
 by_cases ha:a=p
 ·subst ha
  rw[Zd] at e
  cases e
  exact⟨vs,Br,r.mono le⟩
 ·rw[A5 ha] at e
  exact(g a c e).mono le (Xc ha)
theorem Le.write{p:Addr}{o:HO}{c c':Cell}(e:S p=some c'):Le S H (C8 S p c) (upd H p o):=fun b u n q=>by
 have ne:b≠p:=fun z=>by rw[z,e] at n;cases n
 exact⟨by rw[A5 ne];exact n,by rw[Xc ne];exact q⟩
theorem Good.writeL{p:Addr}{vs:List V}{ts:List T}{c:Cell}(g:Good K S H)(hp:S p=some c)(r:Reps K S H vs ts):Good K (C8 S p (.lst ts)) (upd H p (.lst vs)):=fun a c' e=>by
 have le:Le S H (C8 S p (.lst ts)) (upd H p (.lst vs)):=Le.write hp
 by_cases ha:a=p
 ·subst ha
  rw[Zd] at e
  cases e
  exact⟨vs,Br,r.mono le⟩
 ·rw[A5 ha] at e
  exact(g a c' e).mono le (Xc ha)
theorem Le.del{p:Addr}:Le S H (F0 S p) H:=fun b u n q=>by
 by_cases hb:b=p
 ·subst hb;exact⟨C4,q⟩
 ·exact⟨by rw[En hb];exact n,q⟩
theorem Good.del{p:Addr}(g:Good K S H):Good K (F0 S p) H:=fun a c e=>by
 by_cases ha:a=p
 ·subst ha;rw[C4] at e;cases e
 ·rw[En ha] at e
  exact(g a c e).mono Le.del rfl
end
abbrev Ev:=List (Option T)
abbrev UX:=T->TH->Prop
abbrev UTE:=Ev->TH->UX->Prop
abbrev UTT:=Ev->TH->(Bool->TH->Prop)->Prop
abbrev UTA:=Ev->TH->(List T->TH->Prop)->Prop
structure UEnds where
 nx:Ev->TH->Prop
 rt:UX
 bk:Ev->TH->Prop:=fun _ _=>False
 ct:Ev->TH->Prop:=fun _ _=>False
abbrev UTS:=UEnds->Ev->TH->Prop
def REnv(K:PySem.W.Frag)(S:TH)(H:Hp)(σ:L2.St)(env:Ev):Prop:=env.length=σ.length/\∀(i:Nat) t,env[i]?=some (some t)->∃v,σ[i]?=some (some v)/\Rep K S H v t
def Fin(K:PySem.W.Frag)(S:TH)(H:Hp)(P:UX)(Q:VK):Prop:=∀v r S' H',Le S H S' H'->Good K S' H'->Rep K S' H' v r->P r S'->Q v H'
def lf(K:PySem.W.Frag)(t:UTE):TE:=fun σ H Q=>∃S env P,Good K S H/\REnv K S H σ env/\t env S P/\Fin K S H P Q
def lfT(K:PySem.W.Frag)(t:UTT):TT:=fun σ H Q=>∃S env P,Good K S H/\REnv K S H σ env/\t env S P/\∀b S' H',Le S H S' H'->Good K S' H'->P b S'->Q b H'
def lfA(K:PySem.W.Frag)(t:UTA):TA:=fun σ H Q=>∃S env P,Good K S H/\REnv K S H σ env/\t env S P/\∀vs rs S' H',Le S H S' H'->Good K S' H'->Reps K S' H' vs rs->P rs S'->Q vs H'
structure FinS(K:PySem.W.Frag)(S:TH)(H:Hp)(E:UEnds)(D:Ends):Prop where
 nx:∀ σ' env' S' H',Le S H S' H'->Good K S' H'->REnv K S' H' σ' env'->E.nx env' S'->D.nx σ' H'
 rt:∀v r S' H',Le S H S' H'->Good K S' H'->Rep K S' H' v r->E.rt r S'->D.rt v H'
 bk:∀ σ' env' S' H',Le S H S' H'->Good K S' H'->REnv K S' H' σ' env'->E.bk env' S'->D.bk σ' H'
 ct:∀ σ' env' S' H',Le S H S' H'->Good K S' H'->REnv K S' H' σ' env'->E.ct env' S'->D.ct σ' H'
def lfS(K:PySem.W.Frag)(t:UTS):TS:=fun D σ H=>∃S env E,Good K S H/\REnv K S H σ env/\t E env S/\FinS K S H E D
def UE(X:Cx)(e:Expr)(t:UTE):Prop:=PE X e (lf X.K t)
def UT(X:Cx)(e:Expr)(t:UTT):Prop:=PT X e (lfT X.K t)
def UA(X:Cx)(es:List Expr)(t:UTA):Prop:=PA X es (lfA X.K t)
def US(X:Cx)(st:Stmt)(t:UTS):Prop:=PS X st (lfS X.K t)
def USs(X:Cx)(st:List Stmt)(t:UTS):Prop:=PSs X st (lfS X.K t)
section
variable{K:PySem.W.Frag}{S S' S'':TH}{H H' H'':Hp}{σ:L2.St}{env:Ev}{P:UX}{Q Q':VK}
theorem REnv.mono(h:REnv K S H σ env)(le:Le S H S' H'):REnv K S' H' σ env:=⟨h.1,fun i t e=>let ⟨v,e',r⟩:=h.2 i t e;⟨v,e',r.mono le⟩⟩
theorem REnv.set{i:Nat}{v:V}{t:T}(h:REnv K S H σ env)(r:Rep K S H v t):REnv K S H (σ.set i (some v)) (env.set i (some t)):=by
 refine⟨by simp only[List.length_set,h.1],fun j t' e=>?_⟩
 rw[List.getElem?_set] at e
 by_cases hj:i=j
 ·subst hj
  simp only[if_true] at e
  split at e
  ·cases e
   rename_i hl
   exact⟨v,by rw[List.getElem?_set];simp;rw[<-h.1];exact hl,r⟩
  ·cases e
 ·rw[if_neg hj] at e
  obtain⟨v',e',r'⟩:=h.2 j t' e
  exact⟨v',by rw[List.getElem?_set_ne hj];exact e',r'⟩
theorem Fin.le(f:Fin K S H P Q)(le:Le S H S' H'):Fin K S' H' P Q:=fun v r S2 H2 l g rp hp=>f v r S2 H2 (le.trans l) g rp hp
theorem FinS.le{E:UEnds}{D:Ends}(f:FinS K S H E D)(le:Le S H S' H'):FinS K S' H' E D :=
 ⟨fun a b c d l=>f.nx a b c d (le.trans l),fun a b c d l=>f.rt a b c d (le.trans l),fun a b c d l=>f.bk a b c d (le.trans l),fun a b c d l=>f.ct a b c d (le.trans l)⟩
structure Mid(K:PySem.W.Frag)(σ:L2.St)(H:Hp)(S:TH)(env:Ev):Prop where
 g:Good K S H
 re:REnv K S H σ env
theorem Za{t:UTE}{S:TH}{env:Ev}{k:T->TH->Prop}(m:Mid K σ H S env)(h:t env S k)
  (q:∀v r S1 H1,Le S H S1 H1->Mid K σ H1 S1 env->Rep K S1 H1 v r->k r S1->Q v H1):lf K t σ H Q :=
 ⟨S,env,k,m.g,m.re,h,fun v r S1 H1 le g1 rp hk=>q v r S1 H1 le ⟨g1,m.re.mono le⟩ rp hk⟩
theorem Ao{t:UTA}{S:TH}{env:Ev}{k:List T->TH->Prop}{Q:List V->Hp->Prop}(m:Mid K σ H S env)(h:t env S k)
  (q:∀v r S1 H1,Le S H S1 H1->Mid K σ H1 S1 env->Reps K S1 H1 v r->k r S1->Q v H1):lfA K t σ H Q :=
 ⟨S,env,k,m.g,m.re,h,fun v r S1 H1 le g1 rp hk=>q v r S1 H1 le ⟨g1,m.re.mono le⟩ rp hk⟩
theorem Dn{t:UTT}{S:TH}{env:Ev}{k:Bool->TH->Prop}{Q:Bool->Hp->Prop}(m:Mid K σ H S env)(h:t env S k)
  (q:∀b S1 H1,Le S H S1 H1->Mid K σ H1 S1 env->k b S1->Q b H1):lfT K t σ H Q :=
 ⟨S,env,k,m.g,m.re,h,fun b S1 H1 le g1 hk=>q b S1 H1 le ⟨g1,m.re.mono le⟩ hk⟩
end
theorem PE.imp{X:Cx}{e:Expr}{t t':TE}(h:PE X e t)(i:∀ σ H Q,t' σ H Q->t σ H Q):PE X e t':=fun pins s σ H Q I q=>h pins s σ H Q I (i σ H Q q)
theorem PT.imp{X:Cx}{e:Expr}{t t':TT}(h:PT X e t)(i:∀ σ H Q,t' σ H Q->t σ H Q):PT X e t':=fun pins s σ H Q I q=>h pins s σ H Q I (i σ H Q q)
theorem PA.imp{X:Cx}{e:List Expr}{t t':TA}(h:PA X e t)(i:∀ σ H Q,t' σ H Q->t σ H Q):PA X e t':=fun pos pins s σ H Q I q=>h pos pins s σ H Q I (i σ H Q q)
theorem PS.imp{X:Cx}{e:Stmt}{t t':TS}(h:PS X e t)(i:∀D σ H,t' D σ H->t D σ H):PS X e t':=fun pins s σ H D I q=>h pins s σ H D I (i D σ H q)
theorem PSs.imp{X:Cx}{e:List Stmt}{t t':TS}(h:PSs X e t)(i:∀D σ H,t' D σ H->t D σ H):PSs X e t':=fun pins s σ H D I q=>h pins s σ H D I (i D σ H q)
end TL
end
section
namespace TL
open PySem PySem.Spec PyProof.Rows L2
section
variable{X:Cx}{a b c e:Expr}{es:List Expr}{ta tb tc te:UTE}{pos:Pos}
def D4(i:Nat):UTE:=fun env S P=>match env[i]? with
 |some (some t)=>P t S
 |_=>False
def uC(t:T):UTE:=fun _ S P=>P t S
theorem uv(i:Nat){x:Str}{pos:Pos}(hN:X.N[i]?=some x:=by rfl)(hv:Vis X.env.scope x:=by first|exact Or.inl rfl|exact Or.inr (Or.inl rfl)|exact Or.inr (Or.inr rfl))(hd:(x==("__debug__":Str))=false:=by decide)
  (hcd:(x==("__classdict__":Str))=false:=by decide):UE X (.Name x pos) (D4 i):=PE.imp (Ye hN hv hd hcd) fun σ H Q ⟨S,env,P,g,re,h,fin⟩=>by
 unfold D4 at h
 split at h
 ·rename_i t e
  obtain⟨v,ev,r⟩:=re.2 i t e
  exact⟨v,ev,fin v t S H .refl g r h⟩
 ·exact h.elim
theorem Q0{v:V}{t:T}(h:PE X e (tC v))(r:∀S H,Rep X.K S H v t):UE X e (uC t):=PE.imp h fun σ H Q ⟨S,env,P,g,re,h,fin⟩=>fin v t S H .refl g (r S H) h
theorem Zi{i:Int}{j}:UE X (.Constant (.int i) j pos) (uC (.int i)):=Q0 Uv fun _ _=>.int i
theorem Az{i:Bool}{j}:UE X (.Constant (.bool i) j pos) (uC (.bl i)):=Q0 pe_bl fun _ _=>.bl i
theorem Lb{j}:UE X (.Constant .none j pos) (uC .non):=Q0 Zy fun _ _=>.non
theorem Zq{x:Str}{j}:UE X (.Constant (.str x) j pos) (uC (.str x)):=Q0 Abe fun _ _=>.str x
theorem Xv{x:Str}{n:String}(hg:Gl X x)(hm:X.mg x=none)(hv:bootBuiltins x=some (.type n))(hn:x≠"__name__":=by decide)(hd:(x==("__debug__":Str))=false:=by decide):UE X (.Name x pos) (uC (.ty n)) :=
 Q0 (Vh (v:=.ty n) hg hm hv rfl hn hd) fun _ _=>.ty n
theorem Bw{x:Str}{i:Int}(hg:Gl X x)(hm:∃t,X.mg x=some (.int i t))(hd:(x==("__debug__":Str))=false:=by decide):UE X (.Name x pos) (uC (.int i)):=by
 obtain⟨t,hm⟩:=hm
 exact Q0 (Oi (v:=.int i) hg hm ⟨t,rfl⟩ hd) fun _ _=>.int i
def Bb(o:T->T->TH->UX->Prop)(ta tb:UTE):UTE:=fun env S P=>ta env S fun x S1=>tb env S1 fun y S2=>o x y S2 P
def LOp(K:PySem.W.Frag)(r:R2)(o:T->T->TH->UX->Prop):Prop:=∀S H v w x y P Q,Good K S H->Rep K S H v x->Rep K S H w y->o x y S P->Fin K S H P Q->r v w H Q
theorem Ow{r:R2}{o:T->T->TH->UX->Prop}{σ:L2.St}{H:Hp}{Q:VK}{K:PySem.W.Frag}(l:LOp K r o)(h:lf K (Bb o ta tb) σ H Q):lf K ta σ H fun v H1=>lf K tb σ H1 fun w H2=>r v w H2 Q:=by
 obtain⟨S,env,P,g,re,h,fin⟩:=h
 exact Za ⟨g,re⟩ h fun v x S1 H1 le1 m1 rx h1=>Za m1 h1 fun w y S2 H2 le2 m2 ry h2=>l S2 H2 v w x y P Q m2.g (rx.mono le2) ry h2 (fin.le (le1.trans le2))
theorem Dl{op:Operator}{r:R2}{o:T->T->TH->UX->Prop}(ho:OpR X (binaryOp op) r)(l:LOp X.K r o)(ha:UE X a ta)(hb:UE X b tb):UE X (.BinOp a op b pos) (Bb o ta tb):=PE.imp (pe_op ho ha hb) fun _ _ _ h=>Ow l h
theorem Hz{op:CmpOp}{r:R2}{o:T->T->TH->UX->Prop}(ho:OpR X (compareOp op) r)(l:LOp X.K r o)(ha:UE X a ta)(hb:UE X b tb)(hm:behindInMarks op b=false):UE X (.Compare a [op] [b] pos) (Bb o ta tb) :=
 PE.imp (U9 ho ha hb hm) fun _ _ _ h=>Ow l h
def Bk(t:UTE):UTT:=fun env S P=>t env S fun x S1=>match x with
 | .bl k=>P k S1
 |_=>False
theorem N8{t:UTE}{σ:L2.St}{H:Hp}{Q:Bool->Hp->Prop}{K:PySem.W.Frag}(h:lfT K (Bk t) σ H Q):lf K t σ H fun x H1=>∃k,x=.bl k/\Q k H1:=by
 obtain⟨S,env,P,g,re,h,fin⟩:=h
 refine Za ⟨g,re⟩ h fun v x S1 H1 le1 m1 rx h1=>?_
 cases x with
 |bl k=>cases rx;exact⟨k,rfl,fin k S1 H1 le1 m1.g h1⟩
 |_=>exact h1.elim
theorem Wj{r:R2}{o:T->T->TH->UX->Prop}{σ:L2.St}{H:Hp}{Q:Bool->Hp->Prop}{K:PySem.W.Frag}(l:LOp K r o)(h:lfT K (Bk (Bb o ta tb)) σ H Q):Rk (tOp r (lf K ta) (lf K tb)) σ H Q:=Ow l (N8 h)
theorem Ee{op:CmpOp}{r:R2}{o:T->T->TH->UX->Prop}(ho:OpR X (compareOp op) r)(l:LOp X.K r o)(ha:UE X a ta)(hb:UE X b tb)(hm:behindInMarks op b=false):UT X (.Compare a [op] [b] pos) (Bk (Bb o ta tb)) :=
 PT.imp (W0 ho ha hb hm) fun _ _ _ h=>Wj l h
theorem Xe{t:UTE}(h:UE X e t)(he:∀whole,isTrue e X.env whole=(do let v ← whole;standAt e.pos;holding [v] (truthy v)):=by intro _;rfl):UT X e (Bk t):=PT.imp (Z3 h he) fun _ _ _ h=>N8 h
def oII(g:Int->Int->T):T->T->TH->UX->Prop:=fun x y S P=>match x,y with
 | .int i,.int j=>P (g i j) S
 |_,_=>False
def oIC(C:Int->Int->Prop)(g:Int->Int->T):T->T->TH->UX->Prop:=fun x y S P=>match x,y with
 | .int i,.int j=>C i j/\P (g i j) S
 |_,_=>False
theorem N3{K:PySem.W.Frag}{g:Int->Int->V}{g':Int->Int->T}(h:∀i j S H,Rep K S H (g i j) (g' i j)):LOp K (rI0 g) (oII g'):=fun S H v w x y P Q gd rx ry ho fin=>by
 cases x with
 |int i =>
  cases y with
  |int j=>cases rx;cases ry;exact⟨i,j,rfl,rfl,fin _ _ S H .refl gd (h i j S H) ho⟩
  |_=>exact ho.elim
 |_=>exact ho.elim
theorem K8{K:PySem.W.Frag}{C:Int->Int->Prop}{g:Int->Int->V}{g':Int->Int->T}(h:∀i j S H,Rep K S H (g i j) (g' i j)):LOp K (rI C g) (oIC C g'):=fun S H v w x y P Q gd rx ry ho fin=>by
 cases x with
 |int i =>
  cases y with
  |int j=>cases rx;cases ry;exact⟨i,j,rfl,rfl,ho.1,fin _ _ S H .refl gd (h i j S H) ho.2⟩
  |_=>exact ho.elim
 |_=>exact ho.elim
abbrev oSub:=oII fun i j=>.int (i - j)
abbrev oMul:=oIC CMul fun i j=>.int (i * j)
abbrev oDiv:=oIC CDiv fun i j=>.int (i / j)
abbrev oMod:=oIC (fun _ j=>0<j) fun i j=>.int (i % j)
abbrev oPow:=oIC CPow fun i j=>.int (i ^ j.toNat)
theorem A8(ha:UE X a ta)(hb:UE X b tb):UE X (.BinOp a .Sub b pos) (Bb oSub ta tb):=Dl op_sub (N3 fun _ _ _ _=>.int _) ha hb
theorem Kw(ha:UE X a ta)(hb:UE X b tb):UE X (.BinOp a .Mult b pos) (Bb oMul ta tb):=Dl Yi (K8 fun _ _ _ _=>.int _) ha hb
theorem Go(ha:UE X a ta)(hb:UE X b tb):UE X (.BinOp a .FloorDiv b pos) (Bb oDiv ta tb):=Dl W2 (K8 fun _ _ _ _=>.int _) ha hb
theorem Gb(ha:UE X a ta)(hb:UE X b tb):UE X (.BinOp a .Mod b pos) (Bb oMod ta tb):=Dl Yq (K8 fun _ _ _ _=>.int _) ha hb
theorem Abg(ha:UE X a ta)(hb:UE X b tb):UE X (.BinOp a .Pow b pos) (Bb oPow ta tb):=Dl Y3 (K8 fun _ _ _ _=>.int _) ha hb
abbrev oLt:=oII fun i j=>.bl (decide (i<j))
abbrev oGt:=oII fun i j=>.bl (decide (j<i))
theorem lLt{K:PySem.W.Frag}:LOp K (rI0 fun i j=>.bl (decide (i<j))) oLt:=N3 fun _ _ _ _=>.bl _
theorem lGt{K:PySem.W.Frag}:LOp K (rI0 fun i j=>.bl (decide (j<i))) oGt:=N3 fun _ _ _ _=>.bl _
def oEq(neg:Bool):T->T->TH->UX->Prop:=fun x y S P=>match x,y with
 | .int i,.int j=>P (.bl (Bool.xor neg (decide (i=j)))) S
 | .str i,.str j=>P (.bl (Bool.xor neg (decide (i=j)))) S
 | .bl i,.bl j=>P (.bl (Bool.xor neg (decide (i=j)))) S
 |_,_=>False
theorem dV_int{i j:Int}:decide (V.int i=V.int j)=decide (i=j):=by rw[Kt];exact Bool.beq_eq_decide_eq i j
theorem dV_str{i j:Str}:decide (V.str i=V.str j)=decide (i=j):=by
 by_cases h:i=j
 ·subst h;simp
 ·rw[decide_eq_false h,decide_eq_false];intro z;exact h (V.str.inj z)
theorem dV_bl{i j:Bool}:decide (V.bl i=V.bl j)=decide (i=j):=by
 by_cases h:i=j
 ·subst h;simp
 ·rw[decide_eq_false h,decide_eq_false];intro z;exact h (V.bl.inj z)
theorem lEq{K:PySem.W.Frag}:LOp K rEq (oEq false):=fun S H v w x y P Q gd rx ry ho fin=>by
 cases x with
 |int i =>
  cases y with
  |int j=>cases rx;cases ry;refine⟨rfl,?_⟩;rw[dV_int];exact fin _ _ S H .refl gd (.bl _) (by simpa [oEq] using ho)
  |_=>exact ho.elim
 |str i =>
  cases y with
  |str j=>cases rx;cases ry;refine⟨rfl,?_⟩;rw[dV_str];exact fin _ _ S H .refl gd (.bl _) (by simpa [oEq] using ho)
  |_=>exact ho.elim
 |bl i =>
  cases y with
  |bl j=>cases rx;cases ry;refine⟨rfl,?_⟩;rw[dV_bl];exact fin _ _ S H .refl gd (.bl _) (by simpa [oEq] using ho)
  |_=>exact ho.elim
 |_=>exact ho.elim
theorem lNe{K:PySem.W.Frag}:LOp K rNe (oEq true):=fun S H v w x y P Q gd rx ry ho fin=>by
 cases x with
 |int i =>
  cases y with
  |int j=>cases rx;cases ry;refine⟨rfl,?_⟩;rw[dV_int];exact fin _ _ S H .refl gd (.bl _) (by simpa [oEq] using ho)
  |_=>exact ho.elim
 |str i =>
  cases y with
  |str j=>cases rx;cases ry;refine⟨rfl,?_⟩;rw[dV_str];exact fin _ _ S H .refl gd (.bl _) (by simpa [oEq] using ho)
  |_=>exact ho.elim
 |bl i =>
  cases y with
  |bl j=>cases rx;cases ry;refine⟨rfl,?_⟩;rw[dV_bl];exact fin _ _ S H .refl gd (.bl _) (by simpa [oEq] using ho)
  |_=>exact ho.elim
 |_=>exact ho.elim
def uUn(o:T->TH->UX->Prop)(ta:UTE):UTE:=fun env S P=>ta env S fun x S1=>o x S1 P
def Jc:T->TH->UX->Prop:=fun x S P=>match x with
 | .int i=>P (.int (-i)) S
 |_=>False
theorem F7(ha:UE X a ta):UE X (.UnaryOp .USub a pos) (uUn Jc ta):=PE.imp (Sy Rj ha) fun σ H Q ⟨S,env,P,g,re,h,fin⟩=>by
 refine Za ⟨g,re⟩ h fun v x S1 H1 le1 m1 rx h1=>?_
 cases x with
 |int i=>cases rx;exact⟨i,rfl,fin _ _ S1 H1 le1 m1.g (.int _) h1⟩
 |_=>exact h1.elim
def Ch(t u:UTT):UTT:=fun env S P=>t env S fun k S1=>(k=true->u env S1 P)/\(k=false->P false S1)
def uOr(t u:UTT):UTT:=fun env S P=>t env S fun k S1=>(k=true->P true S1)/\(k=false->u env S1 P)
def Jb(t:UTT):UTT:=fun env S P=>t env S fun k S1=>P (!k) S1
def UW(X:Cx)(e:Expr)(t:UTT):Prop:=PW X e (lfT X.K t)
theorem UW.ut{t:UTT}(h:UW X e t):UT X e t:=h.pt
variable{tA tB:UTT}{rest:List Expr}
theorem Bd(ha:UT X a tA):UW X (.BoolOp .And [a] pos) tA:=Wy ha
theorem Xs(ha:UT X a tA):UW X (.BoolOp .Or [a] pos) tA:=Yz ha
theorem A0(ha:UT X a tA)(hb:UW X (.BoolOp .And (b::rest) pos) tB):UW X (.BoolOp .And (a::b::rest) pos) (Ch tA tB):=fun wh pins s σ H Q I h=>by
 refine Aac ha hb wh pins s σ H Q I ?_
 obtain⟨S,env,P,g,re,h,fin⟩:=h
 refine Dn ⟨g,re⟩ h fun k S1 H1 le1 m1 hk=>?_
 cases k with
 |true=>rw[if_pos rfl];exact⟨S1,env,P,m1.g,m1.re,hk.1 rfl,fun b S' H' le=>fin b S' H' (le1.trans le)⟩
 |false=>rw[if_neg Bool.false_ne_true];exact fin false S1 H1 le1 m1.g (hk.2 rfl)
theorem Bg(ha:UT X a tA)(hb:UW X (.BoolOp .Or (b::rest) pos) tB):UW X (.BoolOp .Or (a::b::rest) pos) (uOr tA tB):=fun wh pins s σ H Q I h=>by
 refine pw_or ha hb wh pins s σ H Q I ?_
 obtain⟨S,env,P,g,re,h,fin⟩:=h
 refine Dn ⟨g,re⟩ h fun k S1 H1 le1 m1 hk=>?_
 cases k with
 |true=>rw[if_pos rfl];exact fin true S1 H1 le1 m1.g (hk.1 rfl)
 |false=>rw[if_neg Bool.false_ne_true];exact⟨S1,env,P,m1.g,m1.re,hk.2 rfl,fun b S' H' le=>fin b S' H' (le1.trans le)⟩
theorem Ae(ha:UT X a tA):UT X (.UnaryOp .Not a pos) (Jb tA):=PT.imp (Ym ha) fun σ H Q ⟨S,env,P,g,re,h,fin⟩ =>
 Dn ⟨g,re⟩ h fun k S1 H1 le1 m1 hk=>fin (!k) S1 H1 le1 m1.g hk
def E2(ta tb:UTE):UTE:=fun env S P=>ta env S fun x S1=>match x with
 | .bl k=>(k=true->tb env S1 P)/\(k=false->P (.bl false) S1)
 |_=>False
def Ez(ta:UTE):UTE:=fun env S P=>ta env S fun x S1=>match x with
 | .bl k=>P (.bl (!k)) S1
 |_=>False
theorem B1{op}(ha:UE X a ta):UE X (.BoolOp op [a] pos) ta:=Z1 ha
theorem Bf(ha:UE X a ta)(hb:UE X (.BoolOp .And (b::rest) pos) tb):UE X (.BoolOp .And (a::b::rest) pos) (E2 ta tb):=PE.imp (Yd ha hb) fun σ H Q ⟨S,env,P,g,re,h,fin⟩=>by
 refine Za ⟨g,re⟩ h fun v x S1 H1 le1 m1 rx hk=>?_
 cases x with
 |bl k =>
  cases rx
  refine⟨k,rfl,?_⟩
  cases k with
  |true=>rw[if_pos rfl];exact⟨S1,env,P,m1.g,m1.re,hk.1 rfl,fin.le le1⟩
  |false=>rw[if_neg Bool.false_ne_true];exact fin _ _ S1 H1 le1 m1.g (.bl _) (hk.2 rfl)
 |_=>exact hk.elim
theorem Y1(ha:UE X a ta):UE X (.UnaryOp .Not a pos) (Ez ta):=PE.imp (Aba ha) fun σ H Q ⟨S,env,P,g,re,h,fin⟩=>by
 refine Za ⟨g,re⟩ h fun v x S1 H1 le1 m1 rx hk=>?_
 cases x with
 |bl k=>cases rx;exact⟨k,rfl,fin _ _ S1 H1 le1 m1.g (.bl _) hk⟩
 |_=>exact hk.elim
def E7:UTA:=fun _ S P=>P [] S
def Eg(ta:UTE)(tr:UTA):UTA:=fun env S P=>ta env S fun x S1=>tr env S1 fun xs S2=>P (x::xs) S2
variable{tr:UTA}
theorem Zn:UA X [] E7:=PA.imp Z2 fun σ H Q ⟨S,env,P,g,re,h,fin⟩=>fin [] [] S H .refl g .nil h
theorem Zc(ha:UE X e te)(hr:UA X es tr)(hs:starEach (e::es) X.env=(false,eval e X.env)::starEach es X.env:=by rfl):UA X (e::es) (Eg te tr):=PA.imp (Wt ha hr hs) fun σ H Q ⟨S,env,P,g,re,h,fin⟩ =>
 Za ⟨g,re⟩ h fun v x S1 H1 le1 m1 rx h1=>Ao m1 h1 fun vs xs S2 H2 le2 m2 rxs h2=>fin (v::vs) (x::xs) S2 H2 (le1.trans le2) m2.g (.cons (rx.mono le2) rxs) h2
def Jl(t:UTA):UTE:=fun env S P=>t env S fun ts S1=>ts.length<=sizeLine/\P (.tup ts) S1
def Jm(t:UTA):UTE:=fun env S P=>t env S fun ts S1=>ts.length<=sizeLine/\P (.lst ts) S1
def E4(t:UTA):UTE:=fun env S P=>t env S fun ts S1=>ts.length<=sizeLine/\∀p,S1 p=none->P (.ref p) (C8 S1 p (.lst ts))
section
variable{K:PySem.W.Frag}{S S1:TH}{H H1:Hp}{P:UX}{Q:VK}{vs:List V}{ts:List T}
theorem C2{p:Addr}(fin:Fin K S H P Q)(g:Good K S H)(hp:H p=none)(r:Reps K S H vs ts)(h:P (.tup ts) S):Q (.ref p) (upd H p (.tup vs)) :=
 fin _ _ S _ (Le.new g hp) (g.new hp) (.tupI (.inl ⟨g.free hp,Br⟩) (r.mono (Le.new g hp))) h
theorem C0{p:Addr}(fin:Fin K S H P Q)(g:Good K S H)(hp:H p=none)(r:Reps K S H vs ts)(h:P (.lst ts) S):Q (.ref p) (upd H p (.lst vs)) :=
 fin _ _ S _ (Le.new g hp) (g.new hp) (.lstI ⟨g.free hp,Br⟩ (r.mono (Le.new g hp))) h
end
theorem Zu{x1}(h:UA X es tr):UE X (.Tuple es x1 pos) (Jl tr):=PE.imp (Yj h) fun σ H Q ⟨S,env,P,g,re,h,fin⟩ =>
 Ao ⟨g,re⟩ h fun vs xs S1 H1 le1 m1 rx h1=>⟨by rw[rx.1];exact h1.1,fun p hp=>C2 (fin.le le1) m1.g hp rx h1.2⟩
theorem Ac(h:UA X es tr):UE X (.List es pos) (Jm tr):=PE.imp (T9 h) fun σ H Q ⟨S,env,P,g,re,h,fin⟩ =>
 Ao ⟨g,re⟩ h fun vs xs S1 H1 le1 m1 rx h1=>⟨by rw[rx.1];exact h1.1,fun p hp=>C0 (fin.le le1) m1.g hp rx h1.2⟩
theorem Hi(h:UA X es tr):UE X (.List es pos) (E4 tr):=PE.imp (T9 h) fun σ H Q ⟨S,env,P,g,re,h,fin⟩ =>
 Ao ⟨g,re⟩ h fun vs xs S1 H1 le1 m1 rx h1=>⟨by rw[rx.1];exact h1.1,fun p hp=>fin _ _ _ _ (le1.trans (Le.newC hp)) (m1.g.newL hp rx) (.ref p) (h1.2 p (m1.g.free hp))⟩
def spU(K:PySem.W.Frag)(t:List T->TH->UX->Prop):Sp:=fun vs H Q _=>∃S ts P,Good K S H/\Reps K S H vs ts/\t ts S P/\Fin K S H P Q
def Bq(t:List T->TH->UX->Prop)(ta:UTA):UTE:=fun env S P=>ta env S fun ts S1=>t ts S1 P
theorem V0{k:Nat}{f:Addr}{fd:FuncData}{ps:List Str}{t:List T->TH->UX->Prop}{x:Str}{p:Pos}(F:FnOk X.prog X.w X.K X.mg X.base CX0 k f fd ps (spU X.K t))(hr:Room k X.A)(hg:Gl X x)(hm:X.mg x=some (.ref f))
  (hk:PySem.W.keepIn X.K (.ref f)=true) (hb:Binds X.K fd ps []) (ha:UA X (e::es) tr) (hdb:(x==("__debug__":Str))=false:=by decide) (he:starEach (e::es) X.env=(false,eval e X.env)::starEach es X.env:=by rfl)
  (hpl:(backTo pos (starEach es X.env)).any (·.1)=false:=by rfl):UE X (.Call (.Name x p) (e::es) [] pos) (Bq t tr) :=
 PE.imp (Oo F hr hg hm hk hb .nil pass0 ha hdb he hpl) fun σ H Q ⟨S,env,P,g,re,h,fin⟩=>Ao ⟨g,re⟩ h fun vs xs S1 H1 le1 m1 rx h1=>by
  rw[List.append_nil]
  exact⟨S1,xs,P,m1.g,rx,h1,fin.le le1⟩
def F2(K:PySem.W.Frag)(r:List V->Hp->VK->Prop)(o:List T->TH->UX->Prop):Prop:=∀S H vs ts P Q,Good K S H->Reps K S H vs ts->o ts S P->Fin K S H P Q->r vs H Q
theorem Eh{x:Str}{id:String}{p:Pos}{r:List V->Hp->VK->Prop}{o:List T->TH->UX->Prop}(hc:CallR X (.builtin id) r)(l:F2 X.K r o)(hg:Gl X x)(hm:X.mg x=none)(hv:bootBuiltins x=some (.builtin id))(ha:UA X (e::es) tr)
  (hn:x≠"__name__":=by decide) (hdb:(x==("__debug__":Str))=false:=by decide) (he:starEach (e::es) X.env=(false,eval e X.env)::starEach es X.env:=by rfl) (hpl:(backTo pos (starEach es X.env)).any (·.1)=false:=by rfl) :
  UE X (.Call (.Name x p) (e::es) [] pos) (Bq o tr):=PE.imp (To hc hg hm hv ha hn hdb he hpl) fun σ H Q ⟨S,env,P,g,re,h,fin⟩ =>
 Ao ⟨g,re⟩ h fun vs xs S1 H1 le1 m1 rx h1=>l S1 H1 vs xs P Q m1.g rx h1 (fin.le le1)
theorem Em{x:Str}{n:String}{p:Pos}{r:List V->Hp->VK->Prop}{o:List T->TH->UX->Prop}(hc:CallR X (.type n) r)(l:F2 X.K r o)(hg:Gl X x)(hm:X.mg x=none)(hv:bootBuiltins x=some (.type n))(ha:UA X (e::es) tr)
  (hn:x≠"__name__":=by decide) (hdb:(x==("__debug__":Str))=false:=by decide) (he:starEach (e::es) X.env=(false,eval e X.env)::starEach es X.env:=by rfl) (hpl:(backTo pos (starEach es X.env)).any (·.1)=false:=by rfl) :
  UE X (.Call (.Name x p) (e::es) [] pos) (Bq o tr):=PE.imp (Qf hc hg hm hv ha hn hdb he hpl) fun σ H Q ⟨S,env,P,g,re,h,fin⟩ =>
 Ao ⟨g,re⟩ h fun vs xs S1 H1 le1 m1 rx h1=>l S1 H1 vs xs P Q m1.g rx h1 (fin.le le1)
variable{st:Stmt}{sts:List Stmt}{t u:UTS}
def D1:UTS:=fun E env S=>E.nx env S
def Cd(t u:UTS):UTS:=fun E env S=>t { E with nx:=u E } env S
theorem Ze:USs X [] D1:=PSs.imp Pm fun D σ H ⟨S,env,E,g,re,h,fin⟩=>fin.nx σ env S H .refl g re h
theorem Zs(h1:US X st t)(h2:USs X sts u):USs X (st::sts) (Cd t u):=PSs.imp (Mv h1 h2) fun D σ H ⟨S,env,E,g,re,h,fin⟩ =>
 ⟨S,env,_,g,re,h,⟨fun σ' env' S' H' le g' re' hn=>⟨S',env',E,g',re',hn,fin.le le⟩,fin.rt,fin.bk,fin.ct⟩⟩
theorem Zo(h1:US X st t):USs X [st] t:=PSs.imp (O5 h1) fun _ _ _ h=>h
def D3(te:UTE):UTS:=fun E env S=>te env S fun _ S1=>E.nx env S1
theorem Ks(he:UE X e te)(hs:swapsWith e none pos.line X.env=pure false:=by rfl):US X (.Expr e pos) (D3 te):=PS.imp (Op he hs) fun D σ H ⟨S,env,E,g,re,h,fin⟩ =>
 Za ⟨g,re⟩ h fun v x S1 H1 le1 m1 rx h1=>fin.nx σ env S1 H1 le1 m1.g m1.re h1
def Jj(te:UTE):UTS:=fun E env S=>te env S E.rt
theorem Zr(he:UE X e te):US X (.Return (some e) pos) (Jj te):=PS.imp (Aav he) fun D σ H ⟨S,env,E,g,re,h,fin⟩ =>
 Za ⟨g,re⟩ h fun v x S1 H1 le1 m1 rx h1=>fin.rt v x S1 H1 le1 m1.g rx h1
def uIf(k:UTT)(t u:UTS):UTS:=fun E env S=>k env S fun b S1=>(b=true->t E env S1)/\(b=false->u E env S1)
theorem Zg{aa bb:List Stmt}(hc:UT X c tA)(ha:USs X aa t)(hb:USs X bb u):US X (.If c aa bb pos) (uIf tA t u):=PS.imp (X3 hc ha hb) fun D σ H ⟨S,env,E,g,re,h,fin⟩ =>
 Dn ⟨g,re⟩ h fun k S1 H1 le1 m1 hk=>by
  cases k with
  |true=>rw[if_pos rfl];exact⟨S1,env,E,m1.g,m1.re,hk.1 rfl,fin.le le1⟩
  |false=>rw[if_neg Bool.false_ne_true];exact⟨S1,env,E,m1.g,m1.re,hk.2 rfl,fin.le le1⟩
def uSet(i:Nat)(te:UTE):UTS:=fun E env S=>te env S fun x S1=>E.nx (env.set i (some x)) S1
theorem Zt(i:Nat){x:Str}{pos':Pos}(hN:X.N.Nodup)(he:UE X e te)(hi:X.N[i]?=some x:=by rfl)(hx:Loc X.env.scope x:=by first|exact Or.inl rfl|exact Or.inr rfl)(hs:swapsWith e (some (.Name x pos')) pos.line X.env=pure false:=by rfl)
  (hf:X.fn x=true\/X.env.scope.names.lookup x=some .local:=by first|exact .inl rfl|exact .inr rfl):US X (.Assign [.Name x pos'] e pos) (uSet i te):=PS.imp (ps_set hN hi hx he hs hf) fun D σ H ⟨S,env,E,g,re,h,fin⟩ =>
 Za ⟨g,re⟩ h fun v y S1 H1 le1 m1 ry h1=>fin.nx _ _ S1 H1 le1 m1.g (m1.re.set ry) h1
def Dm(te to ti:UTE):UTS:=fun E env S=>te env S fun x S1=>to env S1 fun o S2=>ti env S2 fun i S3=>match o,i with
 | .ref p,.int k=>∃ts j,S3 p=some (.lst ts)/\ixN ts.length k=some j/\E.nx env (C8 S3 p (.lst (ts.set j x)))
 |_,_=>False
theorem Up{o i:Expr}{to ti:UTE}{pos':Pos}(he:UE X e te)(ho:UE X o to)(hi:UE X i ti)
  (ha:∀v,assign (.Subscript o i pos') X.env v=(do
   let ov ← holding [v] (eval o X.env)
   let iv ← holding [v,ov] (eval i X.env)
   standAt pos'
   holding [v,ov,iv] (setItem ov iv v)
   release [v,ov,iv] []):=by intro _;rfl) (hs:swapsWithSole [.Subscript o i pos'] e pos.line X.env=pure false:=by rfl) (hw:swappedStores [.Subscript o i pos'] e X.env=pure none:=by rfl)
  (h1:(assignEach [.Subscript o i pos'] X.env).map (·.2)=[assign (.Subscript o i pos') X.env]:=by rfl):US X (.Assign [.Subscript o i pos'] e pos) (Dm te to ti) :=
 PS.imp (Sb he (Y0 ho hi Tt ha) hs hw h1) fun D σ H ⟨S,env,E,g,re,h,fin⟩ =>
 Za ⟨g,re⟩ h fun v x S1 H1 le1 m1 rx h1=>Za m1 h1 fun ov o S2 H2 le2 m2 ro h2=>Za m2 h2 fun iv i S3 H3 le3 m3 ri h3=>by
  cases o with
  |ref p =>
   cases i with
   |int k =>
    obtain⟨ts,j,e1,e2,e3⟩:=h3
    obtain⟨vs,q,rv⟩:=m3.g p _ e1
    cases ro
    cases ri
    have rx3:=rx.mono (le2.trans le3)
    refine⟨p,vs,k,j,rfl,rfl,q,by rw[rv.1];exact e2,?_⟩
    exact fin.nx σ env _ _ (le1.trans (le2.trans (le3.trans (Le.write e1)))) (m3.g.writeL e1 (rv.set rx3)) (m3.re.mono (Le.write e1)) e3
   |_=>exact h3.elim
  |_=>exact h3.elim
end
end TL
end
section
namespace TL
open PySem PySem.Spec PyProof.Rows L2
structure Ylds(K:PySem.W.Frag)(J:It)(ts:List T)(S1:TH)(H1:Hp):Prop where
 go:∀(i:Nat) S2 H2,Le S1 H1 S2 H2->Good K S2 H2->i<ts.length->J.go i H2
 stop:∀S2 H2,Le S1 H1 S2 H2->Good K S2 H2->J.stop ts.length H2
 yld:∀(i:Nat) S2 H2 x H3,Le S1 H1 S2 H2->Good K S2 H2->i<ts.length->J.yld i H2 x H3->Le S2 H2 S2 H3/\Good K S2 H3/\∃t,ts[i]?=some t/\Rep K S2 H3 x t
def lfI(K:PySem.W.Frag)(t:UTA):TI:=fun σ H R=>∃S env P,Good K S H/\REnv K S H σ env/\t env S P/\∀ts J S1 H1,Le S H S1 H1->Good K S1 H1->P ts S1->Ylds K J ts S1 H1->R J H1
def UI(X:Cx)(tg iter:Expr)(t:UTA):Prop:=PI X tg iter (lfI X.K t)
abbrev UTG:=T->Ev->TH->(Ev->TH->Prop)->Prop
def lfG(K:PySem.W.Frag)(g:UTG):TG:=fun v σ H Q=>∃S env x P,Good K S H/\REnv K S H σ env/\Rep K S H v x/\g x env S P/\∀ σ' env' S' H',Le S H S' H'->Good K S' H'->REnv K S' H' σ' env'->P env' S'->Q σ' H'
def UG(X:Cx)(tg:Expr)(g:UTG):Prop:=PG X tg (lfG X.K g)
theorem PI.imp{X:Cx}{tg e:Expr}{t t':TI}(h:PI X tg e t)(i:∀ σ H R,t' σ H R->t σ H R):PI X tg e t':=fun pins s σ H R I q=>h pins s σ H R I (i σ H R q)
theorem PG.imp{X:Cx}{tg:Expr}{t t':TG}(h:PG X tg t)(i:∀v σ H Q,t' v σ H Q->t v σ H Q):PG X tg t':=fun pins s σ H v u Q I r q=>h pins s σ H v u Q I r (i v σ H Q q)
section
variable{K:PySem.W.Frag}{S:TH}{H:Hp}{a:Addr}{vs:List V}{ts:List T}
theorem Jv(f:∀S2 H2,Le S H S2 H2->SqL K H2 a vs)(r:Reps K S H vs ts):Ylds K (Itl K a) ts S H where
 go:=fun i S2 H2 le g hi=>⟨vs,vs[i]'(by rw[r.1];exact hi),(f S2 H2 le),List.getElem?_eq_getElem _⟩
 stop:=fun S2 H2 le g=>⟨vs,f S2 H2 le,by rw[r.1];exact Nat.le_refl _⟩
 yld:=fun i S2 H2 x H3 le g hi y=>by
  obtain⟨rfl,y⟩:=y
  obtain⟨t,et,rt⟩:=r.get' (y vs (f _ _ le))
  exact⟨.refl,g,t,et,rt.mono le⟩
theorem Tp(f:FT K S H a vs)(r:Reps K S H vs ts):Ylds K (Itt K a) ts S H where
 go:=fun i S2 H2 le g hi=>⟨vs,vs[i]'(by rw[r.1];exact hi),(f.mono le).sq,List.getElem?_eq_getElem _⟩
 stop:=fun S2 H2 le g=>⟨vs,(f.mono le).sq,by rw[r.1];exact Nat.le_refl _⟩
 yld:=fun i S2 H2 x H3 le g hi y=>by
  obtain⟨rfl,y⟩:=y
  obtain⟨t,et,rt⟩:=r.get' (y vs (f.mono le).sq)
  exact⟨.refl,g,t,et,rt.mono le⟩
def E9(n:Nat):List T:=(List.range n).map fun (k:Nat)=>T.int (k:Int)
theorem Zh(n:Nat):(E9 n).length=n:=by simp[E9]
theorem Cq{n i:Nat}(h:i<n):(E9 n)[i]?=some (.int i):=by simp[E9,h]
theorem Tk{n:Nat}:Ylds K (Itr 0 n) (E9 n) S H where
 go:=fun i S2 H2 le g hi=>by rw[Zh] at hi;exact hi
 stop:=fun S2 H2 le g=>by rw[Zh];exact Nat.le_refl n
 yld:=fun i S2 H2 x H3 le g hi y=>by
  obtain⟨rfl,rfl⟩:=y
  rw[Zh] at hi
  refine⟨.refl,g,.int i,Cq hi,?_⟩
  rw[Int.zero_add]
  exact .int _
end
section
variable{X:Cx}{a b c e tg iter:Expr}{es:List Expr}{ta tb te:UTE}{tr:UTA}{pos:Pos}
def W6(t:UTA):UTA:=fun env S P=>t env S fun ts S1=>match ts with
 |[.int j]=>-(2 ^ 62)<=j/\j<2 ^ 62/\P (E9 j.toNat) S1
 |_=>False
theorem Aw{p:Pos}(hg:Gl X "range")(hm:X.mg "range"=none)(ha:UA X [a] tr)(hs:starEach [a] X.env=[(false,eval a X.env)]:=by rfl):UI X tg (.Call (.Name "range" p) [a] [] pos) (W6 tr) :=
 PI.imp (Rc hg hm ha hs) fun σ H R ⟨S,env,P,g,re,h,fin⟩=>Ao ⟨g,re⟩ h fun vs xs S1 H1 le1 m1 rx h1=>by
  match xs,vs,rx,h1 with
  |[.int j],[v],rx,h1 =>
   have r0:=rx.head
   cases r0
   exact⟨j,rfl,h1.1,h1.2.1,fin _ _ S1 H1 le1 m1.g h1.2.2 Tk⟩
  |[.int j],[],rx,_=>exact absurd rx.1 (by simp)
  |[.int j],_::_::_,rx,_=>exact absurd rx.1 (by simp)
def gNm(i:Nat):UTG:=fun x env S P=>P (env.set i (some x)) S
theorem Ci(i:Nat){x:Str}(hN:X.N.Nodup)(hi:X.N[i]?=some x:=by rfl)(hx:Loc X.env.scope x:=by first|exact Or.inl rfl|exact Or.inr rfl)(hf:X.fn x=true\/X.env.scope.names.lookup x=some .local:=by first|exact .inl rfl|exact .inr rfl):
  UG X (.Name x pos) (gNm i):=PG.imp (B8 hN hi hx hf) fun v σ H Q ⟨S,env,x,P,g,re,rx,h,fin⟩=>fin _ _ S H .refl g (re.set rx) h
def gPr(i j:Nat):UTG:=fun x env S P=>match x with
 | .tup [x,y]=>P ((env.set i (some x)).set j (some y)) S
 |_=>False
theorem Pi(i j:Nat){x y:Str}{p1 p2:Pos}{k:Nat}(hc:X.calm=true)(hN:X.N.Nodup)(hi:X.N[i]?=some x:=by rfl)(hx:Loc X.env.scope x:=by first|exact Or.inl rfl|exact Or.inr rfl)(hf:X.fn x=true\/X.env.scope.names.lookup x=some .local:=by first|exact .inl rfl|exact .inr rfl)
  (hj:X.N[j]?=some y:=by rfl) (hy:Loc X.env.scope y:=by first|exact Or.inl rfl|exact Or.inr rfl) (hfy:X.fn y=true\/X.env.scope.names.lookup y=some .local:=by first|exact .inl rfl|exact .inr rfl) :
  UG X (.Tuple [.Name x p1,.Name y p2] k pos) (gPr i j) :=
 PG.imp (Lh (n:=2) hc (Cm (B8 hN hi hx hf) (Cm (B8 hN hj hy hfy) Hj))) fun v σ H Q ⟨S,env,x,P,g,re,rx,h,fin⟩=>by
  cases x with
  |tup ts =>
   match ts,h with
   |[x,y],h =>
    obtain⟨l,vs,rfl,f,r⟩:=rx.tupE
    match vs,f,r with
    |[v,w],f,r=>exact⟨l,[v,w],rfl,f.sq,rfl,v,[w],rfl,w,[],rfl,rfl,fin _ _ S H .refl g ((re.set r.head).set r.tail.head) h⟩
    |[],_,r=>exact absurd r.1 (by simp)
    |[_],_,r=>exact absurd r.1 (by simp)
    |_::_::_::_,_,r=>exact absurd r.1 (by simp)
  |_=>exact h.elim
variable{t:UTS}{body:List Stmt}{ti:UTA}{gg:UTG}
def uFor(ti:UTA)(gg:UTG)(tb:UTS):UTS:=fun E env S=>ti env S fun ts S1=>∃Iv:Nat->Ev->TH->Prop,Iv 0 env S1 ∧
 (∀k x env S,ts[k]?=some x->Iv k env S->gg x env S fun env' S'=>tb { E with nx:=Iv (k+1),ct:=Iv (k+1),bk:=E.nx } env' S')/\∀env S,Iv ts.length env S->E.nx env S
theorem C5(hp:PassesOwn (model X.prog X.w) X.A X.env X.xe)(hc:X.calm=true)(hi:UI X tg iter ti)(hg:UG X tg gg)(hb:USs X body t)(hs:∀x,foldedSetIterable iter X.env x=pure x:=by intro _;rfl):
  US X (.For tg iter body [] pos) (uFor ti gg t):=PS.imp (Rl hp hc hi hg hb hs) fun D σ H h=>by
 obtain⟨S,env,E,g,re,h,fin⟩:=h
 refine⟨S,env,_,g,re,h,fun ts J S1 H1 le1 g1 hq yl=>?_⟩
 obtain⟨Iv,i0,step,done⟩:=hq
 refine⟨fun i m σ' H'=>m=ts.length - i/\i<=ts.length/\∃S' env',Le S1 H1 S' H'/\Good X.K S' H'/\REnv X.K S' H' σ' env'/\Iv i env' S',⟨ts.length,rfl,Nat.zero_le _,S1,env,.refl,g1,re.mono le1,i0⟩,?_⟩
 rintro i m σ' H' ⟨rfl,hi,S',env',le',g',re',iv⟩
 by_cases hlt:i<ts.length
 ·refine .inr ⟨yl.go i S' H' le' g' hlt,fun σ2 H2=>∃S2 env2,Le S1 H1 S2 H2/\Good X.K S2 H2/\REnv X.K S2 H2 σ2 env2/\Iv (i+1) env2 S2,fun σ2 H2 z=>?_,fun x H2 y=>?_⟩
  ·exact⟨ts.length - (i+1),by omega,rfl,hlt,z⟩
  ·obtain⟨le2,g2,tt,et,rt⟩:=yl.yld i S' H' x H2 le' g' hlt y
   refine⟨S',env',tt,_,g2,re'.mono le2,rt,step i tt env' S' et iv,fun σ3 env3 S3 H3 le3 g3 re3 hb3=>?_⟩
   have l03:Le S H S3 H3:=le1.trans (le'.trans (le2.trans le3))
   have l13:Le S1 H1 S3 H3:=le'.trans (le2.trans le3)
   refine⟨S3,env3,_,g3,re3,hb3,⟨fun σ4 env4 S4 H4 le4 g4 re4 q=>⟨S4,env4,l13.trans le4,g4,re4,q⟩,fun v r S4 H4 le4 g4 rp q=>fin.rt v r S4 H4 (l03.trans le4) g4 rp q,fun σ4 env4 S4 H4 le4 g4 re4 q=>fin.nx σ4 env4 S4 H4 (l03.trans le4) g4 re4 q,fun σ4 env4 S4 H4 le4 g4 re4 q=>⟨S4,env4,l13.trans le4,g4,re4,q⟩⟩⟩
 ·have ei:i=ts.length:=by omega
  subst ei
  exact .inl ⟨yl.stop S' H' le' g',fin.nx σ' env' S' H' (le1.trans le') g' re' (done env' S' iv)⟩
def Gc(pick:List (Option Nat))(env:Ev):Ev:=pick.map fun o=>match o with
 |none=>none
 |some j=>match env[j]? with
  |some (some v)=>some v
  |_=>none
def Av(pick:List (Option Nat))(ti:UTA)(gg:UTG)(tc:UTT)(te:UTE):UTE:=fun env S P=>ti env S fun ts S1=>ts.length<=sizeLine/\∃Iv:Nat->List T->TH->Prop,Iv 0 [] S1 ∧
 (∀k x acc S,ts[k]?=some x->Iv k acc S->gg x (Gc pick env) S fun env' S'=>tc env' S' fun b S2=>(b=true->te env' S2 fun r S3=>Iv (k+1) (acc++[r]) S3)/\(b=false->Iv (k+1) acc S2)) ∧
 ∀acc S,Iv ts.length acc S->P (.lst acc) S
end
theorem REnv.pick{K:PySem.W.Frag}{S:TH}{H:Hp}{σ:L2.St}{env:Ev}(h:REnv K S H σ env)(pick:List (Option Nat)):REnv K S H (Xq pick σ) (Gc pick env):=by
 refine⟨by simp[Xq,Gc],fun i t e=>?_⟩
 unfold Gc at e
 unfold Xq
 rw[List.getElem?_map] at e ⊢
 cases ep:pick[i]? with
 |none=>rw[ep] at e;cases e
 |some o =>
  rw[ep] at e
  cases o with
  |none=>cases e
  |some j =>
   cases ev:env[j]? with
   |none=>simp only[ev,Option.map_some,Option.some.injEq] at e;cases e
   |some ov =>
    cases ov with
    |none=>simp only[ev,Option.map_some,Option.some.injEq] at e;cases e
    |some t' =>
     simp only[ev,Option.map_some,Option.some.injEq] at e
     subst e
     obtain⟨v,e',r⟩:=h.2 j _ ev
     exact⟨v,by simp only[Option.map_some,e'],r⟩
theorem Im{pick:List (Option Nat)}{σ:L2.St}{i:Nat}{v:V}(h:pick[i]?=some none):Keep (Xq pick σ) ((Xq pick σ).set i (some v)):=by
 refine⟨by simp,fun j w e=>?_⟩
 by_cases hj:i=j
 ·subst hj
  unfold Xq at e
  rw[List.getElem?_map,h] at e
  cases e
 ·rw[List.getElem?_set_ne hj];exact e
theorem Qt{pick:List (Option Nat)}{σ:L2.St}{i j:Nat}{v w:V}(h:pick[i]?=some none)(h':pick[j]?=some none):Keep (Xq pick σ) (((Xq pick σ).set i (some v)).set j (some w)):=by
 obtain⟨a1,a2⟩:=Im (σ:=σ) (v:=v) h
 refine⟨by simp,fun k x e=>?_⟩
 by_cases hj:j=k
 ·subst hj
  unfold Xq at e
  rw[List.getElem?_map,h'] at e
  cases e
 ·rw[List.getElem?_set_ne hj];exact a2 k x e
section
variable{X:Cx}{elt iter:Expr}{ti:UTA}{tc:UTT}{te:UTE}{pos:Pos}{scope:Scope}{ifs:List Expr}{N:List Str}{pick:List (Option Nat)}
theorem Gd{K:PySem.W.Frag}{g:TG}{gg:UTG}{σ:L2.St}{H:Hp}{Q:VK}
  (hg:∀x tt S1 H1 env (k:Ev->TH->Prop) (R:L2.St->Hp->Prop),Good K S1 H1->REnv K S1 H1 (Xq pick σ) (Gc pick env)->Rep K S1 H1 x tt->gg tt (Gc pick env) S1 k →
   (∀ σ2 env2,REnv K S1 H1 σ2 env2->k env2 S1->R σ2 H1)->g x (Xq pick σ) H1 fun σ2 H2=>Keep (Xq pick σ) σ2/\R σ2 H2)
  (h:lf K (Av pick ti gg tc te) σ H Q):On pick (lfI K ti) g (lfT K tc) (lf K te) σ H Q:=by
 obtain⟨S,env,P,gd,re,h,fin⟩:=h
 refine⟨S,env,_,gd,re,h,fun ts J S1 H1 le1 g1 hq yl=>?_⟩
 obtain⟨hz,Iv,i0,step,done⟩:=hq
 refine⟨fun k m acc H'=>m=ts.length - k/\k<=ts.length/\acc.length<=k/\∃S' racc,Le S1 H1 S' H'/\Good K S' H'/\Reps K S' H' acc racc/\Iv k racc S',⟨ts.length,rfl,Nat.zero_le _,Nat.le_refl _,S1,[],.refl,g1,.nil,i0⟩,?_⟩
 rintro k m acc H' ⟨rfl,hk,ha,S',racc,le',g',ra,iv⟩
 by_cases hlt:k<ts.length
 ·refine .inr ⟨yl.go k S' H' le' g' hlt,by omega,fun acc' H2=>acc'.length<=k+1/\∃S2 racc',Le S1 H1 S2 H2/\Good K S2 H2/\Reps K S2 H2 acc' racc'/\Iv (k+1) racc' S2,fun acc' H2 z=>⟨ts.length - (k+1),by omega,rfl,hlt,z.1,z.2⟩,fun x H2 y=>?_⟩
  obtain⟨le2,g2,tt,et,rt⟩:=yl.yld k S' H' x H2 le' g' hlt y
  have l02:Le S H S' H2:=le1.trans (le'.trans le2)
  refine hg x tt S' H2 env _ _ g2 ((re.mono l02).pick pick) rt (step k tt racc S' et iv) fun σ2 env2 re2 h2=>?_
  refine Dn ⟨g2,re2⟩ h2 fun b S3 H3 le3 m3 hb=>?_
  have l13:Le S1 H1 S3 H3:=le'.trans (le2.trans le3)
  have r3:=ra.mono (le2.trans le3)
  cases b with
  |false=>rw[if_neg Bool.false_ne_true];exact⟨by omega,S3,racc,l13,m3.g,r3,hb.2 rfl⟩
  |true =>
   rw[if_pos rfl]
   refine Za m3 (hb.1 rfl) fun w r S4 H4 le4 m4 rw4 h4=>?_
   exact⟨by rw[List.length_append,List.length_singleton];omega,S4,racc++[r],l13.trans le4,m4.g,(r3.mono le4).append (.cons rw4 .nil),h4⟩
 ·have ek:k=ts.length:=by omega
  subst ek
  exact .inl ⟨yl.stop S' H' le' g',by omega,fun p hp=>C0 (fin.le (le1.trans le')) g' hp ra (done racc S' iv)⟩
theorem Xg(i:Nat)(N:List Str)(pick:List (Option Nat)){x:Str}{px:Pos}(hc:X.calm=true)(hi:UI X (.Name x px) iter ti)(ht:∀C s H fp pins,PTs (Xl X N scope C s H fp pins) ifs (lfT X.K tc))(he:∀C s H fp pins,UE (Xl X N scope C s H fp pins) elt te)
  (hs:scopeOk X.env.scope.names scope.names=true:=by rfl) (hp:D7 X.N scope.names N pick=true:=by rfl) (hk:scope.kind=.function:=by rfl) (hN:N.Nodup:=by decide +kernel)
  (hiN:N[i]?=some x:=by rfl) (hpi:pick[i]?=some none:=by rfl) (hloc:scope.names.lookup x=some .local:=by rfl) (hfs:∀x,foldedSetIterable iter X.env x=pure x:=by intro _;rfl) :
  UE X (.ListComp elt [⟨.Name x px,iter,ifs,0⟩] scope pos) (Av pick ti (gNm i) tc te) :=
 PE.imp (Oh hc hs hp hk hi (fun C s H fp pins=>B8 (i:=i) hN hiN (.inl (lookup_relabel_local hloc)) (.inr (lookup_relabel_local hloc))) ht (te:=lf X.K te) he hfs) fun σ H Q h =>
  Gd (fun y tt S1 H1 env k R gd re rt hg hR=>⟨Im hpi,hR _ _ (re.set rt) hg⟩) h
theorem L3(i j:Nat)(N:List Str)(pick:List (Option Nat)){x y:Str}{p1 p2 p3:Pos}{kk:Nat}(hc:X.calm=true)(hi:UI X (.Tuple [.Name x p1,.Name y p2] kk p3) iter ti)(ht:∀C s H fp pins,PTs (Xl X N scope C s H fp pins) ifs (lfT X.K tc))
  (he:∀C s H fp pins,UE (Xl X N scope C s H fp pins) elt te)
  (hs:scopeOk X.env.scope.names scope.names=true:=by rfl) (hp:D7 X.N scope.names N pick=true:=by rfl) (hk:scope.kind=.function:=by rfl) (hN:N.Nodup:=by decide +kernel)
  (hiN:N[i]?=some x:=by rfl) (hpi:pick[i]?=some none:=by rfl) (hloc:scope.names.lookup x=some .local:=by rfl) (hjN:N[j]?=some y:=by rfl) (hpj:pick[j]?=some none:=by rfl) (hloc':scope.names.lookup y=some .local:=by rfl)
  (hfs:∀x,foldedSetIterable iter X.env x=pure x:=by intro _;rfl) :
  UE X (.ListComp elt [⟨.Tuple [.Name x p1,.Name y p2] kk p3,iter,ifs,0⟩] scope pos) (Av pick ti (gPr i j) tc te) :=
 PE.imp (Oh (g:=gTup X.K 2 (Sh (Jz i) (Sh (Jz j) gNil))) hc hs hp hk hi (fun C s H fp pins=>Lh (X:=Xl X N scope C s H fp pins) (n:=2) hc (Cm (B8 (X:=Xl X N scope C s H fp pins) (i:=i) hN hiN (.inl (lookup_relabel_local hloc)) (.inr (lookup_relabel_local hloc))) (Cm (B8 (X:=Xl X N scope C s H fp pins) (i:=j) hN hjN (.inl (lookup_relabel_local hloc')) (.inr (lookup_relabel_local hloc'))) Hj))) ht (te:=lf X.K te) he hfs) fun σ H Q h =>
  Gd (fun v tt S1 H1 env k R gd re rt hg hR=>by
   cases tt with
   |tup ts =>
    match ts,hg with
    |[a,b],hg =>
     obtain⟨l,vs,rfl,f,r⟩:=rt.tupE
     match vs,f,r with
     |[v,w],f,r=>exact⟨l,[v,w],rfl,f.sq,rfl,v,[w],rfl,w,[],rfl,rfl,Qt hpi hpj,hR _ _ ((re.set r.head).set r.tail.head) hg⟩
     |[],_,r=>exact absurd r.1 (by simp)
     |[_],_,r=>exact absurd r.1 (by simp)
     |_::_::_::_,_,r=>exact absurd r.1 (by simp)
   |_=>exact hg.elim) h
def uYes:UTT:=fun _ S P=>P true S
theorem Ak:PTs X [] (lfT X.K uYes):=fun pins s σ H Q I h=>Wo pins s σ H Q I (by
 obtain⟨S,env,P,g,re,h,fin⟩:=h
 exact fin true S H .refl g h)
theorem Dw{c:Expr}(h:UT X c tc):PTs X [c] (lfT X.K tc):=Wv h
end
def Xm(N:List Str)(ts:List T):Ev:=ts.map some++List.replicate (N.length - ts.length) none
section
variable{P:Program}{w:World}{K:PySem.W.Frag}{mg:Str->Option Value}{base:Heap}
theorem Iu{S:TH}{H:Hp}{N:List Str}{vs:List V}{ts:List T}(r:Reps K S H vs ts):REnv K S H (L2.D2 N vs) (Xm N ts):=by
 refine⟨by simp[L2.D2,Xm,r.1],fun i t e=>?_⟩
 unfold Xm at e
 unfold L2.D2
 by_cases hi:i<ts.length
 ·rw[List.getElem?_append_left (by simpa using hi),List.getElem?_map] at e
  cases et:ts[i]? with
  |none=>rw[et] at e;cases e
  |some t' =>
   rw[et] at e
   cases e
   obtain⟨v,ev,rv⟩:=r.get et
   refine⟨v,?_,rv⟩
   rw[List.getElem?_append_left (by simp[r.1];exact hi),List.getElem?_map,ev]
   rfl
 ·rw[List.getElem?_append_right (by simpa using hi),List.getElem?_replicate] at e
  split at e <;> cases e
theorem X6{x qual:Str}{st:Stmt}{f:Addr}{fd:FuncData}{N ps:List Str}{k:Nat}{t:List T->TH->UX->Prop}(F:Fun K x qual st f fd)(Sc:Zv N ps (Zb st))(hl:∀ts S Pp,t ts S Pp->ts.length=ps.length)
  (hb:∀(cdv:Value) (A:Around) (outer:List Env) (s:Shared) (H:Hp) (E:XK),Room k (A.deeper (envOfC qual (Zb st) s.heap.objs.size f cdv)) →
   ∃tb,USs (cxOf CX0 P w K mg base N qual (Zb st) f cdv A outer s H E).nox (defBody st) tb/\∀ts S Pp,t ts S Pp->tb { nx:=fun _ S'=>Pp .non S',rt:=Pp } (Xm N ts) S) :
  FnOk P w K mg base CX0 (k+1) f fd ps (spU K t):=by
 refine F.ok Sc (fun vs H Q E h=>?_) (fun cdv A outer s H vs Q E hr h=>?_)
 ·obtain⟨S,ts,Pp,_,r,h,_⟩:=h
  rw[r.1]
  exact hl ts S Pp h
 ·obtain⟨S,ts,Pp,g,r,h,fin⟩:=h
  obtain⟨tb,hu,hq⟩:=hb cdv A outer s H E hr
  refine⟨_,hu,S,Xm N ts,_,g,Iu r,hq ts S Pp h,⟨fun σ' env' S' H' le g' re' q=>fin .non .non S' H' le g' .non q,fun v r' S' H' le g' rp q=>fin v r' S' H' le g' rp q,fun _ _ _ _ _ _ _ z=>z.elim,fun _ _ _ _ _ _ _ z=>z.elim⟩⟩
theorem Aaf{f:Addr}{fd:FuncData}{ps:List Str}{k:Nat}{t:List T->TH->UX->Prop}(h:∀ts S Pp,¬ t ts S Pp):FnOk P w K mg base CX0 k f fd ps (spU K t):=by
 have no:∀vs H Q E,¬ spU K t vs H Q E:=fun vs H Q E z=>by
  obtain⟨S,ts,Pp,_,_,z,_⟩:=z
  exact h ts S Pp z
 exact⟨fun vs H Q E z=>absurd z (no vs H Q E),fun A outer s H args us vs Q E _ _ _ _ z=>absurd z (no vs H Q E)⟩
end
end TL
end
section
namespace L2
open PySem PySem.Spec PyProof.Rows
end L2
namespace TL
open PySem PySem.Spec PyProof.Rows L2
section
variable{K:PySem.W.Frag}{S:TH}{H:Hp}{vs:List V}{ts:List T}{t:T}{i:Int}
theorem Reps.at(h:Reps K S H vs ts)(e:atI ts i=some t):∃v,atI vs i=some v/\Rep K S H v t:=by
 unfold atI at e ⊢
 rw[h.1]
 cases q:ixN ts.length i with
 |none=>rw[q] at e;cases e
 |some j =>
  rw[q] at e
  exact h.get e
def oIx:T->T->TH->UX->Prop:=fun x y S P=>match x,y with
 | .lst ts,.int i=>∃t,atI ts i=some t/\P t S
 | .fls ts,.int i=>∃t,atI ts i=some t/\P t S
 | .tup ts,.int i=>∃t,atI ts i=some t/\P t S
 | .str z,.int i=>z.length<=sizeLine/\∃c,atI z.cps.toList i=some c/\P (.str ⟨#[c]⟩) S
 | .ref p,.int i=>∃ts,S p=some (.lst ts)/\∃t,atI ts i=some t/\P t S
 |_,_=>False
theorem lIx:LOp K (rIx K) oIx:=fun S H v w x y P Q g rx ry ho fin=>by
 have go:∀{ts:List T} {vs:List V} {i:Int} {a:Addr},Reps K S H vs ts->(∃t,atI ts i=some t/\P t S)->∃v t,atI vs i=some v/\Rep K S H v t/\P t S:=fun {ts vs i a} r h=>by
  obtain⟨t,e,h⟩:=h
  obtain⟨v,ev,rv⟩:=r.at e
  exact⟨v,t,ev,rv,h⟩
 cases y with
 |int i =>
  cases ry
  cases x with
  |lst ts =>
   obtain⟨a,vs,rfl,f,r⟩:=rx.lstE
   obtain⟨u,t,e,ru,hp⟩:=go (a:=a) r ho
   exact .inl ⟨a,vs,i,u,rfl,rfl,f.sq,e,fin u t S H .refl g ru hp⟩
  |fls ts =>
   obtain⟨a,vs,rfl,f,r⟩:=rx.flsE
   obtain⟨u,t,e,ru,hp⟩:=go (a:=a) r ho
   exact .inl ⟨a,vs,i,u,rfl,rfl,f.sq,e,fin u t S H .refl g ru hp⟩
  |tup ts =>
   obtain⟨a,vs,rfl,f,r⟩:=rx.tupE
   obtain⟨u,t,e,ru,hp⟩:=go (a:=a) r ho
   exact .inr (.inl ⟨a,vs,i,u,rfl,rfl,f.sq,e,fin u t S H .refl g ru hp⟩)
  |str z =>
   cases rx
   obtain⟨hz,c,e,ho⟩:=ho
   exact .inr (.inr ⟨z,i,c,rfl,rfl,hz,e,fin _ _ S H .refl g (.str _) ho⟩)
  |ref p =>
   cases rx
   obtain⟨ts,e,ho⟩:=ho
   obtain⟨vs,q,r⟩:=g p _ e
   obtain⟨u,t,e',ru,hp⟩:=go (a:=p) r ho
   exact .inl ⟨p,vs,i,u,rfl,rfl,SqL.of q,e',fin u t S H .refl g ru hp⟩
  |_=>exact ho.elim
 |_=>cases x <;> exact ho.elim
end
section
variable{X:Cx}{a b c e:Expr}{es:List Expr}{ta tb te:UTE}{tr:UTA}{pos:Pos}
theorem Zx(ha:UE X a ta)(hb:UE X b tb)(hs:Ox b:=by intro _ _;rfl):UE X (.Subscript a b pos) (Bb oIx ta tb):=PE.imp (pe_ix Ys ha hb hs) fun _ _ _ h=>Ow lIx h
def keyT:T->Option Key
 | .int i=>some (.inl i)
 | .str x=>some (.inr x)
 |_=>none
def valT(kts:List (Key×T))(k:Key):Option T:=(kts.find? fun kv=>decide (kv.1=k)).map (·.2)
theorem Nw{K:PySem.W.Frag}{S:TH}{H:Hp}{v:V}{t:T}{k:Key}(r:Rep K S H v t)(e:keyT t=some k):v=kV k:=by
 cases t with
 |int i=>cases r;cases e;rfl
 |str x=>cases r;cases e;rfl
 |_=>cases e
theorem RepK.val{K:PySem.W.Frag}{S:TH}{H:Hp}{k:Key}:∀{kvs:List (Key×V)} {kts:List (Key×T)},RepK K S H kvs kts->(∀t,valT kts k=some t->∃v,valV kvs k=some v/\Rep K S H v t)/\(valT kts k=none->valV kvs k=none)
 |[],[],_=>⟨fun t e=>(by simp[valT] at e),fun _=>rfl⟩
 |[],_::_,h=>by have:=h.1;simp at this
 |_::_,[],h=>by have:=h.1;simp at this
 |v::kvs,t::kts,h=>by
  have h0:=h.2 0 v t rfl rfl
  have ht:RepK K S H kvs kts:=⟨by simpa using h.1,fun i v' t' e1 e2=>h.2 (i+1) v' t' (by simpa using e1) (by simpa using e2)⟩
  have ih:=RepK.val (k:=k) ht
  by_cases e:t.1=k
  ·have e':v.1=k:=h0.1.trans e
   have q1:valT (t::kts) k=some t.2:=by simp[valT,List.find?_cons,e]
   have q2:valV (v::kvs) k=some v.2:=by simp[valV,List.find?_cons,e']
   rw[q1,q2]
   exact⟨fun t' z=>by cases z;exact⟨_,rfl,h0.2⟩,fun z=>by cases z⟩
  ·have e':¬ v.1=k:=fun z=>e (h0.1.symm.trans z)
   have q1:valT (t::kts) k=valT kts k:=by simp[valT,List.find?_cons,e]
   have q2:valV (v::kvs) k=valV kvs k:=by simp[valV,List.find?_cons,e']
   rw[q1,q2]
   exact ih
def cutA{α:Type}(xs:List α)(lo hi:Option Int):List α:=(xs.drop (HT.sIx xs.length 0 lo)).take (HT.sIx xs.length xs.length hi - HT.sIx xs.length 0 lo)
theorem Reps.cut{K:PySem.W.Frag}{S:TH}{H:Hp}{vs:List V}{ts:List T}(h:Reps K S H vs ts)(lo hi:Option Int):Reps K S H (K4 vs lo hi) (cutA ts lo hi):=by
 unfold K4 cutA
 rw[h.1]
 exact(h.drop _).take _
abbrev UTO:=Ev->TH->(Option Int->TH->Prop)->Prop
def lfO(K:PySem.W.Frag)(t:UTO):TO:=fun σ H Q=>∃S env P,Good K S H/\REnv K S H σ env/\t env S P/\∀o S' H',Le S H S' H'->Good K S' H'->P o S'->Q o H'
def UO(X:Cx)(e:Option Expr)(t:UTO):Prop:=PO X e (lfO X.K t)
theorem PO.imp{X:Cx}{e:Option Expr}{t t':TO}(h:PO X e t)(i:∀ σ H Q,t' σ H Q->t σ H Q):PO X e t':=fun pins s σ H Q I q=>h pins s σ H Q I (i σ H Q q)
def uoN:UTO:=fun _ S P=>P none S
def uoS(t:UTE):UTO:=fun env S P=>t env S fun x S1=>match x with
 | .int i=>P (some i) S1
 |_=>False
theorem Af:UO X none uoN:=PO.imp U6 fun σ H Q ⟨S,env,P,g,re,h,fin⟩=>fin none S H .refl g h
theorem Ad(h:UE X e te):UO X (some e) (uoS te):=PO.imp (Vi h) fun σ H Q ⟨S,env,P,g,re,h,fin⟩=>Za ⟨g,re⟩ h fun v x S1 H1 le1 m1 rx h1=>by
 cases x with
 |int i=>cases rx;exact⟨i,rfl,fin _ S1 H1 le1 m1.g h1⟩
 |_=>exact h1.elim
def G0(xs:List T)(S:TH)(P:UX):Prop:=match xs with
 |[.lst ts]=>P (.int ts.length) S
 |[.fls ts]=>P (.int ts.length) S
 |[.tup ts]=>P (.int ts.length) S
 |[.str z]=>z.length<=sizeLine/\P (.int z.length) S
 |[.ref p]=>∃ts,S p=some (.lst ts)/\P (.int ts.length) S
 |_=>False
theorem Reps.one{K:PySem.W.Frag}{S:TH}{H:Hp}{vs:List V}{t:T}(h:Reps K S H vs [t]):∃v,vs=[v]/\Rep K S H v t:=by
 match vs,h with
 |[v],h=>exact⟨v,rfl,h.head⟩
 |[],h=>exact absurd h.1 (by simp)
 |_::_::_,h=>exact absurd h.1 (by simp)
theorem Reps.two{K:PySem.W.Frag}{S:TH}{H:Hp}{vs:List V}{t u:T}(h:Reps K S H vs [t,u]):∃v w,vs=[v,w]/\Rep K S H v t/\Rep K S H w u:=by
 match vs,h with
 |[v,w],h=>exact⟨v,w,rfl,h.head,h.tail.head⟩
 |[],h=>exact absurd h.1 (by simp)
 |[_],h=>exact absurd h.1 (by simp)
 |_::_::_::_,h=>exact absurd h.1 (by simp)
theorem lLen{K:PySem.W.Frag}:F2 K (fun xs H Q=>(∃p ys,xs=[.ref p]/\(SqL K H p ys\/SqT K H p ys)/\Q (.int ys.length) H)\/(∃z,xs=[.str z]/\z.length<=sizeLine/\Q (.int z.length) H)) G0:=fun S H vs xs P Q g r ho fin=>by
 match xs,r,ho with
 |[x],r,ho =>
  obtain⟨v,rfl,rx⟩:=r.one
  cases x with
  |lst ts =>
   obtain⟨a,us,rfl,f,r⟩:=rx.lstE
   refine .inl ⟨a,us,rfl,.inl f.sq,?_⟩
   rw[r.1]
   exact fin _ _ S H .refl g (.int _) ho
  |fls ts =>
   obtain⟨a,us,rfl,f,r⟩:=rx.flsE
   refine .inl ⟨a,us,rfl,.inl f.sq,?_⟩
   rw[r.1]
   exact fin _ _ S H .refl g (.int _) ho
  |tup ts =>
   obtain⟨a,us,rfl,f,r⟩:=rx.tupE
   refine .inl ⟨a,us,rfl,.inr f.sq,?_⟩
   rw[r.1]
   exact fin _ _ S H .refl g (.int _) ho
  |str z=>cases rx;exact .inr ⟨z,rfl,ho.1,fin _ _ S H .refl g (.int _) ho.2⟩
  |ref p =>
   cases rx
   obtain⟨ts,e,ho⟩:=ho
   obtain⟨us,q,r⟩:=g p _ e
   refine .inl ⟨p,us,rfl,.inl (SqL.of q),?_⟩
   rw[r.1]
   exact fin _ _ S H .refl g (.int _) ho
  |_=>exact ho.elim
 |[],_,ho=>exact ho.elim
 |_::_::_,_,ho=>exact(by revert ho;simp[G0])
theorem Zl{p:Pos}(hg:Gl X "len")(hm:X.mg "len"=none)(ha:UA X [e] tr)(he:starEach [e] X.env=(false,eval e X.env)::starEach [] X.env:=by rfl):UE X (.Call (.Name "len" p) [e] [] pos) (Bq G0 tr):=Eh (call_len_seq.or K1) lLen hg hm PySem.boot_len ha (he:=he)
def D0(xs:List T)(S:TH)(P:UX):Prop:=match xs with
 |[.lst ts]=>P (.lst ts) S
 |[.tup ts]=>P (.lst ts) S
 |_=>False
theorem lList{K:PySem.W.Frag}:F2 K (fun xs H Q=>∃p ys,xs=[.ref p]/\(SqL K H p ys\/SqT K H p ys)/\∀l,H l=none->Q (.ref l) (upd H l (.lst ys))) D0:=fun S H vs xs P Q g r ho fin=>by
 match xs,r,ho with
 |[x],r,ho =>
  obtain⟨v,rfl,rx⟩:=r.one
  cases x with
  |lst ts =>
   obtain⟨a,us,rfl,f,r⟩:=rx.lstE
   exact⟨a,us,rfl,.inl f.sq,fun p hp=>C0 fin g hp r ho⟩
  |tup ts =>
   obtain⟨a,us,rfl,f,r⟩:=rx.tupE
   exact⟨a,us,rfl,.inr f.sq,fun p hp=>C0 fin g hp r ho⟩
  |_=>exact ho.elim
 |[],_,ho=>exact ho.elim
 |_::_::_,_,ho=>exact(by revert ho;simp[D0])
def G4(xs:List T)(S:TH)(P:UX):Prop:=match xs with
 |[.int i]=>P (.int i) S
 |[.bl k]=>P (.int (if k then 1 else 0)) S
 |_=>False
theorem lInt{K:PySem.W.Frag}:F2 K (fun xs H Q=>(∃i,xs=[.int i]/\Q (.int i) H)\/∃k,xs=[.bl k]/\Q (.int (if k then 1 else 0)) H) G4:=fun S H vs xs P Q g r ho fin=>by
 match xs,r,ho with
 |[x],r,ho =>
  obtain⟨v,rfl,rx⟩:=r.one
  cases x with
  |int i=>cases rx;exact .inl ⟨i,rfl,fin _ _ S H .refl g (.int _) ho⟩
  |bl k=>cases rx;exact .inr ⟨k,rfl,fin _ _ S H .refl g (.int _) ho⟩
  |_=>exact ho.elim
 |[],_,ho=>exact ho.elim
 |_::_::_,_,ho=>exact(by revert ho;simp[G4])
def strsT:List T->Option (List Str)
 |[]=>some []
 | .str x::r=>(strsT r).map (x::·)
 |_=>none
theorem Kf{K:PySem.W.Frag}{S:TH}{H:Hp}:∀{vs:List V} {ts:List T} {zs:List Str},Reps K S H vs ts->strsT ts=some zs->vs=zs.map V.str
 |[],[],zs,_,e=>by cases e;rfl
 |[],_::_,_,h,_=>by have:=h.1;simp at this
 |_::_,[],_,h,_=>by have:=h.1;simp at this
 |v::vs,t::ts,zs,h,e=>by
  cases t with
  |str x =>
   have r0:=h.head
   cases r0
   simp only[strsT] at e
   cases q:strsT ts with
   |none=>rw[q] at e;cases e
   |some ys =>
    rw[q] at e
    cases e
    rw[Kf h.tail q]
    rfl
  |_=>cases e
theorem Qy(zs:List Str):(zs.map V.str).all Fh=true:=by
 induction zs with
 |nil=>rfl
 |cons z r ih=>rw[List.map_cons,List.all_cons,ih];rfl
theorem Sn(x:Str)(zs:List Str):inV (.str x) (zs.map V.str)=decide (x∈zs):=by
 unfold inV
 rw[List.any_map]
 induction zs with
 |nil=>rfl
 |cons z r ih =>
  rw[List.any_cons,ih]
  show (eqV (V.str z) (V.str x) || decide (x∈r))=decide (x∈z::r)
  have q:eqV (V.str z) (V.str x)=decide (z=x):=by
   show (z==x)=_
   exact Bool.beq_eq_decide_eq z x
  rw[q,Bool.eq_iff_iff]
  simp only[Bool.or_eq_true,decide_eq_true_eq,List.mem_cons]
  constructor
  ·rintro(h|h)
   ·exact .inl h.symm
   ·exact .inr h
  ·rintro(h|h)
   ·exact .inl h.symm
   ·exact .inr h
def oIn(neg:Bool):T->T->TH->UX->Prop:=fun x y S P=>match x,y with
 | .str x,.lst ts=>(∃zs,strsT ts=some zs/\P (.bl (if neg then !decide (x∈zs) else decide (x∈zs))) S)
 | .str x,.tup ts=>(∃zs,strsT ts=some zs/\P (.bl (if neg then !decide (x∈zs) else decide (x∈zs))) S)
 | .str x,.ref p=>∃ts,S p=some (.lst ts)/\∃zs,strsT ts=some zs/\P (.bl (if neg then !decide (x∈zs) else decide (x∈zs))) S
 |_,_=>False
theorem lIn{K:PySem.W.Frag}{neg:Bool}:LOp K (rIn K neg) (oIn neg):=fun S H v w x y P Q g rx ry ho fin=>by
 cases x with
 |str x =>
  cases rx
  have go:∀{ts:List T} {vs:List V} {p:Addr},Reps K S H vs ts->(SqL K H p vs\/SqT K H p vs)->(∃zs,strsT ts=some zs/\P (.bl (if neg then !decide (x∈zs) else decide (x∈zs))) S)->rIn K neg (.str x) (.ref p) H Q:=fun {ts vs p} r sq h=>by
   obtain⟨zs,e,h⟩:=h
   have ev:=Kf r e
   subst ev
   refine⟨p,_,rfl,sq,rfl,Qy zs,?_⟩
   rw[Sn]
   exact fin _ _ S H .refl g (.bl _) h
  cases y with
  |lst ts =>
   obtain⟨a,vs,rfl,f,r⟩:=ry.lstE
   exact go r (.inl f.sq) ho
  |tup ts =>
   obtain⟨a,vs,rfl,f,r⟩:=ry.tupE
   exact go r (.inr f.sq) ho
  |ref p =>
   cases ry
   obtain⟨ts,e,ho⟩:=ho
   obtain⟨vs,q,r⟩:=g p _ e
   exact go r (.inl (SqL.of q)) ho
  |_=>exact ho.elim
 |_=>exact ho.elim
def tyT:T->Option String
 | .non=>some "NoneType" | .bl _=>some "bool" | .int _=>some "int" | .str _=>some "str" | .tup _=>some "tuple" | .lst _=>some "list" | .dct _=>some "dict"
 |_=>none
def isT(n c:String):Bool:=n==c || (n=="bool"&&c=="int")
end
end TL
end
section
namespace TL
open PySem PySem.Spec PyProof.Rows L2
def B0(z:Str):List T:=z.cps.toList.map fun (c:Nat)=>T.str ⟨#[c]⟩
section
variable{K:PySem.W.Frag}{S:TH}{H:Hp}
theorem ylds_str{z:Str}:Ylds K (Its z) (B0 z) S H where
 go:=fun i S2 H2 le g hi=>by
  have:(B0 z).length=z.cps.size:=by simp[B0]
  rw[this] at hi;exact hi
 stop:=fun S2 H2 le g=>by
  show (B0 z).length=z.cps.size
  simp[B0]
 yld:=fun i S2 H2 x H3 le g hi y=>by
  obtain⟨rfl,c,hc,rfl⟩:=y
  refine⟨.refl,g,.str ⟨#[c]⟩,?_,.str _⟩
  have hc':z.cps.toList[i]?=some c:=by simpa using hc
  simp[B0,List.getElem?_map,hc']
def Fc(xs ys:List T):List T:=List.zipWith (fun x y=>T.tup [x,y]) xs ys
theorem Ul{a b:Addr}{vs ws:List V}{xs ys:List T}(f:FT K S H a vs)(r:Reps K S H vs xs)(f':FT K S H b ws)(r':Reps K S H ws ys)(hl:xs.length=ys.length):Ylds K (Itz K a b) (Fc xs ys) S H:=by
 have hz:(Fc xs ys).length=xs.length:=by simp[Fc];omega
 refine⟨fun i S2 H2 le g hi=>?_,fun S2 H2 le g=>?_,fun i S2 H2 x H3 le g hi y=>?_⟩
 ·rw[hz] at hi
  have h1:i<vs.length:=by rw[r.1];exact hi
  have h2:i<ws.length:=by rw[r'.1];omega
  exact⟨vs,ws,vs[i],ws[i],(f.mono le).sq,(f'.mono le).sq,List.getElem?_eq_getElem h1,List.getElem?_eq_getElem h2⟩
 ·rw[hz]
  exact⟨vs,(f.mono le).sq,by rw[r.1];exact Nat.le_refl _⟩
 ·obtain⟨p,v,w,hp,rfl,rfl,e1,e2⟩:=y
  obtain⟨t,et,rt⟩:=r.get' (e1 vs (f.mono le).sq)
  obtain⟨u,eu,ru⟩:=r'.get' (e2 ws (f'.mono le).sq)
  have ln:Le S2 H2 S2 (upd H2 p (.tup [v,w])):=Le.new g hp
  refine⟨ln,g.new hp,.tup [t,u],?_,.tupI (.inl ⟨g.free hp,Br⟩) (.cons (rt.mono (le.trans ln)) (.cons (ru.mono (le.trans ln)) .nil))⟩
  simp[Fc,List.getElem?_zipWith,et,eu]
end
section
variable{X:Cx}{a b c e tg iter:Expr}{es:List Expr}{ta tb tc te:UTE}{tr:UTA}{pos:Pos}
def Aao(t:UTE):UTA:=fun env S P=>t env S fun x S1=>match x with
 | .lst ts=>P ts S1
 | .fls ts=>P ts S1
 | .tup ts=>P ts S1
 | .str z=>P (B0 z) S1
 |_=>False
theorem Xu(h:UE X iter te):UI X tg iter (Aao te):=PI.imp (Y9 h) fun σ H R ⟨S,env,P,g,re,h,fin⟩=>Za ⟨g,re⟩ h fun v x S1 H1 le1 m1 rx h1=>by
 cases x with
 |lst ts =>
  obtain⟨l,vs,rfl,f,r⟩:=rx.lstE
  exact .inl ⟨l,rfl,.inl ⟨⟨vs,f.sq⟩,fin ts _ S1 H1 le1 m1.g h1 (Jv (fun _ _ le=>(f.mono le).sq) r)⟩⟩
 |fls ts =>
  obtain⟨l,vs,rfl,f,r⟩:=rx.flsE
  exact .inl ⟨l,rfl,.inl ⟨⟨vs,f.sq⟩,fin ts _ S1 H1 le1 m1.g h1 (Jv (fun _ _ le=>(f.mono le).sq) r)⟩⟩
 |tup ts =>
  obtain⟨l,vs,rfl,f,r⟩:=rx.tupE
  exact .inl ⟨l,rfl,.inr ⟨⟨vs,f.sq⟩,fin ts _ S1 H1 le1 m1.g h1 (Tp f r)⟩⟩
 |str z=>cases rx;exact .inr ⟨z,rfl,fin _ _ S1 H1 le1 m1.g h1 ylds_str⟩
 |_=>exact h1.elim
def uZip(t:UTA):UTA:=fun env S P=>t env S fun ts S1=>match ts with
 |[.tup xs,.tup ys]=>xs.length=ys.length/\P (Fc xs ys) S1
 |_=>False
theorem Ro{k:Nat}{p tp:Pos}(hg:Gl X "zip")(hm:X.mg "zip"=none)(ha:UA X [a,b] tr)(hs:starEach [a,b] X.env=[(false,eval a X.env),(false,eval b X.env)]:=by rfl)(hs2:starEach [b] X.env=[(false,eval b X.env)]:=by rfl):
  UI X (.Tuple es k tp) (.Call (.Name "zip" p) [a,b] [] pos) (uZip tr):=PI.imp (Aan hg hm boot_zip ha hs hs2) fun σ H R ⟨S,env,P,g,re,h,fin⟩=>Ao ⟨g,re⟩ h fun vs xs S1 H1 le1 m1 rx h1=>by
 match xs,rx,h1 with
 |[.tup xs,.tup ys],rx,h1 =>
  obtain⟨v,w,rfl,r1,r2⟩:=rx.two
  obtain⟨l,us,rfl,f,r⟩:=r1.tupE
  obtain⟨l',us',rfl,f',r'⟩:=r2.tupE
  exact⟨l,l',us,us',rfl,f.sq,f'.sq,fin _ _ S1 H1 le1 m1.g h1.2 (Ul f r f' r' h1.1)⟩
def B9(o o':T->T->TH->UX->Prop)(ta tb tc:UTE):UTE:=fun env S P=>ta env S fun x S1=>tb env S1 fun y S2=>o x y S2 fun z S3=>match z with
 | .bl k=>(k=true->tc env S3 fun w S4=>o' y w S4 P)/\(k=false->P (.bl false) S3)
 |_=>False
def Ip:List T->Option (List Bool)
 |[]=>some []
 | .bl b::r=>(Ip r).map (b::·)
 |_=>none
theorem Lw{K:PySem.W.Frag}{S:TH}{H:Hp}:∀{vs:List V} {ts:List T} {zs:List Bool},Reps K S H vs ts->Ip ts=some zs->vs=zs.map V.bl
 |[],[],zs,_,e=>by cases e;rfl
 |[],_::_,_,h,_=>by have:=h.1;simp at this
 |_::_,[],_,h,_=>by have:=h.1;simp at this
 |v::vs,t::ts,zs,h,e=>by
  cases t with
  |bl x =>
   have r0:=h.head
   cases r0
   simp only[Ip] at e
   cases q:Ip ts with
   |none=>rw[q] at e;cases e
   |some ys =>
    rw[q] at e
    cases e
    rw[Lw h.tail q]
    rfl
  |_=>cases e
theorem Ho(bs:List Bool):Ip (bs.map T.bl)=some bs:=by
 induction bs with
 |nil=>rfl
 |cons b r ih=>simp only[List.map_cons,Ip,ih,Option.map_some]
def Gi(xs:List T)(S:TH)(P:UX):Prop:=match xs with
 |[.lst ts]=>(match Ip ts with|some bs=>P (.bl (bs.all id)) S|none=>False)
 |_=>False
theorem Fa{p:Pos}(hc:X.calm=true)(hg:Gl X "all")(hm:X.mg "all"=none)(ha:UA X [e] tr)(he:starEach [e] X.env=(false,eval e X.env)::starEach [] X.env:=by rfl):UE X (.Call (.Name "all" p) [e] [] pos) (Bq Gi tr) :=
 Eh (R0 hc) (fun S H vs xs P Q g r ho fin=>by
  match xs,r,ho with
  |[.lst ts],r,ho =>
   obtain⟨v,rfl,rx⟩:=r.one
   obtain⟨l,us,rfl,f,r⟩:=rx.lstE
   simp only[Gi] at ho
   cases q:Ip ts with
   |none=>rw[q] at ho;exact ho.elim
   |some bs =>
    rw[q] at ho
    have ev:=Lw r q
    subst ev
    exact⟨l,bs,rfl,f.sq,fin _ _ S H .refl g (.bl _) ho⟩) hg hm boot_all ha (he:=he)
def okC(c:String):Bool:=c=="int" || c=="str" || c=="bool" || c=="tuple" || c=="list"
theorem Lo{K:PySem.W.Frag}{t:T}{n c:String}(h:tyT t=some n)(hc:okC c=true):PySem.W.kitOne K (.type n) (.type c)=some (isT n c):=by
 simp only[okC,Bool.or_eq_true,beq_iff_eq] at hc
 cases t <;> simp only[tyT,Option.some.injEq,reduceCtorEq] at h <;> subst h <;> rcases hc with(((rfl|rfl)|rfl)|rfl)|rfl <;> rfl
theorem Ss{K:PySem.W.Frag}{S:TH}{H:Hp}{v:V}{t:T}{n:String}(r:Rep K S H v t)(h:tyT t=some n):TyV K H v (.type n):=by
 cases t with
 |non=>cases r;cases h;exact .inl .non
 |bl b=>cases r;cases h;exact .inl (.bl b)
 |int i=>cases r;cases h;exact .inl (.int i)
 |str x=>cases r;cases h;exact .inl (.str x)
 |tup ts =>
  cases h
  obtain⟨a,vs,rfl,f,_⟩:=r.tupE
  rcases f with f|f
  ·exact .inl (.tup f.2)
  ·obtain⟨o,its,n,hk,hc,_⟩:=f
   exact .inr ⟨rfl,a,o,rfl,hk,hc⟩
 |lst ts =>
  cases h
  obtain⟨a,vs,rfl,f,_⟩:=r.lstE
  exact .inl (.lst f.2)
 |dct ts =>
  cases h
  obtain⟨a,vs,rfl,n,hH,_⟩:=r.dctE
  exact .inl (.dK hH)
 |_=>cases h
def Dy(xs:List T)(S:TH)(P:UX):Prop:=match xs with
 |[x,.ty c]=>(match tyT x with|some n=>okC c=true/\P (.bl (isT n c)) S|none=>False)
 |[x,.tup [.ty c,.ty d]]=>(match tyT x with|some n=>okC c=true/\okC d=true/\P (.bl (isT n c || isT n d)) S|none=>False)
 |_=>False
theorem lIsi{K:PySem.W.Frag}:F2 K (rIsi K) Dy:=fun S H vs xs P Q g r ho fin=>by
 match xs,r,ho with
 |[x,.ty c],r,ho =>
  obtain⟨v,w,rfl,r1,r2⟩:=r.two
  cases r2
  simp only[Dy] at ho
  cases q:tyT x with
  |none=>rw[q] at ho;exact ho.elim
  |some n =>
   rw[q] at ho
   exact⟨v,_,_,Ss r1 q,.inl ⟨c,rfl,Lo q ho.1⟩,fin _ _ S H .refl g (.bl _) ho.2⟩
 |[x,.tup [.ty c,.ty d]],r,ho =>
  obtain⟨v,w,rfl,r1,r2⟩:=r.two
  obtain⟨p,us,rfl,f,r⟩:=r2.tupE
  obtain⟨u1,u2,rfl,r3,r4⟩:=r.two
  cases r3
  cases r4
  simp only[Dy] at ho
  cases q:tyT x with
  |none=>rw[q] at ho;exact ho.elim
  |some n =>
   rw[q] at ho
   refine⟨v,_,_,Ss r1 q,.inr ⟨p,c,d,rfl,f.sq,?_⟩,fin _ _ S H .refl g (.bl _) ho.2.2⟩
   have k1:=Lo (K:=K) q ho.1
   have k2:=Lo (K:=K) q ho.2.1
   simp only[PySem.W.kitAny,k1,k2]
   cases isT n c <;> cases isT n d <;> rfl
 |[],_,ho=>exact ho.elim
 |[x],_,ho=>exact(by revert ho;simp[Dy])
 |x::y::z::r,_,ho=>exact(by revert ho;simp[Dy])
def Il:T->T->TH->UX->Prop:=fun x y S P=>match y with
 | .non=>(match x with | .non=>P (.bl true) S|_=>P (.bl false) S)
 |_=>False
theorem lIsN{K:PySem.W.Frag}:LOp K (fun x y H Q=>y=.non/\Q (.bl (decide (x=.non))) H) Il:=fun S H v w x y P Q g rx ry ho fin=>by
 cases y with
 |non =>
  cases ry
  refine⟨rfl,?_⟩
  cases x with
  |non=>cases rx;exact fin _ _ S H .refl g (.bl _) ho
  |_=>cases rx <;> exact fin _ _ S H .refl g (.bl _) ho
 |_=>exact ho.elim
def Ea:T->T->TH->UX->Prop:=fun x y S P=>match x,y with
 | .int i,.int j=>P (.int (i+j)) S
 | .str i,.str j=>i.length+j.length<=sizeLine/\P (.str (i++j)) S
 | .lst xs,.lst ys=>xs.length+ys.length<=sizeLine/\P (.lst (xs++ys)) S
 | .tup xs,.tup ys=>xs.length+ys.length<=sizeLine/\P (.tup (xs++ys)) S
 |_,_=>False
theorem Zp(ha:UE X a ta)(hb:UE X b tb):UE X (.BinOp a .Add b pos) (Bb Ea ta tb):=Dl (op_add.or (op_add_str.or (op_cat.or U0))) (fun S H v w x y P Q g rx ry ho fin=>by
 cases x with
 |int i =>
  cases y with
  |int j=>cases rx;cases ry;exact .inl ⟨i,j,rfl,rfl,fin _ _ S H .refl g (.int _) ho⟩
  |_=>exact ho.elim
 |str i =>
  cases y with
  |str j=>cases rx;cases ry;exact .inr (.inl ⟨i,j,rfl,rfl,ho.1,fin _ _ S H .refl g (.str _) ho.2⟩)
  |_=>exact ho.elim
 |lst xs =>
  cases y with
  |lst ys =>
   obtain⟨a,vs,rfl,f,r⟩:=rx.lstE
   obtain⟨b,us,rfl,f',r'⟩:=ry.lstE
   exact .inr (.inr (.inl ⟨a,b,vs,us,rfl,rfl,f.2,f'.2,by rw[r.1,r'.1];exact ho.1,fun p hp=>C0 fin g hp (r.append r') ho.2⟩))
  |_=>exact ho.elim
 |tup xs =>
  cases y with
  |tup ys =>
   obtain⟨a,vs,rfl,f,r⟩:=rx.tupE
   obtain⟨b,us,rfl,f',r'⟩:=ry.tupE
   refine .inr (.inr (.inr ⟨a,b,vs,us,rfl,rfl,f.sq,f'.sq,by rw[r.1,r'.1];exact ho.1,fun e=>?_,fun _ e=>?_,fun _ _ p hp=>C2 fin g hp (r.append r') ho.2⟩))
   ·subst e
    have e0:xs=[]:=List.length_eq_zero_iff.mp (by rw[<-r.1];rfl)
    subst e0
    exact fin _ _ S H .refl g ry ho.2
   ·subst e
    have e0:ys=[]:=List.length_eq_zero_iff.mp (by rw[<-r'.1];rfl)
    subst e0
    have h2:=ho.2
    rw[List.append_nil] at h2
    exact fin _ _ S H .refl g rx h2
  |_=>exact ho.elim
 |_=>exact ho.elim) ha hb
def Ja(x:T)(lo hi:Option Int)(S:TH)(P:UX):Prop:=match x with
 | .lst ts=>P (.lst (cutA ts lo hi)) S
 | .tup ts=>¬ (HT.sIx ts.length 0 lo=0/\HT.sIx ts.length ts.length hi=ts.length)/\P (.tup (cutA ts lo hi)) S
 | .str z=>z.length<=sizeLine/\P (.str (Txt.slice z lo hi)) S
 | .ref p=>∃ts,S p=some (.lst ts)/\P (.lst (cutA ts lo hi)) S
 |_=>False
def Jr(te:UTE)(tl th:UTO):UTE:=fun env S P=>te env S fun x S1=>tl env S1 fun l S2=>th env S2 fun u S3=>Ja x l u S3 P
theorem Bp{lo hi:Option Expr}{tl th:UTO}{p2:Pos}(he:UE X e te)(hl:UO X lo tl)(hh:UO X hi th):UE X (.Subscript e (.Slice lo hi none p2) pos) (Jr te tl th) :=
 PE.imp (Mo (sl_list.or (sl_tup.or Abf)) he hl hh) fun σ H Q ⟨S,env,P,g,re,h,fin⟩=>Za ⟨g,re⟩ h fun v x S1 H1 le1 m1 rx h1 =>
  ⟨S1,env,_,m1.g,m1.re,h1,fun l S2 H2 le2 g2 h2=>⟨S2,env,_,g2,m1.re.mono le2,h2,fun u S3 H3 le3 g3 h3=>by
   have rx3:=rx.mono (le2.trans le3)
   have f3:=fin.le (le1.trans (le2.trans le3))
   cases x with
   |lst ts =>
    obtain⟨a,vs,rfl,f,r⟩:=rx3.lstE
    exact .inl ⟨a,vs,rfl,f.sq,fun p hp=>C0 f3 g3 hp (r.cut l u) h3⟩
   |tup ts =>
    obtain⟨a,vs,rfl,f,r⟩:=rx3.tupE
    refine .inr (.inl ⟨a,vs,rfl,f.sq,?_,fun p hp=>C2 f3 g3 hp (r.cut l u) h3.2⟩)
    rw[r.1]
    exact h3.1
   |str z=>cases rx3;exact .inr (.inr ⟨z,rfl,h3.1,f3 _ _ S3 H3 .refl g3 (.str _) h3.2⟩)
   |ref p =>
    cases rx3
    obtain⟨ts,e3,h3⟩:=h3
    obtain⟨vs,q,r⟩:=g3 p _ e3
    exact .inl ⟨p,vs,rfl,SqL.of q,fun b hb=>C0 f3 g3 hb (r.cut l u) h3⟩
   |_=>exact h3.elim⟩⟩
theorem Reps.pick{K:PySem.W.Frag}{S:TH}{H:Hp}{vs:List V}{ts:List T}(r:Reps K S H vs ts):∀ix:List Nat,Reps K S H (ix.filterMap fun (i:Nat)=>vs[i]?) (ix.filterMap fun (i:Nat)=>ts[i]?)
 |[]=>.nil
 |i::ix=>by
  cases e:vs[i]? with
  |none =>
   have e':ts[i]?=none:=by
    rw[List.getElem?_eq_none_iff] at e ⊢
    rw[<-r.1];exact e
   simp only[List.filterMap_cons,e,e']
   exact Reps.pick r ix
  |some v =>
   obtain⟨t,ht,rt⟩:=r.get' e
   simp only[List.filterMap_cons,e,ht]
   exact .cons rt (Reps.pick r ix)
def Jo(te:UTE):UTE:=fun env S P=>te env S fun x S1=>match x with
 | .lst ts=>∀ix:List Nat,(ix.filterMap fun (i:Nat)=>ts[i]?).length<=ts.length->P (.lst (ix.filterMap fun (i:Nat)=>ts[i]?)) S1
 | .tup ts=>∀ix:List Nat,(ix.filterMap fun (i:Nat)=>ts[i]?).length<=ts.length->P (.tup (ix.filterMap fun (i:Nat)=>ts[i]?)) S1
 |_=>False
theorem Tg{p1 p2 p3:Pos}{j:Nat}(he:UE X e te):UE X (.Subscript e (.Slice none none (some (.UnaryOp .USub (.Constant (.int 1) j p1) p2)) p3) pos) (Jo te):=PE.imp (Y5 he) fun σ H Q ⟨S,env,P,g,re,h,fin⟩ =>
 Za ⟨g,re⟩ h fun v x S1 H1 le1 m1 rx h1=>by
  cases x with
  |lst ts =>
   obtain⟨a,vs,rfl,f,r⟩:=rx.lstE
   exact⟨a,vs,rfl,.inl ⟨f.sq,fun ix hl p hp=>C0 (fin.le le1) m1.g hp (r.pick ix) (h1 ix (by have:=(r.pick ix).1;have:=r.1;omega))⟩⟩
  |tup ts =>
   obtain⟨a,vs,rfl,f,r⟩:=rx.tupE
   exact⟨a,vs,rfl,.inr ⟨f.sq,fun ix hl p hp=>C2 (fin.le le1) m1.g hp (r.pick ix) (h1 ix (by have:=(r.pick ix).1;have:=r.1;omega))⟩⟩
  |_=>exact h1.elim
def Fx(neg:Bool):T->T->TH->UX->Prop:=fun x y S P=>match x,y with
 | .int i,.int j=>P (.bl (Bool.xor neg (decide (i=j)))) S
 | .str i,.str j=>P (.bl (Bool.xor neg (decide (i=j)))) S
 | .bl i,.bl j=>P (.bl (Bool.xor neg (decide (i=j)))) S
 | .lst xs,.lst []=>P (.bl (Bool.xor neg xs.isEmpty)) S
 |_,_=>False
theorem lEq2{K:PySem.W.Frag}{neg:Bool}{r:R2}(l:LOp K r (oEq neg)):LOp K (fun x y H Q=>r x y H Q\/rEqN K neg x y H Q) (Fx neg):=fun S H v w x y P Q g rx ry ho fin=>by
 cases x with
 |int i=>cases y with
  |int j=>exact .inl (l S H v w _ _ P Q g rx ry ho fin)
  |_=>exact ho.elim
 |str i=>cases y with
  |str j=>exact .inl (l S H v w _ _ P Q g rx ry ho fin)
  |_=>exact ho.elim
 |bl i=>cases y with
  |bl j=>exact .inl (l S H v w _ _ P Q g rx ry ho fin)
  |_=>exact ho.elim
 |lst xs =>
  cases y with
  |lst ys =>
   cases ys with
   |nil =>
    obtain⟨a,vs,rfl,f,r⟩:=rx.lstE
    obtain⟨b,us,rfl,f',r'⟩:=ry.lstE
    have e0:us=[]:=List.length_eq_zero_iff.mp (by rw[r'.1];rfl)
    subst e0
    refine .inr ⟨a,b,vs,rfl,rfl,f.sq,f'.sq,?_⟩
    have e1:vs.isEmpty=xs.isEmpty:=by
     have:=r.1
     cases vs <;> cases xs <;> simp at this ⊢
    rw[e1]
    exact fin _ _ S H .refl g (.bl _) ho
   |cons=>exact ho.elim
  |_=>exact ho.elim
 |_=>exact ho.elim
end
end TL
end
section
namespace TL
open PySem PySem.Spec PyProof.Rows L2
section
variable{X:Cx}{a b c e o:Expr}{es:List Expr}{ta tb tc te to:UTE}{tr:UTA}{pos apos cpos:Pos}
theorem Pg{K:PySem.W.Frag}{r r':R2}{q q':T->T->TH->UX->Prop}{σ:L2.St}{H:Hp}{Q:VK}(l:LOp K r q)(l':LOp K r' q')(h:lf K (B9 q q' ta tb tc) σ H Q):Nl r r' (lf K ta) (lf K tb) (lf K tc) σ H Q:=by
 obtain⟨S,env,P,g,re,h,fin⟩:=h
 refine Za ⟨g,re⟩ h fun v x S1 H1 le1 m1 rx h1=>Za m1 h1 fun w y S2 H2 le2 m2 ry h2=>?_
 refine l S2 H2 v w x y _ _ m2.g (rx.mono le2) ry h2 fun u z S3 H3 le3 g3 rz h3=>?_
 cases z with
 |bl k =>
  cases rz
  refine⟨k,rfl,?_⟩
  have m3:Mid K σ H3 S3 env:=⟨g3,m2.re.mono le3⟩
  cases k with
  |true =>
   rw[if_pos rfl]
   exact Za m3 (h3.1 rfl) fun w' z' S4 H4 le4 m4 rz' h4=>l' S4 H4 w w' y z' P Q m4.g (ry.mono (le3.trans le4)) rz' h4 (fin.le (le1.trans (le2.trans (le3.trans le4))))
  |false=>rw[if_neg Bool.false_ne_true];exact fin _ _ S3 H3 (le1.trans (le2.trans le3)) g3 (.bl _) (h3.2 rfl)
 |_=>exact h3.elim
theorem Rw{op op':CmpOp}{r r':R2}{q q':T->T->TH->UX->Prop}(ho:OpR X (compareOp op) r)(l:LOp X.K r q)(ho':OpR X (compareOp op') r')(l':LOp X.K r' q')(ha:UE X a ta)(hb:UE X b tb)(hc:UE X c tc)
  (hm:lastMarks [op,op'] [b,c]=false:=by with_unfolding_all rfl):UE X (.Compare a [op,op'] [b,c] pos) (B9 q q' ta tb tc):=PE.imp (T3 ho ho' ha hb hc hm) fun _ _ _ h=>Pg l l' h
theorem R6{op op':CmpOp}{r r':R2}{q q':T->T->TH->UX->Prop}(ho:OpR X (compareOp op) r)(l:LOp X.K r q)(ho':OpR X (compareOp op') r')(l':LOp X.K r' q')(ha:UE X a ta)(hb:UE X b tb)(hc:UE X c tc)
  (hm:lastMarks [op,op'] [b,c]=false:=by with_unfolding_all rfl):UT X (.Compare a [op,op'] [b,c] pos) (Bk (B9 q q' ta tb tc)):=PT.imp (R8 ho ho' ha hb hc hm) fun _ _ _ h=>Pg l l' (N8 h)
def Fl:T->T->TH->UX->Prop:=fun x y S P=>match x,y with
 | .int i,.int j=>P (.bl (decide (i<=j))) S
 | .str i,.str j=>P (.bl (!decide (j.cps.toList<i.cps.toList))) S
 |_,_=>False
theorem lLe2{K:PySem.W.Frag}:LOp K (fun x y H Q=>rI0 (fun i j=>.bl (decide (i<=j))) x y H Q\/∃i j,x=.str i/\y=.str j/\Q (.bl (!decide (j.cps.toList<i.cps.toList))) H) Fl:=fun S H v w x y P Q g rx ry ho fin=>by
 cases x with
 |int i=>cases y with
  |int j=>cases rx;cases ry;exact .inl ⟨i,j,rfl,rfl,fin _ _ S H .refl g (.bl _) ho⟩
  |_=>exact ho.elim
 |str i=>cases y with
  |str j=>cases rx;cases ry;exact .inr ⟨i,j,rfl,rfl,fin _ _ S H .refl g (.bl _) ho⟩
  |_=>exact ho.elim
 |_=>exact ho.elim
def Ei(kts:List (Key×T))(te:UTE):UTE:=fun env S P=>te env S fun y S1=>match keyT y with
 |some k=>P ((valT kts k).getD .non) S1
 |none=>False
theorem Vy{x:Str}{d:Addr}{kvs:List (Key×V)}{kts:List (Key×T)}{p:Pos}(hg:Gl X x)(hm:X.mg x=some (.ref d))(kd:KD X.prog X.w X.K d kvs)(rk:∀S H,RepK X.K S H kvs kts)(he:UE X e te)(m:M1 X (.Name x p) "get" apos e cpos)
  (hd:(x==("__debug__":Str))=false:=by decide):UE X (.Call (.Attribute (.Name x p) "get" apos) [e] [] cpos) (Ei kts te):=PE.imp (W3 hg hm kd he m hd) fun σ H Q ⟨S,env,P,g,re,h,fin⟩ =>
 Za ⟨g,re⟩ h fun v y S1 H1 le1 m1 ry h1=>by
  cases q:keyT y with
  |none=>rw[q] at h1;exact h1.elim
  |some k =>
   rw[q] at h1
   dsimp only at h1
   refine⟨k,Nw ry q,?_⟩
   have rv:=(rk S1 H1).val (k:=k)
   cases q2:valT kts k with
   |none =>
    rw[q2] at h1
    rw[rv.2 q2]
    exact fin _ _ S1 H1 le1 m1.g .non h1
   |some t =>
    rw[q2] at h1
    obtain⟨u,eu,ru⟩:=rv.1 t q2
    rw[eu]
    exact fin _ _ S1 H1 le1 m1.g ru h1
def Ew(to:UTE)(tr:UTA):UTE:=fun env S P=>to env S fun x S1=>match x with
 | .str a=>tr env S1 fun ys S2=>match ys with
  |[.str b]=>P (.int (Txt.find a b)) S2
  |_=>False
 |_=>False
theorem U7(ho:UE X o to)(ha:UA X [e] tr)(hbase:attributeBase o "find" X.env (eval o X.env)=eval o X.env:=by rfl)
  (hfew:((backTo cpos (starEach [e] X.env)).all (fun x=>!x.1)&&(backToKw cpos (keywordEach [] X.env)).all (fun x=>x.1.isSome)&&decide (([e]:List Expr).length+([]:List Keyword).length+(if ([]:List Keyword).isEmpty then 0 else 1)<30))=true:=by rfl)
  (hline:(apos.endLine==cpos.line)=true:=by rfl) (hs:starEach [e] X.env=(false,eval e X.env)::starEach [] X.env:=by rfl) (hplain:(backTo cpos (starEach [] X.env)).any (·.1)=false:=by rfl) :
  UE X (.Call (.Attribute o "find" apos) [e] [] cpos) (Ew to tr) :=
 PE.imp (Pa PySem.F.plainAttrs_str PySem.F.slot_str_find PySem.F.type_str_find Wm ho ha hbase hfew hline hs hplain) fun σ H Q ⟨S,env,P,g,re,h,fin⟩ =>
  Za ⟨g,re⟩ h fun v x S1 H1 le1 m1 rx h1=>by
   cases x with
   |str a =>
    cases rx
    refine⟨rfl,Ao m1 h1 fun vs rs S2 H2 le2 m2 rr h2=>?_⟩
    match rs,rr,h2 with
    |[.str b],rr,h2 =>
     obtain⟨w,rfl,rw'⟩:=rr.one
     cases rw'
     exact⟨a,b,rfl,rfl,fin _ _ S2 H2 (le1.trans le2) m2.g (.int _) h2⟩
   |_=>exact h1.elim
def Di(to:UTE):UTE:=fun env S P=>to env S fun x S1=>match x with
 | .str a=>Builtin.Str.tooLong (Txt.upper a).length=false/\P (.str (Txt.upper a)) S1
 |_=>False
theorem Rp(ho:UE X o to)(hbase:attributeBase o "upper" X.env (eval o X.env)=eval o X.env:=by rfl)(hline:(apos.endLine==cpos.line)=true:=by rfl):UE X (.Call (.Attribute o "upper" apos) [] [] cpos) (Di to) :=
 PE.imp (Aax PySem.F.plainAttrs_str PySem.F.slot_str_upper PySem.F.type_str_upper Rq ho hbase hline) fun σ H Q ⟨S,env,P,g,re,h,fin⟩ =>
  Za ⟨g,re⟩ h fun v x S1 H1 le1 m1 rx h1=>by
   cases x with
   |str a=>cases rx;exact⟨rfl,a,rfl,rfl,h1.1,fin _ _ S1 H1 le1 m1.g (.str _) h1.2⟩
   |_=>exact h1.elim
def Xj(to:UTE)(tr:UTA):UTE:=fun env S P=>to env S fun x S1=>match x with
 | .ref p=>(∃ts0,S1 p=some (.lst ts0))/\tr env S1 fun ys S2=>match ys with
  |[y]=>∃ts,S2 p=some (.lst ts)/\ts.length<sizeLine/\P .non (C8 S2 p (.lst (ts++[y])))
  |_=>False
 |_=>False
theorem F9(ho:UE X o to)(ha:UA X [e] tr)(hbase:attributeBase o "append" X.env (eval o X.env)=eval o X.env:=by rfl)
  (hfew:((backTo cpos (starEach [e] X.env)).all (fun x=>!x.1)&&(backToKw cpos (keywordEach [] X.env)).all (fun x=>x.1.isSome)&&decide (([e]:List Expr).length+([]:List Keyword).length+(if ([]:List Keyword).isEmpty then 0 else 1)<30))=true:=by rfl)
  (hline:(apos.endLine==cpos.line)=true:=by rfl) (hs:starEach [e] X.env=(false,eval e X.env)::starEach [] X.env:=by rfl) (hplain:(backTo cpos (starEach [] X.env)).any (·.1)=false:=by rfl) :
  UE X (.Call (.Attribute o "append" apos) [e] [] cpos) (Xj to tr) :=
 PE.imp (Pa PySem.F.plainAttrs_list PySem.F.slot_list_append PySem.F.type_list_append Qn ho ha hbase hfew hline hs hplain) fun σ H Q ⟨S,env,P,g,re,h,fin⟩ =>
  Za ⟨g,re⟩ h fun v x S1 H1 le1 m1 rx h1=>by
   cases x with
   |ref p =>
    cases rx
    obtain⟨⟨ts0,e0⟩,h1⟩:=h1
    obtain⟨vs0,q0,_⟩:=m1.g p _ e0
    refine⟨.inl ⟨rfl,_,SqL.of q0⟩,Ao m1 h1 fun vs rs S2 H2 le2 m2 rr h2=>?_⟩
    match rs,rr,h2 with
    |[y],rr,h2 =>
     obtain⟨w,rfl,rw'⟩:=rr.one
     obtain⟨ts,e2,hl,hp⟩:=h2
     obtain⟨us,q2,r2⟩:=m2.g p _ e2
     refine⟨p,us,w,rfl,rfl,q2,by rw[r2.1];exact hl,?_⟩
     exact fin _ _ _ _ (le1.trans (le2.trans (Le.write e2))) (m2.g.writeL e2 (r2.append (.cons rw' .nil))) .non hp
   |_=>exact h1.elim
def Je(to:UTE):UTE:=fun env S P=>to env S fun x S1=>match x with
 | .ref p=>∃ts,S1 p=some (.lst ts)/\P (.lst ts) (F0 S1 p)
 |_=>False
theorem Yu(ho:UE X o to):UE X o (Je to):=PE.imp ho fun σ H Q ⟨S,env,P,g,re,h,fin⟩=>Za ⟨g,re⟩ h fun v x S1 H1 le1 m1 rx h1=>by
 cases x with
 |ref p =>
  cases rx
  obtain⟨ts,e,hp⟩:=h1
  obtain⟨us,q,r⟩:=m1.g p _ e
  exact fin _ _ (F0 S1 p) H1 (le1.trans Le.del) m1.g.del (.lstI ⟨C4,q⟩ (r.mono Le.del)) hp
 |_=>exact h1.elim
theorem Fv(hu:X.A.units<cLine)(ha:UE X a ta)(hb:UE X b tb):UE X (.Compare a [.Eq] [b] pos) (Bb (Fx false) ta tb):=Hz (op_eq.or (Ta hu)) (lEq2 lEq) ha hb (Dj _)
theorem ue_ne(hu:X.A.units<cLine)(ha:UE X a ta)(hb:UE X b tb):UE X (.Compare a [.NotEq] [b] pos) (Bb (Fx true) ta tb):=Hz (op_ne.or (Tj hu)) (lEq2 lNe) ha hb (Dj _)
theorem Xf(hu:X.A.units<cLine)(ha:UE X a ta)(hb:UE X b tb):UT X (.Compare a [.Eq] [b] pos) (Bk (Bb (Fx false) ta tb)):=Ee (op_eq.or (Ta hu)) (lEq2 lEq) ha hb (Dj _)
theorem Jy(hu:X.A.units<cLine)(ha:UE X a ta)(hb:UE X b tb):UT X (.Compare a [.NotEq] [b] pos) (Bk (Bb (Fx true) ta tb)):=Ee (op_ne.or (Tj hu)) (lEq2 lNe) ha hb (Dj _)
theorem Eb(ha:UE X a ta)(hb:UE X b tb):UT X (.Compare a [.Lt] [b] pos) (Bk (Bb oLt ta tb)):=Ee op_lt lLt ha hb (Dj _)
theorem Cn(ha:UE X a ta)(hb:UE X b tb):UT X (.Compare a [.Gt] [b] pos) (Bk (Bb oGt ta tb)):=Ee W7 lGt ha hb (Dj _)
theorem ue_gt(ha:UE X a ta)(hb:UE X b tb):UE X (.Compare a [.Gt] [b] pos) (Bb oGt ta tb):=Hz W7 lGt ha hb (Dj _)
theorem Sm(ha:UE X a ta)(hb:UE X b tb):UT X (.Compare a [.Is] [b] pos) (Bk (Bb Il ta tb)):=Ee Aab lIsN ha hb (Dj _)
theorem ue_in(ha:UE X a ta)(hb:UE X b tb)(hm:behindInMarks .In b=false:=by with_unfolding_all rfl):UE X (.Compare a [.In] [b] pos) (Bb (oIn false) ta tb):=Hz Jw lIn ha hb hm
theorem ut_in(ha:UE X a ta)(hb:UE X b tb)(hm:behindInMarks .In b=false:=by with_unfolding_all rfl):UT X (.Compare a [.In] [b] pos) (Bk (Bb (oIn false) ta tb)):=Ee Jw lIn ha hb hm
theorem Ri(ha:UE X a ta)(hb:UE X b tb)(hm:behindInMarks .NotIn b=false:=by with_unfolding_all rfl):UT X (.Compare a [.NotIn] [b] pos) (Bk (Bb (oIn true) ta tb)):=Ee Ky lIn ha hb hm
theorem C7(ha:UE X a ta)(hb:UE X b tb)(hc:UE X c tc)(hm:lastMarks [.LtE,.LtE] [b,c]=false:=by with_unfolding_all rfl):UE X (.Compare a [.LtE,.LtE] [b,c] pos) (B9 Fl Fl ta tb tc):=Rw (op_le.or Ep) lLe2 (op_le.or Ep) lLe2 ha hb hc hm
theorem Nb(ha:UE X a ta)(hb:UE X b tb)(hc:UE X c tc)(hm:lastMarks [.LtE,.LtE] [b,c]=false:=by with_unfolding_all rfl):UT X (.Compare a [.LtE,.LtE] [b,c] pos) (Bk (B9 Fl Fl ta tb tc)):=R6 (op_le.or Ep) lLe2 (op_le.or Ep) lLe2 ha hb hc hm
variable{p:Pos}
theorem A9(hg:Gl X "isinstance")(hm:X.mg "isinstance"=none)(ha:UA X [a,b] tr)(he:starEach [a,b] X.env=(false,eval a X.env)::starEach [b] X.env:=by rfl)(hpl:(backTo pos (starEach [b] X.env)).any (·.1)=false:=by rfl):
  UE X (.Call (.Name "isinstance" p) [a,b] [] pos) (Bq Dy tr):=Eh Qv lIsi hg hm boot_isinstance ha (he:=he) (hpl:=hpl)
theorem Da(hg:Gl X "list")(hm:X.mg "list"=none)(ha:UA X [a] tr)(he:starEach [a] X.env=(false,eval a X.env)::starEach [] X.env:=by rfl):UE X (.Call (.Name "list" p) [a] [] pos) (Bq D0 tr):=Em K2 lList hg hm boot_list ha (he:=he)
theorem Cj(hg:Gl X "int")(hm:X.mg "int"=none)(ha:UA X [a] tr)(he:starEach [a] X.env=(false,eval a X.env)::starEach [] X.env:=by rfl):UE X (.Call (.Name "int" p) [a] [] pos) (Bq G4 tr):=Em P6 lInt hg hm boot_int ha (he:=he)
end
end TL
end
section
namespace TL
open PySem PySem.Spec PyProof.Rows L2
def Has(P:Program)(w:World)(K:PySem.W.Frag)(mg:Str->Option Value)(base:Heap)(k:Nat)(x:Str)(ps:List Str)(t:List T->TH->UX->Prop):Prop :=
 ∃f fd,FnOk P w K mg base CX0 k f fd ps (spU K t)/\Binds K fd ps []/\PySem.W.keepIn K (.ref f)=true/\mg x=some (.ref f)
def Aa(K:PySem.W.Frag)(mg:Str->Option Value)(x:Str)(ps:List Str)(st:Stmt):Prop:=∃f fd,Fun K x x st f fd/\Binds K fd ps []/\mg x=some (.ref f)
theorem Has.mono{P:Program}{w:World}{K:PySem.W.Frag}{mg:Str->Option Value}{base:Heap}{j k:Nat}{x:Str}{ps:List Str}{t:List T->TH->UX->Prop}(h:Has P w K mg base j x ps t)(hk:j<=k):Has P w K mg base k x ps t:=by
 obtain⟨f,fd,h1,h2⟩:=h
 exact⟨f,fd,h1.mono hk,h2⟩
theorem Ag{P:Program}{w:World}{K:PySem.W.Frag}{mg:Str->Option Value}{base:Heap}{k:Nat}{x:Str}{N ps:List Str}{st:Stmt}{t:List T->TH->UX->Prop}(d:Aa K mg x ps st)(Sc:Zv N ps (Zb st))(hl:∀ts S Pp,t ts S Pp->ts.length=ps.length)
  (hb:∀(cdv:Value) (f:Addr) (A:Around) (outer:List Env) (s:Shared) (H:Hp) (E:XK),Room k (A.deeper (envOfC x (Zb st) s.heap.objs.size f cdv)) →
   ∃tb,USs (cxOf CX0 P w K mg base N x (Zb st) f cdv A outer s H E).nox (defBody st) tb/\∀ts S Pp,t ts S Pp->tb { nx:=fun _ S'=>Pp .non S',rt:=Pp } (Xm N ts) S):Has P w K mg base (k+1) x ps t:=by
 obtain⟨f,fd,F,b,hm⟩:=d
 exact⟨f,fd,X6 F Sc hl fun cdv A outer s H E hr=>hb cdv f A outer s H E hr,b,F.kp,hm⟩
theorem Fm{P:Program}{w:World}{K:PySem.W.Frag}{mg:Str->Option Value}{base:Heap}{k:Nat}{x:Str}{ps:List Str}{st:Stmt}{t:List T->TH->UX->Prop}(d:Aa K mg x ps st)(h:∀ts S Pp,¬ t ts S Pp):Has P w K mg base k x ps t:=by
 obtain⟨f,fd,F,b,hm⟩:=d
 exact⟨f,fd,Aaf h,b,F.kp,hm⟩
def KDt(P:Program)(w:World)(K:PySem.W.Frag)(mg:Str->Option Value)(x:Str)(kts:List (Key×T)):Prop:=∃d kvs,mg x=some (.ref d)/\KD P w K d kvs/\∀S H,RepK K S H kvs kts
section
variable{X:Cx}{e:Expr}{es:List Expr}{te:UTE}{tr:UTA}{pos p apos cpos:Pos}{x:Str}
theorem Zf{k:Nat}{ps:List Str}{t:List T->TH->UX->Prop}(h:Has X.prog X.w X.K X.mg X.base k x ps t)(hr:Room k X.A)(hg:Gl X x)(ha:UA X (e::es) tr)(hdb:(x==("__debug__":Str))=false:=by decide)(he:starEach (e::es) X.env=(false,eval e X.env)::starEach es X.env:=by rfl)
  (hpl:(backTo pos (starEach es X.env)).any (·.1)=false:=by rfl):UE X (.Call (.Name x p) (e::es) [] pos) (Bq t tr):=by
 obtain⟨f,fd,F,b,kp,hm⟩:=h
 exact V0 F hr hg hm kp b ha hdb he hpl
theorem M0{kts:List (Key×T)}(hg:Gl X x)(h:KDt X.prog X.w X.K X.mg x kts)(he:UE X e te)(m:M1 X (.Name x p) "get" apos e cpos)(hd:(x==("__debug__":Str))=false:=by decide):UE X (.Call (.Attribute (.Name x p) "get" apos) [e] [] cpos) (Ei kts te):=by
 obtain⟨d,kvs,hm,kd,rk⟩:=h
 exact Vy hg hm kd rk he m hd
end
theorem Ar{A:Around}{k:Nat}(hr:Room k A):A.units<cLine:=hr.units0
inductive Pl:T->Prop where
 |non:Pl .non
 |bl (b:Bool):Pl (.bl b)
 |int (i:Int):Pl (.int i)
 |str {x:Str}:x.length<=sizeLine->Pl (.str x)
 |tup {ts:List T}:(∀t∈ts,Pl t)->Pl (.tup ts)
 |lst {ts:List T}:(∀t∈ts,Pl t)->Pl (.lst ts)
theorem Pl.ty{t:T}(h:Pl t):∃n,tyT t=some n:=by cases h <;> exact⟨_,rfl⟩
end TL
end
section
namespace TL
open PySem PySem.Spec PyProof.Rows L2
theorem Rf{ts:List T}{S:TH}{gg:UTG}{tc:UTT}{te:UTE}{ev:Ev}{P:UX}(f:T->Option T)(hl:ts.length<=sizeLine)
  (turn:∀x∈ts,∀(A:UX) (B:TH->Prop),(∀r,f x=some r->A r S)->(f x=none->B S)->gg x ev S fun env' S'=>tc env' S' fun b S2=>(b=true->te env' S2 A)/\(b=false->B S2))
  (h:P (.lst (ts.filterMap f)) S):ts.length<=sizeLine/\∃Iv:Nat->List T->TH->Prop,Iv 0 [] S ∧
   (∀k x acc S,ts[k]?=some x->Iv k acc S->gg x ev S fun env' S'=>tc env' S' fun b S2=>(b=true->te env' S2 fun r S3=>Iv (k+1) (acc++[r]) S3)/\(b=false->Iv (k+1) acc S2)) ∧
   ∀acc S,Iv ts.length acc S->P (.lst acc) S:=by
 refine⟨hl,fun k acc S'=>acc=(ts.take k).filterMap f/\S'=S,⟨by simp,rfl⟩,fun k x acc S' e iv=>?_,fun acc S' iv=>?_⟩
 ·obtain⟨rfl,rfl⟩:=iv
  have hk:k<ts.length:=(List.getElem?_eq_some_iff.mp e).1
  have et:ts.take (k+1)=ts.take k++[x]:=by rw[List.take_add_one,e];rfl
  refine turn x (List.mem_of_getElem? e) _ _ (fun r er=>⟨?_,rfl⟩) (fun en=>⟨?_,rfl⟩)
  ·rw[et,List.filterMap_append];simp[er]
  ·rw[et,List.filterMap_append];simp[en]
 ·obtain⟨rfl,rfl⟩:=iv
  rw[List.take_length]
  exact h
theorem Ay{pick:List (Option Nat)}{ti:UTA}{env:Ev}{ts:List T}{S:TH}{gg:UTG}{tc:UTT}{te:UTE}{P:UX}(f:T->Option T)(hti:∀k:List T->TH->Prop,k ts S->ti env S k)(hl:ts.length<=sizeLine)
  (turn:∀x∈ts,∀(A:UX) (B:TH->Prop),(∀r,f x=some r->A r S)->(f x=none->B S)->gg x (Gc pick env) S fun env' S'=>tc env' S' fun b S2=>(b=true->te env' S2 A)/\(b=false->B S2))
  (h:P (.lst (ts.filterMap f)) S):Av pick ti gg tc te env S P:=hti _ (Rf f hl turn h)
theorem El(zs:List Str):strsT (zs.map T.str)=some zs:=by
 induction zs with
 |nil=>rfl
 |cons z r ih=>simp only[List.map_cons,strsT,ih,Option.map_some]
theorem Ex(z:Str):(B0 z).length=z.length:=by simp[B0,Str.length]
end TL
end
section
namespace TL
open PySem PySem.Spec PyProof.Rows L2
inductive Cs:List Expr->List T->Prop where
 |nil:Cs [] []
 |s {x:Str} {j:Nat} {p:Pos} {es:List Expr} {ts:List T}:Cs es ts->Cs (.Constant (.str x) j p::es) (.str x::ts)
 |i {x:Int} {j:Nat} {p:Pos} {es:List Expr} {ts:List T}:Cs es ts->Cs (.Constant (.int x) j p::es) (.int x::ts)
 |b {x:Bool} {j:Nat} {p:Pos} {es:List Expr} {ts:List T}:Cs es ts->Cs (.Constant (.bool x) j p::es) (.bl x::ts)
 |n {j:Nat} {p:Pos} {es:List Expr} {ts:List T}:Cs es ts->Cs (.Constant .none j p::es) (.non::ts)
def Xk(ts:List T):UTA:=fun _ S P=>P ts S
theorem Ab{X:Cx}{es:List Expr}{ts:List T}(h:Cs es ts):UA X es (Xk ts):=by
 induction h with
 |nil=>exact Zn
 |s _ ih=>exact Zc Zq ih rfl
 |i _ ih=>exact Zc Zi ih rfl
 |b _ ih=>exact Zc Az ih rfl
 |n _ ih=>exact Zc Lb ih rfl
end TL
end
section
namespace TL
open PySem PySem.Spec PyProof.Rows L2
theorem Wl{t u:UTT}{b1 b2:Bool}{env:Ev}{S:TH}{P:Bool->TH->Prop}(ht:∀P:Bool->TH->Prop,P b1 S->t env S P)(hu:∀P:Bool->TH->Prop,P b2 S->u env S P)(h:P (b1 || b2) S):uOr t u env S P :=
 ht _ ⟨fun e=>by rw[e,Bool.true_or] at h;exact h,fun e=>hu _ (by rw[e,Bool.false_or] at h;exact h)⟩
theorem An{t u:UTT}{b1 b2:Bool}{env:Ev}{S:TH}{P:Bool->TH->Prop}(ht:∀P:Bool->TH->Prop,P b1 S->t env S P)(hu:b1=true->∀P:Bool->TH->Prop,P b2 S->u env S P)(h:P (b1&&b2) S):Ch t u env S P :=
 ht _ ⟨fun e=>hu e _ (by rw[e,Bool.true_and] at h;exact h),fun e=>by rw[e,Bool.false_and] at h;exact h⟩
theorem V3{t u:UTT}{b1:Bool}{env:Ev}{S:TH}{P:Bool->TH->Prop}{R:TH->Prop}(ht:∀P:Bool->TH->Prop,P b1 S->t env S P)(h0:R S)
  (hu:b1=true->∀P:Bool->TH->Prop,(∀b S',R S'->P b S')->u env S P) (h:∀b S',R S'->(b=true->b1=true)->P b S'):Ch t u env S P :=
 ht _ ⟨fun e=>hu e _ fun b S' r=>h b S' r fun _=>e,fun e=>h false S h0 fun z=>by cases z⟩
theorem Lj{α:Type}{xs:List α}{i:Int}(h0:0<=i)(h1:i<xs.length):∃x∈xs,atI xs i=some x:=by
 have hl:i.toNat<xs.length:=by omega
 refine⟨xs[i.toNat],List.getElem_mem hl,?_⟩
 have q:atI xs ((i.toNat:Nat):Int)=some xs[i.toNat]:=Xb (List.getElem?_eq_getElem hl)
 rw[Int.toNat_of_nonneg h0] at q
 exact q
end TL
end
section
namespace TL
open PySem PySem.Spec PyProof.Rows L2
def toV:Value->V
 | .bool b=>.bl b
 | .int i _=>.int i
 | .str x _=>.str x
 | .ref a=>.ref a
 |_=>.non
inductive KR(K:PySem.W.Frag):Value->T->Prop where
 |non:KR K .none .non
 |bl (b:Bool):KR K (.bool b) (.bl b)
 |int (i:Int) (t:Tok):KR K (.int i t) (.int i)
 |str (x:Str) (t:Tok):KR K (.str x t) (.str x)
 |tup {a:Addr} {o:Obj} {its:Array Value} {n:Nat} {ts:List T}:K.lookup a=some o->o.cls=.type "tuple"->o.data=.seq its n->o.dict=none->its.size<=sizeLine->its.toList.length=ts.length →
   (∀(i:Nat) u t,its.toList[i]?=some u->ts[i]?=some t->KR K u t)->KR K (.ref a) (.tup ts)
section
variable{K:PySem.W.Frag}
def KRs(K:PySem.W.Frag)(us:List Value)(ts:List T):Prop:=us.length=ts.length/\∀(i:Nat) u t,us[i]?=some u->ts[i]?=some t->KR K u t
theorem KRs.nil:KRs K [] []:=⟨rfl,fun _ _ _ e=>by simp at e⟩
theorem KRs.cons{u:Value}{t:T}{us:List Value}{ts:List T}(h:KR K u t)(r:KRs K us ts):KRs K (u::us) (t::ts):=by
 refine⟨by simp only[List.length_cons,r.1],fun i u' t' e1 e2=>?_⟩
 cases i with
 |zero=>simp at e1 e2;subst e1;subst e2;exact h
 |succ i=>exact r.2 i u' t' (by simpa using e1) (by simpa using e2)
theorem KR.tupI{a:Addr}{its:List Value}{n:Nat}{sl:Array (Option Value)}{ts:List T}(l:K.lookup a=some ⟨.type "tuple",none,.seq its.toArray n,sl⟩)(hz:its.length<=1000)(r:KRs K its ts):KR K (.ref a) (.tup ts) :=
 .tup l rfl rfl rfl (by simpa using Nat.le_of_lt (Xo hz)) (by simpa using r.1) fun i u t e1 e2=>r.2 i u t (by simpa using e1) e2
theorem KR.rel{u:Value}{t:T}(h:KR K u t):RelV (toV u) u/\∀S H,Rep K S H (toV u) t:=by
 induction h with
 |non=>exact⟨rfl,fun _ _=>.non⟩
 |bl b=>exact⟨rfl,fun _ _=>.bl b⟩
 |int i t=>exact⟨⟨t,rfl⟩,fun _ _=>.int i⟩
 |str x t=>exact⟨⟨t,rfl⟩,fun _ _=>.str x⟩
 | @tup a o its n ts lk hc hd hn hz hl _ ih =>
  refine⟨rfl,fun S H=>?_⟩
  have hv:Vals (its.toList.map toV) its.toList:=by
   have:∀(us:List Value),(∀u∈us,RelV (toV u) u)->Vals (us.map toV) us:=by
    intro us
    induction us with
    |nil=>exact fun _=>.nil
    |cons u us ihu=>exact fun q=>.cons (q u List.mem_cons_self) (ihu fun z hz=>q z (List.mem_cons_of_mem _ hz))
   refine this _ fun u hu=>?_
   obtain⟨i,hi,rfl⟩:=List.mem_iff_getElem.mp hu
   exact(ih i its.toList[i] (ts[i]'(by omega)) (List.getElem?_eq_getElem hi) (List.getElem?_eq_getElem (by omega))).1
  refine .tup (.inr ⟨o,its,n,lk,hc,hd,hz,hv,hn⟩) (by rw[List.length_map];exact hl) fun i v t e1 e2=>?_
  rw[List.getElem?_map] at e1
  cases hu:its.toList[i]? with
  |none=>rw[hu] at e1;cases e1
  |some u =>
   rw[hu] at e1
   cases e1
   exact(ih i u t hu e2).2 S H
inductive Ents(w:World)(K:PySem.W.Frag):List DictEntry->List (Key×T)->Prop where
 |nil:Ents w K [] []
 |cons {x:Str} {tk:Tok} {u:Value} {t:T} {es:List DictEntry} {kts:List (Key×T)}:KR K u t->Ents w K es kts->Ents w K (⟨PyData.keyHash w.params x,.str x tk,u⟩::es) ((.inr x,t)::kts)
theorem Ents.out{P:Program}{w:World}{es:List DictEntry}{kts:List (Key×T)}(h:Ents w K es kts):∃(kvs:List (Key×V)) (vs:List (Key×Value)),KV kvs vs/\(∀S H,RepK K S H kvs kts)/\(∀e∈es,∃k,(mixKind P w).is k e.key=true/\e.hash=(mixKind P w).hash k)/\Pairs (mixKind P w) es vs/\vs.map (·.1)=kts.map (·.1):=by
 induction h with
 |nil=>exact⟨[],[],.nil,fun _ _=>⟨rfl,fun _ _ _ e=>by simp at e⟩,(fun _ h=>by cases h),.nil,rfl⟩
 | @cons x tk u t es kts kr _ ih =>
  obtain⟨kvs,vs,h1,h2,h3,h4,h5⟩:=ih
  obtain⟨r1,r2⟩:=kr.rel
  refine⟨(.inr x,toV u)::kvs,(.inr x,u)::vs,.cons ⟨rfl,r1⟩ h1,fun S H=>?_,fun e he=>?_,.cons (Dg P w x tk) rfl h4,by simp only[List.map_cons,h5]⟩
  ·refine⟨by simp only[List.length_cons,(h2 S H).1],fun i v t e1 e2=>?_⟩
   cases i with
   |zero=>simp at e1 e2;subst e1;subst e2;exact⟨rfl,r2 S H⟩
   |succ i=>exact(h2 S H).2 i v t (by simpa using e1) (by simpa using e2)
  ·rcases List.mem_cons.mp he with rfl|q
   ·exact⟨.inr x,Dg P w x tk,rfl⟩
   ·exact h3 e q
theorem X4{P:Program}{w:World}{h:Heap}{mg:Str->Option Value}{x:Str}{d:Addr}{es:List DictEntry}{ep:Nat}{kts:List (Key×T)}(X:K.In h)(G:h.Ns mainGlobals mg)(a:PySem.W.nsIn K mainGlobals x=some (some (.ref d)))
  (l:K.lookup d=some ⟨.type "dict",none,.dict es.toArray ep,#[]⟩) (hs:(d==sysModules)=false) (en:Ents w K es kts) (nd:(kts.map (·.1)).Nodup):KDt P w K mg x kts:=by
 obtain⟨kvs,vs,h1,h2,h3,h4,h5⟩:=en.out (P:=P)
 refine⟨d,kvs,PySem.W.mg_of X G a,⟨hs,vs,h1,fun h' k'=>⟨_,_,_,k' d _ l,⟨rfl,rfl,rfl⟩,rfl,fun e he=>h3 e (by simpa using he),by simpa using h4,by rw[h5];exact nd⟩⟩,h2⟩
theorem Zk{h:Heap}{mg:Str->Option Value}{x:Str}{ps:List Str}{st:Stmt}{f:Addr}{oc:Value}{od an:Option Addr}{osl:Array (Option Value)}{kV doc pm cdv ct:Value}(X:K.In h)(G:h.Ns mainGlobals mg)(a:PySem.W.nsIn K mainGlobals x=some (some (.ref f)))
  (l:K.lookup f=some ⟨oc,od,.func (PySem.W.fnOf x x (Ek st) (defBody st) (Zb st) .none kV doc pm an cdv ct),osl⟩) (c:PySem.W.codeIn K cdv x=true) (k:PySem.W.keepIn K (.ref f)=true)
  (b:∀(kV doc pm:Value) (an:Option Addr) (cdv ct:Value) (us:List Value),us.length=ps.length->bindArgs (PySem.W.fnOf x x (Ek st) (defBody st) (Zb st) .none kV doc pm an cdv ct) ⟨us,[]⟩=pure (ps.zip us)):Aa K mg x ps st :=
 ⟨f,_,R3 l c k,(R3 l c k).binds b,PySem.W.mg_of X G a⟩
theorem Cu{h:Heap}{mg:Str->Option Value}{x:Str}{i:Int}{t:Tok}(X:K.In h)(G:h.Ns mainGlobals mg)(a:PySem.W.nsIn K mainGlobals x=some (some (.int i t))):∃t,mg x=some (.int i t):=⟨t,PySem.W.mg_of X G a⟩
theorem Qw{H:Hp}{a:Addr}{ns:List Int}{t:List T->TH->UX->Prop}(hO:Uq H)(hS:SqL K H a (ns.map V.int))(h:t [.fls (ns.map T.int)] (fun _=>none) fun r _=>r=.bl true):spU K t [.ref a] H (fun v _=>v=.bl true) fun _ _ _=>False:=by
 refine⟨fun _=>none,_,_,(fun _ _ e=>by cases e),.cons (.fls (a:=a) (vs:=ns.map V.int) ?_ (by simp) fun i v t e1 e2=>?_) .nil,h,fun v r S' H' _ _ rp q=>?_⟩
 ·rcases hS with(q|⟨o,q⟩)|q
  ·rcases hO a with z|⟨o,xs,z⟩
   ·rw[z] at q;cases q
   ·rw[z] at q;cases q
  ·exact .inl ⟨rfl,o,q⟩
  ·exact .inr q
 ·rw[List.getElem?_map] at e1 e2
  cases hn:ns[i]? with
  |none=>rw[hn] at e1;cases e1
  |some n=>rw[hn] at e1 e2;cases e1;cases e2;exact .int n
 ·have q:r=.bl true:=q
  subst q
  cases rp
  rfl
end
end TL
end
section
namespace TL
open PySem PySem.Spec PyProof.Rows L2
def Ob(kts:List (Key×T))(k:Key)(t:T):List (Key×T) :=
 if (kts.any fun kv=>decide (kv.1=k))=true then kts.map (fun kv=>if kv.1=k then (kv.1,t) else kv) else kts++[(k,t)]
def B6(kts more:List (Key×T)):List (Key×T):=more.foldl (fun acc kv=>Ob acc kv.1 kv.2) kts
def keysT:List (T×T)->Option (List (Key×T))
 |[]=>some []
 |(x,y)::r=>match keyT x,keysT r with
  |some k,some kts=>some ((k,y)::kts)
  |_,_=>none
section
variable{K:PySem.W.Frag}{S S':TH}{H H':Hp}
theorem RepK.nil:RepK K S H [] []:=⟨rfl,fun _ _ _ e=>by simp at e⟩
theorem RepK.cons{p:Key×V}{q:Key×T}{kvs:List (Key×V)}{kts:List (Key×T)}(h1:p.1=q.1)(h2:Rep K S H p.2 q.2)(r:RepK K S H kvs kts):RepK K S H (p::kvs) (q::kts):=by
 refine⟨by simp only[List.length_cons,r.1],fun i v t e1 e2=>?_⟩
 cases i with
 |zero=>simp at e1 e2;subst e1;subst e2;exact⟨h1,h2⟩
 |succ i=>exact r.2 i v t (by simpa using e1) (by simpa using e2)
theorem RepK.head{p:Key×V}{q:Key×T}{kvs:List (Key×V)}{kts:List (Key×T)}(h:RepK K S H (p::kvs) (q::kts)):p.1=q.1/\Rep K S H p.2 q.2:=h.2 0 p q rfl rfl
theorem RepK.tail{p:Key×V}{q:Key×T}{kvs:List (Key×V)}{kts:List (Key×T)}(h:RepK K S H (p::kvs) (q::kts)):RepK K S H kvs kts:=⟨by simpa using h.1,fun i v t e1 e2=>h.2 (i+1) v t (by simpa using e1) (by simpa using e2)⟩
theorem RepK.append:∀{kvs:List (Key×V)} {kts:List (Key×T)} {lvs:List (Key×V)} {lts:List (Key×T)},RepK K S H kvs kts->RepK K S H lvs lts->RepK K S H (kvs++lvs) (kts++lts)
 |[],[],_,_,_,r=>r
 |[],_::_,_,_,h,_=>by have:=h.1;simp at this
 |_::_,[],_,_,h,_=>by have:=h.1;simp at this
 |p::kvs,q::kts,_,_,h,r=>RepK.cons h.head.1 h.head.2 (RepK.append h.tail r)
theorem RepK.any{k:Key}:∀{kvs:List (Key×V)} {kts:List (Key×T)},RepK K S H kvs kts->(kvs.any fun kv=>decide (kv.1=k))=kts.any fun kv=>decide (kv.1=k)
 |[],[],_=>rfl
 |[],_::_,h=>by have:=h.1;simp at this
 |_::_,[],h=>by have:=h.1;simp at this
 |p::kvs,q::kts,h=>by rw[List.any_cons,List.any_cons,RepK.any h.tail,h.head.1]
theorem RepK.repl{k:Key}{v:V}{t:T}(r:Rep K S H v t):∀{kvs:List (Key×V)} {kts:List (Key×T)},RepK K S H kvs kts->RepK K S H (kvs.map fun kv=>if kv.1=k then (kv.1,v) else kv) (kts.map fun kv=>if kv.1=k then (kv.1,t) else kv)
 |[],[],_=>RepK.nil
 |[],_::_,h=>by have:=h.1;simp at this
 |_::_,[],h=>by have:=h.1;simp at this
 |p::kvs,q::kts,h=>by
  rw[List.map_cons,List.map_cons]
  have e:=h.head.1
  by_cases c:q.1=k
  ·rw[if_pos c,if_pos (e.trans c)]
   exact .cons e r (RepK.repl r h.tail)
  ·rw[if_neg c,if_neg (fun z=>c (e.symm.trans z))]
   exact .cons e h.head.2 (RepK.repl r h.tail)
theorem RepK.put{k:Key}{v:V}{t:T}{kvs:List (Key×V)}{kts:List (Key×T)}(h:RepK K S H kvs kts)(r:Rep K S H v t):RepK K S H (Hu kvs k v) (Ob kts k t):=by
 unfold Hu Ob
 rw[h.any]
 split
 ·exact h.repl r
 ·exact h.append (.cons rfl r .nil)
theorem RepK.merge:∀{mvs:List (Key×V)} {mts:List (Key×T)} {kvs:List (Key×V)} {kts:List (Key×T)},RepK K S H mvs mts->RepK K S H kvs kts->RepK K S H (C6 kvs mvs) (B6 kts mts)
 |[],[],_,_,_,r=>r
 |[],_::_,_,_,h,_=>by have:=h.1;simp at this
 |_::_,[],_,_,h,_=>by have:=h.1;simp at this
 |p::mvs,q::mts,kvs,kts,h,r=>by
  show RepK K S H (C6 (Hu kvs p.1 p.2) mvs) (B6 (Ob kts q.1 q.2) mts)
  rw[h.head.1]
  exact RepK.merge h.tail (r.put h.head.2)
end
theorem Rn{kts:List (Key×T)}{k:Key}{t:T}(h:k ∉ kts.map (·.1)):Ob kts k t=kts++[(k,t)]:=by
 unfold Ob
 rw[if_neg]
 intro z
 obtain⟨p,hp,e⟩:=List.any_eq_true.mp z
 exact h (List.mem_map.mpr ⟨p,hp,of_decide_eq_true e⟩)
theorem Cz:∀(more kts:List (Key×T)),((kts++more).map (·.1)).Nodup->B6 kts more=kts++more
 |[],kts,_=>by simp[B6]
 |p::more,kts,h=>by
  have hk:p.1 ∉ kts.map (·.1):=by
   rw[List.map_append,List.nodup_append] at h
   intro z
   exact h.2.2 _ z _ (List.mem_map.mpr ⟨p,List.mem_cons_self,rfl⟩) rfl
  show B6 (Ob kts p.1 p.2) more=_
  rw[Rn hk,Cz more (kts++[(p.1,p.2)]) (by simpa using h)]
  simp
theorem Lu{S:TH}{p:Addr}{c:Cell}(h:S p=none):F0 (C8 S p c) p=S:=by
 funext b
 unfold F0 C8
 by_cases e:b=p
 ·rw[if_pos e,e,h]
 ·rw[if_neg e,if_neg e]
def Nc:List (UTE×UTE)->Ev->TH->(List (T×T)->TH->Prop)->Prop
 |[],_,S,P=>P [] S
 |(tk,tv)::r,env,S,P=>tk env S fun x S1=>tv env S1 fun y S2=>Nc r env S2 fun ps S3=>P ((x,y)::ps) S3
inductive Ds(X:Cx):List (Option Expr)->List Expr->List (UTE×UTE)->Prop where
 |nil:Ds X [] [] []
 |cons {k v:Expr} {tk tv:UTE} {ks:List (Option Expr)} {vs:List Expr} {trs:List (UTE×UTE)}:UE X k tk->UE X v tv->Ds X ks vs trs->Ds X (some k::ks) (v::vs) ((tk,tv)::trs)
def uDisp(trs:List (UTE×UTE)):UTE:=fun env S P=>∀p,S p=none->Nc trs env (C8 S p (.dct [])) fun ps S2=>S2 p=some (.dct [])/\∃kts,keysT ps=some kts/\P (.dct (B6 [] kts)) (F0 S2 p)
section
variable{X:Cx}{pos:Pos}
theorem Yx{ks:List (Option Expr)}{vs:List Expr}{trs:List (UTE×UTE)}(h:Ds X ks vs trs):PPs X pos ks vs (trs.map fun t=>(lf X.K t.1,lf X.K t.2))/\ks.all (·.isSome)=true/\ks.length=vs.length/\trs.length=ks.length:=by
 induction h with
 |nil=>exact⟨Vf,rfl,rfl,rfl⟩
 |cons hk hv _ ih=>exact⟨Tw hk hv ih.1,by rw[List.all_cons,ih.2.1];rfl,by simp only[List.length_cons,ih.2.2.1],by simp only[List.length_cons,ih.2.2.2]⟩
theorem Oy{K:PySem.W.Frag}{σ:L2.St}{env:Ev}:∀(trs:List (UTE×UTE)) {S:TH} {H:Hp} {P:List (T×T)->TH->Prop} {Q:List (V×V)->Hp->Prop},Good K S H->REnv K S H σ env->Nc trs env S P →
  (∀ps vs S' H',Le S H S' H'->Good K S' H'->ps.length=trs.length->vs.length=ps.length->(∀(i:Nat) v p,vs[i]?=some v->ps[i]?=some p->Rep K S' H' v.1 p.1/\Rep K S' H' v.2 p.2)->P ps S'->Q vs H')->Iw (trs.map fun t=>(lf K t.1,lf K t.2)) σ H Q
 |[],S,H,P,Q,g,re,h,fin=>fin [] [] S H .refl g rfl rfl (fun _ _ _ e=>by simp at e) h
 |(tk,tv)::r,S,H,P,Q,g,re,h,fin=>by
  show lf K tk σ H fun x H1=>lf K tv σ H1 fun y H2=>Iw (r.map fun t=>(lf K t.1,lf K t.2)) σ H2 fun ps H3=>Q ((x,y)::ps) H3
  refine Za ⟨g,re⟩ h fun v x S1 H1 le1 m1 rx h1=>Za m1 h1 fun w y S2 H2 le2 m2 ry h2=>Oy r m2.g m2.re h2 fun ps vs S3 H3 le3 g3 hn hl rs h3=>?_
  refine fin ((x,y)::ps) ((v,w)::vs) S3 H3 (le1.trans (le2.trans le3)) g3 (by simp only[List.length_cons,hn]) (by simp only[List.length_cons,hl]) (fun i v' p' e1 e2=>?_) h3
  cases i with
  |zero=>simp at e1 e2;subst e1;subst e2;exact⟨rx.mono (le2.trans le3),ry.mono le3⟩
  |succ i=>exact rs i v' p' (by simpa using e1) (by simpa using e2)
theorem Uw{K:PySem.W.Frag}{S:TH}{H:Hp}:∀{ps:List (T×T)} {vs:List (V×V)} {kts:List (Key×T)},vs.length=ps.length->(∀(i:Nat) v p,vs[i]?=some v->ps[i]?=some p->Rep K S H v.1 p.1/\Rep K S H v.2 p.2)->keysT ps=some kts →
  ∃kvs:List (Key×V),vs=kvs.map (fun kv=>(kV kv.1,kv.2))/\kvs.length=ps.length/\RepK K S H kvs kts
 |[],[],kts,_,_,e=>by cases e;exact⟨[],rfl,rfl,.nil⟩
 |[],_::_,_,hl,_,_=>by simp at hl
 |_::_,[],_,hl,_,_=>by simp at hl
 |(x,y)::ps,(v,w)::vs,kts,hl,rs,e=>by
  have r0:=rs 0 _ _ rfl rfl
  unfold keysT at e
  cases ek:keyT x with
  |none=>rw[ek] at e;cases e
  |some k =>
   cases er:keysT ps with
   |none=>rw[ek,er] at e;cases e
   |some kts' =>
    rw[ek,er] at e
    cases e
    obtain⟨kvs,e1,e2,e3⟩:=Uw (ps:=ps) (vs:=vs) (by simpa using hl) (fun i v p h1 h2=>rs (i+1) v p (by simpa using h1) (by simpa using h2)) er
    exact⟨(k,w)::kvs,by rw[List.map_cons,e1];show (v,w)::_=(kV k,w)::_;rw[show v=kV k from Nw r0.1 ek],by simp only[List.length_cons,e2],.cons rfl r0.2 e3⟩
theorem Lc{ks:List (Option Expr)}{vs:List Expr}{trs:List (UTE×UTE)}(h:Ds X ks vs trs)(h0:ks≠[]:=by intro z;cases z)(h15:ks.length<=15:=by decide):UE X (.Dict ks vs pos) (uDisp trs):=by
 obtain⟨h1,h2,h3,hl⟩:=Yx (pos:=pos) h
 refine PE.imp (Ww h1 h2 h3 h0 h15) fun σ H Q ⟨S,env,P,g,re,h,fin⟩=>fun p hp=>?_
 have sp:=g.free hp
 have le0:Le S H (C8 S p (.dct [])) (upd H p (.dK [])):=Le.newC hp
 have g0:Good X.K (C8 S p (.dct [])) (upd H p (.dK [])):=fun a c e=>by
  by_cases ha:a=p
  ·subst ha
   rw[Zd] at e
   cases e
   exact⟨[],Br,RepK.nil⟩
  ·rw[A5 ha] at e
   exact(g a c e).mono le0 (Xc ha)
 refine Oy trs g0 (re.mono le0) (h p sp) fun ps vs' S2 H2 le2 g2 hn hl2 rs ⟨c2,kts,ek,h2⟩=>?_
 obtain⟨kvs0,q0,r0⟩:=g2 p _ c2
 have r00:kvs0=[]:=List.length_eq_zero_iff.mp (by rw[r0.1];rfl)
 subst r00
 obtain⟨kvs,e1,e2,e3⟩:=Uw hl2 rs ek
 refine⟨q0,kvs,e1,by omega,?_⟩
 have le3:Le S2 H2 (F0 S2 p) (upd H2 p (.dK (C6 [] kvs))):=fun b u n q=>by
  have ne:b≠p:=fun z=>by rw[z,c2] at n;cases n
  exact⟨by rw[En ne];exact n,by rw[Xc ne];exact q⟩
 have g3:Good X.K (F0 S2 p) (upd H2 p (.dK (C6 [] kvs))):=fun a c e=>by
  by_cases ha:a=p
  ·subst ha;rw[C4] at e;cases e
  ·rw[En ha] at e
   exact(g2 a c e).mono le3 (Xc ha)
 have r3:RepK X.K (F0 S2 p) (upd H2 p (.dK (C6 [] kvs))) (C6 [] kvs) (B6 [] kts):=(e3.merge .nil).mono le3
 exact fin (.ref p) _ _ _ (le0.trans (le2.trans le3)) g3 (.dct ⟨C4,Br⟩ r3.1 (fun i v t a b=>(r3.2 i v t a b).1) fun i v t a b=>(r3.2 i v t a b).2) h2
def Z6(to te tf:UTE):UTE:=fun env S P=>to env S fun x S1=>match x with
 | .dct kts=>te env S1 fun y S2=>tf env S2 fun z S3=>∃k,keyT y=some k/\P ((valT kts k).getD z) S3
 |_=>False
theorem Ht{o e f:Expr}{apos cpos:Pos}{to te tf:UTE}(hu:X.A.units+1<cLine)(ho:UE X o to)(he:UE X e te)(hf:UE X f tf)(m:M2 X o "get" apos e f cpos):UE X (.Call (.Attribute o "get" apos) [e,f] [] cpos) (Z6 to te tf) :=
 PE.imp (Us hu ho he hf m) fun σ H Q ⟨S,env,P,g,re,h,fin⟩=>Za ⟨g,re⟩ h fun v x S1 H1 le1 m1 rx h1=>by
  cases x with
  |dct kts =>
   obtain⟨a,kvs,rfl,n,hH,r⟩:=rx.dctE
   refine⟨a,rfl,.inl ⟨kvs,.inl hH⟩,Za m1 h1 fun w y S2 H2 le2 m2 ry h2=>Za m2 h2 fun u z S3 H3 le3 m3 rz h3=>?_⟩
   obtain⟨k,ek,h3⟩:=h3
   have hd:=(le2.trans le3) a _ n hH
   have r3:=r.mono (le2.trans le3)
   refine⟨_,.inl ⟨kvs,k,.inl hd.2,Nw (ry.mono le3) ek,rfl⟩,?_⟩
   cases hv:valT kts k with
   |none =>
    rw[hv] at h3
    rw[(r3.val (k:=k)).2 hv]
    exact fin u z S3 H3 (le1.trans (le2.trans le3)) m3.g rz h3
   |some t =>
    rw[hv] at h3
    obtain⟨v',ev,rv⟩:=(r3.val (k:=k)).1 t hv
    rw[ev]
    exact fin v' t S3 H3 (le1.trans (le2.trans le3)) m3.g rv h3
  |_=>exact h1.elim
def Um(xs:List T)(S:TH)(P:UX):Prop:=match xs with
 |[.lst ts]=>P (.tup ts) S
 |[.tup ts]=>P (.tup ts) S
 |[.ref p]=>∃ts,S p=some (.lst ts)/\P (.tup ts) S
 |_=>False
theorem Aag{K:PySem.W.Frag}:F2 K (fun xs H Q=>∃p ys,xs=[.ref p]/\((SqL K H p ys/\∀l,H l=none->Q (.ref l) (upd H l (.tup ys)))\/(SqT K H p ys/\Q (.ref p) H))) Um:=fun S H vs xs P Q g r ho fin=>by
 match xs,r,ho with
 |[.lst ts],r,ho =>
  obtain⟨v,rfl⟩:∃v,vs=[v]:=List.length_eq_one_iff.mp r.1
  obtain⟨a,ws,rfl,f,r'⟩:=r.head.lstE
  exact⟨a,ws,rfl,.inl ⟨f.sq,fun l hl=>C2 fin g hl r' ho⟩⟩
 |[.tup ts],r,ho =>
  obtain⟨v,rfl⟩:∃v,vs=[v]:=List.length_eq_one_iff.mp r.1
  obtain⟨a,ws,rfl,f,r'⟩:=r.head.tupE
  exact⟨a,ws,rfl,.inr ⟨f.sq,fin _ _ S H .refl g (.tupI f r') ho⟩⟩
 |[.ref p],r,ho =>
  obtain⟨v,rfl⟩:∃v,vs=[v]:=List.length_eq_one_iff.mp r.1
  have rp:=r.head
  cases rp
  obtain⟨ts,e,ho⟩:=ho
  obtain⟨ws,q,r'⟩:=g p _ e
  exact⟨p,ws,rfl,.inl ⟨SqL.of q,fun l hl=>C2 fin g hl r' ho⟩⟩
section
variable{a b:Expr}{tr:UTA}{p:Pos}
theorem Am(hg:Gl X "tuple")(hm:X.mg "tuple"=none)(ha:UA X [a] tr)(he:starEach [a] X.env=(false,eval a X.env)::starEach [] X.env:=by rfl):UE X (.Call (.Name "tuple" p) [a] [] pos) (Bq Um tr):=Em Jg Aag hg hm boot_tuple ha (he:=he)
end
end
end TL
end
section
namespace L2
open PySem PySem.Spec PyProof.Rows
end L2
end
section
namespace TL
open PySem PySem.Spec PyProof.Rows L2
end TL
end
section
namespace PySem
open Sem (wp)
end PySem
end
section
namespace PySem
end PySem
namespace L2
open PySem PySem.Spec PyProof.Rows
end L2
end
section
namespace PySem
end PySem
end
section
namespace L2
open PySem PySem.Spec PyProof.Rows
section
variable{X:Cx}{pins:List (Addr×Obj)}{σ:St}{H:Hp}{s:Shared}
theorem Ou{xs:List V}{us:List Value}(r:Vals xs us){i:Nat}{u:Value}(e:us[i]?=some u):∃x,xs[i]?=some x/\RelV x u:=by
 have hi:=(List.getElem?_eq_some_iff.mp e).1
 have hl:=r.length
 have ex:xs[i]?=some (xs[i]'(by omega)):=List.getElem?_eq_getElem (by omega)
 obtain⟨u',h1,h2⟩:=r.get ex
 rw[e] at h1
 cases h1
 exact⟨_,ex,h2⟩
end
end L2
end
section
namespace L2
open PySem PySem.Spec PyProof.Rows
end L2
namespace TL
open PySem PySem.Spec PyProof.Rows L2
end TL
end
section
namespace TL
open PySem PySem.Spec PyProof.Rows L2
section
variable{X:Cx}{elt iter:Expr}{ti:UTA}{tc:UTT}{te:UTE}{pos spos:Pos}{scope:Scope}{ifs:List Expr}{z:Str}{pz:Pos}
theorem De(k:Nat)(hNd:X.N.Nodup)(i:Nat)(N:List Str)(pick:List (Option Nat)){x:Str}{px:Pos}(hc:X.calm=true)(hi:UI X (.Name x px) iter ti)(ht:∀C s H fp pins,PTs (Xl X N scope C s H fp pins) ifs (lfT X.K tc))(he:∀C s H fp pins,UE (Xl X N scope C s H fp pins) elt te)
  (hs:scopeOk X.env.scope.names scope.names=true:=by rfl) (hp:D7 X.N scope.names N pick=true:=by rfl) (hk:scope.kind=.function:=by rfl) (hN:N.Nodup:=by decide +kernel)
  (hiN:N[i]?=some x:=by rfl) (hpi:pick[i]?=some none:=by rfl) (hloc:scope.names.lookup x=some .local:=by rfl) (hfs:∀x,foldedSetIterable iter X.env x=pure x:=by intro _;rfl)
  (hz:X.N[k]?=some z:=by rfl) (hlz:Loc X.env.scope z:=by first|exact Or.inl rfl|exact Or.inr rfl) (hsw:swapsWith (.ListComp elt [⟨.Name x px,iter,ifs,0⟩] scope pos) (some (.Name z pz)) spos.line X.env=pure true:=by rfl)
  (hf:X.fn z=true\/X.env.scope.names.lookup z=some .local:=by first|exact .inl rfl|exact .inr rfl) :
  US X (.Assign [.Name z pz] (.ListComp elt [⟨.Name x px,iter,ifs,0⟩] scope pos) spos) (uSet k (Av pick ti (gNm i) tc te)) :=
 PS.imp (M5 (i:=k) hc hs hp hk hi (fun C s H fp pins=>B8 (i:=i) hN hiN (.inl (lookup_relabel_local hloc)) (.inr (lookup_relabel_local hloc))) ht (te:=lf X.K te) he hNd hz hlz hsw hf hfs) fun D σ H ⟨S,env,E,g,re,h,fin⟩ =>
  Gd (fun y tt S1 H1 env k R gd re rt hg hR=>⟨Im hpi,hR _ _ (re.set rt) hg⟩) (Za ⟨g,re⟩ h fun v y S1 H1 le1 m1 ry h1=>fin.nx _ _ S1 H1 le1 m1.g (m1.re.set ry) h1)
end
theorem Co{pick:List (Option Nat)}{ti:UTA}{env:Ev}{S S1:TH}{gg:UTG}{tc:UTT}{te:UTE}{P:UX}(ts:List T)(Iv:Nat->List T->TH->Prop)(hti:∀k:List T->TH->Prop,k ts S1->ti env S k)(hl:ts.length<=sizeLine)(h0:Iv 0 [] S1)
  (turn:∀k x acc S,ts[k]?=some x->Iv k acc S->gg x (Gc pick env) S fun env' S'=>tc env' S' fun b S2=>(b=true->te env' S2 fun r S3=>Iv (k+1) (acc++[r]) S3)/\(b=false->Iv (k+1) acc S2))
  (done:∀acc S,Iv ts.length acc S->P (.lst acc) S):Av pick ti gg tc te env S P:=hti _ ⟨hl,Iv,h0,turn,done⟩
theorem Zj{t u:UTS}{E:UEnds}{env:Ev}{S:TH}(R:Ev->TH->Prop)(h:∀k:Ev->TH->Prop,(∀env' S',R env' S'->k env' S')->t { E with nx:=k } env S)(rest:∀env' S',R env' S'->u E env' S'):Cd t u E env S:=by
 unfold Cd
 exact h _ rest
theorem Bv{t u:UTT}{env:Ev}{S:TH}{P:Bool->TH->Prop}(ht:∀P:Bool->TH->Prop,P true S->t env S P)(h:P true S):uOr t u env S P:=ht _ ⟨fun _=>h,fun e=>(by cases e)⟩
theorem Bo{t u:UTT}{env:Ev}{S:TH}{P:Bool->TH->Prop}(ht:∀P:Bool->TH->Prop,P false S->t env S P)(h:u env S P):uOr t u env S P:=ht _ ⟨fun e=>(by cases e),fun _=>h⟩
theorem Qo{t u:UTT}{env:Ev}{S:TH}{P:Bool->TH->Prop}(ht:∀P:Bool->TH->Prop,P false S->t env S P)(h:P false S):Ch t u env S P:=ht _ ⟨fun e=>(by cases e),fun _=>h⟩
theorem E5{L:List T}{i:Int}{Q:T->Prop}{P:UX}{S:TH}(h0:0<=i)(h1:i<L.length)(all:∀t∈L,Q t)(k:∀t,Q t->P t S):∃t,atI L i=some t/\P t S:=by
 obtain⟨t,ht,et⟩:=Lj h0 h1
 exact⟨t,et,k t (all t ht)⟩
theorem al_nil{Q:T->Prop}:∀t∈([]:List T),Q t:=fun _ h=>by cases h
theorem Xd{Q:T->Prop}{a:T}{r:List T}(h:Q a)(hr:∀t∈r,Q t):∀t∈a::r,Q t:=fun t ht=>by
 rcases List.mem_cons.mp ht with rfl|q
 ·exact h
 ·exact hr t q
theorem Ap{Q:T->Prop}{a b:List T}(h:∀t∈a,Q t)(hr:∀t∈b,Q t):∀t∈a++b,Q t:=fun t ht=>(List.mem_append.mp ht).elim (h t) (hr t)
theorem Ck{α β:Type}(f:α->β)(zs:List α)(lo hi:Option Int):cutA (zs.map f) lo hi=(cutA zs lo hi).map f:=by
 unfold cutA
 rw[List.length_map,List.map_take,List.map_drop]
theorem As{α:Type}(a:List α)(lo hi:Option Int):(cutA a lo hi).length<=a.length:=by
 unfold cutA
 rw[List.length_take,List.length_drop]
 omega
theorem Hl{α:Type}{a:List α}{lo hi:Option Int}{t:α}(ht:t∈cutA a lo hi):t∈a:=List.mem_of_mem_drop (List.mem_of_mem_take ht)
end TL
end
section
namespace L2
open PySem PySem.Spec PyProof.Rows
end L2
end
section
namespace TL
open PySem PySem.Spec PyProof.Rows L2
end TL
end
section
namespace PySem
theorem Hy(a:Value):checkTypeCall "set" ⟨[a],[]⟩=pure ():=by kernel_rfl
theorem Jd(a:Value):checkBuiltinCall "set.__new__" ⟨[.type "set",a],[]⟩=pure ():=by kernel_rfl
theorem Ed:entryFor table "set.update.loop"=some Builtin.«set.update.loop»:=entryFor_of_tree (by kernel_rfl)
section
variable{prog:Program}{w:World}{K:Type}[DecidableEq K]{knd:KeyKind prog w K}{A:Around}{E:Value->Shared->Prop}{s:Shared}
theorem Ig(a:Value){Q₁:Value->Shared->Prop}
  (h:∀led:Bool,Q₁ (.ref s.heap.objs.size) { s with heap:=s.heap.push { cls:=.type "set",dict:=none,data:=.set #[] 0 (.fresh 0 0 led) } }) :
  codeAny (model prog w) A (.call (.builtin "set.__new__") ⟨[.type "set",a],[]⟩) (wants Q₁ E) s:=by
 refine codeAny_call_builtin F.plain_set_new F.entry_set_new (wpAny_of_eq (Jd a) ?_)
 unfold Builtin.«set.__new__» Builtin.Frozenset.newClass
 have hsub:=sub_set_self
 obtain⟨hp,g,d,tk,os⟩:=s
 dsimp only
 wp_walk
 refine wpAny_askSetting (wpAny_pure ?_)
 dsimp only
 simp only[newObj]
 refine wpAny_bind (wpAny_alloc (wpAny_pure ?_))
 exact wpAny_pure (h _)
inductive KeysAt(knd:KeyKind prog w K):List Value->List K->Prop where
 |nil:KeysAt knd [] []
 |cons {k:K} {v:Value} {vs:List Value} {ks:List K}:knd.is k v=true->v.scannable=true->KeysAt knd vs ks->KeysAt knd (v::vs) (k::ks)
def newN(S:K->Bool):List K->Nat
 |[]=>0
 |k::r=>(if S k then 0 else 1)+newN (fun k'=>S k' || decide (k'=k)) r
theorem Ty{it l d:Addr}{items:Array Value}(hA:A.handled=none)(hdit:it≠d)(hdl:l≠d)(hitl:it≠l):∀(rest:List Value) (ks:List K) (i:Nat) (S:K->Bool) (n:Nat) (s:Shared) (R:Result->Shared->Prop),
  items.toList.drop i=rest->s.heap.IsListIter it l i->s.heap.IsList l items->s.heap.SetOf knd d S n->KeysAt knd rest ks->n+rest.length+1<scanBound →
  (∀h' tk' S',h'.SetOf knd d S' (n+newN S ks)->(∀b o,b≠d->b≠it->s.heap.get? b=some o->h'.get? b=some o)->R (.ok (.ret .none)) { s with heap:=h',toks:=tk' }) →
  codeAny (model prog w) A (.builtin "set.update.loop" ⟨[.ref d,.ref it],[]⟩) R s:=by
 intro rest
 induction rest with
 |nil =>
  intro ks i S n s R hr hit hl hd hp hz hq
  cases hp
  refine codeAny_builtin Ed ?_
  unfold Builtin.«set.update.loop»
  refine wpAny_bind (wpAny_pyNext_list_end hA hit hl ?_ fun h' he=>?_)
  ·have:items.toList.length<=i:=by simpa using hr
   simp at this
   simpa using this
  ·refine wpAny_pure ?_
   obtain⟨o,es,ep,t,ho,r⟩:=hd
   exact hq h' s.toks S ⟨o,es,ep,t,he d o (Ne.symm hdit) ho,r⟩ fun b o _ hb e=>he b o hb e
 |cons v rest ih =>
  intro ks i S n s R hr hit hl hd hp hz hq
  cases hp with
  | @cons k _ _ ks' hk hsc hp' =>
  have hx:items[i]?=some v:=by
   have:(items.toList.drop i)[0]?=some v:=by rw[hr];rfl
   simpa using this
  have hr':items.toList.drop (i+1)=rest:=by
   have:=congrArg List.tail hr
   simpa using this
  refine codeAny_builtin Ed ?_
  unfold Builtin.«set.update.loop»
  refine wpAny_bind (wpAny_pyNext_list_item hit hl hx fun h1 hit1 sb1=>?_)
  have hd1:h1.SetOf knd d S n:=by
   obtain⟨o,es,ep,t,ho,r⟩:=hd
   exact⟨o,es,ep,t,(sb1.2 d (Ne.symm hdit)).trans ho,r⟩
  show wpAny _ _ (holding [v] (setAdd d v) >>= fun _=>again _) _ _ _
  refine wpAny_bind (wpAny_holding ?_)
  unfold setAdd
  refine wpAny_holding ?_
  refine wpAny_bind (knd.pyHash hk ?_)
  refine wpAny_setAddHashed_of (s:={ s with heap:=h1,toks:=s.toks+1 }) hk hsc hd1 (by simp only[List.length_cons] at hz;omega) fun h2 sb2 hd2=>?_
  refine wpAny_pure ⟨Code.quiet_builtin _ (by decide +kernel),?_⟩
  have keep2:∀b o,b≠d->b≠it->s.heap.get? b=some o->h2.get? b=some o:=fun b o hb hbi e=>(sb2.2 b hb).trans ((sb1.2 b hbi).trans e)
  have hit2:h2.IsListIter it l (i+1):=by
   obtain⟨o,e,r⟩:=hit1
   exact⟨o,(sb2.2 it hdit).trans e,r⟩
  have hl2:h2.IsList l items:=by
   obtain⟨o,e,r⟩:=hl
   exact⟨o,keep2 l o hdl (Ne.symm hitl) e,r⟩
  refine ih ks' (i+1) (fun k'=>S k' || decide (k'=k)) (if S k then n else n+1) _ R hr' hit2 hl2 hd2 hp' ?_ fun h' tk' S' hd' kp=>?_
  ·simp only[List.length_cons] at hz
   split <;> omega
  ·refine hq h' tk' S' ?_ fun b o hb hbi e=>kp b o hb hbi (keep2 b o hb hbi e)
   have e:(if S k then n else n+1)+newN (fun k'=>S k' || decide (k'=k)) ks'=n+newN S (k::ks'):=by
    show _=n+((if S k then 0 else 1)+newN (fun k'=>S k' || decide (k'=k)) ks')
    split <;> omega
   rw[<-e]
   exact hd'
theorem Gm{M:Model}{self x:Value}{Q:Unit->Shared->Prop}(hT:s.TypeIs self "set")(hQ:Q () s):
  wpAny M A (checkBuiltinCall "set.__init__" ⟨[self,x],[]⟩) Q E s:=by
 simp only[checkBuiltinCall,kind_set_init,split_set_init,sig_set_init]
 refine wpAny_bind (wpAny_isInstance hT sub_set_self ?_)
 simp only[Bool.not_true,Bool.false_eq_true,if_false]
 unfold Bind.checkArgs
 dsimp only
 refine wpAny_bind (m:=Bind.printed "set" true _ _) (PyProof.Rows.printed_name (by decide) ?_)
 refine wpAny_bind (m:=Bind.printed "*" false _ _) (PyProof.Rows.printed_star (self:=self) rfl hT fun short=>?_)
 have hrn:(Manifest.Receiver.self==Manifest.Receiver.none)=false:=by decide
 have hn:(if (Manifest.Receiver.self==Manifest.Receiver.none)=true then [self,x].length else [self,x].length - 1)=1:=by simp[hrn]
 rw[hn]
 simp only[List.map_nil]
 have hc:Bind.check ⟨.positional,"set","*",.self,[⟨"iterable",.posOnly,false⟩]⟩ "set" short 1 []=pure ():=by
  simp[Bind.check,Bind.checkCount,Bind.isPositional]
  exact fun z=>absurd z (by decide)
 rw[hc]
 exact wpAny_pure hQ
theorem Js{l d:Addr}{its:Array Value}{n:Nat}{sl:Array (Option Value)}{ks:List K}{led:Bool}{A2:Around}{R:Result->Shared->Prop}(hA:A.handled=none)(hd:s.heap.get? d=some { cls:=.type "set",dict:=none,data:=.set #[] 0 (.fresh 0 0 led) })(hl:s.heap.get? l=some ⟨.type "list",none,.seq its n,sl⟩)(hld:l≠d)(hp:KeysAt knd its.toList ks)(hsz:its.size+1<scanBound)
  (h:∀h' tk S',(∀b o,b≠d->s.heap.get? b=some o->h'.get? b=some o)->h'.SetOf knd d S' (newN (fun _=>false) ks)->R (.ok (.ret .none)) { s with heap:=h',toks:=tk }) :
  wpAny (model prog w) A (Builtin.«set.__init__» ⟨[.ref d,.ref l],[]⟩) (fun fin s'=>match fin with | .done f=>R (.ok f) s' | .again c'=>c'.quiet=true/\codeAny (model prog w) A2 c' R s') (fun e s'=>R (.error e) s') s:=by
 have hT:s.TypeIs (.ref d) "set":=⟨_,hd,rfl⟩
 have hTl:s.TypeIs (.ref l) "list":=⟨_,hl,rfl⟩
 have f1:=F.sub_list_set
 have f2:=F.sub_list_frozenset
 unfold Builtin.«set.__init__»
 repeat (any_goals (first|assumption|refine wpAny_pyIter_list (items:=its) ⟨_,hl,rfl,n,rfl⟩ ?_|refine wpAny_runValue ?_|wp_step))
 have hnew:s.heap.SetOf knd d (fun _=>false) 0:=⟨_,#[],0,_,hd,⟨rfl,rfl,rfl⟩,rfl,fun e he=>by simp at he,fun k=>by simp,by decide,by rfl,rfl⟩
 have dlt:d<s.heap.objs.size:=Heap.lt_size hd
 have llt:l<s.heap.objs.size:=Heap.lt_size hl
 have k2:∀b o,s.heap.get? b=some o->(s.heap.push { cls:=.type "list_iterator",data:=.fields #[.ref l,.int 0 0] }).get? b=some o:=fun b o e=>Heap.get?_push_of_some _ e
 refine Ty (knd:=knd) (it:=s.heap.objs.size) (l:=l) (items:=its) hA (Nat.ne_of_gt dlt) hld (Nat.ne_of_gt llt) its.toList ks 0 (fun _=>false) 0 _ _ rfl ?_ ?_ ?_ hp (by simpa using hsz) fun h' tk' S' hd' kp=>?_
 ·exact⟨_,Heap.get?_push_size _ rfl,rfl,rfl⟩
 ·exact⟨_,k2 _ _ hl,rfl,n,rfl⟩
 ·obtain⟨o,es,ep,t,ho,r⟩:=hnew
  exact⟨o,es,ep,t,k2 _ _ ho,r⟩
 ·rw[Nat.zero_add] at hd'
  have q:=h h' tk' S' (fun b o hb e=>kp b o hb (Nat.ne_of_lt (Heap.lt_size e)) (k2 b o e)) hd'
  repeat (any_goals (first|assumption|wp_step))
end
end PySem
end
section
namespace PySem
section
variable{prog:Program}{w:World}{K:Type}[DecidableEq K]{knd:KeyKind prog w K}{A:Around}{E:Value->Shared->Prop}{s:Shared}
theorem Jh{l:Addr}{its:Array Value}{n:Nat}{sl:Array (Option Value)}{ks:List K}{Q:Value->Shared->Prop}(hA:A.handled=none)(hl:s.heap.get? l=some ⟨.type "list",none,.seq its n,sl⟩)(hp:KeysAt knd its.toList ks)(hsz:its.size+1<scanBound)
  (h:∀h' tk S',(∀b o,s.heap.get? b=some o->h'.get? b=some o)->h'.SetOf knd s.heap.objs.size S' (newN (fun _=>false) ks)->Q (.ref s.heap.objs.size) { s with heap:=h',toks:=tk }) :
  wpAny (model prog w) A (call (.type "set") [.ref l]) Q E s:=by
 obtain⟨c,tl,hmro⟩:=F.called_set.mro
 have hmade:=F.called_set.made
 have hsub:=F.called_set.sub
 refine wpAny_call (codeAny_of_tree ?_)
 show wpAny _ _ (callAny (.type "set") _) _ _ _
 refine wpAny_pure ⟨Code.quiet_builtin _ (by decide +kernel),codeAny_builtin F.entry_type_call ?_⟩
 rw[Around.under_plain (weight_type_call_type "set" [.ref l] []) rfl]
 have h1:=F.called_set.notType
 have h2:=F.called_set.canCreate
 have hct:=Hy (.ref l)
 repeat (any_goals (first|assumption|wp_step))
 refine codeAny_mono (Ig (.ref l) (E:=E) (Q₁:=fun obj s₁=>∃led:Bool,obj=.ref s.heap.objs.size/\s₁={ s with heap:=s.heap.push { cls:=.type "set",dict:=none,data:=.set #[] 0 (.fresh 0 0 led) } }) fun led=>⟨led,rfl,rfl⟩) fun r s₁ hr=>?_
 cases r with
 |error e=>exact hr
 |ok fl =>
  cases fl with
  |ret obj =>
   obtain⟨led,rfl,rfl⟩:=hr
   have hS:(s.heap.push { cls:=.type "set",dict:=none,data:=.set #[] 0 (.fresh 0 0 led) }).get? s.heap.objs.size=some { cls:=.type "set",dict:=none,data:=.set #[] 0 (.fresh 0 0 led) }:=Heap.get?_push_size _ rfl
   have hT:Shared.TypeIs { s with heap:=s.heap.push { cls:=.type "set",dict:=none,data:=.set #[] 0 (.fresh 0 0 led) } } (.ref s.heap.objs.size) "set":=⟨_,hS,rfl⟩
   have hl0:(s.heap.push { cls:=.type "set",dict:=none,data:=.set #[] 0 (.fresh 0 0 led) }).get? l=some ⟨.type "list",none,.seq its n,sl⟩:=Heap.get?_push_of_some _ hl
   have llt:l<s.heap.objs.size:=Heap.lt_size hl
   have hli:=F.called_set.init.lookup
   have hbi:=F.called_set.init.bind (.ref s.heap.objs.size)
   repeat (any_goals (first|assumption|wp_step))
   refine codeAny_mono (codeAny_call_builtin (R:=wants (fun r s₂=>r=.none/\Q (.ref s.heap.objs.size) s₂) E) F.called_set.init.plain F.entry_set_init (Gm hT ?_)) fun r₂ s₂ hr₂=>?_
   ·refine Js (s:={ s with heap:=s.heap.push { cls:=.type "set",dict:=none,data:=.set #[] 0 (.fresh 0 0 led) } }) (A:=A.in1.in1) (A2:=A.in1) (R:=wants (fun r s₂=>r=.none/\Q (.ref s.heap.objs.size) s₂) E) (knd:=knd) (led:=led) hA hS hl0 (Nat.ne_of_lt llt) hp hsz fun h' tk S' kp hd=>⟨rfl,h h' tk S' (fun b o e=>kp b o (Nat.ne_of_lt (Heap.lt_size e)) (Heap.get?_push_of_some _ e)) hd⟩
   ·cases r₂ with
    |error e=>exact hr₂
    |ok fl₂ =>
     cases fl₂ with
     |ret r =>
      obtain⟨rfl,hq⟩:=hr₂
      repeat (any_goals (first|assumption|wp_step))
     |_=>exact hr₂.elim
  |_=>exact hr.elim
end
end PySem
namespace L2
open PySem PySem.Spec PyProof.Rows
theorem Q3(zs:List Str):∀S:Key->Bool,newN S (zs.map Sum.inr)<=zs.length:=by
 induction zs with
 |nil=>exact fun _=>Nat.le_refl _
 |cons z r ih =>
  intro S
  have:=ih (fun k'=>S k' || decide (k'=Sum.inr z))
  show (if S (Sum.inr z) then 0 else 1)+newN _ (r.map Sum.inr)<=r.length+1
  split <;> omega
theorem Ue(zs:List Str):∀S:Key->Bool,newN S (zs.map Sum.inr)=zs.length ↔ zs.Nodup/\∀z∈zs,S (Sum.inr z)=false:=by
 induction zs with
 |nil=>intro S;simp[newN]
 |cons z r ih =>
  intro S
  have hle:=Q3 r (fun k'=>S k' || decide (k'=Sum.inr z))
  have e:newN S ((z::r).map Sum.inr)=(if S (Sum.inr z) then 0 else 1)+newN (fun k'=>S k' || decide (k'=Sum.inr z)) (r.map Sum.inr):=rfl
  rw[e,List.nodup_cons]
  constructor
  ·intro h
   have hz:S (Sum.inr z)=false:=by
    cases q:S (Sum.inr z) with
    |false=>rfl
    |true=>rw[q,List.length_cons] at h;simp at h;omega
   rw[hz,List.length_cons] at h
   have h':newN (fun k'=>S k' || decide (k'=Sum.inr z)) (r.map Sum.inr)=r.length:=by simp at h;omega
   obtain⟨h1,h2⟩:=(ih _).mp h'
   refine⟨⟨fun m=>?_,h1⟩,fun y hy=>?_⟩
   ·have:=h2 z m;simp at this
   ·rcases List.mem_cons.mp hy with rfl|hy
    ·exact hz
    ·have:=h2 y hy;simp at this;exact this.1
  ·rintro⟨⟨h1,h2⟩,h3⟩
   have hz:=h3 z List.mem_cons_self
   have h':=(ih (fun k'=>S k' || decide (k'=Sum.inr z))).mpr ⟨h2,fun y hy=>by
    rw[h3 y (List.mem_cons_of_mem _ hy),Bool.false_or]
    exact decide_eq_false fun q=>h1 (Sum.inr.inj q ▸ hy)⟩
   rw[h',hz,List.length_cons]
   simp
   omega
section
variable{X:Cx}{p p' pos pos':Pos}{e:Expr}{te:TE}
def Wb(K:PySem.W.Frag)(te:TE):TE:=fun σ H Q=>te σ H fun x H1=>∃(a:Addr) (zs:List Str),x=.ref a/\SqL K H1 a (zs.map V.str)/\zs.length<=1000/\∀n:Nat,(n=zs.length ↔ zs.Nodup)->Q (.int n) H1
theorem Gy{P:Program}{w:World}:∀{zs:List Str} {us:List Value},Vals (zs.map V.str) us->KeysAt (mixKind P w) us (zs.map Sum.inr)
 |[],us,r=>by cases r;exact .nil
 |z::zs,us,r=>by
  cases r with
  |cons h r =>
   obtain⟨t,rfl⟩:=h
   exact .cons (Dg P w z t) rfl (Gy r)
theorem Pu(hc:X.calm=true)(hg:Gl X "len")(hm:X.mg "len"=none)(hg':Gl X "set")(hm':X.mg "set"=none)(he:PE X e te)
  (h1:starEach [.Call (.Name "set" p') [e] [] pos'] X.env=(false,eval (.Call (.Name "set" p') [e] [] pos') X.env)::starEach [] X.env:=by rfl) (h2:starEach [e] X.env=(false,eval e X.env)::starEach [] X.env:=by rfl) :
  PE X (.Call (.Name "len" p) [.Call (.Name "set" p') [e] [] pos'] [] pos) (Wb X.K te):=by
 intro pins s σ H Q I h
 refine wpAny_Call_Name_kw (Dk I hg hm boot_len ?_ (by decide) (by decide))
 refine PyProof.Rows.callWith_builtin1 ?_ h1 (by rfl)
 rw[h1]
 show wpAny _ _ (spliced ((false,eval (.Call (.Name "set" p') [e] [] pos') X.env)::backTo pos (starEach [] X.env))) _ _ s
 refine Calls.spliced_cons ?_
 refine wpAny_Call_Name_kw (Dk I hg' hm' boot_set ?_ (by decide) (by decide))
 refine PyProof.Rows.callWith_type1 ?_ h2 (by rfl)
 rw[h2]
 show wpAny _ _ (spliced ((false,eval e X.env)::backTo pos' (starEach [] X.env))) _ _ s
 refine Calls.spliced_cons (thn (he pins s σ H _ I h) fun u s1 ⟨x,H1,I1,r1,a,zs,ex,sq,hz,q⟩=>?_)
 subst ex
 cases r1
 refine Calls.spliced_nil ?_
 obtain⟨its,rv,pl,hsz⟩:=I1.list sq
 have hlen:=rv.length
 obtain⟨o,n,ho,c1,c2,c3⟩:=pl
 obtain⟨oc,od,odt,osl⟩:=o
 cases c1;cases c2;cases c3
 rw[List.length_map] at hlen
 refine Jh (knd:=mixKind X.prog X.w) (I1.ok.hd hc) ho (by simpa using Gy rv) (by simp;have:(4096:Nat)=scanBound:=rfl;omega) fun h' tk S' kp hS=>?_
 have I3:Inv X pins σ H1 { s1 with heap:=h',toks:=tk }:=I1.kept kp
 refine Calls.spliced_nil ?_
 obtain⟨o,es,ep,t,ho',hex,hd,_,_,hb,hf,hn⟩:=hS
 refine call_len_set ho' hex hd hf (by have:(4096:Nat)=scanBound:=rfl;omega) ?_
 rw[hn]
 refine⟨.int (newN (fun _=>false) (zs.map Sum.inr):Nat),H1,I3.tok _,⟨_,rfl⟩,q _ ?_⟩
 rw[Ue]
 exact⟨fun z=>z.1,fun z=>⟨z,fun _ _=>rfl⟩⟩
end
end L2
end
section
namespace L2
open PySem PySem.Spec PyProof.Rows
open AutoSeq1 (wpAny_loadPart')
theorem Po(t:Addr)(oc:Option Addr)(its:Array Value)(n:Nat)(sl:Array (Option Value)):
  Meets (Builtin.«enumerate.__new__» ⟨[.type "enumerate",.ref t],[]⟩) (fun _ R s=>s.heap.get? t=some ⟨.type "tuple",oc,.seq its n,sl⟩ ∧
   R (.ok (.ret (.ref (s.heap.push { cls:=.type "tuple_iterator",data:=.fields #[.ref t,.int 0 0] }).objs.size)))
    { s with heap:=(s.heap.push { cls:=.type "tuple_iterator",data:=.fields #[.ref t,.int 0 0] }).push { cls:=.type "enumerate",data:=.fields #[.none,.bool false,.ref s.heap.objs.size,rawInt 0,.none,.none] } }) :=
 .of_wp fun prog w A R s h=>by
  obtain⟨hp,g,d,tk,os⟩:=s
  obtain⟨ht,h⟩:=h
  have q1:=sub_enumerate
  have q2:Heap.IsTuple (Shared.heap ⟨hp,g,d,tk,os⟩) t its:=⟨_,ht,rfl,n,rfl⟩
  wp_walk using wpAny_loadPart' ht
  refine wpAny_stack_any fun st=>wpAny_pure ?_
  split
  ·rename_i c _ _ _ _ _
   cases (c==Value.type "enumerate")
   all_goals
    wp_walk using wpAny_loadPart' ht,wpAny_pyIter_tuple q2
    exact⟨_,rfl,h⟩
  ·wp_walk using wpAny_loadPart' ht,wpAny_pyIter_tuple q2
   exact⟨_,rfl,h⟩
section
variable{prog:Program}{w:World}{A:Around}{E:Value->Shared->Prop}{s:Shared}
theorem Ji{t:Addr}{its:Array Value}{Q:Value->Shared->Prop}(ht:s.heap.IsTuple t its)
  (h:∀h',IsEnum h' (s.heap.objs.size+1) s.heap.objs.size 0 .none->h'.IsTupleIter s.heap.objs.size t 0->(∀b o,s.heap.get? b=some o->h'.get? b=some o)->Q (.ref (s.heap.objs.size+1)) { s with heap:=h' }) :
  wpAny (model prog w) A (call (.type "enumerate") [.ref t]) Q E s:=by
 obtain⟨⟨c,dct,dt,sl⟩,hl,hc,n,hd⟩:=ht
 have hc:c=.type "tuple":=hc
 have hd:dt=.seq its n:=hd
 subst hc hd
 refine callType_new F.called_enumerate (by decide) (F.typeCall_enumerate_1 _) (F.newCall_enumerate_1 _) (fun obj=>F.args_object_init_2 obj _) F.entry_enumerate_new (Po t dct its n sl) ⟨hl,?_⟩
 have z:(s.heap.push { cls:=.type "tuple_iterator",data:=.fields #[.ref t,.int 0 0] }).objs.size=s.heap.objs.size+1:=Heap.size_push ..
 show _/\_
 rw[z]
 have en:IsEnum ((s.heap.push { cls:=.type "tuple_iterator",data:=.fields #[.ref t,.int 0 0] }).push { cls:=.type "enumerate",data:=.fields #[.none,.bool false,.ref s.heap.objs.size,rawInt 0,.none,.none] }) (s.heap.objs.size+1) s.heap.objs.size 0 .none:=by
  have q:=Heap.get?_push_size (s.heap.push { cls:=.type "tuple_iterator",data:=.fields #[.ref t,.int 0 0] }) (o:={ cls:=.type "enumerate",data:=.fields #[.none,.bool false,.ref s.heap.objs.size,rawInt 0,.none,.none] }) rfl
  rw[z] at q
  exact q
 exact⟨⟨_,en,rfl⟩,h _ en ⟨_,Heap.get?_push_of_some _ (Heap.get?_push_size _ rfl),rfl,rfl⟩ fun b o x=>Heap.get?_push_of_some _ (Heap.get?_push_of_some _ x)⟩
theorem J3(hh:A.handled=none)(it t:Addr)(ne:t≠it)(its:Array Value):Draws prog w A it [it,t] its.size (fun i x=>its[i]?=some x) (fun i h=>h.IsTupleIter it t i/\h.IsTuple t its) where
 live:=fun i h st=>by obtain⟨o,e,_⟩:=st.1;exact⟨o,e⟩
 frame:=fun i h h' st k=>by
  obtain⟨⟨o,e,r⟩,⟨o',e',r'⟩⟩:=st
  exact⟨⟨o,k it (by simp) o e,r⟩,⟨o',k t (by simp) o' e',r'⟩⟩
 item:=fun i s Q E hi st hQ=>by
  obtain⟨h1,h2⟩:=st
  refine Ct (x:=its[i]) h1 h2 (by simp[hi]) fun g g1 sb=>?_
  obtain⟨o',e',r'⟩:=h2
  exact hQ _ g s.toks (by simp[hi]) ⟨g1,⟨o',(sb.2 t ne).trans e',r'⟩⟩ sb
 done:=fun s Q E st hE=>D9 hh st.1 st.2 (by simp) fun g e a b=>hE g e a b
end
def Ite (K:PySem.W.Frag) (a:Addr):It :=
  ⟨fun i H=>∃ xs x,SqT K H a xs /\ xs[i]? = some x,
   fun i H v H'=>∃ p x,H p = none /\ v = .ref p /\ H' = upd H p (.tup [.int (i:Int),x]) /\ ∀ xs,SqT K H a xs->xs[i]? = some x,
   fun i H=>∃ xs,SqT K H a xs /\ xs.length = i⟩
theorem P8{P:Program}{w:World}{K:PySem.W.Frag}{es:List Expr}{k:Nat}{pos:Pos}{e it a:Addr}(nei:e≠it)(nea:a≠e)(nia:a≠it):Turn P w K (.Tuple es k pos) (Ite K a) [e,it] e (fun i h=>(∃old,IsEnum h e it i old)/\h.IsTupleIter it a i) where
 mem:=by simp
 obj:=fun i h st c hc=>by
  obtain⟨⟨old,he⟩,o,ho,cl,d⟩:=st
  simp only[List.mem_cons,List.not_mem_nil,or_false] at hc
  rcases hc with rfl|rfl
  ·exact⟨_,he,fun v q=>by cases q⟩
  ·exact⟨o,ho,fun v q=>by rw[d] at q;cases q⟩
 keep:=fun i h h' st kk=>by
  obtain⟨⟨old,he⟩,h1⟩:=st
  exact⟨⟨old,kk e (by simp) _ he⟩,Hf h1 fun o q=>kk it (by simp) o q⟩
 item:=by
  intro X hP hw hK hc i pins s σ H E I hf st hg
  subst hP hw hK
  obtain⟨xs,x,q1,e1⟩:=hg
  obtain⟨⟨old,he⟩,hi⟩:=st
  obtain⟨us,r1,p1,_⟩:=I.tuple q1
  obtain⟨u,hu,ru⟩:=r1.get e1
  have lu:i<us.length:=(List.getElem?_eq_some_iff.mp hu).1
  have el:e<s.heap.objs.size:=Heap.lt_size he
  have il:it<s.heap.objs.size:=by obtain⟨o,q,_⟩:=hi;exact Heap.lt_size q
  refine wpAny_pyNext_enum_itemD (J3 (A:=X.A.in1) (I.ok.hd hc) it a nia us.toArray) he ⟨hi,p1⟩ (by simpa using lu) nei (by simp only[List.mem_cons,List.not_mem_nil,or_false,not_or];exact⟨nei,Ne.symm nea⟩) fun y g tk py eo st' tu sz kk=>⟨_,rfl,?_⟩
  have ey:y=u:=by
   have:us.toArray[i]?=some u:=by simpa using hu
   rw[this] at py
   exact(Option.some.inj py).symm
  subst ey
  refine wpAny_letOwnedTupleGo_enum eo fun g' en sb=>?_
  have ne:s.heap.objs.size≠e:=Nat.ne_of_gt el
  have up:∀c o,c ∉ [e,it]->s.heap.get? c=some o->g'.get? c=some o:=fun c o hc' q=>by
   simp only[List.mem_cons,List.not_mem_nil,or_false,not_or] at hc'
   exact sb.extBut _ _ hc'.1 (kk c o hc'.1 hc'.2 q)
  have I1:Inv X pins σ H { s with heap:=g',toks:=tk+1 }:=I.turns (t':=tk+1) up hf
  have t':g'.get? s.heap.objs.size=some { cls:=.type "tuple",data:=.seq #[.int i tk,y] }:=sb.extBut _ _ ne tu
  have I2:=I1.track (a:=s.heap.objs.size) (o:=.tup [.int (i:Int),x]) (I.fpOk (Nat.le_refl _) I.fresh) ⟨by show 2<=sizeLine;decide,[.int i tk,y],.cons ⟨tk,rfl⟩ (.cons ru .nil),⟨_,t',rfl,⟨_,rfl⟩,rfl⟩⟩
  refine⟨.ref s.heap.objs.size,_,I2,rfl,⟨_,x,I.fresh,rfl,rfl,fun xs' q=>by rw[I.tuple_inj q q1];exact e1⟩,⟨⟨_,en⟩,Hf st'.1 fun o q=>sb.extBut _ _ (Ne.symm nei) q⟩,fun c hc'=>?_⟩
  have nc:c≠s.heap.objs.size:=by
   simp only[List.mem_cons,List.not_mem_nil,or_false] at hc'
   rcases hc' with rfl|rfl
   ·exact Nat.ne_of_lt el
   ·exact Nat.ne_of_lt il
  rw[Xc nc]
  exact(hf c hc').1
 done:=by
  intro X hP hw hK hc i pins s σ H E I hf st hg
  subst hP hw hK
  obtain⟨xs,q1,hl⟩:=hg
  obtain⟨⟨old,he⟩,hi⟩:=st
  obtain⟨us,r1,p1,_⟩:=I.tuple q1
  have el:=r1.length
  have ei:i=us.toArray.size:=by simp;omega
  subst ei
  refine wpAny_pyNext_enum_endD (J3 (A:=X.A.in1) (I.ok.hd hc) it a nia us.toArray) he ⟨hi,p1⟩ fun g kk=>⟨rfl,I.turns (t':=s.toks) (ch:=[e,it]) (fun c o hc' q=>?_) hf⟩
  simp only[List.mem_cons,List.not_mem_nil,or_false,not_or] at hc'
  exact kk c o hc'.2 q
 self:=fun _ _ _ _ _ st h=>by obtain⟨⟨old,he⟩,_⟩:=st;exact wpAny_pyIter_enum he h
def iEnum(K:PySem.W.Frag)(ta:TA):TI:=fun σ H R=>ta σ H fun vs H1=>∃a xs,vs=[.ref a]/\SqT K H1 a xs/\R (Ite K a) H1
theorem Wp{X:Cx}{a:Expr}{ta:TA}{p pos tp:Pos}{es:List Expr}{k:Nat}(hg:Gl X "enumerate")(hm:X.mg "enumerate"=none)(ha:PA X [a] ta)(hs:starEach [a] X.env=[(false,eval a X.env)]:=by rfl):PI X (.Tuple es k tp) (.Call (.Name "enumerate" p) [a] [] pos) (iEnum X.K ta):=by
 intro pins s σ H R I h
 refine Call_ (Dk I hg hm boot_enumerate (PyProof.Rows.callWith_type1 (thn (ha pos pins s σ H _ I h) fun us s1 h1=>?_) hs rfl))
 obtain⟨vs,H1,I1,r1,q1⟩:=h1
 obtain⟨c,xs,rfl,q,hR⟩:=q1
 obtain⟨u,rfl,ru⟩:=E3 r1
 cases ru
 obtain⟨is,r,p1,_⟩:=I1.tuple q
 have lt:c<s1.heap.objs.size:=by
  obtain⟨o,z,_⟩:=p1
  exact Heap.lt_size z
 refine Ji (its:=is.toArray) p1 fun g en hi kk=>wpAny_pyIter_enum en ?_
 refine⟨s1.heap.objs.size+1,[s1.heap.objs.size+1,s1.heap.objs.size],_,_,H1,rfl,I1.kept (t':=s1.toks) kk,P8 (Nat.succ_ne_self _) (Nat.ne_of_lt (Nat.lt_succ_of_lt lt)) (Nat.ne_of_lt lt),⟨⟨_,en⟩,hi⟩,fun x hx=>?_,hR⟩
 have hl:s1.heap.objs.size<=x:=by
  simp only[List.mem_cons,List.not_mem_nil,or_false] at hx
  rcases hx with rfl|rfl <;> omega
 exact I1.fpOk hl (I1.hok.fresh hl)
end L2
end
section
namespace TL
open PySem PySem.Spec PyProof.Rows L2
section
variable{X:Cx}{e a:Expr}{te:UTE}{tr:UTA}{p p' pos pos' tp:Pos}
def Vv(te:UTE):UTE:=fun env S P=>te env S fun x S1=>match x with
 | .lst ts=>∃zs,strsT ts=some zs/\zs.length<=1000/\∀n:Nat,(n=zs.length ↔ zs.Nodup)->P (.int n) S1
 |_=>False
theorem strsT_eq:∀{ts:List T} {zs:List Str},strsT ts=some zs->ts=zs.map T.str
 |[],zs,h=>by cases h;rfl
 |t::r,zs,h=>by
  cases t with
  |str x =>
   simp only[strsT] at h
   cases q:strsT r with
   |none=>rw[q] at h;cases h
   |some ys=>rw[q] at h;cases h;rw[strsT_eq q];rfl
  |_=>cases h
theorem Eo{K:PySem.W.Frag}{S:TH}{H:Hp}:∀{vs:List V} {zs:List Str},Reps K S H vs (zs.map T.str)->vs=zs.map V.str
 |[],[],_=>rfl
 |[],_::_,r=>absurd r.1 (by simp)
 |_::_,[],r=>absurd r.1 (by simp)
 |v::vs,z::zs,r=>by
  have h:=r.head
  cases h
  rw[Eo r.tail]
  rfl
theorem Qb(hc:X.calm=true)(hg:Gl X "len")(hm:X.mg "len"=none)(hg':Gl X "set")(hm':X.mg "set"=none)(he:UE X e te)
  (h1:starEach [.Call (.Name "set" p') [e] [] pos'] X.env=(false,eval (.Call (.Name "set" p') [e] [] pos') X.env)::starEach [] X.env:=by rfl) (h2:starEach [e] X.env=(false,eval e X.env)::starEach [] X.env:=by rfl) :
  UE X (.Call (.Name "len" p) [.Call (.Name "set" p') [e] [] pos'] [] pos) (Vv te):=PE.imp (Pu hc hg hm hg' hm' he h1 h2) fun σ H Q ⟨S,env,P,g,re,h,fin⟩ =>
 Za ⟨g,re⟩ h fun v x S1 H1 le1 m1 rx h1=>by
  cases x with
  |lst ts =>
   obtain⟨zs,e0,hz,h1⟩:=h1
   have et:=strsT_eq e0
   subst et
   obtain⟨l,vs,rfl,f,r⟩:=rx.lstE
   have ev:=Eo r
   subst ev
   exact⟨l,zs,rfl,f.sq,hz,fun n hn=>fin _ _ S1 H1 le1 m1.g (.int _) (h1 n hn)⟩
  |_=>exact h1.elim
def D5:Nat->List T->List T
 |_,[]=>[]
 |k,t::r=>.tup [.int (k:Int),t]::D5 (k+1) r
theorem Dp:∀(ts:List T) (k:Nat),(D5 k ts).length=ts.length
 |[],_=>rfl
 |_::r,k=>by simp[D5,Dp r]
theorem Ko:∀{ts:List T} {k i:Nat} {t:T},ts[i]?=some t->(D5 k ts)[i]?=some (.tup [.int ((k+i:Nat):Int),t])
 |[],_,_,_,h=>by simp at h
 |u::r,k,0,t,h=>by simp at h;subst h;rfl
 |u::r,k,i+1,t,h=>by
  have:=Ko (k:=k+1) (show r[i]?=some t by simpa using h)
  show (D5 (k+1) r)[i]?=_
  rw[this]
  congr 4
  omega
def uEnum(tr:UTA):UTA:=fun env S P=>tr env S fun xs S1=>match xs with
 |[.tup ts]=>P (D5 0 ts) S1
 |_=>False
theorem Pd{es:List Expr}{k:Nat}(hg:Gl X "enumerate")(hm:X.mg "enumerate"=none)(ha:UA X [a] tr)(hs:starEach [a] X.env=[(false,eval a X.env)]:=by rfl):UI X (.Tuple es k tp) (.Call (.Name "enumerate" p) [a] [] pos) (uEnum tr) :=
 PI.imp (Wp hg hm ha hs) fun σ H R ⟨S,env,P,g,re,h,fin⟩=>Ao ⟨g,re⟩ h fun vs xs S1 H1 le1 m1 rx h1=>by
  match xs,rx,h1 with
  |[.tup ts],rx,h1 =>
   obtain⟨v,rfl,r1⟩:=rx.one
   obtain⟨l,us,rfl,f,r⟩:=r1.tupE
   refine⟨l,us,rfl,f.sq,fin (D5 0 ts) _ S1 H1 le1 m1.g h1 ⟨fun i S2 H2 le g2 hi=>?_,fun S2 H2 le g2=>⟨us,(f.mono le).sq,by rw[Dp];exact r.1⟩,fun i S2 H2 x H3 le g2 hi y=>?_⟩⟩
   ·rw[Dp] at hi
    exact⟨us,us[i]'(by rw[r.1];exact hi),(f.mono le).sq,List.getElem?_eq_getElem _⟩
   ·obtain⟨q,y,hq,rfl,rfl,hy⟩:=y
    obtain⟨t,et,rt⟩:=r.get' (hy us (f.mono le).sq)
    have l2:Le S2 H2 S2 (upd H2 q (.tup [.int (i:Int),y])):=Le.new g2 hq
    refine⟨l2,g2.new hq,.tup [.int (i:Int),t],?_,.tupI (.inl ⟨g2.free hq,Br⟩) ((Reps.cons (.int _) (.cons (rt.mono le) .nil)).mono l2)⟩
    have:=Ko (k:=0) et
    rw[Nat.zero_add] at this
    exact this
def gTr(i j k:Nat):UTG:=fun x env S P=>match x with
 | .tup [x,y,z]=>P (((env.set i (some x)).set j (some y)).set k (some z)) S
 |_=>False
theorem Jx(i j k:Nat){x y z:Str}{p1 p2 p3:Pos}{n:Nat}(hc:X.calm=true)(hN:X.N.Nodup)(hi:X.N[i]?=some x:=by rfl)(hx:Loc X.env.scope x:=by first|exact Or.inl rfl|exact Or.inr rfl)(hf:X.fn x=true\/X.env.scope.names.lookup x=some .local:=by first|exact .inl rfl|exact .inr rfl)
  (hj:X.N[j]?=some y:=by rfl) (hy:Loc X.env.scope y:=by first|exact Or.inl rfl|exact Or.inr rfl) (hfy:X.fn y=true\/X.env.scope.names.lookup y=some .local:=by first|exact .inl rfl|exact .inr rfl)
  (hk:X.N[k]?=some z:=by rfl) (hz:Loc X.env.scope z:=by first|exact Or.inl rfl|exact Or.inr rfl) (hfz:X.fn z=true\/X.env.scope.names.lookup z=some .local:=by first|exact .inl rfl|exact .inr rfl) :
  UG X (.Tuple [.Name x p1,.Name y p2,.Name z p3] n pos) (gTr i j k) :=
 PG.imp (Lh (n:=3) hc (Cm (B8 hN hi hx hf) (Cm (B8 hN hj hy hfy) (Cm (B8 hN hk hz hfz) Hj)))) fun v σ H Q ⟨S,env,x,P,g,re,rx,h,fin⟩=>by
  cases x with
  |tup ts =>
   match ts,h with
   |[x,y,z],h =>
    obtain⟨l,vs,rfl,f,r⟩:=rx.tupE
    match vs,f,r with
    |[v,w,u],f,r=>exact⟨l,[v,w,u],rfl,f.sq,rfl,v,[w,u],rfl,w,[u],rfl,u,[],rfl,rfl,fin _ _ S H .refl g (((re.set r.head).set r.tail.head).set r.tail.tail.head) h⟩
    |[],_,r=>exact absurd r.1 (by simp)
    |[_],_,r=>exact absurd r.1 (by simp)
    |[_,_],_,r=>exact absurd r.1 (by simp)
    |_::_::_::_::_,_,r=>exact absurd r.1 (by simp)
  |_=>exact h.elim
def oRep:T->T->TH->UX->Prop:=fun x y S P=>match x,y with
 | .lst ts,.int n=>0<=n/\n<=1000/\ts.length<=1/\P (.lst (List.replicate n.toNat ts).flatten) S
 |_,_=>False
theorem Ir{K:PySem.W.Frag}{S:TH}{H:Hp}{vs:List V}{ts:List T}(r:Reps K S H vs ts):∀n:Nat,Reps K S H (List.replicate n vs).flatten (List.replicate n ts).flatten
 | 0=>.nil
 |n+1=>by
  rw[List.replicate_succ,List.replicate_succ,List.flatten_cons,List.flatten_cons]
  exact r.append (Ir r n)
theorem lRep{K:PySem.W.Frag}:LOp K rRep oRep:=fun S H v w x y P Q g rx ry ho fin=>by
 cases x with
 |lst ts =>
  cases y with
  |int n =>
   obtain⟨h0,h1,h2,h⟩:=ho
   obtain⟨a,vs,rfl,f,r⟩:=rx.lstE
   cases ry
   refine⟨a,n,vs,rfl,rfl,f.2,by omega,by omega,?_,fun p hp=>C0 fin g hp (Ir r _) h⟩
   rw[r.1]
   refine Nat.le_trans (Nat.mul_le_mul_right _ h2) ?_
   exact Nat.le_of_lt (Xo (by omega))
  |_=>exact ho.elim
 |_=>exact ho.elim
theorem Yk{b:Expr}{ta tb:UTE}(ha:UE X a ta)(hb:UE X b tb):UE X (.BinOp a .Mult b pos) (Bb oRep ta tb):=Dl Yy lRep ha hb
theorem Fj{t u:UTT}{b1:Bool}{C:Prop}{env:Ev}{S:TH}{P:Bool->TH->Prop}{R:TH->Prop}(ht:∀P:Bool->TH->Prop,P b1 S->t env S P)(h0:R S)
  (hu:b1=true->∀P:Bool->TH->Prop,(∀b S',R S'->(b=true->C)->P b S')->u env S P) (h:∀b S',R S'->(b=true->b1=true/\C)->P b S'):Ch t u env S P :=
 ht _ ⟨fun e=>hu e _ fun b S' r q=>h b S' r fun z=>⟨e,q z⟩,fun e=>h false S h0 fun z=>(by cases z)⟩
theorem Km{pick:List (Option Nat)}{ti:UTA}{env:Ev}{S:TH}{gg:UTG}{tc:UTT}{te:UTE}{P:UX}(Qs:List T->TH->Prop)(hti:∀k:List T->TH->Prop,(∀ts S1,Qs ts S1->k ts S1)->ti env S k)
  (body:∀ts S1,Qs ts S1->ts.length<=sizeLine/\∃Iv:Nat->List T->TH->Prop,Iv 0 [] S1 ∧
   (∀k x acc S,ts[k]?=some x->Iv k acc S->gg x (Gc pick env) S fun env' S'=>tc env' S' fun b S2=>(b=true->te env' S2 fun r S3=>Iv (k+1) (acc++[r]) S3)/\(b=false->Iv (k+1) acc S2)) ∧
   ∀acc S,Iv ts.length acc S->P (.lst acc) S):Av pick ti gg tc te env S P:=hti _ body
theorem Ol{α:Type}(x:α):∀n:Nat,(List.replicate n [x]).flatten=List.replicate n x
 | 0=>rfl
 |n+1=>by rw[List.replicate_succ,List.flatten_cons,Ol x n,List.replicate_succ];rfl
end
end TL
end
section
namespace L2
open PySem PySem.Spec PyProof.Rows
section
variable{X:Cx}
def Yr(K:PySem.W.Frag):V->List V->Hp->VK->Prop:=fun x vs H Q=>∃(l:Addr) (zs:List Str) (z:Str),x=.ref l/\vs=[.str z]/\SqL K H l (zs.map V.str)/\Q (.int ((zs.countP fun y=>y==z:Nat):Int)) H
theorem Oj:∀{zs:List Str} {us:List Value},Vals (zs.map V.str) us->∀u∈us,∃y t,u=.str y t
 |[],us,r=>by cases r;exact fun _ h=>by cases h
 |z::zs,us,r=>by
  cases r with
  |cons h r =>
   obtain⟨t,rfl⟩:=h
   intro u hu
   rcases List.mem_cons.mp hu with rfl|hu
   ·exact⟨z,t,rfl⟩
   ·exact Oj r u hu
theorem Hm{z:Str}(e:Value->Bool)(he:∀y t,e (.str y t)=(y==z)):∀{zs:List Str} {us:List Value},Vals (zs.map V.str) us->us.countP e=zs.countP fun y=>y==z
 |[],us,r=>by cases r;rfl
 |y::zs,us,r=>by
  cases r with
  |cons h r =>
   obtain⟨t,rfl⟩:=h
   rw[List.countP_cons,List.countP_cons,Hm e he r,he]
theorem R1(hu:X.A.units<cLine):MtM X "list.count" (Yr X.K):=by
 intro pins s σ H x vs v us Q I rx rv h
 obtain⟨l,zs,z,rfl,rfl,sq,q⟩:=h
 cases rx
 obtain⟨u,rfl,ru⟩:=rv.one
 obtain⟨tz,rfl⟩:=ru
 obtain⟨its,r,pl,hz⟩:=I.list sq
 obtain⟨o,n,ho,c1,c2,c3⟩:=pl
 obtain⟨oc,od,odt,osl⟩:=o
 cases c1;cases c2;cases c3
 refine call_meets F.slot_list_count ⟨_,ho,rfl⟩ F.entry_list_count (F.args_list_count_2 _ _) (SeqAt.list_countAt l its.toArray n _ osl (.str z tz) (fun v=>match v with | .str y _=>y==z|_=>false)) ⟨ho,fun y hy=>?_,?_⟩
 ·obtain⟨x,t,rfl⟩:=Oj r y (by simpa using hy)
  exact SeqAt.EqAt.str_str x t z tz
 ·refine⟨.int _,H,I.tok _,⟨_,rfl⟩,?_⟩
  rw[show its.toArray.toList=its by simp,Hm _ (fun _ _=>rfl) r]
  exact q
end
end L2
end
section
namespace TL
open PySem PySem.Spec PyProof.Rows L2
section
variable{X:Cx}{o e:Expr}{to:UTE}{tr:UTA}{apos cpos:Pos}
def Yc(to:UTE)(tr:UTA):UTE:=fun env S P=>to env S fun x S1=>match x with
 | .lst ts=>tr env S1 fun ys S2=>match ys with
  |[.str z]=>∃zs,strsT ts=some zs/\P (.int ((zs.countP fun y=>y==z:Nat):Int)) S2
  |_=>False
 |_=>False
theorem Sl(hu:X.A.units<cLine)(ho:UE X o to)(ha:UA X [e] tr)(hbase:attributeBase o "count" X.env (eval o X.env)=eval o X.env:=by rfl)
  (hfew:((backTo cpos (starEach [e] X.env)).all (fun x=>!x.1)&&(backToKw cpos (keywordEach [] X.env)).all (fun x=>x.1.isSome)&&decide (([e]:List Expr).length+([]:List Keyword).length+(if ([]:List Keyword).isEmpty then 0 else 1)<30))=true:=by rfl)
  (hline:(apos.endLine==cpos.line)=true:=by rfl) (hs:starEach [e] X.env=(false,eval e X.env)::starEach [] X.env:=by rfl) (hplain:(backTo cpos (starEach [] X.env)).any (·.1)=false:=by rfl) :
  UE X (.Call (.Attribute o "count" apos) [e] [] cpos) (Yc to tr) :=
 PE.imp (Pa PySem.F.plainAttrs_list PySem.F.slot_list_count PySem.F.type_list_count (R1 hu) ho ha hbase hfew hline hs hplain) fun σ H Q ⟨S,env,P,g,re,h,fin⟩ =>
  Za ⟨g,re⟩ h fun v x S1 H1 le1 m1 rx h1=>by
   cases x with
   |lst ts =>
    obtain⟨l,vs,rfl,f,r⟩:=rx.lstE
    refine⟨.inl ⟨rfl,_,f.sq⟩,Ao m1 h1 fun us ys S2 H2 le2 m2 rr h2=>?_⟩
    match ys,rr,h2 with
    |[.str z],rr,h2 =>
     obtain⟨w,rfl,rw'⟩:=rr.one
     cases rw'
     obtain⟨zs,ez,h3⟩:=h2
     have et:=strsT_eq ez
     subst et
     have ev:=Eo r
     subst ev
     exact⟨l,zs,z,rfl,rfl,(f.mono le2).sq,fin _ _ S2 H2 (le1.trans le2) m2.g (.int _) h3⟩
   |_=>exact h1.elim
end
end TL
end
section
namespace L2
open PySem PySem.Spec PyProof.Rows
inductive PlV:V->Prop where
 |non:PlV .non
 |bl (b:Bool):PlV (.bl b)
 |int (i:Int):PlV (.int i)
 |str (x:Str):PlV (.str x)
def pEq:V->V->Bool
 | .non,.non=>true
 | .bl a,.bl b=>a==b
 | .int a,.int b=>a==b
 | .str a,.str b=>a==b
 | .bl a,.int b=>(if a then 1 else 0)==b
 | .int a,.bl b=>a==(if b then 1 else 0)
 |_,_=>false
inductive EqD(K:PySem.W.Frag)(H:Hp):Nat->V->V->Bool->Prop where
 |pp {n:Nat} {x y:V}:PlV x->PlV y->EqD K H n x y (pEq x y)
 |lp {n:Nat} {a:Addr} {xs:List V} {y:V}:SqL K H a xs->PlV y->EqD K H n (.ref a) y false
 |pl {n:Nat} {a:Addr} {xs:List V} {x:V}:PlV x->SqL K H a xs->EqD K H n x (.ref a) false
 |tp {n:Nat} {a:Addr} {xs:List V} {y:V}:SqT K H a xs->PlV y->EqD K H n (.ref a) y false
 |pt {n:Nat} {a:Addr} {xs:List V} {x:V}:PlV x->SqT K H a xs->EqD K H n x (.ref a) false
 |lt {n:Nat} {a b:Addr} {xs ys:List V}:SqL K H a xs->SqT K H b ys->EqD K H n (.ref a) (.ref b) false
 |tl {n:Nat} {a b:Addr} {xs ys:List V}:SqT K H a xs->SqL K H b ys->EqD K H n (.ref a) (.ref b) false
 |ln {n:Nat} {a b:Addr} {xs ys:List V}:SqL K H a xs->SqL K H b ys->xs.length≠ys.length->EqD K H n (.ref a) (.ref b) false
 |ll {n:Nat} {a b:Addr} {xs ys:List V} (e:Nat->Bool):SqL K H a xs->SqL K H b ys->xs.length=ys.length->(∀(i:Nat) x y,xs[i]?=some x->ys[i]?=some y->EqD K H n x y (e i))->EqD K H (n+1) (.ref a) (.ref b) ((List.range xs.length).all e)
 |tt {n:Nat} {a b:Addr} {xs ys:List V} (e:Nat->Bool):SqT K H a xs->SqT K H b ys->(∀(i:Nat) x y,xs[i]?=some x->ys[i]?=some y->EqD K H n x y (e i))->EqD K H (n+1) (.ref a) (.ref b) ((List.range (min xs.length ys.length)).all e&&xs.length==ys.length)
section
variable{X:Cx}{pins:List (Addr×Obj)}{σ:St}{H:Hp}{s:Shared}
theorem Inv.lt_ne(I:Inv X pins σ H s){a b:Addr}{xs ys:List V}(h:SqL X.K H a xs)(h':SqT X.K H b ys):a≠b:=by
 obtain⟨its,r,p1,_⟩:=I.list h
 obtain⟨jts,r',p2,_⟩:=I.tuple h'
 exact SeqAt.ne_of_list_tuple p1.isList p2
theorem EqD.self(I:Inv X pins σ H s){n:Nat}{x y:V}{b:Bool}(h:EqD X.K H n x y b):x=y->b=true:=by
 induction h with
 |pp hx hy=>intro e;subst e;cases hx <;> simp[pEq]
 |lp _ hy=>intro e;subst e;cases hy
 |pl hx _=>intro e;subst e;cases hx
 |tp _ hy=>intro e;subst e;cases hy
 |pt hx _=>intro e;subst e;cases hx
 |lt h1 h2=>intro e;cases e;exact absurd rfl (I.lt_ne h1 h2)
 |tl h1 h2=>intro e;cases e;exact absurd rfl (I.lt_ne h2 h1)
 |ln h1 h2 hl=>intro e;cases e;exact absurd (congrArg List.length (I.list_inj h1 h2)) hl
 |ll e h1 h2 hl _ ih =>
  intro z;cases z
  have:=I.list_inj h1 h2
  subst this
  rw[List.all_eq_true]
  intro i hi
  have hi':=List.mem_range.mp hi
  exact ih i _ _ (List.getElem?_eq_getElem hi') (List.getElem?_eq_getElem hi') rfl
 |tt e h1 h2 _ ih =>
  intro z;cases z
  have:=I.tuple_inj h1 h2
  subst this
  rw[Bool.and_eq_true]
  refine⟨?_,by simp⟩
  rw[List.all_eq_true]
  intro i hi
  have hi':=List.mem_range.mp hi
  rw[Nat.min_self] at hi'
  exact ih i _ _ (List.getElem?_eq_getElem hi') (List.getElem?_eq_getElem hi') rfl
theorem G9{its jts:List Value}{xs ys:List V}(r:Vals xs its)(r':Vals ys jts){A:Around}{e:Nat->Bool}(h:∀(i:Nat) x y,xs[i]?=some x->ys[i]?=some y->∀u w',RelV x u->RelV y w'->SeqAt.EqAt A s u w' (e i)):∀j (h1:j<its.toArray.size) (h2:j<jts.toArray.size),SeqAt.EqAt A s its.toArray[j] jts.toArray[j] (e j):=fun j h1 h2=>by
 have e1:its[j]?=some its.toArray[j]:=by simp at h1;simp[h1]
 have e2:jts[j]?=some jts.toArray[j]:=by simp at h2;simp[h2]
 obtain⟨x,ex,rx⟩:=Ou r e1
 obtain⟨y,ey,ry⟩:=Ou r' e2
 exact h j x y ex ey _ _ rx ry
theorem EqD.eqAt(I:Inv X pins σ H s){n:Nat}{x y:V}{b:Bool}(h:EqD X.K H n x y b):∀(A:Around) (u w':Value),A.units+n<cLine->RelV x u->RelV y w'->SeqAt.EqAt A s u w' b:=by
 induction h with
 |pp hx hy =>
  intro A u w' hu r1 r2
  cases hx <;> cases hy
  ·cases r1;cases r2;exact SeqAt.EqAt.same _
  ·cases r1;cases r2;exact SeqAt.EqAt.none_bool _
  ·cases r1;obtain⟨t2,rfl⟩:=r2;exact SeqAt.EqAt.none_int _ _
  ·cases r1;obtain⟨t2,rfl⟩:=r2;exact SeqAt.EqAt.none_str _ _
  ·cases r1;cases r2;exact SeqAt.EqAt.bool_none _
  ·cases r1;cases r2;exact SeqAt.EqAt.bool_bool _ _
  ·cases r1;obtain⟨t2,rfl⟩:=r2;exact SeqAt.EqAt.bool_int _ _ _
  ·cases r1;obtain⟨t2,rfl⟩:=r2;exact SeqAt.EqAt.bool_str _ _ _
  ·obtain⟨t1,rfl⟩:=r1;cases r2;exact SeqAt.EqAt.int_none _ _
  ·obtain⟨t1,rfl⟩:=r1;cases r2;exact SeqAt.EqAt.int_bool _ _ _
  ·obtain⟨t1,rfl⟩:=r1;obtain⟨t2,rfl⟩:=r2;exact SeqAt.EqAt.int_int _ _ _ _
  ·obtain⟨t1,rfl⟩:=r1;obtain⟨t2,rfl⟩:=r2;exact SeqAt.EqAt.int_str _ _ _ _
  ·obtain⟨t1,rfl⟩:=r1;cases r2;exact SeqAt.EqAt.str_none _ _
  ·obtain⟨t1,rfl⟩:=r1;cases r2;exact SeqAt.EqAt.str_bool _ _ _
  ·obtain⟨t1,rfl⟩:=r1;obtain⟨t2,rfl⟩:=r2;exact SeqAt.EqAt.str_int _ _ _ _
  ·obtain⟨t1,rfl⟩:=r1;obtain⟨t2,rfl⟩:=r2;exact SeqAt.EqAt.str_str _ _ _ _
 |lp hq hy =>
  intro A u w' hu r1 r2
  cases r1
  obtain⟨its,r,p1,_⟩:=I.list hq
  cases hy
  ·cases r2;exact SeqAt.EqAt.list_none p1.isList (by omega)
  ·cases r2;exact SeqAt.EqAt.list_bool _ p1.isList (by omega)
  ·obtain⟨t2,rfl⟩:=r2;exact SeqAt.EqAt.list_int _ _ p1.isList (by omega)
  ·obtain⟨t2,rfl⟩:=r2;exact SeqAt.EqAt.list_str _ _ p1.isList (by omega)
 |pl hx hq =>
  intro A u w' hu r1 r2
  cases r2
  obtain⟨its,r,p1,_⟩:=I.list hq
  cases hx
  ·cases r1;exact SeqAt.EqAt.none_list p1.isList (by omega)
  ·cases r1;exact SeqAt.EqAt.bool_list _ p1.isList (by omega)
  ·obtain⟨t2,rfl⟩:=r1;exact SeqAt.EqAt.int_list _ _ p1.isList (by omega)
  ·obtain⟨t2,rfl⟩:=r1;exact SeqAt.EqAt.str_list _ _ p1.isList (by omega)
 |tp hq hy =>
  intro A u w' hu r1 r2
  cases r1
  obtain⟨its,r,p1,_⟩:=I.tuple hq
  cases hy
  ·cases r2;exact SeqAt.EqAt.tuple_none p1 (by omega)
  ·cases r2;exact SeqAt.EqAt.tuple_bool _ p1 (by omega)
  ·obtain⟨t2,rfl⟩:=r2;exact SeqAt.EqAt.tuple_int _ _ p1 (by omega)
  ·obtain⟨t2,rfl⟩:=r2;exact SeqAt.EqAt.tuple_str _ _ p1 (by omega)
 |pt hx hq =>
  intro A u w' hu r1 r2
  cases r2
  obtain⟨its,r,p1,_⟩:=I.tuple hq
  cases hx
  ·cases r1;exact SeqAt.EqAt.none_tuple p1 (by omega)
  ·cases r1;exact SeqAt.EqAt.bool_tuple _ p1 (by omega)
  ·obtain⟨t2,rfl⟩:=r1;exact SeqAt.EqAt.int_tuple _ _ p1 (by omega)
  ·obtain⟨t2,rfl⟩:=r1;exact SeqAt.EqAt.str_tuple _ _ p1 (by omega)
 |lt h1 h2 =>
  intro A u w' hu r1 r2
  cases r1;cases r2
  obtain⟨its,r,p1,_⟩:=I.list h1
  obtain⟨jts,r',p2,_⟩:=I.tuple h2
  exact SeqAt.EqAt.list_tuple p1.isList p2 (by omega)
 |tl h1 h2 =>
  intro A u w' hu r1 r2
  cases r1;cases r2
  obtain⟨its,r,p1,_⟩:=I.tuple h1
  obtain⟨jts,r',p2,_⟩:=I.list h2
  exact SeqAt.EqAt.tuple_list p1 p2.isList (by omega)
 | @ln n a b xs ys h1 h2 hl =>
  intro A u w' hu r1 r2
  cases r1;cases r2
  obtain⟨its,r,p1,_⟩:=I.list h1
  obtain⟨jts,r',p2,_⟩:=I.list h2
  have l1:=r.length
  have l2:=r'.length
  by_cases e':a=b
  ·exact absurd (congrArg List.length (I.list_inj h1 (e' ▸ h2))) hl
  exact SeqAt.EqAt.of_refs e' (SeqAt.RcAt.lists_lengths p1.isList p2.isList (by simp;omega) (by omega))
 | @ll n a b xs ys e h1 h2 hl hs ih =>
  intro A u w' hu r1 r2
  cases r1;cases r2
  obtain⟨its,r,p1,_⟩:=I.list h1
  obtain⟨jts,r',p2,_⟩:=I.list h2
  have l1:=r.length
  have l2:=r'.length
  have q:=SeqAt.RcAt.lists (A:=A) p1.isList p2.isList (by simp;omega) (by omega) (G9 (e:=e) r r' fun i x y ex ey u w' rx ry=>ih i x y ex ey A.in1 u w' (by show A.units+1+n<cLine;omega) rx ry)
  rw[show its.toArray.size=xs.length by simp;omega] at q
  by_cases e':a=b
  ·have:=EqD.self I (.ll e h1 h2 hl hs) (by rw[e'])
   rw[this,e']
   exact SeqAt.EqAt.same _
  exact SeqAt.EqAt.of_refs e' q
 | @tt n a b xs ys e h1 h2 hs ih =>
  intro A u w' hu r1 r2
  cases r1;cases r2
  obtain⟨its,r,p1,_⟩:=I.tuple h1
  obtain⟨jts,r',p2,_⟩:=I.tuple h2
  have l1:=r.length
  have l2:=r'.length
  have q:=SeqAt.RcAt.tuples (A:=A) (show s.heap.IsTuple a its.toArray from p1) (show s.heap.IsTuple b jts.toArray from p2) (by omega) (G9 (e:=e) r r' fun i x y ex ey u w' rx ry=>ih i x y ex ey A.in1 u w' (by show A.units+1+n<cLine;omega) rx ry)
  rw[show its.toArray.size=xs.length by simp;omega,show jts.toArray.size=ys.length by simp;omega] at q
  by_cases e':a=b
  ·have:=EqD.self I (.tt e h1 h2 hs) (by rw[e'])
   rw[this,e']
   exact SeqAt.EqAt.same _
  exact SeqAt.EqAt.of_refs e' q
theorem EqD.rc(I:Inv X pins σ H s){n:Nat}{x y:V}{b:Bool}(h:EqD X.K H n x y b):∀(A:Around) (u w':Value),A.units+n<cLine->RelV x u->RelV y w'->SeqAt.RcAt A s u w' b:=by
 cases h with
 |pp hx hy =>
  intro A u w' hu r1 r2
  cases hx <;> cases hy
  ·cases r1;cases r2;exact SeqAt.RcAt.none_none
  ·cases r1;cases r2;exact SeqAt.RcAt.none_bool _
  ·cases r1;obtain⟨t2,rfl⟩:=r2;exact SeqAt.RcAt.none_int _ _
  ·cases r1;obtain⟨t2,rfl⟩:=r2;exact SeqAt.RcAt.none_str _ _
  ·cases r1;cases r2;exact SeqAt.RcAt.bool_none _
  ·cases r1;cases r2;exact SeqAt.RcAt.bool_bool _ _
  ·cases r1;obtain⟨t2,rfl⟩:=r2;exact SeqAt.RcAt.bool_int _ _ _
  ·cases r1;obtain⟨t2,rfl⟩:=r2;exact SeqAt.RcAt.bool_str _ _ _
  ·obtain⟨t1,rfl⟩:=r1;cases r2;exact SeqAt.RcAt.int_none _ _
  ·obtain⟨t1,rfl⟩:=r1;cases r2;exact SeqAt.RcAt.int_bool _ _ _
  ·obtain⟨t1,rfl⟩:=r1;obtain⟨t2,rfl⟩:=r2;exact SeqAt.RcAt.int_int _ _ _ _
  ·obtain⟨t1,rfl⟩:=r1;obtain⟨t2,rfl⟩:=r2;exact SeqAt.RcAt.int_str _ _ _ _
  ·obtain⟨t1,rfl⟩:=r1;cases r2;exact SeqAt.RcAt.str_none _ _
  ·obtain⟨t1,rfl⟩:=r1;cases r2;exact SeqAt.RcAt.str_bool _ _ _
  ·obtain⟨t1,rfl⟩:=r1;obtain⟨t2,rfl⟩:=r2;exact SeqAt.RcAt.str_int _ _ _ _
  ·obtain⟨t1,rfl⟩:=r1;obtain⟨t2,rfl⟩:=r2;exact SeqAt.RcAt.str_str _ _ _ _
 |lp hq hy =>
  intro A u w' hu r1 r2
  cases r1
  obtain⟨its,r,p1,_⟩:=I.list hq
  cases hy
  ·cases r2;exact SeqAt.RcAt.list_none p1.isList (by omega)
  ·cases r2;exact SeqAt.RcAt.list_bool _ p1.isList (by omega)
  ·obtain⟨t2,rfl⟩:=r2;exact SeqAt.RcAt.list_int _ _ p1.isList (by omega)
  ·obtain⟨t2,rfl⟩:=r2;exact SeqAt.RcAt.list_str _ _ p1.isList (by omega)
 |pl hx hq =>
  intro A u w' hu r1 r2
  cases r2
  obtain⟨its,r,p1,_⟩:=I.list hq
  cases hx
  ·cases r1;exact SeqAt.RcAt.none_list p1.isList (by omega)
  ·cases r1;exact SeqAt.RcAt.bool_list _ p1.isList (by omega)
  ·obtain⟨t2,rfl⟩:=r1;exact SeqAt.RcAt.int_list _ _ p1.isList (by omega)
  ·obtain⟨t2,rfl⟩:=r1;exact SeqAt.RcAt.str_list _ _ p1.isList (by omega)
 |tp hq hy =>
  intro A u w' hu r1 r2
  cases r1
  obtain⟨its,r,p1,_⟩:=I.tuple hq
  cases hy
  ·cases r2;exact SeqAt.RcAt.tuple_none p1 (by omega)
  ·cases r2;exact SeqAt.RcAt.tuple_bool _ p1 (by omega)
  ·obtain⟨t2,rfl⟩:=r2;exact SeqAt.RcAt.tuple_int _ _ p1 (by omega)
  ·obtain⟨t2,rfl⟩:=r2;exact SeqAt.RcAt.tuple_str _ _ p1 (by omega)
 |pt hx hq =>
  intro A u w' hu r1 r2
  cases r2
  obtain⟨its,r,p1,_⟩:=I.tuple hq
  cases hx
  ·cases r1;exact SeqAt.RcAt.none_tuple p1 (by omega)
  ·cases r1;exact SeqAt.RcAt.bool_tuple _ p1 (by omega)
  ·obtain⟨t2,rfl⟩:=r1;exact SeqAt.RcAt.int_tuple _ _ p1 (by omega)
  ·obtain⟨t2,rfl⟩:=r1;exact SeqAt.RcAt.str_tuple _ _ p1 (by omega)
 |lt h1 h2 =>
  intro A u w' hu r1 r2
  cases r1;cases r2
  obtain⟨its,r,p1,_⟩:=I.list h1
  obtain⟨jts,r',p2,_⟩:=I.tuple h2
  exact SeqAt.RcAt.list_tuple p1.isList p2 (by omega)
 |tl h1 h2 =>
  intro A u w' hu r1 r2
  cases r1;cases r2
  obtain⟨its,r,p1,_⟩:=I.tuple h1
  obtain⟨jts,r',p2,_⟩:=I.list h2
  exact SeqAt.RcAt.tuple_list p1 p2.isList (by omega)
 | @ln n a b xs ys h1 h2 hl =>
  intro A u w' hu r1 r2
  cases r1;cases r2
  obtain⟨its,r,p1,_⟩:=I.list h1
  obtain⟨jts,r',p2,_⟩:=I.list h2
  have l1:=r.length
  have l2:=r'.length
  exact SeqAt.RcAt.lists_lengths p1.isList p2.isList (by simp;omega) (by omega)
 | @ll n a b xs ys e h1 h2 hl hs =>
  intro A u w' hu r1 r2
  cases r1;cases r2
  obtain⟨its,r,p1,_⟩:=I.list h1
  obtain⟨jts,r',p2,_⟩:=I.list h2
  have l1:=r.length
  have l2:=r'.length
  have q:=SeqAt.RcAt.lists (A:=A) p1.isList p2.isList (by simp;omega) (by omega) (G9 (e:=e) r r' fun i x y ex ey u w' rx ry=>(hs i x y ex ey).eqAt I A.in1 u w' (by show A.units+1+n<cLine;omega) rx ry)
  rw[show its.toArray.size=xs.length by simp;omega] at q
  exact q
 | @tt n a b xs ys e h1 h2 hs =>
  intro A u w' hu r1 r2
  cases r1;cases r2
  obtain⟨its,r,p1,_⟩:=I.tuple h1
  obtain⟨jts,r',p2,_⟩:=I.tuple h2
  have l1:=r.length
  have l2:=r'.length
  have q:=SeqAt.RcAt.tuples (A:=A) (show s.heap.IsTuple a its.toArray from p1) (show s.heap.IsTuple b jts.toArray from p2) (by omega) (G9 (e:=e) r r' fun i x y ex ey u w' rx ry=>(hs i x y ex ey).eqAt I A.in1 u w' (by show A.units+1+n<cLine;omega) rx ry)
  rw[show its.toArray.size=xs.length by simp;omega,show jts.toArray.size=ys.length by simp;omega] at q
  exact q
def rEqG(K:PySem.W.Frag)(neg:Bool):R2:=fun x y H Q=>∃n b,n<=60/\EqD K H n x y b/\Q (.bl (Bool.xor neg b)) H
theorem Ry(hu:X.A.units+64<cLine):OpR X (compareOp .Eq) (rEqG X.K false):=by
 intro pins s σ H x y v u Q I rx ry h
 obtain⟨n,b,hn,hd,q⟩:=h
 rw[Bool.false_xor] at q
 exact hd.rc I X.A v u (by omega) rx ry X.prog X.w _ _ ⟨.bl b,H,I,rfl,q⟩
end
end L2
end
section
namespace TL
open PySem PySem.Spec PyProof.Rows L2
def plT:T->Bool
 | .non=>true | .bl _=>true | .int _=>true | .str _=>true|_=>false
def pEqT:T->T->Bool
 | .non,.non=>true
 | .bl a,.bl b=>a==b
 | .int a,.int b=>a==b
 | .str a,.str b=>a==b
 | .bl a,.int b=>(if a then 1 else 0)==b
 | .int a,.bl b=>a==(if b then 1 else 0)
 |_,_=>false
def sqT:T->Option (Bool×List T)
 | .lst ts=>some (true,ts)
 | .fls ts=>some (true,ts)
 | .tup ts=>some (false,ts)
 |_=>none
def teq:Nat->T->T->Bool
 | 0,t,u=>plT t&&plT u&&pEqT t u
 |n+1,t,u=>match sqT t,sqT u with
  |some (k,xs),some (l,ys)=>k==l&&(xs.length==ys.length&&(List.range xs.length).all fun i=>teq n (xs.getD i .non) (ys.getD i .non))
  |_,_=>plT t&&plT u&&pEqT t u
inductive DatQ:Nat->T->Prop where
 |p {n:Nat} {t:T}:plT t=true->DatQ n t
 |s {n:Nat} {t:T} {k:Bool} {ts:List T}:sqT t=some (k,ts)->(∀x∈ts,DatQ n x)->DatQ (n+1) t
section
variable{K:PySem.W.Frag}{S:TH}{H:Hp}
inductive VQ(K:PySem.W.Frag)(S:TH)(H:Hp):V->T->Prop where
 |p {v:V} {t:T}:plT t=true->Rep K S H v t->VQ K S H v t
 |l {a:Addr} {vs:List V} {t:T} {ts:List T}:sqT t=some (true,ts)->SqL K H a vs->Reps K S H vs ts->VQ K S H (.ref a) t
 |t {a:Addr} {vs:List V} {t:T} {ts:List T}:sqT t=some (false,ts)->SqT K H a vs->Reps K S H vs ts->VQ K S H (.ref a) t
theorem DatQ.view{n:Nat}{t:T}{v:V}(h:DatQ n t)(r:Rep K S H v t):VQ K S H v t:=by
 cases h with
 |p h=>exact .p h r
 |s h _ =>
  cases t with
  |lst ts=>obtain⟨a,vs,rfl,f,r⟩:=r.lstE;exact .l rfl f.sq r
  |fls ts=>obtain⟨a,vs,rfl,f,r⟩:=r.flsE;exact .l rfl f.sq r
  |tup ts=>obtain⟨a,vs,rfl,f,r⟩:=r.tupE;exact .t rfl f.sq r
  |_=>cases h
theorem Ce{v:V}{t:T}(h:plT t=true)(r:Rep K S H v t):PlV v:=by
 cases t with
 |non=>cases r;exact .non
 |bl b=>cases r;exact .bl b
 |int i=>cases r;exact .int i
 |str x=>cases r;exact .str x
 |_=>cases h
theorem La{v w:V}{t u:T}(h:plT t=true)(h':plT u=true)(r:Rep K S H v t)(r':Rep K S H w u):pEq v w=pEqT t u:=by
 cases t <;> first|(cases h;done)|skip
 all_goals (cases u <;> first|(cases h';done)|skip)
 all_goals (cases r;cases r';rfl)
theorem Cr{t:T}{k:Bool}{ts:List T}(h:sqT t=some (k,ts)):plT t=false:=by
 cases t <;> first|rfl|cases h
theorem DatQ.kids{n:Nat}{t:T}{k:Bool}{ts:List T}(h:DatQ n t)(e:sqT t=some (k,ts)):∃m,n=m+1/\∀x∈ts,DatQ m x:=by
 cases h with
 |p h=>rw[Cr e] at h;cases h
 | @s n _ _ _ h g=>rw[e] at h;cases h;exact⟨n,rfl,g⟩
theorem Sf:∀{n:Nat} {v w:V} {t u:T},VQ K S H v t->VQ K S H w u->DatQ n t->DatQ n u->EqD K H n v w (teq n t u):=by
 intro n
 induction n with
 |zero =>
  intro v w t u h1 h2 d1 d2
  cases d1 with
  |p p1 =>
   cases d2 with
   |p p2 =>
    cases h1 with
    |p _ r1 =>
     cases h2 with
     |p _ r2 =>
      have q:=EqD.pp (K:=K) (H:=H) (n:=0) (Ce p1 r1) (Ce p2 r2)
      rw[La p1 p2 r1 r2] at q
      unfold teq
      rw[p1,p2]
      exact q
     |l e _ _=>rw[Cr e] at p2;cases p2
     |t e _ _=>rw[Cr e] at p2;cases p2
    |l e _ _=>rw[Cr e] at p1;cases p1
    |t e _ _=>rw[Cr e] at p1;cases p1
 |succ n ih =>
  intro v w t u h1 h2 d1 d2
  have sqn:∀{t:T},plT t=true->sqT t=none:=fun {t} h=>by cases t <;> first|rfl|cases h
  have at':∀{vs:List V} {ts:List T} {i:Nat} {x:V},Reps K S H vs ts->vs[i]?=some x->ts[i]?=some (ts.getD i .non)/\Rep K S H x (ts.getD i .non):=fun {vs ts i x} r e=>by
   have hi:=(List.getElem?_eq_some_iff.mp e).1
   have hl:=r.1
   have e2:ts[i]?=some (ts.getD i .non):=by
    rw[List.getD_eq_getElem?_getD,List.getElem?_eq_getElem (by omega)];rfl
   exact⟨e2,r.2 i x _ e e2⟩
  have in':∀{vs ws:List V} {ts us:List T},Reps K S H vs ts->Reps K S H ws us->(∀x∈ts,DatQ n x)->(∀x∈us,DatQ n x)->∀(i:Nat) x y,vs[i]?=some x->ws[i]?=some y->EqD K H n x y (teq n (ts.getD i .non) (us.getD i .non)):=fun r r' g g' i x y ex ey=>by
   obtain⟨a1,a2⟩:=at' r ex
   obtain⟨b1,b2⟩:=at' r' ey
   have m1:=g _ (List.mem_of_getElem? a1)
   have m2:=g' _ (List.mem_of_getElem? b1)
   exact ih (m1.view a2) (m2.view b2) m1 m2
  unfold teq
  cases h1 with
  |p p1 r1 =>
   rw[sqn p1,p1]
   cases h2 with
   |p p2 r2 =>
    rw[p2]
    have q:=EqD.pp (K:=K) (H:=H) (n:=n+1) (Ce p1 r1) (Ce p2 r2)
    rw[La p1 p2 r1 r2] at q
    exact q
   |l e q _=>rw[Cr e];exact .pl (Ce p1 r1) q
   |t e q _=>rw[Cr e];exact .pt (Ce p1 r1) q
  | @l a vs _ ts e q r =>
   obtain⟨m,em,g⟩:=d1.kids e
   cases em
   rw[e]
   cases h2 with
   |p p2 r2=>rw[sqn p2,Cr e];exact .lp q (Ce p2 r2)
   | @l b ws _ us e' q' r' =>
    obtain⟨m',em',g'⟩:=d2.kids e'
    cases em'
    rw[e']
    have l1:=r.1
    have l2:=r'.1
    by_cases hl:ts.length=us.length
    ·have z:=EqD.ll (K:=K) (H:=H) (fun i=>teq n (ts.getD i .non) (us.getD i .non)) q q' (by omega) (in' r r' g g')
     rw[l1] at z
     simpa [hl] using z
    ·have z:=EqD.ln (K:=K) (H:=H) (n:=n+1) q q' (by omega)
     have hb:(ts.length==us.length)=false:=by simpa using hl
     simpa [hb] using z
   | @t b ws _ us e' q' r'=>rw[e'];exact .lt q q'
  | @t a vs _ ts e q r =>
   obtain⟨m,em,g⟩:=d1.kids e
   cases em
   rw[e]
   cases h2 with
   |p p2 r2=>rw[sqn p2,Cr e];exact .tp q (Ce p2 r2)
   | @l b ws _ us e' q' r'=>rw[e'];exact .tl q q'
   | @t b ws _ us e' q' r' =>
    obtain⟨m',em',g'⟩:=d2.kids e'
    cases em'
    rw[e']
    have l1:=r.1
    have l2:=r'.1
    have z:=EqD.tt (K:=K) (H:=H) (fun i=>teq n (ts.getD i .non) (us.getD i .non)) q q' (in' r r' g g')
    rw[l1,l2] at z
    by_cases hl:ts.length=us.length
    ·simpa [hl] using z
    ·have hb:(ts.length==us.length)=false:=by simpa using hl
     simpa [hb] using z
def cv(S:TH):T->T
 | .ref a=>match S a with
  |some (.lst ts)=>.lst ts
  |_=>.ref a
 |t=>t
theorem Hg{n:Nat}{v:V}{t:T}(g:Good K S H)(r:Rep K S H v t)(d:DatQ n (cv S t)):VQ K S H v (cv S t):=by
 cases t with
 |ref a =>
  cases r
  unfold cv at d ⊢
  dsimp only at d ⊢
  cases hc:S a with
  |none=>rw[hc] at d;cases d with
   |p h=>cases h
   |s h _=>cases h
  |some c =>
   cases c with
   |lst ts =>
    obtain⟨vs,hH,r⟩:=g a _ hc
    exact .l rfl (.inl (.inl hH)) r
   |_=>rw[hc] at d;cases d with
    |p h=>cases h
    |s h _=>cases h
 |_=>exact d.view r
def Tu(neg:Bool):T->T->TH->UX->Prop:=fun x y S P=>∃n,n<=60/\DatQ n (cv S x)/\DatQ n (cv S y)/\P (.bl (Bool.xor neg (teq n (cv S x) (cv S y)))) S
theorem lEqG{neg:Bool}:LOp K (rEqG K neg) (Tu neg):=fun S H v w x y P Q g rx ry ho fin=>by
 obtain⟨n,hn,d1,d2,h⟩:=ho
 exact⟨n,_,hn,Sf (Hg g rx d1) (Hg g ry d2) d1 d2,fin _ _ S H .refl g (.bl _) h⟩
end
inductive DatN:Nat->T->Prop where
 |non {n:Nat}:DatN n .non
 |int {n:Nat} (i:Int):DatN n (.int i)
 |str {n:Nat} (x:Str):DatN n (.str x)
 |lst {n:Nat} {ts:List T}:(∀t∈ts,DatN n t)->DatN (n+1) (.lst ts)
 |tup {n:Nat} {ts:List T}:(∀t∈ts,DatN n t)->DatN (n+1) (.tup ts)
theorem DatQ.mono{n:Nat}{t:T}(h:DatQ n t):∀{m:Nat},n<=m->DatQ m t:=by
 induction h with
 |p h=>intro _ _;exact .p h
 |s e _ ih=>intro m hm;cases m with
  |zero=>omega
  |succ m=>exact .s e fun t ht=>ih t ht (by omega)
theorem T0{n:Nat}{t:T}(h:DatQ n t):teq n t t=true:=by
 induction h with
 | @p n t h =>
  have hp:pEqT t t=true:=by cases t <;> first|(cases h;done)|simp[pEqT]
  have hs:sqT t=none:=by cases t <;> first|rfl|cases h
  cases n with
  |zero=>unfold teq;rw[h,hp];rfl
  |succ n=>unfold teq;rw[hs,h,hp];rfl
 | @s n t k ts e _ ih =>
  unfold teq
  rw[e]
  simp only[beq_self_eq_true,Bool.true_and,List.all_eq_true]
  intro i hi
  have hi':=List.mem_range.mp hi
  have e2:ts[i]?=some (ts.getD i .non):=by rw[List.getD_eq_getElem?_getD,List.getElem?_eq_getElem hi'];rfl
  exact ih _ (List.mem_of_getElem? e2)
section
variable{X:Cx}{a b:Expr}{ta tb:UTE}{pos:Pos}
theorem Lp(hu:X.A.units+64<cLine)(ha:UE X a ta)(hb:UE X b tb):UE X (.Compare a [.Eq] [b] pos) (Bb (Tu false) ta tb):=Hz (Ry hu) lEqG ha hb (Dj _)
end
end TL
end
section
namespace L2
open PySem PySem.Spec PyProof.Rows
def setS:St->List Nat->List V->St
 | σ,i::is,v::vs=>setS (σ.set i (some v)) is vs
 | σ,_,_=>σ
def N5(is:List Nat):TGs:=fun vs σ H Q=>vs.length=is.length/\Q (setS σ is vs) H
section
variable{X:Cx}{pos:Pos}
theorem Id:PGs X [] (N5 []):=fun pins s σ H vs us Q I r ⟨hl,h⟩=>by
 cases vs with
 |nil=>exact Hj pins s σ H [] us Q I r ⟨rfl,h⟩
 |cons=>simp at hl
theorem Wu{i:Nat}{is:List Nat}{e:Expr}{es:List Expr}(h1:PG X e (Jz i))(h2:PGs X es (N5 is))(hs:(assignEach (e::es) X.env).map (·.2)=assign e X.env::(assignEach es X.env).map (·.2):=by rfl):PGs X (e::es) (N5 (i::is)):=fun pins s σ H vs us Q I r ⟨hl,h⟩=>by
 cases vs with
 |nil=>simp at hl
 |cons v vs=>exact Cm h1 h2 hs pins s σ H (v::vs) us Q I r ⟨v,vs,rfl,by simpa using hl,h⟩
def gSeq(K:PySem.W.Frag)(n:Nat)(t:TGs):TG:=fun v σ H Q=>∃a xs,v=.ref a/\(SqT K H a xs\/SqL K H a xs)/\xs.length=n/\t xs σ H Q
theorem Abb{es:List Expr}{k:Nat}{t:TGs}{n:Nat}(hc:X.calm=true)(h:PGs X es t)
  (hn:(assignEach es X.env).length=n:=by rfl) (hst:(assignEach es X.env).findIdx? (·.1)=none:=by rfl):PG X (.Tuple es k pos) (gSeq X.K n t):=by
 intro pins s σ H v u Q I r hw
 obtain⟨a,xs,e1,hq,hl,hw⟩:=hw
 rcases hq with hq|hq
 ·exact Lh hc h hn hst pins s σ H v u Q I r ⟨a,xs,e1,hq,hl,hw⟩
 subst e1
 cases r
 obtain⟨its,rv,ht,hz⟩:=I.list hq
 rw[assign_Tuple]
 refine wpAny_bind (wpAny_standAt ?_)
 unfold unpack
 rw[hst,show (assignEach es X.env).length=its.toArray.size by simp[hn,<-hl,rv.length]]
 refine wpAny_bind (wpAny_holding (PySem.W.kun_itemsOf (I.ok.hd hc) ht.isList fun h' hx=>?_))
 have I1:Inv X pins σ H { s with heap:=h' }:=I.kept (t':=s.toks) fun b o e=>hx b o (Nat.ne_of_lt (Heap.lt_size e)) e
 exact h pins _ σ H xs _ Q I1 (by simpa using rv) hw
end
end L2
end
section
namespace TL
open PySem PySem.Spec PyProof.Rows L2
def setT:Ev->List Nat->List T->Ev
 |env,i::is,t::ts=>setT (env.set i (some t)) is ts
 |env,_,_=>env
theorem Pf{K:PySem.W.Frag}{S:TH}{H:Hp}:∀{is:List Nat} {vs:List V} {ts:List T} {σ:L2.St} {env:Ev},REnv K S H σ env->Reps K S H vs ts->REnv K S H (setS σ is vs) (setT env is ts)
 |[],_,_,_,_,re,_=>re
 |_::_,[],[],_,_,re,_=>re
 |_::_,[],_::_,_,_,_,r=>absurd r.1 (by simp)
 |_::_,_::_,[],_,_,_,r=>absurd r.1 (by simp)
 |i::is,v::vs,t::ts,σ,env,re,r=>Pf (is:=is) (re.set r.head) r.tail
section
variable{X:Cx}{a b e:Expr}{pos p:Pos}{te:UTE}{tr:UTA}{gg:UTG}
def uAsg(te:UTE)(gg:UTG):UTS:=fun E env S=>te env S fun x S1=>gg x env S1 E.nx
theorem M7{tg:Expr}(he:UE X e te)(hg:UG X tg gg)(hs:swapsWithSole [tg] e pos.line X.env=pure false:=by rfl)(hw:swappedStores [tg] e X.env=pure none:=by rfl)(h1:(assignEach [tg] X.env).map (·.2)=[assign tg X.env]:=by rfl):US X (.Assign [tg] e pos) (uAsg te gg) :=
 PS.imp (Sb he hg hs hw h1) fun D σ H ⟨S,env,E,g,re,h,fin⟩ =>
  Za ⟨g,re⟩ h fun v y S1 H1 le1 m1 ry h1=>⟨S1,env,y,_,m1.g,m1.re,ry,h1,fun σ' env' S' H' le' g' re' hp=>fin.nx _ _ S' H' (le1.trans le') g' re' hp⟩
def gMany(is:List Nat):UTG:=fun x env S P=>∃k ts,sqT (cv S x)=some (k,ts)/\ts.length=is.length/\P (setT env is ts) S
theorem K7{is:List Nat}{es:List Expr}{k n:Nat}(hc:X.calm=true)(h:PGs X es (N5 is))(hl:n=is.length:=by rfl)(hn:(assignEach es X.env).length=n:=by rfl)(hst:(assignEach es X.env).findIdx? (·.1)=none:=by rfl):UG X (.Tuple es k pos) (gMany is) :=
 PG.imp (Abb (n:=n) hc h hn hst) fun v σ H Q ⟨S,env,x,P,g,re,rx,h,fin⟩=>by
  obtain⟨k,ts,e,el,hp⟩:=h
  have go:∀{a:Addr} {vs:List V},(SqT X.K H a vs\/SqL X.K H a vs)->Reps X.K S H vs ts->gSeq X.K n (N5 is) (.ref a) σ H Q:=fun {a vs} sq r =>
   ⟨a,vs,rfl,sq,by rw[r.1,el,hl],by rw[r.1,el],fin _ _ S H .refl g (Pf re r) hp⟩
  cases x with
  |lst us=>obtain⟨a,vs,rfl,f,r⟩:=rx.lstE;cases e;exact go (.inr f.sq) r
  |fls us=>obtain⟨a,vs,rfl,f,r⟩:=rx.flsE;cases e;exact go (.inr f.sq) r
  |tup us=>obtain⟨a,vs,rfl,f,r⟩:=rx.tupE;cases e;exact go (.inl f.sq) r
  |ref a =>
   cases rx
   unfold cv at e
   dsimp only at e
   cases hc:S a with
   |none=>rw[hc] at e;cases e
   |some c =>
    rw[hc] at e
    cases c with
    |lst us =>
     cases e
     obtain⟨vs,hH,r⟩:=g a _ hc
     exact go (.inr (.inl (.inl hH))) r
    |_=>cases e
  |_=>cases e
theorem By(i:Nat){is:List Nat}{x:Str}{es:List Expr}(hN:X.N.Nodup)(h2:PGs X es (N5 is))(hi:X.N[i]?=some x:=by rfl)(hx:Loc X.env.scope x:=by first|exact Or.inl rfl|exact Or.inr rfl)(hf:X.fn x=true\/X.env.scope.names.lookup x=some .local:=by first|exact .inl rfl|exact .inr rfl)(hs:(assignEach (.Name x p::es) X.env).map (·.2)=assign (.Name x p) X.env::(assignEach es X.env).map (·.2):=by rfl):PGs X (.Name x p::es) (N5 (i::is)):=Wu (B8 hN hi hx hf) h2 hs
def oMin(xs:List T)(S:TH)(P:UX):Prop:=match xs with
 |[.int i,.int j]=>P (.int (if j<i then j else i)) S
 |_=>False
theorem lMin{K:PySem.W.Frag}:F2 K (fun xs H Q=>∃i j,xs=[.int i,.int j]/\Q (.int (if j<i then j else i)) H) oMin:=fun S H vs xs P Q g r ho fin=>by
 match xs,r,ho with
 |[.int i,.int j],r,ho =>
  match vs,r with
  |[v,w],r =>
   have r1:=r.head
   have r2:=r.tail.head
   cases r1
   cases r2
   exact⟨i,j,rfl,fin _ _ S H .refl g (.int _) ho⟩
  |[],r=>exact absurd r.1 (by simp)
  |[_],r=>exact absurd r.1 (by simp)
  |_::_::_::_,r=>exact absurd r.1 (by simp)
theorem Y2(hc:X.calm=true)(hg:Gl X "min")(hm:X.mg "min"=none)(ha:UA X [a,b] tr)(he:starEach [a,b] X.env=(false,eval a X.env)::starEach [b] X.env:=by rfl)(hpl:(backTo pos (starEach [b] X.env)).any (·.1)=false:=by rfl):UE X (.Call (.Name "min" p) [a,b] [] pos) (Bq oMin tr) :=
 Eh (Q8 hc) lMin hg hm boot_min ha (he:=he) (hpl:=hpl)
def truT(S:TH)(x:T):Option Bool:=match x with
 | .non=>some false
 | .bl b=>some b
 | .int i=>some (i != 0)
 |_=>(sqT (cv S x)).map fun q=>!q.2.isEmpty
def uTru(t:UTE):UTT:=fun env S P=>t env S fun x S1=>∃k,truT S1 x=some k/\P k S1
theorem Tr{t:UTE}(h:UE X e t)(he:∀whole,isTrue e X.env whole=(do let v ← whole;standAt e.pos;holding [v] (truthy v)):=by intro _;rfl):UT X e (uTru t) :=
 PT.imp (Ua h he) fun σ H Q ⟨S,env,P,g,re,h,fin⟩ =>
  Za ⟨g,re⟩ h fun v x S1 H1 le1 m1 rx h1=>by
   obtain⟨k,ek,hp⟩:=h1
   refine⟨k,?_,fin k S1 H1 le1 m1.g hp⟩
   have em:∀{vs:List V} {ts:List T},Reps X.K S1 H1 vs ts->(!ts.isEmpty)=!vs.isEmpty:=fun {vs ts} r=>by
    have:=r.1
    cases vs <;> cases ts <;> simp_all
   cases x with
   |non=>cases rx;cases ek;exact rfl
   |bl b=>cases rx;cases ek;exact rfl
   |int i=>cases rx;cases ek;exact rfl
   |lst us=>obtain⟨a,vs,rfl,f,r⟩:=rx.lstE;cases ek;exact .inl ⟨vs,f.sq,em r⟩
   |fls us=>obtain⟨a,vs,rfl,f,r⟩:=rx.flsE;cases ek;exact .inl ⟨vs,f.sq,em r⟩
   |tup us=>obtain⟨a,vs,rfl,f,r⟩:=rx.tupE;cases ek;exact .inr (.inl ⟨vs,f.sq,em r⟩)
   |ref a =>
    cases rx
    unfold truT cv at ek
    dsimp only at ek
    cases hc:S1 a with
    |none=>rw[hc] at ek;cases ek
    |some c =>
     rw[hc] at ek
     cases c with
     |lst us =>
      cases ek
      obtain⟨vs,hH,r⟩:=m1.g a _ hc
      exact .inl ⟨vs,.inl (.inl hH),em r⟩
     |_=>cases ek
   |_=>cases ek
end
end TL
end
section
namespace L2
open PySem PySem.Spec PyProof.Rows
def ExO(h:Heap)(e:Addr)(cls tb:Value):Prop:=∃vs,h.get? e=some { cls:=cls,data:=.fields vs }/\vs[1]?=some tb
def TbO(h:Heap)(T:Addr)(fl:Value):Prop:=∃oT ts,h.get? T=some oT/\oT.data=.fields ts/\ts[3]?=some fl
structure Nt(fs:List Addr)(e:Addr)(hd:Value)(h h':Heap):Prop where
 keep:∀b o,h.get? b=some o->b≠e->hd≠.ref b->b ∉ fs->h'.get? b=some o
 slot:∀b o,h.get? b=some o->b∈fs->∃sl,h'.get? b=some { o with slots:=sl }
section
variable{M:Model}{A:Around}{E:Value->Shared->Prop}{s:Shared}{base:Heap}{env:Env}{outer:List Env}{L e T:Addr}{cls hd fl:Value}{Q:Unit->Shared->Prop}
theorem Qp{h:Heap}{a:Addr}{vs:Array Value}{c:Value}{i:Nat}{x:Value}(he:h.get? a=some { cls:=c,data:=.fields vs }):(h.update a (Obj.mapFields (·.setIfInBounds i x))).get? a=some { cls:=c,data:=.fields (vs.setIfInBounds i x) } :=
 Heap.get?_update_self (Obj.mapFields (·.setIfInBounds i x)) he rfl
theorem J4{hadNext:Bool}(hfr:A.frames=some (env::outer))(hl:s.heap.FunFrames base (env::outer))(hf:env.frame=some L)(he:ExO s.heap e cls hd)
  (h:∀h' T,(∀b o,s.heap.get? b=some o->b≠e->b ∉ frs (env::outer)->h'.get? b=some o)->(∀b o,s.heap.get? b=some o->b∈frs (env::outer)->∃sl,h'.get? b=some { o with slots:=sl })->ExO h' e cls (.ref T)->s.heap.get? T=none->TbO h' T (rawInt L)->Q () { s with heap:=h' }) :
  wpAny M A (do let a ← frameOf env;let pl ← entryPlaceOf L hadNext;let b ← EntryCells.newEntry hd a .none (rawInt L) .none pl;setField (.ref e) 1 b) Q E s:=by
 obtain⟨vs,e1,e2⟩:=he
 have hsz:1<vs.size:=(Array.getElem?_eq_some_iff.mp e2).1
 have nf:e ∉ frs (env::outer):=fun m=>by
  obtain⟨_,o,ho,hd⟩:=hl.mem m
  rw[e1] at ho;cases ho;exact hd vs rfl
 refine wpAny_bind (wpAny_frameOf_fun hfr hl hf fun h₁ hs₁=>?_)
 refine wpAny_bind (wpAny_entryPlaceOf fun pl hpl=>?_)
 unfold EntryCells.newEntry newFields
 refine wpAny_bind (wpAny_newObj_type ?_ (hpl.sizeOk5 _ _ _ _ _))
 have a1:h₁.get? e=some { cls:=cls,data:=.fields vs }:=(hs₁.2.1 e nf).trans e1
 have a2:=Heap.get?_push_of_some (h:=h₁) { cls:=.type "traceback",dict:=none,data:=.fields ([hd,.ref L,.none,rawInt L,.none]++(if pl.isEmpty then List.replicate 6 Value.none else pl)).toArray } a1
 have ne:h₁.objs.size≠e:=Nat.ne_of_gt (Heap.lt_size a1)
 refine wpAny_setField a2 rfl hsz (h _ h₁.objs.size (fun b o q n1 n2=>?_) (fun b o q m=>?_) ⟨_,Qp a2,by simp[hsz]⟩ ?_ ⟨_,_,(Heap.get?_update_other _ _ (Ne.symm ne)).trans (Heap.get?_push_size h₁ rfl),rfl,by first|(simp;done)|(rcases hpl with rfl|⟨_,_,_,_,_,_,_,rfl⟩ <;> simp)⟩)
 ·rw[Heap.get?_update_other _ _ (Ne.symm n1)]
  exact Heap.get?_push_of_some _ ((hs₁.2.1 b n2).trans q)
 ·obtain⟨sl,q1⟩:=hs₁.2.2 b o q
  have n1:b≠e:=fun z=>nf (z ▸ m)
  exact⟨sl,by rw[Heap.get?_update_other _ _ (Ne.symm n1)];exact Heap.get?_push_of_some _ q1⟩
 ·cases q:s.heap.get? h₁.objs.size with
  |none=>rfl
  |some o =>
   obtain⟨sl,q1⟩:=hs₁.2.2 _ o q
   exact absurd (Heap.lt_size q1) (Nat.lt_irrefl _)
theorem Mh(hfr:A.frames=some (env::outer))(hl:s.heap.FunFrames base (env::outer))(hf:env.frame=some L)(he:ExO s.heap e cls hd)(ht:hd=.none\/∃T,hd=.ref T/\T≠e/\TbO s.heap T .none)
  (h:∀h' T,Nt (frs (env::outer)) e hd s.heap h'->ExO h' e cls (.ref T)->s.heap.get? T=none->TbO h' T (rawInt L)->Q () { s with heap:=h' }):wpAny M A (noteFrame (.ref e) env) Q E s:=by
 obtain⟨vs,e1,e2⟩:=id he
 unfold noteFrame
 simp only[hf]
 refine wpAny_bind (wpAny_field e1 rfl e2 ?_)
 rcases ht with rfl|⟨T,rfl,ne,oT,ts,t1,t2,t3⟩
 ·rw[if_neg (by decide)]
  exact J4 hfr hl hf he fun h' T k1 k2 x n t=>h h' T ⟨fun b o q n1 _ n2=>k1 b o q n1 n2,k2⟩ x n t
 ·rw[if_pos (show (Value.ref T != Value.none)=true from by simp)]
  refine wpAny_bind (wpAny_field t1 t2 t3 ?_)
  rw[if_neg (show ¬ ((Value.none==rawInt L)=true) from by simp[rawInt])]
  refine wpAny_bind (wpAny_setField t1 t2 (Array.getElem?_eq_some_iff.mp t3).1 ?_)
  have other:∀b,b≠T->(s.heap.update T (Obj.mapFields (·.setIfInBounds 3 Value.none))).get? b=s.heap.get? b:=fun b hb=>Heap.get?_update_other _ _ (Ne.symm hb)
  have nT:T ∉ frs (env::outer):=fun m=>by
   obtain⟨_,o,ho,hd⟩:=hl.mem m
   rw[t1] at ho;cases ho;exact hd ts t2
  refine J4 (s:={ s with heap:=s.heap.update T (Obj.mapFields (·.setIfInBounds 3 Value.none)) }) hfr (hl.of_keeps fun b o hb hnf=>⟨o,(other b fun z=>by rw[z,t1] at hb;cases hb;exact hnf ts t2).trans hb,rfl⟩) hf ⟨vs,(other e (Ne.symm ne)).trans e1,e2⟩ fun h' T' k1 k2 x n t=>h h' T' ⟨fun b o q n1 n3 n2=>?_,fun b o q m=>?_⟩ x ?_ t
  ·have nb:b≠T:=fun z=>n3 (by rw[z])
   exact k1 b o ((other b nb).trans q) n1 n2
  ·have nb:b≠T:=fun z=>nT (z ▸ m)
   exact k2 b o ((other b nb).trans q) m
  ·by_cases z:T'=T
   ·exact absurd n (by
     rw[z,Heap.get?_update_self _ t1 (Obj.isFreed_of_fields (Obj.data_mapFields t2 _))]
     exact fun y=>nomatch y)
   ·rw[<-other T' z];exact n
theorem Hs(he:ExO s.heap e cls (.ref T))(ne:T≠e)(ht:TbO s.heap T fl)
  (h:∀h',(∀b o,s.heap.get? b=some o->b≠T->h'.get? b=some o)->ExO h' e cls (.ref T)->TbO h' T .none->Q () { s with heap:=h' }):wpAny M A (setFlight (.ref e) none) Q E s:=by
 obtain⟨vs,e1,e2⟩:=he
 obtain⟨oT,ts,t1,t2,t3⟩:=ht
 have hsz3:3<ts.size:=(Array.getElem?_eq_some_iff.mp t3).1
 have other:∀b,b≠T->(s.heap.update T (Obj.mapFields (·.setIfInBounds 3 Value.none))).get? b=s.heap.get? b:=fun b hb=>Heap.get?_update_other _ _ (Ne.symm hb)
 unfold setFlight
 refine wpAny_bind (wpAny_field e1 rfl e2 ?_)
 rw[if_pos (show (Value.ref T != Value.none)=true from by simp)]
 exact wpAny_setField t1 t2 hsz3 (h _ (fun b o q n=>(other b n).trans q) ⟨vs,(other e (Ne.symm ne)).trans e1,e2⟩ ⟨_,_,Heap.get?_update_self _ t1 (Obj.isFreed_of_fields (Obj.data_mapFields t2 _)),Obj.data_mapFields t2 _,by simp[hsz3]⟩)
theorem Ju(hfr:A.frames=some (env::outer))(hl:s.heap.FunFrames base (env::outer))(hf:env.frame=some L)(he:ExO s.heap e cls hd)(ht:hd=.none\/∃T,hd=.ref T/\T≠e/\TbO s.heap T .none)
  (h:∀h' T,Nt (frs (env::outer)) e hd s.heap h'->ExO h' e cls (.ref T)->s.heap.get? T=none->TbO h' T .none->Q () { s with heap:=h' }):wpAny M A (leaving env (.ref e)) Q E s:=by
 unfold leaving
 refine wpAny_bind (Mh hfr hl hf he ht fun h' T k x n t=>?_)
 have ne:T≠e:=fun z=>by
  obtain⟨_,e1,_⟩:=he
  rw[z,e1] at n;cases n
 refine Hs (s:={ s with heap:=h' }) x ne t fun h'' k' x' t'=>h h'' T ⟨fun b o q n1 n2 n3=>k' b o (k.keep b o q n1 n2 n3) fun z=>?_,fun b o q m=>?_⟩ x' n t'
 ·rw[z,n] at q;cases q
 ·obtain⟨sl,q1⟩:=k.slot b o q m
  exact⟨sl,k' b _ q1 fun z=>by rw[z,n] at q;cases q⟩
end
end L2
end
section
namespace L2
open PySem PySem.Spec PyProof.Rows
theorem ObjOk.got{P:Program}{w:World}{H:Hp}{h:Heap}{a:Addr}{o:HO}(x:ObjOk P w H h a o):∃u,h.get? a=some u:=by
 cases o with
 |lst xs=>obtain⟨_,_,_,_,e⟩:=x;exact⟨_,e⟩
 |tup xs=>obtain⟨_,_,_,o,e,_⟩:=x;exact⟨_,e⟩
 |dK kvs=>obtain⟨_,_,_,_,o,_,_,e,_⟩:=x;exact⟨_,e⟩
 |dT kvs=>obtain⟨_,_,_,_,o,_,_,e,_⟩:=x;exact⟨_,e⟩
 |set S n=>obtain⟨o,_,_,_,e,_⟩:=x;exact⟨_,e⟩
 |ins C dx fs=>obtain⟨_,_,_,e,_⟩:=x;exact⟨_,e⟩
 |own y=>obtain⟨_,e⟩:=x;exact⟨_,e⟩
 |xd fs=>obtain⟨_,⟨_,_,_,e,_⟩,_⟩:=x;exact⟨_,e⟩
 |rng lo hi=>obtain⟨_,_,_,e⟩:=x;exact⟨_,e⟩
 |frz ob u=>obtain⟨e,_⟩:=x;exact⟨_,e⟩
 |tbl ps=>exact⟨_,show h.get? a=some _ from x⟩
 |met f y=>exact⟨_,show h.get? a=some _ from x⟩
 |ext φ=>obtain⟨_,⟨_,e⟩,_⟩:=x;exact⟨_,e⟩
theorem HOk.none_of{P:Program}{w:World}{H:Hp}{h:Heap}{a:Addr}(x:HOk P w H h)(e:h.get? a=none):H a=none:=by
 cases q:H a with
 |none=>rfl
 |some o=>obtain⟨u,hu⟩:=(x a o q).got;rw[e] at hu;cases hu
def Trc(h0:Heap)(H:Hp)(h:Heap)(e:Addr)(cls:Value):Prop:=∃T,ExO h e cls (.ref T)/\T≠e/\TbO h T .none/\h0.get? T=none/\H T=none
def Frs(h:Heap)(e:Addr)(cls:Value):Prop:=ExO h e cls .none
def CXE(P:Program)(w:World):CXT:=fun outer H s E e s'=>∃a cls H',e=.ref a/\s'.os=s.os/\AllBare s'.gens/\Un (frs outer) [] H H' s.heap s'.heap/\HOk P w H' s'.heap/\s.heap.get? a=none/\H' a=none/\Trc s.heap H' s'.heap a cls/\E cls none H'
section
variable{X:Cx}{pins:List (Addr×Obj)}{σ:St}{H H':Hp}{s:Shared}{a:Addr}{cls:Value}
theorem Wf(I:Inv X pins σ H s){hid:List Addr}{h':Heap}(k1:∀b o,s.heap.get? b=some o->b ∉ hid->b ∉ frs X.stack->h'.get? b=some o)(k2:∀b o,s.heap.get? b=some o->b∈frs X.stack->∃sl,h'.get? b=some { o with slots:=sl })
  (hx:X.ex=[]) (hh:∀b∈hid,X.s₀.heap.get? b=none/\H b=none):Un X.fs [] X.H₀ H X.s₀.heap h'/\HOk X.prog X.w H h':=by
 have ub:=I.base
 rw[hx] at ub
 have nh:∀b o,X.s₀.heap.get? b=some o->b ∉ hid:=fun b o e m=>by rw[(hh b m).1] at e;cases e
 have nl:∀b o,X.s₀.heap.get? b=some o->b≠X.env.locals:=fun b o e z=>absurd (Heap.lt_size e) (by rw[z];exact Nat.not_lt.mpr I.ok.above)
 have ns:∀b o,X.s₀.heap.get? b=some o->b ∉ X.fs->b ∉ frs X.stack:=fun b o e n m=>(List.mem_cons.mp (I.stkSub b m)).elim (nl b o e) n
 have any:∀b o,s.heap.get? b=some o->b ∉ hid->∃sl,h'.get? b=some { o with slots:=sl }:=fun b o e n=>by
  by_cases m:b∈frs X.stack
  ·exact k2 b o e m
  ·exact⟨o.slots,k1 b o e n m⟩
 refine⟨⟨fun b o e n f x=>k1 b o (ub.keep b o e n f x) (nh b o e) (ns b o e f),fun b o e n f x=>?_,ub.free,fun b o e x=>?_,ub.tups,ub.frzs,ub.tbls⟩,fun b u e=>?_⟩
 ·obtain⟨sl,h1⟩:=ub.slot b o e n f x
  obtain⟨sl',h2⟩:=any b _ h1 (nh b o e)
  exact⟨sl',h2⟩
 ·obtain⟨o',h1⟩:=ub.there b o e x
  obtain⟨sl',h2⟩:=any b _ h1 (nh b o e)
  exact⟨_,h2⟩
 ·have tr:∀c u,H c=some u->c ∉ hid/\c ∉ frs X.stack:=fun c u q=>⟨fun m=>(by rw[(hh c m).2] at q;cases q),fun m=>(by rw[I.stkFree c m] at q;cases q)⟩
  refine(I.hok b u e).stay (fun c v hc q=>?_) (fun _ q=>q) fun _ _ q=>q
  rcases hc with rfl|hc
  ·exact k1 c v q (tr c u e).1 (tr c u e).2
  ·exact k1 c v q (tr c _ hc).1 (tr c _ hc).2
theorem Ms(I:Inv X pins σ H s){E:XK}{EE:Value->Shared->Prop}(hst:X.stack=X.env::X.outer)(hf:X.env.frame=some X.env.locals)(hx:X.ex=[])
  (h0:X.s₀.heap.get? a=none) (hH:H a=none) (hn:a ∉ frs X.stack) (st:Frs s.heap a cls\/Trc X.s₀.heap H s.heap a cls) (hE:E cls none H) :
  wpAny (model X.prog X.w) X.A (leaving X.env (.ref a)) (fun _ s''=>CXE X.prog X.w X.outer X.H₀ X.s₀ E (.ref a) s'') EE s:=by
 have hfr:X.A.frames=some (X.env::X.outer):=by rw[<-hst];exact I.ok.frames
 have hl:=I.stack
 rw[hst] at hl
 have fin:∀(hid:List Addr) (hd:Value) (h':Heap) (T:Addr),(∀b,b=a\/hd=.ref b->b∈hid)->(∀b∈hid,X.s₀.heap.get? b=none/\H b=none)->Nt (frs (X.env::X.outer)) a hd s.heap h'->ExO h' a cls (.ref T)->s.heap.get? T=none->TbO h' T .none →
   s.heap.get? a≠none->CXE X.prog X.w X.outer X.H₀ X.s₀ E (.ref a) { s with heap:=h' }:=fun hid hd h' T hi hh k x n t na=>by
  have k1:∀b o,s.heap.get? b=some o->b ∉ hid->b ∉ frs X.stack->h'.get? b=some o:=fun b o q n1 n2=>k.keep b o q (fun z=>n1 (hi b (.inl z))) (fun z=>n1 (hi b (.inr z))) (by rw[<-hst];exact n2)
  have k2:∀b o,s.heap.get? b=some o->b∈frs X.stack->∃sl,h'.get? b=some { o with slots:=sl }:=fun b o q m=>k.slot b o q (by rw[<-hst];exact m)
  obtain⟨un,hok⟩:=Wf I k1 k2 hx hh
  refine⟨a,cls,H,rfl,I.os,I.bare,un,hok,h0,hH,⟨T,x,fun z=>na (z ▸ n),t,?_,I.hok.none_of n⟩,hE⟩
  cases q0:X.s₀.heap.get? T with
  |none=>rfl
  |some o =>
   obtain⟨o',h1⟩:=I.base.there T o q0 (by rw[hx];simp)
   rw[n] at h1;cases h1
 rcases st with fr|⟨T,x,ne,t,t0,tH⟩
 ·refine Ju hfr hl hf fr (.inl rfl) fun h' T k x n t=>fin [a] .none h' T (fun b z=>?_) (fun b m=>?_) k x n t ?_
  ·rcases z with rfl|z
   ·simp
   ·cases z
  ·have:b=a:=by simpa using m
   subst this;exact⟨h0,hH⟩
  ·obtain⟨_,e1,_⟩:=fr
   rw[e1];exact fun z=>nomatch z
 ·refine Ju hfr hl hf x (.inr ⟨T,rfl,ne,t⟩) fun h' T' k x' n t'=>fin [a,T] (.ref T) h' T' (fun b z=>?_) (fun b m=>?_) k x' n t' ?_
  ·rcases z with rfl|z
   ·simp
   ·cases z;simp
  ·rcases List.mem_cons.mp m with rfl|m
   ·exact⟨h0,hH⟩
   ·have:b=T:=by simpa using m
    subst this;exact⟨t0,tH⟩
  ·obtain⟨_,e1,_⟩:=x
   rw[e1];exact fun z=>nomatch z
theorem Qu(I:Inv X pins σ H s){E:XK}{e:Value}{s':Shared}(hx:X.ex=[])(h:CXE X.prog X.w X.stack H s E e s'):
  ∃a cls H',e=.ref a/\Inv X pins σ H' s'/\s.heap.get? a=none/\X.s₀.heap.get? a=none/\H' a=none/\a ∉ frs X.stack/\Trc s.heap H' s'.heap a cls/\Trc X.s₀.heap H' s'.heap a cls/\E cls none H':=by
 obtain⟨a,cls,H',rfl,os,bare,un,hok,ha,hHa,tr,hE⟩:=h
 have up:∀b,s.heap.get? b=none->X.s₀.heap.get? b=none:=fun b q=>by
  cases q0:X.s₀.heap.get? b with
  |none=>rfl
  |some o =>
   obtain⟨o',h1⟩:=I.base.there b o q0 (by rw[hx];simp)
   rw[q] at h1;cases h1
 refine⟨a,cls,H',rfl,I.call' os un hok bare (fun b m=>absurd m (by simp)),ha,up a ha,hHa,fun m=>?_,tr,?_,hE⟩
 ·obtain⟨_,o,ho,_⟩:=I.stack.mem m
  rw[ha] at ho;cases ho
 ·obtain⟨T,x,ne,t,t0,tH⟩:=tr
  exact⟨T,x,ne,t,up T t0,tH⟩
end
theorem Ru{P:Program}{w:World}{K:PySem.W.Frag}{mg:Str->Option Value}{base:Heap}{N:List Str}{qual:Str}{scope:Scope}{f:Addr}{cd:Value}{A:Around}{outer:List Env}{s:Shared}{H:Hp}{E E1:XK}(hE:∀c d H',E1 c d H'->E c d H'):
  Gn (CXE P w) (cxOf (CXE P w) P w K mg base N qual scope f cd A outer s H E) E1:=fun pins σ H1 s1 e s' I h=>by
 obtain⟨a,cls,H',rfl,I',_,h0,hHa,hn,_,tr,hq⟩:=Qu I rfl h
 exact Ms I' rfl rfl rfl h0 hHa hn (.inr tr) (hE _ _ _ hq)
theorem Fun.okE{P:Program}{w:World}{K:PySem.W.Frag}{mg:Str->Option Value}{base:Heap}{x qual:Str}{st:Stmt}{f:Addr}{fd:FuncData}{N ps:List Str}{k:Nat}{sp:Sp}(F:Fun K x qual st f fd)(S:Zv N ps (Zb st))(len:∀vs H Q E,sp vs H Q E->vs.length=ps.length)
  (hbody:∀(cdv:Value) (A:Around) (outer:List Env) (s:Shared) (H:Hp) (vs:List V) (Q:VK) (E:XK),Room k (A.deeper (envOfC qual (Zb st) s.heap.objs.size f cdv))->sp vs H Q E →
   ∃t,PSs (cxOf (CXE P w) P w K mg base N qual (Zb st) f cdv A outer s H E) (defBody st) t/\t { nx:=fun _ H'=>Q .non H',rt:=Q } (D2 N vs) H):FnOk P w K mg base (CXE P w) (k+1) f fd ps sp:=by
 obtain⟨oc,od,kV,doc,pm,an,cdv,ct,osl,rfl,lk,hcd⟩:=F.ex
 exact X2 lk hcd S len fun A outer s H vs Q E hr hsp=>hbody cdv A outer s H vs Q E hr hsp
end L2
end
section
namespace L2
open PySem PySem.Spec PyProof.Rows
def N6(X:Cx)(E:XK):Prop:=∀(pins:List (Addr×Obj)) (σ:St) (H:Hp) (s:Shared) (a:Addr) (cls:Value),Inv X pins σ H s->X.s₀.heap.get? a=none->H a=none->a ∉ frs X.stack->Frs s.heap a cls->E cls none H->X.xe (.ref a) s
theorem C9{P:Program}{w:World}{K:PySem.W.Frag}{mg:Str->Option Value}{base:Heap}{N:List Str}{qual:Str}{scope:Scope}{f:Addr}{cd:Value}{A:Around}{outer:List Env}{s:Shared}{H:Hp}{E E1:XK}(hE:∀c d H',E1 c d H'->E c d H'):
  N6 (cxOf (CXE P w) P w K mg base N qual scope f cd A outer s H E) E1:=fun pins σ H s a cls I h0 hH hn fr h=>Ms I rfl rfl rfl h0 hH hn (.inl fr) (hE _ _ _ h)
def Y8(C:Addr)(t:TA)(E:XK):TS:=fun _ σ H=>t σ H fun vs H1=>vs.length<=sizeLine/\E (.ref C) none H1
theorem V2{K:PySem.W.Frag}{h:Heap}{C:Addr}{bmB:List Value}{newId:String}{x:Str}{mg:Str->Option Value}(X:K.In h)(hm:mg x=some (.ref C))(q:PySem.W.excIn K C bmB newId=true):OwnCls x C bmB newId mg h:=by
 refine⟨hm,?_⟩
 unfold PySem.W.excIn at q
 split at q
 ·rename_i dd cd sl ho
  split at q
  ·rename_i C' bm k0 k1 k2 k3 n k5 hm hs
   simp only[Bool.and_eq_true,beq_iff_eq,Bool.not_eq_true'] at q
   obtain⟨⟨⟨⟨⟨rfl,rfl⟩,hdel⟩,ht⟩,hok⟩,hni⟩:=q
   obtain⟨nm,bs,mro,ns,qn,hd,sn,sub,ab,col,del⟩:=cd
   dsimp only at hm hdel hok hni
   subst hm hdel
   have hsl:sl=#[k0,k1,k2,k3,some (.builtin n),k5]:=by
    obtain⟨l⟩:=sl
    simp only at hs
    rw[hs]
   subst hsl
   exact⟨bm,ns,nm,qn,bs,hd,sn,sub,ab,col,dd,k0,k1,k2,k3,k5,_,X _ _ ho,.of_isNs (PySem.W.isNs_of_in X hok),PySem.W.nsMap_none_of_in X hok hni,PySem.W.tail_of_in X ht⟩
  ·cases q
 ·cases q
section
variable{X:Cx}{x:Str}{C:Addr}{e:Expr}{es:List Expr}{t:TA}{np cpos pos:Pos}{E:XK}{B Bn newId nid initId inN:String}{bmB bmN:List Value}
theorem Sv(hc:X.calm=true)(hex:X.ex=[])(hx:N6 X E)(hg:Gl X x)(hm:X.mg x=some (.ref C))(q:PySem.W.excIn X.K C bmB newId=true)(Fn:ExcBaseFacts Bn newId inN bmN)(hBn:bmB.contains (.type Bn)=true)(FB:ExcBaseFacts B nid initId bmB)
  (ha:PA X (e::es) t) (hdb:(x==("__debug__":Str))=false:=by decide) (he:starEach (e::es) X.env=(false,eval e X.env)::starEach es X.env:=by rfl) (hpl:(backTo cpos (starEach es X.env)).any (·.1)=false:=by rfl) :
  PS X (.Raise (some (.Call (.Name x np) (e::es) [] cpos)) none pos) (Y8 C t E):=by
 intro pins s σ H D I h
 obtain⟨tl,N,nm,q',bs,hdct,sn,sub,ab,col,dd,k0,k1,k2,k3,k5,mN,hC,hN,hni,T⟩:=(V2 (x:=x) (mg:=X.mg) I.ok.mod.kin hm q).obj
 refine wpAny_Raise_call_subU (C:=C) (nm:=nm) (q:=q') (N:=N) (bs:=bs) (bm:=tl) (hdct:=hdct) (sn:=sn) (sub:=sub) (ab:=ab) (col:=col) (dd:=dd) (k0:=k0) (k1:=k1) (k2:=k2) (k3:=k3) (k5:=k5)
  Fn hBn FB (mN:=mN) (T.hasType FB.hasBase) (I.ok.hd hc) (by rw[he];show (false || (backTo cpos (starEach es X.env)).any (·.1))=false;rw[hpl];rfl) hni (Es I hg hm ⟨rfl,?_⟩ hdb)
 have h1:=ha cpos pins s σ H _ I h
 rw[he] at h1 ⊢
 refine Calls.evalArgs_plain (wpAny_mono h1 (fun us s₂ h₂=>?_) fun _ _ y=>y)
 obtain⟨vs,H1,I1,r,hz,hE⟩:=h₂
 refine⟨rfl,by rw[<-r.length];exact hz,I1.bk _ _ hC,hN.keeps I1.bk,T.keeps I1.bk,fun h' a mk=>?_⟩
 obtain⟨t',e1,_,_⟩:=mk.there
 refine hx pins σ H1 _ a (.ref C) (I1.kept (t':=s₂.toks) mk.keeps) ?_ (I1.hok.none_of mk.new) (fun m=>?_) ⟨_,e1,rfl⟩ hE
 ·cases q0:X.s₀.heap.get? a with
  |none=>rfl
  |some o =>
   obtain⟨o',h1⟩:=I1.base.there a o q0 (by rw[hex];simp)
   rw[mk.new] at h1;cases h1
 ·obtain⟨_,o,ho,_⟩:=I1.stack.mem m
  rw[mk.new] at ho;cases ho
end
end L2
end
section
namespace TL
open PySem PySem.Spec PyProof.Rows L2
abbrev UR:=Value->TH->Prop
def lfX(K:PySem.W.Frag)(S0:TH)(H0:Hp)(t:UTE):TE:=fun σ H Q=>∃S env P,Le S0 H0 S H/\Good K S H/\REnv K S H σ env/\t env S P/\Fin K S H P Q
def lfSX(K:PySem.W.Frag)(S0:TH)(H0:Hp)(t:UTS):TS:=fun D σ H=>∃S env E,Le S0 H0 S H/\Good K S H/\REnv K S H σ env/\t E env S/\FinS K S H E D
def UEX(X:Cx)(S0:TH)(H0:Hp)(e:Expr)(t:UTE):Prop:=PE X e (lfX X.K S0 H0 t)
def UV(X:Cx)(S0:TH)(H0:Hp)(st:Stmt)(t:UTS):Prop:=PS X st (lfSX X.K S0 H0 t)
def UVs(X:Cx)(S0:TH)(H0:Hp)(st:List Stmt)(t:UTS):Prop:=PSs X st (lfSX X.K S0 H0 t)
def XW(K:PySem.W.Frag)(S0:TH)(H0:Hp)(R:UR)(E:XK):Prop:=∀c S' H',Le S0 H0 S' H'->Good K S' H'->R c S'->E c none H'
def spE(K:PySem.W.Frag)(t:List T->TH->UX->UR->Prop):Sp:=fun vs H Q E=>∃S ts P R,Good K S H/\Reps K S H vs ts/\t ts S P R/\Fin K S H P Q/\XW K S H R E
section
variable{X:Cx}{S0:TH}{H0:Hp}{e c:Expr}{es:List Expr}{st:Stmt}{sts aa bb body:List Stmt}{te:UTE}{t u:UTS}{tA:UTT}{tr:UTA}{pos p:Pos}{E:XK}{R:UR}
theorem US.x(h:US X st t):UV X S0 H0 st t:=PS.imp h fun _ _ _ ⟨S,env,E,_,g,re,h,fin⟩=>⟨S,env,E,g,re,h,fin⟩
theorem Dh:UVs X S0 H0 [] D1:=PSs.imp Pm fun D σ H ⟨S,env,E,_,g,re,h,fin⟩=>fin.nx σ env S H .refl g re h
theorem Cc(h1:UV X S0 H0 st t)(h2:UVs X S0 H0 sts u):UVs X S0 H0 (st::sts) (Cd t u):=PSs.imp (Mv h1 h2) fun D σ H ⟨S,env,E,l0,g,re,h,fin⟩ =>
 ⟨S,env,_,l0,g,re,h,⟨fun σ' env' S' H' le g' re' hn=>⟨S',env',E,l0.trans le,g',re',hn,fin.le le⟩,fin.rt,fin.bk,fin.ct⟩⟩
theorem Bj(h1:UV X S0 H0 st t):UVs X S0 H0 [st] t:=PSs.imp (O5 h1) fun _ _ _ h=>h
theorem Ui{K:PySem.W.Frag}{σ:L2.St}{H:Hp}{S:TH}{env:Ev}{k:T->TH->Prop}{Q:VK}(l0:Le S0 H0 S H)(m:Mid K σ H S env)(h:te env S k)
  (q:∀v r S1 H1,Le S H S1 H1->Mid K σ H1 S1 env->Rep K S1 H1 v r->k r S1->Q v H1):lfX K S0 H0 te σ H Q :=
 ⟨S,env,k,l0,m.g,m.re,h,fun v r S1 H1 le g1 rp hk=>q v r S1 H1 le ⟨g1,m.re.mono le⟩ rp hk⟩
theorem K5(he:UEX X S0 H0 e te)(hs:swapsWith e none pos.line X.env=pure false:=by rfl):UV X S0 H0 (.Expr e pos) (D3 te):=PS.imp (Op he hs) fun D σ H ⟨S,env,E,l0,g,re,h,fin⟩ =>
 Ui l0 ⟨g,re⟩ h fun v x S1 H1 le1 m1 rx h1=>fin.nx σ env S1 H1 le1 m1.g m1.re h1
theorem Gw(hc:UT X c tA)(ha:UVs X S0 H0 aa t)(hb:UVs X S0 H0 bb u):UV X S0 H0 (.If c aa bb pos) (uIf tA t u):=PS.imp (X3 hc ha hb) fun D σ H ⟨S,env,E,l0,g,re,h,fin⟩ =>
 Dn ⟨g,re⟩ h fun k S1 H1 le1 m1 hk=>by
  cases k with
  |true=>rw[if_pos rfl];exact⟨S1,env,E,l0.trans le1,m1.g,m1.re,hk.1 rfl,fin.le le1⟩
  |false=>rw[if_neg Bool.false_ne_true];exact⟨S1,env,E,l0.trans le1,m1.g,m1.re,hk.2 rfl,fin.le le1⟩
theorem M6{tg iter:Expr}{ti:UTA}{gg:UTG}(hp:PassesOwn (model X.prog X.w) X.A X.env X.xe)(hc:X.calm=true)(hi:UI X tg iter ti)(hg:UG X tg gg)(hb:UVs X S0 H0 body t)(hs:∀x,foldedSetIterable iter X.env x=pure x:=by intro _;rfl):
  UV X S0 H0 (.For tg iter body [] pos) (uFor ti gg t):=PS.imp (Rl hp hc hi hg hb hs) fun D σ H h=>by
 obtain⟨S,env,E,l0,g,re,h,fin⟩:=h
 refine⟨S,env,_,g,re,h,fun ts J S1 H1 le1 g1 hq yl=>?_⟩
 obtain⟨Iv,i0,step,done⟩:=hq
 refine⟨fun i m σ' H'=>m=ts.length - i/\i<=ts.length/\∃S' env',Le S1 H1 S' H'/\Good X.K S' H'/\REnv X.K S' H' σ' env'/\Iv i env' S',⟨ts.length,rfl,Nat.zero_le _,S1,env,.refl,g1,re.mono le1,i0⟩,?_⟩
 rintro i m σ' H' ⟨rfl,hi,S',env',le',g',re',iv⟩
 by_cases hlt:i<ts.length
 ·refine .inr ⟨yl.go i S' H' le' g' hlt,fun σ2 H2=>∃S2 env2,Le S1 H1 S2 H2/\Good X.K S2 H2/\REnv X.K S2 H2 σ2 env2/\Iv (i+1) env2 S2,fun σ2 H2 z=>?_,fun x H2 y=>?_⟩
  ·exact⟨ts.length - (i+1),by omega,rfl,hlt,z⟩
  ·obtain⟨le2,g2,tt,et,rt⟩:=yl.yld i S' H' x H2 le' g' hlt y
   refine⟨S',env',tt,_,g2,re'.mono le2,rt,step i tt env' S' et iv,fun σ3 env3 S3 H3 le3 g3 re3 hb3=>?_⟩
   have l03:Le S H S3 H3:=le1.trans (le'.trans (le2.trans le3))
   have l13:Le S1 H1 S3 H3:=le'.trans (le2.trans le3)
   refine⟨S3,env3,_,l0.trans l03,g3,re3,hb3,⟨fun σ4 env4 S4 H4 le4 g4 re4 q=>⟨S4,env4,l13.trans le4,g4,re4,q⟩,fun v r S4 H4 le4 g4 rp q=>fin.rt v r S4 H4 (l03.trans le4) g4 rp q,fun σ4 env4 S4 H4 le4 g4 re4 q=>fin.nx σ4 env4 S4 H4 (l03.trans le4) g4 re4 q,fun σ4 env4 S4 H4 le4 g4 re4 q=>⟨S4,env4,l13.trans le4,g4,re4,q⟩⟩⟩
 ·have ei:i=ts.length:=by omega
  subst ei
  exact .inl ⟨yl.stop S' H' le' g',fin.nx σ' env' S' H' (le1.trans le') g' re' (done env' S' iv)⟩
def Ur(t:List T->TH->UX->UR->Prop)(R:UR)(ta:UTA):UTE:=fun env S P=>ta env S fun ts S1=>t ts S1 P R
theorem Su{k:Nat}{f:Addr}{fd:FuncData}{ps:List Str}{t:List T->TH->UX->UR->Prop}{x:Str}(F:FnOk X.prog X.w X.K X.mg X.base (CXE X.prog X.w) k f fd ps (spE X.K t))(hr:Room k X.A)(hg:Gl X x)(hm:X.mg x=some (.ref f))
  (hk:PySem.W.keepIn X.K (.ref f)=true) (hb:Binds X.K fd ps []) (hp:Gn (CXE X.prog X.w) X E) (hw:XW X.K S0 H0 R E) (ha:UA X (e::es) tr) (hdb:(x==("__debug__":Str))=false:=by decide) (he:starEach (e::es) X.env=(false,eval e X.env)::starEach es X.env:=by rfl)
  (hpl:(backTo pos (starEach es X.env)).any (·.1)=false:=by rfl):UEX X S0 H0 (.Call (.Name x p) (e::es) [] pos) (Ur t R tr) :=
 PE.imp (Oo F hr hg hm hk hb .nil hp ha hdb he hpl) fun σ H Q ⟨S,env,P,l0,g,re,h,fin⟩=>Ao ⟨g,re⟩ h fun vs xs S1 H1 le1 m1 rx h1=>by
  rw[List.append_nil]
  exact⟨S1,xs,P,R,m1.g,rx,h1,fin.le le1,fun c S' H' le g' r=>hw c S' H' (l0.trans (le1.trans le)) g' r⟩
def Z5(C:Addr)(R:UR)(ta:UTA):UTS:=fun _ env S=>ta env S fun xs S1=>xs.length<=sizeLine/\R (.ref C) S1
theorem Cp{x:Str}{C:Addr}{np cpos:Pos}{B Bn newId nid initId inN:String}{bmB bmN:List Value}(hc:X.calm=true)(hex:X.ex=[])(hx:N6 X E)(hw:XW X.K S0 H0 R E)(hg:Gl X x)(hm:X.mg x=some (.ref C))(q:PySem.W.excIn X.K C bmB newId=true)(Fn:ExcBaseFacts Bn newId inN bmN)(hBn:bmB.contains (.type Bn)=true)(FB:ExcBaseFacts B nid initId bmB)
  (ha:UA X (e::es) tr) (hdb:(x==("__debug__":Str))=false:=by decide) (he:starEach (e::es) X.env=(false,eval e X.env)::starEach es X.env:=by rfl) (hpl:(backTo cpos (starEach es X.env)).any (·.1)=false:=by rfl) :
  UV X S0 H0 (.Raise (some (.Call (.Name x np) (e::es) [] cpos)) none pos) (Z5 C R tr) :=
 PS.imp (Sv hc hex hx hg hm q Fn hBn FB ha hdb he hpl) fun D σ H ⟨S,env,P,l0,g,re,h,fin⟩=>Ao ⟨g,re⟩ h fun vs xs S1 H1 le1 m1 rx h1 =>
  ⟨by rw[rx.1];exact h1.1,hw _ S1 H1 (l0.trans le1) m1.g h1.2⟩
end
def Gz(P:Program)(w:World)(K:PySem.W.Frag)(mg:Str->Option Value)(base:Heap)(k:Nat)(x:Str)(ps:List Str)(t:List T->TH->UX->UR->Prop):Prop :=
 ∃f fd,FnOk P w K mg base (CXE P w) k f fd ps (spE K t)/\Binds K fd ps []/\PySem.W.keepIn K (.ref f)=true/\mg x=some (.ref f)
theorem G8{P:Program}{w:World}{K:PySem.W.Frag}{mg:Str->Option Value}{base:Heap}{k:Nat}{x:Str}{N ps:List Str}{st:Stmt}{t:List T->TH->UX->UR->Prop}(d:Aa K mg x ps st)(Sc:Zv N ps (Zb st))(hl:∀ts S Pp R,t ts S Pp R->ts.length=ps.length)
  (hb:∀(cdv:Value) (f:Addr) (A:Around) (outer:List Env) (s:Shared) (H:Hp) (E:XK) (S0:TH) (R:UR),Room k (A.deeper (envOfC x (Zb st) s.heap.objs.size f cdv))->XW K S0 H R E →
   ∃tb,UVs (cxOf (CXE P w) P w K mg base N x (Zb st) f cdv A outer s H E) S0 H (defBody st) tb/\∀ts Pp,t ts S0 Pp R->tb { nx:=fun _ S'=>Pp .non S',rt:=Pp } (Xm N ts) S0):Gz P w K mg base (k+1) x ps t:=by
 obtain⟨f,fd,F,b,hm⟩:=d
 refine⟨f,fd,Fun.okE F Sc (fun vs H Q E ⟨S,ts,Pp,R,g,r,q,_⟩=>by rw[r.1];exact hl _ _ _ _ q) fun cdv A outer s H vs Q E hr ⟨S,ts,Pp,R,g,r,q,fin,hw⟩=>?_,b,F.kp,hm⟩
 obtain⟨tb,h1,h2⟩:=hb cdv f A outer s H E S R hr hw
 exact⟨_,h1,S,Xm N ts,_,.refl,g,Iu r,h2 ts Pp q,⟨fun σ' env' S' H' le g' re' hp=>fin .non .non S' H' le g' .non hp,fun v r S' H' le g' rp hp=>fin v r S' H' le g' rp hp,fun _ _ _ _ _ _ _ z=>z,fun _ _ _ _ _ _ _ z=>z⟩⟩
end TL
end
section
namespace L2
open PySem PySem.Spec PyProof.Rows
section
variable{X:Cx}{pins:List (Addr×Obj)}{σ:St}{H:Hp}{s:Shared}
theorem Aaj(I:Inv X pins σ H s){E:XK}{e:Value}{s':Shared}(h:CXE X.prog X.w X.stack H s E e s'):
  ∃a cls H' T,e=.ref a/\ExO s'.heap a cls (.ref T)/\T≠a/\TbO s'.heap T .none/\s'.heap.FunFrames X.base X.stack/\(∀h'',Nt (frs X.stack) a (.ref T) s'.heap h''->Inv X pins σ H' { s' with heap:=h'' })/\s.heap.get? a=none/\H' a=none/\E cls none H':=by
 obtain⟨a,cls,H',rfl,os,bare,un,hok,ha,hHa,⟨T,x,ne,t,t0,tH⟩,hE⟩:=h
 have I':Inv X pins σ H' s':=I.call' os un hok bare (fun b m=>absurd m (by simp))
 refine⟨a,cls,H',T,rfl,x,ne,t,I'.stack,fun h'' k=>?_,ha,hHa,hE⟩
 have nh:∀b o,s.heap.get? b=some o->b≠a/\(Value.ref T≠.ref b):=fun b o q=>⟨fun z=>(by rw[z,ha] at q;cases q),fun z=>(by cases z;rw[t0] at q;cases q)⟩
 have any:∀b o,s'.heap.get? b=some o->(b≠a/\(Value.ref T≠.ref b))->∃sl,h''.get? b=some { o with slots:=sl }:=fun b o q n=>by
  by_cases m:b∈frs X.stack
  ·exact k.slot b o q m
  ·exact⟨o.slots,k.keep b o q n.1 n.2 m⟩
 have un2:Un (frs X.stack) [] H H' s.heap h'':=by
  refine⟨fun b o q n f x=>k.keep b o (un.keep b o q n f x) (nh b o q).1 (nh b o q).2 f,fun b o q n f x=>?_,un.free,fun b o q x=>?_,un.tups,un.frzs,un.tbls⟩
  ·obtain⟨sl,h1⟩:=un.slot b o q n f x
   obtain⟨sl',h2⟩:=any b _ h1 (nh b o q)
   exact⟨sl',h2⟩
  ·obtain⟨o',h1⟩:=un.there b o q x
   obtain⟨sl',h2⟩:=any b _ h1 (nh b o q)
   exact⟨_,h2⟩
 have hok2:HOk X.prog X.w H' h'':=fun b u q=>by
  have tr':∀c u,H' c=some u->c≠a/\Value.ref T≠.ref c/\c ∉ frs X.stack:=fun c u z=>⟨fun y=>(by rw[y,hHa] at z;cases z),fun y=>(by cases y;rw[tH] at z;cases z),fun m=>(by rw[I'.stkFree c m] at z;cases z)⟩
  refine(hok b u q).stay (fun c v hc z=>?_) (fun _ z=>z) fun _ _ z=>z
  rcases hc with rfl|hc
  ·exact k.keep c v z (tr' c u q).1 (tr' c u q).2.1 (tr' c u q).2.2
  ·exact k.keep c v z (tr' c _ hc).1 (tr' c _ hc).2.1 (tr' c _ hc).2.2
 exact I.call' (s':={ s' with heap:=h'' }) os un2 hok2 bare (fun b m=>absurd m (by simp))
end
end L2
end
section
namespace L2
open PySem PySem.Spec PyProof.Rows
section
variable{M:Model}{A:Around}{E:Value->Shared->Prop}
variable{nm q:Str}{C N:Addr}{bs bm:List Value}{hdct:Bool}{sn:List Str}{sub:List Value}{ab:Bool}{col:Option Bool}{dd:Option Addr}{k0 k1 k2 k3 k5:Option Value}{newId:String}
variable{nm' q':Str}{C' N':Addr}{bs' bm':List Value}{hdct':Bool}{sn':List Str}{sub':List Value}{ab':Bool}{col':Option Bool}{dd':Option Addr}{k0' k1' k2' k3' k5':Option Value}{newId':String}
theorem Hw{h:Heap}{g:Array GenState}{d:Drawn}{t:Nat}{os:OsState}{e:Addr}{oe:Obj}{Q:Bool->Shared->Prop}
  (hC:h.get? C=some (excClassObj nm q C N bs bm hdct sn sub ab col dd k0 k1 k2 k3 k5 newId)) (hC':h.get? C'=some (excClassObj nm' q' C' N' bs' bm' hdct' sn' sub' ab' col' dd' k0' k1' k2' k3' k5' newId')) (he:h.get? e=some oe) (hcls:oe.cls=.ref C) (hbase:bm'.contains (.type "BaseException")=true)
  (hq:Q ((Value.ref C::bm).contains (.ref C')) ⟨h,g,d,t,os⟩):wpAny M A (excMatches (.ref e) (.ref C')) Q E ⟨h,g,d,t,os⟩:=by
 have hcB:(Value.ref C'::bm').contains (.type "BaseException")=true:=by rw[List.contains_cons,hbase,Bool.or_true]
 have f:=tc_notTuple
 unfold excMatches
 repeat (first|(with_reducible refine wpAny_loadPart_at he ?_;rw[hcls])|with_reducible refine wpAny_loadPart_at hC' ?_|(with_reducible refine wpAny_isSubtype_exc hC' ?_;rw[hcB])|with_reducible refine wpAny_isSubtype_exc hC ?_|wp_step)
 cases hb:(Value.ref C::bm).contains (.ref C') <;> (rw[hb] at hq;first|exact hq|(wp_walk;exact hq))
end
def subIn(K:PySem.W.Frag)(C C':Addr):Bool:=match K.lookup C with
 |some ⟨.type "type",_,.cls cd,sl⟩=>(match cd.mro,sl.toList with
  | .ref D::bm,[_,_,_,_,some (.builtin _),_]=>D==C&&!cd.hasDel&&(Value.ref C::bm).contains (.ref C')
  |_,_=>false)
 |_=>false
theorem Uz{K:PySem.W.Frag}{h:Heap}{C C':Addr}(X:K.In h)(q:subIn K C C'=true):∃nm qn N bs bm hdct sn sub ab col dd k0 k1 k2 k3 k5 newId,
  h.get? C=some (excClassObj nm qn C N bs bm hdct sn sub ab col dd k0 k1 k2 k3 k5 newId)/\(Value.ref C::bm).contains (.ref C')=true:=by
 unfold subIn at q
 split at q
 ·rename_i dd cd sl ho
  split at q
  ·rename_i D bm k0 k1 k2 k3 n k5 hm hs
   simp only[Bool.and_eq_true,beq_iff_eq,Bool.not_eq_true'] at q
   obtain⟨⟨rfl,hdel⟩,ht⟩:=q
   obtain⟨nm,bs,mro,ns,qn,hd,sn,sub,ab,col,del⟩:=cd
   dsimp only at hm hdel
   subst hm hdel
   have hsl:sl=#[k0,k1,k2,k3,some (.builtin n),k5]:=by
    obtain⟨l⟩:=sl
    simp only at hs
    rw[hs]
   subst hsl
   exact⟨nm,qn,ns,bs,bm,hd,sn,sub,ab,col,dd,k0,k1,k2,k3,k5,n,X _ _ ho,ht⟩
  ·cases q
 ·cases q
def Cx.hnd(X:Cx)(a:Addr)(oe:Obj):Cx:={ X with A:=X.A.mark (some (.ref a)),calm:=false,pn:=(a,oe)::X.pn,xe:=fun _ _=>False }
section
variable{X:Cx}{pins:List (Addr×Obj)}{σ:St}{H:Hp}{s:Shared}{a:Addr}{oe:Obj}
theorem Inv.hnd(I:Inv X pins σ H s)(h1:s.heap.get? a=some oe)(h2:H a=none)(h3:a≠X.env.locals)(h4:a ∉ X.fs)(h5:∀v,oe.data≠.cell v):Inv (X.hnd a oe) pins σ H s :=
 ⟨⟨I.ok.mod,I.ok.kind,I.ok.glob,I.ok.blt,I.ok.above,I.ok.inj,I.ok.has,I.ok.cab,fun z=>(by cases z),I.ok.frames,I.ok.stk,I.ok.exf,I.ok.bs,I.ok.bsz,I.ok.noex,I.ok.exfs,I.ok.funs,I.ok.frf⟩,I.os,I.bare,I.base,I.loc,I.cell,I.free,I.freeC,fun p hp=>by
  rcases List.mem_cons.mp (show p∈(a,oe)::(X.pn++pins) from hp) with rfl|hp
  ·exact⟨h1,h2,h3,h4,h5⟩
  ·exact I.pin p hp,I.hok,I.len⟩
theorem Inv.unhnd(J:Inv (X.hnd a oe) pins σ H s)(ok:X.Ok):Inv X pins σ H s :=
 ⟨ok,J.os,J.bare,J.base,J.loc,J.cell,J.free,J.freeC,fun p hp=>J.pin p (List.mem_cons_of_mem _ hp),J.hok,J.len⟩
theorem Vp{M:Model}{A:Around}{E:Value->Shared->Prop}{n:Str}{pos:Pos}{Q:Unit->Shared->Prop}(I:Inv X pins σ H s)(hk:X.env.scope.names.lookup n=some .local)
  (h:∀s',Inv X pins (List.replicate X.N.length none) H s'->Q () s'):wpAny M A (do bindName X.env n .none;unbindBehindTheSuite X.env n pos) Q E s:=by
 obtain⟨m,hn,hl⟩:=id I.loc
 have hcls:(X.env.scope.kind==.class || (X.env.scope.kind==.module&&X.env.locals != X.env.globals))=false:=by rw[I.ok.kind];rfl
 refine wpAny_nameGoes hk hn hcls fun h' m' hn' hs=>h _ ?_
 have cne:=I.cne
 refine⟨I.ok,I.os,I.bare,⟨fun b o e n hb hx=>?_,fun b o e n hb hx=>?_,I.base.free,fun b o e hx=>?_,I.base.tups,I.base.frzs,I.base.tbls⟩,⟨_,hn',fun j y v' e1 e2 e3=>?_⟩,fun y c e=>?_,I.free,I.freeC,fun p hp=>?_,fun b ob e=>?_,by simp⟩
 ·exact(hs.2 b (Nat.ne_of_lt (Nat.lt_of_lt_of_le (Heap.lt_size e) I.ok.above))).trans (I.base.keep b o e n hb hx)
 ·obtain⟨sl,e1⟩:=I.base.slot b o e n hb hx
  exact⟨sl,(hs.2 b (Nat.ne_of_lt (Nat.lt_of_lt_of_le (Heap.lt_size e) I.ok.above))).trans e1⟩
 ·obtain⟨o',e1⟩:=I.base.there b o e hx
  exact⟨o',(hs.2 b (Nat.ne_of_lt (Nat.lt_of_lt_of_le (Heap.lt_size e) I.ok.above))).trans e1⟩
 ·rw[List.getElem?_replicate] at e2
  split at e2 <;> cases e2
 ·obtain⟨w',z⟩:=I.cell y c e
  exact⟨w',z.sameBut hs (cne y c e)⟩
 ·obtain⟨e,n,ne,nf,d⟩:=I.pin p hp
  exact⟨(hs.2 p.1 ne).trans e,n,ne,nf,d⟩
 ·refine(I.hok b ob e).stay (fun c w' hc q=>(hs.2 c ?_).trans q) (fun _ q=>q) fun _ _ q=>q
  rintro rfl
  rcases hc with rfl|hc
  ·rw[I.free] at e;cases e
  ·rw[I.free] at hc;cases hc
theorem Wr{k:Nat}{f:Addr}{fd:FuncData}{ps:List Str}{sp:Sp}{E1:XK}{x:Str}{e:Expr}{es:List Expr}{t:TA}{p pos:Pos}{Q:VK}(F:FnOk X.prog X.w X.K X.mg X.base (CXE X.prog X.w) k f fd ps sp)(hr:Room k X.A)(hg:Gl X x)(hm:X.mg x=some (.ref f))
  (hk:PySem.W.keepIn X.K (.ref f)=true) (hb:Binds X.K fd ps []) (ha:PA X.nox (e::es) t) (I:Inv X pins σ H s) (h:t σ H fun vs H1=>sp vs H1 Q E1)
  (hdb:(x==("__debug__":Str))=false:=by decide) (he:starEach (e::es) X.env=(false,eval e X.env)::starEach es X.env:=by rfl) (hpl:(backTo pos (starEach es X.env)).any (·.1)=false:=by rfl) :
  wpAny (model X.prog X.w) X.A (eval (.Call (.Name x p) (e::es) [] pos) X.env) (EP X pins σ Q) (fun ex s'=>∃H1 s1,Inv X pins σ H1 s1/\CXE X.prog X.w X.stack H1 s1 E1 ex s') s:=by
 refine wpAny_Call_Name_kw (Es I hg hm ?_ hdb)
 refine PySem.W.callWith_K (h₀:=X.base) I.ok.mod.kin hk (wpAny_mono (ha pos pins s σ H _ (I.wish _) h) (fun us s1 hq=>?_) fun _ _ z=>z.elim) he hpl
 obtain⟨vs,H1,I1,r,q⟩:=hq
 have I1:Inv X pins σ H1 s1:=I1.unwish
 refine⟨I1.kIn,?_⟩
 have hl:(us++[]).length=ps.length:=by rw[List.append_nil,<-r.length];exact F.len _ _ _ _ q
 refine wpAny_call (codeAny_mono (F.run X.A X.stack s1 H1 ⟨us,[]⟩ (us++[]) vs Q E1 hr I1.env0 (hb s1 us I1.kIn hl) (by rw[List.append_nil];exact r) q) fun r s' hq=>?_)
 cases r with
 |error e=>exact⟨H1,s1,I1,hq⟩
 |ok fl =>
  cases fl with
  |ret u=>exact I1.after hq
  |next=>exact False.elim hq
  |brk=>exact False.elim hq
  |cont=>exact False.elim hq
end
end L2
end
section
namespace L2
open PySem PySem.Spec PyProof.Rows
section
variable{X:Cx}{Cb:Addr}
def tTry(K:PySem.W.Frag)(Cb:Addr)(sp:Sp)(t:TA)(iy iz:Nat)(hd:Addr->Obj->TS):TS:=fun D σ H=>t σ H fun vs H1=>sp vs H1 (fun v H2=>D.nx (σ.set iy (some v)) H2)
 (fun c _ H2=>∃C1,c=.ref C1/\subIn K C1 Cb=true/\∀a oe,(oe.cls=c/\oe.dict=none/\∃vs,oe.data=.fields vs)->H2 a=none->hd a oe { nx:=fun _ _=>False,rt:=D.rt } (σ.set iz (some (.ref a))) H2)
theorem Zm{iy iz:Nat}{x y z cn:Str}{p py cp ap np hp pos:Pos}{e:Expr}{es:List Expr}{b₀:Stmt}{suite:List Stmt}{k:Nat}{f:Addr}{fd:FuncData}{ps:List Str}{sp:Sp}{t:TA}{hd:Addr->Obj->TS}
  (hc:X.calm=true) (hst:X.stack=X.env::X.outer) (hf:X.env.frame=some X.env.locals) (hex:X.ex=[]) (hN:X.N.Nodup)
  (F:FnOk X.prog X.w X.K X.mg X.base (CXE X.prog X.w) k f fd ps sp) (hr:Room k X.A) (hg:Gl X x) (hm:X.mg x=some (.ref f)) (hk:PySem.W.keepIn X.K (.ref f)=true) (hb:Binds X.K fd ps []) (ha:PA X.nox (e::es) t)
  (hgc:Gl X cn) (hmc:X.mg cn=some (.ref Cb)) (hkb:PySem.W.ktsIn X.K Cb "BaseException"=true)
  (hh:∀a oe,PSs (X.hnd a oe) (b₀::suite) (hd a oe))
  (hiy:X.N[iy]?=some y) (hly:X.env.scope.names.lookup y=some .local) (hiz:X.N[iz]?=some z) (hlz:X.env.scope.names.lookup z=some .local)
  (hs:swapsWith (.Call (.Name x p) (e::es) [] cp) (some (.Name y py)) ap.line X.env=pure false:=by rfl)
  (hdb:(x==("__debug__":Str))=false:=by decide) (hdc:(cn==("__debug__":Str))=false:=by decide) (he:starEach (e::es) X.env=(false,eval e X.env)::starEach es X.env:=by rfl) (hpl:(backTo cp (starEach es X.env)).any (·.1)=false:=by rfl) :
  PS X (.Try [.Assign [.Name y py] (.Call (.Name x p) (e::es) [] cp) ap] [.ExceptHandler (some (.Name cn np)) (some z) (b₀::suite) hp] [] [] pos) (tTry X.K Cb sp t iy iz hd):=by
 intro pins s σ H D I h
 have hfr:X.A.frames=some (X.env::X.outer):=by rw[<-hst];exact I.ok.frames
 refine wpAny_Try_except ?_
 refine wpAny_execs_cons ?_
 refine wpAny_mono (wpAny_Assign_Name (wpAny_mono (Wr F hr hg hm hk hb ha I h hdb he hpl) (fun v s1 hq=>?_) fun _ _ w=>w) hs) (fun f s1 hq=>hq) (fun ex s' hq=>?_)
 ·obtain⟨w,H1,I1,r1,q1⟩:=hq
  exact F5 I1 hN hiy (.inl hly) r1 (fun s2 I2=>wpAny_execs_nil (wpAny_execs_nil ⟨_,H1,I2,q1⟩)) (.inr hly)
 ·obtain⟨H1,s1,I1,hcx⟩:=hq
  obtain⟨a,cls,H',T,rfl,xo,ne,tb,ffr,keep,ha0,hHa,C1,rfl,hsub,hE⟩:=Aaj I1 hcx
  obtain⟨hp0,g0,d0,t0,os0⟩:=s'
  rw[hst] at ffr keep
  have aL:a≠X.env.locals:=fun q=>by
   obtain⟨m,⟨o,_,_,ho,_⟩,_⟩:=I1.loc
   rw[<-q,ha0] at ho;cases ho
  have aF:a ∉ X.fs:=fun m=>by
   have m':a∈frs X.stack:=by
    rw[hst];unfold frs;rw[List.filterMap_cons,hf];exact .tail _ m
   obtain⟨_,o,ho,_⟩:=I1.stack.mem m'
   rw[ha0] at ho;cases ho
  refine Mh hfr ffr hf xo (.inr ⟨T,rfl,ne,tb⟩) fun h4 T4 k4 x4 n4 t4=>?_
  have ne4:T4≠a:=fun z=>by
   obtain⟨_,e1,_⟩:=xo
   rw[z,e1] at n4;cases n4
  have go:∀{h h':Heap},Nt (frs (X.env::X.outer)) a (.ref T) hp0 h->(∀b o,h.get? b=some o->b≠T4->h'.get? b=some o)->Nt (frs (X.env::X.outer)) a (.ref T) hp0 h':=fun {h h'} k k'=>⟨fun b o q n1 n2 n3=>k' b o (k.keep b o q n1 n2 n3) fun z=>(by rw[z,n4] at q;cases q),fun b o q m=>(by
   obtain⟨sl,q1⟩:=k.slot b o q m
   exact⟨sl,k' b _ q1 fun z=>by rw[z,n4] at q;cases q⟩)⟩
  refine Hs x4 ne4 t4 fun h5 kk5 x5 t5=>?_
  have I5:=keep h5 (go k4 kk5)
  obtain⟨vs5,e51,_⟩:=id x5
  have J5:=I5.hnd e51 hHa aL aF (fun v q=>by cases q)
  refine wpAny_handleBy_cons (codeAny_handlers_test (Es (X:=X.hnd a _) J5 hgc hmc ?_ hdc)) (by intro q;cases q)
  obtain⟨nm,qn,N,bs,bm,hdct,sn,sub,ab,col,dd,k0,k1,k2,k3,k5,newId,hC,hct⟩:=Uz I5.kIn hsub
  obtain⟨nm',qn',N',bs',bm',hdct',sn',sub',ab',col',dd',k0',k1',k2',k3',k5',newId',hC',hbase,_⟩:=PySem.W.kts_cls I5.kIn hkb
  refine Hw hC hC' e51 rfl hbase ?_
  rw[hct]
  refine codeAny_handlers_suite_as ?_
  refine Hs x5 ne4 t5 fun h6 k6 x6 t6=>?_
  have I6:=keep h6 (go (go k4 kk5) k6)
  obtain⟨vs6,e61,_⟩:=id x6
  have J6:=I6.hnd e61 hHa aL aF (fun v q=>by cases q)
  refine F5 (X:=X.hnd a _) (v:=.ref a) J6 hN hiz (.inl hlz) rfl (fun s7 J7=>?_) (.inr hlz)
  refine wpAny_mono (hh a _ pins s7 _ H' _ J7 (hE a _ ⟨rfl,rfl,_,rfl⟩ hHa)) (fun f s8 hq=>?_) (fun _ _ w=>w.elim)
  cases f with
  |ret u =>
   obtain⟨v,σ',H2,J8,r,q⟩:=hq
   exact Vp (J8.unhnd I.ok) hlz fun s9 I9=>⟨v,_,H2,I9,r,q⟩
  |next=>obtain⟨_,_,_,q⟩:=hq;exact q.elim
  |brk=>obtain⟨_,_,_,q⟩:=hq;exact q.elim
  |cont=>obtain⟨_,_,_,q⟩:=hq;exact q.elim
end
end L2
end
section
namespace TL
open PySem PySem.Spec PyProof.Rows L2
section
variable{X:Cx}{Cb:Addr}{e:Expr}{es:List Expr}{tr:UTA}
def uTry(K:PySem.W.Frag)(Cb:Addr)(t:List T->TH->UX->UR->Prop)(tr:UTA)(iy iz:Nat)(th:Addr->Obj->UTS):UTS:=fun E env S=>tr env S fun ts S1=>t ts S1 (fun r S2=>E.nx (env.set iy (some r)) S2)
 (fun c S2=>∃C1,c=.ref C1/\subIn K C1 Cb=true/\∀a oe,(oe.cls=c/\oe.dict=none/\∃vs,oe.data=.fields vs)->th a oe { nx:=fun _ _=>False,rt:=E.rt } (env.set iz (some (.ref a))) S2)
theorem Aar{iy iz:Nat}{x y z cn:Str}{p py cp ap np hp pos:Pos}{b₀:Stmt}{suite:List Stmt}{k:Nat}{ps:List Str}{t:List T->TH->UX->UR->Prop}{th:Addr->Obj->UTS}
  (hc:X.calm=true) (hst:X.stack=X.env::X.outer) (hf:X.env.frame=some X.env.locals) (hex:X.ex=[]) (hN:X.N.Nodup)
  (F:Gz X.prog X.w X.K X.mg X.base k x ps t) (hr:Room k X.A) (hg:Gl X x) (ha:UA X.nox (e::es) tr)
  (hgc:Gl X cn) (hmc:X.mg cn=some (.ref Cb)) (hkb:PySem.W.ktsIn X.K Cb "BaseException"=true)
  (hh:∀a oe,USs (X.hnd a oe) (b₀::suite) (th a oe))
  (hiy:X.N[iy]?=some y:=by rfl) (hly:X.env.scope.names.lookup y=some .local:=by rfl) (hiz:X.N[iz]?=some z:=by rfl) (hlz:X.env.scope.names.lookup z=some .local:=by rfl)
  (hs:swapsWith (.Call (.Name x p) (e::es) [] cp) (some (.Name y py)) ap.line X.env=pure false:=by rfl)
  (hdb:(x==("__debug__":Str))=false:=by decide) (hdc:(cn==("__debug__":Str))=false:=by decide) (he:starEach (e::es) X.env=(false,eval e X.env)::starEach es X.env:=by rfl) (hpl:(backTo cp (starEach es X.env)).any (·.1)=false:=by rfl) :
  US X (.Try [.Assign [.Name y py] (.Call (.Name x p) (e::es) [] cp) ap] [.ExceptHandler (some (.Name cn np)) (some z) (b₀::suite) hp] [] [] pos) (uTry X.K Cb t tr iy iz th):=by
 obtain⟨f,fd,F,b,kp,hm⟩:=F
 refine PS.imp (Zm hc hst hf hex hN F hr hg hm kp b ha hgc hmc hkb hh hiy hly hiz hlz hs hdb hdc he hpl) fun D σ H ⟨S,env,E,g,re,h,fin⟩=>?_
 refine Ao ⟨g,re⟩ h fun vs xs S1 H1 le1 m1 rx h1=>?_
 refine⟨S1,xs,_,_,m1.g,rx,h1,fun v r S2 H2 le2 g2 rp hp=>fin.nx _ _ S2 H2 (le1.trans le2) g2 ((m1.re.mono le2).set rp) hp,fun c S2 H2 le2 g2 hq=>?_⟩
 obtain⟨C1,rfl,hsub,hth⟩:=hq
 exact⟨C1,rfl,hsub,fun a oe ho _=>⟨S2,_,_,g2,(m1.re.mono le2).set (.ref a),hth a oe ho,⟨fun _ _ _ _ _ _ _ z=>z.elim,fun v r S3 H3 le3 g3 rp hp=>fin.rt v r S3 H3 (le1.trans (le2.trans le3)) g3 rp hp,fun _ _ _ _ _ _ _ z=>z.elim,fun _ _ _ _ _ _ _ z=>z.elim⟩⟩⟩
end
end TL
end
section
namespace L2
open PySem PySem.Spec PyProof.Rows PySem.W
section
variable{prog:Program}{w:World}{A:Around}{E:Value->Shared->Prop}{s:Shared}{K:Frag}{x D:Addr}{ox:Obj}{od:Option Obj}
theorem P4{B:String}(FB:ExcAttrFacts B)(hga:findIn K (.ref D) "__getattribute__"=some (some (.builtin "BaseException.__getattribute__")))(hgt:findIn K (.ref D) "__getattr__"=some none)(ha:findIn K (.ref D) "__class__"=some (some (.builtin "object.__class__")))
 (hn:specialIn K (.builtin "object.__class__") "__get__"=some (some (.builtin "getset_descriptor.__get__"))) (htk:takesIn K (.builtin "object.__class__")=some true) (hm:mroIn K D (.type "object")=some true) (hsb:PySem.W.subIn K (.ref D) (.type "BaseException")=some true)
 {Q:Option Value->Shared->Prop} (X:K.In s.heap) (I:InstAt s.heap x ox D od) (h:Q (some (.ref D)) { s with toks:=s.toks+1 }):wpAny (model prog w) A (getAttr? (.ref x) "__class__") Q E s:=by
 obtain⟨hh,g,d,t,os⟩:=s
 have L0:=I.type (M:=model prog w)
 have L1:=looks_findIn (M:=model prog w) X hga
 have L2:=looks_findIn (M:=model prog w) X hgt
 unfold getAttr? getAttrBy? getAttrBy
 refine wpAny_bind (wpAny_mkText (wpAny_bind (wpAny_attempt (wpAny_holding (wpAny_bind (L0.at (wpAny_bind (L1.at ?_))))))))
 have f3:=FB.ga.bind (.ref x)
 have hx2:(Value.builtin "BaseException.__getattribute__"==Value.builtin "object.__getattribute__")=false:=by decide +kernel
 have hx1:(onTheHeap (Value.ref D)&&Value.builtin "BaseException.__getattribute__"==Value.builtin "object.__getattribute__")=false:=by rw[hx2];rfl
 clear L1
 repeat (any_goals (first|assumption|with_reducible refine wpAny_bind (L2.at ?_)|wp_step))
 have LS:=looks_subIn (M:=model prog w) X hsb
 have hk:builtinKind "BaseException.__getattribute__"=some .slot:=by decide +kernel
 have hsplit:splitId "BaseException.__getattribute__"=some ("BaseException","__getattribute__"):=by decide +kernel
 have har:=F.args_bexc_ga (.ref x) (.str "__class__" t)
 refine codeAny_call_builtin FB.ga.plain F.entry_bexc_ga ?_
 simp only[checkBuiltinCall,hk,hsplit]
 refine wpAny_bind ?_
 unfold isInstance
 refine wpAny_bind (L0.at (LS.at ?_))
 have LA:=looks_findIn (M:=model prog w) X ha
 have f5:=F.typeOf_object_class
 have f6:=F.slot_gs_get.lookup
 have f7:=F.slot_gs_set.lookup
 repeat (any_goals (first|assumption|with_reducible refine wpAny_bind (L0.at ?_)|with_reducible refine wpAny_bind (LA.at ?_)|wp_step))
 refine class_get (s:=⟨hh,g,d,t+1,os⟩) (ox:=ox) (od:=od) X I hm ?_
 repeat (any_goals (first|assumption|wp_step))
structure ExD(K:Frag)(D:Addr):Prop where
 ga:findIn K (.ref D) "__getattribute__"=some (some (.builtin "BaseException.__getattribute__"))
 gt:findIn K (.ref D) "__getattr__"=some none
 ca:findIn K (.ref D) "__class__"=some (some (.builtin "object.__class__"))
 sn:specialIn K (.builtin "object.__class__") "__get__"=some (some (.builtin "getset_descriptor.__get__"))
 tk:takesIn K (.builtin "object.__class__")=some true
 mo:mroIn K D (.type "object")=some true
 sb:PySem.W.subIn K (.ref D) (.type "BaseException")=some true
 cl:(clsIn K D).isSome=true
theorem T7(e:ExD K D):KitX K (.ref x) (.ref D) (fun h=>W.InstAt h x ox D none) where
 ty:=fun _ _ _ I=>I.type
 it:=fun _ _ X _=>by
  obtain⟨cdD,hcD⟩:=Option.isSome_iff_exists.mp e.cl
  unfold clsIn at hcD
  split at hcD
  ·rename_i c' d' cd' sl' ho
   intro A' Q' E' s' k q
   unfold isType loadHead
   exact wpAny_bind (wpAny_loadPart (k _ _ (X _ _ ho)) (wpAny_pure q))
  ·cases hcD
 ne:=fun h tp dd its n sl X htp=>by
  obtain⟨cdD,hcD⟩:=Option.isSome_iff_exists.mp e.cl
  refine Bool.eq_false_iff.mpr fun q=>?_
  have e:D=tp:=Value.ref.inj (beq_iff_eq.mp q)
  subst e
  unfold clsIn at hcD
  split at hcD
  ·rename_i c' d' cd' sl' ho
   have z:=(X _ _ ho).symm.trans htp
   cases z
  ·cases hcD
 ca:=fun X I k=>P4 F.attr_ValueError e.ga e.gt e.ca e.sn e.tk e.mo e.sb X I k
end
def Xz(K:Frag)(a D:Addr):List V->Hp->VK->Prop:=fun xs H Q=>∃b,((∃c,xs=[.ref a,.ty c]/\kitOne K (.ref D) (.type c)=some b)\/(∃C,xs=[.ref a,.ref C]/\kitOne K (.ref D) (.ref C)=some b) ∨
 ∃(p:Addr) (cs:List Addr),xs=[.ref a,.ref p]/\SqT K H p (cs.map V.ref)/\kitAny K (.ref D) (cs.map Value.ref)=some b)/\Q (.bl b) H
theorem Vg{cs:List Addr}:∀{its:List Value},Vals (cs.map V.ref) its->its=cs.map Value.ref:=by
 induction cs with
 |nil=>intro its r;cases r;rfl
 |cons c cs ih =>
  intro its r
  cases r with
  |cons h t=>rw[ih t];cases (show _=Value.ref c from h);rfl
theorem Rb{X:Cx}{a D:Addr}{oe:Obj}(e:ExD X.K D)(hp:(a,oe)∈X.pn)(ho:oe.cls=.ref D/\oe.dict=none/\∃vs,oe.data=.fields vs):CallR X (.builtin "isinstance") (Xz X.K a D):=by
 intro pins s σ H xs us Q I r h
 obtain⟨b,h,q⟩:=h
 have fin:∀tk,EP X pins σ Q (.bool b) { s with toks:=tk }:=fun tk=>⟨.bl b,H,I.tok tk,rfl,q⟩
 obtain⟨h1,_⟩:=I.pin (a,oe) (List.mem_append_left _ hp)
 obtain⟨ho1,ho2,vs,ho3⟩:=ho
 have J:W.InstAt s.heap a oe D none:=⟨h1,ho1,by unfold notCls;rw[ho3],by rw[ho2];trivial⟩
 have Z:=T7 (x:=a) (ox:=oe) e
 rcases h with⟨c,rfl,k⟩|⟨C,rfl,k⟩|⟨p,cs,rfl,hq,k⟩
 ·obtain⟨u,u2,rfl,r1,r2⟩:=Kn r
  cases (show u2=Value.type c from r2)
  cases (show u=Value.ref a from r1)
  exact kia_one Z I.kIn J k (fun z=>nomatch z) fin
 ·obtain⟨u,u2,rfl,r1,r2⟩:=Kn r
  cases (show u2=Value.ref C from r2)
  cases (show u=Value.ref a from r1)
  exact kia_one Z I.kIn J k (fun z=>nomatch z) fin
 ·obtain⟨u,u2,rfl,r1,r2⟩:=Kn r
  cases (show u2=Value.ref p from r2)
  cases (show u=Value.ref a from r1)
  obtain⟨its,rv,pt,_⟩:=I.tuple hq
  obtain⟨⟨cls,dd,data,sl⟩,ho,hc,n,hd⟩:=pt
  simp only at hc hd
  subst hc hd
  exact kia_tup Z I.kIn J ho (by rw[Vg rv];exact k) (fun z=>nomatch z) fin
end L2
end
section
namespace TL
open PySem PySem.Spec PyProof.Rows L2
section
variable{X:Cx}{a b:Expr}{tr:UTA}{p pos:Pos}{K:PySem.W.Frag}
theorem Aq{x:Str}{C:Addr}(hg:Gl X x)(hm:X.mg x=some (.ref C))(hd:(x==("__debug__":Str))=false:=by decide):UE X (.Name x pos) (uC (.ref C)) :=
 PE.imp (Oi (v:=.ref C) hg hm rfl hd) fun _ H _ ⟨S,_,_,g,_,h,fin⟩=>fin (.ref C) (.ref C) S H .refl g (.ref C) h
def Xi(K:PySem.W.Frag)(a D:Addr)(xs:List T)(S:TH)(P:UX):Prop:=∃b,((∃c,xs=[.ref a,.ty c]/\PySem.W.kitOne K (.ref D) (.type c)=some b)\/(∃C,xs=[.ref a,.ref C]/\PySem.W.kitOne K (.ref D) (.ref C)=some b) ∨
 ∃cs:List Addr,xs=[.ref a,.tup (cs.map T.ref)]/\PySem.W.kitAny K (.ref D) (cs.map Value.ref)=some b)/\P (.bl b) S
theorem Rh{S:TH}{H:Hp}{cs:List Addr}:∀{vs:List V},Reps K S H vs (cs.map T.ref)->vs=cs.map V.ref:=by
 induction cs with
 |nil=>intro vs r;exact List.length_eq_zero_iff.mp r.1
 |cons c cs ih =>
  intro vs r
  cases vs with
  |nil=>exact absurd r.1 (by simp)
  |cons v vs =>
   have h:=r.head
   cases h
   rw[ih r.tail]
   rfl
theorem lIsiX{a D:Addr}:F2 K (Xz K a D) (Xi K a D):=fun S H vs xs P Q g r ho fin=>by
 obtain⟨b,ho,hp⟩:=ho
 have q:=fin (.bl b) (.bl b) S H .refl g (.bl b) hp
 rcases ho with⟨c,rfl,k⟩|⟨C,rfl,k⟩|⟨cs,rfl,k⟩
 ·match vs,r with
  |[v,w],r =>
   have h1:=r.head
   have h2:=r.tail.head
   cases h1
   cases h2
   exact⟨b,.inl ⟨c,rfl,k⟩,q⟩
  |[],r=>exact absurd r.1 (by simp)
  |[_],r=>exact absurd r.1 (by simp)
  |_::_::_::_,r=>exact absurd r.1 (by simp)
 ·match vs,r with
  |[v,w],r =>
   have h1:=r.head
   have h2:=r.tail.head
   cases h1
   cases h2
   exact⟨b,.inr (.inl ⟨C,rfl,k⟩),q⟩
  |[],r=>exact absurd r.1 (by simp)
  |[_],r=>exact absurd r.1 (by simp)
  |_::_::_::_,r=>exact absurd r.1 (by simp)
 ·match vs,r with
  |[v,w],r =>
   have h1:=r.head
   obtain⟨l,ws,rfl,f,r'⟩:=r.tail.head.tupE
   cases h1
   refine⟨b,.inr (.inr ⟨l,cs,rfl,?_,k⟩),q⟩
   rw[<-Rh r']
   exact f.sq
  |[],r=>exact absurd r.1 (by simp)
  |[_],r=>exact absurd r.1 (by simp)
  |_::_::_::_,r=>exact absurd r.1 (by simp)
theorem Bi{e D:Addr}{oe:Obj}(hx:ExD X.K D)(hp:(e,oe)∈X.pn)(ho:oe.cls=.ref D/\oe.dict=none/\∃vs,oe.data=.fields vs)(hg:Gl X "isinstance")(hm:X.mg "isinstance"=none)(ha:UA X [a,b] tr)(he:starEach [a,b] X.env=(false,eval a X.env)::starEach [b] X.env:=by rfl)(hpl:(backTo pos (starEach [b] X.env)).any (·.1)=false:=by rfl):
  UE X (.Call (.Name "isinstance" p) [a,b] [] pos) (Bq (Xi X.K e D) tr):=Eh (Rb hx hp ho) lIsiX hg hm boot_isinstance ha (he:=he) (hpl:=hpl)
end
end TL
end
section
namespace L2
open PySem PySem.Spec PyProof.Rows
section
variable{X:Cx}{e v₁ v₂:Expr}{es:List Expr}{te:TE}{pos:Pos}
abbrev TJ:=Str->St->Hp->(Str->Hp->Prop)->Prop
def PJ(X:Cx)(es:List Expr)(t:TJ):Prop:=∀(acc:Str) (pins:List (Addr×Obj)) (s:Shared) (σ:St) (H:Hp) (Q:Str->Hp->Prop),Inv X pins σ H s->t acc σ H Q →
 Joins (model X.prog X.w) X.A X.xe (evalEach es X.env) acc (fun out s'=>out.length<=sizeLine/\∃H',Inv X pins σ H' s'/\Q out H') s
def jNil:TJ:=fun acc _ H Q=>acc.length<=sizeLine/\Q acc H
def jCons(te:TE)(t:TJ):TJ:=fun acc σ H Q=>te σ H fun v H1=>∃y,v=.str y/\(acc++y).length<=sizeLine/\t (acc++y) σ H1 Q
theorem Z4:PJ X [] jNil:=fun acc pins s σ H Q I h=>⟨h.1,H,I,h.2⟩
theorem V1{t:TJ}(he:PE X e te)(hr:PJ X es t)(hs:evalEach (e::es) X.env=eval e X.env::evalEach es X.env:=by rfl):PJ X (e::es) (jCons te t):=fun acc pins s σ H Q I h=>by
 rw[hs]
 refine thn (he pins s σ H _ I h) fun u s1 ⟨v,H1,I1,r,y,hv,hz,q⟩=>?_
 subst hv
 obtain⟨t',rfl⟩:=r
 exact⟨y,t',rfl,hz,hr (acc++y) pins s1 σ H1 Q I1 q⟩
def tFmt(te:TE):TE:=fun σ H Q=>te σ H fun v H1=>(∃y,v=.str y/\y.length<=sizeLine/\Q (.str y) H1)\/∃i,v=.int i/\i.natAbs.log2<1920/\Q (.str (toString i)) H1
theorem Yp(he:PE X e te):PE X (.FormattedValue e (-1) none pos) (tFmt te):=by
 intro pins s σ H Q I h
 refine wpAny_FormattedValue_plain (thn (he pins s σ H _ I h) fun u s1 ⟨v,H1,I1,r,q⟩=>?_)
 rcases q with⟨y,rfl,hz,q⟩|⟨i,rfl,hz,q⟩
 ·obtain⟨t,rfl⟩:=r
  exact wpAny_formatField_str ⟨.str y,H1,I1,⟨_,rfl⟩,q⟩ ⟨.str y,H1,I1.tok _,⟨_,rfl⟩,q⟩ hz
 ·obtain⟨t,rfl⟩:=r
  exact wpAny_formatField_int hz ⟨.str (toString i),H1,I1.tok _,⟨_,rfl⟩,q⟩
def tJoin(t:TJ):TE:=fun σ H Q=>t Str.empty σ H fun out H1=>Q (.str out) H1
theorem Py{t:TJ}(h:PJ X (v₁::v₂::es) t):PE X (.JoinedStr (v₁::v₂::es) pos) (tJoin t):=by
 intro pins s σ H Q I hq
 have go:∀(l:List (Sem Value)) (acc:Str) (s:Shared) {P P':Str->Shared->Prop},(∀o s,P o s->P' o s)->Joins (model X.prog X.w) X.A X.xe l acc P s->Joins (model X.prog X.w) X.A X.xe l acc P' s:=by
  intro l
  induction l with
  |nil=>intro acc s P P' m q;exact m _ _ q
  |cons x r ih=>intro acc s P P' m q;exact wpAny_mono q (fun v s1 ⟨y,t,e,z,q⟩=>⟨y,t,e,z,ih _ _ m q⟩) fun _ _ w=>w
 exact wpAny_JoinedStr (go _ _ _ (fun o s' ⟨z,H1,I1,q⟩=>⟨z,.str o,H1,I1.tok _,⟨_,rfl⟩,q⟩) (h _ pins s σ H _ I hq))
end
end L2
end
section
namespace TL
open PySem PySem.Spec PyProof.Rows L2
section
variable{X:Cx}{e v₁ v₂:Expr}{es:List Expr}{te:UTE}{pos:Pos}
abbrev UTJ:=Nat->Ev->TH->(TH->Prop)->Prop
def lfJ(K:PySem.W.Frag)(t:UTJ):TJ:=fun acc σ H Q=>∃S env P n,Good K S H/\REnv K S H σ env/\acc.length<=n/\t n env S P/\∀out S' H',Le S H S' H'->Good K S' H'->P S'->Q out H'
def UJ(X:Cx)(es:List Expr)(t:UTJ):Prop:=PJ X es (lfJ X.K t)
def ujNil:UTJ:=fun n _ S P=>n<=sizeLine/\P S
def Yg(te:UTE)(t:UTJ):UTJ:=fun n env S P=>te env S fun x S1=>∃y,x=.str y/\∃m,y.length<=m/\n+m<=sizeLine/\t (n+m) env S1 P
theorem T2:UJ X [] ujNil:=fun acc pins s σ H Q I ⟨S,env,P,n,g,re,hn,h,fin⟩=>Z4 acc pins s σ H Q I ⟨Nat.le_trans hn h.1,fin acc S H .refl g h.2⟩
theorem Dz{t:UTJ}(he:UE X e te)(hr:UJ X es t)(hs:evalEach (e::es) X.env=eval e X.env::evalEach es X.env:=by rfl):UJ X (e::es) (Yg te t):=fun acc pins s σ H Q I ⟨S,env,P,n,g,re,hn,h,fin⟩ =>
 V1 he hr hs acc pins s σ H Q I (Za ⟨g,re⟩ h fun v x S1 H1 le1 m1 rx h1=>by
  obtain⟨y,rfl,m,hm,hz,h1⟩:=h1
  cases rx
  have hl:(acc++y).length<=n+m:=by rw[strLen_append];omega
  exact⟨y,rfl,Nat.le_trans hl hz,S1,env,P,n+m,m1.g,m1.re,hl,h1,fun out S' H' le=>fin out S' H' (le1.trans le)⟩)
def uFmt(te:UTE):UTE:=fun env S P=>te env S fun x S1=>match x with
 | .str y=>y.length<=sizeLine/\P (.str y) S1
 | .int i=>i.natAbs.log2<1920/\P (.str (toString i)) S1
 |_=>False
theorem Oc(he:UE X e te):UE X (.FormattedValue e (-1) none pos) (uFmt te):=PE.imp (Yp he) fun σ H Q ⟨S,env,P,g,re,h,fin⟩ =>
 Za ⟨g,re⟩ h fun v x S1 H1 le1 m1 rx h1=>by
  cases x with
  |str y=>cases rx;exact .inl ⟨y,rfl,h1.1,fin _ _ S1 H1 le1 m1.g (.str y) h1.2⟩
  |int i=>cases rx;exact .inr ⟨i,rfl,h1.1,fin _ _ S1 H1 le1 m1.g (.str _) h1.2⟩
  |_=>exact h1.elim
def uJoin(t:UTJ):UTE:=fun env S P=>t 0 env S fun S1=>∀out,P (.str out) S1
theorem Ka{t:UTJ}(h:UJ X (v₁::v₂::es) t):UE X (.JoinedStr (v₁::v₂::es) pos) (uJoin t):=PE.imp (Py h) fun σ H Q ⟨S,env,P,g,re,h,fin⟩ =>
 ⟨S,env,_,0,g,re,Nat.le_refl _,h,fun out S' H' le g' hp=>fin (.str out) (.str out) S' H' le g' (.str out) (hp out)⟩
end
end TL
end
section
namespace L2
open PySem PySem.Spec PyProof.Rows
theorem Nv{zs:List Str}:∀{its:List Value},Vals (zs.map V.str) its->StrsAre its zs:=by
 induction zs with
 |nil=>intro its r;cases r;exact .nil
 |cons z zs ih =>
  intro its r
  cases r with
  |cons h t =>
   obtain⟨tk,rfl⟩:=h
   exact .cons _ _ (ih t)
theorem Wc{X:Cx}:MtR X "str.join" (fun x vs H Q=>∃sep l zs,x=.str sep/\vs=[.ref l]/\SqL X.K H l (zs.map V.str)/\(zs.map (·.length)).sum+zs.length * sep.length<=16777216/\Q (.str (Txt.join sep zs)) H):=by
 intro pins s σ H x vs v us Q I rx rv h
 obtain⟨sep,l,zs,rfl,rfl,sq,hz,q⟩:=h
 obtain⟨t,rfl⟩:=rx
 obtain⟨u,rfl,ru⟩:=rv.one
 cases ru
 obtain⟨its,r,pl,_⟩:=I.list sq
 exact join_list pl.isList (by simpa using Nv r) hz fun t' k=>⟨.str _,H,I.tok _,⟨_,rfl⟩,q⟩
end L2
namespace TL
open PySem PySem.Spec PyProof.Rows L2
section
variable{X:Cx}{o e:Expr}{to:UTE}{tr:UTA}{apos cpos:Pos}
def Y7(to:UTE)(tr:UTA):UTE:=fun env S P=>to env S fun x S1=>match x with
 | .str sep=>tr env S1 fun ys S2=>match ys with
  |[.lst ts]=>∃zs,ts=zs.map T.str/\(zs.map (·.length)).sum+zs.length * sep.length<=16777216/\P (.str (Txt.join sep zs)) S2
  |_=>False
 |_=>False
theorem Kp(ho:UE X o to)(ha:UA X [e] tr)(hbase:attributeBase o "join" X.env (eval o X.env)=eval o X.env:=by rfl)
  (hfew:((backTo cpos (starEach [e] X.env)).all (fun x=>!x.1)&&(backToKw cpos (keywordEach [] X.env)).all (fun x=>x.1.isSome)&&decide (([e]:List Expr).length+([]:List Keyword).length+(if ([]:List Keyword).isEmpty then 0 else 1)<30))=true:=by rfl)
  (hline:(apos.endLine==cpos.line)=true:=by rfl) (hs:starEach [e] X.env=(false,eval e X.env)::starEach [] X.env:=by rfl) (hplain:(backTo cpos (starEach [] X.env)).any (·.1)=false:=by rfl) :
  UE X (.Call (.Attribute o "join" apos) [e] [] cpos) (Y7 to tr) :=
 PE.imp (Pa PySem.F.plainAttrs_str PySem.F.slot_str_join PySem.F.type_str_join Wc ho ha hbase hfew hline hs hplain) fun σ H Q ⟨S,env,P,g,re,h,fin⟩ =>
  Za ⟨g,re⟩ h fun v x S1 H1 le1 m1 rx h1=>by
   cases x with
   |str sep =>
    cases rx
    refine⟨rfl,Ao m1 h1 fun us ys S2 H2 le2 m2 rr h2=>?_⟩
    match ys,rr,h2 with
    |[.lst ts],rr,h2 =>
     obtain⟨w,rfl,rw'⟩:=rr.one
     obtain⟨zs,et,hz,h3⟩:=h2
     subst et
     obtain⟨l,vs,rfl,f,r⟩:=rw'.lstE
     have ev:=Eo r
     subst ev
     exact⟨sep,l,zs,rfl,rfl,f.sq,hz,fin _ _ S2 H2 (le1.trans le2) m2.g (.str _) h3⟩
   |_=>exact h1.elim
end
end TL
end
section
namespace L2
open PySem PySem.Spec PyProof.Rows
theorem F8:fillsNumberSlot (.type "tuple") "mul"=pure false :=
 PySem.fillsNumberSlot_seq (id:="tuple.__mul__") (r:=some (.builtin "tuple.__rmul__")) PySem.F.slot_tuple_mul.lookup (by decide +kernel) PySem.F.slot_tuple_rmul.lookup (by decide +kernel)
theorem Lm:seqRepeat? (.type "tuple")=pure (some (.builtin "tuple.__mul__")):=by
 unfold seqRepeat?
 rw[PySem.seqSlot_of (T:="tuple") (name:="__mul__") (id:="tuple.__mul__") PySem.F.slot_tuple_mul.lookup (by decide +kernel),PySem.seqSlot_of (T:="tuple") (name:="__rmul__") (id:="tuple.__rmul__") PySem.F.slot_tuple_rmul.lookup (by decide +kernel)]
 rfl
theorem Hr(a:Int)(t:Tok)(l:Addr)(items:Array Value)(n:Nat)(dd:Option Addr)(sl:Array (Option Value)):
  Meets (Builtin.«int.__rmul__» ⟨[.int a t,.ref l],[]⟩) (fun _ R s=>s.heap.get? l=some { cls:=.type "tuple",dict:=dd,data:=.seq items n,slots:=sl }/\R (.ok (.ret Value.notImplemented)) s) :=
 .of_wp fun prog w A R s h=>by
  obtain⟨hp,g,d,tk,os⟩:=s;obtain⟨hl,h⟩:=h;wp_walk;exact⟨_,rfl,h⟩
theorem Ic(l:Addr)(items:Array Value)(n:Nat)(dd:Option Addr)(sl:Array (Option Value))(x:Int)(u:Tok)(h1:2<=x)(h2:x<2 ^ 63)(he:items.isEmpty=true):
  Meets (Builtin.«tuple.__mul__» ⟨[.ref l,.int x u],[]⟩) (fun _ R s=>s.heap.get? l=some { cls:=.type "tuple",dict:=dd,data:=.seq items n,slots:=sl }/\R (.ok (.ret (.ref l))) s) :=
 .of_wp fun prog w A R s h=>by
  obtain⟨hp,g,d,tk,os⟩:=s;obtain⟨hl,h⟩:=h
  have c1:(decide (x < -2 ^ 63) || decide (x ≥ 2 ^ 63))=false:=by rw[decide_eq_false (by omega),decide_eq_false (by omega)];rfl
  have c2:(items.isEmpty || x==1)=true:=by rw[he];rfl
  wp_walk
  rw[if_neg (by rw[c1];exact Bool.false_ne_true)]
  wp_walk
  exact⟨_,rfl,h⟩
theorem Jf(l:Addr)(items:Array Value)(n:Nat)(dd:Option Addr)(sl:Array (Option Value))(x:Int)(u:Tok)(h1:2<=x)(h2:x<2 ^ 63)(he:items.isEmpty=false)(hz:items.size * x.toNat<=sizeLine):
  Meets (Builtin.«tuple.__mul__» ⟨[.ref l,.int x u],[]⟩) (fun _ R s=>s.heap.get? l=some { cls:=.type "tuple",dict:=dd,data:=.seq items n,slots:=sl }/\R (.ok (.ret (.ref s.heap.objs.size))) { s with heap:=s.heap.push { cls:=.type "tuple",data:=.seq ((List.replicate x.toNat items).foldl (·++·) #[]) } }) :=
 .of_wp fun prog w A R s h=>by
  obtain⟨hp,g,d,tk,os⟩:=s;obtain⟨hl,h⟩:=h
  have c1:(decide (x < -2 ^ 63) || decide (x ≥ 2 ^ 63))=false:=by rw[decide_eq_false (by omega),decide_eq_false (by omega)];rfl
  have c2:(items.isEmpty || x==1)=false:=by rw[he,beq_eq_false_iff_ne.mpr (by omega)];rfl
  have c3:(decide (x<=0) || items.isEmpty)=false:=by rw[he,decide_eq_false (by omega)];rfl
  wp_walk
  rw[if_neg (by rw[c1];exact Bool.false_ne_true)]
  wp_walk
  rw[if_neg (by rw[c2];exact Bool.false_ne_true)]
  wp_walk
  rw[if_neg (by rw[c3];exact Bool.false_ne_true)]
  have e1:(items.size:Int) * x=((items.size * x.toNat:Nat):Int):=by rw[Int.natCast_mul,Int.toNat_of_nonneg (by omega)]
  have hs:(sizeLine:Nat)<=2 ^ 24:=by decide
  have c4:¬ ((items.size:Int) * x > (2 ^ 63 - 1) / 8):=by rw[e1];omega
  have c5:¬ Builtin.Tuple.tupleTooMany ((items.size:Int) * x)=true:=by
   rw[e1];unfold Builtin.Tuple.tupleTooMany
   rw[decide_eq_false (by omega)]
   exact Bool.false_ne_true
  dsimp only
  rw[if_neg c4,if_neg c5]
  wp_walk
  have c6:¬ (List.foldl (fun x1 x2=>x1++x2) #[] (List.replicate x.toNat items)).size > sizeLine:=by
   have:=AutoListH.size_joined items x.toNat #[]
   rw[this,Nat.mul_comm]
   simpa using hz
  rw[if_neg c6]
  wp_walk
  exact⟨_,rfl,h⟩
def X1(K:PySem.W.Frag):R2:=fun x y H Q=>∃l k xs,x=.ref l/\y=.int k/\SqT K H l xs/\2<=k/\k<2 ^ 63/\xs.length * k.toNat<=sizeLine/\(xs=[]->Q (.ref l) H)/\(xs≠[]->∀p,H p=none->Q (.ref p) (upd H p (.tup (List.replicate k.toNat xs).flatten)))
theorem V9{X:Cx}:OpR X (binaryOp .Mult) (X1 X.K):=by
 intro pins s σ H x y v u Q I rx ry h
 obtain⟨l,k,xs,rfl,rfl,hq,h1,h2,hz,q0,q1⟩:=h
 cases rx
 obtain⟨t,rfl⟩:=ry
 obtain⟨its,r,pt,_⟩:=I.tuple hq
 have hl:=r.length
 obtain⟨⟨cls,dd,data,sl⟩,e,hc,n,hd⟩:=pt
 simp only at hc hd
 subst hc hd
 refine wpAny_binaryOp_repeat_ref (T:="tuple") (U:="int") (by decide) ⟨_,e,rfl⟩ (fun s'=>typeIs_int s' k t) F8 PySem.F.fills_int_mul PySem.F.slot_int_rmul Lm PySem.F.slot_int_index.lookup
  (call_meets PySem.F.slot_int_rmul (typeIs_int s k t) PySem.F.entry_int_rmul (PySem.F.args_int_rmul_2 _ _) (Hr k t l its.toArray n dd sl) ⟨e,rfl,⟨_,e,rfl⟩,?_⟩)
 by_cases he:xs=[]
 ·have hi:its=[]:=by subst he;exact List.length_eq_zero_iff.mp (by simpa using hl.symm)
  exact call_meets PySem.F.slot_tuple_mul ⟨_,e,rfl⟩ PySem.F.entry_tuple_mul (PySem.F.args_tuple_mul_2 _ _) (Ic l its.toArray n dd sl k t h1 h2 (by rw[hi];rfl)) ⟨e,.ref l,H,I,rfl,q0 he⟩
 ·have hi:its≠[]:=fun z=>he (List.length_eq_zero_iff.mp (by rw[hl,z];rfl))
  refine call_meets PySem.F.slot_tuple_mul ⟨_,e,rfl⟩ PySem.F.entry_tuple_mul (PySem.F.args_tuple_mul_2 _ _) (Jf l its.toArray n dd sl k t h1 h2 (by cases its with|nil=>exact absurd rfl hi|cons a r=>rfl) (by rw[List.size_toArray,<-hl];exact hz)) ⟨e,?_⟩
  have f0:=Ge its k.toNat []
  rw[List.nil_append] at f0
  have f1:List.foldl (fun x1 x2=>x1++x2) #[] (List.replicate k.toNat its.toArray)=(List.replicate k.toNat its).flatten.toArray:=f0
  rw[f1]
  exact⟨.ref _,_,I.laid (o:=.tup (List.replicate k.toNat xs).flatten) (t':=s.toks) (fun _ _ q=>Heap.get?_push_of_some _ q) (Nat.le_refl _) ⟨by rw[O9,Nat.mul_comm];exact hz,_,r.rep k.toNat,TupN.new _ _⟩,rfl,q1 he _ I.fresh⟩
end L2
end
section
namespace TL
open PySem PySem.Spec PyProof.Rows L2
def Xw:T->T->TH->UX->Prop:=fun x y S P=>match x,y with
 | .tup ts,.int n=>2<=n/\n<2 ^ 63/\ts.length * n.toNat<=sizeLine/\P (.tup (List.replicate n.toNat ts).flatten) S
 |_,_=>False
theorem lRepT{K:PySem.W.Frag}:LOp K (X1 K) Xw:=fun S H v w x y P Q g rx ry ho fin=>by
 cases x with
 |tup ts =>
  cases y with
  |int n =>
   obtain⟨h1,h2,h3,h⟩:=ho
   obtain⟨a,vs,rfl,f,r⟩:=id rx.tupE
   cases ry
   refine⟨a,n,vs,rfl,rfl,f.sq,h1,h2,by rw[r.1];exact h3,fun z=>?_,fun _ p hp=>C2 fin g hp (Ir r _) h⟩
   have zt:ts=[]:=List.length_eq_zero_iff.mp (by rw[<-r.1,z];rfl)
   subst zt
   have e:(List.replicate n.toNat ([]:List T)).flatten=[]:=by simp
   rw[e] at h
   exact fin _ _ S H .refl g rx h
  |_=>exact ho.elim
 |_=>exact ho.elim
section
variable{X:Cx}{a b:Expr}{ta tb:UTE}{pos:Pos}
theorem G6(ha:UE X a ta)(hb:UE X b tb):UE X (.BinOp a .Mult b pos) (Bb Xw ta tb):=Dl V9 lRepT ha hb
end
section
variable{X:Cx}{e:Expr}{es:List Expr}{tr:UTA}{pos p:Pos}{x:Str}{S0:TH}{H0:Hp}{E:XK}{R:UR}
theorem Gh{k:Nat}{ps:List Str}{t:List T->TH->UX->UR->Prop}(h:Gz X.prog X.w X.K X.mg X.base k x ps t)(hr:Room k X.A)(hg:Gl X x)(hp:Gn (CXE X.prog X.w) X E)(hw:XW X.K S0 H0 R E)(ha:UA X (e::es) tr)(hdb:(x==("__debug__":Str))=false:=by decide)(he:starEach (e::es) X.env=(false,eval e X.env)::starEach es X.env:=by rfl)
  (hpl:(backTo pos (starEach es X.env)).any (·.1)=false:=by rfl):UEX X S0 H0 (.Call (.Name x p) (e::es) [] pos) (Ur t R tr):=by
 obtain⟨f,fd,F,b,kp,hm⟩:=h
 exact Su F hr hg hm kp b hp hw ha hdb he hpl
end
def cAt(mg:Str->Option Value)(x:Str):Addr:=match mg x with
 |some (.ref a)=>a
 |_=>0
abbrev Jq:List Value:=[.type "ValueError",.type "Exception",.type "BaseException",.type "object"]
section
variable{K:PySem.W.Frag}{h:Heap}{mg:Str->Option Value}{x y:Str}{C D:Addr}
theorem Ca(X:K.In h)(G:h.Ns mainGlobals mg)(a:PySem.W.nsIn K mainGlobals x=some (some (.ref C))):cAt mg x=C:=by unfold cAt;rw[PySem.W.mg_of X G a]
theorem D8(X:K.In h)(G:h.Ns mainGlobals mg)(a:PySem.W.nsIn K mainGlobals x=some (some (.ref C))):mg x=some (.ref (cAt mg x)):=by rw[Ca X G a];exact PySem.W.mg_of X G a
theorem D6(X:K.In h)(G:h.Ns mainGlobals mg)(a:PySem.W.nsIn K mainGlobals x=some (some (.ref C)))(q:PySem.W.excIn K C Jq "ValueError.__new__"=true):PySem.W.excIn K (cAt mg x) Jq "ValueError.__new__"=true:=by rw[Ca X G a];exact q
theorem Na(X:K.In h)(G:h.Ns mainGlobals mg)(a:PySem.W.nsIn K mainGlobals x=some (some (.ref C)))(q:ExD K C):ExD K (cAt mg x):=by rw[Ca X G a];exact q
theorem V7(X:K.In h)(G:h.Ns mainGlobals mg)(a:PySem.W.nsIn K mainGlobals x=some (some (.ref C)))(q:PySem.W.ktsIn K C "BaseException"=true):PySem.W.ktsIn K (cAt mg x) "BaseException"=true:=by rw[Ca X G a];exact q
theorem K9(X:K.In h)(G:h.Ns mainGlobals mg)(a:PySem.W.nsIn K mainGlobals x=some (some (.ref C)))(b:PySem.W.nsIn K mainGlobals y=some (some (.ref D)))(q:subIn K C D=true):subIn K (cAt mg x) (cAt mg y)=true:=by rw[Ca X G a,Ca X G b];exact q
theorem Cy(X:K.In h)(G:h.Ns mainGlobals mg)(a:PySem.W.nsIn K mainGlobals x=some (some (.ref C)))(b:PySem.W.nsIn K mainGlobals y=some (some (.ref D))){k:Bool}(q:PySem.W.kitOne K (.ref C) (.ref D)=some k):PySem.W.kitOne K (.ref (cAt mg x)) (.ref (cAt mg y))=some k:=by rw[Ca X G a,Ca X G b];exact q
theorem K0(X:K.In h)(G:h.Ns mainGlobals mg)(a:PySem.W.nsIn K mainGlobals x=some (some (.ref C))){c:String}{k:Bool}(q:PySem.W.kitOne K (.ref C) (.type c)=some k):PySem.W.kitOne K (.ref (cAt mg x)) (.type c)=some k:=by rw[Ca X G a];exact q
end
end TL
end
section
namespace L2
open PySem PySem.Spec PyProof.Rows
end L2
namespace HT
open PySem PySem.Spec PyProof.Rows
section
variable{prog:Program}{w:World}{A:Around}{E:Value->Shared->Prop}{s:Shared}
theorem getItem_tuple_all{t sl:Addr}{items:Array Value}{vl vu:Value}{lo hi:Option Int}{Q:Value->Shared->Prop}(ht:IsTup s.heap t items)(hs:s.heap.IsSliceOf sl vl vu .none)(pl:IsPart vl lo)(pu:IsPart vu hi)
  (hw:sIx items.size 0 lo=0/\sIx items.size items.size hi=items.size) (h:Q (.ref t) s):wpAny (model prog w) A (getItem (.ref t) (.ref sl)) Q E s:=by
 obtain⟨os,hos,hcs,hds⟩:=id hs
 have hTs:s.TypeIs (.ref sl) "slice":=⟨os,hos,hcs⟩
 obtain⟨ot,hot,hct,nt,hdt⟩:=id ht
 unfold getItem
 try with_reducible refine wpAny_holding ?_
 first|refine wpAny_bind (wpAny_pure ?_)|skip
 refine wpAny_bind (wpAny_sequenceKey ht.typeIs (by decide) ?_)
 refine wpAny_bind (wpAny_callSpecial?_slot (name:=Str.ofString "__getitem__") ht.typeIs PyProof.Rows.slot_tuple_getitem
  (wpAny_call_entry PyProof.Rows.slot_tuple_getitem ht.typeIs entry_tuple_getitem ?_ (args_tuple_getitem _ _)))
 show wpAny _ _ (Builtin.Tuple.tupleItemsOf (.ref t) >>= _) _ _ s
 refine wpAny_bind (tupleItemsOf_ ht ?_)
 refine wpAny_bind (wpAny_typeOf hTs ?_)
 rw[if_pos (by decide)]
 refine wpAny_bind (Do hs pl pu ?_)
 have hyes:(((sIx items.size 0 lo:Nat):Int)==0&&(1:Int)==1&&(sIx items.size items.size hi - sIx items.size 0 lo)==items.size)=true:=by
  rw[hw.1,hw.2];simp
 show wpAny _ _ (if (((sIx items.size 0 lo:Nat):Int)==0&&(1:Int)==1&&(sIx items.size items.size hi - sIx items.size 0 lo)==items.size)=true then _ else _) _ _ s
 rw[if_pos hyes]
 refine wpAny_bind (m:=Builtin.Tuple.tupleIsExact (.ref t)) (wpAny_bind (wpAny_typeOf ht.typeIs (wpAny_pure ?_)))
 rw[if_pos (by decide)]
 exact wpAny_bind (wpAny_rule (wpAny_pure ⟨_,rfl,wpAny_pure h⟩))
end
end HT
namespace L2
open PySem PySem.Spec PyProof.Rows
section
variable{X:Cx}
def rSlA(K:PySem.W.Frag):V->Option Int->Option Int->Hp->VK->Prop:=fun x lo hi H Q=>∃a xs,x=.ref a/\SqT K H a xs ∧
 ((HT.sIx xs.length 0 lo=0/\HT.sIx xs.length xs.length hi=xs.length)->Q (.ref a) H)/\(¬ (HT.sIx xs.length 0 lo=0/\HT.sIx xs.length xs.length hi=xs.length)->∀p,H p=none->Q (.ref p) (upd H p (.tup (K4 xs lo hi))))
theorem U8:SlR X (rSlA X.K):=by
 intro pins s σ H x v vl vu lo hi sl Q I rx hs pl pu h
 obtain⟨a,xs,rfl,hx,q0,q1⟩:=h
 by_cases hw:HT.sIx xs.length 0 lo=0/\HT.sIx xs.length xs.length hi=xs.length
 ·cases rx
  obtain⟨its,r,ht,hz⟩:=I.tuple hx
  have hlen:its.toArray.size=xs.length:=by rw[List.size_toArray];exact r.length.symm
  refine⟨"tuple",_,PyProof.Rows.slot_tuple_getitem.lookup,ht.typeIs,?_⟩
  exact HT.getItem_tuple_all ht hs pl pu (by rw[hlen];exact hw) ⟨.ref a,H,I,rfl,q0 hw⟩
 ·exact sl_tup pins s σ H _ v vl vu lo hi sl Q I rx hs pl pu ⟨a,xs,rfl,hx,hw,q1 hw⟩
end
end L2
end
section
namespace TL
open PySem PySem.Spec PyProof.Rows L2
section
variable{X:Cx}{o e a:Expr}{to:UTE}{tr:UTA}{apos cpos pos p:Pos}
def oSlT(x:T)(lo hi:Option Int)(S:TH)(P:UX):Prop:=match x with
 | .tup ts=>P (.tup (cutA ts lo hi)) S
 |_=>False
def uSlT(te:UTE)(tl th:UTO):UTE:=fun env S P=>te env S fun x S1=>tl env S1 fun l S2=>th env S2 fun u S3=>oSlT x l u S3 P
theorem Vx{α:Type}{ts:List α}{lo hi:Option Int}(h:HT.sIx ts.length 0 lo=0/\HT.sIx ts.length ts.length hi=ts.length):cutA ts lo hi=ts:=by
 unfold cutA
 rw[h.1,h.2]
 simp
theorem Bu{lo hi:Option Expr}{te:UTE}{tl th:UTO}{p2:Pos}(he:UE X e te)(hl:UO X lo tl)(hh:UO X hi th):UE X (.Subscript e (.Slice lo hi none p2) pos) (uSlT te tl th) :=
 PE.imp (Mo U8 he hl hh) fun σ H Q ⟨S,env,P,g,re,h,fin⟩=>Za ⟨g,re⟩ h fun v x S1 H1 le1 m1 rx h1 =>
  ⟨S1,env,_,m1.g,m1.re,h1,fun l S2 H2 le2 g2 h2=>⟨S2,env,_,g2,m1.re.mono le2,h2,fun u S3 H3 le3 g3 h3=>by
   have rx3:=rx.mono (le2.trans le3)
   have le:=le1.trans (le2.trans le3)
   cases x with
   |tup ts =>
    obtain⟨a,vs,rfl,f,r⟩:=rx3.tupE
    refine⟨a,vs,rfl,f.sq,fun e=>?_,fun _ p hp=>C2 (fin.le le) g3 hp (r.cut _ _) h3⟩
    have h3:P (.tup (cutA ts l u)) S3:=h3
    rw[Vx (by rw[<-r.1];exact e)] at h3
    exact fin _ _ S3 H3 le g3 rx3 h3
   |_=>exact h3.elim⟩⟩
end
end TL
end
section
namespace L2
open PySem PySem.Spec PyProof.Rows
end L2
namespace PySem
open Sem (wp)
end PySem
namespace L2
open PySem PySem.Spec PyProof.Rows
end L2
end
section
namespace L2
open PySem PySem.Spec PyProof.Rows
end L2
end
section
namespace L2
open PySem PySem.Spec PyProof.Rows
end L2
end
section
namespace L2
open PySem PySem.Spec PyProof.Rows
end L2
end
section
namespace L2
open PySem PySem.Spec PyProof.Rows
end L2
namespace TL
open PySem PySem.Spec PyProof.Rows L2
end TL
end
section
namespace L2
open PySem PySem.Spec PyProof.Rows
end L2
end
section
namespace L2
open PySem PySem.Spec PyProof.Rows
open Sem (wp)
end L2
end
section
namespace TL
open PySem PySem.Spec PyProof.Rows L2
end TL
end
section
namespace L2
open PySem PySem.Spec PyProof.Rows
end L2
end
section
namespace L2
open PySem PySem.Spec PyProof.Rows
end L2
end
section
namespace TL
open PySem PySem.Spec PyProof.Rows L2
section
variable{X:Cx}{S0:TH}{H0:Hp}{o e c:Expr}{es:List Expr}{aa bb:List Stmt}{te to:UTE}{t u:UTS}{tA:UTT}{tr:UTA}{pos p apos:Pos}{E:XK}{R:UR}{k:Nat}{C:Addr}{m:Str}{ps:List Str}
theorem Gj{q:Prop}{sts:List Stmt}(h:q->USs X sts t):USs X sts fun E env S=>q/\t E env S:=fun pins s σ H D I ⟨S,env,E,g,re,⟨hq,h1⟩,fin⟩=>h hq pins s σ H D I ⟨S,env,E,g,re,h1,fin⟩
theorem Cv:bootBuiltins "ValueError"=some (.type "ValueError"):=by rfl
end
end TL
end
section
namespace L2
open PySem PySem.Spec PyProof.Rows
end L2
end
section
namespace TL
open PySem PySem.Spec PyProof.Rows L2
end TL
end
section
namespace TL
open PySem PySem.Spec PyProof.Rows L2
end TL
end
section
namespace TL
open PySem PySem.Spec PyProof.Rows L2
end TL
end
section
namespace L2
open PySem PySem.Spec PyProof.Rows
end L2
namespace L2
open PySem PySem.Spec PyProof.Rows
end L2
end
section
namespace TL
open PySem PySem.Spec PyProof.Rows L2
end TL
end
section
namespace L2
open PySem PySem.Spec PyProof.Rows
end L2
end
section
namespace TL
open PySem PySem.Spec PyProof.Rows L2
end TL
end
section
namespace L2
open PySem PySem.Spec PyProof.Rows
section
variable{prog:Program}{w:World}{A:Around}{E:Value->Shared->Prop}{s:Shared}
theorem T8{b:Bool}{Q:Value->Shared->Prop}(h:Q (.int (-(if b=true then (1:Int) else 0)) s.toks) { s with toks:=s.toks+1 }):wpAny (model prog w) A (unaryOp .USub (.bool b)) Q E s :=
 unaryOp_gives (op:=.USub) (m:=.int (-(if b=true then (1:Int) else 0))) (PySem.typeIs_bool s b) rfl F.slot_bool_neg F.entry_int_neg (F.args_int_neg_1 _) (.of_eq (by cases b <;> rfl)) h
theorem My{b:Bool}{Q:Value->Shared->Prop}(h:Q (.str (if b then "True" else "False") s.toks) { s with toks:=s.toks+1 }):wpAny (model prog w) A (call (.type "str") [.bool b]) Q E s :=
 callType_new F.called_str (by decide) (F.typeCall_str_1 _) (F.newCall_str_1 _) (fun obj=>F.args_object_init_2 obj _) F.entry_str_new
  (PySem.meets_str_new (S:=fun _ R s=>R (.ok (.ret (.str (if b then "True" else "False") s.toks))) { s with toks:=s.toks+1 }) fun _ _ _ _ s hq =>
   wpAny_strOf_gives rfl (PySem.typeIs_bool s b) F.slot_bool_str F.slot_bool_repr F.entry_bool_repr (F.args_bool_repr_1 _) (gives_bool_repr b) hq (hsz:=by cases b <;> decide)) ⟨typeIs_str _ _ _,h⟩
end
section
variable{X:Cx}
def ib(b:Bool):Int:=if b=true then 1 else 0
theorem Vd:UnR X (unaryOp .USub) (fun x H Q=>(∃i,x=.int i/\Q (.int (-i)) H)\/∃b,x=.bl b/\Q (.int (-(ib b))) H):=by
 intro pins s σ H x v Q I rx h
 rcases h with⟨i,rfl,q⟩|⟨b,rfl,q⟩
 ·obtain⟨t,rfl⟩:=rx
  exact neg_int ⟨.int (-i),H,I.tok _,⟨_,rfl⟩,q⟩
 ·cases rx
  exact T8 ⟨.int (-(ib b)),H,I.tok _,⟨_,rfl⟩,q⟩
theorem Ve:OpR X (binaryOp .Add) (fun x y H Q=>∃b j,x=.bl b/\y=.int j/\Q (.int (ib b+j)) H):=by
 intro pins s σ H x y v u Q I rx ry h
 obtain⟨b,j,rfl,rfl,q⟩:=h
 cases rx
 obtain⟨t,rfl⟩:=ry
 exact PySem.IntBool.add_bool_int ⟨.int (ib b+j),H,I.tok _,⟨_,rfl⟩,q⟩
theorem Wi:OpR X (binaryOp .Sub) (fun x y H Q=>∃b j,x=.bl b/\y=.int j/\Q (.int (ib b - j)) H):=by
 intro pins s σ H x y v u Q I rx ry h
 obtain⟨b,j,rfl,rfl,q⟩:=h
 cases rx
 obtain⟨t,rfl⟩:=ry
 exact PySem.IntBool.sub_bool_int ⟨.int (ib b - j),H,I.tok _,⟨_,rfl⟩,q⟩
theorem Qa:CallR X (.type "str") (fun xs H Q=>(∃i,xs=[.int i]/\i.natAbs.log2<1920/\Q (.str (toString i)) H)\/∃b,xs=[.bl b]/\Q (.str (if b then "True" else "False")) H):=by
 intro pins s σ H xs us Q I r h
 rcases h with h|⟨b,rfl,q⟩
 ·exact Lg pins s σ H xs us Q I r h
 ·obtain⟨u,rfl,ru⟩:=E3 r
  cases ru
  exact My ⟨.str _,H,I.tok _,⟨_,rfl⟩,q⟩
end
end L2
namespace TL
open PySem PySem.Spec PyProof.Rows L2
section
variable{X:Cx}{a b:Expr}{ta tb:UTE}{pos:Pos}
def nIB:T->Option Int
 | .int i=>some i
 | .bl b=>some (ib b)
 |_=>none
def oNegB:T->TH->UX->Prop:=fun x S P=>∃i,nIB x=some i/\P (.int (-i)) S
theorem U5(ha:UE X a ta):UE X (.UnaryOp .USub a pos) (uUn oNegB ta):=PE.imp (Sy Vd ha) fun σ H Q ⟨S,env,P,g,re,h,fin⟩=>by
 refine Za ⟨g,re⟩ h fun v x S1 H1 le1 m1 rx h1=>?_
 obtain⟨i,e,h1⟩:=h1
 cases x with
 |int j=>cases e;cases rx;exact .inl ⟨_,rfl,fin _ _ S1 H1 le1 m1.g (.int _) h1⟩
 |bl b=>cases e;cases rx;exact .inr ⟨_,rfl,fin _ _ S1 H1 le1 m1.g (.int _) h1⟩
 |_=>cases e
def Z9:T->T->TH->UX->Prop:=fun x y S P=>∃i j,nIB x=some i/\y=.int j/\P (.int (i+j)) S
theorem Mt(ha:UE X a ta)(hb:UE X b tb):UE X (.BinOp a .Add b pos) (Bb Z9 ta tb):=Dl (op_add.or Ve) (fun S H v w x y P Q g rx ry ho fin=>by
 obtain⟨i,j,e,rfl,ho⟩:=ho
 cases x with
 |int k=>cases e;cases rx;cases ry;exact .inl ⟨_,_,rfl,rfl,fin _ _ S H .refl g (.int _) ho⟩
 |bl k=>cases e;cases rx;cases ry;exact .inr ⟨_,_,rfl,rfl,fin _ _ S H .refl g (.int _) ho⟩
 |_=>cases e) ha hb
def oSubB:T->T->TH->UX->Prop:=fun x y S P=>∃i j,nIB x=some i/\y=.int j/\P (.int (i - j)) S
theorem V4(ha:UE X a ta)(hb:UE X b tb):UE X (.BinOp a .Sub b pos) (Bb oSubB ta tb):=Dl (op_sub.or Wi) (fun S H v w x y P Q g rx ry ho fin=>by
 obtain⟨i,j,e,rfl,ho⟩:=ho
 cases x with
 |int k=>cases e;cases rx;cases ry;exact .inl ⟨_,_,rfl,rfl,fin _ _ S H .refl g (.int _) ho⟩
 |bl k=>cases e;cases rx;cases ry;exact .inr ⟨_,_,rfl,rfl,fin _ _ S H .refl g (.int _) ho⟩
 |_=>cases e) ha hb
def sIB:T->Str
 | .int i=>toString i
 | .bl b=>if b then "True" else "False"
 |_=>""
def oStrB(xs:List T)(S:TH)(P:UX):Prop:=∃x i,xs=[x]/\nIB x=some i/\i.natAbs.log2<1920/\P (.str (sIB x)) S
theorem U2{tr:UTA}{p:Pos}(hg:Gl X "str")(hm:X.mg "str"=none)(ha:UA X [a] tr)(he:starEach [a] X.env=(false,eval a X.env)::starEach [] X.env:=by rfl):UE X (.Call (.Name "str" p) [a] [] pos) (Bq oStrB tr) :=
 Em Qa (fun S H vs xs P Q g r ho fin=>by
  obtain⟨x,i,rfl,e,hl,ho⟩:=ho
  obtain⟨v,rfl,rx⟩:=r.one
  cases x with
  |int k=>cases e;cases rx;exact .inl ⟨_,rfl,hl,fin _ _ S H .refl g (.str _) ho⟩
  |bl k=>cases e;cases rx;exact .inr ⟨_,rfl,fin _ _ S H .refl g (.str _) ho⟩
  |_=>cases e) hg hm boot_str ha (he:=he)
end
section
variable{K:PySem.W.Frag}{S:TH}{H:Hp}
theorem Qc:∀{n:Nat} {v w:V} {t u:T} {m:Nat},VQ K S H v t->VQ K S H w u->DatQ m t->DatQ n u->EqD K H n v w (teq n t u):=by
 intro n
 induction n with
 |zero =>
  intro v w t u m h1 h2 d1 d2
  have e0:teq 0 t u=(plT t&&plT u&&pEqT t u):=by unfold teq;rfl
  rw[e0]
  cases d2 with
  |p p2 =>
   cases h2 with
   |p _ r2 =>
    cases h1 with
    |p p1 r1 =>
     have q:=EqD.pp (K:=K) (H:=H) (n:=0) (Ce p1 r1) (Ce p2 r2)
     rw[La p1 p2 r1 r2] at q
     rw[p1,p2]
     exact q
    |l e q _=>rw[Cr e];exact .lp q (Ce p2 r2)
    |t e q _=>rw[Cr e];exact .tp q (Ce p2 r2)
   |l e _ _=>rw[Cr e] at p2;cases p2
   |t e _ _=>rw[Cr e] at p2;cases p2
 |succ n ih =>
  intro v w t u m h1 h2 d1 d2
  have sqn:∀{t:T},plT t=true->sqT t=none:=fun {t} h=>by cases t <;> first|rfl|cases h
  have at':∀{vs:List V} {ts:List T} {i:Nat} {x:V},Reps K S H vs ts->vs[i]?=some x->ts[i]?=some (ts.getD i .non)/\Rep K S H x (ts.getD i .non):=fun {vs ts i x} r e=>by
   have hi:=(List.getElem?_eq_some_iff.mp e).1
   have hl:=r.1
   have e2:ts[i]?=some (ts.getD i .non):=by
    rw[List.getD_eq_getElem?_getD,List.getElem?_eq_getElem (by omega)];rfl
   exact⟨e2,r.2 i x _ e e2⟩
  have in':∀{vs ws:List V} {ts us:List T},Reps K S H vs ts->Reps K S H ws us->(∃m,∀x∈ts,DatQ m x)->(∀x∈us,DatQ n x)->∀(i:Nat) x y,vs[i]?=some x->ws[i]?=some y->EqD K H n x y (teq n (ts.getD i .non) (us.getD i .non)):=fun r r' g g' i x y ex ey=>by
   obtain⟨a1,a2⟩:=at' r ex
   obtain⟨b1,b2⟩:=at' r' ey
   obtain⟨mm,g⟩:=g
   have m1:=g _ (List.mem_of_getElem? a1)
   have m2:=g' _ (List.mem_of_getElem? b1)
   exact ih (m1.view a2) (m2.view b2) m1 m2
  unfold teq
  cases h1 with
  |p p1 r1 =>
   rw[sqn p1,p1]
   cases h2 with
   |p p2 r2 =>
    rw[p2]
    have q:=EqD.pp (K:=K) (H:=H) (n:=n+1) (Ce p1 r1) (Ce p2 r2)
    rw[La p1 p2 r1 r2] at q
    exact q
   |l e q _=>rw[Cr e];exact .pl (Ce p1 r1) q
   |t e q _=>rw[Cr e];exact .pt (Ce p1 r1) q
  | @l a vs _ ts e q r =>
   obtain⟨m1,em,g⟩:=d1.kids e
   have g:∃m,∀x∈ts,DatQ m x:=⟨m1,g⟩
   rw[e]
   cases h2 with
   |p p2 r2=>rw[sqn p2,Cr e];exact .lp q (Ce p2 r2)
   | @l b ws _ us e' q' r' =>
    obtain⟨m',em',g'⟩:=d2.kids e'
    cases em'
    rw[e']
    have l1:=r.1
    have l2:=r'.1
    by_cases hl:ts.length=us.length
    ·have z:=EqD.ll (K:=K) (H:=H) (fun i=>teq n (ts.getD i .non) (us.getD i .non)) q q' (by omega) (in' r r' g g')
     rw[l1] at z
     simpa [hl] using z
    ·have z:=EqD.ln (K:=K) (H:=H) (n:=n+1) q q' (by omega)
     have hb:(ts.length==us.length)=false:=by simpa using hl
     simpa [hb] using z
   | @t b ws _ us e' q' r'=>rw[e'];exact .lt q q'
  | @t a vs _ ts e q r =>
   obtain⟨m1,em,g⟩:=d1.kids e
   have g:∃m,∀x∈ts,DatQ m x:=⟨m1,g⟩
   rw[e]
   cases h2 with
   |p p2 r2=>rw[sqn p2,Cr e];exact .tp q (Ce p2 r2)
   | @l b ws _ us e' q' r'=>rw[e'];exact .tl q q'
   | @t b ws _ us e' q' r' =>
    obtain⟨m',em',g'⟩:=d2.kids e'
    cases em'
    rw[e']
    have l1:=r.1
    have l2:=r'.1
    have z:=EqD.tt (K:=K) (H:=H) (fun i=>teq n (ts.getD i .non) (us.getD i .non)) q q' (in' r r' g g')
    rw[l1,l2] at z
    by_cases hl:ts.length=us.length
    ·simpa [hl] using z
    ·have hb:(ts.length==us.length)=false:=by simpa using hl
     simpa [hb] using z
def oEqU(neg:Bool):T->T->TH->UX->Prop:=fun x y S P=>∃n m,n<=60/\DatQ m (cv S x)/\DatQ n (cv S y)/\P (.bl (Bool.xor neg (teq n (cv S x) (cv S y)))) S
theorem lEqU{neg:Bool}:LOp K (rEqG K neg) (oEqU neg):=fun S H v w x y P Q g rx ry ho fin=>by
 obtain⟨n,m,hn,d1,d2,h⟩:=ho
 exact⟨n,_,hn,Qc (Hg g rx d1) (Hg g ry d2) d1 d2,fin _ _ S H .refl g (.bl _) h⟩
end
section
variable{X:Cx}{a b:Expr}{ta tb:UTE}{pos:Pos}
theorem Aaa(hu:X.A.units+64<cLine)(ha:UE X a ta)(hb:UE X b tb):UT X (.Compare a [.Eq] [b] pos) (Bk (Bb (oEqU false) ta tb)):=Ee (Ry hu) lEqU ha hb (Dj _)
end
section
variable{X:Cx}
theorem T6{sts:List Stmt}{t u:UTS}(h1:USs X sts t)(h2:USs X sts u):USs X sts fun E env S=>t E env S\/u E env S:=fun pins s σ H D I ⟨S,env,E,g,re,h,fin⟩ =>
 h.elim (fun h=>h1 pins s σ H D I ⟨S,env,E,g,re,h,fin⟩) fun h=>h2 pins s σ H D I ⟨S,env,E,g,re,h,fin⟩
end
section
variable{K:PySem.W.Frag}{h:Heap}{mg:Str->Option Value}{x a b c d:Str}{C A1 A2 A3 A4:Addr}
theorem Iy(X:K.In h)(G:h.Ns mainGlobals mg)(e:PySem.W.nsIn K mainGlobals x=some (some (.ref C)))(e1:PySem.W.nsIn K mainGlobals a=some (some (.ref A1)))(e2:PySem.W.nsIn K mainGlobals b=some (some (.ref A2)))(e3:PySem.W.nsIn K mainGlobals c=some (some (.ref A3)))(e4:PySem.W.nsIn K mainGlobals d=some (some (.ref A4))){k:Bool}(q:PySem.W.kitAny K (.ref C) [.ref A1,.ref A2,.ref A3,.ref A4]=some k):PySem.W.kitAny K (.ref (cAt mg x)) [.ref (cAt mg a),.ref (cAt mg b),.ref (cAt mg c),.ref (cAt mg d)]=some k:=by
 rw[Ca X G e,Ca X G e1,Ca X G e2,Ca X G e3,Ca X G e4];exact q
end
end TL
end
section
namespace L2
open PySem PySem.Spec PyProof.Rows
theorem N2{acc:Array Value}{n:Nat}(h:ItemsOf (fun i v=>∃t,v=.int (0+i * 1) t) acc n):Vals ((List.range n).map fun i:Nat=>V.int (i:Int)) acc.toList:=by
 obtain⟨hz,hi⟩:=h
 have go:∀(l:List Value) (k:Nat),(∀(j:Nat) v,l[j]?=some v->∃t,v=.int ((k:Int)+j) t)->Vals ((List.range' k l.length).map fun i:Nat=>V.int (i:Int)) l:=by
  intro l
  induction l with
  |nil=>intro k _;exact .nil
  |cons x r ih =>
   intro k hk
   rw[List.length_cons,List.range'_succ,List.map_cons]
   refine .cons ?_ (ih (k+1) fun j v e=>?_)
   ·obtain⟨t,e⟩:=hk 0 x rfl
    rw[e]
    exact⟨t,by simp⟩
   ·obtain⟨t,e'⟩:=hk (j+1) v e
    exact⟨t,by rw[e'];congr 1;omega⟩
 have hl:acc.toList.length=n:=by rw[Array.length_toList];exact hz
 have q:=go acc.toList 0 fun j v e=>by
  obtain⟨t,e'⟩:=hi j v (by rw[<-Array.getElem?_toList];exact e)
  exact⟨t,by rw[e'];congr 1;omega⟩
 rw[hl,<-List.range_eq_range'] at q
 exact q
end L2
end
section
namespace L2
open PySem PySem.Spec PyProof.Rows
open Sem (wp)
section
variable{prog:Program}{w:World}{A:Around}{E:Value->Shared->Prop}{s:Shared}{r:Addr}{a b c:Int}{t u v:Tok}{n:Nat}
abbrev RgI(a c:Int):Nat->Value->Prop:=fun i x=>∃k,x=.int (a+i * c) k
theorem Jp{G:List Value->Shared->Prop}(hA:A.handled=none)(hR:IsRange s.heap r a b c t u v)(sm:Builtin.Range.small a b c=true)(hn:Builtin.Range.rangeSize a b c=n)(hl:n<=2 ^ 24)
  (go:∀(g:Heap) (k:Nat) (acc:Array Value),(∀b o,s.heap.get? b=some o->g.get? b=some o)->ItemsOf (RgI a c) acc n->G acc.toList { s with heap:=g,toks:=k }):wpAny (model prog w) A (collect (.ref r)) G E s:=by
 unfold collect
 refine wpAny_bind (wpAny_runValue (codeAny_builtin entry_proto_collect' ?_));rw[Around.under_plainId PySem.F.plain_proto_collect _]
 show wpAny _ A.in1 (newList [] >>= fun z=>again (.builtin "list.__iadd__" ⟨[z,.ref r],[]⟩)) _ _ s
 refine wpAny_bind (wpAny_newObj_type (wpAny_pure ⟨plainId_quiet PySem.F.plain_list_iadd _,codeAny_builtin entry_list_iadd' ?_⟩))
 rw[Around.under_plainId PySem.F.plain_list_iadd _];show wpAny _ A.in1 (Builtin.List.listExtendWith (.ref s.heap.objs.size) (.ref r) (.ref s.heap.objs.size)) _ _ _
 have run:=wpAny_extend_range (prog:=prog) (w:=w) (A:=A) (s:={ s with heap:=s.heap.push { cls:=.type "list",data:=.seq ([]:List Value).toArray } })
  (R:=fun (q:Result) (z:Shared)=>∃(g:Heap) (k:Nat) (acc:Array Value) (m:Nat),q=.ok (.ret (.ref s.heap.objs.size))/\z={ s with heap:=g,toks:=k }/\(∀b o,s.heap.get? b=some o->g.get? b=some o)/\g.get? s.heap.objs.size=some { cls:=.type "list",dict:=none,data:=.seq acc m,slots:=#[] }/\ItemsOf (RgI a c) acc n)
  hA (Heap.get?_push_of_some _ hR) sm hn hl s.heap.objs.size (.ref s.heap.objs.size) 0 (Heap.get?_push_size _ rfl) (fun g k acc m kp at' it=>⟨g,k,acc,m,rfl,rfl,fun b o e=>kp b o (Nat.ne_of_lt (Heap.lt_size e)) (Heap.get?_push_of_some _ e),at',it⟩)
 refine wpAny_mono run (fun fin z x=>?_) fun e z x=>by obtain⟨_,_,_,_,q,_⟩:=x;cases q
 cases fin with
 |done f =>
  obtain⟨g,k,acc,m,e,rfl,kp,at',it⟩:=x;cases e
  show wpAny _ A (load s.heap.objs.size >>= _) _ _ _;exact wpAny_bind (wpAny_load at' (wpAny_pure (go g k acc kp it)))
 |again d =>
  refine⟨x.1,codeAny_mono x.2 fun q z y=>?_⟩;obtain⟨g,k,acc,m,rfl,rfl,kp,at',it⟩:=y
  show wpAny _ A (load s.heap.objs.size >>= _) _ _ _;exact wpAny_bind (wpAny_load at' (wpAny_pure (go g k acc kp it)))
theorem Gk{G:Value->Shared->Prop}(hA:A.handled=none)(hR:IsRange s.heap r a b c t u v)(sm:Builtin.Range.small a b c=true)(hn:Builtin.Range.rangeSize a b c=n)(hl:n<=2 ^ 24)(hz:n<=sizeLine)
  (go:∀(g:Heap) (k:Nat) (acc:Array Value),(∀b o,s.heap.get? b=some o->g.get? b=some o)->ItemsOf (RgI a c) acc n->G (.ref g.objs.size) { s with heap:=g.push { cls:=.type "tuple",data:=.seq acc },toks:=k }) :
  codeAny (model prog w) A (.call (.builtin "tuple.__new__") ⟨[.type "tuple",.ref r],[]⟩) (wants G E) s:=by
 refine codeAny_of_tree ?_
 show wpAny _ A.in1 (do checkBuiltinCall "tuple.__new__" ⟨[.type "tuple",.ref r],[]⟩;again (.builtin "tuple.__new__" ⟨[.type "tuple",.ref r],[]⟩)) _ _ s
 refine wpAny_bind (wpAny_of_eq (F.newCall_tuple_1 _) (wpAny_pure ⟨plainId_quiet F.plain_tuple_new _,codeAny_builtin F.entry_tuple_new ?_⟩))
 rw[Around.under_plainId F.plain_tuple_new _]
 have hsub:=sub_tuple_self
 have hinit:=init_tuple_lookup
 have hmh:=madeHere_tuple
 have hTI:s.TypeIs (.ref r) "range":=⟨_,hR,rfl⟩
 have hnt:(Value.type "range"==Value.type "tuple")=false:=by decide
 wp_walk using wpAny_typeOf hTI,Jp (A:=A.in1) hA hR sm hn hl
 intro g k acc kp it
 show wpAny _ _ (Builtin.Tuple.tupleExact acc.toList.toArray >>= fun z=>ret z) _ _ _
 unfold Builtin.Tuple.tupleExact
 refine wpAny_bind (wpAny_newObj_type (wpAny_pure ?_) (by show acc.toList.toArray.size<=sizeLine;simp only[Array.toArray_toList];rw[it.1];exact hz))
 have e:acc.toList.toArray=acc:=by simp
 rw[e]
 exact go g k acc kp it
theorem Ga{G:Value->Shared->Prop}(hA:A.handled=none)(hR:IsRange s.heap r a b c t u v)(sm:Builtin.Range.small a b c=true)(hn:Builtin.Range.rangeSize a b c=n)(hl:n<=2 ^ 24)(hz:n<=sizeLine)
  (go:∀(g:Heap) (k:Nat) (acc:Array Value),(∀b o,s.heap.get? b=some o->g.get? b=some o)->ItemsOf (RgI a c) acc n->G (.ref g.objs.size) { s with heap:=g.push { cls:=.type "tuple",data:=.seq acc },toks:=k }) :
  wpAny (model prog w) A (call (.type "tuple") [.ref r]) G E s:=by
 refine callType_codes (Q₁:=fun obj z=>z.TypeIs obj "tuple"/\G obj z) F.called_tuple (F.typeCall_tuple_1 _) F.entry_object_init
  (Gk hA hR sm hn hl hz fun g k acc kp it=>⟨⟨_,Heap.get?_push_size _ rfl,rfl⟩,go g k acc kp it⟩) fun obj z q=>?_
 exact⟨q.1,F.args_object_init_2 obj _,object_init_meets F.called_tuple.init.lookup F.called_tuple.made (by decide) prog w A.in1 _ z ⟨q.1,rfl,q.2⟩⟩
end
section
variable{X:Cx}
def tTupR(ta:TA):TE:=fun σ H Q=>ta σ H fun vs H1=>∃n:Nat,vs=[.int (n:Int)]/\n<=1000/\∀l,H1 l=none->Q (.ref l) (upd H1 l (.tup ((List.range n).map fun i:Nat=>V.int (i:Int))))
theorem Vc{a:Expr}{ta:TA}{p q pos pos':Pos}(hc:X.calm=true)(hg:Gl X "tuple")(hm:X.mg "tuple"=none)(hgr:Gl X "range")(hmr:X.mg "range"=none)(ha:PA X [a] ta)
  (hs:starEach [a] X.env=[(false,eval a X.env)]:=by rfl)
  (hs3:starEach [.Call (.Name "range" q) [a] [] pos'] X.env=(false,eval (.Call (.Name "range" q) [a] [] pos') X.env)::starEach [] X.env:=by rfl) :
  PE X (.Call (.Name "tuple" p) [.Call (.Name "range" q) [a] [] pos'] [] pos) (tTupR ta):=by
 intro pins s σ H Q I h
 refine wpAny_Call_Name_kw (Dk I hg hm boot_tuple ?_)
 refine PyProof.Rows.callWith_type1 ?_ hs3 rfl
 rw[hs3]
 show wpAny _ _ (spliced ((false,eval (.Call (.Name "range" q) [a] [] pos') X.env)::backTo pos (starEach [] X.env))) _ _ s
 refine Calls.spliced_cons ?_
 refine Call_ (Dk I hgr hmr boot_range (PyProof.Rows.callWith_type1 (thn (ha pos' pins s σ H _ I h) fun us s1 ⟨vs,H1,I1,r1,q1⟩=>?_) hs rfl))
 obtain⟨n,rfl,hn,hR⟩:=q1
 cases r1 with
 |cons r rr =>
  cases rr
  obtain⟨t,rfl⟩:=r
  refine call_range_1 ?_
  refine Calls.spliced_nil ?_
  refine Ga (n:=n) (I1.ok.hd hc) (IsRange.new ..) (small_one (by omega) (by omega) (by omega) (by omega)) (by rw[rangeSize_one];split <;> omega) (by omega) (Nat.le_of_lt (Xo hn)) fun g k acc kp it=>?_
  have r':=N2 it
  have hz:((List.range n).map fun i:Nat=>V.int (i:Int)).length<=sizeLine:=by
   rw[List.length_map,List.length_range];exact Nat.le_of_lt (Xo hn)
  have I2:Inv X pins σ H1 { s1 with heap:=s1.heap.push { cls:=.type "range",data:=.fields #[.int 0 s1.toks,.int (n:Int) t,.int 1 (s1.toks+1)] },toks:=s1.toks+1+1 }:=I1.kept fun b o e=>Heap.get?_push_of_some _ e
  have I3:Inv X pins σ H1 { s1 with heap:=g,toks:=k }:=I2.kept (t':=k) kp
  have ea:acc.toList.toArray=acc:=by simp
  exact⟨.ref g.objs.size,_,I3.laid (t':=k) (fun b o e=>Heap.get?_push_of_some _ e) (Nat.le_refl _) (show ObjOk X.prog X.w _ _ _ (.tup _) from⟨hz,acc.toList,r',by rw[ea];exact TupN.new _ _⟩),rfl,hR _ (I3.hok.fresh (Nat.le_refl _))⟩
end
end L2
namespace TL
open PySem PySem.Spec PyProof.Rows L2
section
variable{X:Cx}{e:Expr}{tr:UTA}{p q pos pos':Pos}
def uTupR(tr:UTA):UTE:=fun env S P=>tr env S fun ts S1=>∃n:Nat,ts=[.int (n:Int)]/\n<=1000/\P (.tup (E9 n)) S1
theorem Vl(hc:X.calm=true)(hg:Gl X "tuple")(hm:X.mg "tuple"=none)(hgr:Gl X "range")(hmr:X.mg "range"=none)(ha:UA X [e] tr)
  (hs:starEach [e] X.env=[(false,eval e X.env)]:=by rfl)
  (hs3:starEach [.Call (.Name "range" q) [e] [] pos'] X.env=(false,eval (.Call (.Name "range" q) [e] [] pos') X.env)::starEach [] X.env:=by rfl) :
  UE X (.Call (.Name "tuple" p) [.Call (.Name "range" q) [e] [] pos'] [] pos) (uTupR tr) :=
 PE.imp (Vc hc hg hm hgr hmr ha hs hs3) fun σ H Q ⟨S,env,P,g,re,h,fin⟩=>Ao ⟨g,re⟩ h fun vs xs S1 H1 le1 m1 rx h1=>by
  obtain⟨n,rfl,hn,h1⟩:=h1
  obtain⟨v,rfl,rv⟩:=rx.one
  cases rv
  refine⟨n,rfl,hn,fun l hl=>C2 (fin.le le1) m1.g hl ⟨?_,fun i v t e1 e2=>?_⟩ h1⟩
  ·rw[List.length_map,List.length_range,Zh]
  ·have hi:i<n:=by have:=(List.getElem?_eq_some_iff.mp e2).1;rw[Zh] at this;exact this
   rw[Cq hi] at e2
   rw[List.getElem?_map,List.getElem?_range hi] at e1
   cases e1;cases e2
   exact .int _
end
end TL
end
local macro_rules | `(tactic| and_intros)=>`(tactic| simp only [TL.uIf,TL.uOr,TL.Ch,TL.Jb,TL.Bk,TL.Bb,TL.uUn,TL.D4,TL.uC,TL.Bq,TL.Eg,TL.E7,TL.Jj,TL.Cd,TL.uSet,TL.D1,TL.D3,TL.E2,TL.Ez,TL.Jl,TL.Jm,TL.E4,TL.B9,TL.Jr,TL.uoN,TL.uoS,TL.Jo,TL.Ei,TL.Ew,TL.Di,TL.Xj,TL.Xk,TL.Je,TL.Dm,TL.Dy,TL.tyT,TL.okC,TL.isT,TL.Fx,TL.oII,TL.oIC,TL.Fl,TL.oIx,TL.Ja,TL.G0,TL.D0,TL.G4,TL.Ea,TL.oIn,TL.Gi,TL.Il,TL.Jc,TL.Xm,List.map_cons,List.map_nil,List.length_cons,List.length_nil,List.replicate,List.cons_append,List.nil_append,List.append_nil,List.getElem?_cons_zero,List.getElem?_cons_succ,List.set_cons_zero,List.set_cons_succ,Bool.false_eq_true,Bool.true_eq_false,false_implies,true_implies,forall_const,and_true,true_and,Bool.not_true,Bool.not_false,beq_self_eq_true,Bool.true_or,Bool.or_true,Bool.false_or,Bool.or_false,Bool.and_true,Bool.true_and,Bool.and_false,Bool.false_and,reduceCtorEq,Nat.reduceAdd,Nat.reduceSub,String.reduceBEq,Bool.false_xor,Bool.true_xor,Option.some.injEq,exists_eq_left,exists_eq_left'])
section
namespace K10
open PySem PySem.Spec PyProof.Rows L2 TL
seal UE UT UA US USs UI UG UO UW PTs
def top(i:Nat):Stmt:=PySem.Challenge.pw_loomlook_k10_looms_refused.main.body.getD i (.Pass ⟨0,0,0,0⟩)
def A7(lo hi:Int):T->Bool
 | .int i=>decide (lo<=i)&&decide (i<=hi)
 |_=>false
def Zw(x:Str):Bool:=decide (1<=x.length)&&decide (x.length<=8)&&x.cps.toList.all fun (c:Nat)=>decide (97<=c)&&decide (c<=122)
def isName:T->Bool
 | .str x=>Zw x
 |_=>false
def inS(zs:List Str):T->Bool
 | .str x=>decide (x∈zs)
 |_=>false
def F4:T->Bool
 | .tup (.str _::_)=>true
 |_=>false
def kindTab:List (Str×List Str):=[("number",["number"]),("own",["own"]),("box",["box"]),("plus",["value","value"]),("minus",["value","value"]),("less",["value","value"]),("same",["value","value"]),("not",["value"])]
def Ib:List (Key×T):=kindTab.map fun p=>(Sum.inr p.1,T.tup (p.2.map T.str))
def kindsOf(w:Str):Option (List Str):=(kindTab.find? fun p=>decide (p.1=w)).map (·.2)
def Ba(f:T->Bool)(ow bx:List Str)(k:Str)(x:T):Bool :=
 if k="number" then A7 0 99 x else if k="own" then isName x&&inS ow x else if k="box" then isName x&&inS bx x else f x
def valOk:Nat->List Str->List Str->T->Bool
 | 0,_,_,_=>false
 |d+1,ow,bx,t=>match t with
  | .tup (.str w::r)=>(match kindsOf w with
   |none=>false
   |some ks=>decide (r.length=ks.length)&&(List.zipWith (fun x k=>Ba (valOk d ow bx) ow bx k x) r ks).all id)
  |_=>false
def stepTab:List (Str×List Str):=[("set",["own","value"]),("get",["own","box"]),("put",["box","value"]),("add",["box","value"]),("take",["lock"]),("give",["lock"]),("wait",["box","value"]),("check",["value"]),("skip",["count"]),("unless",["value","count"])]
def Iq:List (Key×T):=stepTab.map fun p=>(Sum.inr p.1,T.tup (p.2.map T.str))
def stepKinds(w:Str):Option (List Str):=(stepTab.find? fun p=>decide (p.1=w)).map (·.2)
structure Nm(P:Program)(w:World)(K:PySem.W.Frag)(mg:Str->Option Value):Prop where
 isinstance:mg "isinstance"=none
 str:mg "str"=none
 int:mg "int"=none
 bool:mg "bool"=none
 tuple:mg "tuple"=none
 list:mg "list"=none
 len:mg "len"=none
 all:mg "all"=none
 zip:mg "zip"=none
 range:mg "range"=none
 max:mg "max"=none
 set:mg "set"=none
 enumerate:mg "enumerate"=none
 min:mg "min"=none
 ValueError:mg "ValueError"=none
 LONGEST_NAME:∃t,mg "LONGEST_NAME"=some (.int 8 t)
 GREATEST_NUMBER:∃t,mg "GREATEST_NUMBER"=some (.int 99 t)
 DEEPEST_VALUE:∃t,mg "DEEPEST_VALUE"=some (.int 5 t)
 LEAST_SIZE:∃t,mg "LEAST_SIZE"=some (.int 2 t)
 GREATEST_SIZE:∃t,mg "GREATEST_SIZE"=some (.int 16 t)
 MOST_BOXES:∃t,mg "MOST_BOXES"=some (.int 8 t)
 MOST_LOCKS:∃t,mg "MOST_LOCKS"=some (.int 4 t)
 MOST_PROGRAMS:∃t,mg "MOST_PROGRAMS"=some (.int 4 t)
 MOST_OWNS:∃t,mg "MOST_OWNS"=some (.int 4 t)
 MOST_STEPS:∃t,mg "MOST_STEPS"=some (.int 30 t)
 MOST_WORKERS:∃t,mg "MOST_WORKERS"=some (.int 6 t)
 MOST_CLAIMS:∃t,mg "MOST_CLAIMS"=some (.int 4 t)
 VALUE_PARTS:KDt P w K mg "VALUE_PARTS" Ib
 STEP_PARTS:KDt P w K mg "STEP_PARTS" Iq
 NoLoom_at:mg "NoLoom"=some (.ref (cAt mg "NoLoom"))
 NoLoom_ok:PySem.W.excIn K (cAt mg "NoLoom") Jq "ValueError.__new__"=true
 NoStep_at:mg "NoStep"=some (.ref (cAt mg "NoStep"))
 NoStep_ok:PySem.W.excIn K (cAt mg "NoStep") Jq "ValueError.__new__"=true
 NoClaim_at:mg "NoClaim"=some (.ref (cAt mg "NoClaim"))
 NoClaim_ok:PySem.W.excIn K (cAt mg "NoClaim") Jq "ValueError.__new__"=true
 LoomError_at:mg "LoomError"=some (.ref (cAt mg "LoomError"))
 LoomError_ok:PySem.W.excIn K (cAt mg "LoomError") Jq "ValueError.__new__"=true
 NoMove_at:mg "NoMove"=some (.ref (cAt mg "NoMove"))
 NoMove_ok:PySem.W.excIn K (cAt mg "NoMove") Jq "ValueError.__new__"=true
 NoText_at:mg "NoText"=some (.ref (cAt mg "NoText"))
 NoText_ok:PySem.W.excIn K (cAt mg "NoText") Jq "ValueError.__new__"=true
 NoWay_at:mg "NoWay"=some (.ref (cAt mg "NoWay"))
 NoWay_ok:PySem.W.excIn K (cAt mg "NoWay") Jq "ValueError.__new__"=true
 TooMany_at:mg "TooMany"=some (.ref (cAt mg "TooMany"))
 TooMany_ok:PySem.W.excIn K (cAt mg "TooMany") Jq "ValueError.__new__"=true
 LoomError_kts:PySem.W.ktsIn K (cAt mg "LoomError") "BaseException"=true
 NoLoom_exd:ExD K (cAt mg "NoLoom")
 NoLoom_sub:subIn K (cAt mg "NoLoom") (cAt mg "LoomError")=true
 NoLoom_isV:PySem.W.kitOne K (.ref (cAt mg "NoLoom")) (.type "ValueError")=some true
 NoLoom_is_NoLoom:PySem.W.kitOne K (.ref (cAt mg "NoLoom")) (.ref (cAt mg "NoLoom"))=some true
 NoLoom_is_NoStep:PySem.W.kitOne K (.ref (cAt mg "NoLoom")) (.ref (cAt mg "NoStep"))=some false
 NoLoom_is_NoClaim:PySem.W.kitOne K (.ref (cAt mg "NoLoom")) (.ref (cAt mg "NoClaim"))=some false
 NoLoom_any:PySem.W.kitAny K (.ref (cAt mg "NoLoom")) [.ref (cAt mg "NoMove"),.ref (cAt mg "NoText"),.ref (cAt mg "NoWay"),.ref (cAt mg "TooMany")]=some false
 NoStep_exd:ExD K (cAt mg "NoStep")
 NoStep_sub:subIn K (cAt mg "NoStep") (cAt mg "LoomError")=true
 NoStep_isV:PySem.W.kitOne K (.ref (cAt mg "NoStep")) (.type "ValueError")=some true
 NoStep_is_NoLoom:PySem.W.kitOne K (.ref (cAt mg "NoStep")) (.ref (cAt mg "NoLoom"))=some false
 NoStep_is_NoStep:PySem.W.kitOne K (.ref (cAt mg "NoStep")) (.ref (cAt mg "NoStep"))=some true
 NoStep_is_NoClaim:PySem.W.kitOne K (.ref (cAt mg "NoStep")) (.ref (cAt mg "NoClaim"))=some false
 NoStep_any:PySem.W.kitAny K (.ref (cAt mg "NoStep")) [.ref (cAt mg "NoMove"),.ref (cAt mg "NoText"),.ref (cAt mg "NoWay"),.ref (cAt mg "TooMany")]=some false
 NoClaim_exd:ExD K (cAt mg "NoClaim")
 NoClaim_sub:subIn K (cAt mg "NoClaim") (cAt mg "LoomError")=true
 NoClaim_isV:PySem.W.kitOne K (.ref (cAt mg "NoClaim")) (.type "ValueError")=some true
 NoClaim_is_NoLoom:PySem.W.kitOne K (.ref (cAt mg "NoClaim")) (.ref (cAt mg "NoLoom"))=some false
 NoClaim_is_NoStep:PySem.W.kitOne K (.ref (cAt mg "NoClaim")) (.ref (cAt mg "NoStep"))=some false
 NoClaim_is_NoClaim:PySem.W.kitOne K (.ref (cAt mg "NoClaim")) (.ref (cAt mg "NoClaim"))=some true
 NoClaim_any:PySem.W.kitAny K (.ref (cAt mg "NoClaim")) [.ref (cAt mg "NoMove"),.ref (cAt mg "NoText"),.ref (cAt mg "NoWay"),.ref (cAt mg "TooMany")]=some false
end K10
end
section
namespace K10
open PySem PySem.Spec PyProof.Rows L2 TL
seal UE UT UA US USs UI UG UO UW PTs
section
variable{P:Program}{w:World}{K:PySem.W.Frag}{mg:Str->Option Value}{base:Heap}
def Bs:List T->TH->UX->Prop:=fun ts S Pp=>∃x lo hi,ts=[x,.int lo,.int hi]/\Pl x/\Pp (.bl (A7 lo hi x)) S
theorem Sq:Zv ["thing","least","greatest"] ["thing","least","greatest"] (Zb (top 16)):=⟨rfl,rfl,rfl,by decide +kernel,rfl,by decide +kernel,by decide +kernel⟩
theorem is_number(N:Nm P w K mg)(d:Aa K mg "is_number" ["thing","least","greatest"] (top 16)):Has P w K mg base 1 "is_number" ["thing","least","greatest"] Bs:=by
 have sc:=Sq
 refine Ag (k:=0) d sc (fun ts S Pp h=>?_) fun cdv f A outer s H E hr=>?_
 ·obtain⟨x,lo,hi,rfl,_⟩:=h;rfl
 have hu0:=Ar hr
 refine⟨_,(Zs (Zg (UW.ut (Bg (Xe (A9 rfl N.isinstance (Zc (uv 0) (Zc (Xv rfl N.bool boot_bool) Zn)))) (Xs (Ae (Xe (A9 rfl N.isinstance (Zc (uv 0) (Zc (Xv rfl N.int boot_int) Zn)))))))) (Zo (Zr Az)) Ze)
   (Zo (Zr (C7 (uv 1) (uv 0) (uv 2))))),fun ts S Pp h=>?_⟩
 obtain⟨x,lo,hi,rfl,px,h⟩:=h
 cases px with
 |int i =>
  and_intros
  exact⟨fun e=>by rw[A7,e,Bool.true_and] at h;exact h,fun e=>by rw[A7,e,Bool.false_and] at h;exact h⟩
 |_=>and_intros;exact h
def Fs:List T->TH->UX->Prop:=fun ts S Pp=>∃x,ts=[x]/\Pl x/\Pp (.bl (isName x)) S
theorem Yl:Zv ["thing"] ["thing"] (Zb (top 14)):=⟨rfl,rfl,rfl,by decide +kernel,rfl,by decide +kernel,by decide +kernel⟩
theorem lt1(a b:Nat):decide ([a]<[b])=decide (a<b):=by
 rw[Bool.eq_iff_iff]
 simp[List.cons_lt_cons_iff]
theorem Abh(c:Nat):((!decide ((⟨#[c]⟩:Str).cps.toList<(Str.ofString "a").cps.toList))=true ↔ 97<=c)/\((!decide ((Str.ofString "z").cps.toList<(⟨#[c]⟩:Str).cps.toList))=true ↔ c<=122):=by
 have ea:(Str.ofString "a").cps.toList=[97]:=by decide +kernel
 have ez:(Str.ofString "z").cps.toList=[122]:=by decide +kernel
 rw[ea,ez]
 show ((!decide ([c]<[97]))=true ↔ 97<=c)/\((!decide ([122]<[c]))=true ↔ c<=122)
 rw[lt1,lt1]
 simp
theorem is_name(N:Nm P w K mg)(d:Aa K mg "is_name" ["thing"] (top 14)):Has P w K mg base 1 "is_name" ["thing"] Fs:=by
 have sc:=Yl
 refine Ag (k:=0) d sc (fun ts S Pp h=>?_) fun cdv f A outer s H E hr=>?_
 ·obtain⟨x,rfl,_⟩:=h;rfl
 have hu0:=Ar hr
 refine⟨_,(Zs (Zg (UW.ut (Bg (Ae (Xe (A9 rfl N.isinstance (Zc (uv 0) (Zc (Xv rfl N.str boot_str) Zn))))) (Xs (Ae (Nb Zi (Zl rfl N.len (Zc (uv 0) Zn)) (Bw rfl N.LONGEST_NAME)))))) (Zo (Zr Az)) Ze)
   (Zo (Zr (Fa rfl rfl N.all (Zc (Xg 0 ["sign"] [none] rfl (Xu (uv 0)) (fun _ _ _ _ _=>Ak) (fun _ _ _ _ _=>(C7 Zq (uv 0) Zq))) Zn))))),fun ts S Pp h=>?_⟩
 obtain⟨x,rfl,px,h⟩:=h
 cases px with
 |str hx =>
  rename_i x
  and_intros
  refine⟨hx,fun e1=>⟨fun e2=>?_,fun e2=>?_⟩,fun e1=>?_⟩
  ·have e:isName (.str x)=false:=by
    have:¬ ((x.length:Int)<=8):=by simpa using e2
    simp only[isName,Zw]
    rw[decide_eq_false (show ¬ x.length<=8 by omega)]
    simp
   rw[e] at h
   exact h
  ·have h1:(1:Int)<=x.length:=by simpa using e1
   have h2:(x.length:Int)<=8:=by simpa using e2
   have e:isName (.str x)=x.cps.toList.all fun (c:Nat)=>decide (97<=c)&&decide (c<=122):=by
    simp only[isName,Zw]
    rw[decide_eq_true (show 1<=x.length by omega),decide_eq_true (show x.length<=8 by omega)]
    simp
   refine Ay (ts:=B0 x) (f:=fun t=>match t with | .str y=>some (.bl (y.cps.toList.all fun (c:Nat)=>decide (97<=c)&&decide (c<=122)))|_=>none) (fun k hk=>hk) (by rw[Ex];exact hx) (fun y hy A B hA hB=>?_) ?_
   ·obtain⟨c,_,rfl⟩:=List.mem_map.mp hy
    have hA:=hA _ rfl
    simp only[gNm,Gc,uYes,List.map_cons,List.map_nil]
    and_intros
    obtain⟨l1,l2⟩:=Abh c
    have hA:A (.bl (decide (97<=c)&&decide (c<=122))) S:=by simpa using hA
    refine⟨fun q=>?_,fun q=>?_⟩
    ·have q1:=l1.mp q
     have e3:(!decide ((Str.ofString "z").cps.toList<(⟨#[c]⟩:Str).cps.toList))=decide (c<=122):=by
      rw[Bool.eq_iff_iff,l2];simp
     rw[e3]
     rw[decide_eq_true q1,Bool.true_and] at hA
     exact hA
    ·have q1:¬ 97<=c:=fun z=>by rw[l1.mpr z] at q;cases q
     rw[decide_eq_false q1,Bool.false_and] at hA
     exact hA
   ·have e4:(B0 x).filterMap (fun t=>match t with | .str y=>some (.bl (y.cps.toList.all fun (c:Nat)=>decide (97<=c)&&decide (c<=122)))|_=>none)=(x.cps.toList.map fun (c:Nat)=>decide (97<=c)&&decide (c<=122)).map T.bl:=by
     unfold B0
     rw[List.filterMap_map,List.map_map]
     rw[<-List.filterMap_eq_map]
     congr 1
     funext c
     simp
    rw[e4]
    dsimp only
    rw[Ho]
    dsimp only
    rw[List.all_map]
    rw[e] at h
    exact h
  ·have e:isName (.str x)=false:=by
    have:¬ ((1:Int)<=x.length):=by simpa using e1
    simp only[isName,Zw]
    rw[decide_eq_false (show ¬ 1<=x.length by omega)]
    simp
   rw[e] at h
   exact h
 |_=>and_intros;exact h
def Hc:List T->TH->UX->Prop:=fun ts S Pp=>∃x zs,ts=[x,.lst (zs.map T.str)]/\Pl x/\Pp (.bl (isName x&&inS zs x)) S
theorem Rv:Zv ["thing","names"] ["thing","names"] (Zb (top 15)):=⟨rfl,rfl,rfl,by decide +kernel,rfl,by decide +kernel,by decide +kernel⟩
theorem is_name_of(d:Aa K mg "is_name_of" ["thing","names"] (top 15))(c1:Has P w K mg base 1 "is_name" ["thing"] Fs):Has P w K mg base 2 "is_name_of" ["thing","names"] Hc:=by
 have sc:=Rv
 refine Ag (k:=1) d sc (fun ts S Pp h=>?_) fun cdv f A outer s H E hr=>?_
 ·obtain⟨x,zs,rfl,_⟩:=h;rfl
 have hu0:=Ar hr
 refine⟨_,(Zo (Zr (Bf (Zf c1 hr rfl (Zc (uv 0) Zn)) (B1 (ue_in (uv 0) (uv 1)))))),fun ts S Pp h=>?_⟩
 obtain⟨x,zs,rfl,px,h⟩:=h
 and_intros
 refine⟨x,rfl,px,fun e=>?_,fun e=>?_⟩
 ·rw[e,Bool.true_and] at h
  cases px with
  |str hx =>
   exact⟨zs,El zs,h⟩
  |_=>cases e
 ·rw[e,Bool.false_and] at h
  exact h
def O6:List T->TH->UX->Prop:=fun ts S Pp=>∃x,ts=[x]/\Pl x/\Pp (.bl (F4 x)) S
theorem Yh:Zv ["thing"] ["thing"] (Zb (top 17)):=⟨rfl,rfl,rfl,by decide +kernel,rfl,by decide +kernel,by decide +kernel⟩
theorem has_word(N:Nm P w K mg)(d:Aa K mg "has_word" ["thing"] (top 17)):Has P w K mg base 1 "has_word" ["thing"] O6:=by
 have sc:=Yh
 refine Ag (k:=0) d sc (fun ts S Pp h=>?_) fun cdv f A outer s H E hr=>?_
 ·obtain⟨x,rfl,_⟩:=h;rfl
 have hu0:=Ar hr
 refine⟨_,(Zo (Zr (Bf (A9 rfl N.isinstance (Zc (uv 0) (Zc (Xv rfl N.tuple boot_tuple) Zn))) (Bf (ue_gt (Zl rfl N.len (Zc (uv 0) Zn)) Zi) (B1 (A9 rfl N.isinstance (Zc (Zx (uv 0) Zi) (Zc (Xv rfl N.str boot_str) Zn)))))))),fun ts S Pp h=>?_⟩
 obtain⟨x,rfl,px,h⟩:=h
 cases px with
 |tup ht =>
  rename_i ts
  cases ts with
  |nil=>and_intros;exact⟨fun e=>absurd e (by decide),fun _=>h⟩
  |cons t r =>
   have pt:=ht t List.mem_cons_self
   have e0:atI (t::r) (0:Int)=some t:=Xb (j:=0) rfl
   and_intros
   refine⟨fun _=>?_,fun e=>absurd e (by simp)⟩
   refine⟨_,e0,?_⟩
   cases pt <;> exact h
 |_=>and_intros;exact h
end
end K10
end
section
namespace K10
open PySem PySem.Spec PyProof.Rows L2 TL
seal UE UT UA US USs UI UG UO UW PTs
section
variable{P:Program}{w:World}{K:PySem.W.Frag}{mg:Str->Option Value}{base:Heap}
def Hb(n:Nat):List T->TH->UX->Prop:=fun ts S Pp=>∃x ow bx,ts=[x,.lst (ow.map T.str),.lst (bx.map T.str),.int (n:Int)]/\Pl x/\Pp (.bl (valOk n ow bx x)) S
def X0(n:Nat):List T->TH->UX->Prop:=fun ts S Pp=>∃x k ow bx,ts=[x,.str k,.lst (ow.map T.str),.lst (bx.map T.str),.int ((n:Int)+1)]/\Pl x/\Pp (.bl (Ba (valOk n ow bx) ow bx k x)) S
theorem Td:Zv ["thing","owns","boxes","depth","kinds"] ["thing","owns","boxes","depth"] (Zb (top 19)):=⟨rfl,rfl,rfl,by decide +kernel,rfl,by decide +kernel,by decide +kernel⟩
theorem Aap:Zv ["thing","kind","owns","boxes","depth"] ["thing","kind","owns","boxes","depth"] (Zb (top 20)):=⟨rfl,rfl,rfl,by decide +kernel,rfl,by decide +kernel,by decide +kernel⟩
theorem is_value_part{n m:Nat}(hm:2<=m)(N:Nm P w K mg)(d:Aa K mg "is_value_part" ["thing","kind","owns","boxes","depth"] (top 20))(c1:Has P w K mg base 1 "is_number" ["thing","least","greatest"] Bs)(c2:Has P w K mg base 2 "is_name_of" ["thing","names"] Hc)
  (c3:Has P w K mg base m "is_value_within" ["thing","owns","boxes","depth"] (Hb n)):Has P w K mg base (m+1) "is_value_part" ["thing","kind","owns","boxes","depth"] (X0 n):=by
 have sc:=Aap
 refine Ag (k:=m) d sc (fun ts S Pp h=>?_) fun cdv f A outer s H E hr=>?_
 ·obtain⟨x,k,ow,bx,rfl,_⟩:=h;rfl
 have hu0:=Ar hr
 have c1:=c1.mono (show 1<=m by omega)
 have c2:=c2.mono (show 2<=m by omega)
 refine⟨_,(Zs (Zg (Xf hu0 (uv 1) Zq) (Zo (Zr (Zf c1 hr rfl (Zc (uv 0) (Zc Zi (Zc (Bw rfl N.GREATEST_NUMBER) Zn)))))) Ze)
   (Zs (Zg (Xf hu0 (uv 1) Zq) (Zo (Zr (Zf c2 hr rfl (Zc (uv 0) (Zc (uv 2) Zn))))) Ze)
   (Zs (Zg (Xf hu0 (uv 1) Zq) (Zo (Zr (Zf c2 hr rfl (Zc (uv 0) (Zc (uv 3) Zn))))) Ze)
   (Zo (Zr (Zf c3 hr rfl (Zc (uv 0) (Zc (uv 2) (Zc (uv 3) (Zc (A8 (uv 4) Zi) Zn)))))))))),fun ts S Pp h=>?_⟩
 obtain⟨x,k,ow,bx,rfl,px,h⟩:=h
 and_intros
 unfold Ba at h
 refine⟨fun e=>?_,fun e=>⟨fun e1=>?_,fun e1=>⟨fun e2=>?_,fun e2=>?_⟩⟩⟩
 ·rw[if_pos (of_decide_eq_true e)] at h
  exact⟨x,0,99,rfl,px,h⟩
 ·rw[if_neg (of_decide_eq_false e),if_pos (of_decide_eq_true e1)] at h
  exact⟨x,ow,rfl,px,h⟩
 ·rw[if_neg (of_decide_eq_false e),if_neg (of_decide_eq_false e1),if_pos (of_decide_eq_true e2)] at h
  exact⟨x,bx,rfl,px,h⟩
 ·rw[if_neg (of_decide_eq_false e),if_neg (of_decide_eq_false e1),if_neg (of_decide_eq_false e2)] at h
  refine⟨x,ow,bx,?_,px,h⟩
  rw[Int.add_sub_cancel]
theorem Q2(wd:Str):valT Ib (Sum.inr wd)=(kindsOf wd).map fun ks=>T.tup (ks.map T.str):=by
 unfold valT Ib kindsOf
 rw[List.find?_map,Option.map_map,Option.map_map]
 have e:((fun kv:Key×T=>decide (kv.1=Sum.inr wd)) ∘ fun p:Str×List Str=>((Sum.inr p.1:Key),T.tup (p.2.map T.str)))=fun p=>decide (p.1=wd):=by
  funext p
  show decide ((Sum.inr p.1:Key)=Sum.inr wd)=decide (p.1=wd)
  exact K3 _ _
 rw[e]
 rfl
theorem Gx{wd:Str}{ks:List Str}(h:kindsOf wd=some ks):ks.length<=sizeLine:=by
 unfold kindsOf at h
 cases e:kindTab.find? fun p=>decide (p.1=wd) with
 |none=>rw[e] at h;cases h
 |some p =>
  rw[e] at h
  cases h
  have m:=List.mem_of_find?_eq_some e
  have all:∀q∈kindTab,q.2.length<=2:=by decide
  exact Nat.le_trans (all p m) (by decide)
theorem Ik(a:T)(r:List T):cutA (a::r) (some 1) none=r:=by
 simp[cutA,HT.sIx]
theorem L7{r:List T}{ks:List Str}{y:T}(h:y∈Fc r (ks.map T.str)):∃x kd,x∈r/\y=.tup [x,.str kd]:=by
 unfold Fc at h
 induction r generalizing ks with
 |nil=>simp at h
 |cons a r ih =>
  cases ks with
  |nil=>simp at h
  |cons k ks =>
   simp only[List.map_cons,List.zipWith_cons_cons,List.mem_cons] at h
   rcases h with h|h
   ·exact⟨a,k,List.mem_cons_self,h⟩
   ·obtain⟨x,kd,hx,e⟩:=ih h
    exact⟨x,kd,List.mem_cons_of_mem _ hx,e⟩
theorem Px(g:T->Str->Bool)(r:List T)(ks:List Str):(Fc r (ks.map T.str)).filterMap (fun t=>match t with | .tup [x,.str k]=>some (.bl (g x k))|_=>none)=(List.zipWith g r ks).map T.bl:=by
 unfold Fc
 induction r generalizing ks with
 |nil=>rfl
 |cons a r ih =>
  cases ks with
  |nil=>rfl
  |cons k ks =>
   simp only[List.map_cons,List.zipWith_cons_cons,List.filterMap_cons]
   rw[ih]
theorem Xh{n m:Nat}{tp:List T->TH->UX->Prop}(hm:1<=m)(N:Nm P w K mg)(d:Aa K mg "is_value_within" ["thing","owns","boxes","depth"] (top 19))(c1:Has P w K mg base 1 "has_word" ["thing"] O6)
  (c2:Has P w K mg base m "is_value_part" ["thing","kind","owns","boxes","depth"] tp) (ht:n=0\/∃j,n=j+1/\tp=X0 j):Has P w K mg base (m+1) "is_value_within" ["thing","owns","boxes","depth"] (Hb n):=by
 have sc:=Td
 refine Ag (k:=m) d sc (fun ts S Pp h=>?_) fun cdv f A outer s H E hr=>?_
 ·obtain⟨x,ow,bx,rfl,_⟩:=h;rfl
 have hu0:=Ar hr
 have c1:=c1.mono hm
 refine⟨_,(Zs (Zg (UW.ut (Bg (Xf hu0 (uv 3) Zi) (Xs (Ae (Xe (Zf c1 hr rfl (Zc (uv 0) Zn))))))) (Zo (Zr Az)) Ze)
   (Zs (Zt 4 sc.nd (M0 rfl N.VALUE_PARTS (Zx (uv 0) Zi) ⟨rfl,rfl,rfl,rfl⟩))
   (Zs (Zg (UW.ut (Bg (Sm (uv 4) Lb) (Xs (Jy hu0 (Zl rfl N.len (Zc (uv 0) Zn)) (Zp Zi (Zl rfl N.len (Zc (uv 4) Zn))))))) (Zo (Zr Az)) Ze)
   (Zo (Zr (Fa rfl rfl N.all (Zc (L3 0 1 ["part","kind","owns","boxes","depth"] [none,none,some 1,some 2,some 3] rfl (Ro rfl N.zip (Zc (Bp (uv 0) (Ad Zi) Af) (Zc (uv 4) Zn))) (fun _ _ _ _ _=>Ak) (fun _ _ _ _ _=>(Zf c2 hr rfl (Zc (uv 0) (Zc (uv 1) (Zc (uv 2) (Zc (uv 3) (Zc (uv 4) Zn)))))))) Zn))))))),fun ts S Pp h=>?_⟩
 obtain⟨x,ow,bx,rfl,px,h⟩:=h
 rcases ht with rfl|⟨j,rfl,rfl⟩
 ·and_intros
  exact⟨fun _=>h,fun e=>absurd e (by decide)⟩
 have nz:decide (((j+1:Nat):Int)=0)=false:=decide_eq_false (by omega)
 by_cases hw:F4 x=true
 case neg =>
  have hw:F4 x=false:=by simpa using hw
  have e0:valOk (j+1) ow bx x=false:=by
   unfold valOk
   split
   ·cases hw
   ·rfl
  rw[e0] at h
  simp only[uIf,uOr,Ch,Jb,Bk,Bb,uUn,D4,uC,Bq,Eg,E7,Jj,Cd,uSet,D1,D3,E2,Ez,Jl,Jm,E4,B9,Jr,uoN,uoS,Jo,Ei,Ew,Di,Xj,Xk,Je,Dm,Dy,tyT,okC,isT,Fx,oII,oIC,Fl,oIx,Ja,G0,D0,G4,Ea,oIn,Gi,Il,Jc,TL.Xm,List.map_cons,List.map_nil,List.length_cons,List.length_nil,List.replicate,List.cons_append,List.nil_append,List.append_nil,List.getElem?_cons_zero,List.getElem?_cons_succ,List.set_cons_zero,List.set_cons_succ,Bool.false_eq_true,Bool.true_eq_false,false_implies,true_implies,forall_const,and_true,true_and,Bool.not_true,Bool.not_false,beq_self_eq_true,Bool.true_or,Bool.or_true,Bool.false_or,Bool.or_false,Bool.and_true,Bool.true_and,Bool.and_false,Bool.false_and,reduceCtorEq,Nat.reduceAdd,Nat.reduceSub,String.reduceBEq,Bool.false_xor,Bool.true_xor,Option.some.injEq,exists_eq_left,exists_eq_left',nz]
  refine⟨x,rfl,px,?_⟩
  rw[hw]
  exact⟨fun _=>h,fun e=>by cases e⟩
 case pos =>
  match x,hw,px,h with
  | .tup (.str wd::r),hw,px,h =>
   have pr:∀t∈r,Pl t:=by
    cases px with
    |tup q=>exact fun t ht=>q t (List.mem_cons_of_mem _ ht)
   have ei:atI (T.str wd::r) (0:Int)=some (.str wd):=Xb (j:=0) rfl
   have hv:=Q2 wd
   cases hk:kindsOf wd with
   |none =>
    rw[hk] at hv
    have e0:valOk (j+1) ow bx (.tup (.str wd::r))=false:=by simp only[valOk,hk]
    rw[e0] at h
    simp only[uIf,uOr,Ch,Jb,Bk,Bb,uUn,D4,uC,Bq,Eg,E7,Jj,Cd,uSet,D1,D3,E2,Ez,Jl,Jm,E4,B9,Jr,uoN,uoS,Jo,Ei,Ew,Di,Xj,Xk,Je,Dm,Dy,tyT,okC,isT,Fx,oII,oIC,Fl,oIx,Ja,G0,D0,G4,Ea,oIn,Gi,Il,Jc,TL.Xm,List.map_cons,List.map_nil,List.length_cons,List.length_nil,List.replicate,List.cons_append,List.nil_append,List.append_nil,List.getElem?_cons_zero,List.getElem?_cons_succ,List.set_cons_zero,List.set_cons_succ,Bool.false_eq_true,Bool.true_eq_false,false_implies,true_implies,forall_const,and_true,true_and,Bool.not_true,Bool.not_false,beq_self_eq_true,Bool.true_or,Bool.or_true,Bool.false_or,Bool.or_false,Bool.and_true,Bool.true_and,Bool.and_false,Bool.false_and,reduceCtorEq,Nat.reduceAdd,Nat.reduceSub,String.reduceBEq,Bool.false_xor,Bool.true_xor,Option.some.injEq,exists_eq_left,exists_eq_left',nz,ei,keyT,hv,Option.map_none,Option.getD_none]
    exact⟨_,rfl,px,And.intro (fun e=>by cases e) (fun _=>h)⟩
   |some ks =>
    rw[hk] at hv
    have e0:valOk (j+1) ow bx (.tup (.str wd::r))=(decide (r.length=ks.length)&&(List.zipWith (fun x k=>Ba (valOk j ow bx) ow bx k x) r ks).all id):=by simp only[valOk,hk]
    rw[e0] at h
    simp only[uIf,uOr,Ch,Jb,Bk,Bb,uUn,D4,uC,Bq,Eg,E7,Jj,Cd,uSet,D1,D3,E2,Ez,Jl,Jm,E4,B9,Jr,uoN,uoS,Jo,Ei,Ew,Di,Xj,Xk,Je,Dm,Dy,tyT,okC,isT,Fx,oII,oIC,Fl,oIx,Ja,G0,D0,G4,Ea,oIn,Gi,Il,Jc,TL.Xm,List.map_cons,List.map_nil,List.length_cons,List.length_nil,List.replicate,List.cons_append,List.nil_append,List.append_nil,List.getElem?_cons_zero,List.getElem?_cons_succ,List.set_cons_zero,List.set_cons_succ,Bool.false_eq_true,Bool.true_eq_false,false_implies,true_implies,forall_const,and_true,true_and,Bool.not_true,Bool.not_false,beq_self_eq_true,Bool.true_or,Bool.or_true,Bool.false_or,Bool.or_false,Bool.and_true,Bool.true_and,Bool.and_false,Bool.false_and,reduceCtorEq,Nat.reduceAdd,Nat.reduceSub,String.reduceBEq,Bool.false_xor,Bool.true_xor,Option.some.injEq,exists_eq_left,exists_eq_left',nz,ei,keyT,hv,Option.map_some,Option.getD_some,List.length_map]
    refine⟨_,rfl,px,And.intro (fun e=>by cases e) (fun _=>And.intro (fun e=>?_) (fun e=>?_))⟩
    ·have:¬ r.length=ks.length:=by
      intro q
      rw[q] at e
      simp at e
      omega
     rw[decide_eq_false this,Bool.false_and] at h
     exact h
    ·have hl:r.length=ks.length:=by simp at e;omega
     rw[decide_eq_true hl,Bool.true_and] at h
     have hz:r.length<=sizeLine:=by
      rw[hl]
      exact Gx hk
     refine Ay (ts:=Fc r (ks.map T.str)) (f:=fun t=>match t with | .tup [x,.str k]=>some (.bl (Ba (valOk j ow bx) ow bx k x))|_=>none) (fun k hk'=>?_) ?_ (fun y hy A B hA hB=>?_) ?_
     ·simp only[uZip]
      simp only[uIf,uOr,Ch,Jb,Bk,Bb,uUn,D4,uC,Bq,Eg,E7,Jj,Cd,uSet,D1,D3,E2,Ez,Jl,Jm,E4,B9,Jr,uoN,uoS,Jo,Ei,Ew,Di,Xj,Xk,Je,Dm,Dy,tyT,okC,isT,Fx,oII,oIC,Fl,oIx,Ja,G0,D0,G4,Ea,oIn,Gi,Il,Jc,TL.Xm,List.map_cons,List.map_nil,List.length_cons,List.length_nil,List.replicate,List.cons_append,List.nil_append,List.append_nil,List.getElem?_cons_zero,List.getElem?_cons_succ,List.set_cons_zero,List.set_cons_succ,Bool.false_eq_true,Bool.true_eq_false,false_implies,true_implies,forall_const,and_true,true_and,Bool.not_true,Bool.not_false,beq_self_eq_true,Bool.true_or,Bool.or_true,Bool.false_or,Bool.or_false,Bool.and_true,Bool.true_and,Bool.and_false,Bool.false_and,reduceCtorEq,Nat.reduceAdd,Nat.reduceSub,String.reduceBEq,Bool.false_xor,Bool.true_xor,Option.some.injEq,exists_eq_left,exists_eq_left',Ik]
      refine⟨?_,?_,hk'⟩
      ·rintro⟨q,_⟩
       simp[HT.sIx] at q
      ·rw[List.length_map];exact hl
     ·simp only[Fc,List.length_zipWith,List.length_map]
      omega
     ·obtain⟨x,kd,hx,rfl⟩:=L7 hy
      have hA:=hA _ rfl
      simp only[gPr,Gc,uYes,List.map_cons,List.map_nil]
      and_intros
      exact⟨x,kd,ow,bx,by simp,pr x hx,hA⟩
     ·dsimp only
      rw[Px]
      rw[Ho]
      exact h
theorem Ih(N:Nm P w K mg)(dW:Aa K mg "is_value_within" ["thing","owns","boxes","depth"] (top 19))(dP:Aa K mg "is_value_part" ["thing","kind","owns","boxes","depth"] (top 20))(c1:Has P w K mg base 1 "is_number" ["thing","least","greatest"] Bs)
  (c2:Has P w K mg base 2 "is_name_of" ["thing","names"] Hc) (c3:Has P w K mg base 1 "has_word" ["thing"] O6):∀n:Nat,Has P w K mg base (2 * n+4) "is_value_within" ["thing","owns","boxes","depth"] (Hb n)
 | 0=>Xh (m:=3) (tp:=fun _ _ _=>False) (by omega) N dW c3 (Fm dP fun _ _ _ z=>z) (.inl rfl)
 |n+1=>Xh (m:=2 * n+5) (by omega) N dW c3 (is_value_part (m:=2 * n+4) (by omega) N dP c1 c2 (Ih N dW dP c1 c2 c3 n)) (.inr ⟨n,rfl,rfl⟩)
def M9:List T->TH->UX->Prop:=fun ts S Pp=>∃x ow bx,ts=[x,.lst (ow.map T.str),.lst (bx.map T.str)]/\Pl x/\Pp (.bl (valOk 5 ow bx x)) S
theorem Vq:Zv ["thing","owns","boxes"] ["thing","owns","boxes"] (Zb (top 18)):=⟨rfl,rfl,rfl,by decide +kernel,rfl,by decide +kernel,by decide +kernel⟩
theorem is_value(N:Nm P w K mg)(d:Aa K mg "is_value" ["thing","owns","boxes"] (top 18))(c1:Has P w K mg base 14 "is_value_within" ["thing","owns","boxes","depth"] (Hb 5)):Has P w K mg base 15 "is_value" ["thing","owns","boxes"] M9:=by
 have sc:=Vq
 refine Ag (k:=14) d sc (fun ts S Pp h=>?_) fun cdv f A outer s H E hr=>?_
 ·obtain⟨x,ow,bx,rfl,_⟩:=h;rfl
 refine⟨_,(Zo (Zr (Zf c1 hr rfl (Zc (uv 0) (Zc (uv 1) (Zc (uv 2) (Zc (Bw rfl N.DEEPEST_VALUE) Zn))))))),fun ts S Pp h=>?_⟩
 obtain⟨x,ow,bx,rfl,px,h⟩:=h
 and_intros
 exact⟨x,ow,bx,rfl,px,h⟩
end
end K10
end
section
namespace K10
open PySem PySem.Spec PyProof.Rows L2 TL
seal UE UT UA US USs UI UG UO UW PTs
section
variable{P:Program}{w:World}{K:PySem.W.Frag}{mg:Str->Option Value}{base:Heap}
def Sd(S:TH)(a:Addr):Prop:=∃x:Int,S a=some (.lst [.int x])
structure Dr(a:Addr)(S S':TH):Prop where
 same:∀b,b≠a->S' b=S b
 sd:Sd S' a
theorem Dr.trans{a:Addr}{S S1 S2:TH}(x:Dr a S S1)(y:Dr a S1 S2):Dr a S S2:=⟨fun b h=>(y.same b h).trans (x.same b h),y.sd⟩
theorem Dr.rfl{a:Addr}{S:TH}(h:Sd S a):Dr a S S:=⟨fun _ _=>Eq.refl _,h⟩
def W5:List T->TH->UX->Prop:=fun ts S Pp=>∃(ns:List Int) (k:Nat),ts=[.fls (ns.map T.int),.int (k:Int)]/\∀v:Int,Pp (.int v) S
theorem Abd:Zv ["_law_script","_law_k"] ["_law_script","_law_k"] (Zb (top 49)):=⟨rfl,rfl,rfl,by decide +kernel,rfl,by decide +kernel,by decide +kernel⟩
theorem W4(N:Nm P w K mg)(d:Aa K mg "_law_cell_at" ["_law_script","_law_k"] (top 49)):Has P w K mg base 1 "_law_cell_at" ["_law_script","_law_k"] W5:=by
 have sc:=Abd
 refine Ag (k:=0) d sc (fun ts S Pp h=>?_) fun cdv f A outer s H E hr=>?_
 ·obtain⟨ns,k,rfl,_⟩:=h;rfl
 refine⟨_,(Zs (Zg (Eb (uv 1) (Zl rfl N.len (Zc (uv 0) Zn))) (Zo (Zr (Zx (uv 0) (uv 1)))) Ze)
   (Zo (Zr Zi))),fun ts S Pp h=>?_⟩
 obtain⟨ns,k,rfl,h⟩:=h
 simp only[uIf,uOr,Ch,Jb,Bk,Bb,uUn,D4,uC,Bq,Eg,E7,Jj,Cd,uSet,D1,D3,E2,Ez,Jl,Jm,E4,B9,Jr,uoN,uoS,Jo,Ei,Ew,Di,Xj,Xk,Je,Dm,Dy,tyT,okC,isT,Fx,oII,oIC,Fl,oIx,Ja,G0,D0,G4,Ea,oIn,Gi,Il,Jc,TL.Xm,List.map_cons,List.map_nil,List.length_cons,List.length_nil,List.replicate,List.cons_append,List.nil_append,List.append_nil,List.getElem?_cons_zero,List.getElem?_cons_succ,List.set_cons_zero,List.set_cons_succ,Bool.false_eq_true,Bool.true_eq_false,false_implies,true_implies,forall_const,and_true,true_and,Bool.not_true,Bool.not_false,beq_self_eq_true,Bool.true_or,Bool.or_true,Bool.false_or,Bool.or_false,Bool.and_true,Bool.true_and,Bool.and_false,Bool.false_and,reduceCtorEq,Nat.reduceAdd,Nat.reduceSub,String.reduceBEq,Bool.false_xor,Bool.true_xor,Option.some.injEq,exists_eq_left,exists_eq_left',List.length_map]
 refine⟨fun e=>?_,fun _=>h 0⟩
 have hk:k<ns.length:=by simpa using e
 have e1:atI (ns.map T.int) (k:Int)=some (.int ns[k]):=Xb (by rw[List.getElem?_map,List.getElem?_eq_getElem hk];rfl)
 exact⟨_,e1,h _⟩
def Ts:List T->TH->UX->Prop:=fun ts S Pp=>∃c k:Int,ts=[.int c,.int k]/\∀(a:Addr) (x:Int),S a=none->Pp (.ref a) (C8 S a (.lst [.int x]))
theorem V6:Zv ["_law_cell","_law_k","_law_drawn"] ["_law_cell","_law_k"] (Zb (top 50)):=⟨rfl,rfl,rfl,by decide +kernel,rfl,by decide +kernel,by decide +kernel⟩
theorem Q7(N:Nm P w K mg)(d:Aa K mg "_law_state" ["_law_cell","_law_k"] (top 50)):Has P w K mg base 1 "_law_state" ["_law_cell","_law_k"] Ts:=by
 have sc:=V6
 refine Ag (k:=0) d sc (fun ts S Pp h=>?_) fun cdv f A outer s H E hr=>?_
 ·obtain⟨c,k,rfl,_⟩:=h;rfl
 refine⟨_,(Zs (Zt 2 sc.nd (Gb (Kw (Zp (uv 0) (Kw Zi (uv 1))) Zi) Zi))
   (Zo (Zr (Hi (Zc (Gb (Kw (uv 2) (uv 2)) Zi) Zn))))),fun ts S Pp h=>?_⟩
 obtain⟨c,k,rfl,h⟩:=h
 and_intros
 refine⟨.inl ⟨by decide,by decide⟩,.inr ⟨by decide,by decide⟩,by decide,?_,by decide,by decide,fun p hp=>h p _ hp⟩
 have h1:=Int.emod_nonneg ((c+7919 * k) * 48271) (show (2147483647:Int)≠0 by decide)
 have h2:=Int.emod_lt_of_pos ((c+7919 * k) * 48271) (show (0:Int)<2147483647 by decide)
 exact .inl ⟨by omega,by omega⟩
def Dc:List T->TH->UX->Prop:=fun ts S Pp=>∃(a:Addr) (n:Int),ts=[.ref a,.int n]/\Sd S a/\0<n/\∀(r:Int) S',Dr a S S'->0<=r->r<n->Pp (.int r) S'
theorem Aas:Zv ["_law_state_here","_law_size"] ["_law_state_here","_law_size"] (Zb (top 51)):=⟨rfl,rfl,rfl,by decide +kernel,rfl,by decide +kernel,by decide +kernel⟩
theorem Tv(N:Nm P w K mg)(d:Aa K mg "_law_next" ["_law_state_here","_law_size"] (top 51)):Has P w K mg base 1 "_law_next" ["_law_state_here","_law_size"] Dc:=by
 have sc:=Aas
 refine Ag (k:=0) d sc (fun ts S Pp h=>?_) fun cdv f A outer s H E hr=>?_
 ·obtain⟨a,n,rfl,_⟩:=h;rfl
 refine⟨_,(Zs (Up (Gb (Zp (Kw (Zx (uv 0) Zi) Zi) Zi) Zi) (uv 0) Zi)
   (Zo (Zr (Gb (Go (Zx (uv 0) Zi) Zi) (uv 1))))),fun ts S Pp h=>?_⟩
 obtain⟨a,n,rfl,⟨x,hx⟩,hn,h⟩:=h
 have e0:atI [T.int x] (0:Int)=some (.int x):=Xb (j:=0) rfl
 refine⟨_,hx,_,e0,.inr ⟨by decide,by decide⟩,show (0:Int)<2147483647 by decide,[.int x],0,hx,rfl,?_⟩
 have e1:atI ([T.int x].set 0 (T.int ((x * 48271+11) % 2147483647))) (0:Int)=some (T.int ((x * 48271+11) % 2147483647)):=Xb (j:=0) rfl
 refine⟨_,Zd,_,e1,⟨by decide,by decide⟩,hn,h _ _ ⟨fun b hb=>A5 hb,_,Zd⟩ (Int.emod_nonneg _ (by omega)) (Int.emod_lt_of_pos _ hn)⟩
end
end K10
end
section
namespace K10
open PySem PySem.Spec PyProof.Rows L2 TL
seal UE UT UA US USs UI UG UO UW PTs
section
variable{P:Program}{w:World}{K:PySem.W.Frag}{mg:Str->Option Value}{base:Heap}
def abc:Str:=Str.ofString "abcdefghijklmnopqrstuvwxyz"
theorem Fk:abc.cps.toList=[97,98,99,100,101,102,103,104,105,106,107,108,109,110,111,112,113,114,115,116,117,118,119,120,121,122]:=by decide +kernel
theorem Tl{i:Int}(h0:0<=i)(h1:i<26):∃c,atI abc.cps.toList i=some c/\97<=c/\c<=122:=by
 have hl:i.toNat<abc.cps.toList.length:=by rw[Fk];simp;omega
 refine⟨abc.cps.toList[i.toNat],?_,?_⟩
 ·have q:=Xb (List.getElem?_eq_getElem hl)
  rw[Int.toNat_of_nonneg h0] at q
  exact q
 ·have all:∀c∈abc.cps.toList,97<=c/\c<=122:=by rw[Fk];decide
  exact all _ (List.getElem_mem hl)
theorem O1{i:Int}(h0:0<=i)(h1:i<26):atI abc.cps.toList i=some (97+i.toNat):=by
 have all:∀j:Nat,j<26->abc.cps.toList[j]?=some (97+j):=by rw[Fk];decide
 have q:=Xb (all i.toNat (by omega))
 rw[Int.toNat_of_nonneg h0] at q
 exact q
def Lt(x:Str):Prop:=∀c∈x.cps.toList,97<=c/\c<=122
theorem nameOk_iff{x:Str}:Zw x=true ↔ 1<=x.length/\x.length<=8/\Lt x:=by
 simp only[Zw,Bool.and_eq_true,decide_eq_true_eq,List.all_eq_true,Lt,and_assoc]
theorem Lt.one{c:Nat}(h1:97<=c)(h2:c<=122):Lt ⟨#[c]⟩:=fun d hd=>by
 have:d=c:=by simpa using hd
 subst this
 exact⟨h1,h2⟩
theorem Lt.app{x y:Str}(h:Lt x)(h':Lt y):Lt (x++y):=fun d hd=>by
 have hd:d∈x.cps.toList++y.cps.toList:=by simpa [Str.cps_append] using hd
 rcases List.mem_append.mp hd with q|q
 ·exact h d q
 ·exact h' d q
def words:List Str:=["box","own","end","number","plus","lock","skip","again","program","worker","claim","size","set","get","put","add","take","give","wait","check","unless","not","minus","less","same"]
theorem N4:∀z∈words,¬ z.length=1:=by decide +kernel
theorem R5:∀z∈words,Zw z=true:=by decide +kernel
theorem Ni{α:Type}{β:Type}(g:α->β){xs:List α}{i:Int}(h0:0<=i)(h1:i<xs.length):∃x∈xs,atI (xs.map g) i=some (g x):=by
 have hl:i.toNat<xs.length:=by omega
 refine⟨xs[i.toNat],List.getElem_mem hl,?_⟩
 have q:atI (xs.map g) ((i.toNat:Nat):Int)=some (g xs[i.toNat]):=Xb (by rw[List.getElem?_map,List.getElem?_eq_getElem hl];rfl)
 rw[Int.toNat_of_nonneg h0] at q
 exact q
theorem Xp{n:Nat}(h:n<=1000):n<=sizeLine:=Nat.le_of_lt (Xo h)
def Ll:List T->TH->UX->Prop:=fun ts S Pp=>∃(a:Addr) (m:Nat),ts=[.ref a,.int (m:Int)]/\Sd S a/\m<=26/\∀(zs:List Str) S',Dr a S S'->zs.length=m->(∀z∈zs,Zw z=true)->zs.Nodup->Pp (.lst (zs.map T.str)) S'
theorem Va:Zv ["_law_state_here","_law_amount","_law_letters","_law_shift","_law_found","_law_k","_law_name","_law_turn","_law_words"] ["_law_state_here","_law_amount"] (Zb (top 52)):=⟨rfl,rfl,rfl,by decide +kernel,rfl,by decide +kernel,by decide +kernel⟩
structure NI(S0:TH)(a p:Addr)(sh:Int)(k:Nat)(zs:List Str)(S:TH):Prop where
 nd:zs.Nodup
 one:∀z∈zs,z.length=1->∃(j:Nat) (c:Nat),j<k/\atI abc.cps.toList ((sh+j) % 26)=some c/\z=⟨#[c]⟩
 sd:Sd S a
 found:S p=some (.lst (zs.map T.str))
 len:zs.length=k
 ok:∀z∈zs,Zw z=true
 rest:∀b,b≠a->b≠p->S b=S0 b
theorem NI.dr{S0 S S':TH}{a p:Addr}{k:Nat}{sh:Int}{zs:List Str}(h:NI S0 a p sh k zs S)(np:p≠a)(d:Dr a S S'):NI S0 a p sh k zs S' :=
 ⟨h.nd,h.one,d.sd,(d.same p np).trans h.found,h.len,h.ok,fun b h1 h2=>(d.same b h1).trans (h.rest b h1 h2)⟩
theorem P2(N:Nm P w K mg)(d:Aa K mg "_law_names" ["_law_state_here","_law_amount"] (top 52))(c_law_next:Has P w K mg base 1 "_law_next" ["_law_state_here","_law_size"] Dc):Has P w K mg base 2 "_law_names" ["_law_state_here","_law_amount"] Ll:=by
 have sc:=Va
 refine Ag (k:=1) d sc (fun ts S Pp h=>?_) fun cdv f A outer s H E hr=>?_
 ·obtain⟨a,m,rfl,_⟩:=h;rfl
 have hu0:=Ar hr
 refine⟨_,(Zs (Zt 2 sc.nd Zq)
   (Zs (Zt 3 sc.nd (Zf c_law_next hr rfl (Zc (uv 0) (Zc Zi Zn))))
   (Zs (Zt 4 sc.nd (Hi Zn))
   (Zs (C5 PassesOwn.never rfl (Aw rfl N.range (Zc (uv 1) Zn)) (Ci 5 sc.nd) (Zs (Zt 6 sc.nd (Zx (uv 2) (Gb (Zp (uv 3) (uv 5)) Zi)))
   (Zs (C5 PassesOwn.never rfl (Aw rfl N.range (Zc (Zx (Ac (Zc Zi (Zc Zi (Zc Zi (Zc Zi (Zc (Zf c_law_next hr rfl (Zc (uv 0) (Zc Zi Zn))) Zn)))))) (Zf c_law_next hr rfl (Zc (uv 0) (Zc Zi Zn)))) Zn)) (Ci 7 sc.nd) (Zo (Zt 6 sc.nd (Zp (Zx (uv 2) (Zf c_law_next hr rfl (Zc (uv 0) (Zc Zi Zn)))) (uv 6)))))
   (Zs (Zg (Xf hu0 (Zf c_law_next hr rfl (Zc (uv 0) (Zc Zi Zn))) Zi) (Zs (Zt 8 sc.nd (Ac (Ab (Cs.s (Cs.s (Cs.s (Cs.s (Cs.s (Cs.s (Cs.s (Cs.s (Cs.s (Cs.s (Cs.s Cs.nil))))))))))))))
   (Zs (Zt 8 sc.nd (Zp (uv 8) (Ac (Ab (Cs.s (Cs.s (Cs.s (Cs.s (Cs.s (Cs.s (Cs.s (Cs.s (Cs.s (Cs.s (Cs.s Cs.nil)))))))))))))))
   (Zo (Zt 6 sc.nd (Zx (Zp (uv 8) (Ac (Ab (Cs.s (Cs.s (Cs.s Cs.nil)))))) (Zf c_law_next hr rfl (Zc (uv 0) (Zc Zi Zn)))))))) Ze)
   (Zs (Zg (ut_in (uv 6) (uv 4)) (Zo (Zt 6 sc.nd (Zx (uv 2) (Gb (Zp (uv 3) (uv 5)) Zi)))) Ze)
   (Zo (Ks (F9 (uv 4) (Zc (uv 6) Zn)))))))))
   (Zo (Zr (Yu (uv 4)))))))),fun ts S0 Pp h=>?_⟩
 obtain⟨a,m,rfl,hs,hm,h⟩:=h
 and_intros
 refine⟨a,26,rfl,hs,by decide,fun sh S1 d1 s0 s1=>⟨by decide,fun p hp=>?_⟩⟩
 have np:p≠a:=fun z=>by rw[z] at hp;obtain⟨x,q⟩:=d1.sd;rw[q] at hp;cases hp
 simp only[uFor,W6]
 and_intros
 refine⟨by omega,by omega,fun k env S=>∃e5 e6 e7 e8 zs,env=[some (.ref a),some (.int m),some (.str abc),some (.int sh),some (.ref p),e5,e6,e7,e8]/\NI S0 a p sh k zs S,⟨none,none,none,none,[],rfl,?_⟩,?_,?_⟩
 ·exact⟨List.nodup_nil,fun z hz=>(by cases hz),by obtain⟨x,q⟩:=d1.sd;exact⟨x,by rw[A5 (Ne.symm np)];exact q⟩,Zd,rfl,fun z hz=>(by cases hz),fun b h1 h2=>by rw[A5 h2];exact d1.same b h1⟩
 ·rintro k x env S hk ⟨e5,e6,e7,e8,zs,rfl,ni⟩
  have hkm:k<m:=by
   have:=(List.getElem?_eq_some_iff.mp hk).1
   rw[Zh] at this
   simpa using this
  have hx:x=.int k:=by
   rw[Cq (by simpa using hkm)] at hk
   exact(Option.some.inj hk).symm
  subst hx
  obtain⟨c0,hc0,l0,l1⟩:=Tl (i:=(sh+k) % 26) (Int.emod_nonneg _ (by decide)) (Int.emod_lt_of_pos _ (by decide))
  have fresh:∀{S:TH} {zs:List Str},NI S0 a p sh k zs S->(⟨#[c0]⟩:Str) ∉ zs:=fun {S zs} n hm=>by
   obtain⟨j,c,hj,ej,e⟩:=n.one _ hm rfl
   have r0:=Int.emod_nonneg (sh+k) (show (26:Int)≠0 by decide)
   have r1:=Int.emod_lt_of_pos (sh+k) (show (0:Int)<26 by decide)
   have r2:=Int.emod_nonneg (sh+j) (show (26:Int)≠0 by decide)
   have r3:=Int.emod_lt_of_pos (sh+j) (show (0:Int)<26 by decide)
   rw[O1 r2 r3] at ej
   rw[O1 r0 r1] at hc0
   have ec:c0=c:=by
    have:=congrArg Str.cps e
    simpa using this
   have e1:=Option.some.inj ej
   have e2:=Option.some.inj hc0
   omega
  have one0:Zw ⟨#[c0]⟩=true:=nameOk_iff.mpr ⟨show 1<=1 by omega,show 1<=8 by omega,Lt.one l0 l1⟩
  refine⟨show (0:Int)<26 by decide,by decide +kernel,c0,hc0,?_⟩
  refine⟨a,8,rfl,ni.sd,by decide,fun r8 S2 d2 r80 r81=>⟨show 5<=sizeLine by decide,a,5,rfl,d2.sd,by decide,fun r5 S3 d3 r50 r51=>?_⟩⟩
  have n3:=(ni.dr np d2).dr np d3
  have pk:∃t:Nat,t<=7/\atI [T.int 0,T.int 0,T.int 1,T.int 7,T.int r8] r5=some (.int t):=by
   have:r5=0\/r5=1\/r5=2\/r5=3\/r5=4:=by omega
   rcases this with rfl|rfl|rfl|rfl|rfl
   ·exact⟨0,by omega,rfl⟩
   ·exact⟨0,by omega,rfl⟩
   ·exact⟨1,by omega,rfl⟩
   ·exact⟨7,by omega,rfl⟩
   ·refine⟨r8.toNat,by omega,?_⟩
    rw[Int.toNat_of_nonneg r80]
    rfl
  obtain⟨t,ht,et⟩:=pk
  refine⟨_,et,show -(2^62)<=(t:Int) by omega,show (t:Int)<2^62 by omega,fun j env S=>∃e7 x,env=[some (.ref a),some (.int m),some (.str abc),some (.int sh),some (.ref p),some (.int k),some (.str x),e7,e8]/\NI S0 a p sh k zs S/\1<=x.length/\x.length<=1+j/\Lt x/\(x.length=1->x=⟨#[c0]⟩),⟨e7,_,rfl,n3,show 1<=1 by omega,show 1<=1+0 by omega,Lt.one l0 l1,fun _=>rfl⟩,?_,?_⟩
  ·rintro j y env S hj ⟨e7',x,rfl,n4,x1,x2,x3,x4⟩
   have hjt:j<t:=by
    have:=(List.getElem?_eq_some_iff.mp hj).1
    rw[Zh] at this
    simpa using this
   refine⟨a,26,rfl,n4.sd,by decide,fun r S5 d5 r0 r1=>?_⟩
   obtain⟨c,hc,q0,q1⟩:=Tl r0 r1
   have lx:(⟨#[c]⟩++x:Str).length=1+x.length:=by rw[Str.length_append];rfl
   refine⟨by decide +kernel,c,hc,Xp (show 1+x.length<=1000 by omega),_,_,rfl,n4.dr np d5,by omega,by omega,(Lt.one q0 q1).app x3,fun z=>by omega⟩
  ·rintro env S ⟨e7',x,rfl,n4,x1,x2,x3,x4⟩
   have okx0:Zw x=true:=nameOk_iff.mpr ⟨x1,by rw[Zh] at x2;simp at x2;omega,x3⟩
   have okx:Zw x=true/\(x.length=1->x=⟨#[c0]⟩):=⟨okx0,x4⟩
   have close:∀(x:Str) (e8:Option T) S,(Zw x=true/\(x.length=1->x=⟨#[c0]⟩))->x ∉ zs->NI S0 a p sh k zs S->∀S',S'=C8 S p (.lst (zs.map T.str++[.str x]))->∃e5 e6 e7 e8' zs',[some (T.ref a),some (.int m),some (.str abc),some (.int sh),some (.ref p),some (.int k),some (.str x),e7',e8]=[some (.ref a),some (.int m),some (.str abc),some (.int sh),some (.ref p),e5,e6,e7,e8']/\NI S0 a p sh (k+1) zs' S':=fun x e8 S okx nin n S' e=>by
    subst e
    refine⟨_,_,_,_,zs++[x],rfl,Pb n.nd nin,fun z hz hl=>?_,?_,?_,?_,?_,?_⟩
    ·rcases List.mem_append.mp hz with q|q
     ·obtain⟨j,c,hj,ej,e⟩:=n.one z q hl
      exact⟨j,c,by omega,ej,e⟩
     ·have e:z=x:=List.mem_singleton.mp q
      subst e
      exact⟨k,c0,by omega,hc0,okx.2 hl⟩
    ·obtain⟨y,q⟩:=n.sd
     exact⟨y,by rw[A5 (Ne.symm np)];exact q⟩
    ·rw[Zd,List.map_append];rfl
    ·simp[n.len]
    ·intro z hz
     rcases List.mem_append.mp hz with q|q
     ·exact n.ok z q
     ·have:z=x:=by simpa using q
      rw[this];exact okx.1
    ·intro b h1 h2
     rw[A5 h2];exact n.rest b h1 h2
   have lz:∀S,NI S0 a p sh k zs S->(zs.map T.str).length<sizeLine:=fun S n=>by
    rw[List.length_map,n.len]
    exact Xo (by omega)
   have tail:∀(x:Str) (e8:Option T) S (E:UEnds),(Zw x=true/\(x.length=1->x=⟨#[c0]⟩))->NI S0 a p sh k zs S->(∀(x:Str) (e8:Option T) S,(Zw x=true/\(x.length=1->x=⟨#[c0]⟩))->x ∉ zs->NI S0 a p sh k zs S->E.nx [some (T.ref a),some (.int m),some (.str abc),some (.int sh),some (.ref p),some (.int k),some (.str x),e7',e8] (C8 S p (.lst (zs.map T.str++[.str x]))))->Cd (uIf (Bk (Bb (oIn false) (D4 6) (D4 4))) (uSet 6 (Bb oIx (D4 2) (Bb oMod (Bb Ea (D4 3) (D4 5)) (uC (.int 26))))) D1) (D3 (Xj (D4 4) (Eg (D4 6) E7))) E [some (T.ref a),some (.int m),some (.str abc),some (.int sh),some (.ref p),some (.int k),some (.str x),e7',e8] S:=fun x e8 S E okx n fin=>by
    refine⟨_,n.found,zs,El zs,fun _=>?_,fun e=>?_⟩
    ·refine⟨show (0:Int)<26 by decide,by decide +kernel,c0,hc0,?_⟩
     refine⟨⟨_,n.found⟩,_,n.found,lz S n,fin _ _ _ ⟨one0,fun _=>rfl⟩ (fresh n) n⟩
    ·exact⟨⟨_,n.found⟩,_,n.found,lz S n,fin _ _ _ okx (of_decide_eq_false e) n⟩
   refine⟨a,6,rfl,n4.sd,by decide,fun r6 S6 d6 r60 r61=>⟨fun _=>?_,fun _=>?_⟩⟩
   ·refine⟨show 11<=sizeLine by decide,show 11<=sizeLine by decide,show 22<=sizeLine by decide,show 3<=sizeLine by decide,show 25<=sizeLine by decide,a,25,rfl,d6.sd,by decide,fun r25 S7 d7 r0 r1=>?_⟩
    obtain⟨z,hz,ez⟩:=Ni T.str (xs:=words) r0 r1
    exact⟨_,ez,tail z _ S7 _ ⟨R5 z hz,fun e=>absurd e (N4 z hz)⟩ ((n4.dr np d6).dr np d7) fun x e8 S okx nin n=>close x e8 S okx nin n _ rfl⟩
   ·exact tail x e8 S6 _ okx (n4.dr np d6) fun x e8 S okx nin n=>close x e8 S okx nin n _ rfl
 ·rintro env S ⟨e5,e6,e7,e8,zs,rfl,ni⟩
  and_intros
  refine⟨_,ni.found,h zs _ ?_ ?_ ni.ok ni.nd⟩
  ·refine⟨fun b hb=>?_,?_⟩
   ·by_cases hbp:b=p
    ·subst hbp
     rw[C4,<-d1.same b hb,hp]
    ·rw[En hbp];exact ni.rest b hb hbp
   ·obtain⟨x,q⟩:=ni.sd
    exact⟨x,by rw[En (Ne.symm np)];exact q⟩
  ·rw[ni.len,Zh];rfl
end
end K10
end
section
namespace K10
open PySem PySem.Spec PyProof.Rows L2 TL
seal UE UT UA US USs UI UG UO UW PTs Av uOr Ch
section
variable{P:Program}{w:World}{K:PySem.W.Frag}{mg:Str->Option Value}{base:Heap}
structure Nms(zs:List Str):Prop where
 few:zs.length<=100
 ok:∀z∈zs,Zw z=true
inductive VF(ow bx:List Str):Nat->T->Prop where
 |num {n:Nat} {i:Int}:0<=i->i<=99->VF ow bx (n+1) (.tup [.str "number",.int i])
 |own {n:Nat} {x:Str}:x∈ow->VF ow bx (n+1) (.tup [.str "own",.str x])
 |box {n:Nat} {x:Str}:x∈bx->VF ow bx (n+1) (.tup [.str "box",.str x])
 |neg {n:Nat} {t:T}:VF ow bx n t->VF ow bx (n+1) (.tup [.str "not",t])
 |two {n:Nat} {z:Str} {t u:T}:(z="plus"\/z="minus"\/z="less"\/z="same")->VF ow bx n t->VF ow bx n u->VF ow bx (n+1) (.tup [.str z,t,u])
theorem VF.up{ow bx:List Str}{n:Nat}{t:T}(h:VF ow bx n t):∀{m},n<=m->VF ow bx m t:=by
 induction h with
 |num a b=>intro m hm;cases m with
  |zero=>omega
  |succ m=>exact .num a b
 |own a=>intro m hm;cases m with
  |zero=>omega
  |succ m=>exact .own a
 |box a=>intro m hm;cases m with
  |zero=>omega
  |succ m=>exact .box a
 |neg _ ih=>intro m hm;cases m with
  |zero=>omega
  |succ m=>exact .neg (ih (by omega))
 |two a _ _ ih1 ih2=>intro m hm;cases m with
  |zero=>omega
  |succ m=>exact .two a (ih1 (by omega)) (ih2 (by omega))
def tagT(z:Str):T->Option T
 | .str x=>some (.tup [.str z,.str x])
 |_=>none
theorem F1(z:Str)(zs:List Str):(zs.map T.str).filterMap (tagT z)=zs.map fun x=>T.tup [.str z,.str x]:=by
 rw[List.filterMap_map,<-List.filterMap_eq_map]
 rfl
theorem Ax{x:Str}(h:Zw x=true):x.length<=8:=(nameOk_iff.mp h).2.1
def cVal(n:Nat):List T->TH->UX->Prop:=fun ts S Pp=>∃(a:Addr) (ow bx:List Str),ts=[.ref a,.int (n:Int),.lst (ow.map T.str),.lst (bx.map T.str)]/\Sd S a/\Nms ow/\Nms bx/\∀t S',Dr a S S'->VF ow bx n t->Pp t S'
theorem scVal:Zv ["_law_state_here","_law_deep","_law_owns","_law_boxes","_law_kind_here","_law_names_here","_law_one"] ["_law_state_here","_law_deep","_law_owns","_law_boxes"] (Zb (top 53)):=⟨rfl,rfl,rfl,by decide +kernel,rfl,by decide +kernel,by decide +kernel⟩
def Kg(n:Nat):List T->TH->UX->Prop:=fun ts S Pp=>∃j,j<n/\cVal (j+1) ts S Pp
theorem Oe{n m:Nat}(hm:1<=m)(N:Nm P w K mg)(d:Aa K mg "_law_value" ["_law_state_here","_law_deep","_law_owns","_law_boxes"] (top 53))(c_law_next:Has P w K mg base 1 "_law_next" ["_law_state_here","_law_size"] Dc)
  (c_law_value:Has P w K mg base m "_law_value" ["_law_state_here","_law_deep","_law_owns","_law_boxes"] (Kg n)):Has P w K mg base (m+1) "_law_value" ["_law_state_here","_law_deep","_law_owns","_law_boxes"] (Kg (n+1)):=by
 have sc:=scVal
 have c_law_next:=c_law_next.mono hm
 refine Ag (k:=m) d sc (fun ts S Pp h=>?_) fun cdv f A outer s H E hr=>?_
 ·obtain⟨j,_,a,ow,bx,rfl,_⟩:=h;rfl
 have hu0:=Ar hr
 refine⟨_,(Zs (Zt 4 sc.nd (Zf c_law_next hr rfl (Zc (uv 0) (Zc Zi Zn))))
   (Zs (Zt 5 sc.nd (Zp (Xg 0 ["_law_own"] [none] rfl (Xu (uv 2)) (fun _ _ _ _ _=>Ak) (fun _ _ _ _ _=>(Zu (Zc Zq (Zc (uv 0) Zn))))) (Xg 0 ["_law_box"] [none] rfl (Xu (uv 3)) (fun _ _ _ _ _=>Ak) (fun _ _ _ _ _=>(Zu (Zc Zq (Zc (uv 0) Zn)))))))
   (Zs (Zg (UW.ut (Bg (Eb (uv 1) Zi) (Xs (Eb (uv 4) Zi)))) (Zs (Zg (UW.ut (A0 (Cn (Zl rfl N.len (Zc (uv 5) Zn)) Zi) (Bd (Cn (Zf c_law_next hr rfl (Zc (uv 0) (Zc Zi Zn))) Zi)))) (Zo (Zr (Zx (uv 5) (Zf c_law_next hr rfl (Zc (uv 0) (Zc (Zl rfl N.len (Zc (uv 5) Zn)) Zn)))))) Ze)
   (Zo (Zr (Zu (Zc Zq (Zc (Zx (Ac (Zc (Zf c_law_next hr rfl (Zc (uv 0) (Zc Zi Zn))) (Zc (Zf c_law_next hr rfl (Zc (uv 0) (Zc Zi Zn))) Zn))) (Go (Zf c_law_next hr rfl (Zc (uv 0) (Zc Zi Zn))) Zi)) Zn)))))) Ze)
   (Zs (Zt 6 sc.nd (Zf c_law_value hr rfl (Zc (uv 0) (Zc (A8 (uv 1) Zi) (Zc (uv 2) (Zc (uv 3) Zn))))))
   (Zs (Zg (Xf hu0 (uv 4) Zi) (Zo (Zr (Zu (Zc Zq (Zc (uv 6) Zn))))) Ze)
   (Zo (Zr (Zu (Zc (Zx (Ac (Ab (Cs.s (Cs.s (Cs.s (Cs.s Cs.nil)))))) (A8 (uv 4) Zi)) (Zc (uv 6) (Zc (Zf c_law_value hr rfl (Zc (uv 0) (Zc (A8 (uv 1) Zi) (Zc (uv 2) (Zc (uv 3) Zn))))) Zn))))))))))),fun ts S0 Pp h=>?_⟩
 obtain⟨j,hj,a,ow,bx,rfl,hs,now,nbx,h⟩:=h
 refine⟨a,8,rfl,hs,by decide,fun kd S1 d1 k0 k1=>?_⟩
 have l1:(ow.map T.str).length<=sizeLine:=by rw[List.length_map];exact Xp (by have:=now.few;omega)
 have l2:(bx.map T.str).length<=sizeLine:=by rw[List.length_map];exact Xp (by have:=nbx.few;omega)
 refine Ay (ts:=ow.map T.str) (f:=tagT "own") (fun k hk=>hk) l1 (fun y hy A B hA hB=>?_) ?_
 ·obtain⟨z,_,rfl⟩:=List.mem_map.mp hy
  exact⟨fun _=>⟨show 2<=sizeLine by decide,hA _ rfl⟩,fun e=>(by cases e)⟩
 refine Ay (ts:=bx.map T.str) (f:=tagT "box") (fun k hk=>hk) l2 (fun y hy A B hA hB=>?_) ?_
 ·obtain⟨z,_,rfl⟩:=List.mem_map.mp hy
  exact⟨fun _=>⟨show 2<=sizeLine by decide,hA _ rfl⟩,fun e=>(by cases e)⟩
 have vts:∀t∈(ow.map T.str).filterMap (tagT "own")++(bx.map T.str).filterMap (tagT "box"),VF ow bx 1 t:=by
  intro t ht
  rw[F1,F1] at ht
  rcases List.mem_append.mp ht with q|q
  ·obtain⟨z,hz,rfl⟩:=List.mem_map.mp q
   exact .own hz
  ·obtain⟨z,hz,rfl⟩:=List.mem_map.mp q
   exact .box hz
 refine⟨?_,?_⟩
 ·rw[F1,F1,List.length_map,List.length_map]
  exact Xp (by have:=now.few;have:=nbx.few;omega)
 refine Wl (fun _ h=>h) (fun _ h=>h) ⟨fun e=>?_,fun e=>?_⟩
 ·refine V3 (R:=Dr a S0) (fun _ h=>h) d1 (fun e1 P hP=>⟨a,3,rfl,d1.sd,by decide,fun r S2 d2 _ _=>hP _ S2 (d1.trans d2)⟩) fun b S2 d2 hb=>⟨fun e2=>?_,fun e2=>?_⟩
  ·have hl:=hb e2
   have hl:=of_decide_eq_true hl
   refine⟨a,_,rfl,d2.sd,hl,fun r S3 d3 r0 r1=>?_⟩
   obtain⟨t,ht,et⟩:=Lj r0 r1
   exact⟨t,et,h t S3 (d2.trans d3) ((vts t ht).up (by omega))⟩
  ·refine⟨a,4,rfl,d2.sd,by decide,fun r4 S3 d3 r40 r41=>⟨a,100,rfl,d3.sd,by decide,fun r100 S4 d4 r0 r1=>⟨show 2<=sizeLine by decide,a,6,rfl,d4.sd,by decide,fun r6 S5 d5 r60 r61=>⟨⟨by decide,by decide⟩,?_⟩⟩⟩⟩
   have:r6 / 5=0\/r6 / 5=1:=by omega
   rcases this with q|q
   ·refine⟨.int r4,by rw[q];rfl,show 2<=sizeLine by decide,h _ S5 (((d2.trans d3).trans d4).trans d5) (.num r40 (by omega))⟩
   ·refine⟨.int r100,by rw[q];rfl,show 2<=sizeLine by decide,h _ S5 (((d2.trans d3).trans d4).trans d5) (.num r0 (by omega))⟩
 ·have e1:¬ ((j+1:Nat):Int)<2/\¬ kd<3:=by simpa using e
  obtain⟨i,rfl⟩:∃i,j=i+1:=⟨j - 1,by omega⟩
  have en:((i+1+1:Nat):Int) - 1=((i+1:Nat):Int):=by omega
  refine⟨i,by omega,a,ow,bx,by dsimp only;rw[en],d1.sd,now,nbx,fun t S2 d2 vt=>⟨fun e3=>?_,fun e3=>?_⟩⟩
  ·exact⟨show 2<=sizeLine by decide,h _ S2 (d1.trans d2) (.neg vt)⟩
  ·have e4:¬ kd=3:=by simpa using e3
   refine⟨show 4<=sizeLine by decide,?_⟩
   have:kd - 4=0\/kd - 4=1\/kd - 4=2\/kd - 4=3:=by omega
   have wd:∃z:Str,(z="plus"\/z="minus"\/z="less"\/z="same")/\atI [T.str "plus",T.str "minus",T.str "less",T.str "same"] (kd - 4)=some (.str z):=by
    rcases this with q|q|q|q <;> rw[q]
    ·exact⟨"plus",.inl rfl,rfl⟩
    ·exact⟨"minus",.inr (.inl rfl),rfl⟩
    ·exact⟨"less",.inr (.inr (.inl rfl)),rfl⟩
    ·exact⟨"same",.inr (.inr (.inr rfl)),rfl⟩
   obtain⟨z,lz,ez⟩:=wd
   refine⟨_,ez,i,by omega,a,ow,bx,by dsimp only;rw[en],d2.sd,now,nbx,fun t' S3 d3 vt'=>⟨show 3<=sizeLine by decide,h _ S3 ((d1.trans d2).trans d3) (.two lz vt vt')⟩⟩
theorem Kl(N:Nm P w K mg)(d:Aa K mg "_law_value" ["_law_state_here","_law_deep","_law_owns","_law_boxes"] (top 53))(c:Has P w K mg base 1 "_law_next" ["_law_state_here","_law_size"] Dc):∀n:Nat,Has P w K mg base (n+1) "_law_value" ["_law_state_here","_law_deep","_law_owns","_law_boxes"] (Kg n)
 | 0=>Fm d fun _ _ _ ⟨_,z,_⟩=>by omega
 |n+1=>Oe (m:=n+1) (by omega) N d c (Kl N d c n)
end
end K10
end
section
namespace K10
open PySem PySem.Spec PyProof.Rows L2 TL
seal UE UT UA US USs UI UG UO UW PTs Av
section
variable{P:Program}{w:World}{K:PySem.W.Frag}{mg:Str->Option Value}{base:Heap}
def Aj(ow bx lk:List Str)(behind:Int)(k:Str)(x:T):Bool :=
 if k="own" then isName x&&inS ow x else if k="box" then isName x&&inS bx x else if k="lock" then isName x&&inS lk x else if k="value" then valOk 5 ow [] x else A7 0 behind x
def Al(ow bx lk:List Str)(behind:Int):T->Bool
 | .tup (.str w::r)=>(match stepKinds w with
  |none=>false
  |some ks=>decide (r.length=ks.length)&&(List.zipWith (fun x k=>Aj ow bx lk behind k x) r ks).all id)
 |_=>false
def Kh:List T->TH->UX->Prop:=fun ts S Pp=>∃x k ow bx lk behind,ts=[x,.str k,.lst (ow.map T.str),.lst (bx.map T.str),.lst (lk.map T.str),.int behind]/\Pl x/\Pp (.bl (Aj ow bx lk behind k x)) S
def W9:List T->TH->UX->Prop:=fun ts S Pp=>∃x ow bx lk behind,ts=[x,.lst (ow.map T.str),.lst (bx.map T.str),.lst (lk.map T.str),.int behind]/\Pl x/\Pp (.bl (Al ow bx lk behind x)) S
theorem Od:Zv ["thing","kind","owns","boxes","locks","behind"] ["thing","kind","owns","boxes","locks","behind"] (Zb (top 24)):=⟨rfl,rfl,rfl,by decide +kernel,rfl,by decide +kernel,by decide +kernel⟩
theorem Aaz:Zv ["thing","owns","boxes","locks","behind","kinds"] ["thing","owns","boxes","locks","behind"] (Zb (top 23)):=⟨rfl,rfl,rfl,by decide +kernel,rfl,by decide +kernel,by decide +kernel⟩
theorem is_step_part{m:Nat}(N:Nm P w K mg)(d:Aa K mg "is_step_part" ["thing","kind","owns","boxes","locks","behind"] (top 24))(c_is_name_of:Has P w K mg base m "is_name_of" ["thing","names"] Hc)(c_is_number:Has P w K mg base m "is_number" ["thing","least","greatest"] Bs)(c_is_value:Has P w K mg base m "is_value" ["thing","owns","boxes"] M9):Has P w K mg base (m+1) "is_step_part" ["thing","kind","owns","boxes","locks","behind"] Kh:=by
 have sc:=Od
 refine Ag (k:=m) d sc (fun ts S Pp h=>?_) fun cdv f A outer s H E hr=>?_
 ·obtain⟨x,k,ow,bx,lk,b,rfl,_⟩:=h;rfl
 have hu0:=Ar hr
 refine⟨_,(Zs (Zg (Xf hu0 (uv 1) Zq) (Zo (Zr (Zf c_is_name_of hr rfl (Zc (uv 0) (Zc (uv 2) Zn))))) Ze)
   (Zs (Zg (Xf hu0 (uv 1) Zq) (Zo (Zr (Zf c_is_name_of hr rfl (Zc (uv 0) (Zc (uv 3) Zn))))) Ze)
   (Zs (Zg (Xf hu0 (uv 1) Zq) (Zo (Zr (Zf c_is_name_of hr rfl (Zc (uv 0) (Zc (uv 4) Zn))))) Ze)
   (Zs (Zg (Xf hu0 (uv 1) Zq) (Zo (Zr (Zf c_is_value hr rfl (Zc (uv 0) (Zc (uv 2) (Zc (Ac Zn) Zn)))))) Ze)
   (Zo (Zr (Zf c_is_number hr rfl (Zc (uv 0) (Zc Zi (Zc (uv 5) Zn)))))))))),fun ts S Pp h=>?_⟩
 obtain⟨x,k,ow,bx,lk,b,rfl,px,h⟩:=h
 unfold Aj at h
 refine⟨fun e=>?_,fun e=>⟨fun e1=>?_,fun e1=>⟨fun e2=>?_,fun e2=>⟨fun e3=>?_,fun e3=>?_⟩⟩⟩⟩
 ·rw[if_pos (by simpa using e)] at h
  exact⟨x,ow,rfl,px,h⟩
 ·rw[if_neg (by simpa using e),if_pos (by simpa using e1)] at h
  exact⟨x,bx,rfl,px,h⟩
 ·rw[if_neg (by simpa using e),if_neg (by simpa using e1),if_pos (by simpa using e2)] at h
  exact⟨x,lk,rfl,px,h⟩
 ·rw[if_neg (by simpa using e),if_neg (by simpa using e1),if_neg (by simpa using e2),if_pos (by simpa using e3)] at h
  exact⟨show 0<=sizeLine by decide,x,ow,[],rfl,px,h⟩
 ·rw[if_neg (by simpa using e),if_neg (by simpa using e1),if_neg (by simpa using e2),if_neg (by simpa using e3)] at h
  exact⟨x,0,b,rfl,px,h⟩
theorem Qk(wd:Str):valT Iq (Sum.inr wd)=(stepKinds wd).map fun ks=>T.tup (ks.map T.str):=by
 unfold valT Iq stepKinds
 rw[List.find?_map,Option.map_map,Option.map_map]
 have e:((fun kv:Key×T=>decide (kv.1=Sum.inr wd)) ∘ fun p:Str×List Str=>((Sum.inr p.1:Key),T.tup (p.2.map T.str)))=fun p=>decide (p.1=wd):=by
  funext p
  show decide ((Sum.inr p.1:Key)=Sum.inr wd)=decide (p.1=wd)
  exact K3 _ _
 rw[e]
 rfl
theorem F6{wd:Str}{ks:List Str}(h:stepKinds wd=some ks):1<=ks.length/\ks.length<=2:=by
 unfold stepKinds at h
 cases e:stepTab.find? fun p=>decide (p.1=wd) with
 |none=>rw[e] at h;cases h
 |some p =>
  rw[e] at h
  cases h
  have m:=List.mem_of_find?_eq_some e
  have all:∀q∈stepTab,1<=q.2.length/\q.2.length<=2:=by decide
  exact all p m
def Tm(g:T->Str->Bool):T->Option T
 | .tup [x,.str k]=>some (.bl (g x k))
 |_=>none
theorem No(g:T->Str->Bool)(r:List T)(ks:List Str):(Fc r (ks.map T.str)).filterMap (Tm g)=(List.zipWith g r ks).map T.bl:=by
 unfold Fc
 induction r generalizing ks with
 |nil=>rfl
 |cons a r ih =>
  cases ks with
  |nil=>rfl
  |cons k ks =>
   simp only[List.map_cons,List.zipWith_cons_cons,List.filterMap_cons,Tm]
   rw[ih]
theorem is_step{m:Nat}(N:Nm P w K mg)(d:Aa K mg "is_step" ["thing","owns","boxes","locks","behind"] (top 23))(c_has_word:Has P w K mg base m "has_word" ["thing"] O6)(c_is_step_part:Has P w K mg base m "is_step_part" ["thing","kind","owns","boxes","locks","behind"] Kh):Has P w K mg base (m+1) "is_step" ["thing","owns","boxes","locks","behind"] W9:=by
 have sc:=Aaz
 refine Ag (k:=m) d sc (fun ts S Pp h=>?_) fun cdv f A outer s H E hr=>?_
 ·obtain⟨x,ow,bx,lk,b,rfl,_⟩:=h;rfl
 have hu0:=Ar hr
 refine⟨_,(Zs (Zg (Ae (Xe (Zf c_has_word hr rfl (Zc (uv 0) Zn)))) (Zo (Zr Az)) Ze)
   (Zs (Zt 5 sc.nd (M0 rfl N.STEP_PARTS (Zx (uv 0) Zi) ⟨rfl,rfl,rfl,rfl⟩))
   (Zs (Zg (UW.ut (Bg (Sm (uv 5) Lb) (Xs (Jy hu0 (Zl rfl N.len (Zc (uv 0) Zn)) (Zp Zi (Zl rfl N.len (Zc (uv 5) Zn))))))) (Zo (Zr Az)) Ze)
   (Zo (Zr (Fa rfl rfl N.all (Zc (L3 0 1 ["part","kind","owns","boxes","locks","behind"] [none,none,some 1,some 2,some 3,some 4] rfl (Ro rfl N.zip (Zc (Bp (uv 0) (Ad Zi) Af) (Zc (uv 5) Zn))) (fun _ _ _ _ _=>Ak) (fun _ _ _ _ _=>(Zf c_is_step_part hr rfl (Zc (uv 0) (Zc (uv 1) (Zc (uv 2) (Zc (uv 3) (Zc (uv 4) (Zc (uv 5) Zn))))))))) Zn))))))),fun ts S Pp h=>?_⟩
 obtain⟨x,ow,bx,lk,b,rfl,px,h⟩:=h
 refine⟨x,rfl,px,fun hw=>?_,fun hw=>?_⟩
 ·have hw:F4 x=false:=by simpa using hw
  have e0:Al ow bx lk b x=false:=by
   unfold Al
   split
   ·cases hw
   ·rfl
  rw[e0] at h
  exact h
 have hw:F4 x=true:=by simpa using hw
 match x,hw,px,h with
 | .tup (.str wd::r),hw,px,h =>
  have pr:∀t∈r,Pl t:=by
   cases px with
   |tup q=>exact fun t ht=>q t (List.mem_cons_of_mem _ ht)
  have ei:atI (T.str wd::r) (0:Int)=some (.str wd):=Xb (j:=0) rfl
  have hv:=Qk wd
  cases hk:stepKinds wd with
  |none =>
   rw[hk] at hv
   have e0:Al ow bx lk b (.tup (.str wd::r))=false:=by simp only[Al,hk]
   rw[e0] at h
   refine⟨_,ei,?_⟩
   simp only[uIf,uOr,Ch,Jb,Bk,Bb,uUn,D4,uC,Bq,Eg,E7,Jj,Cd,uSet,D1,D3,E2,Ez,Jl,Jm,E4,B9,Jr,uoN,uoS,Jo,Ei,Ew,Di,Xj,Xk,Je,Dm,Dy,tyT,okC,isT,Fx,oII,oIC,Fl,oIx,Ja,G0,D0,G4,Ea,oIn,Gi,Il,Jc,TL.Xm,List.map_cons,List.map_nil,List.length_cons,List.length_nil,List.replicate,List.cons_append,List.nil_append,List.append_nil,List.getElem?_cons_zero,List.getElem?_cons_succ,List.set_cons_zero,List.set_cons_succ,Bool.false_eq_true,Bool.true_eq_false,false_implies,true_implies,forall_const,and_true,true_and,Bool.not_true,Bool.not_false,beq_self_eq_true,Bool.true_or,Bool.or_true,Bool.false_or,Bool.or_false,Bool.and_true,Bool.true_and,Bool.and_false,Bool.false_and,reduceCtorEq,Nat.reduceAdd,Nat.reduceSub,String.reduceBEq,Bool.false_xor,Bool.true_xor,Option.some.injEq,exists_eq_left,exists_eq_left',keyT,hv,Option.map_none,Option.getD_none]
   exact h
  |some ks =>
   rw[hk] at hv
   have e0:Al ow bx lk b (.tup (.str wd::r))=(decide (r.length=ks.length)&&(List.zipWith (fun x k=>Aj ow bx lk b k x) r ks).all id):=by simp only[Al,hk]
   rw[e0] at h
   refine⟨_,ei,?_⟩
   simp only[uIf,uOr,Ch,Jb,Bk,Bb,uUn,D4,uC,Bq,Eg,E7,Jj,Cd,uSet,D1,D3,E2,Ez,Jl,Jm,E4,B9,Jr,uoN,uoS,Jo,Ei,Ew,Di,Xj,Xk,Je,Dm,Dy,tyT,okC,isT,Fx,oII,oIC,Fl,oIx,Ja,G0,D0,G4,Ea,oIn,Gi,Il,Jc,TL.Xm,List.map_cons,List.map_nil,List.length_cons,List.length_nil,List.replicate,List.cons_append,List.nil_append,List.append_nil,List.getElem?_cons_zero,List.getElem?_cons_succ,List.set_cons_zero,List.set_cons_succ,Bool.false_eq_true,Bool.true_eq_false,false_implies,true_implies,forall_const,and_true,true_and,Bool.not_true,Bool.not_false,beq_self_eq_true,Bool.true_or,Bool.or_true,Bool.false_or,Bool.or_false,Bool.and_true,Bool.true_and,Bool.and_false,Bool.false_and,reduceCtorEq,Nat.reduceAdd,Nat.reduceSub,String.reduceBEq,Bool.false_xor,Bool.true_xor,Option.some.injEq,exists_eq_left,exists_eq_left',keyT,hv,Option.map_some,Option.getD_some,List.length_map]
   refine And.intro (fun e=>?_) (fun e=>?_)
   ·have:¬ r.length=ks.length:=by
     intro q
     rw[q] at e
     simp at e
     omega
    rw[decide_eq_false this,Bool.false_and] at h
    exact h
   ·have hl:r.length=ks.length:=by simp at e;omega
    rw[decide_eq_true hl,Bool.true_and] at h
    have kl:=F6 hk
    refine Ay (ts:=Fc r (ks.map T.str)) (f:=Tm fun x k=>Aj ow bx lk b k x) (fun k hk'=>?_) ?_ (fun y hy A B hA hB=>?_) ?_
    ·simp only[uZip]
     simp only[uIf,uOr,Ch,Jb,Bk,Bb,uUn,D4,uC,Bq,Eg,E7,Jj,Cd,uSet,D1,D3,E2,Ez,Jl,Jm,E4,B9,Jr,uoN,uoS,Jo,Ei,Ew,Di,Xj,Xk,Je,Dm,Dy,tyT,okC,isT,Fx,oII,oIC,Fl,oIx,Ja,G0,D0,G4,Ea,oIn,Gi,Il,Jc,TL.Xm,List.map_cons,List.map_nil,List.length_cons,List.length_nil,List.replicate,List.cons_append,List.nil_append,List.append_nil,List.getElem?_cons_zero,List.getElem?_cons_succ,List.set_cons_zero,List.set_cons_succ,Bool.false_eq_true,Bool.true_eq_false,false_implies,true_implies,forall_const,and_true,true_and,Bool.not_true,Bool.not_false,beq_self_eq_true,Bool.true_or,Bool.or_true,Bool.false_or,Bool.or_false,Bool.and_true,Bool.true_and,Bool.and_false,Bool.false_and,reduceCtorEq,Nat.reduceAdd,Nat.reduceSub,String.reduceBEq,Bool.false_xor,Bool.true_xor,Option.some.injEq,exists_eq_left,exists_eq_left',Ik]
     refine⟨?_,?_,hk'⟩
     ·rintro⟨q,_⟩
      simp[HT.sIx] at q
     ·rw[List.length_map];exact hl
    ·simp only[Fc,List.length_zipWith,List.length_map]
     exact Nat.le_trans (show min r.length ks.length<=1000 by omega) (by decide)
    ·obtain⟨x,kd,hx,rfl⟩:=L7 hy
     have hA:=hA _ rfl
     exact⟨fun _=>⟨x,kd,ow,bx,lk,b,rfl,pr x hx,hA⟩,fun e=>by cases e⟩
    ·dsimp only
     rw[No]
     rw[Ho]
     exact h
end
end K10
end
section
namespace K10
open PySem PySem.Spec PyProof.Rows L2 TL
seal UE UT UA US USs UI UG UO UW PTs Av
theorem no_{A B:Prop}{b:Bool}(h:b=false)(k:B):(b=true->A)/\(b=false->B):=⟨fun e=>(by rw[h] at e;cases e),fun _=>k⟩
theorem yes_{A B:Prop}{b:Bool}(h:b=true)(k:A):(b=true->A)/\(b=false->B):=⟨fun _=>k,fun e=>(by rw[h] at e;cases e)⟩
section
variable{P:Program}{w:World}{K:PySem.W.Frag}{mg:Str->Option Value}{base:Heap}
def Ah(lo hi:Int):T->Bool
 | .tup ts=>decide (lo<=ts.length)&&decide ((ts.length:Int)<=hi)
 |_=>false
def pairOk(size:Int)(x:T):Bool:=Ah 2 2 x&&(match x with | .tup [n,i]=>isName n&&A7 0 (size - 1) i|_=>false)
def headS:T->Option Str
 | .tup (.str x::_)=>some x
 |_=>none
def Xn(ts:List T):List Str:=ts.filterMap headS
def items:T->List T
 | .tup ts=>ts
 |_=>[]
def A6(most size:Int)(x:T):Bool:=Ah 0 most x&&((items x).all (pairOk size)&&decide (Xn (items x)).Nodup)
def strsOf(ts:List T):List Str:=ts.filterMap fun t=>match t with
 | .str x=>some x
 |_=>none
def Bm(bs:List Str)(x:T):Bool:=Ah 0 4 x&&((items x).all isName&&decide (bs++strsOf (items x)).Nodup)
def progOk(size:Int)(x:T):Bool:=Ah 3 3 x&&(match x with | .tup [n,o,s]=>isName n&&(A6 4 size o&&Ah 0 30 s)|_=>false)
def Bz(size:Int)(x:T):Bool:=Ah 1 4 x&&((items x).all (progOk size)&&decide (Xn (items x)).Nodup)
def Bx(n:Int)(x:T):Bool:=Ah 1 6 x&&(items x).all (A7 0 (n - 1))
def G1:List T->TH->UX->Prop:=fun ts S Pp=>∃x lo hi,ts=[x,.int lo,.int hi]/\Pl x/\Pp (.bl (Ah lo hi x)) S
theorem scRow:Zv ["thing","fewest","most"] ["thing","fewest","most"] (Zb (top 37)):=⟨rfl,rfl,rfl,by decide +kernel,rfl,by decide +kernel,by decide +kernel⟩
theorem is_tuple_of(N:Nm P w K mg)(d:Aa K mg "is_tuple_of" ["thing","fewest","most"] (top 37)):Has P w K mg base 1 "is_tuple_of" ["thing","fewest","most"] G1:=by
 have sc:=scRow
 refine Ag (k:=0) d sc (fun ts S Pp h=>?_) fun cdv f A outer s H E hr=>?_
 ·obtain⟨x,lo,hi,rfl,_⟩:=h;rfl
 refine⟨_,(Zo (Zr (Bf (A9 rfl N.isinstance (Zc (uv 0) (Zc (Xv rfl N.tuple boot_tuple) Zn))) (B1 (C7 (uv 1) (Zl rfl N.len (Zc (uv 0) Zn)) (uv 2)))))),fun ts S Pp h=>?_⟩
 obtain⟨x,lo,hi,rfl,px,h⟩:=h
 cases px with
 | @tup ts _ =>
  and_intros
  exact⟨fun e=>by rw[Ah,e,Bool.true_and] at h;exact h,fun e=>by rw[Ah,e,Bool.false_and] at h;exact h⟩
 |_=>and_intros;exact h
def Fu:T->Option T
 | .tup (x::_)=>some x
 |_=>none
def Gp:List T->TH->UX->Prop:=fun ts S Pp=>∃L,ts=[.tup L]/\L.length<=1000/\(∀x∈L,∃y r,x=.tup (.str y::r))/\Pp (.lst ((Xn L).map T.str)) S
theorem Vj:Zv ["things"] ["things"] (Zb (top 38)):=⟨rfl,rfl,rfl,by decide +kernel,rfl,by decide +kernel,by decide +kernel⟩
theorem Bh:∀{L:List T},(∀x∈L,∃y r,x=.tup (.str y::r))->L.filterMap Fu=(Xn L).map T.str
 |[],_=>rfl
 |x::r,h=>by
  obtain⟨y,q,rfl⟩:=h x List.mem_cons_self
  have ih:=Bh (L:=r) fun z hz=>h z (List.mem_cons_of_mem _ hz)
  show T.str y::r.filterMap Fu=T.str y::(Xn r).map T.str
  rw[ih]
theorem names_of(N:Nm P w K mg)(d:Aa K mg "names_of" ["things"] (top 38)):Has P w K mg base 1 "names_of" ["things"] Gp:=by
 have sc:=Vj
 refine Ag (k:=0) d sc (fun ts S Pp h=>?_) fun cdv f A outer s H E hr=>?_
 ·obtain⟨L,rfl,_⟩:=h;rfl
 refine⟨_,(Zo (Zr (Xg 0 ["thing"] [none] rfl (Xu (uv 0)) (fun _ _ _ _ _=>Ak) (fun _ _ _ _ _=>(Zx (uv 0) Zi))))),fun ts S Pp h=>?_⟩
 obtain⟨L,rfl,hl,hh,h⟩:=h
 refine Ay (ts:=L) (f:=Fu) (fun k hk=>hk) (Xp hl) (fun x hx A B hA hB=>?_) ?_
 ·obtain⟨y,r,rfl⟩:=hh x hx
  exact⟨fun _=>⟨_,Xb (j:=0) rfl,hA _ rfl⟩,fun e=>(by cases e)⟩
 ·rw[Bh hh]
  exact h
def Dd:List T->TH->UX->Prop:=fun ts S Pp=>∃zs:List Str,ts=[.lst (zs.map T.str)]/\zs.length<=1000/\Pp (.bl (decide zs.Nodup)) S
theorem Tz:Zv ["names"] ["names"] (Zb (top 39)):=⟨rfl,rfl,rfl,by decide +kernel,rfl,by decide +kernel,by decide +kernel⟩
theorem are_unlike(N:Nm P w K mg)(d:Aa K mg "are_unlike" ["names"] (top 39)):Has P w K mg base 1 "are_unlike" ["names"] Dd:=by
 have sc:=Tz
 refine Ag (k:=0) d sc (fun ts S Pp h=>?_) fun cdv f A outer s H E hr=>?_
 ·obtain⟨zs,rfl,_⟩:=h;rfl
 have hu0:=Ar hr
 refine⟨_,(Zo (Zr (Fv hu0 (Qb rfl rfl N.len rfl N.set (uv 0)) (Zl rfl N.len (Zc (uv 0) Zn))))),fun ts S Pp h=>?_⟩
 obtain⟨zs,rfl,hz,h⟩:=h
 refine⟨zs,El zs,hz,fun n hn=>?_⟩
 show Pp (.bl (Bool.xor false (decide ((n:Int)=((zs.map T.str).length:Int))))) S
 rw[Bool.false_xor,List.length_map]
 have e:decide ((n:Int)=(zs.length:Int))=decide zs.Nodup:=by
  by_cases q:zs.Nodup
  ·rw[decide_eq_true q,decide_eq_true (by rw[hn.mpr q])]
  ·rw[decide_eq_false q,decide_eq_false fun z=>q (hn.mp (by omega))]
 rw[e]
 exact h
def Me:List T->TH->UX->Prop:=fun ts S Pp=>∃x size,ts=[x,.int size]/\Pl x/\Pp (.bl (pairOk size x)) S
theorem Qj:Zv ["thing","size"] ["thing","size"] (Zb (top 41)):=⟨rfl,rfl,rfl,by decide +kernel,rfl,by decide +kernel,by decide +kernel⟩
theorem Sx{x:T}(h:Ah 2 2 x=true):∃a b,x=.tup [a,b]:=by
 cases x with
 |tup ts =>
  simp only[Ah,Bool.and_eq_true,decide_eq_true_eq] at h
  match ts,h with
  |[a,b],_=>exact⟨a,b,rfl⟩
  |[],h=>simp at h
  |[_],h=>simp at h
  |_::_::_::_,h=>simp at h;omega
 |_=>cases h
theorem row3{x:T}(h:Ah 3 3 x=true):∃a b c,x=.tup [a,b,c]:=by
 cases x with
 |tup ts =>
  simp only[Ah,Bool.and_eq_true,decide_eq_true_eq] at h
  match ts,h with
  |[a,b,c],_=>exact⟨a,b,c,rfl⟩
  |[],h=>simp at h
  |[_],h=>simp at h
  |[_,_],h=>simp at h
  |_::_::_::_::_,h=>simp at h;omega
 |_=>cases h
theorem At{lo hi:Int}{x:T}(h:Ah lo hi x=true):∃ts,x=.tup ts/\lo<=ts.length/\(ts.length:Int)<=hi:=by
 cases x with
 |tup ts =>
  simp only[Ah,Bool.and_eq_true,decide_eq_true_eq] at h
  exact⟨ts,rfl,h⟩
 |_=>cases h
theorem Ai{ts:List T}(h:Pl (.tup ts)):∀t∈ts,Pl t:=by cases h with|tup q=>exact q
theorem is_holding{m:Nat}(N:Nm P w K mg)(d:Aa K mg "is_holding" ["thing","size"] (top 41))(c_is_tuple_of:Has P w K mg base m "is_tuple_of" ["thing","fewest","most"] G1)(c_is_name:Has P w K mg base m "is_name" ["thing"] Fs)(c_is_number:Has P w K mg base m "is_number" ["thing","least","greatest"] Bs):Has P w K mg base (m+1) "is_holding" ["thing","size"] Me:=by
 have sc:=Qj
 refine Ag (k:=m) d sc (fun ts S Pp h=>?_) fun cdv f A outer s H E hr=>?_
 ·obtain⟨x,size,rfl,_⟩:=h;rfl
 refine⟨_,(Zo (Zr (Bf (Zf c_is_tuple_of hr rfl (Zc (uv 0) (Ab (Cs.i (Cs.i Cs.nil))))) (Bf (Zf c_is_name hr rfl (Zc (Zx (uv 0) Zi) Zn)) (B1 (Zf c_is_number hr rfl (Zc (Zx (uv 0) Zi) (Zc Zi (Zc (A8 (uv 1) Zi) Zn))))))))),fun ts S Pp h=>?_⟩
 obtain⟨x,size,rfl,px,h⟩:=h
 unfold pairOk at h
 refine⟨x,2,2,rfl,px,?_⟩
 cases e:Ah 2 2 x with
 |false=>rw[e,Bool.false_and] at h;exact no_ rfl h
 |true =>
  obtain⟨a,b,rfl⟩:=Sx e
  rw[e,Bool.true_and] at h
  have h:Pp (.bl (isName a&&A7 0 (size - 1) b)) S:=h
  have pa:=Ai px a (by simp)
  have pb:=Ai px b (by simp)
  refine yes_ rfl ⟨_,Xb (j:=0) rfl,a,rfl,pa,?_⟩
  cases ea:isName a with
  |false=>rw[ea] at h;exact no_ rfl h
  |true=>rw[ea] at h;exact yes_ rfl ⟨_,Xb (j:=1) rfl,b,0,size - 1,rfl,pb,h⟩
def C3:List T->TH->UX->Prop:=fun ts S Pp=>∃x most size,ts=[x,.int most,.int size]/\Pl x/\most<=1000/\Pp (.bl (A6 most size x)) S
theorem Nj:Zv ["thing","most","size"] ["thing","most","size"] (Zb (top 40)):=⟨rfl,rfl,rfl,by decide +kernel,rfl,by decide +kernel,by decide +kernel⟩
theorem Be{size:Int}{x:T}(h:pairOk size x=true):∃y r,x=.tup (.str y::r):=by
 unfold pairOk at h
 rw[Bool.and_eq_true] at h
 obtain⟨a,b,rfl⟩:=Sx h.1
 have q:=h.2
 simp only[Bool.and_eq_true] at q
 cases a with
 |str y=>exact⟨y,[b],rfl⟩
 |_=>cases q.1
theorem Wn(f:T->Bool)(ts:List T):Ip (ts.filterMap fun t=>some (.bl (f t)))=some (ts.map f):=by
 induction ts with
 |nil=>rfl
 |cons t r ih =>
  show Ip (.bl (f t)::r.filterMap fun t=>some (.bl (f t)))=_
  unfold Ip
  rw[ih]
  rfl
theorem Hk(f:T->Bool){ts:List T}{S:TH}{P:UX}(h:P (.bl (ts.all f)) S):Gi [.lst (ts.filterMap fun t=>some (.bl (f t)))] S P:=by
 unfold Gi
 simp only[Wn]
 rw[List.all_map]
 exact h
theorem Cf(ts:List T):(Xn ts).length<=ts.length:=List.length_filterMap_le _ _
theorem are_holdings{m:Nat}(N:Nm P w K mg)(d:Aa K mg "are_holdings" ["thing","most","size"] (top 40))(c_is_tuple_of:Has P w K mg base m "is_tuple_of" ["thing","fewest","most"] G1)(c_is_holding:Has P w K mg base m "is_holding" ["thing","size"] Me)(c_names_of:Has P w K mg base m "names_of" ["things"] Gp)(c_are_unlike:Has P w K mg base m "are_unlike" ["names"] Dd):Has P w K mg base (m+1) "are_holdings" ["thing","most","size"] C3:=by
 have sc:=Nj
 refine Ag (k:=m) d sc (fun ts S Pp h=>?_) fun cdv f A outer s H E hr=>?_
 ·obtain⟨x,most,size,rfl,_⟩:=h;rfl
 refine⟨_,(Zs (Zg (Ae (Xe (Zf c_is_tuple_of hr rfl (Zc (uv 0) (Zc Zi (Zc (uv 1) Zn)))))) (Zo (Zr Az)) Ze)
   (Zo (Zr (Bf (Fa rfl rfl N.all (Zc (Xg 0 ["pair","size"] [none,some 2] rfl (Xu (uv 0)) (fun _ _ _ _ _=>Ak) (fun _ _ _ _ _=>(Zf c_is_holding hr rfl (Zc (uv 0) (Zc (uv 1) Zn))))) Zn)) (B1 (Zf c_are_unlike hr rfl (Zc (Zf c_names_of hr rfl (Zc (uv 0) Zn)) Zn))))))),fun ts S Pp h=>?_⟩
 obtain⟨x,most,size,rfl,px,hm,h⟩:=h
 unfold A6 at h
 refine⟨x,0,most,rfl,px,?_⟩
 cases e:Ah 0 most x with
 |false=>rw[e,Bool.false_and] at h;exact yes_ rfl h
 |true =>
  obtain⟨ts,rfl,l0,l1⟩:=At e
  rw[e,Bool.true_and] at h
  refine no_ rfl ?_
  refine Ay (ts:=ts) (f:=fun t=>some (.bl (pairOk size t))) (fun k hk=>hk) (Xp (by omega)) (fun y hy A B hA hB=>⟨fun _=>⟨y,size,rfl,Ai px y hy,hA _ rfl⟩,fun e=>(by cases e)⟩) ?_
  dsimp only [E7]
  refine Hk (pairOk size) ?_
  have h:Pp (.bl (ts.all (pairOk size)&&decide (Xn ts).Nodup)) S:=h
  cases ea:ts.all (pairOk size) with
  |false=>rw[ea,Bool.false_and] at h;exact no_ rfl h
  |true =>
   rw[ea,Bool.true_and] at h
   have all:=List.all_eq_true.mp ea
   exact yes_ rfl ⟨ts,rfl,by omega,fun y hy=>Be (all y hy),Xn ts,rfl,Nat.le_trans (Cf ts) (by omega),h⟩
def Rx:List T->TH->UX->Prop:=fun ts S Pp=>∃x bs,ts=[x,.lst (bs.map T.str)]/\Pl x/\bs.length<=900/\Pp (.bl (Bm bs x)) S
theorem Wz:Zv ["thing","box_names"] ["thing","box_names"] (Zb (top 42)):=⟨rfl,rfl,rfl,by decide +kernel,rfl,by decide +kernel,by decide +kernel⟩
theorem Ha:∀{ts:List T},(∀t∈ts,isName t=true)->ts=(strsOf ts).map T.str
 |[],_=>rfl
 |t::r,h=>by
  have h0:=h t List.mem_cons_self
  have ih:=Ha (ts:=r) fun z hz=>h z (List.mem_cons_of_mem _ hz)
  cases t with
  |str x =>
   show T.str x::r=T.str x::(strsOf r).map T.str
   rw[<-ih]
  |_=>cases h0
theorem Sa(ts:List T):(strsOf ts).length<=ts.length:=List.length_filterMap_le _ _
theorem are_locks{m:Nat}(N:Nm P w K mg)(d:Aa K mg "are_locks" ["thing","box_names"] (top 42))(c_is_tuple_of:Has P w K mg base m "is_tuple_of" ["thing","fewest","most"] G1)(c_is_name:Has P w K mg base m "is_name" ["thing"] Fs)(c_are_unlike:Has P w K mg base m "are_unlike" ["names"] Dd):Has P w K mg base (m+1) "are_locks" ["thing","box_names"] Rx:=by
 have sc:=Wz
 refine Ag (k:=m) d sc (fun ts S Pp h=>?_) fun cdv f A outer s H E hr=>?_
 ·obtain⟨x,bs,rfl,_⟩:=h;rfl
 refine⟨_,(Zs (Zg (Ae (Xe (Zf c_is_tuple_of hr rfl (Zc (uv 0) (Zc Zi (Zc (Bw rfl N.MOST_LOCKS) Zn)))))) (Zo (Zr Az)) Ze)
   (Zo (Zr (Bf (Fa rfl rfl N.all (Zc (Xg 0 ["lock"] [none] rfl (Xu (uv 0)) (fun _ _ _ _ _=>Ak) (fun _ _ _ _ _=>(Zf c_is_name hr rfl (Zc (uv 0) Zn)))) Zn)) (B1 (Zf c_are_unlike hr rfl (Zc (Zp (uv 1) (Da rfl N.list (Zc (uv 0) Zn))) Zn))))))),fun ts S Pp h=>?_⟩
 obtain⟨x,bs,rfl,px,hb,h⟩:=h
 unfold Bm at h
 refine⟨x,0,4,rfl,px,?_⟩
 cases e:Ah 0 4 x with
 |false=>rw[e,Bool.false_and] at h;exact yes_ rfl h
 |true =>
  obtain⟨ts,rfl,l0,l1⟩:=At e
  rw[e,Bool.true_and] at h
  refine no_ rfl ?_
  refine Ay (ts:=ts) (f:=fun t=>some (.bl (isName t))) (fun k hk=>hk) (Xp (by omega)) (fun y hy A B hA hB=>⟨fun _=>⟨y,rfl,Ai px y hy,hA _ rfl⟩,fun e=>(by cases e)⟩) ?_
  dsimp only [E7]
  refine Hk isName ?_
  have h:Pp (.bl (ts.all isName&&decide (bs++strsOf ts).Nodup)) S:=h
  cases ea:ts.all isName with
  |false=>rw[ea,Bool.false_and] at h;exact no_ rfl h
  |true =>
   rw[ea,Bool.true_and] at h
   have es:=Ha (List.all_eq_true.mp ea)
   have ls:=Sa ts
   refine yes_ rfl ⟨?_,bs++strsOf ts,?_,?_,h⟩
   ·rw[List.length_map];exact Xp (by omega)
   ·rw[List.map_append,<-es]
   ·rw[List.length_append];omega
def Mg:List T->TH->UX->Prop:=fun ts S Pp=>∃x size,ts=[x,.int size]/\Pl x/\Pp (.bl (progOk size x)) S
theorem Qx:Zv ["thing","size"] ["thing","size"] (Zb (top 44)):=⟨rfl,rfl,rfl,by decide +kernel,rfl,by decide +kernel,by decide +kernel⟩
theorem is_program{m:Nat}(N:Nm P w K mg)(d:Aa K mg "is_program" ["thing","size"] (top 44))(c_is_tuple_of:Has P w K mg base m "is_tuple_of" ["thing","fewest","most"] G1)(c_is_name:Has P w K mg base m "is_name" ["thing"] Fs)(c_are_holdings:Has P w K mg base m "are_holdings" ["thing","most","size"] C3):Has P w K mg base (m+1) "is_program" ["thing","size"] Mg:=by
 have sc:=Qx
 refine Ag (k:=m) d sc (fun ts S Pp h=>?_) fun cdv f A outer s H E hr=>?_
 ·obtain⟨x,size,rfl,_⟩:=h;rfl
 refine⟨_,(Zs (Zg (Ae (Xe (Zf c_is_tuple_of hr rfl (Zc (uv 0) (Ab (Cs.i (Cs.i Cs.nil))))))) (Zo (Zr Az)) Ze)
   (Zo (Zr (Bf (Zf c_is_name hr rfl (Zc (Zx (uv 0) Zi) Zn)) (Bf (Zf c_are_holdings hr rfl (Zc (Zx (uv 0) Zi) (Zc (Bw rfl N.MOST_OWNS) (Zc (uv 1) Zn)))) (B1 (Zf c_is_tuple_of hr rfl (Zc (Zx (uv 0) Zi) (Zc Zi (Zc (Bw rfl N.MOST_STEPS) Zn)))))))))),fun ts S Pp h=>?_⟩
 obtain⟨x,size,rfl,px,h⟩:=h
 unfold progOk at h
 refine⟨x,3,3,rfl,px,?_⟩
 cases e:Ah 3 3 x with
 |false=>rw[e,Bool.false_and] at h;exact yes_ rfl h
 |true =>
  obtain⟨a,b,c,rfl⟩:=row3 e
  rw[e,Bool.true_and] at h
  have h:Pp (.bl (isName a&&(A6 4 size b&&Ah 0 30 c))) S:=h
  have pa:=Ai px a (by simp)
  have pb:=Ai px b (by simp)
  have pc:=Ai px c (by simp)
  refine no_ rfl ⟨_,Xb (j:=0) rfl,a,rfl,pa,?_⟩
  cases ea:isName a with
  |false=>rw[ea] at h;exact no_ rfl h
  |true =>
   rw[ea] at h
   refine yes_ rfl ⟨_,Xb (j:=1) rfl,b,4,size,rfl,pb,by decide,?_⟩
   have h:Pp (.bl (A6 4 size b&&Ah 0 30 c)) S:=h
   cases eb:A6 4 size b with
   |false=>rw[eb] at h;exact no_ rfl h
   |true=>rw[eb] at h;exact yes_ rfl ⟨_,Xb (j:=2) rfl,c,0,30,rfl,pc,h⟩
def J0:List T->TH->UX->Prop:=fun ts S Pp=>∃x size,ts=[x,.int size]/\Pl x/\Pp (.bl (Bz size x)) S
theorem Nz:Zv ["thing","size"] ["thing","size"] (Zb (top 43)):=⟨rfl,rfl,rfl,by decide +kernel,rfl,by decide +kernel,by decide +kernel⟩
theorem Ra{size:Int}{x:T}(h:progOk size x=true):∃y r,x=.tup (.str y::r):=by
 unfold progOk at h
 rw[Bool.and_eq_true] at h
 obtain⟨a,b,c,rfl⟩:=row3 h.1
 have q:=h.2
 simp only[Bool.and_eq_true] at q
 cases a with
 |str y=>exact⟨y,[b,c],rfl⟩
 |_=>cases q.1
theorem are_programs{m:Nat}(N:Nm P w K mg)(d:Aa K mg "are_programs" ["thing","size"] (top 43))(c_is_tuple_of:Has P w K mg base m "is_tuple_of" ["thing","fewest","most"] G1)(c_is_program:Has P w K mg base m "is_program" ["thing","size"] Mg)(c_names_of:Has P w K mg base m "names_of" ["things"] Gp)(c_are_unlike:Has P w K mg base m "are_unlike" ["names"] Dd):Has P w K mg base (m+1) "are_programs" ["thing","size"] J0:=by
 have sc:=Nz
 refine Ag (k:=m) d sc (fun ts S Pp h=>?_) fun cdv f A outer s H E hr=>?_
 ·obtain⟨x,size,rfl,_⟩:=h;rfl
 refine⟨_,(Zs (Zg (Ae (Xe (Zf c_is_tuple_of hr rfl (Zc (uv 0) (Zc Zi (Zc (Bw rfl N.MOST_PROGRAMS) Zn)))))) (Zo (Zr Az)) Ze)
   (Zo (Zr (Bf (Fa rfl rfl N.all (Zc (Xg 0 ["program","size"] [none,some 1] rfl (Xu (uv 0)) (fun _ _ _ _ _=>Ak) (fun _ _ _ _ _=>(Zf c_is_program hr rfl (Zc (uv 0) (Zc (uv 1) Zn))))) Zn)) (B1 (Zf c_are_unlike hr rfl (Zc (Zf c_names_of hr rfl (Zc (uv 0) Zn)) Zn))))))),fun ts S Pp h=>?_⟩
 obtain⟨x,size,rfl,px,h⟩:=h
 unfold Bz at h
 refine⟨x,1,4,rfl,px,?_⟩
 cases e:Ah 1 4 x with
 |false=>rw[e,Bool.false_and] at h;exact yes_ rfl h
 |true =>
  obtain⟨ts,rfl,l0,l1⟩:=At e
  rw[e,Bool.true_and] at h
  refine no_ rfl ?_
  refine Ay (ts:=ts) (f:=fun t=>some (.bl (progOk size t))) (fun k hk=>hk) (Xp (by omega)) (fun y hy A B hA hB=>⟨fun _=>⟨y,size,rfl,Ai px y hy,hA _ rfl⟩,fun e=>(by cases e)⟩) ?_
  dsimp only [E7]
  refine Hk (progOk size) ?_
  have h:Pp (.bl (ts.all (progOk size)&&decide (Xn ts).Nodup)) S:=h
  cases ea:ts.all (progOk size) with
  |false=>rw[ea,Bool.false_and] at h;exact no_ rfl h
  |true =>
   rw[ea,Bool.true_and] at h
   have all:=List.all_eq_true.mp ea
   exact yes_ rfl ⟨ts,rfl,by omega,fun y hy=>Ra (all y hy),Xn ts,rfl,Nat.le_trans (Cf ts) (by omega),h⟩
def L5:List T->TH->UX->Prop:=fun ts S Pp=>∃x n,ts=[x,.int n]/\Pl x/\Pp (.bl (Bx n x)) S
theorem P9:Zv ["thing","many_programs"] ["thing","many_programs"] (Zb (top 45)):=⟨rfl,rfl,rfl,by decide +kernel,rfl,by decide +kernel,by decide +kernel⟩
theorem are_workers{m:Nat}(N:Nm P w K mg)(d:Aa K mg "are_workers" ["thing","many_programs"] (top 45))(c_is_tuple_of:Has P w K mg base m "is_tuple_of" ["thing","fewest","most"] G1)(c_is_number:Has P w K mg base m "is_number" ["thing","least","greatest"] Bs):Has P w K mg base (m+1) "are_workers" ["thing","many_programs"] L5:=by
 have sc:=P9
 refine Ag (k:=m) d sc (fun ts S Pp h=>?_) fun cdv f A outer s H E hr=>?_
 ·obtain⟨x,n,rfl,_⟩:=h;rfl
 refine⟨_,(Zs (Zg (Ae (Xe (Zf c_is_tuple_of hr rfl (Zc (uv 0) (Zc Zi (Zc (Bw rfl N.MOST_WORKERS) Zn)))))) (Zo (Zr Az)) Ze)
   (Zo (Zr (Fa rfl rfl N.all (Zc (Xg 0 ["worker","many_programs"] [none,some 1] rfl (Xu (uv 0)) (fun _ _ _ _ _=>Ak) (fun _ _ _ _ _=>(Zf c_is_number hr rfl (Zc (uv 0) (Zc Zi (Zc (A8 (uv 1) Zi) Zn)))))) Zn))))),fun ts S Pp h=>?_⟩
 obtain⟨x,n,rfl,px,h⟩:=h
 unfold Bx at h
 refine⟨x,1,6,rfl,px,?_⟩
 cases e:Ah 1 6 x with
 |false=>rw[e,Bool.false_and] at h;exact yes_ rfl h
 |true =>
  obtain⟨ts,rfl,l0,l1⟩:=At e
  rw[e,Bool.true_and] at h
  refine no_ rfl ?_
  refine Ay (ts:=ts) (f:=fun t=>some (.bl (A7 0 (n - 1) t))) (fun k hk=>hk) (Xp (by omega)) (fun y hy A B hA hB=>⟨fun _=>⟨y,0,n - 1,rfl,Ai px y hy,hA _ rfl⟩,fun e=>(by cases e)⟩) ?_
  dsimp only [E7]
  exact Hk (A7 0 (n - 1)) h
end
end K10
end
section
namespace K10
open PySem PySem.Spec PyProof.Rows L2 TL
seal UE UT UA US USs UI UG UO UW PTs Av Cd
section
variable{P:Program}{w:World}{K:PySem.W.Frag}{mg:Str->Option Value}{base:Heap}
structure LoomOk(size:Int)(b l p wk c:T):Prop where
 size2:2<=size
 size16:size<=16
 pb:Pl b
 plk:Pl l
 pp:Pl p
 pw:Pl wk
 pc:Pl c
 boxes:A6 8 size b=true
 locks:Bm (Xn (items b)) l=true
 progs:Bz size p=true
 works:Bx (items p).length wk=true
 claims:Ah 0 4 c=true
 steps:∀n o s,T.tup [n,o,s]∈items p->∀(k:Nat) t,(items s)[k]?=some t->Al (Xn (items o)) (Xn (items b)) (strsOf (items l)) ((items s).length - k - 1) t=true
 values:∀t∈items c,valOk 5 [] (Xn (items b)) t=true
theorem B5{most size:Int}{x:T}(h:A6 most size x=true):∃ts,x=.tup ts/\(ts.length:Int)<=most/\(∀t∈ts,pairOk size t=true)/\(Xn ts).Nodup:=by
 unfold A6 at h
 rw[Bool.and_eq_true,Bool.and_eq_true] at h
 obtain⟨ts,rfl,_,l1⟩:=At h.1
 exact⟨ts,rfl,l1,List.all_eq_true.mp h.2.1,of_decide_eq_true h.2.2⟩
theorem Ij{bs:List Str}{x:T}(h:Bm bs x=true):∃ts,x=.tup ts/\(ts.length:Int)<=4/\ts=(strsOf ts).map T.str:=by
 unfold Bm at h
 rw[Bool.and_eq_true,Bool.and_eq_true] at h
 obtain⟨ts,rfl,_,l1⟩:=At h.1
 exact⟨ts,rfl,l1,Ha (List.all_eq_true.mp h.2.1)⟩
theorem Dt{size:Int}{x:T}(h:Bz size x=true):∃ts,x=.tup ts/\(ts.length:Int)<=4/\∀t∈ts,progOk size t=true:=by
 unfold Bz at h
 rw[Bool.and_eq_true,Bool.and_eq_true] at h
 obtain⟨ts,rfl,_,l1⟩:=At h.1
 exact⟨ts,rfl,l1,List.all_eq_true.mp h.2.1⟩
theorem Fd{size:Int}{x:T}(h:progOk size x=true):∃n o s,x=.tup [.str n,o,s]/\A6 4 size o=true/\Ah 0 30 s=true:=by
 unfold progOk at h
 rw[Bool.and_eq_true] at h
 obtain⟨a,b,c,rfl⟩:=row3 h.1
 have q:=h.2
 simp only[Bool.and_eq_true] at q
 cases a with
 |str y=>exact⟨y,b,c,rfl,q.2.1,q.2.2⟩
 |_=>cases q.1
theorem Lk:∀{ts:List T} {k i:Nat} {x:T},(D5 k ts)[i]?=some x->∃t,ts[i]?=some t/\x=.tup [.int ((k+i:Nat):Int),t]
 |[],_,_,_,h=>by simp[D5] at h
 |u::r,k,0,x,h=>by simp[D5] at h;exact⟨u,rfl,h.symm⟩
 |u::r,k,i+1,x,h=>by
  have h:(D5 (k+1) r)[i]?=some x:=h
  obtain⟨t,e1,e2⟩:=Lk h
  exact⟨t,e1,by rw[e2];congr 4;omega⟩
theorem Vo:Zv ["size","boxes","locks","programs","workers","claims"] ["size","boxes","locks","programs","workers","claims"] (Zb (top 36)):=⟨rfl,rfl,rfl,by decide +kernel,rfl,by decide +kernel,by decide +kernel⟩
theorem Oa:Zv ["programs","box_names","locks","name","owns","steps","own_names","place","step"] ["programs","box_names","locks"] (Zb (top 46)):=⟨rfl,rfl,rfl,by decide +kernel,rfl,by decide +kernel,by decide +kernel⟩
theorem Mc:Zv ["claims","box_names","place","claim"] ["claims","box_names"] (Zb (top 47)):=⟨rfl,rfl,rfl,by decide +kernel,rfl,by decide +kernel,by decide +kernel⟩
theorem Rs:Zv ["size","boxes","locks","programs","workers","claims"] ["size","boxes","locks","programs","workers","claims"] (Zb (top 35)):=⟨rfl,rfl,rfl,by decide +kernel,rfl,by decide +kernel,by decide +kernel⟩
end
end K10
end
section
namespace K10
open PySem PySem.Spec PyProof.Rows L2 TL
seal UE UT UA US USs UI UG UO UW PTs Av Cd UEX UV UVs UJ
section
variable{P:Program}{w:World}{K:PySem.W.Frag}{mg:Str->Option Value}{base:Heap}
def Gu(C:Addr):List T->TH->UX->UR->Prop:=fun ts S Pp R=>∃cs bs,ts=[.tup cs,.lst (bs.map T.str)]/\cs.length<=1000/\(∀t∈cs,Pl t)/\((∀t∈cs,valOk 5 [] bs t=true)->Pp .non S)/\((∃t∈cs,valOk 5 [] bs t=false)->R (.ref C) S)
theorem Mq{m:Nat}(N:Nm P w K mg)(d:Aa K mg "ask_claims" ["claims","box_names"] (top 47))(c_is_value:Has P w K mg base m "is_value" ["thing","owns","boxes"] M9):Gz P w K mg base (m+1) "ask_claims" ["claims","box_names"] (Gu (cAt mg "NoClaim")):=by
 have sc:=Mc
 refine G8 (k:=m) d sc (fun ts S Pp R h=>?_) fun cdv f A outer s H E S0 R hr hw=>?_
 ·obtain⟨cs,bs,rfl,_⟩:=h;rfl
 refine⟨_,(Bj (M6 PassesOwn.leaving rfl (Pd rfl N.enumerate (Zc (uv 0) Zn)) (Pi 2 3 rfl sc.nd) (Bj (Gw (Ae (Xe (Zf c_is_value hr rfl (Zc (uv 3) (Zc (Ac Zn) (Zc (uv 1) Zn)))))) (Bj (Cp rfl rfl (C9 fun _ _ _ z=>z) hw rfl N.NoClaim_at N.NoClaim_ok PySem.F.excBase_ValueError rfl PySem.F.excBase_ValueError (Zc (Ka (Dz Zq (Dz (Oc (uv 2)) (Dz Zq T2)))) Zn))) Dh)))),fun ts Pp h=>?_⟩
 obtain⟨cs,bs,rfl,hl,hc,h1,h2⟩:=h
 refine⟨fun k env S=>S0=S/\(∃e2 e3,env=[some (.tup cs),some (.lst (bs.map T.str)),e2,e3])/\∀(i:Nat) t,i<k->cs[i]?=some t->valOk 5 [] bs t=true,⟨rfl,⟨_,_,rfl⟩,fun i t hi _=>by omega⟩,?_,?_⟩
 ·rintro k x env S ek ⟨rfl,⟨e2,e3,rfl⟩,hk⟩
  obtain⟨t,et,rfl⟩:=Lk ek
  have pt:=hc t (List.mem_of_getElem? et)
  refine⟨show 0<=sizeLine by decide,t,[],bs,rfl,pt,?_⟩
  cases hv:valOk 5 [] bs t with
  |true =>
   refine no_ rfl ⟨rfl,⟨_,_,rfl⟩,fun i u hi eu=>?_⟩
   by_cases e:i=k
   ·subst e;rw[et] at eu;cases eu;exact hv
   ·exact hk i u (by omega) eu
  |false =>
   refine yes_ rfl ?_
   have hlt:k<1000:=Nat.lt_of_lt_of_le (List.getElem?_eq_some_iff.mp et).1 hl
   have hlog:(((0+k:Nat):Int)).natAbs.log2<1920:=by
    rw[Int.natAbs_natCast]
    have:(0+k).log2<=0+k:=Nat.log2_le_self _
    omega
   exact⟨_,rfl,100,by decide,by decide,hlog,_,rfl,1921,int_text_len_1921 hlog,by decide,_,rfl,100,by decide,by decide,by decide,fun out=>⟨show 1<=sizeLine by decide,h2 ⟨t,List.mem_of_getElem? et,hv⟩⟩⟩
 ·rintro env S ⟨rfl,⟨e2,e3,rfl⟩,hk⟩
  refine h1 fun t ht=>?_
  obtain⟨i,ei⟩:=List.mem_iff_getElem?.mp ht
  exact hk i t (by rw[Dp];exact(List.getElem?_eq_some_iff.mp ei).1) ei
def Bt(size:Int)(b l p wk c:T):Bool:=A6 8 size b&&(Bm (Xn (items b)) l&&(Bz size p&&(Bx (items p).length wk&&Ah 0 4 c)))
def formed(x b l p wk c:T):Bool:=match x with
 | .int size=>A7 2 16 (.int size)&&Bt size b l p wk c
 |_=>false
def O4(C:Addr):List T->TH->UX->UR->Prop:=fun ts S Pp R=>∃x b l p wk c,ts=[x,b,l,p,wk,c]/\Pl x/\Pl b/\Pl l/\Pl p/\Pl wk/\Pl c/\(formed x b l p wk c=true->Pp .non S)/\(formed x b l p wk c=false->R (.ref C) S)
theorem Nh{m:Nat}(N:Nm P w K mg)(d:Aa K mg "ask_parts" ["size","boxes","locks","programs","workers","claims"] (top 36))(c_is_number:Has P w K mg base m "is_number" ["thing","least","greatest"] Bs)(c_are_holdings:Has P w K mg base m "are_holdings" ["thing","most","size"] C3)(c_names_of:Has P w K mg base m "names_of" ["things"] Gp)(c_are_locks:Has P w K mg base m "are_locks" ["thing","box_names"] Rx)(c_are_programs:Has P w K mg base m "are_programs" ["thing","size"] J0)(c_are_workers:Has P w K mg base m "are_workers" ["thing","many_programs"] L5)(c_is_tuple_of:Has P w K mg base m "is_tuple_of" ["thing","fewest","most"] G1):Gz P w K mg base (m+1) "ask_parts" ["size","boxes","locks","programs","workers","claims"] (O4 (cAt mg "NoLoom")):=by
 have sc:=Vo
 refine G8 (k:=m) d sc (fun ts S Pp R h=>?_) fun cdv f A outer s H E S0 R hr hw=>?_
 ·obtain⟨x,b,l,p,wk,c,rfl,_⟩:=h;rfl
 refine⟨_,(Cc (Gw (Ae (Xe (Zf c_is_number hr rfl (Zc (uv 0) (Zc (Bw rfl N.LEAST_SIZE) (Zc (Bw rfl N.GREATEST_SIZE) Zn)))))) (Bj (Cp rfl rfl (C9 fun _ _ _ z=>z) hw rfl N.NoLoom_at N.NoLoom_ok PySem.F.excBase_ValueError rfl PySem.F.excBase_ValueError (Zc Zq Zn))) Dh)
   (Cc (Gw (Ae (Xe (Zf c_are_holdings hr rfl (Zc (uv 1) (Zc (Bw rfl N.MOST_BOXES) (Zc (uv 0) Zn)))))) (Bj (Cp rfl rfl (C9 fun _ _ _ z=>z) hw rfl N.NoLoom_at N.NoLoom_ok PySem.F.excBase_ValueError rfl PySem.F.excBase_ValueError (Zc Zq Zn))) Dh)
   (Cc (Gw (Ae (Xe (Zf c_are_locks hr rfl (Zc (uv 2) (Zc (Zf c_names_of hr rfl (Zc (uv 1) Zn)) Zn))))) (Bj (Cp rfl rfl (C9 fun _ _ _ z=>z) hw rfl N.NoLoom_at N.NoLoom_ok PySem.F.excBase_ValueError rfl PySem.F.excBase_ValueError (Zc Zq Zn))) Dh)
   (Cc (Gw (Ae (Xe (Zf c_are_programs hr rfl (Zc (uv 3) (Zc (uv 0) Zn))))) (Bj (Cp rfl rfl (C9 fun _ _ _ z=>z) hw rfl N.NoLoom_at N.NoLoom_ok PySem.F.excBase_ValueError rfl PySem.F.excBase_ValueError (Zc Zq Zn))) Dh)
   (Cc (Gw (Ae (Xe (Zf c_are_workers hr rfl (Zc (uv 4) (Zc (Zl rfl N.len (Zc (uv 3) Zn)) Zn))))) (Bj (Cp rfl rfl (C9 fun _ _ _ z=>z) hw rfl N.NoLoom_at N.NoLoom_ok PySem.F.excBase_ValueError rfl PySem.F.excBase_ValueError (Zc Zq Zn))) Dh)
   (Bj (Gw (Ae (Xe (Zf c_is_tuple_of hr rfl (Zc (uv 5) (Zc Zi (Zc (Bw rfl N.MOST_CLAIMS) Zn)))))) (Bj (Cp rfl rfl (C9 fun _ _ _ z=>z) hw rfl N.NoLoom_at N.NoLoom_ok PySem.F.excBase_ValueError rfl PySem.F.excBase_ValueError (Zc Zq Zn))) Dh))))))),fun ts Pp h=>?_⟩
 obtain⟨x,b,l,p,wk,c,rfl,px,pb,pl,pp,pw,pc,h1,h2⟩:=h
 have one:1<=sizeLine:=by decide
 refine Zj (fun env S'=>env=[some x,some b,some l,some p,some wk,some c]/\S0=S'/\A7 2 16 x=true) (fun k hk=>⟨x,2,16,rfl,px,?_⟩) ?_
 ·cases e:A7 2 16 x with
  |true=>exact no_ rfl (hk _ _ ⟨rfl,rfl,e⟩)
  |false=>exact yes_ rfl ⟨one,h2 (by cases x <;> first|rfl|(unfold formed;dsimp only;rw[e];rfl))⟩
 rintro _ _ ⟨rfl,rfl,en⟩
 obtain⟨size,rfl⟩:∃size,x=.int size:=by cases x <;> first|exact⟨_,rfl⟩|cases en
 have hf:formed (.int size) b l p wk c=Bt size b l p wk c:=by unfold formed;dsimp only;rw[en];rfl
 rw[hf] at h1 h2
 unfold Bt at h1 h2
 refine Zj (fun env S'=>env=[some (.int size),some b,some l,some p,some wk,some c]/\S0=S'/\A6 8 size b=true) (fun k hk=>⟨b,8,size,rfl,pb,by decide,?_⟩) ?_
 ·cases e:A6 8 size b with
  |true=>exact no_ rfl (hk _ _ ⟨rfl,rfl,e⟩)
  |false=>exact yes_ rfl ⟨one,h2 (by rw[e];rfl)⟩
 rintro _ _ ⟨rfl,rfl,eb⟩
 rw[eb,Bool.true_and] at h1 h2
 obtain⟨bs,rfl,lb,hb,_⟩:=B5 eb
 refine Zj (fun env S'=>env=[some (.int size),some (.tup bs),some l,some p,some wk,some c]/\S0=S'/\Bm (Xn (items (.tup bs))) l=true) (fun k hk=>⟨bs,rfl,by omega,fun y hy=>Be (hb y hy),l,_,rfl,pl,?_,?_⟩) ?_
 ·have:=Cf bs;omega
 ·cases e:Bm (Xn (items (.tup bs))) l with
  |true=>exact no_ (by rw[show Bm (Xn bs) l=true from e];rfl) (hk _ _ ⟨rfl,rfl,e⟩)
  |false=>exact yes_ (by rw[show Bm (Xn bs) l=false from e];rfl) ⟨one,h2 (by rw[e];rfl)⟩
 rintro _ _ ⟨rfl,rfl,el⟩
 rw[el,Bool.true_and] at h1 h2
 refine Zj (fun env S'=>env=[some (.int size),some (.tup bs),some l,some p,some wk,some c]/\S0=S'/\Bz size p=true) (fun k hk=>⟨p,size,rfl,pp,?_⟩) ?_
 ·cases e:Bz size p with
  |true=>exact no_ rfl (hk _ _ ⟨rfl,rfl,e⟩)
  |false=>exact yes_ rfl ⟨one,h2 (by rw[e];rfl)⟩
 rintro _ _ ⟨rfl,rfl,ep⟩
 rw[ep,Bool.true_and] at h1 h2
 obtain⟨ps,rfl,_,_⟩:=Dt ep
 refine Zj (fun env S'=>env=[some (.int size),some (.tup bs),some l,some (.tup ps),some wk,some c]/\S0=S'/\Bx (items (.tup ps)).length wk=true) (fun k hk=>⟨wk,(ps.length:Int),rfl,pw,?_⟩) ?_
 ·cases e:Bx (items (.tup ps)).length wk with
  |true=>exact no_ (by rw[show Bx ps.length wk=true from e];rfl) (hk _ _ ⟨rfl,rfl,e⟩)
  |false=>exact yes_ (by rw[show Bx ps.length wk=false from e];rfl) ⟨one,h2 (by rw[e];rfl)⟩
 rintro _ _ ⟨rfl,rfl,ew⟩
 rw[ew,Bool.true_and] at h1 h2
 refine⟨c,0,4,rfl,pc,?_⟩
 cases e:Ah 0 4 c with
 |true=>exact no_ rfl (h1 e)
 |false=>exact yes_ rfl ⟨one,h2 e⟩
def StepsAll(bs ls:List Str)(ps:List T):Prop:=∀n os ss,T.tup [n,.tup os,.tup ss]∈ps->∀(k:Nat) t,ss[k]?=some t->Al (Xn os) bs ls ((ss.length:Int) - (k:Int) - 1) t=true
def Io(C:Addr):List T->TH->UX->UR->Prop:=fun ts S Pp R=>∃ps bs ls,ts=[.tup ps,.lst (bs.map T.str),.lst (ls.map T.str)]/\(∀x∈ps,∃n os ss,x=.tup [.str n,.tup os,.tup ss]/\n.length<=100/\os.length<=1000/\ss.length<=1000/\(∀y∈os,∃z r,y=.tup (.str z::r))/\∀t∈ss,Pl t)/\(StepsAll bs ls ps->Pp .non S)/\(¬ StepsAll bs ls ps->R (.ref C) S)
theorem Nq{m:Nat}(N:Nm P w K mg)(d:Aa K mg "ask_steps" ["programs","box_names","locks"] (top 46))(c_names_of:Has P w K mg base m "names_of" ["things"] Gp)(c_is_step:Has P w K mg base m "is_step" ["thing","owns","boxes","locks","behind"] W9):Gz P w K mg base (m+1) "ask_steps" ["programs","box_names","locks"] (Io (cAt mg "NoStep")):=by
 have sc:=Oa
 refine G8 (k:=m) d sc (fun ts S Pp R h=>?_) fun cdv f A outer s H E S0 R hr hw=>?_
 ·obtain⟨ps,bs,ls,rfl,_⟩:=h;rfl
 refine⟨_,(Bj (M6 PassesOwn.leaving rfl (Xu (uv 0)) (Jx 3 4 5 rfl sc.nd) (Cc (US.x (Zt 6 sc.nd (Zf c_names_of hr rfl (Zc (uv 4) Zn))))
   (Bj (M6 PassesOwn.leaving rfl (Pd rfl N.enumerate (Zc (uv 5) Zn)) (Pi 7 8 rfl sc.nd) (Bj (Gw (Ae (Xe (Zf c_is_step hr rfl (Zc (uv 8) (Zc (uv 6) (Zc (uv 1) (Zc (uv 2) (Zc (A8 (A8 (Zl rfl N.len (Zc (uv 5) Zn)) (uv 7)) Zi) Zn)))))))) (Bj (Cp rfl rfl (C9 fun _ _ _ z=>z) hw rfl N.NoStep_at N.NoStep_ok PySem.F.excBase_ValueError rfl PySem.F.excBase_ValueError (Zc (Ka (Dz Zq (Dz (Oc (uv 3)) (Dz Zq (Dz (Oc (uv 7)) T2))))) Zn))) Dh))))))),fun ts Pp h=>?_⟩
 obtain⟨ps,bs,ls,rfl,hp,h1,h2⟩:=h
 refine⟨fun k env S=>S0=S/\(∃e3 e4 e5 e6 e7 e8,env=[some (.tup ps),some (.lst (bs.map T.str)),some (.lst (ls.map T.str)),e3,e4,e5,e6,e7,e8])/\∀(i:Nat) n os ss,i<k->ps[i]?=some (.tup [n,.tup os,.tup ss])->∀(j:Nat) t,ss[j]?=some t->Al (Xn os) bs ls ((ss.length:Int) - (j:Int) - 1) t=true,⟨rfl,⟨_,_,_,_,_,_,rfl⟩,fun i _ _ _ hi=>by omega⟩,?_,?_⟩
 ·rintro k x env S ek ⟨rfl,⟨e3,e4,e5,e6,e7,e8,rfl⟩,hk0⟩
  obtain⟨n,os,ss,rfl,ln,lo,lss,hos,hss⟩:=hp x (List.mem_of_getElem? ek)
  refine Zj (fun env S=>S0=S/\env=[some (.tup ps),some (.lst (bs.map T.str)),some (.lst (ls.map T.str)),some (.str n),some (.tup os),some (.tup ss),some (.lst ((Xn os).map T.str)),e7,e8]) (fun k hk=>⟨os,rfl,lo,hos,hk _ _ ⟨rfl,rfl⟩⟩) ?_
  rintro _ _ ⟨rfl,rfl⟩
  refine⟨fun j env S=>S0=S/\(∃e7 e8,env=[some (.tup ps),some (.lst (bs.map T.str)),some (.lst (ls.map T.str)),some (.str n),some (.tup os),some (.tup ss),some (.lst ((Xn os).map T.str)),e7,e8])/\∀(i:Nat) t,i<j->ss[i]?=some t->Al (Xn os) bs ls ((ss.length:Int) - (i:Int) - 1) t=true,⟨rfl,⟨_,_,rfl⟩,fun i _ hi=>by omega⟩,?_,?_⟩
  ·rintro j y env S ej ⟨rfl,⟨e7,e8,rfl⟩,hj⟩
   obtain⟨t,et,rfl⟩:=Lk ej
   have pt:=hss t (List.mem_of_getElem? et)
   refine⟨t,Xn os,bs,ls,(ss.length:Int) - ((0+j:Nat):Int) - 1,rfl,pt,?_⟩
   rw[Nat.zero_add]
   cases hv:Al (Xn os) bs ls ((ss.length:Int) - (j:Int) - 1) t with
   |true =>
    refine no_ rfl ⟨rfl,⟨_,_,rfl⟩,fun i u hi eu=>?_⟩
    by_cases e:i=j
    ·subst e;rw[et] at eu;cases eu;exact hv
    ·exact hj i u (by omega) eu
   |false =>
    refine yes_ rfl ?_
    have hlt:j<1000:=Nat.lt_of_lt_of_le (List.getElem?_eq_some_iff.mp et).1 lss
    have hlog:((j:Int)).natAbs.log2<1920:=by
     rw[Int.natAbs_natCast]
     have:j.log2<=j:=Nat.log2_le_self _
     omega
    have hR:R (.ref (cAt mg "NoStep")) S0:=h2 fun al=>by
     have q:=al (.str n) os ss (List.mem_of_getElem? ek) j t et
     rw[hv] at q;cases q
    exact⟨_,rfl,100,by decide,by decide,Nat.le_trans ln (by decide),n,rfl,100,ln,by decide,_,rfl,100,by decide,by decide,hlog,_,rfl,1921,int_text_len_1921 hlog,by decide,by decide,fun out=>⟨show 1<=sizeLine by decide,hR⟩⟩
  ·rintro env S ⟨rfl,⟨e7,e8,rfl⟩,hj⟩
   refine⟨rfl,⟨_,_,_,_,_,_,rfl⟩,fun i n' os' ss' hi ei=>?_⟩
   by_cases e:i=k
   ·subst e
    rw[ek] at ei
    cases ei
    exact fun j t et=>hj j t (by rw[Dp];exact(List.getElem?_eq_some_iff.mp et).1) et
   ·exact hk0 i n' os' ss' (by omega) ei
 ·rintro env S ⟨rfl,⟨e3,e4,e5,e6,e7,e8,rfl⟩,hk0⟩
  refine h1 fun n os ss hm=>?_
  obtain⟨i,ei⟩:=List.mem_iff_getElem?.mp hm
  exact hk0 i n os ss (List.getElem?_eq_some_iff.mp ei).1 ei
theorem P7{size:Int}{n:Str}{o s:T}(h:progOk size (.tup [.str n,o,s])=true):n.length<=100:=by
 unfold progOk at h
 rw[Bool.and_eq_true] at h
 have q:=h.2
 simp only[Bool.and_eq_true] at q
 have r:Zw n=true:=q.1
 unfold Zw at r
 rw[Bool.and_eq_true,Bool.and_eq_true] at r
 have:=of_decide_eq_true r.1.2
 omega
def ClaimsAll(bs:List Str)(c:T):Prop:=∀t∈items c,valOk 5 [] bs t=true
def Iz(CL CS CC:Addr):List T->TH->UX->UR->Prop:=fun ts S Pp R=>∃x b l p wk c,ts=[x,b,l,p,wk,c]/\Pl x/\Pl b/\Pl l/\Pl p/\Pl wk/\Pl c/\(formed x b l p wk c=false->R (.ref CL) S) ∧
 (formed x b l p wk c=true->(¬ StepsAll (Xn (items b)) (strsOf (items l)) (items p)->R (.ref CS) S)/\(StepsAll (Xn (items b)) (strsOf (items l)) (items p)->(¬ ClaimsAll (Xn (items b)) c->R (.ref CC) S)/\(ClaimsAll (Xn (items b)) c->Pp (.tup [x,b,l,p,wk,c]) S)))
theorem Uj{m:Nat}(N:Nm P w K mg)(d:Aa K mg "loom_of" ["size","boxes","locks","programs","workers","claims"] (top 35))(c_ask_parts:Gz P w K mg base m "ask_parts" ["size","boxes","locks","programs","workers","claims"] (O4 (cAt mg "NoLoom")))(c_ask_steps:Gz P w K mg base m "ask_steps" ["programs","box_names","locks"] (Io (cAt mg "NoStep")))(c_ask_claims:Gz P w K mg base m "ask_claims" ["claims","box_names"] (Gu (cAt mg "NoClaim")))(c_names_of:Has P w K mg base m "names_of" ["things"] Gp):
  Gz P w K mg base (m+1) "loom_of" ["size","boxes","locks","programs","workers","claims"] (Iz (cAt mg "NoLoom") (cAt mg "NoStep") (cAt mg "NoClaim")):=by
 have sc:=Rs
 refine G8 (k:=m) d sc (fun ts S Pp R h=>?_) fun cdv f A outer s H E S0 R hr hw=>?_
 ·obtain⟨x,b,l,p,wk,c,rfl,_⟩:=h;rfl
 refine⟨_,(Cc (K5 (Gh c_ask_parts hr rfl (Ru fun _ _ _ z=>z) hw (Zc (uv 0) (Zc (uv 1) (Zc (uv 2) (Zc (uv 3) (Zc (uv 4) (Zc (uv 5) Zn))))))))
   (Cc (K5 (Gh c_ask_steps hr rfl (Ru fun _ _ _ z=>z) hw (Zc (uv 3) (Zc (Zf c_names_of hr rfl (Zc (uv 1) Zn)) (Zc (Da rfl N.list (Zc (uv 2) Zn)) Zn)))))
   (Cc (K5 (Gh c_ask_claims hr rfl (Ru fun _ _ _ z=>z) hw (Zc (uv 5) (Zc (Zf c_names_of hr rfl (Zc (uv 1) Zn)) Zn))))
   (Bj (US.x (Zr (Zu (Zc (uv 0) (Zc (uv 1) (Zc (uv 2) (Zc (uv 3) (Zc (uv 4) (Zc (uv 5) Zn))))))))))))),fun ts Pp h=>?_⟩
 obtain⟨x,b,l,p,wk,c,rfl,px,pb,pl,pp,pw,pc,hL,hS⟩:=h
 refine Zj (fun env S=>S0=S/\env=[some x,some b,some l,some p,some wk,some c]/\formed x b l p wk c=true) (fun k hk=>⟨x,b,l,p,wk,c,rfl,px,pb,pl,pp,pw,pc,fun hf=>hk _ _ ⟨rfl,rfl,hf⟩,hL⟩) ?_
 rintro _ _ ⟨rfl,rfl,hf⟩
 obtain⟨h1,h2⟩:=hS hf
 obtain⟨size,rfl⟩:∃size,x=.int size:=by cases x <;> first|exact⟨_,rfl⟩|cases hf
 unfold formed at hf
 dsimp only at hf
 rw[Bool.and_eq_true] at hf
 have hf:=hf.2
 unfold Bt at hf
 simp only[Bool.and_eq_true] at hf
 obtain⟨fb,fl,fp,fw,fc⟩:=hf
 obtain⟨bs,rfl,lb,hb,_⟩:=B5 fb
 obtain⟨ls,rfl,ll,el⟩:=Ij fl
 obtain⟨ps,rfl,lp,hp⟩:=Dt fp
 obtain⟨cs,rfl,_,lc⟩:=At fc
 refine Zj (fun env S=>S0=S/\env=[some (.int size),some (.tup bs),some (.tup ls),some (.tup ps),some wk,some (.tup cs)]/\StepsAll (Xn bs) (strsOf ls) ps) (fun k hk=>⟨bs,rfl,by omega,fun y hy=>Be (hb y hy),ps,Xn bs,strsOf ls,by rw[<-el],fun x hx=>?_,fun q=>hk _ _ ⟨rfl,rfl,q⟩,h1⟩) ?_
 ·have g:=hp x hx
  obtain⟨n,o,ss,rfl,ho,hs⟩:=Fd g
  obtain⟨os,rfl,lo,hos,_⟩:=B5 ho
  obtain⟨ss,rfl,_,lss⟩:=At hs
  have px:=Ai pp _ hx
  exact⟨n,os,ss,rfl,P7 g,by omega,by omega,fun y hy=>Be (hos y hy),Ai (Ai px (.tup ss) (by simp))⟩
 rintro _ _ ⟨rfl,rfl,hst⟩
 obtain⟨h3,h4⟩:=h2 hst
 refine Zj (fun env S=>S0=S/\env=[some (.int size),some (.tup bs),some (.tup ls),some (.tup ps),some wk,some (.tup cs)]/\ClaimsAll (Xn bs) (.tup cs)) (fun k hk=>⟨bs,rfl,by omega,fun y hy=>Be (hb y hy),cs,Xn bs,rfl,by omega,Ai pc,fun q=>hk _ _ ⟨rfl,rfl,q⟩,fun ⟨t,ht,hv⟩=>h3 fun al=>?_⟩) ?_
 ·have q:valOk 5 [] (Xn bs) t=true:=al t ht
  rw[hv] at q;cases q
 rintro _ _ ⟨rfl,rfl,hcl⟩
 exact⟨show 6<=sizeLine by decide,h4 hcl⟩
end
end K10
end
section
namespace K10
open PySem PySem.Spec PyProof.Rows L2 TL
theorem Of{d:Nat}{ow bx:List Str}{wd k:Str}{x:T}(hk:kindsOf wd=some [k])(h:Ba (valOk d ow bx) ow bx k x=true):valOk (d+1) ow bx (.tup [.str wd,x])=true:=by
 simp only[valOk,hk]
 simp[h]
theorem Pk{d:Nat}{ow bx:List Str}{wd k k':Str}{x y:T}(hk:kindsOf wd=some [k,k'])(h:Ba (valOk d ow bx) ow bx k x=true)(h':Ba (valOk d ow bx) ow bx k' y=true):valOk (d+1) ow bx (.tup [.str wd,x,y])=true:=by
 simp only[valOk,hk]
 simp[h,h']
theorem B7{f:T->Bool}{ow bx:List Str}{x:T}(h:f x=true):Ba f ow bx "value" x=true:=by
 unfold Ba
 rw[if_neg (by decide),if_neg (by decide),if_neg (by decide)]
 exact h
theorem W8{ow bx:List Str}(now:∀z∈ow,Zw z=true)(nbx:∀z∈bx,Zw z=true){n:Nat}{t:T}(h:VF ow bx n t):valOk n ow bx t=true:=by
 induction h with
 | @num _ i a b =>
  refine Of (k:="number") rfl ?_
  unfold Ba
  rw[if_pos rfl]
  show (decide (0<=i)&&decide (i<=99))=true
  rw[decide_eq_true a,decide_eq_true b];rfl
 | @own _ x q =>
  refine Of (k:="own") rfl ?_
  unfold Ba
  rw[if_neg (by decide),if_pos rfl]
  show (Zw x&&decide (x∈ow))=true
  rw[now x q,decide_eq_true q];rfl
 | @box _ x q =>
  refine Of (k:="box") rfl ?_
  unfold Ba
  rw[if_neg (by decide),if_neg (by decide),if_pos rfl]
  show (Zw x&&decide (x∈bx))=true
  rw[nbx x q,decide_eq_true q];rfl
 |neg _ ih=>exact Of (k:="value") rfl (B7 ih)
 |two hz _ _ ih1 ih2 =>
  rcases hz with rfl|rfl|rfl|rfl
  ·exact Pk (k:="value") (k':="value") rfl (B7 ih1) (B7 ih2)
  ·exact Pk (k:="value") (k':="value") rfl (B7 ih1) (B7 ih2)
  ·exact Pk (k:="value") (k':="value") rfl (B7 ih1) (B7 ih2)
  ·exact Pk (k:="value") (k':="value") rfl (B7 ih1) (B7 ih2)
theorem Bc{x:Str}(h:x.length<=8):Pl (.str x):=.str (Xp (by omega))
theorem Xy{ow bx:List Str}(now:∀z∈ow,Zw z=true)(nbx:∀z∈bx,Zw z=true){n:Nat}{t:T}(h:VF ow bx n t):Pl t:=by
 induction h with
 |num _ _=>exact .tup (Xd (Bc (by decide)) (Xd (.int _) al_nil))
 |own q=>exact .tup (Xd (Bc (by decide)) (Xd (Bc (Ax (now _ q))) al_nil))
 |box q=>exact .tup (Xd (Bc (by decide)) (Xd (Bc (Ax (nbx _ q))) al_nil))
 |neg _ ih=>exact .tup (Xd (Bc (by decide)) (Xd ih al_nil))
 |two hz _ _ ih1 ih2 =>
  refine .tup (Xd (Bc ?_) (Xd ih1 (Xd ih2 al_nil)))
  rcases hz with rfl|rfl|rfl|rfl <;> decide
inductive SN(ow bx lk:List Str)(b:Int):T->Prop where
 |take {y:Str}:y∈lk->SN ow bx lk b (.tup [.str "take",.str y])
 |give {y:Str}:y∈lk->SN ow bx lk b (.tup [.str "give",.str y])
 |get {x y:Str}:x∈ow->y∈bx->SN ow bx lk b (.tup [.str "get",.str x,.str y])
 |add {y:Str} {v:T}:y∈bx->VF ow [] 5 v->SN ow bx lk b (.tup [.str "add",.str y,v])
 |put {y:Str} {v:T}:y∈bx->VF ow [] 5 v->SN ow bx lk b (.tup [.str "put",.str y,v])
 |wait {y:Str} {v:T}:y∈bx->VF ow [] 5 v->SN ow bx lk b (.tup [.str "wait",.str y,v])
 |set {x:Str} {v:T}:x∈ow->VF ow [] 5 v->SN ow bx lk b (.tup [.str "set",.str x,v])
 |check {v:T}:VF ow [] 5 v->SN ow bx lk b (.tup [.str "check",v])
 |skip {i:Int}:0<=i->i<=b->SN ow bx lk b (.tup [.str "skip",.int i])
 |unl {v:T} {i:Int}:VF ow [] 5 v->0<=i->i<=b->SN ow bx lk b (.tup [.str "unless",v,.int i])
theorem Oz{ow bx lk:List Str}{b:Int}{wd k:Str}{x:T}(hk:stepKinds wd=some [k])(h:Aj ow bx lk b k x=true):Al ow bx lk b (.tup [.str wd,x])=true:=by
 simp only[Al,hk]
 simp[h]
theorem J1{ow bx lk:List Str}{b:Int}{wd k k':Str}{x y:T}(hk:stepKinds wd=some [k,k'])(h:Aj ow bx lk b k x=true)(h':Aj ow bx lk b k' y=true):Al ow bx lk b (.tup [.str wd,x,y])=true:=by
 simp only[Al,hk]
 simp[h,h']
section
variable{ow bx lk:List Str}{b:Int}
theorem Rz{x:Str}(h:Zw x=true)(m:x∈ow):Aj ow bx lk b "own" (.str x)=true:=by
 unfold Aj
 rw[if_pos rfl]
 show (Zw x&&decide (x∈ow))=true
 rw[h,decide_eq_true m];rfl
theorem Lq{x:Str}(h:Zw x=true)(m:x∈bx):Aj ow bx lk b "box" (.str x)=true:=by
 unfold Aj
 rw[if_neg (by decide),if_pos rfl]
 show (Zw x&&decide (x∈bx))=true
 rw[h,decide_eq_true m];rfl
theorem Pj{x:Str}(h:Zw x=true)(m:x∈lk):Aj ow bx lk b "lock" (.str x)=true:=by
 unfold Aj
 rw[if_neg (by decide),if_neg (by decide),if_pos rfl]
 show (Zw x&&decide (x∈lk))=true
 rw[h,decide_eq_true m];rfl
theorem Gg{x:T}(h:valOk 5 ow [] x=true):Aj ow bx lk b "value" x=true:=by
 unfold Aj
 rw[if_neg (by decide),if_neg (by decide),if_neg (by decide),if_pos rfl]
 exact h
theorem Lv{i:Int}(h0:0<=i)(h1:i<=b):Aj ow bx lk b "count" (.int i)=true:=by
 unfold Aj
 rw[if_neg (by decide),if_neg (by decide),if_neg (by decide),if_neg (by decide)]
 show (decide (0<=i)&&decide (i<=b))=true
 rw[decide_eq_true h0,decide_eq_true h1];rfl
theorem sn_ok(now:∀z∈ow,Zw z=true)(nbx:∀z∈bx,Zw z=true)(nlk:∀z∈lk,Zw z=true){t:T}(h:SN ow bx lk b t):Al ow bx lk b t=true:=by
 have vo:∀{v:T},VF ow [] 5 v->valOk 5 ow [] v=true:=fun q=>W8 now (fun _ z=>by cases z) q
 cases h with
 |take m=>exact Oz (k:="lock") rfl (Pj (nlk _ m) m)
 |give m=>exact Oz (k:="lock") rfl (Pj (nlk _ m) m)
 |get m m'=>exact J1 (k:="own") (k':="box") rfl (Rz (now _ m) m) (Lq (nbx _ m') m')
 |add m q=>exact J1 (k:="box") (k':="value") rfl (Lq (nbx _ m) m) (Gg (vo q))
 |put m q=>exact J1 (k:="box") (k':="value") rfl (Lq (nbx _ m) m) (Gg (vo q))
 |wait m q=>exact J1 (k:="box") (k':="value") rfl (Lq (nbx _ m) m) (Gg (vo q))
 |set m q=>exact J1 (k:="own") (k':="value") rfl (Rz (now _ m) m) (Gg (vo q))
 |check q=>exact Oz (k:="value") rfl (Gg (vo q))
 |skip a c=>exact Oz (k:="count") rfl (Lv a c)
 |unl q a c=>exact J1 (k:="value") (k':="count") rfl (Gg (vo q)) (Lv a c)
theorem sn_pl(now:∀z∈ow,Zw z=true)(nbx:∀z∈bx,Zw z=true)(nlk:∀z∈lk,Zw z=true){t:T}(h:SN ow bx lk b t):Pl t:=by
 have vp:∀{v:T},VF ow [] 5 v->Pl v:=fun q=>Xy now (fun _ z=>by cases z) q
 have p2:∀{x:Str} {y:T},x.length<=8->Pl y->Pl (.tup [.str x,y]):=fun hx hy=>.tup (Xd (Bc hx) (Xd hy al_nil))
 have p3:∀{x:Str} {y z:T},x.length<=8->Pl y->Pl z->Pl (.tup [.str x,y,z]):=fun hx hy hz=>.tup (Xd (Bc hx) (Xd hy (Xd hz al_nil)))
 have po:∀{x:Str},x∈ow->Pl (.str x):=fun m=>Bc (Ax (now _ m))
 have pb:∀{x:Str},x∈bx->Pl (.str x):=fun m=>Bc (Ax (nbx _ m))
 have pk:∀{x:Str},x∈lk->Pl (.str x):=fun m=>Bc (Ax (nlk _ m))
 cases h with
 |take m=>exact p2 (by decide) (pk m)
 |give m=>exact p2 (by decide) (pk m)
 |get m m'=>exact p3 (by decide) (po m) (pb m')
 |add m q=>exact p3 (by decide) (pb m) (vp q)
 |put m q=>exact p3 (by decide) (pb m) (vp q)
 |wait m q=>exact p3 (by decide) (pb m) (vp q)
 |set m q=>exact p3 (by decide) (po m) (vp q)
 |check q=>exact p2 (by decide) (vp q)
 |skip _ _=>exact p2 (by decide) (.int _)
 |unl q _ _=>exact p3 (by decide) (vp q) (.int _)
end
end K10
end
section
namespace K10
open PySem PySem.Spec PyProof.Rows L2 TL
seal UE UT UA US USs UI UG UO UW PTs Av uOr Ch Cd
theorem Nms.cut{zs:List Str}(h:Nms zs)(lo hi:Option Int):Nms (cutA zs lo hi):=⟨Nat.le_trans (As _ _ _) h.few,fun z hz=>h.ok z (Hl hz)⟩
theorem Sd.new{S:TH}{a:Addr}{x:Int}:Sd (C8 S a (.lst [.int x])) a:=⟨x,Zd⟩
theorem at0{a:T}{r:List T}:atI (a::r) (0:Int)=some a:=Xb (j:=0) rfl
section
variable{P:Program}{w:World}{K:PySem.W.Frag}{mg:Str->Option Value}{base:Heap}
def Sj:List T->TH->UX->Prop:=fun ts S Pp=>∃(a:Addr) (ow bx lk:List Str) (b:Int),ts=[.ref a,.lst (ow.map T.str),.lst (bx.map T.str),.lst (lk.map T.str),.int b]/\Sd S a/\Nms ow/\Nms bx/\Nms lk/\0<=b/\b<=90 ∧
 ∀t S',Dr a S S'->SN ow bx lk b t->Pp t S'
theorem V5:Zv ["_law_state_here","_law_owns","_law_boxes","_law_locks","_law_behind","_law_kind_here","_law_value_here"] ["_law_state_here","_law_owns","_law_boxes","_law_locks","_law_behind"] (Zb (top 54)):=⟨rfl,rfl,rfl,by decide +kernel,rfl,by decide +kernel,by decide +kernel⟩
theorem Bl{zs:List Str}{r:Int}(h0:0<=r)(h1:r<(zs.map T.str).length):∃z∈zs,atI (zs.map T.str) r=some (.str z):=by
 rw[List.length_map] at h1
 exact Ni T.str h0 h1
theorem Uf{m:Nat}(N:Nm P w K mg)(d:Aa K mg "_law_step" ["_law_state_here","_law_owns","_law_boxes","_law_locks","_law_behind"] (top 54))(c_law_next:Has P w K mg base m "_law_next" ["_law_state_here","_law_size"] Dc)(c_law_value:Has P w K mg base m "_law_value" ["_law_state_here","_law_deep","_law_owns","_law_boxes"] (Kg 5)):Has P w K mg base (m+1) "_law_step" ["_law_state_here","_law_owns","_law_boxes","_law_locks","_law_behind"] Sj:=by
 have sc:=V5
 refine Ag (k:=m) d sc (fun ts S Pp h=>?_) fun cdv f A outer s H E hr=>?_
 ·obtain⟨a,ow,bx,lk,b,rfl,_⟩:=h;rfl
 have hu0:=Ar hr
 refine⟨_,(Zs (Zt 5 sc.nd (Zf c_law_next hr rfl (Zc (uv 0) (Zc Zi Zn))))
   (Zs (Zt 6 sc.nd (Zf c_law_value hr rfl (Zc (uv 0) (Zc (Zx (Ac (Zc Zi (Zc Zi (Zc Zi (Zc (Zp Zi (Zf c_law_next hr rfl (Zc (uv 0) (Zc Zi Zn)))) Zn))))) (Zf c_law_next hr rfl (Zc (uv 0) (Zc Zi Zn)))) (Zc (uv 1) (Zc (Ac Zn) Zn))))))
   (Zs (Zg (UW.ut (A0 (Eb (uv 5) Zi) (Bd (Cn (Zl rfl N.len (Zc (uv 3) Zn)) Zi)))) (Zo (Zr (Zu (Zc (Zx (Ac (Ab (Cs.s (Cs.s Cs.nil)))) (uv 5)) (Zc (Zx (uv 3) (Zf c_law_next hr rfl (Zc (uv 0) (Zc (Zl rfl N.len (Zc (uv 3) Zn)) Zn)))) Zn))))) Ze)
   (Zs (Zg (UW.ut (A0 (Eb (uv 5) Zi) (A0 (Cn (Zl rfl N.len (Zc (uv 1) Zn)) Zi) (Bd (Cn (Zl rfl N.len (Zc (uv 2) Zn)) Zi))))) (Zo (Zr (Zu (Zc Zq (Zc (Zx (uv 1) (Zf c_law_next hr rfl (Zc (uv 0) (Zc (Zl rfl N.len (Zc (uv 1) Zn)) Zn)))) (Zc (Zx (uv 2) (Zf c_law_next hr rfl (Zc (uv 0) (Zc (Zl rfl N.len (Zc (uv 2) Zn)) Zn)))) Zn)))))) Ze)
   (Zs (Zg (UW.ut (A0 (Eb (uv 5) Zi) (Bd (Cn (Zl rfl N.len (Zc (uv 2) Zn)) Zi)))) (Zo (Zr (Zu (Zc (Zx (Ac (Ab (Cs.s (Cs.s (Cs.s Cs.nil))))) (Go (uv 5) Zi)) (Zc (Zx (uv 2) (Zf c_law_next hr rfl (Zc (uv 0) (Zc (Zl rfl N.len (Zc (uv 2) Zn)) Zn)))) (Zc (uv 6) Zn)))))) Ze)
   (Zs (Zg (UW.ut (A0 (Xf hu0 (uv 5) Zi) (Bd (Cn (Zl rfl N.len (Zc (uv 1) Zn)) Zi)))) (Zo (Zr (Zu (Zc Zq (Zc (Zx (uv 1) (Zf c_law_next hr rfl (Zc (uv 0) (Zc (Zl rfl N.len (Zc (uv 1) Zn)) Zn)))) (Zc (uv 6) Zn)))))) Ze)
   (Zs (Zg (Eb (uv 5) Zi) (Zo (Zr (Zu (Zc Zq (Zc (uv 6) Zn))))) Ze)
   (Zs (Zg (Xf hu0 (uv 5) Zi) (Zo (Zr (Zu (Zc Zq (Zc (Zf c_law_next hr rfl (Zc (uv 0) (Zc (Zp (uv 4) Zi) Zn))) Zn))))) Ze)
   (Zs (Zg (Xf hu0 (uv 5) Zi) (Zo (Zr (Zu (Zc Zq (Zc (uv 6) (Zc (Zf c_law_next hr rfl (Zc (uv 0) (Zc (Zp (uv 4) Zi) Zn))) Zn)))))) Ze)
   (Zs (Zg (Cn (Zl rfl N.len (Zc (uv 2) Zn)) Zi) (Zo (Zr (Zu (Zc Zq (Zc (Zx (uv 2) (Zf c_law_next hr rfl (Zc (uv 0) (Zc (Zl rfl N.len (Zc (uv 2) Zn)) Zn)))) (Zc (Zu (Ab (Cs.s (Cs.i Cs.nil)))) Zn)))))) Ze)
   (Zo (Zr (Zu (Zc Zq (Zc (Zu (Zc Zq (Zc (Zp Zi (Zf c_law_next hr rfl (Zc (uv 0) (Zc Zi Zn)))) Zn))) Zn))))))))))))))),fun ts S0 Pp h=>?_⟩
 obtain⟨a,ow,bx,lk,b,rfl,hs,now,nbx,nlk,hb0,hb,h⟩:=h
 have o2:2<=sizeLine:=by decide
 have o3:3<=sizeLine:=by decide
 refine Zj (fun env S=>∃kd:Int,env=[some (.ref a),some (.lst (ow.map T.str)),some (.lst (bx.map T.str)),some (.lst (lk.map T.str)),some (.int b),some (.int kd),none]/\Dr a S0 S/\0<=kd/\kd<12) (fun k hk=>⟨a,12,rfl,hs,by decide,fun r S1 d1 r0 r1=>hk _ _ ⟨r,rfl,d1,r0,r1⟩⟩) ?_
 rintro _ S1 ⟨kd,rfl,d1,kd0,kd1⟩
 refine Zj (fun env S=>∃v:T,env=[some (.ref a),some (.lst (ow.map T.str)),some (.lst (bx.map T.str)),some (.lst (lk.map T.str)),some (.int b),some (.int kd),some v]/\Dr a S0 S/\VF ow [] 5 v) (fun k hk=>⟨a,5,rfl,d1.sd,by decide,fun r5 S2 d2 r50 r51=>⟨show 4<=sizeLine by decide,a,4,rfl,d2.sd,by decide,fun r4 S3 d3 r40 r41=>?_⟩⟩) ?_
 ·have pk:∃j:Nat,j<5/\atI [T.int 1,T.int 2,T.int 2,T.int (1+r5)] r4=some (.int ((j+1:Nat):Int)):=by
   have:r4=0\/r4=1\/r4=2\/r4=3:=by omega
   rcases this with rfl|rfl|rfl|rfl
   ·exact⟨0,by omega,rfl⟩
   ·exact⟨1,by omega,rfl⟩
   ·exact⟨1,by omega,rfl⟩
   ·refine⟨r5.toNat,by omega,?_⟩
    rw[show ((r5.toNat+1:Nat):Int)=1+r5 by omega]
    rfl
  obtain⟨j,hj,ej⟩:=pk
  exact⟨_,ej,show 0<=sizeLine by decide,j,hj,a,ow,[],rfl,d3.sd,now,⟨by decide,fun _ z=>(by cases z)⟩,fun t S4 d4 vt=>hk _ _ ⟨t,rfl,((d1.trans d2).trans d3).trans d4,vt.up (by omega)⟩⟩
 rintro _ S2 ⟨v,rfl,d2,vv⟩
 clear d1 S1
 have tru:∀{b:Bool} {p:Prop} [Decidable p],(b&&decide p)=true->p:=fun {b p _} e=>by
  rw[Bool.and_eq_true] at e
  exact of_decide_eq_true e.2
 refine Zj (fun env S=>env=[some (.ref a),some (.lst (ow.map T.str)),some (.lst (bx.map T.str)),some (.lst (lk.map T.str)),some (.int b),some (.int kd),some v]/\S=S2) (fun k hk=>An (fun _ h=>h) (fun _ _ h=>h) ⟨fun e=>?_,fun _=>hk _ _ ⟨rfl,rfl⟩⟩) ?_
 ·have e1:kd<2:=by rw[Bool.and_eq_true] at e;exact of_decide_eq_true e.1
  have e2:=tru e
  have:kd=0\/kd=1:=by omega
  rcases this with rfl|rfl
  ·refine⟨o2,.str "take",rfl,a,_,rfl,d2.sd,e2,fun r S3 d3 r0 r1=>?_⟩
   obtain⟨y,ly,ey⟩:=Bl r0 r1
   exact⟨_,ey,o2,h _ _ (d2.trans d3) (.take ly)⟩
  ·refine⟨o2,.str "give",rfl,a,_,rfl,d2.sd,e2,fun r S3 d3 r0 r1=>?_⟩
   obtain⟨y,ly,ey⟩:=Bl r0 r1
   exact⟨_,ey,o2,h _ _ (d2.trans d3) (.give ly)⟩
 rintro _ _ ⟨rfl,rfl⟩
 refine Zj (fun env S=>env=[some (.ref a),some (.lst (ow.map T.str)),some (.lst (bx.map T.str)),some (.lst (lk.map T.str)),some (.int b),some (.int kd),some v]/\Dr a S0 S) (fun k hk=>An (fun _ h=>h) (fun _ _ h=>An (fun _ h=>h) (fun _ _ h=>h) h) ⟨fun e=>?_,fun _=>hk _ _ ⟨rfl,d2⟩⟩) ?_
 ·rw[Bool.and_eq_true,Bool.and_eq_true] at e
  refine⟨a,_,rfl,d2.sd,of_decide_eq_true e.2.1,fun r S3 d3 r0 r1=>?_⟩
  obtain⟨y,ly,ey⟩:=Bl r0 r1
  refine⟨_,ey,a,_,rfl,d3.sd,of_decide_eq_true e.2.2,fun r' S4 d4 r0' r1'=>?_⟩
  obtain⟨y',ly',ey'⟩:=Bl r0' r1'
  exact⟨_,ey',o3,h _ _ ((d2.trans d3).trans d4) (.get ly ly')⟩
 rintro _ S2 ⟨rfl,d2⟩
 refine Zj (fun env S=>env=[some (.ref a),some (.lst (ow.map T.str)),some (.lst (bx.map T.str)),some (.lst (lk.map T.str)),some (.int b),some (.int kd),some v]/\Dr a S0 S) (fun k hk=>An (fun _ h=>h) (fun _ _ h=>h) ⟨fun e=>?_,fun _=>hk _ _ ⟨rfl,d2⟩⟩) ?_
 ·have e1:kd<7:=by rw[Bool.and_eq_true] at e;exact of_decide_eq_true e.1
  have e2:=tru e
  have wd:∃z:Str,(∀y∈bx,SN ow bx lk b (.tup [.str z,.str y,v]))/\atI [T.str "add",T.str "put",T.str "wait"] (kd / 3)=some (.str z):=by
   have:kd / 3=0\/kd / 3=1\/kd / 3=2:=by omega
   rcases this with q|q|q <;> rw[q]
   ·exact⟨"add",fun y hy=>.add hy vv,rfl⟩
   ·exact⟨"put",fun y hy=>.put hy vv,rfl⟩
   ·exact⟨"wait",fun y hy=>.wait hy vv,rfl⟩
  obtain⟨z,lz,ez⟩:=wd
  refine⟨o3,⟨by decide,by decide⟩,_,ez,a,_,rfl,d2.sd,e2,fun r S3 d3 r0 r1=>?_⟩
  obtain⟨y,ly,ey⟩:=Bl r0 r1
  exact⟨_,ey,o3,h _ _ (d2.trans d3) (lz y ly)⟩
 rintro _ S2 ⟨rfl,d2⟩
 refine Zj (fun env S=>env=[some (.ref a),some (.lst (ow.map T.str)),some (.lst (bx.map T.str)),some (.lst (lk.map T.str)),some (.int b),some (.int kd),some v]/\Dr a S0 S) (fun k hk=>An (fun _ h=>h) (fun _ _ h=>h) ⟨fun e=>?_,fun _=>hk _ _ ⟨rfl,d2⟩⟩) ?_
 ·have e2:=tru e
  refine⟨a,_,rfl,d2.sd,e2,fun r S3 d3 r0 r1=>?_⟩
  obtain⟨y,ly,ey⟩:=Bl r0 r1
  exact⟨_,ey,o3,h _ _ (d2.trans d3) (.set ly vv)⟩
 rintro _ S2 ⟨rfl,d2⟩
 refine Zj (fun env S=>env=[some (.ref a),some (.lst (ow.map T.str)),some (.lst (bx.map T.str)),some (.lst (lk.map T.str)),some (.int b),some (.int kd),some v]/\Dr a S0 S) (fun k hk=>⟨fun _=>⟨o2,h _ _ d2 (.check vv)⟩,fun _=>hk _ _ ⟨rfl,d2⟩⟩) ?_
 rintro _ S2 ⟨rfl,d2⟩
 refine Zj (fun env S=>env=[some (.ref a),some (.lst (ow.map T.str)),some (.lst (bx.map T.str)),some (.lst (lk.map T.str)),some (.int b),some (.int kd),some v]/\Dr a S0 S) (fun k hk=>⟨fun _=>⟨a,_,rfl,d2.sd,show (0:Int)<b+1 by omega,fun r S3 d3 r0 r1=>⟨o2,h _ _ (d2.trans d3) (.skip r0 (by omega))⟩⟩,fun _=>hk _ _ ⟨rfl,d2⟩⟩) ?_
 rintro _ S2 ⟨rfl,d2⟩
 refine Zj (fun env S=>env=[some (.ref a),some (.lst (ow.map T.str)),some (.lst (bx.map T.str)),some (.lst (lk.map T.str)),some (.int b),some (.int kd),some v]/\Dr a S0 S) (fun k hk=>⟨fun _=>⟨a,_,rfl,d2.sd,show (0:Int)<b+1 by omega,fun r S3 d3 r0 r1=>⟨o3,h _ _ (d2.trans d3) (.unl vv r0 (by omega))⟩⟩,fun _=>hk _ _ ⟨rfl,d2⟩⟩) ?_
 rintro _ S2 ⟨rfl,d2⟩
 refine Zj (fun env S=>env=[some (.ref a),some (.lst (ow.map T.str)),some (.lst (bx.map T.str)),some (.lst (lk.map T.str)),some (.int b),some (.int kd),some v]/\Dr a S0 S) (fun k hk=>⟨fun e=>⟨a,_,rfl,d2.sd,of_decide_eq_true e,fun r S3 d3 r0 r1=>?_⟩,fun _=>hk _ _ ⟨rfl,d2⟩⟩) ?_
 ·obtain⟨y,ly,ey⟩:=Bl r0 r1
  exact⟨_,ey,o2,o3,h _ _ (d2.trans d3) (.add ly (.num (by decide) (by decide)))⟩
 rintro _ S2 ⟨rfl,d2⟩
 exact⟨a,2,rfl,d2.sd,by decide,fun r S3 d3 r0 r1=>⟨o2,o2,h _ _ (d2.trans d3) (.check (.num (by omega) (by omega)))⟩⟩
def StepsF(ow bx lk:List Str)(ss:List T):Prop:=∀(k:Nat) t,ss[k]?=some t->SN ow bx lk ((ss.length:Int) - 1 - k) t
def Np:List T->TH->UX->Prop:=fun ts S Pp=>∃(a:Addr) (ow bx lk:List Str) (most:Int),ts=[.ref a,.lst (ow.map T.str),.lst (bx.map T.str),.lst (lk.map T.str),.int most]/\Sd S a/\Nms ow/\Nms bx/\Nms lk/\0<=most/\most<=80 ∧
 ∀ss S',Dr a S S'->StepsF ow bx lk ss->(ss.length:Int)<=most->Pp (.tup ss) S'
theorem Vs:Zv ["_law_state_here","_law_owns","_law_boxes","_law_locks","_law_most","_law_lock","_law_box","_law_put","_law_amount"] ["_law_state_here","_law_owns","_law_boxes","_law_locks","_law_most"] (Zb (top 55)):=⟨rfl,rfl,rfl,by decide +kernel,rfl,by decide +kernel,by decide +kernel⟩
theorem Pw{m:Nat}(N:Nm P w K mg)(d:Aa K mg "_law_steps" ["_law_state_here","_law_owns","_law_boxes","_law_locks","_law_most"] (top 55))(c_law_next:Has P w K mg base m "_law_next" ["_law_state_here","_law_size"] Dc)(c_law_step:Has P w K mg base m "_law_step" ["_law_state_here","_law_owns","_law_boxes","_law_locks","_law_behind"] Sj):Has P w K mg base (m+1) "_law_steps" ["_law_state_here","_law_owns","_law_boxes","_law_locks","_law_most"] Np:=by
 have sc:=Vs
 refine Ag (k:=m) d sc (fun ts S Pp h=>?_) fun cdv f A outer s H E hr=>?_
 ·obtain⟨a,ow,bx,lk,most,rfl,_⟩:=h;rfl
 have hu0:=Ar hr
 refine⟨_,(Zs (Zg (UW.ut (A0 (Cn (Zl rfl N.len (Zc (uv 1) Zn)) Zi) (A0 (Cn (Zl rfl N.len (Zc (uv 2) Zn)) Zi) (A0 (Cn (Zl rfl N.len (Zc (uv 3) Zn)) Zi) (A0 (Cn (uv 4) Zi) (Bd (Xf hu0 (Zf c_law_next hr rfl (Zc (uv 0) (Zc Zi Zn))) Zi))))))) (Zs (Zt 5 sc.nd (Zx (uv 3) (Zf c_law_next hr rfl (Zc (uv 0) (Zc (Zl rfl N.len (Zc (uv 3) Zn)) Zn)))))
   (Zs (Zt 6 sc.nd (Zx (uv 2) (Zf c_law_next hr rfl (Zc (uv 0) (Zc (Zl rfl N.len (Zc (uv 2) Zn)) Zn)))))
   (Zs (Zt 7 sc.nd (Zu (Zc Zq (Zc (uv 6) (Zc (Zu (Zc Zq (Zc (Zu (Zc Zq (Zc (Zx (uv 1) Zi) Zn))) (Zc (Zu (Ab (Cs.s (Cs.i Cs.nil)))) Zn)))) Zn)))))
   (Zo (Zr (Zu (Zc (Zu (Zc Zq (Zc (uv 5) Zn))) (Zc (Zu (Zc Zq (Zc (Zx (uv 1) Zi) (Zc (uv 6) Zn)))) (Zc (uv 7) (Zc (Zu (Zc Zq (Zc (uv 5) Zn))) Zn)))))))))) Ze)
   (Zs (Zt 8 sc.nd (Zf c_law_next hr rfl (Zc (uv 0) (Zc (Zp (uv 4) Zi) Zn))))
   (Zo (Zr (Am rfl N.tuple (Zc (Xg 0 ["_law_k","_law_state_here","_law_owns","_law_boxes","_law_locks","_law_amount"] [none,some 0,some 1,some 2,some 3,some 8] rfl (Aw rfl N.range (Zc (uv 8) Zn)) (fun _ _ _ _ _=>Ak) (fun _ _ _ _ _=>(Zf c_law_step hr rfl (Zc (uv 1) (Zc (uv 2) (Zc (uv 3) (Zc (uv 4) (Zc (A8 (A8 (uv 5) Zi) (uv 0)) Zn)))))))) Zn)))))),fun ts S0 Pp h=>?_⟩
 obtain⟨a,ow,bx,lk,most,rfl,hs,now,nbx,nlk,hm0,hm,h⟩:=h
 have o2:2<=sizeLine:=by decide
 have o3:3<=sizeLine:=by decide
 have o4:4<=sizeLine:=by decide
 refine Zj (fun env S=>env=[some (.ref a),some (.lst (ow.map T.str)),some (.lst (bx.map T.str)),some (.lst (lk.map T.str)),some (.int most),none,none,none,none]/\Dr a S0 S) (fun k hk=>?_) ?_
 ·refine Fj (R:=Dr a S0) (C:=_/\_/\_/\True) (fun _ h=>h) (Dr.rfl hs) (fun _ P hP=>Fj (R:=Dr a S0) (C:=_/\_/\True) (fun _ h=>h) (Dr.rfl hs) (fun _ P hP=>Fj (R:=Dr a S0) (C:=_/\True) (fun _ h=>h) (Dr.rfl hs) (fun _ P hP=>Fj (R:=Dr a S0) (C:=True) (fun _ h=>h) (Dr.rfl hs) (fun _ P hP=>⟨a,4,rfl,hs,by decide,fun r S1 d1 _ _=>hP _ S1 d1 fun _=>trivial⟩) hP) hP) hP) fun b S1 d1 hb=>⟨fun e=>?_,fun _=>hk _ _ ⟨rfl,d1⟩⟩
  obtain⟨c1,c2,c3,c4,_⟩:=hb e
  have c1:=of_decide_eq_true c1
  have c2:=of_decide_eq_true c2
  have c3:=of_decide_eq_true c3
  have c4:=of_decide_eq_true c4
  have e0:∃z∈ow,atI (ow.map T.str) (0:Int)=some (.str z):=Bl (by decide) c1
  obtain⟨z,hz,ez⟩:=e0
  refine Zj (fun env S=>∃l,env=[some (.ref a),some (.lst (ow.map T.str)),some (.lst (bx.map T.str)),some (.lst (lk.map T.str)),some (.int most),some (.str l),none,none,none]/\Dr a S0 S/\l∈lk) (fun k hk=>⟨a,_,rfl,d1.sd,c3,fun r S2 d2 r0 r1=>?_⟩) ?_
  ·obtain⟨l,hl,el⟩:=Bl r0 r1
   exact⟨_,el,hk _ _ ⟨l,rfl,d1.trans d2,hl⟩⟩
  rintro _ S2 ⟨l,rfl,d2,hl⟩
  refine Zj (fun env S=>∃y,env=[some (.ref a),some (.lst (ow.map T.str)),some (.lst (bx.map T.str)),some (.lst (lk.map T.str)),some (.int most),some (.str l),some (.str y),none,none]/\Dr a S0 S/\y∈bx) (fun k hk=>⟨a,_,rfl,d2.sd,c2,fun r S3 d3 r0 r1=>?_⟩) ?_
  ·obtain⟨y,hy,ey⟩:=Bl r0 r1
   exact⟨_,ey,hk _ _ ⟨y,rfl,d2.trans d3,hy⟩⟩
  rintro _ S3 ⟨y,rfl,d3,hy⟩
  refine Zj (fun env S=>env=[some (.ref a),some (.lst (ow.map T.str)),some (.lst (bx.map T.str)),some (.lst (lk.map T.str)),some (.int most),some (.str l),some (.str y),some (.tup [.str "put",.str y,.tup [.str "plus",.tup [.str "own",.str z],.tup [.str "number",.int 1]]]),none]/\Dr a S0 S) (fun k hk=>⟨_,ez,o2,o2,o3,o3,hk _ _ ⟨rfl,d3⟩⟩) ?_
  rintro _ S4 ⟨rfl,d4⟩
  refine⟨o2,_,ez,o3,o2,o4,h _ _ d4 (fun k t et=>?_) (show (4:Int)<=most by omega)⟩
  rcases k with _|_|_|_|k
  ·simp at et;rw[<-et];exact .take hl
  ·simp at et;rw[<-et];exact .get hz hy
  ·simp at et;rw[<-et];exact .put hy (.two (.inl rfl) (.own hz) (.num (by decide) (by decide)))
  ·simp at et;rw[<-et];exact .give hl
  ·simp at et
 rintro _ S1 ⟨rfl,d1⟩
 refine Zj (fun env S=>∃n:Int,env=[some (.ref a),some (.lst (ow.map T.str)),some (.lst (bx.map T.str)),some (.lst (lk.map T.str)),some (.int most),none,none,none,some (.int n)]/\Dr a S0 S/\0<=n/\n<=most) (fun k hk=>⟨a,most+1,rfl,d1.sd,by omega,fun r S2 d2 r0 r1=>hk _ _ ⟨r,rfl,d1.trans d2,r0,by omega⟩⟩) ?_
 rintro _ S2 ⟨n,rfl,d2,n0,n1⟩
 refine Co (E9 n.toNat) (fun k acc S=>Dr a S0 S/\acc.length=k/\∀(j:Nat) t,acc[j]?=some t->SN ow bx lk (n - 1 - j) t) (fun k hk=>⟨by omega,by omega,hk⟩) (by rw[Zh];exact Xp (by omega)) ⟨d2,rfl,fun j t e=>(by simp at e)⟩ ?_ ?_
 ·rintro k x acc S ek ⟨d3,lk',ha⟩
  have hk:k<n.toNat:=by
   have:=(List.getElem?_eq_some_iff.mp ek).1
   rw[Zh] at this
   exact this
  rw[Cq hk] at ek
  cases ek
  refine⟨fun _=>⟨a,ow,bx,lk,n - 1 - k,rfl,d3.sd,now,nbx,nlk,by omega,by omega,fun t S4 d4 sn=>⟨d3.trans d4,by rw[List.length_append,lk'];rfl,fun j u eu=>?_⟩⟩,fun e=>(by cases e)⟩
  by_cases hj:j<acc.length
  ·rw[List.getElem?_append_left hj] at eu;exact ha j u eu
  ·rw[List.getElem?_append_right (by omega)] at eu
   have:j - acc.length=0:=by
    have:=(List.getElem?_eq_some_iff.mp eu).1
    simp at this
    omega
   rw[this] at eu
   simp at eu
   rw[<-eu]
   have:j=k:=by omega
   rw[this]
   exact sn
 ·rintro acc S ⟨d3,la,ha⟩
  rw[Zh] at la
  refine h _ _ d3 (fun k t et=>?_) (by omega)
  have q:=ha k t et
  rw[la]
  have e:((n.toNat:Nat):Int) - 1 - k=n - 1 - k:=by omega
  rw[e]
  exact q
end
end K10
end
section
namespace K10
open PySem PySem.Spec PyProof.Rows L2 TL
seal UE UT UA US USs UI UG UO UW PTs Av uOr Ch Cd
abbrev Prg:=Str×List (Str×Int)×List T
def pairT(p:Str×Int):T:=.tup [.str p.1,.int p.2]
def progT(p:Prg):T:=.tup [.str p.1,.tup (p.2.1.map pairT),.tup p.2.2]
def Num(size:Int)(os:List (Str×Int)):Prop:=∀q∈os,Zw q.1=true/\0<=q.2/\q.2<size
structure PV(size:Int)(bn ls:List Str)(p:Prg):Prop where
 nm:Zw p.1=true
 few:p.2.1.length<=4
 num:Num size p.2.1
 nd:(p.2.1.map (·.1)).Nodup
 short:p.2.2.length<=30
 steps:StepsF (p.2.1.map (·.1)) bn ls p.2.2
structure LV(size:Int)(bs:List (Str×Int))(ls:List Str)(ps:List Prg)(ws:List Int)(cs:List T):Prop where
 s2:2<=size
 s16:size<=16
 bn:bs.length<=8
 bo:Num size bs
 ln:ls.length<=4
 lo:∀z∈ls,Zw z=true
 nd:(bs.map (·.1)++ls).Nodup
 p1:1<=ps.length
 p4:ps.length<=4
 po:∀p∈ps,PV size (bs.map (·.1)) ls p
 pd:(ps.map (·.1)).Nodup
 w1:1<=ws.length
 w6:ws.length<=6
 wo:∀x∈ws,0<=x/\x<ps.length
 cn:cs.length<=4
 co:∀t∈cs,VF [] (bs.map (·.1)) 5 t
theorem B4:∀bs:List (Str×Int),Xn (bs.map pairT)=bs.map (·.1)
 |[]=>rfl
 |p::r=>by
  show p.1::Xn (r.map pairT)=p.1::r.map (·.1)
  rw[B4 r]
theorem Gv:∀ps:List Prg,Xn (ps.map progT)=ps.map (·.1)
 |[]=>rfl
 |p::r=>by
  show p.1::Xn (r.map progT)=p.1::r.map (·.1)
  rw[Gv r]
theorem Ia:∀ls:List Str,strsOf (ls.map T.str)=ls
 |[]=>rfl
 |z::r=>by
  show z::strsOf (r.map T.str)=z::r
  rw[Ia r]
theorem Ef{lo hi:Int}{ts:List T}(h0:lo<=ts.length)(h1:(ts.length:Int)<=hi):Ah lo hi (.tup ts)=true:=by
 show (decide (lo<=ts.length)&&decide ((ts.length:Int)<=hi))=true
 rw[decide_eq_true h0,decide_eq_true h1];rfl
theorem Ny{lo hi i:Int}(h0:lo<=i)(h1:i<=hi):A7 lo hi (.int i)=true:=by
 show (decide (lo<=i)&&decide (i<=hi))=true
 rw[decide_eq_true h0,decide_eq_true h1];rfl
theorem Vk{size:Int}{p:Str×Int}(h:Zw p.1=true/\0<=p.2/\p.2<size):pairOk size (pairT p)=true:=by
 show (Ah 2 2 (.tup [.str p.1,.int p.2])&&(Zw p.1&&A7 0 (size - 1) (.int p.2)))=true
 rw[Ef (by simp) (by simp),h.1,Ny h.2.1 (by omega)];rfl
theorem Pe{most size:Int}{os:List (Str×Int)}(hl:(os.length:Int)<=most)(hn:Num size os)(nd:(os.map (·.1)).Nodup):A6 most size (.tup (os.map pairT))=true:=by
 show (Ah 0 most (.tup (os.map pairT))&&((os.map pairT).all (pairOk size)&&decide (Xn (os.map pairT)).Nodup))=true
 rw[Ef (by omega) (by rw[List.length_map];exact hl),B4,decide_eq_true nd]
 have e:(os.map pairT).all (pairOk size)=true:=by
  rw[List.all_eq_true]
  intro x hx
  obtain⟨p,hp,rfl⟩:=List.mem_map.mp hx
  exact Vk (hn p hp)
 rw[e];rfl
theorem Vu{size:Int}{p:Str×Int}(h:Zw p.1=true/\0<=p.2/\p.2<size):Pl (pairT p):=.tup (Xd (Bc (Ax h.1)) (Xd (.int _) al_nil))
theorem Mn{size:Int}{os:List (Str×Int)}(hn:Num size os):Pl (.tup (os.map pairT)):=.tup fun x hx=>by
 obtain⟨p,hp,rfl⟩:=List.mem_map.mp hx
 exact Vu (hn p hp)
theorem LV.ok{size:Int}{bs:List (Str×Int)}{ls:List Str}{ps:List Prg}{ws:List Int}{cs:List T}(h:LV size bs ls ps ws cs):LoomOk size (.tup (bs.map pairT)) (.tup (ls.map T.str)) (.tup (ps.map progT)) (.tup (ws.map T.int)) (.tup cs):=by
 have nb:∀z∈bs.map (·.1),Zw z=true:=fun z hz=>by
  obtain⟨p,hp,rfl⟩:=List.mem_map.mp hz
  exact(h.bo p hp).1
 have no:∀p∈ps,∀z∈p.2.1.map (·.1),Zw z=true:=fun p hp z hz=>by
  obtain⟨q,hq,rfl⟩:=List.mem_map.mp hz
  exact((h.po p hp).num q hq).1
 refine⟨h.s2,h.s16,Mn h.bo,?_,?_,?_,?_,?_,?_,?_,?_,?_,?_,?_⟩
 ·exact .tup fun x hx=>by
   obtain⟨z,hz,rfl⟩:=List.mem_map.mp hx
   exact Bc (Ax (h.lo z hz))
 ·exact .tup fun x hx=>by
   obtain⟨p,hp,rfl⟩:=List.mem_map.mp hx
   refine .tup (Xd (Bc (Ax (h.po p hp).nm)) (Xd (Mn (h.po p hp).num) (Xd (.tup fun t ht=>?_) al_nil)))
   obtain⟨k,hk,rfl⟩:=List.mem_iff_getElem.mp ht
   exact sn_pl (no p hp) nb h.lo ((h.po p hp).steps k _ (List.getElem?_eq_getElem hk))
 ·exact .tup fun x hx=>by
   obtain⟨i,_,rfl⟩:=List.mem_map.mp hx
   exact .int _
 ·exact .tup fun t ht=>Xy (fun _ z=>by cases z) nb (h.co t ht)
 ·exact Pe (by have:=h.bn;omega) h.bo (h.nd.sublist (List.sublist_append_left _ _))
 ·show (Ah 0 4 (.tup (ls.map T.str))&&((ls.map T.str).all isName&&decide (Xn (bs.map pairT)++strsOf (ls.map T.str)).Nodup))=true
  have e:(ls.map T.str).all isName=true:=by
   rw[List.all_eq_true]
   intro x hx
   obtain⟨z,hz,rfl⟩:=List.mem_map.mp hx
   exact h.lo z hz
  rw[Ef (by omega) (by rw[List.length_map];have:=h.ln;omega),e,B4,Ia,decide_eq_true h.nd];rfl
 ·show (Ah 1 4 (.tup (ps.map progT))&&((ps.map progT).all (progOk size)&&decide (Xn (ps.map progT)).Nodup))=true
  have e:(ps.map progT).all (progOk size)=true:=by
   rw[List.all_eq_true]
   intro x hx
   obtain⟨p,hp,rfl⟩:=List.mem_map.mp hx
   have v:=h.po p hp
   show (Ah 3 3 (.tup [.str p.1,.tup (p.2.1.map pairT),.tup p.2.2])&&(Zw p.1&&(A6 4 size (.tup (p.2.1.map pairT))&&Ah 0 30 (.tup p.2.2))))=true
   rw[Ef (by simp) (by simp),v.nm,Pe (by have:=v.few;omega) v.num v.nd,Ef (by omega) (by have:=v.short;omega)];rfl
  have:=h.p1
  have:=h.p4
  rw[Ef (by rw[List.length_map];omega) (by rw[List.length_map];omega),e,Gv,decide_eq_true h.pd];rfl
 ·show (Ah 1 6 (.tup (ws.map T.int))&&(ws.map T.int).all (A7 0 (((ps.map progT).length:Int) - 1)))=true
  have e:(ws.map T.int).all (A7 0 (((ps.map progT).length:Int) - 1))=true:=by
   rw[List.all_eq_true,List.length_map]
   intro x hx
   obtain⟨i,hi,rfl⟩:=List.mem_map.mp hx
   have:=h.wo i hi
   exact Ny this.1 (by omega)
  have:=h.w1
  have:=h.w6
  rw[Ef (by rw[List.length_map];omega) (by rw[List.length_map];omega),e];rfl
 ·exact Ef (by omega) (by have:=h.cn;omega)
 ·intro n o s hm k t et
  obtain⟨p,hp,e⟩:=List.mem_map.mp (show T.tup [n,o,s]∈ps.map progT from hm)
  have e:T.tup [.str p.1,.tup (p.2.1.map pairT),.tup p.2.2]=T.tup [n,o,s]:=e
  injection e with e
  injection e with e1 e
  injection e with e2 e
  injection e with e3 e
  subst e1 e2 e3
  have sn:=(h.po p hp).steps k t et
  have q:=sn_ok (no p hp) nb h.lo sn
  show Al (Xn (p.2.1.map pairT)) (Xn (bs.map pairT)) (strsOf (ls.map T.str)) ((p.2.2.length:Int) - k - 1) t=true
  rw[B4,B4,Ia]
  have ei:(p.2.2.length:Int) - k - 1=(p.2.2.length:Int) - 1 - k:=by omega
  rw[ei]
  exact q
 ·intro t ht
  show valOk 5 [] (Xn (bs.map pairT)) t=true
  rw[B4]
  exact W8 (fun _ z=>by cases z) nb (h.co t ht)
end K10
end
section
namespace K10
open PySem PySem.Spec PyProof.Rows L2 TL
seal UE UT UA US USs UI UG UO UW PTs Av uOr Ch Cd
structure Dx(a:Addr)(S S':TH):Prop where
 same:∀b c,b≠a->S b=some c->S' b=some c
 sd:Sd S' a
theorem Dx.of{a:Addr}{S S':TH}(d:Dr a S S'):Dx a S S':=⟨fun b c hb e=>(d.same b hb).trans e,d.sd⟩
theorem Dx.trans{a:Addr}{S S1 S2:TH}(x:Dx a S S1)(y:Dx a S1 S2):Dx a S S2:=⟨fun b c hb e=>y.same b c hb (x.same b c hb e),y.sd⟩
theorem Dx.dr{a:Addr}{S S1 S2:TH}(x:Dx a S S1)(y:Dr a S1 S2):Dx a S S2:=x.trans (.of y)
section
variable{P:Program}{w:World}{K:PySem.W.Frag}{mg:Str->Option Value}{base:Heap}
def loomT(size:Int)(bs:List (Str×Int))(ls:List Str)(ps:List Prg)(ws:List Int)(cs:List T):List T:=[.int size,.tup (bs.map pairT),.tup (ls.map T.str),.tup (ps.map progT),.tup (ws.map T.int),.tup cs]
def X9:List T->TH->UX->Prop:=fun ts S Pp=>∃(a:Addr) (most workers:Int),ts=[.ref a,.int most,.int workers]/\Sd S a/\0<=most/\most<=30/\1<=workers/\workers<=6/\∀size bs ls ps ws cs S',Dx a S S'->LV size bs ls ps ws cs->Pp (.tup (loomT size bs ls ps ws cs)) S'
theorem Abc:Zv ["_law_state_here","_law_most","_law_workers","_law_size","_law_names_here","_law_boxes","_law_locks","_law_programs_here","_law_k","_law_owns","_law_steps_here","_law_hands","_law_claims","_law_pairs_here"] ["_law_state_here","_law_most","_law_workers"] (Zb (top 56)):=⟨rfl,rfl,rfl,by decide +kernel,rfl,by decide +kernel,by decide +kernel⟩
theorem Db{pick:List (Option Nat)}{ti:UTA}{env:Ev}{S0:TH}{a:Addr}{size:Int}{gg:UTG}{tc:UTT}{te:UTE}{P:UX}{zs:List Str}(nz:Nms zs)(sd:Sd S0 a)(hti:∀k:List T->TH->Prop,k (zs.map T.str) S0->ti env S0 k)
  (turn:∀(z:Str) S (A:UX) (B:TH->Prop),Sd S a->(∀(r:Int) S',Dr a S S'->0<=r->r<size->A (pairT (z,r)) S')->gg (.str z) (Gc pick env) S fun env' S'=>tc env' S' fun b S2=>(b=true->te env' S2 A)/\(b=false->B S2))
  (done:∀os S,Dr a S0 S->Num size os->os.map (·.1)=zs->P (.lst (os.map pairT)) S):Av pick ti gg tc te env S0 P:=by
 refine Co (zs.map T.str) (fun k acc S=>Dr a S0 S/\∃os:List (Str×Int),acc=os.map pairT/\Num size os/\os.map (·.1)=zs.take k) hti (by rw[List.length_map];exact Xp (by have:=nz.few;omega)) ⟨Dr.rfl sd,[],rfl,(fun _ z=>by cases z),rfl⟩ ?_ ?_
 ·rintro k x acc S e ⟨d1,os,rfl,hn,hk⟩
  have ek:zs[k]?≠none:=fun z=>by rw[List.getElem?_map,z] at e;cases e
  obtain⟨z,ez⟩:=Option.ne_none_iff_exists'.mp ek
  have ex:x=.str z:=by rw[List.getElem?_map,ez] at e;exact(Option.some.inj e).symm
  subst ex
  refine turn z S _ _ d1.sd fun r S' d2 r0 r1=>⟨d1.trans d2,os++[(z,r)],?_,fun q hq=>?_,?_⟩
  ·rw[List.map_append];rfl
  ·rcases List.mem_append.mp hq with m|m
   ·exact hn q m
   ·rw[List.mem_singleton.mp m]
    exact⟨nz.ok z (List.mem_of_getElem? ez),r0,r1⟩
  ·rw[List.map_append,hk,List.take_add_one,ez];rfl
 ·rintro acc S ⟨d1,os,rfl,hn,hk⟩
  rw[List.length_map,List.take_length] at hk
  exact done os S d1 hn hk
def el(a:Addr)(most workers size:Int)(zs bx lk:List Str)(e7 e8 e9 e10 e11 e12 e13:Option T):Ev:=[some (.ref a),some (.int most),some (.int workers),some (.int size),some (.lst (zs.map T.str)),some (.lst (bx.map T.str)),some (.lst (lk.map T.str)),e7,e8,e9,e10,e11,e12,e13]
theorem Rt{m:Nat}(N:Nm P w K mg)(d:Aa K mg "_law_loom" ["_law_state_here","_law_most","_law_workers"] (top 56))(c_law_next:Has P w K mg base m "_law_next" ["_law_state_here","_law_size"] Dc)(c_law_names:Has P w K mg base m "_law_names" ["_law_state_here","_law_amount"] Ll)(c_law_steps:Has P w K mg base m "_law_steps" ["_law_state_here","_law_owns","_law_boxes","_law_locks","_law_most"] Np)(c_law_value:Has P w K mg base m "_law_value" ["_law_state_here","_law_deep","_law_owns","_law_boxes"] (Kg 5)):Has P w K mg base (m+1) "_law_loom" ["_law_state_here","_law_most","_law_workers"] X9:=by
 have sc:=Abc
 refine Ag (k:=m) d sc (fun ts S Pp h=>?_) fun cdv f A outer s H E hr=>?_
 ·obtain⟨a,most,workers,rfl,_⟩:=h;rfl
 have hu0:=Ar hr
 refine⟨_,(Zs (Zt 3 sc.nd (Zx (Ac (Zc Zi (Zc Zi (Zc Zi (Zc Zi (Zc (Zp Zi (Zf c_law_next hr rfl (Zc (uv 0) (Zc Zi Zn)))) Zn)))))) (Zf c_law_next hr rfl (Zc (uv 0) (Zc Zi Zn)))))
   (Zs (Zt 4 sc.nd (Zf c_law_names hr rfl (Zc (uv 0) (Zc Zi Zn))))
   (Zs (Zt 5 sc.nd (Bp (uv 4) Af (Ad (Zx (Ac (Ab (Cs.i (Cs.i (Cs.i (Cs.i Cs.nil)))))) (Go (Zf c_law_next hr rfl (Zc (uv 0) (Zc Zi Zn))) Zi)))))
   (Zs (Zt 6 sc.nd (Bp (Bp (uv 4) (Ad Zi) Af) Af (Ad (Zf c_law_next hr rfl (Zc (uv 0) (Zc Zi Zn))))))
   (Zs (Zt 7 sc.nd (Hi Zn))
   (Zs (C5 PassesOwn.never rfl (Aw rfl N.range (Zc (Zp Zi (Go (Zf c_law_next hr rfl (Zc (uv 0) (Zc Zi Zn))) Zi)) Zn)) (Ci 8 sc.nd) (Zs (Zt 9 sc.nd (Zf c_law_names hr rfl (Zc (uv 0) (Zc (Zf c_law_next hr rfl (Zc (uv 0) (Zc Zi Zn))) Zn))))
   (Zs (Zt 10 sc.nd (Zf c_law_steps hr rfl (Zc (uv 0) (Zc (uv 9) (Zc (uv 5) (Zc (uv 6) (Zc (uv 1) Zn)))))))
   (Zo (Ks (F9 (uv 7) (Zc (Zu (Zc (Zx (uv 4) (A8 Zi (uv 8))) (Zc (Am rfl N.tuple (Zc (Xg 0 ["_law_own","_law_state_here","_law_size"] [none,some 0,some 3] rfl (Xu (uv 9)) (fun _ _ _ _ _=>Ak) (fun _ _ _ _ _=>(Zu (Zc (uv 0) (Zc (Zf c_law_next hr rfl (Zc (uv 1) (Zc (uv 2) Zn))) Zn))))) Zn)) (Zc (uv 10) Zn)))) Zn)))))))
   (Zs (De 11 sc.nd 0 ["_law_k","_law_state_here","_law_programs_here"] [none,some 0,some 7] rfl (Aw rfl N.range (Zc (Zp Zi (Zf c_law_next hr rfl (Zc (uv 0) (Zc (uv 2) Zn)))) Zn)) (fun _ _ _ _ _=>Ak) (fun _ _ _ _ _=>(Zf c_law_next hr rfl (Zc (uv 1) (Zc (Zl rfl N.len (Zc (uv 2) Zn)) Zn)))))
   (Zs (Zg (Xf hu0 (Zf c_law_next hr rfl (Zc (uv 0) (Zc Zi Zn))) Zi) (Zo (Zt 11 sc.nd (Yk (Ac (Zc (Zx (uv 11) Zi) Zn)) (Zl rfl N.len (Zc (uv 11) Zn))))) Ze)
   (Zs (De 12 sc.nd 0 ["_law_k","_law_state_here","_law_boxes"] [none,some 0,some 5] rfl (Aw rfl N.range (Zc (Go (Zf c_law_next hr rfl (Zc (uv 0) (Zc Zi Zn))) Zi) Zn)) (fun _ _ _ _ _=>Ak) (fun _ _ _ _ _=>(Zf c_law_value hr rfl (Zc (uv 1) (Zc Zi (Zc (Ac Zn) (Zc (uv 2) Zn)))))))
   (Zs (Zt 13 sc.nd (Am rfl N.tuple (Zc (Xg 0 ["_law_box","_law_state_here","_law_size"] [none,some 0,some 3] rfl (Xu (uv 5)) (fun _ _ _ _ _=>Ak) (fun _ _ _ _ _=>(Zu (Zc (uv 0) (Zc (Zf c_law_next hr rfl (Zc (uv 1) (Zc (uv 2) Zn))) Zn))))) Zn)))
   (Zo (Zr (Zu (Zc (uv 3) (Zc (uv 13) (Zc (Am rfl N.tuple (Zc (uv 6) Zn)) (Zc (Am rfl N.tuple (Zc (uv 7) Zn)) (Zc (Am rfl N.tuple (Zc (uv 11) Zn)) (Zc (Am rfl N.tuple (Zc (uv 12) Zn)) Zn))))))))))))))))))),fun ts S0 Pp h=>?_⟩
 obtain⟨a,most,workers,rfl,hs,hm0,hm,hw1,hw6,h⟩:=h
 have o2:2<=sizeLine:=by decide
 have o3:3<=sizeLine:=by decide
 refine Zj (fun env S=>∃size:Int,env=[some (.ref a),some (.int most),some (.int workers),some (.int size),none,none,none,none,none,none,none,none,none,none]/\Dx a S0 S/\2<=size/\size<=16) (fun k hk=>⟨a,15,rfl,hs,by decide,fun r S1 d1 r0 r1=>⟨show 5<=sizeLine by decide,a,5,rfl,d1.sd,by decide,fun q S2 d2 q0 q1=>?_⟩⟩) ?_
 ·have pk:∃i:Int,atI [T.int 2,T.int 3,T.int 4,T.int 5,T.int (2+r)] q=some (.int i)/\2<=i/\i<=16:=by
   have:q=0\/q=1\/q=2\/q=3\/q=4:=by omega
   rcases this with rfl|rfl|rfl|rfl|rfl
   ·exact⟨2,rfl,by decide,by decide⟩
   ·exact⟨3,rfl,by decide,by decide⟩
   ·exact⟨4,rfl,by decide,by decide⟩
   ·exact⟨5,rfl,by decide,by decide⟩
   ·exact⟨2+r,rfl,by omega,by omega⟩
  obtain⟨i,ei,i0,i1⟩:=pk
  exact⟨_,ei,hk _ _ ⟨i,rfl,(Dx.of d1).dr d2,i0,i1⟩⟩
 rintro _ S1 ⟨size,rfl,x1,s2,s16⟩
 refine Zj (fun env S=>∃zs:List Str,env=[some (.ref a),some (.int most),some (.int workers),some (.int size),some (.lst (zs.map T.str)),none,none,none,none,none,none,none,none,none]/\Dx a S0 S/\zs.length=5/\(∀z∈zs,Zw z=true)/\zs.Nodup) (fun k hk=>⟨a,5,rfl,x1.sd,by decide,fun zs S2 d2 hz ok nd=>hk _ _ ⟨zs,rfl,x1.dr d2,hz,ok,nd⟩⟩) ?_
 rintro _ S2 ⟨zs,rfl,x2,hz,ok,nd⟩
 have nz:Nms zs:=⟨by omega,ok⟩
 refine Zj (fun env S=>∃bx:List Str,env=[some (.ref a),some (.int most),some (.int workers),some (.int size),some (.lst (zs.map T.str)),some (.lst (bx.map T.str)),none,none,none,none,none,none,none,none]/\Dx a S0 S/\bx.Sublist (zs.take 3)) (fun k hk=>⟨show 4<=sizeLine by decide,a,7,rfl,x2.sd,by decide,fun r S3 d3 r0 r1=>⟨⟨by decide,by decide⟩,?_⟩⟩) ?_
 ·have pk:∃i:Int,atI [T.int 1,T.int 2,T.int 3,T.int 0] (r / 2)=some (.int i)/\0<=i/\i<=3:=by
   have:r / 2=0\/r / 2=1\/r / 2=2\/r / 2=3:=by omega
   rcases this with q|q|q|q <;> rw[q]
   ·exact⟨1,rfl,by decide,by decide⟩
   ·exact⟨2,rfl,by decide,by decide⟩
   ·exact⟨3,rfl,by decide,by decide⟩
   ·exact⟨0,rfl,by decide,by decide⟩
  obtain⟨i,ei,i0,i1⟩:=pk
  refine⟨_,ei,hk _ _ ⟨cutA zs none (some i),by rw[<-Ck];rfl,x2.dr d3,?_⟩⟩
  match zs,hz with
  |[z0,z1,z2,z3,z4],_ =>
   have:i=0\/i=1\/i=2\/i=3:=by omega
   rcases this with rfl|rfl|rfl|rfl
   ·exact List.nil_sublist _
   ·exact(List.nil_sublist _).cons₂ z0
   ·exact((List.nil_sublist _).cons₂ z1).cons₂ z0
   ·exact List.Sublist.refl _
 rintro _ S3 ⟨bx,rfl,x3,hbx⟩
 refine Zj (fun env S=>∃lk:List Str,env=el a most workers size zs bx lk none none none none none none none/\Dx a S0 S/\lk.Sublist (zs.drop 3)) (fun k hk=>⟨a,3,rfl,x3.sd,by decide,fun r S4 d4 r0 r1=>hk _ _ ⟨cutA (cutA zs (some 3) none) none (some r),by unfold el;rw[<-Ck,<-Ck];rfl,x3.dr d4,?_⟩⟩) ?_
 ·match zs,hz with
  |[z0,z1,z2,z3,z4],_ =>
   have:r=0\/r=1\/r=2:=by omega
   rcases this with rfl|rfl|rfl
   ·exact List.nil_sublist _
   ·exact(List.nil_sublist _).cons₂ z3
   ·exact List.Sublist.refl _
 rintro _ S4 ⟨lk,rfl,x4,hlk⟩
 have nbl:(bx++lk).Nodup:=by
  have q:=hbx.append hlk
  rw[List.take_append_drop] at q
  exact nd.sublist q
 have nbx:Nms bx:=⟨by have:=hbx.length_le;rw[List.length_take] at this;omega,fun z hz'=>ok z (List.mem_of_mem_take (hbx.subset hz'))⟩
 have nlk:Nms lk:=⟨by have:=hlk.length_le;rw[List.length_drop] at this;omega,fun z hz'=>ok z (List.mem_of_mem_drop (hlk.subset hz'))⟩
 have lbx:bx.length<=3:=by have:=hbx.length_le;rw[List.length_take] at this;omega
 have llk:lk.length<=2:=by have:=hlk.length_le;rw[List.length_drop] at this;omega
 refine Zj (fun env S=>∃p:Addr,env=el a most workers size zs bx lk (some (.ref p)) none none none none none none/\Dx a S0 S/\S p=some (.lst [])/\p≠a/\∀c,¬ S0 p=some c) (fun k hk=>⟨show 0<=sizeLine by decide,fun p hp=>?_⟩) ?_
 ·have np:p≠a:=fun z=>by obtain⟨x,q⟩:=x4.sd;rw[z,q] at hp;cases hp
  refine hk _ _ ⟨p,rfl,⟨fun b c hb e=>?_,?_⟩,Zd,np,fun c e=>by rw[x4.same p c np e] at hp;cases hp⟩
  ·have q:=x4.same b c hb e
   rw[A5 (fun z=>by rw[z,hp] at q;cases q)]
   exact q
  ·obtain⟨x,q⟩:=x4.sd
   exact⟨x,by rw[A5 (Ne.symm np)];exact q⟩
 rintro _ S5 ⟨p,rfl,x5,hp5,np,h0p⟩
 refine Zj (fun env S=>∃(ps:List Prg) (e8 e9 e10:Option T),env=el a most workers size zs bx lk (some (.ref p)) e8 e9 e10 none none none/\Dx a S0 S/\S p=some (.lst (ps.map progT))/\1<=ps.length/\ps.length<=3/\(∀q∈ps,PV size bx lk q)/\(ps.map (·.1)).Nodup) (fun k hk=>⟨a,5,rfl,x5.sd,by decide,fun r S6 d6 r0 r1=>⟨⟨by decide,by decide⟩,by omega,by omega,?_⟩⟩) ?_
 ·refine⟨fun n env S=>∃(ps:List Prg) (e8 e9 e10:Option T),env=el a most workers size zs bx lk (some (.ref p)) e8 e9 e10 none none none/\Dx a S0 S/\S p=some (.lst (ps.map progT))/\ps.length=n/\(∀q∈ps,PV size bx lk q)/\ps.map (·.1)=zs.reverse.take n,⟨[],none,none,none,rfl,x5.dr d6,(d6.same p np).trans hp5,rfl,(fun _ z=>by cases z),rfl⟩,?_,?_⟩
  ·rintro n x env S en ⟨ps,e8,e9,e10,rfl,x6,hp6,ln,hps,en'⟩
   have hn:n<(1+r / 2).toNat:=by
    have:=(List.getElem?_eq_some_iff.mp en).1
    rw[Zh] at this
    exact this
   rw[Cq hn] at en
   cases en
   refine Zj (fun env S=>∃ow:List Str,env=el a most workers size zs bx lk (some (.ref p)) (some (.int n)) (some (.lst (ow.map T.str))) e10 none none none/\Dx a S0 S/\S p=some (.lst (ps.map progT))/\ow.length<=2/\Nms ow/\ow.Nodup) (fun k hk=>⟨a,3,rfl,x6.sd,by decide,fun q S7 d7 q0 q1=>⟨a,q.toNat,?_,d7.sd,by omega,fun ow S8 d8 lo oo no=>hk _ _ ⟨ow,rfl,(x6.dr d7).dr d8,(d8.same p np).trans ((d7.same p np).trans hp6),by omega,⟨by omega,oo⟩,no⟩⟩⟩) ?_
   ·rw[Int.toNat_of_nonneg q0]
   rintro _ S7 ⟨ow,rfl,x7,hp7,lo,now,ndo⟩
   refine Zj (fun env S=>∃ss:List T,env=el a most workers size zs bx lk (some (.ref p)) (some (.int n)) (some (.lst (ow.map T.str))) (some (.tup ss)) none none none/\Dx a S0 S/\S p=some (.lst (ps.map progT))/\StepsF ow bx lk ss/\ss.length<=30) (fun k hk=>⟨a,ow,bx,lk,most,rfl,x7.sd,now,nbx,nlk,hm0,by omega,fun ss S8 d8 sf ls=>hk _ _ ⟨ss,rfl,x7.dr d8,(d8.same p np).trans hp7,sf,by omega⟩⟩) ?_
   rintro _ S8 ⟨ss,rfl,x8,hp8,sf,lss⟩
   obtain⟨nm,hnm,enm⟩:∃nm∈zs,atI (zs.map T.str) (4 - (n:Int))=some (.str nm):=Ni T.str (by omega) (by omega)
   have erv:zs.reverse[n]?=some nm:=by
    match zs,hz,enm with
    |[z0,z1,z2,z3,z4],_,enm =>
     have:n=0\/n=1\/n=2:=by omega
     rcases this with rfl|rfl|rfl
     ·exact congrArg (fun o:Option T=>match o with|some (.str x)=>some x|_=>none) enm
     ·exact congrArg (fun o:Option T=>match o with|some (.str x)=>some x|_=>none) enm
     ·exact congrArg (fun o:Option T=>match o with|some (.str x)=>some x|_=>none) enm
   refine⟨⟨_,hp8⟩,_,enm,Db (a:=a) (size:=size) now x8.sd (fun k hk=>hk) (fun z S A B sd hA=>⟨fun _=>⟨a,size,rfl,sd,by omega,fun r S' d' r0 r1=>⟨o2,hA r S' d' r0 r1⟩⟩,fun e=>(by cases e)⟩) fun os S9 d9 hn9 en9=>?_⟩
   refine⟨o3,_,(d9.same p np).trans hp8,by rw[List.length_map];exact Xo (by omega),ps++[(nm,os,ss)],_,_,_,rfl,⟨fun b c hb e=>?_,?_⟩,?_,?_,fun q hq=>?_,?_⟩
   ·have q:=(x8.dr d9).same b c hb e
    by_cases bp:b=p
    ·exact absurd (bp ▸ e) (h0p c)
    ·rw[A5 bp];exact q
   ·obtain⟨x,q⟩:=d9.sd
    exact⟨x,by rw[A5 (Ne.symm np)];exact q⟩
   ·rw[Zd,List.map_append];rfl
   ·rw[List.length_append,ln];rfl
   ·rcases List.mem_append.mp hq with z|z
    ·exact hps q z
    ·rw[List.mem_singleton.mp z]
     refine⟨ok nm hnm,?_,hn9,?_,lss,?_⟩
     ·have:=congrArg List.length en9
      rw[List.length_map] at this
      show os.length<=4
      omega
     ·show (os.map (·.1)).Nodup
      rw[en9];exact ndo
     ·show StepsF (os.map (·.1)) bx lk ss
      rw[en9];exact sf
   ·rw[List.map_append,en',List.take_add_one,erv];rfl
  ·rintro env S ⟨ps,e8,e9,e10,rfl,x6,hp6,ln,hps,en'⟩
   rw[Zh] at ln
   refine hk _ _ ⟨ps,e8,e9,e10,rfl,x6,hp6,by omega,by omega,hps,?_⟩
   rw[en']
   exact(List.pairwise_reverse.mpr (nd.imp Ne.symm)).sublist (List.take_sublist _ _)
 rintro _ S6 ⟨ps,e8,e9,e10,rfl,x6,hp6,lp1,lp3,hps,ndp⟩
 refine Zj (fun env S=>∃ws:List Int,env=el a most workers size zs bx lk (some (.ref p)) e8 e9 e10 (some (.lst (ws.map T.int))) none none/\Dx a S0 S/\S p=some (.lst (ps.map progT))/\1<=ws.length/\ws.length<=6/\∀x∈ws,0<=x/\x<ps.length) (fun k hk=>?_) ?_
 ·refine Km (fun ts S1=>∃n:Nat,ts=E9 n/\1<=n/\n<=6/\Dx a S0 S1/\S1 p=some (.lst (ps.map progT))) (fun k hk=>⟨a,workers,rfl,x6.sd,by omega,fun r S' d' r0 r1=>⟨by omega,by omega,hk _ _ ⟨(1+r).toNat,rfl,by omega,by omega,x6.dr d',(d'.same p np).trans hp6⟩⟩⟩) ?_
  rintro _ S1 ⟨n,rfl,n1,n6,y1,hq⟩
  refine⟨by rw[Zh];exact Xp (by omega),fun k acc S=>Dx a S0 S/\S p=some (.lst (ps.map progT))/\∃ws:List Int,acc=ws.map T.int/\ws.length=k/\∀x∈ws,0<=x/\x<ps.length,⟨y1,hq,[],rfl,rfl,fun _ z=>(by cases z)⟩,?_,?_⟩
  ·rintro k x acc S ek ⟨y2,hq2,ws,rfl,lw,hw⟩
   refine⟨fun _=>⟨_,hq2,a,_,rfl,y2.sd,?_,fun r S' d' r0 r1=>⟨y2.dr d',(d'.same p np).trans hq2,ws++[r],?_,?_,fun x hx=>?_⟩⟩,fun e=>(by cases e)⟩
   ·rw[List.length_map];omega
   ·rw[List.map_append];rfl
   ·rw[List.length_append,lw];rfl
   ·rcases List.mem_append.mp hx with z|z
    ·exact hw x z
    ·rw[List.mem_singleton.mp z]
     rw[List.length_map] at r1
     exact⟨r0,r1⟩
  ·rintro acc S ⟨y2,hq2,ws,rfl,lw,hw⟩
   rw[Zh] at lw
   exact hk _ _ ⟨ws,rfl,y2,hq2,by omega,by omega,hw⟩
 rintro _ S7 ⟨ws,rfl,x7,hp7,lw1,lw6,hws⟩
 refine Zj (fun env S=>∃ws:List Int,env=el a most workers size zs bx lk (some (.ref p)) e8 e9 e10 (some (.lst (ws.map T.int))) none none/\Dx a S0 S/\S p=some (.lst (ps.map progT))/\1<=ws.length/\ws.length<=6/\∀x∈ws,0<=x/\x<ps.length) (fun k hk=>⟨a,2,rfl,x7.sd,by decide,fun r S8 d8 _ _=>⟨fun _=>?_,fun _=>hk _ _ ⟨ws,rfl,x7.dr d8,(d8.same p np).trans hp7,lw1,lw6,hws⟩⟩⟩) ?_
 ·match ws,lw1,lw6,hws with
  |w0::wr,lw1,lw6,hws =>
   refine⟨_,at0,show 1<=sizeLine by decide,by omega,?_,by simp,?_⟩
   ·rw[List.length_map];omega
   ·rw[Ol]
    refine hk _ _ ⟨List.replicate (w0::wr).length w0,?_,x7.dr d8,(d8.same p np).trans hp7,by rw[List.length_replicate];exact lw1,by rw[List.length_replicate];exact lw6,fun x hx=>?_⟩
    ·rw[List.map_replicate]
     simp[el]
    ·rw[List.eq_of_mem_replicate hx]
     exact hws w0 List.mem_cons_self
 clear hws lw1 lw6 ws
 rintro _ S8 ⟨ws,rfl,x8,hp8,lw1,lw6,hws⟩
 refine Zj (fun env S=>∃(cs:List T) (e8':Option T),env=el a most workers size zs bx lk (some (.ref p)) e8 e9 e10 (some (.lst (ws.map T.int))) (some (.lst cs)) none/\Dx a S0 S/\S p=some (.lst (ps.map progT))/\cs.length<=1/\∀t∈cs,VF [] bx 5 t) (fun k hk=>?_) ?_
 ·refine Km (fun ts S1=>∃n:Nat,ts=E9 n/\n<=1/\Dx a S0 S1/\S1 p=some (.lst (ps.map progT))) (fun k hk=>⟨a,6,rfl,x8.sd,by decide,fun r S' d' r0 r1=>⟨⟨by decide,by decide⟩,by omega,by omega,hk _ _ ⟨(r / 3).toNat,rfl,by omega,x8.dr d',(d'.same p np).trans hp8⟩⟩⟩) ?_
  rintro _ S1 ⟨n,rfl,n1,y1,hq⟩
  refine⟨by rw[Zh];exact Xp (by omega),fun k acc S=>Dx a S0 S/\S p=some (.lst (ps.map progT))/\acc.length=k/\∀t∈acc,VF [] bx 5 t,⟨y1,hq,rfl,al_nil⟩,?_,?_⟩
  ·rintro k x acc S ek ⟨y2,hq2,la,ha⟩
   exact⟨fun _=>⟨show 0<=sizeLine by decide,1,by decide,a,[],bx,rfl,y2.sd,⟨by simp,fun _ z=>by cases z⟩,nbx,fun t S' d' vf=>⟨y2.dr d',(d'.same p np).trans hq2,by rw[List.length_append,la];rfl,Ap ha (Xd (vf.up (by omega)) al_nil)⟩⟩,fun e=>(by cases e)⟩
  ·rintro acc S ⟨y2,hq2,la,ha⟩
   rw[Zh] at la
   exact hk _ _ ⟨acc,none,rfl,y2,hq2,by omega,ha⟩
 rintro _ S9 ⟨cs,_,rfl,x9,hp9,lc,hcs⟩
 refine Zj (fun env S=>∃os:List (Str×Int),env=el a most workers size zs bx lk (some (.ref p)) e8 e9 e10 (some (.lst (ws.map T.int))) (some (.lst cs)) (some (.tup (os.map pairT)))/\Dx a S0 S/\S p=some (.lst (ps.map progT))/\Num size os/\os.map (·.1)=bx) (fun k hk=>Db (a:=a) (size:=size) nbx x9.sd (fun k hk=>hk) (fun z S A B sd hA=>⟨fun _=>⟨a,size,rfl,sd,by omega,fun r S' d' r0 r1=>⟨o2,hA r S' d' r0 r1⟩⟩,fun e=>(by cases e)⟩) fun os S' d' hn en=>hk _ _ ⟨os,rfl,x9.dr d',(d'.same p np).trans hp9,hn,en⟩) ?_
 rintro _ S10 ⟨os,rfl,x10,hp10,hno,eno⟩
 subst eno
 refine⟨_,hp10,show 6<=sizeLine by decide,h size os lk ps ws cs S10 x10 ⟨s2,s16,?_,hno,by omega,nlk.ok,nbl,lp1,by omega,hps,ndp,lw1,lw6,hws,by omega,hcs⟩⟩
 rw[List.length_map] at lbx
 omega
end
end K10
end
section
namespace K10
open PySem PySem.Spec PyProof.Rows L2 TL
seal UE UT UA US USs UI UG UO UW PTs Av uOr Ch Cd
theorem G7{l d n:Nat}(h:n<=l):HT.sIx l d (some (n:Int))=n:=by
 simp only[HT.sIx]
 rw[if_neg (by omega),Int.toNat_natCast]
 exact Nat.min_eq_left h
theorem Hn{α:Type}{zs:List α}{n:Nat}(h:n<=zs.length):cutA zs none (some (n:Int))=zs.take n:=by
 unfold cutA
 rw[G7 h]
 simp[HT.sIx]
theorem Ix{α:Type}{zs:List α}{n:Nat}(h:n<=zs.length):cutA zs (some (n:Int)) none=zs.drop n:=by
 unfold cutA
 rw[G7 h]
 exact List.take_of_length_le (by rw[List.length_drop];exact Nat.le_refl _)
theorem Vn{α:Type}{zs:List α}{n m:Nat}(h:n<=zs.length)(hm:m<=zs.length):cutA zs (some (n:Int)) (some (m:Int))=(zs.drop n).take (m - n):=by
 unfold cutA
 rw[G7 h,G7 hm]
section
variable{P:Program}{w:World}{K:PySem.W.Frag}{mg:Str->Option Value}{base:Heap}
def Te:List T->TH->UX->Prop:=fun ts S Pp=>∃a:Addr,ts=[.ref a]/\Sd S a/\∀size bs ls ps ws cs S',Dx a S S'->LV size bs ls ps ws cs->Pp (.tup (loomT size bs ls ps ws cs)) S'
theorem U4:Zv ["_law_state_here","_law_loom_here","_law_names_here","_law_size","_law_boxes","_law_owns","_law_programs_here","_law_k","_law_steps_here","_law_hands","_law_claims"] ["_law_state_here"] (Zb (top 57)):=⟨rfl,rfl,rfl,by decide +kernel,rfl,by decide +kernel,by decide +kernel⟩
theorem Pz{m:Nat}(N:Nm P w K mg)(d:Aa K mg "_law_great" ["_law_state_here"] (top 57))(c_law_next:Has P w K mg base m "_law_next" ["_law_state_here","_law_size"] Dc)(c_law_names:Has P w K mg base m "_law_names" ["_law_state_here","_law_amount"] Ll)(c_law_steps:Has P w K mg base m "_law_steps" ["_law_state_here","_law_owns","_law_boxes","_law_locks","_law_most"] Np)(c_law_value:Has P w K mg base m "_law_value" ["_law_state_here","_law_deep","_law_owns","_law_boxes"] (Kg 5))(c_law_loom:Has P w K mg base m "_law_loom" ["_law_state_here","_law_most","_law_workers"] X9):Has P w K mg base (m+1) "_law_great" ["_law_state_here"] Te:=by
 have sc:=U4
 refine Ag (k:=m) d sc (fun ts S Pp h=>?_) fun cdv f A outer s H E hr=>?_
 ·obtain⟨a,rfl,_⟩:=h;rfl
 have hu0:=Ar hr
 refine⟨_,(Zs (Zt 1 sc.nd (Zf c_law_loom hr rfl (Zc (uv 0) (Ab (Cs.i (Cs.i Cs.nil))))))
   (Zs (Zg (Cn (Zf c_law_next hr rfl (Zc (uv 0) (Zc Zi Zn))) Zi) (Zo (Zr (uv 1))) Ze)
   (Zs (Zt 2 sc.nd (Zf c_law_names hr rfl (Zc (uv 0) (Zc Zi Zn))))
   (Zs (Zt 3 sc.nd (Zx (uv 1) Zi))
   (Zs (Zt 4 sc.nd (Am rfl N.tuple (Zc (Xg 0 ["_law_name","_law_state_here","_law_size"] [none,some 0,some 3] rfl (Xu (Bp (uv 2) Af (Ad Zi))) (fun _ _ _ _ _=>Ak) (fun _ _ _ _ _=>(Zu (Zc (uv 0) (Zc (Zf c_law_next hr rfl (Zc (uv 1) (Zc (uv 2) Zn))) Zn))))) Zn)))
   (Zs (Zt 5 sc.nd (Zx (Ac (Zc (Bp (uv 2) (Ad Zi) (Ad Zi)) (Zc (Zf c_law_names hr rfl (Zc (uv 0) (Zc Zi Zn))) (Zc (Zp (Bp (uv 2) Af (Ad Zi)) (Bp (uv 2) (Ad Zi) Af)) Zn)))) (Zf c_law_next hr rfl (Zc (uv 0) (Zc Zi Zn)))))
   (Zs (Zt 6 sc.nd (Hi Zn))
   (Zs (C5 PassesOwn.never rfl (Aw rfl N.range (Zc Zi Zn)) (Ci 7 sc.nd) (Zs (Zt 8 sc.nd (Zf c_law_steps hr rfl (Zc (uv 0) (Zc (uv 5) (Zc (Bp (uv 2) Af (Ad Zi)) (Zc (Bp (uv 2) (Ad Zi) Af) (Zc Zi Zn)))))))
   (Zo (Ks (F9 (uv 6) (Zc (Zu (Zc (Zx (uv 2) (uv 7)) (Zc (Am rfl N.tuple (Zc (Xg 0 ["_law_own","_law_state_here","_law_size"] [none,some 0,some 3] rfl (Xu (uv 5)) (fun _ _ _ _ _=>Ak) (fun _ _ _ _ _=>(Zu (Zc (uv 0) (Zc (Zf c_law_next hr rfl (Zc (uv 1) (Zc (uv 2) Zn))) Zn))))) Zn)) (Zc (uv 8) Zn)))) Zn))))))
   (Zs (Zt 9 sc.nd (Am rfl N.tuple (Zc (Xg 0 ["_law_k","_law_state_here"] [none,some 0] rfl (Aw rfl N.range (Zc Zi Zn)) (fun _ _ _ _ _=>Ak) (fun _ _ _ _ _=>(Zf c_law_next hr rfl (Zc (uv 1) (Zc Zi Zn))))) Zn)))
   (Zs (Zt 10 sc.nd (Am rfl N.tuple (Zc (Xg 0 ["_law_k","_law_state_here","_law_names_here"] [none,some 0,some 2] rfl (Aw rfl N.range (Zc Zi Zn)) (fun _ _ _ _ _=>Ak) (fun _ _ _ _ _=>(Zf c_law_value hr rfl (Zc (uv 1) (Zc Zi (Zc (Ac Zn) (Zc (Bp (uv 2) Af (Ad Zi)) Zn))))))) Zn)))
   (Zo (Zr (Zu (Zc (uv 3) (Zc (uv 4) (Zc (Am rfl N.tuple (Zc (Bp (uv 2) (Ad Zi) Af) Zn)) (Zc (Am rfl N.tuple (Zc (uv 6) Zn)) (Zc (uv 9) (Zc (uv 10) Zn))))))))))))))))))),fun ts S0 Pp h=>?_⟩
 obtain⟨a,rfl,hs,h⟩:=h
 have o2:2<=sizeLine:=by decide
 have o3:3<=sizeLine:=by decide
 refine Zj (fun env S=>∃(size:Int) (r:List T),env=[some (.ref a),some (.tup (.int size::r)),none,none,none,none,none,none,none,none,none]/\Dx a S0 S/\2<=size/\size<=16/\∀S',Dx a S0 S'->Pp (.tup (.int size::r)) S') (fun k hk=>⟨a,30,6,rfl,hs,by decide,by decide,by decide,by decide,fun size bs ls ps ws cs S1 x1 v=>hk _ _ ⟨size,_,rfl,x1,v.s2,v.s16,fun S' x=>h size bs ls ps ws cs S' x v⟩⟩) ?_
 rintro _ S1 ⟨size,r,rfl,x1,s2,s16,h1⟩
 refine Zj (fun env S=>env=[some (.ref a),some (.tup (.int size::r)),none,none,none,none,none,none,none,none,none]/\Dx a S0 S) (fun k hk=>⟨a,4,rfl,x1.sd,by decide,fun q S2 d2 _ _=>⟨fun _=>h1 _ (x1.dr d2),fun _=>hk _ _ ⟨rfl,x1.dr d2⟩⟩⟩) ?_
 rintro _ S2 ⟨rfl,x2⟩
 clear x1 h1
 refine Zj (fun env S=>∃zs:List Str,env=[some (.ref a),some (.tup (.int size::r)),some (.lst (zs.map T.str)),none,none,none,none,none,none,none,none]/\Dx a S0 S/\zs.length=12/\(∀z∈zs,Zw z=true)/\zs.Nodup) (fun k hk=>⟨a,12,rfl,x2.sd,by decide,fun zs S3 d3 hz ok nd=>hk _ _ ⟨zs,rfl,x2.dr d3,hz,ok,nd⟩⟩) ?_
 rintro _ S3 ⟨zs,rfl,x3,hz,ok,nd⟩
 refine Zj (fun env S=>env=[some (.ref a),some (.tup (.int size::r)),some (.lst (zs.map T.str)),some (.int size),none,none,none,none,none,none,none]/\S3=S) (fun k hk=>⟨_,at0,hk _ _ ⟨rfl,rfl⟩⟩) ?_
 rintro _ _ ⟨rfl,rfl⟩
 have nz:Nms zs:=⟨by omega,ok⟩
 let b8:=cutA zs none (some 8)
 let l4:=cutA zs (some 8) none
 have e8:b8=zs.take 8:=Hn (n:=8) (by omega)
 have e4:l4=zs.drop 8:=Ix (n:=8) (by omega)
 have m8:cutA (zs.map T.str) none (some 8)=b8.map T.str:=Ck _ _ _ _
 have m4:cutA (zs.map T.str) (some 8) none=l4.map T.str:=Ck _ _ _ _
 have nb8:Nms b8:=nz.cut _ _
 have nl4:Nms l4:=nz.cut _ _
 have len8:b8.length=8:=by rw[e8,List.length_take];omega
 have len4:l4.length=4:=by rw[e4,List.length_drop];omega
 have nbl:(b8++l4).Nodup:=by rw[e8,e4,List.take_append_drop];exact nd
 clear_value b8 l4
 refine Zj (fun env S=>∃bs:List (Str×Int),env=[some (.ref a),some (.tup (.int size::r)),some (.lst (zs.map T.str)),some (.int size),some (.tup (bs.map pairT)),none,none,none,none,none,none]/\Dx a S0 S/\Num size bs/\bs.map (·.1)=b8) (fun k hk=>Db (a:=a) (size:=size) nb8 x3.sd (fun k hk=>?_) (fun z S A B sd hA=>⟨fun _=>⟨a,size,rfl,sd,by omega,fun r S' d' r0 r1=>⟨o2,hA r S' d' r0 r1⟩⟩,fun e=>(by cases e)⟩) fun os S' d' hn en=>hk _ _ ⟨os,rfl,x3.dr d',hn,en⟩) ?_
 ·show k (cutA (zs.map T.str) none (some 8)) _
  rw[m8];exact hk
 rintro _ S4 ⟨bs,rfl,x4,hbs,ebs⟩
 refine Zj (fun env S=>∃ow:List Str,env=[some (.ref a),some (.tup (.int size::r)),some (.lst (zs.map T.str)),some (.int size),some (.tup (bs.map pairT)),some (.lst (ow.map T.str)),none,none,none,none,none]/\Dx a S0 S/\Nms ow/\ow.Nodup/\ow.length<=4) (fun k hk=>⟨a,4,rfl,x4.sd,by decide,fun z4 S5 d5 l5 k5 n5=>⟨?_,o3,a,3,rfl,d5.sd,by decide,fun q S6 d6 q0 q1=>?_⟩⟩) ?_
 ·show (cutA (zs.map T.str) none (some 2)).length+(cutA (zs.map T.str) (some 10) none).length<=sizeLine
  rw[Ck,Ck,List.length_map,List.length_map]
  exact Xp (by have:=As zs none (some 2);have:=As zs (some 10) none;omega)
 ·have:q=0\/q=1\/q=2:=by omega
  have x6:=(x4.dr d5).dr d6
  rcases this with rfl|rfl|rfl
  ·have e:cutA zs (some 5) (some 9)=(zs.drop 5).take 4:=Vn (n:=5) (m:=9) (by omega) (by omega)
   refine⟨.lst (cutA (zs.map T.str) (some 5) (some 9)),rfl,hk _ _ ⟨cutA zs (some 5) (some 9),by rw[<-Ck];rfl,x6,nz.cut _ _,?_,?_⟩⟩
   ·rw[e];exact nd.sublist ((List.take_sublist _ _).trans (List.drop_sublist _ _))
   ·rw[e,List.length_take];omega
  ·exact⟨.lst (z4.map T.str),rfl,hk _ _ ⟨z4,rfl,x6,⟨by omega,k5⟩,n5,by omega⟩⟩
  ·have e:cutA zs none (some 2)=zs.take 2:=Hn (n:=2) (by omega)
   have e':cutA zs (some 10) none=zs.drop 10:=Ix (n:=10) (by omega)
   refine⟨.lst (cutA (zs.map T.str) none (some 2)++cutA (zs.map T.str) (some 10) none),rfl,hk _ _ ⟨zs.take 2++zs.drop 10,?_,x6,⟨?_,fun z hz'=>?_⟩,?_,?_⟩⟩
   ·rw[Ck,Ck,e,e',List.map_append];rfl
   ·rw[List.length_append,List.length_take,List.length_drop];omega
   ·rcases List.mem_append.mp hz' with q|q
    ·exact ok z (List.mem_of_mem_take q)
    ·exact ok z (List.mem_of_mem_drop q)
   ·have q:(zs.take 2++zs.drop 10).Sublist (zs.take 2++zs.drop 2):=List.Sublist.append_left (by
     have:=List.drop_sublist 8 (zs.drop 2)
     rw[List.drop_drop] at this
     exact this) _
    rw[List.take_append_drop] at q
    exact nd.sublist q
   ·rw[List.length_append,List.length_take,List.length_drop];omega
 rintro _ S5 ⟨ow,rfl,x5,now,ndo,lo⟩
 let ev:=fun (e6 e7 e8 e9 e10:Option T)=>([some (.ref a),some (.tup (.int size::r)),some (.lst (zs.map T.str)),some (.int size),some (.tup (bs.map pairT)),some (.lst (ow.map T.str)),e6,e7,e8,e9,e10]:Ev)
 refine Zj (fun env S=>∃p:Addr,env=ev (some (.ref p)) none none none none/\Dx a S0 S/\S p=some (.lst [])/\p≠a/\∀c,¬ S0 p=some c) (fun k hk=>⟨show 0<=sizeLine by decide,fun p hp=>?_⟩) ?_
 ·have np:p≠a:=fun z=>by obtain⟨x,q⟩:=x5.sd;rw[z,q] at hp;cases hp
  refine hk _ _ ⟨p,rfl,⟨fun b c hb e=>?_,?_⟩,Zd,np,fun c e=>by rw[x5.same p c np e] at hp;cases hp⟩
  ·have q:=x5.same b c hb e
   rw[A5 (fun z=>by rw[z,hp] at q;cases q)]
   exact q
  ·obtain⟨x,q⟩:=x5.sd
   exact⟨x,by rw[A5 (Ne.symm np)];exact q⟩
 rintro _ S6 ⟨p,rfl,x6,hp6,np,h0p⟩
 refine Zj (fun env S=>∃(ps:List Prg) (e7 e8:Option T),env=ev (some (.ref p)) e7 e8 none none/\Dx a S0 S/\S p=some (.lst (ps.map progT))/\ps.length=4/\(∀q∈ps,PV size b8 l4 q)/\(ps.map (·.1)).Nodup) (fun k hk=>⟨by decide,by decide,?_⟩) ?_
 ·refine⟨fun n env S=>∃(ps:List Prg) (e7 e8:Option T),env=ev (some (.ref p)) e7 e8 none none/\Dx a S0 S/\S p=some (.lst (ps.map progT))/\ps.length=n/\(∀q∈ps,PV size b8 l4 q)/\ps.map (·.1)=zs.take n,⟨[],none,none,rfl,x6,hp6,rfl,(fun _ z=>by cases z),rfl⟩,?_,?_⟩
  ·rintro n x env S en ⟨ps,e7,e8,rfl,x7,hp7,ln,hps,en'⟩
   have hn:n<4:=by
    have:=(List.getElem?_eq_some_iff.mp en).1
    rw[Zh] at this
    exact this
   have en:(E9 4)[n]?=some x:=en
   rw[Cq hn] at en
   cases en
   refine Zj (fun env S=>∃ss:List T,env=ev (some (.ref p)) (some (.int n)) (some (.tup ss)) none none/\Dx a S0 S/\S p=some (.lst (ps.map progT))/\StepsF ow b8 l4 ss/\ss.length<=30) (fun k hk=>⟨a,ow,b8,l4,30,?_,x7.sd,now,nb8,nl4,by decide,by decide,fun ss S8 d8 sf ls=>hk _ _ ⟨ss,rfl,x7.dr d8,(d8.same p np).trans hp7,sf,by omega⟩⟩) ?_
   ·show [T.ref a,T.lst (ow.map T.str),T.lst (cutA (zs.map T.str) none (some 8)),T.lst (cutA (zs.map T.str) (some 8) none),T.int 30]=_
    rw[m8,m4]
   rintro _ S8 ⟨ss,rfl,x8,hp8,sf,lss⟩
   have hnz:n<zs.length:=by omega
   have enm:atI (zs.map T.str) (n:Int)=some (.str zs[n]):=Xb (by rw[List.getElem?_map,List.getElem?_eq_getElem hnz];rfl)
   refine⟨⟨_,hp8⟩,_,enm,Db (a:=a) (size:=size) now x8.sd (fun k hk=>hk) (fun z S A B sd hA=>⟨fun _=>⟨a,size,rfl,sd,by omega,fun r S' d' r0 r1=>⟨o2,hA r S' d' r0 r1⟩⟩,fun e=>(by cases e)⟩) fun os S9 d9 hn9 en9=>?_⟩
   refine⟨o3,_,(d9.same p np).trans hp8,by rw[List.length_map];exact Xo (by omega),ps++[(zs[n],os,ss)],_,_,rfl,⟨fun b c hb e=>?_,?_⟩,?_,?_,fun q hq=>?_,?_⟩
   ·have q:=(x8.dr d9).same b c hb e
    by_cases bp:b=p
    ·exact absurd (bp ▸ e) (h0p c)
    ·rw[A5 bp];exact q
   ·obtain⟨x,q⟩:=d9.sd
    exact⟨x,by rw[A5 (Ne.symm np)];exact q⟩
   ·rw[Zd,List.map_append];rfl
   ·rw[List.length_append,ln];rfl
   ·rcases List.mem_append.mp hq with z|z
    ·exact hps q z
    ·rw[List.mem_singleton.mp z]
     refine⟨ok _ (List.getElem_mem hnz),?_,hn9,?_,lss,?_⟩
     ·have:=congrArg List.length en9
      rw[List.length_map] at this
      show os.length<=4
      omega
     ·show (os.map (·.1)).Nodup
      rw[en9];exact ndo
     ·show StepsF (os.map (·.1)) b8 l4 ss
      rw[en9];exact sf
   ·rw[List.map_append,en',List.take_add_one,List.getElem?_eq_getElem hnz];rfl
  ·rintro env S ⟨ps,e7,e8,rfl,x7,hp7,ln,hps,en'⟩
   rw[Zh] at ln
   refine hk _ _ ⟨ps,e7,e8,rfl,x7,hp7,ln,hps,?_⟩
   rw[en']
   exact nd.sublist (List.take_sublist _ _)
 rintro _ S7 ⟨ps,e7,e8',rfl,x7,hp7,lp,hps,ndp⟩
 refine Zj (fun env S=>∃ws:List Int,env=ev (some (.ref p)) e7 e8' (some (.tup (ws.map T.int))) none/\Dx a S0 S/\S p=some (.lst (ps.map progT))/\ws.length=6/\∀x∈ws,0<=x/\x<4) (fun k hk=>?_) ?_
 ·refine Co (E9 6) (fun k acc S=>Dx a S0 S/\S p=some (.lst (ps.map progT))/\∃ws:List Int,acc=ws.map T.int/\ws.length=k/\∀x∈ws,0<=x/\x<4) (fun k hk=>⟨by decide,by decide,hk⟩) (by rw[Zh];decide) ⟨x7,hp7,[],rfl,rfl,fun _ z=>(by cases z)⟩ ?_ ?_
  ·rintro k x acc S ek ⟨y2,hq2,ws,rfl,lw,hw⟩
   refine⟨fun _=>⟨a,4,rfl,y2.sd,by decide,fun r S' d' r0 r1=>⟨y2.dr d',(d'.same p np).trans hq2,ws++[r],?_,?_,fun x hx=>?_⟩⟩,fun e=>(by cases e)⟩
   ·rw[List.map_append];rfl
   ·rw[List.length_append,lw];rfl
   ·rcases List.mem_append.mp hx with z|z
    ·exact hw x z
    ·rw[List.mem_singleton.mp z];exact⟨r0,r1⟩
  ·rintro acc S ⟨y2,hq2,ws,rfl,lw,hw⟩
   rw[Zh] at lw
   exact hk _ _ ⟨ws,rfl,y2,hq2,lw,hw⟩
 rintro _ S8 ⟨ws,rfl,x8,hp8,lw,hws⟩
 refine Zj (fun env S=>∃cs:List T,env=ev (some (.ref p)) e7 e8' (some (.tup (ws.map T.int))) (some (.tup cs))/\Dx a S0 S/\S p=some (.lst (ps.map progT))/\cs.length=4/\∀t∈cs,VF [] b8 5 t) (fun k hk=>?_) ?_
 ·refine Co (E9 4) (fun k acc S=>Dx a S0 S/\S p=some (.lst (ps.map progT))/\acc.length=k/\∀t∈acc,VF [] b8 5 t) (fun k hk=>⟨by decide,by decide,hk⟩) (by rw[Zh];decide) ⟨x8,hp8,rfl,al_nil⟩ ?_ ?_
  ·rintro k x acc S ek ⟨y2,hq2,la,ha⟩
   refine⟨fun _=>⟨show 0<=sizeLine by decide,4,by decide,a,[],b8,?_,y2.sd,⟨by simp,fun _ z=>by cases z⟩,nb8,fun t S' d' vf=>⟨y2.dr d',(d'.same p np).trans hq2,by rw[List.length_append,la];rfl,Ap ha (Xd vf al_nil)⟩⟩,fun e=>(by cases e)⟩
   show [T.ref a,T.int 5,T.lst [],T.lst (cutA (zs.map T.str) none (some 8))]=_
   rw[m8];rfl
  ·rintro acc S ⟨y2,hq2,la,ha⟩
   rw[Zh] at la
   exact hk _ _ ⟨acc,rfl,y2,hq2,la,ha⟩
 rintro _ S9 ⟨cs,rfl,x9,hp9,lc,hcs⟩
 subst ebs
 refine⟨_,hp9,show 6<=sizeLine by decide,?_⟩
 show Pp (.tup [.int size,.tup (bs.map pairT),.tup (cutA (zs.map T.str) (some 8) none),.tup (ps.map progT),.tup (ws.map T.int),.tup cs]) S9
 rw[m4]
 rw[List.length_map] at len8
 exact h size bs l4 ps ws cs S9 x9 ⟨s2,s16,by omega,hbs,by omega,nl4.ok,nbl,by omega,by omega,hps,ndp,by omega,by omega,fun x hx=>⟨(hws x hx).1,by have:=(hws x hx).2;omega⟩,by omega,hcs⟩
end
end K10
end
section
namespace K10
open PySem PySem.Spec PyProof.Rows L2 TL
seal UE UT UA US USs UI UG UO UW PTs Av
section
variable{P:Program}{w:World}{K:PySem.W.Frag}{mg:Str->Option Value}{base:Heap}
theorem Vm:Zv ["_law_thing","_law_least","_law_limit"] ["_law_thing","_law_least","_law_limit"] (Zb (top 58)):=⟨rfl,rfl,rfl,by decide +kernel,rfl,by decide +kernel,by decide +kernel⟩
theorem Qg(N:Nm P w K mg)(d:Aa K mg "_law_whole" ["_law_thing","_law_least","_law_limit"] (top 58)):Has P w K mg base 1 "_law_whole" ["_law_thing","_law_least","_law_limit"] Bs:=by
 have sc:=Vm
 refine Ag (k:=0) d sc (fun ts S Pp h=>?_) fun cdv f A outer s H E hr=>?_
 ·obtain⟨x,lo,hi,rfl,_⟩:=h;rfl
 refine⟨_,(Zo (Zr (Bf (A9 rfl N.isinstance (Zc (uv 0) (Zc (Xv rfl N.int boot_int) Zn))) (Bf (Y1 (A9 rfl N.isinstance (Zc (uv 0) (Zc (Xv rfl N.bool boot_bool) Zn)))) (B1 (C7 (uv 1) (uv 0) (uv 2))))))),fun ts S Pp h=>?_⟩
 obtain⟨x,lo,hi,rfl,px,h⟩:=h
 cases px with
 |int i =>
  and_intros
  exact⟨fun e=>by rw[A7,e,Bool.true_and] at h;exact h,fun e=>by rw[A7,e,Bool.false_and] at h;exact h⟩
 |_=>and_intros;exact h
theorem L6(c:Nat):Txt.find abc ⟨#[c]⟩<0 ↔ ¬ (97<=c/\c<=122):=by
 have hm:c∈abc.cps.toList ↔ 97<=c/\c<=122:=by
  rw[Fk]
  simp only[List.mem_cons,List.not_mem_nil,or_false]
  omega
 rw[<-hm,mem_iff_at]
 rcases find_whole abc ⟨#[c]⟩ with⟨e,n⟩|⟨i,e,ha,_⟩
 ·rw[e]
  exact⟨fun _ ⟨i,q⟩=>n i q,fun _=>by decide⟩
 ·rw[e]
  exact⟨fun q=>by omega,fun q=>absurd ⟨i,ha⟩ q⟩
theorem Vw:Zv ["_law_thing"] ["_law_thing"] (Zb (top 59)):=⟨rfl,rfl,rfl,by decide +kernel,rfl,by decide +kernel,by decide +kernel⟩
def Qd:T->Option T
 | .str x=>if x.cps.toList.all fun (c:Nat)=>decide (97<=c)&&decide (c<=122) then none else some (.str x)
 |_=>none
theorem Ps(x:Str):((B0 x).filterMap Qd).isEmpty=x.cps.toList.all fun (c:Nat)=>decide (97<=c)&&decide (c<=122):=by
 unfold B0
 generalize x.cps.toList=cs
 induction cs with
 |nil=>rfl
 |cons c r ih =>
  rw[List.map_cons,List.filterMap_cons,List.all_cons,<-ih]
  have e:Qd (.str ⟨#[c]⟩)=if decide (97<=c)&&decide (c<=122) then none else some (.str ⟨#[c]⟩):=by simp[Qd]
  rw[e]
  cases decide (97<=c)&&decide (c<=122) with
  |true=>simp
  |false=>simp
theorem Mx(N:Nm P w K mg)(d:Aa K mg "_law_is_name" ["_law_thing"] (top 59)):Has P w K mg base 1 "_law_is_name" ["_law_thing"] Fs:=by
 have sc:=Vw
 refine Ag (k:=0) d sc (fun ts S Pp h=>?_) fun cdv f A outer s H E hr=>?_
 ·obtain⟨x,rfl,_⟩:=h;rfl
 have hu0:=Ar hr
 refine⟨_,(Zs (Zg (UW.ut (Bg (Ae (Xe (A9 rfl N.isinstance (Zc (uv 0) (Zc (Xv rfl N.str boot_str) Zn))))) (Bg (Xf hu0 (uv 0) Zq) (Xs (Cn (Zl rfl N.len (Zc (uv 0) Zn)) Zi))))) (Zo (Zr Az)) Ze)
   (Zo (Zr (Fv hu0 (Xg 0 ["_law_sign"] [none] rfl (Xu (uv 0)) (fun _ _ _ _ _=>Dw (Eb (U7 Zq (Zc (uv 0) Zn)) Zi)) (fun _ _ _ _ _=>(uv 0))) (Ac Zn))))),fun ts S Pp h=>?_⟩
 obtain⟨x,rfl,px,h⟩:=h
 cases px with
 |str hx =>
  rename_i x
  and_intros
  have hlen:x="" ↔ x.length=0:=by
   constructor
   ·intro e;rw[e];rfl
   ·intro e
    have:x.cps=#[]:=Array.eq_empty_of_size_eq_zero e
    cases x
    cases this
    rfl
  refine⟨fun e1=>?_,fun e1=>⟨hx,fun e2=>?_,fun e2=>?_⟩⟩
  ·have e:isName (.str x)=false:=by
    have:=hlen.mp (of_decide_eq_true e1)
    simp only[isName,Zw]
    rw[decide_eq_false (show ¬ 1<=x.length by omega)]
    simp
   rw[e] at h
   exact h
  ·have e:isName (.str x)=false:=by
    have:(8:Int)<x.length:=by simpa using e2
    simp only[isName,Zw]
    rw[decide_eq_false (show ¬ x.length<=8 by omega)]
    simp
   rw[e] at h
   exact h
  ·have h1:¬ x.length=0:=fun q=>of_decide_eq_false e1 (hlen.mpr q)
   have h2:(x.length:Int)<=8:=by simpa using e2
   have e:isName (.str x)=x.cps.toList.all fun (c:Nat)=>decide (97<=c)&&decide (c<=122):=by
    simp only[isName,Zw]
    rw[decide_eq_true (show 1<=x.length by omega),decide_eq_true (show x.length<=8 by omega)]
    simp
   refine Ay (ts:=B0 x) (f:=Qd) (fun k hk=>hk) (by rw[Ex];exact hx) (fun y hy A B hA hB=>?_) ?_
   ·obtain⟨c,_,rfl⟩:=List.mem_map.mp hy
    have eb:Qd (.str ⟨#[c]⟩)=if decide (97<=c)&&decide (c<=122) then none else some (.str ⟨#[c]⟩):=by simp[Qd]
    refine⟨fun q=>?_,fun q=>?_⟩
    ·have q1:=(L6 c).mp (of_decide_eq_true q)
     refine hA _ ?_
     rw[eb,if_neg (by simpa using q1)]
    ·have q1:97<=c/\c<=122:=Classical.byContradiction fun z=>of_decide_eq_false q ((L6 c).mpr z)
     refine hB ?_
     rw[eb,if_pos (by simpa using q1)]
   ·rw[e,<-Ps] at h
    exact⟨Nat.zero_le _,h⟩
 |_=>and_intros;exact h
def Kv:List T->TH->UX->Prop:=fun ts S Pp=>∃x zs,ts=[x,.lst (zs.map T.str)]/\Pl x/\zs.length<=100/\Pp (.bl (inS zs x)) S
def Fo(x:Str):T->Option T
 | .str z=>if z=x then some (.str z) else none
 |_=>none
theorem N9(x:Str)(zs:List Str):(!((zs.map T.str).filterMap (Fo x)).isEmpty)=decide (x∈zs):=by
 induction zs with
 |nil=>rfl
 |cons z r ih =>
  rw[List.map_cons,List.filterMap_cons]
  by_cases q:z=x
  ·rw[show Fo x (.str z)=some (.str z) by simp[Fo,q]]
   simp[q]
  ·rw[show Fo x (.str z)=none by simp[Fo,q]]
   dsimp only
   rw[ih]
   simp[Ne.symm q]
theorem U3:Zv ["_law_thing","_law_names_here"] ["_law_thing","_law_names_here"] (Zb (top 60)):=⟨rfl,rfl,rfl,by decide +kernel,rfl,by decide +kernel,by decide +kernel⟩
theorem Rg(N:Nm P w K mg)(d:Aa K mg "_law_among" ["_law_thing","_law_names_here"] (top 60)):Has P w K mg base 1 "_law_among" ["_law_thing","_law_names_here"] Kv:=by
 have sc:=U3
 refine Ag (k:=0) d sc (fun ts S Pp h=>?_) fun cdv f A outer s H E hr=>?_
 ·obtain⟨x,zs,rfl,_⟩:=h;rfl
 have hu0:=Ar hr
 refine⟨_,(Zo (Zr (Bf (A9 rfl N.isinstance (Zc (uv 0) (Zc (Xv rfl N.str boot_str) Zn))) (B1 (ue_ne hu0 (Xg 0 ["_law_name","_law_thing"] [none,some 0] rfl (Xu (uv 1)) (fun _ _ _ _ _=>Dw (Xf hu0 (uv 0) (uv 1))) (fun _ _ _ _ _=>(uv 0))) (Ac Zn)))))),fun ts S Pp h=>?_⟩
 obtain⟨x,zs,rfl,px,few,h⟩:=h
 cases px with
 |str hx =>
  rename_i x
  refine⟨by decide,fun _=>?_,fun e=>by cases e⟩
  refine Ay (ts:=zs.map T.str) (f:=Fo x) (fun k hk=>hk) (by rw[List.length_map];exact Xp (by omega)) (fun y hy A B hA hB=>?_) ?_
  ·obtain⟨z,_,rfl⟩:=List.mem_map.mp hy
   refine⟨fun q=>hA _ ?_,fun q=>hB ?_⟩
   ·have:z=x:=by simpa using q
    simp[Fo,this]
   ·have:¬ z=x:=by simpa using q
    simp[Fo,this]
  ·refine⟨by decide,?_⟩
   show Pp (.bl (Bool.xor true ((zs.map T.str).filterMap (Fo x)).isEmpty)) S
   rw[Bool.true_xor,N9]
   exact h
 |_=>and_intros;exact h
end
end K10
end
section
namespace K10
open PySem PySem.Spec PyProof.Rows L2 TL
seal UE UT UA US USs UI UG UO UW PTs Av
section
variable{P:Program}{w:World}{K:PySem.W.Frag}{mg:Str->Option Value}{base:Heap}
def Mp(n:Nat):List T->TH->UX->Prop:=fun ts S Pp=>∃x ow bx,ts=[x,.lst (ow.map T.str),.lst (bx.map T.str),.int (n:Int)]/\Pl x/\Nms ow/\Nms bx/\Pp (.bl (valOk n ow bx x)) S
theorem Qe{wd:Str}{ks:List Str}(h:kindsOf wd=some ks):0<ks.length:=by
 unfold kindsOf at h
 cases e:kindTab.find? fun p=>decide (p.1=wd) with
 |none=>rw[e] at h;cases h
 |some p =>
  rw[e] at h
  cases h
  have m:=List.mem_of_find?_eq_some e
  have all:∀q∈kindTab,0<q.2.length:=by decide
  exact all p m
theorem Vr{j:Nat}{ow bx:List Str}{ts:List T}(h:ts.length<2):valOk (j+1) ow bx (.tup ts)=false:=by
 cases ts with
 |nil=>rfl
 |cons t r =>
  cases r with
  |cons a b=>simp only[List.length_cons] at h;omega
  |nil =>
   cases t with
   |str wd =>
    cases hk:kindsOf wd with
    |none=>simp only[valOk,hk]
    |some ks =>
     simp only[valOk,hk]
     rw[decide_eq_false (show ¬ ([]:List T).length=ks.length by have:=Qe hk;simp;omega)]
     rfl
   |_=>rfl
theorem v_is{j:Nat}{ow bx:List Str}{wd:Str}{r:List T}{ks:List Str}(hk:kindsOf wd=some ks):valOk (j+1) ow bx (.tup (.str wd::r))=(decide (r.length=ks.length)&&(List.zipWith (fun x k=>Ba (valOk j ow bx) ow bx k x) r ks).all id):=by simp only[valOk,hk]
theorem Y4{j:Nat}{ow bx:List Str}{wd:Str}{r:List T}(hk:kindsOf wd=none):valOk (j+1) ow bx (.tup (.str wd::r))=false:=by simp only[valOk,hk]
theorem Mz{zs:List Str}(h:Nms zs)(x:T):(isName x&&inS zs x)=inS zs x:=by
 cases x with
 |str z =>
  cases e:inS zs (.str z) with
  |false=>simp
  |true =>
   have:z∈zs:=by simpa [inS] using e
   simp[isName,h.ok z this]
 |_=>rfl
theorem Rm{j:Nat}{ow bx:List Str}{wd kd:Str}{y:T}{r:List T}(hk:kindsOf wd=some [kd]):valOk (j+1) ow bx (.tup (.str wd::y::r))=(decide (r=[])&&Ba (valOk j ow bx) ow bx kd y):=by
 rw[v_is hk]
 cases r with
 |nil=>simp
 |cons a b=>simp
def Fy(n:Nat)(ow bx:List Str)(x:T):Option T:=if valOk n ow bx x then none else some x
theorem Q9(n:Nat)(ow bx:List Str)(ts:List T):(ts.filterMap (Fy n ow bx)).isEmpty=ts.all (valOk n ow bx):=by
 induction ts with
 |nil=>rfl
 |cons t r ih =>
  rw[List.filterMap_cons,List.all_cons,<-ih]
  cases e:valOk n ow bx t with
  |true=>rw[show Fy n ow bx t=none by simp[Fy,e]];simp
  |false=>rw[show Fy n ow bx t=some t by simp[Fy,e]];simp
theorem Yt:Zv ["_law_thing","_law_owns","_law_boxes","_law_deep"] ["_law_thing","_law_owns","_law_boxes","_law_deep"] (Zb (top 61)):=⟨rfl,rfl,rfl,by decide +kernel,rfl,by decide +kernel,by decide +kernel⟩
theorem Ey{n m:Nat}{tp:List T->TH->UX->Prop}(hm:1<=m)(N:Nm P w K mg)(d:Aa K mg "_law_is_value" ["_law_thing","_law_owns","_law_boxes","_law_deep"] (top 61))(c_law_whole:Has P w K mg base 1 "_law_whole" ["_law_thing","_law_least","_law_limit"] Bs)
  (c_law_among:Has P w K mg base 1 "_law_among" ["_law_thing","_law_names_here"] Kv)
  (c_law_is_value:Has P w K mg base m "_law_is_value" ["_law_thing","_law_owns","_law_boxes","_law_deep"] tp) (ht:n=0\/∃j,n=j+1/\tp=Mp j):Has P w K mg base (m+1) "_law_is_value" ["_law_thing","_law_owns","_law_boxes","_law_deep"] (Mp n):=by
 have sc:=Yt
 have c_law_whole:=c_law_whole.mono hm
 have c_law_among:=c_law_among.mono hm
 refine Ag (k:=m) d sc (fun ts S Pp h=>?_) fun cdv f A outer s H E hr=>?_
 ·obtain⟨x,ow,bx,rfl,_⟩:=h;rfl
 have hu0:=Ar hr
 refine⟨_,(Zs (Zg (UW.ut (Bg (Xf hu0 (uv 3) Zi) (Bg (Ae (Xe (A9 rfl N.isinstance (Zc (uv 0) (Zc (Xv rfl N.tuple boot_tuple) Zn))))) (Bg (Eb (Zl rfl N.len (Zc (uv 0) Zn)) Zi) (Xs (Ae (Xe (A9 rfl N.isinstance (Zc (Zx (uv 0) Zi) (Zc (Xv rfl N.str boot_str) Zn)))))))))) (Zo (Zr Az)) Ze)
   (Zs (Zg (Xf hu0 (Zx (uv 0) Zi) Zq) (Zo (Zr (Bf (Fv hu0 (Zl rfl N.len (Zc (uv 0) Zn)) Zi) (B1 (Zf c_law_whole hr rfl (Zc (Zx (uv 0) Zi) (Ab (Cs.i (Cs.i Cs.nil))))))))) Ze)
   (Zs (Zg (Xf hu0 (Zx (uv 0) Zi) Zq) (Zo (Zr (Bf (Fv hu0 (Zl rfl N.len (Zc (uv 0) Zn)) Zi) (B1 (Zf c_law_among hr rfl (Zc (Zx (uv 0) Zi) (Zc (uv 1) Zn))))))) Ze)
   (Zs (Zg (Xf hu0 (Zx (uv 0) Zi) Zq) (Zo (Zr (Bf (Fv hu0 (Zl rfl N.len (Zc (uv 0) Zn)) Zi) (B1 (Zf c_law_among hr rfl (Zc (Zx (uv 0) Zi) (Zc (uv 2) Zn))))))) Ze)
   (Zs (Zg (Ri (Zx (uv 0) Zi) (Zu (Ab (Cs.s (Cs.s (Cs.s (Cs.s (Cs.s Cs.nil)))))))) (Zo (Zr Az)) Ze)
   (Zs (Zg (Jy hu0 (Zl rfl N.len (Zc (uv 0) Zn)) (A8 Zi (Cj rfl N.int (Zc (Fv hu0 (Zx (uv 0) Zi) Zq) Zn)))) (Zo (Zr Az)) Ze)
   (Zo (Zr (Fv hu0 (Xg 0 ["_law_part","_law_owns","_law_boxes","_law_deep"] [none,some 1,some 2,some 3] rfl (Xu (Bp (uv 0) (Ad Zi) Af)) (fun _ _ _ _ _=>Dw (Ae (Xe (Zf c_law_is_value hr rfl (Zc (uv 0) (Zc (uv 1) (Zc (uv 2) (Zc (A8 (uv 3) Zi) Zn)))))))) (fun _ _ _ _ _=>(uv 0))) (Ac Zn)))))))))),fun ts S Pp h=>?_⟩
 obtain⟨x,ow,bx,rfl,px,now,nbx,h⟩:=h
 rcases ht with rfl|⟨j,rfl,rfl⟩
 ·exact⟨fun _=>⟨fun _=>h,fun z=>by cases z⟩,fun e=>absurd e (by decide)⟩
 have nz:¬ ((j+1:Nat):Int)=0:=by omega
 refine⟨fun e=>absurd (show decide (((j+1:Nat):Int)=0)=true by simpa using e) (by simpa using nz),fun _=>?_⟩
 cases px with
 |tup pts =>
  rename_i ts
  refine⟨by decide,fun e=>absurd e (by decide),fun _=>⟨fun e=>?_,fun e=>?_⟩⟩
  ·rw[Vr (by have:=of_decide_eq_true e;omega)] at h
   exact⟨fun _=>h,fun z=>by cases z⟩
  have hl:¬ ((ts.length:Int)<2):=of_decide_eq_false e
  match ts,pts,hl,h with
  |[],_,hl,_=>exact absurd (show ((0:Nat):Int)<2 by decide) hl
  |[_],_,hl,_=>exact absurd (show ((1:Nat):Int)<2 by decide) hl
  |t::y::r,pts,hl,h =>
   have e0:atI (t::y::r) (0:Int)=some t:=Xb (j:=0) rfl
   have e1:atI (t::y::r) (1:Int)=some y:=Xb (j:=1) rfl
   have py:=pts y (by simp)
   have pt:=pts t (by simp)
   refine⟨t,e0,?_⟩
   cases pt with
   |str hwd =>
    rename_i wd
    refine⟨by decide,fun e=>absurd e (by decide),fun _=>?_⟩
    have lr:∀b:Bool,(b=(Bool.xor false (decide ((((T.str wd::y::r).length:Nat):Int)=2))))->b=decide (r=[]):=fun b e=>by
     rw[e,Bool.false_xor]
     cases r with
     |nil=>simp
     |cons a b=>simp;omega
    refine⟨_,e0,fun q=>?_,fun q=>?_⟩
    ·have q:wd="number":=by simpa using q
     subst q
     rw[Rm (kd:="number") (by decide)] at h
     refine⟨fun b=>?_,fun b=>?_⟩
     ·have b:=(lr _ rfl).symm.trans b
      rw[b,Bool.true_and] at h
      exact⟨_,e1,_,0,99,rfl,py,h⟩
     ·have b:=(lr _ rfl).symm.trans b
      rw[b,Bool.false_and] at h
      exact h
    refine⟨_,e0,fun q1=>?_,fun q1=>?_⟩
    ·have q:wd="own":=by simpa using q1
     subst q
     rw[Rm (kd:="own") (by decide)] at h
     refine⟨fun b=>?_,fun b=>?_⟩
     ·have b:=(lr _ rfl).symm.trans b
      rw[b,Bool.true_and] at h
      have e3:Ba (valOk j ow bx) ow bx "own" y=inS ow y:=(show Ba (valOk j ow bx) ow bx "own" y=(isName y&&inS ow y) from rfl).trans (Mz now y)
      rw[e3] at h
      exact⟨_,e1,_,_,rfl,py,now.few,h⟩
     ·have b:=(lr _ rfl).symm.trans b
      rw[b,Bool.false_and] at h
      exact h
    refine⟨_,e0,fun q2=>?_,fun q2=>?_⟩
    ·have q:wd="box":=by simpa using q2
     subst q
     rw[Rm (kd:="box") (by decide)] at h
     refine⟨fun b=>?_,fun b=>?_⟩
     ·have b:=(lr _ rfl).symm.trans b
      rw[b,Bool.true_and] at h
      have e3:Ba (valOk j ow bx) ow bx "box" y=inS bx y:=(show Ba (valOk j ow bx) ow bx "box" y=(isName y&&inS bx y) from rfl).trans (Mz nbx y)
      rw[e3] at h
      exact⟨_,e1,_,_,rfl,py,nbx.few,h⟩
     ·have b:=(lr _ rfl).symm.trans b
      rw[b,Bool.false_and] at h
      exact h
    have q:¬ wd="number":=by simpa using q
    have q1:¬ wd="own":=by simpa using q1
    have q2:¬ wd="box":=by simpa using q2
    refine⟨_,e0,show 5<=sizeLine by decide,["not","plus","minus","less","same"],rfl,fun q3=>?_,fun q3=>?_⟩
    ·have q3:¬ wd∈(["not","plus","minus","less","same"]:List Str):=by simpa using q3
     have hk:kindsOf wd=none:=by
      have hn:∀p∈kindTab,¬ p.1=wd:=by
       intro p hp e
       simp only[kindTab,List.mem_cons,List.not_mem_nil,or_false] at hp
       rcases hp with rfl|rfl|rfl|rfl|rfl|rfl|rfl|rfl
       ·exact q e.symm
       ·exact q1 e.symm
       ·exact q2 e.symm
       all_goals exact q3 (by rw[<-e];simp)
      unfold kindsOf
      rw[List.find?_eq_none.mpr fun p hp=>by simpa using hn p hp]
      rfl
     rw[Y4 hk] at h
     exact h
    have q3:wd∈(["not","plus","minus","less","same"]:List Str):=by
     have q3:(!decide (wd∈(["not","plus","minus","less","same"]:List Str)))=false:=q3
     cases hq:decide (wd∈(["not","plus","minus","less","same"]:List Str)) with
     |true=>exact of_decide_eq_true hq
     |false=>rw[hq] at q3;cases q3
    obtain⟨ks,hk,hks,hkl⟩:∃ks,kindsOf wd=some ks/\(∀k∈ks,k="value")/\(1:Int)+ks.length=3 - (if decide (wd="not") then 1 else 0):=by
     simp only[List.mem_cons,List.not_mem_nil,or_false] at q3
     rcases q3 with rfl|rfl|rfl|rfl|rfl
     ·exact⟨["value"],by decide,by decide,by decide⟩
     all_goals exact⟨["value","value"],by decide,by decide,by decide⟩
    have el:(((T.str wd::y::r).length:Nat):Int)=1+((y::r).length:Nat):=by simp;omega
    refine⟨_,e0,fun b=>?_,fun b=>?_⟩
    ·have b:¬ (((T.str wd::y::r).length:Nat):Int)=3 - (if decide (wd="not") then 1 else 0):=by
      have b:Bool.xor true (decide ((((T.str wd::y::r).length:Nat):Int)=3 - (if Bool.xor false (decide (wd="not")) then 1 else 0)))=true:=b
      rw[Bool.false_xor] at b
      simpa using b
     rw[v_is hk,decide_eq_false (show ¬ (y::r).length=ks.length from fun z=>b (by rw[el,z];exact hkl)),Bool.false_and] at h
     exact h
    ·have b:(((T.str wd::y::r).length:Nat):Int)=3 - (if decide (wd="not") then 1 else 0):=by
      have b:Bool.xor true (decide ((((T.str wd::y::r).length:Nat):Int)=3 - (if Bool.xor false (decide (wd="not")) then 1 else 0)))=false:=b
      rw[Bool.false_xor] at b
      simpa using b
     have hl2:(y::r).length=ks.length:=by rw[el,<-hkl] at b;omega
     have hz:List.zipWith (fun x k=>Ba (valOk j ow bx) ow bx k x) (y::r) ks=(y::r).map (valOk j ow bx):=by
      generalize y::r=xs at hl2
      clear hkl hk
      induction xs generalizing ks with
      |nil=>rfl
      |cons a b ih =>
       cases ks with
       |nil=>simp at hl2
       |cons k ks =>
        rw[List.zipWith_cons_cons,List.map_cons,ih (ks:=ks) (fun z hz=>hks z (List.mem_cons_of_mem _ hz)) (by simpa using hl2),hks k List.mem_cons_self]
        rfl
     rw[v_is hk,decide_eq_true hl2,Bool.true_and,hz] at h
     have hall:(((y::r).map (valOk j ow bx)).all id)=(y::r).all (valOk j ow bx):=by rw[List.all_map];rfl
     rw[hall,<-Q9] at h
     have pr:∀z∈y::r,Pl z:=fun z hz=>pts z (List.mem_cons_of_mem _ hz)
     have enj:((j+1:Nat):Int) - 1=j:=by omega
     refine Ay (ts:=y::r) (f:=Fy j ow bx) (fun k hk=>?_) ?_ (fun z hz A B hA hB=>?_) ?_
     ·refine⟨?_,?_⟩
      ·rintro⟨z,_⟩
       simp[HT.sIx] at z
      ·have:=Ik (T.str wd) (y::r)
       show k (cutA (T.str wd::y::r) (some 1) none) S
       rw[this]
       exact hk
     ·rw[hl2];exact Gx hk
     ·refine⟨z,ow,bx,by dsimp only;rw[enj],pr z hz,now,nbx,fun e=>hA _ ?_,fun e=>hB ?_⟩
      ·have e:valOk j ow bx z=false:=by simpa using e
       simp[Fy,e]
      ·have e:valOk j ow bx z=true:=by simpa using e
       simp[Fy,e]
     ·refine⟨Nat.zero_le _,?_⟩
      show Pp (.bl (Bool.xor false ((y::r).filterMap (Fy j ow bx)).isEmpty)) S
      rw[Bool.false_xor]
      exact h
   |_=>exact⟨by decide,fun _=>h,fun e=>absurd e (by decide)⟩
 |_=>exact⟨by decide,fun e=>⟨fun _=>h,fun z=>by cases z⟩,fun e=>absurd e (by decide)⟩
theorem Fg(N:Nm P w K mg)(d:Aa K mg "_law_is_value" ["_law_thing","_law_owns","_law_boxes","_law_deep"] (top 61))(c1:Has P w K mg base 1 "_law_whole" ["_law_thing","_law_least","_law_limit"] Bs)(c2:Has P w K mg base 1 "_law_among" ["_law_thing","_law_names_here"] Kv):
  ∀n:Nat,Has P w K mg base (n+2) "_law_is_value" ["_law_thing","_law_owns","_law_boxes","_law_deep"] (Mp n)
 | 0=>Ey (m:=1) (tp:=fun _ _ _=>False) (by omega) N d c1 c2 (Fm d fun _ _ _ z=>z) (.inl rfl)
 |n+1=>Ey (m:=n+2) (by omega) N d c1 c2 (Fg N d c1 c2 n) (.inr ⟨n,rfl,rfl⟩)
end
end K10
end
section
namespace K10
open PySem PySem.Spec PyProof.Rows L2 TL
seal UE UT UA US USs UI UG UO UW PTs Av Ch Cd
def Qq(k:Str):Nat:=if k="own" then 111 else if k="box" then 98 else if k="lock" then 108 else if k="value" then 118 else 107
def Au(w:Str):Str:=match stepKinds w with
 |some ks=>⟨(ks.map Qq).toArray⟩
 |none=>""
def dA:List (Key×T):=[(.inr "set",.str "ov"),(.inr "get",.str "ob"),(.inr "put",.str "bv"),(.inr "add",.str "bv"),(.inr "wait",.str "bv"),(.inr "take",.str "l"),(.inr "give",.str "l")]
def dB:List (Key×T):=[(.inr "check",.str "v"),(.inr "skip",.str "k"),(.inr "unless",.str "vk")]
theorem mA:B6 [] dA=dA:=Cz dA [] (by decide +kernel)
theorem mB:B6 [] dB=dB:=Cz dB [] (by decide +kernel)
theorem O8(k:Key):valT [] k=none:=rfl
theorem Ml(x:Str)(t:T)(r:List (Key×T))(w:Str):valT ((.inr x,t)::r) (.inr w)=if x=w then some t else valT r (.inr w):=by
 unfold valT
 rw[List.find?_cons]
 show (match decide ((Sum.inr x:Key)=Sum.inr w) with|true=>_|false=>_:Option (Key×T)).map (·.2)=_
 rw[K3]
 by_cases e:x=w
 ·rw[decide_eq_true e,if_pos e];rfl
 ·rw[decide_eq_false e,if_neg e]
theorem H9(x:Str)(ks:List Str)(r:List (Str×List Str))(w:Str):(((x,ks)::r).find? fun p=>decide (p.1=w)).map (·.2)=if x=w then some ks else (r.find? fun p=>decide (p.1=w)).map (·.2):=by
 rw[List.find?_cons]
 by_cases e:x=w
 ·rw[decide_eq_true e,if_pos e];rfl
 ·rw[decide_eq_false e,if_neg e]
theorem Rr(w:Str):(valT (B6 [] dA) (.inr w)).getD ((valT (B6 [] dB) (.inr w)).getD (.str ""))=.str (Au w):=by
 rw[mA,mB]
 unfold dA dB Au stepKinds stepTab
 simp only[Ml,H9,O8,List.find?_nil,Option.map_none]
 by_cases e1:("set":Str)=w
 ·subst e1;rfl
 by_cases e2:("get":Str)=w
 ·subst e2;rfl
 by_cases e3:("put":Str)=w
 ·subst e3;rfl
 by_cases e4:("add":Str)=w
 ·subst e4;rfl
 by_cases e5:("wait":Str)=w
 ·subst e5;rfl
 by_cases e6:("take":Str)=w
 ·subst e6;rfl
 by_cases e7:("give":Str)=w
 ·subst e7;rfl
 by_cases e8:("check":Str)=w
 ·subst e8;rfl
 by_cases e9:("skip":Str)=w
 ·subst e9;rfl
 by_cases e10:("unless":Str)=w
 ·subst e10;rfl
 simp only[if_neg e1,if_neg e2,if_neg e3,if_neg e4,if_neg e5,if_neg e6,if_neg e7,if_neg e8,if_neg e9,if_neg e10]
 rfl
theorem Pr(w:Str):(Au w).length=((stepKinds w).getD []).length:=by
 unfold Au
 cases stepKinds w with
 |none=>rfl
 |some ks=>simp[Str.length]
theorem Ld(c d:Nat):(decide ((⟨#[c]⟩:Str)=⟨#[d]⟩))=decide (c=d):=by
 by_cases e:c=d
 ·rw[e];simp
 ·rw[decide_eq_false e]
  exact decide_eq_false fun z=>e (by injection z with z;simpa using z)
def Mm(ow bx lk:List Str)(c:Nat):List Str:=if c=111 then ow else if c=98 then bx else if c=108 then lk else []
def dC(ow bx lk:List Str):List (Key×T):=[(.inr "o",.lst (ow.map T.str)),(.inr "b",.lst (bx.map T.str)),(.inr "l",.lst (lk.map T.str))]
theorem Aaw(ow bx lk:List Str)(c:Nat):(valT (B6 [] (dC ow bx lk)) (.inr ⟨#[c]⟩)).getD (.lst [])=.lst ((Mm ow bx lk c).map T.str):=by
 have e:B6 [] (dC ow bx lk)=dC ow bx lk:=Cz (dC ow bx lk) [] (by show ([Sum.inr "o",Sum.inr "b",Sum.inr "l"]:List Key).Nodup;decide +kernel)
 rw[e]
 unfold dC Mm
 simp only[Ml,O8]
 have h1:((("o":Str)=⟨#[c]⟩) ↔ c=111):=⟨fun z=>by have:=of_decide_eq_true ((Ld 111 c).symm.trans (decide_eq_true (show (⟨#[111]⟩:Str)=⟨#[c]⟩ from z)));exact this.symm,fun z=>by rw[z];rfl⟩
 have h2:((("b":Str)=⟨#[c]⟩) ↔ c=98):=⟨fun z=>by have:=of_decide_eq_true ((Ld 98 c).symm.trans (decide_eq_true (show (⟨#[98]⟩:Str)=⟨#[c]⟩ from z)));exact this.symm,fun z=>by rw[z];rfl⟩
 have h3:((("l":Str)=⟨#[c]⟩) ↔ c=108):=⟨fun z=>by have:=of_decide_eq_true ((Ld 108 c).symm.trans (decide_eq_true (show (⟨#[108]⟩:Str)=⟨#[c]⟩ from z)));exact this.symm,fun z=>by rw[z];rfl⟩
 simp only[h1,h2,h3]
 split
 ·rfl
 ·split
  ·rfl
  ·split <;> rfl
def Gr(ow bx lk:List Str)(b:Int)(c:Nat)(x:T):Bool:=if c=107 then A7 0 b x else if c=118 then valOk 5 ow [] x else inS (Mm ow bx lk c) x
theorem Ti{ow bx lk:List Str}(now:Nms ow)(nbx:Nms bx)(nlk:Nms lk)(b:Int)(k:Str)(x:T):Gr ow bx lk b (Qq k) x=Aj ow bx lk b k x:=by
 unfold Gr Qq Aj Mm
 by_cases e1:k="own"
 ·simp[e1,Mz now]
 ·rw[if_neg e1,if_neg e1]
  by_cases e2:k="box"
  ·simp[e2,Mz nbx]
  ·rw[if_neg e2,if_neg e2]
   by_cases e3:k="lock"
   ·simp[e3,Mz nlk]
   ·rw[if_neg e3,if_neg e3]
    by_cases e4:k="value"
    ·simp[e4]
    ·simp[e4]
section
variable{P:Program}{w:World}{K:PySem.W.Frag}{mg:Str->Option Value}{base:Heap}
def Mf:List T->TH->UX->Prop:=fun ts S Pp=>∃x ow bx lk b,ts=[x,.lst (ow.map T.str),.lst (bx.map T.str),.lst (lk.map T.str),.int b]/\Pl x/\Nms ow/\Nms bx/\Nms lk/\Pp (.bl (Al ow bx lk b x)) S
theorem Qr:Zv ["_law_thing","_law_owns","_law_boxes","_law_locks","_law_behind","_law_parts","_law_k","_law_good"] ["_law_thing","_law_owns","_law_boxes","_law_locks","_law_behind"] (Zb (top 62)):=⟨rfl,rfl,rfl,by decide +kernel,rfl,by decide +kernel,by decide +kernel⟩
theorem Vb{ow bx lk:List Str}{b:Int}{ts:List T}(h:ts.length<2):Al ow bx lk b (.tup ts)=false:=by
 cases ts with
 |nil=>rfl
 |cons t r =>
  cases r with
  |cons a b=>simp only[List.length_cons] at h;omega
  |nil =>
   cases t with
   |str wd =>
    cases hk:stepKinds wd with
    |none=>simp only[Al,hk]
    |some ks =>
     simp only[Al,hk]
     rw[decide_eq_false (show ¬ ([]:List T).length=ks.length by have:=F6 hk;simp;omega)]
     rfl
   |_=>rfl
theorem s_is{ow bx lk:List Str}{b:Int}{wd:Str}{r:List T}:Al ow bx lk b (.tup (.str wd::r))=(decide ((stepKinds wd).isSome)&&decide (r.length=((stepKinds wd).getD []).length)&&(List.zipWith (fun x k=>Aj ow bx lk b k x) r ((stepKinds wd).getD [])).all id):=by
 cases hk:stepKinds wd with
 |none=>simp only[Al,hk];rfl
 |some ks=>simp only[Al,hk];simp
theorem Uc{f:T->Str->Bool}{r:List T}{ks:List Str}{j:Nat}{x:T}{k:Str}(hx:r[j]?=some x)(hk:ks[j]?=some k):(List.zipWith f (r.take (j+1)) (ks.take (j+1))).all id=((List.zipWith f (r.take j) (ks.take j)).all id&&f x k):=by
 rw[List.take_add_one,List.take_add_one,hx,hk]
 have hl:(r.take j).length=(ks.take j).length:=by
  have h1:=(List.getElem?_eq_some_iff.mp hx).1
  have h2:=(List.getElem?_eq_some_iff.mp hk).1
  rw[List.length_take,List.length_take]
  omega
 rw[List.zipWith_append hl]
 simp
theorem O7{f:T->Str->Bool}{r:List T}{ks:List Str}{j:Nat}{x:T}{k:Str}(hx:r[j]?=some x)(hk:ks[j]?=some k)(e:f x k=false):(List.zipWith f r ks).all id=false:=by
 rw[List.all_eq_false]
 have h1:=(List.getElem?_eq_some_iff.mp hx)
 have h2:=(List.getElem?_eq_some_iff.mp hk)
 refine⟨f x k,?_,by simp[e]⟩
 refine List.mem_iff_getElem.mpr ⟨j,by rw[List.length_zipWith];have:=h1.1;have:=h2.1;omega,?_⟩
 rw[List.getElem_zipWith,h1.2,h2.2]
theorem Mi{m:Nat}(N:Nm P w K mg)(d:Aa K mg "_law_is_step" ["_law_thing","_law_owns","_law_boxes","_law_locks","_law_behind"] (top 62))(c_law_among:Has P w K mg base m "_law_among" ["_law_thing","_law_names_here"] Kv)(c_law_is_value:Has P w K mg base m "_law_is_value" ["_law_thing","_law_owns","_law_boxes","_law_deep"] (Mp 5))(c_law_whole:Has P w K mg base m "_law_whole" ["_law_thing","_law_least","_law_limit"] Bs):Has P w K mg base (m+1) "_law_is_step" ["_law_thing","_law_owns","_law_boxes","_law_locks","_law_behind"] Mf:=by
 have sc:=Qr
 refine Ag (k:=m) d sc (fun ts S Pp h=>?_) fun cdv f A outer s H E hr=>?_
 ·obtain⟨x,ow,bx,lk,b,rfl,_⟩:=h;rfl
 have hu0:=Ar hr
 have hu1:=hu_of hr
 refine⟨_,(Zs (Zg (UW.ut (Bg (Ae (Xe (A9 rfl N.isinstance (Zc (uv 0) (Zc (Xv rfl N.tuple boot_tuple) Zn))))) (Bg (Eb (Zl rfl N.len (Zc (uv 0) Zn)) Zi) (Xs (Ae (Xe (A9 rfl N.isinstance (Zc (Zx (uv 0) Zi) (Zc (Xv rfl N.str boot_str) Zn))))))))) (Zo (Zr Az)) Ze)
   (Zs (Zt 5 sc.nd (Lc (Ds.cons Zq Zq (Ds.cons Zq Zq (Ds.cons Zq Zq (Ds.cons Zq Zq (Ds.cons Zq Zq (Ds.cons Zq Zq (Ds.cons Zq Zq Ds.nil)))))))))
   (Zs (Zt 5 sc.nd (Ht hu1 (uv 5) (Zx (uv 0) Zi) (Ht hu1 (Lc (Ds.cons Zq Zq (Ds.cons Zq Zq (Ds.cons Zq Zq Ds.nil)))) (Zx (uv 0) Zi) Zq ⟨rfl,rfl,rfl,rfl⟩) ⟨rfl,rfl,rfl,rfl⟩))
   (Zs (Zg (Jy hu0 (Zl rfl N.len (Zc (uv 5) Zn)) (A8 (Zl rfl N.len (Zc (uv 0) Zn)) Zi)) (Zo (Zr Az)) Ze)
   (Zs (C5 PassesOwn.never rfl (Aw rfl N.range (Zc (Zl rfl N.len (Zc (uv 5) Zn)) Zn)) (Ci 6 sc.nd) (Zs (Zt 7 sc.nd (Zf c_law_among hr rfl (Zc (Zx (uv 0) (Zp (uv 6) Zi)) (Zc (Ht hu1 (Lc (Ds.cons Zq (uv 1) (Ds.cons Zq (uv 2) (Ds.cons Zq (uv 3) Ds.nil)))) (Zx (uv 5) (uv 6)) (Ac Zn) ⟨rfl,rfl,rfl,rfl⟩) Zn))))
   (Zs (Zg (Xf hu0 (Zx (uv 5) (uv 6)) Zq) (Zo (Zt 7 sc.nd (Zf c_law_is_value hr rfl (Zc (Zx (uv 0) (Zp (uv 6) Zi)) (Zc (uv 1) (Zc (Ac Zn) (Zc Zi Zn))))))) Ze)
   (Zs (Zg (Xf hu0 (Zx (uv 5) (uv 6)) Zq) (Zo (Zt 7 sc.nd (Zf c_law_whole hr rfl (Zc (Zx (uv 0) (Zp (uv 6) Zi)) (Zc Zi (Zc (uv 4) Zn)))))) Ze)
   (Zo (Zg (Ae (Xe (uv 7))) (Zo (Zr Az)) Ze))))))
   (Zo (Zr Az))))))),fun ts S Pp h=>?_⟩
 obtain⟨x,ow,bx,lk,b,rfl,px,now,nbx,nlk,h⟩:=h
 have fls:Al ow bx lk b x=false->Pp (.bl false) S:=fun e=>by rw[e] at h;exact h
 refine Zj (fun env S'=>(∃wd y r,x=.tup (.str wd::y::r))/\env=[some x,some (.lst (ow.map T.str)),some (.lst (bx.map T.str)),some (.lst (lk.map T.str)),some (.int b),none,none,none]/\S'=S) (fun k hk=>?_) ?_
 ·cases px with
  |tup pts =>
   rename_i ts
   refine⟨by decide,fun e=>absurd e (by decide),fun _=>⟨fun e=>⟨fun _=>fls (Vb (by have:=of_decide_eq_true e;omega)),fun z=>by cases z⟩,fun e=>?_⟩⟩
   have hl:¬ ((ts.length:Int)<2):=of_decide_eq_false e
   match ts,pts,hl,fls,hk with
   |[],_,hl,_,_=>exact absurd (show ((0:Nat):Int)<2 by decide) hl
   |[_],_,hl,_,_=>exact absurd (show ((1:Nat):Int)<2 by decide) hl
   |t::y::r,pts,hl,fls,hk =>
    have e0:atI (t::y::r) (0:Int)=some t:=Xb (j:=0) rfl
    have pt:=pts t (by simp)
    refine⟨t,e0,?_⟩
    cases pt with
    |str hwd=>exact⟨by decide,fun e=>absurd e (by decide),fun _=>hk _ _ ⟨⟨_,_,_,rfl⟩,rfl,rfl⟩⟩
    |_=>exact⟨by decide,fun _=>fls rfl,fun e=>absurd e (by decide)⟩
  |_=>exact⟨by decide,fun e=>⟨fun _=>fls rfl,fun z=>by cases z⟩,fun e=>absurd e (by decide)⟩
 rintro _ S' ⟨⟨wd,y,r,rfl⟩,rfl,rfl⟩
 have e0:atI (T.str wd::y::r) (0:Int)=some (.str wd):=Xb (j:=0) rfl
 have pr:∀t∈y::r,Pl t:=by
  cases px with
  |tup q=>exact fun t ht=>q t (List.mem_cons_of_mem _ ht)
 generalize hR:y::r=R at pr e0 fls h
 refine Zj (fun env S1=>env=[some (.tup (.str wd::R)),some (.lst (ow.map T.str)),some (.lst (bx.map T.str)),some (.lst (lk.map T.str)),some (.int b),some (.dct (B6 [] dA)),none,none]/\S1=S') (fun k hk p hp=>⟨Zd,dA,rfl,hk _ _ ⟨by rw[<-hR];rfl,Lu hp⟩⟩) ?_
 rintro _ _ ⟨rfl,rfl⟩
 rename_i S'
 refine Zj (fun env S1=>env=[some (.tup (.str wd::R)),some (.lst (ow.map T.str)),some (.lst (bx.map T.str)),some (.lst (lk.map T.str)),some (.int b),some (.str (Au wd)),none,none]/\S1=S') (fun k hk=>⟨_,e0,fun p hp=>⟨Zd,dB,rfl,_,e0,_,rfl,_,rfl,hk _ _ ⟨by rw[<-Rr];rfl,Lu hp⟩⟩⟩) ?_
 rintro _ _ ⟨rfl,rfl⟩
 rename_i S'
 have pl:=Pr wd
 have plb:(Au wd).length<=1000:=by
  rw[pl]
  cases hk:stepKinds wd with
  |none=>exact Nat.zero_le _
  |some ks=>have:=F6 hk;show ks.length<=1000;omega
 have lz:=Xp plb
 have si:Al ow bx lk b (.tup (.str wd::R))=_:=s_is
 refine Zj (fun env S1=>(R.length=((stepKinds wd).getD []).length)/\env=[some (.tup (.str wd::R)),some (.lst (ow.map T.str)),some (.lst (bx.map T.str)),some (.lst (lk.map T.str)),some (.int b),some (.str (Au wd)),none,none]/\S1=S') (fun k hk=>⟨lz,fun e=>?_,fun e=>?_⟩) ?_
 ·have e:¬ ((Au wd).length:Int)=(((T.str wd::R).length:Nat):Int) - 1:=by simpa using e
  refine fls ?_
  rw[si,decide_eq_false (show ¬ R.length=((stepKinds wd).getD []).length from fun z=>e (by rw[pl,<-z,List.length_cons];omega)),Bool.and_false,Bool.false_and]
 ·have e:((Au wd).length:Int)=(((T.str wd::R).length:Nat):Int) - 1:=by simpa using e
  exact hk _ _ ⟨by rw[pl,List.length_cons] at e;omega,rfl,rfl⟩
 rintro _ _ ⟨hl,rfl,rfl⟩
 rename_i S'
 obtain⟨ks,hks⟩:∃ks,stepKinds wd=some ks:=by
  cases hk:stepKinds wd with
  |none=>rw[hk,<-hR] at hl;cases hl
  |some ks=>exact⟨ks,rfl⟩
 rw[hks] at hl si pl
 have hl:R.length=ks.length:=hl
 have pl:(Au wd).length=ks.length:=pl
 have si:Al ow bx lk b (.tup (.str wd::R))=(List.zipWith (fun x k=>Aj ow bx lk b k x) R ks).all id:=by
  rw[si]
  show (decide (true=true)&&decide (R.length=ks.length)&&(List.zipWith (fun x k=>Aj ow bx lk b k x) R ks).all id)=_
  rw[decide_eq_true hl]
  rfl
 have pc:(Au wd).cps.toList=ks.map Qq:=by
  unfold Au
  rw[hks]
 refine Zj (fun env S1=>Al ow bx lk b (.tup (.str wd::R))=true/\S1=S') (fun k hk=>⟨lz,show -(2^62)<=(((Au wd).length:Nat):Int) by omega,show (((Au wd).length:Nat):Int)<2^62 by omega,
  fun j env S1=>(∃e6 e7,env=[some (.tup (.str wd::R)),some (.lst (ow.map T.str)),some (.lst (bx.map T.str)),some (.lst (lk.map T.str)),some (.int b),some (.str (Au wd)),e6,e7])/\S1=S'/\(List.zipWith (fun x k=>Aj ow bx lk b k x) (R.take j) (ks.take j)).all id=true,⟨⟨none,none,rfl⟩,rfl,rfl⟩,?_,?_⟩) ?_
 ·rintro j v _ _ hj ⟨⟨e6,e7,rfl⟩,rfl,iv⟩
  rename_i S'
  have hjl:j<ks.length:=by
   have:=(List.getElem?_eq_some_iff.mp hj).1
   rw[Zh] at this
   simp[pl] at this
   exact this
  have hv:v=.int j:=by
   rw[Cq (by simp[pl];exact hjl)] at hj
   exact(Option.some.inj hj).symm
  subst hv
  have gx:R[j]?=some (R[j]'(by omega)):=List.getElem?_eq_getElem (by omega)
  have gk:ks[j]?=some ks[j]:=List.getElem?_eq_getElem hjl
  generalize R[j]'(by omega)=x at gx
  generalize ks[j]=kd at gk
  have px:=pr x (List.mem_of_getElem? gx)
  have ax:atI (T.str wd::R) ((j:Int)+1)=some x:=Xb (j:=j+1) (by simpa using gx)
  have ac:atI (Au wd).cps.toList (j:Int)=some (Qq kd):=Xb (by rw[pc,List.getElem?_map,gk];rfl)
  generalize hc:Qq kd=c at ac
  refine Zj (fun env S1=>env=[some (.tup (.str wd::R)),some (.lst (ow.map T.str)),some (.lst (bx.map T.str)),some (.lst (lk.map T.str)),some (.int b),some (.str (Au wd)),some (.int j),some (.bl (inS (Mm ow bx lk c) x))]/\S1=S') (fun k hk=>⟨_,ax,fun p hp=>⟨Zd,dC ow bx lk,rfl,lz,c,ac,show 0<=sizeLine by decide,_,rfl,x,Mm ow bx lk c,by rw[<-Aaw],px,?_,hk _ _ ⟨rfl,Lu hp⟩⟩⟩) ?_
  ·unfold Mm
   split
   ·exact now.few
   ·split
    ·exact nbx.few
    ·split
     ·exact nlk.few
     ·exact Nat.zero_le _
  rintro _ _ ⟨rfl,rfl⟩
  rename_i S'
  have ev:∀d:Nat,(Bool.xor false (decide ((⟨#[c]⟩:Str)=⟨#[d]⟩)))=decide (c=d):=fun d=>by rw[Bool.false_xor,Ld]
  refine Zj (fun env S1=>env=[some (.tup (.str wd::R)),some (.lst (ow.map T.str)),some (.lst (bx.map T.str)),some (.lst (lk.map T.str)),some (.int b),some (.str (Au wd)),some (.int j),some (.bl (if c=118 then valOk 5 ow [] x else inS (Mm ow bx lk c) x))]/\S1=S') (fun k hk=>⟨lz,c,ac,fun e=>?_,fun e=>?_⟩) ?_
  ·have e:c=118:=of_decide_eq_true ((ev 118).symm.trans e)
   refine⟨_,ax,show 0<=sizeLine by decide,x,ow,[],rfl,px,now,⟨by decide,fun _ z=>by cases z⟩,hk _ _ ⟨by rw[if_pos e];rfl,rfl⟩⟩
  ·have e:¬ c=118:=of_decide_eq_false ((ev 118).symm.trans e)
   exact hk _ _ ⟨by rw[if_neg e],rfl⟩
  rintro _ _ ⟨rfl,rfl⟩
  rename_i S'
  refine Zj (fun env S1=>env=[some (.tup (.str wd::R)),some (.lst (ow.map T.str)),some (.lst (bx.map T.str)),some (.lst (lk.map T.str)),some (.int b),some (.str (Au wd)),some (.int j),some (.bl (Gr ow bx lk b c x))]/\S1=S') (fun k hk=>⟨lz,c,ac,fun e=>?_,fun e=>?_⟩) ?_
  ·have e:c=107:=of_decide_eq_true ((ev 107).symm.trans e)
   refine⟨_,ax,x,0,b,rfl,px,hk _ _ ⟨by unfold Gr;rw[if_pos e];rfl,rfl⟩⟩
  ·have e:¬ c=107:=of_decide_eq_false ((ev 107).symm.trans e)
   exact hk _ _ ⟨by unfold Gr;rw[if_neg e],rfl⟩
  rintro _ _ ⟨rfl,rfl⟩
  rename_i S'
  have g3:Gr ow bx lk b c x=Aj ow bx lk b kd x:=by rw[<-hc];exact Ti now nbx nlk b kd x
  refine⟨fun e=>?_,fun e=>⟨⟨_,_,rfl⟩,rfl,?_⟩⟩
  ·have e:Gr ow bx lk b c x=false:=by simpa using e
   exact fls (by rw[si];exact O7 gx gk (by rw[<-g3];exact e))
  ·have e:Gr ow bx lk b c x=true:=by simpa using e
   rw[Uc gx gk,iv,Bool.true_and,<-g3]
   exact e
 ·rintro _ _ ⟨_,rfl,iv⟩
  refine hk _ _ ⟨?_,rfl⟩
  rw[si]
  have e1:(E9 (((Au wd).length:Nat):Int).toNat).length=ks.length:=by rw[Zh];simp[pl]
  rw[e1,List.take_length] at iv
  rw[List.take_of_length_le (by omega)] at iv
  exact iv
 ·rintro env _ ⟨q,rfl⟩
  rw[q] at h
  exact h
end
end K10
end
section
namespace K10
open PySem PySem.Spec PyProof.Rows L2 TL
seal UE UT UA US USs UI UG UO UW PTs Av Ch uOr
theorem Sw{x:T}{n c:String}{S:TH}{P:UX}(hty:tyT x=some n)(hc:okC c=true)(h:P (.bl (isT n c)) S):Dy [x,.ty c] S P:=by
 simp only[Dy,hty]
 exact⟨hc,h⟩
theorem Ov{x:T}{n c:String}{S:TH}{env:Ev}{tr:UTA}{P:Bool->TH->Prop}(hty:tyT x=some n)(hc:okC c=true)(ha:∀k:List T->TH->Prop,k [x,.ty c] S->tr env S k)(h:P (isT n c) S):Bk (Bq Dy tr) env S P:=ha _ (Sw hty hc h)
theorem Cg{Q:T->Prop}{a:List T}(h:∀t∈a,Q t)(lo hi:Option Int):∀t∈cutA a lo hi,Q t:=fun t ht=>h t (Hl ht)
theorem Oq{Q:T->Prop}{a:List T}(h:∀t∈a,Q t)(ix:List Nat):∀t∈ix.filterMap (fun (i:Nat)=>a[i]?),Q t:=fun t ht=>by
 obtain⟨i,_,e⟩:=List.mem_filterMap.mp ht
 exact h t (List.mem_of_getElem? e)
section
variable{P:Program}{w:World}{K:PySem.W.Frag}{mg:Str->Option Value}{base:Heap}
def big:Nat:=10 ^ 40
theorem Tx:1000<=big:=by unfold big;decide +kernel
theorem ib_le(b:Bool):(ib b).natAbs<=1:=by cases b <;> decide
inductive Wd(L:Nat):Nat->T->Prop where
 |non {d:Nat}:Wd L d .non
 |bl {d:Nat} (b:Bool):Wd L d (.bl b)
 |int {d:Nat} {i:Int}:i.natAbs<=big+L->Wd L d (.int i)
 |str {d:Nat} {x:Str}:x.length<=2000 * (L+1)->Wd L d (.str x)
 |tup {d:Nat} {ts:List T}:ts.length<=L->(∀t∈ts,Wd L d t)->Wd L (d+1) (.tup ts)
 |lst {d:Nat} {ts:List T}:ts.length<=L->(∀t∈ts,Wd L d t)->Wd L (d+1) (.lst ts)
theorem Wd.up{L L' d d':Nat}{t:T}(h:Wd L d t)(hL:L<=L')(hd:d<=d'):Wd L' d' t:=by
 induction h generalizing d' with
 |non=>exact .non
 |bl b=>exact .bl b
 |int h=>exact .int (by omega)
 |str h=>exact .str (by omega)
 |tup l _ ih =>
  cases d' with
  |zero=>omega
  |succ d'=>exact .tup (by omega) fun t ht=>ih t ht (by omega)
 |lst l _ ih =>
  cases d' with
  |zero=>omega
  |succ d'=>exact .lst (by omega) fun t ht=>ih t ht (by omega)
theorem szl:sizeLine=16777216:=rfl
theorem Wd.pl{L d:Nat}{t:T}(h:Wd L d t)(hL:L<=8000):Pl t:=by
 induction h with
 |non=>exact .non
 |bl b=>exact .bl b
 |int h=>exact .int _
 |str h=>exact .str (by rw[szl];omega)
 |tup _ _ ih=>exact .tup ih
 |lst _ _ ih=>exact .lst ih
theorem Wg{i:Int}{L:Nat}(h:i.natAbs<=big+L)(hL:L<=8000):i.natAbs.log2<1920:=by
 by_cases z:i.natAbs=0
 ·rw[z];decide
 ·refine(Nat.log2_lt z).mpr (Nat.lt_of_le_of_lt h ?_)
  have:big+L<=big+8000:=by omega
  exact Nat.lt_of_le_of_lt this (by unfold big;decide +kernel)
def cOdd:List T->TH->UX->Prop:=fun ts S Pp=>∃(x:T) (a:Addr) (L d:Nat),ts=[x,.ref a]/\Wd L d x/\L<=400/\Sd S a/\∀t S',Dr a S S'->Wd (5 * L+200) (d+91) t->Pp t S'
theorem scOdd:Zv ["_law_thing","_law_state_here","_law_kind_here","_law_words","_law_tuples","_law_numbers","_law_texts","_law_some","_law_k"] ["_law_thing","_law_state_here"] (Zb (top 63)):=⟨rfl,rfl,rfl,by decide +kernel,rfl,by decide +kernel,by decide +kernel⟩
theorem Wh{m:Nat}(N:Nm P w K mg)(d:Aa K mg "_law_odd" ["_law_thing","_law_state_here"] (top 63))(c_law_next:Has P w K mg base m "_law_next" ["_law_state_here","_law_size"] Dc):Has P w K mg base (m+1) "_law_odd" ["_law_thing","_law_state_here"] cOdd:=by
 have sc:=scOdd
 refine Ag (k:=m) d sc (fun ts S Pp h=>?_) fun cdv f A outer s H E hr=>?_
 ·obtain⟨x,a,L,d,rfl,_⟩:=h;rfl
 have hu0:=Ar hr
 have hu64:=hr.units
 refine⟨_,(Zs (Zt 2 sc.nd (Zf c_law_next hr rfl (Zc (uv 1) (Zc Zi Zn))))
   (Zs (Zg (UW.ut (A0 (Xf hu0 (uv 2) Zi) (Bd (Xe (A9 rfl N.isinstance (Zc (uv 0) (Zc (Xv rfl N.tuple boot_tuple) Zn))))))) (Zs (Zt 3 sc.nd (Ac (Zc (Zp (Zu (Zc Zq Zn)) (Bu (uv 0) (Ad Zi) Af)) (Zc (Zp (Zu (Zc Zq Zn)) (Bu (uv 0) (Ad Zi) Af)) (Zc (Zp (Zu (Zc Zq Zn)) (Bu (uv 0) (Ad Zi) Af)) (Zc (Zp (Zu (Zc Zq Zn)) (Bu (uv 0) (Ad Zi) Af)) Zn))))))
   (Zs (Zt 4 sc.nd (Ac (Zc (Da rfl N.list (Zc (uv 0) Zn)) (Zc (Bu (uv 0) Af (Ad (F7 Zi))) (Zc (Zp (uv 0) (Zu (Zc Zi Zn))) (Zc (Tg (uv 0)) Zn))))))
   (Zo (Zr (Zx (Zp (Zp (uv 3) (uv 4)) (Ac (Zc (Zp (uv 0) (Bu (uv 0) (Ad Zi) Af)) (Zc (Zu Zn) Zn)))) (Zf c_law_next hr rfl (Zc (uv 1) (Zc Zi Zn)))))))) Ze)
   (Zs (Zg (UW.ut (A0 (Xf hu0 (uv 2) Zi) (Bd (Xe (A9 rfl N.isinstance (Zc (uv 0) (Zc (Xv rfl N.int boot_int) Zn))))))) (Zs (Zt 5 sc.nd (Ac (Zc (Lp hu64 (uv 0) Zi) (Zc (U5 (uv 0)) (Zc (Mt (uv 0) Zi) (Zc (V4 (uv 0) Zi) Zn))))))
   (Zo (Zr (Zx (Zp (uv 5) (Ac (Zc (Mt (uv 0) Zi) (Zc (U2 rfl N.str (Zc (uv 0) Zn)) Zn)))) (Zf c_law_next hr rfl (Zc (uv 1) (Zc Zi Zn))))))) Ze)
   (Zs (Zg (UW.ut (A0 (Xf hu0 (uv 2) Zi) (Bd (Xe (A9 rfl N.isinstance (Zc (uv 0) (Zc (Xv rfl N.str boot_str) Zn))))))) (Zs (Zt 6 sc.nd (Ac (Zc (Zp (uv 0) Zq) (Zc (Bp (uv 0) (Ad Zi) Af) (Zc (Zp (uv 0) Zq) (Zc (Zp Zq (uv 0)) Zn))))))
   (Zo (Zr (Zx (Zp (uv 6) (Ac (Zc (Rp (uv 0)) (Zc (Zp (Bp (uv 0) Af (Ad (F7 Zi))) Zq) Zn)))) (Zf c_law_next hr rfl (Zc (uv 1) (Zc Zi Zn))))))) Ze)
   (Zs (Zt 7 sc.nd (Ac (Zc Az (Zc Az (Zc Lb (Zc (F7 Zi) (Zc Zi (Zc Zi (Zc Zi (Zc Zi (Zc Zi (Zc (Abg Zi Zi) (Zc Zq (Zc Zq (Zc Zq (Zc Zq (Zc Zq (Zc (Zu Zn) (Zc (Ac Zn) Zn)))))))))))))))))))
   (Zs (Zt 7 sc.nd (Zp (uv 7) (Ac (Zc (Zu (Zc Zq Zn)) (Zc (Zu (Ab (Cs.s (Cs.i Cs.nil)))) (Zc (Zu (Ab (Cs.s (Cs.b Cs.nil)))) (Zc (Zu (Ab (Cs.s (Cs.s Cs.nil)))) (Zc (Zu (Zc Zq Zn)) (Zc (Zu (Ab (Cs.s (Cs.i Cs.nil)))) (Zc (Zu (Ab (Cs.s (Cs.i Cs.nil)))) Zn))))))))))
   (Zs (Zg (Eb (Zf c_law_next hr rfl (Zc (uv 1) (Zc Zi Zn))) Zi) (Zo (Zr (Zx (uv 7) (Zf c_law_next hr rfl (Zc (uv 1) (Zc Zi Zn)))))) Ze)
   (Zs (C5 PassesOwn.never rfl (Aw rfl N.range (Zc Zi Zn)) (Ci 8 sc.nd) (Zo (Zt 0 sc.nd (Zu (Zc (uv 0) Zn)))))
   (Zo (Zr (uv 0))))))))))),fun ts S0 Pp h=>?_⟩
 obtain⟨x,a,L,dp,rfl,vx,hL,hs,h⟩:=h
 have px:=vx.pl (by omega)
 obtain⟨ty,hty⟩:=px.ty
 have s1:∀{n:Nat},n<=10000->n<=sizeLine:=fun h=>by rw[szl];omega
 have o1:1<=sizeLine:=by decide
 have o2:2<=sizeLine:=by decide
 have w0:∀{y:Str} {d:Nat},y.length<=1000->Wd (5 * L+200) d (.str y):=fun h=>.str (by omega)
 have i0:∀{i:Int} {d:Nat},i.natAbs<=big->Wd (5 * L+200) d (.int i):=fun h=>.int (by omega)
 refine⟨a,5,rfl,hs,by decide,fun kd S1 d1 k0 k1=>?_⟩
 refine An (b2:=isT ty "tuple") (fun _ h=>h) (fun _ _ h=>Ov hty rfl (fun _ h=>h) h) ⟨fun e=>?_,fun _=>?_⟩
 ·-- tuples
  have e:isT ty "tuple"=true:=by
   rw[Bool.and_eq_true] at e
   exact e.2
  cases vx with
  |non=>cases hty;cases e
  |bl=>cases hty;cases e
  |int=>cases hty;cases e
  |str=>cases hty;cases e
  |lst=>cases hty;cases e
  | @tup dq ts lts vts =>
   have hc:=As ts (some 1) none
   have hi:=As ts none (some (-1))
   have b1:∀z:Str,([T.str z]).length+(cutA ts (some 1) none).length<=sizeLine:=fun z=>s1 (by show 1+_<=_;omega)
   have up:∀t∈ts,Wd (5 * L+200) (dq+91) t:=fun t ht=>(vts t ht).up (by omega) (by omega)
   refine⟨o1,b1 _,o1,b1 _,o1,b1 _,o1,b1 _,show 4<=sizeLine by decide,o1,s1 (show ts.length+1<=_ by omega),fun ix hx=>⟨show 4<=sizeLine by decide,show 8<=sizeLine by decide,s1 (by omega),show 0<=sizeLine by decide,show 2<=sizeLine by decide,show 10<=sizeLine by decide,a,10,rfl,d1.sd,by decide,fun r S2 d2 r0 r1=>?_⟩⟩
   have p1:∀z:Str,z.length<=8->Wd (5 * L+200) (dq+91+1) (.tup ([T.str z]++cutA ts (some 1) none)):=fun z hz=>.tup (by rw[List.length_append,List.length_singleton];omega) (Ap (Xd (w0 (by omega)) al_nil) (Cg up _ _))
   have e92:dq+1+91=dq+91+1:=by omega
   rw[e92] at h
   refine E5 (Q:=Wd (5 * L+200) (dq+91+1)) r0 r1 (Ap (Ap (Xd (p1 _ (by decide)) (Xd (p1 _ (by decide)) (Xd (p1 _ (by decide)) (Xd (p1 _ (by decide)) al_nil)))) (Xd (.lst (by omega) up) (Xd (.tup (by omega) (Cg up _ _)) (Xd (.tup (by rw[List.length_append,List.length_singleton];omega) (Ap up (Xd (i0 (by decide +kernel)) al_nil))) (Xd (.tup (by omega) (Oq up ix)) al_nil))))) (Xd (.tup (by rw[List.length_append];omega) (Ap up (Cg up _ _))) (Xd (.tup (Nat.zero_le _) al_nil) al_nil))) fun t q=>h t S2 (d1.trans d2) q
 refine An (b2:=isT ty "int") (fun _ h=>h) (fun _ _ h=>Ov hty rfl (fun _ h=>h) h) ⟨fun e=>?_,fun _=>?_⟩
 ·-- numbers,truths
  have e:isT ty "int"=true:=by
   rw[Bool.and_eq_true] at e
   exact e.2
  obtain⟨i,ei,li⟩:∃i,nIB x=some i/\i.natAbs<=big+L:=by
   cases vx with
   |non=>cases hty;cases e
   |bl b=>exact⟨_,rfl,by have:=ib_le b;have:=Tx;omega⟩
   |int h=>exact⟨_,rfl,h⟩
   |str=>cases hty;cases e
   |lst=>cases hty;cases e
   |tup=>cases hty;cases e
  have hlog:=Wg li (by omega)
  have ls:(sIB x).length<=1921:=by
   cases vx with
   |bl b=>cases b <;> decide
   |int h=>cases ei;exact int_text_len_1921 hlog
   |_=>cases ei
  have dq:∃n,n<=60/\DatQ n (cv S1 x):=by
   cases vx with
   |bl b=>exact⟨0,by decide,.p rfl⟩
   |int h=>exact⟨0,by decide,.p rfl⟩
   |_=>cases ei
  obtain⟨n,hn,dq⟩:=dq
  refine⟨n,hn,dq,.p rfl,i,ei,i,1,ei,rfl,i,1,ei,rfl,show 4<=sizeLine by decide,i,100,ei,rfl,x,i,rfl,ei,hlog,show 2<=sizeLine by decide,show 6<=sizeLine by decide,a,6,rfl,d1.sd,by decide,fun r S2 d2 r0 r1=>?_⟩
  refine E5 (Q:=Wd (5 * L+200) (dp+91)) r0 r1 (Ap (Xd (.bl _) (Xd (.int (by omega)) (Xd (.int (by omega)) (Xd (.int (by omega)) al_nil)))) (Xd (.int (by omega)) (Xd (.str (by omega)) al_nil))) fun t q=>h t S2 (d1.trans d2) q
 refine An (b2:=isT ty "str") (fun _ h=>h) (fun _ _ h=>Ov hty rfl (fun _ h=>h) h) ⟨fun e=>?_,fun _=>?_⟩
 ·-- texts
  have e:isT ty "str"=true:=by
   rw[Bool.and_eq_true] at e
   exact e.2
  cases vx with
  |non=>cases hty;cases e
  |bl=>cases hty;cases e
  |tup=>cases hty;cases e
  |lst=>cases hty;cases e
  |int=>cases hty;cases e
  | @str _ z lz =>
   have lz1:z.length<=sizeLine:=by rw[szl];omega
   have up:=len_upper z
   have sl:∀lo hi,(Txt.slice z lo hi).length<=z.length:=fun lo hi=>Txt.slice_le z lo hi
   have a1:=sl (some 1) none
   have a2:=sl none (some (-1))
   have q:∀{y:Str},y.length<=3 * z.length+1->Wd (5 * L+200) (dp+91) (.str y):=fun h=>.str (by omega)
   have lp:∀{x y:Str},x.length<=z.length->y.length=1->(x++y).length<=3 * z.length+1:=fun h hy=>by rw[Str.length_append];omega
   have lq:∀{y:Str},y.length=1->(y++z).length<=3 * z.length+1:=fun hy=>by rw[Str.length_append];omega
   refine⟨by rw[szl];show z.length+1<=_;omega,lz1,by rw[szl];show z.length+1<=_;omega,by rw[szl];show 1+z.length<=_;omega,show 4<=sizeLine by decide,fit_upper (by omega),lz1,by rw[szl];show _+1<=_;omega,show 2<=sizeLine by decide,show 6<=sizeLine by decide,a,6,rfl,d1.sd,by decide,fun r S2 d2 r0 r1=>?_⟩
   refine E5 (Q:=Wd (5 * L+200) (dp+91)) r0 r1 (Ap (Xd (q (lp (Nat.le_refl _) rfl)) (Xd (q (by omega)) (Xd (q (lp (Nat.le_refl _) rfl)) (Xd (q (lq rfl)) al_nil)))) (Xd (q (by omega)) (Xd (q (lp a2 rfl)) al_nil))) fun t q=>h t S2 (d1.trans d2) q
 have p0:∀{y:Str} {d:Nat},y.length<=1000->Wd (5 * L+200) d (.str y):=fun hy=>w0 hy
 have p1:∀{y:T} {d:Nat},Wd (5 * L+200) d y->Wd (5 * L+200) (d+1) (.tup [y]):=fun hy=>.tup (by show 1<=_;omega) (Xd hy al_nil)
 have p2:∀{y z:T} {d:Nat},Wd (5 * L+200) d y->Wd (5 * L+200) d z->Wd (5 * L+200) (d+1) (.tup [y,z]):=fun hy hz=>.tup (by show 2<=_;omega) (Xd hy (Xd hz al_nil))
 have ib':∀{i:Int} {d:Nat},i.natAbs<=big->Wd (5 * L+200) d (.int i):=i0
 refine⟨⟨by decide,by decide,by decide⟩,show 0<=sizeLine by decide,show 0<=sizeLine by decide,show 17<=sizeLine by decide,o1,o2,o2,o2,o1,o2,o2,show 7<=sizeLine by decide,show 24<=sizeLine by decide,a,25,rfl,d1.sd,by decide,fun r25 S2 d2 _ _=>⟨fun _=>?_,fun _=>?_⟩⟩
 ·refine⟨a,24,rfl,d2.sd,by decide,fun r S3 d3 r0 r1=>?_⟩
  refine E5 (Q:=Wd (5 * L+200) (dp+91)) r0 r1 ?_ fun t q=>h t S3 ((d1.trans d2).trans d3) q
  exact Ap
   (Xd (.bl _) (Xd (.bl _) (Xd .non (Xd (i0 (by decide +kernel)) (Xd (i0 (by decide +kernel)) (Xd (i0 (by decide +kernel)) (Xd (i0 (by decide +kernel)) (Xd (i0 (by decide +kernel)) (Xd (i0 (by decide +kernel)) (Xd (i0 (by decide +kernel))
    (Xd (p0 (by decide)) (Xd (p0 (by decide)) (Xd (p0 (by decide)) (Xd (p0 (by decide)) (Xd (p0 (by decide)) (Xd (.tup (Nat.zero_le _) al_nil) (Xd (.lst (Nat.zero_le _) al_nil) al_nil)))))))))))))))))
   (Xd (p1 (p0 (by decide))) (Xd (p2 (p0 (by decide)) (i0 (by decide +kernel))) (Xd (p2 (p0 (by decide)) (.bl _)) (Xd (p2 (p0 (by decide)) (p0 (by decide))) (Xd (p1 (p0 (by decide))) (Xd (p2 (p0 (by decide)) (i0 (by decide +kernel))) (Xd (p2 (p0 (by decide)) (i0 (by decide +kernel))) al_nil)))))))
 ·refine⟨show -(2^62)<=(90:Int) by decide,show (90:Int)<2^62 by decide,fun k env S=>∃x e7 e8,env=[some x,some (.ref a),some (.int kd),none,none,none,none,e7,e8]/\Wd (5 * L+200) (dp+k) x/\S=S2,⟨x,_,_,rfl,vx.up (by omega) (by omega),rfl⟩,?_,?_⟩
  ·rintro k y env S hk ⟨x,e7,e8,rfl,wx,rfl⟩
   exact⟨o1,_,_,_,rfl,.tup (by show 1<=_;omega) (Xd wx al_nil),rfl⟩
  ·rintro env S ⟨x,e7,e8,rfl,wx,rfl⟩
   refine h x _ (d1.trans d2) (wx.up (Nat.le_refl _) ?_)
   show dp+90<=dp+91
   omega
def Fw(n:Nat):List T->TH->UX->Prop:=fun ts S Pp=>∃(x:T) (a:Addr) (L d:Nat),d<=n/\ts=[x,.ref a]/\Wd L d x/\L<=400/\Sd S a/\∀t S',Dr a S S'->Wd (5 * L+200) (d+91) t->Pp t S'
theorem Ub:Zv ["_law_thing","_law_state_here","_law_at"] ["_law_thing","_law_state_here"] (Zb (top 64)):=⟨rfl,rfl,rfl,by decide +kernel,rfl,by decide +kernel,by decide +kernel⟩
theorem Gq{n m:Nat}{tp:List T->TH->UX->Prop}(N:Nm P w K mg)(d:Aa K mg "_law_spoilt" ["_law_thing","_law_state_here"] (top 64))(c_law_next:Has P w K mg base m "_law_next" ["_law_state_here","_law_size"] Dc)
  (c_law_odd:Has P w K mg base m "_law_odd" ["_law_thing","_law_state_here"] cOdd) (c_law_spoilt:Has P w K mg base m "_law_spoilt" ["_law_thing","_law_state_here"] tp) (ht:n=0\/∃j,n=j+1/\tp=Fw j):Has P w K mg base (m+1) "_law_spoilt" ["_law_thing","_law_state_here"] (Fw n):=by
 have sc:=Ub
 refine Ag (k:=m) d sc (fun ts S Pp h=>?_) fun cdv f A outer s H E hr=>?_
 ·obtain⟨x,a,L,d,_,rfl,_⟩:=h;rfl
 have hu0:=Ar hr
 refine⟨_,(Zs (Zg (UW.ut (Bg (Ae (Xe (A9 rfl N.isinstance (Zc (uv 0) (Zc (Xv rfl N.tuple boot_tuple) Zn))))) (Bg (Xf hu0 (Zl rfl N.len (Zc (uv 0) Zn)) Zi) (Xs (Xf hu0 (Zf c_law_next hr rfl (Zc (uv 1) (Zc Zi Zn))) Zi))))) (Zo (Zr (Zf c_law_odd hr rfl (Zc (uv 0) (Zc (uv 1) Zn))))) Ze)
   (Zs (Zt 2 sc.nd (Zf c_law_next hr rfl (Zc (uv 1) (Zc (Zl rfl N.len (Zc (uv 0) Zn)) Zn))))
   (Zo (Zr (Zp (Zp (Bu (uv 0) Af (Ad (uv 2))) (Zu (Zc (Zf c_law_spoilt hr rfl (Zc (Zx (uv 0) (uv 2)) (Zc (uv 1) Zn))) Zn))) (Bu (uv 0) (Ad (Zp (uv 2) Zi)) Af)))))),fun ts S0 Pp h=>?_⟩
 obtain⟨x,a,L,dp,hd,rfl,vx,hL,hs,h⟩:=h
 have vx0:=vx
 have odd:∀S1,Dr a S0 S1->cOdd [x,.ref a] S1 Pp:=fun S1 d1=>⟨_,a,L,dp,rfl,vx0,hL,d1.sd,fun t S2 d2 wt=>h t S2 (d1.trans d2) wt⟩
 have s1:∀{n:Nat},n<=10000->n<=sizeLine:=fun h=>by rw[szl];omega
 cases vx with
 | @tup j ts lts vts =>
  rcases ht with q|⟨j',e,rfl⟩
  ·omega
  have up:∀t∈ts,Wd (5 * L+200) (j+91) t:=fun t ht=>(vts t ht).up (by omega) (by omega)
  by_cases hz:ts.length=0
  ·refine Bo (fun _ h=>⟨by decide,h⟩) (Bv (fun P hP=>?_) (yes_ rfl (odd S0 (Dr.rfl hs))))
   show P (Bool.xor false (decide ((ts.length:Int)=0))) S0
   rw[decide_eq_true (by omega)];exact hP
  refine Bo (fun _ h=>⟨by decide,h⟩) (Bo (fun P hP=>?_) ?_)
  ·show P (Bool.xor false (decide ((ts.length:Int)=0))) S0
   rw[decide_eq_false (by omega)];exact hP
  refine⟨a,4,rfl,hs,by decide,fun r S1 d1 _ _=>⟨fun _=>odd S1 d1,fun _=>?_⟩⟩
  refine⟨a,_,rfl,d1.sd,show (0:Int)<ts.length by omega,fun r S2 d2 r0 r1=>?_⟩
  obtain⟨t,htm,et⟩:=Lj r0 r1
  have c1:=As ts none (some r)
  have c2:=As ts (some (r+1)) none
  refine⟨t,et,t,a,L,j,by omega,rfl,vts t htm,hL,d2.sd,fun u S3 d3 pu=>⟨show 1<=sizeLine by decide,s1 (show _+1<=_ by omega),s1 (show _+_<=_ by rw[List.length_append];show _+1+_<=_;omega),h _ S3 ((d1.trans d2).trans d3) ?_⟩⟩
  have e92:j+1+91=j+91+1:=by omega
  rw[e92]
  exact .tup (by rw[List.length_append,List.length_append,List.length_singleton];omega) (Ap (Ap (Cg up _ _) (Xd pu al_nil)) (Cg up _ _))
 |_=>exact Bv (fun _ h=>⟨by decide,h⟩) (yes_ rfl (odd S0 (Dr.rfl hs)))
theorem I0{m:Nat}(N:Nm P w K mg)(d:Aa K mg "_law_spoilt" ["_law_thing","_law_state_here"] (top 64))(c1:Has P w K mg base m "_law_next" ["_law_state_here","_law_size"] Dc)(c2:Has P w K mg base m "_law_odd" ["_law_thing","_law_state_here"] cOdd):∀n:Nat,Has P w K mg base (m+n+1) "_law_spoilt" ["_law_thing","_law_state_here"] (Fw n)
 | 0=>Gq (m:=m) (tp:=fun _ _ _=>False) N d c1 c2 (Fm d fun _ _ _ z=>z) (.inl rfl)
 |n+1=>Gq (m:=m+n+1) N d (c1.mono (by omega)) (c2.mono (by omega)) (I0 N d c1 c2 n) (.inr ⟨n,rfl,rfl⟩)
end
end K10
end
section
namespace K10
open PySem PySem.Spec PyProof.Rows L2 TL
seal UE UT UA US USs UI UG UO UW PTs Av Cd Ch uOr
theorem at1{a b:T}{r:List T}:atI (a::b::r) (1:Int)=some b:=Xb (j:=1) rfl
theorem at2{a b c:T}{r:List T}:atI (a::b::c::r) (2:Int)=some c:=Xb (j:=2) rfl
section
variable{P:Program}{w:World}{K:PySem.W.Frag}{mg:Str->Option Value}{base:Heap}
theorem Yv:Zv ["_law_thing","_law_least","_law_limit"] ["_law_thing","_law_least","_law_limit"] (Zb (top 65)):=⟨rfl,rfl,rfl,by decide +kernel,rfl,by decide +kernel,by decide +kernel⟩
theorem Wx(N:Nm P w K mg)(d:Aa K mg "_law_row" ["_law_thing","_law_least","_law_limit"] (top 65)):Has P w K mg base 1 "_law_row" ["_law_thing","_law_least","_law_limit"] G1:=by
 have sc:=Yv
 refine Ag (k:=0) d sc (fun ts S Pp h=>?_) fun cdv f A outer s H E hr=>?_
 ·obtain⟨x,lo,hi,rfl,_⟩:=h;rfl
 refine⟨_,(Zo (Zr (Bf (A9 rfl N.isinstance (Zc (uv 0) (Zc (Xv rfl N.tuple boot_tuple) Zn))) (B1 (C7 (uv 1) (Zl rfl N.len (Zc (uv 0) Zn)) (uv 2)))))),fun ts S Pp h=>?_⟩
 obtain⟨x,lo,hi,rfl,px,h⟩:=h
 cases px with
 | @tup ts _ =>
  and_intros
  exact⟨fun e=>by rw[Ah,e,Bool.true_and] at h;exact h,fun e=>by rw[Ah,e,Bool.false_and] at h;exact h⟩
 |_=>and_intros;exact h
theorem Fq:∀zs:List Str,zs.Nodup ↔ ∀z∈zs,zs.countP (fun y=>y==z)<=1
 |[]=>⟨fun _ _ z=>(by cases z),fun _=>List.nodup_nil⟩
 |a::r=>by
  have ih:=Fq r
  have ca:∀z,(a::r).countP (fun y=>y==z)=r.countP (fun y=>y==z)+if (a==z)=true then 1 else 0:=fun z=>List.countP_cons
  constructor
  ·intro nd z hz
   obtain⟨na,nr⟩:=List.nodup_cons.mp nd
   rw[ca]
   by_cases e:a=z
   ·subst e
    have h0:r.countP (fun y=>y==a)=0:=List.countP_eq_zero.mpr fun y hy h=>na (eq_of_beq h ▸ hy)
    rw[h0]
    split <;> omega
   ·rw[if_neg (by simpa using e)]
    rcases List.mem_cons.mp hz with q|q
    ·exact absurd q.symm e
    ·exact ih.mp nr z q
  ·intro h
   refine List.nodup_cons.mpr ⟨fun ha=>?_,ih.mpr fun z hz=>?_⟩
   ·have q:=h a List.mem_cons_self
    rw[ca,if_pos (by simp)] at q
    have:0<r.countP (fun y=>y==a):=List.countP_pos_iff.mpr ⟨a,ha,by simp⟩
    omega
   ·have q:=h z (List.mem_cons_of_mem _ hz)
    rw[ca] at q
    omega
def Og(zs:List Str):T->Option T
 | .str z=>if 1<zs.countP (fun y=>y==z) then some (.str z) else none
 |_=>none
theorem Md(zs:List Str):((zs.map T.str).filterMap (Og zs)).isEmpty=decide zs.Nodup:=by
 rw[Bool.eq_iff_iff,List.isEmpty_iff,decide_eq_true_eq,Fq,List.filterMap_eq_nil_iff]
 constructor
 ·intro h z hz
  have q:=h (.str z) (List.mem_map.mpr ⟨z,hz,rfl⟩)
  by_cases e:1<zs.countP (fun y=>y==z)
  ·rw[show Og zs (.str z)=some (.str z) from if_pos e] at q;cases q
  ·omega
 ·intro h t ht
  obtain⟨z,hz,rfl⟩:=List.mem_map.mp ht
  exact if_neg (by have:=h z hz;omega)
theorem P0:Zv ["_law_names_here"] ["_law_names_here"] (Zb (top 66)):=⟨rfl,rfl,rfl,by decide +kernel,rfl,by decide +kernel,by decide +kernel⟩
theorem Nr(N:Nm P w K mg)(d:Aa K mg "_law_unlike" ["_law_names_here"] (top 66)):Has P w K mg base 1 "_law_unlike" ["_law_names_here"] Dd:=by
 have sc:=P0
 refine Ag (k:=0) d sc (fun ts S Pp h=>?_) fun cdv f A outer s H E hr=>?_
 ·obtain⟨zs,rfl,_⟩:=h;rfl
 have hu0:=Ar hr
 refine⟨_,(Zo (Zr (Fv hu0 (Xg 0 ["_law_name","_law_names_here"] [none,some 0] rfl (Xu (uv 0)) (fun _ _ _ _ _=>Dw (Cn (Sl hu0 (uv 1) (Zc (uv 0) Zn)) Zi)) (fun _ _ _ _ _=>(uv 0))) (Ac Zn)))),fun ts S Pp h=>?_⟩
 obtain⟨zs,rfl,hz,h⟩:=h
 refine Ay (ts:=zs.map T.str) (f:=Og zs) (fun k hk=>hk) (by rw[List.length_map];exact Xp hz) (fun y hy A B hA hB=>?_) ?_
 ·obtain⟨z,_,rfl⟩:=List.mem_map.mp hy
  refine⟨zs,El zs,fun q=>?_,fun q=>?_⟩
  ·have q:=of_decide_eq_true q
   exact hA _ (if_pos (by omega))
  ·have q:=of_decide_eq_false q
   exact hB (if_neg (by omega))
 ·refine⟨Nat.zero_le _,?_⟩
  show Pp (.bl (Bool.xor false ((zs.map T.str).filterMap (Og zs)).isEmpty)) S
  rw[Bool.false_xor,Md]
  exact h
theorem Sk:Zv ["_law_thing","_law_limit","_law_size","_law_pair"] ["_law_thing","_law_limit","_law_size"] (Zb (top 67)):=⟨rfl,rfl,rfl,by decide +kernel,rfl,by decide +kernel,by decide +kernel⟩
theorem Pq{m:Nat}(N:Nm P w K mg)(d:Aa K mg "_law_pairs" ["_law_thing","_law_limit","_law_size"] (top 67))(c_law_row:Has P w K mg base m "_law_row" ["_law_thing","_law_least","_law_limit"] G1)(c_law_is_name:Has P w K mg base m "_law_is_name" ["_law_thing"] Fs)(c_law_whole:Has P w K mg base m "_law_whole" ["_law_thing","_law_least","_law_limit"] Bs)(c_law_unlike:Has P w K mg base m "_law_unlike" ["_law_names_here"] Dd):Has P w K mg base (m+1) "_law_pairs" ["_law_thing","_law_limit","_law_size"] C3:=by
 have sc:=Sk
 refine Ag (k:=m) d sc (fun ts S Pp h=>?_) fun cdv f A outer s H E hr=>?_
 ·obtain⟨x,most,size,rfl,_⟩:=h;rfl
 refine⟨_,(Zs (Zg (Ae (Xe (Zf c_law_row hr rfl (Zc (uv 0) (Zc Zi (Zc (uv 1) Zn)))))) (Zo (Zr Az)) Ze)
   (Zs (C5 PassesOwn.never rfl (Xu (uv 0)) (Ci 3 sc.nd) (Zo (Zg (UW.ut (Bg (Ae (Xe (Zf c_law_row hr rfl (Zc (uv 3) (Ab (Cs.i (Cs.i Cs.nil))))))) (Bg (Ae (Xe (Zf c_law_is_name hr rfl (Zc (Zx (uv 3) Zi) Zn)))) (Xs (Ae (Xe (Zf c_law_whole hr rfl (Zc (Zx (uv 3) Zi) (Zc Zi (Zc (A8 (uv 2) Zi) Zn)))))))))) (Zo (Zr Az)) Ze)))
   (Zo (Zr (Zf c_law_unlike hr rfl (Zc (Xg 0 ["_law_pair"] [none] rfl (Xu (uv 0)) (fun _ _ _ _ _=>Ak) (fun _ _ _ _ _=>(Zx (uv 0) Zi))) Zn)))))),fun ts S Pp h=>?_⟩
 obtain⟨x,most,size,rfl,px,hm,h⟩:=h
 unfold A6 at h
 refine Zj (fun env S'=>∃ts,x=.tup ts/\env=[some x,some (.int most),some (.int size),none]/\S=S'/\Ah 0 most x=true/\(ts.length:Int)<=most) (fun k hk=>⟨x,0,most,rfl,px,?_⟩) ?_
 ·cases e:Ah 0 most x with
  |true =>
   obtain⟨ts,e2,_,l⟩:=At e
   exact no_ rfl (hk _ _ ⟨ts,e2,rfl,rfl,e,l⟩)
  |false=>rw[e,Bool.false_and] at h;exact yes_ rfl h
 rintro _ _ ⟨ts,rfl,rfl,rfl,er,l⟩
 have px:=Ai px
 rw[er,Bool.true_and,show items (.tup ts)=ts from rfl] at h
 refine Zj (fun env S'=>∃e3,env=[some (.tup ts),some (.int most),some (.int size),e3]/\S=S'/\∀t∈ts,pairOk size t=true) (fun kk hkk=>?_) ?_
 ·refine⟨fun k env S'=>∃e3,env=[some (.tup ts),some (.int most),some (.int size),e3]/\S=S'/\∀t∈ts.take k,pairOk size t=true,⟨none,rfl,rfl,fun _ z=>(by cases z)⟩,?_,?_⟩
  ·rintro k x env _ ek ⟨e3,rfl,rfl,hk⟩
   have mx:=List.mem_of_getElem? ek
   have pt:=px x mx
   have bad:pairOk size x=false->Pp (.bl false) S:=fun e=>by
    have:ts.all (pairOk size)=false:=List.all_eq_false.mpr ⟨x,mx,by rw[e];decide⟩
    rw[this,Bool.false_and] at h
    exact h
   have good:pairOk size x=true->∀t∈ts.take (k+1),pairOk size t=true:=fun e t ht=>by
    rw[List.take_add_one,ek] at ht
    rcases List.mem_append.mp ht with q|q
    ·exact hk t q
    ·rw[List.mem_singleton.mp q];exact e
   cases e1:Ah 2 2 x with
   |false=>exact Bv (fun P hP=>⟨x,2,2,rfl,pt,by rw[e1];exact hP⟩) (yes_ rfl (bad (by unfold pairOk;rw[e1];rfl)))
   |true =>
    obtain⟨p,q,rfl⟩:=Sx e1
    have pp:=Ai pt p (by simp)
    have pq:=Ai pt q (by simp)
    have ep:pairOk size (.tup [p,q])=(isName p&&A7 0 (size - 1) q):=by
     show (Ah 2 2 (.tup [p,q])&&(isName p&&A7 0 (size - 1) q))=_
     rw[e1];rfl
    refine Bo (fun P hP=>⟨_,2,2,rfl,pt,by rw[e1];exact hP⟩) ?_
    cases e2:isName p with
    |false=>exact Bv (fun P hP=>⟨_,at0,p,rfl,pp,by rw[e2];exact hP⟩) (yes_ rfl (bad (by rw[ep,e2];rfl)))
    |true =>
     refine Bo (fun P hP=>⟨_,at0,p,rfl,pp,by rw[e2];exact hP⟩) ⟨_,at1,q,0,size - 1,rfl,pq,?_⟩
     cases e3:A7 0 (size - 1) q with
     |false=>exact yes_ rfl (bad (by rw[ep,e2,e3];rfl))
     |true=>exact no_ rfl ⟨_,rfl,rfl,good (by rw[ep,e2,e3];rfl)⟩
  ·rintro env _ ⟨e3,rfl,rfl,hk⟩
   rw[List.take_length] at hk
   exact hkk _ _ ⟨e3,rfl,rfl,hk⟩
 rintro _ _ ⟨e3,rfl,rfl,ha⟩
 have hh:∀x∈ts,∃y r,x=.tup (.str y::r):=fun x hx=>Be (ha x hx)
 refine Ay (ts:=ts) (f:=Fu) (fun k hk=>hk) (Xp (by omega)) (fun x hx A B hA hB=>?_) ?_
 ·obtain⟨y,r,rfl⟩:=hh x hx
  exact⟨fun _=>⟨_,at0,hA _ rfl⟩,fun e=>(by cases e)⟩
 ·rw[Bh hh]
  have nl:=Cf ts
  rw[List.all_eq_true.mpr ha,Bool.true_and] at h
  exact⟨Xn ts,rfl,by omega,h⟩
def O2:List T->TH->UX->Prop:=fun ts S Pp=>∃x size,ts=[x,.int size]/\Pl x/\Pp (.bl (Bz size x)) S
theorem Sz:Zv ["_law_thing","_law_size","_law_one"] ["_law_thing","_law_size"] (Zb (top 68)):=⟨rfl,rfl,rfl,by decide +kernel,rfl,by decide +kernel,by decide +kernel⟩
theorem Ls{m:Nat}(N:Nm P w K mg)(d:Aa K mg "_law_programs" ["_law_thing","_law_size"] (top 68))(c_law_row:Has P w K mg base m "_law_row" ["_law_thing","_law_least","_law_limit"] G1)(c_law_is_name:Has P w K mg base m "_law_is_name" ["_law_thing"] Fs)(c_law_pairs:Has P w K mg base m "_law_pairs" ["_law_thing","_law_limit","_law_size"] C3)(c_law_unlike:Has P w K mg base m "_law_unlike" ["_law_names_here"] Dd):Has P w K mg base (m+1) "_law_programs" ["_law_thing","_law_size"] O2:=by
 have sc:=Sz
 refine Ag (k:=m) d sc (fun ts S Pp h=>?_) fun cdv f A outer s H E hr=>?_
 ·obtain⟨x,size,rfl,_⟩:=h;rfl
 refine⟨_,(Zs (Zg (Ae (Xe (Zf c_law_row hr rfl (Zc (uv 0) (Ab (Cs.i (Cs.i Cs.nil))))))) (Zo (Zr Az)) Ze)
   (Zs (C5 PassesOwn.never rfl (Xu (uv 0)) (Ci 2 sc.nd) (Zs (Zg (UW.ut (Bg (Ae (Xe (Zf c_law_row hr rfl (Zc (uv 2) (Ab (Cs.i (Cs.i Cs.nil))))))) (Bg (Ae (Xe (Zf c_law_is_name hr rfl (Zc (Zx (uv 2) Zi) Zn)))) (Xs (Ae (Xe (Zf c_law_pairs hr rfl (Zc (Zx (uv 2) Zi) (Zc Zi (Zc (uv 1) Zn)))))))))) (Zo (Zr Az)) Ze)
   (Zo (Zg (Ae (Xe (Zf c_law_row hr rfl (Zc (Zx (uv 2) Zi) (Ab (Cs.i (Cs.i Cs.nil))))))) (Zo (Zr Az)) Ze))))
   (Zo (Zr (Zf c_law_unlike hr rfl (Zc (Xg 0 ["_law_one"] [none] rfl (Xu (uv 0)) (fun _ _ _ _ _=>Ak) (fun _ _ _ _ _=>(Zx (uv 0) Zi))) Zn)))))),fun ts S Pp h=>?_⟩
 obtain⟨x,size,rfl,px,h⟩:=h
 unfold Bz at h
 refine Zj (fun env S'=>∃ts,x=.tup ts/\env=[some x,some (.int size),none]/\S=S'/\Ah 1 4 x=true/\(ts.length:Int)<=4) (fun k hk=>⟨x,1,4,rfl,px,?_⟩) ?_
 ·cases e:Ah 1 4 x with
  |true =>
   obtain⟨ts,e2,_,l⟩:=At e
   exact no_ rfl (hk _ _ ⟨ts,e2,rfl,rfl,e,l⟩)
  |false=>rw[e,Bool.false_and] at h;exact yes_ rfl h
 rintro _ _ ⟨ts,rfl,rfl,rfl,er,l⟩
 have px:=Ai px
 rw[er,Bool.true_and,show items (.tup ts)=ts from rfl] at h
 let e0:Option T:=some (.tup ts)
 let e1:Option T:=some (.int size)
 refine Zj (fun env S'=>∃e2,env=[e0,e1,e2]/\S=S'/\∀t∈ts,progOk size t=true) (fun kk hkk=>?_) ?_
 ·refine⟨fun k env S'=>∃e2,env=[e0,e1,e2]/\S=S'/\∀t∈ts.take k,progOk size t=true,⟨none,rfl,rfl,fun _ z=>(by cases z)⟩,?_,?_⟩
  ·rintro k x env _ ek ⟨e2',rfl,rfl,hk⟩
   have mx:=List.mem_of_getElem? ek
   have pt:=px x mx
   have bad:progOk size x=false->Pp (.bl false) S:=fun e=>by
    have:ts.all (progOk size)=false:=List.all_eq_false.mpr ⟨x,mx,by rw[e];decide⟩
    rw[this,Bool.false_and] at h
    exact h
   have good:progOk size x=true->∀t∈ts.take (k+1),progOk size t=true:=fun e t ht=>by
    rw[List.take_add_one,ek] at ht
    rcases List.mem_append.mp ht with q|q
    ·exact hk t q
    ·rw[List.mem_singleton.mp q];exact e
   refine Zj (fun env S'=>∃n o st,x=.tup [n,o,st]/\env=[e0,e1,some x]/\S=S'/\progOk size x=Ah 0 30 st) (fun k2 hk2=>?_) ?_
   ·cases e1:Ah 3 3 x with
    |false=>exact Bv (fun P hP=>⟨x,3,3,rfl,pt,by rw[e1];exact hP⟩) (yes_ rfl (bad (by unfold progOk;rw[e1];rfl)))
    |true =>
     obtain⟨n,o,st,rfl⟩:=row3 e1
     have pn:=Ai pt n (by simp)
     have po:=Ai pt o (by simp)
     have ep:progOk size (.tup [n,o,st])=(isName n&&(A6 4 size o&&Ah 0 30 st)):=by
      show (Ah 3 3 (.tup [n,o,st])&&(isName n&&(A6 4 size o&&Ah 0 30 st)))=_
      rw[e1];rfl
     refine Bo (fun P hP=>⟨_,3,3,rfl,pt,by rw[e1];exact hP⟩) ?_
     cases e2:isName n with
     |false=>exact Bv (fun P hP=>⟨_,at0,n,rfl,pn,by rw[e2];exact hP⟩) (yes_ rfl (bad (by rw[ep,e2];rfl)))
     |true =>
      refine Bo (fun P hP=>⟨_,at0,n,rfl,pn,by rw[e2];exact hP⟩) ⟨_,at1,o,4,size,rfl,po,by decide,?_⟩
      cases e3:A6 4 size o with
      |false=>exact yes_ rfl (bad (by rw[ep,e2,e3];rfl))
      |true=>exact no_ rfl (hk2 _ _ ⟨n,o,st,rfl,rfl,rfl,by rw[ep,e2,e3];rfl⟩)
   rintro _ _ ⟨n,o,st,rfl,rfl,rfl,ep⟩
   refine⟨_,at2,st,0,30,rfl,Ai pt st (by simp),?_⟩
   cases e3:Ah 0 30 st with
   |false=>exact yes_ rfl (bad (by rw[ep,e3]))
   |true=>exact no_ rfl ⟨_,rfl,rfl,good (by rw[ep,e3])⟩
  ·rintro env _ ⟨e3,rfl,rfl,hk⟩
   rw[List.take_length] at hk
   exact hkk _ _ ⟨e3,rfl,rfl,hk⟩
 rintro _ _ ⟨e3,rfl,rfl,ha⟩
 have hh:∀x∈ts,∃y r,x=.tup (.str y::r):=fun x hx=>by
  obtain⟨n,o,s,rfl,_⟩:=Fd (ha x hx)
  exact⟨_,_,rfl⟩
 refine Ay (ts:=ts) (f:=Fu) (fun k hk=>hk) (Xp (by omega)) (fun x hx A B hA hB=>?_) ?_
 ·obtain⟨y,r,rfl⟩:=hh x hx
  exact⟨fun _=>⟨_,at0,hA _ rfl⟩,fun e=>(by cases e)⟩
 ·rw[Bh hh]
  have nl:=Cf ts
  rw[List.all_eq_true.mpr ha,Bool.true_and] at h
  exact⟨Xn ts,rfl,by omega,h⟩
def L9(f:T->Bool)(x:T):Option T:=if f x=true then none else some x
theorem Fb(f:T->Bool)(ts:List T):(ts.filterMap (L9 f)).isEmpty=ts.all f:=by
 rw[Bool.eq_iff_iff,List.isEmpty_iff,List.all_eq_true,List.filterMap_eq_nil_iff]
 constructor
 ·intro h x hx
  have q:=h x hx
  cases e:f x with
  |true=>rfl
  |false=>rw[show L9 f x=some x from if_neg (by rw[e];decide)] at q;cases q
 ·intro h x hx
  exact if_pos (h x hx)
def Ot:List T->TH->UX->Prop:=fun ts S Pp=>∃x b l p wk c,ts=[.lst [x,b,l,p,wk,c]]/\Pl x/\Pl b/\Pl l/\Pl p/\Pl wk/\Pl c/\Pp (.bl (formed x b l p wk c)) S
theorem R4:Zv ["_law_parts","_law_size","_law_boxes","_law_locks","_law_programs_here","_law_workers","_law_claims"] ["_law_parts"] (Zb (top 69)):=⟨rfl,rfl,rfl,by decide +kernel,rfl,by decide +kernel,by decide +kernel⟩
theorem Nk{m:Nat}(N:Nm P w K mg)(d:Aa K mg "_law_formed" ["_law_parts"] (top 69))(c_law_row:Has P w K mg base m "_law_row" ["_law_thing","_law_least","_law_limit"] G1)(c_law_is_name:Has P w K mg base m "_law_is_name" ["_law_thing"] Fs)(c_law_whole:Has P w K mg base m "_law_whole" ["_law_thing","_law_least","_law_limit"] Bs)(c_law_pairs:Has P w K mg base m "_law_pairs" ["_law_thing","_law_limit","_law_size"] C3)(c_law_programs:Has P w K mg base m "_law_programs" ["_law_thing","_law_size"] O2)(c_law_unlike:Has P w K mg base m "_law_unlike" ["_law_names_here"] Dd):Has P w K mg base (m+1) "_law_formed" ["_law_parts"] Ot:=by
 have sc:=R4
 refine Ag (k:=m) d sc (fun ts S Pp h=>?_) fun cdv f A outer s H E hr=>?_
 ·obtain⟨_,_,_,_,_,_,rfl,_⟩:=h;rfl
 have hu0:=Ar hr
 refine⟨_,(Zs (M7 (uv 0) (K7 rfl (By 1 sc.nd (By 2 sc.nd (By 3 sc.nd (By 4 sc.nd (By 5 sc.nd (By 6 sc.nd Id))))))))
   (Zs (Zg (UW.ut (Bg (Ae (Xe (Zf c_law_whole hr rfl (Zc (uv 1) (Ab (Cs.i (Cs.i Cs.nil))))))) (Bg (Ae (Xe (Zf c_law_pairs hr rfl (Zc (uv 2) (Zc Zi (Zc (uv 1) Zn)))))) (Xs (Ae (Xe (Zf c_law_row hr rfl (Zc (uv 3) (Ab (Cs.i (Cs.i Cs.nil))))))))))) (Zo (Zr Az)) Ze)
   (Zs (Zg (Jy hu0 (Xg 0 ["_law_lock"] [none] rfl (Xu (uv 3)) (fun _ _ _ _ _=>Dw (Ae (Xe (Zf c_law_is_name hr rfl (Zc (uv 0) Zn))))) (fun _ _ _ _ _=>(uv 0))) (Ac Zn)) (Zo (Zr Az)) Ze)
   (Zs (Zg (UW.ut (Bg (Ae (Xe (Zf c_law_unlike hr rfl (Zc (Zp (Xg 0 ["_law_box"] [none] rfl (Xu (uv 2)) (fun _ _ _ _ _=>Ak) (fun _ _ _ _ _=>(Zx (uv 0) Zi))) (Da rfl N.list (Zc (uv 3) Zn))) Zn)))) (Xs (Ae (Xe (Zf c_law_programs hr rfl (Zc (uv 4) (Zc (uv 1) Zn)))))))) (Zo (Zr Az)) Ze)
   (Zs (Zg (UW.ut (Bg (Ae (Xe (Zf c_law_row hr rfl (Zc (uv 5) (Ab (Cs.i (Cs.i Cs.nil))))))) (Xs (Ae (Xe (Zf c_law_row hr rfl (Zc (uv 6) (Ab (Cs.i (Cs.i Cs.nil)))))))))) (Zo (Zr Az)) Ze)
   (Zo (Zr (Fv hu0 (Xg 0 ["_law_one","_law_programs_here"] [none,some 4] rfl (Xu (uv 5)) (fun _ _ _ _ _=>Dw (Ae (Xe (Zf c_law_whole hr rfl (Zc (uv 0) (Zc Zi (Zc (A8 (Zl rfl N.len (Zc (uv 1) Zn)) Zi) Zn))))))) (fun _ _ _ _ _=>(uv 0))) (Ac Zn))))))))),fun ts S Pp h=>?_⟩
 obtain⟨x,b,l,p,wk,c,rfl,px,pb,pl,pp,pw,pc,h⟩:=h
 let e0:Option T:=some (.lst [x,b,l,p,wk,c])
 let ev:T->Ev:=fun x=>[e0,some x,some b,some l,some p,some wk,some c]
 refine Zj (fun env S'=>env=ev x/\S=S') (fun k hk=>⟨true,_,rfl,rfl,hk _ _ ⟨rfl,rfl⟩⟩) ?_
 rintro _ _ ⟨rfl,rfl⟩
 have bad:formed x b l p wk c=false->Pp (.bl false) S:=fun e=>by rw[e] at h;exact h
 refine Zj (fun env S'=>∃size bs ls,x=.int size/\b=.tup bs/\l=.tup ls/\env=ev x/\S=S'/\A7 2 16 x=true/\A6 8 size b=true/\Ah 0 4 l=true) (fun k hk=>?_) ?_
 ·cases e1:A7 2 16 x with
  |false=>exact Bv (fun P hP=>⟨x,2,16,rfl,px,by rw[e1];exact hP⟩) (yes_ rfl (bad (by cases x <;> first|rfl|(unfold formed;dsimp only;rw[e1];rfl))))
  |true =>
   obtain⟨size,rfl⟩:∃size,x=.int size:=by cases x <;> first|exact⟨_,rfl⟩|cases e1
   refine Bo (fun P hP=>⟨_,2,16,rfl,px,by rw[e1];exact hP⟩) ?_
   cases e2:A6 8 size b with
   |false=>exact Bv (fun P hP=>⟨b,8,size,rfl,pb,by decide,by rw[e2];exact hP⟩) (yes_ rfl (bad (by unfold formed Bt;dsimp only;rw[e2];simp)))
   |true =>
    refine Bo (fun P hP=>⟨b,8,size,rfl,pb,by decide,by rw[e2];exact hP⟩) ⟨l,0,4,rfl,pl,?_⟩
    cases e3:Ah 0 4 l with
    |false=>exact yes_ rfl (bad (by unfold formed Bt Bm;dsimp only;rw[e3];simp))
    |true =>
     obtain⟨bs,eb,_⟩:=B5 e2
     obtain⟨ls,el,_⟩:=At e3
     exact no_ rfl (hk _ _ ⟨size,bs,ls,rfl,eb,el,rfl,rfl,e1,e2,e3⟩)
 rintro _ _ ⟨size,bs,ls,rfl,rfl,rfl,rfl,rfl,e1,e2,e3⟩
 obtain⟨_,q,lb,hb,_⟩:=B5 e2
 cases q
 obtain⟨_,q,_,ll⟩:=At e3
 cases q
 have pls:=Ai pl
 refine Zj (fun env S'=>env=ev (.int size)/\S=S'/\ls.all isName=true) (fun k hk=>?_) ?_
 ·refine Ay (ts:=ls) (f:=L9 isName) (fun k hk=>hk) (Xp (by omega)) (fun y hy A B hA hB=>⟨y,rfl,pls y hy,?_⟩) ⟨Nat.zero_le _,?_⟩
  ·cases e:isName y with
   |true=>exact no_ rfl (hB (if_pos e))
   |false=>exact yes_ rfl (hA _ (if_neg (by rw[e];decide)))
  ·show (Bool.xor true ((ls.filterMap (L9 isName)).isEmpty)=true->_)/\_
   rw[Fb]
   cases e:ls.all isName with
   |true=>exact no_ rfl (hk _ _ ⟨rfl,rfl,e⟩)
   |false=>exact yes_ rfl (bad (by unfold formed Bt Bm;dsimp only;rw[show (items (.tup ls)).all isName=false from e];simp))
 rintro _ _ ⟨rfl,rfl,e4⟩
 have els:=Ha (List.all_eq_true.mp e4)
 have hh:∀x∈bs,∃y r,x=.tup (.str y::r):=fun x hx=>Be (hb x hx)
 have nl:=Cf bs
 have sl:(strsOf ls).length=ls.length:=by
  have:=congrArg List.length els
  rw[List.length_map] at this
  exact this.symm
 refine Zj (fun env S'=>env=ev (.int size)/\S=S'/\Bm (Xn bs) (.tup ls)=true/\Bz size p=true) (fun k hk=>?_) ?_
 ·have eu:Bm (Xn bs) (.tup ls)=decide (Xn bs++strsOf ls).Nodup:=by
   unfold Bm
   rw[e3,show items (.tup ls)=ls from rfl,e4];rfl
  cases e5:decide (Xn bs++strsOf ls).Nodup with
  |false =>
   refine Bv (fun P hP=>?_) (yes_ rfl (bad (by unfold formed Bt;dsimp only;rw[show Bm (Xn (items (.tup bs))) (.tup ls)=false from eu.trans e5];simp)))
   exact Ay (ts:=bs) (f:=Fu) (fun k hk=>hk) (Xp (by omega)) (fun x hx A B hA hB=>by
    obtain⟨y,r,rfl⟩:=hh x hx
    exact⟨fun _=>⟨_,at0,hA _ rfl⟩,fun e=>(by cases e)⟩) (by
    rw[Bh hh]
    exact⟨by rw[List.length_map];exact Xp (by omega),Xn bs++strsOf ls,by rw[List.map_append,<-els],by rw[List.length_append];omega,by rw[e5];exact hP⟩)
  |true =>
   refine Bo (fun P hP=>?_) ⟨p,size,rfl,pp,?_⟩
   ·exact Ay (ts:=bs) (f:=Fu) (fun k hk=>hk) (Xp (by omega)) (fun x hx A B hA hB=>by
    obtain⟨y,r,rfl⟩:=hh x hx
    exact⟨fun _=>⟨_,at0,hA _ rfl⟩,fun e=>(by cases e)⟩) (by
    rw[Bh hh]
    exact⟨by rw[List.length_map];exact Xp (by omega),Xn bs++strsOf ls,by rw[List.map_append,<-els],by rw[List.length_append];omega,by rw[e5];exact hP⟩)
   cases e6:Bz size p with
   |false=>exact yes_ rfl (bad (by unfold formed Bt;dsimp only;rw[e6];simp))
   |true=>exact no_ rfl (hk _ _ ⟨rfl,rfl,eu.trans e5,e6⟩)
 rintro _ _ ⟨rfl,rfl,e5,e6⟩
 obtain⟨ps,rfl,lp,_⟩:=Dt e6
 have ef:formed (.int size) (.tup bs) (.tup ls) (.tup ps) wk c=(Bx ps.length wk&&Ah 0 4 c):=by
  unfold formed Bt
  dsimp only
  rw[e1,e2,show Bm (Xn (items (.tup bs))) (.tup ls)=true from e5,e6]
  simp[items]
 refine Zj (fun env S'=>∃ws,wk=.tup ws/\env=ev (.int size)/\S=S'/\Ah 1 6 wk=true/\Ah 0 4 c=true) (fun k hk=>?_) ?_
 ·cases e7:Ah 1 6 wk with
  |false=>exact Bv (fun P hP=>⟨wk,1,6,rfl,pw,by rw[e7];exact hP⟩) (yes_ rfl (bad (by rw[ef];unfold Bx;rw[e7];rfl)))
  |true =>
   refine Bo (fun P hP=>⟨wk,1,6,rfl,pw,by rw[e7];exact hP⟩) ⟨c,0,4,rfl,pc,?_⟩
   cases e8:Ah 0 4 c with
   |false=>exact yes_ rfl (bad (by rw[ef,e8,Bool.and_false]))
   |true =>
    obtain⟨ws,ew,_⟩:=At e7
    exact no_ rfl (hk _ _ ⟨ws,ew,rfl,rfl,e7,e8⟩)
 rintro _ _ ⟨ws,rfl,rfl,rfl,e7,e8⟩
 obtain⟨_,q,_,lw⟩:=At e7
 cases q
 have pws:=Ai pw
 rw[ef,e8,Bool.and_true] at h
 unfold Bx at h
 rw[e7,Bool.true_and,show items (.tup ws)=ws from rfl] at h
 refine Ay (ts:=ws) (f:=L9 (A7 0 ((ps.length:Int) - 1))) (fun k hk=>hk) (Xp (by omega)) (fun y hy A B hA hB=>⟨y,0,_,rfl,pws y hy,?_⟩) ⟨Nat.zero_le _,?_⟩
 ·cases e:A7 0 ((ps.length:Int) - 1) y with
  |true=>exact no_ rfl (hB (if_pos e))
  |false=>exact yes_ rfl (hA _ (if_neg (by rw[e];decide)))
 ·show Pp (.bl (Bool.xor false ((ws.filterMap (L9 (A7 0 ((ps.length:Int) - 1)))).isEmpty))) S
  rw[Fb,Bool.false_xor]
  exact h
end
end K10
end
section
namespace K10
open PySem PySem.Spec PyProof.Rows L2 TL
seal UE UT UA US USs UI UG UO UW PTs Av Cd Ch uOr
theorem at3{a b c d:T}{r:List T}:atI (a::b::c::d::r) (3:Int)=some d:=Xb (j:=3) rfl
theorem at4{a b c d e:T}{r:List T}:atI (a::b::c::d::e::r) (4:Int)=some e:=Xb (j:=4) rfl
theorem at5{a b c d e f:T}{r:List T}:atI (a::b::c::d::e::f::r) (5:Int)=some f:=Xb (j:=5) rfl
theorem Nd{n k:Nat}{x:T}(h:(E9 n)[k]?=some x):k<n/\x=.int (k:Int):=by
 have hl:k<n:=by
  have:=(List.getElem?_eq_some_iff.mp h).1
  rw[Zh] at this;exact this
 rw[Cq hl] at h
 exact⟨hl,(Option.some.inj h).symm⟩
section
variable{P:Program}{w:World}{K:PySem.W.Frag}{mg:Str->Option Value}{base:Heap}
theorem Ln{size:Int}{x:T}{y:Str}{r:List T}(h:pairOk size x=true)(e:x=.tup (.str y::r)):Zw y=true:=by
 unfold pairOk at h
 rw[Bool.and_eq_true] at h
 obtain⟨a,b,rfl⟩:=Sx h.1
 cases e
 have q:=h.2
 simp only[Bool.and_eq_true] at q
 exact q.1
theorem J2{size:Int}{ts:List T}(h:∀t∈ts,pairOk size t=true)(hl:ts.length<=100):Nms (Xn ts):=by
 refine⟨Nat.le_trans (Cf ts) hl,fun z hz=>?_⟩
 obtain⟨t,ht,e⟩:=List.mem_filterMap.mp hz
 obtain⟨y,r,rfl⟩:=Be (h t ht)
 cases e
 exact Ln (h _ ht) rfl
theorem Uu{ts:List T}(h:∀t∈ts,isName t=true)(hl:ts.length<=100):Nms (strsOf ts):=by
 refine⟨Nat.le_trans (List.length_filterMap_le _ _) hl,fun z hz=>?_⟩
 obtain⟨t,ht,e⟩:=List.mem_filterMap.mp hz
 have q:=h t ht
 cases t <;> first|(cases e;exact q)|cases q
def Yb:List T->TH->UX->Prop:=fun ts S Pp=>∃x b l p wk c,ts=[.lst [x,b,l,p,wk,c]]/\Pl x/\Pl b/\Pl l/\Pl p/\Pl wk/\Pl c/\(formed x b l p wk c=false->Pp (.str "loom") S) ∧
 (formed x b l p wk c=true->(¬ StepsAll (Xn (items b)) (strsOf (items l)) (items p)->Pp (.str "step") S)/\(StepsAll (Xn (items b)) (strsOf (items l)) (items p)->(¬ ClaimsAll (Xn (items b)) c->Pp (.str "claim") S)/\(ClaimsAll (Xn (items b)) c->Pp (.str "") S)))
theorem Aad:Zv ["_law_parts","_law_boxes","_law_name","_law_owns","_law_steps_here","_law_k","_law_names_here"] ["_law_parts"] (Zb (top 70)):=⟨rfl,rfl,rfl,by decide +kernel,rfl,by decide +kernel,by decide +kernel⟩
theorem Tc{m:Nat}(N:Nm P w K mg)(d:Aa K mg "_law_kind" ["_law_parts"] (top 70))(c_law_formed:Has P w K mg base m "_law_formed" ["_law_parts"] Ot)(c_law_is_step:Has P w K mg base m "_law_is_step" ["_law_thing","_law_owns","_law_boxes","_law_locks","_law_behind"] Mf)(c_law_is_value:Has P w K mg base m "_law_is_value" ["_law_thing","_law_owns","_law_boxes","_law_deep"] (Mp 5)):Has P w K mg base (m+1) "_law_kind" ["_law_parts"] Yb:=by
 have sc:=Aad
 refine Ag (k:=m) d sc (fun ts S Pp h=>?_) fun cdv f A outer s H E hr=>?_
 ·obtain⟨_,_,_,_,_,_,rfl,_⟩:=h;rfl
 have hu0:=Ar hr
 refine⟨_,(Zs (Zg (Ae (Xe (Zf c_law_formed hr rfl (Zc (uv 0) Zn)))) (Zo (Zr Zq)) Ze)
   (Zs (Zt 1 sc.nd (Xg 0 ["_law_box"] [none] rfl (Xu (Zx (uv 0) Zi)) (fun _ _ _ _ _=>Ak) (fun _ _ _ _ _=>(Zx (uv 0) Zi))))
   (Zs (C5 PassesOwn.never rfl (Xu (Zx (uv 0) Zi)) (Jx 2 3 4 rfl sc.nd) (Zo (C5 PassesOwn.never rfl (Aw rfl N.range (Zc (Zl rfl N.len (Zc (uv 4) Zn)) Zn)) (Ci 5 sc.nd) (Zs (De 6 sc.nd 0 ["_law_own"] [none] rfl (Xu (uv 3)) (fun _ _ _ _ _=>Ak) (fun _ _ _ _ _=>(Zx (uv 0) Zi)))
   (Zo (Zg (Ae (Xe (Zf c_law_is_step hr rfl (Zc (Zx (uv 4) (uv 5)) (Zc (uv 6) (Zc (uv 1) (Zc (Da rfl N.list (Zc (Zx (uv 0) Zi) Zn)) (Zc (A8 (A8 (Zl rfl N.len (Zc (uv 4) Zn)) Zi) (uv 5)) Zn)))))))) (Zo (Zr Zq)) Ze))))))
   (Zs (Zg (Jy hu0 (Xg 0 ["_law_claim","_law_boxes"] [none,some 1] rfl (Xu (Zx (uv 0) Zi)) (fun _ _ _ _ _=>Dw (Ae (Xe (Zf c_law_is_value hr rfl (Zc (uv 0) (Zc (Ac Zn) (Zc (uv 1) (Zc Zi Zn)))))))) (fun _ _ _ _ _=>(uv 0))) (Ac Zn)) (Zo (Zr Zq)) Ze)
   (Zo (Zr Zq)))))),fun ts S Pp h=>?_⟩
 obtain⟨x,b,l,p,wk,c,rfl,px,pb,pl,pp,pw,pc,hL,hS⟩:=h
 let e0:Option T:=some (.lst [x,b,l,p,wk,c])
 refine Zj (fun env S'=>env=[e0,none,none,none,none,none,none]/\S=S'/\formed x b l p wk c=true) (fun k hk=>⟨x,b,l,p,wk,c,rfl,px,pb,pl,pp,pw,pc,?_⟩) ?_
 ·cases e:formed x b l p wk c with
  |true=>exact no_ rfl (hk _ _ ⟨rfl,rfl,e⟩)
  |false=>exact yes_ rfl (hL e)
 rintro _ _ ⟨rfl,rfl,hf⟩
 obtain⟨h1,h2⟩:=hS hf
 obtain⟨size,rfl⟩:∃size,x=.int size:=by cases x <;> first|exact⟨_,rfl⟩|cases hf
 unfold formed at hf
 dsimp only at hf
 rw[Bool.and_eq_true] at hf
 have hf:=hf.2
 unfold Bt at hf
 simp only[Bool.and_eq_true] at hf
 obtain⟨fb,fl,fp,fw,fc⟩:=hf
 obtain⟨bs,rfl,lb,hb,_⟩:=B5 fb
 obtain⟨ls,rfl,ll,el⟩:=Ij fl
 have hls:∀t∈ls,isName t=true:=by
  unfold Bm at fl
  simp only[Bool.and_eq_true] at fl
  exact List.all_eq_true.mp fl.2.1
 obtain⟨ps,rfl,lp,hp⟩:=Dt fp
 obtain⟨cs,rfl,_,lc⟩:=At fc
 have nb:=J2 hb (by omega)
 have nl:=Uu hls (by omega)
 have hh:∀x∈bs,∃y r,x=.tup (.str y::r):=fun x hx=>Be (hb x hx)
 let eb:Option T:=some (.lst ((Xn bs).map T.str))
 refine Zj (fun env S'=>env=[e0,eb,none,none,none,none,none]/\S=S') (fun k hk=>Ay (ts:=bs) (f:=Fu) (fun k hk=>⟨_,at1,hk⟩) (Xp (by omega)) (fun x hx A B hA hB=>?_) ?_) ?_
 ·obtain⟨y,r,rfl⟩:=hh x hx
  exact⟨fun _=>⟨_,at0,hA _ rfl⟩,fun e=>(by cases e)⟩
 ·rw[Bh hh]
  exact hk _ _ ⟨rfl,rfl⟩
 rintro _ _ ⟨rfl,rfl⟩
 refine Zj (fun env S'=>∃e2 e3 e4 e5 e6,env=[e0,eb,e2,e3,e4,e5,e6]/\S=S'/\StepsAll (Xn bs) (strsOf ls) ps) (fun kk hkk=>⟨_,at3,?_⟩) ?_
 ·refine⟨fun k env S'=>∃e2 e3 e4 e5 e6,env=[e0,eb,e2,e3,e4,e5,e6]/\S=S'/\∀(i:Nat) n os ss,i<k->ps[i]?=some (.tup [n,.tup os,.tup ss])->∀(j:Nat) t,ss[j]?=some t->Al (Xn os) (Xn bs) (strsOf ls) ((ss.length:Int) - (j:Int) - 1) t=true,⟨none,none,none,none,none,rfl,rfl,fun i _ _ _ hi=>by omega⟩,?_,?_⟩
  ·rintro k x env _ ek ⟨e2,e3,e4,e5,e6,rfl,rfl,hk0⟩
   have mx:=List.mem_of_getElem? ek
   obtain⟨n,o,ss,rfl,ho,hs⟩:=Fd (hp x mx)
   obtain⟨os,rfl,lo,hos,_⟩:=B5 ho
   obtain⟨ss,rfl,_,lss⟩:=At hs
   have ppx:=Ai pp _ mx
   have pss:=Ai (Ai ppx (.tup ss) (by simp))
   have no:=J2 hos (by omega)
   let e2:Option T:=some (.str n)
   let e3:Option T:=some (.tup os)
   let e4:Option T:=some (.tup ss)
   refine⟨by omega,by omega,fun j env S'=>∃e5 e6,env=[e0,eb,e2,e3,e4,e5,e6]/\S=S'/\∀(i:Nat) t,i<j->ss[i]?=some t->Al (Xn os) (Xn bs) (strsOf ls) ((ss.length:Int) - (i:Int) - 1) t=true,⟨_,_,rfl,rfl,fun i _ hi=>by omega⟩,?_,?_⟩
   ·rintro j y env _ ej ⟨e5,e6,rfl,rfl,hj⟩
    obtain⟨hlt,rfl⟩:=Nd ej
    have hlt:j<ss.length:=by omega
    have et:=List.getElem?_eq_getElem hlt
    have pt:=pss _ (List.getElem_mem hlt)
    generalize ss[j]=t at et pt
    let e5:Option T:=some (.int (j:Int))
    refine Zj (fun env S'=>env=[e0,eb,e2,e3,e4,e5,some (.lst ((Xn os).map T.str))]/\S=S') (fun k hk=>Ay (ts:=os) (f:=Fu) (fun k hk=>hk) (Xp (by omega)) (fun x hx A B hA hB=>?_) ?_) ?_
    ·obtain⟨y,r,rfl⟩:=Be (hos x hx)
     exact⟨fun _=>⟨_,at0,hA _ rfl⟩,fun e=>(by cases e)⟩
    ·rw[Bh fun x hx=>Be (hos x hx)]
     exact hk _ _ ⟨rfl,rfl⟩
    rintro _ _ ⟨rfl,rfl⟩
    refine⟨_,Xb et,_,at2,t,Xn os,Xn bs,strsOf ls,(ss.length:Int) - 1 - (j:Int),by rw[<-el],pt,no,nb,nl,?_⟩
    rw[show (ss.length:Int) - 1 - (j:Int)=(ss.length:Int) - (j:Int) - 1 by omega]
    cases hv:Al (Xn os) (Xn bs) (strsOf ls) ((ss.length:Int) - (j:Int) - 1) t with
    |true =>
     refine no_ rfl ⟨_,_,rfl,rfl,fun i u hi eu=>?_⟩
     by_cases e:i=j
     ·subst e;rw[et] at eu;cases eu;exact hv
     ·exact hj i u (by omega) eu
    |false =>
     refine yes_ rfl (h1 fun al=>?_)
     have q:=al (.str n) os ss mx j t et
     have q:Al (Xn os) (Xn bs) (strsOf ls) ((ss.length:Int) - (j:Int) - 1) t=true:=q
     rw[hv] at q;cases q
   ·rintro env _ ⟨e5,e6,rfl,rfl,hj⟩
    refine⟨_,_,_,_,_,rfl,rfl,fun i n' os' ss' hi ei=>?_⟩
    by_cases e:i=k
    ·subst e
     rw[ek] at ei
     cases ei
     exact fun j t et=>hj j t (by rw[Zh];have:=(List.getElem?_eq_some_iff.mp et).1;omega) et
    ·exact hk0 i n' os' ss' (by omega) ei
  ·rintro env _ ⟨e2,e3,e4,e5,e6,rfl,rfl,hk0⟩
   refine hkk _ _ ⟨_,_,_,_,_,rfl,rfl,fun n os ss hm=>?_⟩
   obtain⟨i,ei⟩:=List.mem_iff_getElem?.mp hm
   exact hk0 i n os ss (List.getElem?_eq_some_iff.mp ei).1 ei
 rintro _ _ ⟨e2,e3,e4,e5,e6,rfl,rfl,hst⟩
 obtain⟨h3,h4⟩:=h2 hst
 have pcs:=Ai pc
 have nn:Nms ([]:List Str):=⟨by decide,fun _ z=>(by cases z)⟩
 refine Zj (fun env S'=>S=S'/\ClaimsAll (Xn bs) (.tup cs)) (fun k hk=>?_) ?_
 ·refine Ay (ts:=cs) (f:=L9 (valOk 5 [] (Xn bs))) (fun k hk=>⟨_,at5,hk⟩) (Xp (by omega)) (fun y hy A B hA hB=>⟨show 0<=sizeLine by decide,y,[],Xn bs,rfl,pcs y hy,nn,nb,?_⟩) ⟨Nat.zero_le _,?_⟩
  ·cases e:valOk 5 [] (Xn bs) y with
   |true=>exact no_ rfl (hB (if_pos e))
   |false=>exact yes_ rfl (hA _ (if_neg (by rw[e];decide)))
  ·show (Bool.xor true ((cs.filterMap (L9 (valOk 5 [] (Xn bs)))).isEmpty)=true->_)/\_
   rw[Fb]
   cases e:cs.all (valOk 5 [] (Xn bs)) with
   |true=>exact no_ rfl (hk _ _ ⟨rfl,fun t ht=>List.all_eq_true.mp e t ht⟩)
   |false =>
    refine yes_ rfl (h3 fun al=>?_)
    have q:cs.all (valOk 5 [] (Xn bs))=true:=List.all_eq_true.mpr fun t ht=>al t ht
    rw[q] at e;cases e
 rintro _ _ ⟨rfl,hcl⟩
 exact h4 hcl
end
end K10
end
section
namespace K10
open PySem PySem.Spec PyProof.Rows L2 TL
seal UE UT UA US USs UI UG UO UW PTs Av Cd Ch uOr
section
variable{P:Program}{w:World}{K:PySem.W.Frag}{mg:Str->Option Value}{base:Heap}
def Ki:List T->TH->UX->Prop:=fun ts S Pp=>∃x b l p wk c,ts=[.lst [x,b,l,p,wk,c]]/\Pl x/\Pl b/\Pl l/\Pl p/\Pl wk/\Pl c/\(formed x b l p wk c=false->∀S',Pp (.str "loom") S') ∧
 (formed x b l p wk c=true->(¬ StepsAll (Xn (items b)) (strsOf (items l)) (items p)->∀S',Pp (.str "step") S')/\(StepsAll (Xn (items b)) (strsOf (items l)) (items p)->(¬ ClaimsAll (Xn (items b)) c->∀S',Pp (.str "claim") S')/\(ClaimsAll (Xn (items b)) c->∀S',Pp (.lst [.tup [x,b,l,p,wk,c]]) S')))
theorem Z8:Zv ["_law_parts","_law_found","e"] ["_law_parts"] (Zb (top 73)):=⟨rfl,rfl,rfl,by decide +kernel,rfl,by decide +kernel,by decide +kernel⟩
theorem j1:Txt.join "" ["loom","",""]=("loom":Str):=by decide +kernel
theorem j2:Txt.join "" ["","step",""]=("step":Str):=by decide +kernel
theorem j3:Txt.join "" ["","","claim"]=("claim":Str):=by decide +kernel
theorem Uy{m:Nat}(N:Nm P w K mg)(d:Aa K mg "_law_told" ["_law_parts"] (top 73))(c_loom_of:Gz P w K mg base m "loom_of" ["size","boxes","locks","programs","workers","claims"] (Iz (cAt mg "NoLoom") (cAt mg "NoStep") (cAt mg "NoClaim"))):Has P w K mg base (m+1) "_law_told" ["_law_parts"] Ki:=by
 have sc:=Z8
 refine Ag (k:=m) d sc (fun ts S Pp h=>?_) fun cdv f A outer s H E hr=>?_
 ·obtain⟨_,_,_,_,_,_,rfl,_⟩:=h;rfl
 refine⟨_,(Zs (Aar (iy:=1) (iz:=2) rfl rfl rfl rfl sc.nd c_loom_of hr rfl (Zc (Zx (uv 0) Zi) (Zc (Zx (uv 0) Zi) (Zc (Zx (uv 0) Zi) (Zc (Zx (uv 0) Zi) (Zc (Zx (uv 0) Zi) (Zc (Zx (uv 0) Zi) Zn)))))) rfl N.LoomError_at N.LoomError_kts (fun a oe=>(T6 (Gj (q:=oe.cls=.ref (cAt mg "NoLoom")/\oe.dict=none/\∃vs,oe.data=.fields vs) fun ho =>
   (Zs (Zg (UW.ut (Bg (Ae (Xe (Bi N.NoLoom_exd (List.mem_cons_self ..) ho rfl N.isinstance (Zc (uv 2) (Zc (Xv rfl N.ValueError Cv) Zn))))) (Xs (Xe (Bi N.NoLoom_exd (List.mem_cons_self ..) ho rfl N.isinstance (Zc (uv 2) (Zc (Zu (Zc (Aq rfl N.NoMove_at) (Zc (Aq rfl N.NoText_at) (Zc (Aq rfl N.NoWay_at) (Zc (Aq rfl N.TooMany_at) Zn))))) Zn))))))) (Zo (Zr Zq)) Ze)
   (Zo (Zr (Kp Zq (Zc (Ac (Zc (Zx (Ac (Ab (Cs.s (Cs.s Cs.nil)))) (Cj rfl N.int (Zc (Bi N.NoLoom_exd (List.mem_cons_self ..) ho rfl N.isinstance (Zc (uv 2) (Zc (Aq rfl N.NoLoom_at) Zn))) Zn))) (Zc (Zx (Ac (Ab (Cs.s (Cs.s Cs.nil)))) (Cj rfl N.int (Zc (Bi N.NoLoom_exd (List.mem_cons_self ..) ho rfl N.isinstance (Zc (uv 2) (Zc (Aq rfl N.NoStep_at) Zn))) Zn))) (Zc (Zx (Ac (Ab (Cs.s (Cs.s Cs.nil)))) (Cj rfl N.int (Zc (Bi N.NoLoom_exd (List.mem_cons_self ..) ho rfl N.isinstance (Zc (uv 2) (Zc (Aq rfl N.NoClaim_at) Zn))) Zn))) Zn)))) Zn)))))) (T6 (Gj (q:=oe.cls=.ref (cAt mg "NoStep")/\oe.dict=none/\∃vs,oe.data=.fields vs) fun ho =>
   (Zs (Zg (UW.ut (Bg (Ae (Xe (Bi N.NoStep_exd (List.mem_cons_self ..) ho rfl N.isinstance (Zc (uv 2) (Zc (Xv rfl N.ValueError Cv) Zn))))) (Xs (Xe (Bi N.NoStep_exd (List.mem_cons_self ..) ho rfl N.isinstance (Zc (uv 2) (Zc (Zu (Zc (Aq rfl N.NoMove_at) (Zc (Aq rfl N.NoText_at) (Zc (Aq rfl N.NoWay_at) (Zc (Aq rfl N.TooMany_at) Zn))))) Zn))))))) (Zo (Zr Zq)) Ze)
   (Zo (Zr (Kp Zq (Zc (Ac (Zc (Zx (Ac (Ab (Cs.s (Cs.s Cs.nil)))) (Cj rfl N.int (Zc (Bi N.NoStep_exd (List.mem_cons_self ..) ho rfl N.isinstance (Zc (uv 2) (Zc (Aq rfl N.NoLoom_at) Zn))) Zn))) (Zc (Zx (Ac (Ab (Cs.s (Cs.s Cs.nil)))) (Cj rfl N.int (Zc (Bi N.NoStep_exd (List.mem_cons_self ..) ho rfl N.isinstance (Zc (uv 2) (Zc (Aq rfl N.NoStep_at) Zn))) Zn))) (Zc (Zx (Ac (Ab (Cs.s (Cs.s Cs.nil)))) (Cj rfl N.int (Zc (Bi N.NoStep_exd (List.mem_cons_self ..) ho rfl N.isinstance (Zc (uv 2) (Zc (Aq rfl N.NoClaim_at) Zn))) Zn))) Zn)))) Zn)))))) (Gj (q:=oe.cls=.ref (cAt mg "NoClaim")/\oe.dict=none/\∃vs,oe.data=.fields vs) fun ho =>
   (Zs (Zg (UW.ut (Bg (Ae (Xe (Bi N.NoClaim_exd (List.mem_cons_self ..) ho rfl N.isinstance (Zc (uv 2) (Zc (Xv rfl N.ValueError Cv) Zn))))) (Xs (Xe (Bi N.NoClaim_exd (List.mem_cons_self ..) ho rfl N.isinstance (Zc (uv 2) (Zc (Zu (Zc (Aq rfl N.NoMove_at) (Zc (Aq rfl N.NoText_at) (Zc (Aq rfl N.NoWay_at) (Zc (Aq rfl N.TooMany_at) Zn))))) Zn))))))) (Zo (Zr Zq)) Ze)
   (Zo (Zr (Kp Zq (Zc (Ac (Zc (Zx (Ac (Ab (Cs.s (Cs.s Cs.nil)))) (Cj rfl N.int (Zc (Bi N.NoClaim_exd (List.mem_cons_self ..) ho rfl N.isinstance (Zc (uv 2) (Zc (Aq rfl N.NoLoom_at) Zn))) Zn))) (Zc (Zx (Ac (Ab (Cs.s (Cs.s Cs.nil)))) (Cj rfl N.int (Zc (Bi N.NoClaim_exd (List.mem_cons_self ..) ho rfl N.isinstance (Zc (uv 2) (Zc (Aq rfl N.NoStep_at) Zn))) Zn))) (Zc (Zx (Ac (Ab (Cs.s (Cs.s Cs.nil)))) (Cj rfl N.int (Zc (Bi N.NoClaim_exd (List.mem_cons_self ..) ho rfl N.isinstance (Zc (uv 2) (Zc (Aq rfl N.NoClaim_at) Zn))) Zn))) Zn)))) Zn))))))))))
   (Zo (Zr (Ac (Zc (uv 1) Zn))))),fun ts S Pp h=>?_⟩
 obtain⟨x,b,l,p,wk,c,rfl,px,pb,pl,pp,pw,pc,hL,hS⟩:=h
 have o1:1<=sizeLine:=by decide
 have o2:2<=sizeLine:=by decide
 have o3:3<=sizeLine:=by decide
 have o4:4<=sizeLine:=by decide
 let e0:Option T:=some (.lst [x,b,l,p,wk,c])
 refine Zj (fun env S'=>∃e2,env=[e0,some (.tup [x,b,l,p,wk,c]),e2]/\∀S',Pp (.lst [.tup [x,b,l,p,wk,c]]) S') (fun k hk=>?_) ?_
 ·refine⟨_,at0,_,at1,_,at2,_,at3,_,at4,_,at5,x,b,l,p,wk,c,rfl,px,pb,pl,pp,pw,pc,fun e=>?_,fun e=>⟨fun ns=>?_,fun fs=>⟨fun nc=>?_,fun hc=>hk _ _ ⟨none,rfl,((hS e).2 fs).2 hc⟩⟩⟩⟩
  ·refine⟨_,rfl,N.NoLoom_sub,fun a oe ho=>.inl ⟨ho,?_⟩⟩
   refine Zj (fun env S'=>env=[e0,none,some (.ref a)]) (fun k hk=>Bo (fun P hP=>⟨true,.inl ⟨_,rfl,N.NoLoom_isV⟩,hP⟩) ⟨o4,false,.inr (.inr ⟨[_,_,_,_],rfl,N.NoLoom_any⟩),no_ rfl (hk _ _ rfl)⟩) ?_
   rintro _ S1 rfl
   exact⟨o2,true,.inr (.inl ⟨_,rfl,N.NoLoom_is_NoLoom⟩),_,at1,o2,false,.inr (.inl ⟨_,rfl,N.NoLoom_is_NoStep⟩),_,at0,o2,false,.inr (.inl ⟨_,rfl,N.NoLoom_is_NoClaim⟩),_,at0,o3,["loom","",""],rfl,by decide +kernel,by rw[j1];exact hL e _⟩
  ·refine⟨_,rfl,N.NoStep_sub,fun a oe ho=>.inr (.inl ⟨ho,?_⟩)⟩
   refine Zj (fun env S'=>env=[e0,none,some (.ref a)]) (fun k hk=>Bo (fun P hP=>⟨true,.inl ⟨_,rfl,N.NoStep_isV⟩,hP⟩) ⟨o4,false,.inr (.inr ⟨[_,_,_,_],rfl,N.NoStep_any⟩),no_ rfl (hk _ _ rfl)⟩) ?_
   rintro _ S1 rfl
   exact⟨o2,false,.inr (.inl ⟨_,rfl,N.NoStep_is_NoLoom⟩),_,at0,o2,true,.inr (.inl ⟨_,rfl,N.NoStep_is_NoStep⟩),_,at1,o2,false,.inr (.inl ⟨_,rfl,N.NoStep_is_NoClaim⟩),_,at0,o3,["","step",""],rfl,by decide +kernel,by rw[j2];exact(hS e).1 ns _⟩
  ·refine⟨_,rfl,N.NoClaim_sub,fun a oe ho=>.inr (.inr ⟨ho,?_⟩)⟩
   refine Zj (fun env S'=>env=[e0,none,some (.ref a)]) (fun k hk=>Bo (fun P hP=>⟨true,.inl ⟨_,rfl,N.NoClaim_isV⟩,hP⟩) ⟨o4,false,.inr (.inr ⟨[_,_,_,_],rfl,N.NoClaim_any⟩),no_ rfl (hk _ _ rfl)⟩) ?_
   rintro _ S1 rfl
   exact⟨o2,false,.inr (.inl ⟨_,rfl,N.NoClaim_is_NoLoom⟩),_,at0,o2,false,.inr (.inl ⟨_,rfl,N.NoClaim_is_NoStep⟩),_,at0,o2,true,.inr (.inl ⟨_,rfl,N.NoClaim_is_NoClaim⟩),_,at1,o3,["","","claim"],rfl,by decide +kernel,by rw[j3];exact((hS e).2 fs).1 nc _⟩
 rintro _ S1 ⟨e2,rfl,h⟩
 exact⟨o1,h _⟩
end
end K10
end
section
namespace K10
open PySem PySem.Spec PyProof.Rows L2 TL
seal UE UT UA US USs UI UG UO UW PTs Av Cd Ch uOr
theorem Kx{pick:List (Option Nat)}{ti:UTA}{env:Ev}{S:TH}{gg:UTG}{tc:UTT}{te:UTE}{P:UX}(h:ti env S fun ts S1=>Av pick (fun _ S2 k=>k ts S2) gg tc te env S1 P):Av pick ti gg tc te env S P:=by
 unfold Av at h ⊢
 exact h
def Six(ps:List T):Prop:=∃x b l p wk c,ps=[x,b,l,p,wk,c]/\Pl x/\Pl b/\Pl l/\Pl p/\Pl wk/\Pl c
theorem Fz{zs:List Str}(h:∀z∈zs,Zw z=true)(lo hi:Option Int):∀t∈cutA (zs.map T.str) lo hi,Pl t:=fun t ht=>by
 obtain⟨z,hz,rfl⟩:=List.mem_map.mp (Hl ht)
 exact Bc (Ax (h z hz))
section
variable{P:Program}{w:World}{K:PySem.W.Frag}{mg:Str->Option Value}{base:Heap}
def Xx:List T->TH->UX->Prop:=fun ts S Pp=>∃(size:Int) (r:List T) (a:Addr),ts=[.lst (.int size::r),.ref a]/\Sd S a/\2<=size/\∀ps S',Six ps->Pp (.lst ps) S'
theorem Yo:Zv ["_law_parts","_law_state_here","_law_names_here","_law_size","_law_boxes","_law_locks","_law_owns","_law_programs_here"] ["_law_parts","_law_state_here"] (Zb (top 71)):=⟨rfl,rfl,rfl,by decide +kernel,rfl,by decide +kernel,by decide +kernel⟩
theorem Uk{m:Nat}(N:Nm P w K mg)(d:Aa K mg "_law_more" ["_law_parts","_law_state_here"] (top 71))(c_law_next:Has P w K mg base m "_law_next" ["_law_state_here","_law_size"] Dc)(c_law_names:Has P w K mg base m "_law_names" ["_law_state_here","_law_amount"] Ll):Has P w K mg base (m+1) "_law_more" ["_law_parts","_law_state_here"] Xx:=by
 have sc:=Yo
 refine Ag (k:=m) d sc (fun ts S Pp h=>?_) fun cdv f A outer s H E hr=>?_
 ·obtain⟨_,_,_,rfl,_⟩:=h;rfl
 refine⟨_,(Zs (Zt 2 sc.nd (Zf c_law_names hr rfl (Zc (uv 1) (Zc Zi Zn))))
   (Zs (Zt 3 sc.nd (Zx (uv 0) Zi))
   (Zs (Zt 4 sc.nd (Am rfl N.tuple (Zc (Xg 0 ["_law_name","_law_state_here","_law_size"] [none,some 1,some 3] rfl (Xu (Bp (uv 2) Af (Ad (Zp Zi (Zf c_law_next hr rfl (Zc (uv 1) (Zc Zi Zn))))))) (fun _ _ _ _ _=>Ak) (fun _ _ _ _ _=>(Zu (Zc (uv 0) (Zc (Zf c_law_next hr rfl (Zc (uv 1) (Zc (uv 2) Zn))) Zn))))) Zn)))
   (Zs (Zt 5 sc.nd (Am rfl N.tuple (Zc (Bp (uv 2) (Ad Zi) (Ad (Zp Zi (Zf c_law_next hr rfl (Zc (uv 1) (Zc Zi Zn)))))) Zn)))
   (Zs (Zt 6 sc.nd (Am rfl N.tuple (Zc (Xg 0 ["_law_name"] [none] rfl (Xu (Bp (uv 2) (Ad Zi) (Ad (Zp Zi (Zf c_law_next hr rfl (Zc (uv 1) (Zc Zi Zn))))))) (fun _ _ _ _ _=>Ak) (fun _ _ _ _ _=>(Zu (Zc (uv 0) (Zc Zi Zn))))) Zn)))
   (Zs (Zt 7 sc.nd (Am rfl N.tuple (Zc (Xg 0 ["_law_name","_law_owns"] [none,some 6] rfl (Xu (Bp (uv 2) Af (Ad (Zp Zi (Zf c_law_next hr rfl (Zc (uv 1) (Zc Zi Zn))))))) (fun _ _ _ _ _=>Ak) (fun _ _ _ _ _=>(Zu (Zc (uv 0) (Zc (uv 1) (Zc (Zu Zn) Zn)))))) Zn)))
   (Zo (Zr (Ac (Zc (uv 3) (Zc (uv 4) (Zc (uv 5) (Zc (uv 7) (Zc (Vl rfl rfl N.tuple rfl N.range (Zc (Y2 rfl rfl N.min (Zc Zi (Zc (Zl rfl N.len (Zc (uv 7) Zn)) Zn))) Zn)) (Zc (Zu Zn) Zn))))))))))))))),fun ts S0 Pp h=>?_⟩
 obtain⟨size,r,a,rfl,sd,s2,h⟩:=h
 have o2:2<=sizeLine:=by decide
 have o3:3<=sizeLine:=by decide
 have z0:0<=sizeLine:=by decide
 let e0:Option T:=some (.lst (.int size::r))
 let e1:Option T:=some (.ref a)
 refine Zj (fun env S=>∃zs:List Str,env=[e0,e1,some (.lst (zs.map T.str)),none,none,none,none,none]/\Sd S a/\zs.length=14/\∀z∈zs,Zw z=true) (fun k hk=>⟨a,14,rfl,sd,by decide,fun zs S3 d3 hz ok nd=>hk _ _ ⟨zs,rfl,d3.sd,hz,ok⟩⟩) ?_
 clear sd
 rintro _ S1 ⟨zs,rfl,sd,hz,ok⟩
 let e2:Option T:=some (.lst (zs.map T.str))
 have lc:∀lo hi,(cutA (zs.map T.str) lo hi).length<=14:=fun lo hi=>by
  have:=As (zs.map T.str) lo hi
  rw[List.length_map] at this
  omega
 refine Zj (fun env S=>env=[e0,e1,e2,some (.int size),none,none,none,none]/\Sd S a) (fun k hk=>⟨_,at0,hk _ _ ⟨rfl,sd⟩⟩) ?_
 clear sd
 rintro _ S1 ⟨rfl,sd⟩
 let e3:Option T:=some (.int size)
 refine Zj (fun env S=>∃bs,env=[e0,e1,e2,e3,some (.tup bs),none,none,none]/\Sd S a/\∀t∈bs,Pl t) (fun k hk=>Kx ⟨a,2,rfl,sd,by decide,fun q S3 d3 _ _=>?_⟩) ?_
 ·refine Co (S1:=S3) (cutA (zs.map T.str) none (some (8+q))) (fun _ acc S'=>Sd S' a/\∀t∈acc,Pl t) (fun k hk=>hk) (Xp (by have:=lc none (some (8+q));omega)) ⟨d3.sd,fun _ z=>(by cases z)⟩ ?_ ?_
  ·rintro k x acc S ek ⟨sd,ha⟩
   have px:=Fz ok _ _ x (List.mem_of_getElem? ek)
   exact⟨fun _=>⟨a,size,rfl,sd,by omega,fun v S4 d4 _ _=>⟨o2,d4.sd,Ap ha (Xd (.tup (Xd px (Xd (.int _) al_nil))) al_nil)⟩⟩,fun z=>(by cases z)⟩
  ·rintro acc S ⟨sd,ha⟩
   exact hk _ _ ⟨acc,rfl,sd,ha⟩
 clear sd
 rintro _ S1 ⟨bs,rfl,sd,pb⟩
 let e4:Option T:=some (.tup bs)
 refine Zj (fun env S=>∃ls,env=[e0,e1,e2,e3,e4,some (.tup ls),none,none]/\Sd S a/\∀t∈ls,Pl t) (fun k hk=>⟨a,2,rfl,sd,by decide,fun q S3 d3 _ _=>hk _ _ ⟨_,rfl,d3.sd,Fz ok _ _⟩⟩) ?_
 clear sd
 rintro _ S1 ⟨ls,rfl,sd,pls⟩
 let e5:Option T:=some (.tup ls)
 refine Zj (fun env S=>∃os,env=[e0,e1,e2,e3,e4,e5,some (.tup os),none]/\Sd S a/\∀t∈os,Pl t) (fun k hk=>Kx ⟨a,2,rfl,sd,by decide,fun q S3 d3 _ _=>?_⟩) ?_
 ·refine Co (S1:=S3) (cutA (zs.map T.str) (some 3) (some (7+q))) (fun _ acc S'=>Sd S' a/\∀t∈acc,Pl t) (fun k hk=>hk) (Xp (by have:=lc (some 3) (some (7+q));omega)) ⟨d3.sd,fun _ z=>(by cases z)⟩ ?_ ?_
  ·rintro k x acc S ek ⟨sd,ha⟩
   have px:=Fz ok _ _ x (List.mem_of_getElem? ek)
   exact⟨fun _=>⟨o2,sd,Ap ha (Xd (.tup (Xd px (Xd (.int _) al_nil))) al_nil)⟩,fun z=>(by cases z)⟩
  ·rintro acc S ⟨sd,ha⟩
   exact hk _ _ ⟨acc,rfl,sd,ha⟩
 clear sd
 rintro _ S1 ⟨os,rfl,sd,po⟩
 let e6:Option T:=some (.tup os)
 refine Zj (fun env S=>∃ps,env=[e0,e1,e2,e3,e4,e5,e6,some (.tup ps)]/\∀t∈ps,Pl t) (fun k hk=>Kx ⟨a,2,rfl,sd,by decide,fun q S3 d3 _ _=>?_⟩) ?_
 ·refine Co (S1:=S3) (cutA (zs.map T.str) none (some (4+q))) (fun _ acc S'=>∀t∈acc,Pl t) (fun k hk=>hk) (Xp (by have:=lc none (some (4+q));omega)) (fun _ z=>(by cases z)) ?_ ?_
  ·rintro k x acc S ek ha
   have px:=Fz ok _ _ x (List.mem_of_getElem? ek)
   exact⟨fun _=>⟨z0,o3,Ap ha (Xd (.tup (Xd px (Xd (.tup po) (Xd (.tup al_nil) al_nil)))) al_nil)⟩,fun z=>(by cases z)⟩
  ·rintro acc S ha
   exact hk _ _ ⟨acc,rfl,ha⟩
 rintro _ S2 ⟨ps,rfl,pp⟩
 refine⟨if ps.length<4 then ps.length else 4,?_,?_,z0,show 6<=sizeLine by decide,h _ _ ⟨_,_,_,_,_,_,rfl,.int _,.tup pb,.tup pls,.tup pp,.tup fun t ht=>?_,.tup al_nil⟩⟩
 ·by_cases e:ps.length<4
  ·rw[if_pos e,if_pos (by omega)]
  ·rw[if_neg e,if_neg (by omega)];rfl
 ·split <;> omega
 ·obtain⟨i,hi⟩:=List.mem_iff_getElem?.mp ht
  obtain⟨_,rfl⟩:=Nd hi
  exact .int _
end
end K10
end
section
namespace K10
open PySem PySem.Spec PyProof.Rows L2 TL
seal UE UT UA US USs UI UG UO UW PTs Av Cd
theorem Ut{α:Type}{pick:List (Option Nat)}{ti:UTA}{env:Ev}{S S0:TH}{gg:UTG}{tc:UTT}{te:UTE}{P:UX}(xs:List α)(e g:α->T)(hti:∀k:List T->TH->Prop,k (xs.map e) S->ti env S0 k)(hl:xs.length<=sizeLine)
  (turn:∀x∈xs,∀(A:UX) (B:TH->Prop),A (g x) S->gg (e x) (Gc pick env) S fun env' S'=>tc env' S' fun b S2=>(b=true->te env' S2 A)/\(b=false->B S2))
  (done:P (.lst (xs.map g)) S):Av pick ti gg tc te env S0 P:=by
 refine Co (xs.map e) (fun k acc S'=>S'=S/\acc=(xs.take k).map g) hti (by rw[List.length_map];exact hl) ⟨rfl,rfl⟩ ?_ ?_
 ·rintro k x acc S' ek ⟨rfl,rfl⟩
  rw[List.getElem?_map] at ek
  cases ex:xs[k]? with
  |none=>rw[ex] at ek;cases ek
  |some y =>
   rw[ex] at ek
   cases ek
   refine turn y (List.mem_of_getElem? ex) _ _ ⟨rfl,?_⟩
   rw[List.take_add_one,ex,List.map_append]
   rfl
 ·rintro acc S' ⟨rfl,rfl⟩
  rw[List.length_map,List.take_length]
  exact done
end K10
end
section
namespace K10
open PySem PySem.Spec PyProof.Rows L2 TL
seal UE UT UA US USs UI UG UO UW PTs Av Cd Ch uOr
def newP(ps:List T)(j:Nat)(u:T):List T:=ps.take j++[u]++ps.drop (j+1)
theorem Wq{ps:List T}{j:Nat}{u:T}(h:ps.length=6)(hj:j<6):(newP ps j u).length=6:=by
 unfold newP
 rw[List.length_append,List.length_append,List.length_take,List.length_drop,List.length_singleton]
 omega
theorem Vt{ps:List T}{j:Nat}{u:T}{Q:T->Prop}(h:∀t∈ps,Q t)(hu:Q u):∀t∈newP ps j u,Q t:=Ap (Ap (fun t ht=>h t (List.mem_of_mem_take ht)) (Xd hu al_nil)) fun t ht=>h t (List.mem_of_mem_drop ht)
theorem Aam{ps:List T}{j:Nat}{u:T}(h:ps.length=6)(hj:j<6):cutA ps none (some (j:Int))++[u]++cutA ps (some ((j:Int)+1)) none=newP ps j u:=by
 rw[Hn (n:=j) (by omega),show (j:Int)+1=((j+1:Nat):Int) by omega,Ix (n:=j+1) (by omega)]
 rfl
def P3(t:T):Prop:=∃qs,t=.tup qs/\qs≠[]/\∀q∈qs,∃n o s,q=.tup [n,.tup o,.tup s]
theorem Wd.kids{L d:Nat}{ts:List T}(h:Wd L d (.tup ts)):∃e,d=e+1/\ts.length<=L/\∀t∈ts,Wd L e t:=by
 cases h with
 |tup l v=>exact⟨_,rfl,l,v⟩
theorem Cw{b:Bool}{S:TH}{P:Bool->TH->Prop}(h:P b S):P (Bool.xor false b) S:=by rw[Bool.false_xor];exact h
theorem Dq{ts:List T}{n:Nat}:(List.replicate n ts).flatten.length=n * ts.length:=by rw[List.length_flatten,List.map_replicate,List.sum_replicate_nat]
theorem Fe{ts:List T}{n:Nat}{Q:T->Prop}(h:∀t∈ts,Q t):∀t∈(List.replicate n ts).flatten,Q t:=fun t ht=>by
 obtain⟨l,hl,ht⟩:=List.mem_flatten.mp ht
 rw[List.eq_of_mem_replicate hl] at ht
 exact h t ht
section
variable{P:Program}{w:World}{K:PySem.W.Frag}{mg:Str->Option Value}{base:Heap}
def L4:List T->TH->UX->Prop:=fun ts S Pp=>∃(ps:List T) (a:Addr) (L d:Nat) (size:Int) (bs:List (Str×Int)) (ls:List Str) (pz:List Prg) (ws:List Int) (cs:List T),ts=[.lst ps,.ref a,.lst (loomT size bs ls pz ws cs)]/\LV size bs ls pz ws cs/\ps.length=6/\(∀t∈ps,Wd L d t)/\L<=400/\d<=150/\(∀t,ps[3]?=some t->P3 t)/\Sd S a ∧
 ∀qs S',Sd S' a->qs.length=6->(∀t∈qs,Wd (5 * L+200) (d+91) t)->Pp (.lst qs) S'
theorem Ql:Zv ["_law_parts","_law_state_here","_law_good","_law_names_here","_law_at","_law_part","_law_kind_here","_law_name","_law_owns","_law_steps_here","_law_place","_law_count","_law_longer","_law_more_here"] ["_law_parts","_law_state_here","_law_good"] (Zb (top 72)):=⟨rfl,rfl,rfl,by decide +kernel,rfl,by decide +kernel,by decide +kernel⟩
theorem M3{m:Nat}(N:Nm P w K mg)(d:Aa K mg "_law_changed" ["_law_parts","_law_state_here","_law_good"] (top 72))(c_law_next:Has P w K mg base m "_law_next" ["_law_state_here","_law_size"] Dc)(c_law_odd:Has P w K mg base m "_law_odd" ["_law_thing","_law_state_here"] cOdd)(c_law_spoilt:Has P w K mg base m "_law_spoilt" ["_law_thing","_law_state_here"] (Fw 150)):Has P w K mg base (m+1) "_law_changed" ["_law_parts","_law_state_here","_law_good"] L4:=by
 have sc:=Ql
 refine Ag (k:=m) d sc (fun ts S Pp h=>?_) fun cdv f A outer s H E hr=>?_
 ·obtain⟨_,_,_,_,_,_,_,_,_,_,rfl,_⟩:=h;rfl
 have hu0:=Ar hr
 refine⟨_,(Zs (De 3 sc.nd 0 ["_law_box"] [none] rfl (Xu (Zx (uv 2) Zi)) (fun _ _ _ _ _=>Ak) (fun _ _ _ _ _=>(Zx (uv 0) Zi)))
   (Zs (Zt 4 sc.nd (Zx (Ac (Ab (Cs.i (Cs.i (Cs.i (Cs.i (Cs.i (Cs.i (Cs.i (Cs.i Cs.nil)))))))))) (Zf c_law_next hr rfl (Zc (uv 1) (Zc Zi Zn)))))
   (Zs (Zt 5 sc.nd (Zx (uv 0) (uv 4)))
   (Zs (Zt 6 sc.nd (Zf c_law_next hr rfl (Zc (uv 1) (Zc Zi Zn))))
   (Zs (Zg (Ae (Xe (A9 rfl N.isinstance (Zc (uv 5) (Zc (Xv rfl N.tuple boot_tuple) Zn))))) (Zo (Zr (Zp (Zp (Bp (uv 0) Af (Ad (uv 4))) (Ac (Zc (Zf c_law_odd hr rfl (Zc (uv 5) (Zc (uv 1) Zn))) Zn))) (Bp (uv 0) (Ad (Zp (uv 4) Zi)) Af)))) Ze)
   (Zs (Zg (UW.ut (A0 (Xf hu0 (uv 6) Zi) (Bd (Cn (Zl rfl N.len (Zc (uv 5) Zn)) Zi)))) (Zo (Zt 5 sc.nd (Zx (Ac (Zc (Zp (uv 5) (Zu (Zc (Zx (uv 5) Zi) Zn))) (Zc (G6 (uv 5) Zi) (Zc (G6 (Zu (Zc (Zx (uv 5) Zi) Zn)) Zi) (Zc (Tg (uv 5)) Zn))))) (Zf c_law_next hr rfl (Zc (uv 1) (Zc Zi Zn)))))) (Zo (Zg (UW.ut (A0 (Xf hu0 (uv 6) Zi) (Bd (Xf hu0 (uv 4) Zi)))) (Zo (Zt 5 sc.nd (Zp (Bu (uv 5) (Ad Zi) Af) (Zu (Zc (A8 (Zl rfl N.len (Zc (Zx (uv 2) Zi) Zn)) (Zf c_law_next hr rfl (Zc (uv 1) (Zc Zi Zn)))) Zn))))) (Zo (Zg (UW.ut (A0 (Xf hu0 (uv 6) Zi) (A0 (Xf hu0 (uv 4) Zi) (Bd (Tr (uv 3)))))) (Zo (Zt 5 sc.nd (Zp (uv 5) (Zu (Zc (Zx (uv 3) (Zf c_law_next hr rfl (Zc (uv 1) (Zc (Zl rfl N.len (Zc (uv 3) Zn)) Zn)))) Zn))))) (Zo (Zg (UW.ut (A0 (Xf hu0 (uv 6) Zi) (A0 (Xf hu0 (uv 4) Zi) (Bd (Tr (uv 3)))))) (Zo (Zt 5 sc.nd (Zp (Bu (uv 5) Af (Ad Zi)) (Zu (Zc (Zu (Zc (Zx (Ac (Ab (Cs.s (Cs.s Cs.nil)))) (Zf c_law_next hr rfl (Zc (uv 1) (Zc Zi Zn)))) (Zc (Zx (uv 3) Zi) Zn))) Zn))))) (Zo (Zg (UW.ut (A0 (Xf hu0 (uv 6) Zi) (A0 (Xf hu0 (uv 4) Zi) (Bd (Cn (Zl rfl N.len (Zc (Zx (Zx (uv 5) (F7 Zi)) Zi) Zn)) Zi))))) (Zs (M7 (Zx (uv 5) (F7 Zi)) (K7 rfl (By 7 sc.nd (By 8 sc.nd (By 9 sc.nd Id)))))
   (Zs (Zt 10 sc.nd (Zf c_law_next hr rfl (Zc (uv 1) (Zc (Zl rfl N.len (Zc (uv 9) Zn)) Zn))))
   (Zs (Zt 11 sc.nd (Zp (A8 (A8 (Zl rfl N.len (Zc (uv 9) Zn)) Zi) (uv 10)) (Zf c_law_next hr rfl (Zc (uv 1) (Zc Zi Zn)))))
   (Zs (Zt 9 sc.nd (Zp (Zp (Bu (uv 9) Af (Ad (uv 10))) (Zu (Zc (Zu (Zc Zq (Zc (uv 11) Zn))) Zn))) (Bu (uv 9) (Ad (Zp (uv 10) Zi)) Af)))
   (Zo (Zt 5 sc.nd (Zp (Bu (uv 5) Af (Ad (F7 Zi))) (Zu (Zc (Zu (Zc (uv 7) (Zc (uv 8) (Zc (uv 9) Zn)))) Zn))))))))) (Zo (Zg (UW.ut (A0 (Xf hu0 (uv 6) Zi) (Bd (Xf hu0 (uv 4) Zi)))) (Zs (M7 (Zx (uv 5) Zi) (K7 rfl (By 7 sc.nd (By 8 sc.nd (By 9 sc.nd Id)))))
   (Zs (Zt 12 sc.nd (Bu (Zp (uv 9) (G6 (Zu (Zc (Zu (Zc Zq (Zc (Zu (Ab (Cs.s (Cs.i Cs.nil)))) Zn))) Zn)) Zi)) Af (Ad (Zp Zi (Zf c_law_next hr rfl (Zc (uv 1) (Zc Zi Zn)))))))
   (Zs (Zt 13 sc.nd (Ac (Zc (Zu (Zc (uv 7) (Zc (Zp (uv 8) (Bu (uv 8) Af (Ad Zi))) (Zc (uv 9) Zn)))) (Zc (Zu (Zc (uv 7) (Zc (uv 8) (Zc (uv 12) Zn)))) Zn))))
   (Zs (Zt 13 sc.nd (Zp (uv 13) (Ac (Zc (Zu (Zc (uv 7) (Zc (uv 8) (Zc (Da rfl N.list (Zc (uv 9) Zn)) Zn)))) (Zc (Zu (Zc (uv 7) (Zc (G6 (uv 8) Zi) (Zc (uv 9) Zn)))) Zn)))))
   (Zo (Zt 5 sc.nd (Zp (Zu (Zc (Zx (uv 13) (Zf c_law_next hr rfl (Zc (uv 1) (Zc Zi Zn)))) Zn)) (Bu (uv 5) (Ad Zi) Af)))))))) (Zo (Zt 5 sc.nd (Zf c_law_spoilt hr rfl (Zc (uv 5) (Zc (uv 1) Zn))))))))))))))))
   (Zo (Zr (Zp (Zp (Bp (uv 0) Af (Ad (uv 4))) (Ac (Zc (uv 5) Zn))) (Bp (uv 0) (Ad (Zp (uv 4) Zi)) Af)))))))))),fun ts S0 Pp h=>?_⟩
 obtain⟨ps,a,L,dp,size,bs,ls,pz,ws,cs,rfl,lv,l6,vps,hL,hd,h3,sd,h⟩:=h
 have s1:∀{n:Nat},n<=20000->n<=sizeLine:=fun h=>by rw[szl];omega
 have o1:1<=sizeLine:=by decide
 have o2:2<=sizeLine:=by decide
 have o3:3<=sizeLine:=by decide
 have o4:4<=sizeLine:=by decide
 have lb:=lv.bn
 let nm:List T:=bs.map fun q=>T.str q.1
 have nml:nm.length<=8:=by rw[List.length_map];exact lb
 have nmw:∀t∈nm,Wd (5 * L+200) 0 t:=fun t ht=>by
  obtain⟨q,hq,rfl⟩:=List.mem_map.mp ht
  exact .str (by have:=Ax (lv.bo q hq).1;omega)
 let e0:Option T:=some (.lst ps)
 let e1:Option T:=some (.ref a)
 let e2:Option T:=some (.lst (loomT size bs ls pz ws cs))
 let e3:Option T:=some (.lst nm)
 refine Zj (fun env S=>env=[e0,e1,e2,e3,none,none,none,none,none,none,none,none,none,none]/\S0=S) (fun k hk=>Ut (S:=S0) bs pairT (fun q=>T.str q.1) (fun k hk=>⟨_,at1,hk⟩) (Xp (by omega)) (fun q hq A B hA=>⟨fun _=>⟨_,at0,hA⟩,fun z=>(by cases z)⟩) (hk _ _ ⟨rfl,rfl⟩)) ?_
 rintro _ _ ⟨rfl,rfl⟩
 clear_value nm
 refine Zj (fun env S=>∃j:Nat,env=[e0,e1,e2,e3,some (.int (j:Int)),none,none,none,none,none,none,none,none,none]/\Sd S a/\j<6) (fun k hk=>⟨show 8<=sizeLine by decide,a,8,rfl,sd,by decide,fun r S1 d1 r0 r1=>?_⟩) ?_
 ·have pk:∃j:Nat,atI [T.int 1,T.int 2,T.int 3,T.int 3,T.int 3,T.int 4,T.int 5,T.int 0] r=some (.int (j:Int))/\j<6:=by
   have:r=0\/r=1\/r=2\/r=3\/r=4\/r=5\/r=6\/r=7:=by omega
   rcases this with rfl|rfl|rfl|rfl|rfl|rfl|rfl|rfl
   ·exact⟨1,rfl,by decide⟩
   ·exact⟨2,rfl,by decide⟩
   ·exact⟨3,rfl,by decide⟩
   ·exact⟨3,rfl,by decide⟩
   ·exact⟨3,rfl,by decide⟩
   ·exact⟨4,rfl,by decide⟩
   ·exact⟨5,rfl,by decide⟩
   ·exact⟨0,rfl,by decide⟩
  obtain⟨j,ej,hj⟩:=pk
  exact⟨_,ej,hk _ _ ⟨j,rfl,d1.sd,hj⟩⟩
 clear sd
 rintro _ S1 ⟨j,rfl,sd,hj⟩
 let e4:Option T:=some (.int (j:Int))
 have ej:ps[j]?=some ps[j]:=List.getElem?_eq_getElem (by omega)
 have wt:=vps _ (List.getElem_mem (show j<ps.length by omega))
 have ht3:j=3->P3 ps[j]:=fun e=>h3 _ (by rw[<-e];exact ej)
 generalize ps[j]=t at ej wt ht3
 refine Zj (fun env S=>env=[e0,e1,e2,e3,e4,some t,none,none,none,none,none,none,none,none]/\Sd S a) (fun k hk=>⟨_,Xb ej,hk _ _ ⟨rfl,sd⟩⟩) ?_
 clear sd
 rintro _ S2 ⟨rfl,sd⟩
 let e5:Option T:=some t
 refine Zj (fun env S=>∃kd:Int,env=[e0,e1,e2,e3,e4,e5,some (.int kd),none,none,none,none,none,none,none]/\Sd S a) (fun k hk=>⟨a,4,rfl,sd,by decide,fun r S3 d3 _ _=>hk _ _ ⟨r,rfl,d3.sd⟩⟩) ?_
 clear sd
 rintro _ S3 ⟨kd,rfl,sd⟩
 let e6:Option T:=some (.int kd)
 have c1:=As ps none (some (j:Int))
 have c2:=As ps (some ((j:Int)+1)) none
 have fin:∀u S',Sd S' a->Wd (5 * L+200) (dp+91) u->(1<=sizeLine/\(cutA ps none (some (j:Int))).length+[u].length<=sizeLine/\(cutA ps none (some (j:Int))++[u]).length+(cutA ps (some ((j:Int)+1)) none).length<=sizeLine/\Pp (.lst (cutA ps none (some (j:Int))++[u]++cutA ps (some ((j:Int)+1)) none)) S'):=fun u S' sd' wu=>by
  refine⟨o1,s1 (by show _+1<=_;omega),s1 (by rw[List.length_append];show _+1+_<=_;omega),?_⟩
  rw[Aam l6 hj]
  exact h _ _ sd' (Wq l6 hj) (Vt (fun t ht=>(vps t ht).up (by omega) (by omega)) wu)
 refine Zj (fun env S=>env=[e0,e1,e2,e3,e4,e5,e6,none,none,none,none,none,none,none]/\Sd S a/\∃ts,t=.tup ts) (fun k hk=>?_) ?_
 ·obtain⟨ty,hty⟩:=(wt.pl (by omega)).ty
  refine Ov hty rfl (fun _ h=>h) ?_
  cases e:isT ty "tuple" with
  |false=>exact yes_ rfl ⟨t,a,L,dp,rfl,wt,hL,sd,fun u S4 d4 wu=>fin u S4 d4.sd wu⟩
  |true =>
   refine no_ rfl (hk _ _ ⟨rfl,sd,?_⟩)
   cases wt with
   |tup=>exact⟨_,rfl⟩
   |_=>cases hty;cases e
 clear sd
 rintro _ S4 ⟨rfl,sd,ts,rfl⟩
 obtain⟨dq,rfl,lts,vts⟩:=wt.kids
 have e92:dq+1+91=dq+91+1:=by omega
 rw[e92] at fin
 have up:∀t∈ts,Wd (5 * L+200) (dq+91) t:=fun t ht=>(vts t ht).up (by omega) (by omega)
 have w8:∀(x:Str) {d:Nat},x.length<=8->Wd (5 * L+200) d (.str x):=fun x _ h=>.str (by omega)
 have hc:=As ts (some 1) none
 have hc3:=As ts none (some 3)
 refine Zj (fun env S=>∃u e7 e8 e9 e10 e11 e12 e13,env=[e0,e1,e2,e3,e4,some u,e6,e7,e8,e9,e10,e11,e12,e13]/\Sd S a/\Wd (5 * L+200) (dq+91+1) u) (fun k hk=>?_) ?_
 ·have go:∀u S',Sd S' a->Wd (5 * L+200) (dq+91+1) u->∀e7 e8 e9 e10 e11 e12 e13,k [e0,e1,e2,e3,e4,some u,e6,e7,e8,e9,e10,e11,e12,e13] S':=fun u S' sd' wu e7 e8 e9 e10 e11 e12 e13=>hk _ _ ⟨u,_,_,_,_,_,_,_,rfl,sd',wu⟩
  refine An (b1:=decide (kd=0)) (b2:=decide ((0:Int)<ts.length)) (fun P hP=>Cw hP) (fun _ P hP=>hP) ⟨fun e=>?_,fun _=>?_⟩
  ·have e:=of_decide_eq_true (Bool.and_eq_true_iff.mp e).2
   obtain⟨x,r,rfl⟩:∃x r,ts=x::r:=by cases ts with|nil=>exact absurd e (by decide)|cons x r=>exact⟨x,r,rfl⟩
   have ux:=up x (.head _)
   refine⟨_,at0,o1,s1 (by show _+1<=_;omega),by decide,by decide,s1 (by show _ * 5<=_;omega),_,at0,o1,by decide,by decide,s1 (by show 1 * 7<=_;decide),fun ix hx=>⟨o4,a,4,rfl,sd,by decide,fun q S5 d5 q0 q1=>?_⟩⟩
   refine E5 (Q:=Wd (5 * L+200) (dq+91+1)) q0 q1 (Xd (.tup (by rw[List.length_append,List.length_singleton];omega) (Ap up (Xd ux al_nil))) (Xd (.tup (by rw[Dq];show 5 * _<=_;omega) (Fe up)) (Xd (.tup (by rw[Dq];show 7 * 1<=_;omega) (Fe (Xd ux al_nil))) (Xd (.tup (by omega) (Oq up ix)) al_nil)))) fun u wu=>go u S5 d5.sd wu _ _ _ _ _ _ _
  refine An (b1:=decide (kd=1)) (b2:=decide ((j:Int)=4)) (fun P hP=>Cw hP) (fun _ P hP=>Cw hP) ⟨fun _=>?_,fun _=>?_⟩
  ·refine⟨_,at3,a,2,rfl,sd,by decide,fun q S5 d5 q0 q1=>⟨o1,s1 (by show _+1<=_;omega),go _ S5 d5.sd (.tup (by rw[List.length_append,List.length_singleton];omega) (Ap (Cg up _ _) (Xd (.int ?_) al_nil))) _ _ _ _ _ _ _⟩⟩
   have:=lv.p4
   have:=Tx
   show ((((pz.map progT).length:Nat):Int) - q).natAbs<=_
   rw[List.length_map]
   omega
  refine An (b1:=decide (kd=1)) (b2:=decide ((j:Int)=2)&&!nm.isEmpty) (fun P hP=>Cw hP) (fun _ P hP=>An (b1:=decide ((j:Int)=2)) (b2:=!nm.isEmpty) (fun P hP=>Cw hP) (fun _ P hP=>⟨_,rfl,hP⟩) hP) ⟨fun e=>?_,fun _=>?_⟩
  ·have e:=(Bool.and_eq_true_iff.mp (Bool.and_eq_true_iff.mp e).2).2
   have hn:0<nm.length:=by cases nm with|nil=>cases e|cons x r=>exact Nat.succ_pos _
   refine⟨a,_,rfl,sd,show (0:Int)<nm.length by omega,fun q S5 d5 q0 q1=>?_⟩
   refine E5 (Q:=Wd (5 * L+200) 0) q0 q1 nmw fun u wu=>⟨o1,s1 (by show _+1<=_;omega),go _ S5 d5.sd (.tup (by rw[List.length_append,List.length_singleton];omega) (Ap up (Xd (wu.up (Nat.le_refl _) (Nat.zero_le _)) al_nil))) _ _ _ _ _ _ _⟩
  refine An (b1:=decide (kd=1)) (b2:=decide ((j:Int)=5)&&!nm.isEmpty) (fun P hP=>Cw hP) (fun _ P hP=>An (b1:=decide ((j:Int)=5)) (b2:=!nm.isEmpty) (fun P hP=>Cw hP) (fun _ P hP=>⟨_,rfl,hP⟩) hP) ⟨fun e=>?_,fun _=>?_⟩
  ·have e:=(Bool.and_eq_true_iff.mp (Bool.and_eq_true_iff.mp e).2).2
   obtain⟨x,r,rfl⟩:∃x r,nm=x::r:=by cases nm with|nil=>cases e|cons x r=>exact⟨x,r,rfl⟩
   have wx:Wd (5 * L+200) (dq+90) x:=(nmw x (.head _)).up (Nat.le_refl _) (Nat.zero_le _)
   refine⟨o2,a,2,rfl,sd,by decide,fun q S5 d5 q0 q1=>?_⟩
   obtain⟨v,mv,ev⟩:=Lj (xs:=[T.str "own",T.str "box"]) q0 q1
   have wv:Wd (5 * L+200) (dq+90) v:=(Xd (w8 _ (by decide)) (Xd (w8 _ (by decide)) al_nil):∀t∈[T.str "own",T.str "box"],Wd (5 * L+200) (dq+90) t) v mv
   exact⟨v,ev,_,at0,o2,o1,s1 (by show _+1<=_;omega),go _ S5 d5.sd (.tup (by rw[List.length_append,List.length_singleton];omega) (Ap (Cg up _ _) (Xd (.tup (by show 2<=_;omega) (Xd wv (Xd wx al_nil))) al_nil))) _ _ _ _ _ _ _⟩
  have spo:Fw 150 [.tup ts,.ref a] S4 fun r S2=>k ([e0,e1,e2,e3,e4,some (.tup ts),e6,none,none,none,none,none,none,none].set 5 (some r)) S2:=⟨_,a,L,dq+1,hd,rfl,wt,hL,sd,fun u S5 d5 wu=>go u S5 d5.sd (by rw[<-e92];exact wu) _ _ _ _ _ _ _⟩
  by_cases hj3:j=3
  ·obtain⟨qs,q,ne,hq⟩:=ht3 hj3
   cases q
   obtain⟨ini,la,el⟩:∃ini la,ts=ini++[la]:=⟨ts.dropLast,ts.getLast ne,(List.dropLast_concat_getLast ne).symm⟩
   have mla:la∈ts:=by rw[el];exact List.mem_append.mpr (.inr (.head _))
   obtain⟨n,o,ss,rfl⟩:=hq la mla
   have al1:atI ts (-1)=some (.tup [n,.tup o,.tup ss]):=by rw[el];exact Ux _ _
   clear el ini
   obtain⟨fi,re,ef⟩:∃fi re,ts=fi::re:=by cases ts with|nil=>exact absurd rfl ne|cons x r=>exact⟨x,r,rfl⟩
   have mfi:fi∈ts:=by rw[ef];exact .head _
   obtain⟨n0,oo,s0,rfl⟩:=hq fi mfi
   have af0:atI ts 0=some (.tup [n0,.tup oo,.tup s0]):=by rw[ef];exact at0
   clear ef re
   have ins:∀{n:T} {o ss:List T},T.tup [n,.tup o,.tup ss]∈ts->∃g,dq=g+1+1/\Wd L (g+1) n/\o.length<=L/\(∀t∈o,Wd L g t)/\ss.length<=L/\∀t∈ss,Wd L g t:=fun hm=>by
    obtain⟨g1,rfl,_,vla⟩:=(vts _ hm).kids
    obtain⟨g2,rfl,lo,vo⟩:=(vla _ (.tail _ (.head _))).kids
    obtain⟨g3,eg3,lss,vss⟩:=(vla _ (.tail _ (.tail _ (.head _)))).kids
    cases eg3
    exact⟨g2,rfl,vla _ (.head _),lo,vo,lss,vss⟩
   refine An (b1:=decide (kd=2)) (b2:=decide ((j:Int)=3)&&decide ((0:Int)<ss.length)) (fun P hP=>Cw hP) (fun _ P hP=>An (b1:=decide ((j:Int)=3)) (b2:=decide ((0:Int)<ss.length)) (fun P hP=>Cw hP) (fun _ P hP=>⟨_,al1,_,at2,hP⟩) hP) ⟨fun e=>?_,fun _=>?_⟩
   ·have e:=of_decide_eq_true (Bool.and_eq_true_iff.mp (Bool.and_eq_true_iff.mp e).2).2
    clear spo af0 mfi
    obtain⟨g,rfl,wn,lo,vo,lss,vss⟩:=ins mla
    refine Zj (fun env S=>env=[e0,e1,e2,e3,e4,some (.tup ts),e6,some n,some (.tup o),some (.tup ss),none,none,none,none]/\Sd S a) (fun k hk=>⟨_,al1,false,_,rfl,rfl,hk _ _ ⟨rfl,sd⟩⟩) ?_
    clear sd
    rintro _ S5 ⟨rfl,sd⟩
    refine Zj (fun env S=>∃pl:Int,env=[e0,e1,e2,e3,e4,some (.tup ts),e6,some n,some (.tup o),some (.tup ss),some (.int pl),none,none,none]/\Sd S a/\0<=pl/\pl<ss.length) (fun k hk=>⟨a,_,rfl,sd,by omega,fun q S6 d6 q0 q1=>hk _ _ ⟨q,rfl,d6.sd,q0,q1⟩⟩) ?_
    clear sd
    rintro _ S6 ⟨pl,rfl,sd,p0,p1⟩
    refine Zj (fun env S=>∃ct:Int,env=[e0,e1,e2,e3,e4,some (.tup ts),e6,some n,some (.tup o),some (.tup ss),some (.int pl),some (.int ct),none,none]/\Sd S a/\ct.natAbs<=1000) (fun k hk=>⟨a,2,rfl,sd,by decide,fun q S6 d6 q0 q1=>hk _ _ ⟨_,rfl,d6.sd,by omega⟩⟩) ?_
    clear sd
    rintro _ S7 ⟨ct,rfl,sd,lct⟩
    have k1:=As ss none (some pl)
    have k2:=As ss (some (pl+1)) none
    have us:∀t∈ss,Wd (5 * L+200) (g+91) t:=fun t ht=>(vss t ht).up (by omega) (by omega)
    have sk:Wd (5 * L+200) (g+91) (.tup [.str "skip",.int ct]):=.tup (d:=g+90) (by show 2<=_;omega) (Xd (w8 _ (by decide)) (Xd (.int (by have:=Tx;omega)) al_nil))
    refine Zj (fun env S=>∃st,env=[e0,e1,e2,e3,e4,some (.tup ts),e6,some n,some (.tup o),some (.tup st),some (.int pl),some (.int ct),none,none]/\Sd S a/\Wd (5 * L+200) (g+91+1) (.tup st)) (fun k hk=>⟨o2,o1,s1 (by show _+1<=_;omega),s1 (by rw[List.length_append];show _+1+_<=_;omega),hk _ _ ⟨_,rfl,sd,.tup (by rw[List.length_append,List.length_append];show _+1+_<=_;omega) (Ap (Ap (Cg us _ _) (Xd sk al_nil)) (Cg us _ _))⟩⟩) ?_
    clear sd
    rintro _ S8 ⟨st,rfl,sd,wst⟩
    have k3:=As ts none (some (-1))
    have wp:Wd (5 * L+200) (g+1+1+91) (.tup [n,.tup o,.tup st]):=.tup (d:=g+1+91) (by show 3<=_;omega) (Xd (wn.up (by omega) (by omega)) (Xd ((Wd.tup lo vo).up (by omega) (by omega)) (Xd (wst.up (Nat.le_refl _) (by omega)) al_nil)))
    exact⟨o3,o1,s1 (by show _+1<=_;omega),go _ S8 sd (.tup (by rw[List.length_append];show _+1<=_;omega) (Ap (Cg up _ _) (Xd wp al_nil))) _ _ _ _ _ _ _⟩
   refine An (b1:=decide (kd=1)) (b2:=decide ((j:Int)=3)) (fun P hP=>Cw hP) (fun _ P hP=>Cw hP) ⟨fun e=>?_,fun _=>spo⟩
   clear spo al1 mla
   obtain⟨g,rfl,wn,lo,vo,lss,vss⟩:=ins mfi
   have uo:∀t∈oo,Wd (5 * L+200) (g+91) t:=fun t ht=>(vo t ht).up (by omega) (by omega)
   have us:∀t∈s0,Wd (5 * L+200) (g+91) t:=fun t ht=>(vss t ht).up (by omega) (by omega)
   have un:Wd (5 * L+200) (g+91+1) n0:=wn.up (by omega) (by omega)
   have ck:Wd (5 * L+200) (g+91) (.tup [.str "check",.tup [.str "number",.int 1]]):=.tup (d:=g+90) (by show 2<=_;omega) (Xd (w8 _ (by decide)) (Xd (.tup (d:=g+89) (by show 2<=_;omega) (Xd (w8 _ (by decide)) (Xd (.int (by have:=Tx;show 1<=_;omega)) al_nil))) al_nil))
   refine Zj (fun env S=>env=[e0,e1,e2,e3,e4,some (.tup ts),e6,some n0,some (.tup oo),some (.tup s0),none,none,none,none]/\Sd S a) (fun k hk=>⟨_,af0,false,_,rfl,rfl,hk _ _ ⟨rfl,sd⟩⟩) ?_
   clear sd
   rintro _ S5 ⟨rfl,sd⟩
   refine Zj (fun env S=>∃lg,env=[e0,e1,e2,e3,e4,some (.tup ts),e6,some n0,some (.tup oo),some (.tup s0),none,none,some (.tup lg),none]/\Sd S a/\Wd (5 * L+200) (g+91+1) (.tup lg)) (fun k hk=>⟨o2,o2,o1,by decide,by decide,by decide,s1 (by rw[Dq];show _+31 * 1<=_;omega),a,2,rfl,sd,by decide,fun q S6 d6 q0 q1=>hk _ _ ⟨_,rfl,d6.sd,.tup (Nat.le_trans (As _ _ _) (by rw[List.length_append,Dq];show _+31 * 1<=_;omega)) (Cg (Ap us (Fe (Xd ck al_nil))) _ _)⟩⟩) ?_
   clear sd
   rintro _ S6 ⟨lg,rfl,sd,wlg⟩
   have ko:=As oo none (some 1)
   have p3:∀{y z:T},Wd (5 * L+200) (g+91+1) y->Wd (5 * L+200) (g+91+1) z->Wd (5 * L+200) (g+91+1+1) (.tup [n0,y,z]):=fun hy hz=>.tup (by show 3<=_;omega) (Xd un (Xd hy (Xd hz al_nil)))
   have wo:Wd (5 * L+200) (g+91+1) (.tup oo):=.tup (by omega) uo
   have ws0:Wd (5 * L+200) (g+91+1) (.tup s0):=.tup (by omega) us
   refine Zj (fun env S=>∃m1 m2,env=[e0,e1,e2,e3,e4,some (.tup ts),e6,some n0,some (.tup oo),some (.tup s0),none,none,some (.tup lg),some (.lst [m1,m2])]/\Sd S a/\Wd (5 * L+200) (g+91+1+1) m1/\Wd (5 * L+200) (g+91+1+1) m2) (fun k hk=>⟨s1 (by omega),o3,o3,o2,hk _ _ ⟨_,_,rfl,sd,p3 (.tup (by rw[List.length_append];omega) (Ap uo (Cg uo _ _))) ws0,p3 wo wlg⟩⟩) ?_
   clear sd
   rintro _ S7 ⟨m1,m2,rfl,sd,w1,w2⟩
   refine Zj (fun env S=>∃mo,env=[e0,e1,e2,e3,e4,some (.tup ts),e6,some n0,some (.tup oo),some (.tup s0),none,none,some (.tup lg),some (.lst mo)]/\Sd S a/\mo.length=4/\∀t∈mo,Wd (5 * L+200) (g+91+1+1) t) (fun k hk=>⟨o3,by decide,by decide,s1 (by show _ * 3<=_;omega),o3,o2,o4,hk _ _ ⟨_,rfl,sd,rfl,Xd w1 (Xd w2 (Xd (p3 wo (.lst (by omega) us)) (Xd (p3 (.tup (by rw[Dq];show 3 * _<=_;omega) (Fe uo)) ws0) al_nil)))⟩⟩) ?_
   clear sd
   rintro _ S8 ⟨mo,rfl,sd,lm,wm⟩
   refine⟨a,4,rfl,sd,by decide,fun q S9 d9 q0 q1=>?_⟩
   have e93:g+1+1+91=g+91+1+1:=by omega
   rw[e93] at go up
   exact E5 (Q:=Wd (5 * L+200) (g+91+1+1)) q0 (by omega) wm fun v wv=>⟨o1,s1 (by show 1+_<=_;omega),go _ S9 d9.sd (.tup (by rw[List.length_append];show 1+_<=_;omega) (Ap (Xd wv al_nil) (Cg up _ _))) _ _ _ _ _ _ _⟩
  ·refine An (b1:=decide (kd=2)) (b2:=false) (fun P hP=>Cw hP) (fun _ P hP=>Qo (fun P hP=>Cw (by rw[decide_eq_false (by omega)];exact hP)) hP) ⟨fun e=>(by rw[Bool.and_false] at e;cases e),fun _=>?_⟩
   refine An (b1:=decide (kd=1)) (b2:=false) (fun P hP=>Cw hP) (fun _ P hP=>Cw (by rw[decide_eq_false (by omega)];exact hP)) ⟨fun e=>(by rw[Bool.and_false] at e;cases e),fun _=>spo⟩
 rintro _ S5 ⟨u,e7,e8,e9,e10,e11,e12,e13,rfl,sd',wu⟩
 exact fin u S5 sd' wu
end
end K10
end
section
namespace K10
open PySem PySem.Spec PyProof.Rows L2 TL
seal UE UT UA US USs UI UG UO UW PTs Av Cd Ch uOr
structure Dfs(K:PySem.W.Frag)(mg:Str->Option Value):Prop where
 s_is_name:Aa K mg "is_name" ["thing"] (top 14)
 s_is_name_of:Aa K mg "is_name_of" ["thing","names"] (top 15)
 s_is_number:Aa K mg "is_number" ["thing","least","greatest"] (top 16)
 s_has_word:Aa K mg "has_word" ["thing"] (top 17)
 s_is_value:Aa K mg "is_value" ["thing","owns","boxes"] (top 18)
 s_is_value_within:Aa K mg "is_value_within" ["thing","owns","boxes","depth"] (top 19)
 s_is_value_part:Aa K mg "is_value_part" ["thing","kind","owns","boxes","depth"] (top 20)
 s_is_step:Aa K mg "is_step" ["thing","owns","boxes","locks","behind"] (top 23)
 s_is_step_part:Aa K mg "is_step_part" ["thing","kind","owns","boxes","locks","behind"] (top 24)
 s_loom_of:Aa K mg "loom_of" ["size","boxes","locks","programs","workers","claims"] (top 35)
 s_ask_parts:Aa K mg "ask_parts" ["size","boxes","locks","programs","workers","claims"] (top 36)
 s_is_tuple_of:Aa K mg "is_tuple_of" ["thing","fewest","most"] (top 37)
 s_names_of:Aa K mg "names_of" ["things"] (top 38)
 s_are_unlike:Aa K mg "are_unlike" ["names"] (top 39)
 s_are_holdings:Aa K mg "are_holdings" ["thing","most","size"] (top 40)
 s_is_holding:Aa K mg "is_holding" ["thing","size"] (top 41)
 s_are_locks:Aa K mg "are_locks" ["thing","box_names"] (top 42)
 s_are_programs:Aa K mg "are_programs" ["thing","size"] (top 43)
 s_is_program:Aa K mg "is_program" ["thing","size"] (top 44)
 s_are_workers:Aa K mg "are_workers" ["thing","many_programs"] (top 45)
 s_ask_steps:Aa K mg "ask_steps" ["programs","box_names","locks"] (top 46)
 s_ask_claims:Aa K mg "ask_claims" ["claims","box_names"] (top 47)
 s_law_cell_at:Aa K mg "_law_cell_at" ["_law_script","_law_k"] (top 49)
 s_law_state:Aa K mg "_law_state" ["_law_cell","_law_k"] (top 50)
 s_law_next:Aa K mg "_law_next" ["_law_state_here","_law_size"] (top 51)
 s_law_names:Aa K mg "_law_names" ["_law_state_here","_law_amount"] (top 52)
 s_law_value:Aa K mg "_law_value" ["_law_state_here","_law_deep","_law_owns","_law_boxes"] (top 53)
 s_law_step:Aa K mg "_law_step" ["_law_state_here","_law_owns","_law_boxes","_law_locks","_law_behind"] (top 54)
 s_law_steps:Aa K mg "_law_steps" ["_law_state_here","_law_owns","_law_boxes","_law_locks","_law_most"] (top 55)
 s_law_loom:Aa K mg "_law_loom" ["_law_state_here","_law_most","_law_workers"] (top 56)
 s_law_great:Aa K mg "_law_great" ["_law_state_here"] (top 57)
 s_law_whole:Aa K mg "_law_whole" ["_law_thing","_law_least","_law_limit"] (top 58)
 s_law_is_name:Aa K mg "_law_is_name" ["_law_thing"] (top 59)
 s_law_among:Aa K mg "_law_among" ["_law_thing","_law_names_here"] (top 60)
 s_law_is_value:Aa K mg "_law_is_value" ["_law_thing","_law_owns","_law_boxes","_law_deep"] (top 61)
 s_law_is_step:Aa K mg "_law_is_step" ["_law_thing","_law_owns","_law_boxes","_law_locks","_law_behind"] (top 62)
 s_law_odd:Aa K mg "_law_odd" ["_law_thing","_law_state_here"] (top 63)
 s_law_spoilt:Aa K mg "_law_spoilt" ["_law_thing","_law_state_here"] (top 64)
 s_law_row:Aa K mg "_law_row" ["_law_thing","_law_least","_law_limit"] (top 65)
 s_law_unlike:Aa K mg "_law_unlike" ["_law_names_here"] (top 66)
 s_law_pairs:Aa K mg "_law_pairs" ["_law_thing","_law_limit","_law_size"] (top 67)
 s_law_programs:Aa K mg "_law_programs" ["_law_thing","_law_size"] (top 68)
 s_law_formed:Aa K mg "_law_formed" ["_law_parts"] (top 69)
 s_law_kind:Aa K mg "_law_kind" ["_law_parts"] (top 70)
 s_law_more:Aa K mg "_law_more" ["_law_parts","_law_state_here"] (top 71)
 s_law_changed:Aa K mg "_law_changed" ["_law_parts","_law_state_here","_law_good"] (top 72)
 s_law_told:Aa K mg "_law_told" ["_law_parts"] (top 73)
theorem Hd{n:Nat}{t:T}{us:List T}(h:teq (n+1) t (.tup us)=true):∃ts,t=.tup ts/\ts.length=us.length/\∀i,i<ts.length->teq n (ts.getD i .non) (us.getD i .non)=true:=by
 unfold teq at h
 cases t with
 |tup ts =>
  simp only[sqT,beq_self_eq_true,Bool.true_and,Bool.and_eq_true,beq_iff_eq,List.all_eq_true,List.mem_range] at h
  exact⟨ts,rfl,h.1,h.2⟩
 |_=>simp[sqT,plT] at h
theorem p3_of{n:Nat}{t:T}{pz:List Prg}(ne:1<=pz.length)(h:teq (n+3) t (.tup (pz.map progT))=true):P3 t:=by
 obtain⟨ts,rfl,hl,hi⟩:=Hd h
 rw[List.length_map] at hl
 refine⟨ts,rfl,fun z=>by rw[z,List.length_nil] at hl;omega,fun q hq=>?_⟩
 obtain⟨i,hi',rfl⟩:=List.mem_iff_getElem.mp hq
 have e:=hi i hi'
 have e1:ts.getD i .non=ts[i]:=by rw[List.getD_eq_getElem?_getD,List.getElem?_eq_getElem hi'];rfl
 have e2:(pz.map progT).getD i .non=progT pz[i]:=by rw[List.getD_eq_getElem?_getD,List.getElem?_map,List.getElem?_eq_getElem (by omega)];rfl
 rw[e1,e2] at e
 obtain⟨xs,ex,l3,hx⟩:=Hd (us:=[.str pz[i].1,.tup (pz[i].2.1.map pairT),.tup pz[i].2.2]) e
 match xs,l3 with
 |[x0,x1,x2],_ =>
  obtain⟨o,eo,_⟩:=Hd (hx 1 (by show 1<3;decide))
  obtain⟨s,es,_⟩:=Hd (hx 2 (by show 2<3;decide))
  have eo:x1=.tup o:=eo
  have es:x2=.tup s:=es
  exact⟨x0,o,s,by rw[ex,eo,es]⟩
theorem Wd.dat{L d:Nat}{t:T}(h:Wd L d t):DatQ d t:=by
 induction h with
 |non=>exact .p rfl
 |bl _=>exact .p rfl
 |int _=>exact .p rfl
 |str _=>exact .p rfl
 |tup _ _ ih=>exact .s rfl ih
 |lst _ _ ih=>exact .s rfl ih
theorem w_i{i:Int}{d:Nat}(h0:0<=i)(h1:i<=99):Wd 40 d (.int i):=.int (by have:=Tx;omega)
theorem w_n{x:Str}{d:Nat}(h:Zw x=true):Wd 40 d (.str x):=.str (by have:=Ax h;omega)
theorem w_w{x:Str}{d:Nat}(h:x.length<=8):Wd 40 d (.str x):=.str (by omega)
theorem w_2{x y:T}{d:Nat}(hx:Wd 40 d x)(hy:Wd 40 d y):Wd 40 (d+1) (.tup [x,y]):=.tup (by show 2<=40;decide) (Xd hx (Xd hy al_nil))
theorem w_3{x y z:T}{d:Nat}(hx:Wd 40 d x)(hy:Wd 40 d y)(hz:Wd 40 d z):Wd 40 (d+1) (.tup [x,y,z]):=.tup (by show 3<=40;decide) (Xd hx (Xd hy (Xd hz al_nil)))
theorem X8{ow bx:List Str}(now:∀z∈ow,Zw z=true)(nbx:∀z∈bx,Zw z=true){n:Nat}{t:T}(h:VF ow bx n t):Wd 40 n t:=by
 induction h with
 |num a b=>exact w_2 (w_w (by decide)) (w_i a b)
 |own q=>exact w_2 (w_w (by decide)) (w_n (now _ q))
 |box q=>exact w_2 (w_w (by decide)) (w_n (nbx _ q))
 |neg _ ih=>exact w_2 (w_w (by decide)) ih
 |two hz _ _ ih1 ih2 =>
  refine w_3 (w_w ?_) ih1 ih2
  rcases hz with rfl|rfl|rfl|rfl <;> decide
theorem sn_wd{ow bx lk:List Str}{b:Int}(hb:b<=99)(now:∀z∈ow,Zw z=true)(nbx:∀z∈bx,Zw z=true)(nlk:∀z∈lk,Zw z=true){t:T}(h:SN ow bx lk b t):Wd 40 6 t:=by
 have vp:∀{v:T},VF ow [] 5 v->Wd 40 5 v:=fun q=>X8 now (fun _ z=>by cases z) q
 cases h with
 |take m=>exact w_2 (w_w (by decide)) (w_n (nlk _ m))
 |give m=>exact w_2 (w_w (by decide)) (w_n (nlk _ m))
 |get m m'=>exact w_3 (w_w (by decide)) (w_n (now _ m)) (w_n (nbx _ m'))
 |add m q=>exact w_3 (w_w (by decide)) (w_n (nbx _ m)) (vp q)
 |put m q=>exact w_3 (w_w (by decide)) (w_n (nbx _ m)) (vp q)
 |wait m q=>exact w_3 (w_w (by decide)) (w_n (nbx _ m)) (vp q)
 |set m q=>exact w_3 (w_w (by decide)) (w_n (now _ m)) (vp q)
 |check q=>exact w_2 (w_w (by decide)) (vp q)
 |skip a c=>exact w_2 (w_w (by decide)) (w_i a (by omega))
 |unl q a c=>exact w_3 (w_w (by decide)) (vp q) (w_i a (by omega))
section
variable{size:Int}{bs:List (Str×Int)}{ls:List Str}{ps:List Prg}{ws:List Int}{cs:List T}
theorem Mj{os:List (Str×Int)}(s16:size<=16)(hn:Num size os)(hl:os.length<=40):Wd 40 2 (.tup (os.map pairT)):=.tup (by rw[List.length_map];exact hl) fun t ht=>by
 obtain⟨q,hq,rfl⟩:=List.mem_map.mp ht
 have:=hn q hq
 exact w_2 (w_n this.1) (w_i this.2.1 (by omega))
theorem LV.wd(h:LV size bs ls ps ws cs):∀t∈loomT size bs ls ps ws cs,Wd 40 12 t:=by
 have s2:=h.s2
 have s16:=h.s16
 have bn:=h.bn
 have ln:=h.ln
 have p4:=h.p4
 have w6:=h.w6
 have cn:=h.cn
 have nb:∀z∈bs.map (·.1),Zw z=true:=fun z hz=>by
  obtain⟨p,hp,rfl⟩:=List.mem_map.mp hz
  exact(h.bo p hp).1
 refine Xd (w_i (by omega) (by omega)) (Xd ((Mj s16 h.bo (by omega)).up (Nat.le_refl _) (by decide)) (Xd (.tup (by rw[List.length_map];omega) fun t ht=>?_) (Xd (.tup (by rw[List.length_map];omega) fun t ht=>?_) (Xd (.tup (by rw[List.length_map];omega) fun t ht=>?_) (Xd (.tup (by omega) fun t ht=>?_) al_nil)))))
 ·obtain⟨z,hz,rfl⟩:=List.mem_map.mp ht
  exact w_n (h.lo z hz)
 ·obtain⟨p,hp,rfl⟩:=List.mem_map.mp ht
  have v:=h.po p hp
  have f1:=v.few
  have f2:=v.short
  have no:∀z∈p.2.1.map (·.1),Zw z=true:=fun z hz=>by
   obtain⟨q,hq,rfl⟩:=List.mem_map.mp hz
   exact(v.num q hq).1
  refine w_3 (w_n v.nm) ((Mj s16 v.num (by omega)).up (Nat.le_refl _) (by decide)) (.tup (d:=9) (by omega) fun t ht=>?_)
  obtain⟨k,hk,rfl⟩:=List.mem_iff_getElem.mp ht
  exact(sn_wd (by omega) no nb h.lo (v.steps k _ (List.getElem?_eq_getElem hk))).up (Nat.le_refl _) (by decide)
 ·obtain⟨i,hi,rfl⟩:=List.mem_map.mp ht
  have:=h.wo i hi
  exact w_i this.1 (by omega)
 ·exact(X8 (fun _ z=>by cases z) nb (h.co t ht)).up (Nat.le_refl _) (by decide)
theorem LV.frm(h:LV size bs ls ps ws cs):formed (.int size) (.tup (bs.map pairT)) (.tup (ls.map T.str)) (.tup (ps.map progT)) (.tup (ws.map T.int)) (.tup cs)=true:=by
 have k:=h.ok
 unfold formed Bt
 dsimp only
 rw[Ny h.s2 h.s16,k.boxes,k.locks,k.progs,k.works,k.claims];rfl
end
section
variable{x b l p wk c:T}
inductive Dv(x b l p wk c:T):T->Prop where
 |loom:formed x b l p wk c=false->Dv x b l p wk c (.str "loom")
 |step:formed x b l p wk c=true->¬ StepsAll (Xn (items b)) (strsOf (items l)) (items p)->Dv x b l p wk c (.str "step")
 |claim:formed x b l p wk c=true->StepsAll (Xn (items b)) (strsOf (items l)) (items p)->¬ ClaimsAll (Xn (items b)) c->Dv x b l p wk c (.str "claim")
 |ok:formed x b l p wk c=true->StepsAll (Xn (items b)) (strsOf (items l)) (items p)->ClaimsAll (Xn (items b)) c->Dv x b l p wk c (.lst [.tup [x,b,l,p,wk,c]])
theorem Dv.uniq{u v:T}(h:Dv x b l p wk c u)(h':Dv x b l p wk c v):u=v:=by
 cases h with
 |loom a=>cases h' with
  |loom _=>rfl
  |step b _=>rw[a] at b;cases b
  |claim b _ _=>rw[a] at b;cases b
  |ok b _ _=>rw[a] at b;cases b
 |step a n=>cases h' with
  |loom b=>rw[a] at b;cases b
  |step _ _=>rfl
  |claim _ s _=>exact absurd s n
  |ok _ s _=>exact absurd s n
 |claim a s n=>cases h' with
  |loom b=>rw[a] at b;cases b
  |step _ m=>exact absurd s m
  |claim _ _ _=>rfl
  |ok _ _ q=>exact absurd q n
 |ok a s q=>cases h' with
  |loom b=>rw[a] at b;cases b
  |step _ m=>exact absurd s m
  |claim _ _ n=>exact absurd q n
  |ok _ _ _=>rfl
theorem O0{f:T->Str->Bool}{r:List T}{ks:List Str}(hl:r.length=ks.length)(h:(List.zipWith f r ks).all id=true):∀y∈r,∃k,f y k=true:=fun y hy=>by
 obtain⟨i,hi⟩:=List.mem_iff_getElem?.mp hy
 have hlt:=(List.getElem?_eq_some_iff.mp hi).1
 have hk':i<ks.length:=by omega
 have hk:=List.getElem?_eq_getElem hk'
 exact⟨ks[i],by
  cases e:f y ks[i] with
  |true=>rfl
  |false=>rw[O7 hi hk e] at h;cases h⟩
theorem G5{lo hi:Int}{y:T}{n:Nat}(h:A7 lo hi y=true):DatQ n y:=by cases y <;> first|exact .p rfl|cases h
theorem Er{y:T}{n:Nat}(h:isName y=true):DatQ n y:=by cases y <;> first|exact .p rfl|cases h
theorem Kr{ow bx:List Str}:∀{n:Nat} {t:T},valOk n ow bx t=true->DatQ n t
 | 0,_,h=>by unfold valOk at h;cases h
 |d+1,t,h=>by
  unfold valOk at h
  split at h
  ·split at h
   ·cases h
   ·simp only[Bool.and_eq_true,decide_eq_true_eq] at h
    refine .s rfl (Xd (.p rfl) fun y hy=>?_)
    obtain⟨k,q⟩:=O0 h.1 h.2 y hy
    unfold Ba at q
    split at q
    ·exact G5 q
    split at q
    ·exact Er (Bool.and_eq_true_iff.mp q).1
    split at q
    ·exact Er (Bool.and_eq_true_iff.mp q).1
    exact Kr q
  ·cases h
theorem We{ow bx lk:List Str}{m:Int}{t:T}(h:Al ow bx lk m t=true):DatQ 6 t:=by
 unfold Al at h
 split at h
 ·split at h
  ·cases h
  ·simp only[Bool.and_eq_true,decide_eq_true_eq] at h
   refine .s rfl (Xd (.p rfl) fun y hy=>?_)
   obtain⟨k,q⟩:=O0 h.1 h.2 y hy
   unfold Aj at q
   split at q
   ·exact Er (Bool.and_eq_true_iff.mp q).1
   split at q
   ·exact Er (Bool.and_eq_true_iff.mp q).1
   split at q
   ·exact Er (Bool.and_eq_true_iff.mp q).1
   split at q
   ·exact Kr q
   exact G5 q
 ·cases h
theorem Ug{size:Int}{y:T}(h:pairOk size y=true):DatQ 1 y:=by
 unfold pairOk at h
 rw[Bool.and_eq_true] at h
 obtain⟨n,i,rfl⟩:=Sx h.1
 have q:=h.2
 simp only[Bool.and_eq_true] at q
 exact .s rfl (Xd (Er q.1) (Xd (G5 q.2) al_nil))
theorem Ly{most size:Int}{y:T}(h:A6 most size y=true):DatQ 2 y:=by
 obtain⟨ts,rfl,_,hp,_⟩:=B5 h
 exact .s rfl fun t ht=>Ug (hp t ht)
theorem Dv.dat{u:T}(h:Dv x b l p wk c u):DatQ 12 u:=by
 cases h with
 |loom _=>exact .p rfl
 |step _ _=>exact .p rfl
 |claim _ _ _=>exact .p rfl
 |ok hf hs hc =>
  obtain⟨size,rfl⟩:∃size,x=.int size:=by cases x <;> first|exact⟨_,rfl⟩|cases hf
  unfold formed at hf
  dsimp only at hf
  rw[Bool.and_eq_true] at hf
  have hf:=hf.2
  unfold Bt at hf
  simp only[Bool.and_eq_true] at hf
  obtain⟨fb,fl,fp,fw,fc⟩:=hf
  obtain⟨ls,rfl,ll,el⟩:=Ij fl
  obtain⟨ps,rfl,lp,hp⟩:=Dt fp
  obtain⟨cs,rfl,_,lc⟩:=At fc
  unfold Bx at fw
  rw[Bool.and_eq_true] at fw
  obtain⟨ws,rfl,_,lw⟩:=At fw.1
  refine .s rfl (Xd (.s rfl (Xd (.p rfl) (Xd ((Ly fb).mono (by decide)) (Xd (.s rfl fun t ht=>?_) (Xd (.s rfl fun t ht=>?_) (Xd (.s rfl fun t ht=>?_) (Xd (.s rfl fun t ht=>?_) al_nil))))))) al_nil)
  ·rw[el] at ht
   obtain⟨z,_,rfl⟩:=List.mem_map.mp ht
   exact .p rfl
  ·obtain⟨n,o,s,rfl,ho,hst⟩:=Fd (hp t ht)
   obtain⟨os,rfl,_⟩:=B5 ho
   obtain⟨ss,rfl,_⟩:=At hst
   refine .s rfl (Xd (.p rfl) (Xd ((Ly ho).mono (by decide)) (Xd (.s rfl fun y hy=>?_) al_nil)))
   obtain⟨i,ei⟩:=List.mem_iff_getElem?.mp hy
   exact(We (hs _ os ss ht i y ei)).mono (by decide)
  ·exact G5 (List.all_eq_true.mp fw.2 t ht)
  ·exact(Kr (hc t ht)).mono (by decide)
theorem Dv.cv{u:T}{S:TH}(h:Dv x b l p wk c u):TL.cv S u=u:=by cases h <;> rfl
theorem Kz{S:TH}{Pp:UX}(px:Pl x)(pb:Pl b)(pl:Pl l)(pp:Pl p)(pw:Pl wk)(pc:Pl c)(h:∀u S',Dv x b l p wk c u->Pp u S'):Ki [.lst [x,b,l,p,wk,c]] S Pp :=
 ⟨x,b,l,p,wk,c,rfl,px,pb,pl,pp,pw,pc,fun e S'=>h _ _ (.loom e),fun e=>⟨fun ns S'=>h _ _ (.step e ns),fun fs=>⟨fun nc S'=>h _ _ (.claim e fs nc),fun hc S'=>h _ _ (.ok e fs hc)⟩⟩⟩
end
section
variable{P:Program}{w:World}{K:PySem.W.Frag}{mg:Str->Option Value}{base:Heap}
def cLaw:List T->TH->UX->Prop:=fun ts S Pp=>∃ns:List Int,ts=[.fls (ns.map T.int)]/\∀S',Pp (.bl true) S'
theorem scLaw:Zv ["_law_script","_law_parts","_law_good","_law_state_here","_law_k","_law_due"] ["_law_script"] (Zb (top 74)):=⟨rfl,rfl,rfl,by decide +kernel,rfl,by decide +kernel,by decide +kernel⟩
def LL:Nat->Nat
 | 0=>40
 | 1=>400
 |_=>2200
theorem Tb{ps:List T}(h:ps.length=6):∃x b l p wk c,ps=[x,b,l,p,wk,c]:=by
 match ps,h with
 |[x,b,l,p,wk,c],_=>exact⟨x,b,l,p,wk,c,rfl⟩
theorem Lr{u:T}{S:TH}(h:DatQ 12 u)(hc:TL.cv S u=u):DatQ 12 (TL.cv S u)/\Bool.xor false (teq 12 (TL.cv S u) (TL.cv S u))=true:=by
 rw[hc,T0 h];exact⟨h,rfl⟩
theorem Z0{m:Nat}{f:Addr}{fd:FuncData}(N:Nm P w K mg)(F:Fun K "law" "law" (top 74) f fd)(c_law_cell_at:Has P w K mg base m "_law_cell_at" ["_law_script","_law_k"] W5)(c_law_state:Has P w K mg base m "_law_state" ["_law_cell","_law_k"] Ts)(c_law_great:Has P w K mg base m "_law_great" ["_law_state_here"] Te)(c_law_next:Has P w K mg base m "_law_next" ["_law_state_here","_law_size"] Dc)(c_law_changed:Has P w K mg base m "_law_changed" ["_law_parts","_law_state_here","_law_good"] L4)(c_law_more:Has P w K mg base m "_law_more" ["_law_parts","_law_state_here"] Xx)(c_law_kind:Has P w K mg base m "_law_kind" ["_law_parts"] Yb)(c_law_told:Has P w K mg base m "_law_told" ["_law_parts"] Ki):FnOk P w K mg base CX0 (m+1) f fd ["_law_script"] (spU K cLaw):=by
 have sc:=scLaw
 refine X6 (k:=m) F sc (fun ts S Pp h=>?_) fun cdv A outer s H E hr=>?_
 ·obtain⟨ns,rfl,_⟩:=h;rfl
 have hu0:=Ar hr
 have hu64:=hr.units
 refine⟨_,(Zs (Zt 1 sc.nd (Da rfl N.list (Zc (Zf c_law_great hr rfl (Zc (Zf c_law_state hr rfl (Zc (Zf c_law_cell_at hr rfl (Zc (uv 0) (Zc Zi Zn))) (Zc Zi Zn))) Zn)) Zn)))
   (Zs (Zt 2 sc.nd (Da rfl N.list (Zc (uv 1) Zn)))
   (Zs (Zt 3 sc.nd (Zf c_law_state hr rfl (Zc (Zf c_law_cell_at hr rfl (Zc (uv 0) (Zc Zi Zn))) (Zc Zi Zn))))
   (Zs (C5 PassesOwn.never rfl (Aw rfl N.range (Zc (Zx (Ac (Ab (Cs.i (Cs.i (Cs.i (Cs.i (Cs.i Cs.nil))))))) (Zf c_law_next hr rfl (Zc (uv 3) (Zc Zi Zn)))) Zn)) (Ci 4 sc.nd) (Zo (Zg (UW.ut (A0 (Xe (A9 rfl N.isinstance (Zc (Zx (uv 1) Zi) (Zc (Xv rfl N.tuple boot_tuple) Zn)))) (Bd (Aaa hu64 (Zx (uv 1) Zi) (Zx (uv 2) Zi))))) (Zo (Zt 1 sc.nd (Zf c_law_changed hr rfl (Zc (uv 1) (Zc (uv 3) (Zc (uv 2) Zn)))))) Ze)))
   (Zs (Zg (Xf hu0 (Zf c_law_next hr rfl (Zc (uv 3) (Zc Zi Zn))) Zi) (Zo (Zt 1 sc.nd (Zf c_law_more hr rfl (Zc (uv 2) (Zc (uv 3) Zn))))) Ze)
   (Zs (Zt 5 sc.nd (Zf c_law_kind hr rfl (Zc (uv 1) Zn)))
   (Zs (Zg (Xf hu0 (uv 5) Zq) (Zo (Zt 5 sc.nd (Ac (Zc (Am rfl N.tuple (Zc (uv 1) Zn)) Zn)))) Ze)
   (Zo (Zr (Bf (Lp hu64 (Zf c_law_told hr rfl (Zc (uv 1) Zn)) (uv 5)) (Bf (Lp hu64 (Zf c_law_told hr rfl (Zc (uv 2) Zn)) (Ac (Zc (Am rfl N.tuple (Zc (uv 2) Zn)) Zn))) (B1 (Lp hu64 (Zf c_law_told hr rfl (Zc (uv 1) Zn)) (uv 5)))))))))))))),fun ts S0 Pp h=>?_⟩
 obtain⟨ns,rfl,h⟩:=h
 have o1:1<=sizeLine:=by decide
 let e0:Option T:=some (.fls (ns.map T.int))
 refine Zj (fun env S=>∃size bs ls pz ws cs,env=[e0,some (.lst (loomT size bs ls pz ws cs)),none,none,none,none]/\LV size bs ls pz ws cs) (fun k hk=>⟨ns,0,rfl,fun v=>⟨v,1,rfl,fun a y ha=>⟨a,rfl,Sd.new,fun size bs ls pz ws cs S1 _ lv=>hk _ _ ⟨size,bs,ls,pz,ws,cs,rfl,lv⟩⟩⟩⟩) ?_
 rintro _ S1 ⟨size,bs,ls,pz,ws,cs,rfl,lv⟩
 let G:List T:=loomT size bs ls pz ws cs
 let e2:Option T:=some (.lst G)
 refine Zj (fun env S=>env=[e0,some (.lst G),e2,none,none,none]) (fun k hk=>hk _ _ rfl) ?_
 rintro _ S2 rfl
 refine Zj (fun env S=>∃a,env=[e0,some (.lst G),e2,some (.ref a),none,none]/\Sd S a) (fun k hk=>⟨ns,1,rfl,fun v=>⟨v,2,rfl,fun a y ha=>hk _ _ ⟨a,rfl,Sd.new⟩⟩⟩) ?_
 rintro _ S3 ⟨a,rfl,sd⟩
 let e3:Option T:=some (.ref a)
 have wg:=lv.wd
 have g3:DatQ 12 (.tup (pz.map progT)):=(wg _ (by show _∈[T.int size,T.tup (bs.map pairT),T.tup (ls.map T.str),T.tup (pz.map progT),T.tup (ws.map T.int),T.tup cs];simp)).dat
 refine Zj (fun env S=>∃ps e4,env=[e0,some (.lst ps),e2,e3,e4,none]/\Sd S a/\ps.length=6/\∀t∈ps,Pl t) (fun kk hkk=>⟨show 5<=sizeLine by decide,a,5,rfl,sd,by decide,fun r S4 d4 r0 r1=>?_⟩) ?_
 ·have pk:∃n:Nat,atI [T.int 0,T.int 1,T.int 1,T.int 1,T.int 2] r=some (.int (n:Int))/\n<=2:=by
   have:r=0\/r=1\/r=2\/r=3\/r=4:=by omega
   rcases this with rfl|rfl|rfl|rfl|rfl
   ·exact⟨0,rfl,by decide⟩
   ·exact⟨1,rfl,by decide⟩
   ·exact⟨1,rfl,by decide⟩
   ·exact⟨1,rfl,by decide⟩
   ·exact⟨2,rfl,by decide⟩
  obtain⟨n,en,hn⟩:=pk
  refine⟨_,en,by omega,by omega,fun k env S=>∃ps e4,env=[e0,some (.lst ps),e2,e3,e4,none]/\Sd S a/\ps.length=6/\∀t∈ps,Wd (LL k) (12+91 * k) t,⟨G,none,rfl,d4.sd,rfl,wg⟩,?_,?_⟩
  ·rintro k y env S ek ⟨ps,e4,rfl,sd,l6,vps⟩
   obtain⟨hk,rfl⟩:=Nd ek
   have hk2:k=0\/k=1:=by omega
   have eLL:LL k<=400/\5 * LL k+200=LL (k+1):=by rcases hk2 with rfl|rfl <;> exact⟨by decide,rfl⟩
   obtain⟨x,b,l,p,wk,c,rfl⟩:=Tb l6
   have wp:=vps p (by simp)
   obtain⟨ty,hty⟩:=(wp.pl (by omega)).ty
   have stay:∀t∈[x,b,l,p,wk,c],Wd (LL (k+1)) (12+91 * (k+1)) t:=fun t ht=>(vps t ht).up (by omega) (by omega)
   refine An (b1:=isT ty "tuple") (b2:=teq 12 p (.tup (pz.map progT))) (fun P hP=>⟨_,at3,show Dy [p,.ty "tuple"] S (fun x S1=>match x with | .bl k=>P k S1|_=>False) from Sw hty rfl hP⟩) (fun e P hP=>?_) ⟨fun e=>?_,fun _=>⟨_,_,rfl,sd,l6,stay⟩⟩
   ·have dp:=wp.dat
    cases p with
    |tup ts=>exact⟨_,at3,_,at3,12,_,by decide,dp,g3,Cw hP⟩
    |_=>first|(cases hty;cases e;done)|(cases hty;done)
   ·have e:=(Bool.and_eq_true_iff.mp e).2
    refine⟨_,a,LL k,12+91 * k,size,bs,ls,pz,ws,cs,rfl,lv,l6,vps,eLL.1,by omega,fun t ht=>?_,sd,fun qs S' sd' l6' v'=>⟨_,_,rfl,sd',l6',fun t ht=>?_⟩⟩
    ·cases ht
     exact p3_of (n:=9) lv.p1 e
    ·have:=v' t ht
     rw[eLL.2] at this
     exact this.up (Nat.le_refl _) (by omega)
  ·rintro env S ⟨ps,e4,rfl,sd,l6,vps⟩
   rw[Zh] at vps
   refine hkk _ _ ⟨ps,e4,rfl,sd,l6,fun t ht=>(vps t ht).pl ?_⟩
   have hn3:(n:Int).toNat=0\/(n:Int).toNat=1\/(n:Int).toNat=2:=by omega
   rcases hn3 with z|z|z <;> rw[z] <;> decide
 clear sd
 rintro _ S4 ⟨ps,e4,rfl,sd,l6,pps⟩
 refine Zj (fun env S=>∃x b l p wk c,env=[e0,some (.lst [x,b,l,p,wk,c]),e2,e3,e4,none]/\Pl x/\Pl b/\Pl l/\Pl p/\Pl wk/\Pl c) (fun k hk=>⟨a,8,rfl,sd,by decide,fun r S5 d5 r0 r1=>?_⟩) ?_
 ·by_cases e:r=0
  ·refine yes_ (by show Bool.xor false (decide (r=0))=true;rw[decide_eq_true e];rfl) ⟨size,_,a,rfl,d5.sd,lv.s2,fun qs S6 ⟨x,b,l,p,wk,c,eq,hp⟩=>hk _ _ ⟨x,b,l,p,wk,c,by rw[eq];rfl,hp⟩⟩
  ·refine no_ (by show Bool.xor false (decide (r=0))=false;rw[decide_eq_false e];rfl) ?_
   obtain⟨x,b,l,p,wk,c,rfl⟩:=Tb l6
   exact hk _ _ ⟨x,b,l,p,wk,c,rfl,pps x (by simp),pps b (by simp),pps l (by simp),pps p (by simp),pps wk (by simp),pps c (by simp)⟩
 clear sd
 rintro _ S5 ⟨x,b,l,p,wk,c,rfl,px,pb,pl,pp,pw,pc⟩
 let e1:Option T:=some (.lst [x,b,l,p,wk,c])
 refine Zj (fun env S=>∃z:Str,env=[e0,e1,e2,e3,e4,some (.str z)]/\((z=""/\Dv x b l p wk c (.lst [.tup [x,b,l,p,wk,c]]))\/(¬ z=""/\Dv x b l p wk c (.str z)))) (fun k hk=>⟨x,b,l,p,wk,c,rfl,px,pb,pl,pp,pw,pc,fun e=>hk _ _ ⟨"loom",rfl,.inr ⟨by decide,.loom e⟩⟩,fun e=>⟨fun ns=>hk _ _ ⟨"step",rfl,.inr ⟨by decide,.step e ns⟩⟩,fun fs=>⟨fun nc=>hk _ _ ⟨"claim",rfl,.inr ⟨by decide,.claim e fs nc⟩⟩,fun hc=>hk _ _ ⟨"",rfl,.inl ⟨rfl,.ok e fs hc⟩⟩⟩⟩⟩) ?_
 rintro _ S6 ⟨z,rfl,hz⟩
 refine Zj (fun env S=>∃v,env=[e0,e1,e2,e3,e4,some v]/\Dv x b l p wk c v) (fun k hk=>?_) ?_
 ·rcases hz with⟨e,hv⟩|⟨e,hv⟩
  ·exact yes_ (by show Bool.xor false (decide (z=""))=true;rw[decide_eq_true e];rfl) ⟨o1,hk _ _ ⟨_,rfl,hv⟩⟩
  ·exact no_ (by show Bool.xor false (decide (z=""))=false;rw[decide_eq_false e];rfl) (hk _ _ ⟨_,rfl,hv⟩)
 rintro _ S7 ⟨v,rfl,hv⟩
 have lw:∀t∈[T.int size,T.tup (bs.map pairT),T.tup (ls.map T.str),T.tup (pz.map progT),T.tup (ws.map T.int),T.tup cs],Pl t:=fun t ht=>(wg t ht).pl (by decide)
 have hg:Dv (.int size) (.tup (bs.map pairT)) (.tup (ls.map T.str)) (.tup (pz.map progT)) (.tup (ws.map T.int)) (.tup cs) (.lst [.tup G]):=.ok lv.frm (fun n os ss hm k t e=>lv.ok.steps n (.tup os) (.tup ss) hm k t e) lv.ok.values
 let B3:TH->Prop:=fun S9=>Ki [.lst [x,b,l,p,wk,c]] S9 fun u S=>Tu false u v S Pp
 let B2:TH->Prop:=fun S8=>Ki [.lst [T.int size,T.tup (bs.map pairT),T.tup (ls.map T.str),T.tup (pz.map progT),T.tup (ws.map T.int),T.tup cs]] S8 fun u S=>1<=sizeLine/\Tu false u (.lst [.tup G]) S fun x S1=>match x with
  | .bl k=>(k=true->B3 S1)/\(k=false->Pp (.bl false) S1)
  |_=>False
 show Ki [.lst [x,b,l,p,wk,c]] S7 fun u S=>Tu false u v S fun x S1=>match x with
  | .bl k=>(k=true->B2 S1)/\(k=false->Pp (.bl false) S1)
  |_=>False
 refine Kz px pb pl pp pw pc fun u S8 hu=>?_
 have eu:=hu.uniq hv
 subst eu
 obtain⟨d1,q1⟩:=Lr (S:=S8) hu.dat hu.cv
 refine⟨12,by decide,d1,d1,yes_ q1 ?_⟩
 refine Kz (lw _ (by simp)) (lw _ (by simp)) (lw _ (by simp)) (lw _ (by simp)) (lw _ (by simp)) (lw _ (by simp)) fun u2 S9 hu2=>?_
 have eu2:=hu2.uniq hg
 subst eu2
 obtain⟨d2,q2⟩:=Lr (S:=S9) hu2.dat hu2.cv
 refine⟨o1,12,by decide,d2,d2,yes_ q2 ?_⟩
 refine Kz px pb pl pp pw pc fun u3 S10 hu3=>?_
 have eu3:=hu3.uniq hu
 subst eu3
 obtain⟨d3,q3⟩:=Lr (S:=S10) hu3.dat hu3.cv
 refine⟨12,by decide,d3,d3,?_⟩
 rw[q3]
 exact h _
theorem Mb(N:Nm P w K mg)(D:Dfs K mg):Gz P w K mg base 19 "loom_of" ["size","boxes","locks","programs","workers","claims"] (Iz (cAt mg "NoLoom") (cAt mg "NoStep") (cAt mg "NoClaim")):=by
 have c_number:=is_number (P:=P) (w:=w) (base:=base) N D.s_is_number
 have c_name:=is_name (P:=P) (w:=w) (base:=base) N D.s_is_name
 have c_name_of:=is_name_of (P:=P) (w:=w) (base:=base) D.s_is_name_of c_name
 have c_word:=has_word (P:=P) (w:=w) (base:=base) N D.s_has_word
 have c_within:=Ih (base:=base) N D.s_is_value_within D.s_is_value_part c_number c_name_of c_word 5
 have c_value:=is_value N D.s_is_value c_within
 have c_part:=is_step_part (m:=15) N D.s_is_step_part (c_name_of.mono (by omega)) (c_number.mono (by omega)) c_value
 have c_step:=is_step (m:=16) N D.s_is_step (c_word.mono (by omega)) c_part
 have c_row:=is_tuple_of (P:=P) (w:=w) (base:=base) N D.s_is_tuple_of
 have c_names:=names_of (P:=P) (w:=w) (base:=base) N D.s_names_of
 have c_unlike:=are_unlike (P:=P) (w:=w) (base:=base) N D.s_are_unlike
 have c_hold:=is_holding (m:=1) N D.s_is_holding c_row c_name c_number
 have c_holds:=are_holdings (m:=2) N D.s_are_holdings (c_row.mono (by omega)) c_hold (c_names.mono (by omega)) (c_unlike.mono (by omega))
 have c_locks:=are_locks (m:=1) N D.s_are_locks c_row c_name c_unlike
 have c_prog:=is_program (m:=3) N D.s_is_program (c_row.mono (by omega)) (c_name.mono (by omega)) c_holds
 have c_progs:=are_programs (m:=4) N D.s_are_programs (c_row.mono (by omega)) c_prog (c_names.mono (by omega)) (c_unlike.mono (by omega))
 have c_works:=are_workers (m:=1) N D.s_are_workers c_row c_number
 have c_parts:=Nh (m:=17) N D.s_ask_parts (c_number.mono (by omega)) (c_holds.mono (by omega)) (c_names.mono (by omega)) (c_locks.mono (by omega)) (c_progs.mono (by omega)) (c_works.mono (by omega)) (c_row.mono (by omega))
 have c_steps:=Nq (m:=17) N D.s_ask_steps (c_names.mono (by omega)) c_step
 have c_claims:=Mq (m:=17) N D.s_ask_claims (c_value.mono (by omega))
 exact Uj (m:=18) N D.s_loom_of c_parts c_steps c_claims (c_names.mono (by omega))
theorem Z7{f:Addr}{fd:FuncData}(N:Nm P w K mg)(D:Dfs K mg)(F:Fun K "law" "law" (top 74) f fd):FnOk P w K mg base CX0 200 f fd ["_law_script"] (spU K cLaw):=by
 have c_next:=Tv (P:=P) (w:=w) (base:=base) N D.s_law_next
 have c_cell:=W4 (P:=P) (w:=w) (base:=base) N D.s_law_cell_at
 have c_state:=Q7 (P:=P) (w:=w) (base:=base) N D.s_law_state
 have c_names:=P2 (base:=base) N D.s_law_names c_next
 have c_val:=Kl (base:=base) N D.s_law_value c_next 5
 have c_step:=Uf (base:=base) (m:=6) N D.s_law_step (c_next.mono (by omega)) c_val
 have c_steps:=Pw (base:=base) (m:=7) N D.s_law_steps (c_next.mono (by omega)) c_step
 have c_loom:=Rt (base:=base) (m:=8) N D.s_law_loom (c_next.mono (by omega)) (c_names.mono (by omega)) c_steps (c_val.mono (by omega))
 have c_great:=Pz (base:=base) (m:=9) N D.s_law_great (c_next.mono (by omega)) (c_names.mono (by omega)) (c_steps.mono (by omega)) (c_val.mono (by omega)) c_loom
 have c_wh:=Qg (P:=P) (w:=w) (base:=base) N D.s_law_whole
 have c_nm:=Mx (P:=P) (w:=w) (base:=base) N D.s_law_is_name
 have c_am:=Rg (P:=P) (w:=w) (base:=base) N D.s_law_among
 have c_va:=Fg (base:=base) N D.s_law_is_value c_wh c_am
 have c_st:=Mi (base:=base) (m:=20) N D.s_law_is_step (c_am.mono (by omega)) ((c_va 5).mono (by omega)) (c_wh.mono (by omega))
 have c_od:=Wh (base:=base) (m:=1) N D.s_law_odd c_next
 have c_sp:=I0 (base:=base) (m:=2) N D.s_law_spoilt (c_next.mono (by omega)) c_od 150
 have c_ro:=Wx (P:=P) (w:=w) (base:=base) N D.s_law_row
 have c_un:=Nr (P:=P) (w:=w) (base:=base) N D.s_law_unlike
 have c_pa:=Pq (base:=base) (m:=1) N D.s_law_pairs c_ro c_nm c_wh c_un
 have c_pr:=Ls (base:=base) (m:=2) N D.s_law_programs (c_ro.mono (by omega)) (c_nm.mono (by omega)) c_pa (c_un.mono (by omega))
 have c_fo:=Nk (base:=base) (m:=3) N D.s_law_formed (c_ro.mono (by omega)) (c_nm.mono (by omega)) (c_wh.mono (by omega)) (c_pa.mono (by omega)) c_pr (c_un.mono (by omega))
 have c_ki:=Tc (base:=base) (m:=21) N D.s_law_kind (c_fo.mono (by omega)) c_st ((c_va 5).mono (by omega))
 have c_to:=Uy (m:=19) N D.s_law_told (Mb (P:=P) (w:=w) (base:=base) N D)
 have c_mo:=Uk (base:=base) (m:=2) N D.s_law_more (c_next.mono (by omega)) c_names
 have c_ch:=M3 (base:=base) (m:=153) N D.s_law_changed (c_next.mono (by omega)) (c_od.mono (by omega)) c_sp
 exact Z0 (m:=199) N F (c_cell.mono (by omega)) (c_state.mono (by omega)) (c_great.mono (by omega)) (c_next.mono (by omega)) (c_ch.mono (by omega)) (c_mo.mono (by omega)) (c_ki.mono (by omega)) (c_to.mono (by omega))
end
end K10
end
section
namespace TL
open PySem PySem.W PyProof.Rows
theorem Qz{p q:Program}{loose:List Str}{Xt:Shared->Bool}{α:Type}{Yf:Shared->α}{Ya:World->α}{N:Nat}(h1:LeftO p q loose Xt (Hook.obs Hook.none) (Hook.val Hook.none) N)(h2:∀w,(openEnds treeTable p w N).map Yf=some (Ya w)):LeftO p q loose Xt Yf Ya N:=fun w=>by
 have a:=h1 w
 have b:=h2 w
 cases e:openEnds treeTable p w N with
 |none=>rw[e] at b;cases b
 |some s =>
  rw[e] at a b
  have a:=congrArg Prod.fst (Option.some.inj a)
  have b:=Option.some.inj b
  show some (_,Yf s)=some (_,Ya w)
  rw[b]
  exact congrArg (fun z=>some (z,Ya w)) a
end TL
namespace TL
open PySem PySem.W PyProof.Rows
theorem Ej{p:Program}{α:Type}{F:Shared->α}{A:World->α}{N:Nat}(row:String)
  (h0:∀w:World,(fencedOpening treeTable p w N).map (fun s₀=>(topFrom treeTable p (w.withFollow row false) N s₀).map F)=some (some (A (w.withFollow row false))))
  (h1:∀w:World,(fencedOpening treeTable p w N).map (fun s₀=>(topFrom treeTable p (w.withFollow row true) N s₀).map F)=some (some (A (w.withFollow row true)))) :
  ∀w,(openEnds treeTable p w N).map F=some (A w):=fun w=>by
 have e:=World.withFollow_self w row
 unfold openEnds
 cases hb:w.params.followText row <;> rw[hb] at e
 ·obtain⟨s₀,a,b⟩:=Option.map_eq_some_iff.mp (h0 w)
  rw[e] at b
  rw[a]
  exact b
 ·obtain⟨s₀,a,b⟩:=Option.map_eq_some_iff.mp (h1 w)
  rw[e] at b
  rw[a]
  exact b
end TL
namespace TL
open PySem PySem.W PyProof.Rows
end TL
namespace TL
theorem Df{α β:Type}{x y:α×β}(h1:x.1=y.1)(h2:x.2=y.2):x=y:=Prod.ext h1 h2
end TL
end
section
open PySem PySem.W PyProof.Rows
set_option maxHeartbeats 0
namespace K10
theorem m_0:∀w,(openEnds treeTable pp w 9000).map (fun s=>((sn s).1,(sn s).2.2.2.2.2.2.2.2))=some (expectedOf qq,clsGoodW qq lz):=TL.Ej (A:=fun _=>(expectedOf qq,clsGoodW qq lz)) "special-get-raises" l0_0 l1_0
theorem m_1:∀w,(openEnds treeTable pp w 9000).map (fun s=>((sn s).2.2.1,(sn s).2.2.2.2.2.2.1,(sn s).2.2.2.2.2.2.2.1))=some (true,plainGoodD qq lz,wideGood qq):=TL.Ej (A:=fun _=>(true,plainGoodD qq lz,wideGood qq)) "special-get-raises" l0_1 l1_1
theorem m_2:∀w,(openEnds treeTable pp w 9000).map (fun s=>((sn s).2.1,(sn s).2.2.2.1,(sn s).2.2.2.2.1))=some (bltViewBooted,true,pinGoodD (drecsOf qq)):=TL.Ej (A:=fun _=>(bltViewBooted,true,pinGoodD (drecsOf qq))) "special-get-raises" l0_2 l1_2
theorem m_3:∀w,(openEnds treeTable pp w 9000).map (fun s=>(plainSeenE qq lw s))=some (plainGoodE qq lw):=TL.Ej (A:=fun _=>(plainGoodE qq lw)) "special-get-raises" l0_3 l1_3
theorem left1:LeftO pp qq lz xt (Hook.obs Hook.none) (Hook.val Hook.none) 9000:=fun w=>by
 have h0:=m_0 w
 have h1:=m_1 w
 have h2:=m_2 w
 have h3:=m_3 w
 cases e:openEnds treeTable pp w 9000 with
 |none=>rw[e] at h0;cases h0
 |some s =>
  rw[e] at h0
  have h0:=Option.some.inj h0
  rw[e] at h1
  have h1:=Option.some.inj h1
  rw[e] at h2
  have h2:=Option.some.inj h2
  rw[e] at h3
  have h3:=Option.some.inj h3
  exact congrArg (fun z=>some (z,())) (show sn s=openGood qq lz from(TL.Df (Prod.mk.inj h0).1 (TL.Df (Prod.mk.inj h2).1 (TL.Df (Prod.mk.inj h1).1 (TL.Df (Prod.mk.inj (Prod.mk.inj h2).2).1 (TL.Df (Prod.mk.inj (Prod.mk.inj h2).2).2 (TL.Df (show plainSeenE qq (looseW qq lz) s=plainGoodE qq (looseW qq lz) by rw[hz];exact h3) (TL.Df (Prod.mk.inj (Prod.mk.inj h1).2).1 (TL.Df (Prod.mk.inj (Prod.mk.inj h1).2).2 (Prod.mk.inj h0).2)))))))))
end K10
set_option maxRecDepth 100000 in
set_option maxHeartbeats 0 in
theorem K10.nm_ok(w:World)(mg:Str->Option Value)(h:Heap)(KX:(K10.pre.heap_1 w.params).In h)(G:h.Ns mainGlobals mg):K10.Nm PySem.Challenge.rw_loomlook_k10_looms_refused.prog w (L2.KOf KX) mg:=by
 dsimp only [L2.KOf]
 refine' ⟨PySem.W.mg_none_of KX G ?z_isinstance,PySem.W.mg_none_of KX G ?z_str,PySem.W.mg_none_of KX G ?z_int,PySem.W.mg_none_of KX G ?z_bool,PySem.W.mg_none_of KX G ?z_tuple,PySem.W.mg_none_of KX G ?z_list,PySem.W.mg_none_of KX G ?z_len,PySem.W.mg_none_of KX G ?z_all,PySem.W.mg_none_of KX G ?z_zip,PySem.W.mg_none_of KX G ?z_range,PySem.W.mg_none_of KX G ?z_max,PySem.W.mg_none_of KX G ?z_set,PySem.W.mg_none_of KX G ?z_enumerate,PySem.W.mg_none_of KX G ?z_min,PySem.W.mg_none_of KX G ?z_ValueError,TL.Cu KX G ?i_LONGEST_NAME,TL.Cu KX G ?i_GREATEST_NUMBER,TL.Cu KX G ?i_DEEPEST_VALUE,TL.Cu KX G ?i_LEAST_SIZE,TL.Cu KX G ?i_GREATEST_SIZE,TL.Cu KX G ?i_MOST_BOXES,TL.Cu KX G ?i_MOST_LOCKS,TL.Cu KX G ?i_MOST_PROGRAMS,TL.Cu KX G ?i_MOST_OWNS,TL.Cu KX G ?i_MOST_STEPS,TL.Cu KX G ?i_MOST_WORKERS,TL.Cu KX G ?i_MOST_CLAIMS,TL.X4 KX G ?d1_VALUE_PARTS ?d2_VALUE_PARTS ?d3_VALUE_PARTS ?d4_VALUE_PARTS ?d5_VALUE_PARTS,TL.X4 KX G ?d1_STEP_PARTS ?d2_STEP_PARTS ?d3_STEP_PARTS ?d4_STEP_PARTS ?d5_STEP_PARTS,TL.D8 KX G ?xa_NoLoom,TL.D6 KX G ?xa2_NoLoom ?xo_NoLoom,TL.D8 KX G ?xa_NoStep,TL.D6 KX G ?xa2_NoStep ?xo_NoStep,TL.D8 KX G ?xa_NoClaim,TL.D6 KX G ?xa2_NoClaim ?xo_NoClaim,TL.D8 KX G ?xa_LoomError,TL.D6 KX G ?xa2_LoomError ?xo_LoomError,TL.D8 KX G ?xa_NoMove,TL.D6 KX G ?xa2_NoMove ?xo_NoMove,TL.D8 KX G ?xa_NoText,TL.D6 KX G ?xa2_NoText ?xo_NoText,TL.D8 KX G ?xa_NoWay,TL.D6 KX G ?xa2_NoWay ?xo_NoWay,TL.D8 KX G ?xa_TooMany,TL.D6 KX G ?xa2_TooMany ?xo_TooMany,TL.V7 KX G ?yc1 ?yc2,TL.Na KX G ?yd1_0 ⟨?yd2_0,?yd3_0,?yd4_0,?yd5_0,?yd6_0,?yd7_0,?yd8_0,?yd9_0⟩,TL.K9 KX G ?yb1_0 ?yb2_0 ?yb3_0,TL.K0 KX G ?yf1_0 ?yf2_0,TL.Cy KX G ?ye1_00 ?ye2_00 ?ye3_00,TL.Cy KX G ?ye1_01 ?ye2_01 ?ye3_01,TL.Cy KX G ?ye1_02 ?ye2_02 ?ye3_02,TL.Iy KX G ?yg1_0 ?yg2_0 ?yg3_0 ?yg4_0 ?yg5_0 ?yg6_0,TL.Na KX G ?yd1_1 ⟨?yd2_1,?yd3_1,?yd4_1,?yd5_1,?yd6_1,?yd7_1,?yd8_1,?yd9_1⟩,TL.K9 KX G ?yb1_1 ?yb2_1 ?yb3_1,TL.K0 KX G ?yf1_1 ?yf2_1,TL.Cy KX G ?ye1_10 ?ye2_10 ?ye3_10,TL.Cy KX G ?ye1_11 ?ye2_11 ?ye3_11,TL.Cy KX G ?ye1_12 ?ye2_12 ?ye3_12,TL.Iy KX G ?yg1_1 ?yg2_1 ?yg3_1 ?yg4_1 ?yg5_1 ?yg6_1,TL.Na KX G ?yd1_2 ⟨?yd2_2,?yd3_2,?yd4_2,?yd5_2,?yd6_2,?yd7_2,?yd8_2,?yd9_2⟩,TL.K9 KX G ?yb1_2 ?yb2_2 ?yb3_2,TL.K0 KX G ?yf1_2 ?yf2_2,TL.Cy KX G ?ye1_20 ?ye2_20 ?ye3_20,TL.Cy KX G ?ye1_21 ?ye2_21 ?ye3_21,TL.Cy KX G ?ye1_22 ?ye2_22 ?ye3_22,TL.Iy KX G ?yg1_2 ?yg2_2 ?yg3_2 ?yg4_2 ?yg5_2 ?yg6_2⟩
 (case yc1=>first|k_is|kernel_rfl)
 (case yc2=>first|k_is|kernel_rfl)
 (case yd1_0=>first|k_is|kernel_rfl)
 (case yd2_0=>first|k_is|kernel_rfl)
 (case yd3_0=>first|k_is|kernel_rfl)
 (case yd4_0=>first|k_is|kernel_rfl)
 (case yd5_0=>first|k_is|kernel_rfl)
 (case yd6_0=>first|k_is|kernel_rfl)
 (case yd7_0=>first|k_is|kernel_rfl)
 (case yd8_0=>first|k_is|kernel_rfl)
 (case yd9_0=>first|k_is|kernel_rfl)
 (case yb1_0=>first|k_is|kernel_rfl)
 (case yb2_0=>first|k_is|kernel_rfl)
 (case yb3_0=>first|k_is|kernel_rfl)
 (case yf1_0=>first|k_is|kernel_rfl)
 (case yf2_0=>first|k_is|kernel_rfl)
 (case ye1_00=>first|k_is|kernel_rfl)
 (case ye2_00=>first|k_is|kernel_rfl)
 (case ye3_00=>first|k_is|kernel_rfl)
 (case ye1_01=>first|k_is|kernel_rfl)
 (case ye2_01=>first|k_is|kernel_rfl)
 (case ye3_01=>first|k_is|kernel_rfl)
 (case ye1_02=>first|k_is|kernel_rfl)
 (case ye2_02=>first|k_is|kernel_rfl)
 (case ye3_02=>first|k_is|kernel_rfl)
 (case yg1_0=>first|k_is|kernel_rfl)
 (case yg2_0=>first|k_is|kernel_rfl)
 (case yg3_0=>first|k_is|kernel_rfl)
 (case yg4_0=>first|k_is|kernel_rfl)
 (case yg5_0=>first|k_is|kernel_rfl)
 (case yg6_0=>first|k_is|kernel_rfl)
 (case yd1_1=>first|k_is|kernel_rfl)
 (case yd2_1=>first|k_is|kernel_rfl)
 (case yd3_1=>first|k_is|kernel_rfl)
 (case yd4_1=>first|k_is|kernel_rfl)
 (case yd5_1=>first|k_is|kernel_rfl)
 (case yd6_1=>first|k_is|kernel_rfl)
 (case yd7_1=>first|k_is|kernel_rfl)
 (case yd8_1=>first|k_is|kernel_rfl)
 (case yd9_1=>first|k_is|kernel_rfl)
 (case yb1_1=>first|k_is|kernel_rfl)
 (case yb2_1=>first|k_is|kernel_rfl)
 (case yb3_1=>first|k_is|kernel_rfl)
 (case yf1_1=>first|k_is|kernel_rfl)
 (case yf2_1=>first|k_is|kernel_rfl)
 (case ye1_10=>first|k_is|kernel_rfl)
 (case ye2_10=>first|k_is|kernel_rfl)
 (case ye3_10=>first|k_is|kernel_rfl)
 (case ye1_11=>first|k_is|kernel_rfl)
 (case ye2_11=>first|k_is|kernel_rfl)
 (case ye3_11=>first|k_is|kernel_rfl)
 (case ye1_12=>first|k_is|kernel_rfl)
 (case ye2_12=>first|k_is|kernel_rfl)
 (case ye3_12=>first|k_is|kernel_rfl)
 (case yg1_1=>first|k_is|kernel_rfl)
 (case yg2_1=>first|k_is|kernel_rfl)
 (case yg3_1=>first|k_is|kernel_rfl)
 (case yg4_1=>first|k_is|kernel_rfl)
 (case yg5_1=>first|k_is|kernel_rfl)
 (case yg6_1=>first|k_is|kernel_rfl)
 (case yd1_2=>first|k_is|kernel_rfl)
 (case yd2_2=>first|k_is|kernel_rfl)
 (case yd3_2=>first|k_is|kernel_rfl)
 (case yd4_2=>first|k_is|kernel_rfl)
 (case yd5_2=>first|k_is|kernel_rfl)
 (case yd6_2=>first|k_is|kernel_rfl)
 (case yd7_2=>first|k_is|kernel_rfl)
 (case yd8_2=>first|k_is|kernel_rfl)
 (case yd9_2=>first|k_is|kernel_rfl)
 (case yb1_2=>first|k_is|kernel_rfl)
 (case yb2_2=>first|k_is|kernel_rfl)
 (case yb3_2=>first|k_is|kernel_rfl)
 (case yf1_2=>first|k_is|kernel_rfl)
 (case yf2_2=>first|k_is|kernel_rfl)
 (case ye1_20=>first|k_is|kernel_rfl)
 (case ye2_20=>first|k_is|kernel_rfl)
 (case ye3_20=>first|k_is|kernel_rfl)
 (case ye1_21=>first|k_is|kernel_rfl)
 (case ye2_21=>first|k_is|kernel_rfl)
 (case ye3_21=>first|k_is|kernel_rfl)
 (case ye1_22=>first|k_is|kernel_rfl)
 (case ye2_22=>first|k_is|kernel_rfl)
 (case ye3_22=>first|k_is|kernel_rfl)
 (case yg1_2=>first|k_is|kernel_rfl)
 (case yg2_2=>first|k_is|kernel_rfl)
 (case yg3_2=>first|k_is|kernel_rfl)
 (case yg4_2=>first|k_is|kernel_rfl)
 (case yg5_2=>first|k_is|kernel_rfl)
 (case yg6_2=>first|k_is|kernel_rfl)
 (case xa_NoLoom=>k_is)
 (case xa2_NoLoom=>k_is)
 (case xo_NoLoom=>first|k_is|kernel_rfl)
 (case xa_NoStep=>k_is)
 (case xa2_NoStep=>k_is)
 (case xo_NoStep=>first|k_is|kernel_rfl)
 (case xa_NoClaim=>k_is)
 (case xa2_NoClaim=>k_is)
 (case xo_NoClaim=>first|k_is|kernel_rfl)
 (case xa_LoomError=>k_is)
 (case xa2_LoomError=>k_is)
 (case xo_LoomError=>first|k_is|kernel_rfl)
 (case xa_NoMove=>k_is)
 (case xa2_NoMove=>k_is)
 (case xo_NoMove=>first|k_is|kernel_rfl)
 (case xa_NoText=>k_is)
 (case xa2_NoText=>k_is)
 (case xo_NoText=>first|k_is|kernel_rfl)
 (case xa_NoWay=>k_is)
 (case xa2_NoWay=>k_is)
 (case xo_NoWay=>first|k_is|kernel_rfl)
 (case xa_TooMany=>k_is)
 (case xa2_TooMany=>k_is)
 (case xo_TooMany=>first|k_is|kernel_rfl)
 (case z_isinstance=>k_is)
 (case z_str=>k_is)
 (case z_int=>k_is)
 (case z_bool=>k_is)
 (case z_tuple=>k_is)
 (case z_list=>k_is)
 (case z_len=>k_is)
 (case z_all=>k_is)
 (case z_zip=>k_is)
 (case z_range=>k_is)
 (case z_max=>k_is)
 (case z_set=>k_is)
 (case z_enumerate=>k_is)
 (case z_min=>k_is)
 (case z_ValueError=>k_is)
 (case i_LONGEST_NAME=>k_is)
 (case i_GREATEST_NUMBER=>k_is)
 (case i_DEEPEST_VALUE=>k_is)
 (case i_LEAST_SIZE=>k_is)
 (case i_GREATEST_SIZE=>k_is)
 (case i_MOST_BOXES=>k_is)
 (case i_MOST_LOCKS=>k_is)
 (case i_MOST_PROGRAMS=>k_is)
 (case i_MOST_OWNS=>k_is)
 (case i_MOST_STEPS=>k_is)
 (case i_MOST_WORKERS=>k_is)
 (case i_MOST_CLAIMS=>k_is)
 (case d1_VALUE_PARTS=>k_is)
 (case d2_VALUE_PARTS=>k_is)
 (case d3_VALUE_PARTS=>decide)
 (case d5_VALUE_PARTS=>decide +kernel)
 (case d4_VALUE_PARTS =>
  refine' (TL.Ents.cons (TL.KR.tupI ?l7 ?m7 ?r7) (TL.Ents.cons (TL.KR.tupI ?l6 ?m6 ?r6) (TL.Ents.cons (TL.KR.tupI ?l5 ?m5 ?r5) (TL.Ents.cons (TL.KR.tupI ?l4 ?m4 ?r4) (TL.Ents.cons (TL.KR.tupI ?l3 ?m3 ?r3) (TL.Ents.cons (TL.KR.tupI ?l2 ?m2 ?r2) (TL.Ents.cons (TL.KR.tupI ?l1 ?m1 ?r1) (TL.Ents.cons (TL.KR.tupI ?l0 ?m0 ?r0) TL.Ents.nil))))))))
  (case l0=>k_is)
  (case l1=>k_is)
  (case l2=>k_is)
  (case l3=>k_is)
  (case l4=>k_is)
  (case l5=>k_is)
  (case l6=>k_is)
  (case l7=>k_is)
  (case m0=>decide)
  (case m1=>decide)
  (case m2=>decide)
  (case m3=>decide)
  (case m4=>decide)
  (case m5=>decide)
  (case m6=>decide)
  (case m7=>decide)
  (case r0=>repeat first|exact TL.KRs.nil|refine TL.KRs.cons (TL.KR.str _ _) ?_|refine TL.KRs.cons (TL.KR.int _ _) ?_)
  (case r1=>repeat first|exact TL.KRs.nil|refine TL.KRs.cons (TL.KR.str _ _) ?_|refine TL.KRs.cons (TL.KR.int _ _) ?_)
  (case r2=>repeat first|exact TL.KRs.nil|refine TL.KRs.cons (TL.KR.str _ _) ?_|refine TL.KRs.cons (TL.KR.int _ _) ?_)
  (case r3=>repeat first|exact TL.KRs.nil|refine TL.KRs.cons (TL.KR.str _ _) ?_|refine TL.KRs.cons (TL.KR.int _ _) ?_)
  (case r4=>repeat first|exact TL.KRs.nil|refine TL.KRs.cons (TL.KR.str _ _) ?_|refine TL.KRs.cons (TL.KR.int _ _) ?_)
  (case r5=>repeat first|exact TL.KRs.nil|refine TL.KRs.cons (TL.KR.str _ _) ?_|refine TL.KRs.cons (TL.KR.int _ _) ?_)
  (case r6=>repeat first|exact TL.KRs.nil|refine TL.KRs.cons (TL.KR.str _ _) ?_|refine TL.KRs.cons (TL.KR.int _ _) ?_)
  (case r7=>repeat first|exact TL.KRs.nil|refine TL.KRs.cons (TL.KR.str _ _) ?_|refine TL.KRs.cons (TL.KR.int _ _) ?_))
 (case d1_STEP_PARTS=>k_is)
 (case d2_STEP_PARTS=>k_is)
 (case d3_STEP_PARTS=>decide)
 (case d5_STEP_PARTS=>decide +kernel)
 (case d4_STEP_PARTS =>
  refine' (TL.Ents.cons (TL.KR.tupI ?l9 ?m9 ?r9) (TL.Ents.cons (TL.KR.tupI ?l8 ?m8 ?r8) (TL.Ents.cons (TL.KR.tupI ?l7 ?m7 ?r7) (TL.Ents.cons (TL.KR.tupI ?l6 ?m6 ?r6) (TL.Ents.cons (TL.KR.tupI ?l5 ?m5 ?r5) (TL.Ents.cons (TL.KR.tupI ?l4 ?m4 ?r4) (TL.Ents.cons (TL.KR.tupI ?l3 ?m3 ?r3) (TL.Ents.cons (TL.KR.tupI ?l2 ?m2 ?r2) (TL.Ents.cons (TL.KR.tupI ?l1 ?m1 ?r1) (TL.Ents.cons (TL.KR.tupI ?l0 ?m0 ?r0) TL.Ents.nil))))))))))
  (case l0=>k_is)
  (case l1=>k_is)
  (case l2=>k_is)
  (case l3=>k_is)
  (case l4=>k_is)
  (case l5=>k_is)
  (case l6=>k_is)
  (case l7=>k_is)
  (case l8=>k_is)
  (case l9=>k_is)
  (case m0=>decide)
  (case m1=>decide)
  (case m2=>decide)
  (case m3=>decide)
  (case m4=>decide)
  (case m5=>decide)
  (case m6=>decide)
  (case m7=>decide)
  (case m8=>decide)
  (case m9=>decide)
  (case r0=>repeat first|exact TL.KRs.nil|refine TL.KRs.cons (TL.KR.str _ _) ?_|refine TL.KRs.cons (TL.KR.int _ _) ?_)
  (case r1=>repeat first|exact TL.KRs.nil|refine TL.KRs.cons (TL.KR.str _ _) ?_|refine TL.KRs.cons (TL.KR.int _ _) ?_)
  (case r2=>repeat first|exact TL.KRs.nil|refine TL.KRs.cons (TL.KR.str _ _) ?_|refine TL.KRs.cons (TL.KR.int _ _) ?_)
  (case r3=>repeat first|exact TL.KRs.nil|refine TL.KRs.cons (TL.KR.str _ _) ?_|refine TL.KRs.cons (TL.KR.int _ _) ?_)
  (case r4=>repeat first|exact TL.KRs.nil|refine TL.KRs.cons (TL.KR.str _ _) ?_|refine TL.KRs.cons (TL.KR.int _ _) ?_)
  (case r5=>repeat first|exact TL.KRs.nil|refine TL.KRs.cons (TL.KR.str _ _) ?_|refine TL.KRs.cons (TL.KR.int _ _) ?_)
  (case r6=>repeat first|exact TL.KRs.nil|refine TL.KRs.cons (TL.KR.str _ _) ?_|refine TL.KRs.cons (TL.KR.int _ _) ?_)
  (case r7=>repeat first|exact TL.KRs.nil|refine TL.KRs.cons (TL.KR.str _ _) ?_|refine TL.KRs.cons (TL.KR.int _ _) ?_)
  (case r8=>repeat first|exact TL.KRs.nil|refine TL.KRs.cons (TL.KR.str _ _) ?_|refine TL.KRs.cons (TL.KR.int _ _) ?_)
  (case r9=>repeat first|exact TL.KRs.nil|refine TL.KRs.cons (TL.KR.str _ _) ?_|refine TL.KRs.cons (TL.KR.int _ _) ?_))
set_option maxRecDepth 100000 in
set_option maxHeartbeats 0 in
theorem K10.dfs_ok(w:World)(mg:Str->Option Value)(h:Heap)(KX:(K10.pre.heap_1 w.params).In h)(G:h.Ns mainGlobals mg)(nm:K10.Nm PySem.Challenge.rw_loomlook_k10_looms_refused.prog w (L2.KOf KX) mg):K10.Dfs (L2.KOf KX) mg:=by
 dsimp only [L2.KOf]
 refine' ⟨TL.Zk KX G ?a0 ?l0 ?c0 ?k0 (fun _ _ _ _ _ _ us hl=>match us,hl with|[_],_=>rfl),TL.Zk KX G ?a1 ?l1 ?c1 ?k1 (fun _ _ _ _ _ _ us hl=>match us,hl with|[_,_],_=>rfl),TL.Zk KX G ?a2 ?l2 ?c2 ?k2 (fun _ _ _ _ _ _ us hl=>match us,hl with|[_,_,_],_=>rfl),TL.Zk KX G ?a3 ?l3 ?c3 ?k3 (fun _ _ _ _ _ _ us hl=>match us,hl with|[_],_=>rfl),TL.Zk KX G ?a4 ?l4 ?c4 ?k4 (fun _ _ _ _ _ _ us hl=>match us,hl with|[_,_,_],_=>rfl),TL.Zk KX G ?a5 ?l5 ?c5 ?k5 (fun _ _ _ _ _ _ us hl=>match us,hl with|[_,_,_,_],_=>rfl),TL.Zk KX G ?a6 ?l6 ?c6 ?k6 (fun _ _ _ _ _ _ us hl=>match us,hl with|[_,_,_,_,_],_=>rfl),TL.Zk KX G ?a7 ?l7 ?c7 ?k7 (fun _ _ _ _ _ _ us hl=>match us,hl with|[_,_,_,_,_],_=>rfl),TL.Zk KX G ?a8 ?l8 ?c8 ?k8 (fun _ _ _ _ _ _ us hl=>match us,hl with|[_,_,_,_,_,_],_=>rfl),TL.Zk KX G ?a9 ?l9 ?c9 ?k9 (fun _ _ _ _ _ _ us hl=>match us,hl with|[_,_,_,_,_,_],_=>rfl),TL.Zk KX G ?a10 ?l10 ?c10 ?k10 (fun _ _ _ _ _ _ us hl=>match us,hl with|[_,_,_,_,_,_],_=>rfl),TL.Zk KX G ?a11 ?l11 ?c11 ?k11 (fun _ _ _ _ _ _ us hl=>match us,hl with|[_,_,_],_=>rfl),TL.Zk KX G ?a12 ?l12 ?c12 ?k12 (fun _ _ _ _ _ _ us hl=>match us,hl with|[_],_=>rfl),TL.Zk KX G ?a13 ?l13 ?c13 ?k13 (fun _ _ _ _ _ _ us hl=>match us,hl with|[_],_=>rfl),TL.Zk KX G ?a14 ?l14 ?c14 ?k14 (fun _ _ _ _ _ _ us hl=>match us,hl with|[_,_,_],_=>rfl),TL.Zk KX G ?a15 ?l15 ?c15 ?k15 (fun _ _ _ _ _ _ us hl=>match us,hl with|[_,_],_=>rfl),TL.Zk KX G ?a16 ?l16 ?c16 ?k16 (fun _ _ _ _ _ _ us hl=>match us,hl with|[_,_],_=>rfl),TL.Zk KX G ?a17 ?l17 ?c17 ?k17 (fun _ _ _ _ _ _ us hl=>match us,hl with|[_,_],_=>rfl),TL.Zk KX G ?a18 ?l18 ?c18 ?k18 (fun _ _ _ _ _ _ us hl=>match us,hl with|[_,_],_=>rfl),TL.Zk KX G ?a19 ?l19 ?c19 ?k19 (fun _ _ _ _ _ _ us hl=>match us,hl with|[_,_],_=>rfl),TL.Zk KX G ?a20 ?l20 ?c20 ?k20 (fun _ _ _ _ _ _ us hl=>match us,hl with|[_,_,_],_=>rfl),TL.Zk KX G ?a21 ?l21 ?c21 ?k21 (fun _ _ _ _ _ _ us hl=>match us,hl with|[_,_],_=>rfl),TL.Zk KX G ?a22 ?l22 ?c22 ?k22 (fun _ _ _ _ _ _ us hl=>match us,hl with|[_,_],_=>rfl),TL.Zk KX G ?a23 ?l23 ?c23 ?k23 (fun _ _ _ _ _ _ us hl=>match us,hl with|[_,_],_=>rfl),TL.Zk KX G ?a24 ?l24 ?c24 ?k24 (fun _ _ _ _ _ _ us hl=>match us,hl with|[_,_],_=>rfl),TL.Zk KX G ?a25 ?l25 ?c25 ?k25 (fun _ _ _ _ _ _ us hl=>match us,hl with|[_,_],_=>rfl),TL.Zk KX G ?a26 ?l26 ?c26 ?k26 (fun _ _ _ _ _ _ us hl=>match us,hl with|[_,_,_,_],_=>rfl),TL.Zk KX G ?a27 ?l27 ?c27 ?k27 (fun _ _ _ _ _ _ us hl=>match us,hl with|[_,_,_,_,_],_=>rfl),TL.Zk KX G ?a28 ?l28 ?c28 ?k28 (fun _ _ _ _ _ _ us hl=>match us,hl with|[_,_,_,_,_],_=>rfl),TL.Zk KX G ?a29 ?l29 ?c29 ?k29 (fun _ _ _ _ _ _ us hl=>match us,hl with|[_,_,_],_=>rfl),TL.Zk KX G ?a30 ?l30 ?c30 ?k30 (fun _ _ _ _ _ _ us hl=>match us,hl with|[_],_=>rfl),TL.Zk KX G ?a31 ?l31 ?c31 ?k31 (fun _ _ _ _ _ _ us hl=>match us,hl with|[_,_,_],_=>rfl),TL.Zk KX G ?a32 ?l32 ?c32 ?k32 (fun _ _ _ _ _ _ us hl=>match us,hl with|[_],_=>rfl),TL.Zk KX G ?a33 ?l33 ?c33 ?k33 (fun _ _ _ _ _ _ us hl=>match us,hl with|[_,_],_=>rfl),TL.Zk KX G ?a34 ?l34 ?c34 ?k34 (fun _ _ _ _ _ _ us hl=>match us,hl with|[_,_,_,_],_=>rfl),TL.Zk KX G ?a35 ?l35 ?c35 ?k35 (fun _ _ _ _ _ _ us hl=>match us,hl with|[_,_,_,_,_],_=>rfl),TL.Zk KX G ?a36 ?l36 ?c36 ?k36 (fun _ _ _ _ _ _ us hl=>match us,hl with|[_,_],_=>rfl),TL.Zk KX G ?a37 ?l37 ?c37 ?k37 (fun _ _ _ _ _ _ us hl=>match us,hl with|[_,_],_=>rfl),TL.Zk KX G ?a38 ?l38 ?c38 ?k38 (fun _ _ _ _ _ _ us hl=>match us,hl with|[_,_,_],_=>rfl),TL.Zk KX G ?a39 ?l39 ?c39 ?k39 (fun _ _ _ _ _ _ us hl=>match us,hl with|[_],_=>rfl),TL.Zk KX G ?a40 ?l40 ?c40 ?k40 (fun _ _ _ _ _ _ us hl=>match us,hl with|[_,_,_],_=>rfl),TL.Zk KX G ?a41 ?l41 ?c41 ?k41 (fun _ _ _ _ _ _ us hl=>match us,hl with|[_,_],_=>rfl),TL.Zk KX G ?a42 ?l42 ?c42 ?k42 (fun _ _ _ _ _ _ us hl=>match us,hl with|[_],_=>rfl),TL.Zk KX G ?a43 ?l43 ?c43 ?k43 (fun _ _ _ _ _ _ us hl=>match us,hl with|[_],_=>rfl),TL.Zk KX G ?a44 ?l44 ?c44 ?k44 (fun _ _ _ _ _ _ us hl=>match us,hl with|[_,_],_=>rfl),TL.Zk KX G ?a45 ?l45 ?c45 ?k45 (fun _ _ _ _ _ _ us hl=>match us,hl with|[_,_,_],_=>rfl),TL.Zk KX G ?a46 ?l46 ?c46 ?k46 (fun _ _ _ _ _ _ us hl=>match us,hl with|[_],_=>rfl)⟩
 case a0|l0|c0|k0|a1|l1|c1|k1|a2|l2|c2|k2|a3|l3|c3|k3|a4|l4|c4|k4|a5|l5|c5|k5|a6|l6|c6|k6|a7|l7|c7|k7|a8|l8|c8|k8|a9|l9|c9|k9|a10|l10|c10|k10|a11|l11|c11|k11|a12|l12|c12|k12|a13|l13|c13|k13|a14|l14|c14|k14|a15|l15|c15|k15|a16|l16|c16|k16|a17|l17|c17|k17|a18|l18|c18|k18|a19|l19|c19|k19|a20|l20|c20|k20|a21|l21|c21|k21|a22|l22|c22|k22|a23|l23|c23|k23|a24|l24|c24|k24|a25|l25|c25|k25|a26|l26|c26|k26|a27|l27|c27|k27|a28|l28|c28|k28|a29|l29|c29|k29|a30|l30|c30|k30|a31|l31|c31|k31|a32|l32|c32|k32|a33|l33|c33|k33|a34|l34|c34|k34|a35|l35|c35|k35|a36|l36|c36|k36|a37|l37|c37|k37|a38|l38|c38|k38|a39|l39|c39|k39|a40|l40|c40|k40|a41|l41|c41|k41|a42|l42|c42|k42|a43|l43|c43|k43|a44|l44|c44|k44|a45|l45|c45|k45|a46|l46|c46|k46=>k_is
set_option maxRecDepth 100000 in
set_option maxHeartbeats 0 in
theorem PySem.Challenge.cw_loomlook_k10_looms_refused_holds : PySem.Challenge.rw_loomlook_k10_looms_refused.Holds := by
  refine holds_law K10.ws fun said=>?_
  refine holds_open (q:=K10.qq) (loose:=K10.lz) (Xt:=K10.xt) (XP:=XL K10.qq []) (Yf:=Hook.obs (kHook K10.pre.heap_1 K10.az K10.Fi)) (Ya:=Hook.val (kHook K10.pre.heap_1 K10.az K10.Fi)) (YP:=Hook.says (kHook K10.pre.heap_1 K10.az K10.Fi)) (N:=9000) (TL.Qz K10.left1 (TL.Ej "special-get-raises" K10.k0 K10.k1)) (Hook.of (kHook K10.pre.heap_1 K10.az K10.Fi)) (Hook.keeps (kHook K10.pre.heap_1 K10.az K10.Fi)) (fun s e=>xl_of s (Bool.and_eq_true_iff.mp e).1) XL.keeps (by rfl) (by rfl) (by rfl) (fun s e=>recFacts_of (Bool.and_eq_true_iff.mp e).2) (by rfl) (by assumption) (by decide +kernel) ⟨rfl,rfl,rfl,rfl,rfl,by decide +kernel⟩ ?hw ?hc
  (case hw=>w_witness2)
  k_fill
  refine L2.R9 (l:=PySem.Challenge.rw_loomlook_k10_looms_refused) (n:=63) (k:=200) (x:="_law_script") (CX:=L2.CX0) (sp:=fun K=>TL.spU K K10.cLaw) rfl (by decide) rfl ⟨rfl,by decide,by decide⟩ (fun w h Y=>PySem.W.kIn_of Y) ?F ?S ?C
  case S=>exact fun K H a ns hl hO hS=>TL.Qw hO hS ⟨ns,rfl,fun _=>rfl⟩
  case C=>exact fun _ _ _ _ z=>z
  case F =>
    intro w mg fa h KX G hmg
    have nm:=K10.nm_ok w mg h KX G
    have D:=K10.dfs_ok w mg h KX G nm
    have lw:TL.Aa (L2.KOf KX) mg "law" ["_law_script"] (K10.top 74):=by
      dsimp only [L2.KOf]
      refine' TL.Zk KX G ?a1 ?l1 ?c1 ?k1 (fun _ _ _ _ _ _ us hl=>match us,hl with | [_],_=>rfl)
      (case a1=>k_is);(case l1=>k_is);(case c1=>k_is);(case k1=>k_is)
    obtain ⟨f,fd,F,b,hm⟩:=lw
    have e:=hmg.symm.trans hm
    cases e
    obtain ⟨oc,od,kV,doc,pm,an,cdv,ct,osl,rfl,_⟩:=F.ex
    exact ⟨_,fun s u=>.of_eq rfl,fun base _ _=>K10.Z7 nm D F⟩
end

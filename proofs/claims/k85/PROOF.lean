import PyProof.Rows.All
import Wide.All
import OpenK.AllK
import Wide.FinOn
import Lean
import PyProof.EqAt
import PyProof.EqKinds
import PyProof.TupleCall
import PyProof.WalksEnum
import PyProof.EnumMake
import PyProof.Rows.EnumRows
import PyProof.NeData
import PyProof.ReprRoads
import PyProof.SumWalkG
import PyProof.StrLawsTight
import PyProof.Rows.StrNews
import PyProof.Rows.StrJoin2
import PyProof.Rows.CatFin
import PyProof.ConsumeWalk
import PyProof.StrWalks
import KE.KItemsList
import KE.KSortTup
import PyProof.ZipIter
import PyProof.ListRange
import PyProof.Rows.SeqMore
import PySem.Challenge.RW_farshelf_k85_whole_one_leads_a_term
open Array renaming length_toList->Js,getElem?_toList->ad4,getElem?_eq_none->aeh
open Bool renaming false_ne_true->ji,and_eq_true->pV,not_eq_true->aec
open False renaming elim->lN
open ForInStep renaming yield->uG
open Function renaming comp_def->aeE
open Int renaming le_refl->fO,toNat_natCast->Aa,le_trans->Ag,emod_nonneg->Ah,emod_lt_of_pos->Dk,natCast_nonneg->JT,le_of_lt->Sg,lt_irrefl->Sx,lt_of_le_of_lt->SK
open List renaming getElem?_append_left->ba,getElem?_eq_some_iff->bB,getElem?_append_right->bI,length_append->bQ,length_set->bZ,mem_singleton->cE,map_append->cM,getElem?_set_self->dr,append_assoc->dt,length_map->dC,getElem?_map->dF,map_cons->dZ,append_nil->eW,getElem?_set_ne->fq,length_cons->fN,size_toArray->fY,mem_of_getElem?->gk,mem_cons->gK,replicate->gL,getElem?_eq_getElem->gM,mem_map->iy,mem_append->iG,mem_append_right->i0,map_nil->jz,mem_cons_of_mem->jZ,length_singleton->kN,range->lx,lookup_cons->mz,mem_filter->mW,mem_cons_self->mY,nodup_cons->nI,append_cons->oU,zip_cons_cons->pX,drop_eq_getElem_cons->qN,lookup->r9,nodup_nil->se,set_append_left->sf,mem_append_left->uB,length_zip->uH,length_take->wO,length_replicate->wQ,length_drop->wR,any_cons->wU,eq_nil_of_length_eq_zero->wY,not_mem_nil->wZ,mem_of_mem_eraseIdx->w9,map_map->xa,mem_range->zG,find?_cons->Ac,all_eq_true->Ad,length_range->Af,prefix_refl->Ai,filter_eq_self->Aj,getElem?_replicate->C8,getD->De,pairwise_cons->Dg,length_filter_le->Di,getElem?_mapIdx->Dj,length_nil->JD,drop_length->JJ,mem_of_mem_drop->JK,mem_of_mem_take->JL,drop_zero->JM,take_length->JN,filterMap_cons->RU,of_mem_zip->R6,getElem?_take_of_lt->R8,all_cons->Sb,forIn_cons->Sh,cons_append->Sk,getElem?_range->Sm,drop_of_length_le->Sq,take_of_length_le->Sv,eq_of_mem_replicate->Sw,nodup_append->Sy,length_mapIdx->SD,map_drop->SE,ext_getElem?->SH,getElem?_eq_none->SJ,mem_filterMap->adT,forIn_nil->ad9,getElem_mem->aea,getElem?_eq_none_iff->aeb,take_append_drop->aee,take_add_one->ael,set_append_right->aen,mem_map_of_mem->aeu,prefix_append->aew,length_erase_of_mem->aey,nil_prefix->aez,set_cons_succ->aeC
open List.Nodup renaming mem_erase_iff->aex
open List.Pairwise renaming map->Sz
open Nat renaming le_refl->bK,le_trans->bW,lt_of_lt_of_le->ix,ne_of_lt->jh,zero_le->jj,le_succ->j0,sub_self->mB,lt_irrefl->mV,le_of_lt->rY,lt_of_le_of_lt->wV,lt_or_ge->wX,ne_of_gt->zH,lt_succ_self->C7,lt_succ_of_lt->JE,succ_pos->JH,add_sub_cancel_left->JI,le_of_eq->RZ,succ_lt_succ->Sj,add_sub_cancel->Sl,sub_zero->So,le_of_ble_eq_true->aef,min_eq_left->aes,min_eq_right->aet,le_succ_of_le->aev,succ_le_succ->aeD
open Nat.succ renaming inj->gm
open Ne renaming symm->jO
open Option renaming bind_eq_some_iff->ae,map->aQ,map_eq_some_iff->aV,isSome_iff_exists->R7,isSome_map->Se,getD_none->ad0,isSome_some->ad5,map_eq_none_iff->aed,map_none->aeA,map_some->aeB
open Option.some renaming inj->ka,injEq->aem
open Or renaming inl->wW
open Prod renaming fst->Si
open Prod.mk renaming inj->Su
open PyProof.Rows renaming AllBare->um,slot_tuple_getitem->Ab,boot_max->Ae,IntsAre->C3,boot_isinstance->Dh,boot_tuple->JR,boot_list->JS,subscriptTail->RM,callWith_type1->RV,entry_tuple_getitem->adK,subscriptTail_builtinR->adL,boot_all->aep,boot_dict->aeq,boot_min->aer
open PyProof.Rows.IsTup renaming new->Sa
open PySem renaming sizeLine->aK,wpAny_bind->aW,Spec->bH,starEach->cD,wpAny_pure->cJ,NameKind->dE,compareOp->jy,FuncData->jY,wpAny_mono->lr,mainGlobals->mr,binaryOp->mw,codeAny->mx,cellsFrom->mU,sysModules->oS,wpAny_holding->qL,attributeBase->qM,wpAny_truthy_bool->uo,assignEach->uq,PassesOwn->ur,wpAny_loadPart'->uu,getItem->uv,pushCells->uw,wpAny_letGo->ux,plainId_quiet->uy,mem_of_lookup->uE,swapsWith->wB,backToKw->wC,keywordEach->wF,wpAny_newObj_type->wG,sliceBounds->wH,callerA->wI,valueAt->wJ,wpAny_tryCatch->wK,tupleKind->zt,bootBuiltins->zu,standAt->zv,behindInMarks->zw,getMethod->zA,BindsTo->zB,notedBy->zC,updateSeq->zD,wpAny_updateSeq->zE,wpAny_passesOwn->CZ,sizeLine_eq->C0,codeAny_mono->C1,wpAny_Call_Name_kw->C2,wpAny_pyIter_list->C4,builtinsNs->Jb,letOwnedTupleGo->Jc,wpAny_call->Jd,callWith->Je,tupleKind_room_in1->Jf,pushCells_keeps->Jh,wpAny_getItem_str_slice->Ji,post_val_or_str->Jj,richCompare->Jk,codeAny_builtin->Jl,seqItems?->Jn,wpAny_seqItems->Jo,wpAny_eqBool_int->RE,wpAny_execs_nil->RF,wpAny_standAt->RG,wpAny_pyNext_list_end->RH,foldedSetIterable->RI,concat_meets->RJ,wpAny_field->RK,wpAny_typeOf->RL,seqIndex_of->RN,seqIndex_neg->RO,call_meetsIn->RP,newFunctionEnv->RQ,Within->RS,call->Sd,wpAny_callSpecial?_slot->adJ,wpAny_Call_method0_late->adM,wpAny_comprehension_free->adN,KeyKind->adP,evalArgs_none->ad2
open PySem.Around renaming under->Jz,under_plainId->JP
open PySem.Builtin.Builtins renaming bindParams->JQ
open PySem.Builtin.Slice renaming slicePlaces->JA,sliceAdjust->R9,sliceApplied->adY
open PySem.Builtin.Str renaming occurrences->RW
open PySem.Builtin.Tuple renaming tupleExact->JB,tupleItemsOf->adZ
open PySem.Calls renaming callWith_builtin->JC,spliced_cons->R4,Name_function_global->adS,spliced_nil->adU,evalArgs_plain->ad3
open PySem.Code renaming isFrame->R3
open PySem.F renaming plain_max_loop->oV,entry_max_loop->JO,slot_dict_get->Sf,slot_tuple_add->adV,entry_tuple_add->adW,args_tuple_add_2->adX,entry_dict_get->ad6,args_dict_get_3->ad7,plainAttrs_dict->ad8,slot_dict_values->aeg,kind_max->aei,plain_max->aej,entry_max->aek,plainAttrs_list->aeo
open PySem.Heap renaming lt_size->gi,get?_push_of_some->gy,get?_push_size->jP,size_push->sd,get?_update_other->uF,get?_update_self->Dc,SameBut->Jr
open PySem.NameKind renaming cell->jA,free->my
open PySem.Obj renaming mapSeq->nJ
open PySem.Paired renaming length->Jq
open PySem.PassesOwn renaming never->w6
open PySem.PyData renaming eqv->fw,strOk->i4,canLay0->sg,depth->sh,eqvAll->w5,canLayAll0->Sr,depthAll->Ss
open PySem.SeqAt.EqAt renaming int_str->adQ,str_int->adR
open PySem.Str renaming ofString->af
open PySem.Txt renaming slice->JF,slice_le->JG
open PySem.Value renaming ref->gw,type->uz,int->wL,bool->wN,str->zF,none->C5,float->Jp,isStrOf->adO
open PySem.W renaming Frag->ah,findIn->kL,mg_none_of->mZ,kia_one->pT,fnOf->pU,kia_tup->pY,isFn->rZ,emptyDict->r6,instObj->uA,keepIn->uC,kitOne->uD,plainGet->C6,codeIn->C9,mg_of->Dm,lookIn->Jt,hasDictIn->Ju,kitx_list->Jv,kitx_dict->Jy,methodObj->RT,plainGet_of->RX,plainOver->RY,callWith_K->R5
open PySem.Walks renaming list->Df
open Sum renaming inl->cb,inr->wM
open Sum.inl renaming inj->rX
open True renaming intro->kM
set_option Elab.async false
set_option linter.all false
set_option maxRecDepth 100000
noncomputable section
theorem cV{p:Prop}[Decidable p](h:decide p=false:=by decide +kernel):p=False:=eq_false (of_decide_eq_false h)
namespace L2
open PySem PySem.Spec PyProof.Rows
abbrev aY:=Sum Int Str
def uI:aY->Value->Bool
 |.inl k,v=>Value.isInt k v
 |.inr x,v=>adO x v
def SN(w:World):aY->Int
 |.inl k=>hashInt k
 |.inr x=>hashStr w x
theorem pZ:∀{k:aY} {v:Value},uI k v=true->(∃i t,k=cb i/\v=wL i t)\/(∃x t,k=wM x/\v=zF x t)
 |.inl i,v,h=>by
  obtain⟨t,e⟩:=Value.isInt_shape (k:=i) (v:=v) h;exact .inl ⟨i,t,rfl,e⟩
 |.inr x,v,h=>by
  obtain⟨t,e⟩:=Value.isStrOf_shape (x:=x) (v:=v) h;exact .inr ⟨x,t,rfl,e⟩
theorem SR(i:Int)(t:Tok):uI (.inl i) (.int i t)=true:=by simp[uI,Value.isInt]
theorem SU(x:Str)(t:Tok):uI (.inr x) (.str x t)=true:=by simp[uI,adO]
theorem SW(a b:Int):decide ((cb a:aY)=cb b)=(a == b):=by
 by_cases e:a=b
 ·subst e;simp
 ·have h:¬ (cb a:aY)=cb b:=λq=>e (rX q);rw[decide_eq_false h];exact(beq_eq_false_iff_ne.mpr e).symm
theorem SX(a b:Str):decide ((wM a:aY)=wM b)=decide (a=b):=by
 by_cases e:a=b
 ·subst e;simp
 ·have h:¬ (wM a:aY)=wM b:=λq=>e (wM.inj q);rw[decide_eq_false h,decide_eq_false e]
theorem SY(a:Int)(b:Str):decide ((cb a:aY)=wM b)=false:=decide_eq_false (λq=>nomatch q)
theorem S0(a:Str)(b:Int):decide ((wM a:aY)=cb b)=false:=decide_eq_false (λq=>nomatch q)
def jB(prog:Program)(w:World):adP prog w aY where
 is:=uI
 hash:=SN w
 inj:=λv a b ha hb=>by
  rcases pZ ha with⟨i,t,rfl,rfl⟩ | ⟨x,t,rfl,rfl⟩
  ·rcases pZ hb with⟨j,u,rfl,e⟩ | ⟨y,u,rfl,e⟩
   ·injection e with e1 _;rw[e1]
   ·exact nomatch e
  ·rcases pZ hb with⟨j,u,rfl,e⟩ | ⟨y,u,rfl,e⟩
   ·exact nomatch e
   ·injection e with e1 _;rw[e1]
 byValue:=λk v h=>by
  rcases pZ h with⟨i,t,rfl,rfl⟩ | ⟨x,t,rfl,rfl⟩ <;> rfl
 pyHash:=λhv h=>by
  rcases pZ hv with⟨i,t,rfl,rfl⟩ | ⟨x,t,rfl,rfl⟩
  ·exact wpAny_pyHash_int h
  ·exact wpAny_pyHash_str h
 eqBool:=λhu hv h=>by
  rcases pZ hu with⟨i,t,rfl,rfl⟩ | ⟨x,t,rfl,rfl⟩
  ·rcases pZ hv with⟨j,u,rfl,rfl⟩ | ⟨y,u,rfl,rfl⟩
   ·rw[SW]at h;exact RE h
   ·rw[SY]at h;exact adQ i t y u _ _ _ _ h
  ·rcases pZ hv with⟨j,u,rfl,rfl⟩ | ⟨y,u,rfl,rfl⟩
   ·rw[S0]at h;exact adR x t j u _ _ _ _ h
   ·rw[SX]at h;exact wpAny_eqBool_str h
 «strs»:=λk x t v h=>by
  rcases pZ h with⟨i,u,rfl,e⟩ | ⟨y,u,rfl,e⟩
  ·exact nomatch e
  ·injection e with e1 _
   subst e1;cases v <;> rfl
theorem S3(prog:Program)(w:World)(i:Int)(t:Tok):(jB prog w).is (.inl i) (.int i t)=true:=SR i t
theorem S4(prog:Program)(w:World)(x:Str)(t:Tok):(jB prog w).is (.inr x) (.str x t)=true:=SU x t
end L2
namespace L2
open PySem PySem.Spec PyProof.Rows
inductive V where
 |aJ | bl (b:Bool) | int (i:Int) | str (x:Str) | sm (b:Array UInt8) | kb (b:UInt64) | ref (a:Addr) | ty (n:String)
 deriving DecidableEq
def RelV:V->Value->Prop
 |.aJ,u=>u=C5
 |.bl b,u=>u=wN b
 |.int i,u=>∃t,u=wL i t
 |.str x,u=>∃t,u=zF x t
 |.sm b,u=>∃t,u=Value.bytes b t
 |.kb b,u=>∃t,u=Jp b t
 |.ref a,u=>u=gw a
 |.ty n,u=>u=uz n
abbrev bA:List V->List Value->Prop:=Paired RelV
theorem bA.length{xs:List V}{us:List Value}(r:bA xs us):xs.length=us.length:=Jq r
theorem bA.get:∀{xs:List V} {us:List Value} {i:Nat} {x:V},bA xs us->xs[i]?=some x->∃u,us[i]?=some u/\RelV x u
 |_,_,_,_, .nil,e=>by simp at e
 |_,_,0,_, .cons r _,e=>by simp at e;subst e;exact⟨_,rfl,r⟩
 |_,_,i + 1,x, .cons _ t,e=>by
  obtain⟨u,h1,h2⟩:=bA.get (i:=i) (x:=x) t (by simpa using e);exact⟨u,by simpa using h1,h2⟩
theorem bA.set(r:RelV x u):∀{xs:List V} {us:List Value} (i:Nat),bA xs us->bA (xs.set i x) (us.set i u)
 |_,_,_, .nil=> .nil
 |_,_,0, .cons _ t=> .cons r t
 |_,_,i + 1, .cons q t=> .cons q (bA.set r i t)
theorem bA.append:∀{xs ys:List V} {us ws:List Value},bA xs us->bA ys ws->bA (xs++ys) (us++ws)
 |_,_,_,_, .nil,s=>s
 |_,_,_,_, .cons r t,s=> .cons r (bA.append t s)
theorem bA.take:∀{xs:List V} {us:List Value} (n:Nat),bA xs us->bA (xs.take n) (us.take n)
 |_,_,0,_=> .nil
 |_,_,_ + 1, .nil=> .nil
 |_,_,n + 1, .cons r t=> .cons r (bA.take n t)
theorem bA.drop:∀{xs:List V} {us:List Value} (n:Nat),bA xs us->bA (xs.drop n) (us.drop n)
 |_,_,0,r=>r
 |_,_,_ + 1, .nil=> .nil
 |_,_,n + 1, .cons _ t=>bA.drop n t
def j3:Option V->Option Value->Prop
 |some v,some u=>RelV v u
 |none,none=>True
 |_,_=>False
def KV{κ:Type}:List (κ×V)->List (κ×Value)->Prop:=Paired λ(p:κ×V) (q:κ×Value)=>p.1=q.1/\RelV p.2 q.2
def kV:aY->V
 |.inl i=> .int i
 |.inr x=> .str x
inductive HO where
  |lst (xs:List V)
  |tup (xs:List V)
  |dK (aj:List (aY×V)) | dT (aj:List (List aY×V))
  |set (S:Int->Bool) (n:Nat)
  |ins (C dx:Addr) (fs:List (Str×V))
  |own (x:Addr)
  |xd (fs:List (Str×V))
  |met (f x:Addr)
  |Dp (lo hi:Int)
  |iz (o:Obj) (u:HO)
  |so (ps:Array Value)
  |ext (φ:Heap->Prop)
abbrev Hp:=Addr->Option HO
def aP(H:Hp)(a:Addr)(o:HO):Hp:=λb=>if b=a then some o else H b
theorem gX:aP H a o a=some o:=by unfold aP;rw[if_pos rfl]
theorem de{H:Hp}(h:b≠a):aP H a o b=H b:=by unfold aP;rw[if_neg h]
theorem S5{H:Hp}(h:H a=some o)(h':H b=some u)(d:o≠u):a≠b:=by
 intro e;subst e;rw[h]at h';exact d (ka h')
theorem kO{H:Hp}(h:H a=some o)(h':H b=none):a≠b:=by
 intro e;subst e;rw[h]at h';cases h'
section
variable (P:Program)(w:World)
def fZ(H:Hp)(h:Heap)(a:Addr):HO->Prop
 |.lst xs=>xs.length<=aK/\∃(ai:List Value) (n:Nat),bA xs ai/\h.get? a=some { cls:= .type "list",data:= .seq ai.toArray n }
 |.tup xs=>xs.length<=aK/\∃ai:List Value,bA xs ai/\IsTup h a ai.toArray
 |.dK aj=>aj.length<=aK/\(a == oS)=false/\∃vs,KV aj vs/\h.DictOf (jB P w) a vs
 |.dT aj=>aj.length<=aK/\(a == oS)=false/\∃xs:List (List aY×Addr×Value),
   Paired (λ(p:List aY×V) (q:List aY×Addr×Value)=>p.1=q.1/\H q.2.1=some (.tup (p.1.map kV))/\RelV p.2 q.2.2) aj xs/\
   ∃o es ep,h.get? a=some o/\o.ExactDict/\o.data= .dict es ep/\es.toList=xs.map (entryOfKey (zt (jB P w)))/\(xs.map (·.1)).Nodup
 |.set S n=>h.SetOf (intKind P w) a S n
 |.ins C dx fs=>H dx=some (.own a)/\fs.length<=1000/\dx≠a/\h.get? a=some (uA C dx)/\
   ∃mA,h.Ns1 dx mA/\(∀f,j3 (fs.lookup f) (mA f))/\RS mA (fs.map (·.1))
 |.own _=>∃o,h.get? a=some o
 |.xd fs=>∃mA,h.Ns1 a mA/\∀f,j3 (fs.lookup f) (mA f)
 |.Dp lo hi=>∃t u v,h.get? a=some { cls:= .type "range",data:= .fields #[.int lo t, .int hi u, .int 1 v] }
 |.iz o u=>h.get? a=some o/\fZ H h a u
 |.so ps=>h.get? a=some { cls:= .none,data:= .fields ps }
 |.met f x=>h.get? a=some (RT (.ref f) (.ref x))
 |.ext φ=>φ h/\(∃o,h.get? a=some o)/\∀h1 h2:Heap,φ h1->(∀o,h1.get? a=some o->h2.get? a=some o)->φ h2
def gY(H:Hp)(h:Heap):Prop:=∀a o,H a=some o->fZ P w H h a o
end
section
variable {P:Program}{w:World}{H H':Hp}{h h':Heap}{a:Addr}{o:HO}
theorem fZ.lt(x:fZ P w H h a o):a < h.objs.size:=by
 cases o with
 |lst xs=>obtain⟨_,_,_,_,e⟩:=x;exact gi e
 |tup xs=>obtain⟨_,_,_,p⟩:=x;exact p.lt
 |dK aj=>obtain⟨_,_,_,_,o,_,_,e,_⟩:=x;exact gi e
 |dT aj=>obtain⟨_,_,_,_,o,_,_,e,_⟩:=x;exact gi e
 |set S n=>obtain⟨o,_,_,_,e,_⟩:=x;exact gi e
 |ins C dx fs=>obtain⟨_,_,_,e,_⟩:=x;exact gi e
 |own y=>obtain⟨_,e⟩:=x;exact gi e
 |xd fs=>obtain⟨_,⟨_,_,_,e,_⟩,_⟩:=x;exact gi e
 |Dp lo hi=>obtain⟨_,_,_,e⟩:=x;exact gi e
 |iz ob u=>obtain⟨e,_⟩:=x;exact gi e
 |so ps=>exact gi (show h.get? a=some _ from x)
 |met f y=>exact gi (show h.get? a=some _ from x)
 |ext φ=>obtain⟨_,⟨_,e⟩,_⟩:=x;exact gi e
theorem Paired.Dq{α β:Type}{F G:α->β->Prop}:∀{l₁:List α} {l₂:List β},Paired F l₁ l₂->(∀a b,F a b->G a b)->Paired G l₁ l₂
 |_,_, .nil,_=> .nil
 |_,_, .cons r t,f=> .cons (f _ _ r) (Paired.Dq t f)
theorem fZ.gb(x:fZ P w H h a o)(k:∀b u,(b=a\/H b=some (.own a))->h.get? b=some u->h'.get? b=some u)
  (ho:∀b,H b=some (.own a)->H' b=some (.own a)) (ht:∀b xs,H b=some (.tup xs)->H' b=some (.tup xs)):fZ P w H' h' a o:=by
 induction o with
 |lst xs=>obtain⟨z,ai,n,r,e⟩:=x;exact⟨z,ai,n,r,k _ _ (.inl rfl) e⟩
 |tup xs=>obtain⟨z,ai,r,ob,e,c⟩:=x;exact⟨z,ai,r,ob,k _ _ (.inl rfl) e,c⟩
 |dK aj=>obtain⟨z,y,vs,r,ob,es,ep,e,c⟩:=x;exact⟨z,y,vs,r,ob,es,ep,k _ _ (.inl rfl) e,c⟩
 |dT aj=>
  obtain⟨z,y,xs,r,ob,es,ep,e,c⟩:=x;exact⟨z,y,xs,Paired.Dq r λp q z=>⟨z.1,ht _ _ z.2.1,z.2.2⟩,ob,es,ep,k _ _ (.inl rfl) e,c⟩
 |set S n=>obtain⟨ob,es,ep,t,e,c⟩:=x;exact⟨ob,es,ep,t,k _ _ (.inl rfl) e,c⟩
 |ins C dx fs=>
  obtain⟨d,z,ne,e,mA,⟨od,es,ep,e2,c⟩,r⟩:=x;exact⟨ho _ d,z,ne,k _ _ (.inl rfl) e,mA,⟨od,es,ep,k _ _ (.inr d) e2,c⟩,r⟩
 |own y=>obtain⟨ob,e⟩:=x;exact⟨ob,k _ _ (.inl rfl) e⟩
 |xd fs=>obtain⟨mA,⟨od,es,ep,e,c⟩,r⟩:=x;exact⟨mA,⟨od,es,ep,k _ _ (.inl rfl) e,c⟩,r⟩
 |Dp lo hi=>obtain⟨t,u,v,e⟩:=x;exact⟨t,u,v,k _ _ (.inl rfl) e⟩
 |iz ob u ih=>obtain⟨e,q⟩:=x;exact⟨k _ _ (.inl rfl) e,ih q⟩
 |so ps=>
  have e:h.get? a=some { cls:= .none,data:= .fields ps }:=x;show h'.get? a=some { cls:= .none,data:= .fields ps };exact k a _ (.inl rfl) e
 |met f y=>
  have e:h.get? a=some (RT (.ref f) (.ref y)):=x;show h'.get? a=some (RT (.ref f) (.ref y));exact k a _ (.inl rfl) e
 |ext φ=>obtain⟨p,⟨o,e⟩,st⟩:=x;exact⟨st _ _ p λo q=>k _ _ (.inl rfl) q,⟨o,k _ _ (.inl rfl) e⟩,st⟩
theorem gY.lt(x:gY P w H h)(e:H a=some o):a < h.objs.size:=(x a o e).lt
theorem gY.fresh(x:gY P w H h)(e:h.objs.size<=a):H a=none:=by
 cases q:H a with
 |none=>rfl
 |some u=>exact absurd (ix (x.lt q) e) (mV _)
theorem gY.kept(x:gY P w H h)(k:∀b u,h.get? b=some u->h'.get? b=some u):gY P w H h':=λa o e=>
 (x a o e).gb (λb u _ q=>k b u q) (λ_ q=>q) λ_ _ q=>q
theorem gY.laid(x:gY P w H h)(k:∀b u,h.get? b=some u->h'.get? b=some u)(hp:h.objs.size<=a)(new:fZ P w (aP H a o) h' a o):gY P w (aP H a o) h':=λb u e=>by
 have hn:=x.fresh hp;by_cases hb:b=a
 ·subst hb;rw[gX]at e;cases e;exact new
 ·rw[de hb]at e;exact(x b u e).gb (λc v _ q=>k c v q) (λc q=>by rw[de (kO q hn)];exact q) λc xs q=>by rw[de (kO q hn)];exact q
end
def Rd(H:Hp)(a:Addr)(u:HO):Prop:=H a=some u\/∃o,H a=some (.iz o u)
theorem Rd.ok{P:Program}{w:World}{H:Hp}{h:Heap}{a:Addr}(r:Rd H a u)(x:gY P w H h):fZ P w H h a u:=by
 rcases r with r | ⟨o,r⟩
 ·exact x a u r
 ·obtain⟨_,q⟩:=x a _ r;exact q
def jk:Option HO->Prop
 |some (.lst _)=>True
 |some (.dK _)=>True
 |some (.dT _)=>True
 |some (.set _ _)=>True
 |some (.ins _ _ _)=>True
 |some (.ext _)=>True
 |_=>False
section
variable {P:Program}{w:World}{H:Hp}{h h':Heap}{x e:Addr}
theorem gY.write(ok:gY P w H h)(mu:jk (H x))(he:e=x\/H e=some (.own x))(k:∀b u,b≠e->h.get? b=some u->h'.get? b=some u)(uJ:∃u,h'.get? e=some u)
  (new:fZ P w (aP H x o') h' x o'):gY P w (aP H x o') h':=λb u q=>by
 have JU:∀c y,H c=some (.own y)->c≠x:=λc y r z=>by subst z;rw[r]at mu;exact mu
 have S6:∀c xs,H c=some (.tup xs)->c≠x:=λc xs r z=>by subst z;rw[r]at mu;exact mu
 by_cases hb:b=x
 ·subst hb;rw[gX]at q;cases q;exact new
 ·rw[de hb]at q;by_cases sr:b=e
  ·have q':H b=some (.own x):=by
    rcases he with z | z
    ·exact absurd (sr.trans z) hb
    ·rw[sr];exact z
   rw[q]at q';cases q';obtain⟨v,hv⟩:=uJ;exact⟨v,by rw[sr];exact hv⟩
  ·refine(ok b u q).gb (λc v hc r=>k c v ?_ r) (λc r=>by rw[de (JU c b r)];exact r) λc xs r=>by rw[de (S6 c xs r)];exact r
   rcases hc with rfl | hc
   ·exact sr
   ·rintro rfl;rcases he with z | z
    ·exact JU c b hc z
    ·rw[hc]at z;cases z;exact hb rfl
end
structure Un(fs ex:List Addr)(H H':Hp)(h h':Heap):Prop where
 keep:∀b o,h.get? b=some o->H b=none->b∉fs->b∉ex->h'.get? b=some o
 slot:∀b o,h.get? b=some o->H b=none->b∈fs->b∉ex->∃sl,h'.get? b=some { o with slots:=sl }
 free:∀b o,h.get? b=some o->H b=none->b∉ex->H' b=none
 there:∀b o,h.get? b=some o->b∉ex->∃o',h'.get? b=some o'
 p5:∀b xs,H b=some (.tup xs)->H' b=some (.tup xs)
 oW:∀b o u,H b=some (.iz o u)->H' b=some (.iz o u)
 p6:∀b ps,H b=some (.so ps)->∃more,H' b=some (.so (ps++more))
section
variable {fs aeF ex JV:List Addr}{H H1 H2:Hp}{h h1 h2 h':Heap}{a x e:Addr}{o:HO}
theorem Un.any(u:Un fs ex H H1 h h1){ob:Obj}(q:h.get? b=some ob)(n:H b=none)(hx:b∉ex):∃sl,h1.get? b=some { ob with slots:=sl }:=by
 by_cases hb:b∈fs
 ·exact u.slot b ob q n hb hx
 ·exact⟨ob.slots,u.keep b ob q n hb hx⟩
theorem Un.kept(k:∀b u,h.get? b=some u->h'.get? b=some u):Un fs ex H H h h':=
 ⟨λb ob q _ _ _=>k b ob q,λb ob q _ _ _=>⟨ob.slots,k b ob q⟩,λ_ _ _ n _=>n,λb ob q _=>⟨ob,k b ob q⟩,λ_ _ q=>q,λ_ _ _ q=>q,λ_ ps q=>⟨#[],by rw[q];simp⟩⟩
theorem Un.refl:Un fs ex H H h h:=Un.kept λ_ _ q=>q
theorem Un.laid(k:∀b u,h.get? b=some u->h'.get? b=some u)(hp:h.objs.size<=a)(hn:H a=none):Un fs ex H (aP H a o) h h' where
 keep:=λb u q _ _ _=>k b u q
 slot:=λb u q _ _ _=>⟨u.slots,k b u q⟩
 free:=λb u q n _=>by rw[de (jh (ix (gi q) hp))];exact n
 there:=λb u q _=>⟨u,k b u q⟩
 p5:=λb xs q=>by rw[de (kO q hn)];exact q
 oW:=λb u xs q=>by rw[de (kO q hn)];exact q
 p6:=λb ps q=>⟨#[],by rw[de (kO q hn),q];simp⟩
theorem Un.write(mu:jk (H x))(he:e=x\/H e=some (.own x))(k:∀b u,b≠e->h.get? b=some u->h'.get? b=some u)(uJ:∃u,h'.get? e=some u):Un fs ex H (aP H x o) h h':=by
 have hx:∀b,H b=none->b≠x:=λb n z=>by subst z;rw[n]at mu;exact mu
 have hb:∀b,H b=none->b≠e:=λb n z=>by
  subst z;rcases he with r | r
  ·exact hx b n r
  ·rw[n]at r;cases r
 have hm:∀b u,H b=some u->¬ jk (some u)->b≠x:=λb u q nm z=>by subst z;rw[q]at mu;exact nm mu
 refine⟨λb u q n _ _=>k b u (hb b n) q,λb u q n _ _=>⟨u.slots,k b u (hb b n) q⟩,λb u q n _=>by rw[de (hx b n)];exact n,λb u q _=> ?_,
  λb xs q=>by rw[de (hm b _ q λz=>z)];exact q,λb u xs q=>by rw[de (hm b _ q λz=>z)];exact q,λb ps q=>⟨#[],by rw[de (hm b _ q λz=>z),q];simp⟩⟩
 by_cases sr:b=e
 ·subst sr;exact uJ
 ·exact⟨u,k b u sr q⟩
end
def uK(h:Heap)(H:Hp):List Addr:=(lx h.objs.size).filter λa=>(H a).isSome
def p7(h:Heap)(H:Hp):Heap:=W.hideAll h (uK h H)
theorem S7(h:Heap)(H:Hp):(p7 h H).objs.size=h.objs.size:=W.hideAll_size _ _
theorem S8{h:Heap}{H:Hp}{o:Obj}(e:h.get? b=some o)(n:H b=none):(p7 h H).get? b=some o:=
 W.hideAll_get _ e λhm=>by
  have q:(H b).isSome=true:=(mW.mp hm).2;rw[n]at q;simp at q
theorem S9{h:Heap}{H:Hp}{o:Obj}(e:(p7 h H).get? b=some o):h.get? b=some o/\H b=none:=by
 have e':h.get? b=some o:=W.of_hideAll (uK h H) e;refine⟨e', ?_⟩;cases q:H b with
 |none=>rfl
 |some x=>
  have hm:b∈uK h H:=mW.mpr ⟨zG.mpr (gi e'),by simp[q]⟩;have z:(p7 h H).get? b=none:=W.hideAll_none (uK h H) hm;rw[z]at e;cases e
end L2
namespace L2
open PySem PySem.Spec PyProof.Rows
structure Mod(K:ah)(mg:Str->Option Value)(base:Heap):Prop where
 xb:K.In base
 glob:base.Ns mr mg
 blt:∃mb,base.Ns Jb mb/\∀x:Str,x≠"__name__"->mb x=zu x
 nolimit:base.NoLimit
structure Cx where
 prog:Program
 w:World
 K:ah
 mg:Str->Option Value
 base:Heap
 A:Around
 N:List Str
 iP:Shared
 xc:Hp
 env:Env
 outer:List Env
 stack:List Env
 ex:List Addr
 fn:Str->Bool
 calm:Bool
 pn:List (Addr×Obj)
 xe:Value->Shared->Prop
def lO(l:List Env):List Addr:=l.filterMap (·.frame)
abbrev Cx.fs(X:Cx):List Addr:=lO X.outer
def Dr(sc:Scope)(x:Str):Prop:=sc.names.lookup x=some .local\/sc.names.lookup x=some .cell\/sc.names.lookup x=some .free
def Loc(sc:Scope)(x:Str):Prop:=sc.names.lookup x=some .local\/sc.names.lookup x=some .cell
def Look(env:Env)(h:Heap)(m:Str->Option Value)(x:Str)(u:Value):Prop:=
 (env.kindOf x=some .local/\m x=some u)\/((env.kindOf x=some .cell\/env.kindOf x=some .free)/\∃c,env.cells.lookup x=some c/\h.IsCell c (some u))
structure Cx.Ok(X:Cx):Prop where
 mod:Mod X.K X.mg X.base
 kind:X.env.scope.kind= .function
 glob:X.env.globals=mr
 blt:X.env.builtins=Jb
 above:X.iP.heap.objs.size<=X.env.locals
 inj:∀x y c,X.env.cells.lookup x=some c->X.env.cells.lookup y=some c->x=y
 has:∀x,(X.env.kindOf x=some .cell\/X.env.kindOf x=some .free)->∃c,X.env.cells.lookup x=some c
 xf:∀x c,X.fn x=true->X.env.cells.lookup x=some c->X.iP.heap.objs.size<=c
 hd:X.calm=true->X.A.handled=none
 frames:X.A.frames=some X.stack
 sy:X.stack=X.outer\/(X.stack=X.env::X.outer/\X.env.frame=some X.env.locals)
 JW:∀b∈X.ex,b≠X.env.locals/\∀x c,X.env.cells.lookup x=some c->c≠b
 bs:∀b o,X.base.get? b=some o->X.iP.heap.get? b=some o/\X.xc b=none
 oX:X.base.objs.size<=X.iP.heap.objs.size
 xg:∀b o,X.base.get? b=some o->b∉X.ex
 Ak:∀b∈X.ex,b∉X.fs
 mC:X.iP.heap.FunFrames X.base X.outer
 qO:∀b∈X.fs,X.xc b=none
structure Inv(X:Cx)(aa:List (Addr×Obj))(σ:List (Option V))(H:Hp)(s:Shared):Prop where
 ok:X.Ok
 os:s.os=X.iP.os
 bare:um s.gens
 base:Un X.fs X.ex X.xc H X.iP.heap s.heap
 loc:∃m,s.heap.Ns X.env.locals m/\∀(i:Nat) (x:Str) (v:V),X.N[i]?=some x->σ[i]?=some (some v)->Dr X.env.scope x->∃u,RelV v u/\Look X.env s.heap m x u
 cell:∀x c,X.env.cells.lookup x=some c->∃v,s.heap.IsCell c v
 free:H X.env.locals=none
 nM:∀x c,X.env.cells.lookup x=some c->H c=none
 pin:∀p∈X.pn++aa,s.heap.get? p.1=some p.2/\H p.1=none/\p.1≠X.env.locals/\p.1∉X.fs/\∀v,p.2.data≠ .cell v
 aT:gY X.prog X.w H s.heap
 len:σ.length=X.N.length
section
variable {X:Cx}{aa:List (Addr×Obj)}{σ:List (Option V)}{H H':Hp}{s:Shared}
theorem Cx.Ok.Ta(ok:X.Ok){o:Obj}(e:X.base.get? b=some o):b∉X.fs:=λhb=>by
 have:=(ok.mC.mem hb).1;rw[e]at this;cases this
theorem Inv.bs(I:Inv X aa σ H s):∀b o,X.base.get? b=some o->s.heap.get? b=some o/\H b=none:=λb o e=>
 ⟨I.base.keep b o (I.ok.bs b o e).1 (I.ok.bs b o e).2 (I.ok.Ta e) (I.ok.xg b o e),I.base.free b o (I.ok.bs b o e).1 (I.ok.bs b o e).2 (I.ok.xg b o e)⟩
theorem Inv.bk(I:Inv X aa σ H s):∀b o,X.base.get? b=some o->s.heap.get? b=some o:=λb o e=>(I.bs b o e).1
theorem Inv.mod(I:Inv X aa σ H s):Mod X.K X.mg X.base:=I.ok.mod
theorem Inv.fP(I:Inv X aa σ H s):X.K.In s.heap:=I.ok.mod.xb.keeps I.bk
theorem Inv.lt(I:Inv X aa σ H s):X.env.locals < s.heap.objs.size:=let ⟨_,hn,_⟩:=I.loc;hn.lt
theorem Inv.sz(I:Inv X aa σ H s):X.iP.heap.objs.size<=s.heap.objs.size:=bW I.ok.above (rY I.lt)
theorem Inv.Ds(I:Inv X aa σ H s){a:Addr}(h:s.heap.objs.size<=a):a∉X.fs:=λhb=>by
 obtain⟨_,o,ho,_⟩:=I.ok.mC.mem hb;exact absurd (ix (gi ho) (bW I.sz h)) (mV _)
theorem Inv.sC(I:Inv X aa σ H s):∀x c,X.env.cells.lookup x=some c->c≠X.env.locals:=λx c e z=>by
 obtain⟨v,o,ho,hd⟩:=I.cell x c e;obtain⟨m,⟨o',es,ep,sE,mE,_⟩,_⟩:=I.loc;rw[z,sE]at ho;cases ho;rw[mE]at hd;cases hd
theorem Inv.mC(I:Inv X aa σ H s):s.heap.FunFrames X.base X.outer:=by
 have all:∀(l:List Env),(∀b∈lO l,b∈X.fs)->X.iP.heap.FunFrames X.base l->s.heap.FunFrames X.base l:=by
  intro l
  induction l with
  |nil=>intro _ _;trivial
  |cons env r ih=>
   intro hs hl;obtain⟨hk,⟨L,o,hf,hn,ho,hd⟩,hr⟩:=hl;have hL:L∈X.fs:=hs L (by unfold lO;rw[RU,hf];exact mY);obtain⟨sl,e⟩:=I.base.slot L o ho (I.ok.qO L hL) hL λz=>I.ok.Ak L z hL;exact⟨hk,⟨L,_,hf,hn,e,hd⟩,ih (λb hb=>hs b (by unfold lO;rw[RU,hf];exact jZ _ hb)) hr⟩
 exact all X.outer (λ_ hb=>hb) I.ok.mC
theorem Inv.stack(I:Inv X aa σ H s):s.heap.FunFrames X.base X.stack:=by
 rcases I.ok.sy with e | ⟨e,hf⟩
 ·rw[e];exact I.mC
 ·rw[e];obtain⟨m,hn,_⟩:=I.loc;refine .cons (by rw[I.ok.kind];decide) hf hn ?_ I.mC;exact Heap.get?_none_of_le (bW I.ok.oX I.ok.above)
theorem Inv.xh(I:Inv X aa σ H s):∀b∈lO X.stack,b∈X.env.locals::X.fs:=λb hb=>by
 rcases I.ok.sy with e | ⟨e,hf⟩
 ·rw[e]at hb;exact jZ _ hb
 ·rw[e]at hb;unfold lO at hb;rw[RU,hf]at hb;exact hb
theorem Inv.JX(I:Inv X aa σ H s):∀b∈lO X.stack,H b=none:=λb hb=>by
 rcases gK.mp (I.xh b hb) with e | hb
 ·rw[e];exact I.free
 ·obtain⟨_,o,ho,_⟩:=I.ok.mC.mem hb;exact I.base.free b o ho (I.ok.qO b hb) λz=>I.ok.Ak b z hb
theorem Inv.step{g':Array GenState}{t':Nat}{d':Drawn}{ch:List Addr}(I:Inv X aa σ H s)
  (qP:∀b∈ch,(b∈X.ex\/X.iP.heap.objs.size<=b)/\b≠X.env.locals/\(∀x c,X.env.cells.lookup x=some c->c≠b)/\∀p∈X.pn++aa,p.1≠b)
  (keep:∀b o,b≠X.env.locals->b∉X.fs->b∉ch->s.heap.get? b=some o->H b=none->h'.get? b=some o)
  (slot:∀b o,b≠X.env.locals->b∈X.fs->b∉ch->s.heap.get? b=some o->H b=none->∃sl,h'.get? b=some { o with slots:=sl }) (free:∀b o,b∉ch->s.heap.get? b=some o->H b=none->H' b=none)
  (there:∀b o,b∉ch->s.heap.get? b=some o->∃o',h'.get? b=some o')
  (p5:∀b xs,H b=some (.tup xs)->H' b=some (.tup xs)) (oW:∀b o u,H b=some (.iz o u)->H' b=some (.iz o u)) (p6:∀b ps,H b=some (.so ps)->∃more,H' b=some (.so (ps++more)))
  (ns:∀m,s.heap.Ns X.env.locals m->h'.Ns X.env.locals m) (aT:gY X.prog X.w H' h') (hg:um g'):
  Inv X aa σ H' { s with heap:=h',gens:=g',drawn:=d',toks:=t' }:=by
 have sF:∀b o,X.iP.heap.get? b=some o->b≠X.env.locals:=λb o e=>jh (ix (gi e) I.ok.above);have Al:∀b o,X.iP.heap.get? b=some o->b∉X.ex->b∉ch:=λb o e hx hb=>by
  rcases(qP b hb).1 with z | z
  ·exact hx z
  ·exact absurd (ix (gi e) z) (mV _)
 have cellK:∀x c,X.env.cells.lookup x=some c->∀v,s.heap.IsCell c v->h'.IsCell c v:=λx c e v ⟨o,ho,hd⟩=>by
  have xi:c∉ch:=λz=>(qP c z).2.2.1 x c e rfl;by_cases hc:c∈X.fs
  ·obtain⟨sl,q⟩:=slot c o (I.sC x c e) hc xi ho (I.nM x c e);exact⟨_,q,hd⟩
  ·exact⟨o,keep c o (I.sC x c e) hc xi ho (I.nM x c e),hd⟩
 refine⟨I.ok,I.os,hg,⟨λb o e n hb hx=> ?_,λb o e n hb hx=> ?_,λb o e n hx=> ?_,λb o e hx=> ?_,λb xs e=>p5 b xs (I.base.p5 b xs e),λb o xs e=>oW b o xs (I.base.oW b o xs e),λb ps e=> ?_⟩, ?_,λx c e=> ?_, ?_,λx c e=> ?_,λp hp=> ?_,aT,I.len⟩
 ·exact keep b o (sF b o e) hb (Al b o e hx) (I.base.keep b o e n hb hx) (I.base.free b o e n hx)
 ·obtain⟨sl,e1⟩:=I.base.slot b o e n hb hx;obtain⟨Dt,e2⟩:=slot b _ (sF b o e) hb (Al b o e hx) e1 (I.base.free b o e n hx);exact⟨Dt,e2⟩
 ·obtain⟨o',e1⟩:=I.base.there b o e hx;exact free b o' (Al b o e hx) e1 (I.base.free b o e n hx)
 ·obtain⟨o',e1⟩:=I.base.there b o e hx;exact there b o' (Al b o e hx) e1
 ·obtain⟨m1,e1⟩:=I.base.p6 b ps e;obtain⟨m2,e2⟩:=p6 b _ e1;exact⟨m1++m2,by rw[e2,Array.append_assoc]⟩
 ·obtain⟨m,hn,hl⟩:=I.loc;refine⟨m,ns m hn,λi x v e1 e2 e3=> ?_⟩;obtain⟨u,r,l⟩:=hl i x v e1 e2 e3;refine⟨u,r, ?_⟩;rcases l with l | ⟨k,c,e,z⟩
  ·exact .inl l
  ·exact .inr ⟨k,c,e,cellK x c e _ z⟩
 ·obtain⟨v,z⟩:=I.cell x c e;exact⟨v,cellK x c e v z⟩
 ·obtain⟨m,⟨o,_,_,ho,_⟩,_⟩:=I.loc;exact free _ o (λz=>(qP _ z).2.1 rfl) ho I.free
 ·obtain⟨v,o,ho,hd⟩:=I.cell x c e;exact free c o (λz=>(qP c z).2.2.1 x c e rfl) ho (I.nM x c e)
 ·obtain⟨e,n,ne,nf,d⟩:=I.pin p hp;have xi:p.1∉ch:=λz=>(qP p.1 z).2.2.2 p hp rfl;exact⟨keep p.1 p.2 ne nf xi e n,free p.1 p.2 xi e n,ne,nf,d⟩
theorem Inv.un{t':Nat}(I:Inv X aa σ H s)(u:Un X.fs [] H H' s.heap h')(aT:gY X.prog X.w H' h'):Inv X aa σ H' { s with heap:=h',toks:=t' }:=by
 obtain⟨m,⟨o,es,ep,ho,r⟩,_⟩:=id I.loc;obtain⟨sl,hL⟩:=u.any ho I.free (by simp);exact I.step (g':=s.gens) (d':=s.drawn) (ch:= []) (λ_ z=>nomatch z) (λb o _ hb _ e n=>u.keep b o e n hb (by simp)) (λb o _ hb _ e n=>u.slot b o e n hb (by simp)) (λb o _ e n=>u.free b o e n (by simp)) (λb o _ e=>u.there b o e (by simp)) u.p5 u.oW u.p6 (λm' hm=>by
  obtain⟨o',Du,Dv,sE,r'⟩:=hm;rw[ho]at sE;cases sE;exact⟨_,Du,Dv,hL,r'⟩) aT I.bare
theorem Inv.call{t':Nat}{d':Drawn}(I:Inv X aa σ H s)(u:Un (lO X.stack) ch H H' s.heap h')(aT:gY X.prog X.w H' h')(hg:um g')
  (qP:∀b∈ch,(b∈X.ex\/X.iP.heap.objs.size<=b)/\b≠X.env.locals/\(∀x c,X.env.cells.lookup x=some c->c≠b)/\∀p∈X.pn++aa,p.1≠b):
  Inv X aa σ H' { s with heap:=h',gens:=g',drawn:=d',toks:=t' }:=by
 obtain⟨m,⟨o,es,ep,ho,r⟩,_⟩:=id I.loc;obtain⟨sl,hL⟩:=u.any ho I.free λz=>(qP _ z).2.1 rfl;exact I.step (ch:=ch) qP (λb o hL hb hc e n=>u.keep b o e n (λz=>(gK.mp (I.xh b z)).elim hL hb) hc) (λb o _ _ hc e n=>u.any e n hc) (λb o hc e n=>u.free b o e n hc) (λb o hc e=>u.there b o e hc) u.p5 u.oW u.p6 (λm' hm=>by
  obtain⟨o',Du,Dv,sE,r'⟩:=hm;rw[ho]at sE;cases sE;exact⟨_,Du,Dv,hL,r'⟩) aT hg
theorem Inv.turned{t':Nat}(I:Inv X aa σ H s)(k:∀b o,b≠it->s.heap.get? b=some o->h'.get? b=some o)(hn:H it=none)(hL:it≠X.env.locals)
  (h1:it∈X.ex\/X.iP.heap.objs.size<=it) (h2:∀x c,X.env.cells.lookup x=some c->c≠it) (h3:∀p∈X.pn++aa,p.1≠it):Inv X aa σ H { s with heap:=h',toks:=t' }:=by
 have JY:∀b u,H b=some u->b≠it:=λb u e z=>by rw[z,hn]at e;cases e
 refine I.step (g':=s.gens) (d':=s.drawn) (ch:= [it]) (λb hb=> ?_) (λb o _ _ hc e _=>k b o (λz=>hc (by simp[z])) e) (λb o _ _ hc e _=>⟨o.slots,k b o (λz=>hc (by simp[z])) e⟩) (λ_ _ _ _ n=>n)
  (λb o hc e=>⟨o,k b o (λz=>hc (by simp[z])) e⟩) (λ_ _ e=>e) (λ_ _ _ e=>e) (λb ps e=>⟨#[],by rw[e];simp⟩) (λm hm=> ?_) (λb u e=> ?_) I.bare
 ·have e:b=it:=by simpa using hb
  subst e;exact⟨h1,hL,h2,h3⟩
 ·obtain⟨o,es,ep,ho,r⟩:=hm;exact⟨o,es,ep,k _ o (jO hL) ho,r⟩
 ·refine(I.aT b u e).gb (λc v hc q=>k c v ?_ q) (λ_ q=>q) λ_ _ q=>q;rcases hc with z | z
  ·rw[z];exact JY b u e
  ·exact JY c _ z
theorem Inv.tok(I:Inv X aa σ H s)(t:Nat):Inv X aa σ H { s with toks:=t }:=I.un (h':=s.heap) (t':=t) Un.refl I.aT
theorem Inv.kept{t':Nat}(I:Inv X aa σ H s)(k:∀b u,s.heap.get? b=some u->h'.get? b=some u):Inv X aa σ H { s with heap:=h',toks:=t' }:=I.un (Un.kept k) (I.aT.kept k)
theorem Inv.laid{a:Addr}{o:HO}{t':Nat}(I:Inv X aa σ H s)(k:∀b u,s.heap.get? b=some u->h'.get? b=some u)(hp:s.heap.objs.size<=a)(new:fZ X.prog X.w (aP H a o) h' a o):
  Inv X aa σ (aP H a o) { s with heap:=h',toks:=t' }:=I.un (Un.laid k hp (I.aT.fresh hp)) (I.aT.laid k hp new)
theorem Inv.write{x e:Addr}{o:HO}{t':Nat}(I:Inv X aa σ H s)(mu:jk (H x))(he:e=x\/H e=some (.own x))(k:∀b u,b≠e->s.heap.get? b=some u->h'.get? b=some u)(uJ:∃u,h'.get? e=some u)
  (new:fZ X.prog X.w (aP H x o) h' x o):Inv X aa σ (aP H x o) { s with heap:=h',toks:=t' }:=I.un (Un.write mu he k uJ) (I.aT.write mu he k uJ new)
theorem Inv.xj(I:Inv X aa σ H s)(h:∀p∈Tb,s.heap.get? p.1=some p.2/\H p.1=none/\p.1≠X.env.locals/\p.1∉X.fs/\∀v,p.2.data≠ .cell v):Inv X Tb σ H s:=
 ⟨I.ok,I.os,I.bare,I.base,I.loc,I.cell,I.free,I.nM,λp hp=>(iG.mp hp).elim (λz=>I.pin p (uB _ z)) (h p),I.aT,I.len⟩
theorem JZ{N:List Str}(hN:N.Nodup){i j:Nat}{x:Str}(a:N[i]?=some x)(b:N[j]?=some x):i=j:=by
 obtain⟨h1,e1⟩:=bB.mp a;obtain⟨h2,e2⟩:=bB.mp b;exact(List.getElem_inj hN).mp (e1.trans e2.symm)
theorem Tc{M:Model}{A:Around}{E:Value->Shared->Prop}{i:Nat}{x:Str}{v:V}{u:Value}{Q:Unit->Shared->Prop}(I:Inv X aa σ H s)(hN:X.N.Nodup)(hi:X.N[i]?=some x)(hx:Loc X.env.scope x)(r:RelV v u)
  (h:∀s',Inv X aa (σ.set i (some v)) H s'->(∃a,Jr a s.heap s'.heap/\(a=X.env.locals\/X.env.cells.lookup x=some a))->Q () s') (hf:X.fn x=true\/X.env.scope.names.lookup x=some .local:=by first | exact .inl rfl | exact .inr rfl | assumption):wpAny M A (storeName X.env x u) Q E s:=by
 obtain⟨m,hn,hl⟩:=id I.loc;have Td:(X.env.scope.kind == .class || (X.env.scope.kind == .module && X.env.locals != X.env.globals))=false:=by rw[I.ok.kind];rfl
 have J1:i < σ.length:=by rw[I.len];exact(bB.mp hi).1
 have sC:=I.sC;have tracked:∀{a:Addr} {h':Heap},(∃o,s.heap.get? a=some o/\H a=none)->Jr a s.heap h'->gY X.prog X.w H h':=λ{a h'} ha hs b ob e=>by
  obtain⟨_,_,uL⟩:=ha;refine(I.aT b ob e).gb (λc w' hc q=>(hs.2 c ?_).trans q) (λ_ q=>q) λ_ _ q=>q;rintro rfl;rcases hc with rfl | hc
  ·rw[uL]at e;cases e
  ·rw[uL]at hc;cases hc
 rcases hx with hk | hk
 ·refine wpAny_storeName_local hk hn (λh' Te hs=> ?_) Td;obtain⟨oL,_,_,Tf,_⟩:=id hn;refine h _ ⟨I.ok,I.os,I.bare,⟨λb o e n hb hx=> ?_,λb o e n hb hx=> ?_,I.base.free,λb o e hx=> ?_,I.base.p5,I.base.oW,I.base.p6⟩,⟨_,Te,λj y v' e1 e2 e3=> ?_⟩,λy c e=> ?_,I.free,I.nM,λp hp=> ?_,tracked ⟨oL,Tf,I.free⟩ hs,by simpa using I.len⟩ ⟨_,hs, .inl rfl⟩
  ·exact(hs.2 b (jh (ix (gi e) I.ok.above))).trans (I.base.keep b o e n hb hx)
  ·obtain⟨sl,e1⟩:=I.base.slot b o e n hb hx;exact⟨sl,(hs.2 b (jh (ix (gi e) I.ok.above))).trans e1⟩
  ·obtain⟨o',e1⟩:=I.base.there b o e hx;exact⟨o',(hs.2 b (jh (ix (gi e) I.ok.above))).trans e1⟩
  ·by_cases hj:j=i
   ·subst hj;rw[hi]at e1;cases e1;rw[dr J1]at e2;cases e2;exact⟨u,r, .inl ⟨hk,by simp⟩⟩
   ·rw[fq (jO hj)]at e2;obtain⟨u',r',q⟩:=hl j y v' e1 e2 e3;refine⟨u',r', ?_⟩;rcases q with⟨k,e⟩ | ⟨k,c,e,z⟩
    ·refine .inl ⟨k, ?_⟩;have:y≠x:=λe=>hj (JZ hN e1 (e▸hi));simp[this,e]
    ·exact .inr ⟨k,c,e,z.sameBut hs (sC y c e)⟩
  ·obtain⟨w',z⟩:=I.cell y c e;exact⟨w',z.sameBut hs (sC y c e)⟩
  ·obtain⟨e,n,ne,nf,d⟩:=I.pin p hp;exact⟨(hs.2 p.1 ne).trans e,n,ne,nf,d⟩
 ·have Dw:X.fn x=true:=by
   rcases hf with z | z
   ·exact z
   ·rw[z]at hk;cases hk
  obtain⟨c,hc⟩:=I.ok.has x (.inl hk);obtain⟨w',z⟩:=I.cell x c hc;refine wpAny_storeName_cell I.ok.kind hk hc z (λh' p8 hs=> ?_);obtain⟨oc,J3,Tg⟩:=id z;refine h { s with heap:=h' } ⟨I.ok,I.os,I.bare,⟨λb o e n hb hx=> ?_,λb o e n hb hx=> ?_,I.base.free,λb o e hx=> ?_,I.base.p5,I.base.oW,I.base.p6⟩,⟨m,hn.sameBut hs (jO (sC x c hc)),λj y v' e1 e2 e3=> ?_⟩,λy c' e=> ?_,I.free,I.nM,λp hp=> ?_,tracked ⟨oc,J3,I.nM x c hc⟩ hs,by simpa using I.len⟩ ⟨c,hs, .inr hc⟩
  ·exact(hs.2 b (jh (ix (gi e) (I.ok.xf x c Dw hc)))).trans (I.base.keep b o e n hb hx)
  ·obtain⟨sl,e1⟩:=I.base.slot b o e n hb hx;exact⟨sl,(hs.2 b (jh (ix (gi e) (I.ok.xf x c Dw hc)))).trans e1⟩
  ·obtain⟨o',e1⟩:=I.base.there b o e hx;exact⟨o',(hs.2 b (jh (ix (gi e) (I.ok.xf x c Dw hc)))).trans e1⟩
  ·by_cases hj:j=i
   ·subst hj;rw[hi]at e1;cases e1;rw[dr J1]at e2;cases e2;exact⟨u,r, .inr ⟨.inl hk,c,hc,p8⟩⟩
   ·rw[fq (jO hj)]at e2;obtain⟨u',r',q⟩:=hl j y v' e1 e2 e3;refine⟨u',r', ?_⟩;rcases q with q | ⟨k,c',e,z'⟩
    ·exact .inl q
    ·refine .inr ⟨k,c',e,z'.sameBut hs ?_⟩;rintro rfl;exact hj (JZ hN e1 (I.ok.inj _ _ _ e hc▸hi))
  ·by_cases Ka:c'=c
   ·subst Ka;exact⟨_,p8⟩
   ·obtain⟨w2,z2⟩:=I.cell y c' e;exact⟨w2,z2.sameBut hs Ka⟩
  ·obtain⟨e,n,ne,nf,d⟩:=I.pin p hp;refine⟨(hs.2 p.1 ?_).trans e,n,ne,nf,d⟩;intro q;rw[q,J3]at e;have q':oc=p.2:=ka e;exact d w' (by rw[<- q'];exact Tg)
theorem Dx{M:Model}{A:Around}{E:Value->Shared->Prop}{x:Str}{Q:Unit->Shared->Prop}(I:Inv X aa σ H s)(hN:X.N.Nodup)(hi:X.N[i]?=some x)(hx:Loc X.env.scope x)(r:RelV v u)
  (h:∀s',Inv X aa (σ.set i (some v)) H s'->Q () s') (hf:X.fn x=true\/X.env.scope.names.lookup x=some .local:=by first | exact .inl rfl | exact .inr rfl | assumption):wpAny M A (storeName X.env x u) Q E s:=
 Tc I hN hi hx r (λs' I' _=>h s' I') hf
end
abbrev XK:=Value->Option Addr->Hp->Prop
abbrev St:=List (Option V)
abbrev VK:=V->Hp->Prop
abbrev TE:=St->Hp->VK->Prop
abbrev TT:=St->Hp->(Bool->Hp->Prop)->Prop
abbrev TA:=St->Hp->(List V->Hp->Prop)->Prop
structure lM where
 nx:St->Hp->Prop
 rt:VK
 bk:St->Hp->Prop:=λ_ _=>False
 ct:St->Hp->Prop:=λ_ _=>False
abbrev TS:=lM->St->Hp->Prop
def EP(X:Cx)(aa:List (Addr×Obj))(σ:St)(Q:VK)(u:Value)(s':Shared):Prop:=∃v H',Inv X aa σ H' s'/\RelV v u/\Q v H'
def TP(X:Cx)(aa:List (Addr×Obj))(σ:St)(Q:Bool->Hp->Prop)(b:Bool)(s':Shared):Prop:=∃H',Inv X aa σ H' s'/\Q b H'
def AP(X:Cx)(aa:List (Addr×Obj))(σ:St)(Q:List V->Hp->Prop)(us:List Value)(s':Shared):Prop:=∃vs H',Inv X aa σ H' s'/\bA vs us/\Q vs H'
def SP(X:Cx)(aa:List (Addr×Obj))(D:lM)(f:Flow)(s':Shared):Prop:=
 match f with
 |.next=>∃aO H',Inv X aa aO H' s'/\D.nx aO H'
 |.brk=>∃aO H',Inv X aa aO H' s'/\D.bk aO H'
 |.cont=>∃aO H',Inv X aa aO H' s'/\D.ct aO H'
 |.ret u=>∃v aO H',Inv X aa aO H' s'/\RelV v u/\D.rt v H'
def PE(X:Cx)(e:Expr)(t:TE):Prop:=
 ∀(aa:List (Addr×Obj)) (s:Shared) (σ:St) (H:Hp) (Q:VK),Inv X aa σ H s->t σ H Q->wpAny (model X.prog X.w) X.A (eval e X.env) (EP X aa σ Q) X.xe s
def PT(X:Cx)(e:Expr)(t:TT):Prop:=
 ∀(aa:List (Addr×Obj)) (s:Shared) (σ:St) (H:Hp) (Q:Bool->Hp->Prop),Inv X aa σ H s->t σ H Q->wpAny (model X.prog X.w) X.A (isTrue e X.env (eval e X.env)) (TP X aa σ Q) X.xe s
def PW(X:Cx)(e:Expr)(t:TT):Prop:=
 ∀(whole:Sem Value) (aa:List (Addr×Obj)) (s:Shared) (σ:St) (H:Hp) (Q:Bool->Hp->Prop),Inv X aa σ H s->t σ H Q->wpAny (model X.prog X.w) X.A (isTrue e X.env whole) (TP X aa σ Q) X.xe s
theorem PW.pt{X:Cx}{e:Expr}(h:PW X e t):PT X e t:=h _
def PA(X:Cx)(es:List Expr)(t:TA):Prop:=
 ∀(pos:Pos) (aa:List (Addr×Obj)) (s:Shared) (σ:St) (H:Hp) (Q:List V->Hp->Prop),Inv X aa σ H s->t σ H Q->wpAny (model X.prog X.w) X.A (spliced (backTo pos (cD es X.env))) (AP X aa σ Q) X.xe s
def PS(X:Cx)(st:Stmt)(t:TS):Prop:=
 ∀(aa:List (Addr×Obj)) (s:Shared) (σ:St) (H:Hp) (D:lM),Inv X aa σ H s->t D σ H->wpAny (model X.prog X.w) X.A (exec st X.env) (SP X aa D) X.xe s
def kP(X:Cx)(st:List Stmt)(t:TS):Prop:=
 ∀(aa:List (Addr×Obj)) (s:Shared) (σ:St) (H:Hp) (D:lM),Inv X aa σ H s->t D σ H->wpAny (model X.prog X.w) X.A (execs st X.env) (SP X aa D) X.xe s
theorem bG{α:Type}{t:Sem α}{Q Q':α->Shared->Prop}{M:Model}{A:Around}{E:Value->Shared->Prop}{s:Shared}(h:wpAny M A t Q E s)(hQ:∀a s,Q a s->Q' a s):wpAny M A t Q' E s:=lr h hQ λ_ _ x=>x
end L2
namespace L2
open PySem PySem.Spec PyProof.Rows
section
variable {X:Cx}
def gZ(i:Nat):TE:=λσ H Q=>∃v,σ[i]?=some (some v)/\Q v H
def tC(v:V):TE:=λ_ H Q=>Q v H
theorem Th{x:Str}{pos:Pos}(hN:X.N[i]?=some x)(hv:Dr X.env.scope x)(hd:(x == ("__debug__":Str))=false:=by decide)(nN:(x == ("__classdict__":Str))=false:=by decide):PE X (.Name x pos) (gZ i):=by
 intro aa s σ H Q I h;obtain⟨v,e,h⟩:=h;obtain⟨m,hn,hl⟩:=I.loc;obtain⟨u,r,l⟩:=hl i x v hN e hv;have cL:EP X aa σ Q u s:=⟨v,H,I,r,h⟩
 rcases l with⟨hk,hm⟩ | ⟨hk,c,hc,oY⟩
 ·exact wpAny_Name (wpAny_loadName_local I.ok.kind hk hn hm cL) hd
 ·rcases hk with hk | hk
  ·exact wpAny_Name (wpAny_loadName_cell I.ok.kind hk hc oY cL) hd
  ·exact wpAny_Name (wpAny_loadName_free I.ok.kind hk hc oY cL nN) hd
theorem aU{i j pos}:PE X (.Constant (.int i) j pos) (tC (.int i)):=λ_ _ _ H _ I h=>wpAny_Constant_int ⟨.int i,H,I.tok _,⟨_,rfl⟩,h⟩
theorem oZ{b j pos}:PE X (.Constant (.bool b) j pos) (tC (.bl b)):=λ_ _ _ H _ I h=>Constant_bool ⟨.bl b,H,I,rfl,h⟩
theorem xk{j pos}:PE X (.Constant .none j pos) (tC .aJ):=λ_ _ _ H _ I h=>Constant_none ⟨.aJ,H,I,rfl,h⟩
theorem bL{x j pos}:PE X (.Constant (.str x) j pos) (tC (.str x)):=λ_ _ _ H _ I h=>Calls.Constant_str ⟨.str x,H,I.tok _,⟨_,rfl⟩,h⟩
def Gl(X:Cx)(x:Str):Prop:=X.env.kindOf x=some .globalImplicit
theorem Dy{E:Value->Shared->Prop}{aa:List (Addr×Obj)}{s:Shared}{σ:St}{H:Hp}{x:Str}{pos:Pos}{Q:Value->Shared->Prop}(I:Inv X aa σ H s)(hg:Gl X x)(hm:X.mg x=some u)(h:Q u s)
  (hd:(x == ("__debug__":Str))=false:=by decide):wpAny (model X.prog X.w) X.A (eval (.Name x pos) X.env) Q E s:=
 adS I.ok.kind hg (Calls.loadGlobal_global (by rw[I.ok.glob];exact I.mod.glob.keeps I.bk) hm h) hd
theorem uM{E:Value->Shared->Prop}{aa:List (Addr×Obj)}{s:Shared}{σ:St}{H:Hp}{x:Str}{pos:Pos}{Q:Value->Shared->Prop}(I:Inv X aa σ H s)(hg:Gl X x)(hm:X.mg x=none)(hv:zu x=some u)(h:Q u s)
  (hn:x≠"__name__":=by decide) (hd:(x == ("__debug__":Str))=false:=by decide):wpAny (model X.prog X.w) X.A (eval (.Name x pos) X.env) Q E s:=by
 obtain⟨mb,h1,h2⟩:=I.mod.blt;exact adS I.ok.kind hg (Calls.loadGlobal_builtin (by rw[I.ok.glob];exact I.mod.glob.keeps I.bk) hm (by rw[I.ok.blt];exact h1.keeps I.bk) ((h2 x hn).trans hv) h) hd
theorem uN{x:Str}{pos:Pos}(hg:Gl X x)(hm:X.mg x=none)(hv:zu x=some u)(r:RelV v u)(hn:x≠"__name__":=by decide)(hd:(x == ("__debug__":Str))=false:=by decide):PE X (.Name x pos) (tC v):=
 λ_ _ _ H _ I h=>uM I hg hm hv ⟨v,H,I,r,h⟩ hn hd
variable {a b:Expr}{ta tb:TE}{pos:Pos}
def tB(t:TE):TT:=λσ H Q=>t σ H λx H1=>∃c,x= .bl c/\Q c H1
theorem nO{e:Expr}{t:TE}(h:PE X e t)(he:∀whole,isTrue e X.env whole=(do let v <- whole;zv e.pos;holding [v] (truthy v)):=by intro _;rfl):PT X e (tB t):=by
 intro aa s σ H Q I hw;refine isTrue_plain (bG (h aa s σ H _ I hw) λv s1 ⟨x,H1,I1,r1,q1⟩=> ?_) (he _);obtain⟨d,rfl,q⟩:=q1;cases r1;exact uo ⟨H1,I1,q⟩
variable {tA Am:TT}{rest:List Expr}
def Dz(t u:TT):TT:=λσ H Q=>t σ H λc H1=>if c=true then u σ H1 Q else Q false H1
def DA(t u:TT):TT:=λσ H Q=>t σ H λc H1=>if c=true then Q true H1 else u σ H1 Q
def Kb(t:TT):TT:=λσ H Q=>t σ H λc H1=>Q (!c) H1
theorem An(ha:PT X a tA):PW X (.BoolOp .And [a] pos) tA:=by
 intro wh aa s σ H Q I h;refine isTrue_and (bG (ha aa s σ H Q I h) λc s1 e=> ?_);cases c with
 |true=>exact isTrue_and_nil e
 |false=>exact e
theorem uO(ha:PT X a tA):PW X (.BoolOp .Or [a] pos) tA:=by
 intro wh aa s σ H Q I h;refine isTrue_or (bG (ha aa s σ H Q I h) λc s1 e=> ?_);cases c with
 |false=>exact isTrue_or_nil e
 |true=>exact e
theorem xl(ha:PT X a tA)(hb:PW X (.BoolOp .And (b::rest) pos) Am):PW X (.BoolOp .And (a::b::rest) pos) (Dz tA Am):=by
 intro wh aa s σ H Q I h;refine isTrue_and (bG (ha aa s σ H _ I h) λc s1 ⟨H1,I1,q1⟩=> ?_);cases c with
 |true=>exact hb wh aa s1 σ H1 Q I1 q1
 |false=>exact⟨H1,I1,q1⟩
theorem qQ(ha:PT X a tA)(hb:PW X (.BoolOp .Or (b::rest) pos) Am):PW X (.BoolOp .Or (a::b::rest) pos) (DA tA Am):=by
 intro wh aa s σ H Q I h;refine isTrue_or (bG (ha aa s σ H _ I h) λc s1 ⟨H1,I1,q1⟩=> ?_);cases c with
 |true=>exact⟨H1,I1,q1⟩
 |false=>exact hb wh aa s1 σ H1 Q I1 q1
theorem DB(ha:PT X a tA):PT X (.UnaryOp .Not a pos) (Kb tA):=by
 intro aa s σ H Q I h;exact isTrue_not (ha aa s σ H (λc H1=>Q (!c) H1) I h)
def Kc(ta tb:TE):TE:=λσ H Q=>ta σ H λx H1=>∃c,x= .bl c/\if c=true then tb σ H1 Q else Q (.bl false) H1
def DC(ta:TE):TE:=λσ H Q=>ta σ H λx H1=>∃c,x= .bl c/\Q (.bl (!c)) H1
theorem Ke{op}(h:PE X a t):PE X (.BoolOp op [a] pos) t:=λaa s σ H Q I hw=>BoolOp_one (h aa s σ H Q I hw)
theorem Ti(ha:PE X a ta)(hb:PE X (.BoolOp .And (b::rest) pos) tb):PE X (.BoolOp .And (a::b::rest) pos) (Kc ta tb):=by
 intro aa s σ H Q I h;refine BoolOp_and (bG (ha aa s σ H _ I h) λv s1 ⟨x,H1,I1,r1,q1⟩=> ?_);obtain⟨c,rfl,q1⟩:=q1;cases r1;refine uo ?_;cases c with
 |true=>exact hb aa s1 σ H1 Q I1 q1
 |false=>exact⟨.bl false,H1,I1,rfl,q1⟩
theorem Tj(ha:PE X a ta):PE X (.UnaryOp .Not a pos) (DC ta):=by
 intro aa s σ H Q I h;refine UnaryOp_ (bG (ha aa s σ H _ I h) λv s1 ⟨x,H1,I1,r1,q1⟩=> ?_);obtain⟨c,rfl,q1⟩:=q1;cases r1;exact not_of (uo ⟨.bl (!c),H1,I1,rfl,q1⟩)
def Kf(t:TT)(ta tb:TE):TE:=λσ H Q=>t σ H λc H1=>if c=true then ta σ H1 Q else tb σ H1 Q
theorem Kh{c:Expr}(hc:PT X c tA)(ha:PE X a ta)(hb:PE X b tb):PE X (.IfExp c a b pos) (Kf tA ta tb):=by
 intro aa s σ H Q I h;refine wpAny_IfExp (bG (hc aa s σ H _ I h) λd s1 ⟨H1,I1,q1⟩=> ?_);cases d with
 |true=>exact ha aa s1 σ H1 Q I1 q1
 |false=>exact hb aa s1 σ H1 Q I1 q1
end
end L2
namespace L2
open PySem PySem.Spec PyProof.Rows
def cc(K:ah)(H:Hp)(a:Addr)(xs:List V):Prop:=
 Rd H a (.lst xs)\/
  ∃(o:Obj) (ai:Array Value) (n:Nat),K.lookup a=some o/\o.cls= .type "list"/\o.dict=none/\o.data= .seq ai n/\ai.size<=aK/\bA xs ai.toList
def cN(K:ah)(H:Hp)(a:Addr)(xs:List V):Prop:=
 Rd H a (.tup xs)\/
  ∃(o:Obj) (ai:Array Value) (n:Nat),K.lookup a=some o/\o.cls= .type "tuple"/\o.data= .seq ai n/\ai.size<=aK/\bA xs ai.toList
def Tn:Value->Option V
 |.none=>some .aJ
 |.bool b=>some (.bl b)
 |.int i _=>some (.int i)
 |.str x _=>some (.str x)
 |.bytes b _=>some (.sm b)
 |.float b _=>some (.kb b)
 |.ref a=>some (.ref a)
 |.type n=>some (.ty n)
 |_=>none
theorem RelV.abs{x:V}(r:RelV x u):Tn u=some x:=by
 cases x with
 |aJ=>cases r;rfl
 |bl _=>cases r;rfl
 |int _=>obtain⟨t,rfl⟩:=r;rfl
 |str _=>obtain⟨t,rfl⟩:=r;rfl
 |sm _=>obtain⟨t,rfl⟩:=r;rfl
 |kb _=>obtain⟨t,rfl⟩:=r;rfl
 |ref _=>cases r;rfl
 |ty _=>cases r;rfl
theorem RelV.inj{x y:V}(r:RelV x u)(q:RelV y u):x=y:=ka (r.abs.symm.trans q.abs)
theorem bA.inj:∀{xs ys:List V} {us:List Value},bA xs us->bA ys us->xs=ys
 |_,_,_, .nil, .nil=>rfl
 |_,_,_, .cons r t, .cons r' t'=>by rw[r.inj r',bA.inj t t']
section
variable {X:Cx}{aa:List (Addr×Obj)}{σ:St}{H:Hp}{s:Shared}{a:Addr}
theorem cc.of{K:ah}(h:H a=some (.lst xs)):cc K H a xs:= .inl (.inl h)
theorem cN.of{K:ah}(h:H a=some (.tup xs)):cN K H a xs:= .inl (.inl h)
theorem Inv.list(I:Inv X aa σ H s)(h:cc X.K H a xs):∃ai:List Value,bA xs ai/\PlainL s.heap a ai.toArray/\xs.length<=aK:=by
 rcases h with h | ⟨o,ai,n,hk,hc,hd,hs,hz,r⟩
 ·obtain⟨z,ai,n,r,e⟩:=h.ok I.aT;exact⟨ai,r,⟨_,n,e,rfl,rfl,rfl⟩,z⟩
 ·refine⟨ai.toList,r,⟨o,n,I.fP a o hk,hc,hd,by simpa using hs⟩, ?_⟩;have e:=r.length;simp only[Js]at e
  lia
theorem Inv.tuple(I:Inv X aa σ H s)(h:cN X.K H a xs):∃ai:List Value,bA xs ai/\IsTup s.heap a ai.toArray/\xs.length<=aK:=by
 rcases h with h | ⟨o,ai,n,hk,hc,hs,hz,r⟩
 ·obtain⟨z,ai,r,p⟩:=h.ok I.aT;exact⟨ai,r,p,z⟩
 ·refine⟨ai.toList,r,⟨o,I.fP a o hk,hc,n,by simpa using hs⟩, ?_⟩;have e:=r.length;simp only[Js]at e
  lia
theorem Inv.To(I:Inv X aa σ H s)(h:cc X.K H a xs)(h':cc X.K H a ys):xs=ys:=by
 obtain⟨ai,r,⟨o,n,e,_,_,d⟩,_⟩:=I.list h;obtain⟨its',r',⟨o',n',e',_,_,d'⟩,_⟩:=I.list h';rw[e]at e';cases e';rw[d]at d';injection d' with d1 _
 have:ai=its':=by simpa using congrArg Array.toList d1
 subst this;exact r.inj r'
theorem Inv.Tp(I:Inv X aa σ H s)(h:cN X.K H a xs)(h':cN X.K H a ys):xs=ys:=by
 obtain⟨ai,r,⟨o,e,_,n,d⟩,_⟩:=I.tuple h;obtain⟨its',r',⟨o',e',_,n',d'⟩,_⟩:=I.tuple h';rw[e]at e';cases e';rw[d]at d';injection d' with d1 _
 have:ai=its':=by simpa using congrArg Array.toList d1
 subst this;exact r.inj r'
end
abbrev Cx.o4(X:Cx)(E:Value->Shared->Prop):Cx:= { X with xe:=E }
abbrev Cx.uP(X:Cx):Cx:=X.o4 λ_ _=>False
theorem Cx.Ok.o4{X:Cx}(ok:X.Ok)(E:Value->Shared->Prop):(X.o4 E).Ok:=
 ⟨ok.mod,ok.kind,ok.glob,ok.blt,ok.above,ok.inj,ok.has,ok.xf,ok.hd,ok.frames,ok.sy,ok.JW,ok.bs,ok.oX,ok.xg,ok.Ak,ok.mC,ok.qO⟩
theorem Cx.Ok.qR{X:Cx}(ok:(X.o4 E).Ok):X.Ok:=
 ⟨ok.mod,ok.kind,ok.glob,ok.blt,ok.above,ok.inj,ok.has,ok.xf,ok.hd,ok.frames,ok.sy,ok.JW,ok.bs,ok.oX,ok.xg,ok.Ak,ok.mC,ok.qO⟩
section
variable {X:Cx}{aa:List (Addr×Obj)}{σ:St}{H:Hp}{s:Shared}{E:Value->Shared->Prop}
theorem Inv.o4(I:Inv X aa σ H s)(E:Value->Shared->Prop):Inv (X.o4 E) aa σ H s:=⟨I.ok.o4 E,I.os,I.bare,I.base,I.loc,I.cell,I.free,I.nM,I.pin,I.aT,I.len⟩
theorem Inv.qR(I:Inv (X.o4 E) aa σ H s):Inv X aa σ H s:=⟨I.ok.qR,I.os,I.bare,I.base,I.loc,I.cell,I.free,I.nM,I.pin,I.aT,I.len⟩
theorem SP.qR(h:SP (X.o4 E) aa D f s'):SP X aa D f s':=by
 cases f with
 |next=>obtain⟨aO,H',I,q⟩:=h;exact⟨aO,H',I.qR,q⟩
 |brk=>obtain⟨aO,H',I,q⟩:=h;exact⟨aO,H',I.qR,q⟩
 |cont=>obtain⟨aO,H',I,q⟩:=h;exact⟨aO,H',I.qR,q⟩
 |ret u=>obtain⟨v,aO,H',I,r,q⟩:=h;exact⟨v,aO,H',I.qR,r,q⟩
theorem kP.uP{st:List Stmt}{t:TS}(h:kP X.uP st t):kP X st t:=λaa s σ H D I hw=>
 lr (h aa s σ H D (I.o4 _) hw) (λ_ _ q=>q.qR) λ_ _ z=>lN z
end
section
variable {X:Cx}{st:Stmt}{rest:List Stmt}{t u:TS}{e:Expr}{te:TE}{pos:Pos}
def uQ:TS:=λD σ H=>D.nx σ H
def uR(t u:TS):TS:=λD σ H=>t { D with nx:=u D } σ H
theorem gA:kP X [] uQ:=λ_ _ σ H _ I h=>RF ⟨σ,H,I,h⟩
theorem bc(h1:PS X st t)(h2:kP X rest u):kP X (st::rest) (uR t u):=by
 intro aa s σ H D I h;refine wpAny_execs_cons (bG (h1 aa s σ H { D with nx:=u D } I h) λf s1 q=> ?_);cases f with
 |next=>
  obtain⟨aO,H',I',q⟩:=q;exact h2 aa s1 aO H' D I' q
 |ret v=>exact q
 |brk=>exact q
 |cont=>exact q
theorem dM(h1:PS X st t):kP X [st] t:=by
 intro aa s σ H D I h;refine wpAny_execs_cons (bG (h1 aa s σ H D I h) λf s1 q=> ?_);cases f with
 |next=>exact RF q
 |ret v=>exact q
 |brk=>exact q
 |cont=>exact q
theorem Inv.quiet{aa:List (Addr×Obj)}{σ:St}{H:Hp}{s:Shared}(I:Inv X aa σ H s):interactive X.env=false:=by simp[interactive,I.ok.kind]
def Ki(te:TE):TS:=λD σ H=>te σ H λ_ H1=>D.nx σ H1
theorem jl(he:PE X e te)(hs:wB e none pos.line X.env=pure false:=by rfl):PS X (.Expr e pos) (Ki te):=by
 intro aa s σ H D I h;exact wpAny_Expr_any (bG (he aa s σ H _ I h) λv s1 ⟨x,H1,I1,r1,q1⟩=>⟨σ,H1,I1,q1⟩) I.quiet hs
def qS(te:TE):TS:=λD σ H=>te σ H D.rt
theorem xm(he:PE X e te):PS X (.Return (some e) pos) (qS te):=by
 intro aa s σ H D I h;exact wpAny_Return_some (bG (he aa s σ H _ I h) λv s1 ⟨x,H1,I1,r1,q1⟩=>⟨x,σ,H1,I1,r1,q1⟩)
def Kj:TS:=λD _ H=>D.rt .aJ H
theorem Tq:PS X (.Return none pos) Kj:=λ_ _ σ H _ I h=>wpAny_Return_none ⟨.aJ,σ,H,I,rfl,h⟩
def uS(c:TT)(t u:TS):TS:=λD σ H=>c σ H λb H1=>if b=true then t D σ H1 else u D σ H1
theorem fJ{c:Expr}{a b:List Stmt}{tc:TT}(hc:PT X c tc)(ha:kP X a t)(hb:kP X b u):PS X (.If c a b pos) (uS tc t u):=by
 intro aa s σ H D I h;refine wpAny_If (bG (hc aa s σ H _ I h) λd s1 ⟨H1,I1,q1⟩=> ?_);cases d with
 |true=>exact ha aa s1 σ H1 D I1 q1
 |false=>exact hb aa s1 σ H1 D I1 q1
def Ao:TS:=λ_ _ _=>False
theorem Kk:kP X aeG Ao:=λ_ _ _ _ _ _ h=>h.elim
end
abbrev TG:=V->St->Hp->(St->Hp->Prop)->Prop
abbrev qT:=List V->St->Hp->(St->Hp->Prop)->Prop
def PG(X:Cx)(target:Expr)(t:TG):Prop:=
 ∀(aa:List (Addr×Obj)) (s:Shared) (σ:St) (H:Hp) (v:V) (u:Value) (Q:St->Hp->Prop),Inv X aa σ H s->RelV v u->t v σ H Q->
  wpAny (model X.prog X.w) X.A (assign target X.env u) (λ_ s'=>∃aO H',Inv X aa aO H' s'/\Q aO H') X.xe s
def xn(X:Cx)(ts:List Expr)(t:qT):Prop:=
 ∀(aa:List (Addr×Obj)) (s:Shared) (σ:St) (H:Hp) (vs:List V) (us:List Value) (Q:St->Hp->Prop),Inv X aa σ H s->bA vs us->t vs σ H Q->
  wpAny (model X.prog X.w) X.A (assignInOrder ((uq ts X.env).map (·.2)) us) (λ_ s'=>∃aO H',Inv X aa aO H' s'/\Q aO H') X.xe s
abbrev DD:=V->V->V->Hp->(Hp->Prop)->Prop
def Kl(X:Cx)(t:DD):Prop:=
 ∀(aa:List (Addr×Obj)) (s:Shared) (σ:St) (H:Hp) (o i v:V) (ov iv u:Value) (Q:Hp->Prop),Inv X aa σ H s->RelV o ov->RelV i iv->RelV v u->t o i v H Q->
  wpAny (model X.prog X.w) X.A (setItem ov iv u) (λ_ s'=>∃H',Inv X aa σ H' s'/\Q H') X.xe s
section
variable {X:Cx}{pos:Pos}
def m4(i:Nat):TG:=λv σ H Q=>Q (σ.set i (some v)) H
theorem DE{x:Str}(hN:X.N.Nodup)(hi:X.N[i]?=some x)(hx:Loc X.env.scope x)(hf:X.fn x=true\/X.env.scope.names.lookup x=some .local:=by first | exact .inl rfl | exact .inr rfl | assumption):PG X (.Name x pos) (m4 i):=by
 intro aa s σ H v u Q I r h;exact wpAny_assign_Name (Dx I hN hi hx r (λs' I'=>⟨_,H,I',h⟩) hf)
def Kn:qT:=λvs σ H Q=>vs= []/\Q σ H
def Ko(t:TG)(u:qT):qT:=λvs σ H Q=>∃v r,vs=v::r/\t v σ H λaO H'=>u r aO H' Q
theorem Kq:xn X [] Kn:=by
 intro aa s σ H vs us Q I r h;obtain⟨e,h⟩:=h;subst e;cases r;exact assignInOrder_nil ⟨σ,H,I,h⟩
theorem o5{e:Expr}{es:List Expr}{t:TG}{u:qT}(h1:PG X e t)(h2:xn X es u)
  (hs:(uq (e::es) X.env).map (·.2)=assign e X.env::(uq es X.env).map (·.2):=by rfl):xn X (e::es) (Ko t u):=by
 intro aa s σ H vs us Q I r h;obtain⟨v,vr,e1,h⟩:=h;subst e1;cases r with
 |cons r rr=>
  rw[hs];refine assignInOrder_cons (bG (h1 aa s σ H _ _ _ I r h) λ_ s1 ⟨Kr,H1,I1,q1⟩=> ?_);exact h2 aa s1 Kr H1 _ _ Q I1 rr q1
def DF(K:ah)(n:Nat)(t:qT):TG:=λv σ H Q=>∃a xs,v= .ref a/\cN K H a xs/\xs.length=n/\t xs σ H Q
theorem Tr{k:Nat}{t:qT}{n:Nat}(hc:X.calm=true)(h:xn X es t)
  (hn:(uq es X.env).length=n:=by rfl) (sG:(uq es X.env).findIdx? (·.1)=none:=by rfl):PG X (.Tuple es k pos) (DF X.K n t):=by
 intro aa s σ H v u Q I r hw;obtain⟨a,xs,e1,hq,hl,hw⟩:=hw;subst e1;cases r;obtain⟨ai,rv,ht,hz⟩:=I.tuple hq;refine assign_Tuple_tuple (I.ok.hd hc) ht (by simp[hn, <- hl,rv.length]) sG λh' hx=> ?_;have I1:Inv X aa σ H { s with heap:=h' }:=I.kept (t':=s.toks) λb o e=>hx b o (jh (gi e)) e;exact h aa _ σ H xs _ Q I1 (by simpa using rv) hw
def Ks(to ti:TE)(t:DD):TG:=λv σ H Q=>to σ H λo H1=>ti σ H1 λi H2=>t o i v H2 λH3=>Q σ H3
theorem Kt{o i:Expr}{to ti:TE}{t:DD}(ho:PE X o to)(hi:PE X i ti)(hs:Kl X t)
  (ha:∀v,assign (.Subscript o i pos) X.env v=(do
   let ov <- holding [v] (eval o X.env)
   let iv <- holding [v,ov] (eval i X.env)
   zv pos
   holding [v,ov,iv] (setItem ov iv v)
   release [v,ov,iv] []):=by intro _;rfl):PG X (.Subscript o i pos) (Ks to ti t):=by
 intro aa s σ H v u Q I r h;rw[ha];refine aW (qL (bG (ho aa s σ H _ I h) λov s1 ⟨x,H1,I1,r1,q1⟩=> ?_));refine aW (qL (bG (hi aa s1 σ H1 _ I1 q1) λiv s2 ⟨y,H2,I2,r2,q2⟩=> ?_));refine aW (RG (aW (qL (bG (hs aa s2 σ H2 x y v ov iv u _ I2 r1 r2 r q2) λ_ s3 ⟨H3,I3,q3⟩=> ?_))));exact wpAny_release ⟨σ,H3,I3,q3⟩
def qU(te:TE)(g:TG):TS:=λD σ H=>te σ H λx H1=>g x σ H1 D.nx
theorem Ap{tg e:Expr}{te:TE}{g:TG}(he:PE X e te)(hg:PG X tg g)(hs:swapsWithSole [tg] e pos.line X.env=pure false:=by rfl)(hw:swappedStores [tg] e X.env=pure none:=by rfl)
  (h1:(uq [tg] X.env).map (·.2)= [assign tg X.env]:=by rfl):PS X (.Assign [tg] e pos) (qU te g):=by
 intro aa s σ H D I h;refine wpAny_Assign_stores (bG (he aa s σ H _ I h) λv s1 ⟨x,H1,I1,r1,q1⟩=> ?_) hs hw;rw[h1];exact bG (hg aa s1 σ H1 x v _ I1 r1 q1) λ_ s2 q=>q
theorem Ts{i:Nat}{x:Str}{e:Expr}{te:TE}{pos':Pos}(hN:X.N.Nodup)(hi:X.N[i]?=some x)(hx:Loc X.env.scope x)(he:PE X e te)(hs:wB e (some (.Name x pos')) pos.line X.env=pure false:=by rfl)(hf:X.fn x=true\/X.env.scope.names.lookup x=some .local:=by first | exact .inl rfl | exact .inr rfl | assumption):
  PS X (.Assign [.Name x pos'] e pos) (qU te (m4 i)):=by
 intro aa s σ H D I h;refine wpAny_Assign_Name (bG (he aa s σ H _ I h) λv s1 ⟨y,H1,I1,r1,q1⟩=> ?_) hs;exact Dx I1 hN hi hx r1 (λs2 I2=>⟨_,H1,I2,q1⟩) hf
end
section
variable {X:Cx}{pos:Pos}
end
structure It where
 go:Nat->Hp->Prop
 xo:Nat->Hp->V->Hp->Prop
 stop:Nat->Hp->Prop
def iQ(X:Cx)(aa:List (Addr×Obj))(H:Hp)(b:Addr):Prop:=
 H b=none/\b≠X.env.locals/\b∉X.fs/\(b∈X.ex\/X.iP.heap.objs.size<=b)/\(∀x c,X.env.cells.lookup x=some c->c≠b)/\∀p∈X.pn++aa,p.1≠b
theorem Inv.uT{X:Cx}{aa:List (Addr×Obj)}{σ:St}{H H':Hp}{s:Shared}{b:Addr}(I:Inv X aa σ H s)(hb:s.heap.objs.size<=b)(hn:H' b=none):iQ X aa H' b:=by
 refine⟨hn,zH (ix I.lt hb),I.Ds hb, .inr (bW I.sz hb),λx c e z=> ?_,λp hp z=> ?_⟩
 ·obtain⟨v,q⟩:=I.cell x c e;exact absurd (ix q.lt (by rw[z];exact hb)) (mV _)
 ·exact absurd (ix (gi (I.pin p hp).1) (by rw[z];exact hb)) (mV _)
structure Turn(P:Program)(w:World)(K:ah)(tg:Expr)(J:It)(fp:List Addr)(it:Addr)(tn:Nat->Heap->Prop):Prop where
 mem:it∈fp
 obj:∀i h,tn i h->∀b∈fp,∃o,h.get? b=some o/\∀v,o.data≠ .cell v
 keep:∀i h h',tn i h->(∀b∈fp,∀o,h.get? b=some o->h'.get? b=some o)->tn i h'
 item:∀(X:Cx),X.prog=P->X.w=w->X.K=K->X.calm=true->∀(i:Nat) (aa:List (Addr×Obj)) (s:Shared) (σ:St) (H:Hp) (E:Value->Shared->Prop),Inv X aa σ H s->(∀b∈fp,iQ X aa H b)->tn i s.heap->J.go i H->
  wpAny (model P w) X.A (pyNext (.ref it)) (λr s1=>∃u,r=some u/\
   wpAny (model P w) X.A (Jc tg (.ref it) u) (λ_ s2=>∃x H',Inv X aa σ H' s2/\RelV x u/\J.xo i H x H'/\tn (i + 1) s2.heap/\∀b∈fp,H' b=none) E s1) E s
 done:∀(X:Cx),X.prog=P->X.w=w->X.K=K->X.calm=true->∀(i:Nat) (aa:List (Addr×Obj)) (s:Shared) (σ:St) (H:Hp) (E:Value->Shared->Prop),Inv X aa σ H s->(∀b∈fp,iQ X aa H b)->tn i s.heap->J.stop i H->
  wpAny (model P w) X.A (pyNext (.ref it)) (λr s1=>r=none/\Inv X aa σ H s1) E s
 self:∀(A:Around) (i:Nat) (s:Shared) (Q:Value->Shared->Prop) (E:Value->Shared->Prop),tn i s.heap->Q (.ref it) s->wpAny (model P w) A (pyIter (.ref it)) Q E s
abbrev TI:=St->Hp->(It->Hp->Prop)->Prop
def Ku(X:Cx)(aa:List (Addr×Obj))(σ:St)(tg:Expr)(R:It->Hp->Prop)(Aq:Value)(s2:Shared):Prop:=
 ∃(it:Addr) (fp:List Addr) (tn:Nat->Heap->Prop) (J:It) (H':Hp),Aq= .ref it/\Inv X aa σ H' s2/\Turn X.prog X.w X.K tg J fp it tn/\tn 0 s2.heap/\(∀b∈fp,iQ X aa H' b)/\R J H'
def PI(X:Cx)(tg iter:Expr)(wi:TI):Prop:=
 ∀(aa:List (Addr×Obj)) (s:Shared) (σ:St) (H:Hp) (R:It->Hp->Prop),Inv X aa σ H s->wi σ H R->
  wpAny (model X.prog X.w) X.A (eval iter X.env) (λv s1=>wpAny (model X.prog X.w) X.A (pyIter v) (Ku X aa σ tg R) X.xe s1) X.xe s
theorem As{M:Model}{A:Around}{E:Value->Shared->Prop}{s:Shared}{tg:Expr}{u:Value}{o:Obj}{Q:Unit->Shared->Prop}(ho:s.heap.get? it=some o)(hc:o.cls= .type n)(hd:o.data= .fields vs)
  (hn: ["enumerate","zip","dict_itemiterator","dict_reverseitemiterator","odict_iterator","itertools.zip_longest","itertools.pairwise"].contains n=false) (hQ:Q () s):wpAny M A (Jc tg (.ref it) u) Q E s:=by
 unfold Jc;cases tg <;> first
  |exact cJ hQ
  |(cases u <;> first
    |exact cJ hQ
    |(refine aW (wpAny_load ho ?_);rw[hc,hd];show wpAny M A (if(["enumerate","zip","dict_itemiterator","dict_reverseitemiterator","odict_iterator","itertools.zip_longest","itertools.pairwise"].contains n && vs[0]? == some (rawInt _))=true then _ else _) Q E s;rw[if_neg (by intro h;rw[hn,Bool.false_and]at h;cases h)];exact cJ hQ))
def xp(K:ah)(a:Addr):It:=
 ⟨λi H=>∃xs x,cc K H a xs/\xs[i]?=some x,λi H x H'=>H'=H/\∀xs,cc K H a xs->xs[i]?=some x,λi H=>∃xs,cc K H a xs/\xs.length<=i⟩
def Au(K:ah)(a:Addr):It:=
 ⟨λi H=>∃xs x,cN K H a xs/\xs[i]?=some x,λi H x H'=>H'=H/\∀xs,cN K H a xs->xs[i]?=some x,λi H=>∃xs,cN K H a xs/\xs.length<=i⟩
def uU(lo:Int)(n:Nat):It:=⟨λi _=>i < n,λi H x H'=>H'=H/\x= .int (lo + i),λi _=>n<=i⟩
theorem Tt{P:Program}{w:World}{K:ah}{tg:Expr}(a it:Addr):Turn P w K tg (xp K a) [it] it (λi h=>h.IsListIter it a i) where
 mem:=by simp
 obj:=λi h st b hb=>by
  have e:b=it:=by simpa using hb
  subst e;obtain⟨o,e,c,d⟩:=st;exact⟨o,e,λv z=>by rw[d]at z;cases z⟩
 keep:=λi h h' st k=>st.at λo e=>k it (by simp) o e
 item:=by
  intro X hP hw hK hc i aa s σ H E I hf st hg;subst hP hw hK;obtain⟨xs,x,hq,hx⟩:=hg;obtain⟨ai,rv,p,hz⟩:=I.list hq;obtain⟨u,hu,ru⟩:=rv.get hx;obtain⟨f0,f1,f2,f3,f4,f5⟩:=hf it (by simp);refine wpAny_pyNext_list_item st p.isList (x:=u) (by simpa using hu) λh' st' sb=> ?_;have I1:Inv X aa σ H { s with heap:=h' }:=I.turned (t':=s.toks) (λb o hb e=>(sb.2 b hb).trans e) f0 f1 f3 f4 f5;obtain⟨o,e,c,d⟩:=id st';exact⟨u,rfl,As (s:= { s with heap:=h' }) e c d (by decide) ⟨x,H,I1,ru,⟨rfl,λys hy=>by rw[I.To hy hq];exact hx⟩,st',λb hb=>(hf b hb).1⟩⟩
 done:=by
  intro X hP hw hK hc i aa s σ H E I hf st hg;subst hP hw hK;obtain⟨xs,hq,hx⟩:=hg;obtain⟨ai,rv,p,hz⟩:=I.list hq;obtain⟨f0,f1,f2,f3,f4,f5⟩:=hf it (by simp);have hl:=rv.length;exact RH (I.ok.hd hc) st p.isList (by simp;lia) λh' eb=>⟨rfl,I.turned (t':=s.toks) (λb o hb e=>eb b o hb e) f0 f1 f3 f4 f5⟩
 self:=λ_ _ _ _ _ st h=>wpAny_pyIter_listiter st h
theorem Tu{P:Program}{w:World}{K:ah}{tg:Expr}(a it:Addr):Turn P w K tg (Au K a) [it] it (λi h=>h.IsTupleIter it a i) where
 mem:=by simp
 obj:=λi h st b hb=>by
  have e:b=it:=by simpa using hb
  subst e;obtain⟨o,e,c,d⟩:=st;exact⟨o,e,λv z=>by rw[d]at z;cases z⟩
 keep:=λi h h' st k=>st.at λo e=>k it (by simp) o e
 item:=by
  intro X hP hw hK hc i aa s σ H E I hf st hg;subst hP hw hK;obtain⟨xs,x,hq,hx⟩:=hg;obtain⟨ai,rv,p,hz⟩:=I.tuple hq;obtain⟨u,hu,ru⟩:=rv.get hx;obtain⟨f0,f1,f2,f3,f4,f5⟩:=hf it (by simp);refine wpAny_pyNext_tuple_item st (show s.heap.IsTuple a ai.toArray from p) (x:=u) (by simpa using hu) λh' st' sb=> ?_;have I1:Inv X aa σ H { s with heap:=h' }:=I.turned (t':=s.toks) (λb o hb e=>(sb.2 b hb).trans e) f0 f1 f3 f4 f5;obtain⟨o,e,c,d⟩:=id st';exact⟨u,rfl,As (s:= { s with heap:=h' }) e c d (by decide) ⟨x,H,I1,ru,⟨rfl,λys hy=>by rw[I.Tp hy hq];exact hx⟩,st',λb hb=>(hf b hb).1⟩⟩
 done:=by
  intro X hP hw hK hc i aa s σ H E I hf st hg;subst hP hw hK;obtain⟨xs,hq,hx⟩:=hg;obtain⟨ai,rv,p,hz⟩:=I.tuple hq;obtain⟨f0,f1,f2,f3,f4,f5⟩:=hf it (by simp);have hl:=rv.length;exact wpAny_pyNext_tuple_end (I.ok.hd hc) st (show s.heap.IsTuple a ai.toArray from p) (by simp;lia) λh' eb=>⟨rfl,I.turned (t':=s.toks) (λb o hb e=>eb b o hb e) f0 f1 f3 f4 f5⟩
 self:=λ_ _ _ _ _ st h=>wpAny_pyIter_tupleiter st h
theorem Tv{P:Program}{w:World}{K:ah}{tg:Expr}(it:Addr)(lo:Int)(n:Nat):Turn P w K tg (uU lo n) [it] it (λi h=>IsRangeIter h it (lo + (i:Nat) * 1) ((n:Int) - (i:Nat)) 1) where
 mem:=by simp
 obj:=λi h st b hb=>by
  have e:b=it:=by simpa using hb
  subst e;exact⟨_,st,λv z=>by
   have z':Data.fields _=Data.cell v:=z;cases z'⟩
 keep:=λi h h' st k=>k it (by simp) _ st
 item:=by
  intro X hP hw hK hc i aa s σ H E I hf st hg;subst hP hw hK;obtain⟨f0,f1,f2,f3,f4,f5⟩:=hf it (by simp);have W:=Walks.range (prog:=X.prog) (w:=X.w) (I.ok.hd hc) it lo 1 n;refine W.item i s _ _ hg st λv h' tk hv st' kk=> ?_;obtain⟨t,rfl⟩:=hv;have I1:Inv X aa σ H { s with heap:=h',toks:=tk }:=I.turned (λb o hb e=>kk b o (by simpa using hb) e) f0 f1 f3 f4 f5;refine⟨_,rfl,As (s:= { s with heap:=h',toks:=tk }) (n:="range_iterator") st' rfl rfl (by decide) ⟨.int (lo + i),H,I1,⟨t, ?_⟩,⟨rfl,rfl⟩,st',λb hb=>(hf b hb).1⟩⟩;rw[Int.mul_one]
 done:=by
  intro X hP hw hK hc i aa s σ H E I hf st hg;subst hP hw hK;obtain⟨f0,f1,f2,f3,f4,f5⟩:=hf it (by simp);exact wpAny_pyNext_range_end (I.ok.hd hc) st (by have:n<=i:=hg;lia) λh' eb=>⟨rfl,I.turned (t':=s.toks) (λb o hb e=>eb b o hb e) f0 f1 f3 f4 f5⟩
 self:=λ_ _ _ _ _ st h=>wpAny_pyIter_rangeiter st h
end L2
namespace L2
open PySem PySem.Spec PyProof.Rows
section
variable {X:Cx}
theorem Kv{aa:List (Addr×Obj)}{σ:St}{H:Hp}{s:Shared}{R:It->Hp->Prop}{E:Value->Shared->Prop}{lo hi:Int}{t u v:Tok}{tk:Nat}(I:Inv X aa σ H s)(h1: -(2 ^ 62)<=lo)(h2:lo < 2 ^ 62)(h3: -(2 ^ 62)<=hi)(h4:hi < 2 ^ 62)
  (q:R (uU lo (hi - lo).toNat) H):wpAny (model X.prog X.w) X.A (pyIter (.ref s.heap.objs.size)) (Ku X aa σ tg R) E { s with heap:=s.heap.push { cls:= .type "range",data:= .fields #[.int lo t, .int hi u, .int 1 v] },toks:=tk }:=by
 refine wpAny_pyIter_range (IsRange.new ..) (small_one h1 h2 h3 h4) ?_;have I1:Inv X aa σ H { s with heap:=s.heap.push { cls:= .type "range",data:= .fields #[.int lo t, .int hi u, .int 1 v] },toks:=tk }:=I.kept λb o e=>gy _ e;refine⟨(s.heap.push { cls:= .type "range",data:= .fields #[.int lo t, .int hi u, .int 1 v] }).objs.size, [(s.heap.push { cls:= .type "range",data:= .fields #[.int lo t, .int hi u, .int 1 v] }).objs.size],_,_,H,rfl,
  I1.kept (t':=tk) λb o e=>gy _ e,Tv _ lo (hi - lo).toNat, ?_,λb hb=> ?_,q⟩
 ·have e1:lo + ((0:Nat):Int) * 1=lo:=by simp
  have e2:(((hi - lo).toNat:Nat):Int) - ((0:Nat):Int)=Builtin.Range.rangeSize lo hi 1:=by rw[rangeSize_one];split <;> lia
  show IsRangeIter _ _ (lo + ((0:Nat):Int) * 1) ((((hi - lo).toNat:Nat):Int) - ((0:Nat):Int)) 1;rw[e1,e2];exact jP _ rfl
 ·have e:b=(s.heap.push { cls:= .type "range",data:= .fields #[.int lo t, .int hi u, .int 1 v] }).objs.size:=by simpa using hb
  subst e;exact I1.uT (bK _) (I1.aT.fresh (bK _))
def Av(ta:TA):TI:=λσ H R=>ta σ H λvs H1=>∃j:Int,vs= [.int j]/\ -(2 ^ 62)<=j/\j < 2 ^ 62/\R (uU 0 j.toNat) H1
def Kx(ta:TA):TI:=λσ H R=>ta σ H λvs H1=>∃i j:Int,vs= [.int i, .int j]/\(-(2 ^ 62)<=i/\i < 2 ^ 62/\ -(2 ^ 62)<=j/\j < 2 ^ 62)/\R (uU i (j - i).toNat) H1
theorem qV{a:Expr}{ta:TA}{p pos:Pos}(hg:Gl X "range")(hm:X.mg "range"=none)(ha:PA X [a] ta)(hs:cD [a] X.env= [(false,eval a X.env)]:=by rfl):PI X tg (.Call (.Name "range" p) [a] [] pos) (Av ta):=by
 intro aa s σ H R I h;refine Call_ (uM I hg hm boot_range (RV (bG (ha pos aa s σ H _ I h) λus s1 ⟨vs,H1,I1,r1,q1⟩=> ?_) hs rfl));obtain⟨j,e,q1,q2,q⟩:=q1;subst e;cases r1 with
 |cons r rr=>
  cases rr;obtain⟨t,rfl⟩:=r;exact call_range_1 (Kv I1 (by lia) (by lia) q1 q2 (by simpa using q))
theorem Tw{a b:Expr}{ta:TA}{p pos:Pos}(hg:Gl X "range")(hm:X.mg "range"=none)(ha:PA X [a,b] ta)(hs:cD [a,b] X.env= [(false,eval a X.env),(false,eval b X.env)]:=by rfl)(o6:cD [b] X.env= [(false,eval b X.env)]:=by rfl):
  PI X tg (.Call (.Name "range" p) [a,b] [] pos) (Kx ta):=by
 intro aa s σ H R I h;refine Call_ (uM I hg hm boot_range (RV (bG (ha pos aa s σ H _ I h) λus s1 ⟨vs,H1,I1,r1,q1⟩=> ?_) (by rw[hs,o6]) (by rw[o6];rfl)));obtain⟨i,j,e,⟨q1,q2,q3,q4⟩,q⟩:=q1;subst e;cases r1 with
 |cons r rr=>
  cases rr with
  |cons r' rr=>
   cases rr;obtain⟨t,rfl⟩:=r;obtain⟨t',rfl⟩:=r';exact call_range_2 (Kv I1 q1 q2 q3 q4 q)
def DG(wi:TI)(g:TG)(tb:TS):TS:=λD σ H=>wi σ H λJ H1=>∃W:Nat->Nat->St->Hp->Prop,(∃m,W 0 m σ H1)/\∀i m σ H,W i m σ H->
 (J.stop i H/\D.nx σ H)\/(J.go i H/\∃N:St->Hp->Prop,(∀aO H',N aO H'->∃m',m' < m/\W (i + 1) m' aO H')/\∀x H',J.xo i H x H'->g x σ H' λip H2=>tb { D with nx:=N,ct:=N,bk:=D.nx } ip H2)
def qW(fp:List Addr)(h:Heap):List (Addr×Obj):=fp.filterMap λb=>(h.get? b).map λo=>(b,o)
theorem uV{h:Heap}{b:Addr}{o:Obj}(hb:b∈fp)(e:h.get? b=some o):(b,o)∈qW fp h:=adT.mpr ⟨b,hb,by rw[e];rfl⟩
theorem Tx{h:Heap}{p:Addr×Obj}(hp:p∈qW fp h):p.1∈fp/\h.get? p.1=some p.2:=by
 obtain⟨b,hb,e⟩:=adT.mp hp;cases q:h.get? b with
 |none=>rw[q]at e;cases e
 |some o=>
  rw[q]at e;have e':(b,o)=p:=ka e;subst e';exact⟨hb,q⟩
theorem Inv.pinned{aa:List (Addr×Obj)}{σ:St}{H:Hp}{s:Shared}(I:Inv X aa σ H s)(hf:∀b∈fp,iQ X aa H b)(ho:∀b∈fp,∃o,s.heap.get? b=some o/\∀v,o.data≠ .cell v):Inv X (aa++qW fp s.heap) σ H s:=
 I.xj λp hp=>(iG.mp hp).elim (λz=>I.pin p (i0 _ z)) λz=>by
  obtain⟨hb,e⟩:=Tx z;obtain⟨f0,f1,f2,_⟩:=hf p.1 hb;obtain⟨o,e',d⟩:=ho p.1 hb;rw[e]at e';cases e';exact⟨e,f0,f1,f2,d⟩
theorem Inv.uW{aa pl:List (Addr×Obj)}{σ:St}{H:Hp}{s:Shared}(I:Inv X (aa++pl) σ H s):Inv X aa σ H s:=I.xj λp hp=>I.pin p (i0 _ (uB _ hp))
theorem sH{iter:Expr}{body:List Stmt}{wi:TI}{g:TG}{tb:TS}{pos:Pos}(hp:ur (model X.prog X.w) X.A X.env X.xe)(hc:X.calm=true)(hi:PI X tg iter wi)(hg:PG X tg g)(hb:kP X body tb)
  (hs:∀x,RI iter X.env x=pure x:=by intro _;rfl):PS X (.For tg iter body [] pos) (DG wi g tb):=by
 intro aa s σ H D I h;refine wpAny_For (bG (hi aa s σ H _ I h) λv s1 h1=>bG h1 λAq s2 h2=> ?_) hs;obtain⟨it,fp,tn,J,H2,e,I2,T,b5,f2,W,⟨m0,w0⟩,turn⟩:=h2;subst e
 -- what fW true of lP aeH objects through lP loop
 have sI:∀{H':Hp},(∀b∈fp,H' b=none)->∀b∈fp,iQ X aa H' b:=λhn b hb=>⟨hn b hb,(f2 b hb).2⟩
 refine codeAny_forLoop_any (λn s'=>∃i aO H',Inv X aa aO H' s'/\tn i s'.heap/\(∀b∈fp,H' b=none)/\W i n aO H') ?_ m0 ⟨0,σ,H2,I2,b5,λb hb=>(f2 b hb).1,w0⟩;rintro n s3 ⟨i,ke,H3,I3,jC,Ky,w3⟩;rcases turn i n ke H3 w3 with⟨stop,qn⟩ | ⟨go,N,hN,step⟩
 ·refine CZ hp (bG (T.done X rfl rfl rfl hc i aa s3 ke H3 X.xe I3 (sI Ky) jC stop) λr s4 ⟨hr,I4⟩=> ?_);subst hr;exact RF ⟨ke,H3,I4,qn⟩
 ·refine CZ hp (bG (T.item X rfl rfl rfl hc i aa s3 ke H3 X.xe I3 (sI Ky) jC go) λr s4 ⟨u,hr,h4⟩=> ?_);subst hr;refine CZ hp (bG h4 λ_ s5 ⟨x,H5,I5,r5,y5,sJ,DH⟩=> ?_);have Tz:=I5.pinned (sI DH) (T.obj _ _ sJ);refine CZ hp (bG (hg _ s5 ke H5 x u _ Tz r5 (step x H5 y5)) λ_ s6 ⟨nP,H6,I6,q6⟩=> ?_);refine CZ hp (bG (hb _ s6 nP H6 _ I6 q6) λf s7 q7=> ?_);have again:∀{lQ:St} {H7:Hp},Inv X (aa++qW fp s5.heap) lQ H7 s7->N lQ H7->∃m,m < n/\∃i aO H',Inv X aa aO H' s7/\tn i s7.heap/\(∀b∈fp,H' b=none)/\W i m aO H':=λ{lQ H7} I7 n7=>by
   obtain⟨m',hm,w7⟩:=hN lQ H7 n7;refine⟨m',hm,i + 1,lQ,H7,I7.uW,T.keep _ _ _ sJ λb hb o e=>(I7.pin (b,o) (i0 _ (i0 _ (uV hb e)))).1,λb hb=> ?_,w7⟩;obtain⟨o,e,d⟩:=T.obj _ _ sJ b hb;exact(I7.pin (b,o) (i0 _ (i0 _ (uV hb e)))).2.1
  cases f with
  |next=>obtain⟨lQ,H7,I7,n7⟩:=q7;exact again I7 n7
  |cont=>obtain⟨lQ,H7,I7,n7⟩:=q7;exact again I7 n7
  |brk=>obtain⟨lQ,H7,I7,q7⟩:=q7;exact⟨lQ,H7,I7.uW,q7⟩
  |ret v=>obtain⟨x7,lQ,H7,I7,r7,q7⟩:=q7;exact⟨x7,lQ,H7,I7.uW,r7,q7⟩
end
end L2
namespace L2
open PySem PySem.Spec PyProof.Rows
abbrev R2:=V->V->Hp->VK->Prop
def dP(X:Cx)(f:Value->Value->Sem Value)(r:R2):Prop:=
 ∀(aa:List (Addr×Obj)) (s:Shared) (σ:St) (H:Hp) (x y:V) (v u:Value) (Q:VK),Inv X aa σ H s->RelV x v->RelV y u->r x y H Q->
  wpAny (model X.prog X.w) X.A (f v u) (EP X aa σ Q) X.xe s
def DI(X:Cx)(f:Value->Sem Value)(r:V->Hp->VK->Prop):Prop:=
 ∀(aa:List (Addr×Obj)) (s:Shared) (σ:St) (H:Hp) (x:V) (v:Value) (Q:VK),Inv X aa σ H s->RelV x v->r x H Q->
  wpAny (model X.prog X.w) X.A (f v) (EP X aa σ Q) X.xe s
def i5(X:Cx)(f:Value)(r:List V->Hp->VK->Prop):Prop:=
 ∀(aa:List (Addr×Obj)) (s:Shared) (σ:St) (H:Hp) (xs:List V) (us:List Value) (Q:VK),Inv X aa σ H s->bA xs us->r xs H Q->
  wpAny (model X.prog X.w) X.A (call f us) (EP X aa σ Q) X.xe s
def TB(X:Cx)(r:V->Hp->(Bool->Hp->Prop)->Prop):Prop:=
 ∀(aa:List (Addr×Obj)) (s:Shared) (σ:St) (H:Hp) (x:V) (v:Value) (Q:Bool->Hp->Prop),Inv X aa σ H s->RelV x v->r x H Q->
  wpAny (model X.prog X.w) X.A (truthy v) (TP X aa σ Q) X.xe s
def kQ(r:R2)(ta tb:TE):TE:=λσ H Q=>ta σ H λx H1=>tb σ H1 λy H2=>r x y H2 Q
def KA(r:V->Hp->VK->Prop)(ta:TE):TE:=λσ H Q=>ta σ H λx H1=>r x H1 Q
def rI(C:Int->Int->Prop)(g:Int->Int->V):R2:=λx y H Q=>∃i j,x= .int i/\y= .int j/\C i j/\Q (g i j) H
def o7(g:Int->Int->V):R2:=λx y H Q=>∃i j,x= .int i/\y= .int j/\Q (g i j) H
def rU(g:Int->V):V->Hp->VK->Prop:=λx H Q=>∃i,x= .int i/\Q (g i) H
section
variable {X:Cx}{a b c:Expr}{pos:Pos}
theorem DJ(ha:PE X a ta)(hb:PE X b tb){aa:List (Addr×Obj)}{s:Shared}{σ:St}{H:Hp}{R:V->V->Hp->Prop}(I:Inv X aa σ H s)
  (h:ta σ H λx H1=>tb σ H1 λy H2=>R x y H2) {Q:Value->Shared->Prop} {f:Value->Value->Sem Value}
  (hf:∀v u s2 x y H2,Inv X aa σ H2 s2->RelV x v->RelV y u->R x y H2->wpAny (model X.prog X.w) X.A (f v u) Q X.xe s2):
  wpAny (model X.prog X.w) X.A (eval a X.env) (λv dQ=>wpAny (model X.prog X.w) X.A (eval b X.env) (λu Aw=>wpAny (model X.prog X.w) X.A (f v u) Q X.xe Aw) X.xe dQ) X.xe s:=by
 refine bG (ha aa s σ H _ I h) λv s1 ⟨x,H1,I1,r1,q1⟩=> ?_;refine bG (hb aa s1 σ H1 _ I1 q1) λu s2 ⟨y,H2,I2,r2,q2⟩=> ?_;exact hf v u s2 x y H2 I2 r1 r2 q2
theorem gc(ho:dP X (mw op) r)(ha:PE X a ta)(hb:PE X b tb):PE X (.BinOp a op b pos) (kQ r ta tb):=by
 intro aa s σ H Q I h;exact wpAny_BinOp (DJ ha hb I h λv u s2 x y H2 I2 rx ry q=>ho aa s2 σ H2 x y v u Q I2 rx ry q)
theorem TC(ho:DI X (unaryOp op) r)(ha:PE X a ta):PE X (.UnaryOp op a pos) (KA r ta):=by
 intro aa s σ H Q I h;exact UnaryOp_ (bG (ha aa s σ H _ I h) λv s1 ⟨x,H1,I1,r1,q1⟩=>ho aa s1 σ H1 x v Q I1 r1 q1)
theorem Ax{f:Value->Value->Sem Value}{C:Int->Int->Prop}{g:Int->Int->Int}
  (rule:∀(i j:Int) (t u:Tok) (s:Shared) (Q:Value->Shared->Prop) (E:Value->Shared->Prop),C i j->Q (.int (g i j) s.toks) { s with toks:=s.toks + 1 }->wpAny (model X.prog X.w) X.A (f (.int i t) (.int j u)) Q E s):
  dP X f (rI C λi j=> .int (g i j)):=by
 intro aa s σ H x y v u Q I rx ry h;obtain⟨i,j,rfl,rfl,hc,q⟩:=h;obtain⟨t,rfl⟩:=rx;obtain⟨t',rfl⟩:=ry;exact rule i j t t' s _ _ hc ⟨.int (g i j),H,I.tok _,⟨_,rfl⟩,q⟩
theorem KC{f:Value->Value->Sem Value}{g:Int->Int->Int}
  (rule:∀(i j:Int) (t u:Tok) (s:Shared) (Q:Value->Shared->Prop) (E:Value->Shared->Prop),Q (.int (g i j) s.toks) { s with toks:=s.toks + 1 }->wpAny (model X.prog X.w) X.A (f (.int i t) (.int j u)) Q E s):
  dP X f (o7 λi j=> .int (g i j)):=by
 intro aa s σ H x y v u Q I rx ry h;obtain⟨i,j,rfl,rfl,q⟩:=h;obtain⟨t,rfl⟩:=rx;obtain⟨t',rfl⟩:=ry;exact rule i j t t' s _ _ ⟨.int (g i j),H,I.tok _,⟨_,rfl⟩,q⟩
theorem Ay{f:Value->Value->Sem Value}{g:Int->Int->Bool}
  (rule:∀(i j:Int) (t u:Tok) (s:Shared) (Q:Value->Shared->Prop) (E:Value->Shared->Prop),Q (.bool (g i j)) s->wpAny (model X.prog X.w) X.A (f (.int i t) (.int j u)) Q E s):
  dP X f (o7 λi j=> .bl (g i j)):=by
 intro aa s σ H x y v u Q I rx ry h;obtain⟨i,j,rfl,rfl,q⟩:=h;obtain⟨t,rfl⟩:=rx;obtain⟨t',rfl⟩:=ry;exact rule i j t t' s _ _ ⟨.bl (g i j),H,I,rfl,q⟩
def DK(i j:Int):Prop:=0<=j/\j<=1000000/\i.natAbs < 2 ^ 64
def o8(i j:Int):Prop:=(-(2 ^ 64) < i/\i < 2 ^ 64)\/(-(2 ^ 64) < j/\j < 2 ^ 64)
theorem o8.ok(h:o8 i j):IntMulOk i j:=by
 rcases h with⟨h1,h2⟩ | ⟨h1,h2⟩
 ·exact .of_left (intBits_le_64 h1 h2)
 ·exact .of_right (intBits_le_64 h1 h2)
theorem TF:dP X (mw .Add) (o7 λi j=> .int (i + j)):=KC λ_ _ _ _ _ _ _ q=>add_int q
theorem TH:dP X (mw .Sub) (o7 λi j=> .int (i - j)):=KC λ_ _ _ _ _ _ _ q=>sub_int q
theorem qX:dP X (mw .Mult) (rI o8 λi j=> .int (i * j)):=Ax λ_ _ _ _ _ _ _ hc q=>mul_int q hc.ok
theorem sM:dP X (mw .Mod) (rI (λ_ j=>0 < j) λi j=> .int (i % j)):=Ax λi j _ _ _ _ _ hc q=>by
 have h1:(0:Int) < j:=hc;exact mod_int' (by lia) (by rw[Int.fmod_eq_emod_of_nonneg i (by lia)];exact q)
theorem TJ:dP X (mw .Pow) (rI DK λi j=> .int (i ^ j.toNat)):=Ax λ_ _ _ _ _ _ _ hc q=>pow_int_small hc.1 hc.2.1 hc.2.2 q
theorem TK{f:Value->Sem Value}{g:Int->Int}
  (rule:∀(i:Int) (t:Tok) (s:Shared) (Q:Value->Shared->Prop) (E:Value->Shared->Prop),Q (.int (g i) s.toks) { s with toks:=s.toks + 1 }->wpAny (model X.prog X.w) X.A (f (.int i t)) Q E s):
  DI X f (rU λi=> .int (g i)):=by
 intro aa s σ H x v Q I rx h;obtain⟨i,rfl,q⟩:=h;obtain⟨t,rfl⟩:=rx;exact rule i t s _ _ ⟨.int (g i),H,I.tok _,⟨_,rfl⟩,q⟩
theorem TL:DI X (unaryOp .USub) (rU λi=> .int (-i)):=TK λ_ _ _ _ _ q=>neg_int q
end
section
variable {X:Cx}{a b c:Expr}{pos:Pos}
theorem KD{aa:List (Addr×Obj)}{σ:St}{H:Hp}{s:Shared}{Q:VK}(I:Inv X aa σ H s)(q:Q (.bl k) H)(e:k=k'):EP X aa σ Q (.bool k') s:=by
 subst e;exact⟨.bl k,H,I,rfl,q⟩
theorem qY:dP X (jy .Lt) (o7 λi j=> .bl (decide (i < j))):=Ay λ_ _ _ _ _ _ _ q=>lt_int q
theorem KG:dP X (jy .LtE) (o7 λi j=> .bl (decide (i<=j))):=Ay λ_ _ _ _ _ _ _ q=>le_int q
theorem o9:dP X (jy .Gt) (o7 λi j=> .bl (decide (j < i))):=Ay λ_ _ _ _ _ _ _ q=>gt_int q
theorem KH:dP X (jy .GtE) (o7 λi j=> .bl (decide (j<=i))):=Ay λ_ _ _ _ _ _ _ q=>ge_int q
theorem TM:dP X (jy .In) (λx y H Q=>∃i j,x= .str i/\y= .str j/\Q (.bl (!(RW j i 0 j.length 1).isEmpty)) H):=by
 intro aa s σ H x y v u Q I rx ry h;obtain⟨i,j,rfl,rfl,q⟩:=h;obtain⟨t,rfl⟩:=rx;obtain⟨t',rfl⟩:=ry;exact in_str (KD I q rfl)
theorem TN:dP X (jy .IsNot) (λx y H Q=>y= .aJ/\Q (.bl (!decide (x= .aJ))) H):=by
 intro aa s σ H x y v u Q I rx ry h;obtain⟨rfl,q⟩:=h;cases ry;refine isnot_none_gen (KD I q ?_);cases x <;> first
  |(cases rx;rfl)
  |(obtain⟨t,rfl⟩:=rx;rfl)
theorem KI(b:Expr)(h:op≠ .In:=by decide)(h2:op≠ .NotIn:=by decide):zw op b=false:=by
 have e1:(op == CmpOp.In)=false:=by cases op <;> first | rfl | exact absurd rfl h
 have e2:(op == CmpOp.NotIn)=false:=by cases op <;> first | rfl | exact absurd rfl h2
 cases b <;> simp[zw,e1,e2]
theorem TQ(ho:dP X (jy op) r)(ha:PE X a ta)(hb:PE X b tb)(hm:zw op b=false):PE X (.Compare a [op] [b] pos) (kQ r ta tb):=by
 intro aa s σ H Q I h;exact wpAny_Compare1 (DJ ha hb I h λv u s2 x y H2 I2 rx ry q=>ho aa s2 σ H2 x y v u Q I2 rx ry q) hm
def Az(t:TE):TT:=λσ H Q=>t σ H λx H'=>∃k,x= .bl k/\Q k H'
theorem AA(ho:dP X (jy op) r)(ha:PE X a ta)(hb:PE X b tb)(hm:zw op b=false):PT X (.Compare a [op] [b] pos) (Az (kQ r ta tb)):=by
 intro aa s σ H Q I h;refine wpAny_isTrue_Compare1 (bG (ha aa s σ H _ I h) λv s1 ⟨x,H1,I1,r1,q1⟩=>bG (hb aa s1 σ H1 _ I1 q1) λu s2 ⟨y,H2,I2,r2,q2⟩=>
  bG (ho aa s2 σ H2 x y v u _ I2 r1 r2 q2) λc s3 ⟨z,H3,I3,r3,k,e,q3⟩=> ?_) hm
 subst e;cases r3;exact uo ⟨H3,I3,q3⟩
def KJ(K:ah)(x:V)(H:Hp)(k:Bool):Prop:=
 match x with
 |.aJ=>k=false
 |.bl b=>k=b
 |.int i=>k=(i != 0)
 |.str y=>y.length<=aK/\k=((y.length:Int) != 0)
 |.sm y=>y.size<=aK/\k=((y.size:Int) != 0)
 |.ref p=>(∃xs,cc K H p xs/\k= !xs.isEmpty)\/(∃xs,cN K H p xs/\k= !xs.isEmpty)\/∃aj,H p=some (.dK aj)/\k= !aj.isEmpty
 |_=>False
theorem TR{κ:Type}{aj:List (κ×V)}{vs:List (κ×Value)}(r:KV aj vs):(!vs.isEmpty)= !aj.isEmpty:=by
 cases r <;> rfl
theorem KL{xs:List V}{ai:List Value}(r:bA xs ai):(!ai.toArray.isEmpty)= !xs.isEmpty:=by
 cases r <;> simp
theorem sN:(aK:Nat) < 2 ^ 63:=by rw[C0];decide
theorem TU:TB X (λx H Q=>∃k,KJ X.K x H k/\Q k H):=by
 intro aa s σ H x v Q I rx h;obtain⟨k,e,q⟩:=h;have hl:=sN;have hs:aK=16777216:=C0;cases x with
 |aJ=>
  cases rx;have e':k=false:=e;subst e';exact truthy_none ⟨H,I,q⟩
 |bl b=>
  cases rx;have e':k=b:=e;subst e';exact uo ⟨H,I,q⟩
 |int i=>
  obtain⟨t,rfl⟩:=rx;have e':k=(i != 0):=e;subst e';exact PySem.P.truthy_int ⟨H,I,q⟩
 |str y=>
  obtain⟨t,rfl⟩:=rx;obtain⟨hy,e'⟩:y.length<=aK/\k=((y.length:Int) != 0):=e;subst e';exact PySem.P.truthy_str (by lia) ⟨H,I.tok _,q⟩
 |sm y=>
  obtain⟨t,rfl⟩:=rx;obtain⟨hy,e'⟩:y.size<=aK/\k=((y.size:Int) != 0):=e;subst e';exact W.truthy_bytes (by lia) ⟨H,I.tok _,q⟩
 |ref p=>
  cases rx;have e':(∃xs,cc X.K H p xs/\k= !xs.isEmpty)\/(∃xs,cN X.K H p xs/\k= !xs.isEmpty)\/∃aj,H p=some (.dK aj)/\k= !aj.isEmpty:=e;rcases e' with⟨xs,hx,e'⟩ | ⟨xs,hx,e'⟩ | ⟨aj,hx,e'⟩
  ·subst e';obtain⟨ai,r,pl,hz⟩:=I.list hx;have cG:=r.length;exact wpAny_truthy_list pl.isList (by simp only[fY];lia) ⟨H,I.tok _,by rw[KL r];exact q⟩
  ·subst e';obtain⟨ai,r,pl,hz⟩:=I.tuple hx;have cG:=r.length;exact truthy_tuple pl (by simp only[fY];lia) ⟨H,I.tok _,by rw[KL r];exact q⟩
  ·subst e';obtain⟨hz,hS,vs,r,m⟩:aj.length<=aK/\(p == oS)=false/\∃vs,KV aj vs/\s.heap.DictOf (jB X.prog X.w) p vs:=I.aT p _ hx;have cG:aj.length=vs.length:=Jq r;exact wpAny_truthy_dict hS m (by lia) ⟨H,I.tok _,by rw[TR r];exact q⟩
 |_=>exact(show False from e).elim
theorem TV:dP X (mw .Add) (λx y H Q=>∃i j,x= .str i/\y= .str j/\i.length + j.length<=aK/\Q (.str (i++j)) H):=by
 intro aa s σ H x y v u Q I rx ry h;obtain⟨i,j,rfl,rfl,hz,q⟩:=h;obtain⟨t,rfl⟩:=rx;obtain⟨t',rfl⟩:=ry;exact add_str (λt' tk=>⟨.str (i++j),H,I.tok _,⟨_,rfl⟩,q⟩) hz
theorem vals1{x:V}(r:bA [x] us):∃u,us= [u]/\RelV x u:=by
 cases r with
 |cons r1 r2=>cases r2;exact⟨_,rfl,r1⟩
theorem vals2{x y:V}(r:bA [x,y] us):∃u w',us= [u,w']/\RelV x u/\RelV y w':=by
 cases r with
 |cons r1 r2=>
  cases r2 with
  |cons r3 r4=>cases r4;exact⟨_,_,rfl,r1,r3⟩
theorem TX(hc:X.calm=true):i5 X (.builtin "max") (λxs H Q=>∃i j,xs= [.int i, .int j]/\Q (.int (if j > i then j else i)) H):=by
 intro aa s σ H xs us Q I r h;obtain⟨i,j,rfl,q⟩:=h;obtain⟨u,w',rfl,⟨t,rfl⟩,⟨t',rfl⟩⟩:=vals2 r;refine max_two_ints (I.ok.hd hc) λh' tk k=>⟨_,H,I.kept k, ?_,q⟩
 by_cases hj:j > i
 ·rw[if_pos hj,if_pos hj];exact⟨_,rfl⟩
 ·rw[if_neg hj,if_neg hj];exact⟨_,rfl⟩
theorem TY(hc:X.calm=true):i5 X (.builtin "min") (λxs H Q=>∃i j,xs= [.int i, .int j]/\Q (.int (if j < i then j else i)) H):=by
 intro aa s σ H xs us Q I r h;obtain⟨i,j,rfl,q⟩:=h;obtain⟨u,w',rfl,⟨t,rfl⟩,⟨t',rfl⟩⟩:=vals2 r;refine min_two_ints (I.ok.hd hc) λh' tk k=>⟨_,H,I.kept k, ?_,q⟩
 by_cases hj:j < i
 ·rw[if_pos hj,if_pos hj];exact⟨_,rfl⟩
 ·rw[if_neg hj,if_neg hj];exact⟨_,rfl⟩
end
end L2
namespace L2
open PySem PySem.Spec PyProof.Rows
structure sO(h:Heap)(x dx C:Addr)(mA:Str->Option Value):Prop where
 obj:h.get? x=some (uA C dx)
 ns:h.Ns1 dx mA
 ne:dx≠x
theorem TZ{h:Heap}{mA:Str->Option Value}(n:h.Ns1 dx mA):∃od,h.get? dx=some od/\∀name,Jt name od=some (mA name):=by
 obtain⟨o,es,ep,ho,hd,hk,_,hm⟩:=n;refine⟨o,ho,λname=> ?_⟩;have e:=hm name;unfold nsFind findBy at e;rw[<- Array.find?_toList]at e;unfold Jt;rw[hd];dsimp only
 split
 ·rename_i y q
  rw[q]at e;exact congrArg some e
 ·rename_i q
  rw[q]at e;have a:es.toList.any (·.refKey)=false:=by
   rw[List.any_eq_false];intro y hy;obtain⟨z,t,T3⟩:=hk y (Array.mem_toList_iff.mp hy);simp[DictEntry.refKey,T3]
  have a':¬ es.toList.any (·.refKey)=true:=by rw[a];exact ji
  rw[if_neg a'];exact congrArg some e
theorem sO.look{h:Heap}{x dx C:Addr}{mA:Str->Option Value}(I:sO h x dx C mA):∃od,W.InstAt h x (uA C dx) C (some od)/\∀name,Jt name od=some (mA name):=
 let ⟨od,ho,hl⟩:=TZ I.ns
 ⟨od,⟨I.obj,rfl,rfl,ho⟩,hl⟩
section
variable {prog:Program}{w:World}{A:Around}{E:Value->Shared->Prop}{s:Shared}{K:ah}{x dx C f:Addr}{mA:Str->Option Value}{name:Str}{v:Value}
theorem get_map{expr:Bool}{Q:Value->Shared->Prop}(X:K.In s.heap)(I:sO s.heap x dx C mA)(hg:C6 K C name=true)(hh:Ju K C=true)
  (ha:kL K (.ref C) name=some none) (hv:mA name=some v) (i6:W.handedIn v=true) (h:Q v { s with toks:=s.toks + 1 }):
  wpAny (model prog w) A (getAttr (.ref x) name expr) Q E s:=by
 obtain⟨od,J,hl⟩:=I.look;exact W.get_value X J (RX hg).1 (W.findObj_own hh ha rfl (by rw[hl,hv])) i6 h
theorem T4{pl:Sem Bool}{Q:Value×List Value->Shared->Prop}(X:K.In s.heap)(I:sO s.heap x dx C mA)(hg:C6 K C name=true)
  (hf:kL K (.ref C) name=some (some (.ref f))) (ht:rZ K (.ref f)=true) (hv:mA name=none) (h:Q (.ref f, [.ref x]) s):
  wpAny (model prog w) A (zA (.ref x) name pl) Q E s:=by
 obtain⟨od,J,hl⟩:=I.look;exact W.method_fn X J (RX hg).1 (RX hg).2 hf (beq_iff_eq.mp ht) (by show(Jt name od).map (·.isSome)=some false;rw[hl,hv];rfl) h
theorem T5{ns:List Str}{Q:Unit->Shared->Prop}(X:K.In s.heap)(I:sO s.heap x dx C mA)
  (hs:kL K (.ref C) "__setattr__"=some (some (.builtin "object.__setattr__"))) (hp:RY K C=true) (ht:W.takerIn K C name=some none) (hh:Ju K C=true)
  (hw:RS mA ns) (hsz:ns.length<=aK)
  (h:∀h',sO h' x dx C (λy=>if y=name then some v else mA y)->Jr dx s.heap h'->Q () { s with heap:=h',toks:=s.toks + 2 }):
  wpAny (model prog w) A (setAttr (.ref x) name v) Q E s:=by
 obtain⟨od,J,hl⟩:=I.look;refine W.set_plain X J hs (W.osa_open (s:= { s with toks:=s.toks + 1 }) (r:=none) X J hp ht λb=> ?_);obtain⟨cd,hc,mE⟩:=W.any_some hh;have hx:s.heap.get? x=some ⟨.ref C,some dx, .plain,#[]⟩:=I.obj;refine aW (cJ (aW (aW (wpAny_loadPart hx (aW (W.Looks.here (s:= { s with toks:=s.toks + 1 }) (W.looks_clsIn X hc) ?_))))));rw[mE];refine cJ (a:=some dx) (aW (cJ (aW ?_)));refine wpAny_nsSet1 (s:= { s with toks:=s.toks + 1 }) I.ns λh' qZ o6=> ?_;obtain⟨oD,aeI,aeJ,T6,T7,T8⟩:=qZ.count (RS.cons name v hw);refine aW (wpAny_lookBehind T6 (by rw[T7];exact pastItsLine_dict (bW T8 (by rw[fN];lia))) ?_);exact cJ (h _ ⟨(o6.2 _ (jO I.ne)).trans I.obj,qZ,I.ne⟩ o6)
theorem T9{R:Result->Shared->Prop}{vs:List Value}{kw:List (Str×Value)}(X:K.In s.heap)(hm:W.makesIn K C=true)
  (hi:kL K (.ref C) "__init__"=some (some (.ref f))) (hf:W.typeIn K (.ref f)=some (.type "function"))
  (h:mx (model prog w) (A.under (.builtin "type.__call__" ⟨.ref C::vs,kw⟩)) (.call (.ref f) ⟨.ref (s.heap.objs.size + 1)::vs,kw⟩) (W.InitBack (s.heap.objs.size + 1) R)
   { s with heap:=(s.heap.push r6).push (uA C s.heap.objs.size) }):
  mx (model prog w) A (.call (.ref C) ⟨vs,kw⟩) R s:=by
 obtain⟨hh,g,d,t,os⟩:=s;exact W.make_core (W.makes_of X hm) (W.looks_findIn X hi) (λself=>W.bind_fn X self hf) (.inl rfl) h
end
def jD(f:Str)(v:V):List (Str×V)->List (Str×V)
 | []=> [(f,v)]
 |(g,x)::r=>if g=f then(g,v)::r else(g,x)::jD f v r
theorem KN(f g:Str)(v:V):∀fs:List (Str×V),(jD f v fs).lookup g=if g=f then some v else fs.lookup g
 | []=>by
  show r9 g [(f,v)]=_;by_cases h:g=f
  ·have hb:(g == f)=true:=beq_iff_eq.mpr h;simp only[r9,hb,if_pos h]
  ·have hb:(g == f)=false:=beq_eq_false_iff_ne.mpr h;simp only[r9,hb,if_neg h]
 |(k,x)::r=>by
  have ih:=KN f g v r;rw[show jD f v ((k,x)::r)=(if k=f then(k,v)::r else(k,x)::jD f v r) from rfl];by_cases hk:k=f
  ·rw[if_pos hk];by_cases h:g=k
   ·have hb:(g == k)=true:=beq_iff_eq.mpr h;simp only[r9,hb,if_pos (h.trans hk)]
   ·have hb:(g == k)=false:=beq_eq_false_iff_ne.mpr h;simp only[r9,hb,if_neg (λe:g=f=>h (e.trans hk.symm))]
  ·rw[if_neg hk];by_cases h:g=k
   ·have hb:(g == k)=true:=beq_iff_eq.mpr h;simp only[r9,hb,if_neg (λe:g=f=>hk (h.symm.trans e))]
   ·have hb:(g == k)=false:=beq_eq_false_iff_ne.mpr h;simp only[r9,hb];exact ih
theorem DL(f:Str)(v:V):∀fs:List (Str×V),f∈(jD f v fs).map (·.1)/\∀g,g∈fs.map (·.1)->g∈(jD f v fs).map (·.1)
 | []=>⟨by simp[jD],λg h=>by simp at h⟩
 |(k,x)::r=>by
  obtain⟨i1,i2⟩:=DL f v r;rw[show jD f v ((k,x)::r)=(if k=f then(k,v)::r else(k,x)::jD f v r) from rfl];by_cases hk:k=f
  ·rw[if_pos hk];subst hk;exact⟨by simp,λg h=>by simpa using h⟩
  ·rw[if_neg hk];refine⟨?_,λg h=> ?_⟩
   ·rw[dZ];exact jZ _ i1
   ·rw[dZ]at h |-;rcases gK.mp h with e | e
    ·exact gK.mpr (.inl e)
    ·exact jZ _ (i2 g e)
theorem KO(f:Str)(v:V):∀fs:List (Str×V),(jD f v fs).length<=fs.length + 1
 | []=>by simp[jD]
 |(k,x)::r=>by
  have ih:=KO f v r;rw[show jD f v ((k,x)::r)=(if k=f then(k,v)::r else(k,x)::jD f v r) from rfl];by_cases hk:k=f
  ·rw[if_pos hk,fN,fN];lia
  ·rw[if_neg hk,fN,fN];lia
theorem j3.some_of{v:V}{o:Option Value}(r:j3 (some v) o):∃u,o=some u/\RelV v u:=by
 cases o with
 |none=>exact(show False from r).elim
 |some u=>exact⟨u,rfl,r⟩
theorem j3.none_of{o:Option Value}(r:j3 none o):o=none:=by
 cases o with
 |none=>rfl
 |some u=>exact(show False from r).elim
theorem Ua{v:V}{u:Value}(r:RelV v u):W.handedIn u=true:=by
 cases v with
 |aJ=>cases(show u=C5 from r);rfl
 |bl b=>cases(show u=wN b from r);rfl
 |int i=>obtain⟨t,e⟩:=(show ∃t,u=wL i t from r);cases e;rfl
 |str x=>obtain⟨t,e⟩:=(show ∃t,u=zF x t from r);cases e;rfl
 |sm b=>obtain⟨t,e⟩:=(show ∃t,u=Value.bytes b t from r);cases e;rfl
 |kb b=>obtain⟨t,e⟩:=(show ∃t,u=Jp b t from r);cases e;rfl
 |ref a=>cases(show u=gw a from r);rfl
 |ty n=>cases(show u=uz n from r);rfl
section
variable {P:Program}{w:World}{H H':Hp}{h h':Heap}{a C dx:Addr}
theorem kf(aT:gY P w H h)(e:H a=some (.ins C dx fs)):∃mA,sO h a dx C mA/\(∀f,j3 (fs.lookup f) (mA f))/\RS mA (fs.map (·.1))/\fs.length<=1000/\H dx=some (.own a):=by
 obtain⟨d,z,ne,ob,mA,n,r,q⟩:=(show fZ P w H h a (.ins C dx fs) from aT a _ e)
 exact⟨mA,⟨ob,n,ne⟩,r,q,z,d⟩
end
structure kT(K:ah)(C:Addr):Prop where
 pg:C6 K C Str.empty=true
 hd:Ju K C=true
 po:RY K C=true
 sa:kL K (.ref C) "__setattr__"=some (some (.builtin "object.__setattr__"))
theorem kT.get{K:ah}{C:Addr}(c:kT K C)(f:Str):C6 K C f=true:=c.pg
def iT(K:ah)(C:Addr)(f:Str):Prop:=kL K (.ref C) f=some none
theorem iT.Ub{K:ah}{C:Addr}{f:Str}(n:iT K C f):W.takerIn K C f=some none:=by
 unfold W.takerIn;rw[show kL K (.ref C) f=some none from n];rfl
structure CY(K:ah)(C:Addr)(m:Str)(f:Addr):Prop where
 at_:kL K (.ref C) m=some (some (.ref f))
 fn:rZ K (.ref f)=true
 kp:uC K (.ref f)=true
section
variable {X:Cx}{aa:List (Addr×Obj)}{σ:St}{H:Hp}{s:Shared}{a C dx:Addr}{f:Str}{v:V}{A:Around}{E:Value->Shared->Prop}
theorem Uc{b:Bool}{Q:Value->Shared->Prop}(I:Inv X aa σ H s)(e:H a=some (.ins C dx fs))(c:kT X.K C)(n:iT X.K C f)(l:fs.lookup f=some v)
  (h:∀u s',Inv X aa σ H s'->RelV v u->Q u s'):wpAny (model X.prog X.w) A (getAttr (.ref a) f b) Q E s:=by
 obtain⟨mA,O,r,_,_,_⟩:=kf I.aT e;obtain⟨u,hu,ru⟩:=j3.some_of (v:=v) (o:=mA f) (by rw[<- l];exact r f);exact get_map I.fP O (c.get f) c.hd n hu (Ua ru) (h u _ (I.tok _) ru)
theorem KP{pl:Sem Bool}{Q:Value×List Value->Shared->Prop}(I:Inv X aa σ H s)(e:H a=some (.ins C dx fs))(c:kT X.K C)(k:CY X.K C m g)(l:fs.lookup m=none)
  (h:Q (.ref g, [.ref a]) s):wpAny (model X.prog X.w) A (zA (.ref a) m pl) Q E s:=by
 obtain⟨mA,O,r,_,_,_⟩:=kf I.aT e;have hn:mA m=none:=j3.none_of (by rw[<- l];exact r m);exact T4 I.fP O (c.get m) k.at_ k.fn hn h
theorem Ud{u:Value}{Q:Unit->Shared->Prop}(I:Inv X aa σ H s)(e:H a=some (.ins C dx fs))(c:kT X.K C)(n:iT X.K C f)(hl:fs.length < 1000)(ry:RelV y u)
  (h:∀s',Inv X aa σ (aP H a (.ins C dx (jD f y fs))) s'->Q () s'):wpAny (model X.prog X.w) A (setAttr (.ref a) f u) Q E s:=by
 obtain⟨mA,O,r,wi,_,ho⟩:=kf I.aT e;have hz:(fs.map (·.1)).length<=aK:=by rw[dC,C0];lia
 refine T5 I.fP O c.sa c.po n.Ub c.hd wi hz λh' O' sb=>h _ ?_;have hd:∃o,h'.get? dx=some o:=let ⟨o,_,_,e',_⟩:=O'.ns;⟨o,e'⟩;refine I.write (x:=a) (e:=dx) (by rw[e];exact kM) (.inr ho) (λb q hb z=>(sb.2 b hb).trans z) hd ?_;refine⟨by rw[de O.ne];exact ho, ?_,O.ne,O'.obj,_,O'.ns,λg=> ?_,λg hg=> ?_⟩
 ·have:=KO f y fs;lia
 ·show j3 ((jD f y fs).lookup g) (if g=f then some u else mA g);rw[KN];by_cases q:g=f
  ·rw[if_pos q,if_pos q];exact ry
  ·rw[if_neg q,if_neg q];exact r g
 ·by_cases q:g=f
  ·rw[q];exact(DL f y fs).1
  ·refine(DL f y fs).2 g (wi g λz=>hg ?_);show(if g=f then some u else mA g)=none;rw[if_neg q];exact z
theorem Inv.made(I:Inv X aa σ H s):Inv X aa σ (aP (aP H s.heap.objs.size (.own (s.heap.objs.size + 1))) (s.heap.objs.size + 1) (.ins C s.heap.objs.size []))
  { s with heap:=(s.heap.push r6).push (uA C s.heap.objs.size) }:=by
 have e1:(s.heap.push r6).get? s.heap.objs.size=some r6:=jP s.heap rfl;have e2:((s.heap.push r6).push (uA C s.heap.objs.size)).get? (s.heap.objs.size + 1)=some (uA C s.heap.objs.size):=by
  have:=jP (s.heap.push r6) (o:=uA C s.heap.objs.size) rfl;rwa [sd]at this
 have e3:(s.heap.push r6).Ns s.heap.objs.size (λ_=>none):=⟨r6,#[],_,e1,rfl,(λe he=>absurd he (by simp)),λ_=>rfl⟩
 have I1:=I.laid (a:=s.heap.objs.size) (o:= .own (s.heap.objs.size + 1)) (h':=s.heap.push r6) (t':=s.toks) (λb u q=>gy _ q) (bK _) ⟨_,e1⟩;refine I1.laid (a:=s.heap.objs.size + 1) (o:= .ins C s.heap.objs.size []) (t':=s.toks) (λb u q=>gy _ q) (RZ (sd _ _)) ?_;have ne:s.heap.objs.size≠s.heap.objs.size + 1:=jh (C7 _);refine⟨by rw[de ne,gX],jj _,ne,e2,λ_=>none,(Heap.Ns1.of_empty e3).at λo q=>gy _ q,λ_=>kM,λy hy=>absurd rfl hy⟩
theorem Ue{prog:Program}{w:World}{e:Expr}{f:Str}{pos:Pos}{s:Shared}{Q:Value->Shared->Prop}(hb:qM e f env (eval e env)=eval e env)
  (h:wpAny (model prog w) A (eval e env) (λo dQ=>wpAny (model prog w) A (getAttr o f true) Q E dQ) E s):wpAny (model prog w) A (eval (.Attribute e f pos) env) Q E s:=
 Attribute_any_ h (by rw[arm_eval_Attribute,hb])
end
def xq(K:ah)(ta:TE)(f:Str):TE:=λσ H Q=>ta σ H λx H1=>∃a C dx fs v,x= .ref a/\H1 a=some (.ins C dx fs)/\kT K C/\iT K C f/\fs.lookup f=some v/\Q v H1
def DM(K:ah)(ta tv:TE)(f:Str):TS:=λD σ H=>tv σ H λy H1=>ta σ H1 λx H2=>∃a C dx fs,x= .ref a/\H2 a=some (.ins C dx fs)/\kT K C/\iT K C f/\fs.length < 1000/\
 D.nx σ (aP H2 a (.ins C dx (jD f y fs)))
section
variable {X:Cx}{o e value:Expr}{f:Str}{pos pos' aeK:Pos}
theorem Ug(he:PE X e ta)(hb:qM e f X.env (eval e X.env)=eval e X.env):PE X (.Attribute e f pos) (xq X.K ta f):=by
 intro aa s σ H Q I h;refine Ue hb (bG (he aa s σ H _ I h) λu s1 ⟨x,H1,I1,rx,a,C,dx,fs,v,ex,ea,c,n,l,q⟩=> ?_);subst ex;obtain rfl:u=gw a:=rx;exact Uc I1 ea c n l λu' s2 I2 ru=>⟨v,H1,I2,ru,q⟩
theorem Uh(ha:PE X o ta)(hv:PE X value tv)(hs:wB value (some (.Attribute o f pos')) pos.line X.env=pure false):PS X (.Assign [.Attribute o f pos'] value pos) (DM X.K ta tv f):=by
 intro aa s σ H D I h;refine plainObj_wpAny_Assign_Attribute (bG (hv aa s σ H _ I h) λu s1 ⟨y,H1,I1,ry,q⟩=>bG (ha aa s1 σ H1 _ I1 q) λov s2 ⟨x,H2,I2,rx,a,C,dx,fs,ex,ea,c,n,l,q2⟩=> ?_) hs;subst ex;obtain rfl:ov=gw a:=rx;exact Ud I2 ea c n l ry λs3 I3=>⟨σ,_,I3,q2⟩
end
section
variable {X:Cx}{aa:List (Addr×Obj)}{σ:St}{H:Hp}{s:Shared}{A:Around}{E:Value->Shared->Prop}{Q:Value->Shared->Prop}
inductive kU(K:ah)(H:Hp):V->Value->Prop where
 |aJ:kU K H .aJ (.type "NoneType")
 |bl (x:Bool):kU K H (.bl x) (.type "bool")
 |int (i:Int):kU K H (.int i) (.type "int")
 |str (x:Str):kU K H (.str x) (.type "str")
 |kb (x:UInt64):kU K H (.kb x) (.type "float")
 |lst {a:Addr} {xs:List V} (e:H a=some (.lst xs)):kU K H (.ref a) (.type "list")
 |iz {a:Addr} {o:Obj} {xs:List V} (e:H a=some (.iz o (.lst xs))):kU K H (.ref a) (.type "list")
 |tup {a:Addr} {xs:List V} (e:H a=some (.tup xs)):kU K H (.ref a) (.type "tuple")
 |dK {a:Addr} {aj:List (aY×V)} (e:H a=some (.dK aj)):kU K H (.ref a) (.type "dict")
 |dT {a:Addr} {aj:List (List aY×V)} (e:H a=some (.dT aj)):kU K H (.ref a) (.type "dict")
 |ins {a C dx:Addr} {fs:List (Str×V)} (e:H a=some (.ins C dx fs)) (cl:kT K C) (ha:kL K (.ref C) "__class__"=some (some (.builtin "object.__class__")))
   (hn:W.specialIn K (.builtin "object.__class__") "__get__"=some (some (.builtin "getset_descriptor.__get__"))) (AB:W.takesIn K (.builtin "object.__class__")=some true)
   (hm:W.mroIn K C (.type "object")=some true):kU K H (.ref a) (.ref C)
theorem Ui{x:V}{u t:Value}(I:Inv X aa σ H s)(rx:RelV x u)(ty:kU X.K H x t)(e:uD X.K t c=some b)(h:∀tk,Q (.bool b) { s with toks:=tk }):
  wpAny (model X.prog X.w) A (call (.builtin "isinstance") [u,c]) Q E s:=by
 cases ty with
 |aJ=>cases(show u=C5 from rx);exact pT W.kitx_none I.fP kM e (λz=>nomatch z) h
 |bl y=>cases(show u=wN y from rx);exact pT W.kitx_bool I.fP kM e (λz=>nomatch z) h
 |int i=>obtain⟨t,q⟩:=(show ∃t,u=wL i t from rx);cases q;exact pT W.kitx_int I.fP kM e (λz=>nomatch z) h
 |str y=>obtain⟨t,q⟩:=(show ∃t,u=zF y t from rx);cases q;exact pT W.kitx_str I.fP kM e (λz=>nomatch z) h
 |kb y=>obtain⟨t,q⟩:=(show ∃t,u=Jp y t from rx);cases q;exact pT W.kitx_float I.fP kM e (λz=>nomatch z) h
 | @lst a xs ea=>
  cases(show u=gw a from rx);obtain⟨_,_,n,_,h1⟩:=(show fZ X.prog X.w H s.heap a (.lst xs) from I.aT a _ ea)
  exact pT Jv I.fP ⟨_,h1,rfl⟩ e (λz=>nomatch z) h
 | @iz a ob xs ea=>
  cases(show u=gw a from rx);obtain⟨_,_,_,n,_,h1⟩:=(show fZ X.prog X.w H s.heap a (.iz ob (.lst xs)) from I.aT a _ ea)
  exact pT Jv I.fP ⟨_,h1,rfl⟩ e (λz=>nomatch z) h
 | @tup a xs ea=>
  cases(show u=gw a from rx);obtain⟨_,_,_,p⟩:=(show fZ X.prog X.w H s.heap a (.tup xs) from I.aT a _ ea)
  obtain⟨o,h1,h2,_⟩:=p;exact pT W.kitx_tuple I.fP ⟨o,h1,h2⟩ e (λz=>nomatch z) h
 | @dK a aj ea=>
  cases(show u=gw a from rx);obtain⟨_,_,vs,_,p⟩:=(show fZ X.prog X.w H s.heap a (.dK aj) from I.aT a _ ea)
  obtain⟨o,es,ep,h1,h2,_⟩:=p;exact pT Jy I.fP ⟨o,h1,h2.1⟩ e (λz=>nomatch z) h
 | @dT a aj ea=>
  cases(show u=gw a from rx);obtain⟨_,_,xs,_,o,es,ep,h1,h2,_⟩:=(show fZ X.prog X.w H s.heap a (.dT aj) from I.aT a _ ea)
  exact pT Jy I.fP ⟨o,h1,h2.1⟩ e (λz=>nomatch z) h
 | @ins a C dx fs ea cl ha hn AB hm=>
  cases(show u=gw a from rx);obtain⟨mA,O,_⟩:=kf I.aT ea;obtain⟨od,J,_⟩:=O.look;exact pT (W.kitx_own (cl.get _) cl.hd ha hn AB hm) I.fP J e (λz=>nomatch z) h
end
end L2
namespace L2
open PySem PySem.Spec PyProof.Rows
structure fK(k:Nat)(A:Around):Prop where
 hd:A.handled=none
 dp:A.depth + 3 * k + 5 < recursionLimit
 un:A.units + 16 * k + 200 < cLine
 gd:A.guards=some []
theorem fK.mono{A:Around}(r:fK k A)(h:j<=k):fK j A:=⟨r.hd,by have:=r.dp;lia,by have:=r.un;lia,r.gd⟩
theorem fK.deeper{A:Around}(r:fK (k + 1) A)(env:Env):fK k (A.deeper env):=
 ⟨r.hd,by have:=r.dp;show A.depth + 1 + 3 * k + 5 < _;lia,by have:=r.un;show A.units + 3 + 16 * k + 200 < _;lia,r.gd⟩
theorem fK.in1{A:Around}(r:fK (k + 1) A):fK k A.in1:=
 ⟨r.hd,by have:=r.dp;show A.depth + 3 * k + 5 < _;lia,by have:=r.un;show A.units + 1 + 16 * k + 200 < _;lia,r.gd⟩
theorem Uj{A:Around}{C:Addr}:(A.under (.builtin "type.__call__" ⟨.ref C::us,kw⟩)).depth=A.depth + 1:=by
 first | rfl | simp[Jz,Code.weight,Code.isCreation,Code.isGuard,Code.isCaller,Code.frames,R3,guardIds]
theorem Uk{A:Around}{C:Addr}:(A.under (.builtin "type.__call__" ⟨.ref C::us,kw⟩)).units=A.units + 1:=by
 first | rfl | simp[Jz,Code.cUnits,Code.frames,R3]
theorem fK.make{A:Around}(r:fK (k + 1) A)(C:Addr)(us:List Value)(kw:List (Str×Value)):fK k (A.under (.builtin "type.__call__" ⟨.ref C::us,kw⟩)):=
 ⟨r.hd,by have:=r.dp;rw[Uj];lia,by have:=r.un;rw[Uk];lia,by first | exact r.gd | (have:=r.gd;simpa[Jz,Code.isGuard,guardIds]using this)⟩
theorem fK.depth{A:Around}(r:fK k A):A.depth < recursionLimit:=by have:=r.dp;lia
theorem fK.units{A:Around}(r:fK k A):A.units + 64 < cLine:=by have:=r.un;lia
def g7:TA:=λ_ H Q=>Q [] H
def eJ(ta:TE)(tr:TA):TA:=λσ H Q=>ta σ H λx H1=>tr σ H1 λxs H2=>Q (x::xs) H2
section
variable {X:Cx}{e:Expr}{es:List Expr}{te:TE}{t:TA}{pos:Pos}
theorem gN:PA X [] g7:=λ_ _ _ _ H Q I h=>adU ⟨[],H,I, .nil,h⟩
theorem bz(ha:PE X e te)(hr:PA X es t)(hs:cD (e::es) X.env=(false,eval e X.env)::cD es X.env:=by rfl):PA X (e::es) (eJ te t):=by
 intro pos aa s σ H Q I h;rw[hs];show wpAny _ _ (spliced ((false,eval e X.env)::backTo pos (cD es X.env))) _ _ s;refine R4 (bG (ha aa s σ H _ I h) λu s1 ⟨x,H1,I1,r1,q1⟩=> ?_);exact bG (hr pos aa s1 σ H1 _ I1 q1) λus s2 ⟨xs,H2,I2,r2,q2⟩=>⟨x::xs,H2,I2, .cons r1 r2,q2⟩
def q0(t:TA):TE:=λσ H Q=>t σ H λxs H1=>xs.length<=aK/\∀p,H1 p=none->Q (.ref p) (aP H1 p (.tup xs))
def uX(t:TA):TE:=λσ H Q=>t σ H λxs H1=>xs.length<=aK/\∀p,H1 p=none->Q (.ref p) (aP H1 p (.lst xs))
theorem jn{x1}(h:PA X es t):PE X (.Tuple es x1 pos) (q0 t):=by
 intro aa s σ H Q I hq;refine wpAny_Tuple_spliced (bG (h pos aa s σ H _ I hq) λus s1 ⟨xs,H1,I1,r,z,q⟩=>⟨by rw[<- r.length];exact z, ?_⟩);have hf:H1 s1.heap.objs.size=none:=I1.aT.fresh (bK _);refine⟨.ref s1.heap.objs.size,aP H1 s1.heap.objs.size (.tup xs),I1.laid (t':=s1.toks) (λb u e=>gy _ e) (bK _) ?_,rfl,q _ hf⟩;exact⟨z,us,r,⟨_,jP _ rfl,rfl,_,rfl⟩⟩
theorem jE(h:PA X es t):PE X (.List es pos) (uX t):=by
 intro aa s σ H Q I hq;refine wpAny_List_spliced (bG (h pos aa s σ H _ I hq) λus s1 ⟨xs,H1,I1,r,z,q⟩=>⟨by rw[<- r.length];exact z, ?_⟩);have hf:H1 s1.heap.objs.size=none:=I1.aT.fresh (bK _);refine⟨.ref s1.heap.objs.size,aP H1 s1.heap.objs.size (.lst xs),I1.laid (t':=s1.toks) (λb u e=>gy _ e) (bK _) ?_,rfl,q _ hf⟩;exact⟨z,us,0,r,jP _ rfl⟩
end
abbrev Sp:=List V->Hp->VK->XK->Prop
abbrev p9:=List Env->Hp->Shared->XK->Value->Shared->Prop
structure pf(P:Program)(w:World)(K:ah)(mg:Str->Option Value)(base:Heap)(A:Around)(outer:List Env)(s:Shared)(H:Hp):Prop where
 frames:A.frames=some outer
 mod:Mod K mg base
 bs:∀b o,base.get? b=some o->s.heap.get? b=some o/\H b=none
 oX:base.objs.size<=s.heap.objs.size
 mC:s.heap.FunFrames base outer
 qO:∀b∈lO outer,H b=none
 aT:gY P w H s.heap
 bare:um s.gens
def CE(outer:List Env)(P:Program)(w:World)(H:Hp)(s:Shared)(Q:VK)(u:Value)(s':Shared):Prop:=
 ∃v H',s'.os=s.os/\um s'.gens/\Un (lO outer) [] H H' s.heap s'.heap/\gY P w H' s'.heap/\RelV v u/\Q v H'
def CR(CX:p9)(outer:List Env)(P:Program)(w:World)(H:Hp)(s:Shared)(Q:VK)(E:XK)(r:Result)(s':Shared):Prop:=
 match r with
 |.ok (.ret u)=>CE outer P w H s Q u s'
 |.ok _=>False
 |.error e=>CX outer H s E e s'
structure b9(P:Program)(w:World)(K:ah)(mg:Str->Option Value)(base:Heap)(CX:p9)(k:Nat)(f:Addr)(fd:jY)(ps:List Str)(sp:Sp):Prop where
 len:∀vs H Q E,sp vs H Q E->vs.length=ps.length
 run:∀(A:Around) (outer:List Env) (s:Shared) (H:Hp) (args:Args) (us:List Value) (vs:List V) (Q:VK) (E:XK),fK k A->pf P w K mg base A outer s H->zB s fd args (ps.zip us)->bA vs us->sp vs H Q E->
  mx (model P w) A (.call (.ref f) args) (CR CX outer P w H s Q E) s
theorem b9.imp{P:Program}{w:World}{K:ah}{f:Addr}{sp KQ:Sp}(F:b9 P w K mg base CX k f fd ps sp)
  (h:∀vs H Q E,KQ vs H Q E->sp vs H Q E):b9 P w K mg base CX k f fd ps KQ:=
 ⟨λvs H Q E q=>F.len vs H Q E (h _ _ _ _ q),λA outer s H args us vs Q E hr he hb hv hs=>F.run A outer s H args us vs Q E hr he hb hv (h _ _ _ _ hs)⟩
theorem pf.make{P:Program}{w:World}{K:ah}{A:Around}{s:Shared}{H:Hp}(e:pf P w K mg base A outer s H)(C:Addr)(us:List Value)(kw:List (Str×Value)):
  pf P w K mg base (A.under (.builtin "type.__call__" ⟨.ref C::us,kw⟩)) outer s H:=⟨by first | exact e.frames | (simpa[Jz,Code.envs,R3,pushEnvs]using e.frames),e.mod,e.bs,e.oX,e.mC,e.qO,e.aT,e.bare⟩
theorem pf.in1{P:Program}{w:World}{K:ah}{A:Around}{s:Shared}{H:Hp}(e:pf P w K mg base A outer s H):
  pf P w K mg base A.in1 outer s H:=⟨e.frames,e.mod,e.bs,e.oX,e.mC,e.qO,e.aT,e.bare⟩
section
variable {X:Cx}{aa:List (Addr×Obj)}{σ:St}{H:Hp}{s s':Shared}
theorem Inv.DN(I:Inv X aa σ H s):pf X.prog X.w X.K X.mg X.base X.A X.stack s H:=
 ⟨I.ok.frames,I.ok.mod,I.bs,bW I.ok.oX I.sz,I.stack,I.JX,I.aT,I.bare⟩
theorem Inv.after{Q:VK}{u:Value}(I:Inv X aa σ H s)(h:CE X.stack X.prog X.w H s Q u s'):EP X aa σ Q u s':=by
 obtain⟨v,H',os,bare,un,aT,r,q⟩:=h;obtain⟨hh,g,d,t,DO⟩:=s';obtain rfl:DO=s.os:=os;exact⟨v,H',I.call (h':=hh) (g':=g) (d':=d) (t':=t) (ch:= []) un aT bare (λb z=>absurd z (by simp)),r,q⟩
end
def qc(sp:Sp)(jF:List V)(E:XK)(t:TA):TE:=λσ H Q=>t σ H λvs H1=>sp (vs++jF) H1 Q E
def uY(C:Addr)(m:Str)(sp:Sp)(jF:List V)(E:XK)(ta:TE)(t:TA):TE:=λσ H Q=>ta σ H λx H1=>∃a dx fs,x= .ref a/\H1 a=some (.ins C dx fs)/\fs.lookup m=none/\
 t σ H1 λvs H2=>sp (x::(vs++jF)) H2 Q E
def DP(C:Addr)(sp:Sp)(jF:List V)(E:XK)(t:TA):TE:=λσ H Q=>t σ H λvs H1=>∀x dx,H1 x=none->H1 dx=none->dx≠x->
 sp (.ref x::(vs++jF)) (aP (aP H1 dx (.own x)) x (.ins C dx [])) (λv H2=>v= .aJ/\Q (.ref x) H2) E
def Binds(K:ah)(fd:jY)(ps:List Str)(ds:List Value):Prop:=
 ∀(s:Shared) (us:List Value),K.In s.heap->(us++ds).length=ps.length->zB s fd ⟨us, []⟩ (ps.zip (us++ds))
theorem Binds.all{K:ah}{ps:List Str}(h:∀us:List Value,us.length=ps.length->bindArgs fd ⟨us, []⟩=pure (ps.zip us)):Binds K fd ps []:=λs us _ hl=>by
 rw[eW]at hl |-;exact .of_eq (h us hl)
def uj(CX:p9)(X:Cx)(E:XK):Prop:=∀(aa:List (Addr×Obj)) (σ:St) (H:Hp) (s:Shared) (e:Value) (s':Shared),Inv X aa σ H s->CX X.stack H s E e s'->X.xe e s'
section
variable {X:Cx}{k:Nat}{f C:Addr}{fd:jY}{ps:List Str}{sp:Sp}{E:XK}{x m:Str}{p pos iX:Pos}{e o:Expr}{es:List Expr}{t:TA}
theorem DQ{aa:List (Addr×Obj)}{σ:St}{H:Hp}{s:Shared}{Q:VK}{us:List Value}{vs:List V}(F:b9 X.prog X.w X.K X.mg X.base CX k f fd ps sp)(hr:fK k X.A)(hb:Binds X.K fd ps ds)(hd:bA jF ds)(hx:uj CX X E)
  (I:Inv X aa σ H s) (r:bA vs us) (h:sp (vs++jF) H Q E):wpAny (model X.prog X.w) X.A (call (.ref f) us) (EP X aa σ Q) X.xe s:=by
 have r2:bA (vs++jF) (us++ds):=r.append hd;have hl:(us++ds).length=ps.length:=by rw[<- r2.length];exact F.len _ _ _ _ h
 refine Jd (C1 (F.run X.A X.stack s H ⟨us, []⟩ (us++ds) (vs++jF) Q E hr I.DN (hb s us I.fP hl) r2 h) λr s' hq=> ?_);cases r with
 |error e=>exact hx aa σ H s e s' I hq
 |ok fl=>
  cases fl with
  |ret u=>exact I.after hq
  |next=>exact lN hq
  |brk=>exact lN hq
  |cont=>exact lN hq
theorem Ul(F:b9 X.prog X.w X.K X.mg X.base CX k f fd ps sp)(hr:fK k X.A)(hg:Gl X x)(hm:X.mg x=some (.ref f))(hk:uC X.K (.ref f)=true)(hb:Binds X.K fd ps ds)(hd:bA jF ds)(hx:uj CX X E)
  (ha:PA X (e::es) t) (mF:(x == ("__debug__":Str))=false:=by decide) (he:cD (e::es) X.env=(false,eval e X.env)::cD es X.env:=by rfl) (df:(backTo pos (cD es X.env)).any (·.1)=false:=by rfl):
  PE X (.Call (.Name x p) (e::es) [] pos) (qc sp jF E t):=by
 intro aa s σ H Q I h;refine C2 (Dy I hg hm ?_ mF);refine R5 (h₀:=X.base) I.ok.mod.xb hk (bG (ha pos aa s σ H _ I h) λus s1 ⟨vs,H1,I1,r,q⟩=>⟨I1.fP, ?_⟩) he df;exact DQ F hr hb hd hx I1 r q
theorem Um{pl:Sem Bool}(he:PE X o ta)(c:kT X.K C)(hm:CY X.K C m f)(F:b9 X.prog X.w X.K X.mg X.base CX k f fd ps sp)(hr:fK k X.A)(hb:Binds X.K fd ps ds)(hd:bA jF ds)(hx:uj CX X E)(ha:PA X (e::es) t)
  (sG:cD (e::es) X.env=(false,eval e X.env)::cD es X.env:=by rfl) (df:(backTo pos (cD es X.env)).any (·.1)=false:=by rfl)
  (ht:eval (.Call (.Attribute o m iX) (e::es) [] pos) X.env=(do
   let ov <- eval o X.env
   zv iX.atName
   let (f,first) <- holding [ov] (zA ov m pl)
   Je pos f first (backTo pos (cD (e::es) X.env)) (wC pos (wF [] X.env))):=by rfl):
  PE X (.Call (.Attribute o m iX) (e::es) [] pos) (uY C m sp jF E ta t):=by
 intro aa s σ H Q I h;refine W.methodCall_KW (pl:=pl) (bG (he aa s σ H _ I h) λu s1 ⟨x,H1,I1,rx,a,dx,fs,ex,ea,l,q⟩=> ?_) ht;subst ex;obtain rfl:u=gw a:=rx;refine KP I1 ea c hm l ?_;refine R5 (first:= [.ref a]) (h₀:=X.base) I.ok.mod.xb hm.kp (bG (ha pos aa s1 σ H1 _ I1 q) λus s2 ⟨vs,H2,I2,r,q2⟩=>⟨I2.fP, ?_⟩) sG df;exact DQ (us:= .ref a::us) (vs:= .ref a::vs) F hr hb hd hx I2 (.cons rfl r) q2
theorem Uo{pl:Sem Bool}(he:PE X o ta)(c:kT X.K C)(hm:CY X.K C m f)(F:b9 X.prog X.w X.K X.mg X.base CX k f fd ps sp)(hr:fK k X.A)(hb:Binds X.K fd ps ds)(hd:bA jF ds)(hx:uj CX X E)
  (ht:eval (.Call (.Attribute o m iX) [] [] pos) X.env=(do
   let ov <- eval o X.env
   zv iX.atName
   let (f,first) <- holding [ov] (zA ov m pl)
   Je pos f first (backTo pos (cD [] X.env)) (wC pos (wF [] X.env))):=by rfl):
  PE X (.Call (.Attribute o m iX) [] [] pos) (uY C m sp jF E ta g7):=by
 intro aa s σ H Q I h;refine W.methodCall_KW (pl:=pl) (bG (he aa s σ H _ I h) λu s1 ⟨x,H1,I1,rx,a,dx,fs,ex,ea,l,q⟩=> ?_) ht;subst ex;obtain rfl:u=gw a:=rx;refine KP I1 ea c hm l ?_;exact W.callWith_K0 (first:= [.ref a]) I1.fP hm.kp (DQ (us:= [.ref a]) (vs:= [.ref a]) F hr hb hd hx I1 (.cons rfl .nil) q)
structure Mk(K:ah)(C f:Addr):Prop where
 makes:W.makesIn K C=true
 init:kL K (.ref C) "__init__"=some (some (.ref f))
 fn:rZ K (.ref f)=true
 kp:uC K (.ref C)=true
theorem Up{aa:List (Addr×Obj)}{σ:St}{H:Hp}{s:Shared}{Q:VK}{us:List Value}{vs:List V}(M:Mk X.K C f)(F:b9 X.prog X.w X.K X.mg X.base CX k f fd ps sp)(hr:fK (k + 1) X.A)(hb:Binds X.K fd ps ds)(hd:bA jF ds)
  (hx:uj CX X E) (I:Inv X aa σ H s) (r:bA vs us)
  (h:∀x dx,H x=none->H dx=none->dx≠x->sp (.ref x::(vs++jF)) (aP (aP H dx (.own x)) x (.ins C dx [])) (λv H2=>v= .aJ/\Q (.ref x) H2) E):
  wpAny (model X.prog X.w) X.A (call (.ref C) us) (EP X aa σ Q) X.xe s:=by
 have hq:=h (s.heap.objs.size + 1) s.heap.objs.size (I.aT.fresh (j0 _)) (I.aT.fresh (bK _)) (jh (C7 _));have I2:=Inv.made (C:=C) I;have r2:bA (V.ref (s.heap.objs.size + 1)::(vs++jF)) (gw (s.heap.objs.size + 1)::(us++ds)):= .cons rfl (r.append hd);have hl:(gw (s.heap.objs.size + 1)::us++ds).length=ps.length:=by
  have e:=r2.length;rw[F.len _ _ _ _ hq]at e;exact e.symm
 refine Jd (T9 (f:=f) I.fP M.makes M.init (beq_iff_eq.mp M.fn) (C1 (F.run _ X.stack _ _ ⟨gw (s.heap.objs.size + 1)::us, []⟩ (gw (s.heap.objs.size + 1)::(us++ds)) _ _ E (hr.make C us [])
  (I2.DN.make C us []) (hb _ (gw (s.heap.objs.size + 1)::us) I2.fP hl) r2 hq) λr s' xr=> ?_))
 cases r with
 |error e=>exact hx aa σ _ _ e s' I2 xr
 |ok fl=>
  cases fl with
  |ret u=>
   obtain⟨v,H',I3,rv,ev,q3⟩:=I2.after xr;subst ev;exact⟨rv,⟨V.ref (s.heap.objs.size + 1),H',I3,rfl,q3⟩⟩
  |next=>exact lN xr
  |brk=>exact lN xr
  |cont=>exact lN xr
theorem Uq(M:Mk X.K C f)(F:b9 X.prog X.w X.K X.mg X.base CX k f fd ps sp)(hr:fK (k + 1) X.A)(hg:Gl X x)(hm:X.mg x=some (.ref C))(hb:Binds X.K fd ps ds)(hd:bA jF ds)(hx:uj CX X E)
  (ha:PA X (e::es) t) (mF:(x == ("__debug__":Str))=false:=by decide) (he:cD (e::es) X.env=(false,eval e X.env)::cD es X.env:=by rfl) (df:(backTo pos (cD es X.env)).any (·.1)=false:=by rfl):
  PE X (.Call (.Name x p) (e::es) [] pos) (DP C sp jF E t):=by
 intro aa s σ H Q I h;refine C2 (Dy I hg hm ?_ mF);refine R5 (h₀:=X.base) I.ok.mod.xb M.kp (bG (ha pos aa s σ H _ I h) λus s1 ⟨vs,H1,I1,r,q⟩=>⟨I1.fP, ?_⟩) he df;exact Up M F hr hb hd hx I1 r q
end
section
variable {X:Cx}{k:Nat}{f C:Addr}{fd:jY}{ps ks:List Str}{sp:Sp}{E:XK}{x m:Str}{p pos iX aeL:Pos}{e o:Expr}{es:List Expr}{te ta:TE}{t tk:TA}
end
structure eK(N P:List Str)(sc:Scope):Prop where
 kind:sc.kind= .function
 co:sc.isCoroutine=false
 gen:sc.isGenerator=false
 nd:N.Nodup
 pre:N.take P.length=P
 par:∀x∈P,sc.names.lookup x=some .local\/sc.names.lookup x=some .cell
 Ur:∀y∈sc.names,y.2≠ .free
theorem KR{kindOf:Str->Option dE}{x:Str}:∀{binds:List (Str×Value)} {m:Str->Option Value},(∀v,(x,v)∉binds)->bindL kindOf binds m x=m x
 | [],_,_=>rfl
 |(n,v)::r,m,h=>by
  unfold bindL;rw[KR λw hw=>h w (jZ _ hw)]
  split
  ·have:x≠n:=by rintro rfl;exact h v mY
   simp[this]
  ·rfl
theorem KS{kindOf:Str->Option dE}{x:Str}:∀{binds:List (Str×Value)} {m:Str->Option Value},(∀v,(x,v)∉binds)->bindC kindOf binds m x=m x
 | [],_,_=>rfl
 |(n,v)::r,m,h=>by
  unfold bindC;rw[KS λw hw=>h w (jZ _ hw)]
  split
  ·rfl
  ·have:x≠n:=by rintro rfl;exact h v mY
   simp[this]
theorem KU{kindOf:Str->Option dE}{x:Str}{v:Value}:∀{P:List Str} {vs:List Value} {i:Nat} {m:Str->Option Value},P.Nodup->P[i]?=some x->vs[i]?=some v->kindOf x=some .local->
  bindL kindOf (P.zip vs) m x=some v
 | [],_,_,_,_,h,_,_=>by simp at h
 |_::_, [],_,_,_,_,h,_=>by simp at h
 |p::P,w::vs,0,m,nd,h1,h2,hk=>by
  simp at h1 h2;subst h1;subst h2;show bindL kindOf ((p,w)::P.zip vs) m p=_;unfold bindL;rw[KR λv hv=>(nI.mp nd).1 (R6 hv).1,if_pos hk];simp
 |p::P,w::vs,i + 1,m,nd,h1,h2,hk=>by
  show bindL kindOf ((p,w)::P.zip vs) m x=_;unfold bindL;exact KU (i:=i) (nI.mp nd).2 (by simpa using h1) (by simpa using h2) hk
theorem KW{kindOf:Str->Option dE}{x:Str}{v:Value}:∀{P:List Str} {vs:List Value} {i:Nat} {m:Str->Option Value},P.Nodup->P[i]?=some x->vs[i]?=some v->kindOf x≠some .local->
  bindC kindOf (P.zip vs) m x=some v
 | [],_,_,_,_,h,_,_=>by simp at h
 |_::_, [],_,_,_,_,h,_=>by simp at h
 |p::P,w::vs,0,m,nd,h1,h2,hk=>by
  simp at h1 h2;subst h1;subst h2;show bindC kindOf ((p,w)::P.zip vs) m p=_;unfold bindC;rw[KS λv hv=>(nI.mp nd).1 (R6 hv).1,if_neg hk];simp
 |p::P,w::vs,i + 1,m,nd,h1,h2,hk=>by
  show bindC kindOf ((p,w)::P.zip vs) m x=_;unfold bindC;exact KW (i:=i) (nI.mp nd).2 (by simpa using h1) (by simpa using h2) hk
def start(N:List Str)(vs:List V):St:=vs.map some++gL (N.length - vs.length) none
def q9(CX:p9)(P:Program)(w:World)(K:ah)(mg:Str->Option Value)(base:Heap)(N:List Str)(qual:Str)(scope:Scope)(f:Addr)(cd:Value)(A:Around)(outer:List Env)(s:Shared)(H:Hp)(E:XK):Cx where
 prog:=P
 w:=w
 K:=K
 mg:=mg
 base:=base
 A:=A.deeper (envOfC qual scope s.heap.objs.size f cd)
 N:=N
 iP:=s
 xc:=H
 env:=envOfC qual scope s.heap.objs.size f cd
 outer:=outer
 stack:=envOfC qual scope s.heap.objs.size f cd::outer
 ex:= []
 calm:=true
 fn:=λ_=>true
 pn:= []
 xe:=λe s'=>wpAny (model P w) (A.deeper (envOfC qual scope s.heap.objs.size f cd)) (leaving (envOfC qual scope s.heap.objs.size f cd) e) (λ_ DR=>CX outer H s E e DR) (λe' DR=>CX outer H s E e' DR) s'
theorem KY{sc:Scope}{x:Str}(h:sc.names.lookup x=some .cell):∃c,(mU n sc.names []).lookup x=some c:=by
 have q:=W.cellsFrom_some sc.names n [] (.inl h);exact R7.mp q
theorem Us{CX:p9}{P:Program}{w:World}{K:ah}{mg:Str->Option Value}{base:Heap}{N ps:List Str}{qual:Str}{scope:Scope}{f:Addr}{cd:Value}{A:Around}{outer:List Env}{s s1:Shared}{H:Hp}{E:XK}{us:List Value}{vs:List V}
  (S:eK N ps scope) (hd:A.handled=none) (e0:pf P w K mg base A outer s H) (hl:vs.length=ps.length) (r:bA vs us)
  (x:InCallC s s.heap.objs.size (bindL (envOfC qual scope s.heap.objs.size f cd).kindOf (ps.zip us) λ_=>none) (mU (s.heap.objs.size + 1) scope.names []) (bindC (envOfC qual scope s.heap.objs.size f cd).kindOf (ps.zip us) λ_=>none) s1):
  Inv (q9 CX P w K mg base N qual scope f cd A outer s H E) [] (start N vs) H s1:=by
 have df:ps.length<=N.length:=by have:=congrArg List.length S.pre;rw[wO]at this;lia
 obtain⟨h1,tk,rfl,hk⟩:=x.done;have sP:∀b:Addr,b∉(q9 CX P w K mg base N qual scope f cd A outer s H E).ex:=λb z=>absurd (show b∈([]:List Addr) from z) (by simp);refine⟨⟨e0.mod,S.kind,rfl,rfl,bK _,λy z c h1 h2=> ?_,λy hy=> ?_,λy c _ h=> ?_,λ_=>hd,Around.frames_deeper e0.frames, .inr ⟨rfl,rfl⟩,λb z=>absurd z (sP b),e0.bs,e0.oX,λb _ _=>sP b,λb z=>absurd z (sP b),e0.mC,e0.qO⟩,
  rfl,e0.bare,Un.kept hk,⟨_,x.toInCall.ns,λi y v h1 h2 h3=> ?_⟩,λy c h=>⟨_,x.cell y c h⟩,e0.aT.fresh (bK _),λy c h=> ?_,λp hp=>absurd (show p∈([]:List (Addr×Obj)) from hp) (by simp),e0.aT.kept hk, ?_⟩
 ·exact name_of_addr x.apart (uE h1) (uE h2)
 ·have hy:scope.names.lookup y=some .cell\/scope.names.lookup y=some .free:=hy;rcases hy with hy | hy
  ·exact KY hy
  ·exact absurd rfl (S.Ur _ (uE hy))
 ·exact rY (x.above y c (uE h))
 ·have hi:i < vs.length:=by
   unfold start at h2;by_cases hi:i < vs.length
   ·exact hi
   ·rw[bI (by simpa using hi)]at h2;rw[C8]at h2
    split at h2 <;> cases h2
  have ha:vs[i]?=some v:=by
   unfold start at h2;rw[ba (by simpa using hi),dF]at h2;cases e:vs[i]? with
   |none=>rw[e]at h2;cases h2
   |some a=>rw[e]at h2;cases h2;rfl
  obtain⟨u,hu,rv⟩:=r.get ha;have hp:ps[i]?=some y:=by
   rw[<- S.pre,R8 (by lia)];exact h1
  have KZ:ps.Nodup:=by rw[<- S.pre];exact S.nd.sublist (List.take_sublist _ _)
  refine⟨u,rv, ?_⟩;rcases S.par y (gk hp) with k | k
  ·exact .inl ⟨k,KU KZ hp hu k⟩
  ·obtain⟨c,e⟩:=KY (n:=s.heap.objs.size + 1) k;refine .inr ⟨.inl k,c,e, ?_⟩;have q:=x.cell y c e;rw[KW KZ hp hu (by show scope.names.lookup y≠_;rw[k];decide)]at q;exact q
 ·exact e0.aT.fresh (rY (x.above y c (uE h)))
 ·unfold start;show _=N.length;rw[bQ,dC,wQ]
  lia
theorem Uu{CX:p9}{P:Program}{w:World}{K:ah}{mg:Str->Option Value}{base:Heap}{k:Nat}{f:Addr}{name qual:Str}{params:Arguments}{body:List Stmt}{scope:Scope}{dV kV doc pm eO ct oc:Value}{an od:Option Addr}
  {nQ:Array (Option Value)} {N ps:List Str} {sp:Sp} (lk:K.lookup f=some ⟨oc,od, .func (pU name qual params body scope dV kV doc pm an eO ct),nQ⟩) (nN:C9 K eO qual=true) (S:eK N ps scope)
  (len:∀vs H Q E,sp vs H Q E->vs.length=ps.length)
  (DS:∀(A:Around) (outer:List Env) (s:Shared) (H:Hp) (vs:List V) (Q:VK) (E:XK),fK k (A.deeper (envOfC qual scope s.heap.objs.size f eO))->sp vs H Q E->
   ∃t,kP (q9 CX P w K mg base N qual scope f eO A outer s H E) body t/\t { nx:=λ_ H'=>Q .aJ H',rt:=Q } (start N vs) H):
  b9 P w K mg base CX (k + 1) f (pU name qual params body scope dV kV doc pm an eO ct) ps sp:=by
 refine⟨len,λA outer s H args us vs Q E hr e0 hb r rf=> ?_⟩;have hl:=len _ _ _ _ rf;have KX:K.In s.heap:=e0.mod.xb.keeps λb o e=>(e0.bs b o e).1;have lim:s.heap.NoLimit:=e0.mod.nolimit.keeps λb o e=>(e0.bs b o e).1;have nR:∀y∈ps.zip us,scope.names.lookup y.1=some .local\/(scope.names.lookup y.1=some .cell/\((mU (s.heap.objs.size + 1) scope.names []).lookup y.1).isSome=true):=λ⟨n,v⟩ hy=>by
  rcases S.par n (R6 hy).1 with q | q
  ·exact .inl q
  ·exact .inr ⟨q,W.cellsFrom_some _ _ _ (.inl q)⟩
 refine codeAny_call_function hr.depth (KX _ _ lk) rfl S.co S.gen rfl (W.codeRec_of KX nN) (hb _ _ _ _ ?_);refine wpAny_newFunctionEnv_cells S.kind nR λenv he s1 x=> ?_;subst he;refine⟨lim.keeps x.toInCall.keep,codeAny_func ?_⟩;obtain⟨t,ht,hq⟩:=DS A outer s H vs Q E (hr.deeper _) rf;have I:Inv (q9 CX P w K mg base N qual scope f eO A outer s H E) [] (start N vs) H s1:=Us S hr.hd e0 hl r x;refine lr (ht [] s1 (start N vs) H _ I hq) (λfl s' hs=> ?_) λe s' hs=>hs;have cL:∀{aO:St} {H':Hp} {v:V} {u:Value},Inv (q9 CX P w K mg base N qual scope f eO A outer s H E) [] aO H' s'->RelV v u->Q v H'->CE outer P w H s Q u s':=
  λ{aO H' v u} J rv q=>⟨v,H',J.os,J.bare,J.base,J.aT,rv,q⟩
 cases fl with
 |ret u=>
  obtain⟨v,aO,H',J,rv,q⟩:=hs;exact cL J rv q
 |next=>
  obtain⟨aO,H',J,q⟩:=hs;exact cL (v:=V.aJ) (u:=C5) J rfl q
 |brk=>
  obtain⟨_,_,_,q⟩:=hs;exact lN q
 |cont=>
  obtain⟨_,_,_,q⟩:=hs;exact lN q
end L2
namespace L2
open PySem PySem.Spec PyProof.Rows
section
variable {X:Cx}{x:Str}{p pos:Pos}{e:Expr}{es:List Expr}{t:TA}{id T:String}{r:List V->Hp->VK->Prop}
def kW(r:List V->Hp->VK->Prop)(t:TA):TE:=λσ H Q=>t σ H λvs H1=>r vs H1 Q
theorem ly(hc:i5 X (.builtin id) r)(hg:Gl X x)(hm:X.mg x=none)(hv:zu x=some (.builtin id))(ha:PA X (e::es) t)(hn:x≠"__name__":=by decide)(mF:(x == ("__debug__":Str))=false:=by decide)
  (he:cD (e::es) X.env=(false,eval e X.env)::cD es X.env:=by rfl) (df:(backTo pos (cD es X.env)).any (·.1)=false:=by rfl):PE X (.Call (.Name x p) (e::es) [] pos) (kW r t):=by
 intro aa s σ H Q I h;refine C2 (uM I hg hm hv ?_ hn mF);exact PyProof.Rows.callWith_builtin1 (bG (ha pos aa s σ H _ I h) λus s1 ⟨vs,H1,I1,r1,q1⟩=>hc aa s1 σ H1 vs us Q I1 r1 q1) he df
theorem AD(hc:i5 X (.type T) r)(hg:Gl X x)(hm:X.mg x=none)(hv:zu x=some (.type T))(ha:PA X (e::es) t)(hn:x≠"__name__":=by decide)(mF:(x == ("__debug__":Str))=false:=by decide)
  (he:cD (e::es) X.env=(false,eval e X.env)::cD es X.env:=by rfl) (df:(backTo pos (cD es X.env)).any (·.1)=false:=by rfl):PE X (.Call (.Name x p) (e::es) [] pos) (kW r t):=by
 intro aa s σ H Q I h;refine C2 (uM I hg hm hv ?_ hn mF);exact RV (bG (ha pos aa s σ H _ I h) λus s1 ⟨vs,H1,I1,r1,q1⟩=>hc aa s1 σ H1 vs us Q I1 r1 q1) he df
end
end L2
namespace HT
open PySem PyProof.Rows
section
open PySem.SeqAt
open PySem.AutoSeq1 (wpAny_loadPart')
open PySem.MeetsSeq PySem.MeetsSeq2 PySem.MeetsSeq3
end
section
variable {prog:Program}{w:World}{A:Around}{E:Value->Shared->Prop}{s:Shared}
theorem Uv{t b:Addr}{vs ws:List Value}{Q:Value->Shared->Prop}(ht:IsTup s.heap t vs.toArray)(hb:IsTup s.heap b ws.toArray)(hv:vs≠ [])
  (h1:ws= []->Q (.ref t) s) (h2:ws≠ []->Q (.ref s.heap.objs.size) { s with heap:=s.heap.push { cls:= .type "tuple",data:= .seq (vs++ws).toArray } })
  (hsz:vs.length + ws.length<=aK):wpAny (model prog w) A (mw .Add (.ref t) (.ref b)) Q E s:=by
 obtain⟨⟨cls,dd,data,sl⟩,ho,hc,n,hd⟩:=id ht;obtain⟨⟨K0,rg,data2,i7⟩,ph,g8,n2,hd2⟩:=id hb;simp only at hc hd g8 hd2;subst hc hd g8 hd2;have e:vs.toArray++ws.toArray=(vs++ws).toArray:=by simp
 by_cases hw:ws= []
 ·exact RJ ⟨_,ho,rfl⟩ ⟨_,ph,rfl⟩ noFill_tuple_add seq_tuple_add adV adW (adX _ _)
   (tuple_addW1 t b vs.toArray ws.toArray n n2 dd rg sl i7 (by simpa using hv) (by simp[hw])) ⟨ho,ph,h1 hw⟩
 ·refine RJ ⟨_,ho,rfl⟩ ⟨_,ph,rfl⟩ noFill_tuple_add seq_tuple_add adV adW (adX _ _)
   (tuple_addW2 t b vs.toArray ws.toArray n n2 dd rg sl i7 (by simpa using hv) (by simpa using hw) (by rw[fY,fY];exact hsz)) ⟨ho,ph, ?_⟩
  rw[e];exact h2 hw
def bO(n d:Nat):Option Int->Nat
 |none=>d
 |some v=>if v < 0 then(v + (n:Int)).toNat else min v.toNat n
theorem DT(n d:Nat):bO n d none=d:=rfl
theorem K5(n d k:Nat):bO n d (some (k:Int))=min k n:=by
 show(if(k:Int) < 0 then((k:Int) + (n:Int)).toNat else min (k:Int).toNat n)=min k n;rw[if_neg (by lia),Aa]
theorem Uw(n d:Nat)(hd:d<=n)(o:Option Int):bO n d o<=n:=by
 cases o with
 |none=>exact hd
 |some v=>
  show(if v < 0 then(v + (n:Int)).toNat else min v.toNat n)<=n;by_cases hv:v < 0
  ·rw[if_pos hv];lia
  ·rw[if_neg hv];exact Nat.min_le_right _ _
theorem K6(v:Int)(n d:Nat):(if v < 0 then max (v + (n:Int)) 0 else min v (n:Int))=((bO n d (some v):Nat):Int):=by
 show(if v < 0 then max (v + (n:Int)) 0 else min v (n:Int))=(((if v < 0 then(v + (n:Int)).toNat else min v.toNat n):Nat):Int);by_cases hv:v < 0
 ·simp only[if_pos hv];lia
 ·simp only[if_neg hv];lia
theorem Ux(lo hi:Option Int)(n:Nat):R9 lo hi 1 (n:Int)=(((bO n 0 lo:Nat):Int),((bO n n hi:Nat):Int)):=by
 have h1:¬ ((1:Int) < 0):=by lia
 unfold R9;simp only[h1,if_false];refine Prod.ext ?_ ?_
 ·cases lo with
  |none=>rfl
  |some v=>exact K6 v n 0
 ·cases hi with
  |none=>rfl
  |some v=>exact K6 v n n
theorem Uy(i j:Nat):JA (i:Int) (j:Int) 1=j - i:=by
 unfold JA;have h1:(1:Int) > 0:=by lia
 simp only[h1,if_true,Int.ediv_one]
 split <;> lia
theorem K7{v:Value}{o:Option Int}{Q:Option Int->Shared->Prop}(p:IsPart v o)(h:Q o s):wpAny (model prog w) A (Builtin.Slice.slicePartIndex v) Q E s:=by
 cases p with
 |none=>exact slicePart_none h
 |int i t=>exact slicePart_int h
theorem K8{sl:Addr}{vl vu:Value}{lo hi:Option Int}{n:Nat}{Q:Int×Int×Nat->Shared->Prop}(hs:s.heap.IsSliceOf sl vl vu .none)(pl:IsPart vl lo)(pu:IsPart vu hi)
  (h:Q (((bO n 0 lo:Nat):Int),1,bO n n hi - bO n 0 lo) s):wpAny (model prog w) A (adY (.ref sl) (pure (n:Int))) Q E s:=by
 obtain⟨os,sQ,xt,sR⟩:=id hs;unfold adY Builtin.Slice.sliceFields;refine aW (aW (RK sQ sR (x:=vl) rfl (aW (RK sQ sR (x:=vu) rfl (aW (RK sQ sR (x:= .none) rfl (cJ ?_)))))));refine aW (slicePart_none ?_);show wpAny _ _ (if((1:Int) == 0)=true then _ else _) _ _ s;rw[if_neg (by decide)];refine aW (K7 pl (aW (K7 pu (aW (cJ ?_)))));show wpAny _ _ (match R9 lo hi 1 (n:Int) with | (lo,hi)=>pure (lo,(1:Int),JA lo hi 1)) _ _ s;rw[Ux lo hi n];show wpAny _ _ (pure (((bO n 0 lo:Nat):Int),(1:Int),JA ((bO n 0 lo:Nat):Int) ((bO n n hi:Nat):Int) 1)) _ _ s;rw[Uy];exact cJ h
theorem Uz(xs:Array Value)(i k:Nat):((lx k).filterMap λ(m:Nat)=>xs[((i:Int) + (m:Int) * 1).toNat]?).toArray=((xs.toList.drop i).take k).toArray:=by
 have e:(λ(m:Nat)=>xs[((i:Int) + (m:Int) * 1).toNat]?)=λm=>xs[i + m]?:=by
  funext m;have:((i:Int) + (m:Int) * 1).toNat=i + m:=by lia
  rw[this]
 rw[e];have:=pick_run xs i k;rw[List.filterMap_map]at this;have e2:((λx=>xs[x]?) ∘ λx=>i + x)=λm=>xs[i + m]?:=rfl;rw[e2]at this;rw[this]
theorem UA{t sl:Addr}{items:Array Value}{vl vu:Value}{lo hi:Option Int}{Q:Value->Shared->Prop}(ht:IsTup s.heap t items)(hs:s.heap.IsSliceOf sl vl vu .none)(pl:IsPart vl lo)(pu:IsPart vu hi)
  (hw:¬ (bO items.size 0 lo=0/\bO items.size items.size hi=items.size))
  (h:Q (.ref s.heap.objs.size) { s with heap:=s.heap.push { cls:= .type "tuple",data:= .seq ((items.toList.drop (bO items.size 0 lo)).take (bO items.size items.size hi - bO items.size 0 lo)).toArray } })
  (hsz:items.size<=aK):wpAny (model prog w) A (uv (.ref t) (.ref sl)) Q E s:=by
 have AE:sizeOk (.seq ((items.toList.drop (bO items.size 0 lo)).take (bO items.size items.size hi - bO items.size 0 lo)).toArray):=by
  show((items.toList.drop (bO items.size 0 lo)).take (bO items.size items.size hi - bO items.size 0 lo)).toArray.size<=aK;rw[fY,wO,wR,Js]
  lia
 have hj:bO items.size items.size hi<=items.size:=Uw _ _ (bK _) hi;obtain⟨os,sQ,xt,sR⟩:=id hs;have DU:s.TypeIs (.ref sl) "slice":=⟨os,sQ,xt⟩
 unfold uv
 try with_reducible refine qL ?_
 first | refine aW (cJ ?_) | skip
 refine aW (wpAny_sequenceKey ht.typeIs (by decide) ?_);refine aW (adJ (name:=af "__getitem__") ht.typeIs Ab
  (wpAny_call_entry Ab ht.typeIs adK ?_ (args_tuple_getitem _ _)))
 show wpAny _ _ (adZ (.ref t) >>= _) _ _ s;refine aW (tupleItemsOf_ ht ?_);refine aW (RL DU ?_);rw[if_pos (by decide)];refine aW (K8 hs pl pu ?_);have DV:¬ ((((bO items.size 0 lo:Nat):Int) == 0 && (1:Int) == 1 && (bO items.size items.size hi - bO items.size 0 lo) == items.size)=true):=by
  intro q;rw[pV,pV]at q;have q1:((bO items.size 0 lo:Nat):Int)=0:=eq_of_beq q.1.1;have q2:bO items.size items.size hi - bO items.size 0 lo=items.size:=eq_of_beq q.2;exact hw ⟨by lia,by lia⟩
 show wpAny _ _ (if(((bO items.size 0 lo:Nat):Int) == 0 && (1:Int) == 1 && (bO items.size items.size hi - bO items.size 0 lo) == items.size)=true then _ else _) _ _ s;rw[if_neg DV,Uz]
 first
  |exact aW (m:=JB _) (wG (cJ ⟨_,rfl,cJ h⟩) AE)
  |exact aW (m:=JB _) (wG (aW (cJ (cJ ⟨_,rfl,cJ h⟩))) AE)
  |exact aW (aW (m:=JB _) (wG (cJ (cJ ⟨_,rfl,cJ h⟩)) AE))
  |exact aW (aW (m:=JB _) (wG (cJ ⟨_,rfl,cJ h⟩) AE))
end
end HT
namespace L2
open PySem PySem.Spec PyProof.Rows
abbrev TO:=St->Hp->(Option Int->Hp->Prop)->Prop
def PO(X:Cx)(e:Option Expr)(t:TO):Prop:=
 ∀(aa:List (Addr×Obj)) (s:Shared) (σ:St) (H:Hp) (Q:Option Int->Hp->Prop),Inv X aa σ H s->t σ H Q->
  wpAny (model X.prog X.w) X.A (evalPart e X.env) (λu s'=>∃o H',Inv X aa σ H' s'/\IsPart u o/\Q o H') X.xe s
def DW:TO:=λ_ H Q=>Q none H
def DX(t:TE):TO:=λσ H Q=>t σ H λx H1=>∃i,x= .int i/\Q (some i) H1
section
variable {X:Cx}{e:Expr}{te:TE}{lo hi:Option Expr}{tl th:TO}{pos p2:Pos}
theorem rh:PO X none DW:=by
 intro aa s σ H Q I h;rw[evalPart_none];exact cJ ⟨none,H,I, .none,h⟩
theorem rj(h:PE X e te):PO X (some e) (DX te):=by
 intro aa s σ H Q I hw;rw[evalPart_some];refine bG (h aa s σ H _ I hw) λu s1 ⟨x,H1,I1,r1,q1⟩=> ?_;obtain⟨i,rfl,q⟩:=q1;obtain⟨t,rfl⟩:=r1;exact⟨some i,H1,I1, .int i t,q⟩
def mG(X:Cx)(r:V->Option Int->Option Int->Hp->VK->Prop):Prop:=
 ∀(aa:List (Addr×Obj)) (s:Shared) (σ:St) (H:Hp) (x:V) (v vl vu:Value) (lo hi:Option Int) (sl:Addr) (Q:VK),Inv X aa σ H s->RelV x v->s.heap.IsSliceOf sl vl vu .none->IsPart vl lo->IsPart vu hi->r x lo hi H Q->
  ∃T id,typeLookup (.type T) "__getitem__"=pure (some (.builtin id))/\s.TypeIs v T/\wpAny (model X.prog X.w) X.A (uv v (.ref sl)) (EP X aa σ Q) X.xe s
theorem mG.or{r r':V->Option Int->Option Int->Hp->VK->Prop}(h:mG X r)(h':mG X r'):mG X (λx lo hi H Q=>r x lo hi H Q\/r' x lo hi H Q):=by
 intro aa s σ H x v vl vu lo hi sl Q I rx hs pl pu q;rcases q with q | q
 ·exact h aa s σ H x v vl vu lo hi sl Q I rx hs pl pu q
 ·exact h' aa s σ H x v vl vu lo hi sl Q I rx hs pl pu q
def AF(r:V->Option Int->Option Int->Hp->VK->Prop)(te:TE)(tl th:TO):TE:=λσ H Q=>te σ H λx H1=>tl σ H1 λl H2=>th σ H2 λu H3=>r x l u H3 Q
theorem rm{r:V->Option Int->Option Int->Hp->VK->Prop}(hr:mG X r)(he:PE X e te)(hl:PO X lo tl)(hu:PO X hi th):PE X (.Subscript e (.Slice lo hi none p2) pos) (AF r te tl th):=by
 intro aa s σ H Q I h;refine Subscript_ (bG (he aa s σ H _ I h) λv s1 ⟨x,H1,I1,r1,q1⟩=> ?_);refine wpAny_Slice (bG (hl aa s1 σ H1 _ I1 q1) λvl s2 ⟨l,H2,I2,pl,q2⟩=>bG (hu aa s2 σ H2 _ I2 q2) λvu s3 ⟨u,H3,I3,pu,q3⟩=> ?_);rw[evalPart_none];refine cJ ?_;have I4:Inv X aa σ H3 { s3 with heap:=s3.heap.push { cls:= .type "slice",data:= .fields #[vl,vu, .none] } }:=I3.kept (t':=s3.toks) λb ob q=>gy _ q;obtain⟨T,id,hT,ht,hg⟩:=hr aa { s3 with heap:=s3.heap.push { cls:= .type "slice",data:= .fields #[vl,vu, .none] } } σ H3 x v vl vu l u s3.heap.objs.size Q I4 r1 (Heap.IsSliceOf.new ..) pl pu q3;show wpAny (model X.prog X.w) X.A (RM e (.Slice lo hi none p2) v (.ref s3.heap.objs.size)) (EP X aa σ Q) X.xe { s3 with heap:=s3.heap.push { cls:= .type "slice",data:= .fields #[vl,vu, .none] } };exact tail_any (ops:= [.ref s3.heap.objs.size,v]) ht hT hg (by with_unfolding_all rfl)
def uZ(xs:List V)(lo hi:Option Int):List V:=(xs.drop (HT.bO xs.length 0 lo)).take (HT.bO xs.length xs.length hi - HT.bO xs.length 0 lo)
theorem K9(xs:List V)(lo hi:Option Int):(uZ xs lo hi).length<=xs.length:=by
 unfold uZ;rw[wO,wR]
 lia
def Lc(K:ah):V->Option Int->Option Int->Hp->VK->Prop:=λx lo hi H Q=>∃a xs,x= .ref a/\cN K H a xs/\
 ¬ (HT.bO xs.length 0 lo=0/\HT.bO xs.length xs.length hi=xs.length)/\∀p,H p=none->Q (.ref p) (aP H p (.tup (uZ xs lo hi)))
theorem UB:mG X (Lc X.K):=by
 intro aa s σ H x v vl vu lo hi sl Q I rx hs pl pu h;obtain⟨a,xs,rfl,hx,hw,q⟩:=h;cases rx;obtain⟨ai,r,ht,hz⟩:=I.tuple hx;have cG:ai.toArray.size=xs.length:=by rw[fY];exact r.length.symm
 refine⟨"tuple",_,Ab.lookup,ht.typeIs, ?_⟩;refine HT.UA ht hs pl pu (by rw[cG];exact hw) ?_ (by rw[cG];exact hz);rw[cG];refine⟨.ref s.heap.objs.size,_,I.laid (t':=s.toks) (o:= .tup (uZ xs lo hi)) (λb ob q=>gy _ q) (bK _) ?_,rfl,q _ (I.aT.fresh (bK _))⟩;exact⟨bW (K9 xs lo hi) hz,_,(r.drop (HT.bO xs.length 0 lo)).take (HT.bO xs.length xs.length hi - HT.bO xs.length 0 lo),Sa _ _⟩
def Ld(K:ah):R2:=λx y H Q=>∃a b xs ys,x= .ref a/\y= .ref b/\cN K H a xs/\cN K H b ys/\xs≠ []/\xs.length + ys.length<=aK/\
 (ys= []->Q (.ref a) H)/\(ys≠ []->∀p,H p=none->Q (.ref p) (aP H p (.tup (xs++ys))))
theorem bA.DY{xs:List V}(r:bA xs us):us= []↔xs= []:=by
 cases r with
 |nil=>simp
 |cons _ _=>simp
theorem UC:dP X (mw .Add) (Ld X.K):=by
 intro aa s σ H x y v u Q I rx ry h;obtain⟨a,b,xs,ys,rfl,rfl,ha,hb,hx,hz,q1,q2⟩:=h;cases rx;cases ry;obtain⟨ai,r1,p1,_⟩:=I.tuple ha;obtain⟨pj,r2,p2,_⟩:=I.tuple hb;refine HT.Uv p1 p2 (λz=>hx (r1.DY.mp z)) (λz=>⟨.ref a,H,I,rfl,q1 (r2.DY.mp z)⟩) (λz=> ?_) (by rw[<- r1.length, <- r2.length];exact hz);refine⟨.ref s.heap.objs.size,_,I.laid (t':=s.toks) (o:= .tup (xs++ys)) (λb ob q=>gy _ q) (bK _) ?_,rfl,q2 (λw=>z (r2.DY.mpr w)) _ (I.aT.fresh (bK _))⟩;exact⟨by rw[bQ];exact hz,_,r1.append r2,Sa _ _⟩
end
end L2
namespace L2
open PySem PySem.Spec PyProof.Rows
def eX(n:Nat)(i:Int):Option Nat:=if 0<=i then(if i < n then some i.toNat else none) else if -(n:Int)<=i then some (i + n).toNat else none
def rn{α:Type}(xs:List α)(i:Int):Option α:=(eX xs.length i).bind λj=>xs[j]?
theorem Le(h:eX n i=some j):seqIndex? i n=some j/\j < n/\ -(n:Int)<=i/\i < n:=by
 unfold eX at h;by_cases h0:0<=i
 ·rw[if_pos h0]at h;by_cases h1:i < n
  ·rw[if_pos h1]at h;have e:i.toNat=j:=ka h;exact⟨by rw[RN h0 h1,e],by lia,by lia,h1⟩
  ·rw[if_neg h1]at h;cases h
 ·rw[if_neg h0]at h;by_cases h1: -(n:Int)<=i
  ·rw[if_pos h1]at h;have e:(i + n).toNat=j:=ka h;exact⟨by rw[RO (by lia) h1,e],by lia,h1,by lia⟩
  ·rw[if_neg h1]at h;cases h
theorem DZ{α:Type}{xs:List α}{v:α}(h:rn xs i=some v):∃j,seqIndex? i xs.length=some j/\xs[j]?=some v/\j < xs.length/\ -(xs.length:Int)<=i/\i < xs.length:=by
 unfold rn at h;cases e:eX xs.length i with
 |none=>rw[e]at h;cases h
 |some j=>
  rw[e]at h;obtain⟨h1,h2,h3,h4⟩:=Le e;exact⟨j,h1,h,h2,h3,h4⟩
def Lf(b:Expr):Prop:=∀o i,subscripted b false o i=operate [o,i] (uv o i)
def m5(X:Cx)(r:R2):Prop:=
 ∀(value slice:Expr) (aa:List (Addr×Obj)) (s:Shared) (σ:St) (H:Hp) (x y:V) (v u:Value) (Q:VK),Inv X aa σ H s->RelV x v->RelV y u->r x y H Q->
  subscripted slice false v u=operate [v,u] (uv v u)->wpAny (model X.prog X.w) X.A (RM value slice v u) (EP X aa σ Q) X.xe s
def D0(X:Cx)(id:String)(r:V->List V->Hp->VK->Prop):Prop:=
 ∀(aa:List (Addr×Obj)) (s:Shared) (σ:St) (H:Hp) (x:V) (xs:List V) (v:Value) (us:List Value) (Q:VK),Inv X aa σ H s->RelV x v->bA xs us->r x xs H Q->
  wpAny (model X.prog X.w) X.A (call (.builtin id) (v::us)) (EP X aa σ Q) X.xe s
section
variable {X:Cx}
theorem m5.or{r r':R2}(h:m5 X r)(h':m5 X r'):m5 X (λx y H Q=>r x y H Q\/r' x y H Q):=by
 intro value slice aa s σ H x y v u Q I rx ry q hs;rcases q with q | q
 ·exact h value slice aa s σ H x y v u Q I rx ry q hs
 ·exact h' value slice aa s σ H x y v u Q I rx ry q hs
theorem UD{r:R2}(hr:m5 X r)(ha:PE X a ta)(hb:PE X b tb)(hs:Lf b):PE X (.Subscript a b pos) (kQ r ta tb):=by
 intro aa s σ H Q I h;exact Subscript_ (DJ ha hb I h λv u s2 x y H2 I2 rx ry q=>hr a b aa s2 σ H2 x y v u Q I2 rx ry q (hs _ _))
def Lh(K:ah):R2:=λx y H Q=>∃p xs i v,x= .ref p/\y= .int i/\cc K H p xs/\rn xs i=some v/\Q v H
def Li(K:ah):R2:=λx y H Q=>∃p xs i v,x= .ref p/\y= .int i/\cN K H p xs/\rn xs i=some v/\Q v H
def Lk:R2:=λx y H Q=>∃z i c,x= .str z/\y= .int i/\z.length<=aK/\rn z.cps.toList i=some c/\Q (.str ⟨#[c]⟩) H
theorem UE:m5 X (Lh X.K):=by
 intro value slice aa s σ H x y v u Q I rx ry h hs;obtain⟨p,xs,i,z,rfl,rfl,hq,he,q⟩:=h;cases rx;obtain⟨t,rfl⟩:=ry;obtain⟨ai,r,pl,hz⟩:=I.list hq;obtain⟨j,h1,h2,h3,h4,h5⟩:=DZ he;obtain⟨w,ew,nS⟩:=r.get h2;have hl:=r.length;have hn:=sN;have cL:EP X aa σ Q w s:=⟨z,H,I,nS,q⟩
 by_cases h0:0<=i
 ·have hj:i.toNat=j:=by
   rw[RN h0 h5]at h1;exact ka h1
  exact item_listR pl.isList h0 (by lia) (by rw[hj];simpa using ew) cL hs
 ·have hj:(i + (ai.toArray.size:Int)).toNat=j:=by
   rw[RO (by lia) h4]at h1;rw[fY, <- hl];exact ka h1
  exact adL (x:=w) pl.isList.typeIs slot_list_getitem.lookup
   (wpAny_getItem_list_neg (Q:=λr s'=>r=w/\EP X aa σ Q r s') pl.isList (by lia) (by rw[fY]<;> lia) (by lia) (by rw[hj];simpa using ew) ⟨rfl,cL⟩) hs
theorem UG:m5 X (Li X.K):=by
 intro value slice aa s σ H x y v u Q I rx ry h hs;obtain⟨p,xs,i,z,rfl,rfl,hq,he,q⟩:=h;cases rx;obtain⟨t,rfl⟩:=ry;obtain⟨ai,r,pl,hz⟩:=I.tuple hq;obtain⟨j,h1,h2,h3,h4,h5⟩:=DZ he;obtain⟨w,ew,nS⟩:=r.get h2;have hl:=r.length;have hn:=sN;have cL:EP X aa σ Q w s:=⟨z,H,I,nS,q⟩
 exact adL (x:=w) pl.typeIs slot_tuple_getitem.lookup
  (getItem_tuple (j:=j) (Q:=λr s'=>r=w/\EP X aa σ Q r s') pl (by lia) (by lia) (by rw[fY, <- hl];exact h1) (by simpa using ew) ⟨rfl,cL⟩) hs
theorem UH:m5 X Lk:=by
 intro value slice aa s σ H x y v u Q I rx ry h hs;obtain⟨z,i,c,rfl,rfl,hz,he,q⟩:=h;obtain⟨t,rfl⟩:=rx;obtain⟨t',rfl⟩:=ry;obtain⟨j,h1,h2,h3,h4,h5⟩:=DZ he;have hl:z.cps.toList.length=z.length:=by simp[Str.length]
 rw[hl]at h1 h4 h5;have hn:=sN;exact tail_any (typeIs_str s z t) slot_str_getitem.lookup (getItem_str (c:=c) (by
  have e1:decide (i < -(2 ^ 63:Int))=false:=decide_eq_false (by lia);have e2:decide (i≥2 ^ 63)=false:=decide_eq_false (by lia);rw[e1,e2,Bool.or_false]) (by rw[h1];simpa using h2) ⟨.str ⟨#[c]⟩,H,I.tok _,⟨_,rfl⟩,q⟩) hs
def D1(K:ah):R2:=λx y H Q=>Lh K x y H Q\/Li K x y H Q\/Lk x y H Q
theorem UI:m5 X (D1 X.K):=UE.or (UG.or UH)
theorem UJ(ai:List Value)(n j:Nat)(u:Value):nJ (·.setIfInBounds j u) { cls:= .type "list",data:= .seq ai.toArray n }= { cls:= .type "list",data:= .seq (ai.set j u).toArray n }:=by
 simp[nJ]
theorem Inv.lst{aa:List (Addr×Obj)}{σ:St}{H:Hp}{s:Shared}{p:Addr}{xs:List V}(I:Inv X aa σ H s)(h:H p=some (.lst xs)):
  ∃(ai:List Value) (n:Nat),bA xs ai/\s.heap.get? p=some { cls:= .type "list",data:= .seq ai.toArray n }/\xs.length<=aK:=by
 obtain⟨z,ai,n,r,e⟩:=I.aT p _ h;exact⟨ai,n,r,e,z⟩
theorem Inv.UK{aa:List (Addr×Obj)}{σ:St}{H:Hp}{s:Shared}{p:Addr}{xs ys:List V}{ai its':List Value}{n n':Nat}{f:Obj->Obj}(I:Inv X aa σ H s)(h:H p=some (.lst xs))
  (ho:s.heap.get? p=some { cls:= .type "list",data:= .seq ai.toArray n }) (hf:f { cls:= .type "list",data:= .seq ai.toArray n }= { cls:= .type "list",data:= .seq its'.toArray n' }) (r:bA ys its') (hz:ys.length<=aK) (t:Nat):
  Inv X aa σ (aP H p (.lst ys)) { s with heap:=s.heap.update p f,toks:=t }:=by
 have e:(s.heap.update p f).get? p=some { cls:= .type "list",data:= .seq its'.toArray n' }:=by
  rw[Dc f ho (by rw[hf]<;> rfl),hf]
 refine I.write (x:=p) (e:=p) (by rw[h];trivial) (.inl rfl) (λb u hb q=>(uF _ _ (jO hb)).trans q) ⟨_,e⟩ ?_;exact⟨hz,its',n',r,e⟩
def Ll:V->V->V->Hp->(Hp->Prop)->Prop:=λo i v H Q=>∃p xs k j,o= .ref p/\i= .int k/\H p=some (.lst xs)/\eX xs.length k=some j/\Q (aP H p (.lst (xs.set j v)))
theorem RA:Kl X Ll:=by
 intro aa s σ H o i v ov iv u Q I ro ri rv h;obtain⟨p,xs,k,j,rfl,rfl,hp,hj,q⟩:=h;cases ro;obtain⟨t,rfl⟩:=ri;obtain⟨ai,n,r,ho,hz⟩:=I.lst hp;obtain⟨h1,h2,h3,h4⟩:=Le hj;have hl:=r.length;have hn:=sN;have I':Inv X aa σ (aP H p (.lst (xs.set j v))) { s with heap:=s.heap.update p (nJ (·.setIfInBounds j u)) }:=
  I.UK hp ho (UJ ai n j u) (r.set rv j) (by rw[bZ];exact hz) s.toks
 by_cases h0:0<=k
 ·have hk:k.toNat=j:=by
   rw[RN h0 h4]at h1;exact ka h1
  exact W.ki_setAt ho h0 (by lia) (by rw[fY, <- hl];exact h4) (by rw[hk];exact⟨_,I',q⟩)
 ·have hk:(k + (ai.toArray.size:Int)).toNat=j:=by
   rw[RO (by lia) h3]at h1;rw[fY, <- hl];exact ka h1
  exact W.ki_setBack ho (by lia) (by rw[fY, <- hl];exact h3) (by lia) (by rw[hk];exact⟨_,I',q⟩)
theorem UL(lo hi:Option Int)(n:Nat):(wH lo hi none n).1=((HT.bO n 0 lo:Nat):Int)/\(wH lo hi none n).2.1=((HT.bO n n hi:Nat):Int)/\(wH lo hi none n).2.2=1:=by
 refine⟨?_, ?_,rfl⟩
 ·cases lo with
  |none=>simp[wH,HT.bO]
  |some i=>
   simp only[wH,HT.bO,ad0,show(1:Int) > 0 by decide,if_true];by_cases h:i < 0
   ·simp only[h,if_true]<;> lia
   ·simp only[h,if_false]<;> lia
 ·cases hi with
  |none=>simp[wH,HT.bO]
  |some i=>
   simp only[wH,HT.bO,ad0,show(1:Int) > 0 by decide,if_true];by_cases h:i < 0
   ·simp only[h,if_true]<;> lia
   ·simp only[h,if_false]<;> lia
theorem UM(ai:List Value)(lo hi:Option Int):slicePick ai.toArray lo hi none=((ai.drop (HT.bO ai.length 0 lo)).take (HT.bO ai.length ai.length hi - HT.bO ai.length 0 lo)).toArray:=by
 obtain⟨h1,h2,h3⟩:=UL lo hi ai.toArray.size;unfold slicePick;rw[h1,h2,h3];simp only[sliceRange_one,pick_run,fY]<;> rfl
def Ln(K:ah):V->Option Int->Option Int->Hp->VK->Prop:=λx lo hi H Q=>∃a xs,x= .ref a/\cc K H a xs/\∀p,H p=none->Q (.ref p) (aP H p (.lst (uZ xs lo hi)))
theorem UN:mG X (Ln X.K):=by
 intro aa s σ H x v vl vu lo hi sl Q I rx hs pl pu h;obtain⟨a,xs,rfl,hx,q⟩:=h;cases rx;obtain⟨ai,r,ht,hz⟩:=I.list hx;have cG:=r.length;refine⟨"list",_,slot_list_getitem.lookup,ht.isList.typeIs, ?_⟩;refine wpAny_getItem_list_slice ht.isList hs pl pu .none (by simp) ?_ (by rw[fY]<;> lia);rw[UM, <- cG];refine⟨.ref s.heap.objs.size,_,I.laid (t':=s.toks) (o:= .lst (uZ xs lo hi)) (λb ob q=>gy _ q) (bK _) ?_,rfl,q _ (I.aT.fresh (bK _))⟩;exact⟨bW (K9 xs lo hi) hz,_,0,(r.drop (HT.bO xs.length 0 lo)).take (HT.bO xs.length xs.length hi - HT.bO xs.length 0 lo),jP _ rfl⟩
def kg:V->Bool
 |.aJ=>true
 |.bl _=>true
 |.int _=>true
 |.str _=>true
 |_=>false
def rq:V->V->Bool
 |.aJ, .aJ=>true
 |.bl a, .bl b=>a == b
 |.bl a, .int b=>(if a then 1 else 0) == b
 |.int a, .bl b=>a == (if b then 1 else 0)
 |.int a, .int b=>a == b
 |.str a, .str b=>a == b
 |_,_=>false
theorem UO{A:Around}{s:Shared}{y x:V}{u v:Value}(ry:RelV y u)(rx:RelV x v)(fy:kg y=true)(fx:kg x=true):SeqAt.EqAt A s u v (rq y x):=by
 cases y with
 |aJ=>
  cases ry;cases x with
  |aJ=>cases rx;exact SeqAt.EqAt.same _
  |bl b=>cases rx;exact SeqAt.EqAt.none_bool b
  |int b=>obtain⟨t,rfl⟩:=rx;exact SeqAt.EqAt.none_int b t
  |str b=>obtain⟨t,rfl⟩:=rx;exact SeqAt.EqAt.none_str b t
  |_=>exact absurd (show false=true from fx) ji
 |bl a=>
  cases ry;cases x with
  |aJ=>cases rx;exact SeqAt.EqAt.bool_none a
  |bl b=>cases rx;exact SeqAt.EqAt.bool_bool a b
  |int b=>obtain⟨t,rfl⟩:=rx;exact SeqAt.EqAt.bool_int a b t
  |str b=>obtain⟨t,rfl⟩:=rx;exact SeqAt.EqAt.bool_str a b t
  |_=>exact absurd (show false=true from fx) ji
 |int a=>
  obtain⟨t',rfl⟩:=ry;cases x with
  |aJ=>cases rx;exact SeqAt.EqAt.int_none a t'
  |bl b=>cases rx;exact SeqAt.EqAt.int_bool a t' b
  |int b=>obtain⟨t,rfl⟩:=rx;exact SeqAt.EqAt.int_int a t' b t
  |str b=>obtain⟨t,rfl⟩:=rx;exact adQ a t' b t
  |_=>exact absurd (show false=true from fx) ji
 |str a=>
  obtain⟨t',rfl⟩:=ry;cases x with
  |aJ=>cases rx;exact SeqAt.EqAt.str_none a t'
  |bl b=>cases rx;exact SeqAt.EqAt.str_bool a t' b
  |int b=>obtain⟨t,rfl⟩:=rx;exact adR a t' b t
  |str b=>obtain⟨t,rfl⟩:=rx;exact SeqAt.EqAt.str_str a t' b t
  |_=>exact absurd (show false=true from fx) ji
 |_=>exact absurd (show false=true from fy) ji
def qd(x:V)(u:Value):Bool:=match u with
 |.none=>rq .aJ x
 |.bool b=>rq (.bl b) x
 |.int i _=>rq (.int i) x
 |.str z _=>rq (.str z) x
 |_=>false
theorem Lo{x y:V}{u:Value}(r:RelV y u)(f:kg y=true):qd x u=rq y x:=by
 cases y with
 |aJ=>cases r;rfl
 |bl b=>cases r;rfl
 |int i=>obtain⟨t,rfl⟩:=r;rfl
 |str z=>obtain⟨t,rfl⟩:=r;rfl
 |_=>exact absurd (show false=true from f) ji
theorem D2{x:V}:∀{xs:List V} {us:List Value},bA xs us->xs.all kg=true->us.any (qd x)=xs.any λy=>rq y x
 |_,_, .nil,_=>rfl
 |y::xs,u::us, .cons r t,f=>by
  rw[Sb,pV]at f;rw[wU,wU,Lo r f.1,D2 t f.2]
theorem D3{A:Around}{s:Shared}{x:V}{v:Value}(rx:RelV x v)(fx:kg x=true):∀{xs:List V} {us:List Value},bA xs us->xs.all kg=true->∀u∈us,SeqAt.EqAt A s u v (qd x u)
 |_,_, .nil,_=>λu hu=>by cases hu
 |y::xs,u::us, .cons r t,f=>λu' hu=>by
  rw[Sb,pV]at f;rcases gK.mp hu with rfl | hu
  ·rw[Lo r f.1];exact UO r rx f.1 fx
  ·exact D3 rx fx t f.2 u' hu
def xu(x:V)(xs:List V):Bool:=xs.any λy=>rq y x
def Lq(K:ah)(neg:Bool):R2:=λx y H Q=>∃p xs,y= .ref p/\(cc K H p xs\/cN K H p xs)/\kg x=true/\xs.all kg=true/\Q (.bl (if neg then !xu x xs else xu x xs)) H
theorem UP:dP X (jy .In) (Lq X.K false):=by
 intro aa s σ H x y v u Q I rx ry h;obtain⟨p,xs,rfl,hq,fx,fs,q⟩:=h;cases ry;rcases hq with hq | hq
 ·obtain⟨ai,r,pl,hz⟩:=I.list hq;refine SeqAt.in_listAt (qd x) pl.isList (λw hw=>D3 rx fx r fs w (by simpa using hw)) ⟨.bl _,H,I,rfl, ?_⟩;rw[show ai.toArray.any (qd x)=ai.any (qd x) by simp,D2 r fs];exact q
 ·obtain⟨ai,r,pl,hz⟩:=I.tuple hq;refine SeqAt.in_tupleAt (qd x) pl (λw hw=>D3 rx fx r fs w (by simpa using hw)) ⟨.bl _,H,I,rfl, ?_⟩;rw[show ai.toArray.any (qd x)=ai.any (qd x) by simp,D2 r fs];exact q
theorem UQ:i5 X (.builtin "len") (λxs H Q=>∃p ys,xs= [.ref p]/\(cc X.K H p ys\/cN X.K H p ys)/\Q (.int ys.length) H):=by
 intro aa s σ H xs us Q I r h;obtain⟨p,ys,rfl,hq,q⟩:=h;obtain⟨u,rfl,rx⟩:=vals1 r;cases rx;have hn:=sN;rcases hq with hq | hq
 ·obtain⟨ai,r',pl,hz⟩:=I.list hq;have cG:=r'.length;exact Calls.call_len_list pl.isList (by simp only[fY]<;> lia) ⟨.int ys.length,H,I.tok _,⟨s.toks + 1,by rw[fY,cG]⟩,q⟩
 ·obtain⟨ai,r',pl,hz⟩:=I.tuple hq;have cG:=r'.length;exact len_tuple pl (by simp only[fY]<;> lia) ⟨.int ys.length,H,I.tok _,⟨s.toks + 1,by rw[fY,cG]⟩,q⟩
theorem UR:i5 X (.builtin "len") (λxs H Q=>∃z,xs= [.str z]/\z.length<=aK/\Q (.int z.length) H):=by
 intro aa s σ H xs us Q I r h;obtain⟨z,rfl,hz,q⟩:=h;obtain⟨u,rfl,t,rfl⟩:=vals1 r;have hn:=sN;exact len_str (by lia) ⟨.int z.length,H,I.tok _,⟨_,rfl⟩,q⟩
theorem US:i5 X (.type "list") (λxs H Q=>∃p ys,xs= [.ref p]/\(cc X.K H p ys\/cN X.K H p ys)/\∀l,H l=none->Q (.ref l) (aP H l (.lst ys))):=by
 intro aa s σ H xs us Q I r h;obtain⟨p,ys,rfl,hq,q⟩:=h;obtain⟨u,rfl,rx⟩:=vals1 r;cases rx;have cL:∀(ai:List Value),bA ys ai->ys.length<=aK->∀(h':Heap) (c':Nat),(∀b o',s.heap.get? b=some o'->h'.get? b=some o')->
   h'.get? s.heap.objs.size=some { cls:= .type "list",dict:=none,data:= .seq ai.toArray c',slots:=#[] }->EP X aa σ Q (.ref s.heap.objs.size) { s with heap:=h' }:=λai r' hz h' c' kp e=>
  ⟨.ref s.heap.objs.size,_,I.laid (t':=s.toks) kp (bK _) (show fZ X.prog X.w _ h' _ (.lst ys) from⟨hz,ai,c',r',e⟩),rfl,q _ (I.aT.fresh (bK _))⟩
 rcases hq with hq | hq
 ·obtain⟨ai,r',pl,hz⟩:=I.list hq;have cG:=r'.length;obtain⟨o,ho,hc,n,hd⟩:=pl.isList;exact call_list_seq p (.inl rfl) ho hc hd (λh' c' kp e=>cL ai r' hz h' c' kp e) (by simp only[fY]<;> lia)
 ·obtain⟨ai,r',pl,hz⟩:=I.tuple hq;have cG:=r'.length;obtain⟨o,ho,hc,n,hd⟩:=pl;exact call_list_seq p (.inr rfl) ho hc hd (λh' c' kp e=>cL ai r' hz h' c' kp e) (by simp only[fY]<;> lia)
theorem UT:i5 X (.type "tuple") (λxs H Q=>∃p ys,xs= [.ref p]/\((cc X.K H p ys/\∀l,H l=none->Q (.ref l) (aP H l (.tup ys)))\/(cN X.K H p ys/\Q (.ref p) H))):=by
 intro aa s σ H xs us Q I r h;obtain⟨p,ys,rfl,h⟩:=h;obtain⟨u,rfl,rx⟩:=vals1 r;cases rx;rcases h with⟨hq,q⟩ | ⟨hq,q⟩
 ·obtain⟨ai,r',pl,hz⟩:=I.list hq;have cG:=r'.length;refine call_tuple_list pl.isList (λh' kp=> ?_) (by simp only[fY]<;> lia);have I1:Inv X aa σ H { s with heap:=h' }:=I.kept (t':=s.toks) kp;have I2:Inv X aa σ (aP H h'.objs.size (.tup ys)) { s with heap:=h'.push { cls:= .type "tuple",data:= .seq ai.toArray } }:=
   I1.laid (t':=s.toks) (λb o e=>gy _ e) (bK _) (show fZ X.prog X.w _ _ _ (.tup ys) from⟨hz,ai,r',Sa _ _⟩)
  exact⟨.ref h'.objs.size,_,I2,rfl,q _ (I1.aT.fresh (bK _))⟩
 ·obtain⟨ai,r',pl,hz⟩:=I.tuple hq;exact call_tuple_same pl ⟨.ref p,H,I,rfl,q⟩
def u0(K:ah)(T:String)(x:V)(H:Hp):Prop:=match x with
 |.str _=>T="str"
 |.int _=>T="int"
 |.ref p=>(T="list"/\∃xs,cc K H p xs)\/(T="tuple"/\∃o,K.lookup p=some o/\o.cls= .type "tuple"/\o.dict=none)\/
   (T="dict"/\((∃aj,H p=some (.dK aj))\/∃aj,H p=some (.dT aj)))\/(T="set"/\∃S n,H p=some (.set S n))
 |_=>False
theorem Lr{aa:List (Addr×Obj)}{σ:St}{H:Hp}{s:Shared}{T:String}{x:V}{v:Value}(I:Inv X aa σ H s)(r:RelV x v)(ty:u0 X.K T x H):
  s.TypeIs v T/\∀a,v= .ref a->∃ob,s.heap.get? a=some ob/\ob.dict=none:=by
 cases x with
 |str z=>
  obtain⟨t,rfl⟩:=r;cases(show T="str" from ty);exact⟨typeIs_str s z t,λ_ e=>nomatch e⟩
 |int i=>
  obtain⟨t,rfl⟩:=r;cases(show T="int" from ty);exact⟨typeIs_int s i t,λ_ e=>nomatch e⟩
 |ref p=>
  cases r;rcases ty with⟨rfl,xs,hq⟩ | ⟨rfl,o,hk,hc,hd⟩ | ⟨rfl,hk⟩ | ⟨rfl,S,n,hk⟩
  ·obtain⟨ai,_,pl,_⟩:=I.list hq;refine⟨pl.isList.typeIs,λa e=> ?_⟩;cases e;obtain⟨o,n,e,c,hd,_⟩:=pl;exact⟨o,e,hd⟩
  ·refine⟨⟨o,I.fP p o hk,hc⟩,λa e=> ?_⟩;cases e;exact⟨o,I.fP _ o hk,hd⟩
  ·have z:∃o,s.heap.get? p=some o/\o.ExactDict:=by
    rcases hk with⟨aj,hk⟩ | ⟨aj,hk⟩
    ·obtain⟨_,_,_,_,o,_,_,e,ex,_⟩:=I.aT p _ hk;exact⟨o,e,ex⟩
    ·obtain⟨_,_,_,_,o,_,_,e,ex,_⟩:=I.aT p _ hk;exact⟨o,e,ex⟩
   obtain⟨o,e,ex⟩:=z;refine⟨⟨o,e,ex.1⟩,λa e2=> ?_⟩;cases e2;exact⟨o,e,ex.2.1⟩
  ·obtain⟨o,_,_,_,e,ex,_⟩:=I.aT p _ hk;refine⟨⟨o,e,ex.1⟩,λa e2=> ?_⟩;cases e2;exact⟨o,e,ex.2.1⟩
 |_=>exact lN ty
def D4(K:ah)(T:String)(r:V->List V->Hp->VK->Prop)(to:TE):TE:=λσ H Q=>to σ H λx H1=>u0 K T x H1/\r x [] H1 Q
def D5(K:ah)(T:String)(r:V->List V->Hp->VK->Prop)(to:TE)(t:TA):TE:=λσ H Q=>to σ H λx H1=>u0 K T x H1/\t σ H1 λxs H2=>r x xs H2 Q
variable {o e:Expr}{es:List Expr}{to:TE}{t:TA}{name:Str}{iX j4:Pos}{T id:String}{r:V->List V->Hp->VK->Prop}
theorem UU(pa:PlainAttrs T)(slot:Slot T name id)(sS:typeOf (.builtin id)=pure (.type "method_descriptor"))(hm:D0 X id r)(ho:PE X o to)
  (xv:qM o name X.env (eval o X.env)=eval o X.env:=by rfl) (xw:(iX.endLine == j4.line)=true:=by rfl):PE X (.Call (.Attribute o name iX) [] [] j4) (D4 X.K T r to):=by
 intro aa s σ H Q I h;refine adM xv xw (bG (ho aa s σ H _ I h) λv s1 ⟨x,H1,I1,r1,ty,q1⟩=> ?_);obtain⟨h1,h2⟩:=Lr I1 r1 ty;exact⟨T,id,pa,slot,sS,h1,h2,JC rfl (ad2 (hm aa s1 σ H1 x [] v [] Q I1 r1 .nil q1))⟩
theorem UW(pa:PlainAttrs T)(slot:Slot T name id)(sS:typeOf (.builtin id)=pure (.type "method_descriptor"))(hm:D0 X id r)(ho:PE X o to)(ha:PA X (e::es) t)
  (xv:qM o name X.env (eval o X.env)=eval o X.env:=by rfl)
  (UX:((backTo j4 (cD (e::es) X.env)).all (λx=> !x.1) && (wC j4 (wF [] X.env)).all (λx=>x.1.isSome)
   && decide ((e::es).length + ([]:List Keyword).length + (if([]:List Keyword).isEmpty then 0 else 1) < 30))=true:=by rfl)
  (xw:(iX.endLine == j4.line)=true:=by rfl) (hs:cD (e::es) X.env=(false,eval e X.env)::cD es X.env:=by rfl) (UY:(backTo j4 (cD es X.env)).any (·.1)=false:=by rfl):
  PE X (.Call (.Attribute o name iX) (e::es) [] j4) (D5 X.K T r to t):=by
 intro aa s σ H Q I h;refine wpAny_Call_method_late xv UX xw rfl (bG (ho aa s σ H _ I h) λv s1 ⟨x,H1,I1,r1,ty,q1⟩=> ?_);obtain⟨h1,h2⟩:=Lr I1 r1 ty;refine⟨T,id,pa,slot,sS,h1,h2, ?_⟩;have hA:=ha j4 aa s1 σ H1 _ I1 q1;rw[hs]at hA |-;refine JC (by show(false || (backTo j4 (cD es X.env)).any (·.1))=false;rw[UY]<;> rfl) (ad3 ?_);exact bG hA λus s2 ⟨vs,H2,I2,r2,q2⟩=>hm aa s2 σ H2 x vs v us Q I2 r1 r2 q2
/- xs.append(e),list.index on a UZ tuple .. are D0 facts of 06m -/
end
end L2
namespace L2
open PySem PySem.Spec PyProof.Rows
def Ls(X:Cx)(id:String)(r:V->List V->Hp->VK->Prop):Prop:=
 ∀(aa:List (Addr×Obj)) (s:Shared) (σ:St) (H:Hp) (x:V) (xs:List V) (v:Value) (us:List Value) (Q:VK),Inv X aa σ H s->RelV x v->bA xs us->r x xs H Q->
  wpAny (model X.prog X.w) X.A (call (.builtin id) (v::us)) (EP X aa σ Q) X.xe s
theorem bA.one:∀{x:V} {us:List Value},bA [x] us->∃u,us= [u]/\RelV x u
 |_,_, .cons r .nil=>⟨_,rfl,r⟩
theorem bA.zero:∀{us:List Value},bA [] us->us= []
 |_, .nil=>rfl
theorem bA.dropLast{xs:List V}{us:List Value}(h:bA xs us):bA xs.dropLast us.dropLast:=by
 induction h with
 |nil=>exact .nil
 |cons r t ih=>
  cases t with
  |nil=>exact .nil
  |cons q t'=>exact .cons r ih
theorem U0{α:Type}(l:List α):l.eraseIdx (l.length - 1)=l.dropLast:=by
 induction l with
 |nil=>rfl
 |cons a r ih=>
  cases r with
  |nil=>rfl
  |cons b r=>
   have e:(a::b::r).length - 1=((b::r).length - 1) + 1:=by
    have h1:(a::b::r).length=r.length + 2:=rfl;have h2:(b::r).length=r.length + 1:=rfl
    lia
   rw[e,List.eraseIdx_cons_succ,ih]
   all_goals rfl
section
variable {X:Cx}{H:Hp}{s:Shared}
theorem Inv.Lu{ai its':List Value}{n:Nat}{f:Array Value->Array Value}{t':Nat}(I:Inv X aa σ H s)(hH:H l=some (.lst xs))
  (e:s.heap.get? l=some { cls:= .type "list",data:= .seq ai.toArray n }) (hf:f ai.toArray=its'.toArray) (hv:bA ys its') (hz:ys.length<=aK):
  Inv X aa σ (aP H l (.lst ys)) { s with heap:=s.heap.update l (nJ f),toks:=t' }:=by
 have q:=PySem.IsL.update e f;rw[hf]at q;refine I.write (x:=l) (e:=l) (by rw[hH];exact trivial) (.inl rfl) (λb' u hb hu=>(uF s.heap (nJ f) (jO hb)).trans hu) ⟨_,q⟩ ?_;exact⟨hz,its',_,hv,q⟩
theorem Inv.Lv{t':Nat}(I:Inv X aa σ H s)(hv:bA ys ai)(hz:ys.length<=aK):
  Inv X aa σ (aP H s.heap.objs.size (.lst ys)) { s with heap:=s.heap.push { cls:= .type "list",data:= .seq ai.toArray },toks:=t' }:=
 I.laid (λ_ _ q=>gy _ q) (bK _) ⟨hz,ai,0,hv,jP _ rfl⟩
theorem Inv.fresh(I:Inv X aa σ H s):H s.heap.objs.size=none:=I.aT.fresh (bK _)
theorem Inv.iJ(I:Inv X aa σ H s)(hH:H l=some (.lst xs)):xs.length<=aK/\∃(ai:List Value) (n:Nat),bA xs ai/\xs.length=ai.length/\s.heap.get? l=some { cls:= .type "list",data:= .seq ai.toArray n }:=by
 obtain⟨z,ai,n,r,e⟩:=I.aT l _ hH;exact⟨z,ai,n,r,r.length,e⟩
end
section
variable {X:Cx}
def AG:V->List V->Hp->VK->Prop:=λx vs H Q=>∃l xs y,x= .ref l/\vs= [y]/\H l=some (.lst xs)/\xs.length < aK/\Q .aJ (aP H l (.lst (xs++ [y])))
theorem U5:Ls X "list.append" AG:=by
 intro aa s σ H x vs v us Q I rx rv h;obtain⟨l,xs,y,rfl,rfl,hH,hz,q⟩:=h;cases rx;obtain⟨u,rfl,ru⟩:=rv.one;obtain⟨z,ai,n,r,hl,e⟩:=I.iJ hH;refine call_meets F.slot_list_append ⟨_,e,rfl⟩ F.entry_list_append (F.args_list_append_2 _ _) (PySem.list_append l ai.toArray n u (by rw[fY];lia)) ⟨e, ?_⟩;refine⟨.aJ,_,I.Lu (its':=ai++ [u]) hH e (by simp) (r.append (.cons ru .nil)) ?_,rfl,q⟩;rw[bQ,kN]
 lia
def D6:V->List V->Hp->VK->Prop:=λx vs H Q=>∃l xs y,x= .ref l/\vs= []/\H l=some (.lst xs)/\xs[xs.length - 1]?=some y/\Q y (aP H l (.lst xs.dropLast))
theorem U6:Ls X "list.pop" D6:=by
 intro aa s σ H x vs v us Q I rx rv h;obtain⟨l,xs,y,rfl,rfl,hH,hy,q⟩:=h;cases rx;have U7:=rv.zero;subst U7;obtain⟨z,ai,n,r,hl,e⟩:=I.iJ hH;obtain⟨u,hu,ru⟩:=r.get hy;have U8:ai.toArray[ai.toArray.size - 1]?=some u:=by
  show ai.toArray[ai.length - 1]?=some u;rw[<- ad4, <- hl];exact hu
 refine call_meets F.slot_list_pop ⟨_,e,rfl⟩ F.entry_list_pop (F.args_list_pop_1 _) (MeetsSeq.list_pop_last l ai.toArray n u U8 (by rw[fY];lia)) ⟨e, ?_⟩;refine⟨y,_,I.Lu (its':=ai.dropLast) hH e ?_ r.dropLast ?_,ru,q⟩
 ·show ai.toArray.eraseIdxIfInBounds (ai.toArray.size - 1)=ai.dropLast.toArray;rw[fY,List.eraseIdxIfInBounds_toArray,U0]
 ·rw[List.length_dropLast]
  lia
def Lx:R2:=λx y H Q=>∃l b xs zs,x= .ref l/\y= .ref b/\H l=some (.lst xs)/\H b=some (.lst zs)/\xs.length + zs.length<=aK/\∀p,H p=none->Q (.ref p) (aP H p (.lst (xs++zs)))
theorem U9:dP X (mw .Add) Lx:=by
 intro aa s σ H x y v u Q I rx ry h;obtain⟨l,b,xs,zs,rfl,rfl,hH,hB,hz,q⟩:=h;cases rx;cases ry;obtain⟨z,ai,n,r,hl,e⟩:=I.iJ hH;obtain⟨z2,pj,n2,r2,g9,e2⟩:=I.iJ hB;refine PySem.P.add_list e e2 ?_ (by rw[fY,fY];lia);have ea:ai.toArray++pj.toArray=(ai++pj).toArray:=by simp
 rw[ea];exact⟨.ref _,_,I.Lv (t':=s.toks) (r.append r2) (by rw[bQ];lia),rfl,q _ I.fresh⟩
end
section
variable {prog:Program}{w:World}{A:Around}{E:Value->Shared->Prop}{s:Shared}
end
section
variable {X:Cx}
end
end L2
namespace Ly
open PySem PySem.W PySem.Calls PyProof.Rows
theorem Va{P:Params}{h:Heap}:∀(ns:List Int) (vs:List Value),WellAll P h vs (ns.map WData.int)->C3 vs ns:=by
 intro ns
 induction ns with
 |nil=>
  intro vs w;rw[jz]at w;cases w;exact .nil
 |cons n ns ih=>
  intro vs w;rw[dZ]at w;cases w with
  |cons a b=>
   cases a;exact .cons _ _ (ih _ b)
theorem Vb{l:OpenLaw}(hn:l.most=some n){P:Params}{h:Heap}{args:List WData}{vals:List Value}
  (AH:l.row.toRowW.claim.pre args=true) (D7:WellAll P h vals args):
  ∃a vs ns,vals= [gw a]/\args= [WData.list (ns.map WData.int)]/\h.get? a=some { cls:= .type "list",data:= .seq vs.toArray }/\C3 vs ns/\ns.length<=n:=by
 have Vc:WShape.hasAll [] args [.list .int]=true:=(pre_splitW AH).1;have hc:l.pre.holds [] { args:=args }=true:=(pre_splitW AH).2;obtain⟨d,r,rfl,h1,h2⟩:=hasAllW_cons Vc;obtain rfl:=hasAllW_nil h2;obtain⟨xs,rfl,h3⟩:=hasW_list h1;obtain⟨ns,rfl⟩:=items_int h3;have cG:ns.length<=n:=by
  unfold OpenLaw.pre at hc;have h4:(WTm.not (.lt (.lit (.int (n:Int))) (.len (.arg 0)))).holds [] { args:= [.list (ns.map .int)] }=true:=by
   have h4:=(holds_andW hc).1;rw[hn]at h4;exact h4
  have h5:=condW_of h4 (w_not (w_lt w_lit (w_len_list (w_arg rfl))));rw[dC]at h5;refine Nat.le_of_not_lt λq=> ?_;have q':(n:Int) < ((ns.length:Nat):Int):=by lia
  first
   |(rw[decide_eq_true q']at h5;exact absurd h5 (by decide))
   |(simp at h5;lia)
 cases D7 with
 |cons w1 w2=>
  cases w2;cases w1 with
  |list ho qe=>exact⟨_,_,ns,rfl,rfl,ho,Va ns _ qe,cG⟩
theorem Vd(l:OpenLaw)(args:List WData):l.row.toRowW.claim.post args (.bool true) args=true:=
 postW_of (r:=l.row.toRowW) (X:=(true == true))
  (show WShape.has [] (.bool true) .bool=true by first | rfl | decide | simp[WShape.has,WShape.arms,WShape.armsAll])
  (show(WTm.eq .res (.lit (.bool true))).value [] { args:=args,res:=some (.bool true),after:=args }=some (.bool (true == true)) from w_eq_bool (w_res rfl) w_lit) rfl
theorem Ve{l:OpenLaw}{n:Nat}{q:Program}{loose:List Str}{XP:(Str->Option Value)->Heap->Prop}{YP:World->Heap->Prop}{d:DefRec}
  (hn:l.most=some n) (xx:d.params.defaults= [])
  (call:∀(w:World) (iP dQ:Shared) (mg mb:Str->Option Value) (fa:Addr) (o:Obj) (pm cd doc:Value) (a:Addr) (vs:List Value) (ns:List Int),
   Ground q loose [] XP w iP mg mb dQ.heap->YP w dQ.heap->
   dQ.heap.get? fa=some o->o.data= .func (docDef d.name d.params d.body d.scope pm cd doc)->dQ.heap.CodeRec cd d.name->mg d.name=some (.ref fa)->
   dQ.heap.get? a=some { cls:= .type "list",data:= .seq vs.toArray }->C3 vs ns->ns.length<=n->dQ.gens=#[]->
   mx (model l.prog w) wI (.call (.ref fa) ⟨[.ref a], []⟩) (λr s'=>r= .ok (.ret (.bool true))/\OldK dQ.heap s'.heap/\s'.os=dQ.os/\um s'.gens) dQ):
  WalkO q loose XP YP l.row.toRowW d [] (λf vs=>Sd f vs):=by
 intro w iP dQ mg mb G Y fa o pm cd doc dV kV ho hd nN hD hmg hg args vals as AH aeM aeN D7 aeO;obtain rfl:dV= .none:=Dflts.none hD xx;obtain rfl:kV= .none:=Dflts.noKw hD;obtain⟨a,vs,ns,rfl,rfl,D8,hints,cG⟩:=Vb hn AH D7;refine enter_call (C1 (call w iP dQ mg mb fa o pm cd doc a vs ns G Y ho (fd_plain hd) nN hmg D8 hints cG hg) λr s' hq=> ?_);obtain⟨rfl,h2,h3,h4⟩:=hq;exact⟨.inl ⟨.bool true, .bool true, [],rfl,λ_=>rfl, .bool true,Vd l _,λ_=>⟨List.Pairwise.nil,λ_ hm=>(nomatch hm)⟩⟩,h2,h3,h4⟩
section
variable {prog:Program}{w:World}{A:Around}{E:Value->Shared->Prop}{s:Shared}{K:Frag}
end
end Ly
namespace L2
open PySem PySem.Spec PyProof.Rows
theorem Lz:∀{vs:List Value} {ns:List Int},C3 vs ns->bA (ns.map V.int) vs
 |_,_, .nil=> .nil
 |_,_, .cons n t h=> .cons ⟨t,rfl⟩ (Lz h)
def AI(H:Hp):Prop:=∀b,H b=none\/∃o xs,H b=some (.iz o (.lst xs))
theorem Vf{P:Program}{w:World}{K:ah}{mg mb:Str->Option Value}{CX:p9}{k:Nat}{fa a:Addr}{fd:jY}{x:Str}{sp:Sp}{dQ:Shared}{vs:List Value}{ns:List Int}
  (KX:K.In dQ.heap) (LA:dQ.heap.Ns mr mg) (hb:dQ.heap.Ns Jb mb) (Vg:∀x:Str,x≠"__name__"->mb x=zu x) (Vh:dQ.heap.NoLimit) (hg:dQ.gens=#[])
  (ha:dQ.heap.get? a=some { cls:= .type "list",data:= .seq vs.toArray }) (hi:C3 vs ns) (hl:ns.length<=aK) (hr:fK k wI)
  (F:∀base:Heap,K.In base->base.Ns mr mg->b9 P w K mg base CX k fa fd [x] sp) (Vi:∀(s:Shared) (u:Value),zB s fd ⟨[u], []⟩ [(x,u)])
  (rf:∀H:Hp,AI H->cc K H a (ns.map V.int)->sp [.ref a] H (λv _=>v= .bl true) λ_ _ _=>False)
  (D9:∀H e s',CX [] H dQ (λ_ _ _=>False) e s'->False):
  mx (model P w) wI (.call (.ref fa) ⟨[.ref a], []⟩) (λr s'=>r= .ok (.ret (.bool true))/\OldK dQ.heap s'.heap/\s'.os=dQ.os/\um s'.gens) dQ:=by
 have rv:=Lz hi;have Vj:=hi.length
 -- from an abstract heap in aeP nothing but lP Vk may be tracked
 have core:∀H:Hp,AI H->cc K H a (ns.map V.int)->gY P w H dQ.heap->(∀b,H b≠none->b=a)->(H a≠none->K.lookup a=none)->
   mx (model P w) wI (.call (.ref fa) ⟨[.ref a], []⟩) (λr s'=>r= .ok (.ret (.bool true))/\OldK dQ.heap s'.heap/\s'.os=dQ.os/\um s'.gens) dQ:=by
  intro H hO hS aT hA hK;have LB:∀{b:Addr} {o:Obj},dQ.heap.get? b=some o->H b=none->(p7 dQ.heap H).get? b=some o:=λe n=>S8 e n;have sP:∀{b:Addr} {o:Obj} {es:Array DictEntry} {ep:Nat},dQ.heap.get? b=some o->o.data= .dict es ep->H b=none:=λ{b o es ep} e d=>by
   cases q:H b with
   |none=>rfl
   |some u=>
    have e':b=a:=hA b (by rw[q];simp);subst e';rw[ha]at e;cases e;have d':Data.seq vs.toArray _=Data.dict es ep:=d;cases d'
  have AJ:∀{b:Addr} {m:Str->Option Value},dQ.heap.Ns b m->(p7 dQ.heap H).Ns b m:=λ{b m} ⟨o,es,ep,e,d,r⟩=>⟨o,es,ep,LB e (sP e d),d,r⟩
  have LC:K.In (p7 dQ.heap H):=λb o e=>LB (KX b o e) (by
   cases q:H b with
   |none=>rfl
   |some u=>
    have e':b=a:=hA b (by rw[q];simp);subst e';rw[hK (by rw[q];simp)]at e;cases e)
  have hM:Mod K mg (p7 dQ.heap H):=⟨LC,AJ LA,⟨mb,AJ hb,Vg⟩,let ⟨mc,h1,h2⟩:=Vh;⟨mc,AJ h1,h2⟩⟩
  have e0:pf P w K mg (p7 dQ.heap H) wI [] dQ H:=⟨rfl,hM,λb o e=>S9 e,RZ (S7 _ _),trivial,λb hb=>absurd (show b∈([]:List Addr) from hb) (by simp),aT, .of_eq hg⟩
  refine C1 ((F _ LC (AJ LA)).run wI [] dQ H ⟨[.ref a], []⟩ [.ref a] [.ref a] _ _ hr e0 (Vi dQ (.ref a)) (.cons rfl .nil) (rf H hO hS)) λr s' h=> ?_;cases r with
  |error e=>exact(D9 H e s' h).elim
  |ok fl=>
   cases fl with
   |next=>exact lN h
   |brk=>exact lN h
   |cont=>exact lN h
   |ret u=>
    obtain⟨v,H',os,bare,un,Vl,r',q⟩:=h;have q':v= .bl true:=q;subst q';obtain rfl:u=wN true:=r';refine⟨rfl,OldK.of_keep λb o e=> ?_,os,bare⟩;cases q:H b with
    |none=>exact un.keep b o e q (by intro z;exact absurd (show b∈([]:List Addr) from z) (by simp)) (by simp)
    |some u=>
     rcases hO b with z | ⟨ob,xs,z⟩
     ·rw[q]at z;cases z
     ·have z2:=un.oW b ob _ z;obtain⟨e1,_⟩:=aT b _ z;obtain⟨e2,_⟩:=Vl b _ z2;rw[e]at e1;cases e1;exact e2
 cases hk:K.lookup a with
 |some o=>
  -- lP Vk is one of lP UZ own objects
  have e:=KX a o hk;rw[ha]at e;cases e;refine core (λ_=>none) (λ_=> .inl rfl) (.inr ⟨_,vs.toArray,_,hk,rfl,rfl,rfl,by rw[fY,Vj];exact hl,by simpa using rv⟩) (λb u z=>by have z':(none:Option HO)=some u:=z;cases z') (λb z=>absurd rfl z) λz=>absurd rfl z
 |none=>
  refine core (λb=>if b=a then some (.iz { cls:= .type "list",data:= .seq vs.toArray } (.lst (ns.map V.int))) else none) (λb=> ?_) (.inl (.inr ⟨{ cls:= .type "list",data:= .seq vs.toArray },if_pos rfl⟩)) (λb u z=> ?_) (λb z=> ?_) λ_=>hk
  ·by_cases hb:b=a
   ·exact .inr ⟨_,_,if_pos hb⟩
   ·exact .inl (if_neg hb)
  ·by_cases hb:b=a
   ·have z':=(if_pos hb).symm.trans z;cases z';subst hb;exact⟨ha,by rw[dC];exact hl,vs,_,rv,ha⟩
   ·have z':=(if_neg hb).symm.trans z;cases z'
  ·by_cases hb:b=a
   ·exact hb
   ·exact absurd (if_neg hb) z
end L2
namespace L2
open PySem PySem.Spec PyProof.Rows
theorem Vm{l:W.OpenLaw}{n k:Nat}{q:Program}{loose:List Str}{XP:(Str->Option Value)->Heap->Prop}{YP:World->Heap->Prop}{d:DefRec}{K:Params->ah}{CX:World->p9}{sp:World->Sp}{x:Str}
  (hn:l.most=some n) (qZ:n<=aK) (xx:d.params.defaults= []) (hr:fK k wI)
  (hY:∀(w:World) (h:Heap),YP w h->(K w.params).In h)
  (F:∀(w:World) (mg:Str->Option Value) (fa:Addr) (h:Heap),(K w.params).In h->h.Ns mr mg->mg d.name=some (.ref fa)->
   ∃fd:jY,(∀(s:Shared) (u:Value),zB s fd ⟨[u], []⟩ [(x,u)])/\
    ∀base:Heap,(K w.params).In base->base.Ns mr mg->b9 l.prog w (K w.params) mg base (CX w) k fa fd [x] (sp w))
  (rf:∀(w:World) (H:Hp) (a:Addr) (ns:List Int),ns.length<=n->AI H->cc (K w.params) H a (ns.map V.int)->sp w [.ref a] H (λv _=>v= .bl true) λ_ _ _=>False)
  (D9:∀(w:World) (H:Hp) (s:Shared) (e:Value) (s':Shared),CX w [] H s (λ_ _ _=>False) e s'->False):
  W.WalkO q loose XP YP l.row.toRowW d [] (λf vs=>Sd f vs):=by
 refine Ly.Ve hn xx λw iP dQ mg mb fa o pm cd doc a vs ns G Y ho hd nN hmg D8 hints cG hg=> ?_;have KX:=hY w _ Y;obtain⟨fd,hb,hF⟩:=F w mg fa _ KX G.T.g hmg;exact Vf KX G.T.g G.T.b G.T.builtins G.T.nolimit hg D8 hints (bW cG qZ) hr hF hb (λH hO hS=>rf w H a ns cG hO hS) λH e s'=>D9 w H dQ e s'
end L2
namespace L2
open PySem PySem.Spec PyProof.Rows
def wA(s:Stmt)(j:Nat):Stmt:=match s with
 |.ClassDef _ _ _ body _ _ _ _ _ _ _=>body.getD j (.Pass ⟨0,0,0,0⟩)
 |_=> .Pass ⟨0,0,0,0⟩
def qf(s:Stmt):Arguments:=match s with
 |.FunctionDef _ a _ _ _ _ _ _ _ _=>a
 |_=> { posonlyargs:= [],args:= [],vararg:=none,kwonlyargs:= [],kw_defaults:= [],kwarg:=none,defaults:= [] }
def m6(s:Stmt):List Stmt:=match s with
 |.FunctionDef _ _ b _ _ _ _ _ _ _=>b
 |_=> []
def cP(s:Stmt):Scope:=match s with
 |.FunctionDef _ _ _ _ _ _ sc _ _ _=>sc
 |_=> { kind:= .function,names:= [],isGenerator:=false,isCoroutine:=false }
abbrev cQ:p9:=λ_ _ _ _ _ _=>False
abbrev E0:XK:=λ_ _ _=>False
theorem AK{X:Cx}:uj cQ X E0:=λ_ _ _ _ _ _ _ h=>h.elim
structure ee(K:ah)(x qual:Str)(st:Stmt)(f:Addr)(fd:jY):Prop where
 ex:∃(oc:Value) (od:Option Addr) (kV doc pm:Value) (an:Option Addr) (eO ct:Value) (nQ:Array (Option Value)),
  fd=pU x qual (qf st) (m6 st) (cP st) .none kV doc pm an eO ct/\K.lookup f=some ⟨oc,od, .func fd,nQ⟩/\C9 K eO qual=true
 kp:uC K (.ref f)=true
section
variable {P:Program}{w:World}{K:ah}{mg:Str->Option Value}{base:Heap}
theorem ee.ok{x qual:Str}{st:Stmt}{f:Addr}{fd:jY}{N ps:List Str}{k:Nat}{sp:Sp}(F:ee K x qual st f fd)(S:eK N ps (cP st))(len:∀vs H Q E,sp vs H Q E->vs.length=ps.length)
  (DS:∀(eO:Value) (A:Around) (outer:List Env) (s:Shared) (H:Hp) (vs:List V) (Q:VK) (E:XK),fK k (A.deeper (envOfC qual (cP st) s.heap.objs.size f eO))->sp vs H Q E->
   ∃t,kP (q9 cQ P w K mg base N qual (cP st) f eO A outer s H E).uP (m6 st) t/\t { nx:=λ_ H'=>Q .aJ H',rt:=Q } (start N vs) H):b9 P w K mg base cQ (k + 1) f fd ps sp:=by
 obtain⟨oc,od,kV,doc,pm,an,eO,ct,nQ,rfl,lk,nN⟩:=F.ex;refine Uu lk nN S len λA outer s H vs Q E hr rf=> ?_;obtain⟨t,h,q⟩:=DS eO A outer s H vs Q E hr rf;exact⟨t,h.uP,q⟩
theorem ee.binds{x qual:Str}{st:Stmt}{f:Addr}{fd:jY}{ps:List Str}(F:ee K x qual st f fd)
  (h:∀(kV doc pm:Value) (an:Option Addr) (eO ct:Value) (us:List Value),us.length=ps.length->bindArgs (pU x qual (qf st) (m6 st) (cP st) .none kV doc pm an eO ct) ⟨us, []⟩=pure (ps.zip us)):Binds K fd ps []:=by
 obtain⟨oc,od,kV,doc,pm,an,eO,ct,nQ,rfl,lk,nN⟩:=F.ex;exact .all (h kV doc pm an eO ct)
theorem fC{x qual:Str}{st:Stmt}{f:Addr}{oc:Value}{od an:Option Addr}{nQ:Array (Option Value)}{kV doc pm eO ct:Value}(l:K.lookup f=some ⟨oc,od, .func (pU x qual (qf st) (m6 st) (cP st) .none kV doc pm an eO ct),nQ⟩)
  (c:C9 K eO qual=true) (k:uC K (.ref f)=true):ee K x qual st f (pU x qual (qf st) (m6 st) (cP st) .none kV doc pm an eO ct):=⟨⟨oc,od,kV,doc,pm,an,eO,ct,nQ,rfl,l,c⟩,k⟩
end
theorem jG{A:Around}{k:Nat}(hr:fK k A):A.units + 1 < cLine:=wV (Nat.add_le_add_left (by decide:1<=64) _) hr.units
section
theorem pv(i:Nat){x:Str}{pos:Pos}(hN:X.N[i]?=some x:=by rfl)(hv:Dr X.env.scope x:=by first | exact wW rfl | exact Or.inr (wW rfl) | exact Or.inr (Or.inr rfl))(hd:(x == ("__debug__":Str))=false:=by decide)
  (nN:(x == ("__classdict__":Str))=false:=by decide):PE X (.Name x pos) (gZ i):=Th hN hv hd nN
end
def aM(H H':Hp):Prop:=∀b o,H b=some o->H' b=some o
theorem aM.refl(H:Hp):aM H H:=λ_ _ h=>h
theorem aM.trans{H H1 H2:Hp}(a:aM H H1)(b:aM H1 H2):aM H H2:=λc o h=>b c o (a c o h)
theorem aM.free{H H':Hp}(e:aM H H'){l:Addr}(h:H' l=Option.none):H l=Option.none:=by
 cases q:H l with
 |none=>rfl
 |some o=>
  rw[e l o q]at h;cases h
end L2
namespace L2
open PySem PySem.Spec PyProof.Rows
section
variable {κ:Type}[DecidableEq κ]
def nT(aj:List (κ×V))(k:κ):Option V:=(aj.find? λkv=>decide (kv.1=k)).map (·.2)
def jv(aj:List (κ×V))(k:κ)(v:V):List (κ×V):=
 if(aj.any λkv=>decide (kv.1=k))=true then aj.map (λkv=>if kv.1=k then(kv.1,v) else kv) else aj++ [(k,v)]
theorem AL{p:κ×V}(e:p.1=k):nT (p::r) k=some p.2:=by simp[nT,Ac,e]
theorem AM{p:κ×V}(e:¬ p.1=k):nT (p::r) k=nT r k:=by simp[nT,Ac,e]
theorem LD(k:κ):∀aj:List (κ×V),(aj.any λkv=>decide (kv.1=k))=(nT aj k).isSome
 | []=>rfl
 |p::r=>by
  rw[wU];by_cases e:p.1=k
  ·simp only[AL e,decide_eq_true e,Bool.true_or,ad5]
  ·rw[AM e,decide_eq_false e,Bool.false_or];exact LD k r
theorem Ea(aj:List (κ×V))(k:κ)(v:V):(jv aj k v).length<=aj.length + 1:=by
 unfold jv
 split
 ·rw[dC];lia
 ·rw[bQ,fN,JD];lia
theorem j3.Eb(r:j3 o u):o.isSome=u.isSome:=by
 cases o with
 |none=>cases u with
  |none=>rfl
  |some _=>exact(show False from r).elim
 |some _=>cases u with
  |none=>exact(show False from r).elim
  |some _=>rfl
theorem j3.getD(r:j3 o u)(rd:RelV d d'):RelV (o.getD d) (u.getD d'):=by
 cases o with
 |none=>cases u with
  |none=>exact rd
  |some _=>exact(show False from r).elim
 |some _=>cases u with
  |none=>exact(show False from r).elim
  |some _=>exact r
theorem KV.val(r:KV aj vs)(k:κ):j3 (nT aj k) (wJ vs k):=by
 unfold KV at r
 induction r with
 |nil=>exact kM
 | @cons p q ps qs h t ih=>
  obtain⟨h1,h2⟩:=h;by_cases e:p.1=k
  ·have e':q.1=k:=h1.symm.trans e;have b:wJ (q::qs) k=some q.2:=by simp[wJ,Ac,e']
   rw[AL e,b];exact h2
  ·have e':¬ q.1=k:=λz=>e (h1.trans z);have b:wJ (q::qs) k=wJ qs k:=by simp[wJ,Ac,e']
   rw[AM e,b];exact ih
theorem KV.any(r:KV aj vs)(k:κ):(aj.any λkv=>decide (kv.1=k))=vs.any λkv=>decide (kv.1=k):=by
 unfold KV at r
 induction r with
 |nil=>rfl
 |cons h t ih=>rw[wU,wU,ih,h.1]
theorem KV.Ec(r:KV aj vs)(k:κ)(ry:RelV y u):
  KV (aj.map λkv=>if kv.1=k then(kv.1,y) else kv) (vs.map λkv=>if kv.1=k then(kv.1,u) else kv):=by
 unfold KV at r |-
 induction r with
 |nil=>exact .nil
 | @cons p q ps qs h t ih=>
  rw[dZ,dZ];refine .cons ?_ ih;obtain⟨h1,h2⟩:=h;by_cases e:p.1=k
  ·rw[if_pos e,if_pos (h1.symm.trans e)];exact⟨h1,ry⟩
  ·rw[if_neg e,if_neg (λz=>e (h1.trans z))];exact⟨h1,h2⟩
theorem KV.put(r:KV aj vs)(k:κ)(ry:RelV y u):KV (jv aj k y) (stored vs k u):=by
 unfold jv stored;rw[r.any k];by_cases e:(vs.any λkv=>decide (kv.1=k))=true
 ·rw[if_pos e,if_pos e];exact r.Ec k ry
 ·rw[if_neg e,if_neg e];exact Paired.snoc r ⟨rfl,ry⟩
theorem KV.length(r:KV aj vs):aj.length=vs.length:=Jq r
end
theorem u1(r:RelV (kV k) u):(jB P w).is k u=true:=by
 cases k with
 |inl i=>obtain⟨t,e⟩:=(show ∃t,u=wL i t from r);subst e;exact S3 P w i t
 |inr x=>obtain⟨t,e⟩:=(show ∃t,u=zF x t from r);subst e;exact S4 P w x t
theorem LF:∀{ks:List aY} {us:List Value},bA (ks.map kV) us->ItemsAre (jB P w) ks us
 | [],_,r=>by rw[jz]at r;cases r;exact .nil
 |k::ks,_,r=>by
  rw[dZ]at r;cases r with
  |cons h t=>exact .cons (u1 h) (LF t)
abbrev KT(H:Hp):List (List aY×V)->List (List aY×Addr×Value)->Prop:=Paired λp q=>p.1=q.1/\H q.2.1=some (.tup (p.1.map kV))/\RelV p.2 q.2.2
theorem KT.val(r:KT H aj xs)(k:List aY):j3 (nT aj k) ((atKey xs k).map (·.2)):=by
 induction r with
 |nil=>exact kM
 | @cons p q ps qs h t ih=>
  obtain⟨h1,_,h2⟩:=h;by_cases e:p.1=k
  ·have e':q.1=k:=h1.symm.trans e;have b:atKey (q::qs) k=some q.2:=by simp[atKey,Ac,e']
   rw[AL e,b];exact h2
  ·have e':¬ q.1=k:=λz=>e (h1.trans z);have b:atKey (q::qs) k=atKey qs k:=by simp[atKey,Ac,e']
   rw[AM e,b];exact ih
theorem KT.Ec(r:KT H aj xs)(k:List aY)(ry:RelV y u):
  KT H (aj.map λkv=>if kv.1=k then(kv.1,y) else kv) (xs.map (putAt k u)):=by
 induction r with
 |nil=>exact .nil
 | @cons p q ps qs h t ih=>
  rw[dZ,dZ];refine .cons ?_ ih;obtain⟨h1,h2,h3⟩:=h;unfold putAt;by_cases e:p.1=k
  ·rw[if_pos e,if_pos (h1.symm.trans e)];exact⟨h1,h2,ry⟩
  ·rw[if_neg e,if_neg (λz=>e (h1.trans z))];exact⟨h1,h2,h3⟩
theorem KT.put(r:KT H aj xs)(k:List aY)(hb:H b=some (.tup (k.map kV)))(ry:RelV y u):
  KT H (jv aj k y) (storedH xs k b u):=by
 have e:(aj.any λkv=>decide (kv.1=k))=(atKey xs k).isSome:=by
  rw[LD,(r.val k).Eb,Se]
 unfold jv storedH;rw[e];by_cases q:(atKey xs k).isSome=true
 ·rw[if_pos q,if_pos q];exact r.Ec k ry
 ·rw[if_neg q,if_neg q];exact Paired.snoc r ⟨rfl,hb,ry⟩
theorem KT.keeps(r:KT H aj xs)(ht:∀b ys,H b=some (.tup ys)->H' b=some (.tup ys)):KT H' aj xs:=
 Paired.Dq r λ_ _ z=>⟨z.1,ht _ _ z.2.1,z.2.2⟩
section
theorem LG(ok:gY P w H h)(e:Rd H a u):fZ P w H h a u:=e.ok ok
theorem qg(ok:gY P w H h)(e:Rd H a (.dK aj)):aj.length<=aK/\(a == oS)=false/\∃vs,KV aj vs/\h.DictOf (jB P w) a vs:=
 show fZ P w H h a (.dK aj) from LG ok e
theorem LH(ok:gY P w H h)(e:H a=some (.dK aj)):aj.length<=aK/\(a == oS)=false/\∃vs,KV aj vs/\h.DictOf (jB P w) a vs:=qg ok (.inl e)
theorem xy(ok:gY P w H h)(e:H a=some (.tup (ks.map kV))):(zt (jB P w)).is h ks a:=by
 obtain⟨_,ai,r,o,h1,h2,n,h3⟩:=(show fZ P w H h a (.tup (ks.map kV)) from ok a _ e)
 exact⟨o,ai.toArray,n,h1,h2,h3,by simpa using LF r⟩
theorem u3(ok:gY P w H h)(e:Rd H a (.dT aj)):aj.length<=aK/\(a == oS)=false/\
  ∃xs,KT H aj xs/\h.DictOfH (zt (jB P w)) a xs:=by
 obtain⟨z,y,xs,r,o,es,ep,h1,h2,h3,h4,h5⟩:=(show fZ P w H h a (.dT aj) from LG ok e)
 refine⟨z,y,xs,r,o,es,ep,h1,h2,h3,h4,λx hx=> ?_,h5⟩;have all:∀{l:List (List aY×V)} {m:List (List aY×Addr×Value)},KT H l m->∀x∈m,(zt (jB P w)).is h x.1 x.2.1:=by
  intro l m q
  induction q with
  |nil=>intro x hx;exact nomatch hx
  | @cons p q ps qs hq t ih=>
   intro x hx;rcases gK.mp hx with e | hx
   ·subst e;exact xy ok (by rw[<- hq.1];exact hq.2.1)
   ·exact ih x hx
 exact all r x hx
theorem Vn(ok:gY P w H h)(e:H a=some (.dT aj)):aj.length<=aK/\(a == oS)=false/\
  ∃xs,KT H aj xs/\h.DictOfH (zt (jB P w)) a xs:=u3 ok (.inl e)
end
def rA(H:Hp)(a:Addr)(y:V)(r:Option V):Prop:=
 (∃aj k,Rd H a (.dK aj)/\y=kV k/\r=nT aj k)\/∃aj k b,Rd H a (.dT aj)/\y= .ref b/\H b=some (.tup (k.map kV))/\r=nT aj k
def LI(H:Hp)(a:Addr)(y v:V)(H':Hp):Prop:=
 (∃aj k,H a=some (.dK aj)/\y=kV k/\aj.length < aK/\H'=aP H a (.dK (jv aj k v)))\/
 ∃aj k b,H a=some (.dT aj)/\y= .ref b/\H b=some (.tup (k.map kV))/\aj.length < aK/\H'=aP H a (.dT (jv aj k v))
section
theorem Inv.big(I:Inv X aa σ H s):oS < s.heap.objs.size:=by
 have h:mr < s.heap.objs.size:=(I.mod.glob.keeps I.bk).lt;exact Nat.lt_trans (by decide) h
theorem Vo(hu:A.units + 1 < cLine)(I:Inv X aa σ H s)(g:rA H a y (some v))(ry:RelV y u)(h:∀w' s',Inv X aa σ H s'->RelV v w'->Q w' s'):
  wpAny (model X.prog X.w) A (uv (.ref a) u) Q E s:=by
 rcases g with⟨aj,k,e,ey,l⟩ | ⟨aj,k,b,e,ey,eb,l⟩
 ·subst ey;obtain⟨z,hd,vs,gx,dd⟩:=qg I.aT e;obtain⟨w',hw,nS⟩:=j3.some_of (v:=v) (o:=wJ vs k) (by rw[l];exact gx.val k);exact wpAny_getItem_of (u1 ry) dd.mapOf hw (h w' _ (I.tok _) nS)
 ·subst ey;cases(show u=gw b from ry);obtain⟨z,hd,xs,gx,dd⟩:=u3 I.aT e;obtain⟨w',hw,nS⟩:=j3.some_of (v:=v) (o:=(atKey xs k).map (·.2)) (by rw[l];exact gx.val k);obtain⟨p,hp,pk⟩:=aV.mp hw;refine wpAny_getItem_heap (Jf hu) (xy I.aT eb) dd hp ?_;rw[pk];exact h w' _ (I.tok _) nS
theorem Vp(hu:A.units + 1 < cLine)(I:Inv X aa σ H s)(g:rA H a y o)(ry:RelV y u)(h:∀s',Inv X aa σ H s'->Q (.bool o.isSome) s'):
  wpAny (model X.prog X.w) A (jy .In u (.ref a)) Q E s:=by
 rcases g with⟨aj,k,e,ey,l⟩ | ⟨aj,k,b,e,ey,eb,l⟩
 ·subst ey;obtain⟨z,hd,vs,gx,dd⟩:=qg I.aT e;refine wpAny_in_of (u1 ry) hd dd.mapOf ?_;rw[<- (gx.val k).Eb, <- l];exact h _ (I.tok _)
 ·subst ey;cases(show u=gw b from ry);obtain⟨z,hd,xs,gx,dd⟩:=u3 I.aT e;refine wpAny_in_heap (Jf hu) (xy I.aT eb) hd dd ?_;have q:=(gx.val k).Eb;rw[Se]at q;rw[<- q, <- l];exact h _ (I.tok _)
theorem Ed{t':Nat}(I:Inv X aa σ H s)(mu:jk (H a))(hs:Jr a s.heap h')(he:∃q,h'.get? a=some q)(new:fZ X.prog X.w (aP H a ob) h' a ob):
  Inv X aa σ (aP H a ob) { s with heap:=h',toks:=t' }:=
 I.write (x:=a) (e:=a) mu (.inl rfl) (λb q hb z=>(hs.2 b hb).trans z) he new
theorem LJ{P:Program}{w:World}{H':Hp}(z:aj.length<=aK)(hd:(a == oS)=false)(gx:KV aj vs)(dd:h'.DictOf (jB P w) a vs):
  fZ P w H' h' a (.dK aj):=⟨z,hd,vs,gx,dd⟩
theorem Vq(hu:A.units + 1 < cLine)(I:Inv X aa σ H s)(g:LI H a y v H')(ry:RelV y u)(rv:RelV v r)(h:∀s',Inv X aa σ H' s'->Q () s'):
  wpAny (model X.prog X.w) A (setItem (.ref a) u r) Q E s:=by
 rcases g with⟨aj,k,e,ey,l,eH⟩ | ⟨aj,k,b,e,ey,eb,l,eH⟩
 ·subst ey eH;obtain⟨z,hd,vs,gx,dd⟩:=LH I.aT e;have hz:vs.length<=aK:=by rw[<- gx.length];exact z
  have hl:(jv aj k v).length<=aK:=by have:=Ea aj k v;lia
  refine wpAny_setItem_pairs (hsz:=hz) (u1 ry) dd λh' sT hs=>h _ ?_;have he:∃q,h'.get? a=some q:=let ⟨q,_,_,hq,_⟩:=sT;⟨q,hq⟩;exact Ed I (by rw[e];exact kM) hs he (LJ hl hd (gx.put k rv) sT)
 ·subst ey eH;cases(show u=gw b from ry);obtain⟨z,hd,xs,gx,dd⟩:=Vn I.aT e;have hz:xs.length<=aK:=by rw[<- Jq gx];exact z
  have hl:(jv aj k v).length<=aK:=by have:=Ea aj k v;lia
  refine wpAny_setItem_heap (hsz:=hz) (Jf hu) (xy I.aT eb) dd λh' sT hs=>h _ ?_;obtain⟨q,es,ep,hq,h2,h3,h4,_,h5⟩:=sT;refine Ed I (by rw[e];exact kM) hs ⟨q,hq⟩ ⟨hl,hd,_,(gx.put k eb rv).keeps λc ys ec=> ?_,q,es,ep,hq,h2,h3,h4,h5⟩;rw[de (S5 ec e (λz=>nomatch z))];exact ec
end
section
theorem Vr(I:Inv X aa σ H s)(e:Rd H a (.dK aj))(h:∀t s',Inv X aa σ H s'->Q (.int aj.length t) s'):wpAny (model X.prog X.w) A (call (.builtin "len") [.ref a]) Q E s:=by
 obtain⟨z,hd,vs,gx,dd⟩:=qg I.aT e;refine call_len_dict hd dd (by rw[<- gx.length];rw[C0]at z;lia) ?_;rw[<- gx.length];exact h _ _ (I.tok _)
end
theorem Vu{X:Cx}{aa:List (Addr×Obj)}{σ:St}{H:Hp}{s:Shared}{a:Addr}{y:V}{o:Option V}(I:Inv X aa σ H s)(g:rA H a y o):s.TypeIs (.ref a) "dict":=by
 rcases g with⟨aj,k,e,_,_⟩ | ⟨aj,k,b,e,_,_,_⟩
 ·obtain⟨_,_,vs,_,dd⟩:=qg I.aT e;exact dd.typeIs
 ·obtain⟨_,_,xs,_,dd⟩:=u3 I.aT e;exact dd.typeIs
def Ee(td ty tv:TE):TS:=λD σ H=>tv σ H λv H1=>td σ H1 λx H2=>ty σ H2 λy H3=>∃a H4,x= .ref a/\LI H3 a y v H4/\D.nx σ H4
section
theorem qh(hu:X.A.units + 1 < cLine)(ho:PE X o td)(hi:PE X i ty)(hv:PE X value tv)(hs:wB value (some (.Subscript o i pos')) pos.line X.env=pure false):
  PS X (.Assign [.Subscript o i pos'] value pos) (Ee td ty tv):=by
 intro aa s σ H D I h;refine wpAny_Assign_Subscript (bG (hv aa s σ H _ I h) λr s1 ⟨v,H1,I1,rv,q1⟩=>bG (ho aa s1 σ H1 _ I1 q1) λu s2 ⟨x,H2,I2,rx,q2⟩=>bG (hi aa s2 σ H2 _ I2 q2) λiv s3 ⟨y,H3,I3,ry,a,H4,ex,g,q3⟩=> ?_) hs;subst ex;obtain rfl:u=gw a:=rx;exact Vq hu I3 g ry rv λs4 I4=>⟨σ,H4,I4,q3⟩
end
theorem LK{P:Program}{w:World}{H:Hp}(h:Heap)(hb:oS < h.objs.size):fZ P w H (h.push { cls:= .type "dict",data:= .dict #[] }) h.objs.size (.dK []):=
 ⟨jj _,beq_eq_false_iff_ne.mpr (jO (jh hb)), [], .nil,Heap.DictOf.new h⟩
theorem Vv{P:Program}{w:World}{H:Hp}(h:Heap)(hb:oS < h.objs.size):fZ P w H (h.push { cls:= .type "dict",data:= .dict #[] }) h.objs.size (.dT []):=
 ⟨jj _,beq_eq_false_iff_ne.mpr (jO (jh hb)), [], .nil,_,#[],0,jP _ rfl,⟨rfl,rfl,rfl⟩,rfl,rfl,se⟩
def LM:TE:=λ_ H Q=>∀p,H p=none->Q (.ref p) (aP H p (.dK []))
def LN:TE:=λ_ H Q=>∀p,H p=none->Q (.ref p) (aP H p (.dT []))
section
theorem xA:PE X (.Dict [] [] pos) LM:=λaa s σ H Q I h=>
 wpAny_Dict_empty ⟨.ref s.heap.objs.size,_,I.laid (a:=s.heap.objs.size) (o:= .dK []) (t':=s.toks) (λ_ _ q=>gy _ q) (bK _) (LK s.heap I.big),rfl,h _ (I.aT.fresh (bK _))⟩
theorem Vx:PE X (.Dict [] [] pos) LN:=λaa s σ H Q I h=>
 wpAny_Dict_empty ⟨.ref s.heap.objs.size,_,I.laid (a:=s.heap.objs.size) (o:= .dT []) (t':=s.toks) (λ_ _ q=>gy _ q) (bK _) (Vv s.heap I.big),rfl,h _ (I.aT.fresh (bK _))⟩
end
def AN:List (TE×TE)->St->Hp->(List (V×V)->Hp->Prop)->Prop
 | [],_,H,Q=>Q [] H
 |(tk,tv)::r,σ,H,Q=>tk σ H λx H1=>tv σ H1 λy H2=>AN r σ H2 λps H3=>Q ((x,y)::ps) H3
abbrev VV:List (V×V)->List (Value×Value)->Prop:=Paired λp q=>RelV p.1 q.1/\RelV p.2 q.2
def xB(X:Cx)(pos:Pos)(keys:List (Option Expr))(values:List Expr)(lT:List (TE×TE)):Prop:=
 ∀(aa:List (Addr×Obj)) (s:Shared) (σ:St) (H:Hp) (Q:List (V×V)->Hp->Prop),Inv X aa σ H s->AN lT σ H Q->
  wpAny (model X.prog X.w) X.A (evalPairs (pairTrees keys values X.env pos)) (λvs s'=>∃ps H',Inv X aa σ H' s'/\VV ps vs/\Q ps H') X.xe s
theorem Ef{X:Cx}{pos:Pos}:xB X pos [] [] []:=λaa s σ H Q I h=>pairTrees_nil_walk ⟨[],H,I, .nil,h⟩
theorem rB{X:Cx}{pos:Pos}{k v:Expr}{tk tv:TE}(hk:PE X k tk)(hv:PE X v tv)(hr:xB X pos ks vs lT):
  xB X pos (some k::ks) (v::vs) ((tk,tv)::lT):=λaa s σ H Q I h=>
 pairTrees_cons_walk (bG (hk aa s σ H _ I h) λu s1 ⟨x,H1,I1,rx,q1⟩=>bG (hv aa s1 σ H1 _ I1 q1) λw2 s2 ⟨y,H2,I2,ry,q2⟩=>
  bG (hr aa s2 σ H2 _ I2 q2) λws s3 ⟨ps,H3,I3,gx,q3⟩=>⟨(x,y)::ps,H3,I3, .cons ⟨rx,ry⟩ gx,q3⟩)
def nV(aj more:List (aY×V)):List (aY×V):=more.foldl (λdJ kv=>jv dJ kv.1 kv.2) aj
theorem KV.merge:∀{more:List (aY×V)} {rs:List (aY×Value)} {aj:List (aY×V)} {vs:List (aY×Value)},KV more rs->KV aj vs->KV (nV aj more) (merged vs rs):=by
 intro more rs aj vs r;unfold KV at r
 induction r generalizing aj vs with
 |nil=>intro q;exact q
 | @cons p q ps qs h t ih=>
  intro r0;have e:KV (jv aj p.1 p.2) (stored vs q.1 q.2):=by
   have:=r0.put p.1 h.2;rw[<- h.1];exact this
  exact ih e
theorem LO:∀(more aj:List (aY×V)),(nV aj more).length<=aj.length + more.length
 | [],aj=>by show aj.length<=aj.length + 0;lia
 |p::r,aj=>by
  have h1:=LO r (jv aj p.1 p.2);have h2:=Ea aj p.1 p.2;show(nV (jv aj p.1 p.2) r).length<=_;rw[fN];lia
theorem LP{P:Program}{w:World}:∀{aj:List (aY×V)} {ws:List (Value×Value)},VV (aj.map λkv=>(kV kv.1,kv.2)) ws->∃rs,Carries (jB P w) ws rs/\KV aj rs
 | [],_,r=>by rw[jz]at r;cases r;exact⟨[],kM, .nil⟩
 |p::aj,_,r=>by
  rw[dZ]at r;cases r with
  | @cons a b as bs h t=>
   obtain⟨rs,c,q⟩:=LP (P:=P) (w:=w) t;obtain⟨b1,b2⟩:=b;exact⟨(p.1,b2)::rs,⟨u1 h.1,rfl,c⟩, .cons ⟨rfl,h.2⟩ q⟩
def xC(lT:List (TE×TE)):TE:=λσ H Q=>∀p,H p=none->AN lT σ (aP H p (.dK [])) λps H2=>H2 p=some (.dK [])/\∃aj:List (aY×V),ps=aj.map (λkv=>(kV kv.1,kv.2))/\aj.length<=15/\Q (.ref p) (aP H2 p (.dK (nV [] aj)))
theorem LQ{X:Cx}{pos:Pos}(h:xB X pos keys values lT)(qe:keys.all (·.isSome)=true)(hl:keys.length=values.length)(h0:keys≠ [])
  (Eg:keys.length<=15):PE X (.Dict keys values pos) (xC lT):=by
 intro aa s σ H Q I q;have hn:=I.aT.fresh (bK s.heap.objs.size);have I1:=I.laid (a:=s.heap.objs.size) (o:= .dK []) (h':=s.heap.push { cls:= .type "dict",data:= .dict #[] }) (t':=s.toks) (λ_ _ q=>gy _ q) (bK _) (LK s.heap I.big);refine wpAny_Dict_walk (knd:=jB X.prog X.w) qe hl h0 Eg (bG (h aa _ σ _ _ I1 (q _ hn)) λws s2 ⟨ps,H2,I2,gx,e,aj,ep,lk,q2⟩=> ?_);subst ep;obtain⟨rs,c,rk⟩:=LP (P:=X.prog) (w:=X.w) gx;obtain⟨z,hd,aeQ,r0,dd⟩:=LH I2.aT e;cases r0;refine⟨rs,c,dd,λh' sT hs=>⟨.ref s.heap.objs.size,_, ?_,rfl,q2⟩⟩;have hz:(nV [] aj).length<=aK:=by
  have h1:=LO aj [];rw[JD]at h1;rw[C0];lia
 have he:∃q,h'.get? s.heap.objs.size=some q:=let ⟨q,_,_,hq,_⟩:=sT;⟨q,hq⟩;exact Ed I2 (by rw[e];exact kM) hs he (LJ hz hd (rk.merge .nil) sT)
structure M2(X:Cx)(o:Expr)(m:Str)(iX:Pos)(e f:Expr)(j4:Pos):Prop where
 base:qM o m X.env (eval o X.env)=eval o X.env
 lU:((backTo j4 (cD [e,f] X.env)).all (λx=> !x.1) && (wC j4 (wF [] X.env)).all (λx=>x.1.isSome)
  && decide (([e,f]:List Expr).length + ([]:List Keyword).length + (if([]:List Keyword).isEmpty then 0 else 1) < 30))=true
 line:(iX.endLine == j4.line)=true
 trees:backTo j4 (cD [e,f] X.env)= [(false,eval e X.env),(false,eval f X.env)]
def Eh(H:Hp)(a:Addr):Prop:=(∃aj,Rd H a (.dK aj))\/∃aj,Rd H a (.dT aj)
theorem Vy{X:Cx}{aa:List (Addr×Obj)}{σ:St}{H:Hp}{s:Shared}{a:Addr}(I:Inv X aa σ H s)(d:Eh H a):
  s.TypeIs (.ref a) "dict"/\(∀b,gw a= .ref b->∃ob,s.heap.get? b=some ob/\ob.dict=none)/\(a == oS)=false:=by
 rcases d with⟨aj,e⟩ | ⟨aj,e⟩
 ·obtain⟨_,hd,vs,_,dd⟩:=qg I.aT e;refine⟨dd.typeIs,λb q=> ?_,hd⟩;cases q;obtain⟨ob,_,_,h1,h2,_⟩:=dd;exact⟨ob,h1,h2.2.1⟩
 ·obtain⟨_,hd,xs,_,dd⟩:=u3 I.aT e;refine⟨dd.typeIs,λb q=> ?_,hd⟩;cases q;obtain⟨ob,_,_,h1,h2,_⟩:=dd;exact⟨ob,h1,h2.2.1⟩
section
theorem Vz(hu:A.units + 1 < cLine)(I:Inv X aa σ H s)(g:rA H a y o)(ry:RelV y u)(rd:RelV d r)(h:∀w' s',Inv X aa σ H s'->RelV (o.getD d) w'->Q w' s'):
  wpAny (model X.prog X.w) A (call (.builtin "dict.get") [.ref a,u,r]) Q E s:=by
 rcases g with⟨aj,k,e,ey,l⟩ | ⟨aj,k,b,e,ey,eb,l⟩
 ·subst ey;obtain⟨z,hd,vs,gx,dd⟩:=qg I.aT e;refine RP Sf dd.typeIs ad6 (ad7 _ _ _) (meets_dict_get_default (jB X.prog X.w) a (u1 ry) hd r) ⟨_,dd.mapOf,h _ _ (I.tok _) ?_⟩;rw[l];exact(gx.val k).getD rd
 ·subst ey;cases(show u=gw b from ry);obtain⟨z,hd,xs,gx,dd⟩:=u3 I.aT e;refine RP Sf dd.typeIs ad6 (ad7 _ _ _) (meetsH_dict_get_default (zt (jB X.prog X.w)) a b hd r) ⟨Jf hu,k,xs,xy I.aT eb,dd,h _ _ (I.tok _) ?_⟩;rw[l];exact(gx.val k).getD rd
end
def LR(td ty tx:TE):TE:=λσ H Q=>td σ H λx H1=>∃a,x= .ref a/\Eh H1 a/\ty σ H1 λy H2=>tx σ H2 λz H3=>∃o,rA H3 a y o/\Q (o.getD z) H3
section
theorem xD(hu:X.A.units + 1 < cLine)(ho:PE X o td)(he:PE X e ty)(hf:PE X f tx)(m:M2 X o "get" iX e f j4):PE X (.Call (.Attribute o "get" iX) [e,f] [] j4) (LR td ty tx):=by
 intro aa s σ H Q I h;refine wpAny_Call_method m.base m.lU m.line ad8 Sf PySem.F.type_dict_get (bG (ho aa s σ H _ I h) λu s1 ⟨x,H1,I1,rx,a,ex,d,q1⟩=> ?_);subst ex;obtain rfl:u=gw a:=rx;obtain⟨t1,t2,_⟩:=Vy I1 d;refine⟨t1,t2, ?_⟩;rw[m.trees];refine JC rfl (ad3 (R4 (bG (he aa s1 σ H1 _ I1 q1) λiv s2 ⟨y,H2,I2,ry,q2⟩=>
  R4 (bG (hf aa s2 σ H2 _ I2 q2) λfv s3 ⟨z,H3,I3,rz,ov,g,q3⟩=>adU ?_))))
 exact Vz hu I3 g ry rz λw' s4 I4 nS=>⟨_,H3,I4,nS,q3⟩
end
section
end
section
end
end L2
namespace L2
open PySem PySem.Spec PyProof.Rows
section
end
section
variable {κ:Type}[DecidableEq κ]
end
end L2
namespace L2
open PySem PySem.Spec PyProof.Rows
section
end
section
end
def sU(i j:Int):Prop:=0 < j/\j < 2 ^ 200
theorem VA{j:Int}(h0:0 < j)(h:j < 2 ^ 200):j.natAbs.log2 < 9000:=by
 have e:j.natAbs < 2 ^ 200:=by
  have:(j.natAbs:Int)=j:=Int.natAbs_of_nonneg (Sg h0);have h2:(j.natAbs:Int) < ((2 ^ 200:Nat):Int):=by rw[this];exact_mod_cast h
  exact_mod_cast h2
 have:j.natAbs.log2 < 200:=(Nat.log2_lt (by lia)).mpr e
 lia
section
theorem LS:dP X (mw .FloorDiv) (rI sU λi j=> .int (i / j)):=Ax λi j _ _ _ _ _ hc q=>by
 have h1:(0:Int) < j:=hc.1;exact floordiv_int (by lia) (by rw[Int.fdiv_eq_ediv_of_nonneg i (by lia)];exact q) (.inl (PyProof.noPylong_of_log2 (VA hc.1 hc.2)))
theorem VB:i5 X (.builtin "isinstance") (λxs H Q=>∃x t b,xs= [x, .ty T]/\kU X.K H x t/\uD X.K t (.type T)=some b/\Q (.bl b) H):=by
 intro aa s σ H xs us Q I r h;obtain⟨x,t,b,rfl,ty,e,q⟩:=h;obtain⟨u,w',rfl,ru,rt⟩:=vals2 r;cases rt;exact Ui I ru ty e λtk=>⟨.bl b,H,I.tok tk,rfl,q⟩
end
end L2
namespace L2
open PySem PySem.Spec PyProof.Rows
theorem Ei(env:Env):∀(ns:List (Str×dE)) (dJ:List (Str×Addr)),(∀y∈ns,y.2= .free->∃c,env.cells.lookup y.1=some c)->
  ∃new:List (Str×Addr),(∀p∈new,env.cells.lookup p.1=some p.2)/\(∀y∈ns,y.2= .free->∃c,(y.1,c)∈new)/\
   (forIn ns dJ (λ(x:Str×dE) (r:List (Str×Addr))=>match x with
    |(name,kind)=>if(kind == my)=true then do let c <- cellOf env name;pure (uG ((name,c)::r)) else pure (uG r)):Sem (List (Str×Addr)))=pure (new++dJ)
 | [],dJ,_=>⟨[],λ_ h=>(nomatch h),λ_ h=>(nomatch h),rfl⟩
 |(n,k)::rest,dJ,h=>by
  by_cases hk:k= .free
  ·subst hk;obtain⟨c,hc⟩:=h (n, .free) mY rfl;obtain⟨new,h1,h2,h3⟩:=Ei env rest ((n,c)::dJ) λy hy=>h y (jZ _ hy);refine⟨new++ [(n,c)],λp hp=> ?_,λy hy hf=> ?_, ?_⟩
   ·rcases iG.mp hp with z | z
    ·exact h1 p z
    ·obtain rfl:=cE.mp z;exact hc
   ·rcases gK.mp hy with z | z
    ·subst z;exact⟨c,by simp⟩
    ·obtain⟨c',z'⟩:=h2 y z hf;exact⟨c',uB _ z'⟩
   ·rw[Sh];have e1:cellOf env n=pure c:=by unfold cellOf;rw[hc]
    simp only[beq_self_eq_true,if_true,e1];rw[dt];exact h3
  ·obtain⟨new,h1,h2,h3⟩:=Ei env rest dJ λy hy=>h y (jZ _ hy);refine⟨new,h1,λy hy hf=> ?_, ?_⟩
   ·rcases gK.mp hy with z | z
    ·subst z;exact absurd hf hk
    ·exact h2 y z hf
   ·rw[Sh];have e1:(k == my)=false:=by simpa using hk
    simp only[e1,Bool.false_eq_true,if_false];exact h3
theorem adF{l:List (Str×Addr)}(h:(x,c)∈l):∃c',l.lookup x=some c':=by
 induction l with
 |nil=>cases h
 |cons p r ih=>
  obtain⟨y,d⟩:=p;rw[mz];cases e:x == y with
  |true=>exact⟨d,rfl⟩
  |false=>
   rcases gK.mp h with z | z
   ·have:x=y:=congrArg Si z;rw[this]at e;simp at e
   ·exact ih z
theorem LU{scope:Scope}{env:Env}(h:∀y∈scope.names,y.2= .free->∃c,env.cells.lookup y.1=some c):
  ∃cl,closureFor scope env=pure cl/\(∀x c,cl.lookup x=some c->env.cells.lookup x=some c)/\(∀y∈scope.names,y.2= .free->∃c,cl.lookup y.1=some c):=by
 obtain⟨new,h1,h2,h3⟩:=Ei env scope.names [] h;refine⟨new, ?_,λx c e=>h1 _ (uE e),λy hy hf=> ?_⟩
 ·rw[eW]at h3;have e:closureFor scope env=((forIn scope.names ([]:List (Str×Addr)) (λ(x:Str×dE) (r:List (Str×Addr))=>match x with
    |(name,kind)=>if(kind == my)=true then do let c <- cellOf env name;pure (uG ((name,c)::r)) else pure (uG r)):Sem (List (Str×Addr))) >>= λr=>pure r):=rfl
  rw[e,h3];rfl
 ·obtain⟨c,hc⟩:=h2 y hy hf;exact adF hc
section
theorem VC{elt target iter:Expr}{ifs:List Expr}{scope:Scope}{pos:Pos}{it dJ:Value}{env:Env}(I:Nat->Shared->Prop)
  (turn:∀n s,I n s->wpAny (model prog w) A (pyNext it) (λr dQ=>match r with
   |none=>R (.ok .next) dQ
   |some v=>wpAny (model prog w) A (Jc target it v) (λ_ LV=>wpAny (model prog w) A (assign target env v) (λ_ Aw=>
     wpAny (model prog w) A (forIn ifs true λc r=>if r=true then do let ok <- isTrue c env (eval c env);pure (uG ok) else pure (uG r)) (λok nW=>
      if ok=true then wpAny (model prog w) A (eval elt env) (λx AO=>
       wpAny (model prog w) A (call (.builtin "list.append") [dJ,x]) (λ_ LW=>∃m,m < n/\I m LW) (zC (model prog w) A env λe s'=>R (.error e) s') AO) (zC (model prog w) A env λe s'=>R (.error e) s') nW
      else ∃m,m < n/\I m nW) (zC (model prog w) A env λe s'=>R (.error e) s') Aw) (zC (model prog w) A env λe s'=>R (.error e) s') LV) (zC (model prog w) A env λe s'=>R (.error e) s') dQ) (zC (model prog w) A env λe s'=>R (.error e) s') s)
  (n:Nat) (h:I n s):
  mx (model prog w) A (.compLoop (.ListComp elt [⟨target,iter,ifs,0⟩] scope pos) 0 it dJ env) R s:=by
 refine codeAny_loop rfl I (λn s hI=> ?_) n h;show wpAny _ A ((compTurn (.ListComp elt [⟨target,iter,ifs,0⟩] scope pos) 0 it dJ env).onRaise (λx=>do noteFrame x env;theTreesLotGoes x)) _ _ s;refine wpAny_noted ?_;rw[compTurn_list];refine aW (RG (aW (lr (turn n s hI) (λr dQ xE=> ?_) λ_ _ h'=>h')));cases r with
 |none=>exact cJ xE
 |some v=>
  refine aW (lr xE (λ_ LV VD=> ?_) λ_ _ h'=>h');refine aW (lr VD (λ_ Aw VE=>aW (lr VE (λok nW LX=> ?_) λ_ _ h'=>h')) λ_ _ h'=>h');cases ok with
  |false=>exact cJ ⟨rfl,LX⟩
  |true=>
   exact aW (aW (lr LX (λx AO VF=>aW (lr VF (λ_ LW VG=>cJ (cJ ⟨rfl,VG⟩)) λ_ _ h'=>h')) λ_ _ h'=>h'))
end
def i8(X:Cx)(N:List Str)(scope:Scope)(cl:List (Str×Addr))(C:Addr)(s:Shared)(H:Hp)(ex:List Addr)(aa:List (Addr×Obj)):Cx:=
 { X with N:=N,iP:=s,xc:=H,env:=compEnvC scope cl C X.env,outer:=X.stack,stack:=X.stack,ex:=ex,fn:=λx=>scope.names.lookup x == some jA,pn:=X.pn++aa,xe:=λ_ _=>False }
theorem VH{M:Model}{A:Around}{E:Value->Shared->Prop}{s:Shared}{scope:Scope}{globals:Addr}{cl:List (Str×Addr)}{qual:Str}{env:Env}{Q:Env->Shared->Prop}
  (hQ:Q (newEnv scope s.heap.objs.size globals (mU (s.heap.objs.size + 1) scope.names cl) qual none .none (some env) Jb) { s with heap:=uw (s.heap.push { cls:= .type "dict",data:= .dict #[] }) scope.names }):
  wpAny M A (RQ scope globals cl [] qual none .none (some env)) Q E s:=by
 simp only[RQ,ad5,if_true];refine aW (wpAny_alloc ?_);refine aW (wpAny_layCells _ (λname kind cells=>by cases VI:kind == jA <;> simp[VI]) _ _ _ _ ?_);rw[show({ s with heap:=s.heap.push { cls:= .type "dict",data:= .dict #[] } }:Shared).heap.objs.size=s.heap.objs.size + 1 from sd ..];rw[ad9];exact aW (cJ (cJ hQ))
theorem Ej:∀(names:List (Str×dE)) (h:Heap) (dJ:List (Str×Addr)) (x:Str) (c:Addr),(mU h.objs.size names dJ).lookup x=some c->
  (dJ.lookup x=some c/\¬ (x,jA)∈names)\/(h.objs.size<=c/\(x,jA)∈names/\(uw h names).IsCell c none)
 | [],_,_,_,_,e=> .inl ⟨e,λz=>nomatch z⟩
 |(name,kind)::r,h,dJ,x,c,e=>by
  unfold mU at e;unfold uw;by_cases hk:(kind == jA)=true
  ·rw[if_pos hk]at e;rw[if_pos hk];obtain rfl:kind= .cell:=by simpa using hk
   have hs:(h.push { cls:= .type "cell",data:= .cell none }).objs.size=h.objs.size + 1:=sd ..;rw[<- hs]at e;rcases Ej r _ _ x c e with⟨e1,e2⟩ | ⟨e1,e2,e3⟩
   ·rw[mz]at e1;cases hx:x == name with
    |true=>
     rw[hx]at e1;cases e1;obtain rfl:x=name:=by simpa using hx
     exact .inr ⟨bK _,mY,_,Jh _ _ _ _ (jP _ rfl),rfl⟩
    |false=>
     rw[hx]at e1;refine .inl ⟨e1,λz=> ?_⟩;rcases gK.mp z with z | z
     ·have:x=name:=congrArg Si z;rw[this]at hx;simp at hx
     ·exact e2 z
   ·exact .inr ⟨by rw[hs]at e1;exact Nat.le_of_succ_le e1,jZ _ e2,e3⟩
  ·rw[if_neg hk]at e;rw[if_neg hk];rcases Ej r h dJ x c e with⟨e1,e2⟩ | ⟨e1,e2,e3⟩
   ·refine .inl ⟨e1,λz=> ?_⟩;rcases gK.mp z with z | z
    ·have:jA=kind:=congrArg Prod.snd z;rw[<- this]at hk;exact hk rfl
    ·exact e2 z
   ·exact .inr ⟨e1,jZ _ e2,e3⟩
theorem Ek:∀(names:List (Str×dE)) (n:Nat) (dJ:List (Str×Addr)) (x:Str),(x,jA)∈names\/(∃c,dJ.lookup x=some c)->∃c,(mU n names dJ).lookup x=some c
 | [],_,_,_,h=>h.elim (λz=>nomatch z) id
 |(name,kind)::r,n,dJ,x,h=>by
  unfold mU;by_cases hk:(kind == jA)=true
  ·rw[if_pos hk];refine Ek r _ _ x ?_;rw[mz];cases hx:x == name with
   |true=>exact .inr ⟨n,rfl⟩
   |false=>
    rcases h with h | h
    ·rcases gK.mp h with z | z
     ·have:x=name:=congrArg Si z;rw[this]at hx;simp at hx
     ·exact .inl z
    ·exact .inr h
  ·rw[if_neg hk];refine Ek r _ _ x (h.imp (λz=> ?_) id);rcases gK.mp z with z | z
   ·have:jA=kind:=congrArg Prod.snd z;rw[<- this]at hk;exact absurd rfl hk
   ·exact z
theorem Em:∀(names:List (Str×dE)) (n:Nat) (dJ:List (Str×Addr)),(∀x c,dJ.lookup x=some c->c < n)->(∀x y c,dJ.lookup x=some c->dJ.lookup y=some c->x=y)->
  ∀x y c,(mU n names dJ).lookup x=some c->(mU n names dJ).lookup y=some c->x=y
 | [],_,_,_,h=>h
 |(name,kind)::r,n,dJ,hb,hi=>by
  unfold mU;by_cases hk:(kind == jA)=true
  ·rw[if_pos hk];refine Em r _ _ (λx c e=> ?_) λx y c e1 e2=> ?_
   ·rw[mz]at e;cases hx:x == name with
    |true=>rw[hx]at e;cases e;exact C7 _
    |false=>rw[hx]at e;exact JE (hb x c e)
   ·rw[mz]at e1 e2;cases hx:x == name with
    |true=>
     rw[hx]at e1;cases e1;cases hy:y == name with
     |true=>rw[show x=name by simpa using hx,show y=name by simpa using hy]
     |false=>rw[hy]at e2;exact absurd (hb y _ e2) (mV _)
    |false=>
     rw[hx]at e1;cases hy:y == name with
     |true=>rw[hy]at e2;cases e2;exact absurd (hb x _ e1) (mV _)
     |false=>rw[hy]at e2;exact hi x y c e1 e2
  ·rw[if_neg hk];exact Em r n dJ hb hi
structure LY(X:Cx)(scope:Scope)(C:Addr)(h':Heap)(cl:List (Str×Addr)):Prop where
 at_:∀x c,cl.lookup x=some c->(X.env.cells.lookup x=some c/\¬ (x,jA)∈scope.names)\/(C < c/\(x,jA)∈scope.names/\h'.IsCell c none)
 has:∀y∈scope.names,(y.2= .free\/y.2= .cell)->∃c,cl.lookup y.1=some c
 inj:∀x y c,cl.lookup x=some c->cl.lookup y=some c->x=y
def pw(js:List (Option Nat))(σ:St):St:=js.map λo=>o.bind λj=>(σ[j]?).join
structure xF(X:Cx)(N:List Str)(scope:Scope)(js:List (Option Nat)):Prop where
 len:js.length=N.length
 at_:∀(i j:Nat) (x:Str),js[i]?=some (some j)->N[i]?=some x->X.N[j]?=some x/\scope.names.lookup x=some .free/\(X.env.scope.names.lookup x=some .cell\/X.env.scope.names.lookup x=some .free)
 fr:∀y∈scope.names,y.2= .free->X.env.kindOf y.1=some .cell\/X.env.kindOf y.1=some .free
theorem LZ{env:Env}:∀{names:List (Str×dE)} {x:Str},names.lookup x=some .free->
  let r:=(names.map λ(n,k)=>if(k == my && env.scope.kind == .function && env.kindOf n == some .cell) then(n,jA) else(n,k)).lookup x
  r=some .cell\/r=some .free
 | [],_,h=>by simp at h
 |(n,k)::r,x,h=>by
  have ih:=@LZ env r x;show(r9 x ((if(k == my && env.scope.kind == .function && env.kindOf n == some .cell)=true then(n,jA) else(n,k))::_)=_)\/(r9 x ((if(k == my && env.scope.kind == .function && env.kindOf n == some .cell)=true then(n,jA) else(n,k))::_)=_);cases hx:x == n with
  |true=>
   simp only[mz,hx]at h;cases h;by_cases hc:(my == my && env.scope.kind == .function && env.kindOf n == some .cell)=true
   ·rw[if_pos hc];simp only[mz,hx];exact .inl trivial
   ·rw[if_neg hc];simp only[mz,hx];exact .inr trivial
  |false=>
   simp only[mz,hx]at h;by_cases hc:(k == my && env.scope.kind == .function && env.kindOf n == some .cell)=true
   ·rw[if_pos hc];simp only[mz,hx];exact ih h
   ·rw[if_neg hc];simp only[mz,hx];exact ih h
theorem L1{env:Env}:∀{names:List (Str×dE)} {x:Str},
  ((names.map λ(n,k)=>if(k == my && env.scope.kind == .function && env.kindOf n == some .cell) then(n,jA) else(n,k)).lookup x=some .cell\/
   (names.map λ(n,k)=>if(k == my && env.scope.kind == .function && env.kindOf n == some .cell) then(n,jA) else(n,k)).lookup x=some .free)->
  (x,my)∈names\/(x,jA)∈names
 | [],_,h=>by simp at h
 |(n,k)::r,x,h=>by
  have ih:=@L1 env r x;rw[dZ]at h;by_cases hc:(k == my && env.scope.kind == .function && env.kindOf n == some .cell)=true
  ·have e:(match ((n,k):Str×dE) with | (n,k)=>if(k == my && env.scope.kind == .function && env.kindOf n == some .cell)=true then(n,jA) else(n,k))=(n,jA):=if_pos hc;rw[e]at h;simp only[mz]at h;cases hx:x == n with
   |true=>
    have:x=n:=by simpa using hx
    have hk:k= .free:=by
     rw[pV,pV]at hc;simpa using hc.1.1
    rw[this,hk];exact .inl mY
   |false=>
    rw[hx]at h;exact(ih h).imp (jZ _) (jZ _)
  ·have e:(match ((n,k):Str×dE) with | (n,k)=>if(k == my && env.scope.kind == .function && env.kindOf n == some .cell)=true then(n,jA) else(n,k))=(n,k):=if_neg hc;rw[e]at h;simp only[mz]at h;cases hx:x == n with
   |true=>
    have:x=n:=by simpa using hx
    rw[hx]at h;rw[this];rcases h with h | h
    ·cases h;exact .inr mY
    ·cases h;exact .inl mY
   |false=>
    rw[hx]at h;exact(ih h).imp (jZ _) (jZ _)
section
theorem Inv.block{t':Nat}(I:Inv X aa σ H s)(hf:∀b∈fp,iQ X aa H b/\b < s.heap.objs.size)(hC:s.heap.objs.size<=C)(hk:∀b o,s.heap.get? b=some o->h'.get? b=some o)(hn:h'.Ns C m)
  (nR:scope.kind= .function) (oY:∀y∈scope.names,y.2= .cell->scope.names.lookup y.1=some .cell) (cO:LY X scope C h' cl) (pz:xF X N scope js):
  Inv (i8 X N scope cl C s H fp aa) [] (pw js σ) H { s with heap:=h',toks:=t' }:=by
 have aeR:∀x c,X.env.cells.lookup x=some c->c < s.heap.objs.size:=λx c e=>by
  obtain⟨v,q⟩:=I.cell x c e;exact q.lt
 have VJ:∀p∈X.pn++aa,p.1∉lO X.stack:=λp hp z=>by
  obtain⟨_,_,h3,h4,_⟩:=I.pin p hp;rcases gK.mp (I.xh _ z) with q | q
  ·exact h3 q
  ·exact h4 q
 have VM:(i8 X N scope cl C s H fp aa).Ok:=by
  refine⟨I.ok.mod,nR,I.ok.glob,I.ok.blt,hC,cO.inj,λx hx=> ?_,λx c h e=> ?_,I.ok.hd,I.ok.frames, .inl rfl,λb hb=>⟨?_,λx c e=> ?_⟩,I.bs,bW I.ok.oX I.sz,
   λb o e hb=> ?_,λb hb z=> ?_,I.stack,I.JX⟩
  ·rcases L1 (env:=X.env) hx with q | q
   ·exact cO.has _ q (.inl rfl)
   ·exact cO.has _ q (.inr rfl)
  ·have h1:scope.names.lookup x=some jA:=by simpa[i8]using h
   rcases cO.at_ x c e with⟨_,z⟩ | ⟨z,_⟩
   ·exact absurd (uE h1) z
   ·exact bW hC (rY z)
  ·exact jh (ix (hf b hb).2 hC)
  ·rcases cO.at_ x c e with⟨z,_⟩ | ⟨z,_⟩
   ·exact(hf b hb).1.2.2.2.2.1 x c z
   ·exact zH (ix (hf b hb).2 (bW hC (rY z)))
  ·obtain⟨_,_,_,h4,_⟩:=(hf b hb).1;rcases h4 with z | z
   ·exact I.ok.xg b o e z
   ·exact absurd (ix (gi e) (bW I.ok.oX z)) (mV _)
  ·obtain⟨_,h2,h3,_⟩:=(hf b hb).1;rcases gK.mp (I.xh _ z) with q | q
   ·exact h2 q
   ·exact h3 q
 refine⟨VM,rfl,I.bare,Un.kept hk,⟨m,hn,λi x v e1 e2 e3=> ?_⟩,λx c e=> ?_,I.aT.fresh hC,λx c e=> ?_,λp hp=> ?_,I.aT.kept hk, ?_⟩
 ·have u4:(js.map λo=>o.bind λj=>(σ[j]?).join)[i]?=some (some v):=e2;rw[dF]at u4;cases ej:js[i]? with
  |none=>rw[ej]at u4;cases u4
  |some oj=>
   rw[ej]at u4;cases oj with
   |none=>cases u4
   |some j=>
    have AQ:(σ[j]?).join=some v:=ka u4;have Eo:σ[j]?=some (some v):=by
     cases q:σ[j]? with
     |none=>rw[q]at AQ;cases AQ
     |some o=>rw[q]at AQ;rw[show o=some v from AQ]
    obtain⟨hN,uL,hX⟩:=pz.at_ i j x ej e1;obtain⟨mX,_,hl⟩:=I.loc;obtain⟨u,ru,lk⟩:=hl j x v hN Eo (hX.elim (λz=> .inr (.inl z)) λz=> .inr (.inr z));refine⟨u,ru, .inr ⟨LZ (env:=X.env) uL, ?_⟩⟩;rcases lk with⟨VN,_⟩ | ⟨_,c,hc,VO⟩
    ·have L3:X.env.scope.names.lookup x=some .local:=VN;rcases hX with z | z <;> rw[z]at L3 <;> cases L3
    ·obtain⟨c',p8⟩:=cO.has _ (uE uL) (.inl rfl);have VP:X.env.cells.lookup x=some c':=by
      rcases cO.at_ x c' p8 with⟨z,_⟩ | ⟨_,z,_⟩
      ·exact z
      ·have:=oY _ z rfl;rw[uL]at this;cases this
     have:c'=c:=ka (VP.symm.trans hc);subst this;obtain⟨o,ho,hd⟩:=VO;exact⟨c',p8,o,hk _ _ ho,hd⟩
 ·rcases cO.at_ x c e with⟨z,_⟩ | ⟨_,_,z⟩
  ·obtain⟨v,o,ho,hd⟩:=I.cell x c z;exact⟨v,o,hk _ _ ho,hd⟩
  ·exact⟨none,z⟩
 ·rcases cO.at_ x c e with⟨z,_⟩ | ⟨z,_⟩
  ·exact I.nM x c z
  ·exact I.aT.fresh (bW hC (rY z))
 ·have xG:p∈X.pn++aa:=by
   have:p∈(X.pn++aa)++ []:=hp;rwa [eW]at this
  obtain⟨h1,h2,h3,h4,h5⟩:=I.pin p xG;exact⟨hk _ _ h1,h2,jh (ix (gi h1) hC),VJ p xG,h5⟩
 ·show(js.map _).length=N.length;rw[dC];exact pz.len
theorem Inv.VQ{o:HO}(I:Inv X aa σ H s)(h0:X.iP.heap.objs.size<=D)(hn:H D=none)(hL:D≠X.env.locals)(hc:∀x c,X.env.cells.lookup x=some c->c≠D)(hp:∀p∈X.pn++aa,p.1≠D)
  (new:fZ X.prog X.w (aP H D o) s.heap D o):Inv X aa σ (aP H D o) s:=by
 have old:∀b ob,X.iP.heap.get? b=some ob->b≠D:=λb ob e=>jh (ix (gi e) h0);refine⟨I.ok,I.os,I.bare,⟨I.base.keep,I.base.slot,λb ob e n hx=> ?_,I.base.there,λb xs e=> ?_,λb ob u e=> ?_,λb ps e=> ?_⟩,I.loc,I.cell, ?_,λx c e=> ?_,λp xG=> ?_,λb u e=> ?_,I.len⟩
 ·rw[de (old b ob e)];exact I.base.free b ob e n hx
 ·have q:=I.base.p5 b xs e;rw[de (kO q hn)];exact q
 ·have q:=I.base.oW b ob u e;rw[de (kO q hn)];exact q
 ·obtain⟨more,q⟩:=I.base.p6 b ps e;exact⟨more,by rw[de (kO q hn)];exact q⟩
 ·rw[de (jO hL)];exact I.free
 ·rw[de (hc x c e)];exact I.nM x c e
 ·obtain⟨h1,h2,h3⟩:=I.pin p xG;exact⟨h1,by rw[de (hp p xG)];exact h2,h3⟩
 ·by_cases hb:b=D
  ·subst hb;rw[gX]at e;cases e;exact new
  ·rw[de hb]at e;exact(I.aT b u e).gb (λc v _ q=>q) (λc z=>by rw[de (kO z hn)];exact z) λc xs z=>by rw[de (kO z hn)];exact z
theorem Inv.VR{s':Shared}{aO:St}{H':Hp}{ys:List V}{ai:List Value}{n:Nat}(I:Inv X aa σ H s)(hf:∀b∈fp,iQ X aa H b/\b < s.heap.objs.size)(hC:s.heap.objs.size<=C)(hD:s.heap.objs.size<=D)(xH:D≠C)
  (J:Inv (i8 X N scope cl C s H fp aa) [(D, { cls:= .type "list",data:= .seq ai.toArray n })] aO H' s') (hv:bA ys ai) (hz:ys.length<=aK):
  Inv X aa σ (aP H' D (.lst ys)) s'/\iQ X aa (aP H' D (.lst ys)) C/\H' D=none/\∃m,s'.heap.Ns C m:=by
 have Ep:H' C=none:=J.free;have L4:H' D=none:=(J.pin (D,_) (i0 _ (cE.mpr rfl))).2.1;have VS:s'.heap.get? D=some { cls:= .type "list",data:= .seq ai.toArray n }:=(J.pin (D,_) (i0 _ (cE.mpr rfl))).1;have u:Un (lO X.stack) fp H H' s.heap s'.heap:=J.base;obtain⟨hh,g,d,t,DO⟩:=s';have VT:DO=s.os:=J.os;subst VT;have I1:Inv X aa σ H' { s with heap:=hh,gens:=g,drawn:=d,toks:=t }:=
  I.call (h':=hh) (g':=g) (d':=d) (t':=t) (ch:=fp) u J.aT J.bare λb hb=>⟨(hf b hb).1.2.2.2.1,(hf b hb).1.2.1,(hf b hb).1.2.2.2.2.1,(hf b hb).1.2.2.2.2.2⟩
 have Dl:D≠X.env.locals:=zH (ix I.lt hD);have young:∀a,s.heap.objs.size<=a->(∀x c,X.env.cells.lookup x=some c->c≠a)/\∀p∈X.pn++aa,p.1≠a:=λa ha=>⟨λx c e z=>by
   obtain⟨v,q⟩:=I.cell x c e;exact absurd (ix q.lt (by rw[z];exact ha)) (mV _),λp hp z=>absurd (ix (gi (I.pin p hp).1) (by rw[z];exact ha)) (mV _)⟩
 refine⟨I1.VQ (bW I.sz hD) L4 Dl (young D hD).1 (young D hD).2 ⟨hz,ai,n,hv,VS⟩,⟨by rw[de (jO xH)];exact Ep,zH (ix I.lt hC),I.Ds hC, .inr (bW I.sz hC),(young C hC).1,(young C hC).2⟩,L4, ?_⟩;obtain⟨m,hn,_⟩:=J.loc;exact⟨m,hn⟩
end
end L2
namespace L2
open PySem PySem.Spec PyProof.Rows
def xI(Y:Cx)(ifs:List Expr)(tt:TT):Prop:=
 ∀(aa:List (Addr×Obj)) (s:Shared) (σ:St) (H:Hp) (Q:Bool->Hp->Prop),Inv Y aa σ H s->tt σ H Q->
  wpAny (model Y.prog Y.w) Y.A (forIn ifs true λc r=>if r=true then do let ok <- isTrue c Y.env (eval c Y.env);pure (uG ok) else pure (uG r)) (TP Y aa σ Q) Y.xe s
def xJ:TT:=λ_ H Q=>Q true H
theorem sV:xI Y [] xJ:=λ_ _ _ H _ I h=>cJ ⟨H,I,h⟩
theorem u5(h:PT Y c tt):xI Y [c] tt:=by
 intro aa s σ H Q I hw;simp only[Sh,ad9,if_true];exact aW (aW (lr (h aa s σ H Q I hw) (λb s' hb=>cJ (cJ hb)) λ_ _ x=>x))
def L5(J:It)(g:TG)(tt:TT)(te:TE)(W:Nat->Nat->St->List V->Hp->Prop)(Q:V->Hp->Prop):Prop:=
 ∀i m aO ys H',W i m aO ys H'->(J.stop i H'/\∀D,H' D=none->Q (.ref D) (aP H' D (.lst ys)))\/
  (J.go i H'/\∃N:St->List V->Hp->Prop,(∀ip zs H2,N ip zs H2->zs.length<=aK/\∃m',m' < m/\W (i + 1) m' ip zs H2)/\
   ∀x H2,J.xo i H' x H2->g x aO H2 λip H3=>tt ip H3 λok H4=>if ok=true then te ip H4 λy H5=>N ip (ys++ [y]) H5 else N ip ys H4)
section
theorem L7{W:Nat->Nat->St->List V->Hp->Prop}{Q:V->Hp->Prop}{m0:Nat}{RR:Value->Addr->Result->Shared->Prop}{E:Value->Shared->Prop}(hc:X.calm=true)
  (hg:∀cl C s H ex aa,PG (i8 X N scope cl C s H ex aa) tg g) (ht:∀cl C s H ex aa,xI (i8 X N scope cl C s H ex aa) ifs tt) (he:∀cl C s H ex aa,PE (i8 X N scope cl C s H ex aa) elt te)
  (nR:scope.kind= .function) (oY:∀y∈scope.names,y.2= .cell->scope.names.lookup y.1=some .cell) (nX:∀x c,cl.lookup x=some c->X.env.cells.lookup x=some c) (g8:∀y∈scope.names,y.2= .free->∃c,cl.lookup y.1=some c) (pz:xF X N scope js)
  (I:Inv X aa σ H s) (T:Turn X.prog X.w X.K tg J fp it tn) (st:tn 0 s.heap) (f:∀b∈fp,iQ X aa H b) (w0:W 0 m0 (pw js σ) [] H) (turn:L5 J g tt te W Q)
  (VU:∀(D C:Addr) (s':Shared) (ys:List V) (H':Hp),Inv X aa σ (aP H' D (.lst ys)) s'->iQ X aa (aP H' D (.lst ys)) C->(∃m,s'.heap.Ns C m)->Q (.ref D) (aP H' D (.lst ys))->RR (.ref D) C (.ok .next) s'):
  wpAny (model X.prog X.w) X.A (newList []) (λdJ nW=>wpAny (model X.prog X.w) X.A (RQ scope X.env.globals cl [] X.env.qual none .none (some X.env)) (λL8 AO=>
   mx (model X.prog X.w) X.A (.compStart (.ListComp elt [⟨tg,iter,ifs,0⟩] scope pos) 0 (.ref it) dJ { L8 with scope:=relabel scope X.env }) (RR dJ L8.locals) AO) E nW) E s:=by
 have kb:∀b∈fp,b < s.heap.objs.size:=λb hb=>by
  obtain⟨o,ho,_⟩:=T.obj 0 _ st b hb;exact gi ho
 have ff:∀b∈fp,iQ X aa H b/\b < s.heap.objs.size:=λb hb=>⟨f b hb,kb b hb⟩
 refine wG (VH ?_);dsimp only;generalize Er:s.heap.push { cls:= .type "list",dict:=none,data:= .seq ([]:List Value).toArray }=H2;have hC:H2.objs.size=s.heap.objs.size + 1:=by rw[<- Er,sd]
 have xH:s.heap.objs.size≠H2.objs.size:=by rw[hC];exact jh (C7 _)
 have AR:s.heap.objs.size<=H2.objs.size:=by rw[hC];exact j0 _
 have below:∀b,b < s.heap.objs.size->b≠H2.objs.size/\b≠s.heap.objs.size:=λb hb=>⟨by rw[hC];exact jh (JE hb),jh hb⟩
 have VW:(uw (H2.push { cls:= .type "dict",data:= .dict #[] }) scope.names).Ns H2.objs.size (λ_=>none):=(Heap.Ns.new H2 (.type "dict")).keeps (Jh _ _);have old:∀b o,s.heap.get? b=some o->(uw (H2.push { cls:= .type "dict",data:= .dict #[] }) scope.names).get? b=some o:=λb o e=>Jh _ _ b o (gy _ (Er▸gy _ e));have AS:(uw (H2.push { cls:= .type "dict",data:= .dict #[] }) scope.names).get? s.heap.objs.size=some { cls:= .type "list",dict:=none,data:= .seq ([]:List Value).toArray }:=Jh _ _ _ _ (gy _ (Er▸jP _ rfl));have jQ:∀x c,cl.lookup x=some c->c < H2.objs.size + 1:=λx c e=>by
  obtain⟨v,q⟩:=I.cell x c (nX x c e);exact JE (ix q.lt AR)
 have hsz:(H2.push { cls:= .type "dict",data:= .dict #[] }).objs.size=H2.objs.size + 1:=sd ..;have cO:LY X scope H2.objs.size (uw (H2.push { cls:= .type "dict",data:= .dict #[] }) scope.names) (mU (H2.objs.size + 1) scope.names cl):=by
  refine⟨λx c e=> ?_,λy hy hk=> ?_,Em _ _ _ jQ λx y c e1 e2=>I.ok.inj x y c (nX x c e1) (nX y c e2)⟩
  ·rw[<- hsz]at e;rcases Ej _ _ _ x c e with⟨e1,e2⟩ | ⟨e1,e2,e3⟩
   ·exact .inl ⟨nX x c e1,e2⟩
   ·exact .inr ⟨by rw[hsz]at e1;exact e1,e2,e3⟩
  ·obtain⟨y,k⟩:=y;refine Ek _ _ _ _ ?_;rcases hk with hk | hk
   ·exact .inr (g8 _ hy hk)
   ·exact .inl (by rw[<- hk];exact hy)
 show mx _ _ (.compStart _ 0 _ _ (compEnvC scope (mU (H2.objs.size + 1) scope.names cl) H2.objs.size X.env)) _ _;generalize mU (H2.objs.size + 1) scope.names cl=lB at *;generalize uw (H2.push { cls:= .type "dict",data:= .dict #[] }) scope.names=xE at *;clear nX g8 jQ hsz;generalize H2.objs.size=C at *;generalize AU:s.heap.objs.size=D at *;have sW:s.heap.objs.size<=D:=RZ AU;have L9:s.heap.objs.size<=C:=by rw[AU];exact AR
 -- lP aeS own invariant
 have J0:Inv (i8 X N scope lB C s H fp aa) [] (pw js σ) H { s with heap:=xE }:=
  I.block (λb hb=>⟨f b hb,by rw[AU];exact kb b hb⟩) L9 old VW nR oY cO pz
 have sy:∀b,b∉X.fs->b≠X.env.locals->b∉lO X.stack:=λb h1 h2 z=>by
  rcases gK.mp (I.xh _ z) with q | q
  ·exact h2 q
  ·exact h1 q
 have VX:D∉lO X.stack:=sy D (I.Ds sW) (zH (ix I.lt sW));have VY:∀x c,lB.lookup x=some c->c≠D:=λx c e z=>by
  rcases cO.at_ x c e with⟨e,_⟩ | ⟨e,_⟩
  ·obtain⟨v,q⟩:=I.cell x c e;exact absurd (ix q.lt (by rw[z];exact sW)) (mV _)
  ·exact absurd e (by rw[z];exact Nat.not_lt.mpr AR)
 have VZ:∀p∈X.pn++aa,p.1≠D:=λp hp z=>absurd (ix (gi (I.pin p hp).1) (by rw[z];exact sW)) (mV _)
 -- lP list under way is pinned
 have Ma:∀{ps:List (Addr×Obj)} {aO:St} {H':Hp} {s':Shared} {ai:List Value} {n:Nat},Inv (i8 X N scope lB C s H fp aa) ps aO H' s'->H' D=none->s'.heap.get? D=some { cls:= .type "list",data:= .seq ai.toArray n }->
   Inv (i8 X N scope lB C s H fp aa) [(D, { cls:= .type "list",data:= .seq ai.toArray n })] aO H' s':=λ{ps aO H' s' ai n} Jx hn ho=>Jx.xj λp hp=>by
  obtain rfl:=cE.mp hp;exact⟨ho,hn,xH,VX,λv z=>by cases z⟩
 have sI:∀{H':Hp} {ob:Obj},(∀b∈fp,H' b=none)->∀b∈fp,iQ (i8 X N scope lB C s H fp aa) [(D,ob)] H' b:=λ{H' ob} hn b hb=>by
  obtain⟨_,f1,f2,f3,f4,f5⟩:=f b hb;refine⟨hn b hb,(below b (kb b hb)).1,sy b f2 f1, .inl hb,λx c e=>(cO.at_ x c e).elim (λz=>f4 x c z.1) (λz=>zH (ix (kb b hb) (bW AR (rY z.1)))),λp hp=> ?_⟩;rcases iG.mp hp with z | z
  ·exact f5 p z
  ·obtain rfl:=cE.mp z;exact jO (below b (kb b hb)).2
 have loop:∀nW:Shared,nW= { s with heap:=xE }->
   mx (model X.prog X.w) X.A (.compLoop (.ListComp elt [⟨tg,iter,ifs,0⟩] scope pos) 0 (.ref it) (.ref D) (compEnvC scope lB C X.env)) (RR (.ref D) C) nW:=by
  rintro nW rfl;refine VC (λk s'=>∃(i:Nat) (aO:St) (ys:List V) (H':Hp) (ai:List Value) (n:Nat),Inv (i8 X N scope lB C s H fp aa) [(D, { cls:= .type "list",data:= .seq ai.toArray n })] aO H' s'/\bA ys ai/\ys.length<=aK/\tn i s'.heap/\(∀b∈fp,H' b=none)/\W i k aO ys H') ?_ m0
   ⟨0,pw js σ, [],H, [],0,Ma J0 (I.aT.fresh sW) AS, .nil,jj _,T.keep _ _ _ st λb _ o e=>old b o e,λb hb=>(f b hb).1,w0⟩
  rintro k s' ⟨i,aO,ys,H',ai,n,J',hv,hz,st',Mb,w'⟩;rcases turn i k aO ys H' w' with⟨stop,q⟩ | ⟨go,NN,hN,step⟩
  ·refine lr (T.done (i8 X N scope lB C s H fp aa) rfl rfl rfl hc i _ s' aO H' (λ_ _=>False) J' (sI Mb) st' stop) (λr s4 ⟨hr,J4⟩=> ?_) λ_ _ z=>z.elim;subst hr;obtain⟨K1,K2,K3,K4⟩:=I.VR (λb hb=>⟨f b hb,by rw[AU];exact kb b hb⟩) L9 sW xH J4 hv hz;exact VU D C s4 ys H' K1 K2 K4 (q D K3)
  ·refine lr (T.item (i8 X N scope lB C s H fp aa) rfl rfl rfl hc i _ s' aO H' (λ_ _=>False) J' (sI Mb) st' go) (λr s4 ⟨u,hr,h4⟩=> ?_) λ_ _ z=>z.elim;subst hr;refine lr h4 (λ_ s5 ⟨x,H5,J5,r5,y5,sJ,DH⟩=> ?_) λ_ _ z=>z.elim;have V0:=J5.pinned (sI DH) (T.obj _ _ sJ);have Mc:∀{lQ:St} {H7:Hp} {s7:Shared},Inv (i8 X N scope lB C s H fp aa) ([(D, { cls:= .type "list",data:= .seq ai.toArray n })]++qW fp s5.heap) lQ H7 s7->tn (i + 1) s7.heap/\∀b∈fp,H7 b=none:=λ{lQ H7 s7} J7=>
    ⟨T.keep _ _ _ sJ λb hb o e=>(J7.pin (b,o) (i0 _ (i0 _ (uV hb e)))).1,λb hb=>by
     obtain⟨o,e,d⟩:=T.obj _ _ sJ b hb;exact(J7.pin (b,o) (i0 _ (i0 _ (uV hb e)))).2.1⟩
   refine lr (hg lB C s H fp aa _ s5 aO H5 x u _ V0 r5 (step x H5 y5)) (λ_ s6 ⟨nP,H6,J6,q6⟩=> ?_) λ_ _ z=>(show False from z).elim;refine lr (ht lB C s H fp aa _ s6 nP H6 _ J6 q6) (λok s7 ⟨H7,J7,q7⟩=> ?_) λ_ _ z=>(show False from z).elim;cases ok with
   |false=>
    have V3:NN nP ys H7:=q7;obtain⟨sX,m',hm,w7⟩:=hN nP ys H7 V3;obtain⟨t7,f7⟩:=Mc J7;exact⟨m',hm,i + 1,nP,ys,H7,ai,n,J7.uW,hv,hz,t7,f7,w7⟩
   |true=>
    refine lr (he lB C s H fp aa _ s7 nP H7 _ J7 q7) (λy s8 ⟨v,H8,J8,r8,q8⟩=> ?_) λ_ _ z=>(show False from z).elim;obtain⟨sX,m',hm,w8⟩:=hN nP (ys++ [v]) H8 q8;obtain⟨t8,f8⟩:=Mc J8;have pD:=J8.pin (D,_) (i0 _ (uB _ (cE.mpr rfl)));have V4:ai.toArray.size<=aK:=by rw[fY, <- hv.length];exact hz
    refine wpAny_list_append_plain (hsz:=V4) (items:=ai.toArray) ⟨n,pD.1⟩ λh9 V5 Md=> ?_;obtain⟨n9,V6⟩:=V5;have V7:h9.get? D=some { cls:= .type "list",data:= .seq (ai++ [y]).toArray n9 }:=by rw[V6];simp
    have V8:Inv (i8 X N scope lB C s H fp aa) [] nP H8 s8:=J8.xj λp hp=>(nomatch hp)
    have J9:Inv (i8 X N scope lB C s H fp aa) [] nP H8 { s8 with heap:=h9 }:=V8.turned (t':=s8.toks) (it:=D) (λb o hb e=>(Md.2 b hb).trans e) pD.2.1 xH (.inr sW) VY λp hp=>VZ p (by
     have:p∈(X.pn++aa)++ []:=hp;rwa [eW]at this)
    refine⟨m',hm,i + 1,nP,ys++ [v],H8,ai++ [y],n9,Ma J9 pD.2.1 V7,hv.append (.cons r8 .nil),sX,T.keep _ _ _ t8 λb hb o e=>(Md.2 b (below b (kb b hb)).2).trans e,f8,w8⟩
 exact codeAny_compStart_list (loop _ rfl) (T.self X.A 0 _ _ _ (T.keep _ _ _ st λb _ o e=>old b o e) (loop _ rfl))
def u6(wi:TI)(g:TG)(tt:TT)(te:TE)(js:List (Option Nat)):TE:=λσ H Q=>wi σ H λJ H1=>∃W:Nat->Nat->St->List V->Hp->Prop,(∃m,W 0 m (pw js σ) [] H1)/\L5 J g tt te W Q
theorem pA(js:List (Option Nat))(N:List Str)(hc:X.calm=true)(pz:xF X N scope js)(hi:PI X tg iter wi)(hg:∀cl C s H ex aa,PG (i8 X N scope cl C s H ex aa) tg g)(ht:∀cl C s H ex aa,xI (i8 X N scope cl C s H ex aa) ifs tt)
  (he:∀cl C s H ex aa,PE (i8 X N scope cl C s H ex aa) elt te)
  (nR:scope.kind= .function:=by rfl) (oY:∀y∈scope.names,y.2= .cell->scope.names.lookup y.1=some .cell:=by decide +kernel) (Es:∀y∈scope.names,y.2= .local->scope.names.lookup y.1=some .local:=by decide +kernel)
  (hs:∀x,RI iter X.env x=pure x:=by intro _;rfl):PE X (.ListComp elt [⟨tg,iter,ifs,0⟩] scope pos) (u6 wi g tt te js):=by
 intro aa s σ H Q I h;obtain⟨cl,Et,nX,g8⟩:=LU (scope:=scope) (env:=X.env) λy hy hf=>I.ok.has _ (pz.fr y hy hf);rw[eval_ListComp];refine adN (use:=none) rfl hs Et nR Es (bG (hi aa s σ H _ I h) λv s1 h1=>bG h1 λAq s2 h2=> ?_);obtain⟨it,fp,tn,J,H2,rfl,I2,T,b5,f2,W,⟨m0,w0⟩,turn⟩:=h2;refine L7 (RR:=λdJ C=>compPost (model X.prog X.w) X.A X.xe none (EP X aa σ Q) dJ C) hc hg ht he nR oY nX g8 pz I2 T b5 f2 w0 turn λD C s' ys H' K1 K2 K3 q=> ?_;obtain⟨m,hm⟩:=K3;refine⟨m,hm,λh' sb=>⟨.ref D,_,K1.turned (t':=s'.toks) (it:=C) (λb o hb e=>(sb.2 b hb).trans e) K2.1 K2.2.1 K2.2.2.2.1 K2.2.2.2.2.1 K2.2.2.2.2.2,rfl,q⟩⟩
theorem Eu{py Me:Pos}(js:List (Option Nat))(N:List Str)(hc:X.calm=true)(pz:xF X N scope js)(hN:X.N.Nodup)(hk:X.N[k]?=some y)(hy:Loc X.env.scope y)(hi:PI X tg iter wi)(hg:∀cl C s H ex aa,PG (i8 X N scope cl C s H ex aa) tg g)(ht:∀cl C s H ex aa,xI (i8 X N scope cl C s H ex aa) ifs tt)
  (he:∀cl C s H ex aa,PE (i8 X N scope cl C s H ex aa) elt te)
  (V9:wB (.ListComp elt [⟨tg,iter,ifs,0⟩] scope pos) (some (.Name y py)) Me.line X.env=pure true:=by rfl)
  (nR:scope.kind= .function:=by rfl) (oY:∀y∈scope.names,y.2= .cell->scope.names.lookup y.1=some .cell:=by decide +kernel) (Es:∀y∈scope.names,y.2= .local->scope.names.lookup y.1=some .local:=by decide +kernel)
  (hs:∀x,RI iter X.env x=pure x:=by intro _;rfl) (hf:X.fn y=true\/X.env.scope.names.lookup y=some .local:=by first | exact .inl rfl | exact .inr rfl | assumption):
  PS X (.Assign [.Name y py] (.ListComp elt [⟨tg,iter,ifs,0⟩] scope pos) Me) (qU (u6 wi g tt te js) (m4 k)):=by
 intro aa s σ H D I h;obtain⟨cl,Et,nX,g8⟩:=LU (scope:=scope) (env:=X.env) λy hy hf=>I.ok.has _ (pz.fr y hy hf);rw[exec_Assign_Name_used _ _ _ _ V9];refine aW (RG (aW ?_));show wpAny _ X.A (do let _ <- comprehension (.ListComp elt [⟨tg,iter,ifs,0⟩] scope pos) scope X.env _ (newList []) false (eval iter X.env) (some (assign (.Name y py) X.env))) _ _ s;refine aW (lr (adN (use:=some (assign (.Name y py) X.env)) (Q:=λ_ s'=>SP X aa D .next s') rfl hs Et nR Es
  (bG (hi aa s σ H _ I h) λv s1 h1=>bG h1 λAq s2 h2=> ?_)) (λ_ s' hq=>cJ (cJ hq)) λ_ _ e=>e)
 obtain⟨it,fp,tn,J,H2,rfl,I2,T,b5,f2,W,⟨m0,w0⟩,turn⟩:=h2;refine L7 (RR:=λdJ C=>compPost (model X.prog X.w) X.A X.xe (some (assign (.Name y py) X.env)) (λ_ s'=>SP X aa D .next s') dJ C) hc hg ht he nR oY nX g8 pz I2 T b5 f2 w0 turn λDd C s' ys H' K1 K2 K3 q=> ?_;obtain⟨m,o,es,ep,ho,hd,hr⟩:=K3;have Kp:Inv X (aa++ [(C,o)]) σ (aP H' Dd (.lst ys)) s':=K1.xj λp hp=>by
  rcases iG.mp hp with z | z
  ·exact K1.pin p (i0 _ z)
  ·obtain rfl:=cE.mp z;exact⟨ho,K2.1,K2.2.1,K2.2.2.1,λv z=>by rw[hd]at z;cases z⟩
 show wpAny _ X.A (assign (.Name y py) X.env (.ref Dd)) _ _ _;refine wpAny_assign_Name (Dx (v:= .ref Dd) Kp hN hk hy rfl (λs3 I3=> ?_) hf);have pC:=I3.pin (C,o) (i0 _ (i0 _ (cE.mpr rfl)));refine⟨m,⟨o,es,ep,pC.1,hd,hr⟩,λh' sb=> ?_⟩;have I4:Inv X aa (σ.set k (some (.ref Dd))) (aP H' Dd (.lst ys)) s3:=I3.uW;exact⟨_,_,I4.turned (t':=s3.toks) (it:=C) (λb o hb e=>(sb.2 b hb).trans e) K2.1 K2.2.1 K2.2.2.2.1 K2.2.2.2.2.1 K2.2.2.2.2.2,q⟩
end
end L2
namespace L2
open PySem PySem.Spec PyProof.Rows
mutual
inductive j5(K:ah)(H:Hp):V->PyData->Prop
 |aJ:j5 K H .aJ .none
 |bl (b:Bool):j5 K H (.bl b) (.bool b)
 |int (i:Int):j5 K H (.int i) (.int i)
 |str (x:Str):j5 K H (.str x) (.str x)
 |lst {a:Addr} {xs:List V} {ds:List PyData}:cc K H a xs->sY K H xs ds->j5 K H (.ref a) (.list ds)
 |tup {a:Addr} {xs:List V} {ds:List PyData}:cN K H a xs->sY K H xs ds->j5 K H (.ref a) (.tuple ds)
inductive sY(K:ah)(H:Hp):List V->List PyData->Prop
 |nil:sY K H [] []
 |cons {x:V} {xs:List V} {d:PyData} {ds:List PyData}:j5 K H x d->sY K H xs ds->sY K H (x::xs) (d::ds)
end
section
mutual
theorem Inv.reads(I:Inv X aa σ H s):∀{v:V} {d:PyData} {u:Value},j5 X.K H v d->RelV v u->∃as,Reads s.heap u d as
 |_,_,_, .aJ,r=>by cases r;exact⟨_, .none⟩
 |_,_,_, .bl b,r=>by cases r;exact⟨_, .bool b⟩
 |_,_,_, .int i,r=>by obtain⟨t,rfl⟩:=r;exact⟨_, .int i t⟩
 |_,_,_, .str x,r=>by obtain⟨t,rfl⟩:=r;exact⟨_, .str x t⟩
 |_,_,_, .lst hs ha,r=>by
  cases r;obtain⟨ai,rv,⟨o,n,e,hc,_,hd⟩,_⟩:=I.list hs;obtain⟨as,q⟩:=I.readsAll ha rv;exact⟨_, .list e hc hd (by simpa using q)⟩
 |_,_,_, .tup hs ha,r=>by
  cases r;obtain⟨ai,rv,⟨o,e,hc,n,hd⟩,_⟩:=I.tuple hs;obtain⟨as,q⟩:=I.readsAll ha rv;exact⟨_, .tuple e hc hd (by simpa using q)⟩
theorem Inv.readsAll(I:Inv X aa σ H s):∀{vs:List V} {ds:List PyData} {us:List Value},sY X.K H vs ds->bA vs us->∃as,ReadsAll s.heap us ds as
 |_,_,_, .nil,r=>by cases r;exact⟨_, .nil⟩
 |_,_,_, .cons h t,r=>by
  cases r with
  |cons r1 r2=>
   obtain⟨as,q⟩:=I.reads h r1;obtain⟨bs,q2⟩:=I.readsAll t r2;exact⟨_, .cons q q2⟩
end
end
section
theorem Wa(hu:X.A.units + 64 < cLine):dP X (jy .Eq) (λx y H Q=>∃dx dy,j5 X.K H x dx/\j5 X.K H y dy/\dx.canLay0=true/\dy.canLay0=true/\dx.depth<=60/\Q (.bl (fw dx dy)) H):=by
 intro aa s σ H x y v u Q I rx ry h;obtain⟨dx,dy,h1,h2,c1,c2,hd,q⟩:=h;obtain⟨as,r1⟩:=I.reads h1 rx;obtain⟨bs,r2⟩:=I.reads h2 ry;exact SeqAt.compareEq_reads r1 r2 c1 c2 (by lia) ⟨.bl _,H,I,rfl,q⟩
theorem Wb(hu:X.A.units + 64 < cLine):dP X (jy .NotEq) (λx y H Q=>∃dx dy,j5 X.K H x dx/\j5 X.K H y dy/\dx.canLay0=true/\dy.canLay0=true/\dx.depth<=60/\Q (.bl (!fw dx dy)) H):=by
 intro aa s σ H x y v u Q I rx ry h;obtain⟨dx,dy,h1,h2,c1,c2,hd,q⟩:=h;obtain⟨as,r1⟩:=I.reads h1 rx;obtain⟨bs,r2⟩:=I.reads h2 ry;exact SeqAt.compareNe_reads r1 r2 c1 c2 (by lia) ⟨.bl _,H,I,rfl,q⟩
end
end L2
namespace L2
open PySem PySem.Spec PyProof.Rows
def AV(x:Str):It:=⟨λi _=>i < x.cps.size,λi H v H'=>H'=H/\∃c,x.cps[i]?=some c/\v= .str ⟨#[c]⟩,λi _=>x.cps.size<=i⟩
theorem Mf{P:Program}{w:World}{K:ah}{tg:Expr}{it:Addr}{x:Str}{t:Tok}(sS: ["enumerate","zip","dict_itemiterator","dict_reverseitemiterator","odict_iterator","itertools.zip_longest","itertools.pairwise"].contains ty=false)
  (W:∀A':Around,A'.handled=none->Walks P w A' it [it] [it] x.cps.size (SignAt x) (λi h=>h.IsStrIter it ty x t i))
  (Wc:∀(A:Around) (i:Nat) (s:Shared) (Q:Value->Shared->Prop) (E:Value->Shared->Prop),s.heap.IsStrIter it ty x t i->Q (.ref it) s->wpAny (model P w) A (pyIter (.ref it)) Q E s):Turn P w K tg (AV x) [it] it (λi h=>i<=x.cps.size/\h.IsStrIter it ty x t i) where
 mem:=by simp
 obj:=λi h st b hb=>by
  have e:b=it:=by simpa using hb
  subst e;obtain⟨_,o,e,c,d⟩:=st;exact⟨o,e,λv z=>by rw[d]at z;cases z⟩
 keep:=λi h h' st k=>by
  obtain⟨hi,o,e,r⟩:=st;exact⟨hi,o,k it (by simp) o e,r⟩
 item:=by
  intro X hP hw hK hc i aa s σ H E I hf st hg;subst hP hw hK;obtain⟨f0,f1,f2,f3,f4,f5⟩:=hf it (by simp);obtain⟨_,st⟩:=st;refine(W X.A (I.ok.hd hc)).item i s _ _ hg st λv h' tk hv st' kk=> ?_;obtain⟨c,u,hx,rfl⟩:=hv;have I1:Inv X aa σ H { s with heap:=h',toks:=tk }:=I.turned (λb o hb e=>kk b o (by simpa using hb) e) f0 f1 f3 f4 f5;obtain⟨o,e,Wd,hd⟩:=id st';exact⟨_,rfl,As (s:= { s with heap:=h',toks:=tk }) e Wd hd sS ⟨.str ⟨#[c]⟩,H,I1,⟨u,rfl⟩,⟨rfl,c,hx,rfl⟩,⟨hg,st'⟩,λb hb=>(hf b hb).1⟩⟩
 done:=by
  intro X hP hw hK hc i aa s σ H E I hf st hg;subst hP hw hK;obtain⟨f0,f1,f2,f3,f4,f5⟩:=hf it (by simp);obtain⟨hi,st⟩:=st;have e:i=x.cps.size:=Nat.le_antisymm hi hg;subst e;exact(W X.A (I.ok.hd hc)).done s _ _ st λh' tk kk=>⟨rfl,I.turned (t':=tk) (λb o hb e=>kk b o (by simpa using hb) e) f0 f1 f3 f4 f5⟩
 self:=λA i s Q E st h=>Wc A i s Q E st.2 h
section
end
section
theorem We(hc:X.calm=true):i5 X (.builtin "all") (λxs H Q=>∃(a:Addr) (bs:List Bool),xs= [.ref a]/\cc X.K H a (bs.map V.bl)/\Q (.bl (bs.all id)) H):=by
 intro aa s σ H xs us Q I r h;obtain⟨a,bs,rfl,hs,q⟩:=h;obtain⟨u,rfl,ru⟩:=vals1 r;cases ru;obtain⟨ai,rv,pl,hz⟩:=I.list hs;have hl:ai.length=bs.length:=by rw[<- rv.length,dC]
 refine call_all_walk ?_;refine C4 pl.isList ?_;have lt:a < s.heap.objs.size:=by obtain⟨o,n,e,_⟩:=pl;exact gi e
 have at_:∀(i:Nat) (v:Value),ai.toArray[i]?=some v->v=wN (bs.getD i true):=λi v hv=>by
  have i6:ai[i]?=some v:=by simpa using hv
  have hi:i < bs.length:=by
   have:=(bB.mp i6).1
   lia
  have hx:(bs.map V.bl)[i]?=some (.bl (bs.getD i true)):=by
   rw[dF,gM hi];simp[De,gM hi]
  obtain⟨u,hu,ru⟩:=rv.get hx;rw[i6]at hu;cases hu;exact ru
 refine⟨s.heap.objs.size,_,_,_,_,_,λi=>bs.getD i true,rfl,Df (A:=X.A.in1) (show X.A.in1.handled=none from I.ok.hd hc) _ a (jh lt) ai.toArray,⟨⟨_,jP _ rfl,rfl,rfl⟩,pl.isList.at λo e=>gy _ e⟩,λi v s' Q' E' hv hQ=> ?_,λh' tk hk=> ?_⟩
 ·rw[at_ i v hv];exact uo hQ
 ·have e:((lx ai.toArray.size).all λi=>bs.getD i true)=bs.all id:=by
   rw[fY,hl];rw[Bool.eq_iff_iff,Ad,Ad]
   constructor
   ·intro h b hb;obtain⟨i,hi,e⟩:=List.mem_iff_getElem.mp hb;have:=h i (zG.mpr hi);rw[De,gM hi]at this;rw[<- e];exact this
   ·intro h i hi;have Mg:=zG.mp hi;rw[De,gM Mg];exact h _ (aea Mg)
  rw[e];refine⟨.bl _,H,I.kept (t':=tk) λb o eo=>hk b o ?_ (gy _ eo),rfl,q⟩;intro z;rw[cE.mp z]at eo;exact absurd (gi eo) (mV _)
theorem Wh:mG X (λx lo hi H Q=>∃z,x= .str z/\z.length<=aK/\Q (.str (JF z lo hi)) H):=by
 intro aa s σ H x v vl vu lo hi sl Q I rx hs pl pu h;obtain⟨z,rfl,hz,q⟩:=h;obtain⟨t,rfl⟩:=rx;refine⟨"str",_,F.slot_str_getitem.lookup,typeIs_str _ _ _, ?_⟩;have cL:∀t' k,EP X aa σ Q (.str (JF z lo hi) t') { s with toks:=k }:=λt' k=>⟨.str _,H,I.tok k,⟨t',rfl⟩,q⟩
 obtain⟨o,ho,hc,hd⟩:=hs;cases pl with
 |none=>
  cases pu with
  |none=>exact Ji (l:=none) (u:=none) (st:=none) ⟨o,ho,hc,hd⟩ rfl (Jj ⟨bW (JG z _ _) hz,cL⟩)
  |int j tj=>exact Ji (l:=none) (u:=some (j,tj)) (st:=none) ⟨o,ho,hc,hd⟩ rfl (Jj ⟨bW (JG z _ _) hz,cL⟩)
 |int i ti=>
  cases pu with
  |none=>exact Ji (l:=some (i,ti)) (u:=none) (st:=none) ⟨o,ho,hc,hd⟩ rfl (Jj ⟨bW (JG z _ _) hz,cL⟩)
  |int j tj=>exact Ji (l:=some (i,ti)) (u:=some (j,tj)) (st:=none) ⟨o,ho,hc,hd⟩ rfl (Jj ⟨bW (JG z _ _) hz,cL⟩)
end
end L2
namespace L2
open PySem PySem.Spec PyProof.Rows
end L2
namespace L2
open PySem PySem.Spec PyProof.Rows PySem.W
section
end
end L2
namespace L2
open PySem PySem.Spec PyProof.Rows PySem.W
section
variable {prog:Program}{w:World}{A:Around}{E:Value->Shared->Prop}{s:Shared}
end
section
variable {prog:Program}{w:World}{A:Around}{E:Value->Shared->Prop}{s:Shared}{κ:Type}[DecidableEq κ]{knd:adP prog w κ}
end
theorem Mh:∀{xs:List V} {us:List Value},us.length=xs.length->(∀(j:Nat) (x:V) (u:Value),xs[j]?=some x->us[j]?=some u->RelV x u)->bA xs us
 | [], [],_,_=> .nil
 | [],_::_,h,_=>by simp at h
 |_::_, [],h,_=>by simp at h
 |x::xs,u::us,h,r=> .cons (r 0 x u rfl rfl) (Mh (by simpa using h) λj y v e1 e2=>r (j + 1) y v (by simpa using e1) (by simpa using e2))
section
variable {X:Cx}{aa:List (Addr×Obj)}{σ:St}{H:Hp}{s:Shared}
end
end L2
namespace L2
open PySem PySem.Spec PyProof.Rows PySem.W
theorem Mi{α β:Type}{R:α->β->Prop}:∀{xs:List α} {ys:List β} {j:Nat} {x:α} {y:β},Paired R xs ys->xs[j]?=some x->ys[j]?=some y->R x y
 |_,_,_,_,_, .nil,e,_=>by simp at e
 |_,_,0,_,_, .cons r _,e,f=>by simp at e f;subst e;subst f;exact r
 |_,_,j + 1,_,_, .cons _ t,e,f=>Mi (j:=j) t (by simpa using e) (by simpa using f)
section
end
end L2
namespace L2
open PySem PySem.Spec PyProof.Rows PySem.W
section
end
end L2
namespace L2
open PySem PySem.Spec PyProof.Rows PySem.W
section
variable {prog:Program}{w:World}{A:Around}{E:Value->Shared->Prop}{s:Shared}
variable {z TI TO i1 i2 l1 l2:Addr}{xs ys:Array Value}{R1 R2:Nat->Heap->Prop}
end
end L2
namespace L2
open PySem PySem.Spec PyProof.Rows PySem.W
section
end
section
end
section
end
end L2
namespace L2
open PySem PySem.Spec PyProof.Rows
theorem iq(h:H p=none)(o:HO):aM H (aP H p o):=λb u q=>by rw[de (kO q h)];exact q
structure eP(P:Program)(w:World)(K:ah)(mg:Str->Option Value)(base:Heap)(x:Str)(ps:List Str)(k:Nat)(sp:Sp):Prop where
 ex:∃(f:Addr) (fd:jY),b9 P w K mg base cQ k f fd ps sp/\Binds K fd ps []/\uC K (.ref f)=true/\mg x=some (.ref f)
theorem eP.of{P:Program}{w:World}{K:ah}{mg:Str->Option Value}{base:Heap}{x:Str}{ps:List Str}{k:Nat}{sp:Sp}{f:Addr}{fd:jY}{q:Str}{st:Stmt}(F:ee K x q st f fd)(b:Binds K fd ps [])(m:mg x=some (.ref f))
  (o:b9 P w K mg base cQ k f fd ps sp):eP P w K mg base x ps k sp:=⟨f,fd,o,b,F.kp,m⟩
theorem b7{p pos:Pos}{e:Expr}{es:List Expr}{t:TA}(C:eP X.prog X.w X.K X.mg X.base x ps k sp)(hr:fK j X.A)(hg:Gl X x)
  (ha:PA X (e::es) t) (hj:k<=j:=by decide) (mF:(x == ("__debug__":Str))=false:=by decide) (he:cD (e::es) X.env=(false,eval e X.env)::cD es X.env:=by rfl) (df:(backTo pos (cD es X.env)).any (·.1)=false:=by rfl):
  PE X (.Call (.Name x p) (e::es) [] pos) (qc sp [] E0 t):=by
 obtain⟨f,fd,o,b,kp,m⟩:=C.ex;exact Ul o (hr.mono hj) hg m kp b .nil AK ha mF he df
end L2
namespace VL
open PySem L2
inductive Kd where
 |tup | eL | lst | aB (ks:List aY) | iK (ks:List (List aY)) | obj (C:Addr) (ns:List Str)
 deriving DecidableEq
inductive D where
 |sc (v:V)
 |nd (k:Kd) (cs:List D)
  |hl (v:V)
def cT:Kd->Bool
 |.tup=>true
 |.eL=>true
 |_=>false
mutual
def plain:D->Bool
 |.sc _=>true
 |.nd .tup cs=>bf cs
 |.nd .eL cs=>bf cs
 |.nd _ _=>false
 |.hl _=>false
def bf:List D->Bool
 | []=>true
 |d::ds=>plain d && bf ds
end
theorem Ew:∀{ds:List D} {d:D},bf ds=true->d∈ds->plain d=true
 |_::ds,d,h,m=>by
  rw[bf,pV]at h;cases m with
  |head=>exact h.1
  |tail _ m=>exact Ew h.2 m
theorem sZ:∀{ds:List D},(∀d∈ds,plain d=true)->bf ds=true
 | [],_=>rfl
 |d::ds,h=>by
  rw[bf,h d (.head _),sZ λe he=>h e (.tail _ he)];rfl
theorem s9{ds:List D}{i:Nat}{d:D}(h:bf ds=true)(e:ds[i]?=some d):plain d=true:=Ew h (gk e)
def ho(k:Kd)(dx:Addr)(vs:List V):HO:=match k with
 |.tup=> .tup vs
 |.eL=> .lst vs
 |.lst=> .lst vs
 |.aB ks=> .dK (ks.zip vs)
 |.iK ks=> .dT (ks.zip vs)
 |.obj C ns=> .ins C dx (ns.zip vs)
def fits(K:ah)(k:Kd)(n:Nat):Prop:=match k with
 |.aB ks=>ks.length=n
 |.iK ks=>ks.length=n
 |.obj C ns=>ns.length=n/\kT K C/\∀f∈ns,iT K C f
 |_=>True
def j6(K:ah)(H:Hp)(a:Addr)(vs:List V):Prop:=(∃o,H a=some (.iz o (.lst vs)))\/∃(o:Obj) (ai:Array Value) (n:Nat),K.lookup a=some o/\o.cls= .type "list"/\o.dict=none/\o.data= .seq ai n/\ai.size<=aK/\bA vs ai.toList
theorem j6.sq(h:j6 K H a vs):cc K H a vs:=h.elim (λ⟨o,e⟩=> .inl (.inr ⟨o,e⟩)) .inr
def jN(K:ah)(H:Hp)(a:Addr)(k:Kd)(vs:List V):Prop:=fits K k vs.length/\match k with
 |.tup=>H a=some (.tup vs)
 |.eL=>j6 K H a vs
 |.lst=>H a=some (.lst vs)
 |.aB ks=>Rd H a (.dK (ks.zip vs))
 |.iK ks=>Rd H a (.dT (ks.zip vs))
 |.obj C ns=>∃dx,H a=some (.ins C dx (ns.zip vs))
def qi(K:ah)(H:Hp)(a:Addr)(k:Kd)(vs:List V):Prop:=cT k=false/\fits K k vs.length/\∃dx,H a=some (ho k dx vs)
theorem qi.cell(h:qi K H a k vs):jN K H a k vs:=by
 obtain⟨hk,hf,dx,e⟩:=h;refine⟨hf, ?_⟩;cases k with
 |tup=>cases hk
 |eL=>cases hk
 |lst=>exact e
 |aB ks=>exact .inl e
 |iK ks=>exact .inl e
 |obj C ns=>exact⟨dx,e⟩
theorem qi.mu(h:qi K H a k vs):jk (H a):=by
 obtain⟨hk,hf,dx,e⟩:=h;rw[e];cases k with
 |tup=>cases hk
 |eL=>cases hk
 |lst=>trivial
 |aB ks=>trivial
 |iK ks=>trivial
 |obj C ns=>trivial
def gO(H H':Hp):Prop:=∀b o,¬ jk (some o)->H b=some o->H' b=some o
theorem gO.refl(H:Hp):gO H H:=λ_ _ _ h=>h
theorem gO.of(s:aM H H'):gO H H':=λb o _ h=>s b o h
theorem gO.Wi(s:gO H H')(h:cN K H a xs):cN K H' a xs:=by
 rcases h with(h | ⟨o,h⟩) | h
 ·exact .inl (.inl (s _ _ (λz=>z) h))
 ·exact .inl (.inr ⟨o,s _ _ (λz=>z) h⟩)
 ·exact .inr h
theorem j6.gb(h:j6 K H a vs)(s:gO H H'):j6 K H' a vs:=h.elim (λ⟨o,e⟩=> .inl ⟨o,s _ _ (λz=>z) e⟩) .inr
inductive Vw(K:ah)(H:Hp)(N:Addr->Prop):V->D->Prop
 |sc (v:V):Vw K H N v (.sc v)
 |hl (v:V):Vw K H N v (.hl v)
 |nd {a:Addr} {k:Kd} {vs:List V} {cs:List D}:(cT k=false->N a)->jN K H a k vs->vs.length=cs.length->(∀(i:Nat) (v:V) (d:D),vs[i]?=some v->cs[i]?=some d->Vw K H N v d)->Vw K H N (.ref a) (.nd k cs)
def jR(K:ah)(H:Hp)(F:Addr->Prop)(a:Addr)(k:Kd)(vs:List V)(cs:List D):Prop:=match k with
 |.tup=>H a=some (.tup vs)
 |.eL=>bf cs=true/\j6 K H a vs
 |k=>F a/\qi K H a k vs
inductive bh(K:ah)(H:Hp):(Addr->Prop)->V->D->Prop
 |sc (F:Addr->Prop) (v:V):bh K H F v (.sc v)
 |hl (F:Addr->Prop) (v:V):bh K H F v (.hl v)
 |nd {F:Addr->Prop} {a:Addr} {k:Kd} {vs:List V} {cs:List D} (Fs:Nat->Addr->Prop):jR K H F a k vs cs->vs.length=cs.length->(∀i j b,Fs i b->Fs j b->i=j)->(∀i b,Fs i b->F b/\(cT k=false->b≠a))->
   (∀(i:Nat) (v:V) (d:D),vs[i]?=some v->cs[i]?=some d->bh K H (Fs i) v d)->bh K H F (.ref a) (.nd k cs)
section
variable {K:ah}{H H':Hp}{F F' N N':Addr->Prop}
theorem jR.mono(h:jR K H F a k vs cs)(m:∀b,F b->F' b):jR K H F' a k vs cs:=by
 cases k with
 |tup=>exact h
 |eL=>exact h
 |_=>exact⟨m _ h.1,h.2⟩
theorem jR.frame(h:jR K H F a k vs cs)(f:∀b o,F b->H b=some o->H' b=some o)(s:gO H H'):jR K H' F a k vs cs:=by
 cases k with
 |tup=>exact s _ _ (λz=>z) h
 |eL=>exact⟨h.1,h.2.gb s⟩
 |_=>obtain⟨h1,h2,h3,dx,e⟩:=h;exact⟨h1,h2,h3,dx,f _ _ h1 e⟩
theorem jR.cell(h:jR K H F a k vs cs):jN K H a k vs:=by
 cases k with
 |tup=>exact⟨trivial,h⟩
 |eL=>exact⟨trivial,h.2⟩
 |_=>exact h.2.cell
theorem jR.own(h:jR K H F a k vs cs)(hk:cT k=false):F a/\qi K H a k vs:=by
 cases k with
 |tup=>cases hk
 |eL=>cases hk
 |_=>exact h
theorem jR.put(hk:cT k=false)(h1:F a)(h2:qi K H a k vs):jR K H F a k vs cs:=by
 cases k with
 |tup=>cases hk
 |eL=>cases hk
 |_=>exact⟨h1,h2⟩
theorem bh.mono(h:bh K H F v d)(m:∀b,F b->F' b):bh K H F' v d:=by
 cases h with
 |sc=>exact .sc _ _
 |hl=>exact .hl _ _
 |nd Fs h1 h2 h3 h4 h5=>exact .nd Fs (h1.mono m) h2 h3 (λi b z=>⟨m _ (h4 i b z).1,(h4 i b z).2⟩) h5
theorem bh.frame(h:bh K H F v d)(f:∀b o,F b->H b=some o->H' b=some o)(s:gO H H'):bh K H' F v d:=by
 induction h with
 |sc=>exact .sc _ _
 |hl=>exact .hl _ _
 |nd Fs h1 h2 h3 h4 _ ih=>exact .nd Fs (h1.frame f s) h2 h3 h4 λi v d hv hd=>ih i v d hv hd λb o z=>f b o (h4 i b z).1
theorem bh.same(h:bh K H F v d)(s:aM H H'):bh K H' F v d:=h.frame (λb o _ e=>s b o e) (gO.of s)
theorem bh.view(h:bh K H F v d)(m:∀b,F b->N b):Vw K H N v d:=by
 induction h with
 |sc=>exact .sc _
 |hl=>exact .hl _
 |nd Fs h1 h2 h3 h4 _ ih=>exact .nd (λhk=>m _ (h1.own hk).1) h1.cell h2 λi v d hv hd=>ih i v d hv hd λb z=>m b (h4 i b z).1
theorem bh.vw(h:bh K H F v d):Vw K H (λ_=>True) v d:=h.view λ_ _=>trivial
theorem Vw.mono(h:Vw K H N v d)(m:∀b,N b->N' b):Vw K H N' v d:=by
 induction h with
 |sc=>exact .sc _
 |hl=>exact .hl _
 |nd h1 h2 h3 _ ih=>exact .nd (λk=>m _ (h1 k)) h2 h3 ih
theorem Vw.any(h:Vw K H N v d):Vw K H (λ_=>True) v d:=h.mono λ_ _=>trivial
theorem jN.frame(h:jN K H a k vs)(f:cT k=false->∀o,H a=some o->H' a=some o)(s:gO H H'):jN K H' a k vs:=by
 obtain⟨h1,h⟩:=h;refine⟨h1, ?_⟩;cases k with
 |tup=>exact s _ _ (λz=>z) h
 |eL=>exact j6.gb h s
 |lst=>exact f rfl _ h
 |aB ks=>
  have f:=f rfl;rcases h with h | ⟨o,h⟩
  ·exact .inl (f _ h)
  ·exact .inr ⟨o,f _ h⟩
 |iK ks=>
  have f:=f rfl;rcases h with h | ⟨o,h⟩
  ·exact .inl (f _ h)
  ·exact .inr ⟨o,f _ h⟩
 |obj C ns=>
  obtain⟨dx,h⟩:=h;exact⟨dx,f rfl _ h⟩
theorem Vw.frame(h:Vw K H N v d)(f:∀b o,N b->H b=some o->H' b=some o)(s:gO H H'):Vw K H' N v d:=by
 induction h with
 |sc=>exact .sc _
 |hl=>exact .hl _
 |nd h1 h2 h3 _ ih=>exact .nd h1 (h2.frame (λhk o e=>f _ o (h1 hk) e) s) h3 ih
theorem Vw.same(h:Vw K H N v d)(s:aM H H'):Vw K H' N v d:=h.frame (λb o _ e=>s b o e) (gO.of s)
theorem Vw.plain{v:V}{d:D}(h:Vw K H N v d)(p:plain d=true):bh K H (λ_=>False) v d:=by
 induction h with
 |sc=>exact .sc _ _
 |hl=>cases p
 | @nd a k vs cs h1 h2 h3 _ ih=>
  cases k with
  |tup=>
   have p:bf cs=true:=p;exact .nd (λ_ _=>False) h2.2 h3 (λ_ _ _ z=>z.elim) (λ_ _ z=>z.elim) λi v d hv hd=>ih i v d hv hd (s9 p hd)
  |eL=>
   have p:bf cs=true:=p;exact .nd (λ_ _=>False) ⟨p,h2.2⟩ h3 (λ_ _ _ z=>z.elim) (λ_ _ z=>z.elim) λi v d hv hd=>ih i v d hv hd (s9 p hd)
  |_=>simp[VL.plain]at p
end
def kids:HO->List V
 |.lst xs=>xs
 |.tup xs=>xs
 |.dK aj=>aj.map (·.2)
 |.dT aj=>aj.map (·.2)
 |.ins _ _ fs=>fs.map (·.2)
 |.iz _ u=>kids u
 |_=> []
theorem xK{α β:Type}:∀{l:List α} {m:List β},l.length=m.length->(l.zip m).map (·.2)=m
 | [], [],_=>rfl
 |_::l,_::m,h=>by rw[pX,dZ,xK (gm h)]
theorem Wj{K:ah}(h:fits K k vs.length):kids (ho k dx vs)=vs:=by
 cases k with
 |tup=>rfl
 |eL=>rfl
 |lst=>rfl
 |aB ks=>exact xK h
 |iK ks=>exact xK h
 |obj C ns=>exact xK h.1
inductive iL(H:Hp):V->List Nat->V->Prop
 |nil (v:V):iL H v [] v
 |cons {a:Addr} {o:HO} {n:Nat} {c u:V} {p:List Nat}:H a=some o->(kids o)[n]?=some c->iL H c p u->iL H (.ref a) (n::p) u
def ag:D->List Nat->Option D
 |d, []=>some d
 |.sc _,_::_=>none
 |.hl _,_::_=>none
 |.nd k cs,n::p=>if cT k=true/\bf cs=true then none else match cs[n]? with
  |some c=>ag c p
  |none=>none
def aG:D->List Nat->D->D
 |_, [],e=>e
 |.sc v,_::_,_=> .sc v
 |.hl v,_::_,_=> .hl v
 |.nd k cs,n::p,e=> .nd k (match cs[n]? with
  |some c=>cs.set n (aG c p e)
  |none=>cs)
section
variable {K:ah}{H H':Hp}{F F' N N':Addr->Prop}
theorem jR.kids(h:jR K H F a k vs cs)(hp:¬ (cT k=true/\bf cs=true))(e:H a=some o):kids o=vs:=by
 cases k with
 |tup=>have h:H a=some (.tup vs):=h;rw[e]at h;cases h;rfl
 |eL=>exact absurd ⟨rfl,h.1⟩ hp
 |_=>obtain⟨_,_,hf,dx,q⟩:=h;rw[e]at q;cases q;exact Wj hf
theorem bh.focus:∀{p:List Nat} {F:Addr->Prop} {v u:V} {d d1:D},bh K H F v d->iL H v p u->ag d p=some d1->
  ∃F1:Addr->Prop,(∀b,F1 b->F b)/\bh K H F1 u d1/\∀(H':Hp) (qj:Addr->Prop) (rC:D),(∀b o,¬ F1 b->F b->H b=some o->H' b=some o)->gO H H'->bh K H' qj u rC->(∀b,qj b->F1 b\/¬ F b)->
   bh K H' (λb=>(F b/\¬ F1 b)\/qj b) v (aG d p rC)
 | [],F,v,u,d,d1,h,hp,g=>by
  cases hp;cases g;refine⟨F,λ_ z=>z,h,λH' qj rC _ _ h' _=> ?_⟩;show bh K H' _ v (aG d [] rC);rw[aG];exact h'.mono λb z=> .inr z
 |n::p,F,v,u,d,d1,h,hp,g=>by
  cases hp with
  | @cons a o n c u p e1 e2 hp=>
   cases h with
   |sc=>rw[ag]at g;cases g
   |hl=>rw[ag]at g;cases g
   | @nd _ _ k vs cs Fs h1 h2 h3 h4 h5=>
    rw[ag]at g;by_cases df:cT k=true/\bf cs=true
    ·rw[if_pos df]at g;cases g
    rw[if_neg df]at g;rw[h1.kids df e1]at e2;have hn:n < cs.length:=by rw[<- h2];exact(bB.mp e2).1
    have hc:cs[n]?=some cs[n]:=gM hn;rw[hc]at g;obtain⟨F1,m1,r1,put⟩:=(h5 n c _ e2 hc).focus hp g;refine⟨F1,λb z=>(h4 n b (m1 b z)).1,r1,λH' qj rC fr st r' ap=> ?_⟩;have key:=put H' qj rC (λb o nb hb=>fr b o nb (h4 n b hb).1) st r' λb z=>(ap b z).elim .inl λq=> .inr λw=>q (h4 n b w).1;rw[aG,hc];have Ey:cT k=false->¬ F1 a:=λhk z=>(h4 n a (m1 a z)).2 hk rfl;refine .nd (λi b=>if i=n then(Fs n b/\¬ F1 b)\/qj b else Fs i b) ?_ (by show vs.length=(cs.set n _).length;rw[bZ];exact h2) ?_ ?_ ?_
    ·cases k with
     |tup=>exact st _ _ (λz=>z) h1
     |eL=>exact absurd ⟨rfl,h1.1⟩ df
     |_=>obtain⟨x1,x2,x3,dx,x4⟩:=h1;exact⟨.inl ⟨x1,Ey x2⟩,x2,x3,dx,fr _ _ (Ey x2) x1 x4⟩
    ·intro i j b hi hj;by_cases ei:i=n
     ·by_cases ej:j=n
      ·rw[ei,ej]
      ·rw[if_pos ei]at hi;rw[if_neg ej]at hj;rcases hi with hi | hi
       ·exact absurd (h3 j n b hj hi.1) ej
       ·rcases ap b hi with z | z
        ·exact absurd (h3 j n b hj (m1 b z)) ej
        ·exact absurd (h4 j b hj).1 z
     ·rw[if_neg ei]at hi;by_cases ej:j=n
      ·rw[if_pos ej]at hj;rcases hj with hj | hj
       ·exact absurd (h3 i n b hi hj.1) ei
       ·rcases ap b hj with z | z
        ·exact absurd (h3 i n b hi (m1 b z)) ei
        ·exact absurd (h4 i b hi).1 z
      ·rw[if_neg ej]at hj;exact h3 i j b hi hj
    ·intro i b hi;by_cases ei:i=n
     ·rw[if_pos ei]at hi;rcases hi with hi | hi
      ·exact⟨.inl ⟨(h4 n b hi.1).1,hi.2⟩,(h4 n b hi.1).2⟩
      ·refine⟨.inr hi,λhk z=> ?_⟩;subst z;rcases ap b hi with q | q
       ·exact Ey hk q
       ·exact q (h1.own hk).1
     ·rw[if_neg ei]at hi;exact⟨.inl ⟨(h4 i b hi).1,λz=>ei (h3 i n b hi (m1 b z))⟩,(h4 i b hi).2⟩
    ·intro i v2 d2 hv hd;by_cases ei:i=n
     ·subst ei;rw[e2]at hv;cases hv;have hd:(cs.set i (aG cs[i] p rC))[i]?=some d2:=hd;rw[dr hn]at hd;cases hd;show bh K H' (λb=>if i=i then(Fs i b/\¬ F1 b)\/qj b else Fs i b) c _;simp only[if_pos rfl];exact key
     ·have hd:(cs.set n (aG cs[n] p rC))[i]?=some d2:=hd;rw[fq (jO ei)]at hd;show bh K H' (λb=>if i=n then(Fs n b/\¬ F1 b)\/qj b else Fs i b) v2 d2;simp only[if_neg ei];exact(h5 i v2 d2 hv hd).frame (λb o hb=>fr b o (λz=>ei (h3 i n b hb (m1 b z))) (h4 i b hb).1) st
end
section
variable {K:ah}{H H':Hp}{F F' N N':Addr->Prop}
theorem jN.uK(h:jN K H a k vs)(hk:cT k=false):∃o,H a=some o:=by
 obtain⟨_,h⟩:=h;cases k with
 |tup=>cases hk
 |eL=>cases hk
 |lst=>exact⟨_,h⟩
 |aB ks=>rcases h with h | ⟨o,h⟩ <;> exact⟨_,h⟩
 |iK ks=>rcases h with h | ⟨o,h⟩ <;> exact⟨_,h⟩
 |obj C ns=>obtain⟨dx,h⟩:=h;exact⟨_,h⟩
theorem Vw.over(h:Vw K H N v d)(f:∀b o,N b->H b=some o->H' b=some o/\N' b)(s:gO H H'):Vw K H' N' v d:=by
 induction h with
 |sc=>exact .sc _
 |hl=>exact .hl _
 |nd h1 h2 h3 _ ih=>exact .nd (λk=>let ⟨o,e⟩:=h2.uK k;(f _ o (h1 k) e).2) (h2.frame (λhk o e=>(f _ o (h1 hk) e).1) s) h3 ih
theorem Vw.node(h:Vw K H N v (.nd k cs)):∃a vs,v= .ref a/\(cT k=false->N a)/\jN K H a k vs/\vs.length=cs.length/\∀(i:Nat) (v:V) (d:D),vs[i]?=some v->cs[i]?=some d->Vw K H N v d:=by
 cases h with
 |nd h1 h2 h3 h4=>exact⟨_,_,rfl,h1,h2,h3,h4⟩
theorem Vw.cg(h:Vw K H N v (.sc u)):v=u:=by
 cases h;rfl
theorem bh.cg(h:bh K H F v (.sc u)):v=u:=by
 cases h;rfl
theorem bh.hole(h:bh K H F v (.hl u)):v=u:=by
 cases h;rfl
theorem bh.node(h:bh K H F v (.nd k cs)):∃a vs,v= .ref a/\jR K H F a k vs cs/\vs.length=cs.length/\∃Fs:Nat->Addr->Prop,(∀i j b,Fs i b->Fs j b->i=j)/\(∀i b,Fs i b->F b/\(cT k=false->b≠a))/\
   (∀(i:Nat) (v:V) (d:D),vs[i]?=some v->cs[i]?=some d->bh K H (Fs i) v d):=by
 cases h with
 |nd Fs h1 h2 h3 h4 h5=>exact⟨_,_,rfl,h1,h2,Fs,h3,h4,h5⟩
theorem bh.path:∀{p:List Nat} {F:Addr->Prop} {v:V} {d d1:D},bh K H F v d->ag d p=some d1->∃u,iL H v p u
 | [],F,v,d,d1,h,g=>⟨v, .nil v⟩
 |n::p,F,v, .sc _,d1,h,g=>by rw[ag]at g;cases g
 |n::p,F,v, .hl _,d1,h,g=>by rw[ag]at g;cases g
 |n::p,F,v, .nd k cs,d1,h,g=>by
  obtain⟨a,vs,rfl,h1,h2,Fs,h3,h4,h5⟩:=h.node;rw[ag]at g;by_cases df:cT k=true/\bf cs=true
  ·rw[if_pos df]at g;cases g
  rw[if_neg df]at g;cases hc:cs[n]? with
  |none=>rw[hc]at g;cases g
  |some c=>
   rw[hc]at g;have hn:n < vs.length:=by rw[h2];exact(bB.mp hc).1
   obtain⟨u,hu⟩:=(h5 n _ c (gM hn) hc).path g;have ho:∃o,H a=some o:=by
    cases k with
    |tup=>exact⟨_,h1⟩
    |eL=>exact absurd ⟨rfl,h1.1⟩ df
    |_=>obtain⟨_,_,_,dx,e⟩:=h1;exact⟨_,e⟩
   obtain⟨o,e⟩:=ho;exact⟨u, .cons e (by rw[h1.kids df e];exact gM hn) hu⟩
theorem bh.Mj:∀{p:List Nat} {F:Addr->Prop} {v u:V} {d d1:D},bh K H F v d->ag d p=some d1->iL H v p u->(∀b o,F b->H b=some o->H' b=some o)->gO H H'->iL H' v p u
 | [],F,v,u,d,d1,h,g,hp,f,s=>by cases hp;exact .nil v
 |n::p,F,v,u, .sc _,d1,h,g,hp,f,s=>by rw[ag]at g;cases g
 |n::p,F,v,u, .hl _,d1,h,g,hp,f,s=>by rw[ag]at g;cases g
 |n::p,F,v,u, .nd k cs,d1,h,g,hp,f,s=>by
  obtain⟨a,vs,rfl,h1,h2,Fs,h3,h4,h5⟩:=h.node;rw[ag]at g;by_cases df:cT k=true/\bf cs=true
  ·rw[if_pos df]at g;cases g
  rw[if_neg df]at g;cases hc:cs[n]? with
  |none=>rw[hc]at g;cases g
  |some c=>
   rw[hc]at g;cases hp with
   | @cons a o n c' u p e1 e2 hp=>
    rw[h1.kids df e1]at e2;have Wk:H' a=some o:=by
     cases k with
     |tup=>have h1:H a=some (.tup vs):=h1;rw[e1]at h1;cases h1;exact s _ _ (λz=>z) e1
     |eL=>exact absurd ⟨rfl,h1.1⟩ df
     |_=>exact f _ _ h1.1 e1
    refine .cons Wk (by rw[h1.kids df e1];exact e2) ?_;exact(h5 n c' c e2 hc).Mj g hp (λb o z=>f b o (h4 n b z).1) s
theorem bh.sub(h:bh K H F v d)(g:ag d p=some d1)(hp:iL H v p u)(m:∀b,F b->N b):Vw K H N u d1:=by
 obtain⟨F1,m1,r1,_⟩:=h.focus hp g;exact r1.view λb z=>m b (m1 b z)
end
inductive B where
 |own (d:D) | ro (d:D) | ar (r:Nat) (p:List Nat)
abbrev En:=List (Option B)
def m7(K:ah)(H:Hp)(U F:Addr->Prop)(m:Nat)(e:List (Option V))(v:V):B->Prop
 |.own d=>bh K H F v d
 |.ro d=>Vw K H (λb=>¬ U b) v d
 |.ar r p=>r < m/\∃vr,e[r]?=some (some vr)/\iL H vr p v
structure cW(K:ah)(H:Hp)(U:Addr->Prop)(m:Nat)(e:List (Option V))(Z:En):Prop where
 len:e.length=Z.length
 mu:∀b,U b->jk (H b)
 ex:∃Fs:Nat->Addr->Prop,(∀i j b,Fs i b->Fs j b->i=j)/\(∀i b,Fs i b->U b)/\∀(i:Nat) (β:B),Z[i]?=some (some β)->∃v,e[i]?=some (some v)/\m7 K H U (Fs i) m e v β
def b8(U:Addr->Prop)(H:Hp)(U':Addr->Prop)(H':Hp):Prop:=∀b o,H b=some o->¬ U b->H' b=some o/\¬ U' b
theorem b8.refl(U:Addr->Prop)(H:Hp):b8 U H U H:=λ_ _ h n=>⟨h,n⟩
theorem b8.trans{H H1 H2:Hp}(a:b8 U H U1 H1)(b:b8 U1 H1 U2 H2):b8 U H U2 H2:=λc o h n=>b c o (a c o h n).1 (a c o h n).2
theorem b8.gb{H H':Hp}(s:b8 U H U' H')(mu:∀b,U b->jk (H b)):gO H H':=λb o m e=>(s b o e λu=>m (by have:=mu b u;rw[e]at this;exact this)).1
theorem qk(h:jk o):∃x,o=some x:=by
 cases o with
 |none=>exact h.elim
 |some x=>exact⟨x,rfl⟩
def ak(Z:En)(r:Nat):Option D:=match Z[r]? with
 |some (some (.own d))=>some d
 |_=>none
def eg(Z:En):Option B->Option B
 |some (.ar r p)=>if p= []\/((ak Z r).bind (ag · p)).isSome=true then some (.ar r p) else none
 |b=>b
def bx(Z:En):En:=Z.map (eg Z)
def Ml(τ:En):Prop:=∀b∈τ,b=none\/∃d,b=some (B.own d)
def xM(τ:En):Prop:=∀b∈τ,∀r p,b≠some (B.ar r p)
theorem i9(Z:En):(bx Z).length=Z.length:=by unfold bx;rw[dC]
section
variable {K:ah}{H H':Hp}{U U':Addr->Prop}{m:Nat}{e t t':List (Option V)}{Z τ u7:En}
theorem slot_of(hl:e.length=Z.length)(h:(Z++τ)[i]?=some (some β)):(i < e.length/\Z[i]?=some (some β))\/(e.length<=i/\τ[i - e.length]?=some (some β)):=by
 by_cases hi:i < Z.length
 ·rw[ba hi]at h;exact .inl ⟨by lia,h⟩
 ·rw[bI (by lia)]at h;exact .inr ⟨by lia,by rw[hl];exact h⟩
theorem lV(h:ak Z r=some d):Z[r]?=some (some (.own d)):=by
 unfold ak at h
 split at h
 ·next q=>cases h;exact q
 ·cases h
theorem Wl{i:Nat}{β:B}(h:(bx Z)[i]?=some (some β)):Z[i]?=some (some β)/\eg Z (some β)=some β:=by
 unfold bx at h;rw[dF]at h;cases q:Z[i]? with
 |none=>rw[q]at h;cases h
 |some o=>
  rw[q]at h;have h:eg Z o=some β:=ka h;cases o with
  |none=>cases h
  |some c=>
   cases c with
   |own d=>have h:some (B.own d)=some β:=h;cases h;exact⟨rfl,rfl⟩
   |ro d=>have h:some (B.ro d)=some β:=h;cases h;exact⟨rfl,rfl⟩
   |ar r p=>
    have h':(if p= []\/((ak Z r).bind (ag · p)).isSome=true then some (B.ar r p) else none)=some β:=h;by_cases c:p= []\/((ak Z r).bind (ag · p)).isSome=true
    ·rw[if_pos c]at h';cases h';exact⟨rfl,h⟩
    ·rw[if_neg c]at h';cases h'
theorem cW.call(h:cW K H U m (e++t) (Z++τ))(hl:e.length=Z.length)(hm:m<=e.length)(u9:xM τ):
  ∃Ut:Addr->Prop,(∀b,Ut b->U b)/\cW K H Ut 0 t τ/\(∀(i:Nat) (v:V) (d:D),e[i]?=some (some v)->(Z[i]?=some (some (.own d))->∃F:Addr->Prop,bh K H F v d/\∀b,F b->¬ Ut b)/\(Z[i]?=some (some (.ro d))->Vw K H (λb=>¬ Ut b) v d))/\
   ∀(H':Hp) (xN:Addr->Prop) (t':List (Option V)) (u7:En),cW K H' xN 0 t' u7->b8 Ut H xN H'->Ml u7->∃U':Addr->Prop,cW K H' U' m (e++t') (bx Z++u7)/\b8 U H U' H':=by
 obtain⟨cG,mu,Fs,dj,sub,sl⟩:=h;have hle:(e++t).length=(Z++τ).length:=cG;rw[bQ,bQ]at hle;refine⟨λb=>∃i,e.length<=i/\Fs i b,λb ⟨i,_,z⟩=>sub i b z,⟨by lia,λb ⟨i,_,z⟩=>mu b (sub i b z),λi=>Fs (e.length + i),λi j b hi hj=>by have:=dj _ _ b hi hj;lia,λi b hb=>⟨_,by lia,hb⟩,λi β aL=> ?_⟩, ?_, ?_⟩
 ·have tf:(Z++τ)[e.length + i]?=some (some β):=by
   rw[hl,bI (by lia),show Z.length + i - Z.length=i by lia];exact aL
  obtain⟨v,ev,sv⟩:=sl _ _ tf;rw[bI (by lia),show e.length + i - e.length=i by lia]at ev;refine⟨v,ev, ?_⟩;cases β with
  |own d=>exact sv
  |ro d=>exact Vw.mono sv λb nb ⟨j,_,z⟩=>nb (sub j b z)
  |ar r p=>exact absurd rfl (u9 _ (gk aL) r p)
 ·intro i v d ev;have hi:i < e.length:=by
   rcases wX i e.length with z | z
   ·exact z
   ·rw[aeb.mpr z]at ev;cases ev
  have ap:∀β,Z[i]?=some (some β)->(Z++τ)[i]?=some (some β):=λβ q=>by rw[ba (by lia)];exact q
  have mH:(e++t)[i]?=some (some v):=by rw[ba hi];exact ev
  refine⟨λhb=> ?_,λhb=> ?_⟩
  ·obtain⟨v',cX,sv⟩:=sl i _ (ap _ hb);rw[mH]at cX;cases cX;exact⟨Fs i,sv,λb hb ⟨j,hj,z⟩=>by have:=dj i j b hb z;lia⟩
  ·obtain⟨v',cX,sv⟩:=sl i _ (ap _ hb);rw[mH]at cX;cases cX;exact Vw.mono sv λb nb ⟨j,_,z⟩=>nb (sub j b z)
 ·intro H' xN t' u7 h' st Mm;obtain⟨aeT,Wm,Gs,Wn,Ez,Dt⟩:=h';have nU:∀i b,i < e.length->Fs i b->¬ ∃j,e.length<=j/\Fs j b:=λi b hi hb ⟨j,hj,z⟩=>by have:=dj i j b hb z;lia
  have gb:gO H H':=st.gb λb ⟨i,_,z⟩=>mu b (sub i b z);have keep:∀i,i < e.length->∀b o,Fs i b->H b=some o->H' b=some o:=λi hi b o hb q=>(st b o q (nU i b hi hb)).1;have Mn:∀i,i < e.length->∀b,Fs i b->¬ xN b:=λi hi b hb=>by
   obtain⟨o,q⟩:=qk (mu b (sub i b hb));exact(st b o q (nU i b hi hb)).2
  have lp:(bx Z).length=Z.length:=i9 Z;refine⟨λb=>(∃i,i < e.length/\Fs i b)\/xN b,⟨by rw[bQ,bQ,lp];lia,λb hb=> ?_,λi=>if i < e.length then Fs i else Gs (i - e.length),λi j b hi hj=> ?_,λi b hb=> ?_,λi β aL=> ?_⟩,λb o q nb=> ?_⟩
  ·rcases hb with⟨i,hi,z⟩ | z
   ·obtain⟨o,q⟩:=qk (mu b (sub i b z));have:=mu b (sub i b z);rw[q]at this;rw[keep i hi b o z q];exact this
   ·exact Wm b z
  ·have hi:(if i < e.length then Fs i else Gs (i - e.length)) b:=hi;have hj:(if j < e.length then Fs j else Gs (j - e.length)) b:=hj;by_cases ei:i < e.length
   ·rw[if_pos ei]at hi;by_cases ej:j < e.length
    ·rw[if_pos ej]at hj;exact dj i j b hi hj
    ·rw[if_neg ej]at hj;exact absurd (Ez _ b hj) (Mn i ei b hi)
   ·rw[if_neg ei]at hi;by_cases ej:j < e.length
    ·rw[if_pos ej]at hj;exact absurd (Ez _ b hi) (Mn j ej b hj)
    ·rw[if_neg ej]at hj;have:=Wn _ _ b hi hj;lia
  ·have hb:(if i < e.length then Fs i else Gs (i - e.length)) b:=hb;by_cases ei:i < e.length
   ·rw[if_pos ei]at hb;exact .inl ⟨i,ei,hb⟩
   ·rw[if_neg ei]at hb;exact .inr (Ez _ b hb)
  ·rcases slot_of (τ:=u7) (by rw[lp];exact hl) aL with⟨hi,q⟩ | ⟨hi,q⟩
   ·obtain⟨q1,q2⟩:=Wl q;obtain⟨v,ev,sv⟩:=sl i β (by rw[ba (by lia)];exact q1);rw[ba hi]at ev;refine⟨v,by rw[ba hi];exact ev, ?_⟩;simp only[if_pos hi];cases β with
    |own d=>exact bh.frame sv (keep i hi) gb
    |ro d=>
     exact Vw.over sv (λb o nb q=>by
      have nt:¬ ∃j,e.length<=j/\Fs j b:=λ⟨j,_,z⟩=>nb (sub j b z);exact⟨(st b o q nt).1,λz=>z.elim (λ⟨j,_,z⟩=>nb (sub j b z)) (st b o q nt).2⟩) gb
    |ar r p=>
     obtain⟨hr,vr,er,hp⟩:=sv;rw[ba (by lia)]at er;refine⟨hr,vr,by rw[ba (by lia)];exact er, ?_⟩;have q2:(if p= []\/((ak Z r).bind (ag · p)).isSome=true then some (B.ar r p) else none)=some (B.ar r p):=q2;by_cases c:p= []\/((ak Z r).bind (ag · p)).isSome=true
     ·rcases c with c | c
      ·subst c;cases hp;exact .nil _
      ·cases hd:ak Z r with
       |none=>rw[hd]at c;cases c
       |some d=>
        rw[hd]at c;have vb:=lV hd;obtain⟨v2,cX,du⟩:=sl r _ (by rw[ba (by lia)];exact vb);rw[ba (by lia),er]at cX;cases cX;obtain⟨d1,g⟩:=R7.mp c;have du:bh K H (Fs r) vr d:=du;exact du.Mj (d1:=d1) g hp (keep r (by lia)) gb
     ·rw[if_neg c]at q2;cases q2
   ·obtain⟨v,ev,sv⟩:=Dt _ β q;refine⟨v,by rw[bI hi];exact ev, ?_⟩;have Wo:¬ i < e.length:=by lia
    simp only[if_neg Wo];cases β with
    |own d=>exact sv
    |ro d=>rcases Mm _ (gk q) with z | ⟨_,z⟩ <;> cases z
    |ar r p=>rcases Mm _ (gk q) with z | ⟨_,z⟩ <;> cases z
  ·have nt:¬ ∃j,e.length<=j/\Fs j b:=λ⟨j,_,z⟩=>nb (sub j b z);exact⟨(st b o q nt).1,λz=>z.elim (λ⟨j,_,z⟩=>nb (sub j b z)) (st b o q nt).2⟩
theorem vc{cs:List D}{n:Nat}{x:D}(hn:n < cs.length)(hx:plain x=false):bf (cs.set n x)=false:=by
 cases q:bf (cs.set n x) with
 |false=>rfl
 |true=>
  have:=s9 q (dr hn);rw[hx]at this;cases this
theorem vd:∀{p:List Nat} {d d1 x:D},ag d p=some d1->plain x=false->plain (aG d p x)=false
 | [],d,d1,x,g,hx=>by rw[aG];exact hx
 |n::p, .sc _,d1,x,g,hx=>by rw[ag]at g;cases g
 |n::p, .hl _,d1,x,g,hx=>by rw[ag]at g;cases g
 |n::p, .nd k cs,d1,x,g,hx=>by
  rw[ag]at g;by_cases df:cT k=true/\bf cs=true
  ·rw[if_pos df]at g;cases g
  rw[if_neg df]at g;cases hc:cs[n]? with
  |none=>rw[hc]at g;cases g
  |some c=>
   rw[hc]at g;rw[aG,hc];cases k with
   |tup=>exact vc (bB.mp hc).1 (vd g hx)
   |eL=>exact vc (bB.mp hc).1 (vd g hx)
   |_=>rfl
theorem EA:∀{p:List Nat} {d d1 x:D},ag d p=some d1->plain x=false->ag (aG d p x) p=some x
 | [],d,d1,x,g,hx=>by rw[aG,ag]
 |n::p, .sc _,d1,x,g,hx=>by rw[ag]at g;cases g
 |n::p, .hl _,d1,x,g,hx=>by rw[ag]at g;cases g
 |n::p, .nd k cs,d1,x,g,hx=>by
  rw[ag]at g;by_cases df:cT k=true/\bf cs=true
  ·rw[if_pos df]at g;cases g
  rw[if_neg df]at g;cases hc:cs[n]? with
  |none=>rw[hc]at g;cases g
  |some c=>
   rw[hc]at g;have hn:=(bB.mp hc).1;rw[aG,hc];show ag (.nd k (cs.set n (aG c p x))) (n::p)=some x;rw[ag,if_neg,dr hn]
   ·exact EA g hx
   ·rintro⟨_,q⟩;rw[vc hn (vd g hx)]at q;cases q
theorem EB:∀{p:List Nat} {d d1 x y:D},ag d p=some d1->aG (aG d p x) p y=aG d p y
 | [],d,d1,x,y,g=>by simp only[aG]
 |n::p, .sc _,d1,x,y,g=>by rw[ag]at g;cases g
 |n::p, .hl _,d1,x,y,g=>by rw[ag]at g;cases g
 |n::p, .nd k cs,d1,x,y,g=>by
  rw[ag]at g;by_cases df:cT k=true/\bf cs=true
  ·rw[if_pos df]at g;cases g
  rw[if_neg df]at g;cases hc:cs[n]? with
  |none=>rw[hc]at g;cases g
  |some c=>
   rw[hc]at g;have hn:=(bB.mp hc).1;have e1:aG (.nd k cs) (n::p) x= .nd k (cs.set n (aG c p x)):=by rw[aG,hc]
   have e2:aG (.nd k cs) (n::p) y= .nd k (cs.set n (aG c p y)):=by rw[aG,hc]
   have e3:aG (.nd k (cs.set n (aG c p x))) (n::p) y= .nd k ((cs.set n (aG c p x)).set n (aG (aG c p x) p y)):=by rw[aG,dr hn]
   rw[e1,e2,e3,List.set_set,EB g]
theorem m7.slots{F:Addr->Prop}{e e':List (Option V)}(h:m7 K H U F m e v β)(he:∀r,r < m->e'[r]?=e[r]?):m7 K H U F m e' v β:=by
 cases β with
 |own d=>exact h
 |ro d=>exact h
 |ar r p=>
  obtain⟨hr,vr,er,hp⟩:=h;exact⟨hr,vr,(he r hr).trans er,hp⟩
theorem cW.take(h:cW K H U m e Z)(hm:m<=e.length)(hr:Z[r]?=some (some (.own d)))(er:e[r]?=some (some vr))(hp:iL H vr p u)(g:ag d p=some d1):
  cW K H U m (e++ [some u]) (Z.set r (some (.own (aG d p (.hl u))))++ [some (.own d1)]):=by
 obtain⟨cG,mu,Fs,dj,sub,sl⟩:=h;have jo:r < e.length:=by
  rcases wX r e.length with z | z
  ·exact z
  ·rw[aeb.mpr z]at er;cases er
 obtain⟨v,ev,sv⟩:=sl r _ hr;rw[er]at ev;cases ev;have sv:bh K H (Fs r) vr d:=sv;obtain⟨F1,m1,r1,put⟩:=sv.focus hp g;have key:=put H (λ_=>False) (.hl u) (λb o _ _ z=>z) (gO.refl H) (.hl _ _) λb z=>z.elim;have Mo:(Z.set r (some (.own (aG d p (.hl u))))).length=Z.length:=bZ;refine⟨by rw[bQ,bQ,Mo,cG];rfl,mu,λi b=>if i=e.length then F1 b else if i=r then Fs r b/\¬ F1 b else Fs i b/\i < e.length,λi j b hi hj=> ?_,λi b hb=> ?_,λi β aL=> ?_⟩
 ·have hi:if i=e.length then F1 b else if i=r then Fs r b/\¬ F1 b else Fs i b/\i < e.length:=hi;have hj:if j=e.length then F1 b else if j=r then Fs r b/\¬ F1 b else Fs j b/\j < e.length:=hj;have fi:∀k,(if k=e.length then F1 b else if k=r then Fs r b/\¬ F1 b else Fs k b/\k < e.length)->(k=e.length/\F1 b)\/(k=r/\Fs r b/\¬ F1 b)\/(k≠r/\k≠e.length/\Fs k b):=λk hk=>by
   by_cases c1:k=e.length
   ·rw[if_pos c1]at hk;exact .inl ⟨c1,hk⟩
   ·rw[if_neg c1]at hk;by_cases c2:k=r
    ·rw[if_pos c2]at hk;exact .inr (.inl ⟨c2,hk⟩)
    ·rw[if_neg c2]at hk;exact .inr (.inr ⟨c2,c1,hk.1⟩)
  rcases fi i hi with⟨a1,a2⟩ | ⟨a1,a2,a3⟩ | ⟨a1,a2,a3⟩ <;> rcases fi j hj with⟨b1,b2⟩ | ⟨b1,b2,b3⟩ | ⟨b1,b2,b3⟩
  ·lia
  ·exact absurd a2 b3
  ·exact absurd (dj j r b b3 (m1 b a2)) b1
  ·exact absurd b2 a3
  ·lia
  ·exact absurd (dj j r b b3 a2) b1
  ·exact absurd (dj i r b a3 (m1 b b2)) a1
  ·exact absurd (dj i r b a3 b2) a1
  ·exact dj i j b a3 b3
 ·have hb:if i=e.length then F1 b else if i=r then Fs r b/\¬ F1 b else Fs i b/\i < e.length:=hb;by_cases c1:i=e.length
  ·rw[if_pos c1]at hb;exact sub r b (m1 b hb)
  ·rw[if_neg c1]at hb;by_cases c2:i=r
   ·rw[if_pos c2]at hb;exact sub r b hb.1
   ·rw[if_neg c2]at hb;exact sub i b hb.1
 ·have EC:∀r,r < m->(e++ [some u])[r]?=e[r]?:=λr hr=>ba (by lia);rcases slot_of (by rw[Mo];exact cG) aL with⟨hi,q⟩ | ⟨hi,q⟩
  ·by_cases c:r=i
   ·subst c;rw[dr (by lia)]at q;cases q;refine⟨vr,by rw[ba hi];exact er, ?_⟩;have n1:¬ r=e.length:=by lia
    show bh K H (λb=>if r=e.length then F1 b else if r=r then Fs r b/\¬ F1 b else _) vr _;simp only[if_neg n1,if_pos rfl];exact key.mono λb z=>z.elim (λz=>z) λz=>z.elim
   ·rw[fq c]at q;obtain⟨v,ev,sv⟩:=sl i β q;refine⟨v,by rw[ba hi];exact ev, ?_⟩;have n1:¬ i=e.length:=by lia
    have n2:¬ i=r:=λz=>c z.symm;have sv:=m7.slots sv EC;cases β with
    |own dd=>
     show bh K H (λb=>if i=e.length then F1 b else if i=r then Fs r b/\¬ F1 b else Fs i b/\i < e.length) v dd;simp only[if_neg n1,if_neg n2];exact bh.mono sv λb z=>⟨z,hi⟩
    |ro dd=>exact sv
    |ar _ _=>exact sv
  ·have:i - e.length=0:=by
    have:=(bB.mp q).1;simp at this;lia
   rw[this]at q;cases q;have ei:i=e.length:=by lia
   subst ei;refine⟨u,by rw[bI (bK _),mB];rfl, ?_⟩;show bh K H (λb=>if e.length=e.length then F1 b else _) u d1;simp only[if_pos rfl];exact r1
theorem cW.put(h:cW K H U m (e++ [some u]) (Z++ [some (.own d1)]))(hl:e.length=Z.length)(hm:m<=e.length)(hr:Z[r]?=some (some (.own d0)))(g:ag d0 p=some (.hl u)):
  cW K H U m e (Z.set r (some (.own (aG d0 p d1)))):=by
 obtain⟨cG,mu,Fs,dj,sub,sl⟩:=h;have jo:r < e.length:=by rw[hl];exact(bB.mp hr).1
 obtain⟨vr,ev,sv⟩:=sl r _ (by rw[ba (by lia)];exact hr);rw[ba jo]at ev;have sv:bh K H (Fs r) vr d0:=sv;obtain⟨u',hp⟩:=sv.path g;obtain⟨F1,m1,r1,put⟩:=sv.focus hp g;have:=r1.hole;subst this;obtain⟨u2,eu,su⟩:=sl e.length (.own d1) (by rw[hl,bI (bK _),mB];rfl);rw[bI (bK _),mB]at eu;have eu:some (some u')=some (some u2):=eu;cases eu;have su:bh K H (Fs e.length) u' d1:=su;have key:=put H (Fs e.length) d1 (λb o _ _ z=>z) (gO.refl H) su λb z=> .inr λw=>by have:=dj _ _ b z w;lia
 refine⟨by rw[bZ];exact hl,mu,λi b=>if i=r then(Fs r b/\¬ F1 b)\/Fs e.length b else Fs i b/\i < e.length,λi j b hi hj=> ?_,λi b hb=> ?_,λi β aL=> ?_⟩
 ·have hi:if i=r then(Fs r b/\¬ F1 b)\/Fs e.length b else Fs i b/\i < e.length:=hi;have hj:if j=r then(Fs r b/\¬ F1 b)\/Fs e.length b else Fs j b/\j < e.length:=hj;by_cases c1:i=r
  ·rw[if_pos c1]at hi;by_cases c2:j=r
   ·lia
   ·rw[if_neg c2]at hj;rcases hi with hi | hi
    ·exact absurd (dj j r b hj.1 hi.1) c2
    ·have:=dj j _ b hj.1 hi;lia
  ·rw[if_neg c1]at hi;by_cases c2:j=r
   ·rw[if_pos c2]at hj;rcases hj with hj | hj
    ·exact absurd (dj i r b hi.1 hj.1) c1
    ·have:=dj i _ b hi.1 hj;lia
   ·rw[if_neg c2]at hj;exact dj i j b hi.1 hj.1
 ·have hb:if i=r then(Fs r b/\¬ F1 b)\/Fs e.length b else Fs i b/\i < e.length:=hb;by_cases c1:i=r
  ·rw[if_pos c1]at hb;rcases hb with hb | hb
   ·exact sub r b hb.1
   ·exact sub _ b hb
  ·rw[if_neg c1]at hb;exact sub i b hb.1
 ·have EC:∀r,r < m->e[r]?=(e++ [some u'])[r]?:=λr hr=>(ba (by lia)).symm;by_cases c:r=i
  ·subst c;rw[dr (by lia)]at aL;cases aL;refine⟨vr,ev, ?_⟩;show bh K H (λb=>if r=r then(Fs r b/\¬ F1 b)\/Fs e.length b else _) vr _;simp only[if_pos rfl];exact key
  ·rw[fq c]at aL;have hi:i < e.length:=by rw[hl];exact(bB.mp aL).1
   obtain⟨v,cX,du⟩:=sl i β (by rw[ba (by lia)];exact aL);rw[ba hi]at cX;refine⟨v,cX, ?_⟩;have n2:¬ i=r:=λz=>c z.symm;have du:=m7.slots du EC;cases β with
   |own dd=>
    show bh K H (λb=>if i=r then(Fs r b/\¬ F1 b)\/Fs e.length b else Fs i b/\i < e.length) v dd;simp only[if_neg n2];exact bh.mono du λb z=>⟨z,hi⟩
   |ro dd=>exact du
   |ar _ _=>exact du
end
end VL
namespace VL
open PySem L2
abbrev T1:Addr->Prop:=λ_=>True
def eI(K:ah)(H H':Hp)(v:V)(d:D):Prop:=∃G:Addr->Prop,bh K H' G v d/\∀b,G b->H b=none/\jk (H' b)
section
theorem eI.sc(v:V):eI K H H' v (.sc v):=⟨λ_=>False, .sc _ _,λ_ z=>z.elim⟩
theorem eI.plain(h:Vw K H' N v d)(p:VL.plain d=true):eI K H H' v d:=⟨_,h.plain p,λ_ z=>z.elim⟩
theorem eI.vw(h:eI K H H' v d):Vw K H' T1 v d:=let ⟨_,r,_⟩:=h;r.vw
theorem eI.early(h:eI K H1 H2 v d)(s:aM H H1):eI K H H2 v d:=by
 obtain⟨G,r,f⟩:=h;refine⟨G,r,λb z=>⟨?_,(f b z).2⟩⟩;cases q:H b with
 |none=>rfl
 |some o=>have:=(f b z).1;rw[s b o q]at this;cases this
theorem iL.same(h:iL H v p u)(s:aM H H'):iL H' v p u:=by
 induction h with
 |nil=>exact .nil _
 |cons e1 e2 _ ih=>exact .cons (s _ _ e1) e2 ih
theorem xO(h:jk (H b))(s:aM H H'):jk (H' b):=by
 obtain⟨o,w⟩:=qk h;rw[w]at h;rw[s b o w];exact h
theorem cW.same(h:cW K H U m e Z)(s:aM H H'):cW K H' U m e Z:=by
 obtain⟨hl,mu,Fs,dj,sub,sl⟩:=h;refine⟨hl,λb z=>xO (mu b z) s,Fs,dj,sub,λi β aL=> ?_⟩;obtain⟨v,ev,sv⟩:=sl i β aL;refine⟨v,ev, ?_⟩;cases β with
 |own d=>exact bh.same sv s
 |ro d=>exact Vw.same sv s
 |ar r p=>obtain⟨a,vr,b,c⟩:=sv;exact⟨a,vr,b,c.same s⟩
theorem cW.push(h:cW K H U m e Z)(s:aM H H')(hm:m<=e.length)(ow:eI K H H' v d):∃U':Addr->Prop,cW K H' U' m (e++ [some v]) (Z++ [some (.own d)])/\b8 U H U' H':=by
 obtain⟨hl,mu,Fs,dj,sub,sl⟩:=h.same s;obtain⟨G,r,fr⟩:=ow;have nG:∀b,G b->¬ U b:=λb z u=>by
  obtain⟨o,w⟩:=qk (h.mu b u);rw[(fr b z).1]at w;cases w
 refine⟨λb=>U b\/G b,⟨by rw[bQ,bQ,hl];rfl,λb z=>z.elim (mu b) λz=>(fr b z).2,λi b=>if i=e.length then G b else Fs i b,λi j b hi hj=> ?_,λi b hb=> ?_,λi β aL=> ?_⟩,λb o q nu=>⟨s b o q,λz=>z.elim nu λz=>by rw[(fr b z).1]at q;cases q⟩⟩
 ·have hi:if i=e.length then G b else Fs i b:=hi;have hj:if j=e.length then G b else Fs j b:=hj;by_cases ci:i=e.length
  ·rw[if_pos ci]at hi;by_cases cj:j=e.length
   ·lia
   ·rw[if_neg cj]at hj;exact absurd (sub j b hj) (nG b hi)
  ·rw[if_neg ci]at hi;by_cases cj:j=e.length
   ·rw[if_pos cj]at hj;exact absurd (sub i b hi) (nG b hj)
   ·rw[if_neg cj]at hj;exact dj i j b hi hj
 ·have hb:if i=e.length then G b else Fs i b:=hb;by_cases ci:i=e.length
  ·rw[if_pos ci]at hb;exact .inr hb
  ·rw[if_neg ci]at hb;exact .inl (sub i b hb)
 ·rcases slot_of hl aL with⟨hi,q⟩ | ⟨hi,q⟩
  ·obtain⟨v',ev,sv⟩:=sl i β q;refine⟨v',by rw[ba hi];exact ev, ?_⟩;have ni:¬ i=e.length:=by lia
   have sv:=m7.slots sv (e':=e++ [some v]) λr hr=>ba (by lia);cases β with
   |own dd=>
    show bh K H' (λb=>if i=e.length then G b else Fs i b) v' dd;simp only[if_neg ni];exact sv
   |ro dd=>
    obtain⟨v2,cX,ql⟩:=h.ex.choose_spec.2.2 i _ q;rw[ev]at cX;cases cX;have ql:Vw K H (λb=>¬ U b) v' dd:=ql;exact ql.over (λb o nb q=>⟨s b o q,λz=>z.elim nb λz=>by rw[(fr b z).1]at q;cases q⟩) (gO.of s)
   |ar _ _=>exact sv
  ·have:i - e.length=0:=by
    have:=(bB.mp q).1;simp at this;lia
   rw[this]at q;cases q;have ei:i=e.length:=by lia
   subst ei;refine⟨v,by rw[bI (bK _),mB];rfl, ?_⟩;show bh K H' (λb=>if e.length=e.length then G b else _) v d;simp only[if_pos rfl];exact r
theorem cW.drop(h:cW K H U m (e++t) (Z++τ))(hl:e.length=Z.length)(hm:m<=e.length):cW K H U m e Z:=by
 obtain⟨_,mu,Fs,dj,sub,sl⟩:=h;refine⟨hl,mu,Fs,dj,sub,λi β aL=> ?_⟩;have hi:i < Z.length:=(bB.mp aL).1;obtain⟨v,ev,sv⟩:=sl i β (by rw[ba hi];exact aL);rw[ba (by lia)]at ev;exact⟨v,ev,m7.slots sv λr hr=>(ba (by lia)).symm⟩
def gq(i:Nat)(Z:En):En:=Z.map λ
 |some (.ar r p)=>if r=i then none else some (.ar r p)
 |b=>b
theorem kX(i:Nat)(Z:En):(gq i Z).length=Z.length:=by unfold gq;rw[dC]
theorem ED{i j:Nat}{β:B}(h:(gq i Z)[j]?=some (some β)):Z[j]?=some (some β)/\∀r p,β= .ar r p->r≠i:=by
 unfold gq at h;rw[dF]at h;cases q:Z[j]? with
 |none=>rw[q]at h;cases h
 |some o=>
  rw[q]at h;cases o with
  |none=>cases h
  |some c=>
   cases c with
   |own d=>cases h;exact⟨rfl,λ_ _ z=>nomatch z⟩
   |ro d=>cases h;exact⟨rfl,λ_ _ z=>nomatch z⟩
   |ar r p=>
    have h:some (if r=i then none else some (B.ar r p))=some (some β):=h;by_cases c:r=i
    ·rw[if_pos c]at h;cases h
    ·rw[if_neg c]at h;cases h;exact⟨rfl,λr' p' z=>by cases z;exact c⟩
theorem cW.set{i:Nat}(h:cW K H U m (e++ [some v]) (Z++ [some (.own d)]))(hl:e.length=Z.length)(hm:m<=e.length)(hi:i < e.length):cW K H U m (e.set i (some v)) ((gq i Z).set i (some (.own d))):=by
 obtain⟨_,mu,Fs,dj,sub,sl⟩:=h;obtain⟨v',ev,sv⟩:=sl e.length (.own d) (by rw[hl,bI (bK _),mB];rfl);rw[bI (bK _),mB]at ev;cases ev;have sv:bh K H (Fs e.length) v d:=sv;refine⟨by rw[bZ,bZ,kX];exact hl,mu,λj b=>if j=i then Fs e.length b else Fs j b/\j < e.length,λj k b hj hk=> ?_,λj b hb=> ?_,λj β aL=> ?_⟩
 ·have hj:if j=i then Fs e.length b else Fs j b/\j < e.length:=hj;have hk:if k=i then Fs e.length b else Fs k b/\k < e.length:=hk;by_cases cj:j=i
  ·rw[if_pos cj]at hj;by_cases ck:k=i
   ·lia
   ·rw[if_neg ck]at hk;have:=dj _ _ b hj hk.1;lia
  ·rw[if_neg cj]at hj;by_cases ck:k=i
   ·rw[if_pos ck]at hk;have:=dj _ _ b hj.1 hk;lia
   ·rw[if_neg ck]at hk;exact dj _ _ b hj.1 hk.1
 ·have hb:if j=i then Fs e.length b else Fs j b/\j < e.length:=hb;by_cases cj:j=i
  ·rw[if_pos cj]at hb;exact sub _ b hb
  ·rw[if_neg cj]at hb;exact sub _ b hb.1
 ·by_cases cj:i=j
  ·subst cj;rw[dr (by rw[kX];lia)]at aL;cases aL;refine⟨v,dr hi, ?_⟩;show bh K H (λb=>if i=i then Fs e.length b else _) v d;simp only[if_pos rfl];exact sv
  ·rw[fq cj]at aL;obtain⟨q1,q2⟩:=ED aL;have hj:j < e.length:=by rw[hl];exact(bB.mp q1).1
   obtain⟨v2,cX,du⟩:=sl j β (by rw[ba (by lia)];exact q1);rw[ba hj]at cX;refine⟨v2,by rw[fq cj];exact cX, ?_⟩;have nj:¬ j=i:=λz=>cj z.symm;cases β with
   |own dd=>
    show bh K H (λb=>if j=i then Fs e.length b else Fs j b/\j < e.length) v2 dd;simp only[if_neg nj];exact bh.mono du λb z=>⟨z,hj⟩
   |ro dd=>exact du
   |ar r p=>
    obtain⟨a,vr,b,c⟩:=du;rw[ba (by lia)]at b;exact⟨a,vr,by rw[fq λz=>q2 r p rfl z.symm];exact b,c⟩
theorem cW.bind{i:Nat}{β:B}(h:cW K H U m e Z)(hi:i < e.length)(hb:match β with | .own _=>False | .ro d=>Vw K H (λb=>¬ U b) v d | .ar r p=>r < m/\r≠i/\∃vr,e[r]?=some (some vr)/\iL H vr p v):
  cW K H U m (e.set i (some v)) ((gq i Z).set i (some β)):=by
 obtain⟨hl,mu,Fs,dj,sub,sl⟩:=h;refine⟨by rw[bZ,bZ,kX];exact hl,mu,Fs,dj,sub,λj γ eY=> ?_⟩;by_cases cj:i=j
 ·subst cj;rw[dr (by rw[kX];lia)]at eY;cases eY;refine⟨v,dr hi, ?_⟩;cases β with
  |own d=>exact hb.elim
  |ro d=>exact hb
  |ar r p=>
   obtain⟨a,b,vr,c,q⟩:=hb;exact⟨a,vr,by rw[fq λz=>b z.symm];exact c,q⟩
 ·rw[fq cj]at eY;obtain⟨q1,q2⟩:=ED eY;obtain⟨v2,cX,du⟩:=sl j γ q1;refine⟨v2,by rw[fq cj];exact cX, ?_⟩;cases γ with
  |own dd=>exact du
  |ro dd=>exact du
  |ar r p=>
   obtain⟨a,vr,b,c⟩:=du;exact⟨a,vr,by rw[fq λz=>q2 r p rfl z.symm];exact b,c⟩
end
structure aw(K:ah)(n:Nat)(H:Hp)(U:Addr->Prop)(σ hv:List (Option V))(Z:En)(τv:List V)(τd:List D):Prop where
 ok:cW K H U Z.length (σ++hv++τv.map some) (Z++τd.map λd=>some (.own d))
 len:σ.length + hv.length=Z.length
 nn:σ.length=n
inductive Fl where
 |nx (Z:En) | rt (d:D) (Z:En) | bk (Z:En) | ct (Z:En)
def AW(K:ah)(n:Nat)(H:Hp)(U:Addr->Prop)(hv:List (Option V))(τv:List V)(τd:List D)(E:lM):Fl->Prop
 |.nx ρ'=>∀aO H' U',aw K n H' U' aO hv ρ' τv τd->b8 U H U' H'->E.nx aO H'
 |.rt d ρ'=>∀v aO H' U',aw K n H' U' aO hv ρ' (τv++ [v]) (τd++ [d])->b8 U H U' H'->E.rt v H'
 |.bk ρ'=>∀aO H' U',aw K n H' U' aO hv ρ' τv τd->b8 U H U' H'->E.bk aO H'
 |.ct ρ'=>∀aO H' U',aw K n H' U' aO hv ρ' τv τd->b8 U H U' H'->E.ct aO H'
class SV(K:ah)(n:Nat)(t:TE)(f:outParam (En->Option D)):Prop where
 s:∀{σ hv:List (Option V)} {H:Hp} {U:Addr->Prop} {Z:En} {τv:List V} {τd:List D} {d:D} {Q:VK},aw K n H U σ hv Z τv τd->f Z=some d->(∀v H',aM H H'->Vw K H' T1 v d->Q v H')->t σ H Q
class SF(K:ah)(n:Nat)(t:TE)(f:outParam (En->Option D)):Prop where
 s:∀{σ hv:List (Option V)} {H:Hp} {U:Addr->Prop} {Z:En} {τv:List V} {τd:List D} {d:D} {Q:VK},aw K n H U σ hv Z τv τd->f Z=some d->(∀v H',aM H H'->eI K H H' v d->Q v H')->t σ H Q
class SM(K:ah)(n:Nat)(t:TE)(f:outParam (En->Option (D×En))):Prop where
 s:∀{σ hv:List (Option V)} {H:Hp} {U:Addr->Prop} {Z ρ':En} {τv:List V} {τd:List D} {d:D} {Q:VK},aw K n H U σ hv Z τv τd->f Z=some (d,ρ')->
  (∀v H' U',aw K n H' U' σ hv ρ' (τv++ [v]) (τd++ [d])->b8 U H U' H'->Q v H')->t σ H Q
inductive Pl where
 |rt (r:Nat) (p:List Nat) | ro (d:D)
def hJ(K:ah)(H:Hp)(U:Addr->Prop)(e:List (Option V))(Z:En)(v:V):Pl->Prop
 |.rt r p=>r < Z.length/\∃vr d,e[r]?=some (some vr)/\ak Z r=some d/\(ag d p).isSome=true/\iL H vr p v
 |.ro d=>Vw K H (λb=>¬ U b) v d
class SP(K:ah)(n:Nat)(t:TE)(f:outParam (En->Option Pl)):Prop where
 s:∀{σ hv:List (Option V)} {H:Hp} {U:Addr->Prop} {Z:En} {τv:List V} {τd:List D} {q:Pl} {Q:VK},aw K n H U σ hv Z τv τd->f Z=some q->(∀v H',aM H H'->hJ K H' U (σ++hv) Z v q->Q v H')->t σ H Q
class lW(K:ah)(n:Nat)(t:TT)(f:outParam (En->Option Bool)):Prop where
 s:∀{σ hv:List (Option V)} {H:Hp} {U:Addr->Prop} {Z:En} {τv:List V} {τd:List D} {b:Bool} {Q:Bool->Hp->Prop},aw K n H U σ hv Z τv τd->f Z=some b->(∀H',aM H H'->Q b H')->t σ H Q
class ST(K:ah)(n:Nat)(t:TT)(f:outParam (En->Option (Bool×En))):Prop where
 s:∀{σ hv:List (Option V)} {H:Hp} {U:Addr->Prop} {Z ρ':En} {τv:List V} {τd:List D} {b:Bool} {Q:Bool->Hp->Prop},aw K n H U σ hv Z τv τd->f Z=some (b,ρ')->
  (∀H' U',aw K n H' U' σ hv ρ' τv τd->b8 U H U' H'->Q b H')->t σ H Q
def dN(K:ah)(H:Hp)(N:Addr->Prop)(vs:List V)(ds:List D):Prop:=vs.length=ds.length/\∀(i:Nat) (v:V) (d:D),vs[i]?=some v->ds[i]?=some d->Vw K H N v d
class SA(K:ah)(n:Nat)(t:TA)(f:outParam (En->Option (List D))):Prop where
 s:∀{σ hv:List (Option V)} {H:Hp} {U:Addr->Prop} {Z:En} {τv:List V} {τd:List D} {ds:List D} {Q:List V->Hp->Prop},aw K n H U σ hv Z τv τd->f Z=some ds->(∀vs H',aM H H'->dN K H' T1 vs ds->Q vs H')->t σ H Q
class tq(K:ah)(n:Nat)(t:TA)(f:outParam (En->Option (List D×En))):Prop where
 s:∀{σ hv:List (Option V)} {H:Hp} {U:Addr->Prop} {Z ρ':En} {τv:List V} {τd:List D} {ds:List D} {Q:List V->Hp->Prop},aw K n H U σ hv Z τv τd->f Z=some (ds,ρ')->
  (∀vs H' U',vs.length=ds.length->aw K n H' U' σ hv ρ' (τv++vs) (τd++ds)->b8 U H U' H'->Q vs H')->t σ H Q
class SS(K:ah)(n:Nat)(t:TS)(f:outParam (En->Option Fl)):Prop where
 s:∀{σ hv:List (Option V)} {H:Hp} {U:Addr->Prop} {Z:En} {τv:List V} {τd:List D} {fl:Fl} {E:lM},aw K n H U σ hv Z τv τd->f Z=some fl->AW K n H U hv τv τd E fl->t E σ H
section
theorem aw.same(h:aw K n H U σ hv Z τv τd)(s:aM H H'):aw K n H' U σ hv Z τv τd:=⟨h.ok.same s,h.len,h.nn⟩
theorem aw.push(h:aw K n H U σ hv Z τv τd)(s:aM H H')(o:eI K H H' v d):∃U',aw K n H' U' σ hv Z (τv++ [v]) (τd++ [d])/\b8 U H U' H':=by
 obtain⟨U',k,st⟩:=h.ok.push s (by have:=h.len;simp;lia) o;refine⟨U',⟨?_,h.len,h.nn⟩,st⟩;rw[cM,cM, <- dt, <- dt];exact k
theorem aw.drop(h:aw K n H U σ hv Z (τv++vs) (τd++ds))(hl:vs.length=ds.length):aw K n H U σ hv Z τv τd:=by
 refine⟨?_,h.len,h.nn⟩;have k:=h.ok;have e:=k.len;have l:=h.len;rw[cM,cM, <- dt, <- dt]at k;refine k.drop ?_ (by simp;lia);simp at e |-
 lia
theorem aw.tu(h:aw K n H U σ hv Z (τv++ [v]) (τd++ [d])):aw K n H U σ hv Z τv τd:=h.drop (vs:= [v]) (ds:= [d]) rfl
theorem aw.tl(h:aw K n H U σ hv Z τv τd):τv.length=τd.length:=by
 have e:=h.ok.len;have l:=h.len;simp at e
 lia
theorem aw.last(h:aw K n H U σ hv Z (τv++ [v]) (τd++ [d])):Vw K H T1 v d:=by
 have tl:=h.tl;have l:=h.len;obtain⟨_,mu,Fs,dj,sub,sl⟩:=h.ok;obtain⟨v',ev,sv⟩:=sl (Z.length + τd.length) (.own d) (by simp);have:v'=v:=by
  have e2:(σ++hv++(τv++ [v]).map some)[Z.length + τd.length]?=some (some v):=by
   rw[bI (by simp;lia)];simp at tl |-;rw[show Z.length + τd.length - (σ.length + hv.length)=τv.length by lia];simp
  rw[e2]at ev;cases ev;rfl
 subst this;exact bh.vw sv
end
end VL
namespace VL
open PySem L2
class jS(i n:Nat):Prop where
 h:i < n
instance:jS 0 (n + 1):=⟨JH n⟩
instance [h:jS i n]:jS (i + 1) (n + 1):=⟨Sj h.h⟩
section
instance (priority:=100) aeU{t:TE}{f:En->Option D}[S:SF K n t f]:SV K n t f:=⟨λI h k=>S.s I h λv H' s o=>k v H' s o.vw⟩
instance (priority:=200) Wq{t:TE}{f:En->Option D}[S:SF K n t f]:SM K n t (λZ=>(f Z).map λd=>(d,Z)):=⟨λ{σ hv H U Z ρ' τv τd d Q} I h k=>by
 obtain⟨d',h1,h2⟩:=aV.mp h;cases h2;refine S.s I h1 λv H' s o=> ?_;obtain⟨U',I',st⟩:=I.push s o;exact k v H' U' I' st⟩
def lX(f:En->Option D)(Z:En):Option (D×En):=(f Z).bind λd=>if plain d=true then some (d,Z) else none
instance (priority:=90) aeV{t:TE}{f:En->Option D}[S:SV K n t f]:SM K n t (lX f):=⟨λ{σ hv H U Z ρ' τv τd d Q} I h k=>by
 obtain⟨d',h1,h2⟩:=ae.mp h;by_cases p:plain d'=true
 ·rw[if_pos p]at h2;cases h2;refine S.s I h1 λv H' s w=> ?_;obtain⟨U',I',st⟩:=I.push s (eI.plain w p);exact k v H' U' I' st
 ·rw[if_neg p]at h2;cases h2⟩
instance (priority:=100) aeW{t:TT}{f:En->Option Bool}[S:lW K n t f]:ST K n t (λZ=>(f Z).map λb=>(b,Z)):=⟨λ{σ hv H U Z ρ' τv τd b Q} I h k=>by
 obtain⟨b',h1,h2⟩:=aV.mp h;cases h2;refine S.s I h1 λH' s=>k H' U (I.same s) λb o q nu=>⟨s b o q,nu⟩⟩
def bD(Z:En):Option B->Option D
 |some (.own d)=>some d
 |some (.ro d)=>some d
 |some (.ar r p)=>(ak Z r).bind (ag · p)
 |none=>none
def ab(i:Nat)(Z:En):Option D:=(Z[i]?).bind (bD Z)
theorem aw.slot{i:Nat}{β:B}(I:aw K n H U σ hv Z τv τd)(h:Z[i]?=some (some β)):∃v F,(σ++hv)[i]?=some (some v)/\(∀b,F b->U b)/\m7 K H U F Z.length (σ++hv) v β:=by
 have l:=I.len;have hi:i < Z.length:=(bB.mp h).1;obtain⟨_,mu,Fs,dj,sub,sl⟩:=I.ok;obtain⟨v,ev,sv⟩:=sl i β (by rw[ba hi];exact h);rw[ba (by simp;lia)]at ev;exact⟨v,Fs i,ev,sub i,m7.slots sv λr hr=>(ba (by simp;lia)).symm⟩
theorem aw.name(I:aw K n H U σ hv Z τv τd)(hi:i < n):(σ++hv)[i]?=σ[i]?:=ba (by rw[I.nn];exact hi)
theorem aw.xP{r:Nat}(I:aw K n H U σ hv Z τv τd)(h:ak Z r=some d):∃v F,(σ++hv)[r]?=some (some v)/\(∀b,F b->U b)/\bh K H F v d:=by
 obtain⟨v,F,a,b,c⟩:=I.slot (lV h);exact⟨v,F,a,b,c⟩
def dw(Z:En):Pl->Option D
 |.rt r p=>(ak Z r).bind (ag · p)
 |.ro d=>some d
theorem aw.at(I:aw K n H U σ hv Z τv τd)(h:hJ K H U (σ++hv) Z v q)(hd:dw Z q=some d):Vw K H T1 v d:=by
 cases q with
 |ro d'=>cases hd;exact h.any
 |rt r p=>
  obtain⟨_,vr,d0,er,hr,_,hp⟩:=h;have hd:(ak Z r).bind (ag · p)=some d:=hd;rw[hr]at hd;obtain⟨v',F,ev,_,rp⟩:=I.xP hr;rw[er]at ev;cases ev;exact rp.sub hd hp λ_ _=>trivial
instance Mp{i:Nat}[L:jS i n]:SV K n (gZ i) (ab i):=⟨λ{σ hv H U Z τv τd d Q} I h k=>by
 obtain⟨o,h1,h2⟩:=ae.mp h;cases o with
 |none=>cases h2
 |some β=>
  obtain⟨v,F,ev,sub,sv⟩:=I.slot h1;rw[I.name L.h]at ev;refine⟨v,ev,k v H (aM.refl H) ?_⟩;cases β with
  |own d'=>cases h2;exact bh.vw sv
  |ro d'=>cases h2;exact Vw.any sv
  |ar r p=>
   obtain⟨d0,hr,g⟩:=ae.mp h2;obtain⟨_,vr,er,hp⟩:=sv;obtain⟨v',F',mH,_,rp⟩:=I.xP hr;rw[er]at mH;cases mH;exact rp.sub g hp λ_ _=>trivial⟩
def az(i:Nat)(Z:En):Option Pl:=match Z[i]? with
 |some (some (.own _))=>some (.rt i [])
 |some (some (.ro d))=>some (.ro d)
 |some (some (.ar r p))=>if((ak Z r).bind (ag · p)).isSome=true then some (.rt r p) else none
 |_=>none
instance Ws{i:Nat}[L:jS i n]:SP K n (gZ i) (az i):=⟨λ{σ hv H U Z τv τd q Q} I h k=>by
 unfold az at h
 split at h
 ·next d e1=>
  cases h;obtain⟨v,F,ev,sub,sv⟩:=I.slot e1;have mH:=ev;rw[I.name L.h]at ev;have hr:ak Z i=some d:=by unfold ak;rw[e1]
  exact⟨v,ev,k v H (aM.refl H) ⟨(bB.mp e1).1,v,d,mH,hr,rfl, .nil v⟩⟩
 ·next d e1=>
  cases h;obtain⟨v,F,ev,sub,sv⟩:=I.slot e1;rw[I.name L.h]at ev;exact⟨v,ev,k v H (aM.refl H) sv⟩
 ·next r p e1=>
  by_cases c:((ak Z r).bind (ag · p)).isSome=true
  ·rw[if_pos c]at h;cases h;obtain⟨v,F,ev,sub,sv⟩:=I.slot e1;rw[I.name L.h]at ev;obtain⟨hr,vr,er,hp⟩:=sv;cases hd:ak Z r with
   |none=>rw[hd]at c;cases c
   |some d0=>
    rw[hd]at c;exact⟨v,ev,k v H (aM.refl H) ⟨hr,vr,d0,er,hd,c,hp⟩⟩
  ·rw[if_neg c]at h;cases h
 ·cases h⟩
instance aeX{v:V}:SF K n (tC v) (λ_=>some (.sc v)):=⟨λI h k=>by cases h;exact k v _ (aM.refl _) (.sc v)⟩
class m8(K:ah)(r:R2)(g:outParam (D->D->Option D)):Prop where
 s:∀{H:Hp} {x y:V} {dx dy d:D} {Q:VK},Vw K H T1 x dx->Vw K H T1 y dy->g dx dy=some d->(∀v H',aM H H'->eI K H H' v d->Q v H')->r x y H Q
def aq(g:D->D->Option D)(fa fb:En->Option D)(Z:En):Option D:=(fa Z).bind λa=>(fb Z).bind λb=>g a b
instance aeY[A:SV K n ta fa][B':SV K n tb fb][O:m8 K r g]:SF K n (kQ r ta tb) (aq g fa fb):=⟨λ{σ hv H U Z τv τd d Q} I h k=>by
 obtain⟨a,ha,h⟩:=ae.mp h;obtain⟨b,hb,h⟩:=ae.mp h;refine A.s I ha λx H1 s1 w1=> ?_;refine B'.s (I.same s1) hb λy H2 s2 w2=> ?_;exact O.s (w1.same s2) w2 h λv H3 s3 o=>k v H3 (s1.trans (s2.trans s3)) (o.early (s1.trans s2))⟩
def kh(g:D->D->Option D)(fa fb:En->Option (D×En))(Z:En):Option (D×En):=(fa Z).bind λa=>(fb a.2).bind λb=>(g a.1 b.1).map λd=>(d,b.2)
theorem aw.two(I:aw K n H U σ hv Z (τv++ [v1]++ [v2]) (τd++ [d1]++ [d2])):Vw K H T1 v1 d1/\Vw K H T1 v2 d2:=⟨I.tu.last,I.last⟩
instance (priority:=80) Wt{r:R2}{ta tb:TE}{fa fb:En->Option (D×En)}{g:D->D->Option D}[A:SM K n ta fa][B':SM K n tb fb][O:m8 K r g]:SM K n (kQ r ta tb) (kh g fa fb):=⟨λ{σ hv H U Z ρ' τv τd d Q} I h k=>by
 obtain⟨⟨a,ρ1⟩,ha,h⟩:=ae.mp h;obtain⟨⟨b,aD⟩,hb,h⟩:=ae.mp h;obtain⟨d',hg,h⟩:=aV.mp h;cases h;refine A.s I ha λx H1 U1 I1 bC=> ?_;refine B'.s I1 hb λy H2 U2 I2 b5=> ?_;refine O.s I2.two.1 I2.two.2 hg λv H3 s3 o=> ?_;obtain⟨U3,I3,jC⟩:=(I2.tu.tu).push s3 o;exact k v H3 U3 I3 (bC.trans (b5.trans jC))⟩
class Mq(K:ah)(r:V->Hp->VK->Prop)(g:outParam (D->Option D)):Prop where
 s:∀{H:Hp} {x:V} {dx d:D} {Q:VK},Vw K H T1 x dx->g dx=some d->(∀v H',aM H H'->eI K H H' v d->Q v H')->r x H Q
instance aeZ[A:SV K n ta fa][O:Mq K r g]:SF K n (KA r ta) (λZ=>(fa Z).bind g):=⟨λ{σ hv H U Z τv τd d Q} I h k=>by
 obtain⟨a,ha,h⟩:=ae.mp h;refine A.s I ha λx H1 s1 w1=> ?_;exact O.s w1 h λv H3 s3 o=>k v H3 (s1.trans s3) (o.early s1)⟩
instance ae0:SA K n g7 (λ_=>some []):=⟨λI h k=>by cases h;exact k [] _ (aM.refl _) ⟨rfl,λi v d hv=>by simp at hv⟩⟩
def au(fa:En->Option D)(fr:En->Option (List D))(Z:En):Option (List D):=(fa Z).bind λa=>(fr Z).map (a:: ·)
theorem dN.cons(h:Vw K H N v d)(t:dN K H N vs ds):dN K H N (v::vs) (d::ds):=⟨by rw[fN,fN,t.1],λi x y hx hy=>by
 cases i with
 |zero=>cases hx;cases hy;exact h
 |succ i=>exact t.2 i x y (by simpa using hx) (by simpa using hy)⟩
instance ae1[A:SV K n ta fa][R:SA K n tr fr]:SA K n (eJ ta tr) (au fa fr):=⟨λ{σ hv H U Z τv τd ds Q} I h k=>by
 obtain⟨a,ha,h⟩:=ae.mp h;obtain⟨r,hr,h⟩:=aV.mp h;cases h;refine A.s I ha λx H1 s1 w1=> ?_;exact R.s (I.same s1) hr λxs H2 s2 w2=>k (x::xs) H2 (s1.trans s2) (.cons (w1.same s2) w2)⟩
instance ae2:tq K n g7 (λZ=>some ([],Z)):=⟨λ{σ hv H U Z ρ' τv τd ds Q} I h k=>by cases h;exact k [] H U rfl (by rw[eW,eW];exact I) (b8.refl U H)⟩
def m9(fa:En->Option (D×En))(fr:En->Option (List D×En))(Z:En):Option (List D×En):=(fa Z).bind λa=>(fr a.2).map λr=>(a.1::r.1,r.2)
instance ae3[A:SM K n ta fa][R:tq K n tr fr]:tq K n (eJ ta tr) (m9 fa fr):=⟨λ{σ hv H U Z ρ' τv τd ds Q} I h k=>by
 obtain⟨⟨a,ρ1⟩,ha,h⟩:=ae.mp h;obtain⟨⟨r,aD⟩,hr,h⟩:=aV.mp h;cases h;refine A.s I ha λx H1 U1 I1 bC=> ?_;refine R.s I1 hr λxs H2 U2 hl I2 b5=> ?_;refine k (x::xs) H2 U2 (by rw[fN,fN,hl]) ?_ (bC.trans b5);rw[oU,oU τd];exact I2⟩
theorem nY{α β:Type}{vs:List α}{ds:List β}{i:Nat}{d:β}(h:vs.length=ds.length)(hd:ds[i]?=some d):∃v,vs[i]?=some v:=⟨_,gM (by rw[h];exact(bB.mp hd).1)⟩
theorem aw.gather{k:Kd}{o:HO}(I:aw K n H U σ hv Z (τv++vs) (τd++ds))(hl:vs.length=ds.length)(hp:H p=none)
  (hold:(cT k=true/\k= .tup/\o= .tup vs)\/(cT k=false/\fits K k vs.length/\∃dx,o=ho k dx vs)):
  ∃U',aw K n (aP H p o) U' σ hv Z (τv++ [.ref p]) (τd++ [.nd k ds])/\b8 U H U' (aP H p o):=by
 have l:=I.len;have s:aM H (aP H p o):=λb u q=>by rw[de (kO q hp)];exact q
 have tl:=I.tl;obtain⟨he,mu,Fs,dj,sub,sl⟩:=I.ok.same s;have np:∀i,¬ Fs i p:=λi z=>by
  obtain⟨u,w⟩:=qk (I.ok.mu p (sub i p z));rw[hp]at w;cases w
 have base:(σ++hv++τv.map some).length=Z.length + τd.length:=by simp at tl |-;lia
 have Wu:cT k=false->jk (aP H p o p):=λhk=>by
  rcases hold with⟨z,_⟩ | ⟨_,z,dx,w⟩
  ·rw[hk]at z;cases z
  ·rw[gX,w];have:qi K (aP H p o) p k vs:=⟨hk,z,dx,by rw[gX,w]⟩
   have:=this.mu;rw[gX,w]at this;exact this
 refine⟨λb=>U b\/(cT k=false/\b=p),⟨⟨by simp at tl |-;lia,λb z=> ?_,λi b=>if i=Z.length + τd.length then(∃j,Z.length + τd.length<=j/\Fs j b)\/(cT k=false/\b=p) else Fs i b/\i < Z.length + τd.length,λi j b hi hj=> ?_,λi b hb=> ?_,λi β aL=> ?_⟩,l,I.nn⟩,λb u q nu=>⟨s b u q,λz=>z.elim nu λ⟨_,z⟩=>by rw[z,hp]at q;cases q⟩⟩
 ·rcases z with z | ⟨z,w⟩
  ·exact mu b z
  ·rw[w];exact Wu z
 ·have hi:if i=Z.length + τd.length then(∃j,Z.length + τd.length<=j/\Fs j b)\/(cT k=false/\b=p) else Fs i b/\i < Z.length + τd.length:=hi;have hj:if j=Z.length + τd.length then(∃j,Z.length + τd.length<=j/\Fs j b)\/(cT k=false/\b=p) else Fs j b/\j < Z.length + τd.length:=hj;by_cases ci:i=Z.length + τd.length
  ·rw[if_pos ci]at hi;by_cases cj:j=Z.length + τd.length
   ·lia
   ·rw[if_neg cj]at hj;rcases hi with⟨x,hx,hi⟩ | ⟨_,hi⟩
    ·have:=dj _ _ b hi hj.1;lia
    ·rw[hi]at hj;exact absurd hj.1 (np j)
  ·rw[if_neg ci]at hi;by_cases cj:j=Z.length + τd.length
   ·rw[if_pos cj]at hj;rcases hj with⟨x,hx,hj⟩ | ⟨_,hj⟩
    ·have:=dj _ _ b hi.1 hj;lia
    ·rw[hj]at hi;exact absurd hi.1 (np i)
   ·rw[if_neg cj]at hj;exact dj _ _ b hi.1 hj.1
 ·have hb:if i=Z.length + τd.length then(∃j,Z.length + τd.length<=j/\Fs j b)\/(cT k=false/\b=p) else Fs i b/\i < Z.length + τd.length:=hb;by_cases ci:i=Z.length + τd.length
  ·rw[if_pos ci]at hb;rcases hb with⟨x,_,hb⟩ | hb
   ·exact .inl (sub x b hb)
   ·exact .inr hb
  ·rw[if_neg ci]at hb;exact .inl (sub i b hb.1)
 ·have tf:((Z++τd.map λd=>some (B.own d))++ [some (.own (.nd k ds))])[i]?=some (some β):=by
   rw[cM, <- dt]at aL;exact aL
  have EF:(σ++hv++τv.map some).length=(Z++τd.map λd=>some (B.own d)).length:=by rw[base];simp
  have Mr:∀{i:Nat} (hi:i < (σ++hv++τv.map some).length) {x:V},(σ++hv++(τv++ [x]).map some)[i]?=(σ++hv++τv.map some)[i]?:=λ{i} hi {x}=>by
   rw[cM, <- dt,ba hi]
  have EG:∀{i:Nat} (hi:i < (σ++hv++τv.map some).length),(σ++hv++(τv++vs).map some)[i]?=(σ++hv++τv.map some)[i]?:=λ{i} hi=>by
   rw[cM, <- dt,ba hi]
  rcases slot_of EF tf with⟨hi,q⟩ | ⟨hi,q⟩
  ·obtain⟨v',ev,sv⟩:=sl i β (by rw[cM, <- dt,ba (by rw[<- EF];exact hi)];exact q);rw[EG hi]at ev;refine⟨v',by rw[Mr hi];exact ev, ?_⟩;have ni:¬ i=Z.length + τd.length:=by lia
   have sv:=m7.slots sv (e':=σ++hv++(τv++ [V.ref p]).map some) λr hr=>by rw[Mr (by lia),EG (by lia)]
   cases β with
   |own dd=>
    show bh K (aP H p o) (λb=>if i=Z.length + τd.length then _ else Fs i b/\i < Z.length + τd.length) v' dd;simp only[if_neg ni];exact bh.mono sv λb z=>⟨z,by lia⟩
   |ro dd=>
    obtain⟨v2,cX,ql⟩:=I.ok.ex.choose_spec.2.2 i _ (by rw[cM, <- dt,ba (by rw[<- EF];exact hi)];exact q);rw[EG hi,ev]at cX;cases cX;have ql:Vw K H (λb=>¬ U b) v' dd:=ql;exact ql.over (λb o nb q=>⟨s b o q,λz=>z.elim nb λ⟨_,z⟩=>by rw[z,hp]at q;cases q⟩) (gO.of s)
   |ar _ _=>exact sv
  ·have e0:i - (σ++hv++τv.map some).length=0:=by
    have:=(bB.mp q).1;simp at this |-;lia
   rw[e0]at q;cases q;have ei:i=Z.length + τd.length:=by lia
   subst ei;refine⟨.ref p,by rw[cM, <- dt,bI (by lia),base,mB];rfl, ?_⟩;have d4:∀(j:Nat) (v:V) (d:D),vs[j]?=some v->ds[j]?=some d->bh K (aP H p o) (Fs (Z.length + τd.length + j)) v d:=λj v d hv hd=>by
    obtain⟨v',ev,sv⟩:=sl (Z.length + τd.length + j) (.own d) (by
     rw[cM, <- dt,bI (by simp),dF];simp[hd])
    have:v'=v:=by
     rw[cM, <- dt,bI (by lia),base]at ev;simp[hv]at ev;exact ev.symm
    subst this;exact sv
   show bh K (aP H p o) (λb=>if Z.length + τd.length=Z.length + τd.length then(∃j,Z.length + τd.length<=j/\Fs j b)\/(cT k=false/\b=p) else _) (.ref p) (.nd k ds);simp only[if_pos rfl];refine .nd (λj=>Fs (Z.length + τd.length + j)) ?_ hl (λi j b hi hj=>by have:=dj _ _ b hi hj;lia) (λj b hb=>⟨.inl ⟨_,by lia,hb⟩,λ_ z=>by rw[z]at hb;exact np _ hb⟩) d4;rcases hold with⟨_,h1,h2⟩ | ⟨h1,h2,dx,h3⟩
   ·subst h1;show aP H p o p=some (.tup vs);rw[gX,h2]
   ·exact jR.put h1 (.inr ⟨h1,rfl⟩) ⟨h1,h2,dx,by rw[gX,h3]⟩
def tw(f:En->Option (List D×En))(Z:En):Option (D×En):=(f Z).bind λr=>if r.1.length<=aK then some (.nd .tup r.1,r.2) else none
def iJ(f:En->Option (List D×En))(Z:En):Option (D×En):=(f Z).bind λr=>if r.1.length<=aK then some (.nd .lst r.1,r.2) else none
instance (priority:=300) ae4{ta:TA}{fa:En->Option (List D×En)}[A:tq K n ta fa]:SM K n (q0 ta) (tw fa):=⟨λ{σ hv H U Z ρ' τv τd d Q} I h k=>by
 obtain⟨⟨a,ρ1⟩,ha,h⟩:=ae.mp h;by_cases c:a.length<=aK
 ·rw[if_pos c]at h;cases h;refine A.s I ha λxs H1 U1 hl I1 bC=>⟨by rw[hl];exact c,λp hp=> ?_⟩
  obtain⟨U2,I2,b5⟩:=I1.gather (k:= .tup) (o:= .tup xs) hl hp (.inl ⟨rfl,rfl,rfl⟩);exact k _ _ U2 I2 (bC.trans b5)
 ·rw[if_neg c]at h;cases h⟩
instance (priority:=300) ae5{ta:TA}{fa:En->Option (List D×En)}[A:tq K n ta fa]:SM K n (uX ta) (iJ fa):=⟨λ{σ hv H U Z ρ' τv τd d Q} I h k=>by
 obtain⟨⟨a,ρ1⟩,ha,h⟩:=ae.mp h;by_cases c:a.length<=aK
 ·rw[if_pos c]at h;cases h;refine A.s I ha λxs H1 U1 hl I1 bC=>⟨by rw[hl];exact c,λp hp=> ?_⟩
  obtain⟨U2,I2,b5⟩:=I1.gather (k:= .lst) (o:= .lst xs) hl hp (.inr ⟨rfl,trivial,0,rfl⟩);exact k _ _ U2 I2 (bC.trans b5)
 ·rw[if_neg c]at h;cases h⟩
end
end VL
namespace VL
open PySem L2
section
variable {Z ρ' aD:En}{v:V}{d:D}
def bu(ds:List D):En:=ds.map λd=>some (.own d)
theorem Wv(ds:List D):Ml (bu ds):=λb hb=>by
 obtain⟨d,_,rfl⟩:=iy.mp hb;exact .inr ⟨d,rfl⟩
theorem ve(ds:List D):xM (bu ds):=λb hb r p=>by
 obtain⟨d,_,rfl⟩:=iy.mp hb;exact λz=>nomatch z
theorem cW.weaken(h:cW K H U m e aD)(hl:Z.length=aD.length)(w:∀(i:Nat) (β:B),Z[i]?=some (some β)->aD[i]?=some (some β)):cW K H U m e Z:=by
 obtain⟨a,mu,Fs,dj,sub,sl⟩:=h;exact⟨a.trans hl.symm,mu,Fs,dj,sub,λi β aL=>sl i β (w i β aL)⟩
theorem xQ(h:jk (H a)):gO H (aP H a o):=λb u nm q=>by
 have:b≠a:=λz=>by subst z;rw[q]at h;exact nm h
 rw[de this];exact q
theorem Ms{a:Addr}(hk:cT k=false):jk (some (ho k dx vs)):=by
 cases k with
 |tup=>cases hk
 |eL=>cases hk
 |lst=>trivial
 |aB ks=>trivial
 |iK ks=>trivial
 |obj C ns=>trivial
theorem cW.edit(h:cW K H U 0 (xs.map some++ [some v]) (bu ds++ [some (.own (.nd k cs))]))(hl:xs.length=ds.length)(hk:cT k=false):
  ∃(a dx:Addr) (vs:List V),v= .ref a/\H a=some (ho k dx vs)/\fits K k vs.length/\vs.length=cs.length/\dN K H T1 vs cs/\∀(k':Kd) (dz:List V) (gB:List D) (π:Nat->Nat),cT k'=false->fits K k' dz.length->dz.length=gB.length->
   (∀i j,i < dz.length->j < dz.length->π i=π j->i=j)->(∀(i:Nat) (x:V),dz[i]?=some x->(vs++xs)[π i]?=some x)->(∀(i:Nat) (y:D),gB[i]?=some y->(cs++ds)[π i]?=some y)->
   cW K (aP H a (ho k' dx dz)) U 0 [some v] [some (.own (.nd k' gB))]/\b8 U H U (aP H a (ho k' dx dz)):=by
 obtain⟨cG,mu,Fs,dj,sub,sl⟩:=h;have lo:(bu ds).length=xs.length:=by unfold bu;rw[dC,hl]
 obtain⟨v',ev,sv⟩:=sl xs.length (.own (.nd k cs)) (by rw[bI (by lia),lo,mB];rfl);rw[bI (by simp)]at ev;have:v'=v:=by simp at ev;exact ev.symm
 subst this;have sv:bh K H (Fs xs.length) v' (.nd k cs):=sv;obtain⟨a,vs,rfl,h1,h2,Gs,g3,g4,g5⟩:=sv.node;obtain⟨Fa,_,hf,dx,ha⟩:=h1.own hk;have Wx:∀i,¬ Gs i a:=λi z=>(g4 i a z).2 hk rfl;refine⟨a,dx,vs,rfl,ha,hf,h2,⟨h2,λi v d hv hd=>(g5 i v d hv hd).vw⟩,λk' dz gB π xR EH hU inj i6 p8=> ?_⟩;have Wy:jk (H a):=mu a (sub _ a Fa);have st:gO H (aP H a (ho k' dx dz)):=xQ Wy;have keep:∀b u,b≠a->H b=some u->aP H a (ho k' dx dz) b=some u:=λb u ne q=>by rw[de ne];exact q
 -- lP ae6 of what comes from place j
 let Fp:Nat->Addr->Prop:=λj=>if j < cs.length then Gs j else λb=>Fs (j - cs.length) b/\j - cs.length < xs.length
 have Mt:∀j,j < cs.length->Fp j=Gs j:=λj hj=>if_pos hj;have Mu:∀j,¬ j < cs.length->Fp j=λb=>Fs (j - cs.length) b/\j - cs.length < xs.length:=λj hj=>if_neg hj;have AX:∀j b,Fp j b->(j < cs.length/\Gs j b)\/(¬ j < cs.length/\Fs (j - cs.length) b/\j - cs.length < xs.length):=λj b hb=>by
  by_cases c:j < cs.length
  ·rw[Mt j c]at hb;exact .inl ⟨c,hb⟩
  ·rw[Mu j c]at hb;exact .inr ⟨c,hb.1,hb.2⟩
 have Wz:∀j b,Fp j b->U b:=λj b hb=>by
  rcases AX j b hb with⟨_,z⟩ | ⟨_,z,_⟩
  ·exact sub _ b (g4 j b z).1
  ·exact sub _ b z
 have Mv:∀j,¬ Fp j a:=λj z=>by
  rcases AX j a z with⟨_,z⟩ | ⟨_,z,w⟩
  ·exact Wx j z
  ·have:=dj _ _ a z Fa;lia
 have WA:∀i j b,Fp i b->Fp j b->i=j:=λi j b hi hj=>by
  rcases AX i b hi with⟨c1,z1⟩ | ⟨c1,z1,w1⟩ <;> rcases AX j b hj with⟨c2,z2⟩ | ⟨c2,z2,w2⟩
  ·exact g3 i j b z1 z2
  ·have:=dj _ _ b (g4 i b z1).1 z2;lia
  ·have:=dj _ _ b (g4 j b z2).1 z1;lia
  ·have:=dj _ _ b z1 z2;lia
 have WB:∀(j:Nat) (x:V) (y:D),(vs++xs)[j]?=some x->(cs++ds)[j]?=some y->bh K H (Fp j) x y:=λj x y hx hy=>by
  by_cases c:j < cs.length
  ·rw[Mt j c];rw[ba (by lia)]at hx;rw[ba c]at hy;exact g5 j x y hx hy
  ·rw[Mu j c];rw[bI (by lia)]at hx;rw[bI (by lia)]at hy;rw[h2]at hx;have EI:j - cs.length < xs.length:=(bB.mp hx).1;obtain⟨x',ex,sx⟩:=sl (j - cs.length) (.own y) (by rw[ba (by rw[lo];exact EI)];unfold bu;rw[dF,hy];rfl);have:x'=x:=by
    rw[ba (by simp;exact EI),dF,hx]at ex;cases ex;rfl
   subst this;exact bh.mono sx λb z=>⟨z,EI⟩
 refine⟨⟨rfl,λb ub=> ?_,λi b=>i=0/\(b=a\/∃j,j < dz.length/\Fp (π j) b),λi j b hi hj=>by rw[hi.1,hj.1],λi b hb=> ?_,λi β aL=> ?_⟩,λb u q nu=> ?_⟩
 ·by_cases c:b=a
  ·subst c;rw[gX];exact Ms (a:=b) xR
  ·rw[de c];exact mu b ub
 ·rcases hb.2 with z | ⟨j,_,z⟩
  ·subst z;exact sub _ b Fa
  ·exact Wz _ b z
 ·cases i with
  |succ i=>simp at aL
  |zero=>
   cases aL;refine⟨.ref a,rfl, ?_⟩;refine .nd (λi b=>i < dz.length/\Fp (π i) b) (jR.put xR ⟨rfl, .inl rfl⟩ ⟨xR,EH,dx,gX⟩) hU (λi j b hi hj=>inj i j hi.1 hj.1 (WA _ _ b hi.2 hj.2)) (λi b hb=>⟨⟨rfl, .inr ⟨i,hb.1,hb.2⟩⟩,λ_ z=>by subst z;exact Mv _ hb.2⟩) λi x y hx hy=> ?_;have hi:i < dz.length:=(bB.mp hx).1;have r:=WB (π i) x y (i6 i x hx) (p8 i y hy);refine(r.frame (H':=aP H a (ho k' dx dz)) (λb u hb q=>keep b u (λz=>by subst z;exact Mv _ hb) q) st).mono λb z=>⟨hi,z⟩
 ·have:b≠a:=λz=>by subst z;exact nu (sub _ b Fa)
  exact⟨keep b u this q,nu⟩
theorem EJ:∀{p q:List Nat} {d d1 x y:D},ag d p=some d1->plain x=false->plain y=false->(∀n r,ag x (n::r)=none)->(∀n r,ag y (n::r)=none)->(ag (aG d p x) q).isSome=(ag (aG d p y) q).isSome
 | [], [],d,d1,x,y,g,hx,hy,zx,zy=>by rw[aG,aG,ag,ag];rfl
 | [],n::r,d,d1,x,y,g,hx,hy,zx,zy=>by rw[aG,aG,zx,zy]
 |n::p,q, .sc _,d1,x,y,g,hx,hy,zx,zy=>by rw[ag]at g;cases g
 |n::p,q, .hl _,d1,x,y,g,hx,hy,zx,zy=>by rw[ag]at g;cases g
 |n::p,q, .nd k cs,d1,x,y,g,hx,hy,zx,zy=>by
  rw[ag]at g;by_cases df:cT k=true/\bf cs=true
  ·rw[if_pos df]at g;cases g
  rw[if_neg df]at g;cases hc:cs[n]? with
  |none=>rw[hc]at g;cases g
  |some c=>
   rw[hc]at g;have hn:=(bB.mp hc).1;have e1:aG (.nd k cs) (n::p) x= .nd k (cs.set n (aG c p x)):=by rw[aG,hc]
   have e2:aG (.nd k cs) (n::p) y= .nd k (cs.set n (aG c p y)):=by rw[aG,hc]
   rw[e1,e2];cases q with
   |nil=>rw[ag,ag];rfl
   |cons i q=>
    have px:=vc hn (vd g hx);have py:=vc hn (vd g hy);rw[ag,ag,if_neg (by rintro⟨_,z⟩;rw[px]at z;cases z),if_neg (by rintro⟨_,z⟩;rw[py]at z;cases z)];by_cases ci:n=i
    ·subst ci;rw[dr hn,dr hn];exact EJ g hx hy zx zy
    ·rw[fq ci,fq ci]
def eM(Z:En)(r:Nat)(d0:D)(p:List Nat)(d':D):En:=(bx (Z.set r (some (.own (aG d0 p (.hl .aJ)))))).set r (some (.own (aG d0 p d')))
theorem tE(Z:En)(r:Nat)(d0:D)(p:List Nat)(d':D):(eM Z r d0 p d').length=Z.length:=by unfold eM;rw[bZ,i9,bZ]
theorem qm(h:r≠s):ak (Z.set r b) s=ak Z s:=by
 unfold ak;rw[fq h]
theorem AY(h:r < Z.length):ak (Z.set r (some (.own d))) r=some d:=by
 unfold ak;rw[dr h]
theorem Mw{i:Nat}{d:D}(h:Z[i]?=some (some (.own d))):(bx Z)[i]?=some (some (.own d)):=by
 unfold bx;rw[dF,h];rfl
theorem Mx{d:D}(h:ak Z r=some d):ak (Z++τ) r=some d:=by
 have q:=lV h;have hr:r < Z.length:=(bB.mp q).1;unfold ak;rw[ba hr,q]
theorem My(u9:xM τ):∀(i:Nat) (β:B),(bx Z++τ)[i]?=some (some β)->(bx (Z++τ))[i]?=some (some β):=λi β h=>by
 unfold bx at h |-;rw[cM];by_cases hi:i < Z.length
 ·rw[ba (by rw[dC];exact hi)]at h;rw[ba (by rw[dC];exact hi)];rw[dF]at h |-;cases q:Z[i]? with
  |none=>rw[q]at h;cases h
  |some o=>
   rw[q]at h;have h:eg Z o=some β:=ka h;show some (eg (Z++τ) o)=_;cases o with
   |none=>exact congrArg some h
   |some c=>
    cases c with
    |own d=>exact congrArg some h
    |ro d=>exact congrArg some h
    |ar r p=>
     have h:(if p= []\/((ak Z r).bind (ag · p)).isSome=true then some (B.ar r p) else none)=some β:=h;show some (if p= []\/((ak (Z++τ) r).bind (ag · p)).isSome=true then some (B.ar r p) else none)=_;by_cases c:p= []\/((ak Z r).bind (ag · p)).isSome=true
     ·rw[if_pos c]at h;have c':p= []\/((ak (Z++τ) r).bind (ag · p)).isSome=true:=by
       rcases c with c | c
       ·exact .inl c
       ·cases hd:ak Z r with
        |none=>rw[hd]at c;cases c
        |some d=>rw[Mx hd];rw[hd]at c;exact .inr c
      rw[if_pos c',h]
     ·rw[if_neg c]at h;cases h
 ·rw[bI (by rw[dC];lia)]at h |-;rw[dC]at h |-;rw[dF,h];cases β with
  |own d=>rfl
  |ro d=>rfl
  |ar r p=>exact absurd rfl (u9 _ (gk h) r p)
theorem WC{v:V}(hr:r < Z.length)(g:ag d0 p=some d1):∀(i:Nat) (β:B),i≠r->(bx (Z.set r (some (.own (aG d0 p (.hl .aJ))))))[i]?=some (some β)->(bx (Z.set r (some (.own (aG d0 p (.hl v))))))[i]?=some (some β):=λi β ni h=>by
 unfold bx at h |-;rw[dF,fq (jO ni)]at h |-;cases q:Z[i]? with
 |none=>rw[q]at h;cases h
 |some o=>
  rw[q]at h;have h:=ka h;show some (eg _ o)=_;cases o with
  |none=>exact congrArg some h
  |some c=>
   cases c with
   |own d=>exact congrArg some h
   |ro d=>exact congrArg some h
   |ar s p'=>
    have h:(if p'= []\/((ak (Z.set r (some (.own (aG d0 p (.hl .aJ))))) s).bind (ag · p')).isSome=true then some (B.ar s p') else none)=some β:=h;show some (if p'= []\/((ak (Z.set r (some (.own (aG d0 p (.hl v))))) s).bind (ag · p')).isSome=true then some (B.ar s p') else none)=_;by_cases cs:r=s
    ·subst cs;rw[AY hr]at h |-;have e:((some (aG d0 p (.hl v))).bind (ag · p')).isSome=((some (aG d0 p (.hl .aJ))).bind (ag · p')).isSome:=EJ g rfl rfl (λ_ _=>by rw[ag]) λ_ _=>by rw[ag]
     rw[e,h]
    ·rw[qm cs]at h |-;rw[h]
theorem aw.edit{r:Nat}{p:List Nat}{d0:D}{k:Kd}{cs:List D}(I:aw K n H U σ hv Z (τv++xs) (τd++ds))(hl:xs.length=ds.length)(hp:hJ K H U (σ++hv) Z v (.rt r p))(hr:ak Z r=some d0)(hg:ag d0 p=some (.nd k cs))(hk:cT k=false):
  ∃(a dx:Addr) (vs:List V),v= .ref a/\H a=some (ho k dx vs)/\fits K k vs.length/\vs.length=cs.length/\dN K H T1 vs cs/\∀(k':Kd) (dz:List V) (gB:List D) (π:Nat->Nat),cT k'=false->fits K k' dz.length->dz.length=gB.length->
   (∀i j,i < dz.length->j < dz.length->π i=π j->i=j)->(∀(i:Nat) (x:V),dz[i]?=some x->(vs++xs)[π i]?=some x)->(∀(i:Nat) (y:D),gB[i]?=some y->(cs++ds)[π i]?=some y)->
   ∃U',aw K n (aP H a (ho k' dx dz)) U' σ hv (eM Z r d0 p (.nd k' gB)) τv τd/\b8 U H U' (aP H a (ho k' dx dz)):=by
 have l:=I.len;have tl:=I.tl;rw[bQ,bQ]at tl;obtain⟨jo,vr,WD,er,mI,_,WE⟩:=hp;rw[hr]at mI;cases mI;have vb:=lV hr
 -- all in one row
 have WG:cW K H U Z.length ((σ++hv++τv.map some)++xs.map some) ((Z++bu τd)++bu ds):=by
  have:=I.ok;rw[cM,cM, <- dt, <- dt]at this;exact this
 have lE:(σ++hv++τv.map some).length=(Z++bu τd).length:=by unfold bu;simp;lia
 have hm:Z.length<=(σ++hv++τv.map some).length:=by simp;lia
 have Mz:=WG.take (r:=r) (vr:=vr) (u:=v) (d:=d0) (p:=p) (by rw[bQ];lia) (by rw[ba (by rw[bQ];lia),ba jo];exact vb)
  (by rw[ba (by lia),ba (by simp;lia)];exact er) WE hg
 have es:((Z++bu τd)++bu ds).set r (some (.own (aG d0 p (.hl v))))++ [some (B.own (.nd k cs))]=(Z.set r (some (.own (aG d0 p (.hl v))))++bu τd)++(bu ds++ [some (.own (.nd k cs))]):=by
  rw[sf _ _ (by rw[bQ];lia),sf _ _ jo];simp
 rw[es,dt]at Mz;have nA:xM (bu ds++ [some (B.own (.nd k cs))]):=λb hb q p=>by
  rcases iG.mp hb with z | z
  ·exact ve ds b z q p
  ·rw[cE.mp z];exact λw=>nomatch w
 have MA:(σ++hv++τv.map some).length=(Z.set r (some (.own (aG d0 p (.hl v))))++bu τd).length:=by
  rw[lE,bQ,bQ,bZ]
 obtain⟨Ut,_,small,_,back⟩:=Mz.call MA hm nA;obtain⟨a,dx,vs,ev,ha,hf,WH,vw,ed⟩:=small.edit hl hk;refine⟨a,dx,vs,ev,ha,hf,WH,vw,λk' dz gB π xR EH hU inj i6 p8=> ?_⟩;obtain⟨WI,WJ⟩:=ed k' dz gB π xR EH hU inj i6 p8;obtain⟨U',EK,b5⟩:=back _ Ut [some v] [some (.own (.nd k' gB))] WI WJ λb hb=>by rw[cE.mp hb];exact .inr ⟨_,rfl⟩
 refine⟨U',⟨?_,by rw[tE];exact l,I.nn⟩,b5⟩;have WK:r < (Z.set r (some (.own (aG d0 p (.hl v))))).length:=by rw[bZ];exact jo
 have gh:ag (aG d0 p (.hl v)) p=some (.hl v):=EA hg rfl;have AZ:=EK.put (r:=r) (d0:=aG d0 p (.hl v)) (u:=v) (p:=p) (d1:= .nd k' gB) (by rw[i9];exact MA) hm (by
  refine Mw ?_;rw[ba WK,dr jo]) gh
 rw[EB hg]at AZ;rw[tE];refine AZ.weaken (by rw[bQ,tE,bZ,i9,bQ,bZ];unfold bu;rfl) λi β aL=> ?_;have aL:(eM Z r d0 p (.nd k' gB)++bu τd)[i]?=some (some β):=aL;by_cases ci:r=i
 ·subst ci;rw[ba (by rw[tE];exact jo)]at aL;unfold eM at aL;rw[dr (by rw[i9,bZ];exact jo)]at aL;rw[dr (by rw[i9,bQ,bZ];lia)];exact aL
 ·rw[fq ci];refine My (ve τd) i β ?_;by_cases hi:i < Z.length
  ·rw[ba (by rw[tE];exact hi)]at aL;rw[ba (by rw[i9,bZ];exact hi)];unfold eM at aL;rw[fq ci]at aL;exact WC jo hg i β (λz=>ci z.symm) aL
  ·rw[bI (by rw[tE];lia),tE]at aL;rw[bI (by rw[i9,bZ];lia),i9,bZ];exact aL
end
end VL
namespace VL
open PySem L2
section
theorem aw.bound(I:aw K n H U σ hv Z (τv++ [v]) (τd++ [d]))(hi:i < n)(u9:τv= []/\τd= []\/True):aw K n H U (σ.set i (some v)) hv ((gq i Z).set i (some (.own d))) τv τd:=by
 have l:=I.len;have nn:=I.nn;have tl:=I.tl;rw[bQ,bQ]at tl;have tl:τv.length=τd.length:=by simp at tl;lia
 refine⟨?_,by rw[bZ,bZ,kX];exact l,by rw[bZ];exact nn⟩;have ok:=I.ok;rw[cM,cM, <- dt, <- dt]at ok;have k:=ok.set (i:=i) (by simp;lia) (by simp;lia) (by simp;lia);have e1:(σ++hv++τv.map some).set i (some v)=σ.set i (some v)++hv++τv.map some:=by
  rw[sf _ _ (by simp;lia),sf _ _ (by lia)]
 rw[e1]at k;have lu:((gq i Z).set i (some (B.own d))).length=Z.length:=by rw[bZ,kX]
 rw[lu];refine k.weaken (by simp[kX]) λj β aL=> ?_;by_cases hj:j < Z.length
 ·rw[ba (by rw[lu];exact hj)]at aL;by_cases c:i=j
  ·subst c;rw[dr (by rw[kX];exact hj)]at aL;rw[dr (by rw[kX];simp;lia)];exact aL
  ·rw[fq c]at aL |-;unfold gq at aL |-;rw[cM,ba (by simpa using hj)];exact aL
 ·rw[bI (by rw[lu];lia),lu]at aL;rw[fq (by lia)];unfold gq;rw[cM,bI (by simp;lia),dC,dF];have:(τd.map λd=>some (B.own d))[j - Z.length]?=some (some β):=aL;rw[this];rw[dF]at this;cases q:τd[j - Z.length]? with
  |none=>rw[q]at this;cases this
  |some x=>rw[q]at this;cases this;rfl
theorem aw.named(I:aw K n H U σ hv Z τv τd)(hi:i < n)(hb:match β with | .own _=>False | .ro d=>Vw K H (λb=>¬ U b) v d | .ar r p=>r < Z.length/\r≠i/\∃vr,(σ++hv)[r]?=some (some vr)/\iL H vr p v):
  aw K n H U (σ.set i (some v)) hv ((gq i Z).set i (some β)) τv τd:=by
 have l:=I.len;have nn:=I.nn;have tl:=I.tl;refine⟨?_,by rw[bZ,bZ,kX];exact l,by rw[bZ];exact nn⟩;have k:=I.ok.bind (i:=i) (β:=β) (v:=v) (by simp;lia) (by
  cases β with
  |own d=>exact hb
  |ro d=>exact hb
  |ar r p=>
   obtain⟨h1,h2,vr,h3,h4⟩:=hb;exact⟨h1,h2,vr,by rw[ba (by simp;lia)];exact h3,h4⟩)
 have e1:(σ++hv++τv.map some).set i (some v)=σ.set i (some v)++hv++τv.map some:=by
  rw[sf _ _ (by simp;lia),sf _ _ (by lia)]
 rw[e1]at k;have lu:((gq i Z).set i (some β)).length=Z.length:=by rw[bZ,kX]
 rw[lu];refine k.weaken (by simp[kX]) λj γ eY=> ?_;by_cases hj:j < Z.length
 ·rw[ba (by rw[lu];exact hj)]at eY;by_cases c:i=j
  ·subst c;rw[dr (by rw[kX];exact hj)]at eY;rw[dr (by rw[kX];simp;lia)];exact eY
  ·rw[fq c]at eY |-;unfold gq at eY |-;rw[cM,ba (by simpa using hj)];exact eY
 ·rw[bI (by rw[lu];lia),lu]at eY;rw[fq (by lia)];unfold gq;rw[cM,bI (by simp;lia),dC,dF];have:(τd.map λd=>some (B.own d))[j - Z.length]?=some (some γ):=eY;rw[this];rw[dF]at this;cases q:τd[j - Z.length]? with
  |none=>rw[q]at this;cases this
  |some x=>rw[q]at this;cases this;rfl
theorem aw.moved(I:aw K n H U σ hv Z τv τd)(hi:i < n)(h:Z[i]?=some (some (.own d))):∃v,σ[i]?=some (some v)/\aw K n H U σ hv (Z.set i none) (τv++ [v]) (τd++ [d]):=by
 have l:=I.len;have nn:=I.nn;have tl:=I.tl;have EL:i < Z.length:=(bB.mp h).1;obtain⟨v,F,ev,_,_⟩:=I.slot h;rw[I.name hi]at ev;refine⟨v,ev, ?_,by rw[bZ];exact l,nn⟩;have xS:(Z++τd.map λd=>some (B.own d))[i]?=some (some (.own d)):=by rw[ba EL];exact h
 have WL:(σ++hv++τv.map some)[i]?=some (some v):=by rw[ba (by simp;lia),ba (by lia)];exact ev
 have k:=I.ok.take (r:=i) (p:= []) (by simp;lia) xS WL (.nil v) rfl;rw[bZ,cM,cM, <- dt, <- dt];refine k.weaken (by simp;lia) λj β aL=> ?_;rw[sf _ _ EL];by_cases hj:j < Z.length
 ·rw[dt,ba (by simpa using hj)]at aL |-;by_cases c:i=j
  ·subst c;rw[dr EL]at aL;cases aL
  ·rw[fq c]at aL |-;exact aL
 ·rw[dt,bI (by simp;lia)]at aL |-;rw[bZ]at aL |-;exact aL
def fD(i:Nat)(Z:En):Option (D×En):=(ab i Z).bind λd=>if plain d=true then some (d,Z) else match Z[i]? with
 |some (some (.own d'))=>some (d',Z.set i none)
 |_=>none
instance (priority:=400) WN{i:Nat}[L:jS i n]:SM K n (gZ i) (fD i):=⟨λ{σ hv H U Z ρ' τv τd d Q} I h k=>by
 obtain⟨d1,h1,h2⟩:=ae.mp h;by_cases p:plain d1=true
 ·rw[if_pos p]at h2;cases h2;refine(Mp (i:=i)).s I h1 λv H' s w=> ?_;obtain⟨U',I',st⟩:=I.push s (eI.plain w p);exact k v H' U' I' st
 ·rw[if_neg p]at h2
  split at h2
  ·next d' e1=>
   cases h2;obtain⟨v,ev,I'⟩:=I.moved L.h e1;exact⟨v,ev,k v H U I' (b8.refl U H)⟩
  ·cases h2⟩
instance ae7:SS K n uQ (λZ=>some (.nx Z)):=⟨λI h k=>by cases h;exact k _ _ _ I (b8.refl _ _)⟩
instance ae8:SS K n Ao (λ_=>none):=⟨λI h k=>by cases h⟩
def fE(u:En->Option Fl):Fl->Option Fl
 |.nx Z=>u Z
 |fl=>some fl
def dG(t u:En->Option Fl)(Z:En):Option Fl:=(t Z).bind (fE u)
theorem AW.step(h:AW K n H U hv τv τd E fl)(st:b8 U H U' H'):AW K n H' U' hv τv τd E fl:=by
 cases fl with
 |nx Z=>exact λσ H2 U2 I s=>h σ H2 U2 I (st.trans s)
 |rt d Z=>exact λv σ H2 U2 I s=>h v σ H2 U2 I (st.trans s)
 |bk Z=>exact λσ H2 U2 I s=>h σ H2 U2 I (st.trans s)
 |ct Z=>exact λσ H2 U2 I s=>h σ H2 U2 I (st.trans s)
instance ae9[A:SS K n t ft][B':SS K n u fu]:SS K n (uR t u) (dG ft fu):=⟨λ{σ hv H U Z τv τd fl E} I h k=>by
 obtain⟨f1,h1,h2⟩:=ae.mp h;refine A.s I h1 ?_;cases f1 with
 |nx ρ1=>exact λKr H1 U1 I1 bC=>B'.s I1 h2 (k.step bC)
 |rt d ρ1=>cases h2;exact k
 |bk ρ1=>cases h2;exact k
 |ct ρ1=>cases h2;exact k⟩
def dm(c:En->Option (Bool×En))(t u:En->Option Fl)(Z:En):Option Fl:=(c Z).bind λb=>if b.1=true then t b.2 else u b.2
instance afa[C:ST K n c fc][A:SS K n t ft][B':SS K n u fu]:SS K n (uS c t u) (dm fc ft fu):=⟨λ{σ hv H U Z τv τd fl E} I h k=>by
 obtain⟨⟨b,ρ1⟩,h1,h2⟩:=ae.mp h;refine C.s I h1 λH1 U1 I1 bC=> ?_;cases b with
 |true=>rw[if_pos rfl];exact A.s I1 h2 (k.step bC)
 |false=>rw[if_neg ji];exact B'.s I1 h2 (k.step bC)⟩
def dR(f:En->Option (D×En))(Z:En):Option Fl:=(f Z).map λr=> .rt r.1 r.2
instance WO[A:SM K n te fe]:SS K n (qS te) (dR fe):=⟨λ{σ hv H U Z τv τd fl E} I h k=>by
 obtain⟨⟨d,ρ1⟩,h1,h2⟩:=aV.mp h;cases h2;exact A.s I h1 λv H1 U1 I1 bC=>k v σ H1 U1 I1 bC⟩
instance afb:SS K n Kj (λZ=>some (.rt (.sc .aJ) Z)):=⟨λ{σ hv H U Z τv τd fl E} I h k=>by
 cases h;obtain⟨U',I',st⟩:=I.push (aM.refl H) (eI.sc (K:=K) .aJ);exact k .aJ σ H U' I' st⟩
def eB(f:En->Option (D×En))(Z:En):Option Fl:=(f Z).map λr=> .nx r.2
instance afc[A:SM K n te fe]:SS K n (Ki te) (eB fe):=⟨λ{σ hv H U Z τv τd fl E} I h k=>by
 obtain⟨⟨d,ρ1⟩,h1,h2⟩:=aV.mp h;cases h2;exact A.s I h1 λv H1 U1 I1 bC=>k σ H1 U1 I1.tu bC⟩
def bw(i:Nat)(β:B)(Z:En):En:=(gq i Z).set i (some β)
def gC(i:Nat)(f:En->Option (D×En))(Z:En):Option Fl:=(f Z).map λr=> .nx (bw i (.own r.1) r.2)
instance (priority:=100) afd{i:Nat}{te:TE}{fe:En->Option (D×En)}[L:jS i n][A:SM K n te fe]:SS K n (qU te (m4 i)) (gC i fe):=⟨λ{σ hv H U Z τv τd fl E} I h k=>by
 obtain⟨⟨d,ρ1⟩,h1,h2⟩:=aV.mp h;cases h2;exact A.s I h1 λv H1 U1 I1 bC=>k _ H1 U1 (I1.bound L.h (.inr trivial)) bC⟩
def tF(i:Nat)(f:En->Option Pl)(Z:En):Option Fl:=(f Z).bind λq=>(dw Z q).bind λd=>if plain d=true then some (.nx (bw i (.own d) Z)) else match q with
 |.ro d=>some (.nx (bw i (.ro d) Z))
 |.rt r p=>if r=i then none else some (.nx (bw i (.ar r p) Z))
instance (priority:=500) afe{i:Nat}{te:TE}{fe:En->Option Pl}[L:jS i n][A:SP K n te fe]:SS K n (qU te (m4 i)) (tF i fe):=⟨λ{σ hv H U Z τv τd fl E} I h k=>by
 obtain⟨q,h1,h2⟩:=ae.mp h;obtain⟨d,h3,h4⟩:=ae.mp h2;refine A.s I h1 λv H1 s1 w1=> ?_;have I1:=I.same s1;have hZ:b8 U H U H1:=λb o q nu=>⟨s1 b o q,nu⟩
 by_cases p:plain d=true
 ·rw[if_pos p]at h4;cases h4;obtain⟨U',I',st⟩:=I1.push (aM.refl H1) (eI.plain (I1.at w1 h3) p);exact k _ H1 U' (I'.bound L.h (.inr trivial)) (hZ.trans st)
 ·rw[if_neg p]at h4;cases q with
  |ro d'=>
   cases h4;exact k _ H1 U (I1.named L.h (β:= .ro d') w1) hZ
  |rt r p'=>
   have h4:(if r=i then none else some (Fl.nx (bw i (.ar r p') Z)))=some fl:=h4;by_cases c:r=i
   ·rw[if_pos c]at h4;cases h4
   ·rw[if_neg c]at h4;cases h4;obtain⟨hr,vr,d0,er,_,_,hp⟩:=w1;exact k _ H1 U (I1.named L.h (β:= .ar r p') ⟨hr,c,vr,er,hp⟩) hZ⟩
instance aff[A:SV K n t f]:lW K n (tB t) (λZ=>(f Z).bind fun | .sc (.bl b)=>some b | _=>none):=⟨λ{σ hv H U Z τv τd b Q} I h k=>by
 obtain⟨d,h1,h2⟩:=ae.mp h;refine A.s I h1 λv H1 s1 w1=> ?_
 split at h2
 ·cases h2;exact⟨b,w1.cg,k H1 s1⟩
 ·cases h2⟩
instance afg[A:SV K n t f]:lW K n (Az t) (λZ=>(f Z).bind fun | .sc (.bl b)=>some b | _=>none):=⟨λ{σ hv H U Z τv τd b Q} I h k=>by
 obtain⟨d,h1,h2⟩:=ae.mp h;refine A.s I h1 λv H1 s1 w1=> ?_
 split at h2
 ·cases h2;exact⟨b,w1.cg,k H1 s1⟩
 ·cases h2⟩
def A0(f:En->Option (D×En))(Z:En):Option (Bool×En):=(f Z).bind λr=>match r.1 with
 |.sc (.bl b)=>some (b,r.2)
 |_=>none
instance (priority:=50) afh{t:TE}{f:En->Option (D×En)}[A:SM K n t f]:ST K n (Az t) (A0 f):=⟨λ{σ hv H U Z ρ' τv τd b Q} I h k=>by
 obtain⟨⟨d,ρ1⟩,h1,h2⟩:=ae.mp h;refine A.s I h1 λv H1 U1 I1 bC=> ?_
 split at h2
 ·next b' e=>
  have e:d= .sc (.bl b'):=e;subst e;cases h2;exact⟨b,I1.last.cg,k H1 U1 I1.tu bC⟩
 ·cases h2⟩
def pB(a b:En->Option Bool)(Z:En):Option Bool:=(a Z).bind λx=>if x=true then b Z else some false
def lC(a b:En->Option Bool)(Z:En):Option Bool:=(a Z).bind λx=>if x=true then some true else b Z
instance afi[A:lW K n t f][B':lW K n u g]:lW K n (Dz t u) (pB f g):=⟨λ{σ hv H U Z τv τd b Q} I h k=>by
 obtain⟨x,h1,h2⟩:=ae.mp h;refine A.s I h1 λH1 s1=> ?_;cases x with
 |true=>rw[if_pos rfl];exact B'.s (I.same s1) h2 λH2 s2=>k H2 (s1.trans s2)
 |false=>cases h2;rw[if_neg ji];exact k H1 s1⟩
instance afj[A:lW K n t f][B':lW K n u g]:lW K n (DA t u) (lC f g):=⟨λ{σ hv H U Z τv τd b Q} I h k=>by
 obtain⟨x,h1,h2⟩:=ae.mp h;refine A.s I h1 λH1 s1=> ?_;cases x with
 |true=>cases h2;rw[if_pos rfl];exact k H1 s1
 |false=>rw[if_neg ji];exact B'.s (I.same s1) h2 λH2 s2=>k H2 (s1.trans s2)⟩
instance afk[A:lW K n t f]:lW K n (Kb t) (λZ=>(f Z).map (!·)):=⟨λ{σ hv H U Z τv τd b Q} I h k=>by
 obtain⟨x,h1,h2⟩:=aV.mp h;cases h2;exact A.s I h1 λH1 s1=>k H1 s1⟩
def andM(a b:En->Option (Bool×En))(Z:En):Option (Bool×En):=(a Z).bind λx=>if x.1=true then b x.2 else some (false,x.2)
def orM(a b:En->Option (Bool×En))(Z:En):Option (Bool×En):=(a Z).bind λx=>if x.1=true then some (true,x.2) else b x.2
instance (priority:=50) afl{t u:TT}{f g:En->Option (Bool×En)}[A:ST K n t f][B':ST K n u g]:ST K n (Dz t u) (andM f g):=⟨λ{σ hv H U Z ρ' τv τd b Q} I h k=>by
 obtain⟨⟨x,ρ1⟩,h1,h2⟩:=ae.mp h;refine A.s I h1 λH1 U1 I1 s1=> ?_;cases x with
 |true=>rw[if_pos rfl];exact B'.s I1 h2 λH2 U2 I2 s2=>k H2 U2 I2 (s1.trans s2)
 |false=>cases h2;rw[if_neg ji];exact k H1 U1 I1 s1⟩
instance (priority:=50) afm{t u:TT}{f g:En->Option (Bool×En)}[A:ST K n t f][B':ST K n u g]:ST K n (DA t u) (orM f g):=⟨λ{σ hv H U Z ρ' τv τd b Q} I h k=>by
 obtain⟨⟨x,ρ1⟩,h1,h2⟩:=ae.mp h;refine A.s I h1 λH1 U1 I1 s1=> ?_;cases x with
 |true=>cases h2;rw[if_pos rfl];exact k H1 U1 I1 s1
 |false=>rw[if_neg ji];exact B'.s I1 h2 λH2 U2 I2 s2=>k H2 U2 I2 (s1.trans s2)⟩
instance afn[A:SV K n ta fa][B':SV K n tb fb]:SV K n (Kc ta tb) (λZ=>(fa Z).bind fun | .sc (.bl true)=>fb Z | .sc (.bl false)=>some (.sc (.bl false)) | _=>none):=⟨λ{σ hv H U Z τv τd d Q} I h k=>by
 obtain⟨x,h1,h2⟩:=ae.mp h;refine A.s I h1 λv H1 s1 w1=> ?_
 split at h2
 ·exact⟨true,w1.cg,by rw[if_pos rfl];exact B'.s (I.same s1) h2 λv H2 s2 w=>k v H2 (s1.trans s2) w⟩
 ·cases h2;exact⟨false,w1.cg,by rw[if_neg ji];exact k _ H1 s1 (.sc _)⟩
 ·cases h2⟩
instance afo[A:SV K n ta fa]:SV K n (DC ta) (λZ=>(fa Z).bind fun | .sc (.bl b)=>some (.sc (.bl (!b))) | _=>none):=⟨λ{σ hv H U Z τv τd d Q} I h k=>by
 obtain⟨x,h1,h2⟩:=ae.mp h;refine A.s I h1 λv H1 s1 w1=> ?_
 split at h2
 ·next b=>cases h2;exact⟨b,w1.cg,k _ H1 s1 (.sc _)⟩
 ·cases h2⟩
def EM(c:En->Option Bool)(a b:En->Option D)(Z:En):Option D:=(c Z).bind λx=>if x=true then a Z else b Z
instance afp[C:lW K n c fc][A:SV K n ta fa][B':SV K n tb fb]:SV K n (Kf c ta tb) (EM fc fa fb):=⟨λ{σ hv H U Z τv τd d Q} I h k=>by
 obtain⟨x,h1,h2⟩:=ae.mp h;refine C.s I h1 λH1 s1=> ?_;cases x with
 |true=>rw[if_pos rfl];exact A.s (I.same s1) h2 λv H2 s2 w=>k v H2 (s1.trans s2) w
 |false=>rw[if_neg ji];exact B'.s (I.same s1) h2 λv H2 s2 w=>k v H2 (s1.trans s2) w⟩
end
end VL
namespace VL
open PySem L2
def cy(f:Str):List Str->Option Nat
 | []=>none
 |g::r=>if f == g then some 0 else(cy f r).map (· + 1)
theorem EN:∀{ns:List Str} {vs:List V} {i:Nat},cy f ns=some i->ns.length=vs.length->(ns.zip vs).lookup f=vs[i]?
 | [],_,_,h,_=>by cases h
 |g::r, [],_,_,h=>by cases h
 |g::r,v::vs,i,h,hl=>by
  rw[cy]at h;rw[pX,mz];by_cases c:(f == g)=true
  ·rw[if_pos c]at h;cases h;rw[c];rfl
  ·rw[if_neg c]at h;obtain⟨j,h1,h2⟩:=aV.mp h;subst h2;rw[aec]at c;rw[c];exact EN h1 (gm hl)
theorem MB:∀{ns:List Str} {i:Nat},cy f ns=some i->i < ns.length
 | [],_,h=>by cases h
 |g::r,i,h=>by
  rw[cy]at h;by_cases c:(f == g)=true
  ·rw[if_pos c]at h;cases h;exact JH _
  ·rw[if_neg c]at h;obtain⟨j,h1,h2⟩:=aV.mp h;subst h2;exact Sj (MB h1)
theorem A1:∀{ns:List Str} {i:Nat},cy f ns=some i->f∈ns
 | [],_,h=>by cases h
 |g::r,i,h=>by
  rw[cy]at h;by_cases c:(f == g)=true
  ·have:f=g:=by simpa using c
   rw[this];exact .head _
  ·rw[if_neg c]at h;obtain⟨j,h1,_⟩:=aV.mp h;exact .tail _ (A1 h1)
theorem MC:∀{ns:List Str} {vs:List V} {i:Nat},cy f ns=some i->ns.length=vs.length->jD f y (ns.zip vs)=ns.zip (vs.set i y)
 | [],_,_,h,_=>by cases h
 |g::r, [],_,_,h=>by cases h
 |g::r,v::vs,i,h,hl=>by
  rw[cy]at h;rw[pX,jD];by_cases c:(f == g)=true
  ·have e:g=f:=by have:f=g:=(by simpa using c);exact this.symm
   rw[if_pos c]at h;cases h;rw[if_pos e];rfl
  ·have ne:¬ g=f:=λz=>c (by rw[z];simp);rw[if_neg c]at h;obtain⟨j,h1,h2⟩:=aV.mp h;subst h2;rw[if_neg ne,MC h1 (gm hl)];rfl
theorem MD:∀{ns:List Str} {vs:List V},cy f ns=none->ns.length=vs.length->jD f y (ns.zip vs)=(ns++ [f]).zip (vs++ [y])
 | [], [],_,_=>rfl
 | [],_::_,_,h=>by cases h
 |g::r, [],_,h=>by cases h
 |g::r,v::vs,h,hl=>by
  rw[cy]at h;rw[pX,jD];by_cases c:(f == g)=true
  ·rw[if_pos c]at h;cases h
  ·have ne:¬ g=f:=λz=>c (by rw[z];simp);rw[if_neg c]at h;rw[if_neg ne,MD (aed.mp h) (gm hl)];rfl
section
def fz(f:Str):D->Option Nat
 |.nd (.obj _ ns) _=>cy f ns
 |_=>none
def aZ:D->Nat->Option D
 |.nd _ cs,i=>cs[i]?
 |_,_=>none
def bT(f:Str)(d:D):Option D:=(fz f d).bind (aZ d)
instance afq[A:SV K n ta fa]:SV K n (xq K ta f) (λZ=>(fa Z).bind (bT f)):=⟨λ{σ hv H U Z τv τd d Q} I h k=>by
 obtain⟨x,h1,h2⟩:=ae.mp h;obtain⟨i,h3,h4⟩:=ae.mp h2;refine A.s I h1 λv H1 s1 w1=> ?_;unfold fz at h3
 split at h3
 ·next C ns cs=>
  obtain⟨a,vs,rfl,_,⟨⟨hl,hC,hA⟩,dx,hc⟩,g9,d4⟩:=w1.node;have h4:cs[i]?=some d:=h4;obtain⟨u,hu⟩:=nY g9 h4;exact⟨a,C,dx,_,u,rfl,hc,hC,hA f (A1 h3),(EN h3 hl).trans hu,k u H1 s1 (d4 i u d hu h4)⟩
 ·cases h3⟩
def jb(Z:En)(q:Pl)(i:Nat):Option Pl:=(dw Z q).bind λd=>(aZ d i).bind λc=>match q with
 |.rt r p=>if plain d=true then some (.ro c) else some (.rt r (p++ [i]))
 |.ro _=>some (.ro c)
theorem ME:∀{p:List Nat} {d d1:D} {i:Nat},ag d p=some d1->ag d (p++ [i])=ag d1 [i]
 | [],d,d1,i,g=>by cases g;rfl
 |n::p, .sc _,d1,i,g=>by rw[ag]at g;cases g
 |n::p, .hl _,d1,i,g=>by rw[ag]at g;cases g
 |n::p, .nd k cs,d1,i,g=>by
  rw[ag]at g;rw[Sk,ag];by_cases df:cT k=true/\bf cs=true
  ·rw[if_pos df]at g;cases g
  rw[if_neg df]at g |-;cases hc:cs[n]? with
  |none=>rw[hc]at g;cases g
  |some c=>rw[hc]at g;exact ME g
theorem iL.app(h:iL H v p u)(h2:iL H u q w):iL H v (p++q) w:=by
 induction h with
 |nil=>exact h2
 |cons e1 e2 _ ih=>exact .cons e1 e2 (ih h2)
theorem EO(h:¬ plain (.nd k cs)=true):¬ (cT k=true/\bf cs=true):=λ⟨a,b⟩=>by
 cases k with
 |tup=>exact h b
 |eL=>exact h b
 |_=>cases a
theorem aw.d4(I:aw K n H U σ hv Z τv τd)(h:hJ K H U (σ++hv) Z v q)(hq:jb Z q i=some q'):
  ∃(a:Addr) (k:Kd) (vs:List V) (cs:List D) (u:V) (c:D),v= .ref a/\dw Z q=some (.nd k cs)/\jN K H a k vs/\vs.length=cs.length/\vs[i]?=some u/\cs[i]?=some c/\hJ K H U (σ++hv) Z u q'/\dw Z q'=some c:=by
 obtain⟨d,h1,h2⟩:=ae.mp hq;obtain⟨c,h3,h4⟩:=ae.mp h2;cases d with
 |sc _=>cases h3
 |hl _=>cases h3
 |nd k cs=>
  have h3:cs[i]?=some c:=h3;cases q with
  |ro d'=>
   cases h4;cases h1;obtain⟨a,vs,rfl,_,hc,hl,d4⟩:=Vw.node (show Vw K H (λb=>¬ U b) v (.nd k cs) from h);obtain⟨u,hu⟩:=nY hl h3;exact⟨a,k,vs,cs,u,c,rfl,rfl,hc,hl,hu,h3,d4 i u c hu h3,rfl⟩
  |rt r p=>
   have h4:(if plain (.nd k cs)=true then some (Pl.ro c) else some (.rt r (p++ [i])))=some q':=h4;by_cases pd:plain (.nd k cs)=true
   ·rw[if_pos pd]at h4;cases h4;obtain⟨a,vs,rfl,_,hc,hl,d4⟩:=(I.at h h1).node;obtain⟨u,hu⟩:=nY hl h3;have pc:plain c=true:=by
     cases k with
     |tup=>exact s9 pd h3
     |eL=>exact s9 pd h3
     |_=>cases pd
    exact⟨a,k,vs,cs,u,c,rfl,h1,hc,hl,hu,h3,((d4 i u c hu h3).plain pc).view λ_ z=>z.elim,rfl⟩
   ·rw[if_neg pd]at h4;cases h4;obtain⟨hr,vr,d0,er,qo,hg,hp⟩:=h;have xT:(ak Z r).bind (ag · p)=some (.nd k cs):=h1;rw[qo]at xT;have xT:ag d0 p=some (.nd k cs):=xT;have g2:ag d0 (p++ [i])=some c:=by
     rw[ME xT,ag,if_neg (EO pd),h3];rfl
    obtain⟨afr,F,ev,_,rp⟩:=I.xP qo;rw[er]at ev;cases ev;obtain⟨F1,_,r1,_⟩:=rp.focus hp xT;obtain⟨a,vs,rfl,ho,hl,Fs,_,_,d4⟩:=r1.node;obtain⟨u,hu⟩:=nY hl h3;have WQ:∃o,H a=some o:=by
     cases k with
     |tup=>exact⟨_,ho⟩
     |eL=>exact absurd ⟨rfl,ho.1⟩ (EO pd)
     |_=>obtain⟨_,_,_,dx,x⟩:=ho;exact⟨_,x⟩
    obtain⟨o,eo⟩:=WQ;have pk:iL H vr (p++ [i]) u:=hp.app (.cons eo (by rw[ho.kids (EO pd) eo];exact hu) (.nil u));exact⟨a,k,vs,cs,u,c,rfl,h1,ho.cell,hl,hu,h3,⟨hr,vr,d0,er,qo,by rw[g2];rfl,pk⟩,by show(ak Z r).bind (ag · (p++ [i]))=some c;rw[qo];exact g2⟩
def rD(f:Str)(fa:En->Option Pl)(Z:En):Option Pl:=(fa Z).bind λq=>(dw Z q).bind λd=>(fz f d).bind (jb Z q)
instance afs[A:SP K n ta fa]:SP K n (xq K ta f) (rD f fa):=⟨λ{σ hv H U Z τv τd q' Q} I h k=>by
 obtain⟨q,h1,h⟩:=ae.mp h;obtain⟨d,h2,h⟩:=ae.mp h;obtain⟨i,h3,h4⟩:=ae.mp h;refine A.s I h1 λv H1 s1 w1=> ?_;obtain⟨a,kk,vs,cs,u,c,rfl,e1,hc,hl,hu,h5,ok,_⟩:=(I.same s1).d4 w1 h4;rw[h2]at e1;cases e1;unfold fz at h3
 split at h3
 ·next C ns gB e=>
  cases e;obtain⟨⟨g9,hC,hA⟩,dx,hc⟩:=hc;exact⟨a,C,dx,_,u,rfl,hc,hC,hA f (A1 h3),(EN h3 g9).trans hu,k u H1 s1 ok⟩
 ·cases h3⟩
def fB(d i:D):Option Nat:=match d,i with
 |.nd .tup cs, .sc (.int j)=>eX cs.length j
 |.nd .lst cs, .sc (.int j)=>eX cs.length j
 |.nd .eL cs, .sc (.int j)=>eX cs.length j
 |_,_=>none
class tG(K:ah)(r:R2)(g:outParam (D->D->Option Nat))(gs:outParam (V->D->Option V)):Prop where
 t:∀{H:Hp} {x y w:V} {dy:D} {Q:VK},Vw K H T1 y dy->gs x dy=some w->Q w H->r x y H Q
 s:∀{H:Hp} {a:Addr} {k:Kd} {vs:List V} {cs:List D} {y u:V} {dy:D} {i:Nat} {Q:VK},jN K H a k vs->vs.length=cs.length->Vw K H T1 y dy->g (.nd k cs) dy=some i->vs[i]?=some u->Q u H->r (.ref a) y H Q
def aX(g:D->D->Option Nat)(gs:V->D->Option V)(a b:D):Option D:=match a with
 |.sc x=>(gs x b).map .sc
 |a=>(g a b).bind (aZ a)
instance (priority:=900) aft{r:R2}{ta tb:TE}{fa fb:En->Option D}{g:D->D->Option Nat}{gs:V->D->Option V}[A:SV K n ta fa][B':SV K n tb fb][O:tG K r g gs]:SV K n (kQ r ta tb) (aq (aX g gs) fa fb):=⟨λ{σ hv H U Z τv τd d Q} I h k=>by
 obtain⟨a,ha,h⟩:=ae.mp h;obtain⟨b,hb,h⟩:=ae.mp h;refine A.s I ha λx H1 s1 w1=> ?_;refine B'.s (I.same s1) hb λy H2 s2 w2=> ?_;cases a with
 |sc z=>
  obtain⟨w,h1,h2⟩:=aV.mp h;subst h2;rw[w1.cg];exact O.t w2 h1 (k w H2 (s1.trans s2) (.sc w))
 |hl _=>
  obtain⟨i,hi,h⟩:=ae.mp h;cases h
 |nd kk cs=>
  obtain⟨i,hi,h⟩:=ae.mp h;have h:cs[i]?=some d:=h;obtain⟨a,vs,rfl,_,hc,hl,d4⟩:=(w1.same s2).node;obtain⟨u,hu⟩:=nY hl h;exact O.s hc hl w2 hi hu (k u H2 (s1.trans s2) (d4 i u d hu h))⟩
def gf(g:D->D->Option Nat)(fa:En->Option Pl)(fb:En->Option D)(Z:En):Option Pl:=(fa Z).bind λq=>(fb Z).bind λb=>(dw Z q).bind λd=>(g d b).bind (jb Z q)
theorem hJ.same(h:hJ K H U e Z v q)(s:aM H H'):hJ K H' U e Z v q:=by
 cases q with
 |ro d=>exact Vw.same h s
 |rt r p=>
  obtain⟨a,vr,d,b,c,e,f⟩:=h;exact⟨a,vr,d,b,c,e,f.same s⟩
instance afu[A:SP K n ta fa][B':SV K n tb fb][O:tG K r g gs]:SP K n (kQ r ta tb) (gf g fa fb):=⟨λ{σ hv H U Z τv τd q' Q} I h k=>by
 obtain⟨q,ha,h⟩:=ae.mp h;obtain⟨b,hb,h⟩:=ae.mp h;obtain⟨d,hd,h⟩:=ae.mp h;obtain⟨i,hi,h⟩:=ae.mp h;refine A.s I ha λx H1 s1 w1=> ?_;refine B'.s (I.same s1) hb λy H2 s2 w2=> ?_;obtain⟨a,kk,vs,cs,u,c,rfl,e1,hc,hl,hu,h5,ok,_⟩:=((I.same s1).same s2).d4 (w1.same s2) h;rw[hd]at e1;cases e1;exact O.s hc hl w2 hi hu (k u H2 (s1.trans s2) ok)⟩
def bq(x:V)(i:D):Option V:=match x,i with
 |.str z, .sc (.int j)=>if z.length<=aK then(rn z.cps.toList j).map λc=> .str ⟨#[c]⟩ else none
 |_,_=>none
theorem WR(h:eX m j=some i):i < m:=by
 unfold eX at h
 split at h
 ·split at h
  ·cases h;lia
  ·cases h
 ·split at h
  ·cases h;lia
  ·cases h
instance MF:tG K (D1 K) fB bq where
 t:=λ{H x y w dy Q} w2 h q=>by
  unfold bq at h
  split at h
  ·next z j=>
   by_cases c:z.length<=aK
   ·rw[if_pos c]at h;obtain⟨ch,h1,h2⟩:=aV.mp h;subst h2;rw[w2.cg];exact .inr (.inr ⟨z,j,ch,rfl,rfl,c,h1,q⟩)
   ·rw[if_neg c]at h;cases h
  ·cases h
 s:=λ{H a k vs cs y u dy i Q} hc hl w2 h hu q=>by
  unfold fB at h;have at_:∀j,eX cs.length j=some i->rn vs j=some u:=λj e=>by
   unfold rn;rw[hl,e];exact hu
  split at h
  ·next gB j e=>
   cases e;rw[w2.cg];exact .inr (.inl ⟨a,vs,j,u,rfl,rfl,cN.of hc.2,at_ j h,q⟩)
  ·next gB j e=>
   cases e;rw[w2.cg];exact .inl ⟨a,vs,j,u,rfl,rfl, .inl (.inl hc.2),at_ j h,q⟩
  ·next gB j e=>
   cases e;rw[w2.cg];exact .inl ⟨a,vs,j,u,rfl,rfl,hc.2.sq,at_ j h,q⟩
  ·cases h
class SQ(K:ah)(n:Nat)(t:TE)(f:outParam (En->Option D)):Prop where
 o:∀{σ hv:List (Option V)} {H:Hp} {U:Addr->Prop} {Z:En} {τv:List V} {τd:List D} {d:D} {Q:VK},aw K n H U σ hv Z τv τd->f Z=some d->(∀v H',aM H H'->eI K H H' v d->Q v H')->t σ H Q
theorem SQ.s[S:SQ K n t f](I:aw K n H U σ hv Z τv τd)(h:f Z=some d)(k:∀v H' U',aw K n H' U' σ hv Z (τv++ [v]) (τd++ [d])->b8 U H U' H'->aM H H'->Q v H'):t σ H Q:=
 S.o I h λv H' s o=>by
  obtain⟨U',I',st⟩:=I.push s o;exact k v H' U' I' st s
instance (priority:=200) afv{t:TE}{f:En->Option D}[S:SF K n t f]:SQ K n t f:=⟨λI h k=>S.s I h k⟩
def dY(f:En->Option D)(Z:En):Option D:=(f Z).bind λd=>if plain d=true then some d else none
instance (priority:=100) afw{t:TE}{f:En->Option D}[S:SV K n t f]:SQ K n t (dY f):=⟨λ{σ hv H U Z τv τd d Q} I h k=>by
 obtain⟨d',h1,h2⟩:=ae.mp h;by_cases p:plain d'=true
 ·rw[if_pos p]at h2;cases h2;exact S.s I h1 λv H' s w=>k v H' s (eI.plain w p)
 ·rw[if_neg p]at h2;cases h2⟩
def fL(Z:En)(r:Nat)(p:List Nat):Option (D×Kd×List D):=(ak Z r).bind λd0=>(ag d0 p).bind λ
 |.nd k cs=>some (d0,k,cs)
 |_=>none
theorem tH(h:fL Z r p=some (d0,k,cs)):ak Z r=some d0/\ag d0 p=some (.nd k cs):=by
 obtain⟨x,h1,h2⟩:=ae.mp h;obtain⟨y,h3,h4⟩:=ae.mp h2;cases y with
 |sc _=>cases h4
 |hl _=>cases h4
 |nd k' gB=>cases h4;exact⟨h1,h3⟩
open Classical in
def lD(K:ah)(f:Str)(k:Kd)(cs:List D)(d:D):Option D:=match k with
 |.obj C ns=>if cs.length < 1000 then(match cy f ns with
  |some i=>some (.nd (.obj C ns) (cs.set i d))
  |none=>if iT K C f then some (.nd (.obj C (ns++ [f])) (cs++ [d])) else none) else none
 |_=>none
def lY(K:ah)(f:Str)(fv:En->Option (D×En))(fp:En->Option Pl)(Z:En):Option Fl:=(fv Z).bind λa=>(fp a.2).bind λ
 |.rt r p=>(fL a.2 r p).bind λz=>(lD K f z.2.1 z.2.2 a.1).map λd'=> .nx (eM a.2 r z.1 p d')
 |.ro _=>none
theorem rE{α:Type}{xs:List α}{x:α}{i:Nat}(hi:i < xs.length):∀(j:Nat) (y:α),(xs.set i x)[j]?=some y->(xs++ [x])[if j=i then xs.length else j]?=some y:=λj y h=>by
 by_cases c:j=i
 ·subst c;rw[dr hi]at h;rw[if_pos rfl,bI (bK _),mB];exact h
 ·rw[fq (jO c)]at h;rw[if_neg c,ba (bB.mp h).1];exact h
theorem A2{i m:Nat}(hi:i < m):∀a b,a < m->b < m->(if a=i then m else a)=(if b=i then m else b)->a=b:=λa b ha hb h=>by
 by_cases c1:a=i
 ·by_cases c2:b=i
  ·lia
  ·rw[if_pos c1,if_neg c2]at h;lia
 ·by_cases c2:b=i
  ·rw[if_neg c1,if_pos c2]at h;lia
  ·rw[if_neg c1,if_neg c2]at h;exact h
instance afx{ta tv:TE}{f:Str}{fv:En->Option (D×En)}{fp:En->Option Pl}[A:SM K n tv fv][P:SP K n ta fp]:SS K n (DM K ta tv f) (lY K f fv fp):=⟨λ{σ hv H U Z τv τd fl E} I h k=>by
 obtain⟨⟨d,ρ1⟩,h1,h⟩:=ae.mp h;obtain⟨q,h2,h⟩:=ae.mp h;cases q with
 |ro _=>cases h
 |rt r p=>
  obtain⟨⟨d0,kk,cs⟩,h3,h⟩:=ae.mp h;obtain⟨d',h4,h⟩:=aV.mp h;subst h;obtain⟨hr,hg⟩:=tH h3;refine A.s I h1 λy H1 U1 I1 bC=> ?_;refine P.s I1 h2 λx H2 s2 w2=> ?_;have I2:=I1.same s2;have hZ:b8 U1 H1 U1 H2:=λb o q nu=>⟨s2 b o q,nu⟩
  unfold lD at h4
  split at h4
  ·next C ns e=>
   have e:kk= .obj C ns:=e;subst e;by_cases c:cs.length < 1000
   ·rw[if_pos c]at h4;obtain⟨a,dx,vs,rfl,ha,hf,hl,_,ed⟩:=aw.edit (xs:= [y]) (ds:= [d]) I2 rfl w2 hr hg rfl;obtain⟨xU,hC,hA⟩:=hf
    split at h4
    ·next i e2=>
     cases h4;have hi:i < vs.length:=by rw[<- xU];exact MB e2
     refine⟨a,C,dx,_,rfl,ha,hC,hA f (A1 e2),by rw[uH];lia, ?_⟩;rw[MC e2 xU];obtain⟨U3,I3,jC⟩:=ed (.obj C ns) (vs.set i y) (cs.set i d) (λj=>if j=i then vs.length else j) rfl ⟨by rw[bZ];exact xU,hC,hA⟩ (by rw[bZ,bZ];exact hl)
      (λx z hx hz=>A2 hi x z (by rw[bZ]at hx;exact hx) (by rw[bZ]at hz;exact hz)) (rE hi) (by rw[hl];exact rE (by lia))
     exact k σ _ U3 I3 (bC.trans (hZ.trans jC))
    ·next e2=>
     by_cases cn:iT K C f
     ·rw[if_pos cn]at h4;cases h4;refine⟨a,C,dx,_,rfl,ha,hC,cn,by rw[uH];lia, ?_⟩;rw[MD e2 xU];obtain⟨U3,I3,jC⟩:=ed (.obj C (ns++ [f])) (vs++ [y]) (cs++ [d]) id rfl ⟨by simp;exact xU,hC,λg hg=>by
       rcases iG.mp hg with z | z
       ·exact hA g z
       ·rw[cE.mp z];exact cn⟩ (by simp;exact hl) (λx z _ _ h=>h) (λj x h=>h) λj x h=>h
      exact k σ _ U3 I3 (bC.trans (hZ.trans jC))
     ·rw[if_neg cn]at h4;cases h4
   ·rw[if_neg c]at h4;cases h4
  ·cases h4⟩
def tI(Z:En)(r:Nat)(p:List Nat)(g:List D->Option (List D)):Option En:=(fL Z r p).bind λz=>match z.2.1 with
 |.lst=>(g z.2.2).map λgB=>eM Z r z.1 p (.nd .lst gB)
 |_=>none
def xV(d:D)(cs:List D):Option (List D):=if cs.length < aK then some (cs++ [d]) else none
def ER(fp:En->Option Pl)(fe:En->Option D)(Z:En):Option (D×En):=(fp Z).bind λ
 |.rt r p=>(fe Z).bind λd=>(tI Z r p (xV d)).map λρ'=>(.sc .aJ,ρ')
 |.ro _=>none
theorem ES(h:H p=some (.lst xs)):u0 K "list" (.ref p) H:= .inl ⟨rfl,xs, .inl (.inl h)⟩
theorem aw.append{Q:VK}(I:aw K n H U σ hv Z (τv++ [y]) (τd++ [d]))(w:hJ K H U (σ++hv) Z x (.rt r p))(h:tI Z r p (xV d)=some aD)
  (k:∀v H' U',aw K n H' U' σ hv aD (τv++ [v]) (τd++ [.sc .aJ])->b8 U H U' H'->Q v H'):u0 K "list" x H/\AG x [y] H Q:=by
 obtain⟨⟨d0,kk,cs⟩,h3,h⟩:=ae.mp h;obtain⟨hr,hg⟩:=tH h3
 split at h
 ·next e=>
  have e:kk= .lst:=e;subst e;obtain⟨gB,h4,h⟩:=aV.mp h;subst h;unfold xV at h4;have h4:(if cs.length < aK then some (cs++ [d]) else none)=some gB:=h4;by_cases c:cs.length < aK
  ·rw[if_pos c]at h4;cases h4;obtain⟨a,dx,vs,rfl,ha,hf,hl,_,ed⟩:=aw.edit (xs:= [y]) (ds:= [d]) I rfl w hr hg rfl;obtain⟨U3,I3,jC⟩:=ed .lst (vs++ [y]) (cs++ [d]) id rfl trivial (by simp;exact hl) (λx z _ _ h=>h) (λj x h=>h) λj x h=>h;obtain⟨U4,I4,ki⟩:=I3.push (aM.refl _) (eI.sc (K:=K) .aJ);exact⟨ES ha,a,vs,y,rfl,rfl,ha,by lia,k _ _ U4 I4 (jC.trans ki)⟩
  ·rw[if_neg c]at h4;cases h4
 ·cases h
theorem hJ.root(h:hJ K H U e Z v (.rt r []))(hd:ak aD r=some d):hJ K H' U' e aD v (.rt r []):=by
 obtain⟨_,vr,d0,er,_,_,hp⟩:=h;cases hp;exact⟨(bB.mp (lV hd)).1,v,d,er,hd,rfl, .nil v⟩
instance (priority:=600) afy{to te:TE}{fp:En->Option Pl}{fe:En->Option D}[P:SP K n to fp][A:SQ K n te fe]:SM K n (D5 K "list" AG to (eJ te g7)) (ER fp fe):=⟨λ{σ hv H U Z ρ' τv τd d Q} I h k=>by
 obtain⟨q,h1,h⟩:=ae.mp h;cases q with
 |ro _=>cases h
 |rt r p=>
  obtain⟨d1,h2,h⟩:=ae.mp h;obtain⟨aD,h3,h⟩:=aV.mp h;cases h;refine P.s I h1 λx H1 s1 w1=> ?_;have I1:=I.same s1;have hZ:b8 U H U H1:=λb o q nu=>⟨s1 b o q,nu⟩
  -- what kind of afz it is,ahead of lP argument
  obtain⟨⟨d0,kk,cs⟩,h4,h5⟩:=ae.mp h3;obtain⟨hr,hg⟩:=tH h4;have sS:u0 K "list" x H1:=by
   split at h5
   ·next e=>
    have e:kk= .lst:=e;subst e;obtain⟨a,vs,rfl,_,hc,_,_⟩:=(I1.at (q:= .rt r p) (d:= .nd .lst cs) w1 (by show(ak Z r).bind _=_;rw[hr];exact hg)).node;exact ES hc.2
   ·cases h5
  refine⟨sS,SQ.s (f:=fe) I1 h2 λy H2 U2 I2 b5 s2=> ?_⟩;have w2:hJ K H2 U2 (σ++hv) Z x (.rt r p):=by
   obtain⟨a,vr,d,b,c,e,f⟩:=w1;exact⟨a,vr,d,b,c,e,f.same s2⟩
  exact(I2.append w2 h3 λv H3 U3 I3 jC=>k v H3 U3 I3 (hZ.trans (b5.trans jC))).2⟩
end
end VL
namespace VL
open PySem L2
def nc(n:Nat)(vs:List V):St:=vs.map some++gL (n - vs.length) none
section
variable {K:ah}{H H':Hp}{U U':Addr->Prop}{σ hv:List (Option V)}{τv vs:List V}{τd ds:List D}{v:V}{d:D}
def eF(K:ah)(m:Nat)(G:List D->Option D):Sp:=λvs H Q _=>∃(ds:List D) (d:D),ds.length=m/\dN K H T1 vs ds/\G ds=some d/\∀v H',aM H H'->eI K H H' v d->Q v H'
instance afA{m:Nat}[A:SA K n ta fa]:SF K n (qc (eF K m G) [] E ta) (λZ=>(fa Z).bind λds=>if ds.length=m then G ds else none):=⟨λ{σ hv H U Z τv τd d Q} I h k=>by
 obtain⟨ds,h1,h2⟩:=ae.mp h;by_cases c:ds.length=m
 ·rw[if_pos c]at h2;refine A.s I h1 λvs H1 s1 w1=> ?_;show eF K m G (vs++ []) H1 Q E;rw[eW];exact⟨ds,d,c,w1,h2,λv H' s o=>k v H' (s1.trans s) (o.early s1)⟩
 ·rw[if_neg c]at h2;cases h2⟩
def cY(n:Nat)(f:En->Option Fl)(ds:List D):Option D:=match f (ds.map (λd=>some (.ro d))++gL (n - ds.length) none) with
 |some (.rt d _)=>some d
 |some (.nx _)=>some (.sc .aJ)
 |_=>none
theorem dN.get{N:Addr->Prop}(h:dN K H N vs ds){i:Nat}{d:D}(hd:ds[i]?=some d):∃v,vs[i]?=some v/\Vw K H N v d:=by
 obtain⟨v,hv⟩:=nY h.1 hd;exact⟨v,hv,h.2 i v d hv hd⟩
theorem ET{t:TS}{f:En->Option Fl}{m:Nat}{Q:VK}{X:XK}[S:SS K n t f](h:eF K m (cY n f) vs H Q X)(hm:m<=n):t { nx:=λ_ H'=>Q .aJ H',rt:=Q } (nc n vs) H:=by
 obtain⟨ds,d,hd,w,hG,k⟩:=h;have hl:=w.1;have rp:∀(i:Nat) (β:B),(ds.map (λd=>some (B.ro d))++gL (n - ds.length) none)[i]?=some (some β)->∃d,ds[i]?=some d/\β= .ro d:=λi β h=>by
  by_cases hi:i < ds.length
  ·rw[ba (by simpa using hi),dF]at h;cases q:ds[i]? with
   |none=>rw[q]at h;cases h
   |some x=>rw[q]at h;cases h;exact⟨x,rfl,rfl⟩
  ·rw[bI (by simp;lia),C8]at h
   split at h <;> cases h
 have I:aw K n H (λ_=>False) (nc n vs) [] (ds.map (λd=>some (.ro d))++gL (n - ds.length) none) [] []:=by
  refine⟨⟨by unfold nc;simp[hl],λb z=>z.elim,λ_ _=>False,λi j b z=>z.elim,λi b z=>z.elim,λi β aL=> ?_⟩,by unfold nc;simp[hl],by unfold nc;simp;lia⟩;rw[jz,eW]at aL;obtain⟨x,hx,rfl⟩:=rp i β aL;obtain⟨v,hv,vw⟩:=w.get hx;refine⟨v, ?_,vw.mono λ_ _ z=>z⟩;rw[jz,eW,eW];unfold nc;rw[ba (by simpa using (bB.mp hv).1),dF,hv];rfl
 have cL:∀{ρ':En} {v:V} {aO:List (Option V)} {H':Hp} {U':Addr->Prop},aw K n H' U' aO [] ρ' [v] [d]->b8 (λ_=>False) H U' H'->Q v H':=λ{ρ' v aO H' U'} J st=>by
  refine k v H' (λb o q=>(st b o q λz=>z).1) ?_;obtain⟨_,mu,Fs,dj,sub,sl⟩:=J.ok;have l:=J.len;obtain⟨v',ev,sv⟩:=sl ρ'.length (.own d) (by simp);have:v'=v:=by
   rw[bI (by simp at l |-;lia)]at ev;simp at ev l;rw[show ρ'.length - aO.length=0 by lia]at ev;simp at ev;exact ev.symm
  subst this;refine⟨_,sv,λb z=>⟨?_,mu b (sub _ b z)⟩⟩;cases q:H b with
  |none=>rfl
  |some o=>exact absurd (sub _ b z) (st b o q λz=>z).2
 unfold cY at hG
 split at hG
 ·next d' ρ' e=>
  cases hG;exact S.s I e λv aO H' U' J st=>cL J st
 ·next ρ' e=>
  cases hG;refine S.s I e λaO H' U' J st=> ?_;obtain⟨U2,J2,b5⟩:=J.push (aM.refl H') (eI.sc (K:=K) .aJ);exact cL J2 (st.trans b5)
 ·cases hG
def bj{α:Type}:List Bool->List α->List α
 |true::m,x::r=>x::bj m r
 |false::m,_::r=>bj m r
 |_,_=> []
def cq(K:ah)(br:List Bool)(G:List D->Option (D×List D)):Sp:=λvs H Q _=>vs.length=br.length/\∃(ds:List D) (U:Addr->Prop) (d:D) (cZ:List D),ds.length=br.length/\cW K H U 0 ((bj br vs).map some) (bu (bj br ds))/\
 (∀(i:Nat) (v:V) (d:D),br[i]?=some false->vs[i]?=some v->ds[i]?=some d->Vw K H (λb=>¬ U b) v d)/\G ds=some (d,cZ)/\
 ∀v H' U',cW K H' U' 0 (some v::(bj br vs).map some) (some (.own d)::bu cZ)->b8 U H U' H'->Q v H'
def dq(n:Nat):Nat->List Bool->List D->En
 |j,true::m,_::r=>some (.ar (n + j) [])::dq n (j + 1) m r
 |j,false::m,d::r=>some (.ro d)::dq n j m r
 |_,_,_=> []
def dg:En->Option (List D)
 | []=>some []
 |some (.own d)::r=>(dg r).map (d:: ·)
 |_=>none
theorem MG:∀{Z:En} {ds:List D},dg Z=some ds->Z=bu ds
 | [],ds,h=>by cases h;rfl
 |some (.own d)::r,ds,h=>by
  rw[dg]at h;obtain⟨x,h1,h2⟩:=aV.mp h;subst h2;rw[MG h1];rfl
 |none::r,ds,h=>by simp[dg]at h
 |some (.ro d)::r,ds,h=>by simp[dg]at h
 |some (.ar _ _)::r,ds,h=>by simp[dg]at h
def cz(n:Nat)(br:List Bool)(ds:List D):En:=dq n 0 br ds++gL (n - br.length) none++bu (bj br ds)
def bE(n:Nat)(br:List Bool)(f:En->Option Fl)(ds:List D):Option (D×List D):=match f (cz n br ds) with
 |some (.rt d ρ')=>(dg (ρ'.drop n)).map λo=>(d,o)
 |some (.nx ρ')=>(dg (ρ'.drop n)).map λo=>(.sc .aJ,o)
 |_=>none
theorem EU(n:Nat):∀(j:Nat) {br:List Bool} {ds:List D},ds.length=br.length->(dq n j br ds).length=br.length
 |j, [], [],_=>rfl
 |j, [],_::_,h=>by cases h
 |j,_::_, [],h=>by cases h
 |j,true::m,_::r,h=>by rw[dq,fN,EU n (j + 1) (gm h)];rfl
 |j,false::m,_::r,h=>by rw[dq,fN,EU n j (gm h)];rfl
theorem A3{α β:Type}:∀{br:List Bool} {xs:List α} {ys:List β},xs.length=br.length->ys.length=br.length->(bj br xs).length=(bj br ys).length
 | [], [], [],_,_=>rfl
 | [],_::_,_,h,_=>by cases h
 | [],_,_::_,_,h=>by cases h
 |_::_, [],_,h,_=>by cases h
 |_::_,_, [],_,h=>by cases h
 |true::m,x::xs,y::ys,h,h'=>by rw[bj,bj,fN,fN,A3 (gm h) (gm h')]
 |false::m,x::xs,y::ys,h,h'=>by rw[bj,bj,A3 (gm h) (gm h')]
theorem EV(n:Nat):∀(j:Nat) {br:List Bool} {ds:List D} {vs:List V} {i:Nat} {β:B},ds.length=br.length->vs.length=br.length->(dq n j br ds)[i]?=some (some β)->
  (∃d,β= .ro d/\br[i]?=some false/\ds[i]?=some d)\/∃j' v,β= .ar (n + j') []/\j<=j'/\(bj br vs)[j' - j]?=some v/\vs[i]?=some v
 |j, [],_,_,_,_,_,_,h=>by simp[dq]at h
 |j,_::_, [],_,_,_,h,_,_=>by cases h
 |j,_::_,_, [],_,_,_,h,_=>by cases h
 |j,true::m,d::ds,v::vs,0,β,h1,h2,h=>by
  rw[dq]at h;cases h;exact .inr ⟨j,v,rfl,bK _,by rw[mB,bj];rfl,rfl⟩
 |j,true::m,d::ds,v::vs,i + 1,β,h1,h2,h=>by
  rw[dq]at h;rcases EV n (j + 1) (br:=m) (ds:=ds) (vs:=vs) (i:=i) (gm h1) (gm h2) (by simpa using h) with⟨x,a,b,c⟩ | ⟨j',x,a,b,c,e⟩
  ·exact .inl ⟨x,a,by simpa using b,by simpa using c⟩
  ·refine .inr ⟨j',x,a,by lia, ?_,by simpa using e⟩;rw[bj,show j' - j=(j' - (j + 1)) + 1 by lia];simpa using c
 |j,false::m,d::ds,v::vs,0,β,h1,h2,h=>by
  rw[dq]at h;cases h;exact .inl ⟨d,rfl,rfl,rfl⟩
 |j,false::m,d::ds,v::vs,i + 1,β,h1,h2,h=>by
  rw[dq]at h;rcases EV n j (br:=m) (ds:=ds) (vs:=vs) (i:=i) (gm h1) (gm h2) (by simpa using h) with⟨x,a,b,c⟩ | ⟨j',x,a,b,c,e⟩
  ·exact .inl ⟨x,a,by simpa using b,by simpa using c⟩
  ·exact .inr ⟨j',x,a,b,by rw[bj];exact c,by simpa using e⟩
theorem cW.tail(h:cW K H U m (e++t) (Z++τ))(hl:e.length=Z.length)(u9:xM τ):∃Ut:Addr->Prop,(∀b,Ut b->U b)/\cW K H Ut 0 t τ:=by
 obtain⟨cG,mu,Fs,dj,sub,sl⟩:=h;rw[bQ,bQ]at cG;refine⟨λb=>∃i,e.length<=i/\Fs i b,λb ⟨i,_,z⟩=>sub i b z,⟨by lia,λb ⟨i,_,z⟩=>mu b (sub i b z),λi=>Fs (e.length + i),λi j b hi hj=>by have:=dj _ _ b hi hj;lia,λi b hb=>⟨_,by lia,hb⟩,λi β aL=> ?_⟩⟩;have tf:(Z++τ)[e.length + i]?=some (some β):=by
  rw[hl,bI (by lia),show Z.length + i - Z.length=i by lia];exact aL
 obtain⟨v,ev,sv⟩:=sl _ _ tf;rw[bI (by lia),show e.length + i - e.length=i by lia]at ev;refine⟨v,ev, ?_⟩;cases β with
 |own d=>exact sv
 |ro d=>exact Vw.mono sv λb nb ⟨j,_,z⟩=>nb (sub j b z)
 |ar r p=>exact absurd rfl (u9 _ (gk aL) r p)
theorem cW.pick{dz:List V}{ng:List D}(h:cW K H U 0 (vs.map some) (bu ds))(hl:dz.length=ng.length)(π:Nat->Nat)(inj:∀i j,i < dz.length->j < dz.length->π i=π j->i=j)
  (hv:∀(i:Nat) (x:V),dz[i]?=some x->vs[π i]?=some x) (hd:∀(i:Nat) (x:D),ng[i]?=some x->ds[π i]?=some x):cW K H U 0 (dz.map some) (bu ng):=by
 obtain⟨cG,mu,Fs,dj,sub,sl⟩:=h;refine⟨by unfold bu;rw[dC,dC];exact hl,mu,λi b=>i < dz.length/\Fs (π i) b,λi j b hi hj=>inj i j hi.1 hj.1 (dj _ _ b hi.2 hj.2),λi b hb=>sub _ b hb.2,λi β aL=> ?_⟩;unfold bu at aL;rw[dF]at aL;cases q:ng[i]? with
 |none=>rw[q]at aL;cases aL
 |some x=>
  rw[q]at aL;cases aL;obtain⟨u,hu⟩:=nY hl q;obtain⟨v,ev,sv⟩:=sl (π i) (.own x) (by unfold bu;rw[dF,hd i x q];rfl);rw[dF,hv i u hu]at ev;cases ev;exact⟨u,by rw[dF,hu];rfl,bh.mono sv λb z=>⟨(bB.mp hu).1,z⟩⟩
theorem MH{α:Type}{xs:List α}{x:α}:∀(i:Nat) (y:α),(x::xs)[i]?=some y->(xs++ [x])[if i=0 then xs.length else i - 1]?=some y:=λi y h=>by
 cases i with
 |zero=>simp at h |-;exact h
 |succ i=>
  have h:xs[i]?=some y:=by simpa using h
  rw[if_neg (Nat.succ_ne_zero i),Sl,ba (bB.mp h).1];exact h
theorem cW.WS(h:cW K H U 0 ((vs++ [v]).map some) (bu (ds++ [d]))):cW K H U 0 ((v::vs).map some) (bu (d::ds)):=by
 have hl:vs.length=ds.length:=by have:=h.len;unfold bu at this;simp at this;lia
 refine h.pick (by simp[hl]) (λi=>if i=0 then vs.length else i - 1) (λi j hi hj q=> ?_) MH (by rw[hl];exact MH);rw[fN]at hi hj;by_cases c1:i=0
 ·by_cases c2:j=0
  ·lia
  ·simp only[if_pos c1,if_neg c2]at q;lia
 ·by_cases c2:j=0
  ·simp only[if_neg c1,if_pos c2]at q;lia
  ·simp only[if_neg c1,if_neg c2]at q;lia
theorem WT{t:TS}[S:SS K n t f](h:cq K br (bE n br f) vs H Q X)(hm:br.length<=n):t { nx:=λ_ H'=>Q .aJ H',rt:=Q } (nc n vs) H:=by
 obtain⟨hv,ds,U,d,cZ,hd,ok,vw,hG,k⟩:=h;have l1:=EU n 0 (br:=br) (ds:=ds) hd;have l2:=A3 (br:=br) hv hd;have lE:(cz n br ds).length=n + (bj br ds).length:=by
  unfold cz bu;rw[bQ,bQ,l1,wQ,dC]
  lia
 have sL:(nc n vs).length=n:=by unfold nc;simp;lia
 have I:aw K n H U (nc n vs) ((bj br vs).map some) (cz n br ds) [] []:=by
  obtain⟨ol,mu,Fs,dj,sub,sl⟩:=ok;refine⟨⟨by rw[jz,jz,eW,eW,bQ,sL,lE,dC,l2],mu,λi b=>n<=i/\Fs (i - n) b,λi j b hi hj=>by have:=dj _ _ b hi.2 hj.2;lia,λi b hb=>sub _ b hb.2,λi β aL=> ?_⟩,by rw[sL,dC,l2,lE],sL⟩;rw[jz,eW]at aL;rw[jz,eW];by_cases hi:i < n
  ·have xW:(dq n 0 br ds++gL (n - br.length) none)[i]?=some (some β):=by
    unfold cz at aL;rw[ba (by rw[bQ,l1,wQ];lia)]at aL;exact aL
   by_cases xS:i < br.length
   ·rw[ba (by lia)]at xW;have sv:∀v,vs[i]?=some v->(nc n vs++(bj br vs).map some)[i]?=some (some v):=λv q=>by
     rw[ba (by lia)];unfold nc;rw[ba (by simp;lia),dF,q];rfl
    rcases EV n 0 (vs:=vs) hd hv xW with⟨x,rfl,b,c⟩ | ⟨j',x,rfl,_,c,q⟩
    ·obtain⟨v,MI⟩:=nY (vs:=vs) (by lia) c;exact⟨v,sv v MI,vw i v x b MI c⟩
    ·refine⟨x,sv x q, ?_,x, ?_, .nil x⟩
     ·have:=(bB.mp c).1;rw[lE]
      lia
     ·rw[bI (by lia),sL,dF,show n + j' - n=j' - 0 by lia,c];rfl
   ·rw[bI (by lia),C8]at xW
    split at xW <;> cases xW
  ·have MJ:(bu (bj br ds))[i - n]?=some (some β):=by
    unfold cz at aL;rw[bI (by rw[bQ,l1,wQ];lia)]at aL;rw[bQ,l1,wQ,show br.length + (n - br.length)=n by lia]at aL;exact aL
   obtain⟨v,ev,sv⟩:=sl _ β MJ;refine⟨v,by rw[bI (by lia),sL];exact ev, ?_⟩;cases β with
   |own x=>exact bh.mono sv λb z=>⟨by lia,z⟩
   |ro x=>exact sv
   |ar r p=>exact absurd rfl (ve _ _ (gk MJ) r p)
 have cL:∀{ρ':En} {v:V} {aO:List (Option V)} {H':Hp} {U':Addr->Prop},aw K n H' U' aO ((bj br vs).map some) ρ' [v] [d]->dg (ρ'.drop n)=some cZ->b8 U H U' H'->Q v H':=λ{ρ' v aO H' U'} J ho st=>by
  have eo:=MG ho;have ln:=J.len;have nn:=J.nn;have er:ρ'=ρ'.take n++bu cZ:=by rw[<- eo,aee]
  have EW:=J.ok;have lt:aO.length=(ρ'.take n).length:=by rw[wO];lia
  -- first lP names go,then lP last one comes to lP front
  have EW:cW K H' U' ρ'.length (aO++((bj br vs).map some++ [some v])) (ρ'.take n++(bu cZ++ [some (.own d)])):=by
   rw[<- dt, <- dt, <- er];exact EW
  obtain⟨Ut,su,ot⟩:=EW.tail lt λb hb q p=>by
   rcases iG.mp hb with z | z
   ·exact ve cZ b z q p
   ·rw[cE.mp z];exact λw=>nomatch w
  have WU:cW K H' Ut 0 ((bj br vs++ [v]).map some) (bu (cZ++ [d])):=by
   unfold bu at ot |-;rw[cM,cM];exact ot
  refine k v H' Ut WU.WS λb o q nu=>⟨(st b o q nu).1,λz=>(st b o q nu).2 (su b z)⟩
 unfold bE at hG
 split at hG
 ·next d' ρ' q=>
  obtain⟨o,h1,h2⟩:=aV.mp hG;cases h2;exact S.s I q λv aO H' U' J st=>cL J h1 st
 ·next ρ' q=>
  obtain⟨o,h1,h2⟩:=aV.mp hG;cases h2;refine S.s I q λaO H' U' J st=> ?_;obtain⟨U2,J2,b5⟩:=J.push (aM.refl H') (eI.sc (K:=K) .aJ);exact cL J2 h1 (st.trans b5)
 ·cases hG
end
end VL
namespace VL
open PySem L2
section
theorem aw.WV(I:aw K n H U σ hv Z τv τd):cW K H U Z.length (σ++hv++τv.map some) (Z++bu τd):=I.ok
theorem aw.lend(I:aw K n H U σ hv Z τv τd)(w:hJ K H U (σ++hv) Z v (.rt r p))(hr:ak Z r=some d0)(hg:ag d0 p=some d1):
  aw K n H U σ hv (Z.set r (some (.own (aG d0 p (.hl v))))) (τv++ [v]) (τd++ [d1]):=by
 have l:=I.len;have tl:=I.tl;obtain⟨jo,vr,WD,er,mI,_,hp⟩:=w;rw[hr]at mI;cases mI;refine⟨?_,by rw[bZ];exact l,I.nn⟩;have k:=I.WV.take (r:=r) (p:=p) (vr:=vr) (u:=v) (by simp;lia) (by rw[ba jo];exact lV hr) (by rw[ba (by simp;lia)];exact er) hp hg;rw[bZ,cM,cM, <- dt, <- dt];rw[sf _ _ jo]at k;exact k
theorem aw.back(I:aw K n H U σ hv Z (τv++ [v]) (τd++ [d]))(hr:ak Z r=some d0)(hg:ag d0 p=some (.hl v)):aw K n H U σ hv (Z.set r (some (.own (aG d0 p d)))) τv τd:=by
 have l:=I.len;have tl:=I.tl;have tl:τv.length=τd.length:=by simp at tl;lia
 have vb:=lV hr;have jo:r < Z.length:=(bB.mp vb).1;have ok:=I.ok;rw[cM,cM, <- dt, <- dt]at ok;have k:=ok.put (r:=r) (p:=p) (d0:=d0) (by simp;lia) (by simp;lia) (by rw[ba jo];exact vb) hg;rw[sf _ _ jo]at k;exact⟨by rw[bZ];exact k,by rw[bZ];exact l,I.nn⟩
theorem aw.pick(I:aw K n H U σ hv Z (τv++vs) (τd++ds))(hl:vs.length=ds.length)(h2:dz.length=ng.length)(π:Nat->Nat)(inj:∀i j,i < dz.length->j < dz.length->π i=π j->i=j)
  (i6:∀(i:Nat) (x:V),dz[i]?=some x->vs[π i]?=some x) (mE:∀(i:Nat) (x:D),ng[i]?=some x->ds[π i]?=some x):aw K n H U σ hv Z (τv++dz) (τd++ng):=by
 have l:=I.len;have tl:=I.tl;have tl:τv.length=τd.length:=by simp at tl;lia
 obtain⟨he,mu,Fs,dj,sub,sl⟩:=I.ok;have base:(σ++hv++τv.map some).length=Z.length + τd.length:=by simp;lia
 refine⟨⟨by simp;lia,mu,λi b=>if i < Z.length + τd.length then Fs i b else i < Z.length + τd.length + dz.length/\Fs (Z.length + τd.length + π (i - (Z.length + τd.length))) b,λi j b hi hj=> ?_,λi b hb=> ?_,λi β aL=> ?_⟩,l,I.nn⟩
 ·have hi:if i < Z.length + τd.length then Fs i b else i < Z.length + τd.length + dz.length/\Fs (Z.length + τd.length + π (i - (Z.length + τd.length))) b:=hi;have hj:if j < Z.length + τd.length then Fs j b else j < Z.length + τd.length + dz.length/\Fs (Z.length + τd.length + π (j - (Z.length + τd.length))) b:=hj;by_cases ci:i < Z.length + τd.length
  ·rw[if_pos ci]at hi;by_cases cj:j < Z.length + τd.length
   ·rw[if_pos cj]at hj;exact dj i j b hi hj
   ·rw[if_neg cj]at hj;have:=dj _ _ b hi hj.2;lia
  ·rw[if_neg ci]at hi;by_cases cj:j < Z.length + τd.length
   ·rw[if_pos cj]at hj;have:=dj _ _ b hi.2 hj;lia
   ·rw[if_neg cj]at hj;have:=dj _ _ b hi.2 hj.2;have:=inj (i - (Z.length + τd.length)) (j - (Z.length + τd.length)) (by lia) (by lia) (by lia)
    lia
 ·have hb:if i < Z.length + τd.length then Fs i b else i < Z.length + τd.length + dz.length/\Fs (Z.length + τd.length + π (i - (Z.length + τd.length))) b:=hb;by_cases ci:i < Z.length + τd.length
  ·rw[if_pos ci]at hb;exact sub _ b hb
  ·rw[if_neg ci]at hb;exact sub _ b hb.2
 ·have e0:∀(zs:List V) (j:Nat),j < Z.length + τd.length->(σ++hv++(τv++zs).map some)[j]?=(σ++hv++τv.map some)[j]?:=λzs j hj=>by
   rw[cM, <- dt,ba (by lia)]
  have lR:(Z++τd.map λd=>some (B.own d)).length=Z.length + τd.length:=by simp
  by_cases hi:i < Z.length + τd.length
  ·have g1:(Z++(τd++ds).map λd=>some (B.own d))[i]?=some (some β):=by
    rw[cM, <- dt,ba (by lia)]at aL |-;exact aL
   obtain⟨v,ev,sv⟩:=sl i β g1;refine⟨v,by rw[e0 dz i hi];rw[e0 vs i hi]at ev;exact ev, ?_⟩;have sv:=m7.slots sv (e':=σ++hv++(τv++dz).map some) λr hr=>by rw[e0 dz r (by lia),e0 vs r (by lia)]
   cases β with
   |own x=>
    show bh K H (λb=>if i < Z.length + τd.length then Fs i b else _) v x;simp only[if_pos hi];exact sv
   |ro x=>exact sv
   |ar r p=>exact sv
  ·have g0:(ng.map λd=>some (B.own d))[i - (Z.length + τd.length)]?=some (some β):=by
    rw[cM, <- dt,bI (by lia),lR]at aL;exact aL
   rw[dF]at g0;cases q:ng[i - (Z.length + τd.length)]? with
   |none=>rw[q]at g0;cases g0
   |some x=>
    rw[q]at g0;cases g0;obtain⟨u,hu⟩:=nY h2 q;have g1:(Z++(τd++ds).map λd=>some (B.own d))[Z.length + τd.length + π (i - (Z.length + τd.length))]?=some (some (.own x)):=by
     rw[cM, <- dt,bI (by lia),lR,JI,dF,mE _ x q];rfl
    obtain⟨v,ev,sv⟩:=sl _ _ g1;rw[cM, <- dt,bI (by lia),base,JI,dF,i6 _ u hu]at ev;cases ev;have jQ:i - (Z.length + τd.length) < dz.length:=(bB.mp hu).1;refine⟨u,by rw[cM, <- dt,bI (by lia),base,dF,hu];rfl, ?_⟩;show bh K H (λb=>if i < Z.length + τd.length then _ else i < Z.length + τd.length + dz.length/\Fs (Z.length + τd.length + π (i - (Z.length + τd.length))) b) u x;simp only[if_neg hi];exact bh.mono sv λb z=>⟨by lia,z⟩
theorem aw.WX(I:aw K n H U σ hv Z (τv++ws++vs) (τd++wd++ds))(hl:ws.length=wd.length)(h2:vs.length=ds.length):aw K n H U σ hv Z (τv++vs) (τd++ds):=by
 rw[dt,dt]at I;exact I.pick (by simp;lia) h2 (λi=>ws.length + i) (λi j _ _ h=>by lia) (λi x h=>by rw[bI (by lia),JI];exact h) (λi x h=>by rw[hl,bI (by lia),JI];exact h)
theorem MK{α:Type}{xs:List α}{x:α}:∀(i:Nat) (y:α),(xs++ [x])[i]?=some y->(x::xs)[if i=xs.length then 0 else i + 1]?=some y:=λi y h=>by
 by_cases c:i=xs.length
 ·subst c;simp at h |-;exact h
 ·have hi:i < xs.length:=by
   have:=(bB.mp h).1;simp at this;lia
  rw[ba hi]at h;rw[if_neg c];simpa using h
theorem aw.ML(I:aw K n H U σ hv Z (τv++(v::vs)) (τd++(d::ds)))(hl:vs.length=ds.length):aw K n H U σ hv Z (τv++vs++ [v]) (τd++ds++ [d]):=by
 rw[dt,dt];refine I.pick (by simp;exact hl) (by simp;exact hl) (λi=>if i=vs.length then 0 else i + 1) (λi j hi hj h=> ?_) MK (by rw[hl];exact MK);by_cases c1:i=vs.length
 ·by_cases c2:j=vs.length
  ·lia
  ·simp only[if_pos c1,if_neg c2]at h;lia
 ·by_cases c2:j=vs.length
  ·simp only[if_neg c1,if_pos c2]at h;lia
  ·simp only[if_neg c1,if_neg c2]at h;lia
structure Io where
 r:Nat
 p:List Nat
def bU:En->List Io->List V->En
 |Z,io::L,v::vs=>match ak Z io.r with
  |some d0=>bU (Z.set io.r (some (.own (aG d0 io.p (.hl v))))) L vs
  |none=>Z
 |Z,_,_=>Z
def mJ:En->List Io->Option (List D)
 |_, []=>some []
 |Z,io::L=>(ak Z io.r).bind λd0=>(ag d0 io.p).bind λd1=>(mJ Z L).map (d1:: ·)
def dD(ρ0:En):En->List Io->List D->En
 |Z,io::L,o::os=>match ak ρ0 io.r with
  |some d0=>dD ρ0 (Z.set io.r (some (.own (aG d0 io.p o)))) L os
  |none=>Z
 |Z,_,_=>Z
def dh(L:List Io):Prop:=L.Pairwise λa b=>a.r≠b.r
instance (L:List Io):Decidable (dh L):=inferInstanceAs (Decidable (L.Pairwise _))
theorem aw.MN:∀{L:List Io} {Z:En} {τv:List V} {τd:List D} {vs:List V} {ds:List D},aw K n H U σ hv Z τv τd->dh L->mJ Z L=some ds->vs.length=L.length->(∀(i:Nat) (io:Io) (v:V),L[i]?=some io->vs[i]?=some v->hJ K H U (σ++hv) Z v (.rt io.r io.p))->
  aw K n H U σ hv (bU Z L vs) (τv++vs) (τd++ds)
 | [],Z,τv,τd,vs,ds,I,_,h,hl,_=>by
  cases h;have:vs= []:=wY hl;subst this;rw[eW,eW];simp only[bU];exact I
 |io::L,Z,τv,τd, [],ds,I,_,h,hl,_=>by cases hl
 |io::L,Z,τv,τd,v::vs,ds,I,ha,h,hl,hp=>by
  rw[mJ]at h;obtain⟨d0,h1,h⟩:=ae.mp h;obtain⟨d1,h2,h⟩:=ae.mp h;obtain⟨ng,h3,h⟩:=aV.mp h;subst h;have ap:=Dg.mp ha;have I1:=I.lend (hp 0 io v rfl rfl) h1 h2;have MO:∀j∈L,ak (Z.set io.r (some (.own (aG d0 io.p (.hl v))))) j.r=ak Z j.r:=λj hj=>qm (ap.1 j hj);have WY:∀(M:List Io) (hM:∀j∈M,j∈L) (ds:List D),mJ Z M=some ds->mJ (Z.set io.r (some (.own (aG d0 io.p (.hl v))))) M=some ds:=by
   intro M
   induction M with
   |nil=>intro _ ds h;exact h
   |cons j M ih=>
    intro hM ds h;rw[mJ]at h |-;rw[MO j (hM j (.head _))];obtain⟨a,x1,h⟩:=ae.mp h;obtain⟨b,x2,h⟩:=ae.mp h;obtain⟨c,x3,h⟩:=aV.mp h;rw[x1];show(ag a j.p).bind _=_;rw[x2];show(mJ _ M).map _=_;rw[ih (λk hk=>hM k (.tail _ hk)) c x3];exact congrArg some h
  have I2:=I1.MN ap.2 (WY L (λj hj=>hj) ng h3) (vs:=vs) (gm hl) λi j u hj hu=>by
   obtain⟨q1,vr,dd,q2,q3,q4,q5⟩:=hp (i + 1) j u (by simpa using hj) (by simpa using hu);exact⟨by rw[bZ];exact q1,vr,dd,q2,by rw[MO j (gk hj)];exact q3,q4,q5⟩
  rw[bU,h1];rw[oU,oU τd];exact I2
def rF(ρ1 aD:En):Prop:=∀s q,((ak ρ1 s).bind (ag · q)).isSome=((ak aD s).bind (ag · q)).isSome
theorem WZ(h:rF ρ1 aD)(b:Option B):eg ρ1 b=eg aD b:=by
 cases b with
 |none=>rfl
 |some c=>
  cases c with
  |own d=>rfl
  |ro d=>rfl
  |ar r p=>
   show(if p= []\/((ak ρ1 r).bind (ag · p)).isSome=true then some (B.ar r p) else none)=(if p= []\/((ak aD r).bind (ag · p)).isSome=true then some (B.ar r p) else none);rw[h r p]
theorem rF.hole{d0 e0 d1 e1 x y:D}(h:rF ρ1 aD)(l1:r < ρ1.length)(l2:r < aD.length)(g:∀q,(ag (aG d0 p x) q).isSome=(ag (aG e0 p y) q).isSome):rF (ρ1.set r (some (.own (aG d0 p x)))) (aD.set r (some (.own (aG e0 p y)))):=λs q=>by
 by_cases c:r=s
 ·subst c;rw[AY l1,AY l2];exact g q
 ·rw[qm c,qm c];exact h s q
theorem tJ:∀(Z:En) (L:List Io) (vs:List V),(bU Z L vs).length=Z.length
 |Z, [],vs=>by simp[bU]
 |Z,io::L, []=>by simp[bU]
 |Z,io::L,v::vs=>by
  rw[bU];cases ak Z io.r with
  |none=>rfl
  |some d0=>show(bU _ L vs).length=_;rw[tJ,bZ]
theorem W2(h:ρ1[s]?=aD[s]?):ak ρ1 s=ak aD s:=by unfold ak;rw[h]
theorem MP:∀{L:List Io} {ρ1 aD:En} {vs us:List V},dh L->rF ρ1 aD->ρ1.length=aD.length->(∀io∈L,∃d0 d1,ak ρ1 io.r=some d0/\ak aD io.r=some d0/\ag d0 io.p=some d1)->vs.length=L.length->us.length=L.length->rF (bU ρ1 L vs) (bU aD L us)
 | [],ρ1,aD,vs,us,_,h,_,_,_,_=>by simp only[bU];exact h
 |io::L,ρ1,aD, [],us,_,_,_,_,h,_=>by cases h
 |io::L,ρ1,aD,_, [],_,_,_,_,_,h=>by cases h
 |io::L,ρ1,aD,v::vs,u::us,ha,h,hl,hr,l1,l2=>by
  obtain⟨d0,d1,q1,q2,q3⟩:=hr io (.head _);have ap:=Dg.mp ha;have r1:io.r < ρ1.length:=(bB.mp (lV q1)).1;rw[bU,bU,q1,q2];refine MP ap.2 (h.hole (d1:=d1) (e1:=d1) r1 (by lia) λq=>EJ q3 rfl rfl (λ_ _=>by rw[ag]) λ_ _=>by rw[ag]) (by rw[bZ,bZ];exact hl) (λj hj=> ?_) (gm l1) (gm l2);obtain⟨e0,e1,x1,x2,x3⟩:=hr j (.tail _ hj);exact⟨e0,e1,by rw[qm (ap.1 j hj)];exact x1,by rw[qm (ap.1 j hj)];exact x2,x3⟩
theorem EX:∀{L:List Io} {Z:En} {ds:List D},mJ Z L=some ds->∀io∈L,∃d0 d1,ak Z io.r=some d0/\ag d0 io.p=some d1
 |io::L,Z,ds,h,j,hj=>by
  rw[mJ]at h;obtain⟨d0,h1,h⟩:=ae.mp h;obtain⟨d1,h2,h⟩:=ae.mp h;obtain⟨ng,h3,h⟩:=aV.mp h;cases hj with
  |head=>exact⟨d0,d1,h1,h2⟩
  |tail _ hj=>exact EX h3 j hj
theorem W3(ha:dh L)(h:mJ Z L=some ds)(l1:vs.length=L.length)(l2:us.length=L.length):rF (bU Z L vs) (bU Z L us):=
 MP ha (λ_ _=>rfl) rfl (λio qp=>let ⟨d0,d1,a,b⟩:=EX h io qp;⟨d0,d1,a,a,b⟩) l1 l2
theorem A4:∀{L:List Io} {Z:En} {vs:List V} {s:Nat},(∀io∈L,io.r≠s)->(bU Z L vs)[s]?=Z[s]?
 | [],Z,vs,s,_=>by simp only[bU]
 |io::L,Z, [],s,_=>by simp only[bU]
 |io::L,Z,v::vs,s,h=>by
  rw[bU];cases ak Z io.r with
  |none=>rfl
  |some d0=>
   show(bU _ L vs)[s]?=_;rw[A4 λj hj=>h j (.tail _ hj),fq (h io (.head _))]
theorem EY:∀{L:List Io} {Z:En} {vs:List V} {i:Nat} {io:Io} {d0:D},dh L->vs.length=L.length->L[i]?=some io->ak Z io.r=some d0->(∀j∈L,∃e,ak Z j.r=some e)->∃v,vs[i]?=some v/\ak (bU Z L vs) io.r=some (aG d0 io.p (.hl v))
 | [],Z,vs,i,io,d0,_,_,h,_,_=>by simp at h
 |j::L,Z, [],i,io,d0,_,h,_,_,_=>by cases h
 |j::L,Z,v::vs,0,io,d0,ha,hl,h,hr,al=>by
  cases h;have ap:=Dg.mp ha;have jo:j.r < Z.length:=(bB.mp (lV hr)).1;refine⟨v,rfl, ?_⟩;rw[bU,hr];show ak (bU _ L vs) j.r=_;rw[W2 (A4 λk hk=>(ap.1 k hk).symm),AY jo]
 |j::L,Z,v::vs,i + 1,io,d0,ha,hl,h,hr,al=>by
  have ap:=Dg.mp ha;have h:L[i]?=some io:=by simpa using h
  obtain⟨e,he⟩:=al j (.head _);have ne:=ap.1 io (gk h);rw[bU,he];obtain⟨u,hu,q⟩:=EY (Z:=Z.set j.r (some (.own (aG e j.p (.hl v))))) ap.2 (gm hl) h (d0:=d0) (by rw[qm ne];exact hr) λk hk=>by
   obtain⟨x,hx⟩:=al k (.tail _ hk);exact⟨x,by rw[qm (ap.1 k hk)];exact hx⟩
  exact⟨u,by simpa using hu,q⟩
end
end VL
namespace VL
open PySem L2
section
inductive Ar where
 |io (i:Io) | tm (d:D) | rv (q:Pl) (d:D)
inductive j7(K:ah)(H:Hp)(U:Addr->Prop)(e:List (Option V))(Z:En):List Bool->List V->List Ar->List V->List D->Prop
 |nil:j7 K H U e Z [] [] [] [] []
 |io {m:List Bool} {v:V} {i:Io} {vs:List V} {as:List Ar} {ws:List V} {wd:List D}:hJ K H U e Z v (.rt i.r i.p)->j7 K H U e Z m vs as ws wd->j7 K H U e Z (true::m) (v::vs) (.io i::as) ws wd
 |tm {m:List Bool} {v:V} {d:D} {vs:List V} {as:List Ar} {ws:List V} {wd:List D}:j7 K H U e Z m vs as ws wd->j7 K H U e Z (false::m) (v::vs) (.tm d::as) (v::ws) (d::wd)
 |rv {m:List Bool} {v:V} {q:Pl} {d:D} {vs:List V} {as:List Ar} {ws:List V} {wd:List D}:hJ K H U e Z v q->dw Z q=some d->j7 K H U e Z m vs as ws wd->j7 K H U e Z (false::m) (v::vs) (.rv q d::as) ws wd
class qr(K:ah)(n:Nat)(br:List Bool)(t:TA)(f:outParam (En->Option (List Ar))):Prop where
 s:∀{σ hv:List (Option V)} {H:Hp} {U:Addr->Prop} {Z:En} {τv:List V} {τd:List D} {as:List Ar} {Q:List V->Hp->Prop},aw K n H U σ hv Z τv τd->f Z=some as->
  (∀vs ws wd H' U',aw K n H' U' σ hv Z (τv++ws) (τd++wd)->ws.length=wd.length->b8 U H U' H'->aM H H'->j7 K H' U' (σ++hv) Z br vs as ws wd->Q vs H')->t σ H Q
class SC(K:ah)(n:Nat)(br:List Bool)(t:TA)(f:outParam (En->Option (List Ar×En))):Prop where
 s:∀{σ hv:List (Option V)} {H:Hp} {U:Addr->Prop} {Z ρ':En} {τv:List V} {τd:List D} {as:List Ar} {Q:List V->Hp->Prop},aw K n H U σ hv Z τv τd->f Z=some (as,ρ')->
  (∀vs ws wd H' U',aw K n H' U' σ hv ρ' (τv++ws) (τd++wd)->ws.length=wd.length->b8 U H U' H'->j7 K H' U' (σ++hv) ρ' br vs as ws wd->Q vs H')->t σ H Q
theorem hJ.step(h:hJ K H U e Z v q)(s:aM H H')(st:b8 U H U' H'):hJ K H' U' e Z v q:=by
 cases q with
 |ro d=>
  have h:Vw K H (λb=>¬ U b) v d:=h;exact h.over (λb o nb q=>st b o q nb) (gO.of s)
 |rt r p=>
  obtain⟨a,vr,d,b,c,e,f⟩:=h;exact⟨a,vr,d,b,c,e,f.same s⟩
instance afB:qr K n [] g7 (λ_=>some []):=⟨λ{σ hv H U Z τv τd as Q} I h k=>by
 cases h;exact k [] [] [] H U (by rw[eW,eW];exact I) rfl (b8.refl U H) (aM.refl H) .nil⟩
def bJ(fp:En->Option Pl)(fr:En->Option (List Ar))(Z:En):Option (List Ar):=(fp Z).bind λ
 |.rt r p=>(fr Z).map (.io ⟨r,p⟩:: ·)
 |.ro _=>none
instance afC[P:SP K n te fp][R:qr K n m tr fr]:qr K n (true::m) (eJ te tr) (bJ fp fr):=⟨λ{σ hv H U Z τv τd as Q} I h k=>by
 obtain⟨q,h1,h⟩:=ae.mp h;cases q with
 |ro _=>cases h
 |rt r p=>
  obtain⟨rG,h2,h⟩:=aV.mp h;subst h;refine P.s I h1 λv H1 s1 w1=> ?_;have hZ:b8 U H U H1:=λb o q nu=>⟨s1 b o q,nu⟩
  refine R.s (I.same s1) h2 λvs ws wd H2 U2 I2 hl b5 s2 ao=> ?_;exact k (v::vs) ws wd H2 U2 I2 hl (hZ.trans b5) (s1.trans s2) (.io (w1.step s2 b5) ao)⟩
def dH(fe:En->Option D)(fr:En->Option (List Ar))(Z:En):Option (List Ar):=(fe Z).bind λd=>(fr Z).map (.tm d:: ·)
instance (priority:=200) afD{m:List Bool}{te:TE}{tr:TA}{fe:En->Option D}{fr:En->Option (List Ar)}[A:SQ K n te fe][R:qr K n m tr fr]:qr K n (false::m) (eJ te tr) (dH fe fr):=⟨λ{σ hv H U Z τv τd as Q} I h k=>by
 obtain⟨d,h1,h⟩:=ae.mp h;obtain⟨rG,h2,h⟩:=aV.mp h;subst h;refine SQ.s (f:=fe) I h1 λv H1 U1 I1 bC s1=> ?_;refine R.s I1 h2 λvs ws wd H2 U2 I2 hl b5 s2 ao=> ?_;refine k (v::vs) (v::ws) (d::wd) H2 U2 ?_ (by rw[fN,fN,hl]) (bC.trans b5) (s1.trans s2) (.tm ao);rw[oU,oU τd];exact I2⟩
def jd(fp:En->Option Pl)(fr:En->Option (List Ar))(Z:En):Option (List Ar):=(fp Z).bind λq=>(dw Z q).bind λd=>if plain d=true then(fr Z).map (.tm d:: ·) else(fr Z).map (.rv q d:: ·)
instance (priority:=300) afE{m:List Bool}{te:TE}{tr:TA}{fp:En->Option Pl}{fr:En->Option (List Ar)}[P:SP K n te fp][R:qr K n m tr fr]:qr K n (false::m) (eJ te tr) (jd fp fr):=⟨λ{σ hv H U Z τv τd as Q} I h k=>by
 obtain⟨q,h1,h⟩:=ae.mp h;obtain⟨d,h2,h⟩:=ae.mp h;refine P.s I h1 λv H1 s1 w1=> ?_;have I1:=I.same s1;have hZ:b8 U H U H1:=λb o q nu=>⟨s1 b o q,nu⟩
 by_cases p:plain d=true
 ·rw[if_pos p]at h;obtain⟨rG,h3,h⟩:=aV.mp h;subst h;obtain⟨U1,EZ,bC⟩:=I1.push (aM.refl H1) (eI.plain (I1.at w1 h2) p);refine R.s EZ h3 λvs ws wd H2 U2 I2 hl b5 s2 ao=> ?_;refine k (v::vs) (v::ws) (d::wd) H2 U2 ?_ (by rw[fN,fN,hl]) (hZ.trans (bC.trans b5)) (s1.trans s2) (.tm ao);rw[oU,oU τd];exact I2
 ·rw[if_neg p]at h;obtain⟨rG,h3,h⟩:=aV.mp h;subst h;refine R.s I1 h3 λvs ws wd H2 U2 I2 hl b5 s2 ao=> ?_;exact k (v::vs) ws wd H2 U2 I2 hl (hZ.trans b5) (s1.trans s2) (.rv (w1.step s2 b5) h2 ao)⟩
instance (priority:=1000) afF{br:List Bool}{t:TA}{f:En->Option (List Ar)}[S:qr K n br t f]:SC K n br t (λZ=>(f Z).map λa=>(a,Z)):=⟨λ{σ hv H U Z ρ' τv τd as Q} I h k=>by
 obtain⟨rG,h1,h2⟩:=aV.mp h;cases h2;exact S.s I h1 λvs ws wd H' U' I' hl st s ao=>k vs ws wd H' U' I' hl st ao⟩
def eT(fe:En->Option (D×En))(fr:En->Option (List Ar×En))(Z:En):Option (List Ar×En):=(fe Z).bind λa=>(fr a.2).map λr=>(.tm a.1::r.1,r.2)
instance (priority:=200) afG{m:List Bool}{te:TE}{tr:TA}{fe:En->Option (D×En)}{fr:En->Option (List Ar×En)}[A:SM K n te fe][R:SC K n m tr fr]:SC K n (false::m) (eJ te tr) (eT fe fr):=⟨λ{σ hv H U Z ρ' τv τd as Q} I h k=>by
 obtain⟨⟨d,ρ1⟩,h1,h⟩:=ae.mp h;obtain⟨⟨rG,aD⟩,h2,h⟩:=aV.mp h;cases h;refine A.s I h1 λv H1 U1 I1 bC=> ?_;refine R.s I1 h2 λvs ws wd H2 U2 I2 hl b5 ao=> ?_;refine k (v::vs) (v::ws) (d::wd) H2 U2 ?_ (by rw[fN,fN,hl]) (bC.trans b5) (.tm ao);rw[oU,oU τd];exact I2⟩
def ja(fp:En->Option Pl)(fr:En->Option (List Ar×En))(Z:En):Option (List Ar×En):=(fp Z).bind λ
 |.rt r p=>if p= [] then(fr Z).bind λa=>if(ak a.2 r).isSome=true then some (.io ⟨r, []⟩::a.1,a.2) else none else none
 |.ro _=>none
instance (priority:=200) afH{m:List Bool}{te:TE}{tr:TA}{fp:En->Option Pl}{fr:En->Option (List Ar×En)}[P:SP K n te fp][R:SC K n m tr fr]:SC K n (true::m) (eJ te tr) (ja fp fr):=⟨λ{σ hv H U Z ρ' τv τd as Q} I h k=>by
 obtain⟨q,h1,h⟩:=ae.mp h;cases q with
 |ro _=>cases h
 |rt r p=>
  have h:(if p= [] then(fr Z).bind λa=>if(ak a.2 r).isSome=true then some (Ar.io ⟨r, []⟩::a.1,a.2) else none else none)=some (as,ρ'):=h;by_cases cp:p= []
  ·rw[if_pos cp]at h;subst cp;obtain⟨⟨rG,aD⟩,h2,h⟩:=ae.mp h;by_cases cr:(ak aD r).isSome=true
   ·have h:(if(ak aD r).isSome=true then some (Ar.io ⟨r, []⟩::rG,aD) else none)=some (as,ρ'):=h;rw[if_pos cr]at h;cases h;obtain⟨d',hd⟩:=R7.mp cr;refine P.s I h1 λv H1 s1 w1=> ?_;have hZ:b8 U H U H1:=λb o q nu=>⟨s1 b o q,nu⟩
    refine R.s (I.same s1) h2 λvs ws wd H2 U2 I2 hl b5 ao=> ?_;exact k (v::vs) ws wd H2 U2 I2 hl (hZ.trans b5) (.io (w1.root hd) ao)
   ·have h:(if(ak aD r).isSome=true then some (Ar.io ⟨r, []⟩::rG,aD) else none)=some (as,ρ'):=h;rw[if_neg cr]at h;cases h
  ·rw[if_neg cp]at h;cases h⟩
def bM:List Ar->List Io
 | []=> []
 |.io i::r=>i::bM r
 |.tm _::r=>bM r
 |.rv _ _::r=>bM r
def fQ(Z:En):Ar->Option D
 |.io i=>(ak Z i.r).bind (ag · i.p)
 |.tm d=>some d
 |.rv _ d=>some d
def d5(Z:En):List Ar->Option (List D)
 | []=>some []
 |a::r=>(fQ Z a).bind λd=>(d5 Z r).map (d:: ·)
def e9:List Nat->List Nat->Bool
 |a::p,b::q=> !decide (a=b) || e9 p q
 |_,_=>false
def dS(L:List Io):Ar->Bool
 |.rv (.rt r p) _=>L.all λi=> !decide (i.r=r) || e9 i.p p
 |_=>true
theorem MQ:∀{p q:List Nat} {d d1 x:D},e9 p q=true->ag d p=some d1->plain x=false->ag (aG d p x) q=ag d q
 | [],_,_,_,_,h,_,_=>by simp[e9]at h
 |_::_, [],_,_,_,h,_,_=>by simp[e9]at h
 |a::p,b::q, .sc _,d1,x,h,g,hx=>by rw[ag]at g;cases g
 |a::p,b::q, .hl _,d1,x,h,g,hx=>by rw[ag]at g;cases g
 |a::p,b::q, .nd k cs,d1,x,h,g,hx=>by
  rw[ag]at g;by_cases df:cT k=true/\bf cs=true
  ·rw[if_pos df]at g;cases g
  rw[if_neg df]at g;cases hc:cs[a]? with
  |none=>rw[hc]at g;cases g
  |some c=>
   rw[hc]at g;have hn:=(bB.mp hc).1;have e1:aG (.nd k cs) (a::p) x= .nd k (cs.set a (aG c p x)):=by rw[aG,hc]
   have px:=vc hn (vd g hx);rw[e1,ag,ag,if_neg (by rintro⟨_,z⟩;rw[px]at z;cases z),if_neg df];by_cases e:a=b
   ·subst e;rw[dr hn,hc];have h:e9 p q=true:=by simpa[e9]using h
    exact MQ h g hx
   ·rw[fq e]
def dO(Z:En)(L:List Io)(cZ:List D):En:=dD Z (bx (bU Z L (L.map λ_=>V.aJ))) L cZ
theorem j7.len(h:j7 K H U e Z m vs as ws wd):vs.length=m.length/\as.length=m.length/\ws.length=wd.length:=by
 induction h with
 |nil=>exact⟨rfl,rfl,rfl⟩
 |io _ _ ih=>exact⟨congrArg _ ih.1,congrArg _ ih.2.1,ih.2.2⟩
 |tm _ ih=>exact⟨congrArg _ ih.1,congrArg _ ih.2.1,congrArg _ ih.2.2⟩
 |rv _ _ _ ih=>exact⟨congrArg _ ih.1,congrArg _ ih.2.1,ih.2.2⟩
theorem j7.W4(h:j7 K H U e Z m vs as ws wd):(bj m vs).length=(bM as).length/\∀(i:Nat) (io:Io) (v:V),(bM as)[i]?=some io->(bj m vs)[i]?=some v->hJ K H U e Z v (.rt io.r io.p):=by
 induction h with
 |nil=>exact⟨rfl,λi io v h=>by simp[bM]at h⟩
 | @io m v i vs as ws wd p _ ih=>
  refine⟨by rw[bj,bM,fN,fN,ih.1],λj io u h1 h2=> ?_⟩;rw[bM]at h1;rw[bj]at h2;cases j with
  |zero=>cases h1;cases h2;exact p
  |succ j=>exact ih.2 j io u (by simpa using h1) (by simpa using h2)
 |tm _ ih=>rw[bj,bM];exact ih
 |rv _ _ _ ih=>rw[bj,bM];exact ih
theorem j7.MR(h:j7 K H U e Z m vs as ws wd):∀{ds:List D},d5 Z as=some ds->ds.length=m.length/\mJ Z (bM as)=some (bj m ds):=by
 induction h with
 |nil=>intro ds q;cases q;exact⟨rfl,rfl⟩
 | @io m v i vs as ws wd p _ ih=>
  intro ds q;rw[d5]at q;obtain⟨x,q1,q⟩:=ae.mp q;obtain⟨r,q2,q⟩:=aV.mp q;subst q;obtain⟨l1,l2⟩:=ih q2;refine⟨congrArg _ l1, ?_⟩;obtain⟨d0,x1,x2⟩:=ae.mp q1;rw[bM,mJ,bj,x1];show(ag d0 i.p).bind _=_;rw[x2];show(mJ Z (bM as)).map _=_;rw[l2];rfl
 |tm _ ih=>
  intro ds q;rw[d5]at q;obtain⟨x,q1,q⟩:=ae.mp q;obtain⟨r,q2,q⟩:=aV.mp q;subst q;obtain⟨l1,l2⟩:=ih q2;exact⟨congrArg _ l1,l2⟩
 |rv _ _ _ ih=>
  intro ds q;rw[d5]at q;obtain⟨x,q1,q⟩:=ae.mp q;obtain⟨r,q2,q⟩:=aV.mp q;subst q;obtain⟨l1,l2⟩:=ih q2;exact⟨congrArg _ l1,l2⟩
theorem j7.seen(h:j7 K H U e Z m vs as ws wd):∀{ds:List D},d5 Z as=some ds->(∀(i:Nat) (w:V) (d:D),ws[i]?=some w->wd[i]?=some d->Vw K H N w d)->
  (∀q d v,hJ K H U e Z v q->dw Z q=some d->Ar.rv q d∈as->Vw K H N v d)->∀(i:Nat) (v:V) (d:D),m[i]?=some false->vs[i]?=some v->ds[i]?=some d->Vw K H N v d:=by
 induction h with
 |nil=>intro ds q _ _ i v d h;simp at h
 |io _ _ ih=>
  intro ds q hw hs i v d h1 h2 h3;rw[d5]at q;obtain⟨x,q1,q⟩:=ae.mp q;obtain⟨r,q2,q⟩:=aV.mp q;subst q;cases i with
  |zero=>cases h1
  |succ i=>exact ih q2 hw (λq d v a b c=>hs q d v a b (.tail _ c)) i v d (by simpa using h1) (by simpa using h2) (by simpa using h3)
 |tm _ ih=>
  intro ds q hw hs i v d h1 h2 h3;rw[d5]at q;obtain⟨x,q1,q⟩:=ae.mp q;obtain⟨r,q2,q⟩:=aV.mp q;subst q;cases q1;cases i with
  |zero=>cases h2;cases h3;exact hw 0 _ _ rfl rfl
  |succ i=>exact ih q2 (λi w d a b=>hw (i + 1) w d (by simpa using a) (by simpa using b)) (λq d v a b c=>hs q d v a b (.tail _ c)) i v d (by simpa using h1) (by simpa using h2) (by simpa using h3)
 |rv p1 p2 _ ih=>
  intro ds q hw hs i v d h1 h2 h3;rw[d5]at q;obtain⟨x,q1,q⟩:=ae.mp q;obtain⟨r,q2,q⟩:=aV.mp q;subst q;cases q1;cases i with
  |zero=>cases h2;cases h3;exact hs _ _ _ p1 p2 (.head _)
  |succ i=>exact ih q2 hw (λq d v a b c=>hs q d v a b (.tail _ c)) i v d (by simpa using h1) (by simpa using h2) (by simpa using h3)
theorem aw.MT(ρ0:En):∀{L:List Io} {Z:En} {vs:List V} {cZ:List D},aw K n H U σ hv Z (τv++vs) (τd++cZ)->dh L->vs.length=L.length->cZ.length=L.length->
  (∀(i:Nat) (io:Io) (v:V),L[i]?=some io->vs[i]?=some v->∃d0 d1,ak ρ0 io.r=some d0/\ag d0 io.p=some d1/\ak Z io.r=some (aG d0 io.p (.hl v)))->aw K n H U σ hv (dD ρ0 Z L cZ) τv τd
 | [],Z,vs,cZ,I,_,h1,h2,_=>by
  have e1:vs= []:=wY h1;have e2:cZ= []:=wY h2;subst e1;subst e2;rw[eW,eW]at I;simp only[dD];exact I
 |io::L,Z, [],cZ,I,_,h1,h2,_=>by cases h1
 |io::L,Z,v::vs, [],I,_,h1,h2,_=>by cases h2
 |io::L,Z,v::vs,o::cZ,I,ha,h1,h2,hq=>by
  have ap:=Dg.mp ha;obtain⟨d0,d1,q1,q2,q3⟩:=hq 0 io v rfl rfl;have I1:=(I.ML (by have:=gm h1;have:=gm h2;lia)).back q3 (EA q2 rfl);rw[EB q2]at I1;rw[dD,q1];refine I1.MT ρ0 ap.2 (gm h1) (gm h2) λi j u hj hu=> ?_;obtain⟨e0,e1,x1,x2,x3⟩:=hq (i + 1) j u (by simpa using hj) (by simpa using hu);exact⟨e0,e1,x1,x2,by rw[qm (ap.1 j (gk hj))];exact x3⟩
theorem E1(ρ0:En):∀(Z:En) (L:List Io) (cZ:List D),(dD ρ0 Z L cZ).length=Z.length
 |Z, [],_=>by simp only[dD]
 |Z,io::L, []=>by simp only[dD]
 |Z,io::L,o::os=>by
  rw[dD];cases ak ρ0 io.r with
  |none=>rfl
  |some d0=>show(dD ρ0 _ L os).length=_;rw[E1,bZ]
theorem MU(ρ0:En):∀{L:List Io} {ρ1 aD:En} {cZ:List D},ρ1.length=aD.length->cZ.length=L.length->(∀io∈L,∃d0,ak ρ0 io.r=some d0)->(∀io∈L,io.r < ρ1.length)->(∀(i:Nat) (β:B),(∀io∈L,io.r≠i)->ρ1[i]?=some (some β)->aD[i]?=some (some β))->
  ∀(i:Nat) (β:B),(dD ρ0 ρ1 L cZ)[i]?=some (some β)->(dD ρ0 aD L cZ)[i]?=some (some β)
 | [],ρ1,aD,cZ,_,_,_,_,h,i,β,q=>by
  simp only[dD]at q |-;exact h i β (λ_ z=>nomatch z) q
 |io::L,ρ1,aD, [],_,h,_,_,_,_,_,_=>by cases h
 |io::L,ρ1,aD,o::os,hl,h2,hr,jQ,h,i,β,q=>by
  obtain⟨d0,e0⟩:=hr io (.head _);rw[dD,e0]at q |-;refine MU ρ0 (by rw[bZ,bZ];exact hl) (gm h2) (λj hj=>hr j (.tail _ hj)) (λj hj=>by rw[bZ];exact jQ j (.tail _ hj)) (λj γ hj z=> ?_) i β q;by_cases c:io.r=j
  ·subst c;have:=jQ io (.head _);rw[dr this]at z;rw[dr (by lia)];exact z
  ·rw[fq c]at z |-;exact h j γ (λk hk=>by
    cases hk with
    |head=>exact c
    |tail _ hk=>exact hj k hk) z
theorem aw.weaken(I:aw K n H U σ hv aD τv τd)(hl:Z.length=aD.length)(w:∀(i:Nat) (β:B),Z[i]?=some (some β)->aD[i]?=some (some β)):aw K n H U σ hv Z τv τd:=by
 have l:=I.len;refine⟨?_,by rw[hl];exact l,I.nn⟩;rw[hl];refine I.ok.weaken (by simp[hl]) λi β h=> ?_;by_cases hi:i < Z.length
 ·rw[ba hi]at h;rw[ba (by lia)];exact w i β h
 ·rw[bI (by lia)]at h;rw[bI (by lia), <- hl];exact h
theorem aw.sets(I:aw K n H U σ hv Z (τv++ws) (τd++wd))(hl:ws.length=wd.length)(i:Nat){d:D}(h1:ws[i]?=some w)(h2:wd[i]?=some d):(σ++hv++(τv++ws).map some)[Z.length + τd.length + i]?=some (some w)/\(Z++bu (τd++wd))[Z.length + τd.length + i]?=some (some (.own d)):=by
 have l:=I.len;have tl:=I.tl;have tl:τv.length=τd.length:=by simp at tl;lia
 constructor
 ·rw[bI (by simp;lia),dF,bI (by simp;lia)];rw[show Z.length + τd.length + i - (σ++hv).length - τv.length=i by simp;lia,h1];rfl
 ·unfold bu;rw[bI (by lia),dF,bI (by lia)];rw[show Z.length + τd.length + i - Z.length - τd.length=i by lia,h2];rfl
def bp(G:List D->Option (D×List D))(as:List Ar)(ρ1:En):Option (D×En):=(d5 ρ1 as).bind λds=>
 if dh (bM as)/\as.all (dS (bM as))=true then(G ds).bind λr=>if r.2.length=(bM as).length then some (r.1,dO ρ1 (bM as) r.2) else none else none
theorem aw.A5{G:List D->Option (D×List D)}{Q:VK}{ρ1:En}(I1:aw K n H1 U1 σ hv ρ1 (τv++ws) (τd++wd))(hl:ws.length=wd.length)(bC:b8 U H U1 H1)(ao:j7 K H1 U1 (σ++hv) ρ1 br vs as ws wd)
  (h:bp G as ρ1=some (d,ρ')) (k:∀v H' U',aw K n H' U' σ hv ρ' (τv++ [v]) (τd++ [d])->b8 U H U' H'->Q v H'):cq K br G vs H1 Q E:=by
 obtain⟨ds,h2,h⟩:=ae.mp h;have c:dh (bM as)/\as.all (dS (bM as))=true:=by
  by_cases c:dh (bM as)/\as.all (dS (bM as))=true
  ·exact c
  ·rw[if_neg c]at h;cases h
 rw[if_pos c]at h;obtain⟨⟨d',cZ⟩,h3,h⟩:=ae.mp h;have h:(if cZ.length=(bM as).length then some (d',dO ρ1 (bM as) cZ) else none)=some (d,ρ'):=h;have co:cZ.length=(bM as).length:=by
  by_cases co:cZ.length=(bM as).length
  ·exact co
  ·rw[if_neg co]at h;cases h
 rw[if_pos co]at h;cases h;have cG:=ao.len;obtain⟨il,W5⟩:=ao.W4;obtain⟨dl,E2⟩:=ao.MR h2;have I2:=I1.MN c.1 E2 il W5;have l2:=I2.len;have W6:=I1.tl;have lh:(bU ρ1 (bM as) (bj br vs)).length=ρ1.length:=tJ _ _ _;have W7:(bj br vs).length=(bj br ds).length:=A3 cG.1 dl
 -- what is MR is parted from all else
 have EK:cW K H1 U1 ρ1.length ((σ++hv++(τv++ws).map some)++(bj br vs).map some) ((bU ρ1 (bM as) (bj br vs)++bu (τd++wd))++bu (bj br ds)):=by
  have:=I2.ok;rw[lh,cM,cM (l₁:=τd++wd), <- dt, <- dt]at this;exact this
 have lE:(σ++hv++(τv++ws).map some).length=(bU ρ1 (bM as) (bj br vs)++bu (τd++wd)).length:=by
  unfold bu;have l1:=I1.len;simp[lh]at W6 |-
  lia
 have hm:ρ1.length<=(σ++hv++(τv++ws).map some).length:=by have l1:=I1.len;simp;lia
 obtain⟨Ut,su,W8,seen,back⟩:=EK.call lE hm (ve _);have vf:=EX E2;refine⟨cG.1,ds,Ut,d,cZ,dl,W8,ao.seen h2 (λi w x hw hx=> ?_) (λq x u pq pd mem=> ?_),h3,λv H2 U2 AZ jC=> ?_⟩
 ·-- what is under way
  obtain⟨g1,g2⟩:=I2.drop (vs:=bj br vs) (ds:=bj br ds) W7 |>.sets hl i hw hx;rw[lh]at g1;obtain⟨F,r,nf⟩:=(seen _ w x g1).1 (by rw[lh]at g2;exact g2);exact r.view nf
 ·-- what is only seen
  cases q with
  |ro y=>
   have pd:some y=some x:=pd;cases pd;have pq:Vw K H1 (λb=>¬ U1 b) u x:=pq;exact pq.mono λb nb z=>nb (su b z)
  |rt r p=>
   obtain⟨hr,vr,d0,er,qo,hg,hp⟩:=pq;have MV:(ak ρ1 r).bind (ag · p)=some x:=pd;rw[qo]at MV;have MW:ag d0 p=some x:=MV;have A6:(σ++hv++(τv++ws).map some)[r]?=some (some vr):=by rw[ba (by have l1:=I1.len;simp;lia)];exact er
   have W9:∀io∈bM as,io.r≠r\/e9 io.p p=true:=by
    have:=Ad.mp c.2 _ mem;have:=Ad.mp this;intro io qp;have:=this io qp;by_cases z:io.r=r
    ·right;simpa[z]using this
    ·left;exact z
   by_cases MX:∃(i:Nat) (io:Io),(bM as)[i]?=some io/\io.r=r
   ·obtain⟨i,io,hi,e⟩:=MX;subst e;obtain⟨v2,E3,q⟩:=EY (vs:=bj br vs) c.1 il hi qo λj hj=>let ⟨a,_,b,_⟩:=vf j hj;⟨a,b⟩;obtain⟨a0,a1,b0,b1⟩:=vf io (gk hi);rw[qo]at b0;cases b0;have q':=lV q;obtain⟨F,rr,nf⟩:=(seen io.r vr _ A6).1 (by rw[ba (by lia)];exact q');have ap:=(W9 io (gk hi)).resolve_left λz=>z rfl;exact rr.sub (by rw[MQ ap b1 rfl];exact MW) hp nf
   ·have q:(bU ρ1 (bM as) (bj br vs))[r]?=some (some (.own d0)):=by
     rw[A4 λio qp z=>by
      obtain⟨i,hi⟩:=List.mem_iff_getElem?.mp qp;exact MX ⟨i,io,hi,z⟩]
     exact lV qo
    obtain⟨F,rr,nf⟩:=(seen r vr _ A6).1 (by rw[ba (by lia)];exact q);exact rr.sub MW hp nf
 ·-- all is given back
  obtain⟨U3,Xa,ki⟩:=back H2 U2 _ _ AZ jC λb hb=>by
   cases hb with
   |head=>exact .inr ⟨d,rfl⟩
   |tail _ hb=>exact Wv cZ b hb
  have I3:aw K n H2 U3 σ hv (bx (bU ρ1 (bM as) (bj br vs))) (τv++ws++(v::bj br vs)) (τd++wd++(d::cZ)):=by
   refine⟨?_,by rw[i9,lh];exact I1.len,I1.nn⟩;rw[i9,lh];have Xb:cW K H2 U3 ρ1.length (σ++hv++(τv++ws).map some++(v::bj br vs).map some) ((bx (bU ρ1 (bM as) (bj br vs))++bu (τd++wd))++bu (d::cZ)):=by
    refine Xa.weaken (by rw[bQ,bQ,bQ,i9,i9,bQ];rfl) λi β aL=> ?_;by_cases hi:i < ρ1.length + (τd++wd).length
    ·rw[ba (by simp[i9,bu,lh]at hi |-;lia)]at aL;rw[ba (by simp[i9,bu,lh]at hi |-;lia)];exact My (ve _) i β aL
    ·rw[bI (by simp[i9,bu,lh]at hi |-;lia)]at aL;rw[bI (by simp[i9,bu,lh]at hi |-;lia)];simp[i9,bu,lh]at aL |-;exact aL
   rw[cM (l₁:=τv++ws),cM (l₁:=τd++wd), <- dt, <- dt];exact Xb
  have I4:=I3.WX hl (by rw[fN,fN,il,co]);have I5:aw K n H2 U3 σ hv (bx (bU ρ1 (bM as) (bj br vs))) (τv++ [v]++bj br vs) (τd++ [d]++cZ):=by
   rw[<- oU, <- oU];exact I4
  have I6:=I5.MT ρ1 (L:=bM as) c.1 il co λi io u hi hu=>by
   obtain⟨a0,a1,b0,b1⟩:=vf io (gk hi);obtain⟨v2,E3,q⟩:=EY (vs:=bj br vs) c.1 il hi b0 λj hj=>let ⟨a,_,b,_⟩:=vf j hj;⟨a,b⟩;rw[hu]at E3;cases E3;exact⟨a0,a1,b0,b1,by unfold ak;rw[Mw (lV q)]⟩
  refine k v H2 U3 (I6.weaken ?_ ?_) (bC.trans ki)
  ·unfold dO;rw[E1,E1,i9,i9,tJ,tJ]
  ·unfold dO;refine MU ρ1 (by rw[i9,i9,tJ,tJ]) co (λio qp=>let ⟨a,_,b,_⟩:=vf io qp;⟨a,b⟩) (λio qp=> ?_) λi β hi aL=> ?_
   ·obtain⟨a,_,b,_⟩:=vf io qp;rw[i9,tJ];exact(bB.mp (lV b)).1
   ·unfold bx at aL |-;rw[dF,A4 hi]at aL |-;rw[<- aL];have sim:rF (bU ρ1 (bM as) (bj br vs)) (bU ρ1 (bM as) ((bM as).map λ_=>V.aJ)):=W3 c.1 E2 il (by simp)
    congr 1
    funext b;exact WZ sim b
instance afI[A:SC K n br ta fa]:SM K n (qc (cq K br G) [] E ta) (λZ=>(fa Z).bind λa=>bp G a.1 a.2):=⟨λ{σ hv H U Z ρ' τv τd d Q} I h k=>by
 obtain⟨⟨as,ρ1⟩,h1,h⟩:=ae.mp h;refine A.s I h1 λvs ws wd H1 U1 I1 hl bC ao=> ?_;show cq K br G (vs++ []) H1 Q E;rw[eW];exact I1.A5 hl bC ao h k⟩
end
end VL
namespace VL
open PySem L2
section
def jH(K:ah)(H H':Hp)(vs:List V)(ds:List D):Prop:=vs.length=ds.length/\∃Fs:Nat->Addr->Prop,(∀i j b,Fs i b->Fs j b->i=j)/\(∀i b,Fs i b->H b=none/\jk (H' b))/\∀(i:Nat) (v:V) (d:D),vs[i]?=some v->ds[i]?=some d->bh K H' (Fs i) v d
theorem jH.nil:jH K H H' [] []:=⟨rfl,λ_ _=>False,λ_ _ _ z=>z.elim,λ_ _ z=>z.elim,λi v d h=>by simp at h⟩
theorem jH.cons(o:eI K H H1 v d)(s1:aM H1 H2)(t:jH K H1 H2 vs ds)(s0:aM H H1):jH K H H2 (v::vs) (d::ds):=by
 obtain⟨G,r,f⟩:=o;obtain⟨hl,Fs,dj,fr,rp⟩:=t;have Gn:∀b,G b->∀i,¬ Fs i b:=λb z i w=>by
  obtain⟨u,q⟩:=qk (f b z).2;rw[(fr i b w).1]at q;cases q
 refine⟨by rw[fN,fN,hl],λi b=>match i with | 0=>G b | i + 1=>Fs i b,λi j b hi hj=> ?_,λi b hb=> ?_,λi x y hx hy=> ?_⟩
 ·cases i with
  |zero=>cases j with
   |zero=>rfl
   |succ j=>exact absurd hj (Gn b hi j)
  |succ i=>cases j with
   |zero=>exact absurd hi (Gn b hj i)
   |succ j=>rw[dj i j b hi hj]
 ·cases i with
  |zero=>exact⟨(f b hb).1,xO (f b hb).2 s1⟩
  |succ i=>
   refine⟨?_,(fr i b hb).2⟩;cases q:H b with
   |none=>rfl
   |some o=>have:=(fr i b hb).1;rw[s0 b o q]at this;cases this
 ·cases i with
  |zero=>cases hx;cases hy;exact r.same s1
  |succ i=>exact rp i x y (by simpa using hx) (by simpa using hy)
theorem jH.node(h:jH K H H1 vs ds)(s:aM H H1)(hp:H1 p=none)(hold:(k= .tup/\o= .tup vs)\/(cT k=false/\fits K k vs.length/\∃dx,o=ho k dx vs)):eI K H (aP H1 p o) (.ref p) (.nd k ds):=by
 obtain⟨hl,Fs,dj,fr,rp⟩:=h;have s2:aM H1 (aP H1 p o):=iq hp o;have np:∀i,¬ Fs i p:=λi z=>by
  obtain⟨u,w⟩:=qk (fr i p z).2;rw[hp]at w;cases w
 have Xc:H p=none:=s.free hp;refine⟨λb=>(∃i,Fs i b)\/(cT k=false/\b=p), .nd Fs ?_ hl dj (λi b hb=>⟨.inl ⟨i,hb⟩,λ_ z=>by rw[z]at hb;exact np i hb⟩) λi v d hv hd=>(rp i v d hv hd).same s2,λb hb=> ?_⟩
 ·rcases hold with⟨h1,h2⟩ | ⟨h1,h2,dx,h3⟩
  ·subst h1;show aP H1 p o p=some (.tup vs);rw[gX,h2]
  ·exact jR.put h1 (.inr ⟨h1,rfl⟩) ⟨h1,h2,dx,by rw[gX,h3]⟩
 ·rcases hb with⟨i,hb⟩ | ⟨h1,rfl⟩
  ·exact⟨(fr i b hb).1,xO (fr i b hb).2 s2⟩
  ·refine⟨Xc, ?_⟩;rcases hold with⟨z,_⟩ | ⟨_,_,dx,h3⟩
   ·subst z;cases h1
   ·rw[gX,h3];exact Ms (a:=b) h1
class vg(K:ah)(n:Nat)(t:TA)(f:outParam (En->Option (List D))):Prop where
 s:∀{σ hv:List (Option V)} {H:Hp} {U:Addr->Prop} {Z:En} {τv:List V} {τd:List D} {ds:List D} {Q:List V->Hp->Prop},aw K n H U σ hv Z τv τd->f Z=some ds->(∀vs H',aM H H'->jH K H H' vs ds->Q vs H')->t σ H Q
instance afJ:vg K n g7 (λ_=>some []):=⟨λI h k=>by cases h;exact k [] _ (aM.refl _) .nil⟩
instance afK[A:SQ K n ta fa][R:vg K n tr fr]:vg K n (eJ ta tr) (au fa fr):=⟨λ{σ hv H U Z τv τd ds Q} I h k=>by
 obtain⟨a,ha,h⟩:=ae.mp h;obtain⟨r,hr,h⟩:=aV.mp h;cases h;refine A.o I ha λx H1 s1 o1=> ?_;exact R.s (I.same s1) hr λxs H2 s2 o2=>k (x::xs) H2 (s1.trans s2) (jH.cons o1 s2 o2 s1)⟩
def cu(k:Kd)(f:En->Option (List D))(Z:En):Option D:=(f Z).bind λr=>if r.length<=aK then some (.nd k r) else none
instance afL[A:vg K n ta fa]:SF K n (q0 ta) (cu .tup fa):=⟨λ{σ hv H U Z τv τd d Q} I h k=>by
 obtain⟨a,ha,h⟩:=ae.mp h;by_cases c:a.length<=aK
 ·rw[if_pos c]at h;cases h;refine A.s I ha λxs H1 s1 o=>⟨by rw[o.1];exact c,λp hp=> ?_⟩
  exact k _ _ (s1.trans (iq hp _)) (o.node s1 hp (.inl ⟨rfl,rfl⟩))
 ·rw[if_neg c]at h;cases h⟩
instance Xd[A:vg K n ta fa]:SF K n (uX ta) (cu .lst fa):=⟨λ{σ hv H U Z τv τd d Q} I h k=>by
 obtain⟨a,ha,h⟩:=ae.mp h;by_cases c:a.length<=aK
 ·rw[if_pos c]at h;cases h;refine A.s I ha λxs H1 s1 o=>⟨by rw[o.1];exact c,λp hp=> ?_⟩
  exact k _ _ (s1.trans (iq hp _)) (o.node s1 hp (.inr ⟨rfl,trivial,0,rfl⟩))
 ·rw[if_neg c]at h;cases h⟩
theorem dN.node(h:dN K H T1 vs ds)(hp:H p=none)(hold:(k= .tup/\o= .tup vs)\/(cT k=false/\fits K k vs.length/\∃dx,o=ho k dx vs)):Vw K (aP H p o) T1 (.ref p) (.nd k ds):=by
 refine .nd (λ_=>trivial) ?_ h.1 λi v d hv hd=>(h.2 i v d hv hd).same (iq hp o);rcases hold with⟨h1,h2⟩ | ⟨h1,h2,dx,h3⟩
 ·subst h1;exact⟨trivial,by show aP H p o p=some (.tup vs);rw[gX,h2]⟩
 ·exact qi.cell ⟨h1,h2,dx,by rw[gX,h3]⟩
instance (priority:=800) afM{ta:TA}{fa:En->Option (List D)}[A:SA K n ta fa]:SV K n (q0 ta) (cu .tup fa):=⟨λ{σ hv H U Z τv τd d Q} I h k=>by
 obtain⟨a,ha,h⟩:=ae.mp h;by_cases c:a.length<=aK
 ·rw[if_pos c]at h;cases h;refine A.s I ha λxs H1 s1 o=>⟨by rw[o.1];exact c,λp hp=> ?_⟩
  exact k _ _ (s1.trans (iq hp _)) (o.node hp (.inl ⟨rfl,rfl⟩))
 ·rw[if_neg c]at h;cases h⟩
instance (priority:=800) afN{ta:TA}{fa:En->Option (List D)}[A:SA K n ta fa]:SV K n (uX ta) (cu .lst fa):=⟨λ{σ hv H U Z τv τd d Q} I h k=>by
 obtain⟨a,ha,h⟩:=ae.mp h;by_cases c:a.length<=aK
 ·rw[if_pos c]at h;cases h;refine A.s I ha λxs H1 s1 o=>⟨by rw[o.1];exact c,λp hp=> ?_⟩
  exact k _ _ (s1.trans (iq hp _)) (o.node hp (.inr ⟨rfl,trivial,0,rfl⟩))
 ·rw[if_neg c]at h;cases h⟩
open Classical in
def intD(C:Int->Int->Prop)(g:Int->Int->V)(a b:D):Option D:=match a,b with
 |.sc (.int i), .sc (.int j)=>if C i j then some (.sc (g i j)) else none
 |_,_=>none
def eU(g:Int->Int->V)(a b:D):Option D:=match a,b with
 |.sc (.int i), .sc (.int j)=>some (.sc (g i j))
 |_,_=>none
instance afO:m8 K (o7 g) (eU g):=⟨λ{H x y dx dy d Q} w1 w2 h k=>by
 unfold eU at h
 split at h
 ·next i j=>cases h;exact⟨i,j,w1.cg,w2.cg,k _ H (aM.refl H) (.sc _)⟩
 ·cases h⟩
instance afP:m8 K (rI C g) (intD C g):=⟨λ{H x y dx dy d Q} w1 w2 h k=>by
 unfold intD at h
 split at h
 ·next i j=>
  by_cases c:C i j
  ·rw[if_pos c]at h;cases h;exact⟨i,j,w1.cg,w2.cg,c,k _ H (aM.refl H) (.sc _)⟩
  ·rw[if_neg c]at h;cases h
 ·cases h⟩
def A7(g:Int->V)(a:D):Option D:=match a with
 |.sc (.int i)=>some (.sc (g i))
 |_=>none
instance afQ:Mq K (rU g) (A7 g):=⟨λ{H x dx d Q} w1 h k=>by
 unfold A7 at h
 split at h
 ·next i=>cases h;exact⟨i,w1.cg,k _ H (aM.refl H) (.sc _)⟩
 ·cases h⟩
mutual
def cf:D->Option PyData
 |.sc .aJ=>some .none
 |.sc (.bl b)=>some (.bool b)
 |.sc (.int i)=>some (.int i)
 |.sc (.str x)=>some (.str x)
 |.nd .tup cs=>(kj cs).map .tuple
 |.nd .lst cs=>(kj cs).map .list
 |.nd .eL cs=>(kj cs).map .list
 |_=>none
def kj:List D->Option (List PyData)
 | []=>some []
 |d::ds=>(cf d).bind λx=>(kj ds).map (x:: ·)
end
theorem A8:∀{ds:List D} {vs:List V} {ps:List PyData},vs.length=ds.length->(∀(i:Nat) (v:V) (d:D) (p:PyData),vs[i]?=some v->ds[i]?=some d->cf d=some p->j5 K H v p)->kj ds=some ps->sY K H vs ps
 | [], [],_,_,_,h=>by rw[kj]at h;cases h;exact .nil
 | [],_::_,_,h,_,_=>by cases h
 |_::_, [],_,h,_,_=>by cases h
 |d::ds,v::vs,ps,hl,hk,h=>by
  rw[kj]at h;obtain⟨x,h1,h⟩:=ae.mp h;obtain⟨r,h2,h⟩:=aV.mp h;subst h;exact .cons (hk 0 v d x rfl rfl h1) (A8 (gm hl) (λi v d p a b c=>hk (i + 1) v d p (by simpa using a) (by simpa using b) c) h2)
theorem Vw.py(h:Vw K H N v d):∀{p:PyData},cf d=some p->j5 K H v p:=by
 induction h with
 |sc v=>
  intro p e;cases v with
  |aJ=>rw[cf]at e;cases e;exact .aJ
  |bl b=>rw[cf]at e;cases e;exact .bl b
  |int i=>rw[cf]at e;cases e;exact .int i
  |str x=>rw[cf]at e;cases e;exact .str x
  |sm _=>simp[cf]at e
  |kb _=>simp[cf]at e
  |ref _=>simp[cf]at e
  |ty _=>simp[cf]at e
 |hl v=>intro p e;simp[cf]at e
 | @nd a k vs cs h1 h2 h3 _ ih=>
  intro p e;cases k with
  |tup=>
   rw[cf]at e;obtain⟨ps,e1,e2⟩:=aV.mp e;subst e2;exact .tup (cN.of h2.2) (A8 h3 (λi v d p x y z=>ih i v d x y z) e1)
  |lst=>
   rw[cf]at e;obtain⟨ps,e1,e2⟩:=aV.mp e;subst e2;exact .lst (.inl (.inl h2.2)) (A8 h3 (λi v d p x y z=>ih i v d x y z) e1)
  |eL=>
   rw[cf]at e;obtain⟨ps,e1,e2⟩:=aV.mp e;subst e2;exact .lst (j6.sq h2.2) (A8 h3 (λi v d p x y z=>ih i v d x y z) e1)
  |_=>simp[cf]at e
def E4(K:ah):R2:=λx y H Q=>∃dx dy,j5 K H x dx/\j5 K H y dy/\dx.canLay0=true/\dy.canLay0=true/\dx.depth<=60/\Q (.bl (fw dx dy)) H
def E5(K:ah):R2:=λx y H Q=>∃dx dy,j5 K H x dx/\j5 K H y dy/\dx.canLay0=true/\dy.canLay0=true/\dx.depth<=60/\Q (.bl (!fw dx dy)) H
theorem Xe(hu:X.A.units + 64 < cLine):dP X (jy .Eq) (E4 X.K):=Wa hu
theorem Xf(hu:X.A.units + 64 < cLine):dP X (jy .NotEq) (E5 X.K):=Wb hu
def fj(g:Bool->Bool)(a b:D):Option D:=(cf a).bind λx=>(cf b).bind λy=>if x.canLay0=true/\y.canLay0=true/\x.depth<=60 then some (.sc (.bl (g (fw x y)))) else none
instance afR:m8 K (E4 K) (fj id):=⟨λ{H x y dx dy d Q} w1 w2 h k=>by
 obtain⟨a,h1,h⟩:=ae.mp h;obtain⟨b,h2,h⟩:=ae.mp h;by_cases c:a.canLay0=true/\b.canLay0=true/\a.depth<=60
 ·rw[if_pos c]at h;cases h;exact⟨a,b,w1.py h1,w2.py h2,c.1,c.2.1,c.2.2,k _ H (aM.refl H) (.sc _)⟩
 ·rw[if_neg c]at h;cases h⟩
instance afS:m8 K (E5 K) (fj (!·)):=⟨λ{H x y dx dy d Q} w1 w2 h k=>by
 obtain⟨a,h1,h⟩:=ae.mp h;obtain⟨b,h2,h⟩:=ae.mp h;by_cases c:a.canLay0=true/\b.canLay0=true/\a.depth<=60
 ·rw[if_pos c]at h;cases h;exact⟨a,b,w1.py h1,w2.py h2,c.1,c.2.1,c.2.2,k _ H (aM.refl H) (.sc _)⟩
 ·rw[if_neg c]at h;cases h⟩
end
end VL
namespace L2
open PySem PySem.Spec PyProof.Rows
section
end
end L2
namespace L2
open PySem PySem.Spec PyProof.Rows
theorem A9:([x]:List Str).Nodup:=nI.mpr ⟨wZ,se⟩
def pE(K:ah)(T:String):List V->Hp->VK->Prop:=λxs H Q=>∃x t b,xs= [x, .ty T]/\kU K H x t/\uD K t (.type T)=some b/\Q (.bl b) H
theorem Ba:i5 X (.builtin "isinstance") (pE X.K T):=VB
end L2
namespace L2
open PySem PySem.Spec PyProof.Rows
end L2
namespace L2
open PySem PySem.Spec PyProof.Rows
theorem Xg(K:ah)(a b:String)(h1:((uz a) == (uz b))=false)(h2:W.kitMeta b=true)(h3:(fastBuiltinMro a).map (·.contains (.type b))=some false):uD K (.type a) (.type b)=some false:=by
 unfold uD;rw[h1,if_neg (by simp)];show(if W.kitMeta b=true then W.subIn K (.type a) (.type b) else none)=some false;rw[if_pos h2];exact h3
section
variable (K:ah)
end
section
theorem MY{K:ah}(hK:X.K=K){k:Nat}{pos:Pos}(hc:X.calm=true)(h:xn X es t)(hn:(uq es X.env).length=n:=by rfl)(sG:(uq es X.env).findIdx? (·.1)=none:=by rfl):
  PG X (.Tuple es k pos) (DF K n t):=by
 subst hK;exact Tr hc h hn sG
end
end L2
namespace VL
open PySem PySem.Spec PyProof.Rows L2
section
variable {κ:Type}[DecidableEq κ]
def dk(k:κ):List κ->Option Nat
 | []=>none
 |g::r=>if g=k then some 0 else(dk k r).map (· + 1)
theorem E6:∀{ks:List κ} {vs:List V},ks.length=vs.length->nT (ks.zip vs) k=(dk k ks).bind (vs[·]?)
 | [], [],_=>rfl
 | [],_::_,h=>by cases h
 |_::_, [],h=>by cases h
 |g::r,v::vs,h=>by
  rw[pX,dk];by_cases c:g=k
  ·rw[AL (by exact c),if_pos c];rfl
  ·rw[AM (by exact c),if_neg c,E6 (gm h)];cases dk k r with
   |none=>rfl
   |some i=>simp
theorem xX:∀{ks:List κ} {i:Nat},dk k ks=some i->i < ks.length
 | [],_,h=>by cases h
 |g::r,i,h=>by
  rw[dk]at h;by_cases c:g=k
  ·rw[if_pos c]at h;cases h;exact JH _
  ·rw[if_neg c]at h;obtain⟨j,h1,h2⟩:=aV.mp h;subst h2;exact Sj (xX h1)
theorem E7:∀{ks:List κ} {vs:List V},ks.length=vs.length->((ks.zip vs).any λkv=>decide (kv.1=k))=(dk k ks).isSome
 | [], [],_=>rfl
 | [],_::_,h=>by cases h
 |_::_, [],h=>by cases h
 |g::r,v::vs,h=>by
  rw[pX,dk,wU];by_cases c:g=k
  ·rw[if_pos c];simp[c]
  ·rw[if_neg c,E7 (gm h)];cases dk k r <;> simp[c]
end
def gg:D->Option aY
 |.sc (.int i)=>some (.inl i)
 |.sc (.str x)=>some (.inr x)
 |_=>none
def mT:List D->Option (List aY)
 | []=>some []
 |d::r=>(gg d).bind λk=>(mT r).map (k:: ·)
section
variable {K:ah}{n:Nat}{H H' H1 H2:Hp}{U U':Addr->Prop}{σ hv:List (Option V)}{Z ρ':En}{τv vs:List V}{τd ds:List D}{v y:V}{d:D}{N:Addr->Prop}
theorem Vw.key(h:Vw K H N v d)(e:gg d=some k):v=kV k:=by
 unfold gg at e
 split at e
 ·cases e;exact h.cg
 ·cases e;exact h.cg
 ·cases e
theorem Bb:∀{cs:List D} {vs:List V} {ks:List aY},vs.length=cs.length->(∀(i:Nat) (v:V) (d:D),vs[i]?=some v->cs[i]?=some d->Vw K H N v d)->mT cs=some ks->vs=ks.map kV
 | [], [],_,_,_,h=>by rw[mT]at h;cases h;rfl
 | [],_::_,_,h,_,_=>by cases h
 |_::_, [],_,h,_,_=>by cases h
 |d::cs,v::vs,ks,hl,hk,h=>by
  rw[mT]at h;obtain⟨x,h1,h⟩:=ae.mp h;obtain⟨r,h2,h⟩:=aV.mp h;subst h;rw[dZ,(hk 0 v d rfl rfl).key h1,Bb (gm hl) (λi v d a b=>hk (i + 1) v d (by simpa using a) (by simpa using b)) h2]
def eN(d i:D):Option (Option Nat):=match d,i with
 |.nd (.aB ks) _,i=>(gg i).map λk=>dk k ks
 |.nd (.iK ks) _, .nd .tup cs=>(mT cs).map λk=>dk k ks
 |_,_=>none
theorem jN.E8(hc:jN K H a k vs)(hl:vs.length=cs.length)(w:Vw K H N y dy)(h:eN (.nd k cs) dy=some o):rA H a y (o.bind (vs[·]?)):=by
 unfold eN at h
 split at h
 ·next ks _ i e=>
  cases e;obtain⟨kk,h1,h2⟩:=aV.mp h;subst h2;exact .inl ⟨_,kk,hc.2,w.key h1,(E6 hc.1).symm⟩
 ·next ks _ gB e=>
  cases e;obtain⟨kk,h1,h2⟩:=aV.mp h;subst h2;obtain⟨b,us,rfl,_,hb,g9,d4⟩:=w.node;have e:=Bb g9 d4 h1;exact .inr ⟨_,kk,b,hc.2,rfl,by rw[<- e];exact hb.2,(E6 hc.1).symm⟩
 ·cases h
theorem jN.Xh(hc:jN K H a k vs)(h:eN (.nd k cs) dy=some (some i)):i < vs.length:=by
 unfold eN at h
 split at h
 ·next ks _ i e=>
  cases e;obtain⟨kk,h1,h2⟩:=aV.mp h;have:=xX h2;have:=hc.1;show _ < _;unfold fits at this
  lia
 ·next ks _ gB e=>
  cases e;obtain⟨kk,h1,h2⟩:=aV.mp h;have:=xX h2;have:=hc.1;unfold fits at this
  lia
 ·cases h
theorem jN.Xi(hc:jN K H a k vs)(h:eN (.nd k cs) dy=some o):(o.bind (vs[·]?)).isSome=o.isSome:=by
 cases o with
 |none=>rfl
 |some i=>
  show(vs[i]?).isSome=true;rw[gM (hc.Xh h)];rfl
def MZ:R2:=λx y H Q=>∃a v,x= .ref a/\rA H a y (some v)/\Q v H
def E9(K:ah):R2:=λx y H Q=>D1 K x y H Q\/MZ x y H Q
theorem Xj(hu:X.A.units + 1 < cLine):m5 X MZ:=by
 intro value slice aa s σ H x y v u Q I rx ry h hs;obtain⟨a,w,rfl,g,q⟩:=h;cases rx;have hT:=Vu I g;unfold RM;refine aW ?_;rw[getitemInPython_of_ne hT.not_modules];refine aW (wpAny_specialOf hT PySem.F.slot_dict_getitem.lookup ?_);have cL:wpAny (model X.prog X.w) X.A (subscripted slice false (.ref a) u) (λr nW=>wpAny (model X.prog X.w) X.A (letTemporaryGo value (.ref a) r >>= λ_=>pure r) (EP X aa σ Q) X.xe nW) X.xe s:=by
  rw[hs];exact wpAny_operating (Vo hu I g ry λw' s3 I3 nS=>aW (wpAny_letTemporaryGo (cJ ⟨w,H,I3,nS,q⟩)))
 first
  |exact cJ (aW cL)
  |exact aW (cJ (aW cL))
  |exact aW cL
theorem Xk(hu:X.A.units + 1 < cLine):m5 X (E9 X.K):=m5.or UI (Xj hu)
def aE(d i:D):Option Nat:=match fB d i with
 |some j=>some j
 |none=>(eN d i).join
instance afT:tG K (E9 K) aE bq where
 t:=λw2 h q=> .inl (MF.t w2 h q)
 s:=λ{H a k vs cs y u dy i Q} hc hl w2 h hu q=>by
  unfold aE at h
  split at h
  ·next j e=>cases h;exact .inl (MF.s hc hl w2 e hu q)
  ·cases e:eN (.nd k cs) dy with
   |none=>rw[e]at h;cases h
   |some o=>
    rw[e]at h;have h:o=some i:=h;subst h;have g:=hc.E8 hl w2 e;have:(some i).bind (vs[·]?)=some u:=hu;rw[this]at g;exact .inr ⟨a,u,rfl,g,q⟩
def Xl:R2:=λx y H Q=>∃i j,x= .str i/\y= .str j/\Q (.bl (!(RW j i 0 j.length 1).isEmpty)) H
def M0(g:Bool->Bool):R2:=λx y H Q=>∃a o,y= .ref a/\rA H a x o/\Q (.bl (g o.isSome)) H
theorem Xm(hu:X.A.units + 1 < cLine):dP X (jy .In) (M0 id):=by
 intro aa s σ H x y v u Q I rx ry h;obtain⟨a,o,rfl,g,q⟩:=h;cases ry;exact Vp hu I g rx λs3 I3=>⟨.bl o.isSome,H,I3,rfl,q⟩
theorem dP.or(h:dP X f r)(h':dP X f r'):dP X f (λx y H Q=>r x y H Q\/r' x y H Q):=by
 intro aa s σ H x y v u Q I rx ry q;rcases q with q | q
 ·exact h aa s σ H x y v u Q I rx ry q
 ·exact h' aa s σ H x y v u Q I rx ry q
def Fb(K:ah):R2:=λx y H Q=>Lq K false x y H Q\/M0 id x y H Q\/Xl x y H Q
theorem Xn(hu:X.A.units + 1 < cLine):dP X (jy .In) (Fb X.K):=dP.or UP (dP.or (Xm hu) TM)
def qt:List D->Option (List V)
 | []=>some []
 |.sc v::r=>(qt r).map (v:: ·)
 |_::_=>none
theorem Fc:∀{cs:List D} {vs us:List V},vs.length=cs.length->(∀(i:Nat) (v:V) (d:D),vs[i]?=some v->cs[i]?=some d->Vw K H N v d)->qt cs=some us->vs=us
 | [], [],_,_,_,h=>by rw[qt]at h;cases h;rfl
 | [],_::_,_,h,_,_=>by cases h
 |_::_, [],_,h,_,_=>by cases h
 |.sc x::cs,v::vs,us,hl,hk,h=>by
  rw[qt]at h;obtain⟨r,h2,h⟩:=aV.mp h;subst h;rw[(hk 0 v (.sc x) rfl rfl).cg,Fc (gm hl) (λi v d a b=>hk (i + 1) v d (by simpa using a) (by simpa using b)) h2]
 |.nd _ _::cs,v::vs,us,hl,hk,h=>by simp[qt]at h
 |.hl _::cs,v::vs,us,hl,hk,h=>by simp[qt]at h
def oQ(a b:D):Option Bool:=match a,b with
 |.sc (.str x), .sc (.str y)=>some (!(RW y x 0 y.length 1).isEmpty)
 |.sc x, .nd .lst cs=>(qt cs).bind λus=>if kg x=true/\us.all kg=true then some (xu x us) else none
 |.sc x, .nd .tup cs=>(qt cs).bind λus=>if kg x=true/\us.all kg=true then some (xu x us) else none
 |a,b=>(eN b a).map (·.isSome)
instance afU:m8 K (Fb K) (λa b=>(oQ a b).map λb=> .sc (.bl b)):=⟨λ{H x y dx dy d Q} w1 w2 h k=>by
 obtain⟨b,h1,h2⟩:=aV.mp h;subst h2;have cL:Q (.bl b) H:=k _ H (aM.refl H) (.sc _);unfold oQ at h1
 split at h1
 ·next i j=>
  cases h1;exact .inr (.inr ⟨i,j,w1.cg,w2.cg,cL⟩)
 ·next z cs=>
  obtain⟨us,e1,e2⟩:=ae.mp h1;by_cases c:kg z=true/\us.all kg=true
  ·rw[if_pos c]at e2;cases e2;obtain⟨a,vs,rfl,_,hc,hl,d4⟩:=w2.node;have:=Fc hl d4 e1;subst this;rw[w1.cg];exact .inl ⟨a,vs,rfl, .inl (cc.of hc.2),c.1,c.2,cL⟩
  ·rw[if_neg c]at e2;cases e2
 ·next z cs=>
  obtain⟨us,e1,e2⟩:=ae.mp h1;by_cases c:kg z=true/\us.all kg=true
  ·rw[if_pos c]at e2;cases e2;obtain⟨a,vs,rfl,_,hc,hl,d4⟩:=w2.node;have:=Fc hl d4 e1;subst this;rw[w1.cg];exact .inl ⟨a,vs,rfl, .inr (cN.of hc.2),c.1,c.2,cL⟩
  ·rw[if_neg c]at e2;cases e2
 ·obtain⟨o,e1,e2⟩:=aV.mp h1;subst e2;cases dy with
  |sc _=>simp[eN]at e1
  |hl _=>simp[eN]at e1
  |nd kk cs=>
   obtain⟨a,vs,rfl,_,hc,hl,d4⟩:=w2.node;have g:=hc.E8 hl w1 e1;have e3:=hc.Xi e1;exact .inr (.inl ⟨a,_,rfl,g,by rw[e3];exact cL⟩)⟩
def M3:R2:=λx y H Q=>y= .aJ/\Q (.bl (!decide (x= .aJ))) H
theorem Xo:dP X (jy .IsNot) M3:=TN
def Bc:D->Option Bool
 |.sc v=>some (decide (v= .aJ))
 |.nd _ _=>some false
 |.hl _=>none
def Bd(g:Bool->Bool)(a b:D):Option D:=match b with
 |.sc .aJ=>(Bc a).map λb=> .sc (.bl (g b))
 |_=>none
theorem Xp(w:Vw K H N v d)(h:Bc d=some b):decide (v= .aJ)=b:=by
 cases d with
 |sc z=>cases h;rw[w.cg]
 |nd k cs=>cases h;obtain⟨a,_,rfl,_⟩:=w.node;rfl
 |hl _=>cases h
instance afV:m8 K M3 (Bd (!·)):=⟨λ{H x y dx dy d Q} w1 w2 h k=>by
 unfold Bd at h
 split at h
 ·obtain⟨b,h1,h2⟩:=aV.mp h;subst h2;exact⟨w2.cg,by rw[Xp w1 h1];exact k _ H (aM.refl H) (.sc _)⟩
 ·cases h⟩
def Xq:R2:=λx y H Q=>∃i j,x= .str i/\y= .str j/\i.length + j.length<=aK/\Q (.str (i++j)) H
def xY(K:ah):R2:=λx y H Q=>o7 (λi j=> .int (i + j)) x y H Q\/Xq x y H Q\/Lx x y H Q\/Ld K x y H Q
theorem Xr:dP X (mw .Add) (xY X.K):=dP.or TF (dP.or TV (dP.or U9 UC))
def jI(a b:D):Option D:=match a,b with
 |.sc (.int i), .sc (.int j)=>some (.sc (.int (i + j)))
 |.sc (.str i), .sc (.str j)=>if i.length + j.length<=aK then some (.sc (.str (i++j))) else none
 |.nd .lst xs, .nd .lst ys=>if xs.length + ys.length<=aK/\bf (xs++ys)=true then some (.nd .lst (xs++ys)) else none
 |.nd .tup xs, .nd .tup ys=>if xs≠ []/\xs.length + ys.length<=aK/\bf (xs++ys)=true then some (.nd .tup (xs++ys)) else none
 |_,_=>none
theorem dN.app(h:dN K H N vs ds)(h':dN K H N us es):dN K H N (vs++us) (ds++es):=by
 refine⟨by rw[bQ,bQ,h.1,h'.1],λi v d hv hd=> ?_⟩;by_cases c:i < vs.length
 ·rw[ba c]at hv;rw[ba (by rw[<- h.1];exact c)]at hd;exact h.2 i v d hv hd
 ·rw[bI (by lia)]at hv;rw[bI (by rw[<- h.1];lia), <- h.1]at hd;exact h'.2 _ v d hv hd
theorem dN.own(h:dN K H T1 vs ds)(pl:bf ds=true)(hp:H p=none)(hold:(k= .tup/\o= .tup vs)\/(cT k=false/\fits K k vs.length/\∃dx,o=ho k dx vs)):eI K H (aP H p o) (.ref p) (.nd k ds):=
 jH.node (H:=H) (H1:=H) ⟨h.1,λ_ _=>False,λ_ _ _ z=>z.elim,λ_ _ z=>z.elim,λi v d hv hd=>(h.2 i v d hv hd).plain (s9 pl hd)⟩ (aM.refl H) hp hold
theorem Vw.gP(w:Vw K H T1 v (.nd k cs)):∃a vs,v= .ref a/\jN K H a k vs/\dN K H T1 vs cs:=by
 obtain⟨a,vs,e,_,hc,hl,d4⟩:=w.node;exact⟨a,vs,e,hc,hl,d4⟩
instance Xs:m8 K (xY K) jI:=⟨λ{H x y dx dy d Q} w1 w2 h k=>by
 unfold jI at h
 split at h
 ·next i j=>cases h;exact .inl ⟨i,j,w1.cg,w2.cg,k _ H (aM.refl H) (.sc _)⟩
 ·next i j=>
  by_cases c:i.length + j.length<=aK
  ·rw[if_pos c]at h;cases h;exact .inr (.inl ⟨i,j,w1.cg,w2.cg,c,k _ H (aM.refl H) (.sc _)⟩)
  ·rw[if_neg c]at h;cases h
 ·next xs ys=>
  by_cases c:xs.length + ys.length<=aK/\bf (xs++ys)=true
  ·rw[if_pos c]at h;cases h;obtain⟨a,vs,rfl,hc,vl⟩:=w1.gP;obtain⟨b,us,rfl,g8,ul⟩:=w2.gP;refine .inr (.inr (.inl ⟨a,b,vs,us,rfl,rfl,hc.2,g8.2,by rw[vl.1,ul.1];exact c.1,λp hp=> ?_⟩));exact k _ _ (iq hp _) ((vl.app ul).own c.2 hp (.inr ⟨rfl,trivial,0,rfl⟩))
  ·rw[if_neg c]at h;cases h
 ·next xs ys=>
  by_cases c:xs≠ []/\xs.length + ys.length<=aK/\bf (xs++ys)=true
  ·rw[if_pos c]at h;cases h;obtain⟨a,vs,rfl,hc,vl⟩:=w1.gP;obtain⟨b,us,rfl,g8,ul⟩:=w2.gP;have nv:vs≠ []:=λz=>by
    subst z;have:=vl.1;exact c.1 (wY this.symm)
   refine .inr (.inr (.inr ⟨a,b,vs,us,rfl,rfl,cN.of hc.2,cN.of g8.2,nv,by rw[vl.1,ul.1];exact c.2.1,λz=> ?_,λ_ p hp=> ?_⟩))
   ·subst z;have e:ys= []:=wY ul.1.symm;subst e;rw[eW]at c k;exact k _ H (aM.refl H) (eI.plain w1 c.2.2)
   ·exact k _ _ (iq hp _) ((vl.app ul).own c.2.2 hp (.inl ⟨rfl,rfl⟩))
  ·rw[if_neg c]at h;cases h
 ·cases h⟩
class oa(K:ah)(r:List V->Hp->VK->Prop)(g:outParam (List D->Option D)):Prop where
 s:∀{H:Hp} {vs:List V} {ds:List D} {d:D} {Q:VK},dN K H T1 vs ds->g ds=some d->(∀v H',aM H H'->eI K H H' v d->Q v H')->r vs H Q
instance afW[A:SA K n ta fa][C:oa K r g]:SF K n (kW r ta) (λZ=>(fa Z).bind g):=⟨λ{σ hv H U Z τv τd d Q} I h k=>by
 obtain⟨a,ha,h⟩:=ae.mp h;refine A.s I ha λxs H1 s1 w=> ?_;exact C.s w h λv H2 s2 o=>k v H2 (s1.trans s2) (o.early s1)⟩
theorem aw.M4(I:aw K n H U σ hv Z (τv++vs) (τd++ds))(hl:vs.length=ds.length):dN K H T1 vs ds:=by
 refine⟨hl,λi v d i6 hd=> ?_⟩;obtain⟨g1,g2⟩:=I.sets hl i i6 hd;obtain⟨_,_,Fs,_,_,sl⟩:=I.ok;obtain⟨v',ev,sv⟩:=sl _ _ g2;rw[g1]at ev;cases ev;exact bh.vw sv
def Xt(g:List D->Option D)(fa:En->Option (List D×En))(Z:En):Option (D×En):=(fa Z).bind λa=>(g a.1).map λd=>(d,a.2)
instance (priority:=70) afX{r:List V->Hp->VK->Prop}{ta:TA}{fa:En->Option (List D×En)}{g:List D->Option D}[A:tq K n ta fa][C:oa K r g]:SM K n (kW r ta) (Xt g fa):=⟨λ{σ hv H U Z ρ' τv τd d Q} I h k=>by
 obtain⟨⟨a,ρ1⟩,ha,h⟩:=ae.mp h;obtain⟨d',h1,h2⟩:=aV.mp h;cases h2;refine A.s I ha λxs H1 U1 hl I1 bC=> ?_;refine C.s (I1.M4 hl) h1 λv H2 s2 o=> ?_;obtain⟨U2,I2,b5⟩:=(I1.drop hl).push s2 o;exact k v H2 U2 I2 (bC.trans b5)⟩
theorem dN.one{d:D}(h:dN K H N vs [d]):∃v,vs= [v]/\Vw K H N v d:=by
 match vs,h with
 | [v],h=>exact⟨v,rfl,h.2 0 v d rfl rfl⟩
 | [],h=>cases h.1
 |_::_::_,h=>cases h.1
theorem dN.two{d e:D}(h:dN K H N vs [d,e]):∃v u,vs= [v,u]/\Vw K H N v d/\Vw K H N u e:=by
 match vs,h with
 | [v,u],h=>exact⟨v,u,rfl,h.2 0 v d rfl rfl,h.2 1 u e rfl rfl⟩
 | [],h=>cases h.1
 | [_],h=>cases h.1
 |_::_::_::_,h=>cases h.1
theorem Xu:i5 X (.builtin "len") (λxs H Q=>∃a aj,xs= [V.ref a]/\Rd H a (.dK aj)/\Q (.int aj.length) H):=by
 intro aa s σ H xs us Q I r h;obtain⟨a,aj,rfl,ha,q⟩:=h;obtain⟨u,rfl,ru⟩:=vals1 r;cases ru;exact Vr I ha λt s' I'=>⟨.int aj.length,H,I',⟨t,rfl⟩,q⟩
def Fd(K:ah):List V->Hp->VK->Prop:=λxs H Q=>(∃p ys,xs= [.ref p]/\(cc K H p ys\/cN K H p ys)/\Q (.int ys.length) H)\/(∃z,xs= [.str z]/\z.length<=aK/\Q (.int z.length) H)\/∃a aj,xs= [V.ref a]/\Rd H a (.dK aj)/\Q (.int aj.length) H
theorem Xv:i5 X (.builtin "len") (Fd X.K):=by
 intro aa s σ H xs us Q I r h;rcases h with h | h | h
 ·exact UQ aa s σ H xs us Q I r h
 ·exact UR aa s σ H xs us Q I r h
 ·exact Xu aa s σ H xs us Q I r h
def bY:List D->Option D
 | [.nd .lst cs]=>some (.sc (.int cs.length))
 | [.nd .tup cs]=>some (.sc (.int cs.length))
 | [.nd .eL cs]=>some (.sc (.int cs.length))
 | [.sc (.str z)]=>if z.length<=aK then some (.sc (.int z.length)) else none
 | [.nd (.aB _) cs]=>some (.sc (.int cs.length))
 |_=>none
instance afY:oa K (Fd K) bY:=⟨λ{H vs ds d Q} w h k=>by
 unfold bY at h
 split at h
 ·next cs=>cases h;obtain⟨v,rfl,w1⟩:=w.one;obtain⟨a,us,rfl,hc,vl⟩:=w1.gP;rw[<- vl.1]at k;exact .inl ⟨a,us,rfl, .inl (cc.of hc.2),k _ H (aM.refl H) (.sc _)⟩
 ·next cs=>cases h;obtain⟨v,rfl,w1⟩:=w.one;obtain⟨a,us,rfl,hc,vl⟩:=w1.gP;rw[<- vl.1]at k;exact .inl ⟨a,us,rfl, .inr (cN.of hc.2),k _ H (aM.refl H) (.sc _)⟩
 ·next cs=>cases h;obtain⟨v,rfl,w1⟩:=w.one;obtain⟨a,us,rfl,hc,vl⟩:=w1.gP;rw[<- vl.1]at k;exact .inl ⟨a,us,rfl, .inl (j6.sq hc.2),k _ H (aM.refl H) (.sc _)⟩
 ·next z=>
  by_cases c:z.length<=aK
  ·rw[if_pos c]at h;cases h;obtain⟨v,rfl,w1⟩:=w.one;rw[w1.cg];exact .inr (.inl ⟨z,rfl,c,k _ H (aM.refl H) (.sc _)⟩)
  ·rw[if_neg c]at h;cases h
 ·next ks cs=>
  cases h;obtain⟨v,rfl,w1⟩:=w.one;obtain⟨a,us,rfl,hc,vl⟩:=w1.gP;have hl:ks.length=us.length:=hc.1;have rd:Rd H a (.dK (ks.zip us)):=hc.2;refine .inr (.inr ⟨a,ks.zip us,rfl,rd, ?_⟩);rw[uH,hl,Nat.min_self,vl.1];exact k _ H (aM.refl H) (.sc _)
 ·cases h⟩
def Fe(K:ah):List V->Hp->VK->Prop:=λxs H Q=>∃p ys,xs= [.ref p]/\(cc K H p ys\/cN K H p ys)/\∀l,H l=none->Q (.ref l) (aP H l (.lst ys))
theorem Xw:i5 X (.type "list") (Fe X.K):=US
def xZ(K:ah):List V->Hp->VK->Prop:=λxs H Q=>∃p ys,xs= [.ref p]/\((cc K H p ys/\∀l,H l=none->Q (.ref l) (aP H l (.tup ys)))\/(cN K H p ys/\Q (.ref p) H))
theorem M5:i5 X (.type "tuple") (xZ X.K):=UT
def Ff:List D->Option D
 | [.nd .lst cs]=>if bf cs=true then some (.nd .lst cs) else none
 | [.nd .tup cs]=>if bf cs=true then some (.nd .lst cs) else none
 |_=>none
instance afZ:oa K (Fe K) Ff:=⟨λ{H vs ds d Q} w h k=>by
 unfold Ff at h
 split at h
 ·next cs=>
  by_cases c:bf cs=true
  ·rw[if_pos c]at h;cases h;obtain⟨v,rfl,w1⟩:=w.one;obtain⟨a,us,rfl,hc,vl⟩:=w1.gP;exact⟨a,us,rfl, .inl (cc.of hc.2),λl hl=>k _ _ (iq hl _) (vl.own c hl (.inr ⟨rfl,trivial,0,rfl⟩))⟩
  ·rw[if_neg c]at h;cases h
 ·next cs=>
  by_cases c:bf cs=true
  ·rw[if_pos c]at h;cases h;obtain⟨v,rfl,w1⟩:=w.one;obtain⟨a,us,rfl,hc,vl⟩:=w1.gP;exact⟨a,us,rfl, .inr (cN.of hc.2),λl hl=>k _ _ (iq hl _) (vl.own c hl (.inr ⟨rfl,trivial,0,rfl⟩))⟩
  ·rw[if_neg c]at h;cases h
 ·cases h⟩
def oe:List D->Option D
 | [.nd .lst cs]=>if bf cs=true then some (.nd .tup cs) else none
 | [.nd .tup cs]=>if bf cs=true then some (.nd .tup cs) else none
 |_=>none
instance af0:oa K (xZ K) oe:=⟨λ{H vs ds d Q} w h k=>by
 unfold oe at h
 split at h
 ·next cs=>
  by_cases c:bf cs=true
  ·rw[if_pos c]at h;cases h;obtain⟨v,rfl,w1⟩:=w.one;obtain⟨a,us,rfl,hc,vl⟩:=w1.gP;exact⟨a,us,rfl, .inl ⟨cc.of hc.2,λl hl=>k _ _ (iq hl _) (vl.own c hl (.inl ⟨rfl,rfl⟩))⟩⟩
  ·rw[if_neg c]at h;cases h
 ·next cs=>
  by_cases c:bf cs=true
  ·rw[if_pos c]at h;cases h;obtain⟨v,rfl,w1⟩:=w.one;obtain⟨a,us,rfl,hc,vl⟩:=w1.gP;exact⟨a,us,rfl, .inr ⟨cN.of hc.2,k _ H (aM.refl H) (eI.plain w1 c)⟩⟩
  ·rw[if_neg c]at h;cases h
 ·cases h⟩
def x8:List V->Hp->VK->Prop:=λxs H Q=>∃i j,xs= [.int i, .int j]/\Q (.int (if j > i then j else i)) H
def Be:List V->Hp->VK->Prop:=λxs H Q=>∃i j,xs= [.int i, .int j]/\Q (.int (if j < i then j else i)) H
theorem Fg(hc:X.calm=true):i5 X (.builtin "max") x8:=TX hc
theorem M6(hc:X.calm=true):i5 X (.builtin "min") Be:=TY hc
def pF(g:Int->Int->V):List D->Option D
 | [.sc (.int i), .sc (.int j)]=>some (.sc (g i j))
 |_=>none
instance af1:oa K x8 (pF λi j=> .int (if j > i then j else i)):=⟨λ{H vs ds d Q} w h k=>by
 unfold pF at h
 split at h
 ·next i j=>cases h;obtain⟨v,u,rfl,w1,w2⟩:=w.two;rw[w1.cg,w2.cg];exact⟨i,j,rfl,k _ H (aM.refl H) (.sc _)⟩
 ·cases h⟩
instance af2:oa K Be (pF λi j=> .int (if j < i then j else i)):=⟨λ{H vs ds d Q} w h k=>by
 unfold pF at h
 split at h
 ·next i j=>cases h;obtain⟨v,u,rfl,w1,w2⟩:=w.two;rw[w1.cg,w2.cg];exact⟨i,j,rfl,k _ H (aM.refl H) (.sc _)⟩
 ·cases h⟩
end
end VL
namespace VL
open PySem PySem.Spec PyProof.Rows L2
def mK(a b:String):Bool:=a == b || (a == "bool" && b == "int")
def Bf:List String:= ["NoneType","bool","int","str","tuple","list","dict"]
def og:List String:= ["bool","int","str","tuple","list","dict"]
theorem Xx(K:ah):uD K (.type "bool") (.type "int")=some true:=by
 unfold uD;rw[if_neg (by decide)];show(if W.kitMeta "int"=true then W.subIn K (.type "bool") (.type "int") else none)=some true;rw[if_pos (by decide +kernel)];show(fastBuiltinMro "bool").map (·.contains (.type "int"))=some true
 decide +kernel
theorem M7(K:ah):∀a∈Bf,∀b∈og,uD K (.type a) (.type b)=some (mK a b):=by
 intro a ha b hb;simp only[Bf,og,gK,wZ,or_false]at ha hb;rcases ha with rfl | rfl | rfl | rfl | rfl | rfl | rfl <;> rcases hb with rfl | rfl | rfl | rfl | rfl | rfl <;> first
  |exact Xx K
  |exact af3 K _ (by decide)
  |exact Xg K _ _ (by decide) (by decide +kernel) (by decide +kernel)
theorem M8(K:ah)(ha:a∈Bf):∀{ts:List String},(∀b∈ts,b∈og)->W.kitAny K (.type a) (ts.map uz)=some (ts.any (mK a))
 | [],_=>rfl
 |b::ts,h=>by
  rw[dZ,W.kitAny,M7 K a ha b (h b (.head _))];cases e:mK a b with
  |true=>simp[e]
  |false=>
   simp only[e,wU,Bool.false_or];exact M8 K ha λc hc=>h c (.tail _ hc)
def pG:D->Option String
 |.sc .aJ=>some "NoneType"
 |.sc (.bl _)=>some "bool"
 |.sc (.int _)=>some "int"
 |.sc (.str _)=>some "str"
 |.nd .tup _=>some "tuple"
 |.nd .lst _=>some "list"
 |.nd (.aB _) _=>some "dict"
 |.nd (.iK _) _=>some "dict"
 |_=>none
section
variable {K:ah}{H H' H1 H2:Hp}{τv vs:List V}{τd ds:List D}{v y:V}{d:D}{N:Addr->Prop}
theorem M9(h:pG d=some a):a∈Bf:=by
 unfold pG at h
 split at h <;> first | (cases h;decide) | cases h
theorem Vw.ty(w:Vw K H N v d)(h:pG d=some a)(hd:a≠"dict"):kU K H v (.type a):=by
 unfold pG at h
 split at h
 ·cases h;rw[w.cg];exact .aJ
 ·cases h;rw[w.cg];exact .bl _
 ·cases h;rw[w.cg];exact .int _
 ·cases h;rw[w.cg];exact .str _
 ·cases h;obtain⟨a,vs,rfl,_,hc,_⟩:=w.node;exact .tup hc.2
 ·cases h;obtain⟨a,vs,rfl,_,hc,_⟩:=w.node;exact .lst hc.2
 ·cases h;exact absurd rfl hd
 ·cases h;exact absurd rfl hd
 ·cases h
def vh(T:String):List D->Option D
 | [a, .sc (.ty T')]=>if T'=T/\T∈og then(pG a).bind λx=>if x="dict" then none else some (.sc (.bl (mK x T))) else none
 |_=>none
instance af4:oa K (pE K T) (vh T):=⟨λ{H vs ds d Q} w h k=>by
 unfold vh at h
 split at h
 ·next a T'=>
  by_cases c:T'=T/\T∈og
  ·rw[if_pos c]at h;obtain⟨x,h1,h⟩:=ae.mp h;by_cases cd:x="dict"
   ·rw[if_pos cd]at h;cases h
   ·rw[if_neg cd]at h;cases h;obtain⟨v,u,rfl,w1,w2⟩:=w.two;rw[w2.cg,c.1];exact⟨v,_,_,rfl,w1.ty h1 cd,M7 K x (M9 h1) T c.2,k _ H (aM.refl H) (.sc _)⟩
  ·rw[if_neg c]at h;cases h
 ·cases h⟩
def Bg(K:ah):List V->Hp->VK->Prop:=λxs H Q=>∃(x:V) (t:Value) (tp:Addr) (ts:List String) (b:Bool),xs= [x, .ref tp]/\kU K H x t/\H tp=some (.tup (ts.map V.ty))/\W.kitAny K t (ts.map uz)=some b/\Q (.bl b) H
theorem Na:∀{ts:List String} {us:List Value},bA (ts.map V.ty) us->us=ts.map uz
 | [],us,h=>by cases h;rfl
 |t::ts,us,h=>by
  cases h with
  |cons r1 r2=>rw[Na r2,show _=uz t from r1];rfl
theorem Xy:i5 X (.builtin "isinstance") (Bg X.K):=by
 intro aa s σ H xs us Q I r h;obtain⟨x,t,tp,ts,b,rfl,ty,ht,e,q⟩:=h;obtain⟨u,w',rfl,ru,rt⟩:=vals2 r;cases rt;obtain⟨_,ai,rv,o,ho,hc,n,hd⟩:=I.aT tp _ ht;have hits:=Na rv;subst hits;obtain⟨oc,od,af5,nQ⟩:=o;cases hc;cases hd;have cL:∀tk,EP X aa σ Q (.bool b) { s with toks:=tk }:=λtk=>⟨.bl b,H,I.tok tk,rfl,q⟩
 cases ty with
 |aJ=>cases(show u=C5 from ru);exact pY W.kitx_none I.fP kM ho e (λz=>nomatch z) cL
 |bl y=>cases(show u=wN y from ru);exact pY W.kitx_bool I.fP kM ho e (λz=>nomatch z) cL
 |int i=>obtain⟨t,z⟩:=(show ∃t,u=wL i t from ru);cases z;exact pY W.kitx_int I.fP kM ho e (λz=>nomatch z) cL
 |str y=>obtain⟨t,z⟩:=(show ∃t,u=zF y t from ru);cases z;exact pY W.kitx_str I.fP kM ho e (λz=>nomatch z) cL
 |kb y=>obtain⟨t,z⟩:=(show ∃t,u=Jp y t from ru);cases z;exact pY W.kitx_float I.fP kM ho e (λz=>nomatch z) cL
 | @lst a xs ea=>
  cases(show u=gw a from ru);obtain⟨_,_,n',_,h1⟩:=(show fZ X.prog X.w H s.heap a (.lst xs) from I.aT a _ ea)
  exact pY Jv I.fP ⟨_,h1,rfl⟩ ho e (λz=>nomatch z) cL
 | @iz a ob xs ea=>
  cases(show u=gw a from ru);obtain⟨_,_,_,n',_,h1⟩:=(show fZ X.prog X.w H s.heap a (.iz ob (.lst xs)) from I.aT a _ ea)
  exact pY Jv I.fP ⟨_,h1,rfl⟩ ho e (λz=>nomatch z) cL
 | @tup a xs ea=>
  cases(show u=gw a from ru);obtain⟨_,_,_,p⟩:=(show fZ X.prog X.w H s.heap a (.tup xs) from I.aT a _ ea)
  obtain⟨o',h1,h2,_⟩:=p;exact pY W.kitx_tuple I.fP ⟨o',h1,h2⟩ ho e (λz=>nomatch z) cL
 | @dK a aj ea=>
  cases(show u=gw a from ru);obtain⟨_,_,vs,_,p⟩:=(show fZ X.prog X.w H s.heap a (.dK aj) from I.aT a _ ea)
  obtain⟨o',es,ep,h1,h2,_⟩:=p;exact pY Jy I.fP ⟨o',h1,h2.1⟩ ho e (λz=>nomatch z) cL
 | @dT a aj ea=>
  cases(show u=gw a from ru);obtain⟨_,_,xs,_,o',es,ep,h1,h2,_⟩:=(show fZ X.prog X.w H s.heap a (.dT aj) from I.aT a _ ea)
  exact pY Jy I.fP ⟨o',h1,h2.1⟩ ho e (λz=>nomatch z) cL
 | @ins a C dx fs ea cl ha hn AB hm=>
  cases(show u=gw a from ru);obtain⟨mA,O,_⟩:=kf I.aT ea;obtain⟨od,J,_⟩:=O.look;exact pY (W.kitx_own (cl.get _) cl.hd ha hn AB hm) I.fP J ho e (λz=>nomatch z) cL
def vi:List D->Option (List String)
 | []=>some []
 |.sc (.ty t)::r=>(vi r).map (t:: ·)
 |_::_=>none
theorem Nb:∀{cs:List D} {vs:List V} {ts:List String},vs.length=cs.length->(∀(i:Nat) (v:V) (d:D),vs[i]?=some v->cs[i]?=some d->Vw K H N v d)->vi cs=some ts->vs=ts.map V.ty
 | [], [],_,_,_,h=>by rw[vi]at h;cases h;rfl
 | [],_::_,_,h,_,_=>by cases h
 |_::_, [],_,h,_,_=>by cases h
 |d::cs,v::vs,ts,hl,hk,h=>by
  unfold vi at h
  split at h
  ·next e=>cases e
  ·next t r e=>
   cases e;obtain⟨x,h2,h⟩:=aV.mp h;subst h;rw[dZ,(hk 0 v _ rfl rfl).cg,Nb (gm hl) (λi v d a b=>hk (i + 1) v d (by simpa using a) (by simpa using b)) h2]
  ·cases h
def Fh:List D->Option D
 | [a, .nd .tup cs]=>(vi cs).bind λts=>if ts.all (og.contains ·)=true then(pG a).bind λx=>if x="dict" then none else some (.sc (.bl (ts.any (mK x)))) else none
 |_=>none
instance af6:oa K (Bg K) Fh:=⟨λ{H vs ds d Q} w h k=>by
 unfold Fh at h
 split at h
 ·next a cs=>
  obtain⟨ts,h0,h⟩:=ae.mp h;by_cases c:ts.all (og.contains ·)=true
  ·rw[if_pos c]at h;obtain⟨x,h1,h⟩:=ae.mp h;by_cases cd:x="dict"
   ·rw[if_pos cd]at h;cases h
   ·rw[if_neg cd]at h;cases h;obtain⟨v,u,rfl,w1,w2⟩:=w.two;obtain⟨b,us,rfl,_,hc,hl,d4⟩:=w2.node;have e:=Nb hl d4 h0;refine⟨v,_,b,ts,_,rfl,w1.ty h1 cd,by rw[<- e];exact hc.2,M8 K (M9 h1) λt ht=> ?_,k _ H (aM.refl H) (.sc _)⟩;have:=Ad.mp c t ht;simpa using this
  ·rw[if_neg c]at h;cases h
 ·cases h⟩
def x9(K:ah):List V->Hp->VK->Prop:=λxs H Q=>∃(a:Addr) (bs:List Bool),xs= [.ref a]/\cc K H a (bs.map V.bl)/\Q (.bl (bs.all id)) H
theorem Nc(hc:X.calm=true):i5 X (.builtin "all") (x9 X.K):=We hc
def nq:List D->Option (List Bool)
 | []=>some []
 |.sc (.bl b)::r=>(nq r).map (b:: ·)
 |_::_=>none
theorem Nd:∀{cs:List D} {vs:List V} {bs:List Bool},vs.length=cs.length->(∀(i:Nat) (v:V) (d:D),vs[i]?=some v->cs[i]?=some d->Vw K H N v d)->nq cs=some bs->vs=bs.map V.bl
 | [], [],_,_,_,h=>by rw[nq]at h;cases h;rfl
 | [],_::_,_,h,_,_=>by cases h
 |_::_, [],_,h,_,_=>by cases h
 |d::cs,v::vs,ts,hl,hk,h=>by
  unfold nq at h
  split at h
  ·next e=>cases e
  ·next t r e=>
   cases e;obtain⟨x,h2,h⟩:=aV.mp h;subst h;rw[dZ,(hk 0 v _ rfl rfl).cg,Nd (gm hl) (λi v d a b=>hk (i + 1) v d (by simpa using a) (by simpa using b)) h2]
  ·cases h
def vj:List D->Option D
 | [.nd .lst cs]=>(nq cs).map λbs=> .sc (.bl (bs.all id))
 |_=>none
instance af7:oa K (x9 K) vj:=⟨λ{H vs ds d Q} w h k=>by
 unfold vj at h
 split at h
 ·next cs=>
  obtain⟨bs,h1,h2⟩:=aV.mp h;subst h2;obtain⟨v,rfl,w1⟩:=w.one;obtain⟨a,us,rfl,_,hc,hl,d4⟩:=w1.node;have e:=Nd hl d4 h1;exact⟨a,bs,rfl,cc.of (by rw[<- e];exact hc.2),k _ H (aM.refl H) (.sc _)⟩
 ·cases h⟩
end
end VL
namespace VL
open PySem PySem.Spec PyProof.Rows L2
def tK(K:ah)(tl:TE):TI:=λσ H R=>tl σ H λx H1=>(∃a,x= .ref a/\(∃xs,cc K H1 a xs)/\R (xp K a) H1)\/(∃a,x= .ref a/\(∃xs,cN K H1 a xs)/\R (Au K a) H1)\/∃z,x= .str z/\R (AV z) H1
theorem Fi(hl:PE X l tl):PI X tg l (tK X.K tl):=by
 intro aa s σ H R I h;refine bG (hl aa s σ H _ I h) λv s1 ⟨x,H1,I1,r1,q1⟩=> ?_;have cL:∀(b:Addr),b∈ [s1.heap.objs.size]->iQ X aa H1 b:=λb hb=>by
  have e:b=s1.heap.objs.size:=by simpa using hb
  subst e;exact I1.uT (bK _) (I1.aT.fresh (bK _))
 rcases q1 with⟨a,rfl,⟨xs,hq⟩,q⟩ | ⟨a,rfl,⟨xs,hq⟩,q⟩ | ⟨z,rfl,q⟩
 ·cases r1;obtain⟨ai,rv,p,hz⟩:=I1.list hq;exact C4 p.isList ⟨s1.heap.objs.size, [s1.heap.objs.size],_,_,H1,rfl,I1.kept (t':=s1.toks) λb o e=>gy _ e,Tt a _,⟨_,jP _ rfl,rfl,rfl⟩,cL,q⟩
 ·cases r1;obtain⟨ai,rv,p,hz⟩:=I1.tuple hq;exact wpAny_pyIter_tuple (show s1.heap.IsTuple a ai.toArray from p) ⟨s1.heap.objs.size, [s1.heap.objs.size],_,_,H1,rfl,I1.kept (t':=s1.toks) λb o e=>gy _ e,Tu a _,⟨_,jP _ rfl,rfl,rfl⟩,cL,q⟩
 ·obtain⟨t,rfl⟩:=r1;cases ha:z.cps.all (· < 128)
  ·refine wpAny_pyIter_wide ha ⟨s1.heap.objs.size, [s1.heap.objs.size],_,_,H1,rfl,I1.kept (t':=s1.toks) λb o e=>gy _ e,
    Mf (t:=t) (ty:="str_iterator") (by decide) (λA' hA=>Walks.strWide hA _ z t) (λA i s Q E st h=>wpAny_pyIter_striter_wide st h),⟨jj _,_,jP _ rfl,rfl,rfl⟩,cL,q⟩
  ·refine wpAny_pyIter_ascii ha ⟨s1.heap.objs.size, [s1.heap.objs.size],_,_,H1,rfl,I1.kept (t':=s1.toks) λb o e=>gy _ e,
    Mf (t:=t) (ty:="str_ascii_iterator") (by decide) (λA' hA=>Walks.strAscii hA _ z t) (λA i s Q E st h=>wpAny_pyIter_striter_ascii st h),⟨jj _,_,jP _ rfl,rfl,rfl⟩,cL,q⟩
class ya{α:Type}(l:List α)(m:outParam Nat):Prop where
 h:l.length=m
instance {α:Type}:ya ([]:List α) 0:=⟨rfl⟩
instance {α:Type}{a:α}{r:List α}{m:Nat}[L:ya r m]:ya (a::r) (m + 1):=⟨congrArg (· + 1) L.h⟩
section
variable {K:ah}{n:Nat}{H H' H1 H2:Hp}{U U':Addr->Prop}{σ hv:List (Option V)}{Z ρ':En}{τv vs:List V}{τd ds:List D}{v y:V}{d:D}
def Bh(K:ah)(J:It)(H0:Hp)(ds:List D):Prop:=∀H,aM H0 H->J.stop ds.length H/\∀(i:Nat) (d:D),ds[i]?=some d->J.go i H/\∀x H',J.xo i H x H'->aM H H'/\Vw K H' T1 x d
class SI(K:ah)(n:Nat)(wi:TI)(f:outParam (En->Option (List D))):Prop where
 s:∀{σ hv:List (Option V)} {H:Hp} {U:Addr->Prop} {Z:En} {τv:List V} {τd:List D} {ds:List D} {R:It->Hp->Prop},aw K n H U σ hv Z τv τd->f Z=some ds->(∀J H',aM H H'->Bh K J H' ds->R J H')->wi σ H R
def chars(z:Str):List D:=z.cps.toList.map λc=> .sc (.str ⟨#[c]⟩)
def ir:D->Option (List D)
 |.nd .lst cs=>some cs
 |.nd .tup cs=>some cs
 |.nd .eL cs=>some cs
 |.sc (.str z)=>some (chars z)
 |_=>none
theorem Xz{ds:List D}{R:It->Hp->Prop}(w:Vw K H T1 v d)(h:ir d=some ds)(k:∀J,Bh K J H ds->R J H):
  (∃a,v= .ref a/\(∃xs,cc K H a xs)/\R (xp K a) H)\/(∃a,v= .ref a/\(∃xs,cN K H a xs)/\R (Au K a) H)\/∃z,v= .str z/\R (AV z) H:=by
 have wl:∀{a:Addr} {vs:List V} {cs:List D},(∀H',aM H H'->cc K H' a vs)->dN K H T1 vs cs->Bh K (xp K a) H cs:=λ{a vs cs} hs vl H' s=>by
  refine⟨⟨vs,hs H' s,by rw[vl.1];exact bK _⟩,λi d hd=> ?_⟩;obtain⟨u,hu,w⟩:=vl.get hd;exact⟨⟨vs,u,hs H' s,hu⟩,λx H2 ⟨e,q⟩=>by
   subst e;have:=q vs (hs H2 s);rw[hu]at this;cases this;exact⟨aM.refl _,w.same s⟩⟩
 unfold ir at h
 split at h
 ·next cs=>
  cases h;obtain⟨a,vs,rfl,hc,vl⟩:=w.gP;exact .inl ⟨a,rfl,⟨vs,cc.of hc.2⟩,k _ (wl (λH' s=>cc.of (s _ _ hc.2)) vl)⟩
 ·next cs=>
  cases h;obtain⟨a,vs,rfl,hc,vl⟩:=w.gP;refine .inr (.inl ⟨a,rfl,⟨vs,cN.of hc.2⟩,k _ λH' s=> ?_⟩);have hs:cN K H' a vs:=cN.of (s _ _ hc.2);refine⟨⟨vs,hs,by rw[vl.1];exact bK _⟩,λi d hd=> ?_⟩;obtain⟨u,hu,w⟩:=vl.get hd;exact⟨⟨vs,u,hs,hu⟩,λx H2 ⟨e,q⟩=>by
   subst e;have:=q vs hs;rw[hu]at this;cases this;exact⟨aM.refl _,w.same s⟩⟩
 ·next cs=>
  cases h;obtain⟨a,vs,rfl,hc,vl⟩:=w.gP;have ho:j6 K H a vs:=hc.2;exact .inl ⟨a,rfl,⟨vs,ho.sq⟩,k _ (wl (λH' s=>(ho.gb (gO.of s)).sq) vl)⟩
 ·next z=>
  cases h;refine .inr (.inr ⟨z,w.cg,k _ λH' s=> ?_⟩);have lz:(chars z).length=z.cps.size:=by unfold chars;simp
  refine⟨by show z.cps.size<=_;rw[lz];exact bK _,λi d hd=> ?_⟩;have hi:i < z.cps.size:=by rw[<- lz];exact(bB.mp hd).1
  refine⟨hi,λx H2 ⟨e,c,hc,hx⟩=> ?_⟩;subst e hx;refine⟨aM.refl _, ?_⟩;unfold chars at hd;rw[dF]at hd;have:z.cps.toList[i]?=some c:=by simpa using hc
  rw[this]at hd;cases hd;exact .sc _
 ·cases h
instance af8[A:SV K n tl fl]:SI K n (tK K tl) (λZ=>(fl Z).bind ir):=⟨λ{σ hv H U Z τv τd ds R} I h k=>by
 obtain⟨d,h1,h2⟩:=ae.mp h;refine A.s I h1 λx H1 s1 w1=> ?_;exact Xz w1 h2 λJ wk=>k J H1 s1 wk⟩
def iB(lo:Int)(m:Nat):List D:=(lx m).map λ(i:Nat)=> .sc (.int (lo + i))
theorem XC(lo:Int)(m:Nat)(H:Hp):Bh K (uU lo m) H (iB lo m):=λH' s=>by
 have l:(iB lo m).length=m:=by unfold iB;simp
 refine⟨by show m<=_;rw[l];exact bK _,λi d hd=> ?_⟩;have hi:i < m:=by rw[<- l];exact(bB.mp hd).1
 refine⟨hi,λx H2 ⟨e,hx⟩=> ?_⟩;subst e hx;unfold iB at hd;rw[dF,Sm hi]at hd;cases hd;exact⟨aM.refl _, .sc _⟩
open Classical in
def lZ:List D->Option (List D)
 | [.sc (.int j)]=>if -(2 ^ 62)<=j/\j < 2 ^ 62 then some (iB 0 j.toNat) else none
 |_=>none
open Classical in
def yb:List D->Option (List D)
 | [.sc (.int i), .sc (.int j)]=>if -(2 ^ 62)<=i/\i < 2 ^ 62/\ -(2 ^ 62)<=j/\j < 2 ^ 62 then some (iB i (j - i).toNat) else none
 |_=>none
theorem Fj{vs:List V}{ds es:List D}(w:dN K H T1 vs ds)(h:lZ ds=some es):∃j:Int,vs= [.int j]/\ -(2 ^ 62)<=j/\j < 2 ^ 62/\es=iB 0 j.toNat:=by
 unfold lZ at h
 split at h
 ·next j=>
  by_cases c: -(2 ^ 62)<=j/\j < 2 ^ 62
  ·rw[if_pos c]at h;cases h;obtain⟨v,rfl,w1⟩:=w.one;rw[w1.cg];exact⟨j,rfl,c.1,c.2,rfl⟩
  ·rw[if_neg c]at h;cases h
 ·cases h
theorem XD{vs:List V}{ds es:List D}(w:dN K H T1 vs ds)(h:yb ds=some es):∃i j:Int,vs= [.int i, .int j]/\(-(2 ^ 62)<=i/\i < 2 ^ 62/\ -(2 ^ 62)<=j/\j < 2 ^ 62)/\es=iB i (j - i).toNat:=by
 unfold yb at h
 split at h
 ·next i j=>
  by_cases c: -(2 ^ 62)<=i/\i < 2 ^ 62/\ -(2 ^ 62)<=j/\j < 2 ^ 62
  ·rw[if_pos c]at h;cases h;obtain⟨v,u,rfl,w1,w2⟩:=w.two;rw[w1.cg,w2.cg];exact⟨i,j,rfl,c,rfl⟩
  ·rw[if_neg c]at h;cases h
 ·cases h
instance af9[A:SA K n ta fa]:SI K n (Av ta) (λZ=>(fa Z).bind lZ):=⟨λ{σ hv H U Z τv τd ds R} I h k=>by
 obtain⟨a,h1,h2⟩:=ae.mp h;refine A.s I h1 λvs H1 s1 w=> ?_;obtain⟨j,e,c1,c2,e2⟩:=Fj w h2;subst e2;exact⟨j,e,c1,c2,k _ H1 s1 (XC 0 _ H1)⟩⟩
class SG(K:ah)(n:Nat)(g:TG)(f:outParam (D->En->Option En))(is:outParam (List Nat)):Prop where
 s:∀{σ hv:List (Option V)} {H:Hp} {U:Addr->Prop} {Z ρ':En} {τv:List V} {τd:List D} {x:V} {d:D} {Q:L2.St->Hp->Prop},aw K n H U σ hv Z τv τd->Vw K H (λb=>¬ U b) x d->f d Z=some ρ'->(∀aO,aw K n H U aO hv ρ' τv τd->Q aO H)->g x σ H Q
 len:∀{d:D} {Z ρ':En},f d Z=some ρ'->ρ'.length=Z.length
 keep:∀{d:D} {Z ρ':En} {j:Nat} {β:B},f d Z=some ρ'->j∉is->(∀r p,β≠ .ar r p)->Z[j]?=some (some β)->ρ'[j]?=some (some β)
theorem XE{i j:Nat}{β:B}(h:∀r p,β≠ .ar r p)(hj:Z[j]?=some (some β)):(gq i Z)[j]?=some (some β):=by
 unfold gq;rw[dF,hj];cases β with
 |own d=>rfl
 |ro d=>rfl
 |ar r p=>exact absurd rfl (h r p)
instance aga{i:Nat}[L:jS i n]:SG K n (m4 i) (λd Z=>some (bw i (.ro d) Z)) [i] where
 s:=λ{σ hv H U Z ρ' τv τd x d Q} I w h k=>by
  cases h;exact k _ (I.named L.h (β:= .ro d) w)
 len:=λh=>by cases h;unfold bw;rw[bZ,kX]
 keep:=λ{d Z ρ' j β} h hj ha q=>by
  cases h;unfold bw;rw[fq (λz=>hj (by rw[z];exact .head _))];exact XE ha q
theorem jH.snoc(h:jH K H H1 us es)(o:eI K H1 H2 v d)(s0:aM H H1)(s1:aM H1 H2):jH K H H2 (us++ [v]) (es++ [d]):=by
 obtain⟨hl,Fs,dj,fr,rp⟩:=h;obtain⟨G,r,f⟩:=o;have nG:∀i b,Fs i b->¬ G b:=λi b z w=>by
  obtain⟨u,q⟩:=qk (fr i b z).2;rw[(f b w).1]at q;cases q
 refine⟨by simp[hl],λi b=>if i=us.length then G b else Fs i b/\i < us.length,λi j b hi hj=> ?_,λi b hb=> ?_,λi x y hx hy=> ?_⟩
 ·have hi:if i=us.length then G b else Fs i b/\i < us.length:=hi;have hj:if j=us.length then G b else Fs j b/\j < us.length:=hj;by_cases ci:i=us.length
  ·rw[if_pos ci]at hi;by_cases cj:j=us.length
   ·lia
   ·rw[if_neg cj]at hj;exact absurd hi (nG j b hj.1)
  ·rw[if_neg ci]at hi;by_cases cj:j=us.length
   ·rw[if_pos cj]at hj;exact absurd hj (nG i b hi.1)
   ·rw[if_neg cj]at hj;exact dj i j b hi.1 hj.1
 ·have hb:if i=us.length then G b else Fs i b/\i < us.length:=hb;by_cases ci:i=us.length
  ·rw[if_pos ci]at hb;refine⟨?_,(f b hb).2⟩;cases q:H b with
   |none=>rfl
   |some o=>have:=(f b hb).1;rw[s0 b o q]at this;cases this
  ·rw[if_neg ci]at hb;exact⟨(fr i b hb.1).1,xO (fr i b hb.1).2 s1⟩
 ·by_cases ci:i=us.length
  ·subst ci;rw[bI (bK _),mB]at hx;rw[bI (by lia),hl,mB]at hy;cases hx;cases hy;show bh K H2 (λb=>if us.length=us.length then G b else _) v d;simp only[if_pos rfl];exact r
  ·have hi:i < us.length:=by
    have:=(bB.mp hx).1;simp at this;lia
   rw[ba hi]at hx;rw[ba (by lia)]at hy;show bh K H2 (λb=>if i=us.length then G b else Fs i b/\i < us.length) x y;simp only[if_neg ci];exact((rp i x y hx hy).same s1).mono λb z=>⟨z,hi⟩
def gD(n:Nat)(js:List (Option Nat))(Z:En):En:=js.map λo=>o.bind λj=>if j < n then(ab j Z).map B.ro else none
def mL(fg:D->En->Option En)(ft:En->Option Bool)(fe:En->Option D)(ρ0:En):List D->Option (List D)
 | []=>some []
 |d::ds=>(fg d ρ0).bind λρ1=>(ft ρ1).bind λb=>if b=true then(fe ρ1).bind λy=>(mL fg ft fe ρ0 ds).map (y:: ·) else mL fg ft fe ρ0 ds
open Classical in
def kl(n:Nat)(js:List (Option Nat))(is:List Nat)(fi:En->Option (List D))(fg:D->En->Option En)(ft:En->Option Bool)(fe:En->Option D)(Z:En):Option D:=(fi Z).bind λds=>
 if ds.length<=aK/\is.all (λi=>js[i]? == some none)=true then(mL fg ft fe (gD n js Z) ds).map (.nd .lst ·) else none
theorem XF(I:aw K n H U σ hv Z τv τd):aw K js.length H (λ_=>False) (pw js σ) [] (gD n js Z) [] []:=by
 refine⟨⟨by unfold pw gD;simp,λb z=>z.elim,λ_ _=>False,λ_ _ _ z=>z.elim,λ_ _ z=>z.elim,λi β aL=> ?_⟩,by unfold pw gD;simp,by unfold pw;simp⟩;rw[jz,eW]at aL;rw[jz,eW,eW];unfold gD at aL;rw[dF]at aL;cases e:js[i]? with
 |none=>rw[e]at aL;cases aL
 |some o=>
  rw[e]at aL;have aL:(o.bind λj=>if j < n then(ab j Z).map B.ro else none)=some β:=ka aL;cases o with
  |none=>cases aL
  |some j=>
   have aL:(if j < n then(ab j Z).map B.ro else none)=some β:=aL;by_cases c:j < n
   ·rw[if_pos c]at aL;obtain⟨d,h1,h2⟩:=aV.mp aL;subst h2;have:jS j n:=⟨c⟩
    have key:gZ j σ H λv H'=>H'=H/\σ[j]?=some (some v)/\Vw K H T1 v d:=by
     obtain⟨o,g1,g2⟩:=ae.mp h1;cases o with
     |none=>cases g2
     |some γ=>
      obtain⟨v,F,ev,sub,sv⟩:=I.slot g1;rw[I.name c]at ev;refine⟨v,ev,rfl,ev, ?_⟩;cases γ with
      |own d'=>cases g2;exact bh.vw sv
      |ro d'=>cases g2;exact Vw.any sv
      |ar r p=>
       obtain⟨d0,hr,g⟩:=ae.mp g2;obtain⟨_,vr,er,hp⟩:=sv;obtain⟨v',F',mH,_,rp⟩:=I.xP hr;rw[er]at mH;cases mH;exact rp.sub g hp λ_ _=>trivial
    obtain⟨v,ev,_,_,vw⟩:=key;refine⟨v, ?_,vw.mono λ_ _ z=>z⟩;unfold pw;rw[dF,e];show some ((σ[j]?).join)=some (some v);rw[ev];rfl
   ·rw[if_neg c]at aL;cases aL
instance agb{wi:TI}{g:TG}{tt:TT}{te:TE}{is:List Nat}{fi:En->Option (List D)}{fg:D->En->Option En}{ft:En->Option Bool}{fe:En->Option D}[hm:ya js m]
  [A:SI K n wi fi] [G:SG K m g fg is] [T:lW K m tt ft] [Q':SQ K m te fe]:SF K n (u6 wi g tt te js) (kl n js is fi fg ft fe):=⟨λ{σ hv H U Z τv τd d Q} I h k=>by
 have hm:=hm.h;subst hm;obtain⟨ds,h1,h⟩:=ae.mp h;by_cases c:ds.length<=aK/\is.all (λi=>js[i]? == some none)=true
 ·rw[if_pos c]at h;obtain⟨es,h2,h⟩:=aV.mp h;subst h;refine A.s I h1 λJ H1 s1 wk=> ?_;have I1:=XF (js:=js) (I.same s1);have XG:∀i∈is,∀β,(gD n js Z)[i]?≠some (some β):=λi hi β z=>by
   have:=Ad.mp c.2 i hi;have e:js[i]?=some none:=by simpa using this
   unfold gD at z;rw[dF,e]at z;cases z
  have sP:∀(j:Nat) (β:B),(gD n js Z)[j]?=some (some β)->∀r p,β≠ .ar r p:=λj β z r p e=>by
   subst e;unfold gD at z;rw[dF]at z;cases e:js[j]? with
   |none=>rw[e]at z;cases z
   |some o=>
    rw[e]at z;have z:=ka z;cases o with
    |none=>cases z
    |some x=>
     have z:(if x < n then(ab x Z).map B.ro else none)=some (B.ar r p):=z;by_cases c:x < n
     ·rw[if_pos c]at z;obtain⟨_,_,w⟩:=aV.mp z;cases w
     ·rw[if_neg c]at z;cases z
  refine⟨λi m aO ys H'=>m=ds.length - i/\i<=ds.length/\aM H1 H'/\aw K js.length H' (λ_=>False) aO [] (gD n js Z) [] []/\ys.length<=i/\∃ea eb,es=ea++eb/\jH K H1 H' ys ea/\mL fg ft fe (gD n js Z) (ds.drop i)=some eb,⟨ds.length,by simp,jj _,aM.refl _,I1,bK _, [],es,rfl, .nil,h2⟩, ?_⟩;rintro i m aO ys H' ⟨rfl,hi,sx,Ix,hy,ea,eb,rfl,ow,cd⟩;by_cases jQ:i < ds.length
  ·right;have hd:ds[i]?=some ds[i]:=gM jQ;obtain⟨go,yl⟩:=(wk H' sx).2 i _ hd;rw[qN jQ]at cd;rw[mL]at cd;obtain⟨ρ1,b1,cd⟩:=ae.mp cd;obtain⟨b,b2,cd⟩:=ae.mp cd;refine⟨go,λip zs H2=>aM H1 H2/\aw K js.length H2 (λ_=>False) ip [] (gD n js Z) [] []/\zs.length<=i + 1/\∃fa fb,ea++eb=fa++fb/\jH K H1 H2 zs fa/\mL fg ft fe (gD n js Z) (ds.drop (i + 1))=some fb,λip zs H2 ⟨a1,a2,a3,a4⟩=>⟨by lia,_,by lia,rfl,jQ,a1,a2,a3,a4⟩,λx H2 y2=> ?_⟩;obtain⟨s2,w2⟩:=yl x H2 y2;refine G.s (Ix.same s2) (w2.mono λ_ _ z=>z) b1 λip I2=> ?_;have back:∀{H3:Hp},aM H2 H3->aw K js.length H3 (λ_=>False) ip [] (gD n js Z) [] []:=λ{H3} s3=>by
    refine(I2.same s3).weaken (G.len b1).symm λj β q=> ?_;by_cases hj:j∈is
    ·exact absurd q (XG j hj β)
    ·exact G.keep b1 hj (sP j β q) q
   refine T.s I2 b2 λH4 s4=> ?_;cases b with
   |true=>
    rw[if_pos rfl]at cd |-;obtain⟨y,b3,cd⟩:=ae.mp cd;obtain⟨fb,b4,cd⟩:=aV.mp cd;subst cd;refine Q'.o (I2.same s4) b3 λv H5 s5 o=>⟨sx.trans (s2.trans (s4.trans s5)),back (s4.trans s5),by simp;lia,ea++ [y],fb,by simp, ?_,b4⟩
    have o':eI K H' H5 v y:=o.early (s2.trans s4);exact ow.snoc o' sx (s2.trans (s4.trans s5))
   |false=>
    rw[if_neg ji]at cd |-;refine⟨sx.trans (s2.trans s4),back s4,by lia,ea,eb,rfl, ?_,cd⟩;obtain⟨hl,Fs,dj,fr,rp⟩:=ow;exact⟨hl,Fs,dj,λj b z=>⟨(fr j b z).1,xO (fr j b z).2 (s2.trans s4)⟩,λj v d a b=>(rp j v d a b).same (s2.trans s4)⟩
  ·left;have e:i=ds.length:=by lia
   subst e;rw[JJ,mL]at cd;cases cd;rw[eW]at k;refine⟨(wk H' sx).1,λD hD=> ?_⟩;exact k _ _ ((s1.trans sx).trans (iq hD _)) ((ow.node (k:= .lst) sx hD (.inr ⟨rfl,trivial,0,rfl⟩)).early s1)
 ·rw[if_neg c]at h;cases h⟩
end
end VL
namespace VL
open PySem PySem.Spec PyProof.Rows L2
section
variable {K:ah}{n:Nat}{H H' H1 H2:Hp}{U U':Addr->Prop}{σ hv:List (Option V)}{Z ρ':En}{τv vs:List V}{τd ds:List D}{v y:V}{d:D}{E:lM}
structure Fm(K:ah)(J:It)(ds:List D)(P:Hp->(Addr->Prop)->Prop):Prop where
 step:∀{H H' U U'},P H U->b8 U H U' H'->(∀b,U b->jk (H b))->P H' U'
 stop:∀{H U},P H U->J.stop ds.length H
 item:∀{H U} {i:Nat} {d:D},P H U->ds[i]?=some d->J.go i H/\∀x H',J.xo i H x H'->H'=H/\Vw K H (λb=>¬ U b) x d
class Bi(K:ah)(n:Nat)(wi:TI)(f:outParam (En->Option (List D))):Prop where
 s:∀{σ hv:List (Option V)} {H:Hp} {U:Addr->Prop} {Z:En} {τv:List V} {τd:List D} {ds:List D} {R:It->Hp->Prop},aw K n H U σ hv Z τv τd->f Z=some ds->(∀J P H',aM H H'->Fm K J ds P->P H' U->R J H')->wi σ H R
theorem Fn(lo:Int)(m:Nat):Fm K (uU lo m) (iB lo m) λ_ _=>True:=by
 have l:(iB lo m).length=m:=by unfold iB;simp
 refine⟨λ_ _ _=>trivial,λ{H U} _=>by show m<=_;rw[l];exact bK _,λ{H U i d} _ hd=> ?_⟩;have hi:i < m:=by rw[<- l];exact(bB.mp hd).1
 refine⟨hi,λx H2 ⟨e,hx⟩=>⟨e, ?_⟩⟩;subst hx;unfold iB at hd;rw[dF,Sm hi]at hd;cases hd;exact .sc _
instance agc[A:SA K n ta fa]:Bi K n (Av ta) (λZ=>(fa Z).bind lZ):=⟨λ{σ hv H U Z τv τd ds R} I h k=>by
 obtain⟨a,h1,h2⟩:=ae.mp h;refine A.s I h1 λvs H1 s1 w=> ?_;obtain⟨j,e,c1,c2,e2⟩:=Fj w h2;subst e2;exact⟨j,e,c1,c2,k _ _ H1 s1 (Fn 0 _) trivial⟩⟩
instance agd[A:SA K n ta fa]:Bi K n (Kx ta) (λZ=>(fa Z).bind yb):=⟨λ{σ hv H U Z τv τd ds R} I h k=>by
 obtain⟨a,h1,h2⟩:=ae.mp h;refine A.s I h1 λvs H1 s1 w=> ?_;obtain⟨i,j,e,c,e2⟩:=XD w h2;subst e2;exact⟨i,j,e,c,k _ _ H1 s1 (Fn i _) trivial⟩⟩
theorem Fo(h:dN K H (λb=>¬ U b) vs cs)(st:b8 U H U' H')(mu:∀b,U b->jk (H b)):dN K H' (λb=>¬ U' b) vs cs:=⟨h.1,λi v d a b=>(h.2 i v d a b).over (λb o nb q=>st b o q nb) (st.gb mu)⟩
theorem XH{R:It->Hp->Prop}(w:Vw K H (λb=>¬ U b) v d)(h:ir d=some ds)(k:∀J P,Fm K J ds P->P H U->R J H):
  (∃a,v= .ref a/\(∃xs,cc K H a xs)/\R (xp K a) H)\/(∃a,v= .ref a/\(∃xs,cN K H a xs)/\R (Au K a) H)\/∃z,v= .str z/\R (AV z) H:=by
 unfold ir at h
 split at h
 ·next cs=>
  cases h;obtain⟨a,vs,rfl,na,hc,hl,d4⟩:=w.node;refine .inl ⟨a,rfl,⟨vs,cc.of hc.2⟩,k _ (λH U=>H a=some (.lst vs)/\¬ U a/\dN K H (λb=>¬ U b) vs ds) ⟨λ{H H' U U'} ⟨x1,x2,x3⟩ st mu=>⟨(st _ _ x1 x2).1,(st _ _ x1 x2).2,Fo x3 st mu⟩,λ{H U} ⟨x1,_,x3⟩=>⟨vs,cc.of x1,by rw[x3.1];exact bK _⟩,λ{H U i d} ⟨x1,x2,x3⟩ hd=> ?_⟩ ⟨hc.2,na rfl,hl,d4⟩⟩;obtain⟨u,hu,w⟩:=x3.get hd;exact⟨⟨vs,u,cc.of x1,hu⟩,λx H2 ⟨e,q⟩=>⟨e,by
   have:=q vs (cc.of x1);rw[hu]at this;cases this;exact w⟩⟩
 ·next cs=>
  cases h;obtain⟨a,vs,rfl,na,hc,hl,d4⟩:=w.node;refine .inr (.inl ⟨a,rfl,⟨vs,cN.of hc.2⟩,k _ (λH U=>H a=some (.tup vs)/\dN K H (λb=>¬ U b) vs ds) ⟨λ{H H' U U'} ⟨x1,x3⟩ st mu=>⟨st.gb mu _ _ (λz=>z) x1,Fo x3 st mu⟩,λ{H U} ⟨x1,x3⟩=>⟨vs,cN.of x1,by rw[x3.1];exact bK _⟩,λ{H U i d} ⟨x1,x3⟩ hd=> ?_⟩ ⟨hc.2,hl,d4⟩⟩);obtain⟨u,hu,w⟩:=x3.get hd;exact⟨⟨vs,u,cN.of x1,hu⟩,λx H2 ⟨e,q⟩=>⟨e,by
   have:=q vs (cN.of x1);rw[hu]at this;cases this;exact w⟩⟩
 ·next cs=>
  cases h;obtain⟨a,vs,rfl,na,hc,hl,d4⟩:=w.node;have ho:j6 K H a vs:=hc.2;refine .inl ⟨a,rfl,⟨vs,ho.sq⟩,k _ (λH U=>j6 K H a vs/\dN K H (λb=>¬ U b) vs ds) ⟨λ{H H' U U'} ⟨x1,x3⟩ st mu=>⟨x1.gb (st.gb mu),Fo x3 st mu⟩,λ{H U} ⟨x1,x3⟩=>⟨vs,x1.sq,by rw[x3.1];exact bK _⟩,λ{H U i d} ⟨x1,x3⟩ hd=> ?_⟩ ⟨ho,hl,d4⟩⟩;obtain⟨u,hu,w⟩:=x3.get hd;exact⟨⟨vs,u,x1.sq,hu⟩,λx H2 ⟨e,q⟩=>⟨e,by
   have:=q vs (x1.sq);rw[hu]at this;cases this;exact w⟩⟩
 ·next z=>
  cases h;have lz:(chars z).length=z.cps.size:=by unfold chars;simp
  refine .inr (.inr ⟨z,w.cg,k _ (λ_ _=>True) ⟨λ_ _ _=>trivial,λ{H U} _=>by show z.cps.size<=_;rw[lz];exact bK _,λ{H U i d} _ hd=> ?_⟩ trivial⟩);have hi:i < z.cps.size:=by rw[<- lz];exact(bB.mp hd).1
  refine⟨hi,λx H2 ⟨e,c,hc,hx⟩=>⟨e, ?_⟩⟩;subst hx;unfold chars at hd;rw[dF]at hd;have:z.cps.toList[i]?=some c:=by simpa using hc
  rw[this]at hd;cases hd;exact .sc _
 ·cases h
theorem eI.out(o:eI K H H' v d)(mu:∀b,U b->jk (H b)):Vw K H' (λb=>¬ U b) v d:=by
 obtain⟨G,r,f⟩:=o;exact r.view λb z u=>by
  obtain⟨w,q⟩:=qk (mu b u);rw[(f b z).1]at q;cases q
instance (priority:=400) age{tl:TE}{fl:En->Option D}[A:SQ K n tl fl]:Bi K n (tK K tl) (λZ=>(fl Z).bind ir):=⟨λ{σ hv H U Z τv τd ds R} I h k=>by
 obtain⟨d,h1,h2⟩:=ae.mp h;exact A.o I h1 λx H1 s1 o=>XH (o.out I.ok.mu) h2 λJ P wk p=>k J P H1 s1 wk p⟩
def iY(fg:D->En->Option En)(fb:En->Option Fl):List D->En->Option Fl
 | [],Z=>some (.nx Z)
 |d::ds,Z=>(fg d Z).bind λρ1=>(fb ρ1).bind λ
  |.nx aD=>iY fg fb ds aD
  |.ct aD=>iY fg fb ds aD
  |.bk aD=>some (.nx aD)
  |.rt d aD=>some (.rt d aD)
instance agf[A:Bi K n wi fi][G:SG K n g fg is][B':SS K n tb fb]:SS K n (DG wi g tb) (λZ=>(fi Z).bind λds=>iY fg fb ds Z):=⟨λ{σ hv H U Z τv τd fl E} I h k=>by
 obtain⟨ds,h1,h⟩:=ae.mp h;refine A.s I h1 λJ P H1 s1 wk p0=> ?_;have hZ:b8 U H U H1:=λb o q nu=>⟨s1 b o q,nu⟩
 refine⟨λi m aO H'=>m=ds.length - i/\i<=ds.length/\∃U' ρ',aw K n H' U' aO hv ρ' τv τd/\b8 U H U' H'/\P H' U'/\iY fg fb (ds.drop i) ρ'=some fl,⟨ds.length,by simp,jj _,U,Z,I.same s1,hZ,p0,h⟩, ?_⟩;rintro i m aO H' ⟨rfl,hi,U',ρ',Ix,st,p,fo⟩;by_cases jQ:i < ds.length
 ·right;have hd:ds[i]?=some ds[i]:=gM jQ;obtain⟨go,yl⟩:=wk.item p hd;rw[qN jQ,iY]at fo;obtain⟨ρ1,b1,fo⟩:=ae.mp fo;obtain⟨Fq,b2,fo⟩:=ae.mp fo;refine⟨go,λip H2=>∃U2 aD,aw K n H2 U2 ip hv aD τv τd/\b8 U' H' U2 H2/\iY fg fb (ds.drop (i + 1)) aD=some fl,λip H2 ⟨U2,aD,a1,a2,a3⟩=>⟨_,by lia,rfl,jQ,U2,aD,a1,st.trans a2,wk.step p a2 Ix.ok.mu,a3⟩,λx H2 y2=> ?_⟩;obtain⟨e,w2⟩:=yl x H2 y2;subst e;refine G.s Ix w2 b1 λip I2=> ?_;refine B'.s I2 b2 ?_;cases Fq with
  |nx aD=>exact λke H3 U3 I3 s3=>⟨U3,aD,I3,s3,fo⟩
  |ct aD=>exact λke H3 U3 I3 s3=>⟨U3,aD,I3,s3,fo⟩
  |bk aD=>cases fo;exact λke H3 U3 I3 s3=>k ke H3 U3 I3 (st.trans s3)
  |rt d aD=>cases fo;exact λv ke H3 U3 I3 s3=>k v ke H3 U3 I3 (st.trans s3)
 ·left;have e:i=ds.length:=by lia
  subst e;rw[JJ,iY]at fo;cases fo;exact⟨wk.stop p,k aO H' U' Ix st⟩⟩
open Classical in
end
end VL
namespace VL
open PySem PySem.Spec PyProof.Rows L2
section
variable {K:ah}{n:Nat}{H H' H1 H2:Hp}{U U':Addr->Prop}{σ hv:List (Option V)}{Z ρ':En}{τv vs:List V}{τd ds:List D}{v y:V}{d:D}{E:XK}{N:Addr->Prop}{C:Addr}{m:Str}
theorem Nf:∀{ns:List Str} {vs:List V},cy f ns=none->ns.length=vs.length->(ns.zip vs).lookup f=none
 | [], [],_,_=>rfl
 | [],_::_,_,h=>by cases h
 |g::r, [],_,h=>by cases h
 |g::r,v::vs,h,hl=>by
  rw[cy]at h;rw[pX,mz];by_cases c:(f == g)=true
  ·rw[if_pos c]at h;cases h
  ·rw[if_neg c]at h;rw[aec]at c;rw[c];exact Nf (aed.mp h) (gm hl)
def j8(C:Addr)(m:Str):D->Bool
 |.nd (.obj C' ns) _=>decide (C'=C) && (cy m ns).isNone
 |_=>false
theorem Vw.objOf(w:Vw K H N v d)(h:j8 C m d=true):∃a dx fs,v= .ref a/\H a=some (.ins C dx fs)/\fs.lookup m=none:=by
 unfold j8 at h
 split at h
 ·next C' ns cs=>
  rw[pV]at h;obtain⟨a,vs,rfl,_,hc,hl,d4⟩:=w.node;obtain⟨⟨hf,_,_⟩,dx,ha⟩:=hc;have e:C'=C:=by simpa using h.1
  subst e;exact⟨a,dx,_,rfl,ha,Nf (by simpa using h.2) hf⟩
 ·cases h
def methP(G:List D->Option D)(C:Addr)(m:Str)(k:Nat)(fa:En->Option D)(fr:En->Option (List D))(Z:En):Option D:=(fa Z).bind λd=>if j8 C m d=true then(fr Z).bind λds=>if ds.length + 1=k then G (d::ds) else none else none
instance agg[A:SV K n ta fa][R:SA K n t fr]:SF K n (uY C m (eF K k G) [] E ta t) (methP G C m k fa fr):=⟨λ{σ hv H U Z τv τd d Q} I h kk=>by
 obtain⟨x,h1,h⟩:=ae.mp h;by_cases c:j8 C m x=true
 ·rw[if_pos c]at h;obtain⟨ds,h2,h⟩:=ae.mp h;by_cases cl:ds.length + 1=k
  ·rw[if_pos cl]at h;refine A.s I h1 λv H1 s1 w1=> ?_;obtain⟨a,dx,fs,rfl,ha,hl⟩:=w1.objOf c;refine⟨a,dx,fs,rfl,ha,hl,R.s (I.same s1) h2 λvs H2 s2 w2=> ?_⟩;rw[eW];exact⟨x::ds,d,cl, .cons (w1.same s2) w2,h,λv H3 s3 o=>kk v H3 (s1.trans (s2.trans s3)) (o.early (s1.trans s2))⟩
  ·rw[if_neg cl]at h;cases h
 ·rw[if_neg c]at h;cases h⟩
def pH(G:List D->Option (D×List D))(C:Addr)(m:Str)(fp:En->Option Pl)(fr:En->Option (List Ar))(Z:En):Option (D×En):=(fp Z).bind λq=>(dw Z q).bind λd=>if j8 C m d=true then(match q with
 |.rt r p=>(fr Z).bind λas=>bp G (.io ⟨r,p⟩::as) Z
 |.ro _=>none) else none
instance (priority:=600) agh{ta:TE}{t:TA}{br:List Bool}{G:List D->Option (D×List D)}{fp:En->Option Pl}{fr:En->Option (List Ar)}[P:SP K n ta fp][R:qr K n br t fr]:SM K n (uY C m (cq K (true::br) G) [] E ta t) (pH G C m fp fr):=⟨λ{σ hv H U Z ρ' τv τd d Q} I h k=>by
 obtain⟨q,h1,h⟩:=ae.mp h;obtain⟨x,h2,h⟩:=ae.mp h;by_cases c:j8 C m x=true
 ·rw[if_pos c]at h;cases q with
  |ro _=>cases h
  |rt r p=>
   obtain⟨as,h3,h⟩:=ae.mp h;refine P.s I h1 λv H1 s1 w1=> ?_;have I1:=I.same s1;have hZ:b8 U H U H1:=λb o q nu=>⟨s1 b o q,nu⟩
   obtain⟨a,dx,fs,rfl,ha,hl⟩:=(I1.at w1 h2).objOf c;refine⟨a,dx,fs,rfl,ha,hl,R.s I1 h3 λvs ws wd H2 U2 I2 g9 b5 s2 ao=> ?_⟩;rw[eW];exact I2.A5 g9 (hZ.trans b5) (.io (i:=⟨r,p⟩) (w1.step s2 b5) ao) h k
 ·rw[if_neg c]at h;cases h⟩
class fM(K:ah)(C:Addr):Prop where
 h:kT K C
theorem Bj{α:Type}:∀(k:Nat) (xs:List α),bj (gL k false) xs= []
 |0,_=>by simp[bj]
 |k + 1, []=>by simp[bj,gL]
 |k + 1,x::xs=>by rw[List.replicate_succ,bj];exact Bj k xs
theorem XI{Q:VK}(hC:kT K C)(w:dN K H T1 vs ds)(hk:ds.length=k)(hG:G (.nd (.obj C []) []::ds)=some (r, [out]))(hr:r= .sc .aJ)(hx:H x=none)(Ft:H dx=none)(ne:dx≠x)
  (q:∀H',aM H H'->eI K H H' (.ref x) out->Q (.ref x) H'):cq K (true::gL k false) G (.ref x::vs) (aP (aP H dx (.own x)) x (.ins C dx [])) (λv H2=>v= .aJ/\Q (.ref x) H2) E:=by
 have s0:aM H (aP (aP H dx (.own x)) x (.ins C dx [])):=λb o e=>by
  rw[de (kO e hx),de (kO e Ft)];exact e
 have yc:aP (aP H dx (.own x)) x (.ins C dx []) x=some (.ins C dx []):=gX;refine⟨by rw[fN,fN,wQ,w.1,hk], .nd (.obj C []) []::ds,λb=>b=x,r, [out],by rw[fN,fN,wQ,hk], ?_,λi u e hm hu he=> ?_,hG,λv H2 U2 ok st=> ?_⟩
 ·rw[bj,bj,Bj,Bj];refine⟨rfl,λb hb=>by rw[hb,yc];trivial,λi b=>i=0/\b=x,λi j b hi hj=>by rw[hi.1,hj.1],λi b hb=>hb.2,λi β aL=> ?_⟩;cases i with
  |succ i=>simp[bu]at aL
  |zero=>
   cases aL;refine⟨.ref x,rfl, .nd (vs:= []) (λ_ _=>False) ?_ rfl (λ_ _ _ z=>z.elim) (λ_ _ z=>z.elim) λi v d h=>by simp at h⟩;exact⟨⟨rfl,rfl⟩,rfl,⟨rfl,hC,λf hf=>by simp at hf⟩,dx,yc⟩
 ·cases i with
  |zero=>cases hm
  |succ i=>
   have a:vs[i]?=some u:=by simpa using hu
   have b:ds[i]?=some e:=by simpa using he
   exact(w.2 i u e a b).over (λc o _ q=>⟨s0 c o q,λz=>by rw[z,hx]at q;cases q⟩) (gO.of s0)
 ·subst hr;rw[bj,Bj]at ok;obtain⟨_,mu,Fs,dj,sub,sl⟩:=ok;obtain⟨v',ev,sv⟩:=sl 0 (.own (.sc .aJ)) rfl;cases ev;have e0:v= .aJ:=bh.cg sv;obtain⟨x',ex,sx⟩:=sl 1 (.own out) rfl;cases ex;refine⟨e0,q H2 (λb o e=>(st b o (s0 b o e) λz=>by rw[z,hx]at e;cases e).1) ⟨Fs 1,sx,λb z=>⟨?_,mu b (sub 1 b z)⟩⟩⟩;cases e:H b with
  |none=>rfl
  |some o=>exact absurd (sub 1 b z) (st b o (s0 b o e) λz=>by rw[z,hx]at e;cases e).2
def ye:D->Bool
 |.sc .aJ=>true
 |_=>false
def Bk(G:List D->Option (D×List D))(C:Addr)(k:Nat)(fa:En->Option (List D))(Z:En):Option D:=(fa Z).bind λds=>if ds.length=k then(G (.nd (.obj C []) []::ds)).bind λ
 |(r, [o])=>if ye r=true then some o else none
 |_=>none else none
instance agi[hC:fM K C][A:SA K n t fa]:SF K n (DP C (cq K (true::gL k false) G) [] E t) (Bk G C k fa):=⟨λ{σ hv H U Z τv τd d Q} I h kk=>by
 obtain⟨ds,h1,h⟩:=ae.mp h;by_cases c:ds.length=k
 ·rw[if_pos c]at h;obtain⟨⟨r,cZ⟩,h2,h⟩:=ae.mp h
  match cZ,h with
  | [o],h=>
   have h:(if ye r=true then some o else none)=some d:=h;by_cases cr:ye r=true
   ·rw[if_pos cr]at h;cases h;have er:r= .sc .aJ:=by
     unfold ye at cr
     split at cr
     ·rfl
     ·cases cr
    refine A.s I h1 λvs H1 s1 w=> ?_;intro x dx hx Ft ne;rw[eW];exact XI hC.h w c h2 er hx Ft ne λH2 s2 o=>kk _ H2 (s1.trans s2) (o.early s1)
   ·rw[if_neg cr]at h;cases h
  | [],h=>cases h
  |_::_::_,h=>cases h
 ·rw[if_neg c]at h;cases h⟩
instance agj:SF K n LM (λ_=>some (.nd (.aB []) [])):=⟨λ{σ hv H U Z τv τd d Q} I h k=>by
 cases h;intro p hp;exact k _ _ (iq hp _) ((jH.nil (K:=K) (H:=H) (H':=H)).node (k:= .aB []) (aM.refl H) hp (.inr ⟨rfl,rfl,0,rfl⟩))⟩
instance agk:SF K n LN (λ_=>some (.nd (.iK []) [])):=⟨λ{σ hv H U Z τv τd d Q} I h k=>by
 cases h;intro p hp;exact k _ _ (iq hp _) ((jH.nil (K:=K) (H:=H) (H':=H)).node (k:= .iK []) (aM.refl H) hp (.inr ⟨rfl,rfl,0,rfl⟩))⟩
theorem XJ(hc:jN K H a k vs)(h:eN (.nd k cs) dy=some o):Eh H a:=by
 unfold eN at h
 split at h
 ·next ks _ i e=>cases e;exact .inl ⟨_,hc.2⟩
 ·next ks _ gB e=>cases e;exact .inr ⟨_,hc.2⟩
 ·cases h
def jT(fd fy fx:En->Option D)(Z:En):Option D:=(fd Z).bind λd=>(fy Z).bind λy=>(fx Z).bind λx=>(eN d y).bind λ
 |some i=>aZ d i
 |none=>some x
instance agl[A:SV K n td fd][B':SV K n ty fy][C':SV K n tx fx]:SV K n (LR td ty tx) (jT fd fy fx):=⟨λ{σ hv H U Z τv τd d Q} I h k=>by
 obtain⟨x,h1,h⟩:=ae.mp h;obtain⟨y,h2,h⟩:=ae.mp h;obtain⟨z,h3,h⟩:=ae.mp h;obtain⟨o,h4,h⟩:=ae.mp h;refine A.s I h1 λv H1 s1 w1=> ?_;cases x with
 |sc _=>simp[eN]at h4
 |hl _=>simp[eN]at h4
 |nd kk cs=>
  obtain⟨a,vs,rfl,_,hc,hl,d4⟩:=w1.node;refine⟨a,rfl,XJ hc h4,B'.s (I.same s1) h2 λu H2 s2 w2=>C'.s ((I.same s1).same s2) h3 λt H3 s3 w3=> ?_⟩;have XM:jN K H3 a kk vs:=hc.frame (λ_ o e=>(s2.trans s3) _ _ e) (gO.of (s2.trans s3));have g:=XM.E8 hl (w2.same s3) h4;cases o with
  |none=>
   have h:some z=some d:=h;cases h;exact⟨_,g,k t H3 (s1.trans (s2.trans s3)) w3⟩
  |some i=>
   have h:cs[i]?=some d:=h;obtain⟨b,hb⟩:=nY hl h;have e:(some i).bind (vs[·]?)=some b:=hb;rw[e]at g;exact⟨_,g,k b H3 (s1.trans (s2.trans s3)) ((d4 i b d hb h).same (s2.trans s3))⟩⟩
section
variable {κ:Type}[DecidableEq κ]
theorem Ng{y:V}:∀{ks:List κ} {vs:List V} {i:Nat},dk k ks=some i->ks.length=vs.length->ks.Nodup->jv (ks.zip vs) k y=ks.zip (vs.set i y):=λ{ks vs i} h hl nd=>by
 have ha:((ks.zip vs).any λkv=>decide (kv.1=k))=true:=by rw[E7 hl,h];rfl
 unfold jv;rw[if_pos ha];clear ha
 induction ks generalizing vs i with
 |nil=>cases h
 |cons g r ih=>
  match vs,hl with
  | [],hl=>cases hl
  |v::vs,hl=>
   rw[dk]at h;have Nh:=nI.mp nd;by_cases c:g=k
   ·rw[if_pos c]at h;cases h;rw[pX,dZ];have rest:∀(l:List κ) (us:List V),k∉l->(l.zip us).map (λkv=>if kv.1=k then(kv.1,y) else kv)=l.zip us:=by
     intro l
     induction l with
     |nil=>intro us _;rfl
     |cons b l XN=>
      intro us hn;cases us with
      |nil=>rfl
      |cons u us=>
       rw[pX,dZ,XN us λz=>hn (.tail _ z)];have:¬ b=k:=λz=>hn (by rw[z];exact .head _);simp[this]
    rw[rest r vs (by rw[<- c];exact Nh.1)];simp[c]
   ·rw[if_neg c]at h;obtain⟨j,h1,h2⟩:=aV.mp h;subst h2;rw[pX,dZ,ih h1 (gm hl) Nh.2];simp[c]
theorem Ni{y:V}{ks:List κ}{vs:List V}(h:dk k ks=none)(hl:ks.length=vs.length):jv (ks.zip vs) k y=(ks++ [k]).zip (vs++ [y]):=by
 have ha:((ks.zip vs).any λkv=>decide (kv.1=k))=false:=by rw[E7 hl,h];rfl
 unfold jv;rw[if_neg (by rw[ha];exact ji),List.zip_append hl];rfl
end
def yf:D->Option (List aY)
 |.nd .tup ys=>mT ys
 |_=>none
def nr(k:Kd)(cs:List D)(y d:D):Option D:=match k with
 |.aB ks=>(gg y).bind λkey=>if cs.length < aK/\ks.Nodup then(match dk key ks with
  |some i=>some (.nd (.aB ks) (cs.set i d))
  |none=>some (.nd (.aB (ks++ [key])) (cs++ [d]))) else none
 |_=>none
def jq(fv:En->Option (D×En))(fp:En->Option Pl)(fy:En->Option D)(Z:En):Option Fl:=(fv Z).bind λa=>(fp a.2).bind λ
 |.rt r p=>(fy a.2).bind λy=>(fL a.2 r p).bind λz=>(nr z.2.1 z.2.2 y a.1).map λd'=> .nx (eM a.2 r z.1 p d')
 |.ro _=>none
instance agm[A:SM K n tv fv][P:SP K n td fp][Y:SV K n ty fy]:SS K n (Ee td ty tv) (jq fv fp fy):=⟨λ{σ hv H U Z τv τd fl E} I h k=>by
 obtain⟨⟨d,ρ1⟩,h1,h⟩:=ae.mp h;obtain⟨q,h2,h⟩:=ae.mp h;cases q with
 |ro _=>cases h
 |rt r p=>
  obtain⟨y,h5,h⟩:=ae.mp h;obtain⟨⟨d0,kk,cs⟩,h3,h⟩:=ae.mp h;obtain⟨d',h4,h⟩:=aV.mp h;subst h;obtain⟨hr,hg⟩:=tH h3;refine A.s I h1 λx H1 U1 I1 bC=> ?_;refine P.s I1 h2 λo H2 s2 w2=> ?_;have I2:=I1.same s2;refine Y.s I2 h5 λu H3 s3 w3=> ?_;have I3:=I2.same s3;have yg:=w2.same s3;have hZ:b8 U1 H1 U1 H3:=λb o q nu=>⟨(s2.trans s3) b o q,nu⟩
  unfold nr at h4
  split at h4
  ·next ks e=>
   have e:kk= .aB ks:=e;subst e;obtain⟨key,e1,h4⟩:=ae.mp h4;by_cases c:cs.length < aK/\ks.Nodup
   ·rw[if_pos c]at h4;obtain⟨a,dx,vs,rfl,ha,hf,hl,_,ed⟩:=aw.edit (xs:= [x]) (ds:= [d]) I3 rfl yg hr hg rfl;have hf:ks.length=vs.length:=hf
    split at h4
    ·next i e2=>
     cases h4;have hi:i < vs.length:=by rw[<- hf];exact xX e2
     refine⟨a,_,rfl, .inl ⟨_,key,ha,w3.key e1,by rw[uH];lia,rfl⟩, ?_⟩;rw[Ng e2 hf c.2];obtain⟨U4,I4,ki⟩:=ed (.aB ks) (vs.set i x) (cs.set i d) (λj=>if j=i then vs.length else j) rfl (by show ks.length=(vs.set i x).length;rw[bZ];exact hf) (by rw[bZ,bZ];exact hl)
      (λx z hx hz=>A2 hi x z (by rw[bZ]at hx;exact hx) (by rw[bZ]at hz;exact hz)) (rE hi) (by rw[hl];exact rE (by lia))
     exact k σ _ U4 I4 (bC.trans (hZ.trans ki))
    ·next e2=>
     cases h4;refine⟨a,_,rfl, .inl ⟨_,key,ha,w3.key e1,by rw[uH];lia,rfl⟩, ?_⟩;rw[Ni e2 hf];obtain⟨U4,I4,ki⟩:=ed (.aB (ks++ [key])) (vs++ [x]) (cs++ [d]) id rfl (by show(ks++ [key]).length=_;simp;exact hf) (by simp;exact hl) (λx z _ _ h=>h) (λj x h=>h) λj x h=>h;exact k σ _ U4 I4 (bC.trans (hZ.trans ki))
   ·rw[if_neg c]at h4;cases h4
  ·cases h4⟩
end
end VL
namespace HT
open PySem PySem.Spec PyProof.Rows L2
section
variable {w:World}{A:Around}{E:Value->Shared->Prop}{s:Shared}
theorem XO{t sl:Addr}{items:Array Value}{vl vu:Value}{lo hi:Option Int}{Q:Value->Shared->Prop}(ht:IsTup s.heap t items)(hs:s.heap.IsSliceOf sl vl vu .none)(pl:IsPart vl lo)(pu:IsPart vu hi)
  (hw:bO items.size 0 lo=0/\bO items.size items.size hi=items.size) (h:Q (.ref t) s):wpAny (model prog w) A (uv (.ref t) (.ref sl)) Q E s:=by
 obtain⟨os,sQ,xt,sR⟩:=id hs;have DU:s.TypeIs (.ref sl) "slice":=⟨os,sQ,xt⟩
 unfold uv
 try with_reducible refine qL ?_
 first | refine aW (cJ ?_) | skip
 refine aW (wpAny_sequenceKey ht.typeIs (by decide) ?_);refine aW (adJ (name:=af "__getitem__") ht.typeIs Ab
  (wpAny_call_entry Ab ht.typeIs adK ?_ (args_tuple_getitem _ _)))
 show wpAny _ _ (adZ (.ref t) >>= _) _ _ s;refine aW (tupleItemsOf_ ht ?_);refine aW (RL DU ?_);rw[if_pos (by decide)];refine aW (K8 hs pl pu ?_);have XQ:(((bO items.size 0 lo:Nat):Int) == 0 && (1:Int) == 1 && (bO items.size items.size hi - bO items.size 0 lo) == items.size)=true:=by
  rw[hw.1,hw.2];simp
 show wpAny _ _ (if(((bO items.size 0 lo:Nat):Int) == 0 && (1:Int) == 1 && (bO items.size items.size hi - bO items.size 0 lo) == items.size)=true then _ else _) _ _ s;rw[if_pos XQ];unfold Builtin.Tuple.tupleIsExact;refine aW (aW (RL ht.typeIs (cJ ?_)));rw[if_pos (by decide)];exact aW (wpAny_rule (cJ ⟨_,rfl,cJ h⟩))
end
end HT
namespace VL
open PySem PySem.Spec PyProof.Rows L2
def Nj(K:ah):V->Option Int->Option Int->Hp->VK->Prop:=λx lo hi H Q=>∃a xs,x= .ref a/\cN K H a xs/\(HT.bO xs.length 0 lo=0/\HT.bO xs.length xs.length hi=xs.length)/\Q (.ref a) H
theorem XR:mG X (Nj X.K):=by
 intro aa s σ H x v vl vu lo hi sl Q I rx hs pl pu h;obtain⟨a,xs,rfl,hx,hw,q⟩:=h;cases rx;obtain⟨ai,r,ht,hz⟩:=I.tuple hx;have cG:ai.toArray.size=xs.length:=by rw[fY];exact r.length.symm
 refine⟨"tuple",_,Ab.lookup,ht.typeIs, ?_⟩;exact HT.XO ht hs pl pu (by rw[cG];exact hw) ⟨.ref a,H,I,rfl,q⟩
def XS:V->Option Int->Option Int->Hp->VK->Prop:=λx lo hi H Q=>∃z,x= .str z/\z.length<=aK/\Q (.str (JF z lo hi)) H
def md(K:ah):V->Option Int->Option Int->Hp->VK->Prop:=λx lo hi H Q=>Lc K x lo hi H Q\/Nj K x lo hi H Q\/Ln K x lo hi H Q\/XS x lo hi H Q
theorem rH:mG X (md X.K):=mG.or UB (mG.or XR (mG.or UN Wh))
def cutD{α:Type}(xs:List α)(lo hi:Option Int):List α:=(xs.drop (HT.bO xs.length 0 lo)).take (HT.bO xs.length xs.length hi - HT.bO xs.length 0 lo)
def mf(a:D)(lo hi:Option Int):Option D:=match a with
 |.nd .tup cs=>if bf cs=true then some (.nd .tup (cutD cs lo hi)) else none
 |.nd .lst cs=>if bf cs=true then some (.nd .lst (cutD cs lo hi)) else none
 |.nd .eL cs=>if bf cs=true then some (.nd .lst (cutD cs lo hi)) else none
 |.sc (.str z)=>if z.length<=aK then some (.sc (.str (JF z lo hi))) else none
 |_=>none
section
variable {K:ah}{n:Nat}{H H' H1 H2:Hp}{U U':Addr->Prop}{σ hv:List (Option V)}{Z ρ':En}{τv vs:List V}{τd ds:List D}{v y:V}{d:D}
theorem Bl{α β:Type}{R:α->β->Prop}{xs:List α}{ys:List β}(hl:xs.length=ys.length)(h:∀(i:Nat) (x:α) (y:β),xs[i]?=some x->ys[i]?=some y->R x y)(lo hi:Option Int):
  (cutD xs lo hi).length=(cutD ys lo hi).length/\∀(i:Nat) (x:α) (y:β),(cutD xs lo hi)[i]?=some x->(cutD ys lo hi)[i]?=some y->R x y:=by
 unfold cutD;rw[hl];generalize HT.bO ys.length 0 lo=p;generalize HT.bO ys.length ys.length hi - p=q;refine⟨by simp[hl],λi x y hx hy=> ?_⟩;by_cases c:i < q
 ·rw[R8 c,List.getElem?_drop]at hx hy;exact h _ x y hx hy
 ·rw[List.getElem?_take,if_neg c]at hx;cases hx
theorem Fu(h:bf cs=true)(hs:∀d∈es,d∈cs):bf es=true:=sZ λd hd=>Ew h (hs d hd)
theorem Fv{α:Type}{xs:List α}{lo hi:Option Int}:∀x∈cutD xs lo hi,x∈xs:=λx hx=>JK (JL hx)
class SO(K:ah)(n:Nat)(t:TO)(f:outParam (En->Option (Option Int))):Prop where
 s:∀{σ hv:List (Option V)} {H:Hp} {U:Addr->Prop} {Z:En} {τv:List V} {τd:List D} {o:Option Int} {Q:Option Int->Hp->Prop},aw K n H U σ hv Z τv τd->f Z=some o->(∀H',aM H H'->Q o H')->t σ H Q
instance agn:SO K n DW (λ_=>some none):=⟨λI h k=>by cases h;exact k _ (aM.refl _)⟩
def rV:D->Option (Option Int)
 |.sc (.int i)=>some (some i)
 |_=>none
instance ago[A:SV K n t f]:SO K n (DX t) (λZ=>(f Z).bind rV):=⟨λ{σ hv H U Z τv τd o Q} I h k=>by
 obtain⟨d,h1,h2⟩:=ae.mp h;refine A.s I h1 λv H1 s1 w1=> ?_;unfold rV at h2
 split at h2
 ·next i=>cases h2;exact⟨i,w1.cg,k H1 s1⟩
 ·cases h2⟩
theorem Fw{Q:VK}{x:D}{lo hi:Option Int}(w:Vw K H T1 v x)(h:mf x lo hi=some d)(k:∀v H',aM H H'->eI K H H' v d->Q v H'):md K v lo hi H Q:=by
 unfold mf at h
 split at h
 ·next cs=>
  by_cases c:bf cs=true
  ·rw[if_pos c]at h;cases h;obtain⟨a,vs,rfl,hc,vl⟩:=w.gP;by_cases cw:HT.bO vs.length 0 lo=0/\HT.bO vs.length vs.length hi=vs.length
   ·refine .inr (.inl ⟨a,vs,rfl,cN.of hc.2,cw, ?_⟩);have e:cutD cs lo hi=cs:=by
     unfold cutD;rw[<- vl.1,cw.1,cw.2,JM,So,vl.1,JN]
    rw[e]at k;exact k _ H (aM.refl H) (eI.plain w c)
   ·refine .inl ⟨a,vs,rfl,cN.of hc.2,cw,λp hp=> ?_⟩;have g:=Bl vl.1 vl.2 lo hi;exact k _ _ (iq hp _) (dN.own (k:= .tup) ⟨g.1,g.2⟩ (Fu c Fv) hp (.inl ⟨rfl,rfl⟩))
  ·rw[if_neg c]at h;cases h
 ·next cs=>
  by_cases c:bf cs=true
  ·rw[if_pos c]at h;cases h;obtain⟨a,vs,rfl,hc,vl⟩:=w.gP;refine .inr (.inr (.inl ⟨a,vs,rfl,cc.of hc.2,λp hp=> ?_⟩));have g:=Bl vl.1 vl.2 lo hi;exact k _ _ (iq hp _) (dN.own (k:= .lst) ⟨g.1,g.2⟩ (Fu c Fv) hp (.inr ⟨rfl,trivial,0,rfl⟩))
  ·rw[if_neg c]at h;cases h
 ·next cs=>
  by_cases c:bf cs=true
  ·rw[if_pos c]at h;cases h;obtain⟨a,vs,rfl,hc,vl⟩:=w.gP;refine .inr (.inr (.inl ⟨a,vs,rfl,j6.sq hc.2,λp hp=> ?_⟩));have g:=Bl vl.1 vl.2 lo hi;exact k _ _ (iq hp _) (dN.own (k:= .lst) ⟨g.1,g.2⟩ (Fu c Fv) hp (.inr ⟨rfl,trivial,0,rfl⟩))
  ·rw[if_neg c]at h;cases h
 ·next z=>
  by_cases c:z.length<=aK
  ·rw[if_pos c]at h;cases h;exact .inr (.inr (.inr ⟨z,w.cg,c,k _ H (aM.refl H) (.sc _)⟩))
  ·rw[if_neg c]at h;cases h
 ·cases h
def yh(fe:En->Option D)(fl fh:En->Option (Option Int))(Z:En):Option D:=(fe Z).bind λd=>(fl Z).bind λlo=>(fh Z).bind λhi=>mf d lo hi
instance agp[A:SV K n te fe][L:SO K n tl fl][R:SO K n th fh]:SF K n (AF (md K) te tl th) (yh fe fl fh):=⟨λ{σ hv H U Z τv τd d Q} I h k=>by
 obtain⟨x,h1,h⟩:=ae.mp h;obtain⟨lo,h2,h⟩:=ae.mp h;obtain⟨hi,h3,h⟩:=ae.mp h;refine A.s I h1 λv H1 s1 w1=>L.s (I.same s1) h2 λH2 s2=>R.s ((I.same s1).same s2) h3 λH3 s3=> ?_;exact Fw (w1.same (s2.trans s3)) h λv H4 s4 o=>k v H4 (s1.trans (s2.trans (s3.trans s4))) (o.early (s1.trans (s2.trans s3)))⟩
def tL(i d:D)(cs:List D):Option (List D):=match i with
 |.sc (.int j)=>(eX cs.length j).map λp=>cs.set p d
 |_=>none
theorem XT{i d:D}(h:tL i d cs=some gB):∃j p,i= .sc (.int j)/\eX cs.length j=some p/\gB=cs.set p d:=by
 unfold tL at h
 split at h
 ·next j=>
  obtain⟨p,h1,h2⟩:=aV.mp h;exact⟨j,p,rfl,h1,h2.symm⟩
 ·cases h
def Bm(fe:En->Option (D×En))(fp:En->Option Pl)(fi:En->Option D)(Z:En):Option Fl:=(fe Z).bind λa=>(fp a.2).bind λ
 |.rt r p=>(fi a.2).bind λi=>(tI a.2 r p (tL i a.1)).map .nx
 |.ro _=>none
instance agq[A:SM K n te fe][P:SP K n to fp][J:SV K n ti fi]:SS K n (qU te (Ks to ti Ll)) (Bm fe fp fi):=⟨λ{σ hv H U Z τv τd fl E} I h k=>by
 obtain⟨⟨d,ρ1⟩,h1,h⟩:=ae.mp h;obtain⟨q,h2,h⟩:=ae.mp h;cases q with
 |ro _=>cases h
 |rt r p=>
  obtain⟨i,h3,h⟩:=ae.mp h;obtain⟨aD,h4,h⟩:=aV.mp h;subst h;refine A.s I h1 λx H1 U1 I1 bC=> ?_;refine P.s I1 h2 λo H2 s2 w2=> ?_;have I2:=I1.same s2;refine J.s I2 h3 λj H3 s3 w3=> ?_;have I3:=I2.same s3;have yg:=w2.same s3;have hZ:b8 U1 H1 U1 H3:=λb o q nu=>⟨(s2.trans s3) b o q,nu⟩
  obtain⟨⟨d0,kk,cs⟩,g1,g2⟩:=ae.mp h4;obtain⟨hr,hg⟩:=tH g1
  split at g2
  ·next e=>
   have e:kk= .lst:=e;subst e;obtain⟨gB,g3,g4⟩:=aV.mp g2;subst g4;obtain⟨z,pp,ei,g5,g6⟩:=XT (show tL i d cs=some gB from g3);subst ei;subst g6
   ·skip
    obtain⟨a,dx,vs,rfl,ha,hf,hl,_,ed⟩:=aw.edit (xs:= [x]) (ds:= [d]) I3 rfl yg hr hg rfl;have hi:pp < vs.length:=by rw[hl];exact WR g5
    refine⟨a,vs,z,pp,rfl,w3.cg,ha,by rw[hl];exact g5, ?_⟩;obtain⟨U4,I4,ki⟩:=ed .lst (vs.set pp x) (cs.set pp d) (λj=>if j=pp then vs.length else j) rfl trivial (by rw[bZ,bZ];exact hl)
     (λx z hx hz=>A2 hi x z (by rw[bZ]at hx;exact hx) (by rw[bZ]at hz;exact hz)) (rE hi) (by rw[hl];exact rE (by lia))
    exact k σ _ U4 I4 (bC.trans (hZ.trans ki))
  ·cases g2⟩
def Bn(fp:En->Option Pl)(Z:En):Option (D×En):=(fp Z).bind λ
 |.rt r p=>(fL Z r p).bind λz=>match z.2.1 with
  |.lst=>(z.2.2[z.2.2.length - 1]?).bind λd=>if plain d=true then some (d,eM Z r z.1 p (.nd .lst z.2.2.dropLast)) else none
  |_=>none
 |.ro _=>none
theorem Nk{α:Type}{xs:List α}{i:Nat}{x:α}(h:xs.dropLast[i]?=some x):xs[i]?=some x:=by
 rw[List.getElem?_dropLast]at h
 split at h
 ·exact h
 ·cases h
instance (priority:=600) agr{to:TE}{fp:En->Option Pl}[P:SP K n to fp]:SM K n (D4 K "list" D6 to) (Bn fp):=⟨λ{σ hv H U Z ρ' τv τd d Q} I h k=>by
 obtain⟨q,h1,h⟩:=ae.mp h;cases q with
 |ro _=>cases h
 |rt r p=>
  obtain⟨⟨d0,kk,cs⟩,g1,g2⟩:=ae.mp h;obtain⟨hr,hg⟩:=tH g1
  split at g2
  ·next e=>
   have e:kk= .lst:=e;subst e;obtain⟨d1,g3,g4⟩:=ae.mp g2;by_cases c:plain d1=true
   ·rw[if_pos c]at g4;cases g4;refine P.s I h1 λx H1 s1 w1=> ?_;have I1:=I.same s1;have hZ:b8 U H U H1:=λb o q nu=>⟨s1 b o q,nu⟩
    obtain⟨a,dx,vs,rfl,ha,hf,hl,vl,ed⟩:=aw.edit (τv:=τv) (τd:=τd) (xs:= []) (ds:= []) (by rw[eW,eW];exact I1) rfl w1 hr hg rfl;have g3:cs[cs.length - 1]?=some d:=g3;obtain⟨y,hy,wy⟩:=vl.get g3;obtain⟨U3,I3,jC⟩:=ed .lst vs.dropLast cs.dropLast id rfl trivial (by simp[hl]) (λx z _ _ h=>h) (λj x h=>by rw[eW];exact Nk h) (λj x h=>by rw[eW];exact Nk h);have Nl:Vw K (aP H1 a (.lst vs.dropLast)) T1 y d:=((wy.plain c).frame (λ_ _ z=>z.elim) (xQ (by rw[ha];trivial))).vw
    ·obtain⟨U4,I4,ki⟩:=I3.push (aM.refl _) (eI.plain Nl c);exact⟨ES ha,a,vs,y,rfl,rfl,ha,by rw[hl];exact hy,k _ _ U4 I4 (hZ.trans (jC.trans ki))⟩
   ·rw[if_neg c]at g4;cases g4
  ·cases g2⟩
end
end VL
namespace VL
open PySem PySem.Spec PyProof.Rows L2
theorem Fx{K:ah}{m:Nat}{G:List D->Option D}{vs:List V}{H:Hp}{Q:VK}{E:XK}(h:eF K m G vs H Q E):vs.length=m:=by
 obtain⟨ds,d,hd,w,_⟩:=h;rw[w.1,hd]
def lG(X:Cx)(scope:Scope):List Str->List (Option Nat)->Prop
 | [], []=>True
 |_::N,none::js=>lG X scope N js
 |x::N,some j::js=>(X.N[j]?=some x/\scope.names.lookup x=some .free/\(X.env.scope.names.lookup x=some .cell\/X.env.scope.names.lookup x=some .free))/\lG X scope N js
 |_,_=>False
def vm:List Str->List (Option Nat)->List Str
 |_::N,none::js=>vm N js
 |x::N,some _::js=>x::vm N js
 |_,_=> []
theorem lG.len:∀{N:List Str} {js:List (Option Nat)},lG X scope N js->js.length=N.length
 | [], [],_=>rfl
 |_::N,none::js,h=>congrArg (· + 1) (lG.len (N:=N) (js:=js) h)
 |_::N,some _::js,h=>congrArg (· + 1) (lG.len (N:=N) (js:=js) h.2)
 | [],_::_,h=>h.elim
 |_::_, [],h=>h.elim
theorem lG.at:∀{N:List Str} {js:List (Option Nat)} {i j:Nat} {x:Str},lG X scope N js->js[i]?=some (some j)->N[i]?=some x->X.N[j]?=some x/\scope.names.lookup x=some .free/\(X.env.scope.names.lookup x=some .cell\/X.env.scope.names.lookup x=some .free)
 | [], [],_,_,_,_,h,_=>by simp at h
 |_::N,none::js,0,j,x,_,h,_=>by cases h
 |_::N,none::js,i + 1,j,x,h,h1,h2=>lG.at (N:=N) (js:=js) (i:=i) h (by simpa using h1) (by simpa using h2)
 |_::N,some _::js,0,j,x,h,h1,h2=>by cases h1;cases h2;exact h.1
 |_::N,some _::js,i + 1,j,x,h,h1,h2=>lG.at (N:=N) (js:=js) (i:=i) h.2 (by simpa using h1) (by simpa using h2)
 | [],_::_,_,_,_,h,_,_=>h.elim
 |_::_, [],_,_,_,h,_,_=>h.elim
theorem lG.mem:∀{N:List Str} {js:List (Option Nat)} {x:Str},lG X scope N js->x∈vm N js->X.env.scope.names.lookup x=some .cell\/X.env.scope.names.lookup x=some .free
 | [], [],_,_,h=>by simp[vm]at h
 |_::N,none::js,x,h,hm=>lG.mem (N:=N) (js:=js) h hm
 |y::N,some _::js,x,h,hm=>by
  rw[vm]at hm;cases hm with
  |head=>exact h.1.2.2
  |tail _ hm=>exact lG.mem (N:=N) (js:=js) h.2 hm
 | [],_::_,_,h,_=>h.elim
 |_::_, [],_,h,_=>h.elim
theorem mM(h:lG X scope N js)(Ep:∀z∈scope.names,z.2= .free->z.1∈vm N js:=by decide +kernel):xF X N scope js:=
 ⟨h.len,λi j x e1 e2=>h.at e1 e2,λz hz mN=>h.mem (Ep z hz mN)⟩
structure ny(P:Program)(w:World)(K:ah)(mg:Str->Option Value)(base:Heap)(C:Addr)(m:Str)(ps:List Str)(k:Nat)(sp:Sp):Prop where
 cl:kT K C
 ex:∃(f:Addr) (fd:jY),b9 P w K mg base cQ k f fd ps sp/\Binds K fd ps []/\CY K C m f
structure Fy(P:Program)(w:World)(K:ah)(mg:Str->Option Value)(base:Heap)(x:Str)(C:Addr)(ps:List Str)(k:Nat)(sp:Sp):Prop where
 cl:kT K C
 ex:∃(f:Addr) (fd:jY),b9 P w K mg base cQ k f fd ps sp/\Binds K fd ps []/\Mk K C f/\mg x=some (.ref C)
section
variable {j k:Nat}{x m:Str}{e o:Expr}{ta:TE}
theorem Nm{pl:Sem Bool}(M:ny X.prog X.w X.K X.mg X.base C m ps k sp)(hr:fK j X.A)(he:PE X o ta)(ha:PA X (e::es) t)(hj:k<=j:=by decide)
  (sG:cD (e::es) X.env=(false,eval e X.env)::cD es X.env:=by rfl) (df:(backTo pos (cD es X.env)).any (·.1)=false:=by rfl)
  (ht:eval (.Call (.Attribute o m iX) (e::es) [] pos) X.env=(do
   let ov <- eval o X.env
   zv iX.atName
   let (f,first) <- holding [ov] (zA ov m pl)
   Je pos f first (backTo pos (cD (e::es) X.env)) (wC pos (wF [] X.env))):=by rfl):
  PE X (.Call (.Attribute o m iX) (e::es) [] pos) (uY C m sp [] E0 ta t):=by
 obtain⟨f,fd,F,b,hm⟩:=M.ex;exact Um (pl:=pl) he M.cl hm F (hr.mono hj) b .nil AK ha sG df ht
theorem Bo{pl:Sem Bool}(M:ny X.prog X.w X.K X.mg X.base C m ps k sp)(hr:fK j X.A)(he:PE X o ta)(hj:k<=j:=by decide)
  (ht:eval (.Call (.Attribute o m iX) [] [] pos) X.env=(do
   let ov <- eval o X.env
   zv iX.atName
   let (f,first) <- holding [ov] (zA ov m pl)
   Je pos f first (backTo pos (cD [] X.env)) (wC pos (wF [] X.env))):=by rfl):
  PE X (.Call (.Attribute o m iX) [] [] pos) (uY C m sp [] E0 ta g7):=by
 obtain⟨f,fd,F,b,hm⟩:=M.ex;exact Uo (pl:=pl) he M.cl hm F (hr.mono hj) b .nil AK ht
theorem XU(M:Fy X.prog X.w X.K X.mg X.base x C ps k sp)(hr:fK j X.A)(hg:Gl X x)(ha:PA X (e::es) t)(hj:k + 1<=j:=by decide)(mF:(x == ("__debug__":Str))=false:=by decide)
  (he:cD (e::es) X.env=(false,eval e X.env)::cD es X.env:=by rfl) (df:(backTo pos (cD es X.env)).any (·.1)=false:=by rfl):
  PE X (.Call (.Name x p) (e::es) [] pos) (DP C sp [] E0 t):=by
 obtain⟨f,fd,F,b,mk,hm⟩:=M.ex;exact Uq mk F (hr.mono hj) hg hm b .nil AK ha mF he df
theorem XW{X:Cx}{K:ah}(hK:X.K=K){e:Expr}{f:Str}{pos:Pos}{ta:TE}(he:PE X e ta)(hb:qM e f X.env (eval e X.env)=eval e X.env):PE X (.Attribute e f pos) (xq K ta f):=by
 subst hK;exact Ug he hb
theorem XY(hk:PE X kk tk)(hv:PE X vv tv):PE X (.Dict [some kk] [vv] pos) (xC [(tk,tv)]):=
 LQ (rB hk hv Ef) rfl rfl (List.cons_ne_nil _ _) (aef rfl)
end
section
variable {K:ah}{n:Nat}{H H' H1 H2:Hp}{U U':Addr->Prop}{σ hv:List (Option V)}{Z ρ':En}{τv vs:List V}{τd ds:List D}{v y:V}{d:D}
instance ags:lW K n xJ (λ_=>some true):=⟨λI h k=>by cases h;exact k _ (aM.refl _)⟩
theorem XZ{α β:Type}{xs:List α}{ys:List β}(h:xs.length=ys.length):xs.isEmpty=ys.isEmpty:=by
 cases xs <;> cases ys <;> simp at h |-
def Nn(fk fv:En->Option D)(Z:En):Option D:=(fk Z).bind λk=>(fv Z).bind λv=>(gg k).map λkey=> .nd (.aB [key]) [v]
instance agt[A:SV K n tk fk][B':SQ K n tv fv]:SF K n (xC [(tk,tv)]) (Nn fk fv):=⟨λ{σ hv H U Z τv τd d Q} I h k=>by
 obtain⟨a,ha,h⟩:=ae.mp h;obtain⟨b,hb,h⟩:=ae.mp h;obtain⟨key,hk,h⟩:=aV.mp h;subst h;intro p hp;have s0:aM H (aP H p (.dK [])):=iq hp _;refine A.s (I.same s0) ha λx H1 s1 w1=>B'.o ((I.same s0).same s1) hb λy H2 s2 o=> ?_;have e0:H2 p=some (.dK []):=s2 _ _ (s1 _ _ gX);refine⟨e0, [(key,y)],by rw[w1.key hk];rfl,by simp, ?_⟩;have em:nV [] [(key,y)]= [key].zip [y]:=rfl;rw[em];have sA:aM H (aP H2 p (.dK ([key].zip [y]))):=λc u q=>by
  rw[de (kO q hp)];exact s2 _ _ (s1 _ _ (s0 _ _ q))
 refine k _ _ sA ?_;obtain⟨G,r,f⟩:=o;have np:¬ G p:=λz=>by have q:=(f p z).1;rw[s1 _ _ gX]at q;cases q
 refine⟨λc=>G c\/c=p, .nd (vs:= [y]) (λi c=>i=0/\G c) ⟨.inr rfl,rfl,rfl,0,gX⟩ rfl (λi j c hi hj=>by rw[hi.1,hj.1]) (λi c hc=>⟨.inl hc.2,λ_ z=>by rw[z]at hc;exact np hc.2⟩) λi u e hu he=> ?_,λc hc=> ?_⟩
 ·cases i with
  |succ i=>simp at hu
  |zero=>
   cases hu;cases he;refine(r.frame (λc o hc q=> ?_) (xQ (by rw[e0];trivial))).mono λc z=>⟨rfl,z⟩
   rw[de λz=>by rw[z]at hc;exact np hc];exact q
 ·rcases hc with z | z
  ·refine⟨(s0.trans s1).free (f c z).1, ?_⟩;rw[de λw=>by rw[w]at z;exact np z];exact(f c z).2
  ·rw[z];exact⟨hp,by rw[gX];trivial⟩⟩
end
end VL
namespace VL
open PySem PySem.Spec PyProof.Rows L2
section
end
section
variable {K:ah}{n:Nat}{H H':Hp}{U U':Addr->Prop}{σ hv:List (Option V)}{Z ρ':En}{τv vs:List V}{τd ds cs:List D}{v:V}{d:D}{E:lM}
theorem Fz{α:Type}{a b c c':List α}(h:i < a.length + b.length):(a++(b++c))[i]?=(a++(b++c'))[i]?:=by
 rw[<- dt, <- dt,ba (l₂:=c) (by simp;exact h),ba (l₂:=c') (by simp;exact h)]
theorem aw.X0(I:aw K n H U σ hv Z (τv++ [v]) (τd++ [.nd .tup cs])):∃a vs,v= .ref a/\H a=some (.tup vs)/\vs.length=cs.length/\aw K n H U σ hv Z (τv++vs) (τd++cs):=by
 have l:=I.len;have tl:=I.tl;simp only[bQ,fN,JD]at tl;obtain⟨hl,mu,Fs,dj,sub,sl⟩:=I.ok;have eD:(Z++(τd++ [D.nd .tup cs]).map λd=>some (B.own d))[Z.length + τd.length]?=some (some (.own (.nd .tup cs))):=by
  rw[bI (by lia)];simp
 have eV:(σ++hv++(τv++ [v]).map some)[Z.length + τd.length]?=some (some v):=by
  rw[bI (by simp;lia)];simp;rw[show Z.length + τd.length - (σ.length + hv.length)=τv.length by lia];simp
 obtain⟨v',ev,sv⟩:=sl _ _ eD;rw[eV]at ev;cases ev;have sv:bh K H (Fs (Z.length + τd.length)) v (.nd .tup cs):=sv;cases sv with
 | @nd F a k vs cs Gs h1 h2 h3 h4 h5=>
  refine⟨a,vs,rfl,h1,h2,⟨?_,I.len,I.nn⟩⟩;refine⟨by simp;lia,mu,λi b=>if i < Z.length + τd.length then Fs i b else Gs (i - (Z.length + τd.length)) b,λi j b hi hj=> ?_,λi b hb=> ?_,λi β aL=> ?_⟩
  ·have hi:if i < Z.length + τd.length then Fs i b else Gs (i - (Z.length + τd.length)) b:=hi;have hj:if j < Z.length + τd.length then Fs j b else Gs (j - (Z.length + τd.length)) b:=hj;by_cases c1:i < Z.length + τd.length
   ·rw[if_pos c1]at hi;by_cases c2:j < Z.length + τd.length
    ·rw[if_pos c2]at hj;exact dj _ _ _ hi hj
    ·rw[if_neg c2]at hj;have:=dj _ _ _ hi (h4 _ _ hj).1
     lia
   ·rw[if_neg c1]at hi;by_cases c2:j < Z.length + τd.length
    ·rw[if_pos c2]at hj;have:=dj _ _ _ hj (h4 _ _ hi).1
     lia
    ·rw[if_neg c2]at hj;have:=h3 _ _ _ hi hj
     lia
  ·have hb:if i < Z.length + τd.length then Fs i b else Gs (i - (Z.length + τd.length)) b:=hb;by_cases c1:i < Z.length + τd.length
   ·rw[if_pos c1]at hb;exact sub _ _ hb
   ·rw[if_neg c1]at hb;exact sub _ _ (h4 _ _ hb).1
  ·by_cases c1:i < Z.length + τd.length
   ·have tf:(Z++(τd++ [D.nd .tup cs]).map λd=>some (B.own d))[i]?=some (some β):=by
     rw[<- aL,cM,cM];exact Fz (by simp;lia)
    obtain⟨x,ex,sx⟩:=sl _ _ tf;have JV:(σ++hv++(τv++vs).map some)[i]?=some (some x):=by
     rw[<- ex,cM,cM];exact Fz (by simp;lia)
    refine⟨x,JV, ?_⟩;simp only[if_pos c1];cases β with
    |own d=>exact sx
    |ro d=>exact sx
    |ar r p=>
     obtain⟨a1,vr,a2,a3⟩:=sx;refine⟨a1,vr, ?_,a3⟩;rw[<- a2,cM,cM];exact Fz (by simp;lia)
   ·rw[cM, <- dt,bI (by simp;lia)]at aL;rw[bQ,dC,dF]at aL;obtain⟨d,hd,e⟩:=aV.mp aL;cases e;have lt:=(bB.mp hd).1;refine⟨vs[i - (Z.length + τd.length)]'(by lia), ?_, ?_⟩
    ·rw[cM, <- dt,bI (by simp;lia)];simp only[bQ,dC,dF];rw[show σ.length + hv.length + τv.length=Z.length + τd.length by lia,gM (by lia)];rfl
    ·simp only[if_neg c1];exact h5 _ _ _ (gM (by lia)) hd
def binds:List Nat->List D->En->En
 |i::is,d::ds,Z=>binds is ds (bw i (.own d) Z)
 |_,_,Z=>Z
class GN(K:ah)(n:Nat)(g:qT)(is:outParam (List Nat)):Prop where
 s:∀{σ hv:List (Option V)} {H:Hp} {U:Addr->Prop} {Z:En} {τv:List V} {τd:List D} {xs:List V} {ds:List D} {Q:L2.St->Hp->Prop},aw K n H U σ hv Z (τv++xs) (τd++ds)->xs.length=ds.length->ds.length=is.length->(∀aO,aw K n H U aO hv (binds is ds Z) τv τd->Q aO H)->g xs σ H Q
instance agu:GN K n Kn []:=⟨λ{σ hv H U Z τv τd xs ds Q} I hl hd k=>by
 cases ds with
 |cons _ _=>cases hd
 |nil=>
  cases xs with
  |cons _ _=>cases hl
  |nil=>rw[eW,eW]at I;exact⟨rfl,k _ I⟩⟩
instance agv[L:jS i n][A:GN K n t is]:GN K n (Ko (m4 i) t) (i::is):=⟨λ{σ hv H U Z τv τd xs ds Q} I hl hd k=>by
 cases ds with
 |nil=>cases hd
 |cons d ds=>
  cases xs with
  |nil=>cases hl
  |cons x xs=>exact⟨x,xs,rfl,A.s (Z:=bw i (.own d) Z) ((I.ML (gm hl)).bound L.h (.inr trivial)) (gm hl) (gm hd) k⟩⟩
def Bp(is:List Nat):D->En->Option Fl
 |.nd .tup cs,Z=>if cs.length=is.length then some (.nx (binds is cs Z)) else none
 |_,_=>none
def yi(is:List Nat)(f:En->Option (D×En))(Z:En):Option Fl:=(f Z).bind λr=>Bp is r.1 r.2
instance agw[Lm:ya is m][G:GN K n t is][A:SM K n te fe]:SS K n (qU te (DF K m t)) (yi is fe):=⟨λ{σ hv H U Z τv τd fl E} I h k=>by
 obtain⟨⟨d,ρ1⟩,h1,h2⟩:=ae.mp h;have h2:Bp is d ρ1=some fl:=h2;clear h;cases d with
 |sc x=>cases h2
 |hl x=>cases h2
 |nd kd cs=>
 cases kd with
 |tup=>
  have h2:(if cs.length=is.length then some (Fl.nx (binds is cs ρ1)) else none)=some fl:=h2;by_cases c:cs.length=is.length
  ·rw[if_pos c]at h2;cases h2;refine A.s I h1 λv H1 U1 I1 bC=> ?_;obtain⟨a,vs,rfl,ha,hl,I2⟩:=I1.X0;exact⟨a,vs,rfl,cN.of ha,by rw[hl,c];exact Lm.h,G.s I2 hl c λaO I3=>k _ H1 U1 I3 bC⟩
  ·rw[if_neg c]at h2;cases h2
 |_=>cases h2⟩
end
end VL
namespace VL
open PySem PySem.Spec PyProof.Rows PySem.W L2
def yj(v d:Addr):HO:= .ext λh=>h.IsValuesView v d
def Np(to:TE):TE:=λσ H Q=>to σ H λx H1=>∃d aj,x= .ref d/\Rd H1 d (.dK aj)/\∀v,H1 v=none->Q (.ref v) (aP H1 v (yj v d))
def FA:List V->Hp->VK->Prop:=λxs H Q=>∃v d aj,xs= [.ref v]/\H v=some (yj v d)/\Rd H d (.dK aj)/\∀l,H l=none->Q (.ref l) (aP H l (.lst (aj.map (·.2))))
section
theorem X1(ho:PE X o to)(xv:qM o "values" X.env (eval o X.env)=eval o X.env:=by rfl)(xw:(iX.endLine == j4.line)=true:=by rfl):PE X (.Call (.Attribute o "values" iX) [] [] j4) (Np to):=by
 intro aa s σ H Q I h;refine adM xv xw (bG (ho aa s σ H _ I h) λv s1 ⟨x,H1,I1,r1,q1⟩=> ?_);obtain⟨d,aj,rfl,e,q⟩:=q1;cases r1;obtain⟨z,hd,ws,gx,dd⟩:=qg I1.aT e;have h1:s1.TypeIs (.ref d) "dict":=dd.typeIs;have h2:∀a,gw d= .ref a->∃ob,s1.heap.get? a=some ob/\ob.dict=none:=λa e2=>by
  cases e2;obtain⟨ob,_,_,e3,ex,_⟩:=dd;exact⟨ob,e3,ex.2.1⟩
 refine⟨"dict","dict.values",ad8,aeg,PySem.F.type_dict_values,h1,h2,JC rfl (ad2 ?_)⟩;refine RP aeg dd.typeIs PySem.F.entry_dict_values (PySem.F.args_dict_values_1 _) (meets_dict_values (jB X.prog X.w) d hd) ⟨⟨ws,dd⟩, ?_⟩;have yc:(s1.heap.push { cls:= .type "dict_values",data:= .fields #[.ref d] }).get? s1.heap.objs.size=some { cls:= .type "dict_values",data:= .fields #[.ref d] }:=jP _ rfl;refine⟨.ref s1.heap.objs.size,_,I1.laid (t':=s1.toks) (o:=yj s1.heap.objs.size d) (λ_ _ q=>gy _ q) (bK _) ⟨⟨_,yc,rfl,rfl⟩,⟨_,yc⟩,λh1 h2 f k=> ?_⟩,rfl,q _ I1.fresh⟩;obtain⟨o,ho,r⟩:=f;exact⟨o,k o ho,r⟩
theorem X2{aj:List (aY×V)}{vs:List (aY×Value)}{us:List Value}(gx:KV aj vs)(hl:us.length=vs.length)(h:∀(j:Nat) (v:Value),us[j]?=some v->∃k,vs[j]?=some (k,v)):bA (aj.map (·.2)) us:=by
 refine Mh (by rw[dC,hl, <- gx.length]) λj x u e1 e2=> ?_;obtain⟨k,e3⟩:=h j u e2;rw[dF]at e1;cases q:aj[j]? with
 |none=>rw[q]at e1;cases e1
 |some p=>
  rw[q]at e1;cases e1;exact(Mi gx q e3).2
theorem X3(hc:X.calm=true):i5 X (.type "list") FA:=by
 intro aa s σ H xs us Q I r h;obtain⟨v,d,aj,rfl,ev,e,q⟩:=h;obtain⟨u,rfl,rx⟩:=vals1 r;cases rx;obtain⟨z,hd,vs,gx,dd⟩:=qg I.aT e;obtain⟨ep,da⟩:=dd.dictAt;have hz:vs.length<=aK:=by rw[<- gx.length];exact z
 have yk:s.heap.IsValuesView v d:=(I.aT v _ ev).1;refine kdl_call (kdl_values (knd:=jB X.prog X.w)) (I.ok.hd hc) ⟨yk,da⟩ hz λh' tk dJ c kp hg AS=> ?_;have hv:bA (aj.map (·.2)) dJ.toList:=X2 gx (by rw[Js];exact AS.1) λj v e=>AS.2 j v (by rw[<- ad4];exact e);refine⟨.ref s.heap.objs.size,_,I.laid (t':=tk) kp (bK _) (show fZ X.prog X.w _ h' _ (.lst (aj.map (·.2))) from⟨by rw[dC];exact z,dJ.toList,c,hv, ?_⟩),rfl,q _ I.fresh⟩;rw[Array.toArray_toList];exact hg
end
section
variable {K:ah}{n:Nat}{H H':Hp}
def Bq:D->Option D
 |.nd (.aB _) cs=>if bf cs=true then some (.nd .lst cs) else none
 |_=>none
instance (priority:=2000) agx{t:TE}{f:En->Option D}[A:SV K n t f]:SF K n (kW FA (eJ (Np t) g7)) (λZ=>(f Z).bind Bq):=⟨λ{σ hv H U Z τv τd d Q} I h k=>by
 obtain⟨x,h1,h2⟩:=ae.mp h;refine A.s I h1 λv H1 s1 w=> ?_;unfold Bq at h2
 split at h2
 ·next ks cs=>
  by_cases c:bf cs=true
  ·rw[if_pos c]at h2;cases h2;obtain⟨a,us,rfl,hc,vl⟩:=w.gP;have hl:ks.length=us.length:=hc.1;have rd:Rd H1 a (.dK (ks.zip us)):=hc.2;refine⟨a,ks.zip us,rfl,rd,λvw yk=>⟨vw,a,ks.zip us,rfl,gX, ?_,λl hU=> ?_⟩⟩
   ·rcases rd with q | ⟨o,q⟩
    ·exact .inl (iq yk _ _ _ q)
    ·exact .inr ⟨o,iq yk _ _ _ q⟩
   ·have s2:=iq yk (yj vw a);have X4:dN K (aP H1 vw (yj vw a)) T1 us cs:=⟨vl.1,λi v d a b=>(vl.2 i v d a b).same s2⟩
    rw[show(ks.zip us).map (·.2)=us from xK hl];exact k _ _ (s1.trans (s2.trans (iq hU _))) ((X4.own (k:= .lst) c hU (.inr ⟨rfl,trivial,0,rfl⟩)).early (s1.trans s2))
  ·rw[if_neg c]at h2;cases h2
 ·cases h2⟩
end
end VL
namespace VL
open PySem PySem.Spec PyProof.Rows PySem.W L2
theorem X5{prog:Program}{w:World}{A:Around}{E:Value->Shared->Prop}{s:Shared}{id:String}{b:Builtin}{args:List Value}{kw:List (Str×Value)}{Q:Value->Shared->Prop}(hk:builtinKind id=none)(hp:plainId id=true)
  (hb:entryFor table id=some b) (ha:argsOk id ⟨args,kw⟩)
  (hc:wpAny (model prog w) A.in1 (b ⟨args,kw⟩) (λcL s'=>match cL with
   |.done f=>(match (Except.ok f:Result) with | .ok (.ret v)=>Q v s' | .ok _=>False | .error e=>E e s')
   |.again c'=>c'.quiet=true/\mx (model prog w) A c' (λr s'=>match r with | .ok (.ret v)=>Q v s' | .ok _=>False | .error e=>E e s') s') E s):
  wpAny (model prog w) A (call (.builtin id) args kw) Q E s:=by
 refine Jd (codeAny_call_builtin hp hb ?_);simp only[checkBuiltinCall,hk];cases X6:Manifest.signature? id with
 |none=>exact cJ hc
 |some sig=>
  have X7:Bind.checkArgs id sig ⟨args,kw⟩=pure ():=by simpa only [argsOk,X6]using ha
  simp only[X7];exact cJ hc
theorem X8(a k:Value):argsOk "max" ⟨[a], [("key",k)]⟩:=by unfold argsOk;kernel_rfl
section
variable {k:Nat}{f:Addr}
end
section
variable {K:ah}{n:Nat}{H H':Hp}
end
end VL
namespace VL
open PySem PySem.Spec PyProof.Rows PySem.W L2
section
open AutoSeq1 (wpAny_loadPart')
open MeetsSeq MeetsSeq2 MeetsSeq3 SeqRoads2
theorem Nq(h:Q (.bool (decide (b < a))) s):wpAny (model prog w) A (Jk .Gt (.int a t) (.int b u)) Q E s:=SiftDown.gt_int h
theorem eqT(e:a=b)(h:Q true s):wpAny (model prog w) A (eqBool (.int a t) (.int b u)) Q E s:=RE (by rw[show(a == b)=true by simp[e]];exact h)
theorem qu(e:a≠b)(h:Q false s):wpAny (model prog w) A (eqBool (.int a t) (.int b u)) Q E s:=RE (by rw[show(a == b)=false by simp[e]];exact h)
def jJ(i j i' j':Int):Bool:=if i=i' then decide (j' < j) else decide (i' < i)
set_option maxHeartbeats 4000000 in
theorem X9(l b:Addr)(i j i' j':Int)(t u t' u':Tok)(n n2:Nat)(dd rg:Option Addr)(sl i7:Array (Option Value)):
  Meets (Builtin.«tuple.__gt__» ⟨[.ref l, .ref b], []⟩)
   (λA R s=>s.heap.get? l=some { cls:= .type "tuple",dict:=dd,data:= .seq #[.int i t, .int j u] n,slots:=sl }/\s.heap.get? b=some { cls:= .type "tuple",dict:=rg,data:= .seq #[.int i' t', .int j' u'] n2,slots:=i7 }/\
    R (.ok (.ret (.bool (jJ i j i' j')))) s):=
 .of_wp λprog w A R s h=>by
  obtain⟨hp,g,d,tk,os⟩:=s;obtain⟨hl,hb,h⟩:=h;have f2:=AutoSeq1.sub_tuple_tuple;unfold jJ at h;by_cases e:i=i'
  ·rw[if_pos e]at h;by_cases e2:j=j'
   ·have c3:decide (j' < j)=false:=by simp[e2]
    rw[c3]at h
    wp_walk using uu hl,uu hb,eqT e,eqT e2
    exact⟨_,rfl,h⟩
   ·wp_walk using uu hl,uu hb,eqT e,qu e2,Nq
    exact⟨_,rfl,h⟩
  ·rw[if_neg e]at h
   wp_walk using uu hl,uu hb,qu e,Nq
   exact⟨_,rfl,h⟩
theorem Nr{prog:Program}{w:World}{E:Value->Shared->Prop}{Q:Value->Shared->Prop}(hl:s.heap.IsTuple l #[.int i t, .int j u])(hb:s.heap.IsTuple b #[.int i' t', .int j' u'])(hu:A.units < cLine)
  (h:Q (.bool (jJ i j i' j')) s):wpAny (model prog w) A (Jk .Gt (.ref l) (.ref b)) Q E s:=by
 obtain⟨⟨cls,dd,data,sl⟩,ho,hc,n,hd⟩:=id hl;obtain⟨⟨K0,rg,data2,i7⟩,ph,g8,n2,hd2⟩:=id hb;simp only at hc hd g8 hd2;subst hc hd g8 hd2;exact richCompare_meets_room (op:= .Gt) ⟨_,ho,rfl⟩ ⟨_,ph,rfl⟩ F.slot_tuple_gt F.entry_tuple_gt (F.args_tuple_gt_2 _ _) (X9 l b i j i' j' t u t' u' n n2 dd rg sl i7)
  ⟨ho,ph,show wN (jJ i j i' j')≠Value.notImplemented/\Q (.bool (jJ i j i' j')) s from⟨(λx=>nomatch x),h⟩⟩ hu
end
end VL
namespace VL
open PySem PySem.Spec PyProof.Rows PySem.W L2
section
variable {k:Nat}{f:Addr}
def Nt(K:ah)(H:Hp)(x y:V)(g:Bool):Prop:=∃(p q:Addr) (i j i' j':Int),x= .ref p/\y= .ref q/\cN K H p [.int i, .int j]/\cN K H q [.int i', .int j']/\g=jJ i j i' j'
def vp(K:ah)(sp:Sp)(a:Addr)(xs:List V)(Q:VK):List V->Option (V×V)->Hp->Prop
 | [],some (b,_),H=>Q b H
 | [],none,_=>False
 |x::r,oR,H=>sp [x] H (λkv H2=>H2 a=some (.lst xs)/\match oR with
  |none=>vp K sp a xs Q r (some (x,kv)) H2
  |some (b,bk)=>∃g,Nt K H2 kv bk g/\vp K sp a xs Q r (if g=true then some (x,kv) else some (b,bk)) H2) E0
def Ya:Option (V×V)->List Value->Prop
 |none,us=>us= []
 |some (b,bk),us=>bA [b,bk] us
theorem Br{aa:List (Addr×Obj)}{σ:L2.St}{Q:VK}{xs:List V}(F:b9 X.prog X.w X.K X.mg X.base cQ k f fd ps sp)(hb:Binds X.K fd ps [])(hr:fK (k + 1) X.A)(hc:X.calm=true)(jK:it≠S)(pJ:a≠it):
  ∀(rest:List V) (i:Nat) (oR:Option (V×V)) (us:List Value) (n:Nat) (H:Hp) (s:Shared),xs.drop i=rest->Inv X aa σ H s->H a=some (.lst xs)->s.heap.IsListIter it a i->s.heap.get? S=some { cls:= .type "list",data:= .seq us.toArray n }->Ya oR us->iQ X aa H it->iQ X aa H S->
   vp X.K sp a xs Q rest oR H->mx (model X.prog X.w) X.A (.builtin "max.loop" ⟨[.ref it, .ref f, .ref S], []⟩) (λr s'=>match r with | .ok (.ret v)=>EP X aa σ Q v s' | .ok _=>False | .error e=>X.xe e s') s
 | [],i,none,us,n,H,s,hd,I,ha,hit,hS,hB,fI,fS,h=>h.elim
 | [],i,some (b,bk),us,n,H,s,hd,I,ha,hit,hS,hB,fI,fS,h=>by
  obtain⟨ai,rv,pl,hz⟩:=I.list (cc.of ha);have W:=Df (prog:=X.prog) (w:=X.w) (A:=X.A.in1) (show X.A.in1.handled=none from I.ok.hd hc) it a pJ;have hi:xs.length<=i:=by
   rcases wX i xs.length with h | h
   ·rw[qN h]at hd;cases hd
   ·exact h
  have hsz:ai.toArray.size=xs.length:=by rw[fY];exact rv.length.symm
  obtain⟨ub,uk,rfl,rb,rk⟩:=L2.vals2 hB;refine Jl JO ?_;rw[JP oV _];show wpAny _ X.A.in1 (Jn (.ref S) >>= _) _ _ _;refine aW (Jo hS rfl ?_);show wpAny _ X.A.in1 (tryCatch (pyNext (.ref it)) _ >>= _) _ _ _;refine aW (wK (RH (show X.A.in1.handled=none from I.ok.hd hc) hit pl.isList (aeh (by rw[hsz];exact hi)) λh7 FC=> ?_));have ym:∀b o,b≠it->s.heap.get? b=some o->h7.get? b=some o:=λb o oh e=>FC b o oh e;have FD:=ym S _ (λz=>jK z.symm) hS;have I7:L2.Inv X aa σ H { s with heap:=h7 }:=I.turned (t':=s.toks) (it:=it) ym fI.1 fI.2.1 fI.2.2.2.1 fI.2.2.2.2.1 fI.2.2.2.2.2;show wpAny _ X.A.in1 (zD S (λ_=>#[]) >>= _) _ _ _;refine aW ?_;refine zE FD rfl (aW (ux (cJ ?_)));exact⟨b,H,L2.Inv.turned (s:= { s with heap:=h7 }) I7 (t':=s.toks) (it:=S) (λb o n e=>(uF _ _ (jO n)).trans e) fS.1 fS.2.1 fS.2.2.2.1 fS.2.2.2.2.1 fS.2.2.2.2.2,rb,h⟩
 |x::r,i,oR,us,n,H,s,hd,I,ha,hit,hS,hB,fI,fS,h=>by
  have om:(toString "max"++toString ".loop":String)="max.loop":=by decide
  obtain⟨ai,rv,pl,hz⟩:=I.list (cc.of ha);have W:=Df (prog:=X.prog) (w:=X.w) (A:=X.A.in1) (show X.A.in1.handled=none from I.ok.hd hc) it a pJ;have hi:i < xs.length:=by
   rcases wX i xs.length with h | h
   ·exact h
   ·rw[Sq h]at hd;cases hd
  have hx:xs[i]?=some x:=by rw[qN hi]at hd;injection hd with e1 e2;rw[gM hi,e1]
  have mI:xs.drop (i + 1)=r:=by rw[qN hi]at hd;injection hd
  have hsz:ai.toArray.size=xs.length:=by rw[fY];exact rv.length.symm
  refine Jl JO ?_;rw[JP oV _];show wpAny _ X.A.in1 (Jn (.ref S) >>= _) _ _ _;refine aW (Jo hS rfl ?_);show wpAny _ X.A.in1 (tryCatch (pyNext (.ref it)) _ >>= _) _ _ _;refine aW (wK ((W ai.toArray).item i _ _ _ (by rw[hsz];exact hi) ⟨hit,pl.isList⟩ λv' h4 tk hP bC yn=> ?_));obtain⟨u',FE,vq⟩:=rv.get hx;have e4:v'=u':=by
   have:ai[i]?=some v':=by simpa using hP
   rw[FE]at this;injection this with this;exact this.symm
  subst e4;have I4:L2.Inv X aa σ H { s with heap:=h4,toks:=tk }:=I.turned (t':=tk) (it:=it) (λb o n e=>yn b o (λz=>n (cE.mp z)) e) fI.1 fI.2.1 fI.2.2.2.1 fI.2.2.2.2.1 fI.2.2.2.2.2;have rJ:h4.get? S=_:=yn S _ (λz=>jK (cE.mp z).symm) hS;obtain⟨oi,yo,yp,vx⟩:=id bC.1;have Yb:L2.Inv X (aa++qW [it,S] h4) σ H { s with heap:=h4,toks:=tk }:=I4.pinned (fp:= [it,S]) (λb oh=>by
    rcases gK.mp oh with rfl | oh
    ·exact fI
    ·rw[cE.mp oh];exact fS) (λb oh=>by
    rcases gK.mp oh with rfl | oh
    ·exact⟨oi,yo,λv z=>by rw[vx]at z;cases z⟩
    ·rw[cE.mp oh];exact⟨_,rJ,λv z=>by cases z⟩)
  show wpAny _ X.A.in1 (tryCatch (holding [v'] (call (.ref f) [v'])) _ >>= _) _ _ _;refine aW (wK (qL ?_));have hl:([v']++ []).length=ps.length:=(F.len _ _ _ _ h)
  have yq:bA [x] [v']:= .cons vq .nil;refine Jd (C1 (F.run X.A.in1 X.stack _ H ⟨[v'], []⟩ ([v']++ []) [x] _ E0 hr.in1 I4.DN.in1 (hb _ [v'] I4.fP hl) yq h) λr s5 hq=> ?_);cases r with
  |error e=>exact hq.elim
  |ok fl=>
   cases fl with
   |next=>exact lN hq
   |brk=>exact lN hq
   |cont=>exact lN hq
   |ret uk=>
    obtain⟨kv,H5,I5,rk,FF,q5⟩:=Yb.after hq;have pS:(S,_)∈qW [it,S] h4:=uV (jZ _ (cE.mpr rfl)) rJ;have pI:(it,oi)∈qW [it,S] h4:=uV (mY) yo;have vy:=(I5.pin _ (i0 _ (i0 _ pS)))
    have FG:=(I5.pin _ (i0 _ (i0 _ pI)))
    have Bs:L2.Inv X aa σ H5 s5:=I5.uW;have gI:iQ X aa H5 it:=⟨FG.2.1,fI.2⟩
    have gS:iQ X aa H5 S:=⟨vy.2.1,fS.2⟩
    have up:∀(g:Array Value->Array Value),L2.Inv X aa σ H5 { s5 with heap:=s5.heap.update S (nJ g) }:=λg=>Bs.turned (t':=s5.toks) (it:=S) (λb o n e=>(uF _ _ (jO n)).trans e) gS.1 gS.2.1 gS.2.2.2.1 gS.2.2.2.2.1 gS.2.2.2.2.2;have yr:∀(g:Array Value->Array Value),(s5.heap.update S (nJ g)).IsListIter it a (i + 1):=λg=>⟨oi,(uF _ _ (jO jK)).trans FG.1,yp,vx⟩
    cases oR with
    |none=>
     have FH:us= []:=hB;subst FH;show wpAny _ X.A.in1 (zD S (λ_=>#[v',uk]) >>= _) _ _ _;refine aW ?_;refine zE vy.1 rfl ?_;rw[om];refine cJ ⟨uy oV _, ?_⟩;exact Br F hb hr hc jK pJ _ (i + 1) (some (x,kv)) [v',uk] _ H5 _ mI (up _) FF (yr _) (Dc (nJ λ_=>#[v',uk]) vy.1 rfl) (.cons vq (.cons rk .nil)) gI gS q5
    |some bb=>
     obtain⟨b,bk⟩:=bb;obtain⟨ub,agy,rfl,rb,Yc⟩:=L2.vals2 hB;obtain⟨g,⟨pp,qq,i1,j1,i2,j2,rfl,rfl,h1,h2,hg⟩,q6⟩:=q5;cases rk;cases Yc;obtain⟨Yd,yq,FI,_⟩:=Bs.tuple h1;obtain⟨pj,FJ,FK,_⟩:=Bs.tuple h2;obtain⟨w1,w2,rfl,c1,c2⟩:=L2.vals2 yq;obtain⟨w3,w4,rfl,c3,c4⟩:=L2.vals2 FJ;obtain⟨t1,rfl⟩:=c1;obtain⟨t2,rfl⟩:=c2;obtain⟨t3,rfl⟩:=c3;obtain⟨t4,rfl⟩:=c4;show wpAny _ X.A.in1 (tryCatch (holding [v',gw pp] (Jk .Gt (.ref pp) (.ref qq) >>= _)) _ >>= _) _ _ _;refine aW (wK (qL (aW (Nr FI FK (wV (Nat.le_add_right _ 1) (jG hr.in1)) ?_))));refine aW (qL (uo ?_));refine aW (ux (cJ ?_));rw[<- hg];cases g with
     |true=>
      show wpAny _ X.A.in1 (zD S (λ_=>#[v', .ref pp]) >>= _) _ _ _;refine aW ?_;refine zE vy.1 rfl ?_;refine aW (ux ?_);rw[om];refine cJ ⟨uy oV _, ?_⟩;exact Br F hb hr hc jK pJ _ (i + 1) (some (x, .ref pp)) [v', .ref pp] _ H5 _ mI (up _) FF (yr _) (Dc (nJ λ_=>#[v', .ref pp]) vy.1 rfl) (.cons vq (.cons rfl .nil)) gI gS q6
     |false=>
      show wpAny _ X.A.in1 (letGo _ >>= _) _ _ _;refine aW (ux ?_);rw[om];refine cJ ⟨uy oV _, ?_⟩;exact Br F hb hr hc jK pJ _ (i + 1) (some (b, .ref qq)) [ub, .ref qq] _ H5 _ mI Bs FF ⟨oi,FG.1,yp,vx⟩ vy.1 (.cons rb (.cons rfl .nil)) gI gS q6
theorem Ye{aa:List (Addr×Obj)}{σ:L2.St}{H:Hp}{s:Shared}{Q:VK}{a:Addr}{xs:List V}(F:b9 X.prog X.w X.K X.mg X.base cQ k f fd ps sp)(hb:Binds X.K fd ps [])(hr:fK (k + 1) X.A)(hc:X.calm=true)
  (I:Inv X aa σ H s) (ha:H a=some (.lst xs)) (h:vp X.K sp a xs Q xs none H):
  wpAny (model X.prog X.w) X.A (call (.builtin "max") [.ref a] [("key", .ref f)]) (EP X aa σ Q) X.xe s:=by
 have om:(toString "max"++toString ".loop":String)="max.loop":=by decide
 obtain⟨ai,rv,pl,hz⟩:=I.list (cc.of ha);have lt:a < s.heap.objs.size:=by obtain⟨o,n,e,_⟩:=pl;exact gi e
 refine X5 aei aej aek (X8 _ _) ?_;show wpAny _ X.A.in1 (JQ "max" ["key","default"] 0 ⟨[], [("key", .ref f)]⟩ >>= _) _ _ s;refine aW (wpAny_of_eq (show JQ "max" ["key","default"] 0 ⟨[], [("key", .ref f)]⟩=pure [some (.ref f),none] from rfl) ?_);refine aW (cJ ?_);refine aW (C4 pl.isList ?_);refine aW (wG ?_);rw[om];refine cJ ⟨uy oV _, ?_⟩;have tM:=jP (s.heap.push { cls:= .type "list_iterator",data:= .fields #[.ref a, .int 0 0] }) (o:= { cls:= .type "list",data:= .seq #[] }) rfl;have yt:((s.heap.push { cls:= .type "list_iterator",data:= .fields #[.ref a, .int 0 0] }).push { cls:= .type "list",data:= .seq #[] }).get? s.heap.objs.size=some { cls:= .type "list_iterator",data:= .fields #[.ref a, .int 0 0] }:=
  gy _ (jP _ rfl)
 have yu:∀b o,s.heap.get? b=some o->((s.heap.push { cls:= .type "list_iterator",data:= .fields #[.ref a, .int 0 0] }).push { cls:= .type "list",data:= .seq #[] }).get? b=some o:=
  λb o e=>gy _ (gy _ e)
 have FL:(s.heap.push { cls:= .type "list_iterator",data:= .fields #[.ref a, .int 0 0] }).objs.size=s.heap.objs.size + 1:=sd _ _;show mx (model X.prog X.w) X.A (.builtin "max.loop" ⟨[.ref s.heap.objs.size, .ref f, .ref (s.heap.push { cls:= .type "list_iterator",data:= .fields #[.ref a, .int 0 0] }).objs.size], []⟩) _ { s with heap:=(s.heap.push { cls:= .type "list_iterator",data:= .fields #[.ref a, .int 0 0] }).push { cls:= .type "list",data:= .seq #[] } };generalize ((s.heap.push { cls:= .type "list_iterator",data:= .fields #[.ref a, .int 0 0] }).push { cls:= .type "list",data:= .seq #[] })=h3 at tM yt yu |-;generalize hS:(s.heap.push { cls:= .type "list_iterator",data:= .fields #[.ref a, .int 0 0] }).objs.size=S at tM FL |-;have fI:iQ X aa H s.heap.objs.size:=I.uT (bK _) (I.aT.fresh (bK _));have fS:iQ X aa H S:=I.uT (by lia) (I.aT.fresh (by lia));have I3:L2.Inv X aa σ H { s with heap:=h3 }:=I.kept (t':=s.toks) yu;have yv:s.heap.objs.size≠S:=by lia
 exact Br F hb hr hc yv (jh lt) xs 0 none [] _ H _ rfl I3 ha ⟨_,yt,rfl,rfl⟩ tM rfl fI fS h
def Nu(K:ah)(sp:Sp)(t:TA):TE:=λσ H Q=>t σ H λvs H1=>∃a xs,vs= [.ref a]/\H1 a=some (.lst xs)/\vp K sp a xs Q xs none H1
theorem Yf{K:ah}{j:Nat}{x:Str}{e:Expr}{t:TA}{p p2 kp pos:Pos}(C:eP X.prog X.w X.K X.mg X.base x ps k sp)(hr:fK j X.A)(hc:X.calm=true)(hg:Gl X "max")(hm:X.mg "max"=none)(Yg:Gl X x)(ha:PA X [e] t)(hK:X.K=K:=by rfl)
  (hj:k + 1<=j:=by decide) (mF:(x == ("__debug__":Str))=false:=by decide) (hs:cD [e] X.env=(false,eval e X.env)::cD [] X.env:=by rfl):
  PE X (.Call (.Name "max" p) [e] [⟨some "key", .Name x p2,kp⟩] pos) (Nu K sp t):=by
 subst hK;intro aa s σ H Q I h;obtain⟨f,fd,o,b,agz,m⟩:=C.ex;refine C2 (uM I hg hm Ae ?_);refine callWith_kw (bG (ha pos aa s σ H _ I h) λus s1 ⟨vs,H1,I1,r1,a,v,ev,Yh,q1⟩=> ?_) (by rw[hs];rfl) (by rw[hs];rfl) rfl rfl
 ·subst ev;obtain⟨u,rfl,ru⟩:=L2.vals1 r1;cases ru;refine kws_cons (Dy I1 Yg m ?_ mF);refine kws_nil ?_;exact Ye o b (hr.mono hj) hc I1 Yh q1
end
section
variable {K:ah}{n:Nat}{H H':Hp}
def tN:D->Option (Int×Int)
 |.nd .tup [.sc (.int i), .sc (.int j)]=>some (i,j)
 |_=>none
def tO(G:List D->Option D):List D->D->Int×Int->Option D
 | [],b,_=>some b
 |d::ds,b,q=>(G [d]).bind λe=>(tN e).bind λk=>if jJ k.1 k.2 q.1 q.2=true then tO G ds d k else tO G ds b q
def Bt(G:List D->Option D):List D->Option D
 | [.nd .lst (d::ds)]=>if bf (d::ds)=true then(G [d]).bind λe=>(tN e).bind λk=>tO G ds d k else none
 |_=>none
theorem Bu{k:Int×Int}(w:Vw K H T1 v e)(h:tN e=some k):∃p,v= .ref p/\cN K H p [.int k.1, .int k.2]:=by
 unfold tN at h
 split at h
 ·next i j=>
  cases h;obtain⟨p,us,rfl,hc,vl⟩:=w.gP;obtain⟨x,y,rfl,wx,wy⟩:=vl.two;have g8:H p=some (.tup [x,y]):=hc.2;have ex:x= .int i:=wx.cg;have ey:y= .int j:=wy.cg;subst ex ey;exact⟨p,rfl, .inl (.inl g8)⟩
 ·cases h
theorem FN{G:List D->Option D}(k:∀v H',aM H0 H'->eI K H0 H' v d->Q v H'):∀(ds:List D) (vs:List V) (b:V) (bd:D) (p:Addr) (q:Int×Int) (H1:Hp),aM H0 H1->H1 a=some (.lst xs)->dN K H1 T1 vs ds->bf ds=true->
  Vw K H1 T1 b bd->plain bd=true->cN K H1 p [.int q.1, .int q.2]->tO G ds bd q=some d->vp K (eF K 1 G) a xs Q vs (some (b, .ref p)) H1
 | [],vs,b,bd,p,q,H1,s1,ha,w,pl,wb,pb,hp,h=>by
  cases vs with
  |cons _ _=>cases w.1
  |nil=>cases h;exact k _ _ s1 (eI.plain wb pb)
 |d'::ds,vs,b,bd,p,q,H1,s1,ha,w,pl,wb,pb,hp,h=>by
  cases vs with
  |nil=>cases w.1
  |cons v vs=>
   rw[bf,pV]at pl;rw[tO]at h;obtain⟨e,h1,h⟩:=ae.mp h;obtain⟨kk,h2,h⟩:=ae.mp h;have wv:Vw K H1 T1 v d':=w.2 0 v d' rfl rfl;have wr:dN K H1 T1 vs ds:=⟨by have:=w.1;simpa using this,λi x y hx hy=>w.2 (i + 1) x y (by simpa using hx) (by simpa using hy)⟩
   refine⟨[d'],e,rfl,⟨rfl,λi x y hx hy=> ?_⟩,h1,λkv H2 s2 o=>⟨s2 _ _ ha, ?_⟩⟩
   ·cases i with
    |zero=>cases hx;cases hy;exact wv
    |succ i=>simp at hx
   ·obtain⟨p2,rfl,pk⟩:=Bu o.vw h2;have Nv:=s1.trans s2;have Nw:=s2 _ _ ha;have Nx:dN K H2 T1 vs ds:=⟨wr.1,λi x y hx hy=>(wr.2 i x y hx hy).same s2⟩
    have hq:=(gO.of s2).Wi hp;refine⟨_,⟨p2,p,_,_,_,_,rfl,rfl,pk,hq,rfl⟩, ?_⟩;cases c:jJ kk.1 kk.2 q.1 q.2 with
    |true=>
     rw[c,if_pos rfl]at h;exact FN k ds vs v d' p2 kk H2 Nv Nw Nx pl.2 (wv.same s2) pl.1 pk h
    |false=>
     rw[c,if_neg ji]at h;exact FN k ds vs b bd p q H2 Nv Nw Nx pl.2 (wb.same s2) pb hq h
instance agA{f:En->Option (List D)}[A:SA K n t f]:SF K n (Nu K (eF K 1 G) t) (λZ=>(f Z).bind (Bt G)):=⟨λ{σ hv H U Z τv τd d Q} I h k=>by
 obtain⟨x,h1,h2⟩:=ae.mp h;refine A.s I h1 λvs H1 s1 w=> ?_;unfold Bt at h2
 split at h2
 ·next d' ds=>
  by_cases c:bf (d'::ds)=true
  ·rw[if_pos c]at h2;obtain⟨e,h3,h2⟩:=ae.mp h2;obtain⟨kk,h4,h2⟩:=ae.mp h2;rw[bf,pV]at c;obtain⟨v,rfl,w1⟩:=w.one;obtain⟨a,us,rfl,hc,vl⟩:=w1.gP;have g8:H1 a=some (.lst us):=hc.2;refine⟨a,us,rfl,g8, ?_⟩;cases us with
   |nil=>cases vl.1
   |cons v vs=>
    have wv:Vw K H1 T1 v d':=vl.2 0 v d' rfl rfl;have wr:dN K H1 T1 vs ds:=⟨by have:=vl.1;simpa using this,λi x y hx hy=>vl.2 (i + 1) x y (by simpa using hx) (by simpa using hy)⟩
    refine⟨[d'],e,rfl,⟨rfl,λi x y hx hy=> ?_⟩,h3,λkv H2 s2 o=>⟨s2 _ _ g8, ?_⟩⟩
    ·cases i with
     |zero=>cases hx;cases hy;exact wv
     |succ i=>simp at hx
    ·obtain⟨p2,rfl,pk⟩:=Bu o.vw h4;exact FN k ds vs v d' p2 kk H2 (s1.trans s2) (s2 _ _ g8) ⟨wr.1,λi x y hx hy=>(wr.2 i x y hx hy).same s2⟩ c.2 (wv.same s2) c.1 pk h2
  ·rw[if_neg c]at h2;cases h2
 ·cases h2⟩
end
end VL
namespace VL
open PySem PySem.Spec PyProof.Rows L2
section
variable {P:Program}{w:World}{K:ah}{mg:Str->Option Value}{base:Heap}{k:Nat}{f:Addr}{fd:jY}{ps:List Str}{m:Nat}{br:List Bool}
theorem Ny:b9 P w K mg base cQ k f fd ps (eF K m λ_=>none):=by
 refine⟨λvs H Q E h=> ?_,λA outer s H args us vs Q E _ _ _ _ h=> ?_⟩
 ·obtain⟨ds,d,_,_,h,_⟩:=h;cases h
 ·obtain⟨ds,d,_,_,h,_⟩:=h;cases h
end
section
variable {K:ah}{n:Nat}{H H' H1 H2:Hp}{U U':Addr->Prop}{σ hv:List (Option V)}{Z ρ':En}{τv vs:List V}{τd ds:List D}{v y:V}{d:D}{E:lM}
def Bv(fa:En->Option (List D×En))(fg:D->En->Option En)(fb:En->Option Fl)(Z:En):Option Fl:=(fa Z).bind λa=>(lZ a.1).bind λds=>iY fg fb ds a.2
instance (priority:=50) agB{ta:TA}{g:TG}{tb:TS}{fa:En->Option (List D×En)}{fg:D->En->Option En}{is:List Nat}{fb:En->Option Fl}[A:tq K n ta fa][G:SG K n g fg is][B':SS K n tb fb]:SS K n (DG (Av ta) g tb) (Bv fa fg fb):=⟨λ{σ hv H U Z τv τd fl E} I h k=>by
 obtain⟨⟨as,ρ0⟩,h1,h⟩:=ae.mp h;obtain⟨ds,h2,h⟩:=ae.mp h;refine A.s I h1 λvs H1 U1 hl I1 bC=> ?_;obtain⟨j,e,c1,c2,e2⟩:=Fj (I1.M4 hl) h2;have EZ:=I1.drop hl;have wk:=Fn (K:=K) 0 j.toNat;subst e;refine⟨j,rfl,c1,c2, ?_⟩;rw[<- e2]at wk;refine⟨λi m aO H'=>m=ds.length - i/\i<=ds.length/\∃U' ρ',aw K n H' U' aO hv ρ' τv τd/\b8 U H U' H'/\iY fg fb (ds.drop i) ρ'=some fl,⟨ds.length,by simp,jj _,U1,ρ0,EZ,bC,h⟩, ?_⟩;rintro i m aO H' ⟨rfl,hi,U',ρ',Ix,st,fo⟩;by_cases jQ:i < ds.length
 ·right;have hd:ds[i]?=some ds[i]:=gM jQ;obtain⟨go,yl⟩:=wk.item (H:=H') (U:=U') trivial hd;rw[qN jQ,iY]at fo;obtain⟨ρ1,b1,fo⟩:=ae.mp fo;obtain⟨Fq,b2,fo⟩:=ae.mp fo;refine⟨go,λip H2=>∃U2 aD,aw K n H2 U2 ip hv aD τv τd/\b8 U' H' U2 H2/\iY fg fb (ds.drop (i + 1)) aD=some fl,λip H2 ⟨U2,aD,a1,a2,a3⟩=>⟨_,by lia,rfl,jQ,U2,aD,a1,st.trans a2,a3⟩,λx H2 y2=> ?_⟩;obtain⟨e,w2⟩:=yl x H2 y2;subst e;refine G.s Ix w2 b1 λip I2=> ?_;refine B'.s I2 b2 ?_;cases Fq with
  |nx aD=>exact λke H3 U3 I3 s3=>⟨U3,aD,I3,s3,fo⟩
  |ct aD=>exact λke H3 U3 I3 s3=>⟨U3,aD,I3,s3,fo⟩
  |bk aD=>cases fo;exact λke H3 U3 I3 s3=>k ke H3 U3 I3 (st.trans s3)
  |rt d aD=>cases fo;exact λv ke H3 U3 I3 s3=>k v ke H3 U3 I3 (st.trans s3)
 ·left;have e:i=ds.length:=by lia
  subst e;rw[JJ,iY]at fo;cases fo;exact⟨wk.stop (H:=H') (U:=U') trivial,k aO H' U' Ix st⟩⟩
end
section
variable {K:ah}{n:Nat}
def ko(g:D->D->Option Nat)(gs:V->D->Option V)(a b:D):Option D:=(aX g gs a b).bind λd=>if plain d=true then some d else none
theorem Yi[O:tG K r g gs]:m8 K r (ko g gs):=⟨λ{H x y dx dy d Q} w1 w2 h k=>by
 obtain⟨d',h1,h2⟩:=ae.mp h;by_cases c:plain d'=true
 ·rw[if_pos c]at h2;cases h2;cases dx with
  |sc z=>
   obtain⟨w,h3,h4⟩:=aV.mp h1;subst h4;rw[w1.cg];exact O.t w2 h3 (k w H (aM.refl H) (.sc w))
  |hl _=>
   obtain⟨i,hi,h⟩:=ae.mp h1;cases h
  |nd kk cs=>
   obtain⟨i,hi,h⟩:=ae.mp h1;have h:cs[i]?=some d:=h;obtain⟨a,vs,rfl,_,hc,hl,d4⟩:=w1.node;obtain⟨u,hu⟩:=nY hl h;exact O.s hc hl w2 hi hu (k u H (aM.refl H) (eI.plain (d4 i u d hu h) c))
 ·rw[if_neg c]at h2;cases h2⟩
instance (priority:=30) Yj{r:R2}{ta tb:TE}{fa fb:En->Option (D×En)}{g:D->D->Option Nat}{gs:V->D->Option V}[A:SM K n ta fa][B':SM K n tb fb][O:tG K r g gs]:SM K n (kQ r ta tb) (kh (ko g gs) fa fb):=
 have:m8 K r (ko g gs):=Yi
 Wt
end
end VL
namespace VL
open PySem PySem.Spec PyProof.Rows L2
section
variable {K:ah}{n:Nat}
def nz(a b:D):Option D:=match a,b with
 |.nd .tup xs, .nd .tup ys=>if xs≠ []/\xs.length + ys.length<=aK then some (.nd .tup (xs++ys)) else none
 |a,b=>jI a b
theorem Yk(w1:Vw K H T1 x a)(w2:Vw K H T1 y b)(h:nz a b=some d)(k:∀v H',aM H H'->Vw K H' T1 v d->Q v H'):xY K x y H Q:=by
 unfold nz at h
 split at h
 ·next xs ys=>
  by_cases c:xs≠ []/\xs.length + ys.length<=aK
  ·rw[if_pos c]at h;cases h;obtain⟨a,vs,rfl,hc,vl⟩:=w1.gP;obtain⟨b,us,rfl,g8,ul⟩:=w2.gP;have nv:vs≠ []:=λz=>by
    subst z;have:=vl.1;exact c.1 (wY this.symm)
   refine .inr (.inr (.inr ⟨a,b,vs,us,rfl,rfl,cN.of hc.2,cN.of g8.2,nv,by rw[vl.1,ul.1];exact c.2,λz=> ?_,λ_ p hp=> ?_⟩))
   ·subst z;have e:ys= []:=wY ul.1.symm;subst e;rw[eW]at k;exact k _ H (aM.refl H) w1
   ·exact k _ _ (iq hp _) ((vl.app ul).node hp (.inl ⟨rfl,rfl⟩))
  ·rw[if_neg c]at h;cases h
 ·exact Xs.s w1 w2 h λv H3 s3 o=>k v H3 s3 o.vw
instance (priority:=950) agC{ta tb:TE}{fa fb:En->Option D}[A:SV K n ta fa][B':SV K n tb fb]:SV K n (kQ (xY K) ta tb) (aq nz fa fb):=⟨λ{σ hv H U Z τv τd d Q} I h k=>by
 obtain⟨a,ha,h⟩:=ae.mp h;obtain⟨b,hb,h⟩:=ae.mp h;refine A.s I ha λx H1 s1 w1=> ?_;refine B'.s (I.same s1) hb λy H2 s2 w2=> ?_;exact Yk (w1.same s2) w2 h λv H3 s3 w=>k v H3 (s1.trans (s2.trans s3)) w⟩
def pK(a:D)(lo hi:Option Int):Option D:=match a with
 |.nd .tup cs=>some (.nd .tup (cutD cs lo hi))
 |a=>mf a lo hi
theorem Yl{H:Hp}{v:V}{a d:D}{lo hi:Option Int}{Q:VK}(w:Vw K H T1 v a)(h:pK a lo hi=some d)(k:∀v H',aM H H'->Vw K H' T1 v d->Q v H'):md K v lo hi H Q:=by
 unfold pK at h
 split at h
 ·next cs=>
  cases h;obtain⟨a,vs,rfl,hc,vl⟩:=w.gP;by_cases cw:HT.bO vs.length 0 lo=0/\HT.bO vs.length vs.length hi=vs.length
  ·refine .inr (.inl ⟨a,vs,rfl,cN.of hc.2,cw, ?_⟩);have e:cutD cs lo hi=cs:=by
    unfold cutD;rw[<- vl.1,cw.1,cw.2,JM,So,vl.1,JN]
   rw[e]at k;exact k _ H (aM.refl H) w
  ·refine .inl ⟨a,vs,rfl,cN.of hc.2,cw,λp hp=> ?_⟩;have g:=Bl vl.1 vl.2 lo hi;exact k _ _ (iq hp _) (dN.node (k:= .tup) ⟨g.1,g.2⟩ hp (.inl ⟨rfl,rfl⟩))
 ·exact Fw w h λv H4 s4 o=>k v H4 s4 o.vw
def Bw(fe:En->Option D)(fl fh:En->Option (Option Int))(Z:En):Option D:=(fe Z).bind λd=>(fl Z).bind λlo=>(fh Z).bind λhi=>pK d lo hi
instance (priority:=950) agD{te:TE}{tl th:TO}{fe:En->Option D}{fl fh:En->Option (Option Int)}[A:SV K n te fe][L:SO K n tl fl][R:SO K n th fh]:SV K n (AF (md K) te tl th) (Bw fe fl fh):=⟨λ{σ hv H U Z τv τd d Q} I h k=>by
 obtain⟨x,h1,h⟩:=ae.mp h;obtain⟨lo,h2,h⟩:=ae.mp h;obtain⟨hi,h3,h⟩:=ae.mp h;refine A.s I h1 λv H1 s1 w1=>L.s (I.same s1) h2 λH2 s2=>R.s ((I.same s1).same s2) h3 λH3 s3=> ?_;exact Yl (w1.same (s2.trans s3)) h λv H4 s4 w=>k v H4 (s1.trans (s2.trans (s3.trans s4))) w⟩
end
end VL
namespace VL
open PySem PySem.Spec PyProof.Rows L2
section
variable {K:ah}{n:Nat}
instance (priority:=2000) agE{r:R2}{ta:TA}{tb:TE}{fa:En->Option (List D)}{fb:En->Option (D×En)}{g:D->D->Option Nat}{gs:V->D->Option V}[A:vg K n ta fa][B':SM K n tb fb][O:tG K r g gs]:SM K n (kQ r (uX ta) tb) (kh (ko g gs) (λZ=>(cu .lst fa Z).map λd=>(d,Z)) fb):=
 have:SM K n (uX ta) (λZ=>(cu .lst fa Z).map λd=>(d,Z)):=@Wq K n _ _ Xd
 Yj
end
end VL
namespace VL
open PySem PySem.Spec PyProof.Rows L2
section
variable {K:ah}{n:Nat}{C:Addr}{E:XK}
end
end VL
namespace VL
open PySem PySem.Spec PyProof.Rows L2
section
variable {K:ah}{n:Nat}{H H':Hp}{U U':Addr->Prop}{σ hv:List (Option V)}{Z ρ':En}{τv vs:List V}{τd ds:List D}{d:D}
def Bx(j:Nat)(f2:En->Option D)(Z:En):Option (D×En):=(f2 Z).bind λe=>(fD j Z).map λr=>(.nd .tup [r.1,e],r.2)
instance (priority:=3000) agF{j:Nat}{t2:TE}{f2:En->Option D}[Lj:jS j n][S2:SF K n t2 f2]:SM K n (q0 (eJ (gZ j) (eJ t2 g7))) (Bx j f2):=⟨λ{σ hv H U Z ρ' τv τd d Q} I h k=>by
 obtain⟨e,h2,h⟩:=ae.mp h;obtain⟨⟨d0,ρ1⟩,hm,h⟩:=aV.mp h;cases h;obtain⟨v0,ev,U1,I1,bC⟩:∃v0,σ[j]?=some (some v0)/\∃U1,aw K n H U1 σ hv ρ1 (τv++ [v0]) (τd++ [d0])/\b8 U H U1 H:=by
  obtain⟨d1,g1,g2⟩:=ae.mp hm;by_cases p:plain d1=true
  ·rw[if_pos p]at g2;cases g2;obtain⟨v,ev,w⟩:gZ j σ H (λv H'=>Vw K H' T1 v d0):=(Mp (i:=j)).s I g1 λv H' s w=>w;obtain⟨U',I',st⟩:=I.push (aM.refl H) (eI.plain w p);exact⟨v,ev,U',I',st⟩
  ·rw[if_neg p]at g2
   split at g2
   ·next d' e1=>
    cases g2;obtain⟨v,ev,I'⟩:=I.moved Lj.h e1;exact⟨v,ev,U,I',b8.refl U H⟩
   ·cases g2
 refine⟨v0,ev,S2.s I h2 λv2 H1 s1 o1=> ?_⟩;obtain⟨U2,I2,b5⟩:=I1.push s1 o1;refine⟨by show 2<=aK;decide,λp hp=> ?_⟩;have Ym:aw K n H1 U2 σ hv ρ1 (τv++ [v0,v2]) (τd++ [d0,e]):=by
  simp only[dt]at I2;exact I2
 obtain⟨U3,I3,jC⟩:=Ym.gather (k:= .tup) (o:= .tup [v0,v2]) rfl hp (.inl ⟨rfl,rfl,rfl⟩);exact k _ _ U3 I3 (bC.trans (b5.trans jC))⟩
end
end VL
namespace VL
open PySem PySem.Spec PyProof.Rows L2
def gu(n:Int)(ns:List Int):Int:=ns.foldl (λa b=>if b > a then b else a) n
theorem Nz(n:Int)(ns:List Int):∀k,k<=ns.length->(n::ns).getD (argBest (λi j=>decide ((n::ns).getD i 0 > (n::ns).getD j 0)) k) 0=gu n (ns.take k)
 |0,_=>rfl
 |k + 1,h=>by
  have ih:=Nz n ns k (by lia);have e:ns.take (k + 1)=ns.take k++ [ns.getD k 0]:=by
   rw[ael,gM (by lia)];simp[De,gM (show k < ns.length by lia)]
  have e2:gu n (ns.take (k + 1))=if ns.getD k 0 > gu n (ns.take k) then ns.getD k 0 else gu n (ns.take k):=by
   rw[e];unfold gu;rw[List.foldl_append];rfl
  rw[e2,argBest, <- ih];simp only[decide_eq_true_eq]
  split
  ·next c=>exact(if_pos (show ns.getD k 0 > _ from c)).symm
  ·next c=>exact(if_neg (show ¬ ns.getD k 0 > _ from c)).symm
section
theorem Yn(hc:X.calm=true):i5 X (.builtin "max") (λxs H Q=>∃(a:Addr) (n:Int) (ns:List Int),xs= [.ref a]/\cc X.K H a ((n::ns).map V.int)/\Q (.int (gu n ns)) H):=by
 intro aa s σ H xs us Q I r h;obtain⟨a,n,ns,rfl,hs,q⟩:=h;obtain⟨u,rfl,ru⟩:=vals1 r;cases ru;obtain⟨ai,rv,pl,hz⟩:=I.list hs;have hl:ai.length=ns.length + 1:=by rw[<- rv.length,dC];rfl
 refine call_max_walk ?_;refine C4 pl.isList ?_;have lt:a < s.heap.objs.size:=by obtain⟨o,n,e,_⟩:=pl;exact gi e
 have at_:∀(i:Nat) (v:Value),ai.toArray[i]?=some v->∃t,v=wL ((n::ns).getD i 0) t:=λi v hv=>by
  have i6:ai[i]?=some v:=by simpa using hv
  have hi:i < (n::ns).length:=by
   have:=(bB.mp i6).1;rw[fN]
   lia
  have hx:((n::ns).map V.int)[i]?=some (.int ((n::ns).getD i 0)):=by
   rw[dF,gM hi];simp[De,gM hi]
  obtain⟨u,hu,ru⟩:=rv.get hx;rw[i6]at hu;cases hu;exact ru
 refine⟨s.heap.objs.size,_,_,_,_,_,λi j=>decide ((n::ns).getD i 0 > (n::ns).getD j 0),rfl,Df (A:=X.A.in1) (show X.A.in1.handled=none from I.ok.hd hc) _ a (jh lt) ai.toArray,⟨⟨_,jP _ rfl,rfl,rfl⟩,pl.isList.at λo e=>gy _ e⟩,λb hb=> ?_, ?_,CmpOf.ints_gt _ at_,λv h' tk hP hk=> ?_⟩
 ·rw[sd];rcases gK.mp hb with z | hb
  ·rw[z];exact C7 _
  ·rw[cE.mp hb];exact JE lt
 ·rw[fY,hl];exact JH _
 ·obtain⟨t,rfl⟩:=at_ _ v hP;rw[fY,hl,Sl,Nz n ns _ (bK _),JN];refine⟨.int (gu n ns),H,I.kept (t':=tk) λb o eo=>hk b o ?_ (gy _ eo),⟨t,rfl⟩,q⟩;intro z;rw[cE.mp z]at eo;exact absurd (gi eo) (mV _)
def FO(K:ah):List V->Hp->VK->Prop:=λxs H Q=>∃(a:Addr) (n:Int) (ns:List Int),xs= [.ref a]/\cc K H a ((n::ns).map V.int)/\Q (.int (gu n ns)) H
theorem Yo{X:Cx}(hc:X.calm=true):i5 X (.builtin "max") (FO X.K):=Yn hc
end
section
variable {K:ah}{n:Nat}{H H':Hp}{N:Addr->Prop}
def rW:List D->Option (List Int)
 | []=>some []
 |.sc (.int b)::r=>(rW r).map (b:: ·)
 |_::_=>none
theorem NB:∀{cs:List D} {vs:List V} {bs:List Int},vs.length=cs.length->(∀(i:Nat) (v:V) (d:D),vs[i]?=some v->cs[i]?=some d->Vw K H N v d)->rW cs=some bs->vs=bs.map V.int
 | [], [],_,_,_,h=>by rw[rW]at h;cases h;rfl
 | [],_::_,_,h,_,_=>by cases h
 |_::_, [],_,h,_,_=>by cases h
 |d::cs,v::vs,ts,hl,hk,h=>by
  unfold rW at h
  split at h
  ·next e=>cases e
  ·next t r e=>
   cases e;obtain⟨x,h2,h⟩:=aV.mp h;subst h;rw[dZ,(hk 0 v _ rfl rfl).cg,NB (gm hl) (λi v d a b=>hk (i + 1) v d (by simpa using a) (by simpa using b)) h2]
  ·cases h
def RB:List Int->Option D
 |n::ns=>some (.sc (.int (gu n ns)))
 | []=>none
def FP:List D->Option D
 | [.nd .lst cs]=>(rW cs).bind RB
 |_=>none
instance agG:oa K (FO K) FP:=⟨λ{H vs ds d Q} w h k=>by
 unfold FP at h
 split at h
 ·next cs=>
  obtain⟨bs,h1,h2⟩:=ae.mp h;cases bs with
  |nil=>cases h2
  |cons n ns=>
   cases h2;obtain⟨v,rfl,w1⟩:=w.one;obtain⟨a,us,rfl,_,hc,hl,d4⟩:=w1.node;have e:=NB hl d4 h1;exact⟨a,n,ns,rfl,cc.of (by rw[<- e];exact hc.2),k _ H (aM.refl H) (.sc _)⟩
 ·cases h⟩
end
end VL
namespace VL
open PySem PySem.Spec PyProof.Rows L2
section
variable {K:ah}{H H':Hp}
end
end VL
set_option maxHeartbeats 4000000
namespace VL
open PySem L2
abbrev iD(i:Int):D:= .sc (.int i)
abbrev tD(b:Bool):D:= .sc (.bl b)
abbrev sD(s:Str):D:= .sc (.str s)
def gQ(cs:List Int):D:= .nd .eL (cs.map λi=> .sc (.int i))
theorem lJ(c d:Int):fj id (.sc (.int c)) (.sc (.int d))=some (.sc (.bl (decide (c=d)))):=by
 simp[fj,cf,sg,sh,fw];by_cases h:c=d <;> simp[h]
theorem By(c d:Int):fj (!·) (.sc (.int c)) (.sc (.int d))=some (.sc (.bl (decide (c≠d)))):=by
 simp[fj,cf,sg,sh,fw];by_cases h:c=d <;> simp[h]
theorem tP(c d:Str)(hc:i4 c=true)(hd:i4 d=true):fj id (.sc (.str c)) (.sc (.str d))=some (.sc (.bl (decide (c=d)))):=by
 simp[hc,hd,fj,cf,sg,sh,fw];by_cases h:c=d <;> simp[h]
theorem yv(c d:Str)(hc:i4 c=true)(hd:i4 d=true):fj (!·) (.sc (.str c)) (.sc (.str d))=some (.sc (.bl (decide (c≠d)))):=by
 simp[hc,hd,fj,cf,sg,sh,fw];by_cases h:c=d <;> simp[h]
theorem tQ:(1<=aK)=True:=eq_true (by decide)
theorem i7:(2<=aK)=True:=eq_true (by decide)
theorem NC:(3<=aK)=True:=eq_true (by decide)
theorem Yp:(4<=aK)=True:=eq_true (by decide)
theorem FQ:(5<=aK)=True:=eq_true (by decide)
theorem ND:(6<=aK)=True:=eq_true (by decide)
theorem Yq:(8<=aK)=True:=eq_true (by decide)
def NA(x:Option B):Prop:=∀r p,x≠some (.ar r p)
theorem cv:gq i []= []:=rfl
theorem fT:gq i (some (.own d)::r)=some (.own d)::gq i r:=rfl
theorem fm:gq i (some (.ro d)::r)=some (.ro d)::gq i r:=rfl
theorem dI:gq i (none::r)=none::gq i r:=rfl
theorem gE:gq i (some (.ar j p)::r)=(if j=i then none else some (.ar j p))::gq i r:=rfl
theorem gR(h:NA x):gq i (x::r)=x::gq i r:=by
 match x,h with
 |none,_=>rfl
 |some (.own _),_=>rfl
 |some (.ro _),_=>rfl
 |some (.ar r p),h=>exact absurd rfl (h r p)
theorem cK(h:NA x):eg Z x=x:=by
 match x,h with
 |none,_=>rfl
 |some (.own _),_=>rfl
 |some (.ro _),_=>rfl
 |some (.ar r p),h=>exact absurd rfl (h r p)
def Ev(f:En->Option Fl)(Z:En)(Q:Fl->Prop):Prop:=∃fl,f Z=some fl/\Q fl
theorem Ev.seq(h:Ev t Z λfl=>match fl with | .nx ρ'=>Ev u ρ' Q | fl=>Q fl):Ev (dG t u) Z Q:=by
 obtain⟨fl,e,h⟩:=h;unfold Ev dG;rw[e];cases fl with
 |nx ρ'=>exact h
 |_=>exact⟨_,rfl,h⟩
theorem Ev.nx(e:t Z=some (.nx ρ'))(h:Ev u ρ' Q):Ev (dG t u) Z Q:=Ev.seq ⟨_,e,h⟩
theorem NF{ds:List D}{R:D->Prop}(h:Ev f (ds.map (λd=>some (.ro d))++gL (n - ds.length) none) λfl=>match fl with | .rt d _=>R d | .nx _=>R (.sc .aJ) | _=>False):∃d,cY n f ds=some d/\R d:=by
 obtain⟨fl,e,h⟩:=h;unfold cY;rw[e];cases fl with
 |nx ρ'=>exact⟨_,rfl,h⟩
 |rt d ρ'=>exact⟨_,rfl,h⟩
 |bk _=>exact h.elim
 |ct _=>exact h.elim
theorem FR{fg:D->En->Option En}{Q:Fl->Prop}(P:En->Prop):∀(ds:List D) (Z:En),P Z->(∀d∈ds,∀Z,P Z->∃ρ1,fg d Z=some ρ1/\Ev fb ρ1 λfl=>match fl with | .nx aD=>P aD | .ct aD=>P aD | .bk aD=>Q (.nx aD) | .rt d aD=>Q (.rt d aD))->
  (∀Z,P Z->Q (.nx Z))->∃fl,iY fg fb ds Z=some fl/\Q fl
 | [],Z,p,_,hd=>⟨_,rfl,hd Z p⟩
 |d::ds,Z,p,st,hd=>by
  obtain⟨ρ1,e1,fl,e2,h⟩:=st d (.head _) Z p;rw[iY,e1];show ∃fl,(fb ρ1).bind _=some fl/\Q fl;rw[e2];cases fl with
  |nx aD=>exact FR P ds aD h (λd mE=>st d (.tail _ mE)) hd
  |ct aD=>exact FR P ds aD h (λd mE=>st d (.tail _ mE)) hd
  |bk aD=>exact⟨_,rfl,h⟩
  |rt d aD=>exact⟨_,rfl,h⟩
theorem Ev.for{fi:En->Option (List D)}{fg:D->En->Option En}{fb:En->Option Fl}{Q:Fl->Prop}(hi:fi Z=some ds)(P:En->Prop)(h0:P Z)
  (st:∀d∈ds,∀Z,P Z->∃ρ1,fg d Z=some ρ1/\Ev fb ρ1 λfl=>match fl with | .nx aD=>P aD | .ct aD=>P aD | .bk aD=>Q (.nx aD) | .rt d aD=>Q (.rt d aD)) (hd:∀Z,P Z->Q (.nx Z)):
  Ev (λZ=>(fi Z).bind λds=>iY fg fb ds Z) Z Q:=by
 show ∃fl,(fi Z).bind _=some fl/\Q fl;rw[hi];exact FR P ds Z h0 st hd
theorem tR(m:Nat)(hm:m < 100):lZ [.sc (.int (m:Int))]=some (iB 0 m):=by
 unfold lZ;dsimp only;rw[if_pos ⟨by lia,by lia⟩];rfl
theorem NG{α:Type}(g:α->D)(p:α->Bool)(h:α->D):∀(l:List α),(∀a∈l,∃ρ1,fg (g a) ρ0=some ρ1/\ft ρ1=some (p a)/\(p a=true->fe ρ1=some (h a)))->
  mL fg ft fe ρ0 (l.map g)=some ((l.filter p).map h)
 | [],_=>rfl
 |a::l,H=>by
  obtain⟨ρ1,e1,e2,e3⟩:=H a (.head _);have ih:=NG g p h l λx hx=>H x (.tail _ hx);rw[dZ,mL,e1];show(ft ρ1).bind _=_;rw[e2];show(if p a=true then _ else _)=_;cases q:p a with
  |true=>rw[if_pos rfl,e3 q];show(mL fg ft fe ρ0 (l.map g)).map _=_;rw[ih,List.filter_cons_of_pos q];rfl
  |false=>rw[if_neg ji,ih,List.filter_cons_of_neg (by rw[q];exact ji)]
theorem Bz(h:f (ds.map (λd=>some (.ro d))++gL (n - ds.length) none)=some (.rt d ρ')):cY n f ds=some d:=by
 unfold cY;rw[h]
theorem BA(h:f (cz n br ds)=some (.rt d ρ'))(ho:dg (ρ'.drop n)=some o):bE n br f ds=some (d,o):=by
 unfold bE;rw[h];show(dg (ρ'.drop n)).map _=_;rw[ho];rfl
theorem qv(h:f Z=some (d,ρ')):dR f Z=some (.rt d ρ'):=by
 unfold dR;rw[h];rfl
theorem iU(e:t Z=some (.nx ρ'))(h:u ρ'=r):dG t u Z=r:=by
 unfold dG;rw[e];exact h
theorem oo{x:Option D}{Z:En}{d:D}(h:x=some d):x.map (λd=>(d,Z))=some (d,Z):=by rw[h];rfl
theorem Yr{n:Nat}{fg:D->En->Option En}{ft:En->Option Bool}{fe:En->Option D}(h1:fi Z=some ds)(hz:ds.length<=aK)(qe:is.all (λi=>js[i]? == some none)=true)
  (h2:mL fg ft fe (gD n js Z) ds=some ys):kl n js is fi fg ft fe Z=some (.nd .lst ys):=by
 unfold kl;rw[h1];show(if _ then _ else _)=_;rw[if_pos ⟨hz,qe⟩,h2];rfl
theorem nB{α:Type}{n:Nat}{fg:D->En->Option En}{ft:En->Option Bool}{fe:En->Option D}(l:List α)(g:α->D)(p:α->Bool)(h:α->D)(h1:fi Z=some (l.map g))(hz:l.length<=aK)(qe:is.all (λi=>js[i]? == some none)=true)
  (h2:∀a∈l,∃ρ1,fg (g a) (gD n js Z)=some ρ1/\ft ρ1=some (p a)/\(p a=true->fe ρ1=some (h a))):kl n js is fi fg ft fe Z=some (.nd .lst ((l.filter p).map h)):=
 Yr h1 (by rw[dC];exact hz) qe (NG g p h l h2)
theorem NH(h:d∈iB lo m):∃i:Nat,i < m/\d=iD (lo + i):=by
 unfold iB at h;obtain⟨i,hi,e⟩:=iy.mp h;exact⟨i,zG.mp hi,e.symm⟩
theorem gU:eg Z (some (.own d))=some (.own d):=rfl
theorem oq:eg Z (some (.ro d))=some (.ro d):=rfl
theorem Ys:eg Z none=none:=rfl
theorem gj:NA none:=λ_ _ h=>by cases h
theorem mO:NA (some (.ro d)):=λ_ _ h=>by cases h
theorem je:NA (some (.own d)):=λ_ _ h=>by cases h
theorem BB:(af "many"=af "number")=False:=cV
theorem kq:(af "term"=af "number")=False:=cV
theorem kr:(af "term"=af "many")=False:=cV
theorem tS:(af "of"=af "number")=False:=cV
theorem tT:(af "of"=af "many")=False:=cV
theorem tU:(af "of"=af "term")=False:=cV
theorem qw:(af "log"=af "number")=False:=cV
theorem qx:(af "log"=af "many")=False:=cV
theorem qy:(af "log"=af "term")=False:=cV
theorem qz:(af "log"=af "of")=False:=cV
theorem vz:(af "done"=af "number")=False:=cV
theorem vA:(af "done"=af "many")=False:=cV
theorem vB:(af "done"=af "term")=False:=cV
theorem vC:(af "done"=af "of")=False:=cV
theorem vD:(af "done"=af "log")=False:=cV
theorem ku:(af "role"=af "number")=False:=cV
theorem ky:(af "role"=af "many")=False:=cV
theorem kB:(af "role"=af "term")=False:=cV
theorem kC:(af "role"=af "of")=False:=cV
theorem kD:(af "role"=af "log")=False:=cV
theorem kE:(af "role"=af "done")=False:=cV
theorem yw:(af "voices"=af "number")=False:=cV
theorem yx:(af "voices"=af "many")=False:=cV
theorem yy:(af "voices"=af "term")=False:=cV
theorem yz:(af "voices"=af "of")=False:=cV
theorem yA:(af "voices"=af "log")=False:=cV
theorem yB:(af "voices"=af "done")=False:=cV
theorem yC:(af "voices"=af "role")=False:=cV
theorem yD:(af "sizes"=af "number")=False:=cV
theorem yE:(af "sizes"=af "many")=False:=cV
theorem yF:(af "sizes"=af "term")=False:=cV
theorem yG:(af "sizes"=af "of")=False:=cV
theorem yH:(af "sizes"=af "log")=False:=cV
theorem yI:(af "sizes"=af "done")=False:=cV
theorem yJ:(af "sizes"=af "role")=False:=cV
theorem yK:(af "sizes"=af "voices")=False:=cV
theorem BC:(af "fixed"=af "number")=False:=cV
theorem BD:(af "fixed"=af "many")=False:=cV
theorem BE:(af "fixed"=af "term")=False:=cV
theorem BF:(af "fixed"=af "of")=False:=cV
theorem BG:(af "fixed"=af "log")=False:=cV
theorem BH:(af "fixed"=af "done")=False:=cV
theorem BI:(af "fixed"=af "role")=False:=cV
theorem BJ:(af "fixed"=af "voices")=False:=cV
theorem BK:(af "fixed"=af "sizes")=False:=cV
def Gd(n:Nat)(d:D):Prop:=∃p,cf d=some p/\p.canLay0=true/\p.depth<=n/\fw p p=true
def mi(n:Nat)(ds:List D):Prop:=∃ps,kj ds=some ps/\Sr ps=true/\Ss ps<=n/\w5 ps ps=true
theorem Gd.int(i:Int):Gd 0 (.sc (.int i)):=⟨.int i,by simp[cf],by simp[sg],by simp[sh],by simp[fw]⟩
theorem Gd.str(x:Str)(h:i4 x=true):Gd 0 (.sc (.str x)):=⟨.str x,by simp[cf],by simp[sg,h],by simp[sh],by simp[fw]⟩
theorem Gd.mono(h:Gd m d)(l:m<=n):Gd n d:=by
 obtain⟨p,a,b,c,e⟩:=h;exact⟨p,a,b,bW c l,e⟩
theorem mi.nil:mi n []:=⟨[],by simp[kj],by simp[Sr],by simp[Ss],by simp[w5]⟩
theorem mi.cons(h:Gd n d)(t:mi n ds):mi n (d::ds):=by
 obtain⟨p,a,b,c,e⟩:=h;obtain⟨ps,a',b',c',e'⟩:=t;exact⟨p::ps,by simp[kj,a,a'],by simp[Sr,b,b'],by simp[Ss];lia,by simp[w5,e,e']⟩
theorem mi.all:∀{ds:List D},(∀d∈ds,Gd n d)->mi n ds
 | [],_=> .nil
 |d::ds,h=> .cons (h d (.head _)) (mi.all λx hx=>h x (.tail _ hx))
theorem mi.tup(h:mi n ds):Gd (n + 1) (.nd .tup ds):=by
 obtain⟨ps,a,b,c,e⟩:=h;exact⟨.tuple ps,by simp[cf,a],by simp[sg,b],by simp[sh];lia,by simp[fw,e]⟩
theorem mi.lst(h:mi n ds):Gd (n + 1) (.nd .lst ds):=by
 obtain⟨ps,a,b,c,e⟩:=h;exact⟨.list ps,by simp[cf,a],by simp[sg,b],by simp[sh];lia,by simp[fw,e]⟩
theorem BL(m:Nat):iB 0 m=(lx m).map λi:Nat=>D.sc (.int (i:Int)):=by
 unfold iB;refine List.map_congr_left λi _=> ?_;rw[Int.zero_add]
def gF(nu:Int)(m:Nat):List Nat:=(lx m).filter λi:Nat=>decide ((i:Int)≠nu)
def dU(nu ma te:Int):Int:=te + 1 + (nu - (te + 1)) % ma
def Lp(l:List D):Prop:=∃x y:Int,l= [iD x]\/l= [iD x,iD y]
theorem Yt{R:D->List D->Prop}(h:Ev f (cz n br ds) λfl=>match fl with | .rt d ρ'=>∃o,dg (ρ'.drop n)=some o/\R d o | _=>False):∃d o,bE n br f ds=some (d,o)/\R d o:=by
 obtain⟨fl,e,h⟩:=h;cases fl with
 |rt d ρ'=>
  obtain⟨o,ho,r⟩:=h;exact⟨d,o,BA e ho,r⟩
 |nx _=>exact h.elim
 |bk _=>exact h.elim
 |ct _=>exact h.elim
theorem Ev.ou(h:fc Z=some (true,ρ1))(ha:Ev a ρ1 Q):Ev (dm fc a b) Z Q:=by
 obtain⟨fl,e,q⟩:=ha;refine⟨fl, ?_,q⟩;unfold dm;rw[h];exact e
def dB:List Str:= ["number","many","term","of","log","done","role","voices","sizes","fixed"]
inductive kY:D->Prop
 |a (s:Str) (k:Int):i4 s=true->kY (.nd .tup [.sc (.str s), .sc (.int k)])
 |b (s:Str) (k t:Int):i4 s=true->kY (.nd .tup [.sc (.str s), .sc (.int k), .sc (.int t)])
 |c (s:Str) (k:Int) (t:Str):i4 s=true->i4 t=true->kY (.nd .tup [.sc (.str s), .sc (.int k), .sc (.str t)])
def cx(L:List D):Prop:=∀d∈L,kY d
theorem kY.plain(h:kY d):VL.plain d=true:=by cases h <;> simp[VL.plain,VL.bf]
theorem cx.plain(h:cx L):VL.bf L=true:=sZ λd hd=>(h d hd).plain
theorem cx.nil:cx []:=λ_ h=>nomatch h
theorem cx.app(h:cx L)(g:cx M):cx (L++M):=λd hd=>(iG.mp hd).elim (h d) (g d)
theorem cx.one(h:kY r):cx [r]:=λd hd=>by rw[cE.mp hd];exact h
def mD(C:Addr)(nu ma te o:Int)(L:List D)(dn:Int)(role:Str)(vo si:D):D:= .nd (.obj C dB) [iD nu,iD ma,iD te,iD o, .nd .lst L,iD dn,sD role,vo,si,tD true]
theorem yL(nu ma te o:Int)(L:List D)(dn:Int)(role:Str)(vo si:D):VL.plain (mD C nu ma te o L dn role vo si)=false:=by simp[mD,VL.plain]
theorem vE(h:(cy m dB).isNone=true)(nu ma te o:Int)(L:List D)(dn:Int)(role:Str)(vo si:D):j8 C m (mD C nu ma te o L dn role vo si)=true:=by
 show(decide (C=C) && (cy m dB).isNone)=true;rw[decide_eq_true rfl,h];rfl
theorem NI(nu ma te o:Int)(L:List D)(dn:Int)(role:Str)(vo si:D):bT "number" (mD C nu ma te o L dn role vo si)=some (iD nu):=by
 simp[mD,dB,bT,fz,cy,aZ]
theorem FT(nu ma te o:Int)(L:List D)(dn:Int)(role:Str)(vo si:D):bT "term" (mD C nu ma te o L dn role vo si)=some (iD te):=by
 simp[mD,dB,bT,fz,cy,aZ,kq,kr]
theorem Yu(nu ma te o:Int)(L:List D)(dn:Int)(role:Str)(vo si:D):bT "of" (mD C nu ma te o L dn role vo si)=some (iD o):=by
 simp[mD,dB,bT,fz,cy,aZ,tS,tT,tU]
theorem NJ(nu ma te o:Int)(L:List D)(dn:Int)(role:Str)(vo si:D):bT "log" (mD C nu ma te o L dn role vo si)=some (.nd .lst L):=by
 simp[mD,dB,bT,fz,cy,aZ,qw,qx,qy,qz]
theorem FU(nu ma te o:Int)(L:List D)(dn:Int)(role:Str)(vo si:D):bT "done" (mD C nu ma te o L dn role vo si)=some (iD dn):=by
 simp[mD,dB,bT,fz,cy,aZ,vz,vA,vB,vC,vD]
theorem FV(nu ma te o:Int)(L:List D)(dn:Int)(role:Str)(vo si:D):bT "role" (mD C nu ma te o L dn role vo si)=some (sD role):=by
 simp[mD,dB,bT,fz,cy,aZ,ku,ky,kB,kC,kD,kE]
theorem Yv(nu ma te o:Int)(L:List D)(dn:Int)(role:Str)(vo si:D):bT "sizes" (mD C nu ma te o L dn role vo si)=some (si):=by
 simp[mD,dB,bT,fz,cy,aZ,yD,yE,yF,yG,yH,yI,yJ,yK]
end VL
namespace VL
open PySem PySem.Spec PyProof.Rows L2
section
variable {K:ah}{n:Nat}{H H' H1 H2:Hp}{U U':Addr->Prop}{σ hv:List (Option V)}{Z ρ':En}{τv vs:List V}{τd ds:List D}{v y:V}{d:D}{E:lM}
theorem kf{α:Type}(A B:List α)(x:α)(j:Nat):(A++ [x]++B)[j]?=if j < A.length then(A++B)[j]? else if j=A.length then some x else(A++B)[j - 1]?:=by
 by_cases h1:j < A.length
 ·rw[if_pos h1,dt,ba h1,ba h1]
 ·rw[if_neg h1,dt,bI (by lia)];by_cases h2:j=A.length
  ·rw[if_pos h2,h2];simp
  ·rw[if_neg h2,List.singleton_append,bI (by lia)];obtain⟨k,hk⟩:∃k,j - A.length=k + 1:=⟨j - A.length - 1,by lia⟩
   rw[hk,List.getElem?_cons_succ,show j - 1 - A.length=k by lia]
def kZ(r m:Nat)(Z:En):En:=match Z[r]? with
 |some (some (.ar q []))=>if q=m then((gq m Z).take m).set r ((ak Z m).map .own) else(gq m Z).take m
 |_=>(gq m Z).take m
def pN(M c:Nat)(Fs:Nat->Addr->Prop)(j:Nat)(b:Addr):Prop:=if j < M then(if j=c then Fs M b else Fs j b) else Fs (j + 1) b
theorem Yw(h:j < M)(h2:j≠c):pN M c Fs j=Fs j:=by
 funext b;unfold pN;rw[if_pos h,if_neg h2]
theorem Yx(h:c < M):pN M c Fs c=Fs M:=by
 funext b;unfold pN;rw[if_pos h,if_pos rfl]
theorem Yy(h:¬ j < M):pN M c Fs j=Fs (j + 1):=by
 funext b;unfold pN;rw[if_neg h]
theorem aw.NK{M c:Nat}(I:aw K n H U σ (hv++ [some v]) Z τv τd)(Yz:Z.length=M + 1)(FW:X.length=M)
  (hX:∀(j:Nat) (γ:B),X[j]?=some (some γ)->(j≠c/\Z[j]?=some (some γ)/\∀q p,γ= .ar q p->q≠M)\/(j=c/\∃d,γ= .own d/\ak Z M=some d/\Z[j]?=some (some (.ar M [])))):
  aw K n H U σ hv X τv τd:=by
 have l:=I.len;have nn:=I.nn;obtain⟨hl,mu,Fs,dj,sub,sl⟩:=I.ok;rw[bQ,kN]at l;have hM:(σ++hv).length=M:=by rw[bQ];lia
 have eA:σ++(hv++ [some v])++τv.map some=(σ++hv)++ [some v]++τv.map some:=by simp
 rw[eA]at hl sl;refine⟨?_,by rw[FW, <- hM,bQ],nn⟩;rw[FW];have old:∀(q:Nat),q < M->((σ++hv)++ [some v]++τv.map some)[q]?=((σ++hv)++τv.map some)[q]?:=λq hq=>by
  rw[kf,if_pos (by lia)]
 have vF:((σ++hv)++ [some v]++τv.map some)[M]?=some (some v):=by
  rw[kf,if_neg (by lia),if_pos hM.symm]
 have big:∀(q:Nat),¬ q < M->((σ++hv)++ [some v]++τv.map some)[q + 1]?=((σ++hv)++τv.map some)[q]?:=λq hq=>by
  rw[kf,if_neg (by lia),if_neg (by lia),Sl]
 refine⟨by simp only[bQ,kN]at hl hM |-;lia,mu,pN M c Fs,λi j b hi hj=> ?_,λi b hb=> ?_,λj γ eY=> ?_⟩
 ·have hi:if i < M then(if i=c then Fs M b else Fs i b) else Fs (i + 1) b:=hi;have hj:if j < M then(if j=c then Fs M b else Fs j b) else Fs (j + 1) b:=hj
  split at hi <;> split at hj
  ·split at hi <;> split at hj
   ·lia
   ·have:=dj _ _ b hi hj;lia
   ·have:=dj _ _ b hi hj;lia
   ·exact dj _ _ b hi hj
  ·split at hi
   ·have:=dj _ _ b hi hj;lia
   ·have:=dj _ _ b hi hj;lia
  ·split at hj
   ·have:=dj _ _ b hi hj;lia
   ·have:=dj _ _ b hi hj;lia
  ·have:=dj _ _ b hi hj;lia
 ·have hb:if i < M then(if i=c then Fs M b else Fs i b) else Fs (i + 1) b:=hb
  split at hb
  ·split at hb <;> exact sub _ b hb
  ·exact sub _ b hb
 ·by_cases c1:j < M
  ·rw[ba (by lia)]at eY;rcases hX j γ eY with⟨n1,q1,q2⟩ | ⟨rfl,dd,rfl,hd,q1⟩
   ·obtain⟨v2,cX,du⟩:=sl j γ (by rw[ba (by lia)];exact q1);rw[old _ c1]at cX;refine⟨v2,cX, ?_⟩;cases γ with
    |own dd=>
     show bh K H (pN M c Fs j) v2 dd;rw[Yw c1 n1];exact du
    |ro dd=>exact du
    |ar q p=>
     obtain⟨a,vr,b,k⟩:=du;have:=q2 q p rfl;have hq:q < M:=by lia
     rw[old _ hq]at b;exact⟨hq,vr,b,k⟩
   ·obtain⟨v2,cX,du⟩:=sl j _ (by rw[ba (by lia)];exact q1);obtain⟨_,vr,b,k⟩:=du;rw[old _ c1]at cX;rw[vF]at b;cases b;cases k;obtain⟨v3,NL,YA⟩:=sl M (.own dd) (by rw[ba (by lia)];exact lV hd);rw[vF]at NL;cases NL;refine⟨_,cX, ?_⟩;show bh K H (pN M j Fs j) _ dd;rw[Yx c1];exact YA
  ·rw[bI (by lia),FW]at eY;obtain⟨v2,cX,du⟩:=sl (j + 1) γ (by rw[bI (by lia),Yz,show j + 1 - (M + 1)=j - M by lia];exact eY);rw[big _ c1]at cX;refine⟨v2,cX, ?_⟩;rw[dF]at eY;obtain⟨dd,_,e2⟩:=aV.mp eY;cases e2;show bh K H (pN M c Fs j) v2 dd;rw[Yy c1];exact du
theorem NM(h:((gq M Z).take M)[j]?=some (some γ)):j < M/\Z[j]?=some (some γ)/\∀q p,γ= .ar q p->q≠M:=by
 have hj:j < M:=by
  rcases wX j M with z | z
  ·exact z
  ·rw[List.getElem?_take_eq_none (by lia)]at h;cases h
 rw[R8 hj]at h;exact⟨hj,ED h⟩
theorem aw.cls(I:aw K n H U σ (hv++ [some v]) Z τv τd)(hm:Z.length=m + 1)(hr:r < m):aw K n H U σ hv (kZ r m Z) τv τd:=by
 have e:((gq m Z).take m).length=m:=by rw[wO,kX];lia
 have plain:aw K n H U σ hv ((gq m Z).take m) τv τd:=I.NK (c:=m) hm e λj γ h=>by
  obtain⟨a,b,c⟩:=NM h;exact .inl ⟨by lia,b,c⟩
 unfold kZ
 split
 ·next q hq=>
  split
  ·next c=>
   subst c;refine I.NK (c:=r) hm (by rw[bZ];exact e) λj γ h=> ?_;by_cases cj:r=j
   ·subst cj;rw[dr (by lia)]at h;have h:(ak Z q).map B.own=some γ:=ka h;obtain⟨d,h1,h2⟩:=aV.mp h;exact .inr ⟨rfl,d,h2.symm,h1,hq⟩
   ·rw[fq cj]at h;obtain⟨_,b,c⟩:=NM h;exact .inl ⟨λz=>cj z.symm,b,c⟩
  ·exact plain
 ·exact plain
end
end VL
namespace VL
open PySem PySem.Spec PyProof.Rows L2
section
variable {K:ah}{n:Nat}{H H' H1 H2:Hp}{U U':Addr->Prop}{σ hv:List (Option V)}{Z ρ':En}{τv vs:List V}{τd ds:List D}{v y:V}{d:D}{N:Addr->Prop}
open Classical in
end
end VL
namespace VL
open PySem PySem.Spec PyProof.Rows PySem.W L2
section
variable {K:ah}{n:Nat}{H H' H1 H2:Hp}{U U':Addr->Prop}{σ hv:List (Option V)}{Z ρ':En}{τv vs:List V}{τd ds:List D}{d:D}{E:lM}
end
section
end
section
variable {K:ah}{n:Nat}{H H':Hp}
instance (priority:=4000) agH{i:Nat}[L:jS i n]:SS K n (qS (gZ i)) (dR (fD i)):=@WO K n _ _ WN
end
end VL
namespace VL
open PySem PySem.Spec PyProof.Rows PySem.W L2
section
variable {K:ah}{n:Nat}{H H' H1 H2:Hp}{U U':Addr->Prop}{σ hv:List (Option V)}{Z ρ':En}{τv vs:List V}{τd ds:List D}{v y:V}{d d1:D}{E:lM}
end
end VL
namespace VL
open PySem PySem.Spec PyProof.Rows L2
section
variable {K:ah}{n:Nat}{C:Addr}{m:Str}{E:XK}
end
end VL
namespace VL
open PySem L2
theorem BM{fg:D->En->Option En}{Q:Fl->Prop}(P:Nat->En->Prop)(st:∀j:Nat,j < N->∀Z,P j Z->∃ρ1,fg (iD (j:Int)) Z=some ρ1/\Ev fb ρ1 λfl=>match fl with | .nx aD=>P (j + 1) aD | .ct aD=>P (j + 1) aD | .bk aD=>Q (.nx aD) | .rt d aD=>Q (.rt d aD))
  (hd:∀Z,P N Z->Q (.nx Z)):∀(k i:Nat) (Z:En),i + k=N->P i Z->∃fl,iY fg fb ((List.range' i k).map λi:Nat=>iD (i:Int)) Z=some fl/\Q fl
 |0,i,Z,hN,p=>⟨_,rfl,hd Z (by rw[<- hN];exact p)⟩
 |k + 1,i,Z,hN,p=>by
  obtain⟨ρ1,e1,fl,e2,h⟩:=st i (by lia) Z p;rw[List.range'_succ,dZ,iY,e1];show ∃fl,(fb ρ1).bind _=some fl/\Q fl;rw[e2];cases fl with
  |nx aD=>exact BM P st hd k (i + 1) aD (by lia) h
  |ct aD=>exact BM P st hd k (i + 1) aD (by lia) h
  |bk aD=>exact⟨_,rfl,h⟩
  |rt d aD=>exact⟨_,rfl,h⟩
theorem NO(m:Nat):iB 0 m=(List.range' 0 m).map λi:Nat=>iD (i:Int):=by rw[BL,List.range_eq_range']
theorem Ev.NP{fi:En->Option (List D)}{fg:D->En->Option En}{fb:En->Option Fl}{Q:Fl->Prop}(hi:fi Z=some (iB 0 m))(P:Nat->En->Prop)(h0:P 0 Z)
  (st:∀j:Nat,j < m->∀Z,P j Z->∃ρ1,fg (iD (j:Int)) Z=some ρ1/\Ev fb ρ1 λfl=>match fl with | .nx aD=>P (j + 1) aD | .ct aD=>P (j + 1) aD | .bk aD=>Q (.nx aD) | .rt d aD=>Q (.rt d aD)) (hd:∀Z,P m Z->Q (.nx Z)):
  Ev (λZ=>(fi Z).bind λds=>iY fg fb ds Z) Z Q:=by
 show ∃fl,(fi Z).bind _=some fl/\Q fl;rw[hi];show ∃fl,iY fg fb (iB 0 m) Z=some fl/\Q fl;rw[NO];exact BM P st hd m 0 Z (by lia) h0
theorem qA(h:f Z=some (d,ρ1))(e:bw i (.own d) ρ1=aD):gC i f Z=some (.nx aD):=by
 unfold gC;rw[h, <- e];rfl
theorem ic:eg Z (some (.ar r p))=if p= []\/((ak Z r).bind (ag · p)).isSome=true then some (.ar r p) else none:=rfl
theorem tV(h:fc Z=some (c,ρ1))(hr:(if c=true then a ρ1 else b ρ1)=r):dm fc a b Z=r:=by
 unfold dm;rw[h];exact hr
theorem pO(h1:fa Z=some (a,ρ1))(h2:fb ρ1=some (b,aD))(h3:g a b=some d):kh g fa fb Z=some (d,aD):=by
 unfold kh;rw[h1];show(fb ρ1).bind _=_;rw[h2];show(g a b).map _=_;rw[h3];rfl
theorem FX(h:f Z=some (.sc (.bl b),ρ1)):A0 f Z=some (b,ρ1):=by
 unfold A0;rw[h];rfl
theorem Ev.NQ{fa:En->Option (List D×En)}{fg:D->En->Option En}{fb:En->Option Fl}{Q:Fl->Prop}(h1:fa Z=some (as,ρ0))(h2:lZ as=some (iB 0 m))(P:Nat->En->Prop)(h0:P 0 ρ0)
  (st:∀j:Nat,j < m->∀Z,P j Z->∃ρ1,fg (iD (j:Int)) Z=some ρ1/\Ev fb ρ1 λfl=>match fl with | .nx aD=>P (j + 1) aD | .ct aD=>P (j + 1) aD | .bk aD=>Q (.nx aD) | .rt d aD=>Q (.rt d aD)) (hd:∀Z,P m Z->Q (.nx Z)):
  Ev (VL.Bv fa fg fb) Z Q:=by
 unfold Ev VL.Bv;rw[h1];show ∃fl,(lZ as).bind _=some fl/\Q fl;rw[h2];show ∃fl,iY fg fb (iB 0 m) ρ0=some fl/\Q fl;rw[NO];exact BM P st hd m 0 ρ0 (by lia) h0
end VL
namespace VL
open PySem PySem.Spec PyProof.Rows L2
section
theorem NR(h:xB X pos keys values lT)(qe:keys.all (·.isSome)=true)(hl:keys.length=values.length)(h0:keys.isEmpty=false)(Eg:Nat.ble keys.length 15=true):PE X (.Dict keys values pos) (xC lT):=
 LQ h qe hl (λz=>by rw[z]at h0;cases h0) (aef Eg)
end
theorem NS:∀(ks:List aY) (vs:List V) (dJ:List (aY×V)),ks.Nodup->(∀k∈ks,∀p∈dJ,p.1≠k)->nV dJ (ks.zip vs)=dJ++ks.zip vs
 | [],vs,dJ,_,_=>by simp[nV]
 |k::ks, [],dJ,_,_=>by simp[nV]
 |k::ks,v::vs,dJ,hn,hd=>by
  obtain⟨h1,h2⟩:=nI.mp hn;have e:jv dJ k v=dJ++ [(k,v)]:=by
   unfold jv;rw[if_neg];simp only[List.any_eq_true,decide_eq_true_eq,not_exists,not_and];exact λp hp=>hd k (.head _) p hp
  rw[pX];show nV (jv dJ k v) (ks.zip vs)=_;rw[e,NS ks vs _ h2 λk' hk p hp=> ?_]
  ·simp
  ·rcases iG.mp hp with h | h
   ·exact hd k' (.tail _ hk) p h
   ·rw[cE.mp h];exact λz=>h1 (by rw[show k=k' from z];exact hk)
section
variable {K:ah}{n:Nat}
class BN(K:ah)(n:Nat)(lT:List (TE×TE))(f:outParam (En->Option (List D×List D))):Prop where
 s:∀{σ hv:List (Option V)} {H:Hp} {U:Addr->Prop} {Z:En} {τv:List V} {τd:List D} {p:List D×List D} {Q:List (V×V)->Hp->Prop},aw K n H U σ hv Z τv τd->f Z=some p->(∀xs vs H',aM H H'->dN K H' T1 xs p.1->jH K H H' vs p.2->xs.length=vs.length->Q (xs.zip vs) H')->AN lT σ H Q
instance agI:BN K n [] (λ_=>some ([], [])):=⟨λI h k=>by cases h;exact k [] [] _ (aM.refl _) ⟨rfl,λi v d h=>by simp at h⟩ .nil rfl⟩
def kG(fk fv:En->Option D)(fr:En->Option (List D×List D))(Z:En):Option (List D×List D):=(fk Z).bind λk=>(fv Z).bind λv=>(fr Z).map λr=>(k::r.1,v::r.2)
instance agJ[A:SV K n tk fk][B':SQ K n tv fv][R:BN K n r fr]:BN K n ((tk,tv)::r) (kG fk fv fr):=⟨λ{σ hv H U Z τv τd p Q} I h k=>by
 obtain⟨a,ha,h⟩:=ae.mp h;obtain⟨b,hb,h⟩:=ae.mp h;obtain⟨q,hq,h⟩:=aV.mp h;subst h;refine A.s I ha λx H1 s1 w1=>B'.o (I.same s1) hb λy H2 s2 o=>R.s ((I.same s1).same s2) hq λxs vs H3 s3 w3 o3 hl=> ?_;refine k (x::xs) (y::vs) H3 (s1.trans (s2.trans s3)) ⟨by rw[fN,fN,w3.1],λi v d hv hd=> ?_⟩ (jH.cons (o.early s1) s3 o3 (s1.trans s2)) (by rw[fN,fN,hl]);cases i with
 |zero=>cases hv;cases hd;exact w1.same (s2.trans s3)
 |succ i=>exact w3.2 i v d (by simpa using hv) (by simpa using hd)⟩
open Classical in
def vG(f:En->Option (List D×List D))(Z:En):Option D:=(f Z).bind λp=>(mT p.1).bind λks=>if ks.Nodup/\ks.length=p.2.length/\ks.length<=15 then some (.nd (.aB ks) p.2) else none
instance (priority:=900) agK{lT:List (TE×TE)}{f:En->Option (List D×List D)}[A:BN K n lT f]:SF K n (xC lT) (vG f):=⟨λ{σ hv H U Z τv τd d Q} I h k=>by
 obtain⟨⟨kd,ds⟩,h1,h⟩:=ae.mp h;obtain⟨ks,h2,h⟩:=ae.mp h;by_cases c:ks.Nodup/\ks.length=ds.length/\ks.length<=15
 ·rw[if_pos c]at h;cases h;intro p hp;have s0:aM H (aP H p (.dK [])):=iq hp _;refine A.s (I.same s0) h1 λxs vs H2 s2 w o hl=> ?_;have e0:H2 p=some (.dK []):=s2 _ _ gX;have ex:xs=ks.map kV:=Bb w.1 w.2 h2;obtain⟨ol,Fs,dj,fr,rp⟩:=o;refine⟨e0,ks.zip vs, ?_,by rw[uH];have:=c.2.2;lia, ?_⟩
  ·rw[ex,List.zip_map_left];rfl
  have em:nV [] (ks.zip vs)=ks.zip vs:=by
   rw[NS ks vs [] c.1 λ_ _ p hp=>nomatch hp];rfl
  rw[em];have sA:aM H (aP H2 p (.dK (ks.zip vs))):=λb u q=>by
   rw[de (kO q hp)];exact s2 _ _ (s0 _ _ q)
  refine k _ _ sA ?_;have np:∀i,¬ Fs i p:=λi z=>by have q:=(fr i p z).1;rw[gX]at q;cases q
  refine⟨λb=>(∃i,Fs i b)\/b=p, .nd (vs:=vs) Fs ⟨.inr rfl,rfl,by show ks.length=vs.length;rw[ol];exact c.2.1,0,gX⟩ ol dj (λi b hb=>⟨.inl ⟨i,hb⟩,λ_ z=>by rw[z]at hb;exact np i hb⟩) λi u e hu he=> ?_,λb hb=> ?_⟩
  ·refine(rp i u e hu he).frame (λb o hb q=> ?_) (xQ (by rw[e0];trivial));rw[de λz=>by rw[z]at hb;exact np i hb];exact q
  ·rcases hb with⟨i,z⟩ | z
   ·refine⟨s0.free (fr i b z).1, ?_⟩;rw[de λw=>by rw[w]at z;exact np i z];exact(fr i b z).2
   ·rw[z];exact⟨hp,by rw[gX];trivial⟩
 ·rw[if_neg c]at h;cases h⟩
end
end VL
namespace VL
open PySem PySem.Spec PyProof.Rows L2
section
variable {K:ah}{n:Nat}{H H' H1 H2:Hp}{U U':Addr->Prop}{σ hv:List (Option V)}{Z ρ':En}{τv vs:List V}{τd ds:List D}{v y:V}{d:D}
def tW(M:Nat)(Fs:Nat->Addr->Prop)(j:Nat)(b:Addr):Prop:=if j < M then Fs j b else if j=M then False else Fs (j - 1) b
theorem YB(h:j < M):tW M Fs j=Fs j:=by
 funext b;unfold tW;rw[if_pos h]
theorem YC(h:¬ j < M)(h2:¬ j=M):tW M Fs j=Fs (j - 1):=by
 funext b;unfold tW;rw[if_neg h,if_neg h2]
theorem aw.ar(I:aw K n H U σ hv Z τv τd)(w:hJ K H U (σ++hv) Z v (.rt r p)):aw K n H U σ (hv++ [some v]) (Z++ [some (.ar r p)]) τv τd:=by
 have l:=I.len;have nn:=I.nn;obtain⟨jo,vr,d0,er,agL,_,hp⟩:=w;obtain⟨hl,mu,Fs,dj,sub,sl⟩:=I.ok;have hM:(σ++hv).length=Z.length:=by rw[bQ];exact l
 have eA:σ++(hv++ [some v])++τv.map some=(σ++hv)++ [some v]++τv.map some:=by simp
 refine⟨?_,by rw[bQ,bQ,kN,kN];lia,nn⟩;rw[eA];have hL:(Z++ [some (B.ar r p)]).length=Z.length + 1:=by rw[bQ,kN]
 rw[hL];have old:∀(q:Nat),q < Z.length->((σ++hv)++ [some v]++τv.map some)[q]?=((σ++hv)++τv.map some)[q]?:=λq hq=>by
  rw[kf,if_pos (by lia)]
 have vF:((σ++hv)++ [some v]++τv.map some)[Z.length]?=some (some v):=by
  rw[kf,if_neg (by lia),if_pos hM.symm]
 have A6:((σ++hv)++τv.map some)[r]?=some (some vr):=by rw[ba (by lia)];exact er
 refine⟨by simp only[bQ,kN]at hl |-;lia,mu,tW Z.length Fs,λi j b hi hj=> ?_,λi b hb=> ?_,λj γ eY=> ?_⟩
 ·have hi:if i < Z.length then Fs i b else if i=Z.length then False else Fs (i - 1) b:=hi;have hj:if j < Z.length then Fs j b else if j=Z.length then False else Fs (j - 1) b:=hj
  split at hi
  ·split at hj
   ·exact dj _ _ b hi hj
   ·split at hj
    ·exact hj.elim
    ·have:=dj _ _ b hi hj;lia
  ·split at hi
   ·exact hi.elim
   ·split at hj
    ·have:=dj _ _ b hi hj;lia
    ·split at hj
     ·exact hj.elim
     ·have:=dj _ _ b hi hj;lia
 ·have hb:if i < Z.length then Fs i b else if i=Z.length then False else Fs (i - 1) b:=hb
  split at hb
  ·exact sub _ b hb
  ·split at hb
   ·exact hb.elim
   ·exact sub _ b hb
 ·rw[kf]at eY;by_cases c1:j < Z.length
  ·rw[if_pos c1]at eY;obtain⟨v2,cX,du⟩:=sl j γ eY;refine⟨v2,by rw[old _ c1];exact cX, ?_⟩;cases γ with
   |own dd=>
    have du:bh K H (Fs j) v2 dd:=du;show bh K H (tW Z.length Fs j) v2 dd;rw[YB c1];exact du
   |ro dd=>exact du
   |ar q p=>
    obtain⟨a,vr,b,c⟩:=du;exact⟨by lia,vr,by rw[old _ a];exact b,c⟩
  ·rw[if_neg c1]at eY;by_cases c2:j=Z.length
   ·rw[if_pos c2]at eY;cases eY;subst c2;exact⟨v,vF,by lia,vr,by rw[old _ jo];exact A6,hp⟩
   ·rw[if_neg c2]at eY;obtain⟨v2,cX,du⟩:=sl (j - 1) γ eY;refine⟨v2,by rw[kf,hM,if_neg c1,if_neg c2];exact cX, ?_⟩;cases γ with
    |own dd=>
     have du:bh K H (Fs (j - 1)) v2 dd:=du;show bh K H (tW Z.length Fs j) v2 dd;rw[YC c1 c2];exact du
    |ro dd=>exact du
    |ar q p=>
     obtain⟨a,vr,b,c⟩:=du;exact⟨by lia,vr,by rw[old _ a];exact b,c⟩
theorem aw.dv(I:aw K n H U σ hv Z τv τd)(h:ab i Z=some d):∃v,(σ++hv)[i]?=some (some v)/\Vw K H T1 v d:=by
 obtain⟨o,h1,h2⟩:=ae.mp h;cases o with
 |none=>cases h2
 |some β=>
  obtain⟨v,F,ev,sub,sv⟩:=I.slot h1;refine⟨v,ev, ?_⟩;cases β with
  |own d'=>cases h2;exact bh.vw sv
  |ro d'=>cases h2;exact Vw.any sv
  |ar r p=>
   obtain⟨d0,hr,g⟩:=ae.mp h2;obtain⟨_,vr,er,hp⟩:=sv;obtain⟨v',F',mH,_,rp⟩:=I.xP hr;rw[er]at mH;cases mH;exact rp.sub g hp λ_ _=>trivial
def yM(x y:D):Option D:=match y with
 |.sc (.int i)=>mf x (some i) none
 |_=>none
def FY(fp:En->Option Pl)(fb:En->Option (D×En))(Z:En):Option (D×En):=(fp Z).bind λ
 |.rt r p=>(fb (Z++ [some (.ar r p)])).bind λa=>(ab Z.length a.2).bind λx=>(yM x a.1).bind λd=>if a.2.length=Z.length + 1 then some (d,kZ 0 Z.length a.2) else none
 |.ro _=>none
instance (priority:=60) agM{te tb:TE}{fp:En->Option Pl}{fb:En->Option (D×En)}[L:jS 0 n][P:SP K n te fp][B':SM K n tb fb]:SM K n (AF (md K) te (DX tb) DW) (FY fp fb):=⟨λ{σ hv H U Z ρ' τv τd d Q} I h k=>by
 obtain⟨q,h1,h⟩:=ae.mp h;cases q with
 |ro _=>cases h
 |rt r p=>
  obtain⟨⟨e,aD⟩,h2,h⟩:=ae.mp h;obtain⟨x,h3,h⟩:=ae.mp h;obtain⟨d1,h4,h⟩:=ae.mp h;have h:(if aD.length=Z.length + 1 then some (d1,kZ 0 Z.length aD) else none)=some (d,ρ'):=h;by_cases cl:aD.length=Z.length + 1
  ·rw[if_pos cl]at h;cases h;refine P.s I h1 λv H1 s1 w1=> ?_;have l:=I.len;have nn:=I.nn;have I1:=(I.same s1).ar w1;refine B'.s I1 h2 λy H2 U2 I2 b5=> ?_;have I3:=I2.tu;obtain⟨v',ev,wv⟩:=I3.dv h3;have cX:(σ++(hv++ [some v]))[Z.length]?=some (some v):=by
    rw[<- dt,bI (by rw[bQ];lia),bQ,show Z.length - (σ.length + hv.length)=0 by lia];rfl
   rw[cX]at ev;cases ev;unfold yM at h4
   split at h4
   ·next i he=>
    have he:e= .sc (.int i):=he;subst he;refine⟨i,I2.last.cg, ?_⟩;refine Fw wv h4 λz H4 s4 o=> ?_;obtain⟨U4,I4,ki⟩:=I3.push s4 o;have FZ:b8 U H U H1:=λb o q nu=>⟨s1 b o q,nu⟩
    exact k z H4 U4 (I4.cls cl (by have:=L.h;lia)) (FZ.trans (b5.trans ki))
   ·cases h4
  ·rw[if_neg cl]at h;cases h⟩
end
end VL
namespace VL
open PySem L2
inductive Ex:Nat->D->Prop
 |int (n:Nat) (i:Int):Ex n (.sc (.int i))
 |str (n:Nat) (s:Str):i4 s=true->Ex n (.sc (.str s))
 |aJ (n:Nat):Ex n (.sc .aJ)
 |tup (n:Nat) (cs:List D):(∀d∈cs,Ex n d)->Ex (n + 1) (.nd .tup cs)
 |lst (n:Nat) (cs:List D):(∀d∈cs,Ex n d)->Ex (n + 1) (.nd .lst cs)
theorem NT(h:∀d∈cs,Gd n d):mi n cs:=mi.all h
theorem Ex.gd(h:Ex n d):Gd n d:=by
 induction h with
 |int n i=>exact(Gd.int i).mono (jj _)
 |str n s hs=>exact(Gd.str s hs).mono (jj _)
 |aJ n=>exact⟨.none,by simp[cf],by simp[sg],by simp[sh],by simp[fw]⟩
 |tup n cs _ ih=>exact(NT ih).tup
 |lst n cs _ ih=>exact(NT ih).lst
theorem F0:∀{cs ds:List D} {xs ys:List PyData},(∀d∈cs,∀(b:D) (x y:PyData),b∈ds->cf d=some x->cf b=some y->fw x y=true->d=b)->kj cs=some xs->kj ds=some ys->w5 xs ys=true->cs=ds
 | [], [],_,_,_,_,_,_=>rfl
 | [],d::ds,xs,ys,_,h1,h2,h=>by
  simp only[kj,aem]at h1;rw[kj]at h2;subst h1;obtain⟨y,_,h2⟩:=ae.mp h2;obtain⟨NU,_,rfl⟩:=aV.mp h2;simp[w5]at h
 |c::cs, [],xs,ys,_,h1,h2,h=>by
  simp only[kj,aem]at h2;rw[kj]at h1;subst h2;obtain⟨y,_,h1⟩:=ae.mp h1;obtain⟨NU,_,rfl⟩:=aV.mp h1;simp[w5]at h
 |c::cs,d::ds,xs,ys,hk,h1,h2,h=>by
  rw[kj]at h1 h2;obtain⟨x,a1,h1⟩:=ae.mp h1;obtain⟨agN,a2,rfl⟩:=aV.mp h1;obtain⟨y,b1,h2⟩:=ae.mp h2;obtain⟨NU,b2,rfl⟩:=aV.mp h2;rw[w5,pV]at h;rw[hk c (.head _) d x y (.head _) a1 b1 h.1,F0 (λe he b x y hb=>hk e (.tail _ he) b x y (.tail _ hb)) a2 b2 h.2]
theorem Ex.eqv(ha:Ex n a):∀{m:Nat} {b:D} {x y:PyData},Ex m b->cf a=some x->cf b=some y->fw x y=true->a=b:=by
 induction ha with
 |int n i=>
  intro m b x y hb h1 h2 h;rw[cf]at h1;cases h1;cases hb with
  |int n j=>rw[cf]at h2;cases h2;simp[fw]at h;rw[h]
  |str n s hs=>rw[cf]at h2;cases h2;simp[fw]at h
  |aJ n=>rw[cf]at h2;cases h2;simp[fw]at h
  |tup n cs hc=>rw[cf]at h2;obtain⟨ys,_,rfl⟩:=aV.mp h2;simp[fw]at h
  |lst n cs hc=>rw[cf]at h2;obtain⟨ys,_,rfl⟩:=aV.mp h2;simp[fw]at h
 |str n s hs=>
  intro m b x y hb h1 h2 h;rw[cf]at h1;cases h1;cases hb with
  |int n j=>rw[cf]at h2;cases h2;simp[fw]at h
  |str n s hs=>rw[cf]at h2;cases h2;simp[fw]at h;rw[h]
  |aJ n=>rw[cf]at h2;cases h2;simp[fw]at h
  |tup n cs hc=>rw[cf]at h2;obtain⟨ys,_,rfl⟩:=aV.mp h2;simp[fw]at h
  |lst n cs hc=>rw[cf]at h2;obtain⟨ys,_,rfl⟩:=aV.mp h2;simp[fw]at h
 |aJ n=>
  intro m b x y hb h1 h2 h;rw[cf]at h1;cases h1;cases hb with
  |int n j=>rw[cf]at h2;cases h2;simp[fw]at h
  |str n s hs=>rw[cf]at h2;cases h2;simp[fw]at h
  |aJ n=>rfl
  |tup n cs hc=>rw[cf]at h2;obtain⟨ys,_,rfl⟩:=aV.mp h2;simp[fw]at h
  |lst n cs hc=>rw[cf]at h2;obtain⟨ys,_,rfl⟩:=aV.mp h2;simp[fw]at h
 |tup n cs _ ih=>
  intro m b x y hb h1 h2 h;rw[cf]at h1;obtain⟨xs,g1,rfl⟩:=aV.mp h1;cases hb with
  |int n j=>rw[cf]at h2;cases h2;simp[fw]at h
  |str n s hs=>rw[cf]at h2;cases h2;simp[fw]at h
  |aJ n=>rw[cf]at h2;cases h2;simp[fw]at h
  |tup n ds hc=>
   rw[cf]at h2;obtain⟨ys,g2,rfl⟩:=aV.mp h2;rw[fw]at h;rw[F0 (λd hd b x y hb=>ih d hd (hc b hb)) g1 g2 h]
  |lst n ds hc=>rw[cf]at h2;obtain⟨ys,_,rfl⟩:=aV.mp h2;simp[fw]at h
 |lst n cs _ ih=>
  intro m b x y hb h1 h2 h;rw[cf]at h1;obtain⟨xs,g1,rfl⟩:=aV.mp h1;cases hb with
  |int n j=>rw[cf]at h2;cases h2;simp[fw]at h
  |str n s hs=>rw[cf]at h2;cases h2;simp[fw]at h
  |aJ n=>rw[cf]at h2;cases h2;simp[fw]at h
  |lst n ds hc=>
   rw[cf]at h2;obtain⟨ys,g2,rfl⟩:=aV.mp h2;rw[fw]at h;rw[F0 (λd hd b x y hb=>ih d hd (hc b hb)) g1 g2 h]
  |tup n ds hc=>rw[cf]at h2;obtain⟨ys,_,rfl⟩:=aV.mp h2;simp[fw]at h
theorem Ex.eq(ha:Ex n a)(hb:Ex m b)(hn:n<=60)(hm:m<=60)(g:Bool->Bool):∃c:Bool,(c=true↔a=b)/\fj g a b=some (.sc (.bl (g c))):=by
 obtain⟨x,x1,x2,x3,x4⟩:=ha.gd;obtain⟨y,y1,y2,y3,y4⟩:=hb.gd;refine⟨fw x y,⟨ha.eqv hb x1 y1,λe=> ?_⟩, ?_⟩
 ·subst e;rw[x1]at y1;cases y1;exact x4
 ·unfold fj;rw[x1,y1];show(if _ then _ else _)=_;rw[if_pos ⟨x2,y2,by lia⟩]
end VL
namespace VL
open PySem PySem.Spec PyProof.Rows L2
section
variable {σ:L2.St}{H:Hp}{a:Addr}
theorem Inv.freeze(I:L2.Inv X aa σ H s)(e:H a=some (.lst xs)):∃o,L2.Inv X aa σ (aP H a (.iz o (.lst xs))) s:=by
 have aT:=I.aT a _ e;obtain⟨z,ai,n,r,ho⟩:=(show fZ X.prog X.w H s.heap a (.lst xs) from aT)
 refine⟨{ cls:= .type "list",data:= .seq ai.toArray n }, ?_⟩;have ne:∀{b:Addr} {u:HO},H b=some u->(∀ys,u≠ .lst ys)->b≠a:=λ{b u} hb hu z=>by
  subst z;rw[e]at hb;cases hb;exact hu _ rfl
 have step:=I.step (h':=s.heap) (H':=aP H a (.iz { cls:= .type "list",data:= .seq ai.toArray n } (.lst xs))) (g':=s.gens) (t':=s.toks) (d':=s.drawn) (ch:= []) (λ_ z=>nomatch z)
  (λb o _ _ _ h _=>h) (λb o _ _ _ h _=>⟨o.slots,h⟩) (λb o _ _ hn=>by rw[de λz=>by rw[z,e]at hn;cases hn];exact hn) (λb o _ h=>⟨o,h⟩)
  (λb ys h=>by rw[de (ne h λ_ z=>nomatch z)];exact h) (λb o u h=>by rw[de (ne h λ_ z=>nomatch z)];exact h) (λb ps h=>⟨#[],by rw[de (ne h λ_ z=>nomatch z),Array.append_empty];exact h⟩) (λm h=>h)
  (λb u hb=>by
   by_cases c:b=a
   ·subst c;rw[gX]at hb;cases hb;exact⟨ho,z,ai,n,r,ho⟩
   ·rw[de c]at hb;exact(I.aT b u hb).gb (λ_ _ _ h=>h) (λd h=>by rw[de (ne h λ_ z=>nomatch z)];exact h) λd ys h=>by rw[de (ne h λ_ z=>nomatch z)];exact h) I.bare
 exact step
def NV(t:TE):TE:=λσ H Q=>t σ H λv H'=>(∃a xs,v= .ref a/\H' a=some (.lst xs)/\∀o,Q v (aP H' a (.iz o (.lst xs))))\/Q v H'
theorem yN(he:PE X e t):PE X e (NV t):=by
 intro aa s σ H Q I h;refine bG (he aa s σ H _ I h) λu s' ⟨v,H',I',r,q⟩=> ?_;rcases q with⟨a,xs,rfl,e,q⟩ | q
 ·obtain⟨o,I2⟩:=VL.Inv.freeze I' e;exact⟨_,_,I2,r,q o⟩
 ·exact⟨_,_,I',r,q⟩
end
section
variable {K:ah}{H H':Hp}{U:Addr->Prop}{m:Nat}{e:List (Option V)}{Z:En}
theorem iL.iz{a:Addr}{xs:List V}(ha:H a=some (.lst xs))(h:iL H v p u):iL (aP H a (.iz o (.lst xs))) v p u:=by
 induction h with
 |nil v=>exact .nil v
 | @cons b ob n c u p e1 e2 _ ih=>
  by_cases z:b=a
  ·subst z;rw[ha]at e1;cases e1;exact .cons gX e2 ih
  ·exact .cons (by rw[de z];exact e1) e2 ih
theorem cW.freeze(h:cW K H U m e Z)(hj:Z[j]?=some (some (.own (.nd .lst cs))))(p:bf cs=true):
  ∃a vs,e[j]?=some (some (.ref a))/\H a=some (.lst vs)/\U a/\∀o,cW K (aP H a (.iz o (.lst vs))) (λb=>U b/\b≠a) m e (Z.set j (some (.own (.nd .eL cs)))):=by
 obtain⟨hl,mu,Fs,dj,sub,sl⟩:=h;obtain⟨v,ev,sv⟩:=sl j _ hj;have BO:j < Z.length:=(bB.mp hj).1;have sv:bh K H (Fs j) v (.nd .lst cs):=sv;have vw:=sv.vw;cases sv with
 | @nd _ a _ vs _ agO hold cG agP agQ d4=>
  obtain⟨Fa,_,_,dx,ha⟩:=hold;have ha:H a=some (.lst vs):=ha;refine⟨a,vs,ev,ha,sub j a Fa,λo=> ?_⟩;have st:gO H (aP H a (.iz o (.lst vs))):=xQ (by rw[ha];trivial);refine⟨by rw[bZ];exact hl,λb hb=>by rw[de hb.2];exact mu b hb.1,λi b=>Fs i b/\b≠a,λi k b hi hk=>dj i k b hi.1 hk.1,λi b hb=>⟨sub i b hb.1,hb.2⟩,λi β aL=> ?_⟩;by_cases c:j=i
  ·subst c;rw[dr BO]at aL;cases aL;refine⟨_,ev, .nd (λ_ _=>False) ⟨p, .inl ⟨o,gX⟩⟩ cG (λ_ _ _ z=>z.elim) (λ_ _ z=>z.elim) λi u d hu hd=> ?_⟩;exact((d4 i u d hu hd).vw.plain (s9 p hd)).frame (λ_ _ z=>z.elim) st
  ·rw[fq c]at aL;obtain⟨w,ew,sw⟩:=sl i β aL;refine⟨w,ew, ?_⟩;have na:∀b,Fs i b->b≠a:=λb z y=>c (dj j i a Fa (by rw[<- y];exact z));cases β with
   |own d=>
    have sw:bh K H (Fs i) w d:=sw;exact(sw.frame (λb ob z q=>by rw[de (na b z)];exact q) st).mono λb z=>⟨z,na b z⟩
   |ro d=>
    have sw:Vw K H (λb=>¬ U b) w d:=sw;exact(sw.frame (λb ob z q=>by rw[de λy=>z (by rw[y];exact sub j a Fa)];exact q) st).mono λb z y=>z y.1
   |ar r q=>
    obtain⟨x,vr,er,hp⟩:=sw;exact⟨x,vr,er,iL.iz ha hp⟩
end
section
variable {K:ah}{n:Nat}
def iV:D->D
 |.nd .lst cs=>if bf cs=true then .nd .eL cs else .nd .lst cs
 |d=>d
def nD(f:En->Option (D×En))(Z:En):Option (D×En):=(f Z).map λr=>(iV r.1,r.2)
instance agR[A:SM K n t f]:SM K n (NV t) (nD f):=⟨λ{σ hv H U Z ρ' τv τd d Q} I h k=>by
 obtain⟨⟨d1,ρ1⟩,h1,h2⟩:=aV.mp h;cases h2;refine A.s I h1 λv H1 U1 I1 bC=> ?_;by_cases c:∃cs,d1= .nd .lst cs/\bf cs=true
 ·obtain⟨cs,rfl,p⟩:=c
  left;have e:iV (.nd .lst cs)= .nd .eL cs:=if_pos p;have k:∀v H' U',aw K n H' U' σ hv ρ1 (τv++ [v]) (τd++ [.nd .eL cs])->b8 U H U' H'->Q v H':=λv H' U'=>by
   have:=k v H' U';rw[show iV (D.nd .lst cs)= .nd .eL cs from e]at this;exact this
  have tl:=I1.tl;have hj:(ρ1++(τd++ [D.nd .lst cs]).map λd=>some (B.own d))[ρ1.length + τd.length]?=some (some (.own (.nd .lst cs))):=by
   rw[bI (by lia)];simp
  obtain⟨a,vs,ev,ha,ua,ok⟩:=cW.freeze I1.ok hj p;have l1:=I1.len;have agS:τv.length=τd.length:=by simpa using tl
  have cX:v= .ref a:=by
   rw[bI (by simp;lia)]at ev;simp only[cM,dZ,jz,bQ]at ev;rw[show ρ1.length + τd.length - (σ.length + hv.length)=(τv.map some).length by rw[dC];lia,bI (bK _)]at ev;simpa using ev
  subst cX;refine⟨a,vs,rfl,ha,λo=> ?_⟩;refine k _ _ (λb=>U1 b/\b≠a) ⟨?_,l1,I1.nn⟩ (bC.trans λb ob hb nu=> ?_)
  ·have:=ok o;rw[show(ρ1++(τd++ [D.nd .lst cs]).map λd=>some (B.own d)).set (ρ1.length + τd.length) (some (.own (.nd .eL cs)))=ρ1++(τd++ [D.nd .eL cs]).map λd=>some (B.own d) by
    rw[aen _ _ (by lia),cM,cM,aen _ _ (by simp)];simp]at this
   exact this
  ·exact⟨by rw[de λz=>nu (by rw[z];exact ua)];exact hb,λz=>nu z.1⟩
 ·right;have e:iV d1=d1:=by
   unfold iV
   split
   ·next cs=>exact if_neg λp=>c ⟨cs,rfl,p⟩
   ·rfl
  exact k v H1 U1 (by rw[show iV (d1,ρ1).1=d1 from e];exact I1) bC⟩
end
end VL
namespace VL
open PySem PySem.Spec PyProof.Rows L2
section
def F2(K:ah):R2:=λx y H Q=>∃l b xs zs,x= .ref l/\y= .ref b/\cc K H l xs/\cc K H b zs/\xs.length + zs.length<=aK/\∀p,H p=none->Q (.ref p) (aP H p (.lst (xs++zs)))
theorem YD:dP X (mw .Add) (F2 X.K):=by
 intro aa s σ H x y v u Q I rx ry h;obtain⟨l,b,xs,zs,rfl,rfl,hH,hB,hz,q⟩:=h;cases rx;cases ry;obtain⟨ai,r,⟨⟨cls,dd,data,sl⟩,n,ho,hc,_,hd⟩,z⟩:=I.list hH;obtain⟨pj,r2,⟨⟨K0,rg,data2,i7⟩,n2,ph,g8,_,hd2⟩,z2⟩:=I.list hB;simp only at hc hd g8 hd2;subst hc hd g8 hd2;have l1:xs.length=ai.length:=r.length;have l2:zs.length=pj.length:=r2.length;have e:ai.toArray++pj.toArray=(ai++pj).toArray:=by simp
 refine RJ ⟨_,ho,rfl⟩ ⟨_,ph,rfl⟩ noFill_list_add seq_list_add PySem.F.slot_list_add PySem.F.entry_list_add (PySem.F.args_list_add_2 _ _) (list_addW l b ai.toArray pj.toArray n n2 dd rg sl i7 (by rw[fY,fY];lia)) ⟨ho,ph, ?_⟩;rw[e];exact⟨.ref _,_,I.Lv (t':=s.toks) (r.append r2) (by rw[bQ];lia),rfl,q _ I.fresh⟩
end
section
variable {K:ah}
def yO:D->Option (List D)
 |.nd .lst cs=>some cs
 |.nd .eL cs=>some cs
 |_=>none
theorem NW(w:Vw K H T1 v d)(h:yO d=some cs):∃a vs,v= .ref a/\cc K H a vs/\dN K H T1 vs cs:=by
 unfold yO at h
 split at h
 ·cases h;obtain⟨a,vs,rfl,hc,vl⟩:=w.gP;exact⟨a,vs,rfl,cc.of hc.2,vl⟩
 ·cases h;obtain⟨a,vs,rfl,hc,vl⟩:=w.gP;exact⟨a,vs,rfl,j6.sq hc.2,vl⟩
 ·cases h
def F3(a b:D):Option D:=(yO a).bind λxs=>(yO b).bind λys=>if xs.length + ys.length<=aK/\bf (xs++ys)=true then some (.nd .lst (xs++ys)) else none
instance agT:m8 K (F2 K) F3:=⟨λ{H x y dx dy d Q} w1 w2 h k=>by
 obtain⟨xs,h1,h⟩:=ae.mp h;obtain⟨ys,h2,h⟩:=ae.mp h;by_cases c:xs.length + ys.length<=aK/\bf (xs++ys)=true
 ·rw[if_pos c]at h;cases h;obtain⟨a,vs,rfl,s1,v1⟩:=NW w1 h1;obtain⟨b,us,rfl,s2,v2⟩:=NW w2 h2;refine⟨a,b,vs,us,rfl,rfl,s1,s2,by rw[v1.1,v2.1];exact c.1,λp hp=> ?_⟩;exact k _ _ (iq hp _) ((v1.app v2).own c.2 hp (.inr ⟨rfl,trivial,0,rfl⟩))
 ·rw[if_neg c]at h;cases h⟩
end
end VL
namespace VL
open PySem PySem.Spec PyProof.Rows PySem.W L2
section
def yP(K:ah)(Q:VK):List V->Option V->Hp->Prop
 | [],some b,H=>Q b H
 | [],none,_=>False
 |x::r,none,H=>yP K Q r (some x) H
 |x::r,some b,H=>∃g,Nt K H x b g/\yP K Q r (if g=true then some x else some b) H
def YE:Option V->List Value->Prop
 |none,us=>us= []
 |some b,us=>∃u,us= [u,u]/\RelV b u
theorem BP{σ:L2.St}{Q:VK}(hu:X.A.in1.units < cLine)(hc:X.calm=true)(jK:it≠S)(pJ:a≠it)(ha:H a=some (.lst xs))(fI:iQ X aa H it)(fS:iQ X aa H S):
  ∀(rest:List V) (i:Nat) (oR:Option V) (us:List Value) (n:Nat) (s:Shared),xs.drop i=rest->L2.Inv X aa σ H s->s.heap.IsListIter it a i->s.heap.get? S=some { cls:= .type "list",data:= .seq us.toArray n }->YE oR us->
   yP X.K Q rest oR H->mx (model X.prog X.w) X.A (.builtin "max.loop" ⟨[.ref it, .none, .ref S], []⟩) (λr s'=>match r with | .ok (.ret v)=>EP X aa σ Q v s' | .ok _=>False | .error e=>X.xe e s') s
 | [],i,none,us,n,s,hd,I,hit,hS,hB,h=>h.elim
 | [],i,some b,us,n,s,hd,I,hit,hS,hB,h=>by
  obtain⟨ai,rv,pl,hz⟩:=I.list (cc.of ha);have hi:xs.length<=i:=by
   rcases wX i xs.length with h | h
   ·rw[qN h]at hd;cases hd
   ·exact h
  have hsz:ai.toArray.size=xs.length:=by rw[fY];exact rv.length.symm
  obtain⟨ub,rfl,rb⟩:=hB;refine Jl JO ?_;rw[JP oV _];show wpAny _ X.A.in1 (Jn (.ref S) >>= _) _ _ _;refine aW (Jo hS rfl ?_);show wpAny _ X.A.in1 (tryCatch (pyNext (.ref it)) _ >>= _) _ _ _;refine aW (wK (RH (show X.A.in1.handled=none from I.ok.hd hc) hit pl.isList (aeh (by rw[hsz];exact hi)) λh7 FC=> ?_));have ym:∀b o,b≠it->s.heap.get? b=some o->h7.get? b=some o:=λb o oh e=>FC b o oh e;have FD:=ym S _ (λz=>jK z.symm) hS;have I7:L2.Inv X aa σ H { s with heap:=h7 }:=I.turned (t':=s.toks) (it:=it) ym fI.1 fI.2.1 fI.2.2.2.1 fI.2.2.2.2.1 fI.2.2.2.2.2;show wpAny _ X.A.in1 (zD S (λ_=>#[]) >>= _) _ _ _;refine aW ?_;refine zE FD rfl (aW (ux (cJ ?_)));exact⟨b,H,L2.Inv.turned (s:= { s with heap:=h7 }) I7 (t':=s.toks) (it:=S) (λb o n e=>(uF _ _ (jO n)).trans e) fS.1 fS.2.1 fS.2.2.2.1 fS.2.2.2.2.1 fS.2.2.2.2.2,rb,h⟩
 |x::r,i,oR,us,n,s,hd,I,hit,hS,hB,h=>by
  have om:(toString "max"++toString ".loop":String)="max.loop":=by decide
  obtain⟨ai,rv,pl,hz⟩:=I.list (cc.of ha);have W:=Df (prog:=X.prog) (w:=X.w) (A:=X.A.in1) (show X.A.in1.handled=none from I.ok.hd hc) it a pJ;have hi:i < xs.length:=by
   rcases wX i xs.length with h | h
   ·exact h
   ·rw[Sq h]at hd;cases hd
  have hx:xs[i]?=some x:=by rw[qN hi]at hd;injection hd with e1 e2;rw[gM hi,e1]
  have mI:xs.drop (i + 1)=r:=by rw[qN hi]at hd;injection hd
  have hsz:ai.toArray.size=xs.length:=by rw[fY];exact rv.length.symm
  refine Jl JO ?_;rw[JP oV _];show wpAny _ X.A.in1 (Jn (.ref S) >>= _) _ _ _;refine aW (Jo hS rfl ?_);show wpAny _ X.A.in1 (tryCatch (pyNext (.ref it)) _ >>= _) _ _ _;refine aW (wK ((W ai.toArray).item i _ _ _ (by rw[hsz];exact hi) ⟨hit,pl.isList⟩ λv' h4 tk hP bC yn=> ?_));obtain⟨u',FE,vq⟩:=rv.get hx;have e4:v'=u':=by
   have:ai[i]?=some v':=by simpa using hP
   rw[FE]at this;injection this with this;exact this.symm
  subst e4;have I4:L2.Inv X aa σ H { s with heap:=h4,toks:=tk }:=I.turned (t':=tk) (it:=it) (λb o n e=>yn b o (λz=>n (cE.mp z)) e) fI.1 fI.2.1 fI.2.2.2.1 fI.2.2.2.2.1 fI.2.2.2.2.2;have rJ:h4.get? S=_:=yn S _ (λz=>jK (cE.mp z).symm) hS;obtain⟨oi,yo,yp,vx⟩:=id bC.1;have up:∀(g:Array Value->Array Value),L2.Inv X aa σ H { s with heap:=h4.update S (nJ g),toks:=tk }:=λg=>L2.Inv.turned (s:= { s with heap:=h4,toks:=tk }) I4 (t':=tk) (it:=S) (λb o n e=>(uF _ _ (jO n)).trans e) fS.1 fS.2.1 fS.2.2.2.1 fS.2.2.2.2.1 fS.2.2.2.2.2;have yr:∀(g:Array Value->Array Value),(h4.update S (nJ g)).IsListIter it a (i + 1):=λg=>⟨oi,(uF _ _ (jO jK)).trans yo,yp,vx⟩
  show wpAny _ X.A.in1 (pure v' >>= _) _ _ _;refine aW (cJ ?_);cases oR with
  |none=>
   have FH:us= []:=hB;subst FH;show wpAny _ X.A.in1 (zD S (λ_=>#[v',v']) >>= _) _ _ _;refine aW ?_;refine zE rJ rfl ?_;rw[om];refine cJ ⟨uy oV _, ?_⟩;exact BP hu hc jK pJ ha fI fS _ (i + 1) (some x) [v',v'] _ _ mI (up _) (yr _) (Dc (nJ λ_=>#[v',v']) rJ rfl) ⟨v',rfl,vq⟩ h
  |some b=>
   obtain⟨ub,rfl,rb⟩:=hB;obtain⟨g,⟨pp,qq,i1,j1,i2,j2,rfl,rfl,h1,h2,hg⟩,q6⟩:=h;cases vq;cases rb;obtain⟨Yd,yq,FI,_⟩:=I4.tuple h1;obtain⟨pj,FJ,FK,_⟩:=I4.tuple h2;obtain⟨w1,w2,rfl,c1,c2⟩:=L2.vals2 yq;obtain⟨w3,w4,rfl,c3,c4⟩:=L2.vals2 FJ;obtain⟨t1,rfl⟩:=c1;obtain⟨t2,rfl⟩:=c2;obtain⟨t3,rfl⟩:=c3;obtain⟨t4,rfl⟩:=c4;show wpAny _ X.A.in1 (tryCatch (holding [gw pp,gw pp] (Jk .Gt (.ref pp) (.ref qq) >>= _)) _ >>= _) _ _ _;refine aW (wK (qL (aW (Nr FI FK hu ?_))));refine aW (qL (uo ?_));refine aW (ux (cJ ?_));rw[<- hg];cases g with
   |true=>
    show wpAny _ X.A.in1 (zD S (λ_=>#[.ref pp, .ref pp]) >>= _) _ _ _;refine aW ?_;refine zE rJ rfl ?_;refine aW (ux ?_);rw[om];refine cJ ⟨uy oV _, ?_⟩;exact BP hu hc jK pJ ha fI fS _ (i + 1) (some (.ref pp)) [.ref pp, .ref pp] _ _ mI (up _) (yr _) (Dc (nJ λ_=>#[.ref pp, .ref pp]) rJ rfl) ⟨_,rfl,rfl⟩ q6
   |false=>
    show wpAny _ X.A.in1 (letGo _ >>= _) _ _ _;refine aW (ux ?_);rw[om];refine cJ ⟨uy oV _, ?_⟩;exact BP hu hc jK pJ ha fI fS _ (i + 1) (some (.ref qq)) [.ref qq, .ref qq] _ _ mI I4 ⟨oi,yo,yp,vx⟩ rJ ⟨_,rfl,rfl⟩ q6
def F4(K:ah):List V->Hp->VK->Prop:=λvs H Q=>∃a xs,vs= [.ref a]/\H a=some (.lst xs)/\yP K Q xs none H
theorem YF(hu:X.A.units + 1 < cLine)(hc:X.calm=true):i5 X (.builtin "max") (F4 X.K):=by
 intro aa s σ H vs us Q I r h;obtain⟨a,xs,rfl,ha,h⟩:=h;obtain⟨u,rfl,ru⟩:=vals1 r;cases ru;have om:(toString "max"++toString ".loop":String)="max.loop":=by decide
 obtain⟨ai,rv,pl,hz⟩:=I.list (cc.of ha);have lt:a < s.heap.objs.size:=by obtain⟨o,n,e,_⟩:=pl;exact gi e
 refine call_function_tree aei aej aek (PySem.F.args_max1 _) ?_;show wpAny _ X.A.in1 (JQ "max" ["key","default"] 0 ⟨[], []⟩ >>= _) _ _ s;refine aW (wpAny_of_eq (show JQ "max" ["key","default"] 0 ⟨[], []⟩=pure [none,none] from rfl) ?_);refine aW (cJ ?_);refine aW (C4 pl.isList ?_);refine aW (wG ?_);rw[om];refine cJ ⟨uy oV _, ?_⟩;have tM:=jP (s.heap.push { cls:= .type "list_iterator",data:= .fields #[.ref a, .int 0 0] }) (o:= { cls:= .type "list",data:= .seq #[] }) rfl;have yt:((s.heap.push { cls:= .type "list_iterator",data:= .fields #[.ref a, .int 0 0] }).push { cls:= .type "list",data:= .seq #[] }).get? s.heap.objs.size=some { cls:= .type "list_iterator",data:= .fields #[.ref a, .int 0 0] }:=
  gy _ (jP _ rfl)
 have yu:∀b o,s.heap.get? b=some o->((s.heap.push { cls:= .type "list_iterator",data:= .fields #[.ref a, .int 0 0] }).push { cls:= .type "list",data:= .seq #[] }).get? b=some o:=
  λb o e=>gy _ (gy _ e)
 have FL:(s.heap.push { cls:= .type "list_iterator",data:= .fields #[.ref a, .int 0 0] }).objs.size=s.heap.objs.size + 1:=sd _ _;show mx (model X.prog X.w) X.A (.builtin "max.loop" ⟨[.ref s.heap.objs.size, .none, .ref (s.heap.push { cls:= .type "list_iterator",data:= .fields #[.ref a, .int 0 0] }).objs.size], []⟩) _ { s with heap:=(s.heap.push { cls:= .type "list_iterator",data:= .fields #[.ref a, .int 0 0] }).push { cls:= .type "list",data:= .seq #[] } };generalize ((s.heap.push { cls:= .type "list_iterator",data:= .fields #[.ref a, .int 0 0] }).push { cls:= .type "list",data:= .seq #[] })=h3 at tM yt yu |-;generalize hS:(s.heap.push { cls:= .type "list_iterator",data:= .fields #[.ref a, .int 0 0] }).objs.size=S at tM FL |-;have fI:iQ X aa H s.heap.objs.size:=I.uT (bK _) (I.aT.fresh (bK _));have fS:iQ X aa H S:=I.uT (by lia) (I.aT.fresh (by lia));have I3:L2.Inv X aa σ H { s with heap:=h3 }:=I.kept (t':=s.toks) yu;have yv:s.heap.objs.size≠S:=by lia
 have YG:X.A.in1.units < cLine:=by show X.A.units + 1 < cLine;exact hu
 exact BP YG hc yv (jh lt) ha fI fS xs 0 none [] _ _ rfl I3 ⟨_,yt,rfl,rfl⟩ tM rfl h
end
section
variable {K:ah}{n:Nat}
def pairsOf:List D->Option (List (Int×Int))
 | []=>some []
 |d::r=>(tN d).bind λp=>(pairsOf r).map (p:: ·)
def ml(b:Int×Int)(ps:List (Int×Int)):Int×Int:=ps.foldl (λb p=>if jJ p.1 p.2 b.1 b.2=true then p else b) b
def pairD(p:Int×Int):D:= .nd .tup [.sc (.int p.1), .sc (.int p.2)]
def F5:List D->Option D
 | [.nd .lst cs]=>(pairsOf cs).bind fun | []=>none | p::ps=>some (pairD (ml p ps))
 |_=>none
theorem NX(h:tN d=some p):d=pairD p:=by
 unfold tN at h
 split at h
 ·cases h;rfl
 ·cases h
theorem F6:∀{cs:List D} {vs:List V} {ps:List (Int×Int)} {b:Int×Int} {v:V},dN K H T1 vs cs->pairsOf cs=some ps->Vw K H T1 v (pairD b)->(∀v,Vw K H T1 v (pairD (ml b ps))->Q v H)->yP K Q vs (some v) H
 | [], [],ps,b,v,_,h,w,k=>by rw[pairsOf]at h;cases h;exact k v w
 | [],_::_,_,_,_,vl,_,_,_=>by have:=vl.1;simp at this
 |_::_, [],_,_,_,vl,_,_,_=>by have:=vl.1;simp at this
 |c::cs,x::vs,ps,b,v,vl,h,w,k=>by
  rw[pairsOf]at h;obtain⟨p,hp,h⟩:=ae.mp h;obtain⟨NY,yQ,rfl⟩:=aV.mp h;have wx:Vw K H T1 x c:=vl.2 0 x c rfl rfl;obtain⟨ax,ex,hx⟩:=Bu wx hp;obtain⟨av,ev,hv⟩:=Bu w (k:=b) rfl;have BQ:dN K H T1 vs cs:=⟨by have:=vl.1;simpa using this,λi v d hv hd=>vl.2 (i + 1) v d (by simpa using hv) (by simpa using hd)⟩
  refine⟨jJ p.1 p.2 b.1 b.2,⟨ax,av,_,_,_,_,ex,ev,hx,hv,rfl⟩, ?_⟩;have e:ml b (p::NY)=ml (if jJ p.1 p.2 b.1 b.2=true then p else b) NY:=rfl;rw[e]at k;cases c2:jJ p.1 p.2 b.1 b.2 with
  |true=>
   rw[c2,if_pos rfl]at k;exact F6 BQ yQ (by rw[<- NX hp];exact wx) k
  |false=>
   rw[c2,if_neg ji]at k;exact F6 BQ yQ w k
instance (priority:=3000) agU{t:TA}{f:En->Option (List D)}[A:SA K n t f]:SV K n (kW (F4 K) t) (λZ=>(f Z).bind F5):=⟨λ{σ hv H U Z τv τd d Q} I h k=>by
 obtain⟨x,h1,h2⟩:=ae.mp h;refine A.s I h1 λvs H1 s1 w=> ?_;unfold F5 at h2
 split at h2
 ·next cs=>
  obtain⟨ps,h3,h4⟩:=ae.mp h2;obtain⟨v,rfl,w1⟩:=w.one;obtain⟨a,us,rfl,hc,vl⟩:=w1.gP;cases ps with
  |nil=>cases h4
  |cons p ps=>
   cases h4;refine⟨a,us,rfl,hc.2, ?_⟩
   match us,cs,vl,h3 with
   | [], [],_,h3=>rw[pairsOf]at h3;cases h3
   | [],_::_,vl,_=>have:=vl.1;simp at this
   |_::_, [],vl,_=>have:=vl.1;simp at this
   |u::us,c::cs,vl,h3=>
    rw[pairsOf]at h3;obtain⟨q,hq,h3⟩:=ae.mp h3;obtain⟨qs,YH,e⟩:=aV.mp h3;cases e;have wu:Vw K H1 T1 u c:=vl.2 0 u c rfl rfl;have BQ:dN K H1 T1 us cs:=⟨by have:=vl.1;simpa using this,λi v d hv hd=>vl.2 (i + 1) v d (by simpa using hv) (by simpa using hd)⟩
    exact F6 BQ YH (by rw[<- NX hq];exact wu) λv wv=>k v H1 s1 wv
 ·cases h2⟩
end
end VL
namespace VL
open PySem PySem.Spec PyProof.Rows L2
section
variable {K:ah}{n:Nat}{H H' H1 H2:Hp}{U U':Addr->Prop}{σ hv:List (Option V)}{Z ρ':En}{τv vs:List V}{τd ds:List D}{v y:V}{d:D}{E:lM}
theorem aw.NZ(I:aw K n H U σ hv Z τv τd)(hm:n<=M)(ha:hv[M - n]?=some (some (.ref a)))(hd:ab M Z=some (.nd .lst cs)):∃vs,H a=some (.lst vs)/\vs.length=cs.length/\∀(i:Nat) (v:V) (d:D),vs[i]?=some v->cs[i]?=some d->Vw K H T1 v d:=by
 obtain⟨v,ev,w⟩:=I.dv hd;have nn:=I.nn;rw[bI (by lia),nn,ha]at ev;cases ev;obtain⟨a',vs,e,hc,vl⟩:=w.gP;cases e;exact⟨vs,hc.2,vl.1,vl.2⟩
end
end VL
namespace VL
open PySem PySem.Spec PyProof.Rows L2
section
end
section
variable {K:ah}{n:Nat}{H H' H1 H2:Hp}{U U':Addr->Prop}{σ hv:List (Option V)}{Z ρ':En}{τv vs:List V}{τd ds:List D}{v y x o u:V}{d d0 d':D}
end
end VL
namespace VL
open PySem PySem.Spec PyProof.Rows L2
section
end
section
end
end VL
namespace VL
open PySem PySem.Spec PyProof.Rows L2
section
end
section
variable {K:ah}{H H':Hp}{F N U:Addr->Prop}{a:Addr}{o:Obj}{aj:List (aY×V)}{m:Nat}{e:List (Option V)}{Z:En}
end
section
variable {K:ah}{n:Nat}{H H' H1 H2:Hp}{U U':Addr->Prop}{σ hv:List (Option V)}{Z ρ':En}{τv vs:List V}{τd ds:List D}{v y:V}{d:D}{E:lM}{a:Addr}{o:Obj}
open Classical in
end
end VL
namespace VL
open PySem PySem.Spec PyProof.Rows L2
section
variable {K:ah}{n:Nat}{H H' H1 H2:Hp}{U U':Addr->Prop}{σ hv:List (Option V)}{Z ρ':En}{τv vs:List V}{τd ds:List D}{d:D}{E:lM}{a:Addr}{o:Obj}
end
end VL
namespace VL
open PySem PySem.Spec PyProof.Rows L2
section
end
section
variable {K:ah}
end
end VL
namespace VL
open PySem PySem.Spec PyProof.Rows L2
section
variable {K:ah}{n:Nat}{H H' H1 H2:Hp}{U U':Addr->Prop}{σ hv:List (Option V)}{Z ρ':En}{τv vs:List V}{τd ds:List D}{v y:V}{d:D}{E:XK}
def tX(M T:Nat)(Fs:Nat->Addr->Prop)(j:Nat)(b:Addr):Prop:=if j < M then Fs j b else if j=M then Fs (M + T) b else(j<=M + T/\Fs (j - 1) b)
theorem YI(h:j < M):tX M T Fs j=Fs j:=by
 funext b;unfold tX;rw[if_pos h]
theorem YJ:tX M T Fs M=Fs (M + T):=by
 funext b;unfold tX;rw[if_neg (by lia),if_pos rfl]
theorem aw.hide(I:aw K n H U σ hv Z (τv++ [v]) (τd++ [d])):aw K n H U σ (hv++ [some v]) (Z++ [some (.own d)]) τv τd:=by
 have l:=I.len;have nn:=I.nn;have tl:τv.length=τd.length:=by have:=I.tl;simp at this;lia
 obtain⟨hl,mu,Fs,dj,sub,sl⟩:=I.ok;have hM:(σ++hv).length=Z.length:=by rw[bQ];exact l
 have eA:σ++(hv++ [some v])++τv.map some=(σ++hv)++ [some v]++τv.map some:=by simp
 refine⟨?_,by rw[bQ,bQ,kN,kN];lia,nn⟩;rw[eA];have hL:(Z++ [some (B.own d)]).length=Z.length + 1:=by rw[bQ,kN]
 rw[hL];have old:∀(q:Nat),q < Z.length->((σ++hv)++ [some v]++τv.map some)[q]?=(σ++hv++(τv++ [v]).map some)[q]?:=λq hq=>by
  rw[kf,if_pos (by lia)];exact(ba (by lia)).trans (ba (by lia)).symm
 have vF:((σ++hv)++ [some v]++τv.map some)[Z.length]?=some (some v):=by
  rw[kf,if_neg (by lia),if_pos hM.symm]
 refine⟨by simp only[bQ,kN,dC]at hl |-;lia,mu,tX Z.length τd.length Fs,λi j b hi hj=> ?_,λi b hb=> ?_,λj γ eY=> ?_⟩
 ·have hi:if i < Z.length then Fs i b else if i=Z.length then Fs (Z.length + τd.length) b else(i<=Z.length + τd.length/\Fs (i - 1) b):=hi;have hj:if j < Z.length then Fs j b else if j=Z.length then Fs (Z.length + τd.length) b else(j<=Z.length + τd.length/\Fs (j - 1) b):=hj;have key:∀k,(if k < Z.length then Fs k b else if k=Z.length then Fs (Z.length + τd.length) b else(k<=Z.length + τd.length/\Fs (k - 1) b))->(k < Z.length/\Fs k b)\/(k=Z.length/\Fs (Z.length + τd.length) b)\/(Z.length < k/\k<=Z.length + τd.length/\Fs (k - 1) b):=λk hk=>by
   by_cases c1:k < Z.length
   ·rw[if_pos c1]at hk;exact .inl ⟨c1,hk⟩
   ·rw[if_neg c1]at hk;by_cases c2:k=Z.length
    ·rw[if_pos c2]at hk;exact .inr (.inl ⟨c2,hk⟩)
    ·rw[if_neg c2]at hk;exact .inr (.inr ⟨by lia,hk.1,hk.2⟩)
  rcases key i hi with⟨a1,a2⟩ | ⟨a1,a2⟩ | ⟨a1,a2,a3⟩ <;> rcases key j hj with⟨b1,b2⟩ | ⟨b1,b2⟩ | ⟨b1,b2,b3⟩
  ·exact dj i j b a2 b2
  ·have:=dj _ _ b a2 b2;lia
  ·have:=dj _ _ b a2 b3;lia
  ·have:=dj _ _ b a2 b2;lia
  ·lia
  ·have:=dj _ _ b a2 b3;lia
  ·have:=dj _ _ b a3 b2;lia
  ·have:=dj _ _ b a3 b2;lia
  ·have:=dj _ _ b a3 b3;lia
 ·have hb:if i < Z.length then Fs i b else if i=Z.length then Fs (Z.length + τd.length) b else(i<=Z.length + τd.length/\Fs (i - 1) b):=hb
  split at hb
  ·exact sub _ b hb
  ·split at hb
   ·exact sub _ b hb
   ·exact sub _ b hb.2
 ·rw[kf]at eY;by_cases c1:j < Z.length
  ·rw[if_pos c1,ba c1]at eY;obtain⟨v2,cX,du⟩:=sl j γ (by rw[ba c1];exact eY);refine⟨v2,by rw[old _ c1];exact cX, ?_⟩;cases γ with
   |own dd=>
    have du:bh K H (Fs j) v2 dd:=du;show bh K H (tX Z.length τd.length Fs j) v2 dd;rw[YI c1];exact du
   |ro dd=>exact du
   |ar q p=>
    obtain⟨a,vr,b,c⟩:=du;exact⟨by lia,vr,by rw[old _ a];exact b,c⟩
  ·rw[if_neg c1]at eY;by_cases c2:j=Z.length
   ·rw[if_pos c2]at eY;cases eY;subst c2;obtain⟨v2,cX,du⟩:=sl (Z.length + τd.length) (.own d) (by
     rw[bI (by lia)];simp)
    have e2:v2=v:=by
     rw[bI (by lia),hM,cM,show Z.length + τd.length - Z.length=(τv.map some).length by rw[dC];lia,bI (bK _),mB]at cX;have cX:some (some v)=some (some v2):=cX;cases cX;rfl
    subst e2;refine⟨v2,vF, ?_⟩;show bh K H (tX Z.length τd.length Fs Z.length) v2 d;rw[YJ];exact du
   ·rw[if_neg c2,bI (by lia)]at eY;have hj:j - 1 - Z.length < τd.length:=by
     have:=(bB.mp eY).1;rw[dC]at this;exact this
    obtain⟨v2,cX,du⟩:=sl (j - 1) γ (by rw[bI (by lia),cM,ba (by rw[dC];exact hj)];exact eY);refine⟨v2, ?_, ?_⟩
    ·rw[kf,hM,if_neg c1,if_neg c2,bI (by lia),hM];rw[bI (by lia),hM,cM,ba (by rw[dC];lia)]at cX;exact cX
    ·rw[dF]at eY;obtain⟨dd,_,hd⟩:=aV.mp eY;have hd:=ka hd;subst hd;have du:bh K H (Fs (j - 1)) v2 dd:=du;exact du.mono λb z=>by
      show if j < Z.length then Fs j b else if j=Z.length then Fs (Z.length + τd.length) b else(j<=Z.length + τd.length/\Fs (j - 1) b);rw[if_neg c1,if_neg c2];exact⟨by lia,z⟩
def F7(G:List D->Option (D×List D))(i:Nat)(fe:En->Option D)(Z:En):Option (D×En):=(az i Z).bind λ
 |.rt r p=>(fe Z).bind λd=>(bp G [.io ⟨r,p⟩, .io ⟨Z.length, []⟩] (Z++ [some (.own d)])).bind λa=>if a.2.length=Z.length + 1 then some (a.1,kZ 0 Z.length a.2) else none
 |.ro _=>none
instance (priority:=50) agV{G:List D->Option (D×List D)}{i:Nat}{te:TE}{fe:En->Option D}[L0:jS 0 n][L:jS i n][A:SQ K n te fe]:SM K n (qc (cq K [true,true] G) [] E (eJ (gZ i) (eJ te g7))) (F7 G i fe):=⟨λ{σ hv H U Z ρ' τv τd d Q} I h k=>by
 obtain⟨q,h1,h⟩:=ae.mp h;cases q with
 |ro _=>cases h
 |rt r p=>
  obtain⟨d2,h2,h⟩:=ae.mp h;obtain⟨⟨d3,yR⟩,h3,h⟩:=ae.mp h;have h:(if yR.length=Z.length + 1 then some (d3,kZ 0 Z.length yR) else none)=some (d,ρ'):=h;by_cases cl:yR.length=Z.length + 1
  ·rw[if_pos cl]at h;cases h;show gZ i σ H λv1 H1=>te σ H1 λv2 H2=>cq K [true,true] G [v1,v2] H2 Q E;refine(inferInstance:SP K n (gZ i) (az i)).s I h1 λv1 H1 s1 w1=> ?_;have I1:=I.same s1;have bC:b8 U H U H1:=λb o q nu=>⟨s1 b o q,nu⟩
   refine SQ.s (f:=fe) I1 h2 λv2 H2 U2 I2 b5 s2=> ?_;have w2:=w1.step s2 b5;have I3:=I2.hide;have l:=I.len;have nn:=I.nn;have hM:(σ++hv).length=Z.length:=by rw[bQ];exact l
   obtain⟨jo,vr,d0,er,hr,hs,hp⟩:=w2;have p1:hJ K H2 U2 (σ++(hv++ [some v2])) (Z++ [some (.own d2)]) v1 (.rt r p):=⟨by rw[bQ];lia,vr,d0,by rw[<- dt,ba (by lia)];exact er,Mx hr,hs,hp⟩
   have p2:hJ K H2 U2 (σ++(hv++ [some v2])) (Z++ [some (.own d2)]) v2 (.rt Z.length []):=⟨by rw[bQ,kN];lia,v2,d2,by rw[<- dt,bI (by lia),hM,mB];rfl,by unfold ak;rw[bI (bK _),mB];rfl,by cases d2 <;> rfl, .nil _⟩
   have YK:aw K n H2 U2 σ (hv++ [some v2]) (Z++ [some (.own d2)]) (τv++ []) (τd++ []):=by rw[eW,eW];exact I3
   exact aw.A5 YK rfl (bC.trans b5) (.io p1 (.io p2 .nil)) h3 λv H' U' I' st'=>k v H' U' (I'.cls cl (by have:=L0.h;lia)) st'
  ·rw[if_neg cl]at h;cases h⟩
end
end VL
namespace VL
open PySem PySem.Spec PyProof.Rows L2
section
variable {K:ah}{n:Nat}{H H' H1 H2:Hp}{U U':Addr->Prop}{σ hv:List (Option V)}{Z ρ':En}{τv vs:List V}{τd ds:List D}{d:D}{E:XK}
def mP(G:List D->Option (D×List D))(M a b:Nat):Nat->Nat->En->Option (List V×En)
 |0,j,Z=>match ab M Z with
  |some (.nd .lst cs)=>if cs.length<=j then some ([],Z) else none
  |_=>none
 |k + 1,j,Z=>match ab M Z with
  |some (.nd .lst cs)=>(cs[j]?).bind λd=>if plain d=true then(az a Z).bind λ
   |.rt r p=>(az b Z).bind λq=>(dw Z q).bind λe=>(bp G [.io ⟨r,p⟩, .rv q e, .rv (.ro d) d] Z).bind λt=>match t.1 with
    |.sc z=>(mP G M a b k (j + 1) t.2).map λu=>(z::u.1,u.2)
    |_=>none
   |.ro _=>none else none
  |_=>none
def BR(G:List D->Option (D×List D))(a b:Nat)(fp:En->Option Pl)(Z:En):Option (D×En):=(fp Z).bind λ
 |.rt r p=>match dw Z (.rt r p) with
  |some (.nd .lst cs)=>if cs.length<=aK then(mP G Z.length a b cs.length 0 (Z++ [some (.ar r p)])).map λu=>(.nd .lst (u.1.map D.sc),kZ 0 Z.length u.2) else none
  |_=>none
 |.ro _=>none
theorem N0:∀(zs:List V),jH K H H zs (zs.map D.sc)
 | []=> .nil
 |z::zs=> .cons (.sc z) (.refl _) (N0 zs) (.refl _)
instance (priority:=3000) agW{G:List D->Option (D×List D)}{r:R2}{ta tc:TE}{a b:Nat}{fp:En->Option Pl}[L:jS 0 n][La:jS a n][Lb:jS b n][P:SP K n (kQ r ta tc) fp]:
  SM K n (u6 (tK K (kQ r ta tc)) (m4 0) xJ (qc (cq K [true,false,false] G) [] E (eJ (gZ 1) (eJ (gZ 2) (eJ (gZ 0) g7)))) [none,some a,some b]) (BR G a b fp):=⟨λ{σ hv H U Z ρ' τv τd d Q} I h k=>by
 obtain⟨q,h1,h⟩:=ae.mp h;cases q with
 |ro d=>cases h
 |rt r p=>
  have h:(match dw Z (.rt r p) with | some (.nd .lst cs)=>if cs.length<=aK then(mP G Z.length a b cs.length 0 (Z++ [some (.ar r p)])).map λu=>(D.nd .lst (u.1.map D.sc),kZ 0 Z.length u.2) else none | _=>none)=some (d,ρ'):=h
  split at h
  ·next cs hd=>
   by_cases hz:cs.length<=aK
   ·rw[if_pos hz]at h;obtain⟨⟨zs,yS⟩,h2,h⟩:=aV.mp h;cases h;refine P.s I h1 λv H1 s1 w1=> ?_;have I1:=I.same s1;have l:=I1.len;have nn:=I1.nn;have wv:=I1.at w1 hd;obtain⟨ad,vs,e,hc,vl⟩:=wv.gP;cases e;have FZ:b8 U H U H1:=λb o q nu=>⟨s1 b o q,nu⟩
    refine .inl ⟨ad,rfl,⟨vs,cc.of hc.2⟩, ?_⟩;have hM:n<=Z.length:=by lia
    have ha:(hv++ [some (V.ref ad)])[Z.length - n]?=some (some (.ref ad)):=by rw[bI (by lia),show Z.length - n - hv.length=0 by lia];rfl
    refine⟨λj m' aO ys H'=>m'=cs.length - j/\j<=cs.length/\ys.length=j/\aO.length=3/\aO[1]?=some ((σ[a]?).join)/\aO[2]?=some ((σ[b]?).join)/\∃U' ρ1 BS,aw K n H' U' σ (hv++ [some (V.ref ad)]) ρ1 τv τd/\b8 U H U' H'/\mP G Z.length a b (cs.length - j) j ρ1=some (BS,yS)/\zs=ys++BS,⟨cs.length,by simp,jj _,rfl,rfl,rfl,rfl,U,_,zs,I1.ar w1,FZ,h2,rfl⟩, ?_⟩;rintro j m' aO ys H' ⟨rfl,hj,hy,Eo,e1,e2,U',ρ1,BS,Ix,st,fo,ez⟩;by_cases jQ:j < cs.length
    ·right;obtain⟨t,ht⟩:∃t,cs.length - j=t + 1:=⟨cs.length - j - 1,by lia⟩
     rw[ht,mP]at fo
     split at fo
     ·next gB mE=>
      obtain⟨dz,i6,hU,d4⟩:=Ix.NZ hM ha mE;obtain⟨d,N1,fo⟩:=ae.mp fo;by_cases pd:plain d=true
      ·rw[if_pos pd]at fo;obtain⟨qa,ea,fo⟩:=ae.mp fo;cases qa with
       |ro _=>cases fo
       |rt ra pa=>
        obtain⟨qb,eb,fo⟩:=ae.mp fo;obtain⟨e,eD,fo⟩:=ae.mp fo;obtain⟨⟨yd,aD⟩,ec,fo⟩:=ae.mp fo;cases yd with
        |nd _ _=>cases fo
        |hl _=>cases fo
        |sc z=>
         obtain⟨⟨tY,yR⟩,ef,fo⟩:=aV.mp fo;obtain⟨f1,f2⟩:=Su fo;have f2:yS=yR:=f2.symm;subst f2;have f1:BS=z::tY:=f1.symm;subst f1;have YL:j < gB.length:=(bB.mp N1).1;refine⟨⟨dz,dz[j]'(by lia),cc.of i6,gM (by lia)⟩,λip ws H2=>ws.length=j + 1/\ip.length=3/\ip[1]?=some ((σ[a]?).join)/\ip[2]?=some ((σ[b]?).join)/\∃U2 aD tY,aw K n H2 U2 σ (hv++ [some (V.ref ad)]) aD τv τd/\b8 U H U2 H2/\mP G Z.length a b t (j + 1) aD=some (tY,yS)/\zs=ws++tY,λip ws H2 ⟨a1,a2,a3,a4,U2,aD,tY,a5,a6,a7,a8⟩=>⟨by lia,cs.length - (j + 1),by lia,rfl,by lia,a1,a2,a3,a4,U2,aD,tY,a5,a6,by rw[show cs.length - (j + 1)=t by lia];exact a7,a8⟩,λx H2 y2=> ?_⟩;obtain⟨e',w2⟩:=y2;subst e';have hx:=w2 dz (cc.of i6);have wx:Vw K H2 T1 x d:=d4 j x d hx N1;have wr:hJ K H2 U' (σ++(hv++ [some (V.ref ad)])) ρ1 x (.ro d):=(wx.plain pd).view λ_ z=>z.elim
         -- lP two agX values
         have va:∀{i:Nat} {q:Pl},i < n->az i ρ1=some q->∃u,σ[i]?=some (some u)/\hJ K H2 U' (σ++(hv++ [some (V.ref ad)])) ρ1 u q:=λ{i q} hi hq=>by
          have key:∀(Q:V->Hp->Prop),(∀v H',aM H2 H'->hJ K H' U' (σ++(hv++ [some (V.ref ad)])) ρ1 v q->Q v H')->gZ i σ H2 Q:=λQ kk=>(Ws (L:=⟨hi⟩)).s Ix hq kk;obtain⟨u,eu,w⟩:=key (λv H'=>H'=H2->hJ K H2 U' (σ++(hv++ [some (V.ref ad)])) ρ1 v q) λv H' _ w e=>e▸w;exact⟨u,eu,w rfl⟩
         obtain⟨ua,N2,wa⟩:=va La.h ea;obtain⟨ub,N3,wb⟩:=va Lb.h eb;rw[N2]at e1;rw[N3]at e2;show qc (cq K [true,false,false] G) [] E (eJ (gZ 1) (eJ (gZ 2) (eJ (gZ 0) g7))) (aO.set 0 (some x)) H2 _;refine⟨ua,by rw[fq (by decide)];exact e1,ub,by rw[fq (by decide)];exact e2,x,by rw[dr (by lia)], ?_⟩;refine aw.A5 (E:=E) (τv:=τv) (τd:=τd) (ws:= []) (wd:= []) (by rw[eW,eW];exact Ix) rfl (.refl U' H2) (.io wa (.rv wb eD (.rv wr rfl .nil))) ec λv H' U2 I2 s2=> ?_;have ev:v=z:=I2.last.cg;subst ev;exact⟨by rw[bQ,kN,hy],by rw[bZ];exact Eo,by rw[fq (by decide)];rw[N2];exact e1,by rw[fq (by decide)];rw[N3];exact e2,U2,aD,tY,I2.tu,st.trans s2,ef,by rw[ez];simp⟩
      ·rw[if_neg pd]at fo;cases fo
     ·cases fo
    ·left;rw[show cs.length - j=0 by lia,mP]at fo
     split at fo
     ·next gB mE=>
      obtain⟨dz,i6,hU,d4⟩:=Ix.NZ hM ha mE
      split at fo
      ·next YL=>
       cases fo;rw[eW]at ez;subst ez;refine⟨⟨dz,cc.of i6,by lia⟩,λDa hD=> ?_⟩;have I3:=Ix.cls (r:=0) (m:=Z.length) (by have:=Ix.len;rw[bQ,kN]at this;lia) (by have:=L.h;lia);have ow:eI K H' (aP H' Da (.lst zs)) (.ref Da) (.nd .lst (zs.map D.sc)):=(N0 zs).node (k:= .lst) (.refl _) hD (.inr ⟨rfl,trivial,0,rfl⟩);obtain⟨U4,I4,s4⟩:=I3.push (iq hD _) ow;exact k _ _ U4 I4 (st.trans s4)
      ·cases fo
     ·cases fo
   ·rw[if_neg hz]at h;cases h
  ·cases h⟩
end
end VL
namespace VL
open PySem PySem.Spec PyProof.Rows L2
section
variable {K:ah}{n:Nat}{H H' H1 H2:Hp}{U U':Addr->Prop}{σ hv:List (Option V)}{Z ρ':En}{τv vs:List V}{τd ds:List D}{d:D}{E:XK}
def BU(k:Kd)(cs:List D)(y d:D):Option D:=match k with
 |.iK ks=>(yf y).bind λkey=>if cs.length < aK/\ks.Nodup then(match dk key ks with
  |some i=>some (.nd (.iK ks) (cs.set i d))
  |none=>some (.nd (.iK (ks++ [key])) (cs++ [d]))) else none
 |_=>none
def BV(fv:En->Option (D×En))(fp:En->Option Pl)(fy:En->Option D)(Z:En):Option Fl:=(fv Z).bind λa=>(fp a.2).bind λ
 |.rt r p=>(fy a.2).bind λy=>(fL a.2 r p).bind λz=>(BU z.2.1 z.2.2 y a.1).map λd'=> .nx (eM a.2 r z.1 p d')
 |.ro _=>none
instance (priority:=3000) agY{td tv:TE}{ty:TA}{fv:En->Option (D×En)}{fp:En->Option Pl}{fy:En->Option D}[A:SM K n tv fv][P:SP K n td fp][Y:SV K n (q0 ty) fy]:SS K n (Ee td (q0 ty) tv) (BV fv fp fy):=⟨λ{σ hv H U Z τv τd fl E} I h k=>by
 obtain⟨⟨d,ρ1⟩,h1,h⟩:=ae.mp h;obtain⟨q,h2,h⟩:=ae.mp h;cases q with
 |ro _=>cases h
 |rt r p=>
  obtain⟨y,h5,h⟩:=ae.mp h;obtain⟨⟨d0,kk,cs⟩,h3,h⟩:=ae.mp h;obtain⟨d',h4,h⟩:=aV.mp h;subst h;obtain⟨hr,hg⟩:=tH h3;refine A.s I h1 λx H1 U1 I1 bC=> ?_;refine P.s I1 h2 λo H2 s2 w2=> ?_;have I2:=I1.same s2;refine Y.s I2 h5 λu H3 s3 w3=> ?_;have I3:=I2.same s3;have yg:=w2.same s3;have hZ:b8 U1 H1 U1 H3:=λb o q nu=>⟨(s2.trans s3) b o q,nu⟩
  unfold BU at h4
  split at h4
  ·next ks e=>
   have e:kk= .iK ks:=e;subst e;obtain⟨key,e1,g4⟩:=ae.mp h4;clear h4;unfold yf at e1
   split at e1
   ·next ys=>
    obtain⟨b,us,rfl,_,hb,g9,d4⟩:=w3.node;have YM:=Bb g9 d4 e1;have hb:H3 b=some (.tup us):=hb.2;rw[YM]at hb;by_cases c:cs.length < aK/\ks.Nodup
    ·rw[if_pos c]at g4;obtain⟨a,dx,vs,rfl,ha,hf,hl,_,ed⟩:=aw.edit (xs:= [x]) (ds:= [d]) I3 rfl yg hr hg rfl;have hf:ks.length=vs.length:=hf
     split at g4
     ·next i e2=>
      cases g4;have hi:i < vs.length:=by rw[<- hf];exact xX e2
      refine⟨a,_,rfl, .inr ⟨_,key,b,ha,rfl,hb,by rw[uH];lia,rfl⟩, ?_⟩;rw[Ng e2 hf c.2];obtain⟨U4,I4,ki⟩:=ed (.iK ks) (vs.set i x) (cs.set i d) (λj=>if j=i then vs.length else j) rfl (by show ks.length=(vs.set i x).length;rw[bZ];exact hf) (by rw[bZ,bZ];exact hl)
       (λx z hx hz=>A2 hi x z (by rw[bZ]at hx;exact hx) (by rw[bZ]at hz;exact hz)) (rE hi) (by rw[hl];exact rE (by lia))
      exact k σ _ U4 I4 (bC.trans (hZ.trans ki))
     ·next e2=>
      cases g4;refine⟨a,_,rfl, .inr ⟨_,key,b,ha,rfl,hb,by rw[uH];lia,rfl⟩, ?_⟩;rw[Ni e2 hf];obtain⟨U4,I4,ki⟩:=ed (.iK (ks++ [key])) (vs++ [x]) (cs++ [d]) id rfl (by show(ks++ [key]).length=_;simp;exact hf) (by simp;exact hl) (λx z _ _ h=>h) (λj x h=>h) λj x h=>h;exact k σ _ U4 I4 (bC.trans (hZ.trans ki))
    ·rw[if_neg c]at g4;cases g4
   ·cases e1
  ·cases h4⟩
end
end VL
namespace VL
open PySem PySem.Spec PyProof.Rows L2
def F8(K:ah)(ta tb:TE):TE:=λσ H Q=>ta σ H λx H1=>∃k,KJ K x H1 k/\if k=true then Q x H1 else tb σ H1 Q
theorem YN{X:Cx}{a b:Expr}{rest:List Expr}{pos:Pos}{ta tb:TE}(ha:PE X a ta)(hb:PE X (.BoolOp .Or (b::rest) pos) tb):PE X (.BoolOp .Or (a::b::rest) pos) (F8 X.K ta tb):=by
 intro aa s σ H Q I h;refine BoolOp_or (bG (ha aa s σ H _ I h) λv s1 ⟨x,H1,I1,r1,q1⟩=> ?_);refine bG (TU aa s1 σ H1 x v (λc H2=>if c=true then Q x H2 else tb σ H2 Q) I1 r1 q1) λc s2 ⟨H2,I2,q2⟩=> ?_;cases c with
 |false=>exact hb aa s2 σ H2 Q I2 q2
 |true=>exact⟨x,H2,I2,r1,q2⟩
section
variable {K:ah}{n:Nat}{H H' H1 H2:Hp}{U U':Addr->Prop}{σ hv:List (Option V)}{Z ρ':En}{τv vs:List V}{τd ds:List D}{d:D}
def yT:D->Option Bool
 |.nd .eL cs=>some (!cs.isEmpty)
 |.sc .aJ=>some false
 |_=>none
def tZ(fa fb:En->Option D)(Z:En):Option D:=(fa Z).bind λd=>(yT d).bind λc=>if c=true then some d else fb Z
instance agZ[A:SV K n ta fa][B':SV K n tb fb]:SV K n (F8 K ta tb) (tZ fa fb):=⟨λ{σ hv H U Z τv τd d Q} I h k=>by
 obtain⟨x,h1,h⟩:=ae.mp h;obtain⟨c,h2,h⟩:=ae.mp h;refine A.s I h1 λv H1 s1 w=> ?_;refine⟨c, ?_, ?_⟩
 ·unfold yT at h2
  split at h2
  ·cases h2;obtain⟨a,us,rfl,hc,vl⟩:=w.gP;exact .inl ⟨us,hc.2.sq,by rw[XZ vl.1]⟩
  ·cases h2;rw[w.cg];rfl
  ·cases h2
 ·cases c with
  |true=>
   rw[if_pos rfl]at h |-;cases h;exact k v H1 s1 w
  |false=>
   rw[if_neg ji]at h |-;exact B'.s (I.same s1) h λv H2 s2 w2=>k v H2 (s1.trans s2) w2⟩
end
end VL
namespace VL
open PySem PySem.Spec PyProof.Rows L2
theorem pxx{K:ah}{pos:Pos}(hr:fK k X.A)(ha:PE X a ta)(hb:PE X b tb)(hs:Lf b:=by exact λ_ _=>rfl)(hK:X.K=K:=by rfl):PE X (.Subscript a b pos) (kQ (E9 K) ta tb):=hK▸UD (Xk (jG hr)) ha hb hs
theorem fU{N P:List Str}(a:sc.kind= .function:=by rfl)(b:sc.isCoroutine=false:=by rfl)(c:sc.isGenerator=false:=by rfl)(d:N.Nodup:=by decide +kernel)(e:N.take P.length=P:=by rfl)(f:∀x∈P,sc.names.lookup x=some .local\/sc.names.lookup x=some .cell:=by decide +kernel)(g:∀y∈sc.names,y.2≠ .free:=by decide +kernel):eK N P sc:=⟨a,b,c,d,e,f,g⟩
end VL
namespace VL
open PySem PySem.Spec PyProof.Rows L2
theorem mm{P:Program}{w:World}{K:ah}{mg:Str->Option Value}{base:Heap}{x q:Str}{st:Stmt}{f:Addr}{fd:jY}{N ps:List Str}{k n m:Nat}{t:TS}{g:En->Option Fl}(F:ee K x q st f fd)(S:eK N ps (cP st))(h:∀eO A outer s H E,fK k (A.deeper (envOfC q (cP st) s.heap.objs.size f eO))->kP (q9 cQ P w K mg base N q (cP st) f eO A outer s H E).uP (m6 st) t)[I:SS K n t g](hn:N.length=n:=by rfl)(hm:ps.length=m:=by rfl)(hl:m<=n:=by decide):b9 P w K mg base cQ (k + 1) f fd ps (eF K m (cY n g)):=by
 subst hn;subst hm;exact F.ok S (λvs H Q E h=>Fx h) λeO A outer s H vs Q E hr q=>⟨t,h eO A outer s H E hr,ET (S:=I) q hl⟩
theorem jr{P:Program}{w:World}{K:ah}{mg:Str->Option Value}{base:Heap}{x q:Str}{st:Stmt}{f:Addr}{fd:jY}{N ps:List Str}{k n:Nat}{mk:List Bool}{t:TS}{g:En->Option Fl}(F:ee K x q st f fd)(S:eK N ps (cP st))(h:∀eO A outer s H E,fK k (A.deeper (envOfC q (cP st) s.heap.objs.size f eO))->kP (q9 cQ P w K mg base N q (cP st) f eO A outer s H E).uP (m6 st) t)[I:SS K n t g](hn:N.length=n:=by rfl)(hm:ps.length=mk.length:=by rfl)(hl:mk.length<=n:=by decide):b9 P w K mg base cQ (k + 1) f fd ps (cq K mk (bE n mk g)):=by
 subst hn;exact F.ok S (λvs H Q E h=>h.1.trans hm.symm) λeO A outer s H vs Q E hr q=>⟨t,h eO A outer s H E hr,WT (S:=I) q hl⟩
abbrev oG(K:ah)(C:Addr)[fM K C]:=En->Option Fl
section
variable {X:Cx}{K:ah}{a b e o:Expr}{ta tb te:TE}{p pos pos':Pos}{x f:Str}
theorem lj(hK:X.K=K:=by rfl):dP X (mw .Add) (xY K):=hK▸Xr
theorem YO(hK:X.K=K:=by rfl):dP X (mw .Add) (F2 K):=hK▸YD
theorem jL(hu:X.A.units + 64 < cLine)(hK:X.K=K:=by rfl):dP X (jy .Eq) (E4 K):=hK▸Xe hu
theorem one(hu:X.A.units + 64 < cLine)(hK:X.K=K:=by rfl):dP X (jy .NotEq) (E5 K):=hK▸Xf hu
theorem F9(hu:X.A.units + 1 < cLine)(hK:X.K=K:=by rfl):dP X (jy .In) (Fb K):=hK▸Xn hu
theorem qB{tg:Expr}(hl:PE X a ta)(hK:X.K=K:=by rfl):PI X tg a (tK K ta):=hK▸Fi hl
theorem ia(ha:PE X o ta)(hv:PE X a tb)(hs:wB a (some (.Attribute o f pos')) pos.line X.env=pure false:=by rfl)(hK:X.K=K:=by rfl):PS X (.Assign [.Attribute o f pos'] a pos) (DM K ta tb f):=hK▸Uh ha hv hs
theorem YQ{rest:List Expr}(ha:PE X a ta)(hb:PE X (.BoolOp .Or (b::rest) pos) tb)(hK:X.K=K:=by rfl):PE X (.BoolOp .Or (a::b::rest) pos) (F8 K ta tb):=hK▸YN ha hb
theorem di(he:PE X e ta)(hK:X.K=K:=by rfl)(hb:qM e f X.env (eval e X.env)=eval e X.env:=by rfl):PE X (.Attribute e f pos) (xq K ta f):=XW hK he hb
theorem fV(h:PE X a ta)(hs:cD [a] X.env=(false,eval a X.env)::cD [] X.env:=by rfl):PA X [a] (eJ ta g7):=bz h gN (hs:=hs)
theorem bS(h:PE X a ta)(h2:PE X b tb)(hs:cD [a,b] X.env=(false,eval a X.env)::cD [b] X.env:=by rfl)(ht:cD [b] X.env=(false,eval b X.env)::cD [] X.env:=by rfl):PA X [a,b] (eJ ta (eJ tb g7)):=bz h (bz h2 gN (hs:=ht)) (hs:=hs)
theorem fG(h:PE X a ta):kP X [.Return (some a) pos] (qS ta):=dM (xm h)
theorem eG(ho:dP X (jy op) r)(ha:PE X a ta)(hb:PE X b tb)(hm:zw op b=false:=by exact KI _):PT X (.Compare a [op] [b] pos) (Az (kQ r ta tb)):=AA ho ha hb hm
theorem yU(ho:dP X (jy op) r)(ha:PE X a ta)(hb:PE X b tb)(hm:zw op b=false:=by exact KI _):PE X (.Compare a [op] [b] pos) (kQ r ta tb):=TQ ho ha hb hm
theorem ie(i:Nat)(hN:X.N.Nodup)(hi:X.N[i]?=some x:=by rfl)(hx:Loc X.env.scope x:=by first | exact .inl rfl | exact .inr rfl)(hf:X.fn x=true\/X.env.scope.names.lookup x=some .local:=by first | exact .inl rfl | exact .inr rfl):PG X (.Name x pos) (m4 i):=DE hN hi hx hf
theorem ib(i:Nat)(hN:X.N.Nodup)(he:PE X e te)(hi:X.N[i]?=some x:=by rfl)(hx:Loc X.env.scope x:=by first | exact .inl rfl | exact .inr rfl)(hs:wB e (some (.Name x pos')) pos.line X.env=pure false:=by rfl)(hf:X.fn x=true\/X.env.scope.names.lookup x=some .local:=by first | exact .inl rfl | exact .inr rfl):PS X (.Assign [.Name x pos'] e pos) (qU te (m4 i)):=Ts hN hi hx he hs hf
theorem pln(hm:X.mg "len"=none)(ha:PE X a ta)(hg:Gl X "len":=by rfl)(hK:X.K=K:=by rfl)(he:cD [a] X.env=(false,eval a X.env)::cD [] X.env:=by rfl):PE X (.Call (.Name "len" p) [a] [] pos) (kW (Fd K) (eJ ta g7)):=hK▸ly Xv hg hm PySem.boot_len (bz ha gN (hs:=he)) (he:=he)
theorem BW(hm:X.mg "tuple"=none)(ha:PE X a ta)(hg:Gl X "tuple":=by rfl)(hK:X.K=K:=by rfl)(he:cD [a] X.env=(false,eval a X.env)::cD [] X.env:=by rfl):PE X (.Call (.Name "tuple" p) [a] [] pos) (kW (xZ K) (eJ ta g7)):=hK▸AD M5 hg hm JR (bz ha gN (hs:=he)) (he:=he)
theorem YR(hm:X.mg "list"=none)(ha:PE X a ta)(hg:Gl X "list":=by rfl)(hK:X.K=K:=by rfl)(he:cD [a] X.env=(false,eval a X.env)::cD [] X.env:=by rfl):PE X (.Call (.Name "list" p) [a] [] pos) (kW (Fe K) (eJ ta g7)):=hK▸AD Xw hg hm JS (bz ha gN (hs:=he)) (he:=he)
theorem YS(ho:PE X o ta)(hK:X.K=K:=by rfl)(hb:qM o "pop" X.env (eval o X.env)=eval o X.env:=by rfl)(hl:(p.endLine == pos.line)=true:=by rfl):PE X (.Call (.Attribute o "pop" p) [] [] pos) (D4 K "list" D6 ta):=hK▸UU aeo PySem.F.slot_list_pop PySem.F.type_list_pop U6 ho hb hl
theorem adG(ho:PE X o ta)(ha:PE X a tb)(hK:X.K=K:=by rfl)(hb:qM o "append" X.env (eval o X.env)=eval o X.env:=by rfl)
  (hf:((backTo pos (cD [a] X.env)).all (λx=> !x.1) && (wC pos (wF [] X.env)).all (λx=>x.1.isSome)
   && decide ([a].length + ([]:List Keyword).length + (if([]:List Keyword).isEmpty then 0 else 1) < 30))=true:=by rfl) (hl:(p.endLine == pos.line)=true:=by rfl) (hs:cD [a] X.env=(false,eval a X.env)::cD [] X.env:=by rfl):PE X (.Call (.Attribute o "append" p) [a] [] pos) (D5 K "list" AG ta (eJ tb g7)):=hK▸UW aeo PySem.F.slot_list_append PySem.F.type_list_append U5 ho (bz ha gN (hs:=hs)) hb hf hl hs
end
end VL
set_option synthInstance.maxHeartbeats 1000000
set_option synthInstance.maxSize 4000
namespace K85
open PySem L2 VL
theorem hg:∀(M:D),ag M []=some M:=λM=>by cases M <;> rfl
theorem ag0:∀(M e:D),aG M [] e=e:=λM e=>by cases M <;> rfl
def fX(i:Nat):Stmt:=PySem.Challenge.pw_farshelf_k85_whole_one_leads_a_term.main.body.getD i (.Pass ⟨0,0,0,0⟩)
abbrev Ga:Stmt:=fX 19
abbrev Gb:Stmt:=fX 20
abbrev Ge:Stmt:=fX 21
abbrev Gf:Stmt:=fX 22
abbrev Gg:Stmt:=fX 23
abbrev Gi:Stmt:=wA (fX 4) 0
abbrev Gj:Stmt:=fX 24
abbrev Gk:Stmt:=fX 25
abbrev Gm:Stmt:=fX 6
abbrev Gp:Stmt:=fX 2
abbrev Gq:Stmt:=fX 1
abbrev Gr:Stmt:=fX 8
abbrev Gu:Stmt:=fX 9
abbrev Gv:Stmt:=fX 10
abbrev Gw:Stmt:=fX 11
abbrev Gx:Stmt:=fX 12
abbrev Gy:Stmt:=fX 5
abbrev Gz:Stmt:=wA (fX 4) 1
abbrev GF:Stmt:=fX 13
abbrev GJ:Stmt:=fX 17
abbrev GK:Stmt:=fX 7
abbrev GO:Stmt:=fX 14
abbrev GQ:Stmt:=fX 15
abbrev GU:Stmt:=fX 16
abbrev GV:Stmt:=wA (fX 4) 5
abbrev GW:Stmt:=fX 26
abbrev GX:Stmt:=fX 27
abbrev GY:Stmt:=fX 28
abbrev GZ:Stmt:=wA (fX 4) 3
abbrev G0:Stmt:=wA (fX 4) 2
abbrev G1:Stmt:=fX 29
abbrev G3:Stmt:=wA (fX 4) 4
abbrev G4:Stmt:=fX 30
abbrev G5:Stmt:=fX 32
abbrev G6:Stmt:=fX 31
abbrev G7:Stmt:=fX 33
abbrev vH:Stmt:=fX 34
structure d7(mg:Str->Option Value):Prop where
 iC:mg "len"=none
 qC:mg "range"=none
 BX:mg "list"=none
 t5:mg "tuple"=none
 ag1:mg "int"=none
 vI:mg "max"=none
 N4:mg "min"=none
 N5:mg "all"=none
 ag2:mg "any"=none
 yV:mg "isinstance"=none
 ag3:mg "str"=none
 ag4:mg "bool"=none
 N6:mg "dict"=none
 ag5:mg "sorted"=none
theorem YT:eK ["_law_script","_law_k"] ["_law_script","_law_k"] (cP Ga):=fU
theorem N7:eK ["_law_cell","_law_k","_law_m"] ["_law_cell","_law_k"] (cP Gb):=fU
theorem BY:eK ["_law_cell","_law_k","_law_number","_law_j"] ["_law_cell","_law_k"] (cP Ge):=fU
theorem N8:eK ["_law_script","_law_k","_law_cell"] ["_law_script","_law_k"] (cP Gf):=fU
theorem N9:eK ["_law_left_here","_law_many","_law_digit"] ["_law_left_here","_law_many"] (cP Gg):=fU
theorem YU:eK ["self","number","many"] ["self","number","many"] (cP Gi):=fU
theorem G8:eK ["_law_script","_law_left_here","_law_many"] ["_law_script"] (cP Gj):=fU
theorem Oa:eK ["_law_world","_law_m","_law_deed","_law_what","_law_told","_law_one"] ["_law_world","_law_m","_law_deed","_law_what","_law_told"] (cP Gk):=fU
theorem Ob:eK ["master","least"] ["master"] (cP Gm):=fU
theorem YV:eK ["value"] ["value"] (cP Gp):=fU
theorem YW:eK ["value"] ["value"] (cP Gq):=fU
theorem Oc:eK ["master","rows","fixed"] ["master","rows"] (cP Gr):=fU
theorem G9:eK ["master","rows","size"] ["master","rows"] (cP Gu):=fU
theorem YX:eK ["master","many"] ["master","many"] (cP Gv):=fU
theorem YZ:eK ["voice"] ["voice"] (cP Gw):=fU
theorem Od:eK ["master","greatest"] ["master"] (cP Gx):=fU
theorem Y0:eK ["master"] ["master"] (cP Gy):=fU
theorem Y1:eK ["self"] ["self"] (cP Gz):=fU
theorem Ha:eK ["master","sizes","common"] ["master"] (cP GF):=fU
theorem Y2:eK ["master","sender","term","size"] ["master","sender","term","size"] (cP GJ):=fU
theorem Oe:eK ["master","rows"] ["master"] (cP GK):=fU
theorem Y3:eK ["master","sender","term"] ["master","sender","term"] (cP GO):=fU
theorem Y4:eK ["master","sender","term","of","rows"] ["master","sender","term","of","rows"] (cP GQ):=fU
theorem Y5:eK ["master","sender","term","rows","done"] ["master","sender","term","rows","done"] (cP GU):=fU
theorem Y6:eK ["self","message"] ["self","message"] (cP GV):=fU
theorem Of:eK ["_law_world","_law_k","_law_stays","_law_message"] ["_law_world","_law_k","_law_stays"] (cP GW):=fU
theorem yW:eK ["_law_world","_law_left_here","_law_words","_law_whole","_law_turn","_law_k","_law_turned"] ["_law_world","_law_left_here","_law_words","_law_whole"] (cP GX):=fU
theorem Hb:eK ["_law_world","_law_left_here","_law_masters","_law_some"] ["_law_world","_law_left_here"] (cP GY):=fU
theorem Y7:eK ["self"] ["self"] (cP GZ):=fU
theorem Y8:eK ["self","row"] ["self","row"] (cP G0):=fU
theorem BZ:eK ["_law_world","_law_left_here","_law_m","_law_turn","_law_row"] ["_law_world","_law_left_here"] (cP G1):=fU
theorem Y9:eK ["self"] ["self"] (cP G3):=fU
theorem vJ:eK ["_law_world","_law_left_here","_law_road_here","_law_m","_law_one","_law_turn"] ["_law_world","_law_left_here"] (cP G4):=fU
theorem Za:eK ["_law_told"] ["_law_told"] (cP G5):=fU
theorem Og:eK ["_law_one","_law_other","_law_short"] ["_law_one","_law_other"] (cP G6):=fU
theorem mQ:eK ["_law_seen","_law_many","_law_row","_law_m","_law_deed","_law_what","_law_told","_law_then","_law_term","_law_of","_law_log","_law_sure","_law_role","_law_message","_law_some"] ["_law_seen","_law_many","_law_row"] (cP G7):=fU
section
variable (P:Program)(w:World)(K:ah)(mg:Str->Option Value)(base:Heap)(Cm:Addr)[fM K Cm]
def B0: {g:oG K Cm // ∀{P w mg base f fd},ee K "_law_cell_at" "_law_cell_at" Ga f fd->d7 mg->b9 P w K mg base cQ 1 f fd ["_law_script","_law_k"] (eF K 2 (cY 2 g))}:=⟨_,λF T=>mm F YT λ_ _ _ _ _ _ hr=>(bc (fJ (eG qY (pv 1) (pln T.iC (pv 0)))
   (fG (pxx hr (pv 0) (pv 1))) gA)
  (fG aU))⟩
def B1:List D->Option D:=cY 2 (B0 K Cm).1
abbrev Zb:Prop:=eP P w K mg base "_law_cell_at" ["_law_script","_law_k"] 1 (eF K 2 (B1 K Cm))
def Hc: {g:oG K Cm // ∀{P w mg base f fd},ee K "_law_mix" "_law_mix" Gb f fd->d7 mg->b9 P w K mg base cQ 1 f fd ["_law_cell","_law_k"] (eF K 2 (cY 3 g))}:=⟨_,λF T=>mm F N7 λ_ _ _ _ _ _ hr=>(bc (ib 2 N7.nd (gc sM (gc qX (gc lj (gc lj (gc sM (pv 0) aU) (gc qX (gc qX (pv 1) (pv 1)) aU)) aU) aU) aU))
  (fG (gc sM (gc qX (pv 2) (pv 2)) aU)))⟩
def Hd:List D->Option D:=cY 3 (Hc K Cm).1
abbrev Zc:Prop:=eP P w K mg base "_law_mix" ["_law_cell","_law_k"] 1 (eF K 2 (Hd K Cm))
def He: {g:oG K Cm // ∀{P w mg base f fd},ee K "_law_rich" "_law_rich" Ge f fd->d7 mg->Zc P w K mg base Cm->b9 P w K mg base cQ 2 f fd ["_law_cell","_law_k"] (eF K 2 (cY 4 g))}:=⟨_,λF T B2=>mm F BY λ_ _ _ _ _ _ hr=>(bc (ib 2 BY.nd aU)
  (bc (sH w6 rfl (qV rfl T.qC (fV aU)) (ie 3 BY.nd)
   (dM (ib 2 BY.nd (gc lj (gc qX (pv 2) aU) (b7 B2 hr rfl (bS (b7 B2 hr rfl (bS (pv 0) (gc lj (pv 1) (gc qX aU (pv 3))))) (pv 3)))))))
  (fG (pv 2))))⟩
def B3:List D->Option D:=cY 4 (He K Cm).1
abbrev Zd:Prop:=eP P w K mg base "_law_rich" ["_law_cell","_law_k"] 2 (eF K 2 (B3 K Cm))
def B4: {g:oG K Cm // ∀{P w mg base f fd},ee K "_law_left" "_law_left" Gf f fd->d7 mg->Zb P w K mg base Cm->Zd P w K mg base Cm->b9 P w K mg base cQ 3 f fd ["_law_script","_law_k"] (eF K 2 (cY 3 g))}:=⟨_,λF T Hf B5=>mm F N8 λ_ _ _ _ _ _ hr=>(bc (ib 2 N8.nd (b7 Hf hr rfl (bS (pv 0) (pv 1))))
  (bc (fJ (eG KH (pv 2) (gc TJ aU aU))
   (fG (jE (bS (pv 2) (b7 B5 hr rfl (bS (pv 2) (pv 1)))))) gA)
  (fG (jE (fV (b7 B5 hr rfl (bS (pv 2) (pv 1))))))))⟩
def vK:List D->Option D:=cY 3 (B4 K Cm).1
abbrev Oh:Prop:=eP P w K mg base "_law_left" ["_law_script","_law_k"] 3 (eF K 2 (vK K Cm))
def yX: {g:oG K Cm // ∀{P w mg base f fd},ee K "_law_pick" "_law_pick" Gg f fd->d7 mg->b9 P w K mg base cQ 1 f fd ["_law_left_here","_law_many"] (cq K [true,false] (bE 3 [true,false] g))}:=⟨_,λF T=>jr F N9 λ_ _ _ _ _ _ hr=>(bc (fJ (PW.pt (xl (eG (jL hr.units) (pxx hr (pv 0) aU) aU) (An (eG o9 (pln T.iC (pv 0)) aU))))
   (dM (Ap (YS (pv 0)) (Kt (pv 0) aU RA))) gA)
  (bc (ib 2 N9.nd (gc sM (pxx hr (pv 0) aU) (pv 1)))
  (bc (Ap (gc LS (pxx hr (pv 0) aU) (pv 1)) (Kt (pv 0) aU RA))
  (fG (pv 2)))))⟩
def kJ:List D->Option (D×List D):=bE 3 [true,false] (yX K Cm).1
abbrev yY:Prop:=eP P w K mg base "_law_pick" ["_law_left_here","_law_many"] 1 (cq K [true,false] (kJ K Cm))
def Hg: {g:oG K Cm // ∀{P w mg base f fd},ee K "__init__" "Master.__init__" Gi f fd->d7 mg->b9 P w K mg base cQ 1 f fd ["self","number","many"] (cq K (true::gL 2 false) (bE 3 (true::gL 2 false) g))}:=⟨_,λF T=>jr F YU λ_ _ _ _ _ _ hr=>(bc (ia (pv 0) (pv 1))
  (bc (ia (pv 0) (pv 2))
  (bc (ia (pv 0) aU)
  (bc (ia (pv 0) aU)
  (bc (ia (pv 0) (jE gN))
  (bc (ia (pv 0) aU)
  (bc (ia (pv 0) bL)
  (bc (ia (pv 0) xA)
  (bc (ia (pv 0) xA)
  (dM (ia (pv 0) oZ)))))))))))⟩
def rK:List D->Option (D×List D):=bE 3 (true::gL 2 false) (Hg K Cm).1
abbrev Ze:Prop:=Fy P w K mg base "Master" Cm ["self","number","many"] 1 (cq K (true::gL 2 false) (rK K Cm))
def Hh: {g:oG K Cm // ∀{P w mg base f fd},ee K "_law_begun" "_law_begun" Gj f fd->d7 mg->Oh P w K mg base Cm->yY P w K mg base Cm->Ze P w K mg base Cm->b9 P w K mg base cQ 4 f fd ["_law_script"] (eF K 1 (cY 3 g))}:=⟨_,λF T vL jf Hi=>mm F G8 λ_ _ _ _ _ _ hr=>(bc (ib 1 G8.nd (b7 vL hr rfl (bS (pv 0) aU)))
  (bc (ib 2 G8.nd (pxx hr (jE (bz aU (bz aU (bz aU (bz aU (bz aU (bz aU (bS aU aU)))))))) (b7 jf hr rfl (bS (pv 1) aU))))
  (fG (NR (rB bL (pA [none,some 2] ["_law_number","_law_many"] rfl (mM ⟨⟨rfl,rfl, .inl rfl⟩,trivial⟩) (qV rfl T.qC (fV (pv 2))) (λ_ _ _ _ _ _=>(ie 0 (by decide +kernel:(["_law_number","_law_many"]:List Str).Nodup))) (λ_ _ _ _ _ _=>sV) (λ_ _ _ _ _ _=>(XU Hi hr rfl (bS (pv 0) (pv 1))))) (rB bL (jE gN) (rB bL (jE gN) (rB bL aU Ef)))) rfl rfl rfl rfl))))⟩
def B6:List D->Option D:=cY 3 (Hh K Cm).1
abbrev Zf:Prop:=eP P w K mg base "_law_begun" ["_law_script"] 4 (eF K 1 (B6 K Cm))
def Hj: {g:oG K Cm // ∀{P w mg base f fd},ee K "_law_note" "_law_note" Gk f fd->d7 mg->b9 P w K mg base cQ 1 f fd ["_law_world","_law_m","_law_deed","_law_what","_law_told"] (cq K [true,false,false,false,false] (bE 6 [true,false,false,false,false] g))}:=⟨_,λF T=>jr F Oa λ_ _ _ _ _ _ hr=>(bc (ib 5 Oa.nd (pxx hr (pxx hr (pv 0) bL) (pv 1)))
  (bc (jl (adG (pxx hr (pv 0) bL) (jn (bz (pv 1) (bz (pv 2) (bz (pv 3) (bS (pv 4) (jn (bz (di (pv 5)) (bz (di (pv 5)) (bz (BW T.t5 (di (pv 5))) (bS (di (pv 5)) (di (pv 5))))))))))))))
  (dM (fJ (eG Xo (pv 4) xk)
   (dM (qh (jG hr) (pv 0) bL (rm (r:=md K) rH (gc YO (pxx hr (pv 0) bL) (pv 4)) (rj (TC TL aU)) rh) rfl)) gA))))⟩
def qD:List D->Option (D×List D):=bE 6 [true,false,false,false,false] (Hj K Cm).1
abbrev Hk:Prop:=eP P w K mg base "_law_note" ["_law_world","_law_m","_law_deed","_law_what","_law_told"] 1 (cq K [true,false,false,false,false] (qD K Cm))
def Hl: {g:oG K Cm // ∀{P w mg base f fd},ee K "next_term" "next_term" Gm f fd->d7 mg->b9 P w K mg base cQ 1 f fd ["master"] (eF K 1 (cY 2 g))}:=⟨_,λF T=>mm F Ob λ_ _ _ _ _ _ hr=>(bc (ib 1 Ob.nd (gc lj (di (pv 0)) aU))
  (fG (gc lj (pv 1) (gc sM (gc TH (di (pv 0)) (pv 1)) (di (pv 0))))))⟩
def Hm:List D->Option D:=cY 2 (Hl K Cm).1
abbrev Zg:Prop:=eP P w K mg base "next_term" ["master"] 1 (eF K 1 (Hm K Cm))
abbrev Oi(K:ah)(Cm:Addr)[fM K Cm](Gs:List D->Option D):TS:=(uR (uS (tB (kW (pE K "tuple") (eJ (gZ 0) (eJ (tC (.ty "tuple")) g7))))
   (qS (kW (x9 K) (eJ (u6 (tK K (gZ 0)) (m4 0) xJ (qc (eF K 1 Gs) [] E0 (eJ (gZ 0) g7)) [none]) g7))) uQ)
  (qS (DC (kW (Bg K) (eJ (gZ 0) (eJ (q0 (eJ (tC (.ty "list")) (eJ (tC (.ty "dict")) g7))) g7))))))
def B7(K:ah)(Cm:Addr)[fM K Cm](Gs:List D->Option D): {f:En->Option Fl // SS K 1 (Oi K Cm Gs) f}:=⟨_,inferInstance⟩
def B8(K:ah)(Cm:Addr)[fM K Cm](Gs:List D->Option D):En->Option Fl:=(B7 K Cm Gs).1
def ox(K:ah)(Cm:Addr)[fM K Cm]:Nat->List D->Option D
 |0=>λ_=>none
 |m + 1=>cY 1 (B8 K Cm (ox K Cm m))
def B9(K:ah)(Cm:Addr)[fM K Cm]:List D->Option D:=ox K Cm 3
abbrev Zh:Prop:=eP P w K mg base "is_fixed" ["value"] 4 (eF K 1 (B9 K Cm))
variable {P w K mg base Cm} in
theorem Oj{f:Addr}{fd:jY}(F:ee K "is_fixed" "is_fixed" Gp f fd)(T:d7 mg)(hb:L2.Binds K fd ["value"] [])(hm:mg "is_fixed"=some (.ref f)):∀m:Nat,b9 P w K mg base cQ (1 + m) f fd ["value"] (eF K 1 (ox K Cm m))
 |0=>Ny
 |j + 1=>by
  have yZ:=eP.of F hb hm (Oj F T hb hm j);refine F.ok YV (λvs H Q E h=>Fx h) (λeO A outer s H vs Q E hr h=> ?_);exact⟨Oi K Cm (ox K Cm j),(bc (fJ (nO (ly (r:=pE K "tuple") Ba rfl T.yV Dh (bz (pv 0) (bz (uN (v:= .ty "tuple") rfl T.t5 JR rfl) gN))))
   (dM (xm (ly (r:=(x9 K)) (Nc rfl) rfl T.N5 aep (bz (pA [none] ["part"] rfl (mM trivial) (Fi (pv 0)) (λ_ _ _ _ _ _=>(DE (i:=0) A9 rfl (wW rfl))) (λ_ _ _ _ _ _=>sV) (λ_ _ _ _ _ _=>(b7 yZ hr rfl (bz (pv 0) gN) (bK _)))) gN)))) gA)
  (dM (xm (Tj (ly (r:=Bg K) Xy rfl T.yV Dh (bz (pv 0) (bz (jn (bz (uN (v:= .ty "list") rfl T.BX JS rfl) (bz (uN (v:= .ty "dict") rfl T.N6 aeq rfl) gN))) gN))))))),ET (S:=(B7 K Cm (ox K Cm j)).2) h (by decide)⟩
abbrev Ol(K:ah)(Cm:Addr)[fM K Cm](Gs:List D->Option D):TS:=(uR (uS (tB (kW (pE K "list") (eJ (gZ 0) (eJ (tC (.ty "list")) g7))))
   Ao uQ)
  (uR (uS (tB (kW (pE K "tuple") (eJ (gZ 0) (eJ (tC (.ty "tuple")) g7))))
   (qS (kW (xZ K) (eJ (u6 (tK K (gZ 0)) (m4 0) xJ (qc (eF K 1 Gs) [] E0 (eJ (gZ 0) g7)) [none]) g7))) uQ)
  (uR (uS (tB (kW (pE K "dict") (eJ (gZ 0) (eJ (tC (.ty "dict")) g7))))
   Ao uQ)
  (qS (gZ 0)))))
def Ca(K:ah)(Cm:Addr)[fM K Cm](Gs:List D->Option D): {f:En->Option Fl // SS K 1 (Ol K Cm Gs) f}:=⟨_,inferInstance⟩
def Cb(K:ah)(Cm:Addr)[fM K Cm](Gs:List D->Option D):En->Option Fl:=(Ca K Cm Gs).1
def oy(K:ah)(Cm:Addr)[fM K Cm]:Nat->List D->Option D
 |0=>λ_=>none
 |m + 1=>cY 1 (Cb K Cm (oy K Cm m))
def Cc(K:ah)(Cm:Addr)[fM K Cm]:List D->Option D:=oy K Cm 3
abbrev Hn:Prop:=eP P w K mg base "own_copy" ["value"] 4 (eF K 1 (Cc K Cm))
variable {P w K mg base Cm} in
theorem Om{f:Addr}{fd:jY}(F:ee K "own_copy" "own_copy" Gq f fd)(T:d7 mg)(hb:L2.Binds K fd ["value"] [])(hm:mg "own_copy"=some (.ref f)):∀m:Nat,b9 P w K mg base cQ (1 + m) f fd ["value"] (eF K 1 (oy K Cm m))
 |0=>Ny
 |j + 1=>by
  have oz:=eP.of F hb hm (Om F T hb hm j);refine F.ok YW (λvs H Q E h=>Fx h) (λeO A outer s H vs Q E hr h=> ?_);exact⟨Ol K Cm (oy K Cm j),(bc (fJ (nO (ly (r:=pE K "list") Ba rfl T.yV Dh (bz (pv 0) (bz (uN (v:= .ty "list") rfl T.BX JS rfl) gN))))
   Kk gA)
  (bc (fJ (nO (ly (r:=pE K "tuple") Ba rfl T.yV Dh (bz (pv 0) (bz (uN (v:= .ty "tuple") rfl T.t5 JR rfl) gN))))
   (dM (xm (AD (r:=(xZ K)) M5 rfl T.t5 JR (bz (pA [none] ["part"] rfl (mM trivial) (Fi (pv 0)) (λ_ _ _ _ _ _=>(DE (i:=0) A9 rfl (wW rfl))) (λ_ _ _ _ _ _=>sV) (λ_ _ _ _ _ _=>(b7 oz hr rfl (bz (pv 0) gN) (bK _)))) gN)))) gA)
  (bc (fJ (nO (ly (r:=pE K "dict") Ba rfl T.yV Dh (bz (pv 0) (bz (uN (v:= .ty "dict") rfl T.N6 aeq rfl) gN))))
   Kk gA)
  (dM (xm (pv 0)))))),ET (S:=(Ca K Cm (oy K Cm j)).2) h (by decide)⟩
def Ho: {g:oG K Cm // ∀{P w mg base f fd},ee K "take_behind" "take_behind" Gr f fd->d7 mg->Zh P w K mg base Cm->Hn P w K mg base Cm->b9 P w K mg base cQ 5 f fd ["master","rows"] (cq K [true,false] (bE 3 [true,false] g))}:=⟨_,λF T yZ oz=>jr F Oc λ_ _ _ _ _ _ hr=>(bc (ib 2 Oc.nd (b7 yZ hr rfl (fV (pv 1))))
  (bc (ia (pv 0) (gc lj (di (pv 0)) (YR T.BX (Kh (nO (pv 2)) (pv 1) (b7 oz hr rfl (fV (pv 1)))))))
  (dM (ia (pv 0) (Ti (di (pv 0)) (Ke (pv 2)))))))⟩
def Hq:List D->Option (D×List D):=bE 3 [true,false] (Ho K Cm).1
abbrev Oo:Prop:=eP P w K mg base "take_behind" ["master","rows"] 5 (cq K [true,false] (Hq K Cm))
def Cd: {g:oG K Cm // ∀{P w mg base f fd},ee K "take_rows" "take_rows" Gu f fd->d7 mg->Oo P w K mg base Cm->b9 P w K mg base cQ 6 f fd ["master","rows"] (cq K [true,false] (bE 3 [true,false] g))}:=⟨_,λF T vM=>jr F G9 λ_ _ _ _ _ _ hr=>(bc (ib 2 G9.nd (pln T.iC (di (pv 0))))
  (bc (fJ (eG (one hr.units) (rm (r:=md K) rH (pv 1) rh (rj (pv 2))) (BW T.t5 (di (pv 0))))
   (bc (ib 2 G9.nd aU)
  (bc (ia (pv 0) (jE gN))
  (dM (ia (pv 0) oZ)))) gA)
  (dM (jl (b7 vM hr rfl (bS (pv 0) (rm (r:=md K) rH (pv 1) (rj (pv 2)) rh)))))))⟩
def Ce:List D->Option (D×List D):=bE 3 [true,false] (Cd K Cm).1
abbrev Oq:Prop:=eP P w K mg base "take_rows" ["master","rows"] 6 (cq K [true,false] (Ce K Cm))
def Hr: {g:oG K Cm // ∀{P w mg base f fd},ee K "is_most" "is_most" Gv f fd->d7 mg->b9 P w K mg base cQ 1 f fd ["master","many"] (eF K 2 (cY 2 g))}:=⟨_,λF T=>mm F YX λ_ _ _ _ _ _ hr=>(fG (yU o9 (gc qX aU (pv 1)) (di (pv 0))))⟩
def Hs:List D->Option D:=cY 2 (Hr K Cm).1
abbrev Ot:Prop:=eP P w K mg base "is_most" ["master","many"] 1 (eF K 2 (Hs K Cm))
def Ht: {g:oG K Cm // ∀{P w mg base f fd},ee K "rank_of_voice" "rank_of_voice" Gw f fd->d7 mg->b9 P w K mg base cQ 1 f fd ["voice"] (eF K 1 (cY 1 g))}:=⟨_,λF T=>mm F YZ λ_ _ _ _ _ _ hr=>(fG (jn (bS (pxx hr (pv 0) aU) (pln T.iC (pxx hr (pv 0) aU)))))⟩
def vN:List D->Option D:=cY 1 (Ht K Cm).1
abbrev Zi:Prop:=eP P w K mg base "rank_of_voice" ["voice"] 1 (eF K 1 (vN K Cm))
def Cf: {g:oG K Cm // ∀{P w mg base f fd},ee K "lead_by_voices" "lead_by_voices" Gx f fd->d7 mg->Ot P w K mg base Cm->Zi P w K mg base Cm->Oq P w K mg base Cm->b9 P w K mg base cQ 8 f fd ["master"] (cq K [true] (bE 2 [true] g))}:=⟨_,λF T vO Hu vP=>jr F Od λ_ _ _ _ _ _ hr=>(bc (fJ (DB (nO (b7 vO hr rfl (bS (pv 0) (pln T.iC (di (pv 0)))))))
   (dM Tq) gA)
  (bc (ib 1 Od.nd (Yf Hu hr rfl rfl T.vI rfl (fV (AD (r:=FA) (X3 rfl) rfl T.BX JS (fV (X1 (di (pv 0))))))))
  (bc (jl (b7 vP hr rfl (bS (pv 0) (pxx hr (pv 1) aU))))
  (bc (ia (pv 0) (di (pv 0)))
  (bc (ia (pv 0) bL)
  (dM (ia (pv 0) xA)))))))⟩
def Cg:List D->Option (D×List D):=bE 2 [true] (Cf K Cm).1
abbrev Ou:Prop:=eP P w K mg base "lead_by_voices" ["master"] 8 (cq K [true] (Cg K Cm))
def Hv: {g:oG K Cm // ∀{P w mg base f fd},ee K "others" "others" Gy f fd->d7 mg->b9 P w K mg base cQ 1 f fd ["master"] (eF K 1 (cY 1 g))}:=⟨_,λF T=>mm F Y0 λ_ _ _ _ _ _ hr=>(fG (pA [none,some 0] ["number","master"] rfl (mM ⟨⟨rfl,rfl, .inl rfl⟩,trivial⟩) (qV rfl T.qC (fV (di (pv 0)))) (λ_ _ _ _ _ _=>(ie 0 (by decide +kernel:(["number","master"]:List Str).Nodup))) (λ_ _ _ _ _ _=>(u5 (eG (one hr.units) (pv 0) (di (pv 1))))) (λ_ _ _ _ _ _=>(pv 0))))⟩
def Ci:List D->Option D:=cY 1 (Hv K Cm).1
abbrev Hw:Prop:=eP P w K mg base "others" ["master"] 1 (eF K 1 (Ci K Cm))
def Hx: {g:oG K Cm // ∀{P w mg base f fd},ee K "rise" "Master.rise" Gz f fd->d7 mg->Zg P w K mg base Cm->Ou P w K mg base Cm->Hw P w K mg base Cm->b9 P w K mg base cQ 9 f fd ["self"] (cq K [true] (bE 1 [true] g))}:=⟨_,λF T Hy vQ qE=>jr F Y1 λ_ _ _ _ _ _ hr=>(bc (ia (pv 0) (b7 Hy hr rfl (fV (pv 0))))
  (bc (ia (pv 0) bL)
  (bc (ia (pv 0) (XY (di (pv 0)) (jn (bS (di (pv 0)) (BW T.t5 (di (pv 0)))))))
  (bc (jl (b7 vQ hr rfl (fV (pv 0))))
  (fG (pA [none,some 0] ["other","self"] rfl (mM ⟨⟨rfl,rfl, .inl rfl⟩,trivial⟩) (qB (b7 qE hr rfl (fV (pv 0)))) (λ_ _ _ _ _ _=>(ie 0 (by decide +kernel:(["other","self"]:List Str).Nodup))) (λ_ _ _ _ _ _=>sV) (λ_ _ _ _ _ _=>(jn (bz bL (bz (di (pv 1)) (bS (pv 0) (di (pv 1)))))))))))))⟩
def y0:List D->Option (D×List D):=bE 1 [true] (Hx K Cm).1
abbrev Zj:Prop:=ny P w K mg base Cm "rise" ["self"] 9 (cq K [true] (y0 K Cm))
def Hz: {g:oG K Cm // ∀{P w mg base f fd},ee K "count_done" "count_done" GF f fd->d7 mg->Hw P w K mg base Cm->Ot P w K mg base Cm->b9 P w K mg base cQ 3 f fd ["master"] (cq K [true] (bE 3 [true] g))}:=⟨_,λF T qE vO=>jr F Ha λ_ _ _ _ _ _ hr=>(bc (ib 1 Ha.nd (gc lj (pA [none,some 0] ["other","master"] rfl (mM ⟨⟨rfl,rfl, .inl rfl⟩,trivial⟩) (qB (b7 qE hr rfl (fV (pv 0)))) (λ_ _ _ _ _ _=>(ie 0 (by decide +kernel:(["other","master"]:List Str).Nodup))) (λ_ _ _ _ _ _=>sV) (λ_ _ _ _ _ _=>(xD (jG hr) (di (pv 1)) (pv 0) aU ⟨rfl,rfl,rfl,rfl⟩))) (jE (fV (pln T.iC (di (pv 0)))))))
  (bc (Eu (k:=2) [none,some 0,some 1] ["size","master","sizes"] rfl (mM ⟨⟨rfl,rfl, .inl rfl⟩,⟨⟨rfl,rfl, .inl rfl⟩,trivial⟩⟩) Ha.nd rfl (wW rfl) (qB (pv 1)) (λ_ _ _ _ _ _=>(ie 0 (by decide +kernel:(["size","master","sizes"]:List Str).Nodup))) (λ_ _ _ _ _ _=>(u5 (nO (b7 vO hr rfl (bS (pv 1) (pln T.iC (pA [none,some 0] ["other","size"] rfl (mM ⟨⟨rfl,rfl,(by first | exact .inl rfl | exact .inr rfl)⟩,trivial⟩) (qB (pv 2)) (λ_ _ _ _ _ _=>(ie 0 (by decide +kernel:(["other","size"]:List Str).Nodup))) (λ_ _ _ _ _ _=>(u5 (eG KH (pv 0) (pv 1)))) (λ_ _ _ _ _ _=>(pv 0))))))))) (λ_ _ _ _ _ _=>(pv 0)))
  (dM (ia (pv 0) (ly (r:=(FO K)) (Yo rfl) rfl T.vI Ae (fV (gc lj (jE (fV (di (pv 0)))) (pv 2))))))))⟩
def HA:List D->Option (D×List D):=bE 3 [true] (Hz K Cm).1
abbrev Ov:Prop:=eP P w K mg base "count_done" ["master"] 3 (cq K [true] (HA K Cm))
def y6: {g:oG K Cm // ∀{P w mg base f fd},ee K "hear_kept" "hear_kept" GJ f fd->d7 mg->Ov P w K mg base Cm->b9 P w K mg base cQ 5 f fd ["master","sender","term","size"] (cq K [true,false,false,false] (bE 4 [true,false,false,false] g))}:=⟨_,λF T vR=>jr F Y2 λ_ _ _ _ _ _ hr=>(bc (fJ (PW.pt (xl (eG (jL hr.units) (di (pv 0)) bL) (An (eG (jL hr.units) (pv 2) (di (pv 0))))))
   (bc (qh (jG hr) (di (pv 0)) (pv 1) (ly (r:=x8) (Fg rfl) rfl T.vI Ae (bS (pv 3) (xD (jG hr) (di (pv 0)) (pv 1) aU ⟨rfl,rfl,rfl,rfl⟩))) rfl)
  (dM (jl (b7 vR hr rfl (fV (pv 0)))))) gA)
  (fG (jE gN)))⟩
def y7:List D->Option (D×List D):=bE 4 [true,false,false,false] (y6 K Cm).1
abbrev Zk:Prop:=eP P w K mg base "hear_kept" ["master","sender","term","size"] 5 (cq K [true,false,false,false] (y7 K Cm))
def HB: {g:oG K Cm // ∀{P w mg base f fd},ee K "rows_told" "rows_told" GK f fd->d7 mg->Hn P w K mg base Cm->b9 P w K mg base cQ 5 f fd ["master"] (eF K 1 (cY 2 g))}:=⟨_,λF T oz=>mm F Oe λ_ _ _ _ _ _ hr=>(bc (ib 1 Oe.nd (BW T.t5 (di (pv 0))))
  (fG (Kh (nO (di (pv 0))) (pv 1) (b7 oz hr rfl (fV (pv 1))))))⟩
def HC:List D->Option D:=cY 2 (HB K Cm).1
abbrev Ow:Prop:=eP P w K mg base "rows_told" ["master"] 5 (eF K 1 (HC K Cm))
def Cj: {g:oG K Cm // ∀{P w mg base f fd},ee K "hear_stand" "hear_stand" GO f fd->d7 mg->Ow P w K mg base Cm->b9 P w K mg base cQ 6 f fd ["master","sender","term"] (cq K [true,false,false] (bE 3 [true,false,false] g))}:=⟨_,λF T vS=>jr F Y3 λ_ _ _ _ _ _ hr=>(bc (fJ (eG KG (pv 2) (di (pv 0)))
   (fG (jE gN)) gA)
  (bc (ia (pv 0) (pv 2))
  (bc (ia (pv 0) bL)
  (fG (jE (fV (jn (bz bL (bz (di (pv 0)) (bz (pv 1) (bz (pv 2) (bS (di (pv 0)) (b7 vS hr rfl (fV (pv 0)))))))))))))))⟩
def Ck:List D->Option (D×List D):=bE 3 [true,false,false] (Cj K Cm).1
abbrev Zl:Prop:=eP P w K mg base "hear_stand" ["master","sender","term"] 6 (cq K [true,false,false] (Ck K Cm))
def y8: {g:oG K Cm // ∀{P w mg base f fd},ee K "hear_voice" "hear_voice" GQ f fd->d7 mg->Hn P w K mg base Cm->Ou P w K mg base Cm->b9 P w K mg base cQ 9 f fd ["master","sender","term","of","rows"] (cq K [true,false,false,false,false] (bE 5 [true,false,false,false,false] g))}:=⟨_,λF T oz vQ=>jr F Y4 λ_ _ _ _ _ _ hr=>(bc (fJ (PW.pt (xl (eG (jL hr.units) (di (pv 0)) bL) (An (eG (jL hr.units) (pv 2) (di (pv 0))))))
   (bc (qh (jG hr) (di (pv 0)) (pv 1) (jn (bS (pv 3) (b7 oz hr rfl (fV (pv 4))))) rfl)
  (dM (jl (b7 vQ hr rfl (fV (pv 0)))))) gA)
  (fG (jE gN)))⟩
def y9:List D->Option (D×List D):=bE 5 [true,false,false,false,false] (y8 K Cm).1
abbrev Zm:Prop:=eP P w K mg base "hear_voice" ["master","sender","term","of","rows"] 9 (cq K [true,false,false,false,false] (y9 K Cm))
def za: {g:oG K Cm // ∀{P w mg base f fd},ee K "hear_keep" "hear_keep" GU f fd->d7 mg->Oq P w K mg base Cm->b9 P w K mg base cQ 8 f fd ["master","sender","term","rows","done"] (cq K [true,false,false,false,false] (bE 5 [true,false,false,false,false] g))}:=⟨_,λF T vP=>jr F Y5 λ_ _ _ _ _ _ hr=>(bc (fJ (eG qY (pv 2) (di (pv 0)))
   (fG (jE gN)) gA)
  (bc (ia (pv 0) (pv 2))
  (bc (ia (pv 0) bL)
  (bc (fJ (PW.pt (qQ (eG qY (di (pv 0)) (pv 2)) (uO (eG o9 (pln T.iC (pv 3)) (pln T.iC (di (pv 0)))))))
   (bc (jl (b7 vP hr rfl (bS (pv 0) (pv 3))))
  (dM (ia (pv 0) (pv 2)))) gA)
  (bc (ia (pv 0) (ly (r:=x8) (Fg rfl) rfl T.vI Ae (bS (di (pv 0)) (ly (r:=Be) (M6 rfl) rfl T.N4 aer (bS (pv 4) (pln T.iC (di (pv 0))))))))
  (fG (jE (fV (jn (bz bL (bz (di (pv 0)) (bz (pv 1) (bS (pv 2) (pln T.iC (di (pv 0))))))))))))))))⟩
def zb:List D->Option (D×List D):=bE 5 [true,false,false,false,false] (za K Cm).1
abbrev Zn:Prop:=eP P w K mg base "hear_keep" ["master","sender","term","rows","done"] 8 (cq K [true,false,false,false,false] (zb K Cm))
def vT: {g:oG K Cm // ∀{P w mg base f fd},ee K "hear" "Master.hear" GV f fd->d7 mg->Zl P w K mg base Cm->Zm P w K mg base Cm->Zn P w K mg base Cm->Zk P w K mg base Cm->b9 P w K mg base cQ 10 f fd ["self","message"] (cq K [true,false] (bE 2 [true,false] g))}:=⟨_,λF T HD HE HF HG=>jr F Y6 λ_ _ _ _ _ _ hr=>(bc (fJ (eG (jL hr.units) (pxx hr (pv 1) aU) bL)
   (fG (b7 HD hr rfl (bz (pv 0) (bS (pxx hr (pv 1) aU) (pxx hr (pv 1) aU))))) gA)
  (bc (fJ (eG (jL hr.units) (pxx hr (pv 1) aU) bL)
   (fG (b7 HE hr rfl (bz (pv 0) (bz (pxx hr (pv 1) aU) (bz (pxx hr (pv 1) aU) (bS (pxx hr (pv 1) aU) (pxx hr (pv 1) aU))))))) gA)
  (bc (fJ (eG (jL hr.units) (pxx hr (pv 1) aU) bL)
   (fG (b7 HF hr rfl (bz (pv 0) (bz (pxx hr (pv 1) aU) (bz (pxx hr (pv 1) aU) (bS (pxx hr (pv 1) aU) (pxx hr (pv 1) aU))))))) gA)
  (fG (b7 HG hr rfl (bz (pv 0) (bz (pxx hr (pv 1) aU) (bS (pxx hr (pv 1) aU) (pxx hr (pv 1) aU)))))))))⟩
def rL:List D->Option (D×List D):=bE 2 [true,false] (vT K Cm).1
abbrev Zo:Prop:=ny P w K mg base Cm "hear" ["self","message"] 10 (cq K [true,false] (rL K Cm))
def HH: {g:oG K Cm // ∀{P w mg base f fd},ee K "_law_heard" "_law_heard" GW f fd->d7 mg->Hk P w K mg base Cm->Zo P w K mg base Cm->b9 P w K mg base cQ 11 f fd ["_law_world","_law_k","_law_stays"] (cq K [true,false,false] (bE 4 [true,false,false] g))}:=⟨_,λF T oA HI=>jr F Of λ_ _ _ _ _ _ hr=>(bc (ib 3 Of.nd (pxx hr (pxx hr (pv 0) bL) (pv 1)))
  (bc (fJ (DB (nO (pv 2)))
   (dM (qh (jG hr) (pv 0) bL (gc lj (rm (r:=md K) rH (pxx hr (pv 0) bL) rh (rj (pv 1))) (rm (r:=md K) rH (pxx hr (pv 0) bL) (rj (gc lj (pv 1) aU)) rh)) rfl)) gA)
  (dM (jl (b7 oA hr rfl (bz (pv 0) (bz (pxx hr (pv 3) aU) (bz bL (bS (pv 3) (yN (Nm HI hr (pxx hr (pxx hr (pv 0) bL) (pxx hr (pv 3) aU)) (fV (pv 3)))))))))))))⟩
def vU:List D->Option (D×List D):=bE 4 [true,false,false] (HH K Cm).1
abbrev Ox:Prop:=eP P w K mg base "_law_heard" ["_law_world","_law_k","_law_stays"] 11 (cq K [true,false,false] (vU K Cm))
def HJ: {g:oG K Cm // ∀{P w mg base f fd},ee K "_law_carried" "_law_carried" GX f fd->d7 mg->yY P w K mg base Cm->Ox P w K mg base Cm->b9 P w K mg base cQ 12 f fd ["_law_world","_law_left_here","_law_words","_law_whole"] (cq K [true,true,false,false] (bE 7 [true,true,false,false] g))}:=⟨_,λF T jf vV=>jr F yW λ_ _ _ _ _ _ hr=>(dM (sH w6 rfl (qV rfl T.qC (fV aU)) (ie 4 yW.nd)
   (bc (ib 5 yW.nd aU)
  (dM (sH w6 rfl (qV rfl T.qC (fV (pln T.iC (pxx hr (pv 0) bL)))) (ie 6 yW.nd)
   (dM (fJ (PW.pt (xl (eG qY (pv 5) (pln T.iC (pxx hr (pv 0) bL))) (xl (AA (F9 (jG hr)) (pxx hr (pxx hr (pxx hr (pv 0) bL) (pv 5)) aU) (pv 2) (by with_unfolding_all rfl)) (An (PW.pt (qQ (nO (pv 3)) (uO (eG o9 (b7 jf hr rfl (bS (pv 1) aU)) aU))))))))
   (dM (jl (b7 vV hr rfl (bz (pv 0) (bS (pv 5) oZ))))) (dM (ib 5 yW.nd (gc lj (pv 5) aU))))))))))⟩
def Cn:List D->Option (D×List D):=bE 7 [true,true,false,false] (HJ K Cm).1
abbrev Zp:Prop:=eP P w K mg base "_law_carried" ["_law_world","_law_left_here","_law_words","_law_whole"] 12 (cq K [true,true,false,false] (Cn K Cm))
def HK: {g:oG K Cm // ∀{P w mg base f fd},ee K "_law_leader" "_law_leader" GY f fd->d7 mg->yY P w K mg base Cm->b9 P w K mg base cQ 3 f fd ["_law_world","_law_left_here"] (cq K [false,true] (bE 4 [false,true] g))}:=⟨_,λF T jf=>jr F Hb λ_ _ _ _ _ _ hr=>(bc (ib 2 Hb.nd (pxx hr (pv 0) bL))
  (bc (Eu (k:=3) [none] ["_law_one"] rfl (mM trivial) Hb.nd rfl (wW rfl) (qB (pv 2)) (λ_ _ _ _ _ _=>(ie 0 A9)) (λ_ _ _ _ _ _=>(u5 (eG (jL hr.units) (di (pv 0)) bL))) (λ_ _ _ _ _ _=>(jn (bS (di (pv 0)) (di (pv 0))))))
  (bc (fJ (PW.pt (qQ (eG (jL hr.units) (pv 3) (jE gN)) (uO (eG (jL hr.units) (b7 jf hr rfl (bS (pv 1) aU)) aU))))
   (fG (b7 jf hr rfl (bS (pv 1) (pln T.iC (pv 2))))) gA)
  (fG (pxx hr (ly (r:=F4 K) (YF (jG hr) rfl) rfl T.vI Ae (fV (pv 3))) aU)))))⟩
def Co:List D->Option (D×List D):=bE 4 [false,true] (HK K Cm).1
abbrev Oy:Prop:=eP P w K mg base "_law_leader" ["_law_world","_law_left_here"] 3 (cq K [false,true] (Co K Cm))
def Cp: {g:oG K Cm // ∀{P w mg base f fd},ee K "send" "Master.send" GZ f fd->d7 mg->Hw P w K mg base Cm->Ow P w K mg base Cm->b9 P w K mg base cQ 6 f fd ["self"] (eF K 1 (cY 1 g))}:=⟨_,λF T qE vS=>mm F Y7 λ_ _ _ _ _ _ hr=>(bc (fJ (eG (one hr.units) (di (pv 0)) bL)
   (fG (jE gN)) gA)
  (fG (pA [none,some 0] ["other","self"] rfl (mM ⟨⟨rfl,rfl, .inl rfl⟩,trivial⟩) (qB (b7 qE hr rfl (fV (pv 0)))) (λ_ _ _ _ _ _=>(ie 0 (by decide +kernel:(["other","self"]:List Str).Nodup))) (λ_ _ _ _ _ _=>sV) (λ_ _ _ _ _ _=>(jn (bz bL (bz (di (pv 1)) (bz (pv 0) (bz (di (pv 1)) (bS (b7 vS hr rfl (fV (pv 1))) (di (pv 1))))))))))))⟩
def rM:List D->Option D:=cY 1 (Cp K Cm).1
abbrev Oz:Prop:=ny P w K mg base Cm "send" ["self"] 6 (eF K 1 (rM K Cm))
def Cq: {g:oG K Cm // ∀{P w mg base f fd},ee K "add" "Master.add" G0 f fd->d7 mg->Oo P w K mg base Cm->Ov P w K mg base Cm->Oz P w K mg base Cm->b9 P w K mg base cQ 7 f fd ["self","row"] (cq K [true,false] (bE 2 [true,false] g))}:=⟨_,λF T vM vR vW=>jr F Y8 λ_ _ _ _ _ _ hr=>(bc (fJ (eG (one hr.units) (di (pv 0)) bL)
   (fG xk) gA)
  (bc (jl (b7 vM hr rfl (bS (pv 0) (jn (fV (pv 1))))))
  (bc (jl (b7 vR hr rfl (fV (pv 0))))
  (fG (Bo vW hr (pv 0))))))⟩
def qF:List D->Option (D×List D):=bE 2 [true,false] (Cq K Cm).1
abbrev Zq:Prop:=ny P w K mg base Cm "add" ["self","row"] 7 (cq K [true,false] (qF K Cm))
def HL: {g:oG K Cm // ∀{P w mg base f fd},ee K "_law_added" "_law_added" G1 f fd->d7 mg->Oy P w K mg base Cm->yY P w K mg base Cm->Hk P w K mg base Cm->Zq P w K mg base Cm->b9 P w K mg base cQ 8 f fd ["_law_world","_law_left_here"] (cq K [true,true] (bE 5 [true,true] g))}:=⟨_,λF T vX jf oA HM=>jr F BZ λ_ _ _ _ _ _ hr=>(bc (ib 2 BZ.nd (b7 vX hr rfl (bS (pv 0) (pv 1))))
  (dM (sH w6 rfl (qV rfl T.qC (fV (gc lj aU (b7 jf hr rfl (bS (pv 1) aU))))) (ie 3 BZ.nd)
   (bc (qh (jG hr) (pv 0) bL (gc lj (pxx hr (pv 0) bL) aU) rfl)
  (bc (ib 4 BZ.nd (jn (bS bL (pxx hr (jE (bS (pxx hr (pv 0) bL) aU)) (gc LS (b7 jf hr rfl (bS (pv 1) aU)) aU)))))
  (dM (jl (b7 oA hr rfl (bz (pv 0) (bz (pv 2) (bz bL (bS (pv 4) (yN (Nm HM hr (pxx hr (pxx hr (pv 0) bL) (pv 2)) (fV (pv 4))))))))))))))))⟩
def Cr:List D->Option (D×List D):=bE 5 [true,true] (HL K Cm).1
abbrev Zr:Prop:=eP P w K mg base "_law_added" ["_law_world","_law_left_here"] 8 (cq K [true,true] (Cr K Cm))
def HN: {g:oG K Cm // ∀{P w mg base f fd},ee K "fall" "Master.fall" G3 f fd->d7 mg->b9 P w K mg base cQ 1 f fd ["self"] (cq K [true] (bE 1 [true] g))}:=⟨_,λF T=>jr F Y9 λ_ _ _ _ _ _ hr=>(bc (ia (pv 0) bL)
  (bc (ia (pv 0) aU)
  (fG (jE gN))))⟩
def zd:List D->Option (D×List D):=bE 1 [true] (HN K Cm).1
abbrev Zs:Prop:=ny P w K mg base Cm "fall" ["self"] 1 (cq K [true] (zd K Cm))
def HP: {g:oG K Cm // ∀{P w mg base f fd},ee K "_law_road" "_law_road" G4 f fd->d7 mg->yY P w K mg base Cm->Hk P w K mg base Cm->Zj P w K mg base Cm->Zp P w K mg base Cm->Zr P w K mg base Cm->Zs P w K mg base Cm->Oy P w K mg base Cm->Oz P w K mg base Cm->Ox P w K mg base Cm->b9 P w K mg base cQ 13 f fd ["_law_world","_law_left_here"] (cq K [true,true] (bE 6 [true,true] g))}:=⟨_,λF T jf oA HQ ze HR HS vX vW vV=>jr F vJ λ_ _ _ _ _ _ hr=>(bc (ib 2 vJ.nd (b7 jf hr rfl (bS (pv 1) aU)))
  (bc (ib 3 vJ.nd (b7 jf hr rfl (bS (pv 1) (pln T.iC (pxx hr (pv 0) bL)))))
  (bc (ib 4 vJ.nd (pxx hr (pxx hr (pv 0) bL) (pv 3)))
  (dM (fJ (eG qY (pv 2) aU)
   (bc (jl (b7 oA hr rfl (bz (pv 0) (bz (pv 3) (bz bL (bS xk (yN (Bo HQ hr (pv 4)))))))))
  (dM (fJ (eG o9 (pv 2) aU)
   (dM (jl (b7 ze hr rfl (bz (pv 0) (bz (pv 1) (bS (jn (bS bL bL)) (yU (jL hr.units) (pv 2) aU))))))) gA))) (dM (fJ (eG qY (pv 2) aU)
   (bc (jl (b7 HR hr rfl (bS (pv 0) (pv 1))))
  (dM (fJ (eG o9 (pv 2) aU)
   (dM (jl (b7 ze hr rfl (bz (pv 0) (bz (pv 1) (bS (jn (bS bL bL)) (yU (jL hr.units) (pv 2) aU))))))) gA))) (dM (fJ (eG (jL hr.units) (pv 2) aU)
   (dM (jl (b7 oA hr rfl (bz (pv 0) (bz (pv 3) (bz bL (bS xk (yN (Bo HS hr (pv 4)))))))))) (dM (fJ (eG (jL hr.units) (pv 2) aU)
   (bc (ib 3 vJ.nd (b7 vX hr rfl (bS (pv 0) (pv 1))))
  (bc (jl (b7 oA hr rfl (bz (pv 0) (bz (pv 3) (bz bL (bS xk (yN (Bo vW hr (pxx hr (pxx hr (pv 0) bL) (pv 3))))))))))
  (dM (jl (b7 ze hr rfl (bz (pv 0) (bz (pv 1) (bS (jn (bS bL bL)) oZ)))))))) (dM (fJ (eG (jL hr.units) (pv 2) aU)
   (dM (qh (jG hr) (pv 0) bL (rm (r:=md K) rH (pxx hr (pv 0) bL) (rj (b7 jf hr rfl (bS (pv 1) aU))) rh) rfl)) (dM (sH w6 rfl (qV rfl T.qC (fV (gc lj aU (b7 jf hr rfl (bS (pv 1) aU))))) (ie 5 vJ.nd)
   (dM (fJ (eG o9 (pln T.iC (pxx hr (pv 0) bL)) aU)
   (dM (jl (b7 vV hr rfl (bz (pv 0) (bS (b7 jf hr rfl (bS (pv 1) (pln T.iC (pxx hr (pv 0) bL)))) (yU (jL hr.units) (b7 jf hr rfl (bS (pv 1) aU)) aU)))))) gA)))))))))))))))))⟩
def Cs:List D->Option (D×List D):=bE 6 [true,true] (HP K Cm).1
abbrev Zt:Prop:=eP P w K mg base "_law_road" ["_law_world","_law_left_here"] 13 (cq K [true,true] (Cs K Cm))
def HU: {g:oG K Cm // ∀{P w mg base f fd},ee K "_law_voices" "_law_voices" G5 f fd->d7 mg->b9 P w K mg base cQ 1 f fd ["_law_told"] (eF K 1 (cY 1 g))}:=⟨_,λF T=>mm F Za λ_ _ _ _ _ _ hr=>(fG (pA [none] ["_law_message"] rfl (mM trivial) (qB (YQ (pv 0) (Ke (jE gN)))) (λ_ _ _ _ _ _=>(ie 0 A9)) (λ_ _ _ _ _ _=>(u5 (eG (jL hr.units) (pxx hr (pv 0) aU) bL))) (λ_ _ _ _ _ _=>(pv 0))))⟩
def zf:List D->Option D:=cY 1 (HU K Cm).1
abbrev Zu:Prop:=eP P w K mg base "_law_voices" ["_law_told"] 1 (eF K 1 (zf K Cm))
def HV: {g:oG K Cm // ∀{P w mg base f fd},ee K "_law_begins" "_law_begins" G6 f fd->d7 mg->b9 P w K mg base cQ 1 f fd ["_law_one","_law_other"] (eF K 2 (cY 3 g))}:=⟨_,λF T=>mm F Og λ_ _ _ _ _ _ hr=>(bc (ib 2 Og.nd (ly (r:=Be) (M6 rfl) rfl T.N4 aer (bS (pln T.iC (pv 0)) (pln T.iC (pv 1)))))
  (fG (yU (jL hr.units) (rm (r:=md K) rH (pv 0) rh (rj (pv 2))) (rm (r:=md K) rH (pv 1) rh (rj (pv 2))))))⟩
def zg:List D->Option D:=cY 3 (HV K Cm).1
abbrev Zv:Prop:=eP P w K mg base "_law_begins" ["_law_one","_law_other"] 1 (eF K 2 (zg K Cm))
def HW: {g:oG K Cm // ∀{P w mg base f fd},ee K "_law_lawful" "_law_lawful" G7 f fd->d7 mg->Zu P w K mg base Cm->Zv P w K mg base Cm->b9 P w K mg base cQ 2 f fd ["_law_seen","_law_many","_law_row"] (cq K [true,false,false] (bE 15 [true,false,false] g))}:=⟨_,λF T HX HY=>jr F mQ λ_ _ _ _ _ _ hr=>(bc (Ap (pv 2) (MY (K:=K) rfl (n:=5) rfl (o5 (ie 3 mQ.nd) (o5 (ie 4 mQ.nd) (o5 (ie 5 mQ.nd) (o5 (ie 6 mQ.nd) (o5 (ie 7 mQ.nd) Kq)))))))
  (bc (Ap (pv 7) (MY (K:=K) rfl (n:=5) rfl (o5 (ie 8 mQ.nd) (o5 (ie 9 mQ.nd) (o5 (ie 10 mQ.nd) (o5 (ie 11 mQ.nd) (o5 (ie 12 mQ.nd) Kq)))))))
  (bc (fJ (PW.pt (qQ (eG qY (pv 8) (xD (jG hr) (pxx hr (pv 0) bL) (pv 3) aU ⟨rfl,rfl,rfl,rfl⟩)) (qQ (eG o9 (pv 9) (pv 8)) (uO (eG o9 (pv 11) (pln T.iC (pv 10)))))))
   (fG oZ) gA)
  (bc (qh (jG hr) (pxx hr (pv 0) bL) (pv 3) (pv 8) rfl)
  (bc (sH w6 rfl (qB (b7 HX hr rfl (fV (pv 6)))) (ie 13 mQ.nd)
   (bc (fJ (PW.pt (qQ (AA (F9 (jG hr)) (jn (bS (pv 3) (pxx hr (pv 13) aU))) (pxx hr (pv 0) bL) (by with_unfolding_all rfl)) (uO (eG (one hr.units) (gc sM (pxx hr (pv 13) aU) (pv 1)) (pxx hr (pv 13) aU)))))
   (fG oZ) gA)
  (dM (qh (jG hr) (pxx hr (pv 0) bL) (jn (bS (pv 3) (pxx hr (pv 13) aU))) oZ rfl))))
  (bc (fJ (eG (jL hr.units) (pv 12) bL)
   (bc (Eu (k:=14) [none,some 8,some 0] ["_law_number","_law_term","_law_seen"] rfl (mM ⟨⟨rfl,rfl, .inl rfl⟩,⟨⟨rfl,rfl, .inl rfl⟩,trivial⟩⟩) mQ.nd rfl (wW rfl) (qV rfl T.qC (fV (pv 1))) (λ_ _ _ _ _ _=>(ie 0 (by decide +kernel:(["_law_number","_law_term","_law_seen"]:List Str).Nodup))) (λ_ _ _ _ _ _=>(u5 (AA (F9 (jG hr)) (jn (bS (pv 0) (pv 1))) (pxx hr (pv 2) bL) (by with_unfolding_all rfl)))) (λ_ _ _ _ _ _=>(pv 0)))
  (dM (fJ (PW.pt (qQ (eG (one hr.units) (gc sM (pv 8) (pv 1)) (pv 3)) (qQ (eG KG (gc qX aU (gc lj (pln T.iC (pv 14)) aU)) (pv 1)) (uO (eG (one hr.units) (pv 9) (pv 8))))))
   (fG oZ) gA))) gA)
  (bc (fJ (DB (nO (b7 HY hr rfl (bS (pv 10) (xD (jG hr) (pxx hr (pv 0) bL) (pv 9) (jn gN) ⟨rfl,rfl,rfl,rfl⟩)))))
   (fG oZ) gA)
  (bc (fJ (eG o9 (pln T.iC (pv 10)) (pln T.iC (xD (jG hr) (pxx hr (pv 0) bL) (pv 9) (jn gN) ⟨rfl,rfl,rfl,rfl⟩)))
   (dM (qh (jG hr) (pxx hr (pv 0) bL) (pv 9) (pv 10) rfl)) gA)
  (fG oZ)))))))))⟩
def vY:List D->Option (D×List D):=bE 15 [true,false,false] (HW K Cm).1
abbrev Zw:Prop:=eP P w K mg base "_law_lawful" ["_law_seen","_law_many","_law_row"] 2 (cq K [true,false,false] (vY K Cm))
end
end K85
namespace WM
open PySem L2 VL
structure MS where
 te:Int
 o:Int
 L:List D
 dn:Int
 role:Str
 vo:List (Int×Int×List D)
 si:List (Int×Int)
inductive bF where
 |gH (sn to t:Int)
 |cB (sn to t o:Int) (R:List D)
 |keep (sn to t:Int) (R:List D) (dn:Int)
 |kept (sn to t z:Int)
def bF.to:bF->Int
 |.gH _ i _=>i
 |.cB _ i _ _ _=>i
 |.keep _ i _ _ _=>i
 |.kept _ i _ _=>i
def bF.word:bF->Str
 |.gH ..=>"stand"
 |.cB ..=>"voice"
 |.keep ..=>"keep"
 |.kept ..=>"kept"
def bF.ok(b:Nat):bF->Prop
 |.cB _ _ _ _ R=>cx R/\R.length<=b
 |.keep _ _ _ R _=>cx R/\R.length<=b
 |_=>True
def ay:bF->D
 |.gH sn i t=> .nd .tup [sD "stand",iD sn,iD i,iD t]
 |.cB sn i t o R=> .nd .tup [sD "voice",iD sn,iD i,iD t,iD o, .nd .tup R]
 |.keep sn i t R dn=> .nd .tup [sD "keep",iD sn,iD i,iD t, .nd .tup R,iD dn]
 |.kept sn i t z=> .nd .tup [sD "kept",iD sn,iD i,iD t,iD z]
def jU(v:Int×List D):D:= .nd .tup [iD v.1, .nd .tup v.2]
def iM(vo:List (Int×Int×List D)):D:= .nd (.aB (vo.map λp=> .inl p.1)) (vo.map λp=>jU p.2)
def bN(S:List (Int×Int)):D:= .nd (.aB (S.map λp=> .inl p.1)) (S.map λp=>iD p.2)
def bP:List (Int×Int)->Int->Int
 | [],_=>0
 |p::S,i=>if p.1=i then p.2 else bP S i
theorem OA:∀(S:List (Int×Int)) (i:Int),(match dk (cb i:aY) (S.map λp=>(cb p.1:aY)) with | some k=>(S.map λp=>iD p.2)[k]? | none=>some (iD 0))=some (iD (bP S i))
 | [],_=>rfl
 |p::S,i=>by
  have ih:=OA S i;by_cases h:p.1=i
  ·simp[dk,bP,h]
  ·have hk:¬ (cb p.1:aY)=cb i:=λz=>h (rX z);rw[dZ,dZ,dk,if_neg hk,bP,if_neg h];cases e:dk (cb i:aY) (S.map λp=>(cb p.1:aY)) with
   |none=>rw[e]at ih;exact ih
   |some k=>rw[e]at ih;simpa using ih
theorem HZ(S:List (Int×Int))(i:Int):(eN (bN S) (iD i)).bind (fun | some k=>aZ (bN S) k | none=>some (iD 0))=some (iD (bP S i)):=OA S i
theorem ints_map:∀(ns:List Int),rW (ns.map iD)=some ns
 | []=>rfl
 |n::ns=>by rw[dZ,rW,ints_map ns];rfl
theorem OB(ns:List Int):VL.bf (ns.map iD)=true:=sZ λd hd=>by
 obtain⟨i,_,rfl⟩:=iy.mp hd;rfl
theorem qG(nu:Int)(m:Nat):(gF nu m).length<=m:=by
 unfold gF;exact bW (Di _ _) (by rw[Af];exact bK _)
def dW(nu:Int)(m:Nat)(S:List (Int×Int))(n:Nat):List Int:=(gF nu m).map (λi:Nat=>bP S i)++ [(n:Int)]
def most(m:Nat)(zs:List Int)(z:Int):Bool:=decide ((m:Int) < 2 * ((zs.filter λx=>decide (z<=x)).length:Nat))
theorem Zx(nu:Int)(m:Nat)(S:List (Int×Int))(n:Nat):(dW nu m S n).length<=m + 1:=by
 unfold dW;have:=qG nu m;simp
 lia
def Ct(nu te:Int)(L:List D)(dn:Int)(i:Nat):D:=ay (.keep nu i te L dn)
def vZ(nu te:Int)(m:Nat)(L:List D)(dn:Int):List D:=(gF nu m).map (Ct nu te L dn)
def bV{α:Type}:List (Int×α)->Int->α->List (Int×α)
 | [],i,x=> [(i,x)]
 |p::r,i,x=>if p.1=i then(i,x)::r else p::bV r i x
def b6(C:Addr)(m:Nat)(nu:Int)(s:MS):D:=mD C nu m s.te s.o s.L s.dn s.role (iM s.vo) (bN s.si)
def lK(b v:Int×List D):Int×List D:=if jJ v.1 v.2.length b.1 b.2.length=true then v else b
def dX(v:Int×List D)(r:List (Int×Int×List D)):Int×List D:=r.foldl (λb p=>lK b p.2) v
def lead(m:Nat)(s:MS):MS:=if(m:Int) < 2 * (s.vo.length:Nat) then(match s.vo with
 | []=>s
 |v::r=> { s with L:=(dX v.2 r).2,o:=s.te,role:="leads",si:= [] }) else s
def count(m:Nat)(nu:Int)(s:MS):MS:= { s with dn:=gu s.dn ((dW nu m s.si s.L.length).filter (most m (dW nu m s.si s.L.length))) }
def rise(m:Nat)(nu:Int)(s:MS):MS:=lead m { s with te:=dU nu m s.te,role:="stands",vo:= [(nu,s.o,s.L)] }
def kK(m:Nat)(nu t:Int):List bF:=(gF nu m).map λi:Nat=> .gH nu i t
def keeps(m:Nat)(nu:Int)(s:MS):List bF:=(gF nu m).map λi:Nat=> .keep nu i s.te s.L s.dn
def iw(m:Nat)(nu:Int)(r:D)(s:MS):MS×Option (List bF):=if s.role="leads" then(count m nu { s with L:=s.L++ [r] },some (keeps m nu (count m nu { s with L:=s.L++ [r] }))) else(s,none)
def sends(m:Nat)(nu:Int)(s:MS):List bF:=if s.role="leads" then keeps m nu s else []
def mR(s:MS):MS:= { s with role:="hears",dn:=0 }
def kept(s:MS)(t:Int)(R:List D):MS:=if s.o < t\/(s.L.length:Int) < R.length then { s with te:=t,role:="hears",L:=R,o:=t } else { s with te:=t,role:="hears" }
def bg(m:Nat)(nu:Int)(s:MS):bF->MS×List bF
 |.gH sn _ t=>if t<=s.te then(s, []) else({ s with te:=t,role:="hears" }, [.cB nu sn t s.o s.L])
 |.cB sn _ t o R=>if s.role="stands"/\t=s.te then(lead m { s with vo:=bV s.vo sn (o,R) }, []) else(s, [])
 |.keep sn _ t R dn=>if t < s.te then(s, []) else({ kept s t R with dn:=if(if((kept s t R).L.length:Int) < dn then((kept s t R).L.length:Int) else dn) > s.dn then(if((kept s t R).L.length:Int) < dn then((kept s t R).L.length:Int) else dn) else s.dn }, [.kept nu sn t (kept s t R).L.length])
 |.kept sn _ t z=>if s.role="leads"/\t=s.te then(count m nu { s with si:=bV s.si sn (if bP s.si sn > z then bP s.si sn else z) }, []) else(s, [])
def s0:MS:=⟨0,0, [],0,"hears", [], []⟩
structure Wf(b:Nat)(s:MS):Prop where
 rows:cx s.L
 len:s.L.length<=b
 role:s.role="hears"\/s.role="stands"\/s.role="leads"
 vn:(s.vo.map (·.1)).Nodup
 vl:s.vo.length<=50
 vr:∀p∈s.vo,cx p.2.2/\p.2.2.length<=b
 sn:(s.si.map (·.1)).Nodup
 sl:s.si.length<=50
theorem Cu(h:f (cz n br ds)=some (.nx ρ'))(ho:dg (ρ'.drop n)=some o):bE n br f ds=some (.sc .aJ,o):=by
 unfold bE;rw[h];show(dg (ρ'.drop n)).map _=_;rw[ho];rfl
theorem sF(role:Str)(h:i4 role=true):fj (!·) (.sc (.str role)) (.sc (.str "leads"))=some (.sc (.bl (decide (role≠"leads")))):=yv _ _ h (by decide +kernel)
theorem Zy(h:kY d):Ex 1 d:=by
 cases h with
 |a s k hs=>
  refine .tup 0 _ λd hd=> ?_;simp only[gK,wZ,or_false]at hd;rcases hd with rfl | rfl
  ·exact .str _ _ hs
  ·exact .int _ _
 |b s k t hs=>
  refine .tup 0 _ λd hd=> ?_;simp only[gK,wZ,or_false]at hd;rcases hd with rfl | rfl | rfl
  ·exact .str _ _ hs
  ·exact .int _ _
  ·exact .int _ _
 |c s k t hs ht=>
  refine .tup 0 _ λd hd=> ?_;simp only[gK,wZ,or_false]at hd;rcases hd with rfl | rfl | rfl
  ·exact .str _ _ hs
  ·exact .int _ _
  ·exact .str _ _ ht
theorem H9(h:cx L):Ex 2 (.nd .tup L):= .tup 1 _ λd hd=>Zy (h d hd)
theorem Cv{α:Type}(R:List α)(k:Nat):cutD R none (some (k:Int))=R.take k:=by
 unfold cutD;rw[HT.K5,HT.DT,JM,So];by_cases h:k<=R.length
 ·rw[aes h]
 ·rw[aet (by lia),JN,Sv (by lia)]
theorem Cw{α:Type}(R:List α)(k:Nat):cutD R (some (k:Int)) none=R.drop k:=by
 unfold cutD;rw[HT.K5,HT.DT];by_cases h:k<=R.length
 ·rw[aes h];exact Sv (by rw[wR];exact bK _)
 ·rw[aet (by lia),JJ,Sq (by lia)];simp
theorem OC(h:cx L)(s:∀d∈M,d∈L):cx M:=λd hd=>h d (s d hd)
theorem oB{α:Type}:∀(l:List (Int×α)) (i:Int) (x:α) (p:Int×α),p∈bV l i x->p∈l\/p=(i,x)
 | [],i,x,p,h=> .inr (cE.mp h)
 |q::l,i,x,p,h=>by
  unfold bV at h
  split at h
  ·rcases gK.mp h with h | h
   ·exact .inr h
   ·exact .inl (.tail _ h)
  ·rcases gK.mp h with h | h
   ·exact .inl (by rw[h];exact .head _)
   ·exact(oB l i x p h).imp (.tail _) id
theorem Zz{α:Type}:∀(l:List (Int×α)) (i:Int) (x:α) (k:Int),k∈(bV l i x).map (·.1)->k∈l.map (·.1)\/k=i:=λl i x k h=>by
 obtain⟨p,hp,rfl⟩:=iy.mp h;rcases oB l i x p hp with q | q
 ·exact .inl (aeu q)
 ·exact .inr (by rw[q])
theorem v5{α:Type}:∀(l:List (Int×α)) (i:Int) (x:α),(l.map (·.1)).Nodup->((bV l i x).map (·.1)).Nodup
 | [],i,x,_=>by simp[bV]
 |q::l,i,x,h=>by
  rw[dZ,nI]at h;unfold bV
  split
  ·next c=>
   rw[dZ,nI];exact⟨by rw[<- c];exact h.1,h.2⟩
  ·next c=>
   rw[dZ,nI];refine⟨λz=> ?_,v5 l i x h.2⟩;rcases Zz l i x q.1 z with y | y
   ·exact h.1 y
   ·exact c y
theorem Ia{α:Type}:∀(l:List (Int×α)) (i:Int) (x:α),(bV l i x).length<=l.length + 1
 | [],_,_=>by simp[bV]
 |q::l,i,x=>by
  have:=Ia l i x;unfold bV
  split
  ·simp
  ·simp;lia
end WM
namespace WM
open PySem L2 VL
theorem Wf.mono{b c:Nat}{s:MS}(w:Wf b s)(h:b<=c):Wf c s:=⟨w.rows,bW w.len h,w.role,w.vn,w.vl,λp hp=>⟨(w.vr p hp).1,bW (w.vr p hp).2 h⟩,w.sn,w.sl⟩
theorem OD:∀(m:Nat) (l:List Int),l.Nodup->(∀k∈l,0<=k/\k < m)->l.length<=m
 |0, [],_,_=>bK _
 |0,k::l,_,h=>by have:=h k (.head _);lia
 |m + 1,l,hn,h=>by
  have h1:=OD m (l.filter λk=>decide (k≠(m:Int))) (hn.filter _) λk hk=>by
   obtain⟨h1,h2⟩:=mW.mp hk;have h2:k≠(m:Int):=by simpa using h2
   have:=h k h1
   lia
  have h2:(l.filter λk=> !decide (k≠(m:Int))).length<=1:=by
   have qZ:=hn.filter (λk=> !decide (k≠(m:Int)));have ha:∀k∈l.filter (λk=> !decide (k≠(m:Int))),k=(m:Int):=λk hk=>by
    have:=(mW.mp hk).2;simpa using this
   generalize l.filter (λk=> !decide (k≠(m:Int)))=r at *
   match r,qZ,ha with
   | [],_,_=>simp
   | [_],_,_=>simp
   |a::c::r,qZ,ha=>
    exact absurd (by rw[ha a (.head _),ha c (.tail _ (.head _))];exact .head _) (nI.mp qZ).1
  have h3:(l.filter λk=>decide (k≠(m:Int))).length + (l.filter λk=> !decide (k≠(m:Int))).length=l.length:=by
   clear h1 h2 hn h
   induction l with
   |nil=>rfl
   |cons a l ih=>
    by_cases c:a=(m:Int)
    ·simp[c]at ih |-;lia
    ·simp[c]at ih |-;lia
  lia
structure Wg(m b:Nat)(s:MS):Prop where
 wf:Wf b s
 vk:∀p∈s.vo,0<=p.1/\p.1 < m
 sk:∀p∈s.si,0<=p.1/\p.1 < m
theorem Wg.mono{m b c:Nat}{s:MS}(w:Wg m b s)(h:b<=c):Wg m c s:=⟨w.wf.mono h,w.vk,w.sk⟩
def bF.sn:bF->Int
 |.gH i _ _=>i
 |.cB i _ _ _ _=>i
 |.keep i _ _ _ _=>i
 |.kept i _ _ _=>i
structure mq(m b:Nat)(g:bF):Prop where
 ok:g.ok b
 s0:0<=g.sn
 s1:g.sn < m
 t0:0<=g.to
 t1:g.to < m
theorem mq.mono{m b c:Nat}{g:bF}(w:mq m b g)(h:b<=c):mq m c g:=⟨by
 have:=w.ok;cases g with
 |gH=>trivial
 |cB=>exact⟨this.1,bW this.2 h⟩
 |keep=>exact⟨this.1,bW this.2 h⟩
 |kept=>trivial,w.s0,w.s1,w.t0,w.t1⟩
theorem RC{α:Type}{m:Nat}(hm:m<=50){l:List (Int×α)}(hn:(l.map (·.1)).Nodup)(hk:∀p∈l,0<=p.1/\p.1 < m):l.length<=50:=by
 have:=OD m (l.map (·.1)) hn λk h=>by
  obtain⟨p,hp,rfl⟩:=iy.mp h;exact hk p hp
 rw[dC]at this
 lia
theorem Ib:∀(r:List (Int×Int×List D)) (v:Int×List D),dX v r=v\/∃p∈r,dX v r=p.2
 | [],v=> .inl rfl
 |p::r,v=>by
  have e:dX v (p::r)=dX (lK v p.2) r:=rfl;rw[e];rcases Ib r (lK v p.2) with h | ⟨q,hq,h⟩
  ·rw[h];unfold lK
   split
   ·exact .inr ⟨p, .head _,rfl⟩
   ·exact .inl rfl
  ·exact .inr ⟨q, .tail _ hq,h⟩
theorem OE{m b:Nat}{s:MS}(w:Wg m b s):Wg m b (lead m s):=by
 unfold lead
 split
 ·split
  ·exact w
  ·next v r e=>
   have hb:cx (dX v.2 r).2/\(dX v.2 r).2.length<=b:=by
    rcases Ib r v.2 with h | ⟨p,hp,h⟩
    ·rw[h];exact w.wf.vr v (by rw[e];exact .head _)
    ·rw[h];exact w.wf.vr p (by rw[e];exact .tail _ hp)
   exact⟨⟨hb.1,hb.2, .inr (.inr rfl),w.wf.vn,w.wf.vl,w.wf.vr,se,jj _⟩,w.vk,λ_ h=>nomatch h⟩
 ·exact w
theorem OF{m b:Nat}{nu:Int}{s:MS}(w:Wg m b s):Wg m b (count m nu s):=⟨⟨w.wf.rows,w.wf.len,w.wf.role,w.wf.vn,w.wf.vl,w.wf.vr,w.wf.sn,w.wf.sl⟩,w.vk,w.sk⟩
theorem OG{m b:Nat}{nu:Int}{s:MS}(w:Wg m b s)(h0:0<=nu)(h1:nu < m):Wg m b (rise m nu s):=by
 refine OE ⟨⟨w.wf.rows,w.wf.len, .inr (.inl rfl),by simp,by simp,λp hp=> ?_,w.wf.sn,w.wf.sl⟩,λp hp=> ?_,w.sk⟩
 ·rw[cE.mp hp];exact⟨w.wf.rows,w.wf.len⟩
 ·rw[cE.mp hp];exact⟨h0,h1⟩
theorem OH{m b:Nat}{s:MS}(w:Wg m b s):Wg m b (mR s):=⟨⟨w.wf.rows,w.wf.len, .inl rfl,w.wf.vn,w.wf.vl,w.wf.vr,w.wf.sn,w.wf.sl⟩,w.vk,w.sk⟩
theorem Ic{m b:Nat}{nu:Int}{r:D}{s:MS}(w:Wg m b s)(hr:kY r):Wg m (b + 1) (iw m nu r s).1:=by
 unfold iw
 split
 ·refine OF ⟨⟨w.wf.rows.app (cx.one hr),by simp;exact w.wf.len,w.wf.role,w.wf.vn,w.wf.vl,(w.wf.mono (j0 b)).vr,w.wf.sn,w.wf.sl⟩,w.vk,w.sk⟩
 ·exact w.mono (j0 b)
theorem ZA{m b:Nat}{s:MS}{t:Int}{R:List D}(w:Wg m b s)(hR:cx R)(hz:R.length<=b):Wg m b (kept s t R):=by
 unfold kept
 split
 ·exact⟨⟨hR,hz, .inl rfl,w.wf.vn,w.wf.vl,w.wf.vr,w.wf.sn,w.wf.sl⟩,w.vk,w.sk⟩
 ·exact⟨⟨w.wf.rows,w.wf.len, .inl rfl,w.wf.vn,w.wf.vl,w.wf.vr,w.wf.sn,w.wf.sl⟩,w.vk,w.sk⟩
theorem OI{m b:Nat}{nu:Int}{s:MS}{g:bF}(w:Wg m b s)(hg:mq m b g)(hm:m<=50):Wg m b (bg m nu s g).1:=by
 cases g with
 |gH sn i t=>
  unfold bg;dsimp only
  split
  ·exact w
  ·exact⟨⟨w.wf.rows,w.wf.len, .inl rfl,w.wf.vn,w.wf.vl,w.wf.vr,w.wf.sn,w.wf.sl⟩,w.vk,w.sk⟩
 |cB sn i t o R=>
  unfold bg;dsimp only
  split
  ·have hn:=v5 s.vo sn (o,R) w.wf.vn;have hk:∀p∈bV s.vo sn (o,R),0<=p.1/\p.1 < m:=λp hp=>by
    rcases oB s.vo sn (o,R) p hp with h | h
    ·exact w.vk p h
    ·rw[h];exact⟨hg.s0,hg.s1⟩
   refine OE ⟨⟨w.wf.rows,w.wf.len,w.wf.role,hn,RC hm hn hk,λp hp=> ?_,w.wf.sn,w.wf.sl⟩,hk,w.sk⟩;rcases oB s.vo sn (o,R) p hp with h | h
   ·exact w.wf.vr p h
   ·rw[h];exact hg.ok
  ·exact w
 |keep sn i t R dn=>
  unfold bg;dsimp only
  split
  ·exact w
  ·have k:=ZA (t:=t) w hg.ok.1 hg.ok.2;exact⟨⟨k.wf.rows,k.wf.len,k.wf.role,k.wf.vn,k.wf.vl,k.wf.vr,k.wf.sn,k.wf.sl⟩,k.vk,k.sk⟩
 |kept sn i t z=>
  unfold bg;dsimp only
  split
  ·have hn:=v5 s.si sn (if bP s.si sn > z then bP s.si sn else z) w.wf.sn;have hk:∀p∈bV s.si sn (if bP s.si sn > z then bP s.si sn else z),0<=p.1/\p.1 < m:=λp hp=>by
    rcases oB s.si sn _ p hp with h | h
    ·exact w.sk p h
    ·rw[h];exact⟨hg.s0,hg.s1⟩
   exact OF ⟨⟨w.wf.rows,w.wf.len,w.wf.role,w.wf.vn,w.wf.vl,w.wf.vr,hn,RC hm hn hk⟩,w.vk,hk⟩
  ·exact w
theorem OJ{nu:Int}{m i:Nat}(h:i∈gF nu m):i < m:=by
 unfold gF at h;exact zG.mp (mW.mp h).1
theorem OK{m b:Nat}{nu t:Int}(h0:0<=nu)(h1:nu < m):∀g∈kK m nu t,mq m b g:=λg hg=>by
 obtain⟨i,hi,rfl⟩:=iy.mp hg;have:=OJ hi;exact⟨trivial,h0,h1,JT _,by show((i:Int) < m);lia⟩
theorem Ie{m b:Nat}{nu:Int}{s:MS}(w:Wg m b s)(h0:0<=nu)(h1:nu < m):∀g∈keeps m nu s,mq m b g:=λg hg=>by
 obtain⟨i,hi,rfl⟩:=iy.mp hg;have:=OJ hi;exact⟨⟨w.wf.rows,w.wf.len⟩,h0,h1,JT _,by show((i:Int) < m);lia⟩
theorem OL{m b:Nat}{nu:Int}{s:MS}(w:Wg m b s)(h0:0<=nu)(h1:nu < m):∀g∈sends m nu s,mq m b g:=λg hg=>by
 unfold sends at hg
 split at hg
 ·exact Ie w h0 h1 g hg
 ·exact nomatch hg
theorem OM{m b:Nat}{nu:Int}{s:MS}{g:bF}(w:Wg m b s)(hg:mq m b g)(h0:0<=nu)(h1:nu < m):∀a∈(bg m nu s g).2,mq m b a:=λa ha=>by
 cases g with
 |gH sn i t=>
  unfold bg at ha;dsimp only at ha
  split at ha
  ·exact nomatch ha
  ·rw[cE.mp ha];exact⟨⟨w.wf.rows,w.wf.len⟩,h0,h1,hg.s0,hg.s1⟩
 |cB sn i t o R=>
  unfold bg at ha;dsimp only at ha
  split at ha <;> exact nomatch ha
 |keep sn i t R dn=>
  unfold bg at ha;dsimp only at ha
  split at ha
  ·exact nomatch ha
  ·rw[cE.mp ha];exact⟨trivial,h0,h1,hg.s0,hg.s1⟩
 |kept sn i t z=>
  unfold bg at ha;dsimp only at ha
  split at ha <;> exact nomatch ha
theorem ZC{m:Nat}{nu:Int}{s:MS}{g:bF}:(bg m nu s g).2.length<=1:=by
 cases g <;> (unfold bg;dsimp only;split <;> simp)
structure gW where
 i:Nat
 deed:Str
 what:D
 told:Option (List bF)
 st:MS
def d6:Option (List bF)->D
 |some l=> .nd .eL (l.map ay)
 |none=> .sc .aJ
def jV(s:MS):D:= .nd .tup [iD s.te,iD s.o, .nd .tup s.L,iD s.dn,sD s.role]
def cU(e:gW):D:= .nd .tup [iD e.i,sD e.deed,e.what,d6 e.told,jV e.st]
structure aN where
 ms:List MS
 way:List bF
 aC:List gW
 rows:Int
def bX:List aY:= [.inr "masters", .inr "way", .inr "story", .inr "rows"]
def cC(C:Addr)(m:Nat)(ms:List MS):List D:=ms.mapIdx λi s=>b6 C m i s
def wD(C:Addr)(m:Nat)(w:aN):D:= .nd (.aB bX) [.nd .lst (cC C m w.ms), .nd .lst (w.way.map ay), .nd .lst (w.aC.map cU),iD w.rows]
def lL{α:Type}(l:List α):List α:=l.drop (l.length - 60)
def aN.note(w:aN)(i:Nat)(deed:Str)(what:D)(told:Option (List bF))(s:MS):aN:= { w with ms:=w.ms.set i s,aC:=w.aC++ [⟨i,deed,what,told,s⟩],way:=(match told with | some l=>lL (w.way++l) | none=>w.way) }
theorem ZD{α:Type}(l:List α):(lL l).length<=60:=by unfold lL;rw[wR];lia
theorem Cy{α:Type}{l:List α}{x:α}(h:x∈lL l):x∈l:=JK h
theorem ZE{α:Type}(l:List α):cutD l (some (-60)) none=lL l:=by
 unfold cutD lL;rw[HT.DT];have e:HT.bO l.length 0 (some (-60))=l.length - 60:=by
  show(if(-60:Int) < 0 then((-60:Int) + (l.length:Int)).toNat else min (-60:Int).toNat l.length)=_;rw[if_pos (by decide)]
  lia
 rw[e];exact Sv (by rw[wR];exact bK _)
structure Ww(m:Nat)(w:aN):Prop where
 n:w.ms.length=m
 ms:∀s∈w.ms,Wg m w.aC.length s
 way:∀g∈w.way,mq m w.aC.length g
 lU:w.way.length<=60
 st:∀e∈w.aC,VL.plain e.what=true/\(∀l,e.told=some l->∀g∈l,g.ok w.aC.length)/\cx e.st.L
theorem Ww.note{m:Nat}{w:aN}(h:Ww m w){i:Nat}{deed:Str}{what:D}{told:Option (List bF)}{s:MS}(hs:Wg m (w.aC.length + 1) s)(hp:VL.plain what=true)(ht:∀l,told=some l->∀g∈l,mq m (w.aC.length + 1) g):Ww m (w.note i deed what told s):=by
 have hl:(w.note i deed what told s).aC.length=w.aC.length + 1:=by simp[aN.note]
 refine⟨by simp[aN.note,h.n], ?_, ?_, ?_, ?_⟩
 ·rw[hl];intro x hx;rcases List.mem_or_eq_of_mem_set hx with h1 | h1
  ·exact(h.ms x h1).mono (j0 _)
  ·rw[h1];exact hs
 ·rw[hl];intro g hg;cases told with
  |none=>exact(h.way g hg).mono (j0 _)
  |some l=>
   rcases iG.mp (Cy hg) with h1 | h1
   ·exact(h.way g h1).mono (j0 _)
   ·exact ht l rfl g h1
 ·cases told with
  |none=>exact h.lU
  |some l=>exact ZD _
 ·rw[hl];intro e he;rcases iG.mp he with h1 | h1
  ·obtain⟨a,b,c⟩:=h.st e h1;refine⟨a,λl hl g hg=> ?_,c⟩;have:=b l hl g hg;cases g with
   |gH=>trivial
   |cB=>exact⟨this.1,aev this.2⟩
   |keep=>exact⟨this.1,aev this.2⟩
   |kept=>trivial
  ·rw[cE.mp h1];exact⟨hp,λl hl g hg=>(ht l hl g hg).ok,hs.wf.rows⟩
end WM
namespace WM
open PySem L2 VL
theorem Cz(h:g.ok b):VL.plain (ay g)=true:=by
 cases g with
 |gH=>simp[ay,VL.plain,VL.bf]
 |cB sn i t o R=>have:=h.1.plain;simp[ay,VL.plain,VL.bf,this]
 |keep sn i t R dn=>have:=h.1.plain;simp[ay,VL.plain,VL.bf,this]
 |kept=>simp[ay,VL.plain,VL.bf]
theorem pP{l:List bF}(h:∀g∈l,g.ok b):VL.bf (l.map ay)=true:=sZ λd hd=>by
 obtain⟨g,hg,rfl⟩:=iy.mp hd;exact Cz (h g hg)
theorem v7(h:∀l,t=some l->∀g∈l,g.ok b):VL.plain (d6 t)=true:=by
 cases t with
 |none=>rfl
 |some l=>have:=pP (h l rfl);simp[d6,VL.plain,this]
def aN.v8(w:aN)(i:Nat)(deed:Str)(what:D)(told:Option (List bF))(s:MS):aN:= { w with aC:=w.aC++ [⟨i,deed,what,told,s⟩],way:=(match told with | some l=>lL (w.way++l) | none=>w.way) }
def aN.cut(w:aN)(k:Nat):aN:= { w with way:=w.way.eraseIdx k }
def aN.told(w:aN)(fW:Bool)(k:Nat)(g:bF)(i m:Nat)(s:MS):aN:=(if fW=true then w else w.cut k).note i "hear" (ay g) (some (bg m i s g).2) (bg m i s g).1
theorem ZF(way:List bF)(k:Nat):way.take k++way.drop (k + 1)=way.eraseIdx k:=(List.eraseIdx_eq_take_drop_succ way k).symm
theorem Ww.told(h:Ww m w)(hm:m < 40)(hk:w.way[k]?=some g)(hs:w.ms[i]?=some s):Ww m (aN.told w fW k g i m s):=by
 have v9:g∈w.way:=gk hk;have Ig:s∈w.ms:=gk hs;have mg:=h.way g v9;have ws:=h.ms s Ig;have t6:i < m:=by rw[<- h.n];exact(bB.mp hs).1
 have wh:=OI (nu:=i) ws mg (by lia);have mh:=OM (nu:=i) ws mg (by lia) (by lia);have ig:Ww m (if fW=true then w else w.cut k):=by
  split
  ·exact h
  ·exact⟨h.n,h.ms,λx hx=>h.way x (w9 hx),bW (List.length_eraseIdx_le ..) h.lU,h.st⟩
 have e:(if fW=true then w else w.cut k).aC.length=w.aC.length:=by split <;> rfl
 exact ig.note (by rw[e];exact wh.mono (j0 _)) (Cz mg.ok) λl hl x hx=>by cases hl;rw[e];exact(mh x hx).mono (j0 _)
theorem ON(w:aN)(fW:Bool)(k:Nat)(g:bF)(i m:Nat)(s:MS):(aN.told w fW k g i m s).aC.length=w.aC.length + 1:=by
 unfold aN.told aN.note
 split <;> simp[aN.cut]
end WM
namespace WM
open PySem L2 VL
inductive Step(m:Nat):aN->aN->Prop
 |bg (w:aN) (fW:Bool) (k:Nat) (g:bF) (i:Nat) (s:MS):w.way[k]?=some g->g.to=i->w.ms[i]?=some s->Step m w (w.told fW k g i m s)
 |rise (w:aN) (i:Nat) (s:MS):w.ms[i]?=some s->Step m w (w.note i "rise" (.sc .aJ) (some (kK m i (rise m i s).te)) (rise m i s))
 |add (w:aN) (i:Nat) (s:MS) (r:D):w.ms[i]?=some s->kY r->Step m w (w.note i "add" r (iw m i r s).2 (iw m i r s).1)
 |wc (w:aN) (i:Nat) (s:MS):w.ms[i]?=some s->Step m w (w.note i "fall" (.sc .aJ) (some []) (mR s))
 |send (w:aN) (i:Nat) (s:MS):w.ms[i]?=some s->Step m w (w.note i "send" (.sc .aJ) (some (sends m i s)) s)
 |drop (w:aN) (way:List bF):(∀g∈way,g∈w.way)->way.length<=w.way.length->Step m w { w with way:=way }
 |rows (w:aN) (x:Int):Step m w { w with rows:=x }
inductive iN(m:Nat):aN->aN->Prop
 |refl (w:aN):iN m w w
 |cons {w w1 w2:aN}:Step m w w1->iN m w1 w2->iN m w w2
theorem iN.one(h:Step m w w'):iN m w w':= .cons h (.refl _)
theorem iN.trans(a:iN m w w1)(b:iN m w1 w2):iN m w w2:=by
 induction a with
 |refl=>exact b
 |cons h _ ih=>exact .cons h (ih b)
theorem Step.ww(hm:m < 40)(st:Step m w w')(h:Ww m w):Ww m w':=by
 have iZ:∀{i:Nat} {s:MS},w.ms[i]?=some s->Wg m w.aC.length s/\i < m:=λ{i s} hs=>⟨h.ms s (gk hs),by rw[<- h.n];exact(bB.mp hs).1⟩
 cases st with
 |bg fW k g i s hk _ hs=>exact h.told hm hk hs
 |rise i s hs=>
  obtain⟨ws,hi⟩:=iZ hs;exact h.note ((OG ws (by lia) (by lia)).mono (j0 _)) rfl λl hl g hg=>by cases hl;exact OK (by lia) (by lia) g hg
 |add i s r hs hr=>
  obtain⟨ws,hi⟩:=iZ hs;have wa:=Ic (nu:=i) ws hr;refine h.note wa hr.plain λl hl g hg=> ?_;unfold iw at hl wa
  split at hl
  ·next c=>
   rw[if_pos c]at wa;cases hl;exact Ie wa (by lia) (by lia) g hg
  ·cases hl
 |wc i s hs=>
  obtain⟨ws,hi⟩:=iZ hs;exact h.note ((OH ws).mono (j0 _)) rfl λl hl g hg=>by cases hl;exact nomatch hg
 |send i s hs=>
  obtain⟨ws,hi⟩:=iZ hs;exact h.note (ws.mono (j0 _)) rfl λl hl g hg=>by cases hl;exact(OL ws (by lia) (by lia) g hg).mono (j0 _)
 |drop way hd hl=>exact⟨h.n,h.ms,λg hg=>h.way g (hd g hg),bW hl h.lU,h.st⟩
 |rows x=>exact⟨h.n,h.ms,h.way,h.lU,h.st⟩
theorem t9(w:aN)(i:Nat)(deed:Str)(what:D)(told:Option (List bF))(s:MS):(w.note i deed what told s).aC.length=w.aC.length + 1:=by simp[aN.note]
end WM
namespace VL
theorem OO(h:fa Z=some (false,ρ1)):VL.andM fa fb Z=some (false,ρ1):=by
 unfold VL.andM;rw[h];rfl
theorem Ih(h:fa Z=some (true,ρ1))(h2:fb ρ1=r):VL.andM fa fb Z=r:=by
 unfold VL.andM;rw[h];exact h2
theorem OP(h:fa Z=some (true,ρ1)):VL.orM fa fb Z=some (true,ρ1):=by
 unfold VL.orM;rw[h];rfl
theorem Ii(h:fa Z=some (false,ρ1))(h2:fb ρ1=r):VL.orM fa fb Z=r:=by
 unfold VL.orM;rw[h];exact h2
end VL
namespace VL
theorem CA{R:D->List D->Prop}(h:Ev f (cz n br ds) λfl=>match fl with | .rt d ρ'=>∃o,dg (ρ'.drop n)=some o/\R d o | .nx ρ'=>∃o,dg (ρ'.drop n)=some o/\R (.sc .aJ) o | _=>False):∃d o,bE n br f ds=some (d,o)/\R d o:=by
 obtain⟨fl,e,q⟩:=h;unfold bE;rw[e];cases fl with
 |rt d ρ'=>obtain⟨o,h1,h2⟩:=q;exact⟨d,o,by show(dg (ρ'.drop n)).map _=_;rw[h1];rfl,h2⟩
 |nx ρ'=>obtain⟨o,h1,h2⟩:=q;exact⟨.sc .aJ,o,by show(dg (ρ'.drop n)).map _=_;rw[h1];rfl,h2⟩
 |bk _=>exact q.elim
 |ct _=>exact q.elim
end VL
namespace VL
theorem Ev.oC(h:fc Z=some (false,ρ1))(hb:Ev b ρ1 Q):Ev (dm fc a b) Z Q:=by
 obtain⟨fl,e,q⟩:=hb;refine⟨fl, ?_,q⟩;unfold dm;rw[h];exact e
end VL
namespace WM
open PySem L2 VL
end WM
namespace WM
open PySem L2 VL
theorem zh:∀{S:List (Int×Int)} {i z:Int},1<=z->z<=bP S i->∃p∈S,p.1=i/\p.2=bP S i
 | [],i,z,h1,h2=>by rw[bP]at h2;lia
 |q::S,i,z,h1,h2=>by
  rw[bP]at h2 |-;by_cases c:q.1=i
  ·rw[if_pos c];exact⟨q, .head _,c,rfl⟩
  ·rw[if_neg c]at h2 |-;obtain⟨p,hp,e⟩:=zh h1 h2;exact⟨p, .tail _ hp,e⟩
theorem OQ:∀(l:List Int) (n:Int),n<=gu n l/\∀x∈l,x<=gu n l
 | [],n=>⟨fO _,λ_ h=>nomatch h⟩
 |a::l,n=>by
  have ih:=OQ l (if a > n then a else n);have e:gu n (a::l)=gu (if a > n then a else n) l:=rfl;rw[e];have h1:n<=(if a > n then a else n):=by split <;> lia
  have h2:a<=(if a > n then a else n):=by split <;> lia
  refine⟨Ag h1 ih.1,λx hx=> ?_⟩;rcases gK.mp hx with rfl | hx
  ·exact Ag h2 ih.1
  ·exact ih.2 x hx
theorem Ij:∀(l:List Int) (n:Int),gu n l=n\/gu n l∈l
 | [],n=> .inl rfl
 |a::l,n=>by
  have e:gu n (a::l)=gu (if a > n then a else n) l:=rfl;rw[e];rcases Ij l (if a > n then a else n) with h | h
  ·rw[h];by_cases c:a > n
   ·rw[if_pos c];exact .inr (.head _)
   ·rw[if_neg c];exact .inl rfl
  ·exact .inr (.tail _ h)
end WM
namespace WM
open PySem L2 VL
def j9(m:Nat)(ms:List MS)(t:Int)(n:Int):Prop:=∀s,ms[(t % m).toNat]?=some s->t<=s.te/\(s.role="stands"->t < s.te)/\(s.role="leads"->t=s.te->n<=s.L.length)
structure ij(s s':MS):Prop where
 te:s.te<=s'.te
 st:s'.role="stands"->s.te < s'.te\/(s.role="stands"/\s.te=s'.te)
 le:s'.role="leads"->s.te < s'.te\/(s.te=s'.te/\(s.role="stands"\/(s.role="leads"/\s.L.length<=s'.L.length)))
theorem ij.refl(s:MS):ij s s:=⟨fO _,λh=> .inr ⟨h,rfl⟩,λh=> .inr ⟨rfl, .inr ⟨h,bK _⟩⟩⟩
theorem j9.grow(h:j9 m ms t n)(hs:ms[i]?=some s)(g:ij s s'):j9 m (ms.set i s') t n:=λx hx=>by
 by_cases c:i=(t % m).toNat
 ·subst c;rw[dr (bB.mp hs).1]at hx;cases hx;obtain⟨h1,h2,h3⟩:=h s hs;have gt:=g.te;refine⟨by lia,λq=> ?_,λq e=> ?_⟩
  ·rcases g.st q with a | ⟨a,b⟩
   ·lia
   ·have:=h2 a;lia
  ·rcases g.le q with a | ⟨a,b | ⟨b,d⟩⟩
   ·lia
   ·have:=h2 b;lia
   ·have:=h3 b (by lia);lia
 ·rw[fq c]at hx;exact h x hx
theorem j9.self{m:Nat}{ms:List MS}{i:Nat}{s s':MS}(hs:ms[i]?=some s)(hm:s'.te % m=i)(hr:s'.role="leads"):j9 m (ms.set i s') s'.te s'.L.length:=λx hx=>by
 rw[hm,Aa,dr (bB.mp hs).1]at hx;cases hx;refine⟨fO _,λq=> ?_,λ_ _=>fO _⟩;rw[hr]at q;exact absurd q (by decide +kernel)
theorem zi(m:Nat)(s:MS):(lead m s=s)\/((lead m s).role="leads"/\(lead m s).o=s.te/\(lead m s).si= []/\(lead m s).te=s.te/\(lead m s).vo=s.vo/\(lead m s).dn=s.dn):=by
 unfold lead
 split
 ·split
  ·exact .inl rfl
  ·exact .inr ⟨rfl,rfl,rfl,rfl,rfl,rfl⟩
 ·exact .inl rfl
theorem Ik(nu:Int)(m:Nat)(te:Int)(hm:0 < m):te < dU nu m te:=by
 unfold dU;have:=Ah (nu - (te + 1)) (show(m:Int)≠0 by lia)
 lia
theorem Il(nu:Nat)(m:Nat)(te:Int)(hm:nu < m):dU nu m te % m=nu:=by
 unfold dU;rw[Int.add_emod,Int.emod_emod_of_dvd _ (Int.dvd_refl _), <- Int.add_emod,show te + 1 + ((nu:Int) - (te + 1))=nu by lia];exact Int.emod_eq_of_lt (by lia) (by lia)
theorem ZG{s:MS}(h:s.role="stands")(vo:List (Int×Int×List D)):ij s (lead m { s with vo:=vo }):=by
 rcases zi m { s with vo:=vo } with e | ⟨e1,e2,e3,e4,e5,e6⟩
 ·rw[e];exact⟨fO _,λq=> .inr ⟨h,rfl⟩,λq=> .inr ⟨rfl, .inl h⟩⟩
 ·have e4:(lead m { s with vo:=vo }).te=s.te:=e4;exact⟨by lia,λq=> .inr ⟨h,e4.symm⟩,λq=> .inr ⟨e4.symm, .inl h⟩⟩
end WM
namespace WM
open PySem L2 VL
structure Jm(m b:Nat)(ms:List MS)(i:Nat)(s:MS):Prop where
 te:0<=s.te
 o:0<=s.o
 ot:s.o<=s.te
 own:s.role≠"hears"->s.te % m=i/\1<=s.te
 lo:s.role="leads"->s.o=s.te
 led:1<=s.o->j9 m ms s.o s.L.length
 dn:0<=s.dn
 db:s.dn<=b
 vo:∀p∈s.vo,0<=p.2.1
 sk:∀p∈s.si,p.1≠i
 sz:s.role="leads"->∀p∈s.si,p.2<=s.L.length
def Jg(m:Nat)(ms:List MS):bF->Prop
 |.gH sn i _=>sn≠i
 |.cB sn i _ o _=>sn≠i/\0<=o
 |.keep sn i t R dn=>sn≠i/\1<=t/\t % m=sn/\j9 m ms t R.length
 |.kept sn i t z=>sn≠i/\1<=t/\t % m=i/\j9 m ms t z
theorem Jm.grow(h:Jm m b ms j x)(hs:ms[i]?=some s)(g:ij s s')(hb:b<=c):Jm m c (ms.set i s') j x:=⟨h.te,h.o,h.ot,h.own,h.lo,λq=>(h.led q).grow hs g,h.dn,Ag h.db (by lia),h.vo,h.sk,h.sz⟩
theorem Jg.grow(h:Jg m ms x)(hs:ms[i]?=some s)(g:ij s s'):Jg m (ms.set i s') x:=by
 cases x with
 |gH=>exact h
 |cB=>exact h
 |keep=>exact⟨h.1,h.2.1,h.2.2.1,h.2.2.2.grow hs g⟩
 |kept=>exact⟨h.1,h.2.1,h.2.2.1,h.2.2.2.grow hs g⟩
theorem OR(h:Jm m b ms i s)(hs:ms[i]?=some s):ij s (mR s)/\Jm m b (ms.set i (mR s)) i (mR s):=by
 have nh:∀{r:Str},r≠"hears"->(mR s).role≠r:=λ{r} q z=>q z.symm;have g:ij s (mR s):=⟨fO _,λq=>absurd q (nh (by decide +kernel)),λq=>absurd q (nh (by decide +kernel))⟩
 exact⟨g,h.te,h.o,h.ot,λq=>absurd rfl q,λq=>absurd q (nh (by decide +kernel)),λq=>(h.led q).grow hs g,fO _,by show(0:Int)<=b;lia,h.vo,h.sk,λq=>absurd q (nh (by decide +kernel))⟩
theorem OS{m b:Nat}{ms:List MS}{i:Nat}{s0 s:MS}(hs:ms[i]?=some s0)(hr:s.role="stands")(g0:ij s0 s)(te:0<=s.te)(o:0<=s.o)(ot:s.o<=s.te)(own:s.te % m=i/\1<=s.te)(led:1<=s.o->j9 m ms s.o s.L.length)(dn:0<=s.dn)(db:s.dn<=b)(vo:∀p∈s.vo,0<=p.2.1)(sk:∀p∈s.si,p.1≠i)(g:ij s0 (lead m s)):Jm m b (ms.set i (lead m s)) i (lead m s):=by
 have ne:("stands":Str)≠"leads":=by decide +kernel
 rcases zi m s with e | ⟨e1,e2,e3,e4,e5,e6⟩
 ·rw[e]at g |-;exact⟨te,o,ot,λ_=>own,λq=>absurd (hr.symm.trans q) ne,λq=>(led q).grow hs g,dn,db,vo,sk,λq=>absurd (hr.symm.trans q) ne⟩
 ·refine⟨by rw[e4];exact te,by rw[e2];exact te,by rw[e2,e4];exact fO _,λ_=>by rw[e4];exact own,λ_=>by rw[e2,e4],λq=> ?_,by rw[e6];exact dn,by rw[e6];exact db,by rw[e5];exact vo,by rw[e3];exact(λ_ h=>by cases h),λ_=>by rw[e3];exact(λ_ h=>by cases h)⟩;rw[e2, <- e4];exact j9.self hs (by rw[e4];exact own.1) e1
end WM
namespace WM
open PySem L2 VL
theorem OT(h:Jm m b ms i s)(hs:ms[i]?=some s)(hi:i < m):ij s (rise m i s)/\Jm m b (ms.set i (rise m i s)) i (rise m i s):=by
 have lt:=Ik i m s.te (by lia);have CB:=h.te;have et:(rise m i s).te=dU i m s.te:=by
  unfold rise;rcases zi m { s with te:=dU i m s.te,role:="stands",vo:= [((i:Int),s.o,s.L)] } with e | ⟨_,_,_,e,_⟩
  ·rw[e]
  ·exact e
 have g1:ij s { s with te:=dU i m s.te,role:="stands",vo:= [((i:Int),s.o,s.L)] }:=⟨Sg lt,λ_=> .inl lt,λ_=> .inl lt⟩
 have g:ij s (rise m i s):=⟨by rw[et];exact Sg lt,λ_=> .inl (by rw[et];exact lt),λ_=> .inl (by rw[et];exact lt)⟩
 refine⟨g,OS hs rfl g1 (by show 0<=dU i m s.te;lia) h.o (by show s.o<=dU i m s.te;have:=h.ot;lia) ⟨Il i m s.te hi,by show 1<=dU i m s.te;lia⟩ h.led h.dn h.db (λp hp=> ?_) h.sk g⟩;have hp:p∈ [((i:Int),s.o,s.L)]:=hp;rw[cE.mp hp];exact h.o
theorem OU(nu:Int)(m:Nat)(s:MS)(hz:∀p∈s.si,p.2<=s.L.length):s.dn<=(count m nu s).dn/\((count m nu s).dn=s.dn\/(count m nu s).dn<=s.L.length):=by
 show s.dn<=gu s.dn ((dW nu m s.si s.L.length).filter (most m (dW nu m s.si s.L.length)))/\(gu s.dn ((dW nu m s.si s.L.length).filter (most m (dW nu m s.si s.L.length)))=s.dn\/gu s.dn ((dW nu m s.si s.L.length).filter (most m (dW nu m s.si s.L.length)))<=s.L.length);refine⟨(OQ _ _).1, ?_⟩;rcases Ij ((dW nu m s.si s.L.length).filter (most m (dW nu m s.si s.L.length))) s.dn with e | e
 ·exact .inl e
 ·right;have hx:=(mW.mp e).1;generalize gu s.dn ((dW nu m s.si s.L.length).filter (most m (dW nu m s.si s.L.length)))=x at *;unfold dW at hx;rcases iG.mp hx with hx | hx
  ·obtain⟨i,_,rfl⟩:=iy.mp hx;by_cases c:1<=bP s.si i
   ·obtain⟨p,hp,_,e⟩:=zh (fO 1) c;rw[<- e];exact hz p hp
   ·lia
  ·have:=cE.mp hx;lia
theorem OV{m b:Nat}{ms:List MS}{i:Nat}{s0 s:MS}(hs:ms[i]?=some s0)(hr:s.role="leads")(g:ij s0 (count m i s))(te:0<=s.te)(own:s.te % m=i/\1<=s.te)(lo:s.o=s.te)(dn:0<=s.dn)(db:s.dn<=b)(lb:s.L.length<=b)(vo:∀p∈s.vo,0<=p.2.1)(sk:∀p∈s.si,p.1≠i)(sz:∀p∈s.si,p.2<=s.L.length):Jm m b (ms.set i (count m i s)) i (count m i s):=by
 obtain⟨d1,d2⟩:=OU i m s sz;refine⟨te,by show 0<=s.o;lia,by show s.o<=s.te;lia,λ_=>own,λ_=>lo,λq=> ?_,by lia, ?_,vo,sk,λ_=>sz⟩
 ·have e:=j9.self (m:=m) (s':=count m i s) hs own.1 hr;show j9 m (ms.set i (count m i s)) s.o s.L.length;rw[lo];exact e
 ·rcases d2 with d2 | d2 <;> lia
theorem OW{m b:Nat}{ms:List MS}{i:Nat}{s:MS}(r:D)(h:Jm m b ms i s)(hs:ms[i]?=some s)(lb:s.L.length<=b):ij s (iw m i r s).1/\Jm m (b + 1) (ms.set i (iw m i r s).1) i (iw m i r s).1:=by
 unfold iw;by_cases c:s.role="leads"
 ·rw[if_pos c];have g:ij s (count m i { s with L:=s.L++ [r] }):=⟨fO _,λq=>by
   have q:s.role="stands":=q;exact .inr ⟨q,rfl⟩,λq=> .inr ⟨rfl, .inr ⟨c,by show s.L.length<=(s.L++ [r]).length;simp⟩⟩⟩
  refine⟨g,OV hs c g h.te (h.own (by rw[c];decide +kernel)) (h.lo c) h.dn (Ag h.db (by lia)) (by show(s.L++ [r]).length<=b + 1;simp;lia) h.vo h.sk λp hp=> ?_⟩;have:=h.sz c p hp;show p.2<=((s.L++ [r]).length:Int);rw[bQ]
  lia
 ·rw[if_neg c];exact⟨.refl s,h.grow hs (.refl s) (j0 _)⟩
end WM
namespace WM
open PySem L2 VL
theorem CD:¬ (af "hears"=af "leads"):=by decide +kernel
theorem CF(h:Jm m b ms i s)(hs:ms[i]?=some s):ij s s/\Jm m b (ms.set i s) i s/\∀x∈([]:List bF),Jg m (ms.set i s) x:=⟨.refl s,h.grow hs (.refl s) (bK _),λ_ h=>by cases h⟩
theorem OX{s s':MS}(hr:s'.role="hears")(ht:s.te<=s'.te):ij s s':=⟨ht,λq=>absurd (hr.symm.trans q) (by decide +kernel),λq=>absurd (hr.symm.trans q) (by decide +kernel)⟩
theorem OY{ms:List MS}{s:MS}{g:bF}(h:Jm m b ms i s)(hs:ms[i]?=some s)(hg:Jg m ms g)(iW:g.to=i)(lb:s.L.length<=b)(gl:g.ok b):ij s (bg m i s g).1/\Jm m b (ms.set i (bg m i s g).1) i (bg m i s g).1/\∀x∈(bg m i s g).2,Jg m (ms.set i (bg m i s g).1) x:=by
 have CB:=h.te;have ag6:=h.ot;cases g with
 |gH sn to t=>
  have iW:to=i:=iW;subst iW;unfold bg;dsimp only;by_cases c:t<=s.te
  ·rw[if_pos c];exact CF h hs
  ·rw[if_neg c];have g:ij s { s with te:=t,role:="hears" }:=OX rfl (by show s.te<=t;lia);refine⟨g,⟨by show 0<=t;lia,h.o,by show s.o<=t;lia,λq=>absurd rfl q,λq=>absurd q CD,λq=>(h.led q).grow hs g,h.dn,h.db,h.vo,h.sk,λq=>absurd q CD⟩,λx hx=> ?_⟩;rw[cE.mp hx];exact⟨λz=>hg z.symm,h.o⟩
 |cB sn to t o R=>
  have iW:to=i:=iW;subst iW;unfold bg;dsimp only;by_cases c:s.role="stands"/\t=s.te
  ·rw[if_pos c];have g:=ZG (m:=m) c.1 (bV s.vo sn (o,R));refine⟨g,OS hs c.1 ⟨fO _,λ_=> .inr ⟨c.1,rfl⟩,λ_=> .inr ⟨rfl, .inl c.1⟩⟩ h.te h.o h.ot (h.own (by rw[c.1];decide +kernel)) h.led h.dn h.db (λp hp=> ?_) h.sk g,λx hx=>by cases hx⟩;rcases oB s.vo sn (o,R) p hp with q | q
   ·exact h.vo p q
   ·rw[q];exact hg.2
  ·rw[if_neg c];exact CF h hs
 |keep sn to t R dn=>
  have iW:to=i:=iW;subst iW;obtain⟨g1,g2,g3,g4⟩:=hg;unfold bg;dsimp only;by_cases c:t < s.te
  ·rw[if_pos c];exact CF h hs
  ·rw[if_neg c];have key:∀(L':List D) (o' jM:Int),L'.length<=b->0<=o'->o'<=t->j9 m ms t L'.length->(1<=o'->j9 m ms o' L'.length)->0<=jM->jM<=b->ij s { s with te:=t,role:="hears",L:=L',o:=o',dn:=jM }/\Jm m b (ms.set i { s with te:=t,role:="hears",L:=L',o:=o',dn:=jM }) i { s with te:=t,role:="hears",L:=L',o:=o',dn:=jM }/\∀x∈ [bF.kept (i:Int) sn t L'.length],Jg m (ms.set i { s with te:=t,role:="hears",L:=L',o:=o',dn:=jM }) x:=λL' o' jM k1 k2 k3 k4 k5 k6 k7=>by
    have g:ij s { s with te:=t,role:="hears",L:=L',o:=o',dn:=jM }:=OX rfl (by show s.te<=t;lia);refine⟨g,⟨by show 0<=t;lia,k2,k3,λq=>absurd rfl q,λq=>absurd q CD,λq=>(k5 q).grow hs g,k6,k7,h.vo,h.sk,λq=>absurd q CD⟩,λx hx=> ?_⟩;rw[cE.mp hx];exact⟨λz=>g1 z.symm,g2,g3,k4.grow hs g⟩
   have d0:=h.dn;have d1:=h.db;unfold kept;by_cases q:s.o < t\/(s.L.length:Int) < R.length
   ·rw[if_pos q];have gl:R.length<=b:=gl.2;exact key R t _ gl (by lia) (fO _) g4 (λ_=>g4) (by dsimp only;split <;> split <;> lia) (by dsimp only;split <;> split <;> lia)
   ·rw[if_neg q];have e:s.o=t:=by lia
    exact key s.L s.o _ lb h.o (by lia) (by rw[<- e];exact h.led (by lia)) h.led (by dsimp only;split <;> split <;> lia) (by dsimp only;split <;> split <;> lia)
 |kept sn to t z=>
  have iW:to=i:=iW;subst iW;obtain⟨g1,g2,g3,g4⟩:=hg;unfold bg;dsimp only;by_cases c:s.role="leads"/\t=s.te
  ·rw[if_pos c];have g:ij s (count m i { s with si:=bV s.si sn (if bP s.si sn > z then bP s.si sn else z) }):=⟨fO _,λq=>by
    have q:s.role="stands":=q;exact .inr ⟨q,rfl⟩,λ_=> .inr ⟨rfl, .inr ⟨c.1,bK _⟩⟩⟩
   have ss:=h.sz c.1;have gz:bP s.si sn<=s.L.length:=by
    by_cases q:1<=bP s.si sn
    ·obtain⟨p,hp,_,e⟩:=zh (fO 1) q;rw[<- e];exact ss p hp
    ·lia
   have zl:z<=s.L.length:=(g4 s (by rw[g3,Aa];exact hs)).2.2 c.1 c.2;refine⟨g,OV hs c.1 g h.te (h.own (by rw[c.1];decide +kernel)) (h.lo c.1) h.dn h.db lb h.vo (λp hp=> ?_) (λp hp=> ?_),λx hx=>by cases hx⟩
   ·rcases oB _ _ _ p hp with q | q
    ·exact h.sk p q
    ·rw[q];exact g1
   ·rcases oB _ _ _ p hp with q | q
    ·exact ss p q
    ·rw[q];show(if bP s.si sn > z then bP s.si sn else z)<=(s.L.length:Int)
     split <;> lia
  ·rw[if_neg c];exact CF h hs
end WM
namespace WM
open PySem L2 VL
structure Jw(m:Nat)(w:aN):Prop where
 ms:∀i s,w.ms[i]?=some s->Jm m w.aC.length w.ms i s
 way:∀g∈w.way,Jg m w.ms g
theorem Jw.note(h:Jw m w)(hs:w.ms[i]?=some s)(g:ij s s')(j:Jm m (w.aC.length + 1) (w.ms.set i s') i s')(ht:∀l,told=some l->∀x∈l,Jg m (w.ms.set i s') x):Jw m (w.note i deed what told s'):=by
 have hl:(w.note i deed what told s').aC.length=w.aC.length + 1:=by simp[aN.note]
 refine⟨λk x hx=> ?_,λx hx=> ?_⟩
 ·rw[hl];have hx:(w.ms.set i s')[k]?=some x:=hx;by_cases c:i=k
  ·subst c;rw[dr (bB.mp hs).1]at hx;cases hx;exact j
  ·rw[fq c]at hx;exact(h.ms k x hx).grow hs g (j0 _)
 ·show Jg m (w.ms.set i s') x;cases told with
  |none=>exact(h.way x hx).grow hs g
  |some l=>
   rcases iG.mp (Cy hx) with h1 | h1
   ·exact(h.way x h1).grow hs g
   ·exact ht l rfl x h1
theorem Jm.mono(h:Jm m b ms i s)(hb:b<=c):Jm m c ms i s:=⟨h.te,h.o,h.ot,h.own,h.lo,h.led,h.dn,Ag h.db (by lia),h.vo,h.sk,h.sz⟩
theorem Im(h:i∈gF nu m):nu≠(i:Int):=λz=>by
 have:=(mW.mp h).2;simp at this;exact this z.symm
theorem OZ{m:Nat}{ms:List MS}{i:Nat}{s s':MS}(hs:ms[i]?=some s)(hr:s'.role="leads")(own:s'.te % m=i/\1<=s'.te):∀x∈keeps m i s',Jg m (ms.set i s') x:=λx hx=>by
 obtain⟨k,hk,rfl⟩:=iy.mp hx;exact⟨Im hk,own.2,own.1,j9.self hs own.1 hr⟩
theorem ZH:∀x∈kK m i t,Jg m ms x:=λx hx=>by
 obtain⟨k,hk,rfl⟩:=iy.mp hx;exact Im hk
theorem O0(h:Jm m b ms i s)(hr:s.role="leads"):s.te % m=i/\1<=s.te:=h.own (by rw[hr];decide +kernel)
theorem Step.jw{m:Nat}{w w':aN}(st:Step m w w')(h:Ww m w)(j:Jw m w):Jw m w':=by
 have iZ:∀{i:Nat} {s:MS},w.ms[i]?=some s->s.L.length<=w.aC.length/\i < m:=λ{i s} hs=>⟨(h.ms s (gk hs)).wf.len,by rw[<- h.n];exact(bB.mp hs).1⟩
 cases st with
 |bg fW k g i s hk iW hs=>
  have hg:=gk hk;obtain⟨a1,a2,a3⟩:=OY (j.ms i s hs) hs (j.way g hg) iW (iZ hs).1 (h.way g hg).ok;unfold aN.told;cases fW with
  |true=>exact Jw.note j hs a1 (a2.mono (j0 _)) λl hl x hx=>by cases hl;exact a3 x hx
  |false=>
   have jc:Jw m (w.cut k):=⟨j.ms,λx hx=>j.way x (w9 hx)⟩
   exact Jw.note jc hs a1 (a2.mono (j0 _)) λl hl x hx=>by cases hl;exact a3 x hx
 |rise i s hs=>
  obtain⟨a1,a2⟩:=OT (j.ms i s hs) hs (iZ hs).2;exact j.note hs a1 (a2.mono (j0 _)) λl hl x hx=>by cases hl;exact ZH x hx
 |add i s r hs hr=>
  obtain⟨a1,a2⟩:=OW r (j.ms i s hs) hs (iZ hs).1;refine j.note hs a1 a2 λl hl x hx=> ?_;unfold iw at hl a1 a2 |-;by_cases c:s.role="leads"
  ·rw[if_pos c]at hl a2 |-;cases hl;have ow:=O0 (j.ms i s hs) c;exact OZ (s':=count m i { s with L:=s.L++ [r] }) hs c ow x hx
  ·rw[if_neg c]at hl;cases hl
 |wc i s hs=>
  obtain⟨a1,a2⟩:=OR (j.ms i s hs) hs;exact j.note hs a1 (a2.mono (j0 _)) λl hl x hx=>by cases hl;cases hx
 |send i s hs=>
  refine j.note hs (.refl s) ((j.ms i s hs).grow hs (.refl s) (j0 _)) λl hl x hx=> ?_;cases hl;unfold sends at hx;by_cases c:s.role="leads"
  ·rw[if_pos c]at hx;exact OZ hs c (O0 (j.ms i s hs) c) x hx
  ·rw[if_neg c]at hx;cases hx
 |drop way hd hl=>exact⟨j.ms,λx hx=>j.way x (hd x hx)⟩
 |rows x=>exact⟨j.ms,j.way⟩
end WM
namespace WM
open PySem L2 VL
theorem ZI(m:Nat):Jw m ⟨gL m s0, [], [],0⟩:=by
 refine⟨λi s hs=> ?_,λ_ h=>by cases h⟩;have e:s=s0:=Sw (gk hs);subst e;have nl:s0.role≠"leads":=by decide +kernel
 exact⟨fO _,fO _,fO _,λq=>absurd rfl q,λq=>absurd q nl,λq=>absurd q (by decide),fO _,fO _,(λ_ h=>by cases h),(λ_ h=>by cases h),λq=>absurd q nl⟩
end WM
namespace WM
open PySem L2 VL
end WM
namespace WM
open PySem L2 VL
def iu(o1:Int)(n1:Nat)(o:Int)(n:Nat):Prop:=o1 < o\/(o1=o/\n1<=n)
theorem iu.refl(o:Int)(n:Nat):iu o n o n:= .inr ⟨rfl,bK _⟩
theorem iu.trans(h:iu a x b y)(k:iu b y c z):iu a x c z:=by unfold iu at *;lia
structure Gh where
 E:Int->Prop
 I:Int->List D
 G:Int->List D
structure Gh.le(g g':Gh):Prop where
 e:∀t,g.E t->g'.E t
 i:∀t,g.E t->g'.I t=g.I t
 g:∀t,g.E t->g.G t <+:g'.G t
theorem Gh.le.jt(g:Gh):g.le g:=⟨λ_ h=>h,λ_ _=>rfl,λ_ _=>Ai _⟩
def Lg(g:Gh)(o:Int)(L:List D):Prop:=(o=0/\L= [])\/(1<=o/\g.E o/\g.I o <+:L/\L <+:g.G o)
theorem Lg.le(l:Lg g o L)(h:g.le g'):Lg g' o L:=by
 rcases l with l | ⟨a,b,c,d⟩
 ·exact .inl l
 ·exact .inr ⟨a,h.e _ b,by rw[h.i _ b];exact c,d.trans (h.g _ b)⟩
def ll(st:List gW)(i:Nat)(t o:Int)(R:List D):Prop:=∃e∈st,e.i=i/\∃l,e.told=some l/\∃to,bF.cB i to t o R∈l
structure Vt(m:Nat)(w:aN)(g:Gh)(j:Nat)(t o:Int)(R:List D):Prop where
 hj:j < m
 lg:Lg g o R
 ho:o < t
 now:∀s,w.ms[j]?=some s->t<=s.te/\(s.o < t->iu s.o s.L.length o R.length)
 old:∀e∈w.aC,e.i=j->e.st.o < t->iu e.st.o e.st.L.length o R.length
structure Km(m:Nat)(w:aN)(g:Gh)(i:Nat)(s:MS):Prop where
 lg:Lg g s.o s.L
 vo:s.role≠"hears"->∀p∈s.vo,∃j:Nat,p.1=j/\Vt m w g j s.te p.2.1 p.2.2/\(j=i\/ll w.aC j s.te p.2.1 p.2.2)
 ld:s.role="leads"->m < 2 * s.vo.length/\g.E s.te/\g.G s.te=s.L
def Kg(m:Nat)(w:aN)(g:Gh):bF->Prop
 |.gH sn _ t=>t % m=sn
 |.cB sn _ t o R=>∃j:Nat,sn=j/\ll w.aC j t o R
 |.keep _ _ t R _=>Lg g t R
 |.kept ..=>True
structure El(m:Nat)(w:aN)(g:Gh)(t:Int):Prop where
 t1:1<=t
 led:j9 m w.ms t 0
 q:∃Q:List (Int×Int×List D),(Q.map (·.1)).Nodup/\m < 2 * Q.length/\(∀p∈Q,∃j:Nat,p.1=j/\Vt m w g j t p.2.1 p.2.2)/\∃b∈Q,g.I t=b.2.2/\∀p∈Q,iu p.2.1 p.2.2.length b.2.1 b.2.2.length
structure Kw(m:Nat)(w:aN)(g:Gh):Prop where
 ms:∀i s,w.ms[i]?=some s->Km m w g i s
 way:∀x∈w.way,Kg m w g x
 st:∀e∈w.aC,e.i < m/\Lg g e.st.o e.st.L/\∀s,w.ms[e.i]?=some s->e.st.te<=s.te/\iu e.st.o e.st.L.length s.o s.L.length
 vt:∀i t o R,ll w.aC i t o R->Vt m w g i t o R
 el:∀t,g.E t->El m w g t
structure Move(s s':MS):Prop where
 te:s.te<=s'.te
 lg:(s'.o=s.o/\s'.L=s.L)\/(s'.o=s'.te/\iu s.o s.L.length s'.o s'.L.length)
theorem Move.rk(h:Move s s'):iu s.o s.L.length s'.o s'.L.length:=by
 rcases h.lg with⟨a,b⟩ | ⟨_,b⟩
 ·rw[a,b];exact .refl _ _
 ·exact b
section
variable {m:Nat}{w:aN}{g g':Gh}{i:Nat}{s s':MS}{deed:Str}{what:D}{told:Option (List bF)}
theorem rN:(w.note i deed what told s').ms=w.ms.set i s':=rfl
theorem rO:(w.note i deed what told s').aC=w.aC++ [⟨i,deed,what,told,s'⟩]:=rfl
theorem ll.note(h:ll w.aC j t o R):ll (w.note i deed what told s').aC j t o R:=by
 obtain⟨e,he,r⟩:=h;exact⟨e,uB _ he,r⟩
theorem Vt.note(h:Vt m w g j t o R)(hs:w.ms[i]?=some s)(mv:Move s s')(le:g.le g'):Vt m (w.note i deed what told s') g' j t o R:=by
 have key:j=i->t<=s'.te/\(s'.o < t->iu s'.o s'.L.length o R.length):=λe=>by
  subst e;obtain⟨a,b⟩:=h.now s hs;have:=mv.te;refine⟨by lia,λq=> ?_⟩;rcases mv.lg with⟨x,y⟩ | ⟨x,y⟩
  ·rw[x,y];exact b (by lia)
  ·lia
 refine⟨h.hj,h.lg.le le,h.ho,λx hx=> ?_,λe he ej q=> ?_⟩
 ·rw[rN]at hx;by_cases c:i=j
  ·subst c;rw[dr (bB.mp hs).1]at hx;cases hx;exact key rfl
  ·rw[fq c]at hx;exact h.now x hx
 ·rw[rO]at he;rcases iG.mp he with he | he
  ·exact h.old e he ej q
  ·rw[cE.mp he]at ej q |-;exact(key ej.symm).2 q
theorem Km.note(h:Km m w g j x)(hs:w.ms[i]?=some s)(mv:Move s s')(le:g.le g')(un:x.role="leads"->g'.G x.te=g.G x.te):Km m (w.note i deed what told s') g' j x:=
 ⟨h.lg.le le,λq p hp=>by
  obtain⟨k,a,b,c⟩:=h.vo q p hp;exact⟨k,a,b.note hs mv le,c.imp id ll.note⟩,λq=>⟨(h.ld q).1,le.e _ (h.ld q).2.1,(un q).trans (h.ld q).2.2⟩⟩
theorem Kw.note(h:Kw m w g)(hs:w.ms[i]?=some s)(hi:i < m)(mv:Move s s')(gr:ij s s')(le:g.le g')(un:∀t:Int,t % m≠i->g'.G t=g.G t)(own:∀(j:Nat) (x:MS),w.ms[j]?=some x->x.role="leads"->x.te % m=j)
  (hm:Km m (w.note i deed what told s') g' i s') (ht:∀l,told=some l->∀x∈l,Kg m (w.note i deed what told s') g' x)
  (hv:∀l,told=some l->∀to t o R,bF.cB i to t o R∈l->Vt m (w.note i deed what told s') g' i t o R)
  (he:∀t,g'.E t->g.E t\/El m (w.note i deed what told s') g' t):Kw m (w.note i deed what told s') g':=by
 refine⟨λj x hx=> ?_,λx hx=> ?_,λe hE=> ?_,λj t o R hV=> ?_,λt CG=> ?_⟩
 ·rw[rN]at hx;by_cases c:i=j
  ·subst c;rw[dr (bB.mp hs).1]at hx;cases hx;exact hm
  ·rw[fq c]at hx;refine(h.ms j x hx).note hs mv le λq=>un _ ?_;rw[own j x hx q]
   lia
 ·have old:∀y,Kg m w g y->Kg m (w.note i deed what told s') g' y:=λy hy=>by
   cases y with
   |gH=>exact hy
   |cB=>obtain⟨j,a,b⟩:=hy;exact⟨j,a,b.note⟩
   |keep=>exact Lg.le hy le
   |kept=>trivial
  unfold aN.note at hx;cases told with
  |none=>exact old x (h.way x hx)
  |some l=>
   have hx:x∈lL (w.way++l):=hx;rcases iG.mp (Cy hx) with hx | hx
   ·exact old x (h.way x hx)
   ·exact ht l rfl x hx
 ·have now:∀e∈w.aC,∀x,(w.note i deed what told s').ms[e.i]?=some x->e.st.te<=x.te/\iu e.st.o e.st.L.length x.o x.L.length:=λe hE x hx=>by
   obtain⟨_,_,c⟩:=h.st e hE;rw[rN]at hx;by_cases q:i=e.i
   ·rw[<- q,dr (bB.mp hs).1]at hx;cases hx;obtain⟨a,b⟩:=c s (by rw[<- q];exact hs);exact⟨Ag a mv.te,b.trans mv.rk⟩
   ·rw[fq q]at hx;exact c x hx
  rw[rO]at hE;rcases iG.mp hE with hE | hE
  ·exact⟨(h.st e hE).1,(h.st e hE).2.1.le le,now e hE⟩
  ·rw[cE.mp hE];refine⟨hi,hm.lg,λx hx=> ?_⟩;have hx:(w.ms.set i s')[i]?=some x:=hx;rw[dr (bB.mp hs).1]at hx;cases hx;exact⟨fO _, .refl _ _⟩
 ·obtain⟨e,hE,ej,l,hl,to,v9⟩:=hV;rw[rO]at hE;rcases iG.mp hE with hE | hE
  ·exact(h.vt j t o R ⟨e,hE,ej,l,hl,to,v9⟩).note hs mv le
  ·rw[cE.mp hE]at ej hl;have ej:i=j:=ej;subst ej;exact hv l hl to t o R v9
 ·rcases he t CG with q | q
  ·obtain⟨a,b,Q,c1,c2,c3,bb,c4,c5,c6⟩:=h.el t q;exact⟨a,b.grow hs gr,Q,c1,c2,λp hp=>by
    obtain⟨j,x,y⟩:=c3 p hp;exact⟨j,x,y.note hs mv le⟩,bb,c4,by rw[le.i _ q];exact c5,c6⟩
  ·exact q
theorem Kw.less(h:Kw m w g)(way:List bF)(hw:∀x∈way,x∈w.way)(r:Int):Kw m { w with way:=way,rows:=r } g:=
 ⟨λi s hs=>⟨(h.ms i s hs).lg,λq p hp=>by
  obtain⟨j,a,b,c⟩:=(h.ms i s hs).vo q p hp;exact⟨j,a,⟨b.hj,b.lg,b.ho,b.now,b.old⟩,c⟩,(h.ms i s hs).ld⟩,λx hx=>by
   have:=h.way x (hw x hx);cases x with
   |gH=>exact this
   |cB=>exact this
   |keep=>exact this
   |kept=>trivial,h.st,λi t o R hV=>⟨(h.vt i t o R hV).hj,(h.vt i t o R hV).lg,(h.vt i t o R hV).ho,(h.vt i t o R hV).now,(h.vt i t o R hV).old⟩,λt ht=>by
   obtain⟨a,b,Q,c1,c2,c3,bb,c4,c5,c6⟩:=h.el t ht;exact⟨a,b,Q,c1,c2,λp hp=>by
    obtain⟨j,x,y⟩:=c3 p hp;exact⟨j,x,⟨y.hj,y.lg,y.ho,y.now,y.old⟩⟩,bb,c4,c5,c6⟩⟩
end
theorem O1:∀(r:List (Int×Int×List D)) (v:Int×List D),iu v.1 v.2.length (dX v r).1 (dX v r).2.length/\∀p∈r,iu p.2.1 p.2.2.length (dX v r).1 (dX v r).2.length
 | [],v=>⟨.refl _ _,(λ_ h=>by cases h)⟩
 |q::r,v=>by
  obtain⟨a,b⟩:=O1 r (lK v q.2);have e:dX v (q::r)=dX (lK v q.2) r:=rfl;have p1:iu v.1 v.2.length (lK v q.2).1 (lK v q.2).2.length/\iu q.2.1 q.2.2.length (lK v q.2).1 (lK v q.2).2.length:=by
   unfold lK;by_cases c:jJ q.2.1 q.2.2.length v.1 v.2.length=true
   ·rw[if_pos c];refine⟨?_, .refl _ _⟩;unfold jJ at c;unfold iu
    split at c
    ·have:=of_decide_eq_true c;lia
    ·have:=of_decide_eq_true c;lia
   ·rw[if_neg c];refine⟨.refl _ _, ?_⟩;unfold jJ at c;unfold iu
    split at c
    ·have:¬ ((v.2.length:Int) < q.2.2.length):=λz=>c (decide_eq_true z)
     lia
    ·have:¬ (v.1 < q.2.1):=λz=>c (decide_eq_true z)
     lia
  rw[e];refine⟨p1.1.trans a,λp hp=> ?_⟩;rcases gK.mp hp with rfl | hp
  ·exact p1.2.trans a
  ·exact b p hp
end WM
namespace WM
open PySem L2 VL
theorem Ip(m:Nat)(s:MS):lead m s=s\/∃v r,s.vo=v::r/\m < 2 * s.vo.length/\lead m s= { s with L:=(dX v.2 r).2,o:=s.te,role:="leads",si:= [] }:=by
 unfold lead;by_cases c:(m:Int) < 2 * (s.vo.length:Nat)
 ·rw[if_pos c]
  split
  ·exact .inl rfl
  ·next v r e=>exact .inr ⟨v,r,e,by lia,rfl⟩
 ·rw[if_neg c];exact .inl rfl
section
variable {m:Nat}{w:aN}{g g':Gh}{i:Nat}{s s' s1:MS}{deed:Str}{what:D}{told:Option (List bF)}
theorem Kw.lead(h:Kw m w g)(hs:w.ms[i]?=some s)(hi:i < m)(own:∀(j:Nat) (x:MS),w.ms[j]?=some x->x.role="leads"->x.te % m=j)
  (e1:s1.role="stands") (e2:s1.o=s.o) (e3:s1.L=s.L) (Iq:s1.te % m=i) (pQ:1<=s1.te) (te:s.te<=s1.te) (lt:s.o < s1.te) (gr:ij s (lead m s1)) (ne:¬ g.E s1.te) (nd:(s1.vo.map (·.1)).Nodup)
  (CH:∀p∈s1.vo,∃j:Nat,p.1=j/\Vt m (w.note i deed what told (WM.lead m s1)) g j s1.te p.2.1 p.2.2/\(j=i\/ll (w.note i deed what told (WM.lead m s1)).aC j s1.te p.2.1 p.2.2))
  (ht:∀l,told=some l->∀x∈l,∃to,x= .gH i to s1.te):∃g',g.le g'/\Kw m (w.note i deed what told (WM.lead m s1)) g':=by
 have CG:∀(w':aN) (g':Gh) l,told=some l->∀x∈l,Kg m w' g' x:=λw' g' l hl x hx=>by
  obtain⟨to,rfl⟩:=ht l hl x hx;exact Iq
 have i6:∀l,told=some l->∀to t o R,bF.cB i to t o R∈l->False:=λl hl to t o R hx=>by
  obtain⟨O2,e⟩:=ht l hl _ hx;cases e
 rcases Ip m s1 with e | ⟨v,r,ev,mj,e⟩
 ·rw[e]at gr CH |-;exact⟨g, .jt g,h.note hs hi ⟨te, .inl ⟨e2,e3⟩⟩ gr (.jt g) (λ_ _=>rfl) own ⟨by rw[e2,e3];exact(h.ms i s hs).lg,λ_=>CH,λq=>absurd (e1.symm.trans q) (by decide +kernel)⟩ (CG _ _) (λl hl to t o R hx=>(i6 l hl to t o R hx).elim) (λt ht=> .inl ht)⟩
 ·rw[e]at gr CH |-;have le:g.le ⟨λt=>g.E t\/t=s1.te,λt=>if t=s1.te then(dX v.2 r).2 else g.I t,λt=>if t=s1.te then(dX v.2 r).2 else g.G t⟩:=by
   have q:∀t,g.E t->¬ t=s1.te:=λt ht z=>ne (z▸ht);exact⟨λt ht=> .inl ht,λt ht=>if_neg (q t ht),λt ht=>by show _ <+:(if t=s1.te then _ else _);rw[if_neg (q t ht)];exact Ai _⟩
  have hI:(⟨λt=>g.E t\/t=s1.te,λt=>if t=s1.te then(dX v.2 r).2 else g.I t,λt=>if t=s1.te then(dX v.2 r).2 else g.G t⟩:Gh).I s1.te=(dX v.2 r).2:=if_pos rfl;have hG:(⟨λt=>g.E t\/t=s1.te,λt=>if t=s1.te then(dX v.2 r).2 else g.I t,λt=>if t=s1.te then(dX v.2 r).2 else g.G t⟩:Gh).G s1.te=(dX v.2 r).2:=if_pos rfl;have hE:(⟨λt=>g.E t\/t=s1.te,λt=>if t=s1.te then(dX v.2 r).2 else g.I t,λt=>if t=s1.te then(dX v.2 r).2 else g.G t⟩:Gh).E s1.te:= .inr rfl;have ZJ:∀t,(⟨λt=>g.E t\/t=s1.te,λt=>if t=s1.te then(dX v.2 r).2 else g.I t,λt=>if t=s1.te then(dX v.2 r).2 else g.G t⟩:Gh).E t->g.E t\/t=s1.te:=λt ht=>ht;have un:∀t:Int,t % m≠i->(⟨λt=>g.E t\/t=s1.te,λt=>if t=s1.te then(dX v.2 r).2 else g.I t,λt=>if t=s1.te then(dX v.2 r).2 else g.G t⟩:Gh).G t=g.G t:=λt ht=>if_neg λ(z:t=s1.te)=>ht (by rw[z];exact Iq);generalize (⟨λt=>g.E t\/t=s1.te,λt=>if t=s1.te then(dX v.2 r).2 else g.I t,λt=>if t=s1.te then(dX v.2 r).2 else g.G t⟩:Gh)=g' at *;have mv:Move s { s1 with L:=(dX v.2 r).2,o:=s1.te,role:="leads",si:= [] }:=⟨te, .inr ⟨rfl, .inl lt⟩⟩
  have ZK:∀{w':aN} {j:Nat} {t o:Int} {R:List D},Vt m w' g j t o R->Vt m w' g' j t o R:=λq=>⟨q.hj,q.lg.le le,q.ho,q.now,q.old⟩
  have O3:∀p∈s1.vo,∃j:Nat,p.1=j/\Vt m (w.note i deed what told { s1 with L:=(dX v.2 r).2,o:=s1.te,role:="leads",si:= [] }) g' j s1.te p.2.1 p.2.2/\(j=i\/ll (w.note i deed what told { s1 with L:=(dX v.2 r).2,o:=s1.te,role:="leads",si:= [] }).aC j s1.te p.2.1 p.2.2):=λp hp=>by
   obtain⟨j,a,b,c⟩:=CH p hp;exact⟨j,a,ZK b,c⟩
  refine⟨g',le,h.note hs hi mv gr le un own ⟨.inr ⟨pQ,hE,by show g'.I s1.te <+:_;rw[hI];exact Ai _,by show _ <+:g'.G s1.te;rw[hG];exact Ai _⟩,λ_=>O3,λ_=>⟨mj,hE,hG⟩⟩ (CG _ _) (λl hl to t o R hx=>(i6 l hl to t o R hx).elim) λt ZL=> ?_⟩;rcases ZJ t ZL with q | rfl
  ·exact .inl q
  ·refine .inr ⟨pQ, ?_,s1.vo,nd,mj,λp hp=>by obtain⟨j,a,b,_⟩:=O3 p hp;exact⟨j,a,b⟩, ?_⟩
   ·intro x hx;have hx:(w.ms.set i _)[(s1.te % m).toNat]?=some x:=hx;rw[Iq,Aa,dr (bB.mp hs).1]at hx;cases hx;exact⟨fO _,λq=>absurd q (by show ¬ (("leads":Str)="stands");decide +kernel),λ_ _=>by lia⟩
   ·obtain⟨b1,b2⟩:=O1 r v.2;have all:∀p∈s1.vo,iu p.2.1 p.2.2.length (dX v.2 r).1 (dX v.2 r).2.length:=λp hp=>by
     rw[ev]at hp;rcases gK.mp hp with rfl | hp
     ·exact b1
     ·exact b2 p hp
    rcases Ib r v.2 with q | ⟨p,hp,q⟩
    ·exact⟨v,by rw[ev];exact mY ..,by rw[hI,q],by rw[q]at all;exact all⟩
    ·exact⟨p,by rw[ev];exact jZ _ hp,by rw[hI,q],by rw[q]at all;exact all⟩
end
end WM
namespace WM
open PySem L2 VL
section
variable {m b:Nat}{w:aN}{g g':Gh}{i:Nat}{s s' s1:MS}
theorem Kw.gb(h:Kw m w g)(hs:w.ms[i]?=some s)(hi:i < m)(own:∀(j:Nat) (x:MS),w.ms[j]?=some x->x.role="leads"->x.te % m=j)(e1:s'.te=s.te)(e2:s'.o=s.o)(e3:s'.L=s.L)(e4:s'.role=s.role)(e5:s'.vo=s.vo)
  (ht:∀l,told=some l->∀x∈l,Kg m (w.note i deed what told s') g x/\x.word≠"voice"):Kw m (w.note i deed what told s') g:=by
 have mv:Move s s':=⟨by lia, .inl ⟨e2,e3⟩⟩
 have gr:ij s s':=⟨by lia,λq=> .inr ⟨by rw[<- e4];exact q,by lia⟩,λq=> .inr ⟨by lia, .inr ⟨by rw[<- e4];exact q,by rw[e3];exact bK _⟩⟩⟩
 have k:Km m (w.note i deed what told s') g i s:=(h.ms i s hs).note hs mv (.jt g) λ_=>rfl;refine h.note hs hi mv gr (.jt g) (λ_ _=>rfl) own ⟨by rw[e2,e3];exact k.lg,λq=> ?_,λq=> ?_⟩ (λl hl x hx=>(ht l hl x hx).1) (λl hl to t o R hx=>absurd rfl (ht l hl _ hx).2) λt ht=> .inl ht
 ·rw[e5,e1];exact k.vo (by rw[<- e4];exact q)
 ·rw[e5,e1,e3];exact k.ld (by rw[<- e4];exact q)
theorem Move.lead(e2:s1.o=s.o)(e3:s1.L=s.L)(te:s.te<=s1.te)(lt:s.o < s1.te):Move s (WM.lead m s1):=by
 rcases Ip m s1 with e | ⟨v,r,ev,mj,e⟩
 ·rw[e];exact⟨te, .inl ⟨e2,e3⟩⟩
 ·rw[e];exact⟨te, .inr ⟨rfl, .inl lt⟩⟩
theorem j9.here(h:j9 m ms t n)(hs:ms[i]?=some s)(e:t % m=i):t<=s.te/\(s.role="stands"->t < s.te):=by
 have:=h s (by rw[e,Aa];exact hs);exact⟨this.1,this.2.1⟩
theorem O4(j:Jm m b ms i s)(hs:ms[i]?=some s)(hr:s.role="stands"):s.o < s.te:=by
 obtain⟨o1,o2⟩:=j.own (by rw[hr];decide +kernel);have ot:=j.ot;by_cases c:s.o=s.te
 ·have:=(j.led (by lia)).here hs (by rw[c];exact o1);have:=this.2 hr
  lia
 ·lia
theorem Kw.bg(h:Kw m w g)(hs:w.ms[i]?=some s)(hi:i < m)(own:∀(j:Nat) (x:MS),w.ms[j]?=some x->x.role="leads"->x.te % m=j)(jm:Jm m b w.ms i s)(wg:Wg m b s)(x:bF)(gr:ij s (WM.bg m i s x).1)(kx:Kg m w g x):
  ∃g',g.le g'/\Kw m (w.note i "hear" (ay x) (some (WM.bg m i s x).2) (WM.bg m i s x).1) g':=by
 have none:∀{w':aN} l,some ([]:List bF)=some l->∀x∈l,Kg m w' g x/\x.word≠"voice":=λl hl x hx=>by cases hl;cases hx
 cases x with
 |gH sn to t=>
  unfold WM.bg at gr |-;dsimp only at gr |-;by_cases c:t<=s.te
  ·rw[if_pos c]at gr |-;exact⟨g, .jt g,h.gb hs hi own rfl rfl rfl rfl rfl none⟩
  ·rw[if_neg c]at gr |-;have mv:Move s { s with te:=t,role:="hears" }:=⟨by show s.te<=t;lia, .inl ⟨rfl,rfl⟩⟩
   have ot:=jm.ot;have hr:∀{P:Prop},(("hears":Str)≠"hears")->P:=λq=>absurd rfl q;refine⟨g, .jt g,h.note hs hi mv gr (.jt g) (λ_ _=>rfl) own ⟨(h.ms i s hs).lg,λq=>hr q,λq=>absurd q (by show ¬ (("hears":Str)="leads");decide +kernel)⟩ (λl hl x hx=> ?_) (λl hl O2 t' o' R' hx=> ?_) λt ht=> .inl ht⟩
   ·cases hl;rw[cE.mp hx];exact⟨i,rfl,_,i0 _ (cE.mpr rfl),rfl,_,rfl,sn,cE.mpr rfl⟩
   ·cases hl;cases cE.mp hx;refine⟨hi,(h.ms i s hs).lg,by lia,λx hx=> ?_,λe he ej q=> ?_⟩
    ·rw[rN,dr (bB.mp hs).1]at hx;cases hx;exact⟨fO _,λ_=> .refl _ _⟩
    ·rw[rO]at he;rcases iG.mp he with he | he
     ·exact((h.st e he).2.2 s (by rw[ej];exact hs)).2
     ·rw[cE.mp he];exact .refl _ _
 |cB sn to t o R=>
  unfold WM.bg at gr |-;dsimp only at gr |-;by_cases c:s.role="stands"/\t=s.te
  ·rw[if_pos c]at gr |-;obtain⟨hr,rfl⟩:=c;obtain⟨o1,o2⟩:=jm.own (by rw[hr];decide +kernel);have lt:=O4 jm hs hr;have mv:Move s (WM.lead m { s with vo:=bV s.vo sn (o,R) }):=Move.lead (s1:= { s with vo:=bV s.vo sn (o,R) }) rfl rfl (fO _) lt;refine h.lead hs hi own hr rfl rfl o1 o2 (fO _) lt gr (λq=> ?_) (v5 _ _ _ wg.wf.vn) (λp hp=> ?_) (λl hl x hx=>by cases hl;cases hx)
   ·have:=((h.el _ q).led.here hs o1).2 hr;exact Sx _ this
   ·rcases oB _ _ _ _ hp with q | rfl
    ·obtain⟨j,a,b,c⟩:=(h.ms i s hs).vo (by rw[hr];decide +kernel) p q;exact⟨j,a,b.note hs mv (.jt g),c.imp id ll.note⟩
    ·obtain⟨j,rfl,hv⟩:=kx;exact⟨j,rfl,(h.vt j _ o R hv).note hs mv (.jt g), .inr hv.note⟩
  ·rw[if_neg c]at gr |-;exact⟨g, .jt g,h.gb hs hi own rfl rfl rfl rfl rfl none⟩
 |keep sn to t R dn=>
  unfold WM.bg at gr |-;dsimp only at gr |-;by_cases c:t < s.te
  ·rw[if_pos c]at gr |-;exact⟨g, .jt g,h.gb hs hi own rfl rfl rfl rfl rfl none⟩
  ·rw[if_neg c]at gr |-;have ot:=jm.ot;have kx:Lg g t R:=kx;have ek:(kept s t R).te=t/\(kept s t R).role="hears"/\(((kept s t R).o=s.o/\(kept s t R).L=s.L)\/((kept s t R).o=t/\(kept s t R).L=R/\iu s.o s.L.length t R.length)):=by
    unfold kept
    split
    ·next q=>exact⟨rfl,rfl, .inr ⟨rfl,rfl,by unfold iu;lia⟩⟩
    ·exact⟨rfl,rfl, .inl ⟨rfl,rfl⟩⟩
   generalize kept s t R=q at *;obtain⟨e1,e2,e3⟩:=ek;refine⟨g, .jt g,h.note hs hi ⟨by show s.te<=q.te;lia, ?_⟩ gr (.jt g) (λ_ _=>rfl) own ⟨?_,λz=>absurd e2 z,λz=>absurd (e2.symm.trans z) (by decide +kernel)⟩ (λl hl x hx=> ?_) (λl hl O2 t' o' R' hx=> ?_) λt ht=> .inl ht⟩
   ·rcases e3 with e3 | ⟨a,b,c⟩
    ·exact .inl e3
    ·exact .inr ⟨by show q.o=q.te;lia,by show iu _ _ q.o q.L.length;rw[a,b];exact c⟩
   ·show Lg g q.o q.L;rcases e3 with⟨a,b⟩ | ⟨a,b,c⟩
    ·rw[a,b];exact(h.ms i s hs).lg
    ·rw[a,b];exact kx
   ·cases hl;rw[cE.mp hx];trivial
   ·cases hl;cases cE.mp hx
 |kept sn to t z=>
  unfold WM.bg at gr |-;dsimp only at gr |-;by_cases c:s.role="leads"/\t=s.te
  ·rw[if_pos c]at gr |-;exact⟨g, .jt g,h.gb hs hi own rfl rfl rfl rfl rfl none⟩
  ·rw[if_neg c]at gr |-;exact⟨g, .jt g,h.gb hs hi own rfl rfl rfl rfl rfl none⟩
theorem we{s:MS}(hx:x∈keeps m i s):∃to,x= .keep i to s.te s.L s.dn:=by
 unfold keeps at hx;obtain⟨k,_,rfl⟩:=iy.mp hx;exact⟨k,rfl⟩
theorem Step.kw(st:Step m w w')(h:Ww m w)(j:Jw m w)(k:Kw m w g):∃g',g.le g'/\Kw m w' g':=by
 have own:∀(q:Nat) (x:MS),w.ms[q]?=some x->x.role="leads"->x.te % m=q:=λq x hx hl=>((j.ms q x hx).own (by rw[hl];decide +kernel)).1;have iZ:∀{i:Nat} {s:MS},w.ms[i]?=some s->Wg m w.aC.length s/\i < m:=λ{i s} hs=>⟨h.ms s (gk hs),by rw[<- h.n];exact(bB.mp hs).1⟩
 cases st with
 |bg fW q x i s hk iW hs=>
  have hg:=gk hk;obtain⟨ws,hi⟩:=iZ hs;have a1:=(OY (j.ms i s hs) hs (j.way x hg) iW ws.wf.len (h.way x hg).ok).1;unfold aN.told;cases fW with
  |true=>exact k.bg hs hi own (j.ms i s hs) ws x a1 (k.way x hg)
  |false=>
   have kc:Kw m (w.cut q) g:=k.less _ (λx hx=>w9 hx) _;exact kc.bg hs hi own (j.ms i s hs) ws x a1 (by
    have:=k.way x hg;cases x with
    |gH=>exact this
    |cB=>exact this
    |keep=>exact this
    |kept=>trivial)
 |rise i s hs=>
  obtain⟨ws,hi⟩:=iZ hs;have jm:=j.ms i s hs;have a1:=(OT jm hs hi).1;have lt:=Ik i m s.te (by lia);have CB:=jm.te;have ot:=jm.ot;have et:(WM.rise m i s).te=dU i m s.te:=by
   unfold WM.rise;rcases zi m { s with te:=dU i m s.te,role:="stands",vo:= [((i:Int),s.o,s.L)] } with e | ⟨_,_,_,e,_⟩
   ·rw[e]
   ·exact e
  have mv:Move s (WM.rise m i s):=Move.lead (s1:= { s with te:=dU i m s.te,role:="stands",vo:= [((i:Int),s.o,s.L)] }) rfl rfl (by show s.te<=dU i m s.te;lia) (by show s.o < dU i m s.te;lia);refine k.lead (s1:= { s with te:=dU i m s.te,role:="stands",vo:= [((i:Int),s.o,s.L)] }) hs hi own rfl rfl rfl (Il i m s.te hi) (by show 1<=dU i m s.te;lia) (by show s.te<=dU i m s.te;lia) (by show s.o < dU i m s.te;lia) a1 (λq=> ?_) (by simp) (λp hp=> ?_) (λl hl x hx=> ?_)
  ·have:=((k.el _ q).led.here hs (Il i m s.te hi)).1;have:dU i m s.te<=s.te:=this
   lia
  ·have hp:p∈ [((i:Int),s.o,s.L)]:=hp;rw[cE.mp hp];refine⟨i,rfl,⟨hi,(k.ms i s hs).lg,by show s.o < dU i m s.te;lia,λx hx=> ?_,λe he ej q=> ?_⟩, .inl rfl⟩
   ·rw[rN,dr (bB.mp hs).1]at hx;cases hx;refine⟨by show dU i m s.te<=(WM.rise m i s).te;lia,λ(q:(WM.rise m i s).o < dU i m s.te)=> ?_⟩;rcases mv.lg with⟨a,b⟩ | ⟨a,b⟩
    ·show iu (WM.rise m i s).o (WM.rise m i s).L.length s.o s.L.length;rw[a,b];exact .refl _ _
    ·lia
   ·rw[rO]at he;rcases iG.mp he with he | he
    ·exact((k.st e he).2.2 s (by rw[ej];exact hs)).2
    ·rw[cE.mp he]at q |-;have q:(WM.rise m i s).o < dU i m s.te:=q;show iu (WM.rise m i s).o (WM.rise m i s).L.length s.o s.L.length;rcases mv.lg with⟨a,b⟩ | ⟨a,b⟩
     ·rw[a,b];exact .refl _ _
     ·lia
  ·cases hl;unfold kK at hx;obtain⟨q,_,rfl⟩:=iy.mp hx;exact⟨q,by rw[et]⟩
 |add i s r hs hr=>
  obtain⟨ws,hi⟩:=iZ hs;have a1:=(OW r (j.ms i s hs) hs ws.wf.len).1;unfold iw at a1 |-;by_cases c:s.role="leads"
  ·rw[if_pos c]at a1 |-;obtain⟨d1,d2,d3⟩:=(k.ms i s hs).ld c;have lo:=(j.ms i s hs).lo c;have pQ:=((j.ms i s hs).own (by rw[c];decide +kernel)).2;have o1:=own i s hs c;have le:g.le ⟨g.E,g.I,λt=>if t=s.te then s.L++ [r] else g.G t⟩:=⟨λ_ h=>h,λ_ _=>rfl,λt _=>by
    show g.G t <+:(if t=s.te then _ else _)
    split
    ·next e=>rw[e,d3];exact aew _ _
    ·exact Ai _⟩
   have mv:Move s (count m i { s with L:=s.L++ [r] }):=⟨fO _, .inr ⟨lo, .inr ⟨rfl,by show s.L.length<=(s.L++ [r]).length;simp⟩⟩⟩
   have hG:(⟨g.E,g.I,λt=>if t=s.te then s.L++ [r] else g.G t⟩:Gh).G s.te=s.L++ [r]:=if_pos rfl;have un:∀t:Int,t % m≠i->(⟨g.E,g.I,λt=>if t=s.te then s.L++ [r] else g.G t⟩:Gh).G t=g.G t:=λt ht=>if_neg λ(z:t=s.te)=>ht (by rw[z];exact o1);have hE:∀t,(⟨g.E,g.I,λt=>if t=s.te then s.L++ [r] else g.G t⟩:Gh).E t->g.E t:=λt h=>h;generalize (⟨g.E,g.I,λt=>if t=s.te then s.L++ [r] else g.G t⟩:Gh)=g' at *;have lg:Lg g' s.te (s.L++ [r]):=by
    rcases(k.ms i s hs).lg with⟨q,_⟩ | ⟨_,x1,x2,_⟩
    ·lia
    ·rw[lo]at x1 x2;exact .inr ⟨pQ,le.e _ x1,by rw[le.i _ x1];exact x2.trans (aew _ _),by rw[hG];exact Ai _⟩
   refine⟨g',le,k.note hs hi mv a1 le un own ⟨by show Lg g' s.o (s.L++ [r]);rw[lo];exact lg,λq p hp=> ?_,λ_=>⟨d1,le.e _ d2,hG⟩⟩ (λl hl x hx=> ?_) (λl hl to t o R hx=> ?_) λt ht=> .inl (hE t ht)⟩
   ·obtain⟨j',a,b,c⟩:=(k.ms i s hs).vo (by rw[c];decide +kernel) p hp;exact⟨j',a,b.note hs mv le,c.imp id ll.note⟩
   ·cases hl;obtain⟨to,rfl⟩:=we hx;exact lg
   ·cases hl;obtain⟨to,e⟩:=we hx;cases e
  ·rw[if_neg c]at a1 |-;exact⟨g, .jt g,k.gb hs hi own rfl rfl rfl rfl rfl λl hl=>by cases hl⟩
 |wc i s hs=>
  obtain⟨ws,hi⟩:=iZ hs;exact⟨g, .jt g,k.note hs hi ⟨fO _, .inl ⟨rfl,rfl⟩⟩ (OR (j.ms i s hs) hs).1 (.jt g) (λ_ _=>rfl) own ⟨(k.ms i s hs).lg,λq=>absurd rfl q,λq=>absurd q (by show ¬ (("hears":Str)="leads");decide +kernel)⟩ (λl hl x hx=>by cases hl;cases hx) (λl hl to t o R hx=>by cases hl;cases hx) λt ht=> .inl ht⟩
 |send i s hs=>
  obtain⟨ws,hi⟩:=iZ hs;refine⟨g, .jt g,k.gb hs hi own rfl rfl rfl rfl rfl λl hl x hx=> ?_⟩;cases hl;unfold sends at hx;by_cases c:s.role="leads"
  ·rw[if_pos c]at hx;obtain⟨to,rfl⟩:=we hx;refine⟨?_,by show ¬ (("keep":Str)="voice");decide +kernel⟩;show Lg g s.te s.L;rw[<- (j.ms i s hs).lo c];exact(k.ms i s hs).lg
  ·rw[if_neg c]at hx;cases hx
 |drop way hd hl=>exact⟨g, .jt g,k.less way hd _⟩
 |rows x=>exact⟨g, .jt g,k.less _ (λ_ h=>h) x⟩
end
end WM
namespace WM
open PySem L2 VL
theorem O5:∀(m:Nat) (l:List Nat),l.Nodup->(∀x∈l,x < m)->l.length<=m
 |0,l,_,h=>by
  cases l with
  |nil=>exact bK _
  |cons a l=>have:=h a (mY ..);lia
 |m + 1,l,nd,h=>by
  have ih:=O5 m (l.erase m) (nd.erase m) λx hx=>by
   have:=(aex nd).mp hx;have:=h x this.2
   lia
  by_cases c:m∈l
  ·rw[aey c]at ih;lia
  ·rw[List.erase_of_not_mem c]at ih;lia
theorem adH{A B:List Nat}(ha:A.Nodup)(hb:B.Nodup)(la:m < 2 * A.length)(lb:m < 2 * B.length)(ra:∀a∈A,a < m)(rb:∀b∈B,b < m):∃x,x∈A/\x∈B:=by
 refine Classical.byContradiction λq=> ?_;have nd:(A++B).Nodup:=Sy.mpr ⟨ha,hb,λa h1 b h2 e=>q ⟨a,h1,e▸h2⟩⟩;have:=O5 m (A++B) nd λx hx=>by
  rcases iG.mp hx with hx | hx
  ·exact ra x hx
  ·exact rb x hx
 rw[bQ]at this
 lia
theorem Ir{α:Type}:∀(Q:List (Int×α)),(Q.map (·.1)).Nodup->(∀p∈Q,0<=p.1)->(Q.map λp=>p.1.toNat).Nodup
 | [],_,_=>se
 |p::Q,nd,h=>by
  rw[dZ,nI]at nd |-;refine⟨λhm=>nd.1 ?_,Ir Q nd.2 λx hx=>h x (jZ _ hx)⟩;obtain⟨x,hx,e⟩:=iy.mp hm;have a:=h p (mY ..);have b:=h x (jZ _ hx);exact iy.mpr ⟨x,hx,by lia⟩
def qH(st:List gW)(j:Nat)(T z:Int):Prop:=∃e∈st,e.i=j/\e.st.o=T/\z<=e.st.L.length
def Dn(m:Nat)(st:List gW)(T z:Int):Prop:=∃Q:List Nat,Q.Nodup/\m < 2 * Q.length/\∀j∈Q,j < m/\qH st j T z
theorem qH.more(h:qH st j T z):qH (st++st') j T z:=by
 obtain⟨e,he,r⟩:=h;exact⟨e,uB _ he,r⟩
theorem Dn.more(h:Dn m st T z):Dn m (st++st') T z:=by
 obtain⟨Q,a,b,c⟩:=h;exact⟨Q,a,b,λj hj=>⟨(c j hj).1,(c j hj).2.more⟩⟩
theorem Lg.pre(h:Lg g o L)(ho:1<=o):g.E o/\g.I o <+:L/\L <+:g.G o:=by
 rcases h with⟨a,_⟩ | ⟨_,b⟩
 ·lia
 ·exact b
theorem CI{α:Type}{L G:List α}(h:L <+:G){n:Nat}(hn:n<=L.length):G.take n=L.take n:=by
 obtain⟨r,rfl⟩:=h;rw[List.take_append_of_le_length hn]
theorem adI{m:Nat}{w:aN}{g:Gh}(h:Kw m w g){T z:Int}(hT:1<=T)(hd:Dn m w.aC T z):∀(n:Nat) (t:Int),t<=n->g.E t->T < t->z<=(g.G T).length/\(g.G T).take z.toNat <+:g.I t:=by
 intro n
 induction n with
 |zero=>intro t h1 h2 h3;lia
 |succ n ih=>
  intro t h1 h2 h3;obtain⟨_,_,Q,q1,q2,q3,b,q4,q5,q6⟩:=h.el t h2;obtain⟨A,a1,a2,a3⟩:=hd;have kn:=Ir Q q1 λp hp=>by obtain⟨j,e,_⟩:=q3 p hp;lia
  obtain⟨j,j1,j2⟩:=adH a1 kn a2 (by rw[dC];exact q2) (λj hj=>(a3 j hj).1) λx hx=>by
   obtain⟨p,hp,rfl⟩:=iy.mp hx;obtain⟨k,e,v⟩:=q3 p hp;rw[e];exact v.hj
  obtain⟨p,hp,ep⟩:=iy.mp j2;obtain⟨k,ek,v⟩:=q3 p hp;obtain⟨_,e,he,ei,eo,ez⟩:=a3 j j1;have hk:k=j:=by rw[<- ep,ek];rfl
  subst hk;have r1:=v.old e he ei (by lia);have r2:=r1.trans (q6 p hp);have lb:Lg g b.2.1 b.2.2:=by obtain⟨_,_,v⟩:=q3 b q4;exact v.lg
  have bt:b.2.1 < t:=by obtain⟨_,_,v⟩:=q3 b q4;exact v.ho
  obtain⟨_,_,gT⟩:=(h.st e he).2.1.pre (by lia);rw[eo]at gT r2;have hz:z<=(g.G T).length:=by have:=gT.length_le;lia
  refine⟨hz, ?_⟩;rw[q5];rcases r2 with r | ⟨r,rl⟩
  ·obtain⟨l1,l2,_⟩:=lb.pre (by lia);exact(ih b.2.1 (by lia) l1 r).2.trans l2
  ·obtain⟨_,_,l3⟩:=lb.pre (by lia);rw[<- r]at l3;rw[CI l3 (by lia)];exact List.take_prefix _ _
theorem O6{m:Nat}{w:aN}{g:Gh}(h:Kw m w g){T z t:Int}(hT:1<=T)(hd:Dn m w.aC T z)(hE:g.E t)(lt:T < t):z<=(g.I t).length:=by
 obtain⟨a,b⟩:=adI h hT hd t.toNat t (by lia) hE lt;have:=b.length_le;rw[wO]at this
 lia
end WM
namespace WM
open PySem L2 VL
def Wr(m:Nat)(st:List gW)(t dn:Int):Prop:=dn<=0\/∃T z,Dn m st T z/\dn<=z/\1<=T/\T<=t
theorem Wr.more(h:Wr m st t dn):Wr m (st++st') t dn:=by
 rcases h with h | ⟨T,z,a,b⟩
 ·exact .inl h
 ·exact .inr ⟨T,z,a.more,b⟩
theorem Wr.le(h:Wr m st t dn)(h1:t<=t')(h2:jM<=dn):Wr m st t' jM:=by
 rcases h with h | ⟨T,z,a,b,c,d⟩
 ·exact .inl (by lia)
 ·exact .inr ⟨T,z,a,by lia,c,by lia⟩
structure wj(m:Nat)(st:List gW)(s:MS):Prop where
 wr:Wr m st s.o s.dn
 dl:s.dn<=s.L.length
 si:s.role="leads"->∀p∈s.si,∃j:Nat,p.1=j/\j < m/\qH st j s.te p.2
def oE(m:Nat)(st:List gW):bF->Prop
 |.keep _ _ t _ dn=>Wr m st t dn
 |.kept sn _ t z=>∃j:Nat,sn=j/\j < m/\qH st j t z
 |_=>True
structure Kz(m:Nat)(w:aN):Prop where
 ms:∀(i:Nat) s,w.ms[i]?=some s->wj m w.aC s
 way:∀x∈w.way,oE m w.aC x
theorem wj.more(h:wj m st s):wj m (st++st') s:=⟨h.wr.more,h.dl,λq p hp=>by
 obtain⟨j,a,b,c⟩:=h.si q p hp;exact⟨j,a,b,c.more⟩⟩
theorem oE.more(h:oE m st x):oE m (st++st') x:=by
 cases x with
 |gH=>trivial
 |cB=>trivial
 |keep=>exact Wr.more h
 |kept=>obtain⟨j,a,b,c⟩:=h;exact⟨j,a,b,c.more⟩
section
variable {m b:Nat}{w:aN}{g g':Gh}{i:Nat}{s s' s1:MS}{deed:Str}{what:D}{told:Option (List bF)}
theorem Kz.note(h:Kz m w)(hs:w.ms[i]?=some s)(hk:wj m (w.note i deed what told s').aC s')(ht:∀l,told=some l->∀x∈l,oE m (w.note i deed what told s').aC x):Kz m (w.note i deed what told s'):=by
 refine⟨λj x hx=> ?_,λx hx=> ?_⟩
 ·rw[rN]at hx;by_cases c:i=j
  ·subst c;rw[dr (bB.mp hs).1]at hx;cases hx;exact hk
  ·rw[fq c]at hx;rw[rO];exact(h.ms j x hx).more
 ·have old:∀y,oE m w.aC y->oE m (w.note i deed what told s').aC y:=λy hy=>by rw[rO];exact oE.more hy
  unfold aN.note at hx;cases told with
  |none=>exact old x (h.way x hx)
  |some l=>
   have hx:x∈lL (w.way++l):=hx;rcases iG.mp (Cy hx) with hx | hx
   ·exact old x (h.way x hx)
   ·exact ht l rfl x hx
theorem Kz.lead(h:Kz m w)(hs:w.ms[i]?=some s)(e2:s1.o=s.o)(e3:s1.L=s.L)(e4:s1.dn=s.dn)(e1:s1.role="stands")(lt:s.o < s1.te)(k':Kw m (w.note i deed what told (WM.lead m s1)) g')(ht:∀l,told=some l->∀x∈l,∃to,x= .gH i to s1.te):Kz m (w.note i deed what told (WM.lead m s1)):=by
 have k1:=h.ms i s hs;have ZM:(w.note i deed what told (WM.lead m s1)).ms[i]?=some (WM.lead m s1):=by
  rw[rN];exact dr (bB.mp hs).1
 refine h.note hs ?_ λl hl x hx=>by obtain⟨to,rfl⟩:=ht l hl x hx;trivial
 have km:=k'.ms i _ ZM;rcases Ip m s1 with e | ⟨v,r,ev,mj,e⟩
 ·rw[e];refine⟨by rw[e2,e4];exact k1.wr.more,by rw[e3,e4];exact k1.dl,λq=>absurd (e1.symm.trans q) (by decide +kernel)⟩
 ·have er:(WM.lead m s1).role="leads":=by rw[e]
  have eo:(WM.lead m s1).o=s1.te:=by rw[e]
  have et:(WM.lead m s1).te=s1.te:=by rw[e]
  have ed:(WM.lead m s1).dn=s.dn:=by rw[e];exact e4
  have es:(WM.lead m s1).si= []:=by rw[e]
  have wr:=k1.wr.more (st':= [⟨i,deed,what,told,WM.lead m s1⟩]);have hE:=(km.ld er).2.1;have lg:=km.lg;rw[rO];refine⟨by rw[eo,ed];exact wr.le (by lia) (fO _), ?_,λ_ p hp=>by rw[es]at hp;cases hp⟩;rw[ed];rcases wr with z | ⟨T,z,a1,a2,a3,a4⟩
  ·lia
  ·rw[et]at hE;rw[eo]at lg;have:=O6 k' a3 a1 hE (by lia);have:=(lg.pre (k'.el _ hE).t1).2.1.length_le
   lia
theorem O7(st:List gW)(hs:s.role="leads")(lo:s.o=s.te)(hi:i < m)(pQ:1<=s.te)(ag7:0<=s.dn)(wr:Wr m st s.o s.dn)(dl:s.dn<=s.L.length)(sz:∀p∈s.si,p.2<=s.L.length)(si:∀p∈s.si,∃j:Nat,p.1=j/\j < m/\qH st j s.te p.2)(me:qH st i s.te s.L.length):wj m st (count m i s):=by
 have O8:(count m i s).dn<=s.L.length:=by
  rcases(OU i m s sz).2 with e | e
  ·rw[e];exact dl
  ·exact e
 refine⟨?_,O8,λ_=>si⟩;show Wr m st s.o (gu s.dn ((dW i m s.si s.L.length).filter (most m (dW i m s.si s.L.length))));rcases Ij ((dW i m s.si s.L.length).filter (most m (dW i m s.si s.L.length))) s.dn with e | e
 ·rw[e];exact wr
 ·obtain⟨_,hm⟩:=mW.mp e;have hx:gu s.dn ((dW i m s.si s.L.length).filter (most m (dW i m s.si s.L.length)))<=s.L.length:=O8;generalize gu s.dn ((dW i m s.si s.L.length).filter (most m (dW i m s.si s.L.length)))=x at *;by_cases c:x<=0
  ·exact .inl c
  ·refine .inr ⟨s.te,x,⟨((gF i m).filter λk:Nat=>decide (x<=bP s.si k))++ [i], ?_, ?_,λj hj=> ?_⟩,fO _,pQ,by lia⟩
   ·refine Sy.mpr ⟨(List.nodup_range.filter _).filter _,by simp,λa ha b hb z=> ?_⟩;have ha:=(mW.mp ha).1;have:=Im ha;rw[cE.mp hb]at z
    lia
   ·unfold most dW at hm;have hm:=of_decide_eq_true hm;rw[List.filter_append,bQ,List.filter_map,dC]at hm;rw[bQ,kN];have:([(s.L.length:Int)].filter λy=>decide (x<=y)).length<=1:=bW (Di _ _) (by simp);have e:((gF i m).filter ((λy=>decide (x<=y)) ∘ λk:Nat=>bP s.si k)).length=((gF i m).filter λk:Nat=>decide (x<=bP s.si k)).length:=rfl
    lia
   ·rcases iG.mp hj with hj | hj
    ·obtain⟨h1,h2⟩:=mW.mp hj;have h2:=of_decide_eq_true h2;obtain⟨p,hp,e1,e2⟩:=zh (z:=x) (by lia) h2;obtain⟨q,e3,h3,e4,e5,e6,e7,e8⟩:=si p hp;have:q=j:=by lia
     subst this;exact⟨h3,e4,e5,e6,e7,by lia⟩
    ·rw[cE.mp hj];obtain⟨e4,e5,e6,e7,e8⟩:=me;exact⟨hi,e4,e5,e6,e7,by lia⟩
end
end WM
namespace WM
open PySem L2 VL
section
variable {m b:Nat}{w:aN}{g g':Gh}{i:Nat}{s s' s1:MS}{deed:Str}{what:D}{told:Option (List bF)}
theorem Kz.gb(h:Kz m w)(hs:w.ms[i]?=some s)(e1:s'.te=s.te)(e2:s'.o=s.o)(e3:s'.L=s.L)(e4:s'.role=s.role\/s'.role≠"leads")(e5:s'.si=s.si)(e6:s'.dn=s.dn)(ht:∀l,told=some l->∀x∈l,oE m (w.note i deed what told s').aC x):Kz m (w.note i deed what told s'):=by
 have k:=(h.ms i s hs).more (st':= [⟨i,deed,what,told,s'⟩]);refine h.note hs ⟨by rw[e2,e6];exact k.wr,by rw[e3,e6];exact k.dl,λq=> ?_⟩ ht;rw[e5,e1];rcases e4 with e4 | e4
 ·exact k.si (by rw[<- e4];exact q)
 ·exact absurd q e4
theorem Kz.bg(h:Kz m w)(k:Kw m w g)(hs:w.ms[i]?=some s)(hi:i < m)(jm:Jm m b w.ms i s)(x:bF)(kx:Kg m w g x)(zx:oE m w.aC x)(jx:Jg m w.ms x)(iW:x.to=i)(k':Kw m (w.note i "hear" (ay x) (some (WM.bg m i s x).2) (WM.bg m i s x).1) g'):
  Kz m (w.note i "hear" (ay x) (some (WM.bg m i s x).2) (WM.bg m i s x).1):=by
 have none:∀{st:List gW} l,some ([]:List bF)=some l->∀x∈l,oE m st x:=λl hl x hx=>by cases hl;cases hx
 have k1:=h.ms i s hs;cases x with
 |gH sn to t=>
  unfold WM.bg;dsimp only;by_cases c:t<=s.te
  ·rw[if_pos c];exact h.gb hs rfl rfl rfl (.inl rfl) rfl rfl none
  ·rw[if_neg c];refine h.note hs ⟨k1.wr.more,k1.dl,λq=>absurd q (by show ¬ (("hears":Str)="leads");decide +kernel)⟩ λl hl x hx=> ?_;cases hl;rw[cE.mp hx];trivial
 |cB sn to t o R=>
  unfold WM.bg at k' |-;dsimp only at k' |-;by_cases c:s.role="stands"/\t=s.te
  ·rw[if_pos c]at k' |-;exact h.lead hs rfl rfl rfl c.1 (O4 jm hs c.1) k' λl hl x hx=>by cases hl;cases hx
  ·rw[if_neg c];exact h.gb hs rfl rfl rfl (.inl rfl) rfl rfl none
 |keep sn to t R dn=>
  unfold WM.bg;dsimp only;by_cases c:t < s.te
  ·rw[if_pos c];exact h.gb hs rfl rfl rfl (.inl rfl) rfl rfl none
  ·rw[if_neg c];have ot:=jm.ot;have kx:Lg g t R:=kx;have zx:Wr m w.aC t dn:=zx;have t1:1<=t:=jx.2.1;have ek:(kept s t R).te=t/\(kept s t R).role="hears"/\(kept s t R).o=t/\s.dn<=(kept s t R).L.length:=by
    unfold kept
    split
    ·next q=>
     refine⟨rfl,rfl,rfl, ?_⟩;show s.dn<=R.length;have dl:=k1.dl;by_cases ct:s.o < t
     ·rcases k1.wr with z | ⟨T,z,a1,a2,a3,a4⟩
      ·lia
      ·obtain⟨hE,hI,_⟩:=kx.pre t1;have:=O6 k a3 a1 hE (by lia);have:=hI.length_le
       lia
     ·lia
    ·next q=>
     refine⟨rfl,rfl,by show s.o=t;lia,k1.dl⟩
   generalize kept s t R=q at *;obtain⟨e1,e2,e3,e4⟩:=ek;have m1:(if(q.L.length:Int) < dn then(q.L.length:Int) else dn)<=q.L.length/\(if(q.L.length:Int) < dn then(q.L.length:Int) else dn)<=dn:=by split <;> lia
   generalize (if(q.L.length:Int) < dn then(q.L.length:Int) else dn)=mn at *;have hw:Wr m w.aC t (if mn > s.dn then mn else s.dn):=by
    split
    ·exact zx.le (fO _) m1.2
    ·exact k1.wr.le (by lia) (fO _)
   refine h.note hs ⟨by show Wr m _ q.o _;rw[e3];exact hw.more, ?_,λz=>absurd (e2.symm.trans z) (by decide +kernel)⟩ λl hl x hx=> ?_
   ·show(if mn > s.dn then mn else s.dn)<=(q.L.length:Int)
    split
    ·exact m1.1
    ·exact e4
   ·cases hl;rw[cE.mp hx];refine⟨i,rfl,hi,_,i0 _ (cE.mpr rfl),rfl,e3,fO _⟩
 |kept sn to t z=>
  unfold WM.bg;dsimp only;by_cases c:s.role="leads"/\t=s.te
  ·rw[if_pos c];obtain⟨c,rfl⟩:=c;have lo:=jm.lo c;obtain⟨j,rfl,hj,O9⟩:=zx;have pQ:=(jm.own (by rw[c];decide +kernel)).2;have own:=(jm.own (by rw[c];decide +kernel)).1;have ld:z<=s.L.length:=by
    have:=jx.2.2.2 s (by rw[own,Aa];exact hs);exact this.2.2 c rfl
   refine h.note hs ?_ none;have Pa:∀p∈bV s.si j (if bP s.si j > z then bP s.si j else z),p.2<=s.L.length/\∃j:Nat,p.1=j/\j < m/\qH w.aC j s.te p.2:=λp hp=>by
    rcases oB _ _ _ _ hp with q | rfl
    ·exact⟨jm.sz c p q,k1.si c p q⟩
    ·show(if bP s.si j > z then bP s.si j else z)<=s.L.length/\_
     split
     ·next q=>
      by_cases c1:1<=bP s.si j
      ·obtain⟨p,hp,e1,e2⟩:=zh (fO 1) c1;obtain⟨j',e3,e4,e5⟩:=k1.si c p hp;have:=jm.sz c p hp;rw[<- e2];exact⟨this,j',by rw[<- e3,e1],e4,e5⟩
      ·obtain⟨e,a1,a2,a3,a4⟩:=O9;exact⟨by lia,j,rfl,hj,e,a1,a2,a3,by show bP s.si j<=_;lia⟩
     ·exact⟨ld,j,rfl,hj,O9⟩
   exact O7 (s:= { s with si:=bV s.si j (if bP s.si j > z then bP s.si j else z) }) _ c lo hi pQ jm.dn k1.wr.more k1.dl (λp hp=>(Pa p hp).1) (λp hp=>by obtain⟨j,a,b,c⟩:=(Pa p hp).2;exact⟨j,a,b,c.more⟩) ⟨_,i0 _ (cE.mpr rfl),rfl,lo,fO _⟩
  ·rw[if_neg c];exact h.gb hs rfl rfl rfl (.inl rfl) rfl rfl none
theorem Step.kz(st:Step m w w')(h:Ww m w)(j:Jw m w)(k:Kw m w g)(k':Kw m w' g')(z:Kz m w):Kz m w':=by
 have iZ:∀{i:Nat} {s:MS},w.ms[i]?=some s->Wg m w.aC.length s/\i < m:=λ{i s} hs=>⟨h.ms s (gk hs),by rw[<- h.n];exact(bB.mp hs).1⟩
 cases st with
 |bg fW q x i s hk iW hs=>
  have hg:=gk hk;obtain⟨ws,hi⟩:=iZ hs;unfold aN.told at k' |-;cases fW with
  |true=>exact z.bg k hs hi (j.ms i s hs) x (k.way x hg) (z.way x hg) (j.way x hg) iW k'
  |false=>
   have kc:Kw m (w.cut q) g:=k.less _ (λx hx=>w9 hx) _;have zc:Kz m (w.cut q):=⟨z.ms,λx hx=>z.way x (w9 hx)⟩
   exact zc.bg kc hs hi (j.ms i s hs) x (by
    have:=k.way x hg;cases x with
    |gH=>exact this
    |cB=>exact this
    |keep=>exact this
    |kept=>trivial) (z.way x hg) (j.way x hg) iW k'
 |rise i s hs=>
  obtain⟨ws,hi⟩:=iZ hs;have lt:=Ik i m s.te (by lia);have ot:=(j.ms i s hs).ot;have et:(WM.rise m i s).te=dU i m s.te:=by
   unfold WM.rise;rcases zi m { s with te:=dU i m s.te,role:="stands",vo:= [((i:Int),s.o,s.L)] } with e | ⟨_,_,_,e,_⟩
   ·rw[e]
   ·exact e
  refine z.lead (s1:= { s with te:=dU i m s.te,role:="stands",vo:= [((i:Int),s.o,s.L)] }) hs rfl rfl rfl rfl (by show s.o < dU i m s.te;lia) k' λl hl x hx=> ?_;cases hl;unfold kK at hx;obtain⟨q,_,rfl⟩:=iy.mp hx;exact⟨q,by rw[et]⟩
 |add i s r hs hr=>
  obtain⟨ws,hi⟩:=iZ hs;have jm:=j.ms i s hs;have k1:=z.ms i s hs;unfold iw;by_cases c:s.role="leads"
  ·rw[if_pos c];have lo:=jm.lo c;have pQ:=(jm.own (by rw[c];decide +kernel)).2;have sz:=jm.sz c;have dl:=k1.dl;have kc:=O7 (m:=m) (i:=i) (s:= { s with L:=s.L++ [r] }) (w.note i "add" r (some (keeps m i (count m i { s with L:=s.L++ [r] }))) (count m i { s with L:=s.L++ [r] })).aC c lo hi pQ jm.dn k1.wr.more (by show s.dn<=((s.L++ [r]).length:Nat);rw[bQ];lia) (λp hp=>by have:=sz p hp;show p.2<=((s.L++ [r]).length:Nat);rw[bQ];lia) (λp hp=>by obtain⟨j,a,b,d⟩:=k1.si c p hp;exact⟨j,a,b,d.more⟩) ⟨_,i0 _ (cE.mpr rfl),rfl,lo,fO _⟩;refine z.note hs kc λl hl x hx=> ?_;cases hl;obtain⟨to,rfl⟩:=we hx;exact kc.wr.le (by show s.o<=s.te;lia) (fO _)
  ·rw[if_neg c];exact z.gb hs rfl rfl rfl (.inl rfl) rfl rfl λl hl=>by cases hl
 |wc i s hs=>
  have dl:(0:Int)<=(s.L.length:Nat):=by lia
  refine z.note hs ⟨.inl (fO _),dl,λq=>absurd q (by show ¬ (("hears":Str)="leads");decide +kernel)⟩ λl hl x hx=>by cases hl;cases hx
 |send i s hs=>
  have jm:=j.ms i s hs;refine z.gb hs rfl rfl rfl (.inl rfl) rfl rfl λl hl x hx=> ?_;cases hl;unfold sends at hx;by_cases c:s.role="leads"
  ·rw[if_pos c]at hx;obtain⟨to,rfl⟩:=we hx;have lo:=jm.lo c;exact(z.ms i s hs).wr.more.le (by lia) (fO _)
  ·rw[if_neg c]at hx;cases hx
 |drop way hd hl=>exact⟨z.ms,λx hx=>z.way x (hd x hx)⟩
 |rows x=>exact⟨z.ms,z.way⟩
end
end WM
namespace WM
open PySem L2 VL
def bF.uc:bF->Bool
 |.cB ..=>true
 |_=>false
def iE:Option (List bF)->List bF
 |some l=>l.filter bF.uc
 |none=> []
structure Lw(m:Nat)(st:List gW)(e:gW):Prop where
 i:e.i < m
 CB:0<=e.st.te
 te:∀x∈st,x.i=e.i->x.st.te<=e.st.te
 ot:e.st.o<=e.st.te
 dl:e.st.dn<=e.st.L.length
 vo:iE e.told= []\/∃sn t o R,iE e.told= [.cB e.i sn t o R]/\t % m=sn/\∀t' o' R',ll st e.i t' o' R'->t' < t
 ld:e.st.role="leads"->e.st.te % m=e.i/\e.st.o=e.st.te/\∃Q:List Nat,Q.Nodup/\m < 2 * (Q.length + 1)/\∀q∈Q,q < m/\∃o R,ll (st++ [e]) q e.st.te o R
 lg:∀x∈st,x.st.o=e.st.o->x.st.L <+:e.st.L\/e.st.L <+:x.st.L
 tl:∀l,e.told=some l->l.length<=m + 1
 role:i4 e.st.role=true
inductive ud(m:Nat):List gW->Nat->List gW->Prop
 |nil (st:List gW) (n:Nat):ud m st n []
 |cons {st:List gW} {n:Nat} {e:gW} {es:List gW}:Lw m st e->ud m (st++ [e]) (n + 1) es->ud m st n (e::es)
inductive oI(m:Nat):List gW->Prop
 |nil:oI m []
 |snoc {st:List gW} {e:gW}:oI m st->Lw m st e->oI m (st++ [e])
theorem oI.fwd(f:oI m st):∀es,ud m st st.length es->ud m [] 0 (st++es):=by
 induction f with
 |nil=>exact λes h=>h
 |snoc f l ih=>
  intro es h;rw[dt];refine ih _ ?_;rw[bQ,kN]at h;exact .cons l h
theorem oI.all(f:oI m st):ud m [] 0 st:=by
 have h:=f.fwd [] (.nil _ _);rw[eW]at h;exact h
section
variable {m:Nat}{w w':aN}{g g':Gh}{i:Nat}{s s':MS}{deed:Str}{what:D}{told:Option (List bF)}
theorem wm(hi:i < m)(hl:i < w.ms.length)(h:Ww m (w.note i deed what told s'))(j:Jw m (w.note i deed what told s'))(k:Kw m (w.note i deed what told s') g')(z:Kz m (w.note i deed what told s'))
  (hv:iE told= []\/∃sn t o R,iE told= [.cB i sn t o R]/\t % m=sn/\∀t' o' R',ll w.aC i t' o' R'->t' < t) (tl:∀l,told=some l->l.length<=m + 1):Lw m w.aC ⟨i,deed,what,told,s'⟩:=by
 have hs:(w.note i deed what told s').ms[i]?=some s':=by rw[rN];exact dr hl
 have jm:=j.ms i s' hs;have km:=k.ms i s' hs;have mem:∀x∈w.aC,x∈(w.note i deed what told s').aC:=λx hx=>uB _ hx;refine⟨hi,jm.te,λx hx e=>((k.st x (mem x hx)).2.2 s' (by rw[e];exact hs)).1,jm.ot,(z.ms i s' hs).dl,hv,λq=> ?_,λx hx e=> ?_,tl, ?_⟩
 ·have q:s'.role="leads":=q;obtain⟨o1,_⟩:=jm.own (by rw[q];decide +kernel);obtain⟨d1,_,_⟩:=km.ld q;have vn:=(h.ms s' (gk hs)).wf.vn;have vk:=km.vo (by rw[q];decide +kernel);have kn:=Ir s'.vo vn λp hp=>by obtain⟨j,e,_⟩:=vk p hp;lia
  refine⟨o1,jm.lo q,(s'.vo.map λp=>p.1.toNat).erase i,kn.erase i, ?_,λx hx=> ?_⟩
  ·have:(s'.vo.map λp=>p.1.toNat).length<=((s'.vo.map λp=>p.1.toNat).erase i).length + 1:=by
    rw[List.length_erase]
    split <;> lia
   rw[dC]at this
   lia
  ·obtain⟨ne,hx⟩:=(aex kn).mp hx;obtain⟨p,hp,rfl⟩:=iy.mp hx;obtain⟨j,e,v,c⟩:=vk p hp;have ej:p.1.toNat=j:=by lia
   rw[ej]at ne |-;rcases c with c | c
   ·exact absurd c ne
   ·exact⟨v.hj,_,_,c⟩
 ·have e:x.st.o=s'.o:=e;show x.st.L <+:s'.L\/s'.L <+:x.st.L;have l1:=(k.st x (mem x hx)).2.1;have l2:=km.lg;rw[e]at l1;rcases l1 with⟨a,b⟩ | ⟨a,b,c,d⟩
  ·rw[b];exact .inl (aez)
  ·exact List.prefix_or_prefix_of_prefix d (l2.pre a).2.2
 ·rcases(h.ms s' (gk hs)).wf.role with e | e | e <;> rw[e]<;> decide +kernel
theorem Iu(h:∀x∈l,x.uc=false):iE (some l)= []:=List.filter_eq_nil_iff.mpr λx hx=>by rw[h x hx];exact ji
theorem Step.CJ(st:Step m w w')(h:Ww m w)(h':Ww m w')(j':Jw m w')(k:Kw m w g)(k':Kw m w' g')(z':Kz m w')(f:oI m w.aC):oI m w'.aC:=by
 have iZ:∀{i:Nat} {s:MS},w.ms[i]?=some s->i < m/\i < w.ms.length:=λ{i s} hs=>by
  have:=(bB.mp hs).1;exact⟨by rw[<- h.n];exact this,this⟩
 have Pb:∀{i:Nat} {s:MS},(keeps m i s).length<=m + 1:=λ{i s}=>by unfold keeps;rw[dC];have:=qG i m;lia
 have Pc:∀{i:Nat} {s:MS},∀x∈keeps m i s,x.uc=false:=λx hx=>by obtain⟨to,rfl⟩:=we hx;rfl
 cases st with
 |bg fW q x i s hk iW hs=>
  obtain⟨hi,hl⟩:=iZ hs;have hg:=gk hk;have hv:iE (some (WM.bg m i s x).2)= []\/∃sn t o R,iE (some (WM.bg m i s x).2)= [.cB i sn t o R]/\t % m=sn/\∀t' o' R',ll w.aC i t' o' R'->t' < t:=by
   cases x with
   |gH sn to t=>
    unfold WM.bg;dsimp only;by_cases c:t<=s.te
    ·rw[if_pos c];exact .inl rfl
    ·rw[if_neg c];refine .inr ⟨sn,t,s.o,s.L,rfl,k.way _ hg,λt' o' R' v=> ?_⟩;have:=((k.vt i t' o' R' v).now s hs).1
     lia
   |cB=>unfold WM.bg;dsimp only;split <;> exact .inl rfl
   |keep=>unfold WM.bg;dsimp only;split <;> exact .inl rfl
   |kept=>unfold WM.bg;dsimp only;split <;> exact .inl rfl
  have tl:∀l,some (WM.bg m i s x).2=some l->l.length<=m + 1:=λl hl=>by
   cases hl;cases x <;> (unfold WM.bg;dsimp only;split <;> simp)
  unfold aN.told at h' j' k' z' |-;cases fW with
  |true=>exact f.snoc (wm hi hl h' j' k' z' hv tl)
  |false=>exact oI.snoc (st:=w.aC) f (wm (w:=w.cut q) hi hl h' j' k' z' hv tl)
 |rise i s hs=>
  obtain⟨hi,hl⟩:=iZ hs;exact f.snoc (wm hi hl h' j' k' z' (.inl (Iu λx hx=>by unfold kK at hx;obtain⟨q,_,rfl⟩:=iy.mp hx;rfl)) λl hl=>by cases hl;unfold kK;rw[dC];have:=qG i m;lia)
 |add i s r hs hr=>
  obtain⟨hi,hl⟩:=iZ hs;refine f.snoc (wm hi hl h' j' k' z' (.inl ?_) ?_)
  ·unfold iw
   split
   ·exact Iu Pc
   ·rfl
  ·unfold iw
   split
   ·intro l hl;cases hl;exact Pb
   ·intro l hl;cases hl
 |wc i s hs=>
  obtain⟨hi,hl⟩:=iZ hs;exact f.snoc (wm hi hl h' j' k' z' (.inl rfl) λl hl=>by cases hl;simp)
 |send i s hs=>
  obtain⟨hi,hl⟩:=iZ hs;refine f.snoc (wm hi hl h' j' k' z' (.inl ?_) ?_)
  ·unfold sends
   split
   ·exact Iu Pc
   ·rfl
  ·intro l hl;cases hl;unfold sends
   split
   ·exact Pb
   ·simp
 |drop way hd hl=>exact f
 |rows x=>exact f
end
structure Ja(m:Nat)(w:aN):Prop where
 ww:Ww m w
 jw:Jw m w
 kw:∃g,Kw m w g
 kz:Kz m w
 CJ:oI m w.aC
theorem iN.all{m:Nat}(hm:m < 40){w w':aN}(st:iN m w w'):Ja m w->Ja m w':=by
 induction st with
 |refl=>exact λa=>a
 |cons s _ ih=>
  intro a;obtain⟨g,k⟩:=a.kw;obtain⟨g',_,k'⟩:=s.kw a.ww a.jw k;have h':=s.ww hm a.ww;have j':=s.jw a.ww a.jw;have z':=s.kz a.ww a.jw k k' a.kz;exact ih ⟨h',j',⟨g',k'⟩,z',s.CJ a.ww h' j' k k' z' a.CJ⟩
theorem ZN(m:Nat)(h:Ww m ⟨gL m s0, [], [],0⟩):Ja m ⟨gL m s0, [], [],0⟩:=by
 have e:∀{i:Nat} {s:MS},(gL m s0)[i]?=some s->s=s0:=λhs=>Sw (gk hs);refine⟨h,ZI m,⟨⟨λ_=>False,λ_=> [],λ_=> []⟩,λi s hs=> ?_,(λ_ q=>by cases q),(λ_ q=>by cases q),λi t o R hv=> ?_,λ_ q=>q.elim⟩,⟨λi s hs=> ?_,(λ_ q=>by cases q)⟩, .nil⟩
 ·cases e hs;exact⟨.inl ⟨rfl,rfl⟩,λq=>absurd rfl q,λq=>absurd q (by show ¬ (("hears":Str)="leads");decide +kernel)⟩
 ·obtain⟨_,q,_⟩:=hv;cases q
 ·cases e hs;exact⟨.inl (fO _),fO _,λq=>absurd q (by show ¬ (("hears":Str)="leads");decide +kernel)⟩
end WM
namespace WM
open PySem L2 VL
structure Sn where
 T:List (Int×Int)
 V:List (Int×Int)
 G:List (Int×List D)
def gJ:List (Int×List D)->Int->List D
 | [],_=> []
 |p::G,i=>if p.1=i then p.2 else gJ G i
def dA:List aY:= [.inr "terms", .inr "voices", .inr "logs"]
def ju(p:Int×Int):List aY:= [.inl p.1, .inl p.2]
def gV(V:List (Int×Int)):D:= .nd (.iK (V.map ju)) (V.map λ_=>tD true)
def jW(G:List (Int×List D)):D:= .nd (.aB (G.map λp=> .inl p.1)) (G.map λp=> .nd .tup p.2)
def iO(S:Sn):D:= .nd (.aB dA) [bN S.T,gV S.V,jW S.G]
theorem Iv(h:ju p=ju q):p=q:=by
 unfold ju at h;injection h with h1 h2
 injection h2 with h2 _
 exact Prod.ext (rX h1) (rX h2)
theorem CK{κ:Type}[DecidableEq κ]{k:κ}:∀{ks:List κ},(dk k ks).isSome=true↔k∈ks
 | []=>by simp[dk]
 |g::r=>by
  have ih:=CK (k:=k) (ks:=r);rw[dk];by_cases c:g=k
  ·rw[if_pos c];simp[c]
  ·rw[if_neg c,Se,ih,gK];exact⟨.inr,λz=>z.resolve_left λq=>c q.symm⟩
theorem Pd(V:List (Int×Int))(i t:Int):oQ (.nd .tup [iD i,iD t]) (gV V)=some (decide ((i,t)∈V)):=by
 have e:eN (gV V) (.nd .tup [iD i,iD t])=some (dk (ju (i,t)) (V.map ju)):=by
  simp[eN,gV,mT,gg,ju]
 show(eN (gV V) (.nd .tup [iD i,iD t])).map (·.isSome)=_;rw[e];show some (dk (ju (i,t)) (V.map ju)).isSome=_
 congr 1;by_cases c:(i,t)∈V
 ·rw[decide_eq_true c];exact CK.mpr (aeu c)
 ·rw[decide_eq_false c];cases q:(dk (ju (i,t)) (V.map ju)).isSome with
  |false=>rfl
  |true=>
   obtain⟨p,hp,e⟩:=iy.mp (CK.mp q);exact absurd (Iv e▸hp) c
theorem ZO(V:List (Int×Int))(i t:Int)(hn:V.Nodup)(hz:V.length<=900)(h:(i,t)∉V):BU (.iK (V.map ju)) (V.map λ_=>tD true) (.nd .tup [iD i,iD t]) (tD true)=some (gV (V++ [(i,t)])):=by
 have h1:(V.map λ_=>tD true).length < aK:=by rw[dC];exact wV hz (by decide)
 have h2:(V.map ju).Nodup:=Sz _ (λa b h z=>h (Iv z)) hn;have e1:yf (.nd .tup [iD i,iD t])=some (ju (i,t)):=by
  simp[yf,mT,gg,ju]
 have e2:dk (ju (i,t)) (V.map ju)=none:=by
  cases q:dk (ju (i,t)) (V.map ju) with
  |none=>rfl
  |some _=>
   obtain⟨p,hp,e⟩:=iy.mp (CK.mp (by rw[q];rfl));exact absurd (Iv e▸hp) h
 unfold BU;show(yf _).bind _=_;rw[e1];show(if _ then _ else _)=_;rw[if_pos ⟨h1,h2⟩,e2];simp[gV]
theorem Pe{α:Type}(f:α->D):∀(l:List (Int×α)) (i:Int) (x:α),(match dk (cb i:aY) (l.map λp=>(cb p.1:aY)) with | some k=>D.nd (.aB (l.map λp=>(cb p.1:aY))) ((l.map λp=>f p.2).set k (f x)) | none=>D.nd (.aB (l.map (λp=>(cb p.1:aY))++ [cb i])) ((l.map λp=>f p.2)++ [f x]))=D.nd (.aB ((bV l i x).map λp=>(cb p.1:aY))) ((bV l i x).map λp=>f p.2)
 | [],_,_=>rfl
 |p::l,i,x=>by
  have ih:=Pe f l i x;by_cases h:p.1=i
  ·simp[dk,bV,h]
  ·have hk:¬ (cb p.1:aY)=cb i:=λz=>h (rX z);rw[dZ,dZ,dk,if_neg hk,bV,if_neg h];cases e:dk (cb i:aY) (l.map λp=>(cb p.1:aY)) with
   |none=>
    rw[e]at ih;injection ih with i1 i2
    injection i1 with i1
    simp only[aeA,dZ,Sk];rw[i1,i2]
   |some k=>
    rw[e]at ih;injection ih with i1 i2
    injection i1 with i1
    simp only[aeB,dZ,aeC];rw[i1,i2]
theorem RD{α:Type}(f:α->D)(l:List (Int×α))(i:Int)(x:α)(hn:(l.map (·.1)).Nodup)(hz:l.length<=900):nr (.aB (l.map λp=>(cb p.1:aY))) (l.map λp=>f p.2) (iD i) (f x)=some (.nd (.aB ((bV l i x).map λp=>(cb p.1:aY))) ((bV l i x).map λp=>f p.2)):=by
 have h1:(l.map λp=>f p.2).length < aK:=by rw[dC];exact wV hz (by decide)
 have h2:(l.map λp=>(cb p.1:aY)).Nodup:=by
  have e:(l.map λp=>(cb p.1:aY))=(l.map (·.1)).map cb:=by rw[xa];rfl
  rw[e];exact Sz _ (λa b h z=>h (rX z)) hn
 have e:=Pe f l i x;unfold nr;show(if _ then _ else _)=_;rw[if_pos ⟨h1,h2⟩, <- e];cases dk (cb i:aY) (l.map λp=>(cb p.1:aY)) <;> rfl
theorem ZP(T:List (Int×Int))(i x:Int)(hn:(T.map (·.1)).Nodup)(hz:T.length<=900):nr (.aB (T.map λp=>(cb p.1:aY))) (T.map λp=>iD p.2) (iD i) (iD x)=some (bN (bV T i x)):=RD iD T i x hn hz
theorem ZQ(G:List (Int×List D))(i:Int)(L:List D)(hn:(G.map (·.1)).Nodup)(hz:G.length<=900):nr (.aB (G.map λp=>(cb p.1:aY))) (G.map λp=> .nd .tup p.2) (iD i) (.nd .tup L)=some (jW (bV G i L)):=RD (λL=> .nd .tup L) G i L hn hz
theorem Pf:∀(G:List (Int×List D)) (i:Int),(match dk (cb i:aY) (G.map λp=>(cb p.1:aY)) with | some k=>(G.map λp=>D.nd .tup p.2)[k]? | none=>some (.nd .tup []))=some (.nd .tup (gJ G i))
 | [],_=>rfl
 |p::S,i=>by
  have ih:=Pf S i;by_cases h:p.1=i
  ·simp[dk,gJ,h]
  ·have hk:¬ (cb p.1:aY)=cb i:=λz=>h (rX z);rw[dZ,dZ,dk,if_neg hk,gJ,if_neg h];cases e:dk (cb i:aY) (S.map λp=>(cb p.1:aY)) with
   |none=>rw[e]at ih;exact ih
   |some k=>rw[e]at ih;simpa using ih
theorem ZR(G:List (Int×List D))(i:Int):(eN (jW G) (iD i)).bind (fun | some k=>aZ (jW G) k | none=>some (.nd .tup []))=some (.nd .tup (gJ G i)):=Pf G i
theorem CL:∀(S:List (Int×Int)) (i x k:Int),bP (bV S i x) k=if i=k then x else bP S k
 | [],i,x,k=>by by_cases d:i=k <;> simp[bV,bP,d]
 |p::S,i,x,k=>by
  rw[bV];by_cases c:p.1=i
  ·rw[if_pos c,bP,bP];by_cases d:i=k
   ·rw[if_pos d,if_pos d]
   ·rw[if_neg d,if_neg d,if_neg (by lia)]
  ·rw[if_neg c,bP,bP,CL S i x k];by_cases d:p.1=k
   ·rw[if_pos d,if_neg (by lia),if_pos d]
   ·rw[if_neg d,if_neg d]
theorem CM:∀(S:List (Int×List D)) (i:Int) (x:List D) (k:Int),gJ (bV S i x) k=if i=k then x else gJ S k
 | [],i,x,k=>by by_cases d:i=k <;> simp[bV,gJ,d]
 |p::S,i,x,k=>by
  rw[bV];by_cases c:p.1=i
  ·rw[if_pos c,gJ,gJ];by_cases d:i=k
   ·rw[if_pos d,if_pos d]
   ·rw[if_neg d,if_neg d,if_neg (by lia)]
  ·rw[if_neg c,gJ,gJ,CM S i x k];by_cases d:p.1=k
   ·rw[if_pos d,if_neg (by lia),if_pos d]
   ·rw[if_neg d,if_neg d]
structure wo(st:List gW)(S:Sn):Prop where
 t:∀i:Nat,bP S.T i=0\/∃x∈st,x.i=i/\bP S.T i=x.st.te
 tn:(S.T.map (·.1)).Nodup
 tl:S.T.length<=st.length
 v:∀(i:Nat) (t:Int),((i:Int),t)∈S.V↔∃o R,ll st i t o R
 vn:S.V.Nodup
 vl:S.V.length<=st.length
 g:∀o,gJ S.G o= []\/∃x∈st,x.st.o=o/\gJ S.G o=x.st.L
 gn:(S.G.map (·.1)).Nodup
 gl:S.G.length<=st.length
def rP(i:Nat):bF->Int×Int
 |.cB _ _ t _ _=>(i,t)
 |_=>(i,0)
def Sn.put(S:Sn)(e:gW):Sn:=⟨bV S.T e.i e.st.te,S.V++(iE e.told).map (rP e.i),if(gJ S.G e.st.o).length < e.st.L.length then bV S.G e.st.o e.st.L else S.G⟩
theorem Pg:bF.cB sn to tm o R∈iE t↔∃l,t=some l/\bF.cB sn to tm o R∈l:=by
 cases t with
 |none=>exact⟨(λh=>by cases h),λz=>by obtain⟨l,h,_⟩:=z;cases h⟩
 |some l=>
  constructor
  ·intro h;exact⟨l,rfl,(mW.mp h).1⟩
  ·rintro⟨l,e,h⟩;cases e;exact mW.mpr ⟨h,rfl⟩
theorem wo.put(h:wo st S)(l:Lw m st e):wo (st++ [e]) (S.put e):=by
 have hl:(st++ [e]).length=st.length + 1:=by rw[bQ,kN]
 have new:e∈st++ [e]:=i0 _ (cE.mpr rfl);have old:∀{x},x∈st->x∈st++ [e]:=λhx=>uB _ hx;have gd:(S.put e).G=bV S.G e.st.o e.st.L\/(S.put e).G=S.G:=by
  show(if _ then _ else _)=_\/(if _ then _ else _)=_
  split
  ·exact .inl rfl
  ·exact .inr rfl
 refine⟨λi=> ?_,v5 _ _ _ h.tn, ?_,λi t=> ?_, ?_, ?_,λo=> ?_, ?_, ?_⟩
 ·show bP (bV S.T e.i e.st.te) i=0\/_;by_cases c:(e.i:Int)=i
  ·exact .inr ⟨e,new,by lia,by show bP (bV S.T e.i e.st.te) i=_;rw[CL,if_pos c]⟩
  ·rcases h.t i with q | ⟨x,a,b,d⟩
   ·exact .inl (by rw[CL,if_neg c];exact q)
   ·exact .inr ⟨x,old a,b,by show bP (bV S.T e.i e.st.te) i=_;rw[CL,if_neg c];exact d⟩
 ·have:=Ia S.T e.i e.st.te;have:=h.tl;show(bV S.T e.i e.st.te).length<=_
  lia
 ·show _∈S.V++(iE e.told).map (rP e.i)↔_;rw[iG,h.v i t]
  constructor
  ·rintro(⟨o,R,q⟩ | q)
   ·exact⟨o,R,by obtain⟨x,a,b⟩:=q;exact⟨x,old a,b⟩⟩
   ·rcases l.vo with z | ⟨sn,t',o,R,z,_,_⟩
    ·rw[z]at q;cases q
    ·have mem:bF.cB (e.i:Int) sn t' o R∈iE e.told:=by rw[z];exact cE.mpr rfl
     rw[z]at q;have q:=cE.mp q;have q1:(i:Int)=e.i:=(Su q).1;have q2:t=t':=(Su q).2;have ei:i=e.i:=by lia
     subst ei;subst q2;obtain⟨l',e1,e2⟩:=Pg.mp mem;exact⟨o,R,e,new,rfl,l',e1,sn,e2⟩
  ·rintro⟨o,R,x,hx,b,l',e1,to,e2⟩;rcases iG.mp hx with hx | hx
   ·exact .inl ⟨o,R,x,hx,b,l',e1,to,e2⟩
   ·rw[cE.mp hx]at b e1
    right;exact iy.mpr ⟨_,Pg.mpr ⟨l',e1,e2⟩,by show((e.i:Int),t)=_;rw[b]⟩
 ·show(S.V++(iE e.told).map (rP e.i)).Nodup;rcases l.vo with z | ⟨sn,t',o,R,z,_,fr⟩
  ·rw[z];simpa using h.vn
  ·rw[z];refine Sy.mpr ⟨h.vn,by simp,λa ha b hb q=> ?_⟩;rw[cE.mp hb]at q;have q:a=((e.i:Int),t'):=q;rw[q]at ha;obtain⟨o',R',v⟩:=(h.v e.i t').mp ha;exact Sx _ (fr t' o' R' v)
 ·show(S.V++(iE e.told).map (rP e.i)).length<=_;have:=h.vl;rw[bQ,dC];rcases l.vo with z | ⟨sn,t',o,R,z,_,fr⟩
  ·rw[z,JD];lia
  ·rw[z,kN];lia
 ·rcases gd with q | q
  ·rw[q];by_cases c:e.st.o=o
   ·exact .inr ⟨e,new,c,by rw[CM,if_pos c]⟩
   ·rcases h.g o with q | ⟨x,a,b,d⟩
    ·exact .inl (by rw[CM,if_neg c];exact q)
    ·exact .inr ⟨x,old a,b,by rw[CM,if_neg c];exact d⟩
  ·rw[q];rcases h.g o with q | ⟨x,a,b,d⟩
   ·exact .inl q
   ·exact .inr ⟨x,old a,b,d⟩
 ·rcases gd with q | q
  ·rw[q];exact v5 _ _ _ h.gn
  ·rw[q];exact h.gn
 ·have:=h.gl;rcases gd with q | q
  ·rw[q];have:=Ia S.G e.st.o e.st.L
   lia
  ·rw[q];lia
end WM
namespace K85
open PySem L2 VL WM
variable [fM K C]
theorem Ph:(af "terms"=af "voices")=False:=cV
theorem Pj:(af "terms"=af "logs")=False:=cV
theorem Pk:(af "voices"=af "logs")=False:=cV
theorem Pm(a b c:D):aE (.nd (.aB dA) [a,b,c]) (.sc (.str "terms"))=some 0:=by
 simp[aE,fB,eN,dA,dk,gg]
theorem Pn(a b c:D):aE (.nd (.aB dA) [a,b,c]) (.sc (.str "voices"))=some 1:=by
 simp[aE,fB,eN,dA,dk,gg,Ph]
theorem Po(a b c:D):aE (.nd (.aB dA) [a,b,c]) (.sc (.str "logs"))=some 2:=by
 simp[aE,fB,eN,dA,dk,gg,Pj,Pk]
def eS(W:D)(m:Nat)(row i deed what told ZS te o L dn role:D)(x13 x14:Option B):En:= [some (.ar 15 []),some (.ro (iD m)),some (.ro row),some (.own i),some (.own deed),some (.own what),some (.own told),some (.own ZS),some (.own te),some (.own o),some (.own L),some (.own dn),some (.own role),x13,x14,some (.own W)]
theorem ZT:∀g:bF,i4 g.word=true
 |.gH ..=>(by decide +kernel:i4 "stand"=true)
 |.cB ..=>(by decide +kernel:i4 "voice"=true)
 |.keep ..=>(by decide +kernel:i4 "keep"=true)
 |.kept ..=>(by decide +kernel:i4 "kept"=true)
theorem ZU(told:Option (List bF))(h:∀l,told=some l->(∀g∈l,g.ok b)/\l.length<=100):zf K C [d6 told]=some (.nd .lst ((iE told).map ay)):=by
 unfold zf HU;dsimp only;refine Bz (ρ':= [some (.ro (d6 told))]) (qv (oo ?_));have key:∀l:List bF,(∀g∈l,g.ok b)->l.length<=100->iE told=l.filter bF.uc->(tZ (ab 0) (cu Kd.lst λx=>some [])) [some (.ro (d6 told))]=some (.nd .eL (l.map ay))\/((tZ (ab 0) (cu Kd.lst λx=>some [])) [some (.ro (d6 told))]=some (.nd .lst (l.map ay)))->kl 1 [none] [0] (λZ=>(tZ (ab 0) (cu Kd.lst λx=>some []) Z).bind ir) (λd Z=>some (bw 0 (B.ro d) Z)) (λZ=>(aq (fj id) (aq (aX aE bq) (ab 0) λx=>some (D.sc (V.int 0))) (λx=>some (D.sc (V.str (af "voice")))) Z).bind λx=>match x with | D.sc (V.bl b)=>some b | x=>none) (dY (ab 0)) [some (.ro (d6 told))]=some (.nd .lst ((iE told).map ay)):=λl hl hz hv hf=>by
  rw[hv];refine nB l ay bF.uc ay ?_ (bW hz (by decide)) rfl ?_
  ·rcases hf with hf | hf
   ·exact ae.mpr ⟨_,hf,rfl⟩
   ·exact ae.mpr ⟨_,hf,rfl⟩
  ·intro g hg;have hp:=Cz (hl g hg);refine⟨[some (.ro (ay g))],by simp[gD,bw,gD,ab,cv,dI], ?_,λ_=> ?_⟩
   ·have hw:fj id (.sc (.str g.word)) (.sc (.str "voice"))=some (.sc (.bl g.uc)):=by
     rw[tP _ _ (ZT g) (by decide +kernel)];have hd:decide (g.word="voice")=g.uc:=by
      cases g with
      |cB=>exact decide_eq_true rfl
      |gH=>exact decide_eq_false (by show ¬ (("stand":Str)="voice");decide +kernel)
      |keep=>exact decide_eq_false (by show ¬ (("keep":Str)="voice");decide +kernel)
      |kept=>exact decide_eq_false (by show ¬ (("kept":Str)="voice");decide +kernel)
     rw[hd]
    have hi:aX aE bq (ay g) (.sc (.int 0))=some (.sc (.str g.word)):=by
     cases g <;> rfl
    generalize ay g=M at *;simp[hw,hi,bD,ab,aq]
   ·generalize ay g=M at *;simp[hp,bD,ab,dY]
 cases told with
 |none=>exact key [] (λ_ h=>by cases h) (by decide) rfl (.inr (by simp[tZ,yT,d6,bD,ab,cu]))
 |some l=>
  cases l with
  |nil=>exact key [] (λ_ h=>by cases h) (by decide) rfl (.inr (by simp[tZ,yT,d6,bD,ab,cu]))
  |cons x l=>
   obtain⟨h1,h2⟩:=h _ rfl;exact key (x::l) h1 h2 rfl (.inl (by simp[tZ,yT,d6,bD,ab,cu]))
theorem ZV{A B:List D}(ha:cx A)(hb:cx B)(h:A <+:B\/B <+:A):zg K C [.nd .tup A, .nd .tup B]=some (tD true):=by
 have e:∃k:Nat,(if(B.length:Int) < (A.length:Int) then(B.length:Int) else(A.length:Int))=(k:Int)/\A.take k=B.take k:=by
  split
  ·next c=>
   refine⟨B.length,rfl, ?_⟩;rcases h with h | h
   ·have:=h.length_le;lia
   ·rw[CI h (bK _)]
  ·next c=>
   refine⟨A.length,rfl, ?_⟩;rcases h with h | h
   ·rw[CI h (bK _)]
   ·have:=h.length_le;rw[CI h (by lia)]
 obtain⟨k,e1,e2⟩:=e;have e3:(if B.length < A.length then(B.length:Int) else(A.length:Int))=(k:Int):=by
  rw[<- e1];by_cases c:B.length < A.length
  ·rw[if_pos c,if_pos (by lia)]
  ·rw[if_neg c,if_neg (by lia)]
 have hx:Ex 2 (.nd .tup (A.take k)):=H9 λd hd=>ha d (JL hd);have ex:fj id (.nd .tup (A.take k)) (.nd .tup (A.take k))=some (.sc (.bl true)):=by
  obtain⟨c,hc,q⟩:=Ex.eq hx hx (by decide) (by decide) id;rw[q,hc.mpr rfl];rfl
 have s1:pK (.nd .tup A) none (some (k:Int))=some (.nd .tup (A.take k)):=by show some (D.nd .tup (cutD A none (some (k:Int))))=_;rw[Cv]
 have s2:pK (.nd .tup B) none (some (k:Int))=some (.nd .tup (A.take k)):=by show some (D.nd .tup (cutD B none (some (k:Int))))=_;rw[Cv,e2]
 have l1:bY [.nd .tup A]=some (iD A.length):=by simp[bY]
 have l2:bY [.nd .tup B]=some (iD B.length):=by simp[bY]
 unfold zg HV;dsimp only;generalize D.nd .tup (A.take k)=X at *;generalize D.nd .tup A=XA at *;generalize D.nd .tup B=XB at *;simp[l1,l2,e3,s1,s2,ex,Bw,gC,bD,bw,cY,au,ab,pF,aq,dR,dG,fE,rV,cv,fm,dI]
end K85
namespace K85
open PySem L2 VL WM
variable [fM K C]
theorem ql(a b c:D):aX aE bq (.nd (.aB dA) [a,b,c]) (.sc (.str "terms"))=some a:=by
 show(aE (.nd (.aB dA) [a,b,c]) (.sc (.str "terms"))).bind (aZ (.nd (.aB dA) [a,b,c]))=some a;rw[Pm];rfl
theorem Pp(a b c:D):aX aE bq (.nd (.aB dA) [a,b,c]) (.sc (.str "voices"))=some b:=by
 show(aE (.nd (.aB dA) [a,b,c]) (.sc (.str "voices"))).bind (aZ (.nd (.aB dA) [a,b,c]))=some b;rw[Pn];rfl
theorem du(a b c:D):aX aE bq (.nd (.aB dA) [a,b,c]) (.sc (.str "logs"))=some c:=by
 show(aE (.nd (.aB dA) [a,b,c]) (.sc (.str "logs"))).bind (aZ (.nd (.aB dA) [a,b,c]))=some c;rw[Po];rfl
theorem ZW(h1:fd Z=some (bN T))(h2:fy Z=some (iD i))(h3:fx Z=some (iD 0)):jT fd fy fx Z=some (iD (bP T i)):=ae.mpr ⟨_,h1,ae.mpr ⟨_,h2,ae.mpr ⟨_,h3,HZ T i⟩⟩⟩
theorem ZX(h1:fd Z=some (jW G))(h2:fy Z=some (iD i))(h3:fx Z=some (.nd .tup [])):jT fd fy fx Z=some (.nd .tup (gJ G i)):=ae.mpr ⟨_,h1,ae.mpr ⟨_,h2,ae.mpr ⟨_,h3,ZR G i⟩⟩⟩
theorem ZY:VL.plain (.nd (.aB ks) cs)=false:=by simp[VL.plain]
theorem ZZ(hp:VL.plain (.nd .tup [a,b,c,d,e])=true):yi [3,4,5,6,7] (fD 2) [some (.ar 15 []),some (.ro (iD m)),some (.ro (.nd .tup [a,b,c,d,e])),none,none,none,none,none,none,none,none,none,none,none,none,some (.own W)]=some (.nx [some (.ar 15 []),some (.ro (iD m)),some (.ro (.nd .tup [a,b,c,d,e])),some (.own a),some (.own b),some (.own c),some (.own d),some (.own e),none,none,none,none,none,none,none,some (.own W)]):=by
 simp[hp,bD,bw,binds,ab,fD,yi,Bp,cv,fT,fm,dI,gE]
theorem Z0{W row i deed what told a b c d e:D}{m:Nat}(hp:VL.plain (.nd .tup [a,b,c,d,e])=true):yi [8,9,10,11,12] (fD 7) [some (.ar 15 []),some (.ro (iD m)),some (.ro row),some (.own i),some (.own deed),some (.own what),some (.own told),some (.own (.nd .tup [a,b,c,d,e])),none,none,none,none,none,none,none,some (.own W)]=some (.nx (eS W m row i deed what told (.nd .tup [a,b,c,d,e]) a b c d e none none)):=by
 unfold eS;simp[hp,bD,bw,binds,ab,fD,yi,Bp,cv,fT,fm,dI,gE]
theorem Z1(h1:bP T i<=te)(h2:o<=te)(h3:dn<=L.length):(lC (λZ=>(aq (eU λi j=>V.bl (decide (i < j))) (ab 8) (jT (aq (aX aE bq) (ab 0) λx=>some (D.sc (V.str (af "terms")))) (ab 3) (λx=>some (D.sc (V.int 0)))) Z).bind λx=>match x with | D.sc (V.bl b)=>some b | x=>none) (lC (λZ=>(aq (eU λi j=>V.bl (decide (j < i))) (ab 9) (ab 8) Z).bind λx=>match x with | D.sc (V.bl b)=>some b | x=>none) (λZ=>(aq (eU λi j=>V.bl (decide (j < i))) (ab 11) (λZ=>(au (ab 10) (λx=>some []) Z).bind bY) Z).bind λx=>match x with | D.sc (V.bl b)=>some b | x=>none))) (eS (.nd (.aB dA) [bN T,b,c]) m row (iD i) deed what told th (iD te) (iD o) (.nd .tup L) (iD dn) (.sc (.str role)) x13 x14)=some false:=by
 have e:jT (aq (aX aE bq) (ab 0) λx=>some (D.sc (V.str (af "terms")))) (ab 3) (λx=>some (D.sc (V.int 0))) (eS (.nd (.aB dA) [bN T,b,c]) m row (iD i) deed what told th (iD te) (iD o) (.nd .tup L) (iD dn) (.sc (.str role)) x13 x14)=some (iD (bP T i)):=ZW (by
  unfold eS;generalize bN T=TT at *;simp[ql,bD,ab,ag,aq,ak]) rfl rfl
 have l1:bY [.nd .tup L]=some (iD L.length):=by simp[bY]
 have d1:¬ te < bP T i:=by lia
 have d2:¬ te < o:=by lia
 have d3:¬ (L.length:Int) < dn:=by lia
 unfold eS at e |-;generalize bN T=TT at *;generalize D.nd .tup L=LL at *;simp[e,l1,d1,d2,d3,bD,au,ab,eU,aq,lC]
theorem Z2(rQ:NA x13)(ue:NA x14)(hn:(T.map (·.1)).Nodup)(hz:T.length<=900):(jq (fD 8) (gf aE (az 0) λx=>some (D.sc (V.str (af "terms")))) (ab 3)) (eS (.nd (.aB dA) [bN T,b,c]) m row (iD i) deed what told th (iD te) (iD o) (.nd .tup L) (iD dn) (.sc (.str role)) x13 x14)=some (.nx (eS (.nd (.aB dA) [bN (bV T i te),b,c]) m row (iD i) deed what told th (iD te) (iD o) (.nd .tup L) (iD dn) (.sc (.str role)) x13 x14)):=by
 have hp:=ZP T i te hn hz;have e1:bN T= .nd (.aB (T.map λp=>(cb p.1:aY))) (T.map λp=>iD p.2):=rfl;unfold eS;rw[e1];generalize bN (bV T i te)=T2 at *;generalize (T.map λp=>iD p.2)=vs at *;generalize (T.map λp=>(cb p.1:aY))=ks at *;generalize D.nd .tup L=LL at *;simp[Pm,hp,ic,cK rQ,cK ue,bD,ab,jq,eM,ag,cT,gf,aZ,fD,fL,dw,jb,az,VL.plain,bf,bx,gU,oq,ak,aG]
theorem Z3{row deed what told th:D}{m:Nat}{a c:D}{Vs:List (Int×Int)}{i te o dn sn t o2:Int}{L R:List D}{role:Str}{x14:Option B}(h0:0 < m)(h1:(i,t)∉Vs)(h2:t % m=sn):(lC (λZ=>((aq (λa b=>aQ (λb=>D.sc (V.bl b)) (oQ a b)) (cu Kd.tup (au (dY (ab 3)) (au (dY (aq (aX aE bq) (ab 13) (λx=>some (D.sc (V.int 3))))) λx=>some []))) (aq (aX aE bq) (ab 0) λx=>some (D.sc (V.str (af "voices"))))) Z).bind λx=>match x with | D.sc (V.bl b)=>some b | x=>none) (λZ=>(aq (fj λx=> !x) (aq (intD (λx j=>0 < j) λi j=>V.int (i % j)) (aq (aX aE bq) (ab 13) (λx=>some (D.sc (V.int 3)))) (ab 1)) (aq (aX aE bq) (ab 13) (λx=>some (D.sc (V.int 2)))) Z).bind λx=>match x with | D.sc (V.bl b)=>some b | x=>none)) (eS (.nd (.aB dA) [a,gV Vs,c]) m row (iD i) deed what told th (iD te) (iD o) (.nd .tup L) (iD dn) (.sc (.str role)) (some (.ro (ay (.cB i sn t o2 R)))) x14)=some false:=by
 have hv:=Pd Vs i t;rw[decide_eq_false h1]at hv;have m0:(0:Int) < (m:Int):=by lia
 have jK:=By sn sn;have e3:aX aE bq (ay (.cB i sn t o2 R)) (.sc (.int 3))=some (iD t):=rfl;have e2:aX aE bq (ay (.cB i sn t o2 R)) (.sc (.int 2))=some (iD sn):=rfl;unfold eS;generalize gV Vs=VV at *;generalize ay (.cB i sn t o2 R)=M at *;generalize D.nd .tup L=LL at *;simp[Pp,hv,e3,e2,h0,h2,jK,bD,au,ab,ag,intD,cu,aq,lC,VL.plain,dY,ak,i7]
theorem Z4(ue:NA x14)(h1:(i,t)∉Vs)(hn:Vs.Nodup)(hz:Vs.length<=900):(BV (λZ=>aQ (λd=>(d,Z)) (some (D.sc (V.bl true)))) (gf aE (az 0) λx=>some (D.sc (V.str (af "voices")))) (cu Kd.tup (au (ab 3) (au (aq (aX aE bq) (ab 13) (λx=>some (D.sc (V.int 3)))) λx=>some [])))) (eS (.nd (.aB dA) [a,gV Vs,c]) m row (iD i) deed what told th (iD te) (iD o) (.nd .tup L) (iD dn) (.sc (.str role)) (some (.ro (ay (.cB i sn t o2 R)))) x14)=some (.nx (eS (.nd (.aB dA) [a,gV (Vs++ [(i,t)]),c]) m row (iD i) deed what told th (iD te) (iD o) (.nd .tup L) (iD dn) (.sc (.str role)) (some (.ro (ay (.cB i sn t o2 R)))) x14)):=by
 have hp:=ZO Vs i t hn hz h1;have e1:gV Vs= .nd (.iK (Vs.map ju)) (Vs.map λ_=>tD true):=rfl;have e3:aX aE bq (ay (.cB i sn t o2 R)) (.sc (.int 3))=some (iD t):=rfl;unfold eS;rw[e1];generalize gV (Vs++ [(i,t)])=V2 at *;generalize (Vs.map λ_=>tD true)=vs at *;generalize (Vs.map ju)=ks at *;generalize ay (.cB i sn t o2 R)=M at *;generalize D.nd .tup L=LL at *;simp[Pn,hp,e3,BV,ic,cK ue,bD,au,ab,eM,ag,cT,gf,aZ,cu,fL,aq,dw,jb,az,VL.plain,bf,bx,gU,oq,ak,aG,i7]
theorem Z5(hm:m < 100):(kl 15 [none,some 8,some 0] [0] (λZ=>(au (ab 1) (λx=>some []) Z).bind lZ) (λd Z=>some (bw 0 (B.ro d) Z)) (λZ=>((aq (λa b=>aQ (λb=>D.sc (V.bl b)) (oQ a b)) (cu Kd.tup (au (dY (ab 0)) (au (dY (ab 1)) λx=>some []))) (aq (aX aE bq) (ab 2) λx=>some (D.sc (V.str (af "voices"))))) Z).bind λx=>match x with | D.sc (V.bl b)=>some b | x=>none) (dY (ab 0))) (eS (.nd (.aB dA) [a,gV Vs,c]) m row (iD i) deed what told th (iD te) (iD o) (.nd .tup L) (iD dn) (.sc (.str role)) x13 x14)=some (.nd .lst (((lx m).filter λk:Nat=>decide (((k:Int),te)∈Vs)).map λk:Nat=>iD k)):=by
 refine nB (lx m) (λk:Nat=>iD k) (λk:Nat=>decide (((k:Int),te)∈Vs)) (λk:Nat=>iD k) ?_ (by rw[Af];exact bW (by lia:m<=100) (by decide)) rfl ?_
 ·refine ae.mpr ⟨[iD m], ?_, ?_⟩
  ·unfold eS;simp[bD,au,ab]
  ·rw[tR _ hm,BL]
 ·intro k hk;have hv:=Pd Vs k te;refine⟨[some (.ro (iD k)),some (.ro (iD te)),some (.ro (.nd (.aB dA) [a,gV Vs,c]))], ?_, ?_,λ_=> ?_⟩
  ·unfold eS;generalize gV Vs=VV at *;simp[gD,bD,bw,gD,ab,ag,ak,cv,fm,dI]
  ·generalize gV Vs=VV at *;simp[Pp,hv,bD,au,ab,cu,aq,VL.plain,dY,i7]
  ·simp[bD,ab,VL.plain,dY]
theorem Z6{row deed what told th:D}{m:Nat}{W:D}{i te o dn:Int}{L Y:List D}{role:Str}{x13:Option B}(h0:0 < m)(hm:m < 100)(h1:te % m=i)(h2:m < 2 * (Y.length + 1))(hy:Y.length<=100)(h3:o=te):(lC (λZ=>(aq (fj λx=> !x) (aq (intD (λx j=>0 < j) λi j=>V.int (i % j)) (ab 8) (ab 1)) (ab 3) Z).bind λx=>match x with | D.sc (V.bl b)=>some b | x=>none) (lC (λZ=>(aq (eU λi j=>V.bl (decide (i<=j))) (aq (intD o8 λi j=>V.int (i * j)) (λx=>some (D.sc (V.int 2))) (aq nz (λZ=>(au (ab 14) (λx=>some []) Z).bind bY) (λx=>some (D.sc (V.int 1))))) (ab 1) Z).bind λx=>match x with | D.sc (V.bl b)=>some b | x=>none) (λZ=>(aq (fj λx=> !x) (ab 9) (ab 8) Z).bind λx=>match x with | D.sc (V.bl b)=>some b | x=>none))) (eS W m row (iD i) deed what told th (iD te) (iD o) (.nd .tup L) (iD dn) (.sc (.str role)) x13 (some (.own (.nd .lst Y))))=some false:=by
 have m0:(0:Int) < (m:Int):=by lia
 have n1:=By i i;have n2:=By te te;have l1:bY [.nd .lst Y]=some (iD Y.length):=by simp[bY]
 have d2:¬ 2 * ((Y.length:Int) + 1)<=m:=by lia
 have cm:o8 2 ((Y.length:Int) + 1):=by unfold o8;lia
 subst h3;unfold eS;generalize D.nd .lst Y=YY at *;generalize D.nd .tup L=LL at *;simp[h0,h1,n1,n2,l1,d2,cm,nz,jI,bD,au,ab,eU,intD,aq,lC]
theorem Z7(hr:i4 role=true):(λZ=>(aq (fj id) (ab 12) (λx=>some (D.sc (V.str (af "leads")))) Z).bind λx=>match x with | D.sc (V.bl b)=>some b | x=>none) (eS W m row (iD i) deed what told th (iD te) (iD o) (.nd .tup L) (iD dn) (.sc (.str role)) x13 x14)=some (decide (role="leads")):=by
 have h:=tP role "leads" hr (by decide +kernel);unfold eS;generalize D.nd .tup L=LL at *;simp[h,bD,ab,aq]
theorem Pq:(jT (aq (aX aE bq) (ab 0) λx=>some (D.sc (V.str (af "logs")))) (ab 9) (cu Kd.tup λx=>some [])) (eS (.nd (.aB dA) [a,b,jW G]) m row (iD i) deed what told th (iD te) (iD o) (.nd .tup L) (iD dn) (.sc (.str role)) x13 x14)=some (.nd .tup (gJ G o)):=by
 refine ZX ?_ rfl rfl;unfold eS;generalize jW G=GG at *;generalize D.nd .tup L=LL at *;simp[du,bD,ab,ag,aq,ak]
theorem Z8(hb:zg K C [.nd .tup L, .nd .tup (gJ G o)]=some (tD true)):(λZ=>(aQ (λx=> !x) (((au (ab 10) (au (jT (aq (aX aE bq) (ab 0) λx=>some (D.sc (V.str (af "logs")))) (ab 9) (cu Kd.tup λx=>some [])) λx=>some []) Z).bind λds=>if ds.length=2 then zg K C ds else none).bind λx=>match x with | D.sc (V.bl b)=>some b | x=>none))) (eS (.nd (.aB dA) [a,b,jW G]) m row (iD i) deed what told th (iD te) (iD o) (.nd .tup L) (iD dn) (.sc (.str role)) x13 x14)=some false:=by
 have e:=Pq (row:=row) (deed:=deed) (what:=what) (told:=told) (th:=th) (m:=m) (a:=a) (b:=b) (G:=G) (i:=i) (te:=te) (o:=o) (dn:=dn) (L:=L) (role:=role) (x13:=x13) (x14:=x14);have e2:(au (ab 10) (au (jT (aq (aX aE bq) (ab 0) λx=>some (D.sc (V.str (af "logs")))) (ab 9) (cu Kd.tup λx=>some [])) λx=>some []) (eS (.nd (.aB dA) [a,b,jW G]) m row (iD i) deed what told th (iD te) (iD o) (.nd .tup L) (iD dn) (.sc (.str role)) x13 x14))=some [.nd .tup L, .nd .tup (gJ G o)]:=by
  refine ae.mpr ⟨.nd .tup L,rfl,aV.mpr ⟨[.nd .tup (gJ G o)],ae.mpr ⟨_,e,rfl⟩,rfl⟩⟩
 refine aV.mpr ⟨true,ae.mpr ⟨tD true,ae.mpr ⟨_,e2, ?_⟩,rfl⟩,rfl⟩;exact(if_pos rfl).trans hb
theorem Z9:(λZ=>(aq (eU λi j=>V.bl (decide (j < i))) (λZ=>(au (ab 10) (λx=>some []) Z).bind bY) (λZ=>(au (jT (aq (aX aE bq) (ab 0) λx=>some (D.sc (V.str (af "logs")))) (ab 9) (cu Kd.tup λx=>some [])) (λx=>some []) Z).bind bY) Z).bind λx=>match x with | D.sc (V.bl b)=>some b | x=>none) (eS (.nd (.aB dA) [a,b,jW G]) m row (iD i) deed what told th (iD te) (iD o) (.nd .tup L) (iD dn) (.sc (.str role)) x13 x14)=some (decide ((gJ G o).length < L.length)):=by
 have e:=Pq (row:=row) (deed:=deed) (what:=what) (told:=told) (th:=th) (m:=m) (a:=a) (b:=b) (G:=G) (i:=i) (te:=te) (o:=o) (dn:=dn) (L:=L) (role:=role) (x13:=x13) (x14:=x14);have l1:bY [.nd .tup L]=some (iD L.length):=by simp[bY]
 have l2:bY [.nd .tup (gJ G o)]=some (iD (gJ G o).length):=by simp[bY]
 have e1:ab 10 (eS (.nd (.aB dA) [a,b,jW G]) m row (iD i) deed what told th (iD te) (iD o) (.nd .tup L) (iD dn) (.sc (.str role)) x13 x14)=some (.nd .tup L):=rfl;generalize (jT (aq (aX aE bq) (ab 0) λx=>some (D.sc (V.str (af "logs")))) (ab 9) (cu Kd.tup λx=>some []))=f at *;generalize (eS (.nd (.aB dA) [a,b,jW G]) m row (iD i) deed what told th (iD te) (iD o) (.nd .tup L) (iD dn) (.sc (.str role)) x13 x14)=Z at *;have hd:decide (((gJ G o).length:Int) < (L.length:Int))=decide ((gJ G o).length < L.length):=by
  by_cases c:(gJ G o).length < L.length
  ·rw[decide_eq_true c,decide_eq_true (by lia)]
  ·rw[decide_eq_false c,decide_eq_false (by lia)]
 generalize D.nd .tup (gJ G o)=XX at *;generalize D.nd .tup L=LL at *;simp[e,e1,l1,l2,au,eU,aq]
theorem aaa(rQ:NA x13)(ue:NA x14)(hL:VL.bf L=true)(hn:(G.map (·.1)).Nodup)(hz:G.length<=900):(jq (fD 10) (gf aE (az 0) λx=>some (D.sc (V.str (af "logs")))) (ab 9)) (eS (.nd (.aB dA) [a,b,jW G]) m row (iD i) deed what told th (iD te) (iD o) (.nd .tup L) (iD dn) (.sc (.str role)) x13 x14)=some (.nx (eS (.nd (.aB dA) [a,b,jW (bV G o L)]) m row (iD i) deed what told th (iD te) (iD o) (.nd .tup L) (iD dn) (.sc (.str role)) x13 x14)):=by
 have hp:=ZQ G o L hn hz;have pl:VL.plain (.nd .tup L)=true:=by simp[VL.plain,hL]
 have e1:jW G= .nd (.aB (G.map λp=>(cb p.1:aY))) (G.map λp=> .nd .tup p.2):=rfl;unfold eS;rw[e1];generalize jW (bV G o L)=G2 at *;generalize (G.map λp=>D.nd .tup p.2)=vs at *;generalize (G.map λp=>(cb p.1:aY))=ks at *;generalize D.nd .tup L=LL at *;simp[Po,hp,pl,ZY,ic,cK rQ,cK ue,bD,ab,jq,eM,ag,cT,gf,aZ,fD,fL,dw,jb,az,bf,bx,gU,oq,ak,aG]
end K85
namespace K85
open PySem L2 VL WM
variable [fM K C]
theorem Pr(h:VL.plain e.what=true/\(∀l,e.told=some l->∀g∈l,g.ok b)/\cx e.st.L):VL.plain (cU e)=true:=by
 have h1:=h.1;have h2:=v7 h.2.1;have h3:=h.2.2.plain;unfold cU jV;generalize d6 e.told=F at *;simp[VL.plain,VL.bf,h1,h2,h3]
theorem Pt:∀{A B:List Nat},A.Nodup->(∀a∈A,a∈B)->A.length<=B.length
 | [],B,_,_=>jj _
 |a::A,B,n,h=>by
  rw[nI]at n;have ha:=h a (mY ..);have ih:=Pt (A:=A) (B:=B.erase a) n.2 λx hx=>(List.mem_erase_of_ne (show x≠a from λz=>n.1 (by rw[<- z];exact hx))).mpr (h x (jZ _ hx));rw[aey ha]at ih;have:=List.length_pos_of_mem ha;rw[fN]
  lia
theorem Ev.Iw(h:fc Z=some (false,ρ1))(hu:Ev u ρ1 Q):Ev (dG (dm fc a λZ=>some (.nx Z)) u) Z Q:=
 Ev.seq (Ev.oC h ⟨_,rfl,hu⟩)
theorem rR(h:x=some b):x.map (λb=>(b,Z))=some (b,Z):=by rw[h];rfl
theorem ag8:iY fg fb [] Z=some (.nx Z):=rfl
theorem aab(h1:fg d Z=some ρ1)(h2:fb ρ1=some (.nx aD)):iY fg fb [d] Z=some (.nx aD):=by
 rw[iY,h1];show(fb ρ1).bind _=_;rw[h2];rfl
theorem aac{m:Nat}{e:gW}{a c:D}{Vs:List (Int×Int)}{b:Nat}(h0:0 < m)(hm:m < 40)(ok:∀l,e.told=some l->(∀g∈l,g.ok b)/\l.length<=100)(hv:iE e.told= []\/∃sn t o R,iE e.told= [.cB e.i sn t o R]/\t % m=sn/\((e.i:Int),t)∉Vs)(hn:Vs.Nodup)(hz:Vs.length<=900):
  ∃x13,NA x13/\(λZ=>(((au (ab 6) (λx=>some []) Z).bind λds=>if ds.length=1 then zf K C ds else none).bind ir).bind λds=>iY (λd Z=>some (bw 13 (B.ro d) Z)) (dG (dm (λZ=>aQ (λb=>(b,Z)) ((lC (λZ=>((aq (λa b=>aQ (λb=>D.sc (V.bl b)) (oQ a b)) (cu Kd.tup (au (dY (ab 3)) (au (dY (aq (aX aE bq) (ab 13) (λx=>some (D.sc (V.int 3))))) λx=>some []))) (aq (aX aE bq) (ab 0) λx=>some (D.sc (V.str (af "voices"))))) Z).bind λx=>match x with | D.sc (V.bl b)=>some b | x=>none) (λZ=>(aq (fj λx=> !x) (aq (intD (λx j=>0 < j) λi j=>V.int (i % j)) (aq (aX aE bq) (ab 13) (λx=>some (D.sc (V.int 3)))) (ab 1)) (aq (aX aE bq) (ab 13) (λx=>some (D.sc (V.int 2)))) Z).bind λx=>match x with | D.sc (V.bl b)=>some b | x=>none)) Z)) (dR λZ=>aQ (λd=>(d,Z)) (some (D.sc (V.bl false)))) λZ=>some (Fl.nx Z)) (BV (λZ=>aQ (λd=>(d,Z)) (some (D.sc (V.bl true)))) (gf aE (az 0) λx=>some (D.sc (V.str (af "voices")))) (cu Kd.tup (au (ab 3) (au (aq (aX aE bq) (ab 13) (λx=>some (D.sc (V.int 3)))) λx=>some []))))) ds Z) (eS (.nd (.aB dA) [a,gV Vs,c]) m (cU e) (iD e.i) (sD e.deed) e.what (d6 e.told) (jV e.st) (iD e.st.te) (iD e.st.o) (.nd .tup e.st.L) (iD e.st.dn) (sD e.st.role) none none)=some (.nx (eS (.nd (.aB dA) [a,gV (Vs++(iE e.told).map (rP e.i)),c]) m (cU e) (iD e.i) (sD e.deed) e.what (d6 e.told) (jV e.st) (iD e.st.te) (iD e.st.o) (.nd .tup e.st.L) (iD e.st.dn) (sD e.st.role) x13 none)):=by
 have e1:=ZU (K:=K) (C:=C) e.told ok;have e2:∀ds,((iE e.told).map ay)=ds->(((au (ab 6) (λx=>some []) (eS (.nd (.aB dA) [a,gV Vs,c]) m (cU e) (iD e.i) (sD e.deed) e.what (d6 e.told) (jV e.st) (iD e.st.te) (iD e.st.o) (.nd .tup e.st.L) (iD e.st.dn) (sD e.st.role) none none)).bind λds=>if ds.length=1 then zf K C ds else none).bind ir)=some ds:=λds sR=>by
  refine ae.mpr ⟨.nd .lst ((iE e.told).map ay),ae.mpr ⟨[d6 e.told],rfl, ?_⟩, ?_⟩
  ·exact(if_pos rfl).trans e1
  ·rw[<- sR];rfl
 rcases hv with q | ⟨sn,t,o,R,q,q1,q2⟩
 ·refine⟨none,gj,ae.mpr ⟨[],e2 [] (by rw[q];rfl), ?_⟩⟩;rw[q,jz,eW];rfl
 ·refine⟨some (.ro (ay (.cB e.i sn t o R))),mO,ae.mpr ⟨[ay (.cB e.i sn t o R)],e2 _ (by rw[q];rfl), ?_⟩⟩;rw[q];refine aab (ρ1:=(eS (.nd (.aB dA) [a,gV Vs,c]) m (cU e) (iD e.i) (sD e.deed) e.what (d6 e.told) (jV e.st) (iD e.st.te) (iD e.st.o) (.nd .tup e.st.L) (iD e.st.dn) (sD e.st.role) (some (.ro (ay (.cB e.i sn t o R)))) none)) ?_ ?_
  ·unfold eS;generalize ay (.cB e.i sn t o R)=M;generalize cU e=r1;generalize d6 e.told=r2;generalize jV e.st=r3;generalize D.nd .tup e.st.L=r4;generalize gV Vs=r5;simp[bw,cv,fT,fm,dI,gE]
  ·refine iU (ρ':=(eS (.nd (.aB dA) [a,gV Vs,c]) m (cU e) (iD e.i) (sD e.deed) e.what (d6 e.told) (jV e.st) (iD e.st.te) (iD e.st.o) (.nd .tup e.st.L) (iD e.st.dn) (sD e.st.role) (some (.ro (ay (.cB e.i sn t o R)))) none)) ?_ ?_
   ·exact tV (rR (Z3 h0 q2 q1)) rfl
   ·exact Z4 gj q2 hn hz
theorem aad{m:Nat}{e:gW}{a c:D}{Vs:List (Int×Int)}{x13:Option B}(rQ:NA x13)(h0:0 < m)(hm:m < 40)(hr:i4 e.st.role=true)(h1:e.st.role="leads"->e.st.te % m=e.i/\e.st.o=e.st.te/\∃Q:List Nat,Q.Nodup/\m < 2 * (Q.length + 1)/\∀q∈Q,q < m/\((q:Int),e.st.te)∈Vs):
  ∃x14,NA x14/\(dm (λZ=>aQ (λb=>(b,Z)) ((λZ=>(aq (fj id) (ab 12) (λx=>some (D.sc (V.str (af "leads")))) Z).bind λx=>match x with | D.sc (V.bl b)=>some b | x=>none) Z)) (dG (gC 14 λZ=>aQ (λd=>(d,Z)) ((kl 15 [none,some 8,some 0] [0] (λZ=>(au (ab 1) (λx=>some []) Z).bind lZ) (λd Z=>some (bw 0 (B.ro d) Z)) (λZ=>((aq (λa b=>aQ (λb=>D.sc (V.bl b)) (oQ a b)) (cu Kd.tup (au (dY (ab 0)) (au (dY (ab 1)) λx=>some []))) (aq (aX aE bq) (ab 2) λx=>some (D.sc (V.str (af "voices"))))) Z).bind λx=>match x with | D.sc (V.bl b)=>some b | x=>none) (dY (ab 0))) Z)) (dm (λZ=>aQ (λb=>(b,Z)) ((lC (λZ=>(aq (fj λx=> !x) (aq (intD (λx j=>0 < j) λi j=>V.int (i % j)) (ab 8) (ab 1)) (ab 3) Z).bind λx=>match x with | D.sc (V.bl b)=>some b | x=>none) (lC (λZ=>(aq (eU λi j=>V.bl (decide (i<=j))) (aq (intD o8 λi j=>V.int (i * j)) (λx=>some (D.sc (V.int 2))) (aq nz (λZ=>(au (ab 14) (λx=>some []) Z).bind bY) (λx=>some (D.sc (V.int 1))))) (ab 1) Z).bind λx=>match x with | D.sc (V.bl b)=>some b | x=>none) (λZ=>(aq (fj λx=> !x) (ab 9) (ab 8) Z).bind λx=>match x with | D.sc (V.bl b)=>some b | x=>none))) Z)) (dR λZ=>aQ (λd=>(d,Z)) (some (D.sc (V.bl false)))) λZ=>some (Fl.nx Z))) λZ=>some (Fl.nx Z)) (eS (.nd (.aB dA) [a,gV Vs,c]) m (cU e) (iD e.i) (sD e.deed) e.what (d6 e.told) (jV e.st) (iD e.st.te) (iD e.st.o) (.nd .tup e.st.L) (iD e.st.dn) (sD e.st.role) x13 none)=some (.nx (eS (.nd (.aB dA) [a,gV Vs,c]) m (cU e) (iD e.i) (sD e.deed) e.what (d6 e.told) (jV e.st) (iD e.st.te) (iD e.st.o) (.nd .tup e.st.L) (iD e.st.dn) (sD e.st.role) x13 x14)):=by
 have c3:=Z7 (row:=cU e) (deed:=sD e.deed) (what:=e.what) (told:=d6 e.told) (th:=jV e.st) (m:=m) (W:=(.nd (.aB dA) [a,gV Vs,c])) (i:=e.i) (te:=e.st.te) (o:=e.st.o) (dn:=e.st.dn) (L:=e.st.L) (x13:=x13) (x14:=none) hr;by_cases hl:e.st.role="leads"
 ·rw[decide_eq_true hl]at c3;obtain⟨q1,q2,Q,n1,n2,n3⟩:=h1 hl;have sub:Q.length<=((lx m).filter λk:Nat=>decide (((k:Int),e.st.te)∈Vs)).length:=by
   refine Pt n1 λq hq=> ?_;obtain⟨a1,a2⟩:=n3 q hq;exact mW.mpr ⟨zG.mpr a1,decide_eq_true a2⟩
  have up:((lx m).filter λk:Nat=>decide (((k:Int),e.st.te)∈Vs)).length<=m:=by
   have:=Di (λk:Nat=>decide (((k:Int),e.st.te)∈Vs)) (lx m);rw[Af]at this;exact this
  refine⟨some (.own (.nd .lst (((lx m).filter λk:Nat=>decide (((k:Int),e.st.te)∈Vs)).map λk:Nat=>iD k))),je,tV (rR c3) ?_⟩;rw[if_pos rfl];refine iU (ρ':=(eS (.nd (.aB dA) [a,gV Vs,c]) m (cU e) (iD e.i) (sD e.deed) e.what (d6 e.told) (jV e.st) (iD e.st.te) (iD e.st.o) (.nd .tup e.st.L) (iD e.st.dn) (sD e.st.role) x13 (some (.own (.nd .lst (((lx m).filter λk:Nat=>decide (((k:Int),e.st.te)∈Vs)).map λk:Nat=>iD k)))))) (qA (oo (Z5 (by lia))) ?_) ?_
  ·generalize D.nd .lst (((lx m).filter λk:Nat=>decide (((k:Int),e.st.te)∈Vs)).map λk:Nat=>iD k)=YY;unfold eS;generalize cU e=r1;generalize d6 e.told=r2;generalize jV e.st=r3;generalize D.nd .tup e.st.L=r4;generalize gV Vs=r5;simp[gR rQ,bw,cv,fT,fm,dI,gE]
  ·exact tV (rR (Z6 h0 (by lia) q1 (by rw[dC];lia) (by rw[dC];lia) q2)) rfl
 ·rw[decide_eq_false hl]at c3;exact⟨none,gj,tV (rR c3) rfl⟩
theorem aae{m b:Nat}{st:List gW}{S:Sn}{e:gW}(h0:0 < m)(hm:m < 40)(hz:st.length<=430)(hS:wo st S)(aaf:∀x∈st,cx x.st.L)(l:Lw m st e)(ok:VL.plain e.what=true/\(∀l,e.told=some l->∀g∈l,g.ok b)/\cx e.st.L):
  vY K C [iO S,iD m,cU e]=some (tD true, [iO (S.put e)]):=by
 have key:∃d o,vY K C [iO S,iD m,cU e]=some (d,o)/\d=tD true/\o= [iO (S.put e)]:=by
  have pe:=Pr ok;have pL:=ok.2.2.plain;have aag:VL.plain (jV e.st)=true:=by
   unfold jV;simp[VL.plain,VL.bf,pL]
  have i1:=hS.t e.i;have gT:bP S.T e.i<=e.st.te:=by
   rcases i1 with q | ⟨x,a1,a2,a3⟩
   ·rw[q];exact l.CB
   ·rw[a3];exact l.te x a1 a2
  have hv:iE e.told= []\/∃sn t o R,iE e.told= [.cB e.i sn t o R]/\t % m=sn/\((e.i:Int),t)∉S.V:=by
   rcases l.vo with q | ⟨sn,t,o,R,q,q1,q2⟩
   ·exact .inl q
   ·refine .inr ⟨sn,t,o,R,q,q1,λz=> ?_⟩;obtain⟨o',R',v⟩:=(hS.v e.i t).mp z;exact Sx _ (q2 t o' R' v)
  have CN:=hS.put l;have led:e.st.role="leads"->e.st.te % m=e.i/\e.st.o=e.st.te/\∃Q:List Nat,Q.Nodup/\m < 2 * (Q.length + 1)/\∀q∈Q,q < m/\((q:Int),e.st.te)∈S.V++(iE e.told).map (rP e.i):=λq=>by
   obtain⟨a1,a2,Q,n1,n2,n3⟩:=l.ld q;exact⟨a1,a2,Q,n1,n2,λx hx=>⟨(n3 x hx).1,(CN.v x e.st.te).mpr (n3 x hx).2⟩⟩
  have gG:cx (gJ S.G e.st.o)/\(e.st.L <+:gJ S.G e.st.o\/gJ S.G e.st.o <+:e.st.L):=by
   rcases hS.g e.st.o with q | ⟨x,a1,a2,a3⟩
   ·rw[q];exact⟨cx.nil, .inr aez⟩
   ·rw[a3];exact⟨aaf x a1,(l.lg x a1 a2).symm⟩
  have tl:=hS.tl;have vl:=hS.vl;have gl:=hS.gl;unfold vY HW;dsimp only;have eE:cU e= .nd .tup [iD e.i,sD e.deed,e.what,d6 e.told,jV e.st]:=rfl;have e0:cz 15 [true,false,false] [iO S,iD m,cU e]= [some (.ar 15 []),some (.ro (iD m)),some (.ro (cU e)),none,none,none,none,none,none,none,none,none,none,none,none,some (.own (iO S))]:=by
   generalize iO S=SS;generalize cU e=EE;simp[gL,cz,bj,bu,dq]
  refine Yt ?_;rw[e0];refine Ev.nx (ZZ pe) (Ev.nx (Z0 aag) ?_);refine Ev.Iw (rR (Z1 gT l.ot l.dl)) ?_;refine Ev.nx (Z2 gj gj hS.tn (by lia)) ?_;obtain⟨x13,rQ,aah⟩:=aac (K:=K) (C:=C) (a:=bN (bV S.T e.i e.st.te)) (c:=jW S.G) h0 hm (λq hq=>⟨ok.2.1 q hq,by have:=l.tl q hq;lia⟩) hv hS.vn (by lia);refine Ev.nx aah ?_;obtain⟨x14,ue,aai⟩:=aad (a:=bN (bV S.T e.i e.st.te)) (c:=jW S.G) rQ h0 hm l.role led;refine Ev.nx aai ?_;refine Ev.Iw (rR (Z8 (ZV ok.2.2 gG.1 gG.2))) ?_;have c6:=Z9 (row:=cU e) (deed:=sD e.deed) (what:=e.what) (told:=d6 e.told) (th:=jV e.st) (m:=m) (a:=bN (bV S.T e.i e.st.te)) (b:=gV (S.V++(iE e.told).map (rP e.i))) (G:=S.G) (i:=e.i) (te:=e.st.te) (o:=e.st.o) (dn:=e.st.dn) (L:=e.st.L) (role:=e.st.role) (x13:=x13) (x14:=x14);have cL:∀G',(S.put e).G=G'->∃fl,(dR λZ=>aQ (λd=>(d,Z)) (some (D.sc (V.bl true)))) (eS (.nd (.aB dA) [bN (bV S.T e.i e.st.te),gV (S.V++(iE e.told).map (rP e.i)),jW G']) m (cU e) (iD e.i) (sD e.deed) e.what (d6 e.told) (jV e.st) (iD e.st.te) (iD e.st.o) (.nd .tup e.st.L) (iD e.st.dn) (sD e.st.role) x13 x14)=some fl/\(match fl with | .rt d ρ'=>∃o,dg (ρ'.drop 15)=some o/\d=tD true/\o= [iO (S.put e)] | _=>False):=λG' hG=>by
   refine⟨_,rfl, [iO (S.put e)], ?_,rfl,rfl⟩;rw[<- hG];rfl
  by_cases c:(gJ S.G e.st.o).length < e.st.L.length
  ·rw[decide_eq_true c]at c6;refine Ev.nx (tV (rR c6) ?_) (cL (bV S.G e.st.o e.st.L) (if_pos c));rw[if_pos rfl];exact aaa rQ ue pL hS.gn (by lia)
  ·rw[decide_eq_false c]at c6;exact Ev.Iw (rR c6) (cL S.G (if_neg c))
 obtain⟨d,o,e1,rfl,rfl⟩:=key;exact e1
end K85
namespace K85
open PySem L2 VL WM
variable [fM K C]
theorem aaj(nu ma:Int)(hn:∀f∈dB,iT K C f):rK K C [.nd (.obj C []) [],iD nu,iD ma]=some (.sc .aJ, [mD C nu ma 0 0 [] 0 "hears" (.nd (.aB []) []) (.nd (.aB []) [])]):=by
 have h:iT K C "number"/\iT K C "many"/\iT K C "term"/\iT K C "of"/\iT K C "log"/\iT K C "done"/\iT K C "role"/\iT K C "voices"/\iT K C "sizes"/\iT K C "fixed":=by
  simpa[dB]using hn
 obtain⟨h1,h2,h3,h4,h5,h6,h7,h8,h9,aak⟩:=h;simp[rK,Hg,h1,h2,h3,h4,h5,h6,h7,h8,h9,aak,mD,dB,BB,kq,kr,tS,tT,tU,qw,qx,qy,qz,vz,vA,vB,vC,vD,ku,ky,kB,kC,kD,kE,yw,yx,yy,yz,yA,yB,yC,yD,yE,yF,yG,yH,yI,yJ,yK,BC,BD,BE,BF,BG,BH,BI,BJ,BK,dg,bD,bE,ab,eM,cz,lY,lD,ag,bj,iJ,fD,fL,bu,dq,az,VL.plain,cy,bx,eg,ak,dG,aG,fE]
theorem aal(nu ma te o:Int)(L:List D)(dn:Int)(role:Str)(vo si:D)(hm:0 < ma):Hm K C [mD C nu ma te o L dn role vo si]=some (iD (dU nu ma te)):=by
 simp[Hm,Hl,mD,dB,BB,kq,kr,hm,dU,jI,gC,bD,bw,cY,ab,bT,fz,eU,intD,aZ,aq,cy,dR,dG,fE,cv,fm,dI]
theorem Pu(nu ma te o:Int)(L:List D)(dn n:Int)(role:Str)(vo si:D):Hs K C [mD C nu ma te o L dn role vo si,iD n]=some (tD (decide (ma < 2 * n))):=by
 simp[Hs,Hr,mD,dB,BB,bD,cY,ab,bT,fz,eU,intD,aZ,aq,cy,dR,o8]
theorem aam(o:Int)(L:List D):vN K C [.nd .tup [iD o, .nd .tup L]]=some (.nd .tup [iD o,iD L.length]):=by
 simp[vN,Ht,bD,cY,au,m9,ab,eN,fB,eX,bq,aE,aX,gg,aZ,bY,aq,VL.plain,lX,dR,tw,i7]
theorem aan(h:kY r):ox K C 2 [r]=some (tD true):=by
 cases h <;> simp[kl,ox,B8,B7,mK,mL,vj,bD,bw,nq,cY,gD,au,ab,dm,mK,vh,Fh,ir,cu,VL.plain,lX,dR,dG,fE,pG,vi,og,cv,dI,i7,NC]
theorem Pw:∀(L:List D),nq (L.map λ_=>tD true)=some (L.map λ_=>true)
 | []=>by simp[nq]
 |_::L=>by
  rw[dZ,dZ,nq,Pw L];rfl
theorem all_true(L:List D):vj [.nd .lst (L.map λ_=>tD true)]=some (tD true):=by
 simp only[vj,Pw];simp
theorem aao(L:List D)(hL:cx L)(h:L.length<=900):kl 1 [none] [0] (λZ=>(ab 0 Z).bind ir) (λd Z=>some (bw 0 (B.ro d) Z)) (λx=>some true) (λZ=>(au (ab 0) (λx=>some []) Z).bind λds=>if ds.length=1 then ox K C 2 ds else none) [some (.ro (.nd .tup L))]=some (.nd .lst (L.map λ_=>tD true)):=by
 have h3:L.length<=aK:=bW h (by decide);rw[nB (n:=1) (js:= [none]) (is:= [0]) (fi:=λZ=>(ab 0 Z).bind ir) (fg:=λd Z=>some (bw 0 (B.ro d) Z)) (ft:=λx=>some true) (fe:=λZ=>(au (ab 0) (λx=>some []) Z).bind λds=>if ds.length=1 then ox K C 2 ds else none) (Z:= [some (.ro (.nd .tup L))]) L id (λ_=>true) (λ_=>tD true) ?_ h3 rfl ?_,Aj.mpr (λ_ _=>rfl)]
 ·simp[bD,ab,ir]
 ·intro r hr;have hr:=aan (K:=K) (C:=C) (hL r hr);simp[hr,bD,bw,gD,au,ab,cv,dI]
theorem aap(L:List D)(hL:cx L)(h:L.length<=900):B9 K C [.nd .tup L]=some (tD true):=by
 have e:=aao (K:=K) (C:=C) L hL h;have e2:=all_true L;unfold B9;show cY _ (B8 K C (ox K C 2)) _=_;unfold B8 B7;dsimp only;generalize (kl 1 [none] [0] (λZ=>(ab 0 Z).bind ir) (λd Z=>some (bw 0 (B.ro d) Z)) (λx=>some true) (λZ=>(au (ab 0) (λx=>some []) Z).bind λds=>if ds.length=1 then ox K C 2 ds else none))=F at e |-;simp[e,e2,mK,bD,cY,au,ab,dm,mK,vh,cu,dR,dG,fE,pG,og,i7]
theorem Iy(nu ma te o:Int)(L R:List D)(dn:Int)(role:Str)(vo si:D)(hL:cx L)(hR:cx R)(h:L.length + R.length<=900):Hq K C [mD C nu ma te o L dn role vo si, .nd .tup R]=some (.sc .aJ, [mD C nu ma te o (L++R) dn role vo si]):=by
 have hf:=aap (K:=K) (C:=C) R hR (by lia);have h3:L.length + R.length<=aK:=bW h (by decide);have p1:=hL.plain;have p2:=hR.plain;have p3:=(hL.app hR).plain;simp[Hq,Ho,mD,dB,qw,qx,qy,qz,BC,BD,BE,BF,BG,BH,BI,BJ,BK,hf,p2,p3,h3,jI,dg,gC,bD,bw,bE,au,ab,eM,cz,bT,lY,fz,lD,ag,EM,bj,aZ,Ff,fL,aq,bu,dq,az,VL.plain,lX,cy,bx,eg,ak,dG,aG,fE,cv,fT,fm,dI,gE]
theorem Iz(nu te o:Int)(m:Nat)(L:List D)(dn:Int)(role:Str)(vo si:D)(hm:m < 100):Ci K C [mD C nu m te o L dn role vo si]=some (.nd .lst ((gF nu m).map λi:Nat=>D.sc (.int (i:Int)))):=by
 have h3:m<=aK:=bW (rY hm) (by decide);unfold Ci Hv gF;dsimp only;refine Bz (ρ':= [some (.ro (mD C nu m te o L dn role vo si))]) (qv (oo (Z:= [some (.ro (mD C nu m te o L dn role vo si))]) (nB (lx m) (λi:Nat=>D.sc (.int (i:Int))) (λi:Nat=>decide ((i:Int)≠nu)) (λi:Nat=>D.sc (.int (i:Int))) ?_ ?_ ?_ ?_)))
 ·have e:(au (λZ=>(ab 0 Z).bind (bT (af "many"))) (λx=>some []) (List.map (λd=>some (B.ro d)) [mD C nu (↑m) te o L dn role vo si]++gL (1 - [mD C nu (↑m) te o L dn role vo si].length) none))=some [iD m]:=by simp[mD,dB,BB,bD,au,ab,bT,fz,aZ,cy]
  exact ae.mpr ⟨_,e,by rw[tR m hm,BL]⟩
 ·rw[Af];exact h3
 ·rfl
 ·intro i hi;simp[mD,dB,By,bD,bw,gD,ab,bT,fz,aZ,aq,VL.plain,dY,cy,cv,fm,dI]
end K85
namespace K85
open PySem L2 VL WM
variable [fM K C]
theorem Px(nu ma te o:Int)(L:List D)(dn:Int)(role:Str)(vo si:D)(hL:cx L)(hz:L.length<=900):HC K C [mD C nu ma te o L dn role vo si]=some (.nd .tup L):=by
 have hp:=hL.plain;simp[HC,HB,mD,dB,hp,qw,qx,qy,qz,BC,BD,BE,BF,BG,BH,BI,BJ,BK,gC,bD,bw,cY,au,ab,bT,fz,EM,aZ,VL.plain,lX,cy,dR,dG,fE,oe,cv,fm,dI]
theorem aaq(nu ma te o:Int)(L:List D)(dn:Int)(role:Str)(vo si:D)(hs:i4 role=true)(h:role≠"leads"):rM K C [mD C nu ma te o L dn role vo si]=some (.nd .lst []):=by
 have he:=sF role hs;rw[decide_eq_true h]at he;simp[rM,Cp,mD,dB,he,ku,ky,kB,kC,kD,kE,bD,bw,cY,au,ab,bT,fz,dm,aZ,iJ,aq,cy,dR,dG,fE]
theorem Py(nu te o:Int)(m:Nat)(L:List D)(dn:Int)(vo si:D)(hL:cx L)(hz:L.length<=900)(hm:m < 100):rM K C [mD C nu m te o L dn "leads" vo si]=some (.nd .lst (vZ nu te m L dn)):=by
 have he:=sF "leads" (by decide +kernel);rw[decide_eq_false (λz=>z rfl)]at he;have ho:=Iz (K:=K) (C:=C) nu te o m L dn "leads" vo si hm;have hr:=Px (K:=K) (C:=C) nu m te o L dn "leads" vo si hL hz;have h3:(gF nu m).length<=aK:=bW (qG nu m) (bW (rY hm) (by decide));rw[show vZ nu te m L dn=((gF nu m).filter λ_=>true).map (Ct nu te L dn) from by unfold vZ;rw[Aj.mpr (λ_ _=>rfl)]];unfold rM Cp;dsimp only;refine Bz (ρ':= [some (.ro (mD C nu m te o L dn "leads" vo si))]) (iU (ρ':= [some (.ro (mD C nu m te o L dn "leads" vo si))]) ?_ (qv (oo (nB (gF nu m) (λi:Nat=>D.sc (.int (i:Int))) (λ_=>true) (Ct nu te L dn) ?_ h3 ?_ ?_))))
 ·simp[mD,dB,he,ku,ky,kB,kC,kD,kE,bD,ab,bT,fz,dm,aZ,iJ,aq,cy,dR]
 ·refine ae.mpr ⟨.nd .lst ((gF nu m).map λi:Nat=>D.sc (.int (i:Int))),ae.mpr ⟨[mD C nu m te o L dn "leads" vo si], ?_, ?_⟩,rfl⟩
  ·simp[bD,au,ab]
  ·exact(if_pos rfl).trans ho
 ·rfl
 ·intro i hi;have f1:=NI (C:=C) nu m te o L dn "leads" vo si;have f2:=FT (C:=C) nu m te o L dn "leads" vo si;have f3:=FU (C:=C) nu m te o L dn "leads" vo si;generalize mD C nu m te o L dn "leads" vo si=M at *;simp[Ct,ay,f1,f2,f3,hr,bD,bw,gD,au,ab,cu,VL.plain,dY,cv,fm,dI,ND]
end K85
namespace K85
open PySem L2 VL WM
variable [fM K C]
theorem Pz(nu te o:Int)(m:Nat)(L:List D)(dn:Int)(role:Str)(vo:D)(S:List (Int×Int))(hm:m < 90):
  HA K C [mD C nu m te o L dn role vo (bN S)]=some (.sc .aJ, [mD C nu m te o L (gu dn ((dW nu m S L.length).filter (most m (dW nu m S L.length)))) role vo (bN S)]):=by
 have ho:=Iz (K:=K) (C:=C) nu te o m L dn role vo (bN S) (by lia);have aar:=λn:Nat=>Pu (K:=K) (C:=C) nu m te o L dn n role vo (bN S);have h3:(gF nu m).length<=aK:=bW (qG nu m) (bW (by lia:m<=100) (by decide));have h4:(gF nu m).length + 1<=aK:=bW (aeD (qG nu m)) (bW (by lia:m + 1<=100) (by decide));have PB:=Zx nu m S L.length;have aas:dW nu m S L.length=(gF nu m).map (λi:Nat=>bP S i)++ [(L.length:Int)]:=rfl;have f1:=Yv (C:=C) nu m te o L dn role vo (bN S);have f2:=NJ (C:=C) nu m te o L dn role vo (bN S);have f3:=FU (C:=C) nu m te o L dn role vo (bN S);have hg:=λi=>HZ S i;have pM:=yL (C:=C) nu m te o L dn role vo (bN S);have h5:(dW nu m S L.length).length<=aK:=bW PB (bW (by lia:m + 1<=100) (by decide));have aat:=OB ((gF nu m).map (λi:Nat=>bP S i)++ [(L.length:Int)]);have IA:=ints_map (dn::(dW nu m S L.length).filter (most m (dW nu m S L.length)));have df:=OB (dn::(dW nu m S L.length).filter (most m (dW nu m S L.length)));have ag9:((dW nu m S L.length).filter (most m (dW nu m S L.length))).length + 1<=aK:=bW (aeD (bW (Di _ _) PB)) (bW (by lia:m + 1 + 1<=100) (by decide));generalize hA:dW nu m S L.length=zs at *;unfold HA Hz;dsimp only;refine Cu (ρ':= [some (.ar 3 []),some (.own (.nd .lst (zs.map iD))),some (.own (.nd .lst ((zs.filter (most m zs)).map iD))),some (.own (mD C nu m te o L (gu dn (zs.filter (most m zs))) role vo (bN S)))])
  (iU (ρ':= [some (.ar 3 []),some (.own (.nd .lst (zs.map iD))),none,some (.own (mD C nu m te o L dn role vo (bN S)))]) (qA (d:= .nd .lst (zs.map iD)) (ρ1:=cz 3 [true] [mD C nu m te o L dn role vo (bN S)]) (oo ?_) ?_)
  (iU (ρ':= [some (.ar 3 []),some (.own (.nd .lst (zs.map iD))),some (.own (.nd .lst ((zs.filter (most m zs)).map iD))),some (.own (mD C nu m te o L dn role vo (bN S)))]) (qA (d:= .nd .lst ((zs.filter (most m zs)).map iD)) (ρ1:= [some (.ar 3 []),some (.own (.nd .lst (zs.map iD))),none,some (.own (mD C nu m te o L dn role vo (bN S)))]) (oo (nB zs iD (most m zs) iD ?_ h5 rfl ?_)) ?_) ?_)) ?_
 ·refine ae.mpr ⟨.nd .lst ((gF nu m).map λi:Nat=>iD (bP S i)), ?_,ae.mpr ⟨.nd .lst [iD L.length], ?_, ?_⟩⟩
  ·have e:=nB (n:=3) (js:= [none,some 0]) (is:= [0]) (fg:=λd Z=>some (bw 0 (B.ro d) Z)) (ft:=λx=>some true) (fe:=dY (jT (λZ=>(ab 1 Z).bind (bT (af "sizes"))) (ab 0) λx=>some (D.sc (V.int 0)))) (fi:=λZ=>((au (ab 0) (λx=>some []) Z).bind λds=>if ds.length=1 then Ci K C ds else none).bind ir) (Z:=cz 3 [true] [mD C nu m te o L dn role vo (bN S)]) (gF nu m) (λi:Nat=>D.sc (.int (i:Int))) (λ_=>true) (λi:Nat=>iD (bP S i)) ?_ h3 rfl ?_
   ·rw[Aj.mpr (λ_ _=>rfl)]at e;exact e
   ·refine ae.mpr ⟨.nd .lst ((gF nu m).map λi:Nat=>D.sc (.int (i:Int))),ae.mpr ⟨[mD C nu m te o L dn role vo (bN S)], ?_, ?_⟩,rfl⟩
    ·generalize mD C nu m te o L dn role vo (bN S)=M;simp[bD,au,ab,cz,ag,bj,bu,dq,ak]
    ·exact(if_pos rfl).trans ho
   ·intro i _;have aau:=hg i;generalize mD C nu m te o L dn role vo (bN S)=M at *;generalize bN S=W at *;refine⟨[some (.ro (iD i)),some (.ro M)], ?_,rfl,λ_=> ?_⟩
    ·simp[bD,bw,gD,ab,cz,ag,bj,bu,dq,ak,cv,fm,dI]
    ·have e:jT (λZ=>(ab 1 Z).bind (bT (af "sizes"))) (ab 0) (λx=>some (D.sc (V.int 0))) [some (.ro (iD i)),some (.ro M)]=some (iD (bP S i)):=by
      unfold jT;refine ae.mpr ⟨W,ae.mpr ⟨M,rfl,f1⟩, ?_⟩;exact aau
     unfold dY;rw[e];rfl
  ·generalize mD C nu m te o L dn role vo (bN S)=M at *;simp[f2,bD,au,ab,cz,ag,bj,bY,cu,bu,dq,ak,tQ]
  ·have pk:VL.bf ((gF nu m).map (λi:Nat=>iD (bP S i))++ [iD L.length])=true:=by simpa[cM,xa,aeE]using aat
   rw[aas];simp[jI,pk,h4,cM,xa,aeE]
 ·generalize mD C nu m te o L dn role vo (bN S)=M at *;simp[bw,cz,bj,bu,dq,cv,fT,dI,gE]
 ·rfl
 ·intro z hz;have hq:=aar ((zs.filter λx=>decide (z<=x)).length);generalize mD C nu m te o L dn role vo (bN S)=M at *;refine⟨[some (.ro (iD z)),some (.ro M),some (.ro (.nd .lst (zs.map iD)))], ?_, ?_,λ_=> ?_⟩
  ·simp[bD,bw,gD,ab,ag,ak,cv,fm,dI]
  ·have e:=nB (n:=0 + 1 + 1 + 1) (js:= [none,some 0]) (is:= [0]) (fi:=λZ=>(ab 2 Z).bind ir) (fg:=λd Z=>some (bw 0 (B.ro d) Z)) (ft:=λZ=>(aq (eU λi j=>V.bl (decide (j<=i))) (ab 0) (ab 1) Z).bind λx=>match x with | D.sc (V.bl b)=>some b | x=>none) (fe:=dY (ab 0)) (Z:= [some (.ro (iD z)),some (.ro M),some (.ro (.nd .lst (zs.map iD)))]) zs iD (λx=>decide (z<=x)) iD ?_ h5 rfl ?_
   ·have e2:bY [.nd .lst ((zs.filter λx=>decide (z<=x)).map iD)]=some (iD ((zs.filter λx=>decide (z<=x)).length:Nat)):=by simp[bY]
    generalize (zs.filter λx=>decide (z<=x)).map iD=ys at *;refine ae.mpr ⟨tD (most m zs z),ae.mpr ⟨[M,iD ((zs.filter λx=>decide (z<=x)).length:Nat)], ?_, ?_⟩,rfl⟩
    ·refine ae.mpr ⟨M,rfl, ?_⟩;have e3:au (λZ=>(au (kl (0 + 1 + 1 + 1) [none,some 0] [0] (λZ=>(ab 2 Z).bind ir) (λd Z=>some (bw 0 (B.ro d) Z)) (λZ=>(aq (eU λi j=>V.bl (decide (j<=i))) (ab 0) (ab 1) Z).bind λx=>match x with | D.sc (V.bl b)=>some b | x=>none) (dY (ab 0))) (λx=>some []) Z).bind bY) (λx=>some []) [some (.ro (iD z)),some (.ro M),some (.ro (.nd .lst (zs.map iD)))]=some [iD ((zs.filter λx=>decide (z<=x)).length:Nat)]:=by
      exact ae.mpr ⟨_,ae.mpr ⟨[.nd .lst ys],ae.mpr ⟨.nd .lst ys,e,rfl⟩,e2⟩,rfl⟩
     exact congrArg (aQ (M:: ·)) e3
    ·exact(if_pos rfl).trans hq
   ·simp[bD,ab,ir]
   ·intro x _;simp[bD,bw,gD,ab,eU,aq,VL.plain,dY,cv,fm,dI]
  ·simp[bD,ab,VL.plain,dY]
 ·generalize mD C nu m te o L dn role vo (bN S)=M at *;simp[bw,cv,fT,dI,gE]
 ·have aav:nz (.nd .lst [iD dn]) (.nd .lst ((zs.filter (most m zs)).map iD))=some (.nd .lst ((dn::zs.filter (most m zs)).map iD)):=by
   have aaw:VL.bf (iD dn::(zs.filter (most m zs)).map iD)=true:=df;have aax:1 + (zs.filter (most m zs)).length<=aK:=by lia
   simp[nz,jI,aaw,aax]
  have wq:FP [.nd .lst ((dn::zs.filter (most m zs)).map iD)]=some (iD (gu dn (zs.filter (most m zs)))):=by
   show(rW ((dn::zs.filter (most m zs)).map iD)).bind RB=_;rw[IA];rfl
  generalize (zs.filter (most m zs))=cs at *;generalize D.nd .lst ((dn::cs).map iD)=SS at *;generalize (cs.map iD)=ys at *;generalize (zs.map iD)=zz at *;simp only[mD,dB]at f3 |-;simp[aav,wq,vz,vA,vB,vC,vD,bD,au,ab,eM,bT,lY,fz,lD,ag,aZ,cu,fL,aq,az,cy,bx,eg,ak,aG,tQ]
 ·rfl
end K85
namespace K85
open PySem L2 VL WM
variable [fM K C]
theorem aay{GC:List D->Option (D×List D)}{M1 M2 r d:D}(hc:GC [M1]=some (d, [M2])):eB (λZ=>(aQ (λa=>(a,Z)) (bJ (az 0) (λx=>some []) Z)).bind λa=>bp GC a.fst a.snd) [some (.ar 2 []),some (.ro r),some (.own M1)]=some (.nx [some (.ar 2 []),some (.ro r),some (.own M2)]):=by
 have hs:∀(M e:D),aG M [] e=e:=λM e=>by cases M <;> rfl
 simp[hc,e9,fQ,d5,bM,bJ,bp,eB,dO,ag,bU,az,bx,eg,dD,ak,dh,dS,aG]
theorem aaz(nu ma te o:Int)(L:List D)(dn:Int)(role:Str)(vo si r:D)(hs:i4 role=true)(h:role≠"leads"):qF K C [mD C nu ma te o L dn role vo si,r]=some (.sc .aJ, [mD C nu ma te o L dn role vo si]):=by
 have he:=sF role hs;rw[decide_eq_true h]at he;simp[qF,Cq,mD,dB,he,ku,ky,kB,kC,kD,kE,dg,bD,bE,bJ,dH,bp,au,ab,cz,dO,bT,fz,ag,dm,bj,j8,aZ,methP,cu,aq,bu,dq,az,dY,cy,bx,dR,ak,dh,dS,dG,fE]
theorem aaA(nu te o:Int)(m:Nat)(L:List D)(dn:Int)(vo r:D)(S:List (Int×Int))(hL:cx L)(hr:kY r)(hz:L.length < 890)(hm:m < 90):
  ∃jM,jM=gu dn ((dW nu m S (L.length + 1)).filter (most m (dW nu m S (L.length + 1))))/\
  qF K C [mD C nu m te o L dn "leads" vo (bN S),r]=some (.nd .lst (vZ nu te m (L++ [r]) jM), [mD C nu m te o (L++ [r]) jM "leads" vo (bN S)]):=by
 refine⟨_,rfl, ?_⟩;have he:=sF "leads" (by decide +kernel);rw[decide_eq_false (λz=>z rfl)]at he;have aaB:cx (L++ [r]):=hL.app (cx.one hr);have cG:(L++ [r]).length=L.length + 1:=by simp
 have hb:=Iy (K:=K) (C:=C) nu m te o L [r] dn "leads" vo (bN S) hL (cx.one hr) (by simp;lia);have hc:=Pz (K:=K) (C:=C) nu te o m (L++ [r]) dn "leads" vo S hm;rw[cG]at hc;have aaC:=Py (K:=K) (C:=C) nu te o m (L++ [r]) (gu dn ((dW nu m S (L.length + 1)).filter (most m (dW nu m S (L.length + 1))))) vo (bN S) aaB (by rw[cG];lia) (by lia);have ob:=vE (C:=C) (m:="send") (by decide +kernel) nu m te o (L++ [r]) (gu dn ((dW nu m S (L.length + 1)).filter (most m (dW nu m S (L.length + 1))))) "leads" vo (bN S);have fr:=FV (C:=C) nu m te o L dn "leads" vo (bN S);have pr:=hr.plain;have p0:=yL (C:=C) nu m te o L dn "leads" vo (bN S);have p1:=yL (C:=C) nu m te o (L++ [r]) dn "leads" vo (bN S);have p2:=yL (C:=C) nu m te o (L++ [r]) (gu dn ((dW nu m S (L.length + 1)).filter (most m (dW nu m S (L.length + 1))))) "leads" vo (bN S);have hs:∀(M e:D),aG M [] e=e:=λM e=>by cases M <;> rfl
 generalize gu dn ((dW nu m S (L.length + 1)).filter (most m (dW nu m S (L.length + 1))))=jM at *;generalize mD C nu m te o L dn "leads" vo (bN S)=M at *;generalize mD C nu m te o (L++ [r]) dn "leads" vo (bN S)=M1 at *;generalize mD C nu m te o (L++ [r]) jM "leads" vo (bN S)=M2 at *;unfold qF Cq;dsimp only;refine BA (ρ':= [some (.ar 2 []),some (.ro r),some (.own M2)]) (iU (ρ':= [some (.ar 2 []),some (.ro r),some (.own M)]) ?_ (iU (ρ':= [some (.ar 2 []),some (.ro r),some (.own M1)]) ?_ (iU (ρ':= [some (.ar 2 []),some (.ro r),some (.own M2)]) ?_ (qv (oo ?_))))) rfl
 ·simp[he,fr,bD,ab,cz,ag,dm,bj,aq,bu,dq,dR,ak]
 ·simp[hb,pr,e9,fQ,d5,bM,bD,bJ,dH,bp,au,ab,eB,dO,ag,bU,cu,az,dY,bx,eg,dD,ak,dh,dS,aG,tQ]
 ·exact aay hc
 ·simp[ob,aaC,bD,ab,ag,methP,ak]
end K85
namespace K85
open PySem L2 VL WM
variable [fM K C]
theorem PC(nu ma te o:Int)(L R:List D)(dn:Int)(role:Str)(vo si:D)(hL:cx L)(hR:cx R)(hz:L.length<=440)(mN:R.length<=440):Ce K C [mD C nu ma te o L dn role vo si, .nd .tup R]=some (.sc .aJ, [mD C nu ma te o R dn role vo si]):=by
 have c1:=Cv R L.length;have c2:=Cw R L.length;have c3:=Cw R 0;have hT:cx (R.take L.length):=OC hR λd hd=>JL hd;have PD:cx (R.drop L.length):=OC hR λd hd=>JK hd;obtain⟨c,hc,jK⟩:=Ex.eq (H9 hT) (H9 hL) (by decide) (by decide) (!·);have h3:L.length<=aK:=bW hz (by decide);have h4:R.length<=aK:=bW mN (by decide);have p1:=hL.plain;have p2:=hR.plain;rw[JM]at c3;have p3:=PD.plain;have p4:=hT.plain;cases c with
 |true=>
  have e:R.take L.length=L:=by have:=hc.mp rfl;injection this
  have hb:=Iy (K:=K) (C:=C) nu ma te o L (R.drop L.length) dn role vo si hL PD (by rw[wR];lia);have e2:L++R.drop L.length=R:=by
   have:=aee L.length R;rw[e]at this;exact this
  rw[e2]at hb;generalize R.drop L.length=R1 at *;generalize R.take L.length=R0 at *;simp only[mD,dB]at hb |-;simp[Ce,Cd,qw,qx,qy,qz,p1,p2,c1,c2,jK,hb,dg,e9,fQ,d5,bM,gC,bD,bw,bE,bJ,dH,bp,au,ab,eB,eM,cz,dO,bT,lY,fz,lD,ag,bU,dm,bj,aZ,bY,iJ,fL,aq,bu,dq,az,cy,bx,eg,dD,ak,dh,dS,dG,aG,mf,yh,fE,rV,oe,cv,fT,fm,dI,gE]
 |false=>
  have hb:=Iy (K:=K) (C:=C) nu ma te o [] R dn role vo si cx.nil hR (by simp;lia);rw[List.nil_append]at hb;have c3:cutD R (some 0) none=R:=c3;generalize R.take L.length=R0 at *;simp only[mD,dB]at hb |-;simp[Ce,Cd,qw,qx,qy,qz,BC,BD,BE,BF,BG,BH,BI,BJ,BK,p1,p2,c1,c3,jK,hb,dg,e9,fQ,d5,bM,gC,bD,bw,bE,bJ,dH,bp,au,ab,eB,eM,cz,dO,bT,lY,fz,lD,ag,bU,dm,bj,aZ,bY,iJ,fL,aq,bu,dq,az,cy,bx,eg,dD,ak,dh,dS,dG,aG,mf,yh,fE,rV,oe,cv,fT,fm,dI,gE]
end K85
namespace K85
open PySem L2 VL WM
variable [fM K C]
theorem aaD(h:kY r):oy K C 2 [r]=some r:=by
 cases h <;> simp[kl,oy,Cb,Ca,mK,mL,bD,bw,cY,gD,au,ab,dm,mK,vh,ir,fD,VL.plain,bf,dR,dG,fE,oe,pG,og,cv,dI,i7,NC]
theorem aaE(R:List D)(hR:cx R)(h:R.length<=900):Cc K C [.nd .tup R]=some (.nd .tup R):=by
 have h3:R.length<=aK:=bW h (by decide);have e:kl 1 [none] [0] (λZ=>(ab 0 Z).bind ir) (λd Z=>some (bw 0 (B.ro d) Z)) (λx=>some true) (λZ=>(au (ab 0) (λx=>some []) Z).bind λds=>if ds.length=1 then oy K C 2 ds else none) [some (.ro (.nd .tup R))]=some (.nd .lst R):=by
  have e:=nB (n:=1) (js:= [none]) (is:= [0]) (fi:=λZ=>(ab 0 Z).bind ir) (fg:=λd Z=>some (bw 0 (B.ro d) Z)) (ft:=λx=>some true) (fe:=λZ=>(au (ab 0) (λx=>some []) Z).bind λds=>if ds.length=1 then oy K C 2 ds else none) (Z:= [some (.ro (.nd .tup R))]) R id (λ_=>true) id ?_ h3 rfl ?_
  ·rw[Aj.mpr (λ_ _=>rfl),List.map_id]at e;exact e
  ·simp[bD,ab,ir]
  ·intro r hr;have hr:=aaD (K:=K) (C:=C) (hR r hr);simp[hr,bD,bw,gD,au,ab,cv,dI]
 have hp:=hR.plain;unfold Cc;show cY _ (Cb K C (oy K C 2)) _=_;unfold Cb Ca;dsimp only;generalize (kl 1 [none] [0] (λZ=>(ab 0 Z).bind ir) (λd Z=>some (bw 0 (B.ro d) Z)) (λx=>some true) (λZ=>(au (ab 0) (λx=>some []) Z).bind λds=>if ds.length=1 then oy K C 2 ds else none))=F at e |-;simp[e,hp,mK,bD,cY,au,ab,dm,mK,vh,dR,dG,fE,oe,pG,og]
theorem PF{α:Type}(f:α->D):∀(l:List (Int×α)) (i:Int) (x:α),(match dk (cb i:aY) (l.map λp=>(cb p.1:aY)) with | some k=>D.nd (.aB (l.map λp=>(cb p.1:aY))) ((l.map λp=>f p.2).set k (f x)) | none=>D.nd (.aB (l.map (λp=>(cb p.1:aY))++ [cb i])) ((l.map λp=>f p.2)++ [f x]))=D.nd (.aB ((bV l i x).map λp=>(cb p.1:aY))) ((bV l i x).map λp=>f p.2)
 | [],_,_=>rfl
 |p::l,i,x=>by
  have ih:=PF f l i x;by_cases h:p.1=i
  ·simp[dk,bV,h]
  ·have hk:¬ (cb p.1:aY)=cb i:=λz=>h (rX z);rw[dZ,dZ,dk,if_neg hk,bV,if_neg h];cases e:dk (cb i:aY) (l.map λp=>(cb p.1:aY)) with
   |none=>
    rw[e]at ih;injection ih with i1 i2
    injection i1 with i1
    simp only[aeA,dZ,Sk];rw[i1,i2]
   |some k=>
    rw[e]at ih;injection ih with i1 i2
    injection i1 with i1
    simp only[aeB,dZ,aeC];rw[i1,i2]
theorem PH{α:Type}(f:α->D)(l:List (Int×α))(i:Int)(x:α)(hn:(l.map (·.1)).Nodup)(hz:l.length<=100):nr (.aB (l.map λp=>(cb p.1:aY))) (l.map λp=>f p.2) (iD i) (f x)=some (.nd (.aB ((bV l i x).map λp=>(cb p.1:aY))) ((bV l i x).map λp=>f p.2)):=by
 have h1:(l.map λp=>f p.2).length < aK:=by rw[dC];exact wV hz (by decide)
 have h2:(l.map λp=>(cb p.1:aY)).Nodup:=by
  have e:(l.map λp=>(cb p.1:aY))=(l.map (·.1)).map cb:=by rw[xa];rfl
  rw[e];exact Sz _ (λa b h z=>h (rX z)) hn
 have e:=PF f l i x;unfold nr;show(if _ then _ else _)=_;rw[if_pos ⟨h1,h2⟩, <- e];cases dk (cb i:aY) (l.map λp=>(cb p.1:aY)) <;> rfl
theorem PJ(h:cx v.2):VL.plain (jU v)=true:=by
 have:=h.plain;simp[jU,VL.plain,VL.bf,this]
theorem aaF(vo:List (Int×Int×List D)):bY [iM vo]=some (iD vo.length):=by simp[bY,iM]
theorem aaG(vo:List (Int×Int×List D))(h:∀p∈vo,cx p.2.2):Bq (iM vo)=some (.nd .lst (vo.map λp=>jU p.2)):=by
 have hp:VL.bf (vo.map λp=>jU p.2)=true:=sZ λd hd=>by
  obtain⟨p,hp,rfl⟩:=iy.mp hd;exact PJ (h p hp)
 simp[Bq,iM,hp]
theorem PK(v:Int×List D):vN K C [jU v]=some (.nd .tup [iD v.1,iD v.2.length]):=aam v.1 v.2
theorem IB:∀(r:List (Int×Int×List D)) (b:Int×List D),tO (vN K C) (r.map λp=>jU p.2) (jU b) (b.1,(b.2.length:Int))=some (jU (dX b r))
 | [],_=>rfl
 |p::r,b=>by
  rw[dZ,tO,PK];show(if jJ p.2.1 p.2.2.length b.1 b.2.length=true then _ else _)=_;unfold dX;rw[List.foldl_cons];have e:lK b p.2=if jJ p.2.1 p.2.2.length b.1 b.2.length=true then p.2 else b:=rfl;by_cases c:jJ p.2.1 p.2.2.length b.1 b.2.length=true
  ·rw[if_pos c]at e |-;rw[e];exact IB r p.2
  ·rw[if_neg c]at e |-;rw[e];exact IB r b
theorem aaH(v:Int×Int×List D)(r:List (Int×Int×List D))(h:∀p∈v::r,cx p.2.2):Bt (vN K C) [.nd .lst ((v::r).map λp=>jU p.2)]=some (jU (dX v.2 r)):=by
 have hp:VL.bf ((v::r).map λp=>jU p.2)=true:=sZ λd hd=>by
  obtain⟨p,hp,rfl⟩:=iy.mp hd;exact PJ (h p hp)
 rw[dZ]at hp |-;unfold Bt;dsimp only;rw[if_pos hp,PK];exact IB r v.2
theorem PL:∀(r:List (Int×Int×List D)) (v:Int×List D),dX v r=v\/∃p∈r,dX v r=p.2
 | [],v=> .inl rfl
 |p::r,v=>by
  have e:dX v (p::r)=dX (lK v p.2) r:=rfl;rw[e];rcases PL r (lK v p.2) with h | ⟨q,hq,h⟩
  ·rw[h];unfold lK
   split
   ·exact .inr ⟨p, .head _,rfl⟩
   ·exact .inl rfl
  ·exact .inr ⟨q, .tail _ hq,h⟩
theorem PM(m:Nat)(nu:Int)(s:MS)(hL:cx s.L)(hz:s.L.length<=440)(hv:∀p∈s.vo,cx p.2.2/\p.2.2.length<=440)(hm:0 < m):Cg K C [b6 C m nu s]=some (.sc .aJ, [b6 C m nu (lead m s)]):=by
 obtain⟨te,o,L,dn,role,vo,si⟩:=s;have hb:=Pu (K:=K) (C:=C) nu m te o L dn vo.length role (iM vo) (bN si);have hl:=aaF vo;by_cases h:(m:Int) < 2 * (vo.length:Nat)
 ·cases vo with
  |nil=>simp at h;lia
  |cons v r=>
   have aaI:=aaG (v::r) λp hp=>(hv p hp).1;have wq:=aaH (K:=K) (C:=C) v r λp hp=>(hv p hp).1;have hB:cx (dX v.2 r).2/\(dX v.2 r).2.length<=440:=by
    rcases PL r v.2 with e | ⟨p,hp,e⟩
    ·rw[e];exact hv v (.head _)
    ·rw[e];exact hv p (.tail _ hp)
   have hr:=PC (K:=K) (C:=C) nu m te o L (dX v.2 r).2 dn role (iM (v::r)) (bN si) hL hB.1 hz hB.2;have hp:=hB.1.plain;have e:lead m ⟨te,o,L,dn,role,v::r,si⟩=⟨te,te,(dX v.2 r).2,dn,"leads",v::r, []⟩:=by
    unfold lead;rw[if_pos h]
   rw[e];rw[decide_eq_true h]at hb;unfold b6;dsimp only;have ez:bN []= .nd (.aB []) []:=rfl;rw[ez];generalize (v::r).length=N at *;generalize iM (v::r)=W at *;generalize ((v::r).map λp=>jU p.2)=RR at *;generalize (dX v.2 r)=b at *;obtain⟨bo,bR⟩:=b;generalize bN si=S at *;simp only[mD,dB,jU]at hb wq hr |-;simp[Cg,Cf,hb,hl,aaI,wq,hr,hp,kq,kr,tS,tT,tU,ku,ky,kB,kC,kD,kE,yw,yx,yy,yz,yA,yB,yC,yD,yE,yF,yG,yH,yI,yJ,yK,dg,e9,fQ,d5,bM,gC,bD,bw,bE,bJ,jd,bp,au,ab,eN,eB,eM,cz,dO,bT,lY,fz,lD,ag,bU,dm,bj,fB,eX,gf,aE,gg,aZ,fL,bu,dq,dw,jb,az,VL.plain,bf,lX,cy,bx,eg,dD,ak,dh,dS,dG,aG,fE,cv,fT,dI,gE]
 ·have e:lead m ⟨te,o,L,dn,role,vo,si⟩=⟨te,o,L,dn,role,vo,si⟩:=by
   unfold lead;rw[if_neg h]
  rw[e];rw[decide_eq_false h]at hb;unfold b6;dsimp only;generalize vo.length=N at *;generalize iM vo=W at *;generalize bN si=S at *;simp only[mD,dB]at hb |-;simp[Cg,Cf,hb,hl,yw,yx,yy,yz,yA,yB,yC,dg,bD,bE,bJ,jd,bp,au,ab,eN,cz,dO,bT,fz,ag,dm,bj,fB,eX,gf,aE,gg,aZ,bu,dq,dw,az,cy,bx,ak,dh,dS,dG,fE]
end K85
namespace K85
open PySem L2 VL WM
variable [fM K C]
theorem aaJ(m:Nat)(nu:Int)(s:MS)(hL:cx s.L)(hz:s.L.length<=440)(h0:0 < m)(hm:m < 90):y0 K C [b6 C m nu s]=some (.nd .lst ((kK m nu (rise m nu s).te).map ay), [b6 C m nu (rise m nu s)]):=by
 obtain⟨te,o,L,dn,role,vo,si⟩:=s;have aaK:(0:Int) < m:=by lia
 have h3:(gF nu m).length<=aK:=by
  unfold gF;exact bW (Di _ _) (by rw[Af];exact bW (by lia:m<=100) (by decide))
 have hn:=aal (K:=K) (C:=C) nu m te o L dn role (iM vo) (bN si) aaK;have hl:=PM (K:=K) (C:=C) m nu ⟨dU nu m te,o,L,dn,"stands", [(nu,o,L)],si⟩ hL hz (λp hp=>by rw[cE.mp hp];exact⟨hL,hz⟩) h0;have er:rise m nu ⟨te,o,L,dn,role,vo,si⟩=lead m ⟨dU nu m te,o,L,dn,"stands", [(nu,o,L)],si⟩:=rfl;have et:(lead m ⟨dU nu m te,o,L,dn,"stands", [(nu,o,L)],si⟩).te=dU nu m te:=by
  unfold lead
  split <;> rfl
 rw[er,et];generalize lead m ⟨dU nu m te,o,L,dn,"stands", [(nu,o,L)],si⟩=s2 at *;obtain⟨aaL,o2,L2,CO,CP,PN,PQ⟩:=s2;have et:aaL=dU nu m te:=et;subst et;have ho:=Iz (K:=K) (C:=C) nu (dU nu m te) o2 m L2 CO CP (iM PN) (bN PQ) (by lia);have hp:=hL.plain;have sX:L.length<=aK:=bW hz (by decide);have aaM:(kK m nu (dU nu m te)).map ay=(((gF nu m).filter λ_=>true).map λi:Nat=>D.nd .tup [.sc (.str "stand"), .sc (.int nu), .sc (.int (i:Int)), .sc (.int (dU nu m te))]):=by
  unfold kK;rw[Aj.mpr (λ_ _=>rfl),xa];rfl
 rw[aaM];unfold b6 at hl |-;dsimp only at hl |-;have ev:iM [(nu,o,L)]= .nd (.aB [.inl nu]) [.nd .tup [iD o, .nd .tup L]]:=rfl;rw[ev]at hl;generalize iM vo=V1 at *;generalize bN si=S1 at *;generalize iM PN=V2 at *;generalize bN PQ=S2 at *;unfold y0 Hx;dsimp only;refine BA (ρ':= [some (.ar 1 []),some (.own (mD C nu m (dU nu m te) o2 L2 CO CP V2 S2))]) (iU (ρ':= [some (.ar 1 []),some (.own (mD C nu m (dU nu m te) o L dn role V1 S1))]) ?_ (iU (ρ':= [some (.ar 1 []),some (.own (mD C nu m (dU nu m te) o L dn "stands" V1 S1))]) ?_ (iU (ρ':= [some (.ar 1 []),some (.own (mD C nu m (dU nu m te) o L dn "stands" (.nd (.aB [.inl nu]) [.nd .tup [iD o, .nd .tup L]]) S1))]) ?_
  (iU (ρ':= [some (.ar 1 []),some (.own (mD C nu m (dU nu m te) o2 L2 CO CP V2 S2))]) ?_ (qv (oo (nB (gF nu m) (λi:Nat=>D.sc (.int (i:Int))) (λ_=>true) (λi:Nat=>D.nd .tup [.sc (.str "stand"), .sc (.int nu), .sc (.int (i:Int)), .sc (.int (dU nu m te))]) ?_ h3 ?_ ?_))))))) ?_
 ·simp only[mD,dB]at hn |-;simp[hn,kq,kr,bD,au,ab,eM,cz,lY,lD,ag,bj,fL,bu,dq,az,cy,bx,eg,ak,aG]
 ·simp[mD,dB,ku,ky,kB,kC,kD,kE,eM,lY,lD,ag,fL,az,cy,bx,eg,ak,aG]
 ·simp[mD,dB,hp,tS,tT,tU,qw,qx,qy,qz,yw,yx,yy,yz,yA,yB,yC,bD,au,ab,Nn,eM,bT,lY,fz,lD,ag,gg,aZ,cu,fL,az,VL.plain,dY,cy,bx,eg,ak,aG,oe,i7]
 ·simp only[mD,dB]at hl |-;simp[hl,e9,fQ,d5,bM,bJ,bp,eB,dO,ag,bU,az,bx,eg,dD,ak,dh,dS,aG]
 ·refine ae.mpr ⟨.nd .lst ((gF nu m).map λi:Nat=>D.sc (.int (i:Int))),ae.mpr ⟨[mD C nu m (dU nu m te) o2 L2 CO CP V2 S2], ?_, ?_⟩,rfl⟩
  ·clear ho hl hn;simp[bD,au,ab,ag,ak]
  ·exact(if_pos rfl).trans ho
 ·rfl
 ·intro i hi;simp[mD,dB,kq,kr,bD,bw,gD,au,ab,bT,fz,ag,aZ,cu,VL.plain,dY,cy,ak,cv,fm,dI,Yp]
 ·rfl
theorem aaN(m:Nat)(nu sn i t:Int)(s:MS)(hL:cx s.L)(hz:s.L.length<=440):Ck K C [b6 C m nu s,iD sn,iD t]=some (.nd .lst ((bg m nu s (.gH sn i t)).2.map ay), [b6 C m nu (bg m nu s (.gH sn i t)).1]):=by
 obtain⟨te,o,L,dn,role,vo,si⟩:=s;unfold bg b6;dsimp only;by_cases h:t<=te
 ·rw[if_pos h];dsimp only;simp only[mD,dB];simp[Ck,Cj,h,kq,kr,dg,bD,bE,au,ab,cz,bT,fz,ag,dm,eU,bj,aZ,iJ,aq,bu,dq,cy,dR,ak,dG,fE]
 ·rw[if_neg h];dsimp only;have hr:=Px (K:=K) (C:=C) nu m t o L dn "hears" (iM vo) (bN si) hL (bW hz (by decide));have hp:=hL.plain;rw[dZ,jz,ay];simp only[mD,dB]at hr |-;simp[Ck,Cj,hr,h,kq,kr,tS,tT,tU,ku,ky,kB,kC,kD,kE,dg,bD,bE,au,m9,ab,eM,cz,bT,lY,fz,lD,ag,dm,eU,bj,aZ,iJ,fD,fL,aq,bu,dq,az,VL.plain,lX,cy,bx,eg,dR,ak,dG,aG,fE,tw,tQ,ND]
theorem zj{r:Str}(h:r="hears"\/r="stands"\/r="leads"):i4 r=true:=by
 rcases h with rfl | rfl | rfl <;> decide +kernel
theorem aaO(m:Nat)(nu sn i t o':Int)(R:List D)(s:MS)(w:Wf 440 s)(hR:cx R)(hz:R.length<=440)(hm:0 < m):y9 K C [b6 C m nu s,iD sn,iD t,iD o', .nd .tup R]=some (.nd .lst ((bg m nu s (.cB sn i t o' R)).2.map ay), [b6 C m nu (bg m nu s (.cB sn i t o' R)).1]):=by
 have he:=tP s.role "stands" (zj w.role) (by decide +kernel);have hw:=w.rows.plain;by_cases h:s.role="stands"/\t=s.te
 ·have e:bg m nu s (.cB sn i t o' R)=(lead m { s with vo:=bV s.vo sn (o',R) }, []):=by
   unfold bg;dsimp only;rw[if_pos h]
  rw[e];obtain⟨h1,h2⟩:=h;subst h2;have hv:∀p∈bV s.vo sn (o',R),cx p.2.2/\p.2.2.length<=440:=λp hp=>by
   rcases oB s.vo sn (o',R) p hp with q | q
   ·exact w.vr p q
   ·rw[q];exact⟨hR,hz⟩
  have hl:=PM (K:=K) (C:=C) m nu { s with vo:=bV s.vo sn (o',R) } w.rows w.len hv hm;have pR:=PH jU s.vo sn (o',R) w.vn (by have:=w.vl;lia);have hc:=aaE (K:=K) (C:=C) R hR (by lia);have pl:=hR.plain;rw[h1,decide_eq_true rfl]at he;generalize lead m { s with vo:=bV s.vo sn (o',R) }=s2 at *;obtain⟨te,o,L,dn,role,vo,si⟩:=s;have h1:role="stands":=h1;subst h1;rw[jz];have hM:∃M2,M2=b6 C m nu s2:=⟨_,rfl⟩
  obtain⟨M2,hM⟩:=hM;rw[<- hM]at hl |-;clear hM;unfold b6 at hl |-;dsimp only at hl he pR |-;have ev:iM vo= .nd (.aB (vo.map λp=>(cb p.1:aY))) (vo.map λp=>jU p.2):=rfl;have cX:iM (bV vo sn (o',R))= .nd (.aB ((bV vo sn (o',R)).map λp=>(cb p.1:aY))) ((bV vo sn (o',R)).map λp=>jU p.2):=rfl;rw[<- cX]at pR;rw[ev];generalize iM (bV vo sn (o',R))=W at *;generalize (vo.map λp=>(cb p.1:aY))=ks at *;generalize (vo.map λp=>jU p.2)=cs at *;generalize bN si=S at *;simp only[mD,dB,jU]at hl pR |-;simp[y9,y8,he,lJ,hc,pR,hl,kq,kr,ku,ky,kB,kC,kD,kE,yw,yx,yy,yz,yA,yB,yC,dg,pB,e9,fQ,d5,bM,bD,bE,bJ,bp,au,ab,jq,eB,eM,cz,dO,bT,fz,rD,ag,bU,dm,cT,bj,aZ,iJ,Bx,fD,fL,aq,bu,dq,dw,jb,az,VL.plain,bf,cy,bx,eg,dD,dR,ak,dh,dS,dG,aG,fE]
 ·have e:bg m nu s (.cB sn i t o' R)=(s, []):=by
   unfold bg;dsimp only;rw[if_neg h]
  rw[e];obtain⟨te,o,L,dn,role,vo,si⟩:=s;unfold b6;dsimp only at h he |-;rw[jz];by_cases h1:role="stands"
  ·rw[decide_eq_true h1]at he;have h2:¬ t=te:=λz=>h ⟨h1,z⟩;simp only[mD,dB];simp[y9,y8,he,lJ,h2,kq,kr,ku,ky,kB,kC,kD,kE,dg,pB,bD,bE,bJ,bp,au,ab,jq,eM,cz,dO,bT,fz,rD,ag,dm,bj,aZ,iJ,Bx,fD,fL,aq,bu,dq,dw,az,cy,bx,eg,dR,ak,dh,dS,dG,fE]
  ·rw[decide_eq_false h1]at he;simp only[mD,dB];simp[y9,y8,he,lJ,kq,kr,ku,ky,kB,kC,kD,kE,dg,pB,bD,bE,bJ,bp,au,ab,jq,eM,cz,dO,bT,fz,rD,ag,dm,bj,aZ,iJ,Bx,fD,fL,aq,bu,dq,dw,az,cy,bx,eg,dR,ak,dh,dS,dG,fE]
theorem or_true{a:Prop}[Decidable a]{l r:Nat}(h:a\/(l:Int) < r):(if a then some true else some (decide (l < r)))=some true:=by
 by_cases c:a
 ·rw[if_pos c]
 ·rw[if_neg c,decide_eq_true (by have:=h.resolve_left c;lia)]
theorem aaP(m:Nat)(nu sn i t sure:Int)(R:List D)(s:MS)(hL:cx s.L)(hz:s.L.length<=440)(hR:cx R)(mN:R.length<=440):zb K C [b6 C m nu s,iD sn,iD t, .nd .tup R,iD sure]=some (.nd .lst ((bg m nu s (.keep sn i t R sure)).2.map ay), [b6 C m nu (bg m nu s (.keep sn i t R sure)).1]):=by
 obtain⟨te,o,L,dn,role,vo,si⟩:=s;have p1:=hL.plain;have p2:=hR.plain;unfold bg b6;dsimp only;by_cases h:t < te
 ·rw[if_pos h];dsimp only;rw[jz];simp only[mD,dB];simp[zb,za,h,kq,kr,dg,bD,bE,bJ,jd,bp,au,ab,cz,dO,bT,fz,ag,dm,eU,bj,aZ,iJ,aq,lC,bu,dq,dw,az,cy,bx,dR,ak,dh,dS,dG,fE]
 ·rw[if_neg h];unfold kept;dsimp only;by_cases hc:o < t\/(L.length:Int) < R.length
  ·rw[if_pos hc];dsimp only;rw[dZ,jz,ay];have hr:=PC (K:=K) (C:=C) nu m t o L R dn "hears" (iM vo) (bN si) hL hR hz mN;have aaQ:=or_true hc;simp only[mD,dB]at hr |-;simp[zb,za,h,hr,p2,kq,kr,tS,tT,tU,qw,qx,qy,qz,vz,vA,vB,vC,vD,ku,ky,kB,kC,kD,kE,aaQ,dg,e9,fQ,d5,bM,bD,bE,bJ,jd,bp,au,m9,ab,eB,eM,cz,dO,bT,lY,fz,lD,ag,bU,dm,eU,pF,bj,aZ,bY,iJ,fD,fL,aq,lC,bu,dq,dw,az,VL.plain,lX,cy,bx,eg,dD,dR,ak,dh,dS,dG,aG,fE,tw,tQ,FQ]
  ·rw[if_neg hc];dsimp only;rw[dZ,jz,ay];have nX:¬ o < t:=λz=>hc (.inl z);have g8:¬ L.length < R.length:=λz=>hc (.inr (by lia));simp only[mD,dB];simp[zb,za,h,nX,g8,kq,kr,tS,tT,tU,qw,qx,qy,qz,vz,vA,vB,vC,vD,ku,ky,kB,kC,kD,kE,dg,bD,bE,bJ,jd,bp,au,m9,ab,eB,eM,cz,dO,bT,lY,fz,lD,ag,dm,eU,pF,bj,aZ,bY,iJ,fD,fL,aq,lC,bu,dq,dw,az,VL.plain,lX,cy,bx,eg,dR,ak,dh,dS,dG,aG,fE,tw,tQ,FQ]
theorem aaR{c:En->Option (Bool×En)}{a b:En->Option Fl}{Z ρ1:En}{r:Option Fl}(h:c Z=some (true,ρ1))(ha:a ρ1=r):dm c a b Z=r:=by
 unfold dm;rw[h];exact ha
theorem aaS{GC:List D->Option (D×List D)}{M1 M2 d:D}{sn te z:Int}(hc:GC [M1]=some (d, [M2])):eB (λZ=>(aQ (λa=>(a,Z)) (bJ (az 0) (λx=>some []) Z)).bind λa=>bp GC a.fst a.snd) [some (.ar 4 []),some (.ro (iD sn)),some (.ro (iD te)),some (.ro (iD z)),some (.own M1)]=some (.nx [some (.ar 4 []),some (.ro (iD sn)),some (.ro (iD te)),some (.ro (iD z)),some (.own M2)]):=by
 have hs:∀(M e:D),aG M [] e=e:=λM e=>by cases M <;> rfl
 simp[hc,e9,fQ,d5,bM,bJ,bp,eB,dO,ag,bU,az,bx,eg,dD,ak,dh,dS,aG]
theorem aaT(m:Nat)(nu sn i t z:Int)(s:MS)(w:Wf 440 s)(hm:m < 90):y7 K C [b6 C m nu s,iD sn,iD t,iD z]=some (.nd .lst ((bg m nu s (.kept sn i t z)).2.map ay), [b6 C m nu (bg m nu s (.kept sn i t z)).1]):=by
 have he:=tP s.role "leads" (zj w.role) (by decide +kernel);by_cases h:s.role="leads"/\t=s.te
 ·have e:bg m nu s (.kept sn i t z)=(count m nu { s with si:=bV s.si sn (if bP s.si sn > z then bP s.si sn else z) }, []):=by
   unfold bg;dsimp only;rw[if_pos h]
  rw[e];obtain⟨h1,h2⟩:=h;subst h2;have pR:=PH iD s.si sn (if bP s.si sn > z then bP s.si sn else z) w.sn (by have:=w.sl;lia);have hg:=HZ s.si sn;rw[h1,decide_eq_true rfl]at he;obtain⟨te,o,L,dn,role,vo,si⟩:=s;have h1:role="leads":=h1;subst h1;dsimp only at he pR hg |-;rw[jz];unfold count b6;dsimp only;have hc:=Pz (K:=K) (C:=C) nu te o m L dn "leads" (iM vo) (bV si sn (if bP si sn > z then bP si sn else z)) hm;have cX:bN (bV si sn (if bP si sn > z then bP si sn else z))= .nd (.aB ((bV si sn (if bP si sn > z then bP si sn else z)).map λp=>(cb p.1:aY))) ((bV si sn (if bP si sn > z then bP si sn else z)).map λp=>iD p.2):=rfl;rw[<- cX]at pR;generalize bV si sn (if bP si sn > z then bP si sn else z)=S' at *;generalize gu dn ((dW nu m S' L.length).filter (most m (dW nu m S' L.length)))=jM at *;generalize iM vo=VV at *;have hW:∃W,W=bN S':=⟨_,rfl⟩
  obtain⟨W,hW⟩:=hW;rw[<- hW]at pR hc |-;clear hW cX;unfold y7 y6;dsimp only;refine BA (ρ':= [some (.ar 4 []),some (.ro (iD sn)),some (.ro (iD te)),some (.ro (iD z)),some (.own (mD C nu m te o L jM "leads" VV W))]) (iU (ρ':= [some (.ar 4 []),some (.ro (iD sn)),some (.ro (iD te)),some (.ro (iD z)),some (.own (mD C nu m te o L jM "leads" VV W))]) ?_ ?_) rfl
  ·have bC:jq (λZ=>aQ (λd=>(d,Z)) ((au (ab 3) (au (jT (λZ=>(ab 0 Z).bind (bT (af "sizes"))) (ab 1) λx=>some (D.sc (V.int 0))) λx=>some []) Z).bind (pF λi j=>V.int (if j > i then j else i)))) (rD (af "sizes") (az 0)) (ab 1) [some (.ar 4 []),some (.ro (iD sn)),some (.ro (iD te)),some (.ro (iD z)),some (.own (mD C nu m te o L dn "leads" VV (bN si)))]=some (.nx [some (.ar 4 []),some (.ro (iD sn)),some (.ro (iD te)),some (.ro (iD z)),some (.own (mD C nu m te o L dn "leads" VV W))]):=by
    have IC:jT (λZ=>(ab 0 Z).bind (bT (af "sizes"))) (ab 1) (λx=>some (D.sc (V.int 0))) [some (.ar 4 []),some (.ro (iD sn)),some (.ro (iD te)),some (.ro (iD z)),some (.own (mD C nu m te o L dn "leads" VV (bN si)))]=some (iD (bP si sn)):=by
     unfold jT;refine ae.mpr ⟨bN si, ?_, ?_⟩
     ·simp[mD,dB,yD,yE,yF,yG,yH,yI,yJ,yK,bD,ab,bT,fz,ag,aZ,cy,ak]
     ·exact hg
    generalize hq:bP si sn=q at *;generalize jT (λZ=>(ab 0 Z).bind (bT (af "sizes"))) (ab 1) (λx=>some (D.sc (V.int 0)))=GD at IC |-;simp only[mD,dB,bN]at IC pR |-;simp[IC,pR,yD,yE,yF,yG,yH,yI,yJ,yK,bD,au,ab,jq,eM,fz,rD,ag,cT,pF,aZ,fL,dw,jb,az,VL.plain,bf,cy,bx,eg,ak,aG]
   have b5:=aaS (sn:=sn) (te:=te) (z:=z) hc;refine aaR (ρ1:= [some (.ar 4 []),some (.ro (iD sn)),some (.ro (iD te)),some (.ro (iD z)),some (.own (mD C nu m te o L dn "leads" VV (bN si)))]) ?_ (iU bC b5);simp only[mD,dB];simp[he,lJ,kq,kr,ku,ky,kB,kC,kD,kE,pB,bD,ab,cz,bT,fz,ag,bj,aZ,aq,bu,dq,cy,ak]
  ·simp[iJ,dR]
 ·have e:bg m nu s (.kept sn i t z)=(s, []):=by
   unfold bg;dsimp only;rw[if_neg h]
  rw[e];obtain⟨te,o,L,dn,role,vo,si⟩:=s;unfold b6;dsimp only at h he |-;rw[jz];by_cases h1:role="leads"
  ·rw[decide_eq_true h1]at he;have h2:¬ t=te:=λz=>h ⟨h1,z⟩;simp only[mD,dB];simp[y7,y6,he,lJ,h2,kq,kr,ku,ky,kB,kC,kD,kE,dg,pB,bD,bE,bJ,bp,au,ab,jT,eN,jq,eM,cz,dO,bT,fz,rD,ag,dm,bj,gg,aZ,iJ,fL,aq,bu,dq,dw,az,cy,bx,eg,dR,ak,dh,dS,dG,fE]
  ·rw[decide_eq_false h1]at he;simp only[mD,dB];simp[y7,y6,he,lJ,kq,kr,ku,ky,kB,kC,kD,kE,dg,pB,bD,bE,bJ,bp,au,ab,jT,eN,jq,eM,cz,dO,bT,fz,rD,ag,dm,bj,gg,aZ,iJ,fL,aq,bu,dq,dw,az,cy,bx,eg,dR,ak,dh,dS,dG,fE]
theorem qu(a b:Str)(ha:i4 a=true)(hb:i4 b=true)(h:decide (a=b)=false):fj id (.sc (.str a)) (.sc (.str b))=some (.sc (.bl false)):=by rw[tP _ _ ha hb,h]
theorem eqT(a:Str)(ha:i4 a=true):fj id (.sc (.str a)) (.sc (.str a))=some (.sc (.bl true)):=by rw[tP _ _ ha ha,decide_eq_true rfl]
theorem aaU(m:Nat)(nu:Int)(s:MS)(g:bF)(w:Wf 440 s)(hg:g.ok 440)(h0:0 < m)(hm:m < 90):rL K C [b6 C m nu s,ay g]=some (.nd .lst ((bg m nu s g).2.map ay), [b6 C m nu (bg m nu s g).1]):=by
 cases g with
 |gH sn i t=>
  have hv:=aaN (K:=K) (C:=C) m nu sn i t s w.rows w.len;have h1:=eqT "stand" (by decide +kernel);generalize bg m nu s (.gH sn i t)=X at *;generalize b6 C m nu s=M at *;rw[ay];simp[rL,vT,h1,hv,dg,e9,fQ,d5,bM,bD,bE,bJ,jd,bp,ab,eN,cz,dO,ag,bU,dm,bj,fB,eX,gf,bq,aE,aX,gg,aZ,aq,bu,dq,dw,jb,az,VL.plain,bx,eg,dD,dR,ak,dh,dS,dG,aG,fE]
 |cB sn i t o' R=>
  have hv:=aaO (K:=K) (C:=C) m nu sn i t o' R s w hg.1 hg.2 h0;have h1:=qu "voice" "stand" (by decide +kernel) (by decide +kernel) (by decide +kernel);have h2:=eqT "voice" (by decide +kernel);have pl:=hg.1.plain;generalize bg m nu s (.cB sn i t o' R)=X at *;generalize b6 C m nu s=M at *;rw[ay];simp[rL,vT,h1,h2,hv,pl,dg,e9,fQ,d5,bM,bD,bE,bJ,jd,bp,ab,eN,cz,dO,ag,bU,dm,bj,fB,eX,gf,bq,aE,aX,gg,aZ,aq,bu,dq,dw,jb,az,VL.plain,bx,eg,dD,dR,ak,dh,dS,dG,aG,fE]
 |keep sn i t R dn=>
  have hv:=aaP (K:=K) (C:=C) m nu sn i t dn R s w.rows w.len hg.1 hg.2;have h1:=qu "keep" "stand" (by decide +kernel) (by decide +kernel) (by decide +kernel);have h2:=qu "keep" "voice" (by decide +kernel) (by decide +kernel) (by decide +kernel);have h3:=eqT "keep" (by decide +kernel);have pl:=hg.1.plain;generalize bg m nu s (.keep sn i t R dn)=X at *;generalize b6 C m nu s=M at *;rw[ay];simp[rL,vT,h1,h2,h3,hv,pl,dg,e9,fQ,d5,bM,bD,bE,bJ,jd,bp,ab,eN,cz,dO,ag,bU,dm,bj,fB,eX,gf,bq,aE,aX,gg,aZ,aq,bu,dq,dw,jb,az,VL.plain,bx,eg,dD,dR,ak,dh,dS,dG,aG,fE]
 |kept sn i t z=>
  have hv:=aaT (K:=K) (C:=C) m nu sn i t z s w hm;have h1:=qu "kept" "stand" (by decide +kernel) (by decide +kernel) (by decide +kernel);have h2:=qu "kept" "voice" (by decide +kernel) (by decide +kernel) (by decide +kernel);have h3:=qu "kept" "keep" (by decide +kernel) (by decide +kernel) (by decide +kernel);generalize bg m nu s (.kept sn i t z)=X at *;generalize b6 C m nu s=M at *;rw[ay];simp[rL,vT,h1,h2,h3,hv,dg,e9,fQ,d5,bM,bD,bE,bJ,jd,bp,ab,eN,cz,dO,ag,bU,dm,bj,fB,eX,gf,bq,aE,aX,gg,aZ,aq,bu,dq,dw,jb,az,VL.plain,bx,eg,dD,dR,ak,dh,dS,dG,aG,fE]
theorem PU(m:Nat)(nu:Int)(s:MS):(keeps m nu s).map ay=vZ nu s.te m s.L s.dn:=by
 unfold keeps vZ;rw[xa];rfl
theorem aaV(m:Nat)(nu:Int)(s:MS)(w:Wf 440 s)(hm:m < 90):rM K C [b6 C m nu s]=some (.nd .lst ((sends m nu s).map ay)):=by
 unfold sends;by_cases h:s.role="leads"
 ·rw[if_pos h,PU];unfold b6;rw[h];exact Py nu s.te s.o m s.L s.dn (iM s.vo) (bN s.si) w.rows (bW w.len (by decide)) (by lia)
 ·rw[if_neg h,jz];exact aaq nu m s.te s.o s.L s.dn s.role (iM s.vo) (bN s.si) (zj w.role) h
theorem aaW(m:Nat)(nu:Int)(s:MS):zd K C [b6 C m nu s]=some (.nd .lst [], [b6 C m nu (mR s)]):=by
 obtain⟨te,o,L,dn,role,vo,si⟩:=s;unfold mR b6;dsimp only;simp[zd,HN,mD,dB,vz,vA,vB,vC,vD,ku,ky,kB,kC,kD,kE,dg,bE,eM,cz,lY,lD,ag,bj,iJ,fL,bu,dq,az,cy,bx,eg,dR,ak,dG,aG,fE]
def CQ:Option (List bF)->D
 |some l=> .nd .lst (l.map ay)
 |none=> .sc .aJ
theorem aaX(m:Nat)(nu:Int)(s:MS)(r:D)(w:Wf 440 s)(hr:kY r)(hm:m < 90):qF K C [b6 C m nu s,r]=some (CQ (iw m nu r s).2, [b6 C m nu (iw m nu r s).1]):=by
 unfold iw;by_cases h:s.role="leads"
 ·rw[if_pos h];dsimp only;rw[CQ,PU];obtain⟨te,o,L,dn,role,vo,si⟩:=s;have h:role="leads":=h;subst h;unfold b6 count;dsimp only;obtain⟨jM,e,ha⟩:=aaA (K:=K) (C:=C) nu te o m L dn (iM vo) r si w.rows hr (wV w.len (by decide)) hm;rw[show(L++ [r]).length=L.length + 1 by simp, <- e];exact ha
 ·rw[if_neg h];exact aaz nu m s.te s.o s.L s.dn s.role (iM s.vo) (bN s.si) r (zj w.role) h
end K85
namespace K85
open PySem L2 VL WM
variable [fM K C]
theorem rS(a b c d:D):aE (.nd (.aB bX) [a,b,c,d]) (.sc (.str "masters"))=some 0:=by
 simp[aE,fB,eN,bX,dk,gg]
theorem ID:(af "masters"=af "way")=False:=cV
theorem PV:(af "masters"=af "story")=False:=cV
theorem IE:(af "masters"=af "rows")=False:=cV
theorem PX:(af "way"=af "story")=False:=cV
theorem IF:(af "way"=af "rows")=False:=cV
theorem IG:(af "story"=af "rows")=False:=cV
theorem oJ(a b c d:D):aE (.nd (.aB bX) [a,b,c,d]) (.sc (.str "way"))=some 1:=by
 simp[aE,fB,eN,bX,dk,gg,ID]
theorem IH(a b c d:D):aE (.nd (.aB bX) [a,b,c,d]) (.sc (.str "story"))=some 2:=by
 simp[aE,fB,eN,bX,dk,gg,PV,PX]
theorem PY(a b c d:D):aE (.nd (.aB bX) [a,b,c,d]) (.sc (.str "rows"))=some 3:=by
 simp[aE,fB,eN,bX,dk,gg,IE,IF,IG]
theorem II:bX.Nodup:=by simp[bX,ID,PV,IE,PX,IF,IG]
theorem IJ(a b c d x:D):nr (.aB bX) [a,b,c,d] (.sc (.str "way")) x=some (.nd (.aB bX) [a,x,c,d]):=by
 have h:=II;have h4:(4:Nat) < aK:=by decide
 have e:dk (.inr (af "way"):aY) bX=some 1:=by simp[bX,dk,ID]
 simp[nr,gg,h,h4,e]
theorem aaY(a b c d x:D):nr (.aB bX) [a,b,c,d] (.sc (.str "rows")) x=some (.nd (.aB bX) [a,b,c,x]):=by
 have h:=II;have h4:(4:Nat) < aK:=by decide
 have e:dk (.inr (af "rows"):aY) bX=some 3:=by simp[bX,dk,IE,IF,IG]
 simp[nr,gg,h,h4,e]
theorem rT{m:Nat}{ms:List MS}{i:Nat}{s:MS}(h:ms[i]?=some s):(cC C m ms)[i]?=some (b6 C m i s):=by
 unfold cC;rw[Dj,h];rfl
theorem CS:(cC C m ms).length=ms.length:=by unfold cC;rw[SD]
theorem zk{m:Nat}{ms:List MS}{i:Nat}{s:MS}(h:ms[i]?=some s):aE (.nd .lst (cC C m ms)) (iD i)=some i/\aZ (.nd .lst (cC C m ms)) i=some (b6 C m i s):=by
 have hi:i < (cC C m ms).length:=by rw[CS];exact(bB.mp h).1
 have e1:fB (.nd .lst (cC C m ms)) (iD i)=some i:=by
  have h0:¬ (i:Int) < 0:=by lia
  simp[fB,eX,hi]
 refine⟨by unfold aE;rw[e1], ?_⟩;have:=rT (C:=C) (m:=m) h;simp[aZ,this]
theorem qI(m:Nat)(nu:Int)(s:MS):VL.plain (b6 C m nu s)=false:=yL _ _ _ _ _ _ _ _ _
theorem zm(m:Nat)(w:aN)(i:Nat)(deed:Str)(what:D)(told:Option (List bF))(s:MS)(hs:w.ms[i]?=some s)(hL:cx s.L)(hz:s.L.length<=900)(hp:VL.plain what=true)(ht:∀l,told=some l->(∀g∈l,g.ok 900)/\l.length<=100)(hw:(∀g∈w.way,g.ok 900)/\w.way.length<=60)(hn:w.aC.length<=900):
  qD K C [wD C m w,iD i,sD deed,what,d6 told]=some (.sc .aJ, [wD C m (aN.v8 w i deed what told s)]):=by
 obtain⟨ms,way,aC,rows⟩:=w;dsimp only at hs hw hn;obtain⟨i1,i2⟩:=zk (C:=C) (m:=m) hs;have i3:=rT (C:=C) (m:=m) hs;have pM:=qI (C:=C) m i s;have f1:bT "term" (b6 C m i s)=some (iD s.te):=FT _ _ _ _ _ _ _ _ _;have f2:bT "of" (b6 C m i s)=some (iD s.o):=Yu _ _ _ _ _ _ _ _ _;have f3:bT "log" (b6 C m i s)=some (.nd .lst s.L):=NJ _ _ _ _ _ _ _ _ _;have f4:bT "done" (b6 C m i s)=some (iD s.dn):=FU _ _ _ _ _ _ _ _ _;have f5:bT "role" (b6 C m i s)=some (sD s.role):=FV _ _ _ _ _ _ _ _ _;have aaZ:=hL.plain;have aha:s.L.length<=aK:=bW hz (by decide);have aa0:VL.plain (d6 told)=true:=v7 (b:=900) λl hl=>(ht l hl).1;have aa1:oe [.nd .lst s.L]=some (.nd .tup s.L):=by simp[oe,aaZ]
 have aa2:xV (D.nd .tup [iD i,sD deed,what,d6 told, .nd .tup [iD s.te,iD s.o, .nd .tup s.L,iD s.dn,sD s.role]]) (aC.map cU)=some ((aC++ [(⟨i,deed,what,told,s⟩:gW)]).map cU):=by
  have h9:aC.length < aK:=wV hn (by decide);simp[xV,h9,cU,jV]
 have W:wD C m ⟨ms,way,aC,rows⟩= .nd (.aB bX) [.nd .lst (cC C m ms), .nd .lst (way.map ay), .nd .lst (aC.map cU),iD rows]:=rfl;have aa3:∀l,told=some l->F3 (.nd .lst (way.map ay)) (d6 told)=some (.nd .lst ((way++l).map ay)):=λl hl=>by
  subst hl;have p:VL.bf ((way++l).map ay)=true:=pP (b:=900) λg hg=>by
   rcases iG.mp hg with h | h
   ·exact hw.1 g h
   ·exact(ht l rfl).1 g h
  have z:way.length + l.length<=aK:=bW (by have:=hw.2;have:=(ht l rfl).2;simp at *;lia:way.length + l.length<=900) (by decide);rw[cM]at p |-;simp[F3,d6,yO,p,z]
 have aa4:∀l,told=some l->mf (.nd .lst ((way++l).map ay)) (some (-60)) none=some (.nd .lst ((lL (way++l)).map ay)):=λl hl=>by
  subst hl;have p:VL.bf ((way++l).map ay)=true:=pP (b:=900) λg hg=>by
   rcases iG.mp hg with h | h
   ·exact hw.1 g h
   ·exact(ht l rfl).1 g h
  have e:=ZE ((way++l).map ay);have e2:lL ((way++l).map ay)=(lL (way++l)).map ay:=by
   unfold lL;rw[dC,SE]
  rw[e2]at e;generalize (way++l).map ay=CC at *;simp[mf,p,e]
 unfold aN.v8;dsimp only;unfold qD Hj;dsimp only;have e0:cz 6 [true,false,false,false,false] [wD C m ⟨ms,way,aC,rows⟩,iD i,sD deed,what,d6 told]= [some (.ar 6 []),some (.ro (iD i)),some (.ro (sD deed)),some (.ro what),some (.ro (d6 told)),none,some (.own (wD C m ⟨ms,way,aC,rows⟩))]:=by
  generalize wD C m ⟨ms,way,aC,rows⟩=WW;simp[cz,bj,bu,dq]
 generalize PZ:(aC++ [(⟨i,deed,what,told,s⟩:gW)]).map cU=b5 at *;have e1:(tF 5 (gf aE (gf aE (az 0) λx=>some (D.sc (V.str (af "masters")))) (ab 1))) [some (.ar 6 []),some (.ro (iD i)),some (.ro (sD deed)),some (.ro what),some (.ro (d6 told)),none,some (.own (wD C m ⟨ms,way,aC,rows⟩))]=some (.nx [some (.ar 6 []),some (.ro (iD i)),some (.ro (sD deed)),some (.ro what),some (.ro (d6 told)),some (.ar 6 [0,i]),some (.own (wD C m ⟨ms,way,aC,rows⟩))]):=by
  rw[W];generalize b6 C m i s=M at *;simp[rS,i1,i3,pM,tF,bD,bw,ab,ag,cT,gf,aZ,dw,jb,az,VL.plain,bf,ak,cv,fT,fm,dI,gE]
 let ρ1:D->En:=λX=> [some (.ar 6 []),some (.ro (iD i)),some (.ro (sD deed)),some (.ro what),some (.ro (d6 told)),some (.ar 6 [0,i]),some (.own X)]
 have e2:(eB (ER (gf aE (az 0) λx=>some (D.sc (V.str (af "story")))) (cu Kd.tup (au (dY (ab 1)) (au (dY (ab 2)) (au (dY (ab 3)) (au (dY (ab 4)) (au (cu Kd.tup (au (dY λZ=>(ab 5 Z).bind (bT (af "term"))) (au (dY λZ=>(ab 5 Z).bind (bT (af "of"))) (au (λZ=>(au (λZ=>(ab 5 Z).bind (bT (af "log"))) (λx=>some []) Z).bind oe) (au (dY λZ=>(ab 5 Z).bind (bT (af "done"))) (au (dY λZ=>(ab 5 Z).bind (bT (af "role"))) λx=>some [])))))) λx=>some [])))))))) (ρ1 (wD C m ⟨ms,way,aC,rows⟩))=some (.nx (ρ1 (.nd (.aB bX) [.nd .lst (cC C m ms), .nd .lst (way.map ay), .nd .lst b5,iD rows]))):=by
  rw[W];dsimp only[ρ1];generalize b6 C m i s=M at *;generalize d6 told=T at *;generalize aC.map cU=bC at *;generalize way.map ay=wy at *;simp[IH,i3,ic,f1,f2,f3,f4,f5,aa1,hp,aa0,aa2,ER,bD,au,ab,eB,eM,ag,cT,gf,aZ,tI,cu,fL,dw,jb,az,VL.plain,bf,dY,bx,gU,oq,ak,aG,FQ]
 cases told with
 |none=>
  refine Cu (ρ':=ρ1 (.nd (.aB bX) [.nd .lst (cC C m ms), .nd .lst (way.map ay), .nd .lst b5,iD rows])) (by
   rw[e0];refine iU e1 (iU e2 ?_);simp[ρ1,d6,bD,ab,eN,jq,eM,dm,A7,Bd,Bc,fB,eX,bq,aE,aX,gg,fL,aq,az,bx,gU,ak,mf,yh,rV]) ?_
  unfold wD;dsimp only;rw[PZ];simp[ρ1,dg]
 |some l=>
  have hc:=aa3 l rfl;have hk:=aa4 l rfl;refine Cu (ρ':= [some (.ar 6 []),some (.ro (iD i)),some (.ro (sD deed)),some (.ro what),some (.ro (d6 (some l))),none,some (.own (.nd (.aB bX) [.nd .lst (cC C m ms), .nd .lst ((lL (way++l)).map ay), .nd .lst b5,iD rows]))]) (by
   rw[e0];refine iU e1 (iU e2 ?_);dsimp only[ρ1];have DV:Bc (d6 (some l))=some false:=rfl;generalize d6 (some l)=T at *;generalize D.nd .lst ((way++l).map ay)=CC at *;generalize (lL (way++l)).map ay=L6 at *;generalize way.map ay=wy at *;simp[oJ,IJ,hc,hk,DV,ic,bD,ab,jq,eM,ag,dm,A7,Bd,bq,aX,aZ,fL,aq,az,bx,gU,oq,ak,aG,yh,rV]) ?_
  unfold wD;dsimp only;rw[PZ];simp[dg]
end K85
namespace K85
open PySem L2 VL WM
variable [fM K C]
theorem CT(m:Nat)(ms:List MS)(i:Nat)(s:MS):(cC C m ms).set i (b6 C m i s)=cC C m (ms.set i s):=by
 refine SH λj=> ?_;unfold cC;rw[Dj];by_cases c:i=j
 ·subst c;by_cases h:i < ms.length
  ·rw[dr (by rw[SD];exact h),dr h];rfl
  ·rw[SJ (by rw[bZ,SD];lia),SJ (by rw[bZ];lia)];rfl
 ·rw[fq c,fq c,Dj]
theorem P0{way:List bF}{k:Nat}{g:bF}(h:way[k]?=some g):aE (.nd .lst (way.map ay)) (iD k)=some k/\aZ (.nd .lst (way.map ay)) k=some (ay g):=by
 have hi:k < way.length:=(bB.mp h).1;have e1:fB (.nd .lst (way.map ay)) (iD k)=some k:=by
  have h0:¬ (k:Int) < 0:=by lia
  simp[fB,eX,hi]
 refine⟨by unfold aE;rw[e1], ?_⟩;simp[aZ,h]
theorem aa5(g:bF):aX aE bq (ay g) (.sc (.int 2))=some (iD g.to):=by
 cases g <;> simp[ay,bF.to,fB,eX,aE,aX,aZ]
theorem aa6{GH GN:List D->Option (D×List D)}{ks:List aY}{M M' g a b c W':D}{gv oK:List D}{k st cZ:D}{i:Nat}(h3:VL.plain g=true)(ht:aX aE bq g (.sc (.int 2))=some (iD i))(hk:∀x,aE (.nd (.aB ks) [x,a,b,c]) (.sc (.str "masters"))=some 0)(h1:aE (.nd .lst gv) (iD i)=some i)(h2:aZ (.nd .lst gv) i=some M)(mS:gv[i]?=some M)(hs:gv.set i M'=oK)(pM:VL.plain M=false)(IK:VL.plain M'=false)(ho:j8 C "hear" M=true)(eh:GH [M,g]=some (cZ, [M']))(po:VL.plain (iV cZ)=true)(en:GN [.nd (.aB ks) [.nd .lst oK,a,b,c],iD i,sD "hear",g,iV cZ]=some (.sc .aJ, [W'])):
  (eB λZ=>(ja (az 0) (eT (lX (aq (aX aE bq) (ab 3) λx=>some (D.sc (V.int 2)))) (eT (λZ=>aQ (λd=>(d,Z)) (some (D.sc (V.str (af "hear"))))) (eT (fD 3) (eT (nD (pH GH C (af "hear") (gf aE (gf aE (az 0) λx=>some (D.sc (V.str (af "masters")))) (aq (aX aE bq) (ab 3) λx=>some (D.sc (V.int 2)))) (jd (az 3) λx=>some []))) λZ=>aQ (λa=>(a,Z)) (some []))))) Z).bind λa=>bp GN a.fst a.snd) [some (.ar 4 []),some (.ro k),some (.ro st),some (.own g),some (.own (.nd (.aB ks) [.nd .lst gv,a,b,c]))]=some (.nx [some (.ar 4 []),some (.ro k),some (.ro st),some (.own g),some (.own W')]):=by
 have hj:∀x,(gv.set i x)[i]?=some x:=λx=>dr (bB.mp mS).1;simp[nD,ja,h3,ht,hk,h1,mS,hs,ho,eh,en,ic,e9,fQ,d5,bM,bD,ja,jd,eT,bp,ab,eB,dO,ag,bU,cT,gf,aZ,pH,fD,aq,dw,jb,az,VL.plain,bf,lX,bx,gU,oq,dD,ak,dh,dS,aG]
theorem P1(m:Nat)(w:aN)(h:Ww m w)(hz:w.aC.length < 440)(h0:0 < m)(hm:m < 40)(k:Nat)(fW:Bool)(g:bF)(hk:w.way[k]?=some g)(i:Nat)(s:MS)(hi:g.to=i)(hs:w.ms[i]?=some s):
  vU K C [wD C m w,iD k,tD fW]=some (.sc .aJ, [wD C m (aN.told w fW k g i m s)]):=by
 have v9:g∈w.way:=gk hk;have Ig:s∈w.ms:=gk hs;have mg:=h.way g v9;have ws:=h.ms s Ig;have t6:i < m:=by rw[<- h.n];exact(bB.mp hs).1
 have wh:=OI (nu:=i) ws mg (by lia);have mh:=OM (nu:=i) ws mg (by lia) (by lia);have eh:=aaU (K:=K) (C:=C) m i s g (ws.wf.mono (by lia)) (mg.mono (by lia)).ok h0 (by lia);obtain⟨k1,k2⟩:=P0 hk;have k3:(w.way.map ay)[k]?=some (ay g):=by rw[dF,hk];rfl
 have pg:=Cz mg.ok;have P2:VL.bf (w.way.map ay)=true:=pP λg hg=>(h.way g hg).ok;have aa7:k < w.way.length:=(bB.mp hk).1
 let w1:aN:=if fW=true then w else w.cut k
 have aa8:w1.ms=w.ms:=by show(if fW=true then w else w.cut k).ms=_;split <;> rfl
 have P4:w1.aC=w.aC:=by show(if fW=true then w else w.cut k).aC=_;split <;> rfl
 have aa9:w1.rows=w.rows:=by show(if fW=true then w else w.cut k).rows=_;split <;> rfl
 have P5:(∀x∈w1.way,x∈w.way)/\w1.way.length<=60:=by
  have hf:=h.lU;show(∀x∈(if fW=true then w else w.cut k).way,x∈w.way)/\(if fW=true then w else w.cut k).way.length<=60
  split
  ·exact⟨λ_ h=>h,hf⟩
  ·exact⟨λx hx=>w9 hx,by show(w.way.eraseIdx k).length<=60;rw[List.length_eraseIdx_of_lt aa7];lia⟩
 have en:=zm (K:=K) (C:=C) m { w1 with ms:=w.ms.set i (bg m i s g).1 } i "hear" (ay g) (some (bg m i s g).2) (bg m i s g).1 (by show(w.ms.set i _)[i]?=_;exact dr (bB.mp hs).1) wh.wf.rows (bW wh.wf.len (by lia)) pg (λl hl=>by
  cases hl;exact⟨λx hx=>((mh x hx).mono (by lia)).ok,bW ZC (by decide)⟩) ⟨λx hx=>((h.way x (P5.1 x hx)).mono (by lia)).ok,P5.2⟩ (by show w1.aC.length<=900;rw[P4];lia)
 have aba:aN.v8 { w1 with ms:=w.ms.set i (bg m i s g).1 } i "hear" (ay g) (some (bg m i s g).2) (bg m i s g).1=aN.told w fW k g i m s:=by
  unfold aN.v8 aN.told aN.note;show _= { w1 with ms:=w1.ms.set i _,aC:=_,way:=_ };rw[aa8]
 rw[aba]at en;have abb:VL.bf ((bg m i s g).2.map ay)=true:=pP λx hx=>(mh x hx).ok;have oN:iV (.nd .lst ((bg m i s g).2.map ay))=d6 (some (bg m i s g).2):=by
  show(if _ then _ else _)=_;rw[if_pos abb];rfl
 have W1:wD C m { w1 with ms:=w.ms.set i (bg m i s g).1 }= .nd (.aB bX) [.nd .lst (cC C m (w.ms.set i (bg m i s g).1)), .nd .lst (w1.way.map ay), .nd .lst (w.aC.map cU),iD w.rows]:=by
  unfold wD;dsimp only;rw[P4,aa9]
 rw[W1, <- oN]at en;obtain⟨i1,i2⟩:=zk (C:=C) (m:=m) hs;have iW:=aa5 g;rw[hi]at iW;have ho:j8 C "hear" (b6 C m i s)=true:=vE (by decide +kernel) _ _ _ _ _ _ _ _ _;have po:VL.plain (iV (.nd .lst ((bg m i s g).2.map ay)))=true:=by rw[oN];exact v7 (b:=900) λl hl=>by cases hl;exact λx hx=>((mh x hx).mono (by lia)).ok
 have call:=aa6 (C:=C) (GH:=rL K C) (GN:=qD K C) (ks:=bX) (k:=iD k) (st:=tD fW) pg iW (λx=>rS x _ _ _) i1 i2 (rT hs) (CT m w.ms i (bg m i s g).1) (qI m i s) (qI m i _) ho eh po en;have W0:wD C m w= .nd (.aB bX) [.nd .lst (cC C m w.ms), .nd .lst (w.way.map ay), .nd .lst (w.aC.map cU),iD w.rows]:=rfl;unfold vU HH;dsimp only;have e0:cz 4 [true,false,false] [wD C m w,iD k,tD fW]= [some (.ar 4 []),some (.ro (iD k)),some (.ro (tD fW)),none,some (.own (wD C m w))]:=by
  generalize wD C m w=WW;simp[cz,bj,bu,dq]
 refine Cu (ρ':= [some (.ar 4 []),some (.ro (iD k)),some (.ro (tD fW)),some (.own (ay g)),some (.own (wD C m (aN.told w fW k g i m s)))]) (by
  rw[e0];refine iU (ρ':= [some (.ar 4 []),some (.ro (iD k)),some (.ro (tD fW)),some (.own (ay g)),some (.own (wD C m w))]) ?_ (iU (ρ':= [some (.ar 4 []),some (.ro (iD k)),some (.ro (tD fW)),some (.own (ay g)),some (.own (.nd (.aB bX) [.nd .lst (cC C m w.ms), .nd .lst (w1.way.map ay), .nd .lst (w.aC.map cU),iD w.rows]))]) ?_ call)
  ·rw[W0];generalize ay g=gd at *;generalize w.way.map ay=wy at *;simp[oJ,k1,k3,pg,tF,bD,bw,ab,ag,cT,gf,aZ,dw,jb,az,VL.plain,bf,ak,cv,fT,fm,dI,gE]
  ·rw[W0];cases fW with
   |true=>
    show _=some (Fl.nx [_,_,_,_,some (.own (.nd (.aB bX) [_, .nd .lst (w.way.map ay),_,_]))]);simp[nz,pK,Bw,jI,bD,ab,eN,jq,eM,dm,fB,eX,bq,aE,aX,gg,fL,aq,az,bx,gU,ak,mf]
   |false=>
    show _=some (Fl.nx [_,_,_,_,some (.own (.nd (.aB bX) [_, .nd .lst ((w.way.eraseIdx k).map ay),_,_]))]);have c1:=Cv (w.way.map ay) k;have c2:=Cw (w.way.map ay) (k + 1);have ea:jI (.nd .lst ((w.way.map ay).take k)) (.nd .lst ((w.way.map ay).drop (k + 1)))=some (.nd .lst ((w.way.eraseIdx k).map ay)):=by
     have e:(w.way.map ay).take k++(w.way.map ay).drop (k + 1)=(w.way.eraseIdx k).map ay:=by rw[<- ZF,cM,List.map_take,SE]
     have p:VL.bf ((w.way.eraseIdx k).map ay)=true:=pP λx hx=>(h.way x (w9 hx)).ok;have z:min k w.way.length + (w.way.length - (k + 1))<=aK:=bW (by have:=h.lU;lia:_<=900) (by decide);have p2:=p;rw[<- e]at p2;simp[jI,p,z,e]
    have s1:pK (.nd .lst (w.way.map ay)) none (some (k:Int))=some (.nd .lst ((w.way.map ay).take k)):=by
     simp[pK,mf,P2,c1]
    have s2:pK (.nd .lst (w.way.map ay)) (some ((k:Int) + 1)) none=some (.nd .lst ((w.way.map ay).drop (k + 1))):=by
     have abc:cutD (w.way.map ay) (some ((k:Int) + 1)) none=(w.way.map ay).drop (k + 1):=c2;simp[pK,mf,P2,abc]
    have abd:jI (iD k) (D.sc (V.int 1))=some (D.sc (V.int ((k:Int) + 1))):=rfl;generalize ay g=gd at *;generalize (w.way.map ay).take k=ahb at *;generalize (w.way.map ay).drop (k + 1)=ahc at *;generalize (w.way.eraseIdx k).map ay=Nl at *;generalize w.way.map ay=wy at *;simp[oJ,IJ,s1,s2,ea,abd,ic,nz,Bw,bD,ab,jq,eM,ag,dm,bq,aX,aZ,fL,aq,az,bx,gU,oq,ak,aG,rV]) ?_
 generalize wD C m (aN.told w fW k g i m s)=WW;simp[dg]
end K85
namespace K85
open PySem L2 VL WM
variable [fM K C]
theorem abe(cs:List Int)(k:Nat):∃c:Int,B1 K C [gQ cs,iD k]=some (iD c):=by
 by_cases h:k < cs.length
 ·exact⟨cs[k],by simp[B1,B0,gQ,h,bD,cY,au,ab,eN,dm,eU,fB,eX,bq,aE,aX,gg,aZ,bY,aq,VL.plain,lX,dR,dG,fE]⟩
 ·exact⟨0,by simp[B1,B0,gQ,h,bD,cY,au,ab,eN,dm,eU,fB,eX,bq,aE,aX,gg,bY,aq,lX,dR,dG,fE]⟩
theorem P6(c k:Int)(hk:0<=k/\k < 2 ^ 30):∃m:Int,0<=m/\m < 1999999973/\Hd K C [iD c,iD k]=some (iD m):=by
 let m:=((c % 2147483629 + k * k * 7919 + 11) * 48271 % 2147483647)
 have hm:0<=m/\m < 2147483647:=⟨Ah _ (by decide),Dk _ (by decide)⟩
 refine⟨m * m % 1999999973,Ah _ (by decide),Dk _ (by decide), ?_⟩;have k1: -18446744073709551616 < k/\k < 18446744073709551616:=by lia
 have m1: -18446744073709551616 < m/\m < 18446744073709551616:=by lia
 have m2: -18446744073709551616 < (c % 2147483629 + k * k * 7919 + 11) * 48271 % 2147483647/\(c % 2147483629 + k * k * 7919 + 11) * 48271 % 2147483647 < 18446744073709551616:=m1;simp[Hd,Hc,k1,m2,m,nz,jI,gC,bD,bw,cY,ab,intD,aq,dR,dG,fE,o8,cv,fm,dI]
theorem abf(c m:Int)(hm:0 < m)(h2:m < 2 ^ 200):kJ K C [.nd .lst [iD c],iD m]=some (iD (c % m), [.nd .lst [iD (c / m)]]):=by
 have h3:m < 1606938044258990275541962092341162602522202993782792835301376:=h2;simp[kJ,yX,lJ,hm,h3,dg,pB,gC,bD,bw,bE,au,ab,eN,eM,cz,ag,dm,eU,intD,bj,fB,eX,bq,aE,aX,gg,aZ,bY,tI,fD,fL,aq,bu,dq,az,VL.plain,Bn,bx,eg,dR,ak,dG,Bm,tL,aG,fE,sU,cv,fT,fm,dI,gE]
theorem abg(c r m:Int)(hm:0 < m)(h2:m < 2 ^ 200):∃d l,0<=d/\d < m/\(∃x y,l= [iD x]\/l= [iD x,iD y])/\kJ K C [.nd .lst [iD c,iD r],iD m]=some (iD d, [.nd .lst l]):=by
 have h3:m < 1606938044258990275541962092341162602522202993782792835301376:=h2;by_cases h:c=0
 ·subst h;refine⟨r % m, [iD (r / m)],Ah _ (by lia),Dk _ hm,⟨_,0, .inl rfl⟩, ?_⟩;simp[kJ,yX,lJ,hm,h3,dg,pB,gC,bD,bw,bE,au,ab,eN,eM,cz,ag,dm,eU,intD,bj,fB,eX,bq,aE,aX,gg,aZ,bY,tI,fD,fL,aq,bu,dq,az,VL.plain,Bn,bx,eg,dR,ak,dG,Bm,tL,aG,fE,sU,cv,fT,fm,dI,gE]
 ·refine⟨c % m, [iD (c / m),iD r],Ah _ (by lia),Dk _ hm,⟨_,_, .inr rfl⟩, ?_⟩;simp[kJ,yX,lJ,hm,h3,h,dg,pB,gC,bD,bw,bE,au,ab,eN,eM,cz,ag,dm,eU,intD,bj,fB,eX,bq,aE,aX,gg,aZ,bY,tI,fD,fL,aq,bu,dq,az,VL.plain,Bn,bx,eg,dR,ak,dG,Bm,tL,aG,fE,sU,cv,fT,fm,dI,gE]
theorem abh(c:Int)(k:Nat)(hk:k < 2 ^ 20):∃r:Int,B3 K C [iD c,iD k]=some (iD r):=by
 have key:∃d,B3 K C [iD c,iD k]=some d/\∃r,d=iD r:=by
  unfold B3 He;dsimp only;refine NF (Ev.nx (ρ':= [some (.ro (iD c)),some (.ro (iD k)),some (.own (iD 0)),none]) (by simp[gL,gC,bw,cv,fm,dI]) (Ev.seq ?_));refine Ev.for (ds:=iB 0 12) (by simp[lZ,au]) (λZ=>∃(nu:Int) (x:Option B),NA x/\Z= [some (.ro (iD c)),some (.ro (iD k)),some (.own (iD nu)),x]) ⟨0,none,(λ_ _ h=>by cases h),rfl⟩ ?_ ?_
  ·rintro d hd Z ⟨nu,x,hx,rfl⟩;obtain⟨j,hj,rfl⟩:=NH hd;obtain⟨m1,a1,a2,e1⟩:=P6 (K:=K) (C:=C) c (k + 20 * j) (by lia);obtain⟨m2,b1,b2,e2⟩:=P6 (K:=K) (C:=C) m1 j (by lia);have z:(0:Int) + j=j:=Int.zero_add _;rw[z];simp[Ev,gR hx,e1,e2,nz,jI,gC,bD,bw,au,ab,intD,fD,aq,dR,o8,cv,fT,fm];exact(λ_ _ h=>by cases h)
  ·rintro Z ⟨nu,x,hx,rfl⟩;simp[Ev,bD,ab,fD,VL.plain,dR]
 obtain⟨d,e,r,rfl⟩:=key;exact⟨r,e⟩
theorem P7(cs:List Int)(k:Nat)(hk:k < 2 ^ 20):∃l:List D,Lp l/\vK K C [gQ cs,iD k]=some (.nd .lst l):=by
 obtain⟨c,e1⟩:=abe (K:=K) (C:=C) cs k;obtain⟨r,e2⟩:=abh (K:=K) (C:=C) c k hk;by_cases h:1000000000000000000<=c
 ·refine⟨[iD c,iD r],⟨c,r, .inr rfl⟩, ?_⟩;simp[vK,B4,e1,e2,h,gC,bD,bw,cY,au,m9,ab,dm,eU,intD,iJ,fD,aq,VL.plain,dR,dG,fE,DK,cv,fm,dI,i7]
 ·refine⟨[iD r],⟨r,0, .inl rfl⟩, ?_⟩;simp[vK,B4,e1,e2,h,gC,bD,bw,cY,au,m9,ab,dm,eU,intD,iJ,fD,aq,dR,dG,fE,DK,cv,fm,dI,tQ]
theorem nE(l:List D)(hl:Lp l)(m:Int)(hm:0 < m)(h2:m < 2 ^ 200):∃(d:Int) (l':List D),0<=d/\d < m/\Lp l'/\kJ K C [.nd .lst l,iD m]=some (iD d, [.nd .lst l']):=by
 obtain⟨x,y,rfl | rfl⟩:=hl
 ·exact⟨_,_,Ah _ (by lia),Dk _ hm,⟨_,0, .inl rfl⟩,abf x m hm h2⟩
 ·obtain⟨d,l,a,b,⟨p,q,e⟩,g⟩:=abg (K:=K) (C:=C) x y m hm h2;exact⟨d,l,a,b,⟨p,q,e⟩,g⟩
end K85
namespace K85
open PySem L2 VL WM
variable [fM K C]
def eC(words:D)(whole:Bool)(x4:Option B)(k:Int)(x6:Option B)(W:D)(l:List D):En:= [some (.ar 7 []),some (.ar 8 []),some (.ro words),some (.ro (tD whole)),x4,some (.own (iD k)),x6,some (.own W),some (.own (.nd .lst l))]
def IL(K:ah)(C:Addr)[fM K C]:En->Option (Bool×En):=(VL.andM (λZ=>aQ (λb=>(b,Z)) ((aq (eU λi j=>V.bl (decide (i < j))) (ab 5) (λZ=>(au (aq (aX aE bq) (ab 0) λx=>some (D.sc (V.str (af "way")))) (λx=>some []) Z).bind bY) Z).bind λx=>match x with | D.sc (V.bl b)=>some b | x=>none)) (VL.andM (λZ=>aQ (λb=>(b,Z)) ((aq (λa b=>aQ (λb=>D.sc (V.bl b)) (oQ a b)) (aq (aX aE bq) (aq (aX aE bq) (aq (aX aE bq) (ab 0) λx=>some (D.sc (V.str (af "way")))) (ab 5)) λx=>some (D.sc (V.int 0))) (ab 2) Z).bind λx=>match x with | D.sc (V.bl b)=>some b | x=>none)) (VL.orM (λZ=>aQ (λb=>(b,Z)) ((ab 3 Z).bind λx=>match x with | D.sc (V.bl b)=>some b | x=>none)) (A0 (kh (eU λi j=>V.bl (decide (j < i))) (λZ=>(aQ (λa=>(a,Z)) (bJ (az 1) (dH (λx=>some (D.sc (V.int 4))) λx=>some []) Z)).bind λa=>bp (kJ K C) a.fst a.snd) λZ=>aQ (λd=>(d,Z)) (some (D.sc (V.int 0))))))))
def abi(K:ah)(C:Addr)[fM K C]:En->Option Fl:=(eB λZ=>(aQ (λa=>(a,Z)) (bJ (az 0) (jd (az 5) (dH (λx=>some (D.sc (V.bl false))) λx=>some [])) Z)).bind λa=>bp (vU K C) a.fst a.snd)
def P8:En->Option Fl:=(gC 5 λZ=>aQ (λd=>(d,Z)) (aq jI (ab 5) (λx=>some (D.sc (V.int 1))) Z))
theorem abj(g:bF)(a b:Str):∃c,oQ (sD g.word) (.nd .tup [sD a,sD b])=some c:=by
 refine⟨xu (.str g.word) [.str a, .str b], ?_⟩;simp[oQ,qt,kg]
theorem abk(g:bF):aX aE bq (ay g) (.sc (.int 0))=some (sD g.word):=by
 cases g <;> simp[ay,bF.word,fB,eX,aE,aX,aZ]
theorem abl{words W d:D}{whole:Bool}{k:Int}(h4:NA x4)(h6:NA x6)(e:GP [.nd .lst l,iD 4]=some (d, [.nd .lst l'])):
  ((aQ (λa=>(a,eC words whole x4 k x6 W l)) (bJ (az 1) (dH (λx=>some (D.sc (V.int 4))) λx=>some []) (eC words whole x4 k x6 W l))).bind λa=>bp GP a.fst a.snd)=some (d,eC words whole x4 k x6 W l'):=by
 unfold eC;simp[e,cK h4,cK h6,ic,e9,fQ,d5,bM,bJ,dH,bp,dO,ag,bU,az,bx,gU,oq,dD,ak,dh,dS,aG]
theorem abm(m:Nat)(w:aN)(h:Ww m w)(a b:Str)(whole:Bool)(x4 x6:Option B)(h4:NA x4)(h6:NA x6)(k:Nat)(l:List D)(hl:Lp l):∃(c:Bool) (l':List D),Lp l'/\(c=true->k < w.way.length)/\IL K C (eC (.nd .tup [sD a,sD b]) whole x4 k x6 (wD C m w) l)=some (c,eC (.nd .tup [sD a,sD b]) whole x4 k x6 (wD C m w) l'):=by
 have W0:wD C m w= .nd (.aB bX) [.nd .lst (cC C m w.ms), .nd .lst (w.way.map ay), .nd .lst (w.aC.map cU),iD w.rows]:=rfl;have cG:bY [.nd .lst (w.way.map ay)]=some (iD w.way.length):=by simp[bY]
 unfold IL;by_cases c1:k < w.way.length
 ·obtain⟨g,hk⟩:∃g,w.way[k]?=some g:=⟨_,gM c1⟩
  obtain⟨k1,k2⟩:=P0 hk;have hw:=abk g;obtain⟨c2,e2⟩:=abj g a b;have hi:aX aE bq (.nd .lst (w.way.map ay)) (iD k)=some (ay g):=by
   show(aE _ _).bind _=_;rw[k1];exact k2
  have s1:∀(F:En->Option (Bool×En)),VL.andM ((λZ=>aQ (λb=>(b,Z)) ((aq (eU λi j=>V.bl (decide (i < j))) (ab 5) (λZ=>(au (aq (aX aE bq) (ab 0) λx=>some (D.sc (V.str (af "way")))) (λx=>some []) Z).bind bY) Z).bind λx=>match x with | D.sc (V.bl b)=>some b | x=>none))) F (eC (.nd .tup [sD a,sD b]) whole x4 k x6 (wD C m w) l)=F (eC (.nd .tup [sD a,sD b]) whole x4 k x6 (wD C m w) l):=λF=>Ih (ρ1:=eC (.nd .tup [sD a,sD b]) whole x4 k x6 (wD C m w) l) (by
   unfold eC;rw[W0];generalize w.way.map ay=wy at *;simp[oJ,cG,c1,bD,au,ab,ag,eU,bq,aX,aZ,aq,ak]) rfl
  rw[s1];have s2:((λZ=>aQ (λb=>(b,Z)) ((aq (λa b=>aQ (λb=>D.sc (V.bl b)) (oQ a b)) (aq (aX aE bq) (aq (aX aE bq) (aq (aX aE bq) (ab 0) λx=>some (D.sc (V.str (af "way")))) (ab 5)) λx=>some (D.sc (V.int 0))) (ab 2) Z).bind λx=>match x with | D.sc (V.bl b)=>some b | x=>none))) (eC (.nd .tup [sD a,sD b]) whole x4 k x6 (wD C m w) l)=some (c2,eC (.nd .tup [sD a,sD b]) whole x4 k x6 (wD C m w) l):=by
   unfold eC;rw[W0];generalize w.way.map ay=wy at *;generalize ay g=gd at *;generalize (D.nd Kd.tup [sD a,sD b])=wd at *;have abn:∀a b c d:D,aX aE bq (.nd (.aB bX) [a,b,c,d]) (.sc (.str "way"))=some b:=λa b c d=>by
    show(aE (.nd (.aB bX) [a,b,c,d]) (.sc (.str "way"))).bind (aZ (.nd (.aB bX) [a,b,c,d]))=some b;rw[oJ];rfl
   simp[abn,hi,hw,e2,bD,ab,ag,aq,ak]
  cases c2 with
  |false=>exact⟨false,l,hl,(λz=>nomatch z),OO s2⟩
  |true=>
   cases whole with
   |true=>exact⟨true,l,hl,λ_=>c1,Ih s2 (OP (by unfold eC;simp[bD,ab]))⟩
   |false=>
    obtain⟨d,l',a1,b1,hU,e3⟩:=nE (K:=K) (C:=C) l hl 4 (by decide) (by decide);have p:=abl (words:= .nd .tup [sD a,sD b]) (whole:=false) (W:=wD C m w) (k:=k) h4 h6 e3;exact⟨decide (0 < d),l',hU,λ_=>c1,Ih s2 (Ii (ρ1:=eC (.nd .tup [sD a,sD b]) false x4 k x6 (wD C m w) l) (by unfold eC;simp[bD,ab]) (FX (pO p rfl rfl)))⟩
 ·refine⟨false,l,hl,(λz=>nomatch z),OO ?_⟩;unfold eC;rw[W0];generalize w.way.map ay=wy at *;simp[oJ,cG,c1,bD,au,ab,ag,eU,bq,aX,aZ,aq,ak]
theorem abo(h4:NA x4)(h6:NA x6)(e:GH [W,iD k,tD false]=some (.sc .aJ, [W'])):((eB λZ=>(aQ (λa=>(a,Z)) (bJ (az 0) (jd (az 5) (dH (λx=>some (D.sc (V.bl false))) λx=>some [])) Z)).bind λa=>bp GH a.fst a.snd)) (eC words whole x4 k x6 W l)=some (.nx (eC words whole x4 k x6 W' l)):=by
 unfold eC;simp[e,cK h4,cK h6,ic,e9,fQ,d5,bM,bJ,jd,dH,bp,eB,dO,ag,bU,dw,az,VL.plain,bx,gU,oq,dD,ak,dh,dS,aG]
theorem abp(m:Nat)(h0:0 < m)(hm:m < 40)(w:aN)(h:Ww m w)(hz:w.aC.length < 440)(a b:Str)(whole:Bool)(x4 x6:Option B)(h4:NA x4)(h6:NA x6)(k:Nat)(l:List D)(hl:Lp l):
  ∃(w':aN) (k':Nat) (l':List D),Lp l'/\Ww m w'/\iN m w w'/\w'.aC.length<=w.aC.length + 1/\dm (IL K C) (abi K C) P8 (eC (.nd .tup [sD a,sD b]) whole x4 k x6 (wD C m w) l)=some (.nx (eC (.nd .tup [sD a,sD b]) whole x4 k' x6 (wD C m w') l')):=by
 obtain⟨c,l',hU,hc,ec⟩:=abm (K:=K) (C:=C) m w h a b whole x4 x6 h4 h6 k l hl;cases c with
 |true=>
  have hk:=gM (hc rfl);generalize w.way[k]'(hc rfl)=g at hk;have mg:=h.way g (gk hk);have t0:=mg.t0;have t1:=mg.t1;obtain⟨i,hi⟩:∃i:Nat,g.to=i:=⟨g.to.toNat,by lia⟩
  have t6:i < w.ms.length:=by rw[h.n];lia
  have hs:=gM t6;generalize w.ms[i]'t6=s at hs;have eh:=P1 (K:=K) (C:=C) m w h hz h0 hm k false g hk i s hi hs;refine⟨w.told false k g i m s,k,l',hU,h.told hm hk hs, .one (.bg w false k g i s hk hi hs),by rw[ON];exact bK _,tV ec ?_⟩;rw[if_pos rfl];exact abo h4 h6 eh
 |false=>
  refine⟨w,k + 1,l',hU,h, .refl _,by lia,tV ec ?_⟩;rw[if_neg ji];unfold P8 eC;generalize wD C m w=WW;simp[gR h4,gR h6,jI,gC,bD,bw,ab,aq,cv,fT,fm,gE]
theorem IM(m:Nat)(h0:0 < m)(hm:m < 40)(w:aN)(h:Ww m w)(hz:w.aC.length<=310)(a b:Str)(whole:Bool)(l:List D)(hl:Lp l):
  ∃(w':aN) (l':List D),Lp l'/\Ww m w'/\iN m w w'/\w'.aC.length<=w.aC.length + 120/\Cn K C [wD C m w, .nd .lst l, .nd .tup [sD a,sD b],tD whole]=some (.sc .aJ, [wD C m w', .nd .lst l']):=by
 have key:∃d o,Cn K C [wD C m w, .nd .lst l, .nd .tup [sD a,sD b],tD whole]=some (d,o)/\∃(w':aN) (l':List D),Lp l'/\Ww m w'/\iN m w w'/\w'.aC.length<=w.aC.length + 120/\d= .sc .aJ/\o= [wD C m w', .nd .lst l']:=by
  unfold Cn HJ;dsimp only;have e0:cz 7 [true,true,false,false] [wD C m w, .nd .lst l, .nd .tup [sD a,sD b],tD whole]= [some (.ar 7 []),some (.ar 8 []),some (.ro (.nd .tup [sD a,sD b])),some (.ro (tD whole)),none,none,none,some (.own (wD C m w)),some (.own (.nd .lst l))]:=by
   generalize wD C m w=WW;simp[gL,cz,bj,bu,dq]
  refine CA ?_;rw[e0];refine Ev.NP (m:=2) (ae.mpr ⟨[iD 2],rfl,tR 2 (by decide)⟩) (λj Z=>∃(w1:aN) (l1:List D) (x4 x5 x6:Option B),Lp l1/\Ww m w1/\iN m w w1/\w1.aC.length<=w.aC.length + 60 * j/\NA x4/\NA x5/\NA x6/\Z= [some (.ar 7 []),some (.ar 8 []),some (.ro (.nd .tup [sD a,sD b])),some (.ro (tD whole)),x4,x5,x6,some (.own (wD C m w1)),some (.own (.nd .lst l1))]) ⟨w,l,none,none,none,hl,h, .refl _,by lia,gj,gj,gj,rfl⟩ ?_ ?_
  ·rintro j hj Z ⟨w1,l1,x4,x5,x6,nH,ig,bC,wt,h4,h5,h6,rfl⟩;refine⟨[some (.ar 7 []),some (.ar 8 []),some (.ro (.nd .tup [sD a,sD b])),some (.ro (tD whole)),some (.ro (iD j)),x5,x6,some (.own (wD C m w1)),some (.own (.nd .lst l1))],by
    generalize wD C m w1=WW;simp[gR h4,gR h5,gR h6,bw,cv,fT,fm,gE], ?_⟩
   refine Ev.nx (ρ':=eC (.nd .tup [sD a,sD b]) whole (some (.ro (iD j))) (0:Nat) x6 (wD C m w1) l1) (by
    unfold eC;generalize wD C m w1=WW;simp[gR h5,gR h6,gC,bw,cv,fT,fm,gE]) ?_
   have cG:bY [.nd .lst (w1.way.map ay)]=some (iD w1.way.length):=by simp[bY]
   have hf:=ig.lU;refine Ev.NP (m:=w1.way.length) (ae.mpr ⟨[iD w1.way.length], ?_,tR _ (by lia)⟩) (λq Z=>∃(w2:aN) (k:Nat) (l2:List D) (x6:Option B),Lp l2/\Ww m w2/\iN m w w2/\w2.aC.length<=w1.aC.length + q/\NA x6/\Z=eC (.nd .tup [sD a,sD b]) whole (some (.ro (iD j))) k x6 (wD C m w2) l2) ⟨w1,0,l1,x6,nH,ig,bC,by lia,h6,rfl⟩ ?_ ?_
   ·have W0:wD C m w1= .nd (.aB bX) [.nd .lst (cC C m w1.ms), .nd .lst (w1.way.map ay), .nd .lst (w1.aC.map cU),iD w1.rows]:=rfl;unfold eC;rw[W0];generalize w1.way.map ay=wy at *;simp[oJ,cG,bD,au,ab,ag,bq,aX,aZ,aq,ak]
   ·rintro q hq Z ⟨w2,k,l2,x6,g9,oO,b5,mN,h6,rfl⟩;obtain⟨w3,k3,l3,lq,abq,jC,ahd,e3⟩:=abp (K:=K) (C:=C) m h0 hm w2 oO (by lia) a b whole (some (.ro (iD j))) (some (.ro (iD q))) mO mO k l2 g9;refine⟨eC (.nd .tup [sD a,sD b]) whole (some (.ro (iD j))) k (some (.ro (iD q))) (wD C m w2) l2,by
     unfold eC;generalize wD C m w2=WW;simp[gR h6,bw,cv,fT,fm,gE],_,e3,w3,k3,l3,_,lq,abq,b5.trans jC,by lia,mO,rfl⟩
   ·rintro Z ⟨w2,k,l2,x6,g9,oO,b5,mN,h6,rfl⟩;exact⟨w2,l2,_,_,_,g9,oO,b5,by lia,mO,je,h6,rfl⟩
  ·rintro Z ⟨w1,l1,x4,x5,x6,nH,ig,bC,wt,h4,h5,h6,rfl⟩;exact⟨[wD C m w1, .nd .lst l1],by generalize wD C m w1=WW;simp[dg],w1,l1,nH,ig,bC,by lia,rfl,rfl⟩
 obtain⟨d,o,e,w',l',h1,h2,h3,h4,rfl,rfl⟩:=key;exact⟨w',l',h1,h2,h3,h4,e⟩
end K85
namespace K85
open PySem L2 VL WM
variable [fM K C]
theorem abr(m:Nat)(ms:List MS):cC C m ms=ms.zipIdx.map λp=>b6 C m p.2 p.1:=by
 refine SH λj=> ?_;unfold cC;rw[Dj,dF,List.getElem?_zipIdx];cases ms[j]? with
 |none=>rfl
 |some s=>simp
def jg(ms:List MS):List (Int×Int):=(ms.zipIdx.filter λp=>decide (p.1.role=("leads":Str))).map λp=>(p.1.te,(p.2:Int))
theorem abt(h:p∈jg ms):0<=p.2/\p.2 < ms.length:=by
 obtain⟨q,hq,rfl⟩:=iy.mp h;have:=(mW.mp hq).1;have:=List.snd_lt_of_mem_zipIdx this
 constructor
 ·exact JT _
 ·show((q.2:Int) < ms.length);lia
theorem IP:∀(ps:List (Int×Int)) (b:Int×Int),ml b ps=b\/ml b ps∈ps
 | [],b=> .inl rfl
 |p::ps,b=>by
  have e:ml b (p::ps)=ml (if jJ p.1 p.2 b.1 b.2=true then p else b) ps:=rfl;rw[e]
  split
  ·rcases IP ps p with h | h
   ·rw[h];exact .inr (.head _)
   ·exact .inr (.tail _ h)
  ·rcases IP ps b with h | h
   ·exact .inl h
   ·exact .inr (.tail _ h)
theorem P9:∀(ps:List (Int×Int)),pairsOf (ps.map pairD)=some ps
 | []=>rfl
 |p::ps=>by
  rw[dZ,pairsOf,P9 ps];rfl
theorem abu(p:Int×Int):Ex 1 (pairD p):= .tup 0 _ λd hd=>by
 simp only[gK,wZ,or_false]at hd;rcases hd with rfl | rfl
 ·exact .int _ _
 ·exact .int _ _
def eQ(W M X:D)(l:List D):En:= [some (.ro W),some (.ar 4 []),some (.ro M),some (.own X),some (.own (.nd .lst l))]
theorem abv(m:Nat)(w:aN)(h:Ww m w)(hm:m < 40)(l:List D):(kl 4 [none] [0] (λZ=>(ab 2 Z).bind ir) (λd Z=>some (bw 0 (B.ro d) Z)) (λZ=>(aq (fj id) (λZ=>(ab 0 Z).bind (bT (af "role"))) (λx=>some (D.sc (V.str (af "leads")))) Z).bind λx=>match x with | D.sc (V.bl b)=>some b | x=>none) (cu Kd.tup (au (dY λZ=>(ab 0 Z).bind (bT (af "term"))) (au (dY λZ=>(ab 0 Z).bind (bT (af "number"))) λx=>some [])))) [some (.ro (wD C m w)),some (.ar 4 []),some (.ro (.nd .lst (cC C m w.ms))),none,some (.own (.nd .lst l))]=some (.nd .lst ((jg w.ms).map pairD)):=by
 have e:=nB (n:=4) (js:= [none]) (is:= [0]) (fi:=(λZ=>(ab 2 Z).bind ir)) (fg:=(λd Z=>some (bw 0 (B.ro d) Z))) (ft:=(λZ=>(aq (fj id) (λZ=>(ab 0 Z).bind (bT (af "role"))) (λx=>some (D.sc (V.str (af "leads")))) Z).bind λx=>match x with | D.sc (V.bl b)=>some b | x=>none)) (fe:=(cu Kd.tup (au (dY λZ=>(ab 0 Z).bind (bT (af "term"))) (au (dY λZ=>(ab 0 Z).bind (bT (af "number"))) λx=>some [])))) (Z:= [some (.ro (wD C m w)),some (.ar 4 []),some (.ro (.nd .lst (cC C m w.ms))),none,some (.own (.nd .lst l))]) w.ms.zipIdx (λp=>b6 C m p.2 p.1) (λp=>decide (p.1.role=("leads":Str))) (λp=>pairD (p.1.te,(p.2:Int))) ?_ (by rw[List.length_zipIdx,h.n];exact bW (by lia:m<=100) (by decide)) rfl ?_
 ·rw[e];unfold jg;rw[xa];rfl
 ·rw[<- abr];generalize wD C m w=WW;generalize cC C m w.ms=MM;simp[bD,ab,ir]
 ·intro p hp;have hs:p.1∈w.ms:=by
   obtain⟨s,i⟩:=p;exact(List.mem_zipIdx' hp).2▸aea _
  have wr:=(h.ms p.1 hs).wf.role;have he:=tP p.1.role "leads" (zj wr) (by decide +kernel);have f1:bT "role" (b6 C m p.2 p.1)=some (sD p.1.role):=FV _ _ _ _ _ _ _ _ _;have f2:bT "term" (b6 C m p.2 p.1)=some (iD p.1.te):=FT _ _ _ _ _ _ _ _ _;have f3:bT "number" (b6 C m p.2 p.1)=some (iD p.2):=NI _ _ _ _ _ _ _ _ _;generalize b6 C m p.2 p.1=M at *;simp[he,f1,f2,f3,pairD,bD,bw,gD,au,ab,cu,aq,VL.plain,dY,cv,dI,i7]
theorem Qa(hf:fl (eQ W M X l)=some z)(e:GP [.nd .lst l,z]=some (d, [.nd .lst l'])):
  ((aQ (λa=>(a,eQ W M X l)) (bJ (az 1) (dH fl λx=>some []) (eQ W M X l))).bind λa=>bp GP a.fst a.snd)=some (d,eQ W M X l'):=by
 unfold eQ at *;simp[hf,e,ic,e9,fQ,d5,bM,bJ,dH,bp,dO,ag,bU,az,bx,gU,oq,dD,ak,dh,dS,aG]
theorem Qb(m:Nat)(h0:0 < m)(hm:m < 40)(w:aN)(h:Ww m w)(l:List D)(hl:Lp l):∃(i:Nat) (l':List D),i < m/\Lp l'/\Co K C [wD C m w, .nd .lst l]=some (iD i, [.nd .lst l']):=by
 have abw:=abv (C:=C) m w h hm l;have e0:cz 4 [false,true] [wD C m w, .nd .lst l]= [some (.ro (wD C m w)),some (.ar 4 []),none,none,some (.own (.nd .lst l))]:=by
  generalize wD C m w=WW;simp[gL,cz,bj,bu,dq]
 have W0:wD C m w= .nd (.aB bX) [.nd .lst (cC C m w.ms), .nd .lst (w.way.map ay), .nd .lst (w.aC.map cU),iD w.rows]:=rfl;obtain⟨c,hc,abx⟩:=Ex.eq (Ex.lst 1 ((jg w.ms).map pairD) λd hd=>by
  obtain⟨p,_,rfl⟩:=iy.mp hd;exact abu p) (Ex.lst 0 [] λ_ h=>nomatch h) (by decide) (by decide) id
 have s1:tF 2 (gf aE (az 0) λx=>some (D.sc (V.str (af "masters")))) [some (.ro (wD C m w)),some (.ar 4 []),none,none,some (.own (.nd .lst l))]=some (.nx [some (.ro (wD C m w)),some (.ar 4 []),some (.ro (.nd .lst (cC C m w.ms))),none,some (.own (.nd .lst l))]):=by
  rw[W0];simp[rS,tF,bw,gf,aZ,dw,jb,az,VL.plain,ak,cv,fT,fm,dI,gE]
 have s2:(gC 3 λZ=>aQ (λd=>(d,Z)) ((kl 4 [none] [0] (λZ=>(ab 2 Z).bind ir) (λd Z=>some (bw 0 (B.ro d) Z)) (λZ=>(aq (fj id) (λZ=>(ab 0 Z).bind (bT (af "role"))) (λx=>some (D.sc (V.str (af "leads")))) Z).bind λx=>match x with | D.sc (V.bl b)=>some b | x=>none) (cu Kd.tup (au (dY λZ=>(ab 0 Z).bind (bT (af "term"))) (au (dY λZ=>(ab 0 Z).bind (bT (af "number"))) λx=>some [])))) Z)) [some (.ro (wD C m w)),some (.ar 4 []),some (.ro (.nd .lst (cC C m w.ms))),none,some (.own (.nd .lst l))]=some (.nx (eQ (wD C m w) (.nd .lst (cC C m w.ms)) (.nd .lst ((jg w.ms).map pairD)) l)):=qA (oo abw) (by
  unfold eQ;generalize wD C m w=WW;generalize cC C m w.ms=MM;generalize (jg w.ms).map pairD=XX;simp[bw,cv,fT,fm,dI,gE])
 have zo:bY [.nd .lst (cC C m w.ms)]=some (iD m):=by simp[bY,CS,h.n]
 have Qc:∀l,Lp l->∃(i:Nat) (l':List D),i < m/\Lp l'/\((aQ (λa=>(a,eQ (wD C m w) (.nd .lst (cC C m w.ms)) (.nd .lst ((jg w.ms).map pairD)) l)) (bJ (az 1) (dH (λZ=>(au (ab 2) (λx=>some []) Z).bind bY) λx=>some []) (eQ (wD C m w) (.nd .lst (cC C m w.ms)) (.nd .lst ((jg w.ms).map pairD)) l))).bind λa=>bp (kJ K C) a.fst a.snd)=some (iD i,eQ (wD C m w) (.nd .lst (cC C m w.ms)) (.nd .lst ((jg w.ms).map pairD)) l'):=λl hl=>by
  obtain⟨d,l',a1,b1,hU,e1⟩:=nE (K:=K) (C:=C) l hl (m:Int) (by lia) (SK (b:=40) (by lia) (by decide));obtain⟨i,rfl⟩:∃i:Nat,d=i:=⟨d.toNat,by lia⟩
  refine⟨i,l',by lia,hU,Qa ?_ e1⟩;unfold eQ;generalize cC C m w.ms=MM at *;generalize (jg w.ms).map pairD=XX;simp[zo,bD,au,ab]
 have key:∃d o,Co K C [wD C m w, .nd .lst l]=some (d,o)/\∃(i:Nat) (l':List D),i < m/\Lp l'/\d=iD i/\o= [.nd .lst l']:=by
  unfold Co HK;dsimp only;refine CA ?_;rw[e0];refine Ev.nx s1 (Ev.nx s2 ?_);have IQ:((λZ=>aQ (λb=>(b,Z)) ((aq (fj id) (ab 3) (cu Kd.lst λx=>some []) Z).bind λx=>match x with | D.sc (V.bl b)=>some b | x=>none))) (eQ (wD C m w) (.nd .lst (cC C m w.ms)) (.nd .lst ((jg w.ms).map pairD)) l)=some (c,eQ (wD C m w) (.nd .lst (cC C m w.ms)) (.nd .lst ((jg w.ms).map pairD)) l):=by
   unfold eQ;generalize wD C m w=WW;generalize cC C m w.ms=MM;generalize D.nd .lst ((jg w.ms).map pairD)=XX at *;simp[abx,bD,ab,cu,aq]
  cases c with
  |true=>
   obtain⟨i,l',hi,hU,ep⟩:=Qc l hl;refine Ev.seq (Ev.ou (OP IQ) ⟨.rt (iD i) _,qv ep, [.nd .lst l'], ?_,i,l',hi,hU,rfl,rfl⟩);unfold eQ;simp[dg]
  |false=>
   obtain⟨d,l1,a1,b1,nH,e1⟩:=nE (K:=K) (C:=C) l hl 8 (by decide) (by decide);have p1:=Qa (W:=wD C m w) (M:= .nd .lst (cC C m w.ms)) (X:= .nd .lst ((jg w.ms).map pairD)) (fl:=λx=>some (D.sc (V.int 8))) rfl e1;have c2:=lJ d 0;by_cases cd:d=0
   ·rw[decide_eq_true cd]at c2;obtain⟨i,l',hi,hU,ep⟩:=Qc l1 nH;refine Ev.seq (Ev.ou (Ii IQ (FX (pO p1 rfl c2))) ⟨.rt (iD i) _,qv ep, [.nd .lst l'], ?_,i,l',hi,hU,rfl,rfl⟩);unfold eQ;simp[dg]
   ·rw[decide_eq_false cd]at c2;refine Ev.seq (Ev.oC (Ii IQ (FX (pO p1 rfl c2))) ⟨.nx _,rfl, ?_⟩);have jK:jg w.ms≠ []:=λz=>by
     have:=hc.mpr (by rw[z];rfl);cases this
    obtain⟨p,ps,yQ⟩:∃p ps,jg w.ms=p::ps:=by
     cases q:jg w.ms with
     |nil=>exact absurd q jK
     |cons p ps=>exact⟨p,ps,rfl⟩
    have wq:F5 [.nd .lst ((jg w.ms).map pairD)]=some (pairD (ml p ps)):=by
     show(pairsOf ((jg w.ms).map pairD)).bind _=_;rw[P9,yQ];rfl
    have IA:ml p ps∈jg w.ms:=by
     rw[yQ];rcases IP ps p with z | z
     ·rw[z];exact .head _
     ·exact .tail _ z
    have hr:=abt IA;rw[h.n]at hr;obtain⟨i,hi⟩:∃i:Nat,(ml p ps).2=i:=⟨(ml p ps).2.toNat,by lia⟩
    have zp:aX aE bq (pairD (ml p ps)) (.sc (.int 1))=some (iD i):=by
     rw[<- hi];simp[pairD,fB,eX,aE,aX,aZ]
    refine⟨.rt (iD i) (eQ (wD C m w) (.nd .lst (cC C m w.ms)) (.nd .lst ((jg w.ms).map pairD)) l1), ?_, [.nd .lst l1], ?_,i,l1,by lia,nH,rfl,rfl⟩
    ·unfold eQ;generalize (jg w.ms).map pairD=XX at *;generalize pairD (ml p ps)=PP at *;simp[wq,zp,bD,au,ab,aq,VL.plain,lX,dR]
    ·unfold eQ;simp[dg]
 obtain⟨d,o,e,i,l',h1,h2,rfl,rfl⟩:=key;exact⟨i,l',h1,h2,e⟩
end K85
namespace K85
open PySem L2 VL WM
variable [fM K C]
def eA(W:D)(l:List D)(x2 x3 x4:Option B):En:= [some (.ar 5 []),some (.ar 6 []),x2,x3,x4,some (.own W),some (.own (.nd .lst l))]
theorem Qd{W d:D}(h2:NA x2)(h3:NA x3)(h4:NA x4)(e:GP [.nd .lst l, .sc z']=some (d, [.nd .lst l'])):
  ((aQ (λa=>(a,eA W l x2 x3 x4)) (bJ (az 1) (dH (λx=>some (.sc z')) λx=>some []) (eA W l x2 x3 x4))).bind λa=>bp GP a.fst a.snd)=some (d,eA W l' x2 x3 x4):=by
 unfold eA;simp[e,cK h2,cK h3,cK h4,ic,e9,fQ,d5,bM,bJ,dH,bp,dO,ag,bU,az,bx,gU,dD,ak,dh,dS,aG]
theorem aby(pW:VL.plain W=false)(e:GL [W, .nd .lst l]=some (d, [.nd .lst l'])):gC 2 (λZ=>(aQ (λa=>(a,Z)) (jd (az 0) (bJ (az 1) λx=>some []) Z)).bind λa=>bp GL a.fst a.snd) (eA W l none none none)=some (.nx (eA W l' (some (.own d)) none none)):=by
 unfold eA;simp[e,pW,ic,e9,fQ,d5,bM,gC,bw,bJ,jd,bp,dO,ag,bU,dw,az,bx,gU,Ys,dD,ak,dh,dS,aG,cv,fT,dI,gE]
theorem abz(h2:NA x2)(h3:NA x3)(h4:NA x4):(jq (λZ=>aQ (λd=>(d,Z)) (aq jI (aq (aX aE bq) (ab 0) λx=>some (D.sc (V.str (af "rows")))) (λx=>some (D.sc (V.int 1))) Z)) (az 0) λx=>some (D.sc (V.str (af "rows")))) (eA (.nd (.aB bX) [a,b,c,iD rows]) l x2 x3 x4)=some (.nx (eA (.nd (.aB bX) [a,b,c,iD (rows + 1)]) l x2 x3 x4)):=by
 unfold eA;simp[PY,aaY,cK h2,cK h3,cK h4,ic,jI,bD,ab,jq,eM,ag,bq,aX,aZ,fL,aq,az,bx,gU,ak,aG]
theorem abA(K:ah)(C:Addr)[fM K C](hl:Lp l)(h2:NA x2)(h3:NA x3)(h4:NA x4):∃(z:Int) (l':List D),Lp l'/\gC 4 (tw (m9 (λZ=>aQ (λd=>(d,Z)) (some (D.sc (V.str (af "row"))))) (m9 (kh (ko aE bq) (λZ=>aQ (λd=>(d,Z)) (cu Kd.lst (au (dY (aq (aX aE bq) (ab 0) λx=>some (D.sc (V.str (af "rows"))))) (au (λx=>some (D.sc (V.int 0))) λx=>some [])) Z)) (kh (intD sU λi j=>V.int (i / j)) (λZ=>(aQ (λa=>(a,Z)) (bJ (az 1) (dH (λx=>some (D.sc (V.int 4))) λx=>some []) Z)).bind λa=>bp (kJ K C) a.fst a.snd) λZ=>aQ (λd=>(d,Z)) (some (D.sc (V.int 3))))) λZ=>some ([],Z)))) (eA (.nd (.aB bX) [a,b,c,iD rows]) l x2 x3 x4)=some (.nx (eA (.nd (.aB bX) [a,b,c,iD rows]) l' x2 x3 (some (.own (.nd .tup [sD "row",iD z]))))):=by
 obtain⟨d,l',a1,b1,hU,e1⟩:=nE (K:=K) (C:=C) l hl 4 (by decide) (by decide);have p:=Qd (W:= .nd (.aB bX) [a,b,c,iD rows]) (x2:=x2) (x3:=x3) (x4:=x4) (z':= .int 4) h2 h3 h4 e1;have zp:ko aE bq (.nd .lst [iD rows,iD 0]) (iD (d / 3))=some (iD (if d / 3=0 then rows else 0)):=by
  have:d / 3=0\/d / 3=1:=by lia
  rcases this with e | e <;> rw[e]<;> simp[fB,eX,ko,aE,aX,aZ,VL.plain]
 refine⟨if d / 3=0 then rows else 0,l',hU,qA (ρ1:=eA (.nd (.aB bX) [a,b,c,iD rows]) l' x2 x3 x4) (d:= .nd .tup [sD "row",iD (if d / 3=0 then rows else 0)]) (ae.mpr ⟨([sD "row",iD (if d / 3=0 then rows else 0)],eA (.nd (.aB bX) [a,b,c,iD rows]) l' x2 x3 x4),ae.mpr ⟨(sD "row",eA (.nd (.aB bX) [a,b,c,iD rows]) l x2 x3 x4),rfl, ?_⟩,rfl⟩) ?_⟩
 ·refine aV.mpr ⟨([iD (if d / 3=0 then rows else 0)],eA (.nd (.aB bX) [a,b,c,iD rows]) l' x2 x3 x4),ae.mpr ⟨(iD (if d / 3=0 then rows else 0),eA (.nd (.aB bX) [a,b,c,iD rows]) l' x2 x3 x4),pO (a:= .nd .lst [iD rows,iD 0]) (b:=iD (d / 3)) (ρ1:=eA (.nd (.aB bX) [a,b,c,iD rows]) l x2 x3 x4) ?_ (pO p rfl ?_) zp,rfl⟩,rfl⟩
  ·unfold eA;simp[PY,bD,au,ab,ag,bq,aX,aZ,cu,aq,VL.plain,dY,ak,i7]
  ·simp[intD,sU]
 ·unfold eA;simp[gR h2,gR h3,gR h4,bw,cv,fT,gE]
theorem abB{GA GN:List D->Option (D×List D)}{ks:List aY}{M M' r a b c W':D}{gv oK:List D}{x3:Option B}{cZ:D}{l:List D}{i:Nat}(h3:NA x3)(hr:VL.plain r=true)(hk:∀x,aE (.nd (.aB ks) [x,a,b,c]) (.sc (.str "masters"))=some 0)(h1:aE (.nd .lst gv) (iD i)=some i)(h2:aZ (.nd .lst gv) i=some M)(mS:gv[i]?=some M)(hs:gv.set i M'=oK)(pM:VL.plain M=false)(IK:VL.plain M'=false)(ho:j8 C "add" M=true)(eh:GA [M,r]=some (cZ, [M']))(po:VL.plain (iV cZ)=true)(en:GN [.nd (.aB ks) [.nd .lst oK,a,b,c],iD i,sD "add",r,iV cZ]=some (.sc .aJ, [W'])):
  (eB λZ=>(ja (az 0) (eT (fD 2) (eT (λZ=>aQ (λd=>(d,Z)) (some (D.sc (V.str (af "add"))))) (eT (fD 4) (eT (nD (pH GA C (af "add") (gf aE (gf aE (az 0) λx=>some (D.sc (V.str (af "masters")))) (ab 2)) (jd (az 4) λx=>some []))) λZ=>aQ (λa=>(a,Z)) (some []))))) Z).bind λa=>bp GN a.fst a.snd) (eA (.nd (.aB ks) [.nd .lst gv,a,b,c]) l (some (.own (iD i))) x3 (some (.own r)))=some (.nx (eA W' l (some (.own (iD i))) x3 (some (.own r)))):=by
 have hj:∀x,(gv.set i x)[i]?=some x:=λx=>dr (bB.mp mS).1;unfold eA;simp[nD,ja,hr,hk,h1,mS,hs,ho,eh,en,cK h3,ic,e9,fQ,d5,bM,bD,ja,jd,eT,bp,ab,eB,dO,ag,bU,cT,gf,aZ,pH,fD,dw,jb,az,VL.plain,bf,bx,gU,dD,ak,dh,dS,aG]
theorem abC(h:∀l,o=some l->∀g∈l,g.ok b):iV (CQ o)=d6 o:=by
 cases o with
 |none=>rfl
 |some l=>
  have p:=pP (h l rfl);show(if _ then _ else _)=_;rw[if_pos p];rfl
theorem abD(ws:Wg m b s)(hr:kY r)(hi:i < m):∀l,(iw m i r s).2=some l->(∀g∈l,mq m (b + 1) g)/\l.length<=m:=λl hl=>by
 have wa:=Ic (nu:=i) ws hr;unfold iw at hl wa
 split at hl
 ·next c=>
  rw[if_pos c]at wa;cases hl;refine⟨Ie wa (by lia) (by lia), ?_⟩;unfold keeps;rw[dC];exact qG _ _
 ·cases hl
theorem abE(m:Nat)(h0:0 < m)(hm:m < 40)(w:aN)(h:Ww m w)(hz:w.aC.length < 430)(l:List D)(hl:Lp l)(i:Nat)(hi:i < m)(x3 x4:Option B)(h3:NA x3)(h4:NA x4):
  ∃(w':aN) (l':List D) (qJ:Option B),Lp l'/\Ww m w'/\iN m w w'/\w'.aC.length=w.aC.length + 1/\NA qJ/\(dG (jq (λZ=>aQ (λd=>(d,Z)) (aq jI (aq (aX aE bq) (ab 0) λx=>some (D.sc (V.str (af "rows")))) (λx=>some (D.sc (V.int 1))) Z)) (az 0) λx=>some (D.sc (V.str (af "rows")))) (dG (gC 4 (tw (m9 (λZ=>aQ (λd=>(d,Z)) (some (D.sc (V.str (af "row"))))) (m9 (kh (ko aE bq) (λZ=>aQ (λd=>(d,Z)) (cu Kd.lst (au (dY (aq (aX aE bq) (ab 0) λx=>some (D.sc (V.str (af "rows"))))) (au (λx=>some (D.sc (V.int 0))) λx=>some [])) Z)) (kh (intD sU λi j=>V.int (i / j)) (λZ=>(aQ (λa=>(a,Z)) (bJ (az 1) (dH (λx=>some (D.sc (V.int 4))) λx=>some []) Z)).bind λa=>bp (kJ K C) a.fst a.snd) λZ=>aQ (λd=>(d,Z)) (some (D.sc (V.int 3))))) λZ=>some ([],Z))))) (eB λZ=>(ja (az 0) (eT (fD 2) (eT (λZ=>aQ (λd=>(d,Z)) (some (D.sc (V.str (af "add"))))) (eT (fD 4) (eT (nD (pH (qF K C) C (af "add") (gf aE (gf aE (az 0) λx=>some (D.sc (V.str (af "masters")))) (ab 2)) (jd (az 4) λx=>some []))) λZ=>aQ (λa=>(a,Z)) (some []))))) Z).bind λa=>bp (qD K C) a.fst a.snd))) (eA (wD C m w) l (some (.own (iD i))) x3 x4)=some (.nx (eA (wD C m w') l' (some (.own (iD i))) x3 qJ)):=by
 obtain⟨z,l',hU,e2⟩:=abA K C (a:= .nd .lst (cC C m w.ms)) (b:= .nd .lst (w.way.map ay)) (c:= .nd .lst (w.aC.map cU)) (rows:=w.rows + 1) hl (x2:=some (.own (iD i))) (x3:=x3) (x4:=x4) je h3 h4;have e1:=abz (a:= .nd .lst (cC C m w.ms)) (b:= .nd .lst (w.way.map ay)) (c:= .nd .lst (w.aC.map cU)) (rows:=w.rows) (l:=l) (x2:=some (.own (iD i))) (x3:=x3) (x4:=x4) je h3 h4;have uf:kY (.nd .tup [sD "row",iD z]):= .a _ _ (by decide +kernel);generalize hR:D.nd .tup [sD "row",iD z]=r at *;have hs:=gM (show i < w.ms.length by rw[h.n];exact hi);generalize w.ms[i]'(by rw[h.n];exact hi)=s at hs;have ws:=h.ms s (gk hs);have ea:=aaX (K:=K) (C:=C) m i s r (ws.wf.mono (by lia)) uf (by lia);have ht:=abD (i:=i) ws uf hi;have wa:=Ic (nu:=i) ws uf;have en:=zm (K:=K) (C:=C) m { w with rows:=w.rows + 1,ms:=w.ms.set i (iw m i r s).1 } i "add" r (iw m i r s).2 (iw m i r s).1 (by show(w.ms.set i _)[i]?=_;exact dr (bB.mp hs).1) wa.wf.rows (bW wa.wf.len (by lia)) uf.plain (λl hl=>⟨λg hg=>(((ht l hl).1 g hg).mono (by lia)).ok,bW (ht l hl).2 (by lia)⟩) ⟨λg hg=>((h.way g hg).mono (by lia)).ok,h.lU⟩ (by show w.aC.length<=900;lia);obtain⟨i1,i2⟩:=zk (C:=C) (m:=m) hs;have oN:=abC (o:=(iw m i r s).2) (b:=900) λl hl g hg=>(((ht l hl).1 g hg).mono (by lia)).ok;have po:VL.plain (iV (CQ (iw m i r s).2))=true:=by rw[oN];exact v7 (b:=900) λl hl g hg=>(((ht l hl).1 g hg).mono (by lia)).ok
 rw[<- oN]at en;have ho:j8 C "add" (b6 C m i s)=true:=vE (by decide +kernel) _ _ _ _ _ _ _ _ _;have e3:=abB (C:=C) (GA:=qF K C) (GN:=qD K C) (ks:=bX) (l:=l') h3 uf.plain (λx=>rS x _ _ _) i1 i2 (rT hs) (CT m w.ms i (iw m i r s).1) (qI m i s) (qI m i _) ho ea po en;refine⟨({ w with rows:=w.rows + 1 }:aN).note i "add" r (iw m i r s).2 (iw m i r s).1,l',some (.own r),hU,Step.ww hm (.add { w with rows:=w.rows + 1 } i s r hs uf) (Step.ww hm (.rows w (w.rows + 1)) h), .cons (.rows w (w.rows + 1)) (.one (.add { w with rows:=w.rows + 1 } i s r hs uf)),t9 _ _ _ _ _ _,je, ?_⟩;exact iU e1 (iU e2 e3)
theorem Qe(m:Nat)(w:aN):VL.plain (wD C m w)=false:=by simp[wD,VL.plain]
theorem abF(m:Nat)(h0:0 < m)(hm:m < 40)(w:aN)(h:Ww m w)(hz:w.aC.length<=310)(l:List D)(hl:Lp l):
  ∃(w':aN) (l':List D),Lp l'/\Ww m w'/\iN m w w'/\w'.aC.length<=w.aC.length + 3/\Cr K C [wD C m w, .nd .lst l]=some (.sc .aJ, [wD C m w', .nd .lst l']):=by
 have key:∃d o,Cr K C [wD C m w, .nd .lst l]=some (d,o)/\∃(w':aN) (l':List D),Lp l'/\Ww m w'/\iN m w w'/\w'.aC.length<=w.aC.length + 3/\d= .sc .aJ/\o= [wD C m w', .nd .lst l']:=by
  unfold Cr HL;dsimp only;have e0:cz 5 [true,true] [wD C m w, .nd .lst l]=eA (wD C m w) l none none none:=by
   unfold eA;generalize wD C m w=WW;simp[gL,cz,bj,bu,dq]
  refine CA ?_;rw[e0];obtain⟨i,l1,hi,nH,e1⟩:=Qb (K:=K) (C:=C) m h0 hm w h l hl;refine Ev.nx (aby (Qe m w) e1) ?_;obtain⟨d,l2,a2,b2,g9,e2⟩:=nE (K:=K) (C:=C) l1 nH 3 (by decide) (by decide);obtain⟨q,hq⟩:∃q:Nat,1 + d=(q:Int):=⟨(1 + d).toNat,by lia⟩
  have p:=Qd (W:=wD C m w) (x2:=some (.own (iD i))) (x3:=none) (x4:=none) (z':= .int 3) je gj gj e2;refine Ev.NQ (as:= [iD q]) (m:=q) (ρ0:=eA (wD C m w) l2 (some (.own (iD i))) none none) (ae.mpr ⟨(iD q,eA (wD C m w) l2 (some (.own (iD i))) none none),pO rfl p (by rw[<- hq];rfl),rfl⟩) (tR q (by lia)) (λj Z=>∃(w1:aN) (l1:List D) (x3 x4:Option B),Lp l1/\Ww m w1/\iN m w w1/\w1.aC.length<=w.aC.length + j/\NA x3/\NA x4/\Z=eA (wD C m w1) l1 (some (.own (iD i))) x3 x4) ⟨w,l2,none,none,g9,h, .refl _,by lia,gj,gj,rfl⟩ ?_ ?_
  ·rintro j hj Z ⟨w1,l3,x3,x4,lq,ig,bC,wt,h3,h4,rfl⟩;obtain⟨w2,l4,qJ,ug,oO,b5,mN,IS,e4⟩:=abE (K:=K) (C:=C) m h0 hm w1 ig (by lia) l3 lq i hi (some (.ro (iD j))) x4 mO h4;refine⟨eA (wD C m w1) l3 (some (.own (iD i))) (some (.ro (iD j))) x4,by
    unfold eA;generalize wD C m w1=WW;simp[gR h3,gR h4,bw,cv,fT,gE],_,e4,w2,l4,_,qJ,ug,oO,bC.trans b5,by lia,mO,IS,rfl⟩
  ·rintro Z ⟨w1,l3,x3,x4,lq,ig,bC,wt,h3,h4,rfl⟩;exact⟨[wD C m w1, .nd .lst l3],by unfold eA;generalize wD C m w1=WW;simp[dg],w1,l3,lq,ig,bC,by lia,rfl,rfl⟩
 obtain⟨d,o,e,w',l',h1,h2,h3,h4,rfl,rfl⟩:=key;exact⟨w',l',h1,h2,h3,h4,e⟩
end K85
namespace K85
open PySem L2 VL WM
variable [fM K C]
def eR(W:D)(l:List D)(x2 x3 x4 x5:Option B):En:= [some (.ar 6 []),some (.ar 7 []),x2,x3,x4,x5,some (.own W),some (.own (.nd .lst l))]
theorem gp(h:gv[i]?=some M):ag (.nd (.aB ks) [.nd .lst gv,a,b,c]) [0,i]=some M:=by
 simp[h,ag,cT,VL.plain,bf]
theorem IT(h2:NA x2)(h3:NA x3)(h5:NA x5)(hM:ag W [0,i]=some M)(hf:fl (eR W l x2 x3 (some (.ar 6 [0,i])) x5)=some z)(e:GP [.nd .lst l,z]=some (d, [.nd .lst l'])):
  ((aQ (λa=>(a,eR W l x2 x3 (some (.ar 6 [0,i])) x5)) (bJ (az 1) (dH fl λx=>some []) (eR W l x2 x3 (some (.ar 6 [0,i])) x5))).bind λa=>bp GP a.fst a.snd)=some (d,eR W l' x2 x3 (some (.ar 6 [0,i])) x5):=by
 unfold eR at *;simp[hf,e,hg,hM,cK h2,cK h3,cK h5,ic,e9,fQ,d5,bM,bJ,dH,bp,dO,bU,az,bx,gU,dD,ak,dh,dS,aG]
theorem CU(h2:NA x2)(h3:NA x3)(h4:NA x4)(h5:NA x5)(hf:fl (eR W l x2 x3 x4 x5)=some z)(e:GP [.nd .lst l,z]=some (d, [.nd .lst l'])):
  ((aQ (λa=>(a,eR W l x2 x3 x4 x5)) (bJ (az 1) (dH fl λx=>some []) (eR W l x2 x3 x4 x5))).bind λa=>bp GP a.fst a.snd)=some (d,eR W l' x2 x3 x4 x5):=by
 unfold eR at *;simp[hf,e,cK h4,cK h2,cK h3,cK h5,ic,e9,fQ,d5,bM,bJ,dH,bp,dO,ag,bU,az,bx,gU,dD,ak,dh,dS,aG]
theorem abG{GR GN:List D->Option (D×List D)}{gv oK:List D}{l:List D}(h2:NA x2)(h5:NA x5)(mS:gv[i]?=some M)(hs:gv.set i M'=oK)(pM:VL.plain M=false)(IK:VL.plain M'=false)(ho:j8 C "rise" M=true)(eh:GR [M]=some (cZ, [M']))(po:VL.plain (iV cZ)=true)(en:GN [.nd (.aB ks) [.nd .lst oK,a,b,c],iD i,sD "rise", .sc .aJ,iV cZ]=some (.sc .aJ, [W'])):
  (eB λZ=>(ja (az 0) (eT (fD 3) (eT (λZ=>aQ (λd=>(d,Z)) (some (D.sc (V.str (af "rise"))))) (eT (λZ=>aQ (λd=>(d,Z)) (some (D.sc V.aJ))) (eT (nD (pH GR C (af "rise") (az 4) λx=>some [])) λZ=>aQ (λa=>(a,Z)) (some []))))) Z).bind λa=>bp GN a.fst a.snd) (eR (.nd (.aB ks) [.nd .lst gv,a,b,c]) l x2 (some (.own (iD i))) (some (.ar 6 [0,i])) x5)=some (.nx (eR W' l x2 (some (.own (iD i))) none x5)):=by
 have hj:∀x,(gv.set i x)[i]?=some x:=λx=>dr (bB.mp mS).1;unfold eR;simp[nD,ja,mS,hs,ho,eh,en,hj,cK h2,cK h5,ic,e9,fQ,d5,bM,bD,ja,eT,bp,ab,eB,dO,ag,bU,cT,pH,fD,dw,az,VL.plain,bf,bx,gU,dD,ak,dh,dS,aG]
theorem abH{GR GN:List D->Option (D×List D)}{gv oK:List D}{l:List D}(h2:NA x2)(h5:NA x5)(mS:gv[i]?=some M)(hs:gv.set i M'=oK)(pM:VL.plain M=false)(IK:VL.plain M'=false)(ho:j8 C "fall" M=true)(eh:GR [M]=some (cZ, [M']))(po:VL.plain (iV cZ)=true)(en:GN [.nd (.aB ks) [.nd .lst oK,a,b,c],iD i,sD "fall", .sc .aJ,iV cZ]=some (.sc .aJ, [W'])):
  (eB λZ=>(ja (az 0) (eT (fD 3) (eT (λZ=>aQ (λd=>(d,Z)) (some (D.sc (V.str (af "fall"))))) (eT (λZ=>aQ (λd=>(d,Z)) (some (D.sc V.aJ))) (eT (nD (pH GR C (af "fall") (az 4) λx=>some [])) λZ=>aQ (λa=>(a,Z)) (some []))))) Z).bind λa=>bp GN a.fst a.snd) (eR (.nd (.aB ks) [.nd .lst gv,a,b,c]) l x2 (some (.own (iD i))) (some (.ar 6 [0,i])) x5)=some (.nx (eR W' l x2 (some (.own (iD i))) none x5)):=by
 have hj:∀x,(gv.set i x)[i]?=some x:=λx=>dr (bB.mp mS).1;unfold eR;simp[nD,ja,mS,hs,ho,eh,en,hj,cK h2,cK h5,ic,e9,fQ,d5,bM,bD,ja,eT,bp,ab,eB,dO,ag,bU,cT,pH,fD,dw,az,VL.plain,bf,bx,gU,dD,ak,dh,dS,aG]
theorem abI(h3:NA x3)(h4:NA x4)(h5:NA x5)(e:GC [W, .nd .lst l, .nd .tup [sD "stand",sD "voice"],tD (decide (rd=1))]=some (.sc .aJ, [W', .nd .lst l'])):
  (eB λZ=>(aQ (λa=>(a,Z)) (bJ (az 0) (bJ (az 1) (dH (cu Kd.tup (au (λx=>some (D.sc (V.str (af "stand")))) (au (λx=>some (D.sc (V.str (af "voice")))) λx=>some []))) (dH (aq (fj id) (ab 2) λx=>some (D.sc (V.int 1))) λx=>some []))) Z)).bind λa=>bp GC a.fst a.snd) (eR W l (some (.own (iD rd))) x3 x4 x5)=some (.nx (eR W' l' (some (.own (iD rd))) x3 x4 x5)):=by
 unfold eR;simp[e,lJ,cK h3,cK h4,cK h5,ic,e9,fQ,d5,bM,bD,bJ,dH,bp,au,ab,eB,dO,ag,bU,cu,aq,az,bx,gU,dD,ak,dh,dS,aG,i7]
theorem abJ(h3:NA x3)(h4:NA x4)(h5:NA x5)(e:GC [W, .nd .lst l, .nd .tup [sD "keep",sD "kept"],tD (decide (rd=5))]=some (.sc .aJ, [W', .nd .lst l'])):
  (eB λZ=>(aQ (λa=>(a,Z)) (bJ (az 0) (bJ (az 1) (dH (cu Kd.tup (au (λx=>some (D.sc (V.str (af "keep")))) (au (λx=>some (D.sc (V.str (af "kept")))) λx=>some []))) (dH (aq (fj id) (ab 2) λx=>some (D.sc (V.int 5))) λx=>some []))) Z)).bind λa=>bp GC a.fst a.snd) (eR W l (some (.own (iD rd))) x3 x4 x5)=some (.nx (eR W' l' (some (.own (iD rd))) x3 x4 x5)):=by
 unfold eR;simp[e,lJ,cK h3,cK h4,cK h5,ic,e9,fQ,d5,bM,bD,bJ,dH,bp,au,ab,eB,dO,ag,bU,cu,aq,az,bx,gU,dD,ak,dh,dS,aG,i7]
theorem abK(h2:NA x2)(h3:NA x3)(h4:NA x4)(h5:NA x5)(e:GC [W, .nd .lst l, .nd .tup [sD "keep",sD "kept"],tD false]=some (.sc .aJ, [W', .nd .lst l'])):
  (eB λZ=>(aQ (λa=>(a,Z)) (bJ (az 0) (bJ (az 1) (dH (cu Kd.tup (au (λx=>some (D.sc (V.str (af "keep")))) (au (λx=>some (D.sc (V.str (af "kept")))) λx=>some []))) (dH (λx=>some (D.sc (V.bl false))) λx=>some []))) Z)).bind λa=>bp GC a.fst a.snd) (eR W l x2 x3 x4 x5)=some (.nx (eR W' l' x2 x3 x4 x5)):=by
 unfold eR;simp[e,cK h4,cK h2,cK h3,cK h5,ic,e9,fQ,d5,bM,bJ,dH,bp,au,eB,dO,ag,bU,cu,az,bx,gU,dD,ak,dh,dS,aG,i7]
theorem abL{i:Nat}(h2:NA x2)(h3:NA x3)(h5:NA x5)(e:GA [W, .nd .lst l]=some (.sc .aJ, [W', .nd .lst l'])):
  (eB λZ=>(aQ (λa=>(a,Z)) (bJ (az 0) (bJ (az 1) λx=>some []) Z)).bind λa=>bp GA a.fst a.snd) (eR W l x2 x3 (some (.ar 6 [0,i])) x5)=some (.nx (eR W' l' x2 x3 none x5)):=by
 unfold eR;simp[e,cK h2,cK h3,cK h5,ic,e9,fQ,d5,bM,bJ,bp,eB,dO,ag,bU,az,bx,gU,dD,ak,dh,dS,aG]
theorem abM(h2:NA x2)(h3:NA x3)(h5:NA x5)(pW:VL.plain W=false)(hM:ag W [0,i]=some M)(e:GL [W, .nd .lst l]=some (d, [.nd .lst l'])):
  (gC 3 λZ=>(aQ (λa=>(a,Z)) (jd (az 0) (bJ (az 1) λx=>some []) Z)).bind λa=>bp GL a.fst a.snd) (eR W l x2 x3 (some (.ar 6 [0,i])) x5)=some (.nx (eR W l' x2 (some (.own d)) (some (.ar 6 [0,i])) x5)):=by
 unfold eR;simp[e,hg,pW,hM,gR h2,cK h2,gR h3,cK h3,gR h5,cK h5,ic,e9,fQ,d5,bM,gC,bw,bJ,jd,bp,dO,bU,dw,az,bx,gU,dD,ak,dh,dS,aG,cv,fT,gE]
theorem abN{GS:List D->Option D}{GN:List D->Option (D×List D)}{gv:List D}{l:List D}{i j:Nat}(h2:NA x2)(h5:NA x5)(hk:∀x,aE (.nd (.aB ks) [x,a,b,c]) (.sc (.str "masters"))=some 0)(h1:aE (.nd .lst gv) (iD i)=some i)(ahe:aZ (.nd .lst gv) i=some M)(mS:gv[i]?=some M)(pM:VL.plain M=false)(ho:j8 C "send" M=true)(eh:GS [M]=some cZ)(po:VL.plain (iV cZ)=true)(en:GN [.nd (.aB ks) [.nd .lst gv,a,b,c],iD i,sD "send", .sc .aJ,iV cZ]=some (.sc .aJ, [W'])):
  (eB λZ=>(ja (az 0) (eT (fD 3) (eT (λZ=>aQ (λd=>(d,Z)) (some (D.sc (V.str (af "send"))))) (eT (λZ=>aQ (λd=>(d,Z)) (some (D.sc V.aJ))) (eT (nD λZ=>aQ (λd=>(d,Z)) (methP GS C (af "send") 1 (aq (aX aE bq) (aq (aX aE bq) (ab 0) λx=>some (D.sc (V.str (af "masters")))) (ab 3)) (λx=>some []) Z)) λZ=>aQ (λa=>(a,Z)) (some []))))) Z).bind λa=>bp GN a.fst a.snd) (eR (.nd (.aB ks) [.nd .lst gv,a,b,c]) l x2 (some (.own (iD i))) (some (.ar 6 [0,j])) x5)=some (.nx (eR W' l x2 (some (.own (iD i))) none x5)):=by
 unfold eR;simp[nD,ja,hk,h1,mS,ho,eh,en,cK h2,cK h5,ic,e9,fQ,d5,bM,bD,ja,eT,bp,ab,eB,dO,ag,bU,bq,aX,aZ,methP,fD,aq,az,VL.plain,bx,gU,dD,ak,dh,dS,aG]
theorem abO{b c:D}(h2:NA x2)(h3:NA x3)(h5:NA x5)(hM:gv[i]?=some M)(e:GP [.nd .lst l,iD 20]=some (iD k, [.nd .lst l']))(hc:yM (.nd .lst wy) (iD k)=some (.nd .lst abP)):
  (jq (FY (gf aE (az 0) λx=>some (D.sc (V.str (af "way")))) λZ=>(aQ (λa=>(a,Z)) (bJ (az 1) (dH (λx=>some (D.sc (V.int 20))) λx=>some []) Z)).bind λa=>bp GP a.fst a.snd) (az 0) λx=>some (D.sc (V.str (af "way")))) (eR (.nd (.aB bX) [.nd .lst gv, .nd .lst wy,b,c]) l x2 x3 (some (.ar 6 [0,i])) x5)=some (.nx (eR (.nd (.aB bX) [.nd .lst gv, .nd .lst abP,b,c]) l' x2 x3 none x5)):=by
 unfold eR;simp[FY,kZ,oJ,IJ,hM,e,hc,gR h2,cK h2,gR h3,cK h3,gR h5,cK h5,ic,e9,fQ,d5,bM,bD,bJ,dH,bp,ab,jq,eM,dO,ag,bU,cT,gf,aZ,fL,dw,jb,az,VL.plain,bf,bx,gU,dD,ak,dh,dS,aG,fT,gE]
end K85
namespace K85
open PySem L2 VL WM
variable [fM K C]
theorem Ev.mono(h:Ev f Z Q)(k:∀fl,Q fl->Q' fl):Ev f Z Q':=by
 obtain⟨fl,e,q⟩:=h;exact⟨fl,e,k fl q⟩
theorem abQ(h2:NA x2)(h3:NA x3)(h4:NA x4)(h5:NA x5)(hW:W= .nd (.aB bX) [a, .nd .lst wy,b,c])(cG:bY [.nd .lst wy]=some (iD n))(e1:GP [.nd .lst l,iD n]=some (iD k, [.nd .lst l1]))(e2:GP [.nd .lst l1,iD 2]=some (iD d, [.nd .lst l2]))(eh:GH [W,iD k,tD (decide (d=0))]=some (.sc .aJ, [W'])):
  (eB λZ=>(ja (az 0) (eT (λZ=>(aQ (λa=>(a,Z)) (bJ (az 1) (dH (λZ=>(au (aq (aX aE bq) (ab 0) λx=>some (D.sc (V.str (af "way")))) (λx=>some []) Z).bind bY) λx=>some []) Z)).bind λa=>bp GP a.fst a.snd) (eT (kh (fj id) (λZ=>(aQ (λa=>(a,Z)) (bJ (az 1) (dH (λx=>some (D.sc (V.int 2))) λx=>some []) Z)).bind λa=>bp GP a.fst a.snd) λZ=>aQ (λd=>(d,Z)) (some (D.sc (V.int 0)))) λZ=>aQ (λa=>(a,Z)) (some []))) Z).bind λa=>bp GH a.fst a.snd) (eR W l x2 x3 x4 x5)=some (.nx (eR W' l2 x2 x3 x4 x5)):=by
 have hq:=lJ d 0;have p1:=CU (W:=W) (fl:=λZ=>(au (aq (aX aE bq) (ab 0) λx=>some (D.sc (V.str (af "way")))) (λx=>some []) Z).bind bY) h2 h3 h4 h5 (by
  rw[hW];unfold eR;simp[oJ,cG,bD,au,ab,ag,bq,aX,aZ,aq,ak]) e1
 have p2:=CU (W:=W) (fl:=λx=>some (D.sc (V.int 2))) h2 h3 h4 h5 rfl e2;have p3:=pO (g:=fj id) (fa:=λZ=>(aQ (λa=>(a,Z)) (bJ (az 1) (dH (λx=>some (D.sc (V.int 2))) λx=>some []) Z)).bind λa=>bp GP a.fst a.snd) (fb:=λZ=>aQ (λd=>(d,Z)) (some (D.sc (V.int 0)))) (Z:=eR W l1 x2 x3 x4 x5) p2 rfl hq;have IU:ak (eR W l2 x2 x3 x4 x5) 6=some W:=rfl;unfold eB;have IV:(ja (az 0) (eT (λZ=>(aQ (λa=>(a,Z)) (bJ (az 1) (dH (λZ=>(au (aq (aX aE bq) (ab 0) λx=>some (D.sc (V.str (af "way")))) (λx=>some []) Z).bind bY) λx=>some []) Z)).bind λa=>bp GP a.fst a.snd) (eT (kh (fj id) (λZ=>(aQ (λa=>(a,Z)) (bJ (az 1) (dH (λx=>some (D.sc (V.int 2))) λx=>some []) Z)).bind λa=>bp GP a.fst a.snd) λZ=>aQ (λd=>(d,Z)) (some (D.sc (V.int 0)))) λZ=>aQ (λa=>(a,Z)) (some [])))) (eR W l x2 x3 x4 x5)=some ([.io ⟨6, []⟩, .tm (iD k), .tm (tD (decide (d=0)))],eR W l2 x2 x3 x4 x5):=by
  refine ae.mpr ⟨.rt 6 [], ?_, ?_⟩
  ·unfold eR;simp[ag,az,ak]
  ·show(if([]:List Nat)= [] then _ else _)=_;rw[if_pos rfl];refine ae.mpr ⟨([.tm (iD k), .tm (tD (decide (d=0)))],eR W l2 x2 x3 x4 x5),ae.mpr ⟨(iD k,eR W l1 x2 x3 x4 x5),p1,aV.mpr ⟨([.tm (tD (decide (d=0)))],eR W l2 x2 x3 x4 x5),ae.mpr ⟨(tD (decide (d=0)),eR W l2 x2 x3 x4 x5),p3,rfl⟩,rfl⟩⟩, ?_⟩;rw[IU];rfl
 refine aV.mpr ⟨(.sc .aJ,eR W' l2 x2 x3 x4 x5),ae.mpr ⟨_,IV, ?_⟩,rfl⟩;unfold eR;simp[eh,cK h2,cK h3,cK h4,cK h5,ic,fQ,d5,bM,bp,dO,ag,bU,bx,gU,dD,ak,dh,dS,aG]
theorem abR(h2:NA x2)(h3:NA x3)(h5:NA x5)(hW:W= .nd (.aB bX) [a, .nd .lst wy,b,c])(cG:bY [.nd .lst wy]=some (iD n))(hM:ag W [0,i]=some M)(e1:GP [.nd .lst l,iD n]=some (iD k, [.nd .lst l1]))(e2:GP [.nd .lst l1,iD 2]=some (iD d, [.nd .lst l2]))(eh:GH [W,iD k,tD (decide (d=0))]=some (.sc .aJ, [W'])):
  (eB λZ=>(ja (az 0) (eT (λZ=>(aQ (λa=>(a,Z)) (bJ (az 1) (dH (λZ=>(au (aq (aX aE bq) (ab 0) λx=>some (D.sc (V.str (af "way")))) (λx=>some []) Z).bind bY) λx=>some []) Z)).bind λa=>bp GP a.fst a.snd) (eT (kh (fj id) (λZ=>(aQ (λa=>(a,Z)) (bJ (az 1) (dH (λx=>some (D.sc (V.int 2))) λx=>some []) Z)).bind λa=>bp GP a.fst a.snd) λZ=>aQ (λd=>(d,Z)) (some (D.sc (V.int 0)))) λZ=>aQ (λa=>(a,Z)) (some []))) Z).bind λa=>bp GH a.fst a.snd) (eR W l x2 x3 (some (.ar 6 [0,i])) x5)=some (.nx (eR W' l2 x2 x3 none x5)):=by
 have hq:=lJ d 0;have p1:=IT (W:=W) (fl:=λZ=>(au (aq (aX aE bq) (ab 0) λx=>some (D.sc (V.str (af "way")))) (λx=>some []) Z).bind bY) h2 h3 h5 hM (by
  rw[hW];unfold eR;simp[oJ,cG,bD,au,ab,ag,bq,aX,aZ,aq,ak]) e1
 have p2:=IT (W:=W) (fl:=λx=>some (D.sc (V.int 2))) h2 h3 h5 hM rfl e2;have p3:=pO (g:=fj id) (fa:=λZ=>(aQ (λa=>(a,Z)) (bJ (az 1) (dH (λx=>some (D.sc (V.int 2))) λx=>some []) Z)).bind λa=>bp GP a.fst a.snd) (fb:=λZ=>aQ (λd=>(d,Z)) (some (D.sc (V.int 0)))) (Z:=eR W l1 x2 x3 (some (.ar 6 [0,i])) x5) p2 rfl hq;have IU:ak (eR W l2 x2 x3 (some (.ar 6 [0,i])) x5) 6=some W:=rfl;unfold eB;have IV:(ja (az 0) (eT (λZ=>(aQ (λa=>(a,Z)) (bJ (az 1) (dH (λZ=>(au (aq (aX aE bq) (ab 0) λx=>some (D.sc (V.str (af "way")))) (λx=>some []) Z).bind bY) λx=>some []) Z)).bind λa=>bp GP a.fst a.snd) (eT (kh (fj id) (λZ=>(aQ (λa=>(a,Z)) (bJ (az 1) (dH (λx=>some (D.sc (V.int 2))) λx=>some []) Z)).bind λa=>bp GP a.fst a.snd) λZ=>aQ (λd=>(d,Z)) (some (D.sc (V.int 0)))) λZ=>aQ (λa=>(a,Z)) (some [])))) (eR W l x2 x3 (some (.ar 6 [0,i])) x5)=some ([.io ⟨6, []⟩, .tm (iD k), .tm (tD (decide (d=0)))],eR W l2 x2 x3 (some (.ar 6 [0,i])) x5):=by
  refine ae.mpr ⟨.rt 6 [], ?_, ?_⟩
  ·unfold eR;simp[ag,az,ak]
  ·show(if([]:List Nat)= [] then _ else _)=_;rw[if_pos rfl];refine ae.mpr ⟨([.tm (iD k), .tm (tD (decide (d=0)))],eR W l2 x2 x3 (some (.ar 6 [0,i])) x5),ae.mpr ⟨(iD k,eR W l1 x2 x3 (some (.ar 6 [0,i])) x5),p1,aV.mpr ⟨([.tm (tD (decide (d=0)))],eR W l2 x2 x3 (some (.ar 6 [0,i])) x5),ae.mpr ⟨(tD (decide (d=0)),eR W l2 x2 x3 (some (.ar 6 [0,i])) x5),p3,rfl⟩,rfl⟩⟩, ?_⟩;rw[IU];rfl
 refine aV.mpr ⟨(.sc .aJ,eR W' l2 x2 x3 none x5),ae.mpr ⟨_,IV, ?_⟩,rfl⟩;unfold eR;simp[eh,cK h2,cK h3,cK h5,ic,fQ,d5,bM,bp,dO,ag,bU,bx,gU,dD,ak,dh,dS,aG]
def PR(C:Addr)(m:Nat)(w:aN)(n:Nat)(Z:En):Prop:=∃(w':aN) (l':List D) (x2 x3 x4 x5:Option B),Lp l'/\Ww m w'/\iN m w w'/\w'.aC.length<=w.aC.length + n/\Z=eR (wD C m w') l' x2 x3 x4 x5
def QR(C:Addr)(m:Nat)(w:aN)(n:Nat):Fl->Prop
 |.nx Z=>PR C m w n Z
 |_=>False
theorem abS(m:Nat)(h0:0 < m)(hm:m < 40)(w:aN)(h:Ww m w)(hz:w.aC.length<=310)(x2 x3:Option B)(h2:NA x2)(h3:NA x3)(i:Nat)(hi:i < m)(l:List D)(hl:Lp l):Ev (Bv (m9 (kh jI (λZ=>aQ (λd=>(d,Z)) (some (D.sc (V.int 1)))) λZ=>(aQ (λa=>(a,Z)) (bJ (az 1) (dH (λx=>some (D.sc (V.int 6))) λx=>some []) Z)).bind λa=>bp (kJ K C) a.fst a.snd) λZ=>some ([],Z)) (λd Z=>some (bw 5 (B.ro d) Z)) (dm (λZ=>aQ (λb=>(b,Z)) ((aq (eU λi j=>V.bl (decide (j < i))) (λZ=>(au (aq (aX aE bq) (ab 0) λx=>some (D.sc (V.str (af "way")))) (λx=>some []) Z).bind bY) (λx=>some (D.sc (V.int 0))) Z).bind λx=>match x with | D.sc (V.bl b)=>some b | x=>none)) (eB λZ=>(ja (az 0) (eT (λZ=>(aQ (λa=>(a,Z)) (bJ (az 1) (dH (λZ=>(au (aq (aX aE bq) (ab 0) λx=>some (D.sc (V.str (af "way")))) (λx=>some []) Z).bind bY) λx=>some []) Z)).bind λa=>bp (kJ K C) a.fst a.snd) (eT (kh (fj id) (λZ=>(aQ (λa=>(a,Z)) (bJ (az 1) (dH (λx=>some (D.sc (V.int 2))) λx=>some []) Z)).bind λa=>bp (kJ K C) a.fst a.snd) λZ=>aQ (λd=>(d,Z)) (some (D.sc (V.int 0)))) λZ=>aQ (λa=>(a,Z)) (some []))) Z).bind λa=>bp (vU K C) a.fst a.snd) λZ=>some (Fl.nx Z))) (eR (wD C m w) l x2 x3 (some (.ar 6 [0,i])) none) (QR C m w 20):=by
 have hs:=gM (show i < w.ms.length by rw[h.n];exact hi);have hM:=gp (ks:=bX) (a:= .nd .lst (w.way.map ay)) (b:= .nd .lst (w.aC.map cU)) (c:=iD w.rows) (rT (C:=C) (m:=m) hs);obtain⟨d,l1,a1,b1,nH,e1⟩:=nE (K:=K) (C:=C) l hl 6 (by decide) (by decide);obtain⟨q,hq⟩:∃q:Nat,1 + d=(q:Int):=⟨(1 + d).toNat,by lia⟩
 have p:=IT (W:=wD C m w) (fl:=λx=>some (D.sc (V.int 6))) h2 h3 gj hM rfl e1
 -- lP name of lP ahf is let go as ahg as a message is ahh
 refine Ev.NQ (as:= [iD q]) (m:=q) (ρ0:=eR (wD C m w) l1 x2 x3 (some (.ar 6 [0,i])) none) (ae.mpr ⟨(iD q,eR (wD C m w) l1 x2 x3 (some (.ar 6 [0,i])) none),pO rfl p (by rw[<- hq];rfl),rfl⟩) (tR q (by lia)) (λj Z=>∃(w1:aN) (l1:List D) (x4 x5:Option B),Lp l1/\Ww m w1/\iN m w w1/\w1.aC.length<=w.aC.length + j/\(NA x4\/x4=some (.ar 6 [0,i]))/\NA x5/\Z=eR (wD C m w1) l1 x2 x3 x4 x5) ⟨w,l1,_,none,nH,h, .refl _,by lia, .inr rfl,gj,rfl⟩ ?_ ?_
 ·rintro j hj Z ⟨w1,l2,x4,x5,g9,ig,bC,wt,h4,h5,rfl⟩;have W0:wD C m w1= .nd (.aB bX) [.nd .lst (cC C m w1.ms), .nd .lst (w1.way.map ay), .nd .lst (w1.aC.map cU),iD w1.rows]:=rfl;have cG:bY [.nd .lst (w1.way.map ay)]=some (iD w1.way.length):=by simp[bY]
  refine⟨eR (wD C m w1) l2 x2 x3 x4 (some (.ro (iD j))),by
   unfold eR;generalize wD C m w1=WW;rcases h4 with h4 | rfl
   ·simp[gR h2,gR h3,gR h4,gR h5,bw,cv,fT,gE]
   ·simp[gR h2,gR h3,gR h5,bw,cv,fT,gE], ?_⟩
  have qK:((λZ=>aQ (λb=>(b,Z)) ((aq (eU λi j=>V.bl (decide (j < i))) (λZ=>(au (aq (aX aE bq) (ab 0) λx=>some (D.sc (V.str (af "way")))) (λx=>some []) Z).bind bY) (λx=>some (D.sc (V.int 0))) Z).bind λx=>match x with | D.sc (V.bl b)=>some b | x=>none))) (eR (wD C m w1) l2 x2 x3 x4 (some (.ro (iD j))))=some (decide (0 < w1.way.length),eR (wD C m w1) l2 x2 x3 x4 (some (.ro (iD j)))):=by
   unfold eR;rw[W0];generalize w1.way.map ay=wy at *;simp[oJ,cG,bD,au,ab,ag,eU,bq,aX,aZ,aq,ak]
  by_cases cw:0 < w1.way.length
  ·rw[decide_eq_true cw]at qK;have abT:i < w1.ms.length:=by rw[ig.n];exact hi
   have abU:=gp (ks:=bX) (a:= .nd .lst (w1.way.map ay)) (b:= .nd .lst (w1.aC.map cU)) (c:=iD w1.rows) (rT (C:=C) (m:=m) (gM abT));have hf:=ig.lU;obtain⟨k,l3,a3,b3,lq,e3⟩:=nE (K:=K) (C:=C) l2 g9 (w1.way.length:Int) (by lia) (SK (b:=60) (by lia) (by decide));obtain⟨k,rfl⟩:∃k':Nat,k=k':=⟨k.toNat,by lia⟩
   obtain⟨d2,l4,a4,b4,ug,e4⟩:=nE (K:=K) (C:=C) l3 lq 2 (by decide) (by decide);have hk:=gM (show k < w1.way.length by lia);generalize w1.way[k]'(by lia)=g at hk;have mg:=ig.way g (gk hk);have t0:=mg.t0;have t1:=mg.t1;obtain⟨i2,xS⟩:∃i:Nat,g.to=i:=⟨g.to.toNat,by lia⟩
   have t6:i2 < w1.ms.length:=by rw[ig.n];lia
   have o6:=gM t6;generalize w1.ms[i2]'t6=s at o6;have eh:=P1 (K:=K) (C:=C) m w1 ig (by lia) h0 hm k (decide (d2=0)) g hk i2 s xS o6;have call:∀x4,(NA x4\/x4=some (.ar 6 [0,i]))->∃qJ,NA qJ/\(eB λZ=>(ja (az 0) (eT (λZ=>(aQ (λa=>(a,Z)) (bJ (az 1) (dH (λZ=>(au (aq (aX aE bq) (ab 0) λx=>some (D.sc (V.str (af "way")))) (λx=>some []) Z).bind bY) λx=>some []) Z)).bind λa=>bp (kJ K C) a.fst a.snd) (eT (kh (fj id) (λZ=>(aQ (λa=>(a,Z)) (bJ (az 1) (dH (λx=>some (D.sc (V.int 2))) λx=>some []) Z)).bind λa=>bp (kJ K C) a.fst a.snd) λZ=>aQ (λd=>(d,Z)) (some (D.sc (V.int 0)))) λZ=>aQ (λa=>(a,Z)) (some []))) Z).bind λa=>bp (vU K C) a.fst a.snd) (eR (wD C m w1) l2 x2 x3 x4 (some (.ro (iD j))))=some (.nx (eR (wD C m (w1.told (decide (d2=0)) k g i2 m s)) l4 x2 x3 qJ (some (.ro (iD j))))):=λx4 h4=>by
    rcases h4 with h4 | rfl
    ·exact⟨x4,h4,abQ h2 h3 h4 mO W0 cG e3 e4 eh⟩
    ·exact⟨none,gj,abR h2 h3 mO W0 cG abU e3 e4 eh⟩
   obtain⟨qJ,IS,ec⟩:=call x4 h4;exact Ev.ou qK ⟨_,ec,w1.told (decide (d2=0)) k g i2 m s,l4,qJ,_,ug,ig.told hm hk o6,bC.trans (.one (.bg w1 (decide (d2=0)) k g i2 s hk xS o6)),by rw[ON];lia, .inl IS,mO,rfl⟩
  ·rw[decide_eq_false cw]at qK;exact Ev.oC qK ⟨_,rfl,w1,l2,x4,_,g9,ig,bC,by lia,h4,mO,rfl⟩
 ·rintro Z ⟨w1,l2,x4,x5,g9,ig,bC,wt,h4,h5,rfl⟩;exact⟨w1,l2,x2,x3,x4,x5,g9,ig,bC,by lia,rfl⟩
theorem abV(m:Nat)(h0:0 < m)(hm:m < 40)(w:aN)(h:Ww m w)(hz:w.aC.length<=300)(l:List D)(hl:Lp l):
  ∃(w':aN) (l':List D),Lp l'/\Ww m w'/\iN m w w'/\w'.aC.length<=w.aC.length + 130/\Cs K C [wD C m w, .nd .lst l]=some (.sc .aJ, [wD C m w', .nd .lst l']):=by
 have key:∃d o,Cs K C [wD C m w, .nd .lst l]=some (d,o)/\∃(w':aN) (l':List D),Lp l'/\Ww m w'/\iN m w w'/\w'.aC.length<=w.aC.length + 130/\d= .sc .aJ/\o= [wD C m w', .nd .lst l']:=by
  unfold Cs HP;dsimp only;have e0:cz 6 [true,true] [wD C m w, .nd .lst l]=eR (wD C m w) l none none none none:=by
   unfold eR;generalize wD C m w=WW;simp[gL,cz,bj,bu,dq]
  refine CA ?_;rw[e0];refine Ev.mono (Q:=QR C m w 130) ?_ λfl q=>by
   cases fl with
   |nx Z=>
    obtain⟨w',l',x2,x3,x4,x5,hU,zq,st,sX,rfl⟩:=q;exact⟨[wD C m w', .nd .lst l'],by unfold eR;generalize wD C m w'=WW;simp[dg],w',l',hU,zq,st,sX,rfl,rfl⟩
   |rt _ _=>exact q.elim
   |bk _=>exact q.elim
   |ct _=>exact q.elim
  have W0:wD C m w= .nd (.aB bX) [.nd .lst (cC C m w.ms), .nd .lst (w.way.map ay), .nd .lst (w.aC.map cU),iD w.rows]:=rfl;have zo:bY [.nd .lst (cC C m w.ms)]=some (iD m):=by simp[bY,CS,h.n]
  obtain⟨rd,l1,a1,b1,nH,e1⟩:=nE (K:=K) (C:=C) l hl 12 (by decide) (by decide);obtain⟨d2,l2,a2,b2,g9,e2⟩:=nE (K:=K) (C:=C) l1 nH (m:Int) (by lia) (SK (b:=40) (by lia) (by decide));obtain⟨i,rfl⟩:∃i:Nat,d2=i:=⟨d2.toNat,by lia⟩
  have hi:i < m:=by lia
  have hs:=gM (show i < w.ms.length by rw[h.n];exact hi);generalize w.ms[i]'(by rw[h.n];exact hi)=s at hs;have ws:=h.ms s (gk hs);obtain⟨i1,i2⟩:=zk (C:=C) (m:=m) hs;have i3:=rT (C:=C) (m:=m) hs;have pM:=qI (C:=C) m i s;refine Ev.nx (ρ':=eR (wD C m w) l1 (some (.own (iD rd))) none none none) (qA (CU (W:=wD C m w) (fl:=λx=>some (D.sc (V.int 12))) gj gj gj gj rfl e1) (by
   unfold eR;generalize wD C m w=WW;simp[bw,cv,fT,dI,gE])) ?_
  refine Ev.nx (ρ':=eR (wD C m w) l2 (some (.own (iD rd))) (some (.own (iD i))) none none) (qA (CU (W:=wD C m w) (fl:=λZ=>(au (aq (aX aE bq) (ab 0) λx=>some (D.sc (V.str (af "masters")))) (λx=>some []) Z).bind bY) je gj gj gj (by
   rw[W0];unfold eR;generalize cC C m w.ms=MM at *;simp[rS,zo,bD,au,ab,ag,bq,aX,aZ,aq,ak]) e2) (by
   unfold eR;generalize wD C m w=WW;simp[bw,cv,fT,dI,gE])) ?_
  refine Ev.nx (ρ':=eR (wD C m w) l2 (some (.own (iD rd))) (some (.own (iD i))) (some (.ar 6 [0,i])) none) (by
   rw[W0];unfold eR;generalize b6 C m i s=M at *;simp[rS,i1,i3,pM,tF,bD,bw,ab,ag,cT,gf,aZ,dw,jb,az,VL.plain,bf,ak,cv,fT,dI,gE]) ?_
  have cmp:∀(x4:Option B) (W:D) (l:List D) (k:Int),((λZ=>aQ (λb=>(b,Z)) ((aq (eU λi j=>V.bl (decide (i < j))) (ab 2) (λx=>some (D.sc (V.int k))) Z).bind λx=>match x with | D.sc (V.bl b)=>some b | x=>none)):En->Option (Bool×En)) (eR W l (some (.own (iD rd))) (some (.own (iD i))) x4 none)=some (decide (rd < k),eR W l (some (.own (iD rd))) (some (.own (iD i))) x4 none):=λx4 W l k=>by
   unfold eR;simp[bD,ab,eU,aq]
  have CV:∀(x4:Option B) (W:D) (l:List D) (k:Int),((λZ=>aQ (λb=>(b,Z)) ((aq (eU λi j=>V.bl (decide (j < i))) (ab 2) (λx=>some (D.sc (V.int k))) Z).bind λx=>match x with | D.sc (V.bl b)=>some b | x=>none)):En->Option (Bool×En)) (eR W l (some (.own (iD rd))) (some (.own (iD i))) x4 none)=some (decide (k < rd),eR W l (some (.own (iD rd))) (some (.own (iD i))) x4 none):=λx4 W l k=>by
   unfold eR;simp[bD,ab,eU,aq]
  have wz:∀(x4:Option B) (W:D) (l:List D) (k:Int),((λZ=>aQ (λb=>(b,Z)) ((aq (fj id) (ab 2) (λx=>some (D.sc (V.int k))) Z).bind λx=>match x with | D.sc (V.bl b)=>some b | x=>none)):En->Option (Bool×En)) (eR W l (some (.own (iD rd))) (some (.own (iD i))) x4 none)=some (decide (rd=k),eR W l (some (.own (iD rd))) (some (.own (iD i))) x4 none):=λx4 W l k=>by
   unfold eR;simp[lJ,bD,ab,aq]
  have tr:∀{b:Prop} [Decidable b] {x:Option (Bool×En)} {ρ1:En},x=some (decide b,ρ1)->b->x=some (true,ρ1):=λ{b _ x ρ1} h hb=>by rw[h,decide_eq_true hb]
  have fa:∀{b:Prop} [Decidable b] {x:Option (Bool×En)} {ρ1:En},x=some (decide b,ρ1)->¬ b->x=some (false,ρ1):=λ{b _ x ρ1} h hb=>by rw[h,decide_eq_false hb]
  by_cases c4:rd < 4
  ·refine Ev.ou (tr (cmp _ _ _ _) c4) ?_
   -- rise
   have wr:=OG ws (JT i) (by lia:(i:Int) < m);have er:=aaJ (K:=K) (C:=C) m i s ws.wf.rows (bW ws.wf.len (by lia)) h0 (by lia);have uh:∀g∈kK m i (rise m i s).te,mq m 900 g:=OK (by lia) (by lia);have en:=zm (K:=K) (C:=C) m { w with ms:=w.ms.set i (rise m i s) } i "rise" (.sc .aJ) (some (kK m i (rise m i s).te)) (rise m i s) (by show(w.ms.set i _)[i]?=_;exact dr (bB.mp hs).1) wr.wf.rows (bW wr.wf.len (by lia)) rfl (λl hl=>by
    cases hl;exact⟨λg hg=>(uh g hg).ok,by unfold kK;rw[dC];exact bW (qG _ _) (by lia)⟩) ⟨λg hg=>((h.way g hg).mono (by lia)).ok,h.lU⟩ (by show w.aC.length<=900;lia)
   have oN:iV (.nd .lst ((kK m i (rise m i s).te).map ay))=d6 (some (kK m i (rise m i s).te)):=by
    show(if _ then _ else _)=_;rw[if_pos (pP λg hg=>(uh g hg).ok)];rfl
   rw[<- oN]at en;have po:VL.plain (iV (.nd .lst ((kK m i (rise m i s).te).map ay)))=true:=by rw[oN];exact v7 (b:=900) λl hl g hg=>by cases hl;exact(uh g hg).ok
   have ho:j8 C "rise" (b6 C m i s)=true:=vE (by decide +kernel) _ _ _ _ _ _ _ _ _;have ec:=abG (C:=C) (GR:=y0 K C) (GN:=qD K C) (ks:=bX) (l:=l2) (x2:=some (.own (iD rd))) (x5:=none) je gj i3 (CT m w.ms i (rise m i s)) pM (qI m i _) ho er po en;have sw:Step m w (w.note i "rise" (.sc .aJ) (some (kK m i (rise m i s).te)) (rise m i s)):= .rise w i s hs;have ig:=Step.ww hm sw h;refine Ev.nx ec ?_;by_cases c0:0 < rd
   ·refine Ev.ou (tr (CV _ _ _ _) c0) ?_;obtain⟨w2,l3,lq,oO,b5,mN,e3⟩:=IM (K:=K) (C:=C) m h0 hm _ ig (by rw[t9];lia) "stand" "voice" (decide (rd=1)) l2 g9;exact⟨_,abI je gj gj e3,w2,l3,_,_,_,_,lq,oO, .cons sw b5,by rw[t9]at mN;lia,rfl⟩
   ·refine Ev.oC (fa (CV _ _ _ _) c0) ⟨_,rfl,_,l2,_,_,_,_,g9,ig, .one sw,by rw[t9];lia,rfl⟩
  ·refine Ev.oC (fa (cmp _ _ _ _) c4) ?_;by_cases c8:rd < 8
   ·refine Ev.ou (tr (cmp _ _ _ _) c8) ?_;obtain⟨w1,l3,lq,ig,bC,wt,e3⟩:=abF (K:=K) (C:=C) m h0 hm w h (by lia) l2 g9;refine Ev.nx (abL je je gj e3) ?_;by_cases c5:4 < rd
    ·refine Ev.ou (tr (CV _ _ _ _) c5) ?_;obtain⟨w2,l4,ug,oO,b5,mN,e4⟩:=IM (K:=K) (C:=C) m h0 hm w1 ig (by lia) "keep" "kept" (decide (rd=5)) l3 lq;exact⟨_,abJ je gj gj e4,w2,l4,_,_,_,_,ug,oO,bC.trans b5,by lia,rfl⟩
    ·exact Ev.oC (fa (CV _ _ _ _) c5) ⟨_,rfl,w1,l3,_,_,_,_,lq,ig,bC,by lia,rfl⟩
   ·refine Ev.oC (fa (cmp _ _ _ _) c8) ?_;by_cases d8:rd=8
    ·refine Ev.ou (tr (wz _ _ _ _) d8) ?_;have wr:=OH ws;have er:=aaW (K:=K) (C:=C) m i s;have en:=zm (K:=K) (C:=C) m { w with ms:=w.ms.set i (mR s) } i "fall" (.sc .aJ) (some []) (mR s) (by show(w.ms.set i _)[i]?=_;exact dr (bB.mp hs).1) wr.wf.rows (bW wr.wf.len (by lia)) rfl (λl hl=>by
      cases hl;exact⟨(λ_ h=>nomatch h),by decide⟩) ⟨λg hg=>((h.way g hg).mono (by lia)).ok,h.lU⟩ (by show w.aC.length<=900;lia)
     have ho:j8 C "fall" (b6 C m i s)=true:=vE (by decide +kernel) _ _ _ _ _ _ _ _ _;have ec:=abH (C:=C) (GR:=zd K C) (GN:=qD K C) (ks:=bX) (l:=l2) (x2:=some (.own (iD rd))) (x5:=none) je gj i3 (CT m w.ms i (mR s)) pM (qI m i _) ho er rfl en;have sw:Step m w (w.note i "fall" (.sc .aJ) (some []) (mR s)):= .wc w i s hs;exact⟨_,ec,_,l2,_,_,_,_,g9,Step.ww hm sw h, .one sw,by rw[t9];lia,rfl⟩
    ·refine Ev.oC (fa (wz _ _ _ _) d8) ?_;by_cases d9:rd=9
     ·refine Ev.ou (tr (wz _ _ _ _) d9) ?_;obtain⟨j,l3,hj,lq,e3⟩:=Qb (K:=K) (C:=C) m h0 hm w h l2 g9;have hM:=gp (ks:=bX) (a:= .nd .lst (w.way.map ay)) (b:= .nd .lst (w.aC.map cU)) (c:=iD w.rows) i3;refine Ev.nx (abM je je gj (Qe m w) hM e3) ?_;have ui:=gM (show j < w.ms.length by rw[h.n];exact hj);generalize w.ms[j]'(by rw[h.n];exact hj)=sj at ui;have CW:=h.ms sj (gk ui);obtain⟨j1,j2⟩:=zk (C:=C) (m:=m) ui;have es:=aaV (K:=K) (C:=C) m j sj (CW.wf.mono (by lia)) (by lia);have uh:∀g∈sends m j sj,mq m w.aC.length g:=OL CW (by lia) (by lia);have abW:(sends m j sj).length<=100:=by
       unfold sends
       split
       ·unfold keeps;rw[dC];exact bW (qG _ _) (by lia)
       ·exact jj _
      have abX:w.ms.set j sj=w.ms:=by
       obtain⟨hh,e⟩:=bB.mp ui;rw[<- e];exact List.set_getElem_self hh
      have en:=zm (K:=K) (C:=C) m w j "send" (.sc .aJ) (some (sends m j sj)) sj ui CW.wf.rows (bW CW.wf.len (by lia)) rfl (λl hl=>by
       cases hl;exact⟨λg hg=>((uh g hg).mono (by lia)).ok,abW⟩) ⟨λg hg=>((h.way g hg).mono (by lia)).ok,h.lU⟩ (by lia)
      have abY:aN.v8 w j "send" (.sc .aJ) (some (sends m j sj)) sj=w.note j "send" (.sc .aJ) (some (sends m j sj)) sj:=by
       unfold aN.v8 aN.note;rw[abX]
      rw[abY]at en;have oN:iV (.nd .lst ((sends m j sj).map ay))=d6 (some (sends m j sj)):=by
       show(if _ then _ else _)=_;rw[if_pos (pP λg hg=>(uh g hg).ok)];rfl
      rw[<- oN]at en;have po:VL.plain (iV (.nd .lst ((sends m j sj).map ay)))=true:=by rw[oN];exact v7 λl hl g hg=>by cases hl;exact(uh g hg).ok
      have ho:j8 C "send" (b6 C m j sj)=true:=vE (by decide +kernel) _ _ _ _ _ _ _ _ _;have ec:=abN (C:=C) (GS:=rM K C) (GN:=qD K C) (ks:=bX) (l:=l3) (j:=i) (x2:=some (.own (iD rd))) (x5:=none) je gj (λx=>rS x _ _ _) j1 j2 (rT ui) (qI m j sj) ho es po en;have sw:Step m w (w.note j "send" (.sc .aJ) (some (sends m j sj)) sj):= .send w j sj ui;have ig:=Step.ww hm sw h;refine Ev.nx ec ?_;obtain⟨w2,l4,ug,oO,b5,mN,e4⟩:=IM (K:=K) (C:=C) m h0 hm _ ig (by rw[t9];lia) "keep" "kept" false l3 lq;exact⟨_,abK je je gj gj e4,w2,l4,_,_,_,_,ug,oO, .cons sw b5,by rw[t9]at mN;lia,rfl⟩
     ·refine Ev.oC (fa (wz _ _ _ _) d9) ?_;by_cases Qf:rd=10
      ·refine Ev.ou (tr (wz _ _ _ _) Qf) ?_;obtain⟨k,l3,a3,b3,lq,e3⟩:=nE (K:=K) (C:=C) l2 g9 20 (by decide) (by decide);obtain⟨k,rfl⟩:∃k':Nat,k=k':=⟨k.toNat,by lia⟩
       have hc:yM (.nd .lst (w.way.map ay)) (iD k)=some (.nd .lst ((w.way.drop k).map ay)):=by
        have p:VL.bf (w.way.map ay)=true:=pP λg hg=>(h.way g hg).ok;have c:=Cw (w.way.map ay) k;rw[SE];generalize w.way.map ay=wy at *;simp[yM,mf,p,c]
       have ec:=abO (b:= .nd .lst (w.aC.map cU)) (c:=iD w.rows) (x2:=some (.own (iD rd))) (x3:=some (.own (iD i))) (x5:=none) je je gj i3 e3 hc;have sw:Step m w { w with way:=w.way.drop k }:= .drop w _ (λg hg=>JK hg) (by rw[wR];lia);exact⟨_,ec,_,l3,_,_,_,_,lq,Step.ww hm sw h, .one sw,by show w.aC.length<=_;lia,rfl⟩
      ·refine Ev.oC (fa (wz _ _ _ _) Qf) ?_;exact Ev.mono (abS m h0 hm w h (by lia) _ _ je je i hi l2 g9) λfl q=>by
        cases fl with
        |nx Z=>
         obtain⟨w',l',x2,x3,x4,x5,hU,zq,st,sX,e⟩:=q;exact⟨w',l',x2,x3,x4,x5,hU,zq,st,by lia,e⟩
        |rt _ _=>exact q.elim
        |bk _=>exact q.elim
        |ct _=>exact q.elim
 obtain⟨d,o,e,w',l',h1,h2,h3,h4,rfl,rfl⟩:=key;exact⟨w',l',h1,h2,h3,h4,e⟩
end K85
namespace K85
open PySem L2 VL WM
variable [fM K C]
def w0(m:Nat):aN:=⟨gL m s0, [], [],0⟩
theorem IW(m:Nat):Ww m (w0 m):=by
 refine⟨by simp[w0],λs hs=> ?_,(λ_ h=>nomatch h),jj _,(λ_ h=>nomatch h)⟩;rw[Sw hs];exact⟨⟨cx.nil,jj _, .inl rfl,se,jj _,(λ_ h=>nomatch h),se,jj _⟩,(λ_ h=>nomatch h),λ_ h=>nomatch h⟩
theorem abZ(m:Nat):cC C m (w0 m).ms=(lx m).map λi:Nat=>b6 C m (i:Int) s0:=by
 refine SH λj=> ?_;unfold cC w0;rw[Dj,dF];by_cases h:j < m
 ·rw[C8,if_pos h,Sm h];rfl
 ·rw[C8,if_neg h,SJ (by simp;lia)];rfl
theorem ab0(m:Nat)(hm:m < 100)(a b:D)(hn:∀f∈dB,iT K C f):(kl 3 [none,some 2] [0] (λZ=>(au (ab 2) (λx=>some []) Z).bind lZ) (λd Z=>some (bw 0 (B.ro d) Z)) (λx=>some true) (Bk (rK K C) C 2 (au (ab 0) (au (ab 1) λx=>some [])))) [some (.ro a),some (.own b),some (.own (iD m))]=some (.nd .lst (cC C m (w0 m).ms)):=by
 have e:=nB (n:=3) (js:= [none,some 2]) (is:= [0]) (fi:=(λZ=>(au (ab 2) (λx=>some []) Z).bind lZ)) (fg:=(λd Z=>some (bw 0 (B.ro d) Z))) (ft:=(λx=>some true)) (fe:=(Bk (rK K C) C 2 (au (ab 0) (au (ab 1) λx=>some [])))) (Z:= [some (.ro a),some (.own b),some (.own (iD m))]) (lx m) (λi=>iD i) (λ_=>true) (λi:Nat=>b6 C m (i:Int) s0) ?_ (by rw[Af];exact bW (by lia:m<=100) (by decide)) rfl ?_
 ·rw[Aj.mpr (λ_ _=>rfl)]at e;rw[abZ];exact e
 ·refine ae.mpr ⟨[iD m], ?_, ?_⟩
  ·simp[bD,au,ab]
  ·rw[tR _ hm,BL]
 ·intro i hi;have hi:rK K C [.nd (.obj C []) [],iD i,iD m]=some (.sc .aJ, [b6 C m (i:Int) s0]):=aaj (K:=K) (C:=C) i m hn;generalize b6 C m (i:Int) s0=M at *;generalize rK K C=GI at *;simp[hi,bD,bw,gD,au,ab,ye,Bk,cv,fm,dI]
theorem ab1(m:Nat):vG (kG (λx=>some (D.sc (V.str (af "masters")))) (λ_=>some (.nd .lst (cC C m (w0 m).ms))) (kG (λx=>some (D.sc (V.str (af "way")))) (cu Kd.lst λx=>some []) (kG (λx=>some (D.sc (V.str (af "story")))) (cu Kd.lst λx=>some []) (kG (λx=>some (D.sc (V.str (af "rows")))) (λx=>some (D.sc (V.int 0))) λx=>some ([], []))))) []=some (wD C m (w0 m)):=by
 have hk:mT [sD "masters",sD "way",sD "story",sD "rows"]=some bX:=by simp[mT,gg,bX]
 have hc:bX.Nodup/\bX.length=4/\bX.length<=15:=⟨II,rfl,by decide⟩
 generalize hM:cC C m (w0 m).ms=MM;have e:kG (λx=>some (D.sc (V.str (af "masters")))) (λ_=>some (.nd .lst MM)) (kG (λx=>some (D.sc (V.str (af "way")))) (cu Kd.lst λx=>some []) (kG (λx=>some (D.sc (V.str (af "story")))) (cu Kd.lst λx=>some []) (kG (λx=>some (D.sc (V.str (af "rows")))) (λx=>some (D.sc (V.int 0))) λx=>some ([], [])))) []=some ([sD "masters",sD "way",sD "story",sD "rows"], [.nd .lst MM, .nd .lst [], .nd .lst [],iD 0]):=by
  simp[kG,cu]
 unfold vG;refine ae.mpr ⟨_,e,ae.mpr ⟨bX,hk, ?_⟩⟩;refine(if_pos hc).trans ?_;unfold wD;rw[hM];rfl
theorem ab2(d:Int)(h0:0<=d)(h8:d < 8):∃m:Nat,0 < m/\m<=7/\ko aE bq (.nd .lst [iD 1,iD 2,iD 3,iD 3,iD 4,iD 5,iD 6,iD 7]) (iD d)=some (iD m):=by
 have:d=0\/d=1\/d=2\/d=3\/d=4\/d=5\/d=6\/d=7:=by lia
 rcases this with rfl | rfl | rfl | rfl | rfl | rfl | rfl | rfl
 ·exact⟨1,by decide,by decide,by simp[fB,eX,ko,aE,aX,aZ,VL.plain]⟩
 ·exact⟨2,by decide,by decide,by simp[fB,eX,ko,aE,aX,aZ,VL.plain]⟩
 ·exact⟨3,by decide,by decide,by simp[fB,eX,ko,aE,aX,aZ,VL.plain]⟩
 ·exact⟨3,by decide,by decide,by simp[fB,eX,ko,aE,aX,aZ,VL.plain]⟩
 ·exact⟨4,by decide,by decide,by simp[fB,eX,ko,aE,aX,aZ,VL.plain]⟩
 ·exact⟨5,by decide,by decide,by simp[fB,eX,ko,aE,aX,aZ,VL.plain]⟩
 ·exact⟨6,by decide,by decide,by simp[fB,eX,ko,aE,aX,aZ,VL.plain]⟩
 ·exact⟨7,by decide,by decide,by simp[fB,eX,ko,aE,aX,aZ,VL.plain]⟩
theorem ab3(cs:List Int)(hn:∀f∈dB,iT K C f):∃m:Nat,0 < m/\m<=7/\B6 K C [gQ cs]=some (wD C m (w0 m)):=by
 obtain⟨l,hl,e1⟩:=P7 (K:=K) (C:=C) cs 0 (by decide);obtain⟨d,l',a1,b1,hU,e2⟩:=nE (K:=K) (C:=C) l hl 8 (by decide) (by decide);obtain⟨m,h0,h7,zp⟩:=ab2 d a1 b1;refine⟨m,h0,h7, ?_⟩;have ab4:=ab0 (K:=K) (C:=C) m (by lia) (gQ cs) (.nd .lst l') hn;have hd:=ab1 (C:=C) m;unfold B6 Hh;dsimp only;refine Bz (ρ':= [some (.ro (gQ cs)),some (.own (.nd .lst l')),some (.own (iD m))]) (iU (ρ':= [some (.ro (gQ cs)),some (.own (.nd .lst l)),none]) ?_ (iU (ρ':= [some (.ro (gQ cs)),some (.own (.nd .lst l')),some (.own (iD m))]) (qA (ρ1:= [some (.ro (gQ cs)),some (.own (.nd .lst l')),none]) (pO (a:= .nd .lst [iD 1,iD 2,iD 3,iD 3,iD 4,iD 5,iD 6,iD 7]) (b:=iD d) (ρ1:= [some (.ro (gQ cs)),some (.own (.nd .lst l)),none]) ?_ ?_ zp) ?_) (qv (oo ?_))))
 ·have e1:vK K C [gQ cs,iD 0]=some (.nd .lst l):=e1;generalize vK K C=GL at *;simp[gL,e1,gC,bD,bw,au,ab,cv,fm,dI]
 ·simp[au,cu,Yq]
 ·generalize kJ K C=GP at *;simp[e2,e9,fQ,d5,bM,bJ,dH,bp,dO,ag,bU,az,bx,eg,dD,ak,dh,dS,aG]
 ·simp[bw,cv,fT,fm,dI]
 ·unfold vG at hd |-;obtain⟨p,hp,hq⟩:=ae.mp hd;refine ae.mpr ⟨p, ?_,hq⟩;obtain⟨k0,ab5,hp⟩:=ae.mp hp;obtain⟨v0,ab6,hp⟩:=ae.mp hp;exact ae.mpr ⟨k0,ab5,ae.mpr ⟨v0,by rw[<- ab6];exact ab4,hp⟩⟩
end K85
namespace K85
open PySem L2 VL
theorem zr:eK ["_law_script","_law_world","_law_many","_law_k","_law_seen"] ["_law_script"] (cP vH):=fU
section
variable (P:Program)(w:World)(K:ah)(mg:Str->Option Value)(base:Heap)(Cm:Addr)[fM K Cm]
def IX: {g:oG K Cm // ∀{P w mg base f fd},ee K "law" "law" vH f fd->d7 mg->Zf P w K mg base Cm->Zt P w K mg base Cm->Oh P w K mg base Cm->Zw P w K mg base Cm->b9 P w K mg base cQ 15 f fd ["_law_script"] (eF K 1 (cY 5 g))}:=⟨_,λF T IY IZ vL I0=>mm F zr λ_ _ _ _ _ _ hr=>(bc (ib 1 zr.nd (b7 IY hr rfl (fV (pv 0))))
  (bc (ib 2 zr.nd (pln T.iC (pxx hr (pv 1) bL)))
  (bc (sH w6 rfl (Tw rfl T.qC (bS aU (ly (r:=x8) (Fg rfl) rfl T.vI Ae (bS aU (pln T.iC (pv 0)))))) (ie 3 zr.nd)
   (dM (fJ (eG qY (pln T.iC (pxx hr (pv 1) bL)) aU)
   (dM (jl (b7 IZ hr rfl (bS (pv 1) (b7 vL hr rfl (bS (pv 0) (pv 3))))))) gA)))
  (bc (ib 4 zr.nd (NR (rB bL xA (rB bL Vx (rB bL xA Ef))) rfl rfl rfl rfl))
  (fG (ly (r:=(x9 K)) (Nc rfl) rfl T.N5 aep (fV (pA [none,some 4,some 2] ["_law_row","_law_seen","_law_many"] rfl (mM ⟨⟨rfl,rfl, .inl rfl⟩,⟨⟨rfl,rfl, .inl rfl⟩,trivial⟩⟩) (qB (pxx hr (pv 1) bL)) (λ_ _ _ _ _ _=>(ie 0 (by decide +kernel:(["_law_row","_law_seen","_law_many"]:List Str).Nodup))) (λ_ _ _ _ _ _=>sV) (λ_ _ _ _ _ _=>(b7 I0 hr rfl (bz (pv 1) (bS (pv 2) (pv 0)))))))))))))⟩
def I8:List D->Option D:=cY 5 (IX K Cm).1
end
end K85
namespace K85
open PySem L2 VL WM
variable [fM K C]
theorem ab7(a b:Nat)(hb:b < 100)(ha:a < 100):yb [iD a,iD b]=some (iB a (b - a)):=by
 have e:yb [iD a,iD b]=if -(2 ^ 62)<=(a:Int)/\(a:Int) < 2 ^ 62/\ -(2 ^ 62)<=(b:Int)/\(b:Int) < 2 ^ 62 then some (iB a ((b:Int) - a).toNat) else none:=rfl;rw[e,if_pos ⟨by lia,by lia,by lia,by lia⟩,show((b:Int) - a).toNat=b - a by lia]
def jX(c W:D)(m:Nat)(x3 x4:Option B):En:= [some (.ro c),some (.own W),some (.own (iD m)),x3,x4]
def eZ(c W:D)(m:Nat)(x3:Option B)(X:D):En:= [some (.ro c),some (.own W),some (.own (iD m)),x3,some (.own X),some (.ar 1 [2])]
theorem ab8{GR:List D->Option (D×List D)}{GL:List D->Option D}(e1:GL [c,k]=some (.nd .lst l))(e2:GR [W, .nd .lst l]=some (.sc .aJ, [W', .nd .lst l'])):(eB (F7 GR 1 (λZ=>(au (ab 0) (au (ab 3) λx=>some []) Z).bind λds=>if ds.length=2 then GL ds else none))) (jX c W m (some (.ro k)) none)=some (.nx (jX c W' m (some (.ro k)) none)):=by
 unfold jX;simp[F7,kZ,e1,e2,fQ,d5,bM,bD,bp,au,ab,eB,dO,ag,bU,az,bx,eg,dD,ak,dh,dS,aG,cv,fT,fm,dI]
theorem ab9:(λZ=>aQ (λb=>(b,Z)) ((aq (eU λi j=>V.bl (decide (i < j))) (λZ=>(au (aq (aX aE bq) (ab 1) λx=>some (D.sc (V.str (af "story")))) (λx=>some []) Z).bind bY) (λx=>some (D.sc (V.int 300))) Z).bind λx=>match x with | D.sc (V.bl b)=>some b | x=>none)) (jX c (wD C m w) m x3 none)=some (decide (w.aC.length < 300),jX c (wD C m w) m x3 none):=by
 have hl:bY [.nd .lst (w.aC.map cU)]=some (iD w.aC.length):=by simp[bY]
 have W0:wD C m w= .nd (.aB bX) [.nd .lst (cC C m w.ms), .nd .lst (w.way.map ay), .nd .lst (w.aC.map cU),iD w.rows]:=rfl;have hd:decide ((w.aC.length:Int) < 300)=decide (w.aC.length < 300):=by
  by_cases c:w.aC.length < 300
  ·rw[decide_eq_true c,decide_eq_true (by lia)]
  ·rw[decide_eq_false c,decide_eq_false (by lia)]
 unfold jX;rw[W0];generalize w.aC.map cU=st at *;simp[IH,hl,hd,bD,au,ab,eU,bq,aX,aZ,aq]
theorem aca(h1:fp Z=some (.rt r p))(h2:dw Z (.rt r p)=some (.nd .lst cs))(hz:cs.length<=aK)(h3:mP G Z.length a b cs.length 0 (Z++ [some (B.ar r p)])=some (zs,yS)):BR G a b fp Z=some (.nd .lst (zs.map D.sc),kZ 0 Z.length yS):=by
 unfold BR;rw[h1];show(match dw Z (.rt r p) with | some (.nd .lst cs)=>if cs.length<=aK then(mP G Z.length a b cs.length 0 (Z++ [some (B.ar r p)])).map λ(u:List V×En)=>(D.nd .lst (u.1.map D.sc),kZ 0 Z.length u.2) else none | _=>none)=_;rw[h2];show(if cs.length<=aK then(mP G Z.length a b cs.length 0 (Z++ [some (B.ar r p)])).map λ(u:List V×En)=>(D.nd .lst (u.1.map D.sc),kZ 0 Z.length u.2) else none)=_;rw[if_pos hz,h3];rfl
theorem acb:dA.Nodup:=by simp[dA,Ph,Pj,Pk]
theorem acd:vG (kG (λx=>some (D.sc (V.str (af "terms")))) (λx=>some (D.nd (Kd.aB []) [])) (kG (λx=>some (D.sc (V.str (af "voices")))) (λx=>some (D.nd (Kd.iK []) [])) (kG (λx=>some (D.sc (V.str (af "logs")))) (λx=>some (D.nd (Kd.aB []) [])) λx=>some ([], [])))) Z=some (iO ⟨[], [], []⟩):=by
 have hk:mT [sD "terms",sD "voices",sD "logs"]=some dA:=by simp[mT,gg,dA]
 have hc:dA.Nodup/\dA.length=3/\dA.length<=15:=⟨acb,rfl,by decide⟩
 have e:kG (λx=>some (D.sc (V.str (af "terms")))) (λx=>some (D.nd (Kd.aB []) [])) (kG (λx=>some (D.sc (V.str (af "voices")))) (λx=>some (D.nd (Kd.iK []) [])) (kG (λx=>some (D.sc (V.str (af "logs")))) (λx=>some (D.nd (Kd.aB []) [])) λx=>some ([], []))) Z=some ([sD "terms",sD "voices",sD "logs"], [.nd (.aB []) [], .nd (.iK []) [], .nd (.aB []) []]):=by
  simp[kG]
 unfold vG;refine ae.mpr ⟨_,e,ae.mpr ⟨dA,hk, ?_⟩⟩;exact(if_pos hc).trans rfl
theorem ace{GL:List D->Option (D×List D)}{c W X X' d st:D}{m:Nat}{x3:Option B}(h3:NA x3)(hW:ag W [2]=some st)(e:GL [X,iD m,d]=some (tD true, [X'])):bp GL [.io ⟨4, []⟩, .rv (.rt 2 []) (iD m), .rv (.ro d) d] (eZ c W m x3 X)=some (tD true,eZ c W m x3 X'):=by
 unfold eZ;simp[e,hW,ic,cK h3,e9,fQ,d5,bM,bp,dO,ag,bU,bx,gU,oq,dD,ak,dh,dS,aG]
theorem Qg:∀(zs:List V),(∀z∈zs,z= .bl true)->∃bs,nq (zs.map D.sc)=some bs/\bs.all id=true
 | [],_=>⟨[],rfl,rfl⟩
 |z::zs,h=>by
  obtain⟨bs,e1,e2⟩:=Qg zs λx hx=>h x (jZ _ hx);rw[h z (mY ..)];exact⟨true::bs,by rw[dZ,nq,e1];rfl,by rw[Sb,e2];rfl⟩
theorem acf{c W:D}{m:Nat}{x3:Option B}(h3:NA x3)(h0:0 < m)(hm:m < 40){st:List gW}(hz:st.length<=430)(hW:ag W [2]=some (.nd .lst (st.map cU)))(ok:∀e∈st,VL.plain e.what=true/\(∀l,e.told=some l->∀g∈l,g.ok st.length)/\cx e.st.L):
  ∀(k j:Nat) (S:Sn),k + j=st.length->wo (st.take j) S->ud m (st.take j) j (st.drop j)->∃zs S',mP (vY K C) 5 4 2 k j (eZ c W m x3 (iO S))=some (zs,eZ c W m x3 (iO S'))/\∀z∈zs,z= .bl true:=by
 have hd:∀X,ab 5 (eZ c W m x3 X)=some (.nd .lst (st.map cU)):=λX=>by
  unfold eZ;simp[hW,bD,ab,ak]
 intro k
 induction k with
 |zero=>
  intro j S hj _ _;refine⟨[],S, ?_,λ_ h=>by cases h⟩;rw[mP,hd];show(if(st.map cU).length<=j then some _ else none)=_;rw[if_pos (by rw[dC];lia)]
 |succ k ih=>
  intro j S hj hS hF;have BO:j < st.length:=by lia
  rw[qN BO]at hF;have he:=gM BO;have tk:st.take (j + 1)=st.take j++ [st[j]]:=by rw[ael,he];rfl
  generalize st[j]=e at *;cases hF with
  |cons l f=>
   have Qh:=ok e (gk he);have lw:=aae (K:=K) (C:=C) h0 hm (by rw[wO];lia) hS (λx hx=>(ok x (JL hx)).2.2) l Qh;have CN:=hS.put l;rw[<- tk]at f CN;obtain⟨zs,S',g1,g2⟩:=ih (j + 1) (S.put e) (by lia) CN f;refine⟨.bl true::zs,S', ?_,λz hz=> ?_⟩
   ·have c1:=ace (c:=c) h3 hW lw;have pv:az 4 (eZ c W m x3 (iO S))=some (.rt 4 []):=rfl;have pm:az 2 (eZ c W m x3 (iO S))=some (.rt 2 []):=rfl;have pd:dw (eZ c W m x3 (iO S)) (.rt 2 [])=some (iD m):=rfl;rw[mP,hd];refine ae.mpr ⟨cU e,by rw[dF,he];rfl, ?_⟩;rw[if_pos (Pr Qh)];refine ae.mpr ⟨_,pv,ae.mpr ⟨_,pm,ae.mpr ⟨_,pd,ae.mpr ⟨_,c1, ?_⟩⟩⟩⟩;exact aV.mpr ⟨_,g1,rfl⟩
   ·rcases gK.mp hz with rfl | hz
    ·rfl
    ·exact g2 z hz
theorem acg(cs:List Int)(xt:cs.length<=63)(hn:∀f∈dB,iT K C f):I8 K C [gQ cs]=some (tD true):=by
 obtain⟨m,h0,h7,eb⟩:=ab3 (K:=K) (C:=C) cs hn;obtain⟨nk,ach,cG⟩:∃nk:Nat,nk < 100/\(if(cs.length:Int) > 9 then(cs.length:Int) else 9)=(nk:Int):=by
  by_cases h8:(cs.length:Int) > 9
  ·exact⟨cs.length,by lia,by rw[if_pos h8]⟩
  ·exact⟨9,by decide,by rw[if_neg h8];rfl⟩
 have key:∃d,I8 K C [gQ cs]=some d/\d=tD true:=by
  unfold I8 IX;dsimp only;refine NF (Ev.nx (ρ':= [some (.ro (gQ cs)),some (.own (wD C m (w0 m))),none,none,none]) ?_ ?_)
  ·generalize B6 K C=GB at *;generalize wD C m (w0 m)=WW at *;simp[eb,gL,gC,bD,bw,au,ab,cv,fm,dI]
  refine Ev.nx (ρ':=jX (gQ cs) (wD C m (w0 m)) m none none) ?_ ?_
  ·have zo:bY [.nd .lst (cC C m (w0 m).ms)]=some (iD m):=by simp[bY,CS,(IW m).n]
   have W0:wD C m (w0 m)= .nd (.aB bX) [.nd .lst (cC C m (w0 m).ms), .nd .lst ((w0 m).way.map ay), .nd .lst ((w0 m).aC.map cU),iD (w0 m).rows]:=rfl;unfold jX;rw[W0];generalize cC C m (w0 m).ms=MM at *;generalize (w0 m).way.map ay=m1;generalize (w0 m).aC.map cU=m2;generalize iD (w0 m).rows=m3;simp[rS,zo,gC,bD,bw,au,ab,bq,aX,aZ,aq,cv,fT,fm,dI]
  refine Ev.seq (Ev.for (ds:=iB ((1:Nat):Int) (nk - 1)) ?_ (λZ=>∃(w:aN) (x3:Option B),Ww m w/\iN m (w0 m) w/\w.aC.length<=430/\NA x3/\Z=jX (gQ cs) (wD C m w) m x3 none) ⟨w0 m,none,IW m, .refl _,jj _,gj,rfl⟩ ?_ ?_)
  ·refine ae.mpr ⟨[iD (1:Nat),iD nk], ?_,ab7 1 nk ach (by decide)⟩;rw[<- cG];unfold jX;generalize wD C m (w0 m)=WW at *;simp[gQ,bD,au,ab,pF,bY]
  ·rintro dd hd Z ⟨w,x3,hw,st,hz,h3,rfl⟩;obtain⟨k,hk,rfl⟩:=NH hd;rw[show((1:Nat):Int) + (k:Int)=((1 + k:Nat):Int) by lia];refine⟨jX (gQ cs) (wD C m w) m (some (.ro (iD (1 + k:Nat)))) none,(by
    unfold jX;generalize wD C m w=WW at *;simp[gR h3,bw,cv,fT,fm,dI]), ?_⟩
   have qK:=ab9 (C:=C) (c:=gQ cs) (m:=m) (w:=w) (x3:=some (.ro (iD (1 + k:Nat))));by_cases c:w.aC.length < 300
   ·rw[decide_eq_true c]at qK;obtain⟨l,hl,e1⟩:=P7 (K:=K) (C:=C) cs (1 + k) (by lia);obtain⟨w',l',hU,zq,st',sX,e2⟩:=abV (K:=K) (C:=C) m h0 (by lia) w hw (by lia) l hl;exact Ev.ou qK ⟨_,ab8 e1 e2,w',_,zq,st.trans st',by lia,mO,rfl⟩
   ·rw[decide_eq_false c]at qK;exact Ev.oC qK ⟨_,rfl,w,_,hw,st,hz,mO,rfl⟩
  ·rintro Z ⟨w,x3,hw,st,hz,h3,rfl⟩;have al:=st.all (by lia) (ZN m (IW m));have W0:wD C m w= .nd (.aB bX) [.nd .lst (cC C m w.ms), .nd .lst (w.way.map ay), .nd .lst (w.aC.map cU),iD w.rows]:=rfl;have hW:ag (wD C m w) [2]=some (.nd .lst (w.aC.map cU)):=by rw[W0];exact hg _
   refine Ev.nx (ρ':=jX (gQ cs) (wD C m w) m x3 (some (.own (iO ⟨[], [], []⟩)))) (qA (oo acd) (by
    unfold jX;generalize wD C m w=WW at *;generalize iO ⟨[], [], []⟩=SS;simp[gR h3,bw,cv,fT,fm,dI])) ?_
   have s0:wo (w.aC.take 0) ⟨[], [], []⟩:=⟨λ_=> .inl rfl,se,jj _,λi t=>⟨(λh=>by cases h),λh=>by obtain⟨o,R,e,he,_⟩:=h;cases he⟩,se,jj _,λ_=> .inl rfl,se,jj _⟩
   obtain⟨zs,S',g1,g2⟩:=acf (K:=K) (C:=C) (c:=gQ cs) (W:=wD C m w) h3 h0 (by lia) hz hW hw.st w.aC.length 0 _ (by lia) s0 al.CJ.all;obtain⟨bs,b1,b2⟩:=Qg zs g2;have p1:(gf aE (az 1) λx=>some (D.sc (V.str (af "story")))) (jX (gQ cs) (wD C m w) m x3 (some (.own (iO ⟨[], [], []⟩))))=some (.rt 1 [2]):=by
    rw[W0];generalize w.aC.map cU=st at *;generalize w.way.map ay=m1;generalize cC C m w.ms=m2;generalize iD w.rows=m3;generalize iO ⟨[], [], []⟩=SS;unfold jX;simp[IH,ag,gf,aZ,dw,jb,az,VL.plain,ak]
   have p2:dw (jX (gQ cs) (wD C m w) m x3 (some (.own (iO ⟨[], [], []⟩)))) (.rt 1 [2])=some (.nd .lst (w.aC.map cU)):=by
    generalize wD C m w=WW at *;generalize iO ⟨[], [], []⟩=SS;unfold jX;simp[hW,dw,ak]
   have e1:BR (vY K C) 4 2 (gf aE (az 1) λx=>some (D.sc (V.str (af "story")))) (jX (gQ cs) (wD C m w) m x3 (some (.own (iO ⟨[], [], []⟩))))=some (.nd .lst (zs.map D.sc),kZ 0 5 (eZ (gQ cs) (wD C m w) m x3 (iO S'))):=by
    refine aca p1 p2 (by rw[dC];exact bW hz (by decide)) ?_;rw[dC];exact g1
   have aci:vj [.nd .lst (zs.map D.sc)]=some (tD true):=by
    show(nq (zs.map D.sc)).map _=_;rw[b1];show some (D.sc (V.bl (bs.all id)))=_;rw[b2]
   exact⟨_,qv (d:=tD true) (ρ':=kZ 0 5 (eZ (gQ cs) (wD C m w) m x3 (iO S'))) (ae.mpr ⟨([.nd .lst (zs.map D.sc)],kZ 0 5 (eZ (gQ cs) (wD C m w) m x3 (iO S'))),ae.mpr ⟨_,e1,rfl⟩,aV.mpr ⟨_,aci,rfl⟩⟩),rfl⟩
 obtain⟨d,e,rfl⟩:=key;exact e
end K85
namespace K85
open PySem L2 VL
def I9(K:ah):Sp:=λvs H Q _=>∃(a:Addr) (ns:List Int),vs= [.ref a]/\j6 K H a (ns.map V.int)/\ns.length<=63/\∀H',Q (.bl true) H'
theorem acj{K:ah}{H:Hp}{a:Addr}{vs:List V}(hO:AI H)(hS:cc K H a vs):j6 K H a vs:=by
 rcases hS with(e | ⟨o,e⟩) | h
 ·rcases hO a with z | ⟨o,xs,z⟩
  ·rw[z]at e;cases e
  ·rw[z]at e;cases e
 ·exact .inl ⟨o,e⟩
 ·exact .inr h
theorem ack{K:ah}{H:Hp}{a:Addr}{ns:List Int}(h:j6 K H a (ns.map V.int)):dN K H T1 [.ref a] [gQ ns]:=by
 refine⟨rfl,λi v d hv hd=> ?_⟩;cases i with
 |succ i=>simp at hv
 |zero=>
  cases hv;cases hd;refine .nd (λz=>by cases z) ⟨trivial,h⟩ (by simp) λi v d hv hd=> ?_;rw[dF]at hv hd;cases e:ns[i]? with
  |none=>rw[e]at hv;cases hv
  |some x=>
   rw[e]at hv hd;cases hv;cases hd;exact .sc _
theorem ik{P:Program}{w:World}{K:ah}{mg:Str->Option Value}{base h:Heap}{x:Str}{ps:List Str}{k:Nat}{sp:Sp}{st:Stmt}{f:Addr}{oc:Value}{od an:Option Addr}{nQ:Array (Option Value)}{kV doc pm eO ct:Value}(X:K.In h)(G:h.Ns mr mg)(a:W.nsIn K mr x=some (some (.ref f)))(l:K.lookup f=some ⟨oc,od, .func (pU x x (qf st) (m6 st) (cP st) .none kV doc pm an eO ct),nQ⟩)(c:C9 K eO x=true)(kk:uC K (.ref f)=true)
  (o:b9 P w K mg base cQ k f (pU x x (qf st) (m6 st) (cP st) .none kV doc pm an eO ct) ps sp) (hb:∀(kV doc pm:Value) (an:Option Addr) (eO ct:Value) (us:List Value),us.length=ps.length->bindArgs (pU x x (qf st) (m6 st) (cP st) .none kV doc pm an eO ct) ⟨us, []⟩=pure (ps.zip us)):eP P w K mg base x ps k sp:=eP.of (fC l c kk) ((fC l c kk).binds hb) (Dm X G a) o
def nA(K:ah)(x:Str)(f:Addr):Prop:=W.nsIn K mr x=some (some (.ref f))
def nZ(K:ah)(x:Str):Prop:=W.nsIn K mr x=some none
def nL(K:ah)(f:Addr)(x y:Str)(s:Stmt)(oc:Value)(od:Option Addr)(kV dc pm:Value)(an:Option Addr)(cd ct:Value)(sl:Array (Option Value)):Prop:=K.lookup f=some ⟨oc,od, .func (pU x y (qf s) (m6 s) (cP s) .none kV dc pm an cd ct),sl⟩
def nC(K:ah)(c:Value)(x:Str):Prop:=C9 K c x=true
def nK(K:ah)(f:Addr):Prop:=uC K (.ref f)=true
def nF(K:ah)(C:Addr)(x:Str):Prop:=kL K (.ref C) x=some none
theorem all_mk{l:W.OpenLaw}{w:World}{K:ah}{h:Heap}{mg:Str->Option Value}{C fa:Addr}(X:K.In h)(G:h.Ns mr mg)(acm:mg "law"=some (.ref fa))
 (a0:nA K "_law_cell_at" f0) (l0:nL K f0 "_law_cell_at" "_law_cell_at" Ga ahi ahj ahk ahl ahm ahn acn aho ahp) (c0:nC K acn "_law_cell_at") (k0:nK K f0)
 (a1:nA K "_law_mix" f1) (l1:nL K f1 "_law_mix" "_law_mix" Gb ahq ahr ahs aht ahu ahv aco ahw ahx) (c1:nC K aco "_law_mix") (k1:nK K f1)
 (a2:nA K "_law_rich" f2) (l2:nL K f2 "_law_rich" "_law_rich" Ge ahy ahz ahA ahB ahC ahD acp ahE ahF) (c2:nC K acp "_law_rich") (k2:nK K f2)
 (a3:nA K "_law_left" f3) (l3:nL K f3 "_law_left" "_law_left" Gf ahG ahH ahI ahJ ahK ahL acq ahM ahN) (c3:nC K acq "_law_left") (k3:nK K f3)
 (a4:nA K "_law_pick" f4) (l4:nL K f4 "_law_pick" "_law_pick" Gg ahO ahP ahQ ahR ahS ahT acr ahU ahV) (c4:nC K acr "_law_pick") (k4:nK K f4)
 (a5:nA K "_law_begun" f5) (l5:nL K f5 "_law_begun" "_law_begun" Gj ahW ahX ahY ahZ ah0 ah1 acs ah2 ah3) (c5:nC K acs "_law_begun") (k5:nK K f5)
 (a6:nA K "_law_note" f6) (l6:nL K f6 "_law_note" "_law_note" Gk ah4 ah5 ah6 ah7 ah8 ah9 acu aia aib) (c6:nC K acu "_law_note") (k6:nK K f6)
 (a7:nA K "next_term" f7) (l7:nL K f7 "next_term" "next_term" Gm aic aid aie aif aih aii acv aij aik) (c7:nC K acv "next_term") (k7:nK K f7)
 (a8:nA K "is_most" f8) (l8:nL K f8 "is_most" "is_most" Gv ail aim ain aio aip aiq acw air ais) (c8:nC K acw "is_most") (k8:nK K f8)
 (a9:nA K "rank_of_voice" f9) (l9:nL K f9 "rank_of_voice" "rank_of_voice" Gw ait aiu aiv aiw aix aiy acx aiz aiA) (c9:nC K acx "rank_of_voice") (k9:nK K f9)
 (acy:nA K "is_fixed" Qi) (acz:nL K Qi "is_fixed" "is_fixed" Gp aiB aiC aiD aiE aiF aiG acA aiH aiI) (acB:nC K acA "is_fixed") (acC:nK K Qi)
 (acD:nA K "own_copy" Qj) (acE:nL K Qj "own_copy" "own_copy" Gq aiJ aiK aiL aiM aiN aiO acF aiP aiQ) (acG:nC K acF "own_copy") (acH:nK K Qj)
 (acI:nA K "take_behind" Qk) (Ql:nL K Qk "take_behind" "take_behind" Gr aiR aiS aiT aiU aiV aiW acJ aiX aiY) (Qm:nC K acJ "take_behind") (Qn:nK K Qk)
 (acK:nA K "take_rows" Qo) (Qp:nL K Qo "take_rows" "take_rows" Gu aiZ ai0 ai1 ai2 ai3 ai4 acL ai5 ai6) (Qq:nC K acL "take_rows") (Qr:nK K Qo)
 (acM:nA K "lead_by_voices" Qs) (Qt:nL K Qs "lead_by_voices" "lead_by_voices" Gx ai7 ai8 ai9 aja ajb ajc acN ajd aje) (Qu:nC K acN "lead_by_voices") (Qv:nK K Qs)
 (acO:nA K "others" Qw) (Qx:nL K Qw "others" "others" Gy ajf ajg ajh aji ajj ajk acP ajl ajm) (Qy:nC K acP "others") (Qz:nK K Qw)
 (acQ:nA K "rows_told" QA) (QB:nL K QA "rows_told" "rows_told" GK ajn ajo ajp ajq ajr ajs acR ajt aju) (QC:nC K acR "rows_told") (QD:nK K QA)
 (acS:nA K "hear_stand" QE) (QF:nL K QE "hear_stand" "hear_stand" GO ajv ajw ajx ajy ajz ajA acT ajB ajC) (QG:nC K acT "hear_stand") (QH:nK K QE)
 (acU:nA K "hear_voice" QI) (QJ:nL K QI "hear_voice" "hear_voice" GQ ajD ajE ajF ajG ajH ajI acV ajJ ajK) (QK:nC K acV "hear_voice") (QL:nK K QI)
 (acW:nA K "hear_keep" QM) (QN:nL K QM "hear_keep" "hear_keep" GU ajL ajM ajN ajO ajP ajQ acX ajR ajS) (QO:nC K acX "hear_keep") (QP:nK K QM)
 (acY:nA K "count_done" QQ) (QS:nL K QQ "count_done" "count_done" GF ajT ajU ajV ajW ajX ajY acZ ajZ aj0) (QT:nC K acZ "count_done") (QU:nK K QQ)
 (ac0:nA K "hear_kept" QV) (QW:nL K QV "hear_kept" "hear_kept" GJ aj1 aj2 aj3 aj4 aj5 aj6 ac1 aj7 aj8) (QX:nC K ac1 "hear_kept") (QY:nK K QV)
 (ac2:nA K "_law_heard" QZ) (Q0:nL K QZ "_law_heard" "_law_heard" GW aj9 aka akb akc akd ake ac3 akf akg) (Q1:nC K ac3 "_law_heard") (Q2:nK K QZ)
 (ac4:nA K "_law_carried" Q3) (Q4:nL K Q3 "_law_carried" "_law_carried" GX akh aki akj akk akl akm ac5 akn ako) (Q5:nC K ac5 "_law_carried") (Q6:nK K Q3)
 (ac6:nA K "_law_leader" Q7) (Q8:nL K Q7 "_law_leader" "_law_leader" GY akp akq akr aks akt aku ac7 akv akw) (Q9:nC K ac7 "_law_leader") (Ra:nK K Q7)
 (ac8:nA K "_law_added" Rb) (Rc:nL K Rb "_law_added" "_law_added" G1 akx aky akz akA akB akC ac9 akD akE) (Rf:nC K ac9 "_law_added") (Rg:nK K Rb)
 (ada:nA K "_law_road" Rh) (Ri:nL K Rh "_law_road" "_law_road" G4 akF akG akH akI akJ akK adb akL akM) (Rj:nC K adb "_law_road") (Rk:nK K Rh)
 (ade:nA K "_law_voices" Rl) (Rm:nL K Rl "_law_voices" "_law_voices" G5 akN akO akP akQ akR akS adf akT akU) (Rn:nC K adf "_law_voices") (Ro:nK K Rl)
 (adg:nA K "_law_begins" Rp) (Rq:nL K Rp "_law_begins" "_law_begins" G6 akV akW akX akY akZ ak0 adh ak1 ak2) (Rr:nC K adh "_law_begins") (Rt:nK K Rp)
 (adi:nA K "_law_lawful" Ru) (Rv:nL K Ru "_law_lawful" "_law_lawful" G7 ak3 ak4 ak5 ak6 ak7 ak8 adj ak9 ala) (Rw:nC K adj "_law_lawful") (Rx:nK K Ru)
 (adk:nA K "law" Ry) (adl:nL K Ry "law" "law" vH alb alc adm adn ado adp Rz adq ald) (ads:nC K Rz "law") (adt:nK K Ry)
 (z0:nZ K "len")
 (z1:nZ K "range")
 (z2:nZ K "list")
 (z3:nZ K "tuple")
 (z4:nZ K "int")
 (z5:nZ K "max")
 (z6:nZ K "min")
 (z7:nZ K "all")
 (z8:nZ K "any")
 (z9:nZ K "isinstance")
 (adu:nZ K "str")
 (adv:nZ K "bool")
 (adw:nZ K "dict")
 (adx:nZ K "sorted")
 (ady:nA K "Master" C)
 (aI:kL K (.ref C) "__init__"=some (some (.ref fI))) (iI:rZ K (.ref fI)=true) (lI:nL K fI "__init__" "Master.__init__" Gi ale alf alg alh alj alk adz alm aln) (cI:nC K adz "Master.__init__") (kI:nK K fI)
 (aR:kL K (.ref C) "rise"=some (some (.ref fR))) (iR:rZ K (.ref fR)=true) (lR:nL K fR "rise" "Master.rise" Gz alo alp alq alr als alu adA alv alw) (cR:nC K adA "Master.rise") (kR:nK K fR)
 (aH:kL K (.ref C) "hear"=some (some (.ref fH))) (iH:rZ K (.ref fH)=true) (lH:nL K fH "hear" "Master.hear" GV alx aly alz alA alB alC adB alD alE) (cH:nC K adB "Master.hear") (kH:nK K fH)
 (aS:kL K (.ref C) "send"=some (some (.ref fS))) (iS:rZ K (.ref fS)=true) (lS:nL K fS "send" "Master.send" GZ alF alG alH alI alJ alK adC alL alM) (cS:nC K adC "Master.send") (kS:nK K fS)
 (aA:kL K (.ref C) "add"=some (some (.ref fA))) (iA:rZ K (.ref fA)=true) (lA:nL K fA "add" "Master.add" G0 alN alO alP alQ alR alS adD alT alU) (cA:nC K adD "Master.add") (kA:nK K fA)
 (aF:kL K (.ref C) "fall"=some (some (.ref fF))) (iF:rZ K (.ref fF)=true) (lF:nL K fF "fall" "Master.fall" G3 alV alW alX alY alZ al0 adE al1 al2) (cF:nC K adE "Master.fall") (kF:nK K fF)
 (pg:C6 K C Str.empty=true) (hd:Ju K C=true) (po:RY K C=true) (sa:kL K (.ref C) "__setattr__"=some (some (.builtin "object.__setattr__"))) (mk:W.makesIn K C=true) (kc:nK K C)
 (n0:nF K C "number")
 (n1:nF K C "many")
 (n2:nF K C "term")
 (n3:nF K C "of")
 (n4:nF K C "log")
 (n5:nF K C "done")
 (n6:nF K C "role")
 (n7:nF K C "voices")
 (n8:nF K C "sizes")
 (n9:nF K C "fixed")
 :∃fd:jY,(∀(s:Shared) (v:Value),zB s fd ⟨[v], []⟩ [("_law_script",v)])/\∀base:Heap,K.In base->base.Ns mr mg->b9 l.prog w K mg base cQ 15 fa fd ["_law_script"] (I9 K):=by
 have e:=acm.symm.trans (Dm X G adk);cases e;have T:d7 mg:=⟨mZ X G z0,mZ X G z1,mZ X G z2,mZ X G z3,mZ X G z4,mZ X G z5,mZ X G z6,mZ X G z7,mZ X G z8,mZ X G z9,mZ X G adu,mZ X G adv,mZ X G adw,mZ X G adx⟩
 refine⟨pU "law" "law" (qf vH) (m6 vH) (cP vH) .none adm adn ado adp Rz adq,λs v=> .of_eq rfl,λbase _ _=> ?_⟩;have cls:kT K C:=⟨pg,hd,po,sa⟩
 haveI:fM K C:=⟨cls⟩
 have Hf:=ik (P:=l.prog) (w:=w) (base:=base) X G a0 l0 c0 k0 ((B0 K C).2 (fC l0 c0 k0) T) λ_ _ _ _ _ _ us hl=>match us,hl with | [_,_],_=>rfl
 have B2:=ik (P:=l.prog) (w:=w) (base:=base) X G a1 l1 c1 k1 ((Hc K C).2 (fC l1 c1 k1) T) λ_ _ _ _ _ _ us hl=>match us,hl with | [_,_],_=>rfl
 have B5:=ik (P:=l.prog) (w:=w) (base:=base) X G a2 l2 c2 k2 ((He K C).2 (fC l2 c2 k2) T B2) λ_ _ _ _ _ _ us hl=>match us,hl with | [_,_],_=>rfl
 have vL:=ik (P:=l.prog) (w:=w) (base:=base) X G a3 l3 c3 k3 ((B4 K C).2 (fC l3 c3 k3) T Hf B5) λ_ _ _ _ _ _ us hl=>match us,hl with | [_,_],_=>rfl
 have jf:=ik (P:=l.prog) (w:=w) (base:=base) X G a4 l4 c4 k4 ((yX K C).2 (fC l4 c4 k4) T) λ_ _ _ _ _ _ us hl=>match us,hl with | [_,_],_=>rfl
 have F:=fC lI cI kI;have b:=F.binds (ps:= ["self","number","many"]) λ_ _ _ _ _ _ us hl=>match us,hl with | [_,_,_],_=>rfl
 have Hi:Fy l.prog w K mg base "Master" C ["self","number","many"] 1 (cq K (true::gL 2 false) (rK K C)):=⟨cls,fI,_,(Hg K C).2 F T,b,⟨mk,aI,iI,kc⟩,Dm X G ady⟩
 have IY:=ik (P:=l.prog) (w:=w) (base:=base) X G a5 l5 c5 k5 ((Hh K C).2 (fC l5 c5 k5) T vL jf Hi) λ_ _ _ _ _ _ us hl=>match us,hl with | [_],_=>rfl
 have oA:=ik (P:=l.prog) (w:=w) (base:=base) X G a6 l6 c6 k6 ((Hj K C).2 (fC l6 c6 k6) T) λ_ _ _ _ _ _ us hl=>match us,hl with | [_,_,_,_,_],_=>rfl
 have Hy:=ik (P:=l.prog) (w:=w) (base:=base) X G a7 l7 c7 k7 ((Hl K C).2 (fC l7 c7 k7) T) λ_ _ _ _ _ _ us hl=>match us,hl with | [_],_=>rfl
 have vO:=ik (P:=l.prog) (w:=w) (base:=base) X G a8 l8 c8 k8 ((Hr K C).2 (fC l8 c8 k8) T) λ_ _ _ _ _ _ us hl=>match us,hl with | [_,_],_=>rfl
 have Hu:=ik (P:=l.prog) (w:=w) (base:=base) X G a9 l9 c9 k9 ((Ht K C).2 (fC l9 c9 k9) T) λ_ _ _ _ _ _ us hl=>match us,hl with | [_],_=>rfl
 have F:=fC acz acB acC;have b:=F.binds (ps:= ["value"]) λ_ _ _ _ _ _ us hl=>match us,hl with | [_],_=>rfl
 have m:=Dm X G acy;have yZ:eP l.prog w K mg base "is_fixed" ["value"] 4 (eF K 1 (B9 K C)):=eP.of F b m (Oj (Cm:=C) F T b m  3);have F:=fC acE acG acH;have b:=F.binds (ps:= ["value"]) λ_ _ _ _ _ _ us hl=>match us,hl with | [_],_=>rfl
 have m:=Dm X G acD;have oz:eP l.prog w K mg base "own_copy" ["value"] 4 (eF K 1 (Cc K C)):=eP.of F b m (Om (Cm:=C) F T b m  3);have vM:=ik (P:=l.prog) (w:=w) (base:=base) X G acI Ql Qm Qn ((Ho K C).2 (fC Ql Qm Qn) T yZ oz) λ_ _ _ _ _ _ us hl=>match us,hl with | [_,_],_=>rfl
 have vP:=ik (P:=l.prog) (w:=w) (base:=base) X G acK Qp Qq Qr ((Cd K C).2 (fC Qp Qq Qr) T vM) λ_ _ _ _ _ _ us hl=>match us,hl with | [_,_],_=>rfl
 have vQ:=ik (P:=l.prog) (w:=w) (base:=base) X G acM Qt Qu Qv ((Cf K C).2 (fC Qt Qu Qv) T vO Hu vP) λ_ _ _ _ _ _ us hl=>match us,hl with | [_],_=>rfl
 have qE:=ik (P:=l.prog) (w:=w) (base:=base) X G acO Qx Qy Qz ((Hv K C).2 (fC Qx Qy Qz) T) λ_ _ _ _ _ _ us hl=>match us,hl with | [_],_=>rfl
 have F:=fC lR cR kR;have b:=F.binds (ps:= ["self"]) λ_ _ _ _ _ _ us hl=>match us,hl with | [_],_=>rfl
 have HQ:ny l.prog w K mg base C "rise" ["self"] 9 (cq K [true] (y0 K C)):=⟨cls,fR,_,(Hx K C).2 F T Hy vQ qE,b,⟨aR,iR,kR⟩⟩
 have vS:=ik (P:=l.prog) (w:=w) (base:=base) X G acQ QB QC QD ((HB K C).2 (fC QB QC QD) T oz) λ_ _ _ _ _ _ us hl=>match us,hl with | [_],_=>rfl
 have HD:=ik (P:=l.prog) (w:=w) (base:=base) X G acS QF QG QH ((Cj K C).2 (fC QF QG QH) T vS) λ_ _ _ _ _ _ us hl=>match us,hl with | [_,_,_],_=>rfl
 have HE:=ik (P:=l.prog) (w:=w) (base:=base) X G acU QJ QK QL ((y8 K C).2 (fC QJ QK QL) T oz vQ) λ_ _ _ _ _ _ us hl=>match us,hl with | [_,_,_,_,_],_=>rfl
 have HF:=ik (P:=l.prog) (w:=w) (base:=base) X G acW QN QO QP ((za K C).2 (fC QN QO QP) T vP) λ_ _ _ _ _ _ us hl=>match us,hl with | [_,_,_,_,_],_=>rfl
 have vR:=ik (P:=l.prog) (w:=w) (base:=base) X G acY QS QT QU ((Hz K C).2 (fC QS QT QU) T qE vO) λ_ _ _ _ _ _ us hl=>match us,hl with | [_],_=>rfl
 have HG:=ik (P:=l.prog) (w:=w) (base:=base) X G ac0 QW QX QY ((y6 K C).2 (fC QW QX QY) T vR) λ_ _ _ _ _ _ us hl=>match us,hl with | [_,_,_,_],_=>rfl
 have F:=fC lH cH kH;have b:=F.binds (ps:= ["self","message"]) λ_ _ _ _ _ _ us hl=>match us,hl with | [_,_],_=>rfl
 have HI:ny l.prog w K mg base C "hear" ["self","message"] 10 (cq K [true,false] (rL K C)):=⟨cls,fH,_,(vT K C).2 F T HD HE HF HG,b,⟨aH,iH,kH⟩⟩
 have vV:=ik (P:=l.prog) (w:=w) (base:=base) X G ac2 Q0 Q1 Q2 ((HH K C).2 (fC Q0 Q1 Q2) T oA HI) λ_ _ _ _ _ _ us hl=>match us,hl with | [_,_,_],_=>rfl
 have ze:=ik (P:=l.prog) (w:=w) (base:=base) X G ac4 Q4 Q5 Q6 ((HJ K C).2 (fC Q4 Q5 Q6) T jf vV) λ_ _ _ _ _ _ us hl=>match us,hl with | [_,_,_,_],_=>rfl
 have vX:=ik (P:=l.prog) (w:=w) (base:=base) X G ac6 Q8 Q9 Ra ((HK K C).2 (fC Q8 Q9 Ra) T jf) λ_ _ _ _ _ _ us hl=>match us,hl with | [_,_],_=>rfl
 have F:=fC lS cS kS;have b:=F.binds (ps:= ["self"]) λ_ _ _ _ _ _ us hl=>match us,hl with | [_],_=>rfl
 have vW:ny l.prog w K mg base C "send" ["self"] 6 (eF K 1 (rM K C)):=⟨cls,fS,_,(Cp K C).2 F T qE vS,b,⟨aS,iS,kS⟩⟩
 have F:=fC lA cA kA;have b:=F.binds (ps:= ["self","row"]) λ_ _ _ _ _ _ us hl=>match us,hl with | [_,_],_=>rfl
 have HM:ny l.prog w K mg base C "add" ["self","row"] 7 (cq K [true,false] (qF K C)):=⟨cls,fA,_,(Cq K C).2 F T vM vR vW,b,⟨aA,iA,kA⟩⟩
 have HR:=ik (P:=l.prog) (w:=w) (base:=base) X G ac8 Rc Rf Rg ((HL K C).2 (fC Rc Rf Rg) T vX jf oA HM) λ_ _ _ _ _ _ us hl=>match us,hl with | [_,_],_=>rfl
 have F:=fC lF cF kF;have b:=F.binds (ps:= ["self"]) λ_ _ _ _ _ _ us hl=>match us,hl with | [_],_=>rfl
 have HS:ny l.prog w K mg base C "fall" ["self"] 1 (cq K [true] (zd K C)):=⟨cls,fF,_,(HN K C).2 F T,b,⟨aF,iF,kF⟩⟩
 have IZ:=ik (P:=l.prog) (w:=w) (base:=base) X G ada Ri Rj Rk ((HP K C).2 (fC Ri Rj Rk) T jf oA HQ ze HR HS vX vW vV) λ_ _ _ _ _ _ us hl=>match us,hl with | [_,_],_=>rfl
 have HX:=ik (P:=l.prog) (w:=w) (base:=base) X G ade Rm Rn Ro ((HU K C).2 (fC Rm Rn Ro) T) λ_ _ _ _ _ _ us hl=>match us,hl with | [_],_=>rfl
 have HY:=ik (P:=l.prog) (w:=w) (base:=base) X G adg Rq Rr Rt ((HV K C).2 (fC Rq Rr Rt) T) λ_ _ _ _ _ _ us hl=>match us,hl with | [_,_],_=>rfl
 have I0:=ik (P:=l.prog) (w:=w) (base:=base) X G adi Rv Rw Rx ((HW K C).2 (fC Rv Rw Rx) T HX HY) λ_ _ _ _ _ _ us hl=>match us,hl with | [_,_,_],_=>rfl
 have hn:∀f∈dB,iT K C f:=by
  intro f hf;simp only[dB,gK,wZ,or_false]at hf;rcases hf with rfl | rfl | rfl | rfl | rfl | rfl | rfl | rfl | rfl | rfl
  all_goals assumption
 exact((IX K C).2 (fC adl ads adt) T IY IZ vL I0).imp λvs H Q E h=>by
  obtain⟨a,ns,rfl,hF,hl,qq⟩:=h;exact⟨[gQ ns],tD true,rfl,ack hF,acg ns hl hn,λv H' _ o=>by
   have e:v= .bl true:=(eI.vw o).cg;subst e;exact qq H'⟩
theorem walk{l:W.OpenLaw}{q:Program}{loose:List Str}{XP:(Str->Option Value)->Heap->Prop}{YP:World->Heap->Prop}{d:DefRec}{K:Params->ah}(hn:l.most=some 63)(xx:d.params.defaults= [])
  (hY:∀(w:World) (h:Heap),YP w h->(K w.params).In h)
  (F:∀(w:World) (mg:Str->Option Value) (fa:Addr) (h:Heap),(K w.params).In h->h.Ns mr mg->mg d.name=some (.ref fa)->
   ∃fd:jY,(∀(s:Shared) (u:Value),zB s fd ⟨[u], []⟩ [("_law_script",u)])/\∀base:Heap,(K w.params).In base->base.Ns mr mg->b9 l.prog w (K w.params) mg base cQ 15 fa fd ["_law_script"] (I9 (K w.params))):
  W.WalkO q loose XP YP l.row.toRowW d [] (λf vs=>Sd f vs):=
 L2.Vm (n:=63) (k:=15) (x:="_law_script") (CX:=λ_=>cQ) (sp:=λw=>I9 (K w.params)) hn (by decide) xx ⟨rfl,by decide,by decide,rfl⟩ hY F (λ_ _ a ns hl hO hS=>⟨a,ns,rfl,acj hO hS,hl,λ_=>rfl⟩) λ_ _ _ _ _ z=>z
end K85
namespace PySem.W.Fast
def tw620354693686619136:=()
def tw6505362059444079872:=()
def tw12029834148246062400:=()
def tw17435258563669215776:=()
def tw16370578148974874496:=()
def tw4690141735833402465:=()
def tw17448677817936839937:=()
def tw10342410571581241665:=()
def tw18197953799156080033:=()
def tw16058536235069350337:=()
def tw16679948286878704097:=()
def tw17520595924230995457:=()
def tw18356671502269069089:=()
def tw8107326145276435586:=()
def tw18312108674247382274:=()
def tw15196016706740977186:=()
def tw17370931338062676578:=()
def tw17980706937319701090:=()
def tw1186315419093323618:=()
def tw14478884525931389027:=()
def tw20532232161859011:=()
def tw8820825775523589603:=()
def tw16397523212280847907:=()
def tw4543556352093611715:=()
def tw6013039015964422947:=()
def tw9971192954845947875:=()
def tw10442016952460357636:=()
def tw266895575345038340:=()
def tw7718705115522019364:=()
def tw7757144897652847684:=()
def tw3976510175791027652:=()
def tw5033123593554650596:=()
def tw10971263158370103876:=()
def tw6213338986622700196:=()
def tw7865705590335609508:=()
def tw12333485899433792292:=()
def tw14759996278894271332:=()
def tw17564094881943931333:=()
def tw11095278562836700645:=()
def tw410026391035163173:=()
def tw6658423406452170373:=()
def tw15966838526428990566:=()
def tw16787157911436853382:=()
def tw2856834881121686726:=()
def tw9049836318370323654:=()
def tw9900526664201826630:=()
def tw10227100356018376134:=()
def tw13886294931002856966:=()
def tw13739112958131336710:=()
def tw17633765325034026598:=()
def tw5743619141287894630:=()
def tw13434197637260870278:=()
def tw12713808250645938886:=()
def tw17358890744102077190:=()
def tw4221069620176732966:=()
def tw15451373330928548710:=()
def tw469672389703930854:=()
def tw13385416301440565222:=()
def tw13178776366897941511:=()
def tw8612449651305370791:=()
def tw4577586055743999239:=()
def tw9345313875451497863:=()
def tw6846706768077325767:=()
def tw12518967984727458343:=()
def tw2887605155281880711:=()
def tw7498886948141699751:=()
def tw15279867464067832775:=()
def tw14599381932825819111:=()
def tw16534152156563957832:=()
def tw14532455755594504328:=()
def tw1261094175944674568:=()
def tw7028849697801814376:=()
def tw1421358622805547400:=()
def tw13014272168025398664:=()
def tw11883321733403828616:=()
def tw10741662949927693736:=()
def tw17514028643848882792:=()
def tw1757613143158651720:=()
def tw899878344714643465:=()
def tw4647870973301302409:=()
def tw12519264605558301833:=()
def tw5570815017721921769:=()
def tw13408452096754101641:=()
def tw17528668338751864553:=()
def tw6288704031027900650:=()
def tw14477267316297327018:=()
def tw5252569056886601578:=()
def tw10822132221239479563:=()
def tw6256007220311933227:=()
def tw10290397116914729323:=()
def tw2984509540311085419:=()
def tw13822154468861228395:=()
def tw7610401564220615339:=()
def tw5841902314278850251:=()
def tw4589431332328555339:=()
def tw7653883585447132011:=()
def tw11711485090436555723:=()
def tw14773059826931886059:=()
def tw13506363751962307820:=()
def tw13132151587385230764:=()
def tw3886836287467665868:=()
def tw8428907913307924940:=()
def tw18446742395212756588:=()
def tw15577294474539745932:=()
def tw15957913209158869868:=()
def tw11670539400857897932:=()
def tw9968493019257785421:=()
def tw12740676505006896301:=()
def tw10293212504942438669:=()
def tw1255819869304211885:=()
def tw10922454393801117197:=()
def tw13006790262132493037:=()
def tw198061443741417229:=()
def tw11426325447244903534:=()
def tw17776468543627166894:=()
def tw8417512781171450126:=()
def tw6299853898168661518:=()
def tw1545413711456123438:=()
def tw11531705245090696814:=()
def tw3320064987319769806:=()
def tw14785506546921439982:=()
def tw13014962951207633646:=()
def tw17072179891055314766:=()
def tw9629468202715684975:=()
def tw9653423765802571887:=()
def tw10122414190153145551:=()
def tw12926337878545493359:=()
def tw294982343376969199:=()
def tw16930235782517805679:=()
def tw8863730604159481455:=()
def tw15268249069263603471:=()
def tw11371953772930706191:=()
def tw14339801552469726031:=()
def tw2589110863569278863:=()
def tw13845238174297581616:=()
def tw6423732468252363920:=()
def tw17078329072615496848:=()
def tw1154698249243879056:=()
def tw13429871652969829040:=()
def tw14492682022775077648:=()
def tw14618927018802380720:=()
def tw18344553399404269713:=()
def tw16614818602665413873:=()
def tw16485703744574901745:=()
def tw5865344044059819537:=()
def tw364308593640672017:=()
def tw9476529943106206609:=()
def tw6550561187519881137:=()
def tw5227356588071954450:=()
def tw4859011042703044626:=()
def tw8215408375321367730:=()
def tw8755336566483207378:=()
def tw17105277862642743506:=()
def tw11253197252410161394:=()
def tw1667206928661045714:=()
def tw8403853902379707890:=()
def tw2391507329620854290:=()
def tw4967430628072564306:=()
def tw2552993387930004146:=()
def tw2300464871786308434:=()
def tw15785176901460529042:=()
def tw6499219622949092338:=()
def tw11190292369435312147:=()
def tw3708770945129782419:=()
def tw9191825915988207859:=()
def tw15773422977057674579:=()
def tw16897352551990362483:=()
def tw13968759200053629459:=()
def tw7782630372449955507:=()
def tw12763314763387826899:=()
def tw3380640132368573171:=()
def tw13813892743387022067:=()
def tw11116118066336083220:=()
def tw12123563644955497876:=()
def tw8811827514023251444:=()
def tw5969191523345645204:=()
def tw1483381881213331252:=()
def tw8780921201514069876:=()
def tw7412726836729455604:=()
def tw16181527301281392789:=()
def tw10758532103818901653:=()
def tw16598762847097894165:=()
def tw5711904126553169205:=()
def tw17182428709847945621:=()
def tw2472109744066114997:=()
def tw8257662743661416917:=()
def tw16988572328903670261:=()
def tw16766781006111010421:=()
def tw9268929562121279317:=()
def tw12523675606314710997:=()
def tw1353071748491212886:=()
def tw10414249092329231446:=()
def tw1030100609584009526:=()
def tw5222642590851245718:=()
def tw12993791924594579126:=()
def tw7417250956756094870:=()
def tw10332744915497966871:=()
def tw10005529481301367:=()
def tw12179629436703110583:=()
def tw6507171737135375831:=()
def tw6137627754046356087:=()
def tw950772295396904599:=()
def tw13290742864491730807:=()
def tw13811498983270852632:=()
def tw729977798147074104:=()
def tw16798710688620527768:=()
def tw9879073120818831608:=()
def tw10279412285584039224:=()
def tw11842002051229913464:=()
def tw12541855094319534488:=()
def tw15701329228927694328:=()
def tw7657504446793006776:=()
def tw12581789896817248024:=()
def tw17829679662547939192:=()
def tw2435730060420594616:=()
def tw16381932042424722424:=()
def tw7640362729539436569:=()
def tw2821412541207990361:=()
def tw12738559673362858137:=()
def tw4322302858784802073:=()
def tw8539966544467637561:=()
def tw4736350512146185721:=()
def tw11321085220824965657:=()
def tw16939412207049980505:=()
def tw12122445868140582489:=()
def tw11221545615387833594:=()
def tw11566948920963161338:=()
def tw1856102367896353146:=()
def tw10345826026014730810:=()
def tw16890774193090015162:=()
def tw1639474983635299355:=()
def tw12799745286835154075:=()
def tw11542269544763119867:=()
def tw11645319478461494587:=()
def tw8822162439243640219:=()
def tw6278966933130345083:=()
def tw16708028478542588635:=()
def tw16796821607699625723:=()
def tw10922202042856572795:=()
def tw8174622347851954332:=()
def tw8490172454826802332:=()
def tw9018833563365130684:=()
def tw13658843340699083324:=()
def tw13948615188258317084:=()
def tw5265878880016503869:=()
def tw830395718248112221:=()
def tw14766333712240392349:=()
def tw14979114939766772925:=()
def tw2195247107075235005:=()
def tw10169868026578814205:=()
def tw7529757398272649533:=()
def tw7992883631113673181:=()
def tw15426328077761936957:=()
def tw18148685151728031357:=()
def tw15594646170746809021:=()
def tw5450927115368778621:=()
def tw3348144024029532061:=()
def tw17785979438338293725:=()
def tw15222325691173145662:=()
def tw16328157046506868798:=()
def tw8080930293756040286:=()
def tw13554294525405375614:=()
def tw15235038857229475070:=()
def tw2453764649179737342:=()
def tw3228168452704754206:=()
def tw15405721978759769726:=()
def tw16982960580060268190:=()
def tw3864401007086470046:=()
def tw240891810742686783:=()
def tw9430544887856846975:=()
def tw16626663307413739679:=()
def tw16281684682492005599:=()
def tw4429502919131398431:=()
def tw17572052579053313343:=()
def tw12893078662623645055:=()
def tw3699662966788368895:=()
def tw13552328555388823039:=()
def tw14904287901025962527:=()
def tw9749207338932095551:=()
def tw14210659875161167679:=()
def tw7307793612381240287:=()
def tw1108924139182510370:=()
end PySem.W.Fast
end
open PySem PySem.W PyProof.Rows
set_option maxRecDepth 100000 in
set_option maxHeartbeats 0 in
theorem PySem.Challenge.cw_farshelf_k85_whole_one_leads_a_term_holds : PySem.Challenge.rw_farshelf_k85_whole_one_leads_a_term.Holds := by
  w_on; o_law; k_head; (case hw => w_witness2)
  k_fill
  refine K85.walk (l := PySem.Challenge.rw_farshelf_k85_whole_one_leads_a_term) rfl rfl (fun w h Y => W.kIn_of Y) ?F
  case F =>
    intro w mg fa h KX G hmg
    refine' K85.all_mk KX G hmg _ _ _ _ _ _ _ _ _ _ _ _ _ _ _ _ _ _ _ _ _ _ _ _ _ _ _ _ _ _ _ _ _ _ _ _ _ _ _ _ _ _ _ _ _ _ _ _ _ _ _ _ _ _ _ _ _ _ _ _ _ _ _ _ _ _ _ _ _ _ _ _ _ _ _ _ _ _ _ _ _ _ _ _ _ _ _ _ _ _ _ _ _ _ _ _ _ _ _ _ _ _ _ _ _ _ _ _ _ _ _ _ _ _ _ _ _ _ _ _ _ _ _ _ _ _ _ _ _ _ _ _ _ _ _ _ _ _ _ _ _ _ _ _ _ _ _ _ _ _ _ _ _ _ _ _ _ _ _ _ _ _ _ _ _ _ _ _ _ _ _ _ _ _ _ _ _ _ _ _ _ _ _ _ _
    any_goals (first | k_is | (unfold K85.nA; k_is) | (unfold K85.nL; k_is) | (unfold K85.nC; k_is) | (unfold K85.nK; k_is) | (unfold K85.nZ; k_is) | (unfold K85.nF; k_is))

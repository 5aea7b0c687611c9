import PyProof.Rows.All
import Wide.All
import OpenK.AllK
import Wide.FinOn
import Lean
import PyProof.EqAt
import PyProof.EqKinds
import PyProof.TupleCall
import PyProof.WalksEnum
import PyProof.EnumMake
import PyProof.Rows.EnumRows
import PyProof.NeData
import PyProof.ReprRoads
import PyProof.SumWalkG
import PyProof.StrLawsTight
import PyProof.Rows.StrNews
import PyProof.Rows.StrJoin2
import PyProof.Rows.CatFin
import PyProof.ConsumeWalk
import PyProof.StrWalks
import KE.KItemsList
import KE.KSortTup
import PyProof.ZipIter
import PyProof.ListRange
import PyProof.Rows.SeqMore
import KE.KDictLaws
import KE.KPairComp
import PyProof.Rows.SortStr
import KE.KLam
import KE.KEqDict
import PySem.Challenge.RW_farshelf_k26_voices
open Array renaming length_toList->xc,append_empty->Wa,append_assoc->awG,getElem?_toList->VR,getElem?_eq_none->awN,toList_append->awR,getElem?_append_left->awS
open Bool renaming false_ne_true->df,and_eq_true->kM,eq_iff_iff->VZ,not_eq_true->awJ
open False renaming elim->pj
open ForInStep renaming yield->zq
open Function renaming comp_def->awX
open Int renaming emod_nonneg->l6,emod_lt_of_pos->nW,zero_add->aty
open List renaming getElem?_append_left->aU,getElem?_append_right->br,length_set->bN,length_append->dg,map_append->cK,append_assoc->b8,getElem?_map->bJ,getElem?_eq_some_iff->cX,map_cons->cP,length_map->eG,append_nil->eK,size_toArray->fM,mem_cons->bL,getElem?_set_ne->gq,length_cons->c8,getElem?_set_self->gK,mem_singleton->eS,mem_append_right->kg,getElem?_eq_getElem->dH,replicate->ki,map_nil->jQ,range->kf,mem_cons_of_mem->nQ,mem_of_getElem?->jr,lookup_cons->nR,mem_cons_self->xb,zip_cons_cons->nV,mem_map->gY,nodup_cons->jP,append_cons->sM,mem_append->lZ,lookup->uN,set_append_left->uT,drop_eq_getElem_cons->Cr,length_singleton->pw,getD->Cn,not_mem_nil->dh,filter_eq_self->uV,length_replicate->zl,any_cons->uR,all_eq_true->gA,eq_nil_of_length_eq_zero->sN,mem_range->sH,find?_cons->Cj,pairwise_cons->FQ,nodup_nil->aow,length_range->aoy,length_take->Ce,set_set->NW,length_zip->pz,mem_filter->Cc,mem_append_left->arx,of_mem_zip->NJ,length_drop->aik,drop_length->FR,drop_zero->V7,take_length->aiF,map_map->mJ,filterMap_cons->zk,getElem?_replicate->NK,getElem?_take_of_lt->VE,length_nil->uS,forIn_cons->FO,cons_append->zr,drop_of_length_le->atx,length_filter_le->VT,map_id->atA,pairwise_singleton->N4,mem_filterMap->Vy,forIn_nil->NO,mem_iff_getElem->ait,getElem_mem->Co,getElem?_eq_none_iff->awI,take_append_drop->aiD,getElem?_range->V6,mem_of_mem_drop->awL,mem_of_mem_take->awM,any_eq_true->zt,map_congr_left->Cs,set_append_right->Wb,nil_append->Wk,take_of_length_le->awW,foldl_cons->awY
open Nat renaming le_refl->bO,le_trans->b7,lt_of_lt_of_le->dI,zero_le->jO,ne_of_lt->dR,lt_irrefl->mI,sub_self->kj,le_of_lt->nO,lt_or_ge->NV,ne_of_gt->pk,lt_succ_self->FN,lt_of_le_of_lt->zp,lt_succ_of_lt->Ck,succ_pos->V3,add_sub_cancel_left->NX,le_of_eq->VA,succ_lt_succ->V4,add_sub_cancel->Cq,sub_zero->atw,min_le_right->awH,le_add_right->sJ,min_eq_left->awU,min_eq_right->awV,succ_le_succ->aiJ
open Nat.succ renaming inj->eF
open Ne renaming symm->fw
open Option renaming bind_eq_some_iff->ak,map_eq_some_iff->aY,map->aX,bind_some->ax,map_some->jt,isSome_iff_exists->VD,getD_none->ain,isSome_some->aip,isSome_map->VU,map_eq_none_iff->awK
open Option.some renaming inj->hV,injEq->aiH
open Or renaming inl->apC
open Prod renaming fst->VY
open PyProof.Rows renaming boot_isinstance->uY,AllBare->wO,boot_max->Nx,slot_tuple_getitem->uQ,boot_tuple->aox,IntsAre->B6,boot_list->uX,callWith_type1->Ny,boot_min->atz,entry_tuple_getitem->Vd,subscriptTail_builtinR->aib,boot_all->qV,boot_int->Cu,boot_dict->awT
open PyProof.Rows.IsTup renaming new->Nw
open PySem renaming sizeLine->aM,wpAny_bind->az,starEach->dz,wpAny_pure->bF,NameKind->dQ,Spec->ie,FuncData->kK,mainGlobals->jN,wpAny_mono->ja,codeAny->qQ,cellsFrom->nN,sizeLine_eq->mG,wpAny_holding->uL,sysModules->qO,wpAny_truthy_bool->uK,assignEach->wR,pushCells->wY,wpAny_tryCatch->L3,wpAny_letGo->Vs,plainId_quiet->Vo,mem_of_lookup->xh,swapsWith->wQ,BindsTo->B4,wpAny_Call_Name_kw->FJ,backToKw->B7,keywordEach->B8,wpAny_loadPart'->abz,wpAny_newObj_type->qP,sliceBounds->zf,callerA->zg,valueAt->wX,tupleKind->B1,codeAmong->aot,bootBuiltins->B2,standAt->FH,behindInMarks->B3,codeAny_mono->B5,notedBy->B9,updateSeq->aou,wpAny_updateSeq->aov,wpAny_passesOwn->zd,wpAny_call->apz,wpAny_pyIter_list->Vk,builtinsNs->Nk,letOwnedTupleGo->Nm,bindArgs->art,tupleKind_room_in1->FK,closureFor->aru,pushCells_keeps->Nq,wpAny_getItem_str_slice->Nr,post_val_or_str->Nt,richCompare->arv,codeAny_builtin->Ca,seqItems?->arw,wpAny_seqItems->wZ,wpAny_eqBool_int->atr,wpAny_execs_nil->Nl,wpAny_standAt->U8,foldedSetIterable->ats,wpAny_field->kL,wpAny_typeOf->Np,seqIndex_of->Vg,seqIndex_neg->Vh,call_meetsIn->FL,newFunctionEnv->Vj,Within->Vv,call->VS,wpAny_pyNext_list_end->awD,wpAny_newFunctionEnv_cells->awE,wpAny_callSpecial?_slot->ze,wpAny_Call_method0_late->Vi,wpAny_comprehension_free->awF,KeyKind->aie,evalArgs_none->VO
open PySem.Around renaming under->NG,under_plainId->Cp
open PySem.Builtin.Builtins renaming bindParams->arB
open PySem.Builtin.Slice renaming slicePlaces->zm,sliceAdjust->atv,sliceApplied->VI
open PySem.Builtin.Str renaming occurrences->Nz
open PySem.Builtin.Tuple renaming tupleExact->Cg,tupleItemsOf->VJ
open PySem.Calls renaming callWith_builtin->Ci,spliced_cons->NH,Name_function_global->aii,spliced_nil->VC,evalArgs_plain->VP
open PySem.Code renaming isFrame->VB
open PySem.F renaming plain_max_loop->se,entry_max_loop->arA,slot_dict_get->VW,slot_tuple_add->VF,entry_tuple_add->VG,args_tuple_add_2->VH,entry_dict_get->air,args_dict_get_3->ais,plainAttrs_dict->NL,slot_dict_values->aiG,kind_max->awO,plain_max->awP,entry_max->awQ,plainAttrs_list->Wd
open PySem.Heap renaming lt_size->cW,get?_push_of_some->cB,get?_push_size->gc,size_push->p9,get?_update_other->VN,get?_update_self->aim,SameBut->Cd
open PySem.NameKind renaming cell->jR,free->qb
open PySem.Obj renaming mapSeq->zo
open PySem.Paired renaming length->Nv
open PySem.PassesOwn renaming never->sQ
open PySem.PyData renaming eqv->d9,strOk->oe,canLay0->sO,depth->sP,eqvAll->zu,canLayAll0->V8,depthAll->V9
open PySem.SeqAt.EqAt renaming int_str->aif,str_int->aih
open PySem.Str renaming ofString->ae
open PySem.Txt renaming slice->xj,slice_le->NP
open PySem.Value renaming ref->c7,type->w9,bool->zj,int->w6,str->zi,none->jb,float->Vu,isStrOf->aid
open PySem.W renaming Frag->ah,findIn->p7,mg_none_of->lA,kia_one->qS,fnOf->qT,kia_tup->qU,emptyDict->uM,keepIn->uO,CodeHd->wV,instObj->xa,kitOne->xg,mg_of->qW,codeIn->Cf,plainGet->NB,isFn->apB,kla_obj->apE,nsIn->uW,lookIn->ary,hasDictIn->NC,kitx_list->ND,kitx_dict->NF,callWith_K->arz,tabIn->arC,methodObj->Vx,plainGet_of->att,plainOver->Vz,cellsFrom_some->atu
open PySem.Walks renaming list->apD
open Sum renaming inl->zh,inr->cN
open Sum.inl renaming inj->apA
open True renaming intro->kh
set_option Elab.async false
set_option genSizeOf false
set_option compiler.extract_closed false
set_option linter.all false
set_option maxRecDepth 100000
noncomputable section
theorem aiR{p:Prop}[Decidable p](h:decide p=false:=by decide +kernel):p=False:=eq_false (of_decide_eq_false h)
namespace L2
open PySem PySem.Spec PyProof.Rows
noncomputable abbrev bc:=Sum Int Str
noncomputable def sR:bc->Value->Bool
 |.inl k,v=>Value.isInt k v
 |.inr x,v=>aid x v
noncomputable def Wl (w:World):bc->Int
 |.inl k=>hashInt k
 |.inr x=>hashStr w x
theorem mK:∀{k:bc} {v:Value},sR k v=true->(∃i t,k=zh i/\v=w6 i t)\/(∃x t,k=cN x/\v=zi x t)
 |.inl i,v,h=>by
  obtain⟨t,e⟩:=Value.isInt_shape (k:=i) (v:=v) h;exact .inl ⟨i,t,rfl,e⟩
 |.inr x,v,h=>by
  obtain⟨t,e⟩:=Value.isStrOf_shape (x:=x) (v:=v) h;exact .inr ⟨x,t,rfl,e⟩
theorem Wm(i:Int)(t:Tok):sR (.inl i) (.int i t)=true:=by simp[sR,Value.isInt]
theorem Wn(x:Str)(t:Tok):sR (.inr x) (.str x t)=true:=by simp[sR,aid]
theorem N5(a b:Int):decide ((zh a:bc)=zh b)=(a == b):=by
 by_cases e:a=b
 ·subst e;simp
 ·have h:¬ (zh a:bc)=zh b:=λq=>e (apA q);rw[decide_eq_false h];exact(beq_eq_false_iff_ne.mpr e).symm
theorem N6(a b:Str):decide ((cN a:bc)=cN b)=decide (a=b):=by
 by_cases e:a=b
 ·subst e;simp
 ·have h:¬ (cN a:bc)=cN b:=λq=>e (cN.inj q);rw[decide_eq_false h,decide_eq_false e]
theorem Wo(a:Int)(b:Str):decide ((zh a:bc)=cN b)=false:=decide_eq_false (λq=>nomatch q)
theorem Wq(a:Str)(b:Int):decide ((cN a:bc)=zh b)=false:=decide_eq_false (λq=>nomatch q)
def gL(prog:Program)(w:World):aie prog w bc where
 is:=sR
 hash:=Wl w
 inj:=λv a b ha hb=>by
  rcases mK ha with⟨i,t,rfl,rfl⟩ | ⟨x,t,rfl,rfl⟩
  ·rcases mK hb with⟨j,u,rfl,e⟩ | ⟨y,u,rfl,e⟩
   ·injection e with e1 _;rw[e1]
   ·exact nomatch e
  ·rcases mK hb with⟨j,u,rfl,e⟩ | ⟨y,u,rfl,e⟩
   ·exact nomatch e
   ·injection e with e1 _;rw[e1]
 byValue:=λk v h=>by
  rcases mK h with⟨i,t,rfl,rfl⟩ | ⟨x,t,rfl,rfl⟩ <;> rfl
 pyHash:=λhv h=>by
  rcases mK hv with⟨i,t,rfl,rfl⟩ | ⟨x,t,rfl,rfl⟩
  ·exact wpAny_pyHash_int h
  ·exact wpAny_pyHash_str h
 eqBool:=λhu hv h=>by
  rcases mK hu with⟨i,t,rfl,rfl⟩ | ⟨x,t,rfl,rfl⟩
  ·rcases mK hv with⟨j,u,rfl,rfl⟩ | ⟨y,u,rfl,rfl⟩
   ·rw[N5]at h;exact atr h
   ·rw[Wo]at h;exact aif i t y u _ _ _ _ h
  ·rcases mK hv with⟨j,u,rfl,rfl⟩ | ⟨y,u,rfl,rfl⟩
   ·rw[Wq]at h;exact aih x t j u _ _ _ _ h
   ·rw[N6]at h;exact wpAny_eqBool_str h
 «strs»:=λk x t v h=>by
  rcases mK h with⟨i,u,rfl,e⟩ | ⟨y,u,rfl,e⟩
  ·exact nomatch e
  ·injection e with e1 _
   subst e1;cases v <;> rfl
theorem FU(prog:Program)(w:World)(i:Int)(t:Tok):(gL prog w).is (.inl i) (.int i t)=true:=Wm i t
theorem FV(prog:Program)(w:World)(x:Str)(t:Tok):(gL prog w).is (.inr x) (.str x t)=true:=Wn x t
inductive V where
 |aG | bl (b:Bool) | int (i:Int) | str (x:Str) | uZ (b:Array UInt8) | kl (b:UInt64) | ref (a:Addr) | ty (n:String)
 deriving DecidableEq
def RelV:V->Value->Prop
 |.aG,u=>u=jb
 |.bl b,u=>u=zj b
 |.int i,u=>∃t,u=w6 i t
 |.str x,u=>∃t,u=zi x t
 |.uZ b,u=>∃t,u=Value.bytes b t
 |.kl b,u=>∃t,u=Vu b t
 |.ref a,u=>u=c7 a
 |.ty n,u=>u=w9 n
abbrev bj:List V->List Value->Prop:=Paired RelV
theorem bj.length{xs:List V}{us:List Value}(r:bj xs us):xs.length=us.length:=Nv r
theorem bj.get:∀{xs:List V} {us:List Value} {i:Nat} {x:V},bj xs us->xs[i]?=some x->∃u,us[i]?=some u/\RelV x u
 |_,_,_,_, .nil,e=>by simp at e
 |_,_,0,_, .cons r _,e=>by simp at e;subst e;exact⟨_,rfl,r⟩
 |_,_,i + 1,x, .cons _ t,e=>by
  obtain⟨u,h1,h2⟩:=bj.get (i:=i) (x:=x) t (by simpa using e);exact⟨u,by simpa using h1,h2⟩
theorem bj.set(r:RelV x u):∀{xs:List V} {us:List Value} (i:Nat),bj xs us->bj (xs.set i x) (us.set i u)
 |_,_,_, .nil=> .nil
 |_,_,0, .cons _ t=> .cons r t
 |_,_,i + 1, .cons q t=> .cons q (bj.set r i t)
theorem bj.append:∀{xs ys:List V} {us ws:List Value},bj xs us->bj ys ws->bj (xs++ys) (us++ws)
 |_,_,_,_, .nil,s=>s
 |_,_,_,_, .cons r t,s=> .cons r (bj.append t s)
theorem bj.take:∀{xs:List V} {us:List Value} (n:Nat),bj xs us->bj (xs.take n) (us.take n)
 |_,_,0,_=> .nil
 |_,_,_ + 1, .nil=> .nil
 |_,_,n + 1, .cons r t=> .cons r (bj.take n t)
theorem bj.drop:∀{xs:List V} {us:List Value} (n:Nat),bj xs us->bj (xs.drop n) (us.drop n)
 |_,_,0,r=>r
 |_,_,_ + 1, .nil=> .nil
 |_,_,n + 1, .cons _ t=>bj.drop n t
def kN:Option V->Option Value->Prop
 |some v,some u=>RelV v u
 |none,none=>True
 |_,_=>False
def KV{κ:Type}:List (κ×V)->List (κ×Value)->Prop:=Paired λ(p:κ×V) (q:κ×Value)=>p.1=q.1/\RelV p.2 q.2
noncomputable def kV:bc->V
 |.inl i=> .int i
 |.inr x=> .str x
inductive HO where
  |lst (xs:List V)
  |tup (xs:List V)
  |dK (aa:List (bc×V)) | dT (aa:List (List bc×V))
  |set (S:Int->Bool) (n:Nat)
  |ins (C dx:Addr) (fs:List (Str×V))
  |own (x:Addr)
  |xd (fs:List (Str×V))
  |met (f x:Addr)
  |FW (lo hi:Int)
  |b9 (o:Obj) (u:HO)
  |u6 (ps:Array Value)
  |ext (φ:Heap->Prop)
noncomputable abbrev Hp:=Addr->Option HO
noncomputable def upd (H:Hp) (a:Addr) (o:HO):Hp:=λb=>if b=a then some o else H b
theorem de:upd H a o a=some o:=by unfold upd;rw[if_pos rfl]
theorem ba{H:Hp}(h:b≠a):upd H a o b=H b:=by unfold upd;rw[if_neg h]
theorem Wr{H:Hp}(h:H a=some o)(h':H b=some u)(d:o≠u):a≠b:=by
 intro e;subst e;rw[h]at h';exact d (hV h')
theorem gM{H:Hp}(h:H a=some o)(h':H b=none):a≠b:=by
 intro e;subst e;rw[h]at h';cases h'
section
variable (P:Program)(w:World)
def gr(H:Hp)(h:Heap)(a:Addr):HO->Prop
 |.lst xs=>xs.length<=aM/\∃(its:List Value) (n:Nat),bj xs its/\h.get? a=some { cls:= .type "list",data:= .seq its.toArray n }
 |.tup xs=>xs.length<=aM/\∃its:List Value,bj xs its/\IsTup h a its.toArray
 |.dK aa=>aa.length<=aM/\(a == qO)=false/\∃vs,KV aa vs/\h.DictOf (gL P w) a vs
 |.dT aa=>aa.length<=aM/\(a == qO)=false/\∃xs:List (List bc×Addr×Value),
   Paired (λ(p:List bc×V) (q:List bc×Addr×Value)=>p.1=q.1/\H q.2.1=some (.tup (p.1.map kV))/\RelV p.2 q.2.2) aa xs/\
   ∃o es ep,h.get? a=some o/\o.ExactDict/\o.data= .dict es ep/\es.toList=xs.map (entryOfKey (B1 (gL P w)))/\(xs.map (·.1)).Nodup
 |.set S n=>h.SetOf (intKind P w) a S n
 |.ins C dx fs=>H dx=some (.own a)/\fs.length<=1000/\dx≠a/\h.get? a=some (xa C dx)/\
   ∃mA,h.Ns1 dx mA/\(∀f,kN (fs.lookup f) (mA f))/\Vv mA (fs.map (·.1))
 |.own _=>∃o,h.get? a=some o
 |.xd fs=>∃mA,h.Ns1 a mA/\∀f,kN (fs.lookup f) (mA f)
 |.FW lo hi=>∃t u v,h.get? a=some { cls:= .type "range",data:= .fields #[.int lo t, .int hi u, .int 1 v] }
 |.b9 o u=>h.get? a=some o/\gr H h a u
 |.u6 qs=>∃ps:Array Value,h.get? a=some { cls:= .none,data:= .fields ps }/\TriplesOk ps.toList/\∀pos cv,aot pos ps.toList=some cv->∃(c':Addr) (oc:Obj) (vs:Array Value) (q:Str) (t t':Tok),cv= .ref c'/\H c'=some (.b9 oc (.own a))/\oc.data= .fields vs/\vs[1]?=some (.str q t)/\qs[0]?=some (.str q t')
 |.met f x=>h.get? a=some (Vx (.ref f) (.ref x))
 |.ext φ=>φ h/\(∃o,h.get? a=some o)/\∀h1 h2:Heap,φ h1->(∀o,h1.get? a=some o->h2.get? a=some o)->φ h2
def gB(H:Hp)(h:Heap):Prop:=∀a o,H a=some o->gr P w H h a o
end
section
variable {P:Program}{w:World}{H H':Hp}{h h':Heap}{a:Addr}{o:HO}
theorem gr.lt(x:gr P w H h a o):a < h.objs.size:=by
 cases o with
 |lst xs=>obtain⟨_,_,_,_,e⟩:=x;exact cW e
 |tup xs=>obtain⟨_,_,_,p⟩:=x;exact p.lt
 |dK aa=>obtain⟨_,_,_,_,o,_,_,e,_⟩:=x;exact cW e
 |dT aa=>obtain⟨_,_,_,_,o,_,_,e,_⟩:=x;exact cW e
 |set S n=>obtain⟨o,_,_,_,e,_⟩:=x;exact cW e
 |ins C dx fs=>obtain⟨_,_,_,e,_⟩:=x;exact cW e
 |own y=>obtain⟨_,e⟩:=x;exact cW e
 |xd fs=>obtain⟨_,⟨_,_,_,e,_⟩,_⟩:=x;exact cW e
 |FW lo hi=>obtain⟨_,_,_,e⟩:=x;exact cW e
 |b9 ob u=>obtain⟨e,_⟩:=x;exact cW e
 |u6 qs=>obtain⟨_,e,_⟩:=x;exact cW e
 |met f y=>exact cW (show h.get? a=some _ from x)
 |ext φ=>obtain⟨_,⟨_,e⟩,_⟩:=x;exact cW e
theorem Paired.FX{α β:Type}{F G:α->β->Prop}:∀{l₁:List α} {l₂:List β},Paired F l₁ l₂->(∀a b,F a b->G a b)->Paired G l₁ l₂
 |_,_, .nil,_=> .nil
 |_,_, .cons r t,f=> .cons (f _ _ r) (Paired.FX t f)
def iB:Option HO->Prop
 |some (.lst _)=>True
 |some (.dK _)=>True
 |some (.dT _)=>True
 |some (.set _ _)=>True
 |some (.ins _ _ _)=>True
 |some (.ext _)=>True
 |_=>False
theorem gr.gO(x:gr P w H h a o)(k:∀b u,(b=a\/H b=some (.own a))->h.get? b=some u->h'.get? b=some u)
  (ho:∀b,H b=some (.own a)->H' b=some (.own a)) (ht:∀b xs,H b=some (.tup xs)->H' b=some (.tup xs))
  (hf:∀b ob y,H b=some (.b9 ob (.own y))->H' b=some (.b9 ob (.own y)):=by first | exact λ_ _ _ q=>q | (intro c ob y q;rw[ba (by rintro rfl;simp_all [iB])];exact q)):gr P w H' h' a o:=by
 induction o with
 |lst xs=>obtain⟨z,its,n,r,e⟩:=x;exact⟨z,its,n,r,k _ _ (.inl rfl) e⟩
 |tup xs=>obtain⟨z,its,r,ob,e,c⟩:=x;exact⟨z,its,r,ob,k _ _ (.inl rfl) e,c⟩
 |dK aa=>obtain⟨z,y,vs,r,ob,es,ep,e,c⟩:=x;exact⟨z,y,vs,r,ob,es,ep,k _ _ (.inl rfl) e,c⟩
 |dT aa=>
  obtain⟨z,y,xs,r,ob,es,ep,e,c⟩:=x;exact⟨z,y,xs,Paired.FX r λp q z=>⟨z.1,ht _ _ z.2.1,z.2.2⟩,ob,es,ep,k _ _ (.inl rfl) e,c⟩
 |set S n=>obtain⟨ob,es,ep,t,e,c⟩:=x;exact⟨ob,es,ep,t,k _ _ (.inl rfl) e,c⟩
 |ins C dx fs=>
  obtain⟨d,z,ne,e,mA,⟨od,es,ep,e2,c⟩,r⟩:=x;exact⟨ho _ d,z,ne,k _ _ (.inl rfl) e,mA,⟨od,es,ep,k _ _ (.inr d) e2,c⟩,r⟩
 |own y=>obtain⟨ob,e⟩:=x;exact⟨ob,k _ _ (.inl rfl) e⟩
 |xd fs=>obtain⟨mA,⟨od,es,ep,e,c⟩,r⟩:=x;exact⟨mA,⟨od,es,ep,k _ _ (.inl rfl) e,c⟩,r⟩
 |FW lo hi=>obtain⟨t,u,v,e⟩:=x;exact⟨t,u,v,k _ _ (.inl rfl) e⟩
 |b9 ob u ih=>obtain⟨e,q⟩:=x;exact⟨k _ _ (.inl rfl) e,ih q⟩
 |u6 qs=>
  obtain⟨ps,e,tr,z⟩:=x;refine⟨ps,k a _ (.inl rfl) e,tr,λpos cv q=> ?_⟩;obtain⟨c',oc,vs,q,t,t',e1,e2,e4⟩:=z pos cv q;exact⟨c',oc,vs,q,t,t',e1,hf _ _ _ e2,e4⟩
 |met f y=>
  have e:h.get? a=some (Vx (.ref f) (.ref y)):=x;show h'.get? a=some (Vx (.ref f) (.ref y));exact k a _ (.inl rfl) e
 |ext φ=>obtain⟨p,⟨o,e⟩,st⟩:=x;exact⟨st _ _ p λo q=>k _ _ (.inl rfl) q,⟨o,k _ _ (.inl rfl) e⟩,st⟩
theorem gB.lt(x:gB P w H h)(e:H a=some o):a < h.objs.size:=(x a o e).lt
theorem gB.fresh(x:gB P w H h)(e:h.objs.size<=a):H a=none:=by
 cases q:H a with
 |none=>rfl
 |some u=>exact absurd (dI (x.lt q) e) (mI _)
theorem gB.kept(x:gB P w H h)(k:∀b u,h.get? b=some u->h'.get? b=some u):gB P w H h':=λa o e=>
 (x a o e).gO (λb u _ q=>k b u q) (λ_ q=>q) λ_ _ q=>q
theorem gB.laid(x:gB P w H h)(k:∀b u,h.get? b=some u->h'.get? b=some u)(hp:h.objs.size<=a)(new:gr P w (upd H a o) h' a o):gB P w (upd H a o) h':=λb u e=>by
 have hn:=x.fresh hp;by_cases hb:b=a
 ·subst hb;rw[de]at e;cases e;exact new
 ·rw[ba hb]at e;exact(x b u e).gO (λc v _ q=>k c v q) (λc q=>by rw[ba (gM q hn)];exact q) λc xs q=>by rw[ba (gM q hn)];exact q
end
def Rd(H:Hp)(a:Addr)(u:HO):Prop:=H a=some u\/∃o,H a=some (.b9 o u)
theorem Rd.ok{P:Program}{w:World}{H:Hp}{h:Heap}{a:Addr}(r:Rd H a u)(x:gB P w H h):gr P w H h a u:=by
 rcases r with r | ⟨o,r⟩
 ·exact x a u r
 ·obtain⟨_,q⟩:=x a _ r;exact q
section
variable {P:Program}{w:World}{H:Hp}{h h':Heap}{x e:Addr}{o':HO}
theorem gB.write(ok:gB P w H h)(mu:iB (H x))(he:e=x\/H e=some (.own x))(k:∀b u,b≠e->h.get? b=some u->h'.get? b=some u)(xn:∃u,h'.get? e=some u)
  (new:gr P w (upd H x o') h' x o'):gB P w (upd H x o') h':=λb u q=>by
 have N7:∀c y,H c=some (.own y)->c≠x:=λc y r z=>by subst z;rw[r]at mu;exact mu
 have Ws:∀c xs,H c=some (.tup xs)->c≠x:=λc xs r z=>by subst z;rw[r]at mu;exact mu
 by_cases hb:b=x
 ·subst hb;rw[de]at q;cases q;exact new
 ·rw[ba hb]at q;by_cases u7:b=e
  ·have q':H b=some (.own x):=by
    rcases he with z | z
    ·exact absurd (u7.trans z) hb
    ·rw[u7];exact z
   rw[q]at q';cases q';obtain⟨v,hv⟩:=xn;exact⟨v,by rw[u7];exact hv⟩
  ·refine(ok b u q).gO (λc v hc r=>k c v ?_ r) (λc r=>by rw[ba (N7 c b r)];exact r) λc xs r=>by rw[ba (Ws c xs r)];exact r
   rcases hc with rfl | hc
   ·exact u7
   ·rintro rfl;rcases he with z | z
    ·exact N7 c b hc z
    ·rw[hc]at z;cases z;exact hb rfl
end
structure Un(fs ex:List Addr)(H H':Hp)(h h':Heap):Prop where
 keep:∀b o,h.get? b=some o->H b=none->b∉fs->b∉ex->h'.get? b=some o
 slot:∀b o,h.get? b=some o->H b=none->b∈fs->b∉ex->∃sl,h'.get? b=some { o with slots:=sl }
 free:∀b o,h.get? b=some o->H b=none->b∉ex->H' b=none
 there:∀b o,h.get? b=some o->b∉ex->∃o',h'.get? b=some o'
 mL:∀b xs,H b=some (.tup xs)->H' b=some (.tup xs)
 l7:∀b o u,H b=some (.b9 o u)->H' b=some (.b9 o u)
 qd:∀b ps,H b=some (.u6 ps)->∃more,H' b=some (.u6 (ps++more))
section
variable {fs zw ex aiS:List Addr}{H H1 H2:Hp}{h h1 h2 h':Heap}{a x e:Addr}{o:HO}
theorem Un.any(u:Un fs ex H H1 h h1){ob:Obj}(q:h.get? b=some ob)(n:H b=none)(hx:b∉ex):∃sl,h1.get? b=some { ob with slots:=sl }:=by
 by_cases hb:b∈fs
 ·exact u.slot b ob q n hb hx
 ·exact⟨ob.slots,u.keep b ob q n hb hx⟩
theorem Un.kept(k:∀b u,h.get? b=some u->h'.get? b=some u):Un fs ex H H h h':=
 ⟨λb ob q _ _ _=>k b ob q,λb ob q _ _ _=>⟨ob.slots,k b ob q⟩,λ_ _ _ n _=>n,λb ob q _=>⟨ob,k b ob q⟩,λ_ _ q=>q,λ_ _ _ q=>q,λ_ ps q=>⟨#[],by rw[q];simp⟩⟩
theorem Un.refl:Un fs ex H H h h:=Un.kept λ_ _ q=>q
theorem Un.laid(k:∀b u,h.get? b=some u->h'.get? b=some u)(hp:h.objs.size<=a)(hn:H a=none):Un fs ex H (upd H a o) h h' where
 keep:=λb u q _ _ _=>k b u q
 slot:=λb u q _ _ _=>⟨u.slots,k b u q⟩
 free:=λb u q n _=>by rw[ba (dR (dI (cW q) hp))];exact n
 there:=λb u q _=>⟨u,k b u q⟩
 mL:=λb xs q=>by rw[ba (gM q hn)];exact q
 l7:=λb u xs q=>by rw[ba (gM q hn)];exact q
 qd:=λb ps q=>⟨#[],by rw[ba (gM q hn),q];simp⟩
theorem Un.write(mu:iB (H x))(he:e=x\/H e=some (.own x))(k:∀b u,b≠e->h.get? b=some u->h'.get? b=some u)(xn:∃u,h'.get? e=some u):Un fs ex H (upd H x o) h h':=by
 have hx:∀b,H b=none->b≠x:=λb n z=>by subst z;rw[n]at mu;exact mu
 have hb:∀b,H b=none->b≠e:=λb n z=>by
  subst z;rcases he with r | r
  ·exact hx b n r
  ·rw[n]at r;cases r
 have hm:∀b u,H b=some u->¬ iB (some u)->b≠x:=λb u q nm z=>by subst z;rw[q]at mu;exact nm mu
 refine⟨λb u q n _ _=>k b u (hb b n) q,λb u q n _ _=>⟨u.slots,k b u (hb b n) q⟩,λb u q n _=>by rw[ba (hx b n)];exact n,λb u q _=> ?_,
  λb xs q=>by rw[ba (hm b _ q λz=>z)];exact q,λb u xs q=>by rw[ba (hm b _ q λz=>z)];exact q,λb ps q=>⟨#[],by rw[ba (hm b _ q λz=>z),q];simp⟩⟩
 by_cases u7:b=e
 ·subst u7;exact xn
 ·exact⟨u,k b u u7 q⟩
end
noncomputable def xo (h:Heap) (H:Hp):List Addr:=(kf h.objs.size).filter λa=>(H a).isSome
def qX(h:Heap)(H:Hp):Heap:=W.hideAll h (xo h H)
theorem Wt(h:Heap)(H:Hp):(qX h H).objs.size=h.objs.size:=W.hideAll_size _ _
theorem Wu{h:Heap}{H:Hp}{o:Obj}(e:h.get? b=some o)(n:H b=none):(qX h H).get? b=some o:=
 W.hideAll_get _ e λhm=>by
  have q:(H b).isSome=true:=(Cc.mp hm).2;rw[n]at q;simp at q
theorem Wv{h:Heap}{H:Hp}{o:Obj}(e:(qX h H).get? b=some o):h.get? b=some o/\H b=none:=by
 have e':h.get? b=some o:=W.of_hideAll (xo h H) e;refine⟨e', ?_⟩;cases q:H b with
 |none=>rfl
 |some x=>
  have hm:b∈xo h H:=Cc.mpr ⟨sH.mpr (cW e'),by simp[q]⟩;have z:(qX h H).get? b=none:=W.hideAll_none (xo h H) hm;rw[z]at e;cases e
structure Mod(K:ah)(mg:Str->Option Value)(base:Heap):Prop where
 Cw:K.In base
 glob:base.Ns jN mg
 blt:∃mb,base.Ns Nk mb/\∀x:Str,x≠"__name__"->mb x=B2 x
 nolimit:base.NoLimit
structure Cx where
 prog:Program
 w:World
 K:ah
 mg:Str->Option Value
 base:Heap
 A:Around
 N:List Str
 gT:Shared
 sS:Hp
 env:Env
 outer:List Env
 stack:List Env
 ex:List Addr
 fn:Str->Bool
 calm:Bool
 pn:List (Addr×Obj)
 xe:Value->Shared->Prop
noncomputable def l8 (l:List Env):List Addr:=l.filterMap (·.frame)
abbrev Cx.fs(X:Cx):List Addr:=l8 X.outer
def FY(sc:Scope)(x:Str):Prop:=sc.names.lookup x=some .local\/sc.names.lookup x=some .cell\/sc.names.lookup x=some .free
def Loc(sc:Scope)(x:Str):Prop:=sc.names.lookup x=some .local\/sc.names.lookup x=some .cell
def Look(env:Env)(h:Heap)(m:Str->Option Value)(x:Str)(u:Value):Prop:=
 (env.kindOf x=some .local/\m x=some u)\/((env.kindOf x=some .cell\/env.kindOf x=some .free)/\∃c,env.cells.lookup x=some c/\h.IsCell c (some u))
structure Cx.Ok(X:Cx):Prop where
 mod:Mod X.K X.mg X.base
 kind:X.env.scope.kind= .function
 glob:X.env.globals=jN
 blt:X.env.builtins=Nk
 above:X.gT.heap.objs.size<=X.env.locals
 inj:∀x y c,X.env.cells.lookup x=some c->X.env.cells.lookup y=some c->x=y
 has:∀x,(X.env.kindOf x=some .cell\/X.env.kindOf x=some .free)->∃c,X.env.cells.lookup x=some c
 zA:∀x c,X.fn x=true->X.env.cells.lookup x=some c->X.gT.heap.objs.size<=c
 hd:X.calm=true->X.A.handled=none
 frames:X.A.frames=some X.stack
 u9:X.stack=X.outer\/(X.stack=X.env::X.outer/\X.env.frame=some X.env.locals)
 N8:∀b∈X.ex,b≠X.env.locals/\∀x c,X.env.cells.lookup x=some c->c≠b
 bs:∀b o,X.base.get? b=some o->X.gT.heap.get? b=some o/\X.sS b=none
 qe:X.base.objs.size<=X.gT.heap.objs.size
 zB:∀b o,X.base.get? b=some o->b∉X.ex
 Cy:∀b∈X.ex,b∉X.fs
 nX:X.gT.heap.FunFrames X.base X.outer
 vc:∀b∈X.fs,X.sS b=none
structure Inv(X:Cx)(ab:List (Addr×Obj))(σ:List (Option V))(H:Hp)(s:Shared):Prop where
 ok:X.Ok
 os:s.os=X.gT.os
 bare:wO s.gens
 base:Un X.fs X.ex X.sS H X.gT.heap s.heap
 loc:∃m,s.heap.Ns X.env.locals m/\∀(i:Nat) (x:Str) (v:V),X.N[i]?=some x->σ[i]?=some (some v)->FY X.env.scope x->∃u,RelV v u/\Look X.env s.heap m x u
 cell:∀x c,X.env.cells.lookup x=some c->∃v,s.heap.IsCell c v
 free:H X.env.locals=none
 nY:∀x c,X.env.cells.lookup x=some c->H c=none
 pin:∀p∈X.pn++ab,s.heap.get? p.1=some p.2/\H p.1=none/\p.1≠X.env.locals/\p.1∉X.fs/\∀v,p.2.data≠ .cell v
 aQ:gB X.prog X.w H s.heap
 len:σ.length=X.N.length
section
variable {X:Cx}{ab:List (Addr×Obj)}{σ:List (Option V)}{H H':Hp}{s:Shared}{h':Heap}
theorem Cx.Ok.Ww(ok:X.Ok){o:Obj}(e:X.base.get? b=some o):b∉X.fs:=λhb=>by
 have:=(ok.nX.mem hb).1;rw[e]at this;cases this
theorem Inv.bs(I:Inv X ab σ H s):∀b o,X.base.get? b=some o->s.heap.get? b=some o/\H b=none:=λb o e=>
 ⟨I.base.keep b o (I.ok.bs b o e).1 (I.ok.bs b o e).2 (I.ok.Ww e) (I.ok.zB b o e),I.base.free b o (I.ok.bs b o e).1 (I.ok.bs b o e).2 (I.ok.zB b o e)⟩
theorem Inv.bk(I:Inv X ab σ H s):∀b o,X.base.get? b=some o->s.heap.get? b=some o:=λb o e=>(I.bs b o e).1
theorem Inv.mod(I:Inv X ab σ H s):Mod X.K X.mg X.base:=I.ok.mod
theorem Inv.fN(I:Inv X ab σ H s):X.K.In s.heap:=I.ok.mod.Cw.keeps I.bk
theorem Inv.lt(I:Inv X ab σ H s):X.env.locals < s.heap.objs.size:=let ⟨_,hn,_⟩:=I.loc;hn.lt
theorem Inv.sz(I:Inv X ab σ H s):X.gT.heap.objs.size<=s.heap.objs.size:=b7 I.ok.above (nO I.lt)
theorem Inv.FZ(I:Inv X ab σ H s){a:Addr}(h:s.heap.objs.size<=a):a∉X.fs:=λhb=>by
 obtain⟨_,o,ho,_⟩:=I.ok.nX.mem hb;exact absurd (dI (cW ho) (b7 I.sz h)) (mI _)
theorem Inv.w5(I:Inv X ab σ H s):∀x c,X.env.cells.lookup x=some c->c≠X.env.locals:=λx c e z=>by
 obtain⟨v,o,ho,hd⟩:=I.cell x c e;obtain⟨m,⟨o',es,ep,jS,pA,_⟩,_⟩:=I.loc;rw[z,jS]at ho;cases ho;rw[pA]at hd;cases hd
theorem Inv.nX(I:Inv X ab σ H s):s.heap.FunFrames X.base X.outer:=by
 have all:∀(l:List Env),(∀b∈l8 l,b∈X.fs)->X.gT.heap.FunFrames X.base l->s.heap.FunFrames X.base l:=by
  intro l
  induction l with
  |nil=>intro _ _;trivial
  |cons env r ih=>
   intro hs hl;obtain⟨hk,⟨L,o,hf,hn,ho,hd⟩,hr⟩:=hl;have hL:L∈X.fs:=hs L (by unfold l8;rw[zk,hf];exact xb);obtain⟨sl,e⟩:=I.base.slot L o ho (I.ok.vc L hL) hL λz=>I.ok.Cy L z hL;exact⟨hk,⟨L,_,hf,hn,e,hd⟩,ih (λb hb=>hs b (by unfold l8;rw[zk,hf];exact nQ _ hb)) hr⟩
 exact all X.outer (λ_ hb=>hb) I.ok.nX
theorem Inv.stack(I:Inv X ab σ H s):s.heap.FunFrames X.base X.stack:=by
 rcases I.ok.u9 with e | ⟨e,hf⟩
 ·rw[e];exact I.nX
 ·rw[e];obtain⟨m,hn,_⟩:=I.loc;refine .cons (by rw[I.ok.kind];decide) hf hn ?_ I.nX;exact Heap.get?_none_of_le (b7 I.ok.qe I.ok.above)
theorem Inv.zC(I:Inv X ab σ H s):∀b∈l8 X.stack,b∈X.env.locals::X.fs:=λb hb=>by
 rcases I.ok.u9 with e | ⟨e,hf⟩
 ·rw[e]at hb;exact nQ _ hb
 ·rw[e]at hb;unfold l8 at hb;rw[zk,hf]at hb;exact hb
theorem Inv.N9(I:Inv X ab σ H s):∀b∈l8 X.stack,H b=none:=λb hb=>by
 rcases bL.mp (I.zC b hb) with e | hb
 ·rw[e];exact I.free
 ·obtain⟨_,o,ho,_⟩:=I.ok.nX.mem hb;exact I.base.free b o ho (I.ok.vc b hb) λz=>I.ok.Cy b z hb
theorem Inv.step{g':Array GenState}{t':Nat}{d':Drawn}{ch:List Addr}(I:Inv X ab σ H s)
  (sT:∀b∈ch,(b∈X.ex\/X.gT.heap.objs.size<=b)/\b≠X.env.locals/\(∀x c,X.env.cells.lookup x=some c->c≠b)/\∀p∈X.pn++ab,p.1≠b)
  (keep:∀b o,b≠X.env.locals->b∉X.fs->b∉ch->s.heap.get? b=some o->H b=none->h'.get? b=some o)
  (slot:∀b o,b≠X.env.locals->b∈X.fs->b∉ch->s.heap.get? b=some o->H b=none->∃sl,h'.get? b=some { o with slots:=sl }) (free:∀b o,b∉ch->s.heap.get? b=some o->H b=none->H' b=none)
  (there:∀b o,b∉ch->s.heap.get? b=some o->∃o',h'.get? b=some o')
  (mL:∀b xs,H b=some (.tup xs)->H' b=some (.tup xs)) (l7:∀b o u,H b=some (.b9 o u)->H' b=some (.b9 o u)) (qd:∀b ps,H b=some (.u6 ps)->∃more,H' b=some (.u6 (ps++more)))
  (ns:∀m,s.heap.Ns X.env.locals m->h'.Ns X.env.locals m) (aQ:gB X.prog X.w H' h') (hg:wO g'):
  Inv X ab σ H' { s with heap:=h',gens:=g',drawn:=d',toks:=t' }:=by
 have Oa:∀b o,X.gT.heap.get? b=some o->b≠X.env.locals:=λb o e=>dR (dI (cW e) I.ok.above);have Cz:∀b o,X.gT.heap.get? b=some o->b∉X.ex->b∉ch:=λb o e hx hb=>by
  rcases(sT b hb).1 with z | z
  ·exact hx z
  ·exact absurd (dI (cW e) z) (mI _)
 have cellK:∀x c,X.env.cells.lookup x=some c->∀v,s.heap.IsCell c v->h'.IsCell c v:=λx c e v ⟨o,ho,hd⟩=>by
  have ahb:c∉ch:=λz=>(sT c z).2.2.1 x c e rfl;by_cases hc:c∈X.fs
  ·obtain⟨sl,q⟩:=slot c o (I.w5 x c e) hc ahb ho (I.nY x c e);exact⟨_,q,hd⟩
  ·exact⟨o,keep c o (I.w5 x c e) hc ahb ho (I.nY x c e),hd⟩
 refine⟨I.ok,I.os,hg,⟨λb o e n hb hx=> ?_,λb o e n hb hx=> ?_,λb o e n hx=> ?_,λb o e hx=> ?_,λb xs e=>mL b xs (I.base.mL b xs e),λb o xs e=>l7 b o xs (I.base.l7 b o xs e),λb ps e=> ?_⟩, ?_,λx c e=> ?_, ?_,λx c e=> ?_,λp hp=> ?_,aQ,I.len⟩
 ·exact keep b o (Oa b o e) hb (Cz b o e hx) (I.base.keep b o e n hb hx) (I.base.free b o e n hx)
 ·obtain⟨sl,e1⟩:=I.base.slot b o e n hb hx;obtain⟨F0,e2⟩:=slot b _ (Oa b o e) hb (Cz b o e hx) e1 (I.base.free b o e n hx);exact⟨F0,e2⟩
 ·obtain⟨o',e1⟩:=I.base.there b o e hx;exact free b o' (Cz b o e hx) e1 (I.base.free b o e n hx)
 ·obtain⟨o',e1⟩:=I.base.there b o e hx;exact there b o' (Cz b o e hx) e1
 ·obtain⟨m1,e1⟩:=I.base.qd b ps e;obtain⟨m2,e2⟩:=qd b _ e1;exact⟨m1++m2,by rw[e2,awG]⟩
 ·obtain⟨m,hn,hl⟩:=I.loc;refine⟨m,ns m hn,λi x v e1 e2 e3=> ?_⟩;obtain⟨u,r,l⟩:=hl i x v e1 e2 e3;refine⟨u,r, ?_⟩;rcases l with l | ⟨k,c,e,z⟩
  ·exact .inl l
  ·exact .inr ⟨k,c,e,cellK x c e _ z⟩
 ·obtain⟨v,z⟩:=I.cell x c e;exact⟨v,cellK x c e v z⟩
 ·obtain⟨m,⟨o,_,_,ho,_⟩,_⟩:=I.loc;exact free _ o (λz=>(sT _ z).2.1 rfl) ho I.free
 ·obtain⟨v,o,ho,hd⟩:=I.cell x c e;exact free c o (λz=>(sT c z).2.2.1 x c e rfl) ho (I.nY x c e)
 ·obtain⟨e,n,ne,nf,d⟩:=I.pin p hp;have ahb:p.1∉ch:=λz=>(sT p.1 z).2.2.2 p hp rfl;exact⟨keep p.1 p.2 ne nf ahb e n,free p.1 p.2 ahb e n,ne,nf,d⟩
theorem Inv.un{t':Nat}(I:Inv X ab σ H s)(u:Un X.fs [] H H' s.heap h')(aQ:gB X.prog X.w H' h'):Inv X ab σ H' { s with heap:=h',toks:=t' }:=by
 obtain⟨m,⟨o,es,ep,ho,r⟩,_⟩:=id I.loc;obtain⟨sl,hL⟩:=u.any ho I.free (by simp);exact I.step (g':=s.gens) (d':=s.drawn) (ch:= []) (λ_ z=>nomatch z) (λb o _ hb _ e n=>u.keep b o e n hb (by simp)) (λb o _ hb _ e n=>u.slot b o e n hb (by simp)) (λb o _ e n=>u.free b o e n (by simp)) (λb o _ e=>u.there b o e (by simp)) u.mL u.l7 u.qd (λm' hm=>by
  obtain⟨o',sU,CA,jS,r'⟩:=hm;rw[ho]at jS;cases jS;exact⟨_,sU,CA,hL,r'⟩) aQ I.bare
theorem Inv.call{t':Nat}{d':Drawn}(I:Inv X ab σ H s)(u:Un (l8 X.stack) ch H H' s.heap h')(aQ:gB X.prog X.w H' h')(hg:wO g')
  (sT:∀b∈ch,(b∈X.ex\/X.gT.heap.objs.size<=b)/\b≠X.env.locals/\(∀x c,X.env.cells.lookup x=some c->c≠b)/\∀p∈X.pn++ab,p.1≠b):
  Inv X ab σ H' { s with heap:=h',gens:=g',drawn:=d',toks:=t' }:=by
 obtain⟨m,⟨o,es,ep,ho,r⟩,_⟩:=id I.loc;obtain⟨sl,hL⟩:=u.any ho I.free λz=>(sT _ z).2.1 rfl;exact I.step (ch:=ch) sT (λb o hL hb hc e n=>u.keep b o e n (λz=>(bL.mp (I.zC b z)).elim hL hb) hc) (λb o _ _ hc e n=>u.any e n hc) (λb o hc e n=>u.free b o e n hc) (λb o hc e=>u.there b o e hc) u.mL u.l7 u.qd (λm' hm=>by
  obtain⟨o',sU,CA,jS,r'⟩:=hm;rw[ho]at jS;cases jS;exact⟨_,sU,CA,hL,r'⟩) aQ hg
theorem Inv.turned{t':Nat}(I:Inv X ab σ H s)(k:∀b o,b≠it->s.heap.get? b=some o->h'.get? b=some o)(hn:H it=none)(hL:it≠X.env.locals)
  (h1:it∈X.ex\/X.gT.heap.objs.size<=it) (h2:∀x c,X.env.cells.lookup x=some c->c≠it) (h3:∀p∈X.pn++ab,p.1≠it):Inv X ab σ H { s with heap:=h',toks:=t' }:=by
 have Ob:∀b u,H b=some u->b≠it:=λb u e z=>by rw[z,hn]at e;cases e
 refine I.step (g':=s.gens) (d':=s.drawn) (ch:= [it]) (λb hb=> ?_) (λb o _ _ hc e _=>k b o (λz=>hc (by simp[z])) e) (λb o _ _ hc e _=>⟨o.slots,k b o (λz=>hc (by simp[z])) e⟩) (λ_ _ _ _ n=>n)
  (λb o hc e=>⟨o,k b o (λz=>hc (by simp[z])) e⟩) (λ_ _ e=>e) (λ_ _ _ e=>e) (λb ps e=>⟨#[],by rw[e];simp⟩) (λm hm=> ?_) (λb u e=> ?_) I.bare
 ·have e:b=it:=by simpa using hb
  subst e;exact⟨h1,hL,h2,h3⟩
 ·obtain⟨o,es,ep,ho,r⟩:=hm;exact⟨o,es,ep,k _ o (fw hL) ho,r⟩
 ·refine(I.aQ b u e).gO (λc v hc q=>k c v ?_ q) (λ_ q=>q) λ_ _ q=>q;rcases hc with z | z
  ·rw[z];exact Ob b u e
  ·exact Ob c _ z
theorem Inv.tok(I:Inv X ab σ H s)(t:Nat):Inv X ab σ H { s with toks:=t }:=I.un (h':=s.heap) (t':=t) Un.refl I.aQ
theorem Inv.kept{t':Nat}(I:Inv X ab σ H s)(k:∀b u,s.heap.get? b=some u->h'.get? b=some u):Inv X ab σ H { s with heap:=h',toks:=t' }:=I.un (Un.kept k) (I.aQ.kept k)
theorem Inv.laid{a:Addr}{o:HO}{t':Nat}(I:Inv X ab σ H s)(k:∀b u,s.heap.get? b=some u->h'.get? b=some u)(hp:s.heap.objs.size<=a)(new:gr X.prog X.w (upd H a o) h' a o):
  Inv X ab σ (upd H a o) { s with heap:=h',toks:=t' }:=I.un (Un.laid k hp (I.aQ.fresh hp)) (I.aQ.laid k hp new)
theorem Inv.write{x e:Addr}{o:HO}{t':Nat}(I:Inv X ab σ H s)(mu:iB (H x))(he:e=x\/H e=some (.own x))(k:∀b u,b≠e->s.heap.get? b=some u->h'.get? b=some u)(xn:∃u,h'.get? e=some u)
  (new:gr X.prog X.w (upd H x o) h' x o):Inv X ab σ (upd H x o) { s with heap:=h',toks:=t' }:=I.un (Un.write mu he k xn) (I.aQ.write mu he k xn new)
theorem Inv.CB(I:Inv X ab σ H s)(h:∀p∈Wx,s.heap.get? p.1=some p.2/\H p.1=none/\p.1≠X.env.locals/\p.1∉X.fs/\∀v,p.2.data≠ .cell v):Inv X Wx σ H s:=
 ⟨I.ok,I.os,I.bare,I.base,I.loc,I.cell,I.free,I.nY,λp hp=>(lZ.mp hp).elim (λz=>I.pin p (arx _ z)) (h p),I.aQ,I.len⟩
theorem Oc{N:List Str}(hN:N.Nodup){i j:Nat}{x:Str}(a:N[i]?=some x)(b:N[j]?=some x):i=j:=by
 obtain⟨h1,e1⟩:=cX.mp a;obtain⟨h2,e2⟩:=cX.mp b;exact(List.getElem_inj hN).mp (e1.trans e2.symm)
theorem Wy{M:Model}{A:Around}{E:Value->Shared->Prop}{i:Nat}{x:Str}{v:V}{u:Value}{Q:Unit->Shared->Prop}(I:Inv X ab σ H s)(hN:X.N.Nodup)(hi:X.N[i]?=some x)(hx:Loc X.env.scope x)(r:RelV v u)
  (h:∀s',Inv X ab (σ.set i (some v)) H s'->(∃a,Cd a s.heap s'.heap/\(a=X.env.locals\/X.env.cells.lookup x=some a))->Q () s') (hf:X.fn x=true\/X.env.scope.names.lookup x=some .local:=by first | exact .inl rfl | exact .inr rfl | assumption):wpAny M A (storeName X.env x u) Q E s:=by
 obtain⟨m,hn,hl⟩:=id I.loc;have Wz:(X.env.scope.kind == .class || (X.env.scope.kind == .module && X.env.locals != X.env.globals))=false:=by rw[I.ok.kind];rfl
 have Od:i < σ.length:=by rw[I.len];exact(cX.mp hi).1
 have w5:=I.w5;have tracked:∀{a:Addr} {h':Heap},(∃o,s.heap.get? a=some o/\H a=none)->Cd a s.heap h'->gB X.prog X.w H h':=λ{a h'} ha hs b ob e=>by
  obtain⟨_,_,xp⟩:=ha;refine(I.aQ b ob e).gO (λc w' hc q=>(hs.2 c ?_).trans q) (λ_ q=>q) λ_ _ q=>q;rintro rfl;rcases hc with rfl | hc
  ·rw[xp]at e;cases e
  ·rw[xp]at hc;cases hc
 rcases hx with hk | hk
 ·refine wpAny_storeName_local hk hn (λh' WA hs=> ?_) Wz;obtain⟨oL,_,_,atB,_⟩:=id hn;refine h _ ⟨I.ok,I.os,I.bare,⟨λb o e n hb hx=> ?_,λb o e n hb hx=> ?_,I.base.free,λb o e hx=> ?_,I.base.mL,I.base.l7,I.base.qd⟩,⟨_,WA,λj y v' e1 e2 e3=> ?_⟩,λy c e=> ?_,I.free,I.nY,λp hp=> ?_,tracked ⟨oL,atB,I.free⟩ hs,by simpa using I.len⟩ ⟨_,hs, .inl rfl⟩
  ·exact(hs.2 b (dR (dI (cW e) I.ok.above))).trans (I.base.keep b o e n hb hx)
  ·obtain⟨sl,e1⟩:=I.base.slot b o e n hb hx;exact⟨sl,(hs.2 b (dR (dI (cW e) I.ok.above))).trans e1⟩
  ·obtain⟨o',e1⟩:=I.base.there b o e hx;exact⟨o',(hs.2 b (dR (dI (cW e) I.ok.above))).trans e1⟩
  ·by_cases hj:j=i
   ·subst hj;rw[hi]at e1;cases e1;rw[gK Od]at e2;cases e2;exact⟨u,r, .inl ⟨hk,by simp⟩⟩
   ·rw[gq (fw hj)]at e2;obtain⟨u',r',q⟩:=hl j y v' e1 e2 e3;refine⟨u',r', ?_⟩;rcases q with⟨k,e⟩ | ⟨k,c,e,z⟩
    ·refine .inl ⟨k, ?_⟩;have:y≠x:=λe=>hj (Oc hN e1 (e▸hi));simp[this,e]
    ·exact .inr ⟨k,c,e,z.sameBut hs (w5 y c e)⟩
  ·obtain⟨w',z⟩:=I.cell y c e;exact⟨w',z.sameBut hs (w5 y c e)⟩
  ·obtain⟨e,n,ne,nf,d⟩:=I.pin p hp;exact⟨(hs.2 p.1 ne).trans e,n,ne,nf,d⟩
 ·have F2:X.fn x=true:=by
   rcases hf with z | z
   ·exact z
   ·rw[z]at hk;cases hk
  obtain⟨c,hc⟩:=I.ok.has x (.inl hk);obtain⟨w',z⟩:=I.cell x c hc;refine wpAny_storeName_cell I.ok.kind hk hc z (λh' qY hs=> ?_);obtain⟨oc,Oe,WB⟩:=id z;refine h { s with heap:=h' } ⟨I.ok,I.os,I.bare,⟨λb o e n hb hx=> ?_,λb o e n hb hx=> ?_,I.base.free,λb o e hx=> ?_,I.base.mL,I.base.l7,I.base.qd⟩,⟨m,hn.sameBut hs (fw (w5 x c hc)),λj y v' e1 e2 e3=> ?_⟩,λy c' e=> ?_,I.free,I.nY,λp hp=> ?_,tracked ⟨oc,Oe,I.nY x c hc⟩ hs,by simpa using I.len⟩ ⟨c,hs, .inr hc⟩
  ·exact(hs.2 b (dR (dI (cW e) (I.ok.zA x c F2 hc)))).trans (I.base.keep b o e n hb hx)
  ·obtain⟨sl,e1⟩:=I.base.slot b o e n hb hx;exact⟨sl,(hs.2 b (dR (dI (cW e) (I.ok.zA x c F2 hc)))).trans e1⟩
  ·obtain⟨o',e1⟩:=I.base.there b o e hx;exact⟨o',(hs.2 b (dR (dI (cW e) (I.ok.zA x c F2 hc)))).trans e1⟩
  ·by_cases hj:j=i
   ·subst hj;rw[hi]at e1;cases e1;rw[gK Od]at e2;cases e2;exact⟨u,r, .inr ⟨.inl hk,c,hc,qY⟩⟩
   ·rw[gq (fw hj)]at e2;obtain⟨u',r',q⟩:=hl j y v' e1 e2 e3;refine⟨u',r', ?_⟩;rcases q with q | ⟨k,c',e,z'⟩
    ·exact .inl q
    ·refine .inr ⟨k,c',e,z'.sameBut hs ?_⟩;rintro rfl;exact hj (Oc hN e1 (I.ok.inj _ _ _ e hc▸hi))
  ·by_cases Of:c'=c
   ·subst Of;exact⟨_,qY⟩
   ·obtain⟨w2,z2⟩:=I.cell y c' e;exact⟨w2,z2.sameBut hs Of⟩
  ·obtain⟨e,n,ne,nf,d⟩:=I.pin p hp;refine⟨(hs.2 p.1 ?_).trans e,n,ne,nf,d⟩;intro q;rw[q,Oe]at e;have q':oc=p.2:=hV e;exact d w' (by rw[<- q'];exact WB)
theorem CC{M:Model}{A:Around}{E:Value->Shared->Prop}{x:Str}{Q:Unit->Shared->Prop}(I:Inv X ab σ H s)(hN:X.N.Nodup)(hi:X.N[i]?=some x)(hx:Loc X.env.scope x)(r:RelV v u)
  (h:∀s',Inv X ab (σ.set i (some v)) H s'->Q () s') (hf:X.fn x=true\/X.env.scope.names.lookup x=some .local:=by first | exact .inl rfl | exact .inr rfl | assumption):wpAny M A (storeName X.env x u) Q E s:=
 Wy I hN hi hx r (λs' I' _=>h s' I') hf
end
abbrev XK:=Value->Option Addr->Hp->Prop
noncomputable abbrev St:=List (Option V)
abbrev VK:=V->Hp->Prop
abbrev TE:=St->Hp->VK->Prop
abbrev TT:=St->Hp->(Bool->Hp->Prop)->Prop
abbrev TA:=St->Hp->(List V->Hp->Prop)->Prop
structure ke where
 nx:St->Hp->Prop
 rt:VK
 bk:St->Hp->Prop:=λ_ _=>False
 ct:St->Hp->Prop:=λ_ _=>False
abbrev TS:=ke->St->Hp->Prop
def EP(X:Cx)(ab:List (Addr×Obj))(σ:St)(Q:VK)(u:Value)(s':Shared):Prop:=∃v H',Inv X ab σ H' s'/\RelV v u/\Q v H'
def TP(X:Cx)(ab:List (Addr×Obj))(σ:St)(Q:Bool->Hp->Prop)(b:Bool)(s':Shared):Prop:=∃H',Inv X ab σ H' s'/\Q b H'
def AP(X:Cx)(ab:List (Addr×Obj))(σ:St)(Q:List V->Hp->Prop)(us:List Value)(s':Shared):Prop:=∃vs H',Inv X ab σ H' s'/\bj vs us/\Q vs H'
def SP(X:Cx)(ab:List (Addr×Obj))(D:ke)(f:Flow)(s':Shared):Prop:=
 match f with
 |.next=>∃aF H',Inv X ab aF H' s'/\D.nx aF H'
 |.brk=>∃aF H',Inv X ab aF H' s'/\D.bk aF H'
 |.cont=>∃aF H',Inv X ab aF H' s'/\D.ct aF H'
 |.ret u=>∃v aF H',Inv X ab aF H' s'/\RelV v u/\D.rt v H'
def PE(X:Cx)(e:Expr)(t:TE):Prop:=
 ∀(ab:List (Addr×Obj)) (s:Shared) (σ:St) (H:Hp) (Q:VK),Inv X ab σ H s->t σ H Q->wpAny (model X.prog X.w) X.A (eval e X.env) (EP X ab σ Q) X.xe s
def PT(X:Cx)(e:Expr)(t:TT):Prop:=
 ∀(ab:List (Addr×Obj)) (s:Shared) (σ:St) (H:Hp) (Q:Bool->Hp->Prop),Inv X ab σ H s->t σ H Q->wpAny (model X.prog X.w) X.A (isTrue e X.env (eval e X.env)) (TP X ab σ Q) X.xe s
def PW(X:Cx)(e:Expr)(t:TT):Prop:=
 ∀(whole:Sem Value) (ab:List (Addr×Obj)) (s:Shared) (σ:St) (H:Hp) (Q:Bool->Hp->Prop),Inv X ab σ H s->t σ H Q->wpAny (model X.prog X.w) X.A (isTrue e X.env whole) (TP X ab σ Q) X.xe s
theorem PW.pt{X:Cx}{e:Expr}(h:PW X e t):PT X e t:=h _
def PA(X:Cx)(es:List Expr)(t:TA):Prop:=
 ∀(pos:Pos) (ab:List (Addr×Obj)) (s:Shared) (σ:St) (H:Hp) (Q:List V->Hp->Prop),Inv X ab σ H s->t σ H Q->wpAny (model X.prog X.w) X.A (spliced (backTo pos (dz es X.env))) (AP X ab σ Q) X.xe s
def PS(X:Cx)(st:Stmt)(t:TS):Prop:=
 ∀(ab:List (Addr×Obj)) (s:Shared) (σ:St) (H:Hp) (D:ke),Inv X ab σ H s->t D σ H->wpAny (model X.prog X.w) X.A (exec st X.env) (SP X ab D) X.xe s
def jc(X:Cx)(st:List Stmt)(t:TS):Prop:=
 ∀(ab:List (Addr×Obj)) (s:Shared) (σ:St) (H:Hp) (D:ke),Inv X ab σ H s->t D σ H->wpAny (model X.prog X.w) X.A (execs st X.env) (SP X ab D) X.xe s
theorem bh{α:Type}{t:Sem α}{Q Q':α->Shared->Prop}{M:Model}{A:Around}{E:Value->Shared->Prop}{s:Shared}(h:wpAny M A t Q E s)(hQ:∀a s,Q a s->Q' a s):wpAny M A t Q' E s:=ja h hQ λ_ _ x=>x
section
variable {X:Cx}
def f9(i:Nat):TE:=λσ H Q=>∃v,σ[i]?=some (some v)/\Q v H
def tC(v:V):TE:=λ_ H Q=>Q v H
theorem WC{x:Str}{pos:Pos}(hN:X.N[i]?=some x)(hv:FY X.env.scope x)(hd:(x == ("__debug__":Str))=false:=by decide)(pB:(x == ("__classdict__":Str))=false:=by decide):PE X (.Name x pos) (f9 i):=by
 intro ab s σ H Q I h;obtain⟨v,e,h⟩:=h;obtain⟨m,hn,hl⟩:=I.loc;obtain⟨u,r,l⟩:=hl i x v hN e hv;have c5:EP X ab σ Q u s:=⟨v,H,I,r,h⟩
 rcases l with⟨hk,hm⟩ | ⟨hk,c,hc,sV⟩
 ·exact wpAny_Name (wpAny_loadName_local I.ok.kind hk hn hm c5) hd
 ·rcases hk with hk | hk
  ·exact wpAny_Name (wpAny_loadName_cell I.ok.kind hk hc sV c5) hd
  ·exact wpAny_Name (wpAny_loadName_free I.ok.kind hk hc sV c5 pB) hd
theorem aA{i j pos}:PE X (.Constant (.int i) j pos) (tC (.int i)):=λ_ _ _ H _ I h=>wpAny_Constant_int ⟨.int i,H,I.tok _,⟨_,rfl⟩,h⟩
theorem zD{b j pos}:PE X (.Constant (.bool b) j pos) (tC (.bl b)):=λ_ _ _ H _ I h=>Constant_bool ⟨.bl b,H,I,rfl,h⟩
theorem aC{x j pos}:PE X (.Constant (.str x) j pos) (tC (.str x)):=λ_ _ _ H _ I h=>Calls.Constant_str ⟨.str x,H,I.tok _,⟨_,rfl⟩,h⟩
def Gl(X:Cx)(x:Str):Prop:=X.env.kindOf x=some .globalImplicit
theorem CD{E:Value->Shared->Prop}{ab:List (Addr×Obj)}{s:Shared}{σ:St}{H:Hp}{x:Str}{pos:Pos}{Q:Value->Shared->Prop}(I:Inv X ab σ H s)(hg:Gl X x)(hm:X.mg x=some u)(h:Q u s)
  (hd:(x == ("__debug__":Str))=false:=by decide):wpAny (model X.prog X.w) X.A (eval (.Name x pos) X.env) Q E s:=
 aii I.ok.kind hg (Calls.loadGlobal_global (by rw[I.ok.glob];exact I.mod.glob.keeps I.bk) hm h) hd
theorem xq{E:Value->Shared->Prop}{ab:List (Addr×Obj)}{s:Shared}{σ:St}{H:Hp}{x:Str}{pos:Pos}{Q:Value->Shared->Prop}(I:Inv X ab σ H s)(hg:Gl X x)(hm:X.mg x=none)(hv:B2 x=some u)(h:Q u s)
  (hn:x≠"__name__":=by decide) (hd:(x == ("__debug__":Str))=false:=by decide):wpAny (model X.prog X.w) X.A (eval (.Name x pos) X.env) Q E s:=by
 obtain⟨mb,h1,h2⟩:=I.mod.blt;exact aii I.ok.kind hg (Calls.loadGlobal_builtin (by rw[I.ok.glob];exact I.mod.glob.keeps I.bk) hm (by rw[I.ok.blt];exact h1.keeps I.bk) ((h2 x hn).trans hv) h) hd
theorem qf{x:Str}{pos:Pos}(hg:Gl X x)(hm:X.mg x=none)(hv:B2 x=some u)(r:RelV v u)(hn:x≠"__name__":=by decide)(hd:(x == ("__debug__":Str))=false:=by decide):PE X (.Name x pos) (tC v):=
 λ_ _ _ H _ I h=>xq I hg hm hv ⟨v,H,I,r,h⟩ hn hd
variable {a b:Expr}{ta tb:TE}{pos:Pos}
def tB(t:TE):TT:=λσ H Q=>t σ H λx H1=>∃c,x= .bl c/\Q c H1
theorem l9{e:Expr}{t:TE}(h:PE X e t)(he:∀whole,isTrue e X.env whole=(do let v <- whole;FH e.pos;holding [v] (truthy v)):=by intro _;rfl):PT X e (tB t):=by
 intro ab s σ H Q I hw;refine isTrue_plain (bh (h ab s σ H _ I hw) λv s1 ⟨x,H1,I1,r1,q1⟩=> ?_) (he _);obtain⟨d,rfl,q⟩:=q1;cases r1;exact uK ⟨H1,I1,q⟩
variable {tA CF:TT}{rest:List Expr}
def F3(t u:TT):TT:=λσ H Q=>t σ H λc H1=>if c=true then u σ H1 Q else Q false H1
def F4(t u:TT):TT:=λσ H Q=>t σ H λc H1=>if c=true then Q true H1 else u σ H1 Q
def F5(t:TT):TT:=λσ H Q=>t σ H λc H1=>Q (!c) H1
theorem zE(ha:PT X a tA):PW X (.BoolOp .And [a] pos) tA:=by
 intro wh ab s σ H Q I h;refine isTrue_and (bh (ha ab s σ H Q I h) λc s1 e=> ?_);cases c with
 |true=>exact isTrue_and_nil e
 |false=>exact e
theorem F6(ha:PT X a tA):PW X (.BoolOp .Or [a] pos) tA:=by
 intro wh ab s σ H Q I h;refine isTrue_or (bh (ha ab s σ H Q I h) λc s1 e=> ?_);cases c with
 |false=>exact isTrue_or_nil e
 |true=>exact e
theorem zF(ha:PT X a tA)(hb:PW X (.BoolOp .And (b::rest) pos) CF):PW X (.BoolOp .And (a::b::rest) pos) (F3 tA CF):=by
 intro wh ab s σ H Q I h;refine isTrue_and (bh (ha ab s σ H _ I h) λc s1 ⟨H1,I1,q1⟩=> ?_);cases c with
 |true=>exact hb wh ab s1 σ H1 Q I1 q1
 |false=>exact⟨H1,I1,q1⟩
theorem F7(ha:PT X a tA)(hb:PW X (.BoolOp .Or (b::rest) pos) CF):PW X (.BoolOp .Or (a::b::rest) pos) (F4 tA CF):=by
 intro wh ab s σ H Q I h;refine isTrue_or (bh (ha ab s σ H _ I h) λc s1 ⟨H1,I1,q1⟩=> ?_);cases c with
 |true=>exact⟨H1,I1,q1⟩
 |false=>exact hb wh ab s1 σ H1 Q I1 q1
theorem oa(ha:PT X a tA):PT X (.UnaryOp .Not a pos) (F5 tA):=by
 intro ab s σ H Q I h;exact isTrue_not (ha ab s σ H (λc H1=>Q (!c) H1) I h)
def xr(ta tb:TE):TE:=λσ H Q=>ta σ H λx H1=>∃c,x= .bl c/\if c=true then tb σ H1 Q else Q (.bl false) H1
def F8(ta:TE):TE:=λσ H Q=>ta σ H λx H1=>∃c,x= .bl c/\Q (.bl (!c)) H1
theorem qg{op}(h:PE X a t):PE X (.BoolOp op [a] pos) t:=λab s σ H Q I hw=>BoolOp_one (h ab s σ H Q I hw)
theorem ra(ha:PE X a ta)(hb:PE X (.BoolOp .And (b::rest) pos) tb):PE X (.BoolOp .And (a::b::rest) pos) (xr ta tb):=by
 intro ab s σ H Q I h;refine BoolOp_and (bh (ha ab s σ H _ I h) λv s1 ⟨x,H1,I1,r1,q1⟩=> ?_);obtain⟨c,rfl,q1⟩:=q1;cases r1;refine uK ?_;cases c with
 |true=>exact hb ab s1 σ H1 Q I1 q1
 |false=>exact⟨.bl false,H1,I1,rfl,q1⟩
theorem WG(ha:PE X a ta):PE X (.UnaryOp .Not a pos) (F8 ta):=by
 intro ab s σ H Q I h;refine UnaryOp_ (bh (ha ab s σ H _ I h) λv s1 ⟨x,H1,I1,r1,q1⟩=> ?_);obtain⟨c,rfl,q1⟩:=q1;cases r1;exact not_of (uK ⟨.bl (!c),H1,I1,rfl,q1⟩)
def Oi(t:TT)(ta tb:TE):TE:=λσ H Q=>t σ H λc H1=>if c=true then ta σ H1 Q else tb σ H1 Q
theorem Oj{c:Expr}(hc:PT X c tA)(ha:PE X a ta)(hb:PE X b tb):PE X (.IfExp c a b pos) (Oi tA ta tb):=by
 intro ab s σ H Q I h;refine wpAny_IfExp (bh (hc ab s σ H _ I h) λd s1 ⟨H1,I1,q1⟩=> ?_);cases d with
 |true=>exact ha ab s1 σ H1 Q I1 q1
 |false=>exact hb ab s1 σ H1 Q I1 q1
end
def cI(K:ah)(H:Hp)(a:Addr)(xs:List V):Prop:=
 Rd H a (.lst xs)\/
  ∃(o:Obj) (its:Array Value) (n:Nat),K.lookup a=some o/\o.cls= .type "list"/\o.dict=none/\o.data= .seq its n/\its.size<=aM/\bj xs its.toList
def cE(K:ah)(H:Hp)(a:Addr)(xs:List V):Prop:=
 Rd H a (.tup xs)\/
  ∃(o:Obj) (its:Array Value) (n:Nat),K.lookup a=some o/\o.cls= .type "tuple"/\o.data= .seq its n/\its.size<=aM/\bj xs its.toList
noncomputable def WH:Value->Option V
 |.none=>some .aG
 |.bool b=>some (.bl b)
 |.int i _=>some (.int i)
 |.str x _=>some (.str x)
 |.bytes b _=>some (.uZ b)
 |.float b _=>some (.kl b)
 |.ref a=>some (.ref a)
 |.type n=>some (.ty n)
 |_=>none
theorem RelV.abs{x:V}(r:RelV x u):WH u=some x:=by
 cases x with
 |aG=>cases r;rfl
 |bl _=>cases r;rfl
 |int _=>obtain⟨t,rfl⟩:=r;rfl
 |str _=>obtain⟨t,rfl⟩:=r;rfl
 |uZ _=>obtain⟨t,rfl⟩:=r;rfl
 |kl _=>obtain⟨t,rfl⟩:=r;rfl
 |ref _=>cases r;rfl
 |ty _=>cases r;rfl
theorem RelV.inj{x y:V}(r:RelV x u)(q:RelV y u):x=y:=hV (r.abs.symm.trans q.abs)
theorem bj.inj:∀{xs ys:List V} {us:List Value},bj xs us->bj ys us->xs=ys
 |_,_,_, .nil, .nil=>rfl
 |_,_,_, .cons r t, .cons r' t'=>by rw[r.inj r',bj.inj t t']
section
variable {X:Cx}{ab:List (Addr×Obj)}{σ:St}{H:Hp}{s:Shared}{a:Addr}{xs ys:List V}
theorem cI.of{K:ah}(h:H a=some (.lst xs)):cI K H a xs:= .inl (.inl h)
theorem cE.of{K:ah}(h:H a=some (.tup xs)):cE K H a xs:= .inl (.inl h)
theorem Inv.list(I:Inv X ab σ H s)(h:cI X.K H a xs):∃its:List Value,bj xs its/\PlainL s.heap a its.toArray/\xs.length<=aM:=by
 rcases h with h | ⟨o,its,n,hk,hc,hd,hs,hz,r⟩
 ·obtain⟨z,its,n,r,e⟩:=h.ok I.aQ;exact⟨its,r,⟨_,n,e,rfl,rfl,rfl⟩,z⟩
 ·refine⟨its.toList,r,⟨o,n,I.fN a o hk,hc,hd,by simpa using hs⟩, ?_⟩;have e:=r.length;simp only[xc]at e
  lia
theorem Inv.tuple(I:Inv X ab σ H s)(h:cE X.K H a xs):∃its:List Value,bj xs its/\IsTup s.heap a its.toArray/\xs.length<=aM:=by
 rcases h with h | ⟨o,its,n,hk,hc,hs,hz,r⟩
 ·obtain⟨z,its,r,p⟩:=h.ok I.aQ;exact⟨its,r,p,z⟩
 ·refine⟨its.toList,r,⟨o,I.fN a o hk,hc,n,by simpa using hs⟩, ?_⟩;have e:=r.length;simp only[xc]at e
  lia
theorem Inv.Ol(I:Inv X ab σ H s)(h:cI X.K H a xs)(h':cI X.K H a ys):xs=ys:=by
 obtain⟨its,r,⟨o,n,e,_,_,d⟩,_⟩:=I.list h;obtain⟨its',r',⟨o',n',e',_,_,d'⟩,_⟩:=I.list h';rw[e]at e';cases e';rw[d]at d';injection d' with d1 _
 have:its=its':=by simpa using congrArg Array.toList d1
 subst this;exact r.inj r'
theorem Inv.Om(I:Inv X ab σ H s)(h:cE X.K H a xs)(h':cE X.K H a ys):xs=ys:=by
 obtain⟨its,r,⟨o,e,_,n,d⟩,_⟩:=I.tuple h;obtain⟨its',r',⟨o',e',_,n',d'⟩,_⟩:=I.tuple h';rw[e]at e';cases e';rw[d]at d';injection d' with d1 _
 have:its=its':=by simpa using congrArg Array.toList d1
 subst this;exact r.inj r'
end
noncomputable abbrev Cx.qh (X:Cx) (E:Value->Shared->Prop):Cx:= { X with xe:=E }
abbrev Cx.ve(X:Cx):Cx:=X.qh λ_ _=>False
theorem Cx.Ok.qh{X:Cx}(ok:X.Ok)(E:Value->Shared->Prop):(X.qh E).Ok:=
 ⟨ok.mod,ok.kind,ok.glob,ok.blt,ok.above,ok.inj,ok.has,ok.zA,ok.hd,ok.frames,ok.u9,ok.N8,ok.bs,ok.qe,ok.zB,ok.Cy,ok.nX,ok.vc⟩
theorem Cx.Ok.sW{X:Cx}(ok:(X.qh E).Ok):X.Ok:=
 ⟨ok.mod,ok.kind,ok.glob,ok.blt,ok.above,ok.inj,ok.has,ok.zA,ok.hd,ok.frames,ok.u9,ok.N8,ok.bs,ok.qe,ok.zB,ok.Cy,ok.nX,ok.vc⟩
section
variable {X:Cx}{ab:List (Addr×Obj)}{σ:St}{H:Hp}{s:Shared}{E:Value->Shared->Prop}
theorem Inv.qh(I:Inv X ab σ H s)(E:Value->Shared->Prop):Inv (X.qh E) ab σ H s:=⟨I.ok.qh E,I.os,I.bare,I.base,I.loc,I.cell,I.free,I.nY,I.pin,I.aQ,I.len⟩
theorem Inv.sW(I:Inv (X.qh E) ab σ H s):Inv X ab σ H s:=⟨I.ok.sW,I.os,I.bare,I.base,I.loc,I.cell,I.free,I.nY,I.pin,I.aQ,I.len⟩
theorem SP.sW(h:SP (X.qh E) ab D f s'):SP X ab D f s':=by
 cases f with
 |next=>obtain⟨aF,H',I,q⟩:=h;exact⟨aF,H',I.sW,q⟩
 |brk=>obtain⟨aF,H',I,q⟩:=h;exact⟨aF,H',I.sW,q⟩
 |cont=>obtain⟨aF,H',I,q⟩:=h;exact⟨aF,H',I.sW,q⟩
 |ret u=>obtain⟨v,aF,H',I,r,q⟩:=h;exact⟨v,aF,H',I.sW,r,q⟩
theorem jc.ve{st:List Stmt}{t:TS}(h:jc X.ve st t):jc X st t:=λab s σ H D I hw=>
 ja (h ab s σ H D (I.qh _) hw) (λ_ _ q=>q.sW) λ_ _ z=>pj z
end
section
variable {X:Cx}{st:Stmt}{rest:List Stmt}{t u:TS}{e:Expr}{te:TE}{pos:Pos}
def xt:TS:=λD σ H=>D.nx σ H
def sX(t u:TS):TS:=λD σ H=>t { D with nx:=u D } σ H
theorem cQ:jc X [] xt:=λ_ _ σ H _ I h=>Nl ⟨σ,H,I,h⟩
theorem aL(h1:PS X st t)(h2:jc X rest u):jc X (st::rest) (sX t u):=by
 intro ab s σ H D I h;refine wpAny_execs_cons (bh (h1 ab s σ H { D with nx:=u D } I h) λf s1 q=> ?_);cases f with
 |next=>
  obtain⟨aF,H',I',q⟩:=q;exact h2 ab s1 aF H' D I' q
 |ret v=>exact q
 |brk=>exact q
 |cont=>exact q
theorem dY(h1:PS X st t):jc X [st] t:=by
 intro ab s σ H D I h;refine wpAny_execs_cons (bh (h1 ab s σ H D I h) λf s1 q=> ?_);cases f with
 |next=>exact Nl q
 |ret v=>exact q
 |brk=>exact q
 |cont=>exact q
theorem Inv.quiet{ab:List (Addr×Obj)}{σ:St}{H:Hp}{s:Shared}(I:Inv X ab σ H s):interactive X.env=false:=by simp[interactive,I.ok.kind]
def F9(te:TE):TS:=λD σ H=>te σ H λ_ H1=>D.nx σ H1
theorem tO(he:PE X e te)(hs:wQ e none pos.line X.env=pure false:=by rfl):PS X (.Expr e pos) (F9 te):=by
 intro ab s σ H D I h;exact wpAny_Expr_any (bh (he ab s σ H _ I h) λv s1 ⟨x,H1,I1,r1,q1⟩=>⟨σ,H1,I1,q1⟩) I.quiet hs
def qi(te:TE):TS:=λD σ H=>te σ H D.rt
theorem vf(he:PE X e te):PS X (.Return (some e) pos) (qi te):=by
 intro ab s σ H D I h;exact wpAny_Return_some (bh (he ab s σ H _ I h) λv s1 ⟨x,H1,I1,r1,q1⟩=>⟨x,σ,H1,I1,r1,q1⟩)
def arE:TS:=λD _ H=>D.rt .aG H
theorem atD:PS X (.Return none pos) arE:=λ_ _ σ H _ I h=>wpAny_Return_none ⟨.aG,σ,H,I,rfl,h⟩
def xu(c:TT)(t u:TS):TS:=λD σ H=>c σ H λb H1=>if b=true then t D σ H1 else u D σ H1
theorem bS{c:Expr}{a b:List Stmt}{tc:TT}(hc:PT X c tc)(ha:jc X a t)(hb:jc X b u):PS X (.If c a b pos) (xu tc t u):=by
 intro ab s σ H D I h;refine wpAny_If (bh (hc ab s σ H _ I h) λd s1 ⟨H1,I1,q1⟩=> ?_);cases d with
 |true=>exact ha ab s1 σ H1 D I1 q1
 |false=>exact hb ab s1 σ H1 D I1 q1
def aoz:TS:=λ_ _ _=>False
theorem arF:jc X awZ aoz:=λ_ _ _ _ _ _ h=>h.elim
end
abbrev TG:=V->St->Hp->(St->Hp->Prop)->Prop
abbrev u4:=List V->St->Hp->(St->Hp->Prop)->Prop
def PG(X:Cx)(target:Expr)(t:TG):Prop:=
 ∀(ab:List (Addr×Obj)) (s:Shared) (σ:St) (H:Hp) (v:V) (u:Value) (Q:St->Hp->Prop),Inv X ab σ H s->RelV v u->t v σ H Q->
  wpAny (model X.prog X.w) X.A (assign target X.env u) (λ_ s'=>∃aF H',Inv X ab aF H' s'/\Q aF H') X.xe s
def zG(X:Cx)(ts:List Expr)(t:u4):Prop:=
 ∀(ab:List (Addr×Obj)) (s:Shared) (σ:St) (H:Hp) (vs:List V) (us:List Value) (Q:St->Hp->Prop),Inv X ab σ H s->bj vs us->t vs σ H Q->
  wpAny (model X.prog X.w) X.A (assignInOrder ((wR ts X.env).map (·.2)) us) (λ_ s'=>∃aF H',Inv X ab aF H' s'/\Q aF H') X.xe s
abbrev Ga:=V->V->V->Hp->(Hp->Prop)->Prop
def Oo(X:Cx)(t:Ga):Prop:=
 ∀(ab:List (Addr×Obj)) (s:Shared) (σ:St) (H:Hp) (o i v:V) (ov iv u:Value) (Q:Hp->Prop),Inv X ab σ H s->RelV o ov->RelV i iv->RelV v u->t o i v H Q->
  wpAny (model X.prog X.w) X.A (setItem ov iv u) (λ_ s'=>∃H',Inv X ab σ H' s'/\Q H') X.xe s
section
variable {X:Cx}{pos:Pos}
def lB(i:Nat):TG:=λv σ H Q=>Q (σ.set i (some v)) H
theorem Gb{x:Str}(hN:X.N.Nodup)(hi:X.N[i]?=some x)(hx:Loc X.env.scope x)(hf:X.fn x=true\/X.env.scope.names.lookup x=some .local:=by first | exact .inl rfl | exact .inr rfl | assumption):PG X (.Name x pos) (lB i):=by
 intro ab s σ H v u Q I r h;exact wpAny_assign_Name (CC I hN hi hx r (λs' I'=>⟨_,H,I',h⟩) hf)
def arG:u4:=λvs σ H Q=>vs= []/\Q σ H
def vg(t:TG)(u:u4):u4:=λvs σ H Q=>∃v r,vs=v::r/\t v σ H λaF H'=>u r aF H' Q
theorem CG:zG X [] arG:=by
 intro ab s σ H vs us Q I r h;obtain⟨e,h⟩:=h;subst e;cases r;exact assignInOrder_nil ⟨σ,H,I,h⟩
theorem sY{e:Expr}{es:List Expr}{t:TG}{u:u4}(h1:PG X e t)(h2:zG X es u)
  (hs:(wR (e::es) X.env).map (·.2)=assign e X.env::(wR es X.env).map (·.2):=by rfl):zG X (e::es) (vg t u):=by
 intro ab s σ H vs us Q I r h;obtain⟨v,vr,e1,h⟩:=h;subst e1;cases r with
 |cons r rr=>
  rw[hs];refine assignInOrder_cons (bh (h1 ab s σ H _ _ _ I r h) λ_ s1 ⟨sZ,H1,I1,q1⟩=> ?_);exact h2 ab s1 sZ H1 _ _ Q I1 rr q1
def apF(K:ah)(n:Nat)(t:u4):TG:=λv σ H Q=>∃a xs,v= .ref a/\cE K H a xs/\xs.length=n/\t xs σ H Q
theorem WI{k:Nat}{t:u4}{n:Nat}(hc:X.calm=true)(h:zG X es t)
  (hn:(wR es X.env).length=n:=by rfl) (Ge:(wR es X.env).findIdx? (·.1)=none:=by rfl):PG X (.Tuple es k pos) (apF X.K n t):=by
 intro ab s σ H v u Q I r hw;obtain⟨a,xs,e1,hq,hl,hw⟩:=hw;subst e1;cases r;obtain⟨its,rv,ht,hz⟩:=I.tuple hq;refine assign_Tuple_tuple (I.ok.hd hc) ht (by simp[hn, <- hl,rv.length]) Ge λh' hx=> ?_;have I1:Inv X ab σ H { s with heap:=h' }:=I.kept (t':=s.toks) λb o e=>hx b o (dR (cW e)) e;exact h ab _ σ H xs _ Q I1 (by simpa using rv) hw
def Oq(to ti:TE)(t:Ga):TG:=λv σ H Q=>to σ H λo H1=>ti σ H1 λi H2=>t o i v H2 λH3=>Q σ H3
theorem WJ{o i:Expr}{to ti:TE}{t:Ga}(ho:PE X o to)(hi:PE X i ti)(hs:Oo X t)
  (ha:∀v,assign (.Subscript o i pos) X.env v=(do
   let ov <- holding [v] (eval o X.env)
   let iv <- holding [v,ov] (eval i X.env)
   FH pos
   holding [v,ov,iv] (setItem ov iv v)
   release [v,ov,iv] []):=by intro _;rfl):PG X (.Subscript o i pos) (Oq to ti t):=by
 intro ab s σ H v u Q I r h;rw[ha];refine az (uL (bh (ho ab s σ H _ I h) λov s1 ⟨x,H1,I1,r1,q1⟩=> ?_));refine az (uL (bh (hi ab s1 σ H1 _ I1 q1) λiv s2 ⟨y,H2,I2,r2,q2⟩=> ?_));refine az (U8 (az (uL (bh (hs ab s2 σ H2 x y v ov iv u _ I2 r1 r2 r q2) λ_ s3 ⟨H3,I3,q3⟩=> ?_))));exact wpAny_release ⟨σ,H3,I3,q3⟩
def vh(te:TE)(g:TG):TS:=λD σ H=>te σ H λx H1=>g x σ H1 D.nx
theorem WK{tg e:Expr}{te:TE}{g:TG}(he:PE X e te)(hg:PG X tg g)(hs:swapsWithSole [tg] e pos.line X.env=pure false:=by rfl)(hw:swappedStores [tg] e X.env=pure none:=by rfl)
  (h1:(wR [tg] X.env).map (·.2)= [assign tg X.env]:=by rfl):PS X (.Assign [tg] e pos) (vh te g):=by
 intro ab s σ H D I h;refine wpAny_Assign_stores (bh (he ab s σ H _ I h) λv s1 ⟨x,H1,I1,r1,q1⟩=> ?_) hs hw;rw[h1];exact bh (hg ab s1 σ H1 x v _ I1 r1 q1) λ_ s2 q=>q
theorem WL{i:Nat}{x:Str}{e:Expr}{te:TE}{pos':Pos}(hN:X.N.Nodup)(hi:X.N[i]?=some x)(hx:Loc X.env.scope x)(he:PE X e te)(hs:wQ e (some (.Name x pos')) pos.line X.env=pure false:=by rfl)(hf:X.fn x=true\/X.env.scope.names.lookup x=some .local:=by first | exact .inl rfl | exact .inr rfl | assumption):
  PS X (.Assign [.Name x pos'] e pos) (vh te (lB i)):=by
 intro ab s σ H D I h;refine wpAny_Assign_Name (bh (he ab s σ H _ I h) λv s1 ⟨y,H1,I1,r1,q1⟩=> ?_) hs;exact CC I1 hN hi hx r1 (λs2 I2=>⟨_,H1,I2,q1⟩) hf
end
structure It where
 go:Nat->Hp->Prop
 s9:Nat->Hp->V->Hp->Prop
 stop:Nat->Hp->Prop
def jT(X:Cx)(ab:List (Addr×Obj))(H:Hp)(b:Addr):Prop:=
 H b=none/\b≠X.env.locals/\b∉X.fs/\(b∈X.ex\/X.gT.heap.objs.size<=b)/\(∀x c,X.env.cells.lookup x=some c->c≠b)/\∀p∈X.pn++ab,p.1≠b
theorem Inv.Aa{X:Cx}{ab:List (Addr×Obj)}{σ:St}{H H':Hp}{s:Shared}{b:Addr}(I:Inv X ab σ H s)(hb:s.heap.objs.size<=b)(hn:H' b=none):jT X ab H' b:=by
 refine⟨hn,pk (dI I.lt hb),I.FZ hb, .inr (b7 I.sz hb),λx c e z=> ?_,λp hp z=> ?_⟩
 ·obtain⟨v,q⟩:=I.cell x c e;exact absurd (dI q.lt (by rw[z];exact hb)) (mI _)
 ·exact absurd (dI (cW (I.pin p hp).1) (by rw[z];exact hb)) (mI _)
structure Turn(P:Program)(w:World)(K:ah)(tg:Expr)(J:It)(fp:List Addr)(it:Addr)(tn:Nat->Heap->Prop):Prop where
 mem:it∈fp
 obj:∀i h,tn i h->∀b∈fp,∃o,h.get? b=some o/\∀v,o.data≠ .cell v
 keep:∀i h h',tn i h->(∀b∈fp,∀o,h.get? b=some o->h'.get? b=some o)->tn i h'
 item:∀(X:Cx),X.prog=P->X.w=w->X.K=K->X.calm=true->∀(i:Nat) (ab:List (Addr×Obj)) (s:Shared) (σ:St) (H:Hp) (E:Value->Shared->Prop),Inv X ab σ H s->(∀b∈fp,jT X ab H b)->tn i s.heap->J.go i H->
  wpAny (model P w) X.A (pyNext (.ref it)) (λr s1=>∃u,r=some u/\
   wpAny (model P w) X.A (Nm tg (.ref it) u) (λ_ s2=>∃x H',Inv X ab σ H' s2/\RelV x u/\J.s9 i H x H'/\tn (i + 1) s2.heap/\∀b∈fp,H' b=none) E s1) E s
 done:∀(X:Cx),X.prog=P->X.w=w->X.K=K->X.calm=true->∀(i:Nat) (ab:List (Addr×Obj)) (s:Shared) (σ:St) (H:Hp) (E:Value->Shared->Prop),Inv X ab σ H s->(∀b∈fp,jT X ab H b)->tn i s.heap->J.stop i H->
  wpAny (model P w) X.A (pyNext (.ref it)) (λr s1=>r=none/\Inv X ab σ H s1) E s
 self:∀(A:Around) (i:Nat) (s:Shared) (Q:Value->Shared->Prop) (E:Value->Shared->Prop),tn i s.heap->Q (.ref it) s->wpAny (model P w) A (pyIter (.ref it)) Q E s
abbrev TI:=St->Hp->(It->Hp->Prop)->Prop
def CI(X:Cx)(ab:List (Addr×Obj))(σ:St)(tg:Expr)(R:It->Hp->Prop)(Gg:Value)(s2:Shared):Prop:=
 ∃(it:Addr) (fp:List Addr) (tn:Nat->Heap->Prop) (J:It) (H':Hp),Gg= .ref it/\Inv X ab σ H' s2/\Turn X.prog X.w X.K tg J fp it tn/\tn 0 s2.heap/\(∀b∈fp,jT X ab H' b)/\R J H'
def PI(X:Cx)(tg iter:Expr)(wi:TI):Prop:=
 ∀(ab:List (Addr×Obj)) (s:Shared) (σ:St) (H:Hp) (R:It->Hp->Prop),Inv X ab σ H s->wi σ H R->
  wpAny (model X.prog X.w) X.A (eval iter X.env) (λv s1=>wpAny (model X.prog X.w) X.A (pyIter v) (CI X ab σ tg R) X.xe s1) X.xe s
theorem Ab{M:Model}{A:Around}{E:Value->Shared->Prop}{s:Shared}{tg:Expr}{u:Value}{o:Obj}{Q:Unit->Shared->Prop}(ho:s.heap.get? it=some o)(hc:o.cls= .type n)(hd:o.data= .fields vs)
  (hn: ["enumerate","zip","dict_itemiterator","dict_reverseitemiterator","odict_iterator","itertools.zip_longest","itertools.pairwise"].contains n=false) (hQ:Q () s):wpAny M A (Nm tg (.ref it) u) Q E s:=by
 unfold Nm;cases tg <;> first
  |exact bF hQ
  |(cases u <;> first
    |exact bF hQ
    |(refine az (wpAny_load ho ?_);rw[hc,hd];show wpAny M A (if(["enumerate","zip","dict_itemiterator","dict_reverseitemiterator","odict_iterator","itertools.zip_longest","itertools.pairwise"].contains n && vs[0]? == some (rawInt _))=true then _ else _) Q E s;rw[if_neg (by intro h;rw[hn,Bool.false_and]at h;cases h)];exact bF hQ))
def u5(K:ah)(a:Addr):It:=
 ⟨λi H=>∃xs x,cI K H a xs/\xs[i]?=some x,λi H x H'=>H'=H/\∀xs,cI K H a xs->xs[i]?=some x,λi H=>∃xs,cI K H a xs/\xs.length<=i⟩
def CJ(K:ah)(a:Addr):It:=
 ⟨λi H=>∃xs x,cE K H a xs/\xs[i]?=some x,λi H x H'=>H'=H/\∀xs,cE K H a xs->xs[i]?=some x,λi H=>∃xs,cE K H a xs/\xs.length<=i⟩
def Ac(lo:Int)(n:Nat):It:=⟨λi _=>i < n,λi H x H'=>H'=H/\x= .int (lo + i),λi _=>n<=i⟩
theorem WQ{P:Program}{w:World}{K:ah}{tg:Expr}(a it:Addr):Turn P w K tg (u5 K a) [it] it (λi h=>h.IsListIter it a i) where
 mem:=by simp
 obj:=λi h st b hb=>by
  have e:b=it:=by simpa using hb
  subst e;obtain⟨o,e,c,d⟩:=st;exact⟨o,e,λv z=>by rw[d]at z;cases z⟩
 keep:=λi h h' st k=>st.at λo e=>k it (by simp) o e
 item:=by
  intro X hP hw hK hc i ab s σ H E I hf st hg;subst hP hw hK;obtain⟨xs,x,hq,hx⟩:=hg;obtain⟨its,rv,p,hz⟩:=I.list hq;obtain⟨u,hu,ru⟩:=rv.get hx;obtain⟨f0,f1,f2,f3,f4,f5⟩:=hf it (by simp);refine wpAny_pyNext_list_item st p.isList (x:=u) (by simpa using hu) λh' kF sb=> ?_;have I1:Inv X ab σ H { s with heap:=h' }:=I.turned (t':=s.toks) (λb o hb e=>(sb.2 b hb).trans e) f0 f1 f3 f4 f5;obtain⟨o,e,c,d⟩:=id kF;exact⟨u,rfl,Ab (s:= { s with heap:=h' }) e c d (by decide) ⟨x,H,I1,ru,⟨rfl,λys hy=>by rw[I.Ol hy hq];exact hx⟩,kF,λb hb=>(hf b hb).1⟩⟩
 done:=by
  intro X hP hw hK hc i ab s σ H E I hf st hg;subst hP hw hK;obtain⟨xs,hq,hx⟩:=hg;obtain⟨its,rv,p,hz⟩:=I.list hq;obtain⟨f0,f1,f2,f3,f4,f5⟩:=hf it (by simp);have hl:=rv.length;exact awD (I.ok.hd hc) st p.isList (by simp;lia) λh' eb=>⟨rfl,I.turned (t':=s.toks) (λb o hb e=>eb b o hb e) f0 f1 f3 f4 f5⟩
 self:=λ_ _ _ _ _ st h=>wpAny_pyIter_listiter st h
theorem WR{P:Program}{w:World}{K:ah}{tg:Expr}(a it:Addr):Turn P w K tg (CJ K a) [it] it (λi h=>h.IsTupleIter it a i) where
 mem:=by simp
 obj:=λi h st b hb=>by
  have e:b=it:=by simpa using hb
  subst e;obtain⟨o,e,c,d⟩:=st;exact⟨o,e,λv z=>by rw[d]at z;cases z⟩
 keep:=λi h h' st k=>st.at λo e=>k it (by simp) o e
 item:=by
  intro X hP hw hK hc i ab s σ H E I hf st hg;subst hP hw hK;obtain⟨xs,x,hq,hx⟩:=hg;obtain⟨its,rv,p,hz⟩:=I.tuple hq;obtain⟨u,hu,ru⟩:=rv.get hx;obtain⟨f0,f1,f2,f3,f4,f5⟩:=hf it (by simp);refine wpAny_pyNext_tuple_item st (show s.heap.IsTuple a its.toArray from p) (x:=u) (by simpa using hu) λh' kF sb=> ?_;have I1:Inv X ab σ H { s with heap:=h' }:=I.turned (t':=s.toks) (λb o hb e=>(sb.2 b hb).trans e) f0 f1 f3 f4 f5;obtain⟨o,e,c,d⟩:=id kF;exact⟨u,rfl,Ab (s:= { s with heap:=h' }) e c d (by decide) ⟨x,H,I1,ru,⟨rfl,λys hy=>by rw[I.Om hy hq];exact hx⟩,kF,λb hb=>(hf b hb).1⟩⟩
 done:=by
  intro X hP hw hK hc i ab s σ H E I hf st hg;subst hP hw hK;obtain⟨xs,hq,hx⟩:=hg;obtain⟨its,rv,p,hz⟩:=I.tuple hq;obtain⟨f0,f1,f2,f3,f4,f5⟩:=hf it (by simp);have hl:=rv.length;exact wpAny_pyNext_tuple_end (I.ok.hd hc) st (show s.heap.IsTuple a its.toArray from p) (by simp;lia) λh' eb=>⟨rfl,I.turned (t':=s.toks) (λb o hb e=>eb b o hb e) f0 f1 f3 f4 f5⟩
 self:=λ_ _ _ _ _ st h=>wpAny_pyIter_tupleiter st h
theorem WS{P:Program}{w:World}{K:ah}{tg:Expr}(it:Addr)(lo:Int)(n:Nat):Turn P w K tg (Ac lo n) [it] it (λi h=>IsRangeIter h it (lo + (i:Nat) * 1) ((n:Int) - (i:Nat)) 1) where
 mem:=by simp
 obj:=λi h st b hb=>by
  have e:b=it:=by simpa using hb
  subst e;exact⟨_,st,λv z=>by
   have z':Data.fields _=Data.cell v:=z;cases z'⟩
 keep:=λi h h' st k=>k it (by simp) _ st
 item:=by
  intro X hP hw hK hc i ab s σ H E I hf st hg;subst hP hw hK;obtain⟨f0,f1,f2,f3,f4,f5⟩:=hf it (by simp);have W:=Walks.range (prog:=X.prog) (w:=X.w) (I.ok.hd hc) it lo 1 n;refine W.item i s _ _ hg st λv h' tk hv kF kk=> ?_;obtain⟨t,rfl⟩:=hv;have I1:Inv X ab σ H { s with heap:=h',toks:=tk }:=I.turned (λb o hb e=>kk b o (by simpa using hb) e) f0 f1 f3 f4 f5;refine⟨_,rfl,Ab (s:= { s with heap:=h',toks:=tk }) (n:="range_iterator") kF rfl rfl (by decide) ⟨.int (lo + i),H,I1,⟨t, ?_⟩,⟨rfl,rfl⟩,kF,λb hb=>(hf b hb).1⟩⟩;rw[Int.mul_one]
 done:=by
  intro X hP hw hK hc i ab s σ H E I hf st hg;subst hP hw hK;obtain⟨f0,f1,f2,f3,f4,f5⟩:=hf it (by simp);exact wpAny_pyNext_range_end (I.ok.hd hc) st (by have:n<=i:=hg;lia) λh' eb=>⟨rfl,I.turned (t':=s.toks) (λb o hb e=>eb b o hb e) f0 f1 f3 f4 f5⟩
 self:=λ_ _ _ _ _ st h=>wpAny_pyIter_rangeiter st h
section
variable {X:Cx}{tg:Expr}
theorem Ow{ab:List (Addr×Obj)}{σ:St}{H:Hp}{s:Shared}{R:It->Hp->Prop}{E:Value->Shared->Prop}{lo hi:Int}{t u v:Tok}{tk:Nat}(I:Inv X ab σ H s)(h1: -(2 ^ 62)<=lo)(h2:lo < 2 ^ 62)(h3: -(2 ^ 62)<=hi)(h4:hi < 2 ^ 62)
  (q:R (Ac lo (hi - lo).toNat) H):wpAny (model X.prog X.w) X.A (pyIter (.ref s.heap.objs.size)) (CI X ab σ tg R) E { s with heap:=s.heap.push { cls:= .type "range",data:= .fields #[.int lo t, .int hi u, .int 1 v] },toks:=tk }:=by
 refine wpAny_pyIter_range (IsRange.new ..) (small_one h1 h2 h3 h4) ?_;have I1:Inv X ab σ H { s with heap:=s.heap.push { cls:= .type "range",data:= .fields #[.int lo t, .int hi u, .int 1 v] },toks:=tk }:=I.kept λb o e=>cB _ e;refine⟨(s.heap.push { cls:= .type "range",data:= .fields #[.int lo t, .int hi u, .int 1 v] }).objs.size, [(s.heap.push { cls:= .type "range",data:= .fields #[.int lo t, .int hi u, .int 1 v] }).objs.size],_,_,H,rfl,
  I1.kept (t':=tk) λb o e=>cB _ e,WS _ lo (hi - lo).toNat, ?_,λb hb=> ?_,q⟩
 ·have e1:lo + ((0:Nat):Int) * 1=lo:=by simp
  have e2:(((hi - lo).toNat:Nat):Int) - ((0:Nat):Int)=Builtin.Range.rangeSize lo hi 1:=by rw[rangeSize_one];split <;> lia
  show IsRangeIter _ _ (lo + ((0:Nat):Int) * 1) ((((hi - lo).toNat:Nat):Int) - ((0:Nat):Int)) 1;rw[e1,e2];exact gc _ rfl
 ·have e:b=(s.heap.push { cls:= .type "range",data:= .fields #[.int lo t, .int hi u, .int 1 v] }).objs.size:=by simpa using hb
  subst e;exact I1.Aa (bO _) (I1.aQ.fresh (bO _))
def CK(ta:TA):TI:=λσ H R=>ta σ H λvs H1=>∃j:Int,vs= [.int j]/\ -(2 ^ 62)<=j/\j < 2 ^ 62/\R (Ac 0 j.toNat) H1
def Ox(ta:TA):TI:=λσ H R=>ta σ H λvs H1=>∃i j:Int,vs= [.int i, .int j]/\(-(2 ^ 62)<=i/\i < 2 ^ 62/\ -(2 ^ 62)<=j/\j < 2 ^ 62)/\R (Ac i (j - i).toNat) H1
theorem CL{a:Expr}{ta:TA}{p pos:Pos}(hg:Gl X "range")(hm:X.mg "range"=none)(ha:PA X [a] ta)(hs:dz [a] X.env= [(false,eval a X.env)]:=by rfl):PI X tg (.Call (.Name "range" p) [a] [] pos) (CK ta):=by
 intro ab s σ H R I h;refine Call_ (xq I hg hm boot_range (Ny (bh (ha pos ab s σ H _ I h) λus s1 ⟨vs,H1,I1,r1,q1⟩=> ?_) hs rfl));obtain⟨j,e,q1,q2,q⟩:=q1;subst e;cases r1 with
 |cons r rr=>
  cases rr;obtain⟨t,rfl⟩:=r;exact call_range_1 (Ow I1 (by lia) (by lia) q1 q2 (by simpa using q))
theorem WT{a b:Expr}{ta:TA}{p pos:Pos}(hg:Gl X "range")(hm:X.mg "range"=none)(ha:PA X [a,b] ta)(hs:dz [a,b] X.env= [(false,eval a X.env),(false,eval b X.env)]:=by rfl)(lC:dz [b] X.env= [(false,eval b X.env)]:=by rfl):
  PI X tg (.Call (.Name "range" p) [a,b] [] pos) (Ox ta):=by
 intro ab s σ H R I h;refine Call_ (xq I hg hm boot_range (Ny (bh (ha pos ab s σ H _ I h) λus s1 ⟨vs,H1,I1,r1,q1⟩=> ?_) (by rw[hs,lC]) (by rw[lC];rfl)));obtain⟨i,j,e,⟨q1,q2,q3,q4⟩,q⟩:=q1;subst e;cases r1 with
 |cons r rr=>
  cases rr with
  |cons r' rr=>
   cases rr;obtain⟨t,rfl⟩:=r;obtain⟨t',rfl⟩:=r';exact call_range_2 (Ow I1 q1 q2 q3 q4 q)
def xv(wi:TI)(g:TG)(tb:TS):TS:=λD σ H=>wi σ H λJ H1=>∃W:Nat->Nat->St->Hp->Prop,(∃m,W 0 m σ H1)/\∀i m σ H,W i m σ H->
 (J.stop i H/\D.nx σ H)\/(J.go i H/\∃N:St->Hp->Prop,(∀aF H',N aF H'->∃m',m' < m/\W (i + 1) m' aF H')/\∀x H',J.s9 i H x H'->g x σ H' λeY H2=>tb { D with nx:=N,ct:=N,bk:=D.nx } eY H2)
noncomputable def Ad (fp:List Addr) (h:Heap):List (Addr×Obj):=fp.filterMap λb=>(h.get? b).map λo=>(b,o)
theorem CM{h:Heap}{b:Addr}{o:Obj}(hb:b∈fp)(e:h.get? b=some o):(b,o)∈Ad fp h:=Vy.mpr ⟨b,hb,by rw[e];rfl⟩
theorem WU{h:Heap}{p:Addr×Obj}(hp:p∈Ad fp h):p.1∈fp/\h.get? p.1=some p.2:=by
 obtain⟨b,hb,e⟩:=Vy.mp hp;cases q:h.get? b with
 |none=>rw[q]at e;cases e
 |some o=>
  rw[q]at e;have e':(b,o)=p:=hV e;subst e';exact⟨hb,q⟩
theorem Inv.pinned{ab:List (Addr×Obj)}{σ:St}{H:Hp}{s:Shared}(I:Inv X ab σ H s)(hf:∀b∈fp,jT X ab H b)(ho:∀b∈fp,∃o,s.heap.get? b=some o/\∀v,o.data≠ .cell v):Inv X (ab++Ad fp s.heap) σ H s:=
 I.CB λp hp=>(lZ.mp hp).elim (λz=>I.pin p (kg _ z)) λz=>by
  obtain⟨hb,e⟩:=WU z;obtain⟨f0,f1,f2,_⟩:=hf p.1 hb;obtain⟨o,e',d⟩:=ho p.1 hb;rw[e]at e';cases e';exact⟨e,f0,f1,f2,d⟩
theorem Inv.CN{ab pl:List (Addr×Obj)}{σ:St}{H:Hp}{s:Shared}(I:Inv X (ab++pl) σ H s):Inv X ab σ H s:=I.CB λp hp=>I.pin p (kg _ (arx _ hp))
theorem tq{iter:Expr}{body:List Stmt}{wi:TI}{g:TG}{tb:TS}{pos:Pos}(hp:PassesOwn (model X.prog X.w) X.A X.env X.xe)(hc:X.calm=true)(hi:PI X tg iter wi)(hg:PG X tg g)(hb:jc X body tb)
  (hs:∀x,ats iter X.env x=pure x:=by intro _;rfl):PS X (.For tg iter body [] pos) (xv wi g tb):=by
 intro ab s σ H D I h;refine wpAny_For (bh (hi ab s σ H _ I h) λv s1 h1=>bh h1 λGg s2 h2=> ?_) hs;obtain⟨it,fp,tn,J,H2,e,I2,T,dJ,f2,W,⟨m0,w0⟩,turn⟩:=h2;subst e
 -- what alR true of the aiT objects through the loop
 have vi:∀{H':Hp},(∀b∈fp,H' b=none)->∀b∈fp,jT X ab H' b:=λhn b hb=>⟨hn b hb,(f2 b hb).2⟩
 refine codeAny_forLoop_any (λn s'=>∃i aF H',Inv X ab aF H' s'/\tn i s'.heap/\(∀b∈fp,H' b=none)/\W i n aF H') ?_ m0 ⟨0,σ,H2,I2,dJ,λb hb=>(f2 b hb).1,w0⟩;rintro n s3 ⟨i,gp,H3,I3,gZ,Oy,w3⟩;rcases turn i n gp H3 w3 with⟨stop,qn⟩ | ⟨go,N,hN,step⟩
 ·refine zd hp (bh (T.done X rfl rfl rfl hc i ab s3 gp H3 X.xe I3 (vi Oy) gZ stop) λr s4 ⟨hr,I4⟩=> ?_);subst hr;exact Nl ⟨gp,H3,I4,qn⟩
 ·refine zd hp (bh (T.item X rfl rfl rfl hc i ab s3 gp H3 X.xe I3 (vi Oy) gZ go) λr s4 ⟨u,hr,h4⟩=> ?_);subst hr;refine zd hp (bh h4 λ_ s5 ⟨x,H5,I5,r5,y5,rf,Gh⟩=> ?_);have WV:=I5.pinned (vi Gh) (T.obj _ _ rf);refine zd hp (bh (hg _ s5 gp H5 x u _ WV r5 (step x H5 y5)) λ_ s6 ⟨ou,H6,I6,q6⟩=> ?_);refine zd hp (bh (hb _ s6 ou H6 _ I6 q6) λf s7 q7=> ?_);have again:∀{md:St} {H7:Hp},Inv X (ab++Ad fp s5.heap) md H7 s7->N md H7->∃m,m < n/\∃i aF H',Inv X ab aF H' s7/\tn i s7.heap/\(∀b∈fp,H' b=none)/\W i m aF H':=λ{md H7} I7 n7=>by
   obtain⟨m',hm,w7⟩:=hN md H7 n7;refine⟨m',hm,i + 1,md,H7,I7.CN,T.keep _ _ _ rf λb hb o e=>(I7.pin (b,o) (kg _ (kg _ (CM hb e)))).1,λb hb=> ?_,w7⟩;obtain⟨o,e,d⟩:=T.obj _ _ rf b hb;exact(I7.pin (b,o) (kg _ (kg _ (CM hb e)))).2.1
  cases f with
  |next=>obtain⟨md,H7,I7,n7⟩:=q7;exact again I7 n7
  |cont=>obtain⟨md,H7,I7,n7⟩:=q7;exact again I7 n7
  |brk=>obtain⟨md,H7,I7,q7⟩:=q7;exact⟨md,H7,I7.CN,q7⟩
  |ret v=>obtain⟨x7,md,H7,I7,r7,q7⟩:=q7;exact⟨x7,md,H7,I7.CN,r7,q7⟩
end
abbrev R2:=V->V->Hp->VK->Prop
def cu(X:Cx)(f:Value->Value->Sem Value)(r:R2):Prop:=
 ∀(ab:List (Addr×Obj)) (s:Shared) (σ:St) (H:Hp) (x y:V) (v u:Value) (Q:VK),Inv X ab σ H s->RelV x v->RelV y u->r x y H Q->
  wpAny (model X.prog X.w) X.A (f v u) (EP X ab σ Q) X.xe s
def fT(X:Cx)(f:Value)(r:List V->Hp->VK->Prop):Prop:=
 ∀(ab:List (Addr×Obj)) (s:Shared) (σ:St) (H:Hp) (xs:List V) (us:List Value) (Q:VK),Inv X ab σ H s->bj xs us->r xs H Q->
  wpAny (model X.prog X.w) X.A (call f us) (EP X ab σ Q) X.xe s
def ig(r:R2)(ta tb:TE):TE:=λσ H Q=>ta σ H λx H1=>tb σ H1 λy H2=>r x y H2 Q
def rI(C:Int->Int->Prop)(g:Int->Int->V):R2:=λx y H Q=>∃i j,x= .int i/\y= .int j/\C i j/\Q (g i j) H
def qj(g:Int->Int->V):R2:=λx y H Q=>∃i j,x= .int i/\y= .int j/\Q (g i j) H
section
variable {X:Cx}{a b c:Expr}{ta tb tc:TE}{pos:Pos}
theorem Gj(ha:PE X a ta)(hb:PE X b tb){ab:List (Addr×Obj)}{s:Shared}{σ:St}{H:Hp}{R:V->V->Hp->Prop}(I:Inv X ab σ H s)
  (h:ta σ H λx H1=>tb σ H1 λy H2=>R x y H2) {Q:Value->Shared->Prop} {f:Value->Value->Sem Value}
  (hf:∀v u s2 x y H2,Inv X ab σ H2 s2->RelV x v->RelV y u->R x y H2->wpAny (model X.prog X.w) X.A (f v u) Q X.xe s2):
  wpAny (model X.prog X.w) X.A (eval a X.env) (λv dD=>wpAny (model X.prog X.w) X.A (eval b X.env) (λu CO=>wpAny (model X.prog X.w) X.A (f v u) Q X.xe CO) X.xe dD) X.xe s:=by
 refine bh (ha ab s σ H _ I h) λv s1 ⟨x,H1,I1,r1,q1⟩=> ?_;refine bh (hb ab s1 σ H1 _ I1 q1) λu s2 ⟨y,H2,I2,r2,q2⟩=> ?_;exact hf v u s2 x y H2 I2 r1 r2 q2
theorem cF(ho:cu X (binaryOp op) r)(ha:PE X a ta)(hb:PE X b tb):PE X (.BinOp a op b pos) (ig r ta tb):=by
 intro ab s σ H Q I h;exact wpAny_BinOp (Gj ha hb I h λv u s2 x y H2 I2 rx ry q=>ho ab s2 σ H2 x y v u Q I2 rx ry q)
theorem CP{f:Value->Value->Sem Value}{C:Int->Int->Prop}{g:Int->Int->Int}
  (rule:∀(i j:Int) (t u:Tok) (s:Shared) (Q:Value->Shared->Prop) (E:Value->Shared->Prop),C i j->Q (.int (g i j) s.toks) { s with toks:=s.toks + 1 }->wpAny (model X.prog X.w) X.A (f (.int i t) (.int j u)) Q E s):
  cu X f (rI C λi j=> .int (g i j)):=by
 intro ab s σ H x y v u Q I rx ry h;obtain⟨i,j,rfl,rfl,hc,q⟩:=h;obtain⟨t,rfl⟩:=rx;obtain⟨t',rfl⟩:=ry;exact rule i j t t' s _ _ hc ⟨.int (g i j),H,I.tok _,⟨_,rfl⟩,q⟩
theorem OA{f:Value->Value->Sem Value}{g:Int->Int->Int}
  (rule:∀(i j:Int) (t u:Tok) (s:Shared) (Q:Value->Shared->Prop) (E:Value->Shared->Prop),Q (.int (g i j) s.toks) { s with toks:=s.toks + 1 }->wpAny (model X.prog X.w) X.A (f (.int i t) (.int j u)) Q E s):
  cu X f (qj λi j=> .int (g i j)):=by
 intro ab s σ H x y v u Q I rx ry h;obtain⟨i,j,rfl,rfl,q⟩:=h;obtain⟨t,rfl⟩:=rx;obtain⟨t',rfl⟩:=ry;exact rule i j t t' s _ _ ⟨.int (g i j),H,I.tok _,⟨_,rfl⟩,q⟩
theorem CQ{f:Value->Value->Sem Value}{g:Int->Int->Bool}
  (rule:∀(i j:Int) (t u:Tok) (s:Shared) (Q:Value->Shared->Prop) (E:Value->Shared->Prop),Q (.bool (g i j)) s->wpAny (model X.prog X.w) X.A (f (.int i t) (.int j u)) Q E s):
  cu X f (qj λi j=> .bl (g i j)):=by
 intro ab s σ H x y v u Q I rx ry h;obtain⟨i,j,rfl,rfl,q⟩:=h;obtain⟨t,rfl⟩:=rx;obtain⟨t',rfl⟩:=ry;exact rule i j t t' s _ _ ⟨.bl (g i j),H,I,rfl,q⟩
def qk(i j:Int):Prop:=0<=j/\j<=1000000/\i.natAbs < 2 ^ 64
def mM(i j:Int):Prop:=(-(2 ^ 64) < i/\i < 2 ^ 64)\/(-(2 ^ 64) < j/\j < 2 ^ 64)
theorem mM.ok(h:mM i j):IntMulOk i j:=by
 rcases h with⟨h1,h2⟩ | ⟨h1,h2⟩
 ·exact .of_left (intBits_le_64 h1 h2)
 ·exact .of_right (intBits_le_64 h1 h2)
theorem WX:cu X (binaryOp .Add) (qj λi j=> .int (i + j)):=OA λ_ _ _ _ _ _ _ q=>add_int q
theorem OB:cu X (binaryOp .Sub) (qj λi j=> .int (i - j)):=OA λ_ _ _ _ _ _ _ q=>sub_int q
theorem tu:cu X (binaryOp .Mult) (rI mM λi j=> .int (i * j)):=CP λ_ _ _ _ _ _ _ hc q=>mul_int q hc.ok
theorem Ae:cu X (binaryOp .Mod) (rI (λ_ j=>0 < j) λi j=> .int (i % j)):=CP λi j _ _ _ _ _ hc q=>by
 have h1:(0:Int) < j:=hc;exact mod_int' (by lia) (by rw[Int.fmod_eq_emod_of_nonneg i (by lia)];exact q)
theorem WY:cu X (binaryOp .Pow) (rI qk λi j=> .int (i ^ j.toNat)):=CP λ_ _ _ _ _ _ _ hc q=>pow_int_small hc.1 hc.2.1 hc.2.2 q
theorem Gp{ab:List (Addr×Obj)}{σ:St}{H:Hp}{s:Shared}{Q:VK}(I:Inv X ab σ H s)(q:Q (.bl k) H)(e:k=k'):EP X ab σ Q (.bool k') s:=by
 subst e;exact⟨.bl k,H,I,rfl,q⟩
theorem W0:cu X (compareOp .Lt) (qj λi j=> .bl (decide (i < j))):=CQ λ_ _ _ _ _ _ _ q=>lt_int q
theorem xw:cu X (compareOp .LtE) (qj λi j=> .bl (decide (i<=j))):=CQ λ_ _ _ _ _ _ _ q=>le_int q
theorem Gq:cu X (compareOp .Gt) (qj λi j=> .bl (decide (j < i))):=CQ λ_ _ _ _ _ _ _ q=>gt_int q
theorem W2:cu X (compareOp .GtE) (qj λi j=> .bl (decide (j<=i))):=CQ λ_ _ _ _ _ _ _ q=>ge_int q
theorem W3:cu X (compareOp .In) (λx y H Q=>∃i j,x= .str i/\y= .str j/\Q (.bl (!(Nz j i 0 j.length 1).isEmpty)) H):=by
 intro ab s σ H x y v u Q I rx ry h;obtain⟨i,j,rfl,rfl,q⟩:=h;obtain⟨t,rfl⟩:=rx;obtain⟨t',rfl⟩:=ry;exact in_str (Gp I q rfl)
theorem rg(b:Expr)(h:op≠ .In:=by decide)(h2:op≠ .NotIn:=by decide):B3 op b=false:=by
 have e1:(op == CmpOp.In)=false:=by cases op <;> first | rfl | exact absurd rfl h
 have e2:(op == CmpOp.NotIn)=false:=by cases op <;> first | rfl | exact absurd rfl h2
 cases b <;> simp[B3,e1,e2]
theorem jd(ho:cu X (compareOp op) r)(ha:PE X a ta)(hb:PE X b tb)(hm:B3 op b=false):PE X (.Compare a [op] [b] pos) (ig r ta tb):=by
 intro ab s σ H Q I h;exact wpAny_Compare1 (Gj ha hb I h λv u s2 x y H2 I2 rx ry q=>ho ab s2 σ H2 x y v u Q I2 rx ry q) hm
def ahc(t:TE):TT:=λσ H Q=>t σ H λx H'=>∃k,x= .bl k/\Q k H'
theorem iM(ho:cu X (compareOp op) r)(ha:PE X a ta)(hb:PE X b tb)(hm:B3 op b=false):PT X (.Compare a [op] [b] pos) (ahc (ig r ta tb)):=by
 intro ab s σ H Q I h;refine wpAny_isTrue_Compare1 (bh (ha ab s σ H _ I h) λv s1 ⟨x,H1,I1,r1,q1⟩=>bh (hb ab s1 σ H1 _ I1 q1) λu s2 ⟨y,H2,I2,r2,q2⟩=>
  bh (ho ab s2 σ H2 x y v u _ I2 r1 r2 q2) λc s3 ⟨z,H3,I3,r3,k,e,q3⟩=> ?_) hm
 subst e;cases r3;exact uK ⟨H3,I3,q3⟩
theorem vm:(aM:Nat) < 2 ^ 63:=by rw[mG];decide
theorem W9:cu X (binaryOp .Add) (λx y H Q=>∃i j,x= .str i/\y= .str j/\i.length + j.length<=aM/\Q (.str (i++j)) H):=by
 intro ab s σ H x y v u Q I rx ry h;obtain⟨i,j,rfl,rfl,hz,q⟩:=h;obtain⟨t,rfl⟩:=rx;obtain⟨t',rfl⟩:=ry;exact add_str (λt' tk=>⟨.str (i++j),H,I.tok _,⟨_,rfl⟩,q⟩) hz
theorem vals1{x:V}(r:bj [x] us):∃u,us= [u]/\RelV x u:=by
 cases r with
 |cons r1 r2=>cases r2;exact⟨_,rfl,r1⟩
theorem vals2{x y:V}(r:bj [x,y] us):∃u w',us= [u,w']/\RelV x u/\RelV y w':=by
 cases r with
 |cons r1 r2=>
  cases r2 with
  |cons r3 r4=>cases r4;exact⟨_,_,rfl,r1,r3⟩
theorem Xb(hc:X.calm=true):fT X (.builtin "max") (λxs H Q=>∃i j,xs= [.int i, .int j]/\Q (.int (if j > i then j else i)) H):=by
 intro ab s σ H xs us Q I r h;obtain⟨i,j,rfl,q⟩:=h;obtain⟨u,w',rfl,⟨t,rfl⟩,⟨t',rfl⟩⟩:=vals2 r;refine max_two_ints (I.ok.hd hc) λh' tk k=>⟨_,H,I.kept k, ?_,q⟩
 by_cases hj:j > i
 ·rw[if_pos hj,if_pos hj];exact⟨_,rfl⟩
 ·rw[if_neg hj,if_neg hj];exact⟨_,rfl⟩
theorem Xc(hc:X.calm=true):fT X (.builtin "min") (λxs H Q=>∃i j,xs= [.int i, .int j]/\Q (.int (if j < i then j else i)) H):=by
 intro ab s σ H xs us Q I r h;obtain⟨i,j,rfl,q⟩:=h;obtain⟨u,w',rfl,⟨t,rfl⟩,⟨t',rfl⟩⟩:=vals2 r;refine min_two_ints (I.ok.hd hc) λh' tk k=>⟨_,H,I.kept k, ?_,q⟩
 by_cases hj:j < i
 ·rw[if_pos hj,if_pos hj];exact⟨_,rfl⟩
 ·rw[if_neg hj,if_neg hj];exact⟨_,rfl⟩
theorem Xd:fT X (.type "int") (λxs H Q=>(∃i,xs= [.int i]/\Q (.int i) H)\/∃k,xs= [.bl k]/\Q (.int (if k then 1 else 0)) H):=by
 intro ab s σ H xs us Q I r h;rcases h with⟨i,rfl,q⟩ | ⟨k,rfl,q⟩
 ·obtain⟨u,rfl,t,rfl⟩:=vals1 r;exact call_int_int ⟨.int i,H,I,⟨_,rfl⟩,q⟩
 ·obtain⟨u,rfl,r1⟩:=vals1 r;cases r1;exact call_int_bool ⟨.int (if k then 1 else 0),H,I.tok _,⟨_,rfl⟩,q⟩
end
structure xx(h:Heap)(x dx C:Addr)(mA:Str->Option Value):Prop where
 obj:h.get? x=some (xa C dx)
 ns:h.Ns1 dx mA
 ne:dx≠x
theorem Xf{h:Heap}{mA:Str->Option Value}(n:h.Ns1 dx mA):∃od,h.get? dx=some od/\∀name,ary name od=some (mA name):=by
 obtain⟨o,es,ep,ho,hd,hk,_,hm⟩:=n;refine⟨o,ho,λname=> ?_⟩;have e:=hm name;unfold nsFind findBy at e;rw[<- Array.find?_toList]at e;unfold ary;rw[hd];dsimp only
 split
 ·rename_i y q
  rw[q]at e;exact congrArg some e
 ·rename_i q
  rw[q]at e;have a:es.toList.any (·.refKey)=false:=by
   rw[List.any_eq_false];intro y hy;obtain⟨z,t,Af⟩:=hk y (Array.mem_toList_iff.mp hy);simp[DictEntry.refKey,Af]
  have a':¬ es.toList.any (·.refKey)=true:=by rw[a];exact df
  rw[if_neg a'];exact congrArg some e
theorem xx.look{h:Heap}{x dx C:Addr}{mA:Str->Option Value}(I:xx h x dx C mA):∃od,W.InstAt h x (xa C dx) C (some od)/\∀name,ary name od=some (mA name):=
 let ⟨od,ho,hl⟩:=Xf I.ns
 ⟨od,⟨I.obj,rfl,rfl,ho⟩,hl⟩
section
variable {prog:Program}{w:World}{A:Around}{E:Value->Shared->Prop}{s:Shared}{K:ah}{x dx C f:Addr}{mA:Str->Option Value}{name:Str}{v:Value}
theorem get_map{expr:Bool}{Q:Value->Shared->Prop}(X:K.In s.heap)(I:xx s.heap x dx C mA)(hg:NB K C name=true)(hh:NC K C=true)
  (ha:p7 K (.ref C) name=some none) (hv:mA name=some v) (iV:W.handedIn v=true) (h:Q v { s with toks:=s.toks + 1 }):
  wpAny (model prog w) A (getAttr (.ref x) name expr) Q E s:=by
 obtain⟨od,J,hl⟩:=I.look;exact W.get_value X J (att hg).1 (W.findObj_own hh ha rfl (by rw[hl,hv])) iV h
theorem atE{pl:Sem Bool}{Q:Value×List Value->Shared->Prop}(X:K.In s.heap)(I:xx s.heap x dx C mA)(hg:NB K C name=true)
  (hf:p7 K (.ref C) name=some (some (.ref f))) (ht:apB K (.ref f)=true) (hv:mA name=none) (h:Q (.ref f, [.ref x]) s):
  wpAny (model prog w) A (getMethod (.ref x) name pl) Q E s:=by
 obtain⟨od,J,hl⟩:=I.look;exact W.method_fn X J (att hg).1 (att hg).2 hf (beq_iff_eq.mp ht) (by show(ary name od).map (·.isSome)=some false;rw[hl,hv];rfl) h
theorem Xg{ns:List Str}{Q:Unit->Shared->Prop}(X:K.In s.heap)(I:xx s.heap x dx C mA)
  (hs:p7 K (.ref C) "__setattr__"=some (some (.builtin "object.__setattr__"))) (hp:Vz K C=true) (ht:W.takerIn K C name=some none) (hh:NC K C=true)
  (hw:Vv mA ns) (hsz:ns.length<=aM)
  (h:∀h',xx h' x dx C (λy=>if y=name then some v else mA y)->Cd dx s.heap h'->Q () { s with heap:=h',toks:=s.toks + 2 }):
  wpAny (model prog w) A (setAttr (.ref x) name v) Q E s:=by
 obtain⟨od,J,hl⟩:=I.look;refine W.set_plain X J hs (W.osa_open (s:= { s with toks:=s.toks + 1 }) (r:=none) X J hp ht λb=> ?_);obtain⟨cd,hc,pA⟩:=W.any_some hh;have hx:s.heap.get? x=some ⟨.ref C,some dx, .plain,#[]⟩:=I.obj;refine az (bF (az (az (wpAny_loadPart hx (az (W.Looks.here (s:= { s with toks:=s.toks + 1 }) (W.looks_clsIn X hc) ?_))))));rw[pA];refine bF (a:=some dx) (az (bF (az ?_)));refine wpAny_nsSet1 (s:= { s with toks:=s.toks + 1 }) I.ns λh' CS lC=> ?_;obtain⟨oD,aiU,aiV,Xh,Xi,Xj⟩:=CS.count (Vv.cons name v hw);refine az (wpAny_lookBehind Xh (by rw[Xi];exact pastItsLine_dict (b7 Xj (by rw[c8];lia))) ?_);exact bF (h _ ⟨(lC.2 _ (fw I.ne)).trans I.obj,CS,I.ne⟩ lC)
theorem Xk{R:Result->Shared->Prop}{vs:List Value}{kw:List (Str×Value)}(X:K.In s.heap)(hm:W.makesIn K C=true)
  (hi:p7 K (.ref C) "__init__"=some (some (.ref f))) (hf:W.typeIn K (.ref f)=some (.type "function"))
  (h:qQ (model prog w) (A.under (.builtin "type.__call__" ⟨.ref C::vs,kw⟩)) (.call (.ref f) ⟨.ref (s.heap.objs.size + 1)::vs,kw⟩) (W.InitBack (s.heap.objs.size + 1) R)
   { s with heap:=(s.heap.push uM).push (xa C s.heap.objs.size) }):
  qQ (model prog w) A (.call (.ref C) ⟨vs,kw⟩) R s:=by
 obtain⟨hh,g,d,t,os⟩:=s;exact W.make_core (W.makes_of X hm) (W.looks_findIn X hi) (λself=>W.bind_fn X self hf) (.inl rfl) h
end
noncomputable def iW (f:Str) (v:V):List (Str×V)->List (Str×V)
 | []=> [(f,v)]
 |(g,x)::r=>if g=f then(g,v)::r else(g,x)::iW f v r
theorem OG(f g:Str)(v:V):∀fs:List (Str×V),(iW f v fs).lookup g=if g=f then some v else fs.lookup g
 | []=>by
  show uN g [(f,v)]=_;by_cases h:g=f
  ·have hb:(g == f)=true:=beq_iff_eq.mpr h;simp only[uN,hb,if_pos h]
  ·have hb:(g == f)=false:=beq_eq_false_iff_ne.mpr h;simp only[uN,hb,if_neg h]
 |(k,x)::r=>by
  have ih:=OG f g v r;rw[show iW f v ((k,x)::r)=(if k=f then(k,v)::r else(k,x)::iW f v r) from rfl];by_cases hk:k=f
  ·rw[if_pos hk];by_cases h:g=k
   ·have hb:(g == k)=true:=beq_iff_eq.mpr h;simp only[uN,hb,if_pos (h.trans hk)]
   ·have hb:(g == k)=false:=beq_eq_false_iff_ne.mpr h;simp only[uN,hb,if_neg (λe:g=f=>h (e.trans hk.symm))]
  ·rw[if_neg hk];by_cases h:g=k
   ·have hb:(g == k)=true:=beq_iff_eq.mpr h;simp only[uN,hb,if_neg (λe:g=f=>hk (h.symm.trans e))]
   ·have hb:(g == k)=false:=beq_eq_false_iff_ne.mpr h;simp only[uN,hb];exact ih
theorem Gu(f:Str)(v:V):∀fs:List (Str×V),f∈(iW f v fs).map (·.1)/\∀g,g∈fs.map (·.1)->g∈(iW f v fs).map (·.1)
 | []=>⟨by simp[iW],λg h=>by simp at h⟩
 |(k,x)::r=>by
  obtain⟨i1,i2⟩:=Gu f v r;rw[show iW f v ((k,x)::r)=(if k=f then(k,v)::r else(k,x)::iW f v r) from rfl];by_cases hk:k=f
  ·rw[if_pos hk];subst hk;exact⟨by simp,λg h=>by simpa using h⟩
  ·rw[if_neg hk];refine⟨?_,λg h=> ?_⟩
   ·rw[cP];exact nQ _ i1
   ·rw[cP]at h |-;rcases bL.mp h with e | e
    ·exact bL.mpr (.inl e)
    ·exact nQ _ (i2 g e)
theorem OH(f:Str)(v:V):∀fs:List (Str×V),(iW f v fs).length<=fs.length + 1
 | []=>by simp[iW]
 |(k,x)::r=>by
  have ih:=OH f v r;rw[show iW f v ((k,x)::r)=(if k=f then(k,v)::r else(k,x)::iW f v r) from rfl];by_cases hk:k=f
  ·rw[if_pos hk,c8,c8];lia
  ·rw[if_neg hk,c8,c8];lia
theorem kN.some_of{v:V}{o:Option Value}(r:kN (some v) o):∃u,o=some u/\RelV v u:=by
 cases o with
 |none=>exact(show False from r).elim
 |some u=>exact⟨u,rfl,r⟩
theorem kN.none_of{o:Option Value}(r:kN none o):o=none:=by
 cases o with
 |none=>rfl
 |some u=>exact(show False from r).elim
theorem Xl{v:V}{u:Value}(r:RelV v u):W.handedIn u=true:=by
 cases v with
 |aG=>cases(show u=jb from r);rfl
 |bl b=>cases(show u=zj b from r);rfl
 |int i=>obtain⟨t,e⟩:=(show ∃t,u=w6 i t from r);cases e;rfl
 |str x=>obtain⟨t,e⟩:=(show ∃t,u=zi x t from r);cases e;rfl
 |uZ b=>obtain⟨t,e⟩:=(show ∃t,u=Value.bytes b t from r);cases e;rfl
 |kl b=>obtain⟨t,e⟩:=(show ∃t,u=Vu b t from r);cases e;rfl
 |ref a=>cases(show u=c7 a from r);rfl
 |ty n=>cases(show u=w9 n from r);rfl
section
variable {P:Program}{w:World}{H H':Hp}{h h':Heap}{a C dx:Addr}{fs zw:List (Str×V)}
theorem kO(aQ:gB P w H h)(e:H a=some (.ins C dx fs)):∃mA,xx h a dx C mA/\(∀f,kN (fs.lookup f) (mA f))/\Vv mA (fs.map (·.1))/\fs.length<=1000/\H dx=some (.own a):=by
 obtain⟨d,z,ne,ob,mA,n,r,q⟩:=(show gr P w H h a (.ins C dx fs) from aQ a _ e)
 exact⟨mA,⟨ob,n,ne⟩,r,q,z,d⟩
end
structure mN(K:ah)(C:Addr):Prop where
 pg:NB K C Str.empty=true
 hd:NC K C=true
 po:Vz K C=true
 sa:p7 K (.ref C) "__setattr__"=some (some (.builtin "object.__setattr__"))
theorem mN.get{K:ah}{C:Addr}(c:mN K C)(f:Str):NB K C f=true:=c.pg
def mf(K:ah)(C:Addr)(f:Str):Prop:=p7 K (.ref C) f=some none
theorem mf.Xm{K:ah}{C:Addr}{f:Str}(n:mf K C f):W.takerIn K C f=some none:=by
 unfold W.takerIn;rw[show p7 K (.ref C) f=some none from n];rfl
structure apx(K:ah)(C:Addr)(m:Str)(f:Addr):Prop where
 at_:p7 K (.ref C) m=some (some (.ref f))
 fn:apB K (.ref f)=true
 kp:uO K (.ref f)=true
section
variable {X:Cx}{ab:List (Addr×Obj)}{σ:St}{H:Hp}{s:Shared}{a C dx:Addr}{fs:List (Str×V)}{f:Str}{v:V}{A:Around}{E:Value->Shared->Prop}
theorem OI{b:Bool}{Q:Value->Shared->Prop}(I:Inv X ab σ H s)(e:H a=some (.ins C dx fs))(c:mN X.K C)(n:mf X.K C f)(l:fs.lookup f=some v)
  (h:∀u s',Inv X ab σ H s'->RelV v u->Q u s'):wpAny (model X.prog X.w) A (getAttr (.ref a) f b) Q E s:=by
 obtain⟨mA,O,r,_,_,_⟩:=kO I.aQ e;obtain⟨u,hu,ru⟩:=kN.some_of (v:=v) (o:=mA f) (by rw[<- l];exact r f);exact get_map I.fN O (c.get f) c.hd n hu (Xl ru) (h u _ (I.tok _) ru)
theorem arH{pl:Sem Bool}{Q:Value×List Value->Shared->Prop}(I:Inv X ab σ H s)(e:H a=some (.ins C dx fs))(c:mN X.K C)(k:apx X.K C m g)(l:fs.lookup m=none)
  (h:Q (.ref g, [.ref a]) s):wpAny (model X.prog X.w) A (getMethod (.ref a) m pl) Q E s:=by
 obtain⟨mA,O,r,_,_,_⟩:=kO I.aQ e;have hn:mA m=none:=kN.none_of (by rw[<- l];exact r m);exact atE I.fN O (c.get m) k.at_ k.fn hn h
theorem OJ{u:Value}{Q:Unit->Shared->Prop}(I:Inv X ab σ H s)(e:H a=some (.ins C dx fs))(c:mN X.K C)(n:mf X.K C f)(hl:fs.length < 1000)(ry:RelV y u)
  (h:∀s',Inv X ab σ (upd H a (.ins C dx (iW f y fs))) s'->Q () s'):wpAny (model X.prog X.w) A (setAttr (.ref a) f u) Q E s:=by
 obtain⟨mA,O,r,wi,_,ho⟩:=kO I.aQ e;have hz:(fs.map (·.1)).length<=aM:=by rw[eG,mG];lia
 refine Xg I.fN O c.sa c.po n.Xm c.hd wi hz λh' O' sb=>h _ ?_;have hd:∃o,h'.get? dx=some o:=let ⟨o,_,_,e',_⟩:=O'.ns;⟨o,e'⟩;refine I.write (x:=a) (e:=dx) (by rw[e];exact kh) (.inr ho) (λb q hb z=>(sb.2 b hb).trans z) hd ?_;refine⟨by rw[ba O.ne];exact ho, ?_,O.ne,O'.obj,_,O'.ns,λg=> ?_,λg hg=> ?_⟩
 ·have:=OH f y fs;lia
 ·show kN ((iW f y fs).lookup g) (if g=f then some u else mA g);rw[OG];by_cases q:g=f
  ·rw[if_pos q,if_pos q];exact ry
  ·rw[if_neg q,if_neg q];exact r g
 ·by_cases q:g=f
  ·rw[q];exact(Gu f y fs).1
  ·refine(Gu f y fs).2 g (wi g λz=>hg ?_);show(if g=f then some u else mA g)=none;rw[if_neg q];exact z
theorem Inv.made(I:Inv X ab σ H s):Inv X ab σ (upd (upd H s.heap.objs.size (.own (s.heap.objs.size + 1))) (s.heap.objs.size + 1) (.ins C s.heap.objs.size []))
  { s with heap:=(s.heap.push uM).push (xa C s.heap.objs.size) }:=by
 have e1:(s.heap.push uM).get? s.heap.objs.size=some uM:=gc s.heap rfl;have e2:((s.heap.push uM).push (xa C s.heap.objs.size)).get? (s.heap.objs.size + 1)=some (xa C s.heap.objs.size):=by
  have:=gc (s.heap.push uM) (o:=xa C s.heap.objs.size) rfl;rwa [p9]at this
 have e3:(s.heap.push uM).Ns s.heap.objs.size (λ_=>none):=⟨uM,#[],_,e1,rfl,(λe he=>absurd he (by simp)),λ_=>rfl⟩
 have I1:=I.laid (a:=s.heap.objs.size) (o:= .own (s.heap.objs.size + 1)) (h':=s.heap.push uM) (t':=s.toks) (λb u q=>cB _ q) (bO _) ⟨_,e1⟩;refine I1.laid (a:=s.heap.objs.size + 1) (o:= .ins C s.heap.objs.size []) (t':=s.toks) (λb u q=>cB _ q) (VA (p9 _ _)) ?_;have ne:s.heap.objs.size≠s.heap.objs.size + 1:=dR (FN _);refine⟨by rw[ba ne,de],jO _,ne,e2,λ_=>none,(Heap.Ns1.of_empty e3).at λo q=>cB _ q,λ_=>kh,λy hy=>absurd rfl hy⟩
theorem Xn{prog:Program}{w:World}{e:Expr}{f:Str}{pos:Pos}{s:Shared}{Q:Value->Shared->Prop}(hb:attributeBase e f env (eval e env)=eval e env)
  (h:wpAny (model prog w) A (eval e env) (λo dD=>wpAny (model prog w) A (getAttr o f true) Q E dD) E s):wpAny (model prog w) A (eval (.Attribute e f pos) env) Q E s:=
 Attribute_any_ h (by rw[arm_eval_Attribute,hb])
end
def Ag(K:ah)(ta:TE)(f:Str):TE:=λσ H Q=>ta σ H λx H1=>∃a C dx fs v,x= .ref a/\H1 a=some (.ins C dx fs)/\mN K C/\mf K C f/\fs.lookup f=some v/\Q v H1
def Gv(K:ah)(ta tv:TE)(f:Str):TS:=λD σ H=>tv σ H λy H1=>ta σ H1 λx H2=>∃a C dx fs,x= .ref a/\H2 a=some (.ins C dx fs)/\mN K C/\mf K C f/\fs.length < 1000/\
 D.nx σ (upd H2 a (.ins C dx (iW f y fs)))
section
variable {X:Cx}{o e value:Expr}{f:Str}{pos pos' Ah:Pos}{ta tv:TE}
theorem Xo(he:PE X e ta)(hb:attributeBase e f X.env (eval e X.env)=eval e X.env):PE X (.Attribute e f pos) (Ag X.K ta f):=by
 intro ab s σ H Q I h;refine Xn hb (bh (he ab s σ H _ I h) λu s1 ⟨x,H1,I1,rx,a,C,dx,fs,v,ex,ea,c,n,l,q⟩=> ?_);subst ex;obtain rfl:u=c7 a:=rx;exact OI I1 ea c n l λu' s2 I2 ru=>⟨v,H1,I2,ru,q⟩
theorem Xp(ha:PE X o ta)(hv:PE X value tv)(hs:wQ value (some (.Attribute o f pos')) pos.line X.env=pure false):PS X (.Assign [.Attribute o f pos'] value pos) (Gv X.K ta tv f):=by
 intro ab s σ H D I h;refine plainObj_wpAny_Assign_Attribute (bh (hv ab s σ H _ I h) λu s1 ⟨y,H1,I1,ry,q⟩=>bh (ha ab s1 σ H1 _ I1 q) λov s2 ⟨x,H2,I2,rx,a,C,dx,fs,ex,ea,c,n,l,q2⟩=> ?_) hs;subst ex;obtain rfl:ov=c7 a:=rx;exact OJ I2 ea c n l ry λs3 I3=>⟨σ,_,I3,q2⟩
end
section
variable {X:Cx}{ab:List (Addr×Obj)}{σ:St}{H:Hp}{s:Shared}{A:Around}{E:Value->Shared->Prop}{Q:Value->Shared->Prop}{c:Value}{b:Bool}
inductive kP(K:ah)(H:Hp):V->Value->Prop where
 |aG:kP K H .aG (.type "NoneType")
 |bl (x:Bool):kP K H (.bl x) (.type "bool")
 |int (i:Int):kP K H (.int i) (.type "int")
 |str (x:Str):kP K H (.str x) (.type "str")
 |kl (x:UInt64):kP K H (.kl x) (.type "float")
 |lst {a:Addr} {xs:List V} (e:H a=some (.lst xs)):kP K H (.ref a) (.type "list")
 |b9 {a:Addr} {o:Obj} {xs:List V} (e:H a=some (.b9 o (.lst xs))):kP K H (.ref a) (.type "list")
 |tup {a:Addr} {xs:List V} (e:H a=some (.tup xs)):kP K H (.ref a) (.type "tuple")
 |dK {a:Addr} {aa:List (bc×V)} (e:H a=some (.dK aa)):kP K H (.ref a) (.type "dict")
 |dT {a:Addr} {aa:List (List bc×V)} (e:H a=some (.dT aa)):kP K H (.ref a) (.type "dict")
 |ins {a C dx:Addr} {fs:List (Str×V)} (e:H a=some (.ins C dx fs)) (cl:mN K C) (ha:p7 K (.ref C) "__class__"=some (some (.builtin "object.__class__")))
   (hn:W.specialIn K (.builtin "object.__class__") "__get__"=some (some (.builtin "getset_descriptor.__get__"))) (CT:W.takesIn K (.builtin "object.__class__")=some true)
   (hm:W.mroIn K C (.type "object")=some true):kP K H (.ref a) (.ref C)
theorem Xt{x:V}{u t:Value}(I:Inv X ab σ H s)(rx:RelV x u)(ty:kP X.K H x t)(e:xg X.K t c=some b)(h:∀tk,Q (.bool b) { s with toks:=tk }):
  wpAny (model X.prog X.w) A (call (.builtin "isinstance") [u,c]) Q E s:=by
 cases ty with
 |aG=>cases(show u=jb from rx);exact qS W.kitx_none I.fN kh e (λz=>nomatch z) h
 |bl y=>cases(show u=zj y from rx);exact qS W.kitx_bool I.fN kh e (λz=>nomatch z) h
 |int i=>obtain⟨t,q⟩:=(show ∃t,u=w6 i t from rx);cases q;exact qS W.kitx_int I.fN kh e (λz=>nomatch z) h
 |str y=>obtain⟨t,q⟩:=(show ∃t,u=zi y t from rx);cases q;exact qS W.kitx_str I.fN kh e (λz=>nomatch z) h
 |kl y=>obtain⟨t,q⟩:=(show ∃t,u=Vu y t from rx);cases q;exact qS W.kitx_float I.fN kh e (λz=>nomatch z) h
 | @lst a xs ea=>
  cases(show u=c7 a from rx);obtain⟨_,_,n,_,h1⟩:=(show gr X.prog X.w H s.heap a (.lst xs) from I.aQ a _ ea)
  exact qS ND I.fN ⟨_,h1,rfl⟩ e (λz=>nomatch z) h
 | @b9 a ob xs ea=>
  cases(show u=c7 a from rx);obtain⟨_,_,_,n,_,h1⟩:=(show gr X.prog X.w H s.heap a (.b9 ob (.lst xs)) from I.aQ a _ ea)
  exact qS ND I.fN ⟨_,h1,rfl⟩ e (λz=>nomatch z) h
 | @tup a xs ea=>
  cases(show u=c7 a from rx);obtain⟨_,_,_,p⟩:=(show gr X.prog X.w H s.heap a (.tup xs) from I.aQ a _ ea)
  obtain⟨o,h1,h2,_⟩:=p;exact qS W.kitx_tuple I.fN ⟨o,h1,h2⟩ e (λz=>nomatch z) h
 | @dK a aa ea=>
  cases(show u=c7 a from rx);obtain⟨_,_,vs,_,p⟩:=(show gr X.prog X.w H s.heap a (.dK aa) from I.aQ a _ ea)
  obtain⟨o,es,ep,h1,h2,_⟩:=p;exact qS NF I.fN ⟨o,h1,h2.1⟩ e (λz=>nomatch z) h
 | @dT a aa ea=>
  cases(show u=c7 a from rx);obtain⟨_,_,xs,_,o,es,ep,h1,h2,_⟩:=(show gr X.prog X.w H s.heap a (.dT aa) from I.aQ a _ ea)
  exact qS NF I.fN ⟨o,h1,h2.1⟩ e (λz=>nomatch z) h
 | @ins a C dx fs ea cl ha hn CT hm=>
  cases(show u=c7 a from rx);obtain⟨mA,O,_⟩:=kO I.aQ ea;obtain⟨od,J,_⟩:=O.look;exact qS (W.kitx_own (cl.get _) cl.hd ha hn CT hm) I.fN J e (λz=>nomatch z) h
end
structure gf(k:Nat)(A:Around):Prop where
 hd:A.handled=none
 dp:A.depth + 3 * k + 5 < recursionLimit
 un:A.units + 16 * k + 200 < cLine
 gd:A.guards=some []
theorem gf.mono{A:Around}(r:gf k A)(h:j<=k):gf j A:=⟨r.hd,by have:=r.dp;lia,by have:=r.un;lia,r.gd⟩
theorem gf.deeper{A:Around}(r:gf (k + 1) A)(env:Env):gf k (A.deeper env):=
 ⟨r.hd,by have:=r.dp;show A.depth + 1 + 3 * k + 5 < _;lia,by have:=r.un;show A.units + 3 + 16 * k + 200 < _;lia,r.gd⟩
theorem gf.in1{A:Around}(r:gf (k + 1) A):gf k A.in1:=
 ⟨r.hd,by have:=r.dp;show A.depth + 3 * k + 5 < _;lia,by have:=r.un;show A.units + 1 + 16 * k + 200 < _;lia,r.gd⟩
theorem Xu{A:Around}{C:Addr}:(A.under (.builtin "type.__call__" ⟨.ref C::us,kw⟩)).depth=A.depth + 1:=by
 first | rfl | simp[NG,Code.weight,Code.isCreation,Code.isGuard,Code.isCaller,Code.frames,VB,guardIds]
theorem Xv{A:Around}{C:Addr}:(A.under (.builtin "type.__call__" ⟨.ref C::us,kw⟩)).units=A.units + 1:=by
 first | rfl | simp[NG,Code.cUnits,Code.frames,VB]
theorem gf.make{A:Around}(r:gf (k + 1) A)(C:Addr)(us:List Value)(kw:List (Str×Value)):gf k (A.under (.builtin "type.__call__" ⟨.ref C::us,kw⟩)):=
 ⟨r.hd,by have:=r.dp;rw[Xu];lia,by have:=r.un;rw[Xv];lia,by first | exact r.gd | (have:=r.gd;simpa[NG,Code.isGuard,guardIds]using this)⟩
theorem gf.depth{A:Around}(r:gf k A):A.depth < recursionLimit:=by have:=r.dp;lia
theorem gf.units{A:Around}(r:gf k A):A.units + 64 < cLine:=by have:=r.un;lia
def fz:TA:=λ_ H Q=>Q [] H
def di(ta:TE)(tr:TA):TA:=λσ H Q=>ta σ H λx H1=>tr σ H1 λxs H2=>Q (x::xs) H2
section
variable {X:Cx}{e:Expr}{es:List Expr}{te:TE}{t:TA}{pos:Pos}
theorem gk:PA X [] fz:=λ_ _ _ _ H Q I h=>VC ⟨[],H,I, .nil,h⟩
theorem fJ(ha:PE X e te)(hr:PA X es t)(hs:dz (e::es) X.env=(false,eval e X.env)::dz es X.env:=by rfl):PA X (e::es) (di te t):=by
 intro pos ab s σ H Q I h;rw[hs];show wpAny _ _ (spliced ((false,eval e X.env)::backTo pos (dz es X.env))) _ _ s;refine NH (bh (ha ab s σ H _ I h) λu s1 ⟨x,H1,I1,r1,q1⟩=> ?_);exact bh (hr pos ab s1 σ H1 _ I1 q1) λus s2 ⟨xs,H2,I2,r2,q2⟩=>⟨x::xs,H2,I2, .cons r1 r2,q2⟩
def Ai(t:TA):TE:=λσ H Q=>t σ H λxs H1=>xs.length<=aM/\∀p,H1 p=none->Q (.ref p) (upd H1 p (.tup xs))
def ahd(t:TA):TE:=λσ H Q=>t σ H λxs H1=>xs.length<=aM/\∀p,H1 p=none->Q (.ref p) (upd H1 p (.lst xs))
theorem eZ{x1}(h:PA X es t):PE X (.Tuple es x1 pos) (Ai t):=by
 intro ab s σ H Q I hq;refine wpAny_Tuple_spliced (bh (h pos ab s σ H _ I hq) λus s1 ⟨xs,H1,I1,r,z,q⟩=>⟨by rw[<- r.length];exact z, ?_⟩);have hf:H1 s1.heap.objs.size=none:=I1.aQ.fresh (bO _);refine⟨.ref s1.heap.objs.size,upd H1 s1.heap.objs.size (.tup xs),I1.laid (t':=s1.toks) (λb u e=>cB _ e) (bO _) ?_,rfl,q _ hf⟩;exact⟨z,us,r,⟨_,gc _ rfl,rfl,_,rfl⟩⟩
theorem iX(h:PA X es t):PE X (.List es pos) (ahd t):=by
 intro ab s σ H Q I hq;refine wpAny_List_spliced (bh (h pos ab s σ H _ I hq) λus s1 ⟨xs,H1,I1,r,z,q⟩=>⟨by rw[<- r.length];exact z, ?_⟩);have hf:H1 s1.heap.objs.size=none:=I1.aQ.fresh (bO _);refine⟨.ref s1.heap.objs.size,upd H1 s1.heap.objs.size (.lst xs),I1.laid (t':=s1.toks) (λb u e=>cB _ e) (bO _) ?_,rfl,q _ hf⟩;exact⟨z,us,0,r,gc _ rfl⟩
end
abbrev Sp:=List V->Hp->VK->XK->Prop
abbrev rh:=List Env->Hp->Shared->XK->Value->Shared->Prop
structure oW(P:Program)(w:World)(K:ah)(mg:Str->Option Value)(base:Heap)(A:Around)(outer:List Env)(s:Shared)(H:Hp):Prop where
 frames:A.frames=some outer
 mod:Mod K mg base
 bs:∀b o,base.get? b=some o->s.heap.get? b=some o/\H b=none
 qe:base.objs.size<=s.heap.objs.size
 nX:s.heap.FunFrames base outer
 vc:∀b∈l8 outer,H b=none
 aQ:gB P w H s.heap
 bare:wO s.gens
def CE(outer:List Env)(P:Program)(w:World)(H:Hp)(s:Shared)(Q:VK)(u:Value)(s':Shared):Prop:=
 ∃v H',s'.os=s.os/\wO s'.gens/\Un (l8 outer) [] H H' s.heap s'.heap/\gB P w H' s'.heap/\RelV v u/\Q v H'
def CR(CX:rh)(outer:List Env)(P:Program)(w:World)(H:Hp)(s:Shared)(Q:VK)(E:XK)(r:Result)(s':Shared):Prop:=
 match r with
 |.ok (.ret u)=>CE outer P w H s Q u s'
 |.ok _=>False
 |.error e=>CX outer H s E e s'
structure bZ(P:Program)(w:World)(K:ah)(mg:Str->Option Value)(base:Heap)(CX:rh)(k:Nat)(f:Addr)(fd:kK)(ps:List Str)(sp:Sp):Prop where
 len:∀vs H Q E,sp vs H Q E->vs.length=ps.length
 run:∀(A:Around) (outer:List Env) (s:Shared) (H:Hp) (args:Args) (us:List Value) (vs:List V) (Q:VK) (E:XK),gf k A->oW P w K mg base A outer s H->B4 s fd args (ps.zip us)->bj vs us->sp vs H Q E->
  qQ (model P w) A (.call (.ref f) args) (CR CX outer P w H s Q E) s
theorem bZ.imp{P:Program}{w:World}{K:ah}{f:Addr}{sp OM:Sp}(F:bZ P w K mg base CX k f fd ps sp)
  (h:∀vs H Q E,OM vs H Q E->sp vs H Q E):bZ P w K mg base CX k f fd ps OM:=
 ⟨λvs H Q E q=>F.len vs H Q E (h _ _ _ _ q),λA outer s H args us vs Q E hr he hb hv hs=>F.run A outer s H args us vs Q E hr he hb hv (h _ _ _ _ hs)⟩
theorem oW.make{P:Program}{w:World}{K:ah}{A:Around}{s:Shared}{H:Hp}(e:oW P w K mg base A outer s H)(C:Addr)(us:List Value)(kw:List (Str×Value)):
  oW P w K mg base (A.under (.builtin "type.__call__" ⟨.ref C::us,kw⟩)) outer s H:=⟨by first | exact e.frames | (simpa[NG,Code.envs,VB,pushEnvs]using e.frames),e.mod,e.bs,e.qe,e.nX,e.vc,e.aQ,e.bare⟩
theorem oW.in1{P:Program}{w:World}{K:ah}{A:Around}{s:Shared}{H:Hp}(e:oW P w K mg base A outer s H):
  oW P w K mg base A.in1 outer s H:=⟨e.frames,e.mod,e.bs,e.qe,e.nX,e.vc,e.aQ,e.bare⟩
section
variable {X:Cx}{ab:List (Addr×Obj)}{σ:St}{H:Hp}{s s':Shared}
theorem Inv.ON(I:Inv X ab σ H s):oW X.prog X.w X.K X.mg X.base X.A X.stack s H:=
 ⟨I.ok.frames,I.ok.mod,I.bs,b7 I.ok.qe I.sz,I.stack,I.N9,I.aQ,I.bare⟩
theorem Inv.after{Q:VK}{u:Value}(I:Inv X ab σ H s)(h:CE X.stack X.prog X.w H s Q u s'):EP X ab σ Q u s':=by
 obtain⟨v,H',os,bare,un,aQ,r,q⟩:=h;obtain⟨hh,g,d,t,Gz⟩:=s';obtain rfl:Gz=s.os:=os;exact⟨v,H',I.call (h':=hh) (g':=g) (d':=d) (t':=t) (ch:= []) un aQ bare (λb z=>absurd z (by simp)),r,q⟩
end
def og(sp:Sp)(kQ:List V)(E:XK)(t:TA):TE:=λσ H Q=>t σ H λvs H1=>sp (vs++kQ) H1 Q E
def ahe(C:Addr)(m:Str)(sp:Sp)(kQ:List V)(E:XK)(ta:TE)(t:TA):TE:=λσ H Q=>ta σ H λx H1=>∃a dx fs,x= .ref a/\H1 a=some (.ins C dx fs)/\fs.lookup m=none/\
 t σ H1 λvs H2=>sp (x::(vs++kQ)) H2 Q E
def GA(C:Addr)(sp:Sp)(kQ:List V)(E:XK)(t:TA):TE:=λσ H Q=>t σ H λvs H1=>∀x dx,H1 x=none->H1 dx=none->dx≠x->
 sp (.ref x::(vs++kQ)) (upd (upd H1 dx (.own x)) x (.ins C dx [])) (λv H2=>v= .aG/\Q (.ref x) H2) E
def Binds(K:ah)(fd:kK)(ps:List Str)(ds:List Value):Prop:=
 ∀(s:Shared) (us:List Value),K.In s.heap->(us++ds).length=ps.length->B4 s fd ⟨us, []⟩ (ps.zip (us++ds))
theorem Binds.all{K:ah}{ps:List Str}(h:∀us:List Value,us.length=ps.length->art fd ⟨us, []⟩=pure (ps.zip us)):Binds K fd ps []:=λs us _ hl=>by
 rw[eK]at hl |-;exact .of_eq (h us hl)
def zb(CX:rh)(X:Cx)(E:XK):Prop:=∀(ab:List (Addr×Obj)) (σ:St) (H:Hp) (s:Shared) (e:Value) (s':Shared),Inv X ab σ H s->CX X.stack H s E e s'->X.xe e s'
section
variable {X:Cx}{CX:rh}{k:Nat}{f C:Addr}{fd:kK}{ps:List Str}{sp:Sp}{kQ:List V}{ds:List Value}{E:XK}{x m:Str}{p pos jM:Pos}{e o:Expr}{es:List Expr}{ta:TE}{t:TA}
theorem OO{ab:List (Addr×Obj)}{σ:St}{H:Hp}{s:Shared}{Q:VK}{us:List Value}{vs:List V}(F:bZ X.prog X.w X.K X.mg X.base CX k f fd ps sp)(hr:gf k X.A)(hb:Binds X.K fd ps ds)(hd:bj kQ ds)(hx:zb CX X E)
  (I:Inv X ab σ H s) (r:bj vs us) (h:sp (vs++kQ) H Q E):wpAny (model X.prog X.w) X.A (call (.ref f) us) (EP X ab σ Q) X.xe s:=by
 have r2:bj (vs++kQ) (us++ds):=r.append hd;have hl:(us++ds).length=ps.length:=by rw[<- r2.length];exact F.len _ _ _ _ h
 refine apz (B5 (F.run X.A X.stack s H ⟨us, []⟩ (us++ds) (vs++kQ) Q E hr I.ON (hb s us I.fN hl) r2 h) λr s' hq=> ?_);cases r with
 |error e=>exact hx ab σ H s e s' I hq
 |ok fl=>
  cases fl with
  |ret u=>exact I.after hq
  |next=>exact pj hq
  |brk=>exact pj hq
  |cont=>exact pj hq
theorem Xw(F:bZ X.prog X.w X.K X.mg X.base CX k f fd ps sp)(hr:gf k X.A)(hg:Gl X x)(hm:X.mg x=some (.ref f))(hk:uO X.K (.ref f)=true)(hb:Binds X.K fd ps ds)(hd:bj kQ ds)(hx:zb CX X E)
  (ha:PA X (e::es) t) (lF:(x == ("__debug__":Str))=false:=by decide) (he:dz (e::es) X.env=(false,eval e X.env)::dz es X.env:=by rfl) (dM:(backTo pos (dz es X.env)).any (·.1)=false:=by rfl):
  PE X (.Call (.Name x p) (e::es) [] pos) (og sp kQ E t):=by
 intro ab s σ H Q I h;refine FJ (CD I hg hm ?_ lF);refine arz (h₀:=X.base) I.ok.mod.Cw hk (bh (ha pos ab s σ H _ I h) λus s1 ⟨vs,H1,I1,r,q⟩=>⟨I1.fN, ?_⟩) he dM;exact OO F hr hb hd hx I1 r q
theorem atF{pl:Sem Bool}(he:PE X o ta)(c:mN X.K C)(hm:apx X.K C m f)(F:bZ X.prog X.w X.K X.mg X.base CX k f fd ps sp)(hr:gf k X.A)(hb:Binds X.K fd ps ds)(hd:bj kQ ds)(hx:zb CX X E)(ha:PA X (e::es) t)
  (Ge:dz (e::es) X.env=(false,eval e X.env)::dz es X.env:=by rfl) (dM:(backTo pos (dz es X.env)).any (·.1)=false:=by rfl)
  (ht:eval (.Call (.Attribute o m jM) (e::es) [] pos) X.env=(do
   let ov <- eval o X.env
   FH jM.atName
   let (f,first) <- holding [ov] (getMethod ov m pl)
   callWith pos f first (backTo pos (dz (e::es) X.env)) (B7 pos (B8 [] X.env))):=by rfl):
  PE X (.Call (.Attribute o m jM) (e::es) [] pos) (ahe C m sp kQ E ta t):=by
 intro ab s σ H Q I h;refine W.methodCall_KW (pl:=pl) (bh (he ab s σ H _ I h) λu s1 ⟨x,H1,I1,rx,a,dx,fs,ex,ea,l,q⟩=> ?_) ht;subst ex;obtain rfl:u=c7 a:=rx;refine arH I1 ea c hm l ?_;refine arz (first:= [.ref a]) (h₀:=X.base) I.ok.mod.Cw hm.kp (bh (ha pos ab s1 σ H1 _ I1 q) λus s2 ⟨vs,H2,I2,r,q2⟩=>⟨I2.fN, ?_⟩) Ge dM;exact OO (us:= .ref a::us) (vs:= .ref a::vs) F hr hb hd hx I2 (.cons rfl r) q2
theorem atG{pl:Sem Bool}(he:PE X o ta)(c:mN X.K C)(hm:apx X.K C m f)(F:bZ X.prog X.w X.K X.mg X.base CX k f fd ps sp)(hr:gf k X.A)(hb:Binds X.K fd ps ds)(hd:bj kQ ds)(hx:zb CX X E)
  (ht:eval (.Call (.Attribute o m jM) [] [] pos) X.env=(do
   let ov <- eval o X.env
   FH jM.atName
   let (f,first) <- holding [ov] (getMethod ov m pl)
   callWith pos f first (backTo pos (dz [] X.env)) (B7 pos (B8 [] X.env))):=by rfl):
  PE X (.Call (.Attribute o m jM) [] [] pos) (ahe C m sp kQ E ta fz):=by
 intro ab s σ H Q I h;refine W.methodCall_KW (pl:=pl) (bh (he ab s σ H _ I h) λu s1 ⟨x,H1,I1,rx,a,dx,fs,ex,ea,l,q⟩=> ?_) ht;subst ex;obtain rfl:u=c7 a:=rx;refine arH I1 ea c hm l ?_;exact W.callWith_K0 (first:= [.ref a]) I1.fN hm.kp (OO (us:= [.ref a]) (vs:= [.ref a]) F hr hb hd hx I1 (.cons rfl .nil) q)
structure Mk(K:ah)(C f:Addr):Prop where
 makes:W.makesIn K C=true
 init:p7 K (.ref C) "__init__"=some (some (.ref f))
 fn:apB K (.ref f)=true
 kp:uO K (.ref C)=true
theorem Xy{ab:List (Addr×Obj)}{σ:St}{H:Hp}{s:Shared}{Q:VK}{us:List Value}{vs:List V}(M:Mk X.K C f)(F:bZ X.prog X.w X.K X.mg X.base CX k f fd ps sp)(hr:gf (k + 1) X.A)(hb:Binds X.K fd ps ds)(hd:bj kQ ds)
  (hx:zb CX X E) (I:Inv X ab σ H s) (r:bj vs us)
  (h:∀x dx,H x=none->H dx=none->dx≠x->sp (.ref x::(vs++kQ)) (upd (upd H dx (.own x)) x (.ins C dx [])) (λv H2=>v= .aG/\Q (.ref x) H2) E):
  wpAny (model X.prog X.w) X.A (call (.ref C) us) (EP X ab σ Q) X.xe s:=by
 have hq:=h (s.heap.objs.size + 1) s.heap.objs.size (I.aQ.fresh (Nat.le_succ _)) (I.aQ.fresh (bO _)) (dR (FN _));have I2:=Inv.made (C:=C) I;have r2:bj (V.ref (s.heap.objs.size + 1)::(vs++kQ)) (c7 (s.heap.objs.size + 1)::(us++ds)):= .cons rfl (r.append hd);have hl:(c7 (s.heap.objs.size + 1)::us++ds).length=ps.length:=by
  have e:=r2.length;rw[F.len _ _ _ _ hq]at e;exact e.symm
 refine apz (Xk (f:=f) I.fN M.makes M.init (beq_iff_eq.mp M.fn) (B5 (F.run _ X.stack _ _ ⟨c7 (s.heap.objs.size + 1)::us, []⟩ (c7 (s.heap.objs.size + 1)::(us++ds)) _ _ E (hr.make C us [])
  (I2.ON.make C us []) (hb _ (c7 (s.heap.objs.size + 1)::us) I2.fN hl) r2 hq) λr s' Aj=> ?_))
 cases r with
 |error e=>exact hx ab σ _ _ e s' I2 Aj
 |ok fl=>
  cases fl with
  |ret u=>
   obtain⟨v,H',I3,rv,ev,q3⟩:=I2.after Aj;subst ev;exact⟨rv,⟨V.ref (s.heap.objs.size + 1),H',I3,rfl,q3⟩⟩
  |next=>exact pj Aj
  |brk=>exact pj Aj
  |cont=>exact pj Aj
theorem atH(M:Mk X.K C f)(F:bZ X.prog X.w X.K X.mg X.base CX k f fd ps sp)(hr:gf (k + 1) X.A)(hg:Gl X x)(hm:X.mg x=some (.ref C))(hb:Binds X.K fd ps ds)(hd:bj kQ ds)(hx:zb CX X E)
  (ha:PA X (e::es) t) (lF:(x == ("__debug__":Str))=false:=by decide) (he:dz (e::es) X.env=(false,eval e X.env)::dz es X.env:=by rfl) (dM:(backTo pos (dz es X.env)).any (·.1)=false:=by rfl):
  PE X (.Call (.Name x p) (e::es) [] pos) (GA C sp kQ E t):=by
 intro ab s σ H Q I h;refine FJ (CD I hg hm ?_ lF);refine arz (h₀:=X.base) I.ok.mod.Cw M.kp (bh (ha pos ab s σ H _ I h) λus s1 ⟨vs,H1,I1,r,q⟩=>⟨I1.fN, ?_⟩) he dM;exact Xy M F hr hb hd hx I1 r q
end
section
variable {X:Cx}{CX:rh}{k:Nat}{f C:Addr}{fd:kK}{ps ks:List Str}{sp:Sp}{E:XK}{x m:Str}{p pos jM aiW:Pos}{e o:Expr}{es:List Expr}{aw0:List Keyword}{te ta:TE}{t tk:TA}{nm:Option Str}
variable {g:List Value->List Value->List Value}{gV:List V->List V->List V}
end
structure dr(N P:List Str)(sc:Scope):Prop where
 kind:sc.kind= .function
 co:sc.isCoroutine=false
 gen:sc.isGenerator=false
 nd:N.Nodup
 pre:N.take P.length=P
 par:∀x∈P,sc.names.lookup x=some .local\/sc.names.lookup x=some .cell
 XA:∀y∈sc.names,y.2≠ .free
theorem OP{kindOf:Str->Option dQ}{x:Str}:∀{binds:List (Str×Value)} {m:Str->Option Value},(∀v,(x,v)∉binds)->bindL kindOf binds m x=m x
 | [],_,_=>rfl
 |(n,v)::r,m,h=>by
  unfold bindL;rw[OP λw hw=>h w (nQ _ hw)]
  split
  ·have:x≠n:=by rintro rfl;exact h v xb
   simp[this]
  ·rfl
theorem OQ{kindOf:Str->Option dQ}{x:Str}:∀{binds:List (Str×Value)} {m:Str->Option Value},(∀v,(x,v)∉binds)->bindC kindOf binds m x=m x
 | [],_,_=>rfl
 |(n,v)::r,m,h=>by
  unfold bindC;rw[OQ λw hw=>h w (nQ _ hw)]
  split
  ·rfl
  ·have:x≠n:=by rintro rfl;exact h v xb
   simp[this]
theorem OR{kindOf:Str->Option dQ}{x:Str}{v:Value}:∀{P:List Str} {vs:List Value} {i:Nat} {m:Str->Option Value},P.Nodup->P[i]?=some x->vs[i]?=some v->kindOf x=some .local->
  bindL kindOf (P.zip vs) m x=some v
 | [],_,_,_,_,h,_,_=>by simp at h
 |_::_, [],_,_,_,_,h,_=>by simp at h
 |p::P,w::vs,0,m,nd,h1,h2,hk=>by
  simp at h1 h2;subst h1;subst h2;show bindL kindOf ((p,w)::P.zip vs) m p=_;unfold bindL;rw[OP λv hv=>(jP.mp nd).1 (NJ hv).1,if_pos hk];simp
 |p::P,w::vs,i + 1,m,nd,h1,h2,hk=>by
  show bindL kindOf ((p,w)::P.zip vs) m x=_;unfold bindL;exact OR (i:=i) (jP.mp nd).2 (by simpa using h1) (by simpa using h2) hk
theorem OS{kindOf:Str->Option dQ}{x:Str}{v:Value}:∀{P:List Str} {vs:List Value} {i:Nat} {m:Str->Option Value},P.Nodup->P[i]?=some x->vs[i]?=some v->kindOf x≠some .local->
  bindC kindOf (P.zip vs) m x=some v
 | [],_,_,_,_,h,_,_=>by simp at h
 |_::_, [],_,_,_,_,h,_=>by simp at h
 |p::P,w::vs,0,m,nd,h1,h2,hk=>by
  simp at h1 h2;subst h1;subst h2;show bindC kindOf ((p,w)::P.zip vs) m p=_;unfold bindC;rw[OQ λv hv=>(jP.mp nd).1 (NJ hv).1,if_neg hk];simp
 |p::P,w::vs,i + 1,m,nd,h1,h2,hk=>by
  show bindC kindOf ((p,w)::P.zip vs) m x=_;unfold bindC;exact OS (i:=i) (jP.mp nd).2 (by simpa using h1) (by simpa using h2) hk
noncomputable def start (N:List Str) (vs:List V):St:=vs.map some++ki (N.length - vs.length) none
noncomputable def rj (CX:rh) (P:Program) (w:World) (K:ah) (mg:Str->Option Value) (base:Heap) (N:List Str) (qual:Str) (scope:Scope) (f:Addr) (cd:Value) (A:Around) (outer:List Env) (s:Shared) (H:Hp) (E:XK):Cx where
 prog:=P
 w:=w
 K:=K
 mg:=mg
 base:=base
 A:=A.deeper (envOfC qual scope s.heap.objs.size f cd)
 N:=N
 gT:=s
 sS:=H
 env:=envOfC qual scope s.heap.objs.size f cd
 outer:=outer
 stack:=envOfC qual scope s.heap.objs.size f cd::outer
 ex:= []
 calm:=true
 fn:=λ_=>true
 pn:= []
 xe:=λe s'=>wpAny (model P w) (A.deeper (envOfC qual scope s.heap.objs.size f cd)) (leaving (envOfC qual scope s.heap.objs.size f cd) e) (λ_ GB=>CX outer H s E e GB) (λe' GB=>CX outer H s E e' GB) s'
theorem OT{sc:Scope}{x:Str}(h:sc.names.lookup x=some .cell):∃c,(nN n sc.names []).lookup x=some c:=by
 have q:=atu sc.names n [] (.inl h);exact VD.mp q
theorem XB{CX:rh}{P:Program}{w:World}{K:ah}{mg:Str->Option Value}{base:Heap}{N ps:List Str}{qual:Str}{scope:Scope}{f:Addr}{cd:Value}{A:Around}{outer:List Env}{s s1:Shared}{H:Hp}{E:XK}{us:List Value}{vs:List V}
  (S:dr N ps scope) (hd:A.handled=none) (e0:oW P w K mg base A outer s H) (hl:vs.length=ps.length) (r:bj vs us)
  (x:InCallC s s.heap.objs.size (bindL (envOfC qual scope s.heap.objs.size f cd).kindOf (ps.zip us) λ_=>none) (nN (s.heap.objs.size + 1) scope.names []) (bindC (envOfC qual scope s.heap.objs.size f cd).kindOf (ps.zip us) λ_=>none) s1):
  Inv (rj CX P w K mg base N qual scope f cd A outer s H E) [] (start N vs) H s1:=by
 have dM:ps.length<=N.length:=by have:=congrArg List.length S.pre;rw[Ce]at this;lia
 obtain⟨h1,tk,rfl,hk⟩:=x.done;have vq:∀b:Addr,b∉(rj CX P w K mg base N qual scope f cd A outer s H E).ex:=λb z=>absurd (show b∈([]:List Addr) from z) (by simp);refine⟨⟨e0.mod,S.kind,rfl,rfl,bO _,λy z c h1 h2=> ?_,λy hy=> ?_,λy c _ h=> ?_,λ_=>hd,Around.frames_deeper e0.frames, .inr ⟨rfl,rfl⟩,λb z=>absurd z (vq b),e0.bs,e0.qe,λb _ _=>vq b,λb z=>absurd z (vq b),e0.nX,e0.vc⟩,
  rfl,e0.bare,Un.kept hk,⟨_,x.toInCall.ns,λi y v h1 h2 h3=> ?_⟩,λy c h=>⟨_,x.cell y c h⟩,e0.aQ.fresh (bO _),λy c h=> ?_,λp hp=>absurd (show p∈([]:List (Addr×Obj)) from hp) (by simp),e0.aQ.kept hk, ?_⟩
 ·exact name_of_addr x.apart (xh h1) (xh h2)
 ·have hy:scope.names.lookup y=some .cell\/scope.names.lookup y=some .free:=hy;rcases hy with hy | hy
  ·exact OT hy
  ·exact absurd rfl (S.XA _ (xh hy))
 ·exact nO (x.above y c (xh h))
 ·have hi:i < vs.length:=by
   unfold start at h2;by_cases hi:i < vs.length
   ·exact hi
   ·rw[br (by simpa using hi)]at h2;rw[NK]at h2
    split at h2 <;> cases h2
  have ha:vs[i]?=some v:=by
   unfold start at h2;rw[aU (by simpa using hi),bJ]at h2;cases e:vs[i]? with
   |none=>rw[e]at h2;cases h2
   |some a=>rw[e]at h2;cases h2;rfl
  obtain⟨u,hu,rv⟩:=r.get ha;have hp:ps[i]?=some y:=by
   rw[<- S.pre,VE (by lia)];exact h1
  have OU:ps.Nodup:=by rw[<- S.pre];exact S.nd.sublist (List.take_sublist _ _)
  refine⟨u,rv, ?_⟩;rcases S.par y (jr hp) with k | k
  ·exact .inl ⟨k,OR OU hp hu k⟩
  ·obtain⟨c,e⟩:=OT (n:=s.heap.objs.size + 1) k;refine .inr ⟨.inl k,c,e, ?_⟩;have q:=x.cell y c e;rw[OS OU hp hu (by show scope.names.lookup y≠_;rw[k];decide)]at q;exact q
 ·exact e0.aQ.fresh (nO (x.above y c (xh h)))
 ·unfold start;show _=N.length;rw[dg,eG,zl]
  lia
theorem XC{CX:rh}{P:Program}{w:World}{K:ah}{mg:Str->Option Value}{base:Heap}{k:Nat}{f:Addr}{name qual:Str}{params:Arguments}{body:List Stmt}{scope:Scope}{dV kV doc pm dB ct oc:Value}{an od:Option Addr}
  {mO:Array (Option Value)} {N ps:List Str} {sp:Sp} (lk:K.lookup f=some ⟨oc,od, .func (qT name qual params body scope dV kV doc pm an dB ct),mO⟩) (pB:Cf K dB qual=true) (S:dr N ps scope)
  (len:∀vs H Q E,sp vs H Q E->vs.length=ps.length)
  (ahf:∀(A:Around) (outer:List Env) (s:Shared) (H:Hp) (vs:List V) (Q:VK) (E:XK),gf k (A.deeper (envOfC qual scope s.heap.objs.size f dB))->sp vs H Q E->
   ∃t,jc (rj CX P w K mg base N qual scope f dB A outer s H E) body t/\t { nx:=λ_ H'=>Q .aG H',rt:=Q } (start N vs) H):
  bZ P w K mg base CX (k + 1) f (qT name qual params body scope dV kV doc pm an dB ct) ps sp:=by
 refine⟨len,λA outer s H args us vs Q E hr e0 hb r tw=> ?_⟩;have hl:=len _ _ _ _ tw;have KX:K.In s.heap:=e0.mod.Cw.keeps λb o e=>(e0.bs b o e).1;have lim:s.heap.NoLimit:=e0.mod.nolimit.keeps λb o e=>(e0.bs b o e).1;have tG:∀y∈ps.zip us,scope.names.lookup y.1=some .local\/(scope.names.lookup y.1=some .cell/\((nN (s.heap.objs.size + 1) scope.names []).lookup y.1).isSome=true):=λ⟨n,v⟩ hy=>by
  rcases S.par n (NJ hy).1 with q | q
  ·exact .inl q
  ·exact .inr ⟨q,atu _ _ _ (.inl q)⟩
 refine codeAny_call_function hr.depth (KX _ _ lk) rfl S.co S.gen rfl (W.codeRec_of KX pB) (hb _ _ _ _ ?_);refine awE S.kind tG λenv he s1 x=> ?_;subst he;refine⟨lim.keeps x.toInCall.keep,codeAny_func ?_⟩;obtain⟨t,ht,hq⟩:=ahf A outer s H vs Q E (hr.deeper _) tw;have I:Inv (rj CX P w K mg base N qual scope f dB A outer s H E) [] (start N vs) H s1:=XB S hr.hd e0 hl r x;refine ja (ht [] s1 (start N vs) H _ I hq) (λfl s' hs=> ?_) λe s' hs=>hs;have c5:∀{aF:St} {H':Hp} {v:V} {u:Value},Inv (rj CX P w K mg base N qual scope f dB A outer s H E) [] aF H' s'->RelV v u->Q v H'->CE outer P w H s Q u s':=
  λ{aF H' v u} J rv q=>⟨v,H',J.os,J.bare,J.base,J.aQ,rv,q⟩
 cases fl with
 |ret u=>
  obtain⟨v,aF,H',J,rv,q⟩:=hs;exact c5 J rv q
 |next=>
  obtain⟨aF,H',J,q⟩:=hs;exact c5 (v:=V.aG) (u:=jb) J rfl q
 |brk=>
  obtain⟨_,_,_,q⟩:=hs;exact pj q
 |cont=>
  obtain⟨_,_,_,q⟩:=hs;exact pj q
section
variable {X:Cx}{x:Str}{p pos:Pos}{e:Expr}{es:List Expr}{t:TA}{id T:String}{r:List V->Hp->VK->Prop}
def jU(r:List V->Hp->VK->Prop)(t:TA):TE:=λσ H Q=>t σ H λvs H1=>r vs H1 Q
theorem fK(hc:fT X (.builtin id) r)(hg:Gl X x)(hm:X.mg x=none)(hv:B2 x=some (.builtin id))(ha:PA X (e::es) t)(hn:x≠"__name__":=by decide)(lF:(x == ("__debug__":Str))=false:=by decide)
  (he:dz (e::es) X.env=(false,eval e X.env)::dz es X.env:=by rfl) (dM:(backTo pos (dz es X.env)).any (·.1)=false:=by rfl):PE X (.Call (.Name x p) (e::es) [] pos) (jU r t):=by
 intro ab s σ H Q I h;refine FJ (xq I hg hm hv ?_ hn lF);exact PyProof.Rows.callWith_builtin1 (bh (ha pos ab s σ H _ I h) λus s1 ⟨vs,H1,I1,r1,q1⟩=>hc ab s1 σ H1 vs us Q I1 r1 q1) he dM
theorem oh(hc:fT X (.type T) r)(hg:Gl X x)(hm:X.mg x=none)(hv:B2 x=some (.type T))(ha:PA X (e::es) t)(hn:x≠"__name__":=by decide)(lF:(x == ("__debug__":Str))=false:=by decide)
  (he:dz (e::es) X.env=(false,eval e X.env)::dz es X.env:=by rfl) (dM:(backTo pos (dz es X.env)).any (·.1)=false:=by rfl):PE X (.Call (.Name x p) (e::es) [] pos) (jU r t):=by
 intro ab s σ H Q I h;refine FJ (xq I hg hm hv ?_ hn lF);exact Ny (bh (ha pos ab s σ H _ I h) λus s1 ⟨vs,H1,I1,r1,q1⟩=>hc ab s1 σ H1 vs us Q I1 r1 q1) he dM
end
end L2
namespace HT
open PySem PyProof.Rows
section
open PySem.SeqAt
open PySem.AutoSeq1 (wpAny_loadPart')
open PySem.MeetsSeq PySem.MeetsSeq2 PySem.MeetsSeq3
variable {prog:Program}{w:World}{A:Around}{E:Value->Shared->Prop}{s:Shared}
theorem XD{t b:Addr}{vs ws:List Value}{Q:Value->Shared->Prop}(ht:IsTup s.heap t vs.toArray)(hb:IsTup s.heap b ws.toArray)(hv:vs≠ [])
  (h1:ws= []->Q (.ref t) s) (h2:ws≠ []->Q (.ref s.heap.objs.size) { s with heap:=s.heap.push { cls:= .type "tuple",data:= .seq (vs++ws).toArray } })
  (hsz:vs.length + ws.length<=aM):wpAny (model prog w) A (binaryOp .Add (.ref t) (.ref b)) Q E s:=by
 obtain⟨⟨cls,dd,data,sl⟩,ho,hc,n,hd⟩:=id ht;obtain⟨⟨XE,CU,data2,CV⟩,rl,jV,n2,hd2⟩:=id hb;simp only at hc hd jV hd2;subst hc hd jV hd2;have e:vs.toArray++ws.toArray=(vs++ws).toArray:=by simp
 by_cases hw:ws= []
 ·exact concat_meets ⟨_,ho,rfl⟩ ⟨_,rl,rfl⟩ noFill_tuple_add seq_tuple_add VF VG (VH _ _)
   (tuple_addW1 t b vs.toArray ws.toArray n n2 dd CU sl CV (by simpa using hv) (by simp[hw])) ⟨ho,rl,h1 hw⟩
 ·refine concat_meets ⟨_,ho,rfl⟩ ⟨_,rl,rfl⟩ noFill_tuple_add seq_tuple_add VF VG (VH _ _)
   (tuple_addW2 t b vs.toArray ws.toArray n n2 dd CU sl CV (by simpa using hv) (by simpa using hw) (by rw[fM,fM];exact hsz)) ⟨ho,rl, ?_⟩
  rw[e];exact h2 hw
noncomputable def bE (n d:Nat):Option Int->Nat
 |none=>d
 |some v=>if v < 0 then(v + (n:Int)).toNat else min v.toNat n
theorem arI(n d:Nat):bE n d none=d:=rfl
theorem arJ(n d k:Nat):bE n d (some (k:Int))=min k n:=by
 show(if(k:Int) < 0 then((k:Int) + (n:Int)).toNat else min (k:Int).toNat n)=min k n;rw[if_neg (by lia),Int.toNat_natCast]
theorem XF(n d:Nat)(hd:d<=n)(o:Option Int):bE n d o<=n:=by
 cases o with
 |none=>exact hd
 |some v=>
  show(if v < 0 then(v + (n:Int)).toNat else min v.toNat n)<=n;by_cases hv:v < 0
  ·rw[if_pos hv];lia
  ·rw[if_neg hv];exact awH _ _
theorem OV(v:Int)(n d:Nat):(if v < 0 then max (v + (n:Int)) 0 else min v (n:Int))=((bE n d (some v):Nat):Int):=by
 show(if v < 0 then max (v + (n:Int)) 0 else min v (n:Int))=(((if v < 0 then(v + (n:Int)).toNat else min v.toNat n):Nat):Int);by_cases hv:v < 0
 ·simp only[if_pos hv];lia
 ·simp only[if_neg hv];lia
theorem XG(lo hi:Option Int)(n:Nat):atv lo hi 1 (n:Int)=(((bE n 0 lo:Nat):Int),((bE n n hi:Nat):Int)):=by
 have h1:¬ ((1:Int) < 0):=by lia
 unfold atv;simp only[h1,if_false];refine Prod.ext ?_ ?_
 ·cases lo with
  |none=>rfl
  |some v=>exact OV v n 0
 ·cases hi with
  |none=>rfl
  |some v=>exact OV v n n
theorem XH(i j:Nat):zm (i:Int) (j:Int) 1=j - i:=by
 unfold zm;have h1:(1:Int) > 0:=by lia
 simp only[h1,if_true,Int.ediv_one]
 split <;> lia
theorem CW{v:Value}{o:Option Int}{Q:Option Int->Shared->Prop}(p:IsPart v o)(h:Q o s):wpAny (model prog w) A (Builtin.Slice.slicePartIndex v) Q E s:=by
 cases p with
 |none=>exact slicePart_none h
 |int i t=>exact slicePart_int h
theorem OW{sl:Addr}{vl vu:Value}{lo hi:Option Int}{n:Nat}{Q:Int×Int×Nat->Shared->Prop}(hs:s.heap.IsSliceOf sl vl vu .none)(pl:IsPart vl lo)(pu:IsPart vu hi)
  (h:Q (((bE n 0 lo:Nat):Int),1,bE n n hi - bE n 0 lo) s):wpAny (model prog w) A (VI (.ref sl) (pure (n:Int))) Q E s:=by
 obtain⟨os,mP,ql,qm⟩:=id hs;unfold VI Builtin.Slice.sliceFields;refine az (az (kL mP qm (x:=vl) rfl (az (kL mP qm (x:=vu) rfl (az (kL mP qm (x:= .none) rfl (bF ?_)))))));refine az (slicePart_none ?_);show wpAny _ _ (if((1:Int) == 0)=true then _ else _) _ _ s;rw[if_neg (by decide)];refine az (CW pl (az (CW pu (az (bF ?_)))));show wpAny _ _ (match atv lo hi 1 (n:Int) with | (lo,hi)=>pure (lo,(1:Int),zm lo hi 1)) _ _ s;rw[XG lo hi n];show wpAny _ _ (pure (((bE n 0 lo:Nat):Int),(1:Int),zm ((bE n 0 lo:Nat):Int) ((bE n n hi:Nat):Int) 1)) _ _ s;rw[XH];exact bF h
theorem XI(xs:Array Value)(i k:Nat):((kf k).filterMap λ(m:Nat)=>xs[((i:Int) + (m:Int) * 1).toNat]?).toArray=((xs.toList.drop i).take k).toArray:=by
 have e:(λ(m:Nat)=>xs[((i:Int) + (m:Int) * 1).toNat]?)=λm=>xs[i + m]?:=by
  funext m;have:((i:Int) + (m:Int) * 1).toNat=i + m:=by lia
  rw[this]
 rw[e];have:=pick_run xs i k;rw[List.filterMap_map]at this;have e2:((λx=>xs[x]?) ∘ λx=>i + x)=λm=>xs[i + m]?:=rfl;rw[e2]at this;rw[this]
theorem XJ{t sl:Addr}{items:Array Value}{vl vu:Value}{lo hi:Option Int}{Q:Value->Shared->Prop}(ht:IsTup s.heap t items)(hs:s.heap.IsSliceOf sl vl vu .none)(pl:IsPart vl lo)(pu:IsPart vu hi)
  (hw:¬ (bE items.size 0 lo=0/\bE items.size items.size hi=items.size))
  (h:Q (.ref s.heap.objs.size) { s with heap:=s.heap.push { cls:= .type "tuple",data:= .seq ((items.toList.drop (bE items.size 0 lo)).take (bE items.size items.size hi - bE items.size 0 lo)).toArray } })
  (hsz:items.size<=aM):wpAny (model prog w) A (getItem (.ref t) (.ref sl)) Q E s:=by
 have xA:sizeOk (.seq ((items.toList.drop (bE items.size 0 lo)).take (bE items.size items.size hi - bE items.size 0 lo)).toArray):=by
  show((items.toList.drop (bE items.size 0 lo)).take (bE items.size items.size hi - bE items.size 0 lo)).toArray.size<=aM;rw[fM,Ce,aik,xc]
  lia
 have hj:bE items.size items.size hi<=items.size:=XF _ _ (bO _) hi;obtain⟨os,mP,ql,qm⟩:=id hs;have Ak:s.TypeIs (.ref sl) "slice":=⟨os,mP,ql⟩
 unfold getItem
 try with_reducible refine uL ?_
 first | refine az (bF ?_) | skip
 refine az (wpAny_sequenceKey ht.typeIs (by decide) ?_);refine az (ze (name:=ae "__getitem__") ht.typeIs uQ
  (wpAny_call_entry uQ ht.typeIs Vd ?_ (args_tuple_getitem _ _)))
 show wpAny _ _ (VJ (.ref t) >>= _) _ _ s;refine az (tupleItemsOf_ ht ?_);refine az (Np Ak ?_);rw[if_pos (by decide)];refine az (OW hs pl pu ?_);have XM:¬ ((((bE items.size 0 lo:Nat):Int) == 0 && (1:Int) == 1 && (bE items.size items.size hi - bE items.size 0 lo) == items.size)=true):=by
  intro q;rw[kM,kM]at q;have q1:((bE items.size 0 lo:Nat):Int)=0:=eq_of_beq q.1.1;have q2:bE items.size items.size hi - bE items.size 0 lo=items.size:=eq_of_beq q.2;exact hw ⟨by lia,by lia⟩
 show wpAny _ _ (if(((bE items.size 0 lo:Nat):Int) == 0 && (1:Int) == 1 && (bE items.size items.size hi - bE items.size 0 lo) == items.size)=true then _ else _) _ _ s;rw[if_neg XM,XI]
 first
  |exact az (m:=Cg _) (qP (bF ⟨_,rfl,bF h⟩) xA)
  |exact az (m:=Cg _) (qP (az (bF (bF ⟨_,rfl,bF h⟩))) xA)
  |exact az (az (m:=Cg _) (qP (bF (bF ⟨_,rfl,bF h⟩)) xA))
  |exact az (az (m:=Cg _) (qP (bF ⟨_,rfl,bF h⟩) xA))
end
end HT
namespace L2
open PySem PySem.Spec PyProof.Rows
abbrev TO:=St->Hp->(Option Int->Hp->Prop)->Prop
def PO(X:Cx)(e:Option Expr)(t:TO):Prop:=
 ∀(ab:List (Addr×Obj)) (s:Shared) (σ:St) (H:Hp) (Q:Option Int->Hp->Prop),Inv X ab σ H s->t σ H Q->
  wpAny (model X.prog X.w) X.A (evalPart e X.env) (λu s'=>∃o H',Inv X ab σ H' s'/\IsPart u o/\Q o H') X.xe s
def arK:TO:=λ_ H Q=>Q none H
def rm(t:TE):TO:=λσ H Q=>t σ H λx H1=>∃i,x= .int i/\Q (some i) H1
section
variable {X:Cx}{e:Expr}{te:TE}{lo hi:Option Expr}{tl th:TO}{pos p2:Pos}
theorem OX:PO X none arK:=by
 intro ab s σ H Q I h;rw[evalPart_none];exact bF ⟨none,H,I, .none,h⟩
theorem kR(h:PE X e te):PO X (some e) (rm te):=by
 intro ab s σ H Q I hw;rw[evalPart_some];refine bh (h ab s σ H _ I hw) λu s1 ⟨x,H1,I1,r1,q1⟩=> ?_;obtain⟨i,rfl,q⟩:=q1;obtain⟨t,rfl⟩:=r1;exact⟨some i,H1,I1, .int i t,q⟩
def mQ(X:Cx)(r:V->Option Int->Option Int->Hp->VK->Prop):Prop:=
 ∀(ab:List (Addr×Obj)) (s:Shared) (σ:St) (H:Hp) (x:V) (v vl vu:Value) (lo hi:Option Int) (sl:Addr) (Q:VK),Inv X ab σ H s->RelV x v->s.heap.IsSliceOf sl vl vu .none->IsPart vl lo->IsPart vu hi->r x lo hi H Q->
  ∃T id,typeLookup (.type T) "__getitem__"=pure (some (.builtin id))/\s.TypeIs v T/\wpAny (model X.prog X.w) X.A (getItem v (.ref sl)) (EP X ab σ Q) X.xe s
theorem mQ.or{r r':V->Option Int->Option Int->Hp->VK->Prop}(h:mQ X r)(h':mQ X r'):mQ X (λx lo hi H Q=>r x lo hi H Q\/r' x lo hi H Q):=by
 intro ab s σ H x v vl vu lo hi sl Q I rx hs pl pu q;rcases q with q | q
 ·exact h ab s σ H x v vl vu lo hi sl Q I rx hs pl pu q
 ·exact h' ab s σ H x v vl vu lo hi sl Q I rx hs pl pu q
def CY(r:V->Option Int->Option Int->Hp->VK->Prop)(te:TE)(tl th:TO):TE:=λσ H Q=>te σ H λx H1=>tl σ H1 λl H2=>th σ H2 λu H3=>r x l u H3 Q
theorem xB{r:V->Option Int->Option Int->Hp->VK->Prop}(hr:mQ X r)(he:PE X e te)(hl:PO X lo tl)(hu:PO X hi th):PE X (.Subscript e (.Slice lo hi none p2) pos) (CY r te tl th):=by
 intro ab s σ H Q I h;refine Subscript_ (bh (he ab s σ H _ I h) λv s1 ⟨x,H1,I1,r1,q1⟩=> ?_);refine wpAny_Slice (bh (hl ab s1 σ H1 _ I1 q1) λvl s2 ⟨l,H2,I2,pl,q2⟩=>bh (hu ab s2 σ H2 _ I2 q2) λvu s3 ⟨u,H3,I3,pu,q3⟩=> ?_);rw[evalPart_none];refine bF ?_;have I4:Inv X ab σ H3 { s3 with heap:=s3.heap.push { cls:= .type "slice",data:= .fields #[vl,vu, .none] } }:=I3.kept (t':=s3.toks) λb ob q=>cB _ q;obtain⟨T,id,hT,ht,hg⟩:=hr ab { s3 with heap:=s3.heap.push { cls:= .type "slice",data:= .fields #[vl,vu, .none] } } σ H3 x v vl vu l u s3.heap.objs.size Q I4 r1 (Heap.IsSliceOf.new ..) pl pu q3;show wpAny (model X.prog X.w) X.A (subscriptTail e (.Slice lo hi none p2) v (.ref s3.heap.objs.size)) (EP X ab σ Q) X.xe { s3 with heap:=s3.heap.push { cls:= .type "slice",data:= .fields #[vl,vu, .none] } };exact tail_any (ops:= [.ref s3.heap.objs.size,v]) ht hT hg (by with_unfolding_all rfl)
def xC(xs:List V)(lo hi:Option Int):List V:=(xs.drop (HT.bE xs.length 0 lo)).take (HT.bE xs.length xs.length hi - HT.bE xs.length 0 lo)
theorem OY(xs:List V)(lo hi:Option Int):(xC xs lo hi).length<=xs.length:=by
 unfold xC;rw[Ce,aik]
 lia
def OZ(K:ah):V->Option Int->Option Int->Hp->VK->Prop:=λx lo hi H Q=>∃a xs,x= .ref a/\cE K H a xs/\
 ¬ (HT.bE xs.length 0 lo=0/\HT.bE xs.length xs.length hi=xs.length)/\∀p,H p=none->Q (.ref p) (upd H p (.tup (xC xs lo hi)))
theorem XN:mQ X (OZ X.K):=by
 intro ab s σ H x v vl vu lo hi sl Q I rx hs pl pu h;obtain⟨a,xs,rfl,hx,hw,q⟩:=h;cases rx;obtain⟨its,r,ht,hz⟩:=I.tuple hx;have dw:its.toArray.size=xs.length:=by rw[fM];exact r.length.symm
 refine⟨"tuple",_,uQ.lookup,ht.typeIs, ?_⟩;refine HT.XJ ht hs pl pu (by rw[dw];exact hw) ?_ (by rw[dw];exact hz);rw[dw];refine⟨.ref s.heap.objs.size,_,I.laid (t':=s.toks) (o:= .tup (xC xs lo hi)) (λb ob q=>cB _ q) (bO _) ?_,rfl,q _ (I.aQ.fresh (bO _))⟩;exact⟨b7 (OY xs lo hi) hz,_,(r.drop (HT.bE xs.length 0 lo)).take (HT.bE xs.length xs.length hi - HT.bE xs.length 0 lo),Nw _ _⟩
def GF(K:ah):R2:=λx y H Q=>∃a b xs ys,x= .ref a/\y= .ref b/\cE K H a xs/\cE K H b ys/\xs≠ []/\xs.length + ys.length<=aM/\
 (ys= []->Q (.ref a) H)/\(ys≠ []->∀p,H p=none->Q (.ref p) (upd H p (.tup (xs++ys))))
theorem bj.GG{xs:List V}(r:bj xs us):us= []↔xs= []:=by
 cases r with
 |nil=>simp
 |cons _ _=>simp
theorem O0:cu X (binaryOp .Add) (GF X.K):=by
 intro ab s σ H x y v u Q I rx ry h;obtain⟨a,b,xs,ys,rfl,rfl,ha,hb,hx,hz,q1,q2⟩:=h;cases rx;cases ry;obtain⟨its,r1,p1,_⟩:=I.tuple ha;obtain⟨mh,r2,p2,_⟩:=I.tuple hb;refine HT.XD p1 p2 (λz=>hx (r1.GG.mp z)) (λz=>⟨.ref a,H,I,rfl,q1 (r2.GG.mp z)⟩) (λz=> ?_) (by rw[<- r1.length, <- r2.length];exact hz);refine⟨.ref s.heap.objs.size,_,I.laid (t':=s.toks) (o:= .tup (xs++ys)) (λb ob q=>cB _ q) (bO _) ?_,rfl,q2 (λw=>z (r2.GG.mpr w)) _ (I.aQ.fresh (bO _))⟩;exact⟨by rw[dg];exact hz,_,r1.append r2,Nw _ _⟩
end
noncomputable def gC (n:Nat) (i:Int):Option Nat:=if 0<=i then(if i < n then some i.toNat else none) else if -(n:Int)<=i then some (i + n).toNat else none
def va{α:Type}(xs:List α)(i:Int):Option α:=(gC xs.length i).bind λj=>xs[j]?
theorem O1(h:gC n i=some j):seqIndex? i n=some j/\j < n/\ -(n:Int)<=i/\i < n:=by
 unfold gC at h;by_cases h0:0<=i
 ·rw[if_pos h0]at h;by_cases h1:i < n
  ·rw[if_pos h1]at h;have e:i.toNat=j:=hV h;exact⟨by rw[Vg h0 h1,e],by lia,by lia,h1⟩
  ·rw[if_neg h1]at h;cases h
 ·rw[if_neg h0]at h;by_cases h1: -(n:Int)<=i
  ·rw[if_pos h1]at h;have e:(i + n).toNat=j:=hV h;exact⟨by rw[Vh (by lia) h1,e],by lia,h1,by lia⟩
  ·rw[if_neg h1]at h;cases h
theorem GH{α:Type}{xs:List α}{v:α}(h:va xs i=some v):∃j,seqIndex? i xs.length=some j/\xs[j]?=some v/\j < xs.length/\ -(xs.length:Int)<=i/\i < xs.length:=by
 unfold va at h;cases e:gC xs.length i with
 |none=>rw[e]at h;cases h
 |some j=>
  rw[e]at h;obtain⟨h1,h2,h3,h4⟩:=O1 e;exact⟨j,h1,h,h2,h3,h4⟩
def CZ(b:Expr):Prop:=∀o i,subscripted b false o i=operate [o,i] (getItem o i)
def mR(X:Cx)(r:R2):Prop:=
 ∀(value slice:Expr) (ab:List (Addr×Obj)) (s:Shared) (σ:St) (H:Hp) (x y:V) (v u:Value) (Q:VK),Inv X ab σ H s->RelV x v->RelV y u->r x y H Q->
  subscripted slice false v u=operate [v,u] (getItem v u)->wpAny (model X.prog X.w) X.A (subscriptTail value slice v u) (EP X ab σ Q) X.xe s
def Am(X:Cx)(id:String)(r:V->List V->Hp->VK->Prop):Prop:=
 ∀(ab:List (Addr×Obj)) (s:Shared) (σ:St) (H:Hp) (x:V) (xs:List V) (v:Value) (us:List Value) (Q:VK),Inv X ab σ H s->RelV x v->bj xs us->r x xs H Q->
  wpAny (model X.prog X.w) X.A (call (.builtin id) (v::us)) (EP X ab σ Q) X.xe s
section
variable {X:Cx}{a b:Expr}{ta tb:TE}{pos:Pos}
theorem mR.or{r r':R2}(h:mR X r)(h':mR X r'):mR X (λx y H Q=>r x y H Q\/r' x y H Q):=by
 intro value slice ab s σ H x y v u Q I rx ry q hs;rcases q with q | q
 ·exact h value slice ab s σ H x y v u Q I rx ry q hs
 ·exact h' value slice ab s σ H x y v u Q I rx ry q hs
theorem xE{r:R2}(hr:mR X r)(ha:PE X a ta)(hb:PE X b tb)(hs:CZ b):PE X (.Subscript a b pos) (ig r ta tb):=by
 intro ab s σ H Q I h;exact Subscript_ (Gj ha hb I h λv u s2 x y H2 I2 rx ry q=>hr a b ab s2 σ H2 x y v u Q I2 rx ry q (hs _ _))
def O2(K:ah):R2:=λx y H Q=>∃p xs i v,x= .ref p/\y= .int i/\cI K H p xs/\va xs i=some v/\Q v H
def O3(K:ah):R2:=λx y H Q=>∃p xs i v,x= .ref p/\y= .int i/\cE K H p xs/\va xs i=some v/\Q v H
def O4:R2:=λx y H Q=>∃z i c,x= .str z/\y= .int i/\z.length<=aM/\va z.cps.toList i=some c/\Q (.str ⟨#[c]⟩) H
theorem XQ:mR X (O2 X.K):=by
 intro value slice ab s σ H x y v u Q I rx ry h hs;obtain⟨p,xs,i,z,rfl,rfl,hq,he,q⟩:=h;cases rx;obtain⟨t,rfl⟩:=ry;obtain⟨its,r,pl,hz⟩:=I.list hq;obtain⟨j,h1,h2,h3,h4,h5⟩:=GH he;obtain⟨w,ew,km⟩:=r.get h2;have hl:=r.length;have hn:=vm;have c5:EP X ab σ Q w s:=⟨z,H,I,km,q⟩
 by_cases h0:0<=i
 ·have hj:i.toNat=j:=by
   rw[Vg h0 h5]at h1;exact hV h1
  exact item_listR pl.isList h0 (by lia) (by rw[hj];simpa using ew) c5 hs
 ·have hj:(i + (its.toArray.size:Int)).toNat=j:=by
   rw[Vh (by lia) h4]at h1;rw[fM, <- hl];exact hV h1
  exact aib (x:=w) pl.isList.typeIs slot_list_getitem.lookup
   (wpAny_getItem_list_neg (Q:=λr s'=>r=w/\EP X ab σ Q r s') pl.isList (by lia) (by rw[fM]<;> lia) (by lia) (by rw[hj];simpa using ew) ⟨rfl,c5⟩) hs
theorem XR:mR X (O3 X.K):=by
 intro value slice ab s σ H x y v u Q I rx ry h hs;obtain⟨p,xs,i,z,rfl,rfl,hq,he,q⟩:=h;cases rx;obtain⟨t,rfl⟩:=ry;obtain⟨its,r,pl,hz⟩:=I.tuple hq;obtain⟨j,h1,h2,h3,h4,h5⟩:=GH he;obtain⟨w,ew,km⟩:=r.get h2;have hl:=r.length;have hn:=vm;have c5:EP X ab σ Q w s:=⟨z,H,I,km,q⟩
 exact aib (x:=w) pl.typeIs slot_tuple_getitem.lookup
  (getItem_tuple (j:=j) (Q:=λr s'=>r=w/\EP X ab σ Q r s') pl (by lia) (by lia) (by rw[fM, <- hl];exact h1) (by simpa using ew) ⟨rfl,c5⟩) hs
theorem XS:mR X O4:=by
 intro value slice ab s σ H x y v u Q I rx ry h hs;obtain⟨z,i,c,rfl,rfl,hz,he,q⟩:=h;obtain⟨t,rfl⟩:=rx;obtain⟨t',rfl⟩:=ry;obtain⟨j,h1,h2,h3,h4,h5⟩:=GH he;have hl:z.cps.toList.length=z.length:=by simp[Str.length]
 rw[hl]at h1 h4 h5;have hn:=vm;exact tail_any (typeIs_str s z t) slot_str_getitem.lookup (getItem_str (c:=c) (by
  have e1:decide (i < -(2 ^ 63:Int))=false:=decide_eq_false (by lia);have e2:decide (i≥2 ^ 63)=false:=decide_eq_false (by lia);rw[e1,e2,Bool.or_false]) (by rw[h1];simpa using h2) ⟨.str ⟨#[c]⟩,H,I.tok _,⟨_,rfl⟩,q⟩) hs
def GI(K:ah):R2:=λx y H Q=>O2 K x y H Q\/O3 K x y H Q\/O4 x y H Q
theorem XT:mR X (GI X.K):=XQ.or (XR.or XS)
theorem XU(its:List Value)(n j:Nat)(u:Value):zo (·.setIfInBounds j u) { cls:= .type "list",data:= .seq its.toArray n }= { cls:= .type "list",data:= .seq (its.set j u).toArray n }:=by
 simp[zo]
theorem Inv.lst{ab:List (Addr×Obj)}{σ:St}{H:Hp}{s:Shared}{p:Addr}{xs:List V}(I:Inv X ab σ H s)(h:H p=some (.lst xs)):
  ∃(its:List Value) (n:Nat),bj xs its/\s.heap.get? p=some { cls:= .type "list",data:= .seq its.toArray n }/\xs.length<=aM:=by
 obtain⟨z,its,n,r,e⟩:=I.aQ p _ h;exact⟨its,n,r,e,z⟩
theorem Inv.XW{ab:List (Addr×Obj)}{σ:St}{H:Hp}{s:Shared}{p:Addr}{xs ys:List V}{its its':List Value}{n n':Nat}{f:Obj->Obj}(I:Inv X ab σ H s)(h:H p=some (.lst xs))
  (ho:s.heap.get? p=some { cls:= .type "list",data:= .seq its.toArray n }) (hf:f { cls:= .type "list",data:= .seq its.toArray n }= { cls:= .type "list",data:= .seq its'.toArray n' }) (r:bj ys its') (hz:ys.length<=aM) (t:Nat):
  Inv X ab σ (upd H p (.lst ys)) { s with heap:=s.heap.update p f,toks:=t }:=by
 have e:(s.heap.update p f).get? p=some { cls:= .type "list",data:= .seq its'.toArray n' }:=by
  rw[aim f ho (by rw[hf]<;> rfl),hf]
 refine I.write (x:=p) (e:=p) (by rw[h];trivial) (.inl rfl) (λb u hb q=>(VN _ _ (fw hb)).trans q) ⟨_,e⟩ ?_;exact⟨hz,its',n',r,e⟩
def O5:V->V->V->Hp->(Hp->Prop)->Prop:=λo i v H Q=>∃p xs k j,o= .ref p/\i= .int k/\H p=some (.lst xs)/\gC xs.length k=some j/\Q (upd H p (.lst (xs.set j v)))
theorem ah7:Oo X O5:=by
 intro ab s σ H o i v ov iv u Q I ro ri rv h;obtain⟨p,xs,k,j,rfl,rfl,hp,hj,q⟩:=h;cases ro;obtain⟨t,rfl⟩:=ri;obtain⟨its,n,r,ho,hz⟩:=I.lst hp;obtain⟨h1,h2,h3,h4⟩:=O1 hj;have hl:=r.length;have hn:=vm;have I':Inv X ab σ (upd H p (.lst (xs.set j v))) { s with heap:=s.heap.update p (zo (·.setIfInBounds j u)) }:=
  I.XW hp ho (XU its n j u) (r.set rv j) (by rw[bN];exact hz) s.toks
 by_cases h0:0<=k
 ·have hk:k.toNat=j:=by
   rw[Vg h0 h4]at h1;exact hV h1
  exact W.ki_setAt ho h0 (by lia) (by rw[fM, <- hl];exact h4) (by rw[hk];exact⟨_,I',q⟩)
 ·have hk:(k + (its.toArray.size:Int)).toNat=j:=by
   rw[Vh (by lia) h3]at h1;rw[fM, <- hl];exact hV h1
  exact W.ki_setBack ho (by lia) (by rw[fM, <- hl];exact h3) (by lia) (by rw[hk];exact⟨_,I',q⟩)
theorem XX(lo hi:Option Int)(n:Nat):(zf lo hi none n).1=((HT.bE n 0 lo:Nat):Int)/\(zf lo hi none n).2.1=((HT.bE n n hi:Nat):Int)/\(zf lo hi none n).2.2=1:=by
 refine⟨?_, ?_,rfl⟩
 ·cases lo with
  |none=>simp[zf,HT.bE]
  |some i=>
   simp only[zf,HT.bE,ain,show(1:Int) > 0 by decide,if_true];by_cases h:i < 0
   ·simp only[h,if_true]<;> lia
   ·simp only[h,if_false]<;> lia
 ·cases hi with
  |none=>simp[zf,HT.bE]
  |some i=>
   simp only[zf,HT.bE,ain,show(1:Int) > 0 by decide,if_true];by_cases h:i < 0
   ·simp only[h,if_true]<;> lia
   ·simp only[h,if_false]<;> lia
theorem XY(its:List Value)(lo hi:Option Int):slicePick its.toArray lo hi none=((its.drop (HT.bE its.length 0 lo)).take (HT.bE its.length its.length hi - HT.bE its.length 0 lo)).toArray:=by
 obtain⟨h1,h2,h3⟩:=XX lo hi its.toArray.size;unfold slicePick;rw[h1,h2,h3];simp only[sliceRange_one,pick_run,fM]<;> rfl
def O6(K:ah):V->Option Int->Option Int->Hp->VK->Prop:=λx lo hi H Q=>∃a xs,x= .ref a/\cI K H a xs/\∀p,H p=none->Q (.ref p) (upd H p (.lst (xC xs lo hi)))
theorem XZ:mQ X (O6 X.K):=by
 intro ab s σ H x v vl vu lo hi sl Q I rx hs pl pu h;obtain⟨a,xs,rfl,hx,q⟩:=h;cases rx;obtain⟨its,r,ht,hz⟩:=I.list hx;have dw:=r.length;refine⟨"list",_,slot_list_getitem.lookup,ht.isList.typeIs, ?_⟩;refine wpAny_getItem_list_slice ht.isList hs pl pu .none (by simp) ?_ (by rw[fM]<;> lia);rw[XY, <- dw];refine⟨.ref s.heap.objs.size,_,I.laid (t':=s.toks) (o:= .lst (xC xs lo hi)) (λb ob q=>cB _ q) (bO _) ?_,rfl,q _ (I.aQ.fresh (bO _))⟩;exact⟨b7 (OY xs lo hi) hz,_,0,(r.drop (HT.bE xs.length 0 lo)).take (HT.bE xs.length xs.length hi - HT.bE xs.length 0 lo),gc _ rfl⟩
noncomputable def g7:V->Bool
 |.aG=>true
 |.bl _=>true
 |.int _=>true
 |.str _=>true
 |_=>false
noncomputable def pE:V->V->Bool
 |.aG, .aG=>true
 |.bl a, .bl b=>a == b
 |.bl a, .int b=>(if a then 1 else 0) == b
 |.int a, .bl b=>a == (if b then 1 else 0)
 |.int a, .int b=>a == b
 |.str a, .str b=>a == b
 |_,_=>false
theorem X0{A:Around}{s:Shared}{y x:V}{u v:Value}(ry:RelV y u)(rx:RelV x v)(fy:g7 y=true)(fx:g7 x=true):SeqAt.EqAt A s u v (pE y x):=by
 cases y with
 |aG=>
  cases ry;cases x with
  |aG=>cases rx;exact SeqAt.EqAt.same _
  |bl b=>cases rx;exact SeqAt.EqAt.none_bool b
  |int b=>obtain⟨t,rfl⟩:=rx;exact SeqAt.EqAt.none_int b t
  |str b=>obtain⟨t,rfl⟩:=rx;exact SeqAt.EqAt.none_str b t
  |_=>exact absurd (show false=true from fx) df
 |bl a=>
  cases ry;cases x with
  |aG=>cases rx;exact SeqAt.EqAt.bool_none a
  |bl b=>cases rx;exact SeqAt.EqAt.bool_bool a b
  |int b=>obtain⟨t,rfl⟩:=rx;exact SeqAt.EqAt.bool_int a b t
  |str b=>obtain⟨t,rfl⟩:=rx;exact SeqAt.EqAt.bool_str a b t
  |_=>exact absurd (show false=true from fx) df
 |int a=>
  obtain⟨t',rfl⟩:=ry;cases x with
  |aG=>cases rx;exact SeqAt.EqAt.int_none a t'
  |bl b=>cases rx;exact SeqAt.EqAt.int_bool a t' b
  |int b=>obtain⟨t,rfl⟩:=rx;exact SeqAt.EqAt.int_int a t' b t
  |str b=>obtain⟨t,rfl⟩:=rx;exact aif a t' b t
  |_=>exact absurd (show false=true from fx) df
 |str a=>
  obtain⟨t',rfl⟩:=ry;cases x with
  |aG=>cases rx;exact SeqAt.EqAt.str_none a t'
  |bl b=>cases rx;exact SeqAt.EqAt.str_bool a t' b
  |int b=>obtain⟨t,rfl⟩:=rx;exact aih a t' b t
  |str b=>obtain⟨t,rfl⟩:=rx;exact SeqAt.EqAt.str_str a t' b t
  |_=>exact absurd (show false=true from fx) df
 |_=>exact absurd (show false=true from fy) df
def lG(x:V)(u:Value):Bool:=match u with
 |.none=>pE .aG x
 |.bool b=>pE (.bl b) x
 |.int i _=>pE (.int i) x
 |.str z _=>pE (.str z) x
 |_=>false
theorem O7{x y:V}{u:Value}(r:RelV y u)(f:g7 y=true):lG x u=pE y x:=by
 cases y with
 |aG=>cases r;rfl
 |bl b=>cases r;rfl
 |int i=>obtain⟨t,rfl⟩:=r;rfl
 |str z=>obtain⟨t,rfl⟩:=r;rfl
 |_=>exact absurd (show false=true from f) df
theorem Ao{x:V}:∀{xs:List V} {us:List Value},bj xs us->xs.all g7=true->us.any (lG x)=xs.any λy=>pE y x
 |_,_, .nil,_=>rfl
 |y::xs,u::us, .cons r t,f=>by
  rw[List.all_cons,kM]at f;rw[uR,uR,O7 r f.1,Ao t f.2]
theorem Ap{A:Around}{s:Shared}{x:V}{v:Value}(rx:RelV x v)(fx:g7 x=true):∀{xs:List V} {us:List Value},bj xs us->xs.all g7=true->∀u∈us,SeqAt.EqAt A s u v (lG x u)
 |_,_, .nil,_=>λu hu=>by cases hu
 |y::xs,u::us, .cons r t,f=>λu' hu=>by
  rw[List.all_cons,kM]at f;rcases bL.mp hu with rfl | hu
  ·rw[O7 r f.1];exact X0 r rx f.1 fx
  ·exact Ap rx fx t f.2 u' hu
def tH(x:V)(xs:List V):Bool:=xs.any λy=>pE y x
def C0(K:ah)(neg:Bool):R2:=λx y H Q=>∃p xs,y= .ref p/\(cI K H p xs\/cE K H p xs)/\g7 x=true/\xs.all g7=true/\Q (.bl (if neg then !tH x xs else tH x xs)) H
theorem X1:cu X (compareOp .In) (C0 X.K false):=by
 intro ab s σ H x y v u Q I rx ry h;obtain⟨p,xs,rfl,hq,fx,fs,q⟩:=h;cases ry;rcases hq with hq | hq
 ·obtain⟨its,r,pl,hz⟩:=I.list hq;refine SeqAt.in_listAt (lG x) pl.isList (λw hw=>Ap rx fx r fs w (by simpa using hw)) ⟨.bl _,H,I,rfl, ?_⟩;rw[show its.toArray.any (lG x)=its.any (lG x) by simp,Ao r fs];exact q
 ·obtain⟨its,r,pl,hz⟩:=I.tuple hq;refine SeqAt.in_tupleAt (lG x) pl (λw hw=>Ap rx fx r fs w (by simpa using hw)) ⟨.bl _,H,I,rfl, ?_⟩;rw[show its.toArray.any (lG x)=its.any (lG x) by simp,Ao r fs];exact q
theorem X3:fT X (.builtin "len") (λxs H Q=>∃p ys,xs= [.ref p]/\(cI X.K H p ys\/cE X.K H p ys)/\Q (.int ys.length) H):=by
 intro ab s σ H xs us Q I r h;obtain⟨p,ys,rfl,hq,q⟩:=h;obtain⟨u,rfl,rx⟩:=vals1 r;cases rx;have hn:=vm;rcases hq with hq | hq
 ·obtain⟨its,r',pl,hz⟩:=I.list hq;have dw:=r'.length;exact Calls.call_len_list pl.isList (by simp only[fM]<;> lia) ⟨.int ys.length,H,I.tok _,⟨s.toks + 1,by rw[fM,dw]⟩,q⟩
 ·obtain⟨its,r',pl,hz⟩:=I.tuple hq;have dw:=r'.length;exact len_tuple pl (by simp only[fM]<;> lia) ⟨.int ys.length,H,I.tok _,⟨s.toks + 1,by rw[fM,dw]⟩,q⟩
theorem X4:fT X (.builtin "len") (λxs H Q=>∃z,xs= [.str z]/\z.length<=aM/\Q (.int z.length) H):=by
 intro ab s σ H xs us Q I r h;obtain⟨z,rfl,hz,q⟩:=h;obtain⟨u,rfl,t,rfl⟩:=vals1 r;have hn:=vm;exact len_str (by lia) ⟨.int z.length,H,I.tok _,⟨_,rfl⟩,q⟩
theorem atJ:fT X (.type "list") (λxs H Q=>∃p ys,xs= [.ref p]/\(cI X.K H p ys\/cE X.K H p ys)/\∀l,H l=none->Q (.ref l) (upd H l (.lst ys))):=by
 intro ab s σ H xs us Q I r h;obtain⟨p,ys,rfl,hq,q⟩:=h;obtain⟨u,rfl,rx⟩:=vals1 r;cases rx;have c5:∀(its:List Value),bj ys its->ys.length<=aM->∀(h':Heap) (c':Nat),(∀b o',s.heap.get? b=some o'->h'.get? b=some o')->
   h'.get? s.heap.objs.size=some { cls:= .type "list",dict:=none,data:= .seq its.toArray c',slots:=#[] }->EP X ab σ Q (.ref s.heap.objs.size) { s with heap:=h' }:=λits r' hz h' c' kp e=>
  ⟨.ref s.heap.objs.size,_,I.laid (t':=s.toks) kp (bO _) (show gr X.prog X.w _ h' _ (.lst ys) from⟨hz,its,c',r',e⟩),rfl,q _ (I.aQ.fresh (bO _))⟩
 rcases hq with hq | hq
 ·obtain⟨its,r',pl,hz⟩:=I.list hq;have dw:=r'.length;obtain⟨o,ho,hc,n,hd⟩:=pl.isList;exact call_list_seq p (.inl rfl) ho hc hd (λh' c' kp e=>c5 its r' hz h' c' kp e) (by simp only[fM]<;> lia)
 ·obtain⟨its,r',pl,hz⟩:=I.tuple hq;have dw:=r'.length;obtain⟨o,ho,hc,n,hd⟩:=pl;exact call_list_seq p (.inr rfl) ho hc hd (λh' c' kp e=>c5 its r' hz h' c' kp e) (by simp only[fM]<;> lia)
theorem atL:fT X (.type "tuple") (λxs H Q=>∃p ys,xs= [.ref p]/\((cI X.K H p ys/\∀l,H l=none->Q (.ref l) (upd H l (.tup ys)))\/(cE X.K H p ys/\Q (.ref p) H))):=by
 intro ab s σ H xs us Q I r h;obtain⟨p,ys,rfl,h⟩:=h;obtain⟨u,rfl,rx⟩:=vals1 r;cases rx;rcases h with⟨hq,q⟩ | ⟨hq,q⟩
 ·obtain⟨its,r',pl,hz⟩:=I.list hq;have dw:=r'.length;refine call_tuple_list pl.isList (λh' kp=> ?_) (by simp only[fM]<;> lia);have I1:Inv X ab σ H { s with heap:=h' }:=I.kept (t':=s.toks) kp;have I2:Inv X ab σ (upd H h'.objs.size (.tup ys)) { s with heap:=h'.push { cls:= .type "tuple",data:= .seq its.toArray } }:=
   I1.laid (t':=s.toks) (λb o e=>cB _ e) (bO _) (show gr X.prog X.w _ _ _ (.tup ys) from⟨hz,its,r',Nw _ _⟩)
  exact⟨.ref h'.objs.size,_,I2,rfl,q _ (I1.aQ.fresh (bO _))⟩
 ·obtain⟨its,r',pl,hz⟩:=I.tuple hq;exact call_tuple_same pl ⟨.ref p,H,I,rfl,q⟩
def vt(K:ah)(T:String)(x:V)(H:Hp):Prop:=match x with
 |.str _=>T="str"
 |.int _=>T="int"
 |.ref p=>(T="list"/\∃xs,cI K H p xs)\/(T="tuple"/\∃o,K.lookup p=some o/\o.cls= .type "tuple"/\o.dict=none)\/
   (T="dict"/\((∃aa,H p=some (.dK aa))\/∃aa,H p=some (.dT aa)))\/(T="set"/\∃S n,H p=some (.set S n))
 |_=>False
theorem O8{ab:List (Addr×Obj)}{σ:St}{H:Hp}{s:Shared}{T:String}{x:V}{v:Value}(I:Inv X ab σ H s)(r:RelV x v)(ty:vt X.K T x H):
  s.TypeIs v T/\∀a,v= .ref a->∃ob,s.heap.get? a=some ob/\ob.dict=none:=by
 cases x with
 |str z=>
  obtain⟨t,rfl⟩:=r;cases(show T="str" from ty);exact⟨typeIs_str s z t,λ_ e=>nomatch e⟩
 |int i=>
  obtain⟨t,rfl⟩:=r;cases(show T="int" from ty);exact⟨typeIs_int s i t,λ_ e=>nomatch e⟩
 |ref p=>
  cases r;rcases ty with⟨rfl,xs,hq⟩ | ⟨rfl,o,hk,hc,hd⟩ | ⟨rfl,hk⟩ | ⟨rfl,S,n,hk⟩
  ·obtain⟨its,_,pl,_⟩:=I.list hq;refine⟨pl.isList.typeIs,λa e=> ?_⟩;cases e;obtain⟨o,n,e,c,hd,_⟩:=pl;exact⟨o,e,hd⟩
  ·refine⟨⟨o,I.fN p o hk,hc⟩,λa e=> ?_⟩;cases e;exact⟨o,I.fN _ o hk,hd⟩
  ·have z:∃o,s.heap.get? p=some o/\o.ExactDict:=by
    rcases hk with⟨aa,hk⟩ | ⟨aa,hk⟩
    ·obtain⟨_,_,_,_,o,_,_,e,ex,_⟩:=I.aQ p _ hk;exact⟨o,e,ex⟩
    ·obtain⟨_,_,_,_,o,_,_,e,ex,_⟩:=I.aQ p _ hk;exact⟨o,e,ex⟩
   obtain⟨o,e,ex⟩:=z;refine⟨⟨o,e,ex.1⟩,λa e2=> ?_⟩;cases e2;exact⟨o,e,ex.2.1⟩
  ·obtain⟨o,_,_,_,e,ex,_⟩:=I.aQ p _ hk;refine⟨⟨o,e,ex.1⟩,λa e2=> ?_⟩;cases e2;exact⟨o,e,ex.2.1⟩
 |_=>exact pj ty
def GJ(K:ah)(T:String)(r:V->List V->Hp->VK->Prop)(to:TE):TE:=λσ H Q=>to σ H λx H1=>vt K T x H1/\r x [] H1 Q
def vy(K:ah)(T:String)(r:V->List V->Hp->VK->Prop)(to:TE)(t:TA):TE:=λσ H Q=>to σ H λx H1=>vt K T x H1/\t σ H1 λxs H2=>r x xs H2 Q
variable {o e:Expr}{es:List Expr}{to:TE}{t:TA}{name:Str}{jM gE:Pos}{T id:String}{r:V->List V->Hp->VK->Prop}
theorem X5(pa:PlainAttrs T)(slot:Slot T name id)(rn:typeOf (.builtin id)=pure (.type "method_descriptor"))(hm:Am X id r)(ho:PE X o to)
  (rq:attributeBase o name X.env (eval o X.env)=eval o X.env:=by rfl) (rA:(jM.endLine == gE.line)=true:=by rfl):PE X (.Call (.Attribute o name jM) [] [] gE) (GJ X.K T r to):=by
 intro ab s σ H Q I h;refine Vi rq rA (bh (ho ab s σ H _ I h) λv s1 ⟨x,H1,I1,r1,ty,q1⟩=> ?_);obtain⟨h1,h2⟩:=O8 I1 r1 ty;exact⟨T,id,pa,slot,rn,h1,h2,Ci rfl (VO (hm ab s1 σ H1 x [] v [] Q I1 r1 .nil q1))⟩
theorem GK(pa:PlainAttrs T)(slot:Slot T name id)(rn:typeOf (.builtin id)=pure (.type "method_descriptor"))(hm:Am X id r)(ho:PE X o to)(ha:PA X (e::es) t)
  (rq:attributeBase o name X.env (eval o X.env)=eval o X.env:=by rfl)
  (X6:((backTo gE (dz (e::es) X.env)).all (λx=> !x.1) && (B7 gE (B8 [] X.env)).all (λx=>x.1.isSome)
   && decide ((e::es).length + ([]:List Keyword).length + (if([]:List Keyword).isEmpty then 0 else 1) < 30))=true:=by rfl)
  (rA:(jM.endLine == gE.line)=true:=by rfl) (hs:dz (e::es) X.env=(false,eval e X.env)::dz es X.env:=by rfl) (X7:(backTo gE (dz es X.env)).any (·.1)=false:=by rfl):
  PE X (.Call (.Attribute o name jM) (e::es) [] gE) (vy X.K T r to t):=by
 intro ab s σ H Q I h;refine wpAny_Call_method_late rq X6 rA rfl (bh (ho ab s σ H _ I h) λv s1 ⟨x,H1,I1,r1,ty,q1⟩=> ?_);obtain⟨h1,h2⟩:=O8 I1 r1 ty;refine⟨T,id,pa,slot,rn,h1,h2, ?_⟩;have hA:=ha gE ab s1 σ H1 _ I1 q1;rw[hs]at hA |-;refine Ci (by show(false || (backTo gE (dz es X.env)).any (·.1))=false;rw[X7]<;> rfl) (VP ?_);exact bh hA λus s2 ⟨vs,H2,I2,r2,q2⟩=>hm ab s2 σ H2 x vs v us Q I2 r1 r2 q2
/- xs.append(e),list.index on a module's tuple .. are Am facts of 06m -/
end
def GL(X:Cx)(id:String)(r:V->List V->Hp->VK->Prop):Prop:=
 ∀(ab:List (Addr×Obj)) (s:Shared) (σ:St) (H:Hp) (x:V) (xs:List V) (v:Value) (us:List Value) (Q:VK),Inv X ab σ H s->RelV x v->bj xs us->r x xs H Q->
  wpAny (model X.prog X.w) X.A (call (.builtin id) (v::us)) (EP X ab σ Q) X.xe s
theorem bj.one:∀{x:V} {us:List Value},bj [x] us->∃u,us= [u]/\RelV x u
 |_,_, .cons r .nil=>⟨_,rfl,r⟩
theorem bj.zero:∀{us:List Value},bj [] us->us= []
 |_, .nil=>rfl
theorem bj.dropLast{xs:List V}{us:List Value}(h:bj xs us):bj xs.dropLast us.dropLast:=by
 induction h with
 |nil=>exact .nil
 |cons r t ih=>
  cases t with
  |nil=>exact .nil
  |cons q t'=>exact .cons r ih
theorem X9{α:Type}(l:List α):l.eraseIdx (l.length - 1)=l.dropLast:=by
 induction l with
 |nil=>rfl
 |cons a r ih=>
  cases r with
  |nil=>rfl
  |cons b r=>
   have e:(a::b::r).length - 1=((b::r).length - 1) + 1:=by
    have h1:(a::b::r).length=r.length + 2:=rfl;have h2:(b::r).length=r.length + 1:=rfl
    lia
   rw[e,List.eraseIdx_cons_succ,ih]
   all_goals rfl
section
variable {X:Cx}{ab:List (Addr×Obj)}{σ:St}{H:Hp}{s:Shared}{l b:Addr}{xs ys zs:List V}
theorem Inv.GO{its its':List Value}{n:Nat}{f:Array Value->Array Value}{t':Nat}(I:Inv X ab σ H s)(hH:H l=some (.lst xs))
  (e:s.heap.get? l=some { cls:= .type "list",data:= .seq its.toArray n }) (hf:f its.toArray=its'.toArray) (hv:bj ys its') (hz:ys.length<=aM):
  Inv X ab σ (upd H l (.lst ys)) { s with heap:=s.heap.update l (zo f),toks:=t' }:=by
 have q:=PySem.IsL.update e f;rw[hf]at q;refine I.write (x:=l) (e:=l) (by rw[hH];exact trivial) (.inl rfl) (λb' u hb hu=>(VN s.heap (zo f) (fw hb)).trans hu) ⟨_,q⟩ ?_;exact⟨hz,its',_,hv,q⟩
theorem Inv.Ya{t':Nat}(I:Inv X ab σ H s)(hv:bj ys its)(hz:ys.length<=aM):
  Inv X ab σ (upd H s.heap.objs.size (.lst ys)) { s with heap:=s.heap.push { cls:= .type "list",data:= .seq its.toArray },toks:=t' }:=
 I.laid (λ_ _ q=>cB _ q) (bO _) ⟨hz,its,0,hv,gc _ rfl⟩
theorem Inv.fresh(I:Inv X ab σ H s):H s.heap.objs.size=none:=I.aQ.fresh (bO _)
theorem Inv.ju(I:Inv X ab σ H s)(hH:H l=some (.lst xs)):xs.length<=aM/\∃(its:List Value) (n:Nat),bj xs its/\xs.length=its.length/\s.heap.get? l=some { cls:= .type "list",data:= .seq its.toArray n }:=by
 obtain⟨z,its,n,r,e⟩:=I.aQ l _ hH;exact⟨z,its,n,r,r.length,e⟩
end
section
variable {X:Cx}
def C1:V->List V->Hp->VK->Prop:=λx vs H Q=>∃l xs y,x= .ref l/\vs= [y]/\H l=some (.lst xs)/\xs.length < aM/\Q .aG (upd H l (.lst (xs++ [y])))
theorem Yc:GL X "list.append" C1:=by
 intro ab s σ H x vs v us Q I rx rv h;obtain⟨l,xs,y,rfl,rfl,hH,hz,q⟩:=h;cases rx;obtain⟨u,rfl,ru⟩:=rv.one;obtain⟨z,its,n,r,hl,e⟩:=I.ju hH;refine call_meets F.slot_list_append ⟨_,e,rfl⟩ F.entry_list_append (F.args_list_append_2 _ _) (PySem.list_append l its.toArray n u (by rw[fM];lia)) ⟨e, ?_⟩;refine⟨.aG,_,I.GO (its':=its++ [u]) hH e (by simp) (r.append (.cons ru .nil)) ?_,rfl,q⟩;rw[dg,pw]
 lia
def GQ:V->List V->Hp->VK->Prop:=λx vs H Q=>∃l xs y,x= .ref l/\vs= []/\H l=some (.lst xs)/\xs[xs.length - 1]?=some y/\Q y (upd H l (.lst xs.dropLast))
theorem Yf:GL X "list.pop" GQ:=by
 intro ab s σ H x vs v us Q I rx rv h;obtain⟨l,xs,y,rfl,rfl,hH,hy,q⟩:=h;cases rx;have vz:=rv.zero;subst vz;obtain⟨z,its,n,r,hl,e⟩:=I.ju hH;obtain⟨u,hu,ru⟩:=r.get hy;have Yg:its.toArray[its.toArray.size - 1]?=some u:=by
  show its.toArray[its.length - 1]?=some u;rw[<- VR, <- hl];exact hu
 refine call_meets F.slot_list_pop ⟨_,e,rfl⟩ F.entry_list_pop (F.args_list_pop_1 _) (MeetsSeq.list_pop_last l its.toArray n u Yg (by rw[fM];lia)) ⟨e, ?_⟩;refine⟨y,_,I.GO (its':=its.dropLast) hH e ?_ r.dropLast ?_,ru,q⟩
 ·show its.toArray.eraseIdxIfInBounds (its.toArray.size - 1)=its.dropLast.toArray;rw[fM,List.eraseIdxIfInBounds_toArray,X9]
 ·rw[List.length_dropLast]
  lia
def O9:R2:=λx y H Q=>∃l b xs zs,x= .ref l/\y= .ref b/\H l=some (.lst xs)/\H b=some (.lst zs)/\xs.length + zs.length<=aM/\∀p,H p=none->Q (.ref p) (upd H p (.lst (xs++zs)))
theorem Yh:cu X (binaryOp .Add) O9:=by
 intro ab s σ H x y v u Q I rx ry h;obtain⟨l,b,xs,zs,rfl,rfl,hH,hB,hz,q⟩:=h;cases rx;cases ry;obtain⟨z,its,n,r,hl,e⟩:=I.ju hH;obtain⟨z2,mh,n2,r2,rC,e2⟩:=I.ju hB;refine PySem.P.add_list e e2 ?_ (by rw[fM,fM];lia);have ea:its.toArray++mh.toArray=(its++mh).toArray:=by simp
 rw[ea];exact⟨.ref _,_,I.Ya (t':=s.toks) (r.append r2) (by rw[dg];lia),rfl,q _ I.fresh⟩
end
section
variable {prog:Program}{w:World}{A:Around}{E:Value->Shared->Prop}{s:Shared}
end
section
variable {X:Cx}
end
end L2
namespace Pa
open PySem PySem.W PySem.Calls PyProof.Rows
theorem Yi{P:Params}{h:Heap}:∀(ns:List Int) (vs:List Value),WellAll P h vs (ns.map WData.int)->B6 vs ns:=by
 intro ns
 induction ns with
 |nil=>
  intro vs w;rw[jQ]at w;cases w;exact .nil
 |cons n ns ih=>
  intro vs w;rw[cP]at w;cases w with
  |cons a b=>
   cases a;exact .cons _ _ (ih _ b)
theorem Yj{l:OpenLaw}(hn:l.most=some n){P:Params}{h:Heap}{args:List WData}{vals:List Value}
  (C2:l.row.toRowW.claim.pre args=true) (GR:WellAll P h vals args):
  ∃a vs ns,vals= [c7 a]/\args= [WData.list (ns.map WData.int)]/\h.get? a=some { cls:= .type "list",data:= .seq vs.toArray }/\B6 vs ns/\ns.length<=n:=by
 have Yk:WShape.hasAll [] args [.list .int]=true:=(pre_splitW C2).1;have hc:l.pre.holds [] { args:=args }=true:=(pre_splitW C2).2;obtain⟨d,r,rfl,h1,h2⟩:=hasAllW_cons Yk;obtain rfl:=hasAllW_nil h2;obtain⟨xs,rfl,h3⟩:=hasW_list h1;obtain⟨ns,rfl⟩:=items_int h3;have dw:ns.length<=n:=by
  unfold OpenLaw.pre at hc;have h4:(WTm.not (.lt (.lit (.int (n:Int))) (.len (.arg 0)))).holds [] { args:= [.list (ns.map .int)] }=true:=by
   have h4:=(holds_andW hc).1;rw[hn]at h4;exact h4
  have h5:=condW_of h4 (w_not (w_lt w_lit (w_len_list (w_arg rfl))));rw[eG]at h5;refine Nat.le_of_not_lt λq=> ?_;have q':(n:Int) < ((ns.length:Nat):Int):=by lia
  first
   |(rw[decide_eq_true q']at h5;exact absurd h5 (by decide))
   |(simp at h5;lia)
 cases GR with
 |cons w1 w2=>
  cases w2;cases w1 with
  |list ho rD=>exact⟨_,_,ns,rfl,rfl,ho,Yi ns _ rD,dw⟩
theorem Yl(l:OpenLaw)(args:List WData):l.row.toRowW.claim.post args (.bool true) args=true:=
 postW_of (r:=l.row.toRowW) (X:=(true == true))
  (show WShape.has [] (.bool true) .bool=true by first | rfl | decide | simp[WShape.has,WShape.arms,WShape.armsAll])
  (show(WTm.eq .res (.lit (.bool true))).value [] { args:=args,res:=some (.bool true),after:=args }=some (.bool (true == true)) from w_eq_bool (w_res rfl) w_lit) rfl
theorem Ym{l:OpenLaw}{n:Nat}{q:Program}{loose:List Str}{XP:(Str->Option Value)->Heap->Prop}{YP:World->Heap->Prop}{d:DefRec}
  (hn:l.most=some n) (Aq:d.params.defaults= [])
  (call:∀(w:World) (gT dD:Shared) (mg mb:Str->Option Value) (fa:Addr) (o:Obj) (pm cd doc:Value) (a:Addr) (vs:List Value) (ns:List Int),
   Ground q loose [] XP w gT mg mb dD.heap->YP w dD.heap->
   dD.heap.get? fa=some o->o.data= .func (docDef d.name d.params d.body d.scope pm cd doc)->dD.heap.CodeRec cd d.name->mg d.name=some (.ref fa)->
   dD.heap.get? a=some { cls:= .type "list",data:= .seq vs.toArray }->B6 vs ns->ns.length<=n->dD.gens=#[]->
   qQ (model l.prog w) zg (.call (.ref fa) ⟨[.ref a], []⟩) (λr s'=>r= .ok (.ret (.bool true))/\OldK dD.heap s'.heap/\s'.os=dD.os/\wO s'.gens) dD):
  WalkO q loose XP YP l.row.toRowW d [] (λf vs=>VS f vs):=by
 intro w gT dD mg mb G Y fa o pm cd doc dV kV ho hd pB hD hmg hg args vals as C2 aiX aiY GR GS;obtain rfl:dV= .none:=Dflts.none hD Aq;obtain rfl:kV= .none:=Dflts.noKw hD;obtain⟨a,vs,ns,rfl,rfl,GU,hints,dw⟩:=Yj hn C2 GR;refine enter_call (B5 (call w gT dD mg mb fa o pm cd doc a vs ns G Y ho (fd_plain hd) pB hmg GU hints dw hg) λr s' hq=> ?_);obtain⟨rfl,h2,h3,h4⟩:=hq;exact⟨.inl ⟨.bool true, .bool true, [],rfl,λ_=>rfl, .bool true,Yl l _,λ_=>⟨List.Pairwise.nil,λ_ hm=>(nomatch hm)⟩⟩,h2,h3,h4⟩
section
variable {prog:Program}{w:World}{A:Around}{E:Value->Shared->Prop}{s:Shared}{K:Frag}
end
end Pa
namespace L2
open PySem PySem.Spec PyProof.Rows
theorem C3:∀{vs:List Value} {ns:List Int},B6 vs ns->bj (ns.map V.int) vs
 |_,_, .nil=> .nil
 |_,_, .cons n t h=> .cons ⟨t,rfl⟩ (C3 h)
noncomputable def ah8 (s:Stmt) (j:Nat):Stmt:=match s with
 |.ClassDef _ _ _ body _ _ _ _ _ _ _=>body.getD j (.Pass ⟨0,0,0,0⟩)
 |_=> .Pass ⟨0,0,0,0⟩
noncomputable def rE (s:Stmt):Arguments:=match s with
 |.FunctionDef _ a _ _ _ _ _ _ _ _=>a
 |_=> { posonlyargs:= [],args:= [],vararg:=none,kwonlyargs:= [],kw_defaults:= [],kwarg:=none,defaults:= [] }
noncomputable def mS (s:Stmt):List Stmt:=match s with
 |.FunctionDef _ _ b _ _ _ _ _ _ _=>b
 |_=> []
noncomputable def cb (s:Stmt):Scope:=match s with
 |.FunctionDef _ _ _ _ _ _ sc _ _ _=>sc
 |_=> { kind:= .function,names:= [],isGenerator:=false,isCoroutine:=false }
noncomputable abbrev cG:rh:=λ_ _ _ _ _ _=>False
noncomputable abbrev E0:XK:=λ_ _ _=>False
theorem GW{X:Cx}:zb cG X E0:=λ_ _ _ _ _ _ _ h=>h.elim
structure cY(K:ah)(x qual:Str)(st:Stmt)(f:Addr)(fd:kK):Prop where
 ex:∃(oc:Value) (od:Option Addr) (kV doc pm:Value) (an:Option Addr) (dB ct:Value) (mO:Array (Option Value)),
  fd=qT x qual (rE st) (mS st) (cb st) .none kV doc pm an dB ct/\K.lookup f=some ⟨oc,od, .func fd,mO⟩/\Cf K dB qual=true
 kp:uO K (.ref f)=true
section
variable {P:Program}{w:World}{K:ah}{mg:Str->Option Value}{base:Heap}
theorem cY.ok{x qual:Str}{st:Stmt}{f:Addr}{fd:kK}{N ps:List Str}{k:Nat}{sp:Sp}(F:cY K x qual st f fd)(S:dr N ps (cb st))(len:∀vs H Q E,sp vs H Q E->vs.length=ps.length)
  (ahf:∀(dB:Value) (A:Around) (outer:List Env) (s:Shared) (H:Hp) (vs:List V) (Q:VK) (E:XK),gf k (A.deeper (envOfC qual (cb st) s.heap.objs.size f dB))->sp vs H Q E->
   ∃t,jc (rj cG P w K mg base N qual (cb st) f dB A outer s H E).ve (mS st) t/\t { nx:=λ_ H'=>Q .aG H',rt:=Q } (start N vs) H):bZ P w K mg base cG (k + 1) f fd ps sp:=by
 obtain⟨oc,od,kV,doc,pm,an,dB,ct,mO,rfl,lk,pB⟩:=F.ex;refine XC lk pB S len λA outer s H vs Q E hr tw=> ?_;obtain⟨t,h,q⟩:=ahf dB A outer s H vs Q E hr tw;exact⟨t,h.ve,q⟩
theorem cY.binds{x qual:Str}{st:Stmt}{f:Addr}{fd:kK}{ps:List Str}(F:cY K x qual st f fd)
  (h:∀(kV doc pm:Value) (an:Option Addr) (dB ct:Value) (us:List Value),us.length=ps.length->art (qT x qual (rE st) (mS st) (cb st) .none kV doc pm an dB ct) ⟨us, []⟩=pure (ps.zip us)):Binds K fd ps []:=by
 obtain⟨oc,od,kV,doc,pm,an,dB,ct,mO,rfl,lk,pB⟩:=F.ex;exact .all (h kV doc pm an dB ct)
theorem GX{x qual:Str}{st:Stmt}{f:Addr}{oc:Value}{od an:Option Addr}{mO:Array (Option Value)}{kV doc pm dB ct:Value}(l:K.lookup f=some ⟨oc,od, .func (qT x qual (rE st) (mS st) (cb st) .none kV doc pm an dB ct),mO⟩)
  (c:Cf K dB qual=true) (k:uO K (.ref f)=true):cY K x qual st f (qT x qual (rE st) (mS st) (cb st) .none kV doc pm an dB ct):=⟨⟨oc,od,kV,doc,pm,an,dB,ct,mO,rfl,l,c⟩,k⟩
end
theorem cR{A:Around}{k:Nat}(hr:gf k A):A.units + 1 < cLine:=zp (Nat.add_le_add_left (by decide:1<=64) _) hr.units
section
variable {X:Cx}
theorem pv(i:Nat){x:Str}{pos:Pos}(hN:X.N[i]?=some x:=by rfl)(hv:FY X.env.scope x:=by first | exact apC rfl | exact Or.inr (apC rfl) | exact Or.inr (Or.inr rfl))(hd:(x == ("__debug__":Str))=false:=by decide)
  (pB:(x == ("__classdict__":Str))=false:=by decide):PE X (.Name x pos) (f9 i):=WC hN hv hd pB
end
def aJ(H H':Hp):Prop:=∀b o,H b=some o->H' b=some o
theorem aJ.refl(H:Hp):aJ H H:=λ_ _ h=>h
theorem aJ.trans{H H1 H2:Hp}(a:aJ H H1)(b:aJ H1 H2):aJ H H2:=λc o h=>b c o (a c o h)
theorem aJ.free{H H':Hp}(e:aJ H H'){l:Addr}(h:H' l=Option.none):H l=Option.none:=by
 cases q:H l with
 |none=>rfl
 |some o=>
  rw[e l o q]at h;cases h
section
variable {κ:Type}[DecidableEq κ]
noncomputable def mT (aa:List (κ×V)) (k:κ):Option V:=(aa.find? λkv=>decide (kv.1=k)).map (·.2)
noncomputable def i8 (aa:List (κ×V)) (k:κ) (v:V):List (κ×V):=
 if(aa.any λkv=>decide (kv.1=k))=true then aa.map (λkv=>if kv.1=k then(kv.1,v) else kv) else aa++ [(k,v)]
theorem C6{p:κ×V}(e:p.1=k):mT (p::r) k=some p.2:=by simp[mT,Cj,e]
theorem C7{p:κ×V}(e:¬ p.1=k):mT (p::r) k=mT r k:=by simp[mT,Cj,e]
theorem Pe(k:κ):∀aa:List (κ×V),(aa.any λkv=>decide (kv.1=k))=(mT aa k).isSome
 | []=>rfl
 |p::r=>by
  rw[uR];by_cases e:p.1=k
  ·simp only[C6 e,decide_eq_true e,Bool.true_or,aip]
  ·rw[C7 e,decide_eq_false e,Bool.false_or];exact Pe k r
theorem GY(aa:List (κ×V))(k:κ)(v:V):(i8 aa k v).length<=aa.length + 1:=by
 unfold i8
 split
 ·rw[eG];lia
 ·rw[dg,c8,uS];lia
theorem kN.As(r:kN o u):o.isSome=u.isSome:=by
 cases o with
 |none=>cases u with
  |none=>rfl
  |some _=>exact(show False from r).elim
 |some _=>cases u with
  |none=>exact(show False from r).elim
  |some _=>rfl
theorem kN.getD(r:kN o u)(rd:RelV d d'):RelV (o.getD d) (u.getD d'):=by
 cases o with
 |none=>cases u with
  |none=>exact rd
  |some _=>exact(show False from r).elim
 |some _=>cases u with
  |none=>exact(show False from r).elim
  |some _=>exact r
theorem KV.val(r:KV aa vs)(k:κ):kN (mT aa k) (wX vs k):=by
 unfold KV at r
 induction r with
 |nil=>exact kh
 | @cons p q ps qs h t ih=>
  obtain⟨h1,h2⟩:=h;by_cases e:p.1=k
  ·have e':q.1=k:=h1.symm.trans e;have b:wX (q::qs) k=some q.2:=by simp[wX,Cj,e']
   rw[C6 e,b];exact h2
  ·have e':¬ q.1=k:=λz=>e (h1.trans z);have b:wX (q::qs) k=wX qs k:=by simp[wX,Cj,e']
   rw[C7 e,b];exact ih
theorem KV.any(r:KV aa vs)(k:κ):(aa.any λkv=>decide (kv.1=k))=vs.any λkv=>decide (kv.1=k):=by
 unfold KV at r
 induction r with
 |nil=>rfl
 |cons h t ih=>rw[uR,uR,ih,h.1]
theorem KV.GZ(r:KV aa vs)(k:κ)(ry:RelV y u):
  KV (aa.map λkv=>if kv.1=k then(kv.1,y) else kv) (vs.map λkv=>if kv.1=k then(kv.1,u) else kv):=by
 unfold KV at r |-
 induction r with
 |nil=>exact .nil
 | @cons p q ps qs h t ih=>
  rw[cP,cP];refine .cons ?_ ih;obtain⟨h1,h2⟩:=h;by_cases e:p.1=k
  ·rw[if_pos e,if_pos (h1.symm.trans e)];exact⟨h1,ry⟩
  ·rw[if_neg e,if_neg (λz=>e (h1.trans z))];exact⟨h1,h2⟩
theorem KV.put(r:KV aa vs)(k:κ)(ry:RelV y u):KV (i8 aa k y) (stored vs k u):=by
 unfold i8 stored;rw[r.any k];by_cases e:(vs.any λkv=>decide (kv.1=k))=true
 ·rw[if_pos e,if_pos e];exact r.GZ k ry
 ·rw[if_neg e,if_neg e];exact Paired.snoc r ⟨rfl,ry⟩
theorem KV.length(r:KV aa vs):aa.length=vs.length:=Nv r
end
theorem tI(r:RelV (kV k) u):(gL P w).is k u=true:=by
 cases k with
 |inl i=>obtain⟨t,e⟩:=(show ∃t,u=w6 i t from r);subst e;exact FU P w i t
 |inr x=>obtain⟨t,e⟩:=(show ∃t,u=zi x t from r);subst e;exact FV P w x t
theorem Pf:∀{ks:List bc} {us:List Value},bj (ks.map kV) us->ItemsAre (gL P w) ks us
 | [],_,r=>by rw[jQ]at r;cases r;exact .nil
 |k::ks,_,r=>by
  rw[cP]at r;cases r with
  |cons h t=>exact .cons (tI h) (Pf t)
abbrev KT(H:Hp):List (List bc×V)->List (List bc×Addr×Value)->Prop:=Paired λp q=>p.1=q.1/\H q.2.1=some (.tup (p.1.map kV))/\RelV p.2 q.2.2
theorem KT.val(r:KT H aa xs)(k:List bc):kN (mT aa k) ((atKey xs k).map (·.2)):=by
 induction r with
 |nil=>exact kh
 | @cons p q ps qs h t ih=>
  obtain⟨h1,_,h2⟩:=h;by_cases e:p.1=k
  ·have e':q.1=k:=h1.symm.trans e;have b:atKey (q::qs) k=some q.2:=by simp[atKey,Cj,e']
   rw[C6 e,b];exact h2
  ·have e':¬ q.1=k:=λz=>e (h1.trans z);have b:atKey (q::qs) k=atKey qs k:=by simp[atKey,Cj,e']
   rw[C7 e,b];exact ih
theorem KT.GZ(r:KT H aa xs)(k:List bc)(ry:RelV y u):
  KT H (aa.map λkv=>if kv.1=k then(kv.1,y) else kv) (xs.map (putAt k u)):=by
 induction r with
 |nil=>exact .nil
 | @cons p q ps qs h t ih=>
  rw[cP,cP];refine .cons ?_ ih;obtain⟨h1,h2,h3⟩:=h;unfold putAt;by_cases e:p.1=k
  ·rw[if_pos e,if_pos (h1.symm.trans e)];exact⟨h1,h2,ry⟩
  ·rw[if_neg e,if_neg (λz=>e (h1.trans z))];exact⟨h1,h2,h3⟩
theorem KT.put(r:KT H aa xs)(k:List bc)(hb:H b=some (.tup (k.map kV)))(ry:RelV y u):
  KT H (i8 aa k y) (storedH xs k b u):=by
 have e:(aa.any λkv=>decide (kv.1=k))=(atKey xs k).isSome:=by
  rw[Pe,(r.val k).As,VU]
 unfold i8 storedH;rw[e];by_cases q:(atKey xs k).isSome=true
 ·rw[if_pos q,if_pos q];exact r.GZ k ry
 ·rw[if_neg q,if_neg q];exact Paired.snoc r ⟨rfl,hb,ry⟩
theorem KT.keeps(r:KT H aa xs)(ht:∀b ys,H b=some (.tup ys)->H' b=some (.tup ys)):KT H' aa xs:=
 Paired.FX r λ_ _ z=>⟨z.1,ht _ _ z.2.1,z.2.2⟩
section
theorem Pg(ok:gB P w H h)(e:Rd H a u):gr P w H h a u:=e.ok ok
theorem kn(ok:gB P w H h)(e:Rd H a (.dK aa)):aa.length<=aM/\(a == qO)=false/\∃vs,KV aa vs/\h.DictOf (gL P w) a vs:=
 show gr P w H h a (.dK aa) from Pg ok e
theorem C8(ok:gB P w H h)(e:H a=some (.dK aa)):aa.length<=aM/\(a == qO)=false/\∃vs,KV aa vs/\h.DictOf (gL P w) a vs:=kn ok (.inl e)
theorem xF(ok:gB P w H h)(e:H a=some (.tup (ks.map kV))):(B1 (gL P w)).is h ks a:=by
 obtain⟨_,its,r,o,h1,h2,n,h3⟩:=(show gr P w H h a (.tup (ks.map kV)) from ok a _ e)
 exact⟨o,its.toArray,n,h1,h2,h3,by simpa using Pf r⟩
theorem vA(ok:gB P w H h)(e:Rd H a (.dT aa)):aa.length<=aM/\(a == qO)=false/\
  ∃xs,KT H aa xs/\h.DictOfH (B1 (gL P w)) a xs:=by
 obtain⟨z,y,xs,r,o,es,ep,h1,h2,h3,h4,h5⟩:=(show gr P w H h a (.dT aa) from Pg ok e)
 refine⟨z,y,xs,r,o,es,ep,h1,h2,h3,h4,λx hx=> ?_,h5⟩;have all:∀{l:List (List bc×V)} {m:List (List bc×Addr×Value)},KT H l m->∀x∈m,(B1 (gL P w)).is h x.1 x.2.1:=by
  intro l m q
  induction q with
  |nil=>intro x hx;exact nomatch hx
  | @cons p q ps qs hq t ih=>
   intro x hx;rcases bL.mp hx with e | hx
   ·subst e;exact xF ok (by rw[<- hq.1];exact hq.2.1)
   ·exact ih x hx
 exact all r x hx
theorem Yw(ok:gB P w H h)(e:H a=some (.dT aa)):aa.length<=aM/\(a == qO)=false/\
  ∃xs,KT H aa xs/\h.DictOfH (B1 (gL P w)) a xs:=vA ok (.inl e)
end
def rH(H:Hp)(a:Addr)(y:V)(r:Option V):Prop:=
 (∃aa k,Rd H a (.dK aa)/\y=kV k/\r=mT aa k)\/∃aa k b,Rd H a (.dT aa)/\y= .ref b/\H b=some (.tup (k.map kV))/\r=mT aa k
def Ph(H:Hp)(a:Addr)(y v:V)(H':Hp):Prop:=
 (∃aa k,H a=some (.dK aa)/\y=kV k/\aa.length < aM/\H'=upd H a (.dK (i8 aa k v)))\/
 ∃aa k b,H a=some (.dT aa)/\y= .ref b/\H b=some (.tup (k.map kV))/\aa.length < aM/\H'=upd H a (.dT (i8 aa k v))
section
theorem Inv.big(I:Inv X ab σ H s):qO < s.heap.objs.size:=by
 have h:jN < s.heap.objs.size:=(I.mod.glob.keeps I.bk).lt;exact Nat.lt_trans (by decide) h
theorem Yx(hu:A.units + 1 < cLine)(I:Inv X ab σ H s)(g:rH H a y (some v))(ry:RelV y u)(h:∀w' s',Inv X ab σ H s'->RelV v w'->Q w' s'):
  wpAny (model X.prog X.w) A (getItem (.ref a) u) Q E s:=by
 rcases g with⟨aa,k,e,ey,l⟩ | ⟨aa,k,b,e,ey,eb,l⟩
 ·subst ey;obtain⟨z,hd,vs,bG,dd⟩:=kn I.aQ e;obtain⟨w',hw,km⟩:=kN.some_of (v:=v) (o:=wX vs k) (by rw[l];exact bG.val k);exact wpAny_getItem_of (tI ry) dd.mapOf hw (h w' _ (I.tok _) km)
 ·subst ey;cases(show u=c7 b from ry);obtain⟨z,hd,xs,bG,dd⟩:=vA I.aQ e;obtain⟨w',hw,km⟩:=kN.some_of (v:=v) (o:=(atKey xs k).map (·.2)) (by rw[l];exact bG.val k);obtain⟨p,hp,G0⟩:=aY.mp hw;refine wpAny_getItem_heap (FK hu) (xF I.aQ eb) dd hp ?_;rw[G0];exact h w' _ (I.tok _) km
theorem Yy(hu:A.units + 1 < cLine)(I:Inv X ab σ H s)(g:rH H a y o)(ry:RelV y u)(h:∀s',Inv X ab σ H s'->Q (.bool o.isSome) s'):
  wpAny (model X.prog X.w) A (compareOp .In u (.ref a)) Q E s:=by
 rcases g with⟨aa,k,e,ey,l⟩ | ⟨aa,k,b,e,ey,eb,l⟩
 ·subst ey;obtain⟨z,hd,vs,bG,dd⟩:=kn I.aQ e;refine wpAny_in_of (tI ry) hd dd.mapOf ?_;rw[<- (bG.val k).As, <- l];exact h _ (I.tok _)
 ·subst ey;cases(show u=c7 b from ry);obtain⟨z,hd,xs,bG,dd⟩:=vA I.aQ e;refine wpAny_in_heap (FK hu) (xF I.aQ eb) hd dd ?_;have q:=(bG.val k).As;rw[VU]at q;rw[<- q, <- l];exact h _ (I.tok _)
theorem C9{t':Nat}(I:Inv X ab σ H s)(mu:iB (H a))(hs:Cd a s.heap h')(he:∃q,h'.get? a=some q)(new:gr X.prog X.w (upd H a ob) h' a ob):
  Inv X ab σ (upd H a ob) { s with heap:=h',toks:=t' }:=
 I.write (x:=a) (e:=a) mu (.inl rfl) (λb q hb z=>(hs.2 b hb).trans z) he new
theorem G1{P:Program}{w:World}{H':Hp}(z:aa.length<=aM)(hd:(a == qO)=false)(bG:KV aa vs)(dd:h'.DictOf (gL P w) a vs):
  gr P w H' h' a (.dK aa):=⟨z,hd,vs,bG,dd⟩
theorem YA(hu:A.units + 1 < cLine)(I:Inv X ab σ H s)(g:Ph H a y v H')(ry:RelV y u)(rv:RelV v r)(h:∀s',Inv X ab σ H' s'->Q () s'):
  wpAny (model X.prog X.w) A (setItem (.ref a) u r) Q E s:=by
 rcases g with⟨aa,k,e,ey,l,eH⟩ | ⟨aa,k,b,e,ey,eb,l,eH⟩
 ·subst ey eH;obtain⟨z,hd,vs,bG,dd⟩:=C8 I.aQ e;have hz:vs.length<=aM:=by rw[<- bG.length];exact z
  have hl:(i8 aa k v).length<=aM:=by have:=GY aa k v;lia
  refine wpAny_setItem_pairs (hsz:=hz) (tI ry) dd λh' oo hs=>h _ ?_;have he:∃q,h'.get? a=some q:=let ⟨q,_,_,hq,_⟩:=oo;⟨q,hq⟩;exact C9 I (by rw[e];exact kh) hs he (G1 hl hd (bG.put k rv) oo)
 ·subst ey eH;cases(show u=c7 b from ry);obtain⟨z,hd,xs,bG,dd⟩:=Yw I.aQ e;have hz:xs.length<=aM:=by rw[<- Nv bG];exact z
  have hl:(i8 aa k v).length<=aM:=by have:=GY aa k v;lia
  refine wpAny_setItem_heap (hsz:=hz) (FK hu) (xF I.aQ eb) dd λh' oo hs=>h _ ?_;obtain⟨q,es,ep,hq,h2,h3,h4,_,h5⟩:=oo;refine C9 I (by rw[e];exact kh) hs ⟨q,hq⟩ ⟨hl,hd,_,(bG.put k eb rv).keeps λc ys ec=> ?_,q,es,ep,hq,h2,h3,h4,h5⟩;rw[ba (Wr ec e (λz=>nomatch z))];exact ec
theorem YC(I:Inv X ab σ H s)(e:Rd H a (.dK aa))(h:∀t s',Inv X ab σ H s'->Q (.int aa.length t) s'):wpAny (model X.prog X.w) A (call (.builtin "len") [.ref a]) Q E s:=by
 obtain⟨z,hd,vs,bG,dd⟩:=kn I.aQ e;refine call_len_dict hd dd (by rw[<- bG.length];rw[mG]at z;lia) ?_;rw[<- bG.length];exact h _ _ (I.tok _)
end
theorem YD{X:Cx}{ab:List (Addr×Obj)}{σ:St}{H:Hp}{s:Shared}{a:Addr}{y:V}{o:Option V}(I:Inv X ab σ H s)(g:rH H a y o):s.TypeIs (.ref a) "dict":=by
 rcases g with⟨aa,k,e,_,_⟩ | ⟨aa,k,b,e,_,_,_⟩
 ·obtain⟨_,_,vs,_,dd⟩:=kn I.aQ e;exact dd.typeIs
 ·obtain⟨_,_,xs,_,dd⟩:=vA I.aQ e;exact dd.typeIs
def G2(td ty tv:TE):TS:=λD σ H=>tv σ H λv H1=>td σ H1 λx H2=>ty σ H2 λy H3=>∃a H4,x= .ref a/\Ph H3 a y v H4/\D.nx σ H4
section
theorem lH(hu:X.A.units + 1 < cLine)(ho:PE X o td)(hi:PE X i ty)(hv:PE X value tv)(hs:wQ value (some (.Subscript o i pos')) pos.line X.env=pure false):
  PS X (.Assign [.Subscript o i pos'] value pos) (G2 td ty tv):=by
 intro ab s σ H D I h;refine wpAny_Assign_Subscript (bh (hv ab s σ H _ I h) λr s1 ⟨v,H1,I1,rv,q1⟩=>bh (ho ab s1 σ H1 _ I1 q1) λu s2 ⟨x,H2,I2,rx,q2⟩=>bh (hi ab s2 σ H2 _ I2 q2) λiv s3 ⟨y,H3,I3,ry,a,H4,ex,g,q3⟩=> ?_) hs;subst ex;obtain rfl:u=c7 a:=rx;exact YA hu I3 g ry rv λs4 I4=>⟨σ,H4,I4,q3⟩
end
theorem Pj{P:Program}{w:World}{H:Hp}(h:Heap)(hb:qO < h.objs.size):gr P w H (h.push { cls:= .type "dict",data:= .dict #[] }) h.objs.size (.dK []):=
 ⟨jO _,beq_eq_false_iff_ne.mpr (fw (dR hb)), [], .nil,Heap.DictOf.new h⟩
def Dc:TE:=λ_ H Q=>∀p,H p=none->Q (.ref p) (upd H p (.dK []))
section
theorem qo:PE X (.Dict [] [] pos) Dc:=λab s σ H Q I h=>
 wpAny_Dict_empty ⟨.ref s.heap.objs.size,_,I.laid (a:=s.heap.objs.size) (o:= .dK []) (t':=s.toks) (λ_ _ q=>cB _ q) (bO _) (Pj s.heap I.big),rfl,h _ (I.aQ.fresh (bO _))⟩
end
def De:List (TE×TE)->St->Hp->(List (V×V)->Hp->Prop)->Prop
 | [],_,H,Q=>Q [] H
 |(tk,tv)::r,σ,H,Q=>tk σ H λx H1=>tv σ H1 λy H2=>De r σ H2 λps H3=>Q ((x,y)::ps) H3
abbrev VV:List (V×V)->List (Value×Value)->Prop:=Paired λp q=>RelV p.1 q.1/\RelV p.2 q.2
def Au(X:Cx)(pos:Pos)(keys:List (Option Expr))(values:List Expr)(mi:List (TE×TE)):Prop:=
 ∀(ab:List (Addr×Obj)) (s:Shared) (σ:St) (H:Hp) (Q:List (V×V)->Hp->Prop),Inv X ab σ H s->De mi σ H Q->
  wpAny (model X.prog X.w) X.A (evalPairs (pairTrees keys values X.env pos)) (λvs s'=>∃ps H',Inv X ab σ H' s'/\VV ps vs/\Q ps H') X.xe s
theorem vB{X:Cx}{pos:Pos}:Au X pos [] [] []:=λab s σ H Q I h=>pairTrees_nil_walk ⟨[],H,I, .nil,h⟩
theorem mj{X:Cx}{pos:Pos}{k v:Expr}{tk tv:TE}(hk:PE X k tk)(hv:PE X v tv)(hr:Au X pos ks vs mi):
  Au X pos (some k::ks) (v::vs) ((tk,tv)::mi):=λab s σ H Q I h=>
 pairTrees_cons_walk (bh (hk ab s σ H _ I h) λu s1 ⟨x,H1,I1,rx,q1⟩=>bh (hv ab s1 σ H1 _ I1 q1) λw2 s2 ⟨y,H2,I2,ry,q2⟩=>
  bh (hr ab s2 σ H2 _ I2 q2) λws s3 ⟨ps,H3,I3,bG,q3⟩=>⟨(x,y)::ps,H3,I3, .cons ⟨rx,ry⟩ bG,q3⟩)
def pF(aa more:List (bc×V)):List (bc×V):=more.foldl (λaS kv=>i8 aS kv.1 kv.2) aa
theorem KV.merge:∀{more:List (bc×V)} {rs:List (bc×Value)} {aa:List (bc×V)} {vs:List (bc×Value)},KV more rs->KV aa vs->KV (pF aa more) (merged vs rs):=by
 intro more rs aa vs r;unfold KV at r
 induction r generalizing aa vs with
 |nil=>intro q;exact q
 | @cons p q ps qs h t ih=>
  intro r0;have e:KV (i8 aa p.1 p.2) (stored vs q.1 q.2):=by
   have:=r0.put p.1 h.2;rw[<- h.1];exact this
  exact ih e
theorem Pk:∀(more aa:List (bc×V)),(pF aa more).length<=aa.length + more.length
 | [],aa=>by show aa.length<=aa.length + 0;lia
 |p::r,aa=>by
  have h1:=Pk r (i8 aa p.1 p.2);have h2:=GY aa p.1 p.2;show(pF (i8 aa p.1 p.2) r).length<=_;rw[c8];lia
theorem Pm{P:Program}{w:World}:∀{aa:List (bc×V)} {ws:List (Value×Value)},VV (aa.map λkv=>(kV kv.1,kv.2)) ws->∃rs,Carries (gL P w) ws rs/\KV aa rs
 | [],_,r=>by rw[jQ]at r;cases r;exact⟨[],kh, .nil⟩
 |p::aa,_,r=>by
  rw[cP]at r;cases r with
  | @cons a b as bs h t=>
   obtain⟨rs,c,q⟩:=Pm (P:=P) (w:=w) t;obtain⟨b1,b2⟩:=b;exact⟨(p.1,b2)::rs,⟨tI h.1,rfl,c⟩, .cons ⟨rfl,h.2⟩ q⟩
def tJ(mi:List (TE×TE)):TE:=λσ H Q=>∀p,H p=none->De mi σ (upd H p (.dK [])) λps H2=>H2 p=some (.dK [])/\∃aa:List (bc×V),ps=aa.map (λkv=>(kV kv.1,kv.2))/\aa.length<=15/\Q (.ref p) (upd H2 p (.dK (pF [] aa)))
theorem Pn{X:Cx}{pos:Pos}(h:Au X pos keys values mi)(rD:keys.all (·.isSome)=true)(hl:keys.length=values.length)(h0:keys≠ [])
  (Av:keys.length<=15):PE X (.Dict keys values pos) (tJ mi):=by
 intro ab s σ H Q I q;have hn:=I.aQ.fresh (bO s.heap.objs.size);have I1:=I.laid (a:=s.heap.objs.size) (o:= .dK []) (h':=s.heap.push { cls:= .type "dict",data:= .dict #[] }) (t':=s.toks) (λ_ _ q=>cB _ q) (bO _) (Pj s.heap I.big);refine wpAny_Dict_walk (knd:=gL X.prog X.w) rD hl h0 Av (bh (h ab _ σ _ _ I1 (q _ hn)) λws s2 ⟨ps,H2,I2,bG,e,aa,ep,lk,q2⟩=> ?_);subst ep;obtain⟨rs,c,rk⟩:=Pm (P:=X.prog) (w:=X.w) bG;obtain⟨z,hd,ai0,r0,dd⟩:=C8 I2.aQ e;cases r0;refine⟨rs,c,dd,λh' oo hs=>⟨.ref s.heap.objs.size,_, ?_,rfl,q2⟩⟩;have hz:(pF [] aa).length<=aM:=by
  have h1:=Pk aa [];rw[uS]at h1;rw[mG];lia
 have he:∃q,h'.get? s.heap.objs.size=some q:=let ⟨q,_,_,hq,_⟩:=oo;⟨q,hq⟩;exact C9 I2 (by rw[e];exact kh) hs he (G1 hz hd (rk.merge .nil) oo)
structure M2(X:Cx)(o:Expr)(m:Str)(jM:Pos)(e f:Expr)(gE:Pos):Prop where
 base:attributeBase o m X.env (eval o X.env)=eval o X.env
 G3:((backTo gE (dz [e,f] X.env)).all (λx=> !x.1) && (B7 gE (B8 [] X.env)).all (λx=>x.1.isSome)
  && decide (([e,f]:List Expr).length + ([]:List Keyword).length + (if([]:List Keyword).isEmpty then 0 else 1) < 30))=true
 line:(jM.endLine == gE.line)=true
 trees:backTo gE (dz [e,f] X.env)= [(false,eval e X.env),(false,eval f X.env)]
def Df(H:Hp)(a:Addr):Prop:=(∃aa,Rd H a (.dK aa))\/∃aa,Rd H a (.dT aa)
theorem Po{X:Cx}{ab:List (Addr×Obj)}{σ:St}{H:Hp}{s:Shared}{a:Addr}(I:Inv X ab σ H s)(d:Df H a):
  s.TypeIs (.ref a) "dict"/\(∀b,c7 a= .ref b->∃ob,s.heap.get? b=some ob/\ob.dict=none)/\(a == qO)=false:=by
 rcases d with⟨aa,e⟩ | ⟨aa,e⟩
 ·obtain⟨_,hd,vs,_,dd⟩:=kn I.aQ e;refine⟨dd.typeIs,λb q=> ?_,hd⟩;cases q;obtain⟨ob,_,_,h1,h2,_⟩:=dd;exact⟨ob,h1,h2.2.1⟩
 ·obtain⟨_,hd,xs,_,dd⟩:=vA I.aQ e;refine⟨dd.typeIs,λb q=> ?_,hd⟩;cases q;obtain⟨ob,_,_,h1,h2,_⟩:=dd;exact⟨ob,h1,h2.2.1⟩
section
theorem YE(hu:A.units + 1 < cLine)(I:Inv X ab σ H s)(g:rH H a y o)(ry:RelV y u)(rd:RelV d r)(h:∀w' s',Inv X ab σ H s'->RelV (o.getD d) w'->Q w' s'):
  wpAny (model X.prog X.w) A (call (.builtin "dict.get") [.ref a,u,r]) Q E s:=by
 rcases g with⟨aa,k,e,ey,l⟩ | ⟨aa,k,b,e,ey,eb,l⟩
 ·subst ey;obtain⟨z,hd,vs,bG,dd⟩:=kn I.aQ e;refine FL VW dd.typeIs air (ais _ _ _) (meets_dict_get_default (gL X.prog X.w) a (tI ry) hd r) ⟨_,dd.mapOf,h _ _ (I.tok _) ?_⟩;rw[l];exact(bG.val k).getD rd
 ·subst ey;cases(show u=c7 b from ry);obtain⟨z,hd,xs,bG,dd⟩:=vA I.aQ e;refine FL VW dd.typeIs air (ais _ _ _) (meetsH_dict_get_default (B1 (gL X.prog X.w)) a b hd r) ⟨FK hu,k,xs,xF I.aQ eb,dd,h _ _ (I.tok _) ?_⟩;rw[l];exact(bG.val k).getD rd
end
def Pp(td ty tx:TE):TE:=λσ H Q=>td σ H λx H1=>∃a,x= .ref a/\Df H1 a/\ty σ H1 λy H2=>tx σ H2 λz H3=>∃o,rH H3 a y o/\Q (o.getD z) H3
section
theorem vC(hu:X.A.units + 1 < cLine)(ho:PE X o td)(he:PE X e ty)(hf:PE X f tx)(m:M2 X o "get" jM e f gE):PE X (.Call (.Attribute o "get" jM) [e,f] [] gE) (Pp td ty tx):=by
 intro ab s σ H Q I h;refine wpAny_Call_method m.base m.G3 m.line NL VW PySem.F.type_dict_get (bh (ho ab s σ H _ I h) λu s1 ⟨x,H1,I1,rx,a,ex,d,q1⟩=> ?_);subst ex;obtain rfl:u=c7 a:=rx;obtain⟨t1,t2,_⟩:=Po I1 d;refine⟨t1,t2, ?_⟩;rw[m.trees];refine Ci rfl (VP (NH (bh (he ab s1 σ H1 _ I1 q1) λiv s2 ⟨y,H2,I2,ry,q2⟩=>
  NH (bh (hf ab s2 σ H2 _ I2 q2) λfv s3 ⟨z,H3,I3,rz,ov,g,q3⟩=>VC ?_))))
 exact YE hu I3 g ry rz λw' s4 I4 km=>⟨_,H3,I4,km,q3⟩
end
section
variable {κ:Type}[DecidableEq κ]
end
section
end
def oq(i j:Int):Prop:=0 < j/\j < 2 ^ 200
theorem YI{j:Int}(h0:0 < j)(h:j < 2 ^ 200):j.natAbs.log2 < 9000:=by
 have e:j.natAbs < 2 ^ 200:=by
  have:(j.natAbs:Int)=j:=Int.natAbs_of_nonneg (Int.le_of_lt h0);have h2:(j.natAbs:Int) < ((2 ^ 200:Nat):Int):=by rw[this];exact_mod_cast h
  exact_mod_cast h2
 have:j.natAbs.log2 < 200:=(Nat.log2_lt (by lia)).mpr e
 lia
section
theorem Pq:cu X (binaryOp .FloorDiv) (rI oq λi j=> .int (i / j)):=CP λi j _ _ _ _ _ hc q=>by
 have h1:(0:Int) < j:=hc.1;exact floordiv_int (by lia) (by rw[Int.fdiv_eq_ediv_of_nonneg i (by lia)];exact q) (.inl (PyProof.noPylong_of_log2 (YI hc.1 hc.2)))
theorem YJ:fT X (.builtin "isinstance") (λxs H Q=>∃x t b,xs= [x, .ty T]/\kP X.K H x t/\xg X.K t (.type T)=some b/\Q (.bl b) H):=by
 intro ab s σ H xs us Q I r h;obtain⟨x,t,b,rfl,ty,e,q⟩:=h;obtain⟨u,w',rfl,ru,rt⟩:=vals2 r;cases rt;exact Xt I ru ty e λtk=>⟨.bl b,H,I.tok tk,rfl,q⟩
end
theorem G4(env:Env):∀(ns:List (Str×dQ)) (aS:List (Str×Addr)),(∀y∈ns,y.2= .free->∃c,env.cells.lookup y.1=some c)->
  ∃new:List (Str×Addr),(∀p∈new,env.cells.lookup p.1=some p.2)/\(∀y∈ns,y.2= .free->∃c,(y.1,c)∈new)/\
   (forIn ns aS (λ(x:Str×dQ) (r:List (Str×Addr))=>match x with
    |(name,kind)=>if(kind == qb)=true then do let c <- cellOf env name;pure (zq ((name,c)::r)) else pure (zq r)):Sem (List (Str×Addr)))=pure (new++aS)
 | [],aS,_=>⟨[],λ_ h=>(nomatch h),λ_ h=>(nomatch h),rfl⟩
 |(n,k)::rest,aS,h=>by
  by_cases hk:k= .free
  ·subst hk;obtain⟨c,hc⟩:=h _ xb rfl;obtain⟨new,h1,h2,h3⟩:=G4 env rest _ λy hy=>h y (nQ _ hy);refine⟨new++ [(n,c)],λp hp=> ?_,λy hy hf=> ?_, ?_⟩
   ·rcases lZ.mp hp with z | z
    ·exact h1 p z
    ·obtain rfl:=eS.mp z;exact hc
   ·rcases bL.mp hy with z | z
    ·subst z;exact⟨c,by simp⟩
    ·obtain⟨c',z'⟩:=h2 y z hf;exact⟨c',arx _ z'⟩
   ·rw[FO];have e1:cellOf env n=pure c:=by unfold cellOf;rw[hc]
    simp only[beq_self_eq_true,if_true,e1];rw[b8];exact h3
  ·obtain⟨new,h1,h2,h3⟩:=G4 env rest aS λy hy=>h y (nQ _ hy);refine⟨new,h1,λy hy hf=> ?_, ?_⟩
   ·rcases bL.mp hy with z | z
    ·subst z;exact absurd hf hk
    ·exact h2 y z hf
   ·rw[FO];have e1:(k == qb)=false:=by simpa using hk
    simp only[e1,Bool.false_eq_true,if_false];exact h3
theorem ah9{l:List (Str×Addr)}(h:(x,c)∈l):∃c',l.lookup x=some c':=by
 induction l with
 |nil=>cases h
 |cons p r ih=>
  obtain⟨y,d⟩:=p;rw[nR];cases e:x == y with
  |true=>exact⟨d,rfl⟩
  |false=>
   rcases bL.mp h with z | z
   ·have:x=y:=congrArg VY z;rw[this]at e;simp at e
   ·exact ih z
theorem YK{scope:Scope}{env:Env}(h:∀y∈scope.names,y.2= .free->∃c,env.cells.lookup y.1=some c):
  ∃cl,aru scope env=pure cl/\(∀x c,cl.lookup x=some c->env.cells.lookup x=some c)/\(∀y∈scope.names,y.2= .free->∃c,cl.lookup y.1=some c):=by
 obtain⟨new,h1,h2,h3⟩:=G4 env scope.names [] h;refine⟨new, ?_,λx c e=>h1 _ (xh e),λy hy hf=> ?_⟩
 ·rw[eK]at h3;have e:aru scope env=((forIn scope.names _ (λ(x:Str×dQ) (r:List _)=>match x with
    |(name,kind)=>if _=true then do let c <- cellOf env name;pure (zq ((name,c)::r)) else pure _):Sem _) >>= λr=>pure r):=rfl
  rw[e,h3];rfl
 ·obtain⟨c,hc⟩:=h2 y hy hf;exact ah9 hc
section
theorem YL{elt target iter:Expr}{ifs:List Expr}{scope:Scope}{pos:Pos}{it aS:Value}{env:Env}(I:Nat->Shared->Prop)
  (turn:∀n s,I n s->wpAny (model prog w) A (pyNext it) (λr dD=>match r with
   |none=>R (.ok .next) dD
   |some v=>wpAny (model prog w) A (Nm target it v) (λ_ Pr=>wpAny (model prog w) A (assign target env v) (λ_ CO=>
     wpAny (model prog w) A (forIn ifs true λc r=>if r=true then do let ok <- isTrue c env (eval c env);pure (zq ok) else pure (zq r)) (λok pG=>
      if ok=true then wpAny (model prog w) A (eval elt env) (λx Dh=>
       wpAny (model prog w) A (call (.builtin "list.append") [aS,x]) (λ_ Pt=>∃m,m < n/\I m Pt) (B9 (model prog w) A env λe s'=>R (.error e) s') Dh) (B9 (model prog w) A env λe s'=>R (.error e) s') pG
      else ∃m,m < n/\I m pG) (B9 (model prog w) A env λe s'=>R (.error e) s') CO) (B9 (model prog w) A env λe s'=>R (.error e) s') Pr) (B9 (model prog w) A env λe s'=>R (.error e) s') dD) (B9 (model prog w) A env λe s'=>R (.error e) s') s)
  (n:Nat) (h:I n s):
  qQ (model prog w) A (.compLoop (.ListComp elt [⟨target,iter,ifs,0⟩] scope pos) 0 it aS env) R s:=by
 refine codeAny_loop rfl I (λn s hI=> ?_) n h;refine wpAny_noted ?_;rw[compTurn_list];refine az (U8 (az (ja (turn n s hI) (λr dD Aw=> ?_) λ_ _ h'=>h')));cases r with
 |none=>exact bF Aw
 |some v=>
  refine az (ja Aw (λ_ Pr YM=> ?_) λ_ _ h'=>h');refine az (ja YM (λ_ CO YN=>az (ja YN (λok pG Pu=> ?_) λ_ _ h'=>h')) λ_ _ h'=>h');cases ok with
  |false=>exact bF ⟨rfl,Pu⟩
  |true=>
   exact az (az (ja Pu (λx Dh YO=>az (ja YO (λ_ Pt YQ=>bF (bF ⟨rfl,YQ⟩)) λ_ _ h'=>h')) λ_ _ h'=>h'))
end
noncomputable def je (X:Cx) (N:List Str) (scope:Scope) (cl:List (Str×Addr)) (C:Addr) (s:Shared) (H:Hp) (ex:List Addr) (ab:List (Addr×Obj)):Cx:=
 { X with N:=N,gT:=s,sS:=H,env:=compEnvC scope cl C X.env,outer:=X.stack,stack:=X.stack,ex:=ex,fn:=λx=>scope.names.lookup x == some jR,pn:=X.pn++ab,xe:=λ_ _=>False }
theorem YR{M:Model}{A:Around}{E:Value->Shared->Prop}{s:Shared}{scope:Scope}{globals:Addr}{cl:List (Str×Addr)}{qual:Str}{env:Env}{Q:Env->Shared->Prop}
  (hQ:Q (newEnv scope s.heap.objs.size globals (nN (s.heap.objs.size + 1) scope.names cl) qual none .none (some env) Nk) { s with heap:=wY (s.heap.push { cls:= .type "dict",data:= .dict #[] }) scope.names }):
  wpAny M A (Vj scope globals cl [] qual none .none (some env)) Q E s:=by
 simp only[Vj,aip,if_true];refine az (wpAny_alloc ?_);refine az (wpAny_layCells _ (λname kind cells=>by cases YS:kind == jR <;> simp[YS]) _ _ _ _ ?_);rw[show({ s with heap:=s.heap.push { cls:= .type "dict",data:= .dict #[] } }:Shared).heap.objs.size=s.heap.objs.size + 1 from p9 ..];rw[NO];exact az (bF (bF hQ))
theorem G5:∀(names:List (Str×dQ)) (h:Heap) (aS:List (Str×Addr)) (x:Str) (c:Addr),(nN h.objs.size names aS).lookup x=some c->
  (aS.lookup x=some c/\¬ (x,jR)∈names)\/(h.objs.size<=c/\(x,jR)∈names/\(wY h names).IsCell c none)
 | [],_,_,_,_,e=> .inl ⟨e,λz=>nomatch z⟩
 |(name,kind)::r,h,aS,x,c,e=>by
  unfold nN at e;unfold wY;by_cases hk:(kind == jR)=true
  ·rw[if_pos hk]at e;rw[if_pos hk];obtain rfl:kind= .cell:=by simpa using hk
   have hs:(h.push { cls:= .type "cell",data:= .cell none }).objs.size=h.objs.size + 1:=p9 ..;rw[<- hs]at e;rcases G5 r _ _ x c e with⟨e1,e2⟩ | ⟨e1,e2,e3⟩
   ·rw[nR]at e1;cases hx:x == name with
    |true=>
     rw[hx]at e1;cases e1;obtain rfl:x=name:=by simpa using hx
     exact .inr ⟨bO _,xb,_,Nq _ _ _ _ (gc _ rfl),rfl⟩
    |false=>
     rw[hx]at e1;refine .inl ⟨e1,λz=> ?_⟩;rcases bL.mp z with z | z
     ·have:x=name:=congrArg VY z;rw[this]at hx;simp at hx
     ·exact e2 z
   ·exact .inr ⟨by rw[hs]at e1;exact Nat.le_of_succ_le e1,nQ _ e2,e3⟩
  ·rw[if_neg hk]at e;rw[if_neg hk];rcases G5 r h aS x c e with⟨e1,e2⟩ | ⟨e1,e2,e3⟩
   ·refine .inl ⟨e1,λz=> ?_⟩;rcases bL.mp z with z | z
    ·have:jR=kind:=congrArg Prod.snd z;rw[<- this]at hk;exact hk rfl
    ·exact e2 z
   ·exact .inr ⟨e1,nQ _ e2,e3⟩
theorem G6:∀(names:List (Str×dQ)) (n:Nat) (aS:List (Str×Addr)) (x:Str),(x,jR)∈names\/(∃c,aS.lookup x=some c)->∃c,(nN n names aS).lookup x=some c
 | [],_,_,_,h=>h.elim (λz=>nomatch z) id
 |(name,kind)::r,n,aS,x,h=>by
  unfold nN;by_cases hk:(kind == jR)=true
  ·rw[if_pos hk];refine G6 r _ _ x ?_;rw[nR];cases hx:x == name with
   |true=>exact .inr ⟨n,rfl⟩
   |false=>
    rcases h with h | h
    ·rcases bL.mp h with z | z
     ·have:x=name:=congrArg VY z;rw[this]at hx;simp at hx
     ·exact .inl z
    ·exact .inr h
  ·rw[if_neg hk];refine G6 r _ _ x (h.imp (λz=> ?_) id);rcases bL.mp z with z | z
   ·have:jR=kind:=congrArg Prod.snd z;rw[<- this]at hk;exact absurd rfl hk
   ·exact z
theorem G7:∀(names:List (Str×dQ)) (n:Nat) (aS:List (Str×Addr)),(∀x c,aS.lookup x=some c->c < n)->(∀x y c,aS.lookup x=some c->aS.lookup y=some c->x=y)->
  ∀x y c,(nN n names aS).lookup x=some c->(nN n names aS).lookup y=some c->x=y
 | [],_,_,_,h=>h
 |(name,kind)::r,n,aS,hb,hi=>by
  unfold nN;by_cases hk:(kind == jR)=true
  ·rw[if_pos hk];refine G7 r _ _ (λx c e=> ?_) λx y c e1 e2=> ?_
   ·rw[nR]at e;cases hx:x == name with
    |true=>rw[hx]at e;cases e;exact FN _
    |false=>rw[hx]at e;exact Ck (hb x c e)
   ·rw[nR]at e1 e2;cases hx:x == name with
    |true=>
     rw[hx]at e1;cases e1;cases hy:y == name with
     |true=>rw[show x=name by simpa using hx,show y=name by simpa using hy]
     |false=>rw[hy]at e2;exact absurd (hb y _ e2) (mI _)
    |false=>
     rw[hx]at e1;cases hy:y == name with
     |true=>rw[hy]at e2;cases e2;exact absurd (hb x _ e1) (mI _)
     |false=>rw[hy]at e2;exact hi x y c e1 e2
  ·rw[if_neg hk];exact G7 r n aS hb hi
structure Pw(X:Cx)(scope:Scope)(C:Addr)(h':Heap)(cl:List (Str×Addr)):Prop where
 at_:∀x c,cl.lookup x=some c->(X.env.cells.lookup x=some c/\¬ (x,jR)∈scope.names)\/(C < c/\(x,jR)∈scope.names/\h'.IsCell c none)
 has:∀y∈scope.names,(y.2= .free\/y.2= .cell)->∃c,cl.lookup y.1=some c
 inj:∀x y c,cl.lookup x=some c->cl.lookup y=some c->x=y
noncomputable def jv (js:List (Option Nat)) (σ:St):St:=js.map λo=>o.bind λj=>(σ[j]?).join
structure Di(X:Cx)(N:List Str)(scope:Scope)(js:List (Option Nat)):Prop where
 len:js.length=N.length
 at_:∀(i j:Nat) (x:Str),js[i]?=some (some j)->N[i]?=some x->X.N[j]?=some x/\scope.names.lookup x=some .free/\(X.env.scope.names.lookup x=some .cell\/X.env.scope.names.lookup x=some .free)
 fr:∀y∈scope.names,y.2= .free->X.env.kindOf y.1=some .cell\/X.env.kindOf y.1=some .free
theorem Px{env:Env}:∀{names:List (Str×dQ)} {x:Str},names.lookup x=some .free->
  let r:=(names.map λ(n,k)=>if(k == qb && env.scope.kind == .function && env.kindOf n == some .cell) then(n,jR) else(n,k)).lookup x
  r=some .cell\/r=some .free
 | [],_,h=>by simp at h
 |(n,k)::r,x,h=>by
  have ih:=@Px env r x;show(uN x ((if(k == qb && env.scope.kind == .function && env.kindOf n == some .cell)=true then(n,jR) else(n,k))::_)=_)\/(uN x ((if(k == qb && env.scope.kind == .function && env.kindOf n == some .cell)=true then _ else(n,k))::_)=_);cases hx:x == n with
  |true=>
   simp only[nR,hx]at h;cases h;by_cases hc:(qb == qb && env.scope.kind == .function && env.kindOf n == some .cell)=true
   ·rw[if_pos hc];simp only[nR,hx];exact .inl trivial
   ·rw[if_neg hc];simp only[nR,hx];exact .inr trivial
  |false=>
   simp only[nR,hx]at h;by_cases hc:(k == qb && env.scope.kind == .function && env.kindOf n == some .cell)=true
   ·rw[if_pos hc];simp only[nR,hx];exact ih h
   ·rw[if_neg hc];simp only[nR,hx];exact ih h
theorem Py{env:Env}:∀{names:List (Str×dQ)} {x:Str},
  ((names.map λ(n,k)=>if(k == qb && env.scope.kind == .function && env.kindOf n == some .cell) then(n,jR) else(n,k)).lookup x=some .cell\/
   (names.map λ(n,k)=>if(k == qb && env.scope.kind == .function && env.kindOf n == some .cell) then(n,jR) else(n,k)).lookup x=some .free)->
  (x,qb)∈names\/(x,jR)∈names
 | [],_,h=>by simp at h
 |(n,k)::r,x,h=>by
  have ih:=@Py env r x;rw[cP]at h;by_cases hc:(k == qb && env.scope.kind == .function && env.kindOf n == some .cell)=true
  ·have e:(match ((n,k):Str×dQ) with | (n,k)=>if _=true then _ else(n,k))=(n,jR):=if_pos hc;rw[e]at h;simp only[nR]at h;cases hx:x == n with
   |true=>
    have:x=n:=by simpa using hx
    have hk:k= .free:=by
     rw[kM,kM]at hc;simpa using hc.1.1
    rw[this,hk];exact .inl xb
   |false=>
    rw[hx]at h;exact(ih h).imp (nQ _) (nQ _)
  ·have e:(match ((n,k):Str×dQ) with | (n,k)=>if _=true then(n,jR) else(n,k))=(n,k):=if_neg hc;rw[e]at h;simp only[nR]at h;cases hx:x == n with
   |true=>
    have:x=n:=by simpa using hx
    rw[hx]at h;rw[this];rcases h with h | h
    ·cases h;exact .inr xb
    ·cases h;exact .inl xb
   |false=>
    rw[hx]at h;exact(ih h).imp (nQ _) (nQ _)
section
theorem Inv.block{t':Nat}(I:Inv X ab σ H s)(hf:∀b∈fp,jT X ab H b/\b < s.heap.objs.size)(hC:s.heap.objs.size<=C)(hk:∀b o,s.heap.get? b=some o->h'.get? b=some o)(hn:h'.Ns C m)
  (tG:scope.kind= .function) (sV:∀y∈scope.names,y.2= .cell->scope.names.lookup y.1=some .cell) (cO:Pw X scope C h' cl) (vD:Di X N scope js):
  Inv (je X N scope cl C s H fp ab) [] (jv js σ) H { s with heap:=h',toks:=t' }:=by
 have ai1:∀x c,X.env.cells.lookup x=some c->c < s.heap.objs.size:=λx c e=>by
  obtain⟨v,q⟩:=I.cell x c e;exact q.lt
 have YT:∀p∈X.pn++ab,p.1∉l8 X.stack:=λp hp z=>by
  obtain⟨_,_,h3,h4,_⟩:=I.pin p hp;rcases bL.mp (I.zC _ z) with q | q
  ·exact h3 q
  ·exact h4 q
 have YU:(je X N scope cl C s H fp ab).Ok:=by
  refine⟨I.ok.mod,tG,I.ok.glob,I.ok.blt,hC,cO.inj,λx hx=> ?_,λx c h e=> ?_,I.ok.hd,I.ok.frames, .inl rfl,λb hb=>⟨?_,λx c e=> ?_⟩,I.bs,b7 I.ok.qe I.sz,
   λb o e hb=> ?_,λb hb z=> ?_,I.stack,I.N9⟩
  ·rcases Py (env:=X.env) hx with q | q
   ·exact cO.has _ q (.inl rfl)
   ·exact cO.has _ q (.inr rfl)
  ·have h1:scope.names.lookup x=some jR:=by simpa[je]using h
   rcases cO.at_ x c e with⟨_,z⟩ | ⟨z,_⟩
   ·exact absurd (xh h1) z
   ·exact b7 hC (nO z)
  ·exact dR (dI (hf b hb).2 hC)
  ·rcases cO.at_ x c e with⟨z,_⟩ | ⟨z,_⟩
   ·exact(hf b hb).1.2.2.2.2.1 x c z
   ·exact pk (dI (hf b hb).2 (b7 hC (nO z)))
  ·obtain⟨_,_,_,h4,_⟩:=(hf b hb).1;rcases h4 with z | z
   ·exact I.ok.zB b o e z
   ·exact absurd (dI (cW e) (b7 I.ok.qe z)) (mI _)
  ·obtain⟨_,h2,h3,_⟩:=(hf b hb).1;rcases bL.mp (I.zC _ z) with q | q
   ·exact h2 q
   ·exact h3 q
 refine⟨YU,rfl,I.bare,Un.kept hk,⟨m,hn,λi x v e1 e2 e3=> ?_⟩,λx c e=> ?_,I.aQ.fresh hC,λx c e=> ?_,λp hp=> ?_,I.aQ.kept hk, ?_⟩
 ·have xG:(js.map λo=>o.bind λj=>(σ[j]?).join)[i]?=some (some v):=e2;rw[bJ]at xG;cases ej:js[i]? with
  |none=>rw[ej]at xG;cases xG
  |some oj=>
   rw[ej]at xG;cases oj with
   |none=>cases xG
   |some j=>
    have Dj:(σ[j]?).join=some v:=hV xG;have YV:σ[j]?=some (some v):=by
     cases q:σ[j]? with
     |none=>rw[q]at Dj;cases Dj
     |some o=>rw[q]at Dj;rw[show o=some v from Dj]
    obtain⟨hN,xp,hX⟩:=vD.at_ i j x ej e1;obtain⟨mX,_,hl⟩:=I.loc;obtain⟨u,ru,lk⟩:=hl j x v hN YV (hX.elim (λz=> .inr (.inl z)) λz=> .inr (.inr z));refine⟨u,ru, .inr ⟨Px (env:=X.env) xp, ?_⟩⟩;rcases lk with⟨YW,_⟩ | ⟨_,c,hc,YX⟩
    ·have Pz:X.env.scope.names.lookup x=some .local:=YW;rcases hX with z | z <;> rw[z]at Pz <;> cases Pz
    ·obtain⟨c',qY⟩:=cO.has _ (xh xp) (.inl rfl);have YY:X.env.cells.lookup x=some c':=by
      rcases cO.at_ x c' qY with⟨z,_⟩ | ⟨_,z,_⟩
      ·exact z
      ·have:=sV _ z rfl;rw[xp]at this;cases this
     have:c'=c:=hV (YY.symm.trans hc);subst this;obtain⟨o,ho,hd⟩:=YX;exact⟨c',qY,o,hk _ _ ho,hd⟩
 ·rcases cO.at_ x c e with⟨z,_⟩ | ⟨_,_,z⟩
  ·obtain⟨v,o,ho,hd⟩:=I.cell x c z;exact⟨v,o,hk _ _ ho,hd⟩
  ·exact⟨none,z⟩
 ·rcases cO.at_ x c e with⟨z,_⟩ | ⟨z,_⟩
  ·exact I.nY x c z
  ·exact I.aQ.fresh (b7 hC (nO z))
 ·have Ax:p∈X.pn++ab:=by
   have:p∈(X.pn++ab)++ []:=hp;rwa [eK]at this
  obtain⟨h1,h2,h3,h4,h5⟩:=I.pin p Ax;exact⟨hk _ _ h1,h2,dR (dI (cW h1) hC),YT p Ax,h5⟩
 ·show(js.map _).length=N.length;rw[eG];exact vD.len
theorem Inv.PB{o:HO}(I:Inv X ab σ H s)(h0:X.gT.heap.objs.size<=D)(hn:H D=none)(hL:D≠X.env.locals)(hc:∀x c,X.env.cells.lookup x=some c->c≠D)(hp:∀p∈X.pn++ab,p.1≠D)
  (new:gr X.prog X.w (upd H D o) s.heap D o):Inv X ab σ (upd H D o) s:=by
 have old:∀b ob,X.gT.heap.get? b=some ob->b≠D:=λb ob e=>dR (dI (cW e) h0);refine⟨I.ok,I.os,I.bare,⟨I.base.keep,I.base.slot,λb ob e n hx=> ?_,I.base.there,λb xs e=> ?_,λb ob u e=> ?_,λb ps e=> ?_⟩,I.loc,I.cell, ?_,λx c e=> ?_,λp Ax=> ?_,λb u e=> ?_,I.len⟩
 ·rw[ba (old b ob e)];exact I.base.free b ob e n hx
 ·have q:=I.base.mL b xs e;rw[ba (gM q hn)];exact q
 ·have q:=I.base.l7 b ob u e;rw[ba (gM q hn)];exact q
 ·obtain⟨more,q⟩:=I.base.qd b ps e;exact⟨more,by rw[ba (gM q hn)];exact q⟩
 ·rw[ba (fw hL)];exact I.free
 ·rw[ba (hc x c e)];exact I.nY x c e
 ·obtain⟨h1,h2,h3⟩:=I.pin p Ax;exact⟨h1,by rw[ba (hp p Ax)];exact h2,h3⟩
 ·by_cases hb:b=D
  ·subst hb;rw[de]at e;cases e;exact new
  ·rw[ba hb]at e;exact(I.aQ b u e).gO (λc v _ q=>q) (λc z=>by rw[ba (gM z hn)];exact z) λc xs z=>by rw[ba (gM z hn)];exact z
theorem Inv.YZ{s':Shared}{aF:St}{H':Hp}{ys:List V}{its:List Value}{n:Nat}(I:Inv X ab σ H s)(hf:∀b∈fp,jT X ab H b/\b < s.heap.objs.size)(hC:s.heap.objs.size<=C)(hD:s.heap.objs.size<=D)(Ay:D≠C)
  (J:Inv (je X N scope cl C s H fp ab) [(D, { cls:= .type "list",data:= .seq its.toArray n })] aF H' s') (hv:bj ys its) (hz:ys.length<=aM):
  Inv X ab σ (upd H' D (.lst ys)) s'/\jT X ab (upd H' D (.lst ys)) C/\H' D=none/\∃m,s'.heap.Ns C m:=by
 have Az:H' C=none:=J.free;have PC:H' D=none:=(J.pin (D,_) (kg _ (eS.mpr rfl))).2.1;have Y0:s'.heap.get? D=some { cls:= .type "list",data:= .seq its.toArray n }:=(J.pin (D,_) (kg _ (eS.mpr rfl))).1;have u:Un (l8 X.stack) fp H H' s.heap s'.heap:=J.base;obtain⟨hh,g,d,t,Gz⟩:=s';have Y1:Gz=s.os:=J.os;subst Y1;have I1:Inv X ab σ H' { s with heap:=hh,gens:=g,drawn:=d,toks:=t }:=
  I.call (h':=hh) (g':=g) (d':=d) (t':=t) (ch:=fp) u J.aQ J.bare λb hb=>⟨(hf b hb).1.2.2.2.1,(hf b hb).1.2.1,(hf b hb).1.2.2.2.2.1,(hf b hb).1.2.2.2.2.2⟩
 have Dl:D≠X.env.locals:=pk (dI I.lt hD);have young:∀a,s.heap.objs.size<=a->(∀x c,X.env.cells.lookup x=some c->c≠a)/\∀p∈X.pn++ab,p.1≠a:=λa ha=>⟨λx c e z=>by
   obtain⟨v,q⟩:=I.cell x c e;exact absurd (dI q.lt (by rw[z];exact ha)) (mI _),λp hp z=>absurd (dI (cW (I.pin p hp).1) (by rw[z];exact ha)) (mI _)⟩
 refine⟨I1.PB (b7 I.sz hD) PC Dl (young D hD).1 (young D hD).2 ⟨hz,its,n,hv,Y0⟩,⟨by rw[ba (fw Ay)];exact Az,pk (dI I.lt hC),I.FZ hC, .inr (b7 I.sz hC),(young C hC).1,(young C hC).2⟩,PC, ?_⟩;obtain⟨m,hn,_⟩:=J.loc;exact⟨m,hn⟩
end
def Dk(Y:Cx)(ifs:List Expr)(tt:TT):Prop:=
 ∀(ab:List (Addr×Obj)) (s:Shared) (σ:St) (H:Hp) (Q:Bool->Hp->Prop),Inv Y ab σ H s->tt σ H Q->
  wpAny (model Y.prog Y.w) Y.A (forIn ifs true λc r=>if r=true then do let ok <- isTrue c Y.env (eval c Y.env);pure (zq ok) else pure (zq r)) (TP Y ab σ Q) Y.xe s
def Dm:TT:=λ_ H Q=>Q true H
theorem ko:Dk Y [] Dm:=λ_ _ _ H _ I h=>bF ⟨H,I,h⟩
theorem PD(h:PT Y c tt):Dk Y [c] tt:=by
 intro ab s σ H Q I hw;simp only[FO,NO,if_true];exact az (az (ja (h ab s σ H Q I hw) (λb s' hb=>bF (bF hb)) λ_ _ x=>x))
def PF(J:It)(g:TG)(tt:TT)(te:TE)(W:Nat->Nat->St->List V->Hp->Prop)(Q:V->Hp->Prop):Prop:=
 ∀i m aF ys H',W i m aF ys H'->(J.stop i H'/\∀D,H' D=none->Q (.ref D) (upd H' D (.lst ys)))\/
  (J.go i H'/\∃N:St->List V->Hp->Prop,(∀eY zs H2,N eY zs H2->zs.length<=aM/\∃m',m' < m/\W (i + 1) m' eY zs H2)/\
   ∀x H2,J.s9 i H' x H2->g x aF H2 λeY H3=>tt eY H3 λok H4=>if ok=true then te eY H4 λy H5=>N eY (ys++ [y]) H5 else N eY ys H4)
section
theorem Y2{W:Nat->Nat->St->List V->Hp->Prop}{Q:V->Hp->Prop}{m0:Nat}{RR:Value->Addr->Result->Shared->Prop}{E:Value->Shared->Prop}(hc:X.calm=true)
  (hg:∀cl C s H ex ab,PG (je X N scope cl C s H ex ab) tg g) (ht:∀cl C s H ex ab,Dk (je X N scope cl C s H ex ab) ifs tt) (he:∀cl C s H ex ab,PE (je X N scope cl C s H ex ab) elt te)
  (tG:scope.kind= .function) (sV:∀y∈scope.names,y.2= .cell->scope.names.lookup y.1=some .cell) (vE:∀x c,cl.lookup x=some c->X.env.cells.lookup x=some c) (jV:∀y∈scope.names,y.2= .free->∃c,cl.lookup y.1=some c) (vD:Di X N scope js)
  (I:Inv X ab σ H s) (T:Turn X.prog X.w X.K tg J fp it tn) (st:tn 0 s.heap) (f:∀b∈fp,jT X ab H b) (w0:W 0 m0 (jv js σ) [] H) (turn:PF J g tt te W Q)
  (Y3:∀(D C:Addr) (s':Shared) (ys:List V) (H':Hp),Inv X ab σ (upd H' D (.lst ys)) s'->jT X ab (upd H' D (.lst ys)) C->(∃m,s'.heap.Ns C m)->Q (.ref D) (upd H' D (.lst ys))->RR (.ref D) C (.ok .next) s'):
  wpAny (model X.prog X.w) X.A (newList []) (λaS pG=>wpAny (model X.prog X.w) X.A (Vj scope X.env.globals cl [] X.env.qual none .none (some X.env)) (λPH Dh=>
   qQ (model X.prog X.w) X.A (.compStart (.ListComp elt [⟨tg,iter,ifs,0⟩] scope pos) 0 (.ref it) aS { PH with scope:=relabel scope X.env }) (RR aS PH.locals) Dh) E pG) E s:=by
 have kl:∀b∈fp,b < s.heap.objs.size:=λb hb=>by
  obtain⟨o,ho,_⟩:=T.obj 0 _ st b hb;exact cW ho
 have ff:∀b∈fp,jT X ab H b/\b < s.heap.objs.size:=λb hb=>⟨f b hb,kl b hb⟩
 refine qP (YR ?_);dsimp only;generalize G8:s.heap.push { cls:= .type "list",dict:=none,data:= .seq ([]:List Value).toArray }=H2;have hC:H2.objs.size=s.heap.objs.size + 1:=by rw[<- G8,p9]
 have Ay:s.heap.objs.size≠H2.objs.size:=by rw[hC];exact dR (FN _)
 have Dn:s.heap.objs.size<=H2.objs.size:=by rw[hC];exact Nat.le_succ _
 have below:∀b,b < s.heap.objs.size->b≠H2.objs.size/\b≠s.heap.objs.size:=λb hb=>⟨by rw[hC];exact dR (Ck hb),dR hb⟩
 have Y4:(wY (H2.push { cls:= .type "dict",data:= .dict #[] }) scope.names).Ns H2.objs.size (λ_=>none):=(Heap.Ns.new H2 (.type "dict")).keeps (Nq _ _);have old:∀b o,s.heap.get? b=some o->(wY (H2.push { cls:= .type "dict",data:= .dict #[] }) scope.names).get? b=some o:=λb o e=>Nq _ _ b o (cB _ (G8▸cB _ e));have iY:(wY (H2.push { cls:= .type "dict",data:= .dict #[] }) scope.names).get? s.heap.objs.size=some { cls:= .type "list",dict:=none,data:= .seq ([]:List Value).toArray }:=Nq _ _ _ _ (cB _ (G8▸gc _ rfl));have dS:∀x c,cl.lookup x=some c->c < H2.objs.size + 1:=λx c e=>by
  obtain⟨v,q⟩:=I.cell x c (vE x c e);exact Ck (dI q.lt Dn)
 have hsz:(H2.push { cls:= .type "dict",data:= .dict #[] }).objs.size=H2.objs.size + 1:=p9 ..;have cO:Pw X scope H2.objs.size (wY (H2.push { cls:= .type "dict",data:= .dict #[] }) scope.names) (nN (H2.objs.size + 1) scope.names cl):=by
  refine⟨λx c e=> ?_,λy hy hk=> ?_,G7 _ _ _ dS λx y c e1 e2=>I.ok.inj x y c (vE x c e1) (vE y c e2)⟩
  ·rw[<- hsz]at e;rcases G5 _ _ _ x c e with⟨e1,e2⟩ | ⟨e1,e2,e3⟩
   ·exact .inl ⟨vE x c e1,e2⟩
   ·exact .inr ⟨by rw[hsz]at e1;exact e1,e2,e3⟩
  ·obtain⟨y,k⟩:=y;refine G6 _ _ _ _ ?_;rcases hk with hk | hk
   ·exact .inr (jV _ hy hk)
   ·exact .inl (by rw[<- hk];exact hy)
 show qQ _ _ (.compStart _ 0 _ _ (compEnvC scope (nN (H2.objs.size + 1) scope.names cl) H2.objs.size X.env)) _ _;generalize nN (H2.objs.size + 1) scope.names cl=lI at *;generalize wY (H2.push { cls:= .type "dict",data:= .dict #[] }) scope.names=Aw at *;clear vE jV dS hsz;generalize H2.objs.size=C at *;generalize Dp:s.heap.objs.size=D at *;have vF:s.heap.objs.size<=D:=VA Dp;have PJ:s.heap.objs.size<=C:=by rw[Dp];exact Dn
 -- the ai2 own invariant
 have J0:Inv (je X N scope lI C s H fp ab) [] (jv js σ) H { s with heap:=Aw }:=
  I.block (λb hb=>⟨f b hb,by rw[Dp];exact kl b hb⟩) PJ old Y4 tG sV cO vD
 have u9:∀b,b∉X.fs->b≠X.env.locals->b∉l8 X.stack:=λb h1 h2 z=>by
  rcases bL.mp (I.zC _ z) with q | q
  ·exact h2 q
  ·exact h1 q
 have Y5:D∉l8 X.stack:=u9 D (I.FZ vF) (pk (dI I.lt vF));have Y6:∀x c,lI.lookup x=some c->c≠D:=λx c e z=>by
  rcases cO.at_ x c e with⟨e,_⟩ | ⟨e,_⟩
  ·obtain⟨v,q⟩:=I.cell x c e;exact absurd (dI q.lt (by rw[z];exact vF)) (mI _)
  ·exact absurd e (by rw[z];exact Nat.not_lt.mpr Dn)
 have Y7:∀p∈X.pn++ab,p.1≠D:=λp hp z=>absurd (dI (cW (I.pin p hp).1) (by rw[z];exact vF)) (mI _)
 -- the list under way is pinned
 have PK:∀{ps:List (Addr×Obj)} {aF:St} {H':Hp} {s':Shared} {its:List Value} {n:Nat},Inv (je X N scope lI C s H fp ab) ps aF H' s'->H' D=none->s'.heap.get? D=some { cls:= .type "list",data:= .seq its.toArray n }->
   Inv (je X N scope lI C s H fp ab) [(D, { cls:= .type "list",data:= .seq its.toArray n })] aF H' s':=λ{ps aF H' s' its n} Jx hn ho=>Jx.CB λp hp=>by
  obtain rfl:=eS.mp hp;exact⟨ho,hn,Ay,Y5,λv z=>by cases z⟩
 have vi:∀{H':Hp} {ob:Obj},(∀b∈fp,H' b=none)->∀b∈fp,jT (je X N scope lI C s H fp ab) [(D,ob)] H' b:=λ{H' ob} hn b hb=>by
  obtain⟨_,f1,f2,f3,f4,f5⟩:=f b hb;refine⟨hn b hb,(below b (kl b hb)).1,u9 b f2 f1, .inl hb,λx c e=>(cO.at_ x c e).elim (λz=>f4 x c z.1) (λz=>pk (dI (kl b hb) (b7 Dn (nO z.1)))),λp hp=> ?_⟩;rcases lZ.mp hp with z | z
  ·exact f5 p z
  ·obtain rfl:=eS.mp z;exact fw (below b (kl b hb)).2
 have loop:∀pG:Shared,pG= { s with heap:=Aw }->
   qQ (model X.prog X.w) X.A (.compLoop (.ListComp elt [⟨tg,iter,ifs,0⟩] scope pos) 0 (.ref it) (.ref D) (compEnvC scope lI C X.env)) (RR (.ref D) C) pG:=by
  rintro pG rfl;refine YL (λk s'=>∃(i:Nat) (aF:St) (ys:List V) (H':Hp) (its:List Value) (n:Nat),Inv (je X N scope lI C s H fp ab) [(D, { cls:= .type "list",data:= .seq its.toArray n })] aF H' s'/\bj ys its/\ys.length<=aM/\tn i s'.heap/\(∀b∈fp,H' b=none)/\W i k aF ys H') ?_ m0
   ⟨0,jv js σ, [],H, [],0,PK J0 (I.aQ.fresh vF) iY, .nil,jO _,T.keep _ _ _ st λb _ o e=>old b o e,λb hb=>(f b hb).1,w0⟩
  rintro k s' ⟨i,aF,ys,H',its,n,J',hv,hz,kF,PL,w'⟩;rcases turn i k aF ys H' w' with⟨stop,q⟩ | ⟨go,NN,hN,step⟩
  ·refine ja (T.done (je X N scope lI C s H fp ab) rfl rfl rfl hc i _ s' aF H' (λ_ _=>False) J' (vi PL) kF stop) (λr s4 ⟨hr,J4⟩=> ?_) λ_ _ z=>z.elim;subst hr;obtain⟨K1,K2,K3,K4⟩:=I.YZ (λb hb=>⟨f b hb,by rw[Dp];exact kl b hb⟩) PJ vF Ay J4 hv hz;exact Y3 D C s4 ys H' K1 K2 K4 (q D K3)
  ·refine ja (T.item (je X N scope lI C s H fp ab) rfl rfl rfl hc i _ s' aF H' (λ_ _=>False) J' (vi PL) kF go) (λr s4 ⟨u,hr,h4⟩=> ?_) λ_ _ z=>z.elim;subst hr;refine ja h4 (λ_ s5 ⟨x,H5,J5,r5,y5,rf,Gh⟩=> ?_) λ_ _ z=>z.elim;have Y8:=J5.pinned (vi Gh) (T.obj _ _ rf);have PM:∀{md:St} {H7:Hp} {s7:Shared},Inv (je X N scope lI C s H fp ab) ([(D, { cls:= .type "list",data:= .seq its.toArray n })]++Ad fp s5.heap) md H7 s7->tn (i + 1) s7.heap/\∀b∈fp,H7 b=none:=λ{md H7 s7} J7=>
    ⟨T.keep _ _ _ rf λb hb o e=>(J7.pin (b,o) (kg _ (kg _ (CM hb e)))).1,λb hb=>by
     obtain⟨o,e,d⟩:=T.obj _ _ rf b hb;exact(J7.pin (b,o) (kg _ (kg _ (CM hb e)))).2.1⟩
   refine ja (hg lI C s H fp ab _ s5 aF H5 x u _ Y8 r5 (step x H5 y5)) (λ_ s6 ⟨ou,H6,J6,q6⟩=> ?_) λ_ _ z=>(show False from z).elim;refine ja (ht lI C s H fp ab _ s6 ou H6 _ J6 q6) (λok s7 ⟨H7,J7,q7⟩=> ?_) λ_ _ z=>(show False from z).elim;cases ok with
   |false=>
    have Y9:NN ou ys H7:=q7;obtain⟨G9,m',hm,w7⟩:=hN ou ys H7 Y9;obtain⟨t7,f7⟩:=PM J7;exact⟨m',hm,i + 1,ou,ys,H7,its,n,J7.CN,hv,hz,t7,f7,w7⟩
   |true=>
    refine ja (he lI C s H fp ab _ s7 ou H7 _ J7 q7) (λy s8 ⟨v,H8,J8,r8,q8⟩=> ?_) λ_ _ z=>(show False from z).elim;obtain⟨G9,m',hm,w8⟩:=hN ou (ys++ [v]) H8 q8;obtain⟨t8,f8⟩:=PM J8;have pD:=J8.pin (D,_) (kg _ (arx _ (eS.mpr rfl)));have Za:its.toArray.size<=aM:=by rw[fM, <- hv.length];exact hz
    refine wpAny_list_append_plain (hsz:=Za) (items:=its.toArray) ⟨n,pD.1⟩ λh9 Zb PN=> ?_;obtain⟨n9,Zc⟩:=Zb;have Zd:h9.get? D=some { cls:= .type "list",data:= .seq (its++ [y]).toArray n9 }:=by rw[Zc];simp
    have Ze:Inv (je X N scope lI C s H fp ab) [] ou H8 s8:=J8.CB λp hp=>(nomatch hp)
    have J9:Inv (je X N scope lI C s H fp ab) [] ou H8 { s8 with heap:=h9 }:=Ze.turned (t':=s8.toks) (it:=D) (λb o hb e=>(PN.2 b hb).trans e) pD.2.1 Ay (.inr vF) Y6 λp hp=>Y7 p (by
     have:p∈(X.pn++ab)++ []:=hp;rwa [eK]at this)
    refine⟨m',hm,i + 1,ou,ys++ [v],H8,its++ [y],n9,PK J9 pD.2.1 Zd,hv.append (.cons r8 .nil),G9,T.keep _ _ _ t8 λb hb o e=>(PN.2 b (below b (kl b hb)).2).trans e,f8,w8⟩
 exact codeAny_compStart_list (loop _ rfl) (T.self X.A 0 _ _ _ (T.keep _ _ _ st λb _ o e=>old b o e) (loop _ rfl))
def xH(wi:TI)(g:TG)(tt:TT)(te:TE)(js:List (Option Nat)):TE:=λσ H Q=>wi σ H λJ H1=>∃W:Nat->Nat->St->List V->Hp->Prop,(∃m,W 0 m (jv js σ) [] H1)/\PF J g tt te W Q
theorem jw(js:List (Option Nat))(N:List Str)(hc:X.calm=true)(vD:Di X N scope js)(hi:PI X tg iter wi)(hg:∀cl C s H ex ab,PG (je X N scope cl C s H ex ab) tg g)(ht:∀cl C s H ex ab,Dk (je X N scope cl C s H ex ab) ifs tt)
  (he:∀cl C s H ex ab,PE (je X N scope cl C s H ex ab) elt te)
  (tG:scope.kind= .function:=by rfl) (sV:∀y∈scope.names,y.2= .cell->scope.names.lookup y.1=some .cell:=by decide +kernel) (Zf:∀y∈scope.names,y.2= .local->scope.names.lookup y.1=some .local:=by decide +kernel)
  (hs:∀x,ats iter X.env x=pure x:=by intro _;rfl):PE X (.ListComp elt [⟨tg,iter,ifs,0⟩] scope pos) (xH wi g tt te js):=by
 intro ab s σ H Q I h;obtain⟨cl,Zg,vE,jV⟩:=YK (scope:=scope) (env:=X.env) λy hy hf=>I.ok.has _ (vD.fr y hy hf);rw[eval_ListComp];refine awF (use:=none) rfl hs Zg tG Zf (bh (hi ab s σ H _ I h) λv s1 h1=>bh h1 λGg s2 h2=> ?_);obtain⟨it,fp,tn,J,H2,rfl,I2,T,dJ,f2,W,⟨m0,w0⟩,turn⟩:=h2;refine Y2 (RR:=λaS C=>compPost (model X.prog X.w) X.A X.xe none (EP X ab σ Q) aS C) hc hg ht he tG sV vE jV vD I2 T dJ f2 w0 turn λD C s' ys H' K1 K2 K3 q=> ?_;obtain⟨m,hm⟩:=K3;refine⟨m,hm,λh' sb=>⟨.ref D,_,K1.turned (t':=s'.toks) (λb o hb e=>(sb.2 b hb).trans e) K2.1 K2.2.1 K2.2.2.2.1 K2.2.2.2.2.1 K2.2.2.2.2.2,rfl,q⟩⟩
theorem atN{py arL:Pos}(js:List (Option Nat))(N:List Str)(hc:X.calm=true)(vD:Di X N scope js)(hN:X.N.Nodup)(hk:X.N[k]?=some y)(hy:Loc X.env.scope y)(hi:PI X tg iter wi)(hg:∀cl C s H ex ab,PG (je X N scope cl C s H ex ab) tg g)(ht:∀cl C s H ex ab,Dk (je X N scope cl C s H ex ab) ifs tt)
  (he:∀cl C s H ex ab,PE (je X N scope cl C s H ex ab) elt te)
  (atO:wQ (.ListComp elt [⟨tg,iter,ifs,0⟩] scope pos) (some (.Name y py)) arL.line X.env=pure true:=by rfl)
  (tG:scope.kind= .function:=by rfl) (sV:∀y∈scope.names,y.2= .cell->scope.names.lookup y.1=some .cell:=by decide +kernel) (Zf:∀y∈scope.names,y.2= .local->scope.names.lookup y.1=some .local:=by decide +kernel)
  (hs:∀x,ats iter X.env x=pure x:=by intro _;rfl) (hf:X.fn y=true\/X.env.scope.names.lookup y=some .local:=by first | exact .inl rfl | exact .inr rfl | assumption):
  PS X (.Assign [.Name y py] (.ListComp elt [⟨tg,iter,ifs,0⟩] scope pos) arL) (vh (xH wi g tt te js) (lB k)):=by
 intro ab s σ H D I h;obtain⟨cl,Zg,vE,jV⟩:=YK (scope:=scope) (env:=X.env) λy hy hf=>I.ok.has _ (vD.fr y hy hf);rw[exec_Assign_Name_used _ _ _ _ atO];refine az (U8 (az ?_));show wpAny _ X.A (do let _ <- comprehension (.ListComp elt [⟨tg,iter,ifs,0⟩] scope pos) scope X.env _ (newList []) false (eval iter X.env) (some (assign (.Name y py) X.env))) _ _ s;refine az (ja (awF (use:=some (assign (.Name y py) X.env)) (Q:=λ_ s'=>SP X ab D .next s') rfl hs Zg tG Zf
  (bh (hi ab s σ H _ I h) λv s1 h1=>bh h1 λGg s2 h2=> ?_)) (λ_ s' hq=>bF (bF hq)) λ_ _ e=>e)
 obtain⟨it,fp,tn,J,H2,rfl,I2,T,dJ,f2,W,⟨m0,w0⟩,turn⟩:=h2;refine Y2 (RR:=λaS C=>compPost (model X.prog X.w) X.A X.xe (some (assign (.Name y py) X.env)) (λ_ s'=>SP X ab D .next s') aS C) hc hg ht he tG sV vE jV vD I2 T dJ f2 w0 turn λDd C s' ys H' K1 K2 K3 q=> ?_;obtain⟨m,o,es,ep,ho,hd,hr⟩:=K3;have Kp:Inv X (ab++ [(C,o)]) σ (upd H' Dd (.lst ys)) s':=K1.CB λp hp=>by
  rcases lZ.mp hp with z | z
  ·exact K1.pin p (kg _ z)
  ·obtain rfl:=eS.mp z;exact⟨ho,K2.1,K2.2.1,K2.2.2.1,λv z=>by rw[hd]at z;cases z⟩
 show wpAny _ X.A (assign (.Name y py) X.env (.ref Dd)) _ _ _;refine wpAny_assign_Name (CC (v:= .ref Dd) Kp hN hk hy rfl (λs3 I3=> ?_) hf);have pC:=I3.pin (C,o) (kg _ (kg _ (eS.mpr rfl)));refine⟨m,⟨o,es,ep,pC.1,hd,hr⟩,λh' sb=> ?_⟩;have I4:Inv X ab (σ.set k (some (.ref Dd))) (upd H' Dd (.lst ys)) s3:=I3.CN;exact⟨_,_,I4.turned (t':=s3.toks) (it:=C) (λb o hb e=>(sb.2 b hb).trans e) K2.1 K2.2.1 K2.2.2.2.1 K2.2.2.2.2.1 K2.2.2.2.2.2,q⟩
end
mutual
inductive jW(K:ah)(H:Hp):V->PyData->Prop
 |aG:jW K H .aG .none
 |bl (b:Bool):jW K H (.bl b) (.bool b)
 |int (i:Int):jW K H (.int i) (.int i)
 |str (x:Str):jW K H (.str x) (.str x)
 |lst {a:Addr} {xs:List V} {ds:List PyData}:cI K H a xs->vG K H xs ds->jW K H (.ref a) (.list ds)
 |tup {a:Addr} {xs:List V} {ds:List PyData}:cE K H a xs->vG K H xs ds->jW K H (.ref a) (.tuple ds)
inductive vG(K:ah)(H:Hp):List V->List PyData->Prop
 |nil:vG K H [] []
 |cons {x:V} {xs:List V} {d:PyData} {ds:List PyData}:jW K H x d->vG K H xs ds->vG K H (x::xs) (d::ds)
end
section
mutual
theorem Inv.reads(I:Inv X ab σ H s):∀{v:V} {d:PyData} {u:Value},jW X.K H v d->RelV v u->∃as,Reads s.heap u d as
 |_,_,_, .aG,r=>by cases r;exact⟨_, .none⟩
 |_,_,_, .bl b,r=>by cases r;exact⟨_, .bool b⟩
 |_,_,_, .int i,r=>by obtain⟨t,rfl⟩:=r;exact⟨_, .int i t⟩
 |_,_,_, .str x,r=>by obtain⟨t,rfl⟩:=r;exact⟨_, .str x t⟩
 |_,_,_, .lst hs ha,r=>by
  cases r;obtain⟨its,rv,⟨o,n,e,hc,_,hd⟩,_⟩:=I.list hs;obtain⟨as,q⟩:=I.readsAll ha rv;exact⟨_, .list e hc hd (by simpa using q)⟩
 |_,_,_, .tup hs ha,r=>by
  cases r;obtain⟨its,rv,⟨o,e,hc,n,hd⟩,_⟩:=I.tuple hs;obtain⟨as,q⟩:=I.readsAll ha rv;exact⟨_, .tuple e hc hd (by simpa using q)⟩
theorem Inv.readsAll(I:Inv X ab σ H s):∀{vs:List V} {ds:List PyData} {us:List Value},vG X.K H vs ds->bj vs us->∃as,ReadsAll s.heap us ds as
 |_,_,_, .nil,r=>by cases r;exact⟨_, .nil⟩
 |_,_,_, .cons h t,r=>by
  cases r with
  |cons r1 r2=>
   obtain⟨as,q⟩:=I.reads h r1;obtain⟨bs,q2⟩:=I.readsAll t r2;exact⟨_, .cons q q2⟩
end
end
section
theorem Zh(hu:X.A.units + 64 < cLine):cu X (compareOp .Eq) (λx y H Q=>∃dx dy,jW X.K H x dx/\jW X.K H y dy/\dx.canLay0=true/\dy.canLay0=true/\dx.depth<=60/\Q (.bl (d9 dx dy)) H):=by
 intro ab s σ H x y v u Q I rx ry h;obtain⟨dx,dy,h1,h2,c1,c2,hd,q⟩:=h;obtain⟨as,r1⟩:=I.reads h1 rx;obtain⟨bs,r2⟩:=I.reads h2 ry;exact SeqAt.compareEq_reads r1 r2 c1 c2 (by lia) ⟨.bl _,H,I,rfl,q⟩
theorem Zi(hu:X.A.units + 64 < cLine):cu X (compareOp .NotEq) (λx y H Q=>∃dx dy,jW X.K H x dx/\jW X.K H y dy/\dx.canLay0=true/\dy.canLay0=true/\dx.depth<=60/\Q (.bl (!d9 dx dy)) H):=by
 intro ab s σ H x y v u Q I rx ry h;obtain⟨dx,dy,h1,h2,c1,c2,hd,q⟩:=h;obtain⟨as,r1⟩:=I.reads h1 rx;obtain⟨bs,r2⟩:=I.reads h2 ry;exact SeqAt.compareNe_reads r1 r2 c1 c2 (by lia) ⟨.bl _,H,I,rfl,q⟩
end
def Dq(x:Str):It:=⟨λi _=>i < x.cps.size,λi H v H'=>H'=H/\∃c,x.cps[i]?=some c/\v= .str ⟨#[c]⟩,λi _=>x.cps.size<=i⟩
theorem PQ{P:Program}{w:World}{K:ah}{tg:Expr}{it:Addr}{x:Str}{t:Tok}(rn: ["enumerate","zip","dict_itemiterator","dict_reverseitemiterator","odict_iterator","itertools.zip_longest","itertools.pairwise"].contains ty=false)
  (W:∀A':Around,A'.handled=none->Walks P w A' it [it] [it] x.cps.size (SignAt x) (λi h=>h.IsStrIter it ty x t i))
  (Zj:∀(A:Around) (i:Nat) (s:Shared) (Q:Value->Shared->Prop) (E:Value->Shared->Prop),s.heap.IsStrIter it ty x t i->Q (.ref it) s->wpAny (model P w) A (pyIter (.ref it)) Q E s):Turn P w K tg (Dq x) [it] it (λi h=>i<=x.cps.size/\h.IsStrIter it ty x t i) where
 mem:=by simp
 obj:=λi h st b hb=>by
  have e:b=it:=by simpa using hb
  subst e;obtain⟨_,o,e,c,d⟩:=st;exact⟨o,e,λv z=>by rw[d]at z;cases z⟩
 keep:=λi h h' st k=>by
  obtain⟨hi,o,e,r⟩:=st;exact⟨hi,o,k it (by simp) o e,r⟩
 item:=by
  intro X hP hw hK hc i ab s σ H E I hf st hg;subst hP hw hK;obtain⟨f0,f1,f2,f3,f4,f5⟩:=hf it (by simp);obtain⟨_,st⟩:=st;refine(W X.A (I.ok.hd hc)).item i s _ _ hg st λv h' tk hv kF kk=> ?_;obtain⟨c,u,hx,rfl⟩:=hv;have I1:Inv X ab σ H { s with heap:=h',toks:=tk }:=I.turned (λb o hb e=>kk b o (by simpa using hb) e) f0 f1 f3 f4 f5;obtain⟨o,e,Zk,hd⟩:=id kF;exact⟨_,rfl,Ab e Zk hd rn ⟨.str ⟨#[c]⟩,H,I1,⟨u,rfl⟩,⟨rfl,c,hx,rfl⟩,⟨hg,kF⟩,λb hb=>(hf b hb).1⟩⟩
 done:=by
  intro X hP hw hK hc i ab s σ H E I hf st hg;subst hP hw hK;obtain⟨f0,f1,f2,f3,f4,f5⟩:=hf it (by simp);obtain⟨hi,st⟩:=st;have e:=Nat.le_antisymm hi hg;subst e;exact(W X.A (I.ok.hd hc)).done s _ _ st λh' tk kk=>⟨rfl,I.turned (λb o hb e=>kk b o (by simpa using hb) e) f0 f1 f3 f4 f5⟩
 self:=λA i s Q E st h=>Zj A i s Q E st.2 h
section
theorem Zl(hc:X.calm=true):fT X (.builtin "all") (λxs H Q=>∃(a:Addr) (bs:List Bool),xs= [.ref a]/\cI X.K H a (bs.map V.bl)/\Q (.bl (bs.all id)) H):=by
 intro ab s σ H xs us Q I r h;obtain⟨a,bs,rfl,hs,q⟩:=h;obtain⟨u,rfl,ru⟩:=vals1 r;cases ru;obtain⟨its,rv,pl,hz⟩:=I.list hs;have hl:its.length=bs.length:=by rw[<- rv.length,eG]
 refine call_all_walk ?_;refine Vk pl.isList ?_;have lt:a < s.heap.objs.size:=by obtain⟨o,n,e,_⟩:=pl;exact cW e
 have at_:∀(i:Nat) (v:Value),its.toArray[i]?=some v->v=zj (bs.getD i true):=λi v hv=>by
  have iV:its[i]?=some v:=by simpa using hv
  have hi:i < bs.length:=by
   have:=(cX.mp iV).1
   lia
  have hx:(bs.map V.bl)[i]?=some (.bl (bs.getD i true)):=by
   rw[bJ,dH hi];simp[Cn,dH hi]
  obtain⟨u,hu,ru⟩:=rv.get hx;rw[iV]at hu;cases hu;exact ru
 refine⟨s.heap.objs.size,_,_,_,_,_,λi=>bs.getD i true,rfl,apD (A:=X.A.in1) (show X.A.in1.handled=none from I.ok.hd hc) _ a (dR lt) its.toArray,⟨⟨_,gc _ rfl,rfl,rfl⟩,pl.isList.at λo e=>cB _ e⟩,λi v s' Q' E' hv hQ=> ?_,λh' tk hk=> ?_⟩
 ·rw[at_ i v hv];exact uK hQ
 ·have e:((kf its.toArray.size).all λi=>bs.getD i true)=bs.all id:=by
   rw[fM,hl];rw[VZ,gA,gA]
   constructor
   ·intro h b hb;obtain⟨i,hi,e⟩:=ait.mp hb;have:=h i (sH.mpr hi);rw[Cn,dH hi]at this;rw[<- e];exact this
   ·intro h i hi;have vH:=sH.mp hi;rw[Cn,dH vH];exact h _ (Co vH)
  rw[e];refine⟨.bl _,H,I.kept (t':=tk) λb o eo=>hk b o ?_ (cB _ eo),rfl,q⟩;intro z;rw[eS.mp z]at eo;exact absurd (cW eo) (mI _)
theorem Zn:mQ X (λx lo hi H Q=>∃z,x= .str z/\z.length<=aM/\Q (.str (xj z lo hi)) H):=by
 intro ab s σ H x v vl vu lo hi sl Q I rx hs pl pu h;obtain⟨z,rfl,hz,q⟩:=h;obtain⟨t,rfl⟩:=rx;refine⟨"str",_,F.slot_str_getitem.lookup,typeIs_str _ _ _, ?_⟩;have c5:∀t' k,EP X ab σ Q (.str (xj z lo hi) t') { s with toks:=k }:=λt' k=>⟨.str _,H,I.tok k,⟨t',rfl⟩,q⟩
 obtain⟨o,ho,hc,hd⟩:=hs;cases pl with
 |none=>
  cases pu with
  |none=>exact Nr (l:=none) (u:=none) (st:=none) ⟨o,ho,hc,hd⟩ rfl (Nt ⟨b7 (NP z _ _) hz,c5⟩)
  |int j tj=>exact Nr (l:=none) (u:=some (j,tj)) (st:=none) ⟨o,ho,hc,hd⟩ rfl (Nt ⟨b7 (NP z _ _) hz,c5⟩)
 |int i ti=>
  cases pu with
  |none=>exact Nr (l:=some (i,ti)) (u:=none) (st:=none) ⟨o,ho,hc,hd⟩ rfl (Nt ⟨b7 (NP z _ _) hz,c5⟩)
  |int j tj=>exact Nr (l:=some (i,ti)) (u:=some (j,tj)) (st:=none) ⟨o,ho,hc,hd⟩ rfl (Nt ⟨b7 (NP z _ _) hz,c5⟩)
end
open PySem.W
section
variable {prog:Program}{w:World}{A:Around}{E:Value->Shared->Prop}{s:Shared}
end
section
variable {prog:Program}{w:World}{A:Around}{E:Value->Shared->Prop}{s:Shared}{κ:Type}[DecidableEq κ]{knd:aie prog w κ}
end
theorem Du:∀{xs:List V} {us:List Value},us.length=xs.length->(∀(j:Nat) (x:V) (u:Value),xs[j]?=some x->us[j]?=some u->RelV x u)->bj xs us
 | [], [],_,_=> .nil
 | [],_::_,h,_=>by simp at h
 |_::_, [],h,_=>by simp at h
 |x::xs,u::us,h,r=> .cons (r 0 x u rfl rfl) (Du (by simpa using h) λj y v e1 e2=>r (j + 1) y v (by simpa using e1) (by simpa using e2))
section
variable {X:Cx}{ab:List (Addr×Obj)}{σ:St}{H:Hp}{s:Shared}
end
theorem xM{α β:Type}{R:α->β->Prop}:∀{xs:List α} {ys:List β} {j:Nat} {x:α} {y:β},Paired R xs ys->xs[j]?=some x->ys[j]?=some y->R x y
 |_,_,_,_,_, .nil,e,_=>by simp at e
 |_,_,0,_,_, .cons r _,e,f=>by simp at e f;subst e;subst f;exact r
 |_,_,j + 1,_,_, .cons _ t,e,f=>xM t (by simpa using e) (by simpa using f)
section
variable {prog:Program}{w:World}{A:Around}{E:Value->Shared->Prop}{s:Shared}{z TI TO i1 i2 l1 l2:Addr}{xs ys:Array Value}{R1 R2:Nat->Heap->Prop}
end
section
end
theorem fE(h:H p=none)(o:HO):aJ H (upd H p o):=λb u q=>by rw[ba (gM q h)];exact q
structure dt(P:Program)(w:World)(K:ah)(mg:Str->Option Value)(base:Heap)(x:Str)(ps:List Str)(k:Nat)(sp:Sp):Prop where
 ex:∃(f:Addr) (fd:kK),bZ P w K mg base cG k f fd ps sp/\Binds K fd ps []/\uO K (.ref f)=true/\mg x=some (.ref f)
theorem dt.of{P:Program}{w:World}{K:ah}{mg:Str->Option Value}{base:Heap}{x:Str}{ps:List Str}{k:Nat}{sp:Sp}{f:Addr}{fd:kK}{q:Str}{st:Stmt}(F:cY K x q st f fd)(b:Binds K fd ps [])(m:mg x=some (.ref f))
  (o:bZ P w K mg base cG k f fd ps sp):dt P w K mg base x ps k sp:=⟨f,fd,o,b,F.kp,m⟩
theorem bC{p pos:Pos}{e:Expr}{es:List Expr}{t:TA}(C:dt X.prog X.w X.K X.mg X.base x ps k sp)(hr:gf j X.A)(hg:Gl X x)
  (ha:PA X (e::es) t) (hj:k<=j:=by decide) (lF:(x == ("__debug__":Str))=false:=by decide) (he:dz (e::es) X.env=(false,eval e X.env)::dz es X.env:=by rfl) (dM:(backTo pos (dz es X.env)).any (·.1)=false:=by rfl):
  PE X (.Call (.Name x p) (e::es) [] pos) (og sp [] E0 t):=by
 obtain⟨f,fd,o,b,kp,m⟩:=C.ex;exact Xw o (hr.mono hj) hg m kp b .nil GW ha lF he dM
end L2
namespace VL
open PySem L2
inductive Kd where
 |tup | dA | lst | aO (ks:List bc) | lM (ks:List (List bc)) | obj (C:Addr) (ns:List Str)
 deriving DecidableEq
inductive D where
 |sc (v:V)
 |nd (k:Kd) (cs:List D)
  |hl (v:V)
noncomputable def cg:Kd->Bool
 |.tup=>true
 |.dA=>true
 |_=>false
mutual
noncomputable def plain:D->Bool
 |.sc _=>true
 |.nd .tup cs=>bI cs
 |.nd .dA cs=>bI cs
 |.nd _ _=>false
 |.hl _=>false
noncomputable def bI:List D->Bool
 | []=>true
 |d::ds=>plain d && bI ds
end
theorem xV:∀{ds:List D} {d:D},bI ds=true->d∈ds->plain d=true
 |_::ds,d,h,m=>by
  rw[bI,kM]at h;cases m with
  |head=>exact h.1
  |tail _ m=>exact xV h.2 m
theorem vM:∀{ds:List D},(∀d∈ds,plain d=true)->bI ds=true
 | [],_=>rfl
 |d::ds,h=>by
  rw[bI,h d (.head _),vM λe he=>h e (.tail _ he)];rfl
theorem xW{ds:List D}{i:Nat}{d:D}(h:bI ds=true)(e:ds[i]?=some d):plain d=true:=xV h (jr e)
noncomputable def ho (k:Kd) (dx:Addr) (vs:List V):HO:=match k with
 |.tup=> .tup vs
 |.dA=> .lst vs
 |.lst=> .lst vs
 |.aO ks=> .dK (ks.zip vs)
 |.lM ks=> .dT (ks.zip vs)
 |.obj C ns=> .ins C dx (ns.zip vs)
def fits(K:ah)(k:Kd)(n:Nat):Prop:=match k with
 |.aO ks=>ks.length=n
 |.lM ks=>ks.length=n
 |.obj C ns=>ns.length=n/\mN K C/\∀f∈ns,mf K C f
 |_=>True
def jA(K:ah)(H:Hp)(a:Addr)(vs:List V):Prop:=(∃o,H a=some (.b9 o (.lst vs)))\/∃(o:Obj) (its:Array Value) (n:Nat),K.lookup a=some o/\o.cls= .type "list"/\o.dict=none/\o.data= .seq its n/\its.size<=aM/\bj vs its.toList
theorem jA.sq(h:jA K H a vs):cI K H a vs:=h.elim (λ⟨o,e⟩=> .inl (.inr ⟨o,e⟩)) .inr
def iT(K:ah)(H:Hp)(a:Addr)(k:Kd)(vs:List V):Prop:=fits K k vs.length/\match k with
 |.tup=>H a=some (.tup vs)
 |.dA=>jA K H a vs
 |.lst=>H a=some (.lst vs)
 |.aO ks=>Rd H a (.dK (ks.zip vs))
 |.lM ks=>Rd H a (.dT (ks.zip vs))
 |.obj C ns=>∃dx,H a=some (.ins C dx (ns.zip vs))
def qt(K:ah)(H:Hp)(a:Addr)(k:Kd)(vs:List V):Prop:=cg k=false/\fits K k vs.length/\∃dx,H a=some (ho k dx vs)
theorem qt.cell(h:qt K H a k vs):iT K H a k vs:=by
 obtain⟨hk,hf,dx,e⟩:=h;refine⟨hf, ?_⟩;cases k with
 |tup=>cases hk
 |dA=>cases hk
 |lst=>exact e
 |aO ks=>exact .inl e
 |lM ks=>exact .inl e
 |obj C ns=>exact⟨dx,e⟩
theorem qt.mu(h:qt K H a k vs):iB (H a):=by
 obtain⟨hk,hf,dx,e⟩:=h;rw[e];cases k with
 |tup=>cases hk
 |dA=>cases hk
 |lst=>trivial
 |aO ks=>trivial
 |lM ks=>trivial
 |obj C ns=>trivial
def gu(H H':Hp):Prop:=∀b o,¬ iB (some o)->H b=some o->H' b=some o
theorem gu.refl(H:Hp):gu H H:=λ_ _ _ h=>h
theorem gu.of(s:aJ H H'):gu H H':=λb o _ h=>s b o h
theorem gu.arM(s:gu H H')(h:cE K H a xs):cE K H' a xs:=by
 rcases h with(h | ⟨o,h⟩) | h
 ·exact .inl (.inl (s _ _ (λz=>z) h))
 ·exact .inl (.inr ⟨o,s _ _ (λz=>z) h⟩)
 ·exact .inr h
theorem jA.gO(h:jA K H a vs)(s:gu H H'):jA K H' a vs:=h.elim (λ⟨o,e⟩=> .inl ⟨o,s _ _ (λz=>z) e⟩) .inr
inductive Vw(K:ah)(H:Hp)(N:Addr->Prop):V->D->Prop
 |sc (v:V):Vw K H N v (.sc v)
 |hl (v:V):Vw K H N v (.hl v)
 |nd {a:Addr} {k:Kd} {vs:List V} {cs:List D}:(cg k=false->N a)->iT K H a k vs->vs.length=cs.length->(∀(i:Nat) (v:V) (d:D),vs[i]?=some v->cs[i]?=some d->Vw K H N v d)->Vw K H N (.ref a) (.nd k cs)
def jB(K:ah)(H:Hp)(F:Addr->Prop)(a:Addr)(k:Kd)(vs:List V)(cs:List D):Prop:=match k with
 |.tup=>H a=some (.tup vs)
 |.dA=>bI cs=true/\jA K H a vs
 |k=>F a/\qt K H a k vs
inductive bg(K:ah)(H:Hp):(Addr->Prop)->V->D->Prop
 |sc (F:Addr->Prop) (v:V):bg K H F v (.sc v)
 |hl (F:Addr->Prop) (v:V):bg K H F v (.hl v)
 |nd {F:Addr->Prop} {a:Addr} {k:Kd} {vs:List V} {cs:List D} (Fs:Nat->Addr->Prop):jB K H F a k vs cs->vs.length=cs.length->(∀i j b,Fs i b->Fs j b->i=j)->(∀i b,Fs i b->F b/\(cg k=false->b≠a))->
   (∀(i:Nat) (v:V) (d:D),vs[i]?=some v->cs[i]?=some d->bg K H (Fs i) v d)->bg K H F (.ref a) (.nd k cs)
section
variable {K:ah}{H H':Hp}{F F' N N':Addr->Prop}
theorem jB.mono(h:jB K H F a k vs cs)(m:∀b,F b->F' b):jB K H F' a k vs cs:=by
 cases k with
 |tup=>exact h
 |dA=>exact h
 |_=>exact⟨m _ h.1,h.2⟩
theorem jB.frame(h:jB K H F a k vs cs)(f:∀b o,F b->H b=some o->H' b=some o)(s:gu H H'):jB K H' F a k vs cs:=by
 cases k with
 |tup=>exact s _ _ (λz=>z) h
 |dA=>exact⟨h.1,h.2.gO s⟩
 |_=>obtain⟨h1,h2,h3,dx,e⟩:=h;exact⟨h1,h2,h3,dx,f _ _ h1 e⟩
theorem jB.cell(h:jB K H F a k vs cs):iT K H a k vs:=by
 cases k with
 |tup=>exact⟨trivial,h⟩
 |dA=>exact⟨trivial,h.2⟩
 |_=>exact h.2.cell
theorem jB.own(h:jB K H F a k vs cs)(hk:cg k=false):F a/\qt K H a k vs:=by
 cases k with
 |tup=>cases hk
 |dA=>cases hk
 |_=>exact h
theorem jB.put(hk:cg k=false)(h1:F a)(h2:qt K H a k vs):jB K H F a k vs cs:=by
 cases k with
 |tup=>cases hk
 |dA=>cases hk
 |_=>exact⟨h1,h2⟩
theorem bg.mono(h:bg K H F v d)(m:∀b,F b->F' b):bg K H F' v d:=by
 cases h with
 |sc=>exact .sc _ _
 |hl=>exact .hl _ _
 |nd Fs h1 h2 h3 h4 h5=>exact .nd Fs (h1.mono m) h2 h3 (λi b z=>⟨m _ (h4 i b z).1,(h4 i b z).2⟩) h5
theorem bg.frame(h:bg K H F v d)(f:∀b o,F b->H b=some o->H' b=some o)(s:gu H H'):bg K H' F v d:=by
 induction h with
 |sc=>exact .sc _ _
 |hl=>exact .hl _ _
 |nd Fs h1 h2 h3 h4 _ ih=>exact .nd Fs (h1.frame f s) h2 h3 h4 λi v d hv hd=>ih i v d hv hd λb o z=>f b o (h4 i b z).1
theorem bg.same(h:bg K H F v d)(s:aJ H H'):bg K H' F v d:=h.frame (λb o _ e=>s b o e) (gu.of s)
theorem bg.view(h:bg K H F v d)(m:∀b,F b->N b):Vw K H N v d:=by
 induction h with
 |sc=>exact .sc _
 |hl=>exact .hl _
 |nd Fs h1 h2 h3 h4 _ ih=>exact .nd (λhk=>m _ (h1.own hk).1) h1.cell h2 λi v d hv hd=>ih i v d hv hd λb z=>m b (h4 i b z).1
theorem bg.vw(h:bg K H F v d):Vw K H (λ_=>True) v d:=h.view λ_ _=>trivial
theorem Vw.mono(h:Vw K H N v d)(m:∀b,N b->N' b):Vw K H N' v d:=by
 induction h with
 |sc=>exact .sc _
 |hl=>exact .hl _
 |nd h1 h2 h3 _ ih=>exact .nd (λk=>m _ (h1 k)) h2 h3 ih
theorem Vw.any(h:Vw K H N v d):Vw K H (λ_=>True) v d:=h.mono λ_ _=>trivial
theorem iT.frame(h:iT K H a k vs)(f:cg k=false->∀o,H a=some o->H' a=some o)(s:gu H H'):iT K H' a k vs:=by
 obtain⟨h1,h⟩:=h;refine⟨h1, ?_⟩;cases k with
 |tup=>exact s _ _ (λz=>z) h
 |dA=>exact jA.gO h s
 |lst=>exact f rfl _ h
 |aO ks=>
  have f:=f rfl;rcases h with h | ⟨o,h⟩
  ·exact .inl (f _ h)
  ·exact .inr ⟨o,f _ h⟩
 |lM ks=>
  have f:=f rfl;rcases h with h | ⟨o,h⟩
  ·exact .inl (f _ h)
  ·exact .inr ⟨o,f _ h⟩
 |obj C ns=>
  obtain⟨dx,h⟩:=h;exact⟨dx,f rfl _ h⟩
theorem Vw.frame(h:Vw K H N v d)(f:∀b o,N b->H b=some o->H' b=some o)(s:gu H H'):Vw K H' N v d:=by
 induction h with
 |sc=>exact .sc _
 |hl=>exact .hl _
 |nd h1 h2 h3 _ ih=>exact .nd h1 (h2.frame (λhk o e=>f _ o (h1 hk) e) s) h3 ih
theorem Vw.same(h:Vw K H N v d)(s:aJ H H'):Vw K H' N v d:=h.frame (λb o _ e=>s b o e) (gu.of s)
theorem Vw.plain{v:V}{d:D}(h:Vw K H N v d)(p:plain d=true):bg K H (λ_=>False) v d:=by
 induction h with
 |sc=>exact .sc _ _
 |hl=>cases p
 | @nd a k vs cs h1 h2 h3 _ ih=>
  cases k with
  |tup=>
   have p:bI cs=true:=p;exact .nd (λ_ _=>False) h2.2 h3 (λ_ _ _ z=>z.elim) (λ_ _ z=>z.elim) λi v d hv hd=>ih i v d hv hd (xW p hd)
  |dA=>
   have p:bI cs=true:=p;exact .nd (λ_ _=>False) ⟨p,h2.2⟩ h3 (λ_ _ _ z=>z.elim) (λ_ _ z=>z.elim) λi v d hv hd=>ih i v d hv hd (xW p hd)
  |_=>simp[VL.plain]at p
end
def kids:HO->List V
 |.lst xs=>xs
 |.tup xs=>xs
 |.dK aa=>aa.map (·.2)
 |.dT aa=>aa.map (·.2)
 |.ins _ _ fs=>fs.map (·.2)
 |.b9 _ u=>kids u
 |_=> []
theorem DG{α β:Type}:∀{l:List α} {m:List β},l.length=m.length->(l.zip m).map (·.2)=m
 | [], [],_=>rfl
 |_::l,_::m,h=>by rw[nV,cP,DG (eF h)]
theorem AH{K:ah}(h:fits K k vs.length):kids (ho k dx vs)=vs:=by
 cases k with
 |tup=>rfl
 |dA=>rfl
 |lst=>rfl
 |aO ks=>exact DG h
 |lM ks=>exact DG h
 |obj C ns=>exact DG h.1
inductive gU(H:Hp):V->List Nat->V->Prop
 |nil (v:V):gU H v [] v
 |cons {a:Addr} {o:HO} {n:Nat} {c u:V} {p:List Nat}:H a=some o->(kids o)[n]?=some c->gU H c p u->gU H (.ref a) (n::p) u
def aI:D->List Nat->Option D
 |d, []=>some d
 |.sc _,_::_=>none
 |.hl _,_::_=>none
 |.nd k cs,n::p=>if cg k=true/\bI cs=true then none else match cs[n]? with
  |some c=>aI c p
  |none=>none
noncomputable def aZ:D->List Nat->D->D
 |_, [],e=>e
 |.sc v,_::_,_=> .sc v
 |.hl v,_::_,_=> .hl v
 |.nd k cs,n::p,e=> .nd k (match cs[n]? with
  |some c=>cs.set n (aZ c p e)
  |none=>cs)
section
variable {K:ah}{H H':Hp}{F F' N N':Addr->Prop}
theorem jB.kids(h:jB K H F a k vs cs)(hp:¬ (cg k=true/\bI cs=true))(e:H a=some o):kids o=vs:=by
 cases k with
 |tup=>have h:H a=some (.tup vs):=h;rw[e]at h;cases h;rfl
 |dA=>exact absurd ⟨rfl,h.1⟩ hp
 |_=>obtain⟨_,_,hf,dx,q⟩:=h;rw[e]at q;cases q;exact AH hf
theorem bg.focus:∀{p:List Nat} {F:Addr->Prop} {v u:V} {d d1:D},bg K H F v d->gU H v p u->aI d p=some d1->
  ∃F1:Addr->Prop,(∀b,F1 b->F b)/\bg K H F1 u d1/\∀(H':Hp) (rM:Addr->Prop) (tQ:D),(∀b o,¬ F1 b->F b->H b=some o->H' b=some o)->gu H H'->bg K H' rM u tQ->(∀b,rM b->F1 b\/¬ F b)->
   bg K H' (λb=>(F b/\¬ F1 b)\/rM b) v (aZ d p tQ)
 | [],F,v,u,d,d1,h,hp,g=>by
  cases hp;cases g;refine⟨F,λ_ z=>z,h,λH' rM tQ _ _ h' _=> ?_⟩;show bg K H' _ v (aZ d [] tQ);rw[aZ];exact h'.mono λb z=> .inr z
 |n::p,F,v,u,d,d1,h,hp,g=>by
  cases hp with
  | @cons a o n c u p e1 e2 hp=>
   cases h with
   |sc=>rw[aI]at g;cases g
   |hl=>rw[aI]at g;cases g
   | @nd _ _ k vs cs Fs h1 h2 h3 h4 h5=>
    rw[aI]at g;by_cases dM:cg k=true/\bI cs=true
    ·rw[if_pos dM]at g;cases g
    rw[if_neg dM]at g;rw[h1.kids dM e1]at e2;have hn:n < cs.length:=by rw[<- h2];exact(cX.mp e2).1
    have hc:cs[n]?=some cs[n]:=dH hn;rw[hc]at g;obtain⟨F1,m1,r1,put⟩:=(h5 n c _ e2 hc).focus hp g;refine⟨F1,λb z=>(h4 n b (m1 b z)).1,r1,λH' rM tQ fr st r' ap=> ?_⟩;have key:=put H' rM tQ (λb o nb hb=>fr b o nb (h4 n b hb).1) st r' λb z=>(ap b z).elim .inl λq=> .inr λw=>q (h4 n b w).1;rw[aZ,hc];have Hz:cg k=false->¬ F1 a:=λhk z=>(h4 n a (m1 a z)).2 hk rfl;refine .nd (λi b=>if i=n then(Fs n b/\¬ F1 b)\/rM b else Fs i b) ?_ (by show vs.length=(cs.set n _).length;rw[bN];exact h2) ?_ ?_ ?_
    ·cases k with
     |tup=>exact st _ _ (λz=>z) h1
     |dA=>exact absurd ⟨rfl,h1.1⟩ dM
     |_=>obtain⟨x1,x2,x3,dx,x4⟩:=h1;exact⟨.inl ⟨x1,Hz x2⟩,x2,x3,dx,fr _ _ (Hz x2) x1 x4⟩
    ·intro i j b hi hj;by_cases ei:i=n
     ·by_cases ej:j=n
      ·rw[ei,ej]
      ·rw[if_pos ei]at hi;rw[if_neg ej]at hj;rcases hi with hi | hi
       ·exact absurd (h3 j n b hj hi.1) ej
       ·rcases ap b hi with z | z
        ·exact absurd (h3 j n b hj (m1 b z)) ej
        ·exact absurd (h4 j b hj).1 z
     ·rw[if_neg ei]at hi;by_cases ej:j=n
      ·rw[if_pos ej]at hj;rcases hj with hj | hj
       ·exact absurd (h3 i n b hi hj.1) ei
       ·rcases ap b hj with z | z
        ·exact absurd (h3 i n b hi (m1 b z)) ei
        ·exact absurd (h4 i b hi).1 z
      ·rw[if_neg ej]at hj;exact h3 i j b hi hj
    ·intro i b hi;by_cases ei:i=n
     ·rw[if_pos ei]at hi;rcases hi with hi | hi
      ·exact⟨.inl ⟨(h4 n b hi.1).1,hi.2⟩,(h4 n b hi.1).2⟩
      ·refine⟨.inr hi,λhk z=> ?_⟩;subst z;rcases ap b hi with q | q
       ·exact Hz hk q
       ·exact q (h1.own hk).1
     ·rw[if_neg ei]at hi;exact⟨.inl ⟨(h4 i b hi).1,λz=>ei (h3 i n b hi (m1 b z))⟩,(h4 i b hi).2⟩
    ·intro i v2 d2 hv hd;by_cases ei:i=n
     ·subst ei;rw[e2]at hv;cases hv;have hd:(cs.set i (aZ cs[i] p tQ))[i]?=some d2:=hd;rw[gK hn]at hd;cases hd;show bg K H' (λb=>if i=i then(Fs i b/\¬ F1 b)\/rM b else Fs i b) c _;simp only[if_pos rfl];exact key
     ·have hd:(cs.set n (aZ cs[n] p tQ))[i]?=some d2:=hd;rw[gq (fw ei)]at hd;show bg K H' (λb=>if i=n then(Fs n b/\¬ F1 b)\/rM b else Fs i b) v2 d2;simp only[if_neg ei];exact(h5 i v2 d2 hv hd).frame (λb o hb=>fr b o (λz=>ei (h3 i n b hb (m1 b z))) (h4 i b hb).1) st
theorem iT.xo(h:iT K H a k vs)(hk:cg k=false):∃o,H a=some o:=by
 obtain⟨_,h⟩:=h;cases k with
 |tup=>cases hk
 |dA=>cases hk
 |lst=>exact⟨_,h⟩
 |aO ks=>rcases h with h | ⟨o,h⟩ <;> exact⟨_,h⟩
 |lM ks=>rcases h with h | ⟨o,h⟩ <;> exact⟨_,h⟩
 |obj C ns=>obtain⟨dx,h⟩:=h;exact⟨_,h⟩
theorem Vw.over(h:Vw K H N v d)(f:∀b o,N b->H b=some o->H' b=some o/\N' b)(s:gu H H'):Vw K H' N' v d:=by
 induction h with
 |sc=>exact .sc _
 |hl=>exact .hl _
 |nd h1 h2 h3 _ ih=>exact .nd (λk=>let ⟨o,e⟩:=h2.xo k;(f _ o (h1 k) e).2) (h2.frame (λhk o e=>(f _ o (h1 hk) e).1) s) h3 ih
theorem Vw.node(h:Vw K H N v (.nd k cs)):∃a vs,v= .ref a/\(cg k=false->N a)/\iT K H a k vs/\vs.length=cs.length/\∀(i:Nat) (v:V) (d:D),vs[i]?=some v->cs[i]?=some d->Vw K H N v d:=by
 cases h with
 |nd h1 h2 h3 h4=>exact⟨_,_,rfl,h1,h2,h3,h4⟩
theorem Vw.bA(h:Vw K H N v (.sc u)):v=u:=by
 cases h;rfl
theorem bg.bA(h:bg K H F v (.sc u)):v=u:=by
 cases h;rfl
theorem bg.hole(h:bg K H F v (.hl u)):v=u:=by
 cases h;rfl
theorem bg.node(h:bg K H F v (.nd k cs)):∃a vs,v= .ref a/\jB K H F a k vs cs/\vs.length=cs.length/\∃Fs:Nat->Addr->Prop,(∀i j b,Fs i b->Fs j b->i=j)/\(∀i b,Fs i b->F b/\(cg k=false->b≠a))/\
   (∀(i:Nat) (v:V) (d:D),vs[i]?=some v->cs[i]?=some d->bg K H (Fs i) v d):=by
 cases h with
 |nd Fs h1 h2 h3 h4 h5=>exact⟨_,_,rfl,h1,h2,Fs,h3,h4,h5⟩
theorem bg.path:∀{p:List Nat} {F:Addr->Prop} {v:V} {d d1:D},bg K H F v d->aI d p=some d1->∃u,gU H v p u
 | [],F,v,d,d1,h,g=>⟨v, .nil v⟩
 |n::p,F,v, .sc _,d1,h,g=>by rw[aI]at g;cases g
 |n::p,F,v, .hl _,d1,h,g=>by rw[aI]at g;cases g
 |n::p,F,v, .nd k cs,d1,h,g=>by
  obtain⟨a,vs,rfl,h1,h2,Fs,h3,h4,h5⟩:=h.node;rw[aI]at g;by_cases dM:cg k=true/\bI cs=true
  ·rw[if_pos dM]at g;cases g
  rw[if_neg dM]at g;cases hc:cs[n]? with
  |none=>rw[hc]at g;cases g
  |some c=>
   rw[hc]at g;have hn:n < vs.length:=by rw[h2];exact(cX.mp hc).1
   obtain⟨u,hu⟩:=(h5 n _ c (dH hn) hc).path g;have ho:∃o,H a=some o:=by
    cases k with
    |tup=>exact⟨_,h1⟩
    |dA=>exact absurd ⟨rfl,h1.1⟩ dM
    |_=>obtain⟨_,_,_,dx,e⟩:=h1;exact⟨_,e⟩
   obtain⟨o,e⟩:=ho;exact⟨u, .cons e (by rw[h1.kids dM e];exact dH hn) hu⟩
theorem bg.HA:∀{p:List Nat} {F:Addr->Prop} {v u:V} {d d1:D},bg K H F v d->aI d p=some d1->gU H v p u->(∀b o,F b->H b=some o->H' b=some o)->gu H H'->gU H' v p u
 | [],F,v,u,d,d1,h,g,hp,f,s=>by cases hp;exact .nil v
 |n::p,F,v,u, .sc _,d1,h,g,hp,f,s=>by rw[aI]at g;cases g
 |n::p,F,v,u, .hl _,d1,h,g,hp,f,s=>by rw[aI]at g;cases g
 |n::p,F,v,u, .nd k cs,d1,h,g,hp,f,s=>by
  obtain⟨a,vs,rfl,h1,h2,Fs,h3,h4,h5⟩:=h.node;rw[aI]at g;by_cases dM:cg k=true/\bI cs=true
  ·rw[if_pos dM]at g;cases g
  rw[if_neg dM]at g;cases hc:cs[n]? with
  |none=>rw[hc]at g;cases g
  |some c=>
   rw[hc]at g;cases hp with
   | @cons a o n c' u p e1 e2 hp=>
    rw[h1.kids dM e1]at e2;have Z0:H' a=some o:=by
     cases k with
     |tup=>have h1:H a=some (.tup vs):=h1;rw[e1]at h1;cases h1;exact s _ _ (λz=>z) e1
     |dA=>exact absurd ⟨rfl,h1.1⟩ dM
     |_=>exact f _ _ h1.1 e1
    refine .cons Z0 (by rw[h1.kids dM e1];exact e2) ?_;exact(h5 n c' c e2 hc).HA g hp (λb o z=>f b o (h4 n b z).1) s
theorem bg.sub(h:bg K H F v d)(g:aI d p=some d1)(hp:gU H v p u)(m:∀b,F b->N b):Vw K H N u d1:=by
 obtain⟨F1,m1,r1,_⟩:=h.focus hp g;exact r1.view λb z=>m b (m1 b z)
end
inductive B where
 |own (d:D) | ro (d:D) | aB (r:Nat) (p:List Nat)
noncomputable abbrev En:=List (Option B)
def ox(K:ah)(H:Hp)(U F:Addr->Prop)(m:Nat)(e:List (Option V))(v:V):B->Prop
 |.own d=>bg K H F v d
 |.ro d=>Vw K H (λb=>¬ U b) v d
 |.aB r p=>r < m/\∃vr,e[r]?=some (some vr)/\gU H vr p v
structure bT(K:ah)(H:Hp)(U:Addr->Prop)(m:Nat)(e:List (Option V))(Z:En):Prop where
 len:e.length=Z.length
 mu:∀b,U b->iB (H b)
 ex:∃Fs:Nat->Addr->Prop,(∀i j b,Fs i b->Fs j b->i=j)/\(∀i b,Fs i b->U b)/\∀(i:Nat) (β:B),Z[i]?=some (some β)->∃v,e[i]?=some (some v)/\ox K H U (Fs i) m e v β
def bH(U:Addr->Prop)(H:Hp)(U':Addr->Prop)(H':Hp):Prop:=∀b o,H b=some o->¬ U b->H' b=some o/\¬ U' b
theorem bH.refl(U:Addr->Prop)(H:Hp):bH U H U H:=λ_ _ h n=>⟨h,n⟩
theorem bH.trans{H H1 H2:Hp}(a:bH U H U1 H1)(b:bH U1 H1 U2 H2):bH U H U2 H2:=λc o h n=>b c o (a c o h n).1 (a c o h n).2
theorem bH.gO{H H':Hp}(s:bH U H U' H')(mu:∀b,U b->iB (H b)):gu H H':=λb o m e=>(s b o e λu=>m (by have:=mu b u;rw[e]at this;exact this)).1
theorem rN(h:iB o):∃x,o=some x:=by
 cases o with
 |none=>exact h.elim
 |some x=>exact⟨x,rfl⟩
noncomputable def aV (Z:En) (r:Nat):Option D:=match Z[r]? with
 |some (some (.own d))=>some d
 |_=>none
def fO(Z:En):Option B->Option B
 |some (.aB r p)=>if p= []\/((aV Z r).bind (aI · p)).isSome=true then some (.aB r p) else none
 |b=>b
def eX(Z:En):En:=Z.map (fO Z)
def Qf(τ:En):Prop:=∀b∈τ,b=none\/∃d,b=some (B.own d)
def AI(τ:En):Prop:=∀b∈τ,∀r p,b≠some (B.aB r p)
theorem iE(Z:En):(eX Z).length=Z.length:=by unfold eX;rw[eG]
section
variable {K:ah}{H H':Hp}{U U':Addr->Prop}{m:Nat}{e t t':List (Option V)}{Z τ xX:En}
theorem slot_of(hl:e.length=Z.length)(h:(Z++τ)[i]?=some (some β)):(i < e.length/\Z[i]?=some (some β))\/(e.length<=i/\τ[i - e.length]?=some (some β)):=by
 by_cases hi:i < Z.length
 ·rw[aU hi]at h;exact .inl ⟨by lia,h⟩
 ·rw[br (by lia)]at h;exact .inr ⟨by lia,by rw[hl];exact h⟩
theorem kS(h:aV Z r=some d):Z[r]?=some (some (.own d)):=by
 unfold aV at h
 split at h
 ·next q=>cases h;exact q
 ·cases h
theorem Z1{i:Nat}{β:B}(h:(eX Z)[i]?=some (some β)):Z[i]?=some (some β)/\fO Z (some β)=some β:=by
 unfold eX at h;rw[bJ]at h;cases q:Z[i]? with
 |none=>rw[q]at h;cases h
 |some o=>
  rw[q]at h;have h:fO Z o=some β:=hV h;cases o with
  |none=>cases h
  |some c=>
   cases c with
   |own d=>have h:some (B.own d)=some β:=h;cases h;exact⟨rfl,rfl⟩
   |ro d=>have h:some (B.ro d)=some β:=h;cases h;exact⟨rfl,rfl⟩
   |aB r p=>
    have h':(if p= []\/((aV Z r).bind (aI · p)).isSome=true then some (B.aB r p) else none)=some β:=h;by_cases c:p= []\/((aV Z r).bind (aI · p)).isSome=true
    ·rw[if_pos c]at h';cases h';exact⟨rfl,h⟩
    ·rw[if_neg c]at h';cases h'
theorem bT.call(h:bT K H U m (e++t) (Z++τ))(hl:e.length=Z.length)(hm:m<=e.length)(xY:AI τ):
  ∃Ut:Addr->Prop,(∀b,Ut b->U b)/\bT K H Ut 0 t τ/\(∀(i:Nat) (v:V) (d:D),e[i]?=some (some v)->(Z[i]?=some (some (.own d))->∃F:Addr->Prop,bg K H F v d/\∀b,F b->¬ Ut b)/\(Z[i]?=some (some (.ro d))->Vw K H (λb=>¬ Ut b) v d))/\
   ∀(H':Hp) (AJ:Addr->Prop) (t':List (Option V)) (xX:En),bT K H' AJ 0 t' xX->bH Ut H AJ H'->Qf xX->∃U':Addr->Prop,bT K H' U' m (e++t') (eX Z++xX)/\bH U H U' H':=by
 obtain⟨dw,mu,Fs,dj,sub,sl⟩:=h;have hle:(e++t).length=(Z++τ).length:=dw;rw[dg,dg]at hle;refine⟨λb=>∃i,e.length<=i/\Fs i b,λb ⟨i,_,z⟩=>sub i b z,⟨by lia,λb ⟨i,_,z⟩=>mu b (sub i b z),λi=>Fs (e.length + i),λi j b hi hj=>by have:=dj _ _ b hi hj;lia,λi b hb=>⟨_,by lia,hb⟩,λi β aw=> ?_⟩, ?_, ?_⟩
 ·have AK:(Z++τ)[e.length + i]?=some (some β):=by
   rw[hl,br (by lia),show Z.length + i - Z.length=i by lia];exact aw
  obtain⟨v,ev,sv⟩:=sl _ _ AK;rw[br (by lia),show e.length + i - e.length=i by lia]at ev;refine⟨v,ev, ?_⟩;cases β with
  |own d=>exact sv
  |ro d=>exact Vw.mono sv λb nb ⟨j,_,z⟩=>nb (sub j b z)
  |aB r p=>exact absurd rfl (xY _ (jr aw) r p)
 ·intro i v d ev;have hi:i < e.length:=by
   rcases NV i e.length with z | z
   ·exact z
   ·rw[awI.mpr z]at ev;cases ev
  have ap:∀β,Z[i]?=some (some β)->(Z++τ)[i]?=some (some β):=λβ q=>by rw[aU (by lia)];exact q
  have ij:(e++t)[i]?=some (some v):=by rw[aU hi];exact ev
  refine⟨λhb=> ?_,λhb=> ?_⟩
  ·obtain⟨v',d5,sv⟩:=sl i _ (ap _ hb);rw[ij]at d5;cases d5;exact⟨Fs i,sv,λb hb ⟨j,hj,z⟩=>by have:=dj i j b hb z;lia⟩
  ·obtain⟨v',d5,sv⟩:=sl i _ (ap _ hb);rw[ij]at d5;cases d5;exact Vw.mono sv λb nb ⟨j,_,z⟩=>nb (sub j b z)
 ·intro H' AJ t' xX h' st Qg;obtain⟨ai5,Z2,Gs,Z3,HB,F0⟩:=h';have nU:∀i b,i < e.length->Fs i b->¬ ∃j,e.length<=j/\Fs j b:=λi b hi hb ⟨j,hj,z⟩=>by have:=dj i j b hb z;lia
  have gO:gu H H':=st.gO λb ⟨i,_,z⟩=>mu b (sub i b z);have keep:∀i,i < e.length->∀b o,Fs i b->H b=some o->H' b=some o:=λi hi b o hb q=>(st b o q (nU i b hi hb)).1;have Qh:∀i,i < e.length->∀b,Fs i b->¬ AJ b:=λi hi b hb=>by
   obtain⟨o,q⟩:=rN (mu b (sub i b hb));exact(st b o q (nU i b hi hb)).2
  have lp:(eX Z).length=Z.length:=iE Z;refine⟨λb=>(∃i,i < e.length/\Fs i b)\/AJ b,⟨by rw[dg,dg,lp];lia,λb hb=> ?_,λi=>if i < e.length then Fs i else Gs (i - e.length),λi j b hi hj=> ?_,λi b hb=> ?_,λi β aw=> ?_⟩,λb o q nb=> ?_⟩
  ·rcases hb with⟨i,hi,z⟩ | z
   ·obtain⟨o,q⟩:=rN (mu b (sub i b z));have:=mu b (sub i b z);rw[q]at this;rw[keep i hi b o z q];exact this
   ·exact Z2 b z
  ·have hi:(if i < e.length then Fs i else Gs (i - e.length)) b:=hi;have hj:(if j < e.length then Fs j else Gs (j - e.length)) b:=hj;by_cases ei:i < e.length
   ·rw[if_pos ei]at hi;by_cases ej:j < e.length
    ·rw[if_pos ej]at hj;exact dj i j b hi hj
    ·rw[if_neg ej]at hj;exact absurd (HB _ b hj) (Qh i ei b hi)
   ·rw[if_neg ei]at hi;by_cases ej:j < e.length
    ·rw[if_pos ej]at hj;exact absurd (HB _ b hi) (Qh j ej b hj)
    ·rw[if_neg ej]at hj;have:=Z3 _ _ b hi hj;lia
  ·have hb:(if i < e.length then Fs i else Gs (i - e.length)) b:=hb;by_cases ei:i < e.length
   ·rw[if_pos ei]at hb;exact .inl ⟨i,ei,hb⟩
   ·rw[if_neg ei]at hb;exact .inr (HB _ b hb)
  ·rcases slot_of (τ:=xX) (by rw[lp];exact hl) aw with⟨hi,q⟩ | ⟨hi,q⟩
   ·obtain⟨q1,q2⟩:=Z1 q;obtain⟨v,ev,sv⟩:=sl i β (by rw[aU (by lia)];exact q1);rw[aU hi]at ev;refine⟨v,by rw[aU hi];exact ev, ?_⟩;simp only[if_pos hi];cases β with
    |own d=>exact bg.frame sv (keep i hi) gO
    |ro d=>
     exact Vw.over sv (λb o nb q=>by
      have nt:¬ ∃j,e.length<=j/\Fs j b:=λ⟨j,_,z⟩=>nb (sub j b z);exact⟨(st b o q nt).1,λz=>z.elim (λ⟨j,_,z⟩=>nb (sub j b z)) (st b o q nt).2⟩) gO
    |aB r p=>
     obtain⟨hr,vr,er,hp⟩:=sv;rw[aU (by lia)]at er;refine⟨hr,vr,by rw[aU (by lia)];exact er, ?_⟩;have q2:(if p= []\/((aV Z r).bind (aI · p)).isSome=true then some (B.aB r p) else none)=some (B.aB r p):=q2;by_cases c:p= []\/((aV Z r).bind (aI · p)).isSome=true
     ·rcases c with c | c
      ·subst c;cases hp;exact .nil _
      ·cases hd:aV Z r with
       |none=>rw[hd]at c;cases c
       |some d=>
        rw[hd]at c;have tS:=kS hd;obtain⟨v2,d5,dZ⟩:=sl r _ (by rw[aU (by lia)];exact tS);rw[aU (by lia),er]at d5;cases d5;obtain⟨d1,g⟩:=VD.mp c;have dZ:bg K H (Fs r) vr d:=dZ;exact dZ.HA (d1:=d1) g hp (keep r (by lia)) gO
     ·rw[if_neg c]at q2;cases q2
   ·obtain⟨v,ev,sv⟩:=F0 _ β q;refine⟨v,by rw[br hi];exact ev, ?_⟩;have Z4:¬ i < e.length:=by lia
    simp only[if_neg Z4];cases β with
    |own d=>exact sv
    |ro d=>rcases Qg _ (jr q) with z | ⟨_,z⟩ <;> cases z
    |aB r p=>rcases Qg _ (jr q) with z | ⟨_,z⟩ <;> cases z
  ·have nt:¬ ∃j,e.length<=j/\Fs j b:=λ⟨j,_,z⟩=>nb (sub j b z);exact⟨(st b o q nt).1,λz=>z.elim (λ⟨j,_,z⟩=>nb (sub j b z)) (st b o q nt).2⟩
theorem xZ{cs:List D}{n:Nat}{x:D}(hn:n < cs.length)(hx:plain x=false):bI (cs.set n x)=false:=by
 cases q:bI (cs.set n x) with
 |false=>rfl
 |true=>
  have:=xW q (gK hn);rw[hx]at this;cases this
theorem ya:∀{p:List Nat} {d d1 x:D},aI d p=some d1->plain x=false->plain (aZ d p x)=false
 | [],d,d1,x,g,hx=>by rw[aZ];exact hx
 |n::p, .sc _,d1,x,g,hx=>by rw[aI]at g;cases g
 |n::p, .hl _,d1,x,g,hx=>by rw[aI]at g;cases g
 |n::p, .nd k cs,d1,x,g,hx=>by
  rw[aI]at g;by_cases dM:cg k=true/\bI cs=true
  ·rw[if_pos dM]at g;cases g
  rw[if_neg dM]at g;cases hc:cs[n]? with
  |none=>rw[hc]at g;cases g
  |some c=>
   rw[hc]at g;rw[aZ,hc];cases k with
   |tup=>exact xZ (cX.mp hc).1 (ya g hx)
   |dA=>exact xZ (cX.mp hc).1 (ya g hx)
   |_=>rfl
theorem HC:∀{p:List Nat} {d d1 x:D},aI d p=some d1->plain x=false->aI (aZ d p x) p=some x
 | [],d,d1,x,g,hx=>by rw[aZ,aI]
 |n::p, .sc _,d1,x,g,hx=>by rw[aI]at g;cases g
 |n::p, .hl _,d1,x,g,hx=>by rw[aI]at g;cases g
 |n::p, .nd k cs,d1,x,g,hx=>by
  rw[aI]at g;by_cases dM:cg k=true/\bI cs=true
  ·rw[if_pos dM]at g;cases g
  rw[if_neg dM]at g;cases hc:cs[n]? with
  |none=>rw[hc]at g;cases g
  |some c=>
   rw[hc]at g;have hn:=(cX.mp hc).1;rw[aZ,hc];show aI (.nd k (cs.set n (aZ c p x))) (n::p)=some x;rw[aI,if_neg,gK hn]
   ·exact HC g hx
   ·rintro⟨_,q⟩;rw[xZ hn (ya g hx)]at q;cases q
theorem HD:∀{p:List Nat} {d d1 x y:D},aI d p=some d1->aZ (aZ d p x) p y=aZ d p y
 | [],d,d1,x,y,g=>by simp only[aZ]
 |n::p, .sc _,d1,x,y,g=>by rw[aI]at g;cases g
 |n::p, .hl _,d1,x,y,g=>by rw[aI]at g;cases g
 |n::p, .nd k cs,d1,x,y,g=>by
  rw[aI]at g;by_cases dM:cg k=true/\bI cs=true
  ·rw[if_pos dM]at g;cases g
  rw[if_neg dM]at g;cases hc:cs[n]? with
  |none=>rw[hc]at g;cases g
  |some c=>
   rw[hc]at g;have hn:=(cX.mp hc).1;have e1:aZ (.nd k cs) (n::p) x= .nd k (cs.set n (aZ c p x)):=by rw[aZ,hc]
   have e2:aZ (.nd k cs) (n::p) y= .nd k (cs.set n (aZ c p y)):=by rw[aZ,hc]
   have e3:aZ (.nd k (cs.set n (aZ c p x))) (n::p) y= .nd k ((cs.set n (aZ c p x)).set n (aZ (aZ c p x) p y)):=by rw[aZ,gK hn]
   rw[e1,e2,e3,NW,HD g]
theorem ox.slots{F:Addr->Prop}{e e':List (Option V)}(h:ox K H U F m e v β)(he:∀r,r < m->e'[r]?=e[r]?):ox K H U F m e' v β:=by
 cases β with
 |own d=>exact h
 |ro d=>exact h
 |aB r p=>
  obtain⟨hr,vr,er,hp⟩:=h;exact⟨hr,vr,(he r hr).trans er,hp⟩
theorem bT.take(h:bT K H U m e Z)(hm:m<=e.length)(hr:Z[r]?=some (some (.own d)))(er:e[r]?=some (some vr))(hp:gU H vr p u)(g:aI d p=some d1):
  bT K H U m (e++ [some u]) (Z.set r (some (.own (aZ d p (.hl u))))++ [some (.own d1)]):=by
 obtain⟨dw,mu,Fs,dj,sub,sl⟩:=h;have iN:r < e.length:=by
  rcases NV r e.length with z | z
  ·exact z
  ·rw[awI.mpr z]at er;cases er
 obtain⟨v,ev,sv⟩:=sl r _ hr;rw[er]at ev;cases ev;have sv:bg K H (Fs r) vr d:=sv;obtain⟨F1,m1,r1,put⟩:=sv.focus hp g;have key:=put H (λ_=>False) (.hl u) (λb o _ _ z=>z) (gu.refl H) (.hl _ _) λb z=>z.elim;have Qi:(Z.set r (some (.own (aZ d p (.hl u))))).length=Z.length:=bN;refine⟨by rw[dg,dg,Qi,dw];rfl,mu,λi b=>if i=e.length then F1 b else if i=r then Fs r b/\¬ F1 b else Fs i b/\i < e.length,λi j b hi hj=> ?_,λi b hb=> ?_,λi β aw=> ?_⟩
 ·have hi:if i=e.length then F1 b else if i=r then Fs r b/\¬ F1 b else Fs i b/\i < e.length:=hi;have hj:if j=e.length then F1 b else if j=r then Fs r b/\¬ F1 b else Fs j b/\j < e.length:=hj;have fi:∀k,(if k=e.length then F1 b else if k=r then Fs r b/\¬ F1 b else Fs k b/\k < e.length)->(k=e.length/\F1 b)\/(k=r/\Fs r b/\¬ F1 b)\/(k≠r/\k≠e.length/\Fs k b):=λk hk=>by
   by_cases c1:k=e.length
   ·rw[if_pos c1]at hk;exact .inl ⟨c1,hk⟩
   ·rw[if_neg c1]at hk;by_cases c2:k=r
    ·rw[if_pos c2]at hk;exact .inr (.inl ⟨c2,hk⟩)
    ·rw[if_neg c2]at hk;exact .inr (.inr ⟨c2,c1,hk.1⟩)
  rcases fi i hi with⟨a1,a2⟩ | ⟨a1,a2,a3⟩ | ⟨a1,a2,a3⟩ <;> rcases fi j hj with⟨b1,b2⟩ | ⟨b1,b2,b3⟩ | ⟨b1,b2,b3⟩
  ·lia
  ·exact absurd a2 b3
  ·exact absurd (dj j r b b3 (m1 b a2)) b1
  ·exact absurd b2 a3
  ·lia
  ·exact absurd (dj j r b b3 a2) b1
  ·exact absurd (dj i r b a3 (m1 b b2)) a1
  ·exact absurd (dj i r b a3 b2) a1
  ·exact dj i j b a3 b3
 ·have hb:if i=e.length then F1 b else if i=r then Fs r b/\¬ F1 b else Fs i b/\i < e.length:=hb;by_cases c1:i=e.length
  ·rw[if_pos c1]at hb;exact sub r b (m1 b hb)
  ·rw[if_neg c1]at hb;by_cases c2:i=r
   ·rw[if_pos c2]at hb;exact sub r b hb.1
   ·rw[if_neg c2]at hb;exact sub i b hb.1
 ·have HE:∀r,r < m->(e++ [some u])[r]?=e[r]?:=λr hr=>aU (by lia);rcases slot_of (by rw[Qi];exact dw) aw with⟨hi,q⟩ | ⟨hi,q⟩
  ·by_cases c:r=i
   ·subst c;rw[gK (by lia)]at q;cases q;refine⟨vr,by rw[aU hi];exact er, ?_⟩;have n1:¬ r=e.length:=by lia
    show bg K H (λb=>if r=e.length then F1 b else if r=r then Fs r b/\¬ F1 b else _) vr _;simp only[if_neg n1,if_pos rfl];exact key.mono λb z=>z.elim (λz=>z) λz=>z.elim
   ·rw[gq c]at q;obtain⟨v,ev,sv⟩:=sl i β q;refine⟨v,by rw[aU hi];exact ev, ?_⟩;have n1:¬ i=e.length:=by lia
    have n2:¬ i=r:=λz=>c z.symm;have sv:=ox.slots sv HE;cases β with
    |own dd=>
     show bg K H (λb=>if i=e.length then F1 b else if i=r then Fs r b/\¬ F1 b else Fs i b/\i < e.length) v dd;simp only[if_neg n1,if_neg n2];exact bg.mono sv λb z=>⟨z,hi⟩
    |ro dd=>exact sv
    |aB _ _=>exact sv
  ·have:i - e.length=0:=by
    have:=(cX.mp q).1;simp at this;lia
   rw[this]at q;cases q;have ei:i=e.length:=by lia
   subst ei;refine⟨u,by rw[br (bO _),kj];rfl, ?_⟩;show bg K H (λb=>if e.length=e.length then F1 b else _) u d1;simp only[if_pos rfl];exact r1
theorem bT.put(h:bT K H U m (e++ [some u]) (Z++ [some (.own d1)]))(hl:e.length=Z.length)(hm:m<=e.length)(hr:Z[r]?=some (some (.own d0)))(g:aI d0 p=some (.hl u)):
  bT K H U m e (Z.set r (some (.own (aZ d0 p d1)))):=by
 obtain⟨dw,mu,Fs,dj,sub,sl⟩:=h;have iN:r < e.length:=by rw[hl];exact(cX.mp hr).1
 obtain⟨vr,ev,sv⟩:=sl r _ (by rw[aU (by lia)];exact hr);rw[aU iN]at ev;have sv:bg K H (Fs r) vr d0:=sv;obtain⟨u',hp⟩:=sv.path g;obtain⟨F1,m1,r1,put⟩:=sv.focus hp g;have:=r1.hole;subst this;obtain⟨u2,eu,su⟩:=sl e.length (.own d1) (by rw[hl,br (bO _),kj];rfl);rw[br (bO _),kj]at eu;have eu:some (some u')=some (some u2):=eu;cases eu;have su:bg K H (Fs e.length) u' d1:=su;have key:=put H (Fs e.length) d1 (λb o _ _ z=>z) (gu.refl H) su λb z=> .inr λw=>by have:=dj _ _ b z w;lia
 refine⟨by rw[bN];exact hl,mu,λi b=>if i=r then(Fs r b/\¬ F1 b)\/Fs e.length b else Fs i b/\i < e.length,λi j b hi hj=> ?_,λi b hb=> ?_,λi β aw=> ?_⟩
 ·have hi:if i=r then(Fs r b/\¬ F1 b)\/Fs e.length b else Fs i b/\i < e.length:=hi;have hj:if j=r then(Fs r b/\¬ F1 b)\/Fs e.length b else Fs j b/\j < e.length:=hj;by_cases c1:i=r
  ·rw[if_pos c1]at hi;by_cases c2:j=r
   ·lia
   ·rw[if_neg c2]at hj;rcases hi with hi | hi
    ·exact absurd (dj j r b hj.1 hi.1) c2
    ·have:=dj j _ b hj.1 hi;lia
  ·rw[if_neg c1]at hi;by_cases c2:j=r
   ·rw[if_pos c2]at hj;rcases hj with hj | hj
    ·exact absurd (dj i r b hi.1 hj.1) c1
    ·have:=dj i _ b hi.1 hj;lia
   ·rw[if_neg c2]at hj;exact dj i j b hi.1 hj.1
 ·have hb:if i=r then(Fs r b/\¬ F1 b)\/Fs e.length b else Fs i b/\i < e.length:=hb;by_cases c1:i=r
  ·rw[if_pos c1]at hb;rcases hb with hb | hb
   ·exact sub r b hb.1
   ·exact sub _ b hb
  ·rw[if_neg c1]at hb;exact sub i b hb.1
 ·have HE:∀r,r < m->e[r]?=(e++ [some u'])[r]?:=λr hr=>(aU (by lia)).symm;by_cases c:r=i
  ·subst c;rw[gK (by lia)]at aw;cases aw;refine⟨vr,ev, ?_⟩;show bg K H (λb=>if r=r then(Fs r b/\¬ F1 b)\/Fs e.length b else _) vr _;simp only[if_pos rfl];exact key
  ·rw[gq c]at aw;have hi:i < e.length:=by rw[hl];exact(cX.mp aw).1
   obtain⟨v,d5,dZ⟩:=sl i β (by rw[aU (by lia)];exact aw);rw[aU hi]at d5;refine⟨v,d5, ?_⟩;have n2:¬ i=r:=λz=>c z.symm;have dZ:=ox.slots dZ HE;cases β with
   |own dd=>
    show bg K H (λb=>if i=r then(Fs r b/\¬ F1 b)\/Fs e.length b else Fs i b/\i < e.length) v dd;simp only[if_neg n2];exact bg.mono dZ λb z=>⟨z,hi⟩
   |ro dd=>exact dZ
   |aB _ _=>exact dZ
end
abbrev T1:Addr->Prop:=λ_=>True
def cA(K:ah)(H H':Hp)(v:V)(d:D):Prop:=∃G:Addr->Prop,bg K H' G v d/\∀b,G b->H b=none/\iB (H' b)
section
theorem cA.sc(v:V):cA K H H' v (.sc v):=⟨λ_=>False, .sc _ _,λ_ z=>z.elim⟩
theorem cA.plain(h:Vw K H' N v d)(p:VL.plain d=true):cA K H H' v d:=⟨_,h.plain p,λ_ z=>z.elim⟩
theorem cA.vw(h:cA K H H' v d):Vw K H' T1 v d:=let ⟨_,r,_⟩:=h;r.vw
theorem cA.early(h:cA K H1 H2 v d)(s:aJ H H1):cA K H H2 v d:=by
 obtain⟨G,r,f⟩:=h;refine⟨G,r,λb z=>⟨?_,(f b z).2⟩⟩;cases q:H b with
 |none=>rfl
 |some o=>have:=(f b z).1;rw[s b o q]at this;cases this
theorem gU.same(h:gU H v p u)(s:aJ H H'):gU H' v p u:=by
 induction h with
 |nil=>exact .nil _
 |cons e1 e2 _ ih=>exact .cons (s _ _ e1) e2 ih
theorem AL(h:iB (H b))(s:aJ H H'):iB (H' b):=by
 obtain⟨o,w⟩:=rN h;rw[w]at h;rw[s b o w];exact h
theorem bT.same(h:bT K H U m e Z)(s:aJ H H'):bT K H' U m e Z:=by
 obtain⟨hl,mu,Fs,dj,sub,sl⟩:=h;refine⟨hl,λb z=>AL (mu b z) s,Fs,dj,sub,λi β aw=> ?_⟩;obtain⟨v,ev,sv⟩:=sl i β aw;refine⟨v,ev, ?_⟩;cases β with
 |own d=>exact bg.same sv s
 |ro d=>exact Vw.same sv s
 |aB r p=>obtain⟨a,vr,b,c⟩:=sv;exact⟨a,vr,b,c.same s⟩
theorem bT.push(h:bT K H U m e Z)(s:aJ H H')(hm:m<=e.length)(ow:cA K H H' v d):∃U':Addr->Prop,bT K H' U' m (e++ [some v]) (Z++ [some (.own d)])/\bH U H U' H':=by
 obtain⟨hl,mu,Fs,dj,sub,sl⟩:=h.same s;obtain⟨G,r,fr⟩:=ow;have nG:∀b,G b->¬ U b:=λb z u=>by
  obtain⟨o,w⟩:=rN (h.mu b u);rw[(fr b z).1]at w;cases w
 refine⟨λb=>U b\/G b,⟨by rw[dg,dg,hl];rfl,λb z=>z.elim (mu b) λz=>(fr b z).2,λi b=>if i=e.length then G b else Fs i b,λi j b hi hj=> ?_,λi b hb=> ?_,λi β aw=> ?_⟩,λb o q nu=>⟨s b o q,λz=>z.elim nu λz=>by rw[(fr b z).1]at q;cases q⟩⟩
 ·have hi:if i=e.length then G b else Fs i b:=hi;have hj:if j=e.length then G b else Fs j b:=hj;by_cases ci:i=e.length
  ·rw[if_pos ci]at hi;by_cases cj:j=e.length
   ·lia
   ·rw[if_neg cj]at hj;exact absurd (sub j b hj) (nG b hi)
  ·rw[if_neg ci]at hi;by_cases cj:j=e.length
   ·rw[if_pos cj]at hj;exact absurd (sub i b hi) (nG b hj)
   ·rw[if_neg cj]at hj;exact dj i j b hi hj
 ·have hb:if i=e.length then G b else Fs i b:=hb;by_cases ci:i=e.length
  ·rw[if_pos ci]at hb;exact .inr hb
  ·rw[if_neg ci]at hb;exact .inl (sub i b hb)
 ·rcases slot_of hl aw with⟨hi,q⟩ | ⟨hi,q⟩
  ·obtain⟨v',ev,sv⟩:=sl i β q;refine⟨v',by rw[aU hi];exact ev, ?_⟩;have ni:¬ i=e.length:=by lia
   have sv:=ox.slots sv (e':=e++ [some v]) λr hr=>aU (by lia);cases β with
   |own dd=>
    show bg K H' (λb=>if i=e.length then G b else Fs i b) v' dd;simp only[if_neg ni];exact sv
   |ro dd=>
    obtain⟨v2,d5,vN⟩:=h.ex.choose_spec.2.2 i _ q;rw[ev]at d5;cases d5;have vN:Vw K H (λb=>¬ U b) v' dd:=vN;exact vN.over (λb o nb q=>⟨s b o q,λz=>z.elim nb λz=>by rw[(fr b z).1]at q;cases q⟩) (gu.of s)
   |aB _ _=>exact sv
  ·have:i - e.length=0:=by
    have:=(cX.mp q).1;simp at this;lia
   rw[this]at q;cases q;have ei:i=e.length:=by lia
   subst ei;refine⟨v,by rw[br (bO _),kj];rfl, ?_⟩;show bg K H' (λb=>if e.length=e.length then G b else _) v d;simp only[if_pos rfl];exact r
theorem bT.drop(h:bT K H U m (e++t) (Z++τ))(hl:e.length=Z.length)(hm:m<=e.length):bT K H U m e Z:=by
 obtain⟨_,mu,Fs,dj,sub,sl⟩:=h;refine⟨hl,mu,Fs,dj,sub,λi β aw=> ?_⟩;have hi:=(cX.mp aw).1;obtain⟨v,ev,sv⟩:=sl i β (by rw[aU hi];exact aw);rw[aU (by lia)]at ev;exact⟨v,ev,ox.slots sv λr hr=>(aU (by lia)).symm⟩
noncomputable def eI (i:Nat) (Z:En):En:=Z.map λ
 |some (.aB r p)=>if r=i then none else some (.aB r p)
 |b=>b
theorem jZ(i:Nat)(Z:En):(eI i Z).length=Z.length:=by unfold eI;rw[eG]
theorem DH{i j:Nat}{β:B}(h:(eI i Z)[j]?=some (some β)):Z[j]?=some (some β)/\∀r p,β= .aB r p->r≠i:=by
 unfold eI at h;rw[bJ]at h;cases q:Z[j]? with
 |none=>rw[q]at h;cases h
 |some o=>
  rw[q]at h;cases o with
  |none=>cases h
  |some c=>
   cases c with
   |own d=>cases h;exact⟨rfl,λ_ _ z=>nomatch z⟩
   |ro d=>cases h;exact⟨rfl,λ_ _ z=>nomatch z⟩
   |aB r p=>
    have h:some (if r=i then none else some (B.aB r p))=some _:=h;by_cases c:r=i
    ·rw[if_pos c]at h;cases h
    ·rw[if_neg c]at h;cases h;exact⟨rfl,λr' p' z=>by cases z;exact c⟩
theorem bT.set{i:Nat}(h:bT K H U m (e++ [some v]) (Z++ [some (.own d)]))(hl:e.length=Z.length)(hm:m<=e.length)(hi:i < e.length):bT K H U m (e.set i (some v)) ((eI i Z).set i (some (.own d))):=by
 obtain⟨_,mu,Fs,dj,sub,sl⟩:=h;obtain⟨v',ev,sv⟩:=sl e.length (.own d) (by rw[hl,br (bO _),kj];rfl);rw[br (bO _),kj]at ev;cases ev;have sv:bg K H (Fs e.length) v d:=sv;refine⟨by rw[bN,bN,jZ];exact hl,mu,λj b=>if j=i then Fs e.length b else Fs j b/\j < e.length,λj k b hj hk=> ?_,λj b hb=> ?_,λj β aw=> ?_⟩
 ·have hj:if j=i then Fs e.length b else Fs j b/\j < e.length:=hj;have hk:if k=i then Fs e.length b else Fs k b/\k < e.length:=hk;by_cases cj:j=i
  ·rw[if_pos cj]at hj;by_cases ck:k=i
   ·lia
   ·rw[if_neg ck]at hk;have:=dj _ _ b hj hk.1;lia
  ·rw[if_neg cj]at hj;by_cases ck:k=i
   ·rw[if_pos ck]at hk;have:=dj _ _ b hj.1 hk;lia
   ·rw[if_neg ck]at hk;exact dj _ _ b hj.1 hk.1
 ·have hb:if j=i then Fs e.length b else Fs j b/\j < e.length:=hb;by_cases cj:j=i
  ·rw[if_pos cj]at hb;exact sub _ b hb
  ·rw[if_neg cj]at hb;exact sub _ b hb.1
 ·by_cases cj:i=j
  ·subst cj;rw[gK (by rw[jZ];lia)]at aw;cases aw;refine⟨v,gK hi, ?_⟩;show bg K H (λb=>if i=i then Fs e.length b else _) v d;simp only[if_pos rfl];exact sv
  ·rw[gq cj]at aw;obtain⟨q1,q2⟩:=DH aw;have hj:j < e.length:=by rw[hl];exact(cX.mp q1).1
   obtain⟨v2,d5,dZ⟩:=sl j β (by rw[aU (by lia)];exact q1);rw[aU hj]at d5;refine⟨v2,by rw[gq cj];exact d5, ?_⟩;have nj:¬ j=i:=λz=>cj z.symm;cases β with
   |own dd=>
    show bg K H (λb=>if j=i then Fs e.length b else Fs j b/\j < e.length) v2 dd;simp only[if_neg nj];exact bg.mono dZ λb z=>⟨z,hj⟩
   |ro dd=>exact dZ
   |aB r p=>
    obtain⟨a,vr,b,c⟩:=dZ;rw[aU (by lia)]at b;exact⟨a,vr,by rw[gq λz=>q2 r p rfl z.symm];exact b,c⟩
theorem bT.bind{i:Nat}{β:B}(h:bT K H U m e Z)(hi:i < e.length)(hb:match β with | .own _=>False | .ro d=>Vw K H (λb=>¬ U b) v d | .aB r p=>r < m/\r≠i/\∃vr,e[r]?=some (some vr)/\gU H vr p v):
  bT K H U m (e.set i (some v)) ((eI i Z).set i (some β)):=by
 obtain⟨hl,mu,Fs,dj,sub,sl⟩:=h;refine⟨by rw[bN,bN,jZ];exact hl,mu,Fs,dj,sub,λj γ cH=> ?_⟩;by_cases cj:i=j
 ·subst cj;rw[gK (by rw[jZ];lia)]at cH;cases cH;refine⟨v,gK hi, ?_⟩;cases β with
  |own d=>exact hb.elim
  |ro d=>exact hb
  |aB r p=>
   obtain⟨a,b,vr,c,q⟩:=hb;exact⟨a,vr,by rw[gq λz=>b z.symm];exact c,q⟩
 ·rw[gq cj]at cH;obtain⟨q1,q2⟩:=DH cH;obtain⟨v2,d5,dZ⟩:=sl j γ q1;refine⟨v2,by rw[gq cj];exact d5, ?_⟩;cases γ with
  |own dd=>exact dZ
  |ro dd=>exact dZ
  |aB r p=>
   obtain⟨a,vr,b,c⟩:=dZ;exact⟨a,vr,by rw[gq λz=>q2 r p rfl z.symm];exact b,c⟩
end
structure av(K:ah)(n:Nat)(H:Hp)(U:Addr->Prop)(σ hv:List (Option V))(Z:En)(τv:List V)(τd:List D):Prop where
 ok:bT K H U Z.length (σ++hv++τv.map some) (Z++τd.map λd=>some (.own d))
 len:σ.length + hv.length=Z.length
 nn:σ.length=n
inductive Fl where
 |nx (Z:En) | rt (d:D) (Z:En) | bk (Z:En) | ct (Z:En)
def qu(K:ah)(n:Nat)(H:Hp)(U:Addr->Prop)(hv:List (Option V))(τv:List V)(τd:List D)(E:ke):Fl->Prop
 |.nx ρ'=>∀aF H' U',av K n H' U' aF hv ρ' τv τd->bH U H U' H'->E.nx aF H'
 |.rt d ρ'=>∀v aF H' U',av K n H' U' aF hv ρ' (τv++ [v]) (τd++ [d])->bH U H U' H'->E.rt v H'
 |.bk ρ'=>∀aF H' U',av K n H' U' aF hv ρ' τv τd->bH U H U' H'->E.bk aF H'
 |.ct ρ'=>∀aF H' U',av K n H' U' aF hv ρ' τv τd->bH U H U' H'->E.ct aF H'
class SV(K:ah)(n:Nat)(t:TE)(f:outParam (En->Option D)):Prop where
 s:∀{σ hv:List (Option V)} {H:Hp} {U:Addr->Prop} {Z:En} {τv:List V} {τd:List D} {d:D} {Q:VK},av K n H U σ hv Z τv τd->f Z=some d->(∀v H',aJ H H'->Vw K H' T1 v d->Q v H')->t σ H Q
class SF(K:ah)(n:Nat)(t:TE)(f:outParam (En->Option D)):Prop where
 s:∀{σ hv:List (Option V)} {H:Hp} {U:Addr->Prop} {Z:En} {τv:List V} {τd:List D} {d:D} {Q:VK},av K n H U σ hv Z τv τd->f Z=some d->(∀v H',aJ H H'->cA K H H' v d->Q v H')->t σ H Q
class SM(K:ah)(n:Nat)(t:TE)(f:outParam (En->Option (D×En))):Prop where
 s:∀{σ hv:List (Option V)} {H:Hp} {U:Addr->Prop} {Z ρ':En} {τv:List V} {τd:List D} {d:D} {Q:VK},av K n H U σ hv Z τv τd->f Z=some (d,ρ')->
  (∀v H' U',av K n H' U' σ hv ρ' (τv++ [v]) (τd++ [d])->bH U H U' H'->Q v H')->t σ H Q
inductive Pl where
 |rt (r:Nat) (p:List Nat) | ro (d:D)
def iH(K:ah)(H:Hp)(U:Addr->Prop)(e:List (Option V))(Z:En)(v:V):Pl->Prop
 |.rt r p=>r < Z.length/\∃vr d,e[r]?=some (some vr)/\aV Z r=some d/\(aI d p).isSome=true/\gU H vr p v
 |.ro d=>Vw K H (λb=>¬ U b) v d
class SP(K:ah)(n:Nat)(t:TE)(f:outParam (En->Option Pl)):Prop where
 s:∀{σ hv:List (Option V)} {H:Hp} {U:Addr->Prop} {Z:En} {τv:List V} {τd:List D} {q:Pl} {Q:VK},av K n H U σ hv Z τv τd->f Z=some q->(∀v H',aJ H H'->iH K H' U (σ++hv) Z v q->Q v H')->t σ H Q
class kq(K:ah)(n:Nat)(t:TT)(f:outParam (En->Option Bool)):Prop where
 s:∀{σ hv:List (Option V)} {H:Hp} {U:Addr->Prop} {Z:En} {τv:List V} {τd:List D} {b:Bool} {Q:Bool->Hp->Prop},av K n H U σ hv Z τv τd->f Z=some b->(∀H',aJ H H'->Q b H')->t σ H Q
class ST(K:ah)(n:Nat)(t:TT)(f:outParam (En->Option (Bool×En))):Prop where
 s:∀{σ hv:List (Option V)} {H:Hp} {U:Addr->Prop} {Z ρ':En} {τv:List V} {τd:List D} {b:Bool} {Q:Bool->Hp->Prop},av K n H U σ hv Z τv τd->f Z=some (b,ρ')->
  (∀H' U',av K n H' U' σ hv ρ' τv τd->bH U H U' H'->Q b H')->t σ H Q
def dm(K:ah)(H:Hp)(N:Addr->Prop)(vs:List V)(ds:List D):Prop:=vs.length=ds.length/\∀(i:Nat) (v:V) (d:D),vs[i]?=some v->ds[i]?=some d->Vw K H N v d
class SA(K:ah)(n:Nat)(t:TA)(f:outParam (En->Option (List D))):Prop where
 s:∀{σ hv:List (Option V)} {H:Hp} {U:Addr->Prop} {Z:En} {τv:List V} {τd:List D} {ds:List D} {Q:List V->Hp->Prop},av K n H U σ hv Z τv τd->f Z=some ds->(∀vs H',aJ H H'->dm K H' T1 vs ds->Q vs H')->t σ H Q
class qv(K:ah)(n:Nat)(t:TA)(f:outParam (En->Option (List D×En))):Prop where
 s:∀{σ hv:List (Option V)} {H:Hp} {U:Addr->Prop} {Z ρ':En} {τv:List V} {τd:List D} {ds:List D} {Q:List V->Hp->Prop},av K n H U σ hv Z τv τd->f Z=some (ds,ρ')->
  (∀vs H' U',vs.length=ds.length->av K n H' U' σ hv ρ' (τv++vs) (τd++ds)->bH U H U' H'->Q vs H')->t σ H Q
class SS(K:ah)(n:Nat)(t:TS)(f:outParam (En->Option Fl)):Prop where
 s:∀{σ hv:List (Option V)} {H:Hp} {U:Addr->Prop} {Z:En} {τv:List V} {τd:List D} {fl:Fl} {E:ke},av K n H U σ hv Z τv τd->f Z=some fl->qu K n H U hv τv τd E fl->t E σ H
section
theorem av.same(h:av K n H U σ hv Z τv τd)(s:aJ H H'):av K n H' U σ hv Z τv τd:=⟨h.ok.same s,h.len,h.nn⟩
theorem av.push(h:av K n H U σ hv Z τv τd)(s:aJ H H')(o:cA K H H' v d):∃U',av K n H' U' σ hv Z (τv++ [v]) (τd++ [d])/\bH U H U' H':=by
 obtain⟨U',k,st⟩:=h.ok.push s (by have:=h.len;simp;lia) o;refine⟨U',⟨?_,h.len,h.nn⟩,st⟩;rw[cK,cK, <- b8, <- b8];exact k
theorem av.drop(h:av K n H U σ hv Z (τv++vs) (τd++ds))(hl:vs.length=ds.length):av K n H U σ hv Z τv τd:=by
 refine⟨?_,h.len,h.nn⟩;have k:=h.ok;have e:=k.len;have l:=h.len;rw[cK,cK, <- b8, <- b8]at k;refine k.drop ?_ (by simp;lia);simp at e |-
 lia
theorem av.qw(h:av K n H U σ hv Z (τv++ [v]) (τd++ [d])):av K n H U σ hv Z τv τd:=h.drop (vs:= [v]) (ds:= [d]) rfl
theorem av.tl(h:av K n H U σ hv Z τv τd):τv.length=τd.length:=by
 have e:=h.ok.len;have l:=h.len;simp at e
 lia
theorem av.last(h:av K n H U σ hv Z (τv++ [v]) (τd++ [d])):Vw K H T1 v d:=by
 have tl:=h.tl;have l:=h.len;obtain⟨_,mu,Fs,dj,sub,sl⟩:=h.ok;obtain⟨v',ev,sv⟩:=sl (Z.length + τd.length) (.own d) (by simp);have:v'=v:=by
  have e2:(σ++hv++(τv++ [v]).map some)[Z.length + τd.length]?=some (some v):=by
   rw[br (by simp;lia)];simp at tl |-;rw[show Z.length + τd.length - (σ.length + hv.length)=τv.length by lia];simp
  rw[e2]at ev;cases ev;rfl
 subst this;exact bg.vw sv
end
class jC(i n:Nat):Prop where
 h:i < n
instance:jC 0 (n + 1):=⟨V3 n⟩
instance [h:jC i n]:jC (i + 1) (n + 1):=⟨V4 h.h⟩
section
instance (priority:=100) ai6{t:TE}{f:En->Option D}[S:SF K n t f]:SV K n t f:=⟨λI h k=>S.s I h λv H' s o=>k v H' s o.vw⟩
instance (priority:=200) ai7{t:TE}{f:En->Option D}[S:SF K n t f]:SM K n t (λZ=>(f Z).map λd=>(d,Z)):=⟨λ{σ hv H U Z ρ' τv τd d Q} I h k=>by
 obtain⟨d',h1,h2⟩:=aY.mp h;cases h2;refine S.s I h1 λv H' s o=> ?_;obtain⟨U',I',st⟩:=I.push s o;exact k v H' U' I' st⟩
def gm(f:En->Option D)(Z:En):Option (D×En):=(f Z).bind λd=>if plain d=true then some (d,Z) else none
instance (priority:=90) ai8{t:TE}{f:En->Option D}[S:SV K n t f]:SM K n t (gm f):=⟨λ{σ hv H U Z ρ' τv τd d Q} I h k=>by
 obtain⟨d',h1,h2⟩:=ak.mp h;by_cases p:plain d'=true
 ·rw[if_pos p]at h2;cases h2;refine S.s I h1 λv H' s w=> ?_;obtain⟨U',I',st⟩:=I.push s (cA.plain w p);exact k v H' U' I' st
 ·rw[if_neg p]at h2;cases h2⟩
instance (priority:=100) ai9{t:TT}{f:En->Option Bool}[S:kq K n t f]:ST K n t (λZ=>(f Z).map λb=>(b,Z)):=⟨λ{σ hv H U Z ρ' τv τd b Q} I h k=>by
 obtain⟨b',h1,h2⟩:=aY.mp h;cases h2;refine S.s I h1 λH' s=>k H' U (I.same s) λb o q nu=>⟨s b o q,nu⟩⟩
def bD(Z:En):Option B->Option D
 |some (.own d)=>some d
 |some (.ro d)=>some d
 |some (.aB r p)=>(aV Z r).bind (aI · p)
 |none=>none
def af(i:Nat)(Z:En):Option D:=(Z[i]?).bind (bD Z)
theorem av.slot{i:Nat}{β:B}(I:av K n H U σ hv Z τv τd)(h:Z[i]?=some (some β)):∃v F,(σ++hv)[i]?=some (some v)/\(∀b,F b->U b)/\ox K H U F Z.length (σ++hv) v β:=by
 have l:=I.len;have hi:=(cX.mp h).1;obtain⟨_,mu,Fs,dj,sub,sl⟩:=I.ok;obtain⟨v,ev,sv⟩:=sl i β (by grind);rw[aU (by grind)]at ev;exact⟨v,Fs i,ev,sub i,ox.slots sv λr hr=>(aU (by grind)).symm⟩
theorem av.name(I:av K n H U σ hv Z τv τd)(hi:i < n):(σ++hv)[i]?=σ[i]?:=aU (by rw[I.nn];exact hi)
theorem av.AM{r:Nat}(I:av K n H U σ hv Z τv τd)(h:aV Z r=some d):∃v F,(σ++hv)[r]?=some (some v)/\(∀b,F b->U b)/\bg K H F v d:=by
 obtain⟨v,F,a,b,c⟩:=I.slot (kS h);exact⟨v,F,a,b,c⟩
def gi(Z:En):Pl->Option D
 |.rt r p=>(aV Z r).bind (aI · p)
 |.ro d=>some d
theorem av.at(I:av K n H U σ hv Z τv τd)(h:iH K H U (σ++hv) Z v q)(hd:gi Z q=some d):Vw K H T1 v d:=by
 cases q with
 |ro d'=>cases hd;exact h.any
 |rt r p=>
  obtain⟨_,vr,d0,er,hr,_,hp⟩:=h;have hd:(aV Z r).bind _=some d:=hd;rw[hr]at hd;obtain⟨v',F,ev,_,rp⟩:=I.AM hr;rw[er]at ev;cases ev;exact rp.sub hd hp λ_ _=>trivial
instance Z5{i:Nat}[L:jC i n]:SV K n (f9 i) (af i):=⟨λ{σ hv H U Z τv τd d Q} I h k=>by
 obtain⟨o,h1,h2⟩:=ak.mp h;cases o with
 |none=>cases h2
 |some β=>
  obtain⟨v,F,ev,sub,sv⟩:=I.slot h1;rw[I.name L.h]at ev;refine⟨v,ev,k v H (aJ.refl H) ?_⟩;cases β with
  |own d'=>cases h2;exact bg.vw sv
  |ro d'=>cases h2;exact Vw.any sv
  |aB r p=>
   obtain⟨d0,hr,g⟩:=ak.mp h2;obtain⟨_,vr,er,hp⟩:=sv;obtain⟨v',F',ij,_,rp⟩:=I.AM hr;rw[er]at ij;cases ij;exact rp.sub g hp λ_ _=>trivial⟩
def aT(i:Nat)(Z:En):Option Pl:=match Z[i]? with
 |some (some (.own _))=>some (.rt i [])
 |some (some (.ro d))=>some (.ro d)
 |some (some (.aB r p))=>if((aV Z r).bind (aI · p)).isSome=true then some (.rt r p) else none
 |_=>none
instance aja{i:Nat}[L:jC i n]:SP K n (f9 i) (aT i):=⟨λ{σ hv H U Z τv τd q Q} I h k=>by
 unfold aT at h
 split at h
 ·next d e1=>
  cases h;obtain⟨v,F,ev,sub,sv⟩:=I.slot e1;have ij:=ev;rw[I.name L.h]at ev;have hr:aV Z i=some d:=by unfold aV;rw[e1]
  exact⟨v,ev,k v H (aJ.refl H) ⟨(cX.mp e1).1,v,d,ij,hr,rfl, .nil v⟩⟩
 ·next d e1=>
  cases h;obtain⟨v,F,ev,sub,sv⟩:=I.slot e1;rw[I.name L.h]at ev;exact⟨v,ev,k v H (aJ.refl H) sv⟩
 ·next r p e1=>
  by_cases c:((aV Z r).bind (aI · p)).isSome=true
  ·rw[if_pos c]at h;cases h;obtain⟨v,F,ev,sub,sv⟩:=I.slot e1;rw[I.name L.h]at ev;obtain⟨hr,vr,er,hp⟩:=sv;cases hd:aV Z r with
   |none=>rw[hd]at c;cases c
   |some d0=>
    rw[hd]at c;exact⟨v,ev,k v H (aJ.refl H) ⟨hr,vr,d0,er,hd,c,hp⟩⟩
  ·rw[if_neg c]at h;cases h
 ·cases h⟩
instance ajb{v:V}:SF K n (tC v) (λ_=>some (.sc v)):=⟨λI h k=>by cases h;exact k v _ (aJ.refl _) (.sc v)⟩
class jD(K:ah)(r:R2)(g:outParam (D->D->Option D)):Prop where
 s:∀{H:Hp} {x y:V} {dx dy d:D} {Q:VK},Vw K H T1 x dx->Vw K H T1 y dy->g dx dy=some d->(∀v H',aJ H H'->cA K H H' v d->Q v H')->r x y H Q
noncomputable def au (g:D->D->Option D) (fa fb:En->Option D) (Z:En):Option D:=(fa Z).bind λa=>(fb Z).bind λb=>g a b
instance ajc[A:SV K n ta fa][B':SV K n tb fb][O:jD K r g]:SF K n (ig r ta tb) (au g fa fb):=⟨λ{σ hv H U Z τv τd d Q} I h k=>by
 obtain⟨a,ha,h⟩:=ak.mp h;obtain⟨b,hb,h⟩:=ak.mp h;refine A.s I ha λx H1 s1 w1=> ?_;refine B'.s (I.same s1) hb λy H2 s2 w2=> ?_;exact O.s (w1.same s2) w2 h λv H3 s3 o=>k v H3 (s1.trans (s2.trans s3)) (o.early (s1.trans s2))⟩
noncomputable def hZ (g:D->D->Option D) (fa fb:En->Option (D×En)) (Z:En):Option (D×En):=(fa Z).bind λa=>(fb a.2).bind λb=>(g a.1 b.1).map λd=>(d,b.2)
theorem av.two(I:av K n H U σ hv Z (τv++ [v1]++ [v2]) (τd++ [d1]++ [d2])):Vw K H T1 v1 d1/\Vw K H T1 v2 d2:=⟨I.qw.last,I.last⟩
instance (priority:=80) Z6{r:R2}{ta tb:TE}{fa fb:En->Option (D×En)}{g:D->D->Option D}[A:SM K n ta fa][B':SM K n tb fb][O:jD K r g]:SM K n (ig r ta tb) (hZ g fa fb):=⟨λ{σ hv H U Z ρ' τv τd d Q} I h k=>by
 obtain⟨⟨a,ρ1⟩,ha,h⟩:=ak.mp h;obtain⟨⟨b,ai⟩,hb,h⟩:=ak.mp h;obtain⟨d',hg,h⟩:=aY.mp h;cases h;refine A.s I ha λx H1 U1 I1 bQ=> ?_;refine B'.s I1 hb λy H2 U2 I2 dJ=> ?_;refine O.s I2.two.1 I2.two.2 hg λv H3 s3 o=> ?_;obtain⟨U3,I3,gZ⟩:=(I2.qw.qw).push s3 o;exact k v H3 U3 I3 (bQ.trans (dJ.trans gZ))⟩
instance aje:SA K n fz (λ_=>some []):=⟨λI h k=>by cases h;exact k [] _ (aJ.refl _) ⟨rfl,λi v d hv=>by simp at hv⟩⟩
noncomputable def ar (fa:En->Option D) (fr:En->Option (List D)) (Z:En):Option (List D):=(fa Z).bind λa=>(fr Z).map (a:: ·)
theorem dm.cons(h:Vw K H N v d)(t:dm K H N vs ds):dm K H N (v::vs) (d::ds):=⟨by rw[c8,c8,t.1],λi x y hx hy=>by
 cases i with
 |zero=>cases hx;cases hy;exact h
 |succ i=>exact t.2 i x y (by simpa using hx) (by simpa using hy)⟩
instance ajf[A:SV K n ta fa][R:SA K n tr fr]:SA K n (di ta tr) (ar fa fr):=⟨λ{σ hv H U Z τv τd ds Q} I h k=>by
 obtain⟨a,ha,h⟩:=ak.mp h;obtain⟨r,hr,h⟩:=aY.mp h;cases h;refine A.s I ha λx H1 s1 w1=> ?_;exact R.s (I.same s1) hr λxs H2 s2 w2=>k _ H2 (s1.trans s2) (.cons (w1.same s2) w2)⟩
instance ajg:qv K n fz (λZ=>some ([],Z)):=⟨λ{σ hv H U Z ρ' τv τd ds Q} I h k=>by cases h;exact k [] H U rfl (by grind) (bH.refl U H)⟩
noncomputable def eJ (fa:En->Option (D×En)) (fr:En->Option (List D×En)) (Z:En):Option (List D×En):=(fa Z).bind λa=>(fr a.2).map λr=>(a.1::r.1,r.2)
instance ajh[A:SM K n ta fa][R:qv K n tr fr]:qv K n (di ta tr) (eJ fa fr):=⟨λ{σ hv H U Z ρ' τv τd ds Q} I h k=>by
 obtain⟨⟨a,ρ1⟩,ha,h⟩:=ak.mp h;obtain⟨⟨r,ai⟩,hr,h⟩:=aY.mp h;cases h;refine A.s I ha λx H1 U1 I1 bQ=> ?_;refine R.s I1 hr λxs H2 U2 hl I2 dJ=> ?_;refine k _ H2 U2 (by grind) ?_ (bQ.trans dJ);rw[sM,sM τd];exact I2⟩
theorem pL{α β:Type}{vs:List α}{ds:List β}{i:Nat}{d:β}(h:vs.length=ds.length)(hd:ds[i]?=some d):∃v,vs[i]?=some v:=⟨_,dH (by rw[h];exact(cX.mp hd).1)⟩
theorem av.gather{k:Kd}{o:HO}(I:av K n H U σ hv Z (τv++vs) (τd++ds))(hl:vs.length=ds.length)(hp:H p=none)
  (hold:(cg k=true/\k= .tup/\o= .tup vs)\/(cg k=false/\fits K k vs.length/\∃dx,o=ho k dx vs)):
  ∃U',av K n (upd H p o) U' σ hv Z (τv++ [.ref p]) (τd++ [.nd k ds])/\bH U H U' (upd H p o):=by
 have l:=I.len;have s:aJ H (upd H p o):=λb u q=>by rw[ba (gM q hp)];exact q
 have tl:=I.tl;obtain⟨he,mu,Fs,dj,sub,sl⟩:=I.ok.same s;have np:∀i,¬ Fs i p:=λi z=>by
  obtain⟨u,w⟩:=rN (I.ok.mu p (sub i p z));rw[hp]at w;cases w
 have base:(σ++hv++τv.map some).length=Z.length + τd.length:=by simp at tl |-;lia
 have Z7:cg k=false->iB (upd H p o p):=λhk=>by
  rcases hold with⟨z,_⟩ | ⟨_,z,dx,w⟩
  ·rw[hk]at z;cases z
  ·rw[de,w];have:qt K (upd H p o) p k vs:=⟨hk,z,dx,by rw[de,w]⟩
   have:=this.mu;rw[de,w]at this;exact this
 refine⟨λb=>U b\/(cg k=false/\b=p),⟨⟨by simp at tl |-;lia,λb z=> ?_,λi b=>if i=Z.length + τd.length then(∃j,Z.length + τd.length<=j/\Fs j b)\/(cg k=false/\b=p) else Fs i b/\i < Z.length + τd.length,λi j b hi hj=> ?_,λi b hb=> ?_,λi β aw=> ?_⟩,l,I.nn⟩,λb u q nu=>⟨s b u q,λz=>z.elim nu λ⟨_,z⟩=>by rw[z,hp]at q;cases q⟩⟩
 ·rcases z with z | ⟨z,w⟩
  ·exact mu b z
  ·rw[w];exact Z7 z
 ·have hi:if i=Z.length + τd.length then(∃j,Z.length + τd.length<=j/\Fs j b)\/(cg k=false/\b=p) else Fs i b/\i < Z.length + τd.length:=hi;have hj:=hj;by_cases ci:i=Z.length + τd.length
  ·rw[if_pos ci]at hi;by_cases cj:j=Z.length + τd.length
   ·lia
   ·rw[if_neg cj]at hj;rcases hi with⟨x,hx,hi⟩ | ⟨_,hi⟩
    ·have:=dj _ _ b hi hj.1;lia
    ·rw[hi]at hj;exact absurd hj.1 (np j)
  ·rw[if_neg ci]at hi;by_cases cj:j=Z.length + τd.length
   ·rw[if_pos cj]at hj;rcases hj with⟨x,hx,hj⟩ | ⟨_,hj⟩
    ·have:=dj _ _ b hi.1 hj;lia
    ·rw[hj]at hi;exact absurd hi.1 (np i)
   ·rw[if_neg cj]at hj;exact dj _ _ b hi.1 hj.1
 ·have hb:if i=Z.length + τd.length then(∃j,Z.length + τd.length<=j/\Fs j b)\/(cg k=false/\b=p) else Fs i b/\i < Z.length + τd.length:=hb;by_cases ci:i=Z.length + τd.length
  ·rw[if_pos ci]at hb;rcases hb with⟨x,_,hb⟩ | hb
   ·exact .inl (sub x b hb)
   ·exact .inr hb
  ·rw[if_neg ci]at hb;exact .inl (sub i b hb.1)
 ·have AK:((Z++τd.map λd=>some (B.own d))++ [some (.own (.nd k ds))])[i]?=some (some β):=by
   rw[cK, <- b8]at aw;exact aw
  have HF:(σ++hv++τv.map some).length=(Z++τd.map λd=>some (B.own d)).length:=by rw[base];simp
  have Qk:∀{i:Nat} (hi:i < (σ++hv++τv.map some).length) {x:V},(σ++hv++(τv++ [x]).map some)[i]?=(σ++hv++τv.map some)[i]?:=λ{i} hi {x}=>by
   rw[cK, <- b8,aU hi]
  have HG:∀{i:Nat} (hi:i < (σ++hv++τv.map some).length),(σ++hv++(τv++vs).map some)[i]?=(σ++hv++τv.map some)[i]?:=λ{i} hi=>by
   rw[cK, <- b8,aU hi]
  rcases slot_of HF AK with⟨hi,q⟩ | ⟨hi,q⟩
  ·obtain⟨v',ev,sv⟩:=sl i β (by rw[cK, <- b8,aU (by rw[<- HF];exact hi)];exact q);rw[HG hi]at ev;refine⟨v',by rw[Qk hi];exact ev, ?_⟩;have ni:¬ i=Z.length + τd.length:=by lia
   have sv:=ox.slots sv (e':=σ++hv++(τv++ [V.ref p]).map some) λr hr=>by rw[Qk (by lia),HG (by lia)]
   cases β with
   |own dd=>
    simp only[if_neg ni];exact bg.mono sv λb z=>⟨z,by lia⟩
   |ro dd=>
    obtain⟨v2,d5,vN⟩:=I.ok.ex.choose_spec.2.2 i _ (by rw[cK, <- b8,aU (by rw[<- HF];exact hi)];exact q);rw[HG hi,ev]at d5;cases d5;have vN:Vw K H (λb=>¬ U b) v' dd:=vN;exact vN.over (λb o nb q=>⟨s b o q,λz=>z.elim nb λ⟨_,z⟩=>by rw[z,hp]at q;cases q⟩) (gu.of s)
   |aB _ _=>exact sv
  ·have e0:i - (σ++hv++τv.map some).length=0:=by
    have:=(cX.mp q).1;simp at this |-;lia
   rw[e0]at q;cases q;have ei:i=Z.length + τd.length:=by lia
   subst ei;refine⟨.ref p,by rw[cK, <- b8,br (by lia),base,kj];rfl, ?_⟩;have bB:∀(j:Nat) (v:V) (d:D),vs[j]?=some v->ds[j]?=some d->bg K (upd H p o) (Fs (Z.length + τd.length + j)) v d:=λj v d hv hd=>by
    obtain⟨v',ev,sv⟩:=sl (Z.length + τd.length + j) (.own d) (by
     rw[cK, <- b8,br (by simp),bJ];simp[hd])
    have:v'=v:=by
     rw[cK, <- b8,br (by lia),base]at ev;simp[hv]at ev;exact ev.symm
    subst this;exact sv
   simp only[if_pos rfl];refine .nd (λj=>Fs (Z.length + τd.length + j)) ?_ hl (λi j b hi hj=>by have:=dj _ _ b hi hj;lia) (λj b hb=>⟨.inl ⟨_,by lia,hb⟩,λ_ z=>by rw[z]at hb;exact np _ hb⟩) bB;rcases hold with⟨_,h1,h2⟩ | ⟨h1,h2,dx,h3⟩
   ·subst h1;show upd H p o p=some (.tup vs);rw[de,h2]
   ·exact jB.put h1 (.inr ⟨h1,rfl⟩) ⟨h1,h2,dx,by rw[de,h3]⟩
noncomputable def kU (f:En->Option (List D×En)) (Z:En):Option (D×En):=(f Z).bind λr=>if r.1.length<=aM then some (.nd .tup r.1,r.2) else none
noncomputable def ju (f:En->Option (List D×En)) (Z:En):Option (D×En):=(f Z).bind λr=>if r.1.length<=aM then some (.nd .lst r.1,r.2) else none
instance (priority:=300) aji{ta:TA}{fa:En->Option (List D×En)}[A:qv K n ta fa]:SM K n (Ai ta) (kU fa):=⟨λ{σ hv H U Z ρ' τv τd d Q} I h k=>by
 obtain⟨⟨a,ρ1⟩,ha,h⟩:=ak.mp h;by_cases c:a.length<=aM
 ·rw[if_pos c]at h;cases h;refine A.s I ha λxs H1 U1 hl I1 bQ=>⟨by rw[hl];exact c,λp hp=> ?_⟩
  obtain⟨U2,I2,dJ⟩:=I1.gather hl hp (.inl ⟨rfl,rfl,rfl⟩);exact k _ _ U2 I2 (bQ.trans dJ)
 ·rw[if_neg c]at h;cases h⟩
instance (priority:=300) ajj{ta:TA}{fa:En->Option (List D×En)}[A:qv K n ta fa]:SM K n (ahd ta) (ju fa):=⟨λ{σ hv H U Z ρ' τv τd d Q} I h k=>by
 obtain⟨⟨a,ρ1⟩,ha,h⟩:=ak.mp h;by_cases c:a.length<=aM
 ·rw[if_pos c]at h;cases h;refine A.s I ha λxs H1 U1 hl I1 bQ=>⟨by rw[hl];exact c,λp hp=> ?_⟩
  obtain⟨U2,I2,dJ⟩:=I1.gather (k:= .lst) hl hp (.inr ⟨rfl,trivial,0,rfl⟩);exact k _ _ U2 I2 (bQ.trans dJ)
 ·rw[if_neg c]at h;cases h⟩
variable {Z ρ' ai:En}{v:V}{d:D}
noncomputable def bU (ds:List D):En:=ds.map λd=>some (.own d)
theorem Z8(ds:List D):Qf (bU ds):=λb hb=>by
 obtain⟨d,_,rfl⟩:=gY.mp hb;exact .inr ⟨d,rfl⟩
theorem vO(ds:List D):AI (bU ds):=λb hb r p=>by
 obtain⟨d,_,rfl⟩:=gY.mp hb;exact λz=>nomatch z
theorem bT.weaken(h:bT K H U m e ai)(hl:Z.length=ai.length)(w:∀(i:Nat) (β:B),Z[i]?=some (some β)->ai[i]?=some (some β)):bT K H U m e Z:=by
 obtain⟨a,mu,Fs,dj,sub,sl⟩:=h;exact⟨a.trans hl.symm,mu,Fs,dj,sub,λi β aw=>sl i β (w i β aw)⟩
theorem vP(h:iB (H a)):gu H (upd H a o):=λb u nm q=>by
 have:b≠a:=λz=>by subst z;rw[q]at h;exact nm h
 rw[ba this];exact q
theorem Ql{a:Addr}(hk:cg k=false):iB (some (ho k dx vs)):=by
 cases k with
 |tup=>cases hk
 |dA=>cases hk
 |lst=>trivial
 |aO ks=>trivial
 |lM ks=>trivial
 |obj C ns=>trivial
theorem bT.edit(h:bT K H U 0 (xs.map some++ [some v]) (bU ds++ [some (.own (.nd k cs))]))(hl:xs.length=ds.length)(hk:cg k=false):
  ∃(a dx:Addr) (vs:List V),v= .ref a/\H a=some (ho k dx vs)/\fits K k vs.length/\vs.length=cs.length/\dm K H T1 vs cs/\∀(k':Kd) (cC:List V) (fU:List D) (π:Nat->Nat),cg k'=false->fits K k' cC.length->cC.length=fU.length->
   (∀i j,i < cC.length->j < cC.length->π i=π j->i=j)->(∀(i:Nat) (x:V),cC[i]?=some x->(vs++xs)[π i]?=some x)->(∀(i:Nat) (y:D),fU[i]?=some y->(cs++ds)[π i]?=some y)->
   bT K (upd H a (ho k' dx cC)) U 0 [some v] [some (.own (.nd k' fU))]/\bH U H U (upd H a (ho k' dx cC)):=by
 obtain⟨dw,mu,Fs,dj,sub,sl⟩:=h;have lo:(bU ds).length=xs.length:=by unfold bU;rw[eG,hl]
 obtain⟨v',ev,sv⟩:=sl xs.length (.own (.nd k cs)) (by rw[br (by lia),lo,kj];rfl);rw[br (by simp)]at ev;have:v'=v:=by simp at ev;exact ev.symm
 subst this;have sv:bg K H (Fs xs.length) v' (.nd k cs):=sv;obtain⟨a,vs,rfl,h1,h2,Gs,g3,g4,g5⟩:=sv.node;obtain⟨Fa,_,hf,dx,ha⟩:=h1.own hk;have Z9:∀i,¬ Gs i a:=λi z=>(g4 i a z).2 hk rfl;refine⟨a,dx,vs,rfl,ha,hf,h2,⟨h2,λi v d hv hd=>(g5 i v d hv hd).vw⟩,λk' cC fU π rO oy oz inj iV qY=> ?_⟩;have aaa:iB (H a):=mu a (sub _ a Fa);have st:gu H (upd H a (ho k' dx cC)):=vP aaa;have keep:∀b u,b≠a->H b=some u->upd H a (ho k' dx cC) b=some u:=λb u ne q=>by rw[ba ne];exact q
 -- the ajk of what comes from place j
 let Fp:Nat->Addr->Prop:=λj=>if j < cs.length then Gs j else λb=>Fs (j - cs.length) b/\j - cs.length < xs.length
 have Qm:∀j,j < cs.length->Fp j=Gs j:=λj hj=>if_pos hj;have Qn:∀j,¬ j < cs.length->Fp j=λb=>Fs (j - cs.length) b/\j - cs.length < xs.length:=λj hj=>if_neg hj;have DI:∀j b,Fp j b->(j < cs.length/\Gs j b)\/(¬ j < cs.length/\Fs (j - cs.length) b/\j - cs.length < xs.length):=λj b hb=>by
  by_cases c:j < cs.length
  ·rw[Qm j c]at hb;exact .inl ⟨c,hb⟩
  ·rw[Qn j c]at hb;exact .inr ⟨c,hb.1,hb.2⟩
 have aab:∀j b,Fp j b->U b:=λj b hb=>by
  rcases DI j b hb with⟨_,z⟩ | ⟨_,z,_⟩
  ·exact sub _ b (g4 j b z).1
  ·exact sub _ b z
 have Qo:∀j,¬ Fp j a:=λj z=>by
  rcases DI j a z with⟨_,z⟩ | ⟨_,z,w⟩
  ·exact Z9 j z
  ·have:=dj _ _ a z Fa;lia
 have aac:∀i j b,Fp i b->Fp j b->i=j:=λi j b hi hj=>by
  rcases DI i b hi with⟨c1,z1⟩ | ⟨c1,z1,w1⟩ <;> rcases DI j b hj with⟨c2,z2⟩ | ⟨c2,z2,w2⟩
  ·exact g3 i j b z1 z2
  ·have:=dj _ _ b (g4 i b z1).1 z2;lia
  ·have:=dj _ _ b (g4 j b z2).1 z1;lia
  ·have:=dj _ _ b z1 z2;lia
 have aad:∀(j:Nat) (x:V) (y:D),(vs++xs)[j]?=some x->(cs++ds)[j]?=some y->bg K H (Fp j) x y:=λj x y hx hy=>by
  by_cases c:j < cs.length
  ·rw[Qm j c];rw[aU (by lia)]at hx;rw[aU c]at hy;exact g5 j x y hx hy
  ·rw[Qn j c];rw[br (by lia)]at hx;rw[br (by lia)]at hy;rw[h2]at hx;have HH:j - cs.length < xs.length:=(cX.mp hx).1;obtain⟨x',ex,sx⟩:=sl (j - cs.length) (.own y) (by rw[aU (by rw[lo];exact HH)];unfold bU;rw[bJ,hy];rfl);have:x'=x:=by
    rw[aU (by simp;exact HH),bJ,hx]at ex;cases ex;rfl
   subst this;exact bg.mono sx λb z=>⟨z,HH⟩
 refine⟨⟨rfl,λb ub=> ?_,λi b=>i=0/\(b=a\/∃j,j < cC.length/\Fp (π j) b),λi j b hi hj=>by rw[hi.1,hj.1],λi b hb=> ?_,λi β aw=> ?_⟩,λb u q nu=> ?_⟩
 ·by_cases c:b=a
  ·subst c;rw[de];exact Ql (a:=b) rO
  ·rw[ba c];exact mu b ub
 ·rcases hb.2 with z | ⟨j,_,z⟩
  ·subst z;exact sub _ b Fa
  ·exact aab _ b z
 ·cases i with
  |succ i=>simp at aw
  |zero=>
   cases aw;refine⟨.ref a,rfl, ?_⟩;refine .nd (λi b=>i < cC.length/\Fp (π i) b) (jB.put rO ⟨rfl, .inl rfl⟩ ⟨rO,oy,dx,de⟩) oz (λi j b hi hj=>inj i j hi.1 hj.1 (aac _ _ b hi.2 hj.2)) (λi b hb=>⟨⟨rfl, .inr ⟨i,hb.1,hb.2⟩⟩,λ_ z=>by subst z;exact Qo _ hb.2⟩) λi x y hx hy=> ?_;have hi:i < cC.length:=(cX.mp hx).1;have r:=aad (π i) x y (iV i x hx) (qY i y hy);refine(r.frame (H':=upd H a (ho k' dx cC)) (λb u hb q=>keep b u (λz=>by subst z;exact Qo _ hb) q) st).mono λb z=>⟨hi,z⟩
 ·have:b≠a:=λz=>by subst z;exact nu (sub _ b Fa)
  exact⟨keep b u this q,nu⟩
theorem HI:∀{p q:List Nat} {d d1 x y:D},aI d p=some d1->plain x=false->plain y=false->(∀n r,aI x (n::r)=none)->(∀n r,aI y (n::r)=none)->(aI (aZ d p x) q).isSome=(aI (aZ d p y) q).isSome
 | [], [],d,d1,x,y,g,hx,hy,zx,zy=>by rw[aZ,aZ,aI,aI];rfl
 | [],n::r,d,d1,x,y,g,hx,hy,zx,zy=>by rw[aZ,aZ,zx,zy]
 |n::p,q, .sc _,d1,x,y,g,hx,hy,zx,zy=>by rw[aI]at g;cases g
 |n::p,q, .hl _,d1,x,y,g,hx,hy,zx,zy=>by rw[aI]at g;cases g
 |n::p,q, .nd k cs,d1,x,y,g,hx,hy,zx,zy=>by
  rw[aI]at g;by_cases dM:cg k=true/\bI cs=true
  ·rw[if_pos dM]at g;cases g
  rw[if_neg dM]at g;cases hc:cs[n]? with
  |none=>rw[hc]at g;cases g
  |some c=>
   rw[hc]at g;have hn:=(cX.mp hc).1;have e1:aZ (.nd k cs) (n::p) x= .nd k (cs.set n (aZ c p x)):=by rw[aZ,hc]
   have e2:aZ (.nd k cs) (n::p) y= .nd k (cs.set n (aZ c p y)):=by rw[aZ,hc]
   rw[e1,e2];cases q with
   |nil=>rw[aI,aI];rfl
   |cons i q=>
    have px:=xZ hn (ya g hx);have py:=xZ hn (ya g hy);rw[aI,aI,if_neg (by rintro⟨_,z⟩;rw[px]at z;cases z),if_neg (by rintro⟨_,z⟩;rw[py]at z;cases z)];by_cases ci:n=i
    ·subst ci;rw[gK hn,gK hn];exact HI g hx hy zx zy
    ·rw[gq ci,gq ci]
def fV(Z:En)(r:Nat)(d0:D)(p:List Nat)(d':D):En:=(eX (Z.set r (some (.own (aZ d0 p (.hl .aG)))))).set r (some (.own (aZ d0 p d')))
theorem mU(Z:En)(r:Nat)(d0:D)(p:List Nat)(d':D):(fV Z r d0 p d').length=Z.length:=by unfold fV;rw[bN,iE,bN]
theorem rP(h:r≠s):aV (Z.set r b) s=aV Z s:=by
 unfold aV;rw[gq h]
theorem DJ(h:r < Z.length):aV (Z.set r (some (.own d))) r=some d:=by
 unfold aV;rw[gK h]
theorem Qp{i:Nat}{d:D}(h:Z[i]?=some (some (.own d))):(eX Z)[i]?=some (some (.own d)):=by
 unfold eX;rw[bJ,h];rfl
theorem aae{d:D}(h:aV Z r=some d):aV (Z++τ) r=some d:=by
 have q:=kS h;have hr:r < Z.length:=(cX.mp q).1;unfold aV;rw[aU hr,q]
theorem Qq(xY:AI τ):∀(i:Nat) (β:B),(eX Z++τ)[i]?=some (some β)->(eX (Z++τ))[i]?=some (some β):=λi β h=>by
 unfold eX at h |-;rw[cK];by_cases hi:i < Z.length
 ·rw[aU (by rw[eG];exact hi)]at h;rw[aU (by rw[eG];exact hi)];rw[bJ]at h |-;cases q:Z[i]? with
  |none=>rw[q]at h;cases h
  |some o=>
   rw[q]at h;have h:fO Z o=some β:=hV h;show some (fO (Z++τ) o)=_;cases o with
   |none=>exact congrArg some h
   |some c=>
    cases c with
    |own d=>exact congrArg some h
    |ro d=>exact congrArg some h
    |aB r p=>
     have h:(if p= []\/((aV Z r).bind (aI · p)).isSome=true then some (B.aB r p) else none)=some β:=h;show some (if p= []\/((aV (Z++τ) r).bind (aI · p)).isSome=true then some (B.aB r p) else none)=_;by_cases c:p= []\/((aV Z r).bind (aI · p)).isSome=true
     ·rw[if_pos c]at h;have c':p= []\/((aV (Z++τ) r).bind (aI · p)).isSome=true:=by
       rcases c with c | c
       ·exact .inl c
       ·cases hd:aV Z r with
        |none=>rw[hd]at c;cases c
        |some d=>rw[aae hd];rw[hd]at c;exact .inr c
      rw[if_pos c',h]
     ·rw[if_neg c]at h;cases h
 ·rw[br (by rw[eG];lia)]at h |-;rw[eG]at h |-;rw[bJ,h];cases β with
  |own d=>rfl
  |ro d=>rfl
  |aB r p=>exact absurd rfl (xY _ (jr h) r p)
theorem aaf{v:V}(hr:r < Z.length)(g:aI d0 p=some d1):∀(i:Nat) (β:B),i≠r->(eX (Z.set r (some (.own (aZ d0 p (.hl .aG))))))[i]?=some (some β)->(eX (Z.set r (some (.own (aZ d0 p (.hl v))))))[i]?=some (some β):=λi β ni h=>by
 unfold eX at h |-;rw[bJ,gq (fw ni)]at h |-;cases q:Z[i]? with
 |none=>rw[q]at h;cases h
 |some o=>
  rw[q]at h;have h:=hV h;show some (fO _ o)=_;cases o with
  |none=>exact congrArg some h
  |some c=>
   cases c with
   |own d=>exact congrArg some h
   |ro d=>exact congrArg some h
   |aB s p'=>
    have h:(if p'= []\/((aV (Z.set r (some (.own (aZ d0 p (.hl .aG))))) s).bind (aI · p')).isSome=true then some (B.aB s p') else none)=some β:=h;show some (if p'= []\/((aV (Z.set r (some (.own (aZ d0 p (.hl v))))) s).bind (aI · p')).isSome=true then some _ else none)=_;by_cases cs:r=s
    ·subst cs;rw[DJ hr]at h |-;have e:((some (aZ d0 p (.hl v))).bind (aI · p')).isSome=((some (aZ d0 p (.hl .aG))).bind (aI · p')).isSome:=HI g rfl rfl (λ_ _=>by rw[aI]) λ_ _=>by rw[aI]
     rw[e,h]
    ·rw[rP cs]at h |-;rw[h]
theorem av.edit{r:Nat}{p:List Nat}{d0:D}{k:Kd}{cs:List D}(I:av K n H U σ hv Z (τv++xs) (τd++ds))(hl:xs.length=ds.length)(hp:iH K H U (σ++hv) Z v (.rt r p))(hr:aV Z r=some d0)(hg:aI d0 p=some (.nd k cs))(hk:cg k=false):
  ∃(a dx:Addr) (vs:List V),v= .ref a/\H a=some (ho k dx vs)/\fits K k vs.length/\vs.length=cs.length/\dm K H T1 vs cs/\∀(k':Kd) (cC:List V) (fU:List D) (π:Nat->Nat),cg k'=false->fits K k' cC.length->cC.length=fU.length->
   (∀i j,i < cC.length->j < cC.length->π i=π j->i=j)->(∀(i:Nat) (x:V),cC[i]?=some x->(vs++xs)[π i]?=some x)->(∀(i:Nat) (y:D),fU[i]?=some y->(cs++ds)[π i]?=some y)->
   ∃U',av K n (upd H a (ho k' dx cC)) U' σ hv (fV Z r d0 p (.nd k' fU)) τv τd/\bH U H U' (upd H a (ho k' dx cC)):=by
 have l:=I.len;have tl:=I.tl;rw[dg,dg]at tl;obtain⟨iN,vr,Qr,er,tT,_,HJ⟩:=hp;rw[hr]at tT;cases tT;have tS:=kS hr
 -- all in one row
 have HK:bT K H U Z.length ((σ++hv++τv.map some)++xs.map some) ((Z++bU τd)++bU ds):=by
  have:=I.ok;rw[cK,cK, <- b8, <- b8]at this;exact this
 have lE:(σ++hv++τv.map some).length=(Z++bU τd).length:=by unfold bU;simp;lia
 have hm:Z.length<=(σ++hv++τv.map some).length:=by simp;lia
 have Qs:=HK.take (r:=r) (vr:=vr) (u:=v) (d:=d0) (p:=p) (by rw[dg];lia) (by rw[aU (by rw[dg];lia),aU iN];exact tS)
  (by rw[aU (by lia),aU (by simp;lia)];exact er) HJ hg
 have es:((Z++bU τd)++bU ds).set r (some (.own (aZ d0 p (.hl v))))++ [some (B.own (.nd k cs))]=(Z.set r (some (.own (aZ d0 p (.hl v))))++bU τd)++(bU ds++ [some (.own (.nd k cs))]):=by
  rw[uT _ _ (by rw[dg];lia),uT _ _ iN];simp
 rw[es,b8]at Qs;have nA:AI (bU ds++ [some (B.own (.nd k cs))]):=λb hb q p=>by
  rcases lZ.mp hb with z | z
  ·exact vO ds b z q p
  ·rw[eS.mp z];exact λw=>nomatch w
 have Qt:(σ++hv++τv.map some).length=(Z.set r (some (.own (aZ d0 p (.hl v))))++bU τd).length:=by
  rw[lE,dg,dg,bN]
 obtain⟨Ut,_,small,_,back⟩:=Qs.call Qt hm nA;obtain⟨a,dx,vs,ev,ha,hf,HL,vw,ed⟩:=small.edit hl hk;refine⟨a,dx,vs,ev,ha,hf,HL,vw,λk' cC fU π rO oy oz inj iV qY=> ?_⟩;obtain⟨aag,aah⟩:=ed k' cC fU π rO oy oz inj iV qY;obtain⟨U',HM,dJ⟩:=back _ Ut [some v] [some (.own (.nd k' fU))] aag aah λb hb=>by rw[eS.mp hb];exact .inr ⟨_,rfl⟩
 refine⟨U',⟨?_,by rw[mU];exact l,I.nn⟩,dJ⟩;have aai:r < (Z.set r (some (.own (aZ d0 p (.hl v))))).length:=by rw[bN];exact iN
 have gh:aI (aZ d0 p (.hl v)) p=some (.hl v):=HC hg rfl;have DK:=HM.put (r:=r) (d0:=aZ d0 p (.hl v)) (u:=v) (p:=p) (d1:= .nd k' fU) (by rw[iE];exact Qt) hm (by
  refine Qp ?_;rw[aU aai,gK iN]) gh
 rw[HD hg]at DK;rw[mU];refine DK.weaken (by rw[dg,mU,bN,iE,dg,bN];unfold bU;rfl) λi β aw=> ?_;by_cases ci:r=i
 ·subst ci;rw[aU (by rw[mU];exact iN)]at aw;unfold fV at aw;rw[gK (by rw[iE,bN];exact iN)]at aw;rw[gK (by rw[iE,dg,bN];lia)];exact aw
 ·rw[gq ci];refine Qq (vO τd) i β ?_;by_cases hi:i < Z.length
  ·rw[aU (by rw[mU];exact hi)]at aw;rw[aU (by rw[iE,bN];exact hi)];unfold fV at aw;rw[gq ci]at aw;exact aaf iN hg i β (λz=>ci z.symm) aw
  ·rw[br (by rw[mU];lia),mU]at aw;rw[br (by rw[iE,bN];lia),iE,bN];exact aw
end
section
theorem av.bound(I:av K n H U σ hv Z (τv++ [v]) (τd++ [d]))(hi:i < n)(xY:τv= []/\τd= []\/True):av K n H U (σ.set i (some v)) hv ((eI i Z).set i (some (.own d))) τv τd:=by
 have l:=I.len;have nn:=I.nn;have tl:=I.tl;rw[dg,dg]at tl;have tl:τv.length=τd.length:=by simp at tl;lia
 refine⟨?_,by rw[bN,bN,jZ];exact l,by rw[bN];exact nn⟩;have ok:=I.ok;rw[cK,cK, <- b8, <- b8]at ok;have k:=ok.set (i:=i) (by simp;lia) (by simp;lia) (by simp;lia);have e1:(σ++hv++τv.map some).set i (some v)=σ.set i (some v)++hv++τv.map some:=by
  rw[uT _ _ (by simp;lia),uT _ _ (by lia)]
 rw[e1]at k;have lu:((eI i Z).set i (some (B.own d))).length=Z.length:=by rw[bN,jZ]
 rw[lu];refine k.weaken (by simp[jZ]) λj β aw=> ?_;by_cases hj:j < Z.length
 ·rw[aU (by rw[lu];exact hj)]at aw;by_cases c:i=j
  ·subst c;rw[gK (by rw[jZ];exact hj)]at aw;rw[gK (by rw[jZ];simp;lia)];exact aw
  ·rw[gq c]at aw |-;unfold eI at aw |-;rw[cK,aU (by simpa using hj)];exact aw
 ·rw[br (by rw[lu];lia),lu]at aw;rw[gq (by lia)];unfold eI;rw[cK,br (by simp;lia),eG,bJ];have:(τd.map λd=>some (B.own d))[j - Z.length]?=some _:=aw;rw[this];rw[bJ]at this;cases q:τd[j - Z.length]? with
  |none=>rw[q]at this;cases this
  |some x=>rw[q]at this;cases this;rfl
theorem av.named(I:av K n H U σ hv Z τv τd)(hi:i < n)(hb:match β with | .own _=>False | .ro d=>Vw K H (λb=>¬ U b) v d | .aB r p=>r < Z.length/\r≠i/\∃vr,(σ++hv)[r]?=some (some vr)/\gU H vr p v):
  av K n H U (σ.set i (some v)) hv ((eI i Z).set i (some β)) τv τd:=by
 have l:=I.len;have nn:=I.nn;have tl:=I.tl;refine⟨?_,by rw[bN,bN,jZ];exact l,by rw[bN];exact nn⟩;have k:=I.ok.bind (i:=i) (β:=β) (v:=v) (by simp;lia) (by
  cases β with
  |own d=>exact hb
  |ro d=>exact hb
  |aB r p=>
   obtain⟨h1,h2,vr,h3,h4⟩:=hb;exact⟨h1,h2,vr,by rw[aU (by simp;lia)];exact h3,h4⟩)
 have e1:(σ++hv++τv.map some).set i (some v)=σ.set i (some v)++hv++τv.map some:=by
  rw[uT _ _ (by simp;lia),uT _ _ (by lia)]
 rw[e1]at k;have lu:((eI i Z).set i (some β)).length=Z.length:=by rw[bN,jZ]
 rw[lu];refine k.weaken (by simp[jZ]) λj γ cH=> ?_;by_cases hj:j < Z.length
 ·rw[aU (by rw[lu];exact hj)]at cH;by_cases c:i=j
  ·subst c;rw[gK (by rw[jZ];exact hj)]at cH;rw[gK (by rw[jZ];simp;lia)];exact cH
  ·rw[gq c]at cH |-;unfold eI at cH |-;rw[cK,aU (by simpa using hj)];exact cH
 ·rw[br (by rw[lu];lia),lu]at cH;rw[gq (by lia)];unfold eI;rw[cK,br (by simp;lia),eG,bJ];have:(τd.map λd=>some (B.own d))[j - Z.length]?=some _:=cH;rw[this];rw[bJ]at this;cases q:τd[j - Z.length]? with
  |none=>rw[q]at this;cases this
  |some x=>rw[q]at this;cases this;rfl
theorem av.moved(I:av K n H U σ hv Z τv τd)(hi:i < n)(h:Z[i]?=some (some (.own d))):∃v,σ[i]?=some (some v)/\av K n H U σ hv (Z.set i none) (τv++ [v]) (τd++ [d]):=by
 have l:=I.len;have nn:=I.nn;have HN:=(cX.mp h).1;obtain⟨v,F,ev,_,_⟩:=I.slot h;rw[I.name hi]at ev;refine⟨v,ev, ?_,by rw[bN];exact l,nn⟩;have HP:(Z++τd.map λd=>some (B.own d))[i]?=some (some (.own d)):=by rw[aU HN];exact h
 have al4:(σ++hv++τv.map some)[i]?=some (some v):=by rw[aU (by simp;lia),aU (by lia)];exact ev
 have k:=I.ok.take (by simp;lia) HP al4 (.nil v) rfl;rw[bN,cK,cK, <- b8, <- b8];refine k.weaken (by simp;lia) λj β aw=> ?_;rw[uT _ _ HN];by_cases hj:j < Z.length
 ·rw[b8,aU (by simpa using hj)]at aw |-;by_cases c:i=j
  ·subst c;rw[gK HN]at aw;cases aw
  ·rw[gq c]at aw |-;exact aw
 ·rw[b8,br (by simp;lia)]at aw |-;rw[bN]at aw |-;exact aw
def kr(i:Nat)(Z:En):Option (D×En):=(af i Z).bind λd=>if plain d=true then some (d,Z) else match Z[i]? with
 |some (some (.own d'))=>some (d',Z.set i none)
 |_=>none
instance (priority:=400) aaj{i:Nat}[L:jC i n]:SM K n (f9 i) (kr i):=⟨λ{σ hv H U Z ρ' τv τd d Q} I h k=>by
 obtain⟨d1,h1,h2⟩:=ak.mp h;by_cases p:plain d1=true
 ·rw[if_pos p]at h2;cases h2;refine(Z5).s I h1 λv H' s w=> ?_;obtain⟨U',I',st⟩:=I.push s (cA.plain w p);exact k v H' U' I' st
 ·rw[if_neg p]at h2
  split at h2
  ·next d' e1=>
   cases h2;obtain⟨v,ev,I'⟩:=I.moved L.h e1;exact⟨v,ev,k v H U I' (bH.refl U H)⟩
  ·cases h2⟩
instance ajl:SS K n xt (λZ=>some (.nx Z)):=⟨λI h k=>by cases h;exact k _ _ _ I (bH.refl _ _)⟩
instance aw1:SS K n aoz (λ_=>none):=⟨λI h k=>by cases h⟩
noncomputable def rQ (u:En->Option Fl):Fl->Option Fl
 |.nx Z=>u Z
 |fl=>some fl
def fA(t u:En->Option Fl)(Z:En):Option Fl:=(t Z).bind (rQ u)
theorem qu.step(h:qu K n H U hv τv τd E fl)(st:bH U H U' H'):qu K n H' U' hv τv τd E fl:=by
 cases fl with
 |nx Z=>exact λσ H2 U2 I s=>h σ H2 U2 I (st.trans s)
 |rt d Z=>exact λv σ H2 U2 I s=>h v σ H2 U2 I (st.trans s)
 |bk Z=>exact λσ H2 U2 I s=>h σ H2 U2 I (st.trans s)
 |ct Z=>exact λσ H2 U2 I s=>h σ H2 U2 I (st.trans s)
instance ajm[A:SS K n t ft][B':SS K n u fu]:SS K n (sX t u) (fA ft fu):=⟨λ{σ hv H U Z τv τd fl E} I h k=>by
 obtain⟨f1,h1,h2⟩:=ak.mp h;refine A.s I h1 ?_;cases f1 with
 |nx ρ1=>exact λsZ H1 U1 I1 bQ=>B'.s I1 h2 (k.step bQ)
 |rt d ρ1=>cases h2;exact k
 |bk ρ1=>cases h2;exact k
 |ct ρ1=>cases h2;exact k⟩
noncomputable def gv (c:En->Option (Bool×En)) (t u:En->Option Fl) (Z:En):Option Fl:=(c Z).bind λb=>if b.1=true then t b.2 else u b.2
instance ajn[C:ST K n c fc][A:SS K n t ft][B':SS K n u fu]:SS K n (xu c t u) (gv fc ft fu):=⟨λ{σ hv H U Z τv τd fl E} I h k=>by
 obtain⟨⟨b,ρ1⟩,h1,h2⟩:=ak.mp h;refine C.s I h1 λH1 U1 I1 bQ=> ?_;cases b with
 |true=>rw[if_pos rfl];exact A.s I1 h2 (k.step bQ)
 |false=>rw[if_neg df];exact B'.s I1 h2 (k.step bQ)⟩
noncomputable def jg (f:En->Option (D×En)) (Z:En):Option Fl:=(f Z).map λr=> .rt r.1 r.2
instance aak[A:SM K n te fe]:SS K n (qi te) (jg fe):=⟨λ{σ hv H U Z τv τd fl E} I h k=>by
 obtain⟨⟨d,ρ1⟩,h1,h2⟩:=aY.mp h;cases h2;exact A.s I h1 λv H1 U1 I1 bQ=>k v σ H1 U1 I1 bQ⟩
instance aw2:SS K n arE (λZ=>some (.rt (.sc .aG) Z)):=⟨λ{σ hv H U Z τv τd fl E} I h k=>by
 cases h;obtain⟨U',I',st⟩:=I.push (aJ.refl H) (cA.sc (K:=K) .aG);exact k .aG σ H U' I' st⟩
noncomputable def ik (f:En->Option (D×En)) (Z:En):Option Fl:=(f Z).map λr=> .nx r.2
instance ajo[A:SM K n te fe]:SS K n (F9 te) (ik fe):=⟨λ{σ hv H U Z τv τd fl E} I h k=>by
 obtain⟨⟨d,ρ1⟩,h1,h2⟩:=aY.mp h;cases h2;exact A.s I h1 λv H1 U1 I1 bQ=>k σ H1 U1 I1.qw bQ⟩
def bq(i:Nat)(β:B)(Z:En):En:=(eI i Z).set i (some β)
def dU(i:Nat)(f:En->Option (D×En))(Z:En):Option Fl:=(f Z).map λr=> .nx (bq i (.own r.1) r.2)
instance (priority:=100) ajp{i:Nat}{te:TE}{fe:En->Option (D×En)}[L:jC i n][A:SM K n te fe]:SS K n (vh te (lB i)) (dU i fe):=⟨λ{σ hv H U Z τv τd fl E} I h k=>by
 obtain⟨⟨d,ρ1⟩,h1,h2⟩:=aY.mp h;cases h2;exact A.s I h1 λv H1 U1 I1 bQ=>k _ H1 U1 (I1.bound L.h (.inr trivial)) bQ⟩
instance ajr[A:SV K n t f]:kq K n (tB t) (λZ=>(f Z).bind fun | .sc (.bl b)=>some b | _=>none):=⟨λ{σ hv H U Z τv τd b Q} I h k=>by
 obtain⟨d,h1,h2⟩:=ak.mp h;refine A.s I h1 λv H1 s1 w1=> ?_
 split at h2
 ·cases h2;exact⟨b,w1.bA,k H1 s1⟩
 ·cases h2⟩
instance ajs[A:SV K n t f]:kq K n (ahc t) (λZ=>(f Z).bind fun | .sc (.bl b)=>some b | _=>none):=⟨λ{σ hv H U Z τv τd b Q} I h k=>by
 obtain⟨d,h1,h2⟩:=ak.mp h;refine A.s I h1 λv H1 s1 w1=> ?_
 split at h2
 ·cases h2;exact⟨b,w1.bA,k H1 s1⟩
 ·cases h2⟩
noncomputable def ku (f:En->Option (D×En)) (Z:En):Option (Bool×En):=(f Z).bind λr=>match r.1 with
 |.sc (.bl b)=>some (b,r.2)
 |_=>none
instance (priority:=50) ajt{t:TE}{f:En->Option (D×En)}[A:SM K n t f]:ST K n (tB t) (ku f):=⟨λ{σ hv H U Z ρ' τv τd b Q} I h k=>by
 obtain⟨⟨d,ρ1⟩,h1,h2⟩:=ak.mp h;refine A.s I h1 λv H1 U1 I1 bQ=> ?_
 split at h2
 ·next b' e=>
  subst e;cases h2;exact⟨b,I1.last.bA,k H1 U1 I1.qw bQ⟩
 ·cases h2⟩
instance (priority:=50) aju{t:TE}{f:En->Option (D×En)}[A:SM K n t f]:ST K n (ahc t) (ku f):=⟨λ{σ hv H U Z ρ' τv τd b Q} I h k=>by
 obtain⟨⟨d,ρ1⟩,h1,h2⟩:=ak.mp h;refine A.s I h1 λv H1 U1 I1 bQ=> ?_
 split at h2
 ·next b' e=>
  subst e;cases h2;exact⟨b,I1.last.bA,k H1 U1 I1.qw bQ⟩
 ·cases h2⟩
noncomputable def lN (a b:En->Option Bool) (Z:En):Option Bool:=(a Z).bind λx=>if x=true then b Z else some false
noncomputable def mV (a b:En->Option Bool) (Z:En):Option Bool:=(a Z).bind λx=>if x=true then some true else b Z
instance ajv[A:kq K n t f][B':kq K n u g]:kq K n (F3 t u) (lN f g):=⟨λ{σ hv H U Z τv τd b Q} I h k=>by
 obtain⟨x,h1,h2⟩:=ak.mp h;refine A.s I h1 λH1 s1=> ?_;cases x with
 |true=>rw[if_pos rfl];exact B'.s (I.same s1) h2 λH2 s2=>k H2 (s1.trans s2)
 |false=>cases h2;rw[if_neg df];exact k H1 s1⟩
instance ajw[A:kq K n t f][B':kq K n u g]:kq K n (F4 t u) (mV f g):=⟨λ{σ hv H U Z τv τd b Q} I h k=>by
 obtain⟨x,h1,h2⟩:=ak.mp h;refine A.s I h1 λH1 s1=> ?_;cases x with
 |true=>cases h2;rw[if_pos rfl];exact k H1 s1
 |false=>rw[if_neg df];exact B'.s (I.same s1) h2 λH2 s2=>k H2 (s1.trans s2)⟩
instance ajx[A:kq K n t f]:kq K n (F5 t) (λZ=>(f Z).map (!·)):=⟨λ{σ hv H U Z τv τd b Q} I h k=>by
 obtain⟨x,h1,h2⟩:=aY.mp h;cases h2;exact A.s I h1 λH1 s1=>k H1 s1⟩
noncomputable def orM (a b:En->Option (Bool×En)) (Z:En):Option (Bool×En):=(a Z).bind λx=>if x.1=true then some (true,x.2) else b x.2
instance (priority:=50) aw3{t u:TT}{f g:En->Option (Bool×En)}[A:ST K n t f][B':ST K n u g]:ST K n (F4 t u) (orM f g):=⟨λ{σ hv H U Z ρ' τv τd b Q} I h k=>by
 obtain⟨⟨x,ρ1⟩,h1,h2⟩:=ak.mp h;refine A.s I h1 λH1 U1 I1 s1=> ?_;cases x with
 |true=>cases h2;rw[if_pos rfl];exact k H1 U1 I1 s1
 |false=>rw[if_neg df];exact B'.s I1 h2 λH2 U2 I2 s2=>k H2 U2 I2 (s1.trans s2)⟩
instance (priority:=50) ajz{t:TT}{f:En->Option (Bool×En)}[A:ST K n t f]:ST K n (F5 t) (λZ=>(f Z).map λr=>(!r.1,r.2)):=⟨λ{σ hv H U Z ρ' τv τd b Q} I h k=>by
 obtain⟨⟨x,ρ1⟩,h1,h2⟩:=aY.mp h;cases h2;exact A.s I h1 λH1 U1 I1 s1=>k H1 U1 I1 s1⟩
instance ajA[A:SV K n ta fa][B':SV K n tb fb]:SV K n (xr ta tb) (λZ=>(fa Z).bind fun | .sc (.bl true)=>fb Z | .sc (.bl false)=>some (.sc (.bl false)) | _=>none):=⟨λ{σ hv H U Z τv τd d Q} I h k=>by
 obtain⟨x,h1,h2⟩:=ak.mp h;refine A.s I h1 λv H1 s1 w1=> ?_
 split at h2
 ·exact⟨true,w1.bA,by rw[if_pos rfl];exact B'.s (I.same s1) h2 λv H2 s2 w=>k v H2 (s1.trans s2) w⟩
 ·cases h2;exact⟨false,w1.bA,by rw[if_neg df];exact k _ H1 s1 (.sc _)⟩
 ·cases h2⟩
instance ajC[A:SV K n ta fa]:SV K n (F8 ta) (λZ=>(fa Z).bind fun | .sc (.bl b)=>some (.sc (.bl (!b))) | _=>none):=⟨λ{σ hv H U Z τv τd d Q} I h k=>by
 obtain⟨x,h1,h2⟩:=ak.mp h;refine A.s I h1 λv H1 s1 w1=> ?_
 split at h2
 ·next b=>cases h2;exact⟨b,w1.bA,k _ H1 s1 (.sc _)⟩
 ·cases h2⟩
noncomputable def oA (c:En->Option Bool) (a b:En->Option D) (Z:En):Option D:=(c Z).bind λx=>if x=true then a Z else b Z
instance aw4[C:kq K n c fc][A:SV K n ta fa][B':SV K n tb fb]:SV K n (Oi c ta tb) (oA fc fa fb):=⟨λ{σ hv H U Z τv τd d Q} I h k=>by
 obtain⟨x,h1,h2⟩:=ak.mp h;refine C.s I h1 λH1 s1=> ?_;cases x with
 |true=>rw[if_pos rfl];exact A.s (I.same s1) h2 λv H2 s2 w=>k v H2 (s1.trans s2) w
 |false=>rw[if_neg df];exact B'.s (I.same s1) h2 λv H2 s2 w=>k v H2 (s1.trans s2) w⟩
end
noncomputable def iI (f:Str):List Str->Option Nat
 | []=>none
 |g::r=>if f == g then some 0 else(iI f r).map (· + 1)
theorem DL:∀{ns:List Str} {vs:List V} {i:Nat},iI f ns=some i->ns.length=vs.length->(ns.zip vs).lookup f=vs[i]?
 | [],_,_,h,_=>by cases h
 |g::r, [],_,_,h=>by cases h
 |g::r,v::vs,i,h,hl=>by
  rw[iI]at h;rw[nV,nR];by_cases c:(f == g)=true
  ·rw[if_pos c]at h;cases h;rw[c];rfl
  ·rw[if_neg c]at h;obtain⟨j,h1,h2⟩:=aY.mp h;subst h2;rw[awJ]at c;rw[c];exact DL h1 (eF hl)
theorem HQ:∀{ns:List Str} {i:Nat},iI f ns=some i->i < ns.length
 | [],_,h=>by cases h
 |g::r,i,h=>by
  rw[iI]at h;by_cases c:(f == g)=true
  ·rw[if_pos c]at h;cases h;exact V3 _
  ·rw[if_neg c]at h;obtain⟨j,h1,h2⟩:=aY.mp h;subst h2;exact V4 (HQ h1)
theorem AO:∀{ns:List Str} {i:Nat},iI f ns=some i->f∈ns
 | [],_,h=>by cases h
 |g::r,i,h=>by
  rw[iI]at h;by_cases c:(f == g)=true
  ·have:f=g:=by simpa using c
   rw[this];exact .head _
  ·rw[if_neg c]at h;obtain⟨j,h1,_⟩:=aY.mp h;exact .tail _ (AO h1)
theorem HR:∀{ns:List Str} {vs:List V} {i:Nat},iI f ns=some i->ns.length=vs.length->iW f y (ns.zip vs)=ns.zip (vs.set i y)
 | [],_,_,h,_=>by cases h
 |g::r, [],_,_,h=>by cases h
 |g::r,v::vs,i,h,hl=>by
  rw[iI]at h;rw[nV,iW];by_cases c:(f == g)=true
  ·have e:g=f:=by have:f=g:=(by simpa using c);exact this.symm
   rw[if_pos c]at h;cases h;rw[if_pos e];rfl
  ·have ne:¬ g=f:=λz=>c (by rw[z];simp);rw[if_neg c]at h;obtain⟨j,h1,h2⟩:=aY.mp h;subst h2;rw[if_neg ne,HR h1 (eF hl)];rfl
theorem Qu:∀{ns:List Str} {vs:List V},iI f ns=none->ns.length=vs.length->iW f y (ns.zip vs)=(ns++ [f]).zip (vs++ [y])
 | [], [],_,_=>rfl
 | [],_::_,_,h=>by cases h
 |g::r, [],_,h=>by cases h
 |g::r,v::vs,h,hl=>by
  rw[iI]at h;rw[nV,iW];by_cases c:(f == g)=true
  ·rw[if_pos c]at h;cases h
  ·have ne:¬ g=f:=λz=>c (by rw[z];simp);rw[if_neg c]at h;rw[if_neg ne,Qu (awK.mp h) (eF hl)];rfl
section
def oB(f:Str):D->Option Nat
 |.nd (.obj _ ns) _=>iI f ns
 |_=>none
noncomputable def jh:D->Nat->Option D
 |.nd _ cs,i=>cs[i]?
 |_,_=>none
def ji(f:Str)(d:D):Option D:=(oB f d).bind (jh d)
instance ajD[A:SV K n ta fa]:SV K n (Ag K ta f) (λZ=>(fa Z).bind (ji f)):=⟨λ{σ hv H U Z τv τd d Q} I h k=>by
 obtain⟨x,h1,h2⟩:=ak.mp h;obtain⟨i,h3,h4⟩:=ak.mp h2;refine A.s I h1 λv H1 s1 w1=> ?_;unfold oB at h3
 split at h3
 ·next C ns cs=>
  obtain⟨a,vs,rfl,_,⟨⟨hl,hC,hA⟩,dx,hc⟩,rC,bB⟩:=w1.node;have h4:cs[i]?=some d:=h4;obtain⟨u,hu⟩:=pL rC h4;exact⟨a,C,dx,_,u,rfl,hc,hC,hA f (AO h3),(DL h3 hl).trans hu,k u H1 s1 (bB i u d hu h4)⟩
 ·cases h3⟩
def oC(Z:En)(q:Pl)(i:Nat):Option Pl:=(gi Z q).bind λd=>(jh d i).bind λc=>match q with
 |.rt r p=>if plain d=true then some (.ro c) else some (.rt r (p++ [i]))
 |.ro _=>some (.ro c)
theorem Qv:∀{p:List Nat} {d d1:D} {i:Nat},aI d p=some d1->aI d (p++ [i])=aI d1 [i]
 | [],d,d1,i,g=>by cases g;rfl
 |n::p, .sc _,d1,i,g=>by rw[aI]at g;cases g
 |n::p, .hl _,d1,i,g=>by rw[aI]at g;cases g
 |n::p, .nd k cs,d1,i,g=>by
  rw[aI]at g;rw[zr,aI];by_cases dM:cg k=true/\bI cs=true
  ·rw[if_pos dM]at g;cases g
  rw[if_neg dM]at g |-;cases hc:cs[n]? with
  |none=>rw[hc]at g;cases g
  |some c=>rw[hc]at g;exact Qv g
theorem gU.app(h:gU H v p u)(h2:gU H u q w):gU H v (p++q) w:=by
 induction h with
 |nil=>exact h2
 |cons e1 e2 _ ih=>exact .cons e1 e2 (ih h2)
theorem HS(h:¬ plain (.nd k cs)=true):¬ (cg k=true/\bI cs=true):=λ⟨a,b⟩=>by
 cases k with
 |tup=>exact h b
 |dA=>exact h b
 |_=>cases a
theorem av.bB(I:av K n H U σ hv Z τv τd)(h:iH K H U (σ++hv) Z v q)(hq:oC Z q i=some q'):
  ∃(a:Addr) (k:Kd) (vs:List V) (cs:List D) (u:V) (c:D),v= .ref a/\gi Z q=some (.nd k cs)/\iT K H a k vs/\vs.length=cs.length/\vs[i]?=some u/\cs[i]?=some c/\iH K H U (σ++hv) Z u q'/\gi Z q'=some c:=by
 obtain⟨d,h1,h2⟩:=ak.mp hq;obtain⟨c,h3,h4⟩:=ak.mp h2;cases d with
 |sc _=>cases h3
 |hl _=>cases h3
 |nd k cs=>
  have h3:cs[i]?=some c:=h3;cases q with
  |ro d'=>
   cases h4;cases h1;obtain⟨a,vs,rfl,_,hc,hl,bB⟩:=Vw.node (show Vw K H (λb=>¬ U b) v (.nd k cs) from h);obtain⟨u,hu⟩:=pL hl h3;exact⟨a,k,vs,cs,u,c,rfl,rfl,hc,hl,hu,h3,bB i u c hu h3,rfl⟩
  |rt r p=>
   have h4:(if plain (.nd k cs)=true then some (Pl.ro c) else some (.rt r (p++ [i])))=some q':=h4;by_cases pd:plain (.nd k cs)=true
   ·rw[if_pos pd]at h4;cases h4;obtain⟨a,vs,rfl,_,hc,hl,bB⟩:=(I.at h h1).node;obtain⟨u,hu⟩:=pL hl h3;have pc:plain c=true:=by
     cases k with
     |tup=>exact xW pd h3
     |dA=>exact xW pd h3
     |_=>cases pd
    exact⟨a,k,vs,cs,u,c,rfl,h1,hc,hl,hu,h3,((bB i u c hu h3).plain pc).view λ_ z=>z.elim,rfl⟩
   ·rw[if_neg pd]at h4;cases h4;obtain⟨hr,vr,d0,er,rR,hg,hp⟩:=h;have AQ:(aV Z r).bind (aI · p)=some (.nd k cs):=h1;rw[rR]at AQ;have AQ:aI d0 p=some (.nd k cs):=AQ;have g2:aI d0 (p++ [i])=some c:=by
     rw[Qv AQ,aI,if_neg (HS pd),h3];rfl
    obtain⟨aal,F,ev,_,rp⟩:=I.AM rR;rw[er]at ev;cases ev;obtain⟨F1,_,r1,_⟩:=rp.focus hp AQ;obtain⟨a,vs,rfl,ho,hl,Fs,_,_,bB⟩:=r1.node;obtain⟨u,hu⟩:=pL hl h3;have aam:∃o,H a=some o:=by
     cases k with
     |tup=>exact⟨_,ho⟩
     |dA=>exact absurd ⟨rfl,ho.1⟩ (HS pd)
     |_=>obtain⟨_,_,_,dx,x⟩:=ho;exact⟨_,x⟩
    obtain⟨o,eo⟩:=aam;have G0:gU H vr (p++ [i]) u:=hp.app (.cons eo (by rw[ho.kids (HS pd) eo];exact hu) (.nil u));exact⟨a,k,vs,cs,u,c,rfl,h1,ho.cell,hl,hu,h3,⟨hr,vr,d0,er,rR,by rw[g2];rfl,G0⟩,by show(aV Z r).bind (aI · (p++ [i]))=some c;rw[rR];exact g2⟩
def iZ(f:Str)(fa:En->Option Pl)(Z:En):Option Pl:=(fa Z).bind λq=>(gi Z q).bind λd=>(oB f d).bind (oC Z q)
instance ajE[A:SP K n ta fa]:SP K n (Ag K ta f) (iZ f fa):=⟨λ{σ hv H U Z τv τd q' Q} I h k=>by
 obtain⟨q,h1,h⟩:=ak.mp h;obtain⟨d,h2,h⟩:=ak.mp h;obtain⟨i,h3,h4⟩:=ak.mp h;refine A.s I h1 λv H1 s1 w1=> ?_;obtain⟨a,kk,vs,cs,u,c,rfl,e1,hc,hl,hu,h5,ok,_⟩:=(I.same s1).bB w1 h4;rw[h2]at e1;cases e1;unfold oB at h3
 split at h3
 ·next C ns fU e=>
  cases e;obtain⟨⟨rC,hC,hA⟩,dx,hc⟩:=hc;exact⟨a,C,dx,_,u,rfl,hc,hC,hA f (AO h3),(DL h3 rC).trans hu,k u H1 s1 ok⟩
 ·cases h3⟩
def mq(d i:D):Option Nat:=match d,i with
 |.nd .tup cs, .sc (.int j)=>gC cs.length j
 |.nd .lst cs, .sc (.int j)=>gC cs.length j
 |.nd .dA cs, .sc (.int j)=>gC cs.length j
 |_,_=>none
class tU(K:ah)(r:R2)(g:outParam (D->D->Option Nat))(gs:outParam (V->D->Option V)):Prop where
 t:∀{H:Hp} {x y w:V} {dy:D} {Q:VK},Vw K H T1 y dy->gs x dy=some w->Q w H->r x y H Q
 s:∀{H:Hp} {a:Addr} {k:Kd} {vs:List V} {cs:List D} {y u:V} {dy:D} {i:Nat} {Q:VK},iT K H a k vs->vs.length=cs.length->Vw K H T1 y dy->g (.nd k cs) dy=some i->vs[i]?=some u->Q u H->r (.ref a) y H Q
def aW(g:D->D->Option Nat)(gs:V->D->Option V)(a b:D):Option D:=match a with
 |.sc x=>(gs x b).map .sc
 |a=>(g a b).bind (jh a)
instance (priority:=900) ajF{r:R2}{ta tb:TE}{fa fb:En->Option D}{g:D->D->Option Nat}{gs:V->D->Option V}[A:SV K n ta fa][B':SV K n tb fb][O:tU K r g gs]:SV K n (ig r ta tb) (au (aW g gs) fa fb):=⟨λ{σ hv H U Z τv τd d Q} I h k=>by
 obtain⟨a,ha,h⟩:=ak.mp h;obtain⟨b,hb,h⟩:=ak.mp h;refine A.s I ha λx H1 s1 w1=> ?_;refine B'.s (I.same s1) hb λy H2 s2 w2=> ?_;cases a with
 |sc z=>
  obtain⟨w,h1,h2⟩:=aY.mp h;subst h2;rw[w1.bA];exact O.t w2 h1 (k w H2 (s1.trans s2) (.sc w))
 |hl _=>
  obtain⟨i,hi,h⟩:=ak.mp h;cases h
 |nd kk cs=>
  obtain⟨i,hi,h⟩:=ak.mp h;have h:cs[i]?=some d:=h;obtain⟨a,vs,rfl,_,hc,hl,bB⟩:=(w1.same s2).node;obtain⟨u,hu⟩:=pL hl h;exact O.s hc hl w2 hi hu (k u H2 (s1.trans s2) (bB i u d hu h))⟩
def dF(g:D->D->Option Nat)(fa:En->Option Pl)(fb:En->Option D)(Z:En):Option Pl:=(fa Z).bind λq=>(fb Z).bind λb=>(gi Z q).bind λd=>(g d b).bind (oC Z q)
theorem iH.same(h:iH K H U e Z v q)(s:aJ H H'):iH K H' U e Z v q:=by
 cases q with
 |ro d=>exact Vw.same h s
 |rt r p=>
  obtain⟨a,vr,d,b,c,e,f⟩:=h;exact⟨a,vr,d,b,c,e,f.same s⟩
instance ajG[A:SP K n ta fa][B':SV K n tb fb][O:tU K r g gs]:SP K n (ig r ta tb) (dF g fa fb):=⟨λ{σ hv H U Z τv τd q' Q} I h k=>by
 obtain⟨q,ha,h⟩:=ak.mp h;obtain⟨b,hb,h⟩:=ak.mp h;obtain⟨d,hd,h⟩:=ak.mp h;obtain⟨i,hi,h⟩:=ak.mp h;refine A.s I ha λx H1 s1 w1=> ?_;refine B'.s (I.same s1) hb λy H2 s2 w2=> ?_;obtain⟨a,kk,vs,cs,u,c,rfl,e1,hc,hl,hu,h5,ok,_⟩:=((I.same s1).same s2).bB (w1.same s2) h;rw[hd]at e1;cases e1;exact O.s hc hl w2 hi hu (k u H2 (s1.trans s2) ok)⟩
def aN(x:V)(i:D):Option V:=match x,i with
 |.str z, .sc (.int j)=>if z.length<=aM then(va z.cps.toList j).map λc=> .str ⟨#[c]⟩ else none
 |_,_=>none
theorem aan(h:gC m j=some i):i < m:=by
 unfold gC at h
 split at h
 ·split at h
  ·cases h;lia
  ·cases h
 ·split at h
  ·cases h;lia
  ·cases h
instance Qw:tU K (GI K) mq aN where
 t:=λ{H x y w dy Q} w2 h q=>by
  unfold aN at h
  split at h
  ·next z j=>
   by_cases c:z.length<=aM
   ·rw[if_pos c]at h;obtain⟨ch,h1,h2⟩:=aY.mp h;subst h2;rw[w2.bA];exact .inr (.inr ⟨z,j,ch,rfl,rfl,c,h1,q⟩)
   ·rw[if_neg c]at h;cases h
  ·cases h
 s:=λ{H a k vs cs y u dy i Q} hc hl w2 h hu q=>by
  unfold mq at h;have at_:∀j,gC cs.length j=some i->va vs j=some u:=λj e=>by
   unfold va;rw[hl,e];exact hu
  split at h
  ·next fU j e=>
   cases e;rw[w2.bA];exact .inr (.inl ⟨a,vs,j,u,rfl,rfl,cE.of hc.2,at_ j h,q⟩)
  ·next fU j e=>
   cases e;rw[w2.bA];exact .inl ⟨a,vs,j,u,rfl,rfl, .inl (.inl hc.2),at_ j h,q⟩
  ·next fU j e=>
   cases e;rw[w2.bA];exact .inl ⟨a,vs,j,u,rfl,rfl,hc.2.sq,at_ j h,q⟩
  ·cases h
class SQ(K:ah)(n:Nat)(t:TE)(f:outParam (En->Option D)):Prop where
 o:∀{σ hv:List (Option V)} {H:Hp} {U:Addr->Prop} {Z:En} {τv:List V} {τd:List D} {d:D} {Q:VK},av K n H U σ hv Z τv τd->f Z=some d->(∀v H',aJ H H'->cA K H H' v d->Q v H')->t σ H Q
theorem SQ.s[S:SQ K n t f](I:av K n H U σ hv Z τv τd)(h:f Z=some d)(k:∀v H' U',av K n H' U' σ hv Z (τv++ [v]) (τd++ [d])->bH U H U' H'->aJ H H'->Q v H'):t σ H Q:=
 S.o I h λv H' s o=>by
  obtain⟨U',I',st⟩:=I.push s o;exact k v H' U' I' st s
instance (priority:=200) ajH{t:TE}{f:En->Option D}[S:SF K n t f]:SQ K n t f:=⟨λI h k=>S.s I h k⟩
def gJ(f:En->Option D)(Z:En):Option D:=(f Z).bind λd=>if plain d=true then some d else none
instance (priority:=100) ajI{t:TE}{f:En->Option D}[S:SV K n t f]:SQ K n t (gJ f):=⟨λ{σ hv H U Z τv τd d Q} I h k=>by
 obtain⟨d',h1,h2⟩:=ak.mp h;by_cases p:plain d'=true
 ·rw[if_pos p]at h2;cases h2;exact S.s I h1 λv H' s w=>k v H' s (cA.plain w p)
 ·rw[if_neg p]at h2;cases h2⟩
def eM(Z:En)(r:Nat)(p:List Nat):Option (D×Kd×List D):=(aV Z r).bind λd0=>(aI d0 p).bind λ
 |.nd k cs=>some (d0,k,cs)
 |_=>none
theorem qx(h:eM Z r p=some (d0,k,cs)):aV Z r=some d0/\aI d0 p=some (.nd k cs):=by
 obtain⟨x,h1,h2⟩:=ak.mp h;obtain⟨y,h3,h4⟩:=ak.mp h2;cases y with
 |sc _=>cases h4
 |hl _=>cases h4
 |nd k' fU=>cases h4;exact⟨h1,h3⟩
open Classical in
noncomputable def oE (K:ah) (f:Str) (k:Kd) (cs:List D) (d:D):Option D:=match k with
 |.obj C ns=>if cs.length < 1000 then(match iI f ns with
  |some i=>some (.nd (.obj C ns) (cs.set i d))
  |none=>if mf K C f then some (.nd (.obj C (ns++ [f])) (cs++ [d])) else none) else none
 |_=>none
def l0(K:ah)(f:Str)(fv:En->Option (D×En))(fp:En->Option Pl)(Z:En):Option Fl:=(fv Z).bind λa=>(fp a.2).bind λ
 |.rt r p=>(eM a.2 r p).bind λz=>(oE K f z.2.1 z.2.2 a.1).map λd'=> .nx (fV a.2 r z.1 p d')
 |.ro _=>none
theorem qy{α:Type}{xs:List α}{x:α}{i:Nat}(hi:i < xs.length):∀(j:Nat) (y:α),(xs.set i x)[j]?=some y->(xs++ [x])[if j=i then xs.length else j]?=some y:=λj y h=>by
 by_cases c:j=i
 ·subst c;rw[gK hi]at h;rw[if_pos rfl,br (bO _),kj];exact h
 ·rw[gq (fw c)]at h;rw[if_neg c,aU (cX.mp h).1];exact h
theorem AR{i m:Nat}(hi:i < m):∀a b,a < m->b < m->(if a=i then m else a)=(if b=i then m else b)->a=b:=λa b ha hb h=>by
 by_cases c1:a=i
 ·by_cases c2:b=i
  ·lia
  ·rw[if_pos c1,if_neg c2]at h;lia
 ·by_cases c2:b=i
  ·rw[if_neg c1,if_pos c2]at h;lia
  ·rw[if_neg c1,if_neg c2]at h;exact h
instance ajJ{ta tv:TE}{f:Str}{fv:En->Option (D×En)}{fp:En->Option Pl}[A:SM K n tv fv][P:SP K n ta fp]:SS K n (Gv K ta tv f) (l0 K f fv fp):=⟨λ{σ hv H U Z τv τd fl E} I h k=>by
 obtain⟨⟨d,ρ1⟩,h1,h⟩:=ak.mp h;obtain⟨q,h2,h⟩:=ak.mp h;cases q with
 |ro _=>cases h
 |rt r p=>
  obtain⟨⟨d0,kk,cs⟩,h3,h⟩:=ak.mp h;obtain⟨d',h4,h⟩:=aY.mp h;subst h;obtain⟨hr,hg⟩:=qx h3;refine A.s I h1 λy H1 U1 I1 bQ=> ?_;refine P.s I1 h2 λx H2 s2 w2=> ?_;have I2:=I1.same s2;have gw:bH U1 H1 U1 H2:=λb o q nu=>⟨s2 b o q,nu⟩
  unfold oE at h4
  split at h4
  ·next C ns e=>
   have e:kk= .obj C ns:=e;subst e;by_cases c:cs.length < 1000
   ·rw[if_pos c]at h4;obtain⟨a,dx,vs,rfl,ha,hf,hl,_,ed⟩:=av.edit (xs:= [y]) (ds:= [d]) I2 rfl w2 hr hg rfl;obtain⟨vQ,hC,hA⟩:=hf
    split at h4
    ·next i e2=>
     cases h4;have hi:i < vs.length:=by rw[<- vQ];exact HQ e2
     refine⟨a,C,dx,_,rfl,ha,hC,hA f (AO e2),by rw[pz];lia, ?_⟩;rw[HR e2 vQ];obtain⟨U3,I3,gZ⟩:=ed (.obj C ns) (vs.set i y) (cs.set i d) (λj=>if j=i then vs.length else j) rfl ⟨by rw[bN];exact vQ,hC,hA⟩ (by rw[bN,bN];exact hl)
      (λx z hx hz=>AR hi x z (by rw[bN]at hx;exact hx) (by rw[bN]at hz;exact hz)) (qy hi) (by rw[hl];exact qy (by lia))
     exact k σ _ U3 I3 (bQ.trans (gw.trans gZ))
    ·next e2=>
     by_cases cn:mf K C f
     ·rw[if_pos cn]at h4;cases h4;refine⟨a,C,dx,_,rfl,ha,hC,cn,by rw[pz];lia, ?_⟩;rw[Qu e2 vQ];obtain⟨U3,I3,gZ⟩:=ed (.obj C (ns++ [f])) (vs++ [y]) (cs++ [d]) id rfl ⟨by simp;exact vQ,hC,λg hg=>by
       rcases lZ.mp hg with z | z
       ·exact hA g z
       ·rw[eS.mp z];exact cn⟩ (by simp;exact hl) (λx z _ _ h=>h) (λj x h=>h) λj x h=>h
      exact k σ _ U3 I3 (bQ.trans (gw.trans gZ))
     ·rw[if_neg cn]at h4;cases h4
   ·rw[if_neg c]at h4;cases h4
  ·cases h4⟩
def lO(Z:En)(r:Nat)(p:List Nat)(g:List D->Option (List D)):Option En:=(eM Z r p).bind λz=>match z.2.1 with
 |.lst=>(g z.2.2).map λfU=>fV Z r z.1 p (.nd .lst fU)
 |_=>none
noncomputable def oI (d:D) (cs:List D):Option (List D):=if cs.length < aM then some (cs++ [d]) else none
def kx(fp:En->Option Pl)(fe:En->Option D)(Z:En):Option (D×En):=(fp Z).bind λ
 |.rt r p=>(fe Z).bind λd=>(lO Z r p (oI d)).map λρ'=>(.sc .aG,ρ')
 |.ro _=>none
theorem DM(h:H p=some (.lst xs)):vt K "list" (.ref p) H:= .inl ⟨rfl,xs, .inl (.inl h)⟩
theorem av.append{Q:VK}(I:av K n H U σ hv Z (τv++ [y]) (τd++ [d]))(w:iH K H U (σ++hv) Z x (.rt r p))(h:lO Z r p (oI d)=some ai)
  (k:∀v H' U',av K n H' U' σ hv ai (τv++ [v]) (τd++ [.sc .aG])->bH U H U' H'->Q v H'):vt K "list" x H/\C1 x [y] H Q:=by
 obtain⟨⟨d0,kk,cs⟩,h3,h⟩:=ak.mp h;obtain⟨hr,hg⟩:=qx h3
 split at h
 ·next e=>
  have e:kk= .lst:=e;subst e;obtain⟨fU,h4,h⟩:=aY.mp h;subst h;unfold oI at h4;have h4:(if cs.length < aM then some (cs++ [d]) else none)=some fU:=h4;by_cases c:cs.length < aM
  ·rw[if_pos c]at h4;cases h4;obtain⟨a,dx,vs,rfl,ha,hf,hl,_,ed⟩:=av.edit (xs:= [y]) (ds:= [d]) I rfl w hr hg rfl;obtain⟨U3,I3,gZ⟩:=ed .lst (vs++ [y]) (cs++ [d]) id rfl trivial (by simp;exact hl) (λx z _ _ h=>h) (λj x h=>h) λj x h=>h;obtain⟨U4,I4,g8⟩:=I3.push (aJ.refl _) (cA.sc (K:=K) .aG);exact⟨DM ha,a,vs,y,rfl,rfl,ha,by lia,k _ _ U4 I4 (gZ.trans g8)⟩
  ·rw[if_neg c]at h4;cases h4
 ·cases h
instance (priority:=600) ajK{to te:TE}{fp:En->Option Pl}{fe:En->Option D}[P:SP K n to fp][A:SQ K n te fe]:SM K n (vy K "list" C1 to (di te fz)) (kx fp fe):=⟨λ{σ hv H U Z ρ' τv τd d Q} I h k=>by
 obtain⟨q,h1,h⟩:=ak.mp h;cases q with
 |ro _=>cases h
 |rt r p=>
  obtain⟨d1,h2,h⟩:=ak.mp h;obtain⟨ai,h3,h⟩:=aY.mp h;cases h;refine P.s I h1 λx H1 s1 w1=> ?_;have I1:=I.same s1;have gw:bH U H U H1:=λb o q nu=>⟨s1 b o q,nu⟩
  -- what kind of ajL it is,ahead of the argument
  obtain⟨⟨d0,kk,cs⟩,h4,h5⟩:=ak.mp h3;obtain⟨hr,hg⟩:=qx h4;have rn:vt K "list" x H1:=by
   split at h5
   ·next e=>
    have e:kk= .lst:=e;subst e;obtain⟨a,vs,rfl,_,hc,_,_⟩:=(I1.at (q:= .rt r p) (d:= .nd .lst cs) w1 (by show(aV Z r).bind _=_;rw[hr];exact hg)).node;exact DM hc.2
   ·cases h5
  refine⟨rn,SQ.s (f:=fe) I1 h2 λy H2 U2 I2 dJ s2=> ?_⟩;have w2:iH K H2 U2 (σ++hv) Z x (.rt r p):=by
   obtain⟨a,vr,d,b,c,e,f⟩:=w1;exact⟨a,vr,d,b,c,e,f.same s2⟩
  exact(I2.append w2 h3 λv H3 U3 I3 gZ=>k v H3 U3 I3 (gw.trans (dJ.trans gZ))).2⟩
end
noncomputable def jE (n:Nat) (vs:List V):St:=vs.map some++ki (n - vs.length) none
section
variable {K:ah}{H H':Hp}{U U':Addr->Prop}{σ hv:List (Option V)}{τv vs:List V}{τd ds:List D}{v:V}{d:D}
def ee(K:ah)(m:Nat)(G:List D->Option D):Sp:=λvs H Q _=>∃(ds:List D) (d:D),ds.length=m/\dm K H T1 vs ds/\G ds=some d/\∀v H',aJ H H'->cA K H H' v d->Q v H'
instance ajM{m:Nat}[A:SA K n ta fa]:SF K n (og (ee K m G) [] E ta) (λZ=>(fa Z).bind λds=>if ds.length=m then G ds else none):=⟨λ{σ hv H U Z τv τd d Q} I h k=>by
 obtain⟨ds,h1,h2⟩:=ak.mp h;by_cases c:ds.length=m
 ·rw[if_pos c]at h2;refine A.s I h1 λvs H1 s1 w1=> ?_;rw[eK];exact⟨ds,d,c,w1,h2,λv H' s o=>k v H' (s1.trans s) (o.early s1)⟩
 ·rw[if_neg c]at h2;cases h2⟩
noncomputable def bV (n:Nat) (f:En->Option Fl) (ds:List D):Option D:=match f (ds.map (λd=>some (.ro d))++ki (n - ds.length) none) with
 |some (.rt d _)=>some d
 |some (.nx _)=>some (.sc .aG)
 |_=>none
theorem dm.get{N:Addr->Prop}(h:dm K H N vs ds){i:Nat}{d:D}(hd:ds[i]?=some d):∃v,vs[i]?=some v/\Vw K H N v d:=by
 obtain⟨v,hv⟩:=pL h.1 hd;exact⟨v,hv,h.2 i v d hv hd⟩
theorem Qx{t:TS}{f:En->Option Fl}{m:Nat}{Q:VK}{X:XK}[S:SS K n t f](h:ee K m (bV n f) vs H Q X)(hm:m<=n):t { nx:=λ_ H'=>Q .aG H',rt:=Q } (jE n vs) H:=by
 obtain⟨ds,d,hd,w,hG,k⟩:=h;have hl:=w.1;have rp:∀(i:Nat) (β:B),(ds.map (λd=>some (B.ro d))++ki (n - ds.length) none)[i]?=some (some β)->∃d,ds[i]?=some d/\β= .ro d:=λi β h=>by
  by_cases hi:i < ds.length
  ·rw[aU (by simpa using hi),bJ]at h;cases q:ds[i]? with
   |none=>rw[q]at h;cases h
   |some x=>rw[q]at h;cases h;exact⟨x,rfl,rfl⟩
  ·rw[br (by simp;lia),NK]at h
   split at h <;> cases h
 have I:av K n H (λ_=>False) (jE n vs) [] (ds.map (λd=>some (.ro d))++ki (n - ds.length) none) [] []:=by
  refine⟨⟨by unfold jE;simp[hl],λb z=>z.elim,λ_ _=>False,λi j b z=>z.elim,λi b z=>z.elim,λi β aw=> ?_⟩,by unfold jE;simp[hl],by unfold jE;simp;lia⟩;rw[jQ,eK]at aw;obtain⟨x,hx,rfl⟩:=rp i β aw;obtain⟨v,hv,vw⟩:=w.get hx;refine⟨v, ?_,vw.mono λ_ _ z=>z⟩;rw[jQ,eK,eK];unfold jE;rw[aU (by simpa using (cX.mp hv).1),bJ,hv];rfl
 have c5:∀{ρ':En} {v:V} {aF:List (Option V)} {H':Hp} {U':Addr->Prop},av K n H' U' aF [] ρ' [v] [d]->bH (λ_=>False) H U' H'->Q v H':=λ{ρ' v aF H' U'} J st=>by
  refine k v H' (λb o q=>(st b o q λz=>z).1) ?_;obtain⟨_,mu,Fs,dj,sub,sl⟩:=J.ok;have l:=J.len;obtain⟨v',ev,sv⟩:=sl ρ'.length (.own d) (by simp);have:v'=v:=by
   rw[br (by simp at l |-;lia)]at ev;simp at ev l;rw[show ρ'.length - aF.length=0 by lia]at ev;simp at ev;exact ev.symm
  subst this;refine⟨_,sv,λb z=>⟨?_,mu b (sub _ b z)⟩⟩;cases q:H b with
  |none=>rfl
  |some o=>exact absurd (sub _ b z) (st b o q λz=>z).2
 unfold bV at hG
 split at hG
 ·next d' ρ' e=>
  cases hG;exact S.s I e λv aF H' U' J st=>c5 J st
 ·next ρ' e=>
  cases hG;refine S.s I e λaF H' U' J st=> ?_;obtain⟨U2,J2,dJ⟩:=J.push (aJ.refl H') (cA.sc (K:=K) .aG);exact c5 J2 (st.trans dJ)
 ·cases hG
noncomputable def bW {α:Type}:List Bool->List α->List α
 |true::m,x::r=>x::bW m r
 |false::m,_::r=>bW m r
 |_,_=> []
def dW(K:ah)(bp:List Bool)(G:List D->Option (D×List D)):Sp:=λvs H Q _=>vs.length=bp.length/\∃(ds:List D) (U:Addr->Prop) (d:D) (dq:List D),ds.length=bp.length/\bT K H U 0 ((bW bp vs).map some) (bU (bW bp ds))/\
 (∀(i:Nat) (v:V) (d:D),bp[i]?=some false->vs[i]?=some v->ds[i]?=some d->Vw K H (λb=>¬ U b) v d)/\G ds=some (d,dq)/\
 ∀v H' U',bT K H' U' 0 (some v::(bW bp vs).map some) (some (.own d)::bU dq)->bH U H U' H'->Q v H'
noncomputable def eg (n:Nat):Nat->List Bool->List D->En
 |j,true::m,_::r=>some (.aB (n + j) [])::eg n (j + 1) m r
 |j,false::m,d::r=>some (.ro d)::eg n j m r
 |_,_,_=> []
noncomputable def gP:En->Option (List D)
 | []=>some []
 |some (.own d)::r=>(gP r).map (d:: ·)
 |_=>none
theorem HU:∀{Z:En} {ds:List D},gP Z=some ds->Z=bU ds
 | [],ds,h=>by cases h;rfl
 |some (.own d)::r,ds,h=>by
  rw[gP]at h;obtain⟨x,h1,h2⟩:=aY.mp h;subst h2;rw[HU h1];rfl
 |none::r,ds,h=>by simp[gP]at h
 |some (.ro d)::r,ds,h=>by simp[gP]at h
 |some (.aB _ _)::r,ds,h=>by simp[gP]at h
def kW(n:Nat)(bp:List Bool)(ds:List D):En:=eg n 0 bp ds++ki (n - bp.length) none++bU (bW bp ds)
def dG(n:Nat)(bp:List Bool)(f:En->Option Fl)(ds:List D):Option (D×List D):=match f (kW n bp ds) with
 |some (.rt d ρ')=>(gP (ρ'.drop n)).map λo=>(d,o)
 |some (.nx ρ')=>(gP (ρ'.drop n)).map λo=>(.sc .aG,o)
 |_=>none
theorem HV(n:Nat):∀(j:Nat) {bp:List Bool} {ds:List D},ds.length=bp.length->(eg n j bp ds).length=bp.length
 |j, [], [],_=>rfl
 |j, [],_::_,h=>by cases h
 |j,_::_, [],h=>by cases h
 |j,true::m,_::r,h=>by rw[eg,c8,HV n _ (eF h)];rfl
 |j,false::m,_::r,h=>by rw[eg,c8,HV n j (eF h)];rfl
theorem DN{α β:Type}:∀{bp:List Bool} {xs:List α} {ys:List β},xs.length=bp.length->ys.length=bp.length->(bW bp xs).length=(bW bp ys).length
 | [], [], [],_,_=>rfl
 | [],_::_,_,h,_=>by cases h
 | [],_,_::_,_,h=>by cases h
 |_::_, [],_,h,_=>by cases h
 |_::_,_, [],_,h=>by cases h
 |true::m,x::xs,y::ys,h,h'=>by rw[bW,bW,c8,c8,DN (eF h) (eF h')]
 |false::m,x::xs,y::ys,h,h'=>by rw[bW,bW,DN (eF h) (eF h')]
theorem HW(n:Nat):∀(j:Nat) {bp:List Bool} {ds:List D} {vs:List V} {i:Nat} {β:B},ds.length=bp.length->vs.length=bp.length->(eg n j bp ds)[i]?=some (some β)->
  (∃d,β= .ro d/\bp[i]?=some false/\ds[i]?=some d)\/∃j' v,β= .aB (n + j') []/\j<=j'/\(bW bp vs)[j' - j]?=some v/\vs[i]?=some v
 |j, [],_,_,_,_,_,_,h=>by simp[eg]at h
 |j,_::_, [],_,_,_,h,_,_=>by cases h
 |j,_::_,_, [],_,_,_,h,_=>by cases h
 |j,true::m,d::ds,v::vs,0,β,h1,h2,h=>by
  rw[eg]at h;cases h;exact .inr ⟨j,v,rfl,bO _,by rw[kj,bW];rfl,rfl⟩
 |j,true::m,d::ds,v::vs,i + 1,β,h1,h2,h=>by
  rw[eg]at h;rcases HW n _ (bp:=m) (ds:=ds) (vs:=vs) (i:=i) (eF h1) (eF h2) (by simpa using h) with⟨x,a,b,c⟩ | ⟨j',x,a,b,c,e⟩
  ·exact .inl ⟨x,a,by simpa using b,by simpa using c⟩
  ·refine .inr ⟨j',x,a,by lia, ?_,by simpa using e⟩;rw[bW,show j' - j=(j' - (j + 1)) + 1 by lia];simpa using c
 |j,false::m,d::ds,v::vs,0,β,h1,h2,h=>by
  rw[eg]at h;cases h;exact .inl ⟨d,rfl,rfl,rfl⟩
 |j,false::m,d::ds,v::vs,i + 1,β,h1,h2,h=>by
  rw[eg]at h;rcases HW n j (bp:=m) (ds:=ds) (vs:=vs) (i:=i) (eF h1) (eF h2) (by simpa using h) with⟨x,a,b,c⟩ | ⟨j',x,a,b,c,e⟩
  ·exact .inl ⟨x,a,by simpa using b,by simpa using c⟩
  ·exact .inr ⟨j',x,a,b,by rw[bW];exact c,by simpa using e⟩
theorem bT.tail(h:bT K H U m (e++t) (Z++τ))(hl:e.length=Z.length)(xY:AI τ):∃Ut:Addr->Prop,(∀b,Ut b->U b)/\bT K H Ut 0 t τ:=by
 obtain⟨dw,mu,Fs,dj,sub,sl⟩:=h;rw[dg,dg]at dw;refine⟨λb=>∃i,e.length<=i/\Fs i b,λb ⟨i,_,z⟩=>sub i b z,⟨by lia,λb ⟨i,_,z⟩=>mu b (sub i b z),λi=>Fs (e.length + i),λi j b hi hj=>by have:=dj _ _ b hi hj;lia,λi b hb=>⟨_,by lia,hb⟩,λi β aw=> ?_⟩⟩;have AK:(Z++τ)[e.length + i]?=some (some β):=by
  rw[hl,br (by lia),show Z.length + i - Z.length=i by lia];exact aw
 obtain⟨v,ev,sv⟩:=sl _ _ AK;rw[br (by lia),show e.length + i - e.length=i by lia]at ev;refine⟨v,ev, ?_⟩;cases β with
 |own d=>exact sv
 |ro d=>exact Vw.mono sv λb nb ⟨j,_,z⟩=>nb (sub j b z)
 |aB r p=>exact absurd rfl (xY _ (jr aw) r p)
theorem bT.pick{cC:List V}{i3:List D}(h:bT K H U 0 (vs.map some) (bU ds))(hl:cC.length=i3.length)(π:Nat->Nat)(inj:∀i j,i < cC.length->j < cC.length->π i=π j->i=j)
  (hv:∀(i:Nat) (x:V),cC[i]?=some x->vs[π i]?=some x) (hd:∀(i:Nat) (x:D),i3[i]?=some x->ds[π i]?=some x):bT K H U 0 (cC.map some) (bU i3):=by
 obtain⟨dw,mu,Fs,dj,sub,sl⟩:=h;refine⟨by unfold bU;rw[eG,eG];exact hl,mu,λi b=>i < cC.length/\Fs (π i) b,λi j b hi hj=>inj i j hi.1 hj.1 (dj _ _ b hi.2 hj.2),λi b hb=>sub _ b hb.2,λi β aw=> ?_⟩;unfold bU at aw;rw[bJ]at aw;cases q:i3[i]? with
 |none=>rw[q]at aw;cases aw
 |some x=>
  rw[q]at aw;cases aw;obtain⟨u,hu⟩:=pL hl q;obtain⟨v,ev,sv⟩:=sl (π i) _ (by unfold bU;rw[bJ,hd i x q];rfl);rw[bJ,hv i u hu]at ev;cases ev;exact⟨u,by rw[bJ,hu];rfl,bg.mono sv λb z=>⟨(cX.mp hu).1,z⟩⟩
theorem Qy{α:Type}{xs:List α}{x:α}:∀(i:Nat) (y:α),(x::xs)[i]?=some y->(xs++ [x])[if i=0 then xs.length else i - 1]?=some y:=λi y h=>by
 cases i with
 |zero=>simp at h |-;exact h
 |succ i=>
  have h:xs[i]?=some y:=by simpa using h
  rw[if_neg (Nat.succ_ne_zero i),Cq,aU (cX.mp h).1];exact h
theorem bT.Qz(h:bT K H U 0 ((vs++ [v]).map some) (bU (ds++ [d]))):bT K H U 0 ((v::vs).map some) (bU (d::ds)):=by
 have hl:vs.length=ds.length:=by have:=h.len;unfold bU at this;simp at this;lia
 refine h.pick (by simp[hl]) _ (λi j hi hj q=> ?_) Qy (by rw[hl];exact Qy);rw[c8]at hi hj;by_cases c1:i=0
 ·by_cases c2:j=0
  ·lia
  ·simp only[if_pos c1,if_neg c2]at q;lia
 ·by_cases c2:j=0
  ·simp only[if_neg c1,if_pos c2]at q;lia
  ·simp only[if_neg c1,if_neg c2]at q;lia
theorem aao{t:TS}[S:SS K n t f](h:dW K bp (dG n bp f) vs H Q X)(hm:bp.length<=n):t { nx:=λ_ H'=>Q .aG H',rt:=Q } (jE n vs) H:=by
 obtain⟨hv,ds,U,d,dq,hd,ok,vw,hG,k⟩:=h;have l1:=HV n 0 (bp:=bp) (ds:=ds) hd;have l2:=DN (bp:=bp) hv hd;have lE:(kW n bp ds).length=n + (bW bp ds).length:=by
  unfold kW bU;rw[dg,dg,l1,zl,eG]
  lia
 have sL:(jE n vs).length=n:=by unfold jE;simp;lia
 have I:av K n H U (jE n vs) ((bW bp vs).map some) (kW n bp ds) [] []:=by
  obtain⟨ol,mu,Fs,dj,sub,sl⟩:=ok;refine⟨⟨by rw[jQ,jQ,eK,eK,dg,sL,lE,eG,l2],mu,λi b=>n<=i/\Fs (i - n) b,λi j b hi hj=>by have:=dj _ _ b hi.2 hj.2;lia,λi b hb=>sub _ b hb.2,λi β aw=> ?_⟩,by rw[sL,eG,l2,lE],sL⟩;rw[jQ,eK]at aw;rw[jQ,eK];by_cases hi:i < n
  ·have mW:(eg n 0 bp ds++ki (n - bp.length) none)[i]?=some (some β):=by
    unfold kW at aw;rw[aU (by rw[dg,l1,zl];lia)]at aw;exact aw
   by_cases HP:i < bp.length
   ·rw[aU (by lia)]at mW;have sv:∀v,vs[i]?=some v->(jE n vs++(bW bp vs).map some)[i]?=some (some v):=λv q=>by
     rw[aU (by lia)];unfold jE;rw[aU (by simp;lia),bJ,q];rfl
    rcases HW n 0 (vs:=vs) hd hv mW with⟨x,rfl,b,c⟩ | ⟨j',x,rfl,_,c,q⟩
    ·obtain⟨v,QA⟩:=pL (vs:=vs) (by lia) c;exact⟨v,sv v QA,vw i v x b QA c⟩
    ·refine⟨x,sv x q, ?_,x, ?_, .nil x⟩
     ·have:=(cX.mp c).1;rw[lE]
      lia
     ·rw[br (by lia),sL,bJ,show n + j' - n=j' - 0 by lia,c];rfl
   ·rw[br (by lia),NK]at mW
    split at mW <;> cases mW
  ·have QB:(bU (bW bp ds))[i - n]?=some (some β):=by
    unfold kW at aw;rw[br (by rw[dg,l1,zl];lia)]at aw;rw[dg,l1,zl,show bp.length + (n - bp.length)=n by lia]at aw;exact aw
   obtain⟨v,ev,sv⟩:=sl _ β QB;refine⟨v,by rw[br (by lia),sL];exact ev, ?_⟩;cases β with
   |own x=>exact bg.mono sv λb z=>⟨by lia,z⟩
   |ro x=>exact sv
   |aB r p=>exact absurd rfl (vO _ _ (jr QB) r p)
 have c5:∀{ρ':En} {v:V} {aF:List (Option V)} {H':Hp} {U':Addr->Prop},av K n H' U' aF ((bW bp vs).map some) ρ' [v] [d]->gP (ρ'.drop n)=some dq->bH U H U' H'->Q v H':=λ{ρ' v aF H' U'} J ho st=>by
  have eo:=HU ho;have ln:=J.len;have nn:=J.nn;have er:ρ'=ρ'.take n++bU dq:=by rw[<- eo,aiD]
  have vR:=J.ok;have lt:aF.length=(ρ'.take n).length:=by rw[Ce];lia
  -- first the names go,then the last one comes to the front
  have vR:bT K H' U' ρ'.length (aF++((bW bp vs).map some++ [some v])) (ρ'.take n++(bU dq++ [some (.own d)])):=by
   rw[<- b8, <- b8, <- er];exact vR
  obtain⟨Ut,su,ot⟩:=vR.tail lt λb hb q p=>by
   rcases lZ.mp hb with z | z
   ·exact vO dq b z q p
   ·rw[eS.mp z];exact λw=>nomatch w
  have HX:bT K H' Ut 0 ((bW bp vs++ [v]).map some) (bU (dq++ [d])):=by
   unfold bU at ot |-;rw[cK,cK];exact ot
  refine k v H' Ut HX.Qz λb o q nu=>⟨(st b o q nu).1,λz=>(st b o q nu).2 (su b z)⟩
 unfold dG at hG
 split at hG
 ·next d' ρ' q=>
  obtain⟨o,h1,h2⟩:=aY.mp hG;cases h2;exact S.s I q λv aF H' U' J st=>c5 J h1 st
 ·next ρ' q=>
  obtain⟨o,h1,h2⟩:=aY.mp hG;cases h2;refine S.s I q λaF H' U' J st=> ?_;obtain⟨U2,J2,dJ⟩:=J.push (aJ.refl H') (cA.sc (K:=K) .aG);exact c5 J2 h1 (st.trans dJ)
 ·cases hG
end
section
theorem av.aap(I:av K n H U σ hv Z τv τd):bT K H U Z.length (σ++hv++τv.map some) (Z++bU τd):=I.ok
theorem av.lend(I:av K n H U σ hv Z τv τd)(w:iH K H U (σ++hv) Z v (.rt r p))(hr:aV Z r=some d0)(hg:aI d0 p=some d1):
  av K n H U σ hv (Z.set r (some (.own (aZ d0 p (.hl v))))) (τv++ [v]) (τd++ [d1]):=by
 have l:=I.len;have tl:=I.tl;obtain⟨iN,vr,Qr,er,tT,_,hp⟩:=w;rw[hr]at tT;cases tT;refine⟨?_,by rw[bN];exact l,I.nn⟩;have k:=I.aap.take (r:=r) (p:=p) (vr:=vr) (by simp;lia) (by rw[aU iN];exact kS hr) (by rw[aU (by simp;lia)];exact er) hp hg;rw[bN,cK,cK, <- b8, <- b8];rw[uT _ _ iN]at k;exact k
theorem av.back(I:av K n H U σ hv Z (τv++ [v]) (τd++ [d]))(hr:aV Z r=some d0)(hg:aI d0 p=some (.hl v)):av K n H U σ hv (Z.set r (some (.own (aZ d0 p d)))) τv τd:=by
 have l:=I.len;have tl:=I.tl;have tl:τv.length=τd.length:=by simp at tl;lia
 have tS:=kS hr;have iN:r < Z.length:=(cX.mp tS).1;have ok:=I.ok;rw[cK,cK, <- b8, <- b8]at ok;have k:=ok.put (r:=r) (d0:=d0) (by simp;lia) (by simp;lia) (by rw[aU iN];exact tS) hg;rw[uT _ _ iN]at k;exact⟨by rw[bN];exact k,by rw[bN];exact l,I.nn⟩
theorem av.pick(I:av K n H U σ hv Z (τv++vs) (τd++ds))(hl:vs.length=ds.length)(h2:cC.length=i3.length)(π:Nat->Nat)(inj:∀i j,i < cC.length->j < cC.length->π i=π j->i=j)
  (iV:∀(i:Nat) (x:V),cC[i]?=some x->vs[π i]?=some x) (pA:∀(i:Nat) (x:D),i3[i]?=some x->ds[π i]?=some x):av K n H U σ hv Z (τv++cC) (τd++i3):=by
 have l:=I.len;have tl:=I.tl;have tl:τv.length=τd.length:=by simp at tl;lia
 obtain⟨he,mu,Fs,dj,sub,sl⟩:=I.ok;have base:(σ++hv++τv.map some).length=Z.length + τd.length:=by simp;lia
 refine⟨⟨by simp;lia,mu,λi b=>if i < Z.length + τd.length then Fs i b else i < Z.length + τd.length + cC.length/\Fs (Z.length + τd.length + π (i - (Z.length + τd.length))) b,λi j b hi hj=> ?_,λi b hb=> ?_,λi β aw=> ?_⟩,l,I.nn⟩
 ·have hi:if i < Z.length + τd.length then Fs i b else i < Z.length + τd.length + cC.length/\Fs (Z.length + τd.length + π (i - (Z.length + τd.length))) b:=hi;have hj:if j < Z.length + τd.length then Fs j b else j < Z.length + τd.length + cC.length/\Fs (Z.length + τd.length + π (j - (Z.length + τd.length))) b:=hj;by_cases ci:i < Z.length + τd.length
  ·rw[if_pos ci]at hi;by_cases cj:j < Z.length + τd.length
   ·rw[if_pos cj]at hj;exact dj i j b hi hj
   ·rw[if_neg cj]at hj;have:=dj _ _ b hi hj.2;lia
  ·rw[if_neg ci]at hi;by_cases cj:j < Z.length + τd.length
   ·rw[if_pos cj]at hj;have:=dj _ _ b hi.2 hj;lia
   ·rw[if_neg cj]at hj;have:=dj _ _ b hi.2 hj.2;have:=inj (i - (Z.length + τd.length)) (j - (Z.length + τd.length)) (by lia) (by lia) (by lia)
    lia
 ·have hb:if i < Z.length + τd.length then Fs i b else i < Z.length + τd.length + cC.length/\Fs (Z.length + τd.length + π (i - (Z.length + τd.length))) b:=hb;by_cases ci:i < Z.length + τd.length
  ·rw[if_pos ci]at hb;exact sub _ b hb
  ·rw[if_neg ci]at hb;exact sub _ b hb.2
 ·have e0:∀(zs:List V) (j:Nat),j < Z.length + τd.length->(σ++hv++(τv++zs).map some)[j]?=(σ++hv++τv.map some)[j]?:=λzs j hj=>by
   rw[cK, <- b8,aU (by lia)]
  have lR:(Z++τd.map λd=>some (B.own d)).length=Z.length + τd.length:=by simp
  by_cases hi:i < Z.length + τd.length
  ·have g1:(Z++(τd++ds).map λd=>some (B.own d))[i]?=some (some β):=by
    rw[cK, <- b8,aU (by lia)]at aw |-;exact aw
   obtain⟨v,ev,sv⟩:=sl i β g1;refine⟨v,by rw[e0 cC i hi];rw[e0 vs i hi]at ev;exact ev, ?_⟩;have sv:=ox.slots sv λr hr=>by rw[e0 cC r (by lia),e0 vs r (by lia)]
   cases β with
   |own x=>
    show bg K H (λb=>if i < Z.length + τd.length then Fs i b else _) v x;simp only[if_pos hi];exact sv
   |ro x=>exact sv
   |aB r p=>exact sv
  ·have g0:(i3.map λd=>some (B.own d))[i - (Z.length + τd.length)]?=some (some β):=by
    rw[cK, <- b8,br (by lia),lR]at aw;exact aw
   rw[bJ]at g0;cases q:i3[i - (Z.length + τd.length)]? with
   |none=>rw[q]at g0;cases g0
   |some x=>
    rw[q]at g0;cases g0;obtain⟨u,hu⟩:=pL h2 q;have g1:(Z++(τd++ds).map λd=>some (B.own d))[Z.length + τd.length + π (i - (Z.length + τd.length))]?=some (some (.own x)):=by
     rw[cK, <- b8,br (by lia),lR,NX,bJ,pA _ x q];rfl
    obtain⟨v,ev,sv⟩:=sl _ _ g1;rw[cK, <- b8,br (by lia),base,NX,bJ,iV _ u hu]at ev;cases ev;have dS:i - (Z.length + τd.length) < cC.length:=(cX.mp hu).1;refine⟨u,by rw[cK, <- b8,br (by lia),base,bJ,hu];rfl, ?_⟩;show bg K H (λb=>if i < Z.length + τd.length then _ else i < Z.length + τd.length + cC.length/\Fs (Z.length + τd.length + π (i - (Z.length + τd.length))) b) u x;simp only[if_neg hi];exact bg.mono sv λb z=>⟨by lia,z⟩
theorem av.aaq(I:av K n H U σ hv Z (τv++ws++vs) (τd++wd++ds))(hl:ws.length=wd.length)(h2:vs.length=ds.length):av K n H U σ hv Z (τv++vs) (τd++ds):=by
 rw[b8,b8]at I;exact I.pick (by simp;lia) h2 (λi=>ws.length + i) (λi j _ _ h=>by lia) (λi x h=>by rw[br (by lia),NX];exact h) (λi x h=>by rw[hl,br (by lia),NX];exact h)
theorem QC{α:Type}{xs:List α}{x:α}:∀(i:Nat) (y:α),(xs++ [x])[i]?=some y->(x::xs)[if i=xs.length then 0 else i + 1]?=some y:=λi y h=>by
 by_cases c:i=xs.length
 ·subst c;simp at h |-;exact h
 ·have hi:i < xs.length:=by
   have:=(cX.mp h).1;simp at this;lia
  rw[aU hi]at h;rw[if_neg c];simpa using h
theorem av.QD(I:av K n H U σ hv Z (τv++(v::vs)) (τd++(d::ds)))(hl:vs.length=ds.length):av K n H U σ hv Z (τv++vs++ [v]) (τd++ds++ [d]):=by
 rw[b8,b8];refine I.pick (by simp;exact hl) (by simp;exact hl) _ (λi j hi hj h=> ?_) QC (by rw[hl];exact QC);by_cases c1:i=vs.length
 ·by_cases c2:j=vs.length
  ·lia
  ·simp only[if_pos c1,if_neg c2]at h;lia
 ·by_cases c2:j=vs.length
  ·simp only[if_neg c1,if_pos c2]at h;lia
  ·simp only[if_neg c1,if_neg c2]at h;lia
structure Io where
 r:Nat
 p:List Nat
def dk:En->List Io->List V->En
 |Z,io::L,v::vs=>match aV Z io.r with
  |some d0=>dk (Z.set io.r (some (.own (aZ d0 io.p (.hl v))))) L vs
  |none=>Z
 |Z,_,_=>Z
def i4:En->List Io->Option (List D)
 |_, []=>some []
 |Z,io::L=>(aV Z io.r).bind λd0=>(aI d0 io.p).bind λd1=>(i4 Z L).map (d1:: ·)
def g9(ia:En):En->List Io->List D->En
 |Z,io::L,o::os=>match aV ia io.r with
  |some d0=>g9 ia (Z.set io.r (some (.own (aZ d0 io.p o)))) L os
  |none=>Z
 |Z,_,_=>Z
def jF(L:List Io):Prop:=L.Pairwise λa b=>a.r≠b.r
instance (L:List Io):Decidable (jF L):=inferInstanceAs (Decidable (L.Pairwise _))
theorem av.QE:∀{L:List Io} {Z:En} {τv:List V} {τd:List D} {vs:List V} {ds:List D},av K n H U σ hv Z τv τd->jF L->i4 Z L=some ds->vs.length=L.length->(∀(i:Nat) (io:Io) (v:V),L[i]?=some io->vs[i]?=some v->iH K H U (σ++hv) Z v (.rt io.r io.p))->
  av K n H U σ hv (dk Z L vs) (τv++vs) (τd++ds)
 | [],Z,τv,τd,vs,ds,I,_,h,hl,_=>by
  cases h;have:vs= []:=sN hl;subst this;rw[eK,eK];simp only[dk];exact I
 |io::L,Z,τv,τd, [],ds,I,_,h,hl,_=>by cases hl
 |io::L,Z,τv,τd,v::vs,ds,I,ha,h,hl,hp=>by
  rw[i4]at h;obtain⟨d0,h1,h⟩:=ak.mp h;obtain⟨d1,h2,h⟩:=ak.mp h;obtain⟨i3,h3,h⟩:=aY.mp h;subst h;have ap:=FQ.mp ha;have I1:=I.lend (hp 0 io v rfl rfl) h1 h2;have QF:∀j∈L,aV (Z.set io.r (some (.own (aZ d0 io.p (.hl v))))) j.r=aV Z j.r:=λj hj=>rP (ap.1 j hj);have aar:∀(M:List Io) (hM:∀j∈M,j∈L) (ds:List D),i4 Z M=some ds->i4 (Z.set io.r (some (.own (aZ d0 io.p (.hl v))))) M=some ds:=by
   intro M
   induction M with
   |nil=>intro _ ds h;exact h
   |cons j M ih=>
    intro hM ds h;rw[i4]at h |-;rw[QF j (hM j (.head _))];obtain⟨a,x1,h⟩:=ak.mp h;obtain⟨b,x2,h⟩:=ak.mp h;obtain⟨c,x3,h⟩:=aY.mp h;rw[x1];show(aI a j.p).bind _=_;rw[x2];show(i4 _ M).map _=_;rw[ih (λk hk=>hM k (.tail _ hk)) c x3];exact congrArg some h
  have I2:=I1.QE ap.2 (aar L (λj hj=>hj) i3 h3) (vs:=vs) (eF hl) λi j u hj hu=>by
   obtain⟨q1,vr,dd,q2,q3,q4,q5⟩:=hp (i + 1) j u (by simpa using hj) (by simpa using hu);exact⟨by rw[bN];exact q1,vr,dd,q2,by rw[QF j (jr hj)];exact q3,q4,q5⟩
  rw[dk,h1];rw[sM,sM τd];exact I2
def tV(ρ1 ai:En):Prop:=∀s q,((aV ρ1 s).bind (aI · q)).isSome=((aV ai s).bind (aI · q)).isSome
theorem aas(h:tV ρ1 ai)(b:Option B):fO ρ1 b=fO ai b:=by
 cases b with
 |none=>rfl
 |some c=>
  cases c with
  |own d=>rfl
  |ro d=>rfl
  |aB r p=>
   show(if p= []\/((aV ρ1 r).bind _).isSome=true then some _ else none)=(if p= []\/((aV ai r).bind _).isSome=true then some _ else none);rw[h r p]
theorem tV.hole{d0 e0 d1 e1 x y:D}(h:tV ρ1 ai)(l1:r < ρ1.length)(l2:r < ai.length)(g:∀q,(aI (aZ d0 p x) q).isSome=(aI (aZ e0 p y) q).isSome):tV (ρ1.set r (some (.own (aZ d0 p x)))) (ai.set r (some (.own (aZ e0 p y)))):=λs q=>by
 by_cases c:r=s
 ·subst c;rw[DJ l1,DJ l2];exact g q
 ·rw[rP c,rP c];exact h s q
theorem vS:∀(Z:En) (L:List Io) (vs:List V),(dk Z L vs).length=Z.length
 |Z, [],vs=>by simp[dk]
 |Z,io::L, []=>by simp[dk]
 |Z,io::L,v::vs=>by
  rw[dk];cases aV Z io.r with
  |none=>rfl
  |some d0=>show(dk _ L vs).length=_;rw[vS,bN]
theorem aat(h:ρ1[s]?=ai[s]?):aV ρ1 s=aV ai s:=by unfold aV;rw[h]
theorem QG:∀{L:List Io} {ρ1 ai:En} {vs us:List V},jF L->tV ρ1 ai->ρ1.length=ai.length->(∀io∈L,∃d0 d1,aV ρ1 io.r=some d0/\aV ai io.r=some d0/\aI d0 io.p=some d1)->vs.length=L.length->us.length=L.length->tV (dk ρ1 L vs) (dk ai L us)
 | [],ρ1,ai,vs,us,_,h,_,_,_,_=>by simp only[dk];exact h
 |io::L,ρ1,ai, [],us,_,_,_,_,h,_=>by cases h
 |io::L,ρ1,ai,_, [],_,_,_,_,_,h=>by cases h
 |io::L,ρ1,ai,v::vs,u::us,ha,h,hl,hr,l1,l2=>by
  obtain⟨d0,d1,q1,q2,q3⟩:=hr io (.head _);have ap:=FQ.mp ha;have r1:=(cX.mp (kS q1)).1;rw[dk,dk,q1,q2];refine QG ap.2 (h.hole (d1:=d1) (e1:=d1) r1 (by lia) λq=>HI q3 rfl rfl (λ_ _=>by rw[aI]) λ_ _=>by rw[aI]) (by rw[bN,bN];exact hl) (λj hj=> ?_) (eF l1) (eF l2);obtain⟨e0,e1,x1,x2,x3⟩:=hr j (.tail _ hj);exact⟨e0,e1,by rw[rP (ap.1 j hj)];exact x1,by rw[rP (ap.1 j hj)];exact x2,x3⟩
theorem HY:∀{L:List Io} {Z:En} {ds:List D},i4 Z L=some ds->∀io∈L,∃d0 d1,aV Z io.r=some d0/\aI d0 io.p=some d1
 |io::L,Z,ds,h,j,hj=>by
  rw[i4]at h;obtain⟨d0,h1,h⟩:=ak.mp h;obtain⟨d1,h2,h⟩:=ak.mp h;obtain⟨i3,h3,h⟩:=aY.mp h;cases hj with
  |head=>exact⟨d0,d1,h1,h2⟩
  |tail _ hj=>exact HY h3 j hj
theorem aau(ha:jF L)(h:i4 Z L=some ds)(l1:vs.length=L.length)(l2:us.length=L.length):tV (dk Z L vs) (dk Z L us):=
 QG ha (λ_ _=>rfl) rfl (λio rS=>let ⟨d0,d1,a,b⟩:=HY h io rS;⟨d0,d1,a,a,b⟩) l1 l2
theorem DO:∀{L:List Io} {Z:En} {vs:List V} {s:Nat},(∀io∈L,io.r≠s)->(dk Z L vs)[s]?=Z[s]?
 | [],Z,vs,s,_=>by simp only[dk]
 |io::L,Z, [],s,_=>by simp only[dk]
 |io::L,Z,v::vs,s,h=>by
  rw[dk];cases aV Z io.r with
  |none=>rfl
  |some d0=>
   show(dk _ L vs)[s]?=_;rw[DO λj hj=>h j (.tail _ hj),gq (h io (.head _))]
theorem HZ:∀{L:List Io} {Z:En} {vs:List V} {i:Nat} {io:Io} {d0:D},jF L->vs.length=L.length->L[i]?=some io->aV Z io.r=some d0->(∀j∈L,∃e,aV Z j.r=some e)->∃v,vs[i]?=some v/\aV (dk Z L vs) io.r=some (aZ d0 io.p (.hl v))
 | [],Z,vs,i,io,d0,_,_,h,_,_=>by simp at h
 |j::L,Z, [],i,io,d0,_,h,_,_,_=>by cases h
 |j::L,Z,v::vs,0,io,d0,ha,hl,h,hr,al=>by
  cases h;have ap:=FQ.mp ha;have iN:=(cX.mp (kS hr)).1;refine⟨v,rfl, ?_⟩;rw[dk,hr];rw[aat (DO λk hk=>(ap.1 k hk).symm),DJ iN]
 |j::L,Z,v::vs,i + 1,io,d0,ha,hl,h,hr,al=>by
  have ap:=FQ.mp ha;obtain⟨e,he⟩:=al j (.head _);have ne:=ap.1 io (jr h);rw[dk,he];obtain⟨u,hu,q⟩:=HZ (Z:=Z.set j.r (some _)) ap.2 (eF hl) h (by rw[rP ne];exact hr) λk hk=>by
   obtain⟨x,hx⟩:=al k (.tail _ hk);exact⟨x,by rw[rP (ap.1 k hk)];exact hx⟩
  exact⟨u,by simpa using hu,q⟩
inductive Ar where
 |io (i:Io) | tm (d:D) | rv (q:Pl) (d:D)
inductive iF(K:ah)(H:Hp)(U:Addr->Prop)(e:List (Option V))(Z:En):List Bool->List V->List Ar->List V->List D->Prop
 |nil:iF K H U e Z [] [] [] [] []
 |io {m:List Bool} {v:V} {i:Io} {vs:List V} {as:List Ar} {ws:List V} {wd:List D}:iH K H U e Z v (.rt i.r i.p)->iF K H U e Z m vs as ws wd->iF K H U e Z (true::m) (v::vs) (.io i::as) ws wd
 |tm {m:List Bool} {v:V} {d:D} {vs:List V} {as:List Ar} {ws:List V} {wd:List D}:iF K H U e Z m vs as ws wd->iF K H U e Z (false::m) (v::vs) (.tm d::as) (v::ws) (d::wd)
 |rv {m:List Bool} {v:V} {q:Pl} {d:D} {vs:List V} {as:List Ar} {ws:List V} {wd:List D}:iH K H U e Z v q->gi Z q=some d->iF K H U e Z m vs as ws wd->iF K H U e Z (false::m) (v::vs) (.rv q d::as) ws wd
class tW(K:ah)(n:Nat)(bp:List Bool)(t:TA)(f:outParam (En->Option (List Ar))):Prop where
 s:∀{σ hv:List (Option V)} {H:Hp} {U:Addr->Prop} {Z:En} {τv:List V} {τd:List D} {as:List Ar} {Q:List V->Hp->Prop},av K n H U σ hv Z τv τd->f Z=some as->
  (∀vs ws wd H' U',av K n H' U' σ hv Z (τv++ws) (τd++wd)->ws.length=wd.length->bH U H U' H'->aJ H H'->iF K H' U' (σ++hv) Z bp vs as ws wd->Q vs H')->t σ H Q
class SC(K:ah)(n:Nat)(bp:List Bool)(t:TA)(f:outParam (En->Option (List Ar×En))):Prop where
 s:∀{σ hv:List (Option V)} {H:Hp} {U:Addr->Prop} {Z ρ':En} {τv:List V} {τd:List D} {as:List Ar} {Q:List V->Hp->Prop},av K n H U σ hv Z τv τd->f Z=some (as,ρ')->
  (∀vs ws wd H' U',av K n H' U' σ hv ρ' (τv++ws) (τd++wd)->ws.length=wd.length->bH U H U' H'->iF K H' U' (σ++hv) ρ' bp vs as ws wd->Q vs H')->t σ H Q
theorem iH.step(h:iH K H U e Z v q)(s:aJ H H')(st:bH U H U' H'):iH K H' U' e Z v q:=by
 cases q with
 |ro d=>
  exact h.over (λb o nb q=>st b o q nb) (gu.of s)
 |rt r p=>
  obtain⟨a,vr,d,b,c,e,f⟩:=h;exact⟨a,vr,d,b,c,e,f.same s⟩
instance ajN:tW K n [] fz (λ_=>some []):=⟨λ{σ hv H U Z τv τd as Q} I h k=>by
 cases h;exact k [] [] [] H U (by rw[eK,eK];exact I) rfl (bH.refl U H) (aJ.refl H) .nil⟩
noncomputable def gn (fp:En->Option Pl) (fr:En->Option (List Ar)) (Z:En):Option (List Ar):=(fp Z).bind λ
 |.rt r p=>(fr Z).map (.io ⟨r,p⟩:: ·)
 |.ro _=>none
instance ajO[P:SP K n te fp][R:tW K n m tr fr]:tW K n (true::m) (di te tr) (gn fp fr):=⟨λ{σ hv H U Z τv τd as Q} I h k=>by
 obtain⟨q,h1,h⟩:=ak.mp h;cases q with
 |ro _=>cases h
 |rt r p=>
  obtain⟨as',h2,h⟩:=aY.mp h;subst h;refine P.s I h1 λv H1 s1 w1=> ?_;have gw:bH U H U H1:=λb o q nu=>⟨s1 b o q,nu⟩
  refine R.s (I.same s1) h2 λvs ws wd H2 U2 I2 hl dJ s2 ao=> ?_;exact k _ ws wd H2 U2 I2 hl (gw.trans dJ) (s1.trans s2) (.io (w1.step s2 dJ) ao)⟩
noncomputable def mr (fe:En->Option D) (fr:En->Option (List Ar)) (Z:En):Option (List Ar):=(fe Z).bind λd=>(fr Z).map (.tm d:: ·)
instance (priority:=200) ajP{m:List Bool}{te:TE}{tr:TA}{fe:En->Option D}{fr:En->Option (List Ar)}[A:SQ K n te fe][R:tW K n m tr fr]:tW K n (false::m) (di te tr) (mr fe fr):=⟨λ{σ hv H U Z τv τd as Q} I h k=>by
 obtain⟨d,h1,h⟩:=ak.mp h;obtain⟨as',h2,h⟩:=aY.mp h;subst h;refine SQ.s I h1 λv H1 U1 I1 bQ s1=> ?_;refine R.s I1 h2 λvs ws wd H2 U2 I2 hl dJ s2 ao=> ?_;refine k _ _ _ H2 U2 ?_ (by rw[c8,c8,hl]) (bQ.trans dJ) (s1.trans s2) (.tm ao);rw[sM,sM τd];exact I2⟩
def fB(fp:En->Option Pl)(fr:En->Option (List Ar))(Z:En):Option (List Ar):=(fp Z).bind λq=>(gi Z q).bind λd=>if plain d=true then(fr Z).map (.tm d:: ·) else(fr Z).map (.rv q d:: ·)
instance (priority:=300) ajQ{m:List Bool}{te:TE}{tr:TA}{fp:En->Option Pl}{fr:En->Option (List Ar)}[P:SP K n te fp][R:tW K n m tr fr]:tW K n (false::m) (di te tr) (fB fp fr):=⟨λ{σ hv H U Z τv τd as Q} I h k=>by
 obtain⟨q,h1,h⟩:=ak.mp h;obtain⟨d,h2,h⟩:=ak.mp h;refine P.s I h1 λv H1 s1 w1=> ?_;have I1:=I.same s1;have gw:bH U H U H1:=λb o q nu=>⟨s1 b o q,nu⟩
 by_cases p:plain d=true
 ·rw[if_pos p]at h;obtain⟨as',h3,h⟩:=aY.mp h;subst h;obtain⟨U1,AS,bQ⟩:=I1.push (aJ.refl H1) (cA.plain (I1.at w1 h2) p);refine R.s AS h3 λvs ws wd H2 U2 I2 hl dJ s2 ao=> ?_;refine k _ _ _ H2 U2 ?_ (by rw[c8,c8,hl]) (gw.trans (bQ.trans dJ)) (s1.trans s2) (.tm ao);rw[sM,sM τd];exact I2
 ·rw[if_neg p]at h;obtain⟨as',h3,h⟩:=aY.mp h;subst h;refine R.s I1 h3 λvs ws wd H2 U2 I2 hl dJ s2 ao=> ?_;exact k _ ws wd H2 U2 I2 hl (gw.trans dJ) (s1.trans s2) (.rv (w1.step s2 dJ) h2 ao)⟩
instance (priority:=1000) ajR{bp:List Bool}{t:TA}{f:En->Option (List Ar)}[S:tW K n bp t f]:SC K n bp t (λZ=>(f Z).map λa=>(a,Z)):=⟨λ{σ hv H U Z ρ' τv τd as Q} I h k=>by
 obtain⟨as',h1,h2⟩:=aY.mp h;cases h2;exact S.s I h1 λvs ws wd H' U' I' hl st s ao=>k vs ws wd H' U' I' hl st ao⟩
noncomputable def cT:List Ar->List Io
 | []=> []
 |.io i::r=>i::cT r
 |.tm _::r=>cT r
 |.rv _ _::r=>cT r
def mY(Z:En):Ar->Option D
 |.io i=>(aV Z i.r).bind (aI · i.p)
 |.tm d=>some d
 |.rv _ d=>some d
def gg(Z:En):List Ar->Option (List D)
 | []=>some []
 |a::r=>(mY Z a).bind λd=>(gg Z r).map (d:: ·)
noncomputable def kX:List Nat->List Nat->Bool
 |a::p,b::q=> !decide (a=b) || kX p q
 |_,_=>false
def kY(L:List Io):Ar->Bool
 |.rv (.rt r p) _=>L.all λi=> !decide (i.r=r) || kX i.p p
 |_=>true
theorem QH:∀{p q:List Nat} {d d1 x:D},kX p q=true->aI d p=some d1->plain x=false->aI (aZ d p x) q=aI d q
 | [],_,_,_,_,h,_,_=>by simp[kX]at h
 |_::_, [],_,_,_,h,_,_=>by simp[kX]at h
 |a::p,b::q, .sc _,d1,x,h,g,hx=>by rw[aI]at g;cases g
 |a::p,b::q, .hl _,d1,x,h,g,hx=>by rw[aI]at g;cases g
 |a::p,b::q, .nd k cs,d1,x,h,g,hx=>by
  rw[aI]at g;by_cases dM:cg k=true/\bI cs=true
  ·rw[if_pos dM]at g;cases g
  rw[if_neg dM]at g;cases hc:cs[a]? with
  |none=>rw[hc]at g;cases g
  |some c=>
   rw[hc]at g;have hn:=(cX.mp hc).1;have e1:aZ (.nd k cs) (a::p) x= .nd k (cs.set a (aZ c p x)):=by rw[aZ,hc]
   have px:=xZ hn (ya g hx);rw[e1,aI,aI,if_neg (by rintro⟨_,z⟩;rw[px]at z;cases z),if_neg dM];by_cases e:a=b
   ·subst e;rw[gK hn,hc];have h:kX p q=true:=by simpa[kX]using h
    exact QH h g hx
   ·rw[gq e]
def j3(Z:En)(L:List Io)(dq:List D):En:=g9 Z (eX (dk Z L (L.map λ_=>V.aG))) L dq
theorem iF.len(h:iF K H U e Z m vs as ws wd):vs.length=m.length/\as.length=m.length/\ws.length=wd.length:=by
 induction h with
 |nil=>exact⟨rfl,rfl,rfl⟩
 |io _ _ ih=>exact⟨congrArg _ ih.1,congrArg _ ih.2.1,ih.2.2⟩
 |tm _ ih=>exact⟨congrArg _ ih.1,congrArg _ ih.2.1,congrArg _ ih.2.2⟩
 |rv _ _ _ ih=>exact⟨congrArg _ ih.1,congrArg _ ih.2.1,ih.2.2⟩
theorem iF.aav(h:iF K H U e Z m vs as ws wd):(bW m vs).length=(cT as).length/\∀(i:Nat) (io:Io) (v:V),(cT as)[i]?=some io->(bW m vs)[i]?=some v->iH K H U e Z v (.rt io.r io.p):=by
 induction h with
 |nil=>exact⟨rfl,λi io v h=>by simp[cT]at h⟩
 | @io m v i vs as ws wd p _ ih=>
  refine⟨by rw[bW,cT,c8,c8,ih.1],λj io u h1 h2=> ?_⟩;rw[cT]at h1;rw[bW]at h2;cases j with
  |zero=>cases h1;cases h2;exact p
  |succ j=>exact ih.2 j io u (by simpa using h1) (by simpa using h2)
 |tm _ ih=>rw[bW,cT];exact ih
 |rv _ _ _ ih=>rw[bW,cT];exact ih
theorem iF.QI(h:iF K H U e Z m vs as ws wd):∀{ds:List D},gg Z as=some ds->ds.length=m.length/\i4 Z (cT as)=some (bW m ds):=by
 induction h with
 |nil=>intro ds q;cases q;exact⟨rfl,rfl⟩
 | @io m v i vs as ws wd p _ ih=>
  intro ds q;rw[gg]at q;obtain⟨x,q1,q⟩:=ak.mp q;obtain⟨r,q2,q⟩:=aY.mp q;subst q;obtain⟨l1,l2⟩:=ih q2;refine⟨congrArg _ l1, ?_⟩;obtain⟨d0,x1,x2⟩:=ak.mp q1;rw[cT,i4,bW,x1];show(aI d0 i.p).bind _=_;rw[x2];show(i4 Z _).map _=_;rw[l2];rfl
 |tm _ ih=>
  intro ds q;rw[gg]at q;obtain⟨x,q1,q⟩:=ak.mp q;obtain⟨r,q2,q⟩:=aY.mp q;subst q;obtain⟨l1,l2⟩:=ih q2;exact⟨congrArg _ l1,l2⟩
 |rv _ _ _ ih=>
  intro ds q;rw[gg]at q;obtain⟨x,q1,q⟩:=ak.mp q;obtain⟨r,q2,q⟩:=aY.mp q;subst q;obtain⟨l1,l2⟩:=ih q2;exact⟨congrArg _ l1,l2⟩
theorem iF.seen(h:iF K H U e Z m vs as ws wd):∀{ds:List D},gg Z as=some ds->(∀(i:Nat) (w:V) (d:D),ws[i]?=some w->wd[i]?=some d->Vw K H N w d)->
  (∀q d v,iH K H U e Z v q->gi Z q=some d->Ar.rv q d∈as->Vw K H N v d)->∀(i:Nat) (v:V) (d:D),m[i]?=some false->vs[i]?=some v->ds[i]?=some d->Vw K H N v d:=by
 induction h with
 |nil=>intro ds q _ _ i v d h;simp at h
 |io _ _ ih=>
  intro ds q hw hs i v d h1 h2 h3;rw[gg]at q;obtain⟨x,q1,q⟩:=ak.mp q;obtain⟨r,q2,q⟩:=aY.mp q;subst q;cases i with
  |zero=>cases h1
  |succ i=>exact ih q2 hw (λq d v a b c=>hs q d v a b (.tail _ c)) i v d (by simpa using h1) (by simpa using h2) (by simpa using h3)
 |tm _ ih=>
  intro ds q hw hs i v d h1 h2 h3;rw[gg]at q;obtain⟨x,q1,q⟩:=ak.mp q;obtain⟨r,q2,q⟩:=aY.mp q;subst q;cases q1;cases i with
  |zero=>cases h2;cases h3;exact hw 0 _ _ rfl rfl
  |succ i=>exact ih q2 (λi w d a b=>hw (i + 1) w d (by simpa using a) (by simpa using b)) (λq d v a b c=>hs q d v a b (.tail _ c)) i v d (by simpa using h1) (by simpa using h2) (by simpa using h3)
 |rv p1 p2 _ ih=>
  intro ds q hw hs i v d h1 h2 h3;rw[gg]at q;obtain⟨x,q1,q⟩:=ak.mp q;obtain⟨r,q2,q⟩:=aY.mp q;subst q;cases q1;cases i with
  |zero=>cases h2;cases h3;exact hs _ _ _ p1 p2 (.head _)
  |succ i=>exact ih q2 hw (λq d v a b c=>hs q d v a b (.tail _ c)) i v d (by simpa using h1) (by simpa using h2) (by simpa using h3)
theorem av.QJ(ia:En):∀{L:List Io} {Z:En} {vs:List V} {dq:List D},av K n H U σ hv Z (τv++vs) (τd++dq)->jF L->vs.length=L.length->dq.length=L.length->
  (∀(i:Nat) (io:Io) (v:V),L[i]?=some io->vs[i]?=some v->∃d0 d1,aV ia io.r=some d0/\aI d0 io.p=some d1/\aV Z io.r=some (aZ d0 io.p (.hl v)))->av K n H U σ hv (g9 ia Z L dq) τv τd
 | [],Z,vs,dq,I,_,h1,h2,_=>by
  have e1:=sN h1;have e2:=sN h2;subst e1;subst e2;rw[eK,eK]at I;exact I
 |io::L,Z, [],dq,I,_,h1,h2,_=>by cases h1
 |io::L,Z,v::vs, [],I,_,h1,h2,_=>by cases h2
 |io::L,Z,v::vs,o::dq,I,ha,h1,h2,hq=>by
  have ap:=FQ.mp ha;obtain⟨d0,d1,q1,q2,q3⟩:=hq 0 io v rfl rfl;have I1:=(I.QD (by have:=eF h1;have:=eF h2;lia)).back q3 (HC q2 rfl);rw[HD q2]at I1;rw[g9,q1];refine I1.QJ ia ap.2 (eF h1) (eF h2) λi j u hj hu=> ?_;obtain⟨e0,e1,x1,x2,x3⟩:=hq (i + 1) j u (by simpa using hj) (by simpa using hu);exact⟨e0,e1,x1,x2,by rw[rP (ap.1 j (jr hj))];exact x3⟩
theorem H9(ia:En):∀(Z:En) (L:List Io) (dq:List D),(g9 ia Z L dq).length=Z.length
 |Z, [],_=>by simp only[g9]
 |Z,io::L, []=>by simp only[g9]
 |Z,io::L,o::os=>by
  rw[g9];cases aV ia io.r with
  |none=>rfl
  |some d0=>show(g9 ia _ L os).length=_;rw[H9,bN]
theorem QK(ia:En):∀{L:List Io} {ρ1 ai:En} {dq:List D},ρ1.length=ai.length->dq.length=L.length->(∀io∈L,∃d0,aV ia io.r=some d0)->(∀io∈L,io.r < ρ1.length)->(∀(i:Nat) (β:B),(∀io∈L,io.r≠i)->ρ1[i]?=some (some β)->ai[i]?=some (some β))->
  ∀(i:Nat) (β:B),(g9 ia ρ1 L dq)[i]?=some (some β)->(g9 ia ai L dq)[i]?=some (some β)
 | [],ρ1,ai,dq,_,_,_,_,h,i,β,q=>by
  exact h i β (λ_ z=>nomatch z) q
 |io::L,ρ1,ai, [],_,h,_,_,_,_,_,_=>by cases h
 |io::L,ρ1,ai,o::os,hl,h2,hr,dS,h,i,β,q=>by
  obtain⟨d0,e0⟩:=hr io (.head _);rw[g9,e0]at q |-;refine QK ia (by rw[bN,bN];exact hl) (eF h2) (λj hj=>hr j (.tail _ hj)) (λj hj=>by rw[bN];exact dS j (.tail _ hj)) (λj γ hj z=> ?_) i β q;by_cases c:io.r=j
  ·subst c;have:=dS io (.head _);rw[gK this]at z;rw[gK (by lia)];exact z
  ·rw[gq c]at z |-;exact h j γ (λk hk=>by
    cases hk with
    |head=>exact c
    |tail _ hk=>exact hj k hk) z
theorem av.weaken(I:av K n H U σ hv ai τv τd)(hl:Z.length=ai.length)(w:∀(i:Nat) (β:B),Z[i]?=some (some β)->ai[i]?=some (some β)):av K n H U σ hv Z τv τd:=by
 have l:=I.len;refine⟨?_,by rw[hl];exact l,I.nn⟩;rw[hl];refine I.ok.weaken (by simp[hl]) λi β h=> ?_;by_cases hi:i < Z.length
 ·rw[aU hi]at h;rw[aU (by lia)];exact w i β h
 ·rw[br (by lia)]at h;rw[br (by lia), <- hl];exact h
theorem av.sets(I:av K n H U σ hv Z (τv++ws) (τd++wd))(hl:ws.length=wd.length)(i:Nat){d:D}(h1:ws[i]?=some w)(h2:wd[i]?=some d):(σ++hv++(τv++ws).map some)[Z.length + τd.length + i]?=some (some w)/\(Z++bU (τd++wd))[Z.length + τd.length + i]?=some (some (.own d)):=by
 have l:=I.len;have tl:=I.tl;have tl:τv.length=τd.length:=by simp at tl;lia
 constructor
 ·rw[br (by simp;lia),bJ,br (by simp;lia)];rw[show Z.length + τd.length + i - (σ++hv).length - τv.length=i by simp;lia,h1];rfl
 ·unfold bU;rw[br (by lia),bJ,br (by lia)];rw[show Z.length + τd.length + i - Z.length - τd.length=i by lia,h2];rfl
def fL(G:List D->Option (D×List D))(as:List Ar)(ρ1:En):Option (D×En):=(gg ρ1 as).bind λds=>
 if jF (cT as)/\as.all (kY (cT as))=true then(G ds).bind λr=>if r.2.length=(cT as).length then some (r.1,j3 ρ1 (cT as) r.2) else none else none
theorem av.Ia{G:List D->Option (D×List D)}{Q:VK}{ρ1:En}(I1:av K n H1 U1 σ hv ρ1 (τv++ws) (τd++wd))(hl:ws.length=wd.length)(bQ:bH U H U1 H1)(ao:iF K H1 U1 (σ++hv) ρ1 bp vs as ws wd)
  (h:fL G as ρ1=some (d,ρ')) (k:∀v H' U',av K n H' U' σ hv ρ' (τv++ [v]) (τd++ [d])->bH U H U' H'->Q v H'):dW K bp G vs H1 Q E:=by
 obtain⟨ds,h2,h⟩:=ak.mp h;have c:jF (cT as)/\as.all (kY (cT as))=true:=by
  by_cases c:jF (cT as)/\as.all (kY (cT as))=true
  ·exact c
  ·rw[if_neg c]at h;cases h
 rw[if_pos c]at h;obtain⟨⟨d',dq⟩,h3,h⟩:=ak.mp h;have h:(if dq.length=(cT as).length then some (d',j3 ρ1 (cT as) dq) else none)=some (d,ρ'):=h;have co:dq.length=(cT as).length:=by
  by_cases co:dq.length=(cT as).length
  ·exact co
  ·rw[if_neg co]at h;cases h
 rw[if_pos co]at h;cases h;have dw:=ao.len;obtain⟨il,aaw⟩:=ao.aav;obtain⟨dl,Ib⟩:=ao.QI h2;have I2:=I1.QE c.1 Ib il aaw;have l2:=I2.len;have Ic:=I1.tl;have lh:(dk ρ1 (cT as) (bW bp vs)).length=ρ1.length:=vS _ _ _;have aax:(bW bp vs).length=(bW bp ds).length:=DN dw.1 dl
 -- what is QI is parted from all else
 have HM:bT K H1 U1 ρ1.length ((σ++hv++(τv++ws).map some)++(bW bp vs).map some) ((dk ρ1 (cT as) (bW bp vs)++bU (τd++wd))++bU (bW bp ds)):=by
  have:=I2.ok;rw[lh,cK,cK (l₁:=τd++wd), <- b8, <- b8]at this;exact this
 have lE:(σ++hv++(τv++ws).map some).length=(dk ρ1 (cT as) (bW bp vs)++bU (τd++wd)).length:=by
  unfold bU;have l1:=I1.len;simp[lh]at Ic |-
  lia
 have hm:ρ1.length<=(σ++hv++(τv++ws).map some).length:=by have l1:=I1.len;simp;lia
 obtain⟨Ut,su,aay,seen,back⟩:=HM.call lE hm (vO _);have yb:=HY Ib;refine⟨dw.1,ds,Ut,d,dq,dl,aay,ao.seen h2 (λi w x hw hx=> ?_) (λq x u pq pd mem=> ?_),h3,λv H2 U2 DK gZ=> ?_⟩
 ·-- what is under way
  obtain⟨g1,g2⟩:=I2.drop (vs:=bW bp vs) (ds:=bW bp ds) aax |>.sets hl i hw hx;rw[lh]at g1;obtain⟨F,r,nf⟩:=(seen _ w x g1).1 (by rw[lh]at g2;exact g2);exact r.view nf
 ·-- what is only seen
  cases q with
  |ro y=>
   have pd:some y=some x:=pd;cases pd;have pq:Vw K H1 (λb=>¬ U1 b) u x:=pq;exact pq.mono λb nb z=>nb (su b z)
  |rt r p=>
   obtain⟨hr,vr,d0,er,rR,hg,hp⟩:=pq;have QL:(aV ρ1 r).bind (aI · p)=some x:=pd;rw[rR]at QL;have QM:aI d0 p=some x:=QL;have AU:(σ++hv++(τv++ws).map some)[r]?=some (some vr):=by rw[aU (by have l1:=I1.len;simp;lia)];exact er
   have aaz:∀io∈cT as,io.r≠r\/kX io.p p=true:=by
    have:=gA.mp c.2 _ mem;have:=gA.mp this;intro io rS;have:=this io rS;by_cases z:io.r=r
    ·right;simpa[z]using this
    ·left;exact z
   by_cases AV:∃(i:Nat) (io:Io),(cT as)[i]?=some io/\io.r=r
   ·obtain⟨i,io,hi,e⟩:=AV;subst e;obtain⟨v2,Ie,q⟩:=HZ (vs:=bW bp vs) c.1 il hi rR λj hj=>let ⟨a,_,b,_⟩:=yb j hj;⟨a,b⟩;obtain⟨a0,a1,b0,b1⟩:=yb io (jr hi);rw[rR]at b0;cases b0;have q':=kS q;obtain⟨F,rr,nf⟩:=(seen io.r vr _ AU).1 (by rw[aU (by lia)];exact q');have ap:=(aaz io (jr hi)).resolve_left λz=>z rfl;exact rr.sub (by rw[QH ap b1 rfl];exact QM) hp nf
   ·have q:(dk ρ1 (cT as) (bW bp vs))[r]?=some (some (.own d0)):=by
     rw[DO λio rS z=>by
      obtain⟨i,hi⟩:=List.mem_iff_getElem?.mp rS;exact AV ⟨i,io,hi,z⟩]
     exact kS rR
    obtain⟨F,rr,nf⟩:=(seen r vr _ AU).1 (by rw[aU (by lia)];exact q);exact rr.sub QM hp nf
 ·-- all is given back
  obtain⟨U3,DQ,g8⟩:=back H2 U2 _ _ DK gZ λb hb=>by
   cases hb with
   |head=>exact .inr ⟨d,rfl⟩
   |tail _ hb=>exact Z8 dq b hb
  have I3:av K n H2 U3 σ hv (eX (dk ρ1 (cT as) (bW bp vs))) (τv++ws++(v::bW bp vs)) (τd++wd++(d::dq)):=by
   refine⟨?_,by rw[iE,lh];exact I1.len,I1.nn⟩;rw[iE,lh];have aaA:bT K H2 U3 ρ1.length (σ++hv++(τv++ws).map some++(v::bW bp vs).map some) ((eX (dk ρ1 (cT as) (bW bp vs))++bU (τd++wd))++bU (d::dq)):=by
    refine DQ.weaken (by rw[dg,dg,dg,iE,iE,dg];rfl) λi β aw=> ?_;by_cases hi:i < ρ1.length + (τd++wd).length
    ·rw[aU (by simp[iE,bU,lh]at hi |-;lia)]at aw;rw[aU (by simp[iE,bU,lh]at hi |-;lia)];exact Qq (vO _) i β aw
    ·rw[br (by simp[iE,bU,lh]at hi |-;lia)]at aw;rw[br (by simp[iE,bU,lh]at hi |-;lia)];simp[iE,bU,lh]at aw |-;exact aw
   rw[cK (l₁:=τv++ws),cK (l₁:=τd++wd), <- b8, <- b8];exact aaA
  have I4:=I3.aaq hl (by rw[c8,c8,il,co]);have I5:av K n H2 U3 σ hv (eX (dk ρ1 (cT as) (bW bp vs))) (τv++ [v]++bW bp vs) (τd++ [d]++dq):=by
   rw[<- sM, <- sM];exact I4
  have I6:=I5.QJ ρ1 (L:=cT as) c.1 il co λi io u hi hu=>by
   obtain⟨a0,a1,b0,b1⟩:=yb io (jr hi);obtain⟨v2,Ie,q⟩:=HZ (vs:=bW bp vs) c.1 il hi b0 λj hj=>let ⟨a,_,b,_⟩:=yb j hj;⟨a,b⟩;rw[hu]at Ie;cases Ie;exact⟨a0,a1,b0,b1,by unfold aV;rw[Qp (kS q)]⟩
  refine k v H2 U3 (I6.weaken ?_ ?_) (bQ.trans g8)
  ·unfold j3;rw[H9,H9,iE,iE,vS,vS]
  ·unfold j3;refine QK ρ1 (by rw[iE,iE,vS,vS]) co (λio rS=>let ⟨a,_,b,_⟩:=yb io rS;⟨a,b⟩) (λio rS=> ?_) λi β hi aw=> ?_
   ·obtain⟨a,_,b,_⟩:=yb io rS;rw[iE,vS];exact(cX.mp (kS b)).1
   ·unfold eX at aw |-;rw[bJ,DO hi]at aw |-;rw[<- aw];have sim:tV (dk ρ1 (cT as) (bW bp vs)) (dk ρ1 (cT as) ((cT as).map λ_=>V.aG)):=aau c.1 Ib il (by simp)
    congr 1
    funext b;exact aas sim b
instance ajS[A:SC K n bp ta fa]:SM K n (og (dW K bp G) [] E ta) (λZ=>(fa Z).bind λa=>fL G a.1 a.2):=⟨λ{σ hv H U Z ρ' τv τd d Q} I h k=>by
 obtain⟨⟨as,ρ1⟩,h1,h⟩:=ak.mp h;refine A.s I h1 λvs ws wd H1 U1 I1 hl bQ ao=> ?_;rw[eK];exact I1.Ia hl bQ ao h k⟩
def jG(K:ah)(H H':Hp)(vs:List V)(ds:List D):Prop:=vs.length=ds.length/\∃Fs:Nat->Addr->Prop,(∀i j b,Fs i b->Fs j b->i=j)/\(∀i b,Fs i b->H b=none/\iB (H' b))/\∀(i:Nat) (v:V) (d:D),vs[i]?=some v->ds[i]?=some d->bg K H' (Fs i) v d
theorem jG.nil:jG K H H' [] []:=⟨rfl,λ_ _=>False,λ_ _ _ z=>z.elim,λ_ _ z=>z.elim,λi v d h=>by simp at h⟩
theorem jG.cons(o:cA K H H1 v d)(s1:aJ H1 H2)(t:jG K H1 H2 vs ds)(s0:aJ H H1):jG K H H2 (v::vs) (d::ds):=by
 obtain⟨G,r,f⟩:=o;obtain⟨hl,Fs,dj,fr,rp⟩:=t;have Gn:∀b,G b->∀i,¬ Fs i b:=λb z i w=>by
  obtain⟨u,q⟩:=rN (f b z).2;rw[(fr i b w).1]at q;cases q
 refine⟨by rw[c8,c8,hl],λi b=>match i with | 0=>G b | i + 1=>Fs i b,λi j b hi hj=> ?_,λi b hb=> ?_,λi x y hx hy=> ?_⟩
 ·cases i with
  |zero=>cases j with
   |zero=>rfl
   |succ j=>exact absurd hj (Gn b hi j)
  |succ i=>cases j with
   |zero=>exact absurd hi (Gn b hj i)
   |succ j=>rw[dj i j b hi hj]
 ·cases i with
  |zero=>exact⟨(f b hb).1,AL (f b hb).2 s1⟩
  |succ i=>
   refine⟨?_,(fr i b hb).2⟩;cases q:H b with
   |none=>rfl
   |some o=>have:=(fr i b hb).1;rw[s0 b o q]at this;cases this
 ·cases i with
  |zero=>cases hx;cases hy;exact r.same s1
  |succ i=>exact rp i x y (by simpa using hx) (by simpa using hy)
theorem jG.node(h:jG K H H1 vs ds)(s:aJ H H1)(hp:H1 p=none)(hold:(k= .tup/\o= .tup vs)\/(cg k=false/\fits K k vs.length/\∃dx,o=ho k dx vs)):cA K H (upd H1 p o) (.ref p) (.nd k ds):=by
 obtain⟨hl,Fs,dj,fr,rp⟩:=h;have s2:=fE hp o;have np:∀i,¬ Fs i p:=λi z=>by
  obtain⟨u,w⟩:=rN (fr i p z).2;rw[hp]at w;cases w
 have aaB:=s.free hp;refine⟨λb=>(∃i,Fs i b)\/(cg k=false/\b=p), .nd Fs ?_ hl dj (λi b hb=>⟨.inl ⟨i,hb⟩,λ_ z=>by rw[z]at hb;exact np i hb⟩) λi v d hv hd=>(rp i v d hv hd).same s2,λb hb=> ?_⟩
 ·rcases hold with⟨h1,h2⟩ | ⟨h1,h2,dx,h3⟩
  ·subst h1;show upd H1 p o p=some _;rw[de,h2]
  ·exact jB.put h1 (.inr ⟨h1,rfl⟩) ⟨h1,h2,dx,by rw[de,h3]⟩
 ·rcases hb with⟨i,hb⟩ | ⟨h1,rfl⟩
  ·exact⟨(fr i b hb).1,AL (fr i b hb).2 s2⟩
  ·refine⟨aaB, ?_⟩;rcases hold with⟨z,_⟩ | ⟨_,_,dx,h3⟩
   ·subst z;cases h1
   ·rw[de,h3];exact Ql (a:=b) h1
class yc(K:ah)(n:Nat)(t:TA)(f:outParam (En->Option (List D))):Prop where
 s:∀{σ hv:List (Option V)} {H:Hp} {U:Addr->Prop} {Z:En} {τv:List V} {τd:List D} {ds:List D} {Q:List V->Hp->Prop},av K n H U σ hv Z τv τd->f Z=some ds->(∀vs H',aJ H H'->jG K H H' vs ds->Q vs H')->t σ H Q
instance ajT:yc K n fz (λ_=>some []):=⟨λI h k=>by cases h;exact k [] _ (aJ.refl _) .nil⟩
instance ajU[A:SQ K n ta fa][R:yc K n tr fr]:yc K n (di ta tr) (ar fa fr):=⟨λ{σ hv H U Z τv τd ds Q} I h k=>by
 obtain⟨a,ha,h⟩:=ak.mp h;obtain⟨r,hr,h⟩:=aY.mp h;cases h;refine A.o I ha λx H1 s1 o1=> ?_;exact R.s (I.same s1) hr λxs H2 s2 o2=>k _ H2 (s1.trans s2) (jG.cons o1 s2 o2 s1)⟩
noncomputable def d7 (k:Kd) (f:En->Option (List D)) (Z:En):Option D:=(f Z).bind λr=>if r.length<=aM then some (.nd k r) else none
instance ajV[A:yc K n ta fa]:SF K n (Ai ta) (d7 .tup fa):=⟨λ{σ hv H U Z τv τd d Q} I h k=>by
 obtain⟨a,ha,h⟩:=ak.mp h;by_cases c:a.length<=aM
 ·rw[if_pos c]at h;cases h;refine A.s I ha λxs H1 s1 o=>⟨by rw[o.1];exact c,λp hp=> ?_⟩
  exact k _ _ (s1.trans (fE hp _)) (o.node s1 hp (.inl ⟨rfl,rfl⟩))
 ·rw[if_neg c]at h;cases h⟩
instance ajW[A:yc K n ta fa]:SF K n (ahd ta) (d7 .lst fa):=⟨λ{σ hv H U Z τv τd d Q} I h k=>by
 obtain⟨a,ha,h⟩:=ak.mp h;by_cases c:a.length<=aM
 ·rw[if_pos c]at h;cases h;refine A.s I ha λxs H1 s1 o=>⟨by rw[o.1];exact c,λp hp=> ?_⟩
  exact k _ _ (s1.trans (fE hp _)) (o.node s1 hp (.inr ⟨rfl,trivial,0,rfl⟩))
 ·rw[if_neg c]at h;cases h⟩
theorem dm.node(h:dm K H T1 vs ds)(hp:H p=none)(hold:(k= .tup/\o= .tup vs)\/(cg k=false/\fits K k vs.length/\∃dx,o=ho k dx vs)):Vw K (upd H p o) T1 (.ref p) (.nd k ds):=by
 refine .nd (λ_=>trivial) ?_ h.1 λi v d hv hd=>(h.2 i v d hv hd).same (fE hp o);rcases hold with⟨h1,h2⟩ | ⟨h1,h2,dx,h3⟩
 ·subst h1;exact⟨trivial,by show upd H p o p=some _;rw[de,h2]⟩
 ·exact qt.cell ⟨h1,h2,dx,by rw[de,h3]⟩
instance (priority:=800) ajX{ta:TA}{fa:En->Option (List D)}[A:SA K n ta fa]:SV K n (Ai ta) (d7 .tup fa):=⟨λ{σ hv H U Z τv τd d Q} I h k=>by
 obtain⟨a,ha,h⟩:=ak.mp h;by_cases c:a.length<=aM
 ·rw[if_pos c]at h;cases h;refine A.s I ha λxs H1 s1 o=>⟨by rw[o.1];exact c,λp hp=> ?_⟩
  exact k _ _ (s1.trans (fE hp _)) (o.node hp (.inl ⟨rfl,rfl⟩))
 ·rw[if_neg c]at h;cases h⟩
instance (priority:=800) ajY{ta:TA}{fa:En->Option (List D)}[A:SA K n ta fa]:SV K n (ahd ta) (d7 .lst fa):=⟨λ{σ hv H U Z τv τd d Q} I h k=>by
 obtain⟨a,ha,h⟩:=ak.mp h;by_cases c:a.length<=aM
 ·rw[if_pos c]at h;cases h;refine A.s I ha λxs H1 s1 o=>⟨by rw[o.1];exact c,λp hp=> ?_⟩
  exact k _ _ (s1.trans (fE hp _)) (o.node hp (.inr ⟨rfl,trivial,0,rfl⟩))
 ·rw[if_neg c]at h;cases h⟩
open Classical in
noncomputable def intD (C:Int->Int->Prop) (g:Int->Int->V) (a b:D):Option D:=match a,b with
 |.sc (.int i), .sc (.int j)=>if C i j then some (.sc (g i j)) else none
 |_,_=>none
noncomputable def iO (g:Int->Int->V) (a b:D):Option D:=match a,b with
 |.sc (.int i), .sc (.int j)=>some (.sc (g i j))
 |_,_=>none
instance ajZ:jD K (qj g) (iO g):=⟨λ{H x y dx dy d Q} w1 w2 h k=>by
 unfold iO at h
 split at h
 ·next i j=>cases h;exact⟨i,j,w1.bA,w2.bA,k _ H (aJ.refl H) (.sc _)⟩
 ·cases h⟩
instance aj0:jD K (rI C g) (intD C g):=⟨λ{H x y dx dy d Q} w1 w2 h k=>by
 unfold intD at h
 split at h
 ·next i j=>
  by_cases c:C i j
  ·rw[if_pos c]at h;cases h;exact⟨i,j,w1.bA,w2.bA,c,k _ H (aJ.refl H) (.sc _)⟩
  ·rw[if_neg c]at h;cases h
 ·cases h⟩
mutual
noncomputable def cy:D->Option PyData
 |.sc .aG=>some .none
 |.sc (.bl b)=>some (.bool b)
 |.sc (.int i)=>some (.int i)
 |.sc (.str x)=>some (.str x)
 |.nd .tup cs=>(ky cs).map .tuple
 |.nd .lst cs=>(ky cs).map .list
 |.nd .dA cs=>(ky cs).map .list
 |_=>none
noncomputable def ky:List D->Option (List PyData)
 | []=>some []
 |d::ds=>(cy d).bind λx=>(ky ds).map (x:: ·)
end
theorem DR:∀{ds:List D} {vs:List V} {ps:List PyData},vs.length=ds.length->(∀(i:Nat) (v:V) (d:D) (p:PyData),vs[i]?=some v->ds[i]?=some d->cy d=some p->jW K H v p)->ky ds=some ps->vG K H vs ps
 | [], [],_,_,_,h=>by rw[ky]at h;cases h;exact .nil
 | [],_::_,_,h,_,_=>by cases h
 |_::_, [],_,h,_,_=>by cases h
 |d::ds,v::vs,ps,hl,hk,h=>by
  rw[ky]at h;obtain⟨x,h1,h⟩:=ak.mp h;obtain⟨r,h2,h⟩:=aY.mp h;subst h;exact .cons (hk 0 v d x rfl rfl h1) (DR (eF hl) (λi v d p a b c=>hk (i + 1) v d p (by simpa using a) (by simpa using b) c) h2)
theorem Vw.py(h:Vw K H N v d):∀{p:PyData},cy d=some p->jW K H v p:=by
 induction h with
 |sc v=>
  intro p e;cases v with
  |aG=>rw[cy]at e;cases e;exact .aG
  |bl b=>rw[cy]at e;cases e;exact .bl b
  |int i=>rw[cy]at e;cases e;exact .int i
  |str x=>rw[cy]at e;cases e;exact .str x
  |uZ _=>simp[cy]at e
  |kl _=>simp[cy]at e
  |ref _=>simp[cy]at e
  |ty _=>simp[cy]at e
 |hl v=>intro p e;simp[cy]at e
 | @nd a k vs cs h1 h2 h3 _ ih=>
  intro p e;cases k with
  |tup=>
   rw[cy]at e;obtain⟨ps,e1,e2⟩:=aY.mp e;subst e2;exact .tup (cE.of h2.2) (DR h3 (λi v d p x y z=>ih i v d x y z) e1)
  |lst=>
   rw[cy]at e;obtain⟨ps,e1,e2⟩:=aY.mp e;subst e2;exact .lst (.inl (.inl h2.2)) (DR h3 (λi v d p x y z=>ih i v d x y z) e1)
  |dA=>
   rw[cy]at e;obtain⟨ps,e1,e2⟩:=aY.mp e;subst e2;exact .lst (jA.sq h2.2) (DR h3 (λi v d p x y z=>ih i v d x y z) e1)
  |_=>simp[cy]at e
def ye(K:ah):R2:=λx y H Q=>∃dx dy,jW K H x dx/\jW K H y dy/\dx.canLay0=true/\dy.canLay0=true/\dx.depth<=60/\Q (.bl (d9 dx dy)) H
def AW(K:ah):R2:=λx y H Q=>∃dx dy,jW K H x dx/\jW K H y dy/\dx.canLay0=true/\dy.canLay0=true/\dx.depth<=60/\Q (.bl (!d9 dx dy)) H
theorem DS(hu:X.A.units + 64 < cLine):cu X (compareOp .Eq) (ye X.K):=Zh hu
theorem Ig(hu:X.A.units + 64 < cLine):cu X (compareOp .NotEq) (AW X.K):=Zi hu
def dN(g:Bool->Bool)(a b:D):Option D:=(cy a).bind λx=>(cy b).bind λy=>if x.canLay0=true/\y.canLay0=true/\x.depth<=60 then some (.sc (.bl (g (d9 x y)))) else none
instance aj2:jD K (ye K) (dN id):=⟨λ{H x y dx dy d Q} w1 w2 h k=>by
 obtain⟨a,h1,h⟩:=ak.mp h;obtain⟨b,h2,h⟩:=ak.mp h;by_cases c:a.canLay0=true/\b.canLay0=true/\a.depth<=60
 ·rw[if_pos c]at h;cases h;exact⟨a,b,w1.py h1,w2.py h2,c.1,c.2.1,c.2.2,k _ H (aJ.refl H) (.sc _)⟩
 ·rw[if_neg c]at h;cases h⟩
instance aj3:jD K (AW K) (dN (!·)):=⟨λ{H x y dx dy d Q} w1 w2 h k=>by
 obtain⟨a,h1,h⟩:=ak.mp h;obtain⟨b,h2,h⟩:=ak.mp h;by_cases c:a.canLay0=true/\b.canLay0=true/\a.depth<=60
 ·rw[if_pos c]at h;cases h;exact⟨a,b,w1.py h1,w2.py h2,c.1,c.2.1,c.2.2,k _ H (aJ.refl H) (.sc _)⟩
 ·rw[if_neg c]at h;cases h⟩
end
end VL
namespace L2
open PySem PySem.Spec PyProof.Rows
section
end
theorem lQ:([x]:List Str).Nodup:=jP.mpr ⟨dh,aow⟩
def j4(K:ah)(T:String):List V->Hp->VK->Prop:=λxs H Q=>∃x t b,xs= [x, .ty T]/\kP K H x t/\xg K t (.type T)=some b/\Q (.bl b) H
theorem tX:fT X (.builtin "isinstance") (j4 X.K T):=YJ
theorem aaC(K:ah)(a b:String)(h1:((w9 a) == (w9 b))=false)(h2:W.kitMeta b=true)(h3:(fastBuiltinMro a).map (·.contains (.type b))=some false):xg K (.type a) (.type b)=some false:=by
 unfold xg;rw[h1,if_neg (by simp)];show(if W.kitMeta b=true then W.subIn K (.type a) (.type b) else none)=some false;rw[if_pos h2];exact h3
section
variable (K:ah)
end
section
theorem DT{K:ah}(hK:X.K=K){k:Nat}{pos:Pos}(hc:X.calm=true)(h:zG X es t)(hn:(wR es X.env).length=n:=by rfl)(Ge:(wR es X.env).findIdx? (·.1)=none:=by rfl):
  PG X (.Tuple es k pos) (apF K n t):=by
 subst hK;exact WI hc h hn Ge
end
end L2
namespace VL
open PySem PySem.Spec PyProof.Rows L2
section
variable {κ:Type}[DecidableEq κ]
noncomputable def cM (k:κ):List κ->Option Nat
 | []=>none
 |g::r=>if g=k then some 0 else(cM k r).map (· + 1)
theorem DU:∀{ks:List κ} {vs:List V},ks.length=vs.length->mT (ks.zip vs) k=(cM k ks).bind (vs[·]?)
 | [], [],_=>rfl
 | [],_::_,h=>by cases h
 |_::_, [],h=>by cases h
 |g::r,v::vs,h=>by
  rw[nV,cM];by_cases c:g=k
  ·rw[C6 (by exact c),if_pos c];rfl
  ·rw[C7 (by exact c),if_neg c,DU (eF h)];cases cM k r with
   |none=>rfl
   |some i=>simp
theorem AX:∀{ks:List κ} {i:Nat},cM k ks=some i->i < ks.length
 | [],_,h=>by cases h
 |g::r,i,h=>by
  rw[cM]at h;by_cases c:g=k
  ·rw[if_pos c]at h;cases h;exact V3 _
  ·rw[if_neg c]at h;obtain⟨j,h1,h2⟩:=aY.mp h;subst h2;exact V4 (AX h1)
theorem Ih:∀{ks:List κ} {vs:List V},ks.length=vs.length->((ks.zip vs).any λkv=>decide (kv.1=k))=(cM k ks).isSome
 | [], [],_=>rfl
 | [],_::_,h=>by cases h
 |_::_, [],h=>by cases h
 |g::r,v::vs,h=>by
  rw[nV,cM,uR];by_cases c:g=k
  ·rw[if_pos c];simp[c]
  ·rw[if_neg c,Ih (eF h)];cases cM k r <;> simp[c]
end
noncomputable def kJ:D->Option bc
 |.sc (.int i)=>some (.inl i)
 |.sc (.str x)=>some (.inr x)
 |_=>none
def wM:List D->Option (List bc)
 | []=>some []
 |d::r=>(kJ d).bind λk=>(wM r).map (k:: ·)
section
variable {K:ah}{n:Nat}{H H' H1 H2:Hp}{U U':Addr->Prop}{σ hv:List (Option V)}{Z ρ':En}{τv vs:List V}{τd ds:List D}{v y:V}{d:D}{N:Addr->Prop}
theorem Vw.key(h:Vw K H N v d)(e:kJ d=some k):v=kV k:=by
 unfold kJ at e
 split at e
 ·cases e;exact h.bA
 ·cases e;exact h.bA
 ·cases e
theorem Ii:∀{cs:List D} {vs:List V} {ks:List bc},vs.length=cs.length->(∀(i:Nat) (v:V) (d:D),vs[i]?=some v->cs[i]?=some d->Vw K H N v d)->wM cs=some ks->vs=ks.map kV
 | [], [],_,_,_,h=>by rw[wM]at h;cases h;rfl
 | [],_::_,_,h,_,_=>by cases h
 |_::_, [],_,h,_,_=>by cases h
 |d::cs,v::vs,ks,hl,hk,h=>by
  rw[wM]at h;obtain⟨x,h1,h⟩:=ak.mp h;obtain⟨r,h2,h⟩:=aY.mp h;subst h;rw[cP,(hk 0 v d rfl rfl).key h1,Ii (eF hl) (λi v d a b=>hk (i + 1) v d (by simpa using a) (by simpa using b)) h2]
def fW(d i:D):Option (Option Nat):=match d,i with
 |.nd (.aO ks) _,i=>(kJ i).map λk=>cM k ks
 |.nd (.lM ks) _, .nd .tup cs=>(wM cs).map λk=>cM k ks
 |_,_=>none
theorem iT.DV(hc:iT K H a k vs)(hl:vs.length=cs.length)(w:Vw K H N y dy)(h:fW (.nd k cs) dy=some o):rH H a y (o.bind (vs[·]?)):=by
 unfold fW at h
 split at h
 ·next ks _ i e=>
  cases e;obtain⟨kk,h1,h2⟩:=aY.mp h;subst h2;exact .inl ⟨_,kk,hc.2,w.key h1,(DU hc.1).symm⟩
 ·next ks _ fU e=>
  cases e;obtain⟨kk,h1,h2⟩:=aY.mp h;subst h2;obtain⟨b,us,rfl,_,hb,rC,bB⟩:=w.node;have e:=Ii rC bB h1;exact .inr ⟨_,kk,b,hc.2,rfl,by rw[<- e];exact hb.2,(DU hc.1).symm⟩
 ·cases h
theorem iT.aaD(hc:iT K H a k vs)(h:fW (.nd k cs) dy=some (some i)):i < vs.length:=by
 unfold fW at h
 split at h
 ·next ks _ i e=>
  cases e;obtain⟨kk,h1,h2⟩:=aY.mp h;have:=AX h2;have:=hc.1;unfold fits at this
  lia
 ·next ks _ fU e=>
  cases e;obtain⟨kk,h1,h2⟩:=aY.mp h;have:=AX h2;have:=hc.1;unfold fits at this
  lia
 ·cases h
theorem iT.QN(hc:iT K H a k vs)(h:fW (.nd k cs) dy=some o):(o.bind (vs[·]?)).isSome=o.isSome:=by
 cases o with
 |none=>rfl
 |some i=>
  show(vs[i]?).isSome=true;rw[dH (hc.aaD h)];rfl
def QO:R2:=λx y H Q=>∃a v,x= .ref a/\rH H a y (some v)/\Q v H
def DW(K:ah):R2:=λx y H Q=>GI K x y H Q\/QO x y H Q
theorem aaE(hu:X.A.units + 1 < cLine):mR X QO:=by
 intro value slice ab s σ H x y v u Q I rx ry h hs;obtain⟨a,w,rfl,g,q⟩:=h;cases rx;have hT:=YD I g;refine az ?_;rw[getitemInPython_of_ne hT.not_modules];refine az (wpAny_specialOf hT PySem.F.slot_dict_getitem.lookup ?_);have c5:wpAny (model X.prog X.w) X.A (subscripted slice false (.ref a) u) (λr pG=>wpAny (model X.prog X.w) X.A (letTemporaryGo value (.ref a) r >>= λ_=>pure r) (EP X ab σ Q) X.xe pG) X.xe s:=by
  rw[hs];exact wpAny_operating (Yx hu I g ry λw' s3 I3 km=>az (wpAny_letTemporaryGo (bF ⟨w,H,I3,km,q⟩)))
 first
  |exact bF (az c5)
  |exact az _
  |exact az c5
theorem QP(hu:X.A.units + 1 < cLine):mR X (DW X.K):=mR.or XT (aaE hu)
def ay(d i:D):Option Nat:=match mq d i with
 |some j=>some j
 |none=>(fW d i).join
instance aj4:tU K (DW K) ay aN where
 t:=λw2 h q=> .inl (Qw.t w2 h q)
 s:=λ{H a k vs cs y u dy i Q} hc hl w2 h hu q=>by
  unfold ay at h
  split at h
  ·next j e=>cases h;exact .inl (Qw.s hc hl w2 e hu q)
  ·cases e:fW _ dy with
   |none=>rw[e]at h;cases h
   |some o=>
    rw[e]at h;subst h;have g:=hc.DV hl w2 e;have:(some i).bind _=some u:=hu;rw[this]at g;exact .inr ⟨a,u,rfl,g,q⟩
def aaF:R2:=λx y H Q=>∃i j,x= .str i/\y= .str j/\Q (.bl (!(Nz j i 0 j.length 1).isEmpty)) H
def DX(g:Bool->Bool):R2:=λx y H Q=>∃a o,y= .ref a/\rH H a x o/\Q (.bl (g o.isSome)) H
theorem aaG(hu:X.A.units + 1 < cLine):cu X (compareOp .In) (DX id):=by
 intro ab s σ H x y v u Q I rx ry h;obtain⟨a,o,rfl,g,q⟩:=h;cases ry;exact Yy hu I g rx λs3 I3=>⟨.bl o.isSome,H,I3,rfl,q⟩
theorem cu.or(h:cu X f r)(h':cu X f r'):cu X f (λx y H Q=>r x y H Q\/r' x y H Q):=by
 intro ab s σ H x y v u Q I rx ry q;rcases q with q | q
 ·exact h ab s σ H x y v u Q I rx ry q
 ·exact h' ab s σ H x y v u Q I rx ry q
def Ij(K:ah):R2:=λx y H Q=>C0 K false x y H Q\/DX id x y H Q\/aaF x y H Q
theorem aaI(hu:X.A.units + 1 < cLine):cu X (compareOp .In) (Ij X.K):=cu.or X1 (cu.or (aaG hu) W3)
noncomputable def kZ:List D->Option (List V)
 | []=>some []
 |.sc v::r=>(kZ r).map (v:: ·)
 |_::_=>none
theorem AY:∀{cs:List D} {vs us:List V},vs.length=cs.length->(∀(i:Nat) (v:V) (d:D),vs[i]?=some v->cs[i]?=some d->Vw K H N v d)->kZ cs=some us->vs=us
 | [], [],_,_,_,h=>by rw[kZ]at h;cases h;rfl
 | [],_::_,_,h,_,_=>by cases h
 |_::_, [],_,h,_,_=>by cases h
 |.sc x::cs,v::vs,us,hl,hk,h=>by
  rw[kZ]at h;obtain⟨r,h2,h⟩:=aY.mp h;subst h;rw[(hk 0 v (.sc x) rfl rfl).bA,AY (eF hl) (λi v d a b=>hk (i + 1) v d (by simpa using a) (by simpa using b)) h2]
 |.nd _ _::cs,v::vs,us,hl,hk,h=>by simp[kZ]at h
 |.hl _::cs,v::vs,us,hl,hk,h=>by simp[kZ]at h
def apy(a b:D):Option Bool:=match a,b with
 |.sc (.str x), .sc (.str y)=>some (!(Nz y x 0 y.length 1).isEmpty)
 |.sc x, .nd .lst cs=>(kZ cs).bind λus=>if g7 x=true/\us.all g7=true then some (tH x us) else none
 |.sc x, .nd .tup cs=>(kZ cs).bind λus=>if g7 x=true/\us.all g7=true then some (tH x us) else none
 |a,b=>(fW b a).map (·.isSome)
instance aj5:jD K (Ij K) (λa b=>(apy a b).map λb=> .sc (.bl b)):=⟨λ{H x y dx dy d Q} w1 w2 h k=>by
 obtain⟨b,h1,h2⟩:=aY.mp h;subst h2;have c5:=k _ H (aJ.refl H) (.sc _);unfold apy at h1
 split at h1
 ·next i j=>
  cases h1;exact .inr (.inr ⟨i,j,w1.bA,w2.bA,c5⟩)
 ·next z cs=>
  obtain⟨us,e1,e2⟩:=ak.mp h1;by_cases c:g7 z=true/\us.all g7=true
  ·rw[if_pos c]at e2;cases e2;obtain⟨a,vs,rfl,_,hc,hl,bB⟩:=w2.node;have:=AY hl bB e1;subst this;rw[w1.bA];exact .inl ⟨a,vs,rfl, .inl (cI.of hc.2),c.1,c.2,c5⟩
  ·rw[if_neg c]at e2;cases e2
 ·next z cs=>
  obtain⟨us,e1,e2⟩:=ak.mp h1;by_cases c:g7 z=true/\us.all g7=true
  ·rw[if_pos c]at e2;cases e2;obtain⟨a,vs,rfl,_,hc,hl,bB⟩:=w2.node;have:=AY hl bB e1;subst this;rw[w1.bA];exact .inl ⟨a,vs,rfl, .inr (cE.of hc.2),c.1,c.2,c5⟩
  ·rw[if_neg c]at e2;cases e2
 ·obtain⟨o,e1,e2⟩:=aY.mp h1;subst e2;cases dy with
  |sc _=>simp[fW]at e1
  |hl _=>simp[fW]at e1
  |nd kk cs=>
   obtain⟨a,vs,rfl,_,hc,hl,bB⟩:=w2.node;have g:=hc.DV hl w1 e1;have e3:=hc.QN e1;exact .inr (.inl ⟨a,_,rfl,g,by rw[e3];exact c5⟩)⟩
def aaK:R2:=λx y H Q=>∃i j,x= .str i/\y= .str j/\i.length + j.length<=aM/\Q (.str (i++j)) H
def AZ(K:ah):R2:=λx y H Q=>qj (λi j=> .int (i + j)) x y H Q\/aaK x y H Q\/O9 x y H Q\/GF K x y H Q
theorem aaL:cu X (binaryOp .Add) (AZ X.K):=cu.or WX (cu.or W9 (cu.or Yh O0))
def gx(a b:D):Option D:=match a,b with
 |.sc (.int i), .sc (.int j)=>some (.sc (.int (i + j)))
 |.sc (.str i), .sc (.str j)=>if i.length + j.length<=aM then some (.sc (.str (i++j))) else none
 |.nd .lst xs, .nd .lst ys=>if xs.length + ys.length<=aM/\bI (xs++ys)=true then some (.nd .lst (xs++ys)) else none
 |.nd .tup xs, .nd .tup ys=>if xs≠ []/\xs.length + ys.length<=aM/\bI (xs++ys)=true then some (.nd .tup (xs++ys)) else none
 |_,_=>none
theorem dm.app(h:dm K H N vs ds)(h':dm K H N us es):dm K H N (vs++us) (ds++es):=by
 refine⟨by rw[dg,dg,h.1,h'.1],λi v d hv hd=> ?_⟩;by_cases c:i < vs.length
 ·rw[aU c]at hv;rw[aU (by rw[<- h.1];exact c)]at hd;exact h.2 i v d hv hd
 ·rw[br (by lia)]at hv;rw[br (by rw[<- h.1];lia), <- h.1]at hd;exact h'.2 _ v d hv hd
theorem dm.own(h:dm K H T1 vs ds)(pl:bI ds=true)(hp:H p=none)(hold:(k= .tup/\o= .tup vs)\/(cg k=false/\fits K k vs.length/\∃dx,o=ho k dx vs)):cA K H (upd H p o) (.ref p) (.nd k ds):=
 jG.node ⟨h.1,λ_ _=>False,λ_ _ _ z=>z.elim,λ_ _ z=>z.elim,λi v d hv hd=>(h.2 i v d hv hd).plain (xW pl hd)⟩ (aJ.refl H) hp hold
theorem Vw.ip(w:Vw K H T1 v (.nd k cs)):∃a vs,v= .ref a/\iT K H a k vs/\dm K H T1 vs cs:=by
 obtain⟨a,vs,e,_,hc,hl,bB⟩:=w.node;exact⟨a,vs,e,hc,hl,bB⟩
instance aaM:jD K (AZ K) gx:=⟨λ{H x y dx dy d Q} w1 w2 h k=>by
 unfold gx at h
 split at h
 ·next i j=>cases h;exact .inl ⟨i,j,w1.bA,w2.bA,k _ H (aJ.refl H) (.sc _)⟩
 ·next i j=>
  by_cases c:i.length + j.length<=aM
  ·rw[if_pos c]at h;cases h;exact .inr (.inl ⟨i,j,w1.bA,w2.bA,c,k _ H (aJ.refl H) (.sc _)⟩)
  ·rw[if_neg c]at h;cases h
 ·next xs ys=>
  by_cases c:xs.length + ys.length<=aM/\bI (xs++ys)=true
  ·rw[if_pos c]at h;cases h;obtain⟨a,vs,rfl,hc,vl⟩:=w1.ip;obtain⟨b,us,rfl,jV,ul⟩:=w2.ip;refine .inr (.inr (.inl ⟨a,b,vs,us,rfl,rfl,hc.2,jV.2,by rw[vl.1,ul.1];exact c.1,λp hp=> ?_⟩));exact k _ _ (fE hp _) ((vl.app ul).own c.2 hp (.inr ⟨rfl,trivial,0,rfl⟩))
  ·rw[if_neg c]at h;cases h
 ·next xs ys=>
  by_cases c:xs≠ []/\xs.length + ys.length<=aM/\bI (xs++ys)=true
  ·rw[if_pos c]at h;cases h;obtain⟨a,vs,rfl,hc,vl⟩:=w1.ip;obtain⟨b,us,rfl,jV,ul⟩:=w2.ip;have nv:vs≠ []:=λz=>by
    subst z;have:=vl.1;exact c.1 (sN this.symm)
   refine .inr (.inr (.inr ⟨a,b,vs,us,rfl,rfl,cE.of hc.2,cE.of jV.2,nv,by rw[vl.1,ul.1];exact c.2.1,λz=> ?_,λ_ p hp=> ?_⟩))
   ·subst z;have e:=sN ul.1.symm;subst e;rw[eK]at c k;exact k _ H (aJ.refl H) (cA.plain w1 c.2.2)
   ·exact k _ _ (fE hp _) ((vl.app ul).own c.2.2 hp (.inl ⟨rfl,rfl⟩))
  ·rw[if_neg c]at h;cases h
 ·cases h⟩
class k3(K:ah)(r:List V->Hp->VK->Prop)(g:outParam (List D->Option D)):Prop where
 s:∀{H:Hp} {vs:List V} {ds:List D} {d:D} {Q:VK},dm K H T1 vs ds->g ds=some d->(∀v H',aJ H H'->cA K H H' v d->Q v H')->r vs H Q
instance aj9[A:SA K n ta fa][C:k3 K r g]:SF K n (jU r ta) (λZ=>(fa Z).bind g):=⟨λ{σ hv H U Z τv τd d Q} I h k=>by
 obtain⟨a,ha,h⟩:=ak.mp h;refine A.s I ha λxs H1 s1 w=> ?_;exact C.s w h λv H2 s2 o=>k v H2 (s1.trans s2) (o.early s1)⟩
theorem av.DZ(I:av K n H U σ hv Z (τv++vs) (τd++ds))(hl:vs.length=ds.length):dm K H T1 vs ds:=by
 refine⟨hl,λi v d iV hd=> ?_⟩;obtain⟨g1,g2⟩:=I.sets hl i iV hd;obtain⟨_,_,Fs,_,_,sl⟩:=I.ok;obtain⟨v',ev,sv⟩:=sl _ _ g2;rw[g1]at ev;cases ev;exact bg.vw sv
noncomputable def oK (g:List D->Option D) (fa:En->Option (List D×En)) (Z:En):Option (D×En):=(fa Z).bind λa=>(g a.1).map λd=>(d,a.2)
instance (priority:=70) aka{r:List V->Hp->VK->Prop}{ta:TA}{fa:En->Option (List D×En)}{g:List D->Option D}[A:qv K n ta fa][C:k3 K r g]:SM K n (jU r ta) (oK g fa):=⟨λ{σ hv H U Z ρ' τv τd d Q} I h k=>by
 obtain⟨⟨a,ρ1⟩,ha,h⟩:=ak.mp h;obtain⟨d',h1,h2⟩:=aY.mp h;cases h2;refine A.s I ha λxs H1 U1 hl I1 bQ=> ?_;refine C.s (I1.DZ hl) h1 λv H2 s2 o=> ?_;obtain⟨U2,I2,dJ⟩:=(I1.drop hl).push s2 o;exact k v H2 U2 I2 (bQ.trans dJ)⟩
theorem dm.one{d:D}(h:dm K H N vs [d]):∃v,vs= [v]/\Vw K H N v d:=by
 match vs,h with
 | [v],h=>exact⟨v,rfl,h.2 0 v d rfl rfl⟩
 | [],h=>cases h.1
 |_::_::_,h=>cases h.1
theorem dm.two{d e:D}(h:dm K H N vs [d,e]):∃v u,vs= [v,u]/\Vw K H N v d/\Vw K H N u e:=by
 match vs,h with
 | [v,u],h=>exact⟨v,u,rfl,h.2 0 v d rfl rfl,h.2 1 u e rfl rfl⟩
 | [],h=>cases h.1
 | [_],h=>cases h.1
 |_::_::_::_,h=>cases h.1
theorem aaN:fT X (.builtin "len") (λxs H Q=>∃a aa,xs= [V.ref a]/\Rd H a (.dK aa)/\Q (.int aa.length) H):=by
 intro ab s σ H xs us Q I r h;obtain⟨a,aa,rfl,ha,q⟩:=h;obtain⟨u,rfl,ru⟩:=vals1 r;cases ru;exact YC I ha λt s' I'=>⟨.int aa.length,H,I',⟨t,rfl⟩,q⟩
def vT(K:ah):List V->Hp->VK->Prop:=λxs H Q=>(∃p ys,xs= [.ref p]/\(cI K H p ys\/cE K H p ys)/\Q (.int ys.length) H)\/(∃z,xs= [.str z]/\z.length<=aM/\Q (.int z.length) H)\/∃a aa,xs= [V.ref a]/\Rd H a (.dK aa)/\Q (.int aa.length) H
theorem Il:fT X (.builtin "len") (vT X.K):=by
 intro ab s σ H xs us Q I r h;rcases h with h | h | h
 ·exact X3 ab s σ H xs us Q I r h
 ·exact X4 ab s σ H xs us Q I r h
 ·exact aaN ab s σ H xs us Q I r h
noncomputable def gF:List D->Option D
 | [.nd .lst cs]=>some (.sc (.int cs.length))
 | [.nd .tup cs]=>some (.sc (.int cs.length))
 | [.nd .dA cs]=>some (.sc (.int cs.length))
 | [.sc (.str z)]=>if z.length<=aM then some (.sc (.int z.length)) else none
 | [.nd (.aO _) cs]=>some (.sc (.int cs.length))
 |_=>none
instance akb:k3 K (vT K) gF:=⟨λ{H vs ds d Q} w h k=>by
 unfold gF at h
 split at h
 ·next cs=>cases h;obtain⟨v,rfl,w1⟩:=w.one;obtain⟨a,us,rfl,hc,vl⟩:=w1.ip;rw[<- vl.1]at k;exact .inl ⟨a,us,rfl, .inl (cI.of hc.2),k _ H (aJ.refl H) (.sc _)⟩
 ·next cs=>cases h;obtain⟨v,rfl,w1⟩:=w.one;obtain⟨a,us,rfl,hc,vl⟩:=w1.ip;rw[<- vl.1]at k;exact .inl ⟨a,us,rfl, .inr (cE.of hc.2),k _ H (aJ.refl H) (.sc _)⟩
 ·next cs=>cases h;obtain⟨v,rfl,w1⟩:=w.one;obtain⟨a,us,rfl,hc,vl⟩:=w1.ip;rw[<- vl.1]at k;exact .inl ⟨a,us,rfl, .inl (jA.sq hc.2),k _ H (aJ.refl H) (.sc _)⟩
 ·next z=>
  by_cases c:z.length<=aM
  ·rw[if_pos c]at h;cases h;obtain⟨v,rfl,w1⟩:=w.one;rw[w1.bA];exact .inr (.inl ⟨z,rfl,c,k _ H (aJ.refl H) (.sc _)⟩)
  ·rw[if_neg c]at h;cases h
 ·next ks cs=>
  cases h;obtain⟨v,rfl,w1⟩:=w.one;obtain⟨a,us,rfl,hc,vl⟩:=w1.ip;have hl:=hc.1;have rd:=hc.2;refine .inr (.inr ⟨a,ks.zip us,rfl,rd, ?_⟩);rw[pz,hl,Nat.min_self,vl.1];exact k _ H (aJ.refl H) (.sc _)
 ·cases h⟩
def apG(K:ah):List V->Hp->VK->Prop:=λxs H Q=>∃p ys,xs= [.ref p]/\(cI K H p ys\/cE K H p ys)/\∀l,H l=none->Q (.ref l) (upd H l (.lst ys))
theorem atP:fT X (.type "list") (apG X.K):=atJ
def NM(K:ah):List V->Hp->VK->Prop:=λxs H Q=>∃p ys,xs= [.ref p]/\((cI K H p ys/\∀l,H l=none->Q (.ref l) (upd H l (.tup ys)))\/(cE K H p ys/\Q (.ref p) H))
theorem arN:fT X (.type "tuple") (NM X.K):=atL
def vb:List D->Option D
 | [.nd .lst cs]=>if bI cs=true then some (.nd .lst cs) else none
 | [.nd .tup cs]=>if bI cs=true then some (.nd .lst cs) else none
 |_=>none
instance aw5:k3 K (apG K) vb:=⟨λ{H vs ds d Q} w h k=>by
 unfold vb at h
 split at h
 ·next cs=>
  by_cases c:bI cs=true
  ·rw[if_pos c]at h;cases h;obtain⟨v,rfl,w1⟩:=w.one;obtain⟨a,us,rfl,hc,vl⟩:=w1.ip;exact⟨a,us,rfl, .inl (cI.of hc.2),λl hl=>k _ _ (fE hl _) (vl.own c hl (.inr ⟨rfl,trivial,0,rfl⟩))⟩
  ·rw[if_neg c]at h;cases h
 ·next cs=>
  by_cases c:bI cs=true
  ·rw[if_pos c]at h;cases h;obtain⟨v,rfl,w1⟩:=w.one;obtain⟨a,us,rfl,hc,vl⟩:=w1.ip;exact⟨a,us,rfl, .inr (cE.of hc.2),λl hl=>k _ _ (fE hl _) (vl.own c hl (.inr ⟨rfl,trivial,0,rfl⟩))⟩
  ·rw[if_neg c]at h;cases h
 ·cases h⟩
def me:List D->Option D
 | [.nd .lst cs]=>if bI cs=true then some (.nd .tup cs) else none
 | [.nd .tup cs]=>if bI cs=true then some (.nd .tup cs) else none
 |_=>none
instance aw6:k3 K (NM K) me:=⟨λ{H vs ds d Q} w h k=>by
 unfold me at h
 split at h
 ·next cs=>
  by_cases c:bI cs=true
  ·rw[if_pos c]at h;cases h;obtain⟨v,rfl,w1⟩:=w.one;obtain⟨a,us,rfl,hc,vl⟩:=w1.ip;exact⟨a,us,rfl, .inl ⟨cI.of hc.2,λl hl=>k _ _ (fE hl _) (vl.own c hl (.inl ⟨rfl,rfl⟩))⟩⟩
  ·rw[if_neg c]at h;cases h
 ·next cs=>
  by_cases c:bI cs=true
  ·rw[if_pos c]at h;cases h;obtain⟨v,rfl,w1⟩:=w.one;obtain⟨a,us,rfl,hc,vl⟩:=w1.ip;exact⟨a,us,rfl, .inr ⟨cE.of hc.2,k _ H (aJ.refl H) (cA.plain w1 c)⟩⟩
  ·rw[if_neg c]at h;cases h
 ·cases h⟩
def vU:List V->Hp->VK->Prop:=λxs H Q=>(∃i,xs= [.int i]/\Q (.int i) H)\/∃k,xs= [.bl k]/\Q (.int (if k then 1 else 0)) H
theorem A1:fT X (.type "int") vU:=Xd
noncomputable def m3:List D->Option D
 | [.sc (.int i)]=>some (.sc (.int i))
 | [.sc (.bl b)]=>some (.sc (.int (if b then 1 else 0)))
 |_=>none
instance akc:k3 K vU m3:=⟨λ{H vs ds d Q} w h k=>by
 unfold m3 at h
 split at h
 ·next i=>cases h;obtain⟨v,rfl,w1⟩:=w.one;rw[w1.bA];exact .inl ⟨i,rfl,k _ H (aJ.refl H) (.sc _)⟩
 ·next b=>cases h;obtain⟨v,rfl,w1⟩:=w.one;rw[w1.bA];exact .inr ⟨b,rfl,k _ H (aJ.refl H) (.sc _)⟩
 ·cases h⟩
def Im:List V->Hp->VK->Prop:=λxs H Q=>∃i j,xs= [.int i, .int j]/\Q (.int (if j > i then j else i)) H
def Ip:List V->Hp->VK->Prop:=λxs H Q=>∃i j,xs= [.int i, .int j]/\Q (.int (if j < i then j else i)) H
theorem aaO(hc:X.calm=true):fT X (.builtin "max") Im:=Xb hc
theorem aaP(hc:X.calm=true):fT X (.builtin "min") Ip:=Xc hc
noncomputable def kB (g:Int->Int->V):List D->Option D
 | [.sc (.int i), .sc (.int j)]=>some (.sc (g i j))
 |_=>none
instance akd:k3 K Im (kB λi j=> .int (if j > i then j else i)):=⟨λ{H vs ds d Q} w h k=>by
 unfold kB at h
 split at h
 ·next i j=>cases h;obtain⟨v,u,rfl,w1,w2⟩:=w.two;rw[w1.bA,w2.bA];exact⟨i,j,rfl,k _ H (aJ.refl H) (.sc _)⟩
 ·cases h⟩
instance ake:k3 K Ip (kB λi j=> .int (if j < i then j else i)):=⟨λ{H vs ds d Q} w h k=>by
 unfold kB at h
 split at h
 ·next i j=>cases h;obtain⟨v,u,rfl,w1,w2⟩:=w.two;rw[w1.bA,w2.bA];exact⟨i,j,rfl,k _ H (aJ.refl H) (.sc _)⟩
 ·cases h⟩
end
noncomputable def m4 (a b:String):Bool:=a == b || (a == "bool" && b == "int")
noncomputable def D0:List String:= ["NoneType","bool","int","str","tuple","list","dict"]
noncomputable def lS:List String:= ["bool","int","str","tuple","list","dict"]
theorem aaQ(K:ah):xg K (.type "bool") (.type "int")=some true:=by
 unfold xg;rw[if_neg (by decide)];show(if W.kitMeta "int"=true then W.subIn K (.type "bool") _ else none)=some true;rw[if_pos (by decide +kernel)];show(fastBuiltinMro "bool").map _=some true
 decide +kernel
theorem QU(K:ah):∀a∈D0,∀b∈lS,xg K (.type a) (.type b)=some (m4 a b):=by
 intro a ha b hb;simp only[D0,lS,bL,dh,or_false]at ha hb;rcases ha with rfl | rfl | rfl | rfl | rfl | rfl | rfl <;> rcases hb with rfl | rfl | rfl | rfl | rfl | rfl <;> first
  |exact aaQ K
  |exact akf K _ (by decide)
  |exact aaC K _ _ (by decide) (by decide +kernel) (by decide +kernel)
theorem QV(K:ah)(ha:a∈D0):∀{ts:List String},(∀b∈ts,b∈lS)->W.kitAny K (.type a) (ts.map w9)=some (ts.any (m4 a))
 | [],_=>rfl
 |b::ts,h=>by
  rw[cP,W.kitAny,QU K a ha b (h b (.head _))];cases e:m4 a b with
  |true=>simp[e]
  |false=>
   simp only[e,uR,Bool.false_or];exact QV K ha λc hc=>h c (.tail _ hc)
noncomputable def mv:D->Option String
 |.sc .aG=>some "NoneType"
 |.sc (.bl _)=>some "bool"
 |.sc (.int _)=>some "int"
 |.sc (.str _)=>some "str"
 |.nd .tup _=>some "tuple"
 |.nd .lst _=>some "list"
 |.nd (.aO _) _=>some "dict"
 |.nd (.lM _) _=>some "dict"
 |_=>none
section
variable {K:ah}{H H' H1 H2:Hp}{τv vs:List V}{τd ds:List D}{v y:V}{d:D}{N:Addr->Prop}
theorem QW(h:mv d=some a):a∈D0:=by
 unfold mv at h
 split at h <;> first | (cases h;decide) | cases h
theorem Vw.ty(w:Vw K H N v d)(h:mv d=some a)(hd:a≠"dict"):kP K H v (.type a):=by
 unfold mv at h
 split at h
 ·cases h;rw[w.bA];exact .aG
 ·cases h;rw[w.bA];exact .bl _
 ·cases h;rw[w.bA];exact .int _
 ·cases h;rw[w.bA];exact .str _
 ·cases h;obtain⟨a,vs,rfl,_,hc,_⟩:=w.node;exact .tup hc.2
 ·cases h;obtain⟨a,vs,rfl,_,hc,_⟩:=w.node;exact .lst hc.2
 ·cases h;exact absurd rfl hd
 ·cases h;exact absurd rfl hd
 ·cases h
def k4(T:String):List D->Option D
 | [a, .sc (.ty T')]=>if T'=T/\T∈lS then(mv a).bind λx=>if x="dict" then none else some (.sc (.bl (m4 x T))) else none
 |_=>none
instance akg:k3 K (j4 K T) (k4 T):=⟨λ{H vs ds d Q} w h k=>by
 unfold k4 at h
 split at h
 ·next a T'=>
  by_cases c:T'=T/\T∈lS
  ·rw[if_pos c]at h;obtain⟨x,h1,h⟩:=ak.mp h;by_cases cd:x="dict"
   ·rw[if_pos cd]at h;cases h
   ·rw[if_neg cd]at h;cases h;obtain⟨v,u,rfl,w1,w2⟩:=w.two;rw[w2.bA,c.1];exact⟨v,_,_,rfl,w1.ty h1 cd,QU K x (QW h1) T c.2,k _ H (aJ.refl H) (.sc _)⟩
  ·rw[if_neg c]at h;cases h
 ·cases h⟩
def D1(K:ah):List V->Hp->VK->Prop:=λxs H Q=>∃(x:V) (t:Value) (tp:Addr) (ts:List String) (b:Bool),xs= [x, .ref tp]/\kP K H x t/\H tp=some (.tup (ts.map V.ty))/\W.kitAny K t (ts.map w9)=some b/\Q (.bl b) H
theorem QX:∀{ts:List String} {us:List Value},bj (ts.map V.ty) us->us=ts.map w9
 | [],us,h=>by cases h;rfl
 |t::ts,us,h=>by
  cases h with
  |cons r1 r2=>rw[QX r2,show _=w9 t from r1];rfl
theorem aaR:fT X (.builtin "isinstance") (D1 X.K):=by
 intro ab s σ H xs us Q I r h;obtain⟨x,t,tp,ts,b,rfl,ty,ht,e,q⟩:=h;obtain⟨u,w',rfl,ru,rt⟩:=vals2 r;cases rt;obtain⟨_,its,rv,o,ho,hc,n,hd⟩:=I.aQ tp _ ht;have hits:=QX rv;subst hits;obtain⟨oc,od,akh,mO⟩:=o;cases hc;cases hd;have c5:∀tk,EP X ab σ Q (.bool b) { s with toks:=tk }:=λtk=>⟨.bl b,H,I.tok tk,rfl,q⟩
 cases ty with
 |aG=>cases(show u=jb from ru);exact qU W.kitx_none I.fN kh ho e (λz=>nomatch z) c5
 |bl y=>cases(show u=zj y from ru);exact qU W.kitx_bool I.fN kh ho e (λz=>nomatch z) c5
 |int i=>obtain⟨t,z⟩:=(ru);cases z;exact qU W.kitx_int I.fN kh ho e (λz=>nomatch z) c5
 |str y=>obtain⟨t,z⟩:=(ru);cases z;exact qU W.kitx_str I.fN kh ho e (λz=>nomatch z) c5
 |kl y=>obtain⟨t,z⟩:=(ru);cases z;exact qU W.kitx_float I.fN kh ho e (λz=>nomatch z) c5
 | @lst a xs ea=>
  cases(show u=c7 a from ru);obtain⟨_,_,n',_,h1⟩:=(I.aQ a _ ea)
  exact qU ND I.fN ⟨_,h1,rfl⟩ ho e (λz=>nomatch z) c5
 | @b9 a ob xs ea=>
  cases(show u=c7 a from ru);obtain⟨_,_,_,n',_,h1⟩:=(I.aQ a _ ea)
  exact qU ND I.fN ⟨_,h1,rfl⟩ ho e (λz=>nomatch z) c5
 | @tup a xs ea=>
  cases(show u=c7 a from ru);obtain⟨_,_,_,p⟩:=(I.aQ a _ ea)
  obtain⟨o',h1,h2,_⟩:=p;exact qU W.kitx_tuple I.fN ⟨o',h1,h2⟩ ho e (λz=>nomatch z) c5
 | @dK a aa ea=>
  cases(show u=c7 a from ru);obtain⟨_,_,vs,_,p⟩:=(I.aQ a _ ea)
  obtain⟨o',es,ep,h1,h2,_⟩:=p;exact qU NF I.fN ⟨o',h1,h2.1⟩ ho e (λz=>nomatch z) c5
 | @dT a aa ea=>
  cases(show u=c7 a from ru);obtain⟨_,_,xs,_,o',es,ep,h1,h2,_⟩:=(I.aQ a _ ea)
  exact qU NF I.fN ⟨o',h1,h2.1⟩ ho e (λz=>nomatch z) c5
 | @ins a C dx fs ea cl ha hn CT hm=>
  cases(show u=c7 a from ru);obtain⟨mA,O,_⟩:=kO I.aQ ea;obtain⟨od,J,_⟩:=O.look;exact qU (W.kitx_own (cl.get _) cl.hd ha hn CT hm) I.fN J ho e (λz=>nomatch z) c5
noncomputable def xk:List D->Option (List String)
 | []=>some []
 |.sc (.ty t)::r=>(xk r).map (t:: ·)
 |_::_=>none
theorem QY:∀{cs:List D} {vs:List V} {ts:List String},vs.length=cs.length->(∀(i:Nat) (v:V) (d:D),vs[i]?=some v->cs[i]?=some d->Vw K H N v d)->xk cs=some ts->vs=ts.map V.ty
 | [], [],_,_,_,h=>by rw[xk]at h;cases h;rfl
 | [],_::_,_,h,_,_=>by cases h
 |_::_, [],_,h,_,_=>by cases h
 |d::cs,v::vs,ts,hl,hk,h=>by
  unfold xk at h
  split at h
  ·next e=>cases e
  ·next t r e=>
   cases e;obtain⟨x,h2,h⟩:=aY.mp h;subst h;rw[cP,(hk 0 v _ rfl rfl).bA,QY (eF hl) (λi v d a b=>hk (i + 1) v d (by simpa using a) (by simpa using b)) h2]
  ·cases h
def oN:List D->Option D
 | [a, .nd .tup cs]=>(xk cs).bind λts=>if ts.all (lS.contains ·)=true then(mv a).bind λx=>if x="dict" then none else some (.sc (.bl (ts.any (m4 x)))) else none
 |_=>none
instance aki:k3 K (D1 K) oN:=⟨λ{H vs ds d Q} w h k=>by
 unfold oN at h
 split at h
 ·next a cs=>
  obtain⟨ts,h0,h⟩:=ak.mp h;by_cases c:ts.all (lS.contains ·)=true
  ·rw[if_pos c]at h;obtain⟨x,h1,h⟩:=ak.mp h;by_cases cd:x="dict"
   ·rw[if_pos cd]at h;cases h
   ·rw[if_neg cd]at h;cases h;obtain⟨v,u,rfl,w1,w2⟩:=w.two;obtain⟨b,us,rfl,_,hc,hl,bB⟩:=w2.node;have e:=QY hl bB h0;refine⟨v,_,b,ts,_,rfl,w1.ty h1 cd,by rw[<- e];exact hc.2,QV K (QW h1) λt ht=> ?_,k _ H (aJ.refl H) (.sc _)⟩;have:=gA.mp c t ht;simpa using this
  ·rw[if_neg c]at h;cases h
 ·cases h⟩
def mw(K:ah):List V->Hp->VK->Prop:=λxs H Q=>∃(a:Addr) (bs:List Bool),xs= [.ref a]/\cI K H a (bs.map V.bl)/\Q (.bl (bs.all id)) H
theorem pN(hc:X.calm=true):fT X (.builtin "all") (mw X.K):=Zl hc
noncomputable def iP:List D->Option (List Bool)
 | []=>some []
 |.sc (.bl b)::r=>(iP r).map (b:: ·)
 |_::_=>none
theorem Iq:∀{cs:List D} {vs:List V} {bs:List Bool},vs.length=cs.length->(∀(i:Nat) (v:V) (d:D),vs[i]?=some v->cs[i]?=some d->Vw K H N v d)->iP cs=some bs->vs=bs.map V.bl
 | [], [],_,_,_,h=>by rw[iP]at h;cases h;rfl
 | [],_::_,_,h,_,_=>by cases h
 |_::_, [],_,h,_,_=>by cases h
 |d::cs,v::vs,ts,hl,hk,h=>by
  unfold iP at h
  split at h
  ·next e=>cases e
  ·next t r e=>
   cases e;obtain⟨x,h2,h⟩:=aY.mp h;subst h;rw[cP,(hk 0 v _ rfl rfl).bA,Iq (eF hl) (λi v d a b=>hk (i + 1) v d (by simpa using a) (by simpa using b)) h2]
  ·cases h
def iq:List D->Option D
 | [.nd .lst cs]=>(iP cs).map λbs=> .sc (.bl (bs.all id))
 |_=>none
instance akj:k3 K (mw K) iq:=⟨λ{H vs ds d Q} w h k=>by
 unfold iq at h
 split at h
 ·next cs=>
  obtain⟨bs,h1,h2⟩:=aY.mp h;subst h2;obtain⟨v,rfl,w1⟩:=w.one;obtain⟨a,us,rfl,_,hc,hl,bB⟩:=w1.node;have e:=Iq hl bB h1;exact⟨a,bs,rfl,cI.of (by rw[<- e];exact hc.2),k _ H (aJ.refl H) (.sc _)⟩
 ·cases h⟩
end
def vV(K:ah)(tl:TE):TI:=λσ H R=>tl σ H λx H1=>(∃a,x= .ref a/\(∃xs,cI K H1 a xs)/\R (u5 K a) H1)\/(∃a,x= .ref a/\(∃xs,cE K H1 a xs)/\R (CJ K a) H1)\/∃z,x= .str z/\R (Dq z) H1
theorem QZ(hl:PE X l tl):PI X tg l (vV X.K tl):=by
 intro ab s σ H R I h;refine bh (hl ab s σ H _ I h) λv s1 ⟨x,H1,I1,r1,q1⟩=> ?_;have c5:∀(b:Addr),b∈ [s1.heap.objs.size]->jT X ab H1 b:=λb hb=>by
  have e:b=s1.heap.objs.size:=by simpa using hb
  subst e;exact I1.Aa (bO _) (I1.aQ.fresh (bO _))
 rcases q1 with⟨a,rfl,⟨xs,hq⟩,q⟩ | ⟨a,rfl,⟨xs,hq⟩,q⟩ | ⟨z,rfl,q⟩
 ·cases r1;obtain⟨its,rv,p,hz⟩:=I1.list hq;exact Vk p.isList ⟨s1.heap.objs.size, [s1.heap.objs.size],_,_,H1,rfl,I1.kept λb o e=>cB _ e,WQ a _,⟨_,gc _ rfl,rfl,rfl⟩,c5,q⟩
 ·cases r1;obtain⟨its,rv,p,hz⟩:=I1.tuple hq;exact wpAny_pyIter_tuple (p) ⟨s1.heap.objs.size, [s1.heap.objs.size],_,_,H1,rfl,I1.kept λb o e=>cB _ e,WR a _,⟨_,gc _ rfl,rfl,rfl⟩,c5,q⟩
 ·obtain⟨t,rfl⟩:=r1;cases ha:z.cps.all _
  ·refine wpAny_pyIter_wide ha ⟨s1.heap.objs.size, [s1.heap.objs.size],_,_,H1,rfl,I1.kept λb o e=>cB _ e,
    PQ (by decide) (λA' hA=>Walks.strWide hA _ z t) (λA i s Q E st h=>wpAny_pyIter_striter_wide st h),⟨jO _,_,gc _ rfl,rfl,rfl⟩,c5,q⟩
  ·refine wpAny_pyIter_ascii ha ⟨s1.heap.objs.size, [s1.heap.objs.size],_,_,H1,rfl,I1.kept λb o e=>cB _ e,
    PQ (by decide) (λA' hA=>Walks.strAscii hA _ z t) (λA i s Q E st h=>wpAny_pyIter_striter_ascii st h),⟨jO _,_,gc _ rfl,rfl,rfl⟩,c5,q⟩
class vW{α:Type}(l:List α)(m:outParam Nat):Prop where
 h:l.length=m
instance {α:Type}:vW ([]:List α) 0:=⟨rfl⟩
instance {α:Type}{a:α}{r:List α}{m:Nat}[L:vW r m]:vW (a::r) (m + 1):=⟨congrArg (· + 1) L.h⟩
section
variable {K:ah}{n:Nat}{H H' H1 H2:Hp}{U U':Addr->Prop}{σ hv:List (Option V)}{Z ρ':En}{τv vs:List V}{τd ds:List D}{v y:V}{d:D}
def tY(K:ah)(J:It)(H0:Hp)(ds:List D):Prop:=∀H,aJ H0 H->J.stop ds.length H/\∀(i:Nat) (d:D),ds[i]?=some d->J.go i H/\∀x H',J.s9 i H x H'->aJ H H'/\Vw K H' T1 x d
class SI(K:ah)(n:Nat)(wi:TI)(f:outParam (En->Option (List D))):Prop where
 s:∀{σ hv:List (Option V)} {H:Hp} {U:Addr->Prop} {Z:En} {τv:List V} {τd:List D} {ds:List D} {R:It->Hp->Prop},av K n H U σ hv Z τv τd->f Z=some ds->(∀J H',aJ H H'->tY K J H' ds->R J H')->wi σ H R
noncomputable def chars (z:Str):List D:=z.cps.toList.map λc=> .sc (.str ⟨#[c]⟩)
def fP:D->Option (List D)
 |.nd .lst cs=>some cs
 |.nd .tup cs=>some cs
 |.nd .dA cs=>some cs
 |.sc (.str z)=>some (chars z)
 |_=>none
theorem aaS{ds:List D}{R:It->Hp->Prop}(w:Vw K H T1 v d)(h:fP d=some ds)(k:∀J,tY K J H ds->R J H):
  (∃a,v= .ref a/\(∃xs,cI K H a xs)/\R (u5 K a) H)\/(∃a,v= .ref a/\(∃xs,cE K H a xs)/\R (CJ K a) H)\/∃z,v= .str z/\R (Dq z) H:=by
 have wl:∀{a:Addr} {vs:List V} {cs:List D},(∀H',aJ H H'->cI K H' a vs)->dm K H T1 vs cs->tY K (u5 K a) H cs:=λ{a vs cs} hs vl H' s=>by
  refine⟨⟨vs,hs H' s,by rw[vl.1];exact bO _⟩,λi d hd=> ?_⟩;obtain⟨u,hu,w⟩:=vl.get hd;exact⟨⟨vs,u,hs H' s,hu⟩,λx H2 ⟨e,q⟩=>by
   subst e;have:=q vs (hs H2 s);rw[hu]at this;cases this;exact⟨aJ.refl _,w.same s⟩⟩
 unfold fP at h
 split at h
 ·next cs=>
  cases h;obtain⟨a,vs,rfl,hc,vl⟩:=w.ip;exact .inl ⟨a,rfl,⟨vs,cI.of hc.2⟩,k _ (wl (λH' s=>cI.of (s _ _ hc.2)) vl)⟩
 ·next cs=>
  cases h;obtain⟨a,vs,rfl,hc,vl⟩:=w.ip;refine .inr (.inl ⟨a,rfl,⟨vs,cE.of hc.2⟩,k _ λH' s=> ?_⟩);have hs:cE K H' a vs:=cE.of (s _ _ hc.2);refine⟨⟨vs,hs,by rw[vl.1];exact bO _⟩,λi d hd=> ?_⟩;obtain⟨u,hu,w⟩:=vl.get hd;exact⟨⟨vs,u,hs,hu⟩,λx H2 ⟨e,q⟩=>by
   subst e;have:=q vs hs;rw[hu]at this;cases this;exact⟨aJ.refl _,w.same s⟩⟩
 ·next cs=>
  cases h;obtain⟨a,vs,rfl,hc,vl⟩:=w.ip;have ho:jA K H a vs:=hc.2;exact .inl ⟨a,rfl,⟨vs,ho.sq⟩,k _ (wl (λH' s=>(ho.gO (gu.of s)).sq) vl)⟩
 ·next z=>
  cases h;refine .inr (.inr ⟨z,w.bA,k _ λH' s=> ?_⟩);have lz:(chars z).length=z.cps.size:=by unfold chars;simp
  refine⟨by show z.cps.size<=_;rw[lz];exact bO _,λi d hd=> ?_⟩;have hi:i < z.cps.size:=by rw[<- lz];exact(cX.mp hd).1
  refine⟨hi,λx H2 ⟨e,c,hc,hx⟩=> ?_⟩;subst e hx;refine⟨aJ.refl _, ?_⟩;unfold chars at hd;rw[bJ]at hd;have:z.cps.toList[i]?=some c:=by simpa using hc
  rw[this]at hd;cases hd;exact .sc _
 ·cases h
instance akk[A:SV K n tl fl]:SI K n (vV K tl) (λZ=>(fl Z).bind fP):=⟨λ{σ hv H U Z τv τd ds R} I h k=>by
 obtain⟨d,h1,h2⟩:=ak.mp h;refine A.s I h1 λx H1 s1 w1=> ?_;exact aaS w1 h2 λJ wk=>k J H1 s1 wk⟩
noncomputable def iQ (lo:Int) (m:Nat):List D:=(kf m).map λ(i:Nat)=> .sc (.int (lo + i))
theorem arO(lo:Int)(m:Nat)(H:Hp):tY K (Ac lo m) H (iQ lo m):=λH' s=>by
 have l:(iQ lo m).length=m:=by unfold iQ;simp
 refine⟨by show m<=_;rw[l];exact bO _,λi d hd=> ?_⟩;have hi:i < m:=by rw[<- l];exact(cX.mp hd).1
 refine⟨hi,λx H2 ⟨e,hx⟩=> ?_⟩;subst e hx;unfold iQ at hd;rw[bJ,V6 hi]at hd;cases hd;exact⟨aJ.refl _, .sc _⟩
open Classical in
noncomputable def tZ:List D->Option (List D)
 | [.sc (.int j)]=>if -(2 ^ 62)<=j/\j < 2 ^ 62 then some (iQ 0 j.toNat) else none
 |_=>none
open Classical in
noncomputable def xm:List D->Option (List D)
 | [.sc (.int i), .sc (.int j)]=>if -(2 ^ 62)<=i/\i < 2 ^ 62/\ -(2 ^ 62)<=j/\j < 2 ^ 62 then some (iQ i (j - i).toNat) else none
 |_=>none
theorem Ir{vs:List V}{ds es:List D}(w:dm K H T1 vs ds)(h:tZ ds=some es):∃j:Int,vs= [.int j]/\ -(2 ^ 62)<=j/\j < 2 ^ 62/\es=iQ 0 j.toNat:=by
 unfold tZ at h
 split at h
 ·next j=>
  by_cases c: -(2 ^ 62)<=j/\j < 2 ^ 62
  ·rw[if_pos c]at h;cases h;obtain⟨v,rfl,w1⟩:=w.one;rw[w1.bA];exact⟨j,rfl,c.1,c.2,rfl⟩
  ·rw[if_neg c]at h;cases h
 ·cases h
theorem aaT{vs:List V}{ds es:List D}(w:dm K H T1 vs ds)(h:xm ds=some es):∃i j:Int,vs= [.int i, .int j]/\(-(2 ^ 62)<=i/\i < 2 ^ 62/\ -(2 ^ 62)<=j/\j < 2 ^ 62)/\es=iQ i (j - i).toNat:=by
 unfold xm at h
 split at h
 ·next i j=>
  by_cases c: -(2 ^ 62)<=i/\i < 2 ^ 62/\ -(2 ^ 62)<=j/\j < 2 ^ 62
  ·rw[if_pos c]at h;cases h;obtain⟨v,u,rfl,w1,w2⟩:=w.two;rw[w1.bA,w2.bA];exact⟨i,j,rfl,c,rfl⟩
  ·rw[if_neg c]at h;cases h
 ·cases h
instance aw7[A:SA K n ta fa]:SI K n (CK ta) (λZ=>(fa Z).bind tZ):=⟨λ{σ hv H U Z τv τd ds R} I h k=>by
 obtain⟨a,h1,h2⟩:=ak.mp h;refine A.s I h1 λvs H1 s1 w=> ?_;obtain⟨j,e,c1,c2,e2⟩:=Ir w h2;subst e2;exact⟨j,e,c1,c2,k _ H1 s1 (arO 0 _ H1)⟩⟩
instance aw8[A:SA K n ta fa]:SI K n (Ox ta) (λZ=>(fa Z).bind xm):=⟨λ{σ hv H U Z τv τd ds R} I h k=>by
 obtain⟨a,h1,h2⟩:=ak.mp h;refine A.s I h1 λvs H1 s1 w=> ?_;obtain⟨i,j,e,c,e2⟩:=aaT w h2;subst e2;exact⟨i,j,e,c,k _ H1 s1 (arO i _ H1)⟩⟩
class SG(K:ah)(n:Nat)(g:TG)(f:outParam (D->En->Option En))(is:outParam (List Nat)):Prop where
 s:∀{σ hv:List (Option V)} {H:Hp} {U:Addr->Prop} {Z ρ':En} {τv:List V} {τd:List D} {x:V} {d:D} {Q:L2.St->Hp->Prop},av K n H U σ hv Z τv τd->Vw K H (λb=>¬ U b) x d->f d Z=some ρ'->(∀aF,av K n H U aF hv ρ' τv τd->Q aF H)->g x σ H Q
 len:∀{d:D} {Z ρ':En},f d Z=some ρ'->ρ'.length=Z.length
 keep:∀{d:D} {Z ρ':En} {j:Nat} {β:B},f d Z=some ρ'->j∉is->(∀r p,β≠ .aB r p)->Z[j]?=some (some β)->ρ'[j]?=some (some β)
theorem aaU{i j:Nat}{β:B}(h:∀r p,β≠ .aB r p)(hj:Z[j]?=some (some β)):(eI i Z)[j]?=some (some β):=by
 unfold eI;rw[bJ,hj];cases β with
 |own d=>rfl
 |ro d=>rfl
 |aB r p=>exact absurd rfl (h r p)
instance akl{i:Nat}[L:jC i n]:SG K n (lB i) (λd Z=>some (bq i (.ro d) Z)) [i] where
 s:=λ{σ hv H U Z ρ' τv τd x d Q} I w h k=>by
  cases h;exact k _ (I.named L.h (β:= .ro d) w)
 len:=λh=>by cases h;unfold bq;rw[bN,jZ]
 keep:=λ{d Z ρ' j β} h hj ha q=>by
  cases h;unfold bq;rw[gq (λz=>hj (by rw[z];exact .head _))];exact aaU ha q
theorem jG.snoc(h:jG K H H1 us es)(o:cA K H1 H2 v d)(s0:aJ H H1)(s1:aJ H1 H2):jG K H H2 (us++ [v]) (es++ [d]):=by
 obtain⟨hl,Fs,dj,fr,rp⟩:=h;obtain⟨G,r,f⟩:=o;have nG:∀i b,Fs i b->¬ G b:=λi b z w=>by
  obtain⟨u,q⟩:=rN (fr i b z).2;rw[(f b w).1]at q;cases q
 refine⟨by simp[hl],λi b=>if i=us.length then G b else Fs i b/\i < us.length,λi j b hi hj=> ?_,λi b hb=> ?_,λi x y hx hy=> ?_⟩
 ·have hi:if i=us.length then G b else Fs i b/\i < us.length:=hi;have hj:if j=us.length then G b else Fs j b/\j < us.length:=hj;by_cases ci:i=us.length
  ·rw[if_pos ci]at hi;by_cases cj:j=us.length
   ·lia
   ·rw[if_neg cj]at hj;exact absurd hi (nG j b hj.1)
  ·rw[if_neg ci]at hi;by_cases cj:j=us.length
   ·rw[if_pos cj]at hj;exact absurd hj (nG i b hi.1)
   ·rw[if_neg cj]at hj;exact dj i j b hi.1 hj.1
 ·have hb:if i=us.length then G b else Fs i b/\i < us.length:=hb;by_cases ci:i=us.length
  ·rw[if_pos ci]at hb;refine⟨?_,(f b hb).2⟩;cases q:H b with
   |none=>rfl
   |some o=>have:=(f b hb).1;rw[s0 b o q]at this;cases this
  ·rw[if_neg ci]at hb;exact⟨(fr i b hb.1).1,AL (fr i b hb.1).2 s1⟩
 ·by_cases ci:i=us.length
  ·subst ci;rw[br (bO _),kj]at hx;rw[br (by lia),hl,kj]at hy;cases hx;cases hy;show bg K H2 (λb=>if us.length=us.length then G b else _) v d;simp only[if_pos rfl];exact r
  ·have hi:i < us.length:=by
    have:=(cX.mp hx).1;simp at this;lia
   rw[aU hi]at hx;rw[aU (by lia)]at hy;show bg K H2 (λb=>if i=us.length then G b else Fs i b/\i < us.length) x y;simp only[if_neg ci];exact((rp i x y hx hy).same s1).mono λb z=>⟨z,hi⟩
def gH(n:Nat)(js:List (Option Nat))(Z:En):En:=js.map λo=>o.bind λj=>if j < n then(af j Z).map B.ro else none
noncomputable def jH (fg:D->En->Option En) (ft:En->Option Bool) (fe:En->Option D) (ia:En):List D->Option (List D)
 | []=>some []
 |d::ds=>(fg d ia).bind λρ1=>(ft ρ1).bind λb=>if b=true then(fe ρ1).bind λy=>(jH fg ft fe ia ds).map (y:: ·) else jH fg ft fe ia ds
open Classical in
noncomputable def iJ (n:Nat) (js:List (Option Nat)) (is:List Nat) (fi:En->Option (List D)) (fg:D->En->Option En) (ft:En->Option Bool) (fe:En->Option D) (Z:En):Option D:=(fi Z).bind λds=>
 if ds.length<=aM/\is.all (λi=>js[i]? == some none)=true then(jH fg ft fe (gH n js Z) ds).map (.nd .lst ·) else none
theorem aaV(I:av K n H U σ hv Z τv τd):av K js.length H (λ_=>False) (jv js σ) [] (gH n js Z) [] []:=by
 refine⟨⟨by unfold jv gH;simp,λb z=>z.elim,λ_ _=>False,λ_ _ _ z=>z.elim,λ_ _ z=>z.elim,λi β aw=> ?_⟩,by unfold jv gH;simp,by unfold jv;simp⟩;rw[jQ,eK]at aw;rw[jQ,eK,eK];unfold gH at aw;rw[bJ]at aw;cases e:js[i]? with
 |none=>rw[e]at aw;cases aw
 |some o=>
  rw[e]at aw;have aw:(o.bind λj=>if j < n then(af j Z).map B.ro else none)=some β:=hV aw;cases o with
  |none=>cases aw
  |some j=>
   have aw:(if j < n then(af j Z).map B.ro else none)=some β:=aw;by_cases c:j < n
   ·rw[if_pos c]at aw;obtain⟨d,h1,h2⟩:=aY.mp aw;subst h2;have:jC j n:=⟨c⟩
    have key:f9 j σ H λv H'=>H'=H/\σ[j]?=some (some v)/\Vw K H T1 v d:=by
     obtain⟨o,g1,g2⟩:=ak.mp h1;cases o with
     |none=>cases g2
     |some γ=>
      obtain⟨v,F,ev,sub,sv⟩:=I.slot g1;rw[I.name c]at ev;refine⟨v,ev,rfl,ev, ?_⟩;cases γ with
      |own d'=>cases g2;exact bg.vw sv
      |ro d'=>cases g2;exact Vw.any sv
      |aB r p=>
       obtain⟨d0,hr,g⟩:=ak.mp g2;obtain⟨_,vr,er,hp⟩:=sv;obtain⟨v',F',ij,_,rp⟩:=I.AM hr;rw[er]at ij;cases ij;exact rp.sub g hp λ_ _=>trivial
    obtain⟨v,ev,_,_,vw⟩:=key;refine⟨v, ?_,vw.mono λ_ _ z=>z⟩;unfold jv;rw[bJ,e];show some ((σ[j]?).join)=some (some v);rw[ev];rfl
   ·rw[if_neg c]at aw;cases aw
instance D3{wi:TI}{g:TG}{tt:TT}{te:TE}{is:List Nat}{fi:En->Option (List D)}{fg:D->En->Option En}{ft:En->Option Bool}{fe:En->Option D}[hm:vW js m]
  [A:SI K n wi fi] [G:SG K m g fg is] [T:kq K m tt ft] [Q':SQ K m te fe]:SF K n (xH wi g tt te js) (iJ n js is fi fg ft fe):=⟨λ{σ hv H U Z τv τd d Q} I h k=>by
 have hm:=hm.h;subst hm;obtain⟨ds,h1,h⟩:=ak.mp h;by_cases c:ds.length<=aM/\is.all (λi=>js[i]? == some none)=true
 ·rw[if_pos c]at h;obtain⟨es,h2,h⟩:=aY.mp h;subst h;refine A.s I h1 λJ H1 s1 wk=> ?_;have I1:=aaV (js:=js) (I.same s1);have aaW:∀i∈is,∀β,(gH n js Z)[i]?≠some (some β):=λi hi β z=>by
   have:=gA.mp c.2 i hi;have e:js[i]?=some none:=by simpa using this
   unfold gH at z;rw[bJ,e]at z;cases z
  have vq:∀(j:Nat) (β:B),(gH n js Z)[j]?=some (some β)->∀r p,β≠ .aB r p:=λj β z r p e=>by
   subst e;unfold gH at z;rw[bJ]at z;cases e:js[j]? with
   |none=>rw[e]at z;cases z
   |some o=>
    rw[e]at z;have z:=hV z;cases o with
    |none=>cases z
    |some x=>
     have z:(if x < n then(af x Z).map B.ro else none)=some (B.aB r p):=z;by_cases c:x < n
     ·rw[if_pos c]at z;obtain⟨_,_,w⟩:=aY.mp z;cases w
     ·rw[if_neg c]at z;cases z
  refine⟨λi m aF ys H'=>m=ds.length - i/\i<=ds.length/\aJ H1 H'/\av K js.length H' (λ_=>False) aF [] (gH n js Z) [] []/\ys.length<=i/\∃ea eb,es=ea++eb/\jG K H1 H' ys ea/\jH fg ft fe (gH n js Z) (ds.drop i)=some eb,⟨ds.length,by simp,jO _,aJ.refl _,I1,bO _, [],es,rfl, .nil,h2⟩, ?_⟩;rintro i m aF ys H' ⟨rfl,hi,sx,Ix,hy,ea,eb,rfl,ow,cd⟩;by_cases dS:i < ds.length
  ·right;have hd:ds[i]?=some ds[i]:=dH dS;obtain⟨go,yl⟩:=(wk H' sx).2 i _ hd;rw[Cr dS]at cd;rw[jH]at cd;obtain⟨ρ1,b1,cd⟩:=ak.mp cd;obtain⟨b,b2,cd⟩:=ak.mp cd;refine⟨go,λeY zs H2=>aJ H1 H2/\av K js.length H2 (λ_=>False) eY [] (gH n js Z) [] []/\zs.length<=i + 1/\∃fa fb,ea++eb=fa++fb/\jG K H1 H2 zs fa/\jH fg ft fe (gH n js Z) (ds.drop (i + 1))=some fb,λeY zs H2 ⟨a1,a2,a3,a4⟩=>⟨by lia,_,by lia,rfl,dS,a1,a2,a3,a4⟩,λx H2 y2=> ?_⟩;obtain⟨s2,w2⟩:=yl x H2 y2;refine G.s (Ix.same s2) (w2.mono λ_ _ z=>z) b1 λeY I2=> ?_;have back:∀{H3:Hp},aJ H2 H3->av K js.length H3 (λ_=>False) eY [] (gH n js Z) [] []:=λ{H3} s3=>by
    refine(I2.same s3).weaken (G.len b1).symm λj β q=> ?_;by_cases hj:j∈is
    ·exact absurd q (aaW j hj β)
    ·exact G.keep b1 hj (vq j β q) q
   refine T.s I2 b2 λH4 s4=> ?_;cases b with
   |true=>
    rw[if_pos rfl]at cd |-;obtain⟨y,b3,cd⟩:=ak.mp cd;obtain⟨fb,b4,cd⟩:=aY.mp cd;subst cd;refine Q'.o (I2.same s4) b3 λv H5 s5 o=>⟨sx.trans (s2.trans (s4.trans s5)),back (s4.trans s5),by simp;lia,ea++ [y],fb,by simp, ?_,b4⟩
    have o':cA K H' H5 v y:=o.early (s2.trans s4);exact ow.snoc o' sx (s2.trans (s4.trans s5))
   |false=>
    rw[if_neg df]at cd |-;refine⟨sx.trans (s2.trans s4),back s4,by lia,ea,eb,rfl, ?_,cd⟩;obtain⟨hl,Fs,dj,fr,rp⟩:=ow;exact⟨hl,Fs,dj,λj b z=>⟨(fr j b z).1,AL (fr j b z).2 (s2.trans s4)⟩,λj v d a b=>(rp j v d a b).same (s2.trans s4)⟩
  ·left;have e:i=ds.length:=by lia
   subst e;rw[FR,jH]at cd;cases cd;rw[eK]at k;refine⟨(wk H' sx).1,λD hD=> ?_⟩;exact k _ _ ((s1.trans sx).trans (fE hD _)) ((ow.node (k:= .lst) sx hD (.inr ⟨rfl,trivial,0,rfl⟩)).early s1)
 ·rw[if_neg c]at h;cases h⟩
variable {E:ke}
structure Iu(K:ah)(J:It)(ds:List D)(P:Hp->(Addr->Prop)->Prop):Prop where
 step:∀{H H' U U'},P H U->bH U H U' H'->(∀b,U b->iB (H b))->P H' U'
 stop:∀{H U},P H U->J.stop ds.length H
 item:∀{H U} {i:Nat} {d:D},P H U->ds[i]?=some d->J.go i H/\∀x H',J.s9 i H x H'->H'=H/\Vw K H (λb=>¬ U b) x d
class A2(K:ah)(n:Nat)(wi:TI)(f:outParam (En->Option (List D))):Prop where
 s:∀{σ hv:List (Option V)} {H:Hp} {U:Addr->Prop} {Z:En} {τv:List V} {τd:List D} {ds:List D} {R:It->Hp->Prop},av K n H U σ hv Z τv τd->f Z=some ds->(∀J P H',aJ H H'->Iu K J ds P->P H' U->R J H')->wi σ H R
theorem D4(lo:Int)(m:Nat):Iu K (Ac lo m) (iQ lo m) λ_ _=>True:=by
 have l:(iQ lo m).length=m:=by unfold iQ;simp
 refine⟨λ_ _ _=>trivial,λ{H U} _=>by show m<=_;rw[l];exact bO _,λ{H U i d} _ hd=> ?_⟩;have hi:i < m:=by rw[<- l];exact(cX.mp hd).1
 refine⟨hi,λx H2 ⟨e,hx⟩=>⟨e, ?_⟩⟩;subst hx;unfold iQ at hd;rw[bJ,V6 hi]at hd;cases hd;exact .sc _
instance akp[A:SA K n ta fa]:A2 K n (CK ta) (λZ=>(fa Z).bind tZ):=⟨λ{σ hv H U Z τv τd ds R} I h k=>by
 obtain⟨a,h1,h2⟩:=ak.mp h;refine A.s I h1 λvs H1 s1 w=> ?_;obtain⟨j,e,c1,c2,e2⟩:=Ir w h2;subst e2;exact⟨j,e,c1,c2,k _ _ H1 s1 (D4 0 _) trivial⟩⟩
theorem D5(h:dm K H (λb=>¬ U b) vs cs)(st:bH U H U' H')(mu:∀b,U b->iB (H b)):dm K H' (λb=>¬ U' b) vs cs:=⟨h.1,λi v d a b=>(h.2 i v d a b).over (λb o nb q=>st b o q nb) (st.gO mu)⟩
theorem Q0{R:It->Hp->Prop}(w:Vw K H (λb=>¬ U b) v d)(h:fP d=some ds)(k:∀J P,Iu K J ds P->P H U->R J H):
  (∃a,v= .ref a/\(∃xs,cI K H a xs)/\R (u5 K a) H)\/(∃a,v= .ref a/\(∃xs,cE K H a xs)/\R (CJ K a) H)\/∃z,v= .str z/\R (Dq z) H:=by
 unfold fP at h
 split at h
 ·next cs=>
  cases h;obtain⟨a,vs,rfl,na,hc,hl,bB⟩:=w.node;refine .inl ⟨a,rfl,⟨vs,cI.of hc.2⟩,k _ (λH U=>H a=some (.lst vs)/\¬ U a/\dm K H (λb=>¬ U b) vs ds) ⟨λ{H H' U U'} ⟨x1,x2,x3⟩ st mu=>⟨(st _ _ x1 x2).1,(st _ _ x1 x2).2,D5 x3 st mu⟩,λ{H U} ⟨x1,_,x3⟩=>⟨vs,cI.of x1,by rw[x3.1];exact bO _⟩,λ{H U i d} ⟨x1,x2,x3⟩ hd=> ?_⟩ ⟨hc.2,na rfl,hl,bB⟩⟩;obtain⟨u,hu,w⟩:=x3.get hd;exact⟨⟨vs,u,cI.of x1,hu⟩,λx H2 ⟨e,q⟩=>⟨e,by
   have:=q vs (cI.of x1);rw[hu]at this;cases this;exact w⟩⟩
 ·next cs=>
  cases h;obtain⟨a,vs,rfl,na,hc,hl,bB⟩:=w.node;refine .inr (.inl ⟨a,rfl,⟨vs,cE.of hc.2⟩,k _ (λH U=>H a=some (.tup vs)/\dm K H (λb=>¬ U b) vs ds) ⟨λ{H H' U U'} ⟨x1,x3⟩ st mu=>⟨st.gO mu _ _ (λz=>z) x1,D5 x3 st mu⟩,λ{H U} ⟨x1,x3⟩=>⟨vs,cE.of x1,by rw[x3.1];exact bO _⟩,λ{H U i d} ⟨x1,x3⟩ hd=> ?_⟩ ⟨hc.2,hl,bB⟩⟩);obtain⟨u,hu,w⟩:=x3.get hd;exact⟨⟨vs,u,cE.of x1,hu⟩,λx H2 ⟨e,q⟩=>⟨e,by
   have:=q vs (cE.of x1);rw[hu]at this;cases this;exact w⟩⟩
 ·next cs=>
  cases h;obtain⟨a,vs,rfl,na,hc,hl,bB⟩:=w.node;have ho:jA K H a vs:=hc.2;refine .inl ⟨a,rfl,⟨vs,ho.sq⟩,k _ (λH U=>jA K H a vs/\dm K H (λb=>¬ U b) vs ds) ⟨λ{H H' U U'} ⟨x1,x3⟩ st mu=>⟨x1.gO (st.gO mu),D5 x3 st mu⟩,λ{H U} ⟨x1,x3⟩=>⟨vs,x1.sq,by rw[x3.1];exact bO _⟩,λ{H U i d} ⟨x1,x3⟩ hd=> ?_⟩ ⟨ho,hl,bB⟩⟩;obtain⟨u,hu,w⟩:=x3.get hd;exact⟨⟨vs,u,x1.sq,hu⟩,λx H2 ⟨e,q⟩=>⟨e,by
   have:=q vs (x1.sq);rw[hu]at this;cases this;exact w⟩⟩
 ·next z=>
  cases h;have lz:(chars z).length=z.cps.size:=by unfold chars;simp
  refine .inr (.inr ⟨z,w.bA,k _ (λ_ _=>True) ⟨λ_ _ _=>trivial,λ{H U} _=>by show z.cps.size<=_;rw[lz];exact bO _,λ{H U i d} _ hd=> ?_⟩ trivial⟩);have hi:i < z.cps.size:=by rw[<- lz];exact(cX.mp hd).1
  refine⟨hi,λx H2 ⟨e,c,hc,hx⟩=>⟨e, ?_⟩⟩;subst hx;unfold chars at hd;rw[bJ]at hd;have:z.cps.toList[i]?=some c:=by simpa using hc
  rw[this]at hd;cases hd;exact .sc _
 ·cases h
def apH(f:En->Option Pl)(Z:En):Option (List D):=(f Z).bind λ
 |.ro d=>fP d
 |.rt _ _=>none
instance (priority:=500) aw9{tl:TE}{fl:En->Option Pl}[A:SP K n tl fl]:A2 K n (vV K tl) (apH fl):=⟨λ{σ hv H U Z τv τd ds R} I h k=>by
 obtain⟨q,h1,h2⟩:=ak.mp h;cases q with
 |rt _ _=>cases h2
 |ro d=>exact A.s I h1 λx H1 s1 w1=>Q0 w1 h2 λJ P wk p=>k J P H1 s1 wk p⟩
noncomputable def eB (fg:D->En->Option En) (fb:En->Option Fl):List D->En->Option Fl
 | [],Z=>some (.nx Z)
 |d::ds,Z=>(fg d Z).bind λρ1=>(fb ρ1).bind λ
  |.nx ai=>eB fg fb ds ai
  |.ct ai=>eB fg fb ds ai
  |.bk ai=>some (.nx ai)
  |.rt d ai=>some (.rt d ai)
instance aaX[A:A2 K n wi fi][G:SG K n g fg is][B':SS K n tb fb]:SS K n (xv wi g tb) (λZ=>(fi Z).bind λds=>eB fg fb ds Z):=⟨λ{σ hv H U Z τv τd fl E} I h k=>by
 obtain⟨ds,h1,h⟩:=ak.mp h;refine A.s I h1 λJ P H1 s1 wk p0=> ?_;have gw:bH U H U H1:=λb o q nu=>⟨s1 b o q,nu⟩
 refine⟨λi m aF H'=>m=ds.length - i/\i<=ds.length/\∃U' ρ',av K n H' U' aF hv ρ' τv τd/\bH U H U' H'/\P H' U'/\eB fg fb (ds.drop i) ρ'=some fl,⟨ds.length,by simp,jO _,U,Z,I.same s1,gw,p0,h⟩, ?_⟩;rintro i m aF H' ⟨rfl,hi,U',ρ',Ix,st,p,fo⟩;by_cases dS:i < ds.length
 ·right;have hd:ds[i]?=some ds[i]:=dH dS;obtain⟨go,yl⟩:=wk.item p hd;rw[Cr dS,eB]at fo;obtain⟨ρ1,b1,fo⟩:=ak.mp fo;obtain⟨t6,b2,fo⟩:=ak.mp fo;refine⟨go,λeY H2=>∃U2 ai,av K n H2 U2 eY hv ai τv τd/\bH U' H' U2 H2/\eB fg fb (ds.drop (i + 1)) ai=some fl,λeY H2 ⟨U2,ai,a1,a2,a3⟩=>⟨_,by lia,rfl,dS,U2,ai,a1,st.trans a2,wk.step p a2 Ix.ok.mu,a3⟩,λx H2 y2=> ?_⟩;obtain⟨e,w2⟩:=yl x H2 y2;subst e;refine G.s Ix w2 b1 λeY I2=> ?_;refine B'.s I2 b2 ?_;cases t6 with
  |nx ai=>exact λgp H3 U3 I3 s3=>⟨U3,ai,I3,s3,fo⟩
  |ct ai=>exact λgp H3 U3 I3 s3=>⟨U3,ai,I3,s3,fo⟩
  |bk ai=>cases fo;exact λgp H3 U3 I3 s3=>k gp H3 U3 I3 (st.trans s3)
  |rt d ai=>cases fo;exact λv gp H3 U3 I3 s3=>k v gp H3 U3 I3 (st.trans s3)
 ·left;have e:i=ds.length:=by lia
  subst e;rw[FR,eB]at fo;cases fo;exact⟨wk.stop p,k aF H' U' Ix st⟩⟩
open Classical in
end
section
variable {K:ah}{n:Nat}{H H' H1 H2:Hp}{U U':Addr->Prop}{σ hv:List (Option V)}{Z ρ':En}{τv vs:List V}{τd ds:List D}{v y:V}{d:D}{E:XK}{N:Addr->Prop}{C:Addr}{m:Str}
theorem arP:∀{ns:List Str} {vs:List V},iI f ns=none->ns.length=vs.length->(ns.zip vs).lookup f=none
 | [], [],_,_=>rfl
 | [],_::_,_,h=>by cases h
 |g::r, [],_,h=>by cases h
 |g::r,v::vs,h,hl=>by
  rw[iI]at h;rw[nV,nR];by_cases c:(f == g)=true
  ·rw[if_pos c]at h;cases h
  ·rw[if_neg c]at h;rw[awJ]at c;rw[c];exact arP (awK.mp h) (eF hl)
def N1(C:Addr)(m:Str):D->Bool
 |.nd (.obj C' ns) _=>decide (C'=C) && (iI m ns).isNone
 |_=>false
theorem Vw.objOf(w:Vw K H N v d)(h:N1 C m d=true):∃a dx fs,v= .ref a/\H a=some (.ins C dx fs)/\fs.lookup m=none:=by
 unfold N1 at h
 split at h
 ·next C' ns cs=>
  rw[kM]at h;obtain⟨a,vs,rfl,_,hc,hl,bB⟩:=w.node;obtain⟨⟨hf,_,_⟩,dx,ha⟩:=hc;have e:C'=C:=by simpa using h.1
  subst e;exact⟨a,dx,_,rfl,ha,arP (by simpa using h.2) hf⟩
 ·cases h
def N2(G:List D->Option (D×List D))(C:Addr)(m:Str)(fp:En->Option Pl)(fr:En->Option (List Ar))(Z:En):Option (D×En):=(fp Z).bind λq=>(gi Z q).bind λd=>if N1 C m d=true then(match q with
 |.rt r p=>(fr Z).bind λas=>fL G (.io ⟨r,p⟩::as) Z
 |.ro _=>none) else none
instance (priority:=600) axa{ta:TE}{t:TA}{bp:List Bool}{G:List D->Option (D×List D)}{fp:En->Option Pl}{fr:En->Option (List Ar)}[P:SP K n ta fp][R:tW K n bp t fr]:SM K n (ahe C m (dW K (true::bp) G) [] E ta t) (N2 G C m fp fr):=⟨λ{σ hv H U Z ρ' τv τd d Q} I h k=>by
 obtain⟨q,h1,h⟩:=ak.mp h;obtain⟨x,h2,h⟩:=ak.mp h;by_cases c:N1 C m x=true
 ·rw[if_pos c]at h;cases q with
  |ro _=>cases h
  |rt r p=>
   obtain⟨as,h3,h⟩:=ak.mp h;refine P.s I h1 λv H1 s1 w1=> ?_;have I1:=I.same s1;have gw:bH U H U H1:=λb o q nu=>⟨s1 b o q,nu⟩
   obtain⟨a,dx,fs,rfl,ha,hl⟩:=(I1.at w1 h2).objOf c;refine⟨a,dx,fs,rfl,ha,hl,R.s I1 h3 λvs ws wd H2 U2 I2 rC dJ s2 ao=> ?_⟩;rw[eK];exact I2.Ia rC (gw.trans dJ) (.io (i:=⟨r,p⟩) (w1.step s2 dJ) ao) h k
 ·rw[if_neg c]at h;cases h⟩
class eQ(K:ah)(C:Addr):Prop where
 h:mN K C
theorem D7{α:Type}:∀(k:Nat) (xs:List α),bW (ki k false) xs= []
 |0,_=>by simp[bW]
 |k + 1, []=>by simp[bW,ki]
 |k + 1,x::xs=>by rw[List.replicate_succ,bW];exact D7 k xs
theorem aaY{Q:VK}(hC:mN K C)(w:dm K H T1 vs ds)(hk:ds.length=k)(hG:G (.nd (.obj C []) []::ds)=some (r, [out]))(hr:r= .sc .aG)(hx:H x=none)(Iw:H dx=none)(ne:dx≠x)
  (q:∀H',aJ H H'->cA K H H' (.ref x) out->Q (.ref x) H'):dW K (true::ki k false) G (.ref x::vs) (upd (upd H dx (.own x)) x (.ins C dx [])) (λv H2=>v= .aG/\Q (.ref x) H2) E:=by
 have s0:aJ H (upd (upd H dx (.own x)) x (.ins C dx [])):=λb o e=>by
  rw[ba (gM e hx),ba (gM e Iw)];exact e
 have ahg:upd (upd H dx (.own x)) x (.ins C dx []) x=some (.ins C dx []):=de;refine⟨by rw[c8,c8,zl,w.1,hk], .nd (.obj C []) []::ds,λb=>b=x,r, [out],by rw[c8,c8,zl,hk], ?_,λi u e hm hu he=> ?_,hG,λv H2 U2 ok st=> ?_⟩
 ·rw[bW,bW,D7,D7];refine⟨rfl,λb hb=>by rw[hb,ahg];trivial,λi b=>i=0/\b=x,λi j b hi hj=>by rw[hi.1,hj.1],λi b hb=>hb.2,λi β aw=> ?_⟩;cases i with
  |succ i=>simp[bU]at aw
  |zero=>
   cases aw;refine⟨.ref x,rfl, .nd (vs:= []) (λ_ _=>False) ?_ rfl (λ_ _ _ z=>z.elim) (λ_ _ z=>z.elim) λi v d h=>by simp at h⟩;exact⟨⟨rfl,rfl⟩,rfl,⟨rfl,hC,λf hf=>by simp at hf⟩,dx,ahg⟩
 ·cases i with
  |zero=>cases hm
  |succ i=>
   have a:vs[i]?=some u:=by simpa using hu
   have b:ds[i]?=some e:=by simpa using he
   exact(w.2 i u e a b).over (λc o _ q=>⟨s0 c o q,λz=>by rw[z,hx]at q;cases q⟩) (gu.of s0)
 ·subst hr;rw[bW,D7]at ok;obtain⟨_,mu,Fs,dj,sub,sl⟩:=ok;obtain⟨v',ev,sv⟩:=sl 0 _ rfl;cases ev;have e0:v= .aG:=bg.bA sv;obtain⟨x',ex,sx⟩:=sl 1 (.own out) rfl;cases ex;refine⟨e0,q H2 (λb o e=>(st b o (s0 b o e) λz=>by rw[z,hx]at e;cases e).1) ⟨Fs 1,sx,λb z=>⟨?_,mu b (sub 1 b z)⟩⟩⟩;cases e:H b with
  |none=>rfl
  |some o=>exact absurd (sub 1 b z) (st b o (s0 b o e) λz=>by rw[z,hx]at e;cases e).2
noncomputable def oO:D->Bool
 |.sc .aG=>true
 |_=>false
instance akv:SF K n Dc (λ_=>some (.nd (.aO []) [])):=⟨λ{σ hv H U Z τv τd d Q} I h k=>by
 cases h;intro p hp;exact k _ _ (fE hp _) ((jG.nil).node (aJ.refl H) hp (.inr ⟨rfl,rfl,0,rfl⟩))⟩
theorem aaZ(hc:iT K H a k vs)(h:fW (.nd k cs) dy=some o):Df H a:=by
 unfold fW at h
 split at h
 ·next ks _ i e=>cases e;exact .inl ⟨_,hc.2⟩
 ·next ks _ fU e=>cases e;exact .inr ⟨_,hc.2⟩
 ·cases h
def iu(fd fy fx:En->Option D)(Z:En):Option D:=(fd Z).bind λd=>(fy Z).bind λy=>(fx Z).bind λx=>(fW d y).bind λ
 |some i=>jh d i
 |none=>some x
instance akw[A:SV K n td fd][B':SV K n ty fy][C':SV K n tx fx]:SV K n (Pp td ty tx) (iu fd fy fx):=⟨λ{σ hv H U Z τv τd d Q} I h k=>by
 obtain⟨x,h1,h⟩:=ak.mp h;obtain⟨y,h2,h⟩:=ak.mp h;obtain⟨z,h3,h⟩:=ak.mp h;obtain⟨o,h4,h⟩:=ak.mp h;refine A.s I h1 λv H1 s1 w1=> ?_;cases x with
 |sc _=>simp[fW]at h4
 |hl _=>simp[fW]at h4
 |nd kk cs=>
  obtain⟨a,vs,rfl,_,hc,hl,bB⟩:=w1.node;refine⟨a,rfl,aaZ hc h4,B'.s (I.same s1) h2 λu H2 s2 w2=>C'.s ((I.same s1).same s2) h3 λt H3 s3 w3=> ?_⟩;have aa0:=hc.frame (λ_ o e=>(s2.trans s3) _ _ e) (gu.of (s2.trans s3));have g:=aa0.DV hl (w2.same s3) h4;cases o with
  |none=>
   cases h;exact⟨_,g,k t H3 (s1.trans (s2.trans s3)) w3⟩
  |some i=>
   obtain⟨b,hb⟩:=pL hl h;have e:(some i).bind (vs[·]?)=some b:=hb;rw[e]at g;exact⟨_,g,k b H3 (s1.trans (s2.trans s3)) ((bB i b d hb h).same (s2.trans s3))⟩⟩
section
variable {κ:Type}[DecidableEq κ]
theorem Q2{y:V}:∀{ks:List κ} {vs:List V} {i:Nat},cM k ks=some i->ks.length=vs.length->ks.Nodup->i8 (ks.zip vs) k y=ks.zip (vs.set i y):=λ{ks vs i} h hl nd=>by
 have ha:((ks.zip vs).any λkv=>decide (kv.1=k))=true:=by rw[Ih hl,h];rfl
 unfold i8;rw[if_pos ha];clear ha
 induction ks generalizing vs i with
 |nil=>cases h
 |cons g r ih=>
  match vs,hl with
  | [],hl=>cases hl
  |v::vs,hl=>
   rw[cM]at h;have Q3:=jP.mp nd;by_cases c:g=k
   ·rw[if_pos c]at h;cases h;rw[nV,cP];have rest:∀(l:List κ) (us:List V),k∉l->(l.zip us).map (λkv=>if kv.1=k then(kv.1,y) else kv)=l.zip us:=by
     intro l
     induction l with
     |nil=>intro us _;rfl
     |cons b l aa1=>
      intro us hn;cases us with
      |nil=>rfl
      |cons u us=>
       rw[nV,cP,aa1 us λz=>hn (.tail _ z)];have:¬ b=k:=λz=>hn (by rw[z];exact .head _);simp[this]
    rw[rest r vs (by rw[<- c];exact Q3.1)];simp[c]
   ·rw[if_neg c]at h;obtain⟨j,h1,h2⟩:=aY.mp h;subst h2;rw[nV,cP,ih h1 (eF hl) Q3.2];simp[c]
theorem aa2{y:V}{ks:List κ}{vs:List V}(h:cM k ks=none)(hl:ks.length=vs.length):i8 (ks.zip vs) k y=(ks++ [k]).zip (vs++ [y]):=by
 have ha:((ks.zip vs).any λkv=>decide (kv.1=k))=false:=by rw[Ih hl,h];rfl
 unfold i8;rw[if_neg (by rw[ha];exact df),List.zip_append hl];rfl
end
def yf(k:Kd)(cs:List D)(y d:D):Option D:=match k with
 |.aO ks=>(kJ y).bind λkey=>if cs.length < aM/\ks.Nodup then(match cM key ks with
  |some i=>some (.nd (.aO ks) (cs.set i d))
  |none=>some (.nd (.aO (ks++ [key])) (cs++ [d]))) else none
 |_=>none
def hJ(fv:En->Option (D×En))(fp:En->Option Pl)(fy:En->Option D)(Z:En):Option Fl:=(fv Z).bind λa=>(fp a.2).bind λ
 |.rt r p=>(fy a.2).bind λy=>(eM a.2 r p).bind λz=>(yf z.2.1 z.2.2 y a.1).map λd'=> .nx (fV a.2 r z.1 p d')
 |.ro _=>none
instance akx[A:SM K n tv fv][P:SP K n td fp][Y:SV K n ty fy]:SS K n (G2 td ty tv) (hJ fv fp fy):=⟨λ{σ hv H U Z τv τd fl E} I h k=>by
 obtain⟨⟨d,ρ1⟩,h1,h⟩:=ak.mp h;obtain⟨q,h2,h⟩:=ak.mp h;cases q with
 |ro _=>cases h
 |rt r p=>
  obtain⟨y,h5,h⟩:=ak.mp h;obtain⟨⟨d0,kk,cs⟩,h3,h⟩:=ak.mp h;obtain⟨d',h4,h⟩:=aY.mp h;subst h;obtain⟨hr,hg⟩:=qx h3;refine A.s I h1 λx H1 U1 I1 bQ=> ?_;refine P.s I1 h2 λo H2 s2 w2=> ?_;have I2:=I1.same s2;refine Y.s I2 h5 λu H3 s3 w3=> ?_;have I3:=I2.same s3;have yg:=w2.same s3;have gw:bH U1 H1 U1 H3:=λb o q nu=>⟨(s2.trans s3) b o q,nu⟩
  unfold yf at h4
  split at h4
  ·next ks e=>
   subst e;obtain⟨key,e1,h4⟩:=ak.mp h4;by_cases c:cs.length < aM/\ks.Nodup
   ·rw[if_pos c]at h4;obtain⟨a,dx,vs,rfl,ha,hf,hl,_,ed⟩:=av.edit (xs:= [x]) (ds:= [d]) I3 rfl yg hr hg rfl
    split at h4
    ·next i e2=>
     cases h4;have hi:i < vs.length:=by rw[<- hf];exact AX e2
     refine⟨a,_,rfl, .inl ⟨_,key,ha,w3.key e1,by rw[pz];lia,rfl⟩, ?_⟩;rw[Q2 e2 hf c.2];obtain⟨U4,I4,g8⟩:=ed (.aO ks) (vs.set i x) (cs.set i d) _ rfl (by show ks.length=(vs.set i x).length;rw[bN];exact hf) (by rw[bN,bN];exact hl)
      (λx z hx hz=>AR hi x z (by rw[bN]at hx;exact hx) (by rw[bN]at hz;exact hz)) (qy hi) (by rw[hl];exact qy (by lia))
     exact k σ _ U4 I4 (bQ.trans (gw.trans g8))
    ·next e2=>
     cases h4;refine⟨a,_,rfl, .inl ⟨_,key,ha,w3.key e1,by rw[pz];lia,rfl⟩, ?_⟩;rw[aa2 e2 hf];obtain⟨U4,I4,g8⟩:=ed (.aO (ks++ [key])) (vs++ [x]) (cs++ [d]) id rfl (by show(ks++ [key]).length=_;simp;exact hf) (by simp;exact hl) (λx z _ _ h=>h) (λj x h=>h) λj x h=>h;exact k σ _ U4 I4 (bQ.trans (gw.trans g8))
   ·rw[if_neg c]at h4;cases h4
  ·cases h4⟩
end
end VL
namespace HT
open PySem PySem.Spec PyProof.Rows L2
section
variable {w:World}{A:Around}{E:Value->Shared->Prop}{s:Shared}
theorem aa3{t sl:Addr}{items:Array Value}{vl vu:Value}{lo hi:Option Int}{Q:Value->Shared->Prop}(ht:IsTup s.heap t items)(hs:s.heap.IsSliceOf sl vl vu .none)(pl:IsPart vl lo)(pu:IsPart vu hi)
  (hw:bE items.size 0 lo=0/\bE items.size items.size hi=items.size) (h:Q (.ref t) s):wpAny (model prog w) A (getItem (.ref t) (.ref sl)) Q E s:=by
 obtain⟨os,mP,ql,qm⟩:=id hs;have Ak:s.TypeIs (.ref sl) "slice":=⟨os,mP,ql⟩
 unfold getItem
 try with_reducible refine uL ?_
 first | refine az (bF ?_) | skip
 refine az (wpAny_sequenceKey ht.typeIs (by decide) ?_);refine az (ze (name:=ae "__getitem__") ht.typeIs uQ
  (wpAny_call_entry uQ ht.typeIs Vd ?_ (args_tuple_getitem _ _)))
 show wpAny _ _ (VJ (.ref t) >>= _) _ _ s;refine az (tupleItemsOf_ ht ?_);refine az (Np Ak ?_);rw[if_pos (by decide)];refine az (OW hs pl pu ?_);have aa4:(((bE items.size 0 lo:Nat):Int) == 0 && (1:Int) == 1 && (bE items.size items.size hi - bE items.size 0 lo) == items.size)=true:=by
  rw[hw.1,hw.2];simp
 show wpAny _ _ (if(((bE items.size 0 lo:Nat):Int) == 0 && (1:Int) == 1 && (bE items.size items.size hi - bE items.size 0 lo) == items.size)=true then _ else _) _ _ s;rw[if_pos aa4];unfold Builtin.Tuple.tupleIsExact;refine az (az (Np ht.typeIs (bF ?_)));rw[if_pos (by decide)];exact az (wpAny_rule (bF ⟨_,rfl,bF h⟩))
end
end HT
namespace VL
open PySem PySem.Spec PyProof.Rows L2
def Q4(K:ah):V->Option Int->Option Int->Hp->VK->Prop:=λx lo hi H Q=>∃a xs,x= .ref a/\cE K H a xs/\(HT.bE xs.length 0 lo=0/\HT.bE xs.length xs.length hi=xs.length)/\Q (.ref a) H
theorem aa5:mQ X (Q4 X.K):=by
 intro ab s σ H x v vl vu lo hi sl Q I rx hs pl pu h;obtain⟨a,xs,rfl,hx,hw,q⟩:=h;cases rx;obtain⟨its,r,ht,hz⟩:=I.tuple hx;have dw:its.toArray.size=xs.length:=by rw[fM];exact r.length.symm
 refine⟨"tuple",_,uQ.lookup,ht.typeIs, ?_⟩;exact HT.aa3 ht hs pl pu (by rw[dw];exact hw) ⟨.ref a,H,I,rfl,q⟩
def aa6:V->Option Int->Option Int->Hp->VK->Prop:=λx lo hi H Q=>∃z,x= .str z/\z.length<=aM/\Q (.str (xj z lo hi)) H
def oR(K:ah):V->Option Int->Option Int->Hp->VK->Prop:=λx lo hi H Q=>OZ K x lo hi H Q\/Q4 K x lo hi H Q\/O6 K x lo hi H Q\/aa6 x lo hi H Q
theorem yh:mQ X (oR X.K):=mQ.or XN (mQ.or aa5 (mQ.or XZ Zn))
def cutD{α:Type}(xs:List α)(lo hi:Option Int):List α:=(xs.drop (HT.bE xs.length 0 lo)).take (HT.bE xs.length xs.length hi - HT.bE xs.length 0 lo)
def oS(a:D)(lo hi:Option Int):Option D:=match a with
 |.nd .tup cs=>if bI cs=true then some (.nd .tup (cutD cs lo hi)) else none
 |.nd .lst cs=>if bI cs=true then some (.nd .lst (cutD cs lo hi)) else none
 |.nd .dA cs=>if bI cs=true then some (.nd .lst (cutD cs lo hi)) else none
 |.sc (.str z)=>if z.length<=aM then some (.sc (.str (xj z lo hi))) else none
 |_=>none
section
variable {K:ah}{n:Nat}{H H' H1 H2:Hp}{U U':Addr->Prop}{σ hv:List (Option V)}{Z ρ':En}{τv vs:List V}{τd ds:List D}{v y:V}{d:D}
theorem D8{α β:Type}{R:α->β->Prop}{xs:List α}{ys:List β}(hl:xs.length=ys.length)(h:∀(i:Nat) (x:α) (y:β),xs[i]?=some x->ys[i]?=some y->R x y)(lo hi:Option Int):
  (cutD xs lo hi).length=(cutD ys lo hi).length/\∀(i:Nat) (x:α) (y:β),(cutD xs lo hi)[i]?=some x->(cutD ys lo hi)[i]?=some y->R x y:=by
 unfold cutD;rw[hl];generalize HT.bE ys.length 0 lo=p;generalize HT.bE ys.length ys.length hi - p=q;refine⟨by simp[hl],λi x y hx hy=> ?_⟩;by_cases c:i < q
 ·rw[VE c,List.getElem?_drop]at hx hy;exact h _ x y hx hy
 ·rw[List.getElem?_take,if_neg c]at hx;cases hx
theorem Iy(h:bI cs=true)(hs:∀d∈es,d∈cs):bI es=true:=vM λd hd=>xV h (hs d hd)
theorem Iz{α:Type}{xs:List α}{lo hi:Option Int}:∀x∈cutD xs lo hi,x∈xs:=λx hx=>awL (awM hx)
class SO(K:ah)(n:Nat)(t:TO)(f:outParam (En->Option (Option Int))):Prop where
 s:∀{σ hv:List (Option V)} {H:Hp} {U:Addr->Prop} {Z:En} {τv:List V} {τd:List D} {o:Option Int} {Q:Option Int->Hp->Prop},av K n H U σ hv Z τv τd->f Z=some o->(∀H',aJ H H'->Q o H')->t σ H Q
instance aky:SO K n arK (λ_=>some none):=⟨λI h k=>by cases h;exact k _ (aJ.refl _)⟩
noncomputable def i9:D->Option (Option Int)
 |.sc (.int i)=>some (some i)
 |_=>none
instance akz[A:SV K n t f]:SO K n (rm t) (λZ=>(f Z).bind i9):=⟨λ{σ hv H U Z τv τd o Q} I h k=>by
 obtain⟨d,h1,h2⟩:=ak.mp h;refine A.s I h1 λv H1 s1 w1=> ?_;unfold i9 at h2
 split at h2
 ·next i=>cases h2;exact⟨i,w1.bA,k H1 s1⟩
 ·cases h2⟩
theorem Q5{Q:VK}{x:D}{lo hi:Option Int}(w:Vw K H T1 v x)(h:oS x lo hi=some d)(k:∀v H',aJ H H'->cA K H H' v d->Q v H'):oR K v lo hi H Q:=by
 unfold oS at h
 split at h
 ·next cs=>
  by_cases c:bI cs=true
  ·rw[if_pos c]at h;cases h;obtain⟨a,vs,rfl,hc,vl⟩:=w.ip;by_cases cw:HT.bE vs.length 0 lo=0/\HT.bE vs.length vs.length hi=vs.length
   ·refine .inr (.inl ⟨a,vs,rfl,cE.of hc.2,cw, ?_⟩);have e:cutD cs lo hi=cs:=by
     unfold cutD;rw[<- vl.1,cw.1,cw.2,V7,atw,vl.1,aiF]
    rw[e]at k;exact k _ H (aJ.refl H) (cA.plain w c)
   ·refine .inl ⟨a,vs,rfl,cE.of hc.2,cw,λp hp=> ?_⟩;have g:=D8 vl.1 vl.2 lo hi;exact k _ _ (fE hp _) (dm.own (k:= .tup) ⟨g.1,g.2⟩ (Iy c Iz) hp (.inl ⟨rfl,rfl⟩))
  ·rw[if_neg c]at h;cases h
 ·next cs=>
  by_cases c:bI cs=true
  ·rw[if_pos c]at h;cases h;obtain⟨a,vs,rfl,hc,vl⟩:=w.ip;refine .inr (.inr (.inl ⟨a,vs,rfl,cI.of hc.2,λp hp=> ?_⟩));have g:=D8 vl.1 vl.2 lo hi;exact k _ _ (fE hp _) (dm.own (k:= .lst) ⟨g.1,g.2⟩ (Iy c Iz) hp (.inr ⟨rfl,trivial,0,rfl⟩))
  ·rw[if_neg c]at h;cases h
 ·next cs=>
  by_cases c:bI cs=true
  ·rw[if_pos c]at h;cases h;obtain⟨a,vs,rfl,hc,vl⟩:=w.ip;refine .inr (.inr (.inl ⟨a,vs,rfl,jA.sq hc.2,λp hp=> ?_⟩));have g:=D8 vl.1 vl.2 lo hi;exact k _ _ (fE hp _) (dm.own (k:= .lst) ⟨g.1,g.2⟩ (Iy c Iz) hp (.inr ⟨rfl,trivial,0,rfl⟩))
  ·rw[if_neg c]at h;cases h
 ·next z=>
  by_cases c:z.length<=aM
  ·rw[if_pos c]at h;cases h;exact .inr (.inr (.inr ⟨z,w.bA,c,k _ H (aJ.refl H) (.sc _)⟩))
  ·rw[if_neg c]at h;cases h
 ·cases h
def lT(fe:En->Option D)(fl fh:En->Option (Option Int))(Z:En):Option D:=(fe Z).bind λd=>(fl Z).bind λlo=>(fh Z).bind λhi=>oS d lo hi
instance akA[A:SV K n te fe][L:SO K n tl fl][R:SO K n th fh]:SF K n (CY (oR K) te tl th) (lT fe fl fh):=⟨λ{σ hv H U Z τv τd d Q} I h k=>by
 obtain⟨x,h1,h⟩:=ak.mp h;obtain⟨lo,h2,h⟩:=ak.mp h;obtain⟨hi,h3,h⟩:=ak.mp h;refine A.s I h1 λv H1 s1 w1=>L.s (I.same s1) h2 λH2 s2=>R.s ((I.same s1).same s2) h3 λH3 s3=> ?_;exact Q5 (w1.same (s2.trans s3)) h λv H4 s4 o=>k v H4 (s1.trans (s2.trans (s3.trans s4))) (o.early (s1.trans (s2.trans s3)))⟩
def oU(i d:D)(cs:List D):Option (List D):=match i with
 |.sc (.int j)=>(gC cs.length j).map λp=>cs.set p d
 |_=>none
theorem aa7{i d:D}(h:oU i d cs=some fU):∃j p,i= .sc (.int j)/\gC cs.length j=some p/\fU=cs.set p d:=by
 unfold oU at h
 split at h
 ·next j=>
  obtain⟨p,h1,h2⟩:=aY.mp h;exact⟨j,p,rfl,h1,h2.symm⟩
 ·cases h
def rT(fe:En->Option (D×En))(fp:En->Option Pl)(fi:En->Option D)(Z:En):Option Fl:=(fe Z).bind λa=>(fp a.2).bind λ
 |.rt r p=>(fi a.2).bind λi=>(lO a.2 r p (oU i a.1)).map .nx
 |.ro _=>none
instance akB[A:SM K n te fe][P:SP K n to fp][J:SV K n ti fi]:SS K n (vh te (Oq to ti O5)) (rT fe fp fi):=⟨λ{σ hv H U Z τv τd fl E} I h k=>by
 obtain⟨⟨d,ρ1⟩,h1,h⟩:=ak.mp h;obtain⟨q,h2,h⟩:=ak.mp h;cases q with
 |ro _=>cases h
 |rt r p=>
  obtain⟨i,h3,h⟩:=ak.mp h;obtain⟨ai,h4,h⟩:=aY.mp h;subst h;refine A.s I h1 λx H1 U1 I1 bQ=> ?_;refine P.s I1 h2 λo H2 s2 w2=> ?_;have I2:=I1.same s2;refine J.s I2 h3 λj H3 s3 w3=> ?_;have I3:=I2.same s3;have yg:=w2.same s3;have gw:bH U1 H1 U1 H3:=λb o q nu=>⟨(s2.trans s3) b o q,nu⟩
  obtain⟨⟨d0,kk,cs⟩,g1,g2⟩:=ak.mp h4;obtain⟨hr,hg⟩:=qx g1
  split at g2
  ·next e=>
   have e:kk= .lst:=e;subst e;obtain⟨fU,g3,g4⟩:=aY.mp g2;subst g4;obtain⟨z,pp,ei,g5,g6⟩:=aa7 (show oU i d cs=some fU from g3);subst ei;subst g6
   ·skip
    obtain⟨a,dx,vs,rfl,ha,hf,hl,_,ed⟩:=av.edit (xs:= [x]) (ds:= [d]) I3 rfl yg hr hg rfl;have hi:pp < vs.length:=by rw[hl];exact aan g5
    refine⟨a,vs,z,pp,rfl,w3.bA,ha,by rw[hl];exact g5, ?_⟩;obtain⟨U4,I4,g8⟩:=ed .lst (vs.set pp x) (cs.set pp d) (λj=>if j=pp then vs.length else j) rfl trivial (by rw[bN,bN];exact hl)
     (λx z hx hz=>AR hi x z (by rw[bN]at hx;exact hx) (by rw[bN]at hz;exact hz)) (qy hi) (by rw[hl];exact qy (by lia))
    exact k σ _ U4 I4 (bQ.trans (gw.trans g8))
  ·cases g2⟩
def oV(fp:En->Option Pl)(Z:En):Option (D×En):=(fp Z).bind λ
 |.rt r p=>(eM Z r p).bind λz=>match z.2.1 with
  |.lst=>(z.2.2[z.2.2.length - 1]?).bind λd=>if plain d=true then some (d,fV Z r z.1 p (.nd .lst z.2.2.dropLast)) else none
  |_=>none
 |.ro _=>none
theorem Q6{α:Type}{xs:List α}{i:Nat}{x:α}(h:xs.dropLast[i]?=some x):xs[i]?=some x:=by
 rw[List.getElem?_dropLast]at h
 split at h
 ·exact h
 ·cases h
instance (priority:=600) akC{to:TE}{fp:En->Option Pl}[P:SP K n to fp]:SM K n (GJ K "list" GQ to) (oV fp):=⟨λ{σ hv H U Z ρ' τv τd d Q} I h k=>by
 obtain⟨q,h1,h⟩:=ak.mp h;cases q with
 |ro _=>cases h
 |rt r p=>
  obtain⟨⟨d0,kk,cs⟩,g1,g2⟩:=ak.mp h;obtain⟨hr,hg⟩:=qx g1
  split at g2
  ·next e=>
   have e:kk= .lst:=e;subst e;obtain⟨d1,g3,g4⟩:=ak.mp g2;by_cases c:plain d1=true
   ·rw[if_pos c]at g4;cases g4;refine P.s I h1 λx H1 s1 w1=> ?_;have I1:=I.same s1;have gw:bH U H U H1:=λb o q nu=>⟨s1 b o q,nu⟩
    obtain⟨a,dx,vs,rfl,ha,hf,hl,vl,ed⟩:=av.edit (τv:=τv) (τd:=τd) (xs:= []) (ds:= []) (by rw[eK,eK];exact I1) rfl w1 hr hg rfl;have g3:cs[cs.length - 1]?=some d:=g3;obtain⟨y,hy,wy⟩:=vl.get g3;obtain⟨U3,I3,gZ⟩:=ed .lst vs.dropLast cs.dropLast id rfl trivial (by simp[hl]) (λx z _ _ h=>h) (λj x h=>by rw[eK];exact Q6 h) (λj x h=>by rw[eK];exact Q6 h);have aa8:Vw K (upd H1 a (.lst vs.dropLast)) T1 y d:=((wy.plain c).frame (λ_ _ z=>z.elim) (vP (by rw[ha];trivial))).vw
    ·obtain⟨U4,I4,g8⟩:=I3.push (aJ.refl _) (cA.plain aa8 c);exact⟨DM ha,a,vs,y,rfl,rfl,ha,by rw[hl];exact hy,k _ _ U4 I4 (gw.trans (gZ.trans g8))⟩
   ·rw[if_neg c]at g4;cases g4
  ·cases g2⟩
end
theorem Q7{K:ah}{m:Nat}{G:List D->Option D}{vs:List V}{H:Hp}{Q:VK}{E:XK}(h:ee K m G vs H Q E):vs.length=m:=by
 obtain⟨ds,d,hd,w,_⟩:=h;rw[w.1,hd]
def lU(X:Cx)(scope:Scope):List Str->List (Option Nat)->Prop
 | [], []=>True
 |_::N,none::js=>lU X scope N js
 |x::N,some j::js=>(X.N[j]?=some x/\scope.names.lookup x=some .free/\(X.env.scope.names.lookup x=some .cell\/X.env.scope.names.lookup x=some .free))/\lU X scope N js
 |_,_=>False
noncomputable def mx:List Str->List (Option Nat)->List Str
 |_::N,none::js=>mx N js
 |x::N,some _::js=>x::mx N js
 |_,_=> []
theorem lU.len:∀{N:List Str} {js:List (Option Nat)},lU X scope N js->js.length=N.length
 | [], [],_=>rfl
 |_::N,none::js,h=>congrArg (· + 1) (lU.len h)
 |_::N,some _::js,h=>congrArg (· + 1) (lU.len (N:=N) h.2)
 | [],_::_,h=>h.elim
 |_::_, [],h=>h.elim
theorem lU.at:∀{N:List Str} {js:List (Option Nat)} {i j:Nat} {x:Str},lU X scope N js->js[i]?=some (some j)->N[i]?=some x->X.N[j]?=some x/\scope.names.lookup x=some .free/\(X.env.scope.names.lookup x=some .cell\/X.env.scope.names.lookup x=some .free)
 | [], [],_,_,_,_,h,_=>by simp at h
 |_::N,none::js,0,j,x,_,h,_=>by cases h
 |_::N,none::js,i + 1,j,x,h,h1,h2=>lU.at (js:=js) h (by simpa using h1) (by simpa using h2)
 |_::N,some _::js,0,j,x,h,h1,h2=>by cases h1;cases h2;exact h.1
 |_::N,some _::js,i + 1,j,x,h,h1,h2=>lU.at h.2 (by simpa using h1) (by simpa using h2)
 | [],_::_,_,_,_,h,_,_=>h.elim
 |_::_, [],_,_,_,h,_,_=>h.elim
theorem lU.mem:∀{N:List Str} {js:List (Option Nat)} {x:Str},lU X scope N js->x∈mx N js->X.env.scope.names.lookup x=some .cell\/X.env.scope.names.lookup x=some .free
 | [], [],_,_,h=>by simp[mx]at h
 |_::N,none::js,x,h,hm=>lU.mem (N:=N) (js:=js) h hm
 |y::N,some _::js,x,h,hm=>by
  rw[mx]at hm;cases hm with
  |head=>exact h.1.2.2
  |tail _ hm=>exact lU.mem (N:=N) (js:=js) h.2 hm
 | [],_::_,_,h,_=>h.elim
 |_::_, [],_,h,_=>h.elim
theorem jI(h:lU X scope N js)(Az:∀z∈scope.names,z.2= .free->z.1∈mx N js:=by decide +kernel):Di X N scope js:=
 ⟨h.len,λi j x e1 e2=>h.at e1 e2,λz hz xO=>h.mem (Az z hz xO)⟩
structure OK(P:Program)(w:World)(K:ah)(mg:Str->Option Value)(base:Heap)(C:Addr)(m:Str)(ps:List Str)(k:Nat)(sp:Sp):Prop where
 cl:mN K C
 ex:∃(f:Addr) (fd:kK),bZ P w K mg base cG k f fd ps sp/\Binds K fd ps []/\apx K C m f
structure IA(P:Program)(w:World)(K:ah)(mg:Str->Option Value)(base:Heap)(x:Str)(C:Addr)(ps:List Str)(k:Nat)(sp:Sp):Prop where
 cl:mN K C
 ex:∃(f:Addr) (fd:kK),bZ P w K mg base cG k f fd ps sp/\Binds K fd ps []/\Mk K C f/\mg x=some (.ref C)
section
variable {j k:Nat}{x m:Str}{e o:Expr}{ta:TE}
theorem aoA{pl:Sem Bool}(M:OK X.prog X.w X.K X.mg X.base C m ps k sp)(hr:gf j X.A)(he:PE X o ta)(ha:PA X (e::es) t)(hj:k<=j:=by decide)
  (Ge:dz (e::es) X.env=(false,eval e X.env)::dz es X.env:=by rfl) (dM:(backTo pos (dz es X.env)).any (·.1)=false:=by rfl)
  (ht:eval (.Call (.Attribute o m jM) (e::es) [] pos) X.env=(do
   let ov <- eval o X.env
   FH jM.atName
   let (f,first) <- holding [ov] (getMethod ov m pl)
   callWith pos f first (backTo pos (dz (e::es) X.env)) (B7 pos (B8 [] X.env))):=by rfl):
  PE X (.Call (.Attribute o m jM) (e::es) [] pos) (ahe C m sp [] E0 ta t):=by
 obtain⟨f,fd,F,b,hm⟩:=M.ex;exact atF (pl:=pl) he M.cl hm F (hr.mono hj) b .nil GW ha Ge dM ht
theorem atQ{pl:Sem Bool}(M:OK X.prog X.w X.K X.mg X.base C m ps k sp)(hr:gf j X.A)(he:PE X o ta)(hj:k<=j:=by decide)
  (ht:eval (.Call (.Attribute o m jM) [] [] pos) X.env=(do
   let ov <- eval o X.env
   FH jM.atName
   let (f,first) <- holding [ov] (getMethod ov m pl)
   callWith pos f first (backTo pos (dz [] X.env)) (B7 pos (B8 [] X.env))):=by rfl):
  PE X (.Call (.Attribute o m jM) [] [] pos) (ahe C m sp [] E0 ta fz):=by
 obtain⟨f,fd,F,b,hm⟩:=M.ex;exact atG (pl:=pl) he M.cl hm F (hr.mono hj) b .nil GW ht
theorem atR(M:IA X.prog X.w X.K X.mg X.base x C ps k sp)(hr:gf j X.A)(hg:Gl X x)(ha:PA X (e::es) t)(hj:k + 1<=j:=by decide)(lF:(x == ("__debug__":Str))=false:=by decide)
  (he:dz (e::es) X.env=(false,eval e X.env)::dz es X.env:=by rfl) (dM:(backTo pos (dz es X.env)).any (·.1)=false:=by rfl):
  PE X (.Call (.Name x p) (e::es) [] pos) (GA C sp [] E0 t):=by
 obtain⟨f,fd,F,b,mk,hm⟩:=M.ex;exact atH mk F (hr.mono hj) hg hm b .nil GW ha lF he dM
theorem aba{X:Cx}{K:ah}(hK:X.K=K){e:Expr}{f:Str}{pos:Pos}{ta:TE}(he:PE X e ta)(hb:attributeBase e f X.env (eval e X.env)=eval e X.env):PE X (.Attribute e f pos) (Ag K ta f):=by
 subst hK;exact Xo he hb
theorem IB(hk:PE X kk tk)(hv:PE X vv tv):PE X (.Dict [some kk] [vv] pos) (tJ [(tk,tv)]):=
 Pn (mj hk hv vB) rfl rfl (List.cons_ne_nil _ _) (Nat.le_of_ble_eq_true rfl)
end
section
variable {K:ah}{n:Nat}{H H' H1 H2:Hp}{U U':Addr->Prop}{σ hv:List (Option V)}{Z ρ':En}{τv vs:List V}{τd ds:List D}{v y:V}{d:D}
instance akD:kq K n Dm (λ_=>some true):=⟨λI h k=>by cases h;exact k _ (aJ.refl _)⟩
def qB(fk fv:En->Option D)(Z:En):Option D:=(fk Z).bind λk=>(fv Z).bind λv=>(kJ k).map λkey=> .nd (.aO [key]) [v]
instance akG[A:SV K n tk fk][B':SQ K n tv fv]:SF K n (tJ [(tk,tv)]) (qB fk fv):=⟨λ{σ hv H U Z τv τd d Q} I h k=>by
 obtain⟨a,ha,h⟩:=ak.mp h;obtain⟨b,hb,h⟩:=ak.mp h;obtain⟨key,hk,h⟩:=aY.mp h;subst h;intro p hp;have s0:aJ H (upd H p (.dK [])):=fE hp _;refine A.s (I.same s0) ha λx H1 s1 w1=>B'.o ((I.same s0).same s1) hb λy H2 s2 o=> ?_;have e0:=s2 _ _ (s1 _ _ de);refine⟨e0, [(key,y)],by rw[w1.key hk];rfl,by simp, ?_⟩;have em:pF [] [(key,y)]= [key].zip [y]:=rfl;rw[em];have sA:aJ H (upd H2 p (.dK ([key].zip [y]))):=λc u q=>by
  rw[ba (gM q hp)];exact s2 _ _ (s1 _ _ (s0 _ _ q))
 refine k _ _ sA ?_;obtain⟨G,r,f⟩:=o;have np:¬ G p:=λz=>by have q:=(f p z).1;rw[s1 _ _ de]at q;cases q
 refine⟨λc=>G c\/c=p, .nd (vs:= [y]) (λi c=>i=0/\G c) ⟨.inr rfl,rfl,rfl,0,de⟩ rfl (λi j c hi hj=>by rw[hi.1,hj.1]) (λi c hc=>⟨.inl hc.2,λ_ z=>by rw[z]at hc;exact np hc.2⟩) λi u e hu he=> ?_,λc hc=> ?_⟩
 ·cases i with
  |succ i=>simp at hu
  |zero=>
   cases hu;cases he;refine(r.frame (λc o hc q=> ?_) (vP (by rw[e0];trivial))).mono λc z=>⟨rfl,z⟩
   rw[ba λz=>by rw[z]at hc;exact np hc];exact q
 ·rcases hc with z | z
  ·refine⟨(s0.trans s1).free (f c z).1, ?_⟩;rw[ba λw=>by rw[w]at z;exact np z];exact(f c z).2
  ·rw[z];exact⟨hp,by rw[de];trivial⟩⟩
end
section
theorem abc(hc:X.calm=true):fT X (.builtin "any") (λxs H Q=>∃(a:Addr) (bs:List Bool),xs= [.ref a]/\cI X.K H a (bs.map V.bl)/\Q (.bl (bs.any id)) H):=by
 intro ab s σ H xs us Q I r h;obtain⟨a,bs,rfl,hs,q⟩:=h;obtain⟨u,rfl,ru⟩:=vals1 r;cases ru;obtain⟨its,rv,pl,hz⟩:=I.list hs;have hl:its.length=bs.length:=by rw[<- rv.length,eG]
 refine call_any_walk ?_;refine Vk pl.isList ?_;have lt:a < s.heap.objs.size:=by obtain⟨o,n,e,_⟩:=pl;exact cW e
 have at_:∀(i:Nat) (v:Value),its.toArray[i]?=some v->v=zj _:=λi v hv=>by
  have iV:its[i]?=some v:=by simpa using hv
  have hi:i < bs.length:=by
   have:=(cX.mp iV).1
   lia
  have hx:(bs.map V.bl)[i]?=some (.bl (bs.getD i false)):=by
   rw[bJ,dH hi];simp[Cn,dH hi]
  obtain⟨u,hu,ru⟩:=rv.get hx;rw[iV]at hu;cases hu;exact ru
 refine⟨s.heap.objs.size,_,_,_,_,_,λi=>bs.getD i false,rfl,apD (A:=X.A.in1) (I.ok.hd hc) _ a (dR lt) its.toArray,⟨⟨_,gc _ rfl,rfl,rfl⟩,pl.isList.at λo e=>cB _ e⟩,λi v s' Q' E' hv hQ=> ?_,λh' tk hk=> ?_⟩
 ·rw[at_ i v hv];exact uK hQ
 ·have e:((kf its.toArray.size).any λi=>bs.getD i false)=bs.any id:=by
   rw[fM,hl];rw[VZ,zt,zt]
   constructor
   ·rintro⟨i,hi,e⟩;have vH:=sH.mp hi;rw[Cn,dH vH]at e;exact⟨_,Co vH,e⟩
   ·rintro⟨b,hb,e⟩;obtain⟨i,hi,e2⟩:=ait.mp hb;refine⟨i,sH.mpr hi, ?_⟩;rw[Cn,dH hi,e2];exact e
  rw[e];refine⟨.bl _,H,I.kept (t':=tk) λb o eo=>hk b o ?_ (cB _ eo),rfl,q⟩;intro z;rw[eS.mp z]at eo;exact absurd (cW eo) (mI _)
def ID(K:ah):List V->Hp->VK->Prop:=λxs H Q=>∃(a:Addr) (bs:List Bool),xs= [.ref a]/\cI K H a (bs.map V.bl)/\Q (.bl (bs.any id)) H
theorem abd{X:Cx}(hc:X.calm=true):fT X (.builtin "any") (ID X.K):=abc hc
variable {K:ah}{n:Nat}{H H':Hp}{U U':Addr->Prop}{σ hv:List (Option V)}{Z ρ':En}{τv vs:List V}{τd ds cs:List D}{v:V}{d:D}{E:ke}
def my:List D->Option D
 | [.nd .lst cs]=>(iP cs).map λbs=> .sc (.bl (bs.any id))
 |_=>none
instance akH:k3 K (ID K) my:=⟨λ{H vs ds d Q} w h k=>by
 unfold my at h
 split at h
 ·next cs=>
  obtain⟨bs,h1,h2⟩:=aY.mp h;subst h2;obtain⟨v,rfl,w1⟩:=w.one;obtain⟨a,us,rfl,_,hc,hl,bB⟩:=w1.node;have e:=Iq hl bB h1;exact⟨a,bs,rfl,cI.of (by rw[<- e];exact hc.2),k _ H (aJ.refl H) (.sc _)⟩
 ·cases h⟩
theorem amj{α:Type}{a b c c':List α}(h:i < a.length + b.length):(a++(b++c))[i]?=(a++(b++c'))[i]?:=by
 rw[<- b8, <- b8,aU (l₂:=c) (by simp;exact h),aU (l₂:=c') (by simp;exact h)]
theorem av.amX(I:av K n H U σ hv Z (τv++ [v]) (τd++ [.nd .tup cs])):∃a vs,v= .ref a/\H a=some (.tup vs)/\vs.length=cs.length/\av K n H U σ hv Z (τv++vs) (τd++cs):=by
 have l:=I.len;have tl:=I.tl;simp only[dg,c8,uS]at tl;obtain⟨hl,mu,Fs,dj,sub,sl⟩:=I.ok;have eD:(Z++(τd++ [D.nd .tup cs]).map λd=>some (B.own d))[Z.length + τd.length]?=some (some (.own (.nd .tup cs))):=by
  rw[br (by lia)];simp
 have eV:(σ++hv++(τv++ [v]).map some)[Z.length + τd.length]?=some (some v):=by
  rw[br (by simp;lia)];simp;rw[show Z.length + τd.length - (σ.length + hv.length)=τv.length by lia];simp
 obtain⟨v',ev,sv⟩:=sl _ _ eD;rw[eV]at ev;cases ev;have sv:bg K H (Fs (Z.length + τd.length)) v (.nd .tup cs):=sv;cases sv with
 | @nd F a k vs cs Gs h1 h2 h3 h4 h5=>
  refine⟨a,vs,rfl,h1,h2,⟨?_,I.len,I.nn⟩⟩;refine⟨by simp;lia,mu,λi b=>if i < Z.length + τd.length then Fs i b else Gs (i - (Z.length + τd.length)) b,λi j b hi hj=> ?_,λi b hb=> ?_,λi β aw=> ?_⟩
  ·have hi:if i < Z.length + τd.length then Fs i b else Gs (i - (Z.length + τd.length)) b:=hi;have hj:if j < Z.length + τd.length then Fs j b else Gs (j - (Z.length + τd.length)) b:=hj;by_cases c1:i < Z.length + τd.length
   ·rw[if_pos c1]at hi;by_cases c2:j < Z.length + τd.length
    ·rw[if_pos c2]at hj;exact dj _ _ _ hi hj
    ·rw[if_neg c2]at hj;have:=dj _ _ _ hi (h4 _ _ hj).1
     lia
   ·rw[if_neg c1]at hi;by_cases c2:j < Z.length + τd.length
    ·rw[if_pos c2]at hj;have:=dj _ _ _ hj (h4 _ _ hi).1
     lia
    ·rw[if_neg c2]at hj;have:=h3 _ _ _ hi hj
     lia
  ·have hb:if i < Z.length + τd.length then Fs i b else Gs (i - (Z.length + τd.length)) b:=hb;by_cases c1:i < Z.length + τd.length
   ·rw[if_pos c1]at hb;exact sub _ _ hb
   ·rw[if_neg c1]at hb;exact sub _ _ (h4 _ _ hb).1
  ·by_cases c1:i < Z.length + τd.length
   ·have AK:(Z++(τd++ [D.nd .tup cs]).map λd=>some (B.own d))[i]?=some (some β):=by
     rw[<- aw,cK,cK];exact amj (by simp;lia)
    obtain⟨x,ex,sx⟩:=sl _ _ AK;have aiS:(σ++hv++(τv++vs).map some)[i]?=some (some x):=by
     rw[<- ex,cK,cK];exact amj (by simp;lia)
    refine⟨x,aiS, ?_⟩;simp only[if_pos c1];cases β with
    |own d=>exact sx
    |ro d=>exact sx
    |aB r p=>
     obtain⟨a1,vr,a2,a3⟩:=sx;refine⟨a1,vr, ?_,a3⟩;rw[<- a2,cK,cK];exact amj (by simp;lia)
   ·rw[cK, <- b8,br (by simp;lia)]at aw;rw[dg,eG,bJ]at aw;obtain⟨d,hd,e⟩:=aY.mp aw;cases e;have lt:=(cX.mp hd).1;refine⟨vs[i - (Z.length + τd.length)]'(by lia), ?_, ?_⟩
    ·rw[cK, <- b8,br (by simp;lia)];simp only[dg,eG,bJ];rw[show σ.length + hv.length + τv.length=Z.length + τd.length by lia,dH (by lia)];rfl
    ·simp only[if_neg c1];exact h5 _ _ _ (dH (by lia)) hd
def binds:List Nat->List D->En->En
 |i::is,d::ds,Z=>binds is ds (bq i (.own d) Z)
 |_,_,Z=>Z
class GN(K:ah)(n:Nat)(g:u4)(is:outParam (List Nat)):Prop where
 s:∀{σ hv:List (Option V)} {H:Hp} {U:Addr->Prop} {Z:En} {τv:List V} {τd:List D} {xs:List V} {ds:List D} {Q:L2.St->Hp->Prop},av K n H U σ hv Z (τv++xs) (τd++ds)->xs.length=ds.length->ds.length=is.length->(∀aF,av K n H U aF hv (binds is ds Z) τv τd->Q aF H)->g xs σ H Q
instance akI:GN K n arG []:=⟨λ{σ hv H U Z τv τd xs ds Q} I hl hd k=>by
 cases ds with
 |cons _ _=>cases hd
 |nil=>
  cases xs with
  |cons _ _=>cases hl
  |nil=>rw[eK,eK]at I;exact⟨rfl,k _ I⟩⟩
instance akJ[L:jC i n][A:GN K n t is]:GN K n (vg (lB i) t) (i::is):=⟨λ{σ hv H U Z τv τd xs ds Q} I hl hd k=>by
 cases ds with
 |nil=>cases hd
 |cons d ds=>
  cases xs with
  |nil=>cases hl
  |cons x xs=>exact⟨x,xs,rfl,A.s ((I.QD (eF hl)).bound L.h (.inr trivial)) (eF hl) (eF hd) k⟩⟩
def arQ(is:List Nat):D->En->Option Fl
 |.nd .tup cs,Z=>if cs.length=is.length then some (.nx (binds is cs Z)) else none
 |_,_=>none
def alT(is:List Nat)(f:En->Option (D×En))(Z:En):Option Fl:=(f Z).bind λr=>arQ is r.1 r.2
instance anQ[Lm:vW is m][G:GN K n t is][A:SM K n te fe]:SS K n (vh te (apF K m t)) (alT is fe):=⟨λ{σ hv H U Z τv τd fl E} I h k=>by
 obtain⟨⟨d,ρ1⟩,h1,h2⟩:=ak.mp h;have h2:arQ is d ρ1=some fl:=h2;clear h;cases d with
 |sc x=>cases h2
 |hl x=>cases h2
 |nd kd cs=>
 cases kd with
 |tup=>
  have h2:(if cs.length=is.length then some (Fl.nx (binds is cs ρ1)) else none)=some fl:=h2;by_cases c:cs.length=is.length
  ·rw[if_pos c]at h2;cases h2;refine A.s I h1 λv H1 U1 I1 bQ=> ?_;obtain⟨a,vs,rfl,ha,hl,I2⟩:=I1.amX;exact⟨a,vs,rfl,cE.of ha,by rw[hl,c];exact Lm.h,G.s I2 hl c λaF I3=>k _ H1 U1 I3 bQ⟩
  ·rw[if_neg c]at h2;cases h2
 |_=>cases h2⟩
end
open PySem.W
noncomputable def IE (v d:Addr):HO:= .ext λh=>h.IsValuesView v d
def Q9(to:TE):TE:=λσ H Q=>to σ H λx H1=>∃d aa,x= .ref d/\Rd H1 d (.dK aa)/\∀v,H1 v=none->Q (.ref v) (upd H1 v (IE v d))
def apI:List V->Hp->VK->Prop:=λxs H Q=>∃v d aa,xs= [.ref v]/\H v=some (IE v d)/\Rd H d (.dK aa)/\∀l,H l=none->Q (.ref l) (upd H l (.lst (aa.map (·.2))))
section
theorem Ra(ho:PE X o to)(rq:attributeBase o "values" X.env (eval o X.env)=eval o X.env:=by rfl)(rA:(jM.endLine == gE.line)=true:=by rfl):PE X (.Call (.Attribute o "values" jM) [] [] gE) (Q9 to):=by
 intro ab s σ H Q I h;refine Vi rq rA (bh (ho ab s σ H _ I h) λv s1 ⟨x,H1,I1,r1,q1⟩=> ?_);obtain⟨d,aa,rfl,e,q⟩:=q1;cases r1;obtain⟨z,hd,ws,bG,dd⟩:=kn I1.aQ e;have h1:=dd.typeIs;have h2:∀a,c7 d= .ref a->∃ob,s1.heap.get? a=some ob/\ob.dict=none:=λa e2=>by
  cases e2;obtain⟨ob,_,_,e3,ex,_⟩:=dd;exact⟨ob,e3,ex.2.1⟩
 refine⟨"dict","dict.values",NL,aiG,PySem.F.type_dict_values,h1,h2,Ci rfl (VO ?_)⟩;refine FL aiG dd.typeIs PySem.F.entry_dict_values (PySem.F.args_dict_values_1 _) (meets_dict_values _ d hd) ⟨⟨ws,dd⟩, ?_⟩;have ahg:(s1.heap.push { cls:= .type "dict_values",data:= .fields #[.ref d] }).get? s1.heap.objs.size=some { cls:= .type "dict_values",data:= .fields #[.ref d] }:=gc _ rfl;refine⟨.ref s1.heap.objs.size,_,I1.laid (o:=IE s1.heap.objs.size d) (λ_ _ q=>cB _ q) (bO _) ⟨⟨_,ahg,rfl,rfl⟩,⟨_,ahg⟩,λh1 h2 f k=> ?_⟩,rfl,q _ I1.fresh⟩;obtain⟨o,ho,r⟩:=f;exact⟨o,k o ho,r⟩
theorem atU{aa:List (bc×V)}{vs:List (bc×Value)}{us:List Value}(bG:KV aa vs)(hl:us.length=vs.length)(h:∀(j:Nat) (v:Value),us[j]?=some v->∃k,vs[j]?=some (k,v)):bj (aa.map (·.2)) us:=by
 refine Du (by rw[eG,hl, <- bG.length]) λj x u e1 e2=> ?_;obtain⟨k,e3⟩:=h j u e2;rw[bJ]at e1;cases q:aa[j]? with
 |none=>rw[q]at e1;cases e1
 |some p=>
  rw[q]at e1;cases e1;exact(xM bG q e3).2
theorem atV(hc:X.calm=true):fT X (.type "list") apI:=by
 intro ab s σ H xs us Q I r h;obtain⟨v,d,aa,rfl,ev,e,q⟩:=h;obtain⟨u,rfl,rx⟩:=vals1 r;cases rx;obtain⟨z,hd,vs,bG,dd⟩:=kn I.aQ e;obtain⟨ep,da⟩:=dd.dictAt;have hz:vs.length<=aM:=by rw[<- bG.length];exact z
 have mC:s.heap.IsValuesView v d:=(I.aQ v _ ev).1;refine kdl_call (kdl_values (knd:=gL X.prog X.w)) (I.ok.hd hc) ⟨mC,da⟩ hz λh' tk aS c kp hg iY=> ?_;have hv:bj (aa.map (·.2)) aS.toList:=atU bG (by rw[xc];exact iY.1) λj v e=>iY.2 j v (by rw[<- VR];exact e);refine⟨.ref s.heap.objs.size,_,I.laid (t':=tk) kp (bO _) (show gr X.prog X.w _ h' _ (.lst (aa.map (·.2))) from⟨by rw[eG];exact z,aS.toList,c,hv, ?_⟩),rfl,q _ I.fresh⟩;rw[Array.toArray_toList];exact hg
variable {K:ah}{n:Nat}{H H':Hp}
def aoB:D->Option D
 |.nd (.aO _) cs=>if bI cs=true then some (.nd .lst cs) else none
 |_=>none
instance (priority:=2000) axb{t:TE}{f:En->Option D}[A:SV K n t f]:SF K n (jU apI (di (Q9 t) fz)) (λZ=>(f Z).bind aoB):=⟨λ{σ hv H U Z τv τd d Q} I h k=>by
 obtain⟨x,h1,h2⟩:=ak.mp h;refine A.s I h1 λv H1 s1 w=> ?_;unfold aoB at h2
 split at h2
 ·next ks cs=>
  by_cases c:bI cs=true
  ·rw[if_pos c]at h2;cases h2;obtain⟨a,us,rfl,hc,vl⟩:=w.ip;have hl:ks.length=us.length:=hc.1;have rd:Rd H1 a (.dK (ks.zip us)):=hc.2;refine⟨a,ks.zip us,rfl,rd,λvw mC=>⟨vw,a,ks.zip us,rfl,de, ?_,λl oz=> ?_⟩⟩
   ·rcases rd with q | ⟨o,q⟩
    ·exact .inl (fE mC _ _ _ q)
    ·exact .inr ⟨o,fE mC _ _ _ q⟩
   ·have s2:=fE mC (IE vw a);have ab5:dm K (upd H1 vw (IE vw a)) T1 us cs:=⟨vl.1,λi v d a b=>(vl.2 i v d a b).same s2⟩
    rw[show(ks.zip us).map (·.2)=us from DG hl];exact k _ _ (s1.trans (s2.trans (fE oz _))) ((ab5.own (k:= .lst) c oz (.inr ⟨rfl,trivial,0,rfl⟩)).early (s1.trans s2))
  ·rw[if_neg c]at h2;cases h2
 ·cases h2⟩
end
theorem arR{prog:Program}{w:World}{A:Around}{E:Value->Shared->Prop}{s:Shared}{id:String}{b:Builtin}{args:List Value}{kw:List (Str×Value)}{Q:Value->Shared->Prop}(hk:builtinKind id=none)(hp:plainId id=true)
  (hb:entryFor table id=some b) (ha:argsOk id ⟨args,kw⟩)
  (hc:wpAny (model prog w) A.in1 (b ⟨args,kw⟩) (λc5 s'=>match c5 with
   |.done f=>(match (Except.ok f:Result) with | .ok (.ret v)=>Q v s' | .ok _=>False | .error e=>E e s')
   |.again c'=>c'.quiet=true/\qQ (model prog w) A c' (λr s'=>match r with | .ok (.ret v)=>Q v s' | .ok _=>False | .error e=>E e s') s') E s):
  wpAny (model prog w) A (call (.builtin id) args kw) Q E s:=by
 refine apz (codeAny_call_builtin hp hb ?_);simp only[checkBuiltinCall,hk];cases atW:Manifest.signature? id with
 |none=>exact bF hc
 |some sig=>
  have Jf:Bind.checkArgs id sig ⟨args,kw⟩=pure ():=by simpa only [argsOk,atW]using ha
  simp only[Jf];exact bF hc
theorem arS(a k:Value):argsOk "max" ⟨[a], [("key",k)]⟩:=by unfold argsOk;kernel_rfl
section
variable {k:Nat}{f:Addr}
end
section
variable {K:ah}{n:Nat}{H H':Hp}
end
section
open MeetsSeq MeetsSeq2 MeetsSeq3 SeqRoads2
theorem arT(h:Q (.bool (decide (b < a))) s):wpAny (model prog w) A (arv .Gt (.int a t) (.int b u)) Q E s:=SiftDown.gt_int h
theorem eqT(e:a=b)(h:Q true s):wpAny (model prog w) A (eqBool (.int a t) (.int b u)) Q E s:=atr (by rw[show(a == b)=true by simp[e]];exact h)
theorem tR(e:a≠b)(h:Q false s):wpAny (model prog w) A (eqBool (.int a t) (.int b u)) Q E s:=atr (by rw[show(a == b)=false by simp[e]];exact h)
noncomputable def alI (i j i' j':Int):Bool:=if i=i' then decide (j' < j) else decide (i' < i)
set_option maxHeartbeats 4000000 in
theorem atX(l b:Addr)(i j i' j':Int)(t u t' u':Tok)(n n2:Nat)(dd CU:Option Addr)(sl CV:Array (Option Value)):
  Meets (Builtin.«tuple.__gt__» ⟨[.ref l, .ref b], []⟩)
   (λA R s=>s.heap.get? l=some { cls:= .type "tuple",dict:=dd,data:= .seq #[.int i t, .int j u] n,slots:=sl }/\s.heap.get? b=some { cls:= .type "tuple",dict:=CU,data:= .seq #[.int i' t', .int j' u'] n2,slots:=CV }/\
    R (.ok (.ret (.bool (alI i j i' j')))) s):=
 .of_wp λprog w A R s h=>by
  obtain⟨hp,g,d,tk,os⟩:=s;obtain⟨hl,hb,h⟩:=h;have f2:=AutoSeq1.sub_tuple_tuple;unfold alI at h;by_cases e:i=i'
  ·rw[if_pos e]at h;by_cases e2:j=j'
   ·have c3:decide (j' < j)=false:=by simp[e2]
    rw[c3]at h
    wp_walk using abz hl,abz hb,eqT e,eqT e2
    exact⟨_,rfl,h⟩
   ·wp_walk using abz hl,abz hb,eqT e,tR e2,arT
    exact⟨_,rfl,h⟩
  ·rw[if_neg e]at h
   wp_walk using abz hl,abz hb,tR e,arT
   exact⟨_,rfl,h⟩
theorem arU{prog:Program}{w:World}{E:Value->Shared->Prop}{Q:Value->Shared->Prop}(hl:s.heap.IsTuple l #[.int i t, .int j u])(hb:s.heap.IsTuple b #[.int i' t', .int j' u'])(hu:A.units < cLine)
  (h:Q (.bool (alI i j i' j')) s):wpAny (model prog w) A (arv .Gt (.ref l) (.ref b)) Q E s:=by
 obtain⟨⟨cls,dd,data,sl⟩,ho,hc,n,hd⟩:=id hl;obtain⟨⟨XE,CU,data2,CV⟩,rl,jV,n2,hd2⟩:=id hb;simp only at hc hd jV hd2;subst hc hd jV hd2;exact richCompare_meets_room (op:= .Gt) ⟨_,ho,rfl⟩ ⟨_,rl,rfl⟩ F.slot_tuple_gt F.entry_tuple_gt (F.args_tuple_gt_2 _ _) (atX l b i j i' j' t u t' u' n n2 dd CU sl CV)
  ⟨ho,rl,show zj (alI i j i' j')≠Value.notImplemented/\Q (.bool (alI i j i' j')) s from⟨(λx=>nomatch x),h⟩⟩ hu
variable {k:Nat}{f:Addr}
def arV(K:ah)(H:Hp)(x y:V)(g:Bool):Prop:=∃(p q:Addr) (i j i' j':Int),x= .ref p/\y= .ref q/\cE K H p [.int i, .int j]/\cE K H q [.int i', .int j']/\g=alI i j i' j'
def Rj(K:ah)(sp:Sp)(a:Addr)(xs:List V)(Q:VK):List V->Option (V×V)->Hp->Prop
 | [],some (b,_),H=>Q b H
 | [],none,_=>False
 |x::r,nE,H=>sp [x] H (λkv H2=>H2 a=some (.lst xs)/\match nE with
  |none=>Rj K sp a xs Q r (some (x,kv)) H2
  |some (b,bk)=>∃g,arV K H2 kv bk g/\Rj K sp a xs Q r (if g=true then some (x,kv) else some (b,bk)) H2) E0
def arW:Option (V×V)->List Value->Prop
 |none,us=>us= []
 |some (b,bk),us=>bj [b,bk] us
theorem aoC{ab:List (Addr×Obj)}{σ:L2.St}{Q:VK}{xs:List V}(F:bZ X.prog X.w X.K X.mg X.base cG k f fd ps sp)(hb:Binds X.K fd ps [])(hr:gf (k + 1) X.A)(hc:X.calm=true)(qp:it≠S)(ahh:a≠it):
  ∀(rest:List V) (i:Nat) (nE:Option (V×V)) (us:List Value) (n:Nat) (H:Hp) (s:Shared),xs.drop i=rest->Inv X ab σ H s->H a=some (.lst xs)->s.heap.IsListIter it a i->s.heap.get? S=some { cls:= .type "list",data:= .seq us.toArray n }->arW nE us->jT X ab H it->jT X ab H S->
   Rj X.K sp a xs Q rest nE H->qQ (model X.prog X.w) X.A (.builtin "max.loop" ⟨[.ref it, .ref f, .ref S], []⟩) (λr s'=>match r with | .ok (.ret v)=>EP X ab σ Q v s' | .ok _=>False | .error e=>X.xe e s') s
 | [],i,none,us,n,H,s,hd,I,ha,hit,hS,hB,fI,fS,h=>h.elim
 | [],i,some (b,bk),us,n,H,s,hd,I,ha,hit,hS,hB,fI,fS,h=>by
  obtain⟨its,rv,pl,hz⟩:=I.list (cI.of ha);have W:=apD (prog:=X.prog) (w:=X.w) (A:=X.A.in1) (show X.A.in1.handled=none from I.ok.hd hc) it a ahh;have hi:xs.length<=i:=by
   rcases NV i xs.length with h | h
   ·rw[Cr h]at hd;cases hd
   ·exact h
  have hsz:its.toArray.size=xs.length:=by rw[fM];exact rv.length.symm
  obtain⟨ub,uk,rfl,rb,rk⟩:=L2.vals2 hB;refine Ca arA ?_;rw[Cp se _];show wpAny _ X.A.in1 (arw (.ref S) >>= _) _ _ _;refine az (wZ hS rfl ?_);show wpAny _ X.A.in1 (tryCatch (pyNext (.ref it)) _ >>= _) _ _ _;refine az (L3 (awD (show X.A.in1.handled=none from I.ok.hd hc) hit pl.isList (awN (by rw[hsz];exact hi)) λh7 apJ=> ?_));have ahi:∀b o,b≠it->s.heap.get? b=some o->h7.get? b=some o:=λb o amR e=>apJ b o amR e;have apK:=ahi S _ (λz=>qp z.symm) hS;have I7:L2.Inv X ab σ H { s with heap:=h7 }:=I.turned (t':=s.toks) (it:=it) ahi fI.1 fI.2.1 fI.2.2.2.1 fI.2.2.2.2.1 fI.2.2.2.2.2;show wpAny _ X.A.in1 (aou S (λ_=>#[]) >>= _) _ _ _;refine az ?_;refine aov apK rfl (az (Vs (bF ?_)));exact⟨b,H,L2.Inv.turned (s:= { s with heap:=h7 }) I7 (t':=s.toks) (it:=S) (λb o n e=>(VN _ _ (fw n)).trans e) fS.1 fS.2.1 fS.2.2.2.1 fS.2.2.2.2.1 fS.2.2.2.2.2,rb,h⟩
 |x::r,i,nE,us,n,H,s,hd,I,ha,hit,hS,hB,fI,fS,h=>by
  have o3:(toString "max"++toString ".loop":String)="max.loop":=by decide
  obtain⟨its,rv,pl,hz⟩:=I.list (cI.of ha);have W:=apD (prog:=X.prog) (w:=X.w) (A:=X.A.in1) (show X.A.in1.handled=none from I.ok.hd hc) it a ahh;have hi:i < xs.length:=by
   rcases NV i xs.length with h | h
   ·exact h
   ·rw[atx h]at hd;cases hd
  have hx:xs[i]?=some x:=by rw[Cr hi]at hd;injection hd with e1 e2;rw[dH hi,e1]
  have tT:xs.drop (i + 1)=r:=by rw[Cr hi]at hd;injection hd
  have hsz:its.toArray.size=xs.length:=by rw[fM];exact rv.length.symm
  refine Ca arA ?_;rw[Cp se _];show wpAny _ X.A.in1 (arw (.ref S) >>= _) _ _ _;refine az (wZ hS rfl ?_);show wpAny _ X.A.in1 (tryCatch (pyNext (.ref it)) _ >>= _) _ _ _;refine az (L3 ((W its.toArray).item i _ _ _ (by rw[hsz];exact hi) ⟨hit,pl.isList⟩ λv' h4 tk hP bQ ahj=> ?_));obtain⟨u',atY,vj⟩:=rv.get hx;have e4:v'=u':=by
   have:its[i]?=some v':=by simpa using hP
   rw[atY]at this;injection this with this;exact this.symm
  subst e4;have I4:L2.Inv X ab σ H { s with heap:=h4,toks:=tk }:=I.turned (t':=tk) (it:=it) (λb o n e=>ahj b o (λz=>n (eS.mp z)) e) fI.1 fI.2.1 fI.2.2.2.1 fI.2.2.2.2.1 fI.2.2.2.2.2;have aiZ:h4.get? S=_:=ahj S _ (λz=>qp (eS.mp z).symm) hS;obtain⟨oi,akr,akK,xD⟩:=id bQ.1;have apL:L2.Inv X (ab++Ad [it,S] h4) σ H { s with heap:=h4,toks:=tk }:=I4.pinned (fp:= [it,S]) (λb amR=>by
    rcases bL.mp amR with rfl | amR
    ·exact fI
    ·rw[eS.mp amR];exact fS) (λb amR=>by
    rcases bL.mp amR with rfl | amR
    ·exact⟨oi,akr,λv z=>by rw[xD]at z;cases z⟩
    ·rw[eS.mp amR];exact⟨_,aiZ,λv z=>by cases z⟩)
  show wpAny _ X.A.in1 (tryCatch (holding [v'] (call (.ref f) [v'])) _ >>= _) _ _ _;refine az (L3 (uL ?_));have hl:([v']++ []).length=ps.length:=(F.len _ _ _ _ h)
  have Hu:bj [x] [v']:= .cons vj .nil;refine apz (B5 (F.run X.A.in1 X.stack _ H ⟨[v'], []⟩ ([v']++ []) [x] _ E0 hr.in1 I4.ON.in1 (hb _ [v'] I4.fN hl) Hu h) λr s5 hq=> ?_);cases r with
  |error e=>exact hq.elim
  |ok fl=>
   cases fl with
   |next=>exact pj hq
   |brk=>exact pj hq
   |cont=>exact pj hq
   |ret uk=>
    obtain⟨kv,H5,I5,rk,xP,q5⟩:=apL.after hq;have pS:(S,_)∈Ad [it,S] h4:=CM (nQ _ (eS.mpr rfl)) aiZ;have pI:(it,oi)∈Ad [it,S] h4:=CM (xb) akr;have mm:=(I5.pin _ (kg _ (kg _ pS)))
    have yd:=(I5.pin _ (kg _ (kg _ pI)))
    have t5:L2.Inv X ab σ H5 s5:=I5.CN;have gI:jT X ab H5 it:=⟨yd.2.1,fI.2⟩
    have gS:jT X ab H5 S:=⟨mm.2.1,fS.2⟩
    have up:∀(g:Array Value->Array Value),L2.Inv X ab σ H5 { s5 with heap:=s5.heap.update S (zo g) }:=λg=>t5.turned (t':=s5.toks) (it:=S) (λb o n e=>(VN _ _ (fw n)).trans e) gS.1 gS.2.1 gS.2.2.2.1 gS.2.2.2.2.1 gS.2.2.2.2.2;have akV:∀(g:Array Value->Array Value),(s5.heap.update S (zo g)).IsListIter it a (i + 1):=λg=>⟨oi,(VN _ _ (fw qp)).trans yd.1,akK,xD⟩
    cases nE with
    |none=>
     have alK:us= []:=hB;subst alK;show wpAny _ X.A.in1 (aou S (λ_=>#[v',uk]) >>= _) _ _ _;refine az ?_;refine aov mm.1 rfl ?_;rw[o3];refine bF ⟨Vo se _, ?_⟩;exact aoC F hb hr hc qp ahh _ (i + 1) (some (x,kv)) [v',uk] _ H5 _ tT (up _) xP (akV _) (aim (zo λ_=>#[v',uk]) mm.1 rfl) (.cons vj (.cons rk .nil)) gI gS q5
    |some bb=>
     obtain⟨b,bk⟩:=bb;obtain⟨ub,atZ,rfl,rb,apM⟩:=L2.vals2 hB;obtain⟨g,⟨pp,qq,i1,j1,i2,j2,rfl,rfl,h1,h2,hg⟩,q6⟩:=q5;cases rk;cases apM;obtain⟨DB,Hu,apN,_⟩:=t5.tuple h1;obtain⟨mh,Hv,apO,_⟩:=t5.tuple h2;obtain⟨w1,w2,rfl,c1,c2⟩:=L2.vals2 Hu;obtain⟨w3,w4,rfl,c3,c4⟩:=L2.vals2 Hv;obtain⟨t1,rfl⟩:=c1;obtain⟨t2,rfl⟩:=c2;obtain⟨t3,rfl⟩:=c3;obtain⟨t4,rfl⟩:=c4;show wpAny _ X.A.in1 (tryCatch (holding [v',c7 pp] (arv .Gt (.ref pp) (.ref qq) >>= _)) _ >>= _) _ _ _;refine az (L3 (uL (az (arU apN apO (zp (sJ _ 1) (cR hr.in1)) ?_))));refine az (uL (uK ?_));refine az (Vs (bF ?_));rw[<- hg];cases g with
     |true=>
      show wpAny _ X.A.in1 (aou S (λ_=>#[v', .ref pp]) >>= _) _ _ _;refine az ?_;refine aov mm.1 rfl ?_;refine az (Vs ?_);rw[o3];refine bF ⟨Vo se _, ?_⟩;exact aoC F hb hr hc qp ahh _ (i + 1) (some (x, .ref pp)) [v', .ref pp] _ H5 _ tT (up _) xP (akV _) (aim (zo λ_=>#[v', .ref pp]) mm.1 rfl) (.cons vj (.cons rfl .nil)) gI gS q6
     |false=>
      show wpAny _ X.A.in1 (letGo _ >>= _) _ _ _;refine az (Vs ?_);rw[o3];refine bF ⟨Vo se _, ?_⟩;exact aoC F hb hr hc qp ahh _ (i + 1) (some (b, .ref qq)) [ub, .ref qq] _ H5 _ tT t5 xP ⟨oi,yd.1,akK,xD⟩ mm.1 (.cons rb (.cons rfl .nil)) gI gS q6
theorem at0{ab:List (Addr×Obj)}{σ:L2.St}{H:Hp}{s:Shared}{Q:VK}{a:Addr}{xs:List V}(F:bZ X.prog X.w X.K X.mg X.base cG k f fd ps sp)(hb:Binds X.K fd ps [])(hr:gf (k + 1) X.A)(hc:X.calm=true)
  (I:Inv X ab σ H s) (ha:H a=some (.lst xs)) (h:Rj X.K sp a xs Q xs none H):
  wpAny (model X.prog X.w) X.A (call (.builtin "max") [.ref a] [("key", .ref f)]) (EP X ab σ Q) X.xe s:=by
 have o3:(toString "max"++toString ".loop":String)="max.loop":=by decide
 obtain⟨its,rv,pl,hz⟩:=I.list (cI.of ha);have lt:a < s.heap.objs.size:=by obtain⟨o,n,e,_⟩:=pl;exact cW e
 refine arR awO awP awQ (arS _ _) ?_;show wpAny _ X.A.in1 (arB "max" ["key","default"] 0 ⟨[], [("key", .ref f)]⟩ >>= _) _ _ s;refine az (wpAny_of_eq (show arB "max" ["key","default"] 0 ⟨[], [("key", .ref f)]⟩=pure [some (.ref f),none] from rfl) ?_);refine az (bF ?_);refine az (Vk pl.isList ?_);refine az (qP ?_);rw[o3];refine bF ⟨Vo se _, ?_⟩;have yy:=gc (s.heap.push { cls:= .type "list_iterator",data:= .fields #[.ref a, .int 0 0] }) (o:= { cls:= .type "list",data:= .seq #[] }) rfl;have alL:((s.heap.push { cls:= .type "list_iterator",data:= .fields #[.ref a, .int 0 0] }).push { cls:= .type "list",data:= .seq #[] }).get? s.heap.objs.size=some { cls:= .type "list_iterator",data:= .fields #[.ref a, .int 0 0] }:=
  cB _ (gc _ rfl)
 have alM:∀b o,s.heap.get? b=some o->((s.heap.push { cls:= .type "list_iterator",data:= .fields #[.ref a, .int 0 0] }).push { cls:= .type "list",data:= .seq #[] }).get? b=some o:=
  λb o e=>cB _ (cB _ e)
 have apP:(s.heap.push { cls:= .type "list_iterator",data:= .fields #[.ref a, .int 0 0] }).objs.size=s.heap.objs.size + 1:=p9 _ _;show qQ (model X.prog X.w) X.A (.builtin "max.loop" ⟨[.ref s.heap.objs.size, .ref f, .ref (s.heap.push { cls:= .type "list_iterator",data:= .fields #[.ref a, .int 0 0] }).objs.size], []⟩) _ { s with heap:=(s.heap.push { cls:= .type "list_iterator",data:= .fields #[.ref a, .int 0 0] }).push { cls:= .type "list",data:= .seq #[] } };generalize ((s.heap.push { cls:= .type "list_iterator",data:= .fields #[.ref a, .int 0 0] }).push { cls:= .type "list",data:= .seq #[] })=h3 at yy alL alM |-;generalize hS:(s.heap.push { cls:= .type "list_iterator",data:= .fields #[.ref a, .int 0 0] }).objs.size=S at yy apP |-;have fI:jT X ab H s.heap.objs.size:=I.Aa (bO _) (I.aQ.fresh (bO _));have fS:jT X ab H S:=I.Aa (by lia) (I.aQ.fresh (by lia));have I3:L2.Inv X ab σ H { s with heap:=h3 }:=I.kept (t':=s.toks) alM;have Rf:s.heap.objs.size≠S:=by lia
 exact aoC F hb hr hc Rf (dR lt) xs 0 none [] _ H _ rfl I3 ha ⟨_,alL,rfl,rfl⟩ yy rfl fI fS h
def arX(K:ah)(sp:Sp)(t:TA):TE:=λσ H Q=>t σ H λvs H1=>∃a xs,vs= [.ref a]/\H1 a=some (.lst xs)/\Rj K sp a xs Q xs none H1
theorem at1{K:ah}{j:Nat}{x:Str}{e:Expr}{t:TA}{p p2 kp pos:Pos}(C:dt X.prog X.w X.K X.mg X.base x ps k sp)(hr:gf j X.A)(hc:X.calm=true)(hg:Gl X "max")(hm:X.mg "max"=none)(at3:Gl X x)(ha:PA X [e] t)(hK:X.K=K:=by rfl)
  (hj:k + 1<=j:=by decide) (lF:(x == ("__debug__":Str))=false:=by decide) (hs:dz [e] X.env=(false,eval e X.env)::dz [] X.env:=by rfl):
  PE X (.Call (.Name "max" p) [e] [⟨some "key", .Name x p2,kp⟩] pos) (arX K sp t):=by
 subst hK;intro ab s σ H Q I h;obtain⟨f,fd,o,b,axc,m⟩:=C.ex;refine FJ (xq I hg hm Nx ?_);refine callWith_kw (bh (ha pos ab s σ H _ I h) λus s1 ⟨vs,H1,I1,r1,a,v,ev,at4,q1⟩=> ?_) (by rw[hs];rfl) (by rw[hs];rfl) rfl rfl
 ·subst ev;obtain⟨u,rfl,ru⟩:=L2.vals1 r1;cases ru;refine kws_cons (CD I1 at3 m ?_ lF);refine kws_nil ?_;exact at0 o b (hr.mono hj) hc I1 at4 q1
end
section
variable {K:ah}{n:Nat}{H H':Hp}
noncomputable def Sh:D->Option (Int×Int)
 |.nd .tup [.sc (.int i), .sc (.int j)]=>some (i,j)
 |_=>none
def mH(G:List D->Option D):List D->D->Int×Int->Option D
 | [],b,_=>some b
 |d::ds,b,q=>(G [d]).bind λe=>(Sh e).bind λk=>if alI k.1 k.2 q.1 q.2=true then mH G ds d k else mH G ds b q
def aoD(G:List D->Option D):List D->Option D
 | [.nd .lst (d::ds)]=>if bI (d::ds)=true then(G [d]).bind λe=>(Sh e).bind λk=>mH G ds d k else none
 |_=>none
theorem aoE{k:Int×Int}(w:Vw K H T1 v e)(h:Sh e=some k):∃p,v= .ref p/\cE K H p [.int k.1, .int k.2]:=by
 unfold Sh at h
 split at h
 ·next i j=>
  cases h;obtain⟨p,us,rfl,hc,vl⟩:=w.ip;obtain⟨x,y,rfl,wx,wy⟩:=vl.two;have jV:H p=some (.tup [x,y]):=hc.2;have ex:x= .int i:=wx.bA;have ey:y= .int j:=wy.bA;subst ex ey;exact⟨p,rfl, .inl (.inl jV)⟩
 ·cases h
theorem apQ{G:List D->Option D}(k:∀v H',aJ H0 H'->cA K H0 H' v d->Q v H'):∀(ds:List D) (vs:List V) (b:V) (bd:D) (p:Addr) (q:Int×Int) (H1:Hp),aJ H0 H1->H1 a=some (.lst xs)->dm K H1 T1 vs ds->bI ds=true->
  Vw K H1 T1 b bd->plain bd=true->cE K H1 p [.int q.1, .int q.2]->mH G ds bd q=some d->Rj K (ee K 1 G) a xs Q vs (some (b, .ref p)) H1
 | [],vs,b,bd,p,q,H1,s1,ha,w,pl,wb,pb,hp,h=>by
  cases vs with
  |cons _ _=>cases w.1
  |nil=>cases h;exact k _ _ s1 (cA.plain wb pb)
 |d'::ds,vs,b,bd,p,q,H1,s1,ha,w,pl,wb,pb,hp,h=>by
  cases vs with
  |nil=>cases w.1
  |cons v vs=>
   rw[bI,kM]at pl;rw[mH]at h;obtain⟨e,h1,h⟩:=ak.mp h;obtain⟨kk,h2,h⟩:=ak.mp h;have wv:Vw K H1 T1 v d':=w.2 0 v d' rfl rfl;have wr:dm K H1 T1 vs ds:=⟨by have:=w.1;simpa using this,λi x y hx hy=>w.2 (i + 1) x y (by simpa using hx) (by simpa using hy)⟩
   refine⟨[d'],e,rfl,⟨rfl,λi x y hx hy=> ?_⟩,h1,λkv H2 s2 o=>⟨s2 _ _ ha, ?_⟩⟩
   ·cases i with
    |zero=>cases hx;cases hy;exact wv
    |succ i=>simp at hx
   ·obtain⟨p2,rfl,G0⟩:=aoE o.vw h2;have amg:=s1.trans s2;have iK:=s2 _ _ ha;have anD:dm K H2 T1 vs ds:=⟨wr.1,λi x y hx hy=>(wr.2 i x y hx hy).same s2⟩
    have hq:=(gu.of s2).arM hp;refine⟨_,⟨p2,p,_,_,_,_,rfl,rfl,G0,hq,rfl⟩, ?_⟩;cases c:alI kk.1 kk.2 q.1 q.2 with
    |true=>
     rw[c,if_pos rfl]at h;exact apQ k ds vs v d' p2 kk H2 amg iK anD pl.2 (wv.same s2) pl.1 G0 h
    |false=>
     rw[c,if_neg df]at h;exact apQ k ds vs b bd p q H2 amg iK anD pl.2 (wb.same s2) pb hq h
instance axd{f:En->Option (List D)}[A:SA K n t f]:SF K n (arX K (ee K 1 G) t) (λZ=>(f Z).bind (aoD G)):=⟨λ{σ hv H U Z τv τd d Q} I h k=>by
 obtain⟨x,h1,h2⟩:=ak.mp h;refine A.s I h1 λvs H1 s1 w=> ?_;unfold aoD at h2
 split at h2
 ·next d' ds=>
  by_cases c:bI (d'::ds)=true
  ·rw[if_pos c]at h2;obtain⟨e,h3,h2⟩:=ak.mp h2;obtain⟨kk,h4,h2⟩:=ak.mp h2;rw[bI,kM]at c;obtain⟨v,rfl,w1⟩:=w.one;obtain⟨a,us,rfl,hc,vl⟩:=w1.ip;have jV:H1 a=some (.lst us):=hc.2;refine⟨a,us,rfl,jV, ?_⟩;cases us with
   |nil=>cases vl.1
   |cons v vs=>
    have wv:Vw K H1 T1 v d':=vl.2 0 v d' rfl rfl;have wr:dm K H1 T1 vs ds:=⟨by have:=vl.1;simpa using this,λi x y hx hy=>vl.2 (i + 1) x y (by simpa using hx) (by simpa using hy)⟩
    refine⟨[d'],e,rfl,⟨rfl,λi x y hx hy=> ?_⟩,h3,λkv H2 s2 o=>⟨s2 _ _ jV, ?_⟩⟩
    ·cases i with
     |zero=>cases hx;cases hy;exact wv
     |succ i=>simp at hx
    ·obtain⟨p2,rfl,G0⟩:=aoE o.vw h4;exact apQ k ds vs v d' p2 kk H2 (s1.trans s2) (s2 _ _ jV) ⟨wr.1,λi x y hx hy=>(wr.2 i x y hx hy).same s2⟩ c.2 (wv.same s2) c.1 G0 h2
  ·rw[if_neg c]at h2;cases h2
 ·cases h2⟩
end
section
variable {P:Program}{w:World}{K:ah}{mg:Str->Option Value}{base:Heap}{k:Nat}{f:Addr}{fd:kK}{ps:List Str}{m:Nat}{bp:List Bool}
theorem abe:bZ P w K mg base cG k f fd ps (ee K m λ_=>none):=by
 refine⟨λvs H Q E h=> ?_,λA outer s H args us vs Q E _ _ _ _ h=> ?_⟩
 ·obtain⟨ds,d,_,_,h,_⟩:=h;cases h
 ·obtain⟨ds,d,_,_,h,_⟩:=h;cases h
end
section
variable {K:ah}{n:Nat}{H H' H1 H2:Hp}{U U':Addr->Prop}{σ hv:List (Option V)}{Z ρ':En}{τv vs:List V}{τd ds:List D}{v y:V}{d:D}{E:ke}
def apR(fa:En->Option (List D×En))(fg:D->En->Option En)(fb:En->Option Fl)(Z:En):Option Fl:=(fa Z).bind λa=>(tZ a.1).bind λds=>eB fg fb ds a.2
instance (priority:=50) axe{ta:TA}{g:TG}{tb:TS}{fa:En->Option (List D×En)}{fg:D->En->Option En}{is:List Nat}{fb:En->Option Fl}[A:qv K n ta fa][G:SG K n g fg is][B':SS K n tb fb]:SS K n (xv (CK ta) g tb) (apR fa fg fb):=⟨λ{σ hv H U Z τv τd fl E} I h k=>by
 obtain⟨⟨as,ia⟩,h1,h⟩:=ak.mp h;obtain⟨ds,h2,h⟩:=ak.mp h;refine A.s I h1 λvs H1 U1 hl I1 bQ=> ?_;obtain⟨j,e,c1,c2,e2⟩:=Ir (I1.DZ hl) h2;have AS:=I1.drop hl;have wk:=D4 (K:=K) 0 j.toNat;subst e;refine⟨j,rfl,c1,c2, ?_⟩;rw[<- e2]at wk;refine⟨λi m aF H'=>m=ds.length - i/\i<=ds.length/\∃U' ρ',av K n H' U' aF hv ρ' τv τd/\bH U H U' H'/\eB fg fb (ds.drop i) ρ'=some fl,⟨ds.length,by simp,jO _,U1,ia,AS,bQ,h⟩, ?_⟩;rintro i m aF H' ⟨rfl,hi,U',ρ',Ix,st,fo⟩;by_cases dS:i < ds.length
 ·right;have hd:=dH dS;obtain⟨go,yl⟩:=wk.item trivial hd;rw[Cr dS,eB]at fo;obtain⟨ρ1,b1,fo⟩:=ak.mp fo;obtain⟨t6,b2,fo⟩:=ak.mp fo;refine⟨go,λeY H2=>∃U2 ai,av K n H2 U2 eY hv ai τv τd/\bH U' H' U2 H2/\eB fg fb _ ai=some fl,λeY H2 ⟨U2,ai,a1,a2,a3⟩=>⟨_,by lia,rfl,dS,U2,ai,a1,st.trans a2,a3⟩,λx H2 y2=> ?_⟩;obtain⟨e,w2⟩:=yl x H2 y2;subst e;refine G.s Ix w2 b1 λeY I2=> ?_;refine B'.s I2 b2 ?_;cases t6 with
  |nx ai=>exact λgp H3 U3 I3 s3=>⟨U3,ai,I3,s3,fo⟩
  |ct ai=>exact λgp H3 U3 I3 s3=>⟨U3,ai,I3,s3,fo⟩
  |bk ai=>cases fo;exact λgp H3 U3 I3 s3=>k gp H3 U3 I3 (st.trans s3)
  |rt d ai=>cases fo;exact λv gp H3 U3 I3 s3=>k v gp H3 U3 I3 (st.trans s3)
 ·left;have e:i=ds.length:=by lia
  subst e;rw[FR,eB]at fo;cases fo;exact⟨wk.stop (U:=U') trivial,k aF H' U' Ix st⟩⟩
end
section
variable {K:ah}{n:Nat}
def gQ(g:D->D->Option Nat)(gs:V->D->Option V)(a b:D):Option D:=(aW g gs a b).bind λd=>if plain d=true then some d else none
theorem Rb[O:tU K r g gs]:jD K r (gQ g gs):=⟨λ{H x y dx dy d Q} w1 w2 h k=>by
 obtain⟨d',h1,h2⟩:=ak.mp h;by_cases c:plain d'=true
 ·rw[if_pos c]at h2;cases h2;cases dx with
  |sc z=>
   obtain⟨w,h3,h4⟩:=aY.mp h1;subst h4;rw[w1.bA];exact O.t w2 h3 (k w H (aJ.refl H) (.sc w))
  |hl _=>
   obtain⟨i,hi,h⟩:=ak.mp h1;cases h
  |nd kk cs=>
   obtain⟨i,hi,h⟩:=ak.mp h1;obtain⟨a,vs,rfl,_,hc,hl,bB⟩:=w1.node;obtain⟨u,hu⟩:=pL hl h;exact O.s hc hl w2 hi hu (k u H (aJ.refl H) (cA.plain (bB i u d hu h) c))
 ·rw[if_neg c]at h2;cases h2⟩
instance (priority:=30) abf{r:R2}{ta tb:TE}{fa fb:En->Option (D×En)}{g:D->D->Option Nat}{gs:V->D->Option V}[A:SM K n ta fa][B':SM K n tb fb][O:tU K r g gs]:SM K n (ig r ta tb) (hZ (gQ g gs) fa fb):=
 have:jD K r _:=Rb
 Z6
def i5(a b:D):Option D:=match a,b with
 |.nd .tup xs, .nd .tup ys=>if xs≠ []/\xs.length + ys.length<=aM then some (.nd .tup (xs++ys)) else none
 |a,b=>gx a b
theorem abg(w1:Vw K H T1 x a)(w2:Vw K H T1 y b)(h:i5 a b=some d)(k:∀v H',aJ H H'->Vw K H' T1 v d->Q v H'):AZ K x y H Q:=by
 unfold i5 at h
 split at h
 ·next xs ys=>
  by_cases c:xs≠ []/\xs.length + ys.length<=aM
  ·rw[if_pos c]at h;cases h;obtain⟨a,vs,rfl,hc,vl⟩:=w1.ip;obtain⟨b,us,rfl,jV,ul⟩:=w2.ip;have nv:vs≠ []:=λz=>by
    subst z;have:=vl.1;exact c.1 (sN this.symm)
   refine .inr (.inr (.inr ⟨a,b,vs,us,rfl,rfl,cE.of hc.2,cE.of jV.2,nv,by rw[vl.1,ul.1];exact c.2,λz=> ?_,λ_ p hp=> ?_⟩))
   ·subst z;have e:=sN ul.1.symm;subst e;rw[eK]at k;exact k _ H (aJ.refl H) w1
   ·exact k _ _ (fE hp _) ((vl.app ul).node hp (.inl ⟨rfl,rfl⟩))
  ·rw[if_neg c]at h;cases h
 ·exact aaM.s w1 w2 h λv H3 s3 o=>k v H3 s3 o.vw
instance (priority:=950) akL{ta tb:TE}{fa fb:En->Option D}[A:SV K n ta fa][B':SV K n tb fb]:SV K n (ig (AZ K) ta tb) (au i5 fa fb):=⟨λ{σ hv H U Z τv τd d Q} I h k=>by
 obtain⟨a,ha,h⟩:=ak.mp h;obtain⟨b,hb,h⟩:=ak.mp h;refine A.s I ha λx H1 s1 w1=> ?_;refine B'.s (I.same s1) hb λy H2 s2 w2=> ?_;exact abg (w1.same s2) w2 h λv H3 s3 w=>k v H3 (s1.trans (s2.trans s3)) w⟩
def pO(a:D)(lo hi:Option Int):Option D:=match a with
 |.nd .tup cs=>some (.nd .tup (cutD cs lo hi))
 |a=>oS a lo hi
theorem abh{H:Hp}{v:V}{a d:D}{lo hi:Option Int}{Q:VK}(w:Vw K H T1 v a)(h:pO a lo hi=some d)(k:∀v H',aJ H H'->Vw K H' T1 v d->Q v H'):oR K v lo hi H Q:=by
 unfold pO at h
 split at h
 ·next cs=>
  cases h;obtain⟨a,vs,rfl,hc,vl⟩:=w.ip;by_cases cw:HT.bE vs.length 0 lo=0/\HT.bE vs.length vs.length hi=vs.length
  ·refine .inr (.inl ⟨a,vs,rfl,cE.of hc.2,cw, ?_⟩);have e:cutD cs lo hi=cs:=by
    unfold cutD;rw[<- vl.1,cw.1,cw.2,V7,atw,vl.1,aiF]
   rw[e]at k;exact k _ H (aJ.refl H) w
  ·refine .inl ⟨a,vs,rfl,cE.of hc.2,cw,λp hp=> ?_⟩;have g:=D8 vl.1 vl.2 lo hi;exact k _ _ (fE hp _) (dm.node ⟨g.1,g.2⟩ hp (.inl ⟨rfl,rfl⟩))
 ·exact Q5 w h λv H4 s4 o=>k v H4 s4 o.vw
def pP(fe:En->Option D)(fl fh:En->Option (Option Int))(Z:En):Option D:=(fe Z).bind λd=>(fl Z).bind λlo=>(fh Z).bind λhi=>pO d lo hi
instance (priority:=950) akM{te:TE}{tl th:TO}{fe:En->Option D}{fl fh:En->Option (Option Int)}[A:SV K n te fe][L:SO K n tl fl][R:SO K n th fh]:SV K n (CY (oR K) te tl th) (pP fe fl fh):=⟨λ{σ hv H U Z τv τd d Q} I h k=>by
 obtain⟨x,h1,h⟩:=ak.mp h;obtain⟨lo,h2,h⟩:=ak.mp h;obtain⟨hi,h3,h⟩:=ak.mp h;refine A.s I h1 λv H1 s1 w1=>L.s (I.same s1) h2 λH2 s2=>R.s ((I.same s1).same s2) h3 λH3 s3=> ?_;exact abh (w1.same (s2.trans s3)) h λv H4 s4 w=>k v H4 (s1.trans (s2.trans (s3.trans s4))) w⟩
instance (priority:=2000) akN{r:R2}{ta:TA}{tb:TE}{fa:En->Option (List D)}{fb:En->Option (D×En)}{g:D->D->Option Nat}{gs:V->D->Option V}[A:yc K n ta fa][B':SM K n tb fb][O:tU K r g gs]:SM K n (ig r (ahd ta) tb) (hZ (gQ g gs) (λZ=>(d7 .lst fa Z).map λd=>(d,Z)) fb):=
 abf
variable {C:Addr}{E:XK}
def apS(G:List D->Option (D×List D))(C:Addr)(k:Nat)(fa:En->Option (List D×En))(Z:En):Option (D×En):=(fa Z).bind λp=>if p.1.length=k then(G (.nd (.obj C []) []::p.1)).bind λ
 |(r, [o])=>if oO r=true then some (o,p.2) else none
 |_=>none else none
instance (priority:=60) axf{t:TA}{k:Nat}{G:List D->Option (D×List D)}{fa:En->Option (List D×En)}[hC:eQ K C][A:qv K n t fa]:SM K n (GA C (dW K (true::ki k false) G) [] E t) (apS G C k fa):=⟨λ{σ hv H U Z ρ' τv τd d Q} I h kk=>by
 obtain⟨⟨ds,ρ1⟩,h1,h⟩:=ak.mp h;have h:(if ds.length=k then(G (.nd (.obj C []) []::ds)).bind λ
  |(r, [o])=>if oO r=true then some (o,ρ1) else none
  |_=>none else none)=some (d,ρ'):=h
 by_cases c:ds.length=k
 ·rw[if_pos c]at h;obtain⟨⟨r,dq⟩,h2,h⟩:=ak.mp h
  match dq,h with
  | [o],h=>
   have h:(if oO r=true then some (o,ρ1) else none)=some (d,ρ'):=h;by_cases cr:oO r=true
   ·rw[if_pos cr]at h;cases h;have er:r= .sc .aG:=by
     unfold oO at cr
     split at cr
     ·rfl
     ·cases cr
    refine A.s I h1 λvs H1 U1 hl I1 bQ=> ?_;intro x dx hx Iw ne;rw[eK];refine aaY hC.h (I1.DZ hl) c h2 er hx Iw ne λH2 s2 o=> ?_;obtain⟨U3,I3,gZ⟩:=(I1.drop hl).push s2 o;exact kk _ H2 U3 I3 (bQ.trans gZ)
   ·rw[if_neg cr]at h;cases h
  | [],h=>cases h
  |_::_::_,h=>cases h
 ·rw[if_neg c]at h;cases h⟩
noncomputable def pR (G:List D->Option D) (m:Nat) (fa:En->Option (List D×En)) (Z:En):Option (D×En):=(fa Z).bind λp=>if p.1.length=m then(G p.1).map λd=>(d,p.2) else none
instance (priority:=60) akP{ta:TA}{fa:En->Option (List D×En)}{G:List D->Option D}{m:Nat}[A:qv K n ta fa]:SM K n (og (ee K m G) [] E ta) (pR G m fa):=⟨λ{σ hv H U Z ρ' τv τd d Q} I h kk=>by
 obtain⟨⟨ds,ρ1⟩,h1,h⟩:=ak.mp h;by_cases c:ds.length=m
 ·rw[if_pos c]at h;obtain⟨d',h2,h3⟩:=aY.mp h;cases h3;refine A.s I h1 λvs H1 U1 hl I1 bQ=> ?_;rw[eK];refine⟨ds,_,c,I1.DZ hl,h2,λv H2 s2 o=> ?_⟩;obtain⟨U3,I3,gZ⟩:=(I1.drop hl).push s2 o;exact kk _ H2 U3 I3 (bQ.trans gZ)
 ·rw[if_neg c]at h;cases h⟩
end
section
variable {K:ah}{n:Nat}{H H':Hp}{U U':Addr->Prop}{σ hv:List (Option V)}{Z ρ':En}{τv vs:List V}{τd ds:List D}{d:D}
def aoF(j:Nat)(f2:En->Option D)(Z:En):Option (D×En):=(f2 Z).bind λe=>(kr j Z).map λr=>(.nd .tup [r.1,e],r.2)
instance (priority:=3000) axg{j:Nat}{t2:TE}{f2:En->Option D}[Lj:jC j n][S2:SF K n t2 f2]:SM K n (Ai (di (f9 j) (di t2 fz))) (aoF j f2):=⟨λ{σ hv H U Z ρ' τv τd d Q} I h k=>by
 obtain⟨e,h2,h⟩:=ak.mp h;obtain⟨⟨d0,ρ1⟩,hm,h⟩:=aY.mp h;cases h;obtain⟨v0,ev,U1,I1,bQ⟩:∃v0,σ[j]?=some (some v0)/\∃U1,av K n H U1 σ hv ρ1 (τv++ [v0]) (τd++ [d0])/\bH U H U1 H:=by
  obtain⟨d1,g1,g2⟩:=ak.mp hm;by_cases p:plain d1=true
  ·rw[if_pos p]at g2;cases g2;obtain⟨v,ev,w⟩:f9 j σ H (λv H'=>Vw K H' T1 v d0):=(Z5 (i:=j)).s I g1 λv H' s w=>w;obtain⟨U',I',st⟩:=I.push (aJ.refl H) (cA.plain w p);exact⟨v,ev,U',I',st⟩
  ·rw[if_neg p]at g2
   split at g2
   ·next d' e1=>
    cases g2;obtain⟨v,ev,I'⟩:=I.moved Lj.h e1;exact⟨v,ev,U,I',bH.refl U H⟩
   ·cases g2
 refine⟨v0,ev,S2.s I h2 λv2 H1 s1 o1=> ?_⟩;obtain⟨U2,I2,dJ⟩:=I1.push s1 o1;refine⟨by show 2<=aM;decide,λp hp=> ?_⟩;have at5:av K n H1 U2 σ hv ρ1 (τv++ [v0,v2]) (τd++ [d0,e]):=by
  simp only[b8]at I2;exact I2
 obtain⟨U3,I3,gZ⟩:=at5.gather (k:= .tup) (o:= .tup [v0,v2]) rfl hp (.inl ⟨rfl,rfl,rfl⟩);exact k _ _ U3 I3 (bQ.trans (dJ.trans gZ))⟩
end
noncomputable def k5 (n:Int) (ns:List Int):Int:=ns.foldl (λa b=>if b > a then b else a) n
theorem arY(n:Int)(ns:List Int):∀k,k<=ns.length->(n::ns).getD (argBest (λi j=>decide ((n::ns).getD i 0 > (n::ns).getD j 0)) k) 0=k5 n (ns.take k)
 |0,_=>rfl
 |k + 1,h=>by
  have ih:=arY n ns k (by lia);have e:ns.take (k + 1)=ns.take k++ [ns.getD k 0]:=by
   rw[List.take_add_one,dH (by lia)];simp[Cn,dH (show k < ns.length by lia)]
  have e2:k5 n (ns.take (k + 1))=if ns.getD k 0 > k5 n (ns.take k) then ns.getD k 0 else k5 n (ns.take k):=by
   rw[e];unfold k5;rw[List.foldl_append];rfl
  rw[e2,argBest, <- ih];simp only[decide_eq_true_eq]
  split
  ·next c=>exact(if_pos (show ns.getD k 0 > _ from c)).symm
  ·next c=>exact(if_neg (show ¬ ns.getD k 0 > _ from c)).symm
section
theorem at6(hc:X.calm=true):fT X (.builtin "max") (λxs H Q=>∃(a:Addr) (n:Int) (ns:List Int),xs= [.ref a]/\cI X.K H a ((n::ns).map V.int)/\Q (.int (k5 n ns)) H):=by
 intro ab s σ H xs us Q I r h;obtain⟨a,n,ns,rfl,hs,q⟩:=h;obtain⟨u,rfl,ru⟩:=vals1 r;cases ru;obtain⟨its,rv,pl,hz⟩:=I.list hs;have hl:its.length=ns.length + 1:=by rw[<- rv.length,eG];rfl
 refine call_max_walk ?_;refine Vk pl.isList ?_;have lt:a < s.heap.objs.size:=by obtain⟨o,n,e,_⟩:=pl;exact cW e
 have at_:∀(i:Nat) (v:Value),its.toArray[i]?=some v->∃t,v=w6 ((n::ns).getD i 0) t:=λi v hv=>by
  have iV:its[i]?=some v:=by simpa using hv
  have hi:i < (n::ns).length:=by
   have:=(cX.mp iV).1;rw[c8]
   lia
  have hx:((n::ns).map V.int)[i]?=some (.int ((n::ns).getD i 0)):=by
   rw[bJ,dH hi];simp[Cn,dH hi]
  obtain⟨u,hu,ru⟩:=rv.get hx;rw[iV]at hu;cases hu;exact ru
 refine⟨s.heap.objs.size,_,_,_,_,_,λi j=>decide ((n::ns).getD i 0 > (n::ns).getD j 0),rfl,apD (A:=X.A.in1) (show X.A.in1.handled=none from I.ok.hd hc) _ a (dR lt) its.toArray,⟨⟨_,gc _ rfl,rfl,rfl⟩,pl.isList.at λo e=>cB _ e⟩,λb hb=> ?_, ?_,CmpOf.ints_gt _ at_,λv h' tk hP hk=> ?_⟩
 ·rw[p9];rcases bL.mp hb with z | hb
  ·rw[z];exact FN _
  ·rw[eS.mp hb];exact Ck lt
 ·rw[fM,hl];exact V3 _
 ·obtain⟨t,rfl⟩:=at_ _ v hP;rw[fM,hl,Cq,arY n ns _ (bO _),aiF];refine⟨.int (k5 n ns),H,I.kept (t':=tk) λb o eo=>hk b o ?_ (cB _ eo),⟨t,rfl⟩,q⟩;intro z;rw[eS.mp z]at eo;exact absurd (cW eo) (mI _)
def apT(K:ah):List V->Hp->VK->Prop:=λxs H Q=>∃(a:Addr) (n:Int) (ns:List Int),xs= [.ref a]/\cI K H a ((n::ns).map V.int)/\Q (.int (k5 n ns)) H
theorem at7{X:Cx}(hc:X.calm=true):fT X (.builtin "max") (apT X.K):=at6 hc
variable {K:ah}{n:Nat}{H H':Hp}{N:Addr->Prop}
noncomputable def jq:List D->Option (List Int)
 | []=>some []
 |.sc (.int b)::r=>(jq r).map (b:: ·)
 |_::_=>none
theorem IF:∀{cs:List D} {vs:List V} {bs:List Int},vs.length=cs.length->(∀(i:Nat) (v:V) (d:D),vs[i]?=some v->cs[i]?=some d->Vw K H N v d)->jq cs=some bs->vs=bs.map V.int
 | [], [],_,_,_,h=>by rw[jq]at h;cases h;rfl
 | [],_::_,_,h,_,_=>by cases h
 |_::_, [],_,h,_,_=>by cases h
 |d::cs,v::vs,ts,hl,hk,h=>by
  unfold jq at h
  split at h
  ·next e=>cases e
  ·next t r e=>
   cases e;obtain⟨x,h2,h⟩:=aY.mp h;subst h;rw[cP,(hk 0 v _ rfl rfl).bA,IF (eF hl) (λi v d a b=>hk (i + 1) v d (by simpa using a) (by simpa using b)) h2]
  ·cases h
def ato:List Int->Option D
 |n::ns=>some (.sc (.int (k5 n ns)))
 | []=>none
def apU:List D->Option D
 | [.nd .lst cs]=>(jq cs).bind ato
 |_=>none
instance axh:k3 K (apT K) apU:=⟨λ{H vs ds d Q} w h k=>by
 unfold apU at h
 split at h
 ·next cs=>
  obtain⟨bs,h1,h2⟩:=ak.mp h;cases bs with
  |nil=>cases h2
  |cons n ns=>
   cases h2;obtain⟨v,rfl,w1⟩:=w.one;obtain⟨a,us,rfl,_,hc,hl,bB⟩:=w1.node;have e:=IF hl bB h1;exact⟨a,n,ns,rfl,cI.of (by rw[<- e];exact hc.2),k _ H (aJ.refl H) (.sc _)⟩
 ·cases h⟩
end
section
variable {K:ah}{H H':Hp}
end
end VL
set_option maxHeartbeats 4000000
namespace VL
open PySem L2
noncomputable abbrev iD (i:Int):D:= .sc (.int i)
noncomputable abbrev tD (b:Bool):D:= .sc (.bl b)
noncomputable abbrev sD (s:Str):D:= .sc (.str s)
noncomputable def sg (cs:List Int):D:= .nd .dA (cs.map λi=> .sc (.int i))
theorem oX(c d:Int):dN id (.sc (.int c)) (.sc (.int d))=some (.sc (.bl (decide (c=d)))):=by
 simp[dN,cy,sO,sP,d9];by_cases h:c=d <;> simp[h]
theorem arZ(c d:Int):dN (!·) (.sc (.int c)) (.sc (.int d))=some (.sc (.bl (decide (c≠d)))):=by
 simp[dN,cy,sO,sP,d9];by_cases h:c=d <;> simp[h]
theorem Ea(c d:Str)(hc:oe c=true)(hd:oe d=true):dN id (.sc (.str c)) (.sc (.str d))=some (.sc (.bl (decide (c=d)))):=by
 simp[hc,hd,dN,cy,sO,sP,d9];by_cases h:c=d <;> simp[h]
theorem Sm:(1<=aM)=True:=eq_true (by decide)
theorem CV:(2<=aM)=True:=eq_true (by decide)
theorem apV:(3<=aM)=True:=eq_true (by decide)
theorem at8:(4<=aM)=True:=eq_true (by decide)
theorem ar0:(5<=aM)=True:=eq_true (by decide)
theorem at9:(6<=aM)=True:=eq_true (by decide)
def NA(x:Option B):Prop:=∀r p,x≠some (.aB r p)
theorem t9:eI i []= []:=rfl
theorem uc:eI i (some (.own d)::r)=some (.own d)::eI i r:=rfl
theorem ud:eI i (some (.ro d)::r)=some (.ro d)::eI i r:=rfl
theorem ue:eI i (none::r)=none::eI i r:=rfl
theorem uf:eI i (some (.aB j p)::r)=(if j=i then none else some (.aB j p))::eI i r:=rfl
theorem abj(h:NA x):eI i (x::r)=x::eI i r:=by
 match x,h with
 |none,_=>rfl
 |some (.own _),_=>rfl
 |some (.ro _),_=>rfl
 |some (.aB r p),h=>exact absurd rfl (h r p)
theorem abk(h:NA x):fO Z x=x:=by
 match x,h with
 |none,_=>rfl
 |some (.own _),_=>rfl
 |some (.ro _),_=>rfl
 |some (.aB r p),h=>exact absurd rfl (h r p)
def Ev(f:En->Option Fl)(Z:En)(Q:Fl->Prop):Prop:=∃fl,f Z=some fl/\Q fl
theorem Ev.seq(h:Ev t Z λfl=>match fl with | .nx ρ'=>Ev u ρ' Q | fl=>Q fl):Ev (fA t u) Z Q:=by
 obtain⟨fl,e,h⟩:=h;unfold Ev fA;rw[e];cases fl with
 |nx ρ'=>exact h
 |_=>exact⟨_,rfl,h⟩
theorem Ev.nx(e:t Z=some (.nx ρ'))(h:Ev u ρ' Q):Ev (fA t u) Z Q:=Ev.seq ⟨_,e,h⟩
theorem Rg{ds:List D}{R:D->Prop}(h:Ev f (ds.map (λd=>some (.ro d))++ki (n - ds.length) none) λfl=>match fl with | .rt d _=>R d | .nx _=>R (.sc .aG) | _=>False):∃d,bV n f ds=some d/\R d:=by
 obtain⟨fl,e,h⟩:=h;unfold bV;rw[e];cases fl with
 |nx ρ'=>exact⟨_,rfl,h⟩
 |rt d ρ'=>exact⟨_,rfl,h⟩
 |bk _=>exact h.elim
 |ct _=>exact h.elim
theorem IH{fg:D->En->Option En}{Q:Fl->Prop}(P:En->Prop):∀(ds:List D) (Z:En),P Z->(∀d∈ds,∀Z,P Z->∃ρ1,fg d Z=some ρ1/\Ev fb ρ1 λfl=>match fl with | .nx ai=>P ai | .ct ai=>P ai | .bk ai=>Q (.nx ai) | .rt d ai=>Q (.rt d ai))->
  (∀Z,P Z->Q (.nx Z))->∃fl,eB fg fb ds Z=some fl/\Q fl
 | [],Z,p,_,hd=>⟨_,rfl,hd Z p⟩
 |d::ds,Z,p,st,hd=>by
  obtain⟨ρ1,e1,fl,e2,h⟩:=st d (.head _) Z p;rw[eB,e1];show ∃fl,(fb ρ1).bind _=some fl/\Q fl;rw[e2];cases fl with
  |nx ai=>exact IH P ds ai h (λd pA=>st d (.tail _ pA)) hd
  |ct ai=>exact IH P ds ai h (λd pA=>st d (.tail _ pA)) hd
  |bk ai=>exact⟨_,rfl,h⟩
  |rt d ai=>exact⟨_,rfl,h⟩
theorem Ev.for{fi:En->Option (List D)}{fg:D->En->Option En}{fb:En->Option Fl}{Q:Fl->Prop}(hi:fi Z=some ds)(P:En->Prop)(h0:P Z)
  (st:∀d∈ds,∀Z,P Z->∃ρ1,fg d Z=some ρ1/\Ev fb ρ1 λfl=>match fl with | .nx ai=>P ai | .ct ai=>P ai | .bk ai=>Q (.nx ai) | .rt d ai=>Q (.rt d ai)) (hd:∀Z,P Z->Q (.nx Z)):
  Ev (λZ=>(fi Z).bind λds=>eB fg fb ds Z) Z Q:=by
 show ∃fl,(fi Z).bind _=some fl/\Q fl;rw[hi];exact IH P ds Z h0 st hd
theorem apW(m:Nat)(hm:m < 100):tZ [.sc (.int (m:Int))]=some (iQ 0 m):=by
 unfold tZ;dsimp only;rw[if_pos ⟨by lia,by lia⟩];rfl
theorem Rh{α:Type}(g:α->D)(p:α->Bool)(h:α->D):∀(l:List α),(∀a∈l,∃ρ1,fg (g a) ia=some ρ1/\ft ρ1=some (p a)/\(p a=true->fe ρ1=some (h a)))->
  jH fg ft fe ia (l.map g)=some ((l.filter p).map h)
 | [],_=>rfl
 |a::l,H=>by
  obtain⟨ρ1,e1,e2,e3⟩:=H a (.head _);have ih:=Rh g p h l λx hx=>H x (.tail _ hx);rw[cP,jH,e1];show(ft ρ1).bind _=_;rw[e2];show(if p a=true then _ else _)=_;cases q:p a with
  |true=>rw[if_pos rfl,e3 q];show(jH fg ft fe ia _).map _=_;rw[ih,List.filter_cons_of_pos q];rfl
  |false=>rw[if_neg df,ih,List.filter_cons_of_neg (by rw[q];exact df)]
theorem fQ(h:f (ds.map (λd=>some (.ro d))++ki (n - ds.length) none)=some (.rt d ρ')):bV n f ds=some d:=by
 unfold bV;rw[h]
theorem fC(h:f (kW n bp ds)=some (.rt d ρ'))(ho:gP (ρ'.drop n)=some o):dG n bp f ds=some (d,o):=by
 unfold dG;rw[h];show(gP _).map _=_;rw[ho];rfl
theorem cD(h:f Z=some (d,ρ')):jg f Z=some (.rt d ρ'):=by
 unfold jg;rw[h];rfl
theorem aD(e:t Z=some (.nx ρ'))(h:u ρ'=r):fA t u Z=r:=by
 unfold fA;rw[e];exact h
theorem j0{x:Option D}{Z:En}{d:D}(h:x=some d):x.map (λd=>(d,Z))=some (d,Z):=by rw[h];rfl
theorem abl{n:Nat}{fg:D->En->Option En}{ft:En->Option Bool}{fe:En->Option D}(h1:fi Z=some ds)(hz:ds.length<=aM)(rD:is.all (λi=>js[i]? == some none)=true)
  (h2:jH fg ft fe (gH n js Z) ds=some ys):iJ n js is fi fg ft fe Z=some (.nd .lst ys):=by
 unfold iJ;rw[h1];show(if _ then _ else _)=_;rw[if_pos ⟨hz,rD⟩,h2];rfl
theorem qD{α:Type}{n:Nat}{fg:D->En->Option En}{ft:En->Option Bool}{fe:En->Option D}(l:List α)(g:α->D)(p:α->Bool)(h:α->D)(h1:fi Z=some (l.map g))(hz:l.length<=aM)(rD:is.all (λi=>js[i]? == some none)=true)
  (h2:∀a∈l,∃ρ1,fg (g a) (gH n js Z)=some ρ1/\ft ρ1=some (p a)/\(p a=true->fe ρ1=some (h a))):iJ n js is fi fg ft fe Z=some (.nd .lst ((l.filter p).map h)):=
 abl h1 (by rw[eG];exact hz) rD (Rh g p h l h2)
theorem abm(h:d∈iQ lo m):∃i:Nat,i < m/\d=iD (lo + i):=by
 obtain⟨i,hi,e⟩:=gY.mp h;exact⟨i,sH.mp hi,e.symm⟩
theorem akS:fO Z (some (.own d))=some (.own d):=rfl
theorem akT:fO Z (some (.ro d))=some (.ro d):=rfl
theorem akU:fO Z none=none:=rfl
theorem i6:NA none:=λ_ _ h=>by cases h
theorem dO:NA (some (.ro d)):=λ_ _ h=>by cases h
theorem cZ:NA (some (.own d)):=λ_ _ h=>by cases h
theorem y0:(ae "many"=ae "number")=False:=aiR
theorem gN:(ae "term"=ae "number")=False:=aiR
theorem hE:(ae "term"=ae "many")=False:=aiR
theorem vx:(ae "of"=ae "number")=False:=aiR
theorem vX:(ae "of"=ae "many")=False:=aiR
theorem wq:(ae "of"=ae "term")=False:=aiR
theorem o5:(ae "log"=ae "number")=False:=aiR
theorem p5:(ae "log"=ae "many")=False:=aiR
theorem p6:(ae "log"=ae "term")=False:=aiR
theorem p8:(ae "log"=ae "of")=False:=aiR
theorem za:(ae "done"=ae "number")=False:=aiR
theorem An:(ae "done"=ae "many")=False:=aiR
theorem A0:(ae "done"=ae "term")=False:=aiR
theorem Eb:(ae "done"=ae "of")=False:=aiR
theorem Hm:(ae "done"=ae "log")=False:=aiR
theorem la:(ae "role"=ae "number")=False:=aiR
theorem lb:(ae "role"=ae "many")=False:=aiR
theorem lg:(ae "role"=ae "term")=False:=aiR
theorem ll:(ae "role"=ae "of")=False:=aiR
theorem ly:(ae "role"=ae "log")=False:=aiR
theorem lD:(ae "role"=ae "done")=False:=aiR
theorem anY:(ae "voices"=ae "number")=False:=aiR
theorem anZ:(ae "voices"=ae "many")=False:=aiR
theorem an0:(ae "voices"=ae "term")=False:=aiR
theorem an1:(ae "voices"=ae "of")=False:=aiR
theorem an2:(ae "voices"=ae "log")=False:=aiR
theorem an3:(ae "voices"=ae "done")=False:=aiR
theorem an4:(ae "voices"=ae "role")=False:=aiR
theorem an5:(ae "sizes"=ae "number")=False:=aiR
theorem an6:(ae "sizes"=ae "many")=False:=aiR
theorem an7:(ae "sizes"=ae "term")=False:=aiR
theorem an8:(ae "sizes"=ae "of")=False:=aiR
theorem an9:(ae "sizes"=ae "log")=False:=aiR
theorem aoa:(ae "sizes"=ae "done")=False:=aiR
theorem aob:(ae "sizes"=ae "role")=False:=aiR
theorem aoc:(ae "sizes"=ae "voices")=False:=aiR
theorem aoG:(ae "fixed"=ae "number")=False:=aiR
theorem aoH:(ae "fixed"=ae "many")=False:=aiR
theorem aoI:(ae "fixed"=ae "term")=False:=aiR
theorem aoJ:(ae "fixed"=ae "of")=False:=aiR
theorem aoK:(ae "fixed"=ae "log")=False:=aiR
theorem aoL:(ae "fixed"=ae "done")=False:=aiR
theorem aoM:(ae "fixed"=ae "role")=False:=aiR
theorem aoN:(ae "fixed"=ae "voices")=False:=aiR
theorem aoO:(ae "fixed"=ae "sizes")=False:=aiR
def Gd(n:Nat)(d:D):Prop:=∃p,cy d=some p/\p.canLay0=true/\p.depth<=n/\d9 p p=true
def mz(n:Nat)(ds:List D):Prop:=∃ps,ky ds=some ps/\V8 ps=true/\V9 ps<=n/\zu ps ps=true
theorem Gd.int(i:Int):Gd 0 (.sc (.int i)):=⟨.int i,by simp[cy],by simp[sO],by simp[sP],by simp[d9]⟩
theorem Gd.str(x:Str)(h:oe x=true):Gd 0 (.sc (.str x)):=⟨.str x,by simp[cy],by simp[sO,h],by simp[sP],by simp[d9]⟩
theorem Gd.mono(h:Gd m d)(l:m<=n):Gd n d:=by
 obtain⟨p,a,b,c,e⟩:=h;exact⟨p,a,b,b7 c l,e⟩
theorem mz.nil:mz n []:=⟨[],by simp[ky],by simp[V8],by simp[V9],by simp[zu]⟩
theorem mz.cons(h:Gd n d)(t:mz n ds):mz n (d::ds):=by
 obtain⟨p,a,b,c,e⟩:=h;obtain⟨ps,a',b',c',e'⟩:=t;exact⟨p::ps,by simp[ky,a,a'],by simp[V8,b,b'],by simp[V9];lia,by simp[zu,e,e']⟩
theorem mz.all:∀{ds:List D},(∀d∈ds,Gd n d)->mz n ds
 | [],_=> .nil
 |d::ds,h=> .cons (h d (.head _)) (mz.all λx hx=>h x (.tail _ hx))
theorem mz.tup(h:mz n ds):Gd (n + 1) (.nd .tup ds):=by
 obtain⟨ps,a,b,c,e⟩:=h;exact⟨.tuple ps,by simp[cy,a],by simp[sO,b],by simp[sP];lia,by simp[d9,e]⟩
theorem mz.lst(h:mz n ds):Gd (n + 1) (.nd .lst ds):=by
 obtain⟨ps,a,b,c,e⟩:=h;exact⟨.list ps,by simp[cy,a],by simp[sO,b],by simp[sP];lia,by simp[d9,e]⟩
theorem Ri(m:Nat):iQ 0 m=(kf m).map λi:Nat=>D.sc (.int (i:Int)):=by
 refine Cs λi _=> ?_;rw[aty]
noncomputable def ix (nu:Int) (m:Nat):List Nat:=(kf m).filter λi:Nat=>decide ((i:Int)≠nu)
noncomputable def gj (nu ma te:Int):Int:=te + 1 + (nu - (te + 1)) % ma
def Lp(l:List D):Prop:=∃x y:Int,l= [iD x]\/l= [iD x,iD y]
noncomputable def d3:List Str:= ["number","many","term","of","log","done","role","voices","sizes","fixed"]
inductive qA:D->Prop
 |a (s:Str) (k:Int):oe s=true->qA (.nd .tup [.sc (.str s), .sc (.int k)])
 |b (s:Str) (k t:Int):oe s=true->qA (.nd .tup [.sc (.str s), .sc (.int k), .sc (.int t)])
 |c (s:Str) (k:Int) (t:Str):oe s=true->oe t=true->qA (.nd .tup [.sc (.str s), .sc (.int k), .sc (.str t)])
def cc(L:List D):Prop:=∀d∈L,qA d
theorem qA.plain(h:qA d):VL.plain d=true:=by cases h <;> simp[VL.plain,VL.bI]
theorem qA.gd(h:qA d):Gd 1 d:=by
 cases h with
 |a s k h=>exact mz.tup (mz.cons (Gd.str _ h) (mz.cons (Gd.int _) mz.nil))
 |b s k t h=>exact mz.tup (mz.cons (Gd.str _ h) (mz.cons (Gd.int _) (mz.cons (Gd.int _) mz.nil)))
 |c s k t h h2=>exact mz.tup (mz.cons (Gd.str _ h) (mz.cons (Gd.int _) (mz.cons (Gd.str _ h2) mz.nil)))
theorem cc.plain(h:cc L):VL.bI L=true:=vM λd hd=>(h d hd).plain
theorem cc.gd(h:cc L):mz 1 L:=mz.all λd hd=>(h d hd).gd
theorem cc.nil:cc []:=λ_ h=>nomatch h
theorem cc.app(h:cc L)(g:cc M):cc (L++M):=λd hd=>(lZ.mp hd).elim (h d) (g d)
def mD(C:Addr)(nu ma te o:Int)(L:List D)(dn:Int)(role:Str)(vo si:D):D:= .nd (.obj C d3) [iD nu,iD ma,iD te,iD o, .nd .lst L,iD dn,sD role,vo,si,tD true]
def fD(nu ma te o:Int)(L:List D)(dn:Int)(role:Str):D:= .nd .tup [iD nu,iD ma,iD te,iD o, .nd .lst L,iD dn,sD role]
theorem aua(nu ma te o:Int)(L:List D)(dn:Int)(role:Str)(vo si:D):VL.plain (mD C nu ma te o L dn role vo si)=false:=by simp[mD,VL.plain]
theorem aub(nu ma te o:Int)(L:List D)(dn:Int)(role:Str)(hL:cc L)(h:oe role=true):Gd 60 (fD nu ma te o L dn role):=
 (mz.tup (n:=2) (.cons ((Gd.int _).mono (by decide)) (.cons ((Gd.int _).mono (by decide)) (.cons ((Gd.int _).mono (by decide)) (.cons ((Gd.int _).mono (by decide)) (.cons (hL.gd.lst) (.cons ((Gd.int _).mono (by decide)) (.cons ((Gd.str _ h).mono (by decide)) .nil)))))))).mono (by decide)
theorem auc(nu ma te o:Int)(L:List D)(dn:Int)(role:Str)(vo si:D):ji "log" (mD C nu ma te o L dn role vo si)=some (.nd .lst L):=by
 simp[mD,d3,ji,oB,iI,jh,o5,p5,p6,p8]
theorem aud(nu ma te o:Int)(L:List D)(dn:Int)(role:Str)(vo si:D):ji "done" (mD C nu ma te o L dn role vo si)=some (iD dn):=by
 simp[mD,d3,ji,oB,iI,jh,za,An,A0,Eb,Hm]
theorem aue(nu ma te o:Int)(L:List D)(dn:Int)(role:Str)(vo si:D):ji "sizes" (mD C nu ma te o L dn role vo si)=some (si):=by
 simp[mD,d3,ji,oB,iI,jh,an5,an6,an7,an8,an9,aoa,aob,aoc]
open PySem.Spec PyProof.Rows
section
variable {K:ah}{n:Nat}{H H' H1 H2:Hp}{U U':Addr->Prop}{σ hv:List (Option V)}{Z ρ':En}{τv vs:List V}{τd ds:List D}{v y:V}{d:D}{E:ke}
theorem kO{α:Type}(A B:List α)(x:α)(j:Nat):(A++ [x]++B)[j]?=if j < A.length then(A++B)[j]? else if j=A.length then some x else(A++B)[j - 1]?:=by
 by_cases h1:j < A.length
 ·rw[if_pos h1,b8,aU h1,aU h1]
 ·rw[if_neg h1,b8,br (by lia)];by_cases h2:j=A.length
  ·rw[if_pos h2,h2];simp
  ·rw[if_neg h2,List.singleton_append,br (by lia)];obtain⟨k,hk⟩:∃k,j - A.length=k + 1:=⟨j - A.length - 1,by lia⟩
   rw[hk,List.getElem?_cons_succ,show j - 1 - A.length=k by lia]
def IM(M r:Nat)(Fs:Nat->Addr->Prop)(j:Nat)(b:Addr):Prop:=if j < M then(j≠r/\Fs j b) else if j=M then Fs r b else Fs (j - 1) b
theorem auf(h:j < M)(h2:j≠r):IM M r Fs j=Fs j:=by
 funext b;unfold IM;rw[if_pos h];exact propext ⟨λz=>z.2,λz=>⟨h2,z⟩⟩
theorem auh:IM M r Fs M=Fs r:=by
 funext b;unfold IM;rw[if_neg (mI _),if_pos rfl]
theorem aui(h:¬ j < M)(h2:¬ j=M):IM M r Fs j=Fs (j - 1):=by
 funext b;unfold IM;rw[if_neg h,if_neg h2]
def aoP(r:Nat)(d:D)(Z:En):En:=((eI r Z).set r (some (.aB Z.length [])))++ [some (.own d)]
def qE(r m:Nat)(Z:En):En:=match Z[r]? with
 |some (some (.aB q []))=>if q=m then((eI m Z).take m).set r ((aV Z m).map .own) else(eI m Z).take m
 |_=>(eI m Z).take m
theorem av.auj(I:av K n H U σ hv Z τv τd)(h:Z[r]?=some (some (.own d)))(hr:r < n):
  ∃v,σ[r]?=some (some v)/\av K n H U σ (hv++ [some v]) (aoP r d Z) τv τd:=by
 have l:=I.len;have nn:=I.nn;obtain⟨hl,mu,Fs,dj,sub,sl⟩:=I.ok;have hM:(σ++hv).length=Z.length:=by rw[dg];exact l
 have hX:((eI r Z).set r (some (.aB Z.length []))).length=Z.length:=by rw[bN,jZ]
 obtain⟨v,ev,sv⟩:=sl r (.own d) (by rw[aU (by lia)];exact h);have ar1:(σ++hv)[r]?=some (some v):=by rw[aU (by lia)]at ev;exact ev
 have auk:σ[r]?=some (some v):=by rw[aU (by lia)]at ar1;exact ar1
 have eA:σ++(hv++ [some v])++τv.map some=(σ++hv)++ [some v]++τv.map some:=by simp
 refine⟨v,auk, ?_,by unfold aoP;rw[dg,dg,hX,pw,pw];lia,nn⟩;rw[eA];unfold aoP;have hL:(((eI r Z).set r (some (.aB Z.length [])))++ [some (B.own d)]).length=Z.length + 1:=by rw[dg,hX,pw]
 rw[hL];have old:∀(q:Nat),q < Z.length->((σ++hv)++ [some v]++τv.map some)[q]?=((σ++hv)++τv.map some)[q]?:=λq hq=>by
  rw[kO,if_pos (by lia)]
 have vY:((σ++hv)++ [some v]++τv.map some)[Z.length]?=some (some v):=by
  rw[kO,if_neg (by lia),if_pos hM.symm]
 refine⟨by simp only[dg,pw,hX]at hl |-;lia,mu,IM Z.length r Fs,λi j b hi hj=> ?_,λi b hb=> ?_,λj γ cH=> ?_⟩
 ·have hi:if i < Z.length then(i≠r/\Fs i b) else if i=Z.length then Fs r b else Fs (i - 1) b:=hi;have hj:if j < Z.length then(j≠r/\Fs j b) else if j=Z.length then Fs r b else Fs (j - 1) b:=hj
  split at hi
  ·split at hj
   ·exact dj _ _ b hi.2 hj.2
   ·split at hj
    ·exact absurd (dj _ _ b hi.2 hj) hi.1
    ·have:=dj _ _ b hi.2 hj;lia
  ·split at hi
   ·split at hj
    ·exact absurd (dj _ _ b hj.2 hi) hj.1
    ·split at hj
     ·lia
     ·have:=dj _ _ b hi hj;lia
   ·split at hj
    ·have:=dj _ _ b hi hj.2;lia
    ·split at hj
     ·have:=dj _ _ b hi hj;lia
     ·have:=dj _ _ b hi hj;lia
 ·have hb:if i < Z.length then(i≠r/\Fs i b) else if i=Z.length then Fs r b else Fs (i - 1) b:=hb
  split at hb
  ·exact sub _ b hb.2
  ·split at hb
   ·exact sub _ b hb
   ·exact sub _ b hb
 ·rw[kO,hX]at cH;by_cases c1:j < Z.length
  ·rw[if_pos c1,aU (by lia)]at cH;by_cases c2:j=r
   ·subst c2;rw[gK (by rw[jZ];lia)]at cH;cases cH;exact⟨v,by rw[old _ c1];exact ev,by lia,v,vY, .nil v⟩
   ·rw[gq (λz=>c2 z.symm)]at cH;obtain⟨q1,q2⟩:=DH cH;obtain⟨v2,d5,dZ⟩:=sl j γ (by rw[aU (by lia)];exact q1);refine⟨v2,by rw[old _ c1];exact d5, ?_⟩;cases γ with
    |own dd=>
     rw[auf c1 c2];exact dZ
    |ro dd=>exact dZ
    |aB q p=>
     obtain⟨a,vr,b,c⟩:=dZ;exact⟨by lia,vr,by rw[old _ a];exact b,c⟩
  ·rw[if_neg c1]at cH;by_cases c2:j=Z.length
   ·rw[if_pos c2]at cH;cases cH;subst c2;refine⟨v,vY, ?_⟩;rw[auh];exact sv
   ·rw[if_neg c2,br (by lia),hX]at cH;obtain⟨v2,d5,dZ⟩:=sl (j - 1) γ (by rw[br (by lia)];exact cH);refine⟨v2,by rw[kO,hM,if_neg c1,if_neg c2];exact d5, ?_⟩;cases γ with
    |own dd=>
     rw[aui c1 c2];exact dZ
    |ro dd=>exact dZ
    |aB q p=>
     obtain⟨a,vr,b,c⟩:=dZ;exact⟨by lia,vr,by rw[old _ a];exact b,c⟩
def vZ(M c:Nat)(Fs:Nat->Addr->Prop)(j:Nat)(b:Addr):Prop:=if j < M then(if j=c then Fs M b else Fs j b) else Fs (j + 1) b
theorem abt(h:j < M)(h2:j≠c):vZ M c Fs j=Fs j:=by
 funext b;unfold vZ;rw[if_pos h,if_neg h2]
theorem abu(h:c < M):vZ M c Fs c=Fs M:=by
 funext b;unfold vZ;rw[if_pos h,if_pos rfl]
theorem abv(h:¬ j < M):vZ M c Fs j=Fs (j + 1):=by
 funext b;unfold vZ;rw[if_neg h]
theorem av.Rk{M c:Nat}(I:av K n H U σ (hv++ [some v]) Z τv τd)(abw:Z.length=M + 1)(II:X.length=M)
  (hX:∀(j:Nat) (γ:B),X[j]?=some (some γ)->(j≠c/\Z[j]?=some (some γ)/\∀q p,γ= .aB q p->q≠M)\/(j=c/\∃d,γ= .own d/\aV Z M=some d/\Z[j]?=some (some (.aB M [])))):
  av K n H U σ hv X τv τd:=by
 have l:=I.len;have nn:=I.nn;obtain⟨hl,mu,Fs,dj,sub,sl⟩:=I.ok;rw[dg,pw]at l;have hM:(σ++hv).length=M:=by rw[dg];lia
 have eA:σ++(hv++ [some v])++τv.map some=(σ++hv)++ [some v]++τv.map some:=by simp
 rw[eA]at hl sl;refine⟨?_,by rw[II, <- hM,dg],nn⟩;rw[II];have old:∀(q:Nat),q < M->((σ++hv)++ [some v]++τv.map some)[q]?=((σ++hv)++τv.map some)[q]?:=λq hq=>by
  rw[kO,if_pos (by lia)]
 have vY:((σ++hv)++ [some v]++τv.map some)[M]?=some (some v):=by
  rw[kO,if_neg (by lia),if_pos hM.symm]
 have big:∀(q:Nat),¬ q < M->((σ++hv)++ [some v]++τv.map some)[q + 1]?=((σ++hv)++τv.map some)[q]?:=λq hq=>by
  rw[kO,if_neg (by lia),if_neg (by lia),Cq]
 refine⟨by simp only[dg,pw]at hl hM |-;lia,mu,vZ M c Fs,λi j b hi hj=> ?_,λi b hb=> ?_,λj γ cH=> ?_⟩
 ·have hi:if i < M then _ else Fs (i + 1) b:=hi;have hj:if j < M then _ else Fs (j + 1) b:=hj
  split at hi <;> split at hj
  ·split at hi <;> split at hj
   ·lia
   ·have:=dj _ _ b hi hj;lia
   ·have:=dj _ _ b hi hj;lia
   ·exact dj _ _ b hi hj
  ·split at hi
   ·have:=dj _ _ b hi hj;lia
   ·have:=dj _ _ b hi hj;lia
  ·split at hj
   ·have:=dj _ _ b hi hj;lia
   ·have:=dj _ _ b hi hj;lia
  ·have:=dj _ _ b hi hj;lia
 ·have hb:if i < M then _ else Fs (i + 1) b:=hb
  split at hb
  ·split at hb <;> exact sub _ b hb
  ·exact sub _ b hb
 ·by_cases c1:j < M
  ·rw[aU (by lia)]at cH;rcases hX j γ cH with⟨n1,q1,q2⟩ | ⟨rfl,dd,rfl,hd,q1⟩
   ·obtain⟨v2,d5,dZ⟩:=sl j γ (by rw[aU (by lia)];exact q1);rw[old _ c1]at d5;refine⟨v2,d5, ?_⟩;cases γ with
    |own dd=>
     rw[abt c1 n1];exact dZ
    |ro dd=>exact dZ
    |aB q p=>
     obtain⟨a,vr,b,k⟩:=dZ;have:=q2 q p rfl;have hq:q < M:=by lia
     rw[old _ hq]at b;exact⟨hq,vr,b,k⟩
   ·obtain⟨v2,d5,dZ⟩:=sl j _ (by rw[aU (by lia)];exact q1);obtain⟨_,vr,b,k⟩:=dZ;rw[old _ c1]at d5;rw[vY]at b;cases b;cases k;obtain⟨v3,Rl,abx⟩:=sl M (.own dd) (by rw[aU (by lia)];exact kS hd);rw[vY]at Rl;cases Rl;refine⟨_,d5, ?_⟩;rw[abu c1];exact abx
  ·rw[br (by lia),II]at cH;obtain⟨v2,d5,dZ⟩:=sl (j + 1) γ (by rw[br (by lia),abw,show j + 1 - (M + 1)=j - M by lia];exact cH);rw[big _ c1]at d5;refine⟨v2,d5, ?_⟩;rw[bJ]at cH;obtain⟨dd,_,e2⟩:=aY.mp cH;cases e2;rw[abv c1];exact dZ
theorem Rm(h:((eI M Z).take M)[j]?=some (some γ)):j < M/\Z[j]?=some (some γ)/\∀q p,γ= .aB q p->q≠M:=by
 have hj:j < M:=by
  rcases NV j M with z | z
  ·exact z
  ·rw[List.getElem?_take_eq_none (by lia)]at h;cases h
 rw[VE hj]at h;exact⟨hj,DH h⟩
theorem av.cls(I:av K n H U σ (hv++ [some v]) Z τv τd)(hm:Z.length=m + 1)(hr:r < m):av K n H U σ hv (qE r m Z) τv τd:=by
 have e:((eI m Z).take m).length=m:=by rw[Ce,jZ];lia
 have plain:av K n H U σ hv ((eI m Z).take m) τv τd:=I.Rk (c:=m) hm e λj γ h=>by
  obtain⟨a,b,c⟩:=Rm h;exact .inl ⟨by lia,b,c⟩
 unfold qE
 split
 ·next q hq=>
  split
  ·next c=>
   subst c;refine I.Rk (c:=r) hm (by rw[bN];exact e) λj γ h=> ?_;by_cases cj:r=j
   ·subst cj;rw[gK (by lia)]at h;have h:(aV Z q).map B.own=some γ:=hV h;obtain⟨d,h1,h2⟩:=aY.mp h;exact .inr ⟨rfl,d,h2.symm,h1,hq⟩
   ·rw[gq cj]at h;obtain⟨_,b,c⟩:=Rm h;exact .inl ⟨λz=>cj z.symm,b,c⟩
  ·exact plain
 ·exact plain
theorem av.Rn(I:av K n H U σ hv Z τv τd)(hm:n<=m)(ha:hv[m - n]?=some (some (.ref a)))(hd:aV Z m=some (.nd .lst cs)):
  m < Z.length/\(σ++hv)[m]?=some (some (.ref a))/\∃vs,H a=some (.lst vs)/\vs.length=cs.length:=by
 have nn:=I.nn;have hr:=kS hd;have em:(σ++hv)[m]?=some (some (.ref a)):=by rw[br (by lia),nn];exact ha
 obtain⟨v,F,ev,_,sv⟩:=I.slot hr;rw[em]at ev;cases ev;obtain⟨a',vs,e,_,hc,hl,_⟩:=(bg.vw sv).node;cases e;exact⟨(cX.mp hr).1,em,vs,hc.2,hl⟩
def k6(i m:Nat)(fb:En->Option Fl):Nat->Nat->En->Option Fl
 |0,j,Z=>match aV Z m with
  |some (.nd .lst cs)=>if cs.length<=j then some (.nx Z) else none
  |_=>none
 |k + 1,j,Z=>match aV Z m with
  |some (.nd .lst cs)=>if j < cs.length then(fb (bq i (.aB m [j]) Z)).bind λ
   |.nx ai=>k6 i m fb k (j + 1) ai
   |.ct ai=>k6 i m fb k (j + 1) ai
   |.bk ai=>some (.nx ai)
   |.rt d ai=>some (.rt d ai) else none
  |_=>none
theorem Ro{i m k:Nat}{fl:Fl}[L:jC i n][B':SS K n tb fb](I:av K n H U σ hv Z τv τd)(hm:n<=m)(ha:hv[m - n]?=some (some (.ref a)))
  (h:k6 i m fb k 0 Z=some fl) (hk:qu K n H U hv τv τd E fl):
  ∃W:Nat->Nat->L2.St->Hp->Prop,(∃m,W 0 m σ H)/\∀i' m' σ H,W i' m' σ H->
   ((u5 K a).stop i' H/\E.nx σ H)\/((u5 K a).go i' H/\∃N:L2.St->Hp->Prop,(∀aF H',N aF H'->∃m2,m2 < m'/\W (i' + 1) m2 aF H')/\∀x H',(u5 K a).s9 i' H x H'->lB i x σ H' λeY H2=>tb { E with nx:=N,ct:=N,bk:=E.nx } eY H2):=by
 refine⟨λj m' aF H'=>m'=k - j/\j<=k/\∃U' ρ',av K n H' U' aF hv ρ' τv τd/\bH U H U' H'/\k6 i m fb (k - j) j ρ'=some fl,⟨k,by simp,jO _,U,Z,I, .refl U H,h⟩, ?_⟩;rintro j m' aF H' ⟨rfl,hj,U',ρ',Ix,st,fo⟩;have hi:=L.h;by_cases dS:j < k
 ·right;obtain⟨t,ht⟩:∃t,k - j=t + 1:=⟨k - j - 1,by lia⟩
  rw[ht,k6]at fo
  split at fo
  ·next cs hd=>
   obtain⟨hr,em,vs,iV,hl⟩:=Ix.Rn hm ha hd
   split at fo
   ·next aby=>
    obtain⟨t6,b2,fo⟩:=ak.mp fo;refine⟨⟨vs,vs[j]'(by lia),cI.of iV,dH (by lia)⟩,λeY H2=>∃U2 ai,av K n H2 U2 eY hv ai τv τd/\bH U' H' U2 H2/\k6 i m fb t (j + 1) ai=some fl,λeY H2 ⟨U2,ai,a1,a2,a3⟩=>⟨k - (j + 1),by lia,rfl,by lia,U2,ai,a1,st.trans a2,by rw[show k - (j + 1)=t by lia];exact a3⟩,λx H2 y2=> ?_⟩;obtain⟨e,w2⟩:=y2;subst e;have hx:=w2 vs (cI.of iV);refine B'.s (Ix.named hi (β:= .aB m [j]) ⟨hr,by lia,_,em, .cons iV hx (.nil x)⟩) b2 ?_;cases t6 with
    |nx ai=>exact λgp H3 U3 I3 s3=>⟨U3,ai,I3,s3,fo⟩
    |ct ai=>exact λgp H3 U3 I3 s3=>⟨U3,ai,I3,s3,fo⟩
    |bk ai=>cases fo;exact λgp H3 U3 I3 s3=>hk gp H3 U3 I3 (st.trans s3)
    |rt d ai=>cases fo;exact λv gp H3 U3 I3 s3=>hk v gp H3 U3 I3 (st.trans s3)
   ·cases fo
  ·cases fo
 ·left;rw[show k - j=0 by lia,k6]at fo
  split at fo
  ·next cs hd=>
   obtain⟨hr,em,vs,iV,hl⟩:=Ix.Rn hm ha hd
   split at fo
   ·next aby=>
    cases fo;exact⟨⟨vs,cI.of iV,by lia⟩,hk aF H' U' Ix st⟩
   ·cases fo
  ·cases fo
def IJ(r m:Nat):Fl->Fl
 |.nx Z=> .nx (qE r m Z)
 |.rt d Z=> .rt d (qE r m Z)
 |.bk Z=> .bk (qE r m Z)
 |.ct Z=> .ct (qE r m Z)
theorem qu.close(hm:n + hv.length=m)(hr:r < n)(k:qu K n H U hv τv τd E (IJ r m fl)):qu K n H U (hv++ [some v]) τv τd E fl:=by
 have key:∀{aF H' U' ρ'} {IK:List V} {IL:List D},av K n H' U' aF (hv++ [some v]) ρ' IK IL->av K n H' U' aF hv (qE r m ρ') IK IL:=λ{aF H' U' ρ'} {IK IL} I=>I.cls (by
  have l:=I.len;have nn:=I.nn;rw[dg,pw]at l
  lia) (by lia)
 cases fl with
 |nx Z=>exact λaF H' U' I s=>k aF H' U' (key I) s
 |rt d Z=>exact λv aF H' U' I s=>k v aF H' U' (key I) s
 |bk Z=>exact λaF H' U' I s=>k aF H' U' (key I) s
 |ct Z=>exact λaF H' U' I s=>k aF H' U' (key I) s
def apX(n r i:Nat)(fb:En->Option Fl)(Z:En):Option Fl:=match Z[r]? with
 |some (some (.own (.nd .lst cs)))=>(k6 i Z.length fb cs.length 0 (aoP r (.nd .lst cs) Z)).map (IJ r Z.length)
 |some (some (.aB q []))=>if n<=q then match aV Z q with
  |some (.nd .lst cs)=>k6 i q fb cs.length 0 Z
  |_=>none
  else none
 |_=>(apH (aT r) Z).bind λds=>eB (λd Z=>some (bq i (.ro d) Z)) fb ds Z
instance (priority:=2000) axi{r i:Nat}{tb:TS}{fb:En->Option Fl}[R:jC r n][L:jC i n][B':SS K n tb fb]:SS K n (xv (vV K (f9 r)) (lB i) tb) (apX n r i fb):=⟨λ{σ hv H U Z τv τd fl E} I h k=>by
 unfold apX at h
 split at h
 ·next cs hs=>
  obtain⟨t6,h1,rfl⟩:=aY.mp h;obtain⟨v,ev,I2⟩:=I.auj hs R.h;have l:=I.len;have nn:=I.nn;obtain⟨v',F,ij,_,sv⟩:=I.slot hs;rw[aU (by have:=R.h;lia),ev]at ij;cases ij;obtain⟨a,vs,e,_,hc,hl,_⟩:=(bg.vw sv).node;cases e;refine⟨_,ev, .inl ⟨a,rfl,⟨vs,cI.of hc.2⟩, ?_⟩⟩;exact Ro I2 (by lia) (by rw[br (by lia),show Z.length - n - hv.length=0 by lia];rfl) h1 (qu.close (by lia) R.h k)
 ·next q hs=>
  split at h
  ·next hq=>
   split at h
   ·next cs hd=>
    have nn:=I.nn;obtain⟨v,F,ev,_,sv⟩:=I.slot hs;obtain⟨_,vr,er,hp⟩:=sv;cases hp;obtain⟨v',F',ij,_,aul⟩:=I.slot (kS hd);rw[er]at ij;cases ij;obtain⟨a,vs,e,_,hc,hl,_⟩:=(bg.vw aul).node;cases e;rw[aU (by have:=R.h;lia)]at ev;rw[br (by lia),nn]at er;exact⟨_,ev, .inl ⟨a,rfl,⟨vs,cI.of hc.2⟩,Ro I hq er h k⟩⟩
   ·cases h
  ·cases h
 ·exact(aaX (B':=B')).s I h k⟩
end
section
variable {K:ah}{n:Nat}{H H' H1 H2:Hp}{U U':Addr->Prop}{σ hv:List (Option V)}{Z ρ':En}{τv vs:List V}{τd ds:List D}{v y:V}{d:D}{N:Addr->Prop}
open Classical in
end
open PySem.W
section
variable {K:ah}{n:Nat}{H H' H1 H2:Hp}{U U':Addr->Prop}{σ hv:List (Option V)}{Z ρ':En}{τv vs:List V}{τd ds:List D}{d:D}{E:ke}
end
section
variable {K:ah}{n:Nat}{H H':Hp}
instance (priority:=4000) akX{i:Nat}[L:jC i n]:SS K n (qi (f9 i)) (jg (kr i)):=@aak K n _ _ aaj
variable {H1 H2:Hp}{U U':Addr->Prop}{σ hv:List (Option V)}{Z ρ':En}{τv vs:List V}{τd ds:List D}{v y:V}{d d1:D}{E:ke}
end
section
variable {K:ah}{n:Nat}{C:Addr}{m:Str}{E:XK}
end
theorem eW(h:f Z=some (d,ρ1))(e:bq i (.own d) ρ1=ai):dU i f Z=some (.nx ai):=by
 unfold dU;rw[h, <- e];rfl
theorem abC:fO Z (some (.aB r p))=if p= []\/((aV Z r).bind (aI · p)).isSome=true then some (.aB r p) else none:=rfl
theorem j7(h1:fa Z=some (a,ρ1))(h2:fb ρ1=some (b,ai))(h3:g a b=some d):hZ g fa fb Z=some (d,ai):=by
 unfold hZ;rw[h1];show(fb ρ1).bind _=_;rw[h2];show(g a b).map _=_;rw[h3];rfl
section
variable {K:ah}{n:Nat}
open Classical in
variable {H H' H1 H2:Hp}{U U':Addr->Prop}{σ hv:List (Option V)}{Z ρ':En}{τv vs:List V}{τd ds:List D}{v y:V}{d:D}
end
inductive Ex:Nat->D->Prop
 |int (n:Nat) (i:Int):Ex n (.sc (.int i))
 |str (n:Nat) (s:Str):oe s=true->Ex n (.sc (.str s))
 |aG (n:Nat):Ex n (.sc .aG)
 |tup (n:Nat) (cs:List D):(∀d∈cs,Ex n d)->Ex (n + 1) (.nd .tup cs)
 |lst (n:Nat) (cs:List D):(∀d∈cs,Ex n d)->Ex (n + 1) (.nd .lst cs)
theorem Rq(h:∀d∈cs,Gd n d):mz n cs:=mz.all h
theorem Ex.gd(h:Ex n d):Gd n d:=by
 induction h with
 |int n i=>exact(Gd.int i).mono (jO _)
 |str n s hs=>exact(Gd.str s hs).mono (jO _)
 |aG n=>exact⟨.none,by simp[cy],by simp[sO],by simp[sP],by simp[d9]⟩
 |tup n cs _ ih=>exact(Rq ih).tup
 |lst n cs _ ih=>exact(Rq ih).lst
theorem IQ:∀{cs ds:List D} {xs ys:List PyData},(∀d∈cs,∀(b:D) (x y:PyData),b∈ds->cy d=some x->cy b=some y->d9 x y=true->d=b)->ky cs=some xs->ky ds=some ys->zu xs ys=true->cs=ds
 | [], [],_,_,_,_,_,_=>rfl
 | [],d::ds,xs,ys,_,h1,h2,h=>by
  simp only[ky,aiH]at h1;rw[ky]at h2;subst h1;obtain⟨y,_,h2⟩:=ak.mp h2;obtain⟨Rr,_,rfl⟩:=aY.mp h2;simp[zu]at h
 |c::cs, [],xs,ys,_,h1,h2,h=>by
  simp only[ky,aiH]at h2;rw[ky]at h1;subst h2;obtain⟨y,_,h1⟩:=ak.mp h1;obtain⟨Rr,_,rfl⟩:=aY.mp h1;simp[zu]at h
 |c::cs,d::ds,xs,ys,hk,h1,h2,h=>by
  rw[ky]at h1 h2;obtain⟨x,a1,h1⟩:=ak.mp h1;obtain⟨ak1,a2,rfl⟩:=aY.mp h1;obtain⟨y,b1,h2⟩:=ak.mp h2;obtain⟨Rr,b2,rfl⟩:=aY.mp h2;rw[zu,kM]at h;rw[hk c (.head _) d x y (.head _) a1 b1 h.1,IQ (λe he b x y hb=>hk e (.tail _ he) b x y (.tail _ hb)) a2 b2 h.2]
theorem Ex.eqv(ha:Ex n a):∀{m:Nat} {b:D} {x y:PyData},Ex m b->cy a=some x->cy b=some y->d9 x y=true->a=b:=by
 induction ha with
 |int n i=>
  intro m b x y hb h1 h2 h;rw[cy]at h1;cases h1;cases hb with
  |int n j=>rw[cy]at h2;cases h2;simp[d9]at h;rw[h]
  |str n s hs=>rw[cy]at h2;cases h2;simp[d9]at h
  |aG n=>rw[cy]at h2;cases h2;simp[d9]at h
  |tup n cs hc=>rw[cy]at h2;obtain⟨ys,_,rfl⟩:=aY.mp h2;simp[d9]at h
  |lst n cs hc=>rw[cy]at h2;obtain⟨ys,_,rfl⟩:=aY.mp h2;simp[d9]at h
 |str n s hs=>
  intro m b x y hb h1 h2 h;rw[cy]at h1;cases h1;cases hb with
  |int n j=>rw[cy]at h2;cases h2;simp[d9]at h
  |str n s hs=>rw[cy]at h2;cases h2;simp[d9]at h;rw[h]
  |aG n=>rw[cy]at h2;cases h2;simp[d9]at h
  |tup n cs hc=>rw[cy]at h2;obtain⟨ys,_,rfl⟩:=aY.mp h2;simp[d9]at h
  |lst n cs hc=>rw[cy]at h2;obtain⟨ys,_,rfl⟩:=aY.mp h2;simp[d9]at h
 |aG n=>
  intro m b x y hb h1 h2 h;rw[cy]at h1;cases h1;cases hb with
  |int n j=>rw[cy]at h2;cases h2;simp[d9]at h
  |str n s hs=>rw[cy]at h2;cases h2;simp[d9]at h
  |aG n=>rfl
  |tup n cs hc=>rw[cy]at h2;obtain⟨ys,_,rfl⟩:=aY.mp h2;simp[d9]at h
  |lst n cs hc=>rw[cy]at h2;obtain⟨ys,_,rfl⟩:=aY.mp h2;simp[d9]at h
 |tup n cs _ ih=>
  intro m b x y hb h1 h2 h;rw[cy]at h1;obtain⟨xs,g1,rfl⟩:=aY.mp h1;cases hb with
  |int n j=>rw[cy]at h2;cases h2;simp[d9]at h
  |str n s hs=>rw[cy]at h2;cases h2;simp[d9]at h
  |aG n=>rw[cy]at h2;cases h2;simp[d9]at h
  |tup n ds hc=>
   rw[cy]at h2;obtain⟨ys,g2,rfl⟩:=aY.mp h2;rw[d9]at h;rw[IQ (λd hd b x y hb=>ih d hd (hc b hb)) g1 g2 h]
  |lst n ds hc=>rw[cy]at h2;obtain⟨ys,_,rfl⟩:=aY.mp h2;simp[d9]at h
 |lst n cs _ ih=>
  intro m b x y hb h1 h2 h;rw[cy]at h1;obtain⟨xs,g1,rfl⟩:=aY.mp h1;cases hb with
  |int n j=>rw[cy]at h2;cases h2;simp[d9]at h
  |str n s hs=>rw[cy]at h2;cases h2;simp[d9]at h
  |aG n=>rw[cy]at h2;cases h2;simp[d9]at h
  |lst n ds hc=>
   rw[cy]at h2;obtain⟨ys,g2,rfl⟩:=aY.mp h2;rw[d9]at h;rw[IQ (λd hd b x y hb=>ih d hd (hc b hb)) g1 g2 h]
  |tup n ds hc=>rw[cy]at h2;obtain⟨ys,_,rfl⟩:=aY.mp h2;simp[d9]at h
theorem Ex.eq(ha:Ex n a)(hb:Ex m b)(hn:n<=60)(hm:m<=60)(g:Bool->Bool):∃c:Bool,(c=true↔a=b)/\dN g a b=some (.sc (.bl (g c))):=by
 obtain⟨x,x1,x2,x3,x4⟩:=ha.gd;obtain⟨y,y1,y2,y3,y4⟩:=hb.gd;refine⟨d9 x y,⟨ha.eqv hb x1 y1,λe=> ?_⟩, ?_⟩
 ·subst e;rw[x1]at y1;cases y1;exact x4
 ·unfold dN;rw[x1,y1];show(if _ then _ else _)=_;rw[if_pos ⟨x2,y2,by lia⟩]
section
variable {σ:L2.St}{H:Hp}{a:Addr}
theorem Inv.freeze(I:L2.Inv X ab σ H s)(e:H a=some (.lst xs)):∃o,L2.Inv X ab σ (upd H a (.b9 o (.lst xs))) s:=by
 have aQ:=I.aQ a _ e;obtain⟨z,its,n,r,ho⟩:=(show gr X.prog X.w H s.heap a (.lst xs) from aQ)
 refine⟨{ cls:= .type "list",data:= .seq its.toArray n }, ?_⟩;have ne:∀{b:Addr} {u:HO},H b=some u->(∀ys,u≠ .lst ys)->b≠a:=λ{b u} hb hu z=>by
  subst z;rw[e]at hb;cases hb;exact hu _ rfl
 have step:=I.step (h':=s.heap) (H':=upd H a (.b9 { cls:= .type "list",data:= .seq its.toArray n } (.lst xs))) (g':=s.gens) (t':=s.toks) (d':=s.drawn) (ch:= []) (λ_ z=>nomatch z)
  (λb o _ _ _ h _=>h) (λb o _ _ _ h _=>⟨o.slots,h⟩) (λb o _ _ hn=>by rw[ba λz=>by rw[z,e]at hn;cases hn];exact hn) (λb o _ h=>⟨o,h⟩)
  (λb ys h=>by rw[ba (ne h λ_ z=>nomatch z)];exact h) (λb o u h=>by rw[ba (ne h λ_ z=>nomatch z)];exact h) (λb ps h=>⟨#[],by rw[ba (ne h λ_ z=>nomatch z),Wa];exact h⟩) (λm h=>h)
  (λb u hb=>by
   by_cases c:b=a
   ·subst c;rw[de]at hb;cases hb;exact⟨ho,z,its,n,r,ho⟩
   ·rw[ba c]at hb;exact(I.aQ b u hb).gO (λ_ _ _ h=>h) (λd h=>by rw[ba (ne h λ_ z=>nomatch z)];exact h) λd ys h=>by rw[ba (ne h λ_ z=>nomatch z)];exact h) I.bare
 exact step
def ar2(t:TE):TE:=λσ H Q=>t σ H λv H'=>(∃a xs,v= .ref a/\H' a=some (.lst xs)/\∀o,Q v (upd H' a (.b9 o (.lst xs))))\/Q v H'
theorem apY(he:PE X e t):PE X e (ar2 t):=by
 intro ab s σ H Q I h;refine bh (he ab s σ H _ I h) λu s' ⟨v,H',I',r,q⟩=> ?_;rcases q with⟨a,xs,rfl,e,q⟩ | q
 ·obtain⟨o,I2⟩:=VL.Inv.freeze I' e;exact⟨_,_,I2,r,q o⟩
 ·exact⟨_,_,I',r,q⟩
end
section
variable {K:ah}{H H':Hp}{U:Addr->Prop}{m:Nat}{e:List (Option V)}{Z:En}
theorem gU.b9{a:Addr}{xs:List V}(ha:H a=some (.lst xs))(h:gU H v p u):gU (upd H a (.b9 o (.lst xs))) v p u:=by
 induction h with
 |nil v=>exact .nil v
 | @cons b ob n c u p e1 e2 _ ih=>
  by_cases z:b=a
  ·subst z;rw[ha]at e1;cases e1;exact .cons de e2 ih
  ·exact .cons (by rw[ba z];exact e1) e2 ih
theorem bT.freeze(h:bT K H U m e Z)(hj:Z[j]?=some (some (.own (.nd .lst cs))))(p:bI cs=true):
  ∃a vs,e[j]?=some (some (.ref a))/\H a=some (.lst vs)/\U a/\∀o,bT K (upd H a (.b9 o (.lst vs))) (λb=>U b/\b≠a) m e (Z.set j (some (.own (.nd .dA cs)))):=by
 obtain⟨hl,mu,Fs,dj,sub,sl⟩:=h;obtain⟨v,ev,sv⟩:=sl j _ hj;have abE:j < Z.length:=(cX.mp hj).1;have sv:bg K H (Fs j) v (.nd .lst cs):=sv;have vw:=sv.vw;cases sv with
 | @nd _ a _ vs _ ak2 hold dw ak3 ak4 bB=>
  obtain⟨Fa,_,_,dx,ha⟩:=hold;have ha:H a=some (.lst vs):=ha;refine⟨a,vs,ev,ha,sub j a Fa,λo=> ?_⟩;have st:gu H (upd H a (.b9 o (.lst vs))):=vP (by rw[ha];trivial);refine⟨by rw[bN];exact hl,λb hb=>by rw[ba hb.2];exact mu b hb.1,λi b=>Fs i b/\b≠a,λi k b hi hk=>dj i k b hi.1 hk.1,λi b hb=>⟨sub i b hb.1,hb.2⟩,λi β aw=> ?_⟩;by_cases c:j=i
  ·subst c;rw[gK abE]at aw;cases aw;refine⟨_,ev, .nd (λ_ _=>False) ⟨p, .inl ⟨o,de⟩⟩ dw (λ_ _ _ z=>z.elim) (λ_ _ z=>z.elim) λi u d hu hd=> ?_⟩;exact((bB i u d hu hd).vw.plain (xW p hd)).frame (λ_ _ z=>z.elim) st
  ·rw[gq c]at aw;obtain⟨w,ew,sw⟩:=sl i β aw;refine⟨w,ew, ?_⟩;have na:∀b,Fs i b->b≠a:=λb z y=>c (dj j i a Fa (by rw[<- y];exact z));cases β with
   |own d=>
    have sw:bg K H (Fs i) w d:=sw;exact(sw.frame (λb ob z q=>by rw[ba (na b z)];exact q) st).mono λb z=>⟨z,na b z⟩
   |ro d=>
    have sw:Vw K H (λb=>¬ U b) w d:=sw;exact(sw.frame (λb ob z q=>by rw[ba λy=>z (by rw[y];exact sub j a Fa)];exact q) st).mono λb z y=>z y.1
   |aB r q=>
    obtain⟨x,vr,er,hp⟩:=sw;exact⟨x,vr,er,gU.b9 ha hp⟩
end
section
variable {K:ah}{n:Nat}
def Eg:D->D
 |.nd .lst cs=>if bI cs=true then .nd .dA cs else .nd .lst cs
 |d=>d
def aod(f:En->Option (D×En))(Z:En):Option (D×En):=(f Z).map λr=>(Eg r.1,r.2)
instance axj[A:SM K n t f]:SM K n (ar2 t) (aod f):=⟨λ{σ hv H U Z ρ' τv τd d Q} I h k=>by
 obtain⟨⟨d1,ρ1⟩,h1,h2⟩:=aY.mp h;cases h2;refine A.s I h1 λv H1 U1 I1 bQ=> ?_;by_cases c:∃cs,d1= .nd .lst cs/\bI cs=true
 ·obtain⟨cs,rfl,p⟩:=c
  left;have e:Eg (.nd .lst cs)= .nd .dA cs:=if_pos p;have k:∀v H' U',av K n H' U' σ hv ρ1 (τv++ [v]) (τd++ [.nd .dA cs])->bH U H U' H'->Q v H':=λv H' U'=>by
   have:=k v H' U';rw[show Eg (D.nd .lst cs)= .nd .dA cs from e]at this;exact this
  have tl:=I1.tl;have hj:(ρ1++(τd++ [D.nd .lst cs]).map λd=>some (B.own d))[ρ1.length + τd.length]?=some (some (.own (.nd .lst cs))):=by
   rw[br (by lia)];simp
  obtain⟨a,vs,ev,ha,ua,ok⟩:=bT.freeze I1.ok hj p;have l1:=I1.len;have axk:τv.length=τd.length:=by simpa using tl
  have d5:v= .ref a:=by
   rw[br (by simp;lia)]at ev;simp only[cK,cP,jQ,dg]at ev;rw[show ρ1.length + τd.length - (σ.length + hv.length)=(τv.map some).length by rw[eG];lia,br (bO _)]at ev;simpa using ev
  subst d5;refine⟨a,vs,rfl,ha,λo=> ?_⟩;refine k _ _ (λb=>U1 b/\b≠a) ⟨?_,l1,I1.nn⟩ (bQ.trans λb ob hb nu=> ?_)
  ·have:=ok o;rw[show(ρ1++(τd++ [D.nd .lst cs]).map λd=>some (B.own d)).set (ρ1.length + τd.length) (some (.own (.nd .dA cs)))=ρ1++(τd++ [D.nd .dA cs]).map λd=>some (B.own d) by
    rw[Wb _ _ (by lia),cK,cK,Wb _ _ (by simp)];simp]at this
   exact this
  ·exact⟨by rw[ba λz=>nu (by rw[z];exact ua)];exact hb,λz=>nu z.1⟩
 ·right;have e:Eg d1=d1:=by
   unfold Eg
   split
   ·next cs=>exact if_neg λp=>c ⟨cs,rfl,p⟩
   ·rfl
  exact k v H1 U1 (by rw[show Eg (d1,ρ1).1=d1 from e];exact I1) bQ⟩
end
section
variable {K:ah}
end
section
variable {K:ah}{n:Nat}
variable {H H' H1 H2:Hp}{U U':Addr->Prop}{σ hv:List (Option V)}{Z ρ':En}{τv vs:List V}{τd ds:List D}{v y:V}{d:D}{E:ke}
end
section
variable {K:ah}{n:Nat}{H H' H1 H2:Hp}{U U':Addr->Prop}{σ hv:List (Option V)}{Z ρ':En}{τv vs:List V}{τd ds:List D}{v y x o u:V}{d d0 d':D}
theorem Vw.aum(w:Vw K H T1 v d)(pl:VL.plain d=true)(st:gu H H'):Vw K H' T1 v d:=((w.plain pl).frame (λ_ _ z=>z.elim) st).vw
end
section
theorem Inv.Ed(I:L2.Inv X ab σ H s)(e:H a=some (.dK aa)):∃o,L2.Inv X ab σ (upd H a (.b9 o (.dK aa))) s/\∀o' u,X.sS a≠some (.b9 o' u):=by
 obtain⟨z,hd,vs,bG,o,es,ep,ho,rest⟩:=C8 I.aQ e;have nf:∀o' u,X.sS a≠some (.b9 o' u):=λo' u q=>by
  have:=I.base.l7 a o' u q;rw[e]at this;cases this
 refine⟨o, ?_,nf⟩;have ne:∀{b:Addr} {u:HO},H b=some u->(∀ys,u≠ .dK ys)->b≠a:=λ{b u} hb hu z=>by
  subst z;rw[e]at hb;cases hb;exact hu _ rfl
 have step:=I.step (H':=upd H a (.b9 o (.dK aa))) (g':=s.gens) (t':=s.toks) (d':=s.drawn) (ch:= []) (λ_ z=>nomatch z)
  (λb o _ _ _ h _=>h) (λb o _ _ _ h _=>⟨o.slots,h⟩) (λb o _ _ hn=>by rw[ba λz=>by rw[z,e]at hn;cases hn];exact hn) (λb o _ h=>⟨o,h⟩)
  (λb ys h=>by rw[ba (ne h λ_ z=>nomatch z)];exact h) (λb o u h=>by rw[ba (ne h λ_ z=>nomatch z)];exact h) (λb ps h=>⟨#[],by rw[ba (ne h λ_ z=>nomatch z),Wa];exact h⟩) (λm h=>h)
  (λb u hb=>by
   by_cases c:b=a
   ·subst c;rw[de]at hb;cases hb;exact⟨ho,z,hd,vs,bG,o,es,ep,ho,rest⟩
   ·rw[ba c]at hb;exact(I.aQ b u hb).gO (λ_ _ _ h=>h) (λd h=>by rw[ba (ne h λ_ z=>nomatch z)];exact h) λd ys h=>by rw[ba (ne h λ_ z=>nomatch z)];exact h) I.bare
 exact step
theorem Inv.A5(I:L2.Inv X ab σ H s)(e:H a=some (.b9 o (.dK aa)))(nf:∀o' u,X.sS a≠some (.b9 o' u)):L2.Inv X ab σ (upd H a (.dK aa)) s:=by
 have ne:∀{b:Addr} {u:HO},H b=some u->(∀o ys,u≠ .b9 o ys)->b≠a:=λ{b u} hb hu z=>by
  subst z;rw[e]at hb;cases hb;exact hu _ _ rfl
 have nn:∀{b:Addr},H b=none->b≠a:=λ{b} hb z=>by subst z;rw[e]at hb;cases hb
 refine⟨I.ok,I.os,I.bare,⟨I.base.keep,I.base.slot,λb ob q n hx=> ?_,I.base.there,λb xs q=> ?_,λb ob u q=> ?_,λb ps q=> ?_⟩,I.loc,I.cell, ?_,λx c q=> ?_,λp hp=> ?_,λb u hb=> ?_,I.len⟩
 ·have:=I.base.free b ob q n hx;rw[ba (nn this)];exact this
 ·have:=I.base.mL b xs q;rw[ba (ne this λ_ _ z=>nomatch z)];exact this
 ·have h:=I.base.l7 b ob u q;rw[ba λz=>nf ob u (by rw[<- z];exact q)];exact h
 ·obtain⟨more,h⟩:=I.base.qd b ps q;exact⟨more,by rw[ba (ne h λ_ _ z=>nomatch z)];exact h⟩
 ·rw[ba (nn I.free)];exact I.free
 ·have:=I.nY x c q;rw[ba (nn this)];exact this
 ·obtain⟨h1,h2,h3⟩:=I.pin p hp;exact⟨h1,by rw[ba (nn h2)];exact h2,h3⟩
 ·by_cases c:b=a
  ·subst c;rw[de]at hb;cases hb;exact(I.aQ b _ e).2
  ·rw[ba c]at hb;exact(I.aQ b u hb).gO (λ_ _ _ h=>h) (λd h=>by rw[ba (ne h λ_ _ z=>nomatch z)];exact h) λd ys h=>by rw[ba (ne h λ_ _ z=>nomatch z)];exact h
end
theorem Ef{X:Cx}{ab:List (Addr×Obj)}{σ:L2.St}{H:Hp}{s:Shared}{a:Addr}{aa:List (bc×V)}(I:L2.Inv X ab σ H s)(e:H a=some (.b9 o (.dK aa)))(he:∃es,o.data= .dict es ep):∃vs,KV aa vs/\s.heap.DictAt (gL X.prog X.w) a vs ep:=by
 obtain⟨hg,z,hd,vs,bG,o',sU,CA,jS,ex,ui,rest⟩:=(show gr X.prog X.w H s.heap a (.b9 o (.dK aa)) from I.aQ a _ e)
 rw[hg]at jS;cases jS;obtain⟨es,he⟩:=he;rw[ui]at he;cases he;exact⟨vs,bG,o,_,hg,ex,ui,rest⟩
section
variable {K:ah}{H H':Hp}{F N U:Addr->Prop}{a:Addr}{o:Obj}{aa:List (bc×V)}{m:Nat}{e:List (Option V)}{Z:En}
theorem iT.upd(z:b≠a)(h:iT K H b k vs):iT K (upd H a u) b k vs:=by
 obtain⟨h1,h⟩:=h;refine⟨h1, ?_⟩;cases k with
 |tup=>exact(ba z).trans h
 |dA=>exact h.elim (λ⟨o,e⟩=> .inl ⟨o,(ba z).trans e⟩) .inr
 |lst=>exact(ba z).trans h
 |aO ks=>exact h.elim (λe=> .inl ((ba z).trans e)) λ⟨o,e⟩=> .inr ⟨o,(ba z).trans e⟩
 |lM ks=>exact h.elim (λe=> .inl ((ba z).trans e)) λ⟨o,e⟩=> .inr ⟨o,(ba z).trans e⟩
 |obj C ns=>obtain⟨dx,e⟩:=h;exact⟨dx,(ba z).trans e⟩
end
section
variable {K:ah}{n:Nat}{H H' H1 H2:Hp}{U U':Addr->Prop}{σ hv:List (Option V)}{Z ρ':En}{τv vs:List V}{τd ds:List D}{v y:V}{d:D}{E:ke}{a:Addr}{o:Obj}
open Classical in
end
section
variable {K:ah}{n:Nat}{H H' H1 H2:Hp}{U U':Addr->Prop}{σ hv:List (Option V)}{Z ρ':En}{τv vs:List V}{τd ds:List D}{d:D}{E:ke}{a:Addr}{o:Obj}
end
section
variable {K:ah}
variable {n:Nat}{H H' H1 H2:Hp}{U U':Addr->Prop}{σ hv:List (Option V)}{Z ρ':En}{τv vs:List V}{τd ds:List D}{v y:V}{d:D}{E:XK}
end
section
variable {K:ah}{n:Nat}{H H' H1 H2:Hp}{U U':Addr->Prop}{σ hv:List (Option V)}{Z ρ':En}{τv vs:List V}{τd ds:List D}{d:D}{E:XK}
end
section
variable {K:ah}{n:Nat}{H H' H1 H2:Hp}{U U':Addr->Prop}{σ hv:List (Option V)}{Z ρ':En}{τv vs:List V}{τd ds:List D}{d:D}
end
theorem pxx{K:ah}{pos:Pos}(hr:gf k X.A)(ha:PE X a ta)(hb:PE X b tb)(hs:CZ b:=by exact λ_ _=>rfl)(hK:X.K=K:=by rfl):PE X (.Subscript a b pos) (ig (DW K) ta tb):=hK▸xE (QP (cR hr)) ha hb hs
theorem d8{N P:List Str}(a:sc.kind= .function:=by rfl)(b:sc.isCoroutine=false:=by rfl)(c:sc.isGenerator=false:=by rfl)(d:N.Nodup:=by decide +kernel)(e:N.take P.length=P:=by rfl)(f:∀x∈P,sc.names.lookup x=some .local\/sc.names.lookup x=some .cell:=by decide +kernel)(g:∀y∈sc.names,y.2≠ .free:=by decide +kernel):dr N P sc:=⟨a,b,c,d,e,f,g⟩
theorem iy{P:Program}{w:World}{K:ah}{mg:Str->Option Value}{base:Heap}{x q:Str}{st:Stmt}{f:Addr}{fd:kK}{N ps:List Str}{k n m:Nat}{t:TS}{g:En->Option Fl}(F:cY K x q st f fd)(S:dr N ps (cb st))(h:∀dB A outer s H E,gf k (A.deeper (envOfC q (cb st) s.heap.objs.size f dB))->jc (rj cG P w K mg base N q (cb st) f dB A outer s H E).ve (mS st) t)[I:SS K n t g](hn:N.length=n:=by rfl)(hm:ps.length=m:=by rfl)(hl:m<=n:=by decide):bZ P w K mg base cG (k + 1) f fd ps (ee K m (bV n g)):=by
 subst hn;subst hm;exact F.ok S (λvs H Q E h=>Q7 h) λdB A outer s H vs Q E hr q=>⟨t,h dB A outer s H E hr,Qx q hl⟩
theorem k7{P:Program}{w:World}{K:ah}{mg:Str->Option Value}{base:Heap}{x q:Str}{st:Stmt}{f:Addr}{fd:kK}{N ps:List Str}{k n:Nat}{mk:List Bool}{t:TS}{g:En->Option Fl}(F:cY K x q st f fd)(S:dr N ps (cb st))(h:∀dB A outer s H E,gf k (A.deeper (envOfC q (cb st) s.heap.objs.size f dB))->jc (rj cG P w K mg base N q (cb st) f dB A outer s H E).ve (mS st) t)[I:SS K n t g](hn:N.length=n:=by rfl)(hm:ps.length=mk.length:=by rfl)(hl:mk.length<=n:=by decide):bZ P w K mg base cG (k + 1) f fd ps (dW K mk (dG n mk g)):=by
 subst hn;exact F.ok S (λvs H Q E h=>h.1.trans hm.symm) λdB A outer s H vs Q E hr q=>⟨t,h dB A outer s H E hr,aao q hl⟩
abbrev oG(K:ah)(C:Addr)[eQ K C]:=En->Option Fl
section
variable {X:Cx}{K:ah}{a b e o:Expr}{ta tb te:TE}{p pos pos':Pos}{x f:Str}
theorem fF(hK:X.K=K:=by rfl):cu X (binaryOp .Add) (AZ K):=hK▸aaL
theorem fX(hu:X.A.units + 64 < cLine)(hK:X.K=K:=by rfl):cu X (compareOp .Eq) (ye K):=hK▸DS hu
theorem one(hu:X.A.units + 64 < cLine)(hK:X.K=K:=by rfl):cu X (compareOp .NotEq) (AW K):=hK▸Ig hu
theorem aun(hu:X.A.units + 1 < cLine)(hK:X.K=K:=by rfl):cu X (compareOp .In) (Ij K):=hK▸aaI hu
theorem lV{tg:Expr}(hl:PE X a ta)(hK:X.K=K:=by rfl):PI X tg a (vV K ta):=hK▸QZ hl
theorem IW(ha:PE X o ta)(hv:PE X a tb)(hs:wQ a (some (.Attribute o f pos')) pos.line X.env=pure false:=by rfl)(hK:X.K=K:=by rfl):PS X (.Assign [.Attribute o f pos'] a pos) (Gv K ta tb f):=hK▸Xp ha hv hs
theorem fY(he:PE X e ta)(hK:X.K=K:=by rfl)(hb:attributeBase e f X.env (eval e X.env)=eval e X.env:=by rfl):PE X (.Attribute e f pos) (Ag K ta f):=aba hK he hb
theorem cJ(h:PE X a ta)(hs:dz [a] X.env=(false,eval a X.env)::dz [] X.env:=by rfl):PA X [a] (di ta fz):=fJ h gk (hs:=hs)
theorem a9(h:PE X a ta)(h2:PE X b tb)(hs:dz [a,b] X.env=(false,eval a X.env)::dz [b] X.env:=by rfl)(ht:dz [b] X.env=(false,eval b X.env)::dz [] X.env:=by rfl):PA X [a,b] (di ta (di tb fz)):=fJ h (fJ h2 gk (hs:=ht)) (hs:=hs)
theorem bu(h:PE X a ta):jc X [.Return (some a) pos] (qi ta):=dY (vf h)
theorem d6(ho:cu X (compareOp op) r)(ha:PE X a ta)(hb:PE X b tb)(hm:B3 op b=false:=by exact rg _):PT X (.Compare a [op] [b] pos) (ahc (ig r ta tb)):=iM ho ha hb hm
theorem A6(ho:cu X (compareOp op) r)(ha:PE X a ta)(hb:PE X b tb)(hm:B3 op b=false:=by exact rg _):PE X (.Compare a [op] [b] pos) (ig r ta tb):=jd ho ha hb hm
theorem iG(i:Nat)(hN:X.N.Nodup)(hi:X.N[i]?=some x:=by rfl)(hx:Loc X.env.scope x:=by first | exact .inl rfl | exact .inr rfl)(hf:X.fn x=true\/X.env.scope.names.lookup x=some .local:=by first | exact .inl rfl | exact .inr rfl):PG X (.Name x pos) (lB i):=Gb hN hi hx hf
theorem bX(i:Nat)(hN:X.N.Nodup)(he:PE X e te)(hi:X.N[i]?=some x:=by rfl)(hx:Loc X.env.scope x:=by first | exact .inl rfl | exact .inr rfl)(hs:wQ e (some (.Name x pos')) pos.line X.env=pure false:=by rfl)(hf:X.fn x=true\/X.env.scope.names.lookup x=some .local:=by first | exact .inl rfl | exact .inr rfl):PS X (.Assign [.Name x pos'] e pos) (vh te (lB i)):=WL hN hi hx he hs hf
theorem pln(hm:X.mg "len"=none)(ha:PE X a ta)(hg:Gl X "len":=by rfl)(hK:X.K=K:=by rfl)(he:dz [a] X.env=(false,eval a X.env)::dz [] X.env:=by rfl):PE X (.Call (.Name "len" p) [a] [] pos) (jU (vT K) (di ta fz)):=hK▸fK Il hg hm PySem.boot_len (fJ ha gk (hs:=he)) (he:=he)
theorem Sz(hm:X.mg "tuple"=none)(ha:PE X a ta)(hg:Gl X "tuple":=by rfl)(hK:X.K=K:=by rfl)(he:dz [a] X.env=(false,eval a X.env)::dz [] X.env:=by rfl):PE X (.Call (.Name "tuple" p) [a] [] pos) (jU (NM K) (di ta fz)):=hK▸oh arN hg hm aox (fJ ha gk (hs:=he)) (he:=he)
theorem aoQ(hm:X.mg "list"=none)(ha:PE X a ta)(hg:Gl X "list":=by rfl)(hK:X.K=K:=by rfl)(he:dz [a] X.env=(false,eval a X.env)::dz [] X.env:=by rfl):PE X (.Call (.Name "list" p) [a] [] pos) (jU (apG K) (di ta fz)):=hK▸oh atP hg hm uX (fJ ha gk (hs:=he)) (he:=he)
theorem abN(ho:PE X o ta)(hK:X.K=K:=by rfl)(hb:attributeBase o "pop" X.env (eval o X.env)=eval o X.env:=by rfl)(hl:(p.endLine == pos.line)=true:=by rfl):PE X (.Call (.Attribute o "pop" p) [] [] pos) (GJ K "list" GQ ta):=hK▸X5 Wd PySem.F.slot_list_pop PySem.F.type_list_pop Yf ho hb hl
theorem zc(ho:PE X o ta)(ha:PE X a tb)(hK:X.K=K:=by rfl)(hb:attributeBase o "append" X.env (eval o X.env)=eval o X.env:=by rfl)
  (hf:((backTo pos (dz [a] X.env)).all (λx=> !x.1) && (B7 pos (B8 [] X.env)).all (λx=>x.1.isSome)
   && decide ([a].length + ([]:List Keyword).length + (if([]:List Keyword).isEmpty then 0 else 1) < 30))=true:=by rfl) (hl:(p.endLine == pos.line)=true:=by rfl) (hs:dz [a] X.env=(false,eval a X.env)::dz [] X.env:=by rfl):PE X (.Call (.Attribute o "append" p) [a] [] pos) (vy K "list" C1 ta (di tb fz)):=hK▸GK Wd PySem.F.slot_list_append PySem.F.type_list_append Yc ho (fJ ha gk (hs:=hs)) hb hf hl hs
end
section
variable {K:ah}{n:Nat}{H H' H1 H2:Hp}{U U':Addr->Prop}{σ hv:List (Option V)}{Z ρ':En}{τv vs:List V}{τd ds:List D}{v y:V}{d:D}{E:ke}{N:Addr->Prop}
end
end VL
namespace L2
open PySem PySem.Spec PyProof.Rows
section
end
end L2
namespace VL
open PySem PySem.Spec PyProof.Rows L2
section
variable {K:ah}{n:Nat}{H H' H1 H2:Hp}{U U':Addr->Prop}{σ hv:List (Option V)}{Z ρ':En}{τv vs:List V}{τd ds:List D}{v y:V}{d e:D}{N:Addr->Prop}
end
end VL
namespace L2
open PySem PySem.Spec PyProof.Rows
section
variable {prog:Program}{w:World}{K:Type}[DecidableEq K]{knd:HeapKind prog w K}{A:Around}{s:Shared}
end
section
end
end L2
namespace VL
open PySem PySem.Spec PyProof.Rows L2
section
variable {K:ah}{n:Nat}{H H' H1 H2:Hp}{U U':Addr->Prop}{σ hv:List (Option V)}{Z ρ':En}{τv vs:List V}{τd ds:List D}{v y x o u:V}{d d0 d':D}
end
section
variable {K:ah}{n:Nat}{H H' H1 H2:Hp}{U U':Addr->Prop}{σ hv:List (Option V)}{Z ρ':En}{τv vs:List V}{τd ds:List D}{v y:V}{d:D}
end
section
variable {X:Cx}{K:ah}
end
section
variable {K:ah}{n:Nat}{H H' H1 H2:Hp}{U U':Addr->Prop}{σ hv:List (Option V)}{Z ρ':En}{τv vs:List V}{τd ds:List D}{v y:V}{d:D}
end
section
variable {K:ah}{n:Nat}{H H' H1 H2:Hp}{v:V}
theorem cA.items(o:cA K H H1 v (.nd .lst cs)):∃a vs,v= .ref a/\H1 a=some (.lst vs)/\jG K H H1 vs cs:=by
 obtain⟨G,r,fr⟩:=o;cases r with
 | @nd _ a _ vs _ Fs hold dw dj sub bB=>
  obtain⟨_,_,_,dx,ha⟩:=hold;exact⟨a,vs,rfl,ha,dw,Fs,dj,λi b z=>fr b (sub i b z).1,bB⟩
noncomputable def apZ (f:En->Option D) (Z:En):Option D:=(f Z).bind λ
 |.nd .lst cs=>some (.nd .tup cs)
 |_=>none
instance (priority:=3000) axl{wi:TI}{g:TG}{tt:TT}{te:TE}{js:List (Option Nat)}{f:En->Option D}[A:SF K n (xH wi g tt te js) f]:SF K n (jU (NM K) (di (xH wi g tt te js) fz)) (apZ f):=⟨λ{σ hv H U Z τv τd d Q} I h k=>by
 obtain⟨d1,h1,h2⟩:=ak.mp h
 split at h2
 ·next cs=>
  cases h2;refine A.s I h1 λv H1 s1 o=> ?_;obtain⟨a,vs,rfl,ha,ol⟩:=o.items;exact⟨a,vs,rfl, .inl ⟨cI.of ha,λl hl=>k _ _ (s1.trans (fE hl _)) (ol.node (k:= .tup) s1 hl (.inl ⟨rfl,rfl⟩))⟩⟩
 ·cases h2⟩
end
section
variable {K:ah}
end
section
variable {K:ah}{n m:Nat}{H H' H1 H2:Hp}{U U' F N:Addr->Prop}{σ hv e:List (Option V)}{Z ρ':En}{τv vs:List V}{τd ds:List D}{v y:V}{d:D}{E:ke}{a:Addr}{o:Obj}{aa:List (bc×V)}
theorem Vw.abQ(h:Vw K H N v d)(ha:H a=some (.b9 o (.dK aa))):Vw K (L2.upd H a (.dK aa)) N v d:=by
 induction h with
 |sc=>exact .sc _
 |hl=>exact .hl _
 | @nd b k vs cs h1 h2 h3 _ ih=>
  refine .nd h1 ?_ h3 ih;by_cases z:b=a
  ·subst z;obtain⟨hf,hc⟩:=h2;refine⟨hf, ?_⟩;cases k with
   |tup=>have hc:=hc;rw[ha]at hc;cases hc
   |dA=>
    rcases hc with⟨o,e⟩ | e
    ·rw[ha]at e;cases e
    ·exact .inr e
   |lst=>have hc:=hc;rw[ha]at hc;cases hc
   |aO ks=>
    rcases hc with e | ⟨o',e⟩
    ·rw[ha]at e;cases e
    ·rw[ha]at e;cases e;exact .inl de
   |lM ks=>
    rcases hc with e | ⟨o',e⟩
    ·rw[ha]at e;cases e
    ·rw[ha]at e;cases e
   |obj C ns=>obtain⟨dx,e⟩:=hc;rw[ha]at e;cases e
  ·exact h2.upd z
end
section
variable {K:ah}{n:Nat}{H H' H1 H2:Hp}{U U':Addr->Prop}{σ hv:List (Option V)}{Z ρ':En}{τv vs:List V}{τd ds:List D}{v y:V}{d:D}{a:Addr}{o:Obj}
end
section
variable {K:ah}{n:Nat}{H H' H1 H2:Hp}{U U' N:Addr->Prop}{σ hv:List (Option V)}{Z ρ':En}{τv vs:List V}{τd ds:List D}{v y:V}{d:D}{E:ke}
end
end VL
namespace L2
open PySem PySem.Spec PyProof.Rows PySem.W
section
variable {H:Hp}
end
end L2
namespace VL
open PySem PySem.Spec PyProof.Rows L2
section
variable {K:ah}{H H' H1 H2:Hp}{σ hv:List (Option V)}{τv vs:List V}{τd ds:List D}{v y:V}{d:D}
end
end VL
namespace L2
open PySem PySem.Spec PyProof.Rows PySem.W
section
variable {σ:St}{H:Hp}{s:Shared}
end
end L2
namespace VL
open PySem PySem.Spec PyProof.Rows L2
section
variable {K:ah}{n:Nat}{H H' H1 H2:Hp}{U U':Addr->Prop}{σ hv:List (Option V)}{Z ρ':En}{τv vs:List V}{τd ds:List D}{v y:V}{d:D}
end
end VL
namespace L2
open PySem PySem.Spec PyProof.Rows PySem.W
section
variable {prog:Program}{w:World}{A:Around}{R:Result->Shared->Prop}{d it:Addr}{aa:List (bc×Value)}{ep:Nat}{ns:List Int}{x:Int}{t:Tok}
end
section
variable {X:Cx}{ab:List (Addr×Obj)}{σ:St}{H:Hp}{s:Shared}
end
end L2
namespace VL
open PySem PySem.Spec PyProof.Rows L2
section
variable {K:ah}{n:Nat}{H H' H1 H2:Hp}{U U':Addr->Prop}{σ hv:List (Option V)}{Z ρ':En}{τv vs:List V}{τd ds:List D}{d:D}
theorem R9:∀{ks:List bc} {vs:List V},ks.length=vs.length->(ks.zip vs).map (·.2)=vs
 | [], [],_=>rfl
 |k::ks,v::vs,h=>by rw[nV,cP,R9 (by simpa using h)]
 | [],_::_,h=>by cases h
 |_::_, [],h=>by cases h
end
end VL
namespace L2
open PySem PySem.Spec PyProof.Rows
theorem auo{CX:rh}{P:Program}{w:World}{K:ah}{mg:Str->Option Value}{base:Heap}{k:Nat}{f c':Addr}{name qual:Str}{params:Arguments}{body:Expr}{scope:Scope}{pm kz:Value}{N ps:List Str}{A:Around}{outer:List Env}{s:Shared}{H:Hp}{args:Args}{us:List Value}{vs:List V}{Q:VK}{E:XK}{t:TE}
  (hr:gf (k + 1) A) (e0:oW P w K mg base A outer s H) (ho:s.heap.get? f=some (apE name qual params body scope [] pm c' kz)) (pB:s.heap.CodeRec (.ref c') qual) (S:dr N ps scope)
  (hb:B4 s (W.kla_fn name qual params body scope [] pm (.ref c') kz) args (ps.zip us)) (r:bj vs us) (hl:vs.length=ps.length)
  (ht:PE (rj CX P w K mg base N qual scope f (.ref c') A outer s H E) body t) (hq:t (start N vs) H Q):
  qQ (model P w) A (.call (.ref f) args) (CR CX outer P w H s Q E) s:=by
 have lim:s.heap.NoLimit:=e0.mod.nolimit.keeps λb o e=>(e0.bs b o e).1;have tG:∀y∈ps.zip us,scope.names.lookup y.1=some .local\/(scope.names.lookup y.1=some .cell/\((nN (s.heap.objs.size + 1) scope.names []).lookup y.1).isSome=true):=λ⟨n,v⟩ hy=>by
  rcases S.par n (NJ hy).1 with q | q
  ·exact .inl q
  ·exact .inr ⟨q,atu _ _ _ (.inl q)⟩
 refine W.kla_callFunE hr.depth ho rfl S.co S.gen rfl pB (hb _ _ _ _ ?_);refine awE S.kind tG λenv he s1 x=> ?_;subst he;refine⟨lim.keeps x.toInCall.keep,W.kla_codeExpr ?_⟩;have I:Inv (rj CX P w K mg base N qual scope f (.ref c') A outer s H E) [] (start N vs) H s1:=XB S hr.hd e0 hl r x;refine ja (ht [] s1 (start N vs) H _ I hq) (λu s' hs=> ?_) λe s' hs=>hs;obtain⟨v,H',J,rv,q⟩:=hs;exact⟨v,H',J.os,J.bare,J.base,J.aQ,rv,q⟩
theorem aup(l:List Value)(h:TriplesOk l):aot pos (l++ [rawInt a,rawInt b,c])=some cv->aot pos l=some cv\/cv=c:=by
 fun_induction TriplesOk l with
 |case1=>
  intro q
  right;simp only[Wk,aot,rawInt]at q
  split at q
  ·cases q;rfl
  ·cases q
 |case2 a' t b' u x rest ih=>
  intro q;simp only[zr,aot]at q |-
  split at q
  ·next hc=>rw[if_pos hc];exact .inl q
  ·next hc=>rw[if_neg hc];exact ih h q
 |case3 l h1 h2=>exact h.elim
theorem auq{X:Cx}{ab:List (Addr×Obj)}{σ:St}{H:Hp}{s:Shared}{params:Arguments}{body:Expr}{scope:Scope}{pos:Pos}{c P:Addr}{q:Str}{t0:Tok}{qs:Array Value}{Q:Value->Shared->Prop}{E:Value->Shared->Prop}
  (I:Inv X ab σ H s) (hT:H P=some (.u6 qs)) (SH:qs[0]?=some (.str q t0)) (hq:X.env.qual++"<lambda>"=q) (aoR:X.env.code= .ref c) (C:wV X.base c P) (hB:X.base.BuiltinsAt X.mg P) (ap0:jN≠P)
  (ap1:defaultsOf params X.env=([], [])) (Zk:aru scope X.env=pure []) (hL:X.env.locals≠P)
  (h:∀(f c':Addr) (kz:Value) (oc:Obj) (vs:Array Value) (t:Tok) (H':Hp) (s':Shared),Inv X ((f,apE "<lambda>" q params body scope [] ((X.mg "__name__").getD .none) c' kz)::ab) σ H' s'->(∀b o,H b=some o->H' b=some o)->
   H' c'=some (.b9 oc (.own P))->oc.data= .fields vs->vs[1]?=some (.str q t)->Q (.ref f) s'):
  wpAny (model X.prog X.w) X.A (eval (.Lambda params body scope pos) X.env) Q E s:=by
 obtain⟨ps,eP,tr,z⟩:=I.aQ P _ hT;have ar3:s.heap.Ns jN X.mg:=I.ok.mod.glob.keeps I.bk;have ar4:s.heap.BuiltinsAt X.mg P:=let ⟨bm,ob,a1,a2,a3,a4,a5,r⟩:=hB;⟨bm,ob,a1,a2,a3,a4,I.bk _ _ a5,r⟩;have CH:wV s.heap c P:=C.keeps I.bk;refine W.kla_eval ap1 ?_;rw[hq]
 -- a function axp and pinned
 have c5:∀{H':Hp} {h':Heap} {tk:Tok} {c':Addr} {kz:Value},Inv X ab σ H' { s with heap:=h',toks:=tk }->(∀b o,s.heap.get? b=some o->∃o',h'.get? b=some o')->
   Inv X ((h'.objs.size,apE "<lambda>" q params body scope [] ((X.mg "__name__").getD .none) c' kz)::ab) σ H' { s with heap:=h'.push (apE "<lambda>" q params body scope [] ((X.mg "__name__").getD .none) c' kz),toks:=tk }:=λ{H' h' tk c' kz} J th=>by
  have J2:Inv X ab σ H' { s with heap:=h'.push (apE "<lambda>" q params body scope [] ((X.mg "__name__").getD .none) c' kz),toks:=tk }:=J.kept (t':=tk) λb u e=>cB _ e;refine J2.CB λp hp=> ?_;rcases bL.mp hp with rfl | hp
  ·refine⟨gc _ rfl,J.aQ.fresh (bO _),λy=> ?_,λhb=> ?_,λv=>nofun⟩
   ·obtain⟨m,⟨o,es,ep,ho,r⟩,_⟩:=id J.loc;have:=cW ho;rw[<- y]at this;exact mI _ this
   ·obtain⟨_,o,ho,_⟩:=J.ok.nX.mem hb;obtain⟨o',jS⟩:=J.base.there _ o ho λy=>J.ok.Cy _ y hb;exact mI _ (cW jS)
  ·exact J2.pin p (kg _ hp)
 cases hf:aot pos ps.toList with
 |some cv=>
  obtain⟨c',oc,vs,q',t,t',rfl,e2,e3,e4,e5⟩:=z pos cv hf;rw[SH]at e5;cases e5;refine W.kla_makeFunctionHit (mg:=X.mg) Zk I.ok.glob ar3 aoR CH eP tr hf ar4 λkz h' tk hk hsz=> ?_;exact h _ c' kz oc vs t H _ (c5 (I.kept hk) λb o e=>⟨o,hk b o e⟩) (λ_ _ e=>e) e2 e3 e4
 |none=>
  refine W.kla_makeFunction (mg:=X.mg) Zk I.ok.glob ar3 aoR CH eP tr hf ap0 ar4 λc' kz h' tk hx ar5 dS aur ar6=> ?_;obtain⟨c2,oc,vs,t,ec,Oe,hd,hv⟩:=aur;cases ec;have hn:H c'=none:=I.aQ.fresh ar5;have nP:∀{b:Addr},H b=none->b≠P:=λ{b} e y=>by rw[y,hT]at e;cases e
  have axq:P≠c':=λy=>by rw[y]at hT;rw[hn]at hT;cases hT
  have un:Un X.fs [] H (upd H c' (.b9 oc (.own P))) s.heap h':=by
   refine⟨λb o e n _ _=>hx b o (nP n) e,λb o e n _ _=>⟨o.slots,hx b o (nP n) e⟩,λb o e n _=> ?_,λb o e _=> ?_,λb xs e=> ?_,λb o u e=> ?_,λb qs e=>⟨#[], ?_⟩⟩
   ·rw[ba (dR (dI (cW e) ar5))];exact n
   ·by_cases hb:b=P
    ·exact⟨_,hb▸ar6⟩
    ·exact⟨o,hx b o hb e⟩
   ·rw[ba (gM e hn)];exact e
   ·rw[ba (gM e hn)];exact e
   ·rw[ba (gM e hn),e,Wa]
  have aQ:gB X.prog X.w (upd H c' (.b9 oc (.own P))) h':=λb u e=>by
   by_cases hb:b=c'
   ·subst hb;rw[de]at e;cases e;exact⟨Oe,oc,Oe⟩
   ·rw[ba hb]at e;by_cases so:b=P
    ·subst so;rw[hT]at e;cases e;refine⟨_,ar6, ?_,λpos' cv hc=> ?_⟩
     ·rw[awR];exact TriplesOk_snoc _ _ _ _ tr
     ·rw[awR]at hc;rcases aup _ tr hc with hc | rfl
      ·obtain⟨c2,o2,v2,q2,t2,t3,w1,w2,w3⟩:=z pos' cv hc;exact⟨c2,o2,v2,q2,t2,t3,w1,by rw[ba (gM w2 hn)];exact w2,w3⟩
      ·exact⟨c',oc,vs,q,t,t0,rfl,de,hd,hv,SH⟩
    ·refine(I.aQ b u e).gO (λd v hc r=>hx d v ?_ r) (λd r=>by rw[ba (gM r hn)];exact r) (λd xs r=>by rw[ba (gM r hn)];exact r);rcases hc with rfl | hc
     ·exact so
     ·intro y;rw[y,hT]at hc;cases hc
  exact h _ c' kz oc vs t _ _ (c5 (I.un un aQ) λb o e=>un.there b o e (by simp)) (λb o e=>by rw[ba (gM e hn)];exact e) de hd hv
end L2
namespace VL
open PySem PySem.Spec PyProof.Rows PySem.W L2
section
def sG(K:ah)(sp:Sp)(G:Hp->Prop)(Q:VK):List V->Option (V×V)->Hp->Prop
 | [],some (b,_),H=>Q b H
 | [],none,_=>False
 |x::r,nE,H=>sp [x] H (λkv H2=>G H2/\match nE with
  |none=>sG K sp G Q r (some (x,kv)) H2
  |some (b,bk)=>∃g,arV K H2 kv bk g/\sG K sp G Q r (if g=true then some (x,kv) else some (b,bk)) H2) E0
def ap2(X:Cx)(ab:List (Addr×Obj))(σ:L2.St)(f:Addr)(sp:Sp)(G:Hp->Prop):Prop:=∀(H:Hp) (s:Shared) (x:V) (u:Value) (Q:VK),Inv X ab σ H s->G H->RelV x u->sp [x] H Q E0->qQ (model X.prog X.w) X.A.in1 (.call (.ref f) ⟨[u], []⟩) (CR cG X.stack X.prog X.w H s Q E0) s
theorem aoS{Q:VK}(he:∃es,o.data= .dict es ep)(hG:∀H,G H->H d=some (.b9 o (.dK aa)))(KC:ap2 X ab σ f sp G)(hr:gf (k + 1) X.A)(hc:X.calm=true)(qp:it≠S):
  ∀(rest:List (bc×V)) (i:Nat) (nE:Option (V×V)) (us:List Value) (n:Nat) (H:Hp) (s:Shared),aa.drop i=rest->Inv X ab σ H s->G H->s.heap.IsValIter it d i aa.length ep->s.heap.get? S=some { cls:= .type "list",data:= .seq us.toArray n }->arW nE us->jT X ab H it->jT X ab H S->
   sG X.K sp G Q (rest.map (·.2)) nE H->qQ (model X.prog X.w) X.A (.builtin "max.loop" ⟨[.ref it, .ref f, .ref S], []⟩) (λr s'=>match r with | .ok (.ret v)=>EP X ab σ Q v s' | .ok _=>False | .error e=>X.xe e s') s
 | [],i,none,us,n,H,s,hd,I,hg,hit,hS,hB,fI,fS,h=>h.elim
 | [],i,some (b,bk),us,n,H,s,hd,I,hg,hit,hS,hB,fI,fS,h=>by
  obtain⟨vs,bG,da⟩:=Ef I (hG H hg) he;have hl:aa.length=vs.length:=bG.length;rw[hl]at hit;have hi:aa.length<=i:=by
   rcases NV i aa.length with h | h
   ·rw[Cr h]at hd;cases hd
   ·exact h
  obtain⟨ub,uk,rfl,rb,rk⟩:=L2.vals2 hB;refine Ca arA ?_;rw[Cp se _];show wpAny _ X.A.in1 (arw (.ref S) >>= _) _ _ _;refine az (wZ hS rfl ?_);show wpAny _ X.A.in1 (tryCatch (pyNext (.ref it)) _ >>= _) _ _ _;refine az (L3 (wpAny_pyNext_values_end (show X.A.in1.handled=none from I.ok.hd hc) hit da (List.getElem?_eq_none (by lia)) λh7 apJ=> ?_));have ahi:∀b o,b≠it->s.heap.get? b=some o->h7.get? b=some o:=λb o amR e=>apJ b o amR e;have apK:=ahi S _ (λz=>qp z.symm) hS;have I7:L2.Inv X ab σ H { s with heap:=h7 }:=I.turned (t':=s.toks) (it:=it) ahi fI.1 fI.2.1 fI.2.2.2.1 fI.2.2.2.2.1 fI.2.2.2.2.2;show wpAny _ X.A.in1 (aou S (λ_=>#[]) >>= _) _ _ _;refine az ?_;refine aov apK rfl (az (Vs (bF ?_)));exact⟨b,H,L2.Inv.turned (s:= { s with heap:=h7 }) I7 (t':=s.toks) (it:=S) (λb o n e=>(VN _ _ (fw n)).trans e) fS.1 fS.2.1 fS.2.2.2.1 fS.2.2.2.2.1 fS.2.2.2.2.2,rb,h⟩
 |x::r,i,nE,us,n,H,s,hd,I,hg,hit,hS,hB,fI,fS,h=>by
  have o3:(toString "max"++toString ".loop":String)="max.loop":=by decide
  obtain⟨vs,bG,da⟩:=Ef I (hG H hg) he;have hl:aa.length=vs.length:=bG.length;have hi:i < aa.length:=by
   rcases NV i aa.length with h | h
   ·exact h
   ·rw[atx h]at hd;cases hd
  have hx:aa[i]?=some x:=by rw[Cr hi]at hd;injection hd with e1 e2;rw[dH hi,e1]
  have tT:aa.drop (i + 1)=r:=by rw[Cr hi]at hd;injection hd
  have hv:=dH (show i < vs.length by lia);have pr:=xM bG hx hv;refine Ca arA ?_;rw[Cp se _];show wpAny _ X.A.in1 (arw (.ref S) >>= _) _ _ _;refine az (wZ hS rfl ?_);show wpAny _ X.A.in1 (tryCatch (pyNext (.ref it)) _ >>= _) _ _ _;rw[hl]at hit;refine az (L3 (wpAny_pyNext_values_item hit da (k:=vs[i].1) (v:=vs[i].2) hv λh4 kF sb=> ?_));have vj:RelV x.2 vs[i].2:=pr.2;generalize vs[i].2=v' at vj |-;have ahj:∀b o,b≠it->s.heap.get? b=some o->h4.get? b=some o:=λb o hb e=>(sb.2 b hb).trans e;have I4:L2.Inv X ab σ H { s with heap:=h4 }:=I.turned (t':=s.toks) (it:=it) ahj fI.1 fI.2.1 fI.2.2.2.1 fI.2.2.2.2.1 fI.2.2.2.2.2;have aiZ:h4.get? S=_:=ahj S _ (λz=>qp z.symm) hS;obtain⟨oi,akr,akK,xD⟩:=id kF;have apL:L2.Inv X (ab++Ad [it,S] h4) σ H { s with heap:=h4 }:=I4.pinned (fp:= [it,S]) (λb amR=>by
    rcases bL.mp amR with rfl | amR
    ·exact fI
    ·rw[eS.mp amR];exact fS) (λb amR=>by
    rcases bL.mp amR with rfl | amR
    ·exact⟨oi,akr,λv z=>by rw[xD]at z;cases z⟩
    ·rw[eS.mp amR];exact⟨_,aiZ,λv z=>by cases z⟩)
  show wpAny _ X.A.in1 (tryCatch (holding [v'] (call (.ref f) [v'])) _ >>= _) _ _ _;refine az (L3 (uL ?_));refine apz (B5 (KC H _ x.2 v' _ I4 hg vj h) λr s5 hq=> ?_);cases r with
  |error e=>exact hq.elim
  |ok fl=>
   cases fl with
   |next=>exact pj hq
   |brk=>exact pj hq
   |cont=>exact pj hq
   |ret uk=>
    obtain⟨kv,H5,I5,rk,xP,q5⟩:=apL.after hq;have pS:(S,_)∈Ad [it,S] h4:=CM (nQ _ (eS.mpr rfl)) aiZ;have pI:(it,oi)∈Ad [it,S] h4:=CM (xb) akr;have mm:=(I5.pin _ (kg _ (kg _ pS)))
    have yd:=(I5.pin _ (kg _ (kg _ pI)))
    have t5:L2.Inv X ab σ H5 s5:=I5.CN;have gI:jT X ab H5 it:=⟨yd.2.1,fI.2⟩
    have gS:jT X ab H5 S:=⟨mm.2.1,fS.2⟩
    have up:∀(g:Array Value->Array Value),L2.Inv X ab σ H5 { s5 with heap:=s5.heap.update S (zo g) }:=λg=>t5.turned (t':=s5.toks) (it:=S) (λb o n e=>(VN _ _ (fw n)).trans e) gS.1 gS.2.1 gS.2.2.2.1 gS.2.2.2.2.1 gS.2.2.2.2.2;have akV:∀(g:Array Value->Array Value),(s5.heap.update S (zo g)).IsValIter it d (i + 1) aa.length ep:=λg=>by rw[hl];exact⟨oi,(VN _ _ (fw qp)).trans yd.1,akK,xD⟩
    cases nE with
    |none=>
     have alK:us= []:=hB;subst alK;show wpAny _ X.A.in1 (aou S (λ_=>#[v',uk]) >>= _) _ _ _;refine az ?_;refine aov mm.1 rfl ?_;rw[o3];refine bF ⟨Vo se _, ?_⟩;exact aoS he hG KC hr hc qp _ (i + 1) (some (x.2,kv)) [v',uk] _ H5 _ tT (up _) xP (akV _) (aim (zo λ_=>#[v',uk]) mm.1 rfl) (.cons vj (.cons rk .nil)) gI gS q5
    |some bb=>
     obtain⟨b,bk⟩:=bb;obtain⟨ub,atZ,rfl,rb,apM⟩:=L2.vals2 hB;obtain⟨g,⟨pp,qq,i1,j1,i2,j2,rfl,rfl,h1,h2,Jo⟩,q6⟩:=q5;cases rk;cases apM;obtain⟨DB,Hu,apN,_⟩:=t5.tuple h1;obtain⟨mh,Hv,apO,_⟩:=t5.tuple h2;obtain⟨w1,w2,rfl,c1,c2⟩:=L2.vals2 Hu;obtain⟨w3,w4,rfl,c3,c4⟩:=L2.vals2 Hv;obtain⟨t1,rfl⟩:=c1;obtain⟨t2,rfl⟩:=c2;obtain⟨t3,rfl⟩:=c3;obtain⟨t4,rfl⟩:=c4;show wpAny _ X.A.in1 (tryCatch (holding [v',c7 pp] (arv .Gt (.ref pp) (.ref qq) >>= _)) _ >>= _) _ _ _;refine az (L3 (uL (az (arU apN apO (zp (sJ _ 1) (cR hr.in1)) ?_))));refine az (uL (uK ?_));refine az (Vs (bF ?_));rw[<- Jo];cases g with
     |true=>
      show wpAny _ X.A.in1 (aou S (λ_=>#[v', .ref pp]) >>= _) _ _ _;refine az ?_;refine aov mm.1 rfl ?_;refine az (Vs ?_);rw[o3];refine bF ⟨Vo se _, ?_⟩;exact aoS he hG KC hr hc qp _ (i + 1) (some (x.2, .ref pp)) [v', .ref pp] _ H5 _ tT (up _) xP (akV _) (aim (zo λ_=>#[v', .ref pp]) mm.1 rfl) (.cons vj (.cons rfl .nil)) gI gS q6
     |false=>
      show wpAny _ X.A.in1 (letGo _ >>= _) _ _ _;refine az (Vs ?_);rw[o3];refine bF ⟨Vo se _, ?_⟩;exact aoS he hG KC hr hc qp _ (i + 1) (some (b, .ref qq)) [ub, .ref qq] _ H5 _ tT t5 xP (by rw[hl];exact⟨oi,yd.1,akK,xD⟩) mm.1 (.cons rb (.cons rfl .nil)) gI gS q6
theorem ar7{s:Shared}{Q:VK}{vw d:Addr}(he:∃es,o.data= .dict es ep)(hG:∀H,G H->H d=some (.b9 o (.dK aa)))(KC:ap2 X ab σ f sp G)(hr:gf (k + 1) X.A)(hc:X.calm=true)
  (I:Inv X ab σ H s) (hg:G H) (hv:s.heap.IsValuesView vw d) (h:sG X.K sp G Q (aa.map (·.2)) none H):
  wpAny (model X.prog X.w) X.A (call (.builtin "max") [.ref vw] [("key", .ref f)]) (EP X ab σ Q) X.xe s:=by
 have o3:(toString "max"++toString ".loop":String)="max.loop":=by decide
 obtain⟨vs,bG,da⟩:=Ef I (hG H hg) he;have hl:aa.length=vs.length:=bG.length;refine arR awO awP awQ (arS _ _) ?_;show wpAny _ X.A.in1 (arB "max" ["key","default"] 0 ⟨[], [("key", .ref f)]⟩ >>= _) _ _ s;refine az (wpAny_of_eq (show arB "max" ["key","default"] 0 ⟨[], [("key", .ref f)]⟩=pure [some (.ref f),none] from rfl) ?_);refine az (bF ?_);refine az (wpAny_pyIter_values hv da ?_);refine az (qP ?_);rw[o3];refine bF ⟨Vo se _, ?_⟩;have yy:=gc (s.heap.push { cls:= .type "dict_valueiterator",data:= .fields #[.ref d, .int 0 0, .int vs.length 0, .int ep 0] }) (o:= { cls:= .type "list",data:= .seq #[] }) rfl;have alL:((s.heap.push { cls:= .type "dict_valueiterator",data:= .fields #[.ref d, .int 0 0, .int vs.length 0, .int ep 0] }).push { cls:= .type "list",data:= .seq #[] }).get? s.heap.objs.size=some { cls:= .type "dict_valueiterator",data:= .fields #[.ref d, .int 0 0, .int vs.length 0, .int ep 0] }:=
  cB _ (gc _ rfl)
 have alM:∀b o,s.heap.get? b=some o->((s.heap.push { cls:= .type "dict_valueiterator",data:= .fields #[.ref d, .int 0 0, .int vs.length 0, .int ep 0] }).push { cls:= .type "list",data:= .seq #[] }).get? b=some o:=
  λb o e=>cB _ (cB _ e)
 have apP:(s.heap.push { cls:= .type "dict_valueiterator",data:= .fields #[.ref d, .int 0 0, .int vs.length 0, .int ep 0] }).objs.size=s.heap.objs.size + 1:=p9 _ _;show qQ (model X.prog X.w) X.A (.builtin "max.loop" ⟨[.ref s.heap.objs.size, .ref f, .ref (s.heap.push { cls:= .type "dict_valueiterator",data:= .fields #[.ref d, .int 0 0, .int vs.length 0, .int ep 0] }).objs.size], []⟩) _ { s with heap:=(s.heap.push { cls:= .type "dict_valueiterator",data:= .fields #[.ref d, .int 0 0, .int vs.length 0, .int ep 0] }).push { cls:= .type "list",data:= .seq #[] } };generalize ((s.heap.push { cls:= .type "dict_valueiterator",data:= .fields #[.ref d, .int 0 0, .int vs.length 0, .int ep 0] }).push { cls:= .type "list",data:= .seq #[] })=h3 at yy alL alM |-;generalize hS:(s.heap.push { cls:= .type "dict_valueiterator",data:= .fields #[.ref d, .int 0 0, .int vs.length 0, .int ep 0] }).objs.size=S at yy apP |-;have fI:jT X ab H s.heap.objs.size:=I.Aa (bO _) (I.aQ.fresh (bO _));have fS:jT X ab H S:=I.Aa (by lia) (I.aQ.fresh (by lia));have I3:L2.Inv X ab σ H { s with heap:=h3 }:=I.kept (t':=s.toks) alM;have Rf:s.heap.objs.size≠S:=by lia
 exact aoS he hG KC hr hc Rf aa 0 none [] _ H _ rfl I3 hg (by rw[hl];exact⟨_,alL,rfl,rfl⟩) yy rfl fI fS h
def wu(N:List Str)(te:TE):Sp:=λvs H Q _=>∃x,vs= [x]/\te (start N [x]) H Q
def ar8(K:ah)(N:List Str)(te td:TE):TE:=λσ H Q=>Q9 td σ H λx H1=>∃v d aa,x= .ref v/\H1 v=some (IE v d)/\
 ((H1 d=some (.dK aa)/\∀(o:Obj) (c':Addr) (u:HO) (H2:Hp),(∀b w,H1 b=some w->H2 b=some w)->H2 c'=some u->c'≠d->
  sG K (wu N te) (λH=>H d=some (.b9 o (.dK aa))/\H c'=some u) (λv H4=>H4 d=some (.b9 o (.dK aa))/\Q v (upd H4 d (.dK aa))) (aa.map (·.2)) none (upd H2 d (.b9 o (.dK aa))))\/
 ∃o,H1 d=some (.b9 o (.dK aa))/\∀(c':Addr) (u:HO) (H2:Hp),(∀b w,H1 b=some w->H2 b=some w)->H2 c'=some u->
  sG K (wu N te) (λH=>H d=some (.b9 o (.dK aa))/\H c'=some u) Q (aa.map (·.2)) none H2)
theorem aus{K:ah}{j:Nat}{dE body:Expr}{td te:TE}{params:Arguments}{scope:Scope}{c P:Addr}{q pname:Str}{t0:Tok}{qs:Array Value}{N:List Str}{p ap vp lp kp pos:Pos}
  (hT:X.sS P=some (.u6 qs)) (SH:qs[0]?=some (.str q t0)) (aoR:X.env.code= .ref c) (C:CodeHd X.base c P) (hB:X.base.BuiltinsAt X.mg P)
  (S:dr N [pname] scope) (ht:∀(f c':Addr) (A:Around) (outer:List Env) (s:Shared) (H:Hp),gf j (A.deeper (envOfC q scope s.heap.objs.size f (.ref c')))->PE (rj cG X.prog X.w X.K X.mg X.base N q scope f (.ref c') A outer s H E0) body te)
  (hr:gf (j + 2) X.A) (hc:X.calm=true) (hg:Gl X "max") (hm:X.mg "max"=none) (hd:PE X dE td) (hK:X.K=K:=by rfl) (hq:X.env.qual++"<lambda>"=q:=by rfl)
  (ap1:defaultsOf params X.env=([], []):=by rfl) (Zk:aru scope X.env=pure []:=by rfl)
  (hb:∀(pm kz u:Value) (c':Addr),art (kla_fn "<lambda>" q params body scope [] pm (.ref c') kz) ⟨[u], []⟩=pure [(pname,u)]:=by intros;rfl)
  (rq:attributeBase dE "values" X.env (eval dE X.env)=eval dE X.env:=by rfl) (rA:(ap.endLine == vp.line)=true:=by rfl)
  (hs:dz [.Call (.Attribute dE "values" ap) [] [] vp] X.env=(false,eval (.Call (.Attribute dE "values" ap) [] [] vp) X.env)::dz [] X.env:=by rfl):
  PE X (.Call (.Name "max" p) [.Call (.Attribute dE "values" ap) [] [] vp] [⟨some "key", .Lambda params body scope lp,kp⟩] pos) (ar8 K N te td):=by
 subst hK;intro ab s σ H Q I h;refine FJ (xq I hg hm Nx ?_);have ha:PA X [.Call (.Attribute dE "values" ap) [] [] vp] (di (Q9 td) fz):=fJ (Ra hd rq rA) gk;refine callWith_kw (bh (ha pos ab s σ H (λvs H1=>match vs with
  | [x]=>∃v d aa,x= .ref v/\H1 v=some (IE v d)/\
   ((H1 d=some (.dK aa)/\∀(o:Obj) (c':Addr) (u:HO) (H2:Hp),(∀b w,H1 b=some w->H2 b=some w)->H2 c'=some u->c'≠d->
    sG X.K (wu N te) (λH=>H d=some (.b9 o (.dK aa))/\H c'=some u) (λv H4=>H4 d=some (.b9 o (.dK aa))/\Q v (upd H4 d (.dK aa))) (aa.map (·.2)) none (upd H2 d (.b9 o (.dK aa))))\/
   ∃o,H1 d=some (.b9 o (.dK aa))/\∀(c':Addr) (u:HO) (H2:Hp),(∀b w,H1 b=some w->H2 b=some w)->H2 c'=some u->
    sG X.K (wu N te) (λH=>H d=some (.b9 o (.dK aa))/\H c'=some u) Q (aa.map (·.2)) none H2)
  |_=>False) I h) λus s1 ⟨vs,H1,I1,r1,z⟩=> ?_) (by rw[hs];rfl) (by rw[hs];rfl) rfl rfl
 match vs,r1,z with
 | [x],r1,z=>
  obtain⟨v,d,aa,rfl,mC,z⟩:=z;obtain⟨u,rfl,ru⟩:=L2.vals1 r1;cases ru;obtain⟨more,eT⟩:=I1.base.qd P qs hT;have oX:(qs++more)[0]?=some (.str q t0):=by
   have:0 < qs.size:=by
    rcases NV 0 qs.size with y | y
    ·exact y
    ·rw[awN y]at SH;cases SH
   rw[awS this];exact SH
  have ap0:jN≠P:=λy=>by
   obtain⟨o,es,ep,e,_⟩:=I1.ok.mod.glob;have:=(I1.bs _ _ e).2;rw[y,eT]at this;cases this
  refine kws_cons (auq I1 eT oX hq aoR C hB ap0 ap1 Zk (λy=>by have:=I1.free;rw[y,eT]at this;cases this) λf c' kz oc vs t H2 s2 J sm qY e3 e4=> ?_);refine kws_nil ?_;have I9:s2.heap.IsValuesView v d:=(J.aQ v _ (sm _ _ mC)).1;have KC:∀(G:Hp->Prop),(∀H,G H->H c'=some (.b9 oc (.own P)))->ap2 X ((f,kla_obj "<lambda>" q params body scope [] ((X.mg "__name__").getD .none) c' kz)::ab) σ f (wu N te) G:=λG aut H s x u Q I hg r tw=>by
   obtain⟨x',ex,auu⟩:=tw;cases ex;exact auo (k:=j) (hr.in1.mono (by lia)) I.ON.in1 (I.pin _ (kg _ (.head _))).1 ⟨c',oc,vs,t,rfl,(I.aQ c' _ (aut H hg)).1,e3,e4⟩ S (.of_eq (hb _ _ _ _)) (.cons r .nil) rfl (ht f c' _ _ _ _ ((hr.in1.mono (by lia)).deeper _)) auu
  have dat:∀{H:Hp} {s:Shared} {o:Obj} {Wx:List (Addr×Obj)},Inv X Wx σ H s->H d=some (.b9 o (.dK aa))->∃ep es,o.data= .dict es ep:=λ{H s o Wx} I e=>by
   obtain⟨hg,z,hd,vs,bG,o',sU,CA,jS,ex,ui,rest⟩:=(show gr X.prog X.w H s.heap d (.b9 o (.dK aa)) from I.aQ d _ e)
   rw[hg]at jS;cases jS;exact⟨_,_,ui⟩
  have drop:∀{H:Hp} {s:Shared} {p:Addr×Obj},Inv X (p::ab) σ H s->Inv X ab σ H s:=λ{H s p} I=>I.CB λp' hp=>I.pin p' (kg _ (.tail _ hp));rcases z with⟨aoe,z⟩ | ⟨o,aoe,z⟩
  ·obtain⟨o,J2,nf⟩:=VL.Inv.Ed J (sm _ _ aoe);have aoT:c'≠d:=λy=>by have:=sm _ _ aoe;rw[<- y,qY]at this;cases this
   obtain⟨ep,he⟩:=dat J2 de;refine bh (ar7 (k:=j) he (λH hg=>hg.1) (KC (λH=>H d=some (.b9 o (.dK aa))/\H c'=some (.b9 oc (.own P))) λH hg=>hg.2) (hr.mono (by lia)) hc J2 ⟨de,by rw[ba aoT];exact qY⟩ I9 (z o c' _ H2 sm qY aoT)) λu' s' ⟨v',H4,I4,r4,auv,q4⟩=> ?_;exact⟨v',_,drop (VL.Inv.A5 I4 auv nf),r4,q4⟩
  ·obtain⟨ep,he⟩:=dat J (sm _ _ aoe);refine bh (ar7 (k:=j) he (λH hg=>hg.1) (KC (λH=>H d=some (.b9 o (.dK aa))/\H c'=some (.b9 oc (.own P))) λH hg=>hg.2) (hr.mono (by lia)) hc J ⟨sm _ _ aoe,qY⟩ I9 (z c' _ H2 sm qY)) λu' s' ⟨v',H4,I4,r4,q4⟩=> ?_;exact⟨v',_,drop I4,r4,q4⟩
variable {K:ah}{n:Nat}{H H':Hp}
noncomputable def ug (fe:En->Option D):List D->Option D
 | [d]=>fe [some (.ro d)]
 |_=>none
theorem ar9[L:SF K 1 te fe](w:Vw K H T1 x d)(h:ug fe [d]=some e)(k:∀v H',aJ H H'->cA K H H' v e->Q v H'):wu [y] te [x] H Q E:=by
 refine⟨x,rfl, ?_⟩;have I:av K 1 H (λ_=>False) [some x] [] [some (.ro d)] [] []:=by
  refine⟨⟨rfl,λb z=>z.elim,λ_ _=>False,λi j b z=>z.elim,λi b z=>z.elim,λi β aw=> ?_⟩,rfl,rfl⟩;cases i with
  |zero=>
   cases aw;exact⟨x,rfl,w.mono λ_ _ z=>z⟩
  |succ i=>simp at aw
 exact L.s I h k
theorem ap3{y:Str}[L:SF K 1 te fe](hG:∀H H',aJ H H'->G H->G H')(k:∀v H',aJ H0 H'->G H'->Vw K H' T1 v d->plain d=true->Q v H'):∀(ds:List D) (vs:List V) (b:V) (bd:D) (p:Addr) (q:Int×Int) (H1:Hp),aJ H0 H1->G H1->dm K H1 T1 vs ds->bI ds=true->
  Vw K H1 T1 b bd->plain bd=true->cE K H1 p [.int q.1, .int q.2]->mH (ug fe) ds bd q=some d->sG K (wu [y] te) G Q vs (some (b, .ref p)) H1
 | [],vs,b,bd,p,q,H1,s1,ha,w,pl,wb,pb,hp,h=>by
  cases vs with
  |cons _ _=>cases w.1
  |nil=>cases h;exact k _ _ s1 ha wb pb
 |d'::ds,vs,b,bd,p,q,H1,s1,ha,w,pl,wb,pb,hp,h=>by
  cases vs with
  |nil=>cases w.1
  |cons v vs=>
   rw[bI,kM]at pl;rw[mH]at h;obtain⟨e,h1,h⟩:=ak.mp h;obtain⟨kk,h2,h⟩:=ak.mp h;have wv:Vw K H1 T1 v d':=w.2 0 v d' rfl rfl;have wr:dm K H1 T1 vs ds:=⟨by have:=w.1;simpa using this,λi x y hx hy=>w.2 (i + 1) x y (by simpa using hx) (by simpa using hy)⟩
   refine ar9 wv h1 λkv H2 s2 o=>⟨hG _ _ s2 ha, ?_⟩
   obtain⟨p2,rfl,G0⟩:=aoE o.vw h2;have amg:=s1.trans s2;have iK:=hG _ _ s2 ha;have anD:dm K H2 T1 vs ds:=⟨wr.1,λi x y hx hy=>(wr.2 i x y hx hy).same s2⟩
   have hq:=(gu.of s2).arM hp;refine⟨_,⟨p2,p,_,_,_,_,rfl,rfl,G0,hq,rfl⟩, ?_⟩;cases c:alI kk.1 kk.2 q.1 q.2 with
   |true=>
    rw[c,if_pos rfl]at h;exact ap3 hG k ds vs v d' p2 kk H2 amg iK anD pl.2 (wv.same s2) pl.1 G0 h
   |false=>
    rw[c,if_neg df]at h;exact ap3 hG k ds vs b bd p q H2 amg iK anD pl.2 (wb.same s2) pb hq h
def aof(G:List D->Option D):D->Option D
 |.nd (.aO _) (d::ds)=>if bI (d::ds)=true then(G [d]).bind λe=>(Sh e).bind λk=>mH G ds d k else none
 |_=>none
theorem asa{y:Str}[L:SF K 1 te fe]{Q:VK}{d d':D}(hG:∀H H',aJ H H'->G H->G H')(hg:G H0)(w:dm K H0 T1 vs (d'::ds))(pl:bI (d'::ds)=true)
  {e:D} {kk:Int×Int} (h1:ug fe [d']=some e) (h2:Sh e=some kk) (h3:mH (ug fe) ds d' kk=some d) (k:∀v H',aJ H0 H'->G H'->Vw K H' T1 v d->plain d=true->Q v H'):sG K (wu [y] te) G Q vs none H0:=by
 cases vs with
 |nil=>cases w.1
 |cons v vs=>
  rw[bI,kM]at pl;have wv:Vw K H0 T1 v d':=w.2 0 v d' rfl rfl;have wr:dm K H0 T1 vs ds:=⟨by have:=w.1;simpa using this,λi x y hx hy=>w.2 (i + 1) x y (by simpa using hx) (by simpa using hy)⟩
  refine ar9 wv h1 λkv H2 s2 o=>⟨hG _ _ s2 hg, ?_⟩
  obtain⟨p2,rfl,G0⟩:=aoE o.vw h2;exact ap3 hG k ds vs v d' p2 kk H2 s2 (hG _ _ s2 hg) ⟨wr.1,λi x y hx hy=>(wr.2 i x y hx hy).same s2⟩ pl.2 (wv.same s2) pl.1 G0 h3
instance (priority:=3000) axr{y:Str}{te td:TE}{fe f:En->Option D}[L:SF K 1 te fe][A:SV K n td f]:SF K n (ar8 K [y] te td) (λZ=>(f Z).bind (aof (ug fe))):=⟨λ{σ hv H U Z τv τd d Q} I h k=>by
 obtain⟨x,h1,h2⟩:=ak.mp h;refine A.s I h1 λv H1 s1 w1=> ?_;unfold aof at h2
 split at h2
 ·next ks d' ds=>
  by_cases c:bI (d'::ds)=true
  ·rw[if_pos c]at h2;obtain⟨e,h3,h2⟩:=ak.mp h2;obtain⟨kk,h4,h2⟩:=ak.mp h2;obtain⟨a,us,rfl,_,hc,hl,bB⟩:=w1.node;refine⟨a,_,rfl,hc.2,λvw mC=>⟨vw,a,ks.zip us,rfl,de, ?_⟩⟩;have sv:=fE mC (IE vw a);have ev:(ks.zip us).map (·.2)=us:=R9 hc.1;have wl:∀{H2:Hp},gu H1 H2->dm K H2 T1 us (d'::ds):=λ{H2} st=>⟨hl,λi x y hx hy=>(bB i x y hx hy).aum (xV c (jr hy)) st⟩
   rw[ev];rcases hc.2 with q | ⟨o,q⟩
   ·refine .inl ⟨sv _ _ q,λo c' u H2 sm qY aoT=> ?_⟩;have Kf:aJ (upd H1 vw (IE vw a)) H2:=sm;have qa:H2 a=some (.dK (ks.zip us)):=Kf _ _ (sv _ _ q);have dJ:gu H1 (upd H2 a (.b9 o (.dK (ks.zip us)))):=λb ob m hb=>by
     by_cases eb:b=a
     ·subst eb;rw[q]at hb;cases hb;exact absurd trivial m
     ·rw[ba eb];exact Kf _ _ (sv _ _ hb)
    refine asa (λH H' s hg=>⟨s _ _ hg.1,s _ _ hg.2⟩) ⟨de,by rw[ba aoT];exact qY⟩ (wl dJ) c h3 h4 h2 λv H4 s4 g4 wv pv=>⟨g4.1, ?_⟩
    have sf:aJ H1 (upd H4 a (.dK (ks.zip us))):=λb ob hb=>by
     by_cases eb:b=a
     ·subst eb;rw[q]at hb;cases hb;exact de
     ·rw[ba eb];exact s4 _ _ (by rw[ba eb];exact Kf _ _ (sv _ _ hb))
    exact k _ _ (s1.trans sf) (cA.plain (wv.abQ g4.1) pv)
   ·refine .inr ⟨o,sv _ _ q,λc' u H2 sm qY=> ?_⟩;have Kf:aJ (upd H1 vw (IE vw a)) H2:=sm;refine asa (λH H' s hg=>⟨s _ _ hg.1,s _ _ hg.2⟩) ⟨Kf _ _ (sv _ _ q),qY⟩ (wl (gu.of (sv.trans Kf))) c h3 h4 h2 λv H4 s4 g4 wv pv=> ?_;exact k _ _ (s1.trans (sv.trans (Kf.trans s4))) (cA.plain wv pv)
  ·rw[if_neg c]at h2;cases h2
 ·cases h2⟩
end
end VL
namespace L2
open PySem PySem.Spec PyProof.Rows
def aoU(P0:Addr)(qs:Array Value)(H:Hp):Prop:=H P0=some (.u6 qs)/\∀b,b≠P0->H b=none\/∃o xs,H b=some (.b9 o (.lst xs))
theorem auw{P:Program}{w:World}{K:ah}{mg mb:Str->Option Value}{CX:rh}{k:Nat}{fa a c0 P0:Addr}{qs:Array Value}{fd:kK}{x:Str}{sp:Sp}{dD:Shared}{vs:List Value}{ns:List Int}
  (KX:K.In dD.heap) (Pb:dD.heap.Ns jN mg) (hb:dD.heap.Ns Nk mb) (Yo:∀x:Str,x≠"__name__"->mb x=B2 x) (Yp:dD.heap.NoLimit) (hg:dD.gens=#[])
  (ha:dD.heap.get? a=some { cls:= .type "list",data:= .seq vs.toArray }) (hi:B6 vs ns) (hl:ns.length<=aM) (hr:gf k zg)
  (hC:wV dD.heap c0 P0) (hP:dD.heap.get? P0=some (W.tabObj #[])) (aog:K.lookup P0=none) (hB:dD.heap.BuiltinsAt mg P0)
  (F:∀base:Heap,K.In base->base.Ns jN mg->wV base c0 P0->base.BuiltinsAt mg P0->bZ P w K mg base CX k fa fd [x] sp) (Yq:∀(s:Shared) (u:Value),B4 s fd ⟨[u], []⟩ [(x,u)])
  (tw:∀H:Hp,aoU P0 qs H->cI K H a (ns.map V.int)->sp [.ref a] H (λv _=>v= .bl true) λ_ _ _=>False)
  (GV:∀H e s',CX [] H dD (λ_ _ _=>False) e s'->False):
  qQ (model P w) zg (.call (.ref fa) ⟨[.ref a], []⟩) (λr s'=>r= .ok (.ret (.bool true))/\OldK dD.heap s'.heap/\s'.os=dD.os/\wO s'.gens) dD:=by
 have rv:=C3 hi;have Yr:=hi.length;have asb:a≠P0:=λy=>by rw[y,hP]at ha;cases ha
 have core:∀H:Hp,aoU P0 qs H->cI K H a (ns.map V.int)->gB P w H dD.heap->(∀b,H b≠none->b=a\/b=P0)->(H a≠none->K.lookup a=none)->
   qQ (model P w) zg (.call (.ref fa) ⟨[.ref a], []⟩) (λr s'=>r= .ok (.ret (.bool true))/\OldK dD.heap s'.heap/\s'.os=dD.os/\wO s'.gens) dD:=by
  intro H hO hS aQ hA hK;have Pc:∀{b:Addr} {o:Obj},dD.heap.get? b=some o->H b=none->(qX dD.heap H).get? b=some o:=λe n=>Wu e n;have free:∀{b:Addr} {o:Obj},dD.heap.get? b=some o->o≠ { cls:= .type "list",data:= .seq vs.toArray }->o≠W.tabObj #[]->H b=none:=λ{b o} e n1 n2=>by
   cases q:H b with
   |none=>rfl
   |some u=>
    rcases hA b (by rw[q];simp) with e' | e'
    ·subst e';rw[ha]at e;cases e;exact absurd rfl n1
    ·subst e';rw[hP]at e;cases e;exact absurd rfl n2
  have vq:∀{b:Addr} {o:Obj} {es:Array DictEntry} {ep:Nat},dD.heap.get? b=some o->o.data= .dict es ep->H b=none:=λ{b o es ep} e d=>
   free e (λy=>by rw[y]at d;cases d) (λy=>by rw[y]at d;cases d)
  have C5:∀{b:Addr} {m:Str->Option Value},dD.heap.Ns b m->(qX dD.heap H).Ns b m:=λ{b m} ⟨o,es,ep,e,d,r⟩=>⟨o,es,ep,Pc e (vq e d),d,r⟩
  have Pd:K.In (qX dD.heap H):=λb o e=>Pc (KX b o e) (by
   cases q:H b with
   |none=>rfl
   |some u=>
    rcases hA b (by rw[q];simp) with e' | e'
    ·subst e';rw[hK (by rw[q];simp)]at e;cases e
    ·subst e';rw[aog]at e;cases e)
  have hM:Mod K mg (qX dD.heap H):=⟨Pd,C5 Pb,⟨mb,C5 hb,Yo⟩,let ⟨mc,h1,h2⟩:=Yp;⟨mc,C5 h1,h2⟩⟩
  have e0:oW P w K mg (qX dD.heap H) zg [] dD H:=⟨rfl,hM,λb o e=>Wv e,VA (Wt _ _),trivial,λb hb=>absurd (show b∈([]:List Addr) from hb) (by simp),aQ, .of_eq hg⟩
  have auy:wV (qX dD.heap H) c0 P0:=by
   obtain⟨o,cC,file,tf,flags,tg,auz,text,tt,e1,r1,r2⟩:=hC;exact⟨o,cC,file,tf,flags,tg,auz,text,tt,Pc e1 (free e1 (λy=>by rw[y]at r1;injection (show w9 "list"= .type "code" from r1) with z;exact absurd z (by decide)) (λy=>by rw[y]at r1;cases r1)),r1,r2⟩
  have alK:(qX dD.heap H).BuiltinsAt mg P0:=by
   obtain⟨bm,ob,a1,a2,a3,a4,a5,a6,a7,a8⟩:=hB;exact⟨bm,ob,a1,a2,a3,a4,Pc a5 (free a5 (λy=>by rw[y]at a6;injection (show w9 "list"= .type "module" from a6) with z;exact absurd z (by decide)) (λy=>by rw[y]at a6;cases a6)),a6,a7,a8⟩
  refine B5 ((F _ Pd (C5 Pb) auy alK).run zg [] dD H ⟨[.ref a], []⟩ [.ref a] [.ref a] _ _ hr e0 (Yq dD (.ref a)) (.cons rfl .nil) (tw H hO hS)) λr s' h=> ?_;cases r with
  |error e=>exact(GV H e s' h).elim
  |ok fl=>
   cases fl with
   |next=>exact pj h
   |brk=>exact pj h
   |cont=>exact pj h
   |ret u=>
    obtain⟨v,H',os,bare,un,Yt,r',q⟩:=h;have q':v= .bl true:=q;subst q';obtain rfl:u=zj true:=r';obtain⟨more,eT⟩:=un.qd P0 qs hO.1;obtain⟨ps,asd,_⟩:=Yt P0 _ eT;have keep:∀b o,b≠P0->dD.heap.get? b=some o->s'.heap.get? b=some o:=λb o hb e=>by
     cases q:H b with
     |none=>exact un.keep b o e q (by intro z;exact absurd (show b∈([]:List Addr) from z) (by simp)) (by simp)
     |some u=>
      rcases hO.2 b hb with z | ⟨ob,xs,z⟩
      ·rw[q]at z;cases z
      ·have z2:=un.l7 b ob _ z;obtain⟨e1,_⟩:=aQ b _ z;obtain⟨e2,_⟩:=Yt b _ z2;rw[e]at e1;cases e1;exact e2
    refine⟨rfl,⟨λb o e=> ?_,λb o e=> ?_⟩,os,bare⟩
    ·by_cases so:b=P0
     ·subst so;rw[hP]at e;cases e;refine .inr (.inl ⟨(hC.tab hP).isCodeTable,rfl,#[],ps,rfl, ?_⟩);rw[Array.empty_append];exact asd
     ·exact .inl (keep b o so e)
    ·by_cases so:b=P0
     ·exact⟨_,so▸asd⟩
     ·exact⟨o,keep b o so e⟩
 have aay:∀{H:Hp},gr P w H dD.heap P0 (.u6 qs):=λ{H}=>⟨#[],hP,trivial,λpos cv h=>(nomatch h)⟩
 cases hk:K.lookup a with
 |some o=>
  have e:=KX a o hk;rw[ha]at e;cases e;refine core (λb=>if b=P0 then some (.u6 qs) else none) ⟨if_pos rfl,λb hb=> .inl (if_neg hb)⟩ (.inr ⟨_,vs.toArray,_,hk,rfl,rfl,rfl,by rw[fM,Yr];exact hl,by simpa using rv⟩) (λb u z=> ?_) (λb z=> ?_) λz=>absurd (if_neg asb) z
  ·by_cases hb:b=P0
   ·have z':=(if_pos hb).symm.trans z;cases z';subst hb;exact aay
   ·have z':=(if_neg hb).symm.trans z;cases z'
  ·by_cases hb:b=P0
   ·exact .inr hb
   ·exact absurd (if_neg hb) z
 |none=>
  refine core (λb=>if b=P0 then some (.u6 qs) else if b=a then some (.b9 { cls:= .type "list",data:= .seq vs.toArray } (.lst (ns.map V.int))) else none) ⟨if_pos rfl,λb hb=> ?_⟩ (.inl (.inr ⟨{ cls:= .type "list",data:= .seq vs.toArray },(if_neg asb).trans (if_pos rfl)⟩)) (λb u z=> ?_) (λb z=> ?_) λ_=>hk
  ·by_cases uB:b=a
   ·exact .inr ⟨_,_,(if_neg hb).trans (if_pos uB)⟩
   ·exact .inl ((if_neg hb).trans (if_neg uB))
  ·by_cases hb:b=P0
   ·have z':=(if_pos hb).symm.trans z;cases z';subst hb;exact aay
   ·by_cases uB:b=a
    ·have z':=((if_neg hb).trans (if_pos uB)).symm.trans z;cases z';subst uB;exact⟨ha,by rw[eG];exact hl,vs,_,rv,ha⟩
    ·have z':=((if_neg hb).trans (if_neg uB)).symm.trans z;cases z'
  ·by_cases hb:b=P0
   ·exact .inr hb
   ·by_cases uB:b=a
    ·exact .inl uB
    ·exact absurd ((if_neg hb).trans (if_neg uB)) z
theorem auA{l:W.OpenLaw}{n k:Nat}{q:Program}{loose:List Str}{XP:(Str->Option Value)->Heap->Prop}{YP:World->Heap->Prop}{d:DefRec}{K:Params->ah}{CX:World->rh}{sp:World->Sp}{x:Str}{c0 P0:Addr}{qs:Array Value}{x0:Str}{d0:DefRec}
  (hn:l.most=some n) (CS:n<=aM) (Aq:d.params.defaults= []) (hr:gf k zg)
  (hY:∀(w:World) (h:Heap),YP w h->(K w.params).In h)
  (ap4:(recsOf q).find? (λe=>e.name == x0)=some d0) (ht:∀w:World,arC (K w.params) x0=some (c0,P0)) (aog:∀w:World,(K w.params).lookup P0=none)
  (F:∀(w:World) (mg:Str->Option Value) (fa:Addr) (h:Heap),(K w.params).In h->h.Ns jN mg->mg d.name=some (.ref fa)->
   ∃fd:kK,(∀(s:Shared) (u:Value),B4 s fd ⟨[u], []⟩ [(x,u)])/\
    ∀base:Heap,(K w.params).In base->base.Ns jN mg->wV base c0 P0->base.BuiltinsAt mg P0->bZ l.prog w (K w.params) mg base (CX w) k fa fd [x] (sp w))
  (tw:∀(w:World) (H:Hp) (a:Addr) (ns:List Int),ns.length<=n->aoU P0 qs H->cI (K w.params) H a (ns.map V.int)->sp w [.ref a] H (λv _=>v= .bl true) λ_ _ _=>False)
  (GV:∀(w:World) (H:Hp) (s:Shared) (e:Value) (s':Shared),CX w [] H s (λ_ _ _=>False) e s'->False):
  W.WalkO q loose XP YP l.row.toRowW d [] (λf vs=>VS f vs):=by
 refine Pa.Ym hn Aq λw gT dD mg mb fa o pm cd doc a vs ns G Y ho hd pB hmg GU hints dw hg=> ?_;have KX:=hY w _ Y;obtain⟨fd,hb,hF⟩:=F w mg fa _ KX G.T.g hmg;obtain⟨hC,hP⟩:=W.tab_of G.T KX ap4 (ht w);obtain⟨bm,ob,b1,b2,b3,b4,b5,b6⟩:=G.T.bmain;have so:bm≠P0:=λz=>by rw[z,hP]at b3;cases b3;cases b4
 have auB:bm≠jN:=λz=>by
  obtain⟨o,es,ep,e,hd,_⟩:=G.T.g;rw[z,e]at b3;cases b3;rw[hd]at b6;cases b6
 exact auw KX G.T.g G.T.b G.T.builtins G.T.nolimit hg GU hints (b7 dw CS) hr hC hP (aog w) ⟨bm,ob,b1,b2,auB,so,b3,b4,b5,b6⟩ hF hb (λH hO hS=>tw w H a ns dw hO hS) λH e s'=>GV w H dD e s'
end L2
namespace VL
open PySem PySem.Spec PyProof.Rows L2
def spT(P0:Addr)(qs:Array Value)(sp:Sp):Sp:=λvs H Q E=>(∃more,H P0=some (.u6 (qs++more)))/\sp vs H Q E
section
variable {P:Program}{w:World}{K:ah}{mg:Str->Option Value}{base:Heap}
theorem cY.aay{x qual:Str}{st:Stmt}{f c P0:Addr}{qs:Array Value}{fd:kK}{N ps:List Str}{k:Nat}{sp:Sp}(F:cY K x qual st f fd)(hc:fd.code= .ref c)(S:dr N ps (cb st))(len:∀vs H Q E,sp vs H Q E->vs.length=ps.length)
  (ahf:∀(A:Around) (outer:List Env) (s:Shared) (H:Hp) (vs:List V) (Q:VK) (E:XK) (more:Array Value),H P0=some (.u6 (qs++more))->gf k (A.deeper (envOfC qual (cb st) s.heap.objs.size f (.ref c)))->sp vs H Q E->
   ∃t,jc (rj cG P w K mg base N qual (cb st) f (.ref c) A outer s H E).ve (mS st) t/\t { nx:=λ_ H'=>Q .aG H',rt:=Q } (start N vs) H):bZ P w K mg base cG (k + 1) f fd ps (spT P0 qs sp):=by
 obtain⟨oc,od,kV,doc,pm,an,dB,ct,mO,rfl,lk,pB⟩:=F.ex;obtain rfl:dB= .ref c:=hc;refine XC lk pB S (λvs H Q E h=>len vs H Q E h.2) λA outer s H vs Q E hr tw=> ?_;obtain⟨⟨more,eT⟩,tw⟩:=tw;obtain⟨t,h,q⟩:=ahf A outer s H vs Q E more eT hr tw;exact⟨t,jc.ve h,q⟩
theorem auC{x q:Str}{st:Stmt}{f c P0:Addr}{qs:Array Value}{fd:kK}{N ps:List Str}{k n:Nat}{mk:List Bool}{t:TS}{g:En->Option Fl}(F:cY K x q st f fd)(hc:fd.code= .ref c)(S:dr N ps (cb st))
  (h:∀A outer s H E more,H P0=some (.u6 (qs++more))->gf k (A.deeper (envOfC q (cb st) s.heap.objs.size f (.ref c)))->jc (rj cG P w K mg base N q (cb st) f (.ref c) A outer s H E).ve (mS st) t) [I:SS K n t g]
  (hn:N.length=n:=by rfl) (hm:ps.length=mk.length:=by rfl) (hl:mk.length<=n:=by decide):bZ P w K mg base cG (k + 1) f fd ps (spT P0 qs (dW K mk (dG n mk g))):=by
 subst hn;exact cY.aay F hc S (λvs H Q E h=>h.1.trans hm.symm) λA outer s H vs Q E more eT hr q=>⟨t,h A outer s H E more eT hr,aao (S:=I) q hl⟩
theorem auD{x q:Str}{st:Stmt}{f c P0:Addr}{qs:Array Value}{fd:kK}{N ps:List Str}{k n m:Nat}{t:TS}{g:En->Option Fl}(F:cY K x q st f fd)(hc:fd.code= .ref c)(S:dr N ps (cb st))
  (h:∀A outer s H E more,H P0=some (.u6 (qs++more))->gf k (A.deeper (envOfC q (cb st) s.heap.objs.size f (.ref c)))->jc (rj cG P w K mg base N q (cb st) f (.ref c) A outer s H E).ve (mS st) t) [I:SS K n t g]
  (hn:N.length=n:=by rfl) (hm:ps.length=m:=by rfl) (hl:m<=n:=by decide):bZ P w K mg base cG (k + 1) f fd ps (spT P0 qs (ee K m (bV n g))):=by
 subst hn;subst hm;exact cY.aay F hc S (λvs H Q E h=>Q7 h) λA outer s H vs Q E more eT hr q=>⟨t,h A outer s H E more eT hr,Qx (S:=I) q hl⟩
end
section
theorem auE{p pos:Pos}{e:Expr}{es:List Expr}{t:TA}(C:dt X.prog X.w X.K X.mg X.base x ps k (spT P0 qs sp))(hT:X.sS P0=some (.u6 (qs++more)))(hr:gf j X.A)(hg:Gl X x)
  (ha:PA X (e::es) t) (hj:k<=j:=by decide) (lF:(x == ("__debug__":Str))=false:=by decide) (he:dz (e::es) X.env=(false,eval e X.env)::dz es X.env:=by rfl) (dM:(backTo pos (dz es X.env)).any (·.1)=false:=by rfl):
  PE X (.Call (.Name x p) (e::es) [] pos) (og sp [] E0 t):=by
 obtain⟨f,fd,F,hb,hk,hm⟩:=C.ex;intro ab s σ H Q I h;refine FJ (CD I hg hm ?_ lF);refine arz (h₀:=X.base) I.ok.mod.Cw hk (bh (ha pos ab s σ H _ I h) λus s1 ⟨vs,H1,I1,r,q⟩=>⟨I1.fN, ?_⟩) he dM;obtain⟨m2,e2⟩:=I1.base.qd P0 _ hT;exact OO F (hr.mono hj) hb .nil GW I1 r ⟨⟨more++m2,by rw[e2,awG]⟩,q⟩
variable {K:ah}{n m:Nat}{H H' H1 H2:Hp}{U U':Addr->Prop}{σ aF hv:List (Option V)}{Z ρ':En}{τv vs:List V}{τd ds:List D}{d:D}
end
end VL
namespace L2
open PySem PySem.Spec PyProof.Rows PySem.W
section
variable {w:World}{A:Around}{s:Shared}
end
section
variable {X:Cx}{e:Expr}{te:TE}{lo hi:Option Expr}{st:Expr}{pos p2:Pos}{l u:Int}
end
section
end
end L2
namespace VL
open PySem PySem.Spec PyProof.Rows L2
section
variable {K:ah}{n:Nat}{H H' H1 H2:Hp}{U U':Addr->Prop}{σ hv:List (Option V)}{Z ρ':En}{τv vs:List V}{τd ds:List D}{v y:V}{d:D}{N:Addr->Prop}
end
end VL
namespace L2
open PySem PySem.Spec PyProof.Rows PySem.W
end L2
namespace VL
open PySem PySem.Spec PyProof.Rows L2
section
variable {K:ah}{n:Nat}{H H' H1 H2:Hp}{U U':Addr->Prop}{σ hv:List (Option V)}{Z ρ':En}{τv vs:List V}{τd ds:List D}{v y:V}{d:D}
end
end VL
namespace L2
open PySem PySem.Spec PyProof.Rows PySem.W
end L2
namespace VL
open PySem PySem.Spec PyProof.Rows L2
section
variable {K:ah}{n:Nat}{H H' H1 H2:Hp}{U U':Addr->Prop}{σ hv:List (Option V)}{Z ρ':En}{τv vs:List V}{τd ds:List D}{v y:V}{d:D}
end
section
variable {K:ah}{n:Nat}{H H' H1 H2:Hp}{U U':Addr->Prop}{σ hv:List (Option V)}{Z ρ':En}{τv vs:List V}{τd ds:List D}{d:D}{E:XK}
end
end VL
namespace L2
open PySem PySem.Spec PyProof.Rows
end L2
namespace VL
open PySem PySem.Spec PyProof.Rows L2
section
variable {K:ah}{n:Nat}{H H' H1 H2:Hp}{U U':Addr->Prop}{σ hv:List (Option V)}{Z ρ':En}{τv vs:List V}{τd ds:List D}{d:D}{N:Addr->Prop}{E:XK}
end
section
variable {X:Cx}{K:ah}{a b e o:Expr}{ta tb te:TE}{p pos pos':Pos}{x f:Str}
variable {tv:TE}
noncomputable def Nj:Expr->Bool
 |.Starred ..=>true
 |_=>false
theorem acC{e:Expr}(h:Nj e=false):dz (e::es) env=(false,eval e env)::dz es env:=by
 cases e <;> first | rfl | cases h
theorem cU(ha:PE X e te)(hr:PA X es t)(h:Nj e=false:=by rfl):PA X (e::es) (di te t):=fJ ha hr (acC h)
end
end VL
set_option synthInstance.maxHeartbeats 1000000
set_option synthInstance.maxSize 4000
namespace K26
open PySem L2 VL
theorem hg:∀(M:D),aI M []=some M:=λM=>by cases M <;> rfl
theorem alF:∀(M e:D),aZ M [] e=e:=λM e=>by cases M <;> rfl
noncomputable def top (i:Nat):Stmt:=PySem.Challenge.pw_farshelf_k26_voices.main.body.getD i (.Pass ⟨0,0,0,0⟩)
abbrev JL:Stmt:=top 20
abbrev JM:Stmt:=top 21
abbrev ap5:Stmt:=top 22
abbrev JN:Stmt:=top 23
abbrev ap6:Stmt:=ah8 (top 5) 0
abbrev ap7:Stmt:=top 25
abbrev JI:Stmt:=top 24
abbrev ap8:Stmt:=top 11
abbrev ap9:Stmt:=top 6
abbrev aqa:Stmt:=top 14
abbrev aqb:Stmt:=top 18
abbrev aqc:Stmt:=top 2
abbrev aqd:Stmt:=top 8
abbrev aqe:Stmt:=top 15
abbrev aqf:Stmt:=top 3
abbrev aqg:Stmt:=top 9
abbrev aqh:Stmt:=top 10
abbrev aqi:Stmt:=top 12
abbrev aqj:Stmt:=top 13
abbrev aqk:Stmt:=top 16
abbrev aql:Stmt:=top 17
abbrev aqm:Stmt:=ah8 (top 5) 5
abbrev Ku:Stmt:=top 26
abbrev aqn:Stmt:=top 29
abbrev aqo:Stmt:=top 27
abbrev aqp:Stmt:=top 30
abbrev aqq:Stmt:=top 7
abbrev aqr:Stmt:=ah8 (top 5) 1
abbrev aqs:Stmt:=top 28
abbrev aqt:Stmt:=top 31
abbrev yz:Stmt:=top 32
structure bM(mg:Str->Option Value):Prop where
 k8:mg "len"=none
 Bj:mg "range"=none
 rY:mg "list"=none
 Kv:mg "tuple"=none
 yA:mg "int"=none
 acP:mg "max"=none
 acQ:mg "min"=none
 pV:mg "all"=none
 acR:mg "any"=none
 rZ:mg "isinstance"=none
 Kw:mg "str"=none
 acS:mg "bool"=none
 alG:mg "dict"=none
 we:mg "sorted"=none
theorem ac9:dr ["_law_script","_law_k"] ["_law_script","_law_k"] (cb JL):=d8
theorem Sy:dr ["_law_cell","_law_k","_law_m"] ["_law_cell","_law_k"] (cb JM):=d8
theorem aoV:dr ["_law_cell","_law_k","_law_number","_law_j"] ["_law_cell","_law_k"] (cb ap5):=d8
theorem Bl:dr ["_law_script","_law_k","_law_cell"] ["_law_script","_law_k"] (cb JN):=d8
theorem auF:dr ["self","number","many"] ["self","number","many"] (cb ap6):=d8
theorem auG:dr ["_law_one"] ["_law_one"] (cb ap7):=d8
theorem Sx:dr ["_law_left_here","_law_many","_law_digit"] ["_law_left_here","_law_many"] (cb JI):=d8
theorem auH:dr ["master","many"] ["master","many"] (cb ap8):=d8
theorem auI:dr ["master"] ["master"] (cb ap9):=d8
theorem aqu:dr ["master","sizes","common"] ["master"] (cb aqa):=d8
theorem auJ:dr ["master","sender","term","size"] ["master","sender","term","size"] (cb aqb):=d8
theorem auK:dr ["value"] ["value"] (cb aqc):=d8
theorem ase:dr ["master","rows"] ["master"] (cb aqd):=d8
theorem auL:dr ["master","sender","term"] ["master","sender","term"] (cb aqe):=d8
theorem auM:dr ["value"] ["value"] (cb aqf):=d8
theorem asf:dr ["master","rows","fixed"] ["master","rows"] (cb aqg):=d8
theorem aqv:dr ["master","rows","size"] ["master","rows"] (cb aqh):=d8
theorem auN:dr ["voice"] ["voice"] (cb aqi):=d8
theorem ash:dr ["master","greatest"] ["master"] (cb aqj):=d8
theorem auO:dr ["master","sender","term","of","rows"] ["master","sender","term","of","rows"] (cb aqk):=d8
theorem auP:dr ["master","sender","term","rows","done"] ["master","sender","term","rows","done"] (cb aql):=d8
theorem auQ:dr ["self","message"] ["self","message"] (cb aqm):=d8
theorem KD:dr ["_law_term","_law_many"] ["_law_term","_law_many"] (cb Ku):=d8
theorem aqw:dr ["_law_left_here","_law_one","_law_of","_law_rows_here"] ["_law_left_here","_law_one"] (cb aqn):=d8
theorem asi:dr ["_law_found","_law_due","_law_message"] ["_law_found","_law_due"] (cb aqo):=d8
theorem uC:dr ["_law_left_here","_law_one","_law_turn","_law_term","_law_due","_law_ahead","_law_sender","_law_found"] ["_law_left_here","_law_one"] (cb aqp):=d8
theorem asj:dr ["master","least"] ["master"] (cb aqq):=d8
theorem auR:dr ["self"] ["self"] (cb aqr):=d8
theorem asl:dr ["_law_left_here","_law_below","_law_of"] ["_law_left_here","_law_below"] (cb aqs):=d8
theorem nI:dr ["_law_left_here","_law_one","_law_voices","_law_turn","_law_sender","_law_term","_law_of","_law_rows_here","_law_ahead","_law_best"] ["_law_left_here","_law_one"] (cb aqt):=d8
section
variable (P:Program)(w:World)(K:ah)(mg:Str->Option Value)(base:Heap)(Cm:Addr)[eQ K Cm]
def aqx: {g:oG K Cm // ∀{P w mg base f fd},cY K "_law_fields" "_law_fields" ap7 f fd->bM mg->bZ P w K mg base cG 1 f fd ["_law_one"] (ee K 1 (bV 1 g))}:=⟨_,λF T=>iy F auG λ_ _ _ _ _ _ hr=>(bu (eZ (cU (fY (pv 0)) (cU (fY (pv 0)) (cU (fY (pv 0)) (cU (fY (pv 0)) (cU (apY (aoQ T.rY (fY (pv 0)))) (a9 (fY (pv 0)) (fY (pv 0))))))))))⟩
def kT:List D->Option D:=bV 1 (aqx K Cm).1
abbrev aoW:Prop:=dt P w K mg base "_law_fields" ["_law_one"] 1 (ee K 1 (kT K Cm))
def aoX: {g:oG K Cm // ∀{P w mg base f fd},cY K "_law_is_told" "_law_is_told" aqo f fd->bM mg->bZ P w K mg base cG 1 f fd ["_law_found","_law_due"] (ee K 2 (bV 3 g))}:=⟨_,λF T=>iy F asi λ_ _ _ _ _ _ hr=>(aL (bS (PW.pt (F7 (oa (l9 (fK (r:=j4 K "list") tX rfl T.rZ uY (a9 (pv 0) (qf (v:= .ty "list") rfl T.rY uX rfl))))) (F6 (d6 (one hr.units) (pv 0) (pv 1)))))
   (bu zD) cQ)
  (aL (tq sQ rfl (lV (pv 0)) (iG 2 asi.nd)
   (aL (bS (PW.pt (F7 (oa (l9 (fK (r:=j4 K "tuple") tX rfl T.rZ uY (a9 (pv 2) (qf (v:= .ty "tuple") rfl T.Kv aox rfl))))) (F6 (l9 (fK (r:=(ID K)) (abd rfl) rfl T.acR PyProof.Rows.boot_any (cJ (jw [none] ["_law_part"] rfl (jI trivial) (lV (pv 2)) (λ_ _ _ _ _ _=>(iG 0 lQ)) (λ_ _ _ _ _ _=>ko) (λ_ _ _ _ _ _=>(fK (r:=j4 K "bool") tX rfl T.rZ uY (a9 (pv 0) (qf (v:= .ty "bool") rfl T.acS PyProof.Rows.boot_bool rfl)))))))))))
   (bu zD) cQ)
  (dY (bS (oa (l9 (fK (r:=(mw K)) (pN rfl) rfl T.pV qV (cJ (jw [none] ["_law_part"] rfl (jI trivial) (lV (pv 2)) (λ_ _ _ _ _ _=>(iG 0 lQ)) (λ_ _ _ _ _ _=>ko) (λ_ _ _ _ _ _=>(fK (r:=D1 K) aaR rfl T.rZ uY (a9 (pv 0) (eZ (cU (qf (v:= .ty "int") rfl T.yA Cu rfl) (a9 (qf (v:= .ty "str") rfl T.Kw PyProof.Rows.boot_str rfl) (qf (v:= .ty "tuple") rfl T.Kv aox rfl))))))))))))
   (bu zD) cQ))))
  (bu zD)))⟩
def wz:List D->Option D:=bV 3 (aoX K Cm).1
abbrev auS:Prop:=dt P w K mg base "_law_is_told" ["_law_found","_law_due"] 1 (ee K 2 (wz K Cm))
def KG: {g:oG K Cm // ∀{P w mg base f fd},cY K "_law_pick" "_law_pick" JI f fd->bM mg->bZ P w K mg base cG 1 f fd ["_law_left_here","_law_many"] (dW K [true,false] (dG 3 [true,false] g))}:=⟨_,λF T=>k7 F Sx λ_ _ _ _ _ _ hr=>(aL (bS (PW.pt (zF (d6 (fX hr.units) (pxx hr (pv 0) aA) aA) (zE (d6 Gq (pln T.k8 (pv 0)) aA))))
   (dY (WK (abN (pv 0)) (WJ (pv 0) aA ah7))) cQ)
  (aL (bX 2 Sx.nd (cF Ae (pxx hr (pv 0) aA) (pv 1)))
  (aL (WK (cF Pq (pxx hr (pv 0) aA) (pv 1)) (WJ (pv 0) aA ah7))
  (bu (pv 2)))))⟩
def Bp:List D->Option (D×List D):=dG 3 [true,false] (KG K Cm).1
abbrev ur:Prop:=dt P w K mg base "_law_pick" ["_law_left_here","_law_many"] 1 (dW K [true,false] (Bp K Cm))
abbrev asm(K:ah)(Cm:Addr)[eQ K Cm](Gs:List D->Option D):TS:=(sX (xu (tB (jU (j4 K "tuple") (di (f9 0) (di (tC (.ty "tuple")) fz))))
   (qi (jU (mw K) (di (xH (vV K (f9 0)) (lB 0) Dm (og (ee K 1 Gs) [] E0 (di (f9 0) fz)) [none]) fz))) xt)
  (qi (F8 (jU (D1 K) (di (f9 0) (di (Ai (di (tC (.ty "list")) (di (tC (.ty "dict")) fz))) fz))))))
def aoY(K:ah)(Cm:Addr)[eQ K Cm](Gs:List D->Option D): {f:En->Option Fl // SS K 1 (asm K Cm Gs) f}:=⟨_,inferInstance⟩
noncomputable def aoZ (K:ah) (Cm:Addr) [eQ K Cm] (Gs:List D->Option D):En->Option Fl:=(aoY K Cm Gs).1
def rB(K:ah)(Cm:Addr)[eQ K Cm]:Nat->List D->Option D
 |0=>λ_=>none
 |m + 1=>bV 1 (aoZ K Cm (rB K Cm m))
def ao0(K:ah)(Cm:Addr)[eQ K Cm]:List D->Option D:=rB K Cm 3
abbrev auT:Prop:=dt P w K mg base "is_fixed" ["value"] 4 (ee K 1 (ao0 K Cm))
variable {P w K mg base Cm} in
theorem asn{f:Addr}{fd:kK}(F:cY K "is_fixed" "is_fixed" aqf f fd)(T:bM mg)(hb:L2.Binds K fd ["value"] [])(hm:mg "is_fixed"=some (.ref f)):∀m:Nat,bZ P w K mg base cG (1 + m) f fd ["value"] (ee K 1 (rB K Cm m))
 |0=>abe
 |j + 1=>by
  have aoh:=dt.of F hb hm (asn F T hb hm j);refine F.ok auM (λvs H Q E h=>Q7 h) (λdB A outer s H vs Q E hr h=> ?_);exact⟨asm K Cm (rB K Cm j),(aL (bS (l9 (fK (r:=j4 K "tuple") tX rfl T.rZ uY (fJ (pv 0) (fJ (qf (v:= .ty "tuple") rfl T.Kv aox rfl) gk))))
   (dY (vf (fK (r:=(mw K)) (pN rfl) rfl T.pV qV (fJ (jw [none] ["part"] rfl (jI trivial) (QZ (pv 0)) (λ_ _ _ _ _ _=>(Gb (i:=0) lQ rfl (apC rfl))) (λ_ _ _ _ _ _=>ko) (λ_ _ _ _ _ _=>(bC aoh hr rfl (fJ (pv 0) gk) (bO _)))) gk)))) cQ)
  (dY (vf (WG (fK (r:=D1 K) aaR rfl T.rZ uY (fJ (pv 0) (fJ (eZ (fJ (qf (v:= .ty "list") rfl T.rY uX rfl) (fJ (qf (v:= .ty "dict") rfl T.alG awT rfl) gk))) gk))))))),Qx (S:=(aoY K Cm (rB K Cm j)).2) h (by decide)⟩
end
section
variable (P:Program)(w:World)(K:ah)(mg:Str->Option Value)(base:Heap)(Cm:Addr)[eQ K Cm]
abbrev aso(K:ah)(Cm:Addr)[eQ K Cm](Gs:List D->Option D):TS:=(sX (xu (tB (jU (j4 K "list") (di (f9 0) (di (tC (.ty "list")) fz))))
   aoz xt)
  (sX (xu (tB (jU (j4 K "tuple") (di (f9 0) (di (tC (.ty "tuple")) fz))))
   (qi (jU (NM K) (di (xH (vV K (f9 0)) (lB 0) Dm (og (ee K 1 Gs) [] E0 (di (f9 0) fz)) [none]) fz))) xt)
  (sX (xu (tB (jU (j4 K "dict") (di (f9 0) (di (tC (.ty "dict")) fz))))
   aoz xt)
  (qi (f9 0)))))
def ao1(K:ah)(Cm:Addr)[eQ K Cm](Gs:List D->Option D): {f:En->Option Fl // SS K 1 (aso K Cm Gs) f}:=⟨_,inferInstance⟩
noncomputable def ao2 (K:ah) (Cm:Addr) [eQ K Cm] (Gs:List D->Option D):En->Option Fl:=(ao1 K Cm Gs).1
def rF(K:ah)(Cm:Addr)[eQ K Cm]:Nat->List D->Option D
 |0=>λ_=>none
 |m + 1=>bV 1 (ao2 K Cm (rF K Cm m))
def ao3(K:ah)(Cm:Addr)[eQ K Cm]:List D->Option D:=rF K Cm 3
abbrev aqy:Prop:=dt P w K mg base "own_copy" ["value"] 4 (ee K 1 (ao3 K Cm))
variable {P w K mg base Cm} in
theorem asp{f:Addr}{fd:kK}(F:cY K "own_copy" "own_copy" aqc f fd)(T:bM mg)(hb:L2.Binds K fd ["value"] [])(hm:mg "own_copy"=some (.ref f)):∀m:Nat,bZ P w K mg base cG (1 + m) f fd ["value"] (ee K 1 (rF K Cm m))
 |0=>abe
 |j + 1=>by
  have rG:=dt.of F hb hm (asp F T hb hm j);refine F.ok auK (λvs H Q E h=>Q7 h) (λdB A outer s H vs Q E hr h=> ?_);exact⟨aso K Cm (rF K Cm j),(aL (bS (l9 (fK (r:=j4 K "list") tX rfl T.rZ uY (fJ (pv 0) (fJ (qf (v:= .ty "list") rfl T.rY uX rfl) gk))))
   arF cQ)
  (aL (bS (l9 (fK (r:=j4 K "tuple") tX rfl T.rZ uY (fJ (pv 0) (fJ (qf (v:= .ty "tuple") rfl T.Kv aox rfl) gk))))
   (dY (vf (oh (r:=(NM K)) arN rfl T.Kv aox (fJ (jw [none] ["part"] rfl (jI trivial) (QZ (pv 0)) (λ_ _ _ _ _ _=>(Gb (i:=0) lQ rfl (apC rfl))) (λ_ _ _ _ _ _=>ko) (λ_ _ _ _ _ _=>(bC rG hr rfl (fJ (pv 0) gk) (bO _)))) gk)))) cQ)
  (aL (bS (l9 (fK (r:=j4 K "dict") tX rfl T.rZ uY (fJ (pv 0) (fJ (qf (v:= .ty "dict") rfl T.alG awT rfl) gk))))
   arF cQ)
  (dY (vf (pv 0)))))),Qx (S:=(ao1 K Cm (rF K Cm j)).2) h (by decide)⟩
end
section
variable (P:Program)(w:World)(K:ah)(mg:Str->Option Value)(base:Heap)(Cm:Addr)[eQ K Cm]
def aqz: {g:oG K Cm // ∀{P w mg base f fd},cY K "take_behind" "take_behind" aqg f fd->bM mg->auT P w K mg base Cm->aqy P w K mg base Cm->bZ P w K mg base cG 5 f fd ["master","rows"] (dW K [true,false] (dG 3 [true,false] g))}:=⟨_,λF T aoh rG=>k7 F asf λ_ _ _ _ _ _ hr=>(aL (bX 2 asf.nd (bC aoh hr rfl (cJ (pv 1))))
  (aL (IW (pv 0) (cF fF (fY (pv 0)) (aoQ T.rY (Oj (l9 (pv 2)) (pv 1) (bC rG hr rfl (cJ (pv 1)))))))
  (dY (IW (pv 0) (ra (fY (pv 0)) (qg (pv 2)))))))⟩
def aqA:List D->Option (D×List D):=dG 3 [true,false] (aqz K Cm).1
abbrev auU:Prop:=dt P w K mg base "take_behind" ["master","rows"] 5 (dW K [true,false] (aqA K Cm))
def ao4: {g:oG K Cm // ∀{P w mg base f fd},cY K "take_rows" "take_rows" aqh f fd->bM mg->auU P w K mg base Cm->bZ P w K mg base cG 6 f fd ["master","rows"] (dW K [true,false] (dG 3 [true,false] g))}:=⟨_,λF T aqB=>k7 F aqv λ_ _ _ _ _ _ hr=>(aL (bX 2 aqv.nd (pln T.k8 (fY (pv 0))))
  (aL (bS (d6 (one hr.units) (xB (r:=oR K) yh (pv 1) OX (kR (pv 2))) (Sz T.Kv (fY (pv 0))))
   (aL (bX 2 aqv.nd aA)
  (aL (IW (pv 0) (iX gk))
  (dY (IW (pv 0) zD)))) cQ)
  (dY (tO (bC aqB hr rfl (a9 (pv 0) (xB (r:=oR K) yh (pv 1) (kR (pv 2)) OX)))))))⟩
def ao5:List D->Option (D×List D):=dG 3 [true,false] (ao4 K Cm).1
abbrev asq:Prop:=dt P w K mg base "take_rows" ["master","rows"] 6 (dW K [true,false] (ao5 K Cm))
def aoi: {g:oG K Cm // ∀{P w mg base f fd},cY K "hear_keep" "hear_keep" aql f fd->bM mg->asq P w K mg base Cm->bZ P w K mg base cG 8 f fd ["master","sender","term","rows","done"] (dW K [true,false,false,false,false] (dG 5 [true,false,false,false,false] g))}:=⟨_,λF T S0=>k7 F auP λ_ _ _ _ _ _ hr=>(aL (bS (d6 W0 (pv 2) (fY (pv 0)))
   (bu (iX gk)) cQ)
  (aL (IW (pv 0) (pv 2))
  (aL (IW (pv 0) aC)
  (aL (bS (PW.pt (F7 (d6 W0 (fY (pv 0)) (pv 2)) (F6 (d6 Gq (pln T.k8 (pv 3)) (pln T.k8 (fY (pv 0)))))))
   (aL (tO (bC S0 hr rfl (a9 (pv 0) (pv 3))))
  (dY (IW (pv 0) (pv 2)))) cQ)
  (aL (IW (pv 0) (fK (r:=Im) (aaO rfl) rfl T.acP Nx (a9 (fY (pv 0)) (fK (r:=Ip) (aaP rfl) rfl T.acQ atz (a9 (pv 4) (pln T.k8 (fY (pv 0))))))))
  (bu (iX (cJ (eZ (cU aC (cU (fY (pv 0)) (cU (pv 1) (a9 (pv 2) (pln T.k8 (fY (pv 0))))))))))))))))⟩
def aoj:List D->Option (D×List D):=dG 5 [true,false,false,false,false] (aoi K Cm).1
abbrev auV:Prop:=dt P w K mg base "hear_keep" ["master","sender","term","rows","done"] 8 (dW K [true,false,false,false,false] (aoj K Cm))
def aqC: {g:oG K Cm // ∀{P w mg base f fd},cY K "is_most" "is_most" ap8 f fd->bM mg->bZ P w K mg base cG 1 f fd ["master","many"] (ee K 2 (bV 2 g))}:=⟨_,λF T=>iy F auH λ_ _ _ _ _ _ hr=>(bu (A6 Gq (cF tu aA (pv 1)) (fY (pv 0))))⟩
def aqD:List D->Option D:=bV 2 (aqC K Cm).1
abbrev asr:Prop:=dt P w K mg base "is_most" ["master","many"] 1 (ee K 2 (aqD K Cm))
def aqE: {g:oG K Cm // ∀{P w mg base f fd},cY K "others" "others" ap9 f fd->bM mg->bZ P w K mg base cG 1 f fd ["master"] (ee K 1 (bV 1 g))}:=⟨_,λF T=>iy F auI λ_ _ _ _ _ _ hr=>(bu (jw [none,some 0] ["number","master"] rfl (jI ⟨⟨rfl,rfl, .inl rfl⟩,trivial⟩) (CL rfl T.Bj (cJ (fY (pv 0)))) (λ_ _ _ _ _ _=>(iG 0 (by decide +kernel:(["number","master"]:List Str).Nodup))) (λ_ _ _ _ _ _=>(PD (d6 (one hr.units) (pv 0) (fY (pv 1))))) (λ_ _ _ _ _ _=>(pv 0))))⟩
def ao6:List D->Option D:=bV 1 (aqE K Cm).1
abbrev ass:Prop:=dt P w K mg base "others" ["master"] 1 (ee K 1 (ao6 K Cm))
def aqF: {g:oG K Cm // ∀{P w mg base f fd},cY K "count_done" "count_done" aqa f fd->bM mg->ass P w K mg base Cm->asr P w K mg base Cm->bZ P w K mg base cG 3 f fd ["master"] (dW K [true] (dG 3 [true] g))}:=⟨_,λF T Up UN=>k7 F aqu λ_ _ _ _ _ _ hr=>(aL (bX 1 aqu.nd (cF fF (jw [none,some 0] ["other","master"] rfl (jI ⟨⟨rfl,rfl, .inl rfl⟩,trivial⟩) (lV (bC Up hr rfl (cJ (pv 0)))) (λ_ _ _ _ _ _=>(iG 0 (by decide +kernel:(["other","master"]:List Str).Nodup))) (λ_ _ _ _ _ _=>ko) (λ_ _ _ _ _ _=>(vC (cR hr) (fY (pv 1)) (pv 0) aA ⟨rfl,rfl,rfl,rfl⟩))) (iX (cJ (pln T.k8 (fY (pv 0)))))))
  (aL (atN (k:=2) [none,some 0,some 1] ["size","master","sizes"] rfl (jI ⟨⟨rfl,rfl, .inl rfl⟩,⟨⟨rfl,rfl, .inl rfl⟩,trivial⟩⟩) aqu.nd rfl (apC rfl) (lV (pv 1)) (λ_ _ _ _ _ _=>(iG 0 (by decide +kernel:(["size","master","sizes"]:List Str).Nodup))) (λ_ _ _ _ _ _=>(PD (l9 (bC UN hr rfl (a9 (pv 1) (pln T.k8 (jw [none,some 0] ["other","size"] rfl (jI ⟨⟨rfl,rfl,(by first | exact .inl rfl | exact .inr rfl)⟩,trivial⟩) (lV (pv 2)) (λ_ _ _ _ _ _=>(iG 0 (by decide +kernel:(["other","size"]:List Str).Nodup))) (λ_ _ _ _ _ _=>(PD (d6 W2 (pv 0) (pv 1)))) (λ_ _ _ _ _ _=>(pv 0))))))))) (λ_ _ _ _ _ _=>(pv 0)))
  (dY (IW (pv 0) (fK (r:=(apT K)) (at7 rfl) rfl T.acP Nx (cJ (cF fF (iX (cJ (fY (pv 0)))) (pv 2))))))))⟩
def aqG:List D->Option (D×List D):=dG 3 [true] (aqF K Cm).1
abbrev auW:Prop:=dt P w K mg base "count_done" ["master"] 3 (dW K [true] (aqG K Cm))
def aok: {g:oG K Cm // ∀{P w mg base f fd},cY K "hear_kept" "hear_kept" aqb f fd->bM mg->auW P w K mg base Cm->bZ P w K mg base cG 5 f fd ["master","sender","term","size"] (dW K [true,false,false,false] (dG 4 [true,false,false,false] g))}:=⟨_,λF T aqH=>k7 F auJ λ_ _ _ _ _ _ hr=>(aL (bS (PW.pt (zF (d6 (fX hr.units) (fY (pv 0)) aC) (zE (d6 (fX hr.units) (pv 2) (fY (pv 0))))))
   (aL (lH (cR hr) (fY (pv 0)) (pv 1) (fK (r:=Im) (aaO rfl) rfl T.acP Nx (a9 (pv 3) (vC (cR hr) (fY (pv 0)) (pv 1) aA ⟨rfl,rfl,rfl,rfl⟩))) rfl)
  (dY (tO (bC aqH hr rfl (cJ (pv 0)))))) cQ)
  (bu (iX gk)))⟩
def aol:List D->Option (D×List D):=dG 4 [true,false,false,false] (aok K Cm).1
abbrev auX:Prop:=dt P w K mg base "hear_kept" ["master","sender","term","size"] 5 (dW K [true,false,false,false] (aol K Cm))
def aqI: {g:oG K Cm // ∀{P w mg base f fd},cY K "rows_told" "rows_told" aqd f fd->bM mg->aqy P w K mg base Cm->bZ P w K mg base cG 5 f fd ["master"] (ee K 1 (bV 2 g))}:=⟨_,λF T rG=>iy F ase λ_ _ _ _ _ _ hr=>(aL (bX 1 ase.nd (Sz T.Kv (fY (pv 0))))
  (bu (Oj (l9 (fY (pv 0))) (pv 1) (bC rG hr rfl (cJ (pv 1))))))⟩
def aqJ:List D->Option D:=bV 2 (aqI K Cm).1
abbrev auY:Prop:=dt P w K mg base "rows_told" ["master"] 5 (ee K 1 (aqJ K Cm))
def ao7: {g:oG K Cm // ∀{P w mg base f fd},cY K "hear_stand" "hear_stand" aqe f fd->bM mg->auY P w K mg base Cm->bZ P w K mg base cG 6 f fd ["master","sender","term"] (dW K [true,false,false] (dG 3 [true,false,false] g))}:=⟨_,λF T aqK=>k7 F auL λ_ _ _ _ _ _ hr=>(aL (bS (d6 xw (pv 2) (fY (pv 0)))
   (bu (iX gk)) cQ)
  (aL (IW (pv 0) (pv 2))
  (aL (IW (pv 0) aC)
  (bu (iX (cJ (eZ (cU aC (cU (fY (pv 0)) (cU (pv 1) (cU (pv 2) (a9 (fY (pv 0)) (bC aqK hr rfl (cJ (pv 0)))))))))))))))⟩
def ao8:List D->Option (D×List D):=dG 3 [true,false,false] (ao7 K Cm).1
abbrev auZ:Prop:=dt P w K mg base "hear_stand" ["master","sender","term"] 6 (dW K [true,false,false] (ao8 K Cm))
def aqL: {g:oG K Cm // ∀{P w mg base f fd},cY K "rank_of_voice" "rank_of_voice" aqi f fd->bM mg->bZ P w K mg base cG 1 f fd ["voice"] (ee K 1 (bV 1 g))}:=⟨_,λF T=>iy F auN λ_ _ _ _ _ _ hr=>(bu (eZ (a9 (pxx hr (pv 0) aA) (pln T.k8 (pxx hr (pv 0) aA)))))⟩
def UT:List D->Option D:=bV 1 (aqL K Cm).1
abbrev au0:Prop:=dt P w K mg base "rank_of_voice" ["voice"] 1 (ee K 1 (UT K Cm))
def ao9: {g:oG K Cm // ∀{P w mg base f fd},cY K "lead_by_voices" "lead_by_voices" aqj f fd->bM mg->asr P w K mg base Cm->au0 P w K mg base Cm->asq P w K mg base Cm->bZ P w K mg base cG 8 f fd ["master"] (dW K [true] (dG 2 [true] g))}:=⟨_,λF T UN aqM S0=>k7 F ash λ_ _ _ _ _ _ hr=>(aL (bS (oa (l9 (bC UN hr rfl (a9 (pv 0) (pln T.k8 (fY (pv 0)))))))
   (dY atD) cQ)
  (aL (bX 1 ash.nd (at1 aqM hr rfl rfl T.acP rfl (cJ (oh (r:=apI) (atV rfl) rfl T.rY uX (cJ (Ra (fY (pv 0))))))))
  (aL (tO (bC S0 hr rfl (a9 (pv 0) (pxx hr (pv 1) aA))))
  (aL (IW (pv 0) (fY (pv 0)))
  (aL (IW (pv 0) aC)
  (dY (IW (pv 0) qo)))))))⟩
def apa:List D->Option (D×List D):=dG 2 [true] (ao9 K Cm).1
abbrev asu:Prop:=dt P w K mg base "lead_by_voices" ["master"] 8 (dW K [true] (apa K Cm))
def aom: {g:oG K Cm // ∀{P w mg base f fd},cY K "hear_voice" "hear_voice" aqk f fd->bM mg->aqy P w K mg base Cm->asu P w K mg base Cm->bZ P w K mg base cG 9 f fd ["master","sender","term","of","rows"] (dW K [true,false,false,false,false] (dG 5 [true,false,false,false,false] g))}:=⟨_,λF T rG UY=>k7 F auO λ_ _ _ _ _ _ hr=>(aL (bS (PW.pt (zF (d6 (fX hr.units) (fY (pv 0)) aC) (zE (d6 (fX hr.units) (pv 2) (fY (pv 0))))))
   (aL (lH (cR hr) (fY (pv 0)) (pv 1) (eZ (a9 (pv 3) (bC rG hr rfl (cJ (pv 4))))) rfl)
  (dY (tO (bC UY hr rfl (cJ (pv 0)))))) cQ)
  (bu (iX gk)))⟩
def aon:List D->Option (D×List D):=dG 5 [true,false,false,false,false] (aom K Cm).1
abbrev au1:Prop:=dt P w K mg base "hear_voice" ["master","sender","term","of","rows"] 9 (dW K [true,false,false,false,false] (aon K Cm))
def UZ: {g:oG K Cm // ∀{P w mg base f fd},cY K "hear" "Master.hear" aqm f fd->bM mg->auZ P w K mg base Cm->au1 P w K mg base Cm->auV P w K mg base Cm->auX P w K mg base Cm->bZ P w K mg base cG 10 f fd ["self","message"] (dW K [true,false] (dG 2 [true,false] g))}:=⟨_,λF T aqN aqO aqP aqQ=>k7 F auQ λ_ _ _ _ _ _ hr=>(aL (bS (d6 (fX hr.units) (pxx hr (pv 1) aA) aC)
   (bu (bC aqN hr rfl (cU (pv 0) (a9 (pxx hr (pv 1) aA) (pxx hr (pv 1) aA))))) cQ)
  (aL (bS (d6 (fX hr.units) (pxx hr (pv 1) aA) aC)
   (bu (bC aqO hr rfl (cU (pv 0) (cU (pxx hr (pv 1) aA) (cU (pxx hr (pv 1) aA) (a9 (pxx hr (pv 1) aA) (pxx hr (pv 1) aA))))))) cQ)
  (aL (bS (d6 (fX hr.units) (pxx hr (pv 1) aA) aC)
   (bu (bC aqP hr rfl (cU (pv 0) (cU (pxx hr (pv 1) aA) (cU (pxx hr (pv 1) aA) (a9 (pxx hr (pv 1) aA) (pxx hr (pv 1) aA))))))) cQ)
  (bu (bC aqQ hr rfl (cU (pv 0) (cU (pxx hr (pv 1) aA) (a9 (pxx hr (pv 1) aA) (pxx hr (pv 1) aA)))))))))⟩
def tE:List D->Option (D×List D):=dG 2 [true,false] (UZ K Cm).1
abbrev apb:Prop:=OK P w K mg base Cm "hear" ["self","message"] 10 (dW K [true,false] (tE K Cm))
def aqR: {g:oG K Cm // ∀{P w mg base f fd},cY K "_law_asked_for" "_law_asked_for" aqp f fd->bM mg->ur P w K mg base Cm->aoW P w K mg base Cm->apb P w K mg base Cm->auS P w K mg base Cm->bZ P w K mg base cG 12 f fd ["_law_left_here","_law_one"] (dW K [true,true] (dG 8 [true,true] g))}:=⟨_,λF T fj k2 nS aqS=>k7 F uC λ_ _ _ _ _ _ hr=>(aL (tq sQ rfl (CL rfl T.Bj (cJ (bC fj hr rfl (a9 (pv 0) aA)))) (iG 2 uC.nd)
   (aL (bX 3 uC.nd (fK (r:=Im) (aaO rfl) rfl T.acP Nx (a9 aA (cF OB (cF fF (fY (pv 1)) (bC fj hr rfl (a9 (pv 0) aA))) aA))))
  (dY (bS (d6 (one hr.units) (cF Ae (pv 3) (fY (pv 1))) (fY (pv 1)))
   (aL (bX 4 uC.nd (iX gk))
  (aL (bX 5 uC.nd (bC k2 hr rfl (cJ (pv 1))))
  (aL (bX 6 uC.nd (cF Ae (pv 3) (fY (pv 1))))
  (aL (bS (d6 Gq (pv 3) (fY (pv 1)))
   (aL (bX 4 uC.nd (iX (cJ (eZ (cU aC (cU (fY (pv 1)) (cU (pv 6) (cU (pv 3) (a9 (fY (pv 1)) (Sz T.Kv (fY (pv 1))))))))))))
  (dY (bX 5 uC.nd (cF fF (cF fF (cF fF (xB (r:=oR K) yh (pv 5) OX (kR aA)) (eZ (cJ (pv 3)))) (xB (r:=oR K) yh (pv 5) (kR aA) (kR aA))) (eZ (cJ aC)))))) cQ)
  (aL (bX 7 uC.nd (aoA nS hr (pv 1) (cJ (eZ (cU aC (cU (pv 6) (a9 (fY (pv 1)) (pv 3))))))))
  (aL (bS (PW.pt (F7 (oa (l9 (bC aqS hr rfl (a9 (pv 7) (pv 4))))) (F6 (d6 (one hr.units) (bC k2 hr rfl (cJ (pv 1))) (pv 5)))))
   (bu zD) cQ)
  (dY (tO (zc (pv 7) (eZ (cU aC (cU aA (a9 aA aA))))))))))))) cQ))))
  (bu zD))⟩
def apc:List D->Option (D×List D):=dG 8 [true,true] (aqR K Cm).1
abbrev au2:Prop:=dt P w K mg base "_law_asked_for" ["_law_left_here","_law_one"] 12 (dW K [true,true] (apc K Cm))
def EH: {g:oG K Cm // ∀{P w mg base f fd},cY K "_law_cell_at" "_law_cell_at" JL f fd->bM mg->bZ P w K mg base cG 1 f fd ["_law_script","_law_k"] (ee K 2 (bV 2 g))}:=⟨_,λF T=>iy (t:=(sX (xu (ahc (ig (qj λi j=> .bl (decide (i < j))) (f9 1) (jU (vT K) (di (f9 0) fz))))
   (qi (ig (DW K) (f9 0) (f9 1))) xt)
  (qi (tC (.int 0))))) F ac9 λ_ _ _ _ _ _ hr=>(aL (bS (d6 W0 (pv 1) (pln T.k8 (pv 0)))
   (bu (pxx hr (pv 0) (pv 1))) cQ)
  (bu aA))⟩
def EI:List D->Option D:=bV 2 (EH K Cm).1
abbrev adm:Prop:=dt P w K mg base "_law_cell_at" ["_law_script","_law_k"] 1 (ee K 2 (EI K Cm))
def Lf: {g:oG K Cm // ∀{P w mg base f fd},cY K "_law_rows" "_law_rows" Ku f fd->bM mg->bZ P w K mg base cG 1 f fd ["_law_term","_law_many"] (ee K 2 (bV 2 g))}:=⟨_,λF T=>iy F KD λ_ _ _ _ _ _ hr=>(bu (Sz T.Kv (cF fF (jw [none] ["_law_k"] rfl (jI trivial) (CL rfl T.Bj (cJ (fK (r:=Ip) (aaP rfl) rfl T.acQ atz (a9 (pv 1) aA)))) (λ_ _ _ _ _ _=>(iG 0 lQ)) (λ_ _ _ _ _ _=>ko) (λ_ _ _ _ _ _=>(eZ (a9 aC (pv 0))))) (jw [none,some 0] ["_law_k","_law_term"] rfl (jI ⟨⟨rfl,rfl, .inl rfl⟩,trivial⟩) (WT rfl T.Bj (a9 aA (pv 1))) (λ_ _ _ _ _ _=>(iG 0 (by decide +kernel:(["_law_k","_law_term"]:List Str).Nodup))) (λ_ _ _ _ _ _=>ko) (λ_ _ _ _ _ _=>(eZ (cU aC (a9 (pv 0) (pv 1)))))))))⟩
def yF:List D->Option D:=bV 2 (Lf K Cm).1
abbrev adD:Prop:=dt P w K mg base "_law_rows" ["_law_term","_law_many"] 1 (ee K 2 (yF K Cm))
def aqT: {g:oG K Cm // ∀{P w mg base f fd},cY K "_law_kept_log" "_law_kept_log" aqn f fd->bM mg->ur P w K mg base Cm->adD P w K mg base Cm->apb P w K mg base Cm->aoW P w K mg base Cm->bZ P w K mg base cG 11 f fd ["_law_left_here","_law_one"] (dW K [true,true] (dG 4 [true,true] g))}:=⟨_,λF T fj Nb nS k2=>k7 F aqw λ_ _ _ _ _ _ hr=>(aL (bX 2 aqw.nd (cF fF aA (bC fj hr rfl (a9 (pv 0) aA))))
  (aL (bS (d6 (fX hr.units) (cF Ae (pv 2) (fY (pv 1))) (fY (pv 1)))
   (bu zD) cQ)
  (aL (bX 3 aqw.nd (bC Nb hr rfl (a9 (pv 2) (bC fj hr rfl (a9 (pv 0) aA)))))
  (aL (tO (aoA nS hr (pv 1) (cJ (eZ (cU aC (cU (cF Ae (pv 2) (fY (pv 1))) (cU (fY (pv 1)) (cU (pv 2) (a9 (pv 3) aA)))))))))
  (bu (A6 (fX hr.units) (bC k2 hr rfl (cJ (pv 1))) (eZ (cU (fY (pv 1)) (cU (fY (pv 1)) (cU (pv 2) (cU (pv 2) (cU (apY (aoQ T.rY (pv 3))) (a9 aA aC)))))))))))))⟩
def apd:List D->Option (D×List D):=dG 4 [true,true] (aqT K Cm).1
abbrev au3:Prop:=dt P w K mg base "_law_kept_log" ["_law_left_here","_law_one"] 11 (dW K [true,true] (apd K Cm))
def K9: {g:oG K Cm // ∀{P w mg base f fd},cY K "_law_mix" "_law_mix" JM f fd->bM mg->bZ P w K mg base cG 1 f fd ["_law_cell","_law_k"] (ee K 2 (bV 3 g))}:=⟨_,λF T=>iy F Sy λ_ _ _ _ _ _ hr=>(aL (bX 2 Sy.nd (cF Ae (cF tu (cF fF (cF fF (cF Ae (pv 0) aA) (cF tu (cF tu (pv 1) (pv 1)) aA)) aA) aA) aA))
  (bu (cF Ae (cF tu (pv 2) (pv 2)) aA)))⟩
def La:List D->Option D:=bV 3 (K9 K Cm).1
abbrev adz:Prop:=dt P w K mg base "_law_mix" ["_law_cell","_law_k"] 1 (ee K 2 (La K Cm))
def aqU: {g:oG K Cm // ∀{P w mg base f fd},cY K "_law_rich" "_law_rich" ap5 f fd->bM mg->adz P w K mg base Cm->bZ P w K mg base cG 2 f fd ["_law_cell","_law_k"] (ee K 2 (bV 4 g))}:=⟨_,λF T ER=>iy F aoV λ_ _ _ _ _ _ hr=>(aL (bX 2 aoV.nd aA)
  (aL (tq sQ rfl (CL rfl T.Bj (cJ aA)) (iG 3 aoV.nd)
   (dY (bX 2 aoV.nd (cF fF (cF tu (pv 2) aA) (bC ER hr rfl (a9 (bC ER hr rfl (a9 (pv 0) (cF fF (pv 1) (cF tu aA (pv 3))))) (pv 3)))))))
  (bu (pv 2))))⟩
def ape:List D->Option D:=bV 4 (aqU K Cm).1
abbrev au4:Prop:=dt P w K mg base "_law_rich" ["_law_cell","_law_k"] 2 (ee K 2 (ape K Cm))
def Lb: {g:oG K Cm // ∀{P w mg base f fd},cY K "_law_left" "_law_left" JN f fd->bM mg->adm P w K mg base Cm->au4 P w K mg base Cm->bZ P w K mg base cG 3 f fd ["_law_script","_law_k"] (ee K 2 (bV 3 g))}:=⟨_,λF T Lc apf=>iy F Bl λ_ _ _ _ _ _ hr=>(aL (bX 2 Bl.nd (bC Lc hr rfl (a9 (pv 0) (pv 1))))
  (aL (bS (d6 W2 (pv 2) (cF WY aA aA))
   (bu (iX (a9 (pv 2) (bC apf hr rfl (a9 (pv 2) (pv 1)))))) cQ)
  (bu (iX (cJ (bC apf hr rfl (a9 (pv 2) (pv 1))))))))⟩
def uu:List D->Option D:=bV 3 (Lb K Cm).1
abbrev adA:Prop:=dt P w K mg base "_law_left" ["_law_script","_law_k"] 3 (ee K 2 (uu K Cm))
def aqV: {g:oG K Cm // ∀{P w mg base f fd},cY K "_law_log_by" "_law_log_by" aqs f fd->bM mg->ur P w K mg base Cm->adD P w K mg base Cm->bZ P w K mg base cG 2 f fd ["_law_left_here","_law_below"] (dW K [true,false] (dG 3 [true,false] g))}:=⟨_,λF T fj Nb=>k7 F asl λ_ _ _ _ _ _ hr=>(aL (bX 2 asl.nd (bC fj hr rfl (a9 (pv 0) (pv 1))))
  (bu (eZ (a9 (pv 2) (bC Nb hr rfl (a9 (pv 2) (cF tu (bC fj hr rfl (a9 (pv 0) aA)) (oh (r:=vU) A1 rfl T.yA Cu (cJ (A6 Gq (pv 2) aA))))))))))⟩
def apg:List D->Option (D×List D):=dG 3 [true,false] (aqV K Cm).1
abbrev au5:Prop:=dt P w K mg base "_law_log_by" ["_law_left_here","_law_below"] 2 (dW K [true,false] (apg K Cm))
def aqW: {g:oG K Cm // ∀{P w mg base f fd},cY K "next_term" "next_term" aqq f fd->bM mg->bZ P w K mg base cG 1 f fd ["master"] (ee K 1 (bV 2 g))}:=⟨_,λF T=>iy F asj λ_ _ _ _ _ _ hr=>(aL (bX 1 asj.nd (cF fF (fY (pv 0)) aA))
  (bu (cF fF (pv 1) (cF Ae (cF OB (fY (pv 0)) (pv 1)) (fY (pv 0))))))⟩
def aqX:List D->Option D:=bV 2 (aqW K Cm).1
abbrev au6:Prop:=dt P w K mg base "next_term" ["master"] 1 (ee K 1 (aqX K Cm))
def aqY: {g:oG K Cm // ∀{P w mg base f fd},cY K "rise" "Master.rise" aqr f fd->bM mg->au6 P w K mg base Cm->asu P w K mg base Cm->ass P w K mg base Cm->bZ P w K mg base cG 9 f fd ["self"] (dW K [true] (dG 1 [true] g))}:=⟨_,λF T aqZ UY Up=>k7 F auR λ_ _ _ _ _ _ hr=>(aL (IW (pv 0) (bC aqZ hr rfl (cJ (pv 0))))
  (aL (IW (pv 0) aC)
  (aL (IW (pv 0) (IB (fY (pv 0)) (eZ (a9 (fY (pv 0)) (Sz T.Kv (fY (pv 0)))))))
  (aL (tO (bC UY hr rfl (cJ (pv 0))))
  (bu (jw [none,some 0] ["other","self"] rfl (jI ⟨⟨rfl,rfl, .inl rfl⟩,trivial⟩) (lV (bC Up hr rfl (cJ (pv 0)))) (λ_ _ _ _ _ _=>(iG 0 (by decide +kernel:(["other","self"]:List Str).Nodup))) (λ_ _ _ _ _ _=>ko) (λ_ _ _ _ _ _=>(eZ (cU aC (cU (fY (pv 1)) (a9 (pv 0) (fY (pv 1)))))))))))))⟩
def aph:List D->Option (D×List D):=dG 1 [true] (aqY K Cm).1
abbrev au7:Prop:=OK P w K mg base Cm "rise" ["self"] 9 (dW K [true] (aph K Cm))
end
noncomputable def U0:Array Value:=#[.str (("_law_voiced":Str)++".<locals>."++"<lambda>") 0]
theorem au8(more:Array Value):(U0++more)[0]?=some (.str (("_law_voiced":Str)++".<locals>."++"<lambda>") 0):=by
 rw[awS (by show 0 < 1;lia)];rfl
section
variable (P:Program)(w:World)(K:ah)(mg:Str->Option Value)(base:Heap)(Cm:Addr)[eQ K Cm]
def aq0: {g:oG K Cm // ∀{P w mg base f fd cV P0},cY K "_law_voiced" "_law_voiced" aqt f fd->fd.code= .ref cV->wV base cV P0->base.BuiltinsAt mg P0->bM mg->au7 P w K mg base Cm->ur P w K mg base Cm->au5 P w K mg base Cm->aoW P w K mg base Cm->apb P w K mg base Cm->bZ P w K mg base cG 12 f fd ["_law_left_here","_law_one"] (spT P0 U0 (dW K [true,true] (dG 10 [true,true] g)))}:=⟨_,λF pB hC hB T aq1 fj aq2 k2 nS=>auC F pB nI λ_ _ _ _ _ more hT hr=>(aL (bX 2 nI.nd (IB (fY (pv 1)) (eZ (a9 (fY (pv 1)) (Sz T.Kv (fY (pv 1)))))))
  (aL (tO (atQ aq1 hr (pv 1)))
  (aL (tq sQ rfl (CL rfl T.Bj (cJ (bC fj hr rfl (a9 (pv 0) aA)))) (iG 3 nI.nd)
   (aL (bX 4 nI.nd (cF Ae (cF fF (cF fF (fY (pv 1)) aA) (bC fj hr rfl (a9 (pv 0) (cF OB (fY (pv 1)) aA)))) (fY (pv 1))))
  (aL (bX 5 nI.nd (fK (r:=Im) (aaO rfl) rfl T.acP Nx (a9 aA (cF OB (fY (pv 1)) (pxx hr (iX (cU aA (cU aA (cU aA (a9 aA (fY (pv 1))))))) (bC fj hr rfl (a9 (pv 0) aA)))))))
  (aL (WK (bC aq2 hr rfl (a9 (pv 0) (fY (pv 1)))) (DT (K:=K) rfl (n:=2) rfl (sY (iG 6 nI.nd) (sY (iG 7 nI.nd) CG))))
  (aL (bS (iM (aun (cR hr)) (pv 4) (pv 2) (by with_unfolding_all rfl))
   (dY (WK (pxx hr (pv 2) (pv 4)) (DT (K:=K) rfl (n:=2) rfl (sY (iG 6 nI.nd) (sY (iG 7 nI.nd) CG))))) cQ)
  (aL (bX 8 nI.nd (bC k2 hr rfl (cJ (pv 1))))
  (aL (bS (PW.pt (zF (d6 (fX hr.units) (fY (pv 1)) aC) (zE (d6 (fX hr.units) (pv 5) (fY (pv 1))))))
   (aL (lH (cR hr) (pv 2) (pv 4) (eZ (a9 (pv 6) (pv 7))) rfl)
  (dY (bS (d6 Gq (cF tu aA (pln T.k8 (pv 2))) (fY (pv 1)))
   (aL (bX 9 nI.nd (aus (j:=5) (N:= ["_law_voice"]) (pname:="_law_voice") hT (au8 more) rfl hC hB (by exact d8) (λ_ _ _ _ _ _ hr=>(eZ (a9 (pxx hr (pv 0) aA) (pln T.k8 (pxx hr (pv 0) aA))))) (hr.mono (by decide)) rfl rfl T.acP (pv 2)))
  (dY (bX 8 nI.nd (cF fF (xB (r:=oR K) yh (pv 8) OX (kR aA)) (eZ (cU (fY (pv 1)) (cU (apY (aoQ T.rY (pxx hr (pv 9) aA))) (a9 (pxx hr (pv 8) aA) aC)))))))) cQ))) cQ)
  (dY (bS (PW.pt (F7 (d6 (one hr.units) (aoA nS hr (pv 1) (cJ (eZ (cU aC (cU (pv 4) (cU (fY (pv 1)) (cU (pv 5) (a9 (pv 6) (pv 7))))))))) (iX gk)) (F6 (d6 (one hr.units) (bC k2 hr rfl (cJ (pv 1))) (pv 8)))))
   (bu zD) cQ)))))))))
  (bu zD))))⟩
def api:List D->Option (D×List D):=dG 10 [true,true] (aq0 K Cm).1
abbrev asv(P0:Addr):Prop:=dt P w K mg base "_law_voiced" ["_law_left_here","_law_one"] 12 (spT P0 U0 (dW K [true,true] (api K Cm)))
def aq3: {g:oG K Cm // ∀{P w mg base f fd},cY K "__init__" "Master.__init__" ap6 f fd->bM mg->bZ P w K mg base cG 1 f fd ["self","number","many"] (dW K (true::ki 2 false) (dG 3 (true::ki 2 false) g))}:=⟨_,λF T=>k7 F auF λ_ _ _ _ _ _ hr=>(aL (IW (pv 0) (pv 1))
  (aL (IW (pv 0) (pv 2))
  (aL (IW (pv 0) aA)
  (aL (IW (pv 0) aA)
  (aL (IW (pv 0) (iX gk))
  (aL (IW (pv 0) aA)
  (aL (IW (pv 0) aC)
  (aL (IW (pv 0) qo)
  (aL (IW (pv 0) qo)
  (dY (IW (pv 0) zD)))))))))))⟩
def U5:List D->Option (D×List D):=dG 3 (true::ki 2 false) (aq3 K Cm).1
abbrev au9:Prop:=IA P w K mg base "Master" Cm ["self","number","many"] 1 (dW K (true::ki 2 false) (U5 K Cm))
end
theorem pZ:dr ["_law_script","_law_k","_law_left_here","_law_many","_law_one","_law_ahead"] ["_law_script"] (cb yz):=d8
section
variable (P:Program)(w:World)(K:ah)(mg:Str->Option Value)(base:Heap)(Cm:Addr)[eQ K Cm]
def M5: {g:oG K Cm // ∀{P w mg base f fd cL P0},cY K "law" "law" yz f fd->fd.code= .ref cL->bM mg->adA P w K mg base Cm->ur P w K mg base Cm->au9 P w K mg base Cm->au2 P w K mg base Cm->au3 P w K mg base Cm->aoW P w K mg base Cm->apb P w K mg base Cm->asv P w K mg base Cm P0->bZ P w K mg base cG 14 f fd ["_law_script"] (spT P0 U0 (ee K 1 (bV 6 g)))}:=⟨_,λF pB T BZ fj aq4 aq5 aq6 k2 nS aq7=>auD F pB pZ λ_ _ _ _ _ _ hT hr=>(aL (tq sQ rfl (CL rfl T.Bj (cJ (fK (r:=Im) (aaO rfl) rfl T.acP Nx (a9 aA (fK (r:=Ip) (aaP rfl) rfl T.acQ atz (a9 (pln T.k8 (pv 0)) aA)))))) (iG 1 pZ.nd)
   (aL (bX 2 pZ.nd (bC BZ hr rfl (a9 (pv 0) (pv 1))))
  (aL (bX 3 pZ.nd (cF fF aA (bC fj hr rfl (a9 (pv 2) aA))))
  (aL (bX 4 pZ.nd (atR aq4 hr rfl (a9 (bC fj hr rfl (a9 (pv 2) (pv 3))) (pv 3))))
  (aL (bS (PW.pt (F7 (oa (l9 (bC aq6 hr rfl (a9 (pv 2) (pv 4))))) (F6 (oa (l9 (bC aq5 hr rfl (a9 (pv 2) (pv 4))))))))
   (bu zD) cQ)
  (aL (bX 5 pZ.nd (bC k2 hr rfl (cJ (pv 4))))
  (aL (bS (d6 (one hr.units) (aoA nS hr (pv 4) (cJ (eZ (cU aC (cU (cF Ae (cF fF (fY (pv 4)) aA) (pv 3)) (cU (fY (pv 4)) (cU (fY (pv 4)) (a9 aA (eZ gk))))))))) (iX gk))
   (bu zD) cQ)
  (dY (bS (PW.pt (F7 (d6 (one hr.units) (bC k2 hr rfl (cJ (pv 4))) (pv 5)) (F6 (oa (l9 (auE aq7 hT hr rfl (a9 (pv 2) (pv 4))))))))
   (bu zD) cQ)))))))))
  (bu zD))⟩
def UO:List D->Option D:=bV 6 (M5 K Cm).1
end
end K26
namespace WM
open PySem L2 VL
structure MS where
 te:Int
 o:Int
 L:List D
 dn:Int
 role:Str
 vo:List (Int×Int×List D)
 si:List (Int×Int)
inductive jf where
 |gD (sn to t:Int)
 |cm (sn to t o:Int) (R:List D)
 |keep (sn to t:Int) (R:List D) (dn:Int)
 |kept (sn to t z:Int)
noncomputable def jf.to:jf->Int
 |.gD _ i _=>i
 |.cm _ i _ _ _=>i
 |.keep _ i _ _ _=>i
 |.kept _ i _ _=>i
def jf.ok(b:Nat):jf->Prop
 |.cm _ _ _ _ R=>cc R/\R.length<=b
 |.keep _ _ _ R _=>cc R/\R.length<=b
 |_=>True
def cf:jf->D
 |.gD sn i t=> .nd .tup [sD "stand",iD sn,iD i,iD t]
 |.cm sn i t o R=> .nd .tup [sD "voice",iD sn,iD i,iD t,iD o, .nd .tup R]
 |.keep sn i t R dn=> .nd .tup [sD "keep",iD sn,iD i,iD t, .nd .tup R,iD dn]
 |.kept sn i t z=> .nd .tup [sD "kept",iD sn,iD i,iD t,iD z]
def eC(v:Int×List D):D:= .nd .tup [iD v.1, .nd .tup v.2]
def aq(vo:List (Int×Int×List D)):D:= .nd (.aO (vo.map λp=> .inl p.1)) (vo.map λp=>eC p.2)
def d4(S:List (Int×Int)):D:= .nd (.aO (S.map λp=> .inl p.1)) (S.map λp=>iD p.2)
noncomputable def eE:List (Int×Int)->Int->Int
 | [],_=>0
 |p::S,i=>if p.1=i then p.2 else eE S i
theorem asw:∀(S:List (Int×Int)) (i:Int),(match cM (zh i:bc) (S.map λp=>(zh p.1:bc)) with | some k=>(S.map λp=>iD p.2)[k]? | none=>some (iD 0))=some (iD (eE S i))
 | [],_=>rfl
 |p::S,i=>by
  have ih:=asw S i;by_cases h:p.1=i
  ·simp[cM,eE,h]
  ·have hk:¬ (zh p.1:bc)=zh i:=λz=>h (apA z);rw[cP,cP,cM,if_neg hk,eE,if_neg h];cases e:cM (zh i:bc) (S.map λp=>(zh p.1:bc)) with
   |none=>rw[e]at ih;exact ih
   |some k=>rw[e]at ih;simpa using ih
theorem asx(S:List (Int×Int))(i:Int):(fW (d4 S) (iD i)).bind (fun | some k=>jh (d4 S) k | none=>some (iD 0))=some (iD (eE S i)):=asw S i
theorem ints_map:∀(ns:List Int),jq (ns.map iD)=some ns
 | []=>rfl
 |n::ns=>by rw[cP,jq,ints_map ns];rfl
theorem asy(ns:List Int):VL.bI (ns.map iD)=true:=vM λd hd=>by
 obtain⟨i,_,rfl⟩:=gY.mp hd;rfl
theorem aq8(nu:Int)(m:Nat):(ix nu m).length<=m:=by
 unfold ix;exact b7 (VT _ _) (by rw[aoy];exact bO _)
def kA(nu:Int)(m:Nat)(S:List (Int×Int))(n:Nat):List Int:=(ix nu m).map (λi:Nat=>eE S i)++ [(n:Int)]
noncomputable def most (m:Nat) (zs:List Int) (z:Int):Bool:=decide ((m:Int) < 2 * ((zs.filter λx=>decide (z<=x)).length:Nat))
theorem ava(nu:Int)(m:Nat)(S:List (Int×Int))(n:Nat):(kA nu m S n).length<=m + 1:=by
 unfold kA;have:=aq8 nu m;simp
 lia
noncomputable def dv {α:Type}:List (Int×α)->Int->α->List (Int×α)
 | [],i,x=> [(i,x)]
 |p::r,i,x=>if p.1=i then(i,x)::r else p::dv r i x
def ag(C:Addr)(m:Nat)(nu:Int)(s:MS):D:=mD C nu m s.te s.o s.L s.dn s.role (aq s.vo) (d4 s.si)
def u0(b v:Int×List D):Int×List D:=if alI v.1 v.2.length b.1 b.2.length=true then v else b
def eU(v:Int×List D)(r:List (Int×Int×List D)):Int×List D:=r.foldl (λb p=>u0 b p.2) v
def eN(m:Nat)(s:MS):MS:=if(m:Int) < 2 * (s.vo.length:Nat) then(match s.vo with
 | []=>s
 |v::r=> { s with L:=(eU v.2 r).2,o:=s.te,role:="leads",si:= [] }) else s
def count(m:Nat)(nu:Int)(s:MS):MS:= { s with dn:=k5 s.dn ((kA nu m s.si s.L.length).filter (most m (kA nu m s.si s.L.length))) }
def abr(m:Nat)(nu:Int)(s:MS):MS:=eN m { s with te:=gj nu m s.te,role:="stands",vo:= [(nu,s.o,s.L)] }
def aq9(m:Nat)(nu t:Int):List jf:=(ix nu m).map λi:Nat=> .gD nu i t
noncomputable def kept (s:MS) (t:Int) (R:List D):MS:=if s.o < t\/(s.L.length:Int) < R.length then { s with te:=t,role:="hears",L:=R,o:=t } else { s with te:=t,role:="hears" }
def cS(m:Nat)(nu:Int)(s:MS):jf->MS×List jf
 |.gD sn _ t=>if t<=s.te then(s, []) else({ s with te:=t,role:="hears" }, [.cm nu sn t s.o s.L])
 |.cm sn _ t o R=>if s.role="stands"/\t=s.te then(eN m { s with vo:=dv s.vo sn (o,R) }, []) else(s, [])
 |.keep sn _ t R dn=>if t < s.te then(s, []) else({ kept s t R with dn:=if(if((kept s t R).L.length:Int) < dn then((kept s t R).L.length:Int) else dn) > s.dn then(if((kept s t R).L.length:Int) < dn then((kept s t R).L.length:Int) else dn) else s.dn }, [.kept nu sn t (kept s t R).L.length])
 |.kept sn _ t z=>if s.role="leads"/\t=s.te then(count m nu { s with si:=dv s.si sn (if eE s.si sn > z then eE s.si sn else z) }, []) else(s, [])
noncomputable def s0:MS:=⟨0,0, [],0,"hears", [], []⟩
structure Wf(b:Nat)(s:MS):Prop where
 rows:cc s.L
 len:s.L.length<=b
 role:s.role="hears"\/s.role="stands"\/s.role="leads"
 vn:(s.vo.map (·.1)).Nodup
 vl:s.vo.length<=50
 vr:∀p∈s.vo,cc p.2.2/\p.2.2.length<=b
 sn:(s.si.map (·.1)).Nodup
 sl:s.si.length<=50
theorem Fm(h:f (kW n bp ds)=some (.nx ρ'))(ho:gP (ρ'.drop n)=some o):dG n bp f ds=some (.sc .aG,o):=by
 unfold dG;rw[h];show(gP (ρ'.drop n)).map _=_;rw[ho];rfl
theorem avb(h:qA d):Ex 1 d:=by
 cases h with
 |a s k hs=>
  refine .tup 0 _ λd hd=> ?_;simp only[bL,dh,or_false]at hd;rcases hd with rfl | rfl
  ·exact .str _ _ hs
  ·exact .int _ _
 |b s k t hs=>
  refine .tup 0 _ λd hd=> ?_;simp only[bL,dh,or_false]at hd;rcases hd with rfl | rfl | rfl
  ·exact .str _ _ hs
  ·exact .int _ _
  ·exact .int _ _
 |c s k t hs ht=>
  refine .tup 0 _ λd hd=> ?_;simp only[bL,dh,or_false]at hd;rcases hd with rfl | rfl | rfl
  ·exact .str _ _ hs
  ·exact .int _ _
  ·exact .str _ _ ht
theorem asz(h:cc L):Ex 2 (.nd .tup L):= .tup 1 _ λd hd=>avb (h d hd)
theorem avc{α:Type}(R:List α)(k:Nat):cutD R none (some (k:Int))=R.take k:=by
 unfold cutD;rw[HT.arJ,HT.arI,V7,atw];by_cases h:k<=R.length
 ·rw[awU h]
 ·rw[awV (by lia),aiF,awW (by lia)]
theorem asA{α:Type}(R:List α)(k:Nat):cutD R (some (k:Int)) none=R.drop k:=by
 unfold cutD;rw[HT.arJ,HT.arI];by_cases h:k<=R.length
 ·rw[awU h];exact awW (by rw[aik];exact bO _)
 ·rw[awV (by lia),FR,atx (by lia)];simp
theorem asB(h:cc L)(s:∀d∈M,d∈L):cc M:=λd hd=>h d (s d hd)
theorem WD{α:Type}:∀(l:List (Int×α)) (i:Int) (x:α) (p:Int×α),p∈dv l i x->p∈l\/p=(i,x)
 | [],i,x,p,h=> .inr (eS.mp h)
 |q::l,i,x,p,h=>by
  unfold dv at h
  split at h
  ·rcases bL.mp h with h | h
   ·exact .inr h
   ·exact .inl (.tail _ h)
  ·rcases bL.mp h with h | h
   ·exact .inl (by rw[h];exact .head _)
   ·exact(WD l i x p h).imp (.tail _) id
theorem avd{α:Type}:∀(l:List (Int×α)) (i:Int) (x:α) (k:Int),k∈(dv l i x).map (·.1)->k∈l.map (·.1)\/k=i:=λl i x k h=>by
 obtain⟨p,hp,rfl⟩:=gY.mp h;rcases WD l i x p hp with q | q
 ·exact .inl (List.mem_map_of_mem q)
 ·exact .inr (by rw[q])
theorem ara{α:Type}:∀(l:List (Int×α)) (i:Int) (x:α),(l.map (·.1)).Nodup->((dv l i x).map (·.1)).Nodup
 | [],i,x,_=>by simp[dv]
 |q::l,i,x,h=>by
  rw[cP,jP]at h;unfold dv
  split
  ·next c=>
   rw[cP,jP];exact⟨by rw[<- c];exact h.1,h.2⟩
  ·next c=>
   rw[cP,jP];refine⟨λz=> ?_,ara l i x h.2⟩;rcases avd l i x q.1 z with y | y
   ·exact h.1 y
   ·exact c y
theorem asC:∀(m:Nat) (l:List Int),l.Nodup->(∀k∈l,0<=k/\k < m)->l.length<=m
 |0, [],_,_=>bO _
 |0,k::l,_,h=>by have:=h k (.head _);lia
 |m + 1,l,hn,h=>by
  have h1:=asC m (l.filter λk=>decide (k≠(m:Int))) (hn.filter _) λk hk=>by
   obtain⟨h1,h2⟩:=Cc.mp hk;have h2:k≠(m:Int):=by simpa using h2
   have:=h k h1
   lia
  have h2:(l.filter λk=> !decide (k≠(m:Int))).length<=1:=by
   have CS:=hn.filter (λk=> !decide (k≠(m:Int)));have ha:∀k∈l.filter (λk=> !decide (k≠(m:Int))),k=(m:Int):=λk hk=>by
    have:=(Cc.mp hk).2;simpa using this
   generalize l.filter (λk=> !decide (k≠(m:Int)))=r at *
   match r,CS,ha with
   | [],_,_=>simp
   | [_],_,_=>simp
   |a::c::r,CS,ha=>
    exact absurd (by rw[ha a (.head _),ha c (.tail _ (.head _))];exact .head _) (jP.mp CS).1
  have h3:(l.filter λk=>decide (k≠(m:Int))).length + (l.filter λk=> !decide (k≠(m:Int))).length=l.length:=by
   clear h1 h2 hn h
   induction l with
   |nil=>rfl
   |cons a l ih=>
    by_cases c:a=(m:Int)
    ·simp[c]at ih |-;lia
    ·simp[c]at ih |-;lia
  lia
structure Wg(m b:Nat)(s:MS):Prop where
 wf:Wf b s
 vk:∀p∈s.vo,0<=p.1/\p.1 < m
 sk:∀p∈s.si,0<=p.1/\p.1 < m
def jf.sn:jf->Int
 |.gD i _ _=>i
 |.cm i _ _ _ _=>i
 |.keep i _ _ _ _=>i
 |.kept i _ _ _=>i
structure ave(m b:Nat)(g:jf):Prop where
 ok:g.ok b
 s0:0<=g.sn
 s1:g.sn < m
 t0:0<=g.to
 t1:g.to < m
theorem atp{α:Type}{m:Nat}(hm:m<=50){l:List (Int×α)}(hn:(l.map (·.1)).Nodup)(hk:∀p∈l,0<=p.1/\p.1 < m):l.length<=50:=by
 have:=asC m (l.map (·.1)) hn λk h=>by
  obtain⟨p,hp,rfl⟩:=gY.mp h;exact hk p hp
 rw[eG]at this
 lia
theorem asD:∀(r:List (Int×Int×List D)) (v:Int×List D),eU v r=v\/∃p∈r,eU v r=p.2
 | [],v=> .inl rfl
 |p::r,v=>by
  have e:eU v (p::r)=eU (u0 v p.2) r:=rfl;rw[e];rcases asD r (u0 v p.2) with h | ⟨q,hq,h⟩
  ·rw[h];unfold u0
   split
   ·exact .inr ⟨p, .head _,rfl⟩
   ·exact .inl rfl
  ·exact .inr ⟨q, .tail _ hq,h⟩
theorem asE{m b:Nat}{s:MS}(w:Wg m b s):Wg m b (eN m s):=by
 unfold eN
 split
 ·split
  ·exact w
  ·next v r e=>
   have hb:cc (eU v.2 r).2/\(eU v.2 r).2.length<=b:=by
    rcases asD r v.2 with h | ⟨p,hp,h⟩
    ·rw[h];exact w.wf.vr v (by rw[e];exact .head _)
    ·rw[h];exact w.wf.vr p (by rw[e];exact .tail _ hp)
   exact⟨⟨hb.1,hb.2, .inr (.inr rfl),w.wf.vn,w.wf.vl,w.wf.vr,aow,jO _⟩,w.vk,λ_ h=>nomatch h⟩
 ·exact w
theorem avf{m b:Nat}{nu:Int}{s:MS}(w:Wg m b s):Wg m b (count m nu s):=⟨⟨w.wf.rows,w.wf.len,w.wf.role,w.wf.vn,w.wf.vl,w.wf.vr,w.wf.sn,w.wf.sl⟩,w.vk,w.sk⟩
theorem avg{m b:Nat}{nu:Int}{s:MS}(w:Wg m b s)(h0:0<=nu)(h1:nu < m):Wg m b (abr m nu s):=by
 refine asE ⟨⟨w.wf.rows,w.wf.len, .inr (.inl rfl),by simp,by simp,λp hp=> ?_,w.wf.sn,w.wf.sl⟩,λp hp=> ?_,w.sk⟩
 ·rw[eS.mp hp];exact⟨w.wf.rows,w.wf.len⟩
 ·rw[eS.mp hp];exact⟨h0,h1⟩
theorem avh{m b:Nat}{s:MS}{t:Int}{R:List D}(w:Wg m b s)(hR:cc R)(hz:R.length<=b):Wg m b (kept s t R):=by
 unfold kept
 split
 ·exact⟨⟨hR,hz, .inl rfl,w.wf.vn,w.wf.vl,w.wf.vr,w.wf.sn,w.wf.sl⟩,w.vk,w.sk⟩
 ·exact⟨⟨w.wf.rows,w.wf.len, .inl rfl,w.wf.vn,w.wf.vl,w.wf.vr,w.wf.sn,w.wf.sl⟩,w.vk,w.sk⟩
theorem avi{m b:Nat}{nu:Int}{s:MS}{g:jf}(w:Wg m b s)(hg:ave m b g)(hm:m<=50):Wg m b (cS m nu s g).1:=by
 cases g with
 |gD sn i t=>
  unfold cS;dsimp only
  split
  ·exact w
  ·exact⟨⟨w.wf.rows,w.wf.len, .inl rfl,w.wf.vn,w.wf.vl,w.wf.vr,w.wf.sn,w.wf.sl⟩,w.vk,w.sk⟩
 |cm sn i t o R=>
  unfold cS;dsimp only
  split
  ·have hn:=ara s.vo sn (o,R) w.wf.vn;have hk:∀p∈dv s.vo sn (o,R),0<=p.1/\p.1 < m:=λp hp=>by
    rcases WD s.vo sn (o,R) p hp with h | h
    ·exact w.vk p h
    ·rw[h];exact⟨hg.s0,hg.s1⟩
   refine asE ⟨⟨w.wf.rows,w.wf.len,w.wf.role,hn,atp hm hn hk,λp hp=> ?_,w.wf.sn,w.wf.sl⟩,hk,w.sk⟩;rcases WD s.vo sn (o,R) p hp with h | h
   ·exact w.wf.vr p h
   ·rw[h];exact hg.ok
  ·exact w
 |keep sn i t R dn=>
  unfold cS;dsimp only
  split
  ·exact w
  ·have k:=avh (t:=t) w hg.ok.1 hg.ok.2;exact⟨⟨k.wf.rows,k.wf.len,k.wf.role,k.wf.vn,k.wf.vl,k.wf.vr,k.wf.sn,k.wf.sl⟩,k.vk,k.sk⟩
 |kept sn i t z=>
  unfold cS;dsimp only
  split
  ·have hn:=ara s.si sn (if eE s.si sn > z then eE s.si sn else z) w.wf.sn;have hk:∀p∈dv s.si sn (if eE s.si sn > z then eE s.si sn else z),0<=p.1/\p.1 < m:=λp hp=>by
    rcases WD s.si sn _ p hp with h | h
    ·exact w.sk p h
    ·rw[h];exact⟨hg.s0,hg.s1⟩
   exact avf ⟨⟨w.wf.rows,w.wf.len,w.wf.role,w.wf.vn,w.wf.vl,w.wf.vr,hn,atp hm hn hk⟩,w.vk,hk⟩
  ·exact w
end WM
namespace K26
open PySem L2 VL WM
variable [eQ K C]
theorem af8(nu ma:Int)(hn:∀f∈d3,mf K C f):U5 K C [.nd (.obj C []) [],iD nu,iD ma]=some (.sc .aG, [mD C nu ma 0 0 [] 0 "hears" (.nd (.aO []) []) (.nd (.aO []) [])]):=by
 have h:mf K C "number"/\mf K C "many"/\mf K C "term"/\mf K C "of"/\mf K C "log"/\mf K C "done"/\mf K C "role"/\mf K C "voices"/\mf K C "sizes"/\mf K C "fixed":=by
  simpa[d3]using hn
 obtain⟨h1,h2,h3,h4,h5,h6,h7,h8,h9,avj⟩:=h;simp[U5,aq3,h1,h2,h3,h4,h5,h6,h7,h8,h9,avj,mD,d3,y0,gN,hE,vx,vX,wq,o5,p5,p6,p8,za,An,A0,Eb,Hm,la,lb,lg,ll,ly,lD,anY,anZ,an0,an1,an2,an3,an4,an5,an6,an7,an8,an9,aoa,aob,aoc,aoG,aoH,aoI,aoJ,aoK,aoL,aoM,aoN,aoO,gP,bD,dG,af,fV,kW,l0,oE,aI,bW,ju,kr,eM,bU,eg,aT,VL.plain,iI,eX,fO,aV,fA,aZ,rQ]
theorem avk(nu ma te o:Int)(L:List D)(dn:Int)(role:Str)(vo si:D)(hm:0 < ma):aqX K C [mD C nu ma te o L dn role vo si]=some (iD (gj nu ma te)):=by
 simp[aqX,aqW,mD,d3,y0,gN,hE,hm,gj,gx,dU,bD,bq,bV,af,ji,oB,iO,intD,jh,au,iI,jg,fA,rQ,t9,ud,ue]
theorem asF(nu ma te o:Int)(L:List D)(dn n:Int)(role:Str)(vo si:D):aqD K C [mD C nu ma te o L dn role vo si,iD n]=some (tD (decide (ma < 2 * n))):=by
 simp[aqD,aqC,mD,d3,y0,bD,bV,af,ji,oB,iO,intD,jh,au,iI,jg,mM]
theorem avl(o:Int)(L:List D):UT K C [.nd .tup [iD o, .nd .tup L]]=some (.nd .tup [iD o,iD L.length]):=by
 simp[UT,aqL,bD,bV,ar,eJ,af,fW,mq,gC,aN,ay,aW,kJ,jh,gF,au,VL.plain,gm,jg,kU,CV]
theorem avm(h:qA r):rB K C 2 [r]=some (tD true):=by
 cases h <;> simp[iJ,rB,aoZ,aoY,m4,jH,iq,bD,bq,iP,bV,gH,ar,af,gv,m4,k4,oN,fP,d7,VL.plain,gm,jg,fA,rQ,mv,xk,lS,t9,ue,CV,apV]
theorem asG:∀(L:List D),iP (L.map λ_=>tD true)=some (L.map λ_=>true)
 | []=>by simp[iP]
 |_::L=>by
  rw[cP,cP,iP,asG L];rfl
theorem all_true(L:List D):iq [.nd .lst (L.map λ_=>tD true)]=some (tD true):=by
 simp only[iq,asG];simp
theorem avn(L:List D)(hL:cc L)(h:L.length<=900):iJ 1 [none] [0] (λZ=>(af 0 Z).bind fP) (λd Z=>some (bq 0 (B.ro d) Z)) (λx=>some true) (λZ=>(ar (af 0) (λx=>some []) Z).bind λds=>if ds.length=1 then rB K C 2 ds else none) [some (.ro (.nd .tup L))]=some (.nd .lst (L.map λ_=>tD true)):=by
 have h3:L.length<=aM:=b7 h (by decide);rw[qD (n:=1) (js:= [none]) (is:= [0]) (fi:=λZ=>(af 0 Z).bind fP) (fg:=λd Z=>some (bq 0 (B.ro d) Z)) (ft:=λx=>some true) (fe:=λZ=>(ar (af 0) (λx=>some []) Z).bind λds=>if ds.length=1 then rB K C 2 ds else none) (Z:= [some (.ro (.nd .tup L))]) L id (λ_=>true) (λ_=>tD true) ?_ h3 rfl ?_,uV.mpr (λ_ _=>rfl)]
 ·simp[bD,af,fP]
 ·intro r hr;have hr:=avm (K:=K) (C:=C) (hL r hr);simp[hr,bD,bq,gH,ar,af,t9,ue]
theorem avo(L:List D)(hL:cc L)(h:L.length<=900):ao0 K C [.nd .tup L]=some (tD true):=by
 have e:=avn (K:=K) (C:=C) L hL h;have e2:=all_true L;unfold ao0;show bV _ (aoZ K C (rB K C 2)) _=_;unfold aoZ aoY;dsimp only;generalize (iJ 1 [none] [0] (λZ=>(af 0 Z).bind fP) (λd Z=>some (bq 0 (B.ro d) Z)) (λx=>some true) (λZ=>(ar (af 0) (λx=>some []) Z).bind λds=>if ds.length=1 then rB K C 2 ds else none))=F at e |-;simp[e,e2,m4,bD,bV,ar,af,gv,m4,k4,d7,jg,fA,rQ,mv,lS,CV]
theorem asH(nu ma te o:Int)(L R:List D)(dn:Int)(role:Str)(vo si:D)(hL:cc L)(hR:cc R)(h:L.length + R.length<=900):aqA K C [mD C nu ma te o L dn role vo si, .nd .tup R]=some (.sc .aG, [mD C nu ma te o (L++R) dn role vo si]):=by
 have hf:=avo (K:=K) (C:=C) R hR (by lia);have h3:L.length + R.length<=aM:=b7 h (by decide);have p1:=hL.plain;have p2:=hR.plain;have p3:=(hL.app hR).plain;simp[aqA,aqz,mD,d3,o5,p5,p6,p8,aoG,aoH,aoI,aoJ,aoK,aoL,aoM,aoN,aoO,hf,p2,p3,h3,gx,gP,dU,bD,bq,dG,ar,af,fV,kW,ji,l0,oB,oE,aI,oA,bW,jh,vb,eM,au,bU,eg,aT,VL.plain,gm,iI,eX,fO,aV,fA,aZ,rQ,t9,uc,ud,ue,uf]
theorem asI(nu te o:Int)(m:Nat)(L:List D)(dn:Int)(role:Str)(vo si:D)(hm:m < 100):ao6 K C [mD C nu m te o L dn role vo si]=some (.nd .lst ((ix nu m).map λi:Nat=>D.sc (.int (i:Int)))):=by
 have h3:m<=aM:=b7 (nO hm) (by decide);unfold ao6 aqE ix;dsimp only;refine fQ (ρ':= [some (.ro (mD C nu m te o L dn role vo si))]) (cD (j0 (Z:= [some (.ro (mD C nu m te o L dn role vo si))]) (qD (kf m) (λi:Nat=>D.sc (.int (i:Int))) (λi:Nat=>decide ((i:Int)≠nu)) (λi:Nat=>D.sc (.int (i:Int))) ?_ ?_ ?_ ?_)))
 ·have e:(ar (λZ=>(af 0 Z).bind (ji (ae "many"))) (λx=>some []) (List.map (λd=>some (B.ro d)) [mD C nu (↑m) te o L dn role vo si]++ki (1 - [mD C nu (↑m) te o L dn role vo si].length) none))=some [iD m]:=by simp[mD,d3,y0,bD,ar,af,ji,oB,jh,iI]
  exact ak.mpr ⟨_,e,by rw[apW m hm,Ri]⟩
 ·rw[aoy];exact h3
 ·rfl
 ·intro i hi;simp[mD,d3,arZ,bD,bq,gH,af,ji,oB,jh,au,VL.plain,gJ,iI,t9,ud,ue]
variable [eQ K C]
theorem avp(nu ma te o:Int)(L:List D)(dn:Int)(role:Str)(vo si:D)(hL:cc L)(hz:L.length<=900):aqJ K C [mD C nu ma te o L dn role vo si]=some (.nd .tup L):=by
 have hp:=hL.plain;simp[aqJ,aqI,mD,d3,hp,o5,p5,p6,p8,aoG,aoH,aoI,aoJ,aoK,aoL,aoM,aoN,aoO,dU,bD,bq,bV,ar,af,ji,oB,oA,jh,VL.plain,gm,iI,jg,fA,rQ,me,t9,ud,ue]
variable [eQ K C]
theorem avq(nu te o:Int)(m:Nat)(L:List D)(dn:Int)(role:Str)(vo:D)(S:List (Int×Int))(hm:m < 90):
  aqG K C [mD C nu m te o L dn role vo (d4 S)]=some (.sc .aG, [mD C nu m te o L (k5 dn ((kA nu m S L.length).filter (most m (kA nu m S L.length)))) role vo (d4 S)]):=by
 have ho:=asI (K:=K) (C:=C) nu te o m L dn role vo (d4 S) (by lia);have avr:=λn:Nat=>asF (K:=K) (C:=C) nu m te o L dn n role vo (d4 S);have h3:(ix nu m).length<=aM:=b7 (aq8 nu m) (b7 (by lia:m<=100) (by decide));have h4:(ix nu m).length + 1<=aM:=b7 (aiJ (aq8 nu m)) (b7 (by lia:m + 1<=100) (by decide));have Qb:=ava nu m S L.length;have avs:kA nu m S L.length=(ix nu m).map (λi:Nat=>eE S i)++ [(L.length:Int)]:=rfl;have f1:=aue (C:=C) nu m te o L dn role vo (d4 S);have f2:=auc (C:=C) nu m te o L dn role vo (d4 S);have f3:=aud (C:=C) nu m te o L dn role vo (d4 S);have hg:=λi=>asx S i;have pM:=aua (C:=C) nu m te o L dn role vo (d4 S);have h5:(kA nu m S L.length).length<=aM:=b7 Qb (b7 (by lia:m + 1<=100) (by decide));have avt:=asy ((ix nu m).map (λi:Nat=>eE S i)++ [(L.length:Int)]);have avu:=ints_map (dn::(kA nu m S L.length).filter (most m (kA nu m S L.length)));have dM:=asy (dn::(kA nu m S L.length).filter (most m (kA nu m S L.length)));have axs:((kA nu m S L.length).filter (most m (kA nu m S L.length))).length + 1<=aM:=b7 (aiJ (b7 (VT _ _) Qb)) (b7 (by lia:m + 1 + 1<=100) (by decide));generalize hA:kA nu m S L.length=zs at *;unfold aqG aqF;dsimp only;refine Fm (ρ':= [some (.aB 3 []),some (.own (.nd .lst (zs.map iD))),some (.own (.nd .lst ((zs.filter (most m zs)).map iD))),some (.own (mD C nu m te o L (k5 dn (zs.filter (most m zs))) role vo (d4 S)))])
  (aD (ρ':= [some (.aB 3 []),some (.own (.nd .lst (zs.map iD))),none,some (.own (mD C nu m te o L dn role vo (d4 S)))]) (eW (d:= .nd .lst (zs.map iD)) (ρ1:=kW 3 [true] [mD C nu m te o L dn role vo (d4 S)]) (j0 ?_) ?_)
  (aD (ρ':= [some (.aB 3 []),some (.own (.nd .lst (zs.map iD))),some (.own (.nd .lst ((zs.filter (most m zs)).map iD))),some (.own (mD C nu m te o L dn role vo (d4 S)))]) (eW (d:= .nd .lst ((zs.filter (most m zs)).map iD)) (ρ1:= [some (.aB 3 []),some (.own (.nd .lst (zs.map iD))),none,some (.own (mD C nu m te o L dn role vo (d4 S)))]) (j0 (qD zs iD (most m zs) iD ?_ h5 rfl ?_)) ?_) ?_)) ?_
 ·refine ak.mpr ⟨.nd .lst ((ix nu m).map λi:Nat=>iD (eE S i)), ?_,ak.mpr ⟨.nd .lst [iD L.length], ?_, ?_⟩⟩
  ·have e:=qD (n:=3) (js:= [none,some 0]) (is:= [0]) (fg:=λd Z=>some (bq 0 (B.ro d) Z)) (ft:=λx=>some true) (fe:=gJ (iu (λZ=>(af 1 Z).bind (ji (ae "sizes"))) (af 0) λx=>some (D.sc (V.int 0)))) (fi:=λZ=>((ar (af 0) (λx=>some []) Z).bind λds=>if ds.length=1 then ao6 K C ds else none).bind fP) (Z:=kW 3 [true] [mD C nu m te o L dn role vo (d4 S)]) (ix nu m) (λi:Nat=>D.sc (.int (i:Int))) (λ_=>true) (λi:Nat=>iD (eE S i)) ?_ h3 rfl ?_
   ·rw[uV.mpr (λ_ _=>rfl)]at e;exact e
   ·refine ak.mpr ⟨.nd .lst ((ix nu m).map λi:Nat=>D.sc (.int (i:Int))),ak.mpr ⟨[mD C nu m te o L dn role vo (d4 S)], ?_, ?_⟩,rfl⟩
    ·generalize mD C nu m te o L dn role vo (d4 S)=M;simp[bD,ar,af,kW,aI,bW,bU,eg,aV]
    ·exact(if_pos rfl).trans ho
   ·intro i _;have avv:=hg i;generalize mD C nu m te o L dn role vo (d4 S)=M at *;generalize d4 S=W at *;refine⟨[some (.ro (iD i)),some (.ro M)], ?_,rfl,λ_=> ?_⟩
    ·simp[bD,bq,gH,af,kW,aI,bW,bU,eg,aV,t9,ud,ue]
    ·have e:iu (λZ=>(af 1 Z).bind (ji (ae "sizes"))) (af 0) (λx=>some (D.sc (V.int 0))) [some (.ro (iD i)),some (.ro M)]=some (iD (eE S i)):=by
      unfold iu;refine ak.mpr ⟨W,ak.mpr ⟨M,rfl,f1⟩, ?_⟩;exact avv
     unfold gJ;rw[e];rfl
  ·generalize mD C nu m te o L dn role vo (d4 S)=M at *;simp[f2,bD,ar,af,kW,aI,bW,gF,d7,bU,eg,aV,Sm]
  ·have G0:VL.bI ((ix nu m).map (λi:Nat=>iD (eE S i))++ [iD L.length])=true:=by simpa[cK,mJ,awX]using avt
   rw[avs];simp[gx,G0,h4,cK,mJ,awX]
 ·generalize mD C nu m te o L dn role vo (d4 S)=M at *;simp[bq,kW,bW,bU,eg,t9,uc,ue,uf]
 ·rfl
 ·intro z hz;have hq:=avr ((zs.filter λx=>decide (z<=x)).length);generalize mD C nu m te o L dn role vo (d4 S)=M at *;refine⟨[some (.ro (iD z)),some (.ro M),some (.ro (.nd .lst (zs.map iD)))], ?_, ?_,λ_=> ?_⟩
  ·simp[bD,bq,gH,af,aI,aV,t9,ud,ue]
  ·have e:=qD (n:=0 + 1 + 1 + 1) (js:= [none,some 0]) (is:= [0]) (fi:=λZ=>(af 2 Z).bind fP) (fg:=λd Z=>some (bq 0 (B.ro d) Z)) (ft:=λZ=>(au (iO λi j=>V.bl (decide (j<=i))) (af 0) (af 1) Z).bind λx=>match x with | D.sc (V.bl b)=>some b | x=>none) (fe:=gJ (af 0)) (Z:= [some (.ro (iD z)),some (.ro M),some (.ro (.nd .lst (zs.map iD)))]) zs iD (λx=>decide (z<=x)) iD ?_ h5 rfl ?_
   ·have e2:gF [.nd .lst ((zs.filter λx=>decide (z<=x)).map iD)]=some (iD ((zs.filter λx=>decide (z<=x)).length:Nat)):=by simp[gF]
    generalize (zs.filter λx=>decide (z<=x)).map iD=ys at *;refine ak.mpr ⟨tD (most m zs z),ak.mpr ⟨[M,iD ((zs.filter λx=>decide (z<=x)).length:Nat)], ?_, ?_⟩,rfl⟩
    ·refine ak.mpr ⟨M,rfl, ?_⟩;have e3:ar (λZ=>(ar (iJ (0 + 1 + 1 + 1) [none,some 0] [0] (λZ=>(af 2 Z).bind fP) (λd Z=>some (bq 0 (B.ro d) Z)) (λZ=>(au (iO λi j=>V.bl (decide (j<=i))) (af 0) (af 1) Z).bind λx=>match x with | D.sc (V.bl b)=>some b | x=>none) (gJ (af 0))) (λx=>some []) Z).bind gF) (λx=>some []) [some (.ro (iD z)),some (.ro M),some (.ro (.nd .lst (zs.map iD)))]=some [iD ((zs.filter λx=>decide (z<=x)).length:Nat)]:=by
      exact ak.mpr ⟨_,ak.mpr ⟨[.nd .lst ys],ak.mpr ⟨.nd .lst ys,e,rfl⟩,e2⟩,rfl⟩
     exact congrArg (aX (M:: ·)) e3
    ·exact(if_pos rfl).trans hq
   ·simp[bD,af,fP]
   ·intro x _;simp[bD,bq,gH,af,iO,au,VL.plain,gJ,t9,ud,ue]
  ·simp[bD,af,VL.plain,gJ]
 ·generalize mD C nu m te o L dn role vo (d4 S)=M at *;simp[bq,t9,uc,ue,uf]
 ·have avw:i5 (.nd .lst [iD dn]) (.nd .lst ((zs.filter (most m zs)).map iD))=some (.nd .lst ((dn::zs.filter (most m zs)).map iD)):=by
   have avx:VL.bI (iD dn::(zs.filter (most m zs)).map iD)=true:=dM;have avy:1 + (zs.filter (most m zs)).length<=aM:=by lia
   simp[i5,gx,avx,avy]
  have apj:apU [.nd .lst ((dn::zs.filter (most m zs)).map iD)]=some (iD (k5 dn (zs.filter (most m zs)))):=by
   show(jq ((dn::zs.filter (most m zs)).map iD)).bind ato=_;rw[avu];rfl
  generalize (zs.filter (most m zs))=cs at *;generalize D.nd .lst ((dn::cs).map iD)=SS at *;generalize (cs.map iD)=ys at *;generalize (zs.map iD)=zz at *;simp only[mD,d3]at f3 |-;simp[avw,apj,za,An,A0,Eb,Hm,bD,ar,af,fV,ji,l0,oB,oE,aI,jh,d7,eM,au,aT,iI,eX,fO,aV,aZ,Sm]
 ·rfl
variable [eQ K C]
variable [eQ K C]
theorem asJ(nu ma te o:Int)(L R:List D)(dn:Int)(role:Str)(vo si:D)(hL:cc L)(hR:cc R)(hz:L.length<=440)(xO:R.length<=440):ao5 K C [mD C nu ma te o L dn role vo si, .nd .tup R]=some (.sc .aG, [mD C nu ma te o R dn role vo si]):=by
 have c1:=avc R L.length;have c2:=asA R L.length;have c3:=asA R 0;have hT:cc (R.take L.length):=asB hR λd hd=>awM hd;have asK:cc (R.drop L.length):=asB hR λd hd=>awL hd;obtain⟨c,hc,qp⟩:=Ex.eq (asz hT) (asz hL) (by decide) (by decide) (!·);have h3:L.length<=aM:=b7 hz (by decide);have h4:R.length<=aM:=b7 xO (by decide);have p1:=hL.plain;have p2:=hR.plain;rw[V7]at c3;have p3:=asK.plain;have p4:=hT.plain;cases c with
 |true=>
  have e:R.take L.length=L:=by have:=hc.mp rfl;injection this
  have hb:=asH (K:=K) (C:=C) nu ma te o L (R.drop L.length) dn role vo si hL asK (by rw[aik];lia);have e2:L++R.drop L.length=R:=by
   have:=aiD L.length R;rw[e]at this;exact this
  rw[e2]at hb;generalize R.drop L.length=R1 at *;generalize R.take L.length=R0 at *;simp only[mD,d3]at hb |-;simp[ao5,ao4,o5,p5,p6,p8,p1,p2,c1,c2,qp,hb,gP,kX,mY,gg,cT,dU,bD,bq,dG,gn,mr,fL,ar,af,ik,fV,kW,j3,ji,l0,oB,oE,aI,dk,gv,bW,jh,gF,ju,eM,au,bU,eg,aT,iI,eX,fO,g9,aV,jF,kY,fA,aZ,oS,lT,rQ,i9,me,t9,uc,ud,ue,uf]
 |false=>
  have hb:=asH (K:=K) (C:=C) nu ma te o [] R dn role vo si cc.nil hR (by simp;lia);rw[Wk]at hb;have c3:cutD R (some 0) none=R:=c3;generalize R.take L.length=R0 at *;simp only[mD,d3]at hb |-;simp[ao5,ao4,o5,p5,p6,p8,aoG,aoH,aoI,aoJ,aoK,aoL,aoM,aoN,aoO,p1,p2,c1,c3,qp,hb,gP,kX,mY,gg,cT,dU,bD,bq,dG,gn,mr,fL,ar,af,ik,fV,kW,j3,ji,l0,oB,oE,aI,dk,gv,bW,jh,gF,ju,eM,au,bU,eg,aT,iI,eX,fO,g9,aV,jF,kY,fA,aZ,oS,lT,rQ,i9,me,t9,uc,ud,ue,uf]
variable [eQ K C]
theorem avz(h:qA r):rF K C 2 [r]=some r:=by
 cases h <;> simp[iJ,rF,ao2,ao1,m4,jH,bD,bq,bV,gH,ar,af,gv,m4,k4,fP,kr,VL.plain,bI,jg,fA,rQ,apZ,me,mv,lS,t9,ue,CV,apV]
theorem avA(R:List D)(hR:cc R)(h:R.length<=900):ao3 K C [.nd .tup R]=some (.nd .tup R):=by
 have h3:R.length<=aM:=b7 h (by decide);have e:iJ 1 [none] [0] (λZ=>(af 0 Z).bind fP) (λd Z=>some (bq 0 (B.ro d) Z)) (λx=>some true) (λZ=>(ar (af 0) (λx=>some []) Z).bind λds=>if ds.length=1 then rF K C 2 ds else none) [some (.ro (.nd .tup R))]=some (.nd .lst R):=by
  have e:=qD (n:=1) (js:= [none]) (is:= [0]) (fi:=λZ=>(af 0 Z).bind fP) (fg:=λd Z=>some (bq 0 (B.ro d) Z)) (ft:=λx=>some true) (fe:=λZ=>(ar (af 0) (λx=>some []) Z).bind λds=>if ds.length=1 then rF K C 2 ds else none) (Z:= [some (.ro (.nd .tup R))]) R id (λ_=>true) id ?_ h3 rfl ?_
  ·rw[uV.mpr (λ_ _=>rfl),atA]at e;exact e
  ·simp[bD,af,fP]
  ·intro r hr;have hr:=avz (K:=K) (C:=C) (hR r hr);simp[hr,bD,bq,gH,ar,af,t9,ue]
 have hp:=hR.plain;unfold ao3;show bV _ (ao2 K C (rF K C 2)) _=_;unfold ao2 ao1;dsimp only;generalize (iJ 1 [none] [0] (λZ=>(af 0 Z).bind fP) (λd Z=>some (bq 0 (B.ro d) Z)) (λx=>some true) (λZ=>(ar (af 0) (λx=>some []) Z).bind λds=>if ds.length=1 then rF K C 2 ds else none))=F at e |-;simp[e,hp,m4,bD,bV,ar,af,gv,m4,k4,jg,fA,rQ,apZ,me,mv,lS]
theorem asL{α:Type}(f:α->D):∀(l:List (Int×α)) (i:Int) (x:α),(match cM (zh i:bc) (l.map λp=>(zh p.1:bc)) with | some k=>D.nd (.aO (l.map λp=>(zh p.1:bc))) ((l.map λp=>f p.2).set k (f x)) | none=>D.nd (.aO (l.map (λp=>(zh p.1:bc))++ [zh i])) ((l.map λp=>f p.2)++ [f x]))=D.nd (.aO ((dv l i x).map λp=>(zh p.1:bc))) ((dv l i x).map λp=>f p.2)
 | [],_,_=>rfl
 |p::l,i,x=>by
  have ih:=asL f l i x;by_cases h:p.1=i
  ·simp[cM,dv,h]
  ·have hk:¬ (zh p.1:bc)=zh i:=λz=>h (apA z);rw[cP,cP,cM,if_neg hk,dv,if_neg h];cases e:cM (zh i:bc) (l.map λp=>(zh p.1:bc)) with
   |none=>
    rw[e]at ih;injection ih with i1 i2
    injection i1 with i1
    simp only[Option.map_none,cP,zr];rw[i1,i2]
   |some k=>
    rw[e]at ih;injection ih with i1 i2
    injection i1 with i1
    simp only[jt,cP,List.set_cons_succ];rw[i1,i2]
theorem arb{α:Type}(f:α->D)(l:List (Int×α))(i:Int)(x:α)(hn:(l.map (·.1)).Nodup)(hz:l.length<=100):yf (.aO (l.map λp=>(zh p.1:bc))) (l.map λp=>f p.2) (iD i) (f x)=some (.nd (.aO ((dv l i x).map λp=>(zh p.1:bc))) ((dv l i x).map λp=>f p.2)):=by
 have h1:(l.map λp=>f p.2).length < aM:=by rw[eG];exact zp hz (by decide)
 have h2:(l.map λp=>(zh p.1:bc)).Nodup:=by
  have e:(l.map λp=>(zh p.1:bc))=(l.map (·.1)).map zh:=by rw[mJ];rfl
  rw[e];exact List.Pairwise.map _ (λa b h z=>h (apA z)) hn
 have e:=asL f l i x;unfold yf;show(if _ then _ else _)=_;rw[if_pos ⟨h1,h2⟩, <- e];cases cM (zh i:bc) (l.map λp=>(zh p.1:bc)) <;> rfl
theorem apk(h:cc v.2):VL.plain (eC v)=true:=by
 have:=h.plain;simp[eC,VL.plain,VL.bI,this]
theorem avB(vo:List (Int×Int×List D)):gF [aq vo]=some (iD vo.length):=by simp[gF,aq]
theorem avC(vo:List (Int×Int×List D))(h:∀p∈vo,cc p.2.2):aoB (aq vo)=some (.nd .lst (vo.map λp=>eC p.2)):=by
 have hp:VL.bI (vo.map λp=>eC p.2)=true:=vM λd hd=>by
  obtain⟨p,hp,rfl⟩:=gY.mp hd;exact apk (h p hp)
 simp[aoB,aq,hp]
theorem asM(v:Int×List D):UT K C [eC v]=some (.nd .tup [iD v.1,iD v.2.length]):=avl v.1 v.2
theorem arc:∀(r:List (Int×Int×List D)) (b:Int×List D),mH (UT K C) (r.map λp=>eC p.2) (eC b) (b.1,(b.2.length:Int))=some (eC (eU b r))
 | [],_=>rfl
 |p::r,b=>by
  rw[cP,mH,asM];show(if alI p.2.1 p.2.2.length b.1 b.2.length=true then _ else _)=_;unfold eU;rw[awY];have e:u0 b p.2=if alI p.2.1 p.2.2.length b.1 b.2.length=true then p.2 else b:=rfl;by_cases c:alI p.2.1 p.2.2.length b.1 b.2.length=true
  ·rw[if_pos c]at e |-;rw[e];exact arc r p.2
  ·rw[if_neg c]at e |-;rw[e];exact arc r b
theorem avD(v:Int×Int×List D)(r:List (Int×Int×List D))(h:∀p∈v::r,cc p.2.2):aoD (UT K C) [.nd .lst ((v::r).map λp=>eC p.2)]=some (eC (eU v.2 r)):=by
 have hp:VL.bI ((v::r).map λp=>eC p.2)=true:=vM λd hd=>by
  obtain⟨p,hp,rfl⟩:=gY.mp hd;exact apk (h p hp)
 rw[cP]at hp |-;unfold aoD;dsimp only;rw[if_pos hp,asM];exact arc r v.2
theorem asN:∀(r:List (Int×Int×List D)) (v:Int×List D),eU v r=v\/∃p∈r,eU v r=p.2
 | [],v=> .inl rfl
 |p::r,v=>by
  have e:eU v (p::r)=eU (u0 v p.2) r:=rfl;rw[e];rcases asN r (u0 v p.2) with h | ⟨q,hq,h⟩
  ·rw[h];unfold u0
   split
   ·exact .inr ⟨p, .head _,rfl⟩
   ·exact .inl rfl
  ·exact .inr ⟨q, .tail _ hq,h⟩
theorem asO(m:Nat)(nu:Int)(s:MS)(hL:cc s.L)(hz:s.L.length<=440)(hv:∀p∈s.vo,cc p.2.2/\p.2.2.length<=440)(hm:0 < m):apa K C [ag C m nu s]=some (.sc .aG, [ag C m nu (eN m s)]):=by
 obtain⟨te,o,L,dn,role,vo,si⟩:=s;have hb:=asF (K:=K) (C:=C) nu m te o L dn vo.length role (aq vo) (d4 si);have hl:=avB vo;by_cases h:(m:Int) < 2 * (vo.length:Nat)
 ·cases vo with
  |nil=>simp at h;lia
  |cons v r=>
   have avE:=avC (v::r) λp hp=>(hv p hp).1;have apj:=avD (K:=K) (C:=C) v r λp hp=>(hv p hp).1;have hB:cc (eU v.2 r).2/\(eU v.2 r).2.length<=440:=by
    rcases asN r v.2 with e | ⟨p,hp,e⟩
    ·rw[e];exact hv v (.head _)
    ·rw[e];exact hv p (.tail _ hp)
   have hr:=asJ (K:=K) (C:=C) nu m te o L (eU v.2 r).2 dn role (aq (v::r)) (d4 si) hL hB.1 hz hB.2;have hp:=hB.1.plain;have e:eN m ⟨te,o,L,dn,role,v::r,si⟩=⟨te,te,(eU v.2 r).2,dn,"leads",v::r, []⟩:=by
    unfold eN;rw[if_pos h]
   rw[e];rw[decide_eq_true h]at hb;unfold ag;dsimp only;have ez:d4 []= .nd (.aO []) []:=rfl;rw[ez];generalize (v::r).length=N at *;generalize aq (v::r)=W at *;generalize ((v::r).map λp=>eC p.2)=RR at *;generalize (eU v.2 r)=b at *;obtain⟨bo,bR⟩:=b;generalize d4 si=S at *;simp only[mD,d3,eC]at hb apj hr |-;simp[apa,ao9,hb,hl,avE,apj,hr,hp,gN,hE,vx,vX,wq,la,lb,lg,ll,ly,lD,anY,anZ,an0,an1,an2,an3,an4,an5,an6,an7,an8,an9,aoa,aob,aoc,gP,kX,mY,gg,cT,dU,bD,bq,dG,gn,fB,fL,ar,af,fW,ik,fV,kW,j3,ji,l0,oB,oE,aI,dk,gv,bW,mq,gC,dF,ay,kJ,jh,eM,bU,eg,gi,oC,aT,VL.plain,bI,gm,iI,eX,fO,g9,aV,jF,kY,fA,aZ,rQ,t9,uc,ue,uf]
 ·have e:eN m ⟨te,o,L,dn,role,vo,si⟩=⟨te,o,L,dn,role,vo,si⟩:=by
   unfold eN;rw[if_neg h]
  rw[e];rw[decide_eq_false h]at hb;unfold ag;dsimp only;generalize vo.length=N at *;generalize aq vo=W at *;generalize d4 si=S at *;simp only[mD,d3]at hb |-;simp[apa,ao9,hb,hl,anY,anZ,an0,an1,an2,an3,an4,gP,bD,dG,gn,fB,fL,ar,af,fW,kW,j3,ji,oB,aI,gv,bW,mq,gC,dF,ay,kJ,jh,bU,eg,gi,aT,iI,eX,aV,jF,kY,fA,rQ]
variable [eQ K C]
theorem avF(m:Nat)(nu:Int)(s:MS)(hL:cc s.L)(hz:s.L.length<=440)(h0:0 < m)(hm:m < 90):aph K C [ag C m nu s]=some (.nd .lst ((aq9 m nu (abr m nu s).te).map cf), [ag C m nu (abr m nu s)]):=by
 obtain⟨te,o,L,dn,role,vo,si⟩:=s;have avG:(0:Int) < m:=by lia
 have h3:(ix nu m).length<=aM:=by
  unfold ix;exact b7 (VT _ _) (by rw[aoy];exact b7 (by lia:m<=100) (by decide))
 have hn:=avk (K:=K) (C:=C) nu m te o L dn role (aq vo) (d4 si) avG;have hl:=asO (K:=K) (C:=C) m nu ⟨gj nu m te,o,L,dn,"stands", [(nu,o,L)],si⟩ hL hz (λp hp=>by rw[eS.mp hp];exact⟨hL,hz⟩) h0;have er:abr m nu ⟨te,o,L,dn,role,vo,si⟩=eN m ⟨gj nu m te,o,L,dn,"stands", [(nu,o,L)],si⟩:=rfl;have et:(eN m ⟨gj nu m te,o,L,dn,"stands", [(nu,o,L)],si⟩).te=gj nu m te:=by
  unfold eN
  split <;> rfl
 rw[er,et];generalize eN m ⟨gj nu m te,o,L,dn,"stands", [(nu,o,L)],si⟩=s2 at *;obtain⟨avH,o2,L2,apl,apm,asP,asQ⟩:=s2;have et:avH=gj nu m te:=et;subst et;have ho:=asI (K:=K) (C:=C) nu (gj nu m te) o2 m L2 apl apm (aq asP) (d4 asQ) (by lia);have hp:=hL.plain;have G9:L.length<=aM:=b7 hz (by decide);have avI:(aq9 m nu (gj nu m te)).map cf=(((ix nu m).filter λ_=>true).map λi:Nat=>D.nd .tup [.sc (.str "stand"), .sc (.int nu), .sc (.int (i:Int)), .sc (.int (gj nu m te))]):=by
  unfold aq9;rw[uV.mpr (λ_ _=>rfl),mJ];rfl
 rw[avI];unfold ag at hl |-;dsimp only at hl |-;have ev:aq [(nu,o,L)]= .nd (.aO [.inl nu]) [.nd .tup [iD o, .nd .tup L]]:=rfl;rw[ev]at hl;generalize aq vo=V1 at *;generalize d4 si=S1 at *;generalize aq asP=V2 at *;generalize d4 asQ=S2 at *;unfold aph aqY;dsimp only;refine fC (ρ':= [some (.aB 1 []),some (.own (mD C nu m (gj nu m te) o2 L2 apl apm V2 S2))]) (aD (ρ':= [some (.aB 1 []),some (.own (mD C nu m (gj nu m te) o L dn role V1 S1))]) ?_ (aD (ρ':= [some (.aB 1 []),some (.own (mD C nu m (gj nu m te) o L dn "stands" V1 S1))]) ?_ (aD (ρ':= [some (.aB 1 []),some (.own (mD C nu m (gj nu m te) o L dn "stands" (.nd (.aO [.inl nu]) [.nd .tup [iD o, .nd .tup L]]) S1))]) ?_
  (aD (ρ':= [some (.aB 1 []),some (.own (mD C nu m (gj nu m te) o2 L2 apl apm V2 S2))]) ?_ (cD (j0 (qD (ix nu m) (λi:Nat=>D.sc (.int (i:Int))) (λ_=>true) (λi:Nat=>D.nd .tup [.sc (.str "stand"), .sc (.int nu), .sc (.int (i:Int)), .sc (.int (gj nu m te))]) ?_ h3 ?_ ?_))))))) ?_
 ·simp only[mD,d3]at hn |-;simp[hn,gN,hE,bD,ar,af,fV,kW,l0,oE,aI,bW,eM,bU,eg,aT,iI,eX,fO,aV,aZ]
 ·simp[mD,d3,la,lb,lg,ll,ly,lD,fV,l0,oE,aI,eM,aT,iI,eX,fO,aV,aZ]
 ·simp[mD,d3,hp,vx,vX,wq,o5,p5,p6,p8,anY,anZ,an0,an1,an2,an3,an4,bD,ar,af,qB,fV,ji,l0,oB,oE,aI,kJ,jh,d7,eM,aT,VL.plain,gJ,iI,eX,fO,aV,aZ,me,CV]
 ·simp only[mD,d3]at hl |-;simp[hl,kX,mY,gg,cT,gn,fL,ik,j3,aI,dk,aT,eX,fO,g9,aV,jF,kY,aZ]
 ·refine ak.mpr ⟨.nd .lst ((ix nu m).map λi:Nat=>D.sc (.int (i:Int))),ak.mpr ⟨[mD C nu m (gj nu m te) o2 L2 apl apm V2 S2], ?_, ?_⟩,rfl⟩
  ·clear ho hl hn;simp[bD,ar,af,aI,aV]
  ·exact(if_pos rfl).trans ho
 ·rfl
 ·intro i hi;simp[mD,d3,gN,hE,bD,bq,gH,ar,af,ji,oB,aI,jh,d7,VL.plain,gJ,iI,aV,t9,ud,ue,at8]
 ·rfl
theorem avJ(m:Nat)(nu sn i t:Int)(s:MS)(hL:cc s.L)(hz:s.L.length<=440):ao8 K C [ag C m nu s,iD sn,iD t]=some (.nd .lst ((cS m nu s (.gD sn i t)).2.map cf), [ag C m nu (cS m nu s (.gD sn i t)).1]):=by
 obtain⟨te,o,L,dn,role,vo,si⟩:=s;unfold cS ag;dsimp only;by_cases h:t<=te
 ·rw[if_pos h];dsimp only;simp only[mD,d3];simp[ao8,ao7,h,gN,hE,gP,bD,dG,ar,af,kW,ji,oB,aI,gv,iO,bW,jh,ju,au,bU,eg,iI,jg,aV,fA,rQ]
 ·rw[if_neg h];dsimp only;have hr:=avp (K:=K) (C:=C) nu m t o L dn "hears" (aq vo) (d4 si) hL (b7 hz (by decide));have hp:=hL.plain;rw[cP,jQ,cf];simp only[mD,d3]at hr |-;simp[ao8,ao7,hr,h,gN,hE,vx,vX,wq,la,lb,lg,ll,ly,lD,gP,bD,dG,ar,eJ,af,fV,kW,ji,l0,oB,oE,aI,gv,iO,bW,jh,ju,kr,eM,au,bU,eg,aT,VL.plain,gm,iI,eX,fO,jg,aV,fA,aZ,rQ,kU,Sm,at9]
theorem apn{r:Str}(h:r="hears"\/r="stands"\/r="leads"):oe r=true:=by
 rcases h with rfl | rfl | rfl <;> decide +kernel
theorem avK(m:Nat)(nu sn i t o':Int)(R:List D)(s:MS)(w:Wf 440 s)(hR:cc R)(hz:R.length<=440)(hm:0 < m):aon K C [ag C m nu s,iD sn,iD t,iD o', .nd .tup R]=some (.nd .lst ((cS m nu s (.cm sn i t o' R)).2.map cf), [ag C m nu (cS m nu s (.cm sn i t o' R)).1]):=by
 have he:=Ea s.role "stands" (apn w.role) (by decide +kernel);have hw:=w.rows.plain;by_cases h:s.role="stands"/\t=s.te
 ·have e:cS m nu s (.cm sn i t o' R)=(eN m { s with vo:=dv s.vo sn (o',R) }, []):=by
   unfold cS;dsimp only;rw[if_pos h]
  rw[e];obtain⟨h1,h2⟩:=h;subst h2;have hv:∀p∈dv s.vo sn (o',R),cc p.2.2/\p.2.2.length<=440:=λp hp=>by
   rcases WD s.vo sn (o',R) p hp with q | q
   ·exact w.vr p q
   ·rw[q];exact⟨hR,hz⟩
  have hl:=asO (K:=K) (C:=C) m nu { s with vo:=dv s.vo sn (o',R) } w.rows w.len hv hm;have tF:=arb eC s.vo sn (o',R) w.vn (by have:=w.vl;lia);have hc:=avA (K:=K) (C:=C) R hR (by lia);have pl:=hR.plain;rw[h1,decide_eq_true rfl]at he;generalize eN m { s with vo:=dv s.vo sn (o',R) }=s2 at *;obtain⟨te,o,L,dn,role,vo,si⟩:=s;have h1:role="stands":=h1;subst h1;rw[jQ];have hM:∃M2,M2=ag C m nu s2:=⟨_,rfl⟩
  obtain⟨M2,hM⟩:=hM;rw[<- hM]at hl |-;clear hM;unfold ag at hl |-;dsimp only at hl he tF |-;have ev:aq vo= .nd (.aO (vo.map λp=>(zh p.1:bc))) (vo.map λp=>eC p.2):=rfl;have d5:aq (dv vo sn (o',R))= .nd (.aO ((dv vo sn (o',R)).map λp=>(zh p.1:bc))) ((dv vo sn (o',R)).map λp=>eC p.2):=rfl;rw[<- d5]at tF;rw[ev];generalize aq (dv vo sn (o',R))=W at *;generalize (vo.map λp=>(zh p.1:bc))=ks at *;generalize (vo.map λp=>eC p.2)=cs at *;generalize d4 si=S at *;simp only[mD,d3,eC]at hl tF |-;simp[aon,aom,he,oX,hc,tF,hl,gN,hE,la,lb,lg,ll,ly,lD,anY,anZ,an0,an1,an2,an3,an4,gP,lN,kX,mY,gg,cT,bD,dG,gn,fL,ar,af,hJ,ik,fV,kW,j3,ji,oB,iZ,aI,dk,gv,cg,bW,jh,ju,aoF,kr,eM,au,bU,eg,gi,oC,aT,VL.plain,bI,iI,eX,fO,g9,jg,aV,jF,kY,fA,aZ,rQ]
 ·have e:cS m nu s (.cm sn i t o' R)=(s, []):=by
   unfold cS;dsimp only;rw[if_neg h]
  rw[e];obtain⟨te,o,L,dn,role,vo,si⟩:=s;unfold ag;dsimp only at h he |-;rw[jQ];by_cases h1:role="stands"
  ·rw[decide_eq_true h1]at he;have h2:¬ t=te:=λz=>h ⟨h1,z⟩;simp only[mD,d3];simp[aon,aom,he,oX,h2,gN,hE,la,lb,lg,ll,ly,lD,gP,lN,bD,dG,gn,fL,ar,af,hJ,fV,kW,j3,ji,oB,iZ,aI,gv,bW,jh,ju,aoF,kr,eM,au,bU,eg,gi,aT,iI,eX,fO,jg,aV,jF,kY,fA,rQ]
  ·rw[decide_eq_false h1]at he;simp only[mD,d3];simp[aon,aom,he,oX,gN,hE,la,lb,lg,ll,ly,lD,gP,lN,bD,dG,gn,fL,ar,af,hJ,fV,kW,j3,ji,oB,iZ,aI,gv,bW,jh,ju,aoF,kr,eM,au,bU,eg,gi,aT,iI,eX,fO,jg,aV,jF,kY,fA,rQ]
theorem or_true{a:Prop}[Decidable a]{l r:Nat}(h:a\/(l:Int) < r):(if a then some true else some (decide (l < r)))=some true:=by
 by_cases c:a
 ·rw[if_pos c]
 ·rw[if_neg c,decide_eq_true (by have:=h.resolve_left c;lia)]
theorem avL(m:Nat)(nu sn i t sure:Int)(R:List D)(s:MS)(hL:cc s.L)(hz:s.L.length<=440)(hR:cc R)(xO:R.length<=440):aoj K C [ag C m nu s,iD sn,iD t, .nd .tup R,iD sure]=some (.nd .lst ((cS m nu s (.keep sn i t R sure)).2.map cf), [ag C m nu (cS m nu s (.keep sn i t R sure)).1]):=by
 obtain⟨te,o,L,dn,role,vo,si⟩:=s;have p1:=hL.plain;have p2:=hR.plain;unfold cS ag;dsimp only;by_cases h:t < te
 ·rw[if_pos h];dsimp only;rw[jQ];simp only[mD,d3];simp[aoj,aoi,h,gN,hE,gP,bD,dG,gn,fB,fL,ar,af,kW,j3,ji,oB,aI,gv,iO,bW,jh,ju,au,mV,bU,eg,gi,aT,iI,eX,jg,aV,jF,kY,fA,rQ]
 ·rw[if_neg h];unfold kept;dsimp only;by_cases hc:o < t\/(L.length:Int) < R.length
  ·rw[if_pos hc];dsimp only;rw[cP,jQ,cf];have hr:=asJ (K:=K) (C:=C) nu m t o L R dn "hears" (aq vo) (d4 si) hL hR hz xO;have avM:=or_true hc;simp only[mD,d3]at hr |-;simp[aoj,aoi,h,hr,p2,gN,hE,vx,vX,wq,o5,p5,p6,p8,za,An,A0,Eb,Hm,la,lb,lg,ll,ly,lD,avM,gP,kX,mY,gg,cT,bD,dG,gn,fB,fL,ar,eJ,af,ik,fV,kW,j3,ji,l0,oB,oE,aI,dk,gv,iO,kB,bW,jh,gF,ju,kr,eM,au,mV,bU,eg,gi,aT,VL.plain,gm,iI,eX,fO,g9,jg,aV,jF,kY,fA,aZ,rQ,kU,Sm,ar0]
  ·rw[if_neg hc];dsimp only;rw[cP,jQ,cf];have vE:¬ o < t:=λz=>hc (.inl z);have jV:¬ L.length < R.length:=λz=>hc (.inr (by lia));simp only[mD,d3];simp[aoj,aoi,h,vE,jV,gN,hE,vx,vX,wq,o5,p5,p6,p8,za,An,A0,Eb,Hm,la,lb,lg,ll,ly,lD,gP,bD,dG,gn,fB,fL,ar,eJ,af,ik,fV,kW,j3,ji,l0,oB,oE,aI,gv,iO,kB,bW,jh,gF,ju,kr,eM,au,mV,bU,eg,gi,aT,VL.plain,gm,iI,eX,fO,jg,aV,jF,kY,fA,aZ,rQ,kU,Sm,ar0]
theorem avN{c:En->Option (Bool×En)}{a b:En->Option Fl}{Z ρ1:En}{r:Option Fl}(h:c Z=some (true,ρ1))(ha:a ρ1=r):gv c a b Z=r:=by
 unfold gv;rw[h];exact ha
theorem avO{GC:List D->Option (D×List D)}{M1 M2 d:D}{sn te z:Int}(hc:GC [M1]=some (d, [M2])):ik (λZ=>(aX (λa=>(a,Z)) (gn (aT 0) (λx=>some []) Z)).bind λa=>fL GC a.fst a.snd) [some (.aB 4 []),some (.ro (iD sn)),some (.ro (iD te)),some (.ro (iD z)),some (.own M1)]=some (.nx [some (.aB 4 []),some (.ro (iD sn)),some (.ro (iD te)),some (.ro (iD z)),some (.own M2)]):=by
 have hs:∀(M e:D),aZ M [] e=e:=λM e=>by cases M <;> rfl
 simp[hc,kX,mY,gg,cT,gn,fL,ik,j3,aI,dk,aT,eX,fO,g9,aV,jF,kY,aZ]
theorem avP(m:Nat)(nu sn i t z:Int)(s:MS)(w:Wf 440 s)(hm:m < 90):aol K C [ag C m nu s,iD sn,iD t,iD z]=some (.nd .lst ((cS m nu s (.kept sn i t z)).2.map cf), [ag C m nu (cS m nu s (.kept sn i t z)).1]):=by
 have he:=Ea s.role "leads" (apn w.role) (by decide +kernel);by_cases h:s.role="leads"/\t=s.te
 ·have e:cS m nu s (.kept sn i t z)=(count m nu { s with si:=dv s.si sn (if eE s.si sn > z then eE s.si sn else z) }, []):=by
   unfold cS;dsimp only;rw[if_pos h]
  rw[e];obtain⟨h1,h2⟩:=h;subst h2;have tF:=arb iD s.si sn (if eE s.si sn > z then eE s.si sn else z) w.sn (by have:=w.sl;lia);have hg:=asx s.si sn;rw[h1,decide_eq_true rfl]at he;obtain⟨te,o,L,dn,role,vo,si⟩:=s;have h1:role="leads":=h1;subst h1;dsimp only at he tF hg |-;rw[jQ];unfold count ag;dsimp only;have hc:=avq (K:=K) (C:=C) nu te o m L dn "leads" (aq vo) (dv si sn (if eE si sn > z then eE si sn else z)) hm;have d5:d4 (dv si sn (if eE si sn > z then eE si sn else z))= .nd (.aO ((dv si sn (if eE si sn > z then eE si sn else z)).map λp=>(zh p.1:bc))) ((dv si sn (if eE si sn > z then eE si sn else z)).map λp=>iD p.2):=rfl;rw[<- d5]at tF;generalize dv si sn (if eE si sn > z then eE si sn else z)=S' at *;generalize k5 dn ((kA nu m S' L.length).filter (most m (kA nu m S' L.length)))=asR at *;generalize aq vo=VV at *;have hW:∃W,W=d4 S':=⟨_,rfl⟩
  obtain⟨W,hW⟩:=hW;rw[<- hW]at tF hc |-;clear hW d5;unfold aol aok;dsimp only;refine fC (ρ':= [some (.aB 4 []),some (.ro (iD sn)),some (.ro (iD te)),some (.ro (iD z)),some (.own (mD C nu m te o L asR "leads" VV W))]) (aD (ρ':= [some (.aB 4 []),some (.ro (iD sn)),some (.ro (iD te)),some (.ro (iD z)),some (.own (mD C nu m te o L asR "leads" VV W))]) ?_ ?_) rfl
  ·have bQ:hJ (λZ=>aX (λd=>(d,Z)) ((ar (af 3) (ar (iu (λZ=>(af 0 Z).bind (ji (ae "sizes"))) (af 1) λx=>some (D.sc (V.int 0))) λx=>some []) Z).bind (kB λi j=>V.int (if j > i then j else i)))) (iZ (ae "sizes") (aT 0)) (af 1) [some (.aB 4 []),some (.ro (iD sn)),some (.ro (iD te)),some (.ro (iD z)),some (.own (mD C nu m te o L dn "leads" VV (d4 si)))]=some (.nx [some (.aB 4 []),some (.ro (iD sn)),some (.ro (iD te)),some (.ro (iD z)),some (.own (mD C nu m te o L dn "leads" VV W))]):=by
    have ard:iu (λZ=>(af 0 Z).bind (ji (ae "sizes"))) (af 1) (λx=>some (D.sc (V.int 0))) [some (.aB 4 []),some (.ro (iD sn)),some (.ro (iD te)),some (.ro (iD z)),some (.own (mD C nu m te o L dn "leads" VV (d4 si)))]=some (iD (eE si sn)):=by
     unfold iu;refine ak.mpr ⟨d4 si, ?_, ?_⟩
     ·simp[mD,d3,an5,an6,an7,an8,an9,aoa,aob,aoc,bD,af,ji,oB,aI,jh,iI,aV]
     ·exact hg
    generalize hq:eE si sn=q at *;generalize iu (λZ=>(af 0 Z).bind (ji (ae "sizes"))) (af 1) (λx=>some (D.sc (V.int 0)))=GD at ard |-;simp only[mD,d3,d4]at ard tF |-;simp[ard,tF,an5,an6,an7,an8,an9,aoa,aob,aoc,bD,ar,af,hJ,fV,oB,iZ,aI,cg,kB,jh,eM,gi,oC,aT,VL.plain,bI,iI,eX,fO,aV,aZ]
   have dJ:=avO (sn:=sn) (te:=te) (z:=z) hc;refine avN (ρ1:= [some (.aB 4 []),some (.ro (iD sn)),some (.ro (iD te)),some (.ro (iD z)),some (.own (mD C nu m te o L dn "leads" VV (d4 si)))]) ?_ (aD bQ dJ);simp only[mD,d3];simp[he,oX,gN,hE,la,lb,lg,ll,ly,lD,lN,bD,af,kW,ji,oB,aI,bW,jh,au,bU,eg,iI,aV]
  ·simp[ju,jg]
 ·have e:cS m nu s (.kept sn i t z)=(s, []):=by
   unfold cS;dsimp only;rw[if_neg h]
  rw[e];obtain⟨te,o,L,dn,role,vo,si⟩:=s;unfold ag;dsimp only at h he |-;rw[jQ];by_cases h1:role="leads"
  ·rw[decide_eq_true h1]at he;have h2:¬ t=te:=λz=>h ⟨h1,z⟩;simp only[mD,d3];simp[aol,aok,he,oX,h2,gN,hE,la,lb,lg,ll,ly,lD,gP,lN,bD,dG,gn,fL,ar,af,iu,fW,hJ,fV,kW,j3,ji,oB,iZ,aI,gv,bW,kJ,jh,ju,eM,au,bU,eg,gi,aT,iI,eX,fO,jg,aV,jF,kY,fA,rQ]
  ·rw[decide_eq_false h1]at he;simp only[mD,d3];simp[aol,aok,he,oX,gN,hE,la,lb,lg,ll,ly,lD,gP,lN,bD,dG,gn,fL,ar,af,iu,fW,hJ,fV,kW,j3,ji,oB,iZ,aI,gv,bW,kJ,jh,ju,eM,au,bU,eg,gi,aT,iI,eX,fO,jg,aV,jF,kY,fA,rQ]
theorem tR(a b:Str)(ha:oe a=true)(hb:oe b=true)(h:decide (a=b)=false):dN id (.sc (.str a)) (.sc (.str b))=some (.sc (.bl false)):=by rw[Ea _ _ ha hb,h]
theorem eqT(a:Str)(ha:oe a=true):dN id (.sc (.str a)) (.sc (.str a))=some (.sc (.bl true)):=by rw[Ea _ _ ha ha,decide_eq_true rfl]
theorem apo(m:Nat)(nu:Int)(s:MS)(g:jf)(w:Wf 440 s)(hg:g.ok 440)(h0:0 < m)(hm:m < 90):tE K C [ag C m nu s,cf g]=some (.nd .lst ((cS m nu s g).2.map cf), [ag C m nu (cS m nu s g).1]):=by
 cases g with
 |gD sn i t=>
  have hv:=avJ (K:=K) (C:=C) m nu sn i t s w.rows w.len;have h1:=eqT "stand" (by decide +kernel);generalize cS m nu s (.gD sn i t)=X at *;generalize ag C m nu s=M at *;rw[cf];simp[tE,UZ,h1,hv,gP,kX,mY,gg,cT,bD,dG,gn,fB,fL,af,fW,kW,j3,aI,dk,gv,bW,mq,gC,dF,aN,ay,aW,kJ,jh,au,bU,eg,gi,oC,aT,VL.plain,eX,fO,g9,jg,aV,jF,kY,fA,aZ,rQ]
 |cm sn i t o' R=>
  have hv:=avK (K:=K) (C:=C) m nu sn i t o' R s w hg.1 hg.2 h0;have h1:=tR "voice" "stand" (by decide +kernel) (by decide +kernel) (by decide +kernel);have h2:=eqT "voice" (by decide +kernel);have pl:=hg.1.plain;generalize cS m nu s (.cm sn i t o' R)=X at *;generalize ag C m nu s=M at *;rw[cf];simp[tE,UZ,h1,h2,hv,pl,gP,kX,mY,gg,cT,bD,dG,gn,fB,fL,af,fW,kW,j3,aI,dk,gv,bW,mq,gC,dF,aN,ay,aW,kJ,jh,au,bU,eg,gi,oC,aT,VL.plain,eX,fO,g9,jg,aV,jF,kY,fA,aZ,rQ]
 |keep sn i t R dn=>
  have hv:=avL (K:=K) (C:=C) m nu sn i t dn R s w.rows w.len hg.1 hg.2;have h1:=tR "keep" "stand" (by decide +kernel) (by decide +kernel) (by decide +kernel);have h2:=tR "keep" "voice" (by decide +kernel) (by decide +kernel) (by decide +kernel);have h3:=eqT "keep" (by decide +kernel);have pl:=hg.1.plain;generalize cS m nu s (.keep sn i t R dn)=X at *;generalize ag C m nu s=M at *;rw[cf];simp[tE,UZ,h1,h2,h3,hv,pl,gP,kX,mY,gg,cT,bD,dG,gn,fB,fL,af,fW,kW,j3,aI,dk,gv,bW,mq,gC,dF,aN,ay,aW,kJ,jh,au,bU,eg,gi,oC,aT,VL.plain,eX,fO,g9,jg,aV,jF,kY,fA,aZ,rQ]
 |kept sn i t z=>
  have hv:=avP (K:=K) (C:=C) m nu sn i t z s w hm;have h1:=tR "kept" "stand" (by decide +kernel) (by decide +kernel) (by decide +kernel);have h2:=tR "kept" "voice" (by decide +kernel) (by decide +kernel) (by decide +kernel);have h3:=tR "kept" "keep" (by decide +kernel) (by decide +kernel) (by decide +kernel);generalize cS m nu s (.kept sn i t z)=X at *;generalize ag C m nu s=M at *;rw[cf];simp[tE,UZ,h1,h2,h3,hv,gP,kX,mY,gg,cT,bD,dG,gn,fB,fL,af,fW,kW,j3,aI,dk,gv,bW,mq,gC,dF,aN,ay,aW,kJ,jh,au,bU,eg,gi,oC,aT,VL.plain,eX,fO,g9,jg,aV,jF,kY,fA,aZ,rQ]
variable [eQ K C]
theorem afD(cs:List Int)(k:Nat):∃c:Int,EI K C [sg cs,iD k]=some (iD c):=by
 by_cases h:k < cs.length
 ·exact⟨cs[k],by simp[EI,EH,sg,h,bD,bV,ar,af,fW,gv,iO,mq,gC,aN,ay,aW,kJ,jh,gF,au,VL.plain,gm,jg,fA,rQ]⟩
 ·exact⟨0,by simp[EI,EH,sg,h,bD,bV,ar,af,fW,gv,iO,mq,gC,aN,ay,aW,kJ,gF,au,gm,jg,fA,rQ]⟩
theorem Uj(c k:Int)(hk:0<=k/\k < 2 ^ 30):∃m:Int,0<=m/\m < 1999999973/\La K C [iD c,iD k]=some (iD m):=by
 let m:=((c % 2147483629 + k * k * 7919 + 11) * 48271 % 2147483647)
 have hm:0<=m/\m < 2147483647:=⟨l6 _ (by decide),nW _ (by decide)⟩
 refine⟨m * m % 1999999973,l6 _ (by decide),nW _ (by decide), ?_⟩;have k1: -18446744073709551616 < k/\k < 18446744073709551616:=by lia
 have m1: -18446744073709551616 < m/\m < 18446744073709551616:=by lia
 have m2: -18446744073709551616 < (c % 2147483629 + k * k * 7919 + 11) * 48271 % 2147483647/\(c % 2147483629 + k * k * 7919 + 11) * 48271 % 2147483647 < 18446744073709551616:=m1;simp[La,K9,k1,m2,m,i5,gx,dU,bD,bq,bV,af,intD,au,jg,fA,rQ,mM,t9,ud,ue]
theorem avQ(c m:Int)(hm:0 < m)(h2:m < 2 ^ 200):Bp K C [.nd .lst [iD c],iD m]=some (iD (c % m), [.nd .lst [iD (c / m)]]):=by
 have h3:m < 1606938044258990275541962092341162602522202993782792835301376:=h2;simp[Bp,KG,oX,hm,h3,gP,lN,dU,bD,bq,dG,ar,af,fW,fV,kW,aI,gv,iO,intD,bW,mq,gC,aN,ay,aW,kJ,jh,gF,lO,kr,eM,au,bU,eg,aT,VL.plain,oV,eX,fO,jg,aV,fA,rT,oU,aZ,rQ,oq,t9,uc,ud,ue,uf]
theorem avR(c r m:Int)(hm:0 < m)(h2:m < 2 ^ 200):∃d l,0<=d/\d < m/\(∃x y,l= [iD x]\/l= [iD x,iD y])/\Bp K C [.nd .lst [iD c,iD r],iD m]=some (iD d, [.nd .lst l]):=by
 have h3:m < 1606938044258990275541962092341162602522202993782792835301376:=h2;by_cases h:c=0
 ·subst h;refine⟨r % m, [iD (r / m)],l6 _ (by lia),nW _ hm,⟨_,0, .inl rfl⟩, ?_⟩;simp[Bp,KG,oX,hm,h3,gP,lN,dU,bD,bq,dG,ar,af,fW,fV,kW,aI,gv,iO,intD,bW,mq,gC,aN,ay,aW,kJ,jh,gF,lO,kr,eM,au,bU,eg,aT,VL.plain,oV,eX,fO,jg,aV,fA,rT,oU,aZ,rQ,oq,t9,uc,ud,ue,uf]
 ·refine⟨c % m, [iD (c / m),iD r],l6 _ (by lia),nW _ hm,⟨_,_, .inr rfl⟩, ?_⟩;simp[Bp,KG,oX,hm,h3,h,gP,lN,dU,bD,bq,dG,ar,af,fW,fV,kW,aI,gv,iO,intD,bW,mq,gC,aN,ay,aW,kJ,jh,gF,lO,kr,eM,au,bU,eg,aT,VL.plain,oV,eX,fO,jg,aV,fA,rT,oU,aZ,rQ,oq,t9,uc,ud,ue,uf]
theorem avS(c:Int)(k:Nat)(hk:k < 2 ^ 20):∃r:Int,ape K C [iD c,iD k]=some (iD r):=by
 have key:∃d,ape K C [iD c,iD k]=some d/\∃r,d=iD r:=by
  unfold ape aqU;dsimp only;refine Rg (Ev.nx (ρ':= [some (.ro (iD c)),some (.ro (iD k)),some (.own (iD 0)),none]) (by simp[ki,dU,bq,t9,ud,ue]) (Ev.seq ?_));refine Ev.for (ds:=iQ 0 12) (by simp[tZ,ar]) (λZ=>∃(nu:Int) (x:Option B),NA x/\Z= [some (.ro (iD c)),some (.ro (iD k)),some (.own (iD nu)),x]) ⟨0,none,(λ_ _ h=>by cases h),rfl⟩ ?_ ?_
  ·rintro d hd Z ⟨nu,x,hx,rfl⟩;obtain⟨j,hj,rfl⟩:=abm hd;obtain⟨m1,a1,a2,e1⟩:=Uj (K:=K) (C:=C) c (k + 20 * j) (by lia);obtain⟨m2,b1,b2,e2⟩:=Uj (K:=K) (C:=C) m1 j (by lia);have z:(0:Int) + j=j:=aty _;rw[z];simp[Ev,abj hx,e1,e2,i5,gx,dU,bD,bq,ar,af,intD,kr,au,jg,mM,t9,uc,ud];exact(λ_ _ h=>by cases h)
  ·rintro Z ⟨nu,x,hx,rfl⟩;simp[Ev,bD,af,kr,VL.plain,jg]
 obtain⟨d,e,r,rfl⟩:=key;exact⟨r,e⟩
theorem avT(cs:List Int)(k:Nat)(hk:k < 2 ^ 20):∃l:List D,Lp l/\uu K C [sg cs,iD k]=some (.nd .lst l):=by
 obtain⟨c,e1⟩:=afD (K:=K) (C:=C) cs k;obtain⟨r,e2⟩:=avS (K:=K) (C:=C) c k hk;by_cases h:1000000000000000000<=c
 ·refine⟨[iD c,iD r],⟨c,r, .inr rfl⟩, ?_⟩;simp[uu,Lb,e1,e2,h,dU,bD,bq,bV,ar,eJ,af,gv,iO,intD,ju,kr,au,VL.plain,jg,fA,rQ,qk,t9,ud,ue,CV]
 ·refine⟨[iD r],⟨r,0, .inl rfl⟩, ?_⟩;simp[uu,Lb,e1,e2,h,dU,bD,bq,bV,ar,eJ,af,gv,iO,intD,ju,kr,au,jg,fA,rQ,qk,t9,ud,ue,Sm]
theorem rU(l:List D)(hl:Lp l)(m:Int)(hm:0 < m)(h2:m < 2 ^ 200):∃(d:Int) (l':List D),0<=d/\d < m/\Lp l'/\Bp K C [.nd .lst l,iD m]=some (iD d, [.nd .lst l']):=by
 obtain⟨x,y,rfl | rfl⟩:=hl
 ·exact⟨_,_,l6 _ (by lia),nW _ hm,⟨_,0, .inl rfl⟩,avQ x m hm h2⟩
 ·obtain⟨d,l,a,b,⟨p,q,e⟩,g⟩:=avR (K:=K) (C:=C) x y m hm h2;exact⟨d,l,a,b,⟨p,q,e⟩,g⟩
end K26
namespace SF
open PySem L2 VL
section
variable {α β κ:Type}[DecidableEq β][DecidableEq κ]
end
section
variable {α:Type}
end
def Al(Z:En):Prop:=∀b∈Z,NA b\/∃r,b=some (.aB r [])
theorem L4(h:Al Z):eX Z=Z:=by
 unfold eX;have:∀b∈Z,fO Z b=b:=λb hb=>by
  rcases h b hb with n | ⟨r,rfl⟩
  ·exact abk n
  ·simp[fO]
 exact(Cs this).trans (List.map_id' Z)
theorem Al.set(h:Al Z)(r:Nat)(e:D):Al (Z.set r (some (.own e))):=λb hb=>by
 rcases List.mem_or_eq_of_mem_set hb with z | z
 ·exact h b z
 ·subst z;exact .inl cZ
theorem o4(h:Al Z)(r:Nat)(d0:D)(p:List Nat)(d':D):fV Z r d0 p d'=Z.set r (some (.own (aZ d0 p d'))):=by
 unfold fV;rw[L4 (h.set r _),NW]
section
variable {α β κ:Type}[DecidableEq β][DecidableEq κ]
end
theorem yM(h1:gg ρ1 as=some ds)(h2:jF (cT as)/\as.all (kY (cT as))=true)(h3:G ds=some (d,dq))(hl:dq.length=(cT as).length)(e:j3 ρ1 (cT as) dq=ρ'):fL G as ρ1=some (d,ρ'):=by
 unfold fL;rw[h1,ax,if_pos h2,h3,ax,if_pos hl];rw[e]
theorem jj(d e:D):aZ d [] e=e:=by cases d <;> rfl
theorem k9(d:D):aI d []=some d:=by cases d <;> rfl
theorem BA(h:Al Z)(hr:aV Z r=some d0)(d':D):j3 Z [⟨r, []⟩] [d']=Z.set r (some (.own d')):=by
 have e1:dk Z [⟨r, []⟩] [V.aG]=Z.set r (some (.own (.hl .aG))):=by
  unfold dk;rw[hr];dsimp only;rw[jj];rfl
 show g9 Z (eX (dk Z [⟨r, []⟩] [V.aG])) [⟨r, []⟩] [d']=_;rw[e1,L4 (h.set r _)];unfold g9;rw[hr];dsimp only;rw[jj,NW];rfl
theorem fin2(h:Al Z)(hn:r≠s)(hr:aV Z r=some d0)(hs:aV Z s=some d1)(d' amu:D):j3 Z [⟨r, []⟩,⟨s, []⟩] [d',amu]=(Z.set r (some (.own d'))).set s (some (.own amu)):=by
 have e1:dk Z [⟨r, []⟩,⟨s, []⟩] [V.aG,V.aG]=(Z.set r (some (.own (.hl .aG)))).set s (some (.own (.hl .aG))):=by
  rw[dk];dsimp only;rw[hr];dsimp only;rw[jj,dk];dsimp only;rw[rP hn,hs];dsimp only;rw[jj];rfl
 show g9 Z (eX (dk Z [⟨r, []⟩,⟨s, []⟩] [V.aG,V.aG])) [⟨r, []⟩,⟨s, []⟩] [d',amu]=_;rw[e1,L4 ((h.set r _).set s _),g9];dsimp only;rw[hr];dsimp only;rw[jj,g9];dsimp only;rw[hs];dsimp only;rw[jj];show(((Z.set r _).set s _).set r _).set s _=_;rw[List.set_comm _ _ hn.symm,NW,NW]
theorem asS(h:fp Z=some (.rt r p))(h2:fr Z=some as):gn fp fr Z=some (.io ⟨r,p⟩::as):=by
 unfold gn;rw[h,ax];dsimp only;rw[h2];rfl
theorem aoo(h:fe Z=some d)(h2:fr Z=some as):mr fe fr Z=some (.tm d::as):=by
 unfold mr;rw[h,ax,h2];rfl
theorem S8{G:List D->Option (D×List D)}{fa:En->Option (List Ar)}{as:List Ar}{ds dq:List D}(h0:fa Z=some as)(h1:gg Z as=some ds)(h2:jF (cT as)/\as.all (kY (cT as))=true)(h3:G ds=some (d,dq))(hl:dq.length=(cT as).length)(e:j3 Z (cT as) dq=ρ'):((aX (λa=>(a,Z)) (fa Z)).bind λa=>fL G a.fst a.snd)=some (d,ρ'):=by
 rw[h0,jt,ax];exact yM h1 h2 h3 hl e
theorem uv(h:f Z=some (d,ρ')):ik f Z=some (.nx ρ'):=by
 unfold ik;rw[h];rfl
noncomputable def bP:Option B->Bool
 |some (.aB _ (_::_))=>false
 |_=>true
theorem du(h:Z.all bP=true):Al Z:=λb hb=>by
 have:=gA.mp h b hb
 match b,this with
 |none,_=>exact .inl i6
 |some (.own _),_=>exact .inl cZ
 |some (.ro _),_=>exact .inl dO
 |some (.aB r []),_=>exact .inr ⟨r,rfl⟩
theorem bx(h1:fa Z=some (a,ρ1))(h2:fr ρ1=some (r,ai)):eJ fa fr Z=some (a::r,ai):=by
 unfold eJ;rw[h1,ax];dsimp only;rw[h2];rfl
theorem arf(h:f Z=some (l,ρ1))(hl:l.length<=12):kU f Z=some (.nd .tup l,ρ1):=by
 unfold kU;rw[h,ax];exact if_pos (b7 hl (by decide))
theorem S9(h:f Z=some (l,ρ1))(hl:l.length<=12):ju f Z=some (.nd .lst l,ρ1):=by
 unfold ju;rw[h,ax];exact if_pos (b7 hl (by decide))
theorem jJ(h:f Z=some l)(hl:l.length<=12):d7 k f Z=some (.nd k l):=by
 unfold d7;rw[h,ax];exact if_pos (b7 hl (by decide))
theorem bw(h1:fa Z=some a)(h2:fr Z=some r):ar fa fr Z=some (a::r):=by
 unfold ar;rw[h1,ax,h2];rfl
section
variable {α β κ:Type}[DecidableEq β][DecidableEq κ]
end
end SF
namespace K26
open PySem L2 VL WM
open SF (Al du o4 jj k9 yM BA uv bw jJ bx)
variable [eQ K C]
theorem avU(t:Int)(n:Nat)(hn:n<=20):(iJ 2 [none] [0] (λZ=>(ar (λZ=>(ar (af 1) (ar (λx=>some (D.sc (V.int 5))) λx=>some []) Z).bind (kB λi j=>V.int (if j < i then j else i))) (λx=>some []) Z).bind tZ) (λd Z=>some (bq 0 (B.ro d) Z)) (λx=>some true) (d7 Kd.tup (ar (λx=>some (D.sc (V.str (ae "row")))) (ar (gJ (af 0)) λx=>some [])))) [some (.ro (iD t)),some (.ro (iD n))]=some (.nd .lst ((kf (min n 5)).map λi:Nat=>D.nd .tup [sD "row",iD i])):=by
 have e:=qD (n:=2) (js:= [none]) (is:= [0]) (fi:=(λZ=>(ar (λZ=>(ar (af 1) (ar (λx=>some (D.sc (V.int 5))) λx=>some []) Z).bind (kB λi j=>V.int (if j < i then j else i))) (λx=>some []) Z).bind tZ)) (fg:=(λd Z=>some (bq 0 (B.ro d) Z))) (ft:=(λx=>some true)) (fe:=(d7 Kd.tup (ar (λx=>some (D.sc (V.str (ae "row")))) (ar (gJ (af 0)) λx=>some [])))) (Z:= [some (.ro (iD t)),some (.ro (iD n))]) (kf (min n 5)) (λi:Nat=>D.sc (.int (i:Int))) (λ_=>true) (λi:Nat=>D.nd .tup [sD "row",iD i]) ?_ (by rw[aoy];exact b7 (awH _ _) (by decide)) rfl ?_
 ·rw[e,uV.mpr (λ_ _=>rfl)]
 ·refine ak.mpr ⟨[iD ((min n 5:Nat):Int)], ?_,by rw[apW _ (by lia),Ri]⟩;have q:(if(5:Int) < (n:Int) then(5:Int) else(n:Int))=((min n 5:Nat):Int):=by
   by_cases c:(5:Int) < (n:Int)
   ·rw[if_pos c];lia
   ·rw[if_neg c];lia
  rw[<- q];simp[bD,ar,af,kB]
 ·intro i _;simp[bD,bq,gH,ar,af,d7,VL.plain,gJ,t9,ue,CV]
theorem avV(t:Int)(n:Nat)(hn:n<=20):(iJ 2 [none,some 0] [0] (λZ=>(ar (λx=>some (D.sc (V.int 5))) (ar (af 1) λx=>some []) Z).bind xm) (λd Z=>some (bq 0 (B.ro d) Z)) (λx=>some true) (d7 Kd.tup (ar (λx=>some (D.sc (V.str (ae "row")))) (ar (gJ (af 0)) (ar (gJ (af 1)) λx=>some []))))) [some (.ro (iD t)),some (.ro (iD n))]=some (.nd .lst ((kf (n - 5)).map λi:Nat=>D.nd .tup [sD "row",iD (5 + i),iD t])):=by
 have e:=qD (n:=2) (js:= [none,some 0]) (is:= [0]) (fi:=(λZ=>(ar (λx=>some (D.sc (V.int 5))) (ar (af 1) λx=>some []) Z).bind xm)) (fg:=(λd Z=>some (bq 0 (B.ro d) Z))) (ft:=(λx=>some true)) (fe:=(d7 Kd.tup (ar (λx=>some (D.sc (V.str (ae "row")))) (ar (gJ (af 0)) (ar (gJ (af 1)) λx=>some []))))) (Z:= [some (.ro (iD t)),some (.ro (iD n))]) (kf (n - 5)) (λi:Nat=>D.sc (.int (5 + (i:Int)))) (λ_=>true) (λi:Nat=>D.nd .tup [sD "row",iD (5 + i),iD t]) ?_ (by rw[aoy];exact b7 (b7 (Nat.sub_le n 5) hn) (by decide)) rfl ?_
 ·rw[e,uV.mpr (λ_ _=>rfl)]
 ·refine ak.mpr ⟨[iD 5,iD n], ?_, ?_⟩
  ·simp[bD,ar,af]
  ·unfold xm;dsimp only;rw[if_pos ⟨by lia,by lia,by lia,by lia⟩];rw[show((n:Int) - 5).toNat=n - 5 by lia];rfl
 ·intro i _;simp[bD,bq,gH,ar,af,d7,VL.plain,gJ,t9,ud,ue,apV]
theorem afB(t:Int)(n:Nat)(h:n<=20):∃R:List D,cc R/\R.length=n/\yF K C [iD t,iD n]=some (.nd .tup R):=by
 have e1:=avU t n h;have e2:=avV t n h;have l1:((kf (min n 5)).map λi:Nat=>D.nd .tup [sD "row",iD i]).length + ((kf (n - 5)).map λi:Nat=>D.nd .tup [sD "row",iD (5 + i),iD t]).length=n:=by simp;lia
 have r1:cc ((kf (min n 5)).map λi:Nat=>D.nd .tup [sD "row",iD i]):=λd hd=>by
  obtain⟨i,_,rfl⟩:=gY.mp hd;exact .a "row" i (by decide +kernel)
 have r2:cc ((kf (n - 5)).map λi:Nat=>D.nd .tup [sD "row",iD (5 + i),iD t]):=λd hd=>by
  obtain⟨i,_,rfl⟩:=gY.mp hd;exact .b "row" (5 + i) t (by decide +kernel)
 generalize ((kf (min n 5)).map λi:Nat=>D.nd .tup [sD "row",iD i])=R1 at *;generalize ((kf (n - 5)).map λi:Nat=>D.nd .tup [sD "row",iD (5 + i),iD t])=R2 at *;have h3:R1.length + R2.length<=aM:=b7 (by lia:_<=20) (by decide);have p3:=(r1.app r2).plain;refine⟨R1++R2,r1.app r2,by rw[dg];exact l1, ?_⟩;unfold yF Lf;dsimp only;generalize (iJ 2 [none] [0] (λZ=>(ar (λZ=>(ar (af 1) (ar (λx=>some (D.sc (V.int 5))) λx=>some []) Z).bind (kB λi j=>V.int (if j < i then j else i))) (λx=>some []) Z).bind tZ) (λd Z=>some (bq 0 (B.ro d) Z)) (λx=>some true) (d7 Kd.tup (ar (λx=>some (D.sc (V.str (ae "row")))) (ar (gJ (af 0)) λx=>some []))))=FA at e1 |-;generalize (iJ 2 [none,some 0] [0] (λZ=>(ar (λx=>some (D.sc (V.int 5))) (ar (af 1) λx=>some []) Z).bind xm) (λd Z=>some (bq 0 (B.ro d) Z)) (λx=>some true) (d7 Kd.tup (ar (λx=>some (D.sc (V.str (ae "row")))) (ar (gJ (af 0)) (ar (gJ (af 1)) λx=>some [])))))=FB at e2 |-;simp[e1,e2,p3,h3,i5,gx,bV,ar,au,jg,me]
def cx(m:Nat)(nu:Int)(s:MS):D:= .nd .tup [iD nu,iD m,iD s.te,iD s.o, .nd .dA s.L,iD s.dn,sD s.role]
theorem X8(m:Nat)(nu:Int)(s:MS)(hL:cc s.L):kT K C [ag C m nu s]=some (cx m nu s):=by
 have hp:=hL.plain;have s7:7<=aM:=by rw[mG];lia
 unfold kT aqx;simp[hp,s7,bV,jg,kU,eJ,gm,aod,Eg,vb,ar,af,bD,ji,oB,jh,ag,mD,d3,iI,VL.plain,cx,y0,gN,hE,vx,vX,wq,o5,p5,p6,p8,za,An,A0,Eb,Hm,la,lb,lg,ll,ly,lD]
theorem aj{α β:Type}{x:Option α}{a:α}{f:α->Option β}{r:Option β}(h:x=some a)(hr:f a=r):x.bind f=r:=by rw[h,ax,hr]
theorem bY{g:D->D->Option D}{fa fb:En->Option D}{Z:En}{a b:D}{r:Option D}(h1:fa Z=some a)(h2:fb Z=some b)(h:g a b=r):au g fa fb Z=r:=by
 unfold au;rw[h1,ax,h2,ax,h]
theorem k0{x:Option D}{b:Bool}(h:x=some (.sc (.bl b))):(x.bind λx=>match x with | D.sc (V.bl b)=>some b | x=>none)=some b:=by rw[h];rfl
theorem nc{t:En->Option Bool}{Z:En}{b:Bool}{f g:En->Option Fl}{r:Option Fl}(h:t Z=some b)(hr:(if b=true then f Z else g Z)=r):gv (λZ=>aX (λb=>(b,Z)) (t Z)) f g Z=r:=by
 unfold gv;dsimp only;rw[h];exact hr
theorem MP{t u:En->Option Fl}{Z ρ':En}{d:D}(e:t Z=some (.rt d ρ')):fA t u Z=some (.rt d ρ'):=by
 unfold fA;rw[e];rfl
theorem bt{t:En->Option Bool}{f u:En->Option Fl}{Z:En}{r:Option Fl}(h:t Z=some false)(hu:u Z=r):fA (gv (λZ=>aX (λb=>(b,Z)) (t Z)) f λZ=>some (.nx Z)) u Z=r:=
 aD (nc h (if_neg df)) hu
theorem avW{t:En->Option Bool}{f u:En->Option Fl}{Z ρ':En}{d:D}(h:t Z=some true)(hf:f Z=some (.rt d ρ')):fA (gv (λZ=>aX (λb=>(b,Z)) (t Z)) f λZ=>some (.nx Z)) u Z=some (.rt d ρ'):=
 MP (nc h ((if_pos rfl).trans hf))
theorem u3{G:List D->Option D}{fa:En->Option (List D)}{Z:En}{ds:List D}{d:D}{m:Nat}(h:fa Z=some ds)(hm:ds.length=m)(hG:G ds=some d):((fa Z).bind λds=>if ds.length=m then G ds else none)=some d:=by
 rw[h];show(if ds.length=m then G ds else none)=_;rw[if_pos hm,hG]
theorem apq{a b:En->Option Bool}{Z:En}{x y:Bool}(h1:a Z=some x)(h2:b Z=some y):mV a b Z=some (x || y):=by
 unfold mV;rw[h1,ax];cases x
 ·rw[if_neg df,h2];rfl
 ·rfl
theorem avX{a b:En->Option Bool}{Z:En}{x y:Bool}(h1:a Z=some x)(h2:b Z=some y):lN a b Z=some (x && y):=by
 unfold lN;rw[h1,ax];cases x
 ·rfl
 ·rw[if_pos rfl,h2];rfl
theorem asT{α:Type}{l:List α}{g h:α->D}{p:α->Bool}{n:Nat}{js:List (Option Nat)}{is:List Nat}{fi:En->Option (List D)}{fg:D->En->Option En}{ft:En->Option Bool}{fe:En->Option D}{Z:En}{ds:List D}(hd:ds=(l.filter p).map h)(h1:fi Z=some (l.map g))(hz:l.length<=1000)(rD:is.all (λi=>js[i]? == some none)=true)
  (h2:∀a∈l,∃ρ1,fg (g a) (gH n js Z)=some ρ1/\ft ρ1=some (p a)/\(p a=true->fe ρ1=some (h a))):iJ n js is fi fg ft fe Z=some (.nd .lst ds):=
 hd▸qD l g p h h1 (b7 hz (by rw[mG];lia)) rD h2
theorem nT{G:List D->Option (D×List D)}{fa:En->Option (List Ar)}{Z:En}{ds:List D}{d d' d0:D}{as:List Ar}{r:Nat}(al:Al Z)(hr:aV Z r=some d0)(h0:fa Z=some as)(h1:gg Z as=some ds)(h2:cT as= [⟨r, []⟩])(h3:as.all (kY [⟨r, []⟩])=true)(hG:G ds=some (d, [d'])):((aX (λa=>(a,Z)) (fa Z)).bind λa=>fL G a.fst a.snd)=some (d,Z.set r (some (.own d'))):=by
 refine SF.S8 h0 h1 ?_ hG ?_ ?_
 ·rw[h2];exact⟨N4 _ _,h3⟩
 ·rw[h2];rfl
 ·rw[h2];exact BA al hr d'
theorem aop{G:List D->Option (D×List D)}{mn:Str}{fr:En->Option (List Ar)}{Z:En}{as:List Ar}{ds:List D}{d d0 d':D}{r:Nat}{fp:En->Option Pl}(al:Al Z)(h0:fp Z=some (.rt r []))(hr:aV Z r=some d0)(io:N1 C mn d0=true)(h1:fr Z=some as)(h2:gg Z (.io ⟨r, []⟩::as)=some ds)(h3:cT (.io ⟨r, []⟩::as)= [⟨r, []⟩])(h4:(Ar.io ⟨r, []⟩::as).all (kY [⟨r, []⟩])=true)(hG:G ds=some (d, [d'])):N2 G C mn fp fr Z=some (d,Z.set r (some (.own d'))):=by
 unfold N2;refine aj h0 (aj (a:=d0) ?_ ?_)
 ·show(aV Z r).bind (aI · [])=_;rw[hr,ax];exact k9 _
 ·rw[if_pos io];dsimp only;refine aj h1 ?_;refine yM h2 ?_ hG ?_ ?_
  ·rw[h3];exact⟨N4 _ _,h4⟩
  ·rw[h3];rfl
  ·rw[h3];exact BA al hr d'
theorem avY{l:List D}(hl:Lp l){b:Int}(h0:0 < b)(h1:b < 2 ^ 200):∃(o:Int) (R l':List D),0<=o/\o < b/\cc R/\R.length<=20/\Lp l'/\apg K C [.nd .lst l,iD b]=some (.nd .tup [iD o, .nd .tup R], [.nd .lst l']):=by
 obtain⟨o,l1,a1,b1,c1,e1⟩:=rU (K:=K) (C:=C) l hl b h0 h1;obtain⟨z,l2,a2,b2,c2,e2⟩:=rU (K:=K) (C:=C) l1 c1 13 (by decide) (by decide);obtain⟨n,hn,en⟩:∃n:Nat,n<=20/\z * (if decide (0 < o)=true then 1 else 0)=(n:Int):=by
  by_cases q:0 < o
  ·exact⟨z.toNat,by lia,by rw[if_pos (decide_eq_true q)];lia⟩
  ·exact⟨0,by lia,by rw[if_neg (by rw[decide_eq_true_eq];exact q)];lia⟩
 obtain⟨R,hR,lR,eR⟩:=afB (K:=K) (C:=C) o n hn;refine⟨o,R,l2,a1,b1,hR,by lia,c2, ?_⟩;unfold apg aqV;dsimp only;have mu:intD mM (λi j=>V.int (i * j)) (iD z) (iD (if decide (0 < o)=true then 1 else 0))=some (iD (n:Int)):=by
  unfold intD;dsimp only;rw[if_pos (.inl ⟨by lia,by lia⟩),en]
 refine fC (ρ':= [some (.aB 3 []),some (.ro (iD b)),some (.own (iD o)),some (.own (.nd .lst l2))]) (aD (ρ':= [some (.aB 3 []),some (.ro (iD b)),some (.own (iD o)),some (.own (.nd .lst l1))]) (eW (nT (as:= [.io ⟨3, []⟩, .tm (iD b)]) (d0:= .nd .lst l) (du rfl) rfl rfl rfl rfl rfl e1) rfl) (cD (SF.arf (bx (a:=iD o) rfl (bx (a:= .nd .tup R) ?_ rfl)) (by show 2<=12;lia)))) rfl;unfold pR;refine aj (a:=([iD o,iD (n:Int)], [some (.aB 3 []),some (.ro (iD b)),some (.own (iD o)),some (.own (.nd .lst l2))])) (bx (a:=iD o) rfl (bx (j7 (a:=iD z) (b:=iD (if decide (0 < o)=true then 1 else 0)) (nT (as:= [.io ⟨3, []⟩, .tm (iD 13)]) (d0:= .nd .lst l1) (du rfl) rfl rfl rfl rfl rfl e2) ?_ mu) rfl)) ?_
 ·by_cases q:0 < o
  ·rw[decide_eq_true q];simp[q,ar,au,af,bD,iO,m3]
  ·rw[decide_eq_false q];simp[q,ar,au,af,bD,iO,m3]
 ·simp[eR]
variable [eQ K C]
theorem aoq(h:iI z d3=none):N1 C z (ag C m nu s)=true:=by
 show(decide (C=C) && (iI z d3).isNone)=true;rw[decide_eq_true rfl,h];rfl
theorem nz:ji "number" (ag C m nu s)=some (iD nu)/\ji "many" (ag C m nu s)=some (iD m)/\ji "term" (ag C m nu s)=some (iD s.te)/\ji "of" (ag C m nu s)=some (iD s.o)/\ji "log" (ag C m nu s)=some (.nd .lst s.L)/\ji "role" (ag C m nu s)=some (sD s.role):=by
 refine⟨?_, ?_, ?_, ?_, ?_, ?_⟩ <;> simp[ji,oB,jh,ag,mD,d3,iI,y0,gN,hE,vx,vX,wq,o5,p5,p6,p8,za,An,A0,Eb,Hm,la,lb,lg,ll,ly,lD]
theorem abn(h:0 < j):intD (λx j=>0 < j) (λi j=>V.int (i % j)) (iD i) (iD j)=some (iD (i % j)):=by
 unfold intD;dsimp only;rw[if_pos h]
theorem eq_self(h:Gd n d)(hn:n<=60)(g:Bool->Bool):dN g d d=some (.sc (.bl (g true))):=by
 obtain⟨x,x1,x2,x3,x4⟩:=h;unfold dN;rw[x1];simp[x2,x4]
 lia
theorem apr(w:Wf 440 s):Gd 60 (cx m nu s):=aub nu m s.te s.o s.L s.dn s.role w.rows (apn w.role)
noncomputable abbrev tL (M:D) (l:List D) (x2 x3:Option D):En:= [some (.aB 4 []),some (.aB 5 []),x2.map VL.B.own,x3.map VL.B.own,some (.own (.nd .lst l)),some (.own M)]
theorem avZ(hl:Lp l)(h0:0 < m)(hm:m < 90):∃(s':MS) (l':List D),Lp l'/\Wg m 440 s'/\s'.role="hears"/\0<=s'.te/\s'.te<=6/\apd K C [.nd .lst l,ag C m nu s0]=some (tD true, [.nd .lst l',ag C m nu s']):=by
 have w0:Wf 440 s0:=⟨λ_ h=>(nomatch h),jO _, .inl rfl,aow,jO _,λ_ h=>(nomatch h),aow,jO _⟩
 obtain⟨d,l1,a1,b1,c1,e1⟩:=rU (K:=K) (C:=C) l hl 6 (by decide) (by decide);have f0:=nz (C:=C) (m:=m) (nu:=nu) (s:=s0);have tt:∀l',((au (dN id) (au (intD (λx j=>0 < j) λi j=>V.int (i % j)) (af 2) λZ=>(af 1 Z).bind (ji (ae "many"))) (λZ=>(af 1 Z).bind (ji (ae "number"))) (tL (ag C m nu s0) l' (some (iD (1 + d))) none)).bind λx=>match x with | D.sc (V.bl b)=>some b | x=>none)=some (decide ((1 + d) % (m:Int)=nu)):=λl'=>
  k0 (bY (a:=iD ((1 + d) % (m:Int))) (b:=iD nu) (bY (a:=iD (1 + d)) (b:=iD m) rfl (aj (a:=ag C m nu s0) rfl f0.2.1) (abn (by lia))) (aj (a:=ag C m nu s0) rfl f0.1) (oX _ _))
 unfold apd aqT;dsimp only;have st:dU 2 (hZ gx (λZ=>aX (λd=>(d,Z)) (some (D.sc (V.int 1)))) λZ=>(aX (λa=>(a,Z)) (gn (aT 0) (mr (λx=>some (D.sc (V.int 6))) λx=>some []) Z)).bind λa=>fL (Bp K C) a.fst a.snd) (tL (ag C m nu s0) l none none)=some (.nx (tL (ag C m nu s0) l1 (some (iD (1 + d))) none)):=
  eW (j7 (a:=iD 1) (b:=iD d) rfl (nT (as:= [.io ⟨4, []⟩, .tm (iD 6)]) (d0:= .nd .lst l) (du rfl) rfl rfl rfl rfl rfl e1) rfl) rfl
 by_cases q:(1 + d) % (m:Int)=nu
 ·refine⟨s0,l1,c1,⟨w0,λ_ h=>(nomatch h),λ_ h=>(nomatch h)⟩,rfl,Int.le_refl _,by decide,fC (ρ':=tL (ag C m nu s0) l1 (some (iD (1 + d))) none) (aD st (avW (t:=λZ=>(au _ _ _ Z).bind _) ((tt l1).trans (by rw[decide_eq_true q])) rfl)) rfl⟩
 ·obtain⟨z,l2,a2,b2,c2,e2⟩:=rU (K:=K) (C:=C) l1 c1 13 (by decide) (by decide);obtain⟨n,rfl⟩:∃n:Nat,z=n:=⟨z.toNat,by lia⟩
  obtain⟨R,hR,lR,eR⟩:=afB (K:=K) (C:=C) (1 + d) n (by lia);have hh:=apo (K:=K) (C:=C) m nu s0 (.keep ((1 + d) % (m:Int)) nu (1 + d) R 0) w0 ⟨hR,by lia⟩ h0 hm;have es:(cS m nu s0 (.keep ((1 + d) % (m:Int)) nu (1 + d) R 0)).1=⟨1 + d,1 + d,R,0,"hears", [], []⟩:=by
   have h1:¬ ((1 + d:Int) < s0.te):=by show ¬ (1 + d < 0);lia
   have h2:s0.o < 1 + d\/(s0.L.length:Int) < R.length:= .inl (by show 0 < 1 + d;lia);have h3:¬ ((R.length:Int) < 0):=by lia
   simp only[cS,if_neg h1,kept,if_pos h2,if_neg h3];rfl
  rw[es]at hh;have w1:Wf 440 (⟨1 + d,1 + d,R,0,"hears", [], []⟩:MS):=⟨hR,by show R.length<=440;lia, .inl rfl,aow,jO _,λ_ h=>(nomatch h),aow,jO _⟩
  have ff:=X8 (K:=K) (C:=C) m nu ⟨1 + d,1 + d,R,0,"hears", [], []⟩ hR;have f1:=nz (C:=C) (m:=m) (nu:=nu) (s:=⟨1 + d,1 + d,R,0,"hears", [], []⟩);refine⟨⟨1 + d,1 + d,R,0,"hears", [], []⟩,l2,c2,⟨w1,λ_ h=>(nomatch h),λ_ h=>(nomatch h)⟩,rfl,by show 0<=1 + d;lia,by show 1 + d<=6;lia,fC (ρ':=tL (ag C m nu ⟨1 + d,1 + d,R,0,"hears", [], []⟩) l2 (some (iD (1 + d))) (some (.nd .tup R))) (aD st (bt (t:=λZ=>(au _ _ _ Z).bind _) ((tt l1).trans (by rw[decide_eq_false q])) (aD (ρ':=tL (ag C m nu s0) l2 (some (iD (1 + d))) (some (.nd .tup R))) (eW (d:= .nd .tup R) (ρ1:=tL (ag C m nu s0) l2 (some (iD (1 + d))) none) ?_ rfl) (aD (ρ':=tL (ag C m nu ⟨1 + d,1 + d,R,0,"hears", [], []⟩) l2 (some (iD (1 + d))) (some (.nd .tup R))) (uv (aop (r:=5) (Z:=tL (ag C m nu s0) l2 (some (iD (1 + d))) (some (.nd .tup R))) (d0:=ag C m nu s0) (as:= [.tm (cf (.keep ((1 + d) % (m:Int)) nu (1 + d) R 0))]) (du rfl) rfl rfl (aoq (z:="hear") (by decide +kernel)) ?_ rfl rfl rfl hh)) (cD (j7 (a:=cx m nu ⟨1 + d,1 + d,R,0,"hears", [], []⟩) (b:=cx m nu ⟨1 + d,1 + d,R,0,"hears", [], []⟩) (j0 (u3 (G:=kT K C) (m:=1) (ds:= [ag C m nu ⟨1 + d,1 + d,R,0,"hears", [], []⟩]) rfl rfl ff)) ?_ ?_)))))) rfl⟩
  ·unfold pR;refine aj (a:=([iD (1 + d),iD (n:Int)],tL (ag C m nu s0) l2 (some (iD (1 + d))) none)) (bx (a:=iD (1 + d)) rfl (bx (nT (as:= [.io ⟨4, []⟩, .tm (iD 13)]) (d0:= .nd .lst l1) (du rfl) rfl rfl rfl rfl rfl e2) rfl)) ?_;simp[eR]
  ·have hp:VL.plain (.nd .tup R)=true:=hR.plain;refine SF.aoo (d:=cf (.keep ((1 + d) % (m:Int)) nu (1 + d) R 0)) (jJ (bw rfl (bw (bY (a:=iD (1 + d)) (b:=iD m) rfl (aj (a:=ag C m nu s0) rfl f0.2.1) (abn (by lia))) (bw (aj (aj (a:=ag C m nu s0) rfl f0.1) rfl) (bw rfl (bw (aj (a:= .nd .tup R) rfl (if_pos hp)) (bw rfl rfl)))))) (by show 6<=12;lia)) rfl
  ·have hp:=hR.plain;refine SF.arf (bx (a:=iD nu) (aj (aj (a:=ag C m nu ⟨1 + d,1 + d,R,0,"hears", [], []⟩) rfl f1.1) rfl) (bx (a:=iD m) (aj (aj (a:=ag C m nu ⟨1 + d,1 + d,R,0,"hears", [], []⟩) rfl f1.2.1) rfl) (bx rfl (bx rfl (bx (a:= .nd .dA R) ?_ (bx rfl (bx rfl rfl))))))) (by show 7<=12;lia);simp[aod,Eg,vb,hp,ar,af,bD]
  ·exact eq_self (apr w1) (bO _) id
variable [eQ K C]
theorem av0(hR:cc R):Gd 4 (.nd .lst [cf (.cm nu sn t o R)]):=by
 have gR:Gd 2 (.nd .tup R):=mz.tup (mz.all λd hd=>(hR d hd).gd);exact mz.lst (mz.cons (mz.tup (mz.cons ((Gd.str _ (by decide +kernel)).mono (jO _)) (mz.cons ((Gd.int _).mono (jO _)) (mz.cons ((Gd.int _).mono (jO _)) (mz.cons ((Gd.int _).mono (jO _)) (mz.cons ((Gd.int _).mono (jO _)) (mz.cons gR mz.nil))))))) mz.nil)
theorem av1:wz K C [.nd .lst [], .nd .lst []]=some (tD true):=by
 unfold wz aoX;dsimp only;exact fQ (ρ':= [some (.ro (.nd .lst [])),some (.ro (.nd .lst [])),none]) (bt (t:=λZ=>mV _ _ Z) (apq (x:=false) (y:=false) rfl (k0 (bY (a:= .nd .lst []) (b:= .nd .lst []) rfl rfl (by simp[dN,cy,ky,sO,V8,sP,V9,d9,zu])))) rfl)
theorem av2(hR:cc R):wz K C [.nd .lst [cf (.cm nu sn t o R)], .nd .lst [cf (.cm nu sn t o R)]]=some (tD true):=by
 unfold wz aoX;dsimp only;have e:=eq_self (av0 (nu:=nu) (sn:=sn) (t:=t) (o:=o) hR) (by lia) (λx=> !x);refine fQ (ρ':= [some (.ro (.nd .lst [cf (.cm nu sn t o R)])),some (.ro (.nd .lst [cf (.cm nu sn t o R)])),some (.ro (cf (.cm nu sn t o R)))]) (bt (t:=λZ=>mV _ _ Z) (apq (x:=false) (y:=false) rfl (k0 (bY (a:= .nd .lst [cf (.cm nu sn t o R)]) (b:= .nd .lst [cf (.cm nu sn t o R)]) rfl rfl e))) (aD (ρ':= [some (.ro (.nd .lst [cf (.cm nu sn t o R)])),some (.ro (.nd .lst [cf (.cm nu sn t o R)])),some (.ro (cf (.cm nu sn t o R)))]) ?_ rfl));have l1:iJ 3 [none] [0] (λZ=>(af 2 Z).bind fP) (λd Z=>some (bq 0 (B.ro d) Z)) (λx=>some true) (λZ=>(ar (af 0) (ar (λx=>some (D.sc (V.ty "bool"))) λx=>some []) Z).bind (k4 "bool")) [some (.ro (.nd .lst [cf (.cm nu sn t o R)])),some (.ro (.nd .lst [cf (.cm nu sn t o R)])),some (.ro (cf (.cm nu sn t o R)))]=some (.nd .lst ([sD "voice",iD nu,iD sn,iD t,iD o, .nd .tup R].map λ_=>tD false)):=
  asT (l:= [sD "voice",iD nu,iD sn,iD t,iD o, .nd .tup R]) (g:=id) (p:=λ_=>true) (h:=λ_=>tD false) (by rw[uV.mpr λ_ _=>rfl]) (by rw[atA];rfl) (by show 6<=1000;lia) rfl λa ha=>by
   refine⟨[some (.ro a)],rfl,rfl,λ_=> ?_⟩;simp only[bL,dh,or_false]at ha;rcases ha with rfl | rfl | rfl | rfl | rfl | rfl <;> rfl
 have l2:iJ 3 [none] [0] (λZ=>(af 2 Z).bind fP) (λd Z=>some (bq 0 (B.ro d) Z)) (λx=>some true) (λZ=>(ar (af 0) (ar (d7 Kd.tup (ar (λx=>some (D.sc (V.ty "int"))) (ar (λx=>some (D.sc (V.ty "str"))) (ar (λx=>some (D.sc (V.ty "tuple"))) λx=>some [])))) λx=>some []) Z).bind oN) [some (.ro (.nd .lst [cf (.cm nu sn t o R)])),some (.ro (.nd .lst [cf (.cm nu sn t o R)])),some (.ro (cf (.cm nu sn t o R)))]=some (.nd .lst ([sD "voice",iD nu,iD sn,iD t,iD o, .nd .tup R].map λ_=>tD true)):=
  asT (l:= [sD "voice",iD nu,iD sn,iD t,iD o, .nd .tup R]) (g:=id) (p:=λ_=>true) (h:=λ_=>tD true) (by rw[uV.mpr λ_ _=>rfl]) (by rw[atA];rfl) (by show 6<=1000;lia) rfl λa ha=>by
   refine⟨[some (.ro a)],rfl,rfl,λ_=> ?_⟩;have s3:3<=aM:=by rw[mG];lia
   simp only[bL,dh,or_false]at ha;rcases ha with rfl | rfl | rfl | rfl | rfl | rfl <;> simp[ar,af,bD,d7,s3,oN,xk,lS,mv,m4]
 unfold VL.apX;show((apH (aT 0) [some (.ro (.nd .lst [cf (.cm nu sn t o R)])),some (.ro (.nd .lst [cf (.cm nu sn t o R)])),none]).bind _)=_;refine aj (a:= [cf (.cm nu sn t o R)]) rfl ?_;rw[eB];refine aj (a:= [some (.ro (.nd .lst [cf (.cm nu sn t o R)])),some (.ro (.nd .lst [cf (.cm nu sn t o R)])),some (.ro (cf (.cm nu sn t o R)))]) rfl ?_;refine aj (bt (t:=λZ=>mV _ _ Z) (apq (x:=false) (y:=false) rfl (k0 (aj (bw l1 rfl) rfl))) (nc (t:=λZ=>aX (λx=> !x) _) (b:=false) ((congrArg (aX (λx=> !x)) (k0 (aj (bw l2 rfl) rfl))).trans rfl) rfl)) rfl
variable [eQ K C]
noncomputable abbrev fm (M:D) (l:List D) (x2 x3 x4 x5 x6 x7:Option D):En:= [some (.aB 8 []),some (.aB 9 []),x2.map VL.B.ro,x3.map VL.B.own,x4.map VL.B.own,x5.map VL.B.own,x6.map VL.B.own,x7.map VL.B.own,some (.own (.nd .lst l)),some (.own M)]
theorem asU(h8:i≠8)(h9:i≠9):bq i β (fm M l x2 x3 x4 x5 x6 x7)=(fm M l x2 x3 x4 x5 x6 x7).set i (some β):=by
 unfold bq eI
 congr 1;have e8:(if 8=i then(none:Option VL.B) else some (.aB 8 []))=some (.aB 8 []):=if_neg (fw h8);have e9:(if 9=i then(none:Option VL.B) else some (.aB 9 []))=some (.aB 9 []):=if_neg (fw h9);cases x2 <;> cases x3 <;> cases x4 <;> cases x5 <;> cases x6 <;> cases x7 <;> simp[e8,e9,fw h8,fw h9]
theorem aps:Al (fm M l x2 x3 x4 x5 x6 x7):=du (by cases x2 <;> cases x3 <;> cases x4 <;> cases x5 <;> cases x6 <;> cases x7 <;> rfl)
theorem L0(e:f Z=some (d,fm M' l' x2 x3 x4 x5 x6 x7))(h8:i≠8)(h9:i≠9)(h:(fm M' l' x2 x3 x4 x5 x6 x7).set i (some (.own d))=ρ'):dU i f Z=some (.nx ρ'):=eW e ((asU h8 h9).trans h)
abbrev asV(K:ah)(C:Addr)[eQ K C]:En->Option Fl:=dU 3 (oK (kB λi j=>V.int (if j > i then j else i)) (eJ (λZ=>aX (λd=>(d,Z)) (some (D.sc (V.int 1)))) (eJ (hZ (iO λi j=>V.int (i - j)) (hZ gx (gm λZ=>(af 1 Z).bind (ji (ae "term"))) λZ=>(aX (λa=>(a,Z)) (gn (aT 0) (mr (λx=>some (D.sc (V.int 5))) λx=>some []) Z)).bind λa=>fL (Bp K C) a.fst a.snd) λZ=>aX (λd=>(d,Z)) (some (D.sc (V.int 2)))) λZ=>some ([],Z))))
theorem av3(hl:Lp l):∃(t:Int) (l':List D),1<=t/\(t<=s.te + 2\/t=1)/\Lp l'/\asV K C (fm (ag C m nu s) l x2 x3 x4 x5 x6 x7)=some (.nx (fm (ag C m nu s) l' x2 (some (iD t)) x4 x5 x6 x7)):=by
 obtain⟨d,l1,a1,b1,c1,e1⟩:=rU (K:=K) (C:=C) l hl 5 (by decide) (by decide);have f0:=nz (C:=C) (m:=m) (nu:=nu) (s:=s);refine⟨if s.te + d - 2 > 1 then s.te + d - 2 else 1,l1,by split <;> lia,by split <;> lia,c1,L0 (M':=ag C m nu s) (l':=l1) (x3:=x3) ?_ (by lia) (by lia) rfl⟩;unfold oK;refine aj (a:=([iD 1,iD (s.te + d - 2)],fm (ag C m nu s) l1 x2 x3 x4 x5 x6 x7)) (bx rfl (bx (j7 (a:=iD (s.te + d)) (b:=iD 2) (j7 (a:=iD s.te) (b:=iD d) (aj (aj (a:=ag C m nu s) rfl f0.2.2.1) rfl) (nT (r:=8) (as:= [.io ⟨8, []⟩, .tm (iD 5)]) (d0:= .nd .lst l) aps rfl rfl rfl rfl rfl e1) rfl) rfl rfl) rfl)) ?_;rfl
theorem asW:(cS m nu s (.gD sn i t))=if t<=s.te then(s, []) else({ s with te:=t,role:="hears" }, [.cm nu sn t s.o s.L]):=rfl
variable [eQ K C]
abbrev asX:En->Option Fl:=gv (λZ=>aX (λb=>(b,Z)) ((au (iO λi j=>V.bl (decide (j < i))) (af 3) (λZ=>(af 1 Z).bind (ji (ae "term"))) Z).bind λx=>match x with | D.sc (V.bl b)=>some b | x=>none))
 (fA (dU 4 (ju (eJ (kU (eJ (λZ=>aX (λd=>(d,Z)) (some (D.sc (V.str (ae "voice"))))) (eJ (gm λZ=>(af 1 Z).bind (ji (ae "number"))) (eJ (kr 6) (eJ (kr 3) (eJ (gm λZ=>(af 1 Z).bind (ji (ae "of"))) (eJ (λZ=>aX (λd=>(d,Z)) ((ar (λZ=>(af 1 Z).bind (ji (ae "log"))) (λx=>some []) Z).bind me)) λZ=>some ([],Z)))))))) λZ=>some ([],Z))))
  (dU 5 λZ=>aX (λd=>(d,Z)) (au gx (au i5 (au i5 (pP (af 5) (λx=>some none) λZ=>(some (D.sc (V.int 2))).bind i9) (d7 Kd.tup (ar (af 3) λx=>some []))) (pP (af 5) (λZ=>(some (D.sc (V.int 3))).bind i9) λZ=>(some (D.sc (V.int 6))).bind i9)) (d7 Kd.tup (ar (λx=>some (D.sc (V.str (ae "hears")))) λx=>some [])) Z))) λZ=>some (Fl.nx Z)
theorem av4(hL:cc s.L):asX (fm (ag C m nu s) l x2 (some (iD t)) (some (.nd .lst [])) (some (cx m nu s)) (some (iD z)) x7)=some (.nx (fm (ag C m nu s) l x2 (some (iD t)) (some (.nd .lst ((cS m nu s (.gD z nu t)).2.map cf))) (some (cx m nu (cS m nu s (.gD z nu t)).1)) (some (iD z)) x7)):=by
 have f0:=nz (C:=C) (m:=m) (nu:=nu) (s:=s);have hp:=hL.plain;refine nc (t:=λZ=>(au _ _ _ Z).bind _) (b:=decide (s.te < t)) (k0 (bY (a:=iD t) (b:=iD s.te) rfl (aj (a:=ag C m nu s) rfl f0.2.2.1) rfl)) ?_;rw[asW];by_cases q:s.te < t
 ·rw[if_pos (decide_eq_true q),if_neg (by lia)];refine aD (ρ':=fm (ag C m nu s) l x2 (some (iD t)) (some (.nd .lst [cf (.cm nu z t s.o s.L)])) (some (cx m nu s)) (some (iD z)) x7) (L0 (M':=ag C m nu s) (l':=l) (x2:=x2) (x3:=some (iD t)) (x4:=some (.nd .lst [])) (x5:=some (cx m nu s)) (x6:=some (iD z)) (x7:=x7) (SF.S9 (bx (a:=cf (.cm nu z t s.o s.L)) (SF.arf (bx rfl (bx (a:=iD nu) (aj (aj (a:=ag C m nu s) rfl f0.1) rfl) (bx rfl (bx rfl (bx (a:=iD s.o) (aj (aj (a:=ag C m nu s) rfl f0.2.2.2.1) rfl) (bx (a:= .nd .tup s.L) (j0 (aj (bw (aj (a:=ag C m nu s) rfl f0.2.2.2.2.1) rfl) ?_)) rfl)))))) (by show 6<=12;lia)) rfl) (by show 1<=12;lia)) (by lia) (by lia) rfl) (L0 (M':=ag C m nu s) (l':=l) (x2:=x2) (x3:=some (iD t)) (x4:=some (.nd .lst [cf (.cm nu z t s.o s.L)])) (x5:=some (cx m nu s)) (x6:=some (iD z)) (x7:=x7) (j0 ?_) (by lia) (by lia) rfl)
  ·simp[me,hp]
  ·refine bY (a:= .nd .tup [iD nu,iD m,iD t,iD s.o, .nd .dA s.L,iD s.dn]) (b:= .nd .tup [sD "hears"]) (bY (a:= .nd .tup [iD nu,iD m,iD t]) (b:= .nd .tup [iD s.o, .nd .dA s.L,iD s.dn]) (bY (a:= .nd .tup [iD nu,iD m]) (b:= .nd .tup [iD t]) rfl (jJ (bw rfl rfl) (by show 1<=12;lia)) ?_) rfl ?_) (jJ (bw rfl rfl) (by show 1<=12;lia)) ?_
   ·have s3:3<=aM:=by rw[mG];lia
    simp[i5,s3]
   ·have s3:6<=aM:=by rw[mG];lia
    simp[i5,s3]
   ·have s3:7<=aM:=by rw[mG];lia
    simp[gx,s3,bI,VL.plain,cx,hp]
 ·rw[if_neg (by rw[decide_eq_true_eq];exact q),if_pos (by lia)];rfl
variable [eQ K C]
abbrev asY(K:ah)(C:Addr)[eQ K C]:En->Option Fl:=gv (λZ=>aX (λb=>(b,Z)) ((au (dN λx=> !x) (au (intD (λx j=>0 < j) λi j=>V.int (i % j)) (af 3) λZ=>(af 1 Z).bind (ji (ae "many"))) (λZ=>(af 1 Z).bind (ji (ae "number"))) Z).bind λx=>match x with | D.sc (V.bl b)=>some b | x=>none))
 (fA (dU 4 (ju λZ=>some ([],Z))) (fA (dU 5 λZ=>aX (λd=>(d,Z)) ((ar (af 1) (λx=>some []) Z).bind λds=>if ds.length=1 then kT K C ds else none)) (fA (dU 6 λZ=>aX (λd=>(d,Z)) (au (intD (λx j=>0 < j) λi j=>V.int (i % j)) (af 3) (λZ=>(af 1 Z).bind (ji (ae "many"))) Z)) (fA asX
  (fA (dU 7 (N2 (tE K C) C (ae "hear") (aT 1) (mr (d7 Kd.tup (ar (λx=>some (D.sc (V.str (ae "stand")))) (ar (gJ (af 6)) (ar (gJ λZ=>(af 1 Z).bind (ji (ae "number"))) (ar (gJ (af 3)) λx=>some []))))) λx=>some [])))
   (fA (gv (λZ=>aX (λb=>(b,Z)) (mV (λZ=>aX (λx=> !x) (((ar (af 7) (ar (af 4) λx=>some []) Z).bind λds=>if ds.length=2 then wz K C ds else none).bind λx=>match x with | D.sc (V.bl b)=>some b | x=>none)) (λZ=>(au (dN λx=> !x) (λZ=>(ar (af 1) (λx=>some []) Z).bind λds=>if ds.length=1 then kT K C ds else none) (af 5) Z).bind λx=>match x with | D.sc (V.bl b)=>some b | x=>none) Z)) (jg λZ=>aX (λd=>(d,Z)) (some (D.sc (V.bl false)))) λZ=>some (Fl.nx Z))
    (ik (kx (aT 7) (d7 Kd.tup (ar (λx=>some (D.sc (V.str (ae "stand")))) (ar (λx=>some (D.sc (V.int 0))) (ar (λx=>some (D.sc (V.int 0))) (ar (λx=>some (D.sc (V.int 0))) λx=>some [])))))))))))))
 λZ=>some (Fl.nx Z)
theorem av5{l:List D}{nu t:Int}(w:Wf 440 s)(h0:0 < m)(hm:m < 90){x2 x4 x5 x6 x7:Option D}:∃(s':MS) (y4 y5 y6 y7:Option D),(s'=s\/s.te < t/\s'= { s with te:=t,role:="hears" })/\asY K C (fm (ag C m nu s) l x2 (some (iD t)) x4 x5 x6 x7)=some (.nx (fm (ag C m nu s') l x2 (some (iD t)) y4 y5 y6 y7)):=by
 have f0:=nz (C:=C) (m:=m) (nu:=nu) (s:=s);have tt:((au (dN λx=> !x) (au (intD (λx j=>0 < j) λi j=>V.int (i % j)) (af 3) λZ=>(af 1 Z).bind (ji (ae "many"))) (λZ=>(af 1 Z).bind (ji (ae "number"))) (fm (ag C m nu s) l x2 (some (iD t)) x4 x5 x6 x7)).bind λx=>match x with | D.sc (V.bl b)=>some b | x=>none)=some (decide (t % (m:Int)≠nu)):=
  k0 (bY (a:=iD (t % (m:Int))) (b:=iD nu) (bY (a:=iD t) (b:=iD m) rfl (aj (a:=ag C m nu s) rfl f0.2.1) (abn (by lia))) (aj (a:=ag C m nu s) rfl f0.1) (arZ _ _))
 by_cases q:t % (m:Int)≠nu
 ·generalize hz:t % (m:Int)=z at *;have hh:=apo (K:=K) (C:=C) m nu s (.gD z nu t) w trivial h0 hm;have gG:=av4 (C:=C) (l:=l) (m:=m) (nu:=nu) (t:=t) (z:=z) (s:=s) w.rows (x2:=x2) (x7:=x7);have hs:((cS m nu s (.gD z nu t)).1=s\/s.te < t/\(cS m nu s (.gD z nu t)).1= { s with te:=t,role:="hears" })/\wz K C [.nd .lst ((cS m nu s (.gD z nu t)).2.map cf), .nd .lst ((cS m nu s (.gD z nu t)).2.map cf)]=some (tD true)/\(cS m nu s (.gD z nu t)).2.length<=1:=by
   rw[asW];by_cases c:t<=s.te
   ·rw[if_pos c];exact⟨.inl rfl,av1,jO _⟩
   ·rw[if_neg c];exact⟨.inr ⟨by lia,rfl⟩,av2 w.rows,bO _⟩
  have w':Wf 440 (cS m nu s (.gD z nu t)).1:=by
   rcases hs.1 with e | ⟨_,e⟩
   ·rw[e];exact w
   ·rw[e];exact⟨w.rows,w.len, .inl rfl,w.vn,w.vl,w.vr,w.sn,w.sl⟩
  generalize cS m nu s (.gD z nu t)=hr at *;obtain⟨s',ms⟩:=hr;have ff:=X8 (K:=K) (C:=C) m nu s w.rows;have arh:=X8 (K:=K) (C:=C) m nu s' w'.rows;refine⟨s',some (.nd .lst (ms.map cf)),some (cx m nu s'),some (iD z),some (.nd .lst (ms.map cf++ [.nd .tup [sD "stand",iD 0,iD 0,iD 0]])),hs.1, ?_⟩;refine nc (t:=λZ=>(au _ _ _ Z).bind _) (b:=true) (tt.trans (by rw[decide_eq_true q])) ?_;rw[if_pos rfl];refine aD (ρ':=fm (ag C m nu s) l x2 (some (iD t)) (some (.nd .lst [])) x5 x6 x7) (L0 (M':=ag C m nu s) (l':=l) (x2:=x2) (x3:=some (iD t)) (x4:=x4) (x5:=x5) (x6:=x6) (x7:=x7) rfl (by lia) (by lia) rfl) ?_;refine aD (ρ':=fm (ag C m nu s) l x2 (some (iD t)) (some (.nd .lst [])) (some (cx m nu s)) x6 x7) (L0 (M':=ag C m nu s) (l':=l) (x2:=x2) (x3:=some (iD t)) (x4:=some (.nd .lst [])) (x5:=x5) (x6:=x6) (x7:=x7) (j0 (u3 (G:=kT K C) (m:=1) (ds:= [ag C m nu s]) rfl rfl ff)) (by lia) (by lia) rfl) ?_;refine aD (ρ':=fm (ag C m nu s) l x2 (some (iD t)) (some (.nd .lst [])) (some (cx m nu s)) (some (iD z)) x7) (L0 (M':=ag C m nu s) (l':=l) (x2:=x2) (x3:=some (iD t)) (x4:=some (.nd .lst [])) (x5:=some (cx m nu s)) (x6:=x6) (x7:=x7) (j0 (bY (a:=iD t) (b:=iD m) rfl (aj (a:=ag C m nu s) rfl f0.2.1) (by rw[abn (by lia),hz]))) (by lia) (by lia) rfl) ?_;refine aD gG ?_;refine aD (ρ':=fm (ag C m nu s') l x2 (some (iD t)) (some (.nd .lst (ms.map cf))) (some (cx m nu s')) (some (iD z)) (some (.nd .lst (ms.map cf)))) (L0 (M':=ag C m nu s') (l':=l) (x2:=x2) (x3:=some (iD t)) (x4:=some (.nd .lst (ms.map cf))) (x5:=some (cx m nu s')) (x6:=some (iD z)) (x7:=x7) (aop (r:=9) (Z:=fm (ag C m nu s) l x2 (some (iD t)) (some (.nd .lst (ms.map cf))) (some (cx m nu s')) (some (iD z)) x7) (d0:=ag C m nu s) (as:= [.tm (cf (.gD z nu t))]) aps rfl rfl (aoq (z:="hear") (by decide +kernel)) (SF.aoo (d:=cf (.gD z nu t)) (jJ (bw rfl (bw rfl (bw (aj (aj (a:=ag C m nu s) rfl f0.1) rfl) (bw rfl rfl)))) (by show 4<=12;lia)) rfl) rfl rfl rfl hh) (by lia) (by lia) rfl) ?_;refine bt (t:=λZ=>mV _ _ Z) (apq (x:=false) (y:=false) ((congrArg (aX (λx=> !x)) (k0 (u3 (G:=wz K C) (m:=2) (ds:= [.nd .lst (ms.map cf), .nd .lst (ms.map cf)]) rfl rfl hs.2.1))).trans rfl) (k0 (bY (a:=cx m nu s') (b:=cx m nu s') (u3 (G:=kT K C) (m:=1) (ds:= [ag C m nu s']) rfl rfl arh) rfl (eq_self (apr w') (bO _) _)))) ?_;have axt:ms.length<=1:=hs.2.2;refine uv (d:= .sc .aG) ?_;unfold kx;refine aj (a:= .rt 7 []) rfl ?_;dsimp only;refine aj (a:= .nd .tup [sD "stand",iD 0,iD 0,iD 0]) (jJ (bw rfl (bw rfl (bw rfl (bw rfl rfl)))) (by show 4<=12;lia)) ?_;unfold lO;have nd:eM (fm (ag C m nu s') l x2 (some (iD t)) (some (.nd .lst (ms.map cf))) (some (cx m nu s')) (some (iD z)) (some (.nd .lst (ms.map cf)))) 7 []=some (.nd .lst (ms.map cf), .lst,ms.map cf):=rfl;rw[nd,ax];dsimp only;unfold oI;rw[if_pos (by rw[eG,mG];lia),jt,jt,o4 aps,jj];rfl
 ·refine⟨s,x4,x5,x6,x7, .inl rfl, ?_⟩;exact nc (t:=λZ=>(au _ _ _ Z).bind _) (b:=false) (tt.trans (by rw[decide_eq_false q])) rfl
variable [eQ K C]
theorem asZ(h0:0 < m)(hm:m < 90):∀(js:List D) (l:List D) (s:MS) (x2 x3 x4 x5 x6 x7:Option D),Lp l->Wg m 440 s->s.role="hears"->0<=s.te->∃(l':List D) (s':MS) (y2 y3 y4 y5 y6 y7:Option D),Lp l'/\Wg m 440 s'/\s'.role="hears"/\0<=s'.te/\s'.te<=s.te + 2 * js.length/\eB (λd Z=>some (bq 2 (VL.B.ro d) Z)) (fA (asV K C) (asY K C)) js (fm (ag C m nu s) l x2 x3 x4 x5 x6 x7)=some (.nx (fm (ag C m nu s') l' y2 y3 y4 y5 y6 y7))
 | [],l,s,x2,x3,x4,x5,x6,x7,hl,w,hr,ht=>⟨l,s,x2,x3,x4,x5,x6,x7,hl,w,hr,ht,by show s.te<=s.te + 0;lia,rfl⟩
 |j::js,l,s,x2,x3,x4,x5,x6,x7,hl,w,hr,ht=>by
  obtain⟨t,l1,t1,t2,c1,e1⟩:=av3 (K:=K) (C:=C) hl (m:=m) (nu:=nu) (s:=s) (x2:=some j) (x3:=x3) (x4:=x4) (x5:=x5) (x6:=x6) (x7:=x7);obtain⟨s1,y4,y5,y6,y7,hs,e2⟩:=av5 (K:=K) (C:=C) (l:=l1) (m:=m) (nu:=nu) (t:=t) w.wf h0 hm (x2:=some j) (x4:=x4) (x5:=x5) (x6:=x6) (x7:=x7);have ws:Wg m 440 s1/\s1.role="hears"/\0<=s1.te/\s1.te<=s.te + 2:=by
   rcases hs with e | ⟨_,e⟩
   ·rw[e];exact⟨w,hr,ht,by lia⟩
   ·rw[e];exact⟨⟨⟨w.wf.rows,w.wf.len, .inl rfl,w.wf.vn,w.wf.vl,w.wf.vr,w.wf.sn,w.wf.sl⟩,w.vk,w.sk⟩,rfl,by show 0<=t;lia,by show t<=s.te + 2;lia⟩
  obtain⟨l2,s2,z2,z3,z4,z5,z6,z7,a,b,c,d,d2,e3⟩:=asZ h0 hm js l1 s1 (some j) (some (iD t)) y4 y5 y6 y7 c1 ws.1 ws.2.1 ws.2.2.1;refine⟨l2,s2,z2,z3,z4,z5,z6,z7,a,b,c,d,by rw[c8];lia, ?_⟩;rw[eB];refine aj (a:=fm (ag C m nu s) l (some j) x3 x4 x5 x6 x7) (congrArg some (asU (by lia) (by lia))) ?_;refine aj (aD e1 e2) ?_;exact e3
theorem av6(hl:Lp l)(h0:0 < m)(hm:m < 90)(w:Wg m 440 s)(hr:s.role="hears")(ht:0<=s.te):∃(l':List D) (s':MS),Lp l'/\Wg m 440 s'/\s'.role="hears"/\0<=s'.te/\s'.te<=s.te + 6/\apc K C [.nd .lst l,ag C m nu s]=some (tD true, [.nd .lst l',ag C m nu s']):=by
 obtain⟨d,l1,a1,b1,c1,e1⟩:=rU (K:=K) (C:=C) l hl 4 (by decide) (by decide);obtain⟨l2,s2,z2,z3,z4,z5,z6,z7,a,b,c,f,f2,e3⟩:=asZ (K:=K) (C:=C) (m:=m) (nu:=nu) h0 hm (iQ 0 d.toNat) l1 s none none none none none none c1 w hr ht;rw[Ri,eG,aoy]at f2;refine⟨l2,s2,a,b,c,f,by lia, ?_⟩;unfold apc aqR;dsimp only;refine fC (ρ':=fm (ag C m nu s2) l2 z2 z3 z4 z5 z6 z7) (aD (ρ':=fm (ag C m nu s2) l2 z2 z3 z4 z5 z6 z7) ?_ rfl) rfl;unfold apR;refine aj (a:=([iD d],fm (ag C m nu s) l1 none none none none none none)) (bx (nT (r:=8) (Z:=fm (ag C m nu s) l none none none none none none) (as:= [.io ⟨8, []⟩, .tm (iD 4)]) (d0:= .nd .lst l) aps rfl rfl rfl rfl rfl e1) rfl) ?_;dsimp only;refine aj (a:=iQ 0 d.toNat) ?_ e3;unfold tZ;dsimp only;rw[if_pos ⟨by lia,by lia⟩]
variable [eQ K C]
abbrev apt:En->Option D:=d7 Kd.tup (ar (gJ (au (aW ay aN) (af 0) λx=>some (D.sc (V.int 0)))) (ar (λZ=>(ar (au (aW ay aN) (af 0) λx=>some (D.sc (V.int 1))) (λx=>some []) Z).bind gF) λx=>some []))
theorem as0(v:Int×List D):ug apt [eC v]=some (.nd .tup [iD v.1,iD v.2.length]):=jJ (bw rfl (bw rfl rfl)) (by show 2<=12;lia)
theorem ari:∀(r:List (Int×Int×List D)) (b:Int×List D),mH (ug apt) (r.map λp=>eC p.2) (eC b) (b.1,(b.2.length:Int))=some (eC (eU b r))
 | [],_=>rfl
 |p::r,b=>by
  rw[cP,mH,as0];show(if alI p.2.1 p.2.2.length b.1 b.2.length=true then _ else _)=_;unfold eU;rw[awY];have e:u0 b p.2=if alI p.2.1 p.2.2.length b.1 b.2.length=true then p.2 else b:=rfl;by_cases c:alI p.2.1 p.2.2.length b.1 b.2.length=true
  ·rw[if_pos c]at e |-;rw[e];exact ari r p.2
  ·rw[if_neg c]at e |-;rw[e];exact ari r b
theorem av7(v:Int×Int×List D)(r:List (Int×Int×List D))(h:∀p∈v::r,cc p.2.2):aof (ug apt) (aq (v::r))=some (eC (eU v.2 r)):=by
 have hp:VL.bI ((v::r).map λp=>eC p.2)=true:=vM λd hd=>by
  obtain⟨p,hp,rfl⟩:=gY.mp hd;exact apk (h p hp)
 rw[cP]at hp;unfold aq;rw[cP,cP];unfold aof;dsimp only;rw[if_pos hp,as0];exact ari r v.2
variable [eQ K C]
noncomputable abbrev cz (M:D) (l:List D) (vd:D) (x3 x4 x5 x6 x7 x8 x9:Option D):En:= [some (.aB 10 []),some (.aB 11 []),some (.own vd),x3.map VL.B.ro,x4.map VL.B.own,x5.map VL.B.own,x6.map VL.B.own,x7.map VL.B.own,x8.map VL.B.own,x9.map VL.B.own,some (.own (.nd .lst l)),some (.own M)]
theorem abo(h8:i≠10)(h9:i≠11):bq i β (cz M l vd x3 x4 x5 x6 x7 x8 x9)=(cz M l vd x3 x4 x5 x6 x7 x8 x9).set i (some β):=by
 unfold bq eI
 congr 1;have e8:(if 10=i then(none:Option VL.B) else some (.aB 10 []))=some (.aB 10 []):=if_neg (fw h8);have e9:(if 11=i then(none:Option VL.B) else some (.aB 11 []))=some (.aB 11 []):=if_neg (fw h9);cases x3 <;> cases x4 <;> cases x5 <;> cases x6 <;> cases x7 <;> cases x8 <;> cases x9 <;> simp[e8,e9,fw h8,fw h9]
theorem L1:Al (cz M l vd x3 x4 x5 x6 x7 x8 x9):=du (by cases x3 <;> cases x4 <;> cases x5 <;> cases x6 <;> cases x7 <;> cases x8 <;> cases x9 <;> rfl)
theorem aor(e:f Z=some (d,cz M' l' vd' x3 x4 x5 x6 x7 x8 x9))(h8:i≠10)(h9:i≠11)(h:(cz M' l' vd' x3 x4 x5 x6 x7 x8 x9).set i (some (.own d))=ρ'):dU i f Z=some (.nx ρ'):=eW e ((abo h8 h9).trans h)
abbrev as1(K:ah)(C:Addr)[eQ K C]:En->Option Fl:=dU 4 (hZ (intD (λx j=>0 < j) λi j=>V.int (i % j)) (hZ gx (λZ=>aX (λd=>(d,Z)) (au gx (λZ=>(af 1 Z).bind (ji (ae "number"))) (λx=>some (D.sc (V.int 1))) Z)) λZ=>(aX (λa=>(a,Z)) (gn (aT 0) (mr (au (iO λi j=>V.int (i - j)) (λZ=>(af 1 Z).bind (ji (ae "many"))) λx=>some (D.sc (V.int 1))) λx=>some []) Z)).bind λa=>fL (Bp K C) a.fst a.snd) (gm λZ=>(af 1 Z).bind (ji (ae "many"))))
theorem av8{l:List D}(hl:Lp l){m:Nat}{nu:Int}{s:MS}{vd:D}(h2:2<=m)(hm:m < 90){x3 x4 x5 x6 x7 x8 x9:Option D}:∃(z:Int) (l':List D),0<=z/\z < m/\Lp l'/\as1 K C (cz (ag C m nu s) l vd x3 x4 x5 x6 x7 x8 x9)=some (.nx (cz (ag C m nu s) l' vd x3 (some (iD z)) x5 x6 x7 x8 x9)):=by
 obtain⟨d,l1,a1,b1,c1,e1⟩:=rU (K:=K) (C:=C) l hl ((m:Int) - 1) (by lia) (by lia);have f0:=nz (C:=C) (m:=m) (nu:=nu) (s:=s);refine⟨(nu + 1 + d) % (m:Int),l1,l6 _ (by lia),nW _ (by lia),c1,aor (M':=ag C m nu s) (l':=l1) (vd':=vd) (x4:=x4) (j7 (a:=iD (nu + 1 + d)) (b:=iD m) (j7 (a:=iD (nu + 1)) (b:=iD d) (j0 (bY (a:=iD nu) (b:=iD 1) (aj (a:=ag C m nu s) rfl f0.1) rfl rfl)) (nT (r:=10) (as:= [.io ⟨10, []⟩, .tm (iD ((m:Int) - 1))]) (d0:= .nd .lst l) L1 rfl (SF.asS rfl (SF.aoo (bY (a:=iD m) (b:=iD 1) (aj (a:=ag C m nu s) rfl f0.2.1) rfl rfl) rfl)) rfl rfl rfl e1) rfl) (aj (aj (a:=ag C m nu s) rfl f0.2.1) rfl) (abn (by lia))) (by lia) (by lia) rfl⟩
variable [eQ K C]
abbrev as2(K:ah)(C:Addr)[eQ K C]:En->Option Fl:=dU 5 (oK (kB λi j=>V.int (if j > i then j else i)) (eJ (λZ=>aX (λd=>(d,Z)) (some (D.sc (V.int 0)))) (eJ (hZ (iO λi j=>V.int (i - j)) (gm λZ=>(af 1 Z).bind (ji (ae "term"))) (hZ (gQ ay aN) (λZ=>aX (λd=>(d,Z)) (d7 Kd.lst (ar (λx=>some (D.sc (V.int 0))) (ar (λx=>some (D.sc (V.int 0))) (ar (λx=>some (D.sc (V.int 0))) (ar (λx=>some (D.sc (V.int 0))) (ar (gJ λZ=>(af 1 Z).bind (ji (ae "many"))) λx=>some []))))) Z)) λZ=>(aX (λa=>(a,Z)) (gn (aT 0) (mr (λx=>some (D.sc (V.int 5))) λx=>some []) Z)).bind λa=>fL (Bp K C) a.fst a.snd)) λZ=>some ([],Z))))
theorem av9(hl:Lp l):∃(t:Int) (l':List D),Lp l'/\as2 K C (cz (ag C m nu s) l vd x3 x4 x5 x6 x7 x8 x9)=some (.nx (cz (ag C m nu s) l' vd x3 x4 (some (iD t)) x6 x7 x8 x9)):=by
 obtain⟨d,l1,a1,b1,c1,e1⟩:=rU (K:=K) (C:=C) l hl 5 (by decide) (by decide);have f0:=nz (C:=C) (m:=m) (nu:=nu) (s:=s);obtain⟨y,ey⟩:∃y,gQ ay aN (.nd .lst [iD 0,iD 0,iD 0,iD 0,iD m]) (iD d)=some (iD y):=by
  have:d=0\/d=1\/d=2\/d=3\/d=4:=by lia
  rcases this with rfl | rfl | rfl | rfl | rfl
  ·exact⟨0,rfl⟩
  ·exact⟨0,rfl⟩
  ·exact⟨0,rfl⟩
  ·exact⟨0,rfl⟩
  ·exact⟨m,rfl⟩
 refine⟨if s.te - y > 0 then s.te - y else 0,l1,c1,aor (M':=ag C m nu s) (l':=l1) (vd':=vd) (x5:=x5) ?_ (by lia) (by lia) rfl⟩;unfold oK;refine aj (a:=([iD 0,iD (s.te - y)],cz (ag C m nu s) l1 vd x3 x4 x5 x6 x7 x8 x9)) (bx rfl (bx (j7 (a:=iD s.te) (b:=iD y) (aj (aj (a:=ag C m nu s) rfl f0.2.2.1) rfl) (j7 (a:= .nd .lst [iD 0,iD 0,iD 0,iD 0,iD m]) (b:=iD d) (j0 (jJ (bw rfl (bw rfl (bw rfl (bw rfl (bw (aj (aj (a:=ag C m nu s) rfl f0.2.1) rfl) rfl))))) (by show 5<=12;lia))) (nT (r:=10) (as:= [.io ⟨10, []⟩, .tm (iD 5)]) (d0:= .nd .lst l) L1 rfl rfl rfl rfl rfl e1) ey) rfl) rfl)) ?_;rfl
abbrev arj(K:ah)(C:Addr)[eQ K C]:En->Option Fl:=alT [6,7] λZ=>(aX (λa=>(a,Z)) (gn (aT 0) (fB (iZ (ae "term") (aT 1)) λx=>some []) Z)).bind λa=>fL (apg K C) a.fst a.snd
theorem awa(hl:Lp l)(ht:0 < s.te)(abp:s.te < 2 ^ 100):∃(o:Int) (R l':List D),cc R/\R.length<=20/\Lp l'/\arj K C (cz (ag C m nu s) l vd x3 x4 x5 x6 x7 x8 x9)=some (.nx (cz (ag C m nu s) l' vd x3 x4 x5 (some (iD o)) (some (.nd .tup R)) x8 x9)):=by
 obtain⟨o,R,l1,a1,b1,hR,hz,c1,e1⟩:=avY (K:=K) (C:=C) hl ht (by lia);refine⟨o,R,l1,hR,hz,c1, ?_⟩;unfold arj alT;have ef:iZ (ae "term") (aT 1) (cz (ag C m nu s) l vd x3 x4 x5 x6 x7 x8 x9)=some (.rt 11 [2]):=by
  unfold iZ;refine aj (a:= .rt 11 []) rfl (aj (a:=ag C m nu s) rfl (aj (a:=2) ?_ rfl));simp[oB,ag,mD,d3,iI,gN,hE,y0]
 refine aj (a:=(.nd .tup [iD o, .nd .tup R],cz (ag C m nu s) l1 vd x3 x4 x5 x6 x7 x8 x9)) (nT (r:=10) (as:= [.io ⟨10, []⟩, .tm (iD s.te)]) (d0:= .nd .lst l) L1 rfl (SF.asS rfl ?_) rfl rfl rfl e1) ?_
 ·unfold fB;refine aj ef ?_;refine aj (a:=iD s.te) rfl ?_;rfl
 ·show some (Fl.nx (bq 7 (.own (.nd .tup R)) (bq 6 (.own (iD o)) _)))=_;rw[abo (by lia) (by lia)];show some (Fl.nx (bq 7 (.own (.nd .tup R)) (cz _ l1 vd x3 x4 x5 (some (iD o)) x7 x8 x9)))=_;rw[abo (by lia) (by lia)];rfl
variable [eQ K C]
theorem as3(z:Int):∀vo:List (Int×Int×List D),(cM (zh z:bc) (vo.map λp=>(zh p.1:bc))=none/\z∉vo.map (·.1))\/∃k v,cM (zh z:bc) (vo.map λp=>(zh p.1:bc))=some k/\vo[k]?=some (z,v)
 | []=> .inl ⟨rfl,λh=>(nomatch h)⟩
 |p::r=>by
  by_cases h:p.1=z
  ·refine .inr ⟨0,p.2, ?_, ?_⟩
   ·rw[cP,cM,if_pos (by rw[h])]
   ·rw[<- h];rfl
  ·have hk:¬ (zh p.1:bc)=zh z:=λy=>h (apA y);rcases as3 z r with⟨a,b⟩ | ⟨k,v,a,b⟩
   ·refine .inl ⟨by rw[cP,cM,if_neg hk,a];rfl,λy=> ?_⟩;rcases bL.mp y with y | y
    ·exact h y.symm
    ·exact b y
   ·exact .inr ⟨k + 1,v,by rw[cP,cM,if_neg hk,a];rfl,b⟩
abbrev as4:En->Option Fl:=gv (λZ=>aX (λb=>(b,Z)) ((au (λa b=>aX (λb=>D.sc (V.bl b)) (apy a b)) (af 4) (af 2) Z).bind λx=>match x with | D.sc (V.bl b)=>some b | x=>none)) (alT [6,7] (gm (au (aW ay aN) (af 2) (af 4)))) λZ=>some (Fl.nx Z)
theorem awb(hv:∀p∈vo,cc p.2.2/\p.2.2.length<=440)(hR:cc R)(hz:R.length<=440):∃(o':Int) (R':List D),cc R'/\R'.length<=440/\as4 (cz M l (aq vo) x3 (some (iD z)) x5 (some (iD o)) (some (.nd .tup R)) x8 x9)=some (.nx (cz M l (aq vo) x3 (some (iD z)) x5 (some (iD o')) (some (.nd .tup R')) x8 x9)):=by
 have ei:apy (iD z) (aq vo)=some (cM (zh z:bc) (vo.map λp=>(zh p.1:bc))).isSome:=rfl;rcases as3 z vo with⟨a,b⟩ | ⟨k,v,a,b⟩
 ·refine⟨o,R,hR,hz,nc (t:=λZ=>(au _ _ _ Z).bind _) (b:=false) (k0 (bY (a:=iD z) (b:=aq vo) rfl rfl (by rw[ei,a];rfl))) rfl⟩
 ·have hm:=hv _ (jr b);refine⟨v.1,v.2,hm.1,hm.2,nc (t:=λZ=>(au _ _ _ Z).bind _) (b:=true) (k0 (bY (a:=iD z) (b:=aq vo) rfl rfl (by rw[ei,a];rfl))) ?_⟩;rw[if_pos rfl];unfold alT;have ex:aW ay aN (aq vo) (iD z)=some (eC v):=by
   have:ay (aq vo) (iD z)=some k:=by
    show(match mq (aq vo) (iD z) with | some j=>some j | none=>(fW (aq vo) (iD z)).join)=some k;show(aX (λk=>cM k (vo.map λp=>(zh p.1:bc))) (some (zh z:bc))).join=some k;rw[jt,a];rfl
   show(ay (aq vo) (iD z)).bind (jh (aq vo))=_;rw[this];show(vo.map λp=>eC p.2)[k]?=_;rw[bJ,b];rfl
  refine aj (a:=(eC v,cz M l (aq vo) x3 (some (iD z)) x5 (some (iD o)) (some (.nd .tup R)) x8 x9)) (aj (bY (a:=aq vo) (b:=iD z) rfl rfl ex) (if_pos (apk hm.1))) ?_;show some (Fl.nx (bq 7 (.own (.nd .tup v.2)) (bq 6 (.own (iD v.1)) _)))=_;rw[abo (by lia) (by lia)];show some (Fl.nx (bq 7 (.own (.nd .tup v.2)) (cz _ l _ x3 _ x5 (some (iD v.1)) (some (.nd .tup R)) x8 x9)))=_;rw[abo (by lia) (by lia)];rfl
variable [eQ K C]
abbrev as5(K:ah)(C:Addr)[eQ K C]:En->Option Fl:=dU 8 λZ=>aX (λd=>(d,Z)) ((ar (af 1) (λx=>some []) Z).bind λds=>if ds.length=1 then kT K C ds else none)
theorem awc(hL:cc s.L):as5 K C (cz (ag C m nu s) l vd x3 x4 x5 x6 x7 x8 x9)=some (.nx (cz (ag C m nu s) l vd x3 x4 x5 x6 x7 (some (cx m nu s)) x9)):=
 aor (M':=ag C m nu s) (l':=l) (vd':=vd) (x3:=x3) (x4:=x4) (x5:=x5) (x6:=x6) (x7:=x7) (x8:=x8) (x9:=x9) (j0 (u3 (G:=kT K C) (m:=1) (ds:= [ag C m nu s]) rfl rfl (X8 m nu s hL))) (by lia) (by lia) rfl
variable [eQ K C]
abbrev as6:En->Option Fl:=dU 9 λZ=>aX (λd=>(d,Z)) ((af 2 Z).bind (aof (ug apt)))
theorem awd(h:∀p∈v::r,cc p.2.2):as6 (cz M l (aq (v::r)) x3 x4 x5 x6 x7 x8 x9)=some (.nx (cz M l (aq (v::r)) x3 x4 x5 x6 x7 x8 (some (eC (eU v.2 r))))):=
 aor (M':=M) (l':=l) (vd':=aq (v::r)) (x3:=x3) (x4:=x4) (x5:=x5) (x6:=x6) (x7:=x7) (x8:=x8) (x9:=x9) (j0 (aj (a:=aq (v::r)) rfl (av7 v r h))) (by lia) (by lia) rfl
abbrev ark:En->Option Bool:=λZ=>(au (dN id) (λZ=>(af 1 Z).bind (ji (ae "role"))) (λx=>some (D.sc (V.str (ae "stands")))) Z).bind λx=>match x with | D.sc (V.bl b)=>some b | x=>none
abbrev arl:En->Option Bool:=λZ=>(au (dN id) (af 5) (λZ=>(af 1 Z).bind (ji (ae "term"))) Z).bind λx=>match x with | D.sc (V.bl b)=>some b | x=>none
variable [eQ K C]
theorem awC(a b:Int):dN id (iD a) (iD b)=some (.sc (.bl (decide (a=b)))):=by
 simp[dN,cy,iD,sO,sP,d9];rfl
theorem as7(w:Wf 440 s):lN ark arl (cz (ag C m nu s) l vd x3 x4 (some (iD t)) x6 x7 x8 x9)=some (decide (s.role="stands") && decide (t=s.te)):=
 have f:=nz (C:=C) (m:=m) (nu:=nu) (s:=s)
 avX (k0 (bY (a:=sD s.role) (b:=sD "stands") (aj (a:=ag C m nu s) rfl f.2.2.2.2.2) rfl (Ea s.role "stands" (apn w.role) (by decide +kernel)))) (k0 (bY (a:=iD t) (b:=iD s.te) rfl (aj (a:=ag C m nu s) rfl f.2.2.1) (awC _ _)))
abbrev as8:En->Option Fl:=dU 8 (hZ gx (λZ=>aX (λd=>(d,Z)) (lT (af 8) (λx=>some none) (λZ=>(some (D.sc (V.int 3))).bind i9) Z)) (kU (eJ (gm λZ=>(af 1 Z).bind (ji (ae "term"))) (eJ (aod λZ=>aX (λd=>(d,Z)) ((ar (au (aW ay aN) (af 9) λx=>some (D.sc (V.int 1))) (λx=>some []) Z).bind vb)) (eJ (gm (au (aW ay aN) (af 8) λx=>some (D.sc (V.int 5)))) (eJ (λZ=>aX (λd=>(d,Z)) (some (D.sc (V.str (ae "leads"))))) λZ=>some ([],Z)))))))
variable [eQ K C]
theorem awe(hL:cc s.L)(hR:cc v.2):as8 (cz (ag C m nu s) l vd x3 x4 x5 x6 x7 (some (cx m nu s)) (some (eC v)))=some (.nx (cz (ag C m nu s) l vd x3 x4 x5 x6 x7 (some (cx m nu { s with o:=s.te,L:=v.2,role:="leads" })) (some (eC v)))):=by
 have f:=nz (C:=C) (m:=m) (nu:=nu) (s:=s);have hp:=hL.plain;have hq:=hR.plain;have s7:7<=aM:=by rw[mG];lia
 have s4:4<=aM:=by lia
 have e1:oS (cx m nu s) none (some 3)=some (.nd .tup [iD nu,iD m,iD s.te]):=by
  simp[oS,cx,hp,VL.plain,bI,cutD,iD,sD]
  try rfl
 have e2:gx (.nd .tup [iD nu,iD m,iD s.te]) (.nd .tup [iD s.te, .nd .dA v.2,iD s.dn,sD "leads"])=some (cx m nu { s with o:=s.te,L:=v.2,role:="leads" }):=by
  simp[gx,cx,hq,s7,VL.plain,bI,iD,sD]
 refine aor (d:=cx m nu { s with o:=s.te,L:=v.2,role:="leads" }) (M':=ag C m nu s) (l':=l) (vd':=vd) (x3:=x3) (x4:=x4) (x5:=x5) (x6:=x6) (x7:=x7) (x8:=some (cx m nu s)) (x9:=some (eC v)) (j7 (a:= .nd .tup [iD nu,iD m,iD s.te]) (b:= .nd .tup [iD s.te, .nd .dA v.2,iD s.dn,sD "leads"]) (j0 (aj (a:=cx m nu s) rfl e1)) ?_ e2) (by lia) (by lia) rfl;have ft:(af 1 (cz (ag C m nu s) l vd x3 x4 x5 x6 x7 (some (cx m nu s)) (some (eC v)))).bind (ji (ae "term"))=some (iD s.te):=aj (a:=ag C m nu s) rfl f.2.2.1;have fl:au (aW ay aN) (af 9) (λx=>some (D.sc (V.int 1))) (cz (ag C m nu s) l vd x3 x4 x5 x6 x7 (some (cx m nu s)) (some (eC v)))=some (.nd .tup v.2):=bY (a:=eC v) (b:=iD 1) rfl rfl rfl;have fd:au (aW ay aN) (af 8) (λx=>some (D.sc (V.int 5))) (cz (ag C m nu s) l vd x3 x4 x5 x6 x7 (some (cx m nu s)) (some (eC v)))=some (iD s.dn):=bY (a:=cx m nu s) (b:=iD 5) rfl rfl rfl;have hl:vb [.nd .tup v.2]=some (.nd .lst v.2):=by
  simp[vb,hq]
 simp[kU,eJ,gm,aod,Eg,ar,ft,fl,fd,hl,hq,s4,VL.plain,iD,sD]
variable [eQ K C]
theorem E9(al:Al ρ1)(h1:fv Z=some (d,ρ1))(h2:fp ρ1=some (.rt r p))(h3:fy ρ1=some y)(h4:eM ρ1 r p=some (d0,k,cs))(h5:yf k cs y d=some d')(e:ρ1.set r (some (.own (aZ d0 p d')))=ρ'):hJ fv fp fy Z=some (.nx ρ'):=by
 unfold hJ;rw[h1,ax];dsimp only;rw[h2,ax];dsimp only;rw[h3,ax,h4,ax];dsimp only;rw[h5,jt,o4 al,e]
abbrev as9:En->Option Fl:=hJ (kU (eJ (kr 6) (eJ (kr 7) λZ=>some ([],Z)))) (aT 2) (af 4)
theorem ata(hn:(vo.map (·.1)).Nodup)(hv:vo.length<=100)(hR:cc R):as9 (cz M l (aq vo) x3 (some (iD z)) x5 (some (iD o)) (some (.nd .tup R)) x8 x9)=some (.nx (cz M l (aq (dv vo z (o,R))) x3 (some (iD z)) x5 (some (iD o)) (some (.nd .tup R)) x8 x9)):=by
 have hq:=hR.plain;have s2:2<=aM:=by rw[mG];lia
 refine E9 (ρ1:=cz M l (aq vo) x3 (some (iD z)) x5 (some (iD o)) (some (.nd .tup R)) x8 x9) (d:=eC (o,R)) (d0:=aq vo) (r:=2) (p:= []) (y:=iD z) (k:= .aO (vo.map λp=>(zh p.1:bc))) (cs:=vo.map λp=>eC p.2) (d':=aq (dv vo z (o,R))) L1 ?_ rfl rfl rfl (arb eC vo z (o,R) hn hv) ?_
 ·have m6:kr 6 (cz M l (aq vo) x3 (some (iD z)) x5 (some (iD o)) (some (.nd .tup R)) x8 x9)=some (iD o,cz M l (aq vo) x3 (some (iD z)) x5 (some (iD o)) (some (.nd .tup R)) x8 x9):=aj (a:=iD o) rfl (if_pos rfl);have m7:kr 7 (cz M l (aq vo) x3 (some (iD z)) x5 (some (iD o)) (some (.nd .tup R)) x8 x9)=some (.nd .tup R,cz M l (aq vo) x3 (some (iD z)) x5 (some (iD o)) (some (.nd .tup R)) x8 x9):=aj (a:= .nd .tup R) rfl (if_pos (by simp[VL.plain,hq]));simp only[kU,eJ,m6,m7,ax,jt];exact if_pos s2
 ·rw[jj];rfl
variable [eQ K C]
abbrev apu:En->Option Bool:=λZ=>(au (iO λi j=>V.bl (decide (j < i))) (au (intD mM λi j=>V.int (i * j)) (λx=>some (D.sc (V.int 2))) λZ=>(ar (af 2) (λx=>some []) Z).bind gF) (λZ=>(af 1 Z).bind (ji (ae "many"))) Z).bind λx=>match x with | D.sc (V.bl b)=>some b | x=>none
theorem atb(hz:vo.length<=100):apu (cz (ag C m nu s) l (aq vo) x3 x4 x5 x6 x7 x8 x9)=some (decide ((m:Int) < 2 * (vo.length:Nat))):=by
 have f:=nz (C:=C) (m:=m) (nu:=nu) (s:=s);have mu:intD mM (λi j=>V.int (i * j)) (iD 2) (iD (vo.length:Nat))=some (iD (2 * (vo.length:Nat))):=if_pos (by unfold mM;lia);have ln:gF [aq vo]=some (iD (vo.length:Nat)):=by
  show some (D.sc (V.int ((vo.map λp=>eC p.2).length:Nat)))=_;rw[eG]
 exact k0 (bY (a:=iD (2 * (vo.length:Nat))) (b:=iD m) (bY (a:=iD 2) (b:=iD (vo.length:Nat)) rfl (aj (a:= [aq vo]) rfl ln) mu) (aj (a:=ag C m nu s) rfl f.2.1) rfl)
variable [eQ K C]
structure Iv(s:MS)(vo:List (Int×Int×List D)):Prop where
 st:s.role="stands"->vo=s.vo
 nd:(vo.map (·.1)).Nodup
 ln:vo.length<=50
 rw:∀p∈vo,cc p.2.2/\p.2.2.length<=440
abbrev atc:En->Option Fl:=gv (λZ=>aX (λb=>(b,Z)) (lN ark arl Z)) (fA as9 (gv (λZ=>aX (λb=>(b,Z)) (apu Z)) (fA as6 as8) λZ=>some (Fl.nx Z))) λZ=>some (Fl.nx Z)
theorem awf(m:Nat)(s:MS):(eN m s).vo=s.vo:=by
 unfold eN
 split
 ·split <;> rfl
 ·rfl
theorem awg(w:Wf 440 s)(i:Iv s vo)(hR:cc R)(w':Wf 440 (cS m nu s (.cm z nu t o R)).1):∃wG arn,Iv (cS m nu s (.cm z nu t o R)).1 wG/\atc (cz (ag C m nu s) l (aq vo) x3 (some (iD z)) (some (iD t)) (some (iD o)) (some (.nd .tup R)) (some (cx m nu s)) x9)=some (.nx (cz (ag C m nu s) l (aq wG) x3 (some (iD z)) (some (iD t)) (some (iD o)) (some (.nd .tup R)) (some (cx m nu (cS m nu s (.cm z nu t o R)).1)) arn)):=by
 by_cases c:s.role="stands"/\t=s.te
 ·have eh:(cS m nu s (.cm z nu t o R)).1=eN m { s with vo:=dv s.vo z (o,R) }:=by
   show(if s.role="stands"/\t=s.te then(eN m { s with vo:=dv s.vo z (o,R) },([]:List jf)) else(s, [])).1=_;rw[if_pos c]
  rw[eh]at w' |-;have ev:=i.st c.1;subst ev;have ek:(eN m { s with vo:=dv s.vo z (o,R) }).vo=dv s.vo z (o,R):=awf m _;have i':Iv (eN m { s with vo:=dv s.vo z (o,R) }) (dv s.vo z (o,R)):=⟨λ_=>ek.symm,ek▸w'.vn,ek▸w'.vl,ek▸w'.vr⟩
  have tt:lN ark arl (cz (ag C m nu s) l (aq s.vo) x3 (some (iD z)) (some (iD t)) (some (iD o)) (some (.nd .tup R)) (some (cx m nu s)) x9)=some true:=as7 w |>.trans (by rw[decide_eq_true c.1,decide_eq_true c.2];rfl);by_cases q:(m:Int) < 2 * ((dv s.vo z (o,R)).length:Nat)
  ·rcases hp:dv s.vo z (o,R) with _ | ⟨v,r⟩
   ·rw[hp]at q;exact absurd q (by simp)
   ·have el:cx m nu (eN m { s with vo:=dv s.vo z (o,R) })=cx m nu { s with o:=s.te,L:=(eU v.2 r).2,role:="leads" }:=by
     unfold eN;dsimp only;rw[if_pos q,hp];rfl
    rw[hp]at i' q el;have eb:(eN m { s with vo:=dv s.vo z (o,R) }).L=(eU v.2 r).2:=by
     unfold eN;dsimp only;rw[hp,if_pos q]
    have hb:cc (eU v.2 r).2:=eb▸w'.rows;rw[<- hp]at el i';refine⟨dv s.vo z (o,R),some (eC (eU v.2 r)),hp▸i',nc (t:=λZ=>lN _ _ Z) tt ?_⟩;rw[if_pos rfl];refine aD (ata i.nd (by have:=i.ln;lia) hR) ?_;rw[hp]at i' el |-;refine nc (t:=apu) ((atb (by have:=i'.ln;lia)).trans (by rw[decide_eq_true q])) ?_;rw[if_pos rfl];refine aD (awd λp h=>(i'.rw p h).1) ?_;rw[el];exact awe w.rows hb
  ·have el:cx m nu (eN m { s with vo:=dv s.vo z (o,R) })=cx m nu s:=by
    unfold eN;dsimp only;rw[if_neg q];rfl
   refine⟨dv s.vo z (o,R),x9,i',nc (t:=λZ=>lN _ _ Z) tt ?_⟩;rw[if_pos rfl];refine aD (ata i.nd (by have:=i.ln;lia) hR) ?_;refine nc (t:=apu) ((atb (by have:=i'.ln;lia)).trans (by rw[decide_eq_false q])) ?_;rw[if_neg (by decide),el]
 ·have eh:(cS m nu s (.cm z nu t o R)).1=s:=by
   show(if s.role="stands"/\t=s.te then(eN m { s with vo:=dv s.vo z (o,R) },([]:List jf)) else(s, [])).1=_;rw[if_neg c]
  rw[eh];refine⟨vo,x9,i,nc (t:=λZ=>lN _ _ Z) (b:=false) ((as7 w).trans ?_) rfl⟩;rw[<- Bool.decide_and,decide_eq_false c]
variable [eQ K C]
theorem aro(h1:a Z=some (false,ρ1))(h2:b ρ1=some (y,ai)):VL.orM a b Z=some (y,ai):=by
 unfold VL.orM;rw[h1,ax];exact h2
theorem aos(h:x Z=some (.sc (.bl b),ρ1)):ku x Z=some (b,ρ1):=by
 unfold ku;rw[h];rfl
theorem apv(h:c Z=some (false,ρ1)):gv c f (λZ=>some (Fl.nx Z)) Z=some (.nx ρ1):=by
 unfold gv;rw[h];rfl
theorem atq:dN (λx=> !x) (.nd .lst []) (.nd .lst [])=some (.sc (.bl false)):=by simp[dN,cy,ky,sO,V8,sP,V9,d9,zu]
abbrev atd(K:ah)(C:Addr)[eQ K C]:En->Option Fl:=gv (VL.orM (ku (hZ (dN λx=> !x) (N2 (tE K C) C (ae "hear") (aT 1) (mr (d7 Kd.tup (ar (λx=>some (D.sc (V.str (ae "voice")))) (ar (gJ (af 4)) (ar (gJ λZ=>(af 1 Z).bind (ji (ae "number"))) (ar (gJ (af 5)) (ar (gJ (af 6)) (ar (gJ (af 7)) λx=>some []))))))) λx=>some [])) (ju λZ=>some ([],Z)))) λZ=>aX (λb=>(b,Z)) ((au (dN λx=> !x) (λZ=>(ar (af 1) (λx=>some []) Z).bind λds=>if ds.length=1 then kT K C ds else none) (af 8) Z).bind λx=>match x with | D.sc (V.bl b)=>some b | x=>none)) (jg λZ=>aX (λd=>(d,Z)) (some (D.sc (V.bl false)))) λZ=>some (Fl.nx Z)
theorem awh:(cS m nu s (.cm z i t o R)).2= []:=by
 show(if s.role="stands"/\t=s.te then(eN m { s with vo:=dv s.vo z (o,R) },([]:List jf)) else(s, [])).2=_
 split <;> rfl
theorem awi(w:Wf 440 s)(h0:0 < m)(hm:m < 90)(hR:cc R)(hz:R.length<=440)(w':Wf 440 (cS m nu s (.cm z nu t o R)).1):atd K C (cz (ag C m nu s) l vd x3 (some (iD z)) (some (iD t)) (some (iD o)) (some (.nd .tup R)) (some (cx m nu (cS m nu s (.cm z nu t o R)).1)) x9)=some (.nx (cz (ag C m nu (cS m nu s (.cm z nu t o R)).1) l vd x3 (some (iD z)) (some (iD t)) (some (iD o)) (some (.nd .tup R)) (some (cx m nu (cS m nu s (.cm z nu t o R)).1)) x9)):=by
 have hh:=apo (K:=K) (C:=C) m nu s (.cm z nu t o R) w ⟨hR,hz⟩ h0 hm;rw[awh]at hh;generalize (cS m nu s (.cm z nu t o R)).1=s' at *;have f0:=nz (C:=C) (m:=m) (nu:=nu) (s:=s);have arh:=X8 (K:=K) (C:=C) m nu s' w'.rows;have hp:VL.plain (.nd .tup R)=true:=hR.plain;refine apv (aro (ρ1:=cz (ag C m nu s') l vd x3 (some (iD z)) (some (iD t)) (some (iD o)) (some (.nd .tup R)) (some (cx m nu s')) x9) (aos (j7 (a:= .nd .lst []) (b:= .nd .lst []) (aop (r:=11) (d0:=ag C m nu s) (as:= [.tm (cf (.cm z nu t o R))]) L1 rfl rfl (aoq (z:="hear") (by decide +kernel)) ?_ rfl rfl rfl hh) rfl atq)) ?_)
 ·refine SF.aoo (d:=cf (.cm z nu t o R)) (jJ (bw rfl (bw rfl (bw (aj (aj (a:=ag C m nu s) rfl f0.1) rfl) (bw rfl (bw rfl (bw (aj (a:= .nd .tup R) rfl (if_pos hp)) rfl)))))) (by show 6<=12;lia)) rfl
 ·exact congrArg (aX λb=>(b,cz (ag C m nu s') l vd x3 (some (iD z)) (some (iD t)) (some (iD o)) (some (.nd .tup R)) (some (cx m nu s')) x9)) (k0 (bY (g:=dN λx=> !x) (a:=cx m nu s') (b:=cx m nu s') (u3 (G:=kT K C) (m:=1) (ds:= [ag C m nu s']) rfl rfl arh) rfl (eq_self (apr w') (bO _) _)))
variable [eQ K C]
abbrev ate(K:ah)(C:Addr)[eQ K C]:En->Option Fl:=fA (as1 K C) (fA (as2 K C) (fA (arj K C) (fA as4 (fA (as5 K C) (fA atc (atd K C))))))
theorem awj:(cS m nu s (.cm z i t o R)).1.te=s.te:=by
 show(if s.role="stands"/\t=s.te then(eN m { s with vo:=dv s.vo z (o,R) },([]:List jf)) else(s, [])).1.te=_
 split
 ·unfold eN;dsimp only
  split
  ·split <;> rfl
  ·rfl
 ·rfl
theorem awk{l:List D}(hl:Lp l){m:Nat}{nu:Int}{s:MS}{vo:List (Int×Int×List D)}(h2:2<=m)(hm:m<=50)(w:Wg m 440 s)(hn:0<=nu)(CS:nu < m)(ht:0 < s.te)(abp:s.te < 2 ^ 100)(i:Iv s vo){x3 x4 x5 x6 x7 x8 x9:Option D}:∃(l':List D) (s':MS) (wG:List (Int×Int×List D)) (y4 y5 y6 y7 y8 y9:Option D),Lp l'/\Wg m 440 s'/\s'.te=s.te/\Iv s' wG/\ate K C (cz (ag C m nu s) l (aq vo) x3 x4 x5 x6 x7 x8 x9)=some (.nx (cz (ag C m nu s') l' (aq wG) x3 y4 y5 y6 y7 y8 y9)):=by
 obtain⟨z,l1,z0,z1,c1,e1⟩:=av8 (K:=K) (C:=C) hl (m:=m) (nu:=nu) (s:=s) (vd:=aq vo) h2 (by lia) (x3:=x3) (x4:=x4) (x5:=x5) (x6:=x6) (x7:=x7) (x8:=x8) (x9:=x9);obtain⟨t,l2,c2,e2⟩:=av9 (K:=K) (C:=C) c1 (m:=m) (nu:=nu) (s:=s) (vd:=aq vo) (x3:=x3) (x4:=some (iD z)) (x5:=x5) (x6:=x6) (x7:=x7) (x8:=x8) (x9:=x9);obtain⟨o,R,l3,hR,zR,c3,e3⟩:=awa (K:=K) (C:=C) c2 (m:=m) (nu:=nu) (s:=s) (vd:=aq vo) ht abp (x3:=x3) (x4:=some (iD z)) (x5:=some (iD t)) (x6:=x6) (x7:=x7) (x8:=x8) (x9:=x9);obtain⟨o',R',arp,atf,e4⟩:=awb (M:=ag C m nu s) (l:=l3) (z:=z) (o:=o) i.rw hR (by lia) (x3:=x3) (x5:=some (iD t)) (x8:=x8) (x9:=x9);have w':Wg m 440 (cS m nu s (.cm z nu t o' R')).1:=avi w ⟨⟨arp,atf⟩,z0,z1,hn,CS⟩ hm;have e5:=awc (K:=K) (C:=C) (l:=l3) (m:=m) (nu:=nu) (s:=s) (vd:=aq vo) w.wf.rows (x3:=x3) (x4:=some (iD z)) (x5:=some (iD t)) (x6:=some (iD o')) (x7:=some (.nd .tup R')) (x8:=x8) (x9:=x9);obtain⟨wG,arn,i',e6⟩:=awg (C:=C) (l:=l3) (m:=m) (nu:=nu) (z:=z) (t:=t) (o:=o') w.wf i arp w'.wf (x3:=x3) (x9:=x9);have e7:=awi (K:=K) (C:=C) (l:=l3) (m:=m) (nu:=nu) (z:=z) (t:=t) (o:=o') (vd:=aq wG) w.wf (by lia) (by lia) arp atf w'.wf (x3:=x3) (x9:=arn);exact⟨l3,_,wG,_,_,_,_,_,_,c3,w',awj,i',aD e1 (aD e2 (aD e3 (aD e4 (aD e5 (aD e6 e7)))))⟩
theorem atg{m:Nat}{nu:Int}(h2:2<=m)(hm:m<=50)(hn:0<=nu)(CS:nu < m):∀(js:List D) (l:List D) (s:MS) (vo:List (Int×Int×List D)) (x3 x4 x5 x6 x7 x8 x9:Option D),Lp l->Wg m 440 s->0 < s.te->s.te < 2 ^ 100->Iv s vo->∃(l':List D) (s':MS) (vd:D) (y3 y4 y5 y6 y7 y8 y9:Option D),Lp l'/\eB (λd Z=>some (bq 3 (VL.B.ro d) Z)) (ate K C) js (cz (ag C m nu s) l (aq vo) x3 x4 x5 x6 x7 x8 x9)=some (.nx (cz (ag C m nu s') l' vd y3 y4 y5 y6 y7 y8 y9))
 | [],l,s,vo,x3,x4,x5,x6,x7,x8,x9,hl,w,ht,abp,i=>⟨l,s,aq vo,x3,x4,x5,x6,x7,x8,x9,hl,rfl⟩
 |j::js,l,s,vo,x3,x4,x5,x6,x7,x8,x9,hl,w,ht,abp,i=>by
  obtain⟨l1,s1,awl,y4,y5,y6,y7,y8,y9,c1,w1,awm,i1,e1⟩:=awk (K:=K) (C:=C) hl h2 hm w hn CS ht abp i (x3:=some j) (x4:=x4) (x5:=x5) (x6:=x6) (x7:=x7) (x8:=x8) (x9:=x9);obtain⟨l2,s2,vd,z3,z4,z5,z6,z7,z8,z9,c2,e2⟩:=atg h2 hm hn CS js l1 s1 awl (some j) y4 y5 y6 y7 y8 y9 c1 w1 (by lia) (by lia) i1;refine⟨l2,s2,vd,z3,z4,z5,z6,z7,z8,z9,c2, ?_⟩;rw[eB];refine aj (a:=cz (ag C m nu s) l (aq vo) (some j) x4 x5 x6 x7 x8 x9) (congrArg some (abo (by lia) (by lia))) ?_;refine aj e1 ?_;exact e2
variable [eQ K C]
theorem awn(h2:2<=m):abr m nu s= { s with te:=gj nu m s.te,role:="stands",vo:= [(nu,s.o,s.L)] }:=by
 unfold abr eN;exact if_neg (by show ¬ (m:Int) < 2 * ((1:Nat):Int);lia)
abbrev ath:En->Option Fl:=dU 2 λZ=>aX (λd=>(d,Z)) (qB (λZ=>(af 1 Z).bind (ji (ae "number"))) (d7 Kd.tup (ar (gJ λZ=>(af 1 Z).bind (ji (ae "of"))) (ar (λZ=>(ar (λZ=>(af 1 Z).bind (ji (ae "log"))) (λx=>some []) Z).bind me) λx=>some []))) Z)
noncomputable abbrev ati (M:D) (l:List D) (vd:Option D):En:= [some (.aB 10 []),some (.aB 11 []),vd.map VL.B.own,none,none,none,none,none,none,none,some (.own (.nd .lst l)),some (.own M)]
theorem awo(hL:cc s.L):ath (ati (ag C m nu s) l none)=some (.nx (cz (ag C m nu s) l (aq [(nu,s.o,s.L)]) none none none none none none none)):=by
 have f0:=nz (C:=C) (m:=m) (nu:=nu) (s:=s);have hp:=hL.plain;refine eW (ρ1:=ati (ag C m nu s) l none) (d:=aq [(nu,s.o,s.L)]) (j0 (aj (a:=iD nu) (aj (a:=ag C m nu s) rfl f0.1) (aj (a:=eC (s.o,s.L)) (jJ (bw (aj (a:=iD s.o) (aj (a:=ag C m nu s) rfl f0.2.2.2.1) rfl) (bw (a:= .nd .tup s.L) (aj (a:= [.nd .lst s.L]) (bw (aj (a:=ag C m nu s) rfl f0.2.2.2.2.1) rfl) ?_) rfl)) (by show 2<=12;lia)) rfl))) rfl;simp[me,hp]
theorem awp{l:List D}(hl:Lp l){m:Nat}{nu:Int}{s:MS}(h2:2<=m)(hm:m<=50)(w:Wg m 440 s)(hn:0<=nu)(CS:nu < m)(ht:0<=s.te)(abp:s.te<=1000):∃(l':List D) (s':MS),api K C [.nd .lst l,ag C m nu s]=some (tD true, [.nd .lst l',ag C m nu s']):=by
 have hr:=avF (K:=K) (C:=C) m nu s w.wf.rows w.wf.len (by lia) (by lia);have wr:=avg w hn CS;rw[awn h2]at hr wr;obtain⟨d,l1,a1,b1,c1,e1⟩:=rU (K:=K) (C:=C) l hl 15 (by decide) (by decide);have axu:0<=(nu - (s.te + 1)) % (m:Int)/\(nu - (s.te + 1)) % (m:Int) < m:=⟨l6 _ (by lia),nW _ (by lia)⟩
 have hx:gj nu m s.te=s.te + 1 + (nu - (s.te + 1)) % (m:Int):=rfl;have i0:Iv { s with te:=gj nu m s.te,role:="stands",vo:= [(nu,s.o,s.L)] } [(nu,s.o,s.L)]:=⟨λ_=>rfl,wr.wf.vn,wr.wf.vl,wr.wf.vr⟩
 generalize he:({ s with te:=gj nu m s.te,role:="stands",vo:= [(nu,s.o,s.L)] }:MS)=s1 at *;have awm:s1.te=gj nu m s.te:=he▸rfl;obtain⟨l2,s2,vd,z3,z4,z5,z6,z7,z8,z9,c2,e2⟩:=atg (K:=K) (C:=C) h2 hm hn CS (iQ 0 d.toNat) l1 s1 [(nu,s.o,s.L)] none none none none none none none c1 wr (by lia) (by lia) i0;refine⟨l2,s2, ?_⟩;unfold api aq0;dsimp only;refine fC (ρ':=cz (ag C m nu s2) l2 vd z3 z4 z5 z6 z7 z8 z9) (aD (t:=ath) (ρ':=cz (ag C m nu s) l (aq [(nu,s.o,s.L)]) none none none none none none none) (awo w.wf.rows) (aD (ρ':=cz (ag C m nu s1) l (aq [(nu,s.o,s.L)]) none none none none none none none) (uv (aop (r:=11) (Z:=cz (ag C m nu s) l (aq [(nu,s.o,s.L)]) none none none none none none none) (d0:=ag C m nu s) (as:= []) L1 rfl rfl (aoq (z:="rise") (by decide +kernel)) rfl rfl rfl rfl hr)) (aD (ρ':=cz (ag C m nu s2) l2 vd z3 z4 z5 z6 z7 z8 z9) ?_ rfl))) rfl;unfold apR;refine aj (a:=([iD d],cz (ag C m nu s1) l1 (aq [(nu,s.o,s.L)]) none none none none none none none)) (bx (nT (r:=10) (Z:=cz (ag C m nu s1) l (aq [(nu,s.o,s.L)]) none none none none none none none) (as:= [.io ⟨10, []⟩, .tm (iD 15)]) (d0:= .nd .lst l) L1 rfl rfl rfl rfl rfl e1) rfl) ?_;dsimp only;refine aj (a:=iQ 0 d.toNat) ?_ e2;unfold tZ;dsimp only;rw[if_pos ⟨by lia,by lia⟩]
open SF (Al du o4 jj k9 yM BA fin2 uv bw jJ bx)
variable [eQ K C]
theorem anP{G:List D->Option (D×List D)}{fa:En->Option (List Ar)}{Z:En}{as:List Ar}(al:Al Z)(atj:r≠q)(hr:aV Z r=some e1)(hq:aV Z q=some e2)(h0:fa Z=some as)(h1:gg Z as=some ds)(h2:cT as= [⟨r, []⟩,⟨q, []⟩])(h3:as.all (kY [⟨r, []⟩,⟨q, []⟩])=true)(hG:G ds=some (d, [d1,d2])):((aX (λa=>(a,Z)) (fa Z)).bind λa=>fL G a.fst a.snd)=some (d,(Z.set r (some (.own d1))).set q (some (.own d2))):=by
 refine SF.S8 h0 h1 ?_ hG ?_ ?_
 ·rw[h2];exact⟨FQ.mpr ⟨λa ha=>by rw[eS.mp ha];exact atj,N4 _ _⟩,h3⟩
 ·rw[h2];rfl
 ·rw[h2];exact fin2 al atj hr hq d1 d2
abbrev eO(cs:List Int)(x1 x2 x3 x4 x5:Option D):En:= [some (.ro (sg cs)),x1.map VL.B.ro,x2.map VL.B.own,x3.map VL.B.own,x4.map VL.B.own,x5.map VL.B.own]
theorem atk:bq i β (eO cs x1 x2 x3 x4 x5)=(eO cs x1 x2 x3 x4 x5).set i (some β):=by
 unfold bq eI
 congr 1;cases x1 <;> cases x2 <;> cases x3 <;> cases x4 <;> cases x5 <;> simp
theorem abq:Al (eO cs x1 x2 x3 x4 x5):=du (by cases x1 <;> cases x2 <;> cases x3 <;> cases x4 <;> cases x5 <;> rfl)
theorem apw(e:f Z=some (d,eO cs x1 x2 x3 x4 x5))(h:(eO cs x1 x2 x3 x4 x5).set i (some (.own d))=ρ'):dU i f Z=some (.nx ρ'):=eW e (atk.trans h)
theorem arq{x:En->Option (Bool×En)}(h:x Z=some (b,ρ1)):aX (λr:Bool×En=>(!r.fst,r.snd)) (x Z)=some (!b,ρ1):=by rw[h];rfl
abbrev atl(K:ah)(C:Addr)[eQ K C]:En->Option Fl:=
 fA (dU 2 λZ=>aX (λd=>(d,Z)) ((ar (af 0) (ar (af 1) λx=>some []) Z).bind λds=>if ds.length=2 then uu K C ds else none))
 (fA (dU 3 (hZ gx (λZ=>aX (λd=>(d,Z)) (some (D.sc (V.int 2)))) λZ=>(aX (λa=>(a,Z)) (gn (aT 2) (mr (λx=>some (D.sc (V.int 6))) λx=>some []) Z)).bind λa=>fL (Bp K C) a.fst a.snd))
 (fA (dU 4 (apS (U5 K C) C 2 (eJ (λZ=>(aX (λa=>(a,Z)) (gn (aT 2) (fB (aT 3) λx=>some []) Z)).bind λa=>fL (Bp K C) a.fst a.snd) (eJ (kr 3) λZ=>some ([],Z)))))
 (fA (gv (VL.orM (λZ=>aX (λr=>(!r.fst,r.snd)) (ku (λZ=>(aX (λa=>(a,Z)) (gn (aT 2) (gn (aT 4) λx=>some []) Z)).bind λa=>fL (apd K C) a.fst a.snd) Z)) λZ=>aX (λr=>(!r.fst,r.snd)) (ku (λZ=>(aX (λa=>(a,Z)) (gn (aT 2) (gn (aT 4) λx=>some []) Z)).bind λa=>fL (apc K C) a.fst a.snd) Z)) (jg λZ=>aX (λd=>(d,Z)) (some (D.sc (V.bl false)))) λZ=>some (Fl.nx Z))
 (fA (dU 5 λZ=>aX (λd=>(d,Z)) ((ar (af 4) (λx=>some []) Z).bind λds=>if ds.length=1 then kT K C ds else none))
 (fA (gv (ku (hZ (dN λx=> !x) (N2 (tE K C) C (ae "hear") (aT 4) (mr (d7 Kd.tup (ar (λx=>some (D.sc (V.str (ae "voice")))) (ar (au (intD (λx j=>0 < j) λi j=>V.int (i % j)) (au i5 (λZ=>(af 4 Z).bind (ji (ae "number"))) λx=>some (D.sc (V.int 1))) (af 3)) (ar (gJ λZ=>(af 4 Z).bind (ji (ae "number"))) (ar (gJ λZ=>(af 4 Z).bind (ji (ae "term"))) (ar (λx=>some (D.sc (V.int 0))) (ar (d7 Kd.tup λx=>some []) λx=>some []))))))) λx=>some [])) (ju λZ=>some ([],Z)))) (jg λZ=>aX (λd=>(d,Z)) (some (D.sc (V.bl false)))) λZ=>some (Fl.nx Z))
 (gv (VL.orM (λZ=>aX (λb=>(b,Z)) ((au (dN λx=> !x) (λZ=>(ar (af 4) (λx=>some []) Z).bind λds=>if ds.length=1 then kT K C ds else none) (af 5) Z).bind λx=>match x with | D.sc (V.bl b)=>some b | x=>none)) λZ=>aX (λr=>(!r.fst,r.snd)) (ku (λZ=>(aX (λa=>(a,Z)) (gn (aT 2) (gn (aT 4) λx=>some []) Z)).bind λa=>fL (api K C) a.fst a.snd) Z)) (jg λZ=>aX (λd=>(d,Z)) (some (D.sc (V.bl false)))) λZ=>some (Fl.nx Z)))))))
theorem awq{cs:List Int}{k:Nat}(hk:k < 2 ^ 20)(hn:∀f∈d3,mf K C f){x2 x3 x4 x5:Option D}:∃y2 y3 y4 y5:Option D,atl K C (eO cs (some (iD k)) x2 x3 x4 x5)=some (.nx (eO cs (some (iD k)) y2 y3 y4 y5)):=by
 obtain⟨l,hl,e1⟩:=avT (K:=K) (C:=C) cs k hk;obtain⟨d,l1,a1,b1,c1,e2⟩:=rU (K:=K) (C:=C) l hl 6 (by decide) (by decide);obtain⟨m,em⟩:∃m:Nat,2 + d=(m:Int):=⟨(2 + d).toNat,by lia⟩
 obtain⟨nu,l2,n0,n1,c2,e3⟩:=rU (K:=K) (C:=C) l1 c1 (m:Int) (by lia) (by lia);have ei:U5 K C [.nd (.obj C []) [],iD nu,iD m]=some (.sc .aG, [ag C m nu s0]):=af8 (K:=K) (C:=C) nu m hn;obtain⟨s1,l3,c3,w1,r1,t1,u1,e4⟩:=avZ (K:=K) (C:=C) c2 (m:=m) (nu:=nu) (by lia) (by lia);obtain⟨l4,s2,c4,w2,r2,t2,u2,e5⟩:=av6 (K:=K) (C:=C) c3 (m:=m) (nu:=nu) (s:=s1) (by lia) (by lia) w1 r1 t1;have ff:=X8 (K:=K) (C:=C) m nu s2 w2.wf.rows;have f0:=nz (C:=C) (m:=m) (nu:=nu) (s:=s2);have hh:=apo (K:=K) (C:=C) m nu s2 (.cm ((nu + 1) % (m:Int)) nu s2.te 0 []) w2.wf ⟨λ_ h=>(nomatch h),jO _⟩ (by lia) (by lia);have eh:cS m nu s2 (.cm ((nu + 1) % (m:Int)) nu s2.te 0 [])=(s2, []):=by
  show(if s2.role="stands"/\s2.te=s2.te then _ else(s2,([]:List jf)))=_;exact if_neg λh=>by rw[r2]at h;exact absurd h.1 (by decide +kernel)
 rw[eh]at hh;obtain⟨l5,s3,e6⟩:=awp (K:=K) (C:=C) c4 (m:=m) (nu:=nu) (s:=s2) (by lia) (by lia) w2 n0 n1 t2 (by lia);refine⟨some (.nd .lst l5),some (iD m),some (ag C m nu s3),some (cx m nu s2), ?_⟩;refine aD (ρ':=eO cs (some (iD k)) (some (.nd .lst l)) x3 x4 x5) (apw (x1:=some (iD k)) (x2:=x2) (j0 (u3 (G:=uu K C) (m:=2) (ds:= [sg cs,iD k]) rfl rfl e1)) rfl) ?_;refine aD (ρ':=eO cs (some (iD k)) (some (.nd .lst l1)) (some (iD m)) x4 x5) (apw (x1:=some (iD k)) (x2:=some (.nd .lst l1)) (x3:=x3) (j7 (a:=iD 2) (b:=iD d) rfl (nT (r:=2) (Z:=eO cs (some (iD k)) (some (.nd .lst l)) x3 x4 x5) (as:= [.io ⟨2, []⟩, .tm (iD 6)]) (d0:= .nd .lst l) abq rfl rfl rfl rfl rfl e2) (congrArg (λz=>some (iD z)) em)) rfl) ?_;refine aD (ρ':=eO cs (some (iD k)) (some (.nd .lst l2)) (some (iD m)) (some (ag C m nu s0)) x5) (apw (x1:=some (iD k)) (x2:=some (.nd .lst l2)) (x3:=some (iD m)) (x4:=x4) ?_ rfl) ?_
 ·unfold apS;refine aj (a:=([iD nu,iD m],eO cs (some (iD k)) (some (.nd .lst l2)) (some (iD m)) x4 x5)) (bx (nT (r:=2) (Z:=eO cs (some (iD k)) (some (.nd .lst l1)) (some (iD m)) x4 x5) (as:= [.io ⟨2, []⟩, .tm (iD m)]) (d0:= .nd .lst l1) abq rfl rfl rfl rfl rfl e3) (bx (a:=iD m) rfl rfl)) ?_;refine(if_pos rfl).trans ?_;exact aj ei rfl
 refine aD (ρ':=eO cs (some (iD k)) (some (.nd .lst l4)) (some (iD m)) (some (ag C m nu s2)) x5) (apv (aro (ρ1:=eO cs (some (iD k)) (some (.nd .lst l3)) (some (iD m)) (some (ag C m nu s1)) x5) (arq (b:=true) (aos (anP (r:=2) (q:=4) (Z:=eO cs (some (iD k)) (some (.nd .lst l2)) (some (iD m)) (some (ag C m nu s0)) x5) (as:= [.io ⟨2, []⟩, .io ⟨4, []⟩]) (e1:= .nd .lst l2) (e2:=ag C m nu s0) abq (by decide) rfl rfl rfl rfl rfl rfl e4))) (arq (b:=true) (aos (anP (r:=2) (q:=4) (Z:=eO cs (some (iD k)) (some (.nd .lst l3)) (some (iD m)) (some (ag C m nu s1)) x5) (as:= [.io ⟨2, []⟩, .io ⟨4, []⟩]) (e1:= .nd .lst l3) (e2:=ag C m nu s1) abq (by decide) rfl rfl rfl rfl rfl rfl e5))))) ?_;refine aD (ρ':=eO cs (some (iD k)) (some (.nd .lst l4)) (some (iD m)) (some (ag C m nu s2)) (some (cx m nu s2))) (apw (x1:=some (iD k)) (x2:=some (.nd .lst l4)) (x3:=some (iD m)) (x4:=some (ag C m nu s2)) (x5:=x5) (j0 (u3 (G:=kT K C) (m:=1) (ds:= [ag C m nu s2]) rfl rfl ff)) rfl) ?_;refine aD (ρ':=eO cs (some (iD k)) (some (.nd .lst l4)) (some (iD m)) (some (ag C m nu s2)) (some (cx m nu s2))) (apv (aos (j7 (a:= .nd .lst []) (b:= .nd .lst []) (aop (r:=4) (Z:=eO cs (some (iD k)) (some (.nd .lst l4)) (some (iD m)) (some (ag C m nu s2)) (some (cx m nu s2))) (d0:=ag C m nu s2) (as:= [.tm (cf (.cm ((nu + 1) % (m:Int)) nu s2.te 0 []))]) abq rfl rfl (aoq (z:="hear") (by decide +kernel)) ?_ rfl rfl rfl hh) rfl atq))) ?_
 ·refine SF.aoo (d:=cf (.cm ((nu + 1) % (m:Int)) nu s2.te 0 [])) (jJ (bw rfl (bw (bY (a:=iD (nu + 1)) (b:=iD m) (bY (a:=iD nu) (b:=iD 1) (aj (a:=ag C m nu s2) rfl f0.1) rfl rfl) rfl (abn (by lia))) (bw (aj (aj (a:=ag C m nu s2) rfl f0.1) rfl) (bw (aj (aj (a:=ag C m nu s2) rfl f0.2.2.1) rfl) (bw rfl (bw rfl rfl)))))) (by show 6<=12;lia)) rfl
 refine apv (aro (ρ1:=eO cs (some (iD k)) (some (.nd .lst l4)) (some (iD m)) (some (ag C m nu s2)) (some (cx m nu s2))) ?_ (arq (b:=true) (aos (anP (r:=2) (q:=4) (Z:=eO cs (some (iD k)) (some (.nd .lst l4)) (some (iD m)) (some (ag C m nu s2)) (some (cx m nu s2))) (as:= [.io ⟨2, []⟩, .io ⟨4, []⟩]) (e1:= .nd .lst l4) (e2:=ag C m nu s2) abq (by decide) rfl rfl rfl rfl rfl rfl e6))));exact congrArg (aX λb=>(b,eO cs (some (iD k)) (some (.nd .lst l4)) (some (iD m)) (some (ag C m nu s2)) (some (cx m nu s2)))) (k0 (bY (g:=dN λx=> !x) (a:=cx m nu s2) (b:=cx m nu s2) (u3 (G:=kT K C) (m:=1) (ds:= [ag C m nu s2]) rfl rfl ff) rfl (eq_self (apr w2.wf) (bO _) _)))
theorem atm{cs:List Int}(hn:∀f∈d3,mf K C f):∀(js:List D) (x1 x2 x3 x4 x5:Option D),(∀j∈js,∃k:Nat,k < 2 ^ 20/\j=iD k)->∃y1 y2 y3 y4 y5:Option D,eB (λd Z=>some (bq 1 (VL.B.ro d) Z)) (atl K C) js (eO cs x1 x2 x3 x4 x5)=some (.nx (eO cs y1 y2 y3 y4 y5))
 | [],x1,x2,x3,x4,x5,_=>⟨x1,x2,x3,x4,x5,rfl⟩
 |j::js,x1,x2,x3,x4,x5,h=>by
  obtain⟨k,hk,rfl⟩:=h j (xb ..);obtain⟨y2,y3,y4,y5,e1⟩:=awq (K:=K) (C:=C) (cs:=cs) hk hn (x2:=x2) (x3:=x3) (x4:=x4) (x5:=x5);obtain⟨z1,z2,z3,z4,z5,e2⟩:=atm hn js (some (iD k)) y2 y3 y4 y5 λj hj=>h j (nQ _ hj);refine⟨z1,z2,z3,z4,z5, ?_⟩;rw[eB];refine aj (a:=eO cs (some (iD k)) x2 x3 x4 x5) (congrArg some atk) ?_;refine aj e1 ?_;exact e2
theorem agy(cs:List Int)(hn:∀f∈d3,mf K C f):UO K C [sg cs]=some (tD true):=by
 obtain⟨nk,axv,dw⟩:∃nk:Nat,nk<=8/\(if(if(8:Int) < (cs.length:Int) then(8:Int) else(cs.length:Int)) > 1 then(if(8:Int) < (cs.length:Int) then(8:Int) else(cs.length:Int)) else 1)=(nk:Int):=by
  by_cases h8:(8:Int) < (cs.length:Int)
  ·exact⟨8,by decide,by rw[if_pos h8];rfl⟩
  ·rw[if_neg h8];by_cases h1:(cs.length:Int) > 1
   ·exact⟨cs.length,by lia,by rw[if_pos h1]⟩
   ·exact⟨1,by decide,by rw[if_neg h1];rfl⟩
 obtain⟨y1,y2,y3,y4,y5,e⟩:=atm (K:=K) (C:=C) (cs:=cs) hn (iQ 0 nk) none none none none none λj hj=>by
  obtain⟨k,hk,rfl⟩:=abm hj;exact⟨k,by lia,by rw[aty]⟩
 unfold UO M5;dsimp only;refine fQ (ρ':=eO cs y1 y2 y3 y4 y5) (aD (ρ':=eO cs y1 y2 y3 y4 y5) (aj (a:=iQ 0 nk) ?_ e) rfl);refine aj (a:= [iD nk]) ?_ (apW nk (by lia));rw[<- dw];simp[sg,bD,ar,af,kB,gF]
def Ng(P0:Addr)(K:ah):Sp:=λvs H Q _=>(∃more,H P0=some (.u6 (U0++more)))/\∃(a:Addr) (ns:List Int),vs= [.ref a]/\jA K H a (ns.map V.int)/\ns.length<=63/\∀H',Q (.bl true) H'
theorem agB{K:ah}{P0:Addr}{qs:Array Value}{H:Hp}{a:Addr}{vs:List V}(hO:aoU P0 qs H)(hS:cI K H a vs):jA K H a vs:=by
 rcases hS with(e | ⟨o,e⟩) | h
 ·by_cases c:a=P0
  ·rw[c,hO.1]at e;cases e
  ·rcases hO.2 a c with z | ⟨o,xs,z⟩
   ·rw[z]at e;cases e
   ·rw[z]at e;cases e
 ·exact .inl ⟨o,e⟩
 ·exact .inr h
theorem agC{K:ah}{H:Hp}{a:Addr}{ns:List Int}(h:jA K H a (ns.map V.int)):dm K H T1 [.ref a] [sg ns]:=by
 refine⟨rfl,λi v d hv hd=> ?_⟩;cases i with
 |succ i=>simp at hv
 |zero=>
  cases hv;cases hd;refine .nd (λz=>by cases z) ⟨trivial,h⟩ (by simp) λi v d hv hd=> ?_;rw[bJ]at hv hd;cases e:ns[i]? with
  |none=>rw[e]at hv;cases hv
  |some x=>
   rw[e]at hv hd;cases hv;cases hd;exact .sc _
def nP(K:ah)(x:Str)(s:Stmt):Prop:=∃f fd,uW K jN x=some (some (.ref f))/\cY K x x s f fd
def nM(K:ah)(C:Addr)(x y:Str)(s:Stmt):Prop:=∃f fd,p7 K (.ref C) x=some (some (.ref f))/\apB K (.ref f)=true/\cY K x y s f fd
theorem np_mk{K:ah}{x:Str}{st:Stmt}{f:Addr}{oc:Value}{od an:Option Addr}{mO:Array (Option Value)}{kV doc pm dB ct:Value}(a:uW K jN x=some (some (.ref f)))(l:K.lookup f=some ⟨oc,od, .func (qT x x (rE st) (mS st) (cb st) .none kV doc pm an dB ct),mO⟩)(c:Cf K dB x=true)(k:uO K (.ref f)=true):nP K x st:=⟨_,_,a,GX l c k⟩
theorem nm_mk{K:ah}{C:Addr}{x y:Str}{st:Stmt}{f:Addr}{oc:Value}{od an:Option Addr}{mO:Array (Option Value)}{kV doc pm dB ct:Value}(a:p7 K (.ref C) x=some (some (.ref f)))(i:apB K (.ref f)=true)(l:K.lookup f=some ⟨oc,od, .func (qT x y (rE st) (mS st) (cb st) .none kV doc pm an dB ct),mO⟩)(c:Cf K dB y=true)(k:uO K (.ref f)=true):nM K C x y st:=⟨_,_,a,i,GX l c k⟩
theorem agD{P:Program}{w:World}{K:ah}{mg:Str->Option Value}{base h:Heap}(X:K.In h)(G:h.Ns jN mg){x:Str}{ps:List Str}{k:Nat}{sp:Sp}{st:Stmt}(q:nP K x st)
  (o:∀{f fd},cY K x x st f fd->bZ P w K mg base cG k f fd ps sp) (hb:∀(kV doc pm:Value) (an:Option Addr) (dB ct:Value) (us:List Value),us.length=ps.length->art (qT x x (rE st) (mS st) (cb st) .none kV doc pm an dB ct) ⟨us, []⟩=pure (ps.zip us)):dt P w K mg base x ps k sp:=by
 obtain⟨f,fd,a,F⟩:=q;exact dt.of F (F.binds hb) (qW X G a) (o F)
theorem ph{P:List Value->Prop}(h:∀a,P [a]):∀us:List Value,us.length=1->P us
 | [a],_=>h a
theorem jo{P:List Value->Prop}(h:∀a b,P [a,b]):∀us:List Value,us.length=2->P us
 |a::r,e=>ph (P:=λr=>P (a::r)) (h a) r (eF e)
theorem uF{P:List Value->Prop}(h:∀a b c,P [a,b,c]):∀us:List Value,us.length=3->P us
 |a::r,e=>jo (P:=λr=>P (a::r)) (h a) r (eF e)
theorem Nh{P:List Value->Prop}(h:∀a b c d,P [a,b,c,d]):∀us:List Value,us.length=4->P us
 |a::r,e=>uF (P:=λr=>P (a::r)) (h a) r (eF e)
theorem agF{P:List Value->Prop}(h:∀a b c d e,P [a,b,c,d,e]):∀us:List Value,us.length=5->P us
 |a::r,e=>Nh (P:=λr=>P (a::r)) (h a) r (eF e)
def nA(K:ah)(x:Str)(f:Addr):Prop:=uW K jN x=some (some (.ref f))
def nZ(K:ah)(x:Str):Prop:=uW K jN x=some none
def nL(K:ah)(f:Addr)(x y:Str)(s:Stmt)(oc:Value)(od:Option Addr)(kV dc pm:Value)(an:Option Addr)(cd ct:Value)(sl:Array (Option Value)):Prop:=K.lookup f=some ⟨oc,od, .func (qT x y (rE s) (mS s) (cb s) .none kV dc pm an cd ct),sl⟩
def nC(K:ah)(c:Value)(x:Str):Prop:=Cf K c x=true
def nK(K:ah)(f:Addr):Prop:=uO K (.ref f)=true
def nF(K:ah)(C:Addr)(x:Str):Prop:=p7 K (.ref C) x=some none
theorem awr{K:ah}{h:Heap}{mg:Str->Option Value}{x:Str}{st:Stmt}{f c P:Addr}{fd:kK}(X:K.In h)(G:h.Ns jN mg)(ht:arC K x=some (c,P))(a:uW K jN x=some (some (.ref f)))(F:cY K x x st f fd):fd.code= .ref c:=by
 obtain⟨oc,od,kV,doc,pm,an,dB,ct,mO,rfl,lk,pB⟩:=F.ex;exact W.law_code X G ht (qW X G a) (X _ _ lk) rfl
theorem all_mk{l:W.OpenLaw}{w:World}{K:ah}{h:Heap}{mg:Str->Option Value}{C fa c0 P0:Addr}(X:K.In h)(G:h.Ns jN mg)(agG:mg "law"=some (.ref fa))
 (q0:nP K "_law_cell_at" JL)
 (q1:nP K "_law_mix" JM)
 (q2:nP K "_law_rich" ap5)
 (q3:nP K "_law_left" JN)
 (q4:nP K "_law_pick" JI)
 (q5:nP K "_law_fields" ap7)
 (q6:nP K "own_copy" aqc)
 (q7:nP K "rows_told" aqd)
 (q8:nP K "hear_stand" aqe)
 (q9:nP K "is_most" ap8)
 (agH:nP K "rank_of_voice" aqi)
 (agI:nP K "is_fixed" aqf)
 (agJ:nP K "take_behind" aqg)
 (agK:nP K "take_rows" aqh)
 (agL:nP K "lead_by_voices" aqj)
 (agM:nP K "hear_voice" aqk)
 (agN:nP K "hear_keep" aql)
 (agO:nP K "others" ap9)
 (agP:nP K "count_done" aqa)
 (agQ:nP K "hear_kept" aqb)
 (agR:nP K "_law_is_told" aqo)
 (agS:nP K "_law_asked_for" aqp)
 (agT:nP K "_law_rows" Ku)
 (agU:nP K "_law_kept_log" aqn)
 (agV:nP K "next_term" aqq)
 (agW:nP K "_law_log_by" aqs)
 (agX:nP K "_law_voiced" aqt)
 (aws:nA K "law" atn) (awt:nL K atn "law" "law" yz axw axx awu awv aww awx ars awy axy) (awz:nC K ars "law") (awA:nK K atn) (awB:∃cL:Addr,ars= .ref cL)
 (z0:nZ K "len")
 (z1:nZ K "range")
 (z2:nZ K "list")
 (z3:nZ K "tuple")
 (z4:nZ K "int")
 (z5:nZ K "max")
 (z6:nZ K "min")
 (z7:nZ K "all")
 (z8:nZ K "any")
 (z9:nZ K "isinstance")
 (ahk:nZ K "str")
 (ahl:nZ K "bool")
 (ahm:nZ K "dict")
 (ahn:nZ K "sorted")
 (ahr:nA K "Master" C)
 (qI:nM K C "__init__" "Master.__init__" ap6)
 (qH:nM K C "hear" "Master.hear" aqm)
 (qR:nM K C "rise" "Master.rise" aqr)
 (pg:NB K C Str.empty=true) (hd:NC K C=true) (po:Vz K C=true) (sa:p7 K (.ref C) "__setattr__"=some (some (.builtin "object.__setattr__"))) (mk:W.makesIn K C=true) (kc:nK K C)
 (n0:nF K C "number")
 (n1:nF K C "many")
 (n2:nF K C "term")
 (n3:nF K C "of")
 (n4:nF K C "log")
 (n5:nF K C "done")
 (n6:nF K C "role")
 (n7:nF K C "voices")
 (n8:nF K C "sizes")
 (n9:nF K C "fixed")
 (ht:arC K "_law_voiced"=some (c0,P0))
 :∃fd:kK,(∀(s:Shared) (v:Value),B4 s fd ⟨[v], []⟩ [("_law_script",v)])/\∀base:Heap,K.In base->base.Ns jN mg->wV base c0 P0->base.BuiltinsAt mg P0->bZ l.prog w K mg base cG 14 fa fd ["_law_script"] (Ng P0 K):=by
 have e:=agG.symm.trans (qW X G aws);cases e;have T:bM mg:=⟨lA X G z0,lA X G z1,lA X G z2,lA X G z3,lA X G z4,lA X G z5,lA X G z6,lA X G z7,lA X G z8,lA X G z9,lA X G ahk,lA X G ahl,lA X G ahm,lA X G ahn⟩
 refine⟨qT "law" "law" (rE yz) (mS yz) (cb yz) .none awu awv aww awx ars awy,λs v=> .of_eq rfl,λbase _ _ hC hB=> ?_⟩;obtain⟨cL,eL⟩:=awB;have cls:mN K C:=⟨pg,hd,po,sa⟩
 haveI:eQ K C:=⟨cls⟩
 have Y {x:Str} {ps:List Str} {k:Nat} {sp:Sp} {st:Stmt}:=@agD l.prog w K mg base h X G x ps k sp st;have Lc:=Y q0 (λF=>(EH K C).2 F T) λ_ _ _ _ _ _=>jo λ_ _=>rfl;have ER:=Y q1 (λF=>(K9 K C).2 F T) λ_ _ _ _ _ _=>jo λ_ _=>rfl;have apf:=Y q2 (λF=>(aqU K C).2 F T ER) λ_ _ _ _ _ _=>jo λ_ _=>rfl;have BZ:=Y q3 (λF=>(Lb K C).2 F T Lc apf) λ_ _ _ _ _ _=>jo λ_ _=>rfl;have fj:=Y q4 (λF=>(KG K C).2 F T) λ_ _ _ _ _ _=>jo λ_ _=>rfl;obtain⟨fI,_,a,i,F⟩:=qI;have b:=F.binds (ps:= ["self","number","many"]) λ_ _ _ _ _ _=>uF λ_ _ _=>rfl;have aq4:IA l.prog w K mg base "Master" C ["self","number","many"] 1 (dW K (true::ki 2 false) (U5 K C)):=⟨cls,fI,_,(aq3 K C).2 F T,b,⟨mk,a,i,kc⟩,qW X G ahr⟩
 have k2:=Y q5 (λF=>(aqx K C).2 F T) λ_ _ _ _ _ _=>ph λ_=>rfl;obtain⟨_,_,a,F⟩:=q6;have b:=F.binds (ps:= ["value"]) λ_ _ _ _ _ _=>ph λ_=>rfl;have m:=qW X G a;have rG:dt l.prog w K mg base "own_copy" ["value"] 4 (ee K 1 (ao3 K C)):=dt.of F b m (asp (Cm:=C) F T b m  3);have aqK:=Y q7 (λF=>(aqI K C).2 F T rG) λ_ _ _ _ _ _=>ph λ_=>rfl;have aqN:=Y q8 (λF=>(ao7 K C).2 F T aqK) λ_ _ _ _ _ _=>uF λ_ _ _=>rfl;have UN:=Y q9 (λF=>(aqC K C).2 F T) λ_ _ _ _ _ _=>jo λ_ _=>rfl;have aqM:=Y agH (λF=>(aqL K C).2 F T) λ_ _ _ _ _ _=>ph λ_=>rfl;obtain⟨_,_,a,F⟩:=agI;have b:=F.binds (ps:= ["value"]) λ_ _ _ _ _ _=>ph λ_=>rfl;have m:=qW X G a;have aoh:dt l.prog w K mg base "is_fixed" ["value"] 4 (ee K 1 (ao0 K C)):=dt.of F b m (asn (Cm:=C) F T b m  3);have aqB:=Y agJ (λF=>(aqz K C).2 F T aoh rG) λ_ _ _ _ _ _=>jo λ_ _=>rfl;have S0:=Y agK (λF=>(ao4 K C).2 F T aqB) λ_ _ _ _ _ _=>jo λ_ _=>rfl;have UY:=Y agL (λF=>(ao9 K C).2 F T UN aqM S0) λ_ _ _ _ _ _=>ph λ_=>rfl;have aqO:=Y agM (λF=>(aom K C).2 F T rG UY) λ_ _ _ _ _ _=>agF λ_ _ _ _ _=>rfl;have aqP:=Y agN (λF=>(aoi K C).2 F T S0) λ_ _ _ _ _ _=>agF λ_ _ _ _ _=>rfl;have Up:=Y agO (λF=>(aqE K C).2 F T) λ_ _ _ _ _ _=>ph λ_=>rfl;have aqH:=Y agP (λF=>(aqF K C).2 F T Up UN) λ_ _ _ _ _ _=>ph λ_=>rfl;have aqQ:=Y agQ (λF=>(aok K C).2 F T aqH) λ_ _ _ _ _ _=>Nh λ_ _ _ _=>rfl;obtain⟨fH,_,a,i,F⟩:=qH;have b:=F.binds (ps:= ["self","message"]) λ_ _ _ _ _ _=>jo λ_ _=>rfl;have nS:OK l.prog w K mg base C "hear" ["self","message"] 10 (dW K [true,false] (tE K C)):=⟨cls,fH,_,(UZ K C).2 F T aqN aqO aqP aqQ,b,⟨a,i,F.kp⟩⟩
 have aqS:=Y agR (λF=>(aoX K C).2 F T) λ_ _ _ _ _ _=>jo λ_ _=>rfl;have aq5:=Y agS (λF=>(aqR K C).2 F T fj k2 nS aqS) λ_ _ _ _ _ _=>jo λ_ _=>rfl;have Nb:=Y agT (λF=>(Lf K C).2 F T) λ_ _ _ _ _ _=>jo λ_ _=>rfl;have aq6:=Y agU (λF=>(aqT K C).2 F T fj Nb nS k2) λ_ _ _ _ _ _=>jo λ_ _=>rfl;have aqZ:=Y agV (λF=>(aqW K C).2 F T) λ_ _ _ _ _ _=>ph λ_=>rfl;obtain⟨fR,_,a,i,F⟩:=qR;have b:=F.binds (ps:= ["self"]) λ_ _ _ _ _ _=>ph λ_=>rfl;have aq1:OK l.prog w K mg base C "rise" ["self"] 9 (dW K [true] (aph K C)):=⟨cls,fR,_,(aqY K C).2 F T aqZ UY Up,b,⟨a,i,F.kp⟩⟩
 have aq2:=Y agW (λF=>(aqV K C).2 F T fj Nb) λ_ _ _ _ _ _=>jo λ_ _=>rfl;obtain⟨_,_,a,F⟩:=agX;have aq7:asv l.prog w K mg base C P0:=dt.of F (F.binds (ps:= ["_law_left_here","_law_one"]) λ_ _ _ _ _ _=>jo λ_ _=>rfl) (qW X G a) ((aq0 K C).2 F (awr X G ht a F) hC hB T aq1 fj aq2 k2 nS);have hn:∀f∈d3,mf K C f:=by
  intro f hf;simp only[d3,bL,dh,or_false]at hf;rcases hf with rfl | rfl | rfl | rfl | rfl | rfl | rfl | rfl | rfl | rfl
  all_goals assumption
 exact((M5 K C).2 (GX awt awz awA) eL T BZ fj aq4 aq5 aq6 k2 nS aq7).imp λvs H Q E h=>by
  obtain⟨hT,a,ns,rfl,hF,hl,qq⟩:=h;exact⟨hT, [sg ns],tD true,rfl,agC hF,agy ns hn,λv H' _ o=>by
   have e:v= .bl true:=(cA.vw o).bA;subst e;exact qq H'⟩
theorem walk{l:W.OpenLaw}{q:Program}{loose:List Str}{XP:(Str->Option Value)->Heap->Prop}{YP:World->Heap->Prop}{d d0:DefRec}{c0 P0:Addr}{K:Params->ah}(hn:l.most=some 63)(Aq:d.params.defaults= [])
  (hY:∀(w:World) (h:Heap),YP w h->(K w.params).In h)
  (ap4:(PyProof.Rows.recsOf q).find? (λe=>e.name == ("_law_voiced":Str))=some d0) (ht:∀w:World,arC (K w.params) "_law_voiced"=some (c0,P0)) (aog:∀w:World,(K w.params).lookup P0=none)
  (F:∀(w:World) (mg:Str->Option Value) (fa:Addr) (h:Heap),(K w.params).In h->h.Ns jN mg->mg d.name=some (.ref fa)->
   ∃fd:kK,(∀(s:Shared) (u:Value),B4 s fd ⟨[u], []⟩ [("_law_script",u)])/\∀base:Heap,(K w.params).In base->base.Ns jN mg->wV base c0 P0->base.BuiltinsAt mg P0->bZ l.prog w (K w.params) mg base cG 14 fa fd ["_law_script"] (Ng P0 (K w.params))):
  W.WalkO q loose XP YP l.row.toRowW d [] (λf vs=>VS f vs):=
 L2.auA (c0:=c0) (P0:=P0) (qs:=U0) (x0:="_law_voiced") (n:=63) (k:=14) (x:="_law_script") (CX:=λ_=>cG) (sp:=λw=>Ng P0 (K w.params)) hn (by decide) Aq ⟨rfl,by decide,by decide,rfl⟩ hY ap4 ht aog F (λ_ _ a ns hl hO hS=>⟨⟨#[],by rw[Wa];exact hO.1⟩,a,ns,rfl,agB hO hS,hl,λ_=>rfl⟩) λ_ _ _ _ _ z=>z
end K26
namespace PySem.W.Fast
def tw5712228497264226306:=Nat
def tw6464921753228502244:=Nat
def tw2148903739256298950:=Nat
def tw1227035165620748967:=Nat
def tw13038809578014981480:=Nat
def tw3590124178443187466:=Nat
def tw12635209465478379210:=Nat
def tw13444693363585345259:=Nat
def tw11123416734607593549:=Nat
def tw7836031710049019824:=Nat
def tw11997619021290149266:=Nat
def tw10355478729641472563:=Nat
def tw2457649853232167128:=Nat
def tw14825459830363902840:=Nat
def tw11669508337826294554:=Nat
def tw1563734485989990111:=Nat
def tw10787949734534938748:=Nat
end PySem.W.Fast
end
open PySem PySem.W PyProof.Rows
set_option maxRecDepth 100000 in
set_option maxHeartbeats 0 in
theorem PySem.Challenge.cw_farshelf_k26_voices_holds : PySem.Challenge.rw_farshelf_k26_voices.Holds := by
  w_on; o_law; k_head; (case hw => w_witness2)
  k_fill
  refine K26.walk (l := PySem.Challenge.rw_farshelf_k26_voices) rfl rfl (fun w h Y => W.km_in_of Y) rfl (c0 := 249) (P0 := 245) (fun w => by kernel_rfl) (fun w => by kernel_rfl) ?F
  case F =>
    intro w mg fa h KX G hmg
    refine' K26.all_mk KX G hmg (K26.np_mk _ _ _ _) (K26.np_mk _ _ _ _) (K26.np_mk _ _ _ _) (K26.np_mk _ _ _ _) (K26.np_mk _ _ _ _) (K26.np_mk _ _ _ _) (K26.np_mk _ _ _ _) (K26.np_mk _ _ _ _) (K26.np_mk _ _ _ _) (K26.np_mk _ _ _ _) (K26.np_mk _ _ _ _) (K26.np_mk _ _ _ _) (K26.np_mk _ _ _ _) (K26.np_mk _ _ _ _) (K26.np_mk _ _ _ _) (K26.np_mk _ _ _ _) (K26.np_mk _ _ _ _) (K26.np_mk _ _ _ _) (K26.np_mk _ _ _ _) (K26.np_mk _ _ _ _) (K26.np_mk _ _ _ _) (K26.np_mk _ _ _ _) (K26.np_mk _ _ _ _) (K26.np_mk _ _ _ _) (K26.np_mk _ _ _ _) (K26.np_mk _ _ _ _) (K26.np_mk _ _ _ _) _ _ _ _ _ _ _ _ _ _ _ _ _ _ _ _ _ _ _ _ (K26.nm_mk _ _ _ _ _) (K26.nm_mk _ _ _ _ _) (K26.nm_mk _ _ _ _ _) _ _ _ _ _ _ _ _ _ _ _ _ _ _ _ _ (by kernel_rfl)
    any_goals (first | k_is | (unfold K26.nA; k_is) | (unfold K26.nL; k_is) | (unfold K26.nC; k_is) | (unfold K26.nK; k_is) | (unfold K26.nZ; k_is) | (unfold K26.nF; k_is) | (unfold K26.nU; k_is) | kernel_rfl | exact ⟨_, rfl⟩ | exact Nat.le_of_ble_eq_true rfl | rfl | (show W.KeysLit _ _; k_keys))

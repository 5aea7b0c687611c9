import PyProof.Rows.All
import Wide.All
import OpenK.AllK
import Wide.FinOn
import Lean
import PyProof.EqAt
import PyProof.EqKinds
import PyProof.TupleCall
import PyProof.WalksEnum
import PyProof.EnumMake
import PyProof.Rows.EnumRows
import PyProof.NeData
import PyProof.ReprRoads
import PyProof.SumWalkG
import PyProof.StrLawsTight
import PyProof.Rows.StrNews
import PyProof.Rows.StrJoin2
import PyProof.Rows.CatFin
import PyProof.ConsumeWalk
import PyProof.StrWalks
import KE.KItemsList
import KE.KSortTup
import PyProof.ZipIter
import PyProof.ListRange
import PyProof.Rows.SeqMore
import KE.KDictLaws
import KE.KPairComp
import PyProof.Rows.SortStr
import KE.KEqDict
import KE.KIntText
import PyProof.Rows.StrJoinRep
import PyProof.Rows.StrClip
import PySem.Challenge.RW_farshelf_k57_sheets_read
open Array renaming length_toList->xc,mem_toList_iff->ax5
open Bool renaming false_ne_true->df,and_eq_true->kM,not_eq_true'->arF,eq_iff_iff->VZ,or_eq_true->ayg
open False renaming elim->pj
open ForInStep renaming yield->zq
open Function renaming comp_def->ayk
open Int renaming emod_nonneg->eG,emod_lt_of_pos->nW,toNat_natCast->V1,eq_ofNat_of_zero_le->ayd
open List renaming getElem?_append_left->aU,mem_cons->bL,getElem?_append_right->br,length_append->bo,append_assoc->b8,length_map->bb,map_append->cK,getElem?_map->bJ,length_set->bN,getElem?_eq_some_iff->cm,append_nil->bR,not_mem_nil->dh,length_cons->c8,mem_map->gY,replicate->ki,all_eq_true->gA,getElem?_set_ne->gq,mem_append->lZ,getElem?_set_self->gK,size_toArray->fM,mem_singleton->l5,map_cons->cP,getElem?_eq_getElem->dH,map_map->mJ,mem_append_right->kg,mem_cons_of_mem->nQ,cons_ne_nil->ll,mem_cons_self->xb,mem_of_getElem?->jr,length_singleton->pw,map_nil->jQ,lookup_cons->nR,append_cons->sM,length_replicate->zl,length_take->Ce,range->xm,nodup_cons->jP,set_append_left->uT,mem_range->sH,eq_nil_of_length_eq_zero->sN,filter_eq_self->uV,mem_append_left->qR,length_reverse->aoo,find?_cons->Cj,mem_replicate->aoq,take_of_length_le->aor,forIn_cons->FO,pairwise_cons->FQ,drop_eq_getElem_cons->Cr,drop_length->FR,replicate_succ->apl,length_drop->aik,forIn_nil->NO,getElem?_drop->aiE,mem_of_mem_take->arz,map_congr_left->Cs,set_append_right->arA,map_replicate->arC,mem_filter->Cc,filterMap_cons->zk,mem_filterMap->Vy,of_mem_zip->NJ,getElem?_replicate->NK,getElem?_take_of_lt->VE,any_cons->uR,getD->Cn,getElem_mem->Co,set_set->NW,drop_zero->V7,filter_cons_of_pos->at5,singleton_append->at6,map_id'->Wg,map_eq_nil_iff->aua,filter_append->aub,pairwise_singleton->N4,sum_cons->auc,any_eq_false->ax4,filterMap_map->aij,reverse_cons->ax6,zipIdx_cons->aiz,zipIdx_nil->aiA,zip_cons_cons->nV,getElem?_eq_none_iff->V2,cons_append->zr,take_append_drop->aiD,mem_of_mem_drop->aya,take_length->aiF,mem_or_eq_of_mem_set->aiM,flatMap_cons->ayf,mem_flatMap->ayh,take_left'->ayi,filterMap_append->ayl,drop_drop->aym
open List.cons renaming inj->aop
open Nat renaming le_refl->bO,le_trans->b7,le_of_ble_eq_true->cq,lt_of_lt_of_le->dI,ne_of_lt->dR,sub_self->kj,le_add_right->sJ,lt_irrefl->mI,zero_le->jO,ne_of_gt->xD,toDigits->OK,le_of_lt->nO,add_sub_cancel->Cq,add_sub_cancel_left->NX,min_eq_left->arE,le_succ->NI,lt_succ_of_lt->Ck,lt_or_ge->NV,sub_zero->at4,add_le_add_right->aud,lt_of_le_of_lt->zp,lt_succ_self->FN,succ_lt_succ->V4,succ_le_succ->aiJ,min_eq_right->aye
open Nat.succ renaming inj->dA
open Ne renaming symm->fw
open Option renaming bind_eq_some_iff->ak,map_eq_some_iff->aY,map->aX,bind_some->ax,map_some->jt,isSome_iff_exists->VD,getD_none->ain,isSome_map->VU,toList->ayj
open Option.some renaming inj->hV,injEq->aiH
open Or renaming inl->vp
open Prod renaming fst->VY
open Prod.mk renaming inj->ayb
open PyProof.Rows renaming boot_isinstance->uY,AllBare->wO,slot_tuple_getitem->uQ,boot_str->We,IntsAre->B6,callWith_type1->Ny,boot_tuple->Wf,assignInOrder_cons->U7,boot_list->uX,boot_min->at8,boot_dict->at9,entry_tuple_getitem->Vd,subscriptTail_builtinR->aib,boot_all->qV,boot_int->Cu
open PyProof.Rows.IsTup renaming new->Nw
open PySem renaming wpAny_bind->az,sizeLine->aM,starEach->dz,wpAny_pure->bF,NameKind->dQ,Spec->ie,mainGlobals->jN,wpAny_mono->ja,FuncData->kK,wpAny_field->kL,cellsFrom->nN,sysModules->qO,wpAny_truthy_bool->uK,assignEach->wR,wpAny_newObj_type->qP,codeAny->qQ,pushCells->wY,wpAny_seqItems->wZ,mem_of_lookup->xh,sliceBounds->zf,attributeBase->ahf,callerA->zg,valueAt->wX,bootBuiltins->B2,swapsWith->wQ,behindInMarks->B3,DictEntry->Nn,BindsTo->B4,wpAny_callSpecial?_slot->ze,wpAny_call_entry->wW,typeIs_str->aon,notedBy->B9,wpAny_setField_rec->Cb,wpAny_holding->uL,wpAny_rule->wU,wpAny_passesOwn->zd,backToKw->B7,keywordEach->B8,call_meets->apk,tupleKind->B1,builtinsNs->Nk,wpAny_standAt->U8,letOwnedTupleGo->Nm,pushCells_keeps->Nq,wpAny_getItem_str_slice->Nr,post_val_or_str->Nt,wpAny_onRaise->Nu,wpAny_pyIter_zip->arx,wpAny_pyIter_tuple->Vt,boot_len->Wc,intText?->arB,wpAny_execs_nil->Nl,foldedSetIterable->atW,sizeLine_eq->mG,codeAny_mono->B5,wpAny_Call_Name_kw->FJ,concat_meets->U9,wpAny_typeOf->Np,seqIndex_of->Vg,seqIndex_neg->Vh,tupleKind_room_in1->FK,newFunctionEnv->Vj,wpAny_pyIter_list->Vk,wpAny_updateSeq_pair->Vr,wpAny_letGo->Vs,call->VS,wpAny_comprehension_free->ax2,wpAny_letOwnedTupleGo_zip->ax3,KeyKind->aie
open PySem.Builtin.Slice renaming slicePlaces->zm,sliceAdjust->qa,sliceApplied->VI
open PySem.Builtin.SmallTypes renaming nextOf->sI,ownedTupleIsFree->NT,ownedTupleHandOut->aiB
open PySem.Builtin.Str renaming occurrences->Nz,glued->ahg,partsBetween->ax7,strKind->ax8
open PySem.Builtin.Tuple renaming tupleExact->Cg,tupleItemsOf->VJ
open PySem.Calls renaming Name_function_global->aii,callWith_builtin->Ci
open PySem.F renaming slot_tuple_iterator_next->NS,slot_zip_next->NU,slot_str_split->atX,entry_str_split->atY,args_str_split_2->atZ,plainAttrs_str->at7,slot_tuple_add->VF,entry_tuple_add->VG,args_tuple_add_2->VH,entry_tuple_iterator_next->aiv,args_tuple_iterator_next_1->aiw,args_zip_next_1->aiC,args_object_init_3->ax9,plainAttrs_list->Wd
open PySem.Heap renaming get?_push_of_some->cB,lt_size->da,get?_push_size->gc,size_push->p9,SameBut->Cd,get?_update_self->aim,get?_update_other->VN
open PySem.Heap.SameBut renaming update->aiy
open PySem.NameKind renaming cell->jR,free->qb
open PySem.Obj renaming mapSeq->zo,data_mapFields->aix
open PySem.Paired renaming length->Nv
open PySem.PassesOwn renaming never->sQ
open PySem.PyData renaming eqv->d9,strOk->eg,canLay0->sO,depth->sP,eqvAll->zu,canLayAll0->V8,depthAll->V9
open PySem.SeqAt.EqAt renaming int_str->aif,str_int->aih
open PySem.Shared renaming heap->at3
open PySem.Str renaming ofString->ae,empty->xf,length->VM
open PySem.StrLaws renaming glued_eq_join->ahh,join_split->ayc
open PySem.Txt renaming join->FP,split->d5,slice->xj,mul->qc,startswith->xP,slice_le->NP
open PySem.Value renaming ref->c7,none->jb,type->w9,bool->zj,int->w6,str->zi,isStrOf->aid
open PySem.W renaming Frag->ah,mg_none_of->jf,kia_one->qS,kia_tup->qU,mg_of->qW,fnOf->qT,kitOne->xg,kitx_list->ND,keepIn->uO,nsIn->uW,codeIn->Cf,kitx_dict->NF,kitAny->ary,KeysLit->FT,methodObj->Vx
open Sum renaming inr->cN,inl->zh
open True renaming intro->kh
set_option Elab.async false
set_option genSizeOf false
set_option compiler.extract_closed false
set_option linter.all false
set_option maxRecDepth 100000
noncomputable section
theorem aiR{p:Prop}[Decidable p](h:decide p=false:=by decide +kernel):p=False:=eq_false (of_decide_eq_false h)
namespace L2
open PySem PySem.Spec PyProof.Rows
noncomputable abbrev bc:=Sum Int Str
noncomputable def sR:bc->Value->Bool
 |.inl k,v=>Value.isInt k v
 |.inr x,v=>aid x v
noncomputable def Wl (w:World):bc->Int
 |.inl k=>hashInt k
 |.inr x=>hashStr w x
theorem mK:∀{k:bc} {v:Value},sR k v=true->(∃i t,k=zh i/\v=w6 i t)\/(∃x t,k=cN x/\v=zi x t)
 |.inl i,v,h=>by
  obtain⟨t,e⟩:=Value.isInt_shape (k:=i) (v:=v) h;exact .inl ⟨i,t,rfl,e⟩
 |.inr x,v,h=>by
  obtain⟨t,e⟩:=Value.isStrOf_shape (x:=x) (v:=v) h;exact .inr ⟨x,t,rfl,e⟩
theorem Wm(i:Int)(t:Tok):sR (.inl i) (.int i t)=true:=by simp[sR,Value.isInt]
theorem Wn(x:Str)(t:Tok):sR (.inr x) (.str x t)=true:=by simp[sR,aid]
theorem N5(a b:Int):decide ((zh a:bc)=zh b)=(a == b):=by
 by_cases e:a=b
 ·subst e;simp
 ·have h:¬ (zh a:bc)=zh b:=λq=>e (zh.inj q);rw[decide_eq_false h];exact(beq_eq_false_iff_ne.mpr e).symm
theorem N6(a b:Str):decide ((cN a:bc)=cN b)=decide (a=b):=by
 by_cases e:a=b
 ·subst e;simp
 ·have h:¬ (cN a:bc)=cN b:=λq=>e (cN.inj q);rw[decide_eq_false h,decide_eq_false e]
theorem Wo(a:Int)(b:Str):decide ((zh a:bc)=cN b)=false:=decide_eq_false (λq=>nomatch q)
theorem Wq(a:Str)(b:Int):decide ((cN a:bc)=zh b)=false:=decide_eq_false (λq=>nomatch q)
def gL(prog:Program)(w:World):aie prog w bc where
 is:=sR
 hash:=Wl w
 inj:=λv a b ha hb=>by
  rcases mK ha with⟨i,t,rfl,rfl⟩ | ⟨x,t,rfl,rfl⟩
  ·rcases mK hb with⟨j,u,rfl,e⟩ | ⟨y,u,rfl,e⟩
   ·injection e with e1 _;rw[e1]
   ·exact nomatch e
  ·rcases mK hb with⟨j,u,rfl,e⟩ | ⟨y,u,rfl,e⟩
   ·exact nomatch e
   ·injection e with e1 _;rw[e1]
 byValue:=λk v h=>by
  rcases mK h with⟨i,t,rfl,rfl⟩ | ⟨x,t,rfl,rfl⟩ <;> rfl
 pyHash:=λhv h=>by
  rcases mK hv with⟨i,t,rfl,rfl⟩ | ⟨x,t,rfl,rfl⟩
  ·exact wpAny_pyHash_int h
  ·exact wpAny_pyHash_str h
 eqBool:=λhu hv h=>by
  rcases mK hu with⟨i,t,rfl,rfl⟩ | ⟨x,t,rfl,rfl⟩
  ·rcases mK hv with⟨j,u,rfl,rfl⟩ | ⟨y,u,rfl,rfl⟩
   ·rw[N5]at h;exact wpAny_eqBool_int h
   ·rw[Wo]at h;exact aif i t y u _ _ _ _ h
  ·rcases mK hv with⟨j,u,rfl,rfl⟩ | ⟨y,u,rfl,rfl⟩
   ·rw[Wq]at h;exact aih x t j u _ _ _ _ h
   ·rw[N6]at h;exact wpAny_eqBool_str h
 «strs»:=λk x t v h=>by
  rcases mK h with⟨i,u,rfl,e⟩ | ⟨y,u,rfl,e⟩
  ·exact nomatch e
  ·injection e with e1 _
   subst e1;cases v <;> rfl
theorem FU(prog:Program)(w:World)(i:Int)(t:Tok):(gL prog w).is (.inl i) (.int i t)=true:=Wm i t
theorem FV(prog:Program)(w:World)(x:Str)(t:Tok):(gL prog w).is (.inr x) (.str x t)=true:=Wn x t
inductive V where
 |aG | bl (b:Bool) | int (i:Int) | str (x:Str) | uZ (b:Array UInt8) | kl (b:UInt64) | ref (a:Addr) | ty (n:String)
 deriving DecidableEq
def RelV:V->Value->Prop
 |.aG,u=>u=jb
 |.bl b,u=>u=zj b
 |.int i,u=>∃t,u=w6 i t
 |.str x,u=>∃t,u=zi x t
 |.uZ b,u=>∃t,u=Value.bytes b t
 |.kl b,u=>∃t,u=Value.float b t
 |.ref a,u=>u=c7 a
 |.ty n,u=>u=w9 n
abbrev bj:List V->List Value->Prop:=Paired RelV
theorem bj.length{xs:List V}{us:List Value}(r:bj xs us):xs.length=us.length:=Nv r
theorem bj.get:∀{xs:List V} {us:List Value} {i:Nat} {x:V},bj xs us->xs[i]?=some x->∃u,us[i]?=some u/\RelV x u
 |_,_,_,_, .nil,e=>by simp at e
 |_,_,0,_, .cons r _,e=>by simp at e;subst e;exact⟨_,rfl,r⟩
 |_,_,i + 1,x, .cons _ t,e=>by
  obtain⟨u,h1,h2⟩:=bj.get (i:=i) (x:=x) t (by simpa using e);exact⟨u,by simpa using h1,h2⟩
theorem bj.set(r:RelV x u):∀{xs:List V} {us:List Value} (i:Nat),bj xs us->bj (xs.set i x) (us.set i u)
 |_,_,_, .nil=> .nil
 |_,_,0, .cons _ t=> .cons r t
 |_,_,i + 1, .cons q t=> .cons q (bj.set r i t)
theorem bj.append:∀{xs ys:List V} {us ws:List Value},bj xs us->bj ys ws->bj (xs++ys) (us++ws)
 |_,_,_,_, .nil,s=>s
 |_,_,_,_, .cons r t,s=> .cons r (bj.append t s)
theorem bj.take:∀{xs:List V} {us:List Value} (n:Nat),bj xs us->bj (xs.take n) (us.take n)
 |_,_,0,_=> .nil
 |_,_,_ + 1, .nil=> .nil
 |_,_,n + 1, .cons r t=> .cons r (bj.take n t)
theorem bj.drop:∀{xs:List V} {us:List Value} (n:Nat),bj xs us->bj (xs.drop n) (us.drop n)
 |_,_,0,r=>r
 |_,_,_ + 1, .nil=> .nil
 |_,_,n + 1, .cons _ t=>bj.drop n t
def n5:Option V->Option Value->Prop
 |some v,some u=>RelV v u
 |none,none=>True
 |_,_=>False
def KV{κ:Type}:List (κ×V)->List (κ×Value)->Prop:=Paired λ(p:κ×V) (q:κ×Value)=>p.1=q.1/\RelV p.2 q.2
noncomputable def kV:bc->V
 |.inl i=> .int i
 |.inr x=> .str x
inductive HO where
  |lst (xs:List V)
  |tup (xs:List V)
  |dK (ai:List (bc×V)) | dT (ai:List (List bc×V))
  |set (S:Int->Bool) (n:Nat)
  |ins (C dx:Addr) (fs:List (Str×V))
  |own (x:Addr)
  |xd (fs:List (Str×V))
  |met (f x:Addr)
  |FW (lo hi:Int)
  |b9 (o:Obj) (u:HO)
  |yd (ps:Array Value)
  |ext (φ:Heap->Prop)
noncomputable abbrev Hp:=Addr->Option HO
noncomputable def cf (H:Hp) (a:Addr) (o:HO):Hp:=λb=>if b=a then some o else H b
theorem de:cf H a o a=some o:=by unfold cf;rw[if_pos rfl]
theorem ba{H:Hp}(h:b≠a):cf H a o b=H b:=by unfold cf;rw[if_neg h]
theorem gM{H:Hp}(h:H a=some o)(h':H b=none):a≠b:=by
 intro e;subst e;rw[h]at h';cases h'
section
variable (P:Program)(w:World)
def gr(H:Hp)(h:Heap)(a:Addr):HO->Prop
 |.lst xs=>xs.length<=aM/\∃(its:List Value) (n:Nat),bj xs its/\h.get? a=some { cls:= .type "list",data:= .seq its.toArray n }
 |.tup xs=>xs.length<=aM/\∃its:List Value,bj xs its/\IsTup h a its.toArray
 |.dK ai=>ai.length<=aM/\(a == qO)=false/\∃vs,KV ai vs/\h.DictOf (gL P w) a vs
 |.dT ai=>ai.length<=aM/\(a == qO)=false/\∃xs:List (List bc×Addr×Value),
   Paired (λ(p:List bc×V) (q:List bc×Addr×Value)=>p.1=q.1/\H q.2.1=some (.tup (p.1.map kV))/\RelV p.2 q.2.2) ai xs/\
   ∃o es ep,h.get? a=some o/\o.ExactDict/\o.data= .dict es ep/\es.toList=xs.map (entryOfKey (B1 (gL P w)))/\(xs.map (·.1)).Nodup
 |.set S n=>h.SetOf (intKind P w) a S n
 |.ins C dx fs=>H dx=some (.own a)/\fs.length<=1000/\dx≠a/\h.get? a=some (W.instObj C dx)/\
   ∃mA,h.Ns1 dx mA/\(∀f,n5 (fs.lookup f) (mA f))/\PySem.Within mA (fs.map (·.1))
 |.own _=>∃o,h.get? a=some o
 |.xd fs=>∃mA,h.Ns1 a mA/\∀f,n5 (fs.lookup f) (mA f)
 |.FW lo hi=>∃t u v,h.get? a=some { cls:= .type "range",data:= .fields #[.int lo t, .int hi u, .int 1 v] }
 |.b9 o u=>h.get? a=some o/\gr H h a u
 |.yd ps=>h.get? a=some { cls:= .none,data:= .fields ps }
 |.met f x=>h.get? a=some (Vx (.ref f) (.ref x))
 |.ext φ=>φ h/\(∃o,h.get? a=some o)/\∀h1 h2:Heap,φ h1->(∀o,h1.get? a=some o->h2.get? a=some o)->φ h2
def gB(H:Hp)(h:Heap):Prop:=∀a o,H a=some o->gr P w H h a o
end
section
variable {P:Program}{w:World}{H H':Hp}{h h':Heap}{a:Addr}{o:HO}
theorem gr.lt(x:gr P w H h a o):a < h.objs.size:=by
 cases o with
 |lst xs=>obtain⟨_,_,_,_,e⟩:=x;exact da e
 |tup xs=>obtain⟨_,_,_,p⟩:=x;exact p.lt
 |dK ai=>obtain⟨_,_,_,_,o,_,_,e,_⟩:=x;exact da e
 |dT ai=>obtain⟨_,_,_,_,o,_,_,e,_⟩:=x;exact da e
 |set S n=>obtain⟨o,_,_,_,e,_⟩:=x;exact da e
 |ins C dx fs=>obtain⟨_,_,_,e,_⟩:=x;exact da e
 |own y=>obtain⟨_,e⟩:=x;exact da e
 |xd fs=>obtain⟨_,⟨_,_,_,e,_⟩,_⟩:=x;exact da e
 |FW lo hi=>obtain⟨_,_,_,e⟩:=x;exact da e
 |b9 ob u=>obtain⟨e,_⟩:=x;exact da e
 |yd ps=>exact da (show h.get? a=some _ from x)
 |met f y=>exact da (show h.get? a=some _ from x)
 |ext φ=>obtain⟨_,⟨_,e⟩,_⟩:=x;exact da e
theorem Paired.FX{α β:Type}{F G:α->β->Prop}:∀{l₁:List α} {l₂:List β},Paired F l₁ l₂->(∀a b,F a b->G a b)->Paired G l₁ l₂
 |_,_, .nil,_=> .nil
 |_,_, .cons r t,f=> .cons (f _ _ r) (Paired.FX t f)
theorem gr.gO(x:gr P w H h a o)(k:∀b u,(b=a\/H b=some (.own a))->h.get? b=some u->h'.get? b=some u)
  (ho:∀b,H b=some (.own a)->H' b=some (.own a)) (ht:∀b xs,H b=some (.tup xs)->H' b=some (.tup xs)):gr P w H' h' a o:=by
 induction o with
 |lst xs=>obtain⟨z,its,n,r,e⟩:=x;exact⟨z,its,n,r,k _ _ (.inl rfl) e⟩
 |tup xs=>obtain⟨z,its,r,ob,e,c⟩:=x;exact⟨z,its,r,ob,k _ _ (.inl rfl) e,c⟩
 |dK ai=>obtain⟨z,y,vs,r,ob,es,ep,e,c⟩:=x;exact⟨z,y,vs,r,ob,es,ep,k _ _ (.inl rfl) e,c⟩
 |dT ai=>
  obtain⟨z,y,xs,r,ob,es,ep,e,c⟩:=x;exact⟨z,y,xs,Paired.FX r λp q z=>⟨z.1,ht _ _ z.2.1,z.2.2⟩,ob,es,ep,k _ _ (.inl rfl) e,c⟩
 |set S n=>obtain⟨ob,es,ep,t,e,c⟩:=x;exact⟨ob,es,ep,t,k _ _ (.inl rfl) e,c⟩
 |ins C dx fs=>
  obtain⟨d,z,ne,e,mA,⟨od,es,ep,e2,c⟩,r⟩:=x;exact⟨ho _ d,z,ne,k _ _ (.inl rfl) e,mA,⟨od,es,ep,k _ _ (.inr d) e2,c⟩,r⟩
 |own y=>obtain⟨ob,e⟩:=x;exact⟨ob,k _ _ (.inl rfl) e⟩
 |xd fs=>obtain⟨mA,⟨od,es,ep,e,c⟩,r⟩:=x;exact⟨mA,⟨od,es,ep,k _ _ (.inl rfl) e,c⟩,r⟩
 |FW lo hi=>obtain⟨t,u,v,e⟩:=x;exact⟨t,u,v,k _ _ (.inl rfl) e⟩
 |b9 ob u ih=>obtain⟨e,q⟩:=x;exact⟨k _ _ (.inl rfl) e,ih q⟩
 |yd ps=>
  have e:h.get? a=some { cls:= .none,data:= .fields ps }:=x;show h'.get? a=some { cls:= .none,data:= .fields ps };exact k a _ (.inl rfl) e
 |met f y=>
  have e:h.get? a=some (Vx (.ref f) (.ref y)):=x;show h'.get? a=some (Vx (.ref f) (.ref y));exact k a _ (.inl rfl) e
 |ext φ=>obtain⟨p,⟨o,e⟩,st⟩:=x;exact⟨st _ _ p λo q=>k _ _ (.inl rfl) q,⟨o,k _ _ (.inl rfl) e⟩,st⟩
theorem gB.lt(x:gB P w H h)(e:H a=some o):a < h.objs.size:=(x a o e).lt
theorem gB.fresh(x:gB P w H h)(e:h.objs.size<=a):H a=none:=by
 cases q:H a with
 |none=>rfl
 |some u=>exact absurd (dI (x.lt q) e) (mI _)
theorem gB.kept(x:gB P w H h)(k:∀b u,h.get? b=some u->h'.get? b=some u):gB P w H h':=λa o e=>
 (x a o e).gO (λb u _ q=>k b u q) (λ_ q=>q) λ_ _ q=>q
theorem gB.laid(x:gB P w H h)(k:∀b u,h.get? b=some u->h'.get? b=some u)(hp:h.objs.size<=a)(new:gr P w (cf H a o) h' a o):gB P w (cf H a o) h':=λb u e=>by
 have hn:=x.fresh hp;by_cases hb:b=a
 ·subst hb;rw[de]at e;cases e;exact new
 ·rw[ba hb]at e;exact(x b u e).gO (λc v _ q=>k c v q) (λc q=>by rw[ba (gM q hn)];exact q) λc xs q=>by rw[ba (gM q hn)];exact q
end
def Rd(H:Hp)(a:Addr)(u:HO):Prop:=H a=some u\/∃o,H a=some (.b9 o u)
theorem Rd.ok{P:Program}{w:World}{H:Hp}{h:Heap}{a:Addr}(r:Rd H a u)(x:gB P w H h):gr P w H h a u:=by
 rcases r with r | ⟨o,r⟩
 ·exact x a u r
 ·obtain⟨_,q⟩:=x a _ r;exact q
def iB:Option HO->Prop
 |some (.lst _)=>True
 |some (.dK _)=>True
 |some (.dT _)=>True
 |some (.set _ _)=>True
 |some (.ins _ _ _)=>True
 |some (.ext _)=>True
 |_=>False
section
variable {P:Program}{w:World}{H:Hp}{h h':Heap}{x e:Addr}
theorem gB.write(ok:gB P w H h)(mu:iB (H x))(he:e=x\/H e=some (.own x))(k:∀b u,b≠e->h.get? b=some u->h'.get? b=some u)(xn:∃u,h'.get? e=some u)
  (new:gr P w (cf H x o') h' x o'):gB P w (cf H x o') h':=λb u q=>by
 have N7:∀c y,H c=some (.own y)->c≠x:=λc y r z=>by subst z;rw[r]at mu;exact mu
 have Ws:∀c xs,H c=some (.tup xs)->c≠x:=λc xs r z=>by subst z;rw[r]at mu;exact mu
 by_cases hb:b=x
 ·subst hb;rw[de]at q;cases q;exact new
 ·rw[ba hb]at q;by_cases yv:b=e
  ·have q':H b=some (.own x):=by
    rcases he with z | z
    ·exact absurd (yv.trans z) hb
    ·rw[yv];exact z
   rw[q]at q';cases q';obtain⟨v,hv⟩:=xn;exact⟨v,by rw[yv];exact hv⟩
  ·refine(ok b u q).gO (λc v hc r=>k c v ?_ r) (λc r=>by rw[ba (N7 c b r)];exact r) λc xs r=>by rw[ba (Ws c xs r)];exact r
   rcases hc with rfl | hc
   ·exact yv
   ·rintro rfl;rcases he with z | z
    ·exact N7 c b hc z
    ·rw[hc]at z;cases z;exact hb rfl
end
structure Un(fs ex:List Addr)(H H':Hp)(h h':Heap):Prop where
 keep:∀b o,h.get? b=some o->H b=none->b∉fs->b∉ex->h'.get? b=some o
 slot:∀b o,h.get? b=some o->H b=none->b∈fs->b∉ex->∃sl,h'.get? b=some { o with slots:=sl }
 free:∀b o,h.get? b=some o->H b=none->b∉ex->H' b=none
 there:∀b o,h.get? b=some o->b∉ex->∃o',h'.get? b=some o'
 mL:∀b xs,H b=some (.tup xs)->H' b=some (.tup xs)
 l7:∀b o u,H b=some (.b9 o u)->H' b=some (.b9 o u)
 qd:∀b ps,H b=some (.yd ps)->∃more,H' b=some (.yd (ps++more))
section
variable {fs zw ex aiS:List Addr}{H H1 H2:Hp}{h h1 h2 h':Heap}{a x e:Addr}{o:HO}
theorem Un.any(u:Un fs ex H H1 h h1){ob:Obj}(q:h.get? b=some ob)(n:H b=none)(hx:b∉ex):∃sl,h1.get? b=some { ob with slots:=sl }:=by
 by_cases hb:b∈fs
 ·exact u.slot b ob q n hb hx
 ·exact⟨ob.slots,u.keep b ob q n hb hx⟩
theorem Un.kept(k:∀b u,h.get? b=some u->h'.get? b=some u):Un fs ex H H h h':=
 ⟨λb ob q _ _ _=>k b ob q,λb ob q _ _ _=>⟨ob.slots,k b ob q⟩,λ_ _ _ n _=>n,λb ob q _=>⟨ob,k b ob q⟩,λ_ _ q=>q,λ_ _ _ q=>q,λ_ ps q=>⟨#[],by rw[q];simp⟩⟩
theorem Un.refl:Un fs ex H H h h:=Un.kept λ_ _ q=>q
theorem Un.laid(k:∀b u,h.get? b=some u->h'.get? b=some u)(hp:h.objs.size<=a)(hn:H a=none):Un fs ex H (cf H a o) h h' where
 keep:=λb u q _ _ _=>k b u q
 slot:=λb u q _ _ _=>⟨u.slots,k b u q⟩
 free:=λb u q n _=>by rw[ba (dR (dI (da q) hp))];exact n
 there:=λb u q _=>⟨u,k b u q⟩
 mL:=λb xs q=>by rw[ba (gM q hn)];exact q
 l7:=λb u xs q=>by rw[ba (gM q hn)];exact q
 qd:=λb ps q=>⟨#[],by rw[ba (gM q hn),q];simp⟩
theorem Un.write(mu:iB (H x))(he:e=x\/H e=some (.own x))(k:∀b u,b≠e->h.get? b=some u->h'.get? b=some u)(xn:∃u,h'.get? e=some u):Un fs ex H (cf H x o) h h':=by
 have hx:∀b,H b=none->b≠x:=λb n z=>by subst z;rw[n]at mu;exact mu
 have hb:∀b,H b=none->b≠e:=λb n z=>by
  subst z;rcases he with r | r
  ·exact hx b n r
  ·rw[n]at r;cases r
 have hm:∀b u,H b=some u->¬ iB (some u)->b≠x:=λb u q nm z=>by subst z;rw[q]at mu;exact nm mu
 refine⟨λb u q n _ _=>k b u (hb b n) q,λb u q n _ _=>⟨u.slots,k b u (hb b n) q⟩,λb u q n _=>by rw[ba (hx b n)];exact n,λb u q _=> ?_,
  λb xs q=>by rw[ba (hm b _ q λz=>z)];exact q,λb u xs q=>by rw[ba (hm b _ q λz=>z)];exact q,λb ps q=>⟨#[],by rw[ba (hm b _ q λz=>z),q];simp⟩⟩
 by_cases yv:b=e
 ·subst yv;exact xn
 ·exact⟨u,k b u yv q⟩
end
noncomputable def xo (h:Heap) (H:Hp):List Addr:=(xm h.objs.size).filter λa=>(H a).isSome
def qX(h:Heap)(H:Hp):Heap:=W.hideAll h (xo h H)
theorem Wt(h:Heap)(H:Hp):(qX h H).objs.size=h.objs.size:=W.hideAll_size _ _
theorem Wu{h:Heap}{H:Hp}{o:Obj}(e:h.get? b=some o)(n:H b=none):(qX h H).get? b=some o:=
 W.hideAll_get _ e λhm=>by
  have q:(H b).isSome=true:=(Cc.mp hm).2;rw[n]at q;simp at q
theorem Wv{h:Heap}{H:Hp}{o:Obj}(e:(qX h H).get? b=some o):h.get? b=some o/\H b=none:=by
 have e':h.get? b=some o:=W.of_hideAll (xo h H) e;refine⟨e', ?_⟩;cases q:H b with
 |none=>rfl
 |some x=>
  have hm:b∈xo h H:=Cc.mpr ⟨sH.mpr (da e'),by simp[q]⟩;have z:(qX h H).get? b=none:=W.hideAll_none (xo h H) hm;rw[z]at e;cases e
structure Mod(K:ah)(mg:Str->Option Value)(base:Heap):Prop where
 Cw:K.In base
 glob:base.Ns jN mg
 blt:∃mb,base.Ns Nk mb/\∀x:Str,x≠"__name__"->mb x=B2 x
 nolimit:base.NoLimit
structure Cx where
 prog:Program
 w:World
 K:ah
 mg:Str->Option Value
 base:Heap
 A:Around
 N:List Str
 gT:Shared
 sS:Hp
 env:Env
 outer:List Env
 stack:List Env
 ex:List Addr
 fn:Str->Bool
 calm:Bool
 pn:List (Addr×Obj)
 xe:Value->Shared->Prop
noncomputable def l3 (l:List Env):List Addr:=l.filterMap (·.frame)
abbrev Cx.fs(X:Cx):List Addr:=l3 X.outer
def FY(sc:Scope)(x:Str):Prop:=sc.names.lookup x=some .local\/sc.names.lookup x=some .cell\/sc.names.lookup x=some .free
def Loc(sc:Scope)(x:Str):Prop:=sc.names.lookup x=some .local\/sc.names.lookup x=some .cell
def Look(env:Env)(h:Heap)(m:Str->Option Value)(x:Str)(u:Value):Prop:=
 (env.kindOf x=some .local/\m x=some u)\/((env.kindOf x=some .cell\/env.kindOf x=some .free)/\∃c,env.cells.lookup x=some c/\h.IsCell c (some u))
structure Cx.Ok(X:Cx):Prop where
 mod:Mod X.K X.mg X.base
 kind:X.env.scope.kind= .function
 glob:X.env.globals=jN
 blt:X.env.builtins=Nk
 above:X.gT.heap.objs.size<=X.env.locals
 inj:∀x y c,X.env.cells.lookup x=some c->X.env.cells.lookup y=some c->x=y
 has:∀x,(X.env.kindOf x=some .cell\/X.env.kindOf x=some .free)->∃c,X.env.cells.lookup x=some c
 zA:∀x c,X.fn x=true->X.env.cells.lookup x=some c->X.gT.heap.objs.size<=c
 hd:X.calm=true->X.A.handled=none
 frames:X.A.frames=some X.stack
 u9:X.stack=X.outer\/(X.stack=X.env::X.outer/\X.env.frame=some X.env.locals)
 N8:∀b∈X.ex,b≠X.env.locals/\∀x c,X.env.cells.lookup x=some c->c≠b
 bs:∀b o,X.base.get? b=some o->X.gT.heap.get? b=some o/\X.sS b=none
 qe:X.base.objs.size<=X.gT.heap.objs.size
 zB:∀b o,X.base.get? b=some o->b∉X.ex
 Cy:∀b∈X.ex,b∉X.fs
 nX:X.gT.heap.FunFrames X.base X.outer
 vc:∀b∈X.fs,X.sS b=none
structure Inv(X:Cx)(ab:List (Addr×Obj))(σ:List (Option V))(H:Hp)(s:Shared):Prop where
 ok:X.Ok
 os:s.os=X.gT.os
 bare:wO s.gens
 base:Un X.fs X.ex X.sS H X.gT.heap s.heap
 loc:∃m,s.heap.Ns X.env.locals m/\∀(i:Nat) (x:Str) (v:V),X.N[i]?=some x->σ[i]?=some (some v)->FY X.env.scope x->∃u,RelV v u/\Look X.env s.heap m x u
 cell:∀x c,X.env.cells.lookup x=some c->∃v,s.heap.IsCell c v
 free:H X.env.locals=none
 nY:∀x c,X.env.cells.lookup x=some c->H c=none
 pin:∀p∈X.pn++ab,s.heap.get? p.1=some p.2/\H p.1=none/\p.1≠X.env.locals/\p.1∉X.fs/\∀v,p.2.data≠ .cell v
 aQ:gB X.prog X.w H s.heap
 len:σ.length=X.N.length
section
variable {X:Cx}{ab:List (Addr×Obj)}{σ:List (Option V)}{H H':Hp}{s:Shared}
theorem Cx.Ok.Ww(ok:X.Ok){o:Obj}(e:X.base.get? b=some o):b∉X.fs:=λhb=>by
 have:=(ok.nX.mem hb).1;rw[e]at this;cases this
theorem Inv.bs(I:Inv X ab σ H s):∀b o,X.base.get? b=some o->s.heap.get? b=some o/\H b=none:=λb o e=>
 ⟨I.base.keep b o (I.ok.bs b o e).1 (I.ok.bs b o e).2 (I.ok.Ww e) (I.ok.zB b o e),I.base.free b o (I.ok.bs b o e).1 (I.ok.bs b o e).2 (I.ok.zB b o e)⟩
theorem Inv.bk(I:Inv X ab σ H s):∀b o,X.base.get? b=some o->s.heap.get? b=some o:=λb o e=>(I.bs b o e).1
theorem Inv.mod(I:Inv X ab σ H s):Mod X.K X.mg X.base:=I.ok.mod
theorem Inv.fN(I:Inv X ab σ H s):X.K.In s.heap:=I.ok.mod.Cw.keeps I.bk
theorem Inv.lt(I:Inv X ab σ H s):X.env.locals < s.heap.objs.size:=let ⟨_,hn,_⟩:=I.loc;hn.lt
theorem Inv.sz(I:Inv X ab σ H s):X.gT.heap.objs.size<=s.heap.objs.size:=b7 I.ok.above (nO I.lt)
theorem Inv.FZ(I:Inv X ab σ H s){a:Addr}(h:s.heap.objs.size<=a):a∉X.fs:=λhb=>by
 obtain⟨_,o,ho,_⟩:=I.ok.nX.mem hb;exact absurd (dI (da ho) (b7 I.sz h)) (mI _)
theorem Inv.vd(I:Inv X ab σ H s):∀x c,X.env.cells.lookup x=some c->c≠X.env.locals:=λx c e z=>by
 obtain⟨v,o,ho,hd⟩:=I.cell x c e;obtain⟨m,⟨o',es,ep,jS,ahi,_⟩,_⟩:=I.loc;rw[z,jS]at ho;cases ho;rw[ahi]at hd;cases hd
theorem Inv.nX(I:Inv X ab σ H s):s.heap.FunFrames X.base X.outer:=by
 have all:∀(l:List Env),(∀b∈l3 l,b∈X.fs)->X.gT.heap.FunFrames X.base l->s.heap.FunFrames X.base l:=by
  intro l
  induction l with
  |nil=>intro _ _;trivial
  |cons env r ih=>
   intro hs hl;obtain⟨hk,⟨L,o,hf,hn,ho,hd⟩,hr⟩:=hl;have hL:L∈X.fs:=hs L (by unfold l3;rw[zk,hf];exact xb);obtain⟨sl,e⟩:=I.base.slot L o ho (I.ok.vc L hL) hL λz=>I.ok.Cy L z hL;exact⟨hk,⟨L,_,hf,hn,e,hd⟩,ih (λb hb=>hs b (by unfold l3;rw[zk,hf];exact nQ _ hb)) hr⟩
 exact all X.outer (λ_ hb=>hb) I.ok.nX
theorem Inv.stack(I:Inv X ab σ H s):s.heap.FunFrames X.base X.stack:=by
 rcases I.ok.u9 with e | ⟨e,hf⟩
 ·rw[e];exact I.nX
 ·rw[e];obtain⟨m,hn,_⟩:=I.loc;refine .cons (by rw[I.ok.kind];decide) hf hn ?_ I.nX;exact Heap.get?_none_of_le (b7 I.ok.qe I.ok.above)
theorem Inv.zC(I:Inv X ab σ H s):∀b∈l3 X.stack,b∈X.env.locals::X.fs:=λb hb=>by
 rcases I.ok.u9 with e | ⟨e,hf⟩
 ·rw[e]at hb;exact nQ _ hb
 ·rw[e]at hb;unfold l3 at hb;rw[zk,hf]at hb;exact hb
theorem Inv.N9(I:Inv X ab σ H s):∀b∈l3 X.stack,H b=none:=λb hb=>by
 rcases bL.mp (I.zC b hb) with e | hb
 ·rw[e];exact I.free
 ·obtain⟨_,o,ho,_⟩:=I.ok.nX.mem hb;exact I.base.free b o ho (I.ok.vc b hb) λz=>I.ok.Cy b z hb
theorem Inv.step{g':Array GenState}{t':Nat}{d':Drawn}{ch:List Addr}(I:Inv X ab σ H s)
  (sT:∀b∈ch,(b∈X.ex\/X.gT.heap.objs.size<=b)/\b≠X.env.locals/\(∀x c,X.env.cells.lookup x=some c->c≠b)/\∀p∈X.pn++ab,p.1≠b)
  (keep:∀b o,b≠X.env.locals->b∉X.fs->b∉ch->s.heap.get? b=some o->H b=none->h'.get? b=some o)
  (slot:∀b o,b≠X.env.locals->b∈X.fs->b∉ch->s.heap.get? b=some o->H b=none->∃sl,h'.get? b=some { o with slots:=sl }) (free:∀b o,b∉ch->s.heap.get? b=some o->H b=none->H' b=none)
  (there:∀b o,b∉ch->s.heap.get? b=some o->∃o',h'.get? b=some o')
  (mL:∀b xs,H b=some (.tup xs)->H' b=some (.tup xs)) (l7:∀b o u,H b=some (.b9 o u)->H' b=some (.b9 o u)) (qd:∀b ps,H b=some (.yd ps)->∃more,H' b=some (.yd (ps++more)))
  (ns:∀m,s.heap.Ns X.env.locals m->h'.Ns X.env.locals m) (aQ:gB X.prog X.w H' h') (hg:wO g'):
  Inv X ab σ H' { s with heap:=h',gens:=g',drawn:=d',toks:=t' }:=by
 have Oa:∀b o,X.gT.heap.get? b=some o->b≠X.env.locals:=λb o e=>dR (dI (da e) I.ok.above);have Cz:∀b o,X.gT.heap.get? b=some o->b∉X.ex->b∉ch:=λb o e hx hb=>by
  rcases(sT b hb).1 with z | z
  ·exact hx z
  ·exact absurd (dI (da e) z) (mI _)
 have cellK:∀x c,X.env.cells.lookup x=some c->∀v,s.heap.IsCell c v->h'.IsCell c v:=λx c e v ⟨o,ho,hd⟩=>by
  have fv:c∉ch:=λz=>(sT c z).2.2.1 x c e rfl;by_cases hc:c∈X.fs
  ·obtain⟨sl,q⟩:=slot c o (I.vd x c e) hc fv ho (I.nY x c e);exact⟨_,q,hd⟩
  ·exact⟨o,keep c o (I.vd x c e) hc fv ho (I.nY x c e),hd⟩
 refine⟨I.ok,I.os,hg,⟨λb o e n hb hx=> ?_,λb o e n hb hx=> ?_,λb o e n hx=> ?_,λb o e hx=> ?_,λb xs e=>mL b xs (I.base.mL b xs e),λb o xs e=>l7 b o xs (I.base.l7 b o xs e),λb ps e=> ?_⟩, ?_,λx c e=> ?_, ?_,λx c e=> ?_,λp hp=> ?_,aQ,I.len⟩
 ·exact keep b o (Oa b o e) hb (Cz b o e hx) (I.base.keep b o e n hb hx) (I.base.free b o e n hx)
 ·obtain⟨sl,e1⟩:=I.base.slot b o e n hb hx;obtain⟨F0,e2⟩:=slot b _ (Oa b o e) hb (Cz b o e hx) e1 (I.base.free b o e n hx);exact⟨F0,e2⟩
 ·obtain⟨o',e1⟩:=I.base.there b o e hx;exact free b o' (Cz b o e hx) e1 (I.base.free b o e n hx)
 ·obtain⟨o',e1⟩:=I.base.there b o e hx;exact there b o' (Cz b o e hx) e1
 ·obtain⟨m1,e1⟩:=I.base.qd b ps e;obtain⟨m2,e2⟩:=qd b _ e1;exact⟨m1++m2,by rw[e2,Array.append_assoc]⟩
 ·obtain⟨m,hn,hl⟩:=I.loc;refine⟨m,ns m hn,λi x v e1 e2 e3=> ?_⟩;obtain⟨u,r,l⟩:=hl i x v e1 e2 e3;refine⟨u,r, ?_⟩;rcases l with l | ⟨k,c,e,z⟩
  ·exact .inl l
  ·exact .inr ⟨k,c,e,cellK x c e _ z⟩
 ·obtain⟨v,z⟩:=I.cell x c e;exact⟨v,cellK x c e v z⟩
 ·obtain⟨m,⟨o,_,_,ho,_⟩,_⟩:=I.loc;exact free _ o (λz=>(sT _ z).2.1 rfl) ho I.free
 ·obtain⟨v,o,ho,hd⟩:=I.cell x c e;exact free c o (λz=>(sT c z).2.2.1 x c e rfl) ho (I.nY x c e)
 ·obtain⟨e,n,ne,nf,d⟩:=I.pin p hp;have fv:p.1∉ch:=λz=>(sT p.1 z).2.2.2 p hp rfl;exact⟨keep p.1 p.2 ne nf fv e n,free p.1 p.2 fv e n,ne,nf,d⟩
theorem Inv.un{t':Nat}(I:Inv X ab σ H s)(u:Un X.fs [] H H' s.heap h')(aQ:gB X.prog X.w H' h'):Inv X ab σ H' { s with heap:=h',toks:=t' }:=by
 obtain⟨m,⟨o,es,ep,ho,r⟩,_⟩:=id I.loc;obtain⟨sl,hL⟩:=u.any ho I.free (by simp);exact I.step (g':=s.gens) (d':=s.drawn) (ch:= []) (λ_ z=>nomatch z) (λb o _ hb _ e n=>u.keep b o e n hb (by simp)) (λb o _ hb _ e n=>u.slot b o e n hb (by simp)) (λb o _ e n=>u.free b o e n (by simp)) (λb o _ e=>u.there b o e (by simp)) u.mL u.l7 u.qd (λm' hm=>by
  obtain⟨o',sU,CA,jS,r'⟩:=hm;rw[ho]at jS;cases jS;exact⟨_,sU,CA,hL,r'⟩) aQ I.bare
theorem Inv.call{t':Nat}{d':Drawn}(I:Inv X ab σ H s)(u:Un (l3 X.stack) ch H H' s.heap h')(aQ:gB X.prog X.w H' h')(hg:wO g')
  (sT:∀b∈ch,(b∈X.ex\/X.gT.heap.objs.size<=b)/\b≠X.env.locals/\(∀x c,X.env.cells.lookup x=some c->c≠b)/\∀p∈X.pn++ab,p.1≠b):
  Inv X ab σ H' { s with heap:=h',gens:=g',drawn:=d',toks:=t' }:=by
 obtain⟨m,⟨o,es,ep,ho,r⟩,_⟩:=id I.loc;obtain⟨sl,hL⟩:=u.any ho I.free λz=>(sT _ z).2.1 rfl;exact I.step (ch:=ch) sT (λb o hL hb hc e n=>u.keep b o e n (λz=>(bL.mp (I.zC b z)).elim hL hb) hc) (λb o _ _ hc e n=>u.any e n hc) (λb o hc e n=>u.free b o e n hc) (λb o hc e=>u.there b o e hc) u.mL u.l7 u.qd (λm' hm=>by
  obtain⟨o',sU,CA,jS,r'⟩:=hm;rw[ho]at jS;cases jS;exact⟨_,sU,CA,hL,r'⟩) aQ hg
theorem Inv.turned{t':Nat}(I:Inv X ab σ H s)(k:∀b o,b≠it->s.heap.get? b=some o->h'.get? b=some o)(hn:H it=none)(hL:it≠X.env.locals)
  (h1:it∈X.ex\/X.gT.heap.objs.size<=it) (h2:∀x c,X.env.cells.lookup x=some c->c≠it) (h3:∀p∈X.pn++ab,p.1≠it):Inv X ab σ H { s with heap:=h',toks:=t' }:=by
 have Ob:∀b u,H b=some u->b≠it:=λb u e z=>by rw[z,hn]at e;cases e
 refine I.step (g':=s.gens) (d':=s.drawn) (ch:= [it]) (λb hb=> ?_) (λb o _ _ hc e _=>k b o (λz=>hc (by simp[z])) e) (λb o _ _ hc e _=>⟨o.slots,k b o (λz=>hc (by simp[z])) e⟩) (λ_ _ _ _ n=>n)
  (λb o hc e=>⟨o,k b o (λz=>hc (by simp[z])) e⟩) (λ_ _ e=>e) (λ_ _ _ e=>e) (λb ps e=>⟨#[],by rw[e];simp⟩) (λm hm=> ?_) (λb u e=> ?_) I.bare
 ·have e:b=it:=by simpa using hb
  subst e;exact⟨h1,hL,h2,h3⟩
 ·obtain⟨o,es,ep,ho,r⟩:=hm;exact⟨o,es,ep,k _ o (fw hL) ho,r⟩
 ·refine(I.aQ b u e).gO (λc v hc q=>k c v ?_ q) (λ_ q=>q) λ_ _ q=>q;rcases hc with z | z
  ·rw[z];exact Ob b u e
  ·exact Ob c _ z
theorem Inv.tok(I:Inv X ab σ H s)(t:Nat):Inv X ab σ H { s with toks:=t }:=I.un (h':=s.heap) (t':=t) Un.refl I.aQ
theorem Inv.kept{t':Nat}(I:Inv X ab σ H s)(k:∀b u,s.heap.get? b=some u->h'.get? b=some u):Inv X ab σ H { s with heap:=h',toks:=t' }:=I.un (Un.kept k) (I.aQ.kept k)
theorem Inv.laid{a:Addr}{o:HO}{t':Nat}(I:Inv X ab σ H s)(k:∀b u,s.heap.get? b=some u->h'.get? b=some u)(hp:s.heap.objs.size<=a)(new:gr X.prog X.w (cf H a o) h' a o):
  Inv X ab σ (cf H a o) { s with heap:=h',toks:=t' }:=I.un (Un.laid k hp (I.aQ.fresh hp)) (I.aQ.laid k hp new)
theorem Inv.write{x e:Addr}{o:HO}{t':Nat}(I:Inv X ab σ H s)(mu:iB (H x))(he:e=x\/H e=some (.own x))(k:∀b u,b≠e->s.heap.get? b=some u->h'.get? b=some u)(xn:∃u,h'.get? e=some u)
  (new:gr X.prog X.w (cf H x o) h' x o):Inv X ab σ (cf H x o) { s with heap:=h',toks:=t' }:=I.un (Un.write mu he k xn) (I.aQ.write mu he k xn new)
theorem Inv.CB(I:Inv X ab σ H s)(h:∀p∈Wx,s.heap.get? p.1=some p.2/\H p.1=none/\p.1≠X.env.locals/\p.1∉X.fs/\∀v,p.2.data≠ .cell v):Inv X Wx σ H s:=
 ⟨I.ok,I.os,I.bare,I.base,I.loc,I.cell,I.free,I.nY,λp hp=>(lZ.mp hp).elim (λz=>I.pin p (qR _ z)) (h p),I.aQ,I.len⟩
theorem Oc{N:List Str}(hN:N.Nodup){i j:Nat}{x:Str}(a:N[i]?=some x)(b:N[j]?=some x):i=j:=by
 obtain⟨h1,e1⟩:=cm.mp a;obtain⟨h2,e2⟩:=cm.mp b;exact(List.getElem_inj hN).mp (e1.trans e2.symm)
theorem Wy{M:Model}{A:Around}{E:Value->Shared->Prop}{i:Nat}{x:Str}{v:V}{u:Value}{Q:Unit->Shared->Prop}(I:Inv X ab σ H s)(hN:X.N.Nodup)(hi:X.N[i]?=some x)(hx:Loc X.env.scope x)(r:RelV v u)
  (h:∀s',Inv X ab (σ.set i (some v)) H s'->(∃a,Cd a s.heap s'.heap/\(a=X.env.locals\/X.env.cells.lookup x=some a))->Q () s') (hf:X.fn x=true\/X.env.scope.names.lookup x=some .local:=by first | exact .inl rfl | exact .inr rfl | assumption):wpAny M A (storeName X.env x u) Q E s:=by
 obtain⟨m,hn,hl⟩:=id I.loc;have Wz:(X.env.scope.kind == .class || (X.env.scope.kind == .module && X.env.locals != X.env.globals))=false:=by rw[I.ok.kind];rfl
 have Od:i < σ.length:=by rw[I.len];exact(cm.mp hi).1
 have vd:=I.vd;have tracked:∀{a:Addr} {h':Heap},(∃o,s.heap.get? a=some o/\H a=none)->Cd a s.heap h'->gB X.prog X.w H h':=λ{a h'} ha hs b ob e=>by
  obtain⟨_,_,xp⟩:=ha;refine(I.aQ b ob e).gO (λc w' hc q=>(hs.2 c ?_).trans q) (λ_ q=>q) λ_ _ q=>q;rintro rfl;rcases hc with rfl | hc
  ·rw[xp]at e;cases e
  ·rw[xp]at hc;cases hc
 rcases hx with hk | hk
 ·refine wpAny_storeName_local hk hn (λh' WA hs=> ?_) Wz;obtain⟨oL,_,_,n8,_⟩:=id hn;refine h _ ⟨I.ok,I.os,I.bare,⟨λb o e n hb hx=> ?_,λb o e n hb hx=> ?_,I.base.free,λb o e hx=> ?_,I.base.mL,I.base.l7,I.base.qd⟩,⟨_,WA,λj y v' e1 e2 e3=> ?_⟩,λy c e=> ?_,I.free,I.nY,λp hp=> ?_,tracked ⟨oL,n8,I.free⟩ hs,by simpa using I.len⟩ ⟨_,hs, .inl rfl⟩
  ·exact(hs.2 b (dR (dI (da e) I.ok.above))).trans (I.base.keep b o e n hb hx)
  ·obtain⟨sl,e1⟩:=I.base.slot b o e n hb hx;exact⟨sl,(hs.2 b (dR (dI (da e) I.ok.above))).trans e1⟩
  ·obtain⟨o',e1⟩:=I.base.there b o e hx;exact⟨o',(hs.2 b (dR (dI (da e) I.ok.above))).trans e1⟩
  ·by_cases hj:j=i
   ·subst hj;rw[hi]at e1;cases e1;rw[gK Od]at e2;cases e2;exact⟨u,r, .inl ⟨hk,by simp⟩⟩
   ·rw[gq (fw hj)]at e2;obtain⟨u',r',q⟩:=hl j y v' e1 e2 e3;refine⟨u',r', ?_⟩;rcases q with⟨k,e⟩ | ⟨k,c,e,z⟩
    ·refine .inl ⟨k, ?_⟩;have:y≠x:=λe=>hj (Oc hN e1 (e▸hi));simp[this,e]
    ·exact .inr ⟨k,c,e,z.sameBut hs (vd y c e)⟩
  ·obtain⟨w',z⟩:=I.cell y c e;exact⟨w',z.sameBut hs (vd y c e)⟩
  ·obtain⟨e,n,ne,nf,d⟩:=I.pin p hp;exact⟨(hs.2 p.1 ne).trans e,n,ne,nf,d⟩
 ·have F2:X.fn x=true:=by
   rcases hf with z | z
   ·exact z
   ·rw[z]at hk;cases hk
  obtain⟨c,hc⟩:=I.ok.has x (.inl hk);obtain⟨w',z⟩:=I.cell x c hc;refine wpAny_storeName_cell I.ok.kind hk hc z (λh' qY hs=> ?_);obtain⟨oc,Oe,WB⟩:=id z;refine h { s with heap:=h' } ⟨I.ok,I.os,I.bare,⟨λb o e n hb hx=> ?_,λb o e n hb hx=> ?_,I.base.free,λb o e hx=> ?_,I.base.mL,I.base.l7,I.base.qd⟩,⟨m,hn.sameBut hs (fw (vd x c hc)),λj y v' e1 e2 e3=> ?_⟩,λy c' e=> ?_,I.free,I.nY,λp hp=> ?_,tracked ⟨oc,Oe,I.nY x c hc⟩ hs,by simpa using I.len⟩ ⟨c,hs, .inr hc⟩
  ·exact(hs.2 b (dR (dI (da e) (I.ok.zA x c F2 hc)))).trans (I.base.keep b o e n hb hx)
  ·obtain⟨sl,e1⟩:=I.base.slot b o e n hb hx;exact⟨sl,(hs.2 b (dR (dI (da e) (I.ok.zA x c F2 hc)))).trans e1⟩
  ·obtain⟨o',e1⟩:=I.base.there b o e hx;exact⟨o',(hs.2 b (dR (dI (da e) (I.ok.zA x c F2 hc)))).trans e1⟩
  ·by_cases hj:j=i
   ·subst hj;rw[hi]at e1;cases e1;rw[gK Od]at e2;cases e2;exact⟨u,r, .inr ⟨.inl hk,c,hc,qY⟩⟩
   ·rw[gq (fw hj)]at e2;obtain⟨u',r',q⟩:=hl j y v' e1 e2 e3;refine⟨u',r', ?_⟩;rcases q with q | ⟨k,c',e,z'⟩
    ·exact .inl q
    ·refine .inr ⟨k,c',e,z'.sameBut hs ?_⟩;rintro rfl;exact hj (Oc hN e1 (I.ok.inj _ _ _ e hc▸hi))
  ·by_cases Of:c'=c
   ·subst Of;exact⟨_,qY⟩
   ·obtain⟨w2,z2⟩:=I.cell y c' e;exact⟨w2,z2.sameBut hs Of⟩
  ·obtain⟨e,n,ne,nf,d⟩:=I.pin p hp;refine⟨(hs.2 p.1 ?_).trans e,n,ne,nf,d⟩;intro q;rw[q,Oe]at e;have q':oc=p.2:=hV e;exact d w' (by rw[<- q'];exact WB)
theorem CC{M:Model}{A:Around}{E:Value->Shared->Prop}{x:Str}{Q:Unit->Shared->Prop}(I:Inv X ab σ H s)(hN:X.N.Nodup)(hi:X.N[i]?=some x)(hx:Loc X.env.scope x)(r:RelV v u)
  (h:∀s',Inv X ab (σ.set i (some v)) H s'->Q () s') (hf:X.fn x=true\/X.env.scope.names.lookup x=some .local:=by first | exact .inl rfl | exact .inr rfl | assumption):wpAny M A (storeName X.env x u) Q E s:=
 Wy I hN hi hx r (λs' I' _=>h s' I') hf
end
abbrev XK:=Value->Option Addr->Hp->Prop
noncomputable abbrev St:=List (Option V)
abbrev VK:=V->Hp->Prop
abbrev TE:=St->Hp->VK->Prop
abbrev TT:=St->Hp->(Bool->Hp->Prop)->Prop
abbrev TA:=St->Hp->(List V->Hp->Prop)->Prop
structure ke where
 nx:St->Hp->Prop
 rt:VK
 bk:St->Hp->Prop:=λ_ _=>False
 ct:St->Hp->Prop:=λ_ _=>False
abbrev TS:=ke->St->Hp->Prop
def EP(X:Cx)(ab:List (Addr×Obj))(σ:St)(Q:VK)(u:Value)(s':Shared):Prop:=∃v H',Inv X ab σ H' s'/\RelV v u/\Q v H'
def TP(X:Cx)(ab:List (Addr×Obj))(σ:St)(Q:Bool->Hp->Prop)(b:Bool)(s':Shared):Prop:=∃H',Inv X ab σ H' s'/\Q b H'
def AP(X:Cx)(ab:List (Addr×Obj))(σ:St)(Q:List V->Hp->Prop)(us:List Value)(s':Shared):Prop:=∃vs H',Inv X ab σ H' s'/\bj vs us/\Q vs H'
def SP(X:Cx)(ab:List (Addr×Obj))(D:ke)(f:Flow)(s':Shared):Prop:=
 match f with
 |.next=>∃aF H',Inv X ab aF H' s'/\D.nx aF H'
 |.brk=>∃aF H',Inv X ab aF H' s'/\D.bk aF H'
 |.cont=>∃aF H',Inv X ab aF H' s'/\D.ct aF H'
 |.ret u=>∃v aF H',Inv X ab aF H' s'/\RelV v u/\D.rt v H'
def PE(X:Cx)(e:Expr)(t:TE):Prop:=
 ∀(ab:List (Addr×Obj)) (s:Shared) (σ:St) (H:Hp) (Q:VK),Inv X ab σ H s->t σ H Q->wpAny (model X.prog X.w) X.A (eval e X.env) (EP X ab σ Q) X.xe s
def PT(X:Cx)(e:Expr)(t:TT):Prop:=
 ∀(ab:List (Addr×Obj)) (s:Shared) (σ:St) (H:Hp) (Q:Bool->Hp->Prop),Inv X ab σ H s->t σ H Q->wpAny (model X.prog X.w) X.A (isTrue e X.env (eval e X.env)) (TP X ab σ Q) X.xe s
def PW(X:Cx)(e:Expr)(t:TT):Prop:=
 ∀(whole:Sem Value) (ab:List (Addr×Obj)) (s:Shared) (σ:St) (H:Hp) (Q:Bool->Hp->Prop),Inv X ab σ H s->t σ H Q->wpAny (model X.prog X.w) X.A (isTrue e X.env whole) (TP X ab σ Q) X.xe s
theorem PW.pt{X:Cx}{e:Expr}(h:PW X e t):PT X e t:=h _
def PA(X:Cx)(es:List Expr)(t:TA):Prop:=
 ∀(pos:Pos) (ab:List (Addr×Obj)) (s:Shared) (σ:St) (H:Hp) (Q:List V->Hp->Prop),Inv X ab σ H s->t σ H Q->wpAny (model X.prog X.w) X.A (spliced (backTo pos (dz es X.env))) (AP X ab σ Q) X.xe s
def PS(X:Cx)(st:Stmt)(t:TS):Prop:=
 ∀(ab:List (Addr×Obj)) (s:Shared) (σ:St) (H:Hp) (D:ke),Inv X ab σ H s->t D σ H->wpAny (model X.prog X.w) X.A (exec st X.env) (SP X ab D) X.xe s
def jc(X:Cx)(st:List Stmt)(t:TS):Prop:=
 ∀(ab:List (Addr×Obj)) (s:Shared) (σ:St) (H:Hp) (D:ke),Inv X ab σ H s->t D σ H->wpAny (model X.prog X.w) X.A (execs st X.env) (SP X ab D) X.xe s
theorem bh{α:Type}{t:Sem α}{Q Q':α->Shared->Prop}{M:Model}{A:Around}{E:Value->Shared->Prop}{s:Shared}(h:wpAny M A t Q E s)(hQ:∀a s,Q a s->Q' a s):wpAny M A t Q' E s:=ja h hQ λ_ _ x=>x
section
variable {X:Cx}
def f9(i:Nat):TE:=λσ H Q=>∃v,σ[i]?=some (some v)/\Q v H
def tC(v:V):TE:=λ_ H Q=>Q v H
theorem WC{x:Str}{pos:Pos}(hN:X.N[i]?=some x)(hv:FY X.env.scope x)(hd:(x == ("__debug__":Str))=false:=by decide)(pB:(x == ("__classdict__":Str))=false:=by decide):PE X (.Name x pos) (f9 i):=by
 intro ab s σ H Q I h;obtain⟨v,e,h⟩:=h;obtain⟨m,hn,hl⟩:=I.loc;obtain⟨u,r,l⟩:=hl i x v hN e hv;have fin:EP X ab σ Q u s:=⟨v,H,I,r,h⟩
 rcases l with⟨hk,hm⟩ | ⟨hk,c,hc,sV⟩
 ·exact wpAny_Name (wpAny_loadName_local I.ok.kind hk hn hm fin) hd
 ·rcases hk with hk | hk
  ·exact wpAny_Name (wpAny_loadName_cell I.ok.kind hk hc sV fin) hd
  ·exact wpAny_Name (wpAny_loadName_free I.ok.kind hk hc sV fin pB) hd
theorem aA{i j pos}:PE X (.Constant (.int i) j pos) (tC (.int i)):=λ_ _ _ H _ I h=>wpAny_Constant_int ⟨.int i,H,I.tok _,⟨_,rfl⟩,h⟩
theorem zD{b j pos}:PE X (.Constant (.bool b) j pos) (tC (.bl b)):=λ_ _ _ H _ I h=>Constant_bool ⟨.bl b,H,I,rfl,h⟩
theorem qZ{j pos}:PE X (.Constant .none j pos) (tC .aG):=λ_ _ _ H _ I h=>Constant_none ⟨.aG,H,I,rfl,h⟩
theorem aC{x j pos}:PE X (.Constant (.str x) j pos) (tC (.str x)):=λ_ _ _ H _ I h=>Calls.Constant_str ⟨.str x,H,I.tok _,⟨_,rfl⟩,h⟩
def Gl(X:Cx)(x:Str):Prop:=X.env.kindOf x=some .globalImplicit
theorem CD{E:Value->Shared->Prop}{ab:List (Addr×Obj)}{s:Shared}{σ:St}{H:Hp}{x:Str}{pos:Pos}{Q:Value->Shared->Prop}(I:Inv X ab σ H s)(hg:Gl X x)(hm:X.mg x=some u)(h:Q u s)
  (hd:(x == ("__debug__":Str))=false:=by decide):wpAny (model X.prog X.w) X.A (eval (.Name x pos) X.env) Q E s:=
 aii I.ok.kind hg (Calls.loadGlobal_global (by rw[I.ok.glob];exact I.mod.glob.keeps I.bk) hm h) hd
theorem xq{E:Value->Shared->Prop}{ab:List (Addr×Obj)}{s:Shared}{σ:St}{H:Hp}{x:Str}{pos:Pos}{Q:Value->Shared->Prop}(I:Inv X ab σ H s)(hg:Gl X x)(hm:X.mg x=none)(hv:B2 x=some u)(h:Q u s)
  (hn:x≠"__name__":=by decide) (hd:(x == ("__debug__":Str))=false:=by decide):wpAny (model X.prog X.w) X.A (eval (.Name x pos) X.env) Q E s:=by
 obtain⟨mb,h1,h2⟩:=I.mod.blt;exact aii I.ok.kind hg (Calls.loadGlobal_builtin (by rw[I.ok.glob];exact I.mod.glob.keeps I.bk) hm (by rw[I.ok.blt];exact h1.keeps I.bk) ((h2 x hn).trans hv) h) hd
theorem WE{x:Str}{pos:Pos}(hg:Gl X x)(hm:X.mg x=some u)(r:RelV v u)(hd:(x == ("__debug__":Str))=false:=by decide):PE X (.Name x pos) (tC v):=
 λ_ _ _ H _ I h=>CD I hg hm ⟨v,H,I,r,h⟩ hd
theorem qf{x:Str}{pos:Pos}(hg:Gl X x)(hm:X.mg x=none)(hv:B2 x=some u)(r:RelV v u)(hn:x≠"__name__":=by decide)(hd:(x == ("__debug__":Str))=false:=by decide):PE X (.Name x pos) (tC v):=
 λ_ _ _ H _ I h=>xq I hg hm hv ⟨v,H,I,r,h⟩ hn hd
variable {a b:Expr}{ta tb:TE}{pos:Pos}
def tB(t:TE):TT:=λσ H Q=>t σ H λx H1=>∃c,x= .bl c/\Q c H1
theorem l9{e:Expr}{t:TE}(h:PE X e t)(he:∀whole,isTrue e X.env whole=(do let v <- whole;standAt e.pos;holding [v] (truthy v)):=by intro _;rfl):PT X e (tB t):=by
 intro ab s σ H Q I hw;refine isTrue_plain (bh (h ab s σ H _ I hw) λv s1 ⟨x,H1,I1,r1,q1⟩=> ?_) (he _);obtain⟨d,rfl,q⟩:=q1;cases r1;exact uK ⟨H1,I1,q⟩
variable {tA CF:TT}{rest:List Expr}
def F3(t u:TT):TT:=λσ H Q=>t σ H λc H1=>if c=true then u σ H1 Q else Q false H1
def F4(t u:TT):TT:=λσ H Q=>t σ H λc H1=>if c=true then Q true H1 else u σ H1 Q
def F5(t:TT):TT:=λσ H Q=>t σ H λc H1=>Q (!c) H1
theorem zE(ha:PT X a tA):PW X (.BoolOp .And [a] pos) tA:=by
 intro wh ab s σ H Q I h;refine isTrue_and (bh (ha ab s σ H Q I h) λc s1 e=> ?_);cases c with
 |true=>exact isTrue_and_nil e
 |false=>exact e
theorem F6(ha:PT X a tA):PW X (.BoolOp .Or [a] pos) tA:=by
 intro wh ab s σ H Q I h;refine isTrue_or (bh (ha ab s σ H Q I h) λc s1 e=> ?_);cases c with
 |false=>exact isTrue_or_nil e
 |true=>exact e
theorem zF(ha:PT X a tA)(hb:PW X (.BoolOp .And (b::rest) pos) CF):PW X (.BoolOp .And (a::b::rest) pos) (F3 tA CF):=by
 intro wh ab s σ H Q I h;refine isTrue_and (bh (ha ab s σ H _ I h) λc s1 ⟨H1,I1,q1⟩=> ?_);cases c with
 |true=>exact hb wh ab s1 σ H1 Q I1 q1
 |false=>exact⟨H1,I1,q1⟩
theorem F7(ha:PT X a tA)(hb:PW X (.BoolOp .Or (b::rest) pos) CF):PW X (.BoolOp .Or (a::b::rest) pos) (F4 tA CF):=by
 intro wh ab s σ H Q I h;refine isTrue_or (bh (ha ab s σ H _ I h) λc s1 ⟨H1,I1,q1⟩=> ?_);cases c with
 |true=>exact⟨H1,I1,q1⟩
 |false=>exact hb wh ab s1 σ H1 Q I1 q1
theorem oa(ha:PT X a tA):PT X (.UnaryOp .Not a pos) (F5 tA):=by
 intro ab s σ H Q I h;exact isTrue_not (ha ab s σ H (λc H1=>Q (!c) H1) I h)
def xr(ta tb:TE):TE:=λσ H Q=>ta σ H λx H1=>∃c,x= .bl c/\if c=true then tb σ H1 Q else Q (.bl false) H1
def F8(ta:TE):TE:=λσ H Q=>ta σ H λx H1=>∃c,x= .bl c/\Q (.bl (!c)) H1
theorem qg{op}(h:PE X a t):PE X (.BoolOp op [a] pos) t:=λab s σ H Q I hw=>BoolOp_one (h ab s σ H Q I hw)
theorem ra(ha:PE X a ta)(hb:PE X (.BoolOp .And (b::rest) pos) tb):PE X (.BoolOp .And (a::b::rest) pos) (xr ta tb):=by
 intro ab s σ H Q I h;refine BoolOp_and (bh (ha ab s σ H _ I h) λv s1 ⟨x,H1,I1,r1,q1⟩=> ?_);obtain⟨c,rfl,q1⟩:=q1;cases r1;refine uK ?_;cases c with
 |true=>exact hb ab s1 σ H1 Q I1 q1
 |false=>exact⟨.bl false,H1,I1,rfl,q1⟩
theorem WG(ha:PE X a ta):PE X (.UnaryOp .Not a pos) (F8 ta):=by
 intro ab s σ H Q I h;refine UnaryOp_ (bh (ha ab s σ H _ I h) λv s1 ⟨x,H1,I1,r1,q1⟩=> ?_);obtain⟨c,rfl,q1⟩:=q1;cases r1;exact not_of (uK ⟨.bl (!c),H1,I1,rfl,q1⟩)
def Oi(t:TT)(ta tb:TE):TE:=λσ H Q=>t σ H λc H1=>if c=true then ta σ H1 Q else tb σ H1 Q
theorem Oj{c:Expr}(hc:PT X c tA)(ha:PE X a ta)(hb:PE X b tb):PE X (.IfExp c a b pos) (Oi tA ta tb):=by
 intro ab s σ H Q I h;refine wpAny_IfExp (bh (hc ab s σ H _ I h) λd s1 ⟨H1,I1,q1⟩=> ?_);cases d with
 |true=>exact ha ab s1 σ H1 Q I1 q1
 |false=>exact hb ab s1 σ H1 Q I1 q1
end
def cI(K:ah)(H:Hp)(a:Addr)(xs:List V):Prop:=
 Rd H a (.lst xs)\/
  ∃(o:Obj) (its:Array Value) (n:Nat),K.lookup a=some o/\o.cls= .type "list"/\o.dict=none/\o.data= .seq its n/\its.size<=aM/\bj xs its.toList
def cE(K:ah)(H:Hp)(a:Addr)(xs:List V):Prop:=
 Rd H a (.tup xs)\/
  ∃(o:Obj) (its:Array Value) (n:Nat),K.lookup a=some o/\o.cls= .type "tuple"/\o.data= .seq its n/\its.size<=aM/\bj xs its.toList
noncomputable def WH:Value->Option V
 |.none=>some .aG
 |.bool b=>some (.bl b)
 |.int i _=>some (.int i)
 |.str x _=>some (.str x)
 |.bytes b _=>some (.uZ b)
 |.float b _=>some (.kl b)
 |.ref a=>some (.ref a)
 |.type n=>some (.ty n)
 |_=>none
theorem RelV.abs{x:V}(r:RelV x u):WH u=some x:=by
 cases x with
 |aG=>cases r;rfl
 |bl _=>cases r;rfl
 |int _=>obtain⟨t,rfl⟩:=r;rfl
 |str _=>obtain⟨t,rfl⟩:=r;rfl
 |uZ _=>obtain⟨t,rfl⟩:=r;rfl
 |kl _=>obtain⟨t,rfl⟩:=r;rfl
 |ref _=>cases r;rfl
 |ty _=>cases r;rfl
theorem RelV.inj{x y:V}(r:RelV x u)(q:RelV y u):x=y:=hV (r.abs.symm.trans q.abs)
theorem bj.inj:∀{xs ys:List V} {us:List Value},bj xs us->bj ys us->xs=ys
 |_,_,_, .nil, .nil=>rfl
 |_,_,_, .cons r t, .cons r' t'=>by rw[r.inj r',bj.inj t t']
section
variable {X:Cx}{ab:List (Addr×Obj)}{σ:St}{H:Hp}{s:Shared}{a:Addr}
theorem cI.of{K:ah}(h:H a=some (.lst xs)):cI K H a xs:= .inl (.inl h)
theorem cE.of{K:ah}(h:H a=some (.tup xs)):cE K H a xs:= .inl (.inl h)
theorem Inv.list(I:Inv X ab σ H s)(h:cI X.K H a xs):∃its:List Value,bj xs its/\PlainL s.heap a its.toArray/\xs.length<=aM:=by
 rcases h with h | ⟨o,its,n,hk,hc,hd,hs,hz,r⟩
 ·obtain⟨z,its,n,r,e⟩:=h.ok I.aQ;exact⟨its,r,⟨_,n,e,rfl,rfl,rfl⟩,z⟩
 ·refine⟨its.toList,r,⟨o,n,I.fN a o hk,hc,hd,by simpa using hs⟩, ?_⟩;have e:=r.length;simp only[xc]at e
  lia
theorem Inv.tuple(I:Inv X ab σ H s)(h:cE X.K H a xs):∃its:List Value,bj xs its/\IsTup s.heap a its.toArray/\xs.length<=aM:=by
 rcases h with h | ⟨o,its,n,hk,hc,hs,hz,r⟩
 ·obtain⟨z,its,r,p⟩:=h.ok I.aQ;exact⟨its,r,p,z⟩
 ·refine⟨its.toList,r,⟨o,I.fN a o hk,hc,n,by simpa using hs⟩, ?_⟩;have e:=r.length;simp only[xc]at e
  lia
theorem Inv.Ol(I:Inv X ab σ H s)(h:cI X.K H a xs)(h':cI X.K H a ys):xs=ys:=by
 obtain⟨its,r,⟨o,n,e,_,_,d⟩,_⟩:=I.list h;obtain⟨its',r',⟨o',n',e',_,_,d'⟩,_⟩:=I.list h';rw[e]at e';cases e';rw[d]at d';injection d' with d1 _
 have:its=its':=by simpa using congrArg Array.toList d1
 subst this;exact r.inj r'
theorem Inv.Om(I:Inv X ab σ H s)(h:cE X.K H a xs)(h':cE X.K H a ys):xs=ys:=by
 obtain⟨its,r,⟨o,e,_,n,d⟩,_⟩:=I.tuple h;obtain⟨its',r',⟨o',e',_,n',d'⟩,_⟩:=I.tuple h';rw[e]at e';cases e';rw[d]at d';injection d' with d1 _
 have:its=its':=by simpa using congrArg Array.toList d1
 subst this;exact r.inj r'
end
noncomputable abbrev Cx.qh (X:Cx) (E:Value->Shared->Prop):Cx:= { X with xe:=E }
abbrev Cx.ve(X:Cx):Cx:=X.qh λ_ _=>False
theorem Cx.Ok.qh{X:Cx}(ok:X.Ok)(E:Value->Shared->Prop):(X.qh E).Ok:=
 ⟨ok.mod,ok.kind,ok.glob,ok.blt,ok.above,ok.inj,ok.has,ok.zA,ok.hd,ok.frames,ok.u9,ok.N8,ok.bs,ok.qe,ok.zB,ok.Cy,ok.nX,ok.vc⟩
theorem Cx.Ok.sW{X:Cx}(ok:(X.qh E).Ok):X.Ok:=
 ⟨ok.mod,ok.kind,ok.glob,ok.blt,ok.above,ok.inj,ok.has,ok.zA,ok.hd,ok.frames,ok.u9,ok.N8,ok.bs,ok.qe,ok.zB,ok.Cy,ok.nX,ok.vc⟩
section
variable {X:Cx}{ab:List (Addr×Obj)}{σ:St}{H:Hp}{s:Shared}{E:Value->Shared->Prop}
theorem Inv.qh(I:Inv X ab σ H s)(E:Value->Shared->Prop):Inv (X.qh E) ab σ H s:=⟨I.ok.qh E,I.os,I.bare,I.base,I.loc,I.cell,I.free,I.nY,I.pin,I.aQ,I.len⟩
theorem Inv.sW(I:Inv (X.qh E) ab σ H s):Inv X ab σ H s:=⟨I.ok.sW,I.os,I.bare,I.base,I.loc,I.cell,I.free,I.nY,I.pin,I.aQ,I.len⟩
theorem SP.sW(h:SP (X.qh E) ab D f s'):SP X ab D f s':=by
 cases f with
 |next=>obtain⟨aF,H',I,q⟩:=h;exact⟨aF,H',I.sW,q⟩
 |brk=>obtain⟨aF,H',I,q⟩:=h;exact⟨aF,H',I.sW,q⟩
 |cont=>obtain⟨aF,H',I,q⟩:=h;exact⟨aF,H',I.sW,q⟩
 |ret u=>obtain⟨v,aF,H',I,r,q⟩:=h;exact⟨v,aF,H',I.sW,r,q⟩
theorem jc.ve{st:List Stmt}{t:TS}(h:jc X.ve st t):jc X st t:=λab s σ H D I hw=>
 ja (h ab s σ H D (I.qh _) hw) (λ_ _ q=>q.sW) λ_ _ z=>pj z
end
section
variable {X:Cx}{st:Stmt}{rest:List Stmt}{t u:TS}{e:Expr}{te:TE}{pos:Pos}
def xt:TS:=λD σ H=>D.nx σ H
def sX(t u:TS):TS:=λD σ H=>t { D with nx:=u D } σ H
theorem cQ:jc X [] xt:=λ_ _ σ H _ I h=>Nl ⟨σ,H,I,h⟩
theorem aL(h1:PS X st t)(h2:jc X rest u):jc X (st::rest) (sX t u):=by
 intro ab s σ H D I h;refine wpAny_execs_cons (bh (h1 ab s σ H { D with nx:=u D } I h) λf s1 q=> ?_);cases f with
 |next=>
  obtain⟨aF,H',I',q⟩:=q;exact h2 ab s1 aF H' D I' q
 |ret v=>exact q
 |brk=>exact q
 |cont=>exact q
theorem dY(h1:PS X st t):jc X [st] t:=by
 intro ab s σ H D I h;refine wpAny_execs_cons (bh (h1 ab s σ H D I h) λf s1 q=> ?_);cases f with
 |next=>exact Nl q
 |ret v=>exact q
 |brk=>exact q
 |cont=>exact q
def arG:TS:=λD σ H=>D.ct σ H
theorem aue:PS X (.Continue pos) arG:=λ_ _ σ H _ I h=>wpAny_Continue ⟨σ,H,I,h⟩
theorem Inv.quiet{ab:List (Addr×Obj)}{σ:St}{H:Hp}{s:Shared}(I:Inv X ab σ H s):interactive X.env=false:=by simp[interactive,I.ok.kind]
def F9(te:TE):TS:=λD σ H=>te σ H λ_ H1=>D.nx σ H1
theorem ma(he:PE X e te)(hs:wQ e none pos.line X.env=pure false:=by rfl):PS X (.Expr e pos) (F9 te):=by
 intro ab s σ H D I h;exact wpAny_Expr_any (bh (he ab s σ H _ I h) λv s1 ⟨x,H1,I1,r1,q1⟩=>⟨σ,H1,I1,q1⟩) I.quiet hs
def qi(te:TE):TS:=λD σ H=>te σ H D.rt
theorem vf(he:PE X e te):PS X (.Return (some e) pos) (qi te):=by
 intro ab s σ H D I h;exact wpAny_Return_some (bh (he ab s σ H _ I h) λv s1 ⟨x,H1,I1,r1,q1⟩=>⟨x,σ,H1,I1,r1,q1⟩)
def xu(c:TT)(t u:TS):TS:=λD σ H=>c σ H λb H1=>if b=true then t D σ H1 else u D σ H1
theorem bS{c:Expr}{a b:List Stmt}{tc:TT}(hc:PT X c tc)(ha:jc X a t)(hb:jc X b u):PS X (.If c a b pos) (xu tc t u):=by
 intro ab s σ H D I h;refine wpAny_If (bh (hc ab s σ H _ I h) λd s1 ⟨H1,I1,q1⟩=> ?_);cases d with
 |true=>exact ha ab s1 σ H1 D I1 q1
 |false=>exact hb ab s1 σ H1 D I1 q1
def arH:TS:=λ_ _ _=>False
theorem arI:jc X ayn arH:=λ_ _ _ _ _ _ h=>h.elim
end
abbrev TG:=V->St->Hp->(St->Hp->Prop)->Prop
abbrev rb:=List V->St->Hp->(St->Hp->Prop)->Prop
def PG(X:Cx)(target:Expr)(t:TG):Prop:=
 ∀(ab:List (Addr×Obj)) (s:Shared) (σ:St) (H:Hp) (v:V) (u:Value) (Q:St->Hp->Prop),Inv X ab σ H s->RelV v u->t v σ H Q->
  wpAny (model X.prog X.w) X.A (assign target X.env u) (λ_ s'=>∃aF H',Inv X ab aF H' s'/\Q aF H') X.xe s
def zG(X:Cx)(ts:List Expr)(t:rb):Prop:=
 ∀(ab:List (Addr×Obj)) (s:Shared) (σ:St) (H:Hp) (vs:List V) (us:List Value) (Q:St->Hp->Prop),Inv X ab σ H s->bj vs us->t vs σ H Q->
  wpAny (model X.prog X.w) X.A (assignInOrder ((wR ts X.env).map (·.2)) us) (λ_ s'=>∃aF H',Inv X ab aF H' s'/\Q aF H') X.xe s
abbrev Ga:=V->V->V->Hp->(Hp->Prop)->Prop
def Oo(X:Cx)(t:Ga):Prop:=
 ∀(ab:List (Addr×Obj)) (s:Shared) (σ:St) (H:Hp) (o i v:V) (ov iv u:Value) (Q:Hp->Prop),Inv X ab σ H s->RelV o ov->RelV i iv->RelV v u->t o i v H Q->
  wpAny (model X.prog X.w) X.A (setItem ov iv u) (λ_ s'=>∃H',Inv X ab σ H' s'/\Q H') X.xe s
section
variable {X:Cx}{pos:Pos}
def lB(i:Nat):TG:=λv σ H Q=>Q (σ.set i (some v)) H
theorem Gb{x:Str}(hN:X.N.Nodup)(hi:X.N[i]?=some x)(hx:Loc X.env.scope x)(hf:X.fn x=true\/X.env.scope.names.lookup x=some .local:=by first | exact .inl rfl | exact .inr rfl | assumption):PG X (.Name x pos) (lB i):=by
 intro ab s σ H v u Q I r h;exact wpAny_assign_Name (CC I hN hi hx r (λs' I'=>⟨_,H,I',h⟩) hf)
def zH:rb:=λvs σ H Q=>vs= []/\Q σ H
def vg(t:TG)(u:rb):rb:=λvs σ H Q=>∃v r,vs=v::r/\t v σ H λaF H'=>u r aF H' Q
theorem CG:zG X [] zH:=by
 intro ab s σ H vs us Q I r h;obtain⟨e,h⟩:=h;subst e;cases r;exact assignInOrder_nil ⟨σ,H,I,h⟩
theorem sY{e:Expr}{es:List Expr}{t:TG}{u:rb}(h1:PG X e t)(h2:zG X es u)
  (hs:(wR (e::es) X.env).map (·.2)=assign e X.env::(wR es X.env).map (·.2):=by rfl):zG X (e::es) (vg t u):=by
 intro ab s σ H vs us Q I r h;obtain⟨v,vr,e1,h⟩:=h;subst e1;cases r with
 |cons r rr=>
  rw[hs];refine U7 (bh (h1 ab s σ H _ _ _ I r h) λ_ s1 ⟨sZ,H1,I1,q1⟩=> ?_);exact h2 ab s1 sZ H1 _ _ Q I1 rr q1
def CH(K:ah)(n:Nat)(t:rb):TG:=λv σ H Q=>∃a xs,v= .ref a/\cE K H a xs/\xs.length=n/\t xs σ H Q
theorem WI{k:Nat}{t:rb}{n:Nat}(hc:X.calm=true)(h:zG X es t)
  (hn:(wR es X.env).length=n:=by rfl) (Ge:(wR es X.env).findIdx? (·.1)=none:=by rfl):PG X (.Tuple es k pos) (CH X.K n t):=by
 intro ab s σ H v u Q I r hw;obtain⟨a,xs,e1,hq,hl,hw⟩:=hw;subst e1;cases r;obtain⟨its,rv,ht,hz⟩:=I.tuple hq;refine assign_Tuple_tuple (I.ok.hd hc) ht (by simp[hn, <- hl,rv.length]) Ge λh' hx=> ?_;have I1:Inv X ab σ H { s with heap:=h' }:=I.kept (t':=s.toks) λb o e=>hx b o (dR (da e)) e;exact h ab _ σ H xs _ Q I1 (by simpa using rv) hw
def Oq(to ti:TE)(t:Ga):TG:=λv σ H Q=>to σ H λo H1=>ti σ H1 λi H2=>t o i v H2 λH3=>Q σ H3
theorem WJ{o i:Expr}{to ti:TE}{t:Ga}(ho:PE X o to)(hi:PE X i ti)(hs:Oo X t)
  (ha:∀v,assign (.Subscript o i pos) X.env v=(do
   let ov <- holding [v] (eval o X.env)
   let iv <- holding [v,ov] (eval i X.env)
   standAt pos
   holding [v,ov,iv] (setItem ov iv v)
   release [v,ov,iv] []):=by intro _;rfl):PG X (.Subscript o i pos) (Oq to ti t):=by
 intro ab s σ H v u Q I r h;rw[ha];refine az (uL (bh (ho ab s σ H _ I h) λov s1 ⟨x,H1,I1,r1,q1⟩=> ?_));refine az (uL (bh (hi ab s1 σ H1 _ I1 q1) λiv s2 ⟨y,H2,I2,r2,q2⟩=> ?_));refine az (U8 (az (uL (bh (hs ab s2 σ H2 x y v ov iv u _ I2 r1 r2 r q2) λ_ s3 ⟨H3,I3,q3⟩=> ?_))));exact wpAny_release ⟨σ,H3,I3,q3⟩
def vh(te:TE)(g:TG):TS:=λD σ H=>te σ H λx H1=>g x σ H1 D.nx
theorem WK{tg e:Expr}{te:TE}{g:TG}(he:PE X e te)(hg:PG X tg g)(hs:swapsWithSole [tg] e pos.line X.env=pure false:=by rfl)(hw:swappedStores [tg] e X.env=pure none:=by rfl)
  (h1:(wR [tg] X.env).map (·.2)= [assign tg X.env]:=by rfl):PS X (.Assign [tg] e pos) (vh te g):=by
 intro ab s σ H D I h;refine wpAny_Assign_stores (bh (he ab s σ H _ I h) λv s1 ⟨x,H1,I1,r1,q1⟩=> ?_) hs hw;rw[h1];exact bh (hg ab s1 σ H1 x v _ I1 r1 q1) λ_ s2 q=>q
theorem WL{i:Nat}{x:Str}{e:Expr}{te:TE}{pos':Pos}(hN:X.N.Nodup)(hi:X.N[i]?=some x)(hx:Loc X.env.scope x)(he:PE X e te)(hs:wQ e (some (.Name x pos')) pos.line X.env=pure false:=by rfl)(hf:X.fn x=true\/X.env.scope.names.lookup x=some .local:=by first | exact .inl rfl | exact .inr rfl | assumption):
  PS X (.Assign [.Name x pos'] e pos) (vh te (lB i)):=by
 intro ab s σ H D I h;refine wpAny_Assign_Name (bh (he ab s σ H _ I h) λv s1 ⟨y,H1,I1,r1,q1⟩=> ?_) hs;exact CC I1 hN hi hx r1 (λs2 I2=>⟨_,H1,I2,q1⟩) hf
def Ot(i j:Nat)(ta:TA):TS:=λD σ H=>ta σ H λvs H1=>∃v w,vs= [v,w]/\D.nx ((σ.set i (some v)).set j (some w)) H1
theorem WM{i j:Nat}{x y:Str}{a b:Expr}{ta:TA}{px py pt:Pos}{kt k2 Gf}(hc:X.calm=true)(hN:X.N.Nodup)(hi:X.N[i]?=some x)(hj:X.N[j]?=some y)(WN:i≠j)
  (hx:X.env.scope.names.lookup x=some .local) (hy:X.env.scope.names.lookup y=some .local) (ha:PA X [a,b] ta)
  (hw:swappedStores [.Tuple [.Name x px, .Name y py] kt pt] (.Tuple [a,b] k2 Gf) X.env=pure (some [x,y]))
  (hs:swapsWithSole [.Tuple [.Name x px, .Name y py] kt pt] (.Tuple [a,b] k2 Gf) pos.line X.env=pure false:=by rfl):
  PS X (.Assign [.Tuple [.Name x px, .Name y py] kt pt] (.Tuple [a,b] k2 Gf) pos) (Ot i j ta):=by
 intro ab s σ H D I h;rw[exec_Assign_arm];refine az (U8 ?_);rw[hs];refine az (bF ?_);rw[if_neg (by decide)];refine az (Tuple_ (bh (ha _ ab s σ H _ I h) λus s1 ⟨vs,H1,I1,r1,q1⟩=> ?_));obtain⟨v,w,e1,q1⟩:=q1;subst e1;obtain⟨u1,u2,rfl,rv,km⟩:∃u1 u2,us= [u1,u2]/\RelV v u1/\RelV w u2:=by
  cases r1 with
  |cons p q=>
   cases q with
   |cons p' q'=>
    cases q';exact⟨_,_,rfl,p,p'⟩
 refine qP ?_ (by show 2<=aM;decide);have I2:Inv X ab σ H1 { s1 with heap:=s1.heap.push { cls:= .type "tuple",data:= .seq [u1,u2].toArray } }:=I1.kept (t':=s1.toks) λb o e=>cB _ e;rw[hw];refine az (bF ?_);show wpAny (model X.prog X.w) X.A (do rule "assign.swapped-stores";let items <- unpackItems (.ref s1.heap.objs.size) 2 none;assignInOrder [λv=>bindName X.env y v,λv=>bindName X.env x v] items.reverse;pure Flow.next) _ _ _;refine az (wU (az (unpackItems_tuple (items:=#[u1,u2]) (I.ok.hd hc) (Nw s1.heap _) λh' WO=> ?_)));have I3:=I2.kept (h':=h') (t':=s1.toks) λb o e=>WO b o (dR (da e)) e;show wpAny _ _ (assignInOrder [λv=>bindName X.env y v,λv=>bindName X.env x v] [u2,u1] >>= λ_=>pure Flow.next) _ _ _;refine az (U7 (wpAny_bindName (CC I3 hN hj (.inl hy) km (λs2 I4=> ?_) (.inr hy))));refine U7 (wpAny_bindName (CC I4 hN hi (.inl hx) rv (λs3 I5=>assignInOrder_nil (bF ?_)) (.inr hx)));rw[List.set_comm _ _ (fw WN)]at I5;exact⟨_,H1,I5,q1⟩
end
structure It where
 go:Nat->Hp->Prop
 s9:Nat->Hp->V->Hp->Prop
 stop:Nat->Hp->Prop
def jT(X:Cx)(ab:List (Addr×Obj))(H:Hp)(b:Addr):Prop:=
 H b=none/\b≠X.env.locals/\b∉X.fs/\(b∈X.ex\/X.gT.heap.objs.size<=b)/\(∀x c,X.env.cells.lookup x=some c->c≠b)/\∀p∈X.pn++ab,p.1≠b
theorem Inv.Aa{X:Cx}{ab:List (Addr×Obj)}{σ:St}{H H':Hp}{s:Shared}{b:Addr}(I:Inv X ab σ H s)(hb:s.heap.objs.size<=b)(hn:H' b=none):jT X ab H' b:=by
 refine⟨hn,xD (dI I.lt hb),I.FZ hb, .inr (b7 I.sz hb),λx c e z=> ?_,λp hp z=> ?_⟩
 ·obtain⟨v,q⟩:=I.cell x c e;exact absurd (dI q.lt (by rw[z];exact hb)) (mI _)
 ·exact absurd (dI (da (I.pin p hp).1) (by rw[z];exact hb)) (mI _)
structure Turn(P:Program)(w:World)(K:ah)(tg:Expr)(J:It)(fp:List Addr)(it:Addr)(tn:Nat->Heap->Prop):Prop where
 mem:it∈fp
 obj:∀i h,tn i h->∀b∈fp,∃o,h.get? b=some o/\∀v,o.data≠ .cell v
 keep:∀i h h',tn i h->(∀b∈fp,∀o,h.get? b=some o->h'.get? b=some o)->tn i h'
 item:∀(X:Cx),X.prog=P->X.w=w->X.K=K->X.calm=true->∀(i:Nat) (ab:List (Addr×Obj)) (s:Shared) (σ:St) (H:Hp) (E:Value->Shared->Prop),Inv X ab σ H s->(∀b∈fp,jT X ab H b)->tn i s.heap->J.go i H->
  wpAny (model P w) X.A (pyNext (.ref it)) (λr s1=>∃u,r=some u/\
   wpAny (model P w) X.A (Nm tg (.ref it) u) (λ_ s2=>∃x H',Inv X ab σ H' s2/\RelV x u/\J.s9 i H x H'/\tn (i + 1) s2.heap/\∀b∈fp,H' b=none) E s1) E s
 done:∀(X:Cx),X.prog=P->X.w=w->X.K=K->X.calm=true->∀(i:Nat) (ab:List (Addr×Obj)) (s:Shared) (σ:St) (H:Hp) (E:Value->Shared->Prop),Inv X ab σ H s->(∀b∈fp,jT X ab H b)->tn i s.heap->J.stop i H->
  wpAny (model P w) X.A (pyNext (.ref it)) (λr s1=>r=none/\Inv X ab σ H s1) E s
 self:∀(A:Around) (i:Nat) (s:Shared) (Q:Value->Shared->Prop) (E:Value->Shared->Prop),tn i s.heap->Q (.ref it) s->wpAny (model P w) A (pyIter (.ref it)) Q E s
abbrev TI:=St->Hp->(It->Hp->Prop)->Prop
def CI(X:Cx)(ab:List (Addr×Obj))(σ:St)(tg:Expr)(R:It->Hp->Prop)(Gg:Value)(s2:Shared):Prop:=
 ∃(it:Addr) (fp:List Addr) (tn:Nat->Heap->Prop) (J:It) (H':Hp),Gg= .ref it/\Inv X ab σ H' s2/\Turn X.prog X.w X.K tg J fp it tn/\tn 0 s2.heap/\(∀b∈fp,jT X ab H' b)/\R J H'
def PI(X:Cx)(tg iter:Expr)(wi:TI):Prop:=
 ∀(ab:List (Addr×Obj)) (s:Shared) (σ:St) (H:Hp) (R:It->Hp->Prop),Inv X ab σ H s->wi σ H R->
  wpAny (model X.prog X.w) X.A (eval iter X.env) (λv s1=>wpAny (model X.prog X.w) X.A (pyIter v) (CI X ab σ tg R) X.xe s1) X.xe s
theorem Ab{M:Model}{A:Around}{E:Value->Shared->Prop}{s:Shared}{tg:Expr}{u:Value}{o:Obj}{Q:Unit->Shared->Prop}(ho:s.heap.get? it=some o)(hc:o.cls= .type n)(hd:o.data= .fields vs)
  (hn: ["enumerate","zip","dict_itemiterator","dict_reverseitemiterator","odict_iterator","itertools.zip_longest","itertools.pairwise"].contains n=false) (hQ:Q () s):wpAny M A (Nm tg (.ref it) u) Q E s:=by
 unfold Nm;cases tg <;> first
  |exact bF hQ
  |(cases u <;> first
    |exact bF hQ
    |(refine az (wpAny_load ho ?_);rw[hc,hd];show wpAny M A (if(["enumerate","zip","dict_itemiterator","dict_reverseitemiterator","odict_iterator","itertools.zip_longest","itertools.pairwise"].contains n && vs[0]? == some (rawInt _))=true then _ else _) Q E s;rw[if_neg (by intro h;rw[hn,Bool.false_and]at h;cases h)];exact bF hQ))
def tf(K:ah)(a:Addr):It:=
 ⟨λi H=>∃xs x,cI K H a xs/\xs[i]?=some x,λi H x H'=>H'=H/\∀xs,cI K H a xs->xs[i]?=some x,λi H=>∃xs,cI K H a xs/\xs.length<=i⟩
def CJ(K:ah)(a:Addr):It:=
 ⟨λi H=>∃xs x,cE K H a xs/\xs[i]?=some x,λi H x H'=>H'=H/\∀xs,cE K H a xs->xs[i]?=some x,λi H=>∃xs,cE K H a xs/\xs.length<=i⟩
def Ac(lo:Int)(n:Nat):It:=⟨λi _=>i < n,λi H x H'=>H'=H/\x= .int (lo + i),λi _=>n<=i⟩
theorem WQ{P:Program}{w:World}{K:ah}{tg:Expr}(a it:Addr):Turn P w K tg (tf K a) [it] it (λi h=>h.IsListIter it a i) where
 mem:=by simp
 obj:=λi h st b hb=>by
  have e:b=it:=by simpa using hb
  subst e;obtain⟨o,e,c,d⟩:=st;exact⟨o,e,λv z=>by rw[d]at z;cases z⟩
 keep:=λi h h' st k=>st.at λo e=>k it (by simp) o e
 item:=by
  intro X hP hw hK hc i ab s σ H E I hf st hg;subst hP hw hK;obtain⟨xs,x,hq,hx⟩:=hg;obtain⟨its,rv,p,hz⟩:=I.list hq;obtain⟨u,hu,ru⟩:=rv.get hx;obtain⟨f0,f1,f2,f3,f4,f5⟩:=hf it (by simp);refine wpAny_pyNext_list_item st p.isList (x:=u) (by simpa using hu) λh' e5 sb=> ?_;have I1:Inv X ab σ H { s with heap:=h' }:=I.turned (t':=s.toks) (λb o hb e=>(sb.2 b hb).trans e) f0 f1 f3 f4 f5;obtain⟨o,e,c,d⟩:=id e5;exact⟨u,rfl,Ab (s:= { s with heap:=h' }) e c d (by decide) ⟨x,H,I1,ru,⟨rfl,λys hy=>by rw[I.Ol hy hq];exact hx⟩,e5,λb hb=>(hf b hb).1⟩⟩
 done:=by
  intro X hP hw hK hc i ab s σ H E I hf st hg;subst hP hw hK;obtain⟨xs,hq,hx⟩:=hg;obtain⟨its,rv,p,hz⟩:=I.list hq;obtain⟨f0,f1,f2,f3,f4,f5⟩:=hf it (by simp);have hl:=rv.length;exact wpAny_pyNext_list_end (I.ok.hd hc) st p.isList (by simp;lia) λh' eb=>⟨rfl,I.turned (t':=s.toks) (λb o hb e=>eb b o hb e) f0 f1 f3 f4 f5⟩
 self:=λ_ _ _ _ _ st h=>wpAny_pyIter_listiter st h
theorem WR{P:Program}{w:World}{K:ah}{tg:Expr}(a it:Addr):Turn P w K tg (CJ K a) [it] it (λi h=>h.IsTupleIter it a i) where
 mem:=by simp
 obj:=λi h st b hb=>by
  have e:b=it:=by simpa using hb
  subst e;obtain⟨o,e,c,d⟩:=st;exact⟨o,e,λv z=>by rw[d]at z;cases z⟩
 keep:=λi h h' st k=>st.at λo e=>k it (by simp) o e
 item:=by
  intro X hP hw hK hc i ab s σ H E I hf st hg;subst hP hw hK;obtain⟨xs,x,hq,hx⟩:=hg;obtain⟨its,rv,p,hz⟩:=I.tuple hq;obtain⟨u,hu,ru⟩:=rv.get hx;obtain⟨f0,f1,f2,f3,f4,f5⟩:=hf it (by simp);refine wpAny_pyNext_tuple_item st (show s.heap.IsTuple a its.toArray from p) (x:=u) (by simpa using hu) λh' e5 sb=> ?_;have I1:Inv X ab σ H { s with heap:=h' }:=I.turned (t':=s.toks) (λb o hb e=>(sb.2 b hb).trans e) f0 f1 f3 f4 f5;obtain⟨o,e,c,d⟩:=id e5;exact⟨u,rfl,Ab (s:= { s with heap:=h' }) e c d (by decide) ⟨x,H,I1,ru,⟨rfl,λys hy=>by rw[I.Om hy hq];exact hx⟩,e5,λb hb=>(hf b hb).1⟩⟩
 done:=by
  intro X hP hw hK hc i ab s σ H E I hf st hg;subst hP hw hK;obtain⟨xs,hq,hx⟩:=hg;obtain⟨its,rv,p,hz⟩:=I.tuple hq;obtain⟨f0,f1,f2,f3,f4,f5⟩:=hf it (by simp);have hl:=rv.length;exact wpAny_pyNext_tuple_end (I.ok.hd hc) st (show s.heap.IsTuple a its.toArray from p) (by simp;lia) λh' eb=>⟨rfl,I.turned (t':=s.toks) (λb o hb e=>eb b o hb e) f0 f1 f3 f4 f5⟩
 self:=λ_ _ _ _ _ st h=>wpAny_pyIter_tupleiter st h
theorem WS{P:Program}{w:World}{K:ah}{tg:Expr}(it:Addr)(lo:Int)(n:Nat):Turn P w K tg (Ac lo n) [it] it (λi h=>IsRangeIter h it (lo + (i:Nat) * 1) ((n:Int) - (i:Nat)) 1) where
 mem:=by simp
 obj:=λi h st b hb=>by
  have e:b=it:=by simpa using hb
  subst e;exact⟨_,st,λv z=>by
   have z':Data.fields _=Data.cell v:=z;cases z'⟩
 keep:=λi h h' st k=>k it (by simp) _ st
 item:=by
  intro X hP hw hK hc i ab s σ H E I hf st hg;subst hP hw hK;obtain⟨f0,f1,f2,f3,f4,f5⟩:=hf it (by simp);have W:=Walks.range (prog:=X.prog) (w:=X.w) (I.ok.hd hc) it lo 1 n;refine W.item i s _ _ hg st λv h' tk hv e5 kk=> ?_;obtain⟨t,rfl⟩:=hv;have I1:Inv X ab σ H { s with heap:=h',toks:=tk }:=I.turned (λb o hb e=>kk b o (by simpa using hb) e) f0 f1 f3 f4 f5;refine⟨_,rfl,Ab (s:= { s with heap:=h',toks:=tk }) (n:="range_iterator") e5 rfl rfl (by decide) ⟨.int (lo + i),H,I1,⟨t, ?_⟩,⟨rfl,rfl⟩,e5,λb hb=>(hf b hb).1⟩⟩;rw[Int.mul_one]
 done:=by
  intro X hP hw hK hc i ab s σ H E I hf st hg;subst hP hw hK;obtain⟨f0,f1,f2,f3,f4,f5⟩:=hf it (by simp);exact wpAny_pyNext_range_end (I.ok.hd hc) st (by have:n<=i:=hg;lia) λh' eb=>⟨rfl,I.turned (t':=s.toks) (λb o hb e=>eb b o hb e) f0 f1 f3 f4 f5⟩
 self:=λ_ _ _ _ _ st h=>wpAny_pyIter_rangeiter st h
section
variable {X:Cx}
theorem Ow{ab:List (Addr×Obj)}{σ:St}{H:Hp}{s:Shared}{R:It->Hp->Prop}{E:Value->Shared->Prop}{lo hi:Int}{t u v:Tok}{tk:Nat}(I:Inv X ab σ H s)(h1: -(2 ^ 62)<=lo)(h2:lo < 2 ^ 62)(h3: -(2 ^ 62)<=hi)(h4:hi < 2 ^ 62)
  (q:R (Ac lo (hi - lo).toNat) H):wpAny (model X.prog X.w) X.A (pyIter (.ref s.heap.objs.size)) (CI X ab σ tg R) E { s with heap:=s.heap.push { cls:= .type "range",data:= .fields #[.int lo t, .int hi u, .int 1 v] },toks:=tk }:=by
 refine wpAny_pyIter_range (IsRange.new ..) (small_one h1 h2 h3 h4) ?_;have I1:Inv X ab σ H { s with heap:=s.heap.push { cls:= .type "range",data:= .fields #[.int lo t, .int hi u, .int 1 v] },toks:=tk }:=I.kept λb o e=>cB _ e;refine⟨(s.heap.push { cls:= .type "range",data:= .fields #[.int lo t, .int hi u, .int 1 v] }).objs.size, [(s.heap.push { cls:= .type "range",data:= .fields #[.int lo t, .int hi u, .int 1 v] }).objs.size],_,_,H,rfl,
  I1.kept (t':=tk) λb o e=>cB _ e,WS _ lo (hi - lo).toNat, ?_,λb hb=> ?_,q⟩
 ·have e1:lo + ((0:Nat):Int) * 1=lo:=by simp
  have e2:(((hi - lo).toNat:Nat):Int) - ((0:Nat):Int)=Builtin.Range.rangeSize lo hi 1:=by rw[rangeSize_one];split <;> lia
  show IsRangeIter _ _ (lo + ((0:Nat):Int) * 1) ((((hi - lo).toNat:Nat):Int) - ((0:Nat):Int)) 1;rw[e1,e2];exact gc _ rfl
 ·have e:b=(s.heap.push { cls:= .type "range",data:= .fields #[.int lo t, .int hi u, .int 1 v] }).objs.size:=by simpa using hb
  subst e;exact I1.Aa (bO _) (I1.aQ.fresh (bO _))
def CK(ta:TA):TI:=λσ H R=>ta σ H λvs H1=>∃j:Int,vs= [.int j]/\ -(2 ^ 62)<=j/\j < 2 ^ 62/\R (Ac 0 j.toNat) H1
theorem CL{a:Expr}{ta:TA}{p pos:Pos}(hg:Gl X "range")(hm:X.mg "range"=none)(ha:PA X [a] ta)(hs:dz [a] X.env= [(false,eval a X.env)]:=by rfl):PI X tg (.Call (.Name "range" p) [a] [] pos) (CK ta):=by
 intro ab s σ H R I h;refine Call_ (xq I hg hm boot_range (Ny (bh (ha pos ab s σ H _ I h) λus s1 ⟨vs,H1,I1,r1,q1⟩=> ?_) hs rfl));obtain⟨j,e,q1,q2,q⟩:=q1;subst e;cases r1 with
 |cons r rr=>
  cases rr;obtain⟨t,rfl⟩:=r;exact call_range_1 (Ow I1 (by lia) (by lia) q1 q2 (by simpa using q))
def xv(wi:TI)(g:TG)(tb:TS):TS:=λD σ H=>wi σ H λJ H1=>∃W:Nat->Nat->St->Hp->Prop,(∃m,W 0 m σ H1)/\∀i m σ H,W i m σ H->
 (J.stop i H/\D.nx σ H)\/(J.go i H/\∃N:St->Hp->Prop,(∀aF H',N aF H'->∃m',m' < m/\W (i + 1) m' aF H')/\∀x H',J.s9 i H x H'->g x σ H' λeY H2=>tb { D with nx:=N,ct:=N,bk:=D.nx } eY H2)
noncomputable def Ad (fp:List Addr) (h:Heap):List (Addr×Obj):=fp.filterMap λb=>(h.get? b).map λo=>(b,o)
theorem CM{h:Heap}{b:Addr}{o:Obj}(hb:b∈fp)(e:h.get? b=some o):(b,o)∈Ad fp h:=Vy.mpr ⟨b,hb,by rw[e];rfl⟩
theorem WU{h:Heap}{p:Addr×Obj}(hp:p∈Ad fp h):p.1∈fp/\h.get? p.1=some p.2:=by
 obtain⟨b,hb,e⟩:=Vy.mp hp;cases q:h.get? b with
 |none=>rw[q]at e;cases e
 |some o=>
  rw[q]at e;have e':(b,o)=p:=hV e;subst e';exact⟨hb,q⟩
theorem Inv.pinned{ab:List (Addr×Obj)}{σ:St}{H:Hp}{s:Shared}(I:Inv X ab σ H s)(hf:∀b∈fp,jT X ab H b)(ho:∀b∈fp,∃o,s.heap.get? b=some o/\∀v,o.data≠ .cell v):Inv X (ab++Ad fp s.heap) σ H s:=
 I.CB λp hp=>(lZ.mp hp).elim (λz=>I.pin p (kg _ z)) λz=>by
  obtain⟨hb,e⟩:=WU z;obtain⟨f0,f1,f2,_⟩:=hf p.1 hb;obtain⟨o,e',d⟩:=ho p.1 hb;rw[e]at e';cases e';exact⟨e,f0,f1,f2,d⟩
theorem Inv.CN{ab pl:List (Addr×Obj)}{σ:St}{H:Hp}{s:Shared}(I:Inv X (ab++pl) σ H s):Inv X ab σ H s:=I.CB λp hp=>I.pin p (kg _ (qR _ hp))
theorem tq{iter:Expr}{body:List Stmt}{wi:TI}{g:TG}{tb:TS}{pos:Pos}(hp:PassesOwn (model X.prog X.w) X.A X.env X.xe)(hc:X.calm=true)(hi:PI X tg iter wi)(hg:PG X tg g)(hb:jc X body tb)
  (hs:∀x,atW iter X.env x=pure x:=by intro _;rfl):PS X (.For tg iter body [] pos) (xv wi g tb):=by
 intro ab s σ H D I h;refine wpAny_For (bh (hi ab s σ H _ I h) λv s1 h1=>bh h1 λGg s2 h2=> ?_) hs;obtain⟨it,fp,tn,J,H2,e,I2,T,dJ,f2,W,⟨m0,w0⟩,turn⟩:=h2;subst e
 -- what alR true of the aiT objects through the loop
 have vi:∀{H':Hp},(∀b∈fp,H' b=none)->∀b∈fp,jT X ab H' b:=λhn b hb=>⟨hn b hb,(f2 b hb).2⟩
 refine codeAny_forLoop_any (λn s'=>∃i aF H',Inv X ab aF H' s'/\tn i s'.heap/\(∀b∈fp,H' b=none)/\W i n aF H') ?_ m0 ⟨0,σ,H2,I2,dJ,λb hb=>(f2 b hb).1,w0⟩;rintro n s3 ⟨i,eh,H3,I3,gZ,Oy,w3⟩;rcases turn i n eh H3 w3 with⟨stop,qn⟩ | ⟨go,N,hN,step⟩
 ·refine zd hp (bh (T.done X rfl rfl rfl hc i ab s3 eh H3 X.xe I3 (vi Oy) gZ stop) λr s4 ⟨hr,I4⟩=> ?_);subst hr;exact Nl ⟨eh,H3,I4,qn⟩
 ·refine zd hp (bh (T.item X rfl rfl rfl hc i ab s3 eh H3 X.xe I3 (vi Oy) gZ go) λr s4 ⟨u,hr,h4⟩=> ?_);subst hr;refine zd hp (bh h4 λ_ s5 ⟨x,H5,I5,r5,y5,rf,Gh⟩=> ?_);have WV:=I5.pinned (vi Gh) (T.obj _ _ rf);refine zd hp (bh (hg _ s5 eh H5 x u _ WV r5 (step x H5 y5)) λ_ s6 ⟨n6,H6,I6,q6⟩=> ?_);refine zd hp (bh (hb _ s6 n6 H6 _ I6 q6) λf s7 q7=> ?_);have again:∀{md:St} {H7:Hp},Inv X (ab++Ad fp s5.heap) md H7 s7->N md H7->∃m,m < n/\∃i aF H',Inv X ab aF H' s7/\tn i s7.heap/\(∀b∈fp,H' b=none)/\W i m aF H':=λ{md H7} I7 n7=>by
   obtain⟨m',hm,w7⟩:=hN md H7 n7;refine⟨m',hm,i + 1,md,H7,I7.CN,T.keep _ _ _ rf λb hb o e=>(I7.pin (b,o) (kg _ (kg _ (CM hb e)))).1,λb hb=> ?_,w7⟩;obtain⟨o,e,d⟩:=T.obj _ _ rf b hb;exact(I7.pin (b,o) (kg _ (kg _ (CM hb e)))).2.1
  cases f with
  |next=>obtain⟨md,H7,I7,n7⟩:=q7;exact again I7 n7
  |cont=>obtain⟨md,H7,I7,n7⟩:=q7;exact again I7 n7
  |brk=>obtain⟨md,H7,I7,q7⟩:=q7;exact⟨md,H7,I7.CN,q7⟩
  |ret v=>obtain⟨x7,md,H7,I7,r7,q7⟩:=q7;exact⟨x7,md,H7,I7.CN,r7,q7⟩
end
abbrev R2:=V->V->Hp->VK->Prop
def cu(X:Cx)(f:Value->Value->Sem Value)(r:R2):Prop:=
 ∀(ab:List (Addr×Obj)) (s:Shared) (σ:St) (H:Hp) (x y:V) (v u:Value) (Q:VK),Inv X ab σ H s->RelV x v->RelV y u->r x y H Q->
  wpAny (model X.prog X.w) X.A (f v u) (EP X ab σ Q) X.xe s
def Gi(X:Cx)(f:Value->Sem Value)(r:V->Hp->VK->Prop):Prop:=
 ∀(ab:List (Addr×Obj)) (s:Shared) (σ:St) (H:Hp) (x:V) (v:Value) (Q:VK),Inv X ab σ H s->RelV x v->r x H Q->
  wpAny (model X.prog X.w) X.A (f v) (EP X ab σ Q) X.xe s
def fT(X:Cx)(f:Value)(r:List V->Hp->VK->Prop):Prop:=
 ∀(ab:List (Addr×Obj)) (s:Shared) (σ:St) (H:Hp) (xs:List V) (us:List Value) (Q:VK),Inv X ab σ H s->bj xs us->r xs H Q->
  wpAny (model X.prog X.w) X.A (call f us) (EP X ab σ Q) X.xe s
def ig(r:R2)(ta tb:TE):TE:=λσ H Q=>ta σ H λx H1=>tb σ H1 λy H2=>r x y H2 Q
def Oz(r:V->Hp->VK->Prop)(ta:TE):TE:=λσ H Q=>ta σ H λx H1=>r x H1 Q
def rI(C:Int->Int->Prop)(g:Int->Int->V):R2:=λx y H Q=>∃i j,x= .int i/\y= .int j/\C i j/\Q (g i j) H
def qj(g:Int->Int->V):R2:=λx y H Q=>∃i j,x= .int i/\y= .int j/\Q (g i j) H
def rU(g:Int->V):V->Hp->VK->Prop:=λx H Q=>∃i,x= .int i/\Q (g i) H
section
variable {X:Cx}{a b c:Expr}{pos:Pos}
theorem Gj(ha:PE X a ta)(hb:PE X b tb){ab:List (Addr×Obj)}{s:Shared}{σ:St}{H:Hp}{R:V->V->Hp->Prop}(I:Inv X ab σ H s)
  (h:ta σ H λx H1=>tb σ H1 λy H2=>R x y H2) {Q:Value->Shared->Prop} {f:Value->Value->Sem Value}
  (hf:∀v u s2 x y H2,Inv X ab σ H2 s2->RelV x v->RelV y u->R x y H2->wpAny (model X.prog X.w) X.A (f v u) Q X.xe s2):
  wpAny (model X.prog X.w) X.A (eval a X.env) (λv dD=>wpAny (model X.prog X.w) X.A (eval b X.env) (λu CO=>wpAny (model X.prog X.w) X.A (f v u) Q X.xe CO) X.xe dD) X.xe s:=by
 refine bh (ha ab s σ H _ I h) λv s1 ⟨x,H1,I1,r1,q1⟩=> ?_;refine bh (hb ab s1 σ H1 _ I1 q1) λu s2 ⟨y,H2,I2,r2,q2⟩=> ?_;exact hf v u s2 x y H2 I2 r1 r2 q2
theorem cF(ho:cu X (binaryOp op) r)(ha:PE X a ta)(hb:PE X b tb):PE X (.BinOp a op b pos) (ig r ta tb):=by
 intro ab s σ H Q I h;exact wpAny_BinOp (Gj ha hb I h λv u s2 x y H2 I2 rx ry q=>ho ab s2 σ H2 x y v u Q I2 rx ry q)
theorem Gk(ho:Gi X (unaryOp op) r)(ha:PE X a ta):PE X (.UnaryOp op a pos) (Oz r ta):=by
 intro ab s σ H Q I h;exact UnaryOp_ (bh (ha ab s σ H _ I h) λv s1 ⟨x,H1,I1,r1,q1⟩=>ho ab s1 σ H1 x v Q I1 r1 q1)
theorem CP{f:Value->Value->Sem Value}{C:Int->Int->Prop}{g:Int->Int->Int}
  (rule:∀(i j:Int) (t u:Tok) (s:Shared) (Q:Value->Shared->Prop) (E:Value->Shared->Prop),C i j->Q (.int (g i j) s.toks) { s with toks:=s.toks + 1 }->wpAny (model X.prog X.w) X.A (f (.int i t) (.int j u)) Q E s):
  cu X f (rI C λi j=> .int (g i j)):=by
 intro ab s σ H x y v u Q I rx ry h;obtain⟨i,j,rfl,rfl,hc,q⟩:=h;obtain⟨t,rfl⟩:=rx;obtain⟨t',rfl⟩:=ry;exact rule i j t t' s _ _ hc ⟨.int (g i j),H,I.tok _,⟨_,rfl⟩,q⟩
theorem OA{f:Value->Value->Sem Value}{g:Int->Int->Int}
  (rule:∀(i j:Int) (t u:Tok) (s:Shared) (Q:Value->Shared->Prop) (E:Value->Shared->Prop),Q (.int (g i j) s.toks) { s with toks:=s.toks + 1 }->wpAny (model X.prog X.w) X.A (f (.int i t) (.int j u)) Q E s):
  cu X f (qj λi j=> .int (g i j)):=by
 intro ab s σ H x y v u Q I rx ry h;obtain⟨i,j,rfl,rfl,q⟩:=h;obtain⟨t,rfl⟩:=rx;obtain⟨t',rfl⟩:=ry;exact rule i j t t' s _ _ ⟨.int (g i j),H,I.tok _,⟨_,rfl⟩,q⟩
theorem CQ{f:Value->Value->Sem Value}{g:Int->Int->Bool}
  (rule:∀(i j:Int) (t u:Tok) (s:Shared) (Q:Value->Shared->Prop) (E:Value->Shared->Prop),Q (.bool (g i j)) s->wpAny (model X.prog X.w) X.A (f (.int i t) (.int j u)) Q E s):
  cu X f (qj λi j=> .bl (g i j)):=by
 intro ab s σ H x y v u Q I rx ry h;obtain⟨i,j,rfl,rfl,q⟩:=h;obtain⟨t,rfl⟩:=rx;obtain⟨t',rfl⟩:=ry;exact rule i j t t' s _ _ ⟨.bl (g i j),H,I,rfl,q⟩
def qk(i j:Int):Prop:=0<=j/\j<=1000000/\i.natAbs < 2 ^ 64
def mM(i j:Int):Prop:=(-(2 ^ 64) < i/\i < 2 ^ 64)\/(-(2 ^ 64) < j/\j < 2 ^ 64)
theorem mM.ok(h:mM i j):IntMulOk i j:=by
 rcases h with⟨h1,h2⟩ | ⟨h1,h2⟩
 ·exact .of_left (intBits_le_64 h1 h2)
 ·exact .of_right (intBits_le_64 h1 h2)
theorem WX:cu X (binaryOp .Add) (qj λi j=> .int (i + j)):=OA λ_ _ _ _ _ _ _ q=>add_int q
theorem OB:cu X (binaryOp .Sub) (qj λi j=> .int (i - j)):=OA λ_ _ _ _ _ _ _ q=>sub_int q
theorem tu:cu X (binaryOp .Mult) (rI mM λi j=> .int (i * j)):=CP λ_ _ _ _ _ _ _ hc q=>mul_int q hc.ok
theorem Ae:cu X (binaryOp .Mod) (rI (λ_ j=>0 < j) λi j=> .int (i % j)):=CP λi j _ _ _ _ _ hc q=>by
 have h1:(0:Int) < j:=hc;exact mod_int' (by lia) (by rw[Int.fmod_eq_emod_of_nonneg i (by lia)];exact q)
theorem WY:cu X (binaryOp .Pow) (rI qk λi j=> .int (i ^ j.toNat)):=CP λ_ _ _ _ _ _ _ hc q=>pow_int_small hc.1 hc.2.1 hc.2.2 q
theorem WZ{f:Value->Sem Value}{g:Int->Int}
  (rule:∀(i:Int) (t:Tok) (s:Shared) (Q:Value->Shared->Prop) (E:Value->Shared->Prop),Q (.int (g i) s.toks) { s with toks:=s.toks + 1 }->wpAny (model X.prog X.w) X.A (f (.int i t)) Q E s):
  Gi X f (rU λi=> .int (g i)):=by
 intro ab s σ H x v Q I rx h;obtain⟨i,rfl,q⟩:=h;obtain⟨t,rfl⟩:=rx;exact rule i t s _ _ ⟨.int (g i),H,I.tok _,⟨_,rfl⟩,q⟩
theorem Gm:Gi X (unaryOp .USub) (rU λi=> .int (-i)):=WZ λ_ _ _ _ _ q=>neg_int q
theorem Gp{ab:List (Addr×Obj)}{σ:St}{H:Hp}{s:Shared}{Q:VK}(I:Inv X ab σ H s)(q:Q (.bl k) H)(e:k=k'):EP X ab σ Q (.bool k') s:=by
 subst e;exact⟨.bl k,H,I,rfl,q⟩
theorem W0:cu X (compareOp .Lt) (qj λi j=> .bl (decide (i < j))):=CQ λ_ _ _ _ _ _ _ q=>lt_int q
theorem xw:cu X (compareOp .LtE) (qj λi j=> .bl (decide (i<=j))):=CQ λ_ _ _ _ _ _ _ q=>le_int q
theorem Gq:cu X (compareOp .Gt) (qj λi j=> .bl (decide (j < i))):=CQ λ_ _ _ _ _ _ _ q=>gt_int q
theorem W2:cu X (compareOp .GtE) (qj λi j=> .bl (decide (j<=i))):=CQ λ_ _ _ _ _ _ _ q=>ge_int q
theorem W3:cu X (compareOp .In) (λx y H Q=>∃i j,x= .str i/\y= .str j/\Q (.bl (!(Nz j i 0 j.length 1).isEmpty)) H):=by
 intro ab s σ H x y v u Q I rx ry h;obtain⟨i,j,rfl,rfl,q⟩:=h;obtain⟨t,rfl⟩:=rx;obtain⟨t',rfl⟩:=ry;exact in_str (Gp I q rfl)
theorem W4:cu X (compareOp .Is) (λx y H Q=>y= .aG/\Q (.bl (decide (x= .aG))) H):=by
 intro ab s σ H x y v u Q I rx ry h;obtain⟨rfl,q⟩:=h;cases ry;refine is_none_gen (Gp I q ?_);cases x <;> first
  |(cases rx;rfl)
  |(obtain⟨t,rfl⟩:=rx;rfl)
theorem W5:cu X (compareOp .IsNot) (λx y H Q=>y= .aG/\Q (.bl (!decide (x= .aG))) H):=by
 intro ab s σ H x y v u Q I rx ry h;obtain⟨rfl,q⟩:=h;cases ry;refine isnot_none_gen (Gp I q ?_);cases x <;> first
  |(cases rx;rfl)
  |(obtain⟨t,rfl⟩:=rx;rfl)
theorem rg(b:Expr)(h:op≠ .In:=by decide)(h2:op≠ .NotIn:=by decide):B3 op b=false:=by
 have e1:(op == CmpOp.In)=false:=by cases op <;> first | rfl | exact absurd rfl h
 have e2:(op == CmpOp.NotIn)=false:=by cases op <;> first | rfl | exact absurd rfl h2
 cases b <;> simp[B3,e1,e2]
theorem jd(ho:cu X (compareOp op) r)(ha:PE X a ta)(hb:PE X b tb)(hm:B3 op b=false):PE X (.Compare a [op] [b] pos) (ig r ta tb):=by
 intro ab s σ H Q I h;exact wpAny_Compare1 (Gj ha hb I h λv u s2 x y H2 I2 rx ry q=>ho ab s2 σ H2 x y v u Q I2 rx ry q) hm
def vk(t:TE):TT:=λσ H Q=>t σ H λx H'=>∃k,x= .bl k/\Q k H'
theorem iM(ho:cu X (compareOp op) r)(ha:PE X a ta)(hb:PE X b tb)(hm:B3 op b=false):PT X (.Compare a [op] [b] pos) (vk (ig r ta tb)):=by
 intro ab s σ H Q I h;refine wpAny_isTrue_Compare1 (bh (ha ab s σ H _ I h) λv s1 ⟨x,H1,I1,r1,q1⟩=>bh (hb ab s1 σ H1 _ I1 q1) λu s2 ⟨y,H2,I2,r2,q2⟩=>
  bh (ho ab s2 σ H2 x y v u _ I2 r1 r2 q2) λc s3 ⟨z,H3,I3,r3,k,e,q3⟩=> ?_) hm
 subst e;cases r3;exact uK ⟨H3,I3,q3⟩
def OC(r r':R2)(ta tb tc:TE):TE:=λσ H Q=>ta σ H λx H1=>tb σ H1 λy H2=>r x y H2 λz H3=>∃k,z= .bl k/\
 (if k=true then tc σ H3 λw' H4=>r' y w' H4 Q else Q (.bl false) H3)
theorem OD(ho:cu X (compareOp op) r)(jS:cu X (compareOp OE) r')(ha:PE X a ta)(hb:PE X b tb)(hc:PE X c tc)
  (hm:lastMarks [op,OE] [b,c]=false:=by with_unfolding_all rfl):PE X (.Compare a [op,OE] [b,c] pos) (OC r r' ta tb tc):=by
 intro ab s σ H Q I h;refine Compare_chain (bh (ha ab s σ H _ I h) λv s1 ⟨x,H1,I1,r1,q1⟩=>chain_link (bh (hb ab s1 σ H1 _ I1 q1) λu s2 ⟨y,H2,I2,r2,q2⟩=>
  bh (ho ab s2 σ H2 x y v u _ I2 r1 r2 q2) λd s3 ⟨z,H3,I3,r3,k,e,q3⟩=> ?_)) hm
 subst e;cases r3;refine uK ?_;cases k with
 |false=>exact ite_ff ⟨.bl false,H3,I3,rfl,q3⟩
 |true=>exact ite_tt (chain_last (bh (hc ab s3 σ H3 _ I3 q3) λw' s4 ⟨z',H4,I4,r4,q4⟩=>jS ab s4 σ H4 y z' u w' Q I4 r2 r4 q4))
theorem apm(ho:cu X (compareOp op) r)(jS:cu X (compareOp OE) r')(ha:PE X a ta)(hb:PE X b tb)(hc:PE X c tc)
  (hm:lastMarks [op,OE] [b,c]=false:=by with_unfolding_all rfl):PT X (.Compare a [op,OE] [b,c] pos) (vk (OC r r' ta tb tc)):=by
 intro ab s σ H Q I h;refine isTrue_chain (bh (ha ab s σ H _ I h) λv s1 ⟨x,H1,I1,r1,q1⟩=>test_link (bh (hb ab s1 σ H1 _ I1 q1) λu s2 ⟨y,H2,I2,r2,q2⟩=>
  bh (ho ab s2 σ H2 x y v u _ I2 r1 r2 q2) λd s3 ⟨z,H3,I3,r3,k,e,q3⟩=> ?_)) hm
 subst e;cases r3;refine uK ?_;cases k with
 |false=>
  obtain⟨k',e',q'⟩:=q3;cases e';exact ite_ff ⟨H3,I3,q'⟩
 |true=>
  refine ite_tt (test_last (bh (hc ab s3 σ H3 _ I3 q3) λw' s4 ⟨z',H4,I4,r4,q4⟩=>bh (jS ab s4 σ H4 y z' u w' _ I4 r2 r4 q4) λd' s5 ⟨z2,H5,I5,r5,k2,e2,q5⟩=> ?_));subst e2;cases r5;exact uK ⟨H5,I5,q5⟩
theorem vm:(aM:Nat) < 2 ^ 63:=by rw[mG];decide
theorem W9:cu X (binaryOp .Add) (λx y H Q=>∃i j,x= .str i/\y= .str j/\i.length + j.length<=aM/\Q (.str (i++j)) H):=by
 intro ab s σ H x y v u Q I rx ry h;obtain⟨i,j,rfl,rfl,hz,q⟩:=h;obtain⟨t,rfl⟩:=rx;obtain⟨t',rfl⟩:=ry;exact add_str (λt' tk=>⟨.str (i++j),H,I.tok _,⟨_,rfl⟩,q⟩) hz
theorem vals1{x:V}(r:bj [x] us):∃u,us= [u]/\RelV x u:=by
 cases r with
 |cons r1 r2=>cases r2;exact⟨_,rfl,r1⟩
theorem vals2{x y:V}(r:bj [x,y] us):∃u w',us= [u,w']/\RelV x u/\RelV y w':=by
 cases r with
 |cons r1 r2=>
  cases r2 with
  |cons r3 r4=>cases r4;exact⟨_,_,rfl,r1,r3⟩
theorem Xc(hc:X.calm=true):fT X (.builtin "min") (λxs H Q=>∃i j,xs= [.int i, .int j]/\Q (.int (if j < i then j else i)) H):=by
 intro ab s σ H xs us Q I r h;obtain⟨i,j,rfl,q⟩:=h;obtain⟨u,w',rfl,⟨t,rfl⟩,⟨t',rfl⟩⟩:=vals2 r;refine min_two_ints (I.ok.hd hc) λh' tk k=>⟨_,H,I.kept k, ?_,q⟩
 by_cases hj:j < i
 ·rw[if_pos hj,if_pos hj];exact⟨_,rfl⟩
 ·rw[if_neg hj,if_neg hj];exact⟨_,rfl⟩
theorem Xe:fT X (.type "str") (λxs H Q=>∃i,xs= [.int i]/\i.natAbs.log2 < 1920/\Q (.str (toString i)) H):=by
 intro ab s σ H xs us Q I r h;obtain⟨i,rfl,hz,q⟩:=h;obtain⟨u,rfl,t,rfl⟩:=vals1 r;exact PySem.P.str_of_int hz ⟨.str _,H,I.tok _,⟨_,rfl⟩,q⟩
end
structure xx(h:Heap)(x dx C:Addr)(mA:Str->Option Value):Prop where
 obj:h.get? x=some (W.instObj C dx)
 ns:h.Ns1 dx mA
 ne:dx≠x
theorem Xf{h:Heap}{mA:Str->Option Value}(n:h.Ns1 dx mA):∃od,h.get? dx=some od/\∀name,W.lookIn name od=some (mA name):=by
 obtain⟨o,es,ep,ho,hd,hk,_,hm⟩:=n;refine⟨o,ho,λname=> ?_⟩;have e:=hm name;unfold nsFind findBy at e;rw[<- Array.find?_toList]at e;unfold W.lookIn;rw[hd];dsimp only
 split
 ·rename_i y q
  rw[q]at e;exact congrArg some e
 ·rename_i q
  rw[q]at e;have a:es.toList.any (·.refKey)=false:=by
   rw[ax4];intro y hy;obtain⟨z,t,Af⟩:=hk y (ax5.mp hy);simp[Nn.refKey,Af]
  have a':¬ es.toList.any (·.refKey)=true:=by rw[a];exact df
  rw[if_neg a'];exact congrArg some e
theorem xx.look{h:Heap}{x dx C:Addr}{mA:Str->Option Value}(I:xx h x dx C mA):∃od,W.InstAt h x (W.instObj C dx) C (some od)/\∀name,W.lookIn name od=some (mA name):=
 let ⟨od,ho,hl⟩:=Xf I.ns
 ⟨od,⟨I.obj,rfl,rfl,ho⟩,hl⟩
section
variable {prog:Program}{w:World}{A:Around}{E:Value->Shared->Prop}{s:Shared}{K:ah}{x dx C f:Addr}{mA:Str->Option Value}{name:Str}{v:Value}
end
theorem n5.some_of{v:V}{o:Option Value}(r:n5 (some v) o):∃u,o=some u/\RelV v u:=by
 cases o with
 |none=>exact(show False from r).elim
 |some u=>exact⟨u,rfl,r⟩
section
variable {P:Program}{w:World}{H H':Hp}{h h':Heap}{a C dx:Addr}
theorem kO(aQ:gB P w H h)(e:H a=some (.ins C dx fs)):∃mA,xx h a dx C mA/\(∀f,n5 (fs.lookup f) (mA f))/\PySem.Within mA (fs.map (·.1))/\fs.length<=1000/\H dx=some (.own a):=by
 obtain⟨d,z,ne,ob,mA,n,r,q⟩:=(show gr P w H h a (.ins C dx fs) from aQ a _ e)
 exact⟨mA,⟨ob,n,ne⟩,r,q,z,d⟩
end
structure mN(K:ah)(C:Addr):Prop where
 pg:W.plainGet K C xf=true
 hd:W.hasDictIn K C=true
 po:W.plainOver K C=true
 sa:W.findIn K (.ref C) "__setattr__"=some (some (.builtin "object.__setattr__"))
theorem mN.get{K:ah}{C:Addr}(c:mN K C)(f:Str):W.plainGet K C f=true:=c.pg
def mf(K:ah)(C:Addr)(f:Str):Prop:=W.findIn K (.ref C) f=some none
section
variable {X:Cx}{ab:List (Addr×Obj)}{σ:St}{H:Hp}{s:Shared}{a C dx:Addr}{f:Str}{v:V}{A:Around}{E:Value->Shared->Prop}
end
section
variable {X:Cx}{o e value:Expr}{f:Str}{pos pos' Ah:Pos}
end
section
variable {X:Cx}{ab:List (Addr×Obj)}{σ:St}{H:Hp}{s:Shared}{A:Around}{E:Value->Shared->Prop}{Q:Value->Shared->Prop}
inductive kP(K:ah)(H:Hp):V->Value->Prop where
 |aG:kP K H .aG (.type "NoneType")
 |bl (x:Bool):kP K H (.bl x) (.type "bool")
 |int (i:Int):kP K H (.int i) (.type "int")
 |str (x:Str):kP K H (.str x) (.type "str")
 |kl (x:UInt64):kP K H (.kl x) (.type "float")
 |lst {a:Addr} {xs:List V} (e:H a=some (.lst xs)):kP K H (.ref a) (.type "list")
 |b9 {a:Addr} {o:Obj} {xs:List V} (e:H a=some (.b9 o (.lst xs))):kP K H (.ref a) (.type "list")
 |tup {a:Addr} {xs:List V} (e:H a=some (.tup xs)):kP K H (.ref a) (.type "tuple")
 |dK {a:Addr} {ai:List (bc×V)} (e:H a=some (.dK ai)):kP K H (.ref a) (.type "dict")
 |dT {a:Addr} {ai:List (List bc×V)} (e:H a=some (.dT ai)):kP K H (.ref a) (.type "dict")
 |ins {a C dx:Addr} {fs:List (Str×V)} (e:H a=some (.ins C dx fs)) (cl:mN K C) (ha:W.findIn K (.ref C) "__class__"=some (some (.builtin "object.__class__")))
   (hn:W.specialIn K (.builtin "object.__class__") "__get__"=some (some (.builtin "getset_descriptor.__get__"))) (CT:W.takesIn K (.builtin "object.__class__")=some true)
   (hm:W.mroIn K C (.type "object")=some true):kP K H (.ref a) (.ref C)
theorem Xt{x:V}{u t:Value}(I:Inv X ab σ H s)(rx:RelV x u)(ty:kP X.K H x t)(e:xg X.K t c=some b)(h:∀tk,Q (.bool b) { s with toks:=tk }):
  wpAny (model X.prog X.w) A (call (.builtin "isinstance") [u,c]) Q E s:=by
 cases ty with
 |aG=>cases(show u=jb from rx);exact qS W.kitx_none I.fN kh e (λz=>nomatch z) h
 |bl y=>cases(show u=zj y from rx);exact qS W.kitx_bool I.fN kh e (λz=>nomatch z) h
 |int i=>obtain⟨t,q⟩:=(show ∃t,u=w6 i t from rx);cases q;exact qS W.kitx_int I.fN kh e (λz=>nomatch z) h
 |str y=>obtain⟨t,q⟩:=(show ∃t,u=zi y t from rx);cases q;exact qS W.kitx_str I.fN kh e (λz=>nomatch z) h
 |kl y=>obtain⟨t,q⟩:=(show ∃t,u=Value.float y t from rx);cases q;exact qS W.kitx_float I.fN kh e (λz=>nomatch z) h
 | @lst a xs ea=>
  cases(show u=c7 a from rx);obtain⟨_,_,n,_,h1⟩:=(show gr X.prog X.w H s.heap a (.lst xs) from I.aQ a _ ea)
  exact qS ND I.fN ⟨_,h1,rfl⟩ e (λz=>nomatch z) h
 | @b9 a ob xs ea=>
  cases(show u=c7 a from rx);obtain⟨_,_,_,n,_,h1⟩:=(show gr X.prog X.w H s.heap a (.b9 ob (.lst xs)) from I.aQ a _ ea)
  exact qS ND I.fN ⟨_,h1,rfl⟩ e (λz=>nomatch z) h
 | @tup a xs ea=>
  cases(show u=c7 a from rx);obtain⟨_,_,_,p⟩:=(show gr X.prog X.w H s.heap a (.tup xs) from I.aQ a _ ea)
  obtain⟨o,h1,h2,_⟩:=p;exact qS W.kitx_tuple I.fN ⟨o,h1,h2⟩ e (λz=>nomatch z) h
 | @dK a ai ea=>
  cases(show u=c7 a from rx);obtain⟨_,_,vs,_,p⟩:=(show gr X.prog X.w H s.heap a (.dK ai) from I.aQ a _ ea)
  obtain⟨o,es,ep,h1,h2,_⟩:=p;exact qS NF I.fN ⟨o,h1,h2.1⟩ e (λz=>nomatch z) h
 | @dT a ai ea=>
  cases(show u=c7 a from rx);obtain⟨_,_,xs,_,o,es,ep,h1,h2,_⟩:=(show gr X.prog X.w H s.heap a (.dT ai) from I.aQ a _ ea)
  exact qS NF I.fN ⟨o,h1,h2.1⟩ e (λz=>nomatch z) h
 | @ins a C dx fs ea cl ha hn CT hm=>
  cases(show u=c7 a from rx);obtain⟨mA,O,_⟩:=kO I.aQ ea;obtain⟨od,J,_⟩:=O.look;exact qS (W.kitx_own (cl.get _) cl.hd ha hn CT hm) I.fN J e (λz=>nomatch z) h
end
structure gf(k:Nat)(A:Around):Prop where
 hd:A.handled=none
 dp:A.depth + 3 * k + 5 < recursionLimit
 un:A.units + 16 * k + 200 < cLine
 gd:A.guards=some []
theorem gf.mono{A:Around}(r:gf k A)(h:j<=k):gf j A:=⟨r.hd,by have:=r.dp;lia,by have:=r.un;lia,r.gd⟩
theorem gf.deeper{A:Around}(r:gf (k + 1) A)(env:Env):gf k (A.deeper env):=
 ⟨r.hd,by have:=r.dp;show A.depth + 1 + 3 * k + 5 < _;lia,by have:=r.un;show A.units + 3 + 16 * k + 200 < _;lia,r.gd⟩
theorem gf.depth{A:Around}(r:gf k A):A.depth < recursionLimit:=by have:=r.dp;lia
theorem gf.units{A:Around}(r:gf k A):A.units + 64 < cLine:=by have:=r.un;lia
def fz:TA:=λ_ H Q=>Q [] H
def di(ta:TE)(tr:TA):TA:=λσ H Q=>ta σ H λx H1=>tr σ H1 λxs H2=>Q (x::xs) H2
section
variable {X:Cx}{e:Expr}{es:List Expr}{te:TE}{t:TA}{pos:Pos}
theorem gk:PA X [] fz:=λ_ _ _ _ H Q I h=>Calls.spliced_nil ⟨[],H,I, .nil,h⟩
theorem fJ(ha:PE X e te)(hr:PA X es t)(hs:dz (e::es) X.env=(false,eval e X.env)::dz es X.env:=by rfl):PA X (e::es) (di te t):=by
 intro pos ab s σ H Q I h;rw[hs];show wpAny _ _ (spliced ((false,eval e X.env)::backTo pos (dz es X.env))) _ _ s;refine Calls.spliced_cons (bh (ha ab s σ H _ I h) λu s1 ⟨x,H1,I1,r1,q1⟩=> ?_);exact bh (hr pos ab s1 σ H1 _ I1 q1) λus s2 ⟨xs,H2,I2,r2,q2⟩=>⟨x::xs,H2,I2, .cons r1 r2,q2⟩
def Ai(t:TA):TE:=λσ H Q=>t σ H λxs H1=>xs.length<=aM/\∀p,H1 p=none->Q (.ref p) (cf H1 p (.tup xs))
def vn(t:TA):TE:=λσ H Q=>t σ H λxs H1=>xs.length<=aM/\∀p,H1 p=none->Q (.ref p) (cf H1 p (.lst xs))
theorem ez{x1}(h:PA X es t):PE X (.Tuple es x1 pos) (Ai t):=by
 intro ab s σ H Q I hq;refine wpAny_Tuple_spliced (bh (h pos ab s σ H _ I hq) λus s1 ⟨xs,H1,I1,r,z,q⟩=>⟨by rw[<- r.length];exact z, ?_⟩);have hf:H1 s1.heap.objs.size=none:=I1.aQ.fresh (bO _);refine⟨.ref s1.heap.objs.size,cf H1 s1.heap.objs.size (.tup xs),I1.laid (t':=s1.toks) (λb u e=>cB _ e) (bO _) ?_,rfl,q _ hf⟩;exact⟨z,us,r,⟨_,gc _ rfl,rfl,_,rfl⟩⟩
theorem iX(h:PA X es t):PE X (.List es pos) (vn t):=by
 intro ab s σ H Q I hq;refine wpAny_List_spliced (bh (h pos ab s σ H _ I hq) λus s1 ⟨xs,H1,I1,r,z,q⟩=>⟨by rw[<- r.length];exact z, ?_⟩);have hf:H1 s1.heap.objs.size=none:=I1.aQ.fresh (bO _);refine⟨.ref s1.heap.objs.size,cf H1 s1.heap.objs.size (.lst xs),I1.laid (t':=s1.toks) (λb u e=>cB _ e) (bO _) ?_,rfl,q _ hf⟩;exact⟨z,us,0,r,gc _ rfl⟩
end
abbrev Sp:=List V->Hp->VK->XK->Prop
abbrev rh:=List Env->Hp->Shared->XK->Value->Shared->Prop
structure vo(P:Program)(w:World)(K:ah)(mg:Str->Option Value)(base:Heap)(A:Around)(outer:List Env)(s:Shared)(H:Hp):Prop where
 frames:A.frames=some outer
 mod:Mod K mg base
 bs:∀b o,base.get? b=some o->s.heap.get? b=some o/\H b=none
 qe:base.objs.size<=s.heap.objs.size
 nX:s.heap.FunFrames base outer
 vc:∀b∈l3 outer,H b=none
 aQ:gB P w H s.heap
 bare:wO s.gens
def CE(outer:List Env)(P:Program)(w:World)(H:Hp)(s:Shared)(Q:VK)(u:Value)(s':Shared):Prop:=
 ∃v H',s'.os=s.os/\wO s'.gens/\Un (l3 outer) [] H H' s.heap s'.heap/\gB P w H' s'.heap/\RelV v u/\Q v H'
def CR(CX:rh)(outer:List Env)(P:Program)(w:World)(H:Hp)(s:Shared)(Q:VK)(E:XK)(r:Result)(s':Shared):Prop:=
 match r with
 |.ok (.ret u)=>CE outer P w H s Q u s'
 |.ok _=>False
 |.error e=>CX outer H s E e s'
structure bZ(P:Program)(w:World)(K:ah)(mg:Str->Option Value)(base:Heap)(CX:rh)(k:Nat)(f:Addr)(fd:kK)(ps:List Str)(sp:Sp):Prop where
 len:∀vs H Q E,sp vs H Q E->vs.length=ps.length
 run:∀(A:Around) (outer:List Env) (s:Shared) (H:Hp) (args:Args) (us:List Value) (vs:List V) (Q:VK) (E:XK),gf k A->vo P w K mg base A outer s H->B4 s fd args (ps.zip us)->bj vs us->sp vs H Q E->
  qQ (model P w) A (.call (.ref f) args) (CR CX outer P w H s Q E) s
theorem bZ.imp{P:Program}{w:World}{K:ah}{f:Addr}{sp OM:Sp}(F:bZ P w K mg base CX k f fd ps sp)
  (h:∀vs H Q E,OM vs H Q E->sp vs H Q E):bZ P w K mg base CX k f fd ps OM:=
 ⟨λvs H Q E q=>F.len vs H Q E (h _ _ _ _ q),λA outer s H args us vs Q E hr he hb hv hs=>F.run A outer s H args us vs Q E hr he hb hv (h _ _ _ _ hs)⟩
section
variable {X:Cx}{ab:List (Addr×Obj)}{σ:St}{H:Hp}{s s':Shared}
theorem Inv.ON(I:Inv X ab σ H s):vo X.prog X.w X.K X.mg X.base X.A X.stack s H:=
 ⟨I.ok.frames,I.ok.mod,I.bs,b7 I.ok.qe I.sz,I.stack,I.N9,I.aQ,I.bare⟩
theorem Inv.after{Q:VK}{u:Value}(I:Inv X ab σ H s)(h:CE X.stack X.prog X.w H s Q u s'):EP X ab σ Q u s':=by
 obtain⟨v,H',os,bare,un,aQ,r,q⟩:=h;obtain⟨hh,g,d,t,Gz⟩:=s';obtain rfl:Gz=s.os:=os;exact⟨v,H',I.call (h':=hh) (g':=g) (d':=d) (t':=t) (ch:= []) un aQ bare (λb z=>absurd z (by simp)),r,q⟩
end
def og(sp:Sp)(kQ:List V)(E:XK)(t:TA):TE:=λσ H Q=>t σ H λvs H1=>sp (vs++kQ) H1 Q E
def Binds(K:ah)(fd:kK)(ps:List Str)(ds:List Value):Prop:=
 ∀(s:Shared) (us:List Value),K.In s.heap->(us++ds).length=ps.length->B4 s fd ⟨us, []⟩ (ps.zip (us++ds))
theorem Binds.all{K:ah}{ps:List Str}(h:∀us:List Value,us.length=ps.length->bindArgs fd ⟨us, []⟩=pure (ps.zip us)):Binds K fd ps []:=λs us _ hl=>by
 rw[bR]at hl |-;exact .of_eq (h us hl)
def zb(CX:rh)(X:Cx)(E:XK):Prop:=∀(ab:List (Addr×Obj)) (σ:St) (H:Hp) (s:Shared) (e:Value) (s':Shared),Inv X ab σ H s->CX X.stack H s E e s'->X.xe e s'
section
variable {X:Cx}{k:Nat}{f C:Addr}{fd:kK}{ps:List Str}{sp:Sp}{E:XK}{x m:Str}{p pos jM:Pos}{e o:Expr}{es:List Expr}{t:TA}
theorem OO{ab:List (Addr×Obj)}{σ:St}{H:Hp}{s:Shared}{Q:VK}{us:List Value}{vs:List V}(F:bZ X.prog X.w X.K X.mg X.base CX k f fd ps sp)(hr:gf k X.A)(hb:Binds X.K fd ps ds)(hd:bj kQ ds)(hx:zb CX X E)
  (I:Inv X ab σ H s) (r:bj vs us) (h:sp (vs++kQ) H Q E):wpAny (model X.prog X.w) X.A (call (.ref f) us) (EP X ab σ Q) X.xe s:=by
 have r2:bj (vs++kQ) (us++ds):=r.append hd;have hl:(us++ds).length=ps.length:=by rw[<- r2.length];exact F.len _ _ _ _ h
 refine wpAny_call (B5 (F.run X.A X.stack s H ⟨us, []⟩ (us++ds) (vs++kQ) Q E hr I.ON (hb s us I.fN hl) r2 h) λr s' hq=> ?_);cases r with
 |error e=>exact hx ab σ H s e s' I hq
 |ok fl=>
  cases fl with
  |ret u=>exact I.after hq
  |next=>exact pj hq
  |brk=>exact pj hq
  |cont=>exact pj hq
theorem Xw(F:bZ X.prog X.w X.K X.mg X.base CX k f fd ps sp)(hr:gf k X.A)(hg:Gl X x)(hm:X.mg x=some (.ref f))(hk:uO X.K (.ref f)=true)(hb:Binds X.K fd ps ds)(hd:bj kQ ds)(hx:zb CX X E)
  (ha:PA X (e::es) t) (yy:(x == ("__debug__":Str))=false:=by decide) (he:dz (e::es) X.env=(false,eval e X.env)::dz es X.env:=by rfl) (dM:(backTo pos (dz es X.env)).any (·.1)=false:=by rfl):
  PE X (.Call (.Name x p) (e::es) [] pos) (og sp kQ E t):=by
 intro ab s σ H Q I h;refine FJ (CD I hg hm ?_ yy);refine W.callWith_K (h₀:=X.base) I.ok.mod.Cw hk (bh (ha pos ab s σ H _ I h) λus s1 ⟨vs,H1,I1,r,q⟩=>⟨I1.fN, ?_⟩) he dM;exact OO F hr hb hd hx I1 r q
variable {ks:List Str}{aiW:Pos}{te ta:TE}{tk:TA}
end
structure dr(N P:List Str)(sc:Scope):Prop where
 kind:sc.kind= .function
 co:sc.isCoroutine=false
 gen:sc.isGenerator=false
 nd:N.Nodup
 pre:N.take P.length=P
 par:∀x∈P,sc.names.lookup x=some .local\/sc.names.lookup x=some .cell
 XA:∀y∈sc.names,y.2≠ .free
theorem OP{kindOf:Str->Option dQ}{x:Str}:∀{binds:List (Str×Value)} {m:Str->Option Value},(∀v,(x,v)∉binds)->bindL kindOf binds m x=m x
 | [],_,_=>rfl
 |(n,v)::r,m,h=>by
  unfold bindL;rw[OP λw hw=>h w (nQ _ hw)]
  split
  ·have:x≠n:=by rintro rfl;exact h v xb
   simp[this]
  ·rfl
theorem OQ{kindOf:Str->Option dQ}{x:Str}:∀{binds:List (Str×Value)} {m:Str->Option Value},(∀v,(x,v)∉binds)->bindC kindOf binds m x=m x
 | [],_,_=>rfl
 |(n,v)::r,m,h=>by
  unfold bindC;rw[OQ λw hw=>h w (nQ _ hw)]
  split
  ·rfl
  ·have:x≠n:=by rintro rfl;exact h v xb
   simp[this]
theorem OR{kindOf:Str->Option dQ}{x:Str}{v:Value}:∀{P:List Str} {vs:List Value} {i:Nat} {m:Str->Option Value},P.Nodup->P[i]?=some x->vs[i]?=some v->kindOf x=some .local->
  bindL kindOf (P.zip vs) m x=some v
 | [],_,_,_,_,h,_,_=>by simp at h
 |_::_, [],_,_,_,_,h,_=>by simp at h
 |p::P,w::vs,0,m,nd,h1,h2,hk=>by
  simp at h1 h2;subst h1;subst h2;show bindL kindOf ((p,w)::P.zip vs) m p=_;unfold bindL;rw[OP λv hv=>(jP.mp nd).1 (NJ hv).1,if_pos hk];simp
 |p::P,w::vs,i + 1,m,nd,h1,h2,hk=>by
  show bindL kindOf ((p,w)::P.zip vs) m x=_;unfold bindL;exact OR (i:=i) (jP.mp nd).2 (by simpa using h1) (by simpa using h2) hk
theorem OS{kindOf:Str->Option dQ}{x:Str}{v:Value}:∀{P:List Str} {vs:List Value} {i:Nat} {m:Str->Option Value},P.Nodup->P[i]?=some x->vs[i]?=some v->kindOf x≠some .local->
  bindC kindOf (P.zip vs) m x=some v
 | [],_,_,_,_,h,_,_=>by simp at h
 |_::_, [],_,_,_,_,h,_=>by simp at h
 |p::P,w::vs,0,m,nd,h1,h2,hk=>by
  simp at h1 h2;subst h1;subst h2;show bindC kindOf ((p,w)::P.zip vs) m p=_;unfold bindC;rw[OQ λv hv=>(jP.mp nd).1 (NJ hv).1,if_neg hk];simp
 |p::P,w::vs,i + 1,m,nd,h1,h2,hk=>by
  show bindC kindOf ((p,w)::P.zip vs) m x=_;unfold bindC;exact OS (i:=i) (jP.mp nd).2 (by simpa using h1) (by simpa using h2) hk
noncomputable def start (N:List Str) (vs:List V):St:=vs.map some++ki (N.length - vs.length) none
noncomputable def rj (CX:rh) (P:Program) (w:World) (K:ah) (mg:Str->Option Value) (base:Heap) (N:List Str) (qual:Str) (scope:Scope) (f:Addr) (cd:Value) (A:Around) (outer:List Env) (s:Shared) (H:Hp) (E:XK):Cx where
 prog:=P
 w:=w
 K:=K
 mg:=mg
 base:=base
 A:=A.deeper (envOfC qual scope s.heap.objs.size f cd)
 N:=N
 gT:=s
 sS:=H
 env:=envOfC qual scope s.heap.objs.size f cd
 outer:=outer
 stack:=envOfC qual scope s.heap.objs.size f cd::outer
 ex:= []
 calm:=true
 fn:=λ_=>true
 pn:= []
 xe:=λe s'=>wpAny (model P w) (A.deeper (envOfC qual scope s.heap.objs.size f cd)) (leaving (envOfC qual scope s.heap.objs.size f cd) e) (λ_ GB=>CX outer H s E e GB) (λe' GB=>CX outer H s E e' GB) s'
theorem OT{sc:Scope}{x:Str}(h:sc.names.lookup x=some .cell):∃c,(nN n sc.names []).lookup x=some c:=by
 have q:=W.cellsFrom_some sc.names n [] (.inl h);exact VD.mp q
theorem XB{CX:rh}{P:Program}{w:World}{K:ah}{mg:Str->Option Value}{base:Heap}{N ps:List Str}{qual:Str}{scope:Scope}{f:Addr}{cd:Value}{A:Around}{outer:List Env}{s s1:Shared}{H:Hp}{E:XK}{us:List Value}{vs:List V}
  (S:dr N ps scope) (hd:A.handled=none) (e0:vo P w K mg base A outer s H) (hl:vs.length=ps.length) (r:bj vs us)
  (x:InCallC s s.heap.objs.size (bindL (envOfC qual scope s.heap.objs.size f cd).kindOf (ps.zip us) λ_=>none) (nN (s.heap.objs.size + 1) scope.names []) (bindC (envOfC qual scope s.heap.objs.size f cd).kindOf (ps.zip us) λ_=>none) s1):
  Inv (rj CX P w K mg base N qual scope f cd A outer s H E) [] (start N vs) H s1:=by
 have dM:ps.length<=N.length:=by have:=congrArg List.length S.pre;rw[Ce]at this;lia
 obtain⟨h1,tk,rfl,hk⟩:=x.done;have vq:∀b:Addr,b∉(rj CX P w K mg base N qual scope f cd A outer s H E).ex:=λb z=>absurd (show b∈([]:List Addr) from z) (by simp);refine⟨⟨e0.mod,S.kind,rfl,rfl,bO _,λy z c h1 h2=> ?_,λy hy=> ?_,λy c _ h=> ?_,λ_=>hd,Around.frames_deeper e0.frames, .inr ⟨rfl,rfl⟩,λb z=>absurd z (vq b),e0.bs,e0.qe,λb _ _=>vq b,λb z=>absurd z (vq b),e0.nX,e0.vc⟩,
  rfl,e0.bare,Un.kept hk,⟨_,x.toInCall.ns,λi y v h1 h2 h3=> ?_⟩,λy c h=>⟨_,x.cell y c h⟩,e0.aQ.fresh (bO _),λy c h=> ?_,λp hp=>absurd (show p∈([]:List (Addr×Obj)) from hp) (by simp),e0.aQ.kept hk, ?_⟩
 ·exact name_of_addr x.apart (xh h1) (xh h2)
 ·have hy:scope.names.lookup y=some .cell\/scope.names.lookup y=some .free:=hy;rcases hy with hy | hy
  ·exact OT hy
  ·exact absurd rfl (S.XA _ (xh hy))
 ·exact nO (x.above y c (xh h))
 ·have hi:i < vs.length:=by
   unfold start at h2;by_cases hi:i < vs.length
   ·exact hi
   ·rw[br (by simpa using hi)]at h2;rw[NK]at h2
    split at h2 <;> cases h2
  have ha:vs[i]?=some v:=by
   unfold start at h2;rw[aU (by simpa using hi),bJ]at h2;cases e:vs[i]? with
   |none=>rw[e]at h2;cases h2
   |some a=>rw[e]at h2;cases h2;rfl
  obtain⟨u,hu,rv⟩:=r.get ha;have hp:ps[i]?=some y:=by
   rw[<- S.pre,VE (by lia)];exact h1
  have OU:ps.Nodup:=by rw[<- S.pre];exact S.nd.sublist (List.take_sublist _ _)
  refine⟨u,rv, ?_⟩;rcases S.par y (jr hp) with k | k
  ·exact .inl ⟨k,OR OU hp hu k⟩
  ·obtain⟨c,e⟩:=OT (n:=s.heap.objs.size + 1) k;refine .inr ⟨.inl k,c,e, ?_⟩;have q:=x.cell y c e;rw[OS OU hp hu (by show scope.names.lookup y≠_;rw[k];decide)]at q;exact q
 ·exact e0.aQ.fresh (nO (x.above y c (xh h)))
 ·unfold start;show _=N.length;rw[bo,bb,zl]
  lia
theorem XC{CX:rh}{P:Program}{w:World}{K:ah}{mg:Str->Option Value}{base:Heap}{k:Nat}{f:Addr}{name qual:Str}{params:Arguments}{body:List Stmt}{scope:Scope}{dV kV doc pm dB ct oc:Value}{an od:Option Addr}
  {mO:Array (Option Value)} {N ps:List Str} {sp:Sp} (lk:K.lookup f=some ⟨oc,od, .func (qT name qual params body scope dV kV doc pm an dB ct),mO⟩) (pB:Cf K dB qual=true) (S:dr N ps scope)
  (len:∀vs H Q E,sp vs H Q E->vs.length=ps.length)
  (GC:∀(A:Around) (outer:List Env) (s:Shared) (H:Hp) (vs:List V) (Q:VK) (E:XK),gf k (A.deeper (envOfC qual scope s.heap.objs.size f dB))->sp vs H Q E->
   ∃t,jc (rj CX P w K mg base N qual scope f dB A outer s H E) body t/\t { nx:=λ_ H'=>Q .aG H',rt:=Q } (start N vs) H):
  bZ P w K mg base CX (k + 1) f (qT name qual params body scope dV kV doc pm an dB ct) ps sp:=by
 refine⟨len,λA outer s H args us vs Q E hr e0 hb r tw=> ?_⟩;have hl:=len _ _ _ _ tw;have KX:K.In s.heap:=e0.mod.Cw.keeps λb o e=>(e0.bs b o e).1;have lim:s.heap.NoLimit:=e0.mod.nolimit.keeps λb o e=>(e0.bs b o e).1;have tG:∀y∈ps.zip us,scope.names.lookup y.1=some .local\/(scope.names.lookup y.1=some .cell/\((nN (s.heap.objs.size + 1) scope.names []).lookup y.1).isSome=true):=λ⟨n,v⟩ hy=>by
  rcases S.par n (NJ hy).1 with q | q
  ·exact .inl q
  ·exact .inr ⟨q,W.cellsFrom_some _ _ _ (.inl q)⟩
 refine codeAny_call_function hr.depth (KX _ _ lk) rfl S.co S.gen rfl (W.codeRec_of KX pB) (hb _ _ _ _ ?_);refine wpAny_newFunctionEnv_cells S.kind tG λenv he s1 x=> ?_;subst he;refine⟨lim.keeps x.toInCall.keep,codeAny_func ?_⟩;obtain⟨t,ht,hq⟩:=GC A outer s H vs Q E (hr.deeper _) tw;have I:Inv (rj CX P w K mg base N qual scope f dB A outer s H E) [] (start N vs) H s1:=XB S hr.hd e0 hl r x;refine ja (ht [] s1 (start N vs) H _ I hq) (λfl s' hs=> ?_) λe s' hs=>hs;have fin:∀{aF:St} {H':Hp} {v:V} {u:Value},Inv (rj CX P w K mg base N qual scope f dB A outer s H E) [] aF H' s'->RelV v u->Q v H'->CE outer P w H s Q u s':=
  λ{aF H' v u} J rv q=>⟨v,H',J.os,J.bare,J.base,J.aQ,rv,q⟩
 cases fl with
 |ret u=>
  obtain⟨v,aF,H',J,rv,q⟩:=hs;exact fin J rv q
 |next=>
  obtain⟨aF,H',J,q⟩:=hs;exact fin (v:=V.aG) (u:=jb) J rfl q
 |brk=>
  obtain⟨_,_,_,q⟩:=hs;exact pj q
 |cont=>
  obtain⟨_,_,_,q⟩:=hs;exact pj q
section
variable {X:Cx}{x:Str}{p pos:Pos}{e:Expr}{es:List Expr}{t:TA}{id T:String}{r:List V->Hp->VK->Prop}
def jU(r:List V->Hp->VK->Prop)(t:TA):TE:=λσ H Q=>t σ H λvs H1=>r vs H1 Q
theorem fK(hc:fT X (.builtin id) r)(hg:Gl X x)(hm:X.mg x=none)(hv:B2 x=some (.builtin id))(ha:PA X (e::es) t)(hn:x≠"__name__":=by decide)(yy:(x == ("__debug__":Str))=false:=by decide)
  (he:dz (e::es) X.env=(false,eval e X.env)::dz es X.env:=by rfl) (dM:(backTo pos (dz es X.env)).any (·.1)=false:=by rfl):PE X (.Call (.Name x p) (e::es) [] pos) (jU r t):=by
 intro ab s σ H Q I h;refine FJ (xq I hg hm hv ?_ hn yy);exact PyProof.Rows.callWith_builtin1 (bh (ha pos ab s σ H _ I h) λus s1 ⟨vs,H1,I1,r1,q1⟩=>hc ab s1 σ H1 vs us Q I1 r1 q1) he dM
theorem oh(hc:fT X (.type T) r)(hg:Gl X x)(hm:X.mg x=none)(hv:B2 x=some (.type T))(ha:PA X (e::es) t)(hn:x≠"__name__":=by decide)(yy:(x == ("__debug__":Str))=false:=by decide)
  (he:dz (e::es) X.env=(false,eval e X.env)::dz es X.env:=by rfl) (dM:(backTo pos (dz es X.env)).any (·.1)=false:=by rfl):PE X (.Call (.Name x p) (e::es) [] pos) (jU r t):=by
 intro ab s σ H Q I h;refine FJ (xq I hg hm hv ?_ hn yy);exact Ny (bh (ha pos ab s σ H _ I h) λus s1 ⟨vs,H1,I1,r1,q1⟩=>hc ab s1 σ H1 vs us Q I1 r1 q1) he dM
end
end L2
namespace HT
open PySem PyProof.Rows
section
open PySem.SeqAt
open PySem.AutoSeq1 (wpAny_loadPart')
open PySem.MeetsSeq PySem.MeetsSeq2 PySem.MeetsSeq3
variable {prog:Program}{w:World}{A:Around}{E:Value->Shared->Prop}{s:Shared}
theorem XD{t b:Addr}{vs ws:List Value}{Q:Value->Shared->Prop}(ht:IsTup s.heap t vs.toArray)(hb:IsTup s.heap b ws.toArray)(hv:vs≠ [])
  (h1:ws= []->Q (.ref t) s) (h2:ws≠ []->Q (.ref s.heap.objs.size) { s with heap:=s.heap.push { cls:= .type "tuple",data:= .seq (vs++ws).toArray } })
  (hsz:vs.length + ws.length<=aM):wpAny (model prog w) A (binaryOp .Add (.ref t) (.ref b)) Q E s:=by
 obtain⟨⟨cls,dd,data,sl⟩,ho,hc,n,hd⟩:=id ht;obtain⟨⟨XE,CU,data2,CV⟩,rl,jV,n2,hd2⟩:=id hb;simp only at hc hd jV hd2;subst hc hd jV hd2;have e:vs.toArray++ws.toArray=(vs++ws).toArray:=by simp
 by_cases hw:ws= []
 ·exact U9 ⟨_,ho,rfl⟩ ⟨_,rl,rfl⟩ noFill_tuple_add seq_tuple_add VF VG (VH _ _)
   (tuple_addW1 t b vs.toArray ws.toArray n n2 dd CU sl CV (by simpa using hv) (by simp[hw])) ⟨ho,rl,h1 hw⟩
 ·refine U9 ⟨_,ho,rfl⟩ ⟨_,rl,rfl⟩ noFill_tuple_add seq_tuple_add VF VG (VH _ _)
   (tuple_addW2 t b vs.toArray ws.toArray n n2 dd CU sl CV (by simpa using hv) (by simpa using hw) (by rw[fM,fM];exact hsz)) ⟨ho,rl, ?_⟩
  rw[e];exact h2 hw
noncomputable def bE (n d:Nat):Option Int->Nat
 |none=>d
 |some v=>if v < 0 then(v + (n:Int)).toNat else min v.toNat n
theorem XF(n d:Nat)(hd:d<=n)(o:Option Int):bE n d o<=n:=by
 cases o with
 |none=>exact hd
 |some v=>
  show(if v < 0 then(v + (n:Int)).toNat else min v.toNat n)<=n;by_cases hv:v < 0
  ·rw[if_pos hv];lia
  ·rw[if_neg hv];exact Nat.min_le_right _ _
theorem OV(v:Int)(n d:Nat):(if v < 0 then max (v + (n:Int)) 0 else min v (n:Int))=((bE n d (some v):Nat):Int):=by
 show(if v < 0 then max (v + (n:Int)) 0 else min v (n:Int))=(((if v < 0 then(v + (n:Int)).toNat else min v.toNat n):Nat):Int);by_cases hv:v < 0
 ·simp only[if_pos hv];lia
 ·simp only[if_neg hv];lia
theorem XG(lo hi:Option Int)(n:Nat):qa lo hi 1 (n:Int)=(((bE n 0 lo:Nat):Int),((bE n n hi:Nat):Int)):=by
 have h1:¬ ((1:Int) < 0):=by lia
 unfold qa;simp only[h1,if_false];refine Prod.ext ?_ ?_
 ·cases lo with
  |none=>rfl
  |some v=>exact OV v n 0
 ·cases hi with
  |none=>rfl
  |some v=>exact OV v n n
theorem XH(i j:Nat):zm (i:Int) (j:Int) 1=j - i:=by
 unfold zm;have h1:(1:Int) > 0:=by lia
 simp only[h1,if_true,Int.ediv_one]
 split <;> lia
theorem CW{v:Value}{o:Option Int}{Q:Option Int->Shared->Prop}(p:IsPart v o)(h:Q o s):wpAny (model prog w) A (Builtin.Slice.slicePartIndex v) Q E s:=by
 cases p with
 |none=>exact slicePart_none h
 |int i t=>exact slicePart_int h
theorem OW{sl:Addr}{vl vu:Value}{lo hi:Option Int}{n:Nat}{Q:Int×Int×Nat->Shared->Prop}(hs:s.heap.IsSliceOf sl vl vu .none)(pl:IsPart vl lo)(pu:IsPart vu hi)
  (h:Q (((bE n 0 lo:Nat):Int),1,bE n n hi - bE n 0 lo) s):wpAny (model prog w) A (VI (.ref sl) (pure (n:Int))) Q E s:=by
 obtain⟨os,mP,ql,qm⟩:=id hs;unfold VI Builtin.Slice.sliceFields;refine az (az (kL mP qm (x:=vl) rfl (az (kL mP qm (x:=vu) rfl (az (kL mP qm (x:= .none) rfl (bF ?_)))))));refine az (slicePart_none ?_);show wpAny _ _ (if((1:Int) == 0)=true then _ else _) _ _ s;rw[if_neg (by decide)];refine az (CW pl (az (CW pu (az (bF ?_)))));show wpAny _ _ (match qa lo hi 1 (n:Int) with | (lo,hi)=>pure (lo,(1:Int),zm lo hi 1)) _ _ s;rw[XG lo hi n];show wpAny _ _ (pure (((bE n 0 lo:Nat):Int),(1:Int),zm ((bE n 0 lo:Nat):Int) ((bE n n hi:Nat):Int) 1)) _ _ s;rw[XH];exact bF h
theorem XI(xs:Array Value)(i k:Nat):((xm k).filterMap λ(m:Nat)=>xs[((i:Int) + (m:Int) * 1).toNat]?).toArray=((xs.toList.drop i).take k).toArray:=by
 have e:(λ(m:Nat)=>xs[((i:Int) + (m:Int) * 1).toNat]?)=λm=>xs[i + m]?:=by
  funext m;have:((i:Int) + (m:Int) * 1).toNat=i + m:=by lia
  rw[this]
 rw[e];have:=pick_run xs i k;rw[aij]at this;have e2:((λx=>xs[x]?) ∘ λx=>i + x)=λm=>xs[i + m]?:=rfl;rw[e2]at this;rw[this]
theorem XJ{t sl:Addr}{items:Array Value}{vl vu:Value}{lo hi:Option Int}{Q:Value->Shared->Prop}(ht:IsTup s.heap t items)(hs:s.heap.IsSliceOf sl vl vu .none)(pl:IsPart vl lo)(pu:IsPart vu hi)
  (hw:¬ (bE items.size 0 lo=0/\bE items.size items.size hi=items.size))
  (h:Q (.ref s.heap.objs.size) { s with heap:=s.heap.push { cls:= .type "tuple",data:= .seq ((items.toList.drop (bE items.size 0 lo)).take (bE items.size items.size hi - bE items.size 0 lo)).toArray } })
  (hsz:items.size<=aM):wpAny (model prog w) A (getItem (.ref t) (.ref sl)) Q E s:=by
 have xA:sizeOk (.seq ((items.toList.drop (bE items.size 0 lo)).take (bE items.size items.size hi - bE items.size 0 lo)).toArray):=by
  show((items.toList.drop (bE items.size 0 lo)).take (bE items.size items.size hi - bE items.size 0 lo)).toArray.size<=aM;rw[fM,Ce,aik,xc]
  lia
 have hj:bE items.size items.size hi<=items.size:=XF _ _ (bO _) hi;obtain⟨os,mP,ql,qm⟩:=id hs;have Ak:s.TypeIs (.ref sl) "slice":=⟨os,mP,ql⟩
 unfold getItem
 try with_reducible refine uL ?_
 first | refine az (bF ?_) | skip
 refine az (wpAny_sequenceKey ht.typeIs (by decide) ?_);refine az (ze (name:=ae "__getitem__") ht.typeIs uQ
  (wW uQ ht.typeIs Vd ?_ (args_tuple_getitem _ _)))
 show wpAny _ _ (VJ (.ref t) >>= _) _ _ s;refine az (tupleItemsOf_ ht ?_);refine az (Np Ak ?_);rw[if_pos (by decide)];refine az (OW hs pl pu ?_);have XM:¬ ((((bE items.size 0 lo:Nat):Int) == 0 && (1:Int) == 1 && (bE items.size items.size hi - bE items.size 0 lo) == items.size)=true):=by
  intro q;rw[kM,kM]at q;have q1:((bE items.size 0 lo:Nat):Int)=0:=eq_of_beq q.1.1;have q2:bE items.size items.size hi - bE items.size 0 lo=items.size:=eq_of_beq q.2;exact hw ⟨by lia,by lia⟩
 show wpAny _ _ (if(((bE items.size 0 lo:Nat):Int) == 0 && (1:Int) == 1 && (bE items.size items.size hi - bE items.size 0 lo) == items.size)=true then _ else _) _ _ s;rw[if_neg XM,XI]
 first
  |exact az (m:=Cg _) (qP (bF ⟨_,rfl,bF h⟩) xA)
  |exact az (m:=Cg _) (qP (az (bF (bF ⟨_,rfl,bF h⟩))) xA)
  |exact az (az (m:=Cg _) (qP (bF (bF ⟨_,rfl,bF h⟩)) xA))
  |exact az (az (m:=Cg _) (qP (bF ⟨_,rfl,bF h⟩) xA))
end
end HT
namespace L2
open PySem PySem.Spec PyProof.Rows
abbrev TO:=St->Hp->(Option Int->Hp->Prop)->Prop
def PO(X:Cx)(e:Option Expr)(t:TO):Prop:=
 ∀(ab:List (Addr×Obj)) (s:Shared) (σ:St) (H:Hp) (Q:Option Int->Hp->Prop),Inv X ab σ H s->t σ H Q->
  wpAny (model X.prog X.w) X.A (evalPart e X.env) (λu s'=>∃o H',Inv X ab σ H' s'/\IsPart u o/\Q o H') X.xe s
def GD:TO:=λ_ H Q=>Q none H
def rm(t:TE):TO:=λσ H Q=>t σ H λx H1=>∃i,x= .int i/\Q (some i) H1
section
variable {X:Cx}{e:Expr}{te:TE}{lo hi:Option Expr}{tl th:TO}{pos p2:Pos}
theorem OX:PO X none GD:=by
 intro ab s σ H Q I h;rw[evalPart_none];exact bF ⟨none,H,I, .none,h⟩
theorem kR(h:PE X e te):PO X (some e) (rm te):=by
 intro ab s σ H Q I hw;rw[evalPart_some];refine bh (h ab s σ H _ I hw) λu s1 ⟨x,H1,I1,r1,q1⟩=> ?_;obtain⟨i,rfl,q⟩:=q1;obtain⟨t,rfl⟩:=r1;exact⟨some i,H1,I1, .int i t,q⟩
def mQ(X:Cx)(r:V->Option Int->Option Int->Hp->VK->Prop):Prop:=
 ∀(ab:List (Addr×Obj)) (s:Shared) (σ:St) (H:Hp) (x:V) (v vl vu:Value) (lo hi:Option Int) (sl:Addr) (Q:VK),Inv X ab σ H s->RelV x v->s.heap.IsSliceOf sl vl vu .none->IsPart vl lo->IsPart vu hi->r x lo hi H Q->
  ∃T id,typeLookup (.type T) "__getitem__"=pure (some (.builtin id))/\s.TypeIs v T/\wpAny (model X.prog X.w) X.A (getItem v (.ref sl)) (EP X ab σ Q) X.xe s
theorem mQ.or{r r':V->Option Int->Option Int->Hp->VK->Prop}(h:mQ X r)(h':mQ X r'):mQ X (λx lo hi H Q=>r x lo hi H Q\/r' x lo hi H Q):=by
 intro ab s σ H x v vl vu lo hi sl Q I rx hs pl pu q;rcases q with q | q
 ·exact h ab s σ H x v vl vu lo hi sl Q I rx hs pl pu q
 ·exact h' ab s σ H x v vl vu lo hi sl Q I rx hs pl pu q
def CY(r:V->Option Int->Option Int->Hp->VK->Prop)(te:TE)(tl th:TO):TE:=λσ H Q=>te σ H λx H1=>tl σ H1 λl H2=>th σ H2 λu H3=>r x l u H3 Q
theorem xB{r:V->Option Int->Option Int->Hp->VK->Prop}(hr:mQ X r)(he:PE X e te)(hl:PO X lo tl)(hu:PO X hi th):PE X (.Subscript e (.Slice lo hi none p2) pos) (CY r te tl th):=by
 intro ab s σ H Q I h;refine Subscript_ (bh (he ab s σ H _ I h) λv s1 ⟨x,H1,I1,r1,q1⟩=> ?_);refine wpAny_Slice (bh (hl ab s1 σ H1 _ I1 q1) λvl s2 ⟨l,H2,I2,pl,q2⟩=>bh (hu ab s2 σ H2 _ I2 q2) λvu s3 ⟨u,H3,I3,pu,q3⟩=> ?_);rw[evalPart_none];refine bF ?_;have I4:Inv X ab σ H3 { s3 with heap:=s3.heap.push { cls:= .type "slice",data:= .fields #[vl,vu, .none] } }:=I3.kept (t':=s3.toks) λb ob q=>cB _ q;obtain⟨T,id,hT,ht,hg⟩:=hr ab { s3 with heap:=s3.heap.push { cls:= .type "slice",data:= .fields #[vl,vu, .none] } } σ H3 x v vl vu l u s3.heap.objs.size Q I4 r1 (Heap.IsSliceOf.new ..) pl pu q3;show wpAny (model X.prog X.w) X.A (subscriptTail e (.Slice lo hi none p2) v (.ref s3.heap.objs.size)) (EP X ab σ Q) X.xe { s3 with heap:=s3.heap.push { cls:= .type "slice",data:= .fields #[vl,vu, .none] } };exact tail_any (ops:= [.ref s3.heap.objs.size,v]) ht hT hg (by with_unfolding_all rfl)
def xC(xs:List V)(lo hi:Option Int):List V:=(xs.drop (HT.bE xs.length 0 lo)).take (HT.bE xs.length xs.length hi - HT.bE xs.length 0 lo)
theorem OY(xs:List V)(lo hi:Option Int):(xC xs lo hi).length<=xs.length:=by
 unfold xC;rw[Ce,aik]
 lia
def OZ(K:ah):V->Option Int->Option Int->Hp->VK->Prop:=λx lo hi H Q=>∃a xs,x= .ref a/\cE K H a xs/\
 ¬ (HT.bE xs.length 0 lo=0/\HT.bE xs.length xs.length hi=xs.length)/\∀p,H p=none->Q (.ref p) (cf H p (.tup (xC xs lo hi)))
theorem XN:mQ X (OZ X.K):=by
 intro ab s σ H x v vl vu lo hi sl Q I rx hs pl pu h;obtain⟨a,xs,rfl,hx,hw,q⟩:=h;cases rx;obtain⟨its,r,ht,hz⟩:=I.tuple hx;have dw:its.toArray.size=xs.length:=by rw[fM];exact r.length.symm
 refine⟨"tuple",_,uQ.lookup,ht.typeIs, ?_⟩;refine HT.XJ ht hs pl pu (by rw[dw];exact hw) ?_ (by rw[dw];exact hz);rw[dw];refine⟨.ref s.heap.objs.size,_,I.laid (t':=s.toks) (o:= .tup (xC xs lo hi)) (λb ob q=>cB _ q) (bO _) ?_,rfl,q _ (I.aQ.fresh (bO _))⟩;exact⟨b7 (OY xs lo hi) hz,_,(r.drop (HT.bE xs.length 0 lo)).take (HT.bE xs.length xs.length hi - HT.bE xs.length 0 lo),Nw _ _⟩
def GF(K:ah):R2:=λx y H Q=>∃a b xs ys,x= .ref a/\y= .ref b/\cE K H a xs/\cE K H b ys/\xs≠ []/\xs.length + ys.length<=aM/\
 (ys= []->Q (.ref a) H)/\(ys≠ []->∀p,H p=none->Q (.ref p) (cf H p (.tup (xs++ys))))
theorem bj.GG{xs:List V}(r:bj xs us):us= []↔xs= []:=by
 cases r with
 |nil=>simp
 |cons _ _=>simp
theorem O0:cu X (binaryOp .Add) (GF X.K):=by
 intro ab s σ H x y v u Q I rx ry h;obtain⟨a,b,xs,ys,rfl,rfl,ha,hb,hx,hz,q1,q2⟩:=h;cases rx;cases ry;obtain⟨its,r1,p1,_⟩:=I.tuple ha;obtain⟨mh,r2,p2,_⟩:=I.tuple hb;refine HT.XD p1 p2 (λz=>hx (r1.GG.mp z)) (λz=>⟨.ref a,H,I,rfl,q1 (r2.GG.mp z)⟩) (λz=> ?_) (by rw[<- r1.length, <- r2.length];exact hz);refine⟨.ref s.heap.objs.size,_,I.laid (t':=s.toks) (o:= .tup (xs++ys)) (λb ob q=>cB _ q) (bO _) ?_,rfl,q2 (λw=>z (r2.GG.mpr w)) _ (I.aQ.fresh (bO _))⟩;exact⟨by rw[bo];exact hz,_,r1.append r2,Nw _ _⟩
end
noncomputable def gC (n:Nat) (i:Int):Option Nat:=if 0<=i then(if i < n then some i.toNat else none) else if -(n:Int)<=i then some (i + n).toNat else none
def oi{α:Type}(xs:List α)(i:Int):Option α:=(gC xs.length i).bind λj=>xs[j]?
theorem O1(h:gC n i=some j):seqIndex? i n=some j/\j < n/\ -(n:Int)<=i/\i < n:=by
 unfold gC at h;by_cases h0:0<=i
 ·rw[if_pos h0]at h;by_cases h1:i < n
  ·rw[if_pos h1]at h;have e:i.toNat=j:=hV h;exact⟨by rw[Vg h0 h1,e],by lia,by lia,h1⟩
  ·rw[if_neg h1]at h;cases h
 ·rw[if_neg h0]at h;by_cases h1: -(n:Int)<=i
  ·rw[if_pos h1]at h;have e:(i + n).toNat=j:=hV h;exact⟨by rw[Vh (by lia) h1,e],by lia,h1,by lia⟩
  ·rw[if_neg h1]at h;cases h
theorem GH{α:Type}{xs:List α}{v:α}(h:oi xs i=some v):∃j,seqIndex? i xs.length=some j/\xs[j]?=some v/\j < xs.length/\ -(xs.length:Int)<=i/\i < xs.length:=by
 unfold oi at h;cases e:gC xs.length i with
 |none=>rw[e]at h;cases h
 |some j=>
  rw[e]at h;obtain⟨h1,h2,h3,h4⟩:=O1 e;exact⟨j,h1,h,h2,h3,h4⟩
def CZ(b:Expr):Prop:=∀o i,subscripted b false o i=operate [o,i] (getItem o i)
def mR(X:Cx)(r:R2):Prop:=
 ∀(value slice:Expr) (ab:List (Addr×Obj)) (s:Shared) (σ:St) (H:Hp) (x y:V) (v u:Value) (Q:VK),Inv X ab σ H s->RelV x v->RelV y u->r x y H Q->
  subscripted slice false v u=operate [v,u] (getItem v u)->wpAny (model X.prog X.w) X.A (subscriptTail value slice v u) (EP X ab σ Q) X.xe s
def Am(X:Cx)(id:String)(r:V->List V->Hp->VK->Prop):Prop:=
 ∀(ab:List (Addr×Obj)) (s:Shared) (σ:St) (H:Hp) (x:V) (xs:List V) (v:Value) (us:List Value) (Q:VK),Inv X ab σ H s->RelV x v->bj xs us->r x xs H Q->
  wpAny (model X.prog X.w) X.A (call (.builtin id) (v::us)) (EP X ab σ Q) X.xe s
section
variable {X:Cx}
theorem mR.or{r r':R2}(h:mR X r)(h':mR X r'):mR X (λx y H Q=>r x y H Q\/r' x y H Q):=by
 intro value slice ab s σ H x y v u Q I rx ry q hs;rcases q with q | q
 ·exact h value slice ab s σ H x y v u Q I rx ry q hs
 ·exact h' value slice ab s σ H x y v u Q I rx ry q hs
theorem xE{r:R2}(hr:mR X r)(ha:PE X a ta)(hb:PE X b tb)(hs:CZ b):PE X (.Subscript a b pos) (ig r ta tb):=by
 intro ab s σ H Q I h;exact Subscript_ (Gj ha hb I h λv u s2 x y H2 I2 rx ry q=>hr a b ab s2 σ H2 x y v u Q I2 rx ry q (hs _ _))
def O2(K:ah):R2:=λx y H Q=>∃p xs i v,x= .ref p/\y= .int i/\cI K H p xs/\oi xs i=some v/\Q v H
def O3(K:ah):R2:=λx y H Q=>∃p xs i v,x= .ref p/\y= .int i/\cE K H p xs/\oi xs i=some v/\Q v H
def O4:R2:=λx y H Q=>∃z i c,x= .str z/\y= .int i/\z.length<=aM/\oi z.cps.toList i=some c/\Q (.str ⟨#[c]⟩) H
theorem XQ:mR X (O2 X.K):=by
 intro value slice ab s σ H x y v u Q I rx ry h hs;obtain⟨p,xs,i,z,rfl,rfl,hq,he,q⟩:=h;cases rx;obtain⟨t,rfl⟩:=ry;obtain⟨its,r,pl,hz⟩:=I.list hq;obtain⟨j,h1,h2,h3,h4,h5⟩:=GH he;obtain⟨w,ew,km⟩:=r.get h2;have hl:=r.length;have hn:=vm;have fin:EP X ab σ Q w s:=⟨z,H,I,km,q⟩
 by_cases h0:0<=i
 ·have hj:i.toNat=j:=by
   rw[Vg h0 h5]at h1;exact hV h1
  exact item_listR pl.isList h0 (by lia) (by rw[hj];simpa using ew) fin hs
 ·have hj:(i + (its.toArray.size:Int)).toNat=j:=by
   rw[Vh (by lia) h4]at h1;rw[fM, <- hl];exact hV h1
  exact aib (x:=w) pl.isList.typeIs slot_list_getitem.lookup
   (wpAny_getItem_list_neg (Q:=λr s'=>r=w/\EP X ab σ Q r s') pl.isList (by lia) (by rw[fM]<;> lia) (by lia) (by rw[hj];simpa using ew) ⟨rfl,fin⟩) hs
theorem XR:mR X (O3 X.K):=by
 intro value slice ab s σ H x y v u Q I rx ry h hs;obtain⟨p,xs,i,z,rfl,rfl,hq,he,q⟩:=h;cases rx;obtain⟨t,rfl⟩:=ry;obtain⟨its,r,pl,hz⟩:=I.tuple hq;obtain⟨j,h1,h2,h3,h4,h5⟩:=GH he;obtain⟨w,ew,km⟩:=r.get h2;have hl:=r.length;have hn:=vm;have fin:EP X ab σ Q w s:=⟨z,H,I,km,q⟩
 exact aib (x:=w) pl.typeIs slot_tuple_getitem.lookup
  (getItem_tuple (j:=j) (Q:=λr s'=>r=w/\EP X ab σ Q r s') pl (by lia) (by lia) (by rw[fM, <- hl];exact h1) (by simpa using ew) ⟨rfl,fin⟩) hs
theorem XS:mR X O4:=by
 intro value slice ab s σ H x y v u Q I rx ry h hs;obtain⟨z,i,c,rfl,rfl,hz,he,q⟩:=h;obtain⟨t,rfl⟩:=rx;obtain⟨t',rfl⟩:=ry;obtain⟨j,h1,h2,h3,h4,h5⟩:=GH he;have hl:z.cps.toList.length=z.length:=by simp[VM]
 rw[hl]at h1 h4 h5;have hn:=vm;exact tail_any (aon s z t) slot_str_getitem.lookup (getItem_str (c:=c) (by
  have e1:decide (i < -(2 ^ 63:Int))=false:=decide_eq_false (by lia);have e2:decide (i≥2 ^ 63)=false:=decide_eq_false (by lia);rw[e1,e2,Bool.or_false]) (by rw[h1];simpa using h2) ⟨.str ⟨#[c]⟩,H,I.tok _,⟨_,rfl⟩,q⟩) hs
def GI(K:ah):R2:=λx y H Q=>O2 K x y H Q\/O3 K x y H Q\/O4 x y H Q
theorem XT:mR X (GI X.K):=XQ.or (XR.or XS)
theorem XU(its:List Value)(n j:Nat)(u:Value):zo (·.setIfInBounds j u) { cls:= .type "list",data:= .seq its.toArray n }= { cls:= .type "list",data:= .seq (its.set j u).toArray n }:=by
 simp[zo]
theorem Inv.lst{ab:List (Addr×Obj)}{σ:St}{H:Hp}{s:Shared}{p:Addr}{xs:List V}(I:Inv X ab σ H s)(h:H p=some (.lst xs)):
  ∃(its:List Value) (n:Nat),bj xs its/\s.heap.get? p=some { cls:= .type "list",data:= .seq its.toArray n }/\xs.length<=aM:=by
 obtain⟨z,its,n,r,e⟩:=I.aQ p _ h;exact⟨its,n,r,e,z⟩
theorem Inv.XW{ab:List (Addr×Obj)}{σ:St}{H:Hp}{s:Shared}{p:Addr}{xs ys:List V}{its its':List Value}{n n':Nat}{f:Obj->Obj}(I:Inv X ab σ H s)(h:H p=some (.lst xs))
  (ho:s.heap.get? p=some { cls:= .type "list",data:= .seq its.toArray n }) (hf:f { cls:= .type "list",data:= .seq its.toArray n }= { cls:= .type "list",data:= .seq its'.toArray n' }) (r:bj ys its') (hz:ys.length<=aM) (t:Nat):
  Inv X ab σ (cf H p (.lst ys)) { s with heap:=s.heap.update p f,toks:=t }:=by
 have e:(s.heap.update p f).get? p=some { cls:= .type "list",data:= .seq its'.toArray n' }:=by
  rw[aim f ho (by rw[hf]<;> rfl),hf]
 refine I.write (x:=p) (e:=p) (by rw[h];trivial) (.inl rfl) (λb u hb q=>(VN _ _ (fw hb)).trans q) ⟨_,e⟩ ?_;exact⟨hz,its',n',r,e⟩
def O5:V->V->V->Hp->(Hp->Prop)->Prop:=λo i v H Q=>∃p xs k j,o= .ref p/\i= .int k/\H p=some (.lst xs)/\gC xs.length k=some j/\Q (cf H p (.lst (xs.set j v)))
theorem ah7:Oo X O5:=by
 intro ab s σ H o i v ov iv u Q I ro ri rv h;obtain⟨p,xs,k,j,rfl,rfl,hp,hj,q⟩:=h;cases ro;obtain⟨t,rfl⟩:=ri;obtain⟨its,n,r,ho,hz⟩:=I.lst hp;obtain⟨h1,h2,h3,h4⟩:=O1 hj;have hl:=r.length;have hn:=vm;have I':Inv X ab σ (cf H p (.lst (xs.set j v))) { s with heap:=s.heap.update p (zo (·.setIfInBounds j u)) }:=
  I.XW hp ho (XU its n j u) (r.set rv j) (by rw[bN];exact hz) s.toks
 by_cases h0:0<=k
 ·have hk:k.toNat=j:=by
   rw[Vg h0 h4]at h1;exact hV h1
  exact W.ki_setAt ho h0 (by lia) (by rw[fM, <- hl];exact h4) (by rw[hk];exact⟨_,I',q⟩)
 ·have hk:(k + (its.toArray.size:Int)).toNat=j:=by
   rw[Vh (by lia) h3]at h1;rw[fM, <- hl];exact hV h1
  exact W.ki_setBack ho (by lia) (by rw[fM, <- hl];exact h3) (by lia) (by rw[hk];exact⟨_,I',q⟩)
theorem auf(lo hi:Option Int)(n:Nat):(zf lo hi none n).1=((HT.bE n 0 lo:Nat):Int)/\(zf lo hi none n).2.1=((HT.bE n n hi:Nat):Int)/\(zf lo hi none n).2.2=1:=by
 refine⟨?_, ?_,rfl⟩
 ·cases lo with
  |none=>simp[zf,HT.bE]
  |some i=>
   simp only[zf,HT.bE,ain,show(1:Int) > 0 by decide,if_true];by_cases h:i < 0
   ·simp only[h,if_true]<;> lia
   ·simp only[h,if_false]<;> lia
 ·cases hi with
  |none=>simp[zf,HT.bE]
  |some i=>
   simp only[zf,HT.bE,ain,show(1:Int) > 0 by decide,if_true];by_cases h:i < 0
   ·simp only[h,if_true]<;> lia
   ·simp only[h,if_false]<;> lia
theorem XY(its:List Value)(lo hi:Option Int):slicePick its.toArray lo hi none=((its.drop (HT.bE its.length 0 lo)).take (HT.bE its.length its.length hi - HT.bE its.length 0 lo)).toArray:=by
 obtain⟨h1,h2,h3⟩:=auf lo hi its.toArray.size;unfold slicePick;rw[h1,h2,h3];simp only[sliceRange_one,pick_run,fM]<;> rfl
def O6(K:ah):V->Option Int->Option Int->Hp->VK->Prop:=λx lo hi H Q=>∃a xs,x= .ref a/\cI K H a xs/\∀p,H p=none->Q (.ref p) (cf H p (.lst (xC xs lo hi)))
theorem XZ:mQ X (O6 X.K):=by
 intro ab s σ H x v vl vu lo hi sl Q I rx hs pl pu h;obtain⟨a,xs,rfl,hx,q⟩:=h;cases rx;obtain⟨its,r,ht,hz⟩:=I.list hx;have dw:=r.length;refine⟨"list",_,slot_list_getitem.lookup,ht.isList.typeIs, ?_⟩;refine wpAny_getItem_list_slice ht.isList hs pl pu .none (by simp) ?_ (by rw[fM]<;> lia);rw[XY, <- dw];refine⟨.ref s.heap.objs.size,_,I.laid (t':=s.toks) (o:= .lst (xC xs lo hi)) (λb ob q=>cB _ q) (bO _) ?_,rfl,q _ (I.aQ.fresh (bO _))⟩;exact⟨b7 (OY xs lo hi) hz,_,0,(r.drop (HT.bE xs.length 0 lo)).take (HT.bE xs.length xs.length hi - HT.bE xs.length 0 lo),gc _ rfl⟩
noncomputable def eO:V->Bool
 |.aG=>true
 |.bl _=>true
 |.int _=>true
 |.str _=>true
 |_=>false
noncomputable def vv:V->V->Bool
 |.aG, .aG=>true
 |.bl a, .bl b=>a == b
 |.bl a, .int b=>(if a then 1 else 0) == b
 |.int a, .bl b=>a == (if b then 1 else 0)
 |.int a, .int b=>a == b
 |.str a, .str b=>a == b
 |_,_=>false
theorem auh{A:Around}{s:Shared}{y x:V}{u v:Value}(ry:RelV y u)(rx:RelV x v)(fy:eO y=true)(fx:eO x=true):SeqAt.EqAt A s u v (vv y x):=by
 cases y with
 |aG=>
  cases ry;cases x with
  |aG=>cases rx;exact SeqAt.EqAt.same _
  |bl b=>cases rx;exact SeqAt.EqAt.none_bool b
  |int b=>obtain⟨t,rfl⟩:=rx;exact SeqAt.EqAt.none_int b t
  |str b=>obtain⟨t,rfl⟩:=rx;exact SeqAt.EqAt.none_str b t
  |_=>exact absurd (show false=true from fx) df
 |bl a=>
  cases ry;cases x with
  |aG=>cases rx;exact SeqAt.EqAt.bool_none a
  |bl b=>cases rx;exact SeqAt.EqAt.bool_bool a b
  |int b=>obtain⟨t,rfl⟩:=rx;exact SeqAt.EqAt.bool_int a b t
  |str b=>obtain⟨t,rfl⟩:=rx;exact SeqAt.EqAt.bool_str a b t
  |_=>exact absurd (show false=true from fx) df
 |int a=>
  obtain⟨t',rfl⟩:=ry;cases x with
  |aG=>cases rx;exact SeqAt.EqAt.int_none a t'
  |bl b=>cases rx;exact SeqAt.EqAt.int_bool a t' b
  |int b=>obtain⟨t,rfl⟩:=rx;exact SeqAt.EqAt.int_int a t' b t
  |str b=>obtain⟨t,rfl⟩:=rx;exact aif a t' b t
  |_=>exact absurd (show false=true from fx) df
 |str a=>
  obtain⟨t',rfl⟩:=ry;cases x with
  |aG=>cases rx;exact SeqAt.EqAt.str_none a t'
  |bl b=>cases rx;exact SeqAt.EqAt.str_bool a t' b
  |int b=>obtain⟨t,rfl⟩:=rx;exact aih a t' b t
  |str b=>obtain⟨t,rfl⟩:=rx;exact SeqAt.EqAt.str_str a t' b t
  |_=>exact absurd (show false=true from fx) df
 |_=>exact absurd (show false=true from fy) df
def lG(x:V)(u:Value):Bool:=match u with
 |.none=>vv .aG x
 |.bool b=>vv (.bl b) x
 |.int i _=>vv (.int i) x
 |.str z _=>vv (.str z) x
 |_=>false
theorem O7{x y:V}{u:Value}(r:RelV y u)(f:eO y=true):lG x u=vv y x:=by
 cases y with
 |aG=>cases r;rfl
 |bl b=>cases r;rfl
 |int i=>obtain⟨t,rfl⟩:=r;rfl
 |str z=>obtain⟨t,rfl⟩:=r;rfl
 |_=>exact absurd (show false=true from f) df
theorem Ao{x:V}:∀{xs:List V} {us:List Value},bj xs us->xs.all eO=true->us.any (lG x)=xs.any λy=>vv y x
 |_,_, .nil,_=>rfl
 |y::xs,u::us, .cons r t,f=>by
  rw[List.all_cons,kM]at f;rw[uR,uR,O7 r f.1,Ao t f.2]
theorem Ap{A:Around}{s:Shared}{x:V}{v:Value}(rx:RelV x v)(fx:eO x=true):∀{xs:List V} {us:List Value},bj xs us->xs.all eO=true->∀u∈us,SeqAt.EqAt A s u v (lG x u)
 |_,_, .nil,_=>λu hu=>by cases hu
 |y::xs,u::us, .cons r t,f=>λu' hu=>by
  rw[List.all_cons,kM]at f;rcases bL.mp hu with rfl | hu
  ·rw[O7 r f.1];exact auh r rx f.1 fx
  ·exact Ap rx fx t f.2 u' hu
def tH(x:V)(xs:List V):Bool:=xs.any λy=>vv y x
def C0(K:ah)(neg:Bool):R2:=λx y H Q=>∃p xs,y= .ref p/\(cI K H p xs\/cE K H p xs)/\eO x=true/\xs.all eO=true/\Q (.bl (if neg then !tH x xs else tH x xs)) H
theorem X1:cu X (compareOp .In) (C0 X.K false):=by
 intro ab s σ H x y v u Q I rx ry h;obtain⟨p,xs,rfl,hq,fx,fs,q⟩:=h;cases ry;rcases hq with hq | hq
 ·obtain⟨its,r,pl,hz⟩:=I.list hq;refine SeqAt.in_listAt (lG x) pl.isList (λw hw=>Ap rx fx r fs w (by simpa using hw)) ⟨.bl _,H,I,rfl, ?_⟩;rw[show its.toArray.any (lG x)=its.any (lG x) by simp,Ao r fs];exact q
 ·obtain⟨its,r,pl,hz⟩:=I.tuple hq;refine SeqAt.in_tupleAt (lG x) pl (λw hw=>Ap rx fx r fs w (by simpa using hw)) ⟨.bl _,H,I,rfl, ?_⟩;rw[show its.toArray.any (lG x)=its.any (lG x) by simp,Ao r fs];exact q
theorem X2:cu X (compareOp .NotIn) (C0 X.K true):=by
 intro ab s σ H x y v u Q I rx ry h;obtain⟨p,xs,rfl,hq,fx,fs,q⟩:=h;cases ry;rcases hq with hq | hq
 ·obtain⟨its,r,pl,hz⟩:=I.list hq;refine SeqAt.notIn_listAt (lG x) pl.isList (λw hw=>Ap rx fx r fs w (by simpa using hw)) ⟨.bl _,H,I,rfl, ?_⟩;rw[show its.toArray.any (lG x)=its.any (lG x) by simp,Ao r fs];exact q
 ·obtain⟨its,r,pl,hz⟩:=I.tuple hq;refine SeqAt.notIn_tupleAt (lG x) pl (λw hw=>Ap rx fx r fs w (by simpa using hw)) ⟨.bl _,H,I,rfl, ?_⟩;rw[show its.toArray.any (lG x)=its.any (lG x) by simp,Ao r fs];exact q
theorem X3:fT X (.builtin "len") (λxs H Q=>∃p ys,xs= [.ref p]/\(cI X.K H p ys\/cE X.K H p ys)/\Q (.int ys.length) H):=by
 intro ab s σ H xs us Q I r h;obtain⟨p,ys,rfl,hq,q⟩:=h;obtain⟨u,rfl,rx⟩:=vals1 r;cases rx;have hn:=vm;rcases hq with hq | hq
 ·obtain⟨its,r',pl,hz⟩:=I.list hq;have dw:=r'.length;exact Calls.call_len_list pl.isList (by simp only[fM]<;> lia) ⟨.int ys.length,H,I.tok _,⟨s.toks + 1,by rw[fM,dw]⟩,q⟩
 ·obtain⟨its,r',pl,hz⟩:=I.tuple hq;have dw:=r'.length;exact len_tuple pl (by simp only[fM]<;> lia) ⟨.int ys.length,H,I.tok _,⟨s.toks + 1,by rw[fM,dw]⟩,q⟩
theorem X4:fT X (.builtin "len") (λxs H Q=>∃z,xs= [.str z]/\z.length<=aM/\Q (.int z.length) H):=by
 intro ab s σ H xs us Q I r h;obtain⟨z,rfl,hz,q⟩:=h;obtain⟨u,rfl,t,rfl⟩:=vals1 r;have hn:=vm;exact len_str (by lia) ⟨.int z.length,H,I.tok _,⟨_,rfl⟩,q⟩
theorem aui:fT X (.type "tuple") (λxs H Q=>∃p ys,xs= [.ref p]/\((cI X.K H p ys/\∀l,H l=none->Q (.ref l) (cf H l (.tup ys)))\/(cE X.K H p ys/\Q (.ref p) H))):=by
 intro ab s σ H xs us Q I r h;obtain⟨p,ys,rfl,h⟩:=h;obtain⟨u,rfl,rx⟩:=vals1 r;cases rx;rcases h with⟨hq,q⟩ | ⟨hq,q⟩
 ·obtain⟨its,r',pl,hz⟩:=I.list hq;have dw:=r'.length;refine call_tuple_list pl.isList (λh' kp=> ?_) (by simp only[fM]<;> lia);have I1:Inv X ab σ H { s with heap:=h' }:=I.kept (t':=s.toks) kp;have I2:Inv X ab σ (cf H h'.objs.size (.tup ys)) { s with heap:=h'.push { cls:= .type "tuple",data:= .seq its.toArray } }:=
   I1.laid (t':=s.toks) (λb o e=>cB _ e) (bO _) (show gr X.prog X.w _ _ _ (.tup ys) from⟨hz,its,r',Nw _ _⟩)
  exact⟨.ref h'.objs.size,_,I2,rfl,q _ (I1.aQ.fresh (bO _))⟩
 ·obtain⟨its,r',pl,hz⟩:=I.tuple hq;exact call_tuple_same pl ⟨.ref p,H,I,rfl,q⟩
def vt(K:ah)(T:String)(x:V)(H:Hp):Prop:=match x with
 |.str _=>T="str"
 |.int _=>T="int"
 |.ref p=>(T="list"/\∃xs,cI K H p xs)\/(T="tuple"/\∃o,K.lookup p=some o/\o.cls= .type "tuple"/\o.dict=none)\/
   (T="dict"/\((∃ai,H p=some (.dK ai))\/∃ai,H p=some (.dT ai)))\/(T="set"/\∃S n,H p=some (.set S n))
 |_=>False
theorem O8{ab:List (Addr×Obj)}{σ:St}{H:Hp}{s:Shared}{T:String}{x:V}{v:Value}(I:Inv X ab σ H s)(r:RelV x v)(ty:vt X.K T x H):
  s.TypeIs v T/\∀a,v= .ref a->∃ob,s.heap.get? a=some ob/\ob.dict=none:=by
 cases x with
 |str z=>
  obtain⟨t,rfl⟩:=r;cases(show T="str" from ty);exact⟨aon s z t,λ_ e=>nomatch e⟩
 |int i=>
  obtain⟨t,rfl⟩:=r;cases(show T="int" from ty);exact⟨typeIs_int s i t,λ_ e=>nomatch e⟩
 |ref p=>
  cases r;rcases ty with⟨rfl,xs,hq⟩ | ⟨rfl,o,hk,hc,hd⟩ | ⟨rfl,hk⟩ | ⟨rfl,S,n,hk⟩
  ·obtain⟨its,_,pl,_⟩:=I.list hq;refine⟨pl.isList.typeIs,λa e=> ?_⟩;cases e;obtain⟨o,n,e,c,hd,_⟩:=pl;exact⟨o,e,hd⟩
  ·refine⟨⟨o,I.fN p o hk,hc⟩,λa e=> ?_⟩;cases e;exact⟨o,I.fN _ o hk,hd⟩
  ·have z:∃o,s.heap.get? p=some o/\o.ExactDict:=by
    rcases hk with⟨ai,hk⟩ | ⟨ai,hk⟩
    ·obtain⟨_,_,_,_,o,_,_,e,ex,_⟩:=I.aQ p _ hk;exact⟨o,e,ex⟩
    ·obtain⟨_,_,_,_,o,_,_,e,ex,_⟩:=I.aQ p _ hk;exact⟨o,e,ex⟩
   obtain⟨o,e,ex⟩:=z;refine⟨⟨o,e,ex.1⟩,λa e2=> ?_⟩;cases e2;exact⟨o,e,ex.2.1⟩
  ·obtain⟨o,_,_,_,e,ex,_⟩:=I.aQ p _ hk;refine⟨⟨o,e,ex.1⟩,λa e2=> ?_⟩;cases e2;exact⟨o,e,ex.2.1⟩
 |_=>exact pj ty
def GJ(K:ah)(T:String)(r:V->List V->Hp->VK->Prop)(to:TE):TE:=λσ H Q=>to σ H λx H1=>vt K T x H1/\r x [] H1 Q
def vy(K:ah)(T:String)(r:V->List V->Hp->VK->Prop)(to:TE)(t:TA):TE:=λσ H Q=>to σ H λx H1=>vt K T x H1/\t σ H1 λxs H2=>r x xs H2 Q
variable {o e:Expr}{es:List Expr}{to:TE}{t:TA}{name:Str}{jM gE:Pos}{T id:String}{r:V->List V->Hp->VK->Prop}
theorem X5(pa:PlainAttrs T)(slot:Slot T name id)(rn:typeOf (.builtin id)=pure (.type "method_descriptor"))(hm:Am X id r)(ho:PE X o to)
  (apn:ahf o name X.env (eval o X.env)=eval o X.env:=by rfl) (rA:(jM.endLine == gE.line)=true:=by rfl):PE X (.Call (.Attribute o name jM) [] [] gE) (GJ X.K T r to):=by
 intro ab s σ H Q I h;refine wpAny_Call_method0_late apn rA (bh (ho ab s σ H _ I h) λv s1 ⟨x,H1,I1,r1,ty,q1⟩=> ?_);obtain⟨h1,h2⟩:=O8 I1 r1 ty;exact⟨T,id,pa,slot,rn,h1,h2,Ci rfl (PySem.evalArgs_none (hm ab s1 σ H1 x [] v [] Q I1 r1 .nil q1))⟩
theorem GK(pa:PlainAttrs T)(slot:Slot T name id)(rn:typeOf (.builtin id)=pure (.type "method_descriptor"))(hm:Am X id r)(ho:PE X o to)(ha:PA X (e::es) t)
  (apn:ahf o name X.env (eval o X.env)=eval o X.env:=by rfl)
  (X6:((backTo gE (dz (e::es) X.env)).all (λx=> !x.1) && (B7 gE (B8 [] X.env)).all (λx=>x.1.isSome)
   && decide ((e::es).length + ([]:List Keyword).length + (if([]:List Keyword).isEmpty then 0 else 1) < 30))=true:=by rfl)
  (rA:(jM.endLine == gE.line)=true:=by rfl) (hs:dz (e::es) X.env=(false,eval e X.env)::dz es X.env:=by rfl) (X7:(backTo gE (dz es X.env)).any (·.1)=false:=by rfl):
  PE X (.Call (.Attribute o name jM) (e::es) [] gE) (vy X.K T r to t):=by
 intro ab s σ H Q I h;refine wpAny_Call_method_late apn X6 rA rfl (bh (ho ab s σ H _ I h) λv s1 ⟨x,H1,I1,r1,ty,q1⟩=> ?_);obtain⟨h1,h2⟩:=O8 I1 r1 ty;refine⟨T,id,pa,slot,rn,h1,h2, ?_⟩;have hA:=ha gE ab s1 σ H1 _ I1 q1;rw[hs]at hA |-;refine Ci (by show(false || (backTo gE (dz es X.env)).any (·.1))=false;rw[X7]<;> rfl) (Calls.evalArgs_plain ?_);exact bh hA λus s2 ⟨vs,H2,I2,r2,q2⟩=>hm ab s2 σ H2 x vs v us Q I2 r1 r2 q2
/- xs.append(e),list.index on a module's tuple .. are Am facts of 06m -/
end
def GL(X:Cx)(id:String)(r:V->List V->Hp->VK->Prop):Prop:=
 ∀(ab:List (Addr×Obj)) (s:Shared) (σ:St) (H:Hp) (x:V) (xs:List V) (v:Value) (us:List Value) (Q:VK),Inv X ab σ H s->RelV x v->bj xs us->r x xs H Q->
  wpAny (model X.prog X.w) X.A (call (.builtin id) (v::us)) (EP X ab σ Q) X.xe s
theorem bj.one:∀{x:V} {us:List Value},bj [x] us->∃u,us= [u]/\RelV x u
 |_,_, .cons r .nil=>⟨_,rfl,r⟩
theorem bj.zero:∀{us:List Value},bj [] us->us= []
 |_, .nil=>rfl
theorem bj.reverse{xs:List V}{us:List Value}(h:bj xs us):bj xs.reverse us.reverse:=by
 induction h with
 |nil=>exact .nil
 |cons r t ih=>rw[ax6,ax6];exact bj.append ih (.cons r .nil)
section
variable {X:Cx}{H:Hp}{s:Shared}
theorem Inv.GO{its its':List Value}{n:Nat}{f:Array Value->Array Value}{t':Nat}(I:Inv X ab σ H s)(hH:H l=some (.lst xs))
  (e:s.heap.get? l=some { cls:= .type "list",data:= .seq its.toArray n }) (hf:f its.toArray=its'.toArray) (hv:bj ys its') (hz:ys.length<=aM):
  Inv X ab σ (cf H l (.lst ys)) { s with heap:=s.heap.update l (zo f),toks:=t' }:=by
 have q:=PySem.IsL.update e f;rw[hf]at q;refine I.write (x:=l) (e:=l) (by rw[hH];exact trivial) (.inl rfl) (λb' u hb hu=>(VN s.heap (zo f) (fw hb)).trans hu) ⟨_,q⟩ ?_;exact⟨hz,its',_,hv,q⟩
theorem Inv.Ya{t':Nat}(I:Inv X ab σ H s)(hv:bj ys its)(hz:ys.length<=aM):
  Inv X ab σ (cf H s.heap.objs.size (.lst ys)) { s with heap:=s.heap.push { cls:= .type "list",data:= .seq its.toArray },toks:=t' }:=
 I.laid (λ_ _ q=>cB _ q) (bO _) ⟨hz,its,0,hv,gc _ rfl⟩
theorem Inv.fresh(I:Inv X ab σ H s):H s.heap.objs.size=none:=I.aQ.fresh (bO _)
theorem Inv.ju(I:Inv X ab σ H s)(hH:H l=some (.lst xs)):xs.length<=aM/\∃(its:List Value) (n:Nat),bj xs its/\xs.length=its.length/\s.heap.get? l=some { cls:= .type "list",data:= .seq its.toArray n }:=by
 obtain⟨z,its,n,r,e⟩:=I.aQ l _ hH;exact⟨z,its,n,r,r.length,e⟩
end
section
variable {X:Cx}
def C1:V->List V->Hp->VK->Prop:=λx vs H Q=>∃l xs y,x= .ref l/\vs= [y]/\H l=some (.lst xs)/\xs.length < aM/\Q .aG (cf H l (.lst (xs++ [y])))
theorem Yc:GL X "list.append" C1:=by
 intro ab s σ H x vs v us Q I rx rv h;obtain⟨l,xs,y,rfl,rfl,hH,hz,q⟩:=h;cases rx;obtain⟨u,rfl,ru⟩:=rv.one;obtain⟨z,its,n,r,hl,e⟩:=I.ju hH;refine apk F.slot_list_append ⟨_,e,rfl⟩ F.entry_list_append (F.args_list_append_2 _ _) (PySem.list_append l its.toArray n u (by rw[fM];lia)) ⟨e, ?_⟩;refine⟨.aG,_,I.GO (its':=its++ [u]) hH e (by simp) (r.append (.cons ru .nil)) ?_,rfl,q⟩;rw[bo,pw]
 lia
def apo:V->List V->Hp->VK->Prop:=λx vs H Q=>∃l xs,x= .ref l/\vs= []/\H l=some (.lst xs)/\Q .aG (cf H l (.lst xs.reverse))
theorem auj:GL X "list.reverse" apo:=by
 intro ab s σ H x vs v us Q I rx rv h;obtain⟨l,xs,rfl,rfl,hH,q⟩:=h;cases rx;have vz:=rv.zero;subst vz;obtain⟨z,its,n,r,hl,e⟩:=I.ju hH;refine apk F.slot_list_reverse ⟨_,e,rfl⟩ F.entry_list_reverse (F.args_list_reverse_1 _) (AutoSeq1.list_reverse_list_0 l its.toArray n (by rw[fM];lia)) ⟨e, ?_⟩;refine⟨.aG,_,I.GO (its':=its.reverse) hH e (by simp) r.reverse ?_,rfl,q⟩;rw[aoo]
 lia
def O9:R2:=λx y H Q=>∃l b xs zs,x= .ref l/\y= .ref b/\H l=some (.lst xs)/\H b=some (.lst zs)/\xs.length + zs.length<=aM/\∀p,H p=none->Q (.ref p) (cf H p (.lst (xs++zs)))
theorem Yh:cu X (binaryOp .Add) O9:=by
 intro ab s σ H x y v u Q I rx ry h;obtain⟨l,b,xs,zs,rfl,rfl,hH,hB,hz,q⟩:=h;cases rx;cases ry;obtain⟨z,its,n,r,hl,e⟩:=I.ju hH;obtain⟨z2,mh,n2,r2,rC,e2⟩:=I.ju hB;refine PySem.P.add_list e e2 ?_ (by rw[fM,fM];lia);have ea:its.toArray++mh.toArray=(its++mh).toArray:=by simp
 rw[ea];exact⟨.ref _,_,I.Ya (t':=s.toks) (r.append r2) (by rw[bo];lia),rfl,q _ I.fresh⟩
end
section
variable {prog:Program}{w:World}{A:Around}{E:Value->Shared->Prop}{s:Shared}
end
section
variable {X:Cx}
end
end L2
namespace Pa
open PySem PySem.W PySem.Calls PyProof.Rows
theorem Yi{P:Params}{h:Heap}:∀(ns:List Int) (vs:List Value),WellAll P h vs (ns.map WData.int)->B6 vs ns:=by
 intro ns
 induction ns with
 |nil=>
  intro vs w;rw[jQ]at w;cases w;exact .nil
 |cons n ns ih=>
  intro vs w;rw[cP]at w;cases w with
  |cons a b=>
   cases a;exact .cons _ _ (ih _ b)
theorem Yj{l:OpenLaw}(hn:l.most=some n){P:Params}{h:Heap}{args:List WData}{vals:List Value}
  (C2:l.row.toRowW.claim.pre args=true) (GR:WellAll P h vals args):
  ∃a vs ns,vals= [c7 a]/\args= [WData.list (ns.map WData.int)]/\h.get? a=some { cls:= .type "list",data:= .seq vs.toArray }/\B6 vs ns/\ns.length<=n:=by
 have Yk:WShape.hasAll [] args [.list .int]=true:=(pre_splitW C2).1;have hc:l.pre.holds [] { args:=args }=true:=(pre_splitW C2).2;obtain⟨d,r,rfl,h1,h2⟩:=hasAllW_cons Yk;obtain rfl:=hasAllW_nil h2;obtain⟨xs,rfl,h3⟩:=hasW_list h1;obtain⟨ns,rfl⟩:=items_int h3;have dw:ns.length<=n:=by
  unfold OpenLaw.pre at hc;have h4:(WTm.not (.lt (.lit (.int (n:Int))) (.len (.arg 0)))).holds [] { args:= [.list (ns.map .int)] }=true:=by
   have h4:=(holds_andW hc).1;rw[hn]at h4;exact h4
  have h5:=condW_of h4 (w_not (w_lt w_lit (w_len_list (w_arg rfl))));rw[bb]at h5;refine Nat.le_of_not_lt λq=> ?_;have q':(n:Int) < ((ns.length:Nat):Int):=by lia
  first
   |(rw[decide_eq_true q']at h5;exact absurd h5 (by decide))
   |(simp at h5;lia)
 cases GR with
 |cons w1 w2=>
  cases w2;cases w1 with
  |list ho rD=>exact⟨_,_,ns,rfl,rfl,ho,Yi ns _ rD,dw⟩
theorem Yl(l:OpenLaw)(args:List WData):l.row.toRowW.claim.post args (.bool true) args=true:=
 postW_of (r:=l.row.toRowW) (X:=(true == true))
  (show WShape.has [] (.bool true) .bool=true by first | rfl | decide | simp[WShape.has,WShape.arms,WShape.armsAll])
  (show(WTm.eq .res (.lit (.bool true))).value [] { args:=args,res:=some (.bool true),after:=args }=some (.bool (true == true)) from w_eq_bool (w_res rfl) w_lit) rfl
theorem Ym{l:OpenLaw}{n:Nat}{q:Program}{loose:List Str}{XP:(Str->Option Value)->Heap->Prop}{YP:World->Heap->Prop}{d:DefRec}
  (hn:l.most=some n) (Aq:d.params.defaults= [])
  (call:∀(w:World) (gT dD:Shared) (mg mb:Str->Option Value) (fa:Addr) (o:Obj) (pm cd doc:Value) (a:Addr) (vs:List Value) (ns:List Int),
   Ground q loose [] XP w gT mg mb dD.heap->YP w dD.heap->
   dD.heap.get? fa=some o->o.data= .func (docDef d.name d.params d.body d.scope pm cd doc)->dD.heap.CodeRec cd d.name->mg d.name=some (.ref fa)->
   dD.heap.get? a=some { cls:= .type "list",data:= .seq vs.toArray }->B6 vs ns->ns.length<=n->dD.gens=#[]->
   qQ (model l.prog w) zg (.call (.ref fa) ⟨[.ref a], []⟩) (λr s'=>r= .ok (.ret (.bool true))/\OldK dD.heap s'.heap/\s'.os=dD.os/\wO s'.gens) dD):
  WalkO q loose XP YP l.row.toRowW d [] (λf vs=>VS f vs):=by
 intro w gT dD mg mb G Y fa o pm cd doc dV kV ho hd pB hD hmg hg args vals as C2 aiX aiY GR GS;obtain rfl:dV= .none:=Dflts.none hD Aq;obtain rfl:kV= .none:=Dflts.noKw hD;obtain⟨a,vs,ns,rfl,rfl,GU,hints,dw⟩:=Yj hn C2 GR;refine enter_call (B5 (call w gT dD mg mb fa o pm cd doc a vs ns G Y ho (fd_plain hd) pB hmg GU hints dw hg) λr s' hq=> ?_);obtain⟨rfl,h2,h3,h4⟩:=hq;exact⟨.inl ⟨.bool true, .bool true, [],rfl,λ_=>rfl, .bool true,Yl l _,λ_=>⟨List.Pairwise.nil,λ_ hm=>(nomatch hm)⟩⟩,h2,h3,h4⟩
section
variable {prog:Program}{w:World}{A:Around}{E:Value->Shared->Prop}{s:Shared}{K:Frag}
end
end Pa
namespace L2
open PySem PySem.Spec PyProof.Rows
theorem C3:∀{vs:List Value} {ns:List Int},B6 vs ns->bj (ns.map V.int) vs
 |_,_, .nil=> .nil
 |_,_, .cons n t h=> .cons ⟨t,rfl⟩ (C3 h)
def C4(H:Hp):Prop:=∀b,H b=none\/∃o xs,H b=some (.b9 o (.lst xs))
theorem Yn{P:Program}{w:World}{K:ah}{mg mb:Str->Option Value}{CX:rh}{k:Nat}{fa a:Addr}{fd:kK}{x:Str}{sp:Sp}{dD:Shared}{vs:List Value}{ns:List Int}
  (KX:K.In dD.heap) (Pb:dD.heap.Ns jN mg) (hb:dD.heap.Ns Nk mb) (Yo:∀x:Str,x≠"__name__"->mb x=B2 x) (Yp:dD.heap.NoLimit) (hg:dD.gens=#[])
  (ha:dD.heap.get? a=some { cls:= .type "list",data:= .seq vs.toArray }) (hi:B6 vs ns) (hl:ns.length<=aM) (hr:gf k zg)
  (F:∀base:Heap,K.In base->base.Ns jN mg->bZ P w K mg base CX k fa fd [x] sp) (Yq:∀(s:Shared) (u:Value),B4 s fd ⟨[u], []⟩ [(x,u)])
  (tw:∀H:Hp,C4 H->cI K H a (ns.map V.int)->sp [.ref a] H (λv _=>v= .bl true) λ_ _ _=>False)
  (GV:∀H e s',CX [] H dD (λ_ _ _=>False) e s'->False):
  qQ (model P w) zg (.call (.ref fa) ⟨[.ref a], []⟩) (λr s'=>r= .ok (.ret (.bool true))/\OldK dD.heap s'.heap/\s'.os=dD.os/\wO s'.gens) dD:=by
 have rv:=C3 hi;have Yr:=hi.length
 -- from an abstract heap in ayo nothing but the Ys may be tracked
 have core:∀H:Hp,C4 H->cI K H a (ns.map V.int)->gB P w H dD.heap->(∀b,H b≠none->b=a)->(H a≠none->K.lookup a=none)->
   qQ (model P w) zg (.call (.ref fa) ⟨[.ref a], []⟩) (λr s'=>r= .ok (.ret (.bool true))/\OldK dD.heap s'.heap/\s'.os=dD.os/\wO s'.gens) dD:=by
  intro H hO hS aQ hA hK;have Pc:∀{b:Addr} {o:Obj},dD.heap.get? b=some o->H b=none->(qX dD.heap H).get? b=some o:=λe n=>Wu e n;have vq:∀{b:Addr} {o:Obj} {es:Array Nn} {ep:Nat},dD.heap.get? b=some o->o.data= .dict es ep->H b=none:=λ{b o es ep} e d=>by
   cases q:H b with
   |none=>rfl
   |some u=>
    have e':b=a:=hA b (by rw[q];simp);subst e';rw[ha]at e;cases e;have d':Data.seq vs.toArray _=Data.dict es ep:=d;cases d'
  have C5:∀{b:Addr} {m:Str->Option Value},dD.heap.Ns b m->(qX dD.heap H).Ns b m:=λ{b m} ⟨o,es,ep,e,d,r⟩=>⟨o,es,ep,Pc e (vq e d),d,r⟩
  have Pd:K.In (qX dD.heap H):=λb o e=>Pc (KX b o e) (by
   cases q:H b with
   |none=>rfl
   |some u=>
    have e':b=a:=hA b (by rw[q];simp);subst e';rw[hK (by rw[q];simp)]at e;cases e)
  have hM:Mod K mg (qX dD.heap H):=⟨Pd,C5 Pb,⟨mb,C5 hb,Yo⟩,let ⟨mc,h1,h2⟩:=Yp;⟨mc,C5 h1,h2⟩⟩
  have e0:vo P w K mg (qX dD.heap H) zg [] dD H:=⟨rfl,hM,λb o e=>Wv e,Nat.le_of_eq (Wt _ _),trivial,λb hb=>absurd (show b∈([]:List Addr) from hb) (by simp),aQ, .of_eq hg⟩
  refine B5 ((F _ Pd (C5 Pb)).run zg [] dD H ⟨[.ref a], []⟩ [.ref a] [.ref a] _ _ hr e0 (Yq dD (.ref a)) (.cons rfl .nil) (tw H hO hS)) λr s' h=> ?_;cases r with
  |error e=>exact(GV H e s' h).elim
  |ok fl=>
   cases fl with
   |next=>exact pj h
   |brk=>exact pj h
   |cont=>exact pj h
   |ret u=>
    obtain⟨v,H',os,bare,un,Yt,r',q⟩:=h;have q':v= .bl true:=q;subst q';obtain rfl:u=zj true:=r';refine⟨rfl,OldK.of_keep λb o e=> ?_,os,bare⟩;cases q:H b with
    |none=>exact un.keep b o e q (by intro z;exact absurd (show b∈([]:List Addr) from z) (by simp)) (by simp)
    |some u=>
     rcases hO b with z | ⟨ob,xs,z⟩
     ·rw[q]at z;cases z
     ·have z2:=un.l7 b ob _ z;obtain⟨e1,_⟩:=aQ b _ z;obtain⟨e2,_⟩:=Yt b _ z2;rw[e]at e1;cases e1;exact e2
 cases hk:K.lookup a with
 |some o=>
  -- the Ys is one of the module's own objects
  have e:=KX a o hk;rw[ha]at e;cases e;refine core (λ_=>none) (λ_=> .inl rfl) (.inr ⟨_,vs.toArray,_,hk,rfl,rfl,rfl,by rw[fM,Yr];exact hl,by simpa using rv⟩) (λb u z=>by have z':(none:Option HO)=some u:=z;cases z') (λb z=>absurd rfl z) λz=>absurd rfl z
 |none=>
  refine core (λb=>if b=a then some (.b9 { cls:= .type "list",data:= .seq vs.toArray } (.lst (ns.map V.int))) else none) (λb=> ?_) (.inl (.inr ⟨{ cls:= .type "list",data:= .seq vs.toArray },if_pos rfl⟩)) (λb u z=> ?_) (λb z=> ?_) λ_=>hk
  ·by_cases hb:b=a
   ·exact .inr ⟨_,_,if_pos hb⟩
   ·exact .inl (if_neg hb)
  ·by_cases hb:b=a
   ·have z':=(if_pos hb).symm.trans z;cases z';subst hb;exact⟨ha,by rw[bb];exact hl,vs,_,rv,ha⟩
   ·have z':=(if_neg hb).symm.trans z;cases z'
  ·by_cases hb:b=a
   ·exact hb
   ·exact absurd (if_neg hb) z
theorem Yu{l:W.OpenLaw}{n k:Nat}{q:Program}{loose:List Str}{XP:(Str->Option Value)->Heap->Prop}{YP:World->Heap->Prop}{d:DefRec}{K:Params->ah}{CX:World->rh}{sp:World->Sp}{x:Str}
  (hn:l.most=some n) (CS:n<=aM) (Aq:d.params.defaults= []) (hr:gf k zg)
  (hY:∀(w:World) (h:Heap),YP w h->(K w.params).In h)
  (F:∀(w:World) (mg:Str->Option Value) (fa:Addr) (h:Heap),(K w.params).In h->h.Ns jN mg->mg d.name=some (.ref fa)->
   ∃fd:kK,(∀(s:Shared) (u:Value),B4 s fd ⟨[u], []⟩ [(x,u)])/\
    ∀base:Heap,(K w.params).In base->base.Ns jN mg->bZ l.prog w (K w.params) mg base (CX w) k fa fd [x] (sp w))
  (tw:∀(w:World) (H:Hp) (a:Addr) (ns:List Int),ns.length<=n->C4 H->cI (K w.params) H a (ns.map V.int)->sp w [.ref a] H (λv _=>v= .bl true) λ_ _ _=>False)
  (GV:∀(w:World) (H:Hp) (s:Shared) (e:Value) (s':Shared),CX w [] H s (λ_ _ _=>False) e s'->False):
  W.WalkO q loose XP YP l.row.toRowW d [] (λf vs=>VS f vs):=by
 refine Pa.Ym hn Aq λw gT dD mg mb fa o pm cd doc a vs ns G Y ho hd pB hmg GU hints dw hg=> ?_;have KX:=hY w _ Y;obtain⟨fd,hb,hF⟩:=F w mg fa _ KX G.T.g hmg;exact Yn KX G.T.g G.T.b G.T.builtins G.T.nolimit hg GU hints (b7 dw CS) hr hF hb (λH hO hS=>tw w H a ns dw hO hS) λH e s'=>GV w H dD e s'
noncomputable def rE (s:Stmt):Arguments:=match s with
 |.FunctionDef _ a _ _ _ _ _ _ _ _=>a
 |_=> { posonlyargs:= [],args:= [],vararg:=none,kwonlyargs:= [],kw_defaults:= [],kwarg:=none,defaults:= [] }
noncomputable def mS (s:Stmt):List Stmt:=match s with
 |.FunctionDef _ _ b _ _ _ _ _ _ _=>b
 |_=> []
noncomputable def cb (s:Stmt):Scope:=match s with
 |.FunctionDef _ _ _ _ _ _ sc _ _ _=>sc
 |_=> { kind:= .function,names:= [],isGenerator:=false,isCoroutine:=false }
noncomputable abbrev cG:rh:=λ_ _ _ _ _ _=>False
noncomputable abbrev E0:XK:=λ_ _ _=>False
theorem GW{X:Cx}:zb cG X E0:=λ_ _ _ _ _ _ _ h=>h.elim
structure cY(K:ah)(x qual:Str)(st:Stmt)(f:Addr)(fd:kK):Prop where
 ex:∃(oc:Value) (od:Option Addr) (kV doc pm:Value) (an:Option Addr) (dB ct:Value) (mO:Array (Option Value)),
  fd=qT x qual (rE st) (mS st) (cb st) .none kV doc pm an dB ct/\K.lookup f=some ⟨oc,od, .func fd,mO⟩/\Cf K dB qual=true
 kp:uO K (.ref f)=true
section
variable {P:Program}{w:World}{K:ah}{mg:Str->Option Value}{base:Heap}
theorem cY.ok{x qual:Str}{st:Stmt}{f:Addr}{fd:kK}{N ps:List Str}{k:Nat}{sp:Sp}(F:cY K x qual st f fd)(S:dr N ps (cb st))(len:∀vs H Q E,sp vs H Q E->vs.length=ps.length)
  (GC:∀(dB:Value) (A:Around) (outer:List Env) (s:Shared) (H:Hp) (vs:List V) (Q:VK) (E:XK),gf k (A.deeper (envOfC qual (cb st) s.heap.objs.size f dB))->sp vs H Q E->
   ∃t,jc (rj cG P w K mg base N qual (cb st) f dB A outer s H E).ve (mS st) t/\t { nx:=λ_ H'=>Q .aG H',rt:=Q } (start N vs) H):bZ P w K mg base cG (k + 1) f fd ps sp:=by
 obtain⟨oc,od,kV,doc,pm,an,dB,ct,mO,rfl,lk,pB⟩:=F.ex;refine XC lk pB S len λA outer s H vs Q E hr tw=> ?_;obtain⟨t,h,q⟩:=GC dB A outer s H vs Q E hr tw;exact⟨t,h.ve,q⟩
theorem cY.binds{x qual:Str}{st:Stmt}{f:Addr}{fd:kK}{ps:List Str}(F:cY K x qual st f fd)
  (h:∀(kV doc pm:Value) (an:Option Addr) (dB ct:Value) (us:List Value),us.length=ps.length->bindArgs (qT x qual (rE st) (mS st) (cb st) .none kV doc pm an dB ct) ⟨us, []⟩=pure (ps.zip us)):Binds K fd ps []:=by
 obtain⟨oc,od,kV,doc,pm,an,dB,ct,mO,rfl,lk,pB⟩:=F.ex;exact .all (h kV doc pm an dB ct)
theorem GX{x qual:Str}{st:Stmt}{f:Addr}{oc:Value}{od an:Option Addr}{mO:Array (Option Value)}{kV doc pm dB ct:Value}(l:K.lookup f=some ⟨oc,od, .func (qT x qual (rE st) (mS st) (cb st) .none kV doc pm an dB ct),mO⟩)
  (c:Cf K dB qual=true) (k:uO K (.ref f)=true):cY K x qual st f (qT x qual (rE st) (mS st) (cb st) .none kV doc pm an dB ct):=⟨⟨oc,od,kV,doc,pm,an,dB,ct,mO,rfl,l,c⟩,k⟩
end
theorem cR{A:Around}{k:Nat}(hr:gf k A):A.units + 1 < cLine:=zp (Nat.add_le_add_left (by decide:1<=64) _) hr.units
section
theorem pv(i:Nat){x:Str}{pos:Pos}(hN:X.N[i]?=some x:=by rfl)(hv:FY X.env.scope x:=by first | exact vp rfl | exact Or.inr (vp rfl) | exact Or.inr (Or.inr rfl))(hd:(x == ("__debug__":Str))=false:=by decide)
  (pB:(x == ("__classdict__":Str))=false:=by decide):PE X (.Name x pos) (f9 i):=WC hN hv hd pB
end
def aJ(H H':Hp):Prop:=∀b o,H b=some o->H' b=some o
theorem aJ.refl(H:Hp):aJ H H:=λ_ _ h=>h
theorem aJ.trans{H H1 H2:Hp}(a:aJ H H1)(b:aJ H1 H2):aJ H H2:=λc o h=>b c o (a c o h)
theorem aJ.free{H H':Hp}(e:aJ H H'){l:Addr}(h:H' l=Option.none):H l=Option.none:=by
 cases q:H l with
 |none=>rfl
 |some o=>
  rw[e l o q]at h;cases h
section
variable {κ:Type}[DecidableEq κ]
noncomputable def mT (ai:List (κ×V)) (k:κ):Option V:=(ai.find? λkv=>decide (kv.1=k)).map (·.2)
theorem C6{p:κ×V}(e:p.1=k):mT (p::r) k=some p.2:=by simp[mT,Cj,e]
theorem C7{p:κ×V}(e:¬ p.1=k):mT (p::r) k=mT r k:=by simp[mT,Cj,e]
theorem n5.As(r:n5 o u):o.isSome=u.isSome:=by
 cases o with
 |none=>cases u with
  |none=>rfl
  |some _=>exact(show False from r).elim
 |some _=>cases u with
  |none=>exact(show False from r).elim
  |some _=>rfl
theorem KV.val(r:KV ai vs)(k:κ):n5 (mT ai k) (wX vs k):=by
 unfold KV at r
 induction r with
 |nil=>exact kh
 | @cons p q ps qs h t ih=>
  obtain⟨h1,h2⟩:=h;by_cases e:p.1=k
  ·have e':q.1=k:=h1.symm.trans e;have b:wX (q::qs) k=some q.2:=by simp[wX,Cj,e']
   rw[C6 e,b];exact h2
  ·have e':¬ q.1=k:=λz=>e (h1.trans z);have b:wX (q::qs) k=wX qs k:=by simp[wX,Cj,e']
   rw[C7 e,b];exact ih
theorem KV.length(r:KV ai vs):ai.length=vs.length:=Nv r
end
theorem tI(r:RelV (kV k) u):(gL P w).is k u=true:=by
 cases k with
 |inl i=>obtain⟨t,e⟩:=(show ∃t,u=w6 i t from r);subst e;exact FU P w i t
 |inr x=>obtain⟨t,e⟩:=(show ∃t,u=zi x t from r);subst e;exact FV P w x t
theorem Pf:∀{ks:List bc} {us:List Value},bj (ks.map kV) us->ItemsAre (gL P w) ks us
 | [],_,r=>by rw[jQ]at r;cases r;exact .nil
 |k::ks,_,r=>by
  rw[cP]at r;cases r with
  |cons h t=>exact .cons (tI h) (Pf t)
abbrev KT(H:Hp):List (List bc×V)->List (List bc×Addr×Value)->Prop:=Paired λp q=>p.1=q.1/\H q.2.1=some (.tup (p.1.map kV))/\RelV p.2 q.2.2
theorem KT.val(r:KT H ai xs)(k:List bc):n5 (mT ai k) ((atKey xs k).map (·.2)):=by
 induction r with
 |nil=>exact kh
 | @cons p q ps qs h t ih=>
  obtain⟨h1,_,h2⟩:=h;by_cases e:p.1=k
  ·have e':q.1=k:=h1.symm.trans e;have b:atKey (q::qs) k=some q.2:=by simp[atKey,Cj,e']
   rw[C6 e,b];exact h2
  ·have e':¬ q.1=k:=λz=>e (h1.trans z);have b:atKey (q::qs) k=atKey qs k:=by simp[atKey,Cj,e']
   rw[C7 e,b];exact ih
section
theorem Pg(ok:gB P w H h)(e:Rd H a u):gr P w H h a u:=e.ok ok
theorem kn(ok:gB P w H h)(e:Rd H a (.dK ai)):ai.length<=aM/\(a == qO)=false/\∃vs,KV ai vs/\h.DictOf (gL P w) a vs:=
 show gr P w H h a (.dK ai) from Pg ok e
theorem xF(ok:gB P w H h)(e:H a=some (.tup (ks.map kV))):(B1 (gL P w)).is h ks a:=by
 obtain⟨_,its,r,o,h1,h2,n,h3⟩:=(show gr P w H h a (.tup (ks.map kV)) from ok a _ e)
 exact⟨o,its.toArray,n,h1,h2,h3,by simpa using Pf r⟩
theorem vA(ok:gB P w H h)(e:Rd H a (.dT ai)):ai.length<=aM/\(a == qO)=false/\
  ∃xs,KT H ai xs/\h.DictOfH (B1 (gL P w)) a xs:=by
 obtain⟨z,y,xs,r,o,es,ep,h1,h2,h3,h4,h5⟩:=(show gr P w H h a (.dT ai) from Pg ok e)
 refine⟨z,y,xs,r,o,es,ep,h1,h2,h3,h4,λx hx=> ?_,h5⟩;have all:∀{l:List (List bc×V)} {m:List (List bc×Addr×Value)},KT H l m->∀x∈m,(B1 (gL P w)).is h x.1 x.2.1:=by
  intro l m q
  induction q with
  |nil=>intro x hx;exact nomatch hx
  | @cons p q ps qs hq t ih=>
   intro x hx;rcases bL.mp hx with e | hx
   ·subst e;exact xF ok (by rw[<- hq.1];exact hq.2.1)
   ·exact ih x hx
 exact all r x hx
end
def rH(H:Hp)(a:Addr)(y:V)(r:Option V):Prop:=
 (∃ai k,Rd H a (.dK ai)/\y=kV k/\r=mT ai k)\/∃ai k b,Rd H a (.dT ai)/\y= .ref b/\H b=some (.tup (k.map kV))/\r=mT ai k
section
theorem Inv.big(I:Inv X ab σ H s):qO < s.heap.objs.size:=by
 have h:jN < s.heap.objs.size:=(I.mod.glob.keeps I.bk).lt;exact Nat.lt_trans (by decide) h
theorem Yx(hu:A.units + 1 < cLine)(I:Inv X ab σ H s)(g:rH H a y (some v))(ry:RelV y u)(h:∀w' s',Inv X ab σ H s'->RelV v w'->Q w' s'):
  wpAny (model X.prog X.w) A (getItem (.ref a) u) Q E s:=by
 rcases g with⟨ai,k,e,ey,l⟩ | ⟨ai,k,b,e,ey,eb,l⟩
 ·subst ey;obtain⟨z,hd,vs,bG,dd⟩:=kn I.aQ e;obtain⟨w',hw,km⟩:=n5.some_of (v:=v) (o:=wX vs k) (by rw[l];exact bG.val k);exact wpAny_getItem_of (tI ry) dd.mapOf hw (h w' _ (I.tok _) km)
 ·subst ey;cases(show u=c7 b from ry);obtain⟨z,hd,xs,bG,dd⟩:=vA I.aQ e;obtain⟨w',hw,km⟩:=n5.some_of (v:=v) (o:=(atKey xs k).map (·.2)) (by rw[l];exact bG.val k);obtain⟨p,hp,G0⟩:=aY.mp hw;refine wpAny_getItem_heap (FK hu) (xF I.aQ eb) dd hp ?_;rw[G0];exact h w' _ (I.tok _) km
theorem Yy(hu:A.units + 1 < cLine)(I:Inv X ab σ H s)(g:rH H a y o)(ry:RelV y u)(h:∀s',Inv X ab σ H s'->Q (.bool o.isSome) s'):
  wpAny (model X.prog X.w) A (compareOp .In u (.ref a)) Q E s:=by
 rcases g with⟨ai,k,e,ey,l⟩ | ⟨ai,k,b,e,ey,eb,l⟩
 ·subst ey;obtain⟨z,hd,vs,bG,dd⟩:=kn I.aQ e;refine wpAny_in_of (tI ry) hd dd.mapOf ?_;rw[<- (bG.val k).As, <- l];exact h _ (I.tok _)
 ·subst ey;cases(show u=c7 b from ry);obtain⟨z,hd,xs,bG,dd⟩:=vA I.aQ e;refine wpAny_in_heap (FK hu) (xF I.aQ eb) hd dd ?_;have q:=(bG.val k).As;rw[VU]at q;rw[<- q, <- l];exact h _ (I.tok _)
theorem Yz(hu:A.units + 1 < cLine)(I:Inv X ab σ H s)(g:rH H a y o)(ry:RelV y u)(h:∀s',Inv X ab σ H s'->Q (.bool (!o.isSome)) s'):
  wpAny (model X.prog X.w) A (compareOp .NotIn u (.ref a)) Q E s:=by
 rcases g with⟨ai,k,e,ey,l⟩ | ⟨ai,k,b,e,ey,eb,l⟩
 ·subst ey;obtain⟨z,hd,vs,bG,dd⟩:=kn I.aQ e;refine wpAny_notIn_of (tI ry) hd dd.mapOf ?_;rw[<- (bG.val k).As, <- l];exact h _ (I.tok _)
 ·subst ey;cases(show u=c7 b from ry);obtain⟨z,hd,xs,bG,dd⟩:=vA I.aQ e;refine wpAny_notIn_heap (FK hu) (xF I.aQ eb) hd dd ?_;have q:=(bG.val k).As;rw[VU]at q;rw[<- q, <- l];exact h _ (I.tok _)
theorem G1{P:Program}{w:World}{H':Hp}(z:ai.length<=aM)(hd:(a == qO)=false)(bG:KV ai vs)(dd:h'.DictOf (gL P w) a vs):
  gr P w H' h' a (.dK ai):=⟨z,hd,vs,bG,dd⟩
theorem YC(I:Inv X ab σ H s)(e:Rd H a (.dK ai))(h:∀t s',Inv X ab σ H s'->Q (.int ai.length t) s'):wpAny (model X.prog X.w) A (call (.builtin "len") [.ref a]) Q E s:=by
 obtain⟨z,hd,vs,bG,dd⟩:=kn I.aQ e;refine call_len_dict hd dd (by rw[<- bG.length];rw[mG]at z;lia) ?_;rw[<- bG.length];exact h _ _ (I.tok _)
end
theorem YD{X:Cx}{ab:List (Addr×Obj)}{σ:St}{H:Hp}{s:Shared}{a:Addr}{y:V}{o:Option V}(I:Inv X ab σ H s)(g:rH H a y o):s.TypeIs (.ref a) "dict":=by
 rcases g with⟨ai,k,e,_,_⟩ | ⟨ai,k,b,e,_,_,_⟩
 ·obtain⟨_,_,vs,_,dd⟩:=kn I.aQ e;exact dd.typeIs
 ·obtain⟨_,_,xs,_,dd⟩:=vA I.aQ e;exact dd.typeIs
section
end
section
variable {κ:Type}[DecidableEq κ]
end
section
theorem Inv.YH{t':Nat}{e it T:Addr}{o:HO}(I:Inv X ab σ H s)(k:∀b u,b≠e->b≠it->s.heap.get? b=some u->h'.get? b=some u)
  (fe:jT X ab H e) (fi:jT X ab H it) (hT:s.heap.objs.size<=T) (new:gr X.prog X.w (cf H T o) h' T o):Inv X ab σ (cf H T o) { s with heap:=h',toks:=t' }:=by
 have hn:H T=none:=I.aQ.fresh hT;have fv:∀{b:Addr},b∉ [e,it]->b≠e/\b≠it:=λ{b} hb=>⟨λz=>hb (by simp[z]),λz=>hb (by simp[z])⟩
 have lt:∀{b:Addr} {u:Obj},s.heap.get? b=some u->b≠T:=λ{b u} q=>dR (dI (da q) hT);have tr:∀{b:Addr} {u:HO},H b=some u->b≠e/\b≠it:=λ{b u} q=>⟨λz=>(by rw[z,fe.1]at q;cases q),λz=>(by rw[z,fi.1]at q;cases q)⟩
 refine I.step (g':=s.gens) (d':=s.drawn) (ch:= [e,it]) (λb hb=> ?_) (λb u _ _ hc q _=>k b u (fv hc).1 (fv hc).2 q) (λb u _ _ hc q _=>⟨u.slots,k b u (fv hc).1 (fv hc).2 q⟩)
  (λb u _ q n=>by rw[ba (lt q)];exact n) (λb u hc q=>⟨u,k b u (fv hc).1 (fv hc).2 q⟩) (λb xs q=>by rw[ba (gM q hn)];exact q) (λb u v q=>by rw[ba (gM q hn)];exact q)
  (λb ps q=>⟨#[],by rw[ba (gM q hn),q];simp⟩) (λm hm=> ?_) (λb u q=> ?_) I.bare
 ·rcases bL.mp hb with z | hb
  ·subst z;exact⟨fe.2.2.2.1,fe.2.1,fe.2.2.2.2.1,fe.2.2.2.2.2⟩
  ·rcases bL.mp hb with z | hb
   ·subst z;exact⟨fi.2.2.2.1,fi.2.1,fi.2.2.2.2.1,fi.2.2.2.2.2⟩
   ·cases hb
 ·obtain⟨ob,es,ep,ho,r⟩:=hm;exact⟨ob,es,ep,k _ ob (fw fe.2.1) (fw fi.2.1) ho,r⟩
 ·by_cases hb:b=T
  ·subst hb;rw[de]at q;cases q;exact new
  ·rw[ba hb]at q;refine(I.aQ b u q).gO (λc v hc z=> ?_) (λc z=>by rw[ba (gM z hn)];exact z) λc xs z=>by rw[ba (gM z hn)];exact z
   rcases hc with z' | z'
   ·rw[z']at z |-;exact k b v (tr q).1 (tr q).2 z
   ·exact k c v (tr z').1 (tr z').2 z
theorem Inv.auk{t':Nat}(I:Inv X ab σ H s)(k:∀b u,b≠e->b≠it->s.heap.get? b=some u->h'.get? b=some u)
  (fe:jT X ab H e) (fi:jT X ab H it):Inv X ab σ H { s with heap:=h',toks:=t' }:=by
 have fv:∀{b:Addr},b∉ [e,it]->b≠e/\b≠it:=λ{b} hb=>⟨λz=>hb (by simp[z]),λz=>hb (by simp[z])⟩
 have tr:∀{b:Addr} {u:HO},H b=some u->b≠e/\b≠it:=λ{b u} q=>⟨λz=>(by rw[z,fe.1]at q;cases q),λz=>(by rw[z,fi.1]at q;cases q)⟩
 refine I.step (g':=s.gens) (d':=s.drawn) (ch:= [e,it]) (λb hb=> ?_) (λb u _ _ hc q _=>k b u (fv hc).1 (fv hc).2 q) (λb u _ _ hc q _=>⟨u.slots,k b u (fv hc).1 (fv hc).2 q⟩)
  (λb u _ q n=>n) (λb u hc q=>⟨u,k b u (fv hc).1 (fv hc).2 q⟩) (λb xs q=>q) (λb u v q=>q)
  (λb ps q=>⟨#[],by rw[q];simp⟩) (λm hm=> ?_) (λb u q=> ?_) I.bare
 ·rcases bL.mp hb with z | hb
  ·subst z;exact⟨fe.2.2.2.1,fe.2.1,fe.2.2.2.2.1,fe.2.2.2.2.2⟩
  ·rcases bL.mp hb with z | hb
   ·subst z;exact⟨fi.2.2.2.1,fi.2.1,fi.2.2.2.2.1,fi.2.2.2.2.2⟩
   ·cases hb
 ·obtain⟨ob,es,ep,ho,r⟩:=hm;exact⟨ob,es,ep,k _ ob (fw fe.2.1) (fw fi.2.1) ho,r⟩
 ·refine(I.aQ b u q).gO (λc v hc z=> ?_) (λc z=>z) λc xs z=>z;rcases hc with z' | z'
  ·rw[z']at z |-;exact k b v (tr q).1 (tr q).2 z
  ·exact k c v (tr z').1 (tr z').2 z
end
def aos(K:ah)(a:Addr):It:=
 ⟨λi H=>∃xs x,cI K H a xs/\xs[i]?=some x,λi H v H'=>∃T,H T=none/\v= .ref T/\∀xs,cI K H a xs->∃x,xs[i]?=some x/\H'=cf H T (.tup [.int i,x]),λi H=>∃xs,cI K H a xs/\xs.length<=i⟩
theorem aul{P:Program}{w:World}{K:ah}{elts:List Expr}{x1:Nat}{pos:Pos}(a e it:Addr)(qp:e≠it):
  Turn P w K (.Tuple elts x1 pos) (aos K a) [e,it] e (λi h=>(∃old,IsEnum h e it i old)/\h.IsListIter it a i) where
 mem:=by simp
 obj:=λi h st b hb=>by
  obtain⟨⟨old,he⟩,o,ho,c,d⟩:=st;rcases bL.mp hb with z | hb
  ·subst z;exact⟨_,he,λv z=>by cases z⟩
  ·rcases bL.mp hb with z | hb
   ·subst z;exact⟨o,ho,λv z=>by rw[d]at z;cases z⟩
   ·cases hb
 keep:=λi h h' st k=>by
  obtain⟨⟨old,he⟩,hit⟩:=st;exact⟨⟨old,k e (by simp) _ he⟩,hit.at λo q=>k it (by simp) o q⟩
 item:=by
  intro X hP hw hK hc i ab s σ H E I hf st hg;subst hP hw hK;obtain⟨xs,x,hq,hx⟩:=hg;obtain⟨its,rv,p,hz⟩:=I.list hq;obtain⟨u,hu,ru⟩:=rv.get hx;have fe:=hf e (by simp);have fi:=hf it (by simp);obtain⟨⟨old,he⟩,hit⟩:=st;have RF:e < s.heap.objs.size:=da he;have HN:it < s.heap.objs.size:=by obtain⟨o,ho,_⟩:=hit;exact da ho
  refine wpAny_pyNext_enum_item he hit p.isList (x:=u) (by simpa using hu) qp λh1 aum aun Hw pJ k1=> ?_;refine⟨_,rfl, ?_⟩;refine wpAny_letOwnedTupleGo_enum (s:= { s with heap:=h1,toks:=s.toks + 1 }) aum λh2 al4 sb=> ?_;have k2:∀b ob,b≠e->b≠it->s.heap.get? b=some ob->h2.get? b=some ob:=λb ob n1 n2 q=>(sb.2 b n1).trans (k1 b ob n1 n2 q);have Hx:h2.get? s.heap.objs.size=some { cls:= .type "tuple",data:= .seq #[.int i s.toks,u] }:=(sb.2 _ (xD RF)).trans Hw;have Az:H s.heap.objs.size=none:=I.aQ.fresh (bO _);refine⟨.ref s.heap.objs.size,cf H s.heap.objs.size (.tup [.int i,x]),I.YH (t':=s.toks + 1) k2 fe fi (bO _) ?_,rfl,⟨_,Az,rfl,λys hy=>⟨x,by rw[I.Ol hy hq];exact hx,rfl⟩⟩,⟨⟨u, ?_⟩, ?_⟩,λb hb=> ?_⟩
  ·exact⟨(by show 2<=aM;decide), [.int i s.toks,u], .cons ⟨_,rfl⟩ (.cons ru .nil),⟨_,Hx,rfl,_,rfl⟩⟩
  ·have e1:((i + 1:Nat):Int)=(i:Int) + 1:=by push_cast;rfl
   rw[e1];exact al4
  ·exact aun.at λo q=>(sb.2 it (fw qp)).trans q
  ·rcases bL.mp hb with z | hb
   ·subst z;rw[ba (dR RF)];exact fe.1
   ·rcases bL.mp hb with z | hb
    ·subst z;rw[ba (dR HN)];exact fi.1
    ·cases hb
 done:=by
  intro X hP hw hK hc i ab s σ H E I hf st hg;subst hP hw hK;obtain⟨xs,hq,hx⟩:=hg;obtain⟨its,rv,p,hz⟩:=I.list hq;have fe:=hf e (by simp);have fi:=hf it (by simp);obtain⟨⟨old,he⟩,hit⟩:=st;have hl:=rv.length;refine wpAny_pyNext_enum_end (I.ok.hd hc) he hit p.isList (by simp;lia) λh1 k1=>⟨rfl, ?_⟩
  exact I.auk (t':=s.toks) (λb u n1 n2 q=>k1 b u n2 q) fe fi
 self:=λ_ _ _ _ _ st h=>by
  obtain⟨⟨old,he⟩,_⟩:=st;exact wpAny_pyIter_enum he h
section
def apq(K:ah)(ta:TA):TI:=λσ H R=>ta σ H λvs H1=>∃a,vs= [.ref a]/\(∃xs,cI K H1 a xs)/\R (aos K a) H1
theorem auo{elts:List Expr}{x1:Nat}{Ah:Pos}{p pos:Pos}(hg:Gl X "enumerate")(hm:X.mg "enumerate"=none)(ha:PA X [a] ta)(hs:dz [a] X.env= [(false,eval a X.env)]:=by rfl):
  PI X (.Tuple elts x1 Ah) (.Call (.Name "enumerate" p) [a] [] pos) (apq X.K ta):=by
 intro ab s σ H R I h;refine Call_ (xq I hg hm boot_enumerate (Ny (bh (ha pos ab s σ H _ I h) λus s1 ⟨vs,H1,I1,r1,q1⟩=> ?_) hs rfl));obtain⟨l,e,⟨xs,hq⟩,q⟩:=q1;subst e;obtain⟨u,rfl,ru⟩:=vals1 r1;cases ru;obtain⟨its,rv,pl,hz⟩:=I1.list hq;refine call_enumerate_list pl.isList λh' he hit hsz hk=> ?_;refine wpAny_pyIter_enum (s:= { s1 with heap:=h' }) he ?_;have ne:s1.heap.objs.size + 1≠s1.heap.objs.size:=Nat.succ_ne_self _;refine⟨s1.heap.objs.size + 1, [s1.heap.objs.size + 1,s1.heap.objs.size],_,_,H1,rfl,I1.kept (t':=s1.toks) hk,aul l _ _ ne,⟨⟨_,he⟩,hit⟩,λb hb=> ?_,q⟩;rcases bL.mp hb with z | hb
 ·subst z;exact I1.Aa (NI _) (I1.aQ.fresh (NI _))
 ·rcases bL.mp hb with z | hb
  ·subst z;exact I1.Aa (bO _) (I1.aQ.fresh (bO _))
  ·cases hb
end
def oq(i j:Int):Prop:=0 < j/\j < 2 ^ 200
theorem YI{j:Int}(h0:0 < j)(h:j < 2 ^ 200):j.natAbs.log2 < 9000:=by
 have e:j.natAbs < 2 ^ 200:=by
  have:(j.natAbs:Int)=j:=Int.natAbs_of_nonneg (Int.le_of_lt h0);have h2:(j.natAbs:Int) < ((2 ^ 200:Nat):Int):=by rw[this];exact_mod_cast h
  exact_mod_cast h2
 have:j.natAbs.log2 < 200:=(Nat.log2_lt (by lia)).mpr e
 lia
section
theorem Pq:cu X (binaryOp .FloorDiv) (rI oq λi j=> .int (i / j)):=CP λi j _ _ _ _ _ hc q=>by
 have h1:(0:Int) < j:=hc.1;exact floordiv_int (by lia) (by rw[Int.fdiv_eq_ediv_of_nonneg i (by lia)];exact q) (.inl (PyProof.noPylong_of_log2 (YI hc.1 hc.2)))
theorem YJ:fT X (.builtin "isinstance") (λxs H Q=>∃x t b,xs= [x, .ty T]/\kP X.K H x t/\xg X.K t (.type T)=some b/\Q (.bl b) H):=by
 intro ab s σ H xs us Q I r h;obtain⟨x,t,b,rfl,ty,e,q⟩:=h;obtain⟨u,w',rfl,ru,rt⟩:=vals2 r;cases rt;exact Xt I ru ty e λtk=>⟨.bl b,H,I.tok tk,rfl,q⟩
end
theorem G4(env:Env):∀(ns:List (Str×dQ)) (aS:List (Str×Addr)),(∀y∈ns,y.2= .free->∃c,env.cells.lookup y.1=some c)->
  ∃new:List (Str×Addr),(∀p∈new,env.cells.lookup p.1=some p.2)/\(∀y∈ns,y.2= .free->∃c,(y.1,c)∈new)/\
   (forIn ns aS (λ(x:Str×dQ) (r:List (Str×Addr))=>match x with
    |(name,kind)=>if(kind == qb)=true then do let c <- cellOf env name;pure (zq ((name,c)::r)) else pure (zq r)):Sem (List (Str×Addr)))=pure (new++aS)
 | [],aS,_=>⟨[],λ_ h=>(nomatch h),λ_ h=>(nomatch h),rfl⟩
 |(n,k)::rest,aS,h=>by
  by_cases hk:k= .free
  ·subst hk;obtain⟨c,hc⟩:=h _ xb rfl;obtain⟨new,h1,h2,h3⟩:=G4 env rest _ λy hy=>h y (nQ _ hy);refine⟨new++ [(n,c)],λp hp=> ?_,λy hy hf=> ?_, ?_⟩
   ·rcases lZ.mp hp with z | z
    ·exact h1 p z
    ·obtain rfl:=l5.mp z;exact hc
   ·rcases bL.mp hy with z | z
    ·subst z;exact⟨c,by simp⟩
    ·obtain⟨c',z'⟩:=h2 y z hf;exact⟨c',qR _ z'⟩
   ·rw[FO];have e1:cellOf env n=pure c:=by unfold cellOf;rw[hc]
    simp only[beq_self_eq_true,if_true,e1];rw[b8];exact h3
  ·obtain⟨new,h1,h2,h3⟩:=G4 env rest aS λy hy=>h y (nQ _ hy);refine⟨new,h1,λy hy hf=> ?_, ?_⟩
   ·rcases bL.mp hy with z | z
    ·subst z;exact absurd hf hk
    ·exact h2 y z hf
   ·rw[FO];have e1:(k == qb)=false:=by simpa using hk
    simp only[e1,Bool.false_eq_true,if_false];exact h3
theorem ah9{l:List (Str×Addr)}(h:(x,c)∈l):∃c',l.lookup x=some c':=by
 induction l with
 |nil=>cases h
 |cons p r ih=>
  obtain⟨y,d⟩:=p;rw[nR];cases e:x == y with
  |true=>exact⟨d,rfl⟩
  |false=>
   rcases bL.mp h with z | z
   ·have:x=y:=congrArg VY z;rw[this]at e;simp at e
   ·exact ih z
theorem YK{scope:Scope}{env:Env}(h:∀y∈scope.names,y.2= .free->∃c,env.cells.lookup y.1=some c):
  ∃cl,closureFor scope env=pure cl/\(∀x c,cl.lookup x=some c->env.cells.lookup x=some c)/\(∀y∈scope.names,y.2= .free->∃c,cl.lookup y.1=some c):=by
 obtain⟨new,h1,h2,h3⟩:=G4 env scope.names [] h;refine⟨new, ?_,λx c e=>h1 _ (xh e),λy hy hf=> ?_⟩
 ·rw[bR]at h3;have e:closureFor scope env=((forIn scope.names _ (λ(x:Str×dQ) (r:List _)=>match x with
    |(name,kind)=>if _=true then do let c <- cellOf env name;pure (zq ((name,c)::r)) else pure _):Sem _) >>= λr=>pure r):=rfl
  rw[e,h3];rfl
 ·obtain⟨c,hc⟩:=h2 y hy hf;exact ah9 hc
section
theorem YL{elt target iter:Expr}{ifs:List Expr}{scope:Scope}{pos:Pos}{it aS:Value}{env:Env}(I:Nat->Shared->Prop)
  (turn:∀n s,I n s->wpAny (model prog w) A (pyNext it) (λr dD=>match r with
   |none=>R (.ok .next) dD
   |some v=>wpAny (model prog w) A (Nm target it v) (λ_ Pr=>wpAny (model prog w) A (assign target env v) (λ_ CO=>
     wpAny (model prog w) A (forIn ifs true λc r=>if r=true then do let ok <- isTrue c env (eval c env);pure (zq ok) else pure (zq r)) (λok pG=>
      if ok=true then wpAny (model prog w) A (eval elt env) (λx Dh=>
       wpAny (model prog w) A (call (.builtin "list.append") [aS,x]) (λ_ arJ=>∃m,m < n/\I m arJ) (B9 (model prog w) A env λe s'=>R (.error e) s') Dh) (B9 (model prog w) A env λe s'=>R (.error e) s') pG
      else ∃m,m < n/\I m pG) (B9 (model prog w) A env λe s'=>R (.error e) s') CO) (B9 (model prog w) A env λe s'=>R (.error e) s') Pr) (B9 (model prog w) A env λe s'=>R (.error e) s') dD) (B9 (model prog w) A env λe s'=>R (.error e) s') s)
  (n:Nat) (h:I n s):
  qQ (model prog w) A (.compLoop (.ListComp elt [⟨target,iter,ifs,0⟩] scope pos) 0 it aS env) R s:=by
 refine codeAny_loop rfl I (λn s hI=> ?_) n h;refine wpAny_noted ?_;rw[compTurn_list];refine az (U8 (az (ja (turn n s hI) (λr dD Aw=> ?_) λ_ _ h'=>h')));cases r with
 |none=>exact bF Aw
 |some v=>
  refine az (ja Aw (λ_ Pr YM=> ?_) λ_ _ h'=>h');refine az (ja YM (λ_ CO YN=>az (ja YN (λok pG Pu=> ?_) λ_ _ h'=>h')) λ_ _ h'=>h');cases ok with
  |false=>exact bF ⟨rfl,Pu⟩
  |true=>
   exact az (az (ja Pu (λx Dh YO=>az (ja YO (λ_ arJ YQ=>bF (bF ⟨rfl,YQ⟩)) λ_ _ h'=>h')) λ_ _ h'=>h'))
end
noncomputable def je (X:Cx) (N:List Str) (scope:Scope) (cl:List (Str×Addr)) (C:Addr) (s:Shared) (H:Hp) (ex:List Addr) (ab:List (Addr×Obj)):Cx:=
 { X with N:=N,gT:=s,sS:=H,env:=compEnvC scope cl C X.env,outer:=X.stack,stack:=X.stack,ex:=ex,fn:=λx=>scope.names.lookup x == some jR,pn:=X.pn++ab,xe:=λ_ _=>False }
theorem YR{M:Model}{A:Around}{E:Value->Shared->Prop}{s:Shared}{scope:Scope}{globals:Addr}{cl:List (Str×Addr)}{qual:Str}{env:Env}{Q:Env->Shared->Prop}
  (hQ:Q (newEnv scope s.heap.objs.size globals (nN (s.heap.objs.size + 1) scope.names cl) qual none .none (some env) Nk) { s with heap:=wY (s.heap.push { cls:= .type "dict",data:= .dict #[] }) scope.names }):
  wpAny M A (Vj scope globals cl [] qual none .none (some env)) Q E s:=by
 simp only[Vj,Option.isSome_some,if_true];refine az (wpAny_alloc ?_);refine az (wpAny_layCells _ (λname kind cells=>by cases YS:kind == jR <;> simp[YS]) _ _ _ _ ?_);rw[show({ s with heap:=s.heap.push { cls:= .type "dict",data:= .dict #[] } }:Shared).heap.objs.size=s.heap.objs.size + 1 from p9 ..];rw[NO];exact az (bF (bF hQ))
theorem G5:∀(names:List (Str×dQ)) (h:Heap) (aS:List (Str×Addr)) (x:Str) (c:Addr),(nN h.objs.size names aS).lookup x=some c->
  (aS.lookup x=some c/\¬ (x,jR)∈names)\/(h.objs.size<=c/\(x,jR)∈names/\(wY h names).IsCell c none)
 | [],_,_,_,_,e=> .inl ⟨e,λz=>nomatch z⟩
 |(name,kind)::r,h,aS,x,c,e=>by
  unfold nN at e;unfold wY;by_cases hk:(kind == jR)=true
  ·rw[if_pos hk]at e;rw[if_pos hk];obtain rfl:kind= .cell:=by simpa using hk
   have hs:(h.push { cls:= .type "cell",data:= .cell none }).objs.size=h.objs.size + 1:=p9 ..;rw[<- hs]at e;rcases G5 r _ _ x c e with⟨e1,e2⟩ | ⟨e1,e2,e3⟩
   ·rw[nR]at e1;cases hx:x == name with
    |true=>
     rw[hx]at e1;cases e1;obtain rfl:x=name:=by simpa using hx
     exact .inr ⟨bO _,xb,_,Nq _ _ _ _ (gc _ rfl),rfl⟩
    |false=>
     rw[hx]at e1;refine .inl ⟨e1,λz=> ?_⟩;rcases bL.mp z with z | z
     ·have:x=name:=congrArg VY z;rw[this]at hx;simp at hx
     ·exact e2 z
   ·exact .inr ⟨by rw[hs]at e1;exact Nat.le_of_succ_le e1,nQ _ e2,e3⟩
  ·rw[if_neg hk]at e;rw[if_neg hk];rcases G5 r h aS x c e with⟨e1,e2⟩ | ⟨e1,e2,e3⟩
   ·refine .inl ⟨e1,λz=> ?_⟩;rcases bL.mp z with z | z
    ·have:jR=kind:=congrArg Prod.snd z;rw[<- this]at hk;exact hk rfl
    ·exact e2 z
   ·exact .inr ⟨e1,nQ _ e2,e3⟩
theorem G6:∀(names:List (Str×dQ)) (n:Nat) (aS:List (Str×Addr)) (x:Str),(x,jR)∈names\/(∃c,aS.lookup x=some c)->∃c,(nN n names aS).lookup x=some c
 | [],_,_,_,h=>h.elim (λz=>nomatch z) id
 |(name,kind)::r,n,aS,x,h=>by
  unfold nN;by_cases hk:(kind == jR)=true
  ·rw[if_pos hk];refine G6 r _ _ x ?_;rw[nR];cases hx:x == name with
   |true=>exact .inr ⟨n,rfl⟩
   |false=>
    rcases h with h | h
    ·rcases bL.mp h with z | z
     ·have:x=name:=congrArg VY z;rw[this]at hx;simp at hx
     ·exact .inl z
    ·exact .inr h
  ·rw[if_neg hk];refine G6 r _ _ x (h.imp (λz=> ?_) id);rcases bL.mp z with z | z
   ·have:jR=kind:=congrArg Prod.snd z;rw[<- this]at hk;exact absurd rfl hk
   ·exact z
theorem G7:∀(names:List (Str×dQ)) (n:Nat) (aS:List (Str×Addr)),(∀x c,aS.lookup x=some c->c < n)->(∀x y c,aS.lookup x=some c->aS.lookup y=some c->x=y)->
  ∀x y c,(nN n names aS).lookup x=some c->(nN n names aS).lookup y=some c->x=y
 | [],_,_,_,h=>h
 |(name,kind)::r,n,aS,hb,hi=>by
  unfold nN;by_cases hk:(kind == jR)=true
  ·rw[if_pos hk];refine G7 r _ _ (λx c e=> ?_) λx y c e1 e2=> ?_
   ·rw[nR]at e;cases hx:x == name with
    |true=>rw[hx]at e;cases e;exact FN _
    |false=>rw[hx]at e;exact Ck (hb x c e)
   ·rw[nR]at e1 e2;cases hx:x == name with
    |true=>
     rw[hx]at e1;cases e1;cases hy:y == name with
     |true=>rw[show x=name by simpa using hx,show y=name by simpa using hy]
     |false=>rw[hy]at e2;exact absurd (hb y _ e2) (mI _)
    |false=>
     rw[hx]at e1;cases hy:y == name with
     |true=>rw[hy]at e2;cases e2;exact absurd (hb x _ e1) (mI _)
     |false=>rw[hy]at e2;exact hi x y c e1 e2
  ·rw[if_neg hk];exact G7 r n aS hb hi
structure Pw(X:Cx)(scope:Scope)(C:Addr)(h':Heap)(cl:List (Str×Addr)):Prop where
 at_:∀x c,cl.lookup x=some c->(X.env.cells.lookup x=some c/\¬ (x,jR)∈scope.names)\/(C < c/\(x,jR)∈scope.names/\h'.IsCell c none)
 has:∀y∈scope.names,(y.2= .free\/y.2= .cell)->∃c,cl.lookup y.1=some c
 inj:∀x y c,cl.lookup x=some c->cl.lookup y=some c->x=y
noncomputable def jv (js:List (Option Nat)) (σ:St):St:=js.map λo=>o.bind λj=>(σ[j]?).join
structure Di(X:Cx)(N:List Str)(scope:Scope)(js:List (Option Nat)):Prop where
 len:js.length=N.length
 at_:∀(i j:Nat) (x:Str),js[i]?=some (some j)->N[i]?=some x->X.N[j]?=some x/\scope.names.lookup x=some .free/\(X.env.scope.names.lookup x=some .cell\/X.env.scope.names.lookup x=some .free)
 fr:∀y∈scope.names,y.2= .free->X.env.kindOf y.1=some .cell\/X.env.kindOf y.1=some .free
theorem Px{env:Env}:∀{names:List (Str×dQ)} {x:Str},names.lookup x=some .free->
  let r:=(names.map λ(n,k)=>if(k == qb && env.scope.kind == .function && env.kindOf n == some .cell) then(n,jR) else(n,k)).lookup x
  r=some .cell\/r=some .free
 | [],_,h=>by simp at h
 |(n,k)::r,x,h=>by
  have ih:=@Px env r x;show(List.lookup x ((if(k == qb && env.scope.kind == .function && env.kindOf n == some .cell)=true then(n,jR) else(n,k))::_)=_)\/(List.lookup x ((if(k == qb && env.scope.kind == .function && env.kindOf n == some .cell)=true then _ else(n,k))::_)=_);cases hx:x == n with
  |true=>
   simp only[nR,hx]at h;cases h;by_cases hc:(qb == qb && env.scope.kind == .function && env.kindOf n == some .cell)=true
   ·rw[if_pos hc];simp only[nR,hx];exact .inl trivial
   ·rw[if_neg hc];simp only[nR,hx];exact .inr trivial
  |false=>
   simp only[nR,hx]at h;by_cases hc:(k == qb && env.scope.kind == .function && env.kindOf n == some .cell)=true
   ·rw[if_pos hc];simp only[nR,hx];exact ih h
   ·rw[if_neg hc];simp only[nR,hx];exact ih h
theorem Py{env:Env}:∀{names:List (Str×dQ)} {x:Str},
  ((names.map λ(n,k)=>if(k == qb && env.scope.kind == .function && env.kindOf n == some .cell) then(n,jR) else(n,k)).lookup x=some .cell\/
   (names.map λ(n,k)=>if(k == qb && env.scope.kind == .function && env.kindOf n == some .cell) then(n,jR) else(n,k)).lookup x=some .free)->
  (x,qb)∈names\/(x,jR)∈names
 | [],_,h=>by simp at h
 |(n,k)::r,x,h=>by
  have ih:=@Py env r x;rw[cP]at h;by_cases hc:(k == qb && env.scope.kind == .function && env.kindOf n == some .cell)=true
  ·have e:(match ((n,k):Str×dQ) with | (n,k)=>if _=true then _ else(n,k))=(n,jR):=if_pos hc;rw[e]at h;simp only[nR]at h;cases hx:x == n with
   |true=>
    have:x=n:=by simpa using hx
    have hk:k= .free:=by
     rw[kM,kM]at hc;simpa using hc.1.1
    rw[this,hk];exact .inl xb
   |false=>
    rw[hx]at h;exact(ih h).imp (nQ _) (nQ _)
  ·have e:(match ((n,k):Str×dQ) with | (n,k)=>if _=true then(n,jR) else(n,k))=(n,k):=if_neg hc;rw[e]at h;simp only[nR]at h;cases hx:x == n with
   |true=>
    have:x=n:=by simpa using hx
    rw[hx]at h;rw[this];rcases h with h | h
    ·cases h;exact .inr xb
    ·cases h;exact .inl xb
   |false=>
    rw[hx]at h;exact(ih h).imp (nQ _) (nQ _)
section
theorem Inv.block{t':Nat}(I:Inv X ab σ H s)(hf:∀b∈fp,jT X ab H b/\b < s.heap.objs.size)(hC:s.heap.objs.size<=C)(hk:∀b o,s.heap.get? b=some o->h'.get? b=some o)(hn:h'.Ns C m)
  (tG:scope.kind= .function) (sV:∀y∈scope.names,y.2= .cell->scope.names.lookup y.1=some .cell) (cO:Pw X scope C h' cl) (vD:Di X N scope js):
  Inv (je X N scope cl C s H fp ab) [] (jv js σ) H { s with heap:=h',toks:=t' }:=by
 have ai1:∀x c,X.env.cells.lookup x=some c->c < s.heap.objs.size:=λx c e=>by
  obtain⟨v,q⟩:=I.cell x c e;exact q.lt
 have YT:∀p∈X.pn++ab,p.1∉l3 X.stack:=λp hp z=>by
  obtain⟨_,_,h3,h4,_⟩:=I.pin p hp;rcases bL.mp (I.zC _ z) with q | q
  ·exact h3 q
  ·exact h4 q
 have YU:(je X N scope cl C s H fp ab).Ok:=by
  refine⟨I.ok.mod,tG,I.ok.glob,I.ok.blt,hC,cO.inj,λx hx=> ?_,λx c h e=> ?_,I.ok.hd,I.ok.frames, .inl rfl,λb hb=>⟨?_,λx c e=> ?_⟩,I.bs,b7 I.ok.qe I.sz,
   λb o e hb=> ?_,λb hb z=> ?_,I.stack,I.N9⟩
  ·rcases Py (env:=X.env) hx with q | q
   ·exact cO.has _ q (.inl rfl)
   ·exact cO.has _ q (.inr rfl)
  ·have h1:scope.names.lookup x=some jR:=by simpa[je]using h
   rcases cO.at_ x c e with⟨_,z⟩ | ⟨z,_⟩
   ·exact absurd (xh h1) z
   ·exact b7 hC (nO z)
  ·exact dR (dI (hf b hb).2 hC)
  ·rcases cO.at_ x c e with⟨z,_⟩ | ⟨z,_⟩
   ·exact(hf b hb).1.2.2.2.2.1 x c z
   ·exact xD (dI (hf b hb).2 (b7 hC (nO z)))
  ·obtain⟨_,_,_,h4,_⟩:=(hf b hb).1;rcases h4 with z | z
   ·exact I.ok.zB b o e z
   ·exact absurd (dI (da e) (b7 I.ok.qe z)) (mI _)
  ·obtain⟨_,h2,h3,_⟩:=(hf b hb).1;rcases bL.mp (I.zC _ z) with q | q
   ·exact h2 q
   ·exact h3 q
 refine⟨YU,rfl,I.bare,Un.kept hk,⟨m,hn,λi x v e1 e2 e3=> ?_⟩,λx c e=> ?_,I.aQ.fresh hC,λx c e=> ?_,λp hp=> ?_,I.aQ.kept hk, ?_⟩
 ·have xG:(js.map λo=>o.bind λj=>(σ[j]?).join)[i]?=some (some v):=e2;rw[bJ]at xG;cases ej:js[i]? with
  |none=>rw[ej]at xG;cases xG
  |some oj=>
   rw[ej]at xG;cases oj with
   |none=>cases xG
   |some j=>
    have Dj:(σ[j]?).join=some v:=hV xG;have YV:σ[j]?=some (some v):=by
     cases q:σ[j]? with
     |none=>rw[q]at Dj;cases Dj
     |some o=>rw[q]at Dj;rw[show o=some v from Dj]
    obtain⟨hN,xp,hX⟩:=vD.at_ i j x ej e1;obtain⟨mX,_,hl⟩:=I.loc;obtain⟨u,ru,lk⟩:=hl j x v hN YV (hX.elim (λz=> .inr (.inl z)) λz=> .inr (.inr z));refine⟨u,ru, .inr ⟨Px (env:=X.env) xp, ?_⟩⟩;rcases lk with⟨YW,_⟩ | ⟨_,c,hc,YX⟩
    ·have Pz:X.env.scope.names.lookup x=some .local:=YW;rcases hX with z | z <;> rw[z]at Pz <;> cases Pz
    ·obtain⟨c',qY⟩:=cO.has _ (xh xp) (.inl rfl);have YY:X.env.cells.lookup x=some c':=by
      rcases cO.at_ x c' qY with⟨z,_⟩ | ⟨_,z,_⟩
      ·exact z
      ·have:=sV _ z rfl;rw[xp]at this;cases this
     have:c'=c:=hV (YY.symm.trans hc);subst this;obtain⟨o,ho,hd⟩:=YX;exact⟨c',qY,o,hk _ _ ho,hd⟩
 ·rcases cO.at_ x c e with⟨z,_⟩ | ⟨_,_,z⟩
  ·obtain⟨v,o,ho,hd⟩:=I.cell x c z;exact⟨v,o,hk _ _ ho,hd⟩
  ·exact⟨none,z⟩
 ·rcases cO.at_ x c e with⟨z,_⟩ | ⟨z,_⟩
  ·exact I.nY x c z
  ·exact I.aQ.fresh (b7 hC (nO z))
 ·have Ax:p∈X.pn++ab:=by
   have:p∈(X.pn++ab)++ []:=hp;rwa [bR]at this
  obtain⟨h1,h2,h3,h4,h5⟩:=I.pin p Ax;exact⟨hk _ _ h1,h2,dR (dI (da h1) hC),YT p Ax,h5⟩
 ·show(js.map _).length=N.length;rw[bb];exact vD.len
theorem Inv.PB{o:HO}(I:Inv X ab σ H s)(h0:X.gT.heap.objs.size<=D)(hn:H D=none)(hL:D≠X.env.locals)(hc:∀x c,X.env.cells.lookup x=some c->c≠D)(hp:∀p∈X.pn++ab,p.1≠D)
  (new:gr X.prog X.w (cf H D o) s.heap D o):Inv X ab σ (cf H D o) s:=by
 have old:∀b ob,X.gT.heap.get? b=some ob->b≠D:=λb ob e=>dR (dI (da e) h0);refine⟨I.ok,I.os,I.bare,⟨I.base.keep,I.base.slot,λb ob e n hx=> ?_,I.base.there,λb xs e=> ?_,λb ob u e=> ?_,λb ps e=> ?_⟩,I.loc,I.cell, ?_,λx c e=> ?_,λp Ax=> ?_,λb u e=> ?_,I.len⟩
 ·rw[ba (old b ob e)];exact I.base.free b ob e n hx
 ·have q:=I.base.mL b xs e;rw[ba (gM q hn)];exact q
 ·have q:=I.base.l7 b ob u e;rw[ba (gM q hn)];exact q
 ·obtain⟨more,q⟩:=I.base.qd b ps e;exact⟨more,by rw[ba (gM q hn)];exact q⟩
 ·rw[ba (fw hL)];exact I.free
 ·rw[ba (hc x c e)];exact I.nY x c e
 ·obtain⟨h1,h2,h3⟩:=I.pin p Ax;exact⟨h1,by rw[ba (hp p Ax)];exact h2,h3⟩
 ·by_cases hb:b=D
  ·subst hb;rw[de]at e;cases e;exact new
  ·rw[ba hb]at e;exact(I.aQ b u e).gO (λc v _ q=>q) (λc z=>by rw[ba (gM z hn)];exact z) λc xs z=>by rw[ba (gM z hn)];exact z
theorem Inv.YZ{s':Shared}{aF:St}{H':Hp}{ys:List V}{its:List Value}{n:Nat}(I:Inv X ab σ H s)(hf:∀b∈fp,jT X ab H b/\b < s.heap.objs.size)(hC:s.heap.objs.size<=C)(hD:s.heap.objs.size<=D)(Ay:D≠C)
  (J:Inv (je X N scope cl C s H fp ab) [(D, { cls:= .type "list",data:= .seq its.toArray n })] aF H' s') (hv:bj ys its) (hz:ys.length<=aM):
  Inv X ab σ (cf H' D (.lst ys)) s'/\jT X ab (cf H' D (.lst ys)) C/\H' D=none/\∃m,s'.heap.Ns C m:=by
 have Az:H' C=none:=J.free;have PC:H' D=none:=(J.pin (D,_) (kg _ (l5.mpr rfl))).2.1;have Y0:s'.heap.get? D=some { cls:= .type "list",data:= .seq its.toArray n }:=(J.pin (D,_) (kg _ (l5.mpr rfl))).1;have u:Un (l3 X.stack) fp H H' s.heap s'.heap:=J.base;obtain⟨hh,g,d,t,Gz⟩:=s';have Y1:Gz=s.os:=J.os;subst Y1;have I1:Inv X ab σ H' { s with heap:=hh,gens:=g,drawn:=d,toks:=t }:=
  I.call (h':=hh) (g':=g) (d':=d) (t':=t) (ch:=fp) u J.aQ J.bare λb hb=>⟨(hf b hb).1.2.2.2.1,(hf b hb).1.2.1,(hf b hb).1.2.2.2.2.1,(hf b hb).1.2.2.2.2.2⟩
 have Dl:D≠X.env.locals:=xD (dI I.lt hD);have young:∀a,s.heap.objs.size<=a->(∀x c,X.env.cells.lookup x=some c->c≠a)/\∀p∈X.pn++ab,p.1≠a:=λa ha=>⟨λx c e z=>by
   obtain⟨v,q⟩:=I.cell x c e;exact absurd (dI q.lt (by rw[z];exact ha)) (mI _),λp hp z=>absurd (dI (da (I.pin p hp).1) (by rw[z];exact ha)) (mI _)⟩
 refine⟨I1.PB (b7 I.sz hD) PC Dl (young D hD).1 (young D hD).2 ⟨hz,its,n,hv,Y0⟩,⟨by rw[ba (fw Ay)];exact Az,xD (dI I.lt hC),I.FZ hC, .inr (b7 I.sz hC),(young C hC).1,(young C hC).2⟩,PC, ?_⟩;obtain⟨m,hn,_⟩:=J.loc;exact⟨m,hn⟩
end
def Dk(Y:Cx)(ifs:List Expr)(tt:TT):Prop:=
 ∀(ab:List (Addr×Obj)) (s:Shared) (σ:St) (H:Hp) (Q:Bool->Hp->Prop),Inv Y ab σ H s->tt σ H Q->
  wpAny (model Y.prog Y.w) Y.A (forIn ifs true λc r=>if r=true then do let ok <- isTrue c Y.env (eval c Y.env);pure (zq ok) else pure (zq r)) (TP Y ab σ Q) Y.xe s
def Dm:TT:=λ_ H Q=>Q true H
theorem ko:Dk Y [] Dm:=λ_ _ _ H _ I h=>bF ⟨H,I,h⟩
theorem PD(h:PT Y c tt):Dk Y [c] tt:=by
 intro ab s σ H Q I hw;simp only[FO,NO,if_true];exact az (az (ja (h ab s σ H Q I hw) (λb s' hb=>bF (bF hb)) λ_ _ x=>x))
def PF(J:It)(g:TG)(tt:TT)(te:TE)(W:Nat->Nat->St->List V->Hp->Prop)(Q:V->Hp->Prop):Prop:=
 ∀i m aF ys H',W i m aF ys H'->(J.stop i H'/\∀D,H' D=none->Q (.ref D) (cf H' D (.lst ys)))\/
  (J.go i H'/\∃N:St->List V->Hp->Prop,(∀eY zs H2,N eY zs H2->zs.length<=aM/\∃m',m' < m/\W (i + 1) m' eY zs H2)/\
   ∀x H2,J.s9 i H' x H2->g x aF H2 λeY H3=>tt eY H3 λok H4=>if ok=true then te eY H4 λy H5=>N eY (ys++ [y]) H5 else N eY ys H4)
section
theorem Y2{W:Nat->Nat->St->List V->Hp->Prop}{Q:V->Hp->Prop}{m0:Nat}{RR:Value->Addr->Result->Shared->Prop}{E:Value->Shared->Prop}(hc:X.calm=true)
  (hg:∀cl C s H ex ab,PG (je X N scope cl C s H ex ab) tg g) (ht:∀cl C s H ex ab,Dk (je X N scope cl C s H ex ab) ifs tt) (he:∀cl C s H ex ab,PE (je X N scope cl C s H ex ab) elt te)
  (tG:scope.kind= .function) (sV:∀y∈scope.names,y.2= .cell->scope.names.lookup y.1=some .cell) (vE:∀x c,cl.lookup x=some c->X.env.cells.lookup x=some c) (jV:∀y∈scope.names,y.2= .free->∃c,cl.lookup y.1=some c) (vD:Di X N scope js)
  (I:Inv X ab σ H s) (T:Turn X.prog X.w X.K tg J fp it tn) (st:tn 0 s.heap) (f:∀b∈fp,jT X ab H b) (w0:W 0 m0 (jv js σ) [] H) (turn:PF J g tt te W Q)
  (Y3:∀(D C:Addr) (s':Shared) (ys:List V) (H':Hp),Inv X ab σ (cf H' D (.lst ys)) s'->jT X ab (cf H' D (.lst ys)) C->(∃m,s'.heap.Ns C m)->Q (.ref D) (cf H' D (.lst ys))->RR (.ref D) C (.ok .next) s'):
  wpAny (model X.prog X.w) X.A (newList []) (λaS pG=>wpAny (model X.prog X.w) X.A (Vj scope X.env.globals cl [] X.env.qual none .none (some X.env)) (λPH Dh=>
   qQ (model X.prog X.w) X.A (.compStart (.ListComp elt [⟨tg,iter,ifs,0⟩] scope pos) 0 (.ref it) aS { PH with scope:=relabel scope X.env }) (RR aS PH.locals) Dh) E pG) E s:=by
 have kl:∀b∈fp,b < s.heap.objs.size:=λb hb=>by
  obtain⟨o,ho,_⟩:=T.obj 0 _ st b hb;exact da ho
 have ff:∀b∈fp,jT X ab H b/\b < s.heap.objs.size:=λb hb=>⟨f b hb,kl b hb⟩
 refine qP (YR ?_);dsimp only;generalize G8:s.heap.push { cls:= .type "list",dict:=none,data:= .seq ([]:List Value).toArray }=H2;have hC:H2.objs.size=s.heap.objs.size + 1:=by rw[<- G8,p9]
 have Ay:s.heap.objs.size≠H2.objs.size:=by rw[hC];exact dR (FN _)
 have Dn:s.heap.objs.size<=H2.objs.size:=by rw[hC];exact NI _
 have below:∀b,b < s.heap.objs.size->b≠H2.objs.size/\b≠s.heap.objs.size:=λb hb=>⟨by rw[hC];exact dR (Ck hb),dR hb⟩
 have Y4:(wY (H2.push { cls:= .type "dict",data:= .dict #[] }) scope.names).Ns H2.objs.size (λ_=>none):=(Heap.Ns.new H2 (.type "dict")).keeps (Nq _ _);have old:∀b o,s.heap.get? b=some o->(wY (H2.push { cls:= .type "dict",data:= .dict #[] }) scope.names).get? b=some o:=λb o e=>Nq _ _ b o (cB _ (G8▸cB _ e));have iY:(wY (H2.push { cls:= .type "dict",data:= .dict #[] }) scope.names).get? s.heap.objs.size=some { cls:= .type "list",dict:=none,data:= .seq ([]:List Value).toArray }:=Nq _ _ _ _ (cB _ (G8▸gc _ rfl));have dS:∀x c,cl.lookup x=some c->c < H2.objs.size + 1:=λx c e=>by
  obtain⟨v,q⟩:=I.cell x c (vE x c e);exact Ck (dI q.lt Dn)
 have hsz:(H2.push { cls:= .type "dict",data:= .dict #[] }).objs.size=H2.objs.size + 1:=p9 ..;have cO:Pw X scope H2.objs.size (wY (H2.push { cls:= .type "dict",data:= .dict #[] }) scope.names) (nN (H2.objs.size + 1) scope.names cl):=by
  refine⟨λx c e=> ?_,λy hy hk=> ?_,G7 _ _ _ dS λx y c e1 e2=>I.ok.inj x y c (vE x c e1) (vE y c e2)⟩
  ·rw[<- hsz]at e;rcases G5 _ _ _ x c e with⟨e1,e2⟩ | ⟨e1,e2,e3⟩
   ·exact .inl ⟨vE x c e1,e2⟩
   ·exact .inr ⟨by rw[hsz]at e1;exact e1,e2,e3⟩
  ·obtain⟨y,k⟩:=y;refine G6 _ _ _ _ ?_;rcases hk with hk | hk
   ·exact .inr (jV _ hy hk)
   ·exact .inl (by rw[<- hk];exact hy)
 show qQ _ _ (.compStart _ 0 _ _ (compEnvC scope (nN (H2.objs.size + 1) scope.names cl) H2.objs.size X.env)) _ _;generalize nN (H2.objs.size + 1) scope.names cl=lI at *;generalize wY (H2.push { cls:= .type "dict",data:= .dict #[] }) scope.names=Aw at *;clear vE jV dS hsz;generalize H2.objs.size=C at *;generalize Dp:s.heap.objs.size=D at *;have vF:s.heap.objs.size<=D:=Nat.le_of_eq Dp;have PJ:s.heap.objs.size<=C:=by rw[Dp];exact Dn
 -- the ai2 own invariant
 have J0:Inv (je X N scope lI C s H fp ab) [] (jv js σ) H { s with heap:=Aw }:=
  I.block (λb hb=>⟨f b hb,by rw[Dp];exact kl b hb⟩) PJ old Y4 tG sV cO vD
 have u9:∀b,b∉X.fs->b≠X.env.locals->b∉l3 X.stack:=λb h1 h2 z=>by
  rcases bL.mp (I.zC _ z) with q | q
  ·exact h2 q
  ·exact h1 q
 have Y5:D∉l3 X.stack:=u9 D (I.FZ vF) (xD (dI I.lt vF));have aup:∀x c,lI.lookup x=some c->c≠D:=λx c e z=>by
  rcases cO.at_ x c e with⟨e,_⟩ | ⟨e,_⟩
  ·obtain⟨v,q⟩:=I.cell x c e;exact absurd (dI q.lt (by rw[z];exact vF)) (mI _)
  ·exact absurd e (by rw[z];exact Nat.not_lt.mpr Dn)
 have Y7:∀p∈X.pn++ab,p.1≠D:=λp hp z=>absurd (dI (da (I.pin p hp).1) (by rw[z];exact vF)) (mI _)
 -- the list under way is pinned
 have PK:∀{ps:List (Addr×Obj)} {aF:St} {H':Hp} {s':Shared} {its:List Value} {n:Nat},Inv (je X N scope lI C s H fp ab) ps aF H' s'->H' D=none->s'.heap.get? D=some { cls:= .type "list",data:= .seq its.toArray n }->
   Inv (je X N scope lI C s H fp ab) [(D, { cls:= .type "list",data:= .seq its.toArray n })] aF H' s':=λ{ps aF H' s' its n} Jx hn ho=>Jx.CB λp hp=>by
  obtain rfl:=l5.mp hp;exact⟨ho,hn,Ay,Y5,λv z=>by cases z⟩
 have vi:∀{H':Hp} {ob:Obj},(∀b∈fp,H' b=none)->∀b∈fp,jT (je X N scope lI C s H fp ab) [(D,ob)] H' b:=λ{H' ob} hn b hb=>by
  obtain⟨_,f1,f2,f3,f4,f5⟩:=f b hb;refine⟨hn b hb,(below b (kl b hb)).1,u9 b f2 f1, .inl hb,λx c e=>(cO.at_ x c e).elim (λz=>f4 x c z.1) (λz=>xD (dI (kl b hb) (b7 Dn (nO z.1)))),λp hp=> ?_⟩;rcases lZ.mp hp with z | z
  ·exact f5 p z
  ·obtain rfl:=l5.mp z;exact fw (below b (kl b hb)).2
 have loop:∀pG:Shared,pG= { s with heap:=Aw }->
   qQ (model X.prog X.w) X.A (.compLoop (.ListComp elt [⟨tg,iter,ifs,0⟩] scope pos) 0 (.ref it) (.ref D) (compEnvC scope lI C X.env)) (RR (.ref D) C) pG:=by
  rintro pG rfl;refine YL (λk s'=>∃(i:Nat) (aF:St) (ys:List V) (H':Hp) (its:List Value) (n:Nat),Inv (je X N scope lI C s H fp ab) [(D, { cls:= .type "list",data:= .seq its.toArray n })] aF H' s'/\bj ys its/\ys.length<=aM/\tn i s'.heap/\(∀b∈fp,H' b=none)/\W i k aF ys H') ?_ m0
   ⟨0,jv js σ, [],H, [],0,PK J0 (I.aQ.fresh vF) iY, .nil,jO _,T.keep _ _ _ st λb _ o e=>old b o e,λb hb=>(f b hb).1,w0⟩
  rintro k s' ⟨i,aF,ys,H',its,n,J',hv,hz,e5,PL,w'⟩;rcases turn i k aF ys H' w' with⟨stop,q⟩ | ⟨go,NN,hN,step⟩
  ·refine ja (T.done (je X N scope lI C s H fp ab) rfl rfl rfl hc i _ s' aF H' (λ_ _=>False) J' (vi PL) e5 stop) (λr s4 ⟨hr,J4⟩=> ?_) λ_ _ z=>z.elim;subst hr;obtain⟨K1,K2,K3,K4⟩:=I.YZ (λb hb=>⟨f b hb,by rw[Dp];exact kl b hb⟩) PJ vF Ay J4 hv hz;exact Y3 D C s4 ys H' K1 K2 K4 (q D K3)
  ·refine ja (T.item (je X N scope lI C s H fp ab) rfl rfl rfl hc i _ s' aF H' (λ_ _=>False) J' (vi PL) e5 go) (λr s4 ⟨u,hr,h4⟩=> ?_) λ_ _ z=>z.elim;subst hr;refine ja h4 (λ_ s5 ⟨x,H5,J5,r5,y5,rf,Gh⟩=> ?_) λ_ _ z=>z.elim;have Y8:=J5.pinned (vi Gh) (T.obj _ _ rf);have PM:∀{md:St} {H7:Hp} {s7:Shared},Inv (je X N scope lI C s H fp ab) ([(D, { cls:= .type "list",data:= .seq its.toArray n })]++Ad fp s5.heap) md H7 s7->tn (i + 1) s7.heap/\∀b∈fp,H7 b=none:=λ{md H7 s7} J7=>
    ⟨T.keep _ _ _ rf λb hb o e=>(J7.pin (b,o) (kg _ (kg _ (CM hb e)))).1,λb hb=>by
     obtain⟨o,e,d⟩:=T.obj _ _ rf b hb;exact(J7.pin (b,o) (kg _ (kg _ (CM hb e)))).2.1⟩
   refine ja (hg lI C s H fp ab _ s5 aF H5 x u _ Y8 r5 (step x H5 y5)) (λ_ s6 ⟨n6,H6,J6,q6⟩=> ?_) λ_ _ z=>(show False from z).elim;refine ja (ht lI C s H fp ab _ s6 n6 H6 _ J6 q6) (λok s7 ⟨H7,J7,q7⟩=> ?_) λ_ _ z=>(show False from z).elim;cases ok with
   |false=>
    have Y9:NN n6 ys H7:=q7;obtain⟨G9,m',hm,w7⟩:=hN n6 ys H7 Y9;obtain⟨t7,f7⟩:=PM J7;exact⟨m',hm,i + 1,n6,ys,H7,its,n,J7.CN,hv,hz,t7,f7,w7⟩
   |true=>
    refine ja (he lI C s H fp ab _ s7 n6 H7 _ J7 q7) (λy s8 ⟨v,H8,J8,r8,q8⟩=> ?_) λ_ _ z=>(show False from z).elim;obtain⟨G9,m',hm,w8⟩:=hN n6 (ys++ [v]) H8 q8;obtain⟨t8,f8⟩:=PM J8;have pD:=J8.pin (D,_) (kg _ (qR _ (l5.mpr rfl)));have Za:its.toArray.size<=aM:=by rw[fM, <- hv.length];exact hz
    refine wpAny_list_append_plain (hsz:=Za) (items:=its.toArray) ⟨n,pD.1⟩ λh9 Zb PN=> ?_;obtain⟨n9,Zc⟩:=Zb;have Zd:h9.get? D=some { cls:= .type "list",data:= .seq (its++ [y]).toArray n9 }:=by rw[Zc];simp
    have Ze:Inv (je X N scope lI C s H fp ab) [] n6 H8 s8:=J8.CB λp hp=>(nomatch hp)
    have J9:Inv (je X N scope lI C s H fp ab) [] n6 H8 { s8 with heap:=h9 }:=Ze.turned (t':=s8.toks) (it:=D) (λb o hb e=>(PN.2 b hb).trans e) pD.2.1 Ay (.inr vF) aup λp hp=>Y7 p (by
     have:p∈(X.pn++ab)++ []:=hp;rwa [bR]at this)
    refine⟨m',hm,i + 1,n6,ys++ [v],H8,its++ [y],n9,PK J9 pD.2.1 Zd,hv.append (.cons r8 .nil),G9,T.keep _ _ _ t8 λb hb o e=>(PN.2 b (below b (kl b hb)).2).trans e,f8,w8⟩
 exact codeAny_compStart_list (loop _ rfl) (T.self X.A 0 _ _ _ (T.keep _ _ _ st λb _ o e=>old b o e) (loop _ rfl))
def xH(wi:TI)(g:TG)(tt:TT)(te:TE)(js:List (Option Nat)):TE:=λσ H Q=>wi σ H λJ H1=>∃W:Nat->Nat->St->List V->Hp->Prop,(∃m,W 0 m (jv js σ) [] H1)/\PF J g tt te W Q
theorem jw(js:List (Option Nat))(N:List Str)(hc:X.calm=true)(vD:Di X N scope js)(hi:PI X tg iter wi)(hg:∀cl C s H ex ab,PG (je X N scope cl C s H ex ab) tg g)(ht:∀cl C s H ex ab,Dk (je X N scope cl C s H ex ab) ifs tt)
  (he:∀cl C s H ex ab,PE (je X N scope cl C s H ex ab) elt te)
  (tG:scope.kind= .function:=by rfl) (sV:∀y∈scope.names,y.2= .cell->scope.names.lookup y.1=some .cell:=by decide +kernel) (Zf:∀y∈scope.names,y.2= .local->scope.names.lookup y.1=some .local:=by decide +kernel)
  (hs:∀x,atW iter X.env x=pure x:=by intro _;rfl):PE X (.ListComp elt [⟨tg,iter,ifs,0⟩] scope pos) (xH wi g tt te js):=by
 intro ab s σ H Q I h;obtain⟨cl,Zg,vE,jV⟩:=YK (scope:=scope) (env:=X.env) λy hy hf=>I.ok.has _ (vD.fr y hy hf);rw[eval_ListComp];refine ax2 (use:=none) rfl hs Zg tG Zf (bh (hi ab s σ H _ I h) λv s1 h1=>bh h1 λGg s2 h2=> ?_);obtain⟨it,fp,tn,J,H2,rfl,I2,T,dJ,f2,W,⟨m0,w0⟩,turn⟩:=h2;refine Y2 (RR:=λaS C=>compPost (model X.prog X.w) X.A X.xe none (EP X ab σ Q) aS C) hc hg ht he tG sV vE jV vD I2 T dJ f2 w0 turn λD C s' ys H' K1 K2 K3 q=> ?_;obtain⟨m,hm⟩:=K3;refine⟨m,hm,λh' sb=>⟨.ref D,_,K1.turned (t':=s'.toks) (λb o hb e=>(sb.2 b hb).trans e) K2.1 K2.2.1 K2.2.2.2.1 K2.2.2.2.2.1 K2.2.2.2.2.2,rfl,q⟩⟩
theorem ahj{py arK:Pos}(js:List (Option Nat))(N:List Str)(hc:X.calm=true)(vD:Di X N scope js)(hN:X.N.Nodup)(hk:X.N[k]?=some y)(hy:Loc X.env.scope y)(hi:PI X tg iter wi)(hg:∀cl C s H ex ab,PG (je X N scope cl C s H ex ab) tg g)(ht:∀cl C s H ex ab,Dk (je X N scope cl C s H ex ab) ifs tt)
  (he:∀cl C s H ex ab,PE (je X N scope cl C s H ex ab) elt te)
  (auq:wQ (.ListComp elt [⟨tg,iter,ifs,0⟩] scope pos) (some (.Name y py)) arK.line X.env=pure true:=by rfl)
  (tG:scope.kind= .function:=by rfl) (sV:∀y∈scope.names,y.2= .cell->scope.names.lookup y.1=some .cell:=by decide +kernel) (Zf:∀y∈scope.names,y.2= .local->scope.names.lookup y.1=some .local:=by decide +kernel)
  (hs:∀x,atW iter X.env x=pure x:=by intro _;rfl) (hf:X.fn y=true\/X.env.scope.names.lookup y=some .local:=by first | exact .inl rfl | exact .inr rfl | assumption):
  PS X (.Assign [.Name y py] (.ListComp elt [⟨tg,iter,ifs,0⟩] scope pos) arK) (vh (xH wi g tt te js) (lB k)):=by
 intro ab s σ H D I h;obtain⟨cl,Zg,vE,jV⟩:=YK (scope:=scope) (env:=X.env) λy hy hf=>I.ok.has _ (vD.fr y hy hf);rw[exec_Assign_Name_used _ _ _ _ auq];refine az (U8 (az ?_));show wpAny _ X.A (do let _ <- comprehension (.ListComp elt [⟨tg,iter,ifs,0⟩] scope pos) scope X.env _ (newList []) false (eval iter X.env) (some (assign (.Name y py) X.env))) _ _ s;refine az (ja (ax2 (use:=some (assign (.Name y py) X.env)) (Q:=λ_ s'=>SP X ab D .next s') rfl hs Zg tG Zf
  (bh (hi ab s σ H _ I h) λv s1 h1=>bh h1 λGg s2 h2=> ?_)) (λ_ s' hq=>bF (bF hq)) λ_ _ e=>e)
 obtain⟨it,fp,tn,J,H2,rfl,I2,T,dJ,f2,W,⟨m0,w0⟩,turn⟩:=h2;refine Y2 (RR:=λaS C=>compPost (model X.prog X.w) X.A X.xe (some (assign (.Name y py) X.env)) (λ_ s'=>SP X ab D .next s') aS C) hc hg ht he tG sV vE jV vD I2 T dJ f2 w0 turn λDd C s' ys H' K1 K2 K3 q=> ?_;obtain⟨m,o,es,ep,ho,hd,hr⟩:=K3;have Kp:Inv X (ab++ [(C,o)]) σ (cf H' Dd (.lst ys)) s':=K1.CB λp hp=>by
  rcases lZ.mp hp with z | z
  ·exact K1.pin p (kg _ z)
  ·obtain rfl:=l5.mp z;exact⟨ho,K2.1,K2.2.1,K2.2.2.1,λv z=>by rw[hd]at z;cases z⟩
 show wpAny _ X.A (assign (.Name y py) X.env (.ref Dd)) _ _ _;refine wpAny_assign_Name (CC (v:= .ref Dd) Kp hN hk hy rfl (λs3 I3=> ?_) hf);have pC:=I3.pin (C,o) (kg _ (kg _ (l5.mpr rfl)));refine⟨m,⟨o,es,ep,pC.1,hd,hr⟩,λh' sb=> ?_⟩;have I4:Inv X ab (σ.set k (some (.ref Dd))) (cf H' Dd (.lst ys)) s3:=I3.CN;exact⟨_,_,I4.turned (t':=s3.toks) (it:=C) (λb o hb e=>(sb.2 b hb).trans e) K2.1 K2.2.1 K2.2.2.2.1 K2.2.2.2.2.1 K2.2.2.2.2.2,q⟩
end
mutual
inductive jW(K:ah)(H:Hp):V->PyData->Prop
 |aG:jW K H .aG .none
 |bl (b:Bool):jW K H (.bl b) (.bool b)
 |int (i:Int):jW K H (.int i) (.int i)
 |str (x:Str):jW K H (.str x) (.str x)
 |lst {a:Addr} {xs:List V} {ds:List PyData}:cI K H a xs->vG K H xs ds->jW K H (.ref a) (.list ds)
 |tup {a:Addr} {xs:List V} {ds:List PyData}:cE K H a xs->vG K H xs ds->jW K H (.ref a) (.tuple ds)
inductive vG(K:ah)(H:Hp):List V->List PyData->Prop
 |nil:vG K H [] []
 |cons {x:V} {xs:List V} {d:PyData} {ds:List PyData}:jW K H x d->vG K H xs ds->vG K H (x::xs) (d::ds)
end
section
mutual
theorem Inv.reads(I:Inv X ab σ H s):∀{v:V} {d:PyData} {u:Value},jW X.K H v d->RelV v u->∃as,Reads s.heap u d as
 |_,_,_, .aG,r=>by cases r;exact⟨_, .none⟩
 |_,_,_, .bl b,r=>by cases r;exact⟨_, .bool b⟩
 |_,_,_, .int i,r=>by obtain⟨t,rfl⟩:=r;exact⟨_, .int i t⟩
 |_,_,_, .str x,r=>by obtain⟨t,rfl⟩:=r;exact⟨_, .str x t⟩
 |_,_,_, .lst hs ha,r=>by
  cases r;obtain⟨its,rv,⟨o,n,e,hc,_,hd⟩,_⟩:=I.list hs;obtain⟨as,q⟩:=I.readsAll ha rv;exact⟨_, .list e hc hd (by simpa using q)⟩
 |_,_,_, .tup hs ha,r=>by
  cases r;obtain⟨its,rv,⟨o,e,hc,n,hd⟩,_⟩:=I.tuple hs;obtain⟨as,q⟩:=I.readsAll ha rv;exact⟨_, .tuple e hc hd (by simpa using q)⟩
theorem Inv.readsAll(I:Inv X ab σ H s):∀{vs:List V} {ds:List PyData} {us:List Value},vG X.K H vs ds->bj vs us->∃as,ReadsAll s.heap us ds as
 |_,_,_, .nil,r=>by cases r;exact⟨_, .nil⟩
 |_,_,_, .cons h t,r=>by
  cases r with
  |cons r1 r2=>
   obtain⟨as,q⟩:=I.reads h r1;obtain⟨bs,q2⟩:=I.readsAll t r2;exact⟨_, .cons q q2⟩
end
end
section
theorem Zh(hu:X.A.units + 64 < cLine):cu X (compareOp .Eq) (λx y H Q=>∃dx dy,jW X.K H x dx/\jW X.K H y dy/\dx.canLay0=true/\dy.canLay0=true/\dx.depth<=60/\Q (.bl (d9 dx dy)) H):=by
 intro ab s σ H x y v u Q I rx ry h;obtain⟨dx,dy,h1,h2,c1,c2,hd,q⟩:=h;obtain⟨as,r1⟩:=I.reads h1 rx;obtain⟨bs,r2⟩:=I.reads h2 ry;exact SeqAt.compareEq_reads r1 r2 c1 c2 (by lia) ⟨.bl _,H,I,rfl,q⟩
theorem Zi(hu:X.A.units + 64 < cLine):cu X (compareOp .NotEq) (λx y H Q=>∃dx dy,jW X.K H x dx/\jW X.K H y dy/\dx.canLay0=true/\dy.canLay0=true/\dx.depth<=60/\Q (.bl (!d9 dx dy)) H):=by
 intro ab s σ H x y v u Q I rx ry h;obtain⟨dx,dy,h1,h2,c1,c2,hd,q⟩:=h;obtain⟨as,r1⟩:=I.reads h1 rx;obtain⟨bs,r2⟩:=I.reads h2 ry;exact SeqAt.compareNe_reads r1 r2 c1 c2 (by lia) ⟨.bl _,H,I,rfl,q⟩
end
def Dq(x:Str):It:=⟨λi _=>i < x.cps.size,λi H v H'=>H'=H/\∃c,x.cps[i]?=some c/\v= .str ⟨#[c]⟩,λi _=>x.cps.size<=i⟩
theorem PQ{P:Program}{w:World}{K:ah}{tg:Expr}{it:Addr}{x:Str}{t:Tok}(rn: ["enumerate","zip","dict_itemiterator","dict_reverseitemiterator","odict_iterator","itertools.zip_longest","itertools.pairwise"].contains ty=false)
  (W:∀A':Around,A'.handled=none->Walks P w A' it [it] [it] x.cps.size (SignAt x) (λi h=>h.IsStrIter it ty x t i))
  (Zj:∀(A:Around) (i:Nat) (s:Shared) (Q:Value->Shared->Prop) (E:Value->Shared->Prop),s.heap.IsStrIter it ty x t i->Q (.ref it) s->wpAny (model P w) A (pyIter (.ref it)) Q E s):Turn P w K tg (Dq x) [it] it (λi h=>i<=x.cps.size/\h.IsStrIter it ty x t i) where
 mem:=by simp
 obj:=λi h st b hb=>by
  have e:b=it:=by simpa using hb
  subst e;obtain⟨_,o,e,c,d⟩:=st;exact⟨o,e,λv z=>by rw[d]at z;cases z⟩
 keep:=λi h h' st k=>by
  obtain⟨hi,o,e,r⟩:=st;exact⟨hi,o,k it (by simp) o e,r⟩
 item:=by
  intro X hP hw hK hc i ab s σ H E I hf st hg;subst hP hw hK;obtain⟨f0,f1,f2,f3,f4,f5⟩:=hf it (by simp);obtain⟨_,st⟩:=st;refine(W X.A (I.ok.hd hc)).item i s _ _ hg st λv h' tk hv e5 kk=> ?_;obtain⟨c,u,hx,rfl⟩:=hv;have I1:Inv X ab σ H { s with heap:=h',toks:=tk }:=I.turned (λb o hb e=>kk b o (by simpa using hb) e) f0 f1 f3 f4 f5;obtain⟨o,e,Zk,hd⟩:=id e5;exact⟨_,rfl,Ab e Zk hd rn ⟨.str ⟨#[c]⟩,H,I1,⟨u,rfl⟩,⟨rfl,c,hx,rfl⟩,⟨hg,e5⟩,λb hb=>(hf b hb).1⟩⟩
 done:=by
  intro X hP hw hK hc i ab s σ H E I hf st hg;subst hP hw hK;obtain⟨f0,f1,f2,f3,f4,f5⟩:=hf it (by simp);obtain⟨hi,st⟩:=st;have e:=Nat.le_antisymm hi hg;subst e;exact(W X.A (I.ok.hd hc)).done s _ _ st λh' tk kk=>⟨rfl,I.turned (λb o hb e=>kk b o (by simpa using hb) e) f0 f1 f3 f4 f5⟩
 self:=λA i s Q E st h=>Zj A i s Q E st.2 h
section
theorem Zl(hc:X.calm=true):fT X (.builtin "all") (λxs H Q=>∃(a:Addr) (bs:List Bool),xs= [.ref a]/\cI X.K H a (bs.map V.bl)/\Q (.bl (bs.all id)) H):=by
 intro ab s σ H xs us Q I r h;obtain⟨a,bs,rfl,hs,q⟩:=h;obtain⟨u,rfl,ru⟩:=vals1 r;cases ru;obtain⟨its,rv,pl,hz⟩:=I.list hs;have hl:its.length=bs.length:=by rw[<- rv.length,bb]
 refine call_all_walk ?_;refine Vk pl.isList ?_;have lt:a < s.heap.objs.size:=by obtain⟨o,n,e,_⟩:=pl;exact da e
 have at_:∀(i:Nat) (v:Value),its.toArray[i]?=some v->v=zj (bs.getD i true):=λi v hv=>by
  have iV:its[i]?=some v:=by simpa using hv
  have hi:i < bs.length:=by
   have:=(cm.mp iV).1
   lia
  have hx:(bs.map V.bl)[i]?=some (.bl (bs.getD i true)):=by
   rw[bJ,dH hi];simp[Cn,dH hi]
  obtain⟨u,hu,ru⟩:=rv.get hx;rw[iV]at hu;cases hu;exact ru
 refine⟨s.heap.objs.size,_,_,_,_,_,λi=>bs.getD i true,rfl,Walks.list (A:=X.A.in1) (show X.A.in1.handled=none from I.ok.hd hc) _ a (dR lt) its.toArray,⟨⟨_,gc _ rfl,rfl,rfl⟩,pl.isList.at λo e=>cB _ e⟩,λi v s' Q' E' hv hQ=> ?_,λh' tk hk=> ?_⟩
 ·rw[at_ i v hv];exact uK hQ
 ·have e:((xm its.toArray.size).all λi=>bs.getD i true)=bs.all id:=by
   rw[fM,hl];rw[VZ,gA,gA]
   constructor
   ·intro h b hb;obtain⟨i,hi,e⟩:=List.mem_iff_getElem.mp hb;have:=h i (sH.mpr hi);rw[Cn,dH hi]at this;rw[<- e];exact this
   ·intro h i hi;have vH:=sH.mp hi;rw[Cn,dH vH];exact h _ (Co vH)
  rw[e];refine⟨.bl _,H,I.kept (t':=tk) λb o eo=>hk b o ?_ (cB _ eo),rfl,q⟩;intro z;rw[l5.mp z]at eo;exact absurd (da eo) (mI _)
theorem aur:Am X "str.startswith" (λx vs H Q=>∃a b,x= .str a/\vs= [.str b]/\Q (.bl (xP a b)) H):=by
 intro ab s σ H x vs v us Q I rx rv h;obtain⟨a,b,rfl,rfl,q⟩:=h;obtain⟨t,rfl⟩:=rx;obtain⟨u,rfl,t',rfl⟩:=vals1 rv;exact SC.startswith ⟨.bl _,H,I,rfl,q⟩
theorem arM:∀(l:List (Str×Tok)),bj ((l.map (·.1)).map V.str) (strValues l)
 | []=> .nil
 |p::r=> .cons ⟨p.2,rfl⟩ (arM r)
theorem aus:Am X "str.split" (λx vs H Q=>∃a b,x= .str a/\vs= [.str b]/\(b.length == 0)=false/\a.length + 2<=aM/\∀p,H p=none->Q (.ref p) (cf H p (.lst ((d5 a b).map V.str)))):=by
 intro ab s σ H x vs v us Q I rx rv h;obtain⟨a,b,rfl,rfl,hb,hz,q⟩:=h;obtain⟨t,rfl⟩:=rx;obtain⟨u,rfl,t',rfl⟩:=vals1 rv;have hq:=q s.heap.objs.size I.fresh;have dw:(d5 a b).length<=aM:=b7 (split_le a b) hz;have fin:∀(l:List (Str×Tok)) (k:Nat),l.map (·.1)=d5 a b->EP X ab σ Q (.ref s.heap.objs.size) { s with heap:=s.heap.push { cls:= .type "list",data:= .seq (strValues l).toArray },toks:=k }:=λl k e=>by
  refine⟨.ref _,_,I.Ya (ys:=(d5 a b).map V.str) (its:=strValues l) (t':=k) ?_ (by rw[bb];exact dw),rfl,hq⟩;rw[<- e];exact arM l
 have hn:(ax7 a (Nz a b 0 a.length (a.length + 1)) b.length).length<=aM:=by
  have e1:=StrLaws.occ_length_le a b 0 a.length (a.length + 1);rw[length_partsBetween];lia
 cases h1:(decide (a.length < b.length) || decide (ax8 a < ax8 b))
 ·cases hf:(Nz a b 0 a.length (a.length + 1)).isEmpty
  ·refine apk atX (aon _ _ _) atY (atZ _ _) (meets_str_split_sep a b t t' h1 hb hf (by lia) hn) ?_;show wants _ _ _ { s with toks:=_,heap:=s.heap.push { cls:= .type "list",data:= .seq (strsFrom s.toks (ax7 a (Nz a b 0 a.length (a.length + 1)) b.length)).toArray } };rw[strsFrom_eq];exact fin (numbered s.toks _) _ ((numbered_texts _ _).trans ((if_neg (ne_true_of_eq_false h1)).trans (if_neg (ne_true_of_eq_false hf))).symm)
  ·exact apk atX (aon _ _ _) atY (atZ _ _) (meets_str_split_not_found a b t t' h1 hb hf)
    (fin [(a,t)] s.toks ((if_neg (ne_true_of_eq_false h1)).trans (if_pos hf)).symm)
 ·exact apk atX (aon _ _ _) atY (atZ _ _) (meets_str_split_cannot_occur a b t t' h1)
   (fin [(a,t)] s.toks (if_pos h1).symm)
theorem Ha:∀{ys:List Str} {us:List Value},bj (ys.map V.str) us->StrsAre us ys
 | [],_,r=>by cases r;exact .nil
 |y::ys,_,r=>by
  cases r with
  |cons r1 r2=>
   obtain⟨t,rfl⟩:=r1;exact .cons y t (Ha r2)
theorem Zm:Am X "str.join" (λx vs H Q=>∃(a:Str) (p:Addr) (ys:List Str),x= .str a/\vs= [.ref p]/\cI X.K H p (ys.map V.str)/\(ys.map (·.length)).sum + ys.length * a.length<=16777216/\Q (.str (FP a ys)) H):=by
 intro ab s σ H x vs v us Q I rx rv h;obtain⟨a,p,ys,rfl,rfl,hs,hw,q⟩:=h;obtain⟨t,rfl⟩:=rx;obtain⟨u,rfl,ru⟩:=vals1 rv;cases ru;obtain⟨its,r,pl,hz⟩:=I.list hs;exact join_list pl.isList (by simpa using Ha r) hw λt' k=>⟨.str _,H,I.tok k,⟨t',rfl⟩,q⟩
theorem Zn:mQ X (λx lo hi H Q=>∃z,x= .str z/\z.length<=aM/\Q (.str (xj z lo hi)) H):=by
 intro ab s σ H x v vl vu lo hi sl Q I rx hs pl pu h;obtain⟨z,rfl,hz,q⟩:=h;obtain⟨t,rfl⟩:=rx;refine⟨"str",_,F.slot_str_getitem.lookup,aon _ _ _, ?_⟩;have fin:∀t' k,EP X ab σ Q (.str (xj z lo hi) t') { s with toks:=k }:=λt' k=>⟨.str _,H,I.tok k,⟨t',rfl⟩,q⟩
 obtain⟨o,ho,hc,hd⟩:=hs;cases pl with
 |none=>
  cases pu with
  |none=>exact Nr (l:=none) (u:=none) (st:=none) ⟨o,ho,hc,hd⟩ rfl (Nt ⟨b7 (NP z _ _) hz,fin⟩)
  |int j tj=>exact Nr (l:=none) (u:=some (j,tj)) (st:=none) ⟨o,ho,hc,hd⟩ rfl (Nt ⟨b7 (NP z _ _) hz,fin⟩)
 |int i ti=>
  cases pu with
  |none=>exact Nr (l:=some (i,ti)) (u:=none) (st:=none) ⟨o,ho,hc,hd⟩ rfl (Nt ⟨b7 (NP z _ _) hz,fin⟩)
  |int j tj=>exact Nr (l:=some (i,ti)) (u:=some (j,tj)) (st:=none) ⟨o,ho,hc,hd⟩ rfl (Nt ⟨b7 (NP z _ _) hz,fin⟩)
theorem Zo(h0:0<=k)(h:a.length * k.toNat<=1000000)(hk:k<=1000000):MulOk a k:=by
 refine⟨?_,λhn _ Zp=> ?_,λ_ _=> ?_⟩
 ·rw[decide_eq_false (by lia),decide_eq_false (by lia)];rfl
 ·have h1:0 < k:=by lia
  have h2:((2:Int) ^ 63 - 1) / k < (a.length:Int):=Zp;have h3:=(Int.ediv_lt_iff_lt_mul h1).mp h2;have h4:(a.length:Int) * k<=1000000:=by
   have e:((a.length * k.toNat:Nat):Int)=(a.length:Int) * k:=by
    rw[Int.natCast_mul,Int.toNat_of_nonneg h0]
   lia
  lia
 ·have e:aM=16777216:=mG;unfold Builtin.Str.tooLong
  first | (apply decide_eq_false;lia) | (simp;lia) | (rw[decide_eq_false_iff_not];lia)
theorem Zq:cu X (binaryOp .Mult) (λx y H Q=>∃(a:Str) (k:Int),x= .str a/\y= .int k/\0<=k/\k<=1000000/\a.length * k.toNat<=1000000/\Q (.str (qc a k)) H):=by
 intro ab s σ H x y v u Q I rx ry h;obtain⟨a,k,rfl,rfl,h0,hk,hl,q⟩:=h;obtain⟨t,rfl⟩:=rx;obtain⟨t',rfl⟩:=ry;exact SB.mul (Zo h0 hl hk) λt' k=>⟨.str _,H,I.tok k,⟨t',rfl⟩,q⟩
end
theorem aut{x y:Str}(h:x.cps.toList=y.cps.toList):x=y:=by
 cases x;cases y;exact congrArg Str.mk (Array.toList_inj.mp h)
theorem nk(x y:Str):(x++y).cps.toList=x.cps.toList++y.cps.toList:=by
 show(Str.append x y).cps.toList=_;simp[Str.append]
noncomputable def eU (c:Nat):List (List Nat)->List Nat
 | []=> []
 | [p]=>p
 |p::q::r=>p++c::eU c (q::r)
theorem aot(c:Nat):∀ps:List Str,(Str.join ⟨#[c]⟩ ps).cps.toList=eU c (ps.map λp=>p.cps.toList)
 | []=>rfl
 | [p]=>rfl
 |p::q::r=>by
  show((p++(⟨#[c]⟩:Str))++Str.join ⟨#[c]⟩ (q::r)).cps.toList=_;rw[nk,nk,aot c (q::r)];show(p.cps.toList++ [c])++_=p.cps.toList++c::_;rw[b8];rfl
theorem arN:∀{p q a b:List Nat},c∉p->c∉q->p++c::a=q++c::b->p=q/\a=b
 | [], [],_,_,_,_,h=>⟨rfl,(aop h).2⟩
 | [],y::q,_,_,_,hq,h=>absurd (aop h).1 λe=>hq (e▸xb)
 |x::p, [],_,_,hp,_,h=>absurd (aop h).1 λe=>hp (e▸xb)
 |x::p,y::q,a,b,hp,hq,h=>by
  obtain⟨e1,e2⟩:=aop h;obtain⟨e3,e4⟩:=arN (λm=>hp (nQ _ m)) (λm=>hq (nQ _ m)) e2;exact⟨by rw[e1,e3],e4⟩
theorem arO:∀{ps qs:List (List Nat)},ps≠ []->qs≠ []->(∀p∈ps,c∉p)->(∀q∈qs,c∉q)->eU c ps=eU c qs->ps=qs
 | [],_,h,_,_,_,_=>absurd rfl h
 |_, [],_,h,_,_,_=>absurd rfl h
 | [p], [q],_,_,_,_,h=>by rw[show p=q from h]
 | [p],q::q2::r,_,_,hp,_,h=>absurd (show c∈p by rw[show p=q++c::eU c (q2::r) from h];simp) (hp p xb)
 |p::p2::r, [q],_,_,_,hq,h=>absurd (show c∈q by rw[<- show p++c::eU c (p2::r)=q from h];simp) (hq q xb)
 |p::p2::r,q::q2::r2,_,_,hp,hq,h=>by
  obtain⟨e1,e2⟩:=arN (hp p xb) (hq q xb) (show p++c::eU c (p2::r)=q++c::eU c (q2::r2) from h);have:=arO (ll _ _) (ll _ _) (λx hx=>hp x (nQ _ hx)) (λx hx=>hq x (nQ _ hx)) e2;rw[e1,this]
theorem auu(x y:Str):d5 x y≠ []:=λe=>by
 have:=split_pos x y;rw[e]at this;exact absurd this (by decide)
theorem arP(x:Str)(c:Nat):xP x ⟨#[c]⟩=decide (x.cps.toList.head?=some c):=by
 unfold xP;have h:=StrLaws.subAt_one x c 0;rw[VZ,kM,decide_eq_true_eq,decide_eq_true_eq];rw[h,List.head?_eq_getElem?]
theorem ml{pos:Pos}(hg:Gl X x)(h:∃u,X.mg x=some u/\RelV v u)(hd:(x == ("__debug__":Str))=false:=by decide):PE X (.Name x pos) (tC v):=by
 obtain⟨u,hm,r⟩:=h;exact WE hg hm r hd
open PySem.W
section
variable {prog:Program}{w:World}{A:Around}{E:Value->Shared->Prop}{s:Shared}
end
section
variable {prog:Program}{w:World}{A:Around}{E:Value->Shared->Prop}{s:Shared}{κ:Type}[DecidableEq κ]{knd:aie prog w κ}
end
section
variable {X:Cx}{ab:List (Addr×Obj)}{σ:St}{H:Hp}{s:Shared}
end
section
end
structure Nx(prog:Program)(w:World)(it l:Addr)(xs:Array Value)(R:Nat->Heap->Prop):Prop where
 obj:∀k h,R k h->∃o,h.get? it=some o/\∀v,o.data≠ .cell v
 keep:∀k (h h':Heap),R k h->(∀o,h.get? it=some o->h'.get? it=some o)->(∀o,h.get? l=some o->h'.get? l=some o)->R k h'
 item:∀(A:Around) (E:Value->Shared->Prop) (s:Shared) (k:Nat) (x:Value) (Q:Value->Shared->Prop),R k s.heap->xs[k]?=some x->(∀h',R (k + 1) h'->Cd it s.heap h'->Q x { s with heap:=h' })->wpAny (model prog w) A (sI (.ref it)) Q E s
 fin:∀(A:Around) (E:Value->Shared->Prop) (s:Shared) (k:Nat) (Q:Value->Shared->Prop),A.handled=none->R k s.heap->xs[k]?=none->(∀h' e,Heap.ExtBut it s.heap h'->(∃o,h'.get? e=some o/\o.cls= .type "StopIteration")->E (.ref e) { s with heap:=h' })->wpAny (model prog w) A (sI (.ref it)) Q E s
section
variable {prog:Program}{w:World}{A:Around}{E:Value->Shared->Prop}{s:Shared}
theorem ZC(qp:l≠it)(xs:Array Value):Nx prog w it l xs (λk h=>h.IsListIter it l k/\h.IsList l xs) where
 obj:=λk h ⟨⟨o,ho,_,hd⟩,_⟩=>⟨o,ho,λv e=>by rw[hd]at e;cases e⟩
 keep:=λk h h' ⟨a,b⟩ k1 k2=>⟨a.at λo e=>k1 o e,b.at λo e=>k2 o e⟩
 item:=λA E s k x Q ⟨a,b⟩ hx hQ=>wpAny_nextOf_list_item a b hx λh' a' sb=>hQ h' ⟨a',b.extBut sb.extBut qp⟩ sb
 fin:=λA E s k Q hh ⟨a,b⟩ hx hE=>wpAny_nextOf_list_end hh a b hx hE
theorem ZD{Q:Value->Shared->Prop}(hit:s.heap.IsTupleIter it t i)(ht:s.heap.IsTuple t items)(hx:items[i]?=some x)
  (hQ:∀h',h'.IsTupleIter it t (i + 1)->Cd it s.heap h'->Q x { s with heap:=h' }):wpAny (model prog w) A (sI (.ref it)) Q E s:=by
 obtain⟨⟨o,ho,hc,hd⟩,ol,Hl,_,nl,Hn⟩:=And.intro hit ht;unfold sI;refine az (ze (name:=ae "__next__") hit.typeIs NS (wW NS hit.typeIs aiv ?_ (aiw _)));show wpAny _ _ (field (.ref it) 0 >>= _) _ _ s;refine az (kL ho hd (x:= .ref t) rfl ?_);show wpAny _ _ (if(c7 t == jb)=true then _ else _) _ _ s;rw[if_neg (show ¬ ((c7 t == jb)=true) from df)];show wpAny _ _ (field (.ref it) 1 >>= _) _ _ s;refine az (kL ho hd (x:= .int i 0) rfl ?_);show wpAny _ _ (seqItems? (.ref t) >>= _) _ _ s;refine az (wZ Hl Hn ?_);simp only[V1,hx];refine az (wpAny_setField ho hd (by simp) (bF ⟨x,rfl,bF (hQ _ ⟨_,aim _ ho (Obj.isFreed_of_fields (aix hd _)),(Obj.cls_mapFields ..).trans hc, ?_⟩ (aiy ..))⟩));rw[aix hd];simp[rawInt]
theorem ZE{Q:Value->Shared->Prop}(hh:A.handled=none)(hit:s.heap.IsTupleIter it t i)(ht:s.heap.IsTuple t items)(hx:items[i]?=none)
  (hE:∀h' e,Heap.ExtBut it s.heap h'->(∃o,h'.get? e=some o/\o.cls= .type "StopIteration")->E (.ref e) { s with heap:=h' }):wpAny (model prog w) A (sI (.ref it)) Q E s:=by
 obtain⟨⟨o,ho,hc,hd⟩,ol,Hl,_,nl,Hn⟩:=And.intro hit ht;unfold sI;refine az (ze (name:=ae "__next__") hit.typeIs NS (wW NS hit.typeIs aiv ?_ (aiw _)));show wpAny _ _ (field (.ref it) 0 >>= _) _ _ s;refine az (kL ho hd (x:= .ref t) rfl ?_);show wpAny _ _ (if(c7 t == jb)=true then _ else _) _ _ s;rw[if_neg (show ¬ ((c7 t == jb)=true) from df)];show wpAny _ _ (field (.ref it) 1 >>= _) _ _ s;refine az (kL ho hd (x:= .int i 0) rfl ?_);show wpAny _ _ (seqItems? (.ref t) >>= _) _ _ s;refine az (wZ Hl Hn ?_);simp only[V1,hx];refine az (wU (az (wpAny_setField ho hd (by simp) ?_)));show wpAny _ _ (newExc (.type "StopIteration") [] >>= _) _ _ _;refine az ?_;simp only[newExc,newTuple];refine az (qP ?_ (by size_fits));refine az (m:=firstArgMember _ _) (wpAny_of_eq (a:=jb) (by first | rfl | (simp only[firstArgMember];rfl)) ?_);refine qP ?_ (by size_fits);simp only[raiseNew];refine az (wpAny_handled ?_);(first | rw[show A.in1.handled=none from hh] | rw[hh]);exact az (bF (wpAny_throw (hE _ _ (((aiy ..).extBut.push _).push _) ⟨_,gc _ rfl,rfl⟩)))
theorem ZF(qp:l≠it)(xs:Array Value):Nx prog w it l xs (λk h=>h.IsTupleIter it l k/\h.IsTuple l xs) where
 obj:=λk h ⟨⟨o,ho,_,hd⟩,_⟩=>⟨o,ho,λv e=>by rw[hd]at e;cases e⟩
 keep:=λk h h' ⟨⟨o,ho,r⟩,⟨o2,rl,r2⟩⟩ k1 k2=>⟨⟨o,k1 o ho,r⟩,⟨o2,k2 o2 rl,r2⟩⟩
 item:=λA E s k x Q ⟨a,b⟩ hx hQ=>ZD a b hx λh' a' sb=>hQ h' ⟨a',b.extBut sb.extBut qp⟩ sb
 fin:=λA E s k Q hh ⟨a,b⟩ hx hE=>ZE hh a b hx hE
structure Apart(z TI TO i1 i2 l1 l2:Addr):Prop where
 nd: [z,TI,TO,i1,i2].Nodup
 o1:l1∉ [z,TO,i1,i2]
 o2:l2∉ [z,TO,i1,i2]
variable {z TI TO i1 i2 l1 l2:Addr}{xs ys:Array Value}{R1 R2:Nat->Heap->Prop}
theorem ZG{k:Nat}{x y a b:Value}{Q:Value->Shared->Prop}(D:Apart z TI TO i1 i2 l1 l2)(N1:Nx prog w i1 l1 xs R1)(N2:Nx prog w i2 l2 ys R2)
  (hz:IsZip s.heap z TI TO .none) (jy:IsPair s.heap TI (.ref i1) (.ref i2)) (jY:IsPair s.heap TO a b) (r1:R1 k s.heap) (r2:R2 k s.heap) (hx:xs[k]?=some x) (hy:ys[k]?=some y)
  (hQ:∀h',IsZip h' z TI TO (rawInt s.heap.objs.size)->IsPair h' TO x y->R1 (k + 1) h'->R2 (k + 1) h'->IsPair h' s.heap.objs.size x y->h'.objs.size=s.heap.objs.size + 1->
   (∀c o,c∉ [z,TO,i1,i2]->s.heap.get? c=some o->h'.get? c=some o)->Q (.ref s.heap.objs.size) { s with heap:=h' }):
  wpAny (model prog w) A (Builtin.«zip.__next__» ⟨[.ref z], []⟩) (λfin s'=>∃v,fin= .done (.ret v)/\Q v s') E s:=by
 have nd:=D.nd;simp only[jP,bL,dh,or_false,not_or]at nd;obtain⟨⟨Dv,p8,rK,tP⟩,⟨TITO,TIi1,TIi2⟩,⟨TOi1,TOi2⟩,i12,_⟩:=nd;have o1:=D.o1;have o2:=D.o2;simp only[bL,dh,or_false,not_or]at o1 o2;obtain⟨l1z,l1TO,l1i1,l1i2⟩:=o1;obtain⟨l2z,l2TO,l2i1,l2i2⟩:=o2;show wpAny _ _ (field (.ref z) 2 >>= _) _ _ _;refine az (kL hz rfl (x:= .bool false) rfl ?_);show wpAny _ _ (field (.ref z) 3 >>= _) _ _ _;refine az (kL hz rfl (x:= .ref TI) rfl (az (wZ jy rfl ?_)));show wpAny _ _ (NT (.ref z) >>= _) _ _ _;refine az ?_;unfold NT;refine az (kL hz rfl (x:= .none) rfl (bF ?_));simp only[if_true];refine az (wU (az (kL hz rfl (x:= .ref TO) rfl (az (Cb hz (by simp) λh1 pJ AD=> ?_)))))
 replace pJ:IsZip h1 z TI TO .ellipsis:=pJ
 refine az ?_;simp only[aiz,aiA,FO,NO];refine az (az (Nu ?_));show wpAny _ _ (sI (.ref i1) >>= _) _ _ _;have e1:∀c o,c≠z->s.heap.get? c=some o->h1.get? c=some o:=λc o n e=>AD.extBut c o n e;refine az (N1.item _ _ _ k x _ (N1.keep k _ _ r1 (λo e=>e1 i1 o (fw rK) e) λo e=>e1 l1 o l1z e) hx λh2 P8 lC=>bF ?_);have e2:∀c o,c≠z->c≠i1->s.heap.get? c=some o->h2.get? c=some o:=λc o n n2 e=>lC.extBut c o n2 (e1 c o n e);have AE:IsPair h2 TO a b:=e2 _ _ (fw p8) TOi1 jY;refine az (wZ AE rfl (az (Vr AE λh3 Dw rL=>az (Vs (bF ?_)))))
 replace Dw:IsPair h3 TO x b:=Dw
 have e3:∀c o,c≠z->c≠i1->c≠TO->s.heap.get? c=some o->h3.get? c=some o:=λc o n n2 n3 e=>rL.extBut c o n3 (e2 c o n n2 e);refine az (az (Nu ?_));show wpAny _ _ (sI (.ref i2) >>= _) _ _ _;refine az (N2.item _ _ _ k y _ (N2.keep k _ _ r2 (λo e=>e3 i2 o (fw tP) (fw i12) (fw TOi2) e) λo e=>e3 l2 o l2z l2i1 l2TO e) hy λh4 ZH Rj=>bF ?_);have P9:IsPair h4 TO x b:=Rj.extBut _ _ TOi2 Dw;refine az (wZ P9 rfl (az (Vr P9 λh5 Dx vJ=>az (Vs (bF (bF ?_))))))
 replace Dx:IsPair h5 TO x y:=Dx
 refine az (wZ Dx rfl (az (wpAny_newTuple ?_)));have hsz:h5.objs.size=s.heap.objs.size:=by rw[vJ.1,Rj.1,rL.1,lC.1,AD.1]
 have ZI:∀c o,c≠TO->c≠i2->h3.get? c=some o->h5.get? c=some o:=λc o n n2 e=>vJ.extBut c o n (Rj.extBut c o n2 e);have Dy:∀c o,c≠TO->c≠i2->h2.get? c=some o->h5.get? c=some o:=λc o n n2 e=>ZI c o n n2 (rL.extBut c o n e);have Qa:IsZip h5 z TI TO .ellipsis:=Dy _ _ p8 tP (lC.extBut _ _ rK pJ);have k5:∀c o,c∉ [z,TO,i1,i2]->s.heap.get? c=some o->h5.get? c=some o:=λc o hc e=>by
  simp only[bL,dh,or_false,not_or]at hc;exact Dy c o hc.2.1 hc.2.2.2 (e2 c o hc.1 hc.2.2.1 e)
 have ZJ:R1 (k + 1) h5:=N1.keep _ _ _ P8 (λo e=>Dy i1 o (fw TOi1) i12 e) λo e=>Dy l1 o l1TO l1i2 e;have ZK:R2 (k + 1) h5:=N2.keep _ _ _ ZH (λo e=>vJ.extBut i2 o (fw TOi2) e) λo e=>vJ.extBut l2 o l2TO e;have Qb:z < h5.objs.size:=da Qa;show wpAny _ _ (aiB (.ref z) (.ref h5.objs.size) >>= _) _ _ _;refine az ?_;unfold aiB;have ZL:IsZip (h5.push { cls:= .type "tuple",data:= .seq #[x,y] }) z TI TO .ellipsis:=cB _ Qa;refine az (Cb ZL (by simp) λh7 Ho Hq=> ?_)
 replace Ho:IsZip h7 z TI TO (rawInt h5.objs.size):=Ho
 refine Cb Ho (by simp) λh8 Dz Hr=> ?_
 replace Dz:IsZip h8 z TI TO (rawInt h5.objs.size):=Dz
 have up:∀c o,c≠z->h5.get? c=some o->h8.get? c=some o:=λc o n e=>Hr.extBut c o n (Hq.extBut c o n (cB _ e));have Qc:IsPair h8 h5.objs.size x y:=Hr.extBut _ _ (xD Qb) (Hq.extBut _ _ (xD Qb) (gc _ rfl));have hs:h8.objs.size=h5.objs.size + 1:=by rw[Hr.1,Hq.1,p9]
 rw[hsz]at Dz Qc hs;refine bF ⟨_,rfl, ?_⟩;show Q (.ref h5.objs.size) _;rw[hsz];exact hQ h8 Dz (up _ _ (fw p8) Dx) (N1.keep _ _ _ ZJ (λo e=>up i1 o (fw rK) e) λo e=>up l1 o l1z e) (N2.keep _ _ _ ZK (λo e=>up i2 o (fw tP) e) λo e=>up l2 o l2z e) Qc hs λc o hc e=>up c o (λq=>hc (by simp[q])) (k5 c o hc e)
theorem ZM{k:Nat}{a b:Value}{Q:PySem.Fin->Shared->Prop}(hh:A.handled=none)(D:Apart z TI TO i1 i2 l1 l2)(N1:Nx prog w i1 l1 xs R1)(N2:Nx prog w i2 l2 ys R2)
  (hz:IsZip s.heap z TI TO .none) (jy:IsPair s.heap TI (.ref i1) (.ref i2)) (jY:IsPair s.heap TO a b) (r1:R1 k s.heap) (r2:R2 k s.heap) (Hs:xs[k]?=none\/ys[k]?=none)
  (hE:∀h' e,(∀c o,c∉ [z,TO,i1,i2]->s.heap.get? c=some o->h'.get? c=some o)->(∃o,h'.get? e=some o/\o.cls= .type "StopIteration")->E (.ref e) { s with heap:=h' }):
  wpAny (model prog w) A (Builtin.«zip.__next__» ⟨[.ref z], []⟩) Q E s:=by
 have nd:=D.nd;simp only[jP,bL,dh,or_false,not_or]at nd;obtain⟨⟨Dv,p8,rK,tP⟩,⟨TITO,TIi1,TIi2⟩,⟨TOi1,TOi2⟩,i12,_⟩:=nd;have o1:=D.o1;have o2:=D.o2;simp only[bL,dh,or_false,not_or]at o1 o2;obtain⟨l1z,l1TO,l1i1,l1i2⟩:=o1;obtain⟨l2z,l2TO,l2i1,l2i2⟩:=o2;show wpAny _ _ (field (.ref z) 2 >>= _) _ _ _;refine az (kL hz rfl (x:= .bool false) rfl ?_);show wpAny _ _ (field (.ref z) 3 >>= _) _ _ _;refine az (kL hz rfl (x:= .ref TI) rfl (az (wZ jy rfl ?_)));show wpAny _ _ (NT (.ref z) >>= _) _ _ _;refine az ?_;unfold NT;refine az (kL hz rfl (x:= .none) rfl (bF ?_));simp only[if_true];refine az (wU (az (kL hz rfl (x:= .ref TO) rfl (az (Cb hz (by simp) λh1 pJ AD=> ?_)))))
 replace pJ:IsZip h1 z TI TO .ellipsis:=pJ
 refine az ?_;simp only[aiz,aiA,FO,NO];refine az (az (Nu ?_));show wpAny _ _ (sI (.ref i1) >>= _) _ _ _;have e1:∀c o,c≠z->s.heap.get? c=some o->h1.get? c=some o:=λc o n e=>AD.extBut c o n e;have q1:=N1.keep k _ _ r1 (λo e=>e1 i1 o (fw rK) e) λo e=>e1 l1 o l1z e;cases hx:xs[k]? with
 |none=>
  refine az (N1.fin _ _ _ k _ hh q1 hx λh2 e lC he=> ?_);obtain⟨oe,vK,AF⟩:=he;have xO:IsZip h2 z TI TO .ellipsis:=lC _ _ rK pJ;have Ht:e≠z:=λq=>by subst q;rw[xO]at vK;cases vK;simp at AF
  refine Cb xO (by simp) λh3 _ rL=>hE h3 e (λc o hc q=> ?_) ⟨oe,rL.extBut _ _ Ht vK,AF⟩;simp only[bL,dh,or_false,not_or]at hc;exact rL.extBut _ _ hc.1 (lC _ _ hc.2.2.1 (e1 c o hc.1 q))
 |some x=>
  have hy:ys[k]?=none:=by rcases Hs with h | h;rw[hx]at h;cases h;exact h
  refine az (N1.item _ _ _ k x _ q1 hx λh2 P8 lC=>bF ?_);have e2:∀c o,c≠z->c≠i1->s.heap.get? c=some o->h2.get? c=some o:=λc o n n2 e=>lC.extBut c o n2 (e1 c o n e);have AE:IsPair h2 TO a b:=e2 _ _ (fw p8) TOi1 jY;refine az (wZ AE rfl (az (Vr AE λh3 Dw rL=>az (Vs (bF ?_)))));have e3:∀c o,c≠z->c≠i1->c≠TO->s.heap.get? c=some o->h3.get? c=some o:=λc o n n2 n3 e=>rL.extBut c o n3 (e2 c o n n2 e);refine az (az (Nu ?_));show wpAny _ _ (sI (.ref i2) >>= _) _ _ _;refine az (N2.fin _ _ _ k _ hh (N2.keep k _ _ r2 (λo e=>e3 i2 o (fw tP) (fw i12) (fw TOi2) e) λo e=>e3 l2 o l2z l2i1 l2TO e) hy λh4 e Rj he=> ?_);obtain⟨oe,vK,AF⟩:=he;have Qd:IsZip h4 z TI TO .ellipsis:=Rj _ _ tP (rL.extBut _ _ p8 (lC.extBut _ _ rK pJ));have Ht:e≠z:=λq=>by subst q;rw[Qd]at vK;cases vK;simp at AF
  refine Cb Qd (by simp) λh5 _ vJ=>hE h5 e (λc o hc q=> ?_) ⟨oe,vJ.extBut _ _ Ht vK,AF⟩;simp only[bL,dh,or_false,not_or]at hc;exact vJ.extBut _ _ hc.1 (Rj _ _ hc.2.2.2 (e3 c o hc.1 hc.2.2.1 hc.2.1 q))
theorem ZN{k:Nat}{x y a b:Value}{Q:Option Value->Shared->Prop}(D:Apart z TI TO i1 i2 l1 l2)(N1:Nx prog w i1 l1 xs R1)(N2:Nx prog w i2 l2 ys R2)
  (hz:IsZip s.heap z TI TO .none) (jy:IsPair s.heap TI (.ref i1) (.ref i2)) (jY:IsPair s.heap TO a b) (r1:R1 k s.heap) (r2:R2 k s.heap) (hx:xs[k]?=some x) (hy:ys[k]?=some y)
  (hQ:∀h',IsZip h' z TI TO (rawInt s.heap.objs.size)->IsPair h' TO x y->R1 (k + 1) h'->R2 (k + 1) h'->IsPair h' s.heap.objs.size x y->h'.objs.size=s.heap.objs.size + 1->
   (∀c o,c∉ [z,TO,i1,i2]->s.heap.get? c=some o->h'.get? c=some o)->Q (some (.ref s.heap.objs.size)) { s with heap:=h' }):wpAny (model prog w) A (pyNext (.ref z)) Q E s:=by
 have hT:s.TypeIs (.ref z) "zip":=⟨_,hz,rfl⟩
 unfold pyNext;refine az (wpAny_attempt (ze (name:=ae "__next__") hT NU (wW NU hT F.entry_zip_next ?_ (aiC _))));exact ZG D N1 N2 hz jy jY r1 r2 hx hy λh' a1 a2 a3 a4 a5 a6 a7=>bF (hQ h' a1 a2 a3 a4 a5 a6 a7)
theorem ZO{k:Nat}{a b:Value}{Q:Option Value->Shared->Prop}(hh:A.handled=none)(D:Apart z TI TO i1 i2 l1 l2)(N1:Nx prog w i1 l1 xs R1)(N2:Nx prog w i2 l2 ys R2)
  (hz:IsZip s.heap z TI TO .none) (jy:IsPair s.heap TI (.ref i1) (.ref i2)) (jY:IsPair s.heap TO a b) (r1:R1 k s.heap) (r2:R2 k s.heap) (Hs:xs[k]?=none\/ys[k]?=none)
  (hQ:∀h',(∀c o,c∉ [z,TO,i1,i2]->s.heap.get? c=some o->h'.get? c=some o)->Q none { s with heap:=h' }):wpAny (model prog w) A (pyNext (.ref z)) Q E s:=by
 have hT:s.TypeIs (.ref z) "zip":=⟨_,hz,rfl⟩
 unfold pyNext;refine az (wpAny_attempt (ze (name:=ae "__next__") hT NU (wW NU hT F.entry_zip_next ?_ (aiC _))));refine ZM (A:=A.in1) hh D N1 N2 hz jy jY r1 r2 Hs λh' e hk he=> ?_;obtain⟨o,ho,hc⟩:=he;exact az (wpAny_isInstance (T:="StopIteration") (b:=true) ⟨o,ho,hc⟩ isSubtype_stop (bF (hQ _ hk)))
end
def jz(t:Bool)(K:ah)(H:Hp)(a:Addr)(xs:List V):Prop:=match t with
 |true=>cE K H a xs
 |false=>cI K H a xs
def qr(t:Bool)(h:Heap)(it l:Addr)(k:Nat):Prop:=match t with
 |true=>h.IsTupleIter it l k
 |false=>h.IsListIter it l k
def AG(t:Bool)(h:Heap)(l:Addr)(xs:Array Value):Prop:=match t with
 |true=>h.IsTuple l xs
 |false=>h.IsList l xs
section
theorem Inv.xQ(I:Inv X ab σ H s)(h:jz t X.K H a xs):∃its:List Value,bj xs its/\AG t s.heap a its.toArray:=by
 cases t with
 |true=>
  obtain⟨its,r,pl,_⟩:=I.tuple h;exact⟨its,r,pl⟩
 |false=>
  obtain⟨its,r,pl,_⟩:=I.list h;exact⟨its,r,pl.isList⟩
theorem Inv.Qe(I:Inv X ab σ H s)(h:jz t X.K H a xs)(h2:jz t X.K H a ys):xs=ys:=by
 cases t with
 |true=>exact I.Om h h2
 |false=>exact I.Ol h h2
theorem DA(t:Bool)(qp:l≠it)(xs:Array Value):Nx prog w it l xs (λk h=>qr t h it l k/\AG t h l xs):=by
 cases t with
 |true=>exact ZF qp xs
 |false=>exact ZC qp xs
theorem qr.at{h h':Heap}(x:qr t h it l k)(e:∀o,h.get? it=some o->h'.get? it=some o):qr t h' it l k:=by
 cases t with
 |true=>obtain⟨o,ho,r⟩:=x;exact⟨o,e o ho,r⟩
 |false=>exact Heap.IsListIter.at x e
theorem qr.obj(x:qr t h it l k):∃o,h.get? it=some o/\∀v,o.data≠ .cell v:=by
 cases t with
 |true=>obtain⟨o,ho,_,hd⟩:=x;exact⟨o,ho,λv e=>by rw[hd]at e;cases e⟩
 |false=>obtain⟨o,ho,_,hd⟩:=x;exact⟨o,ho,λv e=>by rw[hd]at e;cases e⟩
theorem Inv.ZP{t':Nat}{ch:List Addr}{T:Addr}{o:HO}(I:Inv X ab σ H s)(k:∀b u,b∉ch->s.heap.get? b=some u->h'.get? b=some u)
  (fc:∀b∈ch,jT X ab H b) (hT:s.heap.objs.size<=T) (new:gr X.prog X.w (cf H T o) h' T o):Inv X ab σ (cf H T o) { s with heap:=h',toks:=t' }:=by
 have hn:H T=none:=I.aQ.fresh hT;have lt:∀{b:Addr} {u:Obj},s.heap.get? b=some u->b≠T:=λ{b u} q=>dR (dI (da q) hT);have tr:∀{b:Addr} {u:HO},H b=some u->b∉ch:=λ{b u} q z=>by rw[(fc b z).1]at q;cases q
 refine I.step (ch:=ch) (λb hb=>⟨(fc b hb).2.2.2.1,(fc b hb).2.1,(fc b hb).2.2.2.2.1,(fc b hb).2.2.2.2.2⟩) (λb u _ _ hc q _=>k b u hc q) (λb u _ _ hc q _=>⟨u.slots,k b u hc q⟩)
  (λb u _ q n=>by rw[ba (lt q)];exact n) (λb u hc q=>⟨u,k b u hc q⟩) (λb xs q=>by rw[ba (gM q hn)];exact q) (λb u v q=>by rw[ba (gM q hn)];exact q)
  (λb ps q=>⟨#[],by rw[ba (gM q hn),q];simp⟩) (λm hm=> ?_) (λb u q=> ?_) I.bare
 ·obtain⟨ob,es,ep,ho,r⟩:=hm;exact⟨ob,es,ep,k _ ob (λz=>(fc _ z).2.1 rfl) ho,r⟩
 ·by_cases hb:b=T
  ·subst hb;rw[de]at q;cases q;exact new
  ·rw[ba hb]at q;refine(I.aQ b u q).gO (λc v hc z=> ?_) (λc z=>by rw[ba (gM z hn)];exact z) λc xs z=>by rw[ba (gM z hn)];exact z
   rcases hc with z' | z'
   ·rw[z']at z |-;exact k b v (tr q) z
   ·exact k c v (tr z') z
theorem Inv.ZQ{t':Nat}{ch:List Addr}(I:Inv X ab σ H s)(k:∀b u,b∉ch->s.heap.get? b=some u->h'.get? b=some u)(fc:∀b∈ch,jT X ab H b):Inv X ab σ H { s with heap:=h',toks:=t' }:=by
 have tr:∀{b:Addr} {u:HO},H b=some u->b∉ch:=λ{b u} q z=>by rw[(fc b z).1]at q;cases q
 refine I.step (λb hb=>⟨(fc b hb).2.2.2.1,(fc b hb).2.1,(fc b hb).2.2.2.2.1,(fc b hb).2.2.2.2.2⟩) (λb u _ _ hc q _=>k b u hc q) (λb u _ _ hc q _=>⟨u.slots,k b u hc q⟩)
  (λb u _ q n=>n) (λb u hc q=>⟨u,k b u hc q⟩) (λb xs q=>q) (λb u v q=>q) (λb ps q=>⟨#[],by rw[q];simp⟩) (λm hm=> ?_) (λb u q=> ?_) I.bare
 ·obtain⟨ob,es,ep,ho,r⟩:=hm;exact⟨ob,es,ep,k _ ob (λz=>(fc _ z).2.1 rfl) ho,r⟩
 ·refine(I.aQ b u q).gO (λc v hc z=> ?_) (λc z=>z) λc xs z=>z;rcases hc with z' | z'
  ·rw[z']at z |-;exact k b v (tr q) z
  ·exact k c v (tr z') z
end
def vL(K:ah)(t:Bool)(a b:Addr):It:=
 ⟨λi H=>∃xs ys x y,jz t K H a xs/\jz t K H b ys/\xs[i]?=some x/\ys[i]?=some y,λi H v H'=>∃T,H T=none/\v= .ref T/\∀xs ys,jz t K H a xs->jz t K H b ys->∃x y,xs[i]?=some x/\ys[i]?=some y/\H'=cf H T (.tup [x,y]),λi H=>∃xs ys,jz t K H a xs/\jz t K H b ys/\(xs.length<=i\/ys.length<=i)⟩
theorem ZR{P:Program}{w:World}{K:ah}{elts:List Expr}{x1:Nat}{pos:Pos}(t:Bool)(a b z TI TO i1 i2:Addr)(D:Apart z TI TO i1 i2 a b):
  Turn P w K (.Tuple elts x1 pos) (vL K t a b) [z,TI,TO,i1,i2] z (λi h=>IsZip h z TI TO .none/\IsPair h TI (.ref i1) (.ref i2)/\(∃c d,IsPair h TO c d)/\qr t h i1 a i/\qr t h i2 b i) where
 mem:=by simp
 obj:=λi h st c hc=>by
  obtain⟨hz,jy,⟨c1,d1,jY⟩,h1,h2⟩:=st;simp only[bL,dh,or_false]at hc;rcases hc with rfl | rfl | rfl | rfl | rfl
  ·exact⟨_,hz,λv e=>by cases e⟩
  ·exact⟨_,jy,λv e=>by cases e⟩
  ·exact⟨_,jY,λv e=>by cases e⟩
  ·exact h1.obj
  ·exact h2.obj
 keep:=λi h h' st k=>by
  obtain⟨hz,jy,⟨c1,d1,jY⟩,h1,h2⟩:=st;exact⟨k z (by simp) _ hz,k TI (by simp) _ jy,⟨c1,d1,k TO (by simp) _ jY⟩,h1.at λo e=>k i1 (by simp) o e,h2.at λo e=>k i2 (by simp) o e⟩
 item:=by
  intro X hP hw hK hc i ab s σ H E I hf st hg;subst hP hw hK;obtain⟨xs,ys,x,y,xR,xS,hx,hy⟩:=hg;obtain⟨DB,Hu,p1⟩:=I.xQ xR;obtain⟨mh,Hv,p2⟩:=I.xQ xS;obtain⟨u1,DC,ZS⟩:=Hu.get hx;obtain⟨u2,DD,ZT⟩:=Hv.get hy;obtain⟨hz,jy,⟨c1,d1,jY⟩,h1,h2⟩:=st;have n1:a≠i1:=λe=>D.o1 (by simp[e]);have n2:b≠i2:=λe=>D.o2 (by simp[e]);have xT:∀{c:Addr} {o:Obj},s.heap.get? c=some o->c≠s.heap.objs.size:=λq=>dR (da q);refine ZN D (DA t n1 DB.toArray) (DA t n2 mh.toArray) hz jy jY ⟨h1,p1⟩ ⟨h2,p2⟩ (x:=u1) (y:=u2) (by simpa using DC) (by simpa using DD) λg1 pJ ZU q1 q2 Hw AD k1=> ?_;refine⟨_,rfl, ?_⟩;refine ax3 (s:= { s with heap:=g1 }) pJ λg2 xO sb=> ?_;have nd:=D.nd;simp only[jP,bL,dh,or_false,not_or]at nd;obtain⟨⟨Dv,p8,rK,tP⟩,⟨TITO,TIi1,TIi2⟩,⟨TOi1,TOi2⟩,i12,_⟩:=nd;have k2:=λc o hc q=>(sb.2 c (λe=>hc (by simp[e]))).trans (k1 c o hc q);have ZV:z≠s.heap.objs.size:=xT hz;have Hx:=(sb.2 _ (fw ZV)).trans Hw;refine⟨.ref s.heap.objs.size,cf H s.heap.objs.size (.tup [x,y]),I.ZP (t':=s.toks) k2 (λc hc=>hf c (by simp only[bL,dh,or_false]at hc |-;rcases hc with e | e | e | e <;> simp[e])) (bO _) ?_,rfl,⟨_,I.fresh,rfl,λai3 ai4 e1 e2=>⟨x,y,by rw[I.Qe e1 xR];exact hx,by rw[I.Qe e2 xS];exact hy,rfl⟩⟩,⟨xO, ?_,⟨u1,u2, ?_⟩, ?_, ?_⟩,λc hc=> ?_⟩
  ·exact⟨(by show 2<=aM;decide), [u1,u2], .cons ZS (.cons ZT .nil),⟨_,Hx,rfl,_,rfl⟩⟩
  ·exact(sb.2 TI (fw Dv)).trans (k1 TI _ (by simp only[bL,dh,or_false,not_or];exact⟨fw Dv,TITO,TIi1,TIi2⟩) jy)
  ·exact(sb.2 TO (fw p8)).trans ZU
  ·exact q1.1.at λo e=>(sb.2 i1 (fw rK)).trans e
  ·exact q2.1.at λo e=>(sb.2 i2 (fw tP)).trans e
  ·have ZW:=(hf c hc).1;have dS:c≠s.heap.objs.size:=by
    simp only[bL,dh,or_false]at hc;rcases hc with rfl | rfl | rfl | rfl | rfl
    ·exact xT hz
    ·exact xT jy
    ·exact xT jY
    ·obtain⟨o,ho,_⟩:=h1.obj;exact xT ho
    ·obtain⟨o,ho,_⟩:=h2.obj;exact xT ho
   rw[ba dS];exact ZW
 done:=by
  intro X hP hw hK hc i ab s σ H E I hf st hg;subst hP hw hK;obtain⟨xs,ys,xR,xS,hx⟩:=hg;obtain⟨DB,Hu,p1⟩:=I.xQ xR;obtain⟨mh,Hv,p2⟩:=I.xQ xS;obtain⟨hz,jy,⟨c1,d1,jY⟩,h1,h2⟩:=st;have n1:a≠i1:=λe=>D.o1 (by simp[e]);have n2:b≠i2:=λe=>D.o2 (by simp[e]);have l1:=Hu.length;have l2:=Hv.length;refine ZO (I.ok.hd hc) D (DA t n1 DB.toArray) (DA t n2 mh.toArray) hz jy jY ⟨h1,p1⟩ ⟨h2,p2⟩ ?_ λg1 k1=>⟨rfl, ?_⟩
  ·rcases hx with hx | hx
   ·left;simp;lia
   ·right;simp;lia
  ·exact I.ZQ (t':=s.toks) k1 λc hc=>hf c (by simp only[bL,dh,or_false]at hc |-;rcases hc with e | e | e | e <;> simp[e])
 self:=λ_ _ _ _ _ st h=>arx st.1 h
section
noncomputable abbrev pK (h:Heap) (a:Addr):Heap:=h.push { cls:= .type "tuple_iterator",data:= .fields #[.ref a, .int 0 0] }
abbrev DE(h:Heap)(a b:Addr):Heap:=(pK (pK h a) b).push { cls:= .type "tuple",data:= .seq #[.ref h.objs.size, .ref (pK h a).objs.size] }
abbrev DF(h:Heap)(a b:Addr):Heap:=(DE h a b).push { cls:= .type "tuple",data:= .seq #[.none, .none] }
abbrev xU(h:Heap)(a b:Addr):Heap:=(DF h a b).push { cls:= .type "zip",data:= .fields #[.none, .bool false, .bool false, .ref (pK (pK h a) b).objs.size, .ref (DE h a b).objs.size] }
theorem ZX(a b:Addr)(xs ys:Array Value):
  Meets (Builtin.«zip.__new__» ⟨[.type "zip", .ref a, .ref b], []⟩) (λ_ R s=>s.heap.IsTuple a xs/\s.heap.IsTuple b ys/\R (.ok (.ret (.ref (DF s.heap a b).objs.size))) { s with heap:=xU s.heap a b }):=
 .of_wp λprog w A R s h=>by
  obtain⟨hp,g,d,tk,os⟩:=s;obtain⟨ha,hb,h⟩:=h;have lL:=sub_zip;have hA:=ha;have hB:Heap.IsTuple (at3 ⟨hp.push { cls:= .type "tuple_iterator",data:= .fields #[.ref a, .int 0 0] },g,d,tk,os⟩) b ys:=Heap.IsTuple.push hb _
  wp_walk using Vt hA,Vt hB
  exact⟨_,rfl,h⟩
theorem ZY{Q:Value->Shared->Prop}(ha:AG t s.heap a xs)(hb:AG t s.heap b ys)
  (h:∀h':Heap,IsZip h' (s.heap.objs.size + 4) (s.heap.objs.size + 2) (s.heap.objs.size + 3) .none->IsPair h' (s.heap.objs.size + 2) (.ref s.heap.objs.size) (.ref (s.heap.objs.size + 1))->IsPair h' (s.heap.objs.size + 3) .none .none->qr t h' s.heap.objs.size a 0->qr t h' (s.heap.objs.size + 1) b 0->
   (∀c o,s.heap.get? c=some o->h'.get? c=some o)->Q (.ref (s.heap.objs.size + 4)) { s with heap:=h' }):wpAny (model prog w) A (call (.type "zip") [.ref a, .ref b]) Q E s:=by
 cases t with
 |false=>exact call_zip_2 ha hb λh' a1 a2 a3 a4 a5 a6 a7=>h h' a1 a2 a3 a4 a5 a7
 |true=>
  refine callType_new F.called_zip (by decide) (F.typeCall_zip_2 _ _) (F.newCall_zip_2 _ _) (λobj=>ax9 obj _ _) F.entry_zip_new (ZX a b xs ys) ⟨ha,hb, ?_⟩;have z1:(pK s.heap a).objs.size=s.heap.objs.size + 1:=p9 ..;have z2:(pK (pK s.heap a) b).objs.size=s.heap.objs.size + 2:=by rw[p9,z1]
  have z3:(DE s.heap a b).objs.size=s.heap.objs.size + 3:=by rw[p9,z2]
  have z4:(DF s.heap a b).objs.size=s.heap.objs.size + 4:=by rw[p9,z3]
  have g5:(xU s.heap a b).get? (DF s.heap a b).objs.size=some _:=gc _ rfl;have g4:(xU s.heap a b).get? (DE s.heap a b).objs.size=some _:=cB _ (gc _ rfl);have g3:(xU s.heap a b).get? (pK (pK s.heap a) b).objs.size=some _:=cB _ (cB _ (gc _ rfl));have g2:(xU s.heap a b).get? (pK s.heap a).objs.size=some _:=cB _ (cB _ (cB _ (gc _ rfl)));have g1:(xU s.heap a b).get? s.heap.objs.size=some _:=cB _ (cB _ (cB _ (cB _ (gc _ rfl))));show _/\_;rw[z2,z3,z4]at g5;rw[z1,z2]at g3;rw[z3]at g4;rw[z1]at g2;rw[z4];exact⟨⟨_,g5,rfl⟩,h _ g5 g3 g4 ⟨_,g1,rfl,rfl⟩ ⟨_,g2,rfl,rfl⟩ λc o x=>cB _ (cB _ (cB _ (cB _ (cB _ x))))⟩
def Hy(K:ah)(ta:TA):TI:=λσ H R=>ta σ H λvs H1=>∃(t:Bool) (a b:Addr) (xs ys:List V),vs= [.ref a, .ref b]/\jz t K H1 a xs/\jz t K H1 b ys/\R (vL K t a b) H1
theorem Inv.ltB{ab:List (Addr×Obj)}{σ:St}{H:Hp}{s:Shared}(x:AG t h l xs):l < h.objs.size:=by
 cases t with
 |true=>obtain⟨o,ho,_⟩:=x;exact da ho
 |false=>obtain⟨o,ho,_⟩:=x;exact da ho
theorem ZZ{elts:List Expr}{x1:Nat}{Ah:Pos}{p pos:Pos}(hg:Gl X "zip")(hm:X.mg "zip"=none)(ha:PA X [a,b] ta)(hs:dz [a,b] X.env=(false,eval a X.env)::dz [b] X.env:=by rfl)(dM:(backTo pos (dz [b] X.env)).any (·.1)=false:=by rfl):
  PI X (.Tuple elts x1 Ah) (.Call (.Name "zip" p) [a,b] [] pos) (Hy X.K ta):=by
 intro ab s σ H R I h;refine Call_ (xq I hg hm boot_zip (Ny (bh (ha pos ab s σ H _ I h) λus s1 ⟨vs,H1,I1,r1,q1⟩=> ?_) hs dM));obtain⟨t,a,b,xs,ys,e,xR,xS,q⟩:=q1;subst e;obtain⟨u,v,rfl,ru,rv⟩:=vals2 r1;cases ru;cases rv;obtain⟨DB,_,p1⟩:=I1.xQ xR;obtain⟨mh,_,p2⟩:=I1.xQ xS;have la:=Inv.ltB (ab:=ab) (σ:=σ) (H:=H1) (s:=s1) p1;have lb:=Inv.ltB (ab:=ab) (σ:=σ) (H:=H1) (s:=s1) p2;refine ZY p1 p2 λh' hz jy jY i1 i2 hk=> ?_;refine arx hz ?_;have D:Apart (s1.heap.objs.size + 4) (s1.heap.objs.size + 2) (s1.heap.objs.size + 3) s1.heap.objs.size (s1.heap.objs.size + 1) a b:=⟨by simp,by simp only[bL,dh,or_false,not_or];exact⟨dR (dI la (sJ _ _)),dR (dI la (sJ _ _)),dR la,dR (dI la (sJ _ _))⟩,by simp only[bL,dh,or_false,not_or];exact⟨dR (dI lb (sJ _ _)),dR (dI lb (sJ _ _)),dR lb,dR (dI lb (sJ _ _))⟩⟩
 refine⟨s1.heap.objs.size + 4, [s1.heap.objs.size + 4,s1.heap.objs.size + 2,s1.heap.objs.size + 3,s1.heap.objs.size,s1.heap.objs.size + 1],_,_,H1,rfl,I1.kept (t':=s1.toks) hk,ZR t a b _ _ _ _ _ D,⟨hz,jy,⟨_,_,jY⟩,i1,i2⟩,λc hc=> ?_,q⟩;have ql:s1.heap.objs.size<=c:=by
  simp only[bL,dh,or_false]at hc;rcases hc with rfl | rfl | rfl | rfl | rfl
  ·exact sJ _ _
  ·exact sJ _ _
  ·exact sJ _ _
  ·exact bO _
  ·exact sJ _ _
 exact I1.Aa ql (I1.aQ.fresh ql)
end
theorem fE(h:H p=none)(o:HO):aJ H (cf H p o):=λb u q=>by rw[ba (gM q h)];exact q
structure dt(P:Program)(w:World)(K:ah)(mg:Str->Option Value)(base:Heap)(x:Str)(ps:List Str)(k:Nat)(sp:Sp):Prop where
 ex:∃(f:Addr) (fd:kK),bZ P w K mg base cG k f fd ps sp/\Binds K fd ps []/\uO K (.ref f)=true/\mg x=some (.ref f)
theorem dt.of{P:Program}{w:World}{K:ah}{mg:Str->Option Value}{base:Heap}{x:Str}{ps:List Str}{k:Nat}{sp:Sp}{f:Addr}{fd:kK}{q:Str}{st:Stmt}(F:cY K x q st f fd)(b:Binds K fd ps [])(m:mg x=some (.ref f))
  (o:bZ P w K mg base cG k f fd ps sp):dt P w K mg base x ps k sp:=⟨f,fd,o,b,F.kp,m⟩
theorem bC{p pos:Pos}{e:Expr}{es:List Expr}{t:TA}(C:dt X.prog X.w X.K X.mg X.base x ps k sp)(hr:gf j X.A)(hg:Gl X x)
  (ha:PA X (e::es) t) (hj:k<=j:=by decide) (yy:(x == ("__debug__":Str))=false:=by decide) (he:dz (e::es) X.env=(false,eval e X.env)::dz es X.env:=by rfl) (dM:(backTo pos (dz es X.env)).any (·.1)=false:=by rfl):
  PE X (.Call (.Name x p) (e::es) [] pos) (og sp [] E0 t):=by
 obtain⟨f,fd,o,b,kp,m⟩:=C.ex;exact Xw o (hr.mono hj) hg m kp b .nil GW ha yy he dM
end L2
namespace VL
open PySem L2
inductive Kd where
 |tup | e8 | lst | aO (ks:List bc) | lM (ks:List (List bc)) | obj (C:Addr) (ns:List Str)
 deriving DecidableEq
inductive D where
 |sc (v:V)
 |nd (k:Kd) (cs:List D)
  |hl (v:V)
noncomputable def cg:Kd->Bool
 |.tup=>true
 |.e8=>true
 |_=>false
mutual
noncomputable def plain:D->Bool
 |.sc _=>true
 |.nd .tup cs=>bI cs
 |.nd .e8 cs=>bI cs
 |.nd _ _=>false
 |.hl _=>false
noncomputable def bI:List D->Bool
 | []=>true
 |d::ds=>plain d && bI ds
end
theorem xV:∀{ds:List D} {d:D},bI ds=true->d∈ds->plain d=true
 |_::ds,d,h,m=>by
  rw[bI,kM]at h;cases m with
  |head=>exact h.1
  |tail _ m=>exact xV h.2 m
theorem vM:∀{ds:List D},(∀d∈ds,plain d=true)->bI ds=true
 | [],_=>rfl
 |d::ds,h=>by
  rw[bI,h d (.head _),vM λe he=>h e (.tail _ he)];rfl
theorem za{ds:List D}{i:Nat}{d:D}(h:bI ds=true)(e:ds[i]?=some d):plain d=true:=xV h (jr e)
noncomputable def ho (k:Kd) (dx:Addr) (vs:List V):HO:=match k with
 |.tup=> .tup vs
 |.e8=> .lst vs
 |.lst=> .lst vs
 |.aO ks=> .dK (ks.zip vs)
 |.lM ks=> .dT (ks.zip vs)
 |.obj C ns=> .ins C dx (ns.zip vs)
def fits(K:ah)(k:Kd)(n:Nat):Prop:=match k with
 |.aO ks=>ks.length=n
 |.lM ks=>ks.length=n
 |.obj C ns=>ns.length=n/\mN K C/\∀f∈ns,mf K C f
 |_=>True
def jA(K:ah)(H:Hp)(a:Addr)(vs:List V):Prop:=(∃o,H a=some (.b9 o (.lst vs)))\/∃(o:Obj) (its:Array Value) (n:Nat),K.lookup a=some o/\o.cls= .type "list"/\o.dict=none/\o.data= .seq its n/\its.size<=aM/\bj vs its.toList
theorem jA.sq(h:jA K H a vs):cI K H a vs:=h.elim (λ⟨o,e⟩=> .inl (.inr ⟨o,e⟩)) .inr
def gj(K:ah)(H:Hp)(a:Addr)(k:Kd)(vs:List V):Prop:=fits K k vs.length/\match k with
 |.tup=>H a=some (.tup vs)
 |.e8=>jA K H a vs
 |.lst=>H a=some (.lst vs)
 |.aO ks=>Rd H a (.dK (ks.zip vs))
 |.lM ks=>Rd H a (.dT (ks.zip vs))
 |.obj C ns=>∃dx,H a=some (.ins C dx (ns.zip vs))
def qt(K:ah)(H:Hp)(a:Addr)(k:Kd)(vs:List V):Prop:=cg k=false/\fits K k vs.length/\∃dx,H a=some (ho k dx vs)
theorem qt.cell(h:qt K H a k vs):gj K H a k vs:=by
 obtain⟨hk,hf,dx,e⟩:=h;refine⟨hf, ?_⟩;cases k with
 |tup=>cases hk
 |e8=>cases hk
 |lst=>exact e
 |aO ks=>exact .inl e
 |lM ks=>exact .inl e
 |obj C ns=>exact⟨dx,e⟩
theorem qt.mu(h:qt K H a k vs):iB (H a):=by
 obtain⟨hk,hf,dx,e⟩:=h;rw[e];cases k with
 |tup=>cases hk
 |e8=>cases hk
 |lst=>trivial
 |aO ks=>trivial
 |lM ks=>trivial
 |obj C ns=>trivial
def gu(H H':Hp):Prop:=∀b o,¬ iB (some o)->H b=some o->H' b=some o
theorem gu.refl(H:Hp):gu H H:=λ_ _ _ h=>h
theorem gu.of(s:aJ H H'):gu H H':=λb o _ h=>s b o h
theorem jA.gO(h:jA K H a vs)(s:gu H H'):jA K H' a vs:=h.elim (λ⟨o,e⟩=> .inl ⟨o,s _ _ (λz=>z) e⟩) .inr
inductive Vw(K:ah)(H:Hp)(N:Addr->Prop):V->D->Prop
 |sc (v:V):Vw K H N v (.sc v)
 |hl (v:V):Vw K H N v (.hl v)
 |nd {a:Addr} {k:Kd} {vs:List V} {cs:List D}:(cg k=false->N a)->gj K H a k vs->vs.length=cs.length->(∀(i:Nat) (v:V) (d:D),vs[i]?=some v->cs[i]?=some d->Vw K H N v d)->Vw K H N (.ref a) (.nd k cs)
def jB(K:ah)(H:Hp)(F:Addr->Prop)(a:Addr)(k:Kd)(vs:List V)(cs:List D):Prop:=match k with
 |.tup=>H a=some (.tup vs)
 |.e8=>bI cs=true/\jA K H a vs
 |k=>F a/\qt K H a k vs
inductive bg(K:ah)(H:Hp):(Addr->Prop)->V->D->Prop
 |sc (F:Addr->Prop) (v:V):bg K H F v (.sc v)
 |hl (F:Addr->Prop) (v:V):bg K H F v (.hl v)
 |nd {F:Addr->Prop} {a:Addr} {k:Kd} {vs:List V} {cs:List D} (Fs:Nat->Addr->Prop):jB K H F a k vs cs->vs.length=cs.length->(∀i j b,Fs i b->Fs j b->i=j)->(∀i b,Fs i b->F b/\(cg k=false->b≠a))->
   (∀(i:Nat) (v:V) (d:D),vs[i]?=some v->cs[i]?=some d->bg K H (Fs i) v d)->bg K H F (.ref a) (.nd k cs)
section
variable {K:ah}{H H':Hp}{F F' N N':Addr->Prop}
theorem jB.mono(h:jB K H F a k vs cs)(m:∀b,F b->F' b):jB K H F' a k vs cs:=by
 cases k with
 |tup=>exact h
 |e8=>exact h
 |_=>exact⟨m _ h.1,h.2⟩
theorem jB.frame(h:jB K H F a k vs cs)(f:∀b o,F b->H b=some o->H' b=some o)(s:gu H H'):jB K H' F a k vs cs:=by
 cases k with
 |tup=>exact s _ _ (λz=>z) h
 |e8=>exact⟨h.1,h.2.gO s⟩
 |_=>obtain⟨h1,h2,h3,dx,e⟩:=h;exact⟨h1,h2,h3,dx,f _ _ h1 e⟩
theorem jB.cell(h:jB K H F a k vs cs):gj K H a k vs:=by
 cases k with
 |tup=>exact⟨trivial,h⟩
 |e8=>exact⟨trivial,h.2⟩
 |_=>exact h.2.cell
theorem jB.own(h:jB K H F a k vs cs)(hk:cg k=false):F a/\qt K H a k vs:=by
 cases k with
 |tup=>cases hk
 |e8=>cases hk
 |_=>exact h
theorem jB.put(hk:cg k=false)(h1:F a)(h2:qt K H a k vs):jB K H F a k vs cs:=by
 cases k with
 |tup=>cases hk
 |e8=>cases hk
 |_=>exact⟨h1,h2⟩
theorem bg.mono(h:bg K H F v d)(m:∀b,F b->F' b):bg K H F' v d:=by
 cases h with
 |sc=>exact .sc _ _
 |hl=>exact .hl _ _
 |nd Fs h1 h2 h3 h4 h5=>exact .nd Fs (h1.mono m) h2 h3 (λi b z=>⟨m _ (h4 i b z).1,(h4 i b z).2⟩) h5
theorem bg.frame(h:bg K H F v d)(f:∀b o,F b->H b=some o->H' b=some o)(s:gu H H'):bg K H' F v d:=by
 induction h with
 |sc=>exact .sc _ _
 |hl=>exact .hl _ _
 |nd Fs h1 h2 h3 h4 _ ih=>exact .nd Fs (h1.frame f s) h2 h3 h4 λi v d hv hd=>ih i v d hv hd λb o z=>f b o (h4 i b z).1
theorem bg.same(h:bg K H F v d)(s:aJ H H'):bg K H' F v d:=h.frame (λb o _ e=>s b o e) (gu.of s)
theorem bg.view(h:bg K H F v d)(m:∀b,F b->N b):Vw K H N v d:=by
 induction h with
 |sc=>exact .sc _
 |hl=>exact .hl _
 |nd Fs h1 h2 h3 h4 _ ih=>exact .nd (λhk=>m _ (h1.own hk).1) h1.cell h2 λi v d hv hd=>ih i v d hv hd λb z=>m b (h4 i b z).1
theorem bg.vw(h:bg K H F v d):Vw K H (λ_=>True) v d:=h.view λ_ _=>trivial
theorem Vw.mono(h:Vw K H N v d)(m:∀b,N b->N' b):Vw K H N' v d:=by
 induction h with
 |sc=>exact .sc _
 |hl=>exact .hl _
 |nd h1 h2 h3 _ ih=>exact .nd (λk=>m _ (h1 k)) h2 h3 ih
theorem Vw.any(h:Vw K H N v d):Vw K H (λ_=>True) v d:=h.mono λ_ _=>trivial
theorem gj.frame(h:gj K H a k vs)(f:cg k=false->∀o,H a=some o->H' a=some o)(s:gu H H'):gj K H' a k vs:=by
 obtain⟨h1,h⟩:=h;refine⟨h1, ?_⟩;cases k with
 |tup=>exact s _ _ (λz=>z) h
 |e8=>exact jA.gO h s
 |lst=>exact f rfl _ h
 |aO ks=>
  have f:=f rfl;rcases h with h | ⟨o,h⟩
  ·exact .inl (f _ h)
  ·exact .inr ⟨o,f _ h⟩
 |lM ks=>
  have f:=f rfl;rcases h with h | ⟨o,h⟩
  ·exact .inl (f _ h)
  ·exact .inr ⟨o,f _ h⟩
 |obj C ns=>
  obtain⟨dx,h⟩:=h;exact⟨dx,f rfl _ h⟩
theorem Vw.frame(h:Vw K H N v d)(f:∀b o,N b->H b=some o->H' b=some o)(s:gu H H'):Vw K H' N v d:=by
 induction h with
 |sc=>exact .sc _
 |hl=>exact .hl _
 |nd h1 h2 h3 _ ih=>exact .nd h1 (h2.frame (λhk o e=>f _ o (h1 hk) e) s) h3 ih
theorem Vw.same(h:Vw K H N v d)(s:aJ H H'):Vw K H' N v d:=h.frame (λb o _ e=>s b o e) (gu.of s)
theorem Vw.plain{v:V}{d:D}(h:Vw K H N v d)(p:plain d=true):bg K H (λ_=>False) v d:=by
 induction h with
 |sc=>exact .sc _ _
 |hl=>cases p
 | @nd a k vs cs h1 h2 h3 _ ih=>
  cases k with
  |tup=>
   have p:bI cs=true:=p;exact .nd (λ_ _=>False) h2.2 h3 (λ_ _ _ z=>z.elim) (λ_ _ z=>z.elim) λi v d hv hd=>ih i v d hv hd (za p hd)
  |e8=>
   have p:bI cs=true:=p;exact .nd (λ_ _=>False) ⟨p,h2.2⟩ h3 (λ_ _ _ z=>z.elim) (λ_ _ z=>z.elim) λi v d hv hd=>ih i v d hv hd (za p hd)
  |_=>simp[VL.plain]at p
end
def kids:HO->List V
 |.lst xs=>xs
 |.tup xs=>xs
 |.dK ai=>ai.map (·.2)
 |.dT ai=>ai.map (·.2)
 |.ins _ _ fs=>fs.map (·.2)
 |.b9 _ u=>kids u
 |_=> []
theorem DG{α β:Type}:∀{l:List α} {m:List β},l.length=m.length->(l.zip m).map (·.2)=m
 | [], [],_=>rfl
 |_::l,_::m,h=>by rw[nV,cP,DG (dA h)]
theorem AH{K:ah}(h:fits K k vs.length):kids (ho k dx vs)=vs:=by
 cases k with
 |tup=>rfl
 |e8=>rfl
 |lst=>rfl
 |aO ks=>exact DG h
 |lM ks=>exact DG h
 |obj C ns=>exact DG h.1
inductive gU(H:Hp):V->List Nat->V->Prop
 |nil (v:V):gU H v [] v
 |cons {a:Addr} {o:HO} {n:Nat} {c u:V} {p:List Nat}:H a=some o->(kids o)[n]?=some c->gU H c p u->gU H (.ref a) (n::p) u
def aI:D->List Nat->Option D
 |d, []=>some d
 |.sc _,_::_=>none
 |.hl _,_::_=>none
 |.nd k cs,n::p=>if cg k=true/\bI cs=true then none else match cs[n]? with
  |some c=>aI c p
  |none=>none
noncomputable def aZ:D->List Nat->D->D
 |_, [],e=>e
 |.sc v,_::_,_=> .sc v
 |.hl v,_::_,_=> .hl v
 |.nd k cs,n::p,e=> .nd k (match cs[n]? with
  |some c=>cs.set n (aZ c p e)
  |none=>cs)
section
variable {K:ah}{H H':Hp}{F F' N N':Addr->Prop}
theorem jB.kids(h:jB K H F a k vs cs)(hp:¬ (cg k=true/\bI cs=true))(e:H a=some o):kids o=vs:=by
 cases k with
 |tup=>have h:H a=some (.tup vs):=h;rw[e]at h;cases h;rfl
 |e8=>exact absurd ⟨rfl,h.1⟩ hp
 |_=>obtain⟨_,_,hf,dx,q⟩:=h;rw[e]at q;cases q;exact AH hf
theorem bg.focus:∀{p:List Nat} {F:Addr->Prop} {v u:V} {d d1:D},bg K H F v d->gU H v p u->aI d p=some d1->
  ∃F1:Addr->Prop,(∀b,F1 b->F b)/\bg K H F1 u d1/\∀(H':Hp) (rM:Addr->Prop) (tQ:D),(∀b o,¬ F1 b->F b->H b=some o->H' b=some o)->gu H H'->bg K H' rM u tQ->(∀b,rM b->F1 b\/¬ F b)->
   bg K H' (λb=>(F b/\¬ F1 b)\/rM b) v (aZ d p tQ)
 | [],F,v,u,d,d1,h,hp,g=>by
  cases hp;cases g;refine⟨F,λ_ z=>z,h,λH' rM tQ _ _ h' _=> ?_⟩;show bg K H' _ v (aZ d [] tQ);rw[aZ];exact h'.mono λb z=> .inr z
 |n::p,F,v,u,d,d1,h,hp,g=>by
  cases hp with
  | @cons a o n c u p e1 e2 hp=>
   cases h with
   |sc=>rw[aI]at g;cases g
   |hl=>rw[aI]at g;cases g
   | @nd _ _ k vs cs Fs h1 h2 h3 h4 h5=>
    rw[aI]at g;by_cases dM:cg k=true/\bI cs=true
    ·rw[if_pos dM]at g;cases g
    rw[if_neg dM]at g;rw[h1.kids dM e1]at e2;have hn:n < cs.length:=by rw[<- h2];exact(cm.mp e2).1
    have hc:cs[n]?=some cs[n]:=dH hn;rw[hc]at g;obtain⟨F1,m1,r1,put⟩:=(h5 n c _ e2 hc).focus hp g;refine⟨F1,λb z=>(h4 n b (m1 b z)).1,r1,λH' rM tQ fr st r' ap=> ?_⟩;have key:=put H' rM tQ (λb o nb hb=>fr b o nb (h4 n b hb).1) st r' λb z=>(ap b z).elim .inl λq=> .inr λw=>q (h4 n b w).1;rw[aZ,hc];have Hz:cg k=false->¬ F1 a:=λhk z=>(h4 n a (m1 a z)).2 hk rfl;refine .nd (λi b=>if i=n then(Fs n b/\¬ F1 b)\/rM b else Fs i b) ?_ (by show vs.length=(cs.set n _).length;rw[bN];exact h2) ?_ ?_ ?_
    ·cases k with
     |tup=>exact st _ _ (λz=>z) h1
     |e8=>exact absurd ⟨rfl,h1.1⟩ dM
     |_=>obtain⟨x1,x2,x3,dx,x4⟩:=h1;exact⟨.inl ⟨x1,Hz x2⟩,x2,x3,dx,fr _ _ (Hz x2) x1 x4⟩
    ·intro i j b hi hj;by_cases ei:i=n
     ·by_cases ej:j=n
      ·rw[ei,ej]
      ·rw[if_pos ei]at hi;rw[if_neg ej]at hj;rcases hi with hi | hi
       ·exact absurd (h3 j n b hj hi.1) ej
       ·rcases ap b hi with z | z
        ·exact absurd (h3 j n b hj (m1 b z)) ej
        ·exact absurd (h4 j b hj).1 z
     ·rw[if_neg ei]at hi;by_cases ej:j=n
      ·rw[if_pos ej]at hj;rcases hj with hj | hj
       ·exact absurd (h3 i n b hi hj.1) ei
       ·rcases ap b hj with z | z
        ·exact absurd (h3 i n b hi (m1 b z)) ei
        ·exact absurd (h4 i b hi).1 z
      ·rw[if_neg ej]at hj;exact h3 i j b hi hj
    ·intro i b hi;by_cases ei:i=n
     ·rw[if_pos ei]at hi;rcases hi with hi | hi
      ·exact⟨.inl ⟨(h4 n b hi.1).1,hi.2⟩,(h4 n b hi.1).2⟩
      ·refine⟨.inr hi,λhk z=> ?_⟩;subst z;rcases ap b hi with q | q
       ·exact Hz hk q
       ·exact q (h1.own hk).1
     ·rw[if_neg ei]at hi;exact⟨.inl ⟨(h4 i b hi).1,λz=>ei (h3 i n b hi (m1 b z))⟩,(h4 i b hi).2⟩
    ·intro i v2 d2 hv hd;by_cases ei:i=n
     ·subst ei;rw[e2]at hv;cases hv;have hd:(cs.set i (aZ cs[i] p tQ))[i]?=some d2:=hd;rw[gK hn]at hd;cases hd;show bg K H' (λb=>if i=i then(Fs i b/\¬ F1 b)\/rM b else Fs i b) c _;simp only[if_pos rfl];exact key
     ·have hd:(cs.set n (aZ cs[n] p tQ))[i]?=some d2:=hd;rw[gq (fw ei)]at hd;show bg K H' (λb=>if i=n then(Fs n b/\¬ F1 b)\/rM b else Fs i b) v2 d2;simp only[if_neg ei];exact(h5 i v2 d2 hv hd).frame (λb o hb=>fr b o (λz=>ei (h3 i n b hb (m1 b z))) (h4 i b hb).1) st
theorem gj.xo(h:gj K H a k vs)(hk:cg k=false):∃o,H a=some o:=by
 obtain⟨_,h⟩:=h;cases k with
 |tup=>cases hk
 |e8=>cases hk
 |lst=>exact⟨_,h⟩
 |aO ks=>rcases h with h | ⟨o,h⟩ <;> exact⟨_,h⟩
 |lM ks=>rcases h with h | ⟨o,h⟩ <;> exact⟨_,h⟩
 |obj C ns=>obtain⟨dx,h⟩:=h;exact⟨_,h⟩
theorem Vw.over(h:Vw K H N v d)(f:∀b o,N b->H b=some o->H' b=some o/\N' b)(s:gu H H'):Vw K H' N' v d:=by
 induction h with
 |sc=>exact .sc _
 |hl=>exact .hl _
 |nd h1 h2 h3 _ ih=>exact .nd (λk=>let ⟨o,e⟩:=h2.xo k;(f _ o (h1 k) e).2) (h2.frame (λhk o e=>(f _ o (h1 hk) e).1) s) h3 ih
theorem Vw.node(h:Vw K H N v (.nd k cs)):∃a vs,v= .ref a/\(cg k=false->N a)/\gj K H a k vs/\vs.length=cs.length/\∀(i:Nat) (v:V) (d:D),vs[i]?=some v->cs[i]?=some d->Vw K H N v d:=by
 cases h with
 |nd h1 h2 h3 h4=>exact⟨_,_,rfl,h1,h2,h3,h4⟩
theorem Vw.bA(h:Vw K H N v (.sc u)):v=u:=by
 cases h;rfl
theorem bg.hole(h:bg K H F v (.hl u)):v=u:=by
 cases h;rfl
theorem bg.node(h:bg K H F v (.nd k cs)):∃a vs,v= .ref a/\jB K H F a k vs cs/\vs.length=cs.length/\∃Fs:Nat->Addr->Prop,(∀i j b,Fs i b->Fs j b->i=j)/\(∀i b,Fs i b->F b/\(cg k=false->b≠a))/\
   (∀(i:Nat) (v:V) (d:D),vs[i]?=some v->cs[i]?=some d->bg K H (Fs i) v d):=by
 cases h with
 |nd Fs h1 h2 h3 h4 h5=>exact⟨_,_,rfl,h1,h2,Fs,h3,h4,h5⟩
theorem bg.path:∀{p:List Nat} {F:Addr->Prop} {v:V} {d d1:D},bg K H F v d->aI d p=some d1->∃u,gU H v p u
 | [],F,v,d,d1,h,g=>⟨v, .nil v⟩
 |n::p,F,v, .sc _,d1,h,g=>by rw[aI]at g;cases g
 |n::p,F,v, .hl _,d1,h,g=>by rw[aI]at g;cases g
 |n::p,F,v, .nd k cs,d1,h,g=>by
  obtain⟨a,vs,rfl,h1,h2,Fs,h3,h4,h5⟩:=h.node;rw[aI]at g;by_cases dM:cg k=true/\bI cs=true
  ·rw[if_pos dM]at g;cases g
  rw[if_neg dM]at g;cases hc:cs[n]? with
  |none=>rw[hc]at g;cases g
  |some c=>
   rw[hc]at g;have hn:n < vs.length:=by rw[h2];exact(cm.mp hc).1
   obtain⟨u,hu⟩:=(h5 n _ c (dH hn) hc).path g;have ho:∃o,H a=some o:=by
    cases k with
    |tup=>exact⟨_,h1⟩
    |e8=>exact absurd ⟨rfl,h1.1⟩ dM
    |_=>obtain⟨_,_,_,dx,e⟩:=h1;exact⟨_,e⟩
   obtain⟨o,e⟩:=ho;exact⟨u, .cons e (by rw[h1.kids dM e];exact dH hn) hu⟩
theorem bg.HA:∀{p:List Nat} {F:Addr->Prop} {v u:V} {d d1:D},bg K H F v d->aI d p=some d1->gU H v p u->(∀b o,F b->H b=some o->H' b=some o)->gu H H'->gU H' v p u
 | [],F,v,u,d,d1,h,g,hp,f,s=>by cases hp;exact .nil v
 |n::p,F,v,u, .sc _,d1,h,g,hp,f,s=>by rw[aI]at g;cases g
 |n::p,F,v,u, .hl _,d1,h,g,hp,f,s=>by rw[aI]at g;cases g
 |n::p,F,v,u, .nd k cs,d1,h,g,hp,f,s=>by
  obtain⟨a,vs,rfl,h1,h2,Fs,h3,h4,h5⟩:=h.node;rw[aI]at g;by_cases dM:cg k=true/\bI cs=true
  ·rw[if_pos dM]at g;cases g
  rw[if_neg dM]at g;cases hc:cs[n]? with
  |none=>rw[hc]at g;cases g
  |some c=>
   rw[hc]at g;cases hp with
   | @cons a o n c' u p e1 e2 hp=>
    rw[h1.kids dM e1]at e2;have Z0:H' a=some o:=by
     cases k with
     |tup=>have h1:H a=some (.tup vs):=h1;rw[e1]at h1;cases h1;exact s _ _ (λz=>z) e1
     |e8=>exact absurd ⟨rfl,h1.1⟩ dM
     |_=>exact f _ _ h1.1 e1
    refine .cons Z0 (by rw[h1.kids dM e1];exact e2) ?_;exact(h5 n c' c e2 hc).HA g hp (λb o z=>f b o (h4 n b z).1) s
theorem bg.sub(h:bg K H F v d)(g:aI d p=some d1)(hp:gU H v p u)(m:∀b,F b->N b):Vw K H N u d1:=by
 obtain⟨F1,m1,r1,_⟩:=h.focus hp g;exact r1.view λb z=>m b (m1 b z)
end
inductive B where
 |own (d:D) | ro (d:D) | aB (r:Nat) (p:List Nat)
noncomputable abbrev En:=List (Option B)
def ox(K:ah)(H:Hp)(U F:Addr->Prop)(m:Nat)(e:List (Option V))(v:V):B->Prop
 |.own d=>bg K H F v d
 |.ro d=>Vw K H (λb=>¬ U b) v d
 |.aB r p=>r < m/\∃vr,e[r]?=some (some vr)/\gU H vr p v
structure bT(K:ah)(H:Hp)(U:Addr->Prop)(m:Nat)(e:List (Option V))(Z:En):Prop where
 len:e.length=Z.length
 mu:∀b,U b->iB (H b)
 ex:∃Fs:Nat->Addr->Prop,(∀i j b,Fs i b->Fs j b->i=j)/\(∀i b,Fs i b->U b)/\∀(i:Nat) (β:B),Z[i]?=some (some β)->∃v,e[i]?=some (some v)/\ox K H U (Fs i) m e v β
def bH(U:Addr->Prop)(H:Hp)(U':Addr->Prop)(H':Hp):Prop:=∀b o,H b=some o->¬ U b->H' b=some o/\¬ U' b
theorem bH.refl(U:Addr->Prop)(H:Hp):bH U H U H:=λ_ _ h n=>⟨h,n⟩
theorem bH.trans{H H1 H2:Hp}(a:bH U H U1 H1)(b:bH U1 H1 U2 H2):bH U H U2 H2:=λc o h n=>b c o (a c o h n).1 (a c o h n).2
theorem bH.gO{H H':Hp}(s:bH U H U' H')(mu:∀b,U b->iB (H b)):gu H H':=λb o m e=>(s b o e λu=>m (by have:=mu b u;rw[e]at this;exact this)).1
theorem rN(h:iB o):∃x,o=some x:=by
 cases o with
 |none=>exact h.elim
 |some x=>exact⟨x,rfl⟩
noncomputable def aV (Z:En) (r:Nat):Option D:=match Z[r]? with
 |some (some (.own d))=>some d
 |_=>none
def fO(Z:En):Option B->Option B
 |some (.aB r p)=>if p= []\/((aV Z r).bind (aI · p)).isSome=true then some (.aB r p) else none
 |b=>b
def el(Z:En):En:=Z.map (fO Z)
def Qf(τ:En):Prop:=∀b∈τ,b=none\/∃d,b=some (B.own d)
def AI(τ:En):Prop:=∀b∈τ,∀r p,b≠some (B.aB r p)
theorem iE(Z:En):(el Z).length=Z.length:=by unfold el;rw[bb]
section
variable {K:ah}{H H':Hp}{U U':Addr->Prop}{m:Nat}{e t t':List (Option V)}{Z τ xX:En}
theorem slot_of(hl:e.length=Z.length)(h:(Z++τ)[i]?=some (some β)):(i < e.length/\Z[i]?=some (some β))\/(e.length<=i/\τ[i - e.length]?=some (some β)):=by
 by_cases hi:i < Z.length
 ·rw[aU hi]at h;exact .inl ⟨by lia,h⟩
 ·rw[br (by lia)]at h;exact .inr ⟨by lia,by rw[hl];exact h⟩
theorem kS(h:aV Z r=some d):Z[r]?=some (some (.own d)):=by
 unfold aV at h
 split at h
 ·next q=>cases h;exact q
 ·cases h
theorem Z1{i:Nat}{β:B}(h:(el Z)[i]?=some (some β)):Z[i]?=some (some β)/\fO Z (some β)=some β:=by
 unfold el at h;rw[bJ]at h;cases q:Z[i]? with
 |none=>rw[q]at h;cases h
 |some o=>
  rw[q]at h;have h:fO Z o=some β:=hV h;cases o with
  |none=>cases h
  |some c=>
   cases c with
   |own d=>have h:some (B.own d)=some β:=h;cases h;exact⟨rfl,rfl⟩
   |ro d=>have h:some (B.ro d)=some β:=h;cases h;exact⟨rfl,rfl⟩
   |aB r p=>
    have h':(if p= []\/((aV Z r).bind (aI · p)).isSome=true then some (B.aB r p) else none)=some β:=h;by_cases c:p= []\/((aV Z r).bind (aI · p)).isSome=true
    ·rw[if_pos c]at h';cases h';exact⟨rfl,h⟩
    ·rw[if_neg c]at h';cases h'
theorem bT.call(h:bT K H U m (e++t) (Z++τ))(hl:e.length=Z.length)(hm:m<=e.length)(xY:AI τ):
  ∃Ut:Addr->Prop,(∀b,Ut b->U b)/\bT K H Ut 0 t τ/\(∀(i:Nat) (v:V) (d:D),e[i]?=some (some v)->(Z[i]?=some (some (.own d))->∃F:Addr->Prop,bg K H F v d/\∀b,F b->¬ Ut b)/\(Z[i]?=some (some (.ro d))->Vw K H (λb=>¬ Ut b) v d))/\
   ∀(H':Hp) (AJ:Addr->Prop) (t':List (Option V)) (xX:En),bT K H' AJ 0 t' xX->bH Ut H AJ H'->Qf xX->∃U':Addr->Prop,bT K H' U' m (e++t') (el Z++xX)/\bH U H U' H':=by
 obtain⟨dw,mu,Fs,dj,sub,sl⟩:=h;have hle:(e++t).length=(Z++τ).length:=dw;rw[bo,bo]at hle;refine⟨λb=>∃i,e.length<=i/\Fs i b,λb ⟨i,_,z⟩=>sub i b z,⟨by lia,λb ⟨i,_,z⟩=>mu b (sub i b z),λi=>Fs (e.length + i),λi j b hi hj=>by have:=dj _ _ b hi hj;lia,λi b hb=>⟨_,by lia,hb⟩,λi β aa=> ?_⟩, ?_, ?_⟩
 ·have AK:(Z++τ)[e.length + i]?=some (some β):=by
   rw[hl,br (by lia),show Z.length + i - Z.length=i by lia];exact aa
  obtain⟨v,ev,sv⟩:=sl _ _ AK;rw[br (by lia),show e.length + i - e.length=i by lia]at ev;refine⟨v,ev, ?_⟩;cases β with
  |own d=>exact sv
  |ro d=>exact Vw.mono sv λb nb ⟨j,_,z⟩=>nb (sub j b z)
  |aB r p=>exact absurd rfl (xY _ (jr aa) r p)
 ·intro i v d ev;have hi:i < e.length:=by
   rcases NV i e.length with z | z
   ·exact z
   ·rw[V2.mpr z]at ev;cases ev
  have ap:∀β,Z[i]?=some (some β)->(Z++τ)[i]?=some (some β):=λβ q=>by rw[aU (by lia)];exact q
  have ij:(e++t)[i]?=some (some v):=by rw[aU hi];exact ev
  refine⟨λhb=> ?_,λhb=> ?_⟩
  ·obtain⟨v',dE,sv⟩:=sl i _ (ap _ hb);rw[ij]at dE;cases dE;exact⟨Fs i,sv,λb hb ⟨j,hj,z⟩=>by have:=dj i j b hb z;lia⟩
  ·obtain⟨v',dE,sv⟩:=sl i _ (ap _ hb);rw[ij]at dE;cases dE;exact Vw.mono sv λb nb ⟨j,_,z⟩=>nb (sub j b z)
 ·intro H' AJ t' xX h' st Qg;obtain⟨ai5,Z2,Gs,Z3,HB,F0⟩:=h';have nU:∀i b,i < e.length->Fs i b->¬ ∃j,e.length<=j/\Fs j b:=λi b hi hb ⟨j,hj,z⟩=>by have:=dj i j b hb z;lia
  have gO:gu H H':=st.gO λb ⟨i,_,z⟩=>mu b (sub i b z);have keep:∀i,i < e.length->∀b o,Fs i b->H b=some o->H' b=some o:=λi hi b o hb q=>(st b o q (nU i b hi hb)).1;have Qh:∀i,i < e.length->∀b,Fs i b->¬ AJ b:=λi hi b hb=>by
   obtain⟨o,q⟩:=rN (mu b (sub i b hb));exact(st b o q (nU i b hi hb)).2
  have lp:(el Z).length=Z.length:=iE Z;refine⟨λb=>(∃i,i < e.length/\Fs i b)\/AJ b,⟨by rw[bo,bo,lp];lia,λb hb=> ?_,λi=>if i < e.length then Fs i else Gs (i - e.length),λi j b hi hj=> ?_,λi b hb=> ?_,λi β aa=> ?_⟩,λb o q nb=> ?_⟩
  ·rcases hb with⟨i,hi,z⟩ | z
   ·obtain⟨o,q⟩:=rN (mu b (sub i b z));have:=mu b (sub i b z);rw[q]at this;rw[keep i hi b o z q];exact this
   ·exact Z2 b z
  ·have hi:(if i < e.length then Fs i else Gs (i - e.length)) b:=hi;have hj:(if j < e.length then Fs j else Gs (j - e.length)) b:=hj;by_cases ei:i < e.length
   ·rw[if_pos ei]at hi;by_cases ej:j < e.length
    ·rw[if_pos ej]at hj;exact dj i j b hi hj
    ·rw[if_neg ej]at hj;exact absurd (HB _ b hj) (Qh i ei b hi)
   ·rw[if_neg ei]at hi;by_cases ej:j < e.length
    ·rw[if_pos ej]at hj;exact absurd (HB _ b hi) (Qh j ej b hj)
    ·rw[if_neg ej]at hj;have:=Z3 _ _ b hi hj;lia
  ·have hb:(if i < e.length then Fs i else Gs (i - e.length)) b:=hb;by_cases ei:i < e.length
   ·rw[if_pos ei]at hb;exact .inl ⟨i,ei,hb⟩
   ·rw[if_neg ei]at hb;exact .inr (HB _ b hb)
  ·rcases slot_of (τ:=xX) (by rw[lp];exact hl) aa with⟨hi,q⟩ | ⟨hi,q⟩
   ·obtain⟨q1,q2⟩:=Z1 q;obtain⟨v,ev,sv⟩:=sl i β (by rw[aU (by lia)];exact q1);rw[aU hi]at ev;refine⟨v,by rw[aU hi];exact ev, ?_⟩;simp only[if_pos hi];cases β with
    |own d=>exact bg.frame sv (keep i hi) gO
    |ro d=>
     exact Vw.over sv (λb o nb q=>by
      have nt:¬ ∃j,e.length<=j/\Fs j b:=λ⟨j,_,z⟩=>nb (sub j b z);exact⟨(st b o q nt).1,λz=>z.elim (λ⟨j,_,z⟩=>nb (sub j b z)) (st b o q nt).2⟩) gO
    |aB r p=>
     obtain⟨hr,vr,er,hp⟩:=sv;rw[aU (by lia)]at er;refine⟨hr,vr,by rw[aU (by lia)];exact er, ?_⟩;have q2:(if p= []\/((aV Z r).bind (aI · p)).isSome=true then some (B.aB r p) else none)=some (B.aB r p):=q2;by_cases c:p= []\/((aV Z r).bind (aI · p)).isSome=true
     ·rcases c with c | c
      ·subst c;cases hp;exact .nil _
      ·cases hd:aV Z r with
       |none=>rw[hd]at c;cases c
       |some d=>
        rw[hd]at c;have tS:=kS hd;obtain⟨v2,dE,dZ⟩:=sl r _ (by rw[aU (by lia)];exact tS);rw[aU (by lia),er]at dE;cases dE;obtain⟨d1,g⟩:=VD.mp c;have dZ:bg K H (Fs r) vr d:=dZ;exact dZ.HA (d1:=d1) g hp (keep r (by lia)) gO
     ·rw[if_neg c]at q2;cases q2
   ·obtain⟨v,ev,sv⟩:=F0 _ β q;refine⟨v,by rw[br hi];exact ev, ?_⟩;have Z4:¬ i < e.length:=by lia
    simp only[if_neg Z4];cases β with
    |own d=>exact sv
    |ro d=>rcases Qg _ (jr q) with z | ⟨_,z⟩ <;> cases z
    |aB r p=>rcases Qg _ (jr q) with z | ⟨_,z⟩ <;> cases z
  ·have nt:¬ ∃j,e.length<=j/\Fs j b:=λ⟨j,_,z⟩=>nb (sub j b z);exact⟨(st b o q nt).1,λz=>z.elim (λ⟨j,_,z⟩=>nb (sub j b z)) (st b o q nt).2⟩
theorem xZ{cs:List D}{n:Nat}{x:D}(hn:n < cs.length)(hx:plain x=false):bI (cs.set n x)=false:=by
 cases q:bI (cs.set n x) with
 |false=>rfl
 |true=>
  have:=za q (gK hn);rw[hx]at this;cases this
theorem ya:∀{p:List Nat} {d d1 x:D},aI d p=some d1->plain x=false->plain (aZ d p x)=false
 | [],d,d1,x,g,hx=>by rw[aZ];exact hx
 |n::p, .sc _,d1,x,g,hx=>by rw[aI]at g;cases g
 |n::p, .hl _,d1,x,g,hx=>by rw[aI]at g;cases g
 |n::p, .nd k cs,d1,x,g,hx=>by
  rw[aI]at g;by_cases dM:cg k=true/\bI cs=true
  ·rw[if_pos dM]at g;cases g
  rw[if_neg dM]at g;cases hc:cs[n]? with
  |none=>rw[hc]at g;cases g
  |some c=>
   rw[hc]at g;rw[aZ,hc];cases k with
   |tup=>exact xZ (cm.mp hc).1 (ya g hx)
   |e8=>exact xZ (cm.mp hc).1 (ya g hx)
   |_=>rfl
theorem HC:∀{p:List Nat} {d d1 x:D},aI d p=some d1->plain x=false->aI (aZ d p x) p=some x
 | [],d,d1,x,g,hx=>by rw[aZ,aI]
 |n::p, .sc _,d1,x,g,hx=>by rw[aI]at g;cases g
 |n::p, .hl _,d1,x,g,hx=>by rw[aI]at g;cases g
 |n::p, .nd k cs,d1,x,g,hx=>by
  rw[aI]at g;by_cases dM:cg k=true/\bI cs=true
  ·rw[if_pos dM]at g;cases g
  rw[if_neg dM]at g;cases hc:cs[n]? with
  |none=>rw[hc]at g;cases g
  |some c=>
   rw[hc]at g;have hn:=(cm.mp hc).1;rw[aZ,hc];show aI (.nd k (cs.set n (aZ c p x))) (n::p)=some x;rw[aI,if_neg,gK hn]
   ·exact HC g hx
   ·rintro⟨_,q⟩;rw[xZ hn (ya g hx)]at q;cases q
theorem HD:∀{p:List Nat} {d d1 x y:D},aI d p=some d1->aZ (aZ d p x) p y=aZ d p y
 | [],d,d1,x,y,g=>by simp only[aZ]
 |n::p, .sc _,d1,x,y,g=>by rw[aI]at g;cases g
 |n::p, .hl _,d1,x,y,g=>by rw[aI]at g;cases g
 |n::p, .nd k cs,d1,x,y,g=>by
  rw[aI]at g;by_cases dM:cg k=true/\bI cs=true
  ·rw[if_pos dM]at g;cases g
  rw[if_neg dM]at g;cases hc:cs[n]? with
  |none=>rw[hc]at g;cases g
  |some c=>
   rw[hc]at g;have hn:=(cm.mp hc).1;have e1:aZ (.nd k cs) (n::p) x= .nd k (cs.set n (aZ c p x)):=by rw[aZ,hc]
   have e2:aZ (.nd k cs) (n::p) y= .nd k (cs.set n (aZ c p y)):=by rw[aZ,hc]
   have e3:aZ (.nd k (cs.set n (aZ c p x))) (n::p) y= .nd k ((cs.set n (aZ c p x)).set n (aZ (aZ c p x) p y)):=by rw[aZ,gK hn]
   rw[e1,e2,e3,NW,HD g]
theorem ox.slots{F:Addr->Prop}{e e':List (Option V)}(h:ox K H U F m e v β)(he:∀r,r < m->e'[r]?=e[r]?):ox K H U F m e' v β:=by
 cases β with
 |own d=>exact h
 |ro d=>exact h
 |aB r p=>
  obtain⟨hr,vr,er,hp⟩:=h;exact⟨hr,vr,(he r hr).trans er,hp⟩
theorem bT.take(h:bT K H U m e Z)(hm:m<=e.length)(hr:Z[r]?=some (some (.own d)))(er:e[r]?=some (some vr))(hp:gU H vr p u)(g:aI d p=some d1):
  bT K H U m (e++ [some u]) (Z.set r (some (.own (aZ d p (.hl u))))++ [some (.own d1)]):=by
 obtain⟨dw,mu,Fs,dj,sub,sl⟩:=h;have iN:r < e.length:=by
  rcases NV r e.length with z | z
  ·exact z
  ·rw[V2.mpr z]at er;cases er
 obtain⟨v,ev,sv⟩:=sl r _ hr;rw[er]at ev;cases ev;have sv:bg K H (Fs r) vr d:=sv;obtain⟨F1,m1,r1,put⟩:=sv.focus hp g;have key:=put H (λ_=>False) (.hl u) (λb o _ _ z=>z) (gu.refl H) (.hl _ _) λb z=>z.elim;have Qi:(Z.set r (some (.own (aZ d p (.hl u))))).length=Z.length:=bN;refine⟨by rw[bo,bo,Qi,dw];rfl,mu,λi b=>if i=e.length then F1 b else if i=r then Fs r b/\¬ F1 b else Fs i b/\i < e.length,λi j b hi hj=> ?_,λi b hb=> ?_,λi β aa=> ?_⟩
 ·have hi:if i=e.length then F1 b else if i=r then Fs r b/\¬ F1 b else Fs i b/\i < e.length:=hi;have hj:if j=e.length then F1 b else if j=r then Fs r b/\¬ F1 b else Fs j b/\j < e.length:=hj;have fi:∀k,(if k=e.length then F1 b else if k=r then Fs r b/\¬ F1 b else Fs k b/\k < e.length)->(k=e.length/\F1 b)\/(k=r/\Fs r b/\¬ F1 b)\/(k≠r/\k≠e.length/\Fs k b):=λk hk=>by
   by_cases c1:k=e.length
   ·rw[if_pos c1]at hk;exact .inl ⟨c1,hk⟩
   ·rw[if_neg c1]at hk;by_cases c2:k=r
    ·rw[if_pos c2]at hk;exact .inr (.inl ⟨c2,hk⟩)
    ·rw[if_neg c2]at hk;exact .inr (.inr ⟨c2,c1,hk.1⟩)
  rcases fi i hi with⟨a1,a2⟩ | ⟨a1,a2,a3⟩ | ⟨a1,a2,a3⟩ <;> rcases fi j hj with⟨b1,b2⟩ | ⟨b1,b2,b3⟩ | ⟨b1,b2,b3⟩
  ·lia
  ·exact absurd a2 b3
  ·exact absurd (dj j r b b3 (m1 b a2)) b1
  ·exact absurd b2 a3
  ·lia
  ·exact absurd (dj j r b b3 a2) b1
  ·exact absurd (dj i r b a3 (m1 b b2)) a1
  ·exact absurd (dj i r b a3 b2) a1
  ·exact dj i j b a3 b3
 ·have hb:if i=e.length then F1 b else if i=r then Fs r b/\¬ F1 b else Fs i b/\i < e.length:=hb;by_cases c1:i=e.length
  ·rw[if_pos c1]at hb;exact sub r b (m1 b hb)
  ·rw[if_neg c1]at hb;by_cases c2:i=r
   ·rw[if_pos c2]at hb;exact sub r b hb.1
   ·rw[if_neg c2]at hb;exact sub i b hb.1
 ·have HE:∀r,r < m->(e++ [some u])[r]?=e[r]?:=λr hr=>aU (by lia);rcases slot_of (by rw[Qi];exact dw) aa with⟨hi,q⟩ | ⟨hi,q⟩
  ·by_cases c:r=i
   ·subst c;rw[gK (by lia)]at q;cases q;refine⟨vr,by rw[aU hi];exact er, ?_⟩;have n1:¬ r=e.length:=by lia
    show bg K H (λb=>if r=e.length then F1 b else if r=r then Fs r b/\¬ F1 b else _) vr _;simp only[if_neg n1,if_pos rfl];exact key.mono λb z=>z.elim (λz=>z) λz=>z.elim
   ·rw[gq c]at q;obtain⟨v,ev,sv⟩:=sl i β q;refine⟨v,by rw[aU hi];exact ev, ?_⟩;have n1:¬ i=e.length:=by lia
    have n2:¬ i=r:=λz=>c z.symm;have sv:=ox.slots sv HE;cases β with
    |own dd=>
     show bg K H (λb=>if i=e.length then F1 b else if i=r then Fs r b/\¬ F1 b else Fs i b/\i < e.length) v dd;simp only[if_neg n1,if_neg n2];exact bg.mono sv λb z=>⟨z,hi⟩
    |ro dd=>exact sv
    |aB _ _=>exact sv
  ·have:i - e.length=0:=by
    have:=(cm.mp q).1;simp at this;lia
   rw[this]at q;cases q;have ei:i=e.length:=by lia
   subst ei;refine⟨u,by rw[br (bO _),kj];rfl, ?_⟩;show bg K H (λb=>if e.length=e.length then F1 b else _) u d1;simp only[if_pos rfl];exact r1
theorem bT.put(h:bT K H U m (e++ [some u]) (Z++ [some (.own d1)]))(hl:e.length=Z.length)(hm:m<=e.length)(hr:Z[r]?=some (some (.own d0)))(g:aI d0 p=some (.hl u)):
  bT K H U m e (Z.set r (some (.own (aZ d0 p d1)))):=by
 obtain⟨dw,mu,Fs,dj,sub,sl⟩:=h;have iN:r < e.length:=by rw[hl];exact(cm.mp hr).1
 obtain⟨vr,ev,sv⟩:=sl r _ (by rw[aU (by lia)];exact hr);rw[aU iN]at ev;have sv:bg K H (Fs r) vr d0:=sv;obtain⟨u',hp⟩:=sv.path g;obtain⟨F1,m1,r1,put⟩:=sv.focus hp g;have:=r1.hole;subst this;obtain⟨u2,eu,su⟩:=sl e.length (.own d1) (by rw[hl,br (bO _),kj];rfl);rw[br (bO _),kj]at eu;have eu:some (some u')=some (some u2):=eu;cases eu;have su:bg K H (Fs e.length) u' d1:=su;have key:=put H (Fs e.length) d1 (λb o _ _ z=>z) (gu.refl H) su λb z=> .inr λw=>by have:=dj _ _ b z w;lia
 refine⟨by rw[bN];exact hl,mu,λi b=>if i=r then(Fs r b/\¬ F1 b)\/Fs e.length b else Fs i b/\i < e.length,λi j b hi hj=> ?_,λi b hb=> ?_,λi β aa=> ?_⟩
 ·have hi:if i=r then(Fs r b/\¬ F1 b)\/Fs e.length b else Fs i b/\i < e.length:=hi;have hj:if j=r then(Fs r b/\¬ F1 b)\/Fs e.length b else Fs j b/\j < e.length:=hj;by_cases c1:i=r
  ·rw[if_pos c1]at hi;by_cases c2:j=r
   ·lia
   ·rw[if_neg c2]at hj;rcases hi with hi | hi
    ·exact absurd (dj j r b hj.1 hi.1) c2
    ·have:=dj j _ b hj.1 hi;lia
  ·rw[if_neg c1]at hi;by_cases c2:j=r
   ·rw[if_pos c2]at hj;rcases hj with hj | hj
    ·exact absurd (dj i r b hi.1 hj.1) c1
    ·have:=dj i _ b hi.1 hj;lia
   ·rw[if_neg c2]at hj;exact dj i j b hi.1 hj.1
 ·have hb:if i=r then(Fs r b/\¬ F1 b)\/Fs e.length b else Fs i b/\i < e.length:=hb;by_cases c1:i=r
  ·rw[if_pos c1]at hb;rcases hb with hb | hb
   ·exact sub r b hb.1
   ·exact sub _ b hb
  ·rw[if_neg c1]at hb;exact sub i b hb.1
 ·have HE:∀r,r < m->e[r]?=(e++ [some u'])[r]?:=λr hr=>(aU (by lia)).symm;by_cases c:r=i
  ·subst c;rw[gK (by lia)]at aa;cases aa;refine⟨vr,ev, ?_⟩;show bg K H (λb=>if r=r then(Fs r b/\¬ F1 b)\/Fs e.length b else _) vr _;simp only[if_pos rfl];exact key
  ·rw[gq c]at aa;have hi:i < e.length:=by rw[hl];exact(cm.mp aa).1
   obtain⟨v,dE,dZ⟩:=sl i β (by rw[aU (by lia)];exact aa);rw[aU hi]at dE;refine⟨v,dE, ?_⟩;have n2:¬ i=r:=λz=>c z.symm;have dZ:=ox.slots dZ HE;cases β with
   |own dd=>
    show bg K H (λb=>if i=r then(Fs r b/\¬ F1 b)\/Fs e.length b else Fs i b/\i < e.length) v dd;simp only[if_neg n2];exact bg.mono dZ λb z=>⟨z,hi⟩
   |ro dd=>exact dZ
   |aB _ _=>exact dZ
end
abbrev T1:Addr->Prop:=λ_=>True
def cA(K:ah)(H H':Hp)(v:V)(d:D):Prop:=∃G:Addr->Prop,bg K H' G v d/\∀b,G b->H b=none/\iB (H' b)
section
theorem cA.sc(v:V):cA K H H' v (.sc v):=⟨λ_=>False, .sc _ _,λ_ z=>z.elim⟩
theorem cA.plain(h:Vw K H' N v d)(p:VL.plain d=true):cA K H H' v d:=⟨_,h.plain p,λ_ z=>z.elim⟩
theorem cA.vw(h:cA K H H' v d):Vw K H' T1 v d:=let ⟨_,r,_⟩:=h;r.vw
theorem cA.early(h:cA K H1 H2 v d)(s:aJ H H1):cA K H H2 v d:=by
 obtain⟨G,r,f⟩:=h;refine⟨G,r,λb z=>⟨?_,(f b z).2⟩⟩;cases q:H b with
 |none=>rfl
 |some o=>have:=(f b z).1;rw[s b o q]at this;cases this
theorem gU.same(h:gU H v p u)(s:aJ H H'):gU H' v p u:=by
 induction h with
 |nil=>exact .nil _
 |cons e1 e2 _ ih=>exact .cons (s _ _ e1) e2 ih
theorem AL(h:iB (H b))(s:aJ H H'):iB (H' b):=by
 obtain⟨o,w⟩:=rN h;rw[w]at h;rw[s b o w];exact h
theorem bT.same(h:bT K H U m e Z)(s:aJ H H'):bT K H' U m e Z:=by
 obtain⟨hl,mu,Fs,dj,sub,sl⟩:=h;refine⟨hl,λb z=>AL (mu b z) s,Fs,dj,sub,λi β aa=> ?_⟩;obtain⟨v,ev,sv⟩:=sl i β aa;refine⟨v,ev, ?_⟩;cases β with
 |own d=>exact bg.same sv s
 |ro d=>exact Vw.same sv s
 |aB r p=>obtain⟨a,vr,b,c⟩:=sv;exact⟨a,vr,b,c.same s⟩
theorem bT.push(h:bT K H U m e Z)(s:aJ H H')(hm:m<=e.length)(ow:cA K H H' v d):∃U':Addr->Prop,bT K H' U' m (e++ [some v]) (Z++ [some (.own d)])/\bH U H U' H':=by
 obtain⟨hl,mu,Fs,dj,sub,sl⟩:=h.same s;obtain⟨G,r,fr⟩:=ow;have nG:∀b,G b->¬ U b:=λb z u=>by
  obtain⟨o,w⟩:=rN (h.mu b u);rw[(fr b z).1]at w;cases w
 refine⟨λb=>U b\/G b,⟨by rw[bo,bo,hl];rfl,λb z=>z.elim (mu b) λz=>(fr b z).2,λi b=>if i=e.length then G b else Fs i b,λi j b hi hj=> ?_,λi b hb=> ?_,λi β aa=> ?_⟩,λb o q nu=>⟨s b o q,λz=>z.elim nu λz=>by rw[(fr b z).1]at q;cases q⟩⟩
 ·have hi:if i=e.length then G b else Fs i b:=hi;have hj:if j=e.length then G b else Fs j b:=hj;by_cases ci:i=e.length
  ·rw[if_pos ci]at hi;by_cases cj:j=e.length
   ·lia
   ·rw[if_neg cj]at hj;exact absurd (sub j b hj) (nG b hi)
  ·rw[if_neg ci]at hi;by_cases cj:j=e.length
   ·rw[if_pos cj]at hj;exact absurd (sub i b hi) (nG b hj)
   ·rw[if_neg cj]at hj;exact dj i j b hi hj
 ·have hb:if i=e.length then G b else Fs i b:=hb;by_cases ci:i=e.length
  ·rw[if_pos ci]at hb;exact .inr hb
  ·rw[if_neg ci]at hb;exact .inl (sub i b hb)
 ·rcases slot_of hl aa with⟨hi,q⟩ | ⟨hi,q⟩
  ·obtain⟨v',ev,sv⟩:=sl i β q;refine⟨v',by rw[aU hi];exact ev, ?_⟩;have ni:¬ i=e.length:=by lia
   have sv:=ox.slots sv (e':=e++ [some v]) λr hr=>aU (by lia);cases β with
   |own dd=>
    show bg K H' (λb=>if i=e.length then G b else Fs i b) v' dd;simp only[if_neg ni];exact sv
   |ro dd=>
    obtain⟨v2,dE,vN⟩:=h.ex.choose_spec.2.2 i _ q;rw[ev]at dE;cases dE;have vN:Vw K H (λb=>¬ U b) v' dd:=vN;exact vN.over (λb o nb q=>⟨s b o q,λz=>z.elim nb λz=>by rw[(fr b z).1]at q;cases q⟩) (gu.of s)
   |aB _ _=>exact sv
  ·have:i - e.length=0:=by
    have:=(cm.mp q).1;simp at this;lia
   rw[this]at q;cases q;have ei:i=e.length:=by lia
   subst ei;refine⟨v,by rw[br (bO _),kj];rfl, ?_⟩;show bg K H' (λb=>if e.length=e.length then G b else _) v d;simp only[if_pos rfl];exact r
theorem bT.drop(h:bT K H U m (e++t) (Z++τ))(hl:e.length=Z.length)(hm:m<=e.length):bT K H U m e Z:=by
 obtain⟨_,mu,Fs,dj,sub,sl⟩:=h;refine⟨hl,mu,Fs,dj,sub,λi β aa=> ?_⟩;have hi:=(cm.mp aa).1;obtain⟨v,ev,sv⟩:=sl i β (by rw[aU hi];exact aa);rw[aU (by lia)]at ev;exact⟨v,ev,ox.slots sv λr hr=>(aU (by lia)).symm⟩
noncomputable def eI (i:Nat) (Z:En):En:=Z.map λ
 |some (.aB r p)=>if r=i then none else some (.aB r p)
 |b=>b
theorem jZ(i:Nat)(Z:En):(eI i Z).length=Z.length:=by unfold eI;rw[bb]
theorem DH{i j:Nat}{β:B}(h:(eI i Z)[j]?=some (some β)):Z[j]?=some (some β)/\∀r p,β= .aB r p->r≠i:=by
 unfold eI at h;rw[bJ]at h;cases q:Z[j]? with
 |none=>rw[q]at h;cases h
 |some o=>
  rw[q]at h;cases o with
  |none=>cases h
  |some c=>
   cases c with
   |own d=>cases h;exact⟨rfl,λ_ _ z=>nomatch z⟩
   |ro d=>cases h;exact⟨rfl,λ_ _ z=>nomatch z⟩
   |aB r p=>
    have h:some (if r=i then none else some (B.aB r p))=some _:=h;by_cases c:r=i
    ·rw[if_pos c]at h;cases h
    ·rw[if_neg c]at h;cases h;exact⟨rfl,λr' p' z=>by cases z;exact c⟩
theorem bT.set{i:Nat}(h:bT K H U m (e++ [some v]) (Z++ [some (.own d)]))(hl:e.length=Z.length)(hm:m<=e.length)(hi:i < e.length):bT K H U m (e.set i (some v)) ((eI i Z).set i (some (.own d))):=by
 obtain⟨_,mu,Fs,dj,sub,sl⟩:=h;obtain⟨v',ev,sv⟩:=sl e.length (.own d) (by rw[hl,br (bO _),kj];rfl);rw[br (bO _),kj]at ev;cases ev;have sv:bg K H (Fs e.length) v d:=sv;refine⟨by rw[bN,bN,jZ];exact hl,mu,λj b=>if j=i then Fs e.length b else Fs j b/\j < e.length,λj k b hj hk=> ?_,λj b hb=> ?_,λj β aa=> ?_⟩
 ·have hj:if j=i then Fs e.length b else Fs j b/\j < e.length:=hj;have hk:if k=i then Fs e.length b else Fs k b/\k < e.length:=hk;by_cases cj:j=i
  ·rw[if_pos cj]at hj;by_cases ck:k=i
   ·lia
   ·rw[if_neg ck]at hk;have:=dj _ _ b hj hk.1;lia
  ·rw[if_neg cj]at hj;by_cases ck:k=i
   ·rw[if_pos ck]at hk;have:=dj _ _ b hj.1 hk;lia
   ·rw[if_neg ck]at hk;exact dj _ _ b hj.1 hk.1
 ·have hb:if j=i then Fs e.length b else Fs j b/\j < e.length:=hb;by_cases cj:j=i
  ·rw[if_pos cj]at hb;exact sub _ b hb
  ·rw[if_neg cj]at hb;exact sub _ b hb.1
 ·by_cases cj:i=j
  ·subst cj;rw[gK (by rw[jZ];lia)]at aa;cases aa;refine⟨v,gK hi, ?_⟩;show bg K H (λb=>if i=i then Fs e.length b else _) v d;simp only[if_pos rfl];exact sv
  ·rw[gq cj]at aa;obtain⟨q1,q2⟩:=DH aa;have hj:j < e.length:=by rw[hl];exact(cm.mp q1).1
   obtain⟨v2,dE,dZ⟩:=sl j β (by rw[aU (by lia)];exact q1);rw[aU hj]at dE;refine⟨v2,by rw[gq cj];exact dE, ?_⟩;have nj:¬ j=i:=λz=>cj z.symm;cases β with
   |own dd=>
    show bg K H (λb=>if j=i then Fs e.length b else Fs j b/\j < e.length) v2 dd;simp only[if_neg nj];exact bg.mono dZ λb z=>⟨z,hj⟩
   |ro dd=>exact dZ
   |aB r p=>
    obtain⟨a,vr,b,c⟩:=dZ;rw[aU (by lia)]at b;exact⟨a,vr,by rw[gq λz=>q2 r p rfl z.symm];exact b,c⟩
theorem bT.bind{i:Nat}{β:B}(h:bT K H U m e Z)(hi:i < e.length)(hb:match β with | .own _=>False | .ro d=>Vw K H (λb=>¬ U b) v d | .aB r p=>r < m/\r≠i/\∃vr,e[r]?=some (some vr)/\gU H vr p v):
  bT K H U m (e.set i (some v)) ((eI i Z).set i (some β)):=by
 obtain⟨hl,mu,Fs,dj,sub,sl⟩:=h;refine⟨by rw[bN,bN,jZ];exact hl,mu,Fs,dj,sub,λj γ cH=> ?_⟩;by_cases cj:i=j
 ·subst cj;rw[gK (by rw[jZ];lia)]at cH;cases cH;refine⟨v,gK hi, ?_⟩;cases β with
  |own d=>exact hb.elim
  |ro d=>exact hb
  |aB r p=>
   obtain⟨a,b,vr,c,q⟩:=hb;exact⟨a,vr,by rw[gq λz=>b z.symm];exact c,q⟩
 ·rw[gq cj]at cH;obtain⟨q1,q2⟩:=DH cH;obtain⟨v2,dE,dZ⟩:=sl j γ q1;refine⟨v2,by rw[gq cj];exact dE, ?_⟩;cases γ with
  |own dd=>exact dZ
  |ro dd=>exact dZ
  |aB r p=>
   obtain⟨a,vr,b,c⟩:=dZ;exact⟨a,vr,by rw[gq λz=>q2 r p rfl z.symm];exact b,c⟩
end
structure av(K:ah)(n:Nat)(H:Hp)(U:Addr->Prop)(σ hv:List (Option V))(Z:En)(τv:List V)(τd:List D):Prop where
 ok:bT K H U Z.length (σ++hv++τv.map some) (Z++τd.map λd=>some (.own d))
 len:σ.length + hv.length=Z.length
 nn:σ.length=n
inductive Fl where
 |nx (Z:En) | rt (d:D) (Z:En) | bk (Z:En) | ct (Z:En)
def qu(K:ah)(n:Nat)(H:Hp)(U:Addr->Prop)(hv:List (Option V))(τv:List V)(τd:List D)(E:ke):Fl->Prop
 |.nx ρ'=>∀aF H' U',av K n H' U' aF hv ρ' τv τd->bH U H U' H'->E.nx aF H'
 |.rt d ρ'=>∀v aF H' U',av K n H' U' aF hv ρ' (τv++ [v]) (τd++ [d])->bH U H U' H'->E.rt v H'
 |.bk ρ'=>∀aF H' U',av K n H' U' aF hv ρ' τv τd->bH U H U' H'->E.bk aF H'
 |.ct ρ'=>∀aF H' U',av K n H' U' aF hv ρ' τv τd->bH U H U' H'->E.ct aF H'
class SV(K:ah)(n:Nat)(t:TE)(f:outParam (En->Option D)):Prop where
 s:∀{σ hv:List (Option V)} {H:Hp} {U:Addr->Prop} {Z:En} {τv:List V} {τd:List D} {d:D} {Q:VK},av K n H U σ hv Z τv τd->f Z=some d->(∀v H',aJ H H'->Vw K H' T1 v d->Q v H')->t σ H Q
class SF(K:ah)(n:Nat)(t:TE)(f:outParam (En->Option D)):Prop where
 s:∀{σ hv:List (Option V)} {H:Hp} {U:Addr->Prop} {Z:En} {τv:List V} {τd:List D} {d:D} {Q:VK},av K n H U σ hv Z τv τd->f Z=some d->(∀v H',aJ H H'->cA K H H' v d->Q v H')->t σ H Q
class SM(K:ah)(n:Nat)(t:TE)(f:outParam (En->Option (D×En))):Prop where
 s:∀{σ hv:List (Option V)} {H:Hp} {U:Addr->Prop} {Z ρ':En} {τv:List V} {τd:List D} {d:D} {Q:VK},av K n H U σ hv Z τv τd->f Z=some (d,ρ')->
  (∀v H' U',av K n H' U' σ hv ρ' (τv++ [v]) (τd++ [d])->bH U H U' H'->Q v H')->t σ H Q
inductive Pl where
 |rt (r:Nat) (p:List Nat) | ro (d:D)
def iH(K:ah)(H:Hp)(U:Addr->Prop)(e:List (Option V))(Z:En)(v:V):Pl->Prop
 |.rt r p=>r < Z.length/\∃vr d,e[r]?=some (some vr)/\aV Z r=some d/\(aI d p).isSome=true/\gU H vr p v
 |.ro d=>Vw K H (λb=>¬ U b) v d
class SP(K:ah)(n:Nat)(t:TE)(f:outParam (En->Option Pl)):Prop where
 s:∀{σ hv:List (Option V)} {H:Hp} {U:Addr->Prop} {Z:En} {τv:List V} {τd:List D} {q:Pl} {Q:VK},av K n H U σ hv Z τv τd->f Z=some q->(∀v H',aJ H H'->iH K H' U (σ++hv) Z v q->Q v H')->t σ H Q
class kc(K:ah)(n:Nat)(t:TT)(f:outParam (En->Option Bool)):Prop where
 s:∀{σ hv:List (Option V)} {H:Hp} {U:Addr->Prop} {Z:En} {τv:List V} {τd:List D} {b:Bool} {Q:Bool->Hp->Prop},av K n H U σ hv Z τv τd->f Z=some b->(∀H',aJ H H'->Q b H')->t σ H Q
class ST(K:ah)(n:Nat)(t:TT)(f:outParam (En->Option (Bool×En))):Prop where
 s:∀{σ hv:List (Option V)} {H:Hp} {U:Addr->Prop} {Z ρ':En} {τv:List V} {τd:List D} {b:Bool} {Q:Bool->Hp->Prop},av K n H U σ hv Z τv τd->f Z=some (b,ρ')->
  (∀H' U',av K n H' U' σ hv ρ' τv τd->bH U H U' H'->Q b H')->t σ H Q
def cv(K:ah)(H:Hp)(N:Addr->Prop)(vs:List V)(ds:List D):Prop:=vs.length=ds.length/\∀(i:Nat) (v:V) (d:D),vs[i]?=some v->ds[i]?=some d->Vw K H N v d
class SA(K:ah)(n:Nat)(t:TA)(f:outParam (En->Option (List D))):Prop where
 s:∀{σ hv:List (Option V)} {H:Hp} {U:Addr->Prop} {Z:En} {τv:List V} {τd:List D} {ds:List D} {Q:List V->Hp->Prop},av K n H U σ hv Z τv τd->f Z=some ds->(∀vs H',aJ H H'->cv K H' T1 vs ds->Q vs H')->t σ H Q
class qv(K:ah)(n:Nat)(t:TA)(f:outParam (En->Option (List D×En))):Prop where
 s:∀{σ hv:List (Option V)} {H:Hp} {U:Addr->Prop} {Z ρ':En} {τv:List V} {τd:List D} {ds:List D} {Q:List V->Hp->Prop},av K n H U σ hv Z τv τd->f Z=some (ds,ρ')->
  (∀vs H' U',vs.length=ds.length->av K n H' U' σ hv ρ' (τv++vs) (τd++ds)->bH U H U' H'->Q vs H')->t σ H Q
class SS(K:ah)(n:Nat)(t:TS)(f:outParam (En->Option Fl)):Prop where
 s:∀{σ hv:List (Option V)} {H:Hp} {U:Addr->Prop} {Z:En} {τv:List V} {τd:List D} {fl:Fl} {E:ke},av K n H U σ hv Z τv τd->f Z=some fl->qu K n H U hv τv τd E fl->t E σ H
section
theorem av.same(h:av K n H U σ hv Z τv τd)(s:aJ H H'):av K n H' U σ hv Z τv τd:=⟨h.ok.same s,h.len,h.nn⟩
theorem av.push(h:av K n H U σ hv Z τv τd)(s:aJ H H')(o:cA K H H' v d):∃U',av K n H' U' σ hv Z (τv++ [v]) (τd++ [d])/\bH U H U' H':=by
 obtain⟨U',k,st⟩:=h.ok.push s (by have:=h.len;simp;lia) o;refine⟨U',⟨?_,h.len,h.nn⟩,st⟩;rw[cK,cK, <- b8, <- b8];exact k
theorem av.drop(h:av K n H U σ hv Z (τv++vs) (τd++ds))(hl:vs.length=ds.length):av K n H U σ hv Z τv τd:=by
 refine⟨?_,h.len,h.nn⟩;have k:=h.ok;have e:=k.len;have l:=h.len;rw[cK,cK, <- b8, <- b8]at k;refine k.drop ?_ (by simp;lia);simp at e |-
 lia
theorem av.qw(h:av K n H U σ hv Z (τv++ [v]) (τd++ [d])):av K n H U σ hv Z τv τd:=h.drop (vs:= [v]) (ds:= [d]) rfl
theorem av.tl(h:av K n H U σ hv Z τv τd):τv.length=τd.length:=by
 have e:=h.ok.len;have l:=h.len;simp at e
 lia
theorem av.last(h:av K n H U σ hv Z (τv++ [v]) (τd++ [d])):Vw K H T1 v d:=by
 have tl:=h.tl;have l:=h.len;obtain⟨_,mu,Fs,dj,sub,sl⟩:=h.ok;obtain⟨v',ev,sv⟩:=sl (Z.length + τd.length) (.own d) (by simp);have:v'=v:=by
  have e2:(σ++hv++(τv++ [v]).map some)[Z.length + τd.length]?=some (some v):=by
   rw[br (by simp;lia)];simp at tl |-;rw[show Z.length + τd.length - (σ.length + hv.length)=τv.length by lia];simp
  rw[e2]at ev;cases ev;rfl
 subst this;exact bg.vw sv
end
class jC(i n:Nat):Prop where
 h:i < n
instance:jC 0 (n + 1):=⟨Nat.succ_pos n⟩
instance [h:jC i n]:jC (i + 1) (n + 1):=⟨V4 h.h⟩
section
instance (priority:=100) ai6{t:TE}{f:En->Option D}[S:SF K n t f]:SV K n t f:=⟨λI h k=>S.s I h λv H' s o=>k v H' s o.vw⟩
instance (priority:=200) ai7{t:TE}{f:En->Option D}[S:SF K n t f]:SM K n t (λZ=>(f Z).map λd=>(d,Z)):=⟨λ{σ hv H U Z ρ' τv τd d Q} I h k=>by
 obtain⟨d',h1,h2⟩:=aY.mp h;cases h2;refine S.s I h1 λv H' s o=> ?_;obtain⟨U',I',st⟩:=I.push s o;exact k v H' U' I' st⟩
def gm(f:En->Option D)(Z:En):Option (D×En):=(f Z).bind λd=>if plain d=true then some (d,Z) else none
instance (priority:=90) ai8{t:TE}{f:En->Option D}[S:SV K n t f]:SM K n t (gm f):=⟨λ{σ hv H U Z ρ' τv τd d Q} I h k=>by
 obtain⟨d',h1,h2⟩:=ak.mp h;by_cases p:plain d'=true
 ·rw[if_pos p]at h2;cases h2;refine S.s I h1 λv H' s w=> ?_;obtain⟨U',I',st⟩:=I.push s (cA.plain w p);exact k v H' U' I' st
 ·rw[if_neg p]at h2;cases h2⟩
instance (priority:=100) ai9{t:TT}{f:En->Option Bool}[S:kc K n t f]:ST K n t (λZ=>(f Z).map λb=>(b,Z)):=⟨λ{σ hv H U Z ρ' τv τd b Q} I h k=>by
 obtain⟨b',h1,h2⟩:=aY.mp h;cases h2;refine S.s I h1 λH' s=>k H' U (I.same s) λb o q nu=>⟨s b o q,nu⟩⟩
def bD(Z:En):Option B->Option D
 |some (.own d)=>some d
 |some (.ro d)=>some d
 |some (.aB r p)=>(aV Z r).bind (aI · p)
 |none=>none
def af(i:Nat)(Z:En):Option D:=(Z[i]?).bind (bD Z)
theorem av.slot{i:Nat}{β:B}(I:av K n H U σ hv Z τv τd)(h:Z[i]?=some (some β)):∃v F,(σ++hv)[i]?=some (some v)/\(∀b,F b->U b)/\ox K H U F Z.length (σ++hv) v β:=by
 have l:=I.len;have hi:=(cm.mp h).1;obtain⟨_,mu,Fs,dj,sub,sl⟩:=I.ok;obtain⟨v,ev,sv⟩:=sl i β (by grind);rw[aU (by grind)]at ev;exact⟨v,Fs i,ev,sub i,ox.slots sv λr hr=>(aU (by grind)).symm⟩
theorem av.name(I:av K n H U σ hv Z τv τd)(hi:i < n):(σ++hv)[i]?=σ[i]?:=aU (by rw[I.nn];exact hi)
theorem av.AM{r:Nat}(I:av K n H U σ hv Z τv τd)(h:aV Z r=some d):∃v F,(σ++hv)[r]?=some (some v)/\(∀b,F b->U b)/\bg K H F v d:=by
 obtain⟨v,F,a,b,c⟩:=I.slot (kS h);exact⟨v,F,a,b,c⟩
def gp(Z:En):Pl->Option D
 |.rt r p=>(aV Z r).bind (aI · p)
 |.ro d=>some d
theorem av.at(I:av K n H U σ hv Z τv τd)(h:iH K H U (σ++hv) Z v q)(hd:gp Z q=some d):Vw K H T1 v d:=by
 cases q with
 |ro d'=>cases hd;exact h.any
 |rt r p=>
  obtain⟨_,vr,d0,er,hr,_,hp⟩:=h;have hd:(aV Z r).bind _=some d:=hd;rw[hr]at hd;obtain⟨v',F,ev,_,rp⟩:=I.AM hr;rw[er]at ev;cases ev;exact rp.sub hd hp λ_ _=>trivial
instance Z5{i:Nat}[L:jC i n]:SV K n (f9 i) (af i):=⟨λ{σ hv H U Z τv τd d Q} I h k=>by
 obtain⟨o,h1,h2⟩:=ak.mp h;cases o with
 |none=>cases h2
 |some β=>
  obtain⟨v,F,ev,sub,sv⟩:=I.slot h1;rw[I.name L.h]at ev;refine⟨v,ev,k v H (aJ.refl H) ?_⟩;cases β with
  |own d'=>cases h2;exact bg.vw sv
  |ro d'=>cases h2;exact Vw.any sv
  |aB r p=>
   obtain⟨d0,hr,g⟩:=ak.mp h2;obtain⟨_,vr,er,hp⟩:=sv;obtain⟨v',F',ij,_,rp⟩:=I.AM hr;rw[er]at ij;cases ij;exact rp.sub g hp λ_ _=>trivial⟩
def aT(i:Nat)(Z:En):Option Pl:=match Z[i]? with
 |some (some (.own _))=>some (.rt i [])
 |some (some (.ro d))=>some (.ro d)
 |some (some (.aB r p))=>if((aV Z r).bind (aI · p)).isSome=true then some (.rt r p) else none
 |_=>none
instance aja{i:Nat}[L:jC i n]:SP K n (f9 i) (aT i):=⟨λ{σ hv H U Z τv τd q Q} I h k=>by
 unfold aT at h
 split at h
 ·next d e1=>
  cases h;obtain⟨v,F,ev,sub,sv⟩:=I.slot e1;have ij:=ev;rw[I.name L.h]at ev;have hr:aV Z i=some d:=by unfold aV;rw[e1]
  exact⟨v,ev,k v H (aJ.refl H) ⟨(cm.mp e1).1,v,d,ij,hr,rfl, .nil v⟩⟩
 ·next d e1=>
  cases h;obtain⟨v,F,ev,sub,sv⟩:=I.slot e1;rw[I.name L.h]at ev;exact⟨v,ev,k v H (aJ.refl H) sv⟩
 ·next r p e1=>
  by_cases c:((aV Z r).bind (aI · p)).isSome=true
  ·rw[if_pos c]at h;cases h;obtain⟨v,F,ev,sub,sv⟩:=I.slot e1;rw[I.name L.h]at ev;obtain⟨hr,vr,er,hp⟩:=sv;cases hd:aV Z r with
   |none=>rw[hd]at c;cases c
   |some d0=>
    rw[hd]at c;exact⟨v,ev,k v H (aJ.refl H) ⟨hr,vr,d0,er,hd,c,hp⟩⟩
  ·rw[if_neg c]at h;cases h
 ·cases h⟩
instance ajb{v:V}:SF K n (tC v) (λ_=>some (.sc v)):=⟨λI h k=>by cases h;exact k v _ (aJ.refl _) (.sc v)⟩
class jD(K:ah)(r:R2)(g:outParam (D->D->Option D)):Prop where
 s:∀{H:Hp} {x y:V} {dx dy d:D} {Q:VK},Vw K H T1 x dx->Vw K H T1 y dy->g dx dy=some d->(∀v H',aJ H H'->cA K H H' v d->Q v H')->r x y H Q
noncomputable def au (g:D->D->Option D) (fa fb:En->Option D) (Z:En):Option D:=(fa Z).bind λa=>(fb Z).bind λb=>g a b
instance ajc[A:SV K n ta fa][B':SV K n tb fb][O:jD K r g]:SF K n (ig r ta tb) (au g fa fb):=⟨λ{σ hv H U Z τv τd d Q} I h k=>by
 obtain⟨a,ha,h⟩:=ak.mp h;obtain⟨b,hb,h⟩:=ak.mp h;refine A.s I ha λx H1 s1 w1=> ?_;refine B'.s (I.same s1) hb λy H2 s2 w2=> ?_;exact O.s (w1.same s2) w2 h λv H3 s3 o=>k v H3 (s1.trans (s2.trans s3)) (o.early (s1.trans s2))⟩
noncomputable def hZ (g:D->D->Option D) (fa fb:En->Option (D×En)) (Z:En):Option (D×En):=(fa Z).bind λa=>(fb a.2).bind λb=>(g a.1 b.1).map λd=>(d,b.2)
theorem av.two(I:av K n H U σ hv Z (τv++ [v1]++ [v2]) (τd++ [d1]++ [d2])):Vw K H T1 v1 d1/\Vw K H T1 v2 d2:=⟨I.qw.last,I.last⟩
instance (priority:=80) Z6{r:R2}{ta tb:TE}{fa fb:En->Option (D×En)}{g:D->D->Option D}[A:SM K n ta fa][B':SM K n tb fb][O:jD K r g]:SM K n (ig r ta tb) (hZ g fa fb):=⟨λ{σ hv H U Z ρ' τv τd d Q} I h k=>by
 obtain⟨⟨a,ρ1⟩,ha,h⟩:=ak.mp h;obtain⟨⟨b,ag⟩,hb,h⟩:=ak.mp h;obtain⟨d',hg,h⟩:=aY.mp h;cases h;refine A.s I ha λx H1 U1 I1 bQ=> ?_;refine B'.s I1 hb λy H2 U2 I2 dJ=> ?_;refine O.s I2.two.1 I2.two.2 hg λv H3 s3 o=> ?_;obtain⟨U3,I3,gZ⟩:=(I2.qw.qw).push s3 o;exact k v H3 U3 I3 (bQ.trans (dJ.trans gZ))⟩
class Qj(K:ah)(r:V->Hp->VK->Prop)(g:outParam (D->Option D)):Prop where
 s:∀{H:Hp} {x:V} {dx d:D} {Q:VK},Vw K H T1 x dx->g dx=some d->(∀v H',aJ H H'->cA K H H' v d->Q v H')->r x H Q
instance ajd[A:SV K n ta fa][O:Qj K r g]:SF K n (Oz r ta) (λZ=>(fa Z).bind g):=⟨λ{σ hv H U Z τv τd d Q} I h k=>by
 obtain⟨a,ha,h⟩:=ak.mp h;refine A.s I ha λx H1 s1 w1=> ?_;exact O.s w1 h λv H3 s3 o=>k v H3 (s1.trans s3) (o.early s1)⟩
instance aje:SA K n fz (λ_=>some []):=⟨λI h k=>by cases h;exact k [] _ (aJ.refl _) ⟨rfl,λi v d hv=>by simp at hv⟩⟩
noncomputable def ar (fa:En->Option D) (fr:En->Option (List D)) (Z:En):Option (List D):=(fa Z).bind λa=>(fr Z).map (a:: ·)
theorem cv.cons(h:Vw K H N v d)(t:cv K H N vs ds):cv K H N (v::vs) (d::ds):=⟨by rw[c8,c8,t.1],λi x y hx hy=>by
 cases i with
 |zero=>cases hx;cases hy;exact h
 |succ i=>exact t.2 i x y (by simpa using hx) (by simpa using hy)⟩
instance ajf[A:SV K n ta fa][R:SA K n tr fr]:SA K n (di ta tr) (ar fa fr):=⟨λ{σ hv H U Z τv τd ds Q} I h k=>by
 obtain⟨a,ha,h⟩:=ak.mp h;obtain⟨r,hr,h⟩:=aY.mp h;cases h;refine A.s I ha λx H1 s1 w1=> ?_;exact R.s (I.same s1) hr λxs H2 s2 w2=>k _ H2 (s1.trans s2) (.cons (w1.same s2) w2)⟩
instance ajg:qv K n fz (λZ=>some ([],Z)):=⟨λ{σ hv H U Z ρ' τv τd ds Q} I h k=>by cases h;exact k [] H U rfl (by grind) (bH.refl U H)⟩
noncomputable def eJ (fa:En->Option (D×En)) (fr:En->Option (List D×En)) (Z:En):Option (List D×En):=(fa Z).bind λa=>(fr a.2).map λr=>(a.1::r.1,r.2)
instance ajh[A:SM K n ta fa][R:qv K n tr fr]:qv K n (di ta tr) (eJ fa fr):=⟨λ{σ hv H U Z ρ' τv τd ds Q} I h k=>by
 obtain⟨⟨a,ρ1⟩,ha,h⟩:=ak.mp h;obtain⟨⟨r,ag⟩,hr,h⟩:=aY.mp h;cases h;refine A.s I ha λx H1 U1 I1 bQ=> ?_;refine R.s I1 hr λxs H2 U2 hl I2 dJ=> ?_;refine k _ H2 U2 (by grind) ?_ (bQ.trans dJ);rw[sM,sM τd];exact I2⟩
theorem sA{α β:Type}{vs:List α}{ds:List β}{i:Nat}{d:β}(h:vs.length=ds.length)(hd:ds[i]?=some d):∃v,vs[i]?=some v:=⟨_,dH (by rw[h];exact(cm.mp hd).1)⟩
theorem av.gather{k:Kd}{o:HO}(I:av K n H U σ hv Z (τv++vs) (τd++ds))(hl:vs.length=ds.length)(hp:H p=none)
  (hold:(cg k=true/\k= .tup/\o= .tup vs)\/(cg k=false/\fits K k vs.length/\∃dx,o=ho k dx vs)):
  ∃U',av K n (cf H p o) U' σ hv Z (τv++ [.ref p]) (τd++ [.nd k ds])/\bH U H U' (cf H p o):=by
 have l:=I.len;have s:aJ H (cf H p o):=λb u q=>by rw[ba (gM q hp)];exact q
 have tl:=I.tl;obtain⟨he,mu,Fs,dj,sub,sl⟩:=I.ok.same s;have np:∀i,¬ Fs i p:=λi z=>by
  obtain⟨u,w⟩:=rN (I.ok.mu p (sub i p z));rw[hp]at w;cases w
 have base:(σ++hv++τv.map some).length=Z.length + τd.length:=by simp at tl |-;lia
 have Z7:cg k=false->iB (cf H p o p):=λhk=>by
  rcases hold with⟨z,_⟩ | ⟨_,z,dx,w⟩
  ·rw[hk]at z;cases z
  ·rw[de,w];have:qt K (cf H p o) p k vs:=⟨hk,z,dx,by rw[de,w]⟩
   have:=this.mu;rw[de,w]at this;exact this
 refine⟨λb=>U b\/(cg k=false/\b=p),⟨⟨by simp at tl |-;lia,λb z=> ?_,λi b=>if i=Z.length + τd.length then(∃j,Z.length + τd.length<=j/\Fs j b)\/(cg k=false/\b=p) else Fs i b/\i < Z.length + τd.length,λi j b hi hj=> ?_,λi b hb=> ?_,λi β aa=> ?_⟩,l,I.nn⟩,λb u q nu=>⟨s b u q,λz=>z.elim nu λ⟨_,z⟩=>by rw[z,hp]at q;cases q⟩⟩
 ·rcases z with z | ⟨z,w⟩
  ·exact mu b z
  ·rw[w];exact Z7 z
 ·have hi:if i=Z.length + τd.length then(∃j,Z.length + τd.length<=j/\Fs j b)\/(cg k=false/\b=p) else Fs i b/\i < Z.length + τd.length:=hi;have hj:=hj;by_cases ci:i=Z.length + τd.length
  ·rw[if_pos ci]at hi;by_cases cj:j=Z.length + τd.length
   ·lia
   ·rw[if_neg cj]at hj;rcases hi with⟨x,hx,hi⟩ | ⟨_,hi⟩
    ·have:=dj _ _ b hi hj.1;lia
    ·rw[hi]at hj;exact absurd hj.1 (np j)
  ·rw[if_neg ci]at hi;by_cases cj:j=Z.length + τd.length
   ·rw[if_pos cj]at hj;rcases hj with⟨x,hx,hj⟩ | ⟨_,hj⟩
    ·have:=dj _ _ b hi.1 hj;lia
    ·rw[hj]at hi;exact absurd hi.1 (np i)
   ·rw[if_neg cj]at hj;exact dj _ _ b hi.1 hj.1
 ·have hb:if i=Z.length + τd.length then(∃j,Z.length + τd.length<=j/\Fs j b)\/(cg k=false/\b=p) else Fs i b/\i < Z.length + τd.length:=hb;by_cases ci:i=Z.length + τd.length
  ·rw[if_pos ci]at hb;rcases hb with⟨x,_,hb⟩ | hb
   ·exact .inl (sub x b hb)
   ·exact .inr hb
  ·rw[if_neg ci]at hb;exact .inl (sub i b hb.1)
 ·have AK:((Z++τd.map λd=>some (B.own d))++ [some (.own (.nd k ds))])[i]?=some (some β):=by
   rw[cK, <- b8]at aa;exact aa
  have HF:(σ++hv++τv.map some).length=(Z++τd.map λd=>some (B.own d)).length:=by rw[base];simp
  have Qk:∀{i:Nat} (hi:i < (σ++hv++τv.map some).length) {x:V},(σ++hv++(τv++ [x]).map some)[i]?=(σ++hv++τv.map some)[i]?:=λ{i} hi {x}=>by
   rw[cK, <- b8,aU hi]
  have HG:∀{i:Nat} (hi:i < (σ++hv++τv.map some).length),(σ++hv++(τv++vs).map some)[i]?=(σ++hv++τv.map some)[i]?:=λ{i} hi=>by
   rw[cK, <- b8,aU hi]
  rcases slot_of HF AK with⟨hi,q⟩ | ⟨hi,q⟩
  ·obtain⟨v',ev,sv⟩:=sl i β (by rw[cK, <- b8,aU (by rw[<- HF];exact hi)];exact q);rw[HG hi]at ev;refine⟨v',by rw[Qk hi];exact ev, ?_⟩;have ni:¬ i=Z.length + τd.length:=by lia
   have sv:=ox.slots sv (e':=σ++hv++(τv++ [V.ref p]).map some) λr hr=>by rw[Qk (by lia),HG (by lia)]
   cases β with
   |own dd=>
    simp only[if_neg ni];exact bg.mono sv λb z=>⟨z,by lia⟩
   |ro dd=>
    obtain⟨v2,dE,vN⟩:=I.ok.ex.choose_spec.2.2 i _ (by rw[cK, <- b8,aU (by rw[<- HF];exact hi)];exact q);rw[HG hi,ev]at dE;cases dE;have vN:Vw K H (λb=>¬ U b) v' dd:=vN;exact vN.over (λb o nb q=>⟨s b o q,λz=>z.elim nb λ⟨_,z⟩=>by rw[z,hp]at q;cases q⟩) (gu.of s)
   |aB _ _=>exact sv
  ·have e0:i - (σ++hv++τv.map some).length=0:=by
    have:=(cm.mp q).1;simp at this |-;lia
   rw[e0]at q;cases q;have ei:i=Z.length + τd.length:=by lia
   subst ei;refine⟨.ref p,by rw[cK, <- b8,br (by lia),base,kj];rfl, ?_⟩;have bB:∀(j:Nat) (v:V) (d:D),vs[j]?=some v->ds[j]?=some d->bg K (cf H p o) (Fs (Z.length + τd.length + j)) v d:=λj v d hv hd=>by
    obtain⟨v',ev,sv⟩:=sl (Z.length + τd.length + j) (.own d) (by
     rw[cK, <- b8,br (by simp),bJ];simp[hd])
    have:v'=v:=by
     rw[cK, <- b8,br (by lia),base]at ev;simp[hv]at ev;exact ev.symm
    subst this;exact sv
   simp only[if_pos rfl];refine .nd (λj=>Fs (Z.length + τd.length + j)) ?_ hl (λi j b hi hj=>by have:=dj _ _ b hi hj;lia) (λj b hb=>⟨.inl ⟨_,by lia,hb⟩,λ_ z=>by rw[z]at hb;exact np _ hb⟩) bB;rcases hold with⟨_,h1,h2⟩ | ⟨h1,h2,dx,h3⟩
   ·subst h1;show cf H p o p=some (.tup vs);rw[de,h2]
   ·exact jB.put h1 (.inr ⟨h1,rfl⟩) ⟨h1,h2,dx,by rw[de,h3]⟩
noncomputable def kU (f:En->Option (List D×En)) (Z:En):Option (D×En):=(f Z).bind λr=>if r.1.length<=aM then some (.nd .tup r.1,r.2) else none
noncomputable def ju (f:En->Option (List D×En)) (Z:En):Option (D×En):=(f Z).bind λr=>if r.1.length<=aM then some (.nd .lst r.1,r.2) else none
instance (priority:=300) aji{ta:TA}{fa:En->Option (List D×En)}[A:qv K n ta fa]:SM K n (Ai ta) (kU fa):=⟨λ{σ hv H U Z ρ' τv τd d Q} I h k=>by
 obtain⟨⟨a,ρ1⟩,ha,h⟩:=ak.mp h;by_cases c:a.length<=aM
 ·rw[if_pos c]at h;cases h;refine A.s I ha λxs H1 U1 hl I1 bQ=>⟨by rw[hl];exact c,λp hp=> ?_⟩
  obtain⟨U2,I2,dJ⟩:=I1.gather hl hp (.inl ⟨rfl,rfl,rfl⟩);exact k _ _ U2 I2 (bQ.trans dJ)
 ·rw[if_neg c]at h;cases h⟩
instance (priority:=300) ajj{ta:TA}{fa:En->Option (List D×En)}[A:qv K n ta fa]:SM K n (vn ta) (ju fa):=⟨λ{σ hv H U Z ρ' τv τd d Q} I h k=>by
 obtain⟨⟨a,ρ1⟩,ha,h⟩:=ak.mp h;by_cases c:a.length<=aM
 ·rw[if_pos c]at h;cases h;refine A.s I ha λxs H1 U1 hl I1 bQ=>⟨by rw[hl];exact c,λp hp=> ?_⟩
  obtain⟨U2,I2,dJ⟩:=I1.gather (k:= .lst) hl hp (.inr ⟨rfl,trivial,0,rfl⟩);exact k _ _ U2 I2 (bQ.trans dJ)
 ·rw[if_neg c]at h;cases h⟩
variable {Z ρ' ag:En}{v:V}{d:D}
noncomputable def bU (ds:List D):En:=ds.map λd=>some (.own d)
theorem Z8(ds:List D):Qf (bU ds):=λb hb=>by
 obtain⟨d,_,rfl⟩:=gY.mp hb;exact .inr ⟨d,rfl⟩
theorem vO(ds:List D):AI (bU ds):=λb hb r p=>by
 obtain⟨d,_,rfl⟩:=gY.mp hb;exact λz=>nomatch z
theorem bT.weaken(h:bT K H U m e ag)(hl:Z.length=ag.length)(w:∀(i:Nat) (β:B),Z[i]?=some (some β)->ag[i]?=some (some β)):bT K H U m e Z:=by
 obtain⟨a,mu,Fs,dj,sub,sl⟩:=h;exact⟨a.trans hl.symm,mu,Fs,dj,sub,λi β aa=>sl i β (w i β aa)⟩
theorem vP(h:iB (H a)):gu H (cf H a o):=λb u nm q=>by
 have:b≠a:=λz=>by subst z;rw[q]at h;exact nm h
 rw[ba this];exact q
theorem Ql{a:Addr}(hk:cg k=false):iB (some (ho k dx vs)):=by
 cases k with
 |tup=>cases hk
 |e8=>cases hk
 |lst=>trivial
 |aO ks=>trivial
 |lM ks=>trivial
 |obj C ns=>trivial
theorem bT.edit(h:bT K H U 0 (xs.map some++ [some v]) (bU ds++ [some (.own (.nd k cs))]))(hl:xs.length=ds.length)(hk:cg k=false):
  ∃(a dx:Addr) (vs:List V),v= .ref a/\H a=some (ho k dx vs)/\fits K k vs.length/\vs.length=cs.length/\cv K H T1 vs cs/\∀(k':Kd) (cC:List V) (fU:List D) (π:Nat->Nat),cg k'=false->fits K k' cC.length->cC.length=fU.length->
   (∀i j,i < cC.length->j < cC.length->π i=π j->i=j)->(∀(i:Nat) (x:V),cC[i]?=some x->(vs++xs)[π i]?=some x)->(∀(i:Nat) (y:D),fU[i]?=some y->(cs++ds)[π i]?=some y)->
   bT K (cf H a (ho k' dx cC)) U 0 [some v] [some (.own (.nd k' fU))]/\bH U H U (cf H a (ho k' dx cC)):=by
 obtain⟨dw,mu,Fs,dj,sub,sl⟩:=h;have lo:(bU ds).length=xs.length:=by unfold bU;rw[bb,hl]
 obtain⟨v',ev,sv⟩:=sl xs.length (.own (.nd k cs)) (by rw[br (by lia),lo,kj];rfl);rw[br (by simp)]at ev;have:v'=v:=by simp at ev;exact ev.symm
 subst this;have sv:bg K H (Fs xs.length) v' (.nd k cs):=sv;obtain⟨a,vs,rfl,h1,h2,Gs,g3,g4,g5⟩:=sv.node;obtain⟨Fa,_,hf,dx,ha⟩:=h1.own hk;have Z9:∀i,¬ Gs i a:=λi z=>(g4 i a z).2 hk rfl;refine⟨a,dx,vs,rfl,ha,hf,h2,⟨h2,λi v d hv hd=>(g5 i v d hv hd).vw⟩,λk' cC fU π rO oy oz inj iV qY=> ?_⟩;have aaa:iB (H a):=mu a (sub _ a Fa);have st:gu H (cf H a (ho k' dx cC)):=vP aaa;have keep:∀b u,b≠a->H b=some u->cf H a (ho k' dx cC) b=some u:=λb u ne q=>by rw[ba ne];exact q
 -- the ajk of what comes from place j
 let Fp:Nat->Addr->Prop:=λj=>if j < cs.length then Gs j else λb=>Fs (j - cs.length) b/\j - cs.length < xs.length
 have Qm:∀j,j < cs.length->Fp j=Gs j:=λj hj=>if_pos hj;have Qn:∀j,¬ j < cs.length->Fp j=λb=>Fs (j - cs.length) b/\j - cs.length < xs.length:=λj hj=>if_neg hj;have DI:∀j b,Fp j b->(j < cs.length/\Gs j b)\/(¬ j < cs.length/\Fs (j - cs.length) b/\j - cs.length < xs.length):=λj b hb=>by
  by_cases c:j < cs.length
  ·rw[Qm j c]at hb;exact .inl ⟨c,hb⟩
  ·rw[Qn j c]at hb;exact .inr ⟨c,hb.1,hb.2⟩
 have aab:∀j b,Fp j b->U b:=λj b hb=>by
  rcases DI j b hb with⟨_,z⟩ | ⟨_,z,_⟩
  ·exact sub _ b (g4 j b z).1
  ·exact sub _ b z
 have Qo:∀j,¬ Fp j a:=λj z=>by
  rcases DI j a z with⟨_,z⟩ | ⟨_,z,w⟩
  ·exact Z9 j z
  ·have:=dj _ _ a z Fa;lia
 have aac:∀i j b,Fp i b->Fp j b->i=j:=λi j b hi hj=>by
  rcases DI i b hi with⟨c1,z1⟩ | ⟨c1,z1,w1⟩ <;> rcases DI j b hj with⟨c2,z2⟩ | ⟨c2,z2,w2⟩
  ·exact g3 i j b z1 z2
  ·have:=dj _ _ b (g4 i b z1).1 z2;lia
  ·have:=dj _ _ b (g4 j b z2).1 z1;lia
  ·have:=dj _ _ b z1 z2;lia
 have aad:∀(j:Nat) (x:V) (y:D),(vs++xs)[j]?=some x->(cs++ds)[j]?=some y->bg K H (Fp j) x y:=λj x y hx hy=>by
  by_cases c:j < cs.length
  ·rw[Qm j c];rw[aU (by lia)]at hx;rw[aU c]at hy;exact g5 j x y hx hy
  ·rw[Qn j c];rw[br (by lia)]at hx;rw[br (by lia)]at hy;rw[h2]at hx;have HH:j - cs.length < xs.length:=(cm.mp hx).1;obtain⟨x',ex,sx⟩:=sl (j - cs.length) (.own y) (by rw[aU (by rw[lo];exact HH)];unfold bU;rw[bJ,hy];rfl);have:x'=x:=by
    rw[aU (by simp;exact HH),bJ,hx]at ex;cases ex;rfl
   subst this;exact bg.mono sx λb z=>⟨z,HH⟩
 refine⟨⟨rfl,λb ub=> ?_,λi b=>i=0/\(b=a\/∃j,j < cC.length/\Fp (π j) b),λi j b hi hj=>by rw[hi.1,hj.1],λi b hb=> ?_,λi β aa=> ?_⟩,λb u q nu=> ?_⟩
 ·by_cases c:b=a
  ·subst c;rw[de];exact Ql (a:=b) rO
  ·rw[ba c];exact mu b ub
 ·rcases hb.2 with z | ⟨j,_,z⟩
  ·subst z;exact sub _ b Fa
  ·exact aab _ b z
 ·cases i with
  |succ i=>simp at aa
  |zero=>
   cases aa;refine⟨.ref a,rfl, ?_⟩;refine .nd (λi b=>i < cC.length/\Fp (π i) b) (jB.put rO ⟨rfl, .inl rfl⟩ ⟨rO,oy,dx,de⟩) oz (λi j b hi hj=>inj i j hi.1 hj.1 (aac _ _ b hi.2 hj.2)) (λi b hb=>⟨⟨rfl, .inr ⟨i,hb.1,hb.2⟩⟩,λ_ z=>by subst z;exact Qo _ hb.2⟩) λi x y hx hy=> ?_;have hi:i < cC.length:=(cm.mp hx).1;have r:=aad (π i) x y (iV i x hx) (qY i y hy);refine(r.frame (H':=cf H a (ho k' dx cC)) (λb u hb q=>keep b u (λz=>by subst z;exact Qo _ hb) q) st).mono λb z=>⟨hi,z⟩
 ·have:b≠a:=λz=>by subst z;exact nu (sub _ b Fa)
  exact⟨keep b u this q,nu⟩
theorem HI:∀{p q:List Nat} {d d1 x y:D},aI d p=some d1->plain x=false->plain y=false->(∀n r,aI x (n::r)=none)->(∀n r,aI y (n::r)=none)->(aI (aZ d p x) q).isSome=(aI (aZ d p y) q).isSome
 | [], [],d,d1,x,y,g,hx,hy,zx,zy=>by rw[aZ,aZ,aI,aI];rfl
 | [],n::r,d,d1,x,y,g,hx,hy,zx,zy=>by rw[aZ,aZ,zx,zy]
 |n::p,q, .sc _,d1,x,y,g,hx,hy,zx,zy=>by rw[aI]at g;cases g
 |n::p,q, .hl _,d1,x,y,g,hx,hy,zx,zy=>by rw[aI]at g;cases g
 |n::p,q, .nd k cs,d1,x,y,g,hx,hy,zx,zy=>by
  rw[aI]at g;by_cases dM:cg k=true/\bI cs=true
  ·rw[if_pos dM]at g;cases g
  rw[if_neg dM]at g;cases hc:cs[n]? with
  |none=>rw[hc]at g;cases g
  |some c=>
   rw[hc]at g;have hn:=(cm.mp hc).1;have e1:aZ (.nd k cs) (n::p) x= .nd k (cs.set n (aZ c p x)):=by rw[aZ,hc]
   have e2:aZ (.nd k cs) (n::p) y= .nd k (cs.set n (aZ c p y)):=by rw[aZ,hc]
   rw[e1,e2];cases q with
   |nil=>rw[aI,aI];rfl
   |cons i q=>
    have px:=xZ hn (ya g hx);have py:=xZ hn (ya g hy);rw[aI,aI,if_neg (by rintro⟨_,z⟩;rw[px]at z;cases z),if_neg (by rintro⟨_,z⟩;rw[py]at z;cases z)];by_cases ci:n=i
    ·subst ci;rw[gK hn,gK hn];exact HI g hx hy zx zy
    ·rw[gq ci,gq ci]
def fV(Z:En)(r:Nat)(d0:D)(p:List Nat)(d':D):En:=(el (Z.set r (some (.own (aZ d0 p (.hl .aG)))))).set r (some (.own (aZ d0 p d')))
theorem mU(Z:En)(r:Nat)(d0:D)(p:List Nat)(d':D):(fV Z r d0 p d').length=Z.length:=by unfold fV;rw[bN,iE,bN]
theorem rP(h:r≠s):aV (Z.set r b) s=aV Z s:=by
 unfold aV;rw[gq h]
theorem DJ(h:r < Z.length):aV (Z.set r (some (.own d))) r=some d:=by
 unfold aV;rw[gK h]
theorem Qp{i:Nat}{d:D}(h:Z[i]?=some (some (.own d))):(el Z)[i]?=some (some (.own d)):=by
 unfold el;rw[bJ,h];rfl
theorem aae{d:D}(h:aV Z r=some d):aV (Z++τ) r=some d:=by
 have q:=kS h;have hr:r < Z.length:=(cm.mp q).1;unfold aV;rw[aU hr,q]
theorem Qq(xY:AI τ):∀(i:Nat) (β:B),(el Z++τ)[i]?=some (some β)->(el (Z++τ))[i]?=some (some β):=λi β h=>by
 unfold el at h |-;rw[cK];by_cases hi:i < Z.length
 ·rw[aU (by rw[bb];exact hi)]at h;rw[aU (by rw[bb];exact hi)];rw[bJ]at h |-;cases q:Z[i]? with
  |none=>rw[q]at h;cases h
  |some o=>
   rw[q]at h;have h:fO Z o=some β:=hV h;show some (fO (Z++τ) o)=_;cases o with
   |none=>exact congrArg some h
   |some c=>
    cases c with
    |own d=>exact congrArg some h
    |ro d=>exact congrArg some h
    |aB r p=>
     have h:(if p= []\/((aV Z r).bind (aI · p)).isSome=true then some (B.aB r p) else none)=some β:=h;show some (if p= []\/((aV (Z++τ) r).bind (aI · p)).isSome=true then some (B.aB r p) else none)=_;by_cases c:p= []\/((aV Z r).bind (aI · p)).isSome=true
     ·rw[if_pos c]at h;have c':p= []\/((aV (Z++τ) r).bind (aI · p)).isSome=true:=by
       rcases c with c | c
       ·exact .inl c
       ·cases hd:aV Z r with
        |none=>rw[hd]at c;cases c
        |some d=>rw[aae hd];rw[hd]at c;exact .inr c
      rw[if_pos c',h]
     ·rw[if_neg c]at h;cases h
 ·rw[br (by rw[bb];lia)]at h |-;rw[bb]at h |-;rw[bJ,h];cases β with
  |own d=>rfl
  |ro d=>rfl
  |aB r p=>exact absurd rfl (xY _ (jr h) r p)
theorem aaf{v:V}(hr:r < Z.length)(g:aI d0 p=some d1):∀(i:Nat) (β:B),i≠r->(el (Z.set r (some (.own (aZ d0 p (.hl .aG))))))[i]?=some (some β)->(el (Z.set r (some (.own (aZ d0 p (.hl v))))))[i]?=some (some β):=λi β ni h=>by
 unfold el at h |-;rw[bJ,gq (fw ni)]at h |-;cases q:Z[i]? with
 |none=>rw[q]at h;cases h
 |some o=>
  rw[q]at h;have h:=hV h;show some (fO _ o)=_;cases o with
  |none=>exact congrArg some h
  |some c=>
   cases c with
   |own d=>exact congrArg some h
   |ro d=>exact congrArg some h
   |aB s p'=>
    have h:(if p'= []\/((aV (Z.set r (some (.own (aZ d0 p (.hl .aG))))) s).bind (aI · p')).isSome=true then some (B.aB s p') else none)=some β:=h;show some (if p'= []\/((aV (Z.set r (some (.own (aZ d0 p (.hl v))))) s).bind (aI · p')).isSome=true then some _ else none)=_;by_cases cs:r=s
    ·subst cs;rw[DJ hr]at h |-;have e:((some (aZ d0 p (.hl v))).bind (aI · p')).isSome=((some (aZ d0 p (.hl .aG))).bind (aI · p')).isSome:=HI g rfl rfl (λ_ _=>by rw[aI]) λ_ _=>by rw[aI]
     rw[e,h]
    ·rw[rP cs]at h |-;rw[h]
theorem av.edit{r:Nat}{p:List Nat}{d0:D}{k:Kd}{cs:List D}(I:av K n H U σ hv Z (τv++xs) (τd++ds))(hl:xs.length=ds.length)(hp:iH K H U (σ++hv) Z v (.rt r p))(hr:aV Z r=some d0)(hg:aI d0 p=some (.nd k cs))(hk:cg k=false):
  ∃(a dx:Addr) (vs:List V),v= .ref a/\H a=some (ho k dx vs)/\fits K k vs.length/\vs.length=cs.length/\cv K H T1 vs cs/\∀(k':Kd) (cC:List V) (fU:List D) (π:Nat->Nat),cg k'=false->fits K k' cC.length->cC.length=fU.length->
   (∀i j,i < cC.length->j < cC.length->π i=π j->i=j)->(∀(i:Nat) (x:V),cC[i]?=some x->(vs++xs)[π i]?=some x)->(∀(i:Nat) (y:D),fU[i]?=some y->(cs++ds)[π i]?=some y)->
   ∃U',av K n (cf H a (ho k' dx cC)) U' σ hv (fV Z r d0 p (.nd k' fU)) τv τd/\bH U H U' (cf H a (ho k' dx cC)):=by
 have l:=I.len;have tl:=I.tl;rw[bo,bo]at tl;obtain⟨iN,vr,Qr,er,tT,_,HJ⟩:=hp;rw[hr]at tT;cases tT;have tS:=kS hr
 -- all in one row
 have HK:bT K H U Z.length ((σ++hv++τv.map some)++xs.map some) ((Z++bU τd)++bU ds):=by
  have:=I.ok;rw[cK,cK, <- b8, <- b8]at this;exact this
 have lE:(σ++hv++τv.map some).length=(Z++bU τd).length:=by unfold bU;simp;lia
 have hm:Z.length<=(σ++hv++τv.map some).length:=by simp;lia
 have Qs:=HK.take (r:=r) (vr:=vr) (u:=v) (d:=d0) (p:=p) (by rw[bo];lia) (by rw[aU (by rw[bo];lia),aU iN];exact tS)
  (by rw[aU (by lia),aU (by simp;lia)];exact er) HJ hg
 have es:((Z++bU τd)++bU ds).set r (some (.own (aZ d0 p (.hl v))))++ [some (B.own (.nd k cs))]=(Z.set r (some (.own (aZ d0 p (.hl v))))++bU τd)++(bU ds++ [some (.own (.nd k cs))]):=by
  rw[uT _ _ (by rw[bo];lia),uT _ _ iN];simp
 rw[es,b8]at Qs;have nA:AI (bU ds++ [some (B.own (.nd k cs))]):=λb hb q p=>by
  rcases lZ.mp hb with z | z
  ·exact vO ds b z q p
  ·rw[l5.mp z];exact λw=>nomatch w
 have Qt:(σ++hv++τv.map some).length=(Z.set r (some (.own (aZ d0 p (.hl v))))++bU τd).length:=by
  rw[lE,bo,bo,bN]
 obtain⟨Ut,_,small,_,back⟩:=Qs.call Qt hm nA;obtain⟨a,dx,vs,ev,ha,hf,HL,vw,ed⟩:=small.edit hl hk;refine⟨a,dx,vs,ev,ha,hf,HL,vw,λk' cC fU π rO oy oz inj iV qY=> ?_⟩;obtain⟨aag,aah⟩:=ed k' cC fU π rO oy oz inj iV qY;obtain⟨U',HM,dJ⟩:=back _ Ut [some v] [some (.own (.nd k' fU))] aag aah λb hb=>by rw[l5.mp hb];exact .inr ⟨_,rfl⟩
 refine⟨U',⟨?_,by rw[mU];exact l,I.nn⟩,dJ⟩;have aai:r < (Z.set r (some (.own (aZ d0 p (.hl v))))).length:=by rw[bN];exact iN
 have gh:aI (aZ d0 p (.hl v)) p=some (.hl v):=HC hg rfl;have DK:=HM.put (r:=r) (d0:=aZ d0 p (.hl v)) (u:=v) (p:=p) (d1:= .nd k' fU) (by rw[iE];exact Qt) hm (by
  refine Qp ?_;rw[aU aai,gK iN]) gh
 rw[HD hg]at DK;rw[mU];refine DK.weaken (by rw[bo,mU,bN,iE,bo,bN];unfold bU;rfl) λi β aa=> ?_;by_cases ci:r=i
 ·subst ci;rw[aU (by rw[mU];exact iN)]at aa;unfold fV at aa;rw[gK (by rw[iE,bN];exact iN)]at aa;rw[gK (by rw[iE,bo,bN];lia)];exact aa
 ·rw[gq ci];refine Qq (vO τd) i β ?_;by_cases hi:i < Z.length
  ·rw[aU (by rw[mU];exact hi)]at aa;rw[aU (by rw[iE,bN];exact hi)];unfold fV at aa;rw[gq ci]at aa;exact aaf iN hg i β (λz=>ci z.symm) aa
  ·rw[br (by rw[mU];lia),mU]at aa;rw[br (by rw[iE,bN];lia),iE,bN];exact aa
end
section
theorem av.bound(I:av K n H U σ hv Z (τv++ [v]) (τd++ [d]))(hi:i < n)(xY:τv= []/\τd= []\/True):av K n H U (σ.set i (some v)) hv ((eI i Z).set i (some (.own d))) τv τd:=by
 have l:=I.len;have nn:=I.nn;have tl:=I.tl;rw[bo,bo]at tl;have tl:τv.length=τd.length:=by simp at tl;lia
 refine⟨?_,by rw[bN,bN,jZ];exact l,by rw[bN];exact nn⟩;have ok:=I.ok;rw[cK,cK, <- b8, <- b8]at ok;have k:=ok.set (i:=i) (by simp;lia) (by simp;lia) (by simp;lia);have e1:(σ++hv++τv.map some).set i (some v)=σ.set i (some v)++hv++τv.map some:=by
  rw[uT _ _ (by simp;lia),uT _ _ (by lia)]
 rw[e1]at k;have lu:((eI i Z).set i (some (B.own d))).length=Z.length:=by rw[bN,jZ]
 rw[lu];refine k.weaken (by simp[jZ]) λj β aa=> ?_;by_cases hj:j < Z.length
 ·rw[aU (by rw[lu];exact hj)]at aa;by_cases c:i=j
  ·subst c;rw[gK (by rw[jZ];exact hj)]at aa;rw[gK (by rw[jZ];simp;lia)];exact aa
  ·rw[gq c]at aa |-;unfold eI at aa |-;rw[cK,aU (by simpa using hj)];exact aa
 ·rw[br (by rw[lu];lia),lu]at aa;rw[gq (by lia)];unfold eI;rw[cK,br (by simp;lia),bb,bJ];have:(τd.map λd=>some (B.own d))[j - Z.length]?=some _:=aa;rw[this];rw[bJ]at this;cases q:τd[j - Z.length]? with
  |none=>rw[q]at this;cases this
  |some x=>rw[q]at this;cases this;rfl
theorem av.named(I:av K n H U σ hv Z τv τd)(hi:i < n)(hb:match β with | .own _=>False | .ro d=>Vw K H (λb=>¬ U b) v d | .aB r p=>r < Z.length/\r≠i/\∃vr,(σ++hv)[r]?=some (some vr)/\gU H vr p v):
  av K n H U (σ.set i (some v)) hv ((eI i Z).set i (some β)) τv τd:=by
 have l:=I.len;have nn:=I.nn;have tl:=I.tl;refine⟨?_,by rw[bN,bN,jZ];exact l,by rw[bN];exact nn⟩;have k:=I.ok.bind (i:=i) (β:=β) (v:=v) (by simp;lia) (by
  cases β with
  |own d=>exact hb
  |ro d=>exact hb
  |aB r p=>
   obtain⟨h1,h2,vr,h3,h4⟩:=hb;exact⟨h1,h2,vr,by rw[aU (by simp;lia)];exact h3,h4⟩)
 have e1:(σ++hv++τv.map some).set i (some v)=σ.set i (some v)++hv++τv.map some:=by
  rw[uT _ _ (by simp;lia),uT _ _ (by lia)]
 rw[e1]at k;have lu:((eI i Z).set i (some β)).length=Z.length:=by rw[bN,jZ]
 rw[lu];refine k.weaken (by simp[jZ]) λj γ cH=> ?_;by_cases hj:j < Z.length
 ·rw[aU (by rw[lu];exact hj)]at cH;by_cases c:i=j
  ·subst c;rw[gK (by rw[jZ];exact hj)]at cH;rw[gK (by rw[jZ];simp;lia)];exact cH
  ·rw[gq c]at cH |-;unfold eI at cH |-;rw[cK,aU (by simpa using hj)];exact cH
 ·rw[br (by rw[lu];lia),lu]at cH;rw[gq (by lia)];unfold eI;rw[cK,br (by simp;lia),bb,bJ];have:(τd.map λd=>some (B.own d))[j - Z.length]?=some _:=cH;rw[this];rw[bJ]at this;cases q:τd[j - Z.length]? with
  |none=>rw[q]at this;cases this
  |some x=>rw[q]at this;cases this;rfl
theorem av.moved(I:av K n H U σ hv Z τv τd)(hi:i < n)(h:Z[i]?=some (some (.own d))):∃v,σ[i]?=some (some v)/\av K n H U σ hv (Z.set i none) (τv++ [v]) (τd++ [d]):=by
 have l:=I.len;have nn:=I.nn;have HN:=(cm.mp h).1;obtain⟨v,F,ev,_,_⟩:=I.slot h;rw[I.name hi]at ev;refine⟨v,ev, ?_,by rw[bN];exact l,nn⟩;have HP:(Z++τd.map λd=>some (B.own d))[i]?=some (some (.own d)):=by rw[aU HN];exact h
 have al4:(σ++hv++τv.map some)[i]?=some (some v):=by rw[aU (by simp;lia),aU (by lia)];exact ev
 have k:=I.ok.take (by simp;lia) HP al4 (.nil v) rfl;rw[bN,cK,cK, <- b8, <- b8];refine k.weaken (by simp;lia) λj β aa=> ?_;rw[uT _ _ HN];by_cases hj:j < Z.length
 ·rw[b8,aU (by simpa using hj)]at aa |-;by_cases c:i=j
  ·subst c;rw[gK HN]at aa;cases aa
  ·rw[gq c]at aa |-;exact aa
 ·rw[b8,br (by simp;lia)]at aa |-;rw[bN]at aa |-;exact aa
def kr(i:Nat)(Z:En):Option (D×En):=(af i Z).bind λd=>if plain d=true then some (d,Z) else match Z[i]? with
 |some (some (.own d'))=>some (d',Z.set i none)
 |_=>none
instance (priority:=400) aaj{i:Nat}[L:jC i n]:SM K n (f9 i) (kr i):=⟨λ{σ hv H U Z ρ' τv τd d Q} I h k=>by
 obtain⟨d1,h1,h2⟩:=ak.mp h;by_cases p:plain d1=true
 ·rw[if_pos p]at h2;cases h2;refine(Z5).s I h1 λv H' s w=> ?_;obtain⟨U',I',st⟩:=I.push s (cA.plain w p);exact k v H' U' I' st
 ·rw[if_neg p]at h2
  split at h2
  ·next d' e1=>
   cases h2;obtain⟨v,ev,I'⟩:=I.moved L.h e1;exact⟨v,ev,k v H U I' (bH.refl U H)⟩
  ·cases h2⟩
instance ajl:SS K n xt (λZ=>some (.nx Z)):=⟨λI h k=>by cases h;exact k _ _ _ I (bH.refl _ _)⟩
instance ayp:SS K n arG (λZ=>some (.ct Z)):=⟨λI h k=>by cases h;exact k _ _ _ I (bH.refl _ _)⟩
instance ayq:SS K n arH (λ_=>none):=⟨λI h k=>by cases h⟩
noncomputable def rQ (u:En->Option Fl):Fl->Option Fl
 |.nx Z=>u Z
 |fl=>some fl
def fA(t u:En->Option Fl)(Z:En):Option Fl:=(t Z).bind (rQ u)
theorem qu.step(h:qu K n H U hv τv τd E fl)(st:bH U H U' H'):qu K n H' U' hv τv τd E fl:=by
 cases fl with
 |nx Z=>exact λσ H2 U2 I s=>h σ H2 U2 I (st.trans s)
 |rt d Z=>exact λv σ H2 U2 I s=>h v σ H2 U2 I (st.trans s)
 |bk Z=>exact λσ H2 U2 I s=>h σ H2 U2 I (st.trans s)
 |ct Z=>exact λσ H2 U2 I s=>h σ H2 U2 I (st.trans s)
instance ajm[A:SS K n t ft][B':SS K n u fu]:SS K n (sX t u) (fA ft fu):=⟨λ{σ hv H U Z τv τd fl E} I h k=>by
 obtain⟨f1,h1,h2⟩:=ak.mp h;refine A.s I h1 ?_;cases f1 with
 |nx ρ1=>exact λsZ H1 U1 I1 bQ=>B'.s I1 h2 (k.step bQ)
 |rt d ρ1=>cases h2;exact k
 |bk ρ1=>cases h2;exact k
 |ct ρ1=>cases h2;exact k⟩
noncomputable def gv (c:En->Option (Bool×En)) (t u:En->Option Fl) (Z:En):Option Fl:=(c Z).bind λb=>if b.1=true then t b.2 else u b.2
instance ajn[C:ST K n c fc][A:SS K n t ft][B':SS K n u fu]:SS K n (xu c t u) (gv fc ft fu):=⟨λ{σ hv H U Z τv τd fl E} I h k=>by
 obtain⟨⟨b,ρ1⟩,h1,h2⟩:=ak.mp h;refine C.s I h1 λH1 U1 I1 bQ=> ?_;cases b with
 |true=>rw[if_pos rfl];exact A.s I1 h2 (k.step bQ)
 |false=>rw[if_neg df];exact B'.s I1 h2 (k.step bQ)⟩
noncomputable def jg (f:En->Option (D×En)) (Z:En):Option Fl:=(f Z).map λr=> .rt r.1 r.2
instance aak[A:SM K n te fe]:SS K n (qi te) (jg fe):=⟨λ{σ hv H U Z τv τd fl E} I h k=>by
 obtain⟨⟨d,ρ1⟩,h1,h2⟩:=aY.mp h;cases h2;exact A.s I h1 λv H1 U1 I1 bQ=>k v σ H1 U1 I1 bQ⟩
noncomputable def ik (f:En->Option (D×En)) (Z:En):Option Fl:=(f Z).map λr=> .nx r.2
instance ajo[A:SM K n te fe]:SS K n (F9 te) (ik fe):=⟨λ{σ hv H U Z τv τd fl E} I h k=>by
 obtain⟨⟨d,ρ1⟩,h1,h2⟩:=aY.mp h;cases h2;exact A.s I h1 λv H1 U1 I1 bQ=>k σ H1 U1 I1.qw bQ⟩
def bq(i:Nat)(β:B)(Z:En):En:=(eI i Z).set i (some β)
def dU(i:Nat)(f:En->Option (D×En))(Z:En):Option Fl:=(f Z).map λr=> .nx (bq i (.own r.1) r.2)
instance (priority:=100) ajp{i:Nat}{te:TE}{fe:En->Option (D×En)}[L:jC i n][A:SM K n te fe]:SS K n (vh te (lB i)) (dU i fe):=⟨λ{σ hv H U Z τv τd fl E} I h k=>by
 obtain⟨⟨d,ρ1⟩,h1,h2⟩:=aY.mp h;cases h2;exact A.s I h1 λv H1 U1 I1 bQ=>k _ H1 U1 (I1.bound L.h (.inr trivial)) bQ⟩
def gV(i:Nat)(f:En->Option Pl)(Z:En):Option Fl:=(f Z).bind λq=>(gp Z q).bind λd=>if plain d=true then some (.nx (bq i (.own d) Z)) else match q with
 |.ro d=>some (.nx (bq i (.ro d) Z))
 |.rt r p=>if r=i then none else some (.nx (bq i (.aB r p) Z))
instance (priority:=500) ajq{i:Nat}{te:TE}{fe:En->Option Pl}[L:jC i n][A:SP K n te fe]:SS K n (vh te (lB i)) (gV i fe):=⟨λ{σ hv H U Z τv τd fl E} I h k=>by
 obtain⟨q,h1,h2⟩:=ak.mp h;obtain⟨d,h3,h4⟩:=ak.mp h2;refine A.s I h1 λv H1 s1 w1=> ?_;have I1:=I.same s1;have e6:bH U H U H1:=λb o q nu=>⟨s1 b o q,nu⟩
 by_cases p:plain d=true
 ·rw[if_pos p]at h4;cases h4;obtain⟨U',I',st⟩:=I1.push (aJ.refl H1) (cA.plain (I1.at w1 h3) p);exact k _ H1 U' (I'.bound L.h (.inr trivial)) (e6.trans st)
 ·rw[if_neg p]at h4;cases q with
  |ro d'=>
   cases h4;exact k _ H1 U (I1.named L.h w1) e6
  |rt r p'=>
   have h4:(if r=i then none else some _)=some fl:=h4;by_cases c:r=i
   ·rw[if_pos c]at h4;cases h4
   ·rw[if_neg c]at h4;cases h4;obtain⟨hr,vr,d0,er,_,_,hp⟩:=w1;exact k _ H1 U (I1.named L.h ⟨hr,c,vr,er,hp⟩) e6⟩
instance ajr[A:SV K n t f]:kc K n (tB t) (λZ=>(f Z).bind fun | .sc (.bl b)=>some b | _=>none):=⟨λ{σ hv H U Z τv τd b Q} I h k=>by
 obtain⟨d,h1,h2⟩:=ak.mp h;refine A.s I h1 λv H1 s1 w1=> ?_
 split at h2
 ·cases h2;exact⟨b,w1.bA,k H1 s1⟩
 ·cases h2⟩
instance ajs[A:SV K n t f]:kc K n (vk t) (λZ=>(f Z).bind fun | .sc (.bl b)=>some b | _=>none):=⟨λ{σ hv H U Z τv τd b Q} I h k=>by
 obtain⟨d,h1,h2⟩:=ak.mp h;refine A.s I h1 λv H1 s1 w1=> ?_
 split at h2
 ·cases h2;exact⟨b,w1.bA,k H1 s1⟩
 ·cases h2⟩
noncomputable def ku (f:En->Option (D×En)) (Z:En):Option (Bool×En):=(f Z).bind λr=>match r.1 with
 |.sc (.bl b)=>some (b,r.2)
 |_=>none
instance (priority:=50) aju{t:TE}{f:En->Option (D×En)}[A:SM K n t f]:ST K n (vk t) (ku f):=⟨λ{σ hv H U Z ρ' τv τd b Q} I h k=>by
 obtain⟨⟨d,ρ1⟩,h1,h2⟩:=ak.mp h;refine A.s I h1 λv H1 U1 I1 bQ=> ?_
 split at h2
 ·next b' e=>
  subst e;cases h2;exact⟨b,I1.last.bA,k H1 U1 I1.qw bQ⟩
 ·cases h2⟩
noncomputable def lN (a b:En->Option Bool) (Z:En):Option Bool:=(a Z).bind λx=>if x=true then b Z else some false
noncomputable def mV (a b:En->Option Bool) (Z:En):Option Bool:=(a Z).bind λx=>if x=true then some true else b Z
instance ajv[A:kc K n t f][B':kc K n u g]:kc K n (F3 t u) (lN f g):=⟨λ{σ hv H U Z τv τd b Q} I h k=>by
 obtain⟨x,h1,h2⟩:=ak.mp h;refine A.s I h1 λH1 s1=> ?_;cases x with
 |true=>rw[if_pos rfl];exact B'.s (I.same s1) h2 λH2 s2=>k H2 (s1.trans s2)
 |false=>cases h2;rw[if_neg df];exact k H1 s1⟩
instance ajw[A:kc K n t f][B':kc K n u g]:kc K n (F4 t u) (mV f g):=⟨λ{σ hv H U Z τv τd b Q} I h k=>by
 obtain⟨x,h1,h2⟩:=ak.mp h;refine A.s I h1 λH1 s1=> ?_;cases x with
 |true=>cases h2;rw[if_pos rfl];exact k H1 s1
 |false=>rw[if_neg df];exact B'.s (I.same s1) h2 λH2 s2=>k H2 (s1.trans s2)⟩
instance ajx[A:kc K n t f]:kc K n (F5 t) (λZ=>(f Z).map (!·)):=⟨λ{σ hv H U Z τv τd b Q} I h k=>by
 obtain⟨x,h1,h2⟩:=aY.mp h;cases h2;exact A.s I h1 λH1 s1=>k H1 s1⟩
noncomputable def andM (a b:En->Option (Bool×En)) (Z:En):Option (Bool×En):=(a Z).bind λx=>if x.1=true then b x.2 else some (false,x.2)
instance (priority:=50) ajy{t u:TT}{f g:En->Option (Bool×En)}[A:ST K n t f][B':ST K n u g]:ST K n (F3 t u) (andM f g):=⟨λ{σ hv H U Z ρ' τv τd b Q} I h k=>by
 obtain⟨⟨x,ρ1⟩,h1,h2⟩:=ak.mp h;refine A.s I h1 λH1 U1 I1 s1=> ?_;cases x with
 |true=>rw[if_pos rfl];exact B'.s I1 h2 λH2 U2 I2 s2=>k H2 U2 I2 (s1.trans s2)
 |false=>cases h2;rw[if_neg df];exact k H1 U1 I1 s1⟩
instance ajA[A:SV K n ta fa][B':SV K n tb fb]:SV K n (xr ta tb) (λZ=>(fa Z).bind fun | .sc (.bl true)=>fb Z | .sc (.bl false)=>some (.sc (.bl false)) | _=>none):=⟨λ{σ hv H U Z τv τd d Q} I h k=>by
 obtain⟨x,h1,h2⟩:=ak.mp h;refine A.s I h1 λv H1 s1 w1=> ?_
 split at h2
 ·exact⟨true,w1.bA,by rw[if_pos rfl];exact B'.s (I.same s1) h2 λv H2 s2 w=>k v H2 (s1.trans s2) w⟩
 ·cases h2;exact⟨false,w1.bA,by rw[if_neg df];exact k _ H1 s1 (.sc _)⟩
 ·cases h2⟩
instance ajC[A:SV K n ta fa]:SV K n (F8 ta) (λZ=>(fa Z).bind fun | .sc (.bl b)=>some (.sc (.bl (!b))) | _=>none):=⟨λ{σ hv H U Z τv τd d Q} I h k=>by
 obtain⟨x,h1,h2⟩:=ak.mp h;refine A.s I h1 λv H1 s1 w1=> ?_
 split at h2
 ·next b=>cases h2;exact⟨b,w1.bA,k _ H1 s1 (.sc _)⟩
 ·cases h2⟩
noncomputable def oA (c:En->Option Bool) (a b:En->Option D) (Z:En):Option D:=(c Z).bind λx=>if x=true then a Z else b Z
instance ayr[C:kc K n c fc][A:SV K n ta fa][B':SV K n tb fb]:SV K n (Oi c ta tb) (oA fc fa fb):=⟨λ{σ hv H U Z τv τd d Q} I h k=>by
 obtain⟨x,h1,h2⟩:=ak.mp h;refine C.s I h1 λH1 s1=> ?_;cases x with
 |true=>rw[if_pos rfl];exact A.s (I.same s1) h2 λv H2 s2 w=>k v H2 (s1.trans s2) w
 |false=>rw[if_neg df];exact B'.s (I.same s1) h2 λv H2 s2 w=>k v H2 (s1.trans s2) w⟩
noncomputable def jh:D->Nat->Option D
 |.nd _ cs,i=>cs[i]?
 |_,_=>none
def oC(Z:En)(q:Pl)(i:Nat):Option Pl:=(gp Z q).bind λd=>(jh d i).bind λc=>match q with
 |.rt r p=>if plain d=true then some (.ro c) else some (.rt r (p++ [i]))
 |.ro _=>some (.ro c)
theorem Qv:∀{p:List Nat} {d d1:D} {i:Nat},aI d p=some d1->aI d (p++ [i])=aI d1 [i]
 | [],d,d1,i,g=>by cases g;rfl
 |n::p, .sc _,d1,i,g=>by rw[aI]at g;cases g
 |n::p, .hl _,d1,i,g=>by rw[aI]at g;cases g
 |n::p, .nd k cs,d1,i,g=>by
  rw[aI]at g;rw[zr,aI];by_cases dM:cg k=true/\bI cs=true
  ·rw[if_pos dM]at g;cases g
  rw[if_neg dM]at g |-;cases hc:cs[n]? with
  |none=>rw[hc]at g;cases g
  |some c=>rw[hc]at g;exact Qv g
theorem gU.app(h:gU H v p u)(h2:gU H u q w):gU H v (p++q) w:=by
 induction h with
 |nil=>exact h2
 |cons e1 e2 _ ih=>exact .cons e1 e2 (ih h2)
theorem HS(h:¬ plain (.nd k cs)=true):¬ (cg k=true/\bI cs=true):=λ⟨a,b⟩=>by
 cases k with
 |tup=>exact h b
 |e8=>exact h b
 |_=>cases a
theorem av.bB(I:av K n H U σ hv Z τv τd)(h:iH K H U (σ++hv) Z v q)(hq:oC Z q i=some q'):
  ∃(a:Addr) (k:Kd) (vs:List V) (cs:List D) (u:V) (c:D),v= .ref a/\gp Z q=some (.nd k cs)/\gj K H a k vs/\vs.length=cs.length/\vs[i]?=some u/\cs[i]?=some c/\iH K H U (σ++hv) Z u q'/\gp Z q'=some c:=by
 obtain⟨d,h1,h2⟩:=ak.mp hq;obtain⟨c,h3,h4⟩:=ak.mp h2;cases d with
 |sc _=>cases h3
 |hl _=>cases h3
 |nd k cs=>
  have h3:cs[i]?=some c:=h3;cases q with
  |ro d'=>
   cases h4;cases h1;obtain⟨a,vs,rfl,_,hc,hl,bB⟩:=Vw.node (show Vw K H (λb=>¬ U b) v (.nd k cs) from h);obtain⟨u,hu⟩:=sA hl h3;exact⟨a,k,vs,cs,u,c,rfl,rfl,hc,hl,hu,h3,bB i u c hu h3,rfl⟩
  |rt r p=>
   have h4:(if plain (.nd k cs)=true then some (Pl.ro c) else some (.rt r (p++ [i])))=some q':=h4;by_cases pd:plain (.nd k cs)=true
   ·rw[if_pos pd]at h4;cases h4;obtain⟨a,vs,rfl,_,hc,hl,bB⟩:=(I.at h h1).node;obtain⟨u,hu⟩:=sA hl h3;have pc:plain c=true:=by
     cases k with
     |tup=>exact za pd h3
     |e8=>exact za pd h3
     |_=>cases pd
    exact⟨a,k,vs,cs,u,c,rfl,h1,hc,hl,hu,h3,((bB i u c hu h3).plain pc).view λ_ z=>z.elim,rfl⟩
   ·rw[if_neg pd]at h4;cases h4;obtain⟨hr,vr,d0,er,rR,hg,hp⟩:=h;have AQ:(aV Z r).bind (aI · p)=some (.nd k cs):=h1;rw[rR]at AQ;have AQ:aI d0 p=some (.nd k cs):=AQ;have g2:aI d0 (p++ [i])=some c:=by
     rw[Qv AQ,aI,if_neg (HS pd),h3];rfl
    obtain⟨aal,F,ev,_,rp⟩:=I.AM rR;rw[er]at ev;cases ev;obtain⟨F1,_,r1,_⟩:=rp.focus hp AQ;obtain⟨a,vs,rfl,ho,hl,Fs,_,_,bB⟩:=r1.node;obtain⟨u,hu⟩:=sA hl h3;have aam:∃o,H a=some o:=by
     cases k with
     |tup=>exact⟨_,ho⟩
     |e8=>exact absurd ⟨rfl,ho.1⟩ (HS pd)
     |_=>obtain⟨_,_,_,dx,x⟩:=ho;exact⟨_,x⟩
    obtain⟨o,eo⟩:=aam;have G0:gU H vr (p++ [i]) u:=hp.app (.cons eo (by rw[ho.kids (HS pd) eo];exact hu) (.nil u));exact⟨a,k,vs,cs,u,c,rfl,h1,ho.cell,hl,hu,h3,⟨hr,vr,d0,er,rR,by rw[g2];rfl,G0⟩,by show(aV Z r).bind (aI · (p++ [i]))=some c;rw[rR];exact g2⟩
def mq(d i:D):Option Nat:=match d,i with
 |.nd .tup cs, .sc (.int j)=>gC cs.length j
 |.nd .lst cs, .sc (.int j)=>gC cs.length j
 |.nd .e8 cs, .sc (.int j)=>gC cs.length j
 |_,_=>none
class tU(K:ah)(r:R2)(g:outParam (D->D->Option Nat))(gs:outParam (V->D->Option V)):Prop where
 t:∀{H:Hp} {x y w:V} {dy:D} {Q:VK},Vw K H T1 y dy->gs x dy=some w->Q w H->r x y H Q
 s:∀{H:Hp} {a:Addr} {k:Kd} {vs:List V} {cs:List D} {y u:V} {dy:D} {i:Nat} {Q:VK},gj K H a k vs->vs.length=cs.length->Vw K H T1 y dy->g (.nd k cs) dy=some i->vs[i]?=some u->Q u H->r (.ref a) y H Q
def dg(g:D->D->Option Nat)(gs:V->D->Option V)(a b:D):Option D:=match a with
 |.sc x=>(gs x b).map .sc
 |a=>(g a b).bind (jh a)
instance (priority:=900) ajF{r:R2}{ta tb:TE}{fa fb:En->Option D}{g:D->D->Option Nat}{gs:V->D->Option V}[A:SV K n ta fa][B':SV K n tb fb][O:tU K r g gs]:SV K n (ig r ta tb) (au (dg g gs) fa fb):=⟨λ{σ hv H U Z τv τd d Q} I h k=>by
 obtain⟨a,ha,h⟩:=ak.mp h;obtain⟨b,hb,h⟩:=ak.mp h;refine A.s I ha λx H1 s1 w1=> ?_;refine B'.s (I.same s1) hb λy H2 s2 w2=> ?_;cases a with
 |sc z=>
  obtain⟨w,h1,h2⟩:=aY.mp h;subst h2;rw[w1.bA];exact O.t w2 h1 (k w H2 (s1.trans s2) (.sc w))
 |hl _=>
  obtain⟨i,hi,h⟩:=ak.mp h;cases h
 |nd kk cs=>
  obtain⟨i,hi,h⟩:=ak.mp h;have h:cs[i]?=some d:=h;obtain⟨a,vs,rfl,_,hc,hl,bB⟩:=(w1.same s2).node;obtain⟨u,hu⟩:=sA hl h;exact O.s hc hl w2 hi hu (k u H2 (s1.trans s2) (bB i u d hu h))⟩
def dF(g:D->D->Option Nat)(fa:En->Option Pl)(fb:En->Option D)(Z:En):Option Pl:=(fa Z).bind λq=>(fb Z).bind λb=>(gp Z q).bind λd=>(g d b).bind (oC Z q)
theorem iH.same(h:iH K H U e Z v q)(s:aJ H H'):iH K H' U e Z v q:=by
 cases q with
 |ro d=>exact Vw.same h s
 |rt r p=>
  obtain⟨a,vr,d,b,c,e,f⟩:=h;exact⟨a,vr,d,b,c,e,f.same s⟩
instance ajG[A:SP K n ta fa][B':SV K n tb fb][O:tU K r g gs]:SP K n (ig r ta tb) (dF g fa fb):=⟨λ{σ hv H U Z τv τd q' Q} I h k=>by
 obtain⟨q,ha,h⟩:=ak.mp h;obtain⟨b,hb,h⟩:=ak.mp h;obtain⟨d,hd,h⟩:=ak.mp h;obtain⟨i,hi,h⟩:=ak.mp h;refine A.s I ha λx H1 s1 w1=> ?_;refine B'.s (I.same s1) hb λy H2 s2 w2=> ?_;obtain⟨a,kk,vs,cs,u,c,rfl,e1,hc,hl,hu,h5,ok,_⟩:=((I.same s1).same s2).bB (w1.same s2) h;rw[hd]at e1;cases e1;exact O.s hc hl w2 hi hu (k u H2 (s1.trans s2) ok)⟩
def cn(x:V)(i:D):Option V:=match x,i with
 |.str z, .sc (.int j)=>if z.length<=aM then(oi z.cps.toList j).map λc=> .str ⟨#[c]⟩ else none
 |_,_=>none
theorem aan(h:gC m j=some i):i < m:=by
 unfold gC at h
 split at h
 ·split at h
  ·cases h;lia
  ·cases h
 ·split at h
  ·cases h;lia
  ·cases h
instance Qw:tU K (GI K) mq cn where
 t:=λ{H x y w dy Q} w2 h q=>by
  unfold cn at h
  split at h
  ·next z j=>
   by_cases c:z.length<=aM
   ·rw[if_pos c]at h;obtain⟨ch,h1,h2⟩:=aY.mp h;subst h2;rw[w2.bA];exact .inr (.inr ⟨z,j,ch,rfl,rfl,c,h1,q⟩)
   ·rw[if_neg c]at h;cases h
  ·cases h
 s:=λ{H a k vs cs y u dy i Q} hc hl w2 h hu q=>by
  unfold mq at h;have at_:∀j,gC cs.length j=some i->oi vs j=some u:=λj e=>by
   unfold oi;rw[hl,e];exact hu
  split at h
  ·next fU j e=>
   cases e;rw[w2.bA];exact .inr (.inl ⟨a,vs,j,u,rfl,rfl,cE.of hc.2,at_ j h,q⟩)
  ·next fU j e=>
   cases e;rw[w2.bA];exact .inl ⟨a,vs,j,u,rfl,rfl, .inl (.inl hc.2),at_ j h,q⟩
  ·next fU j e=>
   cases e;rw[w2.bA];exact .inl ⟨a,vs,j,u,rfl,rfl,hc.2.sq,at_ j h,q⟩
  ·cases h
class SQ(K:ah)(n:Nat)(t:TE)(f:outParam (En->Option D)):Prop where
 o:∀{σ hv:List (Option V)} {H:Hp} {U:Addr->Prop} {Z:En} {τv:List V} {τd:List D} {d:D} {Q:VK},av K n H U σ hv Z τv τd->f Z=some d->(∀v H',aJ H H'->cA K H H' v d->Q v H')->t σ H Q
theorem SQ.s[S:SQ K n t f](I:av K n H U σ hv Z τv τd)(h:f Z=some d)(k:∀v H' U',av K n H' U' σ hv Z (τv++ [v]) (τd++ [d])->bH U H U' H'->aJ H H'->Q v H'):t σ H Q:=
 S.o I h λv H' s o=>by
  obtain⟨U',I',st⟩:=I.push s o;exact k v H' U' I' st s
instance (priority:=200) ajH{t:TE}{f:En->Option D}[S:SF K n t f]:SQ K n t f:=⟨λI h k=>S.s I h k⟩
def gJ(f:En->Option D)(Z:En):Option D:=(f Z).bind λd=>if plain d=true then some d else none
instance (priority:=100) ajI{t:TE}{f:En->Option D}[S:SV K n t f]:SQ K n t (gJ f):=⟨λ{σ hv H U Z τv τd d Q} I h k=>by
 obtain⟨d',h1,h2⟩:=ak.mp h;by_cases p:plain d'=true
 ·rw[if_pos p]at h2;cases h2;exact S.s I h1 λv H' s w=>k v H' s (cA.plain w p)
 ·rw[if_neg p]at h2;cases h2⟩
def kz(Z:En)(r:Nat)(p:List Nat):Option (D×Kd×List D):=(aV Z r).bind λd0=>(aI d0 p).bind λ
 |.nd k cs=>some (d0,k,cs)
 |_=>none
theorem qx(h:kz Z r p=some (d0,k,cs)):aV Z r=some d0/\aI d0 p=some (.nd k cs):=by
 obtain⟨x,h1,h2⟩:=ak.mp h;obtain⟨y,h3,h4⟩:=ak.mp h2;cases y with
 |sc _=>cases h4
 |hl _=>cases h4
 |nd k' fU=>cases h4;exact⟨h1,h3⟩
open Classical in
theorem qy{α:Type}{xs:List α}{x:α}{i:Nat}(hi:i < xs.length):∀(j:Nat) (y:α),(xs.set i x)[j]?=some y->(xs++ [x])[if j=i then xs.length else j]?=some y:=λj y h=>by
 by_cases c:j=i
 ·subst c;rw[gK hi]at h;rw[if_pos rfl,br (bO _),kj];exact h
 ·rw[gq (fw c)]at h;rw[if_neg c,aU (cm.mp h).1];exact h
theorem AR{i m:Nat}(hi:i < m):∀a b,a < m->b < m->(if a=i then m else a)=(if b=i then m else b)->a=b:=λa b ha hb h=>by
 by_cases c1:a=i
 ·by_cases c2:b=i
  ·lia
  ·rw[if_pos c1,if_neg c2]at h;lia
 ·by_cases c2:b=i
  ·rw[if_neg c1,if_pos c2]at h;lia
  ·rw[if_neg c1,if_neg c2]at h;exact h
def lO(Z:En)(r:Nat)(p:List Nat)(g:List D->Option (List D)):Option En:=(kz Z r p).bind λz=>match z.2.1 with
 |.lst=>(g z.2.2).map λfU=>fV Z r z.1 p (.nd .lst fU)
 |_=>none
noncomputable def oI (d:D) (cs:List D):Option (List D):=if cs.length < aM then some (cs++ [d]) else none
def kx(fp:En->Option Pl)(fe:En->Option D)(Z:En):Option (D×En):=(fp Z).bind λ
 |.rt r p=>(fe Z).bind λd=>(lO Z r p (oI d)).map λρ'=>(.sc .aG,ρ')
 |.ro _=>none
def vx(fp:En->Option Pl)(fe:En->Option (D×En))(Z:En):Option (D×En):=(fp Z).bind λ
 |.rt r p=>if p= [] then(match aV Z r with
  |some (.nd .lst _)=>(fe Z).bind λa=>(lO a.2 r [] (oI a.1)).map λρ'=>(.sc .aG,ρ')
  |_=>none) else none
 |.ro _=>none
theorem DM(h:H p=some (.lst xs)):vt K "list" (.ref p) H:= .inl ⟨rfl,xs, .inl (.inl h)⟩
theorem av.append{Q:VK}(I:av K n H U σ hv Z (τv++ [y]) (τd++ [d]))(w:iH K H U (σ++hv) Z x (.rt r p))(h:lO Z r p (oI d)=some ag)
  (k:∀v H' U',av K n H' U' σ hv ag (τv++ [v]) (τd++ [.sc .aG])->bH U H U' H'->Q v H'):vt K "list" x H/\C1 x [y] H Q:=by
 obtain⟨⟨d0,kk,cs⟩,h3,h⟩:=ak.mp h;obtain⟨hr,hg⟩:=qx h3
 split at h
 ·next e=>
  have e:kk= .lst:=e;subst e;obtain⟨fU,h4,h⟩:=aY.mp h;subst h;unfold oI at h4;have h4:(if cs.length < aM then some (cs++ [d]) else none)=some fU:=h4;by_cases c:cs.length < aM
  ·rw[if_pos c]at h4;cases h4;obtain⟨a,dx,vs,rfl,ha,hf,hl,_,ed⟩:=av.edit (xs:= [y]) (ds:= [d]) I rfl w hr hg rfl;obtain⟨U3,I3,gZ⟩:=ed .lst (vs++ [y]) (cs++ [d]) id rfl trivial (by simp;exact hl) (λx z _ _ h=>h) (λj x h=>h) λj x h=>h;obtain⟨U4,I4,nz⟩:=I3.push (aJ.refl _) (cA.sc (K:=K) .aG);exact⟨DM ha,a,vs,y,rfl,rfl,ha,by lia,k _ _ U4 I4 (gZ.trans nz)⟩
  ·rw[if_neg c]at h4;cases h4
 ·cases h
theorem iH.root(h:iH K H U e Z v (.rt r []))(hd:aV ag r=some d):iH K H' U' e ag v (.rt r []):=by
 obtain⟨_,vr,d0,er,_,_,hp⟩:=h;cases hp;exact⟨(cm.mp (kS hd)).1,v,d,er,hd,rfl, .nil v⟩
instance (priority:=600) ajK{to te:TE}{fp:En->Option Pl}{fe:En->Option D}[P:SP K n to fp][A:SQ K n te fe]:SM K n (vy K "list" C1 to (di te fz)) (kx fp fe):=⟨λ{σ hv H U Z ρ' τv τd d Q} I h k=>by
 obtain⟨q,h1,h⟩:=ak.mp h;cases q with
 |ro _=>cases h
 |rt r p=>
  obtain⟨d1,h2,h⟩:=ak.mp h;obtain⟨ag,h3,h⟩:=aY.mp h;cases h;refine P.s I h1 λx H1 s1 w1=> ?_;have I1:=I.same s1;have e6:bH U H U H1:=λb o q nu=>⟨s1 b o q,nu⟩
  -- what kind of ajL it is,ahead of the argument
  obtain⟨⟨d0,kk,cs⟩,h4,h5⟩:=ak.mp h3;obtain⟨hr,hg⟩:=qx h4;have rn:vt K "list" x H1:=by
   split at h5
   ·next e=>
    have e:kk= .lst:=e;subst e;obtain⟨a,vs,rfl,_,hc,_,_⟩:=(I1.at (q:= .rt r p) (d:= .nd .lst cs) w1 (by show(aV Z r).bind _=_;rw[hr];exact hg)).node;exact DM hc.2
   ·cases h5
  refine⟨rn,SQ.s (f:=fe) I1 h2 λy H2 U2 I2 dJ s2=> ?_⟩;have w2:iH K H2 U2 (σ++hv) Z x (.rt r p):=by
   obtain⟨a,vr,d,b,c,e,f⟩:=w1;exact⟨a,vr,d,b,c,e,f.same s2⟩
  exact(I2.append w2 h3 λv H3 U3 I3 gZ=>k v H3 U3 I3 (e6.trans (dJ.trans gZ))).2⟩
instance (priority:=500) ays{to te:TE}{fp:En->Option Pl}{fe:En->Option (D×En)}[P:SP K n to fp][A:SM K n te fe]:SM K n (vy K "list" C1 to (di te fz)) (vx fp fe):=⟨λ{σ hv H U Z ρ' τv τd d Q} I h k=>by
 obtain⟨q,h1,h⟩:=ak.mp h;cases q with
 |ro _=>cases h
 |rt r p=>
  by_cases cp:p= []
  ·subst cp;have h:(match aV Z r with | some (.nd .lst _)=>(fe Z).bind λa=>(lO a.2 r [] (oI a.1)).map λρ'=>(D.sc .aG,ρ') | _=>none)=some (d,ρ'):=h
   split at h
   ·next arQ e0=>
    obtain⟨⟨d1,ρ1⟩,h2,h⟩:=ak.mp h;obtain⟨ag,h3,h⟩:=aY.mp h;cases h;refine P.s I h1 λx H1 s1 w1=> ?_;have I1:=I.same s1;have e6:bH U H U H1:=λb o q nu=>⟨s1 b o q,nu⟩
    obtain⟨a,vs,rfl,_,hc,_,_⟩:=(I1.at (q:= .rt r []) (d:= .nd .lst arQ) w1 (by show(aV Z r).bind _=_;rw[e0];rfl)).node;refine⟨DM hc.2,A.s I1 h2 λy H2 U2 I2 dJ=> ?_⟩;obtain⟨⟨d0,kk,cs⟩,h4,h5⟩:=ak.mp h3;have w2:iH K H2 U2 (σ++hv) ρ1 (.ref a) (.rt r []):=w1.root (qx h4).1;exact(I2.append w2 h3 λv H3 U3 I3 gZ=>k v H3 U3 I3 (e6.trans (dJ.trans gZ))).2
   ·cases h
  ·have h:(if p= [] then _ else none)=some (d,ρ'):=h;rw[if_neg cp]at h;cases h⟩
end
noncomputable def jE (n:Nat) (vs:List V):St:=vs.map some++ki (n - vs.length) none
section
variable {K:ah}{H H':Hp}{U U':Addr->Prop}{σ hv:List (Option V)}{τv vs:List V}{τd ds:List D}{v:V}{d:D}
def cL(K:ah)(m:Nat)(G:List D->Option D):Sp:=λvs H Q _=>∃(ds:List D) (d:D),ds.length=m/\cv K H T1 vs ds/\G ds=some d/\∀v H',aJ H H'->cA K H H' v d->Q v H'
instance ajM{m:Nat}[A:SA K n ta fa]:SF K n (og (cL K m G) [] E ta) (λZ=>(fa Z).bind λds=>if ds.length=m then G ds else none):=⟨λ{σ hv H U Z τv τd d Q} I h k=>by
 obtain⟨ds,h1,h2⟩:=ak.mp h;by_cases c:ds.length=m
 ·rw[if_pos c]at h2;refine A.s I h1 λvs H1 s1 w1=> ?_;rw[bR];exact⟨ds,d,c,w1,h2,λv H' s o=>k v H' (s1.trans s) (o.early s1)⟩
 ·rw[if_neg c]at h2;cases h2⟩
noncomputable def bV (n:Nat) (f:En->Option Fl) (ds:List D):Option D:=match f (ds.map (λd=>some (.ro d))++ki (n - ds.length) none) with
 |some (.rt d _)=>some d
 |some (.nx _)=>some (.sc .aG)
 |_=>none
theorem cv.get{N:Addr->Prop}(h:cv K H N vs ds){i:Nat}{d:D}(hd:ds[i]?=some d):∃v,vs[i]?=some v/\Vw K H N v d:=by
 obtain⟨v,hv⟩:=sA h.1 hd;exact⟨v,hv,h.2 i v d hv hd⟩
theorem Qx{t:TS}{f:En->Option Fl}{m:Nat}{Q:VK}{X:XK}[S:SS K n t f](h:cL K m (bV n f) vs H Q X)(hm:m<=n):t { nx:=λ_ H'=>Q .aG H',rt:=Q } (jE n vs) H:=by
 obtain⟨ds,d,hd,w,hG,k⟩:=h;have hl:=w.1;have rp:∀(i:Nat) (β:B),(ds.map (λd=>some (B.ro d))++ki (n - ds.length) none)[i]?=some (some β)->∃d,ds[i]?=some d/\β= .ro d:=λi β h=>by
  by_cases hi:i < ds.length
  ·rw[aU (by simpa using hi),bJ]at h;cases q:ds[i]? with
   |none=>rw[q]at h;cases h
   |some x=>rw[q]at h;cases h;exact⟨x,rfl,rfl⟩
  ·rw[br (by simp;lia),NK]at h
   split at h <;> cases h
 have I:av K n H (λ_=>False) (jE n vs) [] (ds.map (λd=>some (.ro d))++ki (n - ds.length) none) [] []:=by
  refine⟨⟨by unfold jE;simp[hl],λb z=>z.elim,λ_ _=>False,λi j b z=>z.elim,λi b z=>z.elim,λi β aa=> ?_⟩,by unfold jE;simp[hl],by unfold jE;simp;lia⟩;rw[jQ,bR]at aa;obtain⟨x,hx,rfl⟩:=rp i β aa;obtain⟨v,hv,vw⟩:=w.get hx;refine⟨v, ?_,vw.mono λ_ _ z=>z⟩;rw[jQ,bR,bR];unfold jE;rw[aU (by simpa using (cm.mp hv).1),bJ,hv];rfl
 have fin:∀{ρ':En} {v:V} {aF:List (Option V)} {H':Hp} {U':Addr->Prop},av K n H' U' aF [] ρ' [v] [d]->bH (λ_=>False) H U' H'->Q v H':=λ{ρ' v aF H' U'} J st=>by
  refine k v H' (λb o q=>(st b o q λz=>z).1) ?_;obtain⟨_,mu,Fs,dj,sub,sl⟩:=J.ok;have l:=J.len;obtain⟨v',ev,sv⟩:=sl ρ'.length (.own d) (by simp);have:v'=v:=by
   rw[br (by simp at l |-;lia)]at ev;simp at ev l;rw[show ρ'.length - aF.length=0 by lia]at ev;simp at ev;exact ev.symm
  subst this;refine⟨_,sv,λb z=>⟨?_,mu b (sub _ b z)⟩⟩;cases q:H b with
  |none=>rfl
  |some o=>exact absurd (sub _ b z) (st b o q λz=>z).2
 unfold bV at hG
 split at hG
 ·next d' ρ' e=>
  cases hG;exact S.s I e λv aF H' U' J st=>fin J st
 ·next ρ' e=>
  cases hG;refine S.s I e λaF H' U' J st=> ?_;obtain⟨U2,J2,dJ⟩:=J.push (aJ.refl H') (cA.sc (K:=K) .aG);exact fin J2 (st.trans dJ)
 ·cases hG
noncomputable def bW {α:Type}:List Bool->List α->List α
 |true::m,x::r=>x::bW m r
 |false::m,_::r=>bW m r
 |_,_=> []
def dW(K:ah)(bp:List Bool)(G:List D->Option (D×List D)):Sp:=λvs H Q _=>vs.length=bp.length/\∃(ds:List D) (U:Addr->Prop) (d:D) (dq:List D),ds.length=bp.length/\bT K H U 0 ((bW bp vs).map some) (bU (bW bp ds))/\
 (∀(i:Nat) (v:V) (d:D),bp[i]?=some false->vs[i]?=some v->ds[i]?=some d->Vw K H (λb=>¬ U b) v d)/\G ds=some (d,dq)/\
 ∀v H' U',bT K H' U' 0 (some v::(bW bp vs).map some) (some (.own d)::bU dq)->bH U H U' H'->Q v H'
noncomputable def iG (n:Nat):Nat->List Bool->List D->En
 |j,true::m,_::r=>some (.aB (n + j) [])::iG n (j + 1) m r
 |j,false::m,d::r=>some (.ro d)::iG n j m r
 |_,_,_=> []
noncomputable def gP:En->Option (List D)
 | []=>some []
 |some (.own d)::r=>(gP r).map (d:: ·)
 |_=>none
theorem HU:∀{Z:En} {ds:List D},gP Z=some ds->Z=bU ds
 | [],ds,h=>by cases h;rfl
 |some (.own d)::r,ds,h=>by
  rw[gP]at h;obtain⟨x,h1,h2⟩:=aY.mp h;subst h2;rw[HU h1];rfl
 |none::r,ds,h=>by simp[gP]at h
 |some (.ro d)::r,ds,h=>by simp[gP]at h
 |some (.aB _ _)::r,ds,h=>by simp[gP]at h
def qA(n:Nat)(bp:List Bool)(ds:List D):En:=iG n 0 bp ds++ki (n - bp.length) none++bU (bW bp ds)
def dG(n:Nat)(bp:List Bool)(f:En->Option Fl)(ds:List D):Option (D×List D):=match f (qA n bp ds) with
 |some (.rt d ρ')=>(gP (ρ'.drop n)).map λo=>(d,o)
 |some (.nx ρ')=>(gP (ρ'.drop n)).map λo=>(.sc .aG,o)
 |_=>none
theorem HV(n:Nat):∀(j:Nat) {bp:List Bool} {ds:List D},ds.length=bp.length->(iG n j bp ds).length=bp.length
 |j, [], [],_=>rfl
 |j, [],_::_,h=>by cases h
 |j,_::_, [],h=>by cases h
 |j,true::m,_::r,h=>by rw[iG,c8,HV n _ (dA h)];rfl
 |j,false::m,_::r,h=>by rw[iG,c8,HV n j (dA h)];rfl
theorem DN{α β:Type}:∀{bp:List Bool} {xs:List α} {ys:List β},xs.length=bp.length->ys.length=bp.length->(bW bp xs).length=(bW bp ys).length
 | [], [], [],_,_=>rfl
 | [],_::_,_,h,_=>by cases h
 | [],_,_::_,_,h=>by cases h
 |_::_, [],_,h,_=>by cases h
 |_::_,_, [],_,h=>by cases h
 |true::m,x::xs,y::ys,h,h'=>by rw[bW,bW,c8,c8,DN (dA h) (dA h')]
 |false::m,x::xs,y::ys,h,h'=>by rw[bW,bW,DN (dA h) (dA h')]
theorem HW(n:Nat):∀(j:Nat) {bp:List Bool} {ds:List D} {vs:List V} {i:Nat} {β:B},ds.length=bp.length->vs.length=bp.length->(iG n j bp ds)[i]?=some (some β)->
  (∃d,β= .ro d/\bp[i]?=some false/\ds[i]?=some d)\/∃j' v,β= .aB (n + j') []/\j<=j'/\(bW bp vs)[j' - j]?=some v/\vs[i]?=some v
 |j, [],_,_,_,_,_,_,h=>by simp[iG]at h
 |j,_::_, [],_,_,_,h,_,_=>by cases h
 |j,_::_,_, [],_,_,_,h,_=>by cases h
 |j,true::m,d::ds,v::vs,0,β,h1,h2,h=>by
  rw[iG]at h;cases h;exact .inr ⟨j,v,rfl,bO _,by rw[kj,bW];rfl,rfl⟩
 |j,true::m,d::ds,v::vs,i + 1,β,h1,h2,h=>by
  rw[iG]at h;rcases HW n _ (bp:=m) (ds:=ds) (vs:=vs) (i:=i) (dA h1) (dA h2) (by simpa using h) with⟨x,a,b,c⟩ | ⟨j',x,a,b,c,e⟩
  ·exact .inl ⟨x,a,by simpa using b,by simpa using c⟩
  ·refine .inr ⟨j',x,a,by lia, ?_,by simpa using e⟩;rw[bW,show j' - j=(j' - (j + 1)) + 1 by lia];simpa using c
 |j,false::m,d::ds,v::vs,0,β,h1,h2,h=>by
  rw[iG]at h;cases h;exact .inl ⟨d,rfl,rfl,rfl⟩
 |j,false::m,d::ds,v::vs,i + 1,β,h1,h2,h=>by
  rw[iG]at h;rcases HW n j (bp:=m) (ds:=ds) (vs:=vs) (i:=i) (dA h1) (dA h2) (by simpa using h) with⟨x,a,b,c⟩ | ⟨j',x,a,b,c,e⟩
  ·exact .inl ⟨x,a,by simpa using b,by simpa using c⟩
  ·exact .inr ⟨j',x,a,b,by rw[bW];exact c,by simpa using e⟩
theorem bT.tail(h:bT K H U m (e++t) (Z++τ))(hl:e.length=Z.length)(xY:AI τ):∃Ut:Addr->Prop,(∀b,Ut b->U b)/\bT K H Ut 0 t τ:=by
 obtain⟨dw,mu,Fs,dj,sub,sl⟩:=h;rw[bo,bo]at dw;refine⟨λb=>∃i,e.length<=i/\Fs i b,λb ⟨i,_,z⟩=>sub i b z,⟨by lia,λb ⟨i,_,z⟩=>mu b (sub i b z),λi=>Fs (e.length + i),λi j b hi hj=>by have:=dj _ _ b hi hj;lia,λi b hb=>⟨_,by lia,hb⟩,λi β aa=> ?_⟩⟩;have AK:(Z++τ)[e.length + i]?=some (some β):=by
  rw[hl,br (by lia),show Z.length + i - Z.length=i by lia];exact aa
 obtain⟨v,ev,sv⟩:=sl _ _ AK;rw[br (by lia),show e.length + i - e.length=i by lia]at ev;refine⟨v,ev, ?_⟩;cases β with
 |own d=>exact sv
 |ro d=>exact Vw.mono sv λb nb ⟨j,_,z⟩=>nb (sub j b z)
 |aB r p=>exact absurd rfl (xY _ (jr aa) r p)
theorem bT.pick{cC:List V}{i3:List D}(h:bT K H U 0 (vs.map some) (bU ds))(hl:cC.length=i3.length)(π:Nat->Nat)(inj:∀i j,i < cC.length->j < cC.length->π i=π j->i=j)
  (hv:∀(i:Nat) (x:V),cC[i]?=some x->vs[π i]?=some x) (hd:∀(i:Nat) (x:D),i3[i]?=some x->ds[π i]?=some x):bT K H U 0 (cC.map some) (bU i3):=by
 obtain⟨dw,mu,Fs,dj,sub,sl⟩:=h;refine⟨by unfold bU;rw[bb,bb];exact hl,mu,λi b=>i < cC.length/\Fs (π i) b,λi j b hi hj=>inj i j hi.1 hj.1 (dj _ _ b hi.2 hj.2),λi b hb=>sub _ b hb.2,λi β aa=> ?_⟩;unfold bU at aa;rw[bJ]at aa;cases q:i3[i]? with
 |none=>rw[q]at aa;cases aa
 |some x=>
  rw[q]at aa;cases aa;obtain⟨u,hu⟩:=sA hl q;obtain⟨v,ev,sv⟩:=sl (π i) _ (by unfold bU;rw[bJ,hd i x q];rfl);rw[bJ,hv i u hu]at ev;cases ev;exact⟨u,by rw[bJ,hu];rfl,bg.mono sv λb z=>⟨(cm.mp hu).1,z⟩⟩
theorem Qy{α:Type}{xs:List α}{x:α}:∀(i:Nat) (y:α),(x::xs)[i]?=some y->(xs++ [x])[if i=0 then xs.length else i - 1]?=some y:=λi y h=>by
 cases i with
 |zero=>simp at h |-;exact h
 |succ i=>
  have h:xs[i]?=some y:=by simpa using h
  rw[if_neg (Nat.succ_ne_zero i),Cq,aU (cm.mp h).1];exact h
theorem bT.Qz(h:bT K H U 0 ((vs++ [v]).map some) (bU (ds++ [d]))):bT K H U 0 ((v::vs).map some) (bU (d::ds)):=by
 have hl:vs.length=ds.length:=by have:=h.len;unfold bU at this;simp at this;lia
 refine h.pick (by simp[hl]) _ (λi j hi hj q=> ?_) Qy (by rw[hl];exact Qy);rw[c8]at hi hj;by_cases c1:i=0
 ·by_cases c2:j=0
  ·lia
  ·simp only[if_pos c1,if_neg c2]at q;lia
 ·by_cases c2:j=0
  ·simp only[if_neg c1,if_pos c2]at q;lia
  ·simp only[if_neg c1,if_neg c2]at q;lia
theorem aao{t:TS}[S:SS K n t f](h:dW K bp (dG n bp f) vs H Q X)(hm:bp.length<=n):t { nx:=λ_ H'=>Q .aG H',rt:=Q } (jE n vs) H:=by
 obtain⟨hv,ds,U,d,dq,hd,ok,vw,hG,k⟩:=h;have l1:=HV n 0 (bp:=bp) (ds:=ds) hd;have l2:=DN (bp:=bp) hv hd;have lE:(qA n bp ds).length=n + (bW bp ds).length:=by
  unfold qA bU;rw[bo,bo,l1,zl,bb]
  lia
 have sL:(jE n vs).length=n:=by unfold jE;simp;lia
 have I:av K n H U (jE n vs) ((bW bp vs).map some) (qA n bp ds) [] []:=by
  obtain⟨ol,mu,Fs,dj,sub,sl⟩:=ok;refine⟨⟨by rw[jQ,jQ,bR,bR,bo,sL,lE,bb,l2],mu,λi b=>n<=i/\Fs (i - n) b,λi j b hi hj=>by have:=dj _ _ b hi.2 hj.2;lia,λi b hb=>sub _ b hb.2,λi β aa=> ?_⟩,by rw[sL,bb,l2,lE],sL⟩;rw[jQ,bR]at aa;rw[jQ,bR];by_cases hi:i < n
  ·have mW:(iG n 0 bp ds++ki (n - bp.length) none)[i]?=some (some β):=by
    unfold qA at aa;rw[aU (by rw[bo,l1,zl];lia)]at aa;exact aa
   by_cases HP:i < bp.length
   ·rw[aU (by lia)]at mW;have sv:∀v,vs[i]?=some v->(jE n vs++(bW bp vs).map some)[i]?=some (some v):=λv q=>by
     rw[aU (by lia)];unfold jE;rw[aU (by simp;lia),bJ,q];rfl
    rcases HW n 0 (vs:=vs) hd hv mW with⟨x,rfl,b,c⟩ | ⟨j',x,rfl,_,c,q⟩
    ·obtain⟨v,QA⟩:=sA (vs:=vs) (by lia) c;exact⟨v,sv v QA,vw i v x b QA c⟩
    ·refine⟨x,sv x q, ?_,x, ?_, .nil x⟩
     ·have:=(cm.mp c).1;rw[lE]
      lia
     ·rw[br (by lia),sL,bJ,show n + j' - n=j' - 0 by lia,c];rfl
   ·rw[br (by lia),NK]at mW
    split at mW <;> cases mW
  ·have QB:(bU (bW bp ds))[i - n]?=some (some β):=by
    unfold qA at aa;rw[br (by rw[bo,l1,zl];lia)]at aa;rw[bo,l1,zl,show bp.length + (n - bp.length)=n by lia]at aa;exact aa
   obtain⟨v,ev,sv⟩:=sl _ β QB;refine⟨v,by rw[br (by lia),sL];exact ev, ?_⟩;cases β with
   |own x=>exact bg.mono sv λb z=>⟨by lia,z⟩
   |ro x=>exact sv
   |aB r p=>exact absurd rfl (vO _ _ (jr QB) r p)
 have fin:∀{ρ':En} {v:V} {aF:List (Option V)} {H':Hp} {U':Addr->Prop},av K n H' U' aF ((bW bp vs).map some) ρ' [v] [d]->gP (ρ'.drop n)=some dq->bH U H U' H'->Q v H':=λ{ρ' v aF H' U'} J ho st=>by
  have eo:=HU ho;have ln:=J.len;have nn:=J.nn;have er:ρ'=ρ'.take n++bU dq:=by rw[<- eo,aiD]
  have vR:=J.ok;have lt:aF.length=(ρ'.take n).length:=by rw[Ce];lia
  -- first the names go,then the last one comes to the front
  have vR:bT K H' U' ρ'.length (aF++((bW bp vs).map some++ [some v])) (ρ'.take n++(bU dq++ [some (.own d)])):=by
   rw[<- b8, <- b8, <- er];exact vR
  obtain⟨Ut,su,ot⟩:=vR.tail lt λb hb q p=>by
   rcases lZ.mp hb with z | z
   ·exact vO dq b z q p
   ·rw[l5.mp z];exact λw=>nomatch w
  have HX:bT K H' Ut 0 ((bW bp vs++ [v]).map some) (bU (dq++ [d])):=by
   unfold bU at ot |-;rw[cK,cK];exact ot
  refine k v H' Ut HX.Qz λb o q nu=>⟨(st b o q nu).1,λz=>(st b o q nu).2 (su b z)⟩
 unfold dG at hG
 split at hG
 ·next d' ρ' q=>
  obtain⟨o,h1,h2⟩:=aY.mp hG;cases h2;exact S.s I q λv aF H' U' J st=>fin J h1 st
 ·next ρ' q=>
  obtain⟨o,h1,h2⟩:=aY.mp hG;cases h2;refine S.s I q λaF H' U' J st=> ?_;obtain⟨U2,J2,dJ⟩:=J.push (aJ.refl H') (cA.sc (K:=K) .aG);exact fin J2 h1 (st.trans dJ)
 ·cases hG
end
section
theorem av.aap(I:av K n H U σ hv Z τv τd):bT K H U Z.length (σ++hv++τv.map some) (Z++bU τd):=I.ok
theorem av.lend(I:av K n H U σ hv Z τv τd)(w:iH K H U (σ++hv) Z v (.rt r p))(hr:aV Z r=some d0)(hg:aI d0 p=some d1):
  av K n H U σ hv (Z.set r (some (.own (aZ d0 p (.hl v))))) (τv++ [v]) (τd++ [d1]):=by
 have l:=I.len;have tl:=I.tl;obtain⟨iN,vr,Qr,er,tT,_,hp⟩:=w;rw[hr]at tT;cases tT;refine⟨?_,by rw[bN];exact l,I.nn⟩;have k:=I.aap.take (r:=r) (p:=p) (vr:=vr) (by simp;lia) (by rw[aU iN];exact kS hr) (by rw[aU (by simp;lia)];exact er) hp hg;rw[bN,cK,cK, <- b8, <- b8];rw[uT _ _ iN]at k;exact k
theorem av.back(I:av K n H U σ hv Z (τv++ [v]) (τd++ [d]))(hr:aV Z r=some d0)(hg:aI d0 p=some (.hl v)):av K n H U σ hv (Z.set r (some (.own (aZ d0 p d)))) τv τd:=by
 have l:=I.len;have tl:=I.tl;have tl:τv.length=τd.length:=by simp at tl;lia
 have tS:=kS hr;have iN:r < Z.length:=(cm.mp tS).1;have ok:=I.ok;rw[cK,cK, <- b8, <- b8]at ok;have k:=ok.put (r:=r) (d0:=d0) (by simp;lia) (by simp;lia) (by rw[aU iN];exact tS) hg;rw[uT _ _ iN]at k;exact⟨by rw[bN];exact k,by rw[bN];exact l,I.nn⟩
theorem av.pick(I:av K n H U σ hv Z (τv++vs) (τd++ds))(hl:vs.length=ds.length)(h2:cC.length=i3.length)(π:Nat->Nat)(inj:∀i j,i < cC.length->j < cC.length->π i=π j->i=j)
  (iV:∀(i:Nat) (x:V),cC[i]?=some x->vs[π i]?=some x) (ahi:∀(i:Nat) (x:D),i3[i]?=some x->ds[π i]?=some x):av K n H U σ hv Z (τv++cC) (τd++i3):=by
 have l:=I.len;have tl:=I.tl;have tl:τv.length=τd.length:=by simp at tl;lia
 obtain⟨he,mu,Fs,dj,sub,sl⟩:=I.ok;have base:(σ++hv++τv.map some).length=Z.length + τd.length:=by simp;lia
 refine⟨⟨by simp;lia,mu,λi b=>if i < Z.length + τd.length then Fs i b else i < Z.length + τd.length + cC.length/\Fs (Z.length + τd.length + π (i - (Z.length + τd.length))) b,λi j b hi hj=> ?_,λi b hb=> ?_,λi β aa=> ?_⟩,l,I.nn⟩
 ·have hi:if i < Z.length + τd.length then Fs i b else i < Z.length + τd.length + cC.length/\Fs (Z.length + τd.length + π (i - (Z.length + τd.length))) b:=hi;have hj:if j < Z.length + τd.length then Fs j b else j < Z.length + τd.length + cC.length/\Fs (Z.length + τd.length + π (j - (Z.length + τd.length))) b:=hj;by_cases ci:i < Z.length + τd.length
  ·rw[if_pos ci]at hi;by_cases cj:j < Z.length + τd.length
   ·rw[if_pos cj]at hj;exact dj i j b hi hj
   ·rw[if_neg cj]at hj;have:=dj _ _ b hi hj.2;lia
  ·rw[if_neg ci]at hi;by_cases cj:j < Z.length + τd.length
   ·rw[if_pos cj]at hj;have:=dj _ _ b hi.2 hj;lia
   ·rw[if_neg cj]at hj;have:=dj _ _ b hi.2 hj.2;have:=inj (i - (Z.length + τd.length)) (j - (Z.length + τd.length)) (by lia) (by lia) (by lia)
    lia
 ·have hb:if i < Z.length + τd.length then Fs i b else i < Z.length + τd.length + cC.length/\Fs (Z.length + τd.length + π (i - (Z.length + τd.length))) b:=hb;by_cases ci:i < Z.length + τd.length
  ·rw[if_pos ci]at hb;exact sub _ b hb
  ·rw[if_neg ci]at hb;exact sub _ b hb.2
 ·have e0:∀(zs:List V) (j:Nat),j < Z.length + τd.length->(σ++hv++(τv++zs).map some)[j]?=(σ++hv++τv.map some)[j]?:=λzs j hj=>by
   rw[cK, <- b8,aU (by lia)]
  have lR:(Z++τd.map λd=>some (B.own d)).length=Z.length + τd.length:=by simp
  by_cases hi:i < Z.length + τd.length
  ·have g1:(Z++(τd++ds).map λd=>some (B.own d))[i]?=some (some β):=by
    rw[cK, <- b8,aU (by lia)]at aa |-;exact aa
   obtain⟨v,ev,sv⟩:=sl i β g1;refine⟨v,by rw[e0 cC i hi];rw[e0 vs i hi]at ev;exact ev, ?_⟩;have sv:=ox.slots sv λr hr=>by rw[e0 cC r (by lia),e0 vs r (by lia)]
   cases β with
   |own x=>
    show bg K H (λb=>if i < Z.length + τd.length then Fs i b else _) v x;simp only[if_pos hi];exact sv
   |ro x=>exact sv
   |aB r p=>exact sv
  ·have g0:(i3.map λd=>some (B.own d))[i - (Z.length + τd.length)]?=some (some β):=by
    rw[cK, <- b8,br (by lia),lR]at aa;exact aa
   rw[bJ]at g0;cases q:i3[i - (Z.length + τd.length)]? with
   |none=>rw[q]at g0;cases g0
   |some x=>
    rw[q]at g0;cases g0;obtain⟨u,hu⟩:=sA h2 q;have g1:(Z++(τd++ds).map λd=>some (B.own d))[Z.length + τd.length + π (i - (Z.length + τd.length))]?=some (some (.own x)):=by
     rw[cK, <- b8,br (by lia),lR,NX,bJ,ahi _ x q];rfl
    obtain⟨v,ev,sv⟩:=sl _ _ g1;rw[cK, <- b8,br (by lia),base,NX,bJ,iV _ u hu]at ev;cases ev;have dS:i - (Z.length + τd.length) < cC.length:=(cm.mp hu).1;refine⟨u,by rw[cK, <- b8,br (by lia),base,bJ,hu];rfl, ?_⟩;show bg K H (λb=>if i < Z.length + τd.length then _ else i < Z.length + τd.length + cC.length/\Fs (Z.length + τd.length + π (i - (Z.length + τd.length))) b) u x;simp only[if_neg hi];exact bg.mono sv λb z=>⟨by lia,z⟩
theorem av.aaq(I:av K n H U σ hv Z (τv++ws++vs) (τd++wd++ds))(hl:ws.length=wd.length)(h2:vs.length=ds.length):av K n H U σ hv Z (τv++vs) (τd++ds):=by
 rw[b8,b8]at I;exact I.pick (by simp;lia) h2 (λi=>ws.length + i) (λi j _ _ h=>by lia) (λi x h=>by rw[br (by lia),NX];exact h) (λi x h=>by rw[hl,br (by lia),NX];exact h)
theorem QC{α:Type}{xs:List α}{x:α}:∀(i:Nat) (y:α),(xs++ [x])[i]?=some y->(x::xs)[if i=xs.length then 0 else i + 1]?=some y:=λi y h=>by
 by_cases c:i=xs.length
 ·subst c;simp at h |-;exact h
 ·have hi:i < xs.length:=by
   have:=(cm.mp h).1;simp at this;lia
  rw[aU hi]at h;rw[if_neg c];simpa using h
theorem av.QD(I:av K n H U σ hv Z (τv++(v::vs)) (τd++(d::ds)))(hl:vs.length=ds.length):av K n H U σ hv Z (τv++vs++ [v]) (τd++ds++ [d]):=by
 rw[b8,b8];refine I.pick (by simp;exact hl) (by simp;exact hl) _ (λi j hi hj h=> ?_) QC (by rw[hl];exact QC);by_cases c1:i=vs.length
 ·by_cases c2:j=vs.length
  ·lia
  ·simp only[if_pos c1,if_neg c2]at h;lia
 ·by_cases c2:j=vs.length
  ·simp only[if_neg c1,if_pos c2]at h;lia
  ·simp only[if_neg c1,if_neg c2]at h;lia
structure Io where
 r:Nat
 p:List Nat
def dn:En->List Io->List V->En
 |Z,io::L,v::vs=>match aV Z io.r with
  |some d0=>dn (Z.set io.r (some (.own (aZ d0 io.p (.hl v))))) L vs
  |none=>Z
 |Z,_,_=>Z
def i4:En->List Io->Option (List D)
 |_, []=>some []
 |Z,io::L=>(aV Z io.r).bind λd0=>(aI d0 io.p).bind λd1=>(i4 Z L).map (d1:: ·)
def g9(ia:En):En->List Io->List D->En
 |Z,io::L,o::os=>match aV ia io.r with
  |some d0=>g9 ia (Z.set io.r (some (.own (aZ d0 io.p o)))) L os
  |none=>Z
 |Z,_,_=>Z
def jF(L:List Io):Prop:=L.Pairwise λa b=>a.r≠b.r
instance (L:List Io):Decidable (jF L):=inferInstanceAs (Decidable (L.Pairwise _))
theorem av.QE:∀{L:List Io} {Z:En} {τv:List V} {τd:List D} {vs:List V} {ds:List D},av K n H U σ hv Z τv τd->jF L->i4 Z L=some ds->vs.length=L.length->(∀(i:Nat) (io:Io) (v:V),L[i]?=some io->vs[i]?=some v->iH K H U (σ++hv) Z v (.rt io.r io.p))->
  av K n H U σ hv (dn Z L vs) (τv++vs) (τd++ds)
 | [],Z,τv,τd,vs,ds,I,_,h,hl,_=>by
  cases h;have:vs= []:=sN hl;subst this;rw[bR,bR];simp only[dn];exact I
 |io::L,Z,τv,τd, [],ds,I,_,h,hl,_=>by cases hl
 |io::L,Z,τv,τd,v::vs,ds,I,ha,h,hl,hp=>by
  rw[i4]at h;obtain⟨d0,h1,h⟩:=ak.mp h;obtain⟨d1,h2,h⟩:=ak.mp h;obtain⟨i3,h3,h⟩:=aY.mp h;subst h;have ap:=FQ.mp ha;have I1:=I.lend (hp 0 io v rfl rfl) h1 h2;have QF:∀j∈L,aV (Z.set io.r (some (.own (aZ d0 io.p (.hl v))))) j.r=aV Z j.r:=λj hj=>rP (ap.1 j hj);have aar:∀(M:List Io) (hM:∀j∈M,j∈L) (ds:List D),i4 Z M=some ds->i4 (Z.set io.r (some (.own (aZ d0 io.p (.hl v))))) M=some ds:=by
   intro M
   induction M with
   |nil=>intro _ ds h;exact h
   |cons j M ih=>
    intro hM ds h;rw[i4]at h |-;rw[QF j (hM j (.head _))];obtain⟨a,x1,h⟩:=ak.mp h;obtain⟨b,x2,h⟩:=ak.mp h;obtain⟨c,x3,h⟩:=aY.mp h;rw[x1];show(aI a j.p).bind _=_;rw[x2];show(i4 _ M).map _=_;rw[ih (λk hk=>hM k (.tail _ hk)) c x3];exact congrArg some h
  have I2:=I1.QE ap.2 (aar L (λj hj=>hj) i3 h3) (vs:=vs) (dA hl) λi j u hj hu=>by
   obtain⟨q1,vr,dd,q2,q3,q4,q5⟩:=hp (i + 1) j u (by simpa using hj) (by simpa using hu);exact⟨by rw[bN];exact q1,vr,dd,q2,by rw[QF j (jr hj)];exact q3,q4,q5⟩
  rw[dn,h1];rw[sM,sM τd];exact I2
def tV(ρ1 ag:En):Prop:=∀s q,((aV ρ1 s).bind (aI · q)).isSome=((aV ag s).bind (aI · q)).isSome
theorem aas(h:tV ρ1 ag)(b:Option B):fO ρ1 b=fO ag b:=by
 cases b with
 |none=>rfl
 |some c=>
  cases c with
  |own d=>rfl
  |ro d=>rfl
  |aB r p=>
   show(if p= []\/((aV ρ1 r).bind _).isSome=true then some _ else none)=(if p= []\/((aV ag r).bind _).isSome=true then some _ else none);rw[h r p]
theorem tV.hole{d0 e0 d1 e1 x y:D}(h:tV ρ1 ag)(l1:r < ρ1.length)(l2:r < ag.length)(g:∀q,(aI (aZ d0 p x) q).isSome=(aI (aZ e0 p y) q).isSome):tV (ρ1.set r (some (.own (aZ d0 p x)))) (ag.set r (some (.own (aZ e0 p y)))):=λs q=>by
 by_cases c:r=s
 ·subst c;rw[DJ l1,DJ l2];exact g q
 ·rw[rP c,rP c];exact h s q
theorem vS:∀(Z:En) (L:List Io) (vs:List V),(dn Z L vs).length=Z.length
 |Z, [],vs=>by simp[dn]
 |Z,io::L, []=>by simp[dn]
 |Z,io::L,v::vs=>by
  rw[dn];cases aV Z io.r with
  |none=>rfl
  |some d0=>show(dn _ L vs).length=_;rw[vS,bN]
theorem aat(h:ρ1[s]?=ag[s]?):aV ρ1 s=aV ag s:=by unfold aV;rw[h]
theorem QG:∀{L:List Io} {ρ1 ag:En} {vs us:List V},jF L->tV ρ1 ag->ρ1.length=ag.length->(∀io∈L,∃d0 d1,aV ρ1 io.r=some d0/\aV ag io.r=some d0/\aI d0 io.p=some d1)->vs.length=L.length->us.length=L.length->tV (dn ρ1 L vs) (dn ag L us)
 | [],ρ1,ag,vs,us,_,h,_,_,_,_=>by simp only[dn];exact h
 |io::L,ρ1,ag, [],us,_,_,_,_,h,_=>by cases h
 |io::L,ρ1,ag,_, [],_,_,_,_,_,h=>by cases h
 |io::L,ρ1,ag,v::vs,u::us,ha,h,hl,hr,l1,l2=>by
  obtain⟨d0,d1,q1,q2,q3⟩:=hr io (.head _);have ap:=FQ.mp ha;have r1:=(cm.mp (kS q1)).1;rw[dn,dn,q1,q2];refine QG ap.2 (h.hole (d1:=d1) (e1:=d1) r1 (by lia) λq=>HI q3 rfl rfl (λ_ _=>by rw[aI]) λ_ _=>by rw[aI]) (by rw[bN,bN];exact hl) (λj hj=> ?_) (dA l1) (dA l2);obtain⟨e0,e1,x1,x2,x3⟩:=hr j (.tail _ hj);exact⟨e0,e1,by rw[rP (ap.1 j hj)];exact x1,by rw[rP (ap.1 j hj)];exact x2,x3⟩
theorem HY:∀{L:List Io} {Z:En} {ds:List D},i4 Z L=some ds->∀io∈L,∃d0 d1,aV Z io.r=some d0/\aI d0 io.p=some d1
 |io::L,Z,ds,h,j,hj=>by
  rw[i4]at h;obtain⟨d0,h1,h⟩:=ak.mp h;obtain⟨d1,h2,h⟩:=ak.mp h;obtain⟨i3,h3,h⟩:=aY.mp h;cases hj with
  |head=>exact⟨d0,d1,h1,h2⟩
  |tail _ hj=>exact HY h3 j hj
theorem aau(ha:jF L)(h:i4 Z L=some ds)(l1:vs.length=L.length)(l2:us.length=L.length):tV (dn Z L vs) (dn Z L us):=
 QG ha (λ_ _=>rfl) rfl (λio rS=>let ⟨d0,d1,a,b⟩:=HY h io rS;⟨d0,d1,a,a,b⟩) l1 l2
theorem DO:∀{L:List Io} {Z:En} {vs:List V} {s:Nat},(∀io∈L,io.r≠s)->(dn Z L vs)[s]?=Z[s]?
 | [],Z,vs,s,_=>by simp only[dn]
 |io::L,Z, [],s,_=>by simp only[dn]
 |io::L,Z,v::vs,s,h=>by
  rw[dn];cases aV Z io.r with
  |none=>rfl
  |some d0=>
   show(dn _ L vs)[s]?=_;rw[DO λj hj=>h j (.tail _ hj),gq (h io (.head _))]
theorem HZ:∀{L:List Io} {Z:En} {vs:List V} {i:Nat} {io:Io} {d0:D},jF L->vs.length=L.length->L[i]?=some io->aV Z io.r=some d0->(∀j∈L,∃e,aV Z j.r=some e)->∃v,vs[i]?=some v/\aV (dn Z L vs) io.r=some (aZ d0 io.p (.hl v))
 | [],Z,vs,i,io,d0,_,_,h,_,_=>by simp at h
 |j::L,Z, [],i,io,d0,_,h,_,_,_=>by cases h
 |j::L,Z,v::vs,0,io,d0,ha,hl,h,hr,al=>by
  cases h;have ap:=FQ.mp ha;have iN:=(cm.mp (kS hr)).1;refine⟨v,rfl, ?_⟩;rw[dn,hr];rw[aat (DO λk hk=>(ap.1 k hk).symm),DJ iN]
 |j::L,Z,v::vs,i + 1,io,d0,ha,hl,h,hr,al=>by
  have ap:=FQ.mp ha;obtain⟨e,he⟩:=al j (.head _);have ne:=ap.1 io (jr h);rw[dn,he];obtain⟨u,hu,q⟩:=HZ (Z:=Z.set j.r (some _)) ap.2 (dA hl) h (by rw[rP ne];exact hr) λk hk=>by
   obtain⟨x,hx⟩:=al k (.tail _ hk);exact⟨x,by rw[rP (ap.1 k hk)];exact hx⟩
  exact⟨u,by simpa using hu,q⟩
inductive Ar where
 |io (i:Io) | tm (d:D) | rv (q:Pl) (d:D)
inductive j2(K:ah)(H:Hp)(U:Addr->Prop)(e:List (Option V))(Z:En):List Bool->List V->List Ar->List V->List D->Prop
 |nil:j2 K H U e Z [] [] [] [] []
 |io {m:List Bool} {v:V} {i:Io} {vs:List V} {as:List Ar} {ws:List V} {wd:List D}:iH K H U e Z v (.rt i.r i.p)->j2 K H U e Z m vs as ws wd->j2 K H U e Z (true::m) (v::vs) (.io i::as) ws wd
 |tm {m:List Bool} {v:V} {d:D} {vs:List V} {as:List Ar} {ws:List V} {wd:List D}:j2 K H U e Z m vs as ws wd->j2 K H U e Z (false::m) (v::vs) (.tm d::as) (v::ws) (d::wd)
 |rv {m:List Bool} {v:V} {q:Pl} {d:D} {vs:List V} {as:List Ar} {ws:List V} {wd:List D}:iH K H U e Z v q->gp Z q=some d->j2 K H U e Z m vs as ws wd->j2 K H U e Z (false::m) (v::vs) (.rv q d::as) ws wd
class tW(K:ah)(n:Nat)(bp:List Bool)(t:TA)(f:outParam (En->Option (List Ar))):Prop where
 s:∀{σ hv:List (Option V)} {H:Hp} {U:Addr->Prop} {Z:En} {τv:List V} {τd:List D} {as:List Ar} {Q:List V->Hp->Prop},av K n H U σ hv Z τv τd->f Z=some as->
  (∀vs ws wd H' U',av K n H' U' σ hv Z (τv++ws) (τd++wd)->ws.length=wd.length->bH U H U' H'->aJ H H'->j2 K H' U' (σ++hv) Z bp vs as ws wd->Q vs H')->t σ H Q
class SC(K:ah)(n:Nat)(bp:List Bool)(t:TA)(f:outParam (En->Option (List Ar×En))):Prop where
 s:∀{σ hv:List (Option V)} {H:Hp} {U:Addr->Prop} {Z ρ':En} {τv:List V} {τd:List D} {as:List Ar} {Q:List V->Hp->Prop},av K n H U σ hv Z τv τd->f Z=some (as,ρ')->
  (∀vs ws wd H' U',av K n H' U' σ hv ρ' (τv++ws) (τd++wd)->ws.length=wd.length->bH U H U' H'->j2 K H' U' (σ++hv) ρ' bp vs as ws wd->Q vs H')->t σ H Q
theorem iH.step(h:iH K H U e Z v q)(s:aJ H H')(st:bH U H U' H'):iH K H' U' e Z v q:=by
 cases q with
 |ro d=>
  exact h.over (λb o nb q=>st b o q nb) (gu.of s)
 |rt r p=>
  obtain⟨a,vr,d,b,c,e,f⟩:=h;exact⟨a,vr,d,b,c,e,f.same s⟩
instance ajN:tW K n [] fz (λ_=>some []):=⟨λ{σ hv H U Z τv τd as Q} I h k=>by
 cases h;exact k [] [] [] H U (by rw[bR,bR];exact I) rfl (bH.refl U H) (aJ.refl H) .nil⟩
noncomputable def gn (fp:En->Option Pl) (fr:En->Option (List Ar)) (Z:En):Option (List Ar):=(fp Z).bind λ
 |.rt r p=>(fr Z).map (.io ⟨r,p⟩:: ·)
 |.ro _=>none
instance ajO[P:SP K n te fp][R:tW K n m tr fr]:tW K n (true::m) (di te tr) (gn fp fr):=⟨λ{σ hv H U Z τv τd as Q} I h k=>by
 obtain⟨q,h1,h⟩:=ak.mp h;cases q with
 |ro _=>cases h
 |rt r p=>
  obtain⟨DP,h2,h⟩:=aY.mp h;subst h;refine P.s I h1 λv H1 s1 w1=> ?_;have e6:bH U H U H1:=λb o q nu=>⟨s1 b o q,nu⟩
  refine R.s (I.same s1) h2 λvs ws wd H2 U2 I2 hl dJ s2 ao=> ?_;exact k _ ws wd H2 U2 I2 hl (e6.trans dJ) (s1.trans s2) (.io (w1.step s2 dJ) ao)⟩
noncomputable def mr (fe:En->Option D) (fr:En->Option (List Ar)) (Z:En):Option (List Ar):=(fe Z).bind λd=>(fr Z).map (.tm d:: ·)
instance (priority:=200) ajP{m:List Bool}{te:TE}{tr:TA}{fe:En->Option D}{fr:En->Option (List Ar)}[A:SQ K n te fe][R:tW K n m tr fr]:tW K n (false::m) (di te tr) (mr fe fr):=⟨λ{σ hv H U Z τv τd as Q} I h k=>by
 obtain⟨d,h1,h⟩:=ak.mp h;obtain⟨DP,h2,h⟩:=aY.mp h;subst h;refine SQ.s I h1 λv H1 U1 I1 bQ s1=> ?_;refine R.s I1 h2 λvs ws wd H2 U2 I2 hl dJ s2 ao=> ?_;refine k _ _ _ H2 U2 ?_ (by rw[c8,c8,hl]) (bQ.trans dJ) (s1.trans s2) (.tm ao);rw[sM,sM τd];exact I2⟩
def fB(fp:En->Option Pl)(fr:En->Option (List Ar))(Z:En):Option (List Ar):=(fp Z).bind λq=>(gp Z q).bind λd=>if plain d=true then(fr Z).map (.tm d:: ·) else(fr Z).map (.rv q d:: ·)
instance (priority:=300) ajQ{m:List Bool}{te:TE}{tr:TA}{fp:En->Option Pl}{fr:En->Option (List Ar)}[P:SP K n te fp][R:tW K n m tr fr]:tW K n (false::m) (di te tr) (fB fp fr):=⟨λ{σ hv H U Z τv τd as Q} I h k=>by
 obtain⟨q,h1,h⟩:=ak.mp h;obtain⟨d,h2,h⟩:=ak.mp h;refine P.s I h1 λv H1 s1 w1=> ?_;have I1:=I.same s1;have e6:bH U H U H1:=λb o q nu=>⟨s1 b o q,nu⟩
 by_cases p:plain d=true
 ·rw[if_pos p]at h;obtain⟨DP,h3,h⟩:=aY.mp h;subst h;obtain⟨U1,AS,bQ⟩:=I1.push (aJ.refl H1) (cA.plain (I1.at w1 h2) p);refine R.s AS h3 λvs ws wd H2 U2 I2 hl dJ s2 ao=> ?_;refine k _ _ _ H2 U2 ?_ (by rw[c8,c8,hl]) (e6.trans (bQ.trans dJ)) (s1.trans s2) (.tm ao);rw[sM,sM τd];exact I2
 ·rw[if_neg p]at h;obtain⟨DP,h3,h⟩:=aY.mp h;subst h;refine R.s I1 h3 λvs ws wd H2 U2 I2 hl dJ s2 ao=> ?_;exact k _ ws wd H2 U2 I2 hl (e6.trans dJ) (s1.trans s2) (.rv (w1.step s2 dJ) h2 ao)⟩
instance (priority:=1000) ajR{bp:List Bool}{t:TA}{f:En->Option (List Ar)}[S:tW K n bp t f]:SC K n bp t (λZ=>(f Z).map λa=>(a,Z)):=⟨λ{σ hv H U Z ρ' τv τd as Q} I h k=>by
 obtain⟨DP,h1,h2⟩:=aY.mp h;cases h2;exact S.s I h1 λvs ws wd H' U' I' hl st s ao=>k vs ws wd H' U' I' hl st ao⟩
noncomputable def zz (fe:En->Option (D×En)) (fr:En->Option (List Ar×En)) (Z:En):Option (List Ar×En):=(fe Z).bind λa=>(fr a.2).map λr=>(.tm a.1::r.1,r.2)
instance (priority:=200) ayt{m:List Bool}{te:TE}{tr:TA}{fe:En->Option (D×En)}{fr:En->Option (List Ar×En)}[A:SM K n te fe][R:SC K n m tr fr]:SC K n (false::m) (di te tr) (zz fe fr):=⟨λ{σ hv H U Z ρ' τv τd as Q} I h k=>by
 obtain⟨⟨d,ρ1⟩,h1,h⟩:=ak.mp h;obtain⟨⟨DP,ag⟩,h2,h⟩:=aY.mp h;cases h;refine A.s I h1 λv H1 U1 I1 bQ=> ?_;refine R.s I1 h2 λvs ws wd H2 U2 I2 hl dJ ao=> ?_;refine k (v::vs) (v::ws) (d::wd) H2 U2 ?_ (by rw[c8,c8,hl]) (bQ.trans dJ) (.tm ao);rw[sM,sM τd];exact I2⟩
def An(fp:En->Option Pl)(fr:En->Option (List Ar×En))(Z:En):Option (List Ar×En):=(fp Z).bind λ
 |.rt r p=>if p= [] then(fr Z).bind λa=>if(aV a.2 r).isSome=true then some (.io ⟨r, []⟩::a.1,a.2) else none else none
 |.ro _=>none
instance (priority:=200) ayu{m:List Bool}{te:TE}{tr:TA}{fp:En->Option Pl}{fr:En->Option (List Ar×En)}[P:SP K n te fp][R:SC K n m tr fr]:SC K n (true::m) (di te tr) (An fp fr):=⟨λ{σ hv H U Z ρ' τv τd as Q} I h k=>by
 obtain⟨q,h1,h⟩:=ak.mp h;cases q with
 |ro _=>cases h
 |rt r p=>
  have h:(if p= [] then(fr Z).bind λa=>if(aV a.2 r).isSome=true then some (Ar.io ⟨r, []⟩::a.1,a.2) else none else none)=some (as,ρ'):=h;by_cases cp:p= []
  ·rw[if_pos cp]at h;subst cp;obtain⟨⟨DP,ag⟩,h2,h⟩:=ak.mp h;by_cases cr:(aV ag r).isSome=true
   ·have h:(if(aV ag r).isSome=true then some (Ar.io ⟨r, []⟩::DP,ag) else none)=some (as,ρ'):=h;rw[if_pos cr]at h;cases h;obtain⟨d',hd⟩:=VD.mp cr;refine P.s I h1 λv H1 s1 w1=> ?_;have e6:bH U H U H1:=λb o q nu=>⟨s1 b o q,nu⟩
    refine R.s (I.same s1) h2 λvs ws wd H2 U2 I2 hl dJ ao=> ?_;exact k (v::vs) ws wd H2 U2 I2 hl (e6.trans dJ) (.io (w1.root hd) ao)
   ·have h:(if(aV ag r).isSome=true then some (Ar.io ⟨r, []⟩::DP,ag) else none)=some (as,ρ'):=h;rw[if_neg cr]at h;cases h
  ·rw[if_neg cp]at h;cases h⟩
noncomputable def cT:List Ar->List Io
 | []=> []
 |.io i::r=>i::cT r
 |.tm _::r=>cT r
 |.rv _ _::r=>cT r
def mY(Z:En):Ar->Option D
 |.io i=>(aV Z i.r).bind (aI · i.p)
 |.tm d=>some d
 |.rv _ d=>some d
def gG(Z:En):List Ar->Option (List D)
 | []=>some []
 |a::r=>(mY Z a).bind λd=>(gG Z r).map (d:: ·)
noncomputable def kX:List Nat->List Nat->Bool
 |a::p,b::q=> !decide (a=b) || kX p q
 |_,_=>false
def kY(L:List Io):Ar->Bool
 |.rv (.rt r p) _=>L.all λi=> !decide (i.r=r) || kX i.p p
 |_=>true
theorem QH:∀{p q:List Nat} {d d1 x:D},kX p q=true->aI d p=some d1->plain x=false->aI (aZ d p x) q=aI d q
 | [],_,_,_,_,h,_,_=>by simp[kX]at h
 |_::_, [],_,_,_,h,_,_=>by simp[kX]at h
 |a::p,b::q, .sc _,d1,x,h,g,hx=>by rw[aI]at g;cases g
 |a::p,b::q, .hl _,d1,x,h,g,hx=>by rw[aI]at g;cases g
 |a::p,b::q, .nd k cs,d1,x,h,g,hx=>by
  rw[aI]at g;by_cases dM:cg k=true/\bI cs=true
  ·rw[if_pos dM]at g;cases g
  rw[if_neg dM]at g;cases hc:cs[a]? with
  |none=>rw[hc]at g;cases g
  |some c=>
   rw[hc]at g;have hn:=(cm.mp hc).1;have e1:aZ (.nd k cs) (a::p) x= .nd k (cs.set a (aZ c p x)):=by rw[aZ,hc]
   have px:=xZ hn (ya g hx);rw[e1,aI,aI,if_neg (by rintro⟨_,z⟩;rw[px]at z;cases z),if_neg dM];by_cases e:a=b
   ·subst e;rw[gK hn,hc];have h:kX p q=true:=by simpa[kX]using h
    exact QH h g hx
   ·rw[gq e]
def j3(Z:En)(L:List Io)(dq:List D):En:=g9 Z (el (dn Z L (L.map λ_=>V.aG))) L dq
theorem j2.len(h:j2 K H U e Z m vs as ws wd):vs.length=m.length/\as.length=m.length/\ws.length=wd.length:=by
 induction h with
 |nil=>exact⟨rfl,rfl,rfl⟩
 |io _ _ ih=>exact⟨congrArg _ ih.1,congrArg _ ih.2.1,ih.2.2⟩
 |tm _ ih=>exact⟨congrArg _ ih.1,congrArg _ ih.2.1,congrArg _ ih.2.2⟩
 |rv _ _ _ ih=>exact⟨congrArg _ ih.1,congrArg _ ih.2.1,ih.2.2⟩
theorem j2.aav(h:j2 K H U e Z m vs as ws wd):(bW m vs).length=(cT as).length/\∀(i:Nat) (io:Io) (v:V),(cT as)[i]?=some io->(bW m vs)[i]?=some v->iH K H U e Z v (.rt io.r io.p):=by
 induction h with
 |nil=>exact⟨rfl,λi io v h=>by simp[cT]at h⟩
 | @io m v i vs as ws wd p _ ih=>
  refine⟨by rw[bW,cT,c8,c8,ih.1],λj io u h1 h2=> ?_⟩;rw[cT]at h1;rw[bW]at h2;cases j with
  |zero=>cases h1;cases h2;exact p
  |succ j=>exact ih.2 j io u (by simpa using h1) (by simpa using h2)
 |tm _ ih=>rw[bW,cT];exact ih
 |rv _ _ _ ih=>rw[bW,cT];exact ih
theorem j2.QI(h:j2 K H U e Z m vs as ws wd):∀{ds:List D},gG Z as=some ds->ds.length=m.length/\i4 Z (cT as)=some (bW m ds):=by
 induction h with
 |nil=>intro ds q;cases q;exact⟨rfl,rfl⟩
 | @io m v i vs as ws wd p _ ih=>
  intro ds q;rw[gG]at q;obtain⟨x,q1,q⟩:=ak.mp q;obtain⟨r,q2,q⟩:=aY.mp q;subst q;obtain⟨l1,l2⟩:=ih q2;refine⟨congrArg _ l1, ?_⟩;obtain⟨d0,x1,x2⟩:=ak.mp q1;rw[cT,i4,bW,x1];show(aI d0 i.p).bind _=_;rw[x2];show(i4 Z _).map _=_;rw[l2];rfl
 |tm _ ih=>
  intro ds q;rw[gG]at q;obtain⟨x,q1,q⟩:=ak.mp q;obtain⟨r,q2,q⟩:=aY.mp q;subst q;obtain⟨l1,l2⟩:=ih q2;exact⟨congrArg _ l1,l2⟩
 |rv _ _ _ ih=>
  intro ds q;rw[gG]at q;obtain⟨x,q1,q⟩:=ak.mp q;obtain⟨r,q2,q⟩:=aY.mp q;subst q;obtain⟨l1,l2⟩:=ih q2;exact⟨congrArg _ l1,l2⟩
theorem j2.seen(h:j2 K H U e Z m vs as ws wd):∀{ds:List D},gG Z as=some ds->(∀(i:Nat) (w:V) (d:D),ws[i]?=some w->wd[i]?=some d->Vw K H N w d)->
  (∀q d v,iH K H U e Z v q->gp Z q=some d->Ar.rv q d∈as->Vw K H N v d)->∀(i:Nat) (v:V) (d:D),m[i]?=some false->vs[i]?=some v->ds[i]?=some d->Vw K H N v d:=by
 induction h with
 |nil=>intro ds q _ _ i v d h;simp at h
 |io _ _ ih=>
  intro ds q hw hs i v d h1 h2 h3;rw[gG]at q;obtain⟨x,q1,q⟩:=ak.mp q;obtain⟨r,q2,q⟩:=aY.mp q;subst q;cases i with
  |zero=>cases h1
  |succ i=>exact ih q2 hw (λq d v a b c=>hs q d v a b (.tail _ c)) i v d (by simpa using h1) (by simpa using h2) (by simpa using h3)
 |tm _ ih=>
  intro ds q hw hs i v d h1 h2 h3;rw[gG]at q;obtain⟨x,q1,q⟩:=ak.mp q;obtain⟨r,q2,q⟩:=aY.mp q;subst q;cases q1;cases i with
  |zero=>cases h2;cases h3;exact hw 0 _ _ rfl rfl
  |succ i=>exact ih q2 (λi w d a b=>hw (i + 1) w d (by simpa using a) (by simpa using b)) (λq d v a b c=>hs q d v a b (.tail _ c)) i v d (by simpa using h1) (by simpa using h2) (by simpa using h3)
 |rv p1 p2 _ ih=>
  intro ds q hw hs i v d h1 h2 h3;rw[gG]at q;obtain⟨x,q1,q⟩:=ak.mp q;obtain⟨r,q2,q⟩:=aY.mp q;subst q;cases q1;cases i with
  |zero=>cases h2;cases h3;exact hs _ _ _ p1 p2 (.head _)
  |succ i=>exact ih q2 hw (λq d v a b c=>hs q d v a b (.tail _ c)) i v d (by simpa using h1) (by simpa using h2) (by simpa using h3)
theorem av.QJ(ia:En):∀{L:List Io} {Z:En} {vs:List V} {dq:List D},av K n H U σ hv Z (τv++vs) (τd++dq)->jF L->vs.length=L.length->dq.length=L.length->
  (∀(i:Nat) (io:Io) (v:V),L[i]?=some io->vs[i]?=some v->∃d0 d1,aV ia io.r=some d0/\aI d0 io.p=some d1/\aV Z io.r=some (aZ d0 io.p (.hl v)))->av K n H U σ hv (g9 ia Z L dq) τv τd
 | [],Z,vs,dq,I,_,h1,h2,_=>by
  have e1:=sN h1;have e2:=sN h2;subst e1;subst e2;rw[bR,bR]at I;exact I
 |io::L,Z, [],dq,I,_,h1,h2,_=>by cases h1
 |io::L,Z,v::vs, [],I,_,h1,h2,_=>by cases h2
 |io::L,Z,v::vs,o::dq,I,ha,h1,h2,hq=>by
  have ap:=FQ.mp ha;obtain⟨d0,d1,q1,q2,q3⟩:=hq 0 io v rfl rfl;have I1:=(I.QD (by have:=dA h1;have:=dA h2;lia)).back q3 (HC q2 rfl);rw[HD q2]at I1;rw[g9,q1];refine I1.QJ ia ap.2 (dA h1) (dA h2) λi j u hj hu=> ?_;obtain⟨e0,e1,x1,x2,x3⟩:=hq (i + 1) j u (by simpa using hj) (by simpa using hu);exact⟨e0,e1,x1,x2,by rw[rP (ap.1 j (jr hj))];exact x3⟩
theorem H9(ia:En):∀(Z:En) (L:List Io) (dq:List D),(g9 ia Z L dq).length=Z.length
 |Z, [],_=>by simp only[g9]
 |Z,io::L, []=>by simp only[g9]
 |Z,io::L,o::os=>by
  rw[g9];cases aV ia io.r with
  |none=>rfl
  |some d0=>show(g9 ia _ L os).length=_;rw[H9,bN]
theorem QK(ia:En):∀{L:List Io} {ρ1 ag:En} {dq:List D},ρ1.length=ag.length->dq.length=L.length->(∀io∈L,∃d0,aV ia io.r=some d0)->(∀io∈L,io.r < ρ1.length)->(∀(i:Nat) (β:B),(∀io∈L,io.r≠i)->ρ1[i]?=some (some β)->ag[i]?=some (some β))->
  ∀(i:Nat) (β:B),(g9 ia ρ1 L dq)[i]?=some (some β)->(g9 ia ag L dq)[i]?=some (some β)
 | [],ρ1,ag,dq,_,_,_,_,h,i,β,q=>by
  exact h i β (λ_ z=>nomatch z) q
 |io::L,ρ1,ag, [],_,h,_,_,_,_,_,_=>by cases h
 |io::L,ρ1,ag,o::os,hl,h2,hr,dS,h,i,β,q=>by
  obtain⟨d0,e0⟩:=hr io (.head _);rw[g9,e0]at q |-;refine QK ia (by rw[bN,bN];exact hl) (dA h2) (λj hj=>hr j (.tail _ hj)) (λj hj=>by rw[bN];exact dS j (.tail _ hj)) (λj γ hj z=> ?_) i β q;by_cases c:io.r=j
  ·subst c;have:=dS io (.head _);rw[gK this]at z;rw[gK (by lia)];exact z
  ·rw[gq c]at z |-;exact h j γ (λk hk=>by
    cases hk with
    |head=>exact c
    |tail _ hk=>exact hj k hk) z
theorem av.weaken(I:av K n H U σ hv ag τv τd)(hl:Z.length=ag.length)(w:∀(i:Nat) (β:B),Z[i]?=some (some β)->ag[i]?=some (some β)):av K n H U σ hv Z τv τd:=by
 have l:=I.len;refine⟨?_,by rw[hl];exact l,I.nn⟩;rw[hl];refine I.ok.weaken (by simp[hl]) λi β h=> ?_;by_cases hi:i < Z.length
 ·rw[aU hi]at h;rw[aU (by lia)];exact w i β h
 ·rw[br (by lia)]at h;rw[br (by lia), <- hl];exact h
theorem av.sets(I:av K n H U σ hv Z (τv++ws) (τd++wd))(hl:ws.length=wd.length)(i:Nat){d:D}(h1:ws[i]?=some w)(h2:wd[i]?=some d):(σ++hv++(τv++ws).map some)[Z.length + τd.length + i]?=some (some w)/\(Z++bU (τd++wd))[Z.length + τd.length + i]?=some (some (.own d)):=by
 have l:=I.len;have tl:=I.tl;have tl:τv.length=τd.length:=by simp at tl;lia
 constructor
 ·rw[br (by simp;lia),bJ,br (by simp;lia)];rw[show Z.length + τd.length + i - (σ++hv).length - τv.length=i by simp;lia,h1];rfl
 ·unfold bU;rw[br (by lia),bJ,br (by lia)];rw[show Z.length + τd.length + i - Z.length - τd.length=i by lia,h2];rfl
def fL(G:List D->Option (D×List D))(as:List Ar)(ρ1:En):Option (D×En):=(gG ρ1 as).bind λds=>
 if jF (cT as)/\as.all (kY (cT as))=true then(G ds).bind λr=>if r.2.length=(cT as).length then some (r.1,j3 ρ1 (cT as) r.2) else none else none
theorem av.Ia{G:List D->Option (D×List D)}{Q:VK}{ρ1:En}(I1:av K n H1 U1 σ hv ρ1 (τv++ws) (τd++wd))(hl:ws.length=wd.length)(bQ:bH U H U1 H1)(ao:j2 K H1 U1 (σ++hv) ρ1 bp vs as ws wd)
  (h:fL G as ρ1=some (d,ρ')) (k:∀v H' U',av K n H' U' σ hv ρ' (τv++ [v]) (τd++ [d])->bH U H U' H'->Q v H'):dW K bp G vs H1 Q E:=by
 obtain⟨ds,h2,h⟩:=ak.mp h;have c:jF (cT as)/\as.all (kY (cT as))=true:=by
  by_cases c:jF (cT as)/\as.all (kY (cT as))=true
  ·exact c
  ·rw[if_neg c]at h;cases h
 rw[if_pos c]at h;obtain⟨⟨d',dq⟩,h3,h⟩:=ak.mp h;have h:(if dq.length=(cT as).length then some (d',j3 ρ1 (cT as) dq) else none)=some (d,ρ'):=h;have co:dq.length=(cT as).length:=by
  by_cases co:dq.length=(cT as).length
  ·exact co
  ·rw[if_neg co]at h;cases h
 rw[if_pos co]at h;cases h;have dw:=ao.len;obtain⟨il,aaw⟩:=ao.aav;obtain⟨dl,Ib⟩:=ao.QI h2;have I2:=I1.QE c.1 Ib il aaw;have l2:=I2.len;have Ic:=I1.tl;have lh:(dn ρ1 (cT as) (bW bp vs)).length=ρ1.length:=vS _ _ _;have aax:(bW bp vs).length=(bW bp ds).length:=DN dw.1 dl
 -- what is QI is parted from all else
 have HM:bT K H1 U1 ρ1.length ((σ++hv++(τv++ws).map some)++(bW bp vs).map some) ((dn ρ1 (cT as) (bW bp vs)++bU (τd++wd))++bU (bW bp ds)):=by
  have:=I2.ok;rw[lh,cK,cK (l₁:=τd++wd), <- b8, <- b8]at this;exact this
 have lE:(σ++hv++(τv++ws).map some).length=(dn ρ1 (cT as) (bW bp vs)++bU (τd++wd)).length:=by
  unfold bU;have l1:=I1.len;simp[lh]at Ic |-
  lia
 have hm:ρ1.length<=(σ++hv++(τv++ws).map some).length:=by have l1:=I1.len;simp;lia
 obtain⟨Ut,su,aay,seen,back⟩:=HM.call lE hm (vO _);have yb:=HY Ib;refine⟨dw.1,ds,Ut,d,dq,dl,aay,ao.seen h2 (λi w x hw hx=> ?_) (λq x u pq pd mem=> ?_),h3,λv H2 U2 DK gZ=> ?_⟩
 ·-- what is under way
  obtain⟨g1,g2⟩:=I2.drop (vs:=bW bp vs) (ds:=bW bp ds) aax |>.sets hl i hw hx;rw[lh]at g1;obtain⟨F,r,nf⟩:=(seen _ w x g1).1 (by rw[lh]at g2;exact g2);exact r.view nf
 ·-- what is only seen
  cases q with
  |ro y=>
   have pd:some y=some x:=pd;cases pd;have pq:Vw K H1 (λb=>¬ U1 b) u x:=pq;exact pq.mono λb nb z=>nb (su b z)
  |rt r p=>
   obtain⟨hr,vr,d0,er,rR,hg,hp⟩:=pq;have QL:(aV ρ1 r).bind (aI · p)=some x:=pd;rw[rR]at QL;have QM:aI d0 p=some x:=QL;have AU:(σ++hv++(τv++ws).map some)[r]?=some (some vr):=by rw[aU (by have l1:=I1.len;simp;lia)];exact er
   have aaz:∀io∈cT as,io.r≠r\/kX io.p p=true:=by
    have:=gA.mp c.2 _ mem;have:=gA.mp this;intro io rS;have:=this io rS;by_cases z:io.r=r
    ·right;simpa[z]using this
    ·left;exact z
   by_cases AV:∃(i:Nat) (io:Io),(cT as)[i]?=some io/\io.r=r
   ·obtain⟨i,io,hi,e⟩:=AV;subst e;obtain⟨v2,Ie,q⟩:=HZ (vs:=bW bp vs) c.1 il hi rR λj hj=>let ⟨a,_,b,_⟩:=yb j hj;⟨a,b⟩;obtain⟨a0,a1,b0,b1⟩:=yb io (jr hi);rw[rR]at b0;cases b0;have q':=kS q;obtain⟨F,rr,nf⟩:=(seen io.r vr _ AU).1 (by rw[aU (by lia)];exact q');have ap:=(aaz io (jr hi)).resolve_left λz=>z rfl;exact rr.sub (by rw[QH ap b1 rfl];exact QM) hp nf
   ·have q:(dn ρ1 (cT as) (bW bp vs))[r]?=some (some (.own d0)):=by
     rw[DO λio rS z=>by
      obtain⟨i,hi⟩:=List.mem_iff_getElem?.mp rS;exact AV ⟨i,io,hi,z⟩]
     exact kS rR
    obtain⟨F,rr,nf⟩:=(seen r vr _ AU).1 (by rw[aU (by lia)];exact q);exact rr.sub QM hp nf
 ·-- all is given back
  obtain⟨U3,DQ,nz⟩:=back H2 U2 _ _ DK gZ λb hb=>by
   cases hb with
   |head=>exact .inr ⟨d,rfl⟩
   |tail _ hb=>exact Z8 dq b hb
  have I3:av K n H2 U3 σ hv (el (dn ρ1 (cT as) (bW bp vs))) (τv++ws++(v::bW bp vs)) (τd++wd++(d::dq)):=by
   refine⟨?_,by rw[iE,lh];exact I1.len,I1.nn⟩;rw[iE,lh];have aaA:bT K H2 U3 ρ1.length (σ++hv++(τv++ws).map some++(v::bW bp vs).map some) ((el (dn ρ1 (cT as) (bW bp vs))++bU (τd++wd))++bU (d::dq)):=by
    refine DQ.weaken (by rw[bo,bo,bo,iE,iE,bo];rfl) λi β aa=> ?_;by_cases hi:i < ρ1.length + (τd++wd).length
    ·rw[aU (by simp[iE,bU,lh]at hi |-;lia)]at aa;rw[aU (by simp[iE,bU,lh]at hi |-;lia)];exact Qq (vO _) i β aa
    ·rw[br (by simp[iE,bU,lh]at hi |-;lia)]at aa;rw[br (by simp[iE,bU,lh]at hi |-;lia)];simp[iE,bU,lh]at aa |-;exact aa
   rw[cK (l₁:=τv++ws),cK (l₁:=τd++wd), <- b8, <- b8];exact aaA
  have I4:=I3.aaq hl (by rw[c8,c8,il,co]);have I5:av K n H2 U3 σ hv (el (dn ρ1 (cT as) (bW bp vs))) (τv++ [v]++bW bp vs) (τd++ [d]++dq):=by
   rw[<- sM, <- sM];exact I4
  have I6:=I5.QJ ρ1 (L:=cT as) c.1 il co λi io u hi hu=>by
   obtain⟨a0,a1,b0,b1⟩:=yb io (jr hi);obtain⟨v2,Ie,q⟩:=HZ (vs:=bW bp vs) c.1 il hi b0 λj hj=>let ⟨a,_,b,_⟩:=yb j hj;⟨a,b⟩;rw[hu]at Ie;cases Ie;exact⟨a0,a1,b0,b1,by unfold aV;rw[Qp (kS q)]⟩
  refine k v H2 U3 (I6.weaken ?_ ?_) (bQ.trans nz)
  ·unfold j3;rw[H9,H9,iE,iE,vS,vS]
  ·unfold j3;refine QK ρ1 (by rw[iE,iE,vS,vS]) co (λio rS=>let ⟨a,_,b,_⟩:=yb io rS;⟨a,b⟩) (λio rS=> ?_) λi β hi aa=> ?_
   ·obtain⟨a,_,b,_⟩:=yb io rS;rw[iE,vS];exact(cm.mp (kS b)).1
   ·unfold el at aa |-;rw[bJ,DO hi]at aa |-;rw[<- aa];have sim:tV (dn ρ1 (cT as) (bW bp vs)) (dn ρ1 (cT as) ((cT as).map λ_=>V.aG)):=aau c.1 Ib il (by simp)
    congr 1
    funext b;exact aas sim b
instance ajS[A:SC K n bp ta fa]:SM K n (og (dW K bp G) [] E ta) (λZ=>(fa Z).bind λa=>fL G a.1 a.2):=⟨λ{σ hv H U Z ρ' τv τd d Q} I h k=>by
 obtain⟨⟨as,ρ1⟩,h1,h⟩:=ak.mp h;refine A.s I h1 λvs ws wd H1 U1 I1 hl bQ ao=> ?_;rw[bR];exact I1.Ia hl bQ ao h k⟩
def jG(K:ah)(H H':Hp)(vs:List V)(ds:List D):Prop:=vs.length=ds.length/\∃Fs:Nat->Addr->Prop,(∀i j b,Fs i b->Fs j b->i=j)/\(∀i b,Fs i b->H b=none/\iB (H' b))/\∀(i:Nat) (v:V) (d:D),vs[i]?=some v->ds[i]?=some d->bg K H' (Fs i) v d
theorem jG.nil:jG K H H' [] []:=⟨rfl,λ_ _=>False,λ_ _ _ z=>z.elim,λ_ _ z=>z.elim,λi v d h=>by simp at h⟩
theorem jG.cons(o:cA K H H1 v d)(s1:aJ H1 H2)(t:jG K H1 H2 vs ds)(s0:aJ H H1):jG K H H2 (v::vs) (d::ds):=by
 obtain⟨G,r,f⟩:=o;obtain⟨hl,Fs,dj,fr,rp⟩:=t;have Gn:∀b,G b->∀i,¬ Fs i b:=λb z i w=>by
  obtain⟨u,q⟩:=rN (f b z).2;rw[(fr i b w).1]at q;cases q
 refine⟨by rw[c8,c8,hl],λi b=>match i with | 0=>G b | i + 1=>Fs i b,λi j b hi hj=> ?_,λi b hb=> ?_,λi x y hx hy=> ?_⟩
 ·cases i with
  |zero=>cases j with
   |zero=>rfl
   |succ j=>exact absurd hj (Gn b hi j)
  |succ i=>cases j with
   |zero=>exact absurd hi (Gn b hj i)
   |succ j=>rw[dj i j b hi hj]
 ·cases i with
  |zero=>exact⟨(f b hb).1,AL (f b hb).2 s1⟩
  |succ i=>
   refine⟨?_,(fr i b hb).2⟩;cases q:H b with
   |none=>rfl
   |some o=>have:=(fr i b hb).1;rw[s0 b o q]at this;cases this
 ·cases i with
  |zero=>cases hx;cases hy;exact r.same s1
  |succ i=>exact rp i x y (by simpa using hx) (by simpa using hy)
theorem jG.node(h:jG K H H1 vs ds)(s:aJ H H1)(hp:H1 p=none)(hold:(k= .tup/\o= .tup vs)\/(cg k=false/\fits K k vs.length/\∃dx,o=ho k dx vs)):cA K H (cf H1 p o) (.ref p) (.nd k ds):=by
 obtain⟨hl,Fs,dj,fr,rp⟩:=h;have s2:=fE hp o;have np:∀i,¬ Fs i p:=λi z=>by
  obtain⟨u,w⟩:=rN (fr i p z).2;rw[hp]at w;cases w
 have aaB:=s.free hp;refine⟨λb=>(∃i,Fs i b)\/(cg k=false/\b=p), .nd Fs ?_ hl dj (λi b hb=>⟨.inl ⟨i,hb⟩,λ_ z=>by rw[z]at hb;exact np i hb⟩) λi v d hv hd=>(rp i v d hv hd).same s2,λb hb=> ?_⟩
 ·rcases hold with⟨h1,h2⟩ | ⟨h1,h2,dx,h3⟩
  ·subst h1;show cf H1 p o p=some _;rw[de,h2]
  ·exact jB.put h1 (.inr ⟨h1,rfl⟩) ⟨h1,h2,dx,by rw[de,h3]⟩
 ·rcases hb with⟨i,hb⟩ | ⟨h1,rfl⟩
  ·exact⟨(fr i b hb).1,AL (fr i b hb).2 s2⟩
  ·refine⟨aaB, ?_⟩;rcases hold with⟨z,_⟩ | ⟨_,_,dx,h3⟩
   ·subst z;cases h1
   ·rw[de,h3];exact Ql (a:=b) h1
class yc(K:ah)(n:Nat)(t:TA)(f:outParam (En->Option (List D))):Prop where
 s:∀{σ hv:List (Option V)} {H:Hp} {U:Addr->Prop} {Z:En} {τv:List V} {τd:List D} {ds:List D} {Q:List V->Hp->Prop},av K n H U σ hv Z τv τd->f Z=some ds->(∀vs H',aJ H H'->jG K H H' vs ds->Q vs H')->t σ H Q
instance ajT:yc K n fz (λ_=>some []):=⟨λI h k=>by cases h;exact k [] _ (aJ.refl _) .nil⟩
instance ajU[A:SQ K n ta fa][R:yc K n tr fr]:yc K n (di ta tr) (ar fa fr):=⟨λ{σ hv H U Z τv τd ds Q} I h k=>by
 obtain⟨a,ha,h⟩:=ak.mp h;obtain⟨r,hr,h⟩:=aY.mp h;cases h;refine A.o I ha λx H1 s1 o1=> ?_;exact R.s (I.same s1) hr λxs H2 s2 o2=>k _ H2 (s1.trans s2) (jG.cons o1 s2 o2 s1)⟩
noncomputable def d7 (k:Kd) (f:En->Option (List D)) (Z:En):Option D:=(f Z).bind λr=>if r.length<=aM then some (.nd k r) else none
instance ajV[A:yc K n ta fa]:SF K n (Ai ta) (d7 .tup fa):=⟨λ{σ hv H U Z τv τd d Q} I h k=>by
 obtain⟨a,ha,h⟩:=ak.mp h;by_cases c:a.length<=aM
 ·rw[if_pos c]at h;cases h;refine A.s I ha λxs H1 s1 o=>⟨by rw[o.1];exact c,λp hp=> ?_⟩
  exact k _ _ (s1.trans (fE hp _)) (o.node s1 hp (.inl ⟨rfl,rfl⟩))
 ·rw[if_neg c]at h;cases h⟩
instance ajW[A:yc K n ta fa]:SF K n (vn ta) (d7 .lst fa):=⟨λ{σ hv H U Z τv τd d Q} I h k=>by
 obtain⟨a,ha,h⟩:=ak.mp h;by_cases c:a.length<=aM
 ·rw[if_pos c]at h;cases h;refine A.s I ha λxs H1 s1 o=>⟨by rw[o.1];exact c,λp hp=> ?_⟩
  exact k _ _ (s1.trans (fE hp _)) (o.node s1 hp (.inr ⟨rfl,trivial,0,rfl⟩))
 ·rw[if_neg c]at h;cases h⟩
theorem cv.node(h:cv K H T1 vs ds)(hp:H p=none)(hold:(k= .tup/\o= .tup vs)\/(cg k=false/\fits K k vs.length/\∃dx,o=ho k dx vs)):Vw K (cf H p o) T1 (.ref p) (.nd k ds):=by
 refine .nd (λ_=>trivial) ?_ h.1 λi v d hv hd=>(h.2 i v d hv hd).same (fE hp o);rcases hold with⟨h1,h2⟩ | ⟨h1,h2,dx,h3⟩
 ·subst h1;exact⟨trivial,by show cf H p o p=some _;rw[de,h2]⟩
 ·exact qt.cell ⟨h1,h2,dx,by rw[de,h3]⟩
instance (priority:=800) ajX{ta:TA}{fa:En->Option (List D)}[A:SA K n ta fa]:SV K n (Ai ta) (d7 .tup fa):=⟨λ{σ hv H U Z τv τd d Q} I h k=>by
 obtain⟨a,ha,h⟩:=ak.mp h;by_cases c:a.length<=aM
 ·rw[if_pos c]at h;cases h;refine A.s I ha λxs H1 s1 o=>⟨by rw[o.1];exact c,λp hp=> ?_⟩
  exact k _ _ (s1.trans (fE hp _)) (o.node hp (.inl ⟨rfl,rfl⟩))
 ·rw[if_neg c]at h;cases h⟩
instance (priority:=800) ajY{ta:TA}{fa:En->Option (List D)}[A:SA K n ta fa]:SV K n (vn ta) (d7 .lst fa):=⟨λ{σ hv H U Z τv τd d Q} I h k=>by
 obtain⟨a,ha,h⟩:=ak.mp h;by_cases c:a.length<=aM
 ·rw[if_pos c]at h;cases h;refine A.s I ha λxs H1 s1 o=>⟨by rw[o.1];exact c,λp hp=> ?_⟩
  exact k _ _ (s1.trans (fE hp _)) (o.node hp (.inr ⟨rfl,trivial,0,rfl⟩))
 ·rw[if_neg c]at h;cases h⟩
open Classical in
noncomputable def intD (C:Int->Int->Prop) (g:Int->Int->V) (a b:D):Option D:=match a,b with
 |.sc (.int i), .sc (.int j)=>if C i j then some (.sc (g i j)) else none
 |_,_=>none
noncomputable def iO (g:Int->Int->V) (a b:D):Option D:=match a,b with
 |.sc (.int i), .sc (.int j)=>some (.sc (g i j))
 |_,_=>none
instance ajZ:jD K (qj g) (iO g):=⟨λ{H x y dx dy d Q} w1 w2 h k=>by
 unfold iO at h
 split at h
 ·next i j=>cases h;exact⟨i,j,w1.bA,w2.bA,k _ H (aJ.refl H) (.sc _)⟩
 ·cases h⟩
instance aj0:jD K (rI C g) (intD C g):=⟨λ{H x y dx dy d Q} w1 w2 h k=>by
 unfold intD at h
 split at h
 ·next i j=>
  by_cases c:C i j
  ·rw[if_pos c]at h;cases h;exact⟨i,j,w1.bA,w2.bA,c,k _ H (aJ.refl H) (.sc _)⟩
  ·rw[if_neg c]at h;cases h
 ·cases h⟩
noncomputable def lP (g:Int->V) (a:D):Option D:=match a with
 |.sc (.int i)=>some (.sc (g i))
 |_=>none
instance aj1:Qj K (rU g) (lP g):=⟨λ{H x dx d Q} w1 h k=>by
 unfold lP at h
 split at h
 ·next i=>cases h;exact⟨i,w1.bA,k _ H (aJ.refl H) (.sc _)⟩
 ·cases h⟩
mutual
noncomputable def cy:D->Option PyData
 |.sc .aG=>some .none
 |.sc (.bl b)=>some (.bool b)
 |.sc (.int i)=>some (.int i)
 |.sc (.str x)=>some (.str x)
 |.nd .tup cs=>(ky cs).map .tuple
 |.nd .lst cs=>(ky cs).map .list
 |.nd .e8 cs=>(ky cs).map .list
 |_=>none
noncomputable def ky:List D->Option (List PyData)
 | []=>some []
 |d::ds=>(cy d).bind λx=>(ky ds).map (x:: ·)
end
theorem DR:∀{ds:List D} {vs:List V} {ps:List PyData},vs.length=ds.length->(∀(i:Nat) (v:V) (d:D) (p:PyData),vs[i]?=some v->ds[i]?=some d->cy d=some p->jW K H v p)->ky ds=some ps->vG K H vs ps
 | [], [],_,_,_,h=>by rw[ky]at h;cases h;exact .nil
 | [],_::_,_,h,_,_=>by cases h
 |_::_, [],_,h,_,_=>by cases h
 |d::ds,v::vs,ps,hl,hk,h=>by
  rw[ky]at h;obtain⟨x,h1,h⟩:=ak.mp h;obtain⟨r,h2,h⟩:=aY.mp h;subst h;exact .cons (hk 0 v d x rfl rfl h1) (DR (dA hl) (λi v d p a b c=>hk (i + 1) v d p (by simpa using a) (by simpa using b) c) h2)
theorem Vw.py(h:Vw K H N v d):∀{p:PyData},cy d=some p->jW K H v p:=by
 induction h with
 |sc v=>
  intro p e;cases v with
  |aG=>rw[cy]at e;cases e;exact .aG
  |bl b=>rw[cy]at e;cases e;exact .bl b
  |int i=>rw[cy]at e;cases e;exact .int i
  |str x=>rw[cy]at e;cases e;exact .str x
  |uZ _=>simp[cy]at e
  |kl _=>simp[cy]at e
  |ref _=>simp[cy]at e
  |ty _=>simp[cy]at e
 |hl v=>intro p e;simp[cy]at e
 | @nd a k vs cs h1 h2 h3 _ ih=>
  intro p e;cases k with
  |tup=>
   rw[cy]at e;obtain⟨ps,e1,e2⟩:=aY.mp e;subst e2;exact .tup (cE.of h2.2) (DR h3 (λi v d p x y z=>ih i v d x y z) e1)
  |lst=>
   rw[cy]at e;obtain⟨ps,e1,e2⟩:=aY.mp e;subst e2;exact .lst (.inl (.inl h2.2)) (DR h3 (λi v d p x y z=>ih i v d x y z) e1)
  |e8=>
   rw[cy]at e;obtain⟨ps,e1,e2⟩:=aY.mp e;subst e2;exact .lst (jA.sq h2.2) (DR h3 (λi v d p x y z=>ih i v d x y z) e1)
  |_=>simp[cy]at e
def ye(K:ah):R2:=λx y H Q=>∃dx dy,jW K H x dx/\jW K H y dy/\dx.canLay0=true/\dy.canLay0=true/\dx.depth<=60/\Q (.bl (d9 dx dy)) H
def aiZ(K:ah):R2:=λx y H Q=>∃dx dy,jW K H x dx/\jW K H y dy/\dx.canLay0=true/\dy.canLay0=true/\dx.depth<=60/\Q (.bl (!d9 dx dy)) H
theorem DS(hu:X.A.units + 64 < cLine):cu X (compareOp .Eq) (ye X.K):=Zh hu
theorem Ig(hu:X.A.units + 64 < cLine):cu X (compareOp .NotEq) (aiZ X.K):=Zi hu
def dN(g:Bool->Bool)(a b:D):Option D:=(cy a).bind λx=>(cy b).bind λy=>if x.canLay0=true/\y.canLay0=true/\x.depth<=60 then some (.sc (.bl (g (d9 x y)))) else none
instance aj2:jD K (ye K) (dN id):=⟨λ{H x y dx dy d Q} w1 w2 h k=>by
 obtain⟨a,h1,h⟩:=ak.mp h;obtain⟨b,h2,h⟩:=ak.mp h;by_cases c:a.canLay0=true/\b.canLay0=true/\a.depth<=60
 ·rw[if_pos c]at h;cases h;exact⟨a,b,w1.py h1,w2.py h2,c.1,c.2.1,c.2.2,k _ H (aJ.refl H) (.sc _)⟩
 ·rw[if_neg c]at h;cases h⟩
instance aj3:jD K (aiZ K) (dN (!·)):=⟨λ{H x y dx dy d Q} w1 w2 h k=>by
 obtain⟨a,h1,h⟩:=ak.mp h;obtain⟨b,h2,h⟩:=ak.mp h;by_cases c:a.canLay0=true/\b.canLay0=true/\a.depth<=60
 ·rw[if_pos c]at h;cases h;exact⟨a,b,w1.py h1,w2.py h2,c.1,c.2.1,c.2.2,k _ H (aJ.refl H) (.sc _)⟩
 ·rw[if_neg c]at h;cases h⟩
end
end VL
namespace L2
open PySem PySem.Spec PyProof.Rows
section
end
theorem lQ:([x]:List Str).Nodup:=jP.mpr ⟨dh,List.nodup_nil⟩
def j4(K:ah)(T:String):List V->Hp->VK->Prop:=λxs H Q=>∃x t b,xs= [x, .ty T]/\kP K H x t/\xg K t (.type T)=some b/\Q (.bl b) H
theorem arR:fT X (.builtin "isinstance") (j4 X.K T):=YJ
theorem aaC(K:ah)(a b:String)(h1:((w9 a) == (w9 b))=false)(h2:W.kitMeta b=true)(h3:(fastBuiltinMro a).map (·.contains (.type b))=some false):xg K (.type a) (.type b)=some false:=by
 unfold xg;rw[h1,if_neg (by simp)];show(if W.kitMeta b=true then W.subIn K (.type a) (.type b) else none)=some false;rw[if_pos h2];exact h3
section
variable (K:ah)
end
section
theorem DT{K:ah}(hK:X.K=K){k:Nat}{pos:Pos}(hc:X.calm=true)(h:zG X es t)(hn:(wR es X.env).length=n:=by rfl)(Ge:(wR es X.env).findIdx? (·.1)=none:=by rfl):
  PG X (.Tuple es k pos) (CH K n t):=by
 subst hK;exact WI hc h hn Ge
end
end L2
namespace VL
open PySem PySem.Spec PyProof.Rows L2
section
variable {κ:Type}[DecidableEq κ]
noncomputable def cM (k:κ):List κ->Option Nat
 | []=>none
 |g::r=>if g=k then some 0 else(cM k r).map (· + 1)
theorem DU:∀{ks:List κ} {vs:List V},ks.length=vs.length->mT (ks.zip vs) k=(cM k ks).bind (vs[·]?)
 | [], [],_=>rfl
 | [],_::_,h=>by cases h
 |_::_, [],h=>by cases h
 |g::r,v::vs,h=>by
  rw[nV,cM];by_cases c:g=k
  ·rw[C6 (by exact c),if_pos c];rfl
  ·rw[C7 (by exact c),if_neg c,DU (dA h)];cases cM k r with
   |none=>rfl
   |some i=>simp
theorem AX:∀{ks:List κ} {i:Nat},cM k ks=some i->i < ks.length
 | [],_,h=>by cases h
 |g::r,i,h=>by
  rw[cM]at h;by_cases c:g=k
  ·rw[if_pos c]at h;cases h;exact Nat.succ_pos _
  ·rw[if_neg c]at h;obtain⟨j,h1,h2⟩:=aY.mp h;subst h2;exact V4 (AX h1)
end
noncomputable def kJ:D->Option bc
 |.sc (.int i)=>some (.inl i)
 |.sc (.str x)=>some (.inr x)
 |_=>none
def wM:List D->Option (List bc)
 | []=>some []
 |d::r=>(kJ d).bind λk=>(wM r).map (k:: ·)
section
variable {K:ah}{n:Nat}{H H' H1 H2:Hp}{U U':Addr->Prop}{σ hv:List (Option V)}{Z ρ':En}{τv vs:List V}{τd ds:List D}{v y:V}{d:D}{N:Addr->Prop}
theorem Vw.key(h:Vw K H N v d)(e:kJ d=some k):v=kV k:=by
 unfold kJ at e
 split at e
 ·cases e;exact h.bA
 ·cases e;exact h.bA
 ·cases e
theorem Ii:∀{cs:List D} {vs:List V} {ks:List bc},vs.length=cs.length->(∀(i:Nat) (v:V) (d:D),vs[i]?=some v->cs[i]?=some d->Vw K H N v d)->wM cs=some ks->vs=ks.map kV
 | [], [],_,_,_,h=>by rw[wM]at h;cases h;rfl
 | [],_::_,_,h,_,_=>by cases h
 |_::_, [],_,h,_,_=>by cases h
 |d::cs,v::vs,ks,hl,hk,h=>by
  rw[wM]at h;obtain⟨x,h1,h⟩:=ak.mp h;obtain⟨r,h2,h⟩:=aY.mp h;subst h;rw[cP,(hk 0 v d rfl rfl).key h1,Ii (dA hl) (λi v d a b=>hk (i + 1) v d (by simpa using a) (by simpa using b)) h2]
def fW(d i:D):Option (Option Nat):=match d,i with
 |.nd (.aO ks) _,i=>(kJ i).map λk=>cM k ks
 |.nd (.lM ks) _, .nd .tup cs=>(wM cs).map λk=>cM k ks
 |_,_=>none
theorem gj.DV(hc:gj K H a k vs)(hl:vs.length=cs.length)(w:Vw K H N y dy)(h:fW (.nd k cs) dy=some o):rH H a y (o.bind (vs[·]?)):=by
 unfold fW at h
 split at h
 ·next ks _ i e=>
  cases e;obtain⟨kk,h1,h2⟩:=aY.mp h;subst h2;exact .inl ⟨_,kk,hc.2,w.key h1,(DU hc.1).symm⟩
 ·next ks _ fU e=>
  cases e;obtain⟨kk,h1,h2⟩:=aY.mp h;subst h2;obtain⟨b,us,rfl,_,hb,rC,bB⟩:=w.node;have e:=Ii rC bB h1;exact .inr ⟨_,kk,b,hc.2,rfl,by rw[<- e];exact hb.2,(DU hc.1).symm⟩
 ·cases h
theorem gj.aaD(hc:gj K H a k vs)(h:fW (.nd k cs) dy=some (some i)):i < vs.length:=by
 unfold fW at h
 split at h
 ·next ks _ i e=>
  cases e;obtain⟨kk,h1,h2⟩:=aY.mp h;have:=AX h2;have:=hc.1;unfold fits at this
  lia
 ·next ks _ fU e=>
  cases e;obtain⟨kk,h1,h2⟩:=aY.mp h;have:=AX h2;have:=hc.1;unfold fits at this
  lia
 ·cases h
theorem gj.QN(hc:gj K H a k vs)(h:fW (.nd k cs) dy=some o):(o.bind (vs[·]?)).isSome=o.isSome:=by
 cases o with
 |none=>rfl
 |some i=>
  show(vs[i]?).isSome=true;rw[dH (hc.aaD h)];rfl
def QO:R2:=λx y H Q=>∃a v,x= .ref a/\rH H a y (some v)/\Q v H
def DW(K:ah):R2:=λx y H Q=>GI K x y H Q\/QO x y H Q
theorem aaE(hu:X.A.units + 1 < cLine):mR X QO:=by
 intro value slice ab s σ H x y v u Q I rx ry h hs;obtain⟨a,w,rfl,g,q⟩:=h;cases rx;have hT:=YD I g;refine az ?_;rw[getitemInPython_of_ne hT.not_modules];refine az (wpAny_specialOf hT PySem.F.slot_dict_getitem.lookup ?_);have fin:wpAny (model X.prog X.w) X.A (subscripted slice false (.ref a) u) (λr pG=>wpAny (model X.prog X.w) X.A (letTemporaryGo value (.ref a) r >>= λ_=>pure r) (EP X ab σ Q) X.xe pG) X.xe s:=by
  rw[hs];exact wpAny_operating (Yx hu I g ry λw' s3 I3 km=>az (wpAny_letTemporaryGo (bF ⟨w,H,I3,km,q⟩)))
 first
  |exact bF (az fin)
  |exact az _
  |exact az fin
theorem QP(hu:X.A.units + 1 < cLine):mR X (DW X.K):=mR.or XT (aaE hu)
def ay(d i:D):Option Nat:=match mq d i with
 |some j=>some j
 |none=>(fW d i).join
instance aj4:tU K (DW K) ay cn where
 t:=λw2 h q=> .inl (Qw.t w2 h q)
 s:=λ{H a k vs cs y u dy i Q} hc hl w2 h hu q=>by
  unfold ay at h
  split at h
  ·next j e=>cases h;exact .inl (Qw.s hc hl w2 e hu q)
  ·cases e:fW _ dy with
   |none=>rw[e]at h;cases h
   |some o=>
    rw[e]at h;subst h;have g:=hc.DV hl w2 e;have:(some i).bind _=some u:=hu;rw[this]at g;exact .inr ⟨a,u,rfl,g,q⟩
def aaF:R2:=λx y H Q=>∃i j,x= .str i/\y= .str j/\Q (.bl (!(Nz j i 0 j.length 1).isEmpty)) H
def DX(g:Bool->Bool):R2:=λx y H Q=>∃a o,y= .ref a/\rH H a x o/\Q (.bl (g o.isSome)) H
theorem aaG(hu:X.A.units + 1 < cLine):cu X (compareOp .In) (DX id):=by
 intro ab s σ H x y v u Q I rx ry h;obtain⟨a,o,rfl,g,q⟩:=h;cases ry;exact Yy hu I g rx λs3 I3=>⟨.bl o.isSome,H,I3,rfl,q⟩
theorem aaH(hu:X.A.units + 1 < cLine):cu X (compareOp .NotIn) (DX (!·)):=by
 intro ab s σ H x y v u Q I rx ry h;obtain⟨a,o,rfl,g,q⟩:=h;cases ry;exact Yz hu I g rx λs3 I3=>⟨.bl _,H,I3,rfl,q⟩
theorem cu.or(h:cu X f r)(h':cu X f r'):cu X f (λx y H Q=>r x y H Q\/r' x y H Q):=by
 intro ab s σ H x y v u Q I rx ry q;rcases q with q | q
 ·exact h ab s σ H x y v u Q I rx ry q
 ·exact h' ab s σ H x y v u Q I rx ry q
def Ij(K:ah):R2:=λx y H Q=>C0 K false x y H Q\/DX id x y H Q\/aaF x y H Q
theorem aaI(hu:X.A.units + 1 < cLine):cu X (compareOp .In) (Ij X.K):=cu.or X1 (cu.or (aaG hu) W3)
def Ik(K:ah):R2:=λx y H Q=>C0 K true x y H Q\/DX (!·) x y H Q
theorem aaJ(hu:X.A.units + 1 < cLine):cu X (compareOp .NotIn) (Ik X.K):=cu.or X2 (aaH hu)
noncomputable def kZ:List D->Option (List V)
 | []=>some []
 |.sc v::r=>(kZ r).map (v:: ·)
 |_::_=>none
theorem AY:∀{cs:List D} {vs us:List V},vs.length=cs.length->(∀(i:Nat) (v:V) (d:D),vs[i]?=some v->cs[i]?=some d->Vw K H N v d)->kZ cs=some us->vs=us
 | [], [],_,_,_,h=>by rw[kZ]at h;cases h;rfl
 | [],_::_,_,h,_,_=>by cases h
 |_::_, [],_,h,_,_=>by cases h
 |.sc x::cs,v::vs,us,hl,hk,h=>by
  rw[kZ]at h;obtain⟨r,h2,h⟩:=aY.mp h;subst h;rw[(hk 0 v (.sc x) rfl rfl).bA,AY (dA hl) (λi v d a b=>hk (i + 1) v d (by simpa using a) (by simpa using b)) h2]
 |.nd _ _::cs,v::vs,us,hl,hk,h=>by simp[kZ]at h
 |.hl _::cs,v::vs,us,hl,hk,h=>by simp[kZ]at h
def nT(a b:D):Option Bool:=match a,b with
 |.sc (.str x), .sc (.str y)=>some (!(Nz y x 0 y.length 1).isEmpty)
 |.sc x, .nd .lst cs=>(kZ cs).bind λus=>if eO x=true/\us.all eO=true then some (tH x us) else none
 |.sc x, .nd .tup cs=>(kZ cs).bind λus=>if eO x=true/\us.all eO=true then some (tH x us) else none
 |a,b=>(fW b a).map (·.isSome)
instance aj5:jD K (Ij K) (λa b=>(nT a b).map λb=> .sc (.bl b)):=⟨λ{H x y dx dy d Q} w1 w2 h k=>by
 obtain⟨b,h1,h2⟩:=aY.mp h;subst h2;have fin:=k _ H (aJ.refl H) (.sc _);unfold nT at h1
 split at h1
 ·next i j=>
  cases h1;exact .inr (.inr ⟨i,j,w1.bA,w2.bA,fin⟩)
 ·next z cs=>
  obtain⟨us,e1,e2⟩:=ak.mp h1;by_cases c:eO z=true/\us.all eO=true
  ·rw[if_pos c]at e2;cases e2;obtain⟨a,vs,rfl,_,hc,hl,bB⟩:=w2.node;have:=AY hl bB e1;subst this;rw[w1.bA];exact .inl ⟨a,vs,rfl, .inl (cI.of hc.2),c.1,c.2,fin⟩
  ·rw[if_neg c]at e2;cases e2
 ·next z cs=>
  obtain⟨us,e1,e2⟩:=ak.mp h1;by_cases c:eO z=true/\us.all eO=true
  ·rw[if_pos c]at e2;cases e2;obtain⟨a,vs,rfl,_,hc,hl,bB⟩:=w2.node;have:=AY hl bB e1;subst this;rw[w1.bA];exact .inl ⟨a,vs,rfl, .inr (cE.of hc.2),c.1,c.2,fin⟩
  ·rw[if_neg c]at e2;cases e2
 ·obtain⟨o,e1,e2⟩:=aY.mp h1;subst e2;cases dy with
  |sc _=>simp[fW]at e1
  |hl _=>simp[fW]at e1
  |nd kk cs=>
   obtain⟨a,vs,rfl,_,hc,hl,bB⟩:=w2.node;have g:=hc.DV hl w1 e1;have e3:=hc.QN e1;exact .inr (.inl ⟨a,_,rfl,g,by rw[e3];exact fin⟩)⟩
def mZ(a b:D):Option Bool:=match a,b with
 |.sc x, .nd .lst cs=>(kZ cs).bind λus=>if eO x=true/\us.all eO=true then some (!tH x us) else none
 |.sc x, .nd .tup cs=>(kZ cs).bind λus=>if eO x=true/\us.all eO=true then some (!tH x us) else none
 |a,b=>(fW b a).map λo=> !o.isSome
instance aj6:jD K (Ik K) (λa b=>(mZ a b).map λb=> .sc (.bl b)):=⟨λ{H x y dx dy d Q} w1 w2 h k=>by
 obtain⟨b,h1,h2⟩:=aY.mp h;subst h2;have fin:=k _ H (aJ.refl H) (.sc _);unfold mZ at h1
 split at h1
 ·next z cs=>
  obtain⟨us,e1,e2⟩:=ak.mp h1;by_cases c:eO z=true/\us.all eO=true
  ·rw[if_pos c]at e2;cases e2;obtain⟨a,vs,rfl,_,hc,hl,bB⟩:=w2.node;have:=AY hl bB e1;subst this;rw[w1.bA];exact .inl ⟨a,vs,rfl, .inl (cI.of hc.2),c.1,c.2,fin⟩
  ·rw[if_neg c]at e2;cases e2
 ·next z cs=>
  obtain⟨us,e1,e2⟩:=ak.mp h1;by_cases c:eO z=true/\us.all eO=true
  ·rw[if_pos c]at e2;cases e2;obtain⟨a,vs,rfl,_,hc,hl,bB⟩:=w2.node;have:=AY hl bB e1;subst this;rw[w1.bA];exact .inl ⟨a,vs,rfl, .inr (cE.of hc.2),c.1,c.2,fin⟩
  ·rw[if_neg c]at e2;cases e2
 ·obtain⟨o,e1,e2⟩:=aY.mp h1;subst e2;cases dy with
  |sc _=>simp[fW]at e1
  |hl _=>simp[fW]at e1
  |nd kk cs=>
   obtain⟨a,vs,rfl,_,hc,hl,bB⟩:=w2.node;have g:=hc.DV hl w1 e1;have e3:=hc.QN e1;exact .inr ⟨a,_,rfl,g,by rw[e3];exact fin⟩⟩
def DY:R2:=λx y H Q=>y= .aG/\Q (.bl (decide (x= .aG))) H
def QQ:R2:=λx y H Q=>y= .aG/\Q (.bl (!decide (x= .aG))) H
theorem QR:cu X (compareOp .Is) DY:=W4
theorem QS:cu X (compareOp .IsNot) QQ:=W5
noncomputable def qz:D->Option Bool
 |.sc v=>some (decide (v= .aG))
 |.nd _ _=>some false
 |.hl _=>none
def oJ(g:Bool->Bool)(a b:D):Option D:=match b with
 |.sc .aG=>(qz a).map λb=> .sc (.bl (g b))
 |_=>none
theorem QT(w:Vw K H N v d)(h:qz d=some b):decide (v= .aG)=b:=by
 cases d with
 |sc z=>cases h;rw[w.bA]
 |nd k cs=>cases h;obtain⟨a,_,rfl,_⟩:=w.node;rfl
 |hl _=>cases h
instance aj7:jD K DY (oJ id):=⟨λ{H x y dx dy d Q} w1 w2 h k=>by
 unfold oJ at h
 split at h
 ·obtain⟨b,h1,h2⟩:=aY.mp h;subst h2;exact⟨w2.bA,by rw[QT w1 h1];exact k _ H (aJ.refl H) (.sc _)⟩
 ·cases h⟩
instance aj8:jD K QQ (oJ (!·)):=⟨λ{H x y dx dy d Q} w1 w2 h k=>by
 unfold oJ at h
 split at h
 ·obtain⟨b,h1,h2⟩:=aY.mp h;subst h2;exact⟨w2.bA,by rw[QT w1 h1];exact k _ H (aJ.refl H) (.sc _)⟩
 ·cases h⟩
def aaK:R2:=λx y H Q=>∃i j,x= .str i/\y= .str j/\i.length + j.length<=aM/\Q (.str (i++j)) H
def AZ(K:ah):R2:=λx y H Q=>qj (λi j=> .int (i + j)) x y H Q\/aaK x y H Q\/O9 x y H Q\/GF K x y H Q
theorem aaL:cu X (binaryOp .Add) (AZ X.K):=cu.or WX (cu.or W9 (cu.or Yh O0))
def en(a b:D):Option D:=match a,b with
 |.sc (.int i), .sc (.int j)=>some (.sc (.int (i + j)))
 |.sc (.str i), .sc (.str j)=>if i.length + j.length<=aM then some (.sc (.str (i++j))) else none
 |.nd .lst xs, .nd .lst ys=>if xs.length + ys.length<=aM/\bI (xs++ys)=true then some (.nd .lst (xs++ys)) else none
 |.nd .tup xs, .nd .tup ys=>if xs≠ []/\xs.length + ys.length<=aM/\bI (xs++ys)=true then some (.nd .tup (xs++ys)) else none
 |_,_=>none
theorem cv.app(h:cv K H N vs ds)(h':cv K H N us es):cv K H N (vs++us) (ds++es):=by
 refine⟨by rw[bo,bo,h.1,h'.1],λi v d hv hd=> ?_⟩;by_cases c:i < vs.length
 ·rw[aU c]at hv;rw[aU (by rw[<- h.1];exact c)]at hd;exact h.2 i v d hv hd
 ·rw[br (by lia)]at hv;rw[br (by rw[<- h.1];lia), <- h.1]at hd;exact h'.2 _ v d hv hd
theorem cv.own(h:cv K H T1 vs ds)(pl:bI ds=true)(hp:H p=none)(hold:(k= .tup/\o= .tup vs)\/(cg k=false/\fits K k vs.length/\∃dx,o=ho k dx vs)):cA K H (cf H p o) (.ref p) (.nd k ds):=
 jG.node ⟨h.1,λ_ _=>False,λ_ _ _ z=>z.elim,λ_ _ z=>z.elim,λi v d hv hd=>(h.2 i v d hv hd).plain (za pl hd)⟩ (aJ.refl H) hp hold
theorem Vw.ip(w:Vw K H T1 v (.nd k cs)):∃a vs,v= .ref a/\gj K H a k vs/\cv K H T1 vs cs:=by
 obtain⟨a,vs,e,_,hc,hl,bB⟩:=w.node;exact⟨a,vs,e,hc,hl,bB⟩
instance aaM:jD K (AZ K) en:=⟨λ{H x y dx dy d Q} w1 w2 h k=>by
 unfold en at h
 split at h
 ·next i j=>cases h;exact .inl ⟨i,j,w1.bA,w2.bA,k _ H (aJ.refl H) (.sc _)⟩
 ·next i j=>
  by_cases c:i.length + j.length<=aM
  ·rw[if_pos c]at h;cases h;exact .inr (.inl ⟨i,j,w1.bA,w2.bA,c,k _ H (aJ.refl H) (.sc _)⟩)
  ·rw[if_neg c]at h;cases h
 ·next xs ys=>
  by_cases c:xs.length + ys.length<=aM/\bI (xs++ys)=true
  ·rw[if_pos c]at h;cases h;obtain⟨a,vs,rfl,hc,vl⟩:=w1.ip;obtain⟨b,us,rfl,jV,ul⟩:=w2.ip;refine .inr (.inr (.inl ⟨a,b,vs,us,rfl,rfl,hc.2,jV.2,by rw[vl.1,ul.1];exact c.1,λp hp=> ?_⟩));exact k _ _ (fE hp _) ((vl.app ul).own c.2 hp (.inr ⟨rfl,trivial,0,rfl⟩))
  ·rw[if_neg c]at h;cases h
 ·next xs ys=>
  by_cases c:xs≠ []/\xs.length + ys.length<=aM/\bI (xs++ys)=true
  ·rw[if_pos c]at h;cases h;obtain⟨a,vs,rfl,hc,vl⟩:=w1.ip;obtain⟨b,us,rfl,jV,ul⟩:=w2.ip;have nv:vs≠ []:=λz=>by
    subst z;have:=vl.1;exact c.1 (sN this.symm)
   refine .inr (.inr (.inr ⟨a,b,vs,us,rfl,rfl,cE.of hc.2,cE.of jV.2,nv,by rw[vl.1,ul.1];exact c.2.1,λz=> ?_,λ_ p hp=> ?_⟩))
   ·subst z;have e:=sN ul.1.symm;subst e;rw[bR]at c k;exact k _ H (aJ.refl H) (cA.plain w1 c.2.2)
   ·exact k _ _ (fE hp _) ((vl.app ul).own c.2.2 hp (.inl ⟨rfl,rfl⟩))
  ·rw[if_neg c]at h;cases h
 ·cases h⟩
class l4(K:ah)(r:List V->Hp->VK->Prop)(g:outParam (List D->Option D)):Prop where
 s:∀{H:Hp} {vs:List V} {ds:List D} {d:D} {Q:VK},cv K H T1 vs ds->g ds=some d->(∀v H',aJ H H'->cA K H H' v d->Q v H')->r vs H Q
instance aj9[A:SA K n ta fa][C:l4 K r g]:SF K n (jU r ta) (λZ=>(fa Z).bind g):=⟨λ{σ hv H U Z τv τd d Q} I h k=>by
 obtain⟨a,ha,h⟩:=ak.mp h;refine A.s I ha λxs H1 s1 w=> ?_;exact C.s w h λv H2 s2 o=>k v H2 (s1.trans s2) (o.early s1)⟩
theorem av.DZ(I:av K n H U σ hv Z (τv++vs) (τd++ds))(hl:vs.length=ds.length):cv K H T1 vs ds:=by
 refine⟨hl,λi v d iV hd=> ?_⟩;obtain⟨g1,g2⟩:=I.sets hl i iV hd;obtain⟨_,_,Fs,_,_,sl⟩:=I.ok;obtain⟨v',ev,sv⟩:=sl _ _ g2;rw[g1]at ev;cases ev;exact bg.vw sv
noncomputable def oK (g:List D->Option D) (fa:En->Option (List D×En)) (Z:En):Option (D×En):=(fa Z).bind λa=>(g a.1).map λd=>(d,a.2)
instance (priority:=70) aka{r:List V->Hp->VK->Prop}{ta:TA}{fa:En->Option (List D×En)}{g:List D->Option D}[A:qv K n ta fa][C:l4 K r g]:SM K n (jU r ta) (oK g fa):=⟨λ{σ hv H U Z ρ' τv τd d Q} I h k=>by
 obtain⟨⟨a,ρ1⟩,ha,h⟩:=ak.mp h;obtain⟨d',h1,h2⟩:=aY.mp h;cases h2;refine A.s I ha λxs H1 U1 hl I1 bQ=> ?_;refine C.s (I1.DZ hl) h1 λv H2 s2 o=> ?_;obtain⟨U2,I2,dJ⟩:=(I1.drop hl).push s2 o;exact k v H2 U2 I2 (bQ.trans dJ)⟩
theorem cv.one{d:D}(h:cv K H N vs [d]):∃v,vs= [v]/\Vw K H N v d:=by
 match vs,h with
 | [v],h=>exact⟨v,rfl,h.2 0 v d rfl rfl⟩
 | [],h=>cases h.1
 |_::_::_,h=>cases h.1
theorem cv.two{d e:D}(h:cv K H N vs [d,e]):∃v u,vs= [v,u]/\Vw K H N v d/\Vw K H N u e:=by
 match vs,h with
 | [v,u],h=>exact⟨v,u,rfl,h.2 0 v d rfl rfl,h.2 1 u e rfl rfl⟩
 | [],h=>cases h.1
 | [_],h=>cases h.1
 |_::_::_::_,h=>cases h.1
theorem aaN:fT X (.builtin "len") (λxs H Q=>∃a ai,xs= [V.ref a]/\Rd H a (.dK ai)/\Q (.int ai.length) H):=by
 intro ab s σ H xs us Q I r h;obtain⟨a,ai,rfl,ha,q⟩:=h;obtain⟨u,rfl,ru⟩:=vals1 r;cases ru;exact YC I ha λt s' I'=>⟨.int ai.length,H,I',⟨t,rfl⟩,q⟩
def vT(K:ah):List V->Hp->VK->Prop:=λxs H Q=>(∃p ys,xs= [.ref p]/\(cI K H p ys\/cE K H p ys)/\Q (.int ys.length) H)\/(∃z,xs= [.str z]/\z.length<=aM/\Q (.int z.length) H)\/∃a ai,xs= [V.ref a]/\Rd H a (.dK ai)/\Q (.int ai.length) H
theorem Il:fT X (.builtin "len") (vT X.K):=by
 intro ab s σ H xs us Q I r h;rcases h with h | h | h
 ·exact X3 ab s σ H xs us Q I r h
 ·exact X4 ab s σ H xs us Q I r h
 ·exact aaN ab s σ H xs us Q I r h
noncomputable def fI:List D->Option D
 | [.nd .lst cs]=>some (.sc (.int cs.length))
 | [.nd .tup cs]=>some (.sc (.int cs.length))
 | [.nd .e8 cs]=>some (.sc (.int cs.length))
 | [.sc (.str z)]=>if z.length<=aM then some (.sc (.int z.length)) else none
 | [.nd (.aO _) cs]=>some (.sc (.int cs.length))
 |_=>none
instance akb:l4 K (vT K) fI:=⟨λ{H vs ds d Q} w h k=>by
 unfold fI at h
 split at h
 ·next cs=>cases h;obtain⟨v,rfl,w1⟩:=w.one;obtain⟨a,us,rfl,hc,vl⟩:=w1.ip;rw[<- vl.1]at k;exact .inl ⟨a,us,rfl, .inl (cI.of hc.2),k _ H (aJ.refl H) (.sc _)⟩
 ·next cs=>cases h;obtain⟨v,rfl,w1⟩:=w.one;obtain⟨a,us,rfl,hc,vl⟩:=w1.ip;rw[<- vl.1]at k;exact .inl ⟨a,us,rfl, .inr (cE.of hc.2),k _ H (aJ.refl H) (.sc _)⟩
 ·next cs=>cases h;obtain⟨v,rfl,w1⟩:=w.one;obtain⟨a,us,rfl,hc,vl⟩:=w1.ip;rw[<- vl.1]at k;exact .inl ⟨a,us,rfl, .inl (jA.sq hc.2),k _ H (aJ.refl H) (.sc _)⟩
 ·next z=>
  by_cases c:z.length<=aM
  ·rw[if_pos c]at h;cases h;obtain⟨v,rfl,w1⟩:=w.one;rw[w1.bA];exact .inr (.inl ⟨z,rfl,c,k _ H (aJ.refl H) (.sc _)⟩)
  ·rw[if_neg c]at h;cases h
 ·next ks cs=>
  cases h;obtain⟨v,rfl,w1⟩:=w.one;obtain⟨a,us,rfl,hc,vl⟩:=w1.ip;have hl:=hc.1;have rd:=hc.2;refine .inr (.inr ⟨a,ks.zip us,rfl,rd, ?_⟩);rw[List.length_zip,hl,Nat.min_self,vl.1];exact k _ H (aJ.refl H) (.sc _)
 ·cases h⟩
def apr(K:ah):List V->Hp->VK->Prop:=λxs H Q=>∃p ys,xs= [.ref p]/\((cI K H p ys/\∀l,H l=none->Q (.ref l) (cf H l (.tup ys)))\/(cE K H p ys/\Q (.ref p) H))
theorem auv:fT X (.type "tuple") (apr X.K):=aui
def vX:List D->Option D
 | [.nd .lst cs]=>if bI cs=true then some (.nd .tup cs) else none
 | [.nd .tup cs]=>if bI cs=true then some (.nd .tup cs) else none
 |_=>none
instance ayv:l4 K (apr K) vX:=⟨λ{H vs ds d Q} w h k=>by
 unfold vX at h
 split at h
 ·next cs=>
  by_cases c:bI cs=true
  ·rw[if_pos c]at h;cases h;obtain⟨v,rfl,w1⟩:=w.one;obtain⟨a,us,rfl,hc,vl⟩:=w1.ip;exact⟨a,us,rfl, .inl ⟨cI.of hc.2,λl hl=>k _ _ (fE hl _) (vl.own c hl (.inl ⟨rfl,rfl⟩))⟩⟩
  ·rw[if_neg c]at h;cases h
 ·next cs=>
  by_cases c:bI cs=true
  ·rw[if_pos c]at h;cases h;obtain⟨v,rfl,w1⟩:=w.one;obtain⟨a,us,rfl,hc,vl⟩:=w1.ip;exact⟨a,us,rfl, .inr ⟨cE.of hc.2,k _ H (aJ.refl H) (cA.plain w1 c)⟩⟩
  ·rw[if_neg c]at h;cases h
 ·cases h⟩
def Ip:List V->Hp->VK->Prop:=λxs H Q=>∃i j,xs= [.int i, .int j]/\Q (.int (if j < i then j else i)) H
theorem aaP(hc:X.calm=true):fT X (.builtin "min") Ip:=Xc hc
noncomputable def kB (g:Int->Int->V):List D->Option D
 | [.sc (.int i), .sc (.int j)]=>some (.sc (g i j))
 |_=>none
instance ake:l4 K Ip (kB λi j=> .int (if j < i then j else i)):=⟨λ{H vs ds d Q} w h k=>by
 unfold kB at h
 split at h
 ·next i j=>cases h;obtain⟨v,u,rfl,w1,w2⟩:=w.two;rw[w1.bA,w2.bA];exact⟨i,j,rfl,k _ H (aJ.refl H) (.sc _)⟩
 ·cases h⟩
end
noncomputable def m4 (a b:String):Bool:=a == b || (a == "bool" && b == "int")
noncomputable def D0:List String:= ["NoneType","bool","int","str","tuple","list","dict"]
noncomputable def lS:List String:= ["bool","int","str","tuple","list","dict"]
theorem aaQ(K:ah):xg K (.type "bool") (.type "int")=some true:=by
 unfold xg;rw[if_neg (by decide)];show(if W.kitMeta "int"=true then W.subIn K (.type "bool") _ else none)=some true;rw[if_pos (by decide +kernel)];show(fastBuiltinMro "bool").map _=some true
 decide +kernel
theorem QU(K:ah):∀a∈D0,∀b∈lS,xg K (.type a) (.type b)=some (m4 a b):=by
 intro a ha b hb;simp only[D0,lS,bL,dh,or_false]at ha hb;rcases ha with rfl | rfl | rfl | rfl | rfl | rfl | rfl <;> rcases hb with rfl | rfl | rfl | rfl | rfl | rfl <;> first
  |exact aaQ K
  |exact akf K _ (by decide)
  |exact aaC K _ _ (by decide) (by decide +kernel) (by decide +kernel)
theorem QV(K:ah)(ha:a∈D0):∀{ts:List String},(∀b∈ts,b∈lS)->ary K (.type a) (ts.map w9)=some (ts.any (m4 a))
 | [],_=>rfl
 |b::ts,h=>by
  rw[cP,ary,QU K a ha b (h b (.head _))];cases e:m4 a b with
  |true=>simp[e]
  |false=>
   simp only[e,uR,Bool.false_or];exact QV K ha λc hc=>h c (.tail _ hc)
noncomputable def mv:D->Option String
 |.sc .aG=>some "NoneType"
 |.sc (.bl _)=>some "bool"
 |.sc (.int _)=>some "int"
 |.sc (.str _)=>some "str"
 |.nd .tup _=>some "tuple"
 |.nd .lst _=>some "list"
 |.nd (.aO _) _=>some "dict"
 |.nd (.lM _) _=>some "dict"
 |_=>none
section
variable {K:ah}{H H' H1 H2:Hp}{τv vs:List V}{τd ds:List D}{v y:V}{d:D}{N:Addr->Prop}
theorem QW(h:mv d=some a):a∈D0:=by
 unfold mv at h
 split at h <;> first | (cases h;decide) | cases h
theorem Vw.ty(w:Vw K H N v d)(h:mv d=some a)(hd:a≠"dict"):kP K H v (.type a):=by
 unfold mv at h
 split at h
 ·cases h;rw[w.bA];exact .aG
 ·cases h;rw[w.bA];exact .bl _
 ·cases h;rw[w.bA];exact .int _
 ·cases h;rw[w.bA];exact .str _
 ·cases h;obtain⟨a,vs,rfl,_,hc,_⟩:=w.node;exact .tup hc.2
 ·cases h;obtain⟨a,vs,rfl,_,hc,_⟩:=w.node;exact .lst hc.2
 ·cases h;exact absurd rfl hd
 ·cases h;exact absurd rfl hd
 ·cases h
def sG(T:String):List D->Option D
 | [a, .sc (.ty T')]=>if T'=T/\T∈lS then(mv a).bind λx=>if x="dict" then none else some (.sc (.bl (m4 x T))) else none
 |_=>none
instance akg:l4 K (j4 K T) (sG T):=⟨λ{H vs ds d Q} w h k=>by
 unfold sG at h
 split at h
 ·next a T'=>
  by_cases c:T'=T/\T∈lS
  ·rw[if_pos c]at h;obtain⟨x,h1,h⟩:=ak.mp h;by_cases cd:x="dict"
   ·rw[if_pos cd]at h;cases h
   ·rw[if_neg cd]at h;cases h;obtain⟨v,u,rfl,w1,w2⟩:=w.two;rw[w2.bA,c.1];exact⟨v,_,_,rfl,w1.ty h1 cd,QU K x (QW h1) T c.2,k _ H (aJ.refl H) (.sc _)⟩
  ·rw[if_neg c]at h;cases h
 ·cases h⟩
def aps(K:ah):List V->Hp->VK->Prop:=λxs H Q=>∃(x:V) (t:Value) (tp:Addr) (ts:List String) (b:Bool),xs= [x, .ref tp]/\kP K H x t/\H tp=some (.tup (ts.map V.ty))/\ary K t (ts.map w9)=some b/\Q (.bl b) H
theorem QX:∀{ts:List String} {us:List Value},bj (ts.map V.ty) us->us=ts.map w9
 | [],us,h=>by cases h;rfl
 |t::ts,us,h=>by
  cases h with
  |cons r1 r2=>rw[QX r2,show _=w9 t from r1];rfl
theorem aaR:fT X (.builtin "isinstance") (aps X.K):=by
 intro ab s σ H xs us Q I r h;obtain⟨x,t,tp,ts,b,rfl,ty,ht,e,q⟩:=h;obtain⟨u,w',rfl,ru,rt⟩:=vals2 r;cases rt;obtain⟨_,its,rv,o,ho,hc,n,hd⟩:=I.aQ tp _ ht;have hits:=QX rv;subst hits;obtain⟨oc,od,akh,mO⟩:=o;cases hc;cases hd;have fin:∀tk,EP X ab σ Q (.bool b) { s with toks:=tk }:=λtk=>⟨.bl b,H,I.tok tk,rfl,q⟩
 cases ty with
 |aG=>cases(show u=jb from ru);exact qU W.kitx_none I.fN kh ho e (λz=>nomatch z) fin
 |bl y=>cases(show u=zj y from ru);exact qU W.kitx_bool I.fN kh ho e (λz=>nomatch z) fin
 |int i=>obtain⟨t,z⟩:=(ru);cases z;exact qU W.kitx_int I.fN kh ho e (λz=>nomatch z) fin
 |str y=>obtain⟨t,z⟩:=(ru);cases z;exact qU W.kitx_str I.fN kh ho e (λz=>nomatch z) fin
 |kl y=>obtain⟨t,z⟩:=(ru);cases z;exact qU W.kitx_float I.fN kh ho e (λz=>nomatch z) fin
 | @lst a xs ea=>
  cases(show u=c7 a from ru);obtain⟨_,_,n',_,h1⟩:=(I.aQ a _ ea)
  exact qU ND I.fN ⟨_,h1,rfl⟩ ho e (λz=>nomatch z) fin
 | @b9 a ob xs ea=>
  cases(show u=c7 a from ru);obtain⟨_,_,_,n',_,h1⟩:=(I.aQ a _ ea)
  exact qU ND I.fN ⟨_,h1,rfl⟩ ho e (λz=>nomatch z) fin
 | @tup a xs ea=>
  cases(show u=c7 a from ru);obtain⟨_,_,_,p⟩:=(I.aQ a _ ea)
  obtain⟨o',h1,h2,_⟩:=p;exact qU W.kitx_tuple I.fN ⟨o',h1,h2⟩ ho e (λz=>nomatch z) fin
 | @dK a ai ea=>
  cases(show u=c7 a from ru);obtain⟨_,_,vs,_,p⟩:=(I.aQ a _ ea)
  obtain⟨o',es,ep,h1,h2,_⟩:=p;exact qU NF I.fN ⟨o',h1,h2.1⟩ ho e (λz=>nomatch z) fin
 | @dT a ai ea=>
  cases(show u=c7 a from ru);obtain⟨_,_,xs,_,o',es,ep,h1,h2,_⟩:=(I.aQ a _ ea)
  exact qU NF I.fN ⟨o',h1,h2.1⟩ ho e (λz=>nomatch z) fin
 | @ins a C dx fs ea cl ha hn CT hm=>
  cases(show u=c7 a from ru);obtain⟨mA,O,_⟩:=kO I.aQ ea;obtain⟨od,J,_⟩:=O.look;exact qU (W.kitx_own (cl.get _) cl.hd ha hn CT hm) I.fN J ho e (λz=>nomatch z) fin
noncomputable def m6:List D->Option (List String)
 | []=>some []
 |.sc (.ty t)::r=>(m6 r).map (t:: ·)
 |_::_=>none
theorem QY:∀{cs:List D} {vs:List V} {ts:List String},vs.length=cs.length->(∀(i:Nat) (v:V) (d:D),vs[i]?=some v->cs[i]?=some d->Vw K H N v d)->m6 cs=some ts->vs=ts.map V.ty
 | [], [],_,_,_,h=>by rw[m6]at h;cases h;rfl
 | [],_::_,_,h,_,_=>by cases h
 |_::_, [],_,h,_,_=>by cases h
 |d::cs,v::vs,ts,hl,hk,h=>by
  unfold m6 at h
  split at h
  ·next e=>cases e
  ·next t r e=>
   cases e;obtain⟨x,h2,h⟩:=aY.mp h;subst h;rw[cP,(hk 0 v _ rfl rfl).bA,QY (dA hl) (λi v d a b=>hk (i + 1) v d (by simpa using a) (by simpa using b)) h2]
  ·cases h
def oN:List D->Option D
 | [a, .nd .tup cs]=>(m6 cs).bind λts=>if ts.all (lS.contains ·)=true then(mv a).bind λx=>if x="dict" then none else some (.sc (.bl (ts.any (m4 x)))) else none
 |_=>none
instance aki:l4 K (aps K) oN:=⟨λ{H vs ds d Q} w h k=>by
 unfold oN at h
 split at h
 ·next a cs=>
  obtain⟨ts,h0,h⟩:=ak.mp h;by_cases c:ts.all (lS.contains ·)=true
  ·rw[if_pos c]at h;obtain⟨x,h1,h⟩:=ak.mp h;by_cases cd:x="dict"
   ·rw[if_pos cd]at h;cases h
   ·rw[if_neg cd]at h;cases h;obtain⟨v,u,rfl,w1,w2⟩:=w.two;obtain⟨b,us,rfl,_,hc,hl,bB⟩:=w2.node;have e:=QY hl bB h0;refine⟨v,_,b,ts,_,rfl,w1.ty h1 cd,by rw[<- e];exact hc.2,QV K (QW h1) λt ht=> ?_,k _ H (aJ.refl H) (.sc _)⟩;have:=gA.mp c t ht;simpa using this
  ·rw[if_neg c]at h;cases h
 ·cases h⟩
def mw(K:ah):List V->Hp->VK->Prop:=λxs H Q=>∃(a:Addr) (bs:List Bool),xs= [.ref a]/\cI K H a (bs.map V.bl)/\Q (.bl (bs.all id)) H
theorem arS(hc:X.calm=true):fT X (.builtin "all") (mw X.K):=Zl hc
noncomputable def iP:List D->Option (List Bool)
 | []=>some []
 |.sc (.bl b)::r=>(iP r).map (b:: ·)
 |_::_=>none
theorem Iq:∀{cs:List D} {vs:List V} {bs:List Bool},vs.length=cs.length->(∀(i:Nat) (v:V) (d:D),vs[i]?=some v->cs[i]?=some d->Vw K H N v d)->iP cs=some bs->vs=bs.map V.bl
 | [], [],_,_,_,h=>by rw[iP]at h;cases h;rfl
 | [],_::_,_,h,_,_=>by cases h
 |_::_, [],_,h,_,_=>by cases h
 |d::cs,v::vs,ts,hl,hk,h=>by
  unfold iP at h
  split at h
  ·next e=>cases e
  ·next t r e=>
   cases e;obtain⟨x,h2,h⟩:=aY.mp h;subst h;rw[cP,(hk 0 v _ rfl rfl).bA,Iq (dA hl) (λi v d a b=>hk (i + 1) v d (by simpa using a) (by simpa using b)) h2]
  ·cases h
def iq:List D->Option D
 | [.nd .lst cs]=>(iP cs).map λbs=> .sc (.bl (bs.all id))
 |_=>none
instance akj:l4 K (mw K) iq:=⟨λ{H vs ds d Q} w h k=>by
 unfold iq at h
 split at h
 ·next cs=>
  obtain⟨bs,h1,h2⟩:=aY.mp h;subst h2;obtain⟨v,rfl,w1⟩:=w.one;obtain⟨a,us,rfl,_,hc,hl,bB⟩:=w1.node;have e:=Iq hl bB h1;exact⟨a,bs,rfl,cI.of (by rw[<- e];exact hc.2),k _ H (aJ.refl H) (.sc _)⟩
 ·cases h⟩
end
def vV(K:ah)(tl:TE):TI:=λσ H R=>tl σ H λx H1=>(∃a,x= .ref a/\(∃xs,cI K H1 a xs)/\R (tf K a) H1)\/(∃a,x= .ref a/\(∃xs,cE K H1 a xs)/\R (CJ K a) H1)\/∃z,x= .str z/\R (Dq z) H1
theorem QZ(hl:PE X l tl):PI X tg l (vV X.K tl):=by
 intro ab s σ H R I h;refine bh (hl ab s σ H _ I h) λv s1 ⟨x,H1,I1,r1,q1⟩=> ?_;have fin:∀(b:Addr),b∈ [s1.heap.objs.size]->jT X ab H1 b:=λb hb=>by
  have e:b=s1.heap.objs.size:=by simpa using hb
  subst e;exact I1.Aa (bO _) (I1.aQ.fresh (bO _))
 rcases q1 with⟨a,rfl,⟨xs,hq⟩,q⟩ | ⟨a,rfl,⟨xs,hq⟩,q⟩ | ⟨z,rfl,q⟩
 ·cases r1;obtain⟨its,rv,p,hz⟩:=I1.list hq;exact Vk p.isList ⟨s1.heap.objs.size, [s1.heap.objs.size],_,_,H1,rfl,I1.kept λb o e=>cB _ e,WQ a _,⟨_,gc _ rfl,rfl,rfl⟩,fin,q⟩
 ·cases r1;obtain⟨its,rv,p,hz⟩:=I1.tuple hq;exact Vt (p) ⟨s1.heap.objs.size, [s1.heap.objs.size],_,_,H1,rfl,I1.kept λb o e=>cB _ e,WR a _,⟨_,gc _ rfl,rfl,rfl⟩,fin,q⟩
 ·obtain⟨t,rfl⟩:=r1;cases ha:z.cps.all _
  ·refine wpAny_pyIter_wide ha ⟨s1.heap.objs.size, [s1.heap.objs.size],_,_,H1,rfl,I1.kept λb o e=>cB _ e,
    PQ (by decide) (λA' hA=>Walks.strWide hA _ z t) (λA i s Q E st h=>wpAny_pyIter_striter_wide st h),⟨jO _,_,gc _ rfl,rfl,rfl⟩,fin,q⟩
  ·refine wpAny_pyIter_ascii ha ⟨s1.heap.objs.size, [s1.heap.objs.size],_,_,H1,rfl,I1.kept λb o e=>cB _ e,
    PQ (by decide) (λA' hA=>Walks.strAscii hA _ z t) (λA i s Q E st h=>wpAny_pyIter_striter_ascii st h),⟨jO _,_,gc _ rfl,rfl,rfl⟩,fin,q⟩
class vW{α:Type}(l:List α)(m:outParam Nat):Prop where
 h:l.length=m
instance {α:Type}:vW ([]:List α) 0:=⟨rfl⟩
instance {α:Type}{a:α}{r:List α}{m:Nat}[L:vW r m]:vW (a::r) (m + 1):=⟨congrArg (· + 1) L.h⟩
section
variable {K:ah}{n:Nat}{H H' H1 H2:Hp}{U U':Addr->Prop}{σ hv:List (Option V)}{Z ρ':En}{τv vs:List V}{τd ds:List D}{v y:V}{d:D}
def tY(K:ah)(J:It)(H0:Hp)(ds:List D):Prop:=∀H,aJ H0 H->J.stop ds.length H/\∀(i:Nat) (d:D),ds[i]?=some d->J.go i H/\∀x H',J.s9 i H x H'->aJ H H'/\Vw K H' T1 x d
class SI(K:ah)(n:Nat)(wi:TI)(f:outParam (En->Option (List D))):Prop where
 s:∀{σ hv:List (Option V)} {H:Hp} {U:Addr->Prop} {Z:En} {τv:List V} {τd:List D} {ds:List D} {R:It->Hp->Prop},av K n H U σ hv Z τv τd->f Z=some ds->(∀J H',aJ H H'->tY K J H' ds->R J H')->wi σ H R
noncomputable def chars (z:Str):List D:=z.cps.toList.map λc=> .sc (.str ⟨#[c]⟩)
def fP:D->Option (List D)
 |.nd .lst cs=>some cs
 |.nd .tup cs=>some cs
 |.nd .e8 cs=>some cs
 |.sc (.str z)=>some (chars z)
 |_=>none
theorem aaS{ds:List D}{R:It->Hp->Prop}(w:Vw K H T1 v d)(h:fP d=some ds)(k:∀J,tY K J H ds->R J H):
  (∃a,v= .ref a/\(∃xs,cI K H a xs)/\R (tf K a) H)\/(∃a,v= .ref a/\(∃xs,cE K H a xs)/\R (CJ K a) H)\/∃z,v= .str z/\R (Dq z) H:=by
 have wl:∀{a:Addr} {vs:List V} {cs:List D},(∀H',aJ H H'->cI K H' a vs)->cv K H T1 vs cs->tY K (tf K a) H cs:=λ{a vs cs} hs vl H' s=>by
  refine⟨⟨vs,hs H' s,by rw[vl.1];exact bO _⟩,λi d hd=> ?_⟩;obtain⟨u,hu,w⟩:=vl.get hd;exact⟨⟨vs,u,hs H' s,hu⟩,λx H2 ⟨e,q⟩=>by
   subst e;have:=q vs (hs H2 s);rw[hu]at this;cases this;exact⟨aJ.refl _,w.same s⟩⟩
 unfold fP at h
 split at h
 ·next cs=>
  cases h;obtain⟨a,vs,rfl,hc,vl⟩:=w.ip;exact .inl ⟨a,rfl,⟨vs,cI.of hc.2⟩,k _ (wl (λH' s=>cI.of (s _ _ hc.2)) vl)⟩
 ·next cs=>
  cases h;obtain⟨a,vs,rfl,hc,vl⟩:=w.ip;refine .inr (.inl ⟨a,rfl,⟨vs,cE.of hc.2⟩,k _ λH' s=> ?_⟩);have hs:cE K H' a vs:=cE.of (s _ _ hc.2);refine⟨⟨vs,hs,by rw[vl.1];exact bO _⟩,λi d hd=> ?_⟩;obtain⟨u,hu,w⟩:=vl.get hd;exact⟨⟨vs,u,hs,hu⟩,λx H2 ⟨e,q⟩=>by
   subst e;have:=q vs hs;rw[hu]at this;cases this;exact⟨aJ.refl _,w.same s⟩⟩
 ·next cs=>
  cases h;obtain⟨a,vs,rfl,hc,vl⟩:=w.ip;have ho:jA K H a vs:=hc.2;exact .inl ⟨a,rfl,⟨vs,ho.sq⟩,k _ (wl (λH' s=>(ho.gO (gu.of s)).sq) vl)⟩
 ·next z=>
  cases h;refine .inr (.inr ⟨z,w.bA,k _ λH' s=> ?_⟩);have lz:(chars z).length=z.cps.size:=by unfold chars;simp
  refine⟨by show z.cps.size<=_;rw[lz];exact bO _,λi d hd=> ?_⟩;have hi:i < z.cps.size:=by rw[<- lz];exact(cm.mp hd).1
  refine⟨hi,λx H2 ⟨e,c,hc,hx⟩=> ?_⟩;subst e hx;refine⟨aJ.refl _, ?_⟩;unfold chars at hd;rw[bJ]at hd;have:z.cps.toList[i]?=some c:=by simpa using hc
  rw[this]at hd;cases hd;exact .sc _
 ·cases h
instance akk[A:SV K n tl fl]:SI K n (vV K tl) (λZ=>(fl Z).bind fP):=⟨λ{σ hv H U Z τv τd ds R} I h k=>by
 obtain⟨d,h1,h2⟩:=ak.mp h;refine A.s I h1 λx H1 s1 w1=> ?_;exact aaS w1 h2 λJ wk=>k J H1 s1 wk⟩
noncomputable def iQ (lo:Int) (m:Nat):List D:=(xm m).map λ(i:Nat)=> .sc (.int (lo + i))
open Classical in
noncomputable def tZ:List D->Option (List D)
 | [.sc (.int j)]=>if -(2 ^ 62)<=j/\j < 2 ^ 62 then some (iQ 0 j.toNat) else none
 |_=>none
open Classical in
theorem Ir{vs:List V}{ds es:List D}(w:cv K H T1 vs ds)(h:tZ ds=some es):∃j:Int,vs= [.int j]/\ -(2 ^ 62)<=j/\j < 2 ^ 62/\es=iQ 0 j.toNat:=by
 unfold tZ at h
 split at h
 ·next j=>
  by_cases c: -(2 ^ 62)<=j/\j < 2 ^ 62
  ·rw[if_pos c]at h;cases h;obtain⟨v,rfl,w1⟩:=w.one;rw[w1.bA];exact⟨j,rfl,c.1,c.2,rfl⟩
  ·rw[if_neg c]at h;cases h
 ·cases h
class SG(K:ah)(n:Nat)(g:TG)(f:outParam (D->En->Option En))(is:outParam (List Nat)):Prop where
 s:∀{σ hv:List (Option V)} {H:Hp} {U:Addr->Prop} {Z ρ':En} {τv:List V} {τd:List D} {x:V} {d:D} {Q:L2.St->Hp->Prop},av K n H U σ hv Z τv τd->Vw K H (λb=>¬ U b) x d->f d Z=some ρ'->(∀aF,av K n H U aF hv ρ' τv τd->Q aF H)->g x σ H Q
 len:∀{d:D} {Z ρ':En},f d Z=some ρ'->ρ'.length=Z.length
 keep:∀{d:D} {Z ρ':En} {j:Nat} {β:B},f d Z=some ρ'->j∉is->(∀r p,β≠ .aB r p)->Z[j]?=some (some β)->ρ'[j]?=some (some β)
class aou(K:ah)(n:Nat)(g:rb)(f:outParam (List D->En->Option En))(is:outParam (List Nat)):Prop where
 s:∀{σ hv:List (Option V)} {H:Hp} {U:Addr->Prop} {Z ρ':En} {τv:List V} {τd:List D} {xs:List V} {ds:List D} {Q:L2.St->Hp->Prop},av K n H U σ hv Z τv τd->cv K H (λb=>¬ U b) xs ds->f ds Z=some ρ'->(∀aF,av K n H U aF hv ρ' τv τd->Q aF H)->g xs σ H Q
 len:∀{ds:List D} {Z ρ':En},f ds Z=some ρ'->ρ'.length=Z.length
 keep:∀{ds:List D} {Z ρ':En} {j:Nat} {β:B},f ds Z=some ρ'->j∉is->(∀r p,β≠ .aB r p)->Z[j]?=some (some β)->ρ'[j]?=some (some β)
theorem aaU{i j:Nat}{β:B}(h:∀r p,β≠ .aB r p)(hj:Z[j]?=some (some β)):(eI i Z)[j]?=some (some β):=by
 unfold eI;rw[bJ,hj];cases β with
 |own d=>rfl
 |ro d=>rfl
 |aB r p=>exact absurd rfl (h r p)
instance akl{i:Nat}[L:jC i n]:SG K n (lB i) (λd Z=>some (bq i (.ro d) Z)) [i] where
 s:=λ{σ hv H U Z ρ' τv τd x d Q} I w h k=>by
  cases h;exact k _ (I.named L.h (β:= .ro d) w)
 len:=λh=>by cases h;unfold bq;rw[bN,jZ]
 keep:=λ{d Z ρ' j β} h hj ha q=>by
  cases h;unfold bq;rw[gq (λz=>hj (by rw[z];exact .head _))];exact aaU ha q
instance akm:aou K n zH (λds Z=>match ds with | []=>some Z | _=>none) [] where
 s:=λ{σ hv H U Z ρ' τv τd xs ds Q} I w h k=>by
  split at h
  ·cases h;exact⟨sN w.1,k _ I⟩
  ·cases h
 len:=λ{ds Z ρ'} h=>by
  split at h
  ·cases h;rfl
  ·cases h
 keep:=λ{ds Z ρ' j β} h hj ha q=>by
  split at h
  ·cases h;exact q
  ·cases h
def ir(f:D->En->Option En)(fs:List D->En->Option En)(ds:List D)(Z:En):Option En:=match ds with
 |d::r=>(f d Z).bind (fs r)
 | []=>none
instance akn[A:SG K n t f is][B':aou K n u fs js]:aou K n (vg t u) (ir f fs) (is++js) where
 s:=λ{σ hv H U Z ρ' τv τd xs ds Q} I w h k=>by
  unfold ir at h
  split at h
  ·next d r=>
   obtain⟨ρ1,h1,h2⟩:=ak.mp h
   match xs,w with
   | [],w=>cases w.1
   |x::xs,w=>
    refine⟨x,xs,rfl,A.s I (w.2 0 x d rfl rfl) h1 λsZ I1=> ?_⟩;exact B'.s I1 ⟨dA w.1,λi v d a b=>w.2 (i + 1) v d (by simpa using a) (by simpa using b)⟩ h2 k
  ·cases h
 len:=λ{ds Z ρ'} h=>by
  unfold ir at h
  split at h
  ·obtain⟨ρ1,h1,h2⟩:=ak.mp h;rw[B'.len h2,A.len h1]
  ·cases h
 keep:=λ{ds Z ρ' j β} h hj ha q=>by
  unfold ir at h
  split at h
  ·obtain⟨ρ1,h1,h2⟩:=ak.mp h;exact B'.keep h2 (λz=>hj (kg _ z)) ha (A.keep h1 (λz=>hj (qR _ z)) ha q)
  ·cases h
noncomputable def j5 (m:Nat) (f:List D->En->Option En) (d:D) (Z:En):Option En:=match d with
 |.nd .tup cs=>if cs.length=m then f cs Z else none
 |_=>none
instance ako[A:aou K n t f is]:SG K n (CH K m t) (j5 m f) is where
 s:=λ{σ hv H U Z ρ' τv τd x d Q} I w h k=>by
  unfold j5 at h
  split at h
  ·next cs=>
   by_cases c:cs.length=m
   ·rw[if_pos c]at h;obtain⟨a,vs,rfl,_,hc,hl,bB⟩:=w.node;exact⟨a,vs,rfl,cE.of hc.2,by rw[hl];exact c,A.s I ⟨hl,bB⟩ h k⟩
   ·rw[if_neg c]at h;cases h
  ·cases h
 len:=λ{d Z ρ'} h=>by
  unfold j5 at h
  split at h
  ·next cs=>
   by_cases c:cs.length=m
   ·rw[if_pos c]at h;exact A.len h
   ·rw[if_neg c]at h;cases h
  ·cases h
 keep:=λ{d Z ρ' j β} h hj ha q=>by
  unfold j5 at h
  split at h
  ·next cs=>
   by_cases c:cs.length=m
   ·rw[if_pos c]at h;exact A.keep h hj ha q
   ·rw[if_neg c]at h;cases h
  ·cases h
theorem jG.snoc(h:jG K H H1 us es)(o:cA K H1 H2 v d)(s0:aJ H H1)(s1:aJ H1 H2):jG K H H2 (us++ [v]) (es++ [d]):=by
 obtain⟨hl,Fs,dj,fr,rp⟩:=h;obtain⟨G,r,f⟩:=o;have nG:∀i b,Fs i b->¬ G b:=λi b z w=>by
  obtain⟨u,q⟩:=rN (fr i b z).2;rw[(f b w).1]at q;cases q
 refine⟨by simp[hl],λi b=>if i=us.length then G b else Fs i b/\i < us.length,λi j b hi hj=> ?_,λi b hb=> ?_,λi x y hx hy=> ?_⟩
 ·have hi:if i=us.length then G b else Fs i b/\i < us.length:=hi;have hj:if j=us.length then G b else Fs j b/\j < us.length:=hj;by_cases ci:i=us.length
  ·rw[if_pos ci]at hi;by_cases cj:j=us.length
   ·lia
   ·rw[if_neg cj]at hj;exact absurd hi (nG j b hj.1)
  ·rw[if_neg ci]at hi;by_cases cj:j=us.length
   ·rw[if_pos cj]at hj;exact absurd hj (nG i b hi.1)
   ·rw[if_neg cj]at hj;exact dj i j b hi.1 hj.1
 ·have hb:if i=us.length then G b else Fs i b/\i < us.length:=hb;by_cases ci:i=us.length
  ·rw[if_pos ci]at hb;refine⟨?_,(f b hb).2⟩;cases q:H b with
   |none=>rfl
   |some o=>have:=(f b hb).1;rw[s0 b o q]at this;cases this
  ·rw[if_neg ci]at hb;exact⟨(fr i b hb.1).1,AL (fr i b hb.1).2 s1⟩
 ·by_cases ci:i=us.length
  ·subst ci;rw[br (bO _),kj]at hx;rw[br (by lia),hl,kj]at hy;cases hx;cases hy;show bg K H2 (λb=>if us.length=us.length then G b else _) v d;simp only[if_pos rfl];exact r
  ·have hi:i < us.length:=by
    have:=(cm.mp hx).1;simp at this;lia
   rw[aU hi]at hx;rw[aU (by lia)]at hy;show bg K H2 (λb=>if i=us.length then G b else Fs i b/\i < us.length) x y;simp only[if_neg ci];exact((rp i x y hx hy).same s1).mono λb z=>⟨z,hi⟩
def gH(n:Nat)(js:List (Option Nat))(Z:En):En:=js.map λo=>o.bind λj=>if j < n then(af j Z).map B.ro else none
noncomputable def jH (fg:D->En->Option En) (ft:En->Option Bool) (fe:En->Option D) (ia:En):List D->Option (List D)
 | []=>some []
 |d::ds=>(fg d ia).bind λρ1=>(ft ρ1).bind λb=>if b=true then(fe ρ1).bind λy=>(jH fg ft fe ia ds).map (y:: ·) else jH fg ft fe ia ds
open Classical in
noncomputable def iJ (n:Nat) (js:List (Option Nat)) (is:List Nat) (fi:En->Option (List D)) (fg:D->En->Option En) (ft:En->Option Bool) (fe:En->Option D) (Z:En):Option D:=(fi Z).bind λds=>
 if ds.length<=aM/\is.all (λi=>js[i]? == some none)=true then(jH fg ft fe (gH n js Z) ds).map (.nd .lst ·) else none
theorem aaV(I:av K n H U σ hv Z τv τd):av K js.length H (λ_=>False) (jv js σ) [] (gH n js Z) [] []:=by
 refine⟨⟨by unfold jv gH;simp,λb z=>z.elim,λ_ _=>False,λ_ _ _ z=>z.elim,λ_ _ z=>z.elim,λi β aa=> ?_⟩,by unfold jv gH;simp,by unfold jv;simp⟩;rw[jQ,bR]at aa;rw[jQ,bR,bR];unfold gH at aa;rw[bJ]at aa;cases e:js[i]? with
 |none=>rw[e]at aa;cases aa
 |some o=>
  rw[e]at aa;have aa:(o.bind λj=>if j < n then(af j Z).map B.ro else none)=some β:=hV aa;cases o with
  |none=>cases aa
  |some j=>
   have aa:(if j < n then(af j Z).map B.ro else none)=some β:=aa;by_cases c:j < n
   ·rw[if_pos c]at aa;obtain⟨d,h1,h2⟩:=aY.mp aa;subst h2;have:jC j n:=⟨c⟩
    have key:f9 j σ H λv H'=>H'=H/\σ[j]?=some (some v)/\Vw K H T1 v d:=by
     obtain⟨o,g1,g2⟩:=ak.mp h1;cases o with
     |none=>cases g2
     |some γ=>
      obtain⟨v,F,ev,sub,sv⟩:=I.slot g1;rw[I.name c]at ev;refine⟨v,ev,rfl,ev, ?_⟩;cases γ with
      |own d'=>cases g2;exact bg.vw sv
      |ro d'=>cases g2;exact Vw.any sv
      |aB r p=>
       obtain⟨d0,hr,g⟩:=ak.mp g2;obtain⟨_,vr,er,hp⟩:=sv;obtain⟨v',F',ij,_,rp⟩:=I.AM hr;rw[er]at ij;cases ij;exact rp.sub g hp λ_ _=>trivial
    obtain⟨v,ev,_,_,vw⟩:=key;refine⟨v, ?_,vw.mono λ_ _ z=>z⟩;unfold jv;rw[bJ,e];show some ((σ[j]?).join)=some (some v);rw[ev];rfl
   ·rw[if_neg c]at aa;cases aa
instance D3{wi:TI}{g:TG}{tt:TT}{te:TE}{is:List Nat}{fi:En->Option (List D)}{fg:D->En->Option En}{ft:En->Option Bool}{fe:En->Option D}[hm:vW js m]
  [A:SI K n wi fi] [G:SG K m g fg is] [T:kc K m tt ft] [Q':SQ K m te fe]:SF K n (xH wi g tt te js) (iJ n js is fi fg ft fe):=⟨λ{σ hv H U Z τv τd d Q} I h k=>by
 have hm:=hm.h;subst hm;obtain⟨ds,h1,h⟩:=ak.mp h;by_cases c:ds.length<=aM/\is.all (λi=>js[i]? == some none)=true
 ·rw[if_pos c]at h;obtain⟨es,h2,h⟩:=aY.mp h;subst h;refine A.s I h1 λJ H1 s1 wk=> ?_;have I1:=aaV (js:=js) (I.same s1);have aaW:∀i∈is,∀β,(gH n js Z)[i]?≠some (some β):=λi hi β z=>by
   have:=gA.mp c.2 i hi;have e:js[i]?=some none:=by simpa using this
   unfold gH at z;rw[bJ,e]at z;cases z
  have vq:∀(j:Nat) (β:B),(gH n js Z)[j]?=some (some β)->∀r p,β≠ .aB r p:=λj β z r p e=>by
   subst e;unfold gH at z;rw[bJ]at z;cases e:js[j]? with
   |none=>rw[e]at z;cases z
   |some o=>
    rw[e]at z;have z:=hV z;cases o with
    |none=>cases z
    |some x=>
     have z:(if x < n then(af x Z).map B.ro else none)=some (B.aB r p):=z;by_cases c:x < n
     ·rw[if_pos c]at z;obtain⟨_,_,w⟩:=aY.mp z;cases w
     ·rw[if_neg c]at z;cases z
  refine⟨λi m aF ys H'=>m=ds.length - i/\i<=ds.length/\aJ H1 H'/\av K js.length H' (λ_=>False) aF [] (gH n js Z) [] []/\ys.length<=i/\∃ea eb,es=ea++eb/\jG K H1 H' ys ea/\jH fg ft fe (gH n js Z) (ds.drop i)=some eb,⟨ds.length,by simp,jO _,aJ.refl _,I1,bO _, [],es,rfl, .nil,h2⟩, ?_⟩;rintro i m aF ys H' ⟨rfl,hi,sx,Ix,hy,ea,eb,rfl,ow,cd⟩;by_cases dS:i < ds.length
  ·right;have hd:ds[i]?=some ds[i]:=dH dS;obtain⟨go,yl⟩:=(wk H' sx).2 i _ hd;rw[Cr dS]at cd;rw[jH]at cd;obtain⟨ρ1,b1,cd⟩:=ak.mp cd;obtain⟨b,b2,cd⟩:=ak.mp cd;refine⟨go,λeY zs H2=>aJ H1 H2/\av K js.length H2 (λ_=>False) eY [] (gH n js Z) [] []/\zs.length<=i + 1/\∃fa fb,ea++eb=fa++fb/\jG K H1 H2 zs fa/\jH fg ft fe (gH n js Z) (ds.drop (i + 1))=some fb,λeY zs H2 ⟨a1,a2,a3,a4⟩=>⟨by lia,_,by lia,rfl,dS,a1,a2,a3,a4⟩,λx H2 y2=> ?_⟩;obtain⟨s2,w2⟩:=yl x H2 y2;refine G.s (Ix.same s2) (w2.mono λ_ _ z=>z) b1 λeY I2=> ?_;have back:∀{H3:Hp},aJ H2 H3->av K js.length H3 (λ_=>False) eY [] (gH n js Z) [] []:=λ{H3} s3=>by
    refine(I2.same s3).weaken (G.len b1).symm λj β q=> ?_;by_cases hj:j∈is
    ·exact absurd q (aaW j hj β)
    ·exact G.keep b1 hj (vq j β q) q
   refine T.s I2 b2 λH4 s4=> ?_;cases b with
   |true=>
    rw[if_pos rfl]at cd |-;obtain⟨y,b3,cd⟩:=ak.mp cd;obtain⟨fb,b4,cd⟩:=aY.mp cd;subst cd;refine Q'.o (I2.same s4) b3 λv H5 s5 o=>⟨sx.trans (s2.trans (s4.trans s5)),back (s4.trans s5),by simp;lia,ea++ [y],fb,by simp, ?_,b4⟩
    have o':cA K H' H5 v y:=o.early (s2.trans s4);exact ow.snoc o' sx (s2.trans (s4.trans s5))
   |false=>
    rw[if_neg df]at cd |-;refine⟨sx.trans (s2.trans s4),back s4,by lia,ea,eb,rfl, ?_,cd⟩;obtain⟨hl,Fs,dj,fr,rp⟩:=ow;exact⟨hl,Fs,dj,λj b z=>⟨(fr j b z).1,AL (fr j b z).2 (s2.trans s4)⟩,λj v d a b=>(rp j v d a b).same (s2.trans s4)⟩
  ·left;have e:i=ds.length:=by lia
   subst e;rw[FR,jH]at cd;cases cd;rw[bR]at k;refine⟨(wk H' sx).1,λD hD=> ?_⟩;exact k _ _ ((s1.trans sx).trans (fE hD _)) ((ow.node (k:= .lst) sx hD (.inr ⟨rfl,trivial,0,rfl⟩)).early s1)
 ·rw[if_neg c]at h;cases h⟩
variable {E:ke}
structure Iu(K:ah)(J:It)(ds:List D)(P:Hp->(Addr->Prop)->Prop):Prop where
 step:∀{H H' U U'},P H U->bH U H U' H'->(∀b,U b->iB (H b))->P H' U'
 stop:∀{H U},P H U->J.stop ds.length H
 item:∀{H U} {i:Nat} {d:D},P H U->ds[i]?=some d->J.go i H/\∀x H',J.s9 i H x H'->H'=H/\Vw K H (λb=>¬ U b) x d
class A2(K:ah)(n:Nat)(wi:TI)(f:outParam (En->Option (List D))):Prop where
 s:∀{σ hv:List (Option V)} {H:Hp} {U:Addr->Prop} {Z:En} {τv:List V} {τd:List D} {ds:List D} {R:It->Hp->Prop},av K n H U σ hv Z τv τd->f Z=some ds->(∀J P H',aJ H H'->Iu K J ds P->P H' U->R J H')->wi σ H R
theorem arT(lo:Int)(m:Nat):Iu K (Ac lo m) (iQ lo m) λ_ _=>True:=by
 have l:(iQ lo m).length=m:=by unfold iQ;simp
 refine⟨λ_ _ _=>trivial,λ{H U} _=>by show m<=_;rw[l];exact bO _,λ{H U i d} _ hd=> ?_⟩;have hi:i < m:=by rw[<- l];exact(cm.mp hd).1
 refine⟨hi,λx H2 ⟨e,hx⟩=>⟨e, ?_⟩⟩;subst hx;unfold iQ at hd;rw[bJ,List.getElem?_range hi]at hd;cases hd;exact .sc _
instance akp[A:SA K n ta fa]:A2 K n (CK ta) (λZ=>(fa Z).bind tZ):=⟨λ{σ hv H U Z τv τd ds R} I h k=>by
 obtain⟨a,h1,h2⟩:=ak.mp h;refine A.s I h1 λvs H1 s1 w=> ?_;obtain⟨j,e,c1,c2,e2⟩:=Ir w h2;subst e2;exact⟨j,e,c1,c2,k _ _ H1 s1 (arT 0 _) trivial⟩⟩
theorem D5(h:cv K H (λb=>¬ U b) vs cs)(st:bH U H U' H')(mu:∀b,U b->iB (H b)):cv K H' (λb=>¬ U' b) vs cs:=⟨h.1,λi v d a b=>(h.2 i v d a b).over (λb o nb q=>st b o q nb) (st.gO mu)⟩
theorem Q0{R:It->Hp->Prop}(w:Vw K H (λb=>¬ U b) v d)(h:fP d=some ds)(k:∀J P,Iu K J ds P->P H U->R J H):
  (∃a,v= .ref a/\(∃xs,cI K H a xs)/\R (tf K a) H)\/(∃a,v= .ref a/\(∃xs,cE K H a xs)/\R (CJ K a) H)\/∃z,v= .str z/\R (Dq z) H:=by
 unfold fP at h
 split at h
 ·next cs=>
  cases h;obtain⟨a,vs,rfl,na,hc,hl,bB⟩:=w.node;refine .inl ⟨a,rfl,⟨vs,cI.of hc.2⟩,k _ (λH U=>H a=some (.lst vs)/\¬ U a/\cv K H (λb=>¬ U b) vs ds) ⟨λ{H H' U U'} ⟨x1,x2,x3⟩ st mu=>⟨(st _ _ x1 x2).1,(st _ _ x1 x2).2,D5 x3 st mu⟩,λ{H U} ⟨x1,_,x3⟩=>⟨vs,cI.of x1,by rw[x3.1];exact bO _⟩,λ{H U i d} ⟨x1,x2,x3⟩ hd=> ?_⟩ ⟨hc.2,na rfl,hl,bB⟩⟩;obtain⟨u,hu,w⟩:=x3.get hd;exact⟨⟨vs,u,cI.of x1,hu⟩,λx H2 ⟨e,q⟩=>⟨e,by
   have:=q vs (cI.of x1);rw[hu]at this;cases this;exact w⟩⟩
 ·next cs=>
  cases h;obtain⟨a,vs,rfl,na,hc,hl,bB⟩:=w.node;refine .inr (.inl ⟨a,rfl,⟨vs,cE.of hc.2⟩,k _ (λH U=>H a=some (.tup vs)/\cv K H (λb=>¬ U b) vs ds) ⟨λ{H H' U U'} ⟨x1,x3⟩ st mu=>⟨st.gO mu _ _ (λz=>z) x1,D5 x3 st mu⟩,λ{H U} ⟨x1,x3⟩=>⟨vs,cE.of x1,by rw[x3.1];exact bO _⟩,λ{H U i d} ⟨x1,x3⟩ hd=> ?_⟩ ⟨hc.2,hl,bB⟩⟩);obtain⟨u,hu,w⟩:=x3.get hd;exact⟨⟨vs,u,cE.of x1,hu⟩,λx H2 ⟨e,q⟩=>⟨e,by
   have:=q vs (cE.of x1);rw[hu]at this;cases this;exact w⟩⟩
 ·next cs=>
  cases h;obtain⟨a,vs,rfl,na,hc,hl,bB⟩:=w.node;have ho:jA K H a vs:=hc.2;refine .inl ⟨a,rfl,⟨vs,ho.sq⟩,k _ (λH U=>jA K H a vs/\cv K H (λb=>¬ U b) vs ds) ⟨λ{H H' U U'} ⟨x1,x3⟩ st mu=>⟨x1.gO (st.gO mu),D5 x3 st mu⟩,λ{H U} ⟨x1,x3⟩=>⟨vs,x1.sq,by rw[x3.1];exact bO _⟩,λ{H U i d} ⟨x1,x3⟩ hd=> ?_⟩ ⟨ho,hl,bB⟩⟩;obtain⟨u,hu,w⟩:=x3.get hd;exact⟨⟨vs,u,x1.sq,hu⟩,λx H2 ⟨e,q⟩=>⟨e,by
   have:=q vs (x1.sq);rw[hu]at this;cases this;exact w⟩⟩
 ·next z=>
  cases h;have lz:(chars z).length=z.cps.size:=by unfold chars;simp
  refine .inr (.inr ⟨z,w.bA,k _ (λ_ _=>True) ⟨λ_ _ _=>trivial,λ{H U} _=>by show z.cps.size<=_;rw[lz];exact bO _,λ{H U i d} _ hd=> ?_⟩ trivial⟩);have hi:i < z.cps.size:=by rw[<- lz];exact(cm.mp hd).1
  refine⟨hi,λx H2 ⟨e,c,hc,hx⟩=>⟨e, ?_⟩⟩;subst hx;unfold chars at hd;rw[bJ]at hd;have:z.cps.toList[i]?=some c:=by simpa using hc
  rw[this]at hd;cases hd;exact .sc _
 ·cases h
theorem cA.out(o:cA K H H' v d)(mu:∀b,U b->iB (H b)):Vw K H' (λb=>¬ U b) v d:=by
 obtain⟨G,r,f⟩:=o;exact r.view λb z u=>by
  obtain⟨w,q⟩:=rN (mu b u);rw[(f b z).1]at q;cases q
def Sh(f:En->Option Pl)(Z:En):Option (List D):=(f Z).bind λ
 |.ro d=>fP d
 |.rt _ _=>none
instance (priority:=500) ayw{tl:TE}{fl:En->Option Pl}[A:SP K n tl fl]:A2 K n (vV K tl) (Sh fl):=⟨λ{σ hv H U Z τv τd ds R} I h k=>by
 obtain⟨q,h1,h2⟩:=ak.mp h;cases q with
 |rt _ _=>cases h2
 |ro d=>exact A.s I h1 λx H1 s1 w1=>Q0 w1 h2 λJ P wk p=>k J P H1 s1 wk p⟩
instance (priority:=400) aks{tl:TE}{fl:En->Option D}[A:SQ K n tl fl]:A2 K n (vV K tl) (λZ=>(fl Z).bind fP):=⟨λ{σ hv H U Z τv τd ds R} I h k=>by
 obtain⟨d,h1,h2⟩:=ak.mp h;exact A.o I h1 λx H1 s1 o=>Q0 (o.out I.ok.mu) h2 λJ P wk p=>k J P H1 s1 wk p⟩
noncomputable def eB (fg:D->En->Option En) (fb:En->Option Fl):List D->En->Option Fl
 | [],Z=>some (.nx Z)
 |d::ds,Z=>(fg d Z).bind λρ1=>(fb ρ1).bind λ
  |.nx ag=>eB fg fb ds ag
  |.ct ag=>eB fg fb ds ag
  |.bk ag=>some (.nx ag)
  |.rt d ag=>some (.rt d ag)
instance aaX[A:A2 K n wi fi][G:SG K n g fg is][B':SS K n tb fb]:SS K n (xv wi g tb) (λZ=>(fi Z).bind λds=>eB fg fb ds Z):=⟨λ{σ hv H U Z τv τd fl E} I h k=>by
 obtain⟨ds,h1,h⟩:=ak.mp h;refine A.s I h1 λJ P H1 s1 wk p0=> ?_;have e6:bH U H U H1:=λb o q nu=>⟨s1 b o q,nu⟩
 refine⟨λi m aF H'=>m=ds.length - i/\i<=ds.length/\∃U' ρ',av K n H' U' aF hv ρ' τv τd/\bH U H U' H'/\P H' U'/\eB fg fb (ds.drop i) ρ'=some fl,⟨ds.length,by simp,jO _,U,Z,I.same s1,e6,p0,h⟩, ?_⟩;rintro i m aF H' ⟨rfl,hi,U',ρ',Ix,st,p,fo⟩;by_cases dS:i < ds.length
 ·right;have hd:ds[i]?=some ds[i]:=dH dS;obtain⟨go,yl⟩:=wk.item p hd;rw[Cr dS,eB]at fo;obtain⟨ρ1,b1,fo⟩:=ak.mp fo;obtain⟨t6,b2,fo⟩:=ak.mp fo;refine⟨go,λeY H2=>∃U2 ag,av K n H2 U2 eY hv ag τv τd/\bH U' H' U2 H2/\eB fg fb (ds.drop (i + 1)) ag=some fl,λeY H2 ⟨U2,ag,a1,a2,a3⟩=>⟨_,by lia,rfl,dS,U2,ag,a1,st.trans a2,wk.step p a2 Ix.ok.mu,a3⟩,λx H2 y2=> ?_⟩;obtain⟨e,w2⟩:=yl x H2 y2;subst e;refine G.s Ix w2 b1 λeY I2=> ?_;refine B'.s I2 b2 ?_;cases t6 with
  |nx ag=>exact λeh H3 U3 I3 s3=>⟨U3,ag,I3,s3,fo⟩
  |ct ag=>exact λeh H3 U3 I3 s3=>⟨U3,ag,I3,s3,fo⟩
  |bk ag=>cases fo;exact λeh H3 U3 I3 s3=>k eh H3 U3 I3 (st.trans s3)
  |rt d ag=>cases fo;exact λv eh H3 U3 I3 s3=>k v eh H3 U3 I3 (st.trans s3)
 ·left;have e:i=ds.length:=by lia
  subst e;rw[FR,eB]at fo;cases fo;exact⟨wk.stop p,k aF H' U' Ix st⟩⟩
open Classical in
end
section
variable {K:ah}{n:Nat}{H H' H1 H2:Hp}{U U':Addr->Prop}{σ hv:List (Option V)}{Z ρ':En}{τv vs:List V}{τd ds:List D}{v y:V}{d:D}{E:XK}{N:Addr->Prop}{C:Addr}{m:Str}
section
variable {κ:Type}[DecidableEq κ]
end
end
end VL
namespace HT
open PySem PySem.Spec PyProof.Rows L2
section
variable {w:World}{A:Around}{E:Value->Shared->Prop}{s:Shared}
theorem aa3{t sl:Addr}{items:Array Value}{vl vu:Value}{lo hi:Option Int}{Q:Value->Shared->Prop}(ht:IsTup s.heap t items)(hs:s.heap.IsSliceOf sl vl vu .none)(pl:IsPart vl lo)(pu:IsPart vu hi)
  (hw:bE items.size 0 lo=0/\bE items.size items.size hi=items.size) (h:Q (.ref t) s):wpAny (model prog w) A (getItem (.ref t) (.ref sl)) Q E s:=by
 obtain⟨os,mP,ql,qm⟩:=id hs;have Ak:s.TypeIs (.ref sl) "slice":=⟨os,mP,ql⟩
 unfold getItem
 try with_reducible refine uL ?_
 first | refine az (bF ?_) | skip
 refine az (wpAny_sequenceKey ht.typeIs (by decide) ?_);refine az (ze (name:=ae "__getitem__") ht.typeIs uQ
  (wW uQ ht.typeIs Vd ?_ (args_tuple_getitem _ _)))
 show wpAny _ _ (VJ (.ref t) >>= _) _ _ s;refine az (tupleItemsOf_ ht ?_);refine az (Np Ak ?_);rw[if_pos (by decide)];refine az (OW hs pl pu ?_);have aa4:(((bE items.size 0 lo:Nat):Int) == 0 && (1:Int) == 1 && (bE items.size items.size hi - bE items.size 0 lo) == items.size)=true:=by
  rw[hw.1,hw.2];simp
 show wpAny _ _ (if(((bE items.size 0 lo:Nat):Int) == 0 && (1:Int) == 1 && (bE items.size items.size hi - bE items.size 0 lo) == items.size)=true then _ else _) _ _ s;rw[if_pos aa4];unfold Builtin.Tuple.tupleIsExact;refine az (az (Np ht.typeIs (bF ?_)));rw[if_pos (by decide)];exact az (wU (bF ⟨_,rfl,bF h⟩))
end
end HT
namespace VL
open PySem PySem.Spec PyProof.Rows L2
def Q4(K:ah):V->Option Int->Option Int->Hp->VK->Prop:=λx lo hi H Q=>∃a xs,x= .ref a/\cE K H a xs/\(HT.bE xs.length 0 lo=0/\HT.bE xs.length xs.length hi=xs.length)/\Q (.ref a) H
theorem aa5:mQ X (Q4 X.K):=by
 intro ab s σ H x v vl vu lo hi sl Q I rx hs pl pu h;obtain⟨a,xs,rfl,hx,hw,q⟩:=h;cases rx;obtain⟨its,r,ht,hz⟩:=I.tuple hx;have dw:its.toArray.size=xs.length:=by rw[fM];exact r.length.symm
 refine⟨"tuple",_,uQ.lookup,ht.typeIs, ?_⟩;exact HT.aa3 ht hs pl pu (by rw[dw];exact hw) ⟨.ref a,H,I,rfl,q⟩
def aa6:V->Option Int->Option Int->Hp->VK->Prop:=λx lo hi H Q=>∃z,x= .str z/\z.length<=aM/\Q (.str (xj z lo hi)) H
def oR(K:ah):V->Option Int->Option Int->Hp->VK->Prop:=λx lo hi H Q=>OZ K x lo hi H Q\/Q4 K x lo hi H Q\/O6 K x lo hi H Q\/aa6 x lo hi H Q
theorem yh:mQ X (oR X.K):=mQ.or XN (mQ.or aa5 (mQ.or XZ Zn))
def cutD{α:Type}(xs:List α)(lo hi:Option Int):List α:=(xs.drop (HT.bE xs.length 0 lo)).take (HT.bE xs.length xs.length hi - HT.bE xs.length 0 lo)
def oS(a:D)(lo hi:Option Int):Option D:=match a with
 |.nd .tup cs=>if bI cs=true then some (.nd .tup (cutD cs lo hi)) else none
 |.nd .lst cs=>if bI cs=true then some (.nd .lst (cutD cs lo hi)) else none
 |.nd .e8 cs=>if bI cs=true then some (.nd .lst (cutD cs lo hi)) else none
 |.sc (.str z)=>if z.length<=aM then some (.sc (.str (xj z lo hi))) else none
 |_=>none
section
variable {K:ah}{n:Nat}{H H' H1 H2:Hp}{U U':Addr->Prop}{σ hv:List (Option V)}{Z ρ':En}{τv vs:List V}{τd ds:List D}{v y:V}{d:D}
theorem D8{α β:Type}{R:α->β->Prop}{xs:List α}{ys:List β}(hl:xs.length=ys.length)(h:∀(i:Nat) (x:α) (y:β),xs[i]?=some x->ys[i]?=some y->R x y)(lo hi:Option Int):
  (cutD xs lo hi).length=(cutD ys lo hi).length/\∀(i:Nat) (x:α) (y:β),(cutD xs lo hi)[i]?=some x->(cutD ys lo hi)[i]?=some y->R x y:=by
 unfold cutD;rw[hl];generalize HT.bE ys.length 0 lo=p;generalize HT.bE ys.length ys.length hi - p=q;refine⟨by simp[hl],λi x y hx hy=> ?_⟩;by_cases c:i < q
 ·rw[VE c,aiE]at hx hy;exact h _ x y hx hy
 ·rw[List.getElem?_take,if_neg c]at hx;cases hx
theorem Iy(h:bI cs=true)(hs:∀d∈es,d∈cs):bI es=true:=vM λd hd=>xV h (hs d hd)
theorem Iz{α:Type}{xs:List α}{lo hi:Option Int}:∀x∈cutD xs lo hi,x∈xs:=λx hx=>aya (arz hx)
class SO(K:ah)(n:Nat)(t:TO)(f:outParam (En->Option (Option Int))):Prop where
 s:∀{σ hv:List (Option V)} {H:Hp} {U:Addr->Prop} {Z:En} {τv:List V} {τd:List D} {o:Option Int} {Q:Option Int->Hp->Prop},av K n H U σ hv Z τv τd->f Z=some o->(∀H',aJ H H'->Q o H')->t σ H Q
instance aky:SO K n GD (λ_=>some none):=⟨λI h k=>by cases h;exact k _ (aJ.refl _)⟩
noncomputable def i9:D->Option (Option Int)
 |.sc (.int i)=>some (some i)
 |_=>none
instance akz[A:SV K n t f]:SO K n (rm t) (λZ=>(f Z).bind i9):=⟨λ{σ hv H U Z τv τd o Q} I h k=>by
 obtain⟨d,h1,h2⟩:=ak.mp h;refine A.s I h1 λv H1 s1 w1=> ?_;unfold i9 at h2
 split at h2
 ·next i=>cases h2;exact⟨i,w1.bA,k H1 s1⟩
 ·cases h2⟩
theorem Q5{Q:VK}{x:D}{lo hi:Option Int}(w:Vw K H T1 v x)(h:oS x lo hi=some d)(k:∀v H',aJ H H'->cA K H H' v d->Q v H'):oR K v lo hi H Q:=by
 unfold oS at h
 split at h
 ·next cs=>
  by_cases c:bI cs=true
  ·rw[if_pos c]at h;cases h;obtain⟨a,vs,rfl,hc,vl⟩:=w.ip;by_cases cw:HT.bE vs.length 0 lo=0/\HT.bE vs.length vs.length hi=vs.length
   ·refine .inr (.inl ⟨a,vs,rfl,cE.of hc.2,cw, ?_⟩);have e:cutD cs lo hi=cs:=by
     unfold cutD;rw[<- vl.1,cw.1,cw.2,V7,at4,vl.1,aiF]
    rw[e]at k;exact k _ H (aJ.refl H) (cA.plain w c)
   ·refine .inl ⟨a,vs,rfl,cE.of hc.2,cw,λp hp=> ?_⟩;have g:=D8 vl.1 vl.2 lo hi;exact k _ _ (fE hp _) (cv.own (k:= .tup) ⟨g.1,g.2⟩ (Iy c Iz) hp (.inl ⟨rfl,rfl⟩))
  ·rw[if_neg c]at h;cases h
 ·next cs=>
  by_cases c:bI cs=true
  ·rw[if_pos c]at h;cases h;obtain⟨a,vs,rfl,hc,vl⟩:=w.ip;refine .inr (.inr (.inl ⟨a,vs,rfl,cI.of hc.2,λp hp=> ?_⟩));have g:=D8 vl.1 vl.2 lo hi;exact k _ _ (fE hp _) (cv.own (k:= .lst) ⟨g.1,g.2⟩ (Iy c Iz) hp (.inr ⟨rfl,trivial,0,rfl⟩))
  ·rw[if_neg c]at h;cases h
 ·next cs=>
  by_cases c:bI cs=true
  ·rw[if_pos c]at h;cases h;obtain⟨a,vs,rfl,hc,vl⟩:=w.ip;refine .inr (.inr (.inl ⟨a,vs,rfl,jA.sq hc.2,λp hp=> ?_⟩));have g:=D8 vl.1 vl.2 lo hi;exact k _ _ (fE hp _) (cv.own (k:= .lst) ⟨g.1,g.2⟩ (Iy c Iz) hp (.inr ⟨rfl,trivial,0,rfl⟩))
  ·rw[if_neg c]at h;cases h
 ·next z=>
  by_cases c:z.length<=aM
  ·rw[if_pos c]at h;cases h;exact .inr (.inr (.inr ⟨z,w.bA,c,k _ H (aJ.refl H) (.sc _)⟩))
  ·rw[if_neg c]at h;cases h
 ·cases h
def td(fe:En->Option D)(fl fh:En->Option (Option Int))(Z:En):Option D:=(fe Z).bind λd=>(fl Z).bind λlo=>(fh Z).bind λhi=>oS d lo hi
instance akA[A:SV K n te fe][L:SO K n tl fl][R:SO K n th fh]:SF K n (CY (oR K) te tl th) (td fe fl fh):=⟨λ{σ hv H U Z τv τd d Q} I h k=>by
 obtain⟨x,h1,h⟩:=ak.mp h;obtain⟨lo,h2,h⟩:=ak.mp h;obtain⟨hi,h3,h⟩:=ak.mp h;refine A.s I h1 λv H1 s1 w1=>L.s (I.same s1) h2 λH2 s2=>R.s ((I.same s1).same s2) h3 λH3 s3=> ?_;exact Q5 (w1.same (s2.trans s3)) h λv H4 s4 o=>k v H4 (s1.trans (s2.trans (s3.trans s4))) (o.early (s1.trans (s2.trans s3)))⟩
def oU(i d:D)(cs:List D):Option (List D):=match i with
 |.sc (.int j)=>(gC cs.length j).map λp=>cs.set p d
 |_=>none
theorem aa7{i d:D}(h:oU i d cs=some fU):∃j p,i= .sc (.int j)/\gC cs.length j=some p/\fU=cs.set p d:=by
 unfold oU at h
 split at h
 ·next j=>
  obtain⟨p,h1,h2⟩:=aY.mp h;exact⟨j,p,rfl,h1,h2.symm⟩
 ·cases h
def rT(fe:En->Option (D×En))(fp:En->Option Pl)(fi:En->Option D)(Z:En):Option Fl:=(fe Z).bind λa=>(fp a.2).bind λ
 |.rt r p=>(fi a.2).bind λi=>(lO a.2 r p (oU i a.1)).map .nx
 |.ro _=>none
instance akB[A:SM K n te fe][P:SP K n to fp][J:SV K n ti fi]:SS K n (vh te (Oq to ti O5)) (rT fe fp fi):=⟨λ{σ hv H U Z τv τd fl E} I h k=>by
 obtain⟨⟨d,ρ1⟩,h1,h⟩:=ak.mp h;obtain⟨q,h2,h⟩:=ak.mp h;cases q with
 |ro _=>cases h
 |rt r p=>
  obtain⟨i,h3,h⟩:=ak.mp h;obtain⟨ag,h4,h⟩:=aY.mp h;subst h;refine A.s I h1 λx H1 U1 I1 bQ=> ?_;refine P.s I1 h2 λo H2 s2 w2=> ?_;have I2:=I1.same s2;refine J.s I2 h3 λj H3 s3 w3=> ?_;have I3:=I2.same s3;have yg:=w2.same s3;have e6:bH U1 H1 U1 H3:=λb o q nu=>⟨(s2.trans s3) b o q,nu⟩
  obtain⟨⟨d0,kk,cs⟩,g1,g2⟩:=ak.mp h4;obtain⟨hr,hg⟩:=qx g1
  split at g2
  ·next e=>
   have e:kk= .lst:=e;subst e;obtain⟨fU,g3,g4⟩:=aY.mp g2;subst g4;obtain⟨z,pp,ei,g5,g6⟩:=aa7 (show oU i d cs=some fU from g3);subst ei;subst g6
   ·skip
    obtain⟨a,dx,vs,rfl,ha,hf,hl,_,ed⟩:=av.edit (xs:= [x]) (ds:= [d]) I3 rfl yg hr hg rfl;have hi:pp < vs.length:=by rw[hl];exact aan g5
    refine⟨a,vs,z,pp,rfl,w3.bA,ha,by rw[hl];exact g5, ?_⟩;obtain⟨U4,I4,nz⟩:=ed .lst (vs.set pp x) (cs.set pp d) (λj=>if j=pp then vs.length else j) rfl trivial (by rw[bN,bN];exact hl)
     (λx z hx hz=>AR hi x z (by rw[bN]at hx;exact hx) (by rw[bN]at hz;exact hz)) (qy hi) (by rw[hl];exact qy (by lia))
    exact k σ _ U4 I4 (bQ.trans (e6.trans nz))
  ·cases g2⟩
end
theorem Q7{K:ah}{m:Nat}{G:List D->Option D}{vs:List V}{H:Hp}{Q:VK}{E:XK}(h:cL K m G vs H Q E):vs.length=m:=by
 obtain⟨ds,d,hd,w,_⟩:=h;rw[w.1,hd]
def lU(X:Cx)(scope:Scope):List Str->List (Option Nat)->Prop
 | [], []=>True
 |_::N,none::js=>lU X scope N js
 |x::N,some j::js=>(X.N[j]?=some x/\scope.names.lookup x=some .free/\(X.env.scope.names.lookup x=some .cell\/X.env.scope.names.lookup x=some .free))/\lU X scope N js
 |_,_=>False
noncomputable def mx:List Str->List (Option Nat)->List Str
 |_::N,none::js=>mx N js
 |x::N,some _::js=>x::mx N js
 |_,_=> []
theorem lU.len:∀{N:List Str} {js:List (Option Nat)},lU X scope N js->js.length=N.length
 | [], [],_=>rfl
 |_::N,none::js,h=>congrArg (· + 1) (lU.len h)
 |_::N,some _::js,h=>congrArg (· + 1) (lU.len (N:=N) h.2)
 | [],_::_,h=>h.elim
 |_::_, [],h=>h.elim
theorem lU.at:∀{N:List Str} {js:List (Option Nat)} {i j:Nat} {x:Str},lU X scope N js->js[i]?=some (some j)->N[i]?=some x->X.N[j]?=some x/\scope.names.lookup x=some .free/\(X.env.scope.names.lookup x=some .cell\/X.env.scope.names.lookup x=some .free)
 | [], [],_,_,_,_,h,_=>by simp at h
 |_::N,none::js,0,j,x,_,h,_=>by cases h
 |_::N,none::js,i + 1,j,x,h,h1,h2=>lU.at (js:=js) h (by simpa using h1) (by simpa using h2)
 |_::N,some _::js,0,j,x,h,h1,h2=>by cases h1;cases h2;exact h.1
 |_::N,some _::js,i + 1,j,x,h,h1,h2=>lU.at h.2 (by simpa using h1) (by simpa using h2)
 | [],_::_,_,_,_,h,_,_=>h.elim
 |_::_, [],_,_,_,h,_,_=>h.elim
theorem lU.mem:∀{N:List Str} {js:List (Option Nat)} {x:Str},lU X scope N js->x∈mx N js->X.env.scope.names.lookup x=some .cell\/X.env.scope.names.lookup x=some .free
 | [], [],_,_,h=>by simp[mx]at h
 |_::N,none::js,x,h,hm=>lU.mem (N:=N) (js:=js) h hm
 |y::N,some _::js,x,h,hm=>by
  rw[mx]at hm;cases hm with
  |head=>exact h.1.2.2
  |tail _ hm=>exact lU.mem (N:=N) (js:=js) h.2 hm
 | [],_::_,_,h,_=>h.elim
 |_::_, [],_,h,_=>h.elim
theorem jI(h:lU X scope N js)(Az:∀z∈scope.names,z.2= .free->z.1∈mx N js:=by decide +kernel):Di X N scope js:=
 ⟨h.len,λi j x e1 e2=>h.at e1 e2,λz hz xO=>h.mem (Az z hz xO)⟩
section
variable {j k:Nat}{x m:Str}{e o:Expr}{ta:TE}
end
section
variable {K:ah}{n:Nat}{H H' H1 H2:Hp}{U U':Addr->Prop}{σ hv:List (Option V)}{Z ρ':En}{τv vs:List V}{τd ds:List D}{v y:V}{d:D}
instance akD:kc K n Dm (λ_=>some true):=⟨λI h k=>by cases h;exact k _ (aJ.refl _)⟩
noncomputable def ng (g g':D->D->Option D) (fa fb fc:En->Option D) (Z:En):Option D:=(fa Z).bind λa=>(fb Z).bind λb=>(fc Z).bind λc=>(g a b).bind λ
 |.sc (.bl true)=>g' b c
 |.sc (.bl false)=>some (.sc (.bl false))
 |_=>none
instance akF{ta tb tc:TE}[A:SV K n ta fa][B':SV K n tb fb][C':SV K n tc fc][O:jD K r g][O':jD K r' g']:SF K n (OC r r' ta tb tc) (ng g g' fa fb fc):=⟨λ{σ hv H U Z τv τd d Q} I h k=>by
 obtain⟨a,ha,h⟩:=ak.mp h;obtain⟨b,hb,h⟩:=ak.mp h;obtain⟨c,hc,h⟩:=ak.mp h;obtain⟨z,hz,h⟩:=ak.mp h;refine A.s I ha λx H1 s1 w1=>B'.s (I.same s1) hb λy H2 s2 w2=> ?_;refine O.s (w1.same s2) w2 hz λu H3 s3 o=> ?_;have wu:=o.vw
 split at h
 ·refine⟨true,wu.bA, ?_⟩;rw[if_pos rfl];refine C'.s (((I.same s1).same s2).same s3) hc λt H4 s4 w4=> ?_;exact O'.s (w2.same (s3.trans s4)) w4 h λu H5 s5 o5=>k u H5 (s1.trans (s2.trans (s3.trans (s4.trans s5)))) (o5.early (s1.trans (s2.trans (s3.trans s4))))
 ·cases h;refine⟨false,wu.bA, ?_⟩;rw[if_neg df];exact k _ H3 (s1.trans (s2.trans s3)) (.sc _)
 ·cases h⟩
end
section
variable {K:ah}{n:Nat}{H H':Hp}{U U':Addr->Prop}{σ hv:List (Option V)}{Z ρ':En}{τv vs:List V}{τd ds cs:List D}{v:V}{d:D}{E:ke}
theorem amj{α:Type}{a b c c':List α}(h:i < a.length + b.length):(a++(b++c))[i]?=(a++(b++c'))[i]?:=by
 rw[<- b8, <- b8,aU (l₂:=c) (by simp;exact h),aU (l₂:=c') (by simp;exact h)]
theorem av.amX(I:av K n H U σ hv Z (τv++ [v]) (τd++ [.nd .tup cs])):∃a vs,v= .ref a/\H a=some (.tup vs)/\vs.length=cs.length/\av K n H U σ hv Z (τv++vs) (τd++cs):=by
 have l:=I.len;have tl:=I.tl;simp only[bo,c8,List.length_nil]at tl;obtain⟨hl,mu,Fs,dj,sub,sl⟩:=I.ok;have eD:(Z++(τd++ [D.nd .tup cs]).map λd=>some (B.own d))[Z.length + τd.length]?=some (some (.own (.nd .tup cs))):=by
  rw[br (by lia)];simp
 have eV:(σ++hv++(τv++ [v]).map some)[Z.length + τd.length]?=some (some v):=by
  rw[br (by simp;lia)];simp;rw[show Z.length + τd.length - (σ.length + hv.length)=τv.length by lia];simp
 obtain⟨v',ev,sv⟩:=sl _ _ eD;rw[eV]at ev;cases ev;have sv:bg K H (Fs (Z.length + τd.length)) v (.nd .tup cs):=sv;cases sv with
 | @nd F a k vs cs Gs h1 h2 h3 h4 h5=>
  refine⟨a,vs,rfl,h1,h2,⟨?_,I.len,I.nn⟩⟩;refine⟨by simp;lia,mu,λi b=>if i < Z.length + τd.length then Fs i b else Gs (i - (Z.length + τd.length)) b,λi j b hi hj=> ?_,λi b hb=> ?_,λi β aa=> ?_⟩
  ·have hi:if i < Z.length + τd.length then Fs i b else Gs (i - (Z.length + τd.length)) b:=hi;have hj:if j < Z.length + τd.length then Fs j b else Gs (j - (Z.length + τd.length)) b:=hj;by_cases c1:i < Z.length + τd.length
   ·rw[if_pos c1]at hi;by_cases c2:j < Z.length + τd.length
    ·rw[if_pos c2]at hj;exact dj _ _ _ hi hj
    ·rw[if_neg c2]at hj;have:=dj _ _ _ hi (h4 _ _ hj).1
     lia
   ·rw[if_neg c1]at hi;by_cases c2:j < Z.length + τd.length
    ·rw[if_pos c2]at hj;have:=dj _ _ _ hj (h4 _ _ hi).1
     lia
    ·rw[if_neg c2]at hj;have:=h3 _ _ _ hi hj
     lia
  ·have hb:if i < Z.length + τd.length then Fs i b else Gs (i - (Z.length + τd.length)) b:=hb;by_cases c1:i < Z.length + τd.length
   ·rw[if_pos c1]at hb;exact sub _ _ hb
   ·rw[if_neg c1]at hb;exact sub _ _ (h4 _ _ hb).1
  ·by_cases c1:i < Z.length + τd.length
   ·have AK:(Z++(τd++ [D.nd .tup cs]).map λd=>some (B.own d))[i]?=some (some β):=by
     rw[<- aa,cK,cK];exact amj (by simp;lia)
    obtain⟨x,ex,sx⟩:=sl _ _ AK;have aiS:(σ++hv++(τv++vs).map some)[i]?=some (some x):=by
     rw[<- ex,cK,cK];exact amj (by simp;lia)
    refine⟨x,aiS, ?_⟩;simp only[if_pos c1];cases β with
    |own d=>exact sx
    |ro d=>exact sx
    |aB r p=>
     obtain⟨a1,vr,a2,a3⟩:=sx;refine⟨a1,vr, ?_,a3⟩;rw[<- a2,cK,cK];exact amj (by simp;lia)
   ·rw[cK, <- b8,br (by simp;lia)]at aa;rw[bo,bb,bJ]at aa;obtain⟨d,hd,e⟩:=aY.mp aa;cases e;have lt:=(cm.mp hd).1;refine⟨vs[i - (Z.length + τd.length)]'(by lia), ?_, ?_⟩
    ·rw[cK, <- b8,br (by simp;lia)];simp only[bo,bb,bJ];rw[show σ.length + hv.length + τv.length=Z.length + τd.length by lia,dH (by lia)];rfl
    ·simp only[if_neg c1];exact h5 _ _ _ (dH (by lia)) hd
def binds:List Nat->List D->En->En
 |i::is,d::ds,Z=>binds is ds (bq i (.own d) Z)
 |_,_,Z=>Z
class GN(K:ah)(n:Nat)(g:rb)(is:outParam (List Nat)):Prop where
 s:∀{σ hv:List (Option V)} {H:Hp} {U:Addr->Prop} {Z:En} {τv:List V} {τd:List D} {xs:List V} {ds:List D} {Q:L2.St->Hp->Prop},av K n H U σ hv Z (τv++xs) (τd++ds)->xs.length=ds.length->ds.length=is.length->(∀aF,av K n H U aF hv (binds is ds Z) τv τd->Q aF H)->g xs σ H Q
instance akI:GN K n zH []:=⟨λ{σ hv H U Z τv τd xs ds Q} I hl hd k=>by
 cases ds with
 |cons _ _=>cases hd
 |nil=>
  cases xs with
  |cons _ _=>cases hl
  |nil=>rw[bR,bR]at I;exact⟨rfl,k _ I⟩⟩
instance akJ[L:jC i n][A:GN K n t is]:GN K n (vg (lB i) t) (i::is):=⟨λ{σ hv H U Z τv τd xs ds Q} I hl hd k=>by
 cases ds with
 |nil=>cases hd
 |cons d ds=>
  cases xs with
  |nil=>cases hl
  |cons x xs=>exact⟨x,xs,rfl,A.s ((I.QD (dA hl)).bound L.h (.inr trivial)) (dA hl) (dA hd) k⟩⟩
def y9(is:List Nat):D->En->Option Fl
 |.nd .tup cs,Z=>if cs.length=is.length then some (.nx (binds is cs Z)) else none
 |_,_=>none
def Sz(is:List Nat)(f:En->Option (D×En))(Z:En):Option Fl:=(f Z).bind λr=>y9 is r.1 r.2
instance anQ[Lm:vW is m][G:GN K n t is][A:SM K n te fe]:SS K n (vh te (CH K m t)) (Sz is fe):=⟨λ{σ hv H U Z τv τd fl E} I h k=>by
 obtain⟨⟨d,ρ1⟩,h1,h2⟩:=ak.mp h;have h2:y9 is d ρ1=some fl:=h2;clear h;cases d with
 |sc x=>cases h2
 |hl x=>cases h2
 |nd kd cs=>
 cases kd with
 |tup=>
  have h2:(if cs.length=is.length then some (Fl.nx (binds is cs ρ1)) else none)=some fl:=h2;by_cases c:cs.length=is.length
  ·rw[if_pos c]at h2;cases h2;refine A.s I h1 λv H1 U1 I1 bQ=> ?_;obtain⟨a,vs,rfl,ha,hl,I2⟩:=I1.amX;exact⟨a,vs,rfl,cE.of ha,by rw[hl,c];exact Lm.h,G.s I2 hl c λaF I3=>k _ H1 U1 I3 bQ⟩
  ·rw[if_neg c]at h2;cases h2
 |_=>cases h2⟩
end
open PySem.W
section
variable {K:ah}{n:Nat}{H H':Hp}
end
section
variable {k:Nat}{f:Addr}
end
section
variable {K:ah}{n:Nat}{H H':Hp}
end
section
open MeetsSeq MeetsSeq2 MeetsSeq3 SeqRoads2
variable {k:Nat}{f:Addr}
end
section
variable {K:ah}{n:Nat}{H H':Hp}
end
section
variable {P:Program}{w:World}{K:ah}{mg:Str->Option Value}{base:Heap}{k:Nat}{f:Addr}{fd:kK}{ps:List Str}{m:Nat}{bp:List Bool}
theorem abe:bZ P w K mg base cG k f fd ps (cL K m λ_=>none):=by
 refine⟨λvs H Q E h=> ?_,λA outer s H args us vs Q E _ _ _ _ h=> ?_⟩
 ·obtain⟨ds,d,_,_,h,_⟩:=h;cases h
 ·obtain⟨ds,d,_,_,h,_⟩:=h;cases h
end
section
variable {K:ah}{n:Nat}{H H' H1 H2:Hp}{U U':Addr->Prop}{σ hv:List (Option V)}{Z ρ':En}{τv vs:List V}{τd ds:List D}{v y:V}{d:D}{E:ke}
end
section
variable {K:ah}{n:Nat}
def gQ(g:D->D->Option Nat)(gs:V->D->Option V)(a b:D):Option D:=(dg g gs a b).bind λd=>if plain d=true then some d else none
theorem Rb[O:tU K r g gs]:jD K r (gQ g gs):=⟨λ{H x y dx dy d Q} w1 w2 h k=>by
 obtain⟨d',h1,h2⟩:=ak.mp h;by_cases c:plain d'=true
 ·rw[if_pos c]at h2;cases h2;cases dx with
  |sc z=>
   obtain⟨w,h3,h4⟩:=aY.mp h1;subst h4;rw[w1.bA];exact O.t w2 h3 (k w H (aJ.refl H) (.sc w))
  |hl _=>
   obtain⟨i,hi,h⟩:=ak.mp h1;cases h
  |nd kk cs=>
   obtain⟨i,hi,h⟩:=ak.mp h1;obtain⟨a,vs,rfl,_,hc,hl,bB⟩:=w1.node;obtain⟨u,hu⟩:=sA hl h;exact O.s hc hl w2 hi hu (k u H (aJ.refl H) (cA.plain (bB i u d hu h) c))
 ·rw[if_neg c]at h2;cases h2⟩
instance (priority:=30) abf{r:R2}{ta tb:TE}{fa fb:En->Option (D×En)}{g:D->D->Option Nat}{gs:V->D->Option V}[A:SM K n ta fa][B':SM K n tb fb][O:tU K r g gs]:SM K n (ig r ta tb) (hZ (gQ g gs) fa fb):=
 have:jD K r _:=Rb
 Z6
def i5(a b:D):Option D:=match a,b with
 |.nd .tup xs, .nd .tup ys=>if xs≠ []/\xs.length + ys.length<=aM then some (.nd .tup (xs++ys)) else none
 |a,b=>en a b
theorem abg(w1:Vw K H T1 x a)(w2:Vw K H T1 y b)(h:i5 a b=some d)(k:∀v H',aJ H H'->Vw K H' T1 v d->Q v H'):AZ K x y H Q:=by
 unfold i5 at h
 split at h
 ·next xs ys=>
  by_cases c:xs≠ []/\xs.length + ys.length<=aM
  ·rw[if_pos c]at h;cases h;obtain⟨a,vs,rfl,hc,vl⟩:=w1.ip;obtain⟨b,us,rfl,jV,ul⟩:=w2.ip;have nv:vs≠ []:=λz=>by
    subst z;have:=vl.1;exact c.1 (sN this.symm)
   refine .inr (.inr (.inr ⟨a,b,vs,us,rfl,rfl,cE.of hc.2,cE.of jV.2,nv,by rw[vl.1,ul.1];exact c.2,λz=> ?_,λ_ p hp=> ?_⟩))
   ·subst z;have e:=sN ul.1.symm;subst e;rw[bR]at k;exact k _ H (aJ.refl H) w1
   ·exact k _ _ (fE hp _) ((vl.app ul).node hp (.inl ⟨rfl,rfl⟩))
  ·rw[if_neg c]at h;cases h
 ·exact aaM.s w1 w2 h λv H3 s3 o=>k v H3 s3 o.vw
instance (priority:=950) akL{ta tb:TE}{fa fb:En->Option D}[A:SV K n ta fa][B':SV K n tb fb]:SV K n (ig (AZ K) ta tb) (au i5 fa fb):=⟨λ{σ hv H U Z τv τd d Q} I h k=>by
 obtain⟨a,ha,h⟩:=ak.mp h;obtain⟨b,hb,h⟩:=ak.mp h;refine A.s I ha λx H1 s1 w1=> ?_;refine B'.s (I.same s1) hb λy H2 s2 w2=> ?_;exact abg (w1.same s2) w2 h λv H3 s3 w=>k v H3 (s1.trans (s2.trans s3)) w⟩
def pO(a:D)(lo hi:Option Int):Option D:=match a with
 |.nd .tup cs=>some (.nd .tup (cutD cs lo hi))
 |a=>oS a lo hi
theorem abh{H:Hp}{v:V}{a d:D}{lo hi:Option Int}{Q:VK}(w:Vw K H T1 v a)(h:pO a lo hi=some d)(k:∀v H',aJ H H'->Vw K H' T1 v d->Q v H'):oR K v lo hi H Q:=by
 unfold pO at h
 split at h
 ·next cs=>
  cases h;obtain⟨a,vs,rfl,hc,vl⟩:=w.ip;by_cases cw:HT.bE vs.length 0 lo=0/\HT.bE vs.length vs.length hi=vs.length
  ·refine .inr (.inl ⟨a,vs,rfl,cE.of hc.2,cw, ?_⟩);have e:cutD cs lo hi=cs:=by
    unfold cutD;rw[<- vl.1,cw.1,cw.2,V7,at4,vl.1,aiF]
   rw[e]at k;exact k _ H (aJ.refl H) w
  ·refine .inl ⟨a,vs,rfl,cE.of hc.2,cw,λp hp=> ?_⟩;have g:=D8 vl.1 vl.2 lo hi;exact k _ _ (fE hp _) (cv.node ⟨g.1,g.2⟩ hp (.inl ⟨rfl,rfl⟩))
 ·exact Q5 w h λv H4 s4 o=>k v H4 s4 o.vw
def pP(fe:En->Option D)(fl fh:En->Option (Option Int))(Z:En):Option D:=(fe Z).bind λd=>(fl Z).bind λlo=>(fh Z).bind λhi=>pO d lo hi
instance (priority:=950) akM{te:TE}{tl th:TO}{fe:En->Option D}{fl fh:En->Option (Option Int)}[A:SV K n te fe][L:SO K n tl fl][R:SO K n th fh]:SV K n (CY (oR K) te tl th) (pP fe fl fh):=⟨λ{σ hv H U Z τv τd d Q} I h k=>by
 obtain⟨x,h1,h⟩:=ak.mp h;obtain⟨lo,h2,h⟩:=ak.mp h;obtain⟨hi,h3,h⟩:=ak.mp h;refine A.s I h1 λv H1 s1 w1=>L.s (I.same s1) h2 λH2 s2=>R.s ((I.same s1).same s2) h3 λH3 s3=> ?_;exact abh (w1.same (s2.trans s3)) h λv H4 s4 w=>k v H4 (s1.trans (s2.trans (s3.trans s4))) w⟩
instance (priority:=2000) akN{r:R2}{ta:TA}{tb:TE}{fa:En->Option (List D)}{fb:En->Option (D×En)}{g:D->D->Option Nat}{gs:V->D->Option V}[A:yc K n ta fa][B':SM K n tb fb][O:tU K r g gs]:SM K n (ig r (vn ta) tb) (hZ (gQ g gs) (λZ=>(d7 .lst fa Z).map λd=>(d,Z)) fb):=
 abf
variable {C:Addr}{E:XK}
def pQ(i j:Nat):List D->En->Option Fl
 | [a,b],Z=>some (.nx (binds [i,j] [a,b] Z))
 |_,_=>none
def qC(i j:Nat)(fa:En->Option (List D×En))(Z:En):Option Fl:=(fa Z).bind λr=>pQ i j r.1 r.2
instance akO[L1:jC i n][L2:jC j n][A:qv K n ta fa]:SS K n (Ot i j ta) (qC i j fa):=⟨λ{σ hv H U Z τv τd fl E} I h k=>by
 obtain⟨⟨ds,ρ1⟩,h1,h2⟩:=ak.mp h;have h2:pQ i j ds ρ1=some fl:=h2;unfold pQ at h2
 split at h2
 ·next a b=>
  cases h2;refine A.s I h1 λvs H1 U1 hl I1 bQ=> ?_
  match vs,hl with
  | [v,w],hl=>
   have G:GN K n (vg (lB i) (vg (lB j) zH)) [i,j]:=inferInstance;have q:=G.s I1 hl rfl λaF I3=>k aF H1 U1 I3 bQ;obtain⟨x,xs,e,y,ys,e2,e3,q⟩:=q;cases e;cases e2;exact⟨v,w,rfl,q⟩
 ·cases h2⟩
end
section
variable {K:ah}{n:Nat}{H H':Hp}{U U':Addr->Prop}{σ hv:List (Option V)}{Z ρ':En}{τv vs:List V}{τd ds:List D}{d:D}
end
section
variable {K:ah}{n:Nat}{H H':Hp}{N:Addr->Prop}
noncomputable def akr (fa fb:En->Option (D×En)) (Z:En):Option (D×En):=(fa Z).bind λr=>match r.1 with
 |.sc (.bl true)=>fb r.2
 |.sc (.bl false)=>some (.sc (.bl false),r.2)
 |_=>none
instance (priority:=40) ayx{ta tb:TE}{fa fb:En->Option (D×En)}[A:SM K n ta fa][B':SM K n tb fb]:SM K n (xr ta tb) (akr fa fb):=⟨λ{σ hv H U Z ρ' τv τd d Q} I h k=>by
 obtain⟨⟨x,ρ1⟩,h1,h2⟩:=ak.mp h;refine A.s I h1 λv H1 U1 I1 s1=> ?_;dsimp only at h2
 split at h2
 ·exact⟨true,I1.last.bA,by rw[if_pos rfl];exact B'.s I1.qw h2 λv H2 U2 I2 s2=>k v H2 U2 I2 (s1.trans s2)⟩
 ·cases h2;exact⟨false,I1.last.bA,by rw[if_neg df];have e:=I1.last.bA;subst e;exact k _ H1 U1 I1 s1⟩
 ·cases h2⟩
instance akQ[C:kc K n c fc][A:SF K n ta fa][B':SF K n tb fb]:SF K n (Oi c ta tb) (oA fc fa fb):=⟨λ{σ hv H U Z τv τd d Q} I h k=>by
 obtain⟨x,h1,h2⟩:=ak.mp h;refine C.s I h1 λH1 s1=> ?_;cases x with
 |true=>rw[if_pos rfl];exact A.s (I.same s1) h2 λv H2 s2 o=>k v H2 (s1.trans s2) (o.early s1)
 |false=>rw[if_neg df];exact B'.s (I.same s1) h2 λv H2 s2 o=>k v H2 (s1.trans s2) (o.early s1)⟩
end
section
variable {K:ah}{H H':Hp}
end
end VL
set_option maxHeartbeats 4000000
namespace VL
open PySem L2
noncomputable abbrev iD (i:Int):D:= .sc (.int i)
noncomputable abbrev tD (b:Bool):D:= .sc (.bl b)
noncomputable abbrev sD (s:Str):D:= .sc (.str s)
noncomputable def ou (cs:List Int):D:= .nd .e8 (cs.map λi=> .sc (.int i))
theorem oX(c d:Int):dN id (.sc (.int c)) (.sc (.int d))=some (.sc (.bl (decide (c=d)))):=by
 simp[dN,cy,sO,sP,d9];by_cases h:c=d <;> simp[h]
theorem auw(c d:Int):dN (!·) (.sc (.int c)) (.sc (.int d))=some (.sc (.bl (decide (c≠d)))):=by
 simp[dN,cy,sO,sP,d9];by_cases h:c=d <;> simp[h]
theorem Ea(c d:Str)(hc:eg c=true)(hd:eg d=true):dN id (.sc (.str c)) (.sc (.str d))=some (.sc (.bl (decide (c=d)))):=by
 simp[hc,hd,dN,cy,sO,sP,d9];by_cases h:c=d <;> simp[h]
theorem Rf(c d:Str)(hc:eg c=true)(hd:eg d=true):dN (!·) (.sc (.str c)) (.sc (.str d))=some (.sc (.bl (decide (c≠d)))):=by
 simp[hc,hd,dN,cy,sO,sP,d9];by_cases h:c=d <;> simp[h]
def NA(x:Option B):Prop:=∀r p,x≠some (.aB r p)
theorem t9:eI i []= []:=rfl
theorem uc:eI i (some (.own d)::r)=some (.own d)::eI i r:=rfl
theorem ud:eI i (some (.ro d)::r)=some (.ro d)::eI i r:=rfl
theorem ue:eI i (none::r)=none::eI i r:=rfl
theorem uf:eI i (some (.aB j p)::r)=(if j=i then none else some (.aB j p))::eI i r:=rfl
theorem abj(h:NA x):eI i (x::r)=x::eI i r:=by
 match x,h with
 |none,_=>rfl
 |some (.own _),_=>rfl
 |some (.ro _),_=>rfl
 |some (.aB r p),h=>exact absurd rfl (h r p)
theorem abk(h:NA x):fO Z x=x:=by
 match x,h with
 |none,_=>rfl
 |some (.own _),_=>rfl
 |some (.ro _),_=>rfl
 |some (.aB r p),h=>exact absurd rfl (h r p)
def Ev(f:En->Option Fl)(Z:En)(Q:Fl->Prop):Prop:=∃fl,f Z=some fl/\Q fl
theorem Rh{α:Type}(g:α->D)(p:α->Bool)(h:α->D):∀(l:List α),(∀a∈l,∃ρ1,fg (g a) ia=some ρ1/\ft ρ1=some (p a)/\(p a=true->fe ρ1=some (h a)))->
  jH fg ft fe ia (l.map g)=some ((l.filter p).map h)
 | [],_=>rfl
 |a::l,H=>by
  obtain⟨ρ1,e1,e2,e3⟩:=H a (.head _);have ih:=Rh g p h l λx hx=>H x (.tail _ hx);rw[cP,jH,e1];show(ft ρ1).bind _=_;rw[e2];show(if p a=true then _ else _)=_;cases q:p a with
  |true=>rw[if_pos rfl,e3 q];show(jH fg ft fe ia _).map _=_;rw[ih,at5 q];rfl
  |false=>rw[if_neg df,ih,List.filter_cons_of_neg (by rw[q];exact df)]
theorem fQ(h:f (ds.map (λd=>some (.ro d))++ki (n - ds.length) none)=some (.rt d ρ')):bV n f ds=some d:=by
 unfold bV;rw[h]
theorem fC(h:f (qA n bp ds)=some (.rt d ρ'))(ho:gP (ρ'.drop n)=some o):dG n bp f ds=some (d,o):=by
 unfold dG;rw[h];show(gP _).map _=_;rw[ho];rfl
theorem cD(h:f Z=some (d,ρ')):jg f Z=some (.rt d ρ'):=by
 unfold jg;rw[h];rfl
theorem aD(e:t Z=some (.nx ρ'))(h:u ρ'=r):fA t u Z=r:=by
 unfold fA;rw[e];exact h
theorem e9{x:Option D}{Z:En}{d:D}(h:x=some d):x.map (λd=>(d,Z))=some (d,Z):=by rw[h];rfl
theorem abl{n:Nat}{fg:D->En->Option En}{ft:En->Option Bool}{fe:En->Option D}(h1:fi Z=some ds)(hz:ds.length<=aM)(rD:is.all (λi=>js[i]? == some none)=true)
  (h2:jH fg ft fe (gH n js Z) ds=some ys):iJ n js is fi fg ft fe Z=some (.nd .lst ys):=by
 unfold iJ;rw[h1];show(if _ then _ else _)=_;rw[if_pos ⟨hz,rD⟩,h2];rfl
theorem qD{α:Type}{n:Nat}{fg:D->En->Option En}{ft:En->Option Bool}{fe:En->Option D}(l:List α)(g:α->D)(p:α->Bool)(h:α->D)(h1:fi Z=some (l.map g))(hz:l.length<=aM)(rD:is.all (λi=>js[i]? == some none)=true)
  (h2:∀a∈l,∃ρ1,fg (g a) (gH n js Z)=some ρ1/\ft ρ1=some (p a)/\(p a=true->fe ρ1=some (h a))):iJ n js is fi fg ft fe Z=some (.nd .lst ((l.filter p).map h)):=
 abl h1 (by rw[bb];exact hz) rD (Rh g p h l h2)
theorem abm(h:d∈iQ lo m):∃i:Nat,i < m/\d=iD (lo + i):=by
 obtain⟨i,hi,e⟩:=gY.mp h;exact⟨i,sH.mp hi,e.symm⟩
theorem akS:fO Z (some (.own d))=some (.own d):=rfl
theorem akT:fO Z (some (.ro d))=some (.ro d):=rfl
theorem akU:fO Z none=none:=rfl
theorem i6:NA none:=λ_ _ h=>by cases h
theorem dO:NA (some (.ro d)):=λ_ _ h=>by cases h
theorem cZ:NA (some (.own d)):=λ_ _ h=>by cases h
def Gd(n:Nat)(d:D):Prop:=∃p,cy d=some p/\p.canLay0=true/\p.depth<=n/\d9 p p=true
def mz(n:Nat)(ds:List D):Prop:=∃ps,ky ds=some ps/\V8 ps=true/\V9 ps<=n/\zu ps ps=true
theorem Gd.int(i:Int):Gd 0 (.sc (.int i)):=⟨.int i,by simp[cy],by simp[sO],by simp[sP],by simp[d9]⟩
theorem Gd.str(x:Str)(h:eg x=true):Gd 0 (.sc (.str x)):=⟨.str x,by simp[cy],by simp[sO,h],by simp[sP],by simp[d9]⟩
theorem Gd.mono(h:Gd m d)(l:m<=n):Gd n d:=by
 obtain⟨p,a,b,c,e⟩:=h;exact⟨p,a,b,b7 c l,e⟩
theorem mz.nil:mz n []:=⟨[],by simp[ky],by simp[V8],by simp[V9],by simp[zu]⟩
theorem mz.cons(h:Gd n d)(t:mz n ds):mz n (d::ds):=by
 obtain⟨p,a,b,c,e⟩:=h;obtain⟨ps,a',b',c',e'⟩:=t;exact⟨p::ps,by simp[ky,a,a'],by simp[V8,b,b'],by simp[V9];lia,by simp[zu,e,e']⟩
theorem mz.all:∀{ds:List D},(∀d∈ds,Gd n d)->mz n ds
 | [],_=> .nil
 |d::ds,h=> .cons (h d (.head _)) (mz.all λx hx=>h x (.tail _ hx))
theorem mz.tup(h:mz n ds):Gd (n + 1) (.nd .tup ds):=by
 obtain⟨ps,a,b,c,e⟩:=h;exact⟨.tuple ps,by simp[cy,a],by simp[sO,b],by simp[sP];lia,by simp[d9,e]⟩
theorem mz.lst(h:mz n ds):Gd (n + 1) (.nd .lst ds):=by
 obtain⟨ps,a,b,c,e⟩:=h;exact⟨.list ps,by simp[cy,a],by simp[sO,b],by simp[sP];lia,by simp[d9,e]⟩
theorem Ri(m:Nat):iQ 0 m=(xm m).map λi:Nat=>D.sc (.int (i:Int)):=by
 refine Cs λi _=> ?_;rw[Int.zero_add]
open PySem.Spec PyProof.Rows
section
variable {K:ah}{n:Nat}{H H' H1 H2:Hp}{U U':Addr->Prop}{σ hv:List (Option V)}{Z ρ':En}{τv vs:List V}{τd ds:List D}{v y:V}{d:D}{E:ke}
theorem kO{α:Type}(A B:List α)(x:α)(j:Nat):(A++ [x]++B)[j]?=if j < A.length then(A++B)[j]? else if j=A.length then some x else(A++B)[j - 1]?:=by
 by_cases h1:j < A.length
 ·rw[if_pos h1,b8,aU h1,aU h1]
 ·rw[if_neg h1,b8,br (by lia)];by_cases h2:j=A.length
  ·rw[if_pos h2,h2];simp
  ·rw[if_neg h2,at6,br (by lia)];obtain⟨k,hk⟩:∃k,j - A.length=k + 1:=⟨j - A.length - 1,by lia⟩
   rw[hk,List.getElem?_cons_succ,show j - 1 - A.length=k by lia]
def AN(M r:Nat)(Fs:Nat->Addr->Prop)(j:Nat)(b:Addr):Prop:=if j < M then(j≠r/\Fs j b) else if j=M then Fs r b else Fs (j - 1) b
theorem auy(h:j < M)(h2:j≠r):AN M r Fs j=Fs j:=by
 funext b;unfold AN;rw[if_pos h];exact propext ⟨λz=>z.2,λz=>⟨h2,z⟩⟩
theorem auz:AN M r Fs M=Fs r:=by
 funext b;unfold AN;rw[if_neg (mI _),if_pos rfl]
theorem auA(h:¬ j < M)(h2:¬ j=M):AN M r Fs j=Fs (j - 1):=by
 funext b;unfold AN;rw[if_neg h,if_neg h2]
def akK(r:Nat)(d:D)(Z:En):En:=((eI r Z).set r (some (.aB Z.length [])))++ [some (.own d)]
def qE(r m:Nat)(Z:En):En:=match Z[r]? with
 |some (some (.aB q []))=>if q=m then((eI m Z).take m).set r ((aV Z m).map .own) else(eI m Z).take m
 |_=>(eI m Z).take m
theorem av.auB(I:av K n H U σ hv Z τv τd)(h:Z[r]?=some (some (.own d)))(hr:r < n):
  ∃v,σ[r]?=some (some v)/\av K n H U σ (hv++ [some v]) (akK r d Z) τv τd:=by
 have l:=I.len;have nn:=I.nn;obtain⟨hl,mu,Fs,dj,sub,sl⟩:=I.ok;have hM:(σ++hv).length=Z.length:=by rw[bo];exact l
 have hX:((eI r Z).set r (some (.aB Z.length []))).length=Z.length:=by rw[bN,jZ]
 obtain⟨v,ev,sv⟩:=sl r (.own d) (by rw[aU (by lia)];exact h);have arU:(σ++hv)[r]?=some (some v):=by rw[aU (by lia)]at ev;exact ev
 have auC:σ[r]?=some (some v):=by rw[aU (by lia)]at arU;exact arU
 have eA:σ++(hv++ [some v])++τv.map some=(σ++hv)++ [some v]++τv.map some:=by simp
 refine⟨v,auC, ?_,by unfold akK;rw[bo,bo,hX,pw,pw];lia,nn⟩;rw[eA];unfold akK;have hL:(((eI r Z).set r (some (.aB Z.length [])))++ [some (B.own d)]).length=Z.length + 1:=by rw[bo,hX,pw]
 rw[hL];have old:∀(q:Nat),q < Z.length->((σ++hv)++ [some v]++τv.map some)[q]?=((σ++hv)++τv.map some)[q]?:=λq hq=>by
  rw[kO,if_pos (by lia)]
 have vY:((σ++hv)++ [some v]++τv.map some)[Z.length]?=some (some v):=by
  rw[kO,if_neg (by lia),if_pos hM.symm]
 refine⟨by simp only[bo,pw,hX]at hl |-;lia,mu,AN Z.length r Fs,λi j b hi hj=> ?_,λi b hb=> ?_,λj γ cH=> ?_⟩
 ·have hi:if i < Z.length then(i≠r/\Fs i b) else if i=Z.length then Fs r b else Fs (i - 1) b:=hi;have hj:if j < Z.length then(j≠r/\Fs j b) else if j=Z.length then Fs r b else Fs (j - 1) b:=hj
  split at hi
  ·split at hj
   ·exact dj _ _ b hi.2 hj.2
   ·split at hj
    ·exact absurd (dj _ _ b hi.2 hj) hi.1
    ·have:=dj _ _ b hi.2 hj;lia
  ·split at hi
   ·split at hj
    ·exact absurd (dj _ _ b hj.2 hi) hj.1
    ·split at hj
     ·lia
     ·have:=dj _ _ b hi hj;lia
   ·split at hj
    ·have:=dj _ _ b hi hj.2;lia
    ·split at hj
     ·have:=dj _ _ b hi hj;lia
     ·have:=dj _ _ b hi hj;lia
 ·have hb:if i < Z.length then(i≠r/\Fs i b) else if i=Z.length then Fs r b else Fs (i - 1) b:=hb
  split at hb
  ·exact sub _ b hb.2
  ·split at hb
   ·exact sub _ b hb
   ·exact sub _ b hb
 ·rw[kO,hX]at cH;by_cases c1:j < Z.length
  ·rw[if_pos c1,aU (by lia)]at cH;by_cases c2:j=r
   ·subst c2;rw[gK (by rw[jZ];lia)]at cH;cases cH;exact⟨v,by rw[old _ c1];exact ev,by lia,v,vY, .nil v⟩
   ·rw[gq (λz=>c2 z.symm)]at cH;obtain⟨q1,q2⟩:=DH cH;obtain⟨v2,dE,dZ⟩:=sl j γ (by rw[aU (by lia)];exact q1);refine⟨v2,by rw[old _ c1];exact dE, ?_⟩;cases γ with
    |own dd=>
     rw[auy c1 c2];exact dZ
    |ro dd=>exact dZ
    |aB q p=>
     obtain⟨a,vr,b,c⟩:=dZ;exact⟨by lia,vr,by rw[old _ a];exact b,c⟩
  ·rw[if_neg c1]at cH;by_cases c2:j=Z.length
   ·rw[if_pos c2]at cH;cases cH;subst c2;refine⟨v,vY, ?_⟩;rw[auz];exact sv
   ·rw[if_neg c2,br (by lia),hX]at cH;obtain⟨v2,dE,dZ⟩:=sl (j - 1) γ (by rw[br (by lia)];exact cH);refine⟨v2,by rw[kO,hM,if_neg c1,if_neg c2];exact dE, ?_⟩;cases γ with
    |own dd=>
     rw[auA c1 c2];exact dZ
    |ro dd=>exact dZ
    |aB q p=>
     obtain⟨a,vr,b,c⟩:=dZ;exact⟨by lia,vr,by rw[old _ a];exact b,c⟩
def vZ(M c:Nat)(Fs:Nat->Addr->Prop)(j:Nat)(b:Addr):Prop:=if j < M then(if j=c then Fs M b else Fs j b) else Fs (j + 1) b
theorem abt(h:j < M)(h2:j≠c):vZ M c Fs j=Fs j:=by
 funext b;unfold vZ;rw[if_pos h,if_neg h2]
theorem abu(h:c < M):vZ M c Fs c=Fs M:=by
 funext b;unfold vZ;rw[if_pos h,if_pos rfl]
theorem abv(h:¬ j < M):vZ M c Fs j=Fs (j + 1):=by
 funext b;unfold vZ;rw[if_neg h]
theorem av.Rk{M c:Nat}(I:av K n H U σ (hv++ [some v]) Z τv τd)(abw:Z.length=M + 1)(II:X.length=M)
  (hX:∀(j:Nat) (γ:B),X[j]?=some (some γ)->(j≠c/\Z[j]?=some (some γ)/\∀q p,γ= .aB q p->q≠M)\/(j=c/\∃d,γ= .own d/\aV Z M=some d/\Z[j]?=some (some (.aB M [])))):
  av K n H U σ hv X τv τd:=by
 have l:=I.len;have nn:=I.nn;obtain⟨hl,mu,Fs,dj,sub,sl⟩:=I.ok;rw[bo,pw]at l;have hM:(σ++hv).length=M:=by rw[bo];lia
 have eA:σ++(hv++ [some v])++τv.map some=(σ++hv)++ [some v]++τv.map some:=by simp
 rw[eA]at hl sl;refine⟨?_,by rw[II, <- hM,bo],nn⟩;rw[II];have old:∀(q:Nat),q < M->((σ++hv)++ [some v]++τv.map some)[q]?=((σ++hv)++τv.map some)[q]?:=λq hq=>by
  rw[kO,if_pos (by lia)]
 have vY:((σ++hv)++ [some v]++τv.map some)[M]?=some (some v):=by
  rw[kO,if_neg (by lia),if_pos hM.symm]
 have big:∀(q:Nat),¬ q < M->((σ++hv)++ [some v]++τv.map some)[q + 1]?=((σ++hv)++τv.map some)[q]?:=λq hq=>by
  rw[kO,if_neg (by lia),if_neg (by lia),Cq]
 refine⟨by simp only[bo,pw]at hl hM |-;lia,mu,vZ M c Fs,λi j b hi hj=> ?_,λi b hb=> ?_,λj γ cH=> ?_⟩
 ·have hi:if i < M then _ else Fs (i + 1) b:=hi;have hj:if j < M then _ else Fs (j + 1) b:=hj
  split at hi <;> split at hj
  ·split at hi <;> split at hj
   ·lia
   ·have:=dj _ _ b hi hj;lia
   ·have:=dj _ _ b hi hj;lia
   ·exact dj _ _ b hi hj
  ·split at hi
   ·have:=dj _ _ b hi hj;lia
   ·have:=dj _ _ b hi hj;lia
  ·split at hj
   ·have:=dj _ _ b hi hj;lia
   ·have:=dj _ _ b hi hj;lia
  ·have:=dj _ _ b hi hj;lia
 ·have hb:if i < M then _ else Fs (i + 1) b:=hb
  split at hb
  ·split at hb <;> exact sub _ b hb
  ·exact sub _ b hb
 ·by_cases c1:j < M
  ·rw[aU (by lia)]at cH;rcases hX j γ cH with⟨n1,q1,q2⟩ | ⟨rfl,dd,rfl,hd,q1⟩
   ·obtain⟨v2,dE,dZ⟩:=sl j γ (by rw[aU (by lia)];exact q1);rw[old _ c1]at dE;refine⟨v2,dE, ?_⟩;cases γ with
    |own dd=>
     rw[abt c1 n1];exact dZ
    |ro dd=>exact dZ
    |aB q p=>
     obtain⟨a,vr,b,k⟩:=dZ;have:=q2 q p rfl;have hq:q < M:=by lia
     rw[old _ hq]at b;exact⟨hq,vr,b,k⟩
   ·obtain⟨v2,dE,dZ⟩:=sl j _ (by rw[aU (by lia)];exact q1);obtain⟨_,vr,b,k⟩:=dZ;rw[old _ c1]at dE;rw[vY]at b;cases b;cases k;obtain⟨v3,Rl,abx⟩:=sl M (.own dd) (by rw[aU (by lia)];exact kS hd);rw[vY]at Rl;cases Rl;refine⟨_,dE, ?_⟩;rw[abu c1];exact abx
  ·rw[br (by lia),II]at cH;obtain⟨v2,dE,dZ⟩:=sl (j + 1) γ (by rw[br (by lia),abw,show j + 1 - (M + 1)=j - M by lia];exact cH);rw[big _ c1]at dE;refine⟨v2,dE, ?_⟩;rw[bJ]at cH;obtain⟨dd,_,e2⟩:=aY.mp cH;cases e2;rw[abv c1];exact dZ
theorem Rm(h:((eI M Z).take M)[j]?=some (some γ)):j < M/\Z[j]?=some (some γ)/\∀q p,γ= .aB q p->q≠M:=by
 have hj:j < M:=by
  rcases NV j M with z | z
  ·exact z
  ·rw[List.getElem?_take_eq_none (by lia)]at h;cases h
 rw[VE hj]at h;exact⟨hj,DH h⟩
theorem av.cls(I:av K n H U σ (hv++ [some v]) Z τv τd)(hm:Z.length=m + 1)(hr:r < m):av K n H U σ hv (qE r m Z) τv τd:=by
 have e:((eI m Z).take m).length=m:=by rw[Ce,jZ];lia
 have plain:av K n H U σ hv ((eI m Z).take m) τv τd:=I.Rk (c:=m) hm e λj γ h=>by
  obtain⟨a,b,c⟩:=Rm h;exact .inl ⟨by lia,b,c⟩
 unfold qE
 split
 ·next q hq=>
  split
  ·next c=>
   subst c;refine I.Rk (c:=r) hm (by rw[bN];exact e) λj γ h=> ?_;by_cases cj:r=j
   ·subst cj;rw[gK (by lia)]at h;have h:(aV Z q).map B.own=some γ:=hV h;obtain⟨d,h1,h2⟩:=aY.mp h;exact .inr ⟨rfl,d,h2.symm,h1,hq⟩
   ·rw[gq cj]at h;obtain⟨_,b,c⟩:=Rm h;exact .inl ⟨λz=>cj z.symm,b,c⟩
  ·exact plain
 ·exact plain
theorem av.Rn(I:av K n H U σ hv Z τv τd)(hm:n<=m)(ha:hv[m - n]?=some (some (.ref a)))(hd:aV Z m=some (.nd .lst cs)):
  m < Z.length/\(σ++hv)[m]?=some (some (.ref a))/\∃vs,H a=some (.lst vs)/\vs.length=cs.length:=by
 have nn:=I.nn;have hr:=kS hd;have em:(σ++hv)[m]?=some (some (.ref a)):=by rw[br (by lia),nn];exact ha
 obtain⟨v,F,ev,_,sv⟩:=I.slot hr;rw[em]at ev;cases ev;obtain⟨a',vs,e,_,hc,hl,_⟩:=(bg.vw sv).node;cases e;exact⟨(cm.mp hr).1,em,vs,hc.2,hl⟩
def fk(i m:Nat)(fb:En->Option Fl):Nat->Nat->En->Option Fl
 |0,j,Z=>match aV Z m with
  |some (.nd .lst cs)=>if cs.length<=j then some (.nx Z) else none
  |_=>none
 |k + 1,j,Z=>match aV Z m with
  |some (.nd .lst cs)=>if j < cs.length then(fb (bq i (.aB m [j]) Z)).bind λ
   |.nx ag=>fk i m fb k (j + 1) ag
   |.ct ag=>fk i m fb k (j + 1) ag
   |.bk ag=>some (.nx ag)
   |.rt d ag=>some (.rt d ag) else none
  |_=>none
theorem Ro{i m k:Nat}{fl:Fl}[L:jC i n][B':SS K n tb fb](I:av K n H U σ hv Z τv τd)(hm:n<=m)(ha:hv[m - n]?=some (some (.ref a)))
  (h:fk i m fb k 0 Z=some fl) (hk:qu K n H U hv τv τd E fl):
  ∃W:Nat->Nat->L2.St->Hp->Prop,(∃m,W 0 m σ H)/\∀i' m' σ H,W i' m' σ H->
   ((tf K a).stop i' H/\E.nx σ H)\/((tf K a).go i' H/\∃N:L2.St->Hp->Prop,(∀aF H',N aF H'->∃m2,m2 < m'/\W (i' + 1) m2 aF H')/\∀x H',(tf K a).s9 i' H x H'->lB i x σ H' λeY H2=>tb { E with nx:=N,ct:=N,bk:=E.nx } eY H2):=by
 refine⟨λj m' aF H'=>m'=k - j/\j<=k/\∃U' ρ',av K n H' U' aF hv ρ' τv τd/\bH U H U' H'/\fk i m fb (k - j) j ρ'=some fl,⟨k,by simp,jO _,U,Z,I, .refl U H,h⟩, ?_⟩;rintro j m' aF H' ⟨rfl,hj,U',ρ',Ix,st,fo⟩;have hi:=L.h;by_cases dS:j < k
 ·right;obtain⟨t,ht⟩:∃t,k - j=t + 1:=⟨k - j - 1,by lia⟩
  rw[ht,fk]at fo
  split at fo
  ·next cs hd=>
   obtain⟨hr,em,vs,iV,hl⟩:=Ix.Rn hm ha hd
   split at fo
   ·next aby=>
    obtain⟨t6,b2,fo⟩:=ak.mp fo;refine⟨⟨vs,vs[j]'(by lia),cI.of iV,dH (by lia)⟩,λeY H2=>∃U2 ag,av K n H2 U2 eY hv ag τv τd/\bH U' H' U2 H2/\fk i m fb t (j + 1) ag=some fl,λeY H2 ⟨U2,ag,a1,a2,a3⟩=>⟨k - (j + 1),by lia,rfl,by lia,U2,ag,a1,st.trans a2,by rw[show k - (j + 1)=t by lia];exact a3⟩,λx H2 y2=> ?_⟩;obtain⟨e,w2⟩:=y2;subst e;have hx:=w2 vs (cI.of iV);refine B'.s (Ix.named hi (β:= .aB m [j]) ⟨hr,by lia,_,em, .cons iV hx (.nil x)⟩) b2 ?_;cases t6 with
    |nx ag=>exact λeh H3 U3 I3 s3=>⟨U3,ag,I3,s3,fo⟩
    |ct ag=>exact λeh H3 U3 I3 s3=>⟨U3,ag,I3,s3,fo⟩
    |bk ag=>cases fo;exact λeh H3 U3 I3 s3=>hk eh H3 U3 I3 (st.trans s3)
    |rt d ag=>cases fo;exact λv eh H3 U3 I3 s3=>hk v eh H3 U3 I3 (st.trans s3)
   ·cases fo
  ·cases fo
 ·left;rw[show k - j=0 by lia,fk]at fo
  split at fo
  ·next cs hd=>
   obtain⟨hr,em,vs,iV,hl⟩:=Ix.Rn hm ha hd
   split at fo
   ·next aby=>
    cases fo;exact⟨⟨vs,cI.of iV,by lia⟩,hk aF H' U' Ix st⟩
   ·cases fo
  ·cases fo
def IJ(r m:Nat):Fl->Fl
 |.nx Z=> .nx (qE r m Z)
 |.rt d Z=> .rt d (qE r m Z)
 |.bk Z=> .bk (qE r m Z)
 |.ct Z=> .ct (qE r m Z)
theorem qu.close(hm:n + hv.length=m)(hr:r < n)(k:qu K n H U hv τv τd E (IJ r m fl)):qu K n H U (hv++ [some v]) τv τd E fl:=by
 have key:∀{aF H' U' ρ'} {IK:List V} {IL:List D},av K n H' U' aF (hv++ [some v]) ρ' IK IL->av K n H' U' aF hv (qE r m ρ') IK IL:=λ{aF H' U' ρ'} {IK IL} I=>I.cls (by
  have l:=I.len;have nn:=I.nn;rw[bo,pw]at l
  lia) (by lia)
 cases fl with
 |nx Z=>exact λaF H' U' I s=>k aF H' U' (key I) s
 |rt d Z=>exact λv aF H' U' I s=>k v aF H' U' (key I) s
 |bk Z=>exact λaF H' U' I s=>k aF H' U' (key I) s
 |ct Z=>exact λaF H' U' I s=>k aF H' U' (key I) s
def wq(n r i:Nat)(fb:En->Option Fl)(Z:En):Option Fl:=match Z[r]? with
 |some (some (.own (.nd .lst cs)))=>(fk i Z.length fb cs.length 0 (akK r (.nd .lst cs) Z)).map (IJ r Z.length)
 |some (some (.aB q []))=>if n<=q then match aV Z q with
  |some (.nd .lst cs)=>fk i q fb cs.length 0 Z
  |_=>none
  else none
 |_=>(Sh (aT r) Z).bind λds=>eB (λd Z=>some (bq i (.ro d) Z)) fb ds Z
instance (priority:=2000) ayy{r i:Nat}{tb:TS}{fb:En->Option Fl}[R:jC r n][L:jC i n][B':SS K n tb fb]:SS K n (xv (vV K (f9 r)) (lB i) tb) (wq n r i fb):=⟨λ{σ hv H U Z τv τd fl E} I h k=>by
 unfold wq at h
 split at h
 ·next cs hs=>
  obtain⟨t6,h1,rfl⟩:=aY.mp h;obtain⟨v,ev,I2⟩:=I.auB hs R.h;have l:=I.len;have nn:=I.nn;obtain⟨v',F,ij,_,sv⟩:=I.slot hs;rw[aU (by have:=R.h;lia),ev]at ij;cases ij;obtain⟨a,vs,e,_,hc,hl,_⟩:=(bg.vw sv).node;cases e;refine⟨_,ev, .inl ⟨a,rfl,⟨vs,cI.of hc.2⟩, ?_⟩⟩;exact Ro I2 (by lia) (by rw[br (by lia),show Z.length - n - hv.length=0 by lia];rfl) h1 (qu.close (by lia) R.h k)
 ·next q hs=>
  split at h
  ·next hq=>
   split at h
   ·next cs hd=>
    have nn:=I.nn;obtain⟨v,F,ev,_,sv⟩:=I.slot hs;obtain⟨_,vr,er,hp⟩:=sv;cases hp;obtain⟨v',F',ij,_,auD⟩:=I.slot (kS hd);rw[er]at ij;cases ij;obtain⟨a,vs,e,_,hc,hl,_⟩:=(bg.vw auD).node;cases e;rw[aU (by have:=R.h;lia)]at ev;rw[br (by lia),nn]at er;exact⟨_,ev, .inl ⟨a,rfl,⟨vs,cI.of hc.2⟩,Ro I hq er h k⟩⟩
   ·cases h
  ·cases h
 ·exact(aaX (B':=B')).s I h k⟩
end
section
variable {K:ah}{n:Nat}{H H' H1 H2:Hp}{U U':Addr->Prop}{σ hv:List (Option V)}{Z ρ':En}{τv vs:List V}{τd ds:List D}{v y:V}{d:D}{N:Addr->Prop}
open Classical in
end
open PySem.W
section
variable {K:ah}{n:Nat}{H H' H1 H2:Hp}{U U':Addr->Prop}{σ hv:List (Option V)}{Z ρ':En}{τv vs:List V}{τd ds:List D}{d:D}{E:ke}
end
section
variable {K:ah}{n:Nat}{H H':Hp}
def rV(i:Nat)(g:D->D->Option D)(fb:En->Option (D×En))(Z:En):Option (D×En):=(af i Z).bind λ_=>(fb Z).bind λa=>(af i a.2).bind λxs=>(g xs a.1).map λd=>(d,a.2)
instance (priority:=4000) akW{r:R2}{i:Nat}{args:TA}{bp:List Bool}{G:List D->Option (D×List D)}{E:XK}{fb:En->Option (D×En)}{g:D->D->Option Nat}{gs:V->D->Option V}
  [L:jC i n] [B':SM K n (og (dW K bp G) [] E args) fb] [O:tU K r g gs]:SM K n (ig r (f9 i) (og (dW K bp G) [] E args)) (rV i (gQ g gs) fb):=⟨λ{σ hv H U Z ρ' τv τd d Q} I h k=>by
 obtain⟨x0,h0,h⟩:=ak.mp h;obtain⟨⟨j,ρ1⟩,h1,h⟩:=ak.mp h;obtain⟨xs,h2,h⟩:=ak.mp h;obtain⟨d1,h3,h⟩:=aY.mp h;cases h;have k0:=(inferInstance:SV K n (f9 i) (af i)).s I h0 λv H' _ w=>w;obtain⟨v,ev,_⟩:=k0;refine⟨v,ev,B'.s I h1 λy H2 U2 I2 dJ=> ?_⟩;have k1:=(inferInstance:SV K n (f9 i) (af i)).s I2 h2 λv H' _ w=>w;obtain⟨v',ij,w⟩:=k1;rw[ev]at ij;cases ij;refine(Rb (g:=g)).s w I2.last h3 λz H3 s3 o=> ?_;obtain⟨U4,I4,nz⟩:=I2.qw.push s3 o;exact k z H3 U4 I4 (dJ.trans nz)⟩
instance (priority:=4000) akX{i:Nat}[L:jC i n]:SS K n (qi (f9 i)) (jg (kr i)):=@aak K n _ _ aaj
variable {H1 H2:Hp}{U U':Addr->Prop}{σ hv:List (Option V)}{Z ρ':En}{τv vs:List V}{τd ds:List D}{v y:V}{d d1:D}{E:ke}
end
section
variable {K:ah}{n:Nat}{C:Addr}{m:Str}{E:XK}
end
theorem abB{i m k j:Nat}(e1:aV Z m=some (.nd .lst cs))(hj:j < cs.length)(h1:fb (bq i (.aB m [j]) Z)=some fl):
  VL.fk i m fb (k + 1) j Z=(some fl).bind fun | .nx ag=>VL.fk i m fb k (j + 1) ag | .ct ag=>VL.fk i m fb k (j + 1) ag | .bk ag=>some (.nx ag) | .rt d ag=>some (.rt d ag):=by
 rw[VL.fk,e1];dsimp only;rw[if_pos hj,h1]
 all_goals rfl
theorem Ev.fk{i m N:Nat}{fb:En->Option Fl}{Q:Fl->Prop}(P:Nat->En->Prop)(hr:∀j Z,P j Z->∃cs,aV Z m=some (.nd .lst cs)/\cs.length=N)
  (st:∀j,j < N->∀Z,P j Z->Ev fb (bq i (.aB m [j]) Z) λfl=>match fl with | .nx ag=>P (j + 1) ag | .ct ag=>P (j + 1) ag | .bk ag=>Q (.nx ag) | .rt d ag=>Q (.rt d ag)) (hd:∀Z,P N Z->Q (.nx Z)):
  ∀(k j:Nat) (Z:En),k + j=N->P j Z->Ev (VL.fk i m fb k j) Z Q
 |0,j,Z,e,p=>by
  have e:j=N:=by lia
  subst e;obtain⟨cs,e1,e2⟩:=hr j Z p;refine⟨.nx Z, ?_,hd Z p⟩;unfold VL.fk;rw[e1];exact if_pos (by lia)
 |k + 1,j,Z,e,p=>by
  obtain⟨cs,e1,e2⟩:=hr j Z p;obtain⟨fl,h1,h2⟩:=st j (by lia) Z p;have un:=abB (k:=k) e1 (by lia) h1;unfold Ev;rw[un];cases fl with
  |nx ag=>exact Ev.fk P hr st hd k _ ag (by lia) h2
  |ct ag=>exact Ev.fk P hr st hd k _ ag (by lia) h2
  |bk ag=>exact⟨_,rfl,h2⟩
  |rt d ag=>exact⟨_,rfl,h2⟩
theorem Ev.wq(e:Z[r]?=some (some (.own (.nd .lst cs))))(h:Ev (VL.fk i Z.length fb cs.length 0) (akK r (.nd .lst cs) Z) λfl=>Q (IJ r Z.length fl)):Ev (VL.wq n r i fb) Z Q:=by
 obtain⟨fl,h1,h2⟩:=h;refine⟨IJ r Z.length fl, ?_,h2⟩;unfold VL.wq;rw[e];dsimp only;rw[h1];rfl
theorem c5(h:f Z=some (d,ρ1))(e:bq i (.own d) ρ1=ag):dU i f Z=some (.nx ag):=by
 unfold dU;rw[h, <- e];rfl
theorem abC:fO Z (some (.aB r p))=if p= []\/((aV Z r).bind (aI · p)).isSome=true then some (.aB r p) else none:=rfl
theorem mB(h:fc Z=some (c,ρ1))(hr:(if c=true then a ρ1 else b ρ1)=r):gv fc a b Z=r:=by
 unfold gv;rw[h];exact hr
theorem j7(h1:fa Z=some (a,ρ1))(h2:fb ρ1=some (b,ag))(h3:g a b=some d):hZ g fa fb Z=some (d,ag):=by
 unfold hZ;rw[h1];show(fb ρ1).bind _=_;rw[h2];show(g a b).map _=_;rw[h3];rfl
theorem IP(h:f Z=some (.sc (.bl b),ρ1)):ku f Z=some (b,ρ1):=by
 unfold ku;rw[h];rfl
theorem uh(h0:af i Z=some x0)(h1:fb Z=some (e,ρ1))(h2:af i ρ1=some xs)(h3:g xs e=some d):rV i g fb Z=some (d,ρ1):=by
 unfold rV;rw[h0];rw[h1];show(af i ρ1).bind _=_;rw[h2];show(g xs e).map _=_;rw[h3];rfl
section
variable {K:ah}{n:Nat}
open Classical in
variable {H H' H1 H2:Hp}{U U':Addr->Prop}{σ hv:List (Option V)}{Z ρ':En}{τv vs:List V}{τd ds:List D}{v y:V}{d:D}
end
inductive Ex:Nat->D->Prop
 |int (n:Nat) (i:Int):Ex n (.sc (.int i))
 |str (n:Nat) (s:Str):eg s=true->Ex n (.sc (.str s))
 |aG (n:Nat):Ex n (.sc .aG)
 |tup (n:Nat) (cs:List D):(∀d∈cs,Ex n d)->Ex (n + 1) (.nd .tup cs)
 |lst (n:Nat) (cs:List D):(∀d∈cs,Ex n d)->Ex (n + 1) (.nd .lst cs)
theorem Rq(h:∀d∈cs,Gd n d):mz n cs:=mz.all h
theorem Ex.gd(h:Ex n d):Gd n d:=by
 induction h with
 |int n i=>exact(Gd.int i).mono (jO _)
 |str n s hs=>exact(Gd.str s hs).mono (jO _)
 |aG n=>exact⟨.none,by simp[cy],by simp[sO],by simp[sP],by simp[d9]⟩
 |tup n cs _ ih=>exact(Rq ih).tup
 |lst n cs _ ih=>exact(Rq ih).lst
theorem Ex.mono(h:Ex n d):∀{m:Nat},n<=m->Ex m d:=by
 induction h with
 |int n i=>exact λ_=> .int _ i
 |str n s hs=>exact λ_=> .str _ s hs
 |aG n=>exact λ_=> .aG _
 |tup n cs _ ih=>
  intro m hm;obtain⟨k,rfl⟩:∃k,m=k + 1:=⟨m - 1,by lia⟩
  exact .tup _ _ λd hd=>ih d hd (by lia)
 |lst n cs _ ih=>
  intro m hm;obtain⟨k,rfl⟩:∃k,m=k + 1:=⟨m - 1,by lia⟩
  exact .lst _ _ λd hd=>ih d hd (by lia)
theorem IQ:∀{cs ds:List D} {xs ys:List PyData},(∀d∈cs,∀(b:D) (x y:PyData),b∈ds->cy d=some x->cy b=some y->d9 x y=true->d=b)->ky cs=some xs->ky ds=some ys->zu xs ys=true->cs=ds
 | [], [],_,_,_,_,_,_=>rfl
 | [],d::ds,xs,ys,_,h1,h2,h=>by
  simp only[ky,aiH]at h1;rw[ky]at h2;subst h1;obtain⟨y,_,h2⟩:=ak.mp h2;obtain⟨Rr,_,rfl⟩:=aY.mp h2;simp[zu]at h
 |c::cs, [],xs,ys,_,h1,h2,h=>by
  simp only[ky,aiH]at h2;rw[ky]at h1;subst h2;obtain⟨y,_,h1⟩:=ak.mp h1;obtain⟨Rr,_,rfl⟩:=aY.mp h1;simp[zu]at h
 |c::cs,d::ds,xs,ys,hk,h1,h2,h=>by
  rw[ky]at h1 h2;obtain⟨x,a1,h1⟩:=ak.mp h1;obtain⟨ak1,a2,rfl⟩:=aY.mp h1;obtain⟨y,b1,h2⟩:=ak.mp h2;obtain⟨Rr,b2,rfl⟩:=aY.mp h2;rw[zu,kM]at h;rw[hk c (.head _) d x y (.head _) a1 b1 h.1,IQ (λe he b x y hb=>hk e (.tail _ he) b x y (.tail _ hb)) a2 b2 h.2]
theorem Ex.eqv(ha:Ex n a):∀{m:Nat} {b:D} {x y:PyData},Ex m b->cy a=some x->cy b=some y->d9 x y=true->a=b:=by
 induction ha with
 |int n i=>
  intro m b x y hb h1 h2 h;rw[cy]at h1;cases h1;cases hb with
  |int n j=>rw[cy]at h2;cases h2;simp[d9]at h;rw[h]
  |str n s hs=>rw[cy]at h2;cases h2;simp[d9]at h
  |aG n=>rw[cy]at h2;cases h2;simp[d9]at h
  |tup n cs hc=>rw[cy]at h2;obtain⟨ys,_,rfl⟩:=aY.mp h2;simp[d9]at h
  |lst n cs hc=>rw[cy]at h2;obtain⟨ys,_,rfl⟩:=aY.mp h2;simp[d9]at h
 |str n s hs=>
  intro m b x y hb h1 h2 h;rw[cy]at h1;cases h1;cases hb with
  |int n j=>rw[cy]at h2;cases h2;simp[d9]at h
  |str n s hs=>rw[cy]at h2;cases h2;simp[d9]at h;rw[h]
  |aG n=>rw[cy]at h2;cases h2;simp[d9]at h
  |tup n cs hc=>rw[cy]at h2;obtain⟨ys,_,rfl⟩:=aY.mp h2;simp[d9]at h
  |lst n cs hc=>rw[cy]at h2;obtain⟨ys,_,rfl⟩:=aY.mp h2;simp[d9]at h
 |aG n=>
  intro m b x y hb h1 h2 h;rw[cy]at h1;cases h1;cases hb with
  |int n j=>rw[cy]at h2;cases h2;simp[d9]at h
  |str n s hs=>rw[cy]at h2;cases h2;simp[d9]at h
  |aG n=>rfl
  |tup n cs hc=>rw[cy]at h2;obtain⟨ys,_,rfl⟩:=aY.mp h2;simp[d9]at h
  |lst n cs hc=>rw[cy]at h2;obtain⟨ys,_,rfl⟩:=aY.mp h2;simp[d9]at h
 |tup n cs _ ih=>
  intro m b x y hb h1 h2 h;rw[cy]at h1;obtain⟨xs,g1,rfl⟩:=aY.mp h1;cases hb with
  |int n j=>rw[cy]at h2;cases h2;simp[d9]at h
  |str n s hs=>rw[cy]at h2;cases h2;simp[d9]at h
  |aG n=>rw[cy]at h2;cases h2;simp[d9]at h
  |tup n ds hc=>
   rw[cy]at h2;obtain⟨ys,g2,rfl⟩:=aY.mp h2;rw[d9]at h;rw[IQ (λd hd b x y hb=>ih d hd (hc b hb)) g1 g2 h]
  |lst n ds hc=>rw[cy]at h2;obtain⟨ys,_,rfl⟩:=aY.mp h2;simp[d9]at h
 |lst n cs _ ih=>
  intro m b x y hb h1 h2 h;rw[cy]at h1;obtain⟨xs,g1,rfl⟩:=aY.mp h1;cases hb with
  |int n j=>rw[cy]at h2;cases h2;simp[d9]at h
  |str n s hs=>rw[cy]at h2;cases h2;simp[d9]at h
  |aG n=>rw[cy]at h2;cases h2;simp[d9]at h
  |lst n ds hc=>
   rw[cy]at h2;obtain⟨ys,g2,rfl⟩:=aY.mp h2;rw[d9]at h;rw[IQ (λd hd b x y hb=>ih d hd (hc b hb)) g1 g2 h]
  |tup n ds hc=>rw[cy]at h2;obtain⟨ys,_,rfl⟩:=aY.mp h2;simp[d9]at h
theorem Ex.eq(ha:Ex n a)(hb:Ex m b)(hn:n<=60)(hm:m<=60)(g:Bool->Bool):∃c:Bool,(c=true↔a=b)/\dN g a b=some (.sc (.bl (g c))):=by
 obtain⟨x,x1,x2,x3,x4⟩:=ha.gd;obtain⟨y,y1,y2,y3,y4⟩:=hb.gd;refine⟨d9 x y,⟨ha.eqv hb x1 y1,λe=> ?_⟩, ?_⟩
 ·subst e;rw[x1]at y1;cases y1;exact x4
 ·unfold dN;rw[x1,y1];show(if _ then _ else _)=_;rw[if_pos ⟨x2,y2,by lia⟩]
section
variable {σ:L2.St}{H:Hp}{a:Addr}
theorem Inv.freeze(I:L2.Inv X ab σ H s)(e:H a=some (.lst xs)):∃o,L2.Inv X ab σ (cf H a (.b9 o (.lst xs))) s:=by
 have aQ:=I.aQ a _ e;obtain⟨z,its,n,r,ho⟩:=(show gr X.prog X.w H s.heap a (.lst xs) from aQ)
 refine⟨{ cls:= .type "list",data:= .seq its.toArray n }, ?_⟩;have ne:∀{b:Addr} {u:HO},H b=some u->(∀ys,u≠ .lst ys)->b≠a:=λ{b u} hb hu z=>by
  subst z;rw[e]at hb;cases hb;exact hu _ rfl
 have step:=I.step (h':=s.heap) (H':=cf H a (.b9 { cls:= .type "list",data:= .seq its.toArray n } (.lst xs))) (g':=s.gens) (t':=s.toks) (d':=s.drawn) (ch:= []) (λ_ z=>nomatch z)
  (λb o _ _ _ h _=>h) (λb o _ _ _ h _=>⟨o.slots,h⟩) (λb o _ _ hn=>by rw[ba λz=>by rw[z,e]at hn;cases hn];exact hn) (λb o _ h=>⟨o,h⟩)
  (λb ys h=>by rw[ba (ne h λ_ z=>nomatch z)];exact h) (λb o u h=>by rw[ba (ne h λ_ z=>nomatch z)];exact h) (λb ps h=>⟨#[],by rw[ba (ne h λ_ z=>nomatch z),Array.append_empty];exact h⟩) (λm h=>h)
  (λb u hb=>by
   by_cases c:b=a
   ·subst c;rw[de]at hb;cases hb;exact⟨ho,z,its,n,r,ho⟩
   ·rw[ba c]at hb;exact(I.aQ b u hb).gO (λ_ _ _ h=>h) (λd h=>by rw[ba (ne h λ_ z=>nomatch z)];exact h) λd ys h=>by rw[ba (ne h λ_ z=>nomatch z)];exact h) I.bare
 exact step
def apt(t:TE):TE:=λσ H Q=>t σ H λv H'=>(∃a xs,v= .ref a/\H' a=some (.lst xs)/\∀o,Q v (cf H' a (.b9 o (.lst xs))))\/Q v H'
theorem A0(he:PE X e t):PE X e (apt t):=by
 intro ab s σ H Q I h;refine bh (he ab s σ H _ I h) λu s' ⟨v,H',I',r,q⟩=> ?_;rcases q with⟨a,xs,rfl,e,q⟩ | q
 ·obtain⟨o,I2⟩:=VL.Inv.freeze I' e;exact⟨_,_,I2,r,q o⟩
 ·exact⟨_,_,I',r,q⟩
end
section
variable {K:ah}{H H':Hp}{U:Addr->Prop}{m:Nat}{e:List (Option V)}{Z:En}
theorem gU.b9{a:Addr}{xs:List V}(ha:H a=some (.lst xs))(h:gU H v p u):gU (cf H a (.b9 o (.lst xs))) v p u:=by
 induction h with
 |nil v=>exact .nil v
 | @cons b ob n c u p e1 e2 _ ih=>
  by_cases z:b=a
  ·subst z;rw[ha]at e1;cases e1;exact .cons de e2 ih
  ·exact .cons (by rw[ba z];exact e1) e2 ih
theorem bT.freeze(h:bT K H U m e Z)(hj:Z[j]?=some (some (.own (.nd .lst cs))))(p:bI cs=true):
  ∃a vs,e[j]?=some (some (.ref a))/\H a=some (.lst vs)/\U a/\∀o,bT K (cf H a (.b9 o (.lst vs))) (λb=>U b/\b≠a) m e (Z.set j (some (.own (.nd .e8 cs)))):=by
 obtain⟨hl,mu,Fs,dj,sub,sl⟩:=h;obtain⟨v,ev,sv⟩:=sl j _ hj;have abE:j < Z.length:=(cm.mp hj).1;have sv:bg K H (Fs j) v (.nd .lst cs):=sv;have vw:=sv.vw;cases sv with
 | @nd _ a _ vs _ ak2 hold dw ak3 ak4 bB=>
  obtain⟨Fa,_,_,dx,ha⟩:=hold;have ha:H a=some (.lst vs):=ha;refine⟨a,vs,ev,ha,sub j a Fa,λo=> ?_⟩;have st:gu H (cf H a (.b9 o (.lst vs))):=vP (by rw[ha];trivial);refine⟨by rw[bN];exact hl,λb hb=>by rw[ba hb.2];exact mu b hb.1,λi b=>Fs i b/\b≠a,λi k b hi hk=>dj i k b hi.1 hk.1,λi b hb=>⟨sub i b hb.1,hb.2⟩,λi β aa=> ?_⟩;by_cases c:j=i
  ·subst c;rw[gK abE]at aa;cases aa;refine⟨_,ev, .nd (λ_ _=>False) ⟨p, .inl ⟨o,de⟩⟩ dw (λ_ _ _ z=>z.elim) (λ_ _ z=>z.elim) λi u d hu hd=> ?_⟩;exact((bB i u d hu hd).vw.plain (za p hd)).frame (λ_ _ z=>z.elim) st
  ·rw[gq c]at aa;obtain⟨w,ew,sw⟩:=sl i β aa;refine⟨w,ew, ?_⟩;have na:∀b,Fs i b->b≠a:=λb z y=>c (dj j i a Fa (by rw[<- y];exact z));cases β with
   |own d=>
    have sw:bg K H (Fs i) w d:=sw;exact(sw.frame (λb ob z q=>by rw[ba (na b z)];exact q) st).mono λb z=>⟨z,na b z⟩
   |ro d=>
    have sw:Vw K H (λb=>¬ U b) w d:=sw;exact(sw.frame (λb ob z q=>by rw[ba λy=>z (by rw[y];exact sub j a Fa)];exact q) st).mono λb z y=>z y.1
   |aB r q=>
    obtain⟨x,vr,er,hp⟩:=sw;exact⟨x,vr,er,gU.b9 ha hp⟩
end
section
variable {K:ah}{n:Nat}
def Eg:D->D
 |.nd .lst cs=>if bI cs=true then .nd .e8 cs else .nd .lst cs
 |d=>d
def SH(f:En->Option (D×En))(Z:En):Option (D×En):=(f Z).map λr=>(Eg r.1,r.2)
instance ayz[A:SM K n t f]:SM K n (apt t) (SH f):=⟨λ{σ hv H U Z ρ' τv τd d Q} I h k=>by
 obtain⟨⟨d1,ρ1⟩,h1,h2⟩:=aY.mp h;cases h2;refine A.s I h1 λv H1 U1 I1 bQ=> ?_;by_cases c:∃cs,d1= .nd .lst cs/\bI cs=true
 ·obtain⟨cs,rfl,p⟩:=c
  left;have e:Eg (.nd .lst cs)= .nd .e8 cs:=if_pos p;have k:∀v H' U',av K n H' U' σ hv ρ1 (τv++ [v]) (τd++ [.nd .e8 cs])->bH U H U' H'->Q v H':=λv H' U'=>by
   have:=k v H' U';rw[show Eg (D.nd .lst cs)= .nd .e8 cs from e]at this;exact this
  have tl:=I1.tl;have hj:(ρ1++(τd++ [D.nd .lst cs]).map λd=>some (B.own d))[ρ1.length + τd.length]?=some (some (.own (.nd .lst cs))):=by
   rw[br (by lia)];simp
  obtain⟨a,vs,ev,ha,ua,ok⟩:=bT.freeze I1.ok hj p;have l1:=I1.len;have ayA:τv.length=τd.length:=by simpa using tl
  have dE:v= .ref a:=by
   rw[br (by simp;lia)]at ev;simp only[cK,cP,jQ,bo]at ev;rw[show ρ1.length + τd.length - (σ.length + hv.length)=(τv.map some).length by rw[bb];lia,br (bO _)]at ev;simpa using ev
  subst dE;refine⟨a,vs,rfl,ha,λo=> ?_⟩;refine k _ _ (λb=>U1 b/\b≠a) ⟨?_,l1,I1.nn⟩ (bQ.trans λb ob hb nu=> ?_)
  ·have:=ok o;rw[show(ρ1++(τd++ [D.nd .lst cs]).map λd=>some (B.own d)).set (ρ1.length + τd.length) (some (.own (.nd .e8 cs)))=ρ1++(τd++ [D.nd .e8 cs]).map λd=>some (B.own d) by
    rw[arA _ _ (by lia),cK,cK,arA _ _ (by simp)];simp]at this
   exact this
  ·exact⟨by rw[ba λz=>nu (by rw[z];exact ua)];exact hb,λz=>nu z.1⟩
 ·right;have e:Eg d1=d1:=by
   unfold Eg
   split
   ·next cs=>exact if_neg λp=>c ⟨cs,rfl,p⟩
   ·rfl
  exact k v H1 U1 (by rw[show Eg (d1,ρ1).1=d1 from e];exact I1) bQ⟩
end
section
def apu(K:ah):R2:=λx y H Q=>∃l b xs zs,x= .ref l/\y= .ref b/\cI K H l xs/\cI K H b zs/\xs.length + zs.length<=aM/\∀p,H p=none->Q (.ref p) (cf H p (.lst (xs++zs)))
theorem auE:cu X (binaryOp .Add) (apu X.K):=by
 intro ab s σ H x y v u Q I rx ry h;obtain⟨l,b,xs,zs,rfl,rfl,hH,hB,hz,q⟩:=h;cases rx;cases ry;obtain⟨its,r,⟨⟨cls,dd,data,sl⟩,n,ho,hc,_,hd⟩,z⟩:=I.list hH;obtain⟨mh,r2,⟨⟨XE,CU,data2,CV⟩,n2,rl,jV,_,hd2⟩,z2⟩:=I.list hB;simp only at hc hd jV hd2;subst hc hd jV hd2;have l1:xs.length=its.length:=r.length;have l2:zs.length=mh.length:=r2.length;have e:its.toArray++mh.toArray=(its++mh).toArray:=by simp
 refine U9 ⟨_,ho,rfl⟩ ⟨_,rl,rfl⟩ noFill_list_add seq_list_add PySem.F.slot_list_add PySem.F.entry_list_add (PySem.F.args_list_add_2 _ _) (list_addW l b its.toArray mh.toArray n n2 dd CU sl CV (by rw[fM,fM];lia)) ⟨ho,rl, ?_⟩;rw[e];exact⟨.ref _,_,I.Ya (t':=s.toks) (r.append r2) (by rw[bo];lia),rfl,q _ I.fresh⟩
variable {K:ah}
noncomputable def akV:D->Option (List D)
 |.nd .lst cs=>some cs
 |.nd .e8 cs=>some cs
 |_=>none
theorem apv(w:Vw K H T1 v d)(h:akV d=some cs):∃a vs,v= .ref a/\cI K H a vs/\cv K H T1 vs cs:=by
 unfold akV at h
 split at h
 ·cases h;obtain⟨a,vs,rfl,hc,vl⟩:=w.ip;exact⟨a,vs,rfl,cI.of hc.2,vl⟩
 ·cases h;obtain⟨a,vs,rfl,hc,vl⟩:=w.ip;exact⟨a,vs,rfl,jA.sq hc.2,vl⟩
 ·cases h
def apw(a b:D):Option D:=(akV a).bind λxs=>(akV b).bind λys=>if xs.length + ys.length<=aM/\bI (xs++ys)=true then some (.nd .lst (xs++ys)) else none
instance ayB:jD K (apu K) apw:=⟨λ{H x y dx dy d Q} w1 w2 h k=>by
 obtain⟨xs,h1,h⟩:=ak.mp h;obtain⟨ys,h2,h⟩:=ak.mp h;by_cases c:xs.length + ys.length<=aM/\bI (xs++ys)=true
 ·rw[if_pos c]at h;cases h;obtain⟨a,vs,rfl,s1,v1⟩:=apv w1 h1;obtain⟨b,us,rfl,s2,v2⟩:=apv w2 h2;refine⟨a,b,vs,us,rfl,rfl,s1,s2,by rw[v1.1,v2.1];exact c.1,λp hp=> ?_⟩;exact k _ _ (fE hp _) ((v1.app v2).own c.2 hp (.inr ⟨rfl,trivial,0,rfl⟩))
 ·rw[if_neg c]at h;cases h⟩
end
section
variable {K:ah}{n:Nat}
variable {H H' H1 H2:Hp}{U U':Addr->Prop}{σ hv:List (Option V)}{Z ρ':En}{τv vs:List V}{τd ds:List D}{v y:V}{d:D}{E:ke}
end
section
variable {K:ah}{n:Nat}{H H' H1 H2:Hp}{U U':Addr->Prop}{σ hv:List (Option V)}{Z ρ':En}{τv vs:List V}{τd ds:List D}{v y x o u:V}{d d0 d':D}
end
section
variable {K:ah}{H H':Hp}{F N U:Addr->Prop}{a:Addr}{o:Obj}{ai:List (bc×V)}{m:Nat}{e:List (Option V)}{Z:En}
end
section
variable {K:ah}{n:Nat}{H H' H1 H2:Hp}{U U':Addr->Prop}{σ hv:List (Option V)}{Z ρ':En}{τv vs:List V}{τd ds:List D}{v y:V}{d:D}{E:ke}{a:Addr}{o:Obj}
open Classical in
end
section
variable {K:ah}{n:Nat}{H H' H1 H2:Hp}{U U':Addr->Prop}{σ hv:List (Option V)}{Z ρ':En}{τv vs:List V}{τd ds:List D}{d:D}{E:ke}{a:Addr}{o:Obj}
end
section
variable {K:ah}
variable {n:Nat}{H H' H1 H2:Hp}{U U':Addr->Prop}{σ hv:List (Option V)}{Z ρ':En}{τv vs:List V}{τd ds:List D}{v y:V}{d:D}{E:XK}
def v5(M T:Nat)(Fs:Nat->Addr->Prop)(j:Nat)(b:Addr):Prop:=if j < M then Fs j b else if j=M then Fs (M + T) b else(j<=M + T/\Fs (j - 1) b)
theorem abK(h:j < M):v5 M T Fs j=Fs j:=by
 funext b;unfold v5;rw[if_pos h]
theorem abL:v5 M T Fs M=Fs (M + T):=by
 funext b;unfold v5;rw[if_neg (by lia),if_pos rfl]
theorem av.hide(I:av K n H U σ hv Z (τv++ [v]) (τd++ [d])):av K n H U σ (hv++ [some v]) (Z++ [some (.own d)]) τv τd:=by
 have l:=I.len;have nn:=I.nn;have tl:τv.length=τd.length:=by have:=I.tl;simp at this;lia
 obtain⟨hl,mu,Fs,dj,sub,sl⟩:=I.ok;have hM:(σ++hv).length=Z.length:=by rw[bo];exact l
 have eA:σ++(hv++ [some v])++τv.map some=(σ++hv)++ [some v]++τv.map some:=by simp
 refine⟨?_,by rw[bo,bo,pw,pw];lia,nn⟩;rw[eA];have hL:(Z++ [some (B.own d)]).length=Z.length + 1:=by rw[bo,pw]
 rw[hL];have old:∀(q:Nat),q < Z.length->((σ++hv)++ [some v]++τv.map some)[q]?=(σ++hv++(τv++ [v]).map some)[q]?:=λq hq=>by
  rw[kO,if_pos (by lia)];exact(aU (by lia)).trans (aU (by lia)).symm
 have vY:((σ++hv)++ [some v]++τv.map some)[Z.length]?=some (some v):=by
  rw[kO,if_neg (by lia),if_pos hM.symm]
 refine⟨by simp only[bo,pw,bb]at hl |-;lia,mu,v5 Z.length τd.length Fs,λi j b hi hj=> ?_,λi b hb=> ?_,λj γ cH=> ?_⟩
 ·have hi:if i < Z.length then Fs i b else if i=Z.length then Fs (Z.length + τd.length) b else(i<=Z.length + τd.length/\Fs (i - 1) b):=hi;have hj:if j < Z.length then Fs j b else if j=Z.length then Fs (Z.length + τd.length) b else(j<=Z.length + τd.length/\Fs (j - 1) b):=hj;have key:∀k,(if k < Z.length then Fs k b else if k=Z.length then Fs (Z.length + τd.length) b else(k<=Z.length + τd.length/\Fs (k - 1) b))->(k < Z.length/\Fs k b)\/(k=Z.length/\Fs (Z.length + τd.length) b)\/(Z.length < k/\k<=Z.length + τd.length/\Fs (k - 1) b):=λk hk=>by
   by_cases c1:k < Z.length
   ·rw[if_pos c1]at hk;exact .inl ⟨c1,hk⟩
   ·rw[if_neg c1]at hk;by_cases c2:k=Z.length
    ·rw[if_pos c2]at hk;exact .inr (.inl ⟨c2,hk⟩)
    ·rw[if_neg c2]at hk;exact .inr (.inr ⟨by lia,hk.1,hk.2⟩)
  rcases key i hi with⟨a1,a2⟩ | ⟨a1,a2⟩ | ⟨a1,a2,a3⟩ <;> rcases key j hj with⟨b1,b2⟩ | ⟨b1,b2⟩ | ⟨b1,b2,b3⟩
  ·exact dj i j b a2 b2
  ·have:=dj _ _ b a2 b2;lia
  ·have:=dj _ _ b a2 b3;lia
  ·have:=dj _ _ b a2 b2;lia
  ·lia
  ·have:=dj _ _ b a2 b3;lia
  ·have:=dj _ _ b a3 b2;lia
  ·have:=dj _ _ b a3 b2;lia
  ·have:=dj _ _ b a3 b3;lia
 ·have hb:if i < Z.length then Fs i b else if i=Z.length then Fs (Z.length + τd.length) b else(i<=Z.length + τd.length/\Fs (i - 1) b):=hb
  split at hb
  ·exact sub _ b hb
  ·split at hb
   ·exact sub _ b hb
   ·exact sub _ b hb.2
 ·rw[kO]at cH;by_cases c1:j < Z.length
  ·rw[if_pos c1,aU c1]at cH;obtain⟨v2,dE,dZ⟩:=sl j γ (by rw[aU c1];exact cH);refine⟨v2,by rw[old _ c1];exact dE, ?_⟩;cases γ with
   |own dd=>
    have dZ:bg K H (Fs j) v2 dd:=dZ;show bg K H (v5 Z.length τd.length Fs j) v2 dd;rw[abK c1];exact dZ
   |ro dd=>exact dZ
   |aB q p=>
    obtain⟨a,vr,b,c⟩:=dZ;exact⟨by lia,vr,by rw[old _ a];exact b,c⟩
  ·rw[if_neg c1]at cH;by_cases c2:j=Z.length
   ·rw[if_pos c2]at cH;cases cH;subst c2;obtain⟨v2,dE,dZ⟩:=sl (Z.length + τd.length) (.own d) (by
     rw[br (by lia)];simp)
    have e2:v2=v:=by
     rw[br (by lia),hM,cK,show Z.length + τd.length - Z.length=(τv.map some).length by rw[bb];lia,br (bO _),kj]at dE;have dE:some (some v)=some (some v2):=dE;cases dE;rfl
    subst e2;refine⟨v2,vY, ?_⟩;show bg K H (v5 Z.length τd.length Fs Z.length) v2 d;rw[abL];exact dZ
   ·rw[if_neg c2,br (by lia)]at cH;have hj:j - 1 - Z.length < τd.length:=by
     have:=(cm.mp cH).1;rw[bb]at this;exact this
    obtain⟨v2,dE,dZ⟩:=sl (j - 1) γ (by rw[br (by lia),cK,aU (by rw[bb];exact hj)];exact cH);refine⟨v2, ?_, ?_⟩
    ·rw[kO,hM,if_neg c1,if_neg c2,br (by lia),hM];rw[br (by lia),hM,cK,aU (by rw[bb];lia)]at dE;exact dE
    ·rw[bJ]at cH;obtain⟨dd,_,hd⟩:=aY.mp cH;have hd:=hV hd;subst hd;exact dZ.mono λb z=>by
      show if j < Z.length then Fs j b else if j=Z.length then Fs (Z.length + τd.length) b else(j<=Z.length + τd.length/\Fs (j - 1) b);rw[if_neg c1,if_neg c2];exact⟨by lia,z⟩
end
section
variable {K:ah}{n:Nat}{H H' H1 H2:Hp}{U U':Addr->Prop}{σ hv:List (Option V)}{Z ρ':En}{τv vs:List V}{τd ds:List D}{d:D}{E:XK}
end
section
variable {K:ah}{n:Nat}{H H' H1 H2:Hp}{U U':Addr->Prop}{σ hv:List (Option V)}{Z ρ':En}{τv vs:List V}{τd ds:List D}{d:D}
end
theorem pxx{K:ah}{pos:Pos}(hr:gf k X.A)(ha:PE X a ta)(hb:PE X b tb)(hs:CZ b:=by exact λ_ _=>rfl)(hK:X.K=K:=by rfl):PE X (.Subscript a b pos) (ig (DW K) ta tb):=hK▸xE (QP (cR hr)) ha hb hs
theorem d8{N P:List Str}(a:sc.kind= .function:=by rfl)(b:sc.isCoroutine=false:=by rfl)(c:sc.isGenerator=false:=by rfl)(d:N.Nodup:=by decide +kernel)(e:N.take P.length=P:=by rfl)(f:∀x∈P,sc.names.lookup x=some .local\/sc.names.lookup x=some .cell:=by decide +kernel)(g:∀y∈sc.names,y.2≠ .free:=by decide +kernel):dr N P sc:=⟨a,b,c,d,e,f,g⟩
theorem iy{P:Program}{w:World}{K:ah}{mg:Str->Option Value}{base:Heap}{x q:Str}{st:Stmt}{f:Addr}{fd:kK}{N ps:List Str}{k n m:Nat}{t:TS}{g:En->Option Fl}(F:cY K x q st f fd)(S:dr N ps (cb st))(h:∀dB A outer s H E,gf k (A.deeper (envOfC q (cb st) s.heap.objs.size f dB))->jc (rj cG P w K mg base N q (cb st) f dB A outer s H E).ve (mS st) t)[I:SS K n t g](hn:N.length=n:=by rfl)(hm:ps.length=m:=by rfl)(hl:m<=n:=by decide):bZ P w K mg base cG (k + 1) f fd ps (cL K m (bV n g)):=by
 subst hn;subst hm;exact F.ok S (λvs H Q E h=>Q7 h) λdB A outer s H vs Q E hr q=>⟨t,h dB A outer s H E hr,Qx q hl⟩
theorem tE{P:Program}{w:World}{K:ah}{mg:Str->Option Value}{base:Heap}{x q:Str}{st:Stmt}{f:Addr}{fd:kK}{N ps:List Str}{k n:Nat}{mk:List Bool}{t:TS}{g:En->Option Fl}(F:cY K x q st f fd)(S:dr N ps (cb st))(h:∀dB A outer s H E,gf k (A.deeper (envOfC q (cb st) s.heap.objs.size f dB))->jc (rj cG P w K mg base N q (cb st) f dB A outer s H E).ve (mS st) t)[I:SS K n t g](hn:N.length=n:=by rfl)(hm:ps.length=mk.length:=by rfl)(hl:mk.length<=n:=by decide):bZ P w K mg base cG (k + 1) f fd ps (dW K mk (dG n mk g)):=by
 subst hn;exact F.ok S (λvs H Q E h=>h.1.trans hm.symm) λdB A outer s H vs Q E hr q=>⟨t,h dB A outer s H E hr,aao q hl⟩
section
variable {X:Cx}{K:ah}{a b e o:Expr}{ta tb te:TE}{p pos pos':Pos}{x f:Str}
theorem fF(hK:X.K=K:=by rfl):cu X (binaryOp .Add) (AZ K):=hK▸aaL
theorem arV(hK:X.K=K:=by rfl):cu X (binaryOp .Add) (apu K):=hK▸auE
theorem fX(hu:X.A.units + 64 < cLine)(hK:X.K=K:=by rfl):cu X (compareOp .Eq) (ye K):=hK▸DS hu
theorem one(hu:X.A.units + 64 < cLine)(hK:X.K=K:=by rfl):cu X (compareOp .NotEq) (aiZ K):=hK▸Ig hu
theorem gR(hu:X.A.units + 1 < cLine)(hK:X.K=K:=by rfl):cu X (compareOp .In) (Ij K):=hK▸aaI hu
theorem lV{tg:Expr}(hl:PE X a ta)(hK:X.K=K:=by rfl):PI X tg a (vV K ta):=hK▸QZ hl
theorem cJ(h:PE X a ta)(hs:dz [a] X.env=(false,eval a X.env)::dz [] X.env:=by rfl):PA X [a] (di ta fz):=fJ h gk (hs:=hs)
theorem a9(h:PE X a ta)(h2:PE X b tb)(hs:dz [a,b] X.env=(false,eval a X.env)::dz [b] X.env:=by rfl)(ht:dz [b] X.env=(false,eval b X.env)::dz [] X.env:=by rfl):PA X [a,b] (di ta (di tb fz)):=fJ h (fJ h2 gk (hs:=ht)) (hs:=hs)
theorem bu(h:PE X a ta):jc X [.Return (some a) pos] (qi ta):=dY (vf h)
theorem d6(ho:cu X (compareOp op) r)(ha:PE X a ta)(hb:PE X b tb)(hm:B3 op b=false:=by exact rg _):PT X (.Compare a [op] [b] pos) (vk (ig r ta tb)):=iM ho ha hb hm
theorem A6(ho:cu X (compareOp op) r)(ha:PE X a ta)(hb:PE X b tb)(hm:B3 op b=false:=by exact rg _):PE X (.Compare a [op] [b] pos) (ig r ta tb):=jd ho ha hb hm
theorem gI(i:Nat)(hN:X.N.Nodup)(hi:X.N[i]?=some x:=by rfl)(hx:Loc X.env.scope x:=by first | exact .inl rfl | exact .inr rfl)(hf:X.fn x=true\/X.env.scope.names.lookup x=some .local:=by first | exact .inl rfl | exact .inr rfl):PG X (.Name x pos) (lB i):=Gb hN hi hx hf
theorem bX(i:Nat)(hN:X.N.Nodup)(he:PE X e te)(hi:X.N[i]?=some x:=by rfl)(hx:Loc X.env.scope x:=by first | exact .inl rfl | exact .inr rfl)(hs:wQ e (some (.Name x pos')) pos.line X.env=pure false:=by rfl)(hf:X.fn x=true\/X.env.scope.names.lookup x=some .local:=by first | exact .inl rfl | exact .inr rfl):PS X (.Assign [.Name x pos'] e pos) (vh te (lB i)):=WL hN hi hx he hs hf
theorem pln(hm:X.mg "len"=none)(ha:PE X a ta)(hg:Gl X "len":=by rfl)(hK:X.K=K:=by rfl)(he:dz [a] X.env=(false,eval a X.env)::dz [] X.env:=by rfl):PE X (.Call (.Name "len" p) [a] [] pos) (jU (vT K) (di ta fz)):=hK▸fK Il hg hm Wc (fJ ha gk (hs:=he)) (he:=he)
theorem apx(hm:X.mg "tuple"=none)(ha:PE X a ta)(hg:Gl X "tuple":=by rfl)(hK:X.K=K:=by rfl)(he:dz [a] X.env=(false,eval a X.env)::dz [] X.env:=by rfl):PE X (.Call (.Name "tuple" p) [a] [] pos) (jU (apr K) (di ta fz)):=hK▸oh auv hg hm Wf (fJ ha gk (hs:=he)) (he:=he)
theorem zc(ho:PE X o ta)(ha:PE X a tb)(hK:X.K=K:=by rfl)(hb:ahf o "append" X.env (eval o X.env)=eval o X.env:=by rfl)
  (hf:((backTo pos (dz [a] X.env)).all (λx=> !x.1) && (B7 pos (B8 [] X.env)).all (λx=>x.1.isSome)
   && decide ([a].length + ([]:List Keyword).length + (if([]:List Keyword).isEmpty then 0 else 1) < 30))=true:=by rfl) (hl:(p.endLine == pos.line)=true:=by rfl) (hs:dz [a] X.env=(false,eval a X.env)::dz [] X.env:=by rfl):PE X (.Call (.Attribute o "append" p) [a] [] pos) (vy K "list" C1 ta (di tb fz)):=hK▸GK Wd PySem.F.slot_list_append PySem.F.type_list_append Yc ho (fJ ha gk (hs:=hs)) hb hf hl hs
end
section
variable {K:ah}{n:Nat}{H H' H1 H2:Hp}{U U':Addr->Prop}{σ hv:List (Option V)}{Z ρ':En}{τv vs:List V}{τd ds:List D}{v y:V}{d:D}{E:ke}{N:Addr->Prop}
structure Rz(K:ah)(J:It)(ds:List D)(P:Hp->(Addr->Prop)->Prop):Prop where
 step:∀{H H' U U'},P H U->bH U H U' H'->(∀b,U b->iB (H b))->P H' U'
 stop:∀{H U},P H U->J.stop ds.length H
 item:∀{H U} {i:Nat} {d:D},P H U->(∀b,U b->iB (H b))->ds[i]?=some d->J.go i H/\∀x H',J.s9 i H x H'->aJ H H'/\P H' U/\Vw K H' (λb=>¬ U b) x d
class arW(K:ah)(n:Nat)(wi:TI)(f:outParam (En->Option (List D))):Prop where
 s:∀{σ hv:List (Option V)} {H:Hp} {U:Addr->Prop} {Z:En} {τv:List V} {τd:List D} {ds:List D} {R:It->Hp->Prop},av K n H U σ hv Z τv τd->f Z=some ds->(∀J P H',aJ H H'->Rz K J ds P->P H' U->R J H')->wi σ H R
instance (priority:=50) ayC{wi:TI}{g:TG}{tb:TS}{fi:En->Option (List D)}{fg:D->En->Option En}{is:List Nat}{fb:En->Option Fl}[A:arW K n wi fi][G:SG K n g fg is][B':SS K n tb fb]:SS K n (xv wi g tb) (λZ=>(fi Z).bind λds=>eB fg fb ds Z):=⟨λ{σ hv H U Z τv τd fl E} I h k=>by
 obtain⟨ds,h1,h⟩:=ak.mp h;refine A.s I h1 λJ P H1 s1 wk p0=> ?_;have e6:bH U H U H1:=λb o q nu=>⟨s1 b o q,nu⟩
 refine⟨λi m aF H'=>m=ds.length - i/\i<=ds.length/\∃U' ρ',av K n H' U' aF hv ρ' τv τd/\bH U H U' H'/\P H' U'/\eB fg fb (ds.drop i) ρ'=some fl,⟨ds.length,by simp,jO _,U,Z,I.same s1,e6,p0,h⟩, ?_⟩;rintro i m aF H' ⟨rfl,hi,U',ρ',Ix,st,p,fo⟩;by_cases dS:i < ds.length
 ·right;have hd:ds[i]?=some ds[i]:=dH dS;obtain⟨go,yl⟩:=wk.item p Ix.ok.mu hd;rw[Cr dS,eB]at fo;obtain⟨ρ1,b1,fo⟩:=ak.mp fo;obtain⟨t6,b2,fo⟩:=ak.mp fo;refine⟨go,λeY H2=>∃U2 ag,av K n H2 U2 eY hv ag τv τd/\bH U H U2 H2/\P H2 U2/\eB fg fb (ds.drop (i + 1)) ag=some fl,λeY H2 ⟨U2,ag,a1,a2,a4,a3⟩=>⟨_,by lia,rfl,dS,U2,ag,a1,a2,a4,a3⟩,λx H2 y2=> ?_⟩;obtain⟨sm,p2,w2⟩:=yl x H2 y2;have I':=Ix.same sm;have e5:bH U H U' H2:=st.trans λb o q nu=>⟨sm b o q,nu⟩
  refine G.s I' w2 b1 λeY I2=> ?_;refine B'.s I2 b2 ?_;cases t6 with
  |nx ag=>exact λeh H3 U3 I3 s3=>⟨U3,ag,I3,e5.trans s3,wk.step p2 s3 I'.ok.mu,fo⟩
  |ct ag=>exact λeh H3 U3 I3 s3=>⟨U3,ag,I3,e5.trans s3,wk.step p2 s3 I'.ok.mu,fo⟩
  |bk ag=>cases fo;exact λeh H3 U3 I3 s3=>k eh H3 U3 I3 (e5.trans s3)
  |rt d ag=>cases fo;exact λv eh H3 U3 I3 s3=>k v eh H3 U3 I3 (e5.trans s3)
 ·left;have e:i=ds.length:=by lia
  subst e;rw[FR,eB]at fo;cases fo;exact⟨wk.stop p,k aF H' U' Ix st⟩⟩
noncomputable def kF:Nat->List D->List D
 |_, []=> []
 |i,d::ds=> .nd .tup [.sc (.int i),d]::kF (i + 1) ds
theorem arX:∀(i:Nat) (ds:List D),(kF i ds).length=ds.length
 |_, []=>rfl
 |i,d::ds=>congrArg (· + 1) (arX (i + 1) ds)
theorem arY:∀(i j:Nat) (ds:List D),(kF i ds)[j]?=(ds[j]?).map λd=> .nd .tup [.sc (.int ((i + j:Nat):Int)),d]
 |_,_, []=>by simp[kF]
 |i,0,d::ds=>by simp[kF]
 |i,j + 1,d::ds=>by
  have e:=arY (i + 1) j ds;rw[show i + 1 + j=i + (j + 1) by lia]at e;simpa[kF]using e
noncomputable def uk:D->Option (List D)
 |.nd .lst cs=>some cs
 |.nd .e8 cs=>some cs
 |_=>none
theorem IX(hp:H p=none)(w1:Vw K H N x a)(w2:Vw K H N u b):Vw K (cf H p (.tup [x,u])) N (.ref p) (.nd .tup [a,b]):=by
 have s:=fE hp (.tup [x,u]);refine .nd (λz=>by cases z) ⟨trivial,de⟩ rfl λi v d hv hd=> ?_
 match i,hv,hd with
 |0,hv,hd=>cases hv;cases hd;exact w1.same s
 |1,hv,hd=>cases hv;cases hd;exact w2.same s
theorem v7(h:cv K H N vs cs)(s:aJ H H'):cv K H' N vs cs:=⟨h.1,λi v d a b=>(h.2 i v d a b).same s⟩
theorem auF(w:Vw K H (λb=>¬ U b) v d)(h:uk d=some cs):∃a,v= .ref a/\(∃xs,cI K H a xs)/\∃P,Rz K (aos K a) (kF 0 cs) P/\P H U:=by
 have go:∀{a:Addr} {vs:List V} (P:Hp->(Addr->Prop)->Prop),(∀{H U},P H U->cI K H a vs/\cv K H (λb=>¬ U b) vs cs)->(∀{H H' U},P H U->aJ H H'->P H' U)->(∀{H H' U U'},P H U->bH U H U' H'->(∀b,U b->iB (H b))->P H' U')->Rz K (aos K a) (kF 0 cs) P:=λ{a vs} P pr sm st=>by
  refine⟨st,λ{H U} p=>⟨vs,(pr p).1,by rw[arX,(pr p).2.1];exact bO _⟩,λ{H U i d} p mu hd=> ?_⟩;rw[arY]at hd;obtain⟨c,hc,e⟩:=aY.mp hd;subst e;obtain⟨u,hu,w⟩:=(pr p).2.get hc;refine⟨⟨vs,u,(pr p).1,hu⟩,λx H2 ⟨T,hT,e,q⟩=> ?_⟩;subst e;obtain⟨y,hy,e⟩:=q vs (pr p).1;subst e;rw[hu]at hy;cases hy;have s:=fE hT (.tup [.int i,u]);refine⟨s,sm p s, ?_⟩;rw[Nat.zero_add];exact IX hT (.sc _) w
 unfold uk at h
 split at h
 ·next fU=>
  cases h;obtain⟨a,vs,rfl,na,hc,hl,bB⟩:=w.node;exact⟨a,rfl,⟨vs,cI.of hc.2⟩,λH U=>H a=some (.lst vs)/\¬ U a/\cv K H (λb=>¬ U b) vs cs,go _ (λ⟨x1,_,x3⟩=>⟨cI.of x1,x3⟩) (λ⟨x1,x2,x3⟩ s=>⟨s _ _ x1,x2,v7 x3 s⟩) (λ⟨x1,x2,x3⟩ st mu=>⟨(st _ _ x1 x2).1,(st _ _ x1 x2).2,D5 x3 st mu⟩),hc.2,na rfl,hl,bB⟩
 ·next fU=>
  cases h;obtain⟨a,vs,rfl,na,hc,hl,bB⟩:=w.node;have ho:jA K H a vs:=hc.2;exact⟨a,rfl,⟨vs,ho.sq⟩,λH U=>jA K H a vs/\cv K H (λb=>¬ U b) vs cs,go _ (λ⟨x1,x3⟩=>⟨x1.sq,x3⟩) (λ⟨x1,x3⟩ s=>⟨x1.gO (gu.of s),v7 x3 s⟩) (λ⟨x1,x3⟩ st mu=>⟨x1.gO (st.gO mu),D5 x3 st mu⟩),ho,hl,bB⟩
 ·cases h
def arZ(f:En->Option D)(Z:En):Option (List D):=(f Z).bind λd=>(uk d).map (kF 0)
instance (priority:=400) ayD{tl:TE}{fl:En->Option D}[A:SQ K n tl fl]:arW K n (apq K (di tl fz)) (arZ fl):=⟨λ{σ hv H U Z τv τd ds R} I h k=>by
 obtain⟨d,h1,h2⟩:=ak.mp h;obtain⟨cs,h3,e⟩:=aY.mp h2;subst e;refine A.o I h1 λx H1 s1 o=> ?_;obtain⟨a,rfl,hx,P,wk,p⟩:=auF (o.out I.ok.mu) h3;exact⟨a,rfl,hx,k _ P H1 s1 wk p⟩⟩
end
end VL
namespace L2
open PySem PySem.Spec PyProof.Rows
def Itm(K:ah)(a b:Addr):It:=
 ⟨λi H=>∃xs ys x y,jz true K H a xs/\jz false K H b ys/\xs[i]?=some x/\ys[i]?=some y,λi H v H'=>∃T,H T=none/\v= .ref T/\∀xs ys,jz true K H a xs->jz false K H b ys->∃x y,xs[i]?=some x/\ys[i]?=some y/\H'=cf H T (.tup [x,y]),λi H=>∃xs ys,jz true K H a xs/\jz false K H b ys/\(xs.length<=i\/ys.length<=i)⟩
theorem auG{P:Program}{w:World}{K:ah}{elts:List Expr}{x1:Nat}{pos:Pos}(a b z TI TO i1 i2:Addr)(D:Apart z TI TO i1 i2 a b):
  Turn P w K (.Tuple elts x1 pos) (Itm K a b) [z,TI,TO,i1,i2] z (λi h=>IsZip h z TI TO .none/\IsPair h TI (.ref i1) (.ref i2)/\(∃c d,IsPair h TO c d)/\qr true h i1 a i/\qr false h i2 b i) where
 mem:=by simp
 obj:=λi h st c hc=>by
  obtain⟨hz,jy,⟨c1,d1,jY⟩,h1,h2⟩:=st;simp only[bL,dh,or_false]at hc;rcases hc with rfl | rfl | rfl | rfl | rfl
  ·exact⟨_,hz,λv e=>by cases e⟩
  ·exact⟨_,jy,λv e=>by cases e⟩
  ·exact⟨_,jY,λv e=>by cases e⟩
  ·exact h1.obj
  ·exact h2.obj
 keep:=λi h h' st k=>by
  obtain⟨hz,jy,⟨c1,d1,jY⟩,h1,h2⟩:=st;exact⟨k z (by simp) _ hz,k TI (by simp) _ jy,⟨c1,d1,k TO (by simp) _ jY⟩,h1.at λo e=>k i1 (by simp) o e,h2.at λo e=>k i2 (by simp) o e⟩
 item:=by
  intro X hP hw hK hc i ab s σ H E I hf st hg;subst hP hw hK;obtain⟨xs,ys,x,y,xR,xS,hx,hy⟩:=hg;obtain⟨DB,Hu,p1⟩:=I.xQ xR;obtain⟨mh,Hv,p2⟩:=I.xQ xS;obtain⟨u1,DC,ZS⟩:=Hu.get hx;obtain⟨u2,DD,ZT⟩:=Hv.get hy;obtain⟨hz,jy,⟨c1,d1,jY⟩,h1,h2⟩:=st;have n1:a≠i1:=λe=>D.o1 (by simp[e]);have n2:b≠i2:=λe=>D.o2 (by simp[e]);have xT:∀{c:Addr} {o:Obj},s.heap.get? c=some o->c≠s.heap.objs.size:=λq=>dR (da q);refine ZN D (DA true n1 DB.toArray) (DA false n2 mh.toArray) hz jy jY ⟨h1,p1⟩ ⟨h2,p2⟩ (x:=u1) (y:=u2) (by simpa using DC) (by simpa using DD) λg1 pJ ZU q1 q2 Hw AD k1=> ?_;refine⟨_,rfl, ?_⟩;refine ax3 (s:= { s with heap:=g1 }) pJ λg2 xO sb=> ?_;have nd:=D.nd;simp only[jP,bL,dh,or_false,not_or]at nd;obtain⟨⟨Dv,p8,rK,tP⟩,⟨TITO,TIi1,TIi2⟩,⟨TOi1,TOi2⟩,i12,_⟩:=nd;have k2:∀c o,c∉ [z,TO,i1,i2]->s.heap.get? c=some o->g2.get? c=some o:=λc o hc q=>(sb.2 c (λe=>hc (by simp[e]))).trans (k1 c o hc q);have ZV:z≠s.heap.objs.size:=xT hz;have Hx:g2.get? s.heap.objs.size=some { cls:= .type "tuple",data:= .seq #[u1,u2] }:=(sb.2 _ (fw ZV)).trans Hw;refine⟨.ref s.heap.objs.size,cf H s.heap.objs.size (.tup [x,y]),I.ZP (t':=s.toks) k2 (λc hc=>hf c (by simp only[bL,dh,or_false]at hc |-;rcases hc with e | e | e | e <;> simp[e])) (bO _) ?_,rfl,⟨_,I.fresh,rfl,λai3 ai4 e1 e2=>⟨x,y,by rw[I.Qe e1 xR];exact hx,by rw[I.Qe e2 xS];exact hy,rfl⟩⟩,⟨xO, ?_,⟨u1,u2, ?_⟩, ?_, ?_⟩,λc hc=> ?_⟩
  ·exact⟨(by show 2<=aM;decide), [u1,u2], .cons ZS (.cons ZT .nil),⟨_,Hx,rfl,_,rfl⟩⟩
  ·exact(sb.2 TI (fw Dv)).trans (k1 TI _ (by simp only[bL,dh,or_false,not_or];exact⟨fw Dv,TITO,TIi1,TIi2⟩) jy)
  ·exact(sb.2 TO (fw p8)).trans ZU
  ·exact q1.1.at λo e=>(sb.2 i1 (fw rK)).trans e
  ·exact q2.1.at λo e=>(sb.2 i2 (fw tP)).trans e
  ·have ZW:=(hf c hc).1;have dS:c≠s.heap.objs.size:=by
    simp only[bL,dh,or_false]at hc;rcases hc with rfl | rfl | rfl | rfl | rfl
    ·exact xT hz
    ·exact xT jy
    ·exact xT jY
    ·obtain⟨o,ho,_⟩:=h1.obj;exact xT ho
    ·obtain⟨o,ho,_⟩:=h2.obj;exact xT ho
   rw[ba dS];exact ZW
 done:=by
  intro X hP hw hK hc i ab s σ H E I hf st hg;subst hP hw hK;obtain⟨xs,ys,xR,xS,hx⟩:=hg;obtain⟨DB,Hu,p1⟩:=I.xQ xR;obtain⟨mh,Hv,p2⟩:=I.xQ xS;obtain⟨hz,jy,⟨c1,d1,jY⟩,h1,h2⟩:=st;have n1:a≠i1:=λe=>D.o1 (by simp[e]);have n2:b≠i2:=λe=>D.o2 (by simp[e]);have l1:=Hu.length;have l2:=Hv.length;refine ZO (I.ok.hd hc) D (DA true n1 DB.toArray) (DA false n2 mh.toArray) hz jy jY ⟨h1,p1⟩ ⟨h2,p2⟩ ?_ λg1 k1=>⟨rfl, ?_⟩
  ·rcases hx with hx | hx
   ·left;simp;lia
   ·right;simp;lia
  ·exact I.ZQ (t':=s.toks) k1 λc hc=>hf c (by simp only[bL,dh,or_false]at hc |-;rcases hc with e | e | e | e <;> simp[e])
 self:=λ_ _ _ _ _ st h=>arx st.1 h
section
abbrev aov(h:Heap)(a b:Addr):Heap:=(pK h a).push { cls:= .type "list_iterator",data:= .fields #[.ref b, .int 0 0] }
abbrev aow(h:Heap)(a b:Addr):Heap:=(aov h a b).push { cls:= .type "tuple",data:= .seq #[.ref h.objs.size, .ref (pK h a).objs.size] }
abbrev aox(h:Heap)(a b:Addr):Heap:=(aow h a b).push { cls:= .type "tuple",data:= .seq #[.none, .none] }
abbrev S0(h:Heap)(a b:Addr):Heap:=(aox h a b).push { cls:= .type "zip",data:= .fields #[.none, .bool false, .bool false, .ref (aov h a b).objs.size, .ref (aow h a b).objs.size] }
theorem auH(a b:Addr)(xs ys:Array Value):
  Meets (Builtin.«zip.__new__» ⟨[.type "zip", .ref a, .ref b], []⟩) (λ_ R s=>s.heap.IsTuple a xs/\s.heap.IsList b ys/\R (.ok (.ret (.ref (aox s.heap a b).objs.size))) { s with heap:=S0 s.heap a b }):=
 .of_wp λprog w A R s h=>by
  obtain⟨hp,g,d,tk,os⟩:=s;obtain⟨ha,hb,h⟩:=h;have lL:=sub_zip;have hA:Heap.IsTuple (at3 ⟨hp,g,d,tk,os⟩) a xs:=ha;have hB:Heap.IsList (at3 ⟨hp.push { cls:= .type "tuple_iterator",data:= .fields #[.ref a, .int 0 0] },g,d,tk,os⟩) b ys:=Heap.IsList.push hb _
  wp_walk using Vt hA,Vk hB
  exact⟨_,rfl,h⟩
theorem auI{Q:Value->Shared->Prop}(ha:AG true s.heap a xs)(hb:AG false s.heap b ys)
  (h:∀h':Heap,IsZip h' (s.heap.objs.size + 4) (s.heap.objs.size + 2) (s.heap.objs.size + 3) .none->IsPair h' (s.heap.objs.size + 2) (.ref s.heap.objs.size) (.ref (s.heap.objs.size + 1))->IsPair h' (s.heap.objs.size + 3) .none .none->qr true h' s.heap.objs.size a 0->qr false h' (s.heap.objs.size + 1) b 0->
   (∀c o,s.heap.get? c=some o->h'.get? c=some o)->Q (.ref (s.heap.objs.size + 4)) { s with heap:=h' }):wpAny (model prog w) A (call (.type "zip") [.ref a, .ref b]) Q E s:=by
 refine callType_new F.called_zip (by decide) (F.typeCall_zip_2 _ _) (F.newCall_zip_2 _ _) (λobj=>ax9 obj _ _) F.entry_zip_new (auH a b xs ys) ⟨ha,hb, ?_⟩;have z1:(pK s.heap a).objs.size=s.heap.objs.size + 1:=p9 ..;have z2:(aov s.heap a b).objs.size=s.heap.objs.size + 2:=by rw[p9,z1]
 have z3:(aow s.heap a b).objs.size=s.heap.objs.size + 3:=by rw[p9,z2]
 have z4:(aox s.heap a b).objs.size=s.heap.objs.size + 4:=by rw[p9,z3]
 have g5:(S0 s.heap a b).get? (aox s.heap a b).objs.size=some _:=gc _ rfl;have g4:(S0 s.heap a b).get? (aow s.heap a b).objs.size=some _:=cB _ (gc _ rfl);have g3:(S0 s.heap a b).get? (aov s.heap a b).objs.size=some _:=cB _ (cB _ (gc _ rfl));have g2:(S0 s.heap a b).get? (pK s.heap a).objs.size=some _:=cB _ (cB _ (cB _ (gc _ rfl)));have g1:(S0 s.heap a b).get? s.heap.objs.size=some _:=cB _ (cB _ (cB _ (cB _ (gc _ rfl))));show _/\_;rw[z2,z3,z4]at g5;rw[z1,z2]at g3;rw[z3]at g4;rw[z1]at g2;rw[z4];exact⟨⟨_,g5,rfl⟩,h _ g5 g3 g4 ⟨_,g1,rfl,rfl⟩ ⟨_,g2,rfl,rfl⟩ λc o x=>cB _ (cB _ (cB _ (cB _ (cB _ x))))⟩
def ar0(K:ah)(ta:TA):TI:=λσ H R=>ta σ H λvs H1=>∃(a b:Addr) (xs ys:List V),vs= [.ref a, .ref b]/\jz true K H1 a xs/\jz false K H1 b ys/\R (Itm K a b) H1
theorem auJ{elts:List Expr}{x1:Nat}{Ah:Pos}{p pos:Pos}(hg:Gl X "zip")(hm:X.mg "zip"=none)(ha:PA X [a,b] ta)(hs:dz [a,b] X.env=(false,eval a X.env)::dz [b] X.env:=by rfl)(dM:(backTo pos (dz [b] X.env)).any (·.1)=false:=by rfl):
  PI X (.Tuple elts x1 Ah) (.Call (.Name "zip" p) [a,b] [] pos) (ar0 X.K ta):=by
 intro ab s σ H R I h;refine Call_ (xq I hg hm boot_zip (Ny (bh (ha pos ab s σ H _ I h) λus s1 ⟨vs,H1,I1,r1,q1⟩=> ?_) hs dM));obtain⟨a,b,xs,ys,e,xR,xS,q⟩:=q1;subst e;obtain⟨u,v,rfl,ru,rv⟩:=vals2 r1;cases ru;cases rv;obtain⟨DB,_,p1⟩:=I1.xQ xR;obtain⟨mh,_,p2⟩:=I1.xQ xS;have la:=Inv.ltB (ab:=ab) (σ:=σ) (H:=H1) (s:=s1) p1;have lb:=Inv.ltB (ab:=ab) (σ:=σ) (H:=H1) (s:=s1) p2;refine auI p1 p2 λh' hz jy jY i1 i2 hk=> ?_;refine arx (s:= { s1 with heap:=h' }) hz ?_;have D:Apart (s1.heap.objs.size + 4) (s1.heap.objs.size + 2) (s1.heap.objs.size + 3) s1.heap.objs.size (s1.heap.objs.size + 1) a b:=⟨by simp,by simp only[bL,dh,or_false,not_or];exact⟨dR (dI la (sJ _ _)),dR (dI la (sJ _ _)),dR la,dR (dI la (sJ _ _))⟩,by simp only[bL,dh,or_false,not_or];exact⟨dR (dI lb (sJ _ _)),dR (dI lb (sJ _ _)),dR lb,dR (dI lb (sJ _ _))⟩⟩
 refine⟨s1.heap.objs.size + 4, [s1.heap.objs.size + 4,s1.heap.objs.size + 2,s1.heap.objs.size + 3,s1.heap.objs.size,s1.heap.objs.size + 1],_,_,H1,rfl,I1.kept (t':=s1.toks) hk,auG a b _ _ _ _ _ D,⟨hz,jy,⟨_,_,jY⟩,i1,i2⟩,λc hc=> ?_,q⟩;have ql:s1.heap.objs.size<=c:=by
  simp only[bL,dh,or_false]at hc;rcases hc with rfl | rfl | rfl | rfl | rfl
  ·exact sJ _ _
  ·exact sJ _ _
  ·exact sJ _ _
  ·exact bO _
  ·exact sJ _ _
 exact I1.Aa ql (I1.aQ.fresh ql)
end
end L2
namespace VL
open PySem PySem.Spec PyProof.Rows L2
section
variable {K:ah}{n:Nat}{H H' H1 H2:Hp}{U U':Addr->Prop}{σ hv:List (Option V)}{Z ρ':En}{τv vs:List V}{τd ds:List D}{v y:V}{d e:D}{N:Addr->Prop}
noncomputable def j8:List D->List D->List D
 |c::cs,e::es=> .nd .tup [c,e]::j8 cs es
 |_,_=> []
theorem RB:∀(i:Nat) (cs es:List D) (d:D),(j8 cs es)[i]?=some d->∃c e,cs[i]?=some c/\es[i]?=some e/\d= .nd .tup [c,e]
 |_, [],_,_,h=>by simp[j8]at h
 |_,_::_, [],_,h=>by simp[j8]at h
 |0,c::cs,e::es,d,h=>⟨c,e,rfl,rfl,by simpa[j8]using h.symm⟩
 |i + 1,c::cs,e::es,d,h=>by simpa using RB i cs es d (by simpa[j8]using h)
theorem RC:∀(cs es:List D),cs.length<=(j8 cs es).length\/es.length<=(j8 cs es).length
 | [],_=> .inl (jO _)
 |_::_, []=> .inr (jO _)
 |c::cs,e::es=>(RC cs es).imp (λh=>aiJ h) λh=>aiJ h
noncomputable def sF:D->Option (List D)
 |.nd .tup cs=>some cs
 |_=>none
theorem auK(q1:jz true K H a xs)(q2:jz false K H b ys)(v1:cv K H N xs cs)(v2:cv K H N ys es):
  (Itm K a b).stop (j8 cs es).length H/\∀(i:Nat) (d:D),(j8 cs es)[i]?=some d->(Itm K a b).go i H/\∀x H',(Itm K a b).s9 i H x H'->aJ H H'/\Vw K H' N x d:=by
 refine⟨⟨xs,ys,q1,q2,by rw[v1.1,v2.1];exact RC cs es⟩,λi d hd=> ?_⟩;obtain⟨c,e,hc,he,rfl⟩:=RB i cs es d hd;obtain⟨u1,DC,w1⟩:=v1.get hc;obtain⟨u2,DD,w2⟩:=v2.get he;refine⟨⟨xs,ys,u1,u2,q1,q2,DC,DD⟩,λx H2 ⟨T,hT,ex,q⟩=> ?_⟩;subst ex;obtain⟨x,y,hx,hy,e2⟩:=q xs ys q1 q2;subst e2;rw[DC]at hx;cases hx;rw[DD]at hy;cases hy;exact⟨fE hT _,IX hT w1 w2⟩
theorem RD(w:Vw K H N v d)(h:uk d=some cs):∃a vs,v= .ref a/\jz false K H a vs/\cv K H N vs cs/\((H a=some (.lst vs)/\N a)\/jA K H a vs):=by
 unfold uk at h
 split at h
 ·cases h;obtain⟨a,vs,rfl,na,hc,hl,bB⟩:=w.node;exact⟨a,vs,rfl,cI.of hc.2,⟨hl,bB⟩, .inl ⟨hc.2,na rfl⟩⟩
 ·cases h;obtain⟨a,vs,rfl,na,hc,hl,bB⟩:=w.node;have ho:=hc.2;exact⟨a,vs,rfl,ho.sq,⟨hl,bB⟩, .inr ho⟩
 ·cases h
theorem RE(w:Vw K H N v d)(h:sF d=some cs):∃a vs,v= .ref a/\H a=some (.tup vs)/\cv K H N vs cs:=by
 unfold sF at h
 split at h
 ·cases h;obtain⟨a,vs,rfl,na,hc,hl,bB⟩:=w.node;exact⟨a,vs,rfl,hc.2,hl,bB⟩
 ·cases h
end
end VL
namespace L2
open PySem PySem.Spec PyProof.Rows
section
variable {prog:Program}{w:World}{K:Type}[DecidableEq K]{knd:HeapKind prog w K}{A:Around}{s:Shared}
end
section
end
end L2
namespace VL
open PySem PySem.Spec PyProof.Rows L2
section
variable {K:ah}{n:Nat}{H H' H1 H2:Hp}{U U':Addr->Prop}{σ hv:List (Option V)}{Z ρ':En}{τv vs:List V}{τd ds:List D}{v y x o u:V}{d d0 d':D}
end
section
variable {K:ah}{n:Nat}{H H' H1 H2:Hp}{U U':Addr->Prop}{σ hv:List (Option V)}{Z ρ':En}{τv vs:List V}{τd ds:List D}{v y:V}{d:D}
end
section
variable {X:Cx}{K:ah}
theorem ar1{elts:List Expr}{x1:Nat}{Ah:Pos}{p pos:Pos}(hg:Gl X "enumerate")(hm:X.mg "enumerate"=none)(ha:PA X [a] ta)(hs:dz [a] X.env= [(false,eval a X.env)]:=by rfl)(hK:X.K=K:=by rfl):
  PI X (.Tuple elts x1 Ah) (.Call (.Name "enumerate" p) [a] [] pos) (apq K ta):=hK▸auo hg hm ha hs
end
section
variable {K:ah}{n:Nat}{H H' H1 H2:Hp}{U U':Addr->Prop}{σ hv:List (Option V)}{Z ρ':En}{τv vs:List V}{τd ds:List D}{v y:V}{d:D}
end
section
variable {K:ah}{n:Nat}{H H' H1 H2:Hp}{v:V}
end
def gi(K:ah)(T:String):List V->Hp->VK->Prop:=λxs H Q=>j4 K T xs H Q\/∃a vs b,xs= [.ref a, .ty T]/\jA K H a vs/\xg K (.type "list") (.type T)=some b/\Q (.bl b) H
theorem wy:fT X (.builtin "isinstance") (gi X.K T):=by
 intro ab s σ H xs us Q I r h;rcases h with h | ⟨a,vs,b,rfl,fr,e,q⟩
 ·exact arR ab s σ H xs us Q I r h
 ·rcases fr with⟨o,ea⟩ | ⟨o,its,n,e1,e2,_⟩
  ·exact arR ab s σ H _ us Q I r ⟨_,_,b,rfl, .b9 ea,e,q⟩
  ·obtain⟨u,w',rfl,ru,rt⟩:=vals2 r;cases rt;cases(show u=c7 a from ru);exact qS ND I.fN ⟨o,I.fN a o e1,e2⟩ e (λz=>nomatch z) λtk=>⟨.bl b,H,I.tok tk,rfl,q⟩
section
variable {K:ah}
def wz(T:String):List D->Option D
 | [.nd .e8 _, .sc (.ty T')]=>if T'=T/\T∈lS then some (.sc (.bl (m4 "list" T))) else none
 |ds=>sG T ds
instance ayE:l4 K (gi K T) (wz T):=⟨λ{H vs ds d Q} w h k=>by
 unfold wz at h
 split at h
 ·next cs T'=>
  by_cases c:T'=T/\T∈lS
  ·rw[if_pos c]at h;cases h;obtain⟨v,u,rfl,w1,w2⟩:=w.two;rw[w2.bA,c.1];obtain⟨a,vs,rfl,_,hc,_⟩:=w1.node;exact .inr ⟨a,vs,_,rfl,hc.2,QU K "list" (by decide) T c.2,k _ H (aJ.refl H) (.sc _)⟩
  ·rw[if_neg c]at h;cases h
 ·exact .inl (akg.s w h k)⟩
end
section
variable {K:ah}{n m:Nat}{H H' H1 H2:Hp}{U U' F N:Addr->Prop}{σ hv e:List (Option V)}{Z ρ':En}{τv vs:List V}{τd ds:List D}{v y:V}{d:D}{E:ke}{a:Addr}{o:Obj}{ai:List (bc×V)}
end
section
variable {K:ah}{n:Nat}{H H' H1 H2:Hp}{U U':Addr->Prop}{σ hv:List (Option V)}{Z ρ':En}{τv vs:List V}{τd ds:List D}{v y:V}{d:D}{a:Addr}{o:Obj}
end
section
variable {K:ah}{n:Nat}{H H' H1 H2:Hp}{U U' N:Addr->Prop}{σ hv:List (Option V)}{Z ρ':En}{τv vs:List V}{τd ds:List D}{v y:V}{d:D}{E:ke}
end
def Jh:List V->Hp->VK->Prop:=λxs H Q=>∃i:Int,xs= [.int i]/\i.natAbs.log2 < 1920/\Q (.str (toString i)) H
theorem abY:fT X (.type "str") Jh:=Xe
noncomputable def yk:List D->Option D
 | [.sc (.int i)]=>if i.natAbs.log2 < 1920 then some (.sc (.str (toString i))) else none
 |_=>none
instance ale{K:ah}:l4 K Jh yk:=⟨λ{H vs ds d Q} w h k=>by
 unfold yk at h
 split at h
 ·next i=>
  by_cases c:i.natAbs.log2 < 1920
  ·rw[if_pos c]at h;cases h;obtain⟨v,rfl,w1⟩:=w.one;rw[w1.bA];exact⟨i,rfl,c,k _ H (aJ.refl H) (cA.sc _)⟩
  ·rw[if_neg c]at h;cases h
 ·cases h⟩
end VL
namespace L2
open PySem PySem.Spec PyProof.Rows PySem.W
section
variable {H:Hp}
end
end L2
namespace VL
open PySem PySem.Spec PyProof.Rows L2
section
variable {K:ah}{H H' H1 H2:Hp}{σ hv:List (Option V)}{τv vs:List V}{τd ds:List D}{v y:V}{d:D}
theorem Ji{o:Nat}(hl:H l=none):cA K H (cf H l (.lst xs)) (.ref l) (.nd .lst (xs.map D.sc)):=by
 have vl:cv K H T1 xs (xs.map D.sc):=⟨by simp,λi v d hv hd=>by
  rw[bJ,hv]at hd;cases hd;exact .sc _⟩
 exact vl.own (vM λd hd=>by obtain⟨i,_,rfl⟩:=gY.mp hd;rfl) hl (.inr ⟨rfl,trivial,0,rfl⟩)
def RZ:R2:=λx y H Q=>∃(a:Str) (k:Int),x= .str a/\y= .int k/\0<=k/\k<=1000000/\a.length * k.toNat<=1000000/\Q (.str (qc a k)) H
theorem Ep{X:Cx}:cu X (binaryOp .Mult) RZ:=Zq
noncomputable def Jl:D->D->Option D
 |.sc (.str a), .sc (.int k)=>if 0<=k/\k<=1000/\a.length<=1000 then some (.sc (.str (qc a k))) else none
 |_,_=>none
instance alj:jD K RZ Jl:=⟨λ{H x y dx dy d Q} w1 w2 h k=>by
 unfold Jl at h
 split at h
 ·next a i=>
  by_cases c:0<=i/\i<=1000/\a.length<=1000
  ·rw[if_pos c]at h;cases h;rw[w1.bA,w2.bA];exact⟨a,i,rfl,rfl,c.1,by lia,b7 (Nat.mul_le_mul c.2.2 (show i.toNat<=1000 by lia)) (by decide),k _ H (aJ.refl H) (cA.sc _)⟩
  ·grind
 ·cases h⟩
end
end VL
namespace L2
open PySem PySem.Spec PyProof.Rows PySem.W
section
variable {σ:St}{H:Hp}{s:Shared}
end
end L2
namespace VL
open PySem PySem.Spec PyProof.Rows L2
section
variable {K:ah}{n:Nat}{H H' H1 H2:Hp}{U U':Addr->Prop}{σ hv:List (Option V)}{Z ρ':En}{τv vs:List V}{τd ds:List D}{v y:V}{d:D}
end
end VL
namespace L2
open PySem PySem.Spec PyProof.Rows PySem.W
section
variable {prog:Program}{w:World}{A:Around}{R:Result->Shared->Prop}{d it:Addr}{ai:List (bc×Value)}{ep:Nat}{ns:List Int}{x:Int}{t:Tok}
end
section
variable {X:Cx}{ab:List (Addr×Obj)}{σ:St}{H:Hp}{s:Shared}
end
end L2
namespace VL
open PySem PySem.Spec PyProof.Rows L2
section
variable {K:ah}{n:Nat}{H H' H1 H2:Hp}{U U':Addr->Prop}{σ hv:List (Option V)}{Z ρ':En}{τv vs:List V}{τd ds:List D}{d:D}
end
noncomputable def Sa (m:Nat):B->B
 |.aB r p=> .aB (r + m) p
 |b=>b
def uq(m:Nat)(Z:En):En:=Z.map (aX (Sa m))
noncomputable def Sb (m x:Nat):B->B
 |.own _=> .aB (x + m) []
 |.ro d=> .ro d
 |.aB r p=> .aB (r + m) p
def rX(n:Nat)(js:List (Option Nat))(Z:En):En:=js.map λo=>o.bind λx=>if x < n then((Z[x]?).join).map (Sb js.length x) else none
noncomputable def aca (m:Nat):B->Option B
 |.aB r p=>if m<=r then some (.aB (r - m) p) else none
 |b=>some b
def yr(m:Nat)(Z:En):En:=(Z.drop m).map (·.bind (aca m))
section
variable {K:ah}{n m:Nat}{H H' H1 H2:Hp}{U U':Addr->Prop}{σ aF hv:List (Option V)}{Z ρ':En}{τv vs:List V}{τd ds:List D}{d:D}
theorem av.enter(I:av K n H U σ hv Z τv τd):av K js.length H U (jv js σ) (σ++hv) (rX n js Z++uq js.length Z) τv τd:=by
 have l:=I.len;have nn:=I.nn;have lc:(jv js σ).length=js.length:=by unfold jv;simp
 have lm:(rX n js Z).length=js.length:=by unfold rX;simp
 have ls:(uq js.length Z).length=Z.length:=by unfold uq;simp
 obtain⟨hl,mu,Fs,dj,sub,sl⟩:=I.ok;have eL:(rX n js Z++uq js.length Z).length=js.length + Z.length:=by rw[bo,lm,ls]
 have wb:∀k,(jv js σ++(σ++hv)++τv.map some)[k + js.length]?=(σ++hv++τv.map some)[k]?:=λk=>by
  rw[b8 (jv js σ),br (by lia),lc,Cq]
 have acb:∀i,i < js.length->(jv js σ++(σ++hv)++τv.map some)[i]?=(jv js σ)[i]?:=λi hi=>by
  rw[b8 (jv js σ),aU (by lia)]
 have Js:∀k,(rX n js Z++uq js.length Z++τd.map λd=>some (B.own d))[k + js.length]?=((Z++τd.map λd=>some (B.own d))[k]?).map (aX (Sa js.length)):=λk=>by
  rw[b8,br (by lia),lm,Cq];by_cases c:k < Z.length
  ·rw[aU (by lia),aU c];unfold uq;rw[bJ]
  ·rw[br (by lia),br (by lia),ls,bJ];cases τd[k - Z.length]? with
   |none=>rfl
   |some d=>rfl
 have acd:∀i,i < js.length->(rX n js Z++uq js.length Z++τd.map λd=>some (B.own d))[i]?=(rX n js Z)[i]?:=λi hi=>by
  rw[b8,aU (by lia)]
 refine⟨⟨?_,mu,λi=>if i < js.length then λ_=>False else Fs (i - js.length),λi j b hi hj=> ?_,λi b hb=> ?_,λi β aa=> ?_⟩, ?_,lc⟩
 ·simp only[bo,bb]at hl |-
  lia
 ·by_cases ci:i < js.length
  ·simp only[ci,if_true]at hi
  ·by_cases cj:j < js.length
   ·simp only[cj,if_true]at hj
   ·simp only[ci,cj,if_false]at hi hj;have:=dj _ _ b hi hj
    lia
 ·by_cases ci:i < js.length
  ·simp only[ci,if_true]at hb
  ·simp only[ci,if_false]at hb;exact sub _ b hb
 ·rw[eL];by_cases ci:i < js.length
  ·rw[acd i ci]at aa;rw[acb i ci];unfold rX at aa;rw[bJ]at aa;have ej:js[i]?=some js[i]:=dH ci;rw[ej]at aa;have aa:=hV aa;cases ex:js[i] with
   |none=>rw[ex]at aa;cases aa
   |some x=>
    rw[ex]at aa;have aa:(if x < n then((Z[x]?).join).map (Sb js.length x) else none)=some β:=aa;by_cases cx:x < n
    ·rw[if_pos cx]at aa;obtain⟨γ,cH,rfl⟩:=aY.mp aa;have cH:Z[x]?=some (some γ):=by
      cases e:Z[x]? with
      |none=>rw[e]at cH;cases cH
      |some o=>rw[e]at cH;have cH:o=some γ:=cH;rw[cH]
     have hx:x < Z.length:=(cm.mp cH).1;obtain⟨v,ev,sv⟩:=sl x γ (by rw[aU hx];exact cH);have ij:σ[x]?=some (some v):=by
      rw[b8,aU (by lia)]at ev;exact ev
     refine⟨v, ?_, ?_⟩
     ·unfold jv;rw[bJ,ej,ex];show some ((σ[x]?).join)=some (some v);rw[ij];rfl
     ·cases γ with
      |own d=>exact⟨by lia,v,(wb x).trans ev, .nil _⟩
      |ro d=>exact sv
      |aB r p=>
       obtain⟨hr,vr,er,pr⟩:=sv;exact⟨by lia,vr,(wb r).trans er,pr⟩
    ·rw[if_neg cx]at aa;cases aa
  ·obtain⟨k,rfl⟩:∃k,i=k + js.length:=⟨i - js.length,by lia⟩
   rw[Js]at aa;rw[wb];simp only[ci,if_false,Cq];obtain⟨o,ho,aa⟩:=aY.mp aa;obtain⟨γ,rfl,rfl⟩:=aY.mp aa;obtain⟨v,ev,sv⟩:=sl k γ ho;refine⟨v,ev, ?_⟩;cases γ with
   |own d=>exact sv
   |ro d=>exact sv
   |aB r p=>
    obtain⟨hr,vr,er,pr⟩:=sv;exact⟨by lia,vr,(wb r).trans er,pr⟩
 ·rw[lc,eL,bo]
  lia
theorem av.leave(I:av K m H U aF (σ++hv) Z τv τd)(hn:σ.length=n):av K n H U σ hv (yr m Z) τv τd:=by
 have l:=I.len;have nn:=I.nn;rw[bo]at l;have lu:(yr m Z).length=Z.length - m:=by unfold yr;simp
 obtain⟨hl,mu,Fs,dj,sub,sl⟩:=I.ok;have wb:∀k,(aF++(σ++hv)++τv.map some)[k + m]?=(σ++hv++τv.map some)[k]?:=λk=>by
  rw[b8 aF,br (by lia),nn,Cq]
 have Js:∀k,(yr m Z++τd.map λd=>some _)[k]?=((Z++τd.map λd=>some (B.own d))[k + m]?).map _:=λk=>by
  by_cases c:k < Z.length - m
  ·rw[aU (by lia),aU (by lia)];unfold yr;rw[bJ,aiE,Nat.add_comm m k]
  ·rw[br (by lia),br (by lia),lu,bJ,bJ,show k + m - Z.length=k - (Z.length - m) by lia];cases τd[k - (Z.length - m)]? with
   |none=>rfl
   |some d=>rfl
 refine⟨⟨?_,mu,λi=>Fs (i + m),λi j b hi hj=> ?_,λi b hb=>sub _ b hb,λi β aa=> ?_⟩,by lia,hn⟩
 ·simp only[bo,bb]at hl |-
  lia
 ·have:=dj _ _ b hi hj
  lia
 ·rw[Js]at aa;obtain⟨o,ho,aa⟩:=aY.mp aa;obtain⟨γ,rfl,aa⟩:=ak.mp aa;obtain⟨v,ev,sv⟩:=sl _ γ ho;rw[wb]at ev;refine⟨v,ev, ?_⟩;rw[lu];cases γ with
  |own d=>cases aa;exact sv
  |ro d=>cases aa;exact sv
  |aB r p=>
   have aa:(if m<=r then some _ else none)=some β:=aa;by_cases c:m<=r
   ·rw[if_pos c]at aa;cases aa;obtain⟨hr,vr,er,pr⟩:=sv;refine⟨by lia,vr, ?_,pr⟩;rw[<- wb,show r - m + m=r by lia];exact er
   ·rw[if_neg c]at aa;cases aa
noncomputable def pU (fg:D->En->Option En) (fe:En->Option (D×En)):List D->En->Option (List D×En)
 | [],Z=>some ([],Z)
 |d::ds,Z=>(fg d Z).bind λρ1=>(fe ρ1).bind λa=>(pU fg fe ds a.2).map λr=>(a.1::r.1,r.2)
def Sd(n:Nat)(js:List (Option Nat))(fa:En->Option (List D×En))(fg:D->En->Option En)(fe:En->Option (D×En))(Z:En):Option (D×En):=(fa Z).bind λa=>(tZ a.1).bind λds=>
 if ds.length<=aM then(pU fg fe ds (rX n js a.2++uq js.length a.2)).map λr=>(.nd .lst r.1,yr js.length r.2) else none
instance (priority:=40) alo{ta:TA}{g:TG}{te:TE}{js:List (Option Nat)}{is:List Nat}{m:Nat}{fa:En->Option (List D×En)}{fg:D->En->Option En}{fe:En->Option (D×En)}[hm:vW js m]
  [A:qv K n ta fa] [G:SG K m g fg is] [E':SM K m te fe]:SM K n (xH (CK ta) g Dm te js) (Sd n js fa fg fe):=⟨λ{σ hv H U Z ρ' τv τd d Q} I h k=>by
 have hm:=hm.h;subst hm;obtain⟨⟨as,ia⟩,h1,h⟩:=ak.mp h;obtain⟨ds,h2,h⟩:=ak.mp h;by_cases cz:ds.length<=aM
 ·rw[if_pos cz]at h;obtain⟨⟨es,ace⟩,h3,h⟩:=aY.mp h;cases h;refine A.s I h1 λvs H1 U1 hl I1 bQ=> ?_;obtain⟨j,e,c1,c2,e2⟩:=Ir (I1.DZ hl) h2;have AS:=I1.drop hl;have wk:=arT (K:=K) 0 j.toNat;subst e;refine⟨j,rfl,c1,c2, ?_⟩;rw[<- e2]at wk;have nn:=I.nn;refine⟨λi m' aF ys H'=>m'=ds.length - i/\i<=ds.length/\∃U' ρ1 ea eb,av K js.length H' U' aF (σ++hv) ρ1 (τv++ys) (τd++ea)/\ys.length=ea.length/\ys.length=i/\bH U H U' H'/\pU fg fe (ds.drop i) ρ1=some (eb,ace)/\es=ea++eb,⟨ds.length,by simp,jO _,U1,_, [],es,by rw[bR,bR];exact AS.enter,rfl,rfl,bQ,h3,rfl⟩, ?_⟩;rintro i m' aF ys H' ⟨rfl,hi,U',ρ1,ea,eb,Ix,ly,li,st,fo,ee⟩;by_cases dS:i < ds.length
  ·right;have hd:=dH dS;obtain⟨go,yl⟩:=wk.item (H:=H') (U:=U') trivial hd;rw[Cr dS,pU]at fo;obtain⟨ag,b1,fo⟩:=ak.mp fo;obtain⟨⟨dy,Jt⟩,b2,fo⟩:=ak.mp fo;obtain⟨⟨er,acf⟩,b3,fo⟩:=aY.mp fo;obtain⟨f1,f2⟩:=ayb fo;subst f2;subst f1;refine⟨go,λeY zs H2=>∃U2 ag Be Eu,av K js.length H2 U2 eY (σ++hv) ag (τv++zs) (τd++Be)/\zs.length=Be.length/\zs.length=i + 1/\bH U H U2 H2/\pU fg fe _ ag=some (Eu,acf)/\es=Be++Eu,λeY zs H2 ⟨U2,ag,Be,Eu,a1,a2,a3,a4,a5,a6⟩=>⟨by lia,_,by lia,rfl,dS,U2,ag,Be,Eu,a1,a2,a3,a4,a5,a6⟩,λx H2 y2=> ?_⟩;obtain⟨e,w2⟩:=yl x H2 y2;subst e;refine G.s Ix w2 b1 λeY I2=> ?_;refine E'.s I2 b2 λy H5 U5 I5 s5=> ?_;exact⟨U5,Jt,ea++ [dy],er,by rw[b8,b8]at I5;exact I5,by rw[bo,bo,ly];rfl,by rw[bo,li];rfl,st.trans s5,b3,by rw[ee];simp⟩
  ·left;have e:i=ds.length:=by lia
   subst e;rw[FR,pU]at fo;cases fo;rw[bR]at ee;subst ee;refine⟨wk.stop (H:=H') (U:=U') trivial,λD hD=> ?_⟩;have I3:=Ix.leave nn;obtain⟨U4,I4,s4⟩:=I3.gather (k:= .lst) (o:= .lst ys) ly hD (.inr ⟨rfl,trivial,0,rfl⟩);exact k _ _ U4 I4 (st.trans s4)
 ·rw[if_neg cz]at h;cases h⟩
end
end VL
namespace L2
open PySem PySem.Spec PyProof.Rows PySem.W
section
variable {w:World}{A:Around}{s:Shared}
end
section
variable {X:Cx}{e:Expr}{te:TE}{lo hi:Option Expr}{st:Expr}{pos p2:Pos}{l u:Int}
end
section
end
end L2
namespace VL
open PySem PySem.Spec PyProof.Rows L2
section
variable {K:ah}{n:Nat}{H H' H1 H2:Hp}{U U':Addr->Prop}{σ hv:List (Option V)}{Z ρ':En}{τv vs:List V}{τd ds:List D}{v y:V}{d:D}{N:Addr->Prop}
def FG(K:ah):V->List V->Hp->VK->Prop:=λx vs H Q=>∃(a:Str) (p:Addr) (ys:List Str),x= .str a/\vs= [.ref p]/\cI K H p (ys.map V.str)/\(ys.map (·.length)).sum + ys.length * a.length<=16777216/\Q (.str (FP a ys)) H
theorem acm{X:Cx}:Am X "str.join" (FG X.K):=Zm
noncomputable def wN:List D->Option (List Str)
 | []=>some []
 |.sc (.str x)::r=>(wN r).map (x:: ·)
 |_::_=>none
theorem Sf:∀{cs:List D} {vs:List V} {ys:List Str},cv K H N vs cs->wN cs=some ys->vs=ys.map V.str
 | [],vs,ys,w,h=>by
  cases h;exact List.length_eq_zero_iff.mp w.1
 |c::cs, [],ys,w,h=>by have:=w.1;simp at this
 |c::cs,v::vs,ys,w,h=>by
  unfold wN at h
  split at h
  ·next e=>cases e
  ·next x r e=>
   injection e with e1 e2
   subst e1 e2;obtain⟨l,h1,rfl⟩:=aY.mp h;have w0:=(w.2 0 v _ rfl rfl).bA;rw[w0,Sf (vs:=vs) ⟨by simpa using w.1,λi a b ha hb=>w.2 (i + 1) a b (by simpa using ha) (by simpa using hb)⟩ h1];rfl
  ·cases h
def Jy(a:Str):D->Option D
 |.nd .lst cs=>(wN cs).bind λys=>if(ys.map (·.length)).sum + ys.length * a.length<=16777216 then some (.sc (.str (FP a ys))) else none
 |_=>none
theorem acn(w:Vw K H T1 v x)(h:Jy a x=some d)(k:∀u,u=V.str (match d with | .sc (.str z)=>z | _=>a)->cA K H H u d->Q u H):FG K (.str a) [v] H Q:=by
 unfold Jy at h
 split at h
 ·next cs=>
  obtain⟨ys,h1,h⟩:=ak.mp h;by_cases c:(ys.map (·.length)).sum + ys.length * a.length<=16777216
  ·rw[if_pos c]at h;cases h;obtain⟨p,us,rfl,hc,vl⟩:=w.ip;have e:=Sf vl h1;subst e;exact⟨a,p,ys,rfl,rfl,cI.of hc.2,c,k _ rfl (cA.sc _)⟩
  ·rw[if_neg c]at h;cases h
 ·cases h
instance (priority:=500) ayF{a:Str}{te:TE}{fe:En->Option D}[A:SV K n te fe]:SF K n (vy K "str" (FG K) (tC (.str a)) (di te fz)) (λZ=>(fe Z).bind (Jy a)):=⟨λ{σ hv H U Z τv τd d Q} I h k=>by
 obtain⟨x,h1,h2⟩:=ak.mp h;refine⟨rfl,A.s I h1 λv H1 s1 w=> ?_⟩;exact acn w h2 λu _ o=>k u H1 s1 (o.early s1)⟩
def joinM(a:Str)(fe:En->Option (D×En))(Z:En):Option (D×En):=(fe Z).bind λr=>(Jy a r.1).map λd=>(d,r.2)
instance (priority:=60) als{a:Str}{te:TE}{fe:En->Option (D×En)}[A:SM K n te fe]:SM K n (vy K "str" (FG K) (tC (.str a)) (di te fz)) (joinM a fe):=⟨λ{σ hv H U Z ρ' τv τd d Q} I h k=>by
 obtain⟨⟨x,ρ1⟩,h1,h⟩:=ak.mp h;obtain⟨d',h2,h⟩:=aY.mp h;cases h;refine⟨rfl,A.s I h1 λv H1 U1 I1 bQ=> ?_⟩;refine acn I1.last h2 λu _ o=> ?_;obtain⟨U2,I2,dJ⟩:=I1.qw.push (aJ.refl _) o;exact k u H1 U2 I2 (bQ.trans dJ)⟩
end
end VL
namespace L2
open PySem PySem.Spec PyProof.Rows PySem.W
end L2
namespace VL
open PySem PySem.Spec PyProof.Rows L2
section
variable {K:ah}{n:Nat}{H H' H1 H2:Hp}{U U':Addr->Prop}{σ hv:List (Option V)}{Z ρ':En}{τv vs:List V}{τd ds:List D}{v y:V}{d:D}
end
end VL
namespace L2
open PySem PySem.Spec PyProof.Rows PySem.W
noncomputable def kA (K:ah) (x:Str):Addr:=match nsIn K jN x with
 |some (some (.ref a))=>a
 |_=>0
def yt(K:ah)(w:World)(a:Addr):Prop:=∃(es:Array Nn) (n:Nat),K.lookup a=some ⟨.type "dict",none, .dict es n,#[]⟩/\KeysLit w.params es.toList
end L2
namespace VL
open PySem PySem.Spec PyProof.Rows L2
section
variable {K:ah}{n:Nat}{H H' H1 H2:Hp}{U U':Addr->Prop}{σ hv:List (Option V)}{Z ρ':En}{τv vs:List V}{τd ds:List D}{v y:V}{d:D}
end
section
variable {K:ah}{n:Nat}{H H' H1 H2:Hp}{U U':Addr->Prop}{σ hv:List (Option V)}{Z ρ':En}{τv vs:List V}{τd ds:List D}{d:D}{E:XK}
def Bg(G:List D->Option (D×List D))(fe:En->Option D)(Z:En):Option (D×En):=(fe Z).bind λd=>(fL G [.io ⟨Z.length, []⟩] (Z++ [some (.own d)])).bind λa=>if a.2.length=Z.length + 1 then some (a.1,qE 0 Z.length a.2) else none
instance (priority:=50) alx{G:List D->Option (D×List D)}{te:TE}{fe:En->Option D}[L0:jC 0 n][A:SQ K n te fe]:SM K n (og (dW K [true] G) [] E (di te fz)) (Bg G fe):=⟨λ{σ hv H U Z ρ' τv τd d Q} I h k=>by
 obtain⟨d2,h2,h⟩:=ak.mp h;obtain⟨⟨d3,Jt⟩,h3,h⟩:=ak.mp h;by_cases cl:Jt.length=Z.length + 1
 ·rw[if_pos cl]at h;cases h;show te σ H λv2 H2=>dW K [true] G [v2] H2 Q E;refine SQ.s I h2 λv2 H2 U2 I2 dJ s2=> ?_;have I3:=I2.hide;have l:=I.len;have nn:=I.nn;have hM:(σ++hv).length=Z.length:=by rw[bo];exact l
  have p2:iH K H2 U2 (σ++(hv++ [some v2])) (Z++ [some (.own d2)]) v2 (.rt Z.length []):=⟨by rw[bo,pw];lia,v2,d2,by rw[<- b8,br (by lia),hM,kj];rfl,by unfold aV;rw[br (bO _),kj];rfl,by cases d2 <;> rfl, .nil _⟩
  have acq:av K n H2 U2 σ (hv++ [some v2]) (Z++ [some (.own d2)]) (τv++ []) (τd++ []):=by rw[bR,bR];exact I3
  exact av.Ia acq rfl dJ (.io p2 .nil) h3 λv H' U' I' e5=>k v H' U' (I'.cls cl (by have:=L0.h;lia)) e5
 ·rw[if_neg cl]at h;cases h⟩
end
end VL
namespace L2
open PySem PySem.Spec PyProof.Rows
end L2
namespace VL
open PySem PySem.Spec PyProof.Rows L2
section
variable {K:ah}{n:Nat}{H H' H1 H2:Hp}{U U':Addr->Prop}{σ hv:List (Option V)}{Z ρ':En}{τv vs:List V}{τd ds:List D}{d:D}{N:Addr->Prop}{E:XK}
end
section
variable {X:Cx}{K:ah}{a b e o:Expr}{ta tb te:TE}{p pos pos':Pos}{x f:Str}
theorem acz(ho:PE X o ta)(ha:PE X a tb)(hK:X.K=K:=by rfl)(hb:ahf o "join" X.env (eval o X.env)=eval o X.env:=by rfl)
  (hf:((backTo pos (dz [a] X.env)).all (λx=> !x.1) && (B7 pos (B8 [] X.env)).all (λx=>x.1.isSome)
   && decide ([a].length + ([]:List Keyword).length + (if([]:List Keyword).isEmpty then 0 else 1) < 30))=true:=by rfl) (hl:(p.endLine == pos.line)=true:=by rfl) (hs:dz [a] X.env=(false,eval a X.env)::dz [] X.env:=by rfl):PE X (.Call (.Attribute o "join" p) [a] [] pos) (vy K "str" (FG K) ta (di tb fz)):=hK▸GK at7 PySem.F.slot_str_join PySem.F.type_str_join acm ho (fJ ha gk (hs:=hs)) hb hf hl hs
variable {tv:TE}
noncomputable def Nj:Expr->Bool
 |.Starred ..=>true
 |_=>false
theorem acC{e:Expr}(h:Nj e=false):dz (e::es) env=(false,eval e env)::dz es env:=by
 cases e <;> first | rfl | cases h
theorem cU(ha:PE X e te)(hr:PA X es t)(h:Nj e=false:=by rfl):PA X (e::es) (di te t):=fJ ha hr (acC h)
structure EB(X:Cx)(es:List Expr)(t:TA):Prop where
 h:PA X es t
structure Sl(X:Cx)(e:Expr)(t:TE):Prop where
 h:PE X e t
structure Sn(X:Cx)(st:List Stmt)(t:TS):Prop where
 h:jc X st t
theorem acD:EB X [] fz:=⟨gk⟩
theorem oZ(ha:PE X e te)(hr:EB X es t)(h:Nj e=false:=by rfl):EB X (e::es) (di te t):=⟨cU ha hr.h h⟩
theorem acE(h:EB X es t):Sl X (.List es pos) (vn t):=⟨iX h.h⟩
theorem acF(i:Nat)(hN:X.N.Nodup)(he:Sl X e te)(hr:jc X r u)(hi:X.N[i]?=some x:=by rfl)(hx:Loc X.env.scope x:=by first | exact .inl rfl | exact .inr rfl)(hs:wQ e (some (.Name x pos')) pos.line X.env=pure false:=by rfl)(hf:X.fn x=true\/X.env.scope.names.lookup x=some .local:=by first | exact .inl rfl | exact .inr rfl):Sn X (.Assign [.Name x pos'] e pos::r) (sX (vh te (lB i)) u):=⟨aL (bX i hN he.h hi hx hs hf) hr⟩
theorem JB(hu:X.A.units + 1 < cLine)(hK:X.K=K:=by rfl):cu X (compareOp .NotIn) (Ik K):=hK▸aaJ hu
end
section
variable {K:ah}{n m:Nat}{H H' H1 H2:Hp}{U U':Addr->Prop}{σ hv e:List (Option V)}{Z ρ' ag:En}{τv vs:List V}{τd ds:List D}{v y x:V}{d d0:D}
end
section
variable {K:ah}{n:Nat}{H H':Hp}{U U' N:Addr->Prop}{v:V}{d e:D}
theorem Sv(q1:jz t K H a xs)(q2:jz t K H b ys)(v1:cv K H N xs cs)(v2:cv K H N ys es):
  (vL K t a b).stop (j8 cs es).length H/\∀(i:Nat) (d:D),(j8 cs es)[i]?=some d->(vL K t a b).go i H/\∀x H',(vL K t a b).s9 i H x H'->aJ H H'/\Vw K H' N x d:=by
 refine⟨⟨xs,ys,q1,q2,by rw[v1.1,v2.1];exact RC cs es⟩,λi d hd=> ?_⟩;obtain⟨c,e,hc,he,rfl⟩:=RB i cs es d hd;obtain⟨u1,DC,w1⟩:=v1.get hc;obtain⟨u2,DD,w2⟩:=v2.get he;refine⟨⟨xs,ys,u1,u2,q1,q2,DC,DD⟩,λx H2 ⟨T,hT,ex,q⟩=> ?_⟩;subst ex;obtain⟨x,y,hx,hy,e2⟩:=q xs ys q1 q2;subst e2;rw[DC]at hx;cases hx;rw[DD]at hy;cases hy;exact⟨fE hT _,IX hT w1 w2⟩
theorem acN(w1:Vw K H T1 v d)(w2:Vw K H T1 u e)(h1:uk d=some cs)(h2:uk e=some es):∃a b xs ys,v= .ref a/\u= .ref b/\jz false K H a xs/\jz false K H b ys/\tY K (vL K false a b) H (j8 cs es):=by
 obtain⟨a,xs,rfl,q1,v1,o1⟩:=RD w1 h1;obtain⟨b,ys,rfl,q2,v2,o⟩:=RD w2 h2;have st:∀{c:Addr} {zs:List V} {H':Hp},((H c=some _/\T1 c)\/jA K H c zs)->aJ H H'->jz false K H' c zs:=λo s=>by
  rcases o with⟨z,_⟩ | z
  ·exact cI.of (s _ _ z)
  ·exact(z.gO (gu.of s)).sq
 exact⟨a,b,xs,ys,rfl,rfl,q1,q2,λH' s=>Sv (st o1 s) (st o s) (v7 v1 s) (v7 v2 s)⟩
theorem acO(w1:Vw K H T1 v d)(w2:Vw K H T1 u e)(h1:sF d=some cs)(h2:sF e=some es):∃a b xs ys,v= .ref a/\u= .ref b/\jz true K H a xs/\jz true K H b ys/\tY K (vL K true a b) H (j8 cs es):=by
 obtain⟨a,xs,rfl,q1,v1⟩:=RE w1 h1;obtain⟨b,ys,rfl,q2,v2⟩:=RE w2 h2;exact⟨a,b,xs,ys,rfl,rfl,cE.of q1,cE.of q2,λH' s=>Sv (cE.of (s _ _ q1)) (cE.of (s _ _ q2)) (v7 v1 s) (v7 v2 s)⟩
def JF:List D->Option (List D)
 | [d,e]=>match sF d with
  |some cs=>(sF e).map λes=>j8 cs es
  |none=>(uk d).bind λcs=>(uk e).map λes=>j8 cs es
 |_=>none
instance alE[A:SA K n ta fa]:SI K n (Hy K ta) (λZ=>(fa Z).bind JF):=⟨λ{σ hv H U Z τv τd ds R} I h k=>by
 obtain⟨l,h1,h2⟩:=ak.mp h
 match l,h1,h2 with
 | [d,e],h1,h2=>
  have h2:(match sF d with | some cs=>(sF e).map λes=>j8 cs es | none=>(uk d).bind λcs=>(uk e).map λes=>j8 cs es)=some ds:=h2;refine A.s I h1 λvs H1 s1 w=> ?_;obtain⟨v,u,rfl,w1,w2⟩:=w.two;cases g1:sF d with
  |some cs=>
   rw[g1]at h2;obtain⟨es,g2,rfl⟩:=aY.mp h2;obtain⟨a,b,xs,ys,rfl,rfl,q1,q2,wk⟩:=acO w1 w2 g1 g2;exact⟨true,a,b,xs,ys,rfl,q1,q2,k _ H1 s1 wk⟩
  |none=>
   rw[g1]at h2;obtain⟨cs,g1,h2⟩:=ak.mp h2;obtain⟨es,g2,rfl⟩:=aY.mp h2;obtain⟨a,b,xs,ys,rfl,rfl,q1,q2,wk⟩:=acN w1 w2 g1 g2;exact⟨false,a,b,xs,ys,rfl,q1,q2,k _ H1 s1 wk⟩
 | [],h1,h2=>cases h2
 | [_],h1,h2=>cases h2
 |_::_::_::_,h1,h2=>cases h2⟩
end
section
variable {K:ah}{n:Nat}{H H' H1 H2:Hp}{U U' N:Addr->Prop}{σ hv:List (Option V)}{Z ρ':En}{τv vs:List V}{τd ds:List D}{v y:V}{d:D}{E:ke}{a:Addr}
theorem ar2{α:Type}{xs:List α}{i:Nat}{x:α}(h:xs.reverse[i]?=some x):xs[xs.length - 1 - i]?=some x:=by
 have c:i < xs.length:=by
  have:=(cm.mp h).1;rwa [aoo]at this
 rwa [List.getElem?_reverse c]at h
def apy(fp:En->Option Pl)(Z:En):Option (D×En):=(fp Z).bind λ
 |.rt r p=>(lO Z r p (λcs=>some cs.reverse)).map λρ'=>(.sc .aG,ρ')
 |.ro _=>none
instance (priority:=600) ayG{to:TE}{fp:En->Option Pl}[P:SP K n to fp]:SM K n (GJ K "list" apo to) (apy fp):=⟨λ{σ hv H U Z ρ' τv τd d Q} I h k=>by
 obtain⟨q,h1,h⟩:=ak.mp h;cases q with
 |ro _=>cases h
 |rt r p=>
  obtain⟨ag,h3,h⟩:=aY.mp h;cases h;refine P.s I h1 λx H1 s1 w1=> ?_;have I1:=I.same s1;have e6:bH U H U H1:=λb o q nu=>⟨s1 b o q,nu⟩
  obtain⟨⟨d0,kk,cs⟩,g1,h⟩:=ak.mp h3;obtain⟨hr,hg⟩:=qx g1
  split at h
  ·next e=>
   have e:kk= .lst:=e;subst e;obtain⟨fU,h4,h⟩:=aY.mp h;subst h;cases h4;obtain⟨a,dx,vs,rfl,ha,hf,hl,_,ed⟩:=av.edit (τv:=τv) (τd:=τd) (xs:= []) (ds:= []) (by rw[bR,bR];exact I1) rfl w1 hr hg rfl;obtain⟨U3,I3,gZ⟩:=ed .lst vs.reverse cs.reverse (λj=>vs.length - 1 - j) rfl trivial (by rw[aoo,aoo];exact hl)
    (λx z hx hz h=>by rw[aoo]at hx hz;lia) (λj x h=>by rw[bR];exact ar2 h) λj x h=>by rw[bR,hl];exact ar2 h
   obtain⟨U4,I4,nz⟩:=I3.push (aJ.refl _) (cA.sc (K:=K) .aG);exact⟨DM ha,a,vs,rfl,rfl,ha,k _ _ U4 I4 (e6.trans (gZ.trans nz))⟩
  ·cases h⟩
end
section
variable {X:Cx}{e:Expr}{te:TE}{pos:Pos}
end
section
variable {K:ah}{n:Nat}
end
section
variable {X:Cx}{K:ah}{o:Expr}{ta:TE}{p pos:Pos}
theorem auL(ho:PE X o ta)(hK:X.K=K:=by rfl)(hb:ahf o "reverse" X.env (eval o X.env)=eval o X.env:=by rfl)(hl:(p.endLine == pos.line)=true:=by rfl):PE X (.Call (.Attribute o "reverse" p) [] [] pos) (GJ K "list" apo ta):=hK▸X5 Wd PySem.F.slot_list_reverse PySem.F.type_list_reverse auj ho hb hl
end
section
variable {K:ah}{n:Nat}{H H' H1 H2:Hp}{U U' N:Addr->Prop}{σ hv:List (Option V)}{Z ρ':En}{τv vs:List V}{τd ds:List D}{v y:V}{d:D}{E:ke}{a:Addr}
end
section
variable {K:ah}{n:Nat}{t:TS}{u:TE}{X:Cx}
end
section
variable {K:ah}{n:Nat}
def alK:V->List V->Hp->VK->Prop:=λx vs H Q=>∃a b,x= .str a/\vs= [.str b]/\(b.length == 0)=false/\a.length + 2<=aM/\∀p,H p=none->Q (.ref p) (cf H p (.lst ((d5 a b).map V.str)))
theorem auM:Am X "str.split" alK:=aus
noncomputable def wG (b:Str):D->Option D
 |.sc (.str a)=>if(b.length == 0)=false/\a.length + 2<=aM then some (.nd .lst (((d5 a b).map V.str).map .sc)) else none
 |_=>none
theorem ar3{H H1:Hp}(w:Vw K H1 T1 v a)(h:wG b a=some d)(k:∀p H2,aJ H1 H2->cA K H1 H2 (.ref p) d->Q (.ref p) H2):vt K "str" v H1/\alK v [.str b] H1 Q:=by
 unfold wG at h
 split at h
 ·next a=>
  by_cases c:(b.length == 0)=false/\a.length + 2<=aM
  ·rw[if_pos c]at h;cases h;cases w.bA;exact⟨rfl,a,b,rfl,rfl,c.1,c.2,λp hp=>k p _ (fE hp _) (Ji (o:=0) hp)⟩
  ·rw[if_neg c]at h;cases h
 ·cases h
instance (priority:=500) ayH{b:Str}{te:TE}{fe:En->Option D}[A:SV K n te fe]:SF K n (vy K "str" alK te (di (tC (.str b)) fz)) (λZ=>(fe Z).bind (wG b)):=⟨λ{σ hv H U Z τv τd d Q} I h k=>by
 obtain⟨x,h1,h2⟩:=ak.mp h;refine A.s I h1 λv H1 s1 w=> ?_;exact ar3 (H:=H) w h2 λp H2 s2 o=>k _ _ (s1.trans s2) (o.early s1)⟩
def apz:V->List V->Hp->VK->Prop:=λx vs H Q=>∃a b,x= .str a/\vs= [.str b]/\Q (.bl (xP a b)) H
theorem auN:Am X "str.startswith" apz:=aur
noncomputable def ar4 (b:Str):D->Option D
 |.sc (.str a)=>some (.sc (.bl (xP a b)))
 |_=>none
instance (priority:=500) ayI{b:Str}{te:TE}{fe:En->Option D}[A:SV K n te fe]:SF K n (vy K "str" apz te (di (tC (.str b)) fz)) (λZ=>(fe Z).bind (ar4 b)):=⟨λ{σ hv H U Z τv τd d Q} I h k=>by
 obtain⟨x,h1,h2⟩:=ak.mp h;refine A.s I h1 λv H1 s1 w=> ?_;unfold ar4 at h2
 split at h2
 ·next a=>
  cases h2;cases w.bA;exact⟨rfl,a,b,rfl,rfl,k _ H1 s1 (cA.sc _)⟩
 ·cases h2⟩
end
end VL
namespace L2
open PySem PySem.Spec PyProof.Rows PySem.W
noncomputable def alL:List Nn->Option (List (bc×V))
 | []=>some []
 |e::r=>match e.key,e.val with
  |.str x _, .ref t=>(alL r).map ((.inr x, .ref t):: ·)
  |_,_=>none
noncomputable def aoy (l:List (bc×V)):List (bc×Value):=l.map λp=>(p.1,match p.2 with | .ref t=> .ref t | _=> .none)
theorem ar5:∀{es:List Nn} {ai:List (bc×V)},alL es=some ai->Pairs (gL P w) es (aoy ai)/\KV ai (aoy ai)
 | [],_,h=>by cases h;exact⟨.nil, .nil⟩
 |e::r,ai,h=>by
  unfold alL at h
  split at h
  ·next x t b hk hv=>
   obtain⟨l,h1,rfl⟩:=aY.mp h;obtain⟨p,q⟩:=ar5 (P:=P) (w:=w) h1;exact⟨.cons (by rw[hk];exact FV P w x t) hv p, .cons ⟨rfl,rfl⟩ q⟩
  ·cases h
def aoz(K:ah)(a:Addr):Option (List (bc×V)):=(K.lookup a).bind λo=>match o.data with
 |.dict es _=>alL es.toList
 |_=>none
def alM(K:ah)(a:Addr):List V->Hp->VK->Prop:=λxs H Q=>∃ai,xs= [.ref a]/\aoz K a=some ai/\(ai.map (·.1)).Nodup/\ai.length<=aM/\(a == qO)=false/\∀p,H p=none->Q (.ref p) (cf H p (.dK ai))
theorem apA(T:yt X.K X.w a):fT X (.type "dict") (alM X.K a):=by
 intro ab s σ H xs us Q I r h;obtain⟨ai,rfl,e,nd,z,hd,q⟩:=h;obtain⟨u,rfl,rx⟩:=vals1 r;cases rx;obtain⟨es,n,hl,hk⟩:=T;have e:alL es.toList=some ai:=by
  unfold aoz at e;rw[hl]at e;exact e
 obtain⟨p,bG⟩:=ar5 (P:=X.prog) (w:=X.w) e;have dd:s.heap.DictOf (gL X.prog X.w) a (aoy ai):=⟨_,es,n,I.fN a _ hl,⟨rfl,rfl,rfl⟩,rfl,λd hd=>by
  obtain⟨x,t,e1,e2⟩:=hk.all d (ax5.mpr hd);exact⟨.inr x,by rw[e1];exact FV _ _ x t,e2⟩,p,by
  unfold aoy;rw[mJ];exact nd⟩
 refine kt_call_dict hd dd (by rw[<- bG.length];exact z) λh' oo hs=> ?_;refine⟨.ref _,_,I.laid (a:=s.heap.objs.size) (o:= .dK ai) (t':=s.toks) (λb q hq=> ?_) (bO _) (G1 z (beq_eq_false_iff_ne.mpr (fw (dR I.big))) bG oo),rfl,q _ (I.aQ.fresh (bO _))⟩;exact(hs.2 b (dR (da hq))).trans (cB _ hq)
end L2
namespace VL
open PySem PySem.Spec PyProof.Rows L2
section
variable {K:ah}
def apB(K:ah)(a:Addr):List D->Option D
 | [.sc (.ref b)]=>if b=a then(aoz K a).bind λai=>if(ai.map (·.1)).Nodup/\ai.length<=aM/\(a == qO)=false then some (.nd (.aO (ai.map (·.1))) ((ai.map (·.2)).map .sc)) else none else none
 |_=>none
instance ayJ:l4 K (alM K a) (apB K a):=⟨λ{H vs ds d Q} w h k=>by
 unfold apB at h
 split at h
 ·next b=>
  by_cases c:b=a
  ·rw[if_pos c]at h;subst c;obtain⟨ai,h1,h⟩:=ak.mp h;by_cases c:(ai.map (·.1)).Nodup/\ai.length<=aM/\(b == qO)=false
   ·rw[if_pos c]at h;cases h;obtain⟨v,rfl,w1⟩:=w.one;cases w1.bA;refine⟨ai,rfl,h1,c.1,c.2.1,c.2.2,λp hp=>k _ _ (fE hp _) ?_⟩;have vl:cv K H T1 (ai.map (·.2)) ((ai.map (·.2)).map D.sc):=⟨by simp,λi v d hv hd=>by
     rw[bJ,hv]at hd;cases hd;exact .sc _⟩
    have e:HO.dK ai=ho (.aO (ai.map (·.1))) 0 (ai.map (·.2)):=by
     show HO.dK ai=HO.dK ((ai.map (·.1)).zip (ai.map (·.2)));rw[List.zip_map'];simp
    rw[e];exact vl.own (vM λd hd=>by obtain⟨i,_,rfl⟩:=gY.mp hd;rfl) hp (.inr ⟨rfl,by show _=_;simp,0,rfl⟩)
   ·rw[if_neg c]at h;cases h
  ·rw[if_neg c]at h;cases h
 ·cases h⟩
end
end VL
namespace L2
open PySem PySem.Spec PyProof.Rows PySem.W
noncomputable def aoA:List Value->Option (List Str)
 | []=>some []
 |.str x _::r=>(aoA r).map (x:: ·)
 |_::_=>none
theorem ar6:∀{us:List Value} {ns:List Str},aoA us=some ns->bj (ns.map V.str) us
 | [],_,h=>by cases h;exact .nil
 |u::r,ns,h=>by
  unfold aoA at h
  split at h
  ·next e=>cases e
  ·next i t r' e=>
   injection e with e1 e2
   subst e1 e2;obtain⟨l,h1,rfl⟩:=aY.mp h;exact .cons ⟨t,rfl⟩ (ar6 h1)
  ·cases h
def Up(K:ah)(t:Addr):Option (List Str):=(K.lookup t).bind λo=>match o.data with
 |.seq its _=>if o.cls= .type "tuple"/\its.size<=aM then aoA its.toList else none
 |_=>none
theorem auO{K:ah}{t:Addr}{ns:List Str}(h:Up K t=some ns)(H:Hp):cE K H t (ns.map V.str):=by
 obtain⟨o,ho,h⟩:=ak.mp h
 split at h
 ·next its n e=>
  by_cases c:o.cls= .type "tuple"/\its.size<=aM
  ·rw[if_pos c]at h;exact .inr ⟨o,its,n,ho,c.1,e,c.2,ar6 h⟩
  ·rw[if_neg c]at h;cases h
 ·cases h
end L2
namespace VL
open PySem PySem.Spec PyProof.Rows L2
section
variable {K:ah}{n:Nat}{H:Hp}{v:V}{d e:D}
def qI(K:ah):D->Option (List D)
 |.nd .tup cs=>some cs
 |.sc (.ref t)=>(Up K t).map λl=>(l.map V.str).map .sc
 |_=>none
theorem ar7{cs:List D}(w:Vw K H T1 v d)(h:qI K d=some cs):∃a vs,v= .ref a/\cv K H T1 vs cs/\∀H',aJ H H'->jz true K H' a vs:=by
 unfold qI at h
 split at h
 ·next fU=>
  cases h;obtain⟨a,vs,rfl,na,hc,hl,bB⟩:=w.node;have ht:H a=some (.tup vs):=hc.2;exact⟨a,vs,rfl,⟨hl,bB⟩,λH' s=>cE.of (s _ _ ht)⟩
 ·next t=>
  obtain⟨l,h1,rfl⟩:=aY.mp h;cases w.bA;exact⟨t,_,rfl,⟨by simp,λi v d hv hd=>by rw[bJ,hv]at hd;cases hd;exact .sc _⟩,λH' _=>auO h1 H'⟩
 ·cases h
def apC(K:ah):List V->Hp->VK->Prop:=vT K
theorem auP:fT X (.builtin "len") (apC X.K):=Il
def ar8(K:ah):List D->Option D
 | [d]=>(qI K d).map λcs=> .sc (.int cs.length)
 |_=>none
instance ayK:l4 K (apC K) (ar8 K):=⟨λ{H vs ds d Q} w h k=>by
 unfold ar8 at h
 split at h
 ·next x=>
  obtain⟨cs,h1,rfl⟩:=aY.mp h;obtain⟨v,rfl,w1⟩:=w.one;obtain⟨a,us,rfl,vl,q⟩:=ar7 w1 h1;rw[<- vl.1]at k;exact .inl ⟨a,us,rfl, .inr (q H (aJ.refl H)),k _ H (aJ.refl H) (.sc _)⟩
 ·cases h⟩
theorem auQ(w1:Vw K H T1 v d)(w2:Vw K H T1 u e)(h1:qI K d=some cs)(h2:uk e=some es):∃a b xs ys,v= .ref a/\u= .ref b/\jz true K H a xs/\jz false K H b ys/\tY K (Itm K a b) H (j8 cs es):=by
 obtain⟨a,xs,rfl,v1,q1⟩:=ar7 w1 h1;obtain⟨b,ys,rfl,q2,v2,o⟩:=RD w2 h2;refine⟨a,b,xs,ys,rfl,rfl,q1 H (aJ.refl H),q2,λH' s=> ?_⟩;have auR:jz false K H' b ys:=by
  rcases o with⟨z,_⟩ | z
  ·exact cI.of (s _ _ z)
  ·exact(z.gO (gu.of s)).sq
 exact auK (q1 H' s) auR (v7 v1 s) (v7 v2 s)
def ar9(K:ah)(ta:TA):TI:=ar0 K ta
def asa(K:ah):List D->Option (List D)
 | [d,e]=>(qI K d).bind λcs=>(uk e).map λes=>j8 cs es
 |_=>none
instance ayL[A:SA K n ta fa]:SI K n (ar9 K ta) (λZ=>(fa Z).bind (asa K)):=⟨λ{σ hv H U Z τv τd ds R} I h k=>by
 obtain⟨l,h1,h2⟩:=ak.mp h
 match l,h1,h2 with
 | [d,e],h1,h2=>
  obtain⟨cs,g1,h2⟩:=ak.mp h2;obtain⟨es,g2,rfl⟩:=aY.mp h2;refine A.s I h1 λvs H1 s1 w=> ?_;obtain⟨v,u,rfl,w1,w2⟩:=w.two;obtain⟨a,b,xs,ys,rfl,rfl,q1,q2,wk⟩:=auQ w1 w2 g1 g2;exact⟨a,b,xs,ys,rfl,q1,q2,k _ H1 s1 wk⟩
 | [],h1,h2=>cases h2
 | [_],h1,h2=>cases h2
 |_::_::_::_,h1,h2=>cases h2⟩
end
end VL
namespace L2
open PySem PySem.Spec PyProof.Rows PySem.W
def apD:List V->Hp->VK->Prop:=λxs H Q=>∃x n,xs= [.str x]/\arB x=some n/\x.length<=640/\Q (.int n) H
theorem auS:fT X (.type "int") apD:=by
 intro ab s σ H xs us Q I r h;obtain⟨x,n,rfl,e,hl,q⟩:=h;obtain⟨u,rfl,t,rfl⟩:=vals1 r;exact KIN.call_text e hl ⟨.int n,H,I.tok _,⟨_,rfl⟩,q⟩
end L2
namespace VL
open PySem PySem.Spec PyProof.Rows L2
section
variable {X:Cx}{K:ah}
theorem auT{elts:List Expr}{x1:Nat}{Ah:Pos}{p pos:Pos}(hg:Gl X "zip")(hm:X.mg "zip"=none)(ha:PA X [a,b] ta)(hs:dz [a,b] X.env=(false,eval a X.env)::dz [b] X.env:=by rfl)(dM:(backTo pos (dz [b] X.env)).any (·.1)=false:=by rfl)(hK:X.K=K:=by rfl):
  PI X (.Tuple elts x1 Ah) (.Call (.Name "zip" p) [a,b] [] pos) (ar9 K ta):=hK▸auJ hg hm ha hs dM
end
section
variable {K:ah}
noncomputable def apE:List D->Option D
 | [.sc (.str x)]=>(arB x).bind λn=>if x.length<=640 then some (.sc (.int n)) else none
 |_=>none
instance ayM:l4 K apD apE:=⟨λ{H vs ds d Q} w h k=>by
 unfold apE at h
 split at h
 ·next x=>
  obtain⟨m,h1,h⟩:=ak.mp h;by_cases c:x.length<=640
  ·rw[if_pos c]at h;cases h;obtain⟨v,rfl,w1⟩:=w.one;rw[w1.bA];exact⟨x,m,rfl,h1,c,k _ H (aJ.refl H) (.sc _)⟩
  ·rw[if_neg c]at h;cases h
 ·cases h⟩
variable {X:Cx}{o a:Expr}{ta tb:TE}{p pos:Pos}
theorem aoB(ho:PE X o ta)(ha:PE X a tb)(hK:X.K=K:=by rfl)(hb:ahf o "split" X.env (eval o X.env)=eval o X.env:=by rfl)
  (hf:((backTo pos (dz [a] X.env)).all (λx=> !x.1) && (B7 pos (B8 [] X.env)).all (λx=>x.1.isSome)
   && decide ([a].length + ([]:List Keyword).length + (if([]:List Keyword).isEmpty then 0 else 1) < 30))=true:=by rfl) (hl:(p.endLine == pos.line)=true:=by rfl) (hs:dz [a] X.env=(false,eval a X.env)::dz [] X.env:=by rfl):PE X (.Call (.Attribute o "split" p) [a] [] pos) (vy K "str" alK ta (di tb fz)):=hK▸GK at7 PySem.F.slot_str_split PySem.F.type_str_split auM ho (fJ ha gk (hs:=hs)) hb hf hl hs
theorem asb(ho:PE X o ta)(ha:PE X a tb)(hK:X.K=K:=by rfl)(hb:ahf o "startswith" X.env (eval o X.env)=eval o X.env:=by rfl)
  (hf:((backTo pos (dz [a] X.env)).all (λx=> !x.1) && (B7 pos (B8 [] X.env)).all (λx=>x.1.isSome)
   && decide ([a].length + ([]:List Keyword).length + (if([]:List Keyword).isEmpty then 0 else 1) < 30))=true:=by rfl) (hl:(p.endLine == pos.line)=true:=by rfl) (hs:dz [a] X.env=(false,eval a X.env)::dz [] X.env:=by rfl):PE X (.Call (.Attribute o "startswith" p) [a] [] pos) (vy K "str" apz ta (di tb fz)):=hK▸GK at7 PySem.F.slot_str_startswith PySem.F.type_str_startswith auN ho (fJ ha gk (hs:=hs)) hb hf hl hs
end
section
variable {K:ah}{n:Nat}
def aoC(a:Str)(d:D):Option D:=(akV d).bind λcs=>(wN cs).bind λys=>if(ys.map (·.length)).sum + ys.length * a.length<=16777216 then some (.sc (.str (FP a ys))) else none
theorem auU(w:Vw K H T1 v x)(h:aoC a x=some d)(k:∀u,cA K H H u d->Q u H):FG K (.str a) [v] H Q:=by
 obtain⟨cs,h0,h⟩:=ak.mp h;obtain⟨ys,h1,h⟩:=ak.mp h;by_cases c:(ys.map (·.length)).sum + ys.length * a.length<=16777216
 ·rw[if_pos c]at h;cases h;obtain⟨p,us,rfl,hc,vl⟩:=apv w h0;have e:=Sf vl h1;subst e;exact⟨a,p,ys,rfl,rfl,hc,c,k _ (cA.sc _)⟩
 ·rw[if_neg c]at h;cases h
def asd(fs fe:En->Option D)(Z:En):Option D:=(fs Z).bind λs=>match s with
 |.sc (.str a)=>(fe Z).bind (aoC a)
 |_=>none
instance (priority:=490) ayN{ts te:TE}{fs fe:En->Option D}[S:SV K n ts fs][A:SV K n te fe]:SF K n (vy K "str" (FG K) ts (di te fz)) (asd fs fe):=⟨λ{σ hv H U Z τv τd d Q} I h k=>by
 obtain⟨s,h0,h⟩:=ak.mp h
 split at h
 ·next a=>
  obtain⟨x,h1,h2⟩:=ak.mp h;refine S.s I h0 λv0 H0 s0 w0=> ?_;cases w0.bA;refine⟨rfl,A.s (I.same s0) h1 λv H1 s1 w=> ?_⟩;exact auU w h2 λu o=>k u H1 (s0.trans s1) (o.early (s0.trans s1))
 ·cases h⟩
variable {m:Nat}{H H' H1 H2:Hp}{U U':Addr->Prop}{σ aF hv:List (Option V)}{Z ρ':En}{τv vs:List V}{τd ds:List D}{d:D}
def ase(n:Nat)(js:List (Option Nat))(fi:En->Option (List D))(fg:D->En->Option En)(fe:En->Option (D×En))(Z:En):Option (D×En):=(fi Z).bind λds=>
 if ds.length<=aM then(pU fg fe ds (rX n js Z++uq js.length Z)).map λr=>(.nd .lst r.1,yr js.length r.2) else none
instance (priority:=30) ayO{wi:TI}{g:TG}{te:TE}{js:List (Option Nat)}{is:List Nat}{m:Nat}{fi:En->Option (List D)}{fg:D->En->Option En}{fe:En->Option (D×En)}[hm:vW js m]
  [A:A2 K n wi fi] [G:SG K m g fg is] [E':SM K m te fe]:SM K n (xH wi g Dm te js) (ase n js fi fg fe):=⟨λ{σ hv H U Z ρ' τv τd d Q} I h k=>by
 have hm:=hm.h;subst hm;obtain⟨ds,h1,h⟩:=ak.mp h;by_cases cz:ds.length<=aM
 ·rw[if_pos cz]at h;obtain⟨⟨es,ace⟩,h3,h⟩:=aY.mp h;cases h;refine A.s I h1 λJ P H1 s1 wk p0=> ?_;have AS:=I.same s1;have bQ:bH U H U H1:=λb o q nu=>⟨s1 b o q,nu⟩
  have nn:=I.nn;refine⟨λi m' aF ys H'=>m'=ds.length - i/\i<=ds.length/\∃U' ρ1 ea eb,P H' U'/\av K js.length H' U' aF (σ++hv) ρ1 (τv++ys) (τd++ea)/\ys.length=ea.length/\ys.length=i/\bH U H U' H'/\pU fg fe (ds.drop i) ρ1=some (eb,ace)/\es=ea++eb,⟨ds.length,by simp,jO _,U,_, [],es,p0,by rw[bR,bR];exact AS.enter,rfl,rfl,bQ,h3,rfl⟩, ?_⟩;rintro i m' aF ys H' ⟨rfl,hi,U',ρ1,ea,eb,pH,Ix,ly,li,st,fo,ee⟩;by_cases dS:i < ds.length
  ·right;have hd:ds[i]?=some ds[i]:=dH dS;obtain⟨go,yl⟩:=wk.item (H:=H') (U:=U') pH hd;rw[Cr dS,pU]at fo;obtain⟨ag,b1,fo⟩:=ak.mp fo;obtain⟨⟨dy,Jt⟩,b2,fo⟩:=ak.mp fo;obtain⟨⟨er,acf⟩,b3,fo⟩:=aY.mp fo;obtain⟨f1,f2⟩:=ayb fo;have f2:acf=ace:=f2;subst f2;have f1:dy::er=eb:=f1;subst f1;refine⟨go,λeY zs H2=>∃U2 ag Be Eu,P H2 U2/\av K js.length H2 U2 eY (σ++hv) ag (τv++zs) (τd++Be)/\zs.length=Be.length/\zs.length=i + 1/\bH U H U2 H2/\pU fg fe (ds.drop (i + 1)) ag=some (Eu,acf)/\es=Be++Eu,λeY zs H2 ⟨U2,ag,Be,Eu,a0,a1,a2,a3,a4,a5,a6⟩=>⟨by lia,_,by lia,rfl,dS,U2,ag,Be,Eu,a0,a1,a2,a3,a4,a5,a6⟩,λx H2 y2=> ?_⟩;obtain⟨e,w2⟩:=yl x H2 y2;subst e;refine G.s Ix w2 b1 λeY I2=> ?_;show te eY H2 _;refine E'.s I2 b2 λy H5 U5 I5 s5=> ?_;exact⟨U5,Jt,ea++ [dy],er,wk.step pH s5 I2.ok.mu,by rw[b8,b8]at I5;exact I5,by rw[bo,bo,ly];rfl,by rw[bo,li];rfl,st.trans s5,b3,by rw[ee];simp⟩
  ·left;have e:i=ds.length:=by lia
   subst e;rw[FR,pU]at fo;cases fo;rw[bR]at ee;subst ee;refine⟨wk.stop (H:=H') (U:=U') pH,λD hD=> ?_⟩;have I3:=Ix.leave nn;obtain⟨U4,I4,s4⟩:=I3.gather (k:= .lst) (o:= .lst ys) ly hD (.inr ⟨rfl,trivial,0,rfl⟩);exact k _ _ U4 I4 (st.trans s4)
 ·rw[if_neg cz]at h;cases h⟩
end
section
variable {K:ah}{n:Nat}
def auV(b:Str)(fe:En->Option (D×En))(Z:En):Option (D×En):=(fe Z).bind λr=>(wG b r.1).map λd=>(d,r.2)
instance (priority:=60) ayP{b:Str}{te:TE}{fe:En->Option (D×En)}[A:SM K n te fe]:SM K n (vy K "str" alK te (di (tC (.str b)) fz)) (auV b fe):=⟨λ{σ hv H U Z ρ' τv τd d Q} I h k=>by
 obtain⟨⟨x,ρ1⟩,h1,h⟩:=ak.mp h;obtain⟨d',h2,h⟩:=aY.mp h;cases h;refine A.s I h1 λv H1 U1 I1 bQ=> ?_;refine ar3 (H:=H) I1.last h2 λp H2 s2 o=> ?_;obtain⟨U2,I2,dJ⟩:=I1.qw.push s2 o;exact k _ H2 U2 I2 (bQ.trans dJ)⟩
end
def aoD(K:ah):List V->Hp->VK->Prop:=λxs H Q=>aps K xs H Q\/∃(a tp:Addr) (vs:List V) (ts:List String) (b:Bool),xs= [.ref a, .ref tp]/\jA K H a vs/\H tp=some (.tup (ts.map V.ty))/\ary K (.type "list") (ts.map w9)=some b/\Q (.bl b) H
theorem auW:fT X (.builtin "isinstance") (aoD X.K):=by
 intro ab s σ H xs us Q I r h;rcases h with h | ⟨a,tp,vs,ts,b,rfl,fr,ht,e,q⟩
 ·exact aaR ab s σ H xs us Q I r h
 ·rcases fr with⟨o,ea⟩ | ⟨o,its,n,e1,e2,_⟩
  ·exact aaR ab s σ H _ us Q I r ⟨_,_,tp,ts,b,rfl, .b9 ea,ht,e,q⟩
  ·obtain⟨u,w',rfl,ru,rt⟩:=vals2 r;cases rt;cases(show u=c7 a from ru);obtain⟨_,mh,rv,o2,ho,hc,n2,hd⟩:=I.aQ tp _ ht;have hits:=QX rv;subst hits;obtain⟨oc,od,akh,mO⟩:=o2;cases hc;cases hd;exact qU ND I.fN ⟨o,I.fN a o e1,e2⟩ ho e (λz=>nomatch z) λtk=>⟨.bl b,H,I.tok tk,rfl,q⟩
section
variable {K:ah}
def UN:List D->Option D
 | [.nd .e8 _, .nd .tup cs]=>(m6 cs).bind λts=>if ts.all (lS.contains ·)=true then some (.sc (.bl (ts.any (m4 "list")))) else none
 |ds=>oN ds
instance ayQ:l4 K (aoD K) UN:=⟨λ{H vs ds d Q} w h k=>by
 unfold UN at h
 split at h
 ·next arQ cs=>
  obtain⟨ts,h0,h⟩:=ak.mp h;by_cases c:ts.all (lS.contains ·)=true
  ·rw[if_pos c]at h;cases h;obtain⟨v,u,rfl,w1,w2⟩:=w.two;obtain⟨a,vs,rfl,_,hc,_⟩:=w1.node;obtain⟨b,us,rfl,_,jV,hl,bB⟩:=w2.node;have e:=QY hl bB h0;refine .inr ⟨a,b,vs,ts,_,rfl,hc.2,by rw[<- e];exact jV.2,QV K (by decide:"list"∈D0) λt ht=> ?_,k _ H (aJ.refl H) (.sc _)⟩;have:=gA.mp c t ht;simpa using this
  ·rw[if_neg c]at h;cases h
 ·exact .inl (aki.s w h k)⟩
variable {X:Cx}{a b e o:Expr}{ta tb te tv:TE}{p pos pos':Pos}{x f:Str}
theorem apF{P:Program}{w:World}{mg:Str->Option Value}{base:Heap}{x q:Str}{st:Stmt}{f:Addr}{fd:kK}{N ps:List Str}{k n:Nat}{mk:List Bool}{t:TS}{g:En->Option Fl}(F:cY K x q st f fd)(S:dr N ps (cb st))(h:∀dB A outer s H E,gf k (A.deeper (envOfC q (cb st) s.heap.objs.size f dB))->Sn (rj cG P w K mg base N q (cb st) f dB A outer s H E).ve (mS st) t)[I:SS K n t g](hn:N.length=n:=by rfl)(hm:ps.length=mk.length:=by rfl)(hl:mk.length<=n:=by decide):bZ P w K mg base cG (k + 1) f fd ps (dW K mk (dG n mk g)):=tE F S (λa b c d e f g=>(h a b c d e f g).h) hn hm hl
theorem anD(ha:PE X a ta)(hb:Sl X b tb)(hK:X.K=K:=by rfl):Sl X (.BinOp a .Add b pos) (ig (AZ K) ta tb):=⟨cF (fF hK) ha hb.h⟩
theorem apG(ha:Sl X e te)(hr:EB X es t)(h:Nj e=false:=by rfl):EB X (e::es) (di te t):=⟨cU ha.h hr.h h⟩
theorem wV(i:Nat)(hN:X.N.Nodup)(he:Sl X e te)(hr:Sn X r u)(hi:X.N[i]?=some x:=by rfl)(hx:Loc X.env.scope x:=by first | exact .inl rfl | exact .inr rfl)(hs:wQ e (some (.Name x pos')) pos.line X.env=pure false:=by rfl)(hf:X.fn x=true\/X.env.scope.names.lookup x=some .local:=by first | exact .inl rfl | exact .inr rfl):Sn X (.Assign [.Name x pos'] e pos::r) (sX (vh te (lB i)) u):=acF i hN he hr.h hi hx hs hf
theorem anY{st:Stmt}{t:TS}(h1:PS X st t)(h2:Sn X r u):Sn X (st::r) (sX t u):=⟨aL h1 h2.h⟩
theorem auX(ha:PE X a ta)(hb:PE X b tb):Sl X (.BinOp a .Mult b pos) (ig RZ ta tb):=⟨cF Ep ha hb⟩
theorem asf(hr:gf k X.A)(ha:Sl X a ta)(hb:PE X b tb)(hs:CZ b:=by exact λ_ _=>rfl)(hK:X.K=K:=by rfl):Sl X (.Subscript a b pos) (ig (DW K) ta tb):=⟨pxx hr ha.h hb hs hK⟩
theorem auY(h:Sl X a ta):Sn X [.Return (some a) pos] (qi ta):=⟨bu h.h⟩
theorem ash{a b:List Stmt}{t u:TS}(hc:PT X c tc)(ha:Sn X a t)(hb:jc X b u):PS X (.If c a b pos) (xu tc t u):=bS hc ha.h hb
theorem aoE(h:jc X r u):Sn X r u:=⟨h⟩
end
def asi(t:TE):TE:=t
theorem auZ(h:PE X e t):PE X e (asi t):=h
theorem asj(h:Sl X e t):Sl X e (apt t):=⟨A0 h.h⟩
section
variable {K:ah}{n:Nat}{E:XK}
def apH(G:List D->Option (D×List D))(fe:En->Option D)(fr:En->Option (List Ar))(Z:En):Option (D×En):=(fe Z).bind λd=>(fr (Z++ [some (.own d)])).bind λas=>(fL G (.io ⟨Z.length, []⟩::as) (Z++ [some (.own d)])).bind λa=>if a.2.length=Z.length + 1 then some (a.1,qE 0 Z.length a.2) else none
instance (priority:=45) ayR{G:List D->Option (D×List D)}{m:List Bool}{te:TE}{tr:TA}{fe:En->Option D}{fr:En->Option (List Ar)}[L0:jC 0 n][A:SQ K n te fe][R:tW K n m tr fr]:SM K n (og (dW K (true::m) G) [] E (di (asi te) tr)) (apH G fe fr):=⟨λ{σ hv H U Z ρ' τv τd d Q} I h k=>by
 obtain⟨d2,h2,h⟩:=ak.mp h;obtain⟨as,h4,h⟩:=ak.mp h;obtain⟨⟨d3,Jt⟩,h3,h⟩:=ak.mp h;have h:(if Jt.length=Z.length + 1 then some (d3,qE 0 Z.length Jt) else none)=some (d,ρ'):=h;by_cases cl:Jt.length=Z.length + 1
 ·rw[if_pos cl]at h;cases h;show te σ H λv2 H2=>tr σ H2 λvs H3=>dW K (true::m) G (v2::vs++ []) H3 Q E;refine SQ.s (f:=fe) I h2 λv2 H2 U2 I2 dJ s2=> ?_;have I3:=I2.hide;have l:=I.len;have nn:=I.nn;have hM:(σ++hv).length=Z.length:=by rw[bo];exact l
  have p2:iH K H2 U2 (σ++(hv++ [some v2])) (Z++ [some (.own d2)]) v2 (.rt Z.length []):=⟨by rw[bo,pw];lia,v2,d2,by rw[<- b8,br (by lia),hM,kj];rfl,by unfold aV;rw[br (bO _),kj];rfl,by cases d2 <;> rfl, .nil _⟩
  refine R.s I3 h4 λvs ws wd H4 U4 I4 hl nz s4 ao=> ?_;rw[bR];exact av.Ia I4 hl (dJ.trans nz) (.io (p2.step s4 nz) ao) h3 λv H' U' I' e5=>k v H' U' (I'.cls cl (by have:=L0.h;lia)) e5
 ·rw[if_neg cl]at h;cases h⟩
def asl(t:TE):TE:=t
theorem au0(h:PE X e t):PE X e (asl t):=h
instance ayS[A:SM K n (f9 i) (kr i)]:SM K n (asl (f9 i)) (kr i):=A
end
end VL
set_option synthInstance.maxHeartbeats 1000000
set_option synthInstance.maxSize 4000
namespace K57
open PySem L2 VL
theorem hg:∀(M:D),aI M []=some M:=λM=>by cases M <;> rfl
theorem alF:∀(M e:D),aZ M [] e=e:=λM e=>by cases M <;> rfl
abbrev dm(K:ah)(C:Addr):=En->Option Fl
noncomputable def top (i:Nat):Stmt:=PySem.Challenge.pw_farshelf_k57_sheets_read.main.body.getD i (.Pass ⟨0,0,0,0⟩)
abbrev JI:Stmt:=top 37
abbrev JP:Stmt:=top 39
abbrev apI:Stmt:=top 46
abbrev JM:Stmt:=top 35
abbrev JN:Stmt:=top 36
abbrev JL:Stmt:=top 34
abbrev apJ:Stmt:=top 38
abbrev JR:Stmt:=top 41
abbrev apK:Stmt:=top 40
abbrev apL:Stmt:=top 42
abbrev apM:Stmt:=top 43
abbrev apN:Stmt:=top 44
abbrev apO:Stmt:=top 45
abbrev apP:Stmt:=top 47
abbrev apQ:Stmt:=top 48
abbrev apR:Stmt:=top 30
abbrev JW:Stmt:=top 8
abbrev apS:Stmt:=top 19
abbrev JY:Stmt:=top 10
abbrev apT:Stmt:=top 20
abbrev JX:Stmt:=top 9
abbrev apU:Stmt:=top 21
abbrev apV:Stmt:=top 22
abbrev apW:Stmt:=top 23
abbrev apX:Stmt:=top 24
abbrev apY:Stmt:=top 25
abbrev apZ:Stmt:=top 26
abbrev ap0:Stmt:=top 27
abbrev ap1:Stmt:=top 28
abbrev ap2:Stmt:=top 29
abbrev ap3:Stmt:=top 31
abbrev ap4:Stmt:=top 33
abbrev yz:Stmt:=top 49
structure bM(K:ah)(w:World)(mg:Str->Option Value):Prop where
 mm:mg "len"=none
 Bj:mg "range"=none
 rY:mg "list"=none
 Kv:mg "tuple"=none
 yA:mg "int"=none
 acP:mg "max"=none
 acQ:mg "min"=none
 pV:mg "all"=none
 acR:mg "any"=none
 rZ:mg "isinstance"=none
 Kw:mg "str"=none
 acS:mg "bool"=none
 alG:mg "dict"=none
 we:mg "sorted"=none
 Sw:mg "abs"=none
 alH:mg "enumerate"=none
 acT:mg "zip"=none
 acV:∃u,mg "LONGEST_NAME"=some u/\RelV (.int 8) u
 acW:∃u,mg "LONGEST_CONTENT"=some u/\RelV (.int 200) u
 au1:∃u,mg "MOST_FIGURES"=some u/\RelV (.int 12) u
 au2:∃u,mg "MOST_MASTERS"=some u/\RelV (.int 7) u
 au3:∃u,mg "MOST_HANDS"=some u/\RelV (.int 10) u
 acX:∃u,mg "NAME_SIGNS"=some u/\RelV (.str "abcdefghijklmnopqrstuvwxyz0123456789") u
 acY:∃u,mg "CONTENT_SIGNS"=some u/\RelV (.str "abcdefghijklmnopqrstuvwxyz0123456789.") u
 au4:∃u,mg "FIGURES"=some u/\RelV (.str "0123456789") u
 au5:∃u,mg "ROWS"=some u/\RelV (.ref (kA K "ROWS")) u
 au6:yt K w (kA K "ROWS")
 au7:∃u,mg "REQUESTS"=some u/\RelV (.ref (kA K "REQUESTS")) u
 au8:yt K w (kA K "REQUESTS")
 au9:∃u,mg "DEEDS"=some u/\RelV (.ref (kA K "DEEDS")) u
 ava:yt K w (kA K "DEEDS")
theorem Sx:dr ["_law_left_here","_law_many","_law_digit"] ["_law_left_here","_law_many"] (cb JI):=d8
theorem EE:dr ["_law_left_here"] ["_law_left_here"] (cb JP):=d8
theorem aoF:dr ["_law_left_here","_law_a","_law_d","_law_numbers"] ["_law_left_here"] (cb apI):=d8
theorem Sy:dr ["_law_cell","_law_k","_law_once"] ["_law_cell","_law_k"] (cb JM):=d8
theorem aoG:dr ["_law_cell","_law_k","_law_number_here","_law_part_here"] ["_law_cell","_law_k"] (cb JN):=d8
theorem ac9:dr ["_law_script","_law_k"] ["_law_script","_law_k"] (cb JL):=d8
theorem Bn:dr ["_law_left_here","_law_most","_law_word_here","_law_signs","_law_first","_law_stride"] ["_law_left_here","_law_most"] (cb apJ):=d8
theorem Ky:dr ["_law_left_here","_law_word_here","_law_at"] ["_law_left_here"] (cb JR):=d8
theorem avb:dr ["_law_left_here"] ["_law_left_here"] (cb apK):=d8
theorem anZ:dr ["_law_left_here","_law_kind","_law_word_here","_law_number_here"] ["_law_left_here","_law_kind"] (cb apL):=d8
theorem aoH:dr ["_law_left_here","_law_kinds","_law_parts","_law_words","_law_things"] ["_law_left_here","_law_kinds"] (cb apM):=d8
theorem aoI:dr ["_law_left_here","_law_some"] ["_law_left_here"] (cb apN):=d8
theorem kT:dr ["_law_left_here","_law_some","_law_way","_law_words","_law_things","_law_more","_law_request_here","_law_deeds","_law_deed","_law_numbers"] ["_law_left_here"] (cb apO):=d8
theorem w5:dr ["_law_script","_law_most","_law_found","_law_many","_law_k","_law_cell","_law_left_here"] ["_law_script","_law_most"] (cb apP):=d8
theorem rk:dr ["_law_left_here","_law_drawn_here","_law_lines","_law_places","_law_loose","_law_words","_law_row","_law_between","_law_ends"] ["_law_left_here","_law_drawn_here"] (cb apQ):=d8
theorem avc:dr ["line"] ["line"] (cb apR):=d8
theorem adg:dr ["text","signs"] ["text","signs"] (cb JW):=d8
theorem avd:dr ["word"] ["word"] (cb apS):=d8
theorem adi:dr ["text"] ["text"] (cb JY):=d8
theorem ave:dr ["word"] ["word"] (cb apT):=d8
theorem adh:dr ["text"] ["text"] (cb JX):=d8
theorem avf:dr ["kind","word"] ["kind","word"] (cb apU):=d8
theorem asm:dr ["kinds","words","parts"] ["kinds","words"] (cb apV):=d8
theorem asn:dr ["forms","words","parts"] ["forms","words"] (cb apW):=d8
theorem aso:dr ["words","request"] ["words"] (cb apX):=d8
theorem ap5:dr ["words","numbers","request"] ["words"] (cb apY):=d8
theorem ap6:dr ["words","numbers","deed"] ["words"] (cb apZ):=d8
theorem asp:dr ["words","numbers"] ["words"] (cb ap0):=d8
theorem ap7:dr ["row","masters","hands"] ["row"] (cb ap1):=d8
theorem asq:dr ["words","row"] ["words"] (cb ap2):=d8
theorem UT:dr ["text","rows","number","line","words","row"] ["text"] (cb ap3):=d8
theorem avg:dr ["_law_found","_law_due"] ["_law_found","_law_due"] (cb ap4):=d8
section
variable (P:Program)(w:World)(K:ah)(mg:Str->Option Value)(base:Heap)(C_NoRow:Addr)
abbrev asr(K:ah)(C_NoRow:Addr)(Gs:List D->Option D):TS:=(sX (xu (tB (jU (aoD K) (di (f9 1) (di (Ai (di (tC (.ty "list")) (di (tC (.ty "tuple")) fz))) fz))))
   (sX (xu (F4 (vk (ig (aiZ K) (jU (gi K "list") (di (f9 0) (di (tC (.ty "list")) fz))) (jU (gi K "list") (di (f9 1) (di (tC (.ty "list")) fz))))) (vk (ig (aiZ K) (jU (gi K "tuple") (di (f9 0) (di (tC (.ty "tuple")) fz))) (jU (gi K "tuple") (di (f9 1) (di (tC (.ty "tuple")) fz))))))
   (qi (tC (.bl false))) xt)
  (qi (xr (ig (ye K) (jU (vT K) (di (f9 0) fz)) (jU (vT K) (di (f9 1) fz))) (jU (mw K) (di (xH (Hy K (di (f9 0) (di (f9 1) fz))) (CH K 2 (vg (lB 0) (vg (lB 1) zH))) Dm (og (cL K 2 Gs) [] E0 (di (f9 0) (di (f9 1) fz))) [none,none]) fz))))) xt)
  (sX (xu (tB (jU (gi K "str") (di (f9 1) (di (tC (.ty "str")) fz))))
   (qi (xr (jU (gi K "str") (di (f9 0) (di (tC (.ty "str")) fz))) (ig (ye K) (f9 0) (f9 1)))) xt)
  (qi (xr (jU (gi K "int") (di (f9 0) (di (tC (.ty "int")) fz))) (xr (F8 (jU (gi K "bool") (di (f9 0) (di (tC (.ty "bool")) fz)))) (ig (ye K) (f9 0) (f9 1)))))))
def an0(K:ah)(C_NoRow:Addr)(Gs:List D->Option D): {f:En->Option Fl // SS K 2 (asr K C_NoRow Gs) f}:=⟨_,inferInstance⟩
noncomputable def Cm (K:ah) (C_NoRow:Addr) (Gs:List D->Option D):En->Option Fl:=(an0 K C_NoRow Gs).1
def nE(K:ah)(C_NoRow:Addr):Nat->List D->Option D
 |0=>λ_=>none
 |m + 1=>bV 2 (Cm K C_NoRow (nE K C_NoRow m))
def ap8(K:ah)(C_NoRow:Addr):List D->Option D:=nE K C_NoRow 6
abbrev avh:Prop:=dt P w K mg base "_law_alike" ["_law_found","_law_due"] 7 (cL K 2 (ap8 K C_NoRow))
variable {P w K mg base C_NoRow} in
theorem ass{f:Addr}{fd:kK}(F:cY K "_law_alike" "_law_alike" ap4 f fd)(T:bM K w mg)(hb:L2.Binds K fd ["_law_found","_law_due"] [])(hm:mg "_law_alike"=some (.ref f)):∀m:Nat,bZ P w K mg base cG (1 + m) f fd ["_law_found","_law_due"] (cL K 2 (nE K C_NoRow m))
 |0=>abe
 |j + 1=>by
  have UY:=dt.of F hb hm (ass F T hb hm j);refine F.ok avg (λvs H Q E h=>Q7 h) (λdB A outer s H vs Q E hr h=> ?_);exact⟨asr K C_NoRow (nE K C_NoRow j),(aL (bS (l9 (fK (r:=aoD K) auW rfl T.rZ uY (fJ (pv 1) (fJ (ez (fJ (qf (v:= .ty "list") rfl T.rY uX rfl) (fJ (qf (v:= .ty "tuple") rfl T.Kv Wf rfl) gk))) gk))))
   (aL (bS (PW.pt (F7 (iM (Ig hr.units) (fK (r:=gi K "list") wy rfl T.rZ uY (fJ (pv 0) (fJ (qf (v:= .ty "list") rfl T.rY uX rfl) gk))) (fK (r:=gi K "list") wy rfl T.rZ uY (fJ (pv 1) (fJ (qf (v:= .ty "list") rfl T.rY uX rfl) gk))) (rg _)) (F6 (iM (Ig hr.units) (fK (r:=gi K "tuple") wy rfl T.rZ uY (fJ (pv 0) (fJ (qf (v:= .ty "tuple") rfl T.Kv Wf rfl) gk))) (fK (r:=gi K "tuple") wy rfl T.rZ uY (fJ (pv 1) (fJ (qf (v:= .ty "tuple") rfl T.Kv Wf rfl) gk))) (rg _)))))
   (dY (vf zD)) cQ)
  (dY (vf (ra (jd (DS hr.units) (fK (r:=(vT K)) Il rfl T.mm Wc (fJ (pv 0) gk)) (fK (r:=(vT K)) Il rfl T.mm Wc (fJ (pv 1) gk)) (rg _)) (qg (fK (r:=(mw K)) (arS rfl) rfl T.pV qV (fJ (jw [none,none] ["_law_one","_law_other"] rfl (jI trivial) (ZZ rfl T.acT (fJ (pv 0) (fJ (pv 1) gk))) (λ_ _ _ _ _ _=>(DT (K:=K) rfl (n:=2) rfl (sY (Gb (i:=0) (by decide +kernel:(["_law_one","_law_other"]:List Str).Nodup) rfl (vp rfl)) (sY (Gb (i:=1) (by decide +kernel:(["_law_one","_law_other"]:List Str).Nodup) rfl (vp rfl)) CG)))) (λ_ _ _ _ _ _=>ko) (λ_ _ _ _ _ _=>(bC UY hr rfl (fJ (pv 0) (fJ (pv 1) gk)) (bO _)))) gk))))))) cQ)
  (aL (bS (l9 (fK (r:=gi K "str") wy rfl T.rZ uY (fJ (pv 1) (fJ (qf (v:= .ty "str") rfl T.Kw We rfl) gk))))
   (dY (vf (ra (fK (r:=gi K "str") wy rfl T.rZ uY (fJ (pv 0) (fJ (qf (v:= .ty "str") rfl T.Kw We rfl) gk))) (qg (jd (DS hr.units) (pv 0) (pv 1) (rg _)))))) cQ)
  (dY (vf (ra (fK (r:=gi K "int") wy rfl T.rZ uY (fJ (pv 0) (fJ (qf (v:= .ty "int") rfl T.yA Cu rfl) gk))) (ra (WG (fK (r:=gi K "bool") wy rfl T.rZ uY (fJ (pv 0) (fJ (qf (v:= .ty "bool") rfl T.acS PyProof.Rows.boot_bool rfl) gk)))) (qg (jd (DS hr.units) (pv 0) (pv 1) (rg _))))))))),Qx (S:=(an0 K C_NoRow (nE K C_NoRow j)).2) h (by decide)⟩
end
section
variable (P:Program)(w:World)(K:ah)(mg:Str->Option Value)(base:Heap)(C_NoRow:Addr)
def EH: {g:dm K C_NoRow // ∀{P w mg base f fd},cY K "_law_cell_at" "_law_cell_at" JL f fd->bM K w mg->bZ P w K mg base cG 1 f fd ["_law_script","_law_k"] (cL K 2 (bV 2 g))}:=⟨_,λF T=>iy (t:=(sX (xu (vk (ig (qj λi j=> .bl (decide (i < j))) (f9 1) (jU (vT K) (di (f9 0) fz))))
   (qi (ig (DW K) (f9 0) (f9 1))) xt)
  (qi (tC (.int 0))))) F ac9 λ_ _ _ _ _ _ hr=>(aL (bS (d6 W0 (pv 1) (pln T.mm (pv 0)))
   (bu (pxx hr (pv 0) (pv 1))) cQ)
  (bu aA))⟩
def EI:List D->Option D:=bV 2 (EH K C_NoRow).1
abbrev adm:Prop:=dt P w K mg base "_law_cell_at" ["_law_script","_law_k"] 1 (cL K 2 (EI K C_NoRow))
def KG: {g:dm K C_NoRow // ∀{P w mg base f fd},cY K "_law_pick" "_law_pick" JI f fd->bM K w mg->bZ P w K mg base cG 1 f fd ["_law_left_here","_law_many"] (dW K [true,false] (dG 3 [true,false] g))}:=⟨_,λF T=>tE F Sx λ_ _ _ _ _ _ hr=>(aL (bX 2 Sx.nd (cF Ae (pxx hr (pv 0) aA) (pv 1)))
  (aL (WK (cF Pq (pxx hr (pv 0) aA) (pv 1)) (WJ (pv 0) aA ah7))
  (bu (pv 2))))⟩
def Bp:List D->Option (D×List D):=dG 3 [true,false] (KG K C_NoRow).1
abbrev ur:Prop:=dt P w K mg base "_law_pick" ["_law_left_here","_law_many"] 1 (dW K [true,false] (Bp K C_NoRow))
def KW: {g:dm K C_NoRow // ∀{P w mg base f fd},cY K "_law_word" "_law_word" apJ f fd->bM K w mg->ur P w K mg base C_NoRow->bZ P w K mg base cG 2 f fd ["_law_left_here","_law_most"] (dW K [true,false] (dG 6 [true,false] g))}:=⟨_,λF T fj=>apF F Bn λ_ _ _ _ _ _ hr=>(wV 2 Bn.nd (asf hr (acE (oZ aC (oZ aC (oZ aC (oZ aC (oZ aC (oZ aC (oZ aC (oZ aC acD))))))))) (bC fj hr rfl (a9 (pv 0) aA)))
  (aoE (aL (bS (PW.pt (zF (d6 (one hr.units) (pv 2) aC) (zE (d6 W0 (pv 1) aA))))
   (bu (pv 2)) cQ)
  (aL (bX 3 Bn.nd aC)
  (aL (bX 4 Bn.nd (bC fj hr rfl (a9 (pv 0) aA)))
  (aL (bX 5 Bn.nd (cF fF aA (bC fj hr rfl (a9 (pv 0) aA))))
  (bu (acz aC (jw [none,some 3,some 4,some 5] ["_law_k","_law_signs","_law_first","_law_stride"] rfl (jI ⟨⟨rfl,rfl, .inl rfl⟩,⟨⟨rfl,rfl, .inl rfl⟩,⟨⟨rfl,rfl, .inl rfl⟩,trivial⟩⟩⟩) (CL rfl T.Bj (cJ (cF fF aA (bC fj hr rfl (a9 (pv 0) (pv 1)))))) (λ_ _ _ _ _ _=>(gI 0 (by decide +kernel:(["_law_k","_law_signs","_law_first","_law_stride"]:List Str).Nodup))) (λ_ _ _ _ _ _=>ko) (λ_ _ _ _ _ _=>(pxx hr (pv 1) (cF Ae (cF fF (cF fF (pv 2) (cF tu (pv 0) (pv 3))) (cF tu (pv 0) (pv 0))) aA))))))))))))⟩
def EN:List D->Option (D×List D):=dG 6 [true,false] (KW K C_NoRow).1
abbrev adw:Prop:=dt P w K mg base "_law_word" ["_law_left_here","_law_most"] 2 (dW K [true,false] (EN K C_NoRow))
def KH: {g:dm K C_NoRow // ∀{P w mg base f fd},cY K "_law_content" "_law_content" JR f fd->bM K w mg->ur P w K mg base C_NoRow->adw P w K mg base C_NoRow->bZ P w K mg base cG 3 f fd ["_law_left_here"] (dW K [true] (dG 3 [true] g))}:=⟨_,λF T fj K6=>tE F Ky λ_ _ _ _ _ _ hr=>(aL (bS (d6 (fX hr.units) (bC fj hr rfl (a9 (pv 0) aA)) aA)
   (bu (ez (a9 aC aC))) cQ)
  (aL (bX 1 Ky.nd (bC K6 hr rfl (a9 (pv 0) (pxx hr (iX (cU aA (a9 aA aA))) (bC fj hr rfl (a9 (pv 0) aA))))))
  (aL (bX 2 Ky.nd (bC fj hr rfl (a9 (pv 0) (cF fF (pln T.mm (pv 1)) aA))))
  (aL (bX 1 Ky.nd (cF fF (cF fF (xB (r:=oR K) yh (pv 1) OX (kR (pv 2))) (pxx hr (iX (a9 aC aC)) (bC fj hr rfl (a9 (pv 0) aA)))) (xB (r:=oR K) yh (pv 1) (kR (pv 2)) OX)))
  (bu (ez (a9 (xB (r:=oR K) yh (pv 1) OX (kR aA)) (xB (r:=oR K) yh (pv 1) OX (kR aA)))))))))⟩
def EJ:List D->Option (D×List D):=dG 3 [true] (KH K C_NoRow).1
abbrev adn:Prop:=dt P w K mg base "_law_content" ["_law_left_here"] 3 (dW K [true] (EJ K C_NoRow))
def KJ: {g:dm K C_NoRow // ∀{P w mg base f fd},cY K "_law_number" "_law_number" JP f fd->bM K w mg->ur P w K mg base C_NoRow->bZ P w K mg base cG 2 f fd ["_law_left_here"] (dW K [true] (dG 1 [true] g))}:=⟨_,λF T fj=>tE F EE λ_ _ _ _ _ _ hr=>(bu (pxx hr (iX (cU (bC fj hr rfl (a9 (pv 0) aA)) (a9 (bC fj hr rfl (a9 (pv 0) aA)) (cF OB (cF OB (cF WY aA aA) aA) (bC fj hr rfl (a9 (pv 0) aA)))))) (bC fj hr rfl (a9 (pv 0) aA))))⟩
def Br:List D->Option (D×List D):=dG 1 [true] (KJ K C_NoRow).1
abbrev S2:Prop:=dt P w K mg base "_law_number" ["_law_left_here"] 2 (dW K [true] (Br K C_NoRow))
def ap9: {g:dm K C_NoRow // ∀{P w mg base f fd},cY K "_law_path" "_law_path" apK f fd->bM K w mg->ur P w K mg base C_NoRow->adw P w K mg base C_NoRow->bZ P w K mg base cG 3 f fd ["_law_left_here"] (dW K [true] (dG 1 [true] g))}:=⟨_,λF T fj K6=>tE F avb λ_ _ _ _ _ _ hr=>(aL (ash (d6 (fX hr.units) (bC fj hr rfl (a9 (pv 0) aA)) aA)
   (auY (asf hr (acE (oZ aC (oZ aC (oZ aC (oZ aC (apG (anD aC (auX aC aA)) acD)))))) (bC fj hr rfl (a9 (pv 0) aA)))) cQ)
  (bu (acz aC (jw [none,some 0] ["_law_k","_law_left_here"] rfl (jI ⟨⟨rfl,rfl, .inl rfl⟩,trivial⟩) (CL rfl T.Bj (cJ (cF fF aA (bC fj hr rfl (a9 (pv 0) aA))))) (λ_ _ _ _ _ _=>(gI 0 (by decide +kernel:(["_law_k","_law_left_here"]:List Str).Nodup))) (λ_ _ _ _ _ _=>ko) (λ_ _ _ _ _ _=>(cF fF aC (bC K6 hr rfl (a9 (pv 1) aA))))))))⟩
def aqa:List D->Option (D×List D):=dG 1 [true] (ap9 K C_NoRow).1
abbrev avi:Prop:=dt P w K mg base "_law_path" ["_law_left_here"] 3 (dW K [true] (aqa K C_NoRow))
def aqb: {g:dm K C_NoRow // ∀{P w mg base f fd},cY K "_law_part" "_law_part" apL f fd->bM K w mg->adn P w K mg base C_NoRow->avi P w K mg base C_NoRow->adw P w K mg base C_NoRow->ur P w K mg base C_NoRow->S2 P w K mg base C_NoRow->bZ P w K mg base cG 4 f fd ["_law_left_here","_law_kind"] (dW K [true,false] (dG 4 [true,false] g))}:=⟨_,λF T aqc aqd K6 fj nI=>tE F anZ λ_ _ _ _ _ _ hr=>(aL (bS (d6 (fX hr.units) (pv 1) aC)
   (bu (bC aqc hr rfl (cJ (pv 0)))) cQ)
  (aL (bS (d6 (fX hr.units) (pv 1) aC)
   (dY (bX 2 anZ.nd (bC aqd hr rfl (cJ (pv 0))))) (dY (bS (d6 (fX hr.units) (pv 1) aC)
   (dY (bX 2 anZ.nd (bC K6 hr rfl (a9 (pv 0) aA)))) (dY (bS (d6 (fX hr.units) (pv 1) aC)
   (dY (bX 2 anZ.nd (pxx hr (iX (a9 aC aC)) (bC fj hr rfl (a9 (pv 0) aA))))) (aL (bX 3 anZ.nd (bC nI hr rfl (cJ (pv 0))))
  (bu (ez (a9 (oh (r:=Jh) abY rfl T.Kw We (cJ (pv 3))) (pv 3))))))))))
  (bu (ez (a9 (pv 2) (pv 2))))))⟩
def aoJ:List D->Option (D×List D):=dG 4 [true,false] (aqb K C_NoRow).1
abbrev avj:Prop:=dt P w K mg base "_law_part" ["_law_left_here","_law_kind"] 4 (dW K [true,false] (aoJ K C_NoRow))
def aqe: {g:dm K C_NoRow // ∀{P w mg base f fd},cY K "_law_form" "_law_form" apM f fd->bM K w mg->avj P w K mg base C_NoRow->ur P w K mg base C_NoRow->bZ P w K mg base cG 5 f fd ["_law_left_here","_law_kinds"] (dW K [true,false] (dG 5 [true,false] g))}:=⟨_,λF T aqf fj=>tE F aoH λ_ _ _ _ _ _ hr=>(aL (ahj (k:=2) [none,some 0] ["_law_kind","_law_left_here"] rfl (jI ⟨⟨rfl,rfl, .inl rfl⟩,trivial⟩) aoH.nd rfl (vp rfl) (lV (xB (r:=oR K) yh (pv 1) (kR aA) OX)) (λ_ _ _ _ _ _=>(gI 0 (by decide +kernel:(["_law_kind","_law_left_here"]:List Str).Nodup))) (λ_ _ _ _ _ _=>ko) (λ_ _ _ _ _ _=>(bC aqf hr rfl (a9 (pv 1) (pv 0)))))
  (aL (bX 3 aoH.nd (cF fF (iX (cJ (pxx hr (pv 1) aA))) (jw [none] ["_law_part_here"] rfl (jI trivial) (lV (pv 2)) (λ_ _ _ _ _ _=>(gI 0 lQ)) (λ_ _ _ _ _ _=>ko) (λ_ _ _ _ _ _=>(pxx hr (pv 0) aA)))))
  (aL (bX 4 aoH.nd (cF fF (iX (cJ (pxx hr (pv 1) aA))) (jw [none] ["_law_part_here"] rfl (jI trivial) (lV (pv 2)) (λ_ _ _ _ _ _=>(gI 0 lQ)) (λ_ _ _ _ _ _=>ko) (λ_ _ _ _ _ _=>(pxx hr (pv 0) aA)))))
  (aL (bS (PW.pt (zF (iM (gR (cR hr)) (pxx hr (pv 1) aA) (ez (a9 aC aC)) (by with_unfolding_all rfl)) (zE (d6 Gq (pln T.mm (pv 1)) aA))))
   (aL (WK (fK (r:=Ip) (aaP rfl) rfl T.acQ at8 (a9 (cF OB (cF WY aA aA) aA) (cF fF (cF fF (pxx hr (pv 4) (Gk Gm aA)) aA) (bC fj hr rfl (a9 (pv 0) aA))))) (WJ (pv 4) (Gk Gm aA) ah7))
  (dY (WK (oh (r:=Jh) abY rfl T.Kw We (cJ (pxx hr (pv 4) (Gk Gm aA)))) (WJ (pv 3) (Gk Gm aA) ah7)))) cQ)
  (bu (ez (a9 (A0 (pv 3)) (apx T.Kv (pv 4)))))))))⟩
def aoK:List D->Option (D×List D):=dG 5 [true,false] (aqe K C_NoRow).1
abbrev asu:Prop:=dt P w K mg base "_law_form" ["_law_left_here","_law_kinds"] 5 (dW K [true,false] (aoK K C_NoRow))
def aqg: {g:dm K C_NoRow // ∀{P w mg base f fd},cY K "_law_request" "_law_request" apN f fd->bM K w mg->asu P w K mg base C_NoRow->ur P w K mg base C_NoRow->bZ P w K mg base cG 6 f fd ["_law_left_here"] (dW K [true] (dG 2 [true] g))}:=⟨_,λF T tF fj=>apF F aoI λ_ _ _ _ _ _ hr=>(wV 1 aoI.nd (acE (oZ aC (oZ aC (oZ aC (oZ aC (oZ aC (oZ aC (oZ aC acD))))))))
  (wV 1 aoI.nd (anD (pv 1) (acE (oZ aC (oZ aC (oZ aC acD)))))
  (wV 1 aoI.nd (anD (pv 1) (acE (oZ aC (oZ aC acD))))
  (aoE (bu (bC tF hr rfl (a9 (pv 0) (aoB (pxx hr (pv 1) (bC fj hr rfl (a9 (pv 0) aA))) aC))))))))⟩
def aqh:List D->Option (D×List D):=dG 2 [true] (aqg K C_NoRow).1
abbrev avk:Prop:=dt P w K mg base "_law_request" ["_law_left_here"] 6 (dW K [true] (aqh K C_NoRow))
def aqi: {g:dm K C_NoRow // ∀{P w mg base f fd},cY K "_law_event" "_law_event" apO f fd->bM K w mg->ur P w K mg base C_NoRow->asu P w K mg base C_NoRow->avk P w K mg base C_NoRow->S2 P w K mg base C_NoRow->bZ P w K mg base cG 7 f fd ["_law_left_here"] (dW K [true] (dG 10 [true] g))}:=⟨_,λF T fj tF aqj nI=>apF F kT λ_ _ _ _ _ _ hr=>(wV 1 kT.nd (acE (oZ aC (oZ aC (oZ aC (oZ aC (oZ aC (oZ aC acD)))))))
  (wV 1 kT.nd (anD (pv 1) (acE (oZ aC (oZ aC (oZ aC (oZ aC (oZ aC acD)))))))
  (wV 1 kT.nd (anD (pv 1) (acE (oZ aC (oZ aC (oZ aC (oZ aC (oZ aC (oZ aC (oZ aC acD)))))))))
  (anY (bX 2 kT.nd (bC fj hr rfl (a9 (pv 0) aA)))
  (anY (bS (d6 W0 (pv 2) aA)
   (bu (bC tF hr rfl (a9 (pv 0) (aoB (pxx hr (pv 1) (pv 2)) aC)))) cQ)
  (anY (bS (d6 W0 (pv 2) aA)
   (aL (WK (bC tF hr rfl (a9 (pv 0) (iX (cU aC (a9 aC aC))))) (DT (K:=K) rfl (n:=2) rfl (sY (gI 3 kT.nd) (sY (gI 4 kT.nd) CG))))
  (aL (WK (bC aqj hr rfl (cJ (pv 0))) (DT (K:=K) rfl (n:=2) rfl (sY (gI 5 kT.nd) (sY (gI 6 kT.nd) CG))))
  (bu (ez (a9 (A0 (cF arV (pv 3) (pv 5))) (cF fF (pv 4) (ez (cJ (pv 6))))))))) cQ)
  (anY (ash (d6 W0 (pv 2) aA)
   (anY (WK (bC tF hr rfl (a9 (pv 0) (iX (a9 aC aC)))) (DT (K:=K) rfl (n:=2) rfl (sY (gI 3 kT.nd) (sY (gI 4 kT.nd) CG))))
  (wV 7 kT.nd (acE (apG (asj (acE (oZ aC (oZ aC (oZ aC (oZ aC acD)))))) (apG (asj (acE (oZ aC (oZ aC (oZ aC (oZ aC acD)))))) acD)))
  (aoE (aL (WK (bC tF hr rfl (a9 (pv 0) (pxx hr (pv 7) (bC fj hr rfl (a9 (pv 0) aA))))) (DT (K:=K) rfl (n:=2) rfl (sY (gI 5 kT.nd) (sY (gI 8 kT.nd) CG))))
  (bu (ez (a9 (A0 (cF arV (pv 3) (pv 5))) (cF fF (pv 4) (ez (cJ (pv 8))))))))))) cQ)
  (aoE (aL (ahj (k:=9) [none,some 0] ["_law_k","_law_left_here"] rfl (jI ⟨⟨rfl,rfl, .inl rfl⟩,trivial⟩) kT.nd rfl (vp rfl) (CL rfl T.Bj (cJ (cF fF aA (bC fj hr rfl (a9 (pv 0) aA))))) (λ_ _ _ _ _ _=>(gI 0 (by decide +kernel:(["_law_k","_law_left_here"]:List Str).Nodup))) (λ_ _ _ _ _ _=>ko) (λ_ _ _ _ _ _=>(bC nI hr rfl (cJ (pv 1)))))
  (bu (ez (a9 (A0 (cF fF (iX (cJ aC)) (jw [none] ["_law_number_here"] rfl (jI trivial) (lV (pv 9)) (λ_ _ _ _ _ _=>(gI 0 lQ)) (λ_ _ _ _ _ _=>ko) (λ_ _ _ _ _ _=>(oh (r:=Jh) abY rfl T.Kw We (cJ (pv 0))))))) (ez (cU aC (a9 (pxx hr (pv 9) aA) (A0 (xB (r:=oR K) yh (pv 9) (kR aA) OX)))))))))))))))))⟩
def aoL:List D->Option (D×List D):=dG 10 [true] (aqi K C_NoRow).1
abbrev avl:Prop:=dt P w K mg base "_law_event" ["_law_left_here"] 7 (dW K [true] (aoL K C_NoRow))
def K9: {g:dm K C_NoRow // ∀{P w mg base f fd},cY K "_law_mix" "_law_mix" JM f fd->bM K w mg->bZ P w K mg base cG 1 f fd ["_law_cell","_law_k"] (cL K 2 (bV 3 g))}:=⟨_,λF T=>iy F Sy λ_ _ _ _ _ _ hr=>(aL (bX 2 Sy.nd (cF Ae (cF tu (cF fF (cF fF (cF Ae (pv 0) aA) (cF tu aA (pv 1))) aA) aA) aA))
  (bu (cF Ae (cF tu (pv 2) (pv 2)) aA)))⟩
def La:List D->Option D:=bV 3 (K9 K C_NoRow).1
abbrev adz:Prop:=dt P w K mg base "_law_mix" ["_law_cell","_law_k"] 1 (cL K 2 (La K C_NoRow))
def Lb: {g:dm K C_NoRow // ∀{P w mg base f fd},cY K "_law_left" "_law_left" JN f fd->bM K w mg->adz P w K mg base C_NoRow->bZ P w K mg base cG 2 f fd ["_law_cell","_law_k"] (cL K 2 (bV 4 g))}:=⟨_,λF T ER=>iy F aoG λ_ _ _ _ _ _ hr=>(aL (bS (d6 W2 (pv 0) (cF WY aA aA))
   (bu (iX (cJ (pv 0)))) cQ)
  (aL (bX 2 aoG.nd aA)
  (aL (tq sQ rfl (CL rfl T.Bj (cJ aA)) (gI 3 aoG.nd)
   (dY (bX 2 aoG.nd (cF fF (cF tu (pv 2) aA) (bC ER hr rfl (a9 (cF fF (pv 0) (cF tu (cF tu aA (pv 3)) (pv 3))) (cF fF (cF tu aA (pv 1)) (pv 3))))))))
  (bu (iX (cJ (pv 2)))))))⟩
def uu:List D->Option D:=bV 4 (Lb K C_NoRow).1
abbrev adA:Prop:=dt P w K mg base "_law_left" ["_law_cell","_law_k"] 2 (cL K 2 (uu K C_NoRow))
def aqk: {g:dm K C_NoRow // ∀{P w mg base f fd},cY K "_law_world" "_law_world" apI f fd->bM K w mg->S2 P w K mg base C_NoRow->ur P w K mg base C_NoRow->bZ P w K mg base cG 3 f fd ["_law_left_here"] (dW K [true] (dG 4 [true] g))}:=⟨_,λF T nI fj=>tE F aoF λ_ _ _ _ _ _ hr=>(aL (WM (i:=1) (j:=2) rfl aoF.nd rfl rfl (by decide) rfl rfl (a9 (cF fF aA (bC nI hr rfl (cJ (pv 0)))) (cF fF aA (bC nI hr rfl (cJ (pv 0))))) rfl)
  (aL (bX 3 aoF.nd (iX (cU (cF fF aA (bC fj hr rfl (a9 (pv 0) aA))) (cU (cF fF aA (bC fj hr rfl (a9 (pv 0) aA))) (a9 (cF fF aA (bC nI hr rfl (cJ (pv 0)))) (cF fF aA (bC nI hr rfl (cJ (pv 0)))))))))
  (aL (bX 3 aoF.nd (cF fF (pv 3) (iX (cU (pv 1) (cU (fK (r:=Ip) (aaP rfl) rfl T.acQ at8 (a9 (cF OB (cF WY aA aA) aA) (cF fF (pv 1) (bC fj hr rfl (a9 (pv 0) aA))))) (a9 (fK (r:=Ip) (aaP rfl) rfl T.acQ at8 (a9 (cF OB (cF WY aA aA) aA) (cF fF (pv 2) (bC fj hr rfl (a9 (pv 0) aA))))) (pv 2)))))))
  (bu (ez (a9 (A0 (cF fF (iX (cJ aC)) (jw [none] ["_law_number_here"] rfl (jI trivial) (lV (pv 3)) (λ_ _ _ _ _ _=>(gI 0 lQ)) (λ_ _ _ _ _ _=>ko) (λ_ _ _ _ _ _=>(oh (r:=Jh) abY rfl T.Kw We (cJ (pv 0))))))) (cF fF (ez (cJ aC)) (apx T.Kv (pv 3)))))))))⟩
def aql:List D->Option (D×List D):=dG 4 [true] (aqk K C_NoRow).1
abbrev avm:Prop:=dt P w K mg base "_law_world" ["_law_left_here"] 3 (dW K [true] (aql K C_NoRow))
def aqm: {g:dm K C_NoRow // ∀{P w mg base f fd},cY K "_law_drawn" "_law_drawn" apP f fd->bM K w mg->avm P w K mg base C_NoRow->adA P w K mg base C_NoRow->adm P w K mg base C_NoRow->adz P w K mg base C_NoRow->avl P w K mg base C_NoRow->bZ P w K mg base cG 8 f fd ["_law_script","_law_most"] (cL K 2 (bV 7 g))}:=⟨_,λF T aqn BZ Lc ER aqo=>iy F w5 λ_ _ _ _ _ _ hr=>(aL (bX 2 w5.nd (iX (cJ (bC aqn hr rfl (cJ (bC BZ hr rfl (a9 (bC Lc hr rfl (a9 (pv 0) aA)) aA)))))))
  (aL (bX 3 w5.nd aA)
  (aL (bS (d6 (fX hr.units) (cF Ae (bC ER hr rfl (a9 (bC Lc hr rfl (a9 (pv 0) aA)) aA)) aA) aA)
   (dY (bX 3 w5.nd aA)) cQ)
  (aL (tq sQ rfl (ar1 rfl T.alH (cJ (cF fF (xB (r:=oR K) yh (pv 0) (kR aA) (kR aA)) (iX (cJ aA))))) (DT (K:=K) rfl (n:=2) rfl (sY (gI 4 w5.nd) (sY (gI 5 w5.nd) CG)))
   (aL (bX 6 w5.nd (bC BZ hr rfl (a9 (pv 5) (cF fF (pv 4) aA))))
  (dY (bX 2 w5.nd (cF fF (pv 2) (jw [none,some 6] ["_law_turn","_law_left_here"] rfl (jI ⟨⟨rfl,rfl, .inl rfl⟩,trivial⟩) (CL rfl T.Bj (cJ (pv 3))) (λ_ _ _ _ _ _=>(gI 0 (by decide +kernel:(["_law_turn","_law_left_here"]:List Str).Nodup))) (λ_ _ _ _ _ _=>ko) (λ_ _ _ _ _ _=>(bC aqo hr rfl (cJ (pv 1))))))))))
  (bu (xB (r:=oR K) yh (pv 2) OX (kR (pv 1))))))))⟩
def aqp:List D->Option D:=bV 7 (aqm K C_NoRow).1
abbrev avn:Prop:=dt P w K mg base "_law_drawn" ["_law_script","_law_most"] 8 (cL K 2 (aqp K C_NoRow))
def aqq: {g:dm K C_NoRow // ∀{P w mg base f fd},cY K "_law_text" "_law_text" apQ f fd->bM K w mg->ur P w K mg base C_NoRow->bZ P w K mg base cG 2 f fd ["_law_left_here","_law_drawn_here"] (dW K [true,false] (dG 9 [true,false] g))}:=⟨_,λF T fj=>tE F rk λ_ _ _ _ _ _ hr=>(aL (bX 2 rk.nd (iX gk))
  (aL (bX 3 rk.nd (iX gk))
  (aL (bX 4 rk.nd (ra (A6 W0 (pln T.mm (pv 1)) aA) (qg (A6 Gq (bC fj hr rfl (a9 (pv 0) aA)) aA))))
  (aL (tq sQ rfl (lV (pv 1)) (DT (K:=K) rfl (n:=2) rfl (sY (gI 5 rk.nd) (sY (gI 6 rk.nd) CG)))
   (aL (bS (PW.pt (zF (l9 (pv 4)) (zE (d6 (fX hr.units) (bC fj hr rfl (a9 (pv 0) aA)) aA))))
   (dY (ma (zc (pv 2) (cF Ep aC (bC fj hr rfl (a9 (pv 0) aA)))))) cQ)
  (aL (ma (zc (pv 3) (pln T.mm (pv 2))))
  (aL (bX 7 rk.nd aC)
  (aL (bX 8 rk.nd (iX (a9 aC aC)))
  (aL (bS (l9 (pv 4))
   (aL (bX 7 rk.nd (cF Ep aC (cF fF aA (bC fj hr rfl (a9 (pv 0) aA)))))
  (dY (bX 8 rk.nd (iX (a9 (cF Ep aC (bC fj hr rfl (a9 (pv 0) aA))) (cF Ep aC (bC fj hr rfl (a9 (pv 0) aA)))))))) cQ)
  (dY (ma (zc (pv 2) (cF fF (cF fF (pxx hr (pv 8) aA) (acz (pv 7) (pv 5))) (pxx hr (pv 8) aA)))))))))))
  (aL (bS (PW.pt (zF (l9 (pv 4)) (zE (d6 (fX hr.units) (bC fj hr rfl (a9 (pv 0) aA)) aA))))
   (dY (ma (zc (pv 2) aC))) cQ)
  (bu (ez (a9 (pv 2) (pv 3)))))))))⟩
def aqr:List D->Option (D×List D):=dG 9 [true,false] (aqq K C_NoRow).1
abbrev avo:Prop:=dt P w K mg base "_law_text" ["_law_left_here","_law_drawn_here"] 2 (dW K [true,false] (aqr K C_NoRow))
def Lh: {g:dm K C_NoRow // ∀{P w mg base f fd},cY K "all_among" "all_among" JW f fd->bM K w mg->bZ P w K mg base cG 1 f fd ["text","signs"] (cL K 2 (bV 2 g))}:=⟨_,λF T=>iy F adg λ_ _ _ _ _ _ hr=>(bu (fK (r:=(mw K)) (arS rfl) rfl T.pV qV (cJ (jw [none,some 1] ["sign","signs"] rfl (jI ⟨⟨rfl,rfl, .inl rfl⟩,trivial⟩) (lV (pv 0)) (λ_ _ _ _ _ _=>(gI 0 (by decide +kernel:(["sign","signs"]:List Str).Nodup))) (λ_ _ _ _ _ _=>ko) (λ_ _ _ _ _ _=>(jd (gR (cR hr)) (pv 0) (pv 1) (by with_unfolding_all rfl)))))))⟩
def Li:List D->Option D:=bV 2 (Lh K C_NoRow).1
abbrev S5:Prop:=dt P w K mg base "all_among" ["text","signs"] 1 (cL K 2 (Li K C_NoRow))
def LB: {g:dm K C_NoRow // ∀{P w mg base f fd},cY K "is_content" "is_content" JY f fd->bM K w mg->S5 P w K mg base C_NoRow->bZ P w K mg base cG 2 f fd ["text"] (cL K 1 (bV 1 g))}:=⟨_,λF T yI=>iy F adi λ_ _ _ _ _ _ hr=>(bu (ra (A6 xw (pln T.mm (pv 0)) (ml rfl T.acW)) (qg (bC yI hr rfl (a9 (pv 0) (ml rfl T.acY))))))⟩
def EV:List D->Option D:=bV 1 (LB K C_NoRow).1
abbrev adO:Prop:=dt P w K mg base "is_content" ["text"] 2 (cL K 1 (EV K C_NoRow))
def aoM: {g:dm K C_NoRow // ∀{P w mg base f fd},cY K "content_from" "content_from" apT f fd->bM K w mg->adO P w K mg base C_NoRow->bZ P w K mg base cG 3 f fd ["word"] (cL K 1 (bV 1 g))}:=⟨_,λF T LI=>iy F ave λ_ _ _ _ _ _ hr=>(aL (bS (d6 (fX hr.units) (pv 0) aC)
   (bu aC) cQ)
  (bu (Oj (l9 (bC LI hr rfl (cJ (pv 0)))) (pv 0) qZ)))⟩
def an1:List D->Option D:=bV 1 (aoM K C_NoRow).1
abbrev avp:Prop:=dt P w K mg base "content_from" ["word"] 3 (cL K 1 (an1 K C_NoRow))
def LC: {g:dm K C_NoRow // ∀{P w mg base f fd},cY K "is_name" "is_name" JX f fd->bM K w mg->S5 P w K mg base C_NoRow->bZ P w K mg base cG 2 f fd ["text"] (cL K 1 (bV 1 g))}:=⟨_,λF T yI=>iy F adh λ_ _ _ _ _ _ hr=>(bu (ra (OD xw xw aA (pln T.mm (pv 0)) (ml rfl T.acV)) (qg (bC yI hr rfl (a9 (pv 0) (ml rfl T.acX))))))⟩
def EW:List D->Option D:=bV 1 (LC K C_NoRow).1
abbrev adP:Prop:=dt P w K mg base "is_name" ["text"] 2 (cL K 1 (EW K C_NoRow))
def aqs: {g:dm K C_NoRow // ∀{P w mg base f fd},cY K "number_from" "number_from" apS f fd->bM K w mg->S5 P w K mg base C_NoRow->bZ P w K mg base cG 2 f fd ["word"] (cL K 1 (bV 1 g))}:=⟨_,λF T yI=>iy F avd λ_ _ _ _ _ _ hr=>(aL (bS (PW.pt (F7 (oa (apm xw xw aA (pln T.mm (pv 0)) (ml rfl T.au1))) (F6 (oa (l9 (bC yI hr rfl (a9 (pv 0) (ml rfl T.au4))))))))
   (bu qZ) cQ)
  (aL (bS (PW.pt (zF (l9 (asb (pv 0) aC)) (zE (d6 (one hr.units) (pv 0) aC))))
   (bu qZ) cQ)
  (bu (oh (r:=apD) auS rfl T.yA Cu (cJ (pv 0))))))⟩
def aoN:List D->Option D:=bV 1 (aqs K C_NoRow).1
abbrev asv:Prop:=dt P w K mg base "number_from" ["word"] 2 (cL K 1 (aoN K C_NoRow))
def aqt: {g:dm K C_NoRow // ∀{P w mg base f fd},cY K "part_from" "part_from" apU f fd->bM K w mg->asv P w K mg base C_NoRow->avp P w K mg base C_NoRow->adP P w K mg base C_NoRow->bZ P w K mg base cG 4 f fd ["kind","word"] (cL K 2 (bV 2 g))}:=⟨_,λF T UZ aqu LH=>iy F avf λ_ _ _ _ _ _ hr=>(aL (bS (d6 (fX hr.units) (pv 0) aC)
   (bu (bC UZ hr rfl (cJ (pv 1)))) cQ)
  (aL (bS (d6 (fX hr.units) (pv 0) aC)
   (bu (bC aqu hr rfl (cJ (pv 1)))) cQ)
  (aL (bS (d6 (fX hr.units) (pv 0) aC)
   (bu (Oj (l9 (asb (pv 1) aC)) (pv 1) qZ)) cQ)
  (aL (bS (d6 (fX hr.units) (pv 0) aC)
   (bu (Oj (l9 (bC LH hr rfl (cJ (pv 1)))) (pv 1) qZ)) cQ)
  (bu (Oj (iM (gR (cR hr)) (pv 1) (ez (a9 aC aC)) (by with_unfolding_all rfl)) (pv 1) qZ))))))⟩
def aoO:List D->Option D:=bV 2 (aqt K C_NoRow).1
abbrev avq:Prop:=dt P w K mg base "part_from" ["kind","word"] 4 (cL K 2 (aoO K C_NoRow))
def aqv: {g:dm K C_NoRow // ∀{P w mg base f fd},cY K "parts_from" "parts_from" apV f fd->bM K w mg->avq P w K mg base C_NoRow->bZ P w K mg base cG 5 f fd ["kinds","words"] (cL K 2 (bV 3 g))}:=⟨_,λF T aqw=>iy F asm λ_ _ _ _ _ _ hr=>(aL (bS (d6 (one hr.units) (pln T.mm (pv 1)) (fK (r:=apC K) auP rfl T.mm Wc (cJ (pv 0))))
   (bu qZ) cQ)
  (aL (ahj (k:=2) [none,none] ["kind","word"] rfl (jI trivial) asm.nd rfl (vp rfl) (auT rfl T.acT (a9 (pv 0) (pv 1))) (λ_ _ _ _ _ _=>(DT (K:=K) rfl (n:=2) rfl (sY (gI 0 (by decide +kernel:(["kind","word"]:List Str).Nodup)) (sY (gI 1 (by decide +kernel:(["kind","word"]:List Str).Nodup)) CG)))) (λ_ _ _ _ _ _=>ko) (λ_ _ _ _ _ _=>(bC aqw hr rfl (a9 (pv 0) (pv 1)))))
  (bu (Oj (iM (gR (cR hr)) qZ (pv 2) (by with_unfolding_all rfl)) qZ (apx T.Kv (pv 2))))))⟩
def Eb:List D->Option D:=bV 3 (aqv K C_NoRow).1
abbrev aqx:Prop:=dt P w K mg base "parts_from" ["kinds","words"] 5 (cL K 2 (Eb K C_NoRow))
def aqy: {g:dm K C_NoRow // ∀{P w mg base f fd},cY K "by_form" "by_form" apW f fd->bM K w mg->aqx P w K mg base C_NoRow->bZ P w K mg base cG 6 f fd ["forms","words"] (cL K 2 (bV 3 g))}:=⟨_,λF T tL=>iy F asn λ_ _ _ _ _ _ hr=>(aL (bS (PW.pt (F7 (d6 (fX hr.units) (pv 1) (iX gk)) (F6 (iM (JB (cR hr)) (pxx hr (pv 1) aA) (pv 0) (by with_unfolding_all rfl)))))
   (bu qZ) cQ)
  (aL (bX 2 asn.nd (bC tL hr rfl (a9 (pxx hr (pv 0) (pxx hr (pv 1) aA)) (xB (r:=oR K) yh (pv 1) (kR aA) OX))))
  (bu (Oj (d6 QR (pv 2) qZ) qZ (cF fF (ez (cJ (pxx hr (pv 1) aA))) (pv 2))))))⟩
def U0:List D->Option D:=bV 3 (aqy K C_NoRow).1
abbrev aqz:Prop:=dt P w K mg base "by_form" ["forms","words"] 6 (cL K 2 (U0 K C_NoRow))
def aqA: {g:dm K C_NoRow // ∀{P w mg base f fd},cY K "request_from" "request_from" apX f fd->bM K w mg->aqz P w K mg base C_NoRow->bZ P w K mg base cG 7 f fd ["words"] (cL K 1 (bV 2 g))}:=⟨_,λF T tO=>iy F aso λ_ _ _ _ _ _ hr=>(aL (bX 1 aso.nd (bC tO hr rfl (a9 (oh (r:=alM K (kA K "REQUESTS")) (apA T.au8) rfl T.alG at9 (cJ (ml rfl T.au7))) (pv 0))))
  (aL (bS (PW.pt (zF (d6 QS (pv 1) qZ) (zF (iM (gR (cR hr)) (pxx hr (pv 1) aA) (ez (a9 aC aC)) (by with_unfolding_all rfl)) (zE (d6 W2 (pxx hr (pv 1) (Gk Gm aA)) (pxx hr (pv 1) (Gk Gm aA)))))))
   (bu qZ) cQ)
  (bu (pv 1))))⟩
def aoP:List D->Option D:=bV 2 (aqA K C_NoRow).1
abbrev avr:Prop:=dt P w K mg base "request_from" ["words"] 7 (cL K 1 (aoP K C_NoRow))
def aqB: {g:dm K C_NoRow // ∀{P w mg base f fd},cY K "ask_from" "ask_from" apY f fd->bM K w mg->aqx P w K mg base C_NoRow->avr P w K mg base C_NoRow->bZ P w K mg base cG 8 f fd ["words"] (cL K 1 (bV 3 g))}:=⟨_,λF T tL aqC=>iy F ap5 λ_ _ _ _ _ _ hr=>(aL (bX 1 ap5.nd (bC tL hr rfl (a9 (ez (a9 aC aC)) (xB (r:=oR K) yh (pv 0) (kR aA) (kR aA)))))
  (aL (bX 2 ap5.nd (bC aqC hr rfl (cJ (xB (r:=oR K) yh (pv 0) (kR aA) OX))))
  (aL (bS (PW.pt (F7 (d6 QR (pv 1) qZ) (F6 (d6 QR (pv 2) qZ))))
   (bu qZ) cQ)
  (bu (cF fF (cF fF (ez (cJ aC)) (pv 1)) (ez (cJ (pv 2))))))))⟩
def aqD:List D->Option D:=bV 3 (aqB K C_NoRow).1
abbrev avs:Prop:=dt P w K mg base "ask_from" ["words"] 8 (cL K 1 (aqD K C_NoRow))
def aqE: {g:dm K C_NoRow // ∀{P w mg base f fd},cY K "is_world" "is_world" ap1 f fd->bM K w mg->bZ P w K mg base cG 1 f fd ["row"] (cL K 1 (bV 3 g))}:=⟨_,λF T=>iy F ap7 λ_ _ _ _ _ _ hr=>(aL (bX 1 ap7.nd (pxx hr (pv 0) aA))
  (aL (bX 2 ap7.nd (pxx hr (pv 0) aA))
  (aL (bS (oa (PW.pt (zF (apm xw xw aA (pv 1) (ml rfl T.au2)) (zF (apm xw xw aA (pv 2) (ml rfl T.au3)) (zF (d6 W2 (pxx hr (pv 0) aA) aA) (zE (d6 W2 (pxx hr (pv 0) aA) aA)))))))
   (bu zD) cQ)
  (bu (ra (OD W0 xw aA (pxx hr (pv 0) aA) (pxx hr (pv 0) aA)) (qg (OD W0 xw aA (pxx hr (pv 0) aA) (pxx hr (pv 0) aA))))))))⟩
def aoQ:List D->Option D:=bV 3 (aqE K C_NoRow).1
abbrev avt:Prop:=dt P w K mg base "is_world" ["row"] 1 (cL K 1 (aoQ K C_NoRow))
def aqF: {g:dm K C_NoRow // ∀{P w mg base f fd},cY K "pass_from" "pass_from" ap0 f fd->bM K w mg->asv P w K mg base C_NoRow->bZ P w K mg base cG 3 f fd ["words"] (cL K 1 (bV 2 g))}:=⟨_,λF T UZ=>iy F asp λ_ _ _ _ _ _ hr=>(aL (ahj (k:=1) [none] ["word"] rfl (jI trivial) asp.nd rfl (vp rfl) (lV (xB (r:=oR K) yh (pv 0) (kR aA) OX)) (λ_ _ _ _ _ _=>(gI 0 lQ)) (λ_ _ _ _ _ _=>ko) (λ_ _ _ _ _ _=>(bC UZ hr rfl (cJ (pv 0)))))
  (aL (bS (PW.pt (F7 (d6 W0 (pln T.mm (pv 1)) aA) (F6 (iM (gR (cR hr)) qZ (pv 1) (by with_unfolding_all rfl)))))
   (bu qZ) cQ)
  (bu (ez (cU aC (a9 (pxx hr (pv 1) aA) (xB (r:=oR K) yh (pv 1) (kR aA) OX)))))))⟩
def aqG:List D->Option D:=bV 2 (aqF K C_NoRow).1
abbrev avu:Prop:=dt P w K mg base "pass_from" ["words"] 3 (cL K 1 (aqG K C_NoRow))
def aqH: {g:dm K C_NoRow // ∀{P w mg base f fd},cY K "work_from" "work_from" apZ f fd->bM K w mg->aqx P w K mg base C_NoRow->aqz P w K mg base C_NoRow->bZ P w K mg base cG 7 f fd ["words"] (cL K 1 (bV 3 g))}:=⟨_,λF T tL tO=>iy F ap6 λ_ _ _ _ _ _ hr=>(aL (bX 1 ap6.nd (bC tL hr rfl (a9 (ez (cJ aC)) (xB (r:=oR K) yh (pv 0) (kR aA) (kR aA)))))
  (aL (bX 2 ap6.nd (bC tO hr rfl (a9 (oh (r:=alM K (kA K "DEEDS")) (apA T.ava) rfl T.alG at9 (cJ (ml rfl T.au9))) (xB (r:=oR K) yh (pv 0) (kR aA) OX))))
  (aL (bS (PW.pt (F7 (d6 QR (pv 1) qZ) (F6 (d6 QR (pv 2) qZ))))
   (bu qZ) cQ)
  (bu (cF fF (cF fF (ez (cJ aC)) (pv 1)) (ez (cJ (pv 2))))))))⟩
def aqI:List D->Option D:=bV 3 (aqH K C_NoRow).1
abbrev avv:Prop:=dt P w K mg base "work_from" ["words"] 7 (cL K 1 (aqI K C_NoRow))
def VV: {g:dm K C_NoRow // ∀{P w mg base f fd},cY K "row_from" "row_from" ap2 f fd->bM K w mg->avs P w K mg base C_NoRow->avv P w K mg base C_NoRow->avu P w K mg base C_NoRow->aqz P w K mg base C_NoRow->avt P w K mg base C_NoRow->bZ P w K mg base cG 9 f fd ["words"] (cL K 1 (bV 2 g))}:=⟨_,λF T aqJ aqK aqL tO aqM=>iy F asq λ_ _ _ _ _ _ hr=>(aL (bS (d6 (fX hr.units) (pxx hr (pv 0) aA) aC)
   (bu (bC aqJ hr rfl (cJ (pv 0)))) cQ)
  (aL (bS (d6 (fX hr.units) (pxx hr (pv 0) aA) aC)
   (bu (bC aqK hr rfl (cJ (pv 0)))) cQ)
  (aL (bS (d6 (fX hr.units) (pxx hr (pv 0) aA) aC)
   (bu (bC aqL hr rfl (cJ (pv 0)))) cQ)
  (aL (bX 1 asq.nd (bC tO hr rfl (a9 (oh (r:=alM K (kA K "ROWS")) (apA T.au6) rfl T.alG at9 (cJ (ml rfl T.au5))) (pv 0))))
  (aL (bS (PW.pt (zF (d6 QS (pv 1) qZ) (zF (d6 (fX hr.units) (pxx hr (pv 1) aA) aC) (zE (oa (l9 (bC aqM hr rfl (cJ (pv 1)))))))))
   (bu qZ) cQ)
  (bu (pv 1)))))))⟩
def rz:List D->Option D:=bV 2 (VV K C_NoRow).1
abbrev avw:Prop:=dt P w K mg base "row_from" ["words"] 9 (cL K 1 (rz K C_NoRow))
def aqN: {g:dm K C_NoRow // ∀{P w mg base f fd},cY K "words_of" "words_of" apR f fd->bM K w mg->bZ P w K mg base cG 1 f fd ["line"] (cL K 1 (bV 1 g))}:=⟨_,λF T=>iy F avc λ_ _ _ _ _ _ hr=>(bu (jw [none] ["word"] rfl (jI trivial) (lV (aoB (pv 0) aC)) (λ_ _ _ _ _ _=>(gI 0 lQ)) (λ_ _ _ _ _ _=>(PD (d6 (one hr.units) (pv 0) aC))) (λ_ _ _ _ _ _=>(pv 0))))⟩
def aoR:List D->Option D:=bV 1 (aqN K C_NoRow).1
abbrev avx:Prop:=dt P w K mg base "words_of" ["line"] 1 (cL K 1 (aoR K C_NoRow))
def aqO: {g:dm K C_NoRow // ∀{P w mg base f fd},cY K "read_sheet" "read_sheet" ap3 f fd->bM K w mg->avx P w K mg base C_NoRow->avw P w K mg base C_NoRow->bZ P w K mg base cG 10 f fd ["text"] (cL K 1 (bV 6 g))}:=⟨_,λF T aqP aqQ=>iy F UT λ_ _ _ _ _ _ hr=>(aL (bX 1 UT.nd (iX gk))
  (aL (tq sQ rfl (ar1 rfl T.alH (cJ (aoB (pv 0) aC))) (DT (K:=K) rfl (n:=2) rfl (sY (gI 2 UT.nd) (sY (gI 3 UT.nd) CG)))
   (aL (bX 4 UT.nd (bC aqP hr rfl (cJ (pv 3))))
  (aL (bS (d6 (fX hr.units) (pv 4) (iX gk))
   (dY aue) cQ)
  (aL (bX 5 UT.nd (bC aqQ hr rfl (cJ (pv 4))))
  (aL (bS (PW.pt (F7 (d6 QR (pv 5) qZ) (F6 (d6 (one hr.units) (A6 (fX hr.units) (pxx hr (pv 5) aA) aC) (A6 (fX hr.units) (pv 1) (iX gk))))))
   arI cQ)
  (dY (ma (zc (pv 1) (au0 (pv 5))))))))))
  (aL (bS (d6 (fX hr.units) (pv 1) (iX gk))
   arI cQ)
  (bu (pv 1)))))⟩
def aqR:List D->Option D:=bV 6 (aqO K C_NoRow).1
abbrev avy:Prop:=dt P w K mg base "read_sheet" ["text"] 10 (cL K 1 (aqR K C_NoRow))
end
end K57
namespace SF
open PySem L2 VL
section
variable {α β κ:Type}[DecidableEq β][DecidableEq κ]
end
section
variable {α:Type}
end
def Al(Z:En):Prop:=∀b∈Z,NA b\/∃r,b=some (.aB r [])
theorem asw(h:Al Z):el Z=Z:=by
 unfold el;have:∀b∈Z,fO Z b=b:=λb hb=>by
  rcases h b hb with n | ⟨r,rfl⟩
  ·exact abk n
  ·simp[fO]
 exact(Cs this).trans (Wg Z)
theorem Al.set(h:Al Z)(r:Nat)(e:D):Al (Z.set r (some (.own e))):=λb hb=>by
 rcases aiM hb with z | z
 ·exact h b z
 ·subst z;exact .inl cZ
theorem o4(h:Al Z)(r:Nat)(d0:D)(p:List Nat)(d':D):fV Z r d0 p d'=Z.set r (some (.own (aZ d0 p d'))):=by
 unfold fV;rw[asw (h.set r _),NW]
section
variable {α β κ:Type}[DecidableEq β][DecidableEq κ]
end
theorem yM(h1:gG ρ1 as=some ds)(h2:jF (cT as)/\as.all (kY (cT as))=true)(h3:G ds=some (d,dq))(hl:dq.length=(cT as).length)(e:j3 ρ1 (cT as) dq=ρ'):fL G as ρ1=some (d,ρ'):=by
 unfold fL;rw[h1,ax,if_pos h2,h3,ax,if_pos hl];rw[e]
theorem jj(d e:D):aZ d [] e=e:=by cases d <;> rfl
theorem k9(d:D):aI d []=some d:=by cases d <;> rfl
theorem BA(h:Al Z)(hr:aV Z r=some d0)(d':D):j3 Z [⟨r, []⟩] [d']=Z.set r (some (.own d')):=by
 have e1:dn Z [⟨r, []⟩] [V.aG]=Z.set r (some (.own (.hl .aG))):=by
  unfold dn;rw[hr];dsimp only;rw[jj];rfl
 show g9 Z (el (dn Z [⟨r, []⟩] [V.aG])) [⟨r, []⟩] [d']=_;rw[e1,asw (h.set r _)];unfold g9;rw[hr];dsimp only;rw[jj,NW];rfl
theorem aoS(h:fp Z=some (.rt r p))(h2:fr Z=some as):gn fp fr Z=some (.io ⟨r,p⟩::as):=by
 unfold gn;rw[h,ax];dsimp only;rw[h2];rfl
theorem avz(h:fe Z=some d)(h2:fr Z=some as):mr fe fr Z=some (.tm d::as):=by
 unfold mr;rw[h,ax,h2];rfl
theorem S8{G:List D->Option (D×List D)}{fa:En->Option (List Ar)}{as:List Ar}{ds dq:List D}(h0:fa Z=some as)(h1:gG Z as=some ds)(h2:jF (cT as)/\as.all (kY (cT as))=true)(h3:G ds=some (d,dq))(hl:dq.length=(cT as).length)(e:j3 Z (cT as) dq=ρ'):((aX (λa=>(a,Z)) (fa Z)).bind λa=>fL G a.fst a.snd)=some (d,ρ'):=by
 rw[h0,jt,ax];exact yM h1 h2 h3 hl e
theorem uv(h:f Z=some (d,ρ')):ik f Z=some (.nx ρ'):=by
 unfold ik;rw[h];rfl
noncomputable def bP:Option B->Bool
 |some (.aB _ (_::_))=>false
 |_=>true
theorem du(h:Z.all bP=true):Al Z:=λb hb=>by
 have:=gA.mp h b hb
 match b,this with
 |none,_=>exact .inl i6
 |some (.own _),_=>exact .inl cZ
 |some (.ro _),_=>exact .inl dO
 |some (.aB r []),_=>exact .inr ⟨r,rfl⟩
theorem bx(h1:fa Z=some (a,ρ1))(h2:fr ρ1=some (r,ag)):eJ fa fr Z=some (a::r,ag):=by
 unfold eJ;rw[h1,ax];dsimp only;rw[h2];rfl
theorem gS(h:f Z=some (l,ρ1))(hl:l.length<=12):kU f Z=some (.nd .tup l,ρ1):=by
 unfold kU;rw[h,ax];exact if_pos (b7 hl (by decide))
theorem S9(h:f Z=some (l,ρ1))(hl:l.length<=12):ju f Z=some (.nd .lst l,ρ1):=by
 unfold ju;rw[h,ax];exact if_pos (b7 hl (by decide))
theorem adY(h1:fa Z=some (l,ρ1))(h2:g l=some d):oK g fa Z=some (d,ρ1):=by
 unfold oK;rw[h1,ax,h2];rfl
theorem jJ(h:f Z=some l)(hl:l.length<=12):d7 k f Z=some (.nd k l):=by
 unfold d7;rw[h,ax];exact if_pos (b7 hl (by decide))
theorem bw(h1:fa Z=some a)(h2:fr Z=some r):ar fa fr Z=some (a::r):=by
 unfold ar;rw[h1,ax,h2];rfl
theorem Ta(h:fp Z=some q)(hd:gp Z q=some d)(pl:VL.plain d=true)(h2:fr Z=some as):fB fp fr Z=some (.tm d::as):=by
 unfold fB;rw[h,ax,hd,ax,if_pos pl,h2];rfl
theorem adZ(h:fp Z=some q)(hd:gp Z q=some d)(pl:VL.plain d=false)(h2:fr Z=some as):fB fp fr Z=some (.rv q d::as):=by
 unfold fB;rw[h,ax,hd,ax,if_neg (by rw[pl];exact df),h2];rfl
theorem ad0(h1:fa Z=some (.rt r p))(hd:gp Z (.rt r p)=some d)(h2:fb Z=some b)(h3:g d b=some i)(h4:jh d i=some c)(np:VL.plain d=false):dF g fa fb Z=some (.rt r (p++ [i])):=by
 unfold dF;rw[h1,ax,h2,ax,hd,ax,h3,ax];unfold oC;rw[hd,ax,h4,ax];dsimp only;rw[if_neg (by rw[np];exact df)]
section
variable {α β κ:Type}[DecidableEq β][DecidableEq κ]
end
theorem sf(al:Al Z)(h1:fp Z=some (.rt r []))(hr:aV Z r=some (.nd .lst aS))(h2:fe Z=some d)(hl:aS.length < 2000):ik (kx fp fe) Z=some (.nx (Z.set r (some (.own (.nd .lst (aS++ [d])))))):=by
 have hn:kz Z r []=some (.nd .lst aS, .lst,aS):=by
  unfold kz;rw[hr,ax,k9];rfl
 refine uv (d:= .sc .aG) ?_;unfold kx;rw[h1,ax];dsimp only;rw[h2,ax];unfold lO;rw[hn,ax];dsimp only;unfold oI;rw[if_pos (dI hl (by decide)),jt,jt,o4 al,jj]
theorem asx{α:Type}(N:Nat)(g:α->D)(P:Nat->En->Prop):∀(l:List α),(∀a∈l,∀j Z,j < N->P j Z->∃ρ1 ρ',fg (g a) Z=some ρ1/\fb ρ1=some (.nx ρ')/\P (j + 1) ρ')->∀(j:Nat) (Z:En),P j Z->j + l.length<=N->∃ρ',eB fg fb (l.map g) Z=some (.nx ρ')/\P (j + l.length) ρ'
 | [],_,j,Z,h,_=>⟨Z,rfl,h⟩
 |a::l,st,j,Z,h,hn=>by
  obtain⟨ρ1,ρ',e1,e2,hP⟩:=st a (.head _) j Z (by simp at hn;lia) h;obtain⟨ag,e3,avA⟩:=asx N g P l (λb hb=>st b (.tail _ hb)) (j + 1) ρ' hP (by simp at hn;lia);refine⟨ag, ?_,by rw[show j + (a::l).length=j + 1 + l.length by simp;lia];exact avA⟩;rw[cP,eB,e1];show(fb ρ1).bind _=_;rw[e2];exact e3
theorem an2(h:f Z=some (.nd .lst cs,ρ1))(p:bI cs=true):SH f Z=some (.nd .e8 cs,ρ1):=by
 have e:Eg (.nd .lst cs)= .nd .e8 cs:=by
  show(if bI cs=true then _ else _)=_;rw[if_pos p]
 unfold SH;rw[h,jt];dsimp only;rw[e]
end SF
namespace TX
open PySem L2 PySem.W PyProof.Rows PySem.NumText
noncomputable abbrev b6 (x:Str):List Nat:=x.cps.toList
theorem e7(x:Str):(b6 x).length=x.length:=by simp[VM]
theorem aoT:∀{ps qs:List (List Nat)},ps≠ []->qs≠ []->eU c (ps++qs)=eU c ps++c::eU c qs
 | [],_,h,_=>absurd rfl h
 | [p],q::r,_,_=>rfl
 | [p], [],_,h=>absurd rfl h
 |p::p2::r,qs,_,h=>by
  show p++c::eU c ((p2::r)++qs)=(p++c::eU c (p2::r))++_;rw[aoT (ll _ _) h];simp
theorem aoU(c:Nat):∀(e:Nat) {qs:List (List Nat)},qs≠ []->eU c (ki e []++qs)=ki e c++eU c qs
 |0,_,_=>rfl
 |e + 1,qs,h=>by
  rw[apl,zr, <- at6,aoT (ll _ _) (by simp[h]),aoU c e h,apl];rfl
theorem asy(c:Nat):∀(e:Nat) {qs:List (List Nat)},qs≠ []->eU c (qs++ki e [])=eU c qs++ki e c
 |0,qs,_=>by simp
 |e + 1,qs,h=>by
  rw[apl, <- at6, <- b8,asy c e (by simp),aoT h (ll _ _),apl];simp[eU]
theorem map_inj:∀{l m:List Str},l.map b6=m.map b6->l=m
 | [], [],_=>rfl
 | [],_::_,h=>by cases h
 |_::_, [],h=>by cases h
 |a::r,b::s,h=>by
  obtain⟨h1,h2⟩:=aop h;rw[aut h1,map_inj h2]
theorem aqS(ne:ps≠ [])(fr:∀p∈ps,c∉b6 p)(h:b6 x=eU c (ps.map b6)):d5 x ⟨#[c]⟩=ps:=by
 have e1:=aot c (d5 x ⟨#[c]⟩);rw[ayc]at e1;refine map_inj (arO (c:=c) (λz=>auu x ⟨#[c]⟩ (aua.mp z)) (λz=>ne (aua.mp z)) (λp hp=> ?_) (λp hp=> ?_) (e1.symm.trans h))
 ·obtain⟨q,hq,rfl⟩:=gY.mp hp;exact StrLaws.split_free x c q hq
 ·obtain⟨q,hq,rfl⟩:=gY.mp hp;exact fr q hq
theorem aru(a w v:Str)(ws:List Str):b6 (FP a (w::v::ws))=b6 w++(b6 a++b6 (FP a (v::ws))):=by
 show b6 (ahg a (w::v::ws))=_++(_++b6 (ahg a (v::ws)));rw[ahh,ahh];show b6 ((w++a)++Str.join a (v::ws))=_;unfold b6;rw[nk,nk,b8]
theorem join_one(a w:Str):FP a [w]=w:=by
 show ahg a [w]=w;rw[ahh];rfl
theorem aqT(a:Str)(ws:List Str):(FP a ws).length<=(ws.map (·.length)).sum + ws.length * a.length:=by
 show(ahg a ws).length<=_;rw[ahh];exact StrLaws.join_length_le a ws
theorem avB(ne:ps≠ [])(fr:∀p∈ps,c∉b6 p):d5 (FP ⟨#[c]⟩ ps) ⟨#[c]⟩=ps:=by
 refine aqS ne fr ?_;show b6 (ahg ⟨#[c]⟩ ps)=_;rw[ahh];exact aot c ps
noncomputable def vj (m:Nat):List Str->List Str
 | []=> []
 | [w]=> [w]
 |w::v::ws=>w::(ki m xf++vj m (v::ws))
theorem aqU:vj m (w::ws)≠ []:=by cases ws <;> exact ll _ _
theorem asz(m:Nat):∀{ws:List Str},ws≠ []->∀{b:Str},b6 b=ki (m + 1) 32->eU 32 ((vj m ws).map b6)=b6 (FP b ws)
 | [],h,_,_=>absurd rfl h
 | [w],_,_,_=>by rw[join_one];rfl
 |w::v::ws,_,b,hb=>by
  rw[aru, <- asz m (ll v ws) hb,hb];show eU 32 (([w]++(ki m xf++vj m (v::ws))).map b6)=_;rw[cK,cK,arC];rw[aoT (ps:=List.map b6 [w]) (ll _ _) (by simp[aqU])];rw[show b6 xf= [] from rfl,aoU 32 m (by simp[aqU]),apl];simp[eU]
theorem asA:∀{ws:List Str},(∀p∈ws,32∉b6 p)->∀p∈vj m ws,32∉b6 p
 | [],_,p,hp=>by cases hp
 | [w],h,p,hp=>h p hp
 |w::v::ws,h,p,hp=>by
  rcases bL.mp hp with z | z
  ·exact h p (by rw[z];exact .head _)
  ·rcases lZ.mp z with z | z
   ·rw[(aoq.mp z).2];exact dh
   ·exact asA (λq hq=>h q (.tail _ hq)) p z
noncomputable def gD (x:Str):Bool:=decide (x≠xf)
theorem aoV(e:Nat):(ki e xf).filter gD= []:=List.filter_eq_nil_iff.mpr λa ha=>by rw[(aoq.mp ha).2];decide
theorem asB:∀{ws:List Str},(∀p∈ws,gD p=true)->(vj m ws).filter gD=ws
 | [],_=>rfl
 | [w],h=>by
  show [w].filter gD=_;rw[at5 (h w (.head _))];rfl
 |w::v::ws,h=>by
  show(w::(ki m xf++vj m (v::ws))).filter gD=_;rw[at5 (h w (.head _)),aub,aoV,asB λp hp=>h p (.tail _ hp)];rfl
theorem avC(ne:ws≠ [])(fr:∀p∈ws,32∉b6 p)(nn:∀p∈ws,gD p=true)(hb:b6 b=ki (m + 1) 32)(h0:b6 e0=ki i 32)(h1:b6 e1=ki j 32)(hx:x=e0++FP b ws++e1):(d5 x ⟨#[32]⟩).filter gD=ws:=by
 have mn:vj m ws≠ []:=by cases ws with
  |nil=>exact absurd rfl ne
  |cons w r=>exact aqU
 have e:d5 x ⟨#[32]⟩=ki i xf++(vj m ws++ki j xf):=by
  refine aqS (by simp[mn]) (λp hp=> ?_) ?_
  ·rcases lZ.mp hp with z | z
   ·rw[(aoq.mp z).2];exact dh
   ·rcases lZ.mp z with z | z
    ·exact asA fr p z
    ·rw[(aoq.mp z).2];exact dh
  ·rw[hx];unfold b6 at h0 h1 |-;rw[nk,nk,h0,h1,cK,cK,arC,arC];rw[show(xf.cps.toList:List Nat)= [] from rfl,aoU 32 i (by simp[mn]),asy 32 j (by simp[mn]),asz m ne hb];simp
 rw[e,aub,aub,aoV,aoV,asB nn];simp
theorem avD(h:b6 x=ki i 32):(d5 x ⟨#[32]⟩).filter gD= []:=by
 have e:d5 x ⟨#[32]⟩=ki (i + 1) xf:=by
  refine aqS (by simp) (λp hp=>by rw[(aoq.mp hp).2];exact dh) ?_;rw[h,arC,show b6 xf= [] from rfl,List.replicate_succ',aoU 32 i (ll _ _)];simp[eU]
 rw[e,aoV]
theorem asC(m:Nat):OK 10 m≠ []:=λe=>by
 have h:=toDigits_len_ge 10 m;rw[e]at h;exact absurd h (by decide)
theorem avE:∀m:Nat,m≠0->(OK 10 m).head?≠some '0':=by
 intro m
 induction m using Nat.strongRecOn with
 |_ m ih=>
  intro h0;by_cases h:m < 10
  ·rw[Nat.toDigits_of_lt_base h];have:∀k:Nat,k < 10->k≠0-> [Nat.digitChar k].head?≠some '0':=by decide
   exact this m h h0
  ·have hm:m % 10 < 10:=Nat.mod_lt m (by decide);have t:OK 10 (m / 10)++OK 10 (m % 10)=OK 10 (10 * (m / 10) + m % 10):=Nat.toDigits_append_toDigits (by decide) (by lia) hm;rw[Nat.div_add_mod]at t;rw[<- t];have:=ih (m / 10) (by lia) (by lia);cases e:OK 10 (m / 10) with
   |nil=>exact absurd e (asC _)
   |cons a r=>rw[e]at this;exact this
noncomputable def b5 (n:Int):Str:=ae (toString n)
structure aqV(n:Int)(x:Str):Prop where
 dig:∀c∈b6 x,48<=c/\c<=57
 ne:1<=x.length
 len:x.length<=12
 hd:(b6 x).head?=some 48->x=⟨#[48]⟩
 rd:arB x=some n
theorem aoW(h0:0<=n)(h1:n < 10 ^ 12):aqV n (b5 n):=by
 have hl:(b5 n).length<=12:=toString_length_le h0 (by decide) h1;obtain⟨m,rfl⟩:=ayd h0;have sg:b6 (b5 (m:Int))=(OK 10 m).map Char.toNat:=KIN.signs_num m;have hd:∀c∈b6 (b5 (m:Int)),48<=c/\c<=57:=by
  intro c hc;rw[sg]at hc;obtain⟨ch,sT,e⟩:=gY.mp hc;have r:=digit_range (Nat.isDigit_of_mem_toDigits (by decide) (by decide) sT);rw[<- e];exact r
 have qp:b6 (b5 (m:Int))≠ []:=by
  rw[sg];exact λe=>asC m (aua.mp e)
 have hd2:AllDigits (b5 (m:Int)).cps.toList:=hd;have e:=intText_digits hd2 qp (b7 hl (by decide));rw[show(b5 (m:Int)).cps.toList=(OK 10 m).map Char.toNat from sg,KIN.val_back]at e;refine⟨hd, ?_,hl,λh=> ?_,e⟩
 ·rw[<- e7];exact List.length_pos_iff.mpr qp
 ·by_cases z:m=0
  ·subst z;decide +kernel
  ·rw[sg,List.head?_map]at h;obtain⟨c,hc,avF⟩:=aY.mp h;have:c='0':=by
    apply Char.ext;apply UInt32.toNat_inj.mp;exact avF
   rw[this]at hc;exact absurd hc (avE m z)
end TX
namespace K57
open PySem L2 VL
open SF (Al du o4 jj k9 yM BA uv sf bP)
theorem aj{α β:Type}{x:Option α}{a:α}{f:α->Option β}{r:Option β}(h:x=some a)(hr:f a=r):x.bind f=r:=by rw[h,ax,hr]
theorem bY(h1:fa Z=some a)(h2:fb Z=some b)(h:g a b=r):au g fa fb Z=r:=by
 unfold au;rw[h1,ax,h2,ax,h]
theorem MP(e:t Z=some (.rt d ρ')):fA t u Z=some (.rt d ρ'):=by
 unfold fA;rw[e];rfl
theorem pb{G:List D->Option (D×List D)}{fa:En->Option (List Ar)}{Z:En}{as:List Ar}(al:Al Z)(hr:aV Z r=some d0)(h0:fa Z=some as)(h1:gG Z as=some ds)(h2:cT as= [⟨r, []⟩])(h3:as.all (kY [⟨r, []⟩])=true)(hG:G ds=some (d, [d'])):((aX (λa=>(a,Z)) (fa Z)).bind λa=>fL G a.fst a.snd)=some (d,Z.set r (some (.own d'))):=by
 refine SF.S8 h0 h1 ?_ hG ?_ ?_
 ·rw[h2];exact⟨N4 _ _,h3⟩
 ·rw[h2];rfl
 ·rw[h2];exact BA al hr d'
noncomputable def ael (z:Str) (c:Nat):Bool:= !(Nz z ⟨#[c]⟩ 0 z.length 1).isEmpty
def E5(t z:Str):Bool:=t.cps.toList.all (ael z)
noncomputable def nS:Str:=ae "abcdefghijklmnopqrstuvwxyz0123456789"
noncomputable def cS:Str:=ae "abcdefghijklmnopqrstuvwxyz0123456789."
def aoX(t:Str):Bool:=decide (1<=t.length/\t.length<=8) && E5 t nS
def c9(t:Str):Bool:=decide (t.length<=200) && E5 t cS
theorem BH{α:Type}(f:α->Bool):∀l:List α,iP (l.map λc=>D.sc (.bl (f c)))=some (l.map f)
 | []=>rfl
 |c::l=>by
  rw[cP,iP,BH f l];rfl
theorem Mf(h0:af 0 Z=some (sD t))(h1:af 1 Z=some (sD z))(hz:t.length<=1000):
  (ar (iJ 2 [none,some 1] [0] (λZ=>(af 0 Z).bind fP) (λd Z=>some (bq 0 (B.ro d) Z)) (λx=>some true) (au (λa b=>aX (λb=>D.sc (V.bl b)) (nT a b)) (af 0) (af 1))) (λx=>some []) Z).bind iq=some (.sc (.bl (E5 t z))):=by
 have hc:gH 2 [none,some 1] Z= [none,some (.ro (sD z))]:=by
  show [none,if 1 < 2 then(af 1 Z).map B.ro else none]=_;rw[h1];rfl
 have hl:t.cps.toList.length<=aM:=by
  have e1:t.cps.toList.length=t.length:=by simp[VM]
  rw[e1];exact b7 hz (by decide)
 have e:=qD (n:=2) (js:= [none,some 1]) (is:= [0]) (fi:=λZ=>(af 0 Z).bind fP) (fg:=λd Z=>some (bq 0 (B.ro d) Z)) (ft:=λx=>some true) (fe:=au (λa b=>aX (λb=>D.sc (V.bl b)) (nT a b)) (af 0) (af 1)) (Z:=Z) t.cps.toList (λc=> .sc (.str ⟨#[c]⟩)) (λ_=>true) (λc=> .sc (.bl (ael z c)))
  (by show(af 0 Z).bind fP=_;rw[h0];rfl) hl rfl (λa _=>⟨bq 0 (.ro (.sc (.str ⟨#[a]⟩))) [none,some (.ro (sD z))],by rw[hc],rfl,λ_=>rfl⟩)
 have e2:(t.cps.toList.filter λ_=>true)=t.cps.toList:=uV.mpr λ_ _=>rfl;rw[e2]at e;unfold ar;rw[e];show iq [.nd .lst _]=_;show(iP _).map _=_;rw[BH];show some (D.sc (.bl ((t.cps.toList.map (ael z)).all id)))=_;rw[List.all_map];rfl
theorem Ti(t z:Str)(hz:t.length<=1000):Li K C [sD t,sD z]=some (.sc (.bl (E5 t z))):=by
 unfold Li Lh;dsimp only;refine fQ (ρ':= [some (.ro (sD t)),some (.ro (sD z))]) (cD (e9 ?_));exact Mf rfl rfl hz
theorem Tj(t:Str)(hz:t.length<=1000):fI [sD t]=some (iD t.length):=by
 show(if t.length<=aM then _ else _)=_;rw[if_pos (b7 hz (by decide))]
theorem Tn(h0:af 0 Z=some (sD t))(hz:t.length<=1000):ng (iO λi j=>V.bl (decide (i<=j))) (iO λi j=>V.bl (decide (i<=j))) (λx=>some (D.sc (V.int 1))) (λZ=>(ar (af 0) (λx=>some []) Z).bind fI) (λx=>some (D.sc (V.int 8))) Z=some (.sc (.bl (decide (1<=t.length/\t.length<=8)))):=by
 have e:(ar (af 0) (λx=>some []) Z).bind fI=some (iD t.length):=by
  unfold ar;rw[h0];exact Tj t hz
 by_cases c1:1<=t.length
 ·have E6:(1:Int)<=(t.length:Int):=by lia
  by_cases c2:t.length<=8
  ·have wB:(t.length:Int)<=8:=by lia
   simp[ng,e,iO,c1,c2,E6,wB]
  ·have wB:¬ (t.length:Int)<=8:=by lia
   simp[ng,e,iO,c1,c2,E6,wB]
 ·have E6:¬ (1:Int)<=(t.length:Int):=by lia
  simp[ng,e,iO,c1,E6]
theorem aem(t:Str)(hz:t.length<=1000):EW K C [sD t]=some (.sc (.bl (aoX t))):=by
 unfold EW LC;dsimp only;refine fQ (ρ':= [some (.ro (sD t))]) (cD ?_);show gm _ [some (.ro (sD t))]=_;unfold gm;dsimp only;rw[Tn (t:=t) rfl hz];unfold aoX;cases decide (1<=t.length/\t.length<=8) with
 |false=>rfl
 |true=>
  rw[ax];dsimp only;have e:(ar (af 0) (ar (λx=>some (D.sc (V.str (ae "abcdefghijklmnopqrstuvwxyz0123456789")))) λx=>some []) [some (.ro (sD t))])=some [sD t,sD nS]:=rfl;rw[e,ax,if_pos (by rfl),Ti t nS hz];rfl
theorem To(h0:af 0 Z=some (sD t))(hz:t.length<=1000):au (iO λi j=>V.bl (decide (i<=j))) (λZ=>(ar (af 0) (λx=>some []) Z).bind fI) (λx=>some (D.sc (V.int 200))) Z=some (.sc (.bl (decide (t.length<=200)))):=by
 have e:(ar (af 0) (λx=>some []) Z).bind fI=some (iD t.length):=by
  unfold ar;rw[h0];exact Tj t hz
 by_cases c2:t.length<=200
 ·have wB:(t.length:Int)<=200:=by lia
  simp[au,e,iO,c2,wB]
 ·have wB:¬ (t.length:Int)<=200:=by lia
  simp[au,e,iO,c2,wB]
theorem aeo(t:Str)(hz:t.length<=1000):EV K C [sD t]=some (.sc (.bl (c9 t))):=by
 unfold EV LB;dsimp only;refine fQ (ρ':= [some (.ro (sD t))]) (cD ?_);show gm _ [some (.ro (sD t))]=_;unfold gm;dsimp only;rw[To (t:=t) rfl hz];unfold c9;cases decide (t.length<=200) with
 |false=>rfl
 |true=>
  rw[ax];dsimp only;have e:(ar (af 0) (ar (λx=>some (D.sc (V.str (ae "abcdefghijklmnopqrstuvwxyz0123456789.")))) λx=>some []) [some (.ro (sD t))])=some [sD t,sD cS]:=rfl;rw[e,ax,if_pos (by rfl),Ti t cS hz];rfl
def lD(L:Int):D:= .nd .lst [iD L]
theorem afD(cs:List Int)(k:Nat):∃c:Int,EI K C [ou cs,iD k]=some (iD c):=by
 by_cases h:k < cs.length
 ·exact⟨cs[k],by simp[EI,EH,ou,h,HT.bE,i5,pO,pP,jH,en,iq,gP,VL.andM,lN,kX,oI,kx,vx,mY,gG,cT,dU,gV,bD,bq,binds,iP,dG,bV,gn,An,fB,mr,zz,fL,gH,mx,oK,ng,ar,eJ,af,fW,ik,fV,qA,j3,eB,ir,aI,j5,dn,gv,oA,cg,nT,iO,lP,kB,intD,bW,oJ,qz,m4,sG,oN,Sh,fP,mq,gC,dF,gQ,cn,ay,dg,kJ,jh,fI,i4,lO,ju,qC,pQ,kr,d7,kz,mZ,au,hZ,mV,bU,iG,gp,oC,aT,VL.plain,bI,gm,gJ,cM,el,fO,g9,jg,aV,jF,kY,fA,rT,oU,aZ,oS,td,rQ,i9,ku,vX,kU,mv,m6,Sz,y9,mM,qk,oq,lS,akr,t9,uc,ud,ue,uf]⟩
 ·exact⟨0,by simp[EI,EH,ou,h,HT.bE,i5,pO,pP,jH,en,iq,gP,VL.andM,lN,kX,oI,kx,vx,mY,gG,cT,dU,gV,bD,bq,binds,iP,dG,bV,gn,An,fB,mr,zz,fL,gH,mx,oK,ng,ar,eJ,af,fW,ik,fV,qA,j3,eB,ir,aI,j5,dn,gv,oA,cg,nT,iO,lP,kB,intD,bW,oJ,qz,m4,sG,oN,Sh,fP,mq,gC,dF,gQ,cn,ay,dg,kJ,jh,fI,i4,lO,ju,qC,pQ,kr,d7,kz,mZ,au,hZ,mV,bU,iG,gp,oC,aT,VL.plain,bI,gm,gJ,cM,el,fO,g9,jg,aV,jF,kY,fA,rT,oU,aZ,oS,td,rQ,i9,ku,vX,kU,mv,m6,Sz,y9,mM,qk,oq,lS,akr,t9,uc,ud,ue,uf]⟩
theorem afE(c m:Int)(hm:0 < m)(h2:m < 2 ^ 200):Bp K C [lD c,iD m]=some (iD (c % m), [lD (c / m)]):=by
 have h3:m < 1606938044258990275541962092341162602522202993782792835301376:=h2;unfold lD;simp[Bp,KG,oX,hm,h3,HT.bE,i5,pO,pP,jH,en,iq,gP,VL.andM,lN,kX,oI,kx,vx,mY,gG,cT,dU,gV,bD,bq,binds,iP,dG,bV,gn,An,fB,mr,zz,fL,gH,mx,oK,ng,ar,eJ,af,fW,ik,fV,qA,j3,eB,ir,aI,j5,dn,gv,oA,cg,nT,iO,lP,kB,intD,bW,oJ,qz,m4,sG,oN,Sh,fP,mq,gC,dF,gQ,cn,ay,dg,kJ,jh,fI,i4,lO,ju,qC,pQ,kr,d7,kz,mZ,au,hZ,mV,bU,iG,gp,oC,aT,VL.plain,bI,gm,gJ,cM,el,fO,g9,jg,aV,jF,kY,fA,rT,oU,aZ,oS,td,rQ,i9,ku,vX,kU,mv,m6,Sz,y9,mM,qk,oq,lS,akr,t9,uc,ud,ue,uf]
def lr(K:ah)(C:Addr)(i:Nat)(fm:En->Option D)(Z:En):Option (D×En):=(aX (λa=>(a,Z)) (gn (aT i) (mr fm λx=>some []) Z)).bind λa=>fL (Bp K C) a.fst a.snd
theorem avG(al:Al Z)(hp:aT i Z=some (.rt r []))(hr:aV Z r=some (lD L))(hf:fm Z=some (iD m))(hm:0 < m)(h2:m < 2 ^ 200):lr K C i fm Z=some (iD (L % m),Z.set r (some (.own (lD (L / m))))):=by
 refine pb (r:=r) (ds:= [lD L,iD m]) (as:= [.io ⟨r, []⟩, .tm (iD m)]) al hr ?_ ?_ rfl rfl (afE L m hm h2)
 ·unfold gn;rw[hp,ax];dsimp only;unfold mr;rw[hf];rfl
 ·unfold gG;rw[show mY Z (.io ⟨r, []⟩)=some (lD L) from by
   show(aV Z r).bind (aI · [])=_;rw[hr,ax,k9]]
  rfl
theorem uD{α:Type}(g:α->D)(l:List α)(j:Int)(h0:0<=j)(h1:j < l.length)(hp:∀a,VL.plain (g a)=true):∃a∈l,gQ ay cn (.nd .lst (l.map g)) (iD j)=some (g a):=by
 have hj:j.toNat < l.length:=by lia
 refine⟨l[j.toNat],Co hj, ?_⟩;unfold gQ;have e:dg ay cn (.nd .lst (l.map g)) (iD j)=some (g l[j.toNat]):=by
  have e1:mq (.nd .lst (l.map g)) (iD j)=some j.toNat:=by
   show gC (l.map g).length j=_;unfold gC;rw[if_pos h0,bb,if_pos h1]
  show(ay (.nd .lst (l.map g)) (iD j)).bind (jh (.nd .lst (l.map g)))=_;unfold ay;rw[e1];show(l.map g)[j.toNat]?=_;rw[bJ,dH hj];rfl
 rw[e,ax,if_pos (hp _)]
theorem Ul(h:f Z=some (iD a,ρ1)):ku (hZ (dN id) f λZ=>aX (λd=>(d,Z)) (some (D.sc (V.int b)))) Z=some (decide (a=b),ρ1):=
 IP (j7 h rfl (oX a b))
theorem strs_map(l:List Str):wN (l.map sD)=some l:=by
 induction l with
 |nil=>rfl
 |cons a l ih=>rw[cP,wN,ih];rfl
def lj(Z:En):Prop:=∀b∈Z,NA b
theorem tR(h:lj Z)(i:Nat)(b:B):bq i b Z=Z.set i (some b):=by
 unfold bq;have:eI i Z=Z:=by
  unfold eI;refine(Cs λx hx=> ?_).trans (Wg Z);have:=h x hx
  match x,this with
  |none,_=>rfl
  |some (.own _),_=>rfl
  |some (.ro _),_=>rfl
  |some (.aB r p),z=>exact absurd rfl (z r p)
 rw[this]
theorem lj.set(h:lj Z)(i:Nat)(hb:NA b):lj (Z.set i b):=λx hx=>by
 rcases aiM hx with z | z
 ·exact h x z
 ·subst z;exact hb
theorem lj.al(h:lj Z):Al Z:=λb hb=> .inl (h b hb)
theorem alI:j5 2 (ir (λd Z=>some (bq i (B.ro d) Z)) (ir (λd Z=>some (bq j (B.ro d) Z)) λds Z=>match ds with | []=>some Z | x=>none)) (.nd .tup [a,b]) Z=some (bq j (.ro b) (bq i (.ro a) Z)):=rfl
theorem UH(h:∀b∈Z,NA b\/∃r p,b=some (.aB r p)/\r≠i):eI i Z=Z:=by
 unfold eI;refine(Cs λx hx=> ?_).trans (Wg Z);rcases h x hx with z | ⟨r,p,rfl,hr⟩
 ·match x,z with
  |none,_=>rfl
  |some (.own _),_=>rfl
  |some (.ro _),_=>rfl
  |some (.aB r p),z=>exact absurd rfl (z r p)
 ·show(if r=i then none else some (B.aB r p))=_;rw[if_neg hr]
theorem agc(h:∀b∈Z,NA b\/∃r p,b=some (.aB r p)/\r≠i):bq i b Z=Z.set i (some b):=by
 unfold bq;rw[UH h]
open TX
theorem aq(h:o=some (.sc (.bl b))):(o.bind λx=>match x with | D.sc (V.bl b)=>some b | x=>none)=some b:=by rw[h];rfl
theorem c3{c:En->Option Bool}{f u:En->Option Fl}(h:c Z=some false)(hu:u Z=r):fA (gv (λZ=>aX (λb=>(b,Z)) (c Z)) f λZ=>some (.nx Z)) u Z=r:=by
 unfold fA gv;dsimp only;rw[h];exact hu
theorem gF{c:En->Option Bool}{f u g:En->Option Fl}(h:c Z=some true)(hf:f Z=some (.rt d ρ')):fA (gv (λZ=>aX (λb=>(b,Z)) (c Z)) f g) u Z=some (.rt d ρ'):=by
 unfold fA gv;dsimp only;rw[h];show(f Z).bind _=_;rw[hf];rfl
theorem Hm(h1:a Z=some false)(h2:b Z=some false):mV a b Z=some false:=by
 unfold mV;rw[h1];exact h2
theorem an3(h1:a Z=some false):lN a b Z=some false:=by
 unfold lN;rw[h1];rfl
theorem oW(h1:a Z=some true)(h2:b Z=r):lN a b Z=r:=by
 unfold lN;rw[h1];exact h2
theorem an4(h:o=some b)(e:(!b)=c):aX (λx=> !x) o=some c:=by rw[h, <- e];rfl
theorem dk{ds:List D}{n:Nat}(h:ds.length=n)(e:x=r):(if ds.length=n then x else none)=r:=by rw[if_pos h,e]
theorem aoY(h:c Z=some true)(e:a Z=r):oA c a b Z=r:=by
 unfold oA;rw[h];exact e
theorem asD(h:c Z=some false)(e:b Z=r):oA c a b Z=r:=by
 unfold oA;rw[h];exact e
theorem E8(h:f Z=some d)(p:VL.plain d=true):gm f Z=some (d,Z):=by
 unfold gm;rw[h,ax,if_pos p]
theorem an5(h1:fa Z=some a)(h2:fb Z=some b)(h3:fc Z=some c)(h:g a b=some (.sc (.bl true)))(e:g' b c=r):ng g g' fa fb fc Z=r:=by
 unfold ng;rw[h1,ax,h2,ax,h3,ax,h];exact e
theorem xk(h:a<=b):iO (λi j=>V.bl (decide (i<=j))) (iD a) (iD b)=some (.sc (.bl true)):=by
 show some (D.sc (.bl (decide (a<=b))))=_;rw[decide_eq_true h]
theorem atR(h:a < b):iO (λi j=>V.bl (decide (i < j))) (iD a) (iD b)=some (.sc (.bl true)):=by
 show some (D.sc (.bl (decide (a < b))))=_;rw[decide_eq_true h]
theorem asE(h:b<=a):iO (λi j=>V.bl (decide (j<=i))) (iD a) (iD b)=some (.sc (.bl true)):=by
 show some (D.sc (.bl (decide (b<=a))))=_;rw[decide_eq_true h]
theorem avH(h:a < b):iO (λi j=>V.bl (decide (j<=i))) (iD a) (iD b)=some (.sc (.bl false)):=by
 show some (D.sc (.bl (decide (b<=a))))=_;rw[decide_eq_false (by lia)]
def gw(x:Str):Bool:=(b6 x).all (λc=>decide (33<=c) && decide (c < 127)) && decide (1<=x.length) && decide (x.length<=200)
structure Gw(x:Str):Prop where
 ch:∀c∈b6 x,33<=c/\c < 127
 ne:1<=x.length
 le:x.length<=200
theorem IM(h:gw x=true):Gw x:=by
 unfold gw at h;simp only[kM,decide_eq_true_eq,gA]at h;exact⟨h.1.1,h.1.2,h.2⟩
theorem Gw.jn(h:Gw x):eg x=true:=by
 show x.cps.all _=true;rw[<- Array.all_toList,gA];intro c hc;have:=h.ch c hc;exact decide_eq_true (by lia)
theorem Gw.avI(h:Gw x):32∉b6 x:=λm=>by have:=h.ch 32 m;lia
theorem Gw.aqW(h:Gw x):10∉b6 x:=λm=>by have:=h.ch 10 m;lia
theorem Gw.gD(h:Gw x):TX.gD x=true:=by
 refine decide_eq_true λe=> ?_;have:=h.ne;rw[e]at this;exact absurd this (by decide)
theorem Gw.len(h:Gw x):x.length<=1000:=b7 h.le (by decide)
noncomputable def fS:Str:=ae "0123456789"
theorem avJ:∀c:Nat,48<=c/\c<=57->ael fS c=true:=by
 have:((List.range' 48 10).all λc=>ael fS c)=true:=by decide +kernel
 intro c hc;refine gA.mp this c ?_;rw[List.mem_range'_1]
 lia
theorem aoZ(h:aqV n x):Gw x:=⟨λc hc=>by have:=h.dig c hc;lia,h.ne,b7 h.len (by decide)⟩
theorem asF(h:aqV n x):aoN K C [sD x]=some (iD n):=by
 have hz:=(aoZ h).len;have hs:=(aoZ h).jn;unfold aoN aqs;dsimp only;refine fQ (ρ':= [some (.ro (sD x))]) (c3 (Hm (an4 (aq ?_) (b:=true) rfl) (an4 (aq ?_) (b:=true) rfl)) (c3 ?_ (cD (e9 ?_))))
 ·have e:(ar (af 0) (λx=>some []) [some (B.ro (sD x))]).bind fI=some (iD x.length):=Tj x hz;have c1:(1:Int)<=(x.length:Int):=by have:=h.ne;lia
  have c2:(x.length:Int)<=12:=by have:=h.len;lia
  exact an5 (a:=iD 1) (b:=iD x.length) (c:=iD 12) rfl e rfl (xk c1) (xk c2)
 ·refine aj (a:= [sD x,sD fS]) rfl (dk rfl ?_);rw[Ti x fS hz];have:E5 x fS=true:=gA.mpr λc hc=>avJ c (h.dig c hc);rw[this]
 ·by_cases c:xP x (ae "0")=true
  ·refine oW (aq (b:=true) ?_) (aq ?_)
   ·show some (D.sc (.bl (xP x (ae "0"))))=_;rw[c]
   ·refine bY (a:=sD x) (b:=sD (ae "0")) rfl rfl ?_;rw[sD,sD,Rf x (ae "0") hs (by decide +kernel)];have e0:(ae "0":Str)=⟨#[48]⟩:=by decide +kernel
    rw[e0,arP,decide_eq_true_eq]at c;rw[e0,h.hd c];rfl
  ·refine an3 (aq ?_);show some (D.sc (.bl (xP x (ae "0"))))=_;rw[Bool.eq_false_iff.mpr c]
 ·show apE [sD x]=_;show(arB x).bind _=_;rw[h.rd,ax,if_pos (b7 h.len (by decide))]
theorem avK:an1 K C [sD (ae "-")]=some (sD (ae "")):=by
 unfold an1 aoM;dsimp only;refine fQ (ρ':= [some (.ro (sD (ae "-")))]) (gF (aq ?_) rfl);exact bY (a:=sD (ae "-")) (b:=sD (ae "-")) rfl rfl ((Ea _ _ (by decide +kernel) (by decide +kernel)).trans (by rw[decide_eq_true rfl]))
theorem avL(g:Gw x)(h:c9 x=true):an1 K C [sD x]=some (sD x):=by
 have ne:x≠ae "-":=λe=>by
  rw[e]at h;exact absurd h (by decide +kernel)
 unfold an1 aoM;dsimp only;refine fQ (ρ':= [some (.ro (sD x))]) (c3 (aq ?_) (cD (E8 (aoY (aq ?_) rfl) rfl)))
 ·exact bY (a:=sD x) (b:=sD (ae "-")) rfl rfl ((Ea _ _ g.jn (by decide +kernel)).trans (by rw[decide_eq_false ne]))
 ·refine aj (a:= [sD x]) rfl (dk rfl ?_);rw[aeo x g.len,h]
inductive At where
 |s (x:Str) | i (n:Int)
noncomputable def Kf:At->V
 |.s x=> .str x
 |.i n=> .int n
def gN(a:At):D:= .sc (Kf a)
inductive Pt:Str->Str->At->Prop
 |num {n:Int}:0<=n->n < 10 ^ 12->Pt (ae "number") (b5 n) (.i n)
 |dash:Pt (ae "content") (ae "-") (.s (ae ""))
 |cont {x:Str}:Gw x->c9 x=true->Pt (ae "content") x (.s x)
 |path {x:Str}:Gw x->(b6 x).head?=some 47->Pt (ae "path") x (.s x)
 |name {x:Str}:Gw x->aoX x=true->Pt (ae "name") x (.s x)
 |sort {x:Str}:x=ae "read"\/x=ae "write"->Pt (ae "sort") x (.s x)
def asG:At->Prop
 |.s x=>eg x=true
 |.i _=>True
theorem Pt.gw(h:Pt k x a):Gw x:=by
 cases h with
 |num h0 h1=>exact aoZ (aoW h0 h1)
 |dash=>exact IM (by decide +kernel)
 |cont g _=>exact g
 |path g _=>exact g
 |name g _=>exact g
 |sort h=>rcases h with rfl | rfl <;> exact IM (by decide +kernel)
theorem Pt.ok(h:Pt k x a):asG a:=by
 cases h with
 |num h0 h1=>trivial
 |dash=>exact(by decide +kernel:eg (ae "")=true)
 |cont g _=>exact g.jn
 |path g _=>exact g.jn
 |name g _=>exact g.jn
 |sort h=>
  rcases h with rfl | rfl
  ·exact(by decide +kernel:eg (ae "read")=true)
  ·exact(by decide +kernel:eg (ae "write")=true)
theorem kq{w z x:Str}{b:Bool}(hw:eg w=true:=by decide +kernel)(hz:eg z=true:=by decide +kernel)(hb:decide (w=z)=b:=by decide +kernel):au (dN id) (af 0) (λ_=>some (D.sc (V.str z))) [some (.ro (sD w)),some (.ro (sD x))]=some (.sc (.bl b)):=bY (a:=sD w) (b:=sD z) rfl rfl ((Ea w z hw hz).trans (by rw[hb]))
theorem avM(h:Pt k x a):aoO K C [sD k,sD x]=some (gN a):=by
 have gx:=h.gw;unfold aoO aqt;dsimp only;cases h with
 | @num n h0 h1=>
  refine fQ (ρ':= [some (.ro (sD _)),some (.ro (sD _))]) (gF (aq kq) (cD (e9 ?_)));exact aj (a:= [sD (b5 n)]) rfl (dk rfl (asF (aoW h0 h1)))
 |dash=>
  refine fQ (ρ':= [some (.ro (sD _)),some (.ro (sD _))]) (c3 (aq kq) (gF (aq kq) (cD (e9 ?_))));exact aj (a:= [sD (ae "-")]) rfl (dk rfl avK)
 |cont g hc=>
  refine fQ (ρ':= [some (.ro (sD _)),some (.ro (sD x))]) (c3 (aq kq) (gF (aq kq) (cD (e9 ?_))));exact aj (a:= [sD x]) rfl (dk rfl (avL g hc))
 |path g hp=>
  refine fQ (ρ':= [some (.ro (sD _)),some (.ro (sD x))]) (c3 (aq kq) (c3 (aq kq) (gF (aq kq) (cD (E8 (aoY (aq ?_) rfl) rfl)))));show some (D.sc (.bl (xP x (ae "/"))))=_;have e0:(ae "/":Str)=⟨#[47]⟩:=by decide +kernel
  rw[e0,arP,decide_eq_true hp]
 |name g hn=>
  refine fQ (ρ':= [some (.ro (sD _)),some (.ro (sD x))]) (c3 (aq kq) (c3 (aq kq) (c3 (aq kq) (gF (aq kq) (cD (E8 (aoY (aq ?_) rfl) rfl))))));refine aj (a:= [sD x]) rfl (dk rfl ?_);rw[aem x g.len,hn]
 |sort hs=>
  refine fQ (ρ':= [some (.ro (sD _)),some (.ro (sD x))]) (c3 (aq kq) (c3 (aq kq) (c3 (aq kq) (c3 (aq kq) (cD (E8 (aoY (aq ?_) rfl) rfl))))));refine bY (a:=sD x) (b:= .nd .tup [sD (ae "read"),sD (ae "write")]) rfl (SF.jJ (SF.bw rfl (SF.bw rfl rfl)) (by decide)) ?_;have e:∀x,x=ae "read"\/x=ae "write"->nT (sD x) (.nd .tup [sD (ae "read"),sD (ae "write")])=some true:=λx hs=>by
   rcases hs with rfl | rfl <;> decide +kernel
  rw[e x hs];rfl
noncomputable abbrev Tr:=Str×Str×At
def Tok(T:List Tr):Prop:=∀t∈T,Pt t.1 t.2.1 t.2.2
def kW(T:List Tr):List D:=T.map λt=>sD t.1
def xW(T:List Tr):List D:=T.map λt=>sD t.2.1
def aW(T:List Tr):List D:=T.map λt=>gN t.2.2
theorem asH:∀T:List Tr,j8 (kW T) (xW T)=T.map λt=> .nd .tup [sD t.1,sD t.2.1]
 | []=>rfl
 |t::T=>by
  show D.nd .tup [sD t.1,sD t.2.1]::j8 (kW T) (xW T)=_;rw[asH T];rfl
theorem asI(T:List Tr):bI (aW T)=true:=vM λd hd=>by
 obtain⟨t,_,rfl⟩:=gY.mp hd;rfl
theorem avN(T:List Tr):bI (xW T)=true:=vM λd hd=>by
 obtain⟨t,_,rfl⟩:=gY.mp hd;rfl
theorem asJ:∀T:List Tr,kZ (aW T)=some (T.map λt=>Kf t.2.2)
 | []=>rfl
 |t::T=>by
  show(kZ (aW T)).map _=_;rw[asJ T];rfl
theorem asK(T:List Tr):nT (.sc .aG) (.nd .lst (aW T))=some false:=by
 show(kZ (aW T)).bind _=_;rw[asJ,ax];have f:(T.map λt=>Kf t.2.2).all eO=true:=gA.mpr λv hv=>by
  obtain⟨t,_,rfl⟩:=gY.mp hv;cases t.2.2 <;> rfl
 rw[if_pos ⟨rfl,f⟩];have n:tH .aG (T.map λt=>Kf t.2.2)=false:=ax4.mpr λv hv=>by
  obtain⟨t,_,rfl⟩:=gY.mp hv;cases t.2.2 <;> exact df
 rw[n]
theorem ax0(n:Int):dN (λx=> !x) (iD n) (iD n)=some (.sc (.bl false)):=(auw n n).trans (by simp)
theorem aer(h:Tok T)(hl:T.length<=12)(hk:qI K kd=some (kW T)):Eb K C [kd, .nd .lst (xW T)]=some (.nd .tup (aW T)):=by
 unfold Eb aqv;dsimp only;refine fQ (ρ':= [some (.ro kd),some (.ro (.nd .lst (xW T))),some (.own (.nd .lst (aW T)))]) (c3 (aq ?_) (aD (ρ':= [some (.ro kd),some (.ro (.nd .lst (xW T))),some (.own (.nd .lst (aW T)))]) (c5 (e9 (d:= .nd .lst (aW T)) ?_) rfl) (cD (e9 (asD (aq ?_) ?_)))))
 ·refine bY (a:=iD T.length) (b:=iD T.length) ?_ ?_ (ax0 _)
  ·show some (D.sc (.int (xW T).length))=_;unfold xW;rw[bb]
  ·show(qI K kd).map _=_;rw[hk];show some (D.sc (.int (kW T).length))=_;unfold kW;rw[bb]
 ·have e:=qD (n:=3) (js:= [none,none]) (is:= [0]++([1]++ [])) (fi:=λZ=>(ar (af 0) (ar (af 1) λx=>some []) Z).bind (asa K)) (fg:=j5 2 (ir (λd Z=>some (bq 0 (B.ro d) Z)) (ir (λd Z=>some (bq 1 (B.ro d) Z)) λds Z=>match ds with | []=>some Z | x=>none))) (ft:=λx=>some true)
   (fe:=λZ=>(ar (af 0) (ar (af 1) λx=>some []) Z).bind λds=>if ds.length=2 then aoO K C ds else none) (Z:= [some (.ro kd),some (.ro (.nd .lst (xW T))),none]) T (λt=> .nd .tup [sD t.1,sD t.2.1]) (λ_=>true) (λt=>gN t.2.2)
   (by
    refine aj (a:= [kd, .nd .lst (xW T)]) rfl ?_;show(qI K kd).bind _=_;rw[hk];show some (j8 (kW T) (xW T))=_;rw[asH]) (b7 hl (by decide)) rfl (λt ht=>⟨[some (.ro (sD t.1)),some (.ro (sD t.2.1))],rfl,rfl,λ_=>aj (a:= [sD t.1,sD t.2.1]) rfl (dk rfl (avM (h t ht)))⟩)
  rw[show(T.filter λ_=>true)=T from uV.mpr λ_ _=>rfl]at e;exact e
 ·refine bY (a:= .sc .aG) (b:= .nd .lst (aW T)) rfl rfl ?_;rw[asK];rfl
 ·show(if bI (aW T)=true then _ else _)=_;rw[if_pos (asI T)]
def Fm(K:ah)(fD:D)(w:Str)(ks:List Str):Prop:=∃(keys:List bc) (vals:List D) (i:Nat) (t:Addr),fD= .nd (.aO keys) vals/\cM (cN w:bc) keys=some i/\vals[i]?=some (D.sc (.ref t))/\Up K t=some ks
theorem avO(h:Up K t=some (T.map (·.1))):qI K (.sc (.ref t))=some (kW T):=by
 show(Up K t).map _=_;rw[h,jt];unfold kW;rw[mJ,mJ];rfl
theorem aqX{α:Type}(xs:List α)(k:Nat):cutD xs (some (k:Int)) none=xs.drop k:=by
 have hk:¬ ((k:Int) < 0):=by lia
 unfold cutD;simp[HT.bE,hk];by_cases h:k<=xs.length
 ·rw[arE h,aor (by simp)]
 ·rw[aye (by lia),List.drop_of_length_le (i:=k) (by lia)];simp
theorem avP{α:Type}(xs:List α)(k j:Nat)(h1:k<=xs.length)(h2:j<=xs.length):cutD xs (some (k:Int)) (some (j:Int))=(xs.drop k).take (j - k):=by
 have hk:¬ ((k:Int) < 0):=by lia
 have hj:¬ ((j:Int) < 0):=by lia
 unfold cutD;simp[HT.bE,hk,hj];rw[arE h1,arE h2]
theorem arv(h:Ex n (.nd .lst (d::ds)))(hn:n<=60):dN id (.nd .lst (d::ds)) (.nd .lst [])=some (.sc (.bl false)):=by
 obtain⟨c,hc,e⟩:=h.eq (Ex.lst 0 [] (λ_ z=>nomatch z)) hn (by decide) id;have:c=false:=by
  cases c with
  |false=>rfl
  |true=>cases hc.mp rfl
 rw[e,this];rfl
theorem avQ(g:Gw w)(h:Tok T):Ex 1 (.nd .lst (sD w::xW T)):= .lst 0 _ λd hd=>by
 rcases bL.mp hd with rfl | hd
 ·exact .str 0 w g.jn
 ·obtain⟨t,ht,rfl⟩:=gY.mp hd;exact .str 0 _ (h t ht).gw.jn
theorem aqY(p:bI (w::xs)=true)(k:Nat):pO (.nd .lst (w::xs)) (some ((k + 1:Nat):Int)) none=some (.nd .lst (xs.drop k)):=by
 show(if bI (w::xs)=true then some (D.nd .lst (cutD (w::xs) _ none)) else none)=_;rw[if_pos p,aqX];rfl
theorem ao0(h:af i Z=some (.nd .lst (w::xs)))(p:bI (w::xs)=true)(e:xs.drop k=ys)(hm:m=((k + 1:Nat):Int):=by rfl):pP (af i) (λZ=>(some (D.sc (V.int m))).bind i9) (λx=>some none) Z=some (.nd .lst ys):=by
 unfold pP;rw[h,hm, <- e];exact aqY p k
theorem rB:bI (sD w::xW T)=true:=by rw[bI,avN];rfl
theorem rF:bI (sD w::aW T)=true:=by rw[bI,asI];rfl
theorem ao1(hx:xs≠ [])(hl:xs.length + ys.length<=100)(p:bI (xs++ys)=true):en (.nd .tup xs) (.nd .tup ys)=some (.nd .tup (xs++ys)):=by
 show(if xs≠ []/\xs.length + ys.length<=aM/\bI (xs++ys)=true then _ else _)=_;rw[if_pos ⟨hx,b7 hl (by decide),p⟩]
theorem avR(hx:xs≠ [])(hl:xs.length + ys.length<=100):i5 (.nd .tup xs) (.nd .tup ys)=some (.nd .tup (xs++ys)):=by
 show(if xs≠ []/\xs.length + ys.length<=aM then _ else _)=_;rw[if_pos ⟨hx,b7 hl (by decide)⟩]
theorem aqZ(n:Nat):gC (n + 1) 0=some 0:=by
 unfold gC;rw[if_pos (by decide),if_pos (by lia)];rfl
theorem asL:dg ay cn (.nd .lst (d::ds)) (iD 0)=some d:=by
 have e:mq (.nd .lst (d::ds)) (iD 0)=some 0:=aqZ _;show(ay (.nd .lst (d::ds)) (iD 0)).bind (jh (.nd .lst (d::ds)))=_;unfold ay;rw[e];rfl
theorem avS:dg ay cn (.nd .tup (d::ds)) (iD 0)=some d:=by
 have e:mq (.nd .tup (d::ds)) (iD 0)=some 0:=aqZ _;show(ay (.nd .tup (d::ds)) (iD 0)).bind (jh (.nd .tup (d::ds)))=_;unfold ay;rw[e];rfl
theorem WD(h:af i Z=some (.nd .lst (d::ds))):au (dg ay cn) (af i) (λx=>some (D.sc (V.int 0))) Z=some d:=bY h rfl asL
theorem asM(h:af i Z=some (.nd .tup (d::ds))):au (dg ay cn) (af i) (λx=>some (D.sc (V.int 0))) Z=some d:=bY h rfl avS
theorem aq0(T:List Tr):(aW T).length=T.length:=bb _
theorem aq1{fD:D}{w:Str}{T:List Tr}(gw:Gw w)(h:Tok T)(hl:T.length<=12)(hf:Fm K fD w (T.map (·.1))):U0 K C [fD, .nd .lst (sD w::xW T)]=some (.nd .tup (sD w::aW T)):=by
 obtain⟨keys,vals,i,t,rfl,hp,hv,ht⟩:=hf;unfold U0 aqy;dsimp only;refine fQ (ρ':= [some (.ro (.nd (.aO keys) vals)),some (.ro (.nd .lst (sD w::xW T))),some (.own (.nd .tup (aW T)))]) (c3 (Hm (aq ?_) (aq ?_)) (aD (ρ':= [some (.ro (.nd (.aO keys) vals)),some (.ro (.nd .lst (sD w::xW T))),some (.own (.nd .tup (aW T)))]) (c5 (e9 (d:= .nd .tup (aW T)) ?_) rfl) (cD (e9 (asD (aq ?_) ?_)))))
 ·exact bY (a:= .nd .lst (sD w::xW T)) (b:= .nd .lst []) rfl (SF.jJ rfl (by decide)) (arv (avQ gw h) (by decide))
 ·refine bY (a:=sD w) (b:= .nd (.aO keys) vals) (WD rfl) rfl ?_;show some (D.sc (.bl (!(cM (cN w:bc) keys).isSome)))=_;rw[hp];rfl
 ·have G0:Eb K C [.sc (.ref t), .nd .lst (xW T)]=some (.nd .tup (aW T)):=aer h hl (avO ht);refine aj (a:= [.sc (.ref t), .nd .lst (xW T)]) (SF.bw ?_ (SF.bw (ao0 (k:=0) rfl rB rfl) rfl)) (dk rfl G0);refine bY (a:= .nd (.aO keys) vals) (b:=sD w) rfl (WD rfl) ?_;show(cM (cN w:bc) keys).bind (jh (.nd (.aO keys) vals))=_;rw[hp];exact hv
 ·rfl
 ·exact bY (a:= .nd .tup [sD w]) (b:= .nd .tup (aW T)) (SF.jJ (SF.bw (WD rfl) rfl) (cq rfl)) rfl (ao1 (ll _ _) (by rw[aq0];simp;lia) rF)
noncomputable def nn (k:Nat):List Str:=ki k (ae "number")
def o3:List (Str×List Str):= [("world",nn 8),("rise",nn 1),("send",nn 1),("time",nn 1),("fall",nn 1),("wake",nn 1),("begin",nn 2),("again",nn 2),("join",nn 2),("carry",nn 1),("copy",nn 1),("lose",nn 1),("rest",nn 1),("see",nn 2),("shelf",nn 1),("held", []),("way", []),("story", []),("logs", [])]
def p3:List (Str×List Str):= [("look", []),("make", ["path","content"]),("fold", ["path"]),("link", ["path","number"]),("drop", ["path"]),("move", ["path","path"]),("open", ["path"]),("see",nn 1),("shut", ["number","number","content"]),("lock", ["number","sort","number","number"]),("free",nn 3)]
noncomputable def t4:List (Str×List Str):= [("shut", ["number","number","content"]),("make", ["number","name","content"])]
def Tb(K:ah)(nm:Str)(l:List (Str×List Str)):Prop:=∃fD,apB K (kA K nm) [.sc (.ref (kA K nm))]=some fD/\∀x∈l,Fm K fD x.1 x.2
structure KF(K:ah):Prop where
 rows:Tb K (ae "ROWS") o3
 reqs:Tb K (ae "REQUESTS") p3
 avT:Tb K (ae "DEEDS") t4
theorem aq2:∀x∈o3++p3++t4,Gw x.1:=by
 have:((o3++p3++t4).all λx=>gw x.1)=true:=by decide +kernel
 exact λx hx=>IM (gA.mp this x hx)
theorem X8(h:x∈o3):Gw x.1:=aq2 x (by simp[h])
theorem ao2(h:x∈p3):Gw x.1:=aq2 x (by simp[h])
theorem ao3(h:x∈t4):Gw x.1:=aq2 x (by simp[h])
theorem pe(w a b:Str):nT (sD w) (.nd .tup [sD a,sD b])=some (a == w || (b == w || false)):=rfl
theorem avU:dg ay cn (.nd .tup (cs++ [x,y])) (iD (-2))=some x:=by
 have e:mq (.nd .tup (cs++ [x,y])) (iD (-2))=some cs.length:=by
  show gC (cs++ [x,y]).length (-2)=_;unfold gC;rw[if_neg (by decide),if_pos (by simp;lia)];simp
  lia
 show(ay (.nd .tup (cs++ [x,y])) (iD (-2))).bind (jh (.nd .tup (cs++ [x,y])))=_;unfold ay;rw[e];show(cs++ [x,y])[cs.length]?=_;simp
theorem avV:dg ay cn (.nd .tup (cs++ [x,y])) (iD (-1))=some y:=by
 have e:mq (.nd .tup (cs++ [x,y])) (iD (-1))=some (cs.length + 1):=by
  show gC (cs++ [x,y]).length (-1)=_;unfold gC;rw[if_neg (by decide),if_pos (by simp;lia)];simp
  lia
 show(ay (.nd .tup (cs++ [x,y])) (iD (-1))).bind (jh (.nd .tup (cs++ [x,y])))=_;unfold ay;rw[e];show(cs++ [x,y])[cs.length + 1]?=_;simp
noncomputable def mH (w:Str):Bool:=ae "lock" == w || (ae "free" == w || false)
def abn(T:List Tr):Prop:=∃(T0:List Tr) (p q:Str×Str) (m n:Int),T=T0++ [(p.1,p.2, .i m),(q.1,q.2, .i n)]/\m < n
theorem avW(kf:KF K)(hm:(w,T.map (·.1))∈p3)(h:Tok T)(hl:T.length<=12)(ha:mH w=true->abn T):aoP K C [.nd .lst (sD w::xW T)]=some (.nd .tup (sD w::aW T)):=by
 obtain⟨fD,hd,hf⟩:=kf.reqs;have g:=ao2 hm;unfold aoP aqA;dsimp only;refine fQ (ρ':= [some (.ro (.nd .lst (sD w::xW T))),some (.own (.nd .tup (sD w::aW T)))]) (aD (ρ':= [some (.ro (.nd .lst (sD w::xW T))),some (.own (.nd .tup (sD w::aW T)))]) (c5 (e9 (d:= .nd .tup (sD w::aW T)) ?_) rfl) (c3 (oW (aq (b:=true) (bY (a:= .nd .tup (sD w::aW T)) (b:= .sc .aG) rfl rfl rfl)) ?_) (cD ?_)))
 ·have hb:U0 K C [fD, .nd .lst (sD w::xW T)]=some (.nd .tup (sD w::aW T)):=aq1 g h hl (hf _ hm);exact aj (a:= [fD, .nd .lst (sD w::xW T)]) (SF.bw (aj (a:= [.sc (.ref (kA K (ae "REQUESTS")))]) rfl hd) (SF.bw rfl rfl)) (dk rfl hb)
 ·have e:au (λa b=>aX (λb=>D.sc (V.bl b)) (nT a b)) (au (dg ay cn) (af 1) λx=>some (D.sc (V.int 0))) (d7 Kd.tup (ar (λx=>some (D.sc (V.str (ae "lock")))) (ar (λx=>some (D.sc (V.str (ae "free")))) λx=>some []))) [some (.ro (.nd .lst (sD w::xW T))),some (.own (.nd .tup (sD w::aW T)))]=some (.sc (.bl (mH w))):=
   bY (a:=sD w) (b:= .nd .tup [sD (ae "lock"),sD (ae "free")]) (asM rfl) (SF.jJ (SF.bw rfl (SF.bw rfl rfl)) (by decide)) (by rw[pe];rfl)
  cases c:mH w with
  |false=>rw[c]at e;exact an3 (aq e)
  |true=>
   rw[c]at e;obtain⟨T0,p,q,m,n,rfl,afi⟩:=ha c;have er:sD w::aW (T0++ [(p.1,p.2, .i m),(q.1,q.2, .i n)])=(sD w::aW T0)++ [iD m,iD n]:=by simp[aW,gN,Kf]
   refine oW (aq e) (aq (bY (a:=iD m) (b:=iD n) ?_ ?_ (avH afi)))
   ·rw[er];exact bY (a:= .nd .tup ((sD w::aW T0)++ [iD m,iD n])) (b:=iD (-2)) rfl rfl avU
   ·rw[er];exact bY (a:= .nd .tup ((sD w::aW T0)++ [iD m,iD n])) (b:=iD (-1)) rfl rfl avV
 ·show kr 1 _=_;unfold kr;rw[show af 1 [some (B.ro (.nd .lst (sD w::xW T))),some (.own (.nd .tup (sD w::aW T)))]=some (.nd .tup (sD w::aW T)) from rfl,ax,if_pos (show VL.plain (.nd .tup (sD w::aW T))=true from rF)]
def tN(n:Int):Tr:=(ae "number",b5 n, .i n)
def ix(n:Int):Prop:=0<=n/\n < 10 ^ 12
theorem asN{ns:List Int}(h:∀n∈ns,ix n):Tok (ns.map tN):=λt ht=>by
 obtain⟨n,hn,rfl⟩:=gY.mp ht;exact Pt.num (h n hn).1 (h n hn).2
theorem xN(ns:List Int):xW (ns.map tN)=ns.map λn=>sD (b5 n):=by
 unfold xW;rw[mJ];rfl
theorem aN(ns:List Int):aW (ns.map tN)=ns.map iD:=by
 unfold aW;rw[mJ];rfl
theorem kN(ns:List Int):(ns.map tN).map (·.1)=nn ns.length:=by
 rw[mJ]
 induction ns with
 |nil=>rfl
 |cons n ns ih=>rw[cP,ih];rfl
theorem t5(h1:bI xs=true)(h2:bI ys=true):bI (xs++ys)=true:=vM λd hd=>by
 rcases lZ.mp hd with z | z
 ·exact xV h1 z
 ·exact xV h2 z
theorem asO{f1 f2:En->Option D}{h:Str}{ns:List Int}(e1:f1 Z=some (.nd .tup (ns.map iD)))(e2:f2 Z=some (.nd .tup (sD v::aW T)))(hn:ns.length<=10):
  au en (au i5 (d7 Kd.tup (ar (λx=>some (D.sc (V.str h))) λx=>some [])) f1) (d7 Kd.tup (ar f2 λx=>some [])) Z=some (.nd .tup (sD h::(ns.map iD++ [.nd .tup (sD v::aW T)]))):=by
 have pn:bI (ns.map iD)=true:=vM λd hd=>by
  obtain⟨n,_,rfl⟩:=gY.mp hd;rfl
 refine bY (a:= .nd .tup (sD h::ns.map iD)) (b:= .nd .tup [.nd .tup (sD v::aW T)]) (bY (a:= .nd .tup [sD h]) (b:= .nd .tup (ns.map iD)) (SF.jJ (SF.bw rfl rfl) (cq rfl)) e1 (avR (ll _ _) (by simp;lia))) (SF.jJ (SF.bw e2 rfl) (cq rfl)) ?_;refine ao1 (ll _ _) (by simp;lia) (t5 (by rw[bI,pn];rfl) ?_);show(VL.plain (.nd .tup (sD v::aW T)) && true)=true;rw[show VL.plain (.nd .tup (sD v::aW T))=true from rF];rfl
theorem MQ{ns:List Int}(h:∀n∈ns,ix n)(hl:ns.length<=12)(hk:qI K kd=some (kW (ns.map tN))):Eb K C [kd, .nd .lst (ns.map λn=>sD (b5 n))]=some (.nd .tup (ns.map iD)):=by
 have:=aer (C:=C) (asN h) (by rw[bb];exact hl) hk;rwa [xN,aN]at this
theorem aq3{xs:List Str}:bI (sD w::xs.map sD)=true:=vM λd hd=>by
 rcases bL.mp hd with rfl | hd
 ·rfl
 ·obtain⟨x,_,rfl⟩:=gY.mp hd;rfl
theorem asP(h:af i Z=some (.nd .lst (w::xs)))(p:bI (w::xs)=true)(hj:j<=xs.length)(e:xs.take j=ys)(hm:m=((j + 1:Nat):Int):=by rfl):pP (af i) (λZ=>(some (D.sc (V.int 1))).bind i9) (λZ=>(some (D.sc (V.int m))).bind i9) Z=some (.nd .lst ys):=by
 unfold pP;rw[h,hm, <- e];show(if bI (w::xs)=true then some (D.nd .lst (cutD (w::xs) (some ((1:Nat):Int)) (some ((j + 1:Nat):Int)))) else none)=_;rw[if_pos p,avP _ 1 (j + 1) (by simp) (by simp;lia)];rfl
theorem avX(kf:KF K){T:List Tr}(hm:ix m)(hn:ix n)(hq:(v,T.map (·.1))∈p3)(h:Tok T)(hl:T.length<=12)(ha:mH v=true->abn T):
  aqD K C [.nd .lst (sD (ae "ask")::sD (b5 m)::sD (b5 n)::sD v::xW T)]=some (.nd .tup (sD (ae "ask")::([m,n].map iD++ [.nd .tup (sD v::aW T)]))):=by
 have pl:bI (sD (ae "ask")::sD (b5 m)::sD (b5 n)::sD v::xW T)=true:=by
  have:=rB (w:=v) (T:=T);rw[bI]at this |-;exact this
 have e1:Eb K C [.nd .tup [sD (ae "number"),sD (ae "number")], .nd .lst [sD (b5 m),sD (b5 n)]]=some (.nd .tup ([m,n].map iD)):=MQ (ns:= [m,n]) (λk hk=>by
  rcases bL.mp hk with rfl | hk
  ·exact hm
  ·rcases bL.mp hk with rfl | hk
   ·exact hn
   ·cases hk) (cq rfl) rfl
 have e2:aoP K C [.nd .lst (sD v::xW T)]=some (.nd .tup (sD v::aW T)):=avW kf hq h hl ha;unfold aqD aqB;dsimp only;generalize hW:(D.nd .lst (sD (ae "ask")::sD (b5 m)::sD (b5 n)::sD v::xW T))=W;refine fQ (ρ':= [some (.ro W),some (.own (.nd .tup ([m,n].map iD))),some (.own (.nd .tup (sD v::aW T)))]) (aD (ρ':= [some (.ro W),some (.own (.nd .tup ([m,n].map iD))),none]) (c5 (e9 (d:= .nd .tup ([m,n].map iD)) ?_) rfl) (aD (ρ':= [some (.ro W),some (.own (.nd .tup ([m,n].map iD))),some (.own (.nd .tup (sD v::aW T)))]) (c5 (e9 (d:= .nd .tup (sD v::aW T)) ?_) rfl) (c3 (Hm (aq (bY (a:= .nd .tup ([m,n].map iD)) (b:= .sc .aG) rfl rfl rfl)) (aq (bY (a:= .nd .tup (sD v::aW T)) (b:= .sc .aG) rfl rfl rfl))) (cD (e9 (asO (ns:= [m,n]) rfl rfl (cq rfl)))))))
 ·exact aj (a:= [.nd .tup [sD (ae "number"),sD (ae "number")], .nd .lst [sD (b5 m),sD (b5 n)]]) (SF.bw (SF.jJ (SF.bw rfl (SF.bw rfl rfl)) (cq rfl)) (SF.bw (asP (i:=0) (j:=2) (by rw[<- hW];rfl) pl (by simp) rfl) rfl)) (dk rfl e1)
 ·exact aj (a:= [.nd .lst (sD v::xW T)]) (SF.bw (ao0 (i:=0) (k:=2) (by rw[<- hW];rfl) pl rfl) rfl) (dk rfl e2)
theorem avY(kf:KF K){T:List Tr}(hm:ix m)(hq:(v,T.map (·.1))∈t4)(h:Tok T)(hl:T.length<=12):
  aqI K C [.nd .lst (sD (ae "work")::sD (b5 m)::sD v::xW T)]=some (.nd .tup (sD (ae "work")::([m].map iD++ [.nd .tup (sD v::aW T)]))):=by
 have pl:bI (sD (ae "work")::sD (b5 m)::sD v::xW T)=true:=by
  have:=rB (w:=v) (T:=T);rw[bI]at this |-;exact this
 have e1:Eb K C [.nd .tup [sD (ae "number")], .nd .lst [sD (b5 m)]]=some (.nd .tup ([m].map iD)):=MQ (ns:= [m]) (λk hk=>by
  rcases bL.mp hk with rfl | hk
  ·exact hm
  ·cases hk) (cq rfl) rfl
 obtain⟨fD,hd,hf⟩:=kf.avT;have e2:U0 K C [fD, .nd .lst (sD v::xW T)]=some (.nd .tup (sD v::aW T)):=aq1 (ao3 hq) h hl (hf _ hq);unfold aqI aqH;dsimp only;generalize hW:(D.nd .lst (sD (ae "work")::sD (b5 m)::sD v::xW T))=W;refine fQ (ρ':= [some (.ro W),some (.own (.nd .tup ([m].map iD))),some (.own (.nd .tup (sD v::aW T)))]) (aD (ρ':= [some (.ro W),some (.own (.nd .tup ([m].map iD))),none]) (c5 (e9 (d:= .nd .tup ([m].map iD)) ?_) rfl) (aD (ρ':= [some (.ro W),some (.own (.nd .tup ([m].map iD))),some (.own (.nd .tup (sD v::aW T)))]) (c5 (e9 (d:= .nd .tup (sD v::aW T)) ?_) rfl) (c3 (Hm (aq (bY (a:= .nd .tup ([m].map iD)) (b:= .sc .aG) rfl rfl rfl)) (aq (bY (a:= .nd .tup (sD v::aW T)) (b:= .sc .aG) rfl rfl rfl))) (cD (e9 (asO (ns:= [m]) rfl rfl (cq rfl)))))))
 ·exact aj (a:= [.nd .tup [sD (ae "number")], .nd .lst [sD (b5 m)]]) (SF.bw (SF.jJ (SF.bw rfl rfl) (cq rfl)) (SF.bw (asP (i:=0) (j:=1) (by rw[<- hW];rfl) pl (by simp) rfl) rfl)) (dk rfl e1)
 ·exact aj (a:= [fD, .nd .lst (sD v::xW T)]) (SF.bw (aj (a:= [.sc (.ref (kA K (ae "DEEDS")))]) rfl hd) (SF.bw (ao0 (i:=0) (k:=1) (by rw[<- hW];rfl) pl rfl) rfl)) (dk rfl e2)
theorem avZ(h:∀k∈m::n::ns,ix k)(hl:ns.length<=12):
  aqG K C [.nd .lst (sD (ae "pass")::(m::n::ns).map λk=>sD (b5 k))]=some (.nd .tup [sD (ae "pass"),iD m, .nd .lst ((n::ns).map iD)]):=by
 generalize hL:m::n::ns=L at *;have pl:bI (sD (ae "pass")::L.map λk=>sD (b5 k))=true:=vM λd hd=>by
  rcases bL.mp hd with rfl | hd
  ·rfl
  ·obtain⟨x,_,rfl⟩:=gY.mp hd;rfl
 have pn:bI (L.map iD)=true:=vM λd hd=>by
  obtain⟨n,_,rfl⟩:=gY.mp hd;rfl
 have av0:L.length<=14:=by rw[<- hL];simp;lia
 have e1:=qD (n:=2) (js:= [none]) (is:= [0]) (fi:=λZ=>(pP (af 0) (λZ=>(some (D.sc (V.int 1))).bind i9) (λx=>some none) Z).bind fP) (fg:=λd Z=>some (bq 0 (B.ro d) Z)) (ft:=λx=>some true)
  (fe:=λZ=>(ar (af 0) (λx=>some []) Z).bind λds=>if ds.length=1 then aoN K C ds else none) (Z:= [some (.ro (.nd .lst (sD (ae "pass")::L.map λk=>sD (b5 k)))),none]) L (λk=>sD (b5 k)) (λ_=>true) iD
  (aj (ao0 (i:=0) (k:=0) rfl pl rfl) rfl) (b7 av0 (by decide)) rfl (λk hk=>⟨[some (.ro (sD (b5 k)))],rfl,rfl,λ_=>aj (a:= [sD (b5 k)]) rfl (dk rfl (asF (aoW (h k hk).1 (h k hk).2)))⟩)
 rw[show(L.filter λ_=>true)=L from uV.mpr λ_ _=>rfl]at e1;unfold aqG aqF;dsimp only;generalize hW:(D.nd .lst (sD (ae "pass")::L.map λk=>sD (b5 k)))=W at *;refine fQ (ρ':= [some (.ro W),some (.own (.nd .lst (L.map iD)))]) (aD (ρ':= [some (.ro W),some (.own (.nd .lst (L.map iD)))]) (c5 (e9 e1) rfl) (c3 (Hm (aq ?_) (aq ?_)) (cD (SF.gS (l:= [sD (ae "pass"),iD m, .nd .lst ((n::ns).map iD)]) (SF.bx rfl (SF.bx (E8 ?_ rfl) (SF.bx (e9 (d:= .nd .lst ((n::ns).map iD)) ?_) rfl))) (cq rfl)))))
 ·refine bY (a:=iD L.length) (b:=iD 2) ?_ rfl ?_
  ·show some (D.sc (.int (L.map iD).length))=_;rw[bb]
  ·show some (D.sc (.bl (decide ((L.length:Int) < 2))))=_;rw[decide_eq_false (by rw[<- hL];simp;lia)]
 ·refine bY (a:= .sc .aG) (b:= .nd .lst (L.map iD)) rfl rfl ?_;rw[<- aN,asK];rfl
 ·rw[<- hL];exact WD rfl
 ·subst hL;show(if bI ((m::n::ns).map iD)=true then some (D.nd .lst (cutD ((m::n::ns).map iD) (some ((1:Nat):Int)) none)) else none)=_;rw[if_pos pn,aqX];rfl
end K57
namespace TX
open PySem L2 PySem.W PyProof.Rows
theorem av1:b6 (ae "")= []:=by decide +kernel
theorem aq4:∀ys:List Str,b6 (FP (ae "") ys)=ys.flatMap b6
 | []=>by
  show b6 (ahg (ae "") [])=_;rw[ahh];rfl
 | [y]=>by rw[join_one];simp
 |y::z::ys=>by
  rw[aru,av1,aq4 (z::ys)];rfl
theorem asQ(h0:0<=j):b6 (xj x none (some j))=(b6 x).take j.toNat:=by
 by_cases h:j<=x.length
 ·rw[show xj x none (some j)=_ from beq_iff_eq.mp (slice_closes_toL h0 h)];simp
 ·rw[slice_to_beyond (by lia),show xj x none (some (x.length:Int))=_ from beq_iff_eq.mp (slice_closes_toL (by lia) (by lia))];have e:=e7 x;show((b6 x).drop (0:Int).toNat).take ((x.length:Int) - 0).toNat=_;rw[aor (by simp[e]),aor (by rw[e];lia)];rfl
theorem av2(h0:0<=j)(h:j<=x.length):b6 (xj x (some j) none)=(b6 x).drop j.toNat:=by
 rw[slice_from_eq h0 h rfl];have e:=e7 x;show((b6 x).drop j.toNat).take ((x.length:Int) - j).toNat=_;rw[aor];rw[aik,e]
 lia
theorem OF(x y:Str):(x++y).length=x.length + y.length:=by
 rw[<- e7, <- e7 x, <- e7 y];show((x++y).cps.toList).length=_;rw[nk,bo]
def nc(c:Nat):Prop:=(97<=c/\c<=122)\/(48<=c/\c<=57)
instance (c:Nat):Decidable (nc c):=by unfold nc;infer_instance
def AW(x:Str):Prop:=∀c∈b6 x,nc c
theorem asR:∀ys:List Str,(∀y∈ys,y.length=1)->(ys.flatMap b6).length=ys.length
 | [],_=>rfl
 |y::ys,h=>by
  rw[ayf,bo,asR ys λz hz=>h z (.tail _ hz),e7,h y (.head _),c8]
  lia
end TX
namespace K57
open PySem L2 VL TX
open SF (Al du o4 jj k9 yM BA uv sf bP)
theorem pk(hp:aT i Z=some (.rt r []))(hr:aV Z r=some (lD L))(hf:fm Z=some (iD m))(e:Z.set r (some (.own (lD (L / m))))=ρ')(al:Al Z)(hm:0 < m:=by decide)(h2:m < 2 ^ 200:=by decide):(aX (λa=>(a,Z)) (gn (aT i) (mr fm λx=>some []) Z)).bind (λa=>fL (Bp K C) a.fst a.snd)=some (iD (L % m),ρ'):=by
 rw[<- e];exact avG al hp hr hf hm h2
theorem lg(h:af i Z=some d)(p:VL.plain d=true):kr i Z=some (d,Z):=by
 unfold kr;rw[h,ax,if_pos p]
theorem av3(hp:aT i Z=some (.rt r []))(hr:aV Z r=some (lD L))(hf:aT j Z=some (.ro (iD m)))(e:Z.set r (some (.own (lD (L / m))))=ρ')(al:Al Z)(hm:0 < m)(h2:m < 2 ^ 200):(aX (λa=>(a,Z)) (gn (aT i) (fB (aT j) λx=>some []) Z)).bind (λa=>fL (Bp K C) a.fst a.snd)=some (iD (L % m),ρ'):=by
 rw[<- e];refine pb (r:=r) (ds:= [lD L,iD m]) (as:= [.io ⟨r, []⟩, .tm (iD m)]) al hr (SF.aoS hp (SF.Ta hf rfl rfl rfl)) ?_ rfl rfl (afE L m hm h2);unfold gG;rw[show mY Z (.io ⟨r, []⟩)=some (lD L) from by
  show(aV Z r).bind (aI · [])=_;rw[hr,ax,k9]]
 rfl
theorem aq5:au (intD qk λi j=>V.int (i ^ j.toNat)) (λx=>some (D.sc (V.int 10))) (λx=>some (D.sc (V.int 12))) Z=some (iD (10 ^ 12)):=bY (a:=iD 10) (b:=iD 12) rfl rfl (by
 unfold intD;exact if_pos ⟨by decide,by decide,by decide⟩)
def eN(L:Int):En:= [some (.aB 1 []),some (.own (lD L))]
theorem Uv(L:Int):∃n L',Br K C [lD L]=some (iD n, [lD L'])/\0<=n/\n<=10 ^ 12 - 2:=by
 have j0:=eG (L / 10 / 1000 / 9) (show(3:Int)≠0 by decide);have j1:=nW (L / 10 / 1000 / 9) (show(0:Int) < 3 by decide);obtain⟨a,ha,e⟩:=uD iD [L % 10,L / 10 % 1000,10 ^ 12 - 2 - L / 10 / 1000 % 9] (L / 10 / 1000 / 9 % 3) j0 j1 (λ_=>rfl);refine⟨a,L / 10 / 1000 / 9 / 3, ?_, ?_⟩
 ·unfold Br KJ;dsimp only;refine fC (ρ':=eN (L / 10 / 1000 / 9 / 3)) (cD (j7 (a:= .nd .lst ([L % 10,L / 10 % 1000,10 ^ 12 - 2 - L / 10 / 1000 % 9].map iD)) (b:=iD (L / 10 / 1000 / 9 % 3)) (ρ1:=eN (L / 10 / 1000 / 9)) (SF.S9 (SF.bx (pk (r:=1) (ρ':=eN (L / 10)) rfl rfl rfl rfl (du rfl)) (SF.bx (pk (r:=1) (ρ':=eN (L / 10 / 1000)) rfl rfl rfl rfl (du rfl)) (SF.bx (j7 (a:=iD (10 ^ 12 - 2)) (b:=iD (L / 10 / 1000 % 9)) (e9 (bY (a:=iD (10 ^ 12)) (b:=iD 2) aq5 rfl rfl)) (pk (r:=1) (Z:=eN (L / 10 / 1000)) (ρ':=eN (L / 10 / 1000 / 9)) rfl rfl rfl rfl (du rfl)) rfl) rfl))) (cq rfl)) (pk (r:=1) (Z:=eN (L / 10 / 1000 / 9)) (ρ':=eN (L / 10 / 1000 / 9 / 3)) rfl rfl rfl rfl (du rfl)) e)) rfl
 ·have a0:=eG L (show(10:Int)≠0 by decide);have a1:=nW L (show(0:Int) < 10 by decide);have b0:=eG (L / 10) (show(1000:Int)≠0 by decide);have b1:=nW (L / 10) (show(0:Int) < 1000 by decide);have c0:=eG (L / 10 / 1000) (show(9:Int)≠0 by decide);have c1:=nW (L / 10 / 1000) (show(0:Int) < 9 by decide);simp only[bL,dh,or_false]at ha;rcases ha with rfl | rfl | rfl <;> lia
def eW(M:Int)(x2 x3 x4 x5:Option B)(L:Int):En:= [some (.aB 6 []),some (.ro (iD M)),x2,x3,x4,x5,some (.own (lD L))]
def ug(x0:Option B)(M:Int)(w:D)(f s:Int)(L:Int):En:= [x0,some (.aB 7 []),some (.aB 8 []),some (.aB 9 []),some (.aB 10 []),some (.ro (iD M)),some (.own w),some (.own (sD nS)),some (.own (iD f)),some (.own (iD s)),some (.own (lD L))]
theorem av4(j:Int)(h0:0<=j)(h1:j < 36):∃y:Str,dg ay cn (sD nS) (iD j)=some (sD y)/\y.length=1/\AW y:=by
 have key:((xm 36).all λj=>match cn (.str nS) (iD (j:Int)) with | some (.str y)=>decide (y.length=1) && (b6 y).all (λc=>decide (nc c)) | _=>false)=true:=by decide +kernel
 obtain⟨n,rfl⟩:=ayd h0;have:=gA.mp key n (sH.mpr (by lia));have hx:∀(o:Option V),(match o with | some (.str y)=>decide (y.length=1) && (b6 y).all (λc=>decide (nc c)) | _=>false)=true->∃y:Str,o=some (.str y)/\y.length=1/\AW y:=by
  intro o h
  split at h
  ·next y=>
   simp only[kM,decide_eq_true_eq,gA]at h;exact⟨y,rfl,h.1,h.2⟩
  ·cases h
 obtain⟨y,e,h⟩:=hx _ this;refine⟨y, ?_,h⟩;show(cn (.str nS) (iD (n:Int))).map D.sc=_;rw[e];rfl
theorem av5(h:NA x0)(d:D):bq 0 (.ro d) (ug x0 M w f s L)=ug (some (.ro d)) M w f s L:=by
 match x0,h with
 |none,_=>rfl
 |some (.own _),_=>rfl
 |some (.ro _),_=>rfl
 |some (.aB r p),h=>exact absurd rfl (h r p)
abbrev asS:En->Option (D×En):=gm (au (dg ay cn) (af 1) (au (intD (λx j=>0 < j) λi j=>V.int (i % j)) (au en (au i5 (af 2) (au (intD mM λi j=>V.int (i * j)) (af 0) (af 3))) (au (intD mM λi j=>V.int (i * j)) (af 0) (af 0))) λx=>some (D.sc (V.int 36))))
theorem abo(h: -18446744073709551616 < a/\a < 18446744073709551616):intD mM (λi j=>V.int (i * j)) (iD a) (iD b)=some (iD (a * b)):=by
 unfold intD;exact if_pos (vp h)
theorem an6(h:0 < b):intD (λx j=>0 < j) (λi j=>V.int (i % j)) (iD a) (iD b)=some (iD (a % b)):=by
 unfold intD;exact if_pos h
theorem av6(hk:0<=k/\k < 1000):∃y:Str,asS (ug (some (.ro (iD k))) M w f s L)=some (sD y,ug (some (.ro (iD k))) M w f s L)/\y.length=1/\AW y:=by
 obtain⟨y,e,h⟩:=av4 ((f + k * s + k * k) % 36) (eG _ (by decide)) (nW _ (by decide));have b: -18446744073709551616 < k/\k < 18446744073709551616:=by lia
 refine⟨y,E8 (bY (a:=sD nS) (b:=iD ((f + k * s + k * k) % 36)) rfl (bY (a:=iD (f + k * s + k * k)) (b:=iD 36) (bY (a:=iD (f + k * s)) (b:=iD (k * k)) (bY (a:=iD f) (b:=iD (k * s)) rfl (bY (a:=iD k) (b:=iD s) rfl rfl (abo b)) rfl) (bY (a:=iD k) (b:=iD k) rfl rfl (abo b)) rfl) rfl (an6 (by decide))) e) rfl,h⟩
theorem asT:∀(ds:List D) (x0:Option B),NA x0->(∀d∈ds,∃k:Int,d=iD k/\0<=k/\k < 1000)->∃(ys:List Str) (y0:Option B),pU (λd Z=>some (bq 0 (B.ro d) Z)) asS ds (ug x0 M w f s L)=some (ys.map sD,ug y0 M w f s L)/\ys.length=ds.length/\∀y∈ys,y.length=1/\AW y
 | [],x0,_,_=>⟨[],x0,rfl,rfl,λy hy=>by cases hy⟩
 |d::ds,x0,h,hd=>by
  obtain⟨k,rfl,hk⟩:=hd d (.head _);obtain⟨y,e,hy⟩:=av6 (M:=M) (f:=f) (s:=s) (L:=L) (w:=w) hk;obtain⟨ys,y0,ih,hl,afM⟩:=asT ds (some (.ro (iD k))) dO λd h=>hd d (.tail _ h);refine⟨y::ys,y0, ?_,by rw[c8,c8,hl],λz hz=> ?_⟩
  ·rw[pU];show(some (bq 0 (.ro (iD k)) (ug x0 M w f s L))).bind _=_;rw[ax,av5 h];refine aj e ?_;show(pU _ _ ds (ug (some (.ro (iD k))) M w f s L)).map _=_;rw[ih];rfl
  ·cases hz with
   |head=>exact hy
   |tail _ hz=>exact afM z hz
theorem an7(h:0<=m/\m < 100000):tZ [iD m]=some (iQ 0 m.toNat)/\(iQ 0 m.toNat).length=m.toNat:=by
 have h1:(-2 ^ 62:Int)<=m:=Int.le_trans (by decide) h.1;have h2:m < 2 ^ 62:=Int.lt_trans h.2 (by decide)
 constructor
 ·exact if_pos ⟨h1,h2⟩
 ·rw[Ri];simp
theorem asU(ys:List Str)(h:(ys.map (·.length)).sum<=100000):Jy (ae "") (.nd .lst (ys.map sD))=some (sD (FP (ae "") ys)):=by
 show(wN (ys.map sD)).bind _=_;rw[strs_map,ax,if_pos];rw[show(ae "":Str).length=0 by decide +kernel]
 lia
theorem ax1(ys:List Str)(h:∀y∈ys,y.length=1):(ys.map (·.length)).sum=ys.length:=by
 induction ys with
 |nil=>rfl
 |cons y ys ih=>rw[cP,auc,ih λz hz=>h z (.tail _ hz),h y (.head _),c8];lia
noncomputable def ao4:List Str:= ["","world","ask","held","shelf","clash","read","see"]
theorem av7:∀a∈ao4,eg a=true/\(a=ae ""\/(AW a/\1<=a.length/\a.length<=8)):=by
 have:(ao4.all λa=>eg a && (decide (a=ae "") || ((b6 a).all (λc=>decide (nc c)) && decide (1<=a.length) && decide (a.length<=8))))=true:=by decide +kernel
 intro a ha;have:=gA.mp this a ha;simp only[kM,ayg,decide_eq_true_eq,gA]at this;exact⟨this.1,this.2.imp id λz=>⟨z.1.1,z.1.2,z.2⟩⟩
theorem aq6(M L:Int)(hM:8<=M/\M<=200):∃w L',EN K C [lD L,iD M]=some (sD w, [lD L'])/\AW w/\1<=w.length/\(w.length:Int)<=M:=by
 obtain⟨a,ha,e⟩:=uD sD ao4 (L % 8) (eG _ (by decide)) (nW _ (by decide)) (λ_=>rfl);obtain⟨sa,hc⟩:=av7 a ha;have a1:dU 2 (hZ (gQ ay cn) (λZ=>aX (λd=>(d,Z)) (d7 Kd.lst (ar (λx=>some (D.sc (V.str (ae "")))) (ar (λx=>some (D.sc (V.str (ae "world")))) (ar (λx=>some (D.sc (V.str (ae "ask")))) (ar (λx=>some (D.sc (V.str (ae "held")))) (ar (λx=>some (D.sc (V.str (ae "shelf")))) (ar (λx=>some (D.sc (V.str (ae "clash")))) (ar (λx=>some (D.sc (V.str (ae "read")))) (ar (λx=>some (D.sc (V.str (ae "see")))) λx=>some [])))))))) Z))
   (lr K C 0 λx=>some (D.sc (V.int 8)))) (eW M none none none none L)=some (.nx (eW M (some (.own (sD a))) none none none (L / 8))):=
  c5 (j7 (a:= .nd .lst (ao4.map sD)) (e9 (SF.jJ (SF.bw rfl (SF.bw rfl (SF.bw rfl (SF.bw rfl (SF.bw rfl (SF.bw rfl (SF.bw rfl (SF.bw rfl rfl)))))))) (cq rfl))) (pk (r:=6) (ρ':=eW M none none none none (L / 8)) rfl rfl rfl rfl (du rfl)) e) rfl
 unfold EN KW;dsimp only;have t1:au (dN λx=> !x) (af 2) (λx=>some (D.sc (V.str (ae "")))) (eW M (some (.own (sD a))) none none none (L / 8))=some (.sc (.bl (decide (a≠ae "")))):=bY (a:=sD a) (b:=sD (ae "")) rfl rfl (Rf _ _ sa (by decide +kernel));have t2:au (iO λi j=>V.bl (decide (i < j))) (af 1) (λx=>some (D.sc (V.int 9))) (eW M (some (.own (sD a))) none none none (L / 8))=some (.sc (.bl (decide (M < 9)))):=bY (a:=iD M) (b:=iD 9) rfl rfl rfl;by_cases c:a≠ae ""/\M < 9
 ·rw[decide_eq_true c.1]at t1;rw[decide_eq_true c.2]at t2;obtain⟨h1,h2,h3⟩:=hc.resolve_left c.1;refine⟨a,L / 8,fC (ρ':=eW M (some (.own (sD a))) none none none (L / 8)) (aD a1 (gF (oW (aq t1) (aq t2)) (cD (lg rfl rfl)))) rfl,h1,h2,by lia⟩
 ·have tt:lN (λZ=>(au (dN λx=> !x) (af 2) (λx=>some (D.sc (V.str (ae "")))) Z).bind λx=>match x with | D.sc (V.bl b)=>some b | x=>none) (λZ=>(au (iO λi j=>V.bl (decide (i < j))) (af 1) (λx=>some (D.sc (V.int 9))) Z).bind λx=>match x with | D.sc (V.bl b)=>some b | x=>none) (eW M (some (.own (sD a))) none none none (L / 8))=some false:=by
   by_cases c1:a≠ae ""
   ·rw[decide_eq_true c1]at t1;have c2:¬ M < 9:=λz=>c ⟨c1,z⟩;rw[decide_eq_false c2]at t2;exact oW (aq t1) (aq t2)
   ·rw[decide_eq_false c1]at t1;exact an3 (aq t1)
  have q0:=eG (L / 8 / 36 / 35) (show M≠0 by lia);have q1:=nW (L / 8 / 36 / 35) (show 0 < M by lia);obtain⟨r1,r2⟩:=an7 (m:=1 + L / 8 / 36 / 35 % M) ⟨by lia,by lia⟩;obtain⟨ys,y0,go,hl,hy⟩:=asT (M:=M) (f:=L / 8 % 36) (s:=1 + L / 8 / 36 % 35) (L:=L / 8 / 36 / 35 / M) (w:=sD a) (iQ 0 (1 + L / 8 / 36 / 35 % M).toNat) none i6 (λd hd=>by
   obtain⟨i,hi,rfl⟩:=abm hd;exact⟨_,rfl,by lia,by lia⟩)
  rw[r2]at hl;have h1:∀y∈ys,y.length=1:=λy h=>(hy y h).1;have hw:b6 (FP (ae "") ys)=ys.flatMap b6:=aq4 ys;have hn:(FP (ae "") ys).length=ys.length:=by rw[<- e7,hw,asR ys h1]
  refine⟨FP (ae "") ys,L / 8 / 36 / 35 / M,fC (ρ':=eW M (some (.own (sD a))) (some (.own (sD nS))) (some (.own (iD (L / 8 % 36)))) (some (.own (iD (1 + L / 8 / 36 % 35)))) (L / 8 / 36 / 35 / M)) (aD a1 (c3 tt (aD (ρ':=eW M (some (.own (sD a))) (some (.own (sD nS))) none none (L / 8)) rfl (aD (ρ':=eW M (some (.own (sD a))) (some (.own (sD nS))) (some (.own (iD (L / 8 % 36)))) none (L / 8 / 36)) (c5 (pk (r:=6) (ρ':=eW M (some (.own (sD a))) (some (.own (sD nS))) none none (L / 8 / 36)) rfl rfl rfl rfl (du rfl)) rfl) (aD (ρ':=eW M (some (.own (sD a))) (some (.own (sD nS))) (some (.own (iD (L / 8 % 36)))) (some (.own (iD (1 + L / 8 / 36 % 35)))) (L / 8 / 36 / 35)) (c5 (j7 (a:=iD 1) (b:=iD (L / 8 / 36 % 35)) rfl (pk (r:=6) (ρ':=eW M (some (.own (sD a))) (some (.own (sD nS))) (some (.own (iD (L / 8 % 36)))) none (L / 8 / 36 / 35)) rfl rfl rfl rfl (du rfl)) rfl) rfl) (cD ?_)))))) rfl,λc hc=> ?_,by rw[hn];lia,by rw[hn];lia⟩
  ·refine aj (a:=(.nd .lst (ys.map sD),eW M (some (.own (sD a))) (some (.own (sD nS))) (some (.own (iD (L / 8 % 36)))) (some (.own (iD (1 + L / 8 / 36 % 35)))) (L / 8 / 36 / 35 / M))) ?_ ?_
   ·refine aj (a:=([iD (1 + L / 8 / 36 / 35 % M)],eW M (some (.own (sD a))) (some (.own (sD nS))) (some (.own (iD (L / 8 % 36)))) (some (.own (iD (1 + L / 8 / 36 % 35)))) (L / 8 / 36 / 35 / M))) (SF.bx (j7 (a:=iD 1) (b:=iD (L / 8 / 36 / 35 % M)) rfl (av3 (r:=6) rfl rfl rfl rfl (du rfl) (by lia) (by lia)) rfl) rfl) ?_;refine aj r1 ?_;rw[if_pos (by rw[r2];exact b7 (show _<=1000 by lia) (by decide))];show(pU _ _ _ (ug none M (sD a) (L / 8 % 36) (1 + L / 8 / 36 % 35) (L / 8 / 36 / 35 / M))).map _=_;rw[go];rfl
   ·show(Jy (ae "") (.nd .lst (ys.map sD))).map _=_;rw[asU ys (by rw[ax1 ys h1];lia)];rfl
  ·rw[hw]at hc;obtain⟨y,h,hc⟩:=ayh.mp hc;exact(hy y h).2 c hc
theorem ao5(hr:aV Z r=some (lD L))(h:gG Z as=some ds):gG Z (.io ⟨r, []⟩::as)=some (lD L::ds):=by
 unfold gG;rw[show mY Z (.io ⟨r, []⟩)=some (lD L) from by
  show(aV Z r).bind (aI · [])=_;rw[hr,ax,k9],ax,h]
 rfl
theorem an8(hp:aT i Z=some (.rt r []))(hr:aV Z r=some (lD L))(hf:fm Z=some m)(hG:G [lD L,m]=some (d, [lD L']))(e:Z.set r (some (.own (lD L')))=ρ')(al:Al Z):(aX (λa=>(a,Z)) (gn (aT i) (mr fm λx=>some []) Z)).bind (λa=>fL G a.fst a.snd)=some (d,ρ'):=by
 rw[<- e];exact pb (r:=r) (ds:= [lD L,m]) (as:= [.io ⟨r, []⟩, .tm m]) al hr (SF.aoS hp (SF.avz hf rfl)) (ao5 hr rfl) rfl rfl hG
theorem rG(hp:aT i Z=some (.rt r []))(hr:aV Z r=some (lD L))(hG:G [lD L]=some (d, [lD L']))(e:Z.set r (some (.own (lD L')))=ρ')(al:Al Z):(aX (λa=>(a,Z)) (gn (aT i) (λx=>some []) Z)).bind (λa=>fL G a.fst a.snd)=some (d,ρ'):=by
 rw[<- e];exact pb (r:=r) (ds:= [lD L]) (as:= [.io ⟨r, []⟩]) al hr (SF.aoS hp rfl) (ao5 hr rfl) rfl rfl hG
theorem av8(hp:aT i Z=some (.rt r []))(hr:aV Z r=some (lD L))(hf:aT j Z=some q)(hq:gp Z q=some m)(pm:VL.plain m=true)(hG:G [lD L,m]=some (d, [lD L']))(e:Z.set r (some (.own (lD L')))=ρ')(al:Al Z):(aX (λa=>(a,Z)) (gn (aT i) (fB (aT j) λx=>some []) Z)).bind (λa=>fL G a.fst a.snd)=some (d,ρ'):=by
 rw[<- e];exact pb (r:=r) (ds:= [lD L,m]) (as:= [.io ⟨r, []⟩, .tm m]) al hr (SF.aoS hp (SF.Ta hf hq pm rfl)) (ao5 hr rfl) rfl rfl hG
theorem ao6(hp:aT i Z=some (.rt r []))(hf:fm Z=some (m,ρ1))(hr:aV ρ1 r=some (lD L1))(hG:G [lD L1,m]=some (d, [lD L']))(e:ρ1.set r (some (.own (lD L')))=ρ')(al:Al ρ1):((An (aT i) (zz fm λZ=>aX (λa=>(a,Z)) (some [])) Z).bind λa=>fL G a.fst a.snd)=some (d,ρ'):=by
 have h0:An (aT i) (zz fm λZ=>aX (λa=>(a,Z)) (some [])) Z=some ([.io ⟨r, []⟩, .tm m],ρ1):=by
  unfold An;rw[hp,ax];dsimp only;rw[if_pos rfl];unfold zz;rw[hf,ax];dsimp only;rw[jt,jt,ax];dsimp only;rw[hr];rfl
 rw[h0,ax, <- e];dsimp only;exact yM (ao5 hr rfl) ⟨by simp[cT,jF],rfl⟩ hG rfl (BA al hr _)
theorem asV{r:Option Fl}(h:f Z=some (iD a,ρ1))(hc:a=b)(hg:g ρ1=some (.rt d ρ')):fA (gv (ku (hZ (dN id) f λZ=>aX (λd=>(d,Z)) (some (D.sc (V.int b))))) g λZ=>some (.nx Z)) u Z=some (.rt d ρ'):=by
 have t:=Ul (b:=b) h;rw[decide_eq_true hc]at t;exact MP ((mB t rfl).trans (by rw[if_pos rfl];exact hg))
theorem asW(h:f Z=some (iD a,ρ1))(hc:¬ a=b)(hu:u ρ1=r):fA (gv (ku (hZ (dN id) f λZ=>aX (λd=>(d,Z)) (some (D.sc (V.int b))))) g λZ=>some (.nx Z)) u Z=r:=by
 have t:=Ul (b:=b) h;rw[decide_eq_false hc]at t;exact aD (ρ':=ρ1) ((mB t rfl).trans (if_neg df)) hu
theorem abp(h:a.length + b.length<=100000):en (sD a) (sD b)=some (sD (a++b)):=by
 show(if a.length + b.length<=aM then _ else _)=_;rw[if_pos (b7 h (by decide))]
noncomputable def asX:Str:=ae "/"++qc (ae "x") 40
def ao7:List Str:= ["/","//","/A.b~","/a/",asX]
theorem av9:∀a∈ao7,Pt (ae "path") a (.s a):=by
 have:(ao7.all λa=>gw a && decide ((b6 a).head?=some 47))=true:=by decide +kernel
 intro a ha;have:=gA.mp this a ha;simp only[kM,decide_eq_true_eq]at this;exact Pt.path (IM this.1) this.2
theorem awa:au en (λx=>some (D.sc (V.str (ae "/")))) (au Jl (λx=>some (D.sc (V.str (ae "x")))) λx=>some (D.sc (V.int 40))) Z=some (sD asX):=by
 refine bY (a:=sD (ae "/")) (b:=sD (qc (ae "x") 40)) rfl (bY (a:=sD (ae "x")) (b:=iD 40) rfl rfl ?_) ?_
 ·unfold Jl;dsimp only;rw[if_pos (by decide +kernel)]
 ·exact abp (by decide +kernel)
def eP(x0:Option B)(L:Int):En:= [x0,some (.aB 3 []),some (.aB 3 []),some (.own (lD L))]
theorem awb(h:NA x0)(d:D):bq 0 (.ro d) (eP x0 L)=eP (some (.ro d)) L:=by
 match x0,h with
 |none,_=>rfl
 |some (.own _),_=>rfl
 |some (.ro _),_=>rfl
 |some (.aB r p),h=>exact absurd rfl (h r p)
abbrev awc(K:ah)(C:Addr):En->Option (D×En):=hZ en (λZ=>aX (λd=>(d,Z)) (some (D.sc (V.str (ae "/"))))) λZ=>(aX (λa=>(a,Z)) (gn (aT 1) (mr (λx=>some (D.sc (V.int 8))) λx=>some []) Z)).bind λa=>fL (EN K C) a.fst a.snd
def awd(y:Str):Prop:=∃w,y=ae "/"++w/\AW w/\w.length<=8
theorem asY:∀(ds:List D) (x0:Option B) (L:Int),NA x0->∃(ys:List Str) (L':Int) (y0:Option B),pU (λd Z=>some (bq 0 (B.ro d) Z)) (awc K C) ds (eP x0 L)=some (ys.map sD,eP y0 L')/\ys.length=ds.length/\∀y∈ys,awd y
 | [],x0,L,_=>⟨[],L,x0,rfl,rfl,λy hy=>by cases hy⟩
 |d::ds,x0,L,h=>by
  obtain⟨w,L1,e,aw,w1,w2⟩:=aq6 (K:=K) (C:=C) 8 L (by decide);obtain⟨ys,L',y0,ih,hl,afM⟩:=asY ds (some (.ro d)) L1 dO;have s1:(ae "/":Str).length=1:=by decide +kernel
  refine⟨(ae "/"++w)::ys,L',y0, ?_,by rw[c8,c8,hl],λz hz=> ?_⟩
  ·rw[pU];show(some (bq 0 (.ro d) (eP x0 L))).bind _=_;rw[ax,awb h];refine aj (j7 (a:=sD (ae "/")) (b:=sD w) rfl (an8 (r:=3) (Z:=eP (some (.ro d)) L) (ρ':=eP (some (.ro d)) L1) rfl rfl rfl e rfl (du rfl)) (abp (by rw[s1];lia))) ?_;show(pU _ _ ds (eP (some (.ro d)) L1)).map _=_;rw[ih];rfl
  ·cases hz with
   |head=>exact⟨w,rfl,aw,by lia⟩
   |tail _ hz=>exact afM z hz
theorem asZ(w:Str):b6 (ae "/"++w)=47::b6 w:=by
 show(ae "/"++w).cps.toList=_;rw[nk,show(ae "/":Str).cps.toList= [47] by decide +kernel];rfl
theorem an9(h:nc c):33<=c/\c < 127:=by unfold nc at h;lia
theorem awe(L:Int):∃x L',aqa K C [lD L]=some (sD x, [lD L'])/\Pt (ae "path") x (.s x):=by
 have p5:=pk (K:=K) (C:=C) (r:=1) (i:=0) (Z:=eN L) (ρ':=eN (L / 5)) (m:=5) (fm:=λx=>some (D.sc (V.int 5))) rfl rfl rfl rfl (du rfl);unfold aqa ap9;dsimp only;by_cases c:L % 5=0
 ·obtain⟨a,ha,e⟩:=uD sD ao7 (L / 5 % 5) (eG _ (by decide)) (nW _ (by decide)) (λ_=>rfl);exact⟨a,L / 5 / 5,fC (ρ':=eN (L / 5 / 5)) (asV (r:=none) p5 c (cD (j7 (a:= .nd .lst (ao7.map sD)) (e9 (SF.jJ (SF.bw rfl (SF.bw rfl (SF.bw rfl (SF.bw rfl (SF.bw awa rfl))))) (cq rfl))) (pk (r:=1) (Z:=eN (L / 5)) (ρ':=eN (L / 5 / 5)) rfl rfl rfl rfl (du rfl)) e))) rfl,av9 a ha⟩
 ·have q0:=eG (L / 5) (show(3:Int)≠0 by decide);have q1:=nW (L / 5) (show(0:Int) < 3 by decide);obtain⟨r1,r2⟩:=an7 (m:=1 + L / 5 % 3) ⟨by lia,by lia⟩;obtain⟨ys,L',y0,go,hl,hy⟩:=asY (K:=K) (C:=C) (iQ 0 (1 + L / 5 % 3).toNat) none (L / 5 / 3) i6;rw[r2]at hl;have hw:=aq4 ys;have hs:(ys.map (·.length)).sum<=ys.length * 9/\∀y∈ys,y.length<=9:=by
   have h9:∀y∈ys,y.length<=9:=λy h=>by
    obtain⟨w,rfl,_,h8⟩:=hy y h;rw[OF,show(ae "/":Str).length=1 by decide +kernel]
    lia
   refine⟨?_,h9⟩;clear hl hw hy go
   induction ys with
   |nil=>simp
   |cons y ys ih=>
    have:=ih λz hz=>h9 z (.tail _ hz);have h0:=h9 y (.head _);rw[cP,auc,c8,Nat.succ_mul]
    lia
  have dw:(FP (ae "") ys).length<=27:=by
   have:=aqT (ae "") ys;rw[show(ae "":Str).length=0 by decide +kernel]at this
   lia
  have hd:(b6 (FP (ae "") ys)).head?=some 47:=by
   rw[hw];cases ys with
   |nil=>simp at hl;lia
   |cons y ys=>
    obtain⟨w,rfl,_⟩:=hy y (.head _);rw[ayf,asZ];rfl
  refine⟨FP (ae "") ys,L',fC (ρ':=eN L') (asW (r:=some (.rt (sD (FP (ae "") ys)) (eN L'))) p5 c (cD ?_)) rfl,Pt.path ⟨λc hc=> ?_, ?_,by lia⟩ hd⟩
  ·refine aj (a:=(.nd .lst (ys.map sD),eN L')) ?_ ?_
   ·refine aj (a:=([iD (1 + L / 5 % 3)],eN (L / 5 / 3))) (SF.bx (j7 (a:=iD 1) (b:=iD (L / 5 % 3)) rfl (pk (r:=1) (Z:=eN (L / 5)) (ρ':=eN (L / 5 / 3)) rfl rfl rfl rfl (du rfl)) rfl) rfl) ?_;refine aj r1 ?_;rw[if_pos (by rw[r2];exact b7 (show _<=1000 by lia) (by decide))];show(pU _ _ _ (eP none (L / 5 / 3))).map _=_;rw[go];rfl
   ·show(Jy (ae "") (.nd .lst (ys.map sD))).map _=_;rw[asU ys (by lia)];rfl
  ·rw[hw]at hc;obtain⟨y,h,hc⟩:=ayh.mp hc;obtain⟨w,rfl,aw,_⟩:=hy y h;rw[asZ]at hc;rcases bL.mp hc with rfl | hc
   ·decide
   ·exact an9 (aw c hc)
  ·rw[<- e7];cases h:b6 (FP (ae "") ys) with
   |nil=>rw[h]at hd;cases hd
   |cons a b=>simp
def eK(x1 x2:Option B)(L:Int):En:= [some (.aB 3 []),x1,x2,some (.own (lD L))]
def aq7(c:Nat):Prop:=nc c\/c=46
theorem awf:∀c,aq7 c->ael cS c=true:=by
 have:((xm 128).all λc=> !decide (nc c\/c=46) || ael cS c)=true:=by decide +kernel
 intro c h;have hc:c < 128:=by
  rcases h with h | h
  ·have:=an9 h;lia
  ·lia
 have:=gA.mp this c (sH.mpr hc);rw[decide_eq_true (show nc c\/c=46 from h)]at this;exact this
theorem awg:∀c,nc c->ael nS c=true:=by
 have:((xm 128).all λc=> !decide (nc c) || ael nS c)=true:=by decide +kernel
 intro c h;have:=gA.mp this c (sH.mpr (by have:=an9 h;lia));rw[decide_eq_true h]at this;exact this
theorem Ey(h:af i Z=some (sD w))(h1:fl Z=some lo)(h2:fh Z=some hi)(hw:w.length<=1000):td (af i) fl fh Z=some (sD (xj w lo hi)):=by
 unfold td;rw[h,ax,h1,ax,h2,ax];show(if w.length<=aM then _ else _)=_;rw[if_pos (b7 hw (by decide))]
theorem afN(L:Int):∃x a L',EJ K C [lD L]=some (.nd .tup [sD x,sD a], [lD L'])/\Pt (ae "content") x (.s a):=by
 have p4:=pk (K:=K) (C:=C) (r:=3) (i:=0) (Z:=eK none none L) (ρ':=eK none none (L / 4)) (m:=4) (fm:=λx=>some (D.sc (V.int 4))) rfl rfl rfl rfl (du rfl);unfold EJ KH;dsimp only;by_cases c:L % 4=0
 ·exact⟨ae "-",ae "",L / 4,fC (ρ':=eK none none (L / 4)) (asV (r:=none) p4 c (cD (SF.gS (l:= [sD (ae "-"),sD (ae "")]) (SF.bx rfl (SF.bx rfl rfl)) (cq rfl)))) rfl,Pt.dash⟩
 ·obtain⟨M,hM,eM⟩:=uD iD [9,40,200] (L / 4 % 3) (eG _ (by decide)) (nW _ (by decide)) (λ_=>rfl);have awh:8<=M/\M<=200:=by
   simp only[bL,dh,or_false]at hM
   lia
  obtain⟨w,L1,ew,aw,w1,w2⟩:=aq6 (K:=K) (C:=C) M (L / 4 / 3) awh;have lw:w.length<=200:=by lia
  have k0:(0:Int) < w.length + 1:=by lia
  have as0:=eG L1 (show((w.length:Int) + 1)≠0 by lia);have ayT:=nW L1 k0;obtain⟨p,hp,ep⟩:=uD sD [ae ".",ae ""] (L1 / (w.length + 1) % 2) (eG _ (by decide)) (nW _ (by decide)) (λ_=>rfl);have dM:p.length<=1/\∀c∈b6 p,c=46:=by
   simp only[bL,dh,or_false]at hp;rcases hp with rfl | rfl
   ·exact⟨by decide +kernel,by decide +kernel⟩
   ·exact⟨by decide +kernel,by decide +kernel⟩
  generalize ha:L1 % ((w.length:Int) + 1)=at_ at *;have ta:b6 (xj w none (some at_))=(b6 w).take at_.toNat:=asQ as0;have tb:b6 (xj w (some at_) none)=(b6 w).drop at_.toNat:=av2 as0 (by lia);have la:(xj w none (some at_)).length + (xj w (some at_) none).length=w.length:=by
   rw[<- e7, <- e7 (xj w (some at_) none),ta,tb,Ce,aik,e7]
   lia
  generalize hA:xj w none (some at_)=A at *;generalize hB:xj w (some at_) none=B' at *;have lW:(A++p++B').length=w.length + p.length:=by rw[OF,OF];lia
  have cW:∀c∈b6 (A++p++B'),aq7 c:=λc hc=>by
   have hc:c∈(A++p++B').cps.toList:=hc;rw[nk,nk]at hc;rcases lZ.mp hc with hc | hc
   ·rcases lZ.mp hc with hc | hc
    ·have hc:c∈b6 A:=hc;rw[ta]at hc;exact .inl (aw c (arz hc))
    ·exact .inr (dM.2 c hc)
   ·have hc:c∈b6 B':=hc;rw[tb]at hc;exact .inl (aw c (aya hc))
  have tX:b6 (xj (A++p++B') none (some 200))=(b6 (A++p++B')).take 200:=asQ (by decide);have lX:(xj (A++p++B') none (some 200)).length=min 200 (w.length + p.length):=by
   rw[<- e7,tX,Ce,e7,lW]
  have cX:∀c∈b6 (xj (A++p++B') none (some 200)),aq7 c:=λc hc=>by
   rw[tX]at hc;exact cW c (arz hc)
  have ayU:w.length + p.length<=201:=by lia
  generalize hW:A++p++B'=W at *;refine⟨xj W none (some 200),xj W none (some 200),L1 / (w.length + 1) / 2,fC (ρ':=eK (some (.own (sD W))) (some (.own (iD at_))) (L1 / (w.length + 1) / 2)) (asW (r:=some (.rt (.nd .tup [sD (xj W none (some 200)),sD (xj W none (some 200))]) (eK (some (.own (sD W))) (some (.own (iD at_))) (L1 / (w.length + 1) / 2)))) p4 c (aD (ρ':=eK (some (.own (sD w))) none L1) (c5 (ao6 (r:=3) (Z:=eK none none (L / 4)) (ρ1:=eK none none (L / 4 / 3)) (ρ':=eK none none L1) rfl (j7 (a:= .nd .lst ([9,40,200].map iD)) (e9 (SF.jJ (SF.bw rfl (SF.bw rfl (SF.bw rfl rfl))) (cq rfl))) (pk (r:=3) (Z:=eK none none (L / 4)) (ρ':=eK none none (L / 4 / 3)) rfl rfl rfl rfl (du rfl)) eM) rfl ew rfl (du rfl)) rfl) (aD (ρ':=eK (some (.own (sD w))) (some (.own (iD at_))) (L1 / (w.length + 1))) (c5 (ρ1:=eK (some (.own (sD w))) none (L1 / (w.length + 1))) (d:=iD at_) ?_ rfl) (aD (ρ':=eK (some (.own (sD W))) (some (.own (iD at_))) (L1 / (w.length + 1) / 2)) (c5 (ρ1:=eK (some (.own (sD w))) (some (.own (iD at_))) (L1 / (w.length + 1) / 2)) (d:=sD W) ?_ rfl) (cD (SF.gS (SF.bx (e9 (Ey rfl rfl rfl ?_)) (SF.bx (e9 (Ey rfl rfl rfl ?_)) rfl)) (cq rfl))))))) rfl,Pt.cont ⟨λc hc=> ?_,by lia,by lia⟩ ?_⟩
  ·rw[<- ha];refine pk (r:=3) (Z:=eK (some (.own (sD w))) none L1) (ρ':=eK (some (.own (sD w))) none (L1 / (w.length + 1))) rfl rfl ?_ rfl (du rfl) k0 (by lia);exact bY (a:=iD w.length) (b:=iD 1) (Tj w (by lia)) rfl rfl
  ·rw[<- hW];refine j7 (a:=sD (A++p)) (b:=sD B') (ρ1:=eK (some (.own (sD w))) (some (.own (iD at_))) (L1 / (w.length + 1) / 2)) (j7 (a:=sD A) (b:=sD p) (e9 ((Ey rfl rfl rfl (by lia)).trans (by rw[hA]))) (j7 (a:= .nd .lst ([ae ".",ae ""].map sD)) (e9 (SF.jJ (SF.bw rfl (SF.bw rfl rfl)) (cq rfl))) (pk (r:=3) (Z:=eK (some (.own (sD w))) (some (.own (iD at_))) (L1 / (w.length + 1))) (ρ':=eK (some (.own (sD w))) (some (.own (iD at_))) (L1 / (w.length + 1) / 2)) rfl rfl rfl rfl (du rfl)) ep) (abp (by lia))) (e9 ((Ey rfl rfl rfl (by lia)).trans (by rw[hB]))) (abp (by rw[OF];lia))
  ·lia
  ·lia
  ·rcases cX c hc with h | h
   ·exact an9 h
   ·lia
  ·unfold c9;rw[decide_eq_true (by lia)];exact gA.mpr λc hc=>awf c (cX c hc)
noncomputable def abq:List Str:= ["number","content","path","name","sort"]
def eQ(k:Str)(x2 x3:Option B)(L:Int):En:= [some (.aB 4 []),some (.ro (sD k)),x2,x3,some (.own (lD L))]
theorem me{w z:Str}{b:Bool}(h:af i Z=some (sD w))(hw:eg w=true:=by decide +kernel)(hz:eg z=true:=by decide +kernel)(hb:decide (w=z)=b:=by decide +kernel):au (dN id) (af i) (λ_=>some (D.sc (V.str z))) Z=some (.sc (.bl b)):=bY (a:=sD w) (b:=sD z) h rfl ((Ea w z hw hz).trans (by rw[hb]))
theorem aoa{c:En->Option Bool}{f g:En->Option Fl}(h:c Z=some true)(hr:f Z=r):gv (λZ=>aX (λb=>(b,Z)) (c Z)) f g Z=r:=by
 unfold gv;dsimp only;rw[h];exact hr
theorem Mk{c:En->Option Bool}{f g:En->Option Fl}(h:c Z=some false)(hr:g Z=r):gv (λZ=>aX (λb=>(b,Z)) (c Z)) f g Z=r:=by
 unfold gv;dsimp only;rw[h];exact hr
def Nb(k x:Str)(a:At):Prop:=k=ae "number"->∃n:Int,a= .i n/\x=b5 n/\0<=n/\n<=10 ^ 12 - 2
theorem aq8(h0:0<=n)(h1:n < 10 ^ 12):yk [iD n]=some (sD (b5 n)):=by
 show(if n.natAbs.log2 < 1920 then some (D.sc (.str (ae (toString n)))) else none)=_;have h:n.natAbs < 2 ^ 1920:=dI (show n.natAbs < 10 ^ 12 by lia) (by decide +kernel);have:n.natAbs.log2 < 1920:=by
  by_cases z:n.natAbs=0
  ·rw[z];decide
  ·exact(Nat.log2_lt z).mpr h
 rw[if_pos this];rfl
theorem awi(k:Str)(hk:k∈abq)(L:Int):∃x a L',aoJ K C [lD L,sD k]=some (.nd .tup [sD x,gN a], [lD L'])/\Pt k x a/\Nb k x a:=by
 simp only[abq,bL,dh,or_false]at hk;unfold aoJ aqb;dsimp only;rcases hk with rfl | rfl | rfl | rfl | rfl
 ·obtain⟨n,L',e,h0,h1⟩:=Uv (K:=K) (C:=C) L;refine⟨b5 n, .i n,L',fC (ρ':=eQ (ae "number") none (some (.own (iD n))) L') (c3 (aq (me rfl)) (MP (Mk (aq (me rfl)) (Mk (aq (me rfl)) (Mk (aq (me rfl)) (aD (ρ':=eQ (ae "number") none (some (.own (iD n))) L') (c5 (rG (r:=4) (Z:=eQ (ae "number") none none L) (ρ':=eQ (ae "number") none none L') rfl rfl e rfl (du rfl)) rfl) (cD (SF.gS (SF.bx (e9 (aj (a:= [iD n]) rfl (aq8 h0 (by lia)))) (SF.bx (lg rfl rfl) rfl)) (cq rfl))))))))) rfl,Pt.num h0 (by lia),λ_=>⟨n,rfl,rfl,h0,h1⟩⟩
 ·obtain⟨x,a,L',e,hp⟩:=afN (K:=K) (C:=C) L;refine⟨x, .s a,L',fC (ρ':=eQ (ae "content") none none L') (gF (aq (me rfl)) (cD (rG (r:=4) (Z:=eQ (ae "content") none none L) (ρ':=eQ (ae "content") none none L') rfl rfl e rfl (du rfl)))) rfl,hp,λz=>absurd z (by decide +kernel)⟩
 ·obtain⟨x,L',e,hp⟩:=awe (K:=K) (C:=C) L;refine⟨x, .s x,L',fC (ρ':=eQ (ae "path") (some (.own (sD x))) none L') (c3 (aq (me rfl)) (aD (ρ':=eQ (ae "path") (some (.own (sD x))) none L') (aoa (aq (me rfl)) (c5 (rG (r:=4) (Z:=eQ (ae "path") none none L) (ρ':=eQ (ae "path") none none L') rfl rfl e rfl (du rfl)) rfl)) (cD (SF.gS (SF.bx (lg rfl rfl) (SF.bx (lg rfl rfl) rfl)) (cq rfl))))) rfl,hp,λz=>absurd z (by decide +kernel)⟩
 ·obtain⟨x,L',e,aw,w1,w2⟩:=aq6 (K:=K) (C:=C) 8 L (by decide);refine⟨x, .s x,L',fC (ρ':=eQ (ae "name") (some (.own (sD x))) none L') (c3 (aq (me rfl)) (aD (ρ':=eQ (ae "name") (some (.own (sD x))) none L') (Mk (aq (me rfl)) (aoa (aq (me rfl)) (c5 (an8 (r:=4) (Z:=eQ (ae "name") none none L) (ρ':=eQ (ae "name") none none L') rfl rfl rfl e rfl (du rfl)) rfl))) (cD (SF.gS (SF.bx (lg rfl rfl) (SF.bx (lg rfl rfl) rfl)) (cq rfl))))) rfl,Pt.name ⟨λc hc=>an9 (aw c hc),w1,by lia⟩ ?_,λz=>absurd z (by decide +kernel)⟩;unfold aoX;rw[decide_eq_true ⟨w1,by lia⟩];exact gA.mpr λc hc=>awg c (aw c hc)
 ·obtain⟨x,hx,e⟩:=uD sD [ae "read",ae "write"] (L % 2) (eG _ (by decide)) (nW _ (by decide)) (λ_=>rfl);refine⟨x, .s x,L / 2,fC (ρ':=eQ (ae "sort") (some (.own (sD x))) none (L / 2)) (c3 (aq (me rfl)) (aD (ρ':=eQ (ae "sort") (some (.own (sD x))) none (L / 2)) (Mk (aq (me rfl)) (Mk (aq (me rfl)) (aoa (aq (me rfl)) (c5 (j7 (a:= .nd .lst ([ae "read",ae "write"].map sD)) (e9 (SF.jJ (SF.bw rfl (SF.bw rfl rfl)) (cq rfl))) (pk (r:=4) (Z:=eQ (ae "sort") none none L) (ρ':=eQ (ae "sort") none none (L / 2)) rfl rfl rfl rfl (du rfl)) e) rfl)))) (cD (SF.gS (SF.bx (lg rfl rfl) (SF.bx (lg rfl rfl) rfl)) (cq rfl))))) rfl,Pt.sort ?_,λz=>absurd z (by decide +kernel)⟩;simpa using hx
def eF(kd:D)(x2 x3 x4:Option B)(L:Int):En:= [some (.aB 5 []),some (.ro kd),x2,x3,x4,some (.own (lD L))]
def uB(x0:Option B)(kd:D)(x2 x3 x4:Option B)(L:Int):En:= [x0,some (.aB 7 []),some (.aB 7 []),some (.ro kd),x2,x3,x4,some (.own (lD L))]
theorem awj(h:NA x0)(d:D):bq 0 (.ro d) (uB x0 kd none none none L)=uB (some (.ro d)) kd none none none L:=by
 match x0,h with
 |none,_=>rfl
 |some (.own _),_=>rfl
 |some (.ro _),_=>rfl
 |some (.aB r p),h=>exact absurd rfl (h r p)
def yq(t:Tr):D:= .nd .tup [sD t.2.1,gN t.2.2]
abbrev as1(K:ah)(C:Addr):En->Option (D×En):=λZ=>(aX (λa=>(a,Z)) (gn (aT 1) (fB (aT 0) λx=>some []) Z)).bind λa=>fL (aoJ K C) a.fst a.snd
theorem as3:∀(ks:List Str) (x0:Option B) (L:Int),NA x0->(∀k∈ks,k∈abq)->∃(T:List Tr) (L':Int) (y0:Option B),pU (λd Z=>some (bq 0 (B.ro d) Z)) (as1 K C) (ks.map sD) (uB x0 kd none none none L)=some (T.map yq,uB y0 kd none none none L')/\T.map (·.1)=ks/\∀t∈T,Pt t.1 t.2.1 t.2.2/\Nb t.1 t.2.1 t.2.2
 | [],x0,L,_,_=>⟨[],L,x0,rfl,rfl,λy hy=>by cases hy⟩
 |k::ks,x0,L,h,hk=>by
  obtain⟨x,a,L1,e,hp,hn⟩:=awi (K:=K) (C:=C) k (hk k (.head _)) L;obtain⟨T,L',y0,ih,hl,hT⟩:=as3 ks (some (.ro (sD k))) L1 dO λq hq=>hk q (.tail _ hq);refine⟨(k,x,a)::T,L',y0, ?_,by rw[cP,hl],λz hz=> ?_⟩
  ·rw[cP,pU];show(some (bq 0 (.ro (sD k)) (uB x0 kd none none none L))).bind _=_;rw[ax,awj h];refine aj (av8 (r:=7) (Z:=uB (some (.ro (sD k))) kd none none none L) (ρ':=uB (some (.ro (sD k))) kd none none none L1) rfl rfl rfl rfl rfl e rfl (du rfl)) ?_;show(pU _ _ (ks.map sD) (uB (some (.ro (sD k))) kd none none none L1)).map _=_;rw[ih];rfl
  ·cases hz with
   |head=>exact⟨hp,hn⟩
   |tail _ hz=>exact hT z hz
theorem awk(h:af i Z=some (.nd .lst (w::xs)))(p:bI (w::xs)=true)(e:xs.drop k=ys)(hm:m=((k + 1:Nat):Int):=by rfl):td (af i) (λZ=>(some (D.sc (V.int m))).bind i9) (λx=>some none) Z=some (.nd .lst ys):=by
 unfold td;rw[h,hm, <- e];exact aqY p k
theorem abr(hl:xs.length + ys.length<=10000)(p:bI (xs++ys)=true):en (.nd .lst xs) (.nd .lst ys)=some (.nd .lst (xs++ys)):=by
 show(if xs.length + ys.length<=aM/\bI (xs++ys)=true then _ else _)=_;rw[if_pos ⟨b7 hl (by decide),p⟩]
theorem awl:dg ay cn (.nd .lst (cs++ [x,y])) (iD (-2))=some x:=by
 have e:mq (.nd .lst (cs++ [x,y])) (iD (-2))=some cs.length:=by
  show gC (cs++ [x,y]).length (-2)=_;unfold gC;rw[if_neg (by decide),if_pos (by simp;lia)];simp
  lia
 show(ay (.nd .lst (cs++ [x,y])) (iD (-2))).bind (jh (.nd .lst (cs++ [x,y])))=_;unfold ay;rw[e];show(cs++ [x,y])[cs.length]?=_;simp
theorem as4:gC (cs++ [x,y]).length (-1)=some (cs.length + 1):=by
 unfold gC;rw[if_neg (by decide),if_pos (by simp;lia)];simp
 lia
theorem awm:dg ay cn (.nd .lst (cs++ [x,y])) (iD (-1))=some y:=by
 have e:mq (.nd .lst (cs++ [x,y])) (iD (-1))=some (cs.length + 1):=as4;show(ay (.nd .lst (cs++ [x,y])) (iD (-1))).bind (jh (.nd .lst (cs++ [x,y])))=_;unfold ay;rw[e];show(cs++ [x,y])[cs.length + 1]?=_;simp
theorem as5(al:Al ρ1)(h1:fe Z=some (d,ρ1))(h2:fp ρ1=some (.rt r []))(h3:fi ρ1=some (iD (-1)))(h4:aV ρ1 r=some (.nd .lst (cs++ [x,y])))(e:ρ1.set r (some (.own (.nd .lst (cs++ [x,d]))))=ρ'):rT fe fp fi Z=some (.nx ρ'):=by
 have hn:kz ρ1 r []=some (.nd .lst (cs++ [x,y]), .lst,cs++ [x,y]):=by
  unfold kz;rw[h4,ax,k9];rfl
 unfold rT;rw[h1,ax];dsimp only;rw[h2,ax];dsimp only;rw[h3,ax];unfold lO;rw[hn,ax];dsimp only;show((aX (λp=>(cs++ [x,y]).set p d) (gC (cs++ [x,y]).length (-1))).map _).map _=_;rw[as4,jt,jt,jt,o4 al,jj, <- e];rw[show(cs++ [x,y]).set (cs.length + 1) d=cs++ [x,d] by simp]
theorem awn(h:Z[i]?=some (some (.own (.nd .lst X))))(hd:af i Z=some (.nd .lst X))(p:bI X=true)(e:Z.set i none=ρ'):SH (kr i) Z=some (.nd .e8 X,ρ'):=by
 refine SF.an2 ?_ p;unfold kr;rw[hd,ax,if_neg (by exact df),h];rw[<- e]
theorem awo:kB (λi j=>V.int (if j < i then j else i)) [iD a,iD b]=some (iD (if b < a then b else a)):=rfl
theorem as6{T:List Tr}{g:Tr->D}(hl:T.length<=12)(hj:∀t:Tr,dg ay cn (yq t) (iD j)=some (g t))(hp:∀t,VL.plain (g t)=true)(h2:af 2 Z=some (.nd .lst (T.map yq))):iJ 5 [none] [0] (λZ=>(af 2 Z).bind fP) (λd Z=>some (bq 0 (B.ro d) Z)) (λx=>some true) (gJ (au (dg ay cn) (af 0) λx=>some (D.sc (V.int j)))) Z=some (.nd .lst (T.map g)):=by
 have e:=qD (n:=5) (js:= [none]) (is:= [0]) (fi:=λZ=>(af 2 Z).bind fP) (fg:=λd Z=>some (bq 0 (B.ro d) Z)) (ft:=λx=>some true) (fe:=gJ (au (dg ay cn) (af 0) λx=>some (D.sc (V.int j)))) (Z:=Z) T yq (λ_=>true) g
  (aj h2 rfl) (b7 hl (by decide)) rfl (λt _=>⟨[some (.ro (yq t))],rfl,rfl,λ_=>by
   unfold gJ;rw[show au (dg ay cn) (af 0) (λx=>some (D.sc (V.int j))) [some (B.ro (yq t))]=some (g t) from bY (a:=yq t) (b:=iD j) rfl rfl (hj t),ax,if_pos (hp t)]⟩)
 rwa [show(T.filter λ_=>true)=T from uV.mpr λ_ _=>rfl]at e
theorem map_two{R:List Tr}(h:R.map (·.1)= [a,b]):∃t1 t2,R= [t1,t2]/\t1.1=a/\t2.1=b:=by
 cases R with
 |nil=>cases h
 |cons t1 R=>
  cases R with
  |nil=>cases h
  |cons t2 R=>
   cases R with
   |nil=>
    simp only[cP,jQ,List.cons.injEq,and_true]at h;exact⟨t1,t2,rfl,h.1,h.2⟩
   |cons t3 R=>cases h
structure p6(kd:D)(w:Str)(ks:List Str):Prop where
 sl:oS kd (some ((1:Nat):Int)) none=some (.nd .lst (ks.map sD))
 i0:dg ay cn kd (iD 0)=some (sD w)
 ln:fI [kd]=some (iD ((ks.length:Int) + 1))
theorem p6.lst:p6 (.nd .lst (sD w::ks.map sD)) w ks:=⟨aqY aq3 0,asL,by
 show some (D.sc (.int ((sD w::ks.map sD).length:Nat)))=_;rw[c8,bb];rfl⟩
theorem p6.e8:p6 (.nd .e8 (sD w::ks.map sD)) w ks:=⟨by
 show(if bI (sD w::ks.map sD)=true then some (D.nd .lst (cutD (sD w::ks.map sD) (some ((1:Nat):Int)) none)) else none)=_;rw[if_pos aq3,aqX];rfl,by
 have e:mq (.nd .e8 (sD w::ks.map sD)) (iD 0)=some 0:=aqZ _;show(ay (.nd .e8 (sD w::ks.map sD)) (iD 0)).bind (jh (.nd .e8 (sD w::ks.map sD)))=_;unfold ay;rw[e];rfl,by
 show some (D.sc (.int ((sD w::ks.map sD).length:Nat)))=_;rw[c8,bb];rfl⟩
theorem awp{ks:List Str}(aob:p6 kd w ks)(L:Int)(hk:∀k∈ks,k∈abq)(hl:ks.length<=10)(awq:mH w=true->∃abz,ks=abz++ [ae "number",ae "number"]/\1<=abz.length):
  ∃T L',aoK K C [lD L,kd]=some (.nd .tup [.nd .e8 (sD w::xW T), .nd .tup (sD w::aW T)], [lD L'])/\T.map (·.1)=ks/\Tok T/\(mH w=true->abn T):=by
 obtain⟨T,L1,y0,go,hT,hP⟩:=as3 (K:=K) (C:=C) (kd:=kd) ks none L i6 hk;have lT:T.length<=10:=by rw[<- hT,bb]at hl;exact hl
 have ayV:ks.length=T.length:=by rw[<- hT,bb]
 have e1:dU 2 (ase 5 [none,some 0] (λZ=>(td (af 1) (λZ=>(some (D.sc (V.int 1))).bind i9) (λx=>some none) Z).bind fP) (λd Z=>some (bq 0 (B.ro d) Z)) (as1 K C)) (eF kd none none none L)=some (.nx (eF kd (some (.own (.nd .lst (T.map yq)))) none none L1)):=by
  refine c5 (d:= .nd .lst (T.map yq)) (ρ1:=eF kd none none none L1) ?_ rfl;refine aj (a:=ks.map sD) (aj (a:= .nd .lst (ks.map sD)) (by show oS kd (some ((1:Nat):Int)) none=_;exact aob.sl) rfl) ?_;rw[if_pos (by rw[bb];exact b7 hl (by decide))];show(pU _ _ _ (uB none kd none none none L)).map _=_;rw[go];rfl
 have h0:∀x2 x3 x4 L,au (dg ay cn) (af 1) (λx=>some (D.sc (V.int 0))) (eF kd x2 x3 x4 L)=some (sD w):=λx2 x3 x4 L=>bY (a:=kd) (b:=iD 0) rfl rfl aob.i0;have e3:dU 3 (λZ=>aX (λd=>(d,Z)) (au en (d7 Kd.lst (ar (au (dg ay cn) (af 1) λx=>some (D.sc (V.int 0))) λx=>some [])) (iJ 5 [none] [0] (λZ=>(af 2 Z).bind fP) (λd Z=>some (bq 0 (B.ro d) Z)) (λx=>some true) (gJ (au (dg ay cn) (af 0) λx=>some (D.sc (V.int 0))))) Z)) (eF kd (some (.own (.nd .lst (T.map yq)))) none none L1)=some (.nx (eF kd (some (.own (.nd .lst (T.map yq)))) (some (.own (.nd .lst (sD w::xW T)))) none L1)):=
  c5 (e9 (bY (a:= .nd .lst [sD w]) (b:= .nd .lst (xW T)) (SF.jJ (SF.bw (h0 _ _ _ _) rfl) (cq rfl)) (as6 (g:=λt=>sD t.2.1) (by lia) (λ_=>rfl) (λ_=>rfl) rfl) (abr (by simp[xW];lia) rB))) rfl
 have e4:dU 4 (λZ=>aX (λd=>(d,Z)) (au en (d7 Kd.lst (ar (au (dg ay cn) (af 1) λx=>some (D.sc (V.int 0))) λx=>some [])) (iJ 5 [none] [0] (λZ=>(af 2 Z).bind fP) (λd Z=>some (bq 0 (B.ro d) Z)) (λx=>some true) (gJ (au (dg ay cn) (af 0) λx=>some (D.sc (V.int 1))))) Z)) (eF kd (some (.own (.nd .lst (T.map yq)))) (some (.own (.nd .lst (sD w::xW T)))) none L1)=some (.nx (eF kd (some (.own (.nd .lst (T.map yq)))) (some (.own (.nd .lst (sD w::xW T)))) (some (.own (.nd .lst (sD w::aW T)))) L1)):=
  c5 (e9 (bY (a:= .nd .lst [sD w]) (b:= .nd .lst (aW T)) (SF.jJ (SF.bw (h0 _ _ _ _) rfl) (cq rfl)) (as6 (g:=λt=>gN t.2.2) (by lia) (λ_=>rfl) (λ_=>rfl) rfl) (abr (by simp[aW];lia) rF))) rfl
 have aoc:au (λa b=>aX (λb=>D.sc (V.bl b)) (nT a b)) (au (dg ay cn) (af 1) λx=>some (D.sc (V.int 0))) (d7 Kd.tup (ar (λx=>some (D.sc (V.str (ae "lock")))) (ar (λx=>some (D.sc (V.str (ae "free")))) λx=>some []))) (eF kd (some (.own (.nd .lst (T.map yq)))) (some (.own (.nd .lst (sD w::xW T)))) (some (.own (.nd .lst (sD w::aW T)))) L1)=some (.sc (.bl (mH w))):=
  bY (a:=sD w) (b:= .nd .tup [sD (ae "lock"),sD (ae "free")]) (h0 _ _ _ _) (SF.jJ (SF.bw rfl (SF.bw rfl rfl)) (cq rfl)) (by rw[pe];rfl)
 have fin:∀(x2:Option B) (X Y:List D) (L2:Int),bI X=true->bI Y=true->kU (eJ (SH (kr 3)) (eJ (λZ=>aX (λd=>(d,Z)) ((ar (af 4) (λx=>some []) Z).bind vX)) λZ=>some ([],Z))) (eF kd x2 (some (.own (.nd .lst X))) (some (.own (.nd .lst Y))) L2)=some (.nd .tup [.nd .e8 X, .nd .tup Y],eF kd x2 none (some (.own (.nd .lst Y))) L2):=λx2 X Y L2 pX pY=>
  SF.gS (SF.bx (awn rfl rfl pX rfl) (SF.bx (e9 (aj (a:= [.nd .lst Y]) rfl (show vX [.nd .lst Y]=some (.nd .tup Y) from if_pos pY))) rfl)) (cq rfl)
 unfold aoK aqe;dsimp only;cases c:mH w with
 |false=>
  rw[c]at aoc;exact⟨T,L1,fC (ρ':=eF kd (some (.own (.nd .lst (T.map yq)))) none (some (.own (.nd .lst (sD w::aW T)))) L1) (aD e1 (aD e3 (aD e4 (c3 (an3 (aq aoc)) (cD (fin _ _ _ _ rB rF)))))) rfl,hT,λt ht=>(hP t ht).1,λz=>by cases z⟩
 |true=>
  rw[c]at aoc;obtain⟨abz,ek,l0⟩:=awq c;have eT:∃T0 t1 t2,T=T0++ [t1,t2]/\t1.1=ae "number"/\t2.1=ae "number":=by
   rw[ek]at hT;obtain⟨T0,R,rfl,_,hR⟩:=List.map_eq_append_iff.mp hT;obtain⟨t1,t2,rfl,h1,h2⟩:=map_two hR;exact⟨T0,t1,t2,rfl,h1,h2⟩
  obtain⟨T0,⟨k1,x1,a1⟩,⟨k2,x2,a2⟩,rfl,ao8,aq9⟩:=eT;obtain⟨m,em,ex,m0,m1⟩:=(hP _ (kg _ (.head _))).2 ao8;have em:a1= .i m:=em;have ex:x1=b5 m:=ex;have ao8:k1=ae "number":=ao8;have aq9:k2=ae "number":=aq9;subst em ex ao8 aq9;have q0:=eG L1 (show(60:Int)≠0 by decide);have q1:=nW L1 (show(0:Int) < 60 by decide);obtain⟨n,as7⟩:∃n:Int,n=if m + 1 + L1 % 60 < 10 ^ 12 - 1 then m + 1 + L1 % 60 else 10 ^ 12 - 1:=⟨_,rfl⟩
  have hn:m < n/\n < 10 ^ 12:=by
   rw[as7]
   split <;> lia
  have eX:sD w::xW (T0++ [(ae "number",b5 m, .i m),(ae "number",x2,a2)])=(sD w::xW T0)++ [sD (b5 m),sD x2]:=by simp[xW]
  have eA:sD w::aW (T0++ [(ae "number",b5 m, .i m),(ae "number",x2,a2)])=(sD w::aW T0)++ [iD m,gN a2]:=by simp[aW,gN,Kf]
  have as8:sD w::xW (T0++ [(ae "number",b5 m, .i m),(ae "number",b5 n, .i n)])=(sD w::xW T0)++ [sD (b5 m),sD (b5 n)]:=by simp[xW]
  have as9:sD w::aW (T0++ [(ae "number",b5 m, .i m),(ae "number",b5 n, .i n)])=(sD w::aW T0)++ [iD m,iD n]:=by simp[aW,gN,Kf]
  refine⟨T0++ [(ae "number",b5 m, .i m),(ae "number",b5 n, .i n)],L1 / 60, ?_, ?_,λt ht=> ?_,λ_=>⟨T0,(ae "number",b5 m),(ae "number",b5 n),m,n,rfl,hn.1⟩⟩
  ·rw[as8,as9];rw[eX,eA]at e4 aoc;rw[eX]at e3;generalize ayW:sD w::xW T0=XX at *;generalize ayX:sD w::aW T0=AA at *;generalize ayY:((T0++ [(ae "number",b5 m,At.i m),(ae "number",x2,a2)]).map yq)=PP at *;have tl:au (iO λi j=>V.bl (decide (j < i))) (λZ=>(ar (af 1) (λx=>some []) Z).bind fI) (λx=>some (D.sc (V.int 3))) (eF kd (some (.own (.nd .lst PP))) (some (.own (.nd .lst (XX++ [sD (b5 m),sD x2])))) (some (.own (.nd .lst (AA++ [iD m,gN a2])))) L1)=some (.sc (.bl true)):=by
    refine bY (a:=iD ((ks.length:Int) + 1)) (b:=iD 3) ?_ rfl ?_
    ·exact aob.ln
    ·show some (D.sc (.bl (decide ((3:Int) < (ks.length:Int) + 1))))=_;rw[decide_eq_true (by rw[ek];simp;lia)]
   have s1:rT (oK (kB λi j=>V.int (if j < i then j else i)) (eJ (λZ=>aX (λd=>(d,Z)) (au (iO λi j=>V.int (i - j)) (au (intD qk λi j=>V.int (i ^ j.toNat)) (λx=>some (D.sc (V.int 10))) λx=>some (D.sc (V.int 12))) (λx=>some (D.sc (V.int 1))) Z)) (eJ (hZ en (λZ=>aX (λd=>(d,Z)) (au en (au (dg ay cn) (af 4) λZ=>(some (D.sc (V.int 2))).bind (lP λi=>V.int (-i))) (λx=>some (D.sc (V.int 1))) Z)) (lr K C 0 λx=>some (D.sc (V.int 60)))) λZ=>some ([],Z)))) (aT 4) (λZ=>(some (D.sc (V.int 1))).bind (lP λi=>V.int (-i))) (eF kd (some (.own (.nd .lst PP))) (some (.own (.nd .lst (XX++ [sD (b5 m),sD x2])))) (some (.own (.nd .lst (AA++ [iD m,gN a2])))) L1)=some (.nx (eF kd (some (.own (.nd .lst PP))) (some (.own (.nd .lst (XX++ [sD (b5 m),sD x2])))) (some (.own (.nd .lst (AA++ [iD m,iD n])))) (L1 / 60))):=
    as5 (r:=4) (ρ1:=eF kd (some (.own (.nd .lst PP))) (some (.own (.nd .lst (XX++ [sD (b5 m),sD x2])))) (some (.own (.nd .lst (AA++ [iD m,gN a2])))) (L1 / 60)) (du rfl) (SF.adY (l:= [iD (10 ^ 12 - 1),iD (m + 1 + L1 % 60)]) (SF.bx (e9 (bY (a:=iD (10 ^ 12)) (b:=iD 1) aq5 rfl rfl)) (SF.bx (j7 (a:=iD (m + 1)) (b:=iD (L1 % 60)) (e9 (bY (a:=iD m) (b:=iD 1) (bY (a:= .nd .lst (AA++ [iD m,gN a2])) (b:=iD (-2)) rfl rfl awl) rfl rfl)) (pk (r:=5) (Z:=eF kd (some (.own (.nd .lst PP))) (some (.own (.nd .lst (XX++ [sD (b5 m),sD x2])))) (some (.own (.nd .lst (AA++ [iD m,gN a2])))) L1) rfl rfl rfl rfl (du rfl)) rfl) rfl)) (by rw[as7];exact awo)) rfl rfl rfl rfl
   have s2:rT (λZ=>aX (λd=>(d,Z)) ((ar (au (dg ay cn) (af 4) λZ=>(some (D.sc (V.int 1))).bind (lP λi=>V.int (-i))) (λx=>some []) Z).bind yk)) (aT 3) (λZ=>(some (D.sc (V.int 1))).bind (lP λi=>V.int (-i))) (eF kd (some (.own (.nd .lst PP))) (some (.own (.nd .lst (XX++ [sD (b5 m),sD x2])))) (some (.own (.nd .lst (AA++ [iD m,iD n])))) (L1 / 60))=some (.nx (eF kd (some (.own (.nd .lst PP))) (some (.own (.nd .lst (XX++ [sD (b5 m),sD (b5 n)])))) (some (.own (.nd .lst (AA++ [iD m,iD n])))) (L1 / 60))):=
    as5 (r:=3) (ρ1:=eF kd (some (.own (.nd .lst PP))) (some (.own (.nd .lst (XX++ [sD (b5 m),sD x2])))) (some (.own (.nd .lst (AA++ [iD m,iD n])))) (L1 / 60)) (du rfl) (e9 (aj (a:= [iD n]) (SF.bw (bY (a:= .nd .lst (AA++ [iD m,iD n])) (b:=iD (-1)) rfl rfl awm) rfl) (aq8 (by lia) hn.2))) rfl rfl rfl rfl
   have awr:bI (XX++ [sD (b5 m),sD (b5 n)])=true:=by rw[<- as8];exact rB
   have aws:bI (AA++ [iD m,iD n])=true:=by rw[<- as9];exact rF
   exact fC (ρ':=eF kd (some (.own (.nd .lst PP))) none (some (.own (.nd .lst (AA++ [iD m,iD n])))) (L1 / 60)) (aD e1 (aD e3 (aD e4 (aD (aoa (oW (aq aoc) (aq tl)) (aD s1 s2)) (cD (fin _ _ _ _ awr aws)))))) rfl
  ·rw[<- hT];simp
  ·rcases lZ.mp ht with z | z
   ·exact(hP t (qR _ z)).1
   ·rcases bL.mp z with rfl | z
    ·exact Pt.num m0 (by lia)
    ·rw[l5.mp z];exact Pt.num (by lia) hn.2
theorem lj.cons(h:NA b)(hs:lj Z):lj (b::Z):=λx hx=>by
 rcases bL.mp hx with rfl | z
 ·exact h
 ·exact hs x z
theorem lj.nil:lj []:=λx hx=>by cases hx
def Wb(l:List Int):Prop:=∃a1 a2 a3 a4 a5 a6 a7 a8:Int,l= [a1,a2,a3,a4,a5,a6,a7,a8]/\1<=a1/\a1<=7/\1<=a2/\a2<=10/\1<=a3/\1<=a4/\0 < a5/\a5<=a6/\0 < a8/\a8<=a7
theorem awt(h:Wb l):aoQ K C [.nd .tup (sD w::l.map iD)]=some (.sc (.bl true)):=by
 obtain⟨a1,a2,a3,a4,a5,a6,a7,a8,rfl,h1,h2,h3,h4,h5,h6,h7,h8,h9,awu⟩:=h;unfold aoQ aqE;dsimp only;refine fQ (ρ':= [some (.ro (.nd .tup (sD w:: [a1,a2,a3,a4,a5,a6,a7,a8].map iD))),some (.own (iD a1)),some (.own (iD a2))]) (aD (ρ':= [some (.ro (.nd .tup (sD w:: [a1,a2,a3,a4,a5,a6,a7,a8].map iD))),some (.own (iD a1)),none]) rfl (aD (ρ':= [some (.ro (.nd .tup (sD w:: [a1,a2,a3,a4,a5,a6,a7,a8].map iD))),some (.own (iD a1)),some (.own (iD a2))]) rfl (c3 (an4 (b:=true) (oW (aq (an5 (a:=iD 1) (b:=iD a1) (c:=iD 7) rfl rfl rfl (xk h1) (xk h2))) (oW (aq (an5 (a:=iD 1) (b:=iD a2) (c:=iD 10) rfl rfl rfl (xk h3) (xk h4))) (oW (aq (bY (a:=iD a3) (b:=iD 1) rfl rfl (asE h5))) (aq (bY (a:=iD a4) (b:=iD 1) rfl rfl (asE h6)))))) rfl) (cD (E8 (aj (a:= .sc (.bl true)) (an5 (a:=iD 0) (b:=iD a5) (c:=iD a6) rfl rfl rfl (atR h7) (xk h8)) ?_) rfl)))));exact an5 (a:=iD 0) (b:=iD a8) (c:=iD a7) rfl rfl rfl (atR h9) (xk awu)
inductive Rw where
 |flat (w:Str) (T:List Tr)
 |ask (m n:Int) (v:Str) (T:List Tr)
 |work (m:Int) (v:Str) (T:List Tr)
 |pass (m n:Int) (ns:List Int)
noncomputable def xs (T:List Tr):List Str:=T.map (·.2.1)
theorem M1(T:List Tr):(xs T).map sD=xW T:=by
 unfold xs xW;rw[mJ];rfl
def Rw.words:Rw->List Str
 |.flat w T=>w::xs T
 |.ask m n v T=>ae "ask"::b5 m::b5 n::v::xs T
 |.work m v T=>ae "work"::b5 m::v::xs T
 |.pass m n ns=>ae "pass"::(m::n::ns).map b5
def Rw.dat(k:Kd):Rw->D
 |.flat w T=> .nd .tup (sD w::aW T)
 |.ask m n v T=> .nd .tup (sD (ae "ask")::([m,n].map iD++ [.nd .tup (sD v::aW T)]))
 |.work m v T=> .nd .tup (sD (ae "work")::([m].map iD++ [.nd .tup (sD v::aW T)]))
 |.pass m n ns=> .nd .tup [sD (ae "pass"),iD m, .nd k ((n::ns).map iD)]
def Rw.ok:Rw->Prop
 |.flat w T=>(w,T.map (·.1))∈o3/\Tok T/\T.length<=12/\(w=ae "world"->∃l,aW T=l.map iD/\Wb l)
 |.ask m n v T=>ix m/\ix n/\(v,T.map (·.1))∈p3/\Tok T/\T.length<=12/\(mH v=true->abn T)
 |.work m v T=>ix m/\(v,T.map (·.1))∈t4/\Tok T/\T.length<=12
 |.pass m n ns=>(∀k∈m::n::ns,ix k)/\ns.length<=12
noncomputable def Rw.uC:Rw->Bool
 |.flat w _=>decide (w=ae "world")
 |_=>false
theorem rq{b:Bool}(h:af i Z=some (.nd .lst (sD w::ds)))(hw:eg w=true)(hz:eg z=true:=by decide +kernel)(hb:decide (w=z)=b:=by decide +kernel):au (dN id) (au (dg ay cn) (af i) λx=>some (D.sc (V.int 0))) (λx=>some (D.sc (V.str z))) Z=some (.sc (.bl b)):=bY (a:=sD w) (b:=sD z) (WD h) rfl ((Ea w z hw hz).trans (by rw[hb]))
theorem aod{b:Bool}(h:af i Z=some (.nd .tup (sD w::ds)))(hw:eg w=true)(hz:eg z=true:=by decide +kernel)(hb:decide (w=z)=b:=by decide +kernel):au (dN id) (au (dg ay cn) (af i) λx=>some (D.sc (V.int 0))) (λx=>some (D.sc (V.str z))) Z=some (.sc (.bl b)):=bY (a:=sD w) (b:=sD z) (asM h) rfl ((Ea w z hw hz).trans (by rw[hb]))
theorem ata(h:x∈o3):decide (x.1=ae "ask")=false/\decide (x.1=ae "work")=false/\decide (x.1=ae "pass")=false:=by
 have:(o3.all λx=> !decide (x.1=ae "ask") && !decide (x.1=ae "work") && !decide (x.1=ae "pass"))=true:=by decide +kernel
 have:=gA.mp this x h;simp only[kM,arF]at this;exact⟨this.1.1,this.1.2,this.2⟩
theorem awv(h:af i Z=some d)(p:VL.plain d=true):kr i Z=some (d,Z):=by
 unfold kr;rw[h,ax,if_pos p]
theorem afz(kf:KF K){r:Rw}(h:r.ok):rz K C [.nd .lst (r.words.map sD)]=some (r.dat .lst):=by
 cases r with
 |flat w T=>
  obtain⟨hm,ht,hl,hw⟩:=h;have g:=X8 hm;have sg:eg w=true:=g.jn;obtain⟨q1,q2,q3⟩:=ata hm;obtain⟨fD,hd,hf⟩:=kf.rows;have hb:U0 K C [fD, .nd .lst (sD w::xW T)]=some (.nd .tup (sD w::aW T)):=aq1 g ht hl (hf _ hm);show rz K C [.nd .lst (sD w::(xs T).map sD)]=some (.nd .tup (sD w::aW T));rw[M1];unfold rz VV;dsimp only;refine fQ (ρ':= [some (.ro (.nd .lst (sD w::xW T))),some (.own (.nd .tup (sD w::aW T)))]) (c3 (aq (rq rfl sg (hb:=q1))) (c3 (aq (rq rfl sg (hb:=q2))) (c3 (aq (rq rfl sg (hb:=q3))) (aD (ρ':= [some (.ro (.nd .lst (sD w::xW T))),some (.own (.nd .tup (sD w::aW T)))]) (c5 (e9 (d:= .nd .tup (sD w::aW T)) (aj (a:= [fD, .nd .lst (sD w::xW T)]) (SF.bw (aj (a:= [.sc (.ref (kA K (ae "ROWS")))]) rfl hd) (SF.bw rfl rfl)) (dk rfl hb))) rfl) (c3 (oW (aq (bY (a:= .nd .tup (sD w::aW T)) (b:= .sc .aG) rfl rfl rfl)) ?_) (cD (awv rfl rF)))))));by_cases c:w=ae "world"
  ·obtain⟨l,e,hl⟩:=hw c;have iw:aoQ K C [.nd .tup (sD w::aW T)]=some (.sc (.bl true)):=by rw[e];exact awt hl
   exact oW (aq (aod rfl sg (hb:=decide_eq_true c))) (an4 (b:=true) (aq (aj (a:= [.nd .tup (sD w::aW T)]) rfl (dk rfl iw))) rfl)
  ·exact an3 (aq (aod rfl sg (hb:=decide_eq_false c)))
 |ask m n v T=>
  obtain⟨h1,h2,h3,h4,h5,h6⟩:=h;have e:=avX (C:=C) kf h1 h2 h3 h4 h5 h6;show rz K C [.nd .lst (sD (ae "ask")::sD (b5 m)::sD (b5 n)::sD v::(xs T).map sD)]=some (.nd .tup (sD (ae "ask")::([m,n].map iD++ [.nd .tup (sD v::aW T)])));rw[M1];generalize hW:(D.nd .lst (sD (ae "ask")::sD (b5 m)::sD (b5 n)::sD v::xW T))=W at *;unfold rz VV;dsimp only;exact fQ (ρ':= [some (.ro W),none]) (gF (aq (rq (w:=ae "ask") (ds:=sD (b5 m)::sD (b5 n)::sD v::xW T) (by rw[<- hW];rfl) (by decide +kernel))) (cD (e9 (aj (a:= [W]) rfl (dk rfl e)))))
 |work m v T=>
  obtain⟨h1,h2,h3,h4⟩:=h;have e:=avY (C:=C) kf h1 h2 h3 h4;show rz K C [.nd .lst (sD (ae "work")::sD (b5 m)::sD v::(xs T).map sD)]=some (.nd .tup (sD (ae "work")::([m].map iD++ [.nd .tup (sD v::aW T)])));rw[M1];generalize hW:(D.nd .lst (sD (ae "work")::sD (b5 m)::sD v::xW T))=W at *;unfold rz VV;dsimp only;exact fQ (ρ':= [some (.ro W),none]) (c3 (aq (rq (w:=ae "work") (ds:=sD (b5 m)::sD v::xW T) (by rw[<- hW];rfl) (by decide +kernel))) (gF (aq (rq (w:=ae "work") (ds:=sD (b5 m)::sD v::xW T) (by rw[<- hW];rfl) (by decide +kernel))) (cD (e9 (aj (a:= [W]) rfl (dk rfl e))))))
 |pass m n ns=>
  have e:=avZ (K:=K) (C:=C) h.1 h.2;show rz K C [.nd .lst (sD (ae "pass")::((m::n::ns).map b5).map sD)]=some (.nd .tup [sD (ae "pass"),iD m, .nd .lst ((n::ns).map iD)]);rw[mJ,show(sD ∘ b5)=λk=>sD (b5 k) from rfl];generalize hW:(D.nd .lst (sD (ae "pass")::(m::n::ns).map λk=>sD (b5 k)))=W at *;unfold rz VV;dsimp only;exact fQ (ρ':= [some (.ro W),none]) (c3 (aq (rq (w:=ae "pass") (ds:=(m::n::ns).map λk=>sD (b5 k)) (by rw[<- hW];rfl) (by decide +kernel))) (c3 (aq (rq (w:=ae "pass") (ds:=(m::n::ns).map λk=>sD (b5 k)) (by rw[<- hW];rfl) (by decide +kernel))) (gF (aq (rq (w:=ae "pass") (ds:=(m::n::ns).map λk=>sD (b5 k)) (by rw[<- hW];rfl) (by decide +kernel))) (cD (e9 (aj (a:= [W]) rfl (dk rfl e)))))))
structure ao9(tab:List (Str×List Str))(w:Str)(ks:List Str):Prop where
 mem:(w,ks)∈tab
 kd:∀k∈ks,k∈abq
 le:ks.length<=10
 lf:mH w=true->∃abz,ks=abz++ [ae "number",ae "number"]/\1<=abz.length
def apa(tab:List (Str×List Str))(w:Str)(ks:List Str):Bool:=decide ((w,ks)∈tab) && ks.all (λk=>decide (k∈abq)) && decide (ks.length<=10) && (!mH w || (decide (ks.drop (ks.length - 2)= [ae "number",ae "number"]) && decide (3<=ks.length)))
theorem apb(h:apa tab w ks=true):ao9 tab w ks:=by
 unfold apa at h;simp only[kM,ayg,decide_eq_true_eq,gA,arF]at h;obtain⟨⟨⟨h1,h2⟩,h3⟩,h4⟩:=h;refine⟨h1,h2,h3,λhl=> ?_⟩;rcases h4 with z | ⟨z,l⟩
 ·rw[z]at hl;cases hl
 ·refine⟨ks.take (ks.length - 2), ?_,by rw[Ce];lia⟩;rw[<- z,aiD]
def ahb(tab:List (Str×List Str))(a:Str):Bool:=match d5 a ⟨#[32]⟩ with
 |w::ks=>apa tab w ks
 | []=>false
theorem atb(h:ahb tab a=true):∃w ks,d5 a ⟨#[32]⟩=w::ks/\ao9 tab w ks:=by
 unfold ahb at h
 split at h
 ·next w ks e=>exact⟨w,ks,e,apb h⟩
 ·cases h
theorem aoe(aob:p6 kd w ks)(f:ao9 tab w ks)(L:Int):∃T L',aoK K C [lD L,kd]=some (.nd .tup [.nd .e8 (sD w::xW T), .nd .tup (sD w::aW T)], [lD L'])/\(w,T.map (·.1))∈tab/\Tok T/\T.length<=12/\(mH w=true->abn T)/\T.map (·.1)=ks:=by
 obtain⟨T,L',e,h1,h2,h3⟩:=awp (K:=K) (C:=C) aob L f.kd f.le f.lf;refine⟨T,L',e,by rw[h1];exact f.mem,h2, ?_,h3,h1⟩;have:=f.le;rw[<- h1,bb]at this
 lia
noncomputable def iF:List Str:= ["look","make path content","fold path","link path number","drop path","move path path","open path","see number","shut number number content","lock number sort number number","free number number number","open path"]
theorem aww:∀a∈iF,ahb p3 a=true:=by
 have:(iF.all λa=>ahb p3 a && decide (a.length<=100))=true:=by decide +kernel
 intro a ha;have:=gA.mp this a ha;rw[kM]at this;exact this.1
theorem awx:∀a∈iF,a.length<=100:=by
 have:(iF.all λa=>decide (a.length<=100))=true:=by decide +kernel
 intro a ha;exact decide_eq_true_eq.mp (gA.mp this a ha)
theorem awy:(ae " ":Str)=⟨#[32]⟩:=by decide +kernel
theorem atc(x:Str)(hx:x.length<=100):wG (ae " ") (sD x)=some (.nd .lst ((d5 x ⟨#[32]⟩).map sD)):=by
 rw[awy];show(if((⟨#[32]⟩:Str).length == 0)=false/\x.length + 2<=aM then some (D.nd .lst (((d5 x ⟨#[32]⟩).map V.str).map D.sc)) else none)=_;rw[if_pos ⟨rfl,b7 (aud hx 2) (by decide)⟩,mJ];rfl
def eR(x1:Option B)(L:Int):En:= [some (.aB 2 []),x1,some (.own (lD L))]
theorem awz(L:Int):∃v T L',aqh K C [lD L]=some (.nd .tup [.nd .e8 (sD v::xW T), .nd .tup (sD v::aW T)], [lD L'])/\(v,T.map (·.1))∈p3/\Tok T/\T.length<=12/\(mH v=true->abn T):=by
 obtain⟨a,ha,e⟩:=uD sD iF (L % 12) (eG _ (by decide)) (nW _ (by decide)) (λ_=>rfl);obtain⟨w,ks,es,fm⟩:=atb (aww a ha);have sp:=atc a (awx a ha);rw[es]at sp;obtain⟨T,L',ef,h1,h2,h3,h4,_⟩:=aoe (K:=K) (C:=C) p6.lst fm (L / 12);refine⟨w,T,L', ?_,h1,h2,h3,h4⟩;unfold aqh aqg;dsimp only;refine fC (ρ':=eR (some (.own (.nd .lst (iF.map sD)))) L') (aD (ρ':=eR (some (.own (.nd .lst ((iF.take 7).map sD)))) L) rfl (aD (ρ':=eR (some (.own (.nd .lst ((iF.take 10).map sD)))) L) rfl (aD (ρ':=eR (some (.own (.nd .lst (iF.map sD)))) L) rfl (cD (ao6 (r:=2) (Z:=eR (some (.own (.nd .lst (iF.map sD)))) L) (ρ1:=eR (some (.own (.nd .lst (iF.map sD)))) (L / 12)) (ρ':=eR (some (.own (.nd .lst (iF.map sD)))) L') rfl ?_ rfl ef rfl (du rfl)))))) rfl;refine aj (a:=(sD a,eR (some (.own (.nd .lst (iF.map sD)))) (L / 12))) (uh (x0:= .nd .lst (iF.map sD)) (xs:= .nd .lst (iF.map sD)) rfl (pk (r:=2) (Z:=eR (some (.own (.nd .lst (iF.map sD)))) L) (ρ':=eR (some (.own (.nd .lst (iF.map sD)))) (L / 12)) rfl rfl rfl rfl (du rfl)) rfl e) ?_;dsimp only;rw[sp];rfl
theorem awA(h:Pt k x a)(e:k=ae "number"):∃n,ix n/\x=b5 n/\a= .i n:=by
 cases h with
 |num h0 h1=>exact⟨_,⟨h0,h1⟩,rfl,rfl⟩
 |dash=>exact absurd e (by decide +kernel)
 |cont _ _=>exact absurd e (by decide +kernel)
 |path _ _=>exact absurd e (by decide +kernel)
 |name _ _=>exact absurd e (by decide +kernel)
 |sort _=>exact absurd e (by decide +kernel)
theorem atd(h:Tok T):∀k,T.map (·.1)=nn k->∃ns:List Int,T=ns.map tN/\∀n∈ns,ix n:=by
 induction T with
 |nil=>exact λk e=>⟨[],rfl,λn hn=>by cases hn⟩
 |cons t T ih=>
  intro k e;cases k with
  |zero=>cases e
  |succ k=>
   have e:t.1::T.map (·.1)=ae "number"::nn k:=e;obtain⟨e1,e2⟩:=aop e;obtain⟨ns,rfl,Pb⟩:=ih (λu hu=>h u (.tail _ hu)) k e2;obtain⟨n,hn,ex,ea⟩:=awA (h t (.head _)) e1;refine⟨n::ns, ?_,λm hm=> ?_⟩
   ·obtain⟨t1,t2,t3⟩:=t;have ex:t2=b5 n:=ex;have ea:t3= .i n:=ea;have e1:t1=_:=e1;subst ex ea e1;rfl
   ·rcases bL.mp hm with rfl | hm
    ·exact hn
    ·exact Pb m hm
noncomputable def gg:List Str:= ["rise number","send number","time number","fall number","wake number","begin number number","again number number","join number number","carry number","copy number","lose number","rest number","see number number","shelf number","held","way","story","logs"]
noncomputable def apc:List (Str×List Str):=o3.drop 1
theorem awB:∀a∈gg,ahb apc a=true/\a.length<=100:=by
 have:(gg.all λa=>ahb apc a && decide (a.length<=100))=true:=by decide +kernel
 intro a ha;have:=gA.mp this a ha;rw[kM,decide_eq_true_eq]at this;exact this
theorem awC:∀x∈apc,x∈o3/\decide (x.1=ae "world")=false:=by
 have:(apc.all λx=>decide (x∈o3) && !decide (x.1=ae "world"))=true:=by decide +kernel
 intro x hx;have:=gA.mp this x hx;rw[kM,decide_eq_true_eq,arF]at this;exact this
def eE(x1 x2 x3 x4 x5 x6 x7 x8 x9:Option B)(L:Int):En:= [some (.aB 10 []),x1,x2,x3,x4,x5,x6,x7,x8,x9,some (.own (lD L))]
theorem aof(h:f Z=some (.nd .tup [a,b],ρ1))(e:bq j (.own b) (bq i (.own a) ρ1)=ρ'):Sz [i,j] f Z=some (.nx ρ'):=by
 unfold Sz;rw[h, <- e];rfl
theorem awD{xs ys:List D}(hl:xs.length + ys.length<=1000)(p:bI (xs++ys)=true):apw (.nd .e8 xs) (.nd .e8 ys)=some (.nd .lst (xs++ys)):=by
 show(if xs.length + ys.length<=aM/\bI (xs++ys)=true then _ else _)=_;rw[if_pos ⟨b7 hl (by decide),p⟩]
theorem both{A:List Tr}{T:List Tr}(e1:af i Z=some (.nd .e8 (sD h::xW A)))(e2:af j Z=some (.nd .e8 (sD v::xW T)))(e3:af k Z=some (.nd .tup (sD h::aW A)))(e4:af l Z=some (.nd .tup (sD v::aW T)))(hA:A.length<=12)(hT:T.length<=12):
  kU (eJ (SH λZ=>aX (λd=>(d,Z)) (au apw (af i) (af j) Z)) (eJ (λZ=>aX (λd=>(d,Z)) (au en (af k) (d7 Kd.tup (ar (af l) λx=>some [])) Z)) λZ=>some ([],Z))) Z=some (.nd .tup [.nd .e8 ((sD h::xW A)++(sD v::xW T)), .nd .tup ((sD h::aW A)++ [.nd .tup (sD v::aW T)])],Z):=by
 have lx:∀T:List Tr,(xW T).length=T.length:=λT=>bb _;refine SF.gS (SF.bx (SF.an2 (e9 (bY e1 e2 (awD (by simp[lx];lia) (t5 rB rB)))) (t5 rB rB)) (SF.bx (e9 (bY (a:= .nd .tup (sD h::aW A)) (b:= .nd .tup [.nd .tup (sD v::aW T)]) e3 (SF.jJ (SF.bw e4 rfl) (cq rfl)) (ao1 (ll _ _) (by simp[aq0];lia) (t5 rF ?_)))) rfl)) (cq rfl);show(VL.plain (.nd .tup (sD v::aW T)) && true)=true;rw[show VL.plain (.nd .tup (sD v::aW T))=true from rF];rfl
noncomputable def se:List (Str×List Str):= [("shut", ["number","number","content"]),("make", ["number","name","content"])]
def va(p:Str×List Str):D:= .nd .e8 (sD p.1::p.2.map sD)
theorem awE:∀p∈se,ao9 t4 p.1 p.2:=by
 have:(se.all λp=>apa t4 p.1 p.2)=true:=by decide +kernel
 exact λp hp=>apb (gA.mp this p hp)
def nM(x0:Option B)(x1 x2:Option B)(L:Int):En:= [x0,some (.aB 12 []),some (.aB 12 []),x1,x2,none,none,none,none,none,none,none,some (.own (lD L))]
theorem awF(h:NA x0)(h1:NA x1)(h2:NA x2)(d:D):bq 0 (.ro d) (nM x0 x1 x2 L)=nM (some (.ro d)) x1 x2 L:=by
 refine(agc λb hb=> ?_).trans rfl;unfold nM at hb;simp only[bL,dh,or_false]at hb;rcases hb with z | z | z | z | z | z | z | z | z | z | z | z | z <;> rw[z]
 ·exact .inl h
 ·exact .inr ⟨12, [],rfl,by decide⟩
 ·exact .inr ⟨12, [],rfl,by decide⟩
 ·exact .inl h1
 ·exact .inl h2
 ·exact .inl i6
 ·exact .inl i6
 ·exact .inl i6
 ·exact .inl i6
 ·exact .inl i6
 ·exact .inl i6
 ·exact .inl i6
 ·exact .inl cZ
abbrev awG(K:ah)(C:Addr):En->Option (D×En):=λZ=>(aX (λa=>(a,Z)) (gn (aT 1) (λx=>some []) Z)).bind λa=>fL (Br K C) a.fst a.snd
theorem awH(h:NA x0):Al (nM x0 (some (.own l)) (some (.own (iD i))) L):=λb hb=>by
 unfold nM at hb;simp only[bL,dh,or_false]at hb;rcases hb with z | z | z | z | z | z | z | z | z | z | z | z | z <;> rw[z]
 ·exact .inl h
 ·exact .inr ⟨12,rfl⟩
 ·exact .inr ⟨12,rfl⟩
 ·exact .inl cZ
 ·exact .inl cZ
 ·exact .inl i6
 ·exact .inl i6
 ·exact .inl i6
 ·exact .inl i6
 ·exact .inl i6
 ·exact .inl i6
 ·exact .inl i6
 ·exact .inl cZ
theorem atU:∀(ds:List D) (x0:Option B) (L:Int),NA x0->∃(ns:List Int) (L':Int) (y0:Option B),pU (λd Z=>some (bq 0 (B.ro d) Z)) (awG K C) ds (nM x0 (some (.own l)) (some (.own (iD i))) L)=some (ns.map iD,nM y0 (some (.own l)) (some (.own (iD i))) L')/\ns.length=ds.length/\∀n∈ns,ix n
 | [],x0,L,_=>⟨[],L,x0,rfl,rfl,λy hy=>by cases hy⟩
 |d::ds,x0,L,h=>by
  obtain⟨n,L1,e,n0,n1⟩:=Uv (K:=K) (C:=C) L;obtain⟨ns,L',y0,ih,hl,hn⟩:=atU ds (some (.ro d)) L1 dO;refine⟨n::ns,L',y0, ?_,by rw[c8,c8,hl],λz hz=> ?_⟩
  ·rw[pU];show(some (bq 0 (.ro d) (nM x0 (some (.own l)) (some (.own (iD i))) L))).bind _=_;rw[ax,awF h cZ cZ];refine aj (rG (r:=12) (Z:=nM (some (.ro d)) (some (.own l)) (some (.own (iD i))) L) (ρ':=nM (some (.ro d)) (some (.own l)) (some (.own (iD i))) L1) rfl rfl e rfl (awH dO)) ?_;show(pU _ _ ds (nM (some (.ro d)) (some (.own l)) (some (.own (iD i))) L1)).map _=_;rw[ih];rfl
  ·cases hz with
   |head=>exact⟨n0,by lia⟩
   |tail _ hz=>exact hn z hz
theorem awI(h:gQ ay cn a b=some d):dg ay cn a b=some d:=by
 unfold gQ at h;obtain⟨x,h1,h2⟩:=ak.mp h;by_cases c:VL.plain x=true
 ·rw[if_pos c]at h2;cases h2;exact h1
 ·rw[if_neg c]at h2;cases h2
theorem ltB(h:af i Z=some (iD a)):au (iO λi j=>V.bl (decide (i < j))) (af i) (λx=>some (D.sc (V.int b))) Z=some (.sc (.bl (decide (a < b)))):=bY (a:=iD a) (b:=iD b) h rfl rfl
theorem ate{ns:List Int}(hl:ns.length<=1000)(hn:∀n∈ns,ix n)(h2:af i Z=some (.nd .lst (ns.map iD))):iJ n [none] [0] (λZ=>(af i Z).bind fP) (λd Z=>some (bq 0 (B.ro d) Z)) (λx=>some true) (gJ λZ=>(ar (af 0) (λx=>some []) Z).bind yk) Z=some (.nd .lst (ns.map λn=>sD (b5 n))):=by
 have e:=qD (n:=n) (js:= [none]) (is:= [0]) (fi:=λZ=>(af i Z).bind fP) (fg:=λd Z=>some (bq 0 (B.ro d) Z)) (ft:=λx=>some true) (fe:=gJ λZ=>(ar (af 0) (λx=>some []) Z).bind yk) (Z:=Z) ns iD (λ_=>true) (λn=>sD (b5 n))
  (aj h2 rfl) (b7 hl (by decide)) rfl (λn h=>⟨[some (.ro (iD n))],rfl,rfl,λ_=>by
   unfold gJ;exact aj (a:=sD (b5 n)) (aj (a:= [iD n]) rfl (aq8 (hn n h).1 (hn n h).2)) rfl⟩)
 rwa [show(ns.filter λ_=>true)=ns from uV.mpr λ_ _=>rfl]at e
theorem awJ(l:List Str):bI (l.map sD)=true:=vM λd hd=>by
 obtain⟨x,_,rfl⟩:=gY.mp hd;rfl
theorem aog(l:List Int):bI (l.map iD)=true:=vM λd hd=>by
 obtain⟨x,_,rfl⟩:=gY.mp hd;rfl
theorem awK(L:Int):∃(r:Rw) (L':Int),aoL K C [lD L]=some (.nd .tup [.nd .e8 (r.words.map sD),r.dat .e8], [lD L'])/\r.ok/\r.uC=false:=by
 have w0:=eG L (show(30:Int)≠0 by decide);have w1:=nW L (show(0:Int) < 30 by decide);have awL:=pk (K:=K) (C:=C) (r:=10) (i:=0) (Z:=eE (some (.own (.nd .lst (gg.map sD)))) none none none none none none none none L) (ρ':=eE (some (.own (.nd .lst (gg.map sD)))) none none none none none none none none (L / 30)) (m:=30) (fm:=λx=>some (D.sc (V.int 30))) rfl rfl rfl rfl (du rfl);unfold aoL aqi;dsimp only;have pre:∀{u:En->Option Fl} {r:Option Fl},u (eE (some (.own (.nd .lst (gg.map sD)))) (some (.own (iD (L % 30)))) none none none none none none none (L / 30))=r->fA (dU 2 λZ=>(aX (λa=>(a,Z)) (gn (aT 0) (mr (λx=>some (D.sc (V.int 30))) λx=>some []) Z)).bind λa=>fL (Bp K C) a.fst a.snd) u (eE (some (.own (.nd .lst (gg.map sD)))) none none none none none none none none L)=r:=λh=>aD (c5 awL rfl) h;generalize ayZ:L % 30=way at *;generalize L / 30=L0 at *;by_cases ara:way < 18
 ·obtain⟨a,ha,e⟩:=uD sD gg way w0 ara (λ_=>rfl);obtain⟨b1,b2⟩:=awB a ha;obtain⟨w,ks,es,fm⟩:=atb b1;have sp:=atc a b2;rw[es]at sp;obtain⟨T,L',ef,h1,h2,h3,h4,_⟩:=aoe (K:=K) (C:=C) p6.lst fm L0;obtain⟨q1,q2⟩:=awC _ h1;refine⟨.flat w T,L', ?_,⟨q1,h2,h3,λz=>absurd z (of_decide_eq_false q2)⟩,q2⟩;show _=some (D.nd .tup [.nd .e8 (sD w::(xs T).map sD), .nd .tup (sD w::aW T)],_);rw[M1];refine fC (ρ':=eE (some (.own (.nd .lst (gg.map sD)))) (some (.own (iD way))) none none none none none none none L') (aD (ρ':=eE (some (.own (.nd .lst ((gg.take 6).map sD)))) none none none none none none none none L) rfl (aD (ρ':=eE (some (.own (.nd .lst ((gg.take 11).map sD)))) none none none none none none none none L) rfl (aD (ρ':=eE (some (.own (.nd .lst (gg.map sD)))) none none none none none none none none L) rfl (pre (gF (aq ((ltB rfl).trans (by rw[decide_eq_true ara]))) (cD (an8 (r:=10) (m:= .nd .lst (sD w::ks.map sD)) (Z:=eE (some (.own (.nd .lst (gg.map sD)))) (some (.own (iD way))) none none none none none none none L0) rfl rfl ?_ ef rfl (du rfl)))))))) rfl;exact aj (a:=sD a) (bY (a:= .nd .lst (gg.map sD)) (b:=iD way) rfl rfl (awI e)) sp
 ·have arb:∀{u:En->Option Fl} {f:En->Option Fl} {r:Option Fl},u (eE (some (.own (.nd .lst (gg.map sD)))) (some (.own (iD way))) none none none none none none none L0)=r->fA (gv (λZ=>aX (λb=>(b,Z)) ((au (iO λi j=>V.bl (decide (i < j))) (af 2) (λx=>some (D.sc (V.int 18))) Z).bind λx=>match x with | D.sc (V.bl b)=>some b | x=>none)) f λZ=>some (Fl.nx Z)) u (eE (some (.own (.nd .lst (gg.map sD)))) (some (.own (iD way))) none none none none none none none L0)=r:=λh=>c3 (aq ((ltB rfl).trans (by rw[decide_eq_false ara]))) h;generalize awM:(D.nd .lst (gg.map sD))=EL at *;have head:∀{u:En->Option Fl} {r:Option Fl},u (eE (some (.own EL)) none none none none none none none none L)=r->fA (dU 1 (ju (eJ (λZ=>aX (λd=>(d,Z)) (some (D.sc (V.str (ae "rise number"))))) (eJ (λZ=>aX (λd=>(d,Z)) (some (D.sc (V.str (ae "send number"))))) (eJ (λZ=>aX (λd=>(d,Z)) (some (D.sc (V.str (ae "time number"))))) (eJ (λZ=>aX (λd=>(d,Z)) (some (D.sc (V.str (ae "fall number"))))) (eJ (λZ=>aX (λd=>(d,Z)) (some (D.sc (V.str (ae "wake number"))))) (eJ (λZ=>aX (λd=>(d,Z)) (some (D.sc (V.str (ae "begin number number"))))) λZ=>some ([],Z))))))))) (fA (dU 1 λZ=>aX (λd=>(d,Z)) (au en (af 1) (d7 Kd.lst (ar (gJ λx=>some (D.sc (V.str (ae "again number number")))) (ar (λx=>some (D.sc (V.str (ae "join number number")))) (ar (λx=>some (D.sc (V.str (ae "carry number")))) (ar (λx=>some (D.sc (V.str (ae "copy number")))) (ar (λx=>some (D.sc (V.str (ae "lose number")))) λx=>some [])))))) Z)) (fA (dU 1 λZ=>aX (λd=>(d,Z)) (au en (af 1) (d7 Kd.lst (ar (λx=>some (D.sc (V.str (ae "rest number")))) (ar (λx=>some (D.sc (V.str (ae "see number number")))) (ar (λx=>some (D.sc (V.str (ae "shelf number")))) (ar (λx=>some (D.sc (V.str (ae "held")))) (ar (λx=>some (D.sc (V.str (ae "way")))) (ar (λx=>some (D.sc (V.str (ae "story")))) (ar (λx=>some (D.sc (V.str (ae "logs")))) λx=>some [])))))))) Z)) u)) (eE none none none none none none none none none L)=r:=λh=>by
   rw[<- awM]at h;exact aD (ρ':=eE (some (.own (.nd .lst ((gg.take 6).map sD)))) none none none none none none none none L) rfl (aD (ρ':=eE (some (.own (.nd .lst ((gg.take 11).map sD)))) none none none none none none none none L) rfl (aD (ρ':=eE (some (.own (.nd .lst (gg.map sD)))) none none none none none none none none L) rfl h))
  by_cases atf:way < 26
  ·obtain⟨A,L1,ef,a1,a2,a3,a4,a5⟩:=aoe (K:=K) (C:=C) (tab:= [(ae "ask",nn 2)]) (w:=ae "ask") (ks:=nn 2) p6.lst (apb (by decide +kernel)) L0;obtain⟨ns,rfl,Pb⟩:=atd a2 2 a5;obtain⟨m,n,rfl⟩:∃m n,ns= [m,n]:=by
    have:ns.length=2:=by rw[<- bb (f:=tN), <- bb (f:=λt:Tr=>t.1),a5];rfl
    match ns,this with
    | [m,n],_=>exact⟨m,n,rfl⟩
   obtain⟨v,T,L2,eq,q1,q2,q3,q4⟩:=awz (K:=K) (C:=C) L1;refine⟨.ask m n v T,L2, ?_,⟨Pb m (by simp),Pb n (by simp),q1,q2,q3,q4⟩,rfl⟩;show _=some (D.nd .tup [.nd .e8 (sD (ae "ask")::sD (b5 m)::sD (b5 n)::sD v::(xs T).map sD), .nd .tup (sD (ae "ask")::([m,n].map iD++ [.nd .tup (sD v::aW T)]))],_);rw[M1];have bt:=both (Z:=eE (some (.own EL)) (some (.own (iD way))) (some (.own (.nd .e8 (sD (ae "ask")::xW ([m,n].map tN))))) (some (.own (.nd .tup (sD (ae "ask")::aW ([m,n].map tN))))) (some (.own (.nd .e8 (sD v::xW T)))) (some (.own (.nd .tup (sD v::aW T)))) none none none L2) (i:=3) (j:=5) (k:=4) (l:=6) rfl rfl rfl rfl a3 q3;refine fC (ρ':=eE (some (.own EL)) (some (.own (iD way))) (some (.own (.nd .e8 (sD (ae "ask")::xW ([m,n].map tN))))) (some (.own (.nd .tup (sD (ae "ask")::aW ([m,n].map tN))))) (some (.own (.nd .e8 (sD v::xW T)))) (some (.own (.nd .tup (sD v::aW T)))) none none none L2) (head (pre (arb (gF (aq ((ltB rfl).trans (by rw[decide_eq_true atf]))) (aD (aof (an8 (r:=10) (m:= .nd .lst (sD (ae "ask")::(nn 2).map sD)) (Z:=eE (some (.own EL)) (some (.own (iD way))) none none none none none none none L0) (ρ':=eE (some (.own EL)) (some (.own (iD way))) none none none none none none none L1) rfl rfl rfl ef rfl (du rfl)) rfl) (aD (aof (rG (r:=10) (Z:=eE (some (.own EL)) (some (.own (iD way))) (some (.own (.nd .e8 (sD (ae "ask")::xW ([m,n].map tN))))) (some (.own (.nd .tup (sD (ae "ask")::aW ([m,n].map tN))))) none none none none none L1) rfl rfl eq rfl (du rfl)) rfl) (cD bt))))))) rfl
  ·have atg:∀{u:En->Option Fl} {f:En->Option Fl} {r:Option Fl},u (eE (some (.own EL)) (some (.own (iD way))) none none none none none none none L0)=r->fA (gv (λZ=>aX (λb=>(b,Z)) ((au (iO λi j=>V.bl (decide (i < j))) (af 2) (λx=>some (D.sc (V.int 26))) Z).bind λx=>match x with | D.sc (V.bl b)=>some b | x=>none)) f λZ=>some (Fl.nx Z)) u (eE (some (.own EL)) (some (.own (iD way))) none none none none none none none L0)=r:=λh=>c3 (aq ((ltB rfl).trans (by rw[decide_eq_false atf]))) h;by_cases ath:way < 28
   ·obtain⟨A,L1,ef,a1,a2,a3,a4,a5⟩:=aoe (K:=K) (C:=C) (tab:= [(ae "work",nn 1)]) (w:=ae "work") (ks:=nn 1) p6.lst (apb (by decide +kernel)) L0;obtain⟨ns,rfl,Pb⟩:=atd a2 1 a5;obtain⟨m,rfl⟩:∃m,ns= [m]:=by
     have:ns.length=1:=by rw[<- bb (f:=tN), <- bb (f:=λt:Tr=>t.1),a5];rfl
     match ns,this with
     | [m],_=>exact⟨m,rfl⟩
    obtain⟨p,hp,ep⟩:=uD va se (L1 % 2) (eG _ (by decide)) (nW _ (by decide)) (λa=>show VL.plain (.nd .e8 (sD a.1::a.2.map sD))=true from aq3);obtain⟨T,L2,eq,q1,q2,q3,q4,q5⟩:=aoe (K:=K) (C:=C) (kd:=va p) p6.e8 (awE p hp) (L1 / 2);refine⟨.work m p.1 T,L2, ?_,⟨Pb m (by simp),q1,q2,q3⟩,rfl⟩;show _=some (D.nd .tup [.nd .e8 (sD (ae "work")::sD (b5 m)::sD p.1::(xs T).map sD), .nd .tup (sD (ae "work")::([m].map iD++ [.nd .tup (sD p.1::aW T)]))],_);rw[M1];have bt:=both (Z:=eE (some (.own EL)) (some (.own (iD way))) (some (.own (.nd .e8 (sD (ae "work")::xW ([m].map tN))))) (some (.own (.nd .tup (sD (ae "work")::aW ([m].map tN))))) (some (.own (.nd .e8 (sD p.1::xW T)))) none (some (.own (.nd .lst (se.map va)))) (some (.own (.nd .tup (sD p.1::aW T)))) none L2) (i:=3) (j:=5) (k:=4) (l:=8) rfl rfl rfl rfl a3 q3;refine fC (ρ':=eE (some (.own EL)) (some (.own (iD way))) (some (.own (.nd .e8 (sD (ae "work")::xW ([m].map tN))))) (some (.own (.nd .tup (sD (ae "work")::aW ([m].map tN))))) (some (.own (.nd .e8 (sD p.1::xW T)))) none (some (.own (.nd .lst (se.map va)))) (some (.own (.nd .tup (sD p.1::aW T)))) none L2) (head (pre (arb (atg (gF (aq ((ltB rfl).trans (by rw[decide_eq_true ath]))) (aD (aof (an8 (r:=10) (m:= .nd .lst (sD (ae "work")::(nn 1).map sD)) (Z:=eE (some (.own EL)) (some (.own (iD way))) none none none none none none none L0) (ρ':=eE (some (.own EL)) (some (.own (iD way))) none none none none none none none L1) rfl rfl rfl ef rfl (du rfl)) rfl) (aD (ρ':=eE (some (.own EL)) (some (.own (iD way))) (some (.own (.nd .e8 (sD (ae "work")::xW ([m].map tN))))) (some (.own (.nd .tup (sD (ae "work")::aW ([m].map tN))))) none none (some (.own (.nd .lst (se.map va)))) none none L1) rfl (aD (aof (ao6 (r:=10) (ρ1:=eE (some (.own EL)) (some (.own (iD way))) (some (.own (.nd .e8 (sD (ae "work")::xW ([m].map tN))))) (some (.own (.nd .tup (sD (ae "work")::aW ([m].map tN))))) none none (some (.own (.nd .lst (se.map va)))) none none (L1 / 2)) rfl (uh (x0:= .nd .lst (se.map va)) (xs:= .nd .lst (se.map va)) rfl (pk (r:=10) (Z:=eE (some (.own EL)) (some (.own (iD way))) (some (.own (.nd .e8 (sD (ae "work")::xW ([m].map tN))))) (some (.own (.nd .tup (sD (ae "work")::aW ([m].map tN))))) none none (some (.own (.nd .lst (se.map va)))) none none L1) rfl rfl rfl rfl (du rfl)) rfl ep) rfl eq rfl (du rfl)) rfl) (cD bt))))))))) rfl
   ·have q0:=eG L0 (show(8:Int)≠0 by decide);have q1:=nW L0 (show(0:Int) < 8 by decide);obtain⟨r1,r2⟩:=an7 (m:=2 + L0 % 8) ⟨by lia,by lia⟩;obtain⟨ns,L2,y0,go,hl,hn⟩:=atU (K:=K) (C:=C) (l:=EL) (i:=way) (iQ 0 (2 + L0 % 8).toNat) none (L0 / 8) i6;rw[r2]at hl;obtain⟨m,n,jX,rfl⟩:∃m n jX,ns=m::n::jX:=by
     match ns,hl with
     | [],h=>simp at h;lia
     | [_],h=>simp at h;lia
     |m::n::jX,_=>exact⟨m,n,jX,rfl⟩
    have dw:jX.length<=12:=by simp at hl;lia
    refine⟨.pass m n jX,L2, ?_,⟨hn,dw⟩,rfl⟩;show _=some (D.nd .tup [.nd .e8 (sD (ae "pass")::((m::n::jX).map b5).map sD), .nd .tup [sD (ae "pass"),iD m, .nd .e8 ((n::jX).map iD)]],_);rw[mJ,show(sD ∘ b5)=λk=>sD (b5 k) from rfl];have qp:∃x xs,(m::n::jX).map iD=x::xs:=⟨_,_,rfl⟩
    have e0:(m::n::jX).map iD=iD m::(n::jX).map iD:=rfl;have ay0:(m::n::jX).length<=14:=by simp;lia
    have pX:bI (sD (ae "pass")::(m::n::jX).map λk=>sD (b5 k))=true:=vM λd hd=>by
     rcases bL.mp hd with rfl | hd
     ·rfl
     ·obtain⟨x,_,rfl⟩:=gY.mp hd;rfl
    generalize ay1:m::n::jX=NN at *;generalize ay2:n::jX=N1 at *;have pN:=aog NN;refine fC (ρ':=eE (some (.own EL)) (some (.own (iD way))) none none none none none none (some (.own (.nd .lst (NN.map iD)))) L2) (head (pre (arb (atg (c3 (aq ((ltB rfl).trans (by rw[decide_eq_false ath]))) (aD (ρ':=eE (some (.own EL)) (some (.own (iD way))) none none none none none none (some (.own (.nd .lst (NN.map iD)))) L2) (c5 (d:= .nd .lst (NN.map iD)) (ρ1:=eE (some (.own EL)) (some (.own (iD way))) none none none none none none none L2) ?_ rfl) (cD (SF.gS (SF.bx (SF.an2 (e9 (bY (a:= .nd .lst [sD (ae "pass")]) (b:= .nd .lst (NN.map λk=>sD (b5 k))) (SF.jJ (SF.bw rfl rfl) (cq rfl)) (ate (by lia) hn rfl) (abr (by simp;lia) pX))) pX) (SF.bx (SF.gS (SF.bx rfl (SF.bx (E8 (d:=iD m) ?_ rfl) (SF.bx (SF.an2 (cs:=N1.map iD) (e9 ?_) (aog N1)) rfl))) (cq rfl)) rfl)) (cq rfl))))))))) rfl
    ·refine aj (a:=([iD (2 + L0 % 8)],eE (some (.own EL)) (some (.own (iD way))) none none none none none none none (L0 / 8))) (SF.bx (j7 (a:=iD 2) (b:=iD (L0 % 8)) rfl (pk (r:=10) (Z:=eE (some (.own EL)) (some (.own (iD way))) none none none none none none none L0) rfl rfl rfl rfl (du rfl)) rfl) rfl) ?_;refine aj r1 ?_;rw[if_pos (by rw[r2];exact b7 (show _<=1000 by lia) (by decide))];show(pU _ _ _ (nM none (some (.own EL)) (some (.own (iD way))) (L0 / 8))).map _=_;rw[go];rfl
    ·rw[e0];exact WD rfl
    ·rw[e0];exact awk (k:=0) rfl (by rw[<- e0];exact pN) rfl
def eZ(x1 x2 x3:Option B)(L:Int):En:= [some (.aB 4 []),x1,x2,x3,some (.own (lD L))]
theorem apd(h:Z[i]?=some (some (.own (.nd .lst X))))(hd:af i Z=some (.nd .lst X))(e:Z.set i none=ρ'):kr i Z=some (.nd .lst X,ρ'):=by
 unfold kr;rw[hd,ax,if_neg (by exact df),h, <- e]
theorem awN(h:fa Z=some ([a,b],ρ1))(e:bq j (.own b) (bq i (.own a) ρ1)=ρ'):qC i j fa Z=some (.nx ρ'):=by
 unfold qC;rw[h, <- e];rfl
noncomputable def mn (a:Int):Int:=if a < 10 ^ 12 - 1 then a else 10 ^ 12 - 1
theorem ati(h:f Z=some (iD a,ρ1)):oK (kB λi j=>V.int (if j < i then j else i)) (eJ (λZ=>aX (λd=>(d,Z)) (au (iO λi j=>V.int (i - j)) (au (intD qk λi j=>V.int (i ^ j.toNat)) (λx=>some (D.sc (V.int 10))) λx=>some (D.sc (V.int 12))) (λx=>some (D.sc (V.int 1))) Z)) (eJ f λZ=>some ([],Z))) Z=some (iD (mn a),ρ1):=
 SF.adY (l:= [iD (10 ^ 12 - 1),iD a]) (SF.bx (e9 (bY (a:=iD (10 ^ 12)) (b:=iD 1) aq5 rfl rfl)) (SF.bx h rfl)) rfl
theorem awO(L:Int):∃(r:Rw) (L':Int),aql K C [lD L]=some (.nd .tup [.nd .e8 (r.words.map sD),r.dat .e8], [lD L'])/\r.ok/\r.uC=true:=by
 obtain⟨n1,L1,e1,z1,y1⟩:=Uv (K:=K) (C:=C) L;obtain⟨n2,L2,e2,z2,y2⟩:=Uv (K:=K) (C:=C) L1;have p0:=eG L2 (show(7:Int)≠0 by decide);have p1:=nW L2 (show(0:Int) < 7 by decide);have q0:=eG (L2 / 7) (show(10:Int)≠0 by decide);have q1:=nW (L2 / 7) (show(0:Int) < 10 by decide);generalize hA:L2 % 7=A at *;generalize hB:L2 / 7 % 10=B' at *;obtain⟨n3,L3,e3,z3,y3⟩:=Uv (K:=K) (C:=C) (L2 / 7 / 10);obtain⟨n4,L4,e4,z4,y4⟩:=Uv (K:=K) (C:=C) L3;have r0:=eG L4 (show(9:Int)≠0 by decide);have r1:=nW L4 (show(0:Int) < 9 by decide);have s0:=eG (L4 / 9) (show(9:Int)≠0 by decide);have s1:=nW (L4 / 9) (show(0:Int) < 9 by decide);generalize hR:L4 % 9=R at *;generalize hS:L4 / 9 % 9=S at *;have m1:1 + n1<=mn (1 + n1 + R)/\mn (1 + n1 + R) < 10 ^ 12:=by unfold mn;split <;> lia
 have m2:1 + n2<=mn (1 + n2 + S)/\mn (1 + n2 + S) < 10 ^ 12:=by unfold mn;split <;> lia
 generalize hM:mn (1 + n1 + R)=M at *;generalize hN:mn (1 + n2 + S)=N at *;obtain⟨l,hl⟩:∃l:List Int,l= [1 + A,1 + B',1 + n3,1 + n4,1 + n1,M,N,1 + n2]:=⟨_,rfl⟩
 have atj:∀n∈l,ix n:=λn h=>by
  rw[hl]at h;simp only[bL,dh,or_false]at h;unfold ix
  lia
 have kf:(l.map tN).map (·.1)=nn 8:=by rw[kN,hl];rfl
 refine⟨.flat (ae "world") (l.map tN),L4 / 9 / 9, ?_,⟨by rw[kf];exact xb,asN atj,by rw[bb,hl];exact cq rfl,λ_=>⟨l,aN l,1 + A,1 + B',1 + n3,1 + n4,1 + n1,M,N,1 + n2,hl,by lia,by lia,by lia,by lia,by lia,by lia,by lia,by lia,by lia,by lia⟩⟩,by show decide (ae "world"=ae "world")=true;exact decide_eq_true rfl⟩;show _=some (D.nd .tup [.nd .e8 (sD (ae "world")::(xs (l.map tN)).map sD), .nd .tup (sD (ae "world")::aW (l.map tN))],_);rw[M1,xN,aN];have pX:bI (sD (ae "world")::l.map λk=>sD (b5 k))=true:=vM λd hd=>by
  rcases bL.mp hd with rfl | hd
  ·rfl
  ·obtain⟨x,_,rfl⟩:=gY.mp hd;rfl
 have pL:=aog l;have l8:l.length=8:=by rw[hl];rfl
 have ahc:∀{Z ρ1:En} {f:En->Option (D×En)} {n:Int},f Z=some (iD n,ρ1)->hZ en (λZ=>aX (λd=>(d,Z)) (some (D.sc (V.int 1)))) f Z=some (iD (1 + n),ρ1):=λh=>j7 (a:=iD 1) rfl h rfl;unfold aql aqk;dsimp only;refine fC (ρ':=eZ (some (.own (iD (1 + n1)))) (some (.own (iD (1 + n2)))) (some (.own (.nd .lst (l.map iD)))) (L4 / 9 / 9)) (aD (ρ':=eZ (some (.own (iD (1 + n1)))) (some (.own (iD (1 + n2)))) none L2) (awN (ρ1:=eZ none none none L2) (SF.bx (ahc (rG (r:=4) (Z:=eZ none none none L) (ρ':=eZ none none none L1) rfl rfl e1 rfl (du rfl))) (SF.bx (ahc (rG (r:=4) (Z:=eZ none none none L1) (ρ':=eZ none none none L2) rfl rfl e2 rfl (du rfl))) rfl)) rfl)
  (aD (ρ':=eZ (some (.own (iD (1 + n1)))) (some (.own (iD (1 + n2)))) (some (.own (.nd .lst [iD (1 + A),iD (1 + B'),iD (1 + n3),iD (1 + n4)]))) L4) (c5 (ρ1:=eZ (some (.own (iD (1 + n1)))) (some (.own (iD (1 + n2)))) none L4) (d:= .nd .lst [iD (1 + A),iD (1 + B'),iD (1 + n3),iD (1 + n4)]) (SF.S9 (SF.bx (ρ1:=eZ (some (.own (iD (1 + n1)))) (some (.own (iD (1 + n2)))) none (L2 / 7)) (ahc (n:=A) ?_) (SF.bx (ahc (n:=B') ?_) (SF.bx (ahc (rG (r:=4) (Z:=eZ (some (.own (iD (1 + n1)))) (some (.own (iD (1 + n2)))) none (L2 / 7 / 10)) (ρ':=eZ (some (.own (iD (1 + n1)))) (some (.own (iD (1 + n2)))) none L3) rfl rfl e3 rfl (du rfl))) (SF.bx (ahc (rG (r:=4) (Z:=eZ (some (.own (iD (1 + n1)))) (some (.own (iD (1 + n2)))) none L3) (ρ':=eZ (some (.own (iD (1 + n1)))) (some (.own (iD (1 + n2)))) none L4) rfl rfl e4 rfl (du rfl))) rfl)))) (cq rfl)) rfl)
  (aD (ρ':=eZ (some (.own (iD (1 + n1)))) (some (.own (iD (1 + n2)))) (some (.own (.nd .lst (l.map iD)))) (L4 / 9 / 9)) (c5 (ρ1:=eZ (some (.own (iD (1 + n1)))) (some (.own (iD (1 + n2)))) none (L4 / 9 / 9)) (d:= .nd .lst (l.map iD)) (j7 (a:= .nd .lst [iD (1 + A),iD (1 + B'),iD (1 + n3),iD (1 + n4)]) (b:= .nd .lst [iD (1 + n1),iD M,iD N,iD (1 + n2)]) (ρ1:=eZ (some (.own (iD (1 + n1)))) (some (.own (iD (1 + n2)))) none L4) (apd rfl rfl rfl) (SF.S9 (SF.bx (lg rfl rfl) (SF.bx (ρ1:=eZ (some (.own (iD (1 + n1)))) (some (.own (iD (1 + n2)))) none (L4 / 9)) (by rw[<- hM];exact ati (j7 (a:=iD (1 + n1)) (b:=iD R) (lg rfl rfl) (by rw[<- hR];exact pk (r:=4) (Z:=eZ (some (.own (iD (1 + n1)))) (some (.own (iD (1 + n2)))) none L4) rfl rfl rfl rfl (du rfl)) rfl)) (SF.bx (ρ1:=eZ (some (.own (iD (1 + n1)))) (some (.own (iD (1 + n2)))) none (L4 / 9 / 9)) (by rw[<- hN];exact ati (j7 (a:=iD (1 + n2)) (b:=iD S) (lg rfl rfl) (by rw[<- hS];exact ao6 (r:=4) (Z:=eZ (some (.own (iD (1 + n1)))) (some (.own (iD (1 + n2)))) none (L4 / 9)) (ρ1:=eZ (some (.own (iD (1 + n1)))) (some (.own (iD (1 + n2)))) none (L4 / 9)) rfl (E8 rfl rfl) rfl (afE (L4 / 9) 9 (by decide) (by decide)) rfl (du rfl)) rfl)) (SF.bx (lg rfl rfl) rfl)))) (cq rfl)) ?_) rfl)
  (cD (SF.gS (SF.bx (SF.an2 (e9 (bY (a:= .nd .lst [sD (ae "world")]) (b:= .nd .lst (l.map λk=>sD (b5 k))) (SF.jJ (SF.bw rfl rfl) (cq rfl)) (ate (by lia) atj rfl) (abr (by simp;lia) pX))) pX) (SF.bx (e9 (bY (a:= .nd .tup [sD (ae "world")]) (b:= .nd .tup (l.map iD)) (SF.jJ (SF.bw rfl rfl) (cq rfl)) (aj (a:= [.nd .lst (l.map iD)]) rfl (show vX [.nd .lst (l.map iD)]=some (.nd .tup (l.map iD)) from if_pos pL)) (ao1 (ll _ _) (by simp;lia) (t5 rfl pL)))) rfl)) (cq rfl)))))) rfl
 ·rw[<- hA];exact pk (r:=4) (Z:=eZ (some (.own (iD (1 + n1)))) (some (.own (iD (1 + n2)))) none L2) rfl rfl rfl rfl (du rfl)
 ·rw[<- hB];exact pk (r:=4) (Z:=eZ (some (.own (iD (1 + n1)))) (some (.own (iD (1 + n2)))) none (L2 / 7)) rfl rfl rfl rfl (du rfl)
 ·rw[hl];rfl
theorem arw(h: -18446744073709551616 < b/\b < 18446744073709551616):intD mM (λi j=>V.int (i * j)) (iD a) (iD b)=some (iD (a * b)):=by
 unfold intD;exact if_pos (Or.inr h)
theorem Uj(c k:Int):∃m:Int,La K C [iD c,iD k]=some (iD m):=by
 have hm:∀x:Int,0<=x % 2147483629/\x % 2147483629 < 2147483629:=λx=>⟨eG _ (by decide),nW _ (by decide)⟩
 obtain⟨o,ho⟩:∃o,o=(c % 2147483647 + 7919 * k + 11) * 48271 % 2147483629:=⟨_,rfl⟩
 have hb: -18446744073709551616 < o/\o < 18446744073709551616:=by have:=hm ((c % 2147483647 + 7919 * k + 11) * 48271);rw[<- ho]at this;lia
 refine⟨o * o % 1999999973, ?_⟩;unfold La K9;dsimp only;refine fQ (ρ':= [some (.ro (iD c)),some (.ro (iD k)),some (.own (iD o))]) (aD (ρ':= [some (.ro (iD c)),some (.ro (iD k)),some (.own (iD o))]) (c5 (e9 (d:=iD o) ?_) rfl) (cD (e9 (bY (a:=iD (o * o)) (b:=iD 1999999973) (bY (a:=iD o) (b:=iD o) rfl rfl (abo hb)) rfl (an6 (by decide))))));rw[ho];exact bY (a:=iD ((c % 2147483647 + 7919 * k + 11) * 48271)) (b:=iD 2147483629) (bY (a:=iD (c % 2147483647 + 7919 * k + 11)) (b:=iD 48271) (bY (a:=iD (c % 2147483647 + 7919 * k)) (b:=iD 11) (bY (a:=iD (c % 2147483647)) (b:=iD (7919 * k)) (bY (a:=iD c) (b:=iD 2147483647) rfl rfl (an6 (by decide))) (bY (a:=iD 7919) (b:=iD k) rfl rfl (abo (by decide))) rfl) rfl rfl) rfl (arw (by decide))) rfl (an6 (by decide))
theorem MS(c k:Int):∃L:Int,uu K C [iD c,iD k]=some (lD L):=by
 have awP:∀{Z:En},au (intD qk λi j=>V.int (i ^ j.toNat)) (λx=>some (D.sc (V.int 10))) (λx=>some (D.sc (V.int 18))) Z=some (iD (10 ^ 18)):=bY (a:=iD 10) (b:=iD 18) rfl rfl (by
  unfold intD;exact if_pos ⟨by decide,by decide,by decide⟩)
 have t:au (iO λi j=>V.bl (decide (j<=i))) (af 0) (au (intD qk λi j=>V.int (i ^ j.toNat)) (λx=>some (D.sc (V.int 10))) λx=>some (D.sc (V.int 18))) [some (.ro (iD c)),some (.ro (iD k)),none,none]=some (.sc (.bl (decide (10 ^ 18<=c)))):=bY (a:=iD c) (b:=iD (10 ^ 18)) rfl awP rfl;by_cases h:10 ^ 18<=c
 ·rw[decide_eq_true h]at t;refine⟨c, ?_⟩;unfold uu Lb;dsimp only;exact fQ (ρ':= [some (.ro (iD c)),some (.ro (iD k)),none,none]) (gF (aq t) (cD (SF.S9 (SF.bx (lg rfl rfl) rfl) (cq rfl))))
 ·rw[decide_eq_false h]at t;have key:∀{fb:En->Option Fl},(∀(j:Nat) (nu:Int) (x3:Option B),j < 16->NA x3->∃aoh,fb (bq 3 (.ro (iD (j:Int))) [some (.ro (iD c)),some (.ro (iD k)),some (.own (iD nu)),x3])=some (.nx [some (.ro (iD c)),some (.ro (iD k)),some (.own (iD aoh)),some (.ro (iD (j:Int)))]))->∃nu x3,eB (λd Z=>some (bq 3 (B.ro d) Z)) fb (iQ 0 16) [some (.ro (iD c)),some (.ro (iD k)),some (.own (iD 0)),none]=some (.nx [some (.ro (iD c)),some (.ro (iD k)),some (.own (iD nu)),x3]):=λ{fb} st=>by
   have:=SF.asx (fg:=λd Z=>some (bq 3 (B.ro d) Z)) (fb:=fb) 16 (λi:Nat=>iD (i:Int)) (λ_ Z=>∃nu x3,NA x3/\Z= [some (.ro (iD c)),some (.ro (iD k)),some (.own (iD nu)),x3]) (xm 16) (λa ha j Z _ hP=>by
    obtain⟨nu,x3,h3,rfl⟩:=hP;obtain⟨aoh,e⟩:=st a nu x3 (sH.mp ha) h3;exact⟨_,_,rfl,e,aoh,_,dO,rfl⟩) 0 _ ⟨0,none,i6,rfl⟩ (by simp)
   obtain⟨ρ',e,nu,x3,_,rfl⟩:=this;exact⟨nu,x3,by rw[Ri];exact e⟩
  have step:∀(j:Nat) (nu:Int) (x3:Option B),j < 16->NA x3->∃aoh,dU 2 (λZ=>aX (λd=>(d,Z)) (au en (au (intD mM λi j=>V.int (i * j)) (af 2) λx=>some (D.sc (V.int 1999999973))) (λZ=>(ar (au i5 (af 0) (au (intD mM λi j=>V.int (i * j)) (au (intD mM λi j=>V.int (i * j)) (λx=>some (D.sc (V.int 7))) (af 3)) (af 3))) (ar (au i5 (au (intD mM λi j=>V.int (i * j)) (λx=>some (D.sc (V.int 17))) (af 1)) (af 3)) λx=>some []) Z).bind λds=>if ds.length=2 then La K C ds else none) Z)) (bq 3 (.ro (iD (j:Int))) [some (.ro (iD c)),some (.ro (iD k)),some (.own (iD nu)),x3])=some (.nx [some (.ro (iD c)),some (.ro (iD k)),some (.own (iD aoh)),some (.ro (iD (j:Int)))]):=λj nu x3 hj h3=>by
   have hb:bq 3 (.ro (iD (j:Int))) [some (.ro (iD c)),some (.ro (iD k)),some (.own (iD nu)),x3]= [some (.ro (iD c)),some (.ro (iD k)),some (.own (iD nu)),some (.ro (iD (j:Int)))]:=(tR (.cons dO (.cons dO (.cons cZ (.cons h3 .nil)))) 3 _).trans rfl;obtain⟨m,em⟩:=Uj (K:=K) (C:=C) (c + 7 * j * j) (17 * k + j);refine⟨nu * 1999999973 + m, ?_⟩;rw[hb];have b: -18446744073709551616 < (j:Int)/\(j:Int) < 18446744073709551616:=by lia
   exact c5 (e9 (bY (a:=iD (nu * 1999999973)) (b:=iD m) (bY (a:=iD nu) (b:=iD 1999999973) rfl rfl (arw (by decide))) (aj (a:= [iD (c + 7 * j * j),iD (17 * k + j)]) (SF.bw (bY (a:=iD c) (b:=iD (7 * j * j)) rfl (bY (a:=iD (7 * j)) (b:=iD j) (bY (a:=iD 7) (b:=iD j) rfl rfl (abo (by decide))) rfl (arw b)) rfl) (SF.bw (bY (a:=iD (17 * k)) (b:=iD j) (bY (a:=iD 17) (b:=iD k) rfl rfl (abo (by decide))) rfl rfl) rfl)) (dk rfl em)) rfl)) rfl
  obtain⟨nu,x3,e⟩:=key step;refine⟨nu, ?_⟩;unfold uu Lb;dsimp only;refine fQ (ρ':= [some (.ro (iD c)),some (.ro (iD k)),some (.own (iD nu)),x3]) (c3 (aq t) (aD (ρ':= [some (.ro (iD c)),some (.ro (iD k)),some (.own (iD 0)),none]) rfl (aD (ρ':= [some (.ro (iD c)),some (.ro (iD k)),some (.own (iD nu)),x3]) ?_ (cD (SF.S9 (SF.bx (lg rfl rfl) rfl) (cq rfl))))));exact aj (a:=iQ 0 16) (an7 (m:=16) ⟨by decide,by decide⟩).1 e
theorem UW(UX:lj Z)(h:fe Z=some d0)(hG:G [d0]=some (d, [d']))(h0:∀q,Z[0]?≠some (some (.aB q []))):Bg G fe Z=some (d,Z):=by
 unfold Bg;rw[h,ax];have agw:lj (Z++ [some (.own d0)]):=λb hb=>by
  rcases lZ.mp hb with z | z
  ·exact UX b z
  ·rw[l5.mp z];exact cZ
 have r0:aV (Z++ [some (.own d0)]) Z.length=some d0:=by
  unfold aV;rw[br (bO _),kj];rfl
 have c:fL G [.io ⟨Z.length, []⟩] (Z++ [some (.own d0)])=some (d,Z++ [some (.own d')]):=by
  refine yM (ds:= [d0]) ?_ ⟨N4 _ _,rfl⟩ hG rfl ?_
  ·unfold gG;rw[show mY (Z++ [some (.own d0)]) (.io ⟨Z.length, []⟩)=some d0 from by
    show(aV _ Z.length).bind (aI · [])=_;rw[r0,ax,k9]]
   rfl
  ·refine(BA agw.al r0 d').trans ?_;rw[arA _ _ (bO _),kj];rfl
 rw[c,ax];dsimp only;rw[if_pos (by rw[bo];rfl)];have agx:lj (Z++ [some (.own d')]):=λb hb=>by
  rcases lZ.mp hb with z | z
  ·exact UX b z
  ·rw[l5.mp z];exact cZ
 have u:eI Z.length (Z++ [some (.own d')])=Z++ [some (.own d')]:=UH λb hb=> .inl (agx b hb);have cc:qE 0 Z.length (Z++ [some (.own d')])=Z:=by
  unfold qE;rw[u,ayi]
  ·split
   ·rename_i q e
    exfalso;cases Z with
    |nil=>cases e
    |cons b r=>exact h0 q e
   ·rfl
  ·rfl
 rw[cc]
def c4(r:Rw):D:= .nd .tup [.nd .e8 (r.words.map sD),r.dat .e8]
theorem aoi(h:VL.plain d=true):bI [d]=true:=by
 show(VL.plain d && true)=true;rw[h];rfl
theorem Rw.pl(r:Rw):VL.plain (r.dat .e8)=true:=by
 have tp:∀{v:Str} {T:List Tr},VL.plain (.nd .tup (sD v::aW T))=true:=λ{v T}=>rF;cases r with
 |flat w T=>exact tp
 |ask m n v T=>
  show bI (sD (ae "ask")::([m,n].map iD++ [.nd .tup (sD v::aW T)]))=true;exact t5 (xs:=sD (ae "ask"):: [m,n].map iD) rfl (aoi tp)
 |work m v T=>
  show bI (sD (ae "work")::([m].map iD++ [.nd .tup (sD v::aW T)]))=true;exact t5 (xs:=sD (ae "work"):: [m].map iD) rfl (aoi tp)
 |pass m n ns=>
  show bI ([sD (ae "pass"),iD m]++ [.nd .e8 ((n::ns).map iD)])=true;exact t5 rfl (aoi (show bI _=true from aog _))
theorem awQ(r:Rw):VL.plain (c4 r)=true:=by
 show bI ([.nd .e8 (r.words.map sD)]++ [r.dat .e8])=true;exact t5 (aoi (show bI _=true from awJ _)) (aoi r.pl)
theorem atk(rs:List Rw):bI (rs.map c4)=true:=vM λd hd=>by
 obtain⟨r,_,rfl⟩:=gY.mp hd;exact awQ r
def eD(s:D)(x2:Option B)(many:Option B)(x4 x5 x6:Option B):En:= [some (.ro s),some (.ro (iD 370)),x2,many,x4,x5,x6]
theorem arc(h2:NA x2)(h3:NA x3)(h4:NA x4)(h5:NA x5)(h6:NA x6):lj (eD s x2 x3 x4 x5 x6):= .cons dO (.cons dO (.cons h2 (.cons h3 (.cons h4 (.cons h5 (.cons h6 .nil))))))
def vb(x0:Option B)(s:D)(many:Int)(kk cc:D)(L:Int):En:= [x0,some (.aB 8 []),some (.ro s),some (.ro (iD 370)),none,some (.own (iD many)),some (.ro kk),some (.ro cc),some (.own (lD L))]
theorem awR(h:NA x0)(d:D):bq 0 (.ro d) (vb x0 s many kk cc L)=vb (some (.ro d)) s many kk cc L:=by
 match x0,h with
 |none,_=>rfl
 |some (.own _),_=>rfl
 |some (.ro _),_=>rfl
 |some (.aB r p),h=>exact absurd rfl (h r p)
abbrev atl(K:ah)(C:Addr):En->Option (D×En):=λZ=>(aX (λa=>(a,Z)) (gn (aT 1) (λx=>some []) Z)).bind λa=>fL (aoL K C) a.fst a.snd
def sk(rs:List Rw):Prop:=∀r∈rs,r.ok/\r.uC=false
theorem atm:∀(ds:List D) (x0:Option B) (L:Int),NA x0->∃(rs:List Rw) (L':Int) (y0:Option B),pU (λd Z=>some (bq 0 (B.ro d) Z)) (atl K C) ds (vb x0 s many kk cc L)=some (rs.map c4,vb y0 s many kk cc L')/\rs.length=ds.length/\sk rs
 | [],x0,L,_=>⟨[],L,x0,rfl,rfl,λy hy=>by cases hy⟩
 |d::ds,x0,L,h=>by
  obtain⟨r,L1,e,h1,h2⟩:=awK (K:=K) (C:=C) L;obtain⟨rs,L',y0,ih,hl,hn⟩:=atm ds (some (.ro d)) L1 dO;refine⟨r::rs,L',y0, ?_,by rw[c8,c8,hl],λz hz=> ?_⟩
  ·rw[pU];show(some (bq 0 (.ro d) (vb x0 s many kk cc L))).bind _=_;rw[ax,awR h];refine aj (rG (r:=8) (Z:=vb (some (.ro d)) s many kk cc L) (ρ':=vb (some (.ro d)) s many kk cc L1) rfl rfl e rfl (du rfl)) ?_;show(pU _ _ ds (vb (some (.ro d)) s many kk cc L1)).map _=_;rw[ih];rfl
  ·cases hz with
   |head=>exact⟨h1,h2⟩
   |tail _ hz=>exact hn z hz
theorem awS{α β:Type}(f:α->β)(l:List α)(lo hi:Option Int):cutD (l.map f) lo hi=(cutD l lo hi).map f:=by
 unfold cutD;rw[bb, <- List.map_drop, <- List.map_take]
theorem awT{α:Type}(l:List α):(cutD l (some 1) (some 63)).length<=63:=by
 unfold cutD;rw[Ce];have:HT.bE l.length l.length (some 63)<=63:=by
  simp[HT.bE]
  lia
 lia
theorem awU{fb:En->Option Fl}{s:D}(hm:0<=many/\many<=6)
  (aoj:fb=fA (dU 6 λZ=>aX (λd=>(d,Z)) ((ar (af 5) (ar (au i5 (af 4) λx=>some (D.sc (V.int 1))) λx=>some []) Z).bind λds=>if ds.length=2 then uu K C ds else none)) (dU 2 (hZ en (kr 2) (Sd 7 [none,some 6] (eJ (kr 3) λZ=>some ([],Z)) (λd Z=>some (bq 0 (B.ro d) Z)) (atl K C)))))
  (rs:List Rw) (hl:rs.length<=900) (k c:Int) (x6:Option B) (h6:NA x6):∃(es:List Rw) (y6:Option B),fb (eD s (some (.own (.nd .lst (rs.map c4)))) (some (.own (iD many))) (some (.ro (iD k))) (some (.ro (iD c))) x6)=some (.nx (eD s (some (.own (.nd .lst ((rs++es).map c4)))) (some (.own (iD many))) (some (.ro (iD k))) (some (.ro (iD c))) y6))/\NA y6/\es.length<=6/\sk es:=by
 obtain⟨L,eL⟩:=MS (K:=K) (C:=C) c (k + 1);obtain⟨r1,r2⟩:=an7 (m:=many) ⟨hm.1,by lia⟩;obtain⟨es,L',y0,go,hle,hE⟩:=atm (K:=K) (C:=C) (s:=s) (many:=many) (kk:=iD k) (cc:=iD c) (iQ 0 many.toNat) none L i6;rw[r2]at hle;refine⟨es,some (.own (lD L')), ?_,cZ,by lia,hE⟩;have pA:=atk (rs++es);rw[cK]at pA |-;subst aoj;generalize hX:rs.map c4=X at *;generalize hY:es.map c4=Y at *;have lX:X.length=rs.length:=by rw[<- hX,bb]
 have lY:Y.length=es.length:=by rw[<- hY,bb]
 refine aD (ρ':=eD s (some (.own (.nd .lst X))) (some (.own (iD many))) (some (.ro (iD k))) (some (.ro (iD c))) (some (.own (lD L)))) (c5 (e9 (d:=lD L) (aj (a:= [iD c,iD (k + 1)]) (SF.bw rfl (SF.bw (bY (a:=iD k) (b:=iD 1) rfl rfl rfl) rfl)) (dk rfl eL))) ((tR (arc cZ cZ dO dO h6) 6 _).trans rfl)) (c5 (ρ1:=eD s none (some (.own (iD many))) (some (.ro (iD k))) (some (.ro (iD c))) (some (.own (lD L')))) (d:= .nd .lst (X++Y)) (j7 (a:= .nd .lst X) (b:= .nd .lst Y) (ρ1:=eD s none (some (.own (iD many))) (some (.ro (iD k))) (some (.ro (iD c))) (some (.own (lD L)))) (apd rfl rfl rfl) ?_ (abr (by lia) pA)) rfl);refine aj (a:=([iD many],eD s none (some (.own (iD many))) (some (.ro (iD k))) (some (.ro (iD c))) (some (.own (lD L))))) (SF.bx (lg rfl rfl) rfl) ?_;refine aj r1 ?_;rw[if_pos (by rw[r2];exact b7 (show _<=1000 by lia) (by decide))];show(pU _ _ _ (vb none s many (iD k) (iD c) L)).map _=_;rw[go];rfl
theorem sk.app(h1:sk a)(h2:sk b):sk (a++b):=λr hr=>by
 rcases lZ.mp hr with z | z
 ·exact h1 r z
 ·exact h2 r z
theorem atn(st:∀(rs:List Rw),rs.length<=900->∀(k c:Int) (x6:Option B),NA x6->∃(es:List Rw) (y6:Option B),fb (eD s (some (.own (.nd .lst (rs.map c4)))) (some (.own (iD many))) (some (.ro (iD k))) (some (.ro (iD c))) x6)=some (.nx (eD s (some (.own (.nd .lst ((rs++es).map c4)))) (some (.own (iD many))) (some (.ro (iD k))) (some (.ro (iD c))) y6))/\NA y6/\es.length<=6/\sk es):
  ∀(cs:List Int) (k:Nat) (rs:List Rw) (x4 x5 x6:Option B),rs.length + 6 * cs.length<=900->NA x4->NA x5->NA x6->∃(es:List Rw) (y4 y5 y6:Option B),eB (j5 2 (ir (λd Z=>some (bq 4 (B.ro d) Z)) (ir (λd Z=>some (bq 5 (B.ro d) Z)) λds Z=>match ds with | []=>some Z | x=>none))) fb (kF k (cs.map iD)) (eD s (some (.own (.nd .lst (rs.map c4)))) (some (.own (iD many))) x4 x5 x6)=some (.nx (eD s (some (.own (.nd .lst ((rs++es).map c4)))) (some (.own (iD many))) y4 y5 y6))/\es.length<=6 * cs.length/\sk es
 | [],k,rs,x4,x5,x6,_,_,_,_=>⟨[],x4,x5,x6,by rw[bR];rfl,by simp,λr hr=>by cases hr⟩
 |c::cs,k,rs,x4,x5,x6,hl,h4,h5,h6=>by
  have hl:rs.length + 6 * (cs.length + 1)<=900:=hl;obtain⟨es,y6,e,g6,l6,hE⟩:=st rs (by lia) k c x6 h6;obtain⟨awV,z4,z5,z6,e2,l2,awW⟩:=atn st cs (k + 1) (rs++es) (some (.ro (iD k))) (some (.ro (iD c))) y6 (by rw[bo];lia) dO dO g6;have na:=arc (s:=s) (cZ (d:= .nd .lst (rs.map c4))) (cZ (d:=iD many)) h4 h5 h6;refine⟨es++awV,z4,z5,z6, ?_,by rw[bo,c8];lia,hE.app awW⟩;rw[b8]at e2;rw[cP,kF,eB];refine aj (a:=eD s (some (.own (.nd .lst (rs.map c4)))) (some (.own (iD many))) (some (.ro (iD k))) (some (.ro (iD c))) x6) ?_ (aj e e2);refine alI.trans ?_;rw[tR na,tR (na.set 4 dO)];rfl
theorem awX(cs:List Int):∃(r0:Rw) (rs:List Rw),aqp K C [ou cs,iD 370]=some (.nd .lst ((r0::rs).map c4))/\r0.ok/\r0.uC=true/\sk rs/\rs.length<=369:=by
 obtain⟨c0,awY⟩:=afD (K:=K) (C:=C) cs 0;obtain⟨c1,awZ⟩:=afD (K:=K) (C:=C) cs 1;obtain⟨L,eL⟩:=MS (K:=K) (C:=C) c0 0;obtain⟨r0,L',e0,h0,w0⟩:=awO (K:=K) (C:=C) L;obtain⟨m,em⟩:=Uj (K:=K) (C:=C) c1 1;have pN:∀l:List Int,bI (l.map iD)=true:=aog;have ql:pO (ou cs) (some 1) (some 63)=some (.nd .lst ((cutD cs (some 1) (some 63)).map iD)):=by
  show(if bI (cs.map iD)=true then some (D.nd .lst (cutD (cs.map iD) (some 1) (some 63))) else none)=_;rw[if_pos (pN cs),awS]
 have ay3:=awT cs;generalize hs:ou cs=s at *;obtain⟨many,hm,ato⟩:∃many:Int,(0<=many/\many<=6)/\many=if m % 8=0 then 6 else 1:=by
  by_cases c:m % 8=0
  ·exact⟨6,by decide,by rw[if_pos c]⟩
  ·exact⟨1,by decide,by rw[if_neg c]⟩
 obtain⟨es,y4,y5,y6,aw0,ay4,hE⟩:=atn (λrs hl k c x6 h6=>awU (K:=K) (C:=C) (s:=s) hm rfl rs hl k c x6 h6) (cutD cs (some 1) (some 63)++ [5]) 0 [r0] none none none (by simp;lia) i6 i6 i6;refine⟨r0,es.take 369, ?_,h0,w0,λr hr=>hE r (arz hr),by rw[Ce];lia⟩;have pE:=atk (r0::es);have et:(r0::es.take 369).map c4=((r0::es).map c4).take 370:=by rw[<- List.map_take];rfl
 rw[et];have eC:cutD ((r0::es).map c4) none (some 370)=((r0::es).map c4).take 370:=by
  unfold cutD;have:HT.bE ((r0::es).map c4).length 0 none=0:=rfl;rw[this,V7,at4];have e2:HT.bE ((r0::es).map c4).length ((r0::es).map c4).length (some 370)=min 370 ((r0::es).map c4).length:=by simp[HT.bE]
  rw[e2];by_cases h:370<=((r0::es).map c4).length
  ·rw[arE h]
  ·rw[aye (by lia),aor (bO _),aor (by lia)]
 unfold aqp aqm;dsimp only;refine fQ (ρ':=eD s (some (.own (.nd .lst ((r0::es).map c4)))) (some (.own (iD many))) y4 y5 y6) (aD (ρ':=eD s (some (.own (.nd .lst ([r0].map c4)))) none none none none) (c5 (ρ1:=eD s none none none none none) (SF.S9 (SF.bx (UW (arc i6 i6 i6 i6 i6) (d0:=lD L) (aj (a:= [iD c0,iD 0]) (SF.bw (aj (a:= [s,iD 0]) rfl (dk rfl awY)) (SF.bw rfl rfl)) (dk rfl eL)) e0 (λq h=>by cases h)) rfl) (cq rfl)) rfl) (aD (ρ':=eD s (some (.own (.nd .lst ([r0].map c4)))) (some (.own (iD 1))) none none none) rfl (aD (ρ':=eD s (some (.own (.nd .lst ([r0].map c4)))) (some (.own (iD many))) none none none) ?_ (aD (ρ':=eD s (some (.own (.nd .lst ((r0::es).map c4)))) (some (.own (iD many))) y4 y5 y6) ?_ (cD (e9 ?_))))))
 ·have t:au (dN id) (au (intD (λx j=>0 < j) λi j=>V.int (i % j)) (λZ=>(ar (λZ=>(ar (af 0) (ar (λx=>some (D.sc (V.int 1))) λx=>some []) Z).bind λds=>if ds.length=2 then EI K C ds else none) (ar (λx=>some (D.sc (V.int 1))) λx=>some []) Z).bind λds=>if ds.length=2 then La K C ds else none) λx=>some (D.sc (V.int 8))) (λx=>some (D.sc (V.int 0))) (eD s (some (.own (.nd .lst ([r0].map c4)))) (some (.own (iD 1))) none none none)=some (.sc (.bl (decide (m % 8=0)))):=bY (a:=iD (m % 8)) (b:=iD 0) (bY (a:=iD m) (b:=iD 8) (aj (a:= [iD c1,iD 1]) (SF.bw (aj (a:= [s,iD 1]) rfl (dk rfl awZ)) (SF.bw rfl rfl)) (dk rfl em)) rfl (an6 (by decide))) rfl (oX _ _);by_cases c:m % 8=0
  ·rw[decide_eq_true c]at t;rw[ato,if_pos c];exact aoa (aq t) rfl
  ·rw[decide_eq_false c]at t;rw[ato,if_neg c];exact Mk (aq t) rfl
 ·refine aj (a:=kF 0 ((cutD cs (some 1) (some 63)++ [5]).map iD)) ?_ aw0;refine aj (a:= .nd .lst ((cutD cs (some 1) (some 63)++ [5]).map iD)) ?_ rfl;rw[cK];refine bY (a:= .nd .lst ((cutD cs (some 1) (some 63)).map iD)) (b:= .nd .lst [iD 5]) ql (SF.jJ (SF.bw rfl rfl) (cq rfl)) ?_;exact abr (by simp;lia) (by rw[show [iD 5]= [(5:Int)].map iD from rfl, <- cK];exact pN _)
 ·refine aj (a:= .nd .lst ((r0::es).map c4)) rfl ?_;show(if bI ((r0::es).map c4)=true then some (D.nd .lst (cutD ((r0::es).map c4) none (some 370))) else none)=_;rw[if_pos pE,eC]
theorem atp:(ae " ":Str)=⟨#[32]⟩:=by decide +kernel
theorem atq:(ae "\n":Str)=⟨#[10]⟩:=by decide +kernel
theorem s0:(ae "":Str)=xf:=by decide +kernel
theorem atr(x:Str)(c:Nat)(hx:x.length<=16000000):wG ⟨#[c]⟩ (sD x)=some (.nd .lst ((d5 x ⟨#[c]⟩).map sD)):=by
 show(if((⟨#[c]⟩:Str).length == 0)=false/\x.length + 2<=aM then some (D.nd .lst (((d5 x ⟨#[c]⟩).map V.str).map D.sc)) else none)=_;rw[if_pos ⟨rfl,b7 (aud hx 2) (by decide)⟩,mJ];rfl
theorem split_len(x y:Str):(d5 x ⟨#[32]⟩).length<=x.length + 1:=by
 have h:=aot 32 (d5 x ⟨#[32]⟩);rw[ayc]at h;have key:∀ps:List (List Nat),ps.length<=(eU 32 ps).length + 1:=by
  intro ps
  induction ps with
  |nil=>simp
  |cons p r ih=>
   cases r with
   |nil=>simp
   |cons q s=>
    show(q::s).length + 1<=(p++32::eU 32 (q::s)).length + 1;rw[bo,c8 (a:=32)]
    lia
 have:=key ((d5 x ⟨#[32]⟩).map λp=>p.cps.toList);rw[bb, <- h]at this;rw[<- e7];exact this
theorem aw1(hx:x.length<=1000000)(h:(d5 x ⟨#[32]⟩).filter gD=ws)(hw:∀w∈ws,Gw w):aoR K C [sD x]=some (.nd .lst (ws.map sD)):=by
 have so:∀p∈d5 x ⟨#[32]⟩,eg p=true:=λp hp=>by
  by_cases c:gD p=true
  ·exact(hw p (by rw[<- h];exact Cc.mpr ⟨hp,c⟩)).jn
  ·have:p=xf:=by
    unfold gD at c;simpa using c
   rw[this]
   decide +kernel
 have e:=qD (n:=1) (js:= [none]) (is:= [0]) (fi:=λZ=>((af 0 Z).bind (wG (ae " "))).bind fP) (fg:=λd Z=>some (bq 0 (B.ro d) Z))
  (ft:=λZ=>(au (dN λx=> !x) (af 0) (λx=>some (D.sc (V.str (ae "")))) Z).bind λx=>match x with | D.sc (V.bl b)=>some b | x=>none) (fe:=gJ (af 0)) (Z:= [some (.ro (sD x))]) (d5 x ⟨#[32]⟩) sD gD sD
  (aj (a:= .nd .lst ((d5 x ⟨#[32]⟩).map sD)) (by rw[atp];exact aj (a:=sD x) rfl (atr x 32 (b7 hx (by decide)))) rfl) (b7 (split_len x x) (b7 (aud hx 1) (by decide))) rfl
  (λp hp=>⟨[some (.ro (sD p))],rfl,aq (bY (a:=sD p) (b:=sD (ae "")) rfl rfl ((Rf p _ (so p hp) (by decide +kernel)).trans (by rw[s0];rfl))),λ_=>rfl⟩)
 rw[h]at e;unfold aoR aqN;dsimp only;exact fQ (ρ':= [some (.ro (sD x))]) (cD (e9 e))
theorem ats(h1:fp Z=some (.rt r []))(h0:aV Z r=some (.nd .lst ac1))(h2:fe Z=some (d,ρ1))(al:Al ρ1)(hr:aV ρ1 r=some (.nd .lst aS))(hl:aS.length < 2000):ik (vx fp fe) Z=some (.nx (ρ1.set r (some (.own (.nd .lst (aS++ [d])))))):=by
 have hn:kz ρ1 r []=some (.nd .lst aS, .lst,aS):=by
  unfold kz;rw[hr,ax,k9];rfl
 refine uv (d:= .sc .aG) ?_;unfold vx;rw[h1,ax];dsimp only;rw[if_pos rfl,h0];dsimp only;rw[h2,ax];unfold lO;rw[hn,ax];dsimp only;unfold oI;rw[if_pos (dI hl (by decide)),jt,jt,o4 al,jj]
theorem ard(h:Tok T):∀d∈aW T,Ex 0 d:=λd hd=>by
 obtain⟨t,ht,rfl⟩:=gY.mp hd;have:=(h t ht).ok
 match t.2.2,this with
 |.s x,h=>exact .str 0 x h
 |.i n,_=>exact .int 0 n
theorem arf{ns:List Int}:∀d∈ns.map iD,Ex 0 d:=λd hd=>by
 obtain⟨n,_,rfl⟩:=gY.mp hd;exact .int 0 n
theorem Rw.ex{r:Rw}(h:r.ok):Ex 2 (r.dat .lst):=by
 have up:∀{d:D},Ex 0 d->Ex 1 d:=λh=>h.mono (by decide);have so:∀{x:Str},eg x=true->Ex 1 (sD x):=λh=> .str 1 _ h;cases r with
 |flat w T=>
  refine .tup 1 _ λd hd=> ?_;rcases bL.mp hd with rfl | hd
  ·exact so (X8 h.1).jn
  ·exact up (ard h.2.1 d hd)
 |ask m n v T=>
  refine .tup 1 _ λd hd=> ?_;rcases bL.mp hd with rfl | hd
  ·exact so (by decide +kernel)
  ·rcases lZ.mp hd with hd | hd
   ·exact up (arf d hd)
   ·rw[l5.mp hd];refine .tup 0 _ λd hd=> ?_;rcases bL.mp hd with rfl | hd
    ·exact .str 0 _ (ao2 h.2.2.1).jn
    ·exact ard h.2.2.2.1 d hd
 |work m v T=>
  refine .tup 1 _ λd hd=> ?_;rcases bL.mp hd with rfl | hd
  ·exact so (by decide +kernel)
  ·rcases lZ.mp hd with hd | hd
   ·exact up (arf d hd)
   ·rw[l5.mp hd];refine .tup 0 _ λd hd=> ?_;rcases bL.mp hd with rfl | hd
    ·exact .str 0 _ (ao3 h.2.1).jn
    ·exact ard h.2.2.1 d hd
 |pass m n ns=>
  refine .tup 1 _ λd hd=> ?_;rcases bL.mp hd with rfl | hd
  ·exact so (by decide +kernel)
  ·rcases bL.mp hd with rfl | hd
   ·exact .int 1 m
   ·rw[l5.mp hd];exact .lst 0 _ arf
theorem Rw.aw2{r:Rw}(k:Kd):∃(w:Str) (ds:List D),r.dat k= .nd .tup (sD w::ds)/\decide (w=ae "world")=r.uC/\(r.ok->eg w=true):=by
 cases r with
 |flat w T=>exact⟨w,_,rfl,rfl,λh=>(X8 h.1).jn⟩
 |ask m n v T=>exact⟨_,_,rfl,(by decide +kernel:decide (ae "ask"=ae "world")=false),λ_=>by decide +kernel⟩
 |work m v T=>exact⟨_,_,rfl,(by decide +kernel:decide (ae "work"=ae "world")=false),λ_=>by decide +kernel⟩
 |pass m n ns=>exact⟨_,_,rfl,(by decide +kernel:decide (ae "pass"=ae "world")=false),λ_=>by decide +kernel⟩
theorem Rw.gw{r:Rw}(h:r.ok):∀w∈r.words,Gw w:=by
 have tx:∀{T:List Tr},Tok T->∀w∈xs T,Gw w:=λht w hw=>by
  obtain⟨t,h,rfl⟩:=gY.mp hw;exact(ht t h).gw
 have nu:∀{n:Int},ix n->Gw (b5 n):=λh=>aoZ (aoW h.1 h.2);intro w hw;cases r with
 |flat v T=>
  rcases bL.mp hw with rfl | hw
  ·exact X8 h.1
  ·exact tx h.2.1 w hw
 |ask m n v T=>
  rcases bL.mp hw with rfl | hw
  ·exact IM (by decide +kernel)
  rcases bL.mp hw with rfl | hw
  ·exact nu h.1
  rcases bL.mp hw with rfl | hw
  ·exact nu h.2.1
  rcases bL.mp hw with rfl | hw
  ·exact ao2 h.2.2.1
  ·exact tx h.2.2.2.1 w hw
 |work m v T=>
  rcases bL.mp hw with rfl | hw
  ·exact IM (by decide +kernel)
  rcases bL.mp hw with rfl | hw
  ·exact nu h.1
  rcases bL.mp hw with rfl | hw
  ·exact ao3 h.2.1
  ·exact tx h.2.2.1 w hw
 |pass m n ns=>
  rcases bL.mp hw with rfl | hw
  ·exact IM (by decide +kernel)
  ·obtain⟨k,hk,rfl⟩:=gY.mp hw;exact nu (h.1 k hk)
theorem Rw.att{r:Rw}:∃w ws,r.words=w::ws:=by cases r <;> exact⟨_,_,rfl⟩
theorem Rw.aeA{r:Rw}(h:r.ok):r.words.length<=16:=by
 cases r with
 |flat v T=>have:=h.2.2.1;simp[Rw.words,xs];lia
 |ask m n v T=>have:=h.2.2.2.2.1;simp[Rw.words,xs];lia
 |work m v T=>have:=h.2.2.2;simp[Rw.words,xs];lia
 |pass m n ns=>have:=h.2;simp[Rw.words];lia
structure Ln(x:Str)(o:Option Rw):Prop where
 len:x.length<=10000
 aqW:10∉b6 x
 wd:(d5 x ⟨#[32]⟩).filter gD=match o with | none=> [] | some r=>r.words
 ok:∀r,o=some r->r.ok
def eS(t:D)(aS:List Rw)(x2 x3 x4 x5:Option B):En:= [some (.ro t),some (.own (.nd .lst (aS.map (Rw.dat .lst)))),x2,x3,x4,x5]
theorem wH(h2:NA x2)(h3:NA x3)(h4:NA x4)(h5:NA x5):lj (eS t aS x2 x3 x4 x5):= .cons dO (.cons cZ (.cons h2 (.cons h3 (.cons h4 (.cons h5 .nil)))))
theorem aw3(e:t Z=some (.ct ρ')):fA t u Z=some (.ct ρ'):=by
 unfold fA;rw[e];rfl
theorem arh{c:En->Option Bool}{f g:En->Option Fl}(h:c Z=some true)(hr:f Z=r):gv (λZ=>aX (λb=>(b,Z)) (c Z)) f g Z=r:=by
 unfold gv;dsimp only;rw[h];exact hr
theorem Mh{c:En->Option Bool}{f g:En->Option Fl}(h:c Z=some false)(hr:g Z=r):gv (λZ=>aX (λb=>(b,Z)) (c Z)) f g Z=r:=by
 unfold gv;dsimp only;rw[h];exact hr
theorem aw4{aS:List Rw}(h:∀r∈aS,r.ok):Ex 3 (.nd .lst (aS.map (Rw.dat .lst))):= .lst 2 _ λd hd=>by
 obtain⟨r,hr,rfl⟩:=gY.mp hd;exact Rw.ex (h r hr)
theorem ari{aS:List Rw}(h:∀r∈aS,r.ok):dN id (.nd .lst (aS.map (Rw.dat .lst))) (.nd .lst [])=some (.sc (.bl aS.isEmpty)):=by
 cases aS with
 |nil=>
  obtain⟨c,hc,e⟩:=(Ex.lst 0 [] (λ_ z=>nomatch z)).eq (Ex.lst 0 [] (λ_ z=>nomatch z)) (by decide) (by decide) id;have:c=true:=hc.mpr rfl;show dN id (.nd .lst []) (.nd .lst [])=_;rw[e,this];rfl
 |cons r aS=>exact arv (aw4 h) (by decide)
theorem arj(b:Bool):dN (λx=> !x) (.sc (.bl b)) (.sc (.bl b))=some (.sc (.bl false)):=by
 cases b <;> simp[dN,cy,sO,sP,d9]
theorem aw5{r:Rw}(h:r.ok):dN id (.nd .lst (r.words.map sD)) (.nd .lst [])=some (.sc (.bl false)):=by
 have hg:=Rw.gw h;obtain⟨w,ws,e⟩:=r.att;rw[e]at hg |-;refine arv (d:=sD w) (ds:=ws.map sD) (n:=1) (.lst 0 _ λd hd=> ?_) (by decide);have hd:d∈(w::ws).map sD:=hd;obtain⟨x,hx,rfl⟩:=gY.mp hd;exact .str 0 x (hg x hx).jn
theorem ay5(l:List Str):VL.plain (.nd .lst (l.map sD))=false:=rfl
def ahd:Bool->List Rw->Prop
 |_, []=>True
 |b,r::rs=>r.uC=b/\ahd false rs
noncomputable def rows (ls:List (Str×Option Rw)):List Rw:=ls.filterMap (·.2)
theorem atu{fg:D->En->Option En}{fb:En->Option Fl}{t:D}(st:∀(x:Str) (o:Option Rw) (aS:List Rw) (x2 x3 x4 x5:Option B) (k:Nat),Ln x o->(∀r∈aS,r.ok)->aS.length < 1000->(∀r,o=some r->r.uC=aS.isEmpty)->NA x2->NA x3->NA x4->NA x5->
  ∃ρ1 y2 y3 y4 y5,fg (.nd .tup [.sc (.int k),sD x]) (eS t aS x2 x3 x4 x5)=some ρ1/\NA y2/\NA y3/\NA y4/\NA y5/\(fb ρ1=some (.nx (eS t (aS++o.toList) y2 y3 y4 y5))\/fb ρ1=some (.ct (eS t (aS++o.toList) y2 y3 y4 y5)))):
  ∀(ls:List (Str×Option Rw)) (k:Nat) (aS:List Rw) (x2 x3 x4 x5:Option B),(∀l∈ls,Ln l.1 l.2)->(∀r∈aS,r.ok)->aS.length + ls.length<=1000->ahd aS.isEmpty (rows ls)->NA x2->NA x3->NA x4->NA x5->
  ∃y2 y3 y4 y5,eB fg fb (kF k (ls.map λl=>sD l.1)) (eS t aS x2 x3 x4 x5)=some (.nx (eS t (aS++rows ls) y2 y3 y4 y5))/\NA y2/\NA y3/\NA y4/\NA y5
 | [],k,aS,x2,x3,x4,x5,_,_,_,_,h2,h3,h4,h5=>⟨x2,x3,x4,x5,by show some _=_;rw[show rows []= [] from rfl,bR],h2,h3,h4,h5⟩
 |(x,o)::ls,k,aS,x2,x3,x4,x5,hL,hA,hl,hO,h2,h3,h4,h5=>by
  have hl:aS.length + (ls.length + 1)<=1000:=hl;have er:rows ((x,o)::ls)=o.toList++rows ls:=by cases o <;> rfl
  rw[er]at hO |-;have atv:=hL (x,o) (.head _);obtain⟨ρ1,y2,y3,y4,y5,e1,g2,g3,g4,g5,e2⟩:=st x o aS x2 x3 x4 x5 k atv hA (by lia) (λr hr=>by subst hr;exact hO.1) h2 h3 h4 h5;obtain⟨z2,z3,z4,z5,e3,k2,k3,k4,k5⟩:=atu st ls (k + 1) (aS++o.toList) y2 y3 y4 y5 (λl h=>hL l (.tail _ h)) (λr hr=>by
   rcases lZ.mp hr with z | z
   ·exact hA r z
   ·cases o with
    |none=>cases z
    |some q=>exact atv.ok r (by rw[l5.mp z])) (by
   have:o.toList.length<=1:=by cases o <;> simp
   rw[bo];lia) (by
   cases o with
   |none=>rw[show aS++ayj none=aS from bR _];exact hO
   |some q=>rw[show(aS++(some q).toList).isEmpty=false from by simp];exact hO.2) g2 g3 g4 g5
  refine⟨z2,z3,z4,z5, ?_,k2,k3,k4,k5⟩;rw[b8]at e3;rw[cP,kF,eB,e1];show(fb ρ1).bind _=_;rcases e2 with e2 | e2
  ·rw[e2];exact e3
  ·rw[e2];exact e3
theorem aw6(d:D):∃y5,NA y5/\kr 5 (eS t aS y2 y3 y4 (some (.own d)))=some (d,eS t aS y2 y3 y4 y5):=by
 have e:af 5 (eS t aS y2 y3 y4 (some (.own d)))=some d:=rfl;unfold kr;rw[e,ax];by_cases p:VL.plain d=true
 ·rw[if_pos p];exact⟨_,cZ,rfl⟩
 ·rw[if_neg p];exact⟨none,i6,rfl⟩
theorem ark(n:Nat):∀l:List Str,(∀x∈l,x.length<=n)->(l.map (·.length)).sum<=l.length * n
 | [],_=>by simp
 |x::l,h=>by
  have:=ark n l λy hy=>h y (.tail _ hy);have h0:=h x (.head _);rw[cP,auc,c8,Nat.succ_mul]
  lia
noncomputable def tx (ls:List (Str×Option Rw)):Str:=FP (ae "\n") (ls.map (·.1))
theorem atw{ls:List (Str×Option Rw)}(hL:∀l∈ls,Ln l.1 l.2)(hl:ls.length<=1000):((ls.map (·.1)).map (·.length)).sum + (ls.map (·.1)).length * (ae "\n":Str).length<=16000000:=by
 have h:=ark 10000 (ls.map (·.1)) λx hx=>by
  obtain⟨l,h,rfl⟩:=gY.mp hx;exact(hL l h).len
 have e:(ae "\n":Str).length=1:=by decide +kernel
 rw[bb]at h |-;rw[e]
 lia
def St(fg:D->En->Option En)(fb:En->Option Fl)(t:D):Prop:=∀(x:Str) (o:Option Rw) (aS:List Rw) (x2 x3 x4 x5:Option B) (k:Nat),Ln x o->(∀r∈aS,r.ok)->aS.length < 1000->(∀r,o=some r->r.uC=aS.isEmpty)->NA x2->NA x3->NA x4->NA x5->
  ∃ρ1 y2 y3 y4 y5,fg (.nd .tup [.sc (.int k),sD x]) (eS t aS x2 x3 x4 x5)=some ρ1/\NA y2/\NA y3/\NA y4/\NA y5/\(fb ρ1=some (.nx (eS t (aS++o.toList) y2 y3 y4 y5))\/fb ρ1=some (.ct (eS t (aS++o.toList) y2 y3 y4 y5)))
theorem aw7{fb R:En->Option Fl}{t d:D}(hs:f (eS t [] none none none none)=some (.nd .lst (ls.map λl=>sD l.1)))(st:St fg fb t)(hL:∀l∈ls,Ln l.1 l.2)(hl:ls.length<=1000)(hO:ahd true (rows ls))
  (cont:∀y2 y3 y4 y5,∃Jt,R (eS t (rows ls) y2 y3 y4 y5)=some (.rt d Jt)):bV 6 (fA (dU 1 (ju λZ=>some ([],Z))) (fA (λZ=>(arZ f Z).bind λds=>eB fg fb ds Z) R)) [t]=some d:=by
 obtain⟨y2,y3,y4,y5,e,_⟩:=atu st ls 0 [] none none none none hL (λr hr=>by cases hr) (by simpa using hl) hO i6 i6 i6 i6;obtain⟨Jt,e3⟩:=cont y2 y3 y4 y5;refine fQ (ρ':=Jt) (aD (ρ':=eS t [] none none none none) rfl (aD (ρ':=eS t (rows ls) y2 y3 y4 y5) ?_ e3));show((f (eS t [] none none none none)).bind λd=>(uk d).map (kF 0)).bind _=_;rw[hs];exact e
theorem aw8(kf:KF K){ls:List (Str×Option Rw)}(ne:ls≠ [])(hL:∀l∈ls,Ln l.1 l.2)(hl:ls.length<=1000)(hO:ahd true (rows ls))(hr:rows ls≠ []):aqR K C [sD (tx ls)]=some (.nd .lst ((rows ls).map (Rw.dat .lst))):=by
 have aw9:∀r∈rows ls,r.ok:=λr hr=>by
  obtain⟨l,h,e⟩:=Vy.mp hr;exact(hL l h).ok r e
 have hx:(tx ls).length<=16000000:=b7 (aqT _ _) (atw hL hl);have hs:wG (ae "\n") (sD (tx ls))=some (.nd .lst (ls.map λl=>sD l.1)):=by
  have e2:d5 (FP ⟨#[10]⟩ (ls.map (·.1))) ⟨#[10]⟩=ls.map (·.1):=avB (by simp[ne]) λp hp=>by
   obtain⟨l,h,rfl⟩:=gY.mp hp;exact(hL l h).aqW
  rw[atq,atr _ 10 hx];unfold tx;rw[atq,e2,mJ];rfl
 unfold aqR aqO;dsimp only;generalize tx ls=T at *;refine aw7 (ls:=ls) hs (λx o aS x2 x3 x4 x5 k ape hA HE hw h2 h3 h4 h5=> ?_) hL hl hO (λy2 y3 y4 y5=> ?_)
 ·have na:=wH (t:=sD T) (aS:=aS) h2 h3 h4 h5;have apf:=aw1 (K:=K) (C:=C) (b7 ape.len (by decide)) ape.wd (λw hw=>by
   cases o with
   |none=>cases hw
   |some r=>exact Rw.gw (ape.ok r rfl) w hw)
  have b1:j5 2 (ir (λd Z=>some (bq 2 (B.ro d) Z)) (ir (λd Z=>some (bq 3 (B.ro d) Z)) λds Z=>match ds with | []=>some Z | x=>none)) (.nd .tup [.sc (.int k),sD x]) (eS (sD T) aS x2 x3 x4 x5)=some (eS (sD T) aS (some (.ro (.sc (.int k)))) (some (.ro (sD x))) x4 x5):=by
   refine alI.trans ?_;rw[tR na,tR (na.set 2 dO)];rfl
  have atx:=wH (t:=sD T) (aS:=aS) (dO (d:= .sc (.int k))) (dO (d:=sD x)) h4 h5;cases o with
  |none=>
   refine⟨_,some (.ro (.sc (.int k))),some (.ro (sD x)),some (.own (.nd .lst [])),x5,b1,dO,dO,cZ,h5, .inr ?_⟩;rw[show aS++ayj (none:Option Rw)=aS from bR _];refine aD (c5 (e9 (aj (a:= [sD x]) rfl (dk rfl apf))) (tR atx 4 _)) (aw3 (arh (aq ?_) rfl));exact bY (a:= .nd .lst []) (b:= .nd .lst []) rfl (SF.jJ rfl (by decide)) (ari (aS:= []) λr hr=>by cases hr)
  |some r=>
   have arl:=ape.ok r rfl;obtain⟨w,ds,ed,ew,sw⟩:=r.aw2 .lst;have tS:=afz (C:=C) kf arl;have axa:=wH (t:=sD T) (aS:=aS) (dO (d:= .sc (.int k))) (dO (d:=sD x)) (cZ (d:= .nd .lst (r.words.map sD))) h5;have axb:=aw5 arl;have aiY:r.uC=aS.isEmpty:=hw r rfl;have apf:aoR K C [sD x]=some (.nd .lst (r.words.map sD)):=apf;generalize r.words.map sD=ws at *;obtain⟨y5,g5,m5⟩:=aw6 (t:=sD T) (aS:=aS) (y2:=some (.ro (.sc (.int k)))) (y3:=some (.ro (sD x))) (y4:=some (.own (.nd .lst ws))) (r.dat .lst);refine⟨_,some (.ro (.sc (.int k))),some (.ro (sD x)),some (.own (.nd .lst ws)),y5,b1,dO,dO,cZ,g5, .inl ?_⟩;have al:=(wH (t:=sD T) (aS:=aS) (dO (d:= .sc (.int k))) (dO (d:=sD x)) (cZ (d:= .nd .lst ws)) g5).al;refine aD (c5 (e9 (aj (a:= [sD x]) rfl (dk rfl apf))) (tR atx 4 _)) (aD (Mh (aq (bY (a:= .nd .lst ws) (b:= .nd .lst []) rfl (SF.jJ rfl (by decide)) axb)) rfl) (aD (c5 (e9 (aj (a:= [.nd .lst ws]) rfl (dk rfl tS))) (tR axa 5 _)) (aD (ρ':=eS (sD T) aS (some (.ro (.sc (.int k)))) (some (.ro (sD x))) (some (.own (.nd .lst ws))) (some (.own (r.dat .lst)))) (Mh (Hm (aq ?_) (aq ?_)) rfl) ?_)))
   ·refine bY (a:=r.dat .lst) (b:= .sc .aG) rfl rfl ?_;rw[ed];rfl
   ·refine bY (a:= .sc (.bl aS.isEmpty)) (b:= .sc (.bl aS.isEmpty)) ?_ (bY (a:= .nd .lst (aS.map (Rw.dat .lst))) (b:= .nd .lst []) rfl (SF.jJ rfl (by decide)) (ari hA)) (arj _);refine aod (i:=5) (w:=w) (ds:=ds) ?_ (sw arl) (hb:=ew.trans aiY);rw[<- ed];rfl
   ·refine(ats (r:=1) rfl rfl m5 al rfl (by rw[bb];lia)).trans ?_;show some (Fl.nx [some (.ro (sD T)),some (.own (.nd .lst (aS.map (Rw.dat .lst)++ [r.dat .lst]))),some (.ro (.sc (.int k))),some (.ro (sD x)),some (.own (.nd .lst ws)),y5])=_;unfold eS;rw[cK];rfl
 ·have qp:(rows ls).isEmpty=false:=by
   cases h:rows ls with
   |nil=>exact absurd h hr
   |cons a b=>rfl
  refine⟨_,c3 (aq (bY (a:= .nd .lst ((rows ls).map (Rw.dat .lst))) (b:= .nd .lst []) rfl (SF.jJ rfl (by decide)) ((ari aw9).trans (by rw[qp])))) (cD (ρ':=(eS (sD T) (rows ls) y2 y3 y4 y5).set 1 none) ?_)⟩;rfl
def eT(d:D)(A P:List D)(b:Option B)(x5 x6 x7 x8:Option B)(L:Int):En:= [some (.aB 9 []),some (.ro d),some (.own (.nd .lst A)),some (.own (.nd .lst P)),b,x5,x6,x7,x8,some (.own (lD L))]
theorem aty(hb:NA b)(h5:NA x5)(h6:NA x6)(h7:NA x7)(h8:NA x8):∀x∈eT d A P b x5 x6 x7 x8 L,NA x\/x=some (.aB 9 []):=by
 intro x hx;unfold eT at hx;simp only[bL,dh,or_false]at hx;rcases hx with z | z | z | z | z | z | z | z | z | z <;> rw[z]
 ·exact .inr rfl
 ·exact .inl dO
 ·exact .inl cZ
 ·exact .inl cZ
 ·exact .inl hb
 ·exact .inl h5
 ·exact .inl h6
 ·exact .inl h7
 ·exact .inl h8
 ·exact .inl cZ
theorem aok(hb:NA b)(h5:NA x5)(h6:NA x6)(h7:NA x7)(h8:NA x8):Al (eT d A P b x5 x6 x7 x8 L):=λx hx=>(aty hb h5 h6 h7 h8 x hx).imp id λz=>⟨9,z⟩
theorem NM(hb:NA b)(h5:NA x5)(h6:NA x6)(h7:NA x7)(h8:NA x8)(hi:i < 9)(β:B):bq i β (eT d A P b x5 x6 x7 x8 L)=(eT d A P b x5 x6 x7 x8 L).set i (some β):=agc λx hx=>(aty hb h5 h6 h7 h8 x hx).imp id λz=>⟨9, [],z,by lia⟩
theorem Zo(h:0<=k/\k<=10):Jl (sD (ae " ")) (iD k)=some (sD (qc (ae " ") k))/\b6 (qc (ae " ") k)=ki k.toNat 32:=by
 constructor
 ·unfold Jl;dsimp only;rw[if_pos ⟨h.1,by lia,by decide +kernel⟩]
 ·rw[atp];exact PyProof.Rows.mul_one_list 32 k
theorem mem_join(b:Str):∀{ws:List Str},c∈b6 (FP b ws)->c∈b6 b\/∃w∈ws,c∈b6 w
 | [],h=>by
  have h:c∈b6 (ahg b []):=h;rw[ahh]at h;cases h
 | [w],h=>by rw[join_one]at h;exact .inr ⟨w, .head _,h⟩
 |w::v::ws,h=>by
  rw[aru]at h;rcases lZ.mp h with z | z
  ·exact .inr ⟨w, .head _,z⟩
  ·rcases lZ.mp z with z | z
   ·exact .inl z
   ·exact(mem_join b z).imp id λ⟨x,hx,e⟩=>⟨x, .tail _ hx,e⟩
theorem apg(h:c∈ki n 32):c=32:=(aoq.mp h).2
theorem atz(h:b6 x=ki i 32)(hi:i<=10):Ln x none:=⟨by rw[<- e7,h,zl];lia,λm=>by rw[h]at m;have:=apg m;lia,avD h,λr hr=>by cases hr⟩
theorem axc{r:Rw}(hr:r.ok){b e0 e1:Str}(hb:b6 b=ki (m + 1) 32)(h0:b6 e0=ki i 32)(h1:b6 e1=ki j 32)(hm:m<=10)(hi:i<=10)(hj:j<=10):Ln (e0++FP b r.words++e1) (some r)/\(FP b r.words).length<=5000/\(r.words.map (·.length)).sum + r.words.length * b.length<=5000:=by
 have g:=Rw.gw hr;obtain⟨w,ws,ew⟩:=r.att;have hl:=Rw.aeA hr;have lb:b.length=m + 1:=by rw[<- e7,hb,zl]
 have l0:e0.length=i:=by rw[<- e7,h0,zl]
 have l1:e1.length=j:=by rw[<- e7,h1,zl]
 have sm:=ark 200 r.words λx hx=>(g x hx).le;have hs:(r.words.map (·.length)).sum + r.words.length * b.length<=5000:=by
  have t1:r.words.length * 200<=16 * 200:=Nat.mul_le_mul_right _ hl;have t2:r.words.length * b.length<=16 * 11:=Nat.mul_le_mul hl (by lia)
  lia
 have abE:(FP b r.words).length<=5000:=b7 (aqT b r.words) hs;have axd:(d5 (e0++FP b r.words++e1) ⟨#[32]⟩).filter gD=r.words:=avC (by rw[ew];exact ll _ _) (λp hp=>(g p hp).avI) (λp hp=>(g p hp).gD) hb h0 h1 rfl;refine⟨⟨by rw[OF,OF];lia,λmem=> ?_,axd,λq hq=>by cases hq;exact hr⟩,abE,hs⟩;have mem:10∈(e0++FP b r.words++e1).cps.toList:=mem;rw[nk,nk]at mem;rcases lZ.mp mem with z | z
 ·rcases lZ.mp z with z | z
  ·have z:10∈b6 e0:=z;rw[h0]at z;have:=apg z
   lia
  ·rcases mem_join b z with z | ⟨x,hx,z⟩
   ·rw[hb]at z;have:=apg z
    lia
   ·exact(g x hx).aqW z
 ·have z:10∈b6 e1:=z;rw[h1]at z;have:=apg z
  lia
theorem ahe{d:D}{A P:List D}{L m:Int}(hb:NA b)(h5:NA x5)(h6:NA x6)(h7:NA x7)(h8:NA x8)(hm:0 < m:=by decide)(h2:m < 2 ^ 200:=by decide):(aX (λa=>(a,eT d A P b x5 x6 x7 x8 L)) (gn (aT 0) (mr (λx=>some (D.sc (V.int m))) λx=>some []) (eT d A P b x5 x6 x7 x8 L))).bind (λa=>fL (Bp K C) a.fst a.snd)=some (iD (L % m),eT d A P b x5 x6 x7 x8 (L / m)):=pk (r:=9) rfl rfl rfl rfl (aok hb h5 h6 h7 h8) hm h2
noncomputable abbrev tB (b:Bool):Option B:=some (.own (.sc (.bl b)))
theorem atA{d:D}{A P:List D}{b:Bool}{L m:Int}(h5:NA x5)(h6:NA x6)(h7:NA x7)(h8:NA x8)(hm:0 < m:=by decide)(h2:m < 2 ^ 200:=by decide):∃(t:Bool) (L':Int),VL.andM (λZ=>aX (λb=>(b,Z)) ((af 4 Z).bind λx=>match x with | D.sc (V.bl b)=>some b | x=>none)) (ku (hZ (dN id) (λZ=>(aX (λa=>(a,Z)) (gn (aT 0) (mr (λx=>some (D.sc (V.int m))) λx=>some []) Z)).bind λa=>fL (Bp K C) a.fst a.snd) λZ=>aX (λd=>(d,Z)) (some (D.sc (V.int 0))))) (eT d A P (tB b) x5 x6 x7 x8 L)=some (t,eT d A P (tB b) x5 x6 x7 x8 L'):=by
 cases b with
 |false=>exact⟨false,L,rfl⟩
 |true=>
  refine⟨decide (L % m=0),L / m, ?_⟩;unfold VL.andM;refine aj (a:=(true,eT d A P (tB true) x5 x6 x7 x8 L)) rfl ?_;exact Ul (ahe cZ h5 h6 h7 h8 hm h2)
theorem aph(h:c Z=some (b,ρ1))(hr:(if b=true then f ρ1 else g ρ1)=r):gv c f g Z=r:=mB h hr
theorem axe(h5:NA x5)(h6:NA x6)(h7:NA x7)(h8:NA x8)(hl:A.length < 2000):∃(xs:List Str) (L':Int),gv (VL.andM (λZ=>aX (λb=>(b,Z)) ((af 4 Z).bind λx=>match x with | D.sc (V.bl b)=>some b | x=>none)) (ku (hZ (dN id) (λZ=>(aX (λa=>(a,Z)) (gn (aT 0) (mr (λx=>some (D.sc (V.int 6))) λx=>some []) Z)).bind λa=>fL (Bp K C) a.fst a.snd) λZ=>aX (λd=>(d,Z)) (some (D.sc (V.int 0)))))) (ik (vx (aT 2) (hZ Jl (λZ=>aX (λd=>(d,Z)) (some (D.sc (V.str (ae " "))))) λZ=>(aX (λa=>(a,Z)) (gn (aT 0) (mr (λx=>some (D.sc (V.int 3))) λx=>some []) Z)).bind λa=>fL (Bp K C) a.fst a.snd))) (λZ=>some (Fl.nx Z)) (eT d A P (tB b) x5 x6 x7 x8 L)=some (.nx (eT d (A++xs.map sD) P (tB b) x5 x6 x7 x8 L'))/\xs.length<=1/\∀x∈xs,Ln x none:=by
 obtain⟨t,L1,e⟩:=atA (K:=K) (C:=C) (d:=d) (A:=A) (P:=P) (b:=b) (L:=L) (m:=6) h5 h6 h7 h8;cases t with
 |false=>exact⟨[],L1,aph e (by rw[if_neg df,jQ,bR]),by simp,λx hx=>by cases hx⟩
 |true=>
  have j0:=eG L1 (show(3:Int)≠0 by decide);have j1:=nW L1 (show(0:Int) < 3 by decide);obtain⟨m1,m2⟩:=Zo (k:=L1 % 3) ⟨j0,by lia⟩;refine⟨[qc (ae " ") (L1 % 3)],L1 / 3,aph e ?_,by simp,λx hx=> ?_⟩
  ·rw[if_pos rfl];exact(ats (r:=2) (ac1:=A) rfl rfl (j7 (a:=sD (ae " ")) (b:=iD (L1 % 3)) rfl (ahe cZ h5 h6 h7 h8) m1) (aok cZ h5 h6 h7 h8) rfl hl).trans rfl
  ·rw[l5.mp hx];exact atz m2 (by lia)
structure Bl(b e0 e1:Str)(m i j:Nat):Prop where
 hb:b6 b=ki (m + 1) 32
 h0:b6 e0=ki i 32
 h1:b6 e1=ki j 32
 hm:m<=10
 hi:i<=10
 hj:j<=10
theorem axf{A P:List D}{L:Int}(h5:NA x5)(h6:NA x6):∃(s e0 e1:Str) (m i j:Nat) (L':Int),gv (λZ=>aX (λb=>(b,Z)) ((af 4 Z).bind λx=>match x with | D.sc (V.bl b)=>some b | x=>none)) (fA (dU 7 (hZ Jl (λZ=>aX (λd=>(d,Z)) (some (D.sc (V.str (ae " "))))) (hZ en (λZ=>aX (λd=>(d,Z)) (some (D.sc (V.int 1)))) λZ=>(aX (λa=>(a,Z)) (gn (aT 0) (mr (λx=>some (D.sc (V.int 3))) λx=>some []) Z)).bind λa=>fL (Bp K C) a.fst a.snd)))
   (dU 8 (ju (eJ (hZ Jl (λZ=>aX (λd=>(d,Z)) (some (D.sc (V.str (ae " "))))) λZ=>(aX (λa=>(a,Z)) (gn (aT 0) (mr (λx=>some (D.sc (V.int 3))) λx=>some []) Z)).bind λa=>fL (Bp K C) a.fst a.snd) (eJ (hZ Jl (λZ=>aX (λd=>(d,Z)) (some (D.sc (V.str (ae " "))))) λZ=>(aX (λa=>(a,Z)) (gn (aT 0) (mr (λx=>some (D.sc (V.int 2))) λx=>some []) Z)).bind λa=>fL (Bp K C) a.fst a.snd) λZ=>some ([],Z)))))) (λZ=>some (Fl.nx Z))
   (eT d A P (tB b) x5 x6 (some (.own (sD (ae " ")))) (some (.own (.nd .lst [sD (ae ""),sD (ae "")]))) L)=some (.nx (eT d A P (tB b) x5 x6 (some (.own (sD s))) (some (.own (.nd .lst [sD e0,sD e1]))) L'))/\Bl s e0 e1 m i j:=by
 cases b with
 |false=>exact⟨ae " ",ae "",ae "",0,0,0,L,Mh (rfl:_=some false) rfl,by decide +kernel,by decide +kernel,by decide +kernel,by decide,by decide,by decide⟩
 |true=>
  have a0:=eG L (show(3:Int)≠0 by decide);have a1:=nW L (show(0:Int) < 3 by decide);have b0:=eG (L / 3) (show(3:Int)≠0 by decide);have b1:=nW (L / 3) (show(0:Int) < 3 by decide);have c0:=eG (L / 3 / 3) (show(2:Int)≠0 by decide);have c1:=nW (L / 3 / 3) (show(0:Int) < 2 by decide);obtain⟨m1,m2⟩:=Zo (k:=1 + L % 3) ⟨by lia,by lia⟩;obtain⟨n1,n2⟩:=Zo (k:=L / 3 % 3) ⟨b0,by lia⟩;obtain⟨o1,o2⟩:=Zo (k:=L / 3 / 3 % 2) ⟨c0,by lia⟩;refine⟨qc (ae " ") (1 + L % 3),qc (ae " ") (L / 3 % 3),qc (ae " ") (L / 3 / 3 % 2),(L % 3).toNat,(L / 3 % 3).toNat,(L / 3 / 3 % 2).toNat,L / 3 / 3 / 2,arh (rfl:_=some true) (aD (ρ':=eT d A P (tB true) x5 x6 (some (.own (sD (qc (ae " ") (1 + L % 3))))) (some (.own (.nd .lst [sD (ae ""),sD (ae "")]))) (L / 3)) (c5 (ρ1:=eT d A P (tB true) x5 x6 (some (.own (sD (ae " ")))) (some (.own (.nd .lst [sD (ae ""),sD (ae "")]))) (L / 3)) (j7 (a:=sD (ae " ")) (b:=iD (1 + L % 3)) rfl (j7 (a:=iD 1) (b:=iD (L % 3)) rfl (ahe cZ h5 h6 cZ cZ) rfl) m1) ((NM cZ h5 h6 cZ cZ (by decide) _).trans rfl)) (c5 (ρ1:=eT d A P (tB true) x5 x6 (some (.own (sD (qc (ae " ") (1 + L % 3))))) (some (.own (.nd .lst [sD (ae ""),sD (ae "")]))) (L / 3 / 3 / 2)) (SF.S9 (SF.bx (j7 (a:=sD (ae " ")) (b:=iD (L / 3 % 3)) rfl (ahe cZ h5 h6 cZ cZ) n1) (SF.bx (j7 (a:=sD (ae " ")) (b:=iD (L / 3 / 3 % 2)) rfl (ahe cZ h5 h6 cZ cZ) o1) rfl)) (cq rfl)) ((NM cZ h5 h6 cZ cZ (by decide) _).trans rfl))), ?_,n2,o2,by lia,by lia,by lia⟩;rw[m2]
  congr 1
  lia
theorem axg(h:(ws.map (·.length)).sum + ws.length * b.length<=5000):aoC b (.nd .e8 (ws.map sD))=some (sD (FP b ws)):=by
 unfold aoC;refine aj (a:=ws.map sD) rfl ?_;rw[strs_map,ax,if_pos (b7 h (by decide))]
def dv(ls:List (Str×Option Rw)):List D:=ls.map λl=>sD l.1
theorem axh(aoj:fb=(fA (gv (VL.andM (λZ=>aX (λb=>(b,Z)) ((af 4 Z).bind λx=>match x with | D.sc (V.bl b)=>some b | x=>none)) (ku (hZ (dN id) (λZ=>(aX (λa=>(a,Z)) (gn (aT 0) (mr (λx=>some (D.sc (V.int 6))) λx=>some []) Z)).bind λa=>fL (Bp K C) a.fst a.snd) λZ=>aX (λd=>(d,Z)) (some (D.sc (V.int 0)))))) (ik (vx (aT 2) (hZ Jl (λZ=>aX (λd=>(d,Z)) (some (D.sc (V.str (ae " "))))) λZ=>(aX (λa=>(a,Z)) (gn (aT 0) (mr (λx=>some (D.sc (V.int 3))) λx=>some []) Z)).bind λa=>fL (Bp K C) a.fst a.snd))) (λZ=>some (Fl.nx Z)))
   (fA (ik (kx (aT 3) λZ=>(ar (af 2) (λx=>some []) Z).bind fI))
   (fA (dU 7 λZ=>aX (λd=>(d,Z)) (some (D.sc (V.str (ae " ")))))
   (fA (dU 8 (ju (eJ (λZ=>aX (λd=>(d,Z)) (some (D.sc (V.str (ae ""))))) (eJ (λZ=>aX (λd=>(d,Z)) (some (D.sc (V.str (ae ""))))) λZ=>some ([],Z)))))
   (fA (gv (λZ=>aX (λb=>(b,Z)) ((af 4 Z).bind λx=>match x with | D.sc (V.bl b)=>some b | x=>none)) (fA (dU 7 (hZ Jl (λZ=>aX (λd=>(d,Z)) (some (D.sc (V.str (ae " "))))) (hZ en (λZ=>aX (λd=>(d,Z)) (some (D.sc (V.int 1)))) λZ=>(aX (λa=>(a,Z)) (gn (aT 0) (mr (λx=>some (D.sc (V.int 3))) λx=>some []) Z)).bind λa=>fL (Bp K C) a.fst a.snd)))
   (dU 8 (ju (eJ (hZ Jl (λZ=>aX (λd=>(d,Z)) (some (D.sc (V.str (ae " "))))) λZ=>(aX (λa=>(a,Z)) (gn (aT 0) (mr (λx=>some (D.sc (V.int 3))) λx=>some []) Z)).bind λa=>fL (Bp K C) a.fst a.snd) (eJ (hZ Jl (λZ=>aX (λd=>(d,Z)) (some (D.sc (V.str (ae " "))))) λZ=>(aX (λa=>(a,Z)) (gn (aT 0) (mr (λx=>some (D.sc (V.int 2))) λx=>some []) Z)).bind λa=>fL (Bp K C) a.fst a.snd) λZ=>some ([],Z)))))) (λZ=>some (Fl.nx Z)))
   (ik (kx (aT 2) (au en (au i5 (au (dg ay cn) (af 8) λx=>some (D.sc (V.int 0))) (asd (af 7) (af 5))) (au (dg ay cn) (af 8) λx=>some (D.sc (V.int 1)))))))))))) (r:Rw) (hr:r.ok) (ls:List (Str×Option Rw)) (P:List D) (b:Bool) (x7 x8:Option B) (L:Int) (h7:NA x7) (h8:NA x8) (hl:ls.length < 1500) (hp:P.length < 1500):
  ∃(as:List (Str×Option Rw)) (p:D) (y7 y8:Option B) (L':Int),fb (eT d (dv ls) P (tB b) (some (.ro (.nd .e8 (r.words.map sD)))) (some (.ro (r.dat .e8))) x7 x8 L)=some (.nx (eT d (dv (ls++as)) (P++ [p]) (tB b) (some (.ro (.nd .e8 (r.words.map sD)))) (some (.ro (r.dat .e8))) y7 y8 L'))/\NA y7/\NA y8/\as.length<=2/\(∀l∈as,Ln l.1 l.2)/\rows as= [r]/\VL.plain p=true:=by
 have lA:(dv ls).length=ls.length:=bb _;obtain⟨xs,L1,ea,lx,hx⟩:=axe (K:=K) (C:=C) (d:=d) (A:=dv ls) (P:=P) (b:=b) (x5:=some (.ro (.nd .e8 (r.words.map sD)))) (x6:=some (.ro (r.dat .e8))) (x7:=x7) (x8:=x8) (L:=L) dO dO h7 h8 (by lia);obtain⟨s,e0,e1,m,i,j,L2,ee,hB⟩:=axf (K:=K) (C:=C) (d:=d) (A:=dv ls++xs.map sD) (P:=P++ [iD ((dv ls++xs.map sD).length:Nat)]) (b:=b) (x5:=some (.ro (.nd .e8 (r.words.map sD)))) (x6:=some (.ro (r.dat .e8))) (L:=L1) dO dO;obtain⟨axi,ay6,axj⟩:=axc hr hB.hb hB.h0 hB.h1 hB.hm hB.hi hB.hj;have axk:=axg axj;have l0:e0.length<=10:=by rw[<- e7,hB.h0,zl];exact hB.hi
 have l1:e1.length<=10:=by rw[<- e7,hB.h1,zl];exact hB.hj
 have axl:en (sD (e0++FP s r.words)) (sD e1)=some (sD (e0++FP s r.words++e1)):=abp (by rw[OF];lia);have axm:i5 (sD e0) (sD (FP s r.words))=some (sD (e0++FP s r.words)):=abp (by lia);refine⟨(xs.map λx=>(x,none))++ [(e0++FP s r.words++e1,some r)],iD ((dv ls++xs.map sD).length:Nat),some (.own (sD s)),some (.own (.nd .lst [sD e0,sD e1])),L2, ?_,cZ,cZ,by simp;lia,λl hl=> ?_, ?_,rfl⟩
 ·have eA:dv (ls++((xs.map λx=>(x,none))++ [(e0++FP s r.words++e1,some r)]))=(dv ls++xs.map sD)++ [sD (e0++FP s r.words++e1)]:=by simp[dv,ayk]
  rw[eA];have axn:(dv ls++xs.map sD).length < 2000:=by rw[bo,bb];lia
  generalize hA:dv ls++xs.map sD=A at *;generalize hX:e0++FP s r.words++e1=X at *;generalize ay7:e0++FP s r.words=X0 at *;generalize ay8:FP s r.words=Xj at *;generalize r.words.map sD=W at *;generalize r.dat .e8=Q at *;subst aoj;have ay9:NA (some (B.own (sD s))):=cZ;refine aD ea (aD (ρ':=eT d A (P++ [iD (A.length:Nat)]) (tB b) (some (.ro (.nd .e8 W))) (some (.ro Q)) x7 x8 L1) ((sf (aok cZ dO dO h7 h8) rfl rfl (d:=iD (A.length:Nat)) rfl (by lia)).trans rfl) (aD (ρ':=eT d A (P++ [iD (A.length:Nat)]) (tB b) (some (.ro (.nd .e8 W))) (some (.ro Q)) (some (.own (sD (ae " ")))) x8 L1) (c5 rfl ((NM cZ dO dO h7 h8 (by decide) _).trans rfl)) (aD (ρ':=eT d A (P++ [iD (A.length:Nat)]) (tB b) (some (.ro (.nd .e8 W))) (some (.ro Q)) (some (.own (sD (ae " ")))) (some (.own (.nd .lst [sD (ae ""),sD (ae "")]))) L1) (c5 (SF.S9 (SF.bx rfl (SF.bx rfl rfl)) (cq rfl)) ((NM cZ dO dO cZ h8 (by decide) _).trans rfl)) (aD ee ((sf (aok cZ dO dO cZ cZ) rfl rfl (d:=sD X) (bY (a:=sD X0) (b:=sD e1) (bY (a:=sD e0) (b:=sD Xj) (bY (a:= .nd .lst [sD e0,sD e1]) (b:=iD 0) rfl rfl rfl) (aj (a:=sD s) rfl (aj (a:=D.nd .e8 W) rfl axk)) axm) (bY (a:= .nd .lst [sD e0,sD e1]) (b:=iD 1) rfl rfl rfl) axl) axn).trans rfl)))))
 ·rcases lZ.mp hl with z | z
  ·obtain⟨x,WO,rfl⟩:=gY.mp z;exact hx x WO
  ·rw[l5.mp z];exact axi
 ·unfold rows;rw[ayl,aij];have:xs.filterMap ((λl:Str×Option Rw=>l.2) ∘ λx=>(x,none))= []:=List.filterMap_eq_nil_iff.mpr λa _=>rfl;rw[this];rfl
theorem atB(a b:List (Str×Option Rw)):rows (a++b)=rows a++rows b:=ayl
theorem atE{fb:En->Option Fl}{d:D}{b:Bool}(st:∀(r:Rw),r.ok->∀(ls:List (Str×Option Rw)) (P:List D) (x7 x8:Option B) (L:Int),NA x7->NA x8->ls.length < 1500->P.length < 1500->
  ∃(as:List (Str×Option Rw)) (p:D) (y7 y8:Option B) (L':Int),fb (eT d (dv ls) P (tB b) (some (.ro (.nd .e8 (r.words.map sD)))) (some (.ro (r.dat .e8))) x7 x8 L)=some (.nx (eT d (dv (ls++as)) (P++ [p]) (tB b) (some (.ro (.nd .e8 (r.words.map sD)))) (some (.ro (r.dat .e8))) y7 y8 L'))/\NA y7/\NA y8/\as.length<=2/\(∀l∈as,Ln l.1 l.2)/\rows as= [r]/\VL.plain p=true):
  ∀(rs:List Rw) (ls:List (Str×Option Rw)) (P:List D) (x5 x6 x7 x8:Option B) (L:Int),(∀r∈rs,r.ok)->NA x5->NA x6->NA x7->NA x8->ls.length + 2 * rs.length<=1000->P.length + rs.length<=1000->
  ∃(as:List (Str×Option Rw)) (P':List D) (y5 y6 y7 y8:Option B) (L':Int),eB (j5 2 (ir (λd Z=>some (bq 5 (B.ro d) Z)) (ir (λd Z=>some (bq 6 (B.ro d) Z)) λds Z=>match ds with | []=>some Z | x=>none))) fb (rs.map c4) (eT d (dv ls) P (tB b) x5 x6 x7 x8 L)=some (.nx (eT d (dv (ls++as)) P' (tB b) y5 y6 y7 y8 L'))/\NA y5/\NA y6/\NA y7/\NA y8/\as.length<=2 * rs.length/\(∀l∈as,Ln l.1 l.2)/\rows as=rs
 | [],ls,P,x5,x6,x7,x8,L,_,h5,h6,h7,h8,_,_=>⟨[],P,x5,x6,x7,x8,L,by rw[bR];rfl,h5,h6,h7,h8,by simp,(λl hl=>by cases hl),rfl⟩
 |r::rs,ls,P,x5,x6,x7,x8,L,hr,h5,h6,h7,h8,hl,hp=>by
  have hl:ls.length + 2 * (rs.length + 1)<=1000:=hl;have hp:P.length + (rs.length + 1)<=1000:=hp;obtain⟨as,p,y7,y8,L1,e,g7,g8,la,hL,hR,_⟩:=st r (hr r (.head _)) ls P x7 x8 L h7 h8 (by lia) (by lia);obtain⟨axo,P',z5,z6,z7,z8,L2,e2,k5,k6,k7,k8,aza,axp,axq⟩:=atE st rs (ls++as) (P++ [p]) (some (.ro (.nd .e8 (r.words.map sD)))) (some (.ro (r.dat .e8))) y7 y8 L1 (λq hq=>hr q (.tail _ hq)) dO dO g7 g8 (by rw[bo];lia) (by rw[bo];simp;lia);refine⟨as++axo,P',z5,z6,z7,z8,L2, ?_,k5,k6,k7,k8,by rw[bo,c8];lia,λl hl=> ?_,by rw[atB,hR,axq];rfl⟩
  ·rw[b8]at e2;rw[cP,eB];refine aj (a:=eT d (dv ls) P (tB b) (some (.ro (.nd .e8 (r.words.map sD)))) (some (.ro (r.dat .e8))) x7 x8 L) ?_ (aj e e2);refine alI.trans ?_;rw[NM cZ h5 h6 h7 h8 (by decide),show(eT d (dv ls) P (tB b) x5 x6 x7 x8 L).set 5 (some (.ro (.nd .e8 (r.words.map sD))))=eT d (dv ls) P (tB b) (some (.ro (.nd .e8 (r.words.map sD)))) x6 x7 x8 L from rfl,NM cZ dO h6 h7 h8 (by decide)];rfl
  ·rcases lZ.mp hl with z | z
   ·exact hL l z
   ·exact axp l z
theorem axr(hd:fI [d]=some (iD n))(L:Int):∃(b:Bool) (L':Int),dU 4 (akr (λZ=>aX (λd=>(d,Z)) (au (iO λi j=>V.bl (decide (i < j))) (λZ=>(ar (af 1) (λx=>some []) Z).bind fI) (λx=>some (D.sc (V.int 190))) Z)) (hZ (iO λi j=>V.bl (decide (j < i))) (λZ=>(aX (λa=>(a,Z)) (gn (aT 0) (mr (λx=>some (D.sc (V.int 3))) λx=>some []) Z)).bind λa=>fL (Bp K C) a.fst a.snd) λZ=>aX (λd=>(d,Z)) (some (D.sc (V.int 0))))) (eT d [] [] none none none none none L)=some (.nx (eT d [] [] (tB b) none none none none L')):=by
 have e1:au (iO λi j=>V.bl (decide (i < j))) (λZ=>(ar (af 1) (λx=>some []) Z).bind fI) (λx=>some (D.sc (V.int 190))) (eT d [] [] none none none none none L)=some (.sc (.bl (decide ((n:Int) < 190)))):=bY (a:=iD n) (b:=iD 190) (aj (a:= [d]) rfl hd) rfl rfl;have bi:∀(b:Bool) (L:Int),bq 4 (.own (.sc (.bl b))) (eT d [] [] none none none none none L)=eT d [] [] (tB b) none none none none L:=λb L=>(NM i6 i6 i6 i6 i6 (by decide) _).trans rfl;by_cases c:(n:Int) < 190
 ·rw[decide_eq_true c]at e1;refine⟨decide (0 < L % 3),L / 3,c5 (d:= .sc (.bl (decide (0 < L % 3)))) (ρ1:=eT d [] [] none none none none none (L / 3)) ?_ (bi _ _)⟩;refine aj (a:=(.sc (.bl true),eT d [] [] none none none none none L)) (e9 e1) ?_;exact j7 (a:=iD (L % 3)) (b:=iD 0) (ahe i6 i6 i6 i6 i6) rfl rfl
 ·rw[decide_eq_false c]at e1;refine⟨false,L,c5 (d:= .sc (.bl false)) (ρ1:=eT d [] [] none none none none none L) ?_ (bi _ _)⟩;exact aj (a:=(.sc (.bl false),eT d [] [] none none none none none L)) (e9 e1) rfl
theorem axs(L:Int)(hr:∀r∈rs,r.ok)(hl:rs.length<=400)(qp:rs≠ []):∃(ls:List (Str×Option Rw)) (p:D) (L':Int),aqr K C [lD L, .nd .lst (rs.map c4)]=some (.nd .tup [.nd .lst (dv ls),p], [lD L'])/\(∀l∈ls,Ln l.1 l.2)/\rows ls=rs/\ls≠ []/\ls.length<=1000:=by
 have hd:fI [.nd .lst (rs.map c4)]=some (iD (rs.length:Nat)):=by
  show some (D.sc (.int ((rs.map c4).length:Nat)))=_;rw[bb]
 have hit:∀{A P:List D} {b x5 x6 x7 x8:Option B} {L:Int},Sh (aT 1) (eT (.nd .lst (rs.map c4)) A P b x5 x6 x7 x8 L)=some (rs.map c4):=rfl;generalize axt:(D.nd .lst (rs.map c4))=d at *;obtain⟨b,L1,e1⟩:=axr (K:=K) (C:=C) hd L;obtain⟨as,P',y5,y6,y7,y8,L2,e2,g5,g6,g7,g8,la,hL,hR⟩:=atE (λr hr ls P x7 x8 L h7 h8 hl hp=>axh (K:=K) (C:=C) (d:=d) rfl r hr ls P b x7 x8 L h7 h8 hl hp) rs [] [] none none none none L1 hr i6 i6 i6 i6 (by simp;lia) (by simp;lia);rw[List.nil_append]at e2;obtain⟨t,L3,e3⟩:=atA (K:=K) (C:=C) (d:=d) (A:=dv as) (P:=P') (b:=b) (L:=L2) (m:=2) g5 g6 g7 g8;have Hz:as≠ []:=λz=>qp (by rw[<- hR,z];rfl);have lA:(dv as).length=as.length:=bb _;have fin:∀(A:List D) (L:Int),kU (eJ (kr 2) (eJ (kr 3) λZ=>some ([],Z))) (eT d A P' (tB b) y5 y6 y7 y8 L)=some (.nd .tup [.nd .lst A, .nd .lst P'],((eT d A P' (tB b) y5 y6 y7 y8 L).set 2 none).set 3 none):=λA L=>SF.gS (SF.bx (apd rfl rfl rfl) (SF.bx (apd rfl rfl rfl) rfl)) (cq rfl);have key:∃(ls:List (Str×Option Rw)),gv (VL.andM (λZ=>aX (λb=>(b,Z)) ((af 4 Z).bind λx=>match x with | D.sc (V.bl b)=>some b | x=>none)) (ku (hZ (dN id) (λZ=>(aX (λa=>(a,Z)) (gn (aT 0) (mr (λx=>some (D.sc (V.int 2))) λx=>some []) Z)).bind λa=>fL (Bp K C) a.fst a.snd) λZ=>aX (λd=>(d,Z)) (some (D.sc (V.int 0)))))) (ik (kx (aT 2) λx=>some (D.sc (V.str (ae ""))))) (λZ=>some (Fl.nx Z)) (eT d (dv as) P' (tB b) y5 y6 y7 y8 L2)=some (.nx (eT d (dv ls) P' (tB b) y5 y6 y7 y8 L3))/\(∀l∈ls,Ln l.1 l.2)/\rows ls=rs/\ls≠ []/\ls.length<=1000:=by
  cases t with
  |false=>exact⟨as,aph e3 (if_neg df),hL,hR,Hz,by lia⟩
  |true=>
   refine⟨as++ [(ae "",none)],aph e3 ?_,λl hl=> ?_,by rw[atB,hR];exact bR _,by simp,by rw[bo];simp;lia⟩
   ·rw[if_pos rfl];refine(sf (aok cZ g5 g6 g7 g8) rfl rfl (d:=sD (ae "")) rfl (by lia)).trans ?_;unfold dv;rw[cK];rfl
   ·rcases lZ.mp hl with z | z
    ·exact hL l z
    ·rw[l5.mp z];exact atz (i:=0) (by decide +kernel) (by decide)
 obtain⟨ls,e4,h1,h2,h3,h4⟩:=key;refine⟨ls, .nd .lst P',L3, ?_,h1,h2,h3,h4⟩;unfold aqr aqq;dsimp only;exact fC (ρ':=((eT d (dv ls) P' (tB b) y5 y6 y7 y8 L3).set 2 none).set 3 none) (aD (ρ':= [some (.aB 9 []),some (.ro d),some (.own (.nd .lst [])),none,none,none,none,none,none,some (.own (lD L))]) rfl (aD (ρ':=eT d [] [] none none none none none L) rfl (aD e1 (aD (aj (a:=rs.map c4) (by rw[<- axt];rfl) e2) (aD e4 (cD (fin _ _))))))) rfl
inductive Sm:Nat->D->D->Prop
 |int (n:Nat) (i:Int):Sm n (iD i) (iD i)
 |str (n:Nat) (s:Str):eg s=true->Sm n (sD s) (sD s)
 |tup (n:Nat) (l:List (D×D)):l.length<=1000->(∀p∈l,Sm n p.1 p.2)->Sm (n + 1) (.nd .tup (l.map (·.1))) (.nd .tup (l.map (·.2)))
 |lst (n:Nat) (l:List (D×D)):l.length<=1000->(∀p∈l,Sm n p.1 p.2)->Sm (n + 1) (.nd .lst (l.map (·.1))) (.nd .lst (l.map (·.2)))
 |e8 (n:Nat) (l:List (D×D)):l.length<=1000->(∀p∈l,Sm n p.1 p.2)->Sm (n + 1) (.nd .lst (l.map (·.1))) (.nd .e8 (l.map (·.2)))
theorem atF:∀l:List (D×D),j8 (l.map (·.1)) (l.map (·.2))=l.map λp=> .nd .tup [p.1,p.2]
 | []=>rfl
 |p::l=>by
  show D.nd .tup [p.1,p.2]::j8 (l.map (·.1)) (l.map (·.2))=_;rw[atF l];rfl
theorem iT(h:k= .tup\/k= .lst\/k= .e8)(cs:List D):UN [.nd k cs, .nd .tup [.sc (.ty "list"), .sc (.ty "tuple")]]=some (.sc (.bl true)):=by
 rcases h with rfl | rfl | rfl <;> simp[UN,oN,m6,mv,lS,m4]
theorem atG(v:V)(h:(∃i,v= .int i)\/∃s,v= .str s):UN [.sc v, .nd .tup [.sc (.ty "list"), .sc (.ty "tuple")]]=some (.sc (.bl false)):=by
 rcases h with⟨i,rfl⟩ | ⟨s,rfl⟩ <;> simp[UN,oN,m6,mv,lS,m4]
theorem iL(k:Kd)(cs:List D)(T:String)(hT:T∈lS)(h:k= .tup\/k= .lst\/k= .e8):wz T [.nd k cs, .sc (.ty T)]=some (.sc (.bl (m4 (if k= .tup then "tuple" else "list") T))):=by
 rcases h with rfl | rfl | rfl <;> simp[wz,sG,mv,hT]
theorem iS(s:Str)(T:String)(hT:T∈lS):wz T [sD s, .sc (.ty T)]=some (.sc (.bl (m4 "str" T))):=by simp[wz,sG,mv,hT]
theorem iI(i:Int)(T:String)(hT:T∈lS):wz T [iD i, .sc (.ty T)]=some (.sc (.bl (m4 "int" T))):=by simp[wz,sG,mv,hT]
theorem arn{m:Nat}{l:List (D×D)}(hl:l.length<=1000)(YW:k1= .tup\/k1= .lst\/k1= .e8)(api:k2= .tup\/k2= .lst\/k2= .e8)(hk:(if k1= .tup then "tuple" else "list")=(if k2= .tup then "tuple" else "list"))(hz:JF [.nd k1 (l.map (·.1)), .nd k2 (l.map (·.2))]=some (j8 (l.map (·.1)) (l.map (·.2))))
  (ih:∀p∈l,nE K C m [p.1,p.2]=some (.sc (.bl true))):nE K C (m + 1) [.nd k1 (l.map (·.1)), .nd k2 (l.map (·.2))]=some (.sc (.bl true)):=by
 have MB:∀(k:Kd) (cs:List D),(k= .tup\/k= .lst\/k= .e8)->fI [.nd k cs]=some (iD (cs.length:Nat)):=λk cs h=>by
  rcases h with rfl | rfl | rfl <;> rfl
 have a1:=MB k1 (l.map (·.1)) YW;have a2:=MB k2 (l.map (·.2)) api;rw[bb]at a1 a2;have t1:=iT api (l.map (·.2));have b1:=iL k1 (l.map (·.1)) "list" (by decide) YW;have b2:=iL k2 (l.map (·.2)) "list" (by decide) api;have c1:=iL k1 (l.map (·.1)) "tuple" (by decide) YW;have c2:=iL k2 (l.map (·.2)) "tuple" (by decide) api;rw[<- hk]at b2 c2;rw[atF]at hz;have e:=qD (n:=2) (js:= [none,none]) (is:= [0]++([1]++ [])) (fi:=λZ=>(ar (af 0) (ar (af 1) λx=>some []) Z).bind JF) (fg:=j5 2 (ir (λd Z=>some (bq 0 (B.ro d) Z)) (ir (λd Z=>some (bq 1 (B.ro d) Z)) λds Z=>match ds with | []=>some Z | x=>none))) (ft:=λx=>some true)
  (fe:=λZ=>(ar (af 0) (ar (af 1) λx=>some []) Z).bind λds=>if ds.length=2 then nE K C m ds else none) (Z:= [some (.ro (.nd k1 (l.map (·.1)))),some (.ro (.nd k2 (l.map (·.2))))]) l (λp=> .nd .tup [p.1,p.2]) (λ_=>true) (λ_=> .sc (.bl true))
  (aj (a:= [.nd k1 (l.map (·.1)), .nd k2 (l.map (·.2))]) rfl hz) (b7 hl (by decide)) rfl (λp hp=>⟨[some (.ro p.1),some (.ro p.2)],rfl,rfl,λ_=>aj (a:= [p.1,p.2]) rfl (dk rfl (ih p hp))⟩)
 rw[show(l.filter λ_=>true)=l from uV.mpr λ_ _=>rfl]at e;have al:iq [.nd .lst (l.map λ_=>D.sc (.bl true))]=some (.sc (.bl true)):=by
  show(iP (l.map λc=>D.sc (.bl ((λ_=>true) c)))).map _=_;rw[BH (λ_:D×D=>true) l];show some (D.sc (.bl ((l.map λ_=>true).all id)))=_;rw[show(l.map λ_=>true).all id=true from gA.mpr λx hx=>by
   obtain⟨_,_,rfl⟩:=gY.mp hx;rfl]
 generalize hA:D.nd k1 (l.map (·.1))=A at *;generalize hB:D.nd k2 (l.map (·.2))=B' at *;show bV 2 (Cm K C (nE K C m)) [A,B']=_;unfold Cm an0;dsimp only;refine fQ (ρ':= [some (.ro A),some (.ro B')]) (gF (aq (aj (a:= [B', .nd .tup [.sc (.ty "list"), .sc (.ty "tuple")]]) (SF.bw rfl (SF.bw (SF.jJ (SF.bw rfl (SF.bw rfl rfl)) (cq rfl)) rfl)) t1)) (c3 (Hm (aq (bY (aj (a:= [A, .sc (.ty "list")]) rfl b1) (aj (a:= [B', .sc (.ty "list")]) rfl b2) (arj _))) (aq (bY (aj (a:= [A, .sc (.ty "tuple")]) rfl c1) (aj (a:= [B', .sc (.ty "tuple")]) rfl c2) (arj _)))) (cD (E8 (aj (a:= .sc (.bl true)) ?_ ?_) rfl))))
 ·exact bY (a:=iD (l.length:Nat)) (b:=iD (l.length:Nat)) (aj (a:= [A]) rfl a1) (aj (a:= [B']) rfl a2) ((oX _ _).trans (by rw[decide_eq_true rfl]))
 ·refine aj (a:= [.nd .lst (l.map λ_=>D.sc (.bl true))]) (SF.bw ?_ rfl) al;exact e
theorem axu(h:Sm n a b):∀m,n < m->nE K C m [a,b]=some (.sc (.bl true)):=by
 induction h with
 |int n i=>
  intro m hm;obtain⟨m,rfl⟩:∃j,m=j + 1:=⟨m - 1,by lia⟩
  show bV 2 (Cm K C (nE K C m)) [iD i,iD i]=_;unfold Cm an0;dsimp only;refine fQ (ρ':= [some (.ro (iD i)),some (.ro (iD i))]) (c3 (aq (aj (a:= [iD i, .nd .tup [.sc (.ty "list"), .sc (.ty "tuple")]]) (SF.bw rfl (SF.bw (SF.jJ (SF.bw rfl (SF.bw rfl rfl)) (cq rfl)) rfl)) (atG _ (.inl ⟨i,rfl⟩)))) (c3 (aq (aj (a:= [iD i, .sc (.ty "str")]) rfl ((iI i "str" (by decide)).trans (by rw[show m4 "int" "str"=false by decide])))) (cD (E8 (aj (a:= .sc (.bl true)) (aj (a:= [iD i, .sc (.ty "int")]) rfl ((iI i "int" (by decide)).trans (by rw[show m4 "int" "int"=true by decide]))) ?_) rfl))));refine aj (a:= .sc (.bl true)) (aj (a:= .sc (.bl false)) (aj (a:= [iD i, .sc (.ty "bool")]) rfl ((iI i "bool" (by decide)).trans (by rw[show m4 "int" "bool"=false by decide]))) rfl) ?_;exact bY (a:=iD i) (b:=iD i) rfl rfl ((oX _ _).trans (by rw[decide_eq_true rfl]))
 |str n s hs=>
  intro m hm;obtain⟨m,rfl⟩:∃j,m=j + 1:=⟨m - 1,by lia⟩
  show bV 2 (Cm K C (nE K C m)) [sD s,sD s]=_;unfold Cm an0;dsimp only;refine fQ (ρ':= [some (.ro (sD s)),some (.ro (sD s))]) (c3 (aq (aj (a:= [sD s, .nd .tup [.sc (.ty "list"), .sc (.ty "tuple")]]) (SF.bw rfl (SF.bw (SF.jJ (SF.bw rfl (SF.bw rfl rfl)) (cq rfl)) rfl)) (atG _ (.inr ⟨s,rfl⟩)))) (gF (aq (aj (a:= [sD s, .sc (.ty "str")]) rfl ((iS s "str" (by decide)).trans (by rw[show m4 "str" "str"=true by decide])))) (cD (E8 (aj (a:= .sc (.bl true)) (aj (a:= [sD s, .sc (.ty "str")]) rfl ((iS s "str" (by decide)).trans (by rw[show m4 "str" "str"=true by decide]))) ?_) rfl))));exact bY (a:=sD s) (b:=sD s) rfl rfl ((Ea s s hs hs).trans (by rw[decide_eq_true rfl]))
 |tup n l hl _ ih=>
  intro m hm;obtain⟨m,rfl⟩:∃j,m=j + 1:=⟨m - 1,by lia⟩
  exact arn hl (.inl rfl) (.inl rfl) rfl rfl λp hp=>ih p hp m (by lia)
 |lst n l hl _ ih=>
  intro m hm;obtain⟨m,rfl⟩:∃j,m=j + 1:=⟨m - 1,by lia⟩
  exact arn hl (.inr (.inl rfl)) (.inr (.inl rfl)) rfl rfl λp hp=>ih p hp m (by lia)
 |e8 n l hl _ ih=>
  intro m hm;obtain⟨m,rfl⟩:∃j,m=j + 1:=⟨m - 1,by lia⟩
  exact arn hl (.inr (.inl rfl)) (.inr (.inr rfl)) rfl rfl λp hp=>ih p hp m (by lia)
theorem axv(h:asG a):Sm n (gN a) (gN a):=by
 match a,h with
 |.s x,h=>exact .str n x h
 |.i m,_=>exact .int n m
theorem aji(hl:cs.length<=1000)(h:∀d∈cs,Sm n d d):Sm (n + 1) (.nd .tup cs) (.nd .tup cs):=by
 have:=Sm.tup n (cs.map λd=>(d,d)) (by rw[bb];exact hl) λp hp=>by
  obtain⟨d,hd,rfl⟩:=gY.mp hp;exact h d hd
 rw[mJ,mJ]at this;simpa[ayk]using this
theorem atH(hv:eg v=true)(h:Tok T)(hl:T.length<=12):Sm (n + 1) (.nd .tup (sD v::aW T)) (.nd .tup (sD v::aW T)):=aji (by rw[c8,aq0];lia) λd hd=>by
 rcases bL.mp hd with rfl | hd
 ·exact .str n v hv
 ·obtain⟨t,ht,rfl⟩:=gY.mp hd;exact axv (h t ht).ok
theorem atJ{ns:List Int}{T:List Tr}(hh:eg h=true)(hn:ns.length<=10)(hv:eg v=true)(hT:Tok T)(hl:T.length<=12):Sm 2 (.nd .tup (sD h::(ns.map iD++ [.nd .tup (sD v::aW T)]))) (.nd .tup (sD h::(ns.map iD++ [.nd .tup (sD v::aW T)]))):=aji (by simp;lia) λd hd=>by
 rcases bL.mp hd with rfl | hd
 ·exact .str 1 h hh
 ·rcases lZ.mp hd with hd | hd
  ·obtain⟨n,_,rfl⟩:=gY.mp hd;exact .int 1 n
  ·rw[l5.mp hd];exact atH hv hT hl
theorem Rw.sm{r:Rw}(h:r.ok):Sm 2 (r.dat .lst) (r.dat .e8):=by
 cases r with
 |flat w T=>exact atH (n:=1) (X8 h.1).jn h.2.1 h.2.2.1
 |ask m n v T=>exact atJ (ns:= [m,n]) (by decide +kernel) (by simp) (ao2 h.2.2.1).jn h.2.2.2.1 h.2.2.2.2.1
 |work m v T=>exact atJ (ns:= [m]) (by decide +kernel) (by simp) (ao3 h.2.1).jn h.2.2.1 h.2.2.2
 |pass m n ns=>
  have:=h.2;have k:Sm 1 (.nd .lst ((n::ns).map iD)) (.nd .e8 ((n::ns).map iD)):=by
   have:=Sm.e8 0 ((n::ns).map λk=>(iD k,iD k)) (by simp;lia) λp hp=>by
    obtain⟨k,_,rfl⟩:=gY.mp hp;exact .int 0 k
   rw[mJ,mJ]at this;exact this
  exact Sm.tup 1 [(sD (ae "pass"),sD (ae "pass")),(iD m,iD m),(.nd .lst ((n::ns).map iD), .nd .e8 ((n::ns).map iD))] (by simp) λp hp=>by
   rcases bL.mp hp with rfl | hp
   ·exact .str 1 _ (by decide +kernel)
   rcases bL.mp hp with rfl | hp
   ·exact .int 1 m
   ·rw[l5.mp hp];exact k
theorem axw{rs:List Rw}(h:∀r∈rs,r.ok)(hl:rs.length<=1000):ap8 K C [.nd .lst (rs.map (Rw.dat .lst)), .nd .lst (rs.map (Rw.dat .e8))]=some (.sc (.bl true)):=by
 have:=Sm.lst 2 (rs.map λr=>(r.dat .lst,r.dat .e8)) (by rw[bb];exact hl) λp hp=>by
  obtain⟨r,hr,rfl⟩:=gY.mp hp;exact Rw.sm (h r hr)
 rw[mJ,mJ]at this;exact axu this 6 (by decide)
theorem pZ:dr ["_law_script","_law_drawn_here","_law_lines","_law_places","_law_due","_law_found","_law_row"] ["_law_script"] (cb yz):=d8
section
variable (P:Program)(w:World)(K:ah)(mg:Str->Option Value)(base:Heap)(C_NoRow:Addr)
def M5: {g:dm K C_NoRow // ∀{P w mg base f fd},cY K "law" "law" yz f fd->bM K w mg->avn P w K mg base C_NoRow->avo P w K mg base C_NoRow->adA P w K mg base C_NoRow->adm P w K mg base C_NoRow->avy P w K mg base C_NoRow->avh P w K mg base C_NoRow->bZ P w K mg base cG 11 f fd ["_law_script"] (cL K 1 (bV 7 g))}:=⟨_,λF T aro arp BZ Lc apj UY=>iy F pZ λ_ _ _ _ _ _ hr=>(aL (bX 1 pZ.nd (bC aro hr rfl (a9 (pv 0) aA)))
  (aL (WK (bC arp hr rfl (a9 (auZ (bC BZ hr rfl (a9 (bC Lc hr rfl (a9 (pv 0) aA)) aA))) (pv 1))) (DT (K:=K) rfl (n:=2) rfl (sY (gI 2 pZ.nd) (sY (gI 3 pZ.nd) CG))))
  (aL (ahj (k:=4) [none,none] ["_law_words","_law_row"] rfl (jI trivial) pZ.nd rfl (vp rfl) (lV (pv 1)) (λ_ _ _ _ _ _=>(DT (K:=K) rfl (n:=2) rfl (sY (gI 0 (by decide +kernel:(["_law_words","_law_row"]:List Str).Nodup)) (sY (gI 1 (by decide +kernel:(["_law_words","_law_row"]:List Str).Nodup)) CG)))) (λ_ _ _ _ _ _=>ko) (λ_ _ _ _ _ _=>(pv 1)))
  (aL (bX 5 pZ.nd (bC apj hr rfl (cJ (acz aC (pv 2)))))
  (aL (bS (oa (l9 (bC UY hr rfl (a9 (pv 5) (pv 4)))))
   (bu zD) cQ)
  (aL (tq sQ rfl (lV (pv 5)) (gI 6 pZ.nd)
   (dY (bS (d6 (fX hr.units) (pxx hr (pv 6) aA) aC)
   (dY (ma (zc (pxx hr (pv 6) aA) aA))) cQ)))
  (aL (ma (auL (pv 5)))
  (aL (ma (zc (pv 5) qZ))
  (bu (bC UY hr rfl (a9 (bC apj hr rfl (cJ (acz aC (pv 2)))) (pv 4))))))))))))⟩
def UO:List D->Option D:=bV 7 (M5 K C_NoRow).1
end
theorem axx(UX:lj Z)(h:fe Z=some d0)(hp:aT i (Z++ [some (.own d0)])=some q)(hq:gp (Z++ [some (.own d0)]) q=some d1)(np:VL.plain d1=false)(axy:kY [⟨Z.length, []⟩] (.rv q d1)=true)(hG:G [d0,d1]=some (d, [d']))(h0:∀q,Z[0]?≠some (some (.aB q []))):apH G fe (fB (aT i) λx=>some []) Z=some (d,Z):=by
 unfold apH;rw[h,ax,SF.adZ hp hq np rfl,ax];have agw:lj (Z++ [some (.own d0)]):=λb hb=>by
  rcases lZ.mp hb with z | z
  ·exact UX b z
  ·rw[l5.mp z];exact cZ
 have r0:aV (Z++ [some (.own d0)]) Z.length=some d0:=by
  unfold aV;rw[br (bO _),kj];rfl
 have c:fL G [.io ⟨Z.length, []⟩, .rv q d1] (Z++ [some (.own d0)])=some (d,Z++ [some (.own d')]):=by
  refine yM (ds:= [d0,d1]) ?_ ⟨N4 _ _, ?_⟩ hG rfl ?_
  ·unfold gG;rw[show mY (Z++ [some (.own d0)]) (.io ⟨Z.length, []⟩)=some d0 from by
    show(aV _ Z.length).bind (aI · [])=_;rw[r0,ax,k9]]
   rfl
  ·show(true && (kY [⟨Z.length, []⟩] (.rv q d1) && true))=true;rw[axy];rfl
  ·refine(BA agw.al r0 d').trans ?_;rw[arA _ _ (bO _),kj];rfl
 rw[c,ax];dsimp only;rw[if_pos (by rw[bo];rfl)];have agx:lj (Z++ [some (.own d')]):=λb hb=>by
  rcases lZ.mp hb with z | z
  ·exact UX b z
  ·rw[l5.mp z];exact cZ
 have u:eI Z.length (Z++ [some (.own d')])=Z++ [some (.own d')]:=UH λb hb=> .inl (agx b hb);have cc:qE 0 Z.length (Z++ [some (.own d')])=Z:=by
  unfold qE;rw[u,ayi]
  ·split
   ·rename_i q e
    exfalso;cases Z with
    |nil=>cases e
    |cons b r=>exact h0 q e
   ·rfl
  ·rfl
 rw[cc]
theorem axz(al:Al Z)(h1:fp Z=some (.rt r []))(hr:aV Z r=some (.nd .lst aS)):ik (apy fp) Z=some (.nx (Z.set r (some (.own (.nd .lst aS.reverse))))):=by
 have hn:kz Z r []=some (.nd .lst aS, .lst,aS):=by
  unfold kz;rw[hr,ax,k9];rfl
 refine uv (d:= .sc .aG) ?_;unfold apy;rw[h1,ax];dsimp only;unfold lO;rw[hn,ax];dsimp only;rw[jt,jt,o4 al,jj]
noncomputable def eL (s d1 d2 d3 d4:D) (F:List D):En:= [some (.ro s),some (.own d1),some (.own d2),some (.own d3),some (.own d4),some (.own (.nd .lst F)),none]
noncomputable def eH (s d1 d2 d3 d4:D) (y:Option B) (F:List D):En:= [some (.ro s),some (.own d1),some (.own d2),some (.own d3),some (.own d4),some (.aB 7 []),y,some (.own (.nd .lst F))]
def Y6(y:Option B):Prop:=y=none\/∃p,y=some (.aB 7 p)
theorem axA(hy:Y6 y)(p:List Nat):bq 6 (.aB 7 p) (eH s d1 d2 d3 d4 y F)=eH s d1 d2 d3 d4 (some (.aB 7 p)) F:=by
 rcases hy with rfl | ⟨q,rfl⟩ <;> rfl
theorem arq{xs:List D}(e:xs[n]?=some c):aI (.nd .lst xs) (n::p)=aI c p:=by
 rw[aI,if_neg (by simp[cg]),e]
theorem atL{xs:List D}(h:xs[n]?=some c):aZ (.nd k xs) (n::p) e= .nd k (xs.set n (aZ c p e)):=by rw[aZ,h]
theorem axB:∃y,Y6 y/\el (eH s d1 d2 d3 d4 (some (.aB 7 p)) F)=eH s d1 d2 d3 d4 y F:=by
 refine⟨fO (eH s d1 d2 d3 d4 (some (.aB 7 p)) F) (some (.aB 7 p)), ?_, ?_⟩
 ·rw[abC]
  split
  ·exact .inr ⟨p,rfl⟩
  ·exact .inl rfl
 ·unfold el;have e:fO (eH s d1 d2 d3 d4 (some (.aB 7 p)) F) (some (.aB 7 []))=some (.aB 7 []):=by
   rw[abC,if_pos (.inl rfl)]
  show [_,_,_,_,_,fO (eH s d1 d2 d3 d4 (some (.aB 7 p)) F) (some (.aB 7 [])),fO (eH s d1 d2 d3 d4 (some (.aB 7 p)) F) (some (.aB 7 p)),_]=_;rw[e];rfl
theorem axC(r:Rw)(h:r.ok):(∃w ds,r.dat .lst= .nd .tup (sD w::ds)/\eg w=true/\decide (w=ae "pass")=false)\/∃(m:Int) (ns:List D),r.dat .lst= .nd .tup [sD (ae "pass"),iD m, .nd .lst ns]/\ns.length<=100:=by
 cases r with
 |flat w T=>exact .inl ⟨w,_,rfl,(X8 h.1).jn,(ata h.1).2.2⟩
 |ask m n v T=>exact .inl ⟨_,_,rfl,by decide +kernel,by decide +kernel⟩
 |work m v T=>exact .inl ⟨_,_,rfl,by decide +kernel,by decide +kernel⟩
 |pass m n ns=>exact .inr ⟨m,_,rfl,by have:=h.2;simp;lia⟩
theorem axD{fb:En->Option Fl}(aoj:fb=gv (λZ=>aX (λb=>(b,Z)) ((au (dN id) (au (dg ay cn) (af 6) λx=>some (D.sc (V.int 0))) (λx=>some (D.sc (V.str (ae "pass")))) Z).bind λx=>match x with | D.sc (V.bl b)=>some b | x=>none)) (ik (kx (dF ay (aT 6) λx=>some (D.sc (V.int 2))) λx=>some (D.sc (V.int 0)))) (λZ=>some (Fl.nx Z)))(hy:Y6 y){F:List D}{r:Rw}(hr:r.ok)(hj:F[j]?=some (r.dat .lst)):∃y' F',fb (bq 6 (.aB 7 [j]) (eH s d1 d2 d3 d4 y F))=some (.nx (eH s d1 d2 d3 d4 y' F'))/\Y6 y'/\F'.length=F.length/\F'.drop (j + 1)=F.drop (j + 1):=by
 rw[axA hy];have hd:af 6 (eH s d1 d2 d3 d4 (some (.aB 7 [j])) F)=some (r.dat .lst):=by
  show aI (.nd .lst F) [j]=_;rw[arq hj,k9]
 subst aoj;rcases axC r hr with⟨w,ds,e,sw,hw⟩ | ⟨m,ns,e,hl⟩
 ·rw[e]at hd;exact⟨_,F,Mh (aq (aod (i:=6) hd sw (hb:=hw))) rfl, .inr ⟨[j],rfl⟩,rfl,rfl⟩
 ·rw[e]at hd hj;have n1:kz (eH s d1 d2 d3 d4 (some (.aB 7 [j])) F) 7 ([j]++ [2])=some (.nd .lst F, .lst,ns):=by
   unfold kz;rw[show aV (eH s d1 d2 d3 d4 (some (.aB 7 [j])) F) 7=some (.nd .lst F) from rfl,ax];show(aI (.nd .lst F) [j,2]).bind _=_;rw[arq hj];rfl
  obtain⟨y',Yg,ep⟩:=axB (s:=s) (d1:=d1) (d2:=d2) (d3:=d3) (d4:=d4) (p:= [j]) (F:=F.set j (.nd .tup [sD (ae "pass"),iD m, .hl .aG]));refine⟨y',F.set j (.nd .tup [sD (ae "pass"),iD m, .nd .lst (ns++ [iD 0])]),arh (aq (aod (i:=6) hd (by decide +kernel))) (uv (d:= .sc .aG) ?_),Yg,by rw[bN],by rw[List.drop_set_of_lt (by lia)]⟩;have dM:aT 6 (eH s d1 d2 d3 d4 (some (.aB 7 [j])) F)=some (.rt 7 [j]):=by
   show(if((aV (eH s d1 d2 d3 d4 (some (.aB 7 [j])) F) 7).bind (aI · [j])).isSome=true then _ else _)=_;rw[if_pos];show(aI (.nd .lst F) [j]).isSome=true;rw[arq hj];rfl
  have hx:dF ay (aT 6) (λx=>some (D.sc (V.int 2))) (eH s d1 d2 d3 d4 (some (.aB 7 [j])) F)=some (.rt 7 ([j]++ [2])):=SF.ad0 (d:= .nd .tup [sD (ae "pass"),iD m, .nd .lst ns]) (b:=iD 2) (c:= .nd .lst ns) dM hd rfl rfl rfl rfl;unfold kx;rw[hx,ax];dsimp only;rw[ax];unfold lO;rw[n1,ax];dsimp only;unfold oI;rw[if_pos (zp hl (by decide)),jt,jt];unfold fV;have e1:aZ (.nd .lst F) ([j]++ [2]) (.hl .aG)= .nd .lst (F.set j (.nd .tup [sD (ae "pass"),iD m, .hl .aG])):=by
   show aZ (.nd .lst F) [j,2] _=_;rw[atL hj];rfl
  have e2:aZ (.nd .lst F) ([j]++ [2]) (.nd .lst (ns++ [iD 0]))= .nd .lst (F.set j (.nd .tup [sD (ae "pass"),iD m, .nd .lst (ns++ [iD 0])])):=by
   show aZ (.nd .lst F) [j,2] _=_;rw[atL hj];rfl
  rw[e1,show(eH s d1 d2 d3 d4 (some (.aB 7 [j])) F).set 7 (some (.own (.nd .lst (F.set j (.nd .tup [sD (ae "pass"),iD m, .hl .aG])))))=eH s d1 d2 d3 d4 (some (.aB 7 [j])) (F.set j (.nd .tup [sD (ae "pass"),iD m, .hl .aG])) from rfl,ep];show some (D.sc .aG,(eH s d1 d2 d3 d4 y' _).set 7 (some (.own (aZ (.nd .lst F) ([j]++ [2]) (.nd .lst (ns++ [iD 0]))))))=_;rw[e2];rfl
theorem axE{rs:List Rw}(h:∀r∈rs,r.ok):∃F,wq 7 5 6 (gv (λZ=>aX (λb=>(b,Z)) ((au (dN id) (au (dg ay cn) (af 6) λx=>some (D.sc (V.int 0))) (λx=>some (D.sc (V.str (ae "pass")))) Z).bind λx=>match x with | D.sc (V.bl b)=>some b | x=>none)) (ik (kx (dF ay (aT 6) λx=>some (D.sc (V.int 2))) λx=>some (D.sc (V.int 0)))) (λZ=>some (Fl.nx Z))) (eL s d1 d2 d3 d4 (rs.map (Rw.dat .lst)))=some (.nx (eL s d1 d2 d3 d4 F))/\F.length=rs.length:=by
 have key:Ev (wq 7 5 6 (gv (λZ=>aX (λb=>(b,Z)) ((au (dN id) (au (dg ay cn) (af 6) λx=>some (D.sc (V.int 0))) (λx=>some (D.sc (V.str (ae "pass")))) Z).bind λx=>match x with | D.sc (V.bl b)=>some b | x=>none)) (ik (kx (dF ay (aT 6) λx=>some (D.sc (V.int 2))) λx=>some (D.sc (V.int 0)))) (λZ=>some (Fl.nx Z)))) (eL s d1 d2 d3 d4 (rs.map (Rw.dat .lst))) (λfl=>∃F,fl= .nx (eL s d1 d2 d3 d4 F)/\F.length=rs.length):=by
  refine Ev.wq (cs:=rs.map (Rw.dat .lst)) rfl ?_;rw[bb];refine Ev.fk (N:=rs.length) (λj Z=>∃y F,Z=eH s d1 d2 d3 d4 y F/\Y6 y/\F.length=rs.length/\F.drop j=(rs.drop j).map (Rw.dat .lst)) ?_ ?_ ?_ rs.length 0 _ (by lia) ⟨none,rs.map (Rw.dat .lst),rfl, .inl rfl,bb _,rfl⟩
  ·rintro j Z ⟨y,F,rfl,_,hl,_⟩;exact⟨F,rfl,hl⟩
  ·rintro j hj Z ⟨y,F,rfl,hy,hl,hd⟩;have axF:rs[j]?=some rs[j]:=dH hj;have axG:F[j]?=some (rs[j].dat .lst):=by
    have:(F.drop j)[0]?=((rs.drop j).map (Rw.dat .lst))[0]?:=by rw[hd]
    rw[aiE,bJ,aiE,Nat.add_zero,axF]at this;exact this
   obtain⟨y',F',e,Yg,oz,ahi⟩:=axD (s:=s) (d1:=d1) (d2:=d2) (d3:=d3) (d4:=d4) rfl hy (h _ (Co hj)) axG;refine⟨_,e,y',F',rfl,Yg,oz.trans hl, ?_⟩;rw[ahi];have:(F.drop j).drop 1=((rs.drop j).map (Rw.dat .lst)).drop 1:=by rw[hd]
   rw[aym, <- List.map_drop,aym]at this;exact this
  ·rintro Z ⟨y,F,rfl,hy,hl,_⟩;refine⟨F, ?_,hl⟩;rcases hy with rfl | ⟨p,rfl⟩ <;> rfl
 obtain⟨fl,e,F,rfl,hl⟩:=key;exact⟨F,e,hl⟩
theorem atN:∀{rs:List Rw},sk rs->ahd false rs
 | [],_=>trivial
 |r::rs,h=>⟨(h r (.head _)).2,atN λq hq=>h q (.tail _ hq)⟩
theorem agy(kf:KF K)(cs:List Int):UO K C [ou cs]=some (.sc (.bl true)):=by
 obtain⟨r0,aol,ed,h0,w0,hE,hl⟩:=awX (K:=K) (C:=C) cs;obtain⟨c2,ec⟩:=afD (K:=K) (C:=C) cs 2;obtain⟨L,axH⟩:=MS (K:=K) (C:=C) c2 90;have aQ:∀r∈r0::aol,r.ok:=λr hr=>by
  rcases bL.mp hr with rfl | hr
  ·exact h0
  ·exact(hE r hr).1
 have hO:ahd true (r0::aol):=⟨w0,atN hE⟩
 have qp:r0::aol≠ []:=ll _ _;have dw:(r0::aol).length<=400:=by rw[c8];lia
 generalize r0::aol=rs at *;obtain⟨ls,p,L',et,hL,hR,axI,atO⟩:=axs (K:=K) (C:=C) L aQ dw qp;have er:=aw8 (C:=C) kf axI hL atO (by rw[hR];exact hO) (by rw[hR];exact qp);rw[hR]at er;have ea:=axw (K:=K) (C:=C) aQ (by lia);obtain⟨F,ef,lF⟩:=axE (s:=ou cs) (d1:= .nd .lst (rs.map c4)) (d2:= .nd .lst (dv ls)) (d3:=p) (d4:= .nd .lst (rs.map (Rw.dat .e8))) aQ;have ej:Jy (ae "\n") (.nd .lst (dv ls))=some (sD (tx ls)):=by
  show(wN (dv ls)).bind _=_;have e1:dv ls=(ls.map (·.1)).map sD:=by unfold dv;rw[mJ];rfl
  rw[e1,strs_map,ax,if_pos (b7 (atw hL atO) (by decide))];rfl
 have axJ:∀Z:En,af 1 Z=some (.nd .lst (rs.map c4))->iJ 7 [none,none] ([0]++([1]++ [])) (λZ=>(af 1 Z).bind fP) (j5 2 (ir (λd Z=>some (bq 0 (B.ro d) Z)) (ir (λd Z=>some (bq 1 (B.ro d) Z)) λds Z=>match ds with | []=>some Z | x=>none))) (λx=>some true) (gJ (af 1)) Z=some (.nd .lst (rs.map (Rw.dat .e8))):=λZ h=>by
  have e:=qD (n:=7) (js:= [none,none]) (is:= [0]++([1]++ [])) (fi:=λZ=>(af 1 Z).bind fP) (fg:=j5 2 (ir (λd Z=>some (bq 0 (B.ro d) Z)) (ir (λd Z=>some (bq 1 (B.ro d) Z)) λds Z=>match ds with | []=>some Z | x=>none))) (ft:=λx=>some true) (fe:=gJ (af 1)) (Z:=Z) rs c4 (λ_=>true) (Rw.dat .e8)
   (aj h rfl) (b7 dw (by decide)) rfl (λr _=>⟨[some (.ro (.nd .e8 (r.words.map sD))),some (.ro (r.dat .e8))],rfl,rfl,λ_=>by
    unfold gJ;exact aj (a:=r.dat .e8) rfl (if_pos r.pl)⟩)
  rwa [show(rs.filter λ_=>true)=rs from uV.mpr λ_ _=>rfl]at e
 generalize hs:ou cs=s at *;generalize axK:D.nd .lst (rs.map c4)=D1 at *;have axL:VL.plain D1=false:=by rw[<- axK];rfl
 generalize azb:D.nd .lst (dv ls)=D2 at *;generalize azc:D.nd .lst (rs.map (Rw.dat .e8))=D4 at *;generalize azd:rs.map (Rw.dat .lst)=FF at *;generalize tx ls=T at *;unfold UO M5;dsimp only;refine fQ (ρ':=eL s D1 D2 p D4 (F.reverse++ [.sc .aG])) (aD (ρ':= [some (.ro s),some (.own D1),none,none,none,none,none]) (c5 (e9 (aj (a:= [s,iD 370]) rfl (dk rfl ed))) rfl) (aD (ρ':= [some (.ro s),some (.own D1),some (.own D2),some (.own p),none,none,none]) (aof (axx (.cons dO (.cons cZ (.cons i6 (.cons i6 (.cons i6 (.cons i6 (.cons i6 .nil))))))) (d0:=lD L) (aj (a:= [iD c2,iD 90]) (SF.bw (aj (a:= [s,iD 2]) rfl (dk rfl ec)) (SF.bw rfl rfl)) (dk rfl axH)) (q:= .rt 1 []) rfl (k9 D1) axL rfl et (λq h=>by cases h)) rfl) (aD (ρ':= [some (.ro s),some (.own D1),some (.own D2),some (.own p),some (.own D4),none,none]) (c5 (e9 (axJ _ rfl)) rfl) (aD (ρ':=eL s D1 D2 p D4 FF) (c5 (e9 (aj (a:= [sD T]) (SF.bw (aj (a:=D2) rfl ej) rfl) (dk rfl er))) rfl) (c3 (an4 (b:=true) (aq (aj (a:= [.nd .lst FF,D4]) rfl (dk rfl ea))) rfl) (aD ef (aD (ρ':=eL s D1 D2 p D4 F.reverse) ((axz (du rfl) rfl rfl).trans rfl) (aD (ρ':=eL s D1 D2 p D4 (F.reverse++ [.sc .aG])) ((sf (du rfl) rfl rfl (d:= .sc .aG) rfl (by rw[aoo,lF];lia)).trans rfl) (cD (e9 ?_))))))))));exact aj (a:= [.nd .lst FF,D4]) (SF.bw (aj (a:= [sD T]) (SF.bw (aj (a:=D2) rfl ej) rfl) (dk rfl er)) (SF.bw rfl rfl)) (dk rfl ea)
def Ng(K:ah):Sp:=λvs H Q _=>∃(a:Addr) (ns:List Int),vs= [.ref a]/\jA K H a (ns.map V.int)/\ns.length<=63/\∀H',Q (.bl true) H'
theorem agB{K:ah}{H:Hp}{a:Addr}{vs:List V}(hO:C4 H)(hS:cI K H a vs):jA K H a vs:=by
 rcases hS with(e | ⟨o,e⟩) | h
 ·rcases hO a with z | ⟨o,xs,z⟩
  ·rw[z]at e;cases e
  ·rw[z]at e;cases e
 ·exact .inl ⟨o,e⟩
 ·exact .inr h
theorem agC{K:ah}{H:Hp}{a:Addr}{ns:List Int}(h:jA K H a (ns.map V.int)):cv K H T1 [.ref a] [ou ns]:=by
 refine⟨rfl,λi v d hv hd=> ?_⟩;cases i with
 |succ i=>simp at hv
 |zero=>
  cases hv;cases hd;refine .nd (λz=>by cases z) ⟨trivial,h⟩ (by simp) λi v d hv hd=> ?_;rw[bJ]at hv hd;cases e:ns[i]? with
  |none=>rw[e]at hv;cases hv
  |some x=>
   rw[e]at hv hd;cases hv;cases hd;exact .sc _
def nP(K:ah)(x:Str)(s:Stmt):Prop:=∃f fd,uW K jN x=some (some (.ref f))/\cY K x x s f fd
theorem np_mk{K:ah}{x:Str}{st:Stmt}{f:Addr}{oc:Value}{od an:Option Addr}{mO:Array (Option Value)}{kV doc pm dB ct:Value}(a:uW K jN x=some (some (.ref f)))(l:K.lookup f=some ⟨oc,od, .func (qT x x (rE st) (mS st) (cb st) .none kV doc pm an dB ct),mO⟩)(c:Cf K dB x=true)(k:uO K (.ref f)=true):nP K x st:=⟨_,_,a,GX l c k⟩
theorem agD{P:Program}{w:World}{K:ah}{mg:Str->Option Value}{base h:Heap}(X:K.In h)(G:h.Ns jN mg){x:Str}{ps:List Str}{k:Nat}{sp:Sp}{st:Stmt}(q:nP K x st)
  (o:∀{f fd},cY K x x st f fd->bZ P w K mg base cG k f fd ps sp) (hb:∀(kV doc pm:Value) (an:Option Addr) (dB ct:Value) (us:List Value),us.length=ps.length->bindArgs (qT x x (rE st) (mS st) (cb st) .none kV doc pm an dB ct) ⟨us, []⟩=pure (ps.zip us)):dt P w K mg base x ps k sp:=by
 obtain⟨f,fd,a,F⟩:=q;exact dt.of F (F.binds hb) (qW X G a) (o F)
theorem ph{P:List Value->Prop}(h:∀a,P [a]):∀us:List Value,us.length=1->P us
 | [a],_=>h a
theorem jo{P:List Value->Prop}(h:∀a b,P [a,b]):∀us:List Value,us.length=2->P us
 |a::r,e=>ph (P:=λr=>P (a::r)) (h a) r (dA e)
def nA(K:ah)(x:Str)(f:Addr):Prop:=uW K jN x=some (some (.ref f))
def nZ(K:ah)(x:Str):Prop:=uW K jN x=some none
def nL(K:ah)(f:Addr)(x y:Str)(s:Stmt)(oc:Value)(od:Option Addr)(kV dc pm:Value)(an:Option Addr)(cd ct:Value)(sl:Array (Option Value)):Prop:=K.lookup f=some ⟨oc,od, .func (qT x y (rE s) (mS s) (cb s) .none kV dc pm an cd ct),sl⟩
def nC(K:ah)(c:Value)(x:Str):Prop:=Cf K c x=true
def nK(K:ah)(f:Addr):Prop:=uO K (.ref f)=true
def nU(K:ah)(x:Str)(u:Value):Prop:=uW K jN x=some (some u)
theorem Ni{K:ah}{x:Str}{a:Addr}(h:nA K x a):kA K x=a:=by
 unfold kA;rw[show uW K jN x=some (some (.ref a)) from h]
theorem FE{K:ah}{w:World}{x:Str}{a:Addr}{es:Array Nn}{n:Nat}(h:nA K x a)(l:K.lookup a=some ⟨.type "dict",none, .dict es n,#[]⟩)(k:FT w.params es.toList):yt K w (kA K x):=by
 rw[Ni h];exact⟨es,n,l,k⟩
theorem ars{K:ah}{h:Heap}{mg:Str->Option Value}{x:Str}{a:Addr}(X:K.In h)(G:h.Ns jN mg)(e:nA K x a):∃u,mg x=some u/\RelV (.ref (kA K x)) u:=by
 rw[Ni e];exact⟨_,qW X G e,rfl⟩
def aom(K:ah)(nm:Str)(l:List (Str×List Str)):Bool:=match aoz K (kA K nm) with
 |some ai=>decide ((ai.map (·.1)).Nodup) && decide (ai.length<=100) && !(kA K nm == qO) && l.all λx=>match cM (cN x.1:bc) (ai.map (·.1)) with
  |some i=>(match (ai.map (·.2))[i]? with
   |some (V.ref t)=>decide (Up K t=some x.2)
   |_=>false)
  |none=>false
 |none=>false
theorem art{K:ah}{nm:Str}{l:List (Str×List Str)}(h:aom K nm l=true):Tb K nm l:=by
 unfold aom at h
 split at h
 ·next ai e=>
  simp only[kM,decide_eq_true_eq,arF,gA]at h;obtain⟨⟨⟨h1,h2⟩,h3⟩,h4⟩:=h;refine⟨.nd (.aO (ai.map (·.1))) ((ai.map (·.2)).map .sc), ?_,λx hx=> ?_⟩
  ·show(if kA K nm=kA K nm then _ else _)=_;rw[if_pos rfl,e,ax,if_pos ⟨h1,b7 h2 (by decide),h3⟩]
  ·have:=h4 x hx
   split at this
   ·next i ei=>
    split at this
    ·next t et=>exact⟨_,_,i,t,rfl,ei,by rw[bJ,et];rfl,of_decide_eq_true this⟩
    ·cases this
   ·cases this
 ·cases h
theorem all_mk{l:W.OpenLaw}{w:World}{K:ah}{h:Heap}{mg:Str->Option Value}{fa:Addr}(X:K.In h)(G:h.Ns jN mg)(agG:mg "law"=some (.ref fa))
 (q0:nP K "_law_pick" JI)
 (q1:nP K "_law_number" JP)
 (q2:nP K "_law_world" apI)
 (q3:nP K "_law_mix" JM)
 (q4:nP K "_law_left" JN)
 (q5:nP K "_law_cell_at" JL)
 (q6:nP K "_law_word" apJ)
 (q7:nP K "_law_content" JR)
 (q8:nP K "_law_path" apK)
 (q9:nP K "_law_part" apL)
 (agH:nP K "_law_form" apM)
 (agI:nP K "_law_request" apN)
 (agJ:nP K "_law_event" apO)
 (agK:nP K "_law_drawn" apP)
 (agL:nP K "_law_text" apQ)
 (agM:nP K "words_of" apR)
 (agN:nP K "all_among" JW)
 (agO:nP K "number_from" apS)
 (agP:nP K "is_content" JY)
 (agQ:nP K "content_from" apT)
 (agR:nP K "is_name" JX)
 (agS:nP K "part_from" apU)
 (agT:nP K "parts_from" apV)
 (agU:nP K "by_form" apW)
 (agV:nP K "request_from" apX)
 (agW:nP K "ask_from" apY)
 (agX:nP K "work_from" apZ)
 (agY:nP K "pass_from" ap0)
 (agZ:nP K "is_world" ap1)
 (ag0:nP K "row_from" ap2)
 (ag1:nP K "read_sheet" ap3)
 (ag2:nP K "_law_alike" ap4)
 (axM:nA K "law" atP) (axN:nL K atP "law" "law" yz aze azf axO axP axQ axR atQ axS azg) (axT:nC K atQ "law") (axU:nK K atP)
 (z0:nZ K "len")
 (z1:nZ K "range")
 (z2:nZ K "list")
 (z3:nZ K "tuple")
 (z4:nZ K "int")
 (z5:nZ K "max")
 (z6:nZ K "min")
 (z7:nZ K "all")
 (z8:nZ K "any")
 (z9:nZ K "isinstance")
 (ahk:nZ K "str")
 (ahl:nZ K "bool")
 (ahm:nZ K "dict")
 (ahn:nZ K "sorted")
 (aho:nZ K "abs")
 (ahp:nZ K "enumerate")
 (ahq:nZ K "zip")
 (u0:nU K "LONGEST_NAME" ahs) (r0:RelV (.int 8) ahs)
 (u1:nU K "LONGEST_CONTENT" aht) (r1:RelV (.int 200) aht)
 (u2:nU K "MOST_FIGURES" ahu) (r2:RelV (.int 12) ahu)
 (u3:nU K "MOST_MASTERS" ahv) (r3:RelV (.int 7) ahv)
 (u4:nU K "MOST_HANDS" ahw) (r4:RelV (.int 10) ahw)
 (u5:nU K "NAME_SIGNS" ahx) (r5:RelV (.str "abcdefghijklmnopqrstuvwxyz0123456789") ahx)
 (u6:nU K "CONTENT_SIGNS" axV) (r6:RelV (.str "abcdefghijklmnopqrstuvwxyz0123456789.") axV)
 (u7:nU K "FIGURES" axW) (r7:RelV (.str "0123456789") axW)
 (uG:nA K "ROWS" wI) (ahy:K.lookup wI=some ⟨.type "dict",none, .dict ahz alN,#[]⟩) (ahA:FT w.params ahz.toList)
 (axX:aom K "ROWS" o3=true)
 (uH:nA K "REQUESTS" wJ) (Ic:K.lookup wJ=some ⟨.type "dict",none, .dict ahH alO,#[]⟩) (ahI:FT w.params ahH.toList)
 (axY:aom K "REQUESTS" p3=true)
 (uI:nA K "DEEDS" wK) (ahP:K.lookup wK=some ⟨.type "dict",none, .dict ahQ alP,#[]⟩) (ahR:FT w.params ahQ.toList)
 (axZ:aom K "DEEDS" t4=true)
 :∃fd:kK,(∀(s:Shared) (v:Value),B4 s fd ⟨[v], []⟩ [("_law_script",v)])/\∀base:Heap,K.In base->base.Ns jN mg->bZ l.prog w K mg base cG 11 fa fd ["_law_script"] (Ng K):=by
 have e:=agG.symm.trans (qW X G axM);cases e;have T:bM K w mg:=⟨jf X G z0,jf X G z1,jf X G z2,jf X G z3,jf X G z4,jf X G z5,jf X G z6,jf X G z7,jf X G z8,jf X G z9,jf X G ahk,jf X G ahl,jf X G ahm,jf X G ahn,jf X G aho,jf X G ahp,jf X G ahq,⟨_,qW X G u0,r0⟩,⟨_,qW X G u1,r1⟩,⟨_,qW X G u2,r2⟩,⟨_,qW X G u3,r3⟩,⟨_,qW X G u4,r4⟩,⟨_,qW X G u5,r5⟩,⟨_,qW X G u6,r6⟩,⟨_,qW X G u7,r7⟩,ars X G uG,FE uG ahy ahA,ars X G uH,FE uH Ic ahI,ars X G uI,FE uI ahP ahR⟩
 have hK:KF K:=⟨art axX,art axY,art axZ⟩
 refine⟨qT "law" "law" (rE yz) (mS yz) (cb yz) .none axO axP axQ axR atQ axS,λs v=> .of_eq rfl,λbase _ _=> ?_⟩;have Y {x:Str} {ps:List Str} {k:Nat} {sp:Sp} {st:Stmt}:=@agD l.prog w K mg base h X G x ps k sp st;have fj:=Y q0 (λF=>(KG K 0).2 F T) λ_ _ _ _ _ _=>jo λ_ _=>rfl;have nI:=Y q1 (λF=>(KJ K 0).2 F T fj) λ_ _ _ _ _ _=>ph λ_=>rfl;have aqn:=Y q2 (λF=>(aqk K 0).2 F T nI fj) λ_ _ _ _ _ _=>ph λ_=>rfl;have ER:=Y q3 (λF=>(K9 K 0).2 F T) λ_ _ _ _ _ _=>jo λ_ _=>rfl;have BZ:=Y q4 (λF=>(Lb K 0).2 F T ER) λ_ _ _ _ _ _=>jo λ_ _=>rfl;have Lc:=Y q5 (λF=>(EH K 0).2 F T) λ_ _ _ _ _ _=>jo λ_ _=>rfl;have K6:=Y q6 (λF=>(KW K 0).2 F T fj) λ_ _ _ _ _ _=>jo λ_ _=>rfl;have aqc:=Y q7 (λF=>(KH K 0).2 F T fj K6) λ_ _ _ _ _ _=>ph λ_=>rfl;have aqd:=Y q8 (λF=>(ap9 K 0).2 F T fj K6) λ_ _ _ _ _ _=>ph λ_=>rfl;have aqf:=Y q9 (λF=>(aqb K 0).2 F T aqc aqd K6 fj nI) λ_ _ _ _ _ _=>jo λ_ _=>rfl;have tF:=Y agH (λF=>(aqe K 0).2 F T aqf fj) λ_ _ _ _ _ _=>jo λ_ _=>rfl;have aqj:=Y agI (λF=>(aqg K 0).2 F T tF fj) λ_ _ _ _ _ _=>ph λ_=>rfl;have aqo:=Y agJ (λF=>(aqi K 0).2 F T fj tF aqj nI) λ_ _ _ _ _ _=>ph λ_=>rfl;have aro:=Y agK (λF=>(aqm K 0).2 F T aqn BZ Lc ER aqo) λ_ _ _ _ _ _=>jo λ_ _=>rfl;have arp:=Y agL (λF=>(aqq K 0).2 F T fj) λ_ _ _ _ _ _=>jo λ_ _=>rfl;have aqP:=Y agM (λF=>(aqN K 0).2 F T) λ_ _ _ _ _ _=>ph λ_=>rfl;have yI:=Y agN (λF=>(Lh K 0).2 F T) λ_ _ _ _ _ _=>jo λ_ _=>rfl;have UZ:=Y agO (λF=>(aqs K 0).2 F T yI) λ_ _ _ _ _ _=>ph λ_=>rfl;have LI:=Y agP (λF=>(LB K 0).2 F T yI) λ_ _ _ _ _ _=>ph λ_=>rfl;have aqu:=Y agQ (λF=>(aoM K 0).2 F T LI) λ_ _ _ _ _ _=>ph λ_=>rfl;have LH:=Y agR (λF=>(LC K 0).2 F T yI) λ_ _ _ _ _ _=>ph λ_=>rfl;have aqw:=Y agS (λF=>(aqt K 0).2 F T UZ aqu LH) λ_ _ _ _ _ _=>jo λ_ _=>rfl;have tL:=Y agT (λF=>(aqv K 0).2 F T aqw) λ_ _ _ _ _ _=>jo λ_ _=>rfl;have tO:=Y agU (λF=>(aqy K 0).2 F T tL) λ_ _ _ _ _ _=>jo λ_ _=>rfl;have aqC:=Y agV (λF=>(aqA K 0).2 F T tO) λ_ _ _ _ _ _=>ph λ_=>rfl;have aqJ:=Y agW (λF=>(aqB K 0).2 F T tL aqC) λ_ _ _ _ _ _=>ph λ_=>rfl;have aqK:=Y agX (λF=>(aqH K 0).2 F T tL tO) λ_ _ _ _ _ _=>ph λ_=>rfl;have aqL:=Y agY (λF=>(aqF K 0).2 F T UZ) λ_ _ _ _ _ _=>ph λ_=>rfl;have aqM:=Y agZ (λF=>(aqE K 0).2 F T) λ_ _ _ _ _ _=>ph λ_=>rfl;have aqQ:=Y ag0 (λF=>(VV K 0).2 F T aqJ aqK aqL tO aqM) λ_ _ _ _ _ _=>ph λ_=>rfl;have apj:=Y ag1 (λF=>(aqO K 0).2 F T aqP aqQ) λ_ _ _ _ _ _=>ph λ_=>rfl;obtain⟨_,_,a,F⟩:=ag2;have b:=F.binds (ps:= ["_law_found","_law_due"]) λ_ _ _ _ _ _=>jo λ_ _=>rfl;have m:=qW X G a;have UY:dt l.prog w K mg base "_law_alike" ["_law_found","_law_due"] 7 (cL K 2 (ap8 K 0)):=dt.of F b m (ass (C_NoRow:=0) F T b m  6);exact((M5 K 0).2 (GX axN axT axU) T aro arp BZ Lc apj UY).imp λvs H Q E h=>by
  obtain⟨a,ns,rfl,hF,hl,qq⟩:=h;exact⟨[ou ns],tD true,rfl,agC hF,agy hK ns,λv H' _ o=>by
   have e:v= .bl true:=(cA.vw o).bA;subst e;exact qq H'⟩
theorem walk{l:W.OpenLaw}{q:Program}{loose:List Str}{XP:(Str->Option Value)->Heap->Prop}{YP:World->Heap->Prop}{d:DefRec}{K:Params->ah}(hn:l.most=some 63)(Aq:d.params.defaults= [])
  (hY:∀(w:World) (h:Heap),YP w h->(K w.params).In h)
  (F:∀(w:World) (mg:Str->Option Value) (fa:Addr) (h:Heap),(K w.params).In h->h.Ns jN mg->mg d.name=some (.ref fa)->
   ∃fd:kK,(∀(s:Shared) (u:Value),B4 s fd ⟨[u], []⟩ [("_law_script",u)])/\∀base:Heap,(K w.params).In base->base.Ns jN mg->bZ l.prog w (K w.params) mg base cG 11 fa fd ["_law_script"] (Ng (K w.params))):
  W.WalkO q loose XP YP l.row.toRowW d [] (λf vs=>VS f vs):=
 L2.Yu (n:=63) (k:=11) (x:="_law_script") (CX:=λ_=>cG) (sp:=λw=>Ng (K w.params)) hn (by decide) Aq ⟨rfl,by decide,by decide,rfl⟩ hY F (λ_ _ a ns hl hO hS=>⟨a,ns,rfl,agB hO hS,hl,λ_=>rfl⟩) λ_ _ _ _ _ z=>z
end K57
namespace PySem.W.Fast
def tw5589499621194689345:=Nat
def tw9852635286124066467:=Nat
def tw2998384575772674405:=Nat
def tw3407602568590061544:=Nat
def tw16340556241029574697:=Nat
def tw14078612304568084617:=Nat
def tw6964218987976443210:=Nat
def tw8489191569436989386:=Nat
def tw7452074942161968683:=Nat
def tw7854264457536012076:=Nat
def tw4842912302459563632:=Nat
def tw14943383616978733522:=Nat
def tw1370069199916876916:=Nat
def tw9722152295738314488:=Nat
def tw6581889229667330105:=Nat
def tw14941576972260735449:=Nat
def tw9711520909775769018:=Nat
def tw16357318320197180319:=Nat
def tw17936314551262325446:=Nat
end PySem.W.Fast
end
open PySem PySem.W PyProof.Rows
set_option maxRecDepth 100000 in
set_option maxHeartbeats 0 in
theorem PySem.Challenge.cw_farshelf_k57_sheets_read_holds : PySem.Challenge.rw_farshelf_k57_sheets_read.Holds := by
  w_on; o_law; k_head; (case hw => w_witness2)
  k_fill
  refine K57.walk (l := PySem.Challenge.rw_farshelf_k57_sheets_read) rfl rfl (fun w h Y => W.kIn_of Y) ?F
  case F =>
    intro w mg fa h KX G hmg
    refine' K57.all_mk KX G hmg (K57.np_mk _ _ _ _) (K57.np_mk _ _ _ _) (K57.np_mk _ _ _ _) (K57.np_mk _ _ _ _) (K57.np_mk _ _ _ _) (K57.np_mk _ _ _ _) (K57.np_mk _ _ _ _) (K57.np_mk _ _ _ _) (K57.np_mk _ _ _ _) (K57.np_mk _ _ _ _) (K57.np_mk _ _ _ _) (K57.np_mk _ _ _ _) (K57.np_mk _ _ _ _) (K57.np_mk _ _ _ _) (K57.np_mk _ _ _ _) (K57.np_mk _ _ _ _) (K57.np_mk _ _ _ _) (K57.np_mk _ _ _ _) (K57.np_mk _ _ _ _) (K57.np_mk _ _ _ _) (K57.np_mk _ _ _ _) (K57.np_mk _ _ _ _) (K57.np_mk _ _ _ _) (K57.np_mk _ _ _ _) (K57.np_mk _ _ _ _) (K57.np_mk _ _ _ _) (K57.np_mk _ _ _ _) (K57.np_mk _ _ _ _) (K57.np_mk _ _ _ _) (K57.np_mk _ _ _ _) (K57.np_mk _ _ _ _) (K57.np_mk _ _ _ _) _ _ _ _ _ _ _ _ _ _ _ _ _ _ _ _ _ _ _ _ _ _ _ _ _ _ _ _ _ _ _ _ _ _ _ _ _ _ _ _ _ _ _ _ _ _ _ _ _
    any_goals (first | k_is | (unfold K57.nA; k_is) | (unfold K57.nL; k_is) | (unfold K57.nC; k_is) | (unfold K57.nK; k_is) | (unfold K57.nZ; k_is) | (unfold K57.nF; k_is) | (unfold K57.nU; k_is) | exact ⟨_, rfl⟩ | kernel_rfl | exact Nat.le_of_ble_eq_true rfl | rfl | (show W.KeysLit _ _; k_keys))

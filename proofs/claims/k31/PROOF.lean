import PyProof.Rows.All
import Wide.All
import OpenK.AllK
import Wide.FinOn
import Lean
import PyProof.EqAt
import PyProof.EqKinds
import PyProof.TupleCall
import PyProof.WalksEnum
import PyProof.EnumMake
import PyProof.Rows.EnumRows
import PyProof.NeData
import PyProof.ReprRoads
import PyProof.SumWalkG
import PyProof.StrLawsTight
import PyProof.Rows.StrNews
import PyProof.Rows.StrJoin2
import PyProof.Rows.CatFin
import PyProof.ConsumeWalk
import PyProof.StrWalks
import KE.KItemsList
import KE.KSortTup
import PyProof.ZipIter
import PyProof.ListRange
import PyProof.Rows.SeqMore
import PySem.Challenge.RW_farshelf_k31_any_messages
open Array renaming length_toList->Lv,getElem?_toList->agM,getElem?_eq_none->ag2,append_empty->ag9
open Bool renaming false_ne_true->jA,and_eq_true->qt,not_eq_true->agV
open False renaming elim->lM
open ForInStep renaming yield->vp
open Function renaming comp_def->ahi
open Int renaming le_refl->jn,emod_nonneg->A6,le_trans->D4,emod_lt_of_pos->D7,toNat_natCast->LB,natCast_nonneg->LX,le_of_lt->Ux,lt_of_le_of_lt->UM
open List renaming getElem?_append_left->br,getElem?_append_right->bK,getElem?_eq_some_iff->bW,length_append->cc,length_set->cB,map_append->cK,getElem?_map->dF,append_assoc->dI,map_cons->eI,length_map->eS,getElem?_set_self->eY,append_nil->fE,mem_cons->fX,length_cons->gc,mem_singleton->gf,getElem?_set_ne->gm,getElem?_eq_getElem->gn,size_toArray->gr,replicate->gC,mem_of_getElem?->gH,map_nil->iZ,mem_map->i0,range->jJ,mem_append_right->jK,mem_append->kG,mem_filter->mx,mem_cons_of_mem->my,lookup_cons->mB,nodup_cons->nc,length_singleton->ng,not_mem_nil->oe,append_cons->pB,length_zip->pE,zip_cons_cons->qu,map_map->qw,eq_nil_of_length_eq_zero->rG,drop_eq_getElem_cons->rH,mem_cons_self->tu,lookup->tF,set_append_left->tH,getElem?_eq_none->tK,getElem?_mapIdx->tM,getElem?_replicate->xP,length_replicate->xQ,length_drop->xR,any_cons->xS,filter_eq_self->xV,mem_range->AY,find?_cons->A1,all_eq_true->A3,getElem?_range->A4,length_range->A5,mem_append_left->DT,length_take->DW,getD->D0,pairwise_cons->D2,length_mapIdx->D5,ext_getElem?->D6,nodup_nil->LL,drop_length->LM,mem_of_mem_drop->LN,drop_zero->LO,take_length->LP,set_append_right->LU,mem_of_mem_eraseIdx->LY,filterMap_cons->Ua,of_mem_zip->Uk,getElem?_take_of_lt->Um,length_nil->Uv,forIn_cons->Uy,drop_of_length_le->UD,length_filter_le->UH,take_of_length_le->UI,mem_map_of_mem->UJ,foldl_cons->UK,map_drop->UL,mem_filterMap->agF,forIn_nil->agS,getElem_mem->agT,getElem?_eq_none_iff->agU,cons_append->agX,take_append_drop->agY,mem_of_mem_take->agZ,foldl_append->ag6,map_congr_left->ag7,eq_of_mem_replicate->ahj
open List.Pairwise renaming map->ahg
open Nat renaming le_trans->bO,le_refl->bX,lt_of_lt_of_le->iu,le_succ->je,ne_of_lt->jy,zero_le->j8,sub_self->lN,lt_irrefl->m9,le_of_lt->tq,lt_or_ge->xT,ne_of_gt->AZ,lt_succ_self->DV,lt_of_le_of_lt->DZ,lt_succ_of_lt->LG,succ_pos->LJ,add_sub_cancel_left->LK,le_of_eq->Ug,succ_lt_succ->UA,add_sub_cancel->UB,sub_zero->UC,le_of_ble_eq_true->ag0,min_eq_left->ahd,min_eq_right->ahe,le_succ_of_le->ahf,succ_le_succ->ahh
open Nat.succ renaming inj->fU
open Ne renaming symm->jO
open Option renaming bind_eq_some_iff->af,map_eq_some_iff->bg,map->bu,isSome_iff_exists->Ul,getD_none->agJ,isSome_some->agN,isSome_map->agO,map_eq_none_iff->agW
open Option.some renaming inj->jI,injEq->ag8
open Or renaming inl->vm
open Prod renaming fst->Uz
open PyProof.Rows renaming AllBare->u1,boot_max->vq,slot_tuple_getitem->A0,IntsAre->DP,boot_isinstance->D3,boot_tuple->LV,boot_list->LW,subscriptTail->T2,callWith_type1->Ub,entry_tuple_getitem->agw,subscriptTail_builtinR->agx,boot_min->ahb,boot_dict->ahc
open PyProof.Rows.IsTup renaming new->Us
open PySem renaming sizeLine->aM,wpAny_bind->bq,starEach->dh,wpAny_pure->dw,NameKind->d6,compareOp->jd,FuncData->j7,binaryOp->kE,wpAny_mono->lq,mainGlobals->mv,codeAny->mw,cellsFrom->m8,attributeBase->qo,sysModules->rD,wpAny_holding->rE,PassesOwn->rF,assignEach->u5,wpAny_loadPart'->u6,getItem->u7,pushCells->u9,wpAny_letGo->va,plainId_quiet->vb,Spec->vc,mem_of_lookup->vi,wpAny_truthy_bool->xD,swapsWith->xE,backToKw->xF,keywordEach->xG,wpAny_newObj_type->xH,sliceBounds->xI,callerA->xJ,valueAt->xK,wpAny_tryCatch->xM,tupleKind->AM,bootBuiltins->AN,standAt->AO,behindInMarks->AQ,getMethod->AR,BindsTo->AS,notedBy->AU,updateSeq->AV,wpAny_updateSeq->AW,wpAny_passesOwn->DM,codeAny_mono->DN,wpAny_Call_Name_kw->DO,wpAny_pyIter_list->DQ,builtinsNs->Lb,letOwnedTupleGo->Lc,sizeLine_eq->Ld,wpAny_call->Le,callWith->Lf,concat_meets->Lg,tupleKind_room_in1->Lh,pushCells_keeps->Li,wpAny_getItem_str_slice->Lk,post_val_or_str->Ll,richCompare->Ln,codeAny_builtin->Lo,seqItems?->Lq,wpAny_seqItems->Lr,wpAny_eqBool_int->TM,wpAny_execs_nil->TN,wpAny_standAt->TQ,wpAny_pyNext_list_end->TR,foldedSetIterable->TU,noFill_tuple_add->TV,seq_tuple_add->TX,wpAny_field->TY,wpAny_typeOf->TZ,seqIndex_of->T3,seqIndex_neg->T4,call_meetsIn->T5,newFunctionEnv->T6,Within->T8,call->Uu,wpAny_callSpecial?_slot->agv,wpAny_Call_method0_late->agy,wpAny_comprehension_free->agz,KeyKind->agB,evalArgs_none->agK
open PySem.Around renaming under->LA,under_plainId->LR
open PySem.Builtin.Builtins renaming bindParams->LS
open PySem.Builtin.Slice renaming slicePlaces->LC,sliceAdjust->Ur,sliceApplied->agH
open PySem.Builtin.Str renaming occurrences->Uc
open PySem.Builtin.Tuple renaming tupleExact->LD,tupleItemsOf->agI
open PySem.Calls renaming callWith_builtin->LF,spliced_cons->Ui,Name_function_global->agE,spliced_nil->agG,evalArgs_plain->agL
open PySem.Code renaming isFrame->Uh
open PySem.F renaming plain_max_loop->pF,entry_max_loop->LQ,slot_tuple_add->Uo,entry_tuple_add->Up,args_tuple_add_2->Uq,slot_dict_get->Uw,entry_dict_get->agP,args_dict_get_3->agQ,plainAttrs_dict->agR,slot_dict_values->ag1,kind_max->ag3,plain_max->ag4,entry_max->ag5,plainAttrs_list->aha
open PySem.Heap renaming lt_size->gk,get?_push_of_some->gB,get?_push_size->jz,size_push->tG,get?_update_other->vj,get?_update_self->DY,SameBut->Lu
open PySem.NameKind renaming cell->jB,free->mz
open PySem.Obj renaming mapSeq->oa
open PySem.Paired renaming length->T7
open PySem.PassesOwn renaming never->tL
open PySem.PyData renaming eqv->fM,strOk->iN,canLay0->tI,depth->tJ,eqvAll->xU,canLayAll0->UE,depthAll->UG
open PySem.SeqAt.EqAt renaming int_str->agC,str_int->agD
open PySem.Str renaming ofString->ae
open PySem.Txt renaming slice->LH,slice_le->LI
open PySem.Value renaming ref->gA,type->ve,int->xN,bool->xO,str->AX,none->DS,float->Ls,isStrOf->agA
open PySem.W renaming Frag->aj,findIn->kJ,mg_none_of->nq,kia_one->qp,fnOf->qr,kia_tup->qv,isFn->tw,emptyDict->tE,instObj->vf,keepIn->vg,kitOne->vh,plainGet->DU,codeIn->DX,mg_of->D8,lookIn->Lw,hasDictIn->Lx,kitx_list->Ly,kitx_dict->Lz,methodObj->T9,plainGet_of->Ud,plainOver->Ue,callWith_K->Uj
open PySem.Walks renaming list->D1
open Sum renaming inl->fB,inr->vd
open Sum.inl renaming inj->DR
open True renaming intro->kK
set_option Elab.async false
set_option genSizeOf false
set_option compiler.extract_closed false
set_option linter.all false
set_option maxRecDepth 100000
noncomputable section
theorem bL{p:Prop}[Decidable p](h:decide p=false:=by decide +kernel):p=False:=eq_false (of_decide_eq_false h)
namespace L2
open PySem PySem.Spec PyProof.Rows
noncomputable abbrev bw:=Sum Int Str
noncomputable def vt:bw->Value->Bool
 |.inl k,v=>Value.isInt k v
 |.inr x,v=>agA x v
noncomputable def UN (w:World):bw->Int
 |.inl k=>hashInt k
 |.inr x=>hashStr w x
theorem pG:∀{k:bw} {v:Value},vt k v=true->(∃i t,k=fB i/\v=xN i t)\/(∃x t,k=vd x/\v=AX x t)
 |.inl i,v,h=>by
  obtain⟨t,e⟩:=Value.isInt_shape (k:=i) (v:=v) h;exact .inl ⟨i,t,rfl,e⟩
 |.inr x,v,h=>by
  obtain⟨t,e⟩:=Value.isStrOf_shape (x:=x) (v:=v) h;exact .inr ⟨x,t,rfl,e⟩
theorem UO(i:Int)(t:Tok):vt (.inl i) (.int i t)=true:=by simp[vt,Value.isInt]
theorem UP(x:Str)(t:Tok):vt (.inr x) (.str x t)=true:=by simp[vt,agA]
theorem UQ(a b:Int):decide ((fB a:bw)=fB b)=(a == b):=by
 by_cases e:a=b
 ·subst e;simp
 ·have h:¬ (fB a:bw)=fB b:=λq=>e (DR q);rw[decide_eq_false h];exact(beq_eq_false_iff_ne.mpr e).symm
theorem UR(a b:Str):decide ((vd a:bw)=vd b)=decide (a=b):=by
 by_cases e:a=b
 ·subst e;simp
 ·have h:¬ (vd a:bw)=vd b:=λq=>e (vd.inj q);rw[decide_eq_false h,decide_eq_false e]
theorem US(a:Int)(b:Str):decide ((fB a:bw)=vd b)=false:=decide_eq_false (λq=>nomatch q)
theorem UT(a:Str)(b:Int):decide ((vd a:bw)=fB b)=false:=decide_eq_false (λq=>nomatch q)
def jf(prog:Program)(w:World):agB prog w bw where
 is:=vt
 hash:=UN w
 inj:=λv a b ha hb=>by
  rcases pG ha with⟨i,t,rfl,rfl⟩ | ⟨x,t,rfl,rfl⟩
  ·rcases pG hb with⟨j,u,rfl,e⟩ | ⟨y,u,rfl,e⟩
   ·injection e with e1 _;rw[e1]
   ·exact nomatch e
  ·rcases pG hb with⟨j,u,rfl,e⟩ | ⟨y,u,rfl,e⟩
   ·exact nomatch e
   ·injection e with e1 _;rw[e1]
 byValue:=λk v h=>by
  rcases pG h with⟨i,t,rfl,rfl⟩ | ⟨x,t,rfl,rfl⟩ <;> rfl
 pyHash:=λhv h=>by
  rcases pG hv with⟨i,t,rfl,rfl⟩ | ⟨x,t,rfl,rfl⟩
  ·exact wpAny_pyHash_int h
  ·exact wpAny_pyHash_str h
 eqBool:=λhu hv h=>by
  rcases pG hu with⟨i,t,rfl,rfl⟩ | ⟨x,t,rfl,rfl⟩
  ·rcases pG hv with⟨j,u,rfl,rfl⟩ | ⟨y,u,rfl,rfl⟩
   ·rw[UQ]at h;exact TM h
   ·rw[US]at h;exact agC i t y u _ _ _ _ h
  ·rcases pG hv with⟨j,u,rfl,rfl⟩ | ⟨y,u,rfl,rfl⟩
   ·rw[UT]at h;exact agD x t j u _ _ _ _ h
   ·rw[UR]at h;exact wpAny_eqBool_str h
 «strs»:=λk x t v h=>by
  rcases pG h with⟨i,u,rfl,e⟩ | ⟨y,u,rfl,e⟩
  ·exact nomatch e
  ·injection e with e1 _
   subst e1;cases v <;> rfl
theorem UU(prog:Program)(w:World)(i:Int)(t:Tok):(jf prog w).is (.inl i) (.int i t)=true:=UO i t
theorem UW(prog:Program)(w:World)(x:Str)(t:Tok):(jf prog w).is (.inr x) (.str x t)=true:=UP x t
inductive V where
 |aE | bl (b:Bool) | int (i:Int) | str (x:Str) | xW (b:Array UInt8) | j9 (b:UInt64) | ref (a:Addr) | ty (n:String)
 deriving DecidableEq
def RelV:V->Value->Prop
 |.aE,u=>u=DS
 |.bl b,u=>u=xO b
 |.int i,u=>∃t,u=xN i t
 |.str x,u=>∃t,u=AX x t
 |.xW b,u=>∃t,u=Value.bytes b t
 |.j9 b,u=>∃t,u=Ls b t
 |.ref a,u=>u=gA a
 |.ty n,u=>u=ve n
abbrev bJ:List V->List Value->Prop:=Paired RelV
theorem bJ.length{xs:List V}{us:List Value}(r:bJ xs us):xs.length=us.length:=T7 r
theorem bJ.get:∀{xs:List V} {us:List Value} {i:Nat} {x:V},bJ xs us->xs[i]?=some x->∃u,us[i]?=some u/\RelV x u
 |_,_,_,_, .nil,e=>by simp at e
 |_,_,0,_, .cons r _,e=>by simp at e;subst e;exact⟨_,rfl,r⟩
 |_,_,i + 1,x, .cons _ t,e=>by
  obtain⟨u,h1,h2⟩:=bJ.get (i:=i) (x:=x) t (by simpa using e);exact⟨u,by simpa using h1,h2⟩
theorem bJ.set(r:RelV x u):∀{xs:List V} {us:List Value} (i:Nat),bJ xs us->bJ (xs.set i x) (us.set i u)
 |_,_,_, .nil=> .nil
 |_,_,0, .cons _ t=> .cons r t
 |_,_,i + 1, .cons q t=> .cons q (bJ.set r i t)
theorem bJ.append:∀{xs ys:List V} {us ws:List Value},bJ xs us->bJ ys ws->bJ (xs++ys) (us++ws)
 |_,_,_,_, .nil,s=>s
 |_,_,_,_, .cons r t,s=> .cons r (bJ.append t s)
theorem bJ.take:∀{xs:List V} {us:List Value} (n:Nat),bJ xs us->bJ (xs.take n) (us.take n)
 |_,_,0,_=> .nil
 |_,_,_ + 1, .nil=> .nil
 |_,_,n + 1, .cons r t=> .cons r (bJ.take n t)
theorem bJ.drop:∀{xs:List V} {us:List Value} (n:Nat),bJ xs us->bJ (xs.drop n) (us.drop n)
 |_,_,0,r=>r
 |_,_,_ + 1, .nil=> .nil
 |_,_,n + 1, .cons _ t=>bJ.drop n t
def jP:Option V->Option Value->Prop
 |some v,some u=>RelV v u
 |none,none=>True
 |_,_=>False
def KV{κ:Type}:List (κ×V)->List (κ×Value)->Prop:=Paired λ(p:κ×V) (q:κ×Value)=>p.1=q.1/\RelV p.2 q.2
noncomputable def kV:bw->V
 |.inl i=> .int i
 |.inr x=> .str x
inductive HO where
  |lst (xs:List V)
  |tup (xs:List V)
  |dK (ah:List (bw×V)) | dT (ah:List (List bw×V))
  |set (S:Int->Bool) (n:Nat)
  |ins (C dx:Addr) (fs:List (Str×V))
  |own (x:Addr)
  |xd (fs:List (Str×V))
  |met (f x:Addr)
  |D9 (lo hi:Int)
  |cD (o:Obj) (u:HO)
  |tN (ps:Array Value)
  |ext (φ:Heap->Prop)
noncomputable abbrev Hp:=Addr->Option HO
noncomputable def upd (H:Hp) (a:Addr) (o:HO):Hp:=λb=>if b=a then some o else H b
theorem eJ:upd H a o a=some o:=by unfold upd;rw[if_pos rfl]
theorem bA{H:Hp}(h:b≠a):upd H a o b=H b:=by unfold upd;rw[if_neg h]
theorem UX{H:Hp}(h:H a=some o)(h':H b=some u)(d:o≠u):a≠b:=by
 intro e;subst e;rw[h]at h';exact d (jI h')
theorem kL{H:Hp}(h:H a=some o)(h':H b=none):a≠b:=by
 intro e;subst e;rw[h]at h';cases h'
section
variable (P:Program)(w:World)
def fY(H:Hp)(h:Heap)(a:Addr):HO->Prop
 |.lst xs=>xs.length<=aM/\∃(au:List Value) (n:Nat),bJ xs au/\h.get? a=some { cls:= .type "list",data:= .seq au.toArray n }
 |.tup xs=>xs.length<=aM/\∃au:List Value,bJ xs au/\IsTup h a au.toArray
 |.dK ah=>ah.length<=aM/\(a == rD)=false/\∃vs,KV ah vs/\h.DictOf (jf P w) a vs
 |.dT ah=>ah.length<=aM/\(a == rD)=false/\∃xs:List (List bw×Addr×Value),
   Paired (λ(p:List bw×V) (q:List bw×Addr×Value)=>p.1=q.1/\H q.2.1=some (.tup (p.1.map kV))/\RelV p.2 q.2.2) ah xs/\
   ∃o es ep,h.get? a=some o/\o.ExactDict/\o.data= .dict es ep/\es.toList=xs.map (entryOfKey (AM (jf P w)))/\(xs.map (·.1)).Nodup
 |.set S n=>h.SetOf (intKind P w) a S n
 |.ins C dx fs=>H dx=some (.own a)/\fs.length<=1000/\dx≠a/\h.get? a=some (vf C dx)/\
   ∃mA,h.Ns1 dx mA/\(∀f,jP (fs.lookup f) (mA f))/\T8 mA (fs.map (·.1))
 |.own _=>∃o,h.get? a=some o
 |.xd fs=>∃mA,h.Ns1 a mA/\∀f,jP (fs.lookup f) (mA f)
 |.D9 lo hi=>∃t u v,h.get? a=some { cls:= .type "range",data:= .fields #[.int lo t, .int hi u, .int 1 v] }
 |.cD o u=>h.get? a=some o/\fY H h a u
 |.tN ps=>h.get? a=some { cls:= .none,data:= .fields ps }
 |.met f x=>h.get? a=some (T9 (.ref f) (.ref x))
 |.ext φ=>φ h/\(∃o,h.get? a=some o)/\∀h1 h2:Heap,φ h1->(∀o,h1.get? a=some o->h2.get? a=some o)->φ h2
def gT(H:Hp)(h:Heap):Prop:=∀a o,H a=some o->fY P w H h a o
end
section
variable {P:Program}{w:World}{H H':Hp}{h h':Heap}{a:Addr}{o:HO}
theorem fY.lt(x:fY P w H h a o):a < h.objs.size:=by
 cases o with
 |lst xs=>obtain⟨_,_,_,_,e⟩:=x;exact gk e
 |tup xs=>obtain⟨_,_,_,p⟩:=x;exact p.lt
 |dK ah=>obtain⟨_,_,_,_,o,_,_,e,_⟩:=x;exact gk e
 |dT ah=>obtain⟨_,_,_,_,o,_,_,e,_⟩:=x;exact gk e
 |set S n=>obtain⟨o,_,_,_,e,_⟩:=x;exact gk e
 |ins C dx fs=>obtain⟨_,_,_,e,_⟩:=x;exact gk e
 |own y=>obtain⟨_,e⟩:=x;exact gk e
 |xd fs=>obtain⟨_,⟨_,_,_,e,_⟩,_⟩:=x;exact gk e
 |D9 lo hi=>obtain⟨_,_,_,e⟩:=x;exact gk e
 |cD ob u=>obtain⟨e,_⟩:=x;exact gk e
 |tN ps=>exact gk (show h.get? a=some _ from x)
 |met f y=>exact gk (show h.get? a=some _ from x)
 |ext φ=>obtain⟨_,⟨_,e⟩,_⟩:=x;exact gk e
theorem Paired.Ea{α β:Type}{F G:α->β->Prop}:∀{l₁:List α} {l₂:List β},Paired F l₁ l₂->(∀a b,F a b->G a b)->Paired G l₁ l₂
 |_,_, .nil,_=> .nil
 |_,_, .cons r t,f=> .cons (f _ _ r) (Paired.Ea t f)
theorem fY.g9(x:fY P w H h a o)(k:∀b u,(b=a\/H b=some (.own a))->h.get? b=some u->h'.get? b=some u)
  (ho:∀b,H b=some (.own a)->H' b=some (.own a)) (ht:∀b xs,H b=some (.tup xs)->H' b=some (.tup xs)):fY P w H' h' a o:=by
 induction o with
 |lst xs=>obtain⟨z,au,n,r,e⟩:=x;exact⟨z,au,n,r,k _ _ (.inl rfl) e⟩
 |tup xs=>obtain⟨z,au,r,ob,e,c⟩:=x;exact⟨z,au,r,ob,k _ _ (.inl rfl) e,c⟩
 |dK ah=>obtain⟨z,y,vs,r,ob,es,ep,e,c⟩:=x;exact⟨z,y,vs,r,ob,es,ep,k _ _ (.inl rfl) e,c⟩
 |dT ah=>
  obtain⟨z,y,xs,r,ob,es,ep,e,c⟩:=x;exact⟨z,y,xs,Paired.Ea r λp q z=>⟨z.1,ht _ _ z.2.1,z.2.2⟩,ob,es,ep,k _ _ (.inl rfl) e,c⟩
 |set S n=>obtain⟨ob,es,ep,t,e,c⟩:=x;exact⟨ob,es,ep,t,k _ _ (.inl rfl) e,c⟩
 |ins C dx fs=>
  obtain⟨d,z,ne,e,mA,⟨od,es,ep,e2,c⟩,r⟩:=x;exact⟨ho _ d,z,ne,k _ _ (.inl rfl) e,mA,⟨od,es,ep,k _ _ (.inr d) e2,c⟩,r⟩
 |own y=>obtain⟨ob,e⟩:=x;exact⟨ob,k _ _ (.inl rfl) e⟩
 |xd fs=>obtain⟨mA,⟨od,es,ep,e,c⟩,r⟩:=x;exact⟨mA,⟨od,es,ep,k _ _ (.inl rfl) e,c⟩,r⟩
 |D9 lo hi=>obtain⟨t,u,v,e⟩:=x;exact⟨t,u,v,k _ _ (.inl rfl) e⟩
 |cD ob u ih=>obtain⟨e,q⟩:=x;exact⟨k _ _ (.inl rfl) e,ih q⟩
 |tN ps=>
  have e:h.get? a=some { cls:= .none,data:= .fields ps }:=x;show h'.get? a=some { cls:= .none,data:= .fields ps };exact k a _ (.inl rfl) e
 |met f y=>
  have e:h.get? a=some (T9 (.ref f) (.ref y)):=x;show h'.get? a=some (T9 (.ref f) (.ref y));exact k a _ (.inl rfl) e
 |ext φ=>obtain⟨p,⟨o,e⟩,st⟩:=x;exact⟨st _ _ p λo q=>k _ _ (.inl rfl) q,⟨o,k _ _ (.inl rfl) e⟩,st⟩
theorem gT.lt(x:gT P w H h)(e:H a=some o):a < h.objs.size:=(x a o e).lt
theorem gT.fresh(x:gT P w H h)(e:h.objs.size<=a):H a=none:=by
 cases q:H a with
 |none=>rfl
 |some u=>exact absurd (iu (x.lt q) e) (m9 _)
theorem gT.kept(x:gT P w H h)(k:∀b u,h.get? b=some u->h'.get? b=some u):gT P w H h':=λa o e=>
 (x a o e).g9 (λb u _ q=>k b u q) (λ_ q=>q) λ_ _ q=>q
theorem gT.laid(x:gT P w H h)(k:∀b u,h.get? b=some u->h'.get? b=some u)(hp:h.objs.size<=a)(new:fY P w (upd H a o) h' a o):gT P w (upd H a o) h':=λb u e=>by
 have hn:=x.fresh hp;by_cases hb:b=a
 ·subst hb;rw[eJ]at e;cases e;exact new
 ·rw[bA hb]at e;exact(x b u e).g9 (λc v _ q=>k c v q) (λc q=>by rw[bA (kL q hn)];exact q) λc xs q=>by rw[bA (kL q hn)];exact q
end
def Rd(H:Hp)(a:Addr)(u:HO):Prop:=H a=some u\/∃o,H a=some (.cD o u)
theorem Rd.ok{P:Program}{w:World}{H:Hp}{h:Heap}{a:Addr}(r:Rd H a u)(x:gT P w H h):fY P w H h a u:=by
 rcases r with r | ⟨o,r⟩
 ·exact x a u r
 ·obtain⟨_,q⟩:=x a _ r;exact q
def jC:Option HO->Prop
 |some (.lst _)=>True
 |some (.dK _)=>True
 |some (.dT _)=>True
 |some (.set _ _)=>True
 |some (.ins _ _ _)=>True
 |some (.ext _)=>True
 |_=>False
section
variable {P:Program}{w:World}{H:Hp}{h h':Heap}{x e:Addr}
theorem gT.write(ok:gT P w H h)(mu:jC (H x))(he:e=x\/H e=some (.own x))(k:∀b u,b≠e->h.get? b=some u->h'.get? b=some u)(vx:∃u,h'.get? e=some u)
  (new:fY P w (upd H x o') h' x o'):gT P w (upd H x o') h':=λb u q=>by
 have LZ:∀c y,H c=some (.own y)->c≠x:=λc y r z=>by subst z;rw[r]at mu;exact mu
 have UY:∀c xs,H c=some (.tup xs)->c≠x:=λc xs r z=>by subst z;rw[r]at mu;exact mu
 by_cases hb:b=x
 ·subst hb;rw[eJ]at q;cases q;exact new
 ·rw[bA hb]at q;by_cases tO:b=e
  ·have q':H b=some (.own x):=by
    rcases he with z | z
    ·exact absurd (tO.trans z) hb
    ·rw[tO];exact z
   rw[q]at q';cases q';obtain⟨v,hv⟩:=vx;exact⟨v,by rw[tO];exact hv⟩
  ·refine(ok b u q).g9 (λc v hc r=>k c v ?_ r) (λc r=>by rw[bA (LZ c b r)];exact r) λc xs r=>by rw[bA (UY c xs r)];exact r
   rcases hc with rfl | hc
   ·exact tO
   ·rintro rfl;rcases he with z | z
    ·exact LZ c b hc z
    ·rw[hc]at z;cases z;exact hb rfl
end
structure Un(fs ex:List Addr)(H H':Hp)(h h':Heap):Prop where
 keep:∀b o,h.get? b=some o->H b=none->b∉fs->b∉ex->h'.get? b=some o
 slot:∀b o,h.get? b=some o->H b=none->b∈fs->b∉ex->∃sl,h'.get? b=some { o with slots:=sl }
 free:∀b o,h.get? b=some o->H b=none->b∉ex->H' b=none
 there:∀b o,h.get? b=some o->b∉ex->∃o',h'.get? b=some o'
 pH:∀b xs,H b=some (.tup xs)->H' b=some (.tup xs)
 mC:∀b o u,H b=some (.cD o u)->H' b=some (.cD o u)
 pJ:∀b ps,H b=some (.tN ps)->∃more,H' b=some (.tN (ps++more))
section
variable {fs ahk ex L1:List Addr}{H H1 H2:Hp}{h h1 h2 h':Heap}{a x e:Addr}{o:HO}
theorem Un.any(u:Un fs ex H H1 h h1){ob:Obj}(q:h.get? b=some ob)(n:H b=none)(hx:b∉ex):∃sl,h1.get? b=some { ob with slots:=sl }:=by
 by_cases hb:b∈fs
 ·exact u.slot b ob q n hb hx
 ·exact⟨ob.slots,u.keep b ob q n hb hx⟩
theorem Un.kept(k:∀b u,h.get? b=some u->h'.get? b=some u):Un fs ex H H h h':=
 ⟨λb ob q _ _ _=>k b ob q,λb ob q _ _ _=>⟨ob.slots,k b ob q⟩,λ_ _ _ n _=>n,λb ob q _=>⟨ob,k b ob q⟩,λ_ _ q=>q,λ_ _ _ q=>q,λ_ ps q=>⟨#[],by rw[q];simp⟩⟩
theorem Un.refl:Un fs ex H H h h:=Un.kept λ_ _ q=>q
theorem Un.laid(k:∀b u,h.get? b=some u->h'.get? b=some u)(hp:h.objs.size<=a)(hn:H a=none):Un fs ex H (upd H a o) h h' where
 keep:=λb u q _ _ _=>k b u q
 slot:=λb u q _ _ _=>⟨u.slots,k b u q⟩
 free:=λb u q n _=>by rw[bA (jy (iu (gk q) hp))];exact n
 there:=λb u q _=>⟨u,k b u q⟩
 pH:=λb xs q=>by rw[bA (kL q hn)];exact q
 mC:=λb u xs q=>by rw[bA (kL q hn)];exact q
 pJ:=λb ps q=>⟨#[],by rw[bA (kL q hn),q];simp⟩
theorem Un.write(mu:jC (H x))(he:e=x\/H e=some (.own x))(k:∀b u,b≠e->h.get? b=some u->h'.get? b=some u)(vx:∃u,h'.get? e=some u):Un fs ex H (upd H x o) h h':=by
 have hx:∀b,H b=none->b≠x:=λb n z=>by subst z;rw[n]at mu;exact mu
 have hb:∀b,H b=none->b≠e:=λb n z=>by
  subst z;rcases he with r | r
  ·exact hx b n r
  ·rw[n]at r;cases r
 have hm:∀b u,H b=some u->¬ jC (some u)->b≠x:=λb u q nm z=>by subst z;rw[q]at mu;exact nm mu
 refine⟨λb u q n _ _=>k b u (hb b n) q,λb u q n _ _=>⟨u.slots,k b u (hb b n) q⟩,λb u q n _=>by rw[bA (hx b n)];exact n,λb u q _=> ?_,
  λb xs q=>by rw[bA (hm b _ q λz=>z)];exact q,λb u xs q=>by rw[bA (hm b _ q λz=>z)];exact q,λb ps q=>⟨#[],by rw[bA (hm b _ q λz=>z),q];simp⟩⟩
 by_cases tO:b=e
 ·subst tO;exact vx
 ·exact⟨u,k b u tO q⟩
end
noncomputable def vy (h:Heap) (H:Hp):List Addr:=(jJ h.objs.size).filter λa=>(H a).isSome
def qx(h:Heap)(H:Hp):Heap:=W.hideAll h (vy h H)
theorem UZ(h:Heap)(H:Hp):(qx h H).objs.size=h.objs.size:=W.hideAll_size _ _
theorem U0{h:Heap}{H:Hp}{o:Obj}(e:h.get? b=some o)(n:H b=none):(qx h H).get? b=some o:=
 W.hideAll_get _ e λhm=>by
  have q:(H b).isSome=true:=(mx.mp hm).2;rw[n]at q;simp at q
theorem U7{h:Heap}{H:Hp}{o:Obj}(e:(qx h H).get? b=some o):h.get? b=some o/\H b=none:=by
 have e':h.get? b=some o:=W.of_hideAll (vy h H) e;refine⟨e', ?_⟩;cases q:H b with
 |none=>rfl
 |some x=>
  have hm:b∈vy h H:=mx.mpr ⟨AY.mpr (gk e'),by simp[q]⟩;have z:(qx h H).get? b=none:=W.hideAll_none (vy h H) hm;rw[z]at e;cases e
structure Mod(K:aj)(mg:Str->Option Value)(base:Heap):Prop where
 xX:K.In base
 glob:base.Ns mv mg
 blt:∃mb,base.Ns Lb mb/\∀x:Str,x≠"__name__"->mb x=AN x
 nolimit:base.NoLimit
structure Cx where
 prog:Program
 w:World
 K:aj
 mg:Str->Option Value
 base:Heap
 A:Around
 N:List Str
 iO:Shared
 rJ:Hp
 env:Env
 outer:List Env
 stack:List Env
 ex:List Addr
 fn:Str->Bool
 calm:Bool
 pn:List (Addr×Obj)
 xe:Value->Shared->Prop
noncomputable def lO (l:List Env):List Addr:=l.filterMap (·.frame)
abbrev Cx.fs(X:Cx):List Addr:=lO X.outer
def Eb(sc:Scope)(x:Str):Prop:=sc.names.lookup x=some .local\/sc.names.lookup x=some .cell\/sc.names.lookup x=some .free
def Loc(sc:Scope)(x:Str):Prop:=sc.names.lookup x=some .local\/sc.names.lookup x=some .cell
def Look(env:Env)(h:Heap)(m:Str->Option Value)(x:Str)(u:Value):Prop:=
 (env.kindOf x=some .local/\m x=some u)\/((env.kindOf x=some .cell\/env.kindOf x=some .free)/\∃c,env.cells.lookup x=some c/\h.IsCell c (some u))
structure Cx.Ok(X:Cx):Prop where
 mod:Mod X.K X.mg X.base
 kind:X.env.scope.kind= .function
 glob:X.env.globals=mv
 blt:X.env.builtins=Lb
 above:X.iO.heap.objs.size<=X.env.locals
 inj:∀x y c,X.env.cells.lookup x=some c->X.env.cells.lookup y=some c->x=y
 has:∀x,(X.env.kindOf x=some .cell\/X.env.kindOf x=some .free)->∃c,X.env.cells.lookup x=some c
 xY:∀x c,X.fn x=true->X.env.cells.lookup x=some c->X.iO.heap.objs.size<=c
 hd:X.calm=true->X.A.handled=none
 frames:X.A.frames=some X.stack
 tP:X.stack=X.outer\/(X.stack=X.env::X.outer/\X.env.frame=some X.env.locals)
 L3:∀b∈X.ex,b≠X.env.locals/\∀x c,X.env.cells.lookup x=some c->c≠b
 bs:∀b o,X.base.get? b=some o->X.iO.heap.get? b=some o/\X.rJ b=none
 pK:X.base.objs.size<=X.iO.heap.objs.size
 xZ:∀b o,X.base.get? b=some o->b∉X.ex
 A7:∀b∈X.ex,b∉X.fs
 mE:X.iO.heap.FunFrames X.base X.outer
 rK:∀b∈X.fs,X.rJ b=none
structure Inv(X:Cx)(aa:List (Addr×Obj))(σ:List (Option V))(H:Hp)(s:Shared):Prop where
 ok:X.Ok
 os:s.os=X.iO.os
 bare:u1 s.gens
 base:Un X.fs X.ex X.rJ H X.iO.heap s.heap
 loc:∃m,s.heap.Ns X.env.locals m/\∀(i:Nat) (x:Str) (v:V),X.N[i]?=some x->σ[i]?=some (some v)->Eb X.env.scope x->∃u,RelV v u/\Look X.env s.heap m x u
 cell:∀x c,X.env.cells.lookup x=some c->∃v,s.heap.IsCell c v
 free:H X.env.locals=none
 nr:∀x c,X.env.cells.lookup x=some c->H c=none
 pin:∀p∈X.pn++aa,s.heap.get? p.1=some p.2/\H p.1=none/\p.1≠X.env.locals/\p.1∉X.fs/\∀v,p.2.data≠ .cell v
 ba:gT X.prog X.w H s.heap
 len:σ.length=X.N.length
section
variable {X:Cx}{aa:List (Addr×Obj)}{σ:List (Option V)}{H H':Hp}{s:Shared}
theorem Cx.Ok.U8(ok:X.Ok){o:Obj}(e:X.base.get? b=some o):b∉X.fs:=λhb=>by
 have:=(ok.mE.mem hb).1;rw[e]at this;cases this
theorem Inv.bs(I:Inv X aa σ H s):∀b o,X.base.get? b=some o->s.heap.get? b=some o/\H b=none:=λb o e=>
 ⟨I.base.keep b o (I.ok.bs b o e).1 (I.ok.bs b o e).2 (I.ok.U8 e) (I.ok.xZ b o e),I.base.free b o (I.ok.bs b o e).1 (I.ok.bs b o e).2 (I.ok.xZ b o e)⟩
theorem Inv.bk(I:Inv X aa σ H s):∀b o,X.base.get? b=some o->s.heap.get? b=some o:=λb o e=>(I.bs b o e).1
theorem Inv.mod(I:Inv X aa σ H s):Mod X.K X.mg X.base:=I.ok.mod
theorem Inv.gg(I:Inv X aa σ H s):X.K.In s.heap:=I.ok.mod.xX.keeps I.bk
theorem Inv.lt(I:Inv X aa σ H s):X.env.locals < s.heap.objs.size:=let ⟨_,hn,_⟩:=I.loc;hn.lt
theorem Inv.sz(I:Inv X aa σ H s):X.iO.heap.objs.size<=s.heap.objs.size:=bO I.ok.above (tq I.lt)
theorem Inv.Ec(I:Inv X aa σ H s){a:Addr}(h:s.heap.objs.size<=a):a∉X.fs:=λhb=>by
 obtain⟨_,o,ho,_⟩:=I.ok.mE.mem hb;exact absurd (iu (gk ho) (bO I.sz h)) (m9 _)
theorem Inv.tQ(I:Inv X aa σ H s):∀x c,X.env.cells.lookup x=some c->c≠X.env.locals:=λx c e z=>by
 obtain⟨v,o,ho,hd⟩:=I.cell x c e;obtain⟨m,⟨o',es,ep,jQ,qy,_⟩,_⟩:=I.loc;rw[z,jQ]at ho;cases ho;rw[qy]at hd;cases hd
theorem Inv.mE(I:Inv X aa σ H s):s.heap.FunFrames X.base X.outer:=by
 have all:∀(l:List Env),(∀b∈lO l,b∈X.fs)->X.iO.heap.FunFrames X.base l->s.heap.FunFrames X.base l:=by
  intro l
  induction l with
  |nil=>intro _ _;trivial
  |cons env r ih=>
   intro hs hl;obtain⟨hk,⟨L,o,hf,hn,ho,hd⟩,hr⟩:=hl;have hL:L∈X.fs:=hs L (by unfold lO;rw[Ua,hf];exact tu);obtain⟨sl,e⟩:=I.base.slot L o ho (I.ok.rK L hL) hL λz=>I.ok.A7 L z hL;exact⟨hk,⟨L,_,hf,hn,e,hd⟩,ih (λb hb=>hs b (by unfold lO;rw[Ua,hf];exact my _ hb)) hr⟩
 exact all X.outer (λ_ hb=>hb) I.ok.mE
theorem Inv.stack(I:Inv X aa σ H s):s.heap.FunFrames X.base X.stack:=by
 rcases I.ok.tP with e | ⟨e,hf⟩
 ·rw[e];exact I.mE
 ·rw[e];obtain⟨m,hn,_⟩:=I.loc;refine .cons (by rw[I.ok.kind];decide) hf hn ?_ I.mE;exact Heap.get?_none_of_le (bO I.ok.pK I.ok.above)
theorem Inv.ya(I:Inv X aa σ H s):∀b∈lO X.stack,b∈X.env.locals::X.fs:=λb hb=>by
 rcases I.ok.tP with e | ⟨e,hf⟩
 ·rw[e]at hb;exact my _ hb
 ·rw[e]at hb;unfold lO at hb;rw[Ua,hf]at hb;exact hb
theorem Inv.L4(I:Inv X aa σ H s):∀b∈lO X.stack,H b=none:=λb hb=>by
 rcases fX.mp (I.ya b hb) with e | hb
 ·rw[e];exact I.free
 ·obtain⟨_,o,ho,_⟩:=I.ok.mE.mem hb;exact I.base.free b o ho (I.ok.rK b hb) λz=>I.ok.A7 b z hb
theorem Inv.step{g':Array GenState}{t':Nat}{d':Drawn}{ch:List Addr}(I:Inv X aa σ H s)
  (rL:∀b∈ch,(b∈X.ex\/X.iO.heap.objs.size<=b)/\b≠X.env.locals/\(∀x c,X.env.cells.lookup x=some c->c≠b)/\∀p∈X.pn++aa,p.1≠b)
  (keep:∀b o,b≠X.env.locals->b∉X.fs->b∉ch->s.heap.get? b=some o->H b=none->h'.get? b=some o)
  (slot:∀b o,b≠X.env.locals->b∈X.fs->b∉ch->s.heap.get? b=some o->H b=none->∃sl,h'.get? b=some { o with slots:=sl }) (free:∀b o,b∉ch->s.heap.get? b=some o->H b=none->H' b=none)
  (there:∀b o,b∉ch->s.heap.get? b=some o->∃o',h'.get? b=some o')
  (pH:∀b xs,H b=some (.tup xs)->H' b=some (.tup xs)) (mC:∀b o u,H b=some (.cD o u)->H' b=some (.cD o u)) (pJ:∀b ps,H b=some (.tN ps)->∃more,H' b=some (.tN (ps++more)))
  (ns:∀m,s.heap.Ns X.env.locals m->h'.Ns X.env.locals m) (ba:gT X.prog X.w H' h') (hg:u1 g'):
  Inv X aa σ H' { s with heap:=h',gens:=g',drawn:=d',toks:=t' }:=by
 have og:∀b o,X.iO.heap.get? b=some o->b≠X.env.locals:=λb o e=>jy (iu (gk e) I.ok.above);have A8:∀b o,X.iO.heap.get? b=some o->b∉X.ex->b∉ch:=λb o e hx hb=>by
  rcases(rL b hb).1 with z | z
  ·exact hx z
  ·exact absurd (iu (gk e) z) (m9 _)
 have cellK:∀x c,X.env.cells.lookup x=some c->∀v,s.heap.IsCell c v->h'.IsCell c v:=λx c e v ⟨o,ho,hd⟩=>by
  have yb:c∉ch:=λz=>(rL c z).2.2.1 x c e rfl;by_cases hc:c∈X.fs
  ·obtain⟨sl,q⟩:=slot c o (I.tQ x c e) hc yb ho (I.nr x c e);exact⟨_,q,hd⟩
  ·exact⟨o,keep c o (I.tQ x c e) hc yb ho (I.nr x c e),hd⟩
 refine⟨I.ok,I.os,hg,⟨λb o e n hb hx=> ?_,λb o e n hb hx=> ?_,λb o e n hx=> ?_,λb o e hx=> ?_,λb xs e=>pH b xs (I.base.pH b xs e),λb o xs e=>mC b o xs (I.base.mC b o xs e),λb ps e=> ?_⟩, ?_,λx c e=> ?_, ?_,λx c e=> ?_,λp hp=> ?_,ba,I.len⟩
 ·exact keep b o (og b o e) hb (A8 b o e hx) (I.base.keep b o e n hb hx) (I.base.free b o e n hx)
 ·obtain⟨sl,e1⟩:=I.base.slot b o e n hb hx;obtain⟨Ed,e2⟩:=slot b _ (og b o e) hb (A8 b o e hx) e1 (I.base.free b o e n hx);exact⟨Ed,e2⟩
 ·obtain⟨o',e1⟩:=I.base.there b o e hx;exact free b o' (A8 b o e hx) e1 (I.base.free b o e n hx)
 ·obtain⟨o',e1⟩:=I.base.there b o e hx;exact there b o' (A8 b o e hx) e1
 ·obtain⟨m1,e1⟩:=I.base.pJ b ps e;obtain⟨m2,e2⟩:=pJ b _ e1;exact⟨m1++m2,by rw[e2,Array.append_assoc]⟩
 ·obtain⟨m,hn,hl⟩:=I.loc;refine⟨m,ns m hn,λi x v e1 e2 e3=> ?_⟩;obtain⟨u,r,l⟩:=hl i x v e1 e2 e3;refine⟨u,r, ?_⟩;rcases l with l | ⟨k,c,e,z⟩
  ·exact .inl l
  ·exact .inr ⟨k,c,e,cellK x c e _ z⟩
 ·obtain⟨v,z⟩:=I.cell x c e;exact⟨v,cellK x c e v z⟩
 ·obtain⟨m,⟨o,_,_,ho,_⟩,_⟩:=I.loc;exact free _ o (λz=>(rL _ z).2.1 rfl) ho I.free
 ·obtain⟨v,o,ho,hd⟩:=I.cell x c e;exact free c o (λz=>(rL c z).2.2.1 x c e rfl) ho (I.nr x c e)
 ·obtain⟨e,n,ne,nf,d⟩:=I.pin p hp;have yb:p.1∉ch:=λz=>(rL p.1 z).2.2.2 p hp rfl;exact⟨keep p.1 p.2 ne nf yb e n,free p.1 p.2 yb e n,ne,nf,d⟩
theorem Inv.un{t':Nat}(I:Inv X aa σ H s)(u:Un X.fs [] H H' s.heap h')(ba:gT X.prog X.w H' h'):Inv X aa σ H' { s with heap:=h',toks:=t' }:=by
 obtain⟨m,⟨o,es,ep,ho,r⟩,_⟩:=id I.loc;obtain⟨sl,hL⟩:=u.any ho I.free (by simp);exact I.step (g':=s.gens) (d':=s.drawn) (ch:= []) (λ_ z=>nomatch z) (λb o _ hb _ e n=>u.keep b o e n hb (by simp)) (λb o _ hb _ e n=>u.slot b o e n hb (by simp)) (λb o _ e n=>u.free b o e n (by simp)) (λb o _ e=>u.there b o e (by simp)) u.pH u.mC u.pJ (λm' hm=>by
  obtain⟨o',A9,Ba,jQ,r'⟩:=hm;rw[ho]at jQ;cases jQ;exact⟨_,A9,Ba,hL,r'⟩) ba I.bare
theorem Inv.call{t':Nat}{d':Drawn}(I:Inv X aa σ H s)(u:Un (lO X.stack) ch H H' s.heap h')(ba:gT X.prog X.w H' h')(hg:u1 g')
  (rL:∀b∈ch,(b∈X.ex\/X.iO.heap.objs.size<=b)/\b≠X.env.locals/\(∀x c,X.env.cells.lookup x=some c->c≠b)/\∀p∈X.pn++aa,p.1≠b):
  Inv X aa σ H' { s with heap:=h',gens:=g',drawn:=d',toks:=t' }:=by
 obtain⟨m,⟨o,es,ep,ho,r⟩,_⟩:=id I.loc;obtain⟨sl,hL⟩:=u.any ho I.free λz=>(rL _ z).2.1 rfl;exact I.step (ch:=ch) rL (λb o hL hb hc e n=>u.keep b o e n (λz=>(fX.mp (I.ya b z)).elim hL hb) hc) (λb o _ _ hc e n=>u.any e n hc) (λb o hc e n=>u.free b o e n hc) (λb o hc e=>u.there b o e hc) u.pH u.mC u.pJ (λm' hm=>by
  obtain⟨o',A9,Ba,jQ,r'⟩:=hm;rw[ho]at jQ;cases jQ;exact⟨_,A9,Ba,hL,r'⟩) ba hg
theorem Inv.turned{t':Nat}(I:Inv X aa σ H s)(k:∀b o,b≠it->s.heap.get? b=some o->h'.get? b=some o)(hn:H it=none)(hL:it≠X.env.locals)
  (h1:it∈X.ex\/X.iO.heap.objs.size<=it) (h2:∀x c,X.env.cells.lookup x=some c->c≠it) (h3:∀p∈X.pn++aa,p.1≠it):Inv X aa σ H { s with heap:=h',toks:=t' }:=by
 have L5:∀b u,H b=some u->b≠it:=λb u e z=>by rw[z,hn]at e;cases e
 refine I.step (g':=s.gens) (d':=s.drawn) (ch:= [it]) (λb hb=> ?_) (λb o _ _ hc e _=>k b o (λz=>hc (by simp[z])) e) (λb o _ _ hc e _=>⟨o.slots,k b o (λz=>hc (by simp[z])) e⟩) (λ_ _ _ _ n=>n)
  (λb o hc e=>⟨o,k b o (λz=>hc (by simp[z])) e⟩) (λ_ _ e=>e) (λ_ _ _ e=>e) (λb ps e=>⟨#[],by rw[e];simp⟩) (λm hm=> ?_) (λb u e=> ?_) I.bare
 ·have e:b=it:=by simpa using hb
  subst e;exact⟨h1,hL,h2,h3⟩
 ·obtain⟨o,es,ep,ho,r⟩:=hm;exact⟨o,es,ep,k _ o (jO hL) ho,r⟩
 ·refine(I.ba b u e).g9 (λc v hc q=>k c v ?_ q) (λ_ q=>q) λ_ _ q=>q;rcases hc with z | z
  ·rw[z];exact L5 b u e
  ·exact L5 c _ z
theorem Inv.tok(I:Inv X aa σ H s)(t:Nat):Inv X aa σ H { s with toks:=t }:=I.un (h':=s.heap) (t':=t) Un.refl I.ba
theorem Inv.kept{t':Nat}(I:Inv X aa σ H s)(k:∀b u,s.heap.get? b=some u->h'.get? b=some u):Inv X aa σ H { s with heap:=h',toks:=t' }:=I.un (Un.kept k) (I.ba.kept k)
theorem Inv.laid{a:Addr}{o:HO}{t':Nat}(I:Inv X aa σ H s)(k:∀b u,s.heap.get? b=some u->h'.get? b=some u)(hp:s.heap.objs.size<=a)(new:fY X.prog X.w (upd H a o) h' a o):
  Inv X aa σ (upd H a o) { s with heap:=h',toks:=t' }:=I.un (Un.laid k hp (I.ba.fresh hp)) (I.ba.laid k hp new)
theorem Inv.write{x e:Addr}{o:HO}{t':Nat}(I:Inv X aa σ H s)(mu:jC (H x))(he:e=x\/H e=some (.own x))(k:∀b u,b≠e->s.heap.get? b=some u->h'.get? b=some u)(vx:∃u,h'.get? e=some u)
  (new:fY X.prog X.w (upd H x o) h' x o):Inv X aa σ (upd H x o) { s with heap:=h',toks:=t' }:=I.un (Un.write mu he k vx) (I.ba.write mu he k vx new)
theorem Inv.yc(I:Inv X aa σ H s)(h:∀p∈U9,s.heap.get? p.1=some p.2/\H p.1=none/\p.1≠X.env.locals/\p.1∉X.fs/\∀v,p.2.data≠ .cell v):Inv X U9 σ H s:=
 ⟨I.ok,I.os,I.bare,I.base,I.loc,I.cell,I.free,I.nr,λp hp=>(kG.mp hp).elim (λz=>I.pin p (DT _ z)) (h p),I.ba,I.len⟩
theorem L7{N:List Str}(hN:N.Nodup){i j:Nat}{x:Str}(a:N[i]?=some x)(b:N[j]?=some x):i=j:=by
 obtain⟨h1,e1⟩:=bW.mp a;obtain⟨h2,e2⟩:=bW.mp b;exact(List.getElem_inj hN).mp (e1.trans e2.symm)
theorem Va{M:Model}{A:Around}{E:Value->Shared->Prop}{i:Nat}{x:Str}{v:V}{u:Value}{Q:Unit->Shared->Prop}(I:Inv X aa σ H s)(hN:X.N.Nodup)(hi:X.N[i]?=some x)(hx:Loc X.env.scope x)(r:RelV v u)
  (h:∀s',Inv X aa (σ.set i (some v)) H s'->(∃a,Lu a s.heap s'.heap/\(a=X.env.locals\/X.env.cells.lookup x=some a))->Q () s') (hf:X.fn x=true\/X.env.scope.names.lookup x=some .local:=by first | exact .inl rfl | exact .inr rfl | assumption):wpAny M A (storeName X.env x u) Q E s:=by
 obtain⟨m,hn,hl⟩:=id I.loc;have Vb:(X.env.scope.kind == .class || (X.env.scope.kind == .module && X.env.locals != X.env.globals))=false:=by rw[I.ok.kind];rfl
 have L8:i < σ.length:=by rw[I.len];exact(bW.mp hi).1
 have tQ:=I.tQ;have tracked:∀{a:Addr} {h':Heap},(∃o,s.heap.get? a=some o/\H a=none)->Lu a s.heap h'->gT X.prog X.w H h':=λ{a h'} ha hs b ob e=>by
  obtain⟨_,_,vz⟩:=ha;refine(I.ba b ob e).g9 (λc w' hc q=>(hs.2 c ?_).trans q) (λ_ q=>q) λ_ _ q=>q;rintro rfl;rcases hc with rfl | hc
  ·rw[vz]at e;cases e
  ·rw[vz]at hc;cases hc
 rcases hx with hk | hk
 ·refine wpAny_storeName_local hk hn (λh' Vc hs=> ?_) Vb;obtain⟨oL,_,_,Vd,_⟩:=id hn;refine h _ ⟨I.ok,I.os,I.bare,⟨λb o e n hb hx=> ?_,λb o e n hb hx=> ?_,I.base.free,λb o e hx=> ?_,I.base.pH,I.base.mC,I.base.pJ⟩,⟨_,Vc,λj y v' e1 e2 e3=> ?_⟩,λy c e=> ?_,I.free,I.nr,λp hp=> ?_,tracked ⟨oL,Vd,I.free⟩ hs,by simpa using I.len⟩ ⟨_,hs, .inl rfl⟩
  ·exact(hs.2 b (jy (iu (gk e) I.ok.above))).trans (I.base.keep b o e n hb hx)
  ·obtain⟨sl,e1⟩:=I.base.slot b o e n hb hx;exact⟨sl,(hs.2 b (jy (iu (gk e) I.ok.above))).trans e1⟩
  ·obtain⟨o',e1⟩:=I.base.there b o e hx;exact⟨o',(hs.2 b (jy (iu (gk e) I.ok.above))).trans e1⟩
  ·by_cases hj:j=i
   ·subst hj;rw[hi]at e1;cases e1;rw[eY L8]at e2;cases e2;exact⟨u,r, .inl ⟨hk,by simp⟩⟩
   ·rw[gm (jO hj)]at e2;obtain⟨u',r',q⟩:=hl j y v' e1 e2 e3;refine⟨u',r', ?_⟩;rcases q with⟨k,e⟩ | ⟨k,c,e,z⟩
    ·refine .inl ⟨k, ?_⟩;have:y≠x:=λe=>hj (L7 hN e1 (e▸hi));simp[this,e]
    ·exact .inr ⟨k,c,e,z.sameBut hs (tQ y c e)⟩
  ·obtain⟨w',z⟩:=I.cell y c e;exact⟨w',z.sameBut hs (tQ y c e)⟩
  ·obtain⟨e,n,ne,nf,d⟩:=I.pin p hp;exact⟨(hs.2 p.1 ne).trans e,n,ne,nf,d⟩
 ·have Ee:X.fn x=true:=by
   rcases hf with z | z
   ·exact z
   ·rw[z]at hk;cases hk
  obtain⟨c,hc⟩:=I.ok.has x (.inl hk);obtain⟨w',z⟩:=I.cell x c hc;refine wpAny_storeName_cell I.ok.kind hk hc z (λh' qz hs=> ?_);obtain⟨oc,L9,Ve⟩:=id z;refine h { s with heap:=h' } ⟨I.ok,I.os,I.bare,⟨λb o e n hb hx=> ?_,λb o e n hb hx=> ?_,I.base.free,λb o e hx=> ?_,I.base.pH,I.base.mC,I.base.pJ⟩,⟨m,hn.sameBut hs (jO (tQ x c hc)),λj y v' e1 e2 e3=> ?_⟩,λy c' e=> ?_,I.free,I.nr,λp hp=> ?_,tracked ⟨oc,L9,I.nr x c hc⟩ hs,by simpa using I.len⟩ ⟨c,hs, .inr hc⟩
  ·exact(hs.2 b (jy (iu (gk e) (I.ok.xY x c Ee hc)))).trans (I.base.keep b o e n hb hx)
  ·obtain⟨sl,e1⟩:=I.base.slot b o e n hb hx;exact⟨sl,(hs.2 b (jy (iu (gk e) (I.ok.xY x c Ee hc)))).trans e1⟩
  ·obtain⟨o',e1⟩:=I.base.there b o e hx;exact⟨o',(hs.2 b (jy (iu (gk e) (I.ok.xY x c Ee hc)))).trans e1⟩
  ·by_cases hj:j=i
   ·subst hj;rw[hi]at e1;cases e1;rw[eY L8]at e2;cases e2;exact⟨u,r, .inr ⟨.inl hk,c,hc,qz⟩⟩
   ·rw[gm (jO hj)]at e2;obtain⟨u',r',q⟩:=hl j y v' e1 e2 e3;refine⟨u',r', ?_⟩;rcases q with q | ⟨k,c',e,z'⟩
    ·exact .inl q
    ·refine .inr ⟨k,c',e,z'.sameBut hs ?_⟩;rintro rfl;exact hj (L7 hN e1 (I.ok.inj _ _ _ e hc▸hi))
  ·by_cases Ma:c'=c
   ·subst Ma;exact⟨_,qz⟩
   ·obtain⟨w2,z2⟩:=I.cell y c' e;exact⟨w2,z2.sameBut hs Ma⟩
  ·obtain⟨e,n,ne,nf,d⟩:=I.pin p hp;refine⟨(hs.2 p.1 ?_).trans e,n,ne,nf,d⟩;intro q;rw[q,L9]at e;have q':oc=p.2:=jI e;exact d w' (by rw[<- q'];exact Ve)
theorem Ef{M:Model}{A:Around}{E:Value->Shared->Prop}{x:Str}{Q:Unit->Shared->Prop}(I:Inv X aa σ H s)(hN:X.N.Nodup)(hi:X.N[i]?=some x)(hx:Loc X.env.scope x)(r:RelV v u)
  (h:∀s',Inv X aa (σ.set i (some v)) H s'->Q () s') (hf:X.fn x=true\/X.env.scope.names.lookup x=some .local:=by first | exact .inl rfl | exact .inr rfl | assumption):wpAny M A (storeName X.env x u) Q E s:=
 Va I hN hi hx r (λs' I' _=>h s' I') hf
end
abbrev XK:=Value->Option Addr->Hp->Prop
noncomputable abbrev St:=List (Option V)
abbrev VK:=V->Hp->Prop
abbrev TE:=St->Hp->VK->Prop
abbrev TT:=St->Hp->(Bool->Hp->Prop)->Prop
abbrev TA:=St->Hp->(List V->Hp->Prop)->Prop
structure lK where
 nx:St->Hp->Prop
 rt:VK
 bk:St->Hp->Prop:=λ_ _=>False
 ct:St->Hp->Prop:=λ_ _=>False
abbrev TS:=lK->St->Hp->Prop
def EP(X:Cx)(aa:List (Addr×Obj))(σ:St)(Q:VK)(u:Value)(s':Shared):Prop:=∃v H',Inv X aa σ H' s'/\RelV v u/\Q v H'
def TP(X:Cx)(aa:List (Addr×Obj))(σ:St)(Q:Bool->Hp->Prop)(b:Bool)(s':Shared):Prop:=∃H',Inv X aa σ H' s'/\Q b H'
def AP(X:Cx)(aa:List (Addr×Obj))(σ:St)(Q:List V->Hp->Prop)(us:List Value)(s':Shared):Prop:=∃vs H',Inv X aa σ H' s'/\bJ vs us/\Q vs H'
def SP(X:Cx)(aa:List (Addr×Obj))(D:lK)(f:Flow)(s':Shared):Prop:=
 match f with
 |.next=>∃aN H',Inv X aa aN H' s'/\D.nx aN H'
 |.brk=>∃aN H',Inv X aa aN H' s'/\D.bk aN H'
 |.cont=>∃aN H',Inv X aa aN H' s'/\D.ct aN H'
 |.ret u=>∃v aN H',Inv X aa aN H' s'/\RelV v u/\D.rt v H'
def PE(X:Cx)(e:Expr)(t:TE):Prop:=
 ∀(aa:List (Addr×Obj)) (s:Shared) (σ:St) (H:Hp) (Q:VK),Inv X aa σ H s->t σ H Q->wpAny (model X.prog X.w) X.A (eval e X.env) (EP X aa σ Q) X.xe s
def PT(X:Cx)(e:Expr)(t:TT):Prop:=
 ∀(aa:List (Addr×Obj)) (s:Shared) (σ:St) (H:Hp) (Q:Bool->Hp->Prop),Inv X aa σ H s->t σ H Q->wpAny (model X.prog X.w) X.A (isTrue e X.env (eval e X.env)) (TP X aa σ Q) X.xe s
def PW(X:Cx)(e:Expr)(t:TT):Prop:=
 ∀(whole:Sem Value) (aa:List (Addr×Obj)) (s:Shared) (σ:St) (H:Hp) (Q:Bool->Hp->Prop),Inv X aa σ H s->t σ H Q->wpAny (model X.prog X.w) X.A (isTrue e X.env whole) (TP X aa σ Q) X.xe s
theorem PW.pt{X:Cx}{e:Expr}(h:PW X e t):PT X e t:=h _
def PA(X:Cx)(es:List Expr)(t:TA):Prop:=
 ∀(pos:Pos) (aa:List (Addr×Obj)) (s:Shared) (σ:St) (H:Hp) (Q:List V->Hp->Prop),Inv X aa σ H s->t σ H Q->wpAny (model X.prog X.w) X.A (spliced (backTo pos (dh es X.env))) (AP X aa σ Q) X.xe s
def PS(X:Cx)(st:Stmt)(t:TS):Prop:=
 ∀(aa:List (Addr×Obj)) (s:Shared) (σ:St) (H:Hp) (D:lK),Inv X aa σ H s->t D σ H->wpAny (model X.prog X.w) X.A (exec st X.env) (SP X aa D) X.xe s
def kM(X:Cx)(st:List Stmt)(t:TS):Prop:=
 ∀(aa:List (Addr×Obj)) (s:Shared) (σ:St) (H:Hp) (D:lK),Inv X aa σ H s->t D σ H->wpAny (model X.prog X.w) X.A (execs st X.env) (SP X aa D) X.xe s
theorem bP{α:Type}{t:Sem α}{Q Q':α->Shared->Prop}{M:Model}{A:Around}{E:Value->Shared->Prop}{s:Shared}(h:wpAny M A t Q E s)(hQ:∀a s,Q a s->Q' a s):wpAny M A t Q' E s:=lq h hQ λ_ _ x=>x
section
variable {X:Cx}
def jh(i:Nat):TE:=λσ H Q=>∃v,σ[i]?=some (some v)/\Q v H
def tC(v:V):TE:=λ_ H Q=>Q v H
theorem Vf{x:Str}{pos:Pos}(hN:X.N[i]?=some x)(hv:Eb X.env.scope x)(hd:(x == ("__debug__":Str))=false:=by decide)(oh:(x == ("__classdict__":Str))=false:=by decide):PE X (.Name x pos) (jh i):=by
 intro aa s σ H Q I h;obtain⟨v,e,h⟩:=h;obtain⟨m,hn,hl⟩:=I.loc;obtain⟨u,r,l⟩:=hl i x v hN e hv;have dD:EP X aa σ Q u s:=⟨v,H,I,r,h⟩
 rcases l with⟨hk,hm⟩ | ⟨hk,c,hc,pN⟩
 ·exact wpAny_Name (wpAny_loadName_local I.ok.kind hk hn hm dD) hd
 ·rcases hk with hk | hk
  ·exact wpAny_Name (wpAny_loadName_cell I.ok.kind hk hc pN dD) hd
  ·exact wpAny_Name (wpAny_loadName_free I.ok.kind hk hc pN dD oh) hd
theorem aX{i j pos}:PE X (.Constant (.int i) j pos) (tC (.int i)):=λ_ _ _ H _ I h=>wpAny_Constant_int ⟨.int i,H,I.tok _,⟨_,rfl⟩,h⟩
theorem vA{b j pos}:PE X (.Constant (.bool b) j pos) (tC (.bl b)):=λ_ _ _ H _ I h=>Constant_bool ⟨.bl b,H,I,rfl,h⟩
theorem vB{j pos}:PE X (.Constant .none j pos) (tC .aE):=λ_ _ _ H _ I h=>Constant_none ⟨.aE,H,I,rfl,h⟩
theorem aJ{x j pos}:PE X (.Constant (.str x) j pos) (tC (.str x)):=λ_ _ _ H _ I h=>Calls.Constant_str ⟨.str x,H,I.tok _,⟨_,rfl⟩,h⟩
def Gl(X:Cx)(x:Str):Prop:=X.env.kindOf x=some .globalImplicit
theorem Eg{E:Value->Shared->Prop}{aa:List (Addr×Obj)}{s:Shared}{σ:St}{H:Hp}{x:Str}{pos:Pos}{Q:Value->Shared->Prop}(I:Inv X aa σ H s)(hg:Gl X x)(hm:X.mg x=some u)(h:Q u s)
  (hd:(x == ("__debug__":Str))=false:=by decide):wpAny (model X.prog X.w) X.A (eval (.Name x pos) X.env) Q E s:=
 agE I.ok.kind hg (Calls.loadGlobal_global (by rw[I.ok.glob];exact I.mod.glob.keeps I.bk) hm h) hd
theorem vC{E:Value->Shared->Prop}{aa:List (Addr×Obj)}{s:Shared}{σ:St}{H:Hp}{x:Str}{pos:Pos}{Q:Value->Shared->Prop}(I:Inv X aa σ H s)(hg:Gl X x)(hm:X.mg x=none)(hv:AN x=some u)(h:Q u s)
  (hn:x≠"__name__":=by decide) (hd:(x == ("__debug__":Str))=false:=by decide):wpAny (model X.prog X.w) X.A (eval (.Name x pos) X.env) Q E s:=by
 obtain⟨mb,h1,h2⟩:=I.mod.blt;exact agE I.ok.kind hg (Calls.loadGlobal_builtin (by rw[I.ok.glob];exact I.mod.glob.keeps I.bk) hm (by rw[I.ok.blt];exact h1.keeps I.bk) ((h2 x hn).trans hv) h) hd
theorem vD{x:Str}{pos:Pos}(hg:Gl X x)(hm:X.mg x=none)(hv:AN x=some u)(r:RelV v u)(hn:x≠"__name__":=by decide)(hd:(x == ("__debug__":Str))=false:=by decide):PE X (.Name x pos) (tC v):=
 λ_ _ _ H _ I h=>vC I hg hm hv ⟨v,H,I,r,h⟩ hn hd
variable {a b:Expr}{ta tb:TE}{pos:Pos}
def tB(t:TE):TT:=λσ H Q=>t σ H λx H1=>∃c,x= .bl c/\Q c H1
theorem pO{e:Expr}{t:TE}(h:PE X e t)(he:∀whole,isTrue e X.env whole=(do let v <- whole;AO e.pos;holding [v] (truthy v)):=by intro _;rfl):PT X e (tB t):=by
 intro aa s σ H Q I hw;refine isTrue_plain (bP (h aa s σ H _ I hw) λv s1 ⟨x,H1,I1,r1,q1⟩=> ?_) (he _);obtain⟨d,rfl,q⟩:=q1;cases r1;exact xD ⟨H1,I1,q⟩
variable {tA Bb:TT}{rest:List Expr}
def Eh(t u:TT):TT:=λσ H Q=>t σ H λc H1=>if c=true then u σ H1 Q else Q false H1
def Ei(t u:TT):TT:=λσ H Q=>t σ H λc H1=>if c=true then Q true H1 else u σ H1 Q
def Mb(t:TT):TT:=λσ H Q=>t σ H λc H1=>Q (!c) H1
theorem rM(ha:PT X a tA):PW X (.BoolOp .And [a] pos) tA:=by
 intro wh aa s σ H Q I h;refine isTrue_and (bP (ha aa s σ H Q I h) λc s1 e=> ?_);cases c with
 |true=>exact isTrue_and_nil e
 |false=>exact e
theorem ye(ha:PT X a tA):PW X (.BoolOp .Or [a] pos) tA:=by
 intro wh aa s σ H Q I h;refine isTrue_or (bP (ha aa s σ H Q I h) λc s1 e=> ?_);cases c with
 |false=>exact isTrue_or_nil e
 |true=>exact e
theorem om(ha:PT X a tA)(hb:PW X (.BoolOp .And (b::rest) pos) Bb):PW X (.BoolOp .And (a::b::rest) pos) (Eh tA Bb):=by
 intro wh aa s σ H Q I h;refine isTrue_and (bP (ha aa s σ H _ I h) λc s1 ⟨H1,I1,q1⟩=> ?_);cases c with
 |true=>exact hb wh aa s1 σ H1 Q I1 q1
 |false=>exact⟨H1,I1,q1⟩
theorem yf(ha:PT X a tA)(hb:PW X (.BoolOp .Or (b::rest) pos) Bb):PW X (.BoolOp .Or (a::b::rest) pos) (Ei tA Bb):=by
 intro wh aa s σ H Q I h;refine isTrue_or (bP (ha aa s σ H _ I h) λc s1 ⟨H1,I1,q1⟩=> ?_);cases c with
 |true=>exact⟨H1,I1,q1⟩
 |false=>exact hb wh aa s1 σ H1 Q I1 q1
theorem Mc(ha:PT X a tA):PT X (.UnaryOp .Not a pos) (Mb tA):=by
 intro aa s σ H Q I h;exact isTrue_not (ha aa s σ H (λc H1=>Q (!c) H1) I h)
def Me(ta tb:TE):TE:=λσ H Q=>ta σ H λx H1=>∃c,x= .bl c/\if c=true then tb σ H1 Q else Q (.bl false) H1
def Ej(ta:TE):TE:=λσ H Q=>ta σ H λx H1=>∃c,x= .bl c/\Q (.bl (!c)) H1
theorem Vg{op}(h:PE X a t):PE X (.BoolOp op [a] pos) t:=λaa s σ H Q I hw=>BoolOp_one (h aa s σ H Q I hw)
theorem Vh(ha:PE X a ta)(hb:PE X (.BoolOp .And (b::rest) pos) tb):PE X (.BoolOp .And (a::b::rest) pos) (Me ta tb):=by
 intro aa s σ H Q I h;refine BoolOp_and (bP (ha aa s σ H _ I h) λv s1 ⟨x,H1,I1,r1,q1⟩=> ?_);obtain⟨c,rfl,q1⟩:=q1;cases r1;refine xD ?_;cases c with
 |true=>exact hb aa s1 σ H1 Q I1 q1
 |false=>exact⟨.bl false,H1,I1,rfl,q1⟩
theorem Vi(ha:PE X a ta):PE X (.UnaryOp .Not a pos) (Ej ta):=by
 intro aa s σ H Q I h;refine UnaryOp_ (bP (ha aa s σ H _ I h) λv s1 ⟨x,H1,I1,r1,q1⟩=> ?_);obtain⟨c,rfl,q1⟩:=q1;cases r1;exact not_of (xD ⟨.bl (!c),H1,I1,rfl,q1⟩)
def Ek(t:TT)(ta tb:TE):TE:=λσ H Q=>t σ H λc H1=>if c=true then ta σ H1 Q else tb σ H1 Q
theorem El{c:Expr}(hc:PT X c tA)(ha:PE X a ta)(hb:PE X b tb):PE X (.IfExp c a b pos) (Ek tA ta tb):=by
 intro aa s σ H Q I h;refine wpAny_IfExp (bP (hc aa s σ H _ I h) λd s1 ⟨H1,I1,q1⟩=> ?_);cases d with
 |true=>exact ha aa s1 σ H1 Q I1 q1
 |false=>exact hb aa s1 σ H1 Q I1 q1
end
def cV(K:aj)(H:Hp)(a:Addr)(xs:List V):Prop:=
 Rd H a (.lst xs)\/
  ∃(o:Obj) (au:Array Value) (n:Nat),K.lookup a=some o/\o.cls= .type "list"/\o.dict=none/\o.data= .seq au n/\au.size<=aM/\bJ xs au.toList
def cP(K:aj)(H:Hp)(a:Addr)(xs:List V):Prop:=
 Rd H a (.tup xs)\/
  ∃(o:Obj) (au:Array Value) (n:Nat),K.lookup a=some o/\o.cls= .type "tuple"/\o.data= .seq au n/\au.size<=aM/\bJ xs au.toList
noncomputable def Vj:Value->Option V
 |.none=>some .aE
 |.bool b=>some (.bl b)
 |.int i _=>some (.int i)
 |.str x _=>some (.str x)
 |.bytes b _=>some (.xW b)
 |.float b _=>some (.j9 b)
 |.ref a=>some (.ref a)
 |.type n=>some (.ty n)
 |_=>none
theorem RelV.abs{x:V}(r:RelV x u):Vj u=some x:=by
 cases x with
 |aE=>cases r;rfl
 |bl _=>cases r;rfl
 |int _=>obtain⟨t,rfl⟩:=r;rfl
 |str _=>obtain⟨t,rfl⟩:=r;rfl
 |xW _=>obtain⟨t,rfl⟩:=r;rfl
 |j9 _=>obtain⟨t,rfl⟩:=r;rfl
 |ref _=>cases r;rfl
 |ty _=>cases r;rfl
theorem RelV.inj{x y:V}(r:RelV x u)(q:RelV y u):x=y:=jI (r.abs.symm.trans q.abs)
theorem bJ.inj:∀{xs ys:List V} {us:List Value},bJ xs us->bJ ys us->xs=ys
 |_,_,_, .nil, .nil=>rfl
 |_,_,_, .cons r t, .cons r' t'=>by rw[r.inj r',bJ.inj t t']
section
variable {X:Cx}{aa:List (Addr×Obj)}{σ:St}{H:Hp}{s:Shared}{a:Addr}
theorem cV.of{K:aj}(h:H a=some (.lst xs)):cV K H a xs:= .inl (.inl h)
theorem cP.of{K:aj}(h:H a=some (.tup xs)):cP K H a xs:= .inl (.inl h)
theorem Inv.list(I:Inv X aa σ H s)(h:cV X.K H a xs):∃au:List Value,bJ xs au/\PlainL s.heap a au.toArray/\xs.length<=aM:=by
 rcases h with h | ⟨o,au,n,hk,hc,hd,hs,hz,r⟩
 ·obtain⟨z,au,n,r,e⟩:=h.ok I.ba;exact⟨au,r,⟨_,n,e,rfl,rfl,rfl⟩,z⟩
 ·refine⟨au.toList,r,⟨o,n,I.gg a o hk,hc,hd,by simpa using hs⟩, ?_⟩;have e:=r.length;simp only[Lv]at e
  lia
theorem Inv.tuple(I:Inv X aa σ H s)(h:cP X.K H a xs):∃au:List Value,bJ xs au/\IsTup s.heap a au.toArray/\xs.length<=aM:=by
 rcases h with h | ⟨o,au,n,hk,hc,hs,hz,r⟩
 ·obtain⟨z,au,r,p⟩:=h.ok I.ba;exact⟨au,r,p,z⟩
 ·refine⟨au.toList,r,⟨o,I.gg a o hk,hc,n,by simpa using hs⟩, ?_⟩;have e:=r.length;simp only[Lv]at e
  lia
theorem Inv.Vk(I:Inv X aa σ H s)(h:cV X.K H a xs)(h':cV X.K H a ys):xs=ys:=by
 obtain⟨au,r,⟨o,n,e,_,_,d⟩,_⟩:=I.list h;obtain⟨its',r',⟨o',n',e',_,_,d'⟩,_⟩:=I.list h';rw[e]at e';cases e';rw[d]at d';injection d' with d1 _
 have:au=its':=by simpa using congrArg Array.toList d1
 subst this;exact r.inj r'
theorem Inv.Vl(I:Inv X aa σ H s)(h:cP X.K H a xs)(h':cP X.K H a ys):xs=ys:=by
 obtain⟨au,r,⟨o,e,_,n,d⟩,_⟩:=I.tuple h;obtain⟨its',r',⟨o',e',_,n',d'⟩,_⟩:=I.tuple h';rw[e]at e';cases e';rw[d]at d';injection d' with d1 _
 have:au=its':=by simpa using congrArg Array.toList d1
 subst this;exact r.inj r'
end
noncomputable abbrev Cx.pP (X:Cx) (E:Value->Shared->Prop):Cx:= { X with xe:=E }
abbrev Cx.vE(X:Cx):Cx:=X.pP λ_ _=>False
theorem Cx.Ok.pP{X:Cx}(ok:X.Ok)(E:Value->Shared->Prop):(X.pP E).Ok:=
 ⟨ok.mod,ok.kind,ok.glob,ok.blt,ok.above,ok.inj,ok.has,ok.xY,ok.hd,ok.frames,ok.tP,ok.L3,ok.bs,ok.pK,ok.xZ,ok.A7,ok.mE,ok.rK⟩
theorem Cx.Ok.rN{X:Cx}(ok:(X.pP E).Ok):X.Ok:=
 ⟨ok.mod,ok.kind,ok.glob,ok.blt,ok.above,ok.inj,ok.has,ok.xY,ok.hd,ok.frames,ok.tP,ok.L3,ok.bs,ok.pK,ok.xZ,ok.A7,ok.mE,ok.rK⟩
section
variable {X:Cx}{aa:List (Addr×Obj)}{σ:St}{H:Hp}{s:Shared}{E:Value->Shared->Prop}
theorem Inv.pP(I:Inv X aa σ H s)(E:Value->Shared->Prop):Inv (X.pP E) aa σ H s:=⟨I.ok.pP E,I.os,I.bare,I.base,I.loc,I.cell,I.free,I.nr,I.pin,I.ba,I.len⟩
theorem Inv.rN(I:Inv (X.pP E) aa σ H s):Inv X aa σ H s:=⟨I.ok.rN,I.os,I.bare,I.base,I.loc,I.cell,I.free,I.nr,I.pin,I.ba,I.len⟩
theorem SP.rN(h:SP (X.pP E) aa D f s'):SP X aa D f s':=by
 cases f with
 |next=>obtain⟨aN,H',I,q⟩:=h;exact⟨aN,H',I.rN,q⟩
 |brk=>obtain⟨aN,H',I,q⟩:=h;exact⟨aN,H',I.rN,q⟩
 |cont=>obtain⟨aN,H',I,q⟩:=h;exact⟨aN,H',I.rN,q⟩
 |ret u=>obtain⟨v,aN,H',I,r,q⟩:=h;exact⟨v,aN,H',I.rN,r,q⟩
theorem kM.vE{st:List Stmt}{t:TS}(h:kM X.vE st t):kM X st t:=λaa s σ H D I hw=>
 lq (h aa s σ H D (I.pP _) hw) (λ_ _ q=>q.rN) λ_ _ z=>lM z
end
section
variable {X:Cx}{st:Stmt}{rest:List Stmt}{t u:TS}{e:Expr}{te:TE}{pos:Pos}
def vF:TS:=λD σ H=>D.nx σ H
def vG(t u:TS):TS:=λD σ H=>t { D with nx:=u D } σ H
theorem fN:kM X [] vF:=λ_ _ σ H _ I h=>TN ⟨σ,H,I,h⟩
theorem aY(h1:PS X st t)(h2:kM X rest u):kM X (st::rest) (vG t u):=by
 intro aa s σ H D I h;refine wpAny_execs_cons (bP (h1 aa s σ H { D with nx:=u D } I h) λf s1 q=> ?_);cases f with
 |next=>
  obtain⟨aN,H',I',q⟩:=q;exact h2 aa s1 aN H' D I' q
 |ret v=>exact q
 |brk=>exact q
 |cont=>exact q
theorem di(h1:PS X st t):kM X [st] t:=by
 intro aa s σ H D I h;refine wpAny_execs_cons (bP (h1 aa s σ H D I h) λf s1 q=> ?_);cases f with
 |next=>exact TN q
 |ret v=>exact q
 |brk=>exact q
 |cont=>exact q
theorem Inv.quiet{aa:List (Addr×Obj)}{σ:St}{H:Hp}{s:Shared}(I:Inv X aa σ H s):interactive X.env=false:=by simp[interactive,I.ok.kind]
def Mf(te:TE):TS:=λD σ H=>te σ H λ_ H1=>D.nx σ H1
theorem iE(he:PE X e te)(hs:xE e none pos.line X.env=pure false:=by rfl):PS X (.Expr e pos) (Mf te):=by
 intro aa s σ H D I h;exact wpAny_Expr_any (bP (he aa s σ H _ I h) λv s1 ⟨x,H1,I1,r1,q1⟩=>⟨σ,H1,I1,q1⟩) I.quiet hs
def rO(te:TE):TS:=λD σ H=>te σ H D.rt
theorem yg(he:PE X e te):PS X (.Return (some e) pos) (rO te):=by
 intro aa s σ H D I h;exact wpAny_Return_some (bP (he aa s σ H _ I h) λv s1 ⟨x,H1,I1,r1,q1⟩=>⟨x,σ,H1,I1,r1,q1⟩)
def Mg:TS:=λD _ H=>D.rt .aE H
theorem Vm:PS X (.Return none pos) Mg:=λ_ _ σ H _ I h=>wpAny_Return_none ⟨.aE,σ,H,I,rfl,h⟩
def vH(c:TT)(t u:TS):TS:=λD σ H=>c σ H λb H1=>if b=true then t D σ H1 else u D σ H1
theorem eM{c:Expr}{a b:List Stmt}{tc:TT}(hc:PT X c tc)(ha:kM X a t)(hb:kM X b u):PS X (.If c a b pos) (vH tc t u):=by
 intro aa s σ H D I h;refine wpAny_If (bP (hc aa s σ H _ I h) λd s1 ⟨H1,I1,q1⟩=> ?_);cases d with
 |true=>exact ha aa s1 σ H1 D I1 q1
 |false=>exact hb aa s1 σ H1 D I1 q1
def Bc:TS:=λ_ _ _=>False
theorem Mh:kM X ahl Bc:=λ_ _ _ _ _ _ h=>h.elim
end
abbrev TG:=V->St->Hp->(St->Hp->Prop)->Prop
abbrev qA:=List V->St->Hp->(St->Hp->Prop)->Prop
def PG(X:Cx)(target:Expr)(t:TG):Prop:=
 ∀(aa:List (Addr×Obj)) (s:Shared) (σ:St) (H:Hp) (v:V) (u:Value) (Q:St->Hp->Prop),Inv X aa σ H s->RelV v u->t v σ H Q->
  wpAny (model X.prog X.w) X.A (assign target X.env u) (λ_ s'=>∃aN H',Inv X aa aN H' s'/\Q aN H') X.xe s
def yh(X:Cx)(ts:List Expr)(t:qA):Prop:=
 ∀(aa:List (Addr×Obj)) (s:Shared) (σ:St) (H:Hp) (vs:List V) (us:List Value) (Q:St->Hp->Prop),Inv X aa σ H s->bJ vs us->t vs σ H Q->
  wpAny (model X.prog X.w) X.A (assignInOrder ((u5 ts X.env).map (·.2)) us) (λ_ s'=>∃aN H',Inv X aa aN H' s'/\Q aN H') X.xe s
abbrev Bd:=V->V->V->Hp->(Hp->Prop)->Prop
def Em(X:Cx)(t:Bd):Prop:=
 ∀(aa:List (Addr×Obj)) (s:Shared) (σ:St) (H:Hp) (o i v:V) (ov iv u:Value) (Q:Hp->Prop),Inv X aa σ H s->RelV o ov->RelV i iv->RelV v u->t o i v H Q->
  wpAny (model X.prog X.w) X.A (setItem ov iv u) (λ_ s'=>∃H',Inv X aa σ H' s'/\Q H') X.xe s
section
variable {X:Cx}{pos:Pos}
def mF(i:Nat):TG:=λv σ H Q=>Q (σ.set i (some v)) H
theorem Eo{x:Str}(hN:X.N.Nodup)(hi:X.N[i]?=some x)(hx:Loc X.env.scope x)(hf:X.fn x=true\/X.env.scope.names.lookup x=some .local:=by first | exact .inl rfl | exact .inr rfl | assumption):PG X (.Name x pos) (mF i):=by
 intro aa s σ H v u Q I r h;exact wpAny_assign_Name (Ef I hN hi hx r (λs' I'=>⟨_,H,I',h⟩) hf)
def yi:qA:=λvs σ H Q=>vs= []/\Q σ H
def rP(t:TG)(u:qA):qA:=λvs σ H Q=>∃v r,vs=v::r/\t v σ H λaN H'=>u r aN H' Q
theorem qB:yh X [] yi:=by
 intro aa s σ H vs us Q I r h;obtain⟨e,h⟩:=h;subst e;cases r;exact assignInOrder_nil ⟨σ,H,I,h⟩
theorem iP{e:Expr}{es:List Expr}{t:TG}{u:qA}(h1:PG X e t)(h2:yh X es u)
  (hs:(u5 (e::es) X.env).map (·.2)=assign e X.env::(u5 es X.env).map (·.2):=by rfl):yh X (e::es) (rP t u):=by
 intro aa s σ H vs us Q I r h;obtain⟨v,vr,e1,h⟩:=h;subst e1;cases r with
 |cons r rr=>
  rw[hs];refine assignInOrder_cons (bP (h1 aa s σ H _ _ _ I r h) λ_ s1 ⟨Ep,H1,I1,q1⟩=> ?_);exact h2 aa s1 Ep H1 _ _ Q I1 rr q1
def vI(K:aj)(n:Nat)(t:qA):TG:=λv σ H Q=>∃a xs,v= .ref a/\cP K H a xs/\xs.length=n/\t xs σ H Q
theorem Vn{k:Nat}{t:qA}{n:Nat}(hc:X.calm=true)(h:yh X es t)
  (hn:(u5 es X.env).length=n:=by rfl) (tR:(u5 es X.env).findIdx? (·.1)=none:=by rfl):PG X (.Tuple es k pos) (vI X.K n t):=by
 intro aa s σ H v u Q I r hw;obtain⟨a,xs,e1,hq,hl,hw⟩:=hw;subst e1;cases r;obtain⟨au,rv,ht,hz⟩:=I.tuple hq;refine assign_Tuple_tuple (I.ok.hd hc) ht (by simp[hn, <- hl,rv.length]) tR λh' hx=> ?_;have I1:Inv X aa σ H { s with heap:=h' }:=I.kept (t':=s.toks) λb o e=>hx b o (jy (gk e)) e;exact h aa _ σ H xs _ Q I1 (by simpa using rv) hw
def qC(to ti:TE)(t:Bd):TG:=λv σ H Q=>to σ H λo H1=>ti σ H1 λi H2=>t o i v H2 λH3=>Q σ H3
theorem lr{o i:Expr}{to ti:TE}{t:Bd}(ho:PE X o to)(hi:PE X i ti)(hs:Em X t)
  (ha:∀v,assign (.Subscript o i pos) X.env v=(do
   let ov <- holding [v] (eval o X.env)
   let iv <- holding [v,ov] (eval i X.env)
   AO pos
   holding [v,ov,iv] (setItem ov iv v)
   release [v,ov,iv] []):=by intro _;rfl):PG X (.Subscript o i pos) (qC to ti t):=by
 intro aa s σ H v u Q I r h;rw[ha];refine bq (rE (bP (ho aa s σ H _ I h) λov s1 ⟨x,H1,I1,r1,q1⟩=> ?_));refine bq (rE (bP (hi aa s1 σ H1 _ I1 q1) λiv s2 ⟨y,H2,I2,r2,q2⟩=> ?_));refine bq (TQ (bq (rE (bP (hs aa s2 σ H2 x y v ov iv u _ I2 r1 r2 r q2) λ_ s3 ⟨H3,I3,q3⟩=> ?_))));exact wpAny_release ⟨σ,H3,I3,q3⟩
def ny(te:TE)(g:TG):TS:=λD σ H=>te σ H λx H1=>g x σ H1 D.nx
theorem qD{tg e:Expr}{te:TE}{g:TG}(he:PE X e te)(hg:PG X tg g)(hs:swapsWithSole [tg] e pos.line X.env=pure false:=by rfl)(hw:swappedStores [tg] e X.env=pure none:=by rfl)
  (h1:(u5 [tg] X.env).map (·.2)= [assign tg X.env]:=by rfl):PS X (.Assign [tg] e pos) (ny te g):=by
 intro aa s σ H D I h;refine wpAny_Assign_stores (bP (he aa s σ H _ I h) λv s1 ⟨x,H1,I1,r1,q1⟩=> ?_) hs hw;rw[h1];exact bP (hg aa s1 σ H1 x v _ I1 r1 q1) λ_ s2 q=>q
theorem Vo{i:Nat}{x:Str}{e:Expr}{te:TE}{pos':Pos}(hN:X.N.Nodup)(hi:X.N[i]?=some x)(hx:Loc X.env.scope x)(he:PE X e te)(hs:xE e (some (.Name x pos')) pos.line X.env=pure false:=by rfl)(hf:X.fn x=true\/X.env.scope.names.lookup x=some .local:=by first | exact .inl rfl | exact .inr rfl | assumption):
  PS X (.Assign [.Name x pos'] e pos) (ny te (mF i)):=by
 intro aa s σ H D I h;refine wpAny_Assign_Name (bP (he aa s σ H _ I h) λv s1 ⟨y,H1,I1,r1,q1⟩=> ?_) hs;exact Ef I1 hN hi hx r1 (λs2 I2=>⟨_,H1,I2,q1⟩) hf
end
structure It where
 go:Nat->Hp->Prop
 vJ:Nat->Hp->V->Hp->Prop
 stop:Nat->Hp->Prop
def iQ(X:Cx)(aa:List (Addr×Obj))(H:Hp)(b:Addr):Prop:=
 H b=none/\b≠X.env.locals/\b∉X.fs/\(b∈X.ex\/X.iO.heap.objs.size<=b)/\(∀x c,X.env.cells.lookup x=some c->c≠b)/\∀p∈X.pn++aa,p.1≠b
theorem Inv.rQ{X:Cx}{aa:List (Addr×Obj)}{σ:St}{H H':Hp}{s:Shared}{b:Addr}(I:Inv X aa σ H s)(hb:s.heap.objs.size<=b)(hn:H' b=none):iQ X aa H' b:=by
 refine⟨hn,AZ (iu I.lt hb),I.Ec hb, .inr (bO I.sz hb),λx c e z=> ?_,λp hp z=> ?_⟩
 ·obtain⟨v,q⟩:=I.cell x c e;exact absurd (iu q.lt (by rw[z];exact hb)) (m9 _)
 ·exact absurd (iu (gk (I.pin p hp).1) (by rw[z];exact hb)) (m9 _)
structure Turn(P:Program)(w:World)(K:aj)(tg:Expr)(J:It)(fp:List Addr)(it:Addr)(tn:Nat->Heap->Prop):Prop where
 mem:it∈fp
 obj:∀i h,tn i h->∀b∈fp,∃o,h.get? b=some o/\∀v,o.data≠ .cell v
 keep:∀i h h',tn i h->(∀b∈fp,∀o,h.get? b=some o->h'.get? b=some o)->tn i h'
 item:∀(X:Cx),X.prog=P->X.w=w->X.K=K->X.calm=true->∀(i:Nat) (aa:List (Addr×Obj)) (s:Shared) (σ:St) (H:Hp) (E:Value->Shared->Prop),Inv X aa σ H s->(∀b∈fp,iQ X aa H b)->tn i s.heap->J.go i H->
  wpAny (model P w) X.A (pyNext (.ref it)) (λr s1=>∃u,r=some u/\
   wpAny (model P w) X.A (Lc tg (.ref it) u) (λ_ s2=>∃x H',Inv X aa σ H' s2/\RelV x u/\J.vJ i H x H'/\tn (i + 1) s2.heap/\∀b∈fp,H' b=none) E s1) E s
 done:∀(X:Cx),X.prog=P->X.w=w->X.K=K->X.calm=true->∀(i:Nat) (aa:List (Addr×Obj)) (s:Shared) (σ:St) (H:Hp) (E:Value->Shared->Prop),Inv X aa σ H s->(∀b∈fp,iQ X aa H b)->tn i s.heap->J.stop i H->
  wpAny (model P w) X.A (pyNext (.ref it)) (λr s1=>r=none/\Inv X aa σ H s1) E s
 self:∀(A:Around) (i:Nat) (s:Shared) (Q:Value->Shared->Prop) (E:Value->Shared->Prop),tn i s.heap->Q (.ref it) s->wpAny (model P w) A (pyIter (.ref it)) Q E s
abbrev TI:=St->Hp->(It->Hp->Prop)->Prop
def Mi(X:Cx)(aa:List (Addr×Obj))(σ:St)(tg:Expr)(R:It->Hp->Prop)(Be:Value)(s2:Shared):Prop:=
 ∃(it:Addr) (fp:List Addr) (tn:Nat->Heap->Prop) (J:It) (H':Hp),Be= .ref it/\Inv X aa σ H' s2/\Turn X.prog X.w X.K tg J fp it tn/\tn 0 s2.heap/\(∀b∈fp,iQ X aa H' b)/\R J H'
def PI(X:Cx)(tg iter:Expr)(wi:TI):Prop:=
 ∀(aa:List (Addr×Obj)) (s:Shared) (σ:St) (H:Hp) (R:It->Hp->Prop),Inv X aa σ H s->wi σ H R->
  wpAny (model X.prog X.w) X.A (eval iter X.env) (λv s1=>wpAny (model X.prog X.w) X.A (pyIter v) (Mi X aa σ tg R) X.xe s1) X.xe s
theorem vK{M:Model}{A:Around}{E:Value->Shared->Prop}{s:Shared}{tg:Expr}{u:Value}{o:Obj}{Q:Unit->Shared->Prop}(ho:s.heap.get? it=some o)(hc:o.cls= .type n)(hd:o.data= .fields vs)
  (hn: ["enumerate","zip","dict_itemiterator","dict_reverseitemiterator","odict_iterator","itertools.zip_longest","itertools.pairwise"].contains n=false) (hQ:Q () s):wpAny M A (Lc tg (.ref it) u) Q E s:=by
 unfold Lc;cases tg <;> first
  |exact dw hQ
  |(cases u <;> first
    |exact dw hQ
    |(refine bq (wpAny_load ho ?_);rw[hc,hd];show wpAny M A (if(["enumerate","zip","dict_itemiterator","dict_reverseitemiterator","odict_iterator","itertools.zip_longest","itertools.pairwise"].contains n && vs[0]? == some (rawInt _))=true then _ else _) Q E s;rw[if_neg (by intro h;rw[hn,Bool.false_and]at h;cases h)];exact dw hQ))
def rR(K:aj)(a:Addr):It:=
 ⟨λi H=>∃xs x,cV K H a xs/\xs[i]?=some x,λi H x H'=>H'=H/\∀xs,cV K H a xs->xs[i]?=some x,λi H=>∃xs,cV K H a xs/\xs.length<=i⟩
def Bf(K:aj)(a:Addr):It:=
 ⟨λi H=>∃xs x,cP K H a xs/\xs[i]?=some x,λi H x H'=>H'=H/\∀xs,cP K H a xs->xs[i]?=some x,λi H=>∃xs,cP K H a xs/\xs.length<=i⟩
def vL(lo:Int)(n:Nat):It:=⟨λi _=>i < n,λi H x H'=>H'=H/\x= .int (lo + i),λi _=>n<=i⟩
theorem Vp{P:Program}{w:World}{K:aj}{tg:Expr}(a it:Addr):Turn P w K tg (rR K a) [it] it (λi h=>h.IsListIter it a i) where
 mem:=by simp
 obj:=λi h st b hb=>by
  have e:b=it:=by simpa using hb
  subst e;obtain⟨o,e,c,d⟩:=st;exact⟨o,e,λv z=>by rw[d]at z;cases z⟩
 keep:=λi h h' st k=>st.at λo e=>k it (by simp) o e
 item:=by
  intro X hP hw hK hc i aa s σ H E I hf st hg;subst hP hw hK;obtain⟨xs,x,hq,hx⟩:=hg;obtain⟨au,rv,p,hz⟩:=I.list hq;obtain⟨u,hu,ru⟩:=rv.get hx;obtain⟨f0,f1,f2,f3,f4,f5⟩:=hf it (by simp);refine wpAny_pyNext_list_item st p.isList (x:=u) (by simpa using hu) λh' hE sb=> ?_;have I1:Inv X aa σ H { s with heap:=h' }:=I.turned (t':=s.toks) (λb o hb e=>(sb.2 b hb).trans e) f0 f1 f3 f4 f5;obtain⟨o,e,c,d⟩:=id hE;exact⟨u,rfl,vK (s:= { s with heap:=h' }) e c d (by decide) ⟨x,H,I1,ru,⟨rfl,λys hy=>by rw[I.Vk hy hq];exact hx⟩,hE,λb hb=>(hf b hb).1⟩⟩
 done:=by
  intro X hP hw hK hc i aa s σ H E I hf st hg;subst hP hw hK;obtain⟨xs,hq,hx⟩:=hg;obtain⟨au,rv,p,hz⟩:=I.list hq;obtain⟨f0,f1,f2,f3,f4,f5⟩:=hf it (by simp);have hl:=rv.length;exact TR (I.ok.hd hc) st p.isList (by simp;lia) λh' eb=>⟨rfl,I.turned (t':=s.toks) (λb o hb e=>eb b o hb e) f0 f1 f3 f4 f5⟩
 self:=λ_ _ _ _ _ st h=>wpAny_pyIter_listiter st h
theorem Vq{P:Program}{w:World}{K:aj}{tg:Expr}(a it:Addr):Turn P w K tg (Bf K a) [it] it (λi h=>h.IsTupleIter it a i) where
 mem:=by simp
 obj:=λi h st b hb=>by
  have e:b=it:=by simpa using hb
  subst e;obtain⟨o,e,c,d⟩:=st;exact⟨o,e,λv z=>by rw[d]at z;cases z⟩
 keep:=λi h h' st k=>st.at λo e=>k it (by simp) o e
 item:=by
  intro X hP hw hK hc i aa s σ H E I hf st hg;subst hP hw hK;obtain⟨xs,x,hq,hx⟩:=hg;obtain⟨au,rv,p,hz⟩:=I.tuple hq;obtain⟨u,hu,ru⟩:=rv.get hx;obtain⟨f0,f1,f2,f3,f4,f5⟩:=hf it (by simp);refine wpAny_pyNext_tuple_item st (show s.heap.IsTuple a au.toArray from p) (x:=u) (by simpa using hu) λh' hE sb=> ?_;have I1:Inv X aa σ H { s with heap:=h' }:=I.turned (t':=s.toks) (λb o hb e=>(sb.2 b hb).trans e) f0 f1 f3 f4 f5;obtain⟨o,e,c,d⟩:=id hE;exact⟨u,rfl,vK (s:= { s with heap:=h' }) e c d (by decide) ⟨x,H,I1,ru,⟨rfl,λys hy=>by rw[I.Vl hy hq];exact hx⟩,hE,λb hb=>(hf b hb).1⟩⟩
 done:=by
  intro X hP hw hK hc i aa s σ H E I hf st hg;subst hP hw hK;obtain⟨xs,hq,hx⟩:=hg;obtain⟨au,rv,p,hz⟩:=I.tuple hq;obtain⟨f0,f1,f2,f3,f4,f5⟩:=hf it (by simp);have hl:=rv.length;exact wpAny_pyNext_tuple_end (I.ok.hd hc) st (show s.heap.IsTuple a au.toArray from p) (by simp;lia) λh' eb=>⟨rfl,I.turned (t':=s.toks) (λb o hb e=>eb b o hb e) f0 f1 f3 f4 f5⟩
 self:=λ_ _ _ _ _ st h=>wpAny_pyIter_tupleiter st h
theorem Vr{P:Program}{w:World}{K:aj}{tg:Expr}(it:Addr)(lo:Int)(n:Nat):Turn P w K tg (vL lo n) [it] it (λi h=>IsRangeIter h it (lo + (i:Nat) * 1) ((n:Int) - (i:Nat)) 1) where
 mem:=by simp
 obj:=λi h st b hb=>by
  have e:b=it:=by simpa using hb
  subst e;exact⟨_,st,λv z=>by
   have z':Data.fields _=Data.cell v:=z;cases z'⟩
 keep:=λi h h' st k=>k it (by simp) _ st
 item:=by
  intro X hP hw hK hc i aa s σ H E I hf st hg;subst hP hw hK;obtain⟨f0,f1,f2,f3,f4,f5⟩:=hf it (by simp);have W:=Walks.range (prog:=X.prog) (w:=X.w) (I.ok.hd hc) it lo 1 n;refine W.item i s _ _ hg st λv h' tk hv hE kk=> ?_;obtain⟨t,rfl⟩:=hv;have I1:Inv X aa σ H { s with heap:=h',toks:=tk }:=I.turned (λb o hb e=>kk b o (by simpa using hb) e) f0 f1 f3 f4 f5;refine⟨_,rfl,vK (s:= { s with heap:=h',toks:=tk }) (n:="range_iterator") hE rfl rfl (by decide) ⟨.int (lo + i),H,I1,⟨t, ?_⟩,⟨rfl,rfl⟩,hE,λb hb=>(hf b hb).1⟩⟩;rw[Int.mul_one]
 done:=by
  intro X hP hw hK hc i aa s σ H E I hf st hg;subst hP hw hK;obtain⟨f0,f1,f2,f3,f4,f5⟩:=hf it (by simp);exact wpAny_pyNext_range_end (I.ok.hd hc) st (by have:n<=i:=hg;lia) λh' eb=>⟨rfl,I.turned (t':=s.toks) (λb o hb e=>eb b o hb e) f0 f1 f3 f4 f5⟩
 self:=λ_ _ _ _ _ st h=>wpAny_pyIter_rangeiter st h
section
variable {X:Cx}
theorem Mj{aa:List (Addr×Obj)}{σ:St}{H:Hp}{s:Shared}{R:It->Hp->Prop}{E:Value->Shared->Prop}{lo hi:Int}{t u v:Tok}{tk:Nat}(I:Inv X aa σ H s)(h1: -(2 ^ 62)<=lo)(h2:lo < 2 ^ 62)(h3: -(2 ^ 62)<=hi)(h4:hi < 2 ^ 62)
  (q:R (vL lo (hi - lo).toNat) H):wpAny (model X.prog X.w) X.A (pyIter (.ref s.heap.objs.size)) (Mi X aa σ tg R) E { s with heap:=s.heap.push { cls:= .type "range",data:= .fields #[.int lo t, .int hi u, .int 1 v] },toks:=tk }:=by
 refine wpAny_pyIter_range (IsRange.new ..) (small_one h1 h2 h3 h4) ?_;have I1:Inv X aa σ H { s with heap:=s.heap.push { cls:= .type "range",data:= .fields #[.int lo t, .int hi u, .int 1 v] },toks:=tk }:=I.kept λb o e=>gB _ e;refine⟨(s.heap.push { cls:= .type "range",data:= .fields #[.int lo t, .int hi u, .int 1 v] }).objs.size, [(s.heap.push { cls:= .type "range",data:= .fields #[.int lo t, .int hi u, .int 1 v] }).objs.size],_,_,H,rfl,
  I1.kept (t':=tk) λb o e=>gB _ e,Vr _ lo (hi - lo).toNat, ?_,λb hb=> ?_,q⟩
 ·have e1:lo + ((0:Nat):Int) * 1=lo:=by simp
  have e2:(((hi - lo).toNat:Nat):Int) - ((0:Nat):Int)=Builtin.Range.rangeSize lo hi 1:=by rw[rangeSize_one];split <;> lia
  show IsRangeIter _ _ (lo + ((0:Nat):Int) * 1) ((((hi - lo).toNat:Nat):Int) - ((0:Nat):Int)) 1;rw[e1,e2];exact jz _ rfl
 ·have e:b=(s.heap.push { cls:= .type "range",data:= .fields #[.int lo t, .int hi u, .int 1 v] }).objs.size:=by simpa using hb
  subst e;exact I1.rQ (bX _) (I1.ba.fresh (bX _))
def Bg(ta:TA):TI:=λσ H R=>ta σ H λvs H1=>∃j:Int,vs= [.int j]/\ -(2 ^ 62)<=j/\j < 2 ^ 62/\R (vL 0 j.toNat) H1
def Ml(ta:TA):TI:=λσ H R=>ta σ H λvs H1=>∃i j:Int,vs= [.int i, .int j]/\(-(2 ^ 62)<=i/\i < 2 ^ 62/\ -(2 ^ 62)<=j/\j < 2 ^ 62)/\R (vL i (j - i).toNat) H1
theorem qE{a:Expr}{ta:TA}{p pos:Pos}(hg:Gl X "range")(hm:X.mg "range"=none)(ha:PA X [a] ta)(hs:dh [a] X.env= [(false,eval a X.env)]:=by rfl):PI X tg (.Call (.Name "range" p) [a] [] pos) (Bg ta):=by
 intro aa s σ H R I h;refine Call_ (vC I hg hm boot_range (Ub (bP (ha pos aa s σ H _ I h) λus s1 ⟨vs,H1,I1,r1,q1⟩=> ?_) hs rfl));obtain⟨j,e,q1,q2,q⟩:=q1;subst e;cases r1 with
 |cons r rr=>
  cases rr;obtain⟨t,rfl⟩:=r;exact call_range_1 (Mj I1 (by lia) (by lia) q1 q2 (by simpa using q))
theorem Mm{a b:Expr}{ta:TA}{p pos:Pos}(hg:Gl X "range")(hm:X.mg "range"=none)(ha:PA X [a,b] ta)(hs:dh [a,b] X.env= [(false,eval a X.env),(false,eval b X.env)]:=by rfl)(pQ:dh [b] X.env= [(false,eval b X.env)]:=by rfl):
  PI X tg (.Call (.Name "range" p) [a,b] [] pos) (Ml ta):=by
 intro aa s σ H R I h;refine Call_ (vC I hg hm boot_range (Ub (bP (ha pos aa s σ H _ I h) λus s1 ⟨vs,H1,I1,r1,q1⟩=> ?_) (by rw[hs,pQ]) (by rw[pQ];rfl)));obtain⟨i,j,e,⟨q1,q2,q3,q4⟩,q⟩:=q1;subst e;cases r1 with
 |cons r rr=>
  cases rr with
  |cons r' rr=>
   cases rr;obtain⟨t,rfl⟩:=r;obtain⟨t',rfl⟩:=r';exact call_range_2 (Mj I1 q1 q2 q3 q4 q)
def yj(wi:TI)(g:TG)(tb:TS):TS:=λD σ H=>wi σ H λJ H1=>∃W:Nat->Nat->St->Hp->Prop,(∃m,W 0 m σ H1)/\∀i m σ H,W i m σ H->
 (J.stop i H/\D.nx σ H)\/(J.go i H/\∃N:St->Hp->Prop,(∀aN H',N aN H'->∃m',m' < m/\W (i + 1) m' aN H')/\∀x H',J.vJ i H x H'->g x σ H' λhJ H2=>tb { D with nx:=N,ct:=N,bk:=D.nx } hJ H2)
noncomputable def rS (fp:List Addr) (h:Heap):List (Addr×Obj):=fp.filterMap λb=>(h.get? b).map λo=>(b,o)
theorem vM{h:Heap}{b:Addr}{o:Obj}(hb:b∈fp)(e:h.get? b=some o):(b,o)∈rS fp h:=agF.mpr ⟨b,hb,by rw[e];rfl⟩
theorem Vs{h:Heap}{p:Addr×Obj}(hp:p∈rS fp h):p.1∈fp/\h.get? p.1=some p.2:=by
 obtain⟨b,hb,e⟩:=agF.mp hp;cases q:h.get? b with
 |none=>rw[q]at e;cases e
 |some o=>
  rw[q]at e;have e':(b,o)=p:=jI e;subst e';exact⟨hb,q⟩
theorem Inv.pinned{aa:List (Addr×Obj)}{σ:St}{H:Hp}{s:Shared}(I:Inv X aa σ H s)(hf:∀b∈fp,iQ X aa H b)(ho:∀b∈fp,∃o,s.heap.get? b=some o/\∀v,o.data≠ .cell v):Inv X (aa++rS fp s.heap) σ H s:=
 I.yc λp hp=>(kG.mp hp).elim (λz=>I.pin p (jK _ z)) λz=>by
  obtain⟨hb,e⟩:=Vs z;obtain⟨f0,f1,f2,_⟩:=hf p.1 hb;obtain⟨o,e',d⟩:=ho p.1 hb;rw[e]at e';cases e';exact⟨e,f0,f1,f2,d⟩
theorem Inv.vN{aa pl:List (Addr×Obj)}{σ:St}{H:Hp}{s:Shared}(I:Inv X (aa++pl) σ H s):Inv X aa σ H s:=I.yc λp hp=>I.pin p (jK _ (DT _ hp))
theorem qF{iter:Expr}{body:List Stmt}{wi:TI}{g:TG}{tb:TS}{pos:Pos}(hp:rF (model X.prog X.w) X.A X.env X.xe)(hc:X.calm=true)(hi:PI X tg iter wi)(hg:PG X tg g)(hb:kM X body tb)
  (hs:∀x,TU iter X.env x=pure x:=by intro _;rfl):PS X (.For tg iter body [] pos) (yj wi g tb):=by
 intro aa s σ H D I h;refine wpAny_For (bP (hi aa s σ H _ I h) λv s1 h1=>bP h1 λBe s2 h2=> ?_) hs;obtain⟨it,fp,tn,J,H2,e,I2,T,cf,f2,W,⟨m0,w0⟩,turn⟩:=h2;subst e
 -- fO gG true of mG ahm objects through mG loop
 have tS:∀{H':Hp},(∀b∈fp,H' b=none)->∀b∈fp,iQ X aa H' b:=λhn b hb=>⟨hn b hb,(f2 b hb).2⟩
 refine codeAny_forLoop_any (λn s'=>∃i aN H',Inv X aa aN H' s'/\tn i s'.heap/\(∀b∈fp,H' b=none)/\W i n aN H') ?_ m0 ⟨0,σ,H2,I2,cf,λb hb=>(f2 b hb).1,w0⟩;rintro n s3 ⟨i,gL,H3,I3,iT,Mn,w3⟩;rcases turn i n gL H3 w3 with⟨stop,qn⟩ | ⟨go,N,hN,step⟩
 ·refine DM hp (bP (T.done X rfl rfl rfl hc i aa s3 gL H3 X.xe I3 (tS Mn) iT stop) λr s4 ⟨hr,I4⟩=> ?_);subst hr;exact TN ⟨gL,H3,I4,qn⟩
 ·refine DM hp (bP (T.item X rfl rfl rfl hc i aa s3 gL H3 X.xe I3 (tS Mn) iT go) λr s4 ⟨u,hr,h4⟩=> ?_);subst hr;refine DM hp (bP h4 λ_ s5 ⟨x,H5,I5,r5,y5,oo,Er⟩=> ?_);have Vt:=I5.pinned (tS Er) (T.obj _ _ oo);refine DM hp (bP (hg _ s5 gL H5 x u _ Vt r5 (step x H5 y5)) λ_ s6 ⟨oq,H6,I6,q6⟩=> ?_);refine DM hp (bP (hb _ s6 oq H6 _ I6 q6) λf s7 q7=> ?_);have again:∀{lP:St} {H7:Hp},Inv X (aa++rS fp s5.heap) lP H7 s7->N lP H7->∃m,m < n/\∃i aN H',Inv X aa aN H' s7/\tn i s7.heap/\(∀b∈fp,H' b=none)/\W i m aN H':=λ{lP H7} I7 n7=>by
   obtain⟨m',hm,w7⟩:=hN lP H7 n7;refine⟨m',hm,i + 1,lP,H7,I7.vN,T.keep _ _ _ oo λb hb o e=>(I7.pin (b,o) (jK _ (jK _ (vM hb e)))).1,λb hb=> ?_,w7⟩;obtain⟨o,e,d⟩:=T.obj _ _ oo b hb;exact(I7.pin (b,o) (jK _ (jK _ (vM hb e)))).2.1
  cases f with
  |next=>obtain⟨lP,H7,I7,n7⟩:=q7;exact again I7 n7
  |cont=>obtain⟨lP,H7,I7,n7⟩:=q7;exact again I7 n7
  |brk=>obtain⟨lP,H7,I7,q7⟩:=q7;exact⟨lP,H7,I7.vN,q7⟩
  |ret v=>obtain⟨x7,lP,H7,I7,r7,q7⟩:=q7;exact⟨x7,lP,H7,I7.vN,r7,q7⟩
end
abbrev R2:=V->V->Hp->VK->Prop
def dJ(X:Cx)(f:Value->Value->Sem Value)(r:R2):Prop:=
 ∀(aa:List (Addr×Obj)) (s:Shared) (σ:St) (H:Hp) (x y:V) (v u:Value) (Q:VK),Inv X aa σ H s->RelV x v->RelV y u->r x y H Q->
  wpAny (model X.prog X.w) X.A (f v u) (EP X aa σ Q) X.xe s
def Es(X:Cx)(f:Value->Sem Value)(r:V->Hp->VK->Prop):Prop:=
 ∀(aa:List (Addr×Obj)) (s:Shared) (σ:St) (H:Hp) (x:V) (v:Value) (Q:VK),Inv X aa σ H s->RelV x v->r x H Q->
  wpAny (model X.prog X.w) X.A (f v) (EP X aa σ Q) X.xe s
def i4(X:Cx)(f:Value)(r:List V->Hp->VK->Prop):Prop:=
 ∀(aa:List (Addr×Obj)) (s:Shared) (σ:St) (H:Hp) (xs:List V) (us:List Value) (Q:VK),Inv X aa σ H s->bJ xs us->r xs H Q->
  wpAny (model X.prog X.w) X.A (call f us) (EP X aa σ Q) X.xe s
def kN(r:R2)(ta tb:TE):TE:=λσ H Q=>ta σ H λx H1=>tb σ H1 λy H2=>r x y H2 Q
def Mo(r:V->Hp->VK->Prop)(ta:TE):TE:=λσ H Q=>ta σ H λx H1=>r x H1 Q
def rI(C:Int->Int->Prop)(g:Int->Int->V):R2:=λx y H Q=>∃i j,x= .int i/\y= .int j/\C i j/\Q (g i j) H
def pT(g:Int->Int->V):R2:=λx y H Q=>∃i j,x= .int i/\y= .int j/\Q (g i j) H
def rU(g:Int->V):V->Hp->VK->Prop:=λx H Q=>∃i,x= .int i/\Q (g i) H
section
variable {X:Cx}{a b c:Expr}{pos:Pos}
theorem Et(ha:PE X a ta)(hb:PE X b tb){aa:List (Addr×Obj)}{s:Shared}{σ:St}{H:Hp}{R:V->V->Hp->Prop}(I:Inv X aa σ H s)
  (h:ta σ H λx H1=>tb σ H1 λy H2=>R x y H2) {Q:Value->Shared->Prop} {f:Value->Value->Sem Value}
  (hf:∀v u s2 x y H2,Inv X aa σ H2 s2->RelV x v->RelV y u->R x y H2->wpAny (model X.prog X.w) X.A (f v u) Q X.xe s2):
  wpAny (model X.prog X.w) X.A (eval a X.env) (λv eB=>wpAny (model X.prog X.w) X.A (eval b X.env) (λu Bh=>wpAny (model X.prog X.w) X.A (f v u) Q X.xe Bh) X.xe eB) X.xe s:=by
 refine bP (ha aa s σ H _ I h) λv s1 ⟨x,H1,I1,r1,q1⟩=> ?_;refine bP (hb aa s1 σ H1 _ I1 q1) λu s2 ⟨y,H2,I2,r2,q2⟩=> ?_;exact hf v u s2 x y H2 I2 r1 r2 q2
theorem eZ(ho:dJ X (kE op) r)(ha:PE X a ta)(hb:PE X b tb):PE X (.BinOp a op b pos) (kN r ta tb):=by
 intro aa s σ H Q I h;exact wpAny_BinOp (Et ha hb I h λv u s2 x y H2 I2 rx ry q=>ho aa s2 σ H2 x y v u Q I2 rx ry q)
theorem Mp(ho:Es X (unaryOp op) r)(ha:PE X a ta):PE X (.UnaryOp op a pos) (Mo r ta):=by
 intro aa s σ H Q I h;exact UnaryOp_ (bP (ha aa s σ H _ I h) λv s1 ⟨x,H1,I1,r1,q1⟩=>ho aa s1 σ H1 x v Q I1 r1 q1)
theorem Bi{f:Value->Value->Sem Value}{C:Int->Int->Prop}{g:Int->Int->Int}
  (rule:∀(i j:Int) (t u:Tok) (s:Shared) (Q:Value->Shared->Prop) (E:Value->Shared->Prop),C i j->Q (.int (g i j) s.toks) { s with toks:=s.toks + 1 }->wpAny (model X.prog X.w) X.A (f (.int i t) (.int j u)) Q E s):
  dJ X f (rI C λi j=> .int (g i j)):=by
 intro aa s σ H x y v u Q I rx ry h;obtain⟨i,j,rfl,rfl,hc,q⟩:=h;obtain⟨t,rfl⟩:=rx;obtain⟨t',rfl⟩:=ry;exact rule i j t t' s _ _ hc ⟨.int (g i j),H,I.tok _,⟨_,rfl⟩,q⟩
theorem Mq{f:Value->Value->Sem Value}{g:Int->Int->Int}
  (rule:∀(i j:Int) (t u:Tok) (s:Shared) (Q:Value->Shared->Prop) (E:Value->Shared->Prop),Q (.int (g i j) s.toks) { s with toks:=s.toks + 1 }->wpAny (model X.prog X.w) X.A (f (.int i t) (.int j u)) Q E s):
  dJ X f (pT λi j=> .int (g i j)):=by
 intro aa s σ H x y v u Q I rx ry h;obtain⟨i,j,rfl,rfl,q⟩:=h;obtain⟨t,rfl⟩:=rx;obtain⟨t',rfl⟩:=ry;exact rule i j t t' s _ _ ⟨.int (g i j),H,I.tok _,⟨_,rfl⟩,q⟩
theorem Bj{f:Value->Value->Sem Value}{g:Int->Int->Bool}
  (rule:∀(i j:Int) (t u:Tok) (s:Shared) (Q:Value->Shared->Prop) (E:Value->Shared->Prop),Q (.bool (g i j)) s->wpAny (model X.prog X.w) X.A (f (.int i t) (.int j u)) Q E s):
  dJ X f (pT λi j=> .bl (g i j)):=by
 intro aa s σ H x y v u Q I rx ry h;obtain⟨i,j,rfl,rfl,q⟩:=h;obtain⟨t,rfl⟩:=rx;obtain⟨t',rfl⟩:=ry;exact rule i j t t' s _ _ ⟨.bl (g i j),H,I,rfl,q⟩
def Eu(i j:Int):Prop:=0<=j/\j<=1000000/\i.natAbs < 2 ^ 64
def ou(i j:Int):Prop:=(-(2 ^ 64) < i/\i < 2 ^ 64)\/(-(2 ^ 64) < j/\j < 2 ^ 64)
theorem ou.ok(h:ou i j):IntMulOk i j:=by
 rcases h with⟨h1,h2⟩ | ⟨h1,h2⟩
 ·exact .of_left (intBits_le_64 h1 h2)
 ·exact .of_right (intBits_le_64 h1 h2)
theorem Vu:dJ X (kE .Add) (pT λi j=> .int (i + j)):=Mq λ_ _ _ _ _ _ _ q=>add_int q
theorem Ew:dJ X (kE .Sub) (pT λi j=> .int (i - j)):=Mq λ_ _ _ _ _ _ _ q=>sub_int q
theorem qG:dJ X (kE .Mult) (rI ou λi j=> .int (i * j)):=Bi λ_ _ _ _ _ _ _ hc q=>mul_int q hc.ok
theorem vO:dJ X (kE .Mod) (rI (λ_ j=>0 < j) λi j=> .int (i % j)):=Bi λi j _ _ _ _ _ hc q=>by
 have h1:(0:Int) < j:=hc;exact mod_int' (by lia) (by rw[Int.fmod_eq_emod_of_nonneg i (by lia)];exact q)
theorem Vv:dJ X (kE .Pow) (rI Eu λi j=> .int (i ^ j.toNat)):=Bi λ_ _ _ _ _ _ _ hc q=>pow_int_small hc.1 hc.2.1 hc.2.2 q
theorem Vx{f:Value->Sem Value}{g:Int->Int}
  (rule:∀(i:Int) (t:Tok) (s:Shared) (Q:Value->Shared->Prop) (E:Value->Shared->Prop),Q (.int (g i) s.toks) { s with toks:=s.toks + 1 }->wpAny (model X.prog X.w) X.A (f (.int i t)) Q E s):
  Es X f (rU λi=> .int (g i)):=by
 intro aa s σ H x v Q I rx h;obtain⟨i,rfl,q⟩:=h;obtain⟨t,rfl⟩:=rx;exact rule i t s _ _ ⟨.int (g i),H,I.tok _,⟨_,rfl⟩,q⟩
theorem Mr:Es X (unaryOp .USub) (rU λi=> .int (-i)):=Vx λ_ _ _ _ _ q=>neg_int q
theorem Ms{aa:List (Addr×Obj)}{σ:St}{H:Hp}{s:Shared}{Q:VK}(I:Inv X aa σ H s)(q:Q (.bl k) H)(e:k=k'):EP X aa σ Q (.bool k') s:=by
 subst e;exact⟨.bl k,H,I,rfl,q⟩
theorem rT:dJ X (jd .Lt) (pT λi j=> .bl (decide (i < j))):=Bj λ_ _ _ _ _ _ _ q=>lt_int q
theorem Vy:dJ X (jd .LtE) (pT λi j=> .bl (decide (i<=j))):=Bj λ_ _ _ _ _ _ _ q=>le_int q
theorem ox:dJ X (jd .Gt) (pT λi j=> .bl (decide (j < i))):=Bj λ_ _ _ _ _ _ _ q=>gt_int q
theorem Bk:dJ X (jd .GtE) (pT λi j=> .bl (decide (j<=i))):=Bj λ_ _ _ _ _ _ _ q=>ge_int q
theorem Vz:dJ X (jd .In) (λx y H Q=>∃i j,x= .str i/\y= .str j/\Q (.bl (!(Uc j i 0 j.length 1).isEmpty)) H):=by
 intro aa s σ H x y v u Q I rx ry h;obtain⟨i,j,rfl,rfl,q⟩:=h;obtain⟨t,rfl⟩:=rx;obtain⟨t',rfl⟩:=ry;exact in_str (Ms I q rfl)
theorem VA:dJ X (jd .IsNot) (λx y H Q=>y= .aE/\Q (.bl (!decide (x= .aE))) H):=by
 intro aa s σ H x y v u Q I rx ry h;obtain⟨rfl,q⟩:=h;cases ry;refine isnot_none_gen (Ms I q ?_);cases x <;> first
  |(cases rx;rfl)
  |(obtain⟨t,rfl⟩:=rx;rfl)
theorem Mt(b:Expr)(h:op≠ .In:=by decide)(h2:op≠ .NotIn:=by decide):AQ op b=false:=by
 have e1:(op == CmpOp.In)=false:=by cases op <;> first | rfl | exact absurd rfl h
 have e2:(op == CmpOp.NotIn)=false:=by cases op <;> first | rfl | exact absurd rfl h2
 cases b <;> simp[AQ,e1,e2]
theorem VB(ho:dJ X (jd op) r)(ha:PE X a ta)(hb:PE X b tb)(hm:AQ op b=false):PE X (.Compare a [op] [b] pos) (kN r ta tb):=by
 intro aa s σ H Q I h;exact wpAny_Compare1 (Et ha hb I h λv u s2 x y H2 I2 rx ry q=>ho aa s2 σ H2 x y v u Q I2 rx ry q) hm
def Bl(t:TE):TT:=λσ H Q=>t σ H λx H'=>∃k,x= .bl k/\Q k H'
theorem Mu(ho:dJ X (jd op) r)(ha:PE X a ta)(hb:PE X b tb)(hm:AQ op b=false):PT X (.Compare a [op] [b] pos) (Bl (kN r ta tb)):=by
 intro aa s σ H Q I h;refine wpAny_isTrue_Compare1 (bP (ha aa s σ H _ I h) λv s1 ⟨x,H1,I1,r1,q1⟩=>bP (hb aa s1 σ H1 _ I1 q1) λu s2 ⟨y,H2,I2,r2,q2⟩=>
  bP (ho aa s2 σ H2 x y v u _ I2 r1 r2 q2) λc s3 ⟨z,H3,I3,r3,k,e,q3⟩=> ?_) hm
 subst e;cases r3;exact xD ⟨H3,I3,q3⟩
theorem vP:(aM:Nat) < 2 ^ 63:=by rw[Ld];decide
theorem VC:dJ X (kE .Add) (λx y H Q=>∃i j,x= .str i/\y= .str j/\i.length + j.length<=aM/\Q (.str (i++j)) H):=by
 intro aa s σ H x y v u Q I rx ry h;obtain⟨i,j,rfl,rfl,hz,q⟩:=h;obtain⟨t,rfl⟩:=rx;obtain⟨t',rfl⟩:=ry;exact add_str (λt' tk=>⟨.str (i++j),H,I.tok _,⟨_,rfl⟩,q⟩) hz
theorem vals1{x:V}(r:bJ [x] us):∃u,us= [u]/\RelV x u:=by
 cases r with
 |cons r1 r2=>cases r2;exact⟨_,rfl,r1⟩
theorem vals2{x y:V}(r:bJ [x,y] us):∃u w',us= [u,w']/\RelV x u/\RelV y w':=by
 cases r with
 |cons r1 r2=>
  cases r2 with
  |cons r3 r4=>cases r4;exact⟨_,_,rfl,r1,r3⟩
theorem VD(hc:X.calm=true):i4 X (.builtin "max") (λxs H Q=>∃i j,xs= [.int i, .int j]/\Q (.int (if j > i then j else i)) H):=by
 intro aa s σ H xs us Q I r h;obtain⟨i,j,rfl,q⟩:=h;obtain⟨u,w',rfl,⟨t,rfl⟩,⟨t',rfl⟩⟩:=vals2 r;refine max_two_ints (I.ok.hd hc) λh' tk k=>⟨_,H,I.kept k, ?_,q⟩
 by_cases hj:j > i
 ·rw[if_pos hj,if_pos hj];exact⟨_,rfl⟩
 ·rw[if_neg hj,if_neg hj];exact⟨_,rfl⟩
theorem VE(hc:X.calm=true):i4 X (.builtin "min") (λxs H Q=>∃i j,xs= [.int i, .int j]/\Q (.int (if j < i then j else i)) H):=by
 intro aa s σ H xs us Q I r h;obtain⟨i,j,rfl,q⟩:=h;obtain⟨u,w',rfl,⟨t,rfl⟩,⟨t',rfl⟩⟩:=vals2 r;refine min_two_ints (I.ok.hd hc) λh' tk k=>⟨_,H,I.kept k, ?_,q⟩
 by_cases hj:j < i
 ·rw[if_pos hj,if_pos hj];exact⟨_,rfl⟩
 ·rw[if_neg hj,if_neg hj];exact⟨_,rfl⟩
end
structure tT(h:Heap)(x dx C:Addr)(mA:Str->Option Value):Prop where
 obj:h.get? x=some (vf C dx)
 ns:h.Ns1 dx mA
 ne:dx≠x
theorem VF{h:Heap}{mA:Str->Option Value}(n:h.Ns1 dx mA):∃od,h.get? dx=some od/\∀name,Lw name od=some (mA name):=by
 obtain⟨o,es,ep,ho,hd,hk,_,hm⟩:=n;refine⟨o,ho,λname=> ?_⟩;have e:=hm name;unfold nsFind findBy at e;rw[<- Array.find?_toList]at e;unfold Lw;rw[hd];dsimp only
 split
 ·rename_i y q
  rw[q]at e;exact congrArg some e
 ·rename_i q
  rw[q]at e;have a:es.toList.any (·.refKey)=false:=by
   rw[List.any_eq_false];intro y hy;obtain⟨z,t,Ey⟩:=hk y (Array.mem_toList_iff.mp hy);simp[DictEntry.refKey,Ey]
  have a':¬ es.toList.any (·.refKey)=true:=by rw[a];exact jA
  rw[if_neg a'];exact congrArg some e
theorem tT.look{h:Heap}{x dx C:Addr}{mA:Str->Option Value}(I:tT h x dx C mA):∃od,W.InstAt h x (vf C dx) C (some od)/\∀name,Lw name od=some (mA name):=
 let ⟨od,ho,hl⟩:=VF I.ns
 ⟨od,⟨I.obj,rfl,rfl,ho⟩,hl⟩
section
variable {prog:Program}{w:World}{A:Around}{E:Value->Shared->Prop}{s:Shared}{K:aj}{x dx C f:Addr}{mA:Str->Option Value}{name:Str}{v:Value}
theorem get_map{expr:Bool}{Q:Value->Shared->Prop}(X:K.In s.heap)(I:tT s.heap x dx C mA)(hg:DU K C name=true)(hh:Lx K C=true)
  (ha:kJ K (.ref C) name=some none) (hv:mA name=some v) (jD:W.handedIn v=true) (h:Q v { s with toks:=s.toks + 1 }):
  wpAny (model prog w) A (getAttr (.ref x) name expr) Q E s:=by
 obtain⟨od,J,hl⟩:=I.look;exact W.get_value X J (Ud hg).1 (W.findObj_own hh ha rfl (by rw[hl,hv])) jD h
theorem VG{pl:Sem Bool}{Q:Value×List Value->Shared->Prop}(X:K.In s.heap)(I:tT s.heap x dx C mA)(hg:DU K C name=true)
  (hf:kJ K (.ref C) name=some (some (.ref f))) (ht:tw K (.ref f)=true) (hv:mA name=none) (h:Q (.ref f, [.ref x]) s):
  wpAny (model prog w) A (AR (.ref x) name pl) Q E s:=by
 obtain⟨od,J,hl⟩:=I.look;exact W.method_fn X J (Ud hg).1 (Ud hg).2 hf (beq_iff_eq.mp ht) (by show(Lw name od).map (·.isSome)=some false;rw[hl,hv];rfl) h
theorem VH{ns:List Str}{Q:Unit->Shared->Prop}(X:K.In s.heap)(I:tT s.heap x dx C mA)
  (hs:kJ K (.ref C) "__setattr__"=some (some (.builtin "object.__setattr__"))) (hp:Ue K C=true) (ht:W.takerIn K C name=some none) (hh:Lx K C=true)
  (hw:T8 mA ns) (hsz:ns.length<=aM)
  (h:∀h',tT h' x dx C (λy=>if y=name then some v else mA y)->Lu dx s.heap h'->Q () { s with heap:=h',toks:=s.toks + 2 }):
  wpAny (model prog w) A (setAttr (.ref x) name v) Q E s:=by
 obtain⟨od,J,hl⟩:=I.look;refine W.set_plain X J hs (W.osa_open (s:= { s with toks:=s.toks + 1 }) (r:=none) X J hp ht λb=> ?_);obtain⟨cd,hc,qy⟩:=W.any_some hh;have hx:s.heap.get? x=some ⟨.ref C,some dx, .plain,#[]⟩:=I.obj;refine bq (dw (bq (bq (wpAny_loadPart hx (bq (W.Looks.here (s:= { s with toks:=s.toks + 1 }) (W.looks_clsIn X hc) ?_))))));rw[qy];refine dw (a:=some dx) (bq (dw (bq ?_)));refine wpAny_nsSet1 (s:= { s with toks:=s.toks + 1 }) I.ns λh' rV pQ=> ?_;obtain⟨oD,ahn,aho,VI,VJ,VM⟩:=rV.count (T8.cons name v hw);refine bq (wpAny_lookBehind VI (by rw[VJ];exact pastItsLine_dict (bO VM (by rw[gc];lia))) ?_);exact dw (h _ ⟨(pQ.2 _ (jO I.ne)).trans I.obj,rV,I.ne⟩ pQ)
theorem VN{R:Result->Shared->Prop}{vs:List Value}{kw:List (Str×Value)}(X:K.In s.heap)(hm:W.makesIn K C=true)
  (hi:kJ K (.ref C) "__init__"=some (some (.ref f))) (hf:W.typeIn K (.ref f)=some (.type "function"))
  (h:mw (model prog w) (A.under (.builtin "type.__call__" ⟨.ref C::vs,kw⟩)) (.call (.ref f) ⟨.ref (s.heap.objs.size + 1)::vs,kw⟩) (W.InitBack (s.heap.objs.size + 1) R)
   { s with heap:=(s.heap.push tE).push (vf C s.heap.objs.size) }):
  mw (model prog w) A (.call (.ref C) ⟨vs,kw⟩) R s:=by
 obtain⟨hh,g,d,t,os⟩:=s;exact W.make_core (W.makes_of X hm) (W.looks_findIn X hi) (λself=>W.bind_fn X self hf) (.inl rfl) h
end
noncomputable def jE (f:Str) (v:V):List (Str×V)->List (Str×V)
 | []=> [(f,v)]
 |(g,x)::r=>if g=f then(g,v)::r else(g,x)::jE f v r
theorem Mv(f g:Str)(v:V):∀fs:List (Str×V),(jE f v fs).lookup g=if g=f then some v else fs.lookup g
 | []=>by
  show tF g [(f,v)]=_;by_cases h:g=f
  ·have hb:(g == f)=true:=beq_iff_eq.mpr h;simp only[tF,hb,if_pos h]
  ·have hb:(g == f)=false:=beq_eq_false_iff_ne.mpr h;simp only[tF,hb,if_neg h]
 |(k,x)::r=>by
  have ih:=Mv f g v r;rw[show jE f v ((k,x)::r)=(if k=f then(k,v)::r else(k,x)::jE f v r) from rfl];by_cases hk:k=f
  ·rw[if_pos hk];by_cases h:g=k
   ·have hb:(g == k)=true:=beq_iff_eq.mpr h;simp only[tF,hb,if_pos (h.trans hk)]
   ·have hb:(g == k)=false:=beq_eq_false_iff_ne.mpr h;simp only[tF,hb,if_neg (λe:g=f=>h (e.trans hk.symm))]
  ·rw[if_neg hk];by_cases h:g=k
   ·have hb:(g == k)=true:=beq_iff_eq.mpr h;simp only[tF,hb,if_neg (λe:g=f=>hk (h.symm.trans e))]
   ·have hb:(g == k)=false:=beq_eq_false_iff_ne.mpr h;simp only[tF,hb];exact ih
theorem Ez(f:Str)(v:V):∀fs:List (Str×V),f∈(jE f v fs).map (·.1)/\∀g,g∈fs.map (·.1)->g∈(jE f v fs).map (·.1)
 | []=>⟨by simp[jE],λg h=>by simp at h⟩
 |(k,x)::r=>by
  obtain⟨i1,i2⟩:=Ez f v r;rw[show jE f v ((k,x)::r)=(if k=f then(k,v)::r else(k,x)::jE f v r) from rfl];by_cases hk:k=f
  ·rw[if_pos hk];subst hk;exact⟨by simp,λg h=>by simpa using h⟩
  ·rw[if_neg hk];refine⟨?_,λg h=> ?_⟩
   ·rw[eI];exact my _ i1
   ·rw[eI]at h |-;rcases fX.mp h with e | e
    ·exact fX.mpr (.inl e)
    ·exact my _ (i2 g e)
theorem Mw(f:Str)(v:V):∀fs:List (Str×V),(jE f v fs).length<=fs.length + 1
 | []=>by simp[jE]
 |(k,x)::r=>by
  have ih:=Mw f v r;rw[show jE f v ((k,x)::r)=(if k=f then(k,v)::r else(k,x)::jE f v r) from rfl];by_cases hk:k=f
  ·rw[if_pos hk,gc,gc];lia
  ·rw[if_neg hk,gc,gc];lia
theorem jP.some_of{v:V}{o:Option Value}(r:jP (some v) o):∃u,o=some u/\RelV v u:=by
 cases o with
 |none=>exact(show False from r).elim
 |some u=>exact⟨u,rfl,r⟩
theorem jP.none_of{o:Option Value}(r:jP none o):o=none:=by
 cases o with
 |none=>rfl
 |some u=>exact(show False from r).elim
theorem VO{v:V}{u:Value}(r:RelV v u):W.handedIn u=true:=by
 cases v with
 |aE=>cases(show u=DS from r);rfl
 |bl b=>cases(show u=xO b from r);rfl
 |int i=>obtain⟨t,e⟩:=(show ∃t,u=xN i t from r);cases e;rfl
 |str x=>obtain⟨t,e⟩:=(show ∃t,u=AX x t from r);cases e;rfl
 |xW b=>obtain⟨t,e⟩:=(show ∃t,u=Value.bytes b t from r);cases e;rfl
 |j9 b=>obtain⟨t,e⟩:=(show ∃t,u=Ls b t from r);cases e;rfl
 |ref a=>cases(show u=gA a from r);rfl
 |ty n=>cases(show u=ve n from r);rfl
section
variable {P:Program}{w:World}{H H':Hp}{h h':Heap}{a C dx:Addr}
theorem ka(ba:gT P w H h)(e:H a=some (.ins C dx fs)):∃mA,tT h a dx C mA/\(∀f,jP (fs.lookup f) (mA f))/\T8 mA (fs.map (·.1))/\fs.length<=1000/\H dx=some (.own a):=by
 obtain⟨d,z,ne,ob,mA,n,r,q⟩:=(show fY P w H h a (.ins C dx fs) from ba a _ e)
 exact⟨mA,⟨ob,n,ne⟩,r,q,z,d⟩
end
structure kO(K:aj)(C:Addr):Prop where
 pg:DU K C Str.empty=true
 hd:Lx K C=true
 po:Ue K C=true
 sa:kJ K (.ref C) "__setattr__"=some (some (.builtin "object.__setattr__"))
theorem kO.get{K:aj}{C:Addr}(c:kO K C)(f:Str):DU K C f=true:=c.pg
def iU(K:aj)(C:Addr)(f:Str):Prop:=kJ K (.ref C) f=some none
theorem iU.VP{K:aj}{C:Addr}{f:Str}(n:iU K C f):W.takerIn K C f=some none:=by
 unfold W.takerIn;rw[show kJ K (.ref C) f=some none from n];rfl
structure DL(K:aj)(C:Addr)(m:Str)(f:Addr):Prop where
 at_:kJ K (.ref C) m=some (some (.ref f))
 fn:tw K (.ref f)=true
 kp:vg K (.ref f)=true
section
variable {X:Cx}{aa:List (Addr×Obj)}{σ:St}{H:Hp}{s:Shared}{a C dx:Addr}{f:Str}{v:V}{A:Around}{E:Value->Shared->Prop}
theorem VQ{b:Bool}{Q:Value->Shared->Prop}(I:Inv X aa σ H s)(e:H a=some (.ins C dx fs))(c:kO X.K C)(n:iU X.K C f)(l:fs.lookup f=some v)
  (h:∀u s',Inv X aa σ H s'->RelV v u->Q u s'):wpAny (model X.prog X.w) A (getAttr (.ref a) f b) Q E s:=by
 obtain⟨mA,O,r,_,_,_⟩:=ka I.ba e;obtain⟨u,hu,ru⟩:=jP.some_of (v:=v) (o:=mA f) (by rw[<- l];exact r f);exact get_map I.gg O (c.get f) c.hd n hu (VO ru) (h u _ (I.tok _) ru)
theorem Mx{pl:Sem Bool}{Q:Value×List Value->Shared->Prop}(I:Inv X aa σ H s)(e:H a=some (.ins C dx fs))(c:kO X.K C)(k:DL X.K C m g)(l:fs.lookup m=none)
  (h:Q (.ref g, [.ref a]) s):wpAny (model X.prog X.w) A (AR (.ref a) m pl) Q E s:=by
 obtain⟨mA,O,r,_,_,_⟩:=ka I.ba e;have hn:mA m=none:=jP.none_of (by rw[<- l];exact r m);exact VG I.gg O (c.get m) k.at_ k.fn hn h
theorem VR{u:Value}{Q:Unit->Shared->Prop}(I:Inv X aa σ H s)(e:H a=some (.ins C dx fs))(c:kO X.K C)(n:iU X.K C f)(hl:fs.length < 1000)(ry:RelV y u)
  (h:∀s',Inv X aa σ (upd H a (.ins C dx (jE f y fs))) s'->Q () s'):wpAny (model X.prog X.w) A (setAttr (.ref a) f u) Q E s:=by
 obtain⟨mA,O,r,wi,_,ho⟩:=ka I.ba e;have hz:(fs.map (·.1)).length<=aM:=by rw[eS,Ld];lia
 refine VH I.gg O c.sa c.po n.VP c.hd wi hz λh' O' sb=>h _ ?_;have hd:∃o,h'.get? dx=some o:=let ⟨o,_,_,e',_⟩:=O'.ns;⟨o,e'⟩;refine I.write (x:=a) (e:=dx) (by rw[e];exact kK) (.inr ho) (λb q hb z=>(sb.2 b hb).trans z) hd ?_;refine⟨by rw[bA O.ne];exact ho, ?_,O.ne,O'.obj,_,O'.ns,λg=> ?_,λg hg=> ?_⟩
 ·have:=Mw f y fs;lia
 ·show jP ((jE f y fs).lookup g) (if g=f then some u else mA g);rw[Mv];by_cases q:g=f
  ·rw[if_pos q,if_pos q];exact ry
  ·rw[if_neg q,if_neg q];exact r g
 ·by_cases q:g=f
  ·rw[q];exact(Ez f y fs).1
  ·refine(Ez f y fs).2 g (wi g λz=>hg ?_);show(if g=f then some u else mA g)=none;rw[if_neg q];exact z
theorem Inv.made(I:Inv X aa σ H s):Inv X aa σ (upd (upd H s.heap.objs.size (.own (s.heap.objs.size + 1))) (s.heap.objs.size + 1) (.ins C s.heap.objs.size []))
  { s with heap:=(s.heap.push tE).push (vf C s.heap.objs.size) }:=by
 have e1:(s.heap.push tE).get? s.heap.objs.size=some tE:=jz s.heap rfl;have e2:((s.heap.push tE).push (vf C s.heap.objs.size)).get? (s.heap.objs.size + 1)=some (vf C s.heap.objs.size):=by
  have:=jz (s.heap.push tE) (o:=vf C s.heap.objs.size) rfl;rwa [tG]at this
 have e3:(s.heap.push tE).Ns s.heap.objs.size (λ_=>none):=⟨tE,#[],_,e1,rfl,(λe he=>absurd he (by simp)),λ_=>rfl⟩
 have I1:=I.laid (a:=s.heap.objs.size) (o:= .own (s.heap.objs.size + 1)) (h':=s.heap.push tE) (t':=s.toks) (λb u q=>gB _ q) (bX _) ⟨_,e1⟩;refine I1.laid (a:=s.heap.objs.size + 1) (o:= .ins C s.heap.objs.size []) (t':=s.toks) (λb u q=>gB _ q) (Ug (tG _ _)) ?_;have ne:s.heap.objs.size≠s.heap.objs.size + 1:=jy (DV _);refine⟨by rw[bA ne,eJ],j8 _,ne,e2,λ_=>none,(Heap.Ns1.of_empty e3).at λo q=>gB _ q,λ_=>kK,λy hy=>absurd rfl hy⟩
theorem VT{prog:Program}{w:World}{e:Expr}{f:Str}{pos:Pos}{s:Shared}{Q:Value->Shared->Prop}(hb:qo e f env (eval e env)=eval e env)
  (h:wpAny (model prog w) A (eval e env) (λo eB=>wpAny (model prog w) A (getAttr o f true) Q E eB) E s):wpAny (model prog w) A (eval (.Attribute e f pos) env) Q E s:=
 Attribute_any_ h (by rw[arm_eval_Attribute,hb])
end
def yk(K:aj)(ta:TE)(f:Str):TE:=λσ H Q=>ta σ H λx H1=>∃a C dx fs v,x= .ref a/\H1 a=some (.ins C dx fs)/\kO K C/\iU K C f/\fs.lookup f=some v/\Q v H1
def EA(K:aj)(ta tv:TE)(f:Str):TS:=λD σ H=>tv σ H λy H1=>ta σ H1 λx H2=>∃a C dx fs,x= .ref a/\H2 a=some (.ins C dx fs)/\kO K C/\iU K C f/\fs.length < 1000/\
 D.nx σ (upd H2 a (.ins C dx (jE f y fs)))
section
variable {X:Cx}{o e value:Expr}{f:Str}{pos pos' ahp:Pos}
theorem VU(he:PE X e ta)(hb:qo e f X.env (eval e X.env)=eval e X.env):PE X (.Attribute e f pos) (yk X.K ta f):=by
 intro aa s σ H Q I h;refine VT hb (bP (he aa s σ H _ I h) λu s1 ⟨x,H1,I1,rx,a,C,dx,fs,v,ex,ea,c,n,l,q⟩=> ?_);subst ex;obtain rfl:u=gA a:=rx;exact VQ I1 ea c n l λu' s2 I2 ru=>⟨v,H1,I2,ru,q⟩
theorem VW(ha:PE X o ta)(hv:PE X value tv)(hs:xE value (some (.Attribute o f pos')) pos.line X.env=pure false):PS X (.Assign [.Attribute o f pos'] value pos) (EA X.K ta tv f):=by
 intro aa s σ H D I h;refine plainObj_wpAny_Assign_Attribute (bP (hv aa s σ H _ I h) λu s1 ⟨y,H1,I1,ry,q⟩=>bP (ha aa s1 σ H1 _ I1 q) λov s2 ⟨x,H2,I2,rx,a,C,dx,fs,ex,ea,c,n,l,q2⟩=> ?_) hs;subst ex;obtain rfl:ov=gA a:=rx;exact VR I2 ea c n l ry λs3 I3=>⟨σ,_,I3,q2⟩
end
section
variable {X:Cx}{aa:List (Addr×Obj)}{σ:St}{H:Hp}{s:Shared}{A:Around}{E:Value->Shared->Prop}{Q:Value->Shared->Prop}
inductive kP(K:aj)(H:Hp):V->Value->Prop where
 |aE:kP K H .aE (.type "NoneType")
 |bl (x:Bool):kP K H (.bl x) (.type "bool")
 |int (i:Int):kP K H (.int i) (.type "int")
 |str (x:Str):kP K H (.str x) (.type "str")
 |j9 (x:UInt64):kP K H (.j9 x) (.type "float")
 |lst {a:Addr} {xs:List V} (e:H a=some (.lst xs)):kP K H (.ref a) (.type "list")
 |cD {a:Addr} {o:Obj} {xs:List V} (e:H a=some (.cD o (.lst xs))):kP K H (.ref a) (.type "list")
 |tup {a:Addr} {xs:List V} (e:H a=some (.tup xs)):kP K H (.ref a) (.type "tuple")
 |dK {a:Addr} {ah:List (bw×V)} (e:H a=some (.dK ah)):kP K H (.ref a) (.type "dict")
 |dT {a:Addr} {ah:List (List bw×V)} (e:H a=some (.dT ah)):kP K H (.ref a) (.type "dict")
 |ins {a C dx:Addr} {fs:List (Str×V)} (e:H a=some (.ins C dx fs)) (cl:kO K C) (ha:kJ K (.ref C) "__class__"=some (some (.builtin "object.__class__")))
   (hn:W.specialIn K (.builtin "object.__class__") "__get__"=some (some (.builtin "getset_descriptor.__get__"))) (Bm:W.takesIn K (.builtin "object.__class__")=some true)
   (hm:W.mroIn K C (.type "object")=some true):kP K H (.ref a) (.ref C)
theorem VX{x:V}{u t:Value}(I:Inv X aa σ H s)(rx:RelV x u)(ty:kP X.K H x t)(e:vh X.K t c=some b)(h:∀tk,Q (.bool b) { s with toks:=tk }):
  wpAny (model X.prog X.w) A (call (.builtin "isinstance") [u,c]) Q E s:=by
 cases ty with
 |aE=>cases(show u=DS from rx);exact qp W.kitx_none I.gg kK e (λz=>nomatch z) h
 |bl y=>cases(show u=xO y from rx);exact qp W.kitx_bool I.gg kK e (λz=>nomatch z) h
 |int i=>obtain⟨t,q⟩:=(show ∃t,u=xN i t from rx);cases q;exact qp W.kitx_int I.gg kK e (λz=>nomatch z) h
 |str y=>obtain⟨t,q⟩:=(show ∃t,u=AX y t from rx);cases q;exact qp W.kitx_str I.gg kK e (λz=>nomatch z) h
 |j9 y=>obtain⟨t,q⟩:=(show ∃t,u=Ls y t from rx);cases q;exact qp W.kitx_float I.gg kK e (λz=>nomatch z) h
 | @lst a xs ea=>
  cases(show u=gA a from rx);obtain⟨_,_,n,_,h1⟩:=(show fY X.prog X.w H s.heap a (.lst xs) from I.ba a _ ea)
  exact qp Ly I.gg ⟨_,h1,rfl⟩ e (λz=>nomatch z) h
 | @cD a ob xs ea=>
  cases(show u=gA a from rx);obtain⟨_,_,_,n,_,h1⟩:=(show fY X.prog X.w H s.heap a (.cD ob (.lst xs)) from I.ba a _ ea)
  exact qp Ly I.gg ⟨_,h1,rfl⟩ e (λz=>nomatch z) h
 | @tup a xs ea=>
  cases(show u=gA a from rx);obtain⟨_,_,_,p⟩:=(show fY X.prog X.w H s.heap a (.tup xs) from I.ba a _ ea)
  obtain⟨o,h1,h2,_⟩:=p;exact qp W.kitx_tuple I.gg ⟨o,h1,h2⟩ e (λz=>nomatch z) h
 | @dK a ah ea=>
  cases(show u=gA a from rx);obtain⟨_,_,vs,_,p⟩:=(show fY X.prog X.w H s.heap a (.dK ah) from I.ba a _ ea)
  obtain⟨o,es,ep,h1,h2,_⟩:=p;exact qp Lz I.gg ⟨o,h1,h2.1⟩ e (λz=>nomatch z) h
 | @dT a ah ea=>
  cases(show u=gA a from rx);obtain⟨_,_,xs,_,o,es,ep,h1,h2,_⟩:=(show fY X.prog X.w H s.heap a (.dT ah) from I.ba a _ ea)
  exact qp Lz I.gg ⟨o,h1,h2.1⟩ e (λz=>nomatch z) h
 | @ins a C dx fs ea cl ha hn Bm hm=>
  cases(show u=gA a from rx);obtain⟨mA,O,_⟩:=ka I.ba ea;obtain⟨od,J,_⟩:=O.look;exact qp (W.kitx_own (cl.get _) cl.hd ha hn Bm hm) I.gg J e (λz=>nomatch z) h
end
structure fZ(k:Nat)(A:Around):Prop where
 hd:A.handled=none
 dp:A.depth + 3 * k + 5 < recursionLimit
 un:A.units + 16 * k + 200 < cLine
 gd:A.guards=some []
theorem fZ.mono{A:Around}(r:fZ k A)(h:j<=k):fZ j A:=⟨r.hd,by have:=r.dp;lia,by have:=r.un;lia,r.gd⟩
theorem fZ.deeper{A:Around}(r:fZ (k + 1) A)(env:Env):fZ k (A.deeper env):=
 ⟨r.hd,by have:=r.dp;show A.depth + 1 + 3 * k + 5 < _;lia,by have:=r.un;show A.units + 3 + 16 * k + 200 < _;lia,r.gd⟩
theorem fZ.in1{A:Around}(r:fZ (k + 1) A):fZ k A.in1:=
 ⟨r.hd,by have:=r.dp;show A.depth + 3 * k + 5 < _;lia,by have:=r.un;show A.units + 1 + 16 * k + 200 < _;lia,r.gd⟩
theorem VY{A:Around}{C:Addr}:(A.under (.builtin "type.__call__" ⟨.ref C::us,kw⟩)).depth=A.depth + 1:=by
 first | rfl | simp[LA,Code.weight,Code.isCreation,Code.isGuard,Code.isCaller,Code.frames,Uh,guardIds]
theorem VZ{A:Around}{C:Addr}:(A.under (.builtin "type.__call__" ⟨.ref C::us,kw⟩)).units=A.units + 1:=by
 first | rfl | simp[LA,Code.cUnits,Code.frames,Uh]
theorem fZ.make{A:Around}(r:fZ (k + 1) A)(C:Addr)(us:List Value)(kw:List (Str×Value)):fZ k (A.under (.builtin "type.__call__" ⟨.ref C::us,kw⟩)):=
 ⟨r.hd,by have:=r.dp;rw[VY];lia,by have:=r.un;rw[VZ];lia,by first | exact r.gd | (have:=r.gd;simpa[LA,Code.isGuard,guardIds]using this)⟩
theorem fZ.depth{A:Around}(r:fZ k A):A.depth < recursionLimit:=by have:=r.dp;lia
theorem fZ.units{A:Around}(r:fZ k A):A.units + 64 < cLine:=by have:=r.un;lia
def gU:TA:=λ_ H Q=>Q [] H
def e9(ta:TE)(tr:TA):TA:=λσ H Q=>ta σ H λx H1=>tr σ H1 λxs H2=>Q (x::xs) H2
section
variable {X:Cx}{e:Expr}{es:List Expr}{te:TE}{t:TA}{pos:Pos}
theorem gM:PA X [] gU:=λ_ _ _ _ H Q I h=>agG ⟨[],H,I, .nil,h⟩
theorem bh(ha:PE X e te)(hr:PA X es t)(hs:dh (e::es) X.env=(false,eval e X.env)::dh es X.env:=by rfl):PA X (e::es) (e9 te t):=by
 intro pos aa s σ H Q I h;rw[hs];show wpAny _ _ (spliced ((false,eval e X.env)::backTo pos (dh es X.env))) _ _ s;refine Ui (bP (ha aa s σ H _ I h) λu s1 ⟨x,H1,I1,r1,q1⟩=> ?_);exact bP (hr pos aa s1 σ H1 _ I1 q1) λus s2 ⟨xs,H2,I2,r2,q2⟩=>⟨x::xs,H2,I2, .cons r1 r2,q2⟩
def rW(t:TA):TE:=λσ H Q=>t σ H λxs H1=>xs.length<=aM/\∀p,H1 p=none->Q (.ref p) (upd H1 p (.tup xs))
def vQ(t:TA):TE:=λσ H Q=>t σ H λxs H1=>xs.length<=aM/\∀p,H1 p=none->Q (.ref p) (upd H1 p (.lst xs))
theorem gu{x1}(h:PA X es t):PE X (.Tuple es x1 pos) (rW t):=by
 intro aa s σ H Q I hq;refine wpAny_Tuple_spliced (bP (h pos aa s σ H _ I hq) λus s1 ⟨xs,H1,I1,r,z,q⟩=>⟨by rw[<- r.length];exact z, ?_⟩);have hf:H1 s1.heap.objs.size=none:=I1.ba.fresh (bX _);refine⟨.ref s1.heap.objs.size,upd H1 s1.heap.objs.size (.tup xs),I1.laid (t':=s1.toks) (λb u e=>gB _ e) (bX _) ?_,rfl,q _ hf⟩;exact⟨z,us,r,⟨_,jz _ rfl,rfl,_,rfl⟩⟩
theorem iV(h:PA X es t):PE X (.List es pos) (vQ t):=by
 intro aa s σ H Q I hq;refine wpAny_List_spliced (bP (h pos aa s σ H _ I hq) λus s1 ⟨xs,H1,I1,r,z,q⟩=>⟨by rw[<- r.length];exact z, ?_⟩);have hf:H1 s1.heap.objs.size=none:=I1.ba.fresh (bX _);refine⟨.ref s1.heap.objs.size,upd H1 s1.heap.objs.size (.lst xs),I1.laid (t':=s1.toks) (λb u e=>gB _ e) (bX _) ?_,rfl,q _ hf⟩;exact⟨z,us,0,r,jz _ rfl⟩
end
abbrev Sp:=List V->Hp->VK->XK->Prop
abbrev qH:=List Env->Hp->Shared->XK->Value->Shared->Prop
structure pU(P:Program)(w:World)(K:aj)(mg:Str->Option Value)(base:Heap)(A:Around)(outer:List Env)(s:Shared)(H:Hp):Prop where
 frames:A.frames=some outer
 mod:Mod K mg base
 bs:∀b o,base.get? b=some o->s.heap.get? b=some o/\H b=none
 pK:base.objs.size<=s.heap.objs.size
 mE:s.heap.FunFrames base outer
 rK:∀b∈lO outer,H b=none
 ba:gT P w H s.heap
 bare:u1 s.gens
def CE(outer:List Env)(P:Program)(w:World)(H:Hp)(s:Shared)(Q:VK)(u:Value)(s':Shared):Prop:=
 ∃v H',s'.os=s.os/\u1 s'.gens/\Un (lO outer) [] H H' s.heap s'.heap/\gT P w H' s'.heap/\RelV v u/\Q v H'
def CR(CX:qH)(outer:List Env)(P:Program)(w:World)(H:Hp)(s:Shared)(Q:VK)(E:XK)(r:Result)(s':Shared):Prop:=
 match r with
 |.ok (.ret u)=>CE outer P w H s Q u s'
 |.ok _=>False
 |.error e=>CX outer H s E e s'
structure cz(P:Program)(w:World)(K:aj)(mg:Str->Option Value)(base:Heap)(CX:qH)(k:Nat)(f:Addr)(fd:j7)(ps:List Str)(sp:Sp):Prop where
 len:∀vs H Q E,sp vs H Q E->vs.length=ps.length
 run:∀(A:Around) (outer:List Env) (s:Shared) (H:Hp) (args:Args) (us:List Value) (vs:List V) (Q:VK) (E:XK),fZ k A->pU P w K mg base A outer s H->AS s fd args (ps.zip us)->bJ vs us->sp vs H Q E->
  mw (model P w) A (.call (.ref f) args) (CR CX outer P w H s Q E) s
theorem cz.imp{P:Program}{w:World}{K:aj}{f:Addr}{sp My:Sp}(F:cz P w K mg base CX k f fd ps sp)
  (h:∀vs H Q E,My vs H Q E->sp vs H Q E):cz P w K mg base CX k f fd ps My:=
 ⟨λvs H Q E q=>F.len vs H Q E (h _ _ _ _ q),λA outer s H args us vs Q E hr he hb hv hs=>F.run A outer s H args us vs Q E hr he hb hv (h _ _ _ _ hs)⟩
theorem pU.make{P:Program}{w:World}{K:aj}{A:Around}{s:Shared}{H:Hp}(e:pU P w K mg base A outer s H)(C:Addr)(us:List Value)(kw:List (Str×Value)):
  pU P w K mg base (A.under (.builtin "type.__call__" ⟨.ref C::us,kw⟩)) outer s H:=⟨by first | exact e.frames | (simpa[LA,Code.envs,Uh,pushEnvs]using e.frames),e.mod,e.bs,e.pK,e.mE,e.rK,e.ba,e.bare⟩
theorem pU.in1{P:Program}{w:World}{K:aj}{A:Around}{s:Shared}{H:Hp}(e:pU P w K mg base A outer s H):
  pU P w K mg base A.in1 outer s H:=⟨e.frames,e.mod,e.bs,e.pK,e.mE,e.rK,e.ba,e.bare⟩
section
variable {X:Cx}{aa:List (Addr×Obj)}{σ:St}{H:Hp}{s s':Shared}
theorem Inv.EB(I:Inv X aa σ H s):pU X.prog X.w X.K X.mg X.base X.A X.stack s H:=
 ⟨I.ok.frames,I.ok.mod,I.bs,bO I.ok.pK I.sz,I.stack,I.L4,I.ba,I.bare⟩
theorem Inv.after{Q:VK}{u:Value}(I:Inv X aa σ H s)(h:CE X.stack X.prog X.w H s Q u s'):EP X aa σ Q u s':=by
 obtain⟨v,H',os,bare,un,ba,r,q⟩:=h;obtain⟨hh,g,d,t,EC⟩:=s';obtain rfl:EC=s.os:=os;exact⟨v,H',I.call (h':=hh) (g':=g) (d':=d) (t':=t) (ch:= []) un ba bare (λb z=>absurd z (by simp)),r,q⟩
end
def tU(sp:Sp)(jF:List V)(E:XK)(t:TA):TE:=λσ H Q=>t σ H λvs H1=>sp (vs++jF) H1 Q E
def vR(C:Addr)(m:Str)(sp:Sp)(jF:List V)(E:XK)(ta:TE)(t:TA):TE:=λσ H Q=>ta σ H λx H1=>∃a dx fs,x= .ref a/\H1 a=some (.ins C dx fs)/\fs.lookup m=none/\
 t σ H1 λvs H2=>sp (x::(vs++jF)) H2 Q E
def ED(C:Addr)(sp:Sp)(jF:List V)(E:XK)(t:TA):TE:=λσ H Q=>t σ H λvs H1=>∀x dx,H1 x=none->H1 dx=none->dx≠x->
 sp (.ref x::(vs++jF)) (upd (upd H1 dx (.own x)) x (.ins C dx [])) (λv H2=>v= .aE/\Q (.ref x) H2) E
def Binds(K:aj)(fd:j7)(ps:List Str)(ds:List Value):Prop:=
 ∀(s:Shared) (us:List Value),K.In s.heap->(us++ds).length=ps.length->AS s fd ⟨us, []⟩ (ps.zip (us++ds))
theorem Binds.all{K:aj}{ps:List Str}(h:∀us:List Value,us.length=ps.length->bindArgs fd ⟨us, []⟩=pure (ps.zip us)):Binds K fd ps []:=λs us _ hl=>by
 rw[fE]at hl |-;exact .of_eq (h us hl)
def u0(CX:qH)(X:Cx)(E:XK):Prop:=∀(aa:List (Addr×Obj)) (σ:St) (H:Hp) (s:Shared) (e:Value) (s':Shared),Inv X aa σ H s->CX X.stack H s E e s'->X.xe e s'
section
variable {X:Cx}{k:Nat}{f C:Addr}{fd:j7}{ps:List Str}{sp:Sp}{E:XK}{x m:Str}{p pos iB:Pos}{e o:Expr}{es:List Expr}{t:TA}
theorem EE{aa:List (Addr×Obj)}{σ:St}{H:Hp}{s:Shared}{Q:VK}{us:List Value}{vs:List V}(F:cz X.prog X.w X.K X.mg X.base CX k f fd ps sp)(hr:fZ k X.A)(hb:Binds X.K fd ps ds)(hd:bJ jF ds)(hx:u0 CX X E)
  (I:Inv X aa σ H s) (r:bJ vs us) (h:sp (vs++jF) H Q E):wpAny (model X.prog X.w) X.A (call (.ref f) us) (EP X aa σ Q) X.xe s:=by
 have r2:bJ (vs++jF) (us++ds):=r.append hd;have hl:(us++ds).length=ps.length:=by rw[<- r2.length];exact F.len _ _ _ _ h
 refine Le (DN (F.run X.A X.stack s H ⟨us, []⟩ (us++ds) (vs++jF) Q E hr I.EB (hb s us I.gg hl) r2 h) λr s' hq=> ?_);cases r with
 |error e=>exact hx aa σ H s e s' I hq
 |ok fl=>
  cases fl with
  |ret u=>exact I.after hq
  |next=>exact lM hq
  |brk=>exact lM hq
  |cont=>exact lM hq
theorem V0(F:cz X.prog X.w X.K X.mg X.base CX k f fd ps sp)(hr:fZ k X.A)(hg:Gl X x)(hm:X.mg x=some (.ref f))(hk:vg X.K (.ref f)=true)(hb:Binds X.K fd ps ds)(hd:bJ jF ds)(hx:u0 CX X E)
  (ha:PA X (e::es) t) (mH:(x == ("__debug__":Str))=false:=by decide) (he:dh (e::es) X.env=(false,eval e X.env)::dh es X.env:=by rfl) (dM:(backTo pos (dh es X.env)).any (·.1)=false:=by rfl):
  PE X (.Call (.Name x p) (e::es) [] pos) (tU sp jF E t):=by
 intro aa s σ H Q I h;refine DO (Eg I hg hm ?_ mH);refine Uj (h₀:=X.base) I.ok.mod.xX hk (bP (ha pos aa s σ H _ I h) λus s1 ⟨vs,H1,I1,r,q⟩=>⟨I1.gg, ?_⟩) he dM;exact EE F hr hb hd hx I1 r q
theorem V3{pl:Sem Bool}(he:PE X o ta)(c:kO X.K C)(hm:DL X.K C m f)(F:cz X.prog X.w X.K X.mg X.base CX k f fd ps sp)(hr:fZ k X.A)(hb:Binds X.K fd ps ds)(hd:bJ jF ds)(hx:u0 CX X E)(ha:PA X (e::es) t)
  (tR:dh (e::es) X.env=(false,eval e X.env)::dh es X.env:=by rfl) (dM:(backTo pos (dh es X.env)).any (·.1)=false:=by rfl)
  (ht:eval (.Call (.Attribute o m iB) (e::es) [] pos) X.env=(do
   let ov <- eval o X.env
   AO iB.atName
   let (f,first) <- holding [ov] (AR ov m pl)
   Lf pos f first (backTo pos (dh (e::es) X.env)) (xF pos (xG [] X.env))):=by rfl):
  PE X (.Call (.Attribute o m iB) (e::es) [] pos) (vR C m sp jF E ta t):=by
 intro aa s σ H Q I h;refine W.methodCall_KW (pl:=pl) (bP (he aa s σ H _ I h) λu s1 ⟨x,H1,I1,rx,a,dx,fs,ex,ea,l,q⟩=> ?_) ht;subst ex;obtain rfl:u=gA a:=rx;refine Mx I1 ea c hm l ?_;refine Uj (first:= [.ref a]) (h₀:=X.base) I.ok.mod.xX hm.kp (bP (ha pos aa s1 σ H1 _ I1 q) λus s2 ⟨vs,H2,I2,r,q2⟩=>⟨I2.gg, ?_⟩) tR dM;exact EE (us:= .ref a::us) (vs:= .ref a::vs) F hr hb hd hx I2 (.cons rfl r) q2
theorem V4{pl:Sem Bool}(he:PE X o ta)(c:kO X.K C)(hm:DL X.K C m f)(F:cz X.prog X.w X.K X.mg X.base CX k f fd ps sp)(hr:fZ k X.A)(hb:Binds X.K fd ps ds)(hd:bJ jF ds)(hx:u0 CX X E)
  (ht:eval (.Call (.Attribute o m iB) [] [] pos) X.env=(do
   let ov <- eval o X.env
   AO iB.atName
   let (f,first) <- holding [ov] (AR ov m pl)
   Lf pos f first (backTo pos (dh [] X.env)) (xF pos (xG [] X.env))):=by rfl):
  PE X (.Call (.Attribute o m iB) [] [] pos) (vR C m sp jF E ta gU):=by
 intro aa s σ H Q I h;refine W.methodCall_KW (pl:=pl) (bP (he aa s σ H _ I h) λu s1 ⟨x,H1,I1,rx,a,dx,fs,ex,ea,l,q⟩=> ?_) ht;subst ex;obtain rfl:u=gA a:=rx;refine Mx I1 ea c hm l ?_;exact W.callWith_K0 (first:= [.ref a]) I1.gg hm.kp (EE (us:= [.ref a]) (vs:= [.ref a]) F hr hb hd hx I1 (.cons rfl .nil) q)
structure Mk(K:aj)(C f:Addr):Prop where
 makes:W.makesIn K C=true
 init:kJ K (.ref C) "__init__"=some (some (.ref f))
 fn:tw K (.ref f)=true
 kp:vg K (.ref C)=true
theorem V5{aa:List (Addr×Obj)}{σ:St}{H:Hp}{s:Shared}{Q:VK}{us:List Value}{vs:List V}(M:Mk X.K C f)(F:cz X.prog X.w X.K X.mg X.base CX k f fd ps sp)(hr:fZ (k + 1) X.A)(hb:Binds X.K fd ps ds)(hd:bJ jF ds)
  (hx:u0 CX X E) (I:Inv X aa σ H s) (r:bJ vs us)
  (h:∀x dx,H x=none->H dx=none->dx≠x->sp (.ref x::(vs++jF)) (upd (upd H dx (.own x)) x (.ins C dx [])) (λv H2=>v= .aE/\Q (.ref x) H2) E):
  wpAny (model X.prog X.w) X.A (call (.ref C) us) (EP X aa σ Q) X.xe s:=by
 have hq:=h (s.heap.objs.size + 1) s.heap.objs.size (I.ba.fresh (je _)) (I.ba.fresh (bX _)) (jy (DV _));have I2:=Inv.made (C:=C) I;have r2:bJ (V.ref (s.heap.objs.size + 1)::(vs++jF)) (gA (s.heap.objs.size + 1)::(us++ds)):= .cons rfl (r.append hd);have hl:(gA (s.heap.objs.size + 1)::us++ds).length=ps.length:=by
  have e:=r2.length;rw[F.len _ _ _ _ hq]at e;exact e.symm
 refine Le (VN (f:=f) I.gg M.makes M.init (beq_iff_eq.mp M.fn) (DN (F.run _ X.stack _ _ ⟨gA (s.heap.objs.size + 1)::us, []⟩ (gA (s.heap.objs.size + 1)::(us++ds)) _ _ E (hr.make C us [])
  (I2.EB.make C us []) (hb _ (gA (s.heap.objs.size + 1)::us) I2.gg hl) r2 hq) λr s' ym=> ?_))
 cases r with
 |error e=>exact hx aa σ _ _ e s' I2 ym
 |ok fl=>
  cases fl with
  |ret u=>
   obtain⟨v,H',I3,rv,ev,q3⟩:=I2.after ym;subst ev;exact⟨rv,⟨V.ref (s.heap.objs.size + 1),H',I3,rfl,q3⟩⟩
  |next=>exact lM ym
  |brk=>exact lM ym
  |cont=>exact lM ym
theorem V6(M:Mk X.K C f)(F:cz X.prog X.w X.K X.mg X.base CX k f fd ps sp)(hr:fZ (k + 1) X.A)(hg:Gl X x)(hm:X.mg x=some (.ref C))(hb:Binds X.K fd ps ds)(hd:bJ jF ds)(hx:u0 CX X E)
  (ha:PA X (e::es) t) (mH:(x == ("__debug__":Str))=false:=by decide) (he:dh (e::es) X.env=(false,eval e X.env)::dh es X.env:=by rfl) (dM:(backTo pos (dh es X.env)).any (·.1)=false:=by rfl):
  PE X (.Call (.Name x p) (e::es) [] pos) (ED C sp jF E t):=by
 intro aa s σ H Q I h;refine DO (Eg I hg hm ?_ mH);refine Uj (h₀:=X.base) I.ok.mod.xX M.kp (bP (ha pos aa s σ H _ I h) λus s1 ⟨vs,H1,I1,r,q⟩=>⟨I1.gg, ?_⟩) he dM;exact V5 M F hr hb hd hx I1 r q
variable {ks:List Str}{ahq:Pos}{te ta:TE}{tk:TA}
end
structure eE(N P:List Str)(sc:Scope):Prop where
 kind:sc.kind= .function
 co:sc.isCoroutine=false
 gen:sc.isGenerator=false
 nd:N.Nodup
 pre:N.take P.length=P
 par:∀x∈P,sc.names.lookup x=some .local\/sc.names.lookup x=some .cell
 V7:∀y∈sc.names,y.2≠ .free
theorem Mz{kindOf:Str->Option d6}{x:Str}:∀{binds:List (Str×Value)} {m:Str->Option Value},(∀v,(x,v)∉binds)->bindL kindOf binds m x=m x
 | [],_,_=>rfl
 |(n,v)::r,m,h=>by
  unfold bindL;rw[Mz λw hw=>h w (my _ hw)]
  split
  ·have:x≠n:=by rintro rfl;exact h v tu
   simp[this]
  ·rfl
theorem MA{kindOf:Str->Option d6}{x:Str}:∀{binds:List (Str×Value)} {m:Str->Option Value},(∀v,(x,v)∉binds)->bindC kindOf binds m x=m x
 | [],_,_=>rfl
 |(n,v)::r,m,h=>by
  unfold bindC;rw[MA λw hw=>h w (my _ hw)]
  split
  ·rfl
  ·have:x≠n:=by rintro rfl;exact h v tu
   simp[this]
theorem MB{kindOf:Str->Option d6}{x:Str}{v:Value}:∀{P:List Str} {vs:List Value} {i:Nat} {m:Str->Option Value},P.Nodup->P[i]?=some x->vs[i]?=some v->kindOf x=some .local->
  bindL kindOf (P.zip vs) m x=some v
 | [],_,_,_,_,h,_,_=>by simp at h
 |_::_, [],_,_,_,_,h,_=>by simp at h
 |p::P,w::vs,0,m,nd,h1,h2,hk=>by
  simp at h1 h2;subst h1;subst h2;show bindL kindOf ((p,w)::P.zip vs) m p=_;unfold bindL;rw[Mz λv hv=>(nc.mp nd).1 (Uk hv).1,if_pos hk];simp
 |p::P,w::vs,i + 1,m,nd,h1,h2,hk=>by
  show bindL kindOf ((p,w)::P.zip vs) m x=_;unfold bindL;exact MB (i:=i) (nc.mp nd).2 (by simpa using h1) (by simpa using h2) hk
theorem MC{kindOf:Str->Option d6}{x:Str}{v:Value}:∀{P:List Str} {vs:List Value} {i:Nat} {m:Str->Option Value},P.Nodup->P[i]?=some x->vs[i]?=some v->kindOf x≠some .local->
  bindC kindOf (P.zip vs) m x=some v
 | [],_,_,_,_,h,_,_=>by simp at h
 |_::_, [],_,_,_,_,h,_=>by simp at h
 |p::P,w::vs,0,m,nd,h1,h2,hk=>by
  simp at h1 h2;subst h1;subst h2;show bindC kindOf ((p,w)::P.zip vs) m p=_;unfold bindC;rw[MA λv hv=>(nc.mp nd).1 (Uk hv).1,if_neg hk];simp
 |p::P,w::vs,i + 1,m,nd,h1,h2,hk=>by
  show bindC kindOf ((p,w)::P.zip vs) m x=_;unfold bindC;exact MC (i:=i) (nc.mp nd).2 (by simpa using h1) (by simpa using h2) hk
noncomputable def start (N:List Str) (vs:List V):St:=vs.map some++gC (N.length - vs.length) none
noncomputable def rX (CX:qH) (P:Program) (w:World) (K:aj) (mg:Str->Option Value) (base:Heap) (N:List Str) (qual:Str) (scope:Scope) (f:Addr) (cd:Value) (A:Around) (outer:List Env) (s:Shared) (H:Hp) (E:XK):Cx where
 prog:=P
 w:=w
 K:=K
 mg:=mg
 base:=base
 A:=A.deeper (envOfC qual scope s.heap.objs.size f cd)
 N:=N
 iO:=s
 rJ:=H
 env:=envOfC qual scope s.heap.objs.size f cd
 outer:=outer
 stack:=envOfC qual scope s.heap.objs.size f cd::outer
 ex:= []
 calm:=true
 fn:=λ_=>true
 pn:= []
 xe:=λe s'=>wpAny (model P w) (A.deeper (envOfC qual scope s.heap.objs.size f cd)) (leaving (envOfC qual scope s.heap.objs.size f cd) e) (λ_ EF=>CX outer H s E e EF) (λe' EF=>CX outer H s E e' EF) s'
theorem MD{sc:Scope}{x:Str}(h:sc.names.lookup x=some .cell):∃c,(m8 n sc.names []).lookup x=some c:=by
 have q:=W.cellsFrom_some sc.names n [] (.inl h);exact Ul.mp q
theorem V8{CX:qH}{P:Program}{w:World}{K:aj}{mg:Str->Option Value}{base:Heap}{N ps:List Str}{qual:Str}{scope:Scope}{f:Addr}{cd:Value}{A:Around}{outer:List Env}{s s1:Shared}{H:Hp}{E:XK}{us:List Value}{vs:List V}
  (S:eE N ps scope) (hd:A.handled=none) (e0:pU P w K mg base A outer s H) (hl:vs.length=ps.length) (r:bJ vs us)
  (x:InCallC s s.heap.objs.size (bindL (envOfC qual scope s.heap.objs.size f cd).kindOf (ps.zip us) λ_=>none) (m8 (s.heap.objs.size + 1) scope.names []) (bindC (envOfC qual scope s.heap.objs.size f cd).kindOf (ps.zip us) λ_=>none) s1):
  Inv (rX CX P w K mg base N qual scope f cd A outer s H E) [] (start N vs) H s1:=by
 have dM:ps.length<=N.length:=by have:=congrArg List.length S.pre;rw[DW]at this;lia
 obtain⟨h1,tk,rfl,hk⟩:=x.done;have tV:∀b:Addr,b∉(rX CX P w K mg base N qual scope f cd A outer s H E).ex:=λb z=>absurd (show b∈([]:List Addr) from z) (by simp);refine⟨⟨e0.mod,S.kind,rfl,rfl,bX _,λy z c h1 h2=> ?_,λy hy=> ?_,λy c _ h=> ?_,λ_=>hd,Around.frames_deeper e0.frames, .inr ⟨rfl,rfl⟩,λb z=>absurd z (tV b),e0.bs,e0.pK,λb _ _=>tV b,λb z=>absurd z (tV b),e0.mE,e0.rK⟩,
  rfl,e0.bare,Un.kept hk,⟨_,x.toInCall.ns,λi y v h1 h2 h3=> ?_⟩,λy c h=>⟨_,x.cell y c h⟩,e0.ba.fresh (bX _),λy c h=> ?_,λp hp=>absurd (show p∈([]:List (Addr×Obj)) from hp) (by simp),e0.ba.kept hk, ?_⟩
 ·exact name_of_addr x.apart (vi h1) (vi h2)
 ·have hy:scope.names.lookup y=some .cell\/scope.names.lookup y=some .free:=hy;rcases hy with hy | hy
  ·exact MD hy
  ·exact absurd rfl (S.V7 _ (vi hy))
 ·exact tq (x.above y c (vi h))
 ·have hi:i < vs.length:=by
   unfold start at h2;by_cases hi:i < vs.length
   ·exact hi
   ·rw[bK (by simpa using hi)]at h2;rw[xP]at h2
    split at h2 <;> cases h2
  have ha:vs[i]?=some v:=by
   unfold start at h2;rw[br (by simpa using hi),dF]at h2;cases e:vs[i]? with
   |none=>rw[e]at h2;cases h2
   |some a=>rw[e]at h2;cases h2;rfl
  obtain⟨u,hu,rv⟩:=r.get ha;have hp:ps[i]?=some y:=by
   rw[<- S.pre,Um (by lia)];exact h1
  have ME:ps.Nodup:=by rw[<- S.pre];exact S.nd.sublist (List.take_sublist _ _)
  refine⟨u,rv, ?_⟩;rcases S.par y (gH hp) with k | k
  ·exact .inl ⟨k,MB ME hp hu k⟩
  ·obtain⟨c,e⟩:=MD (n:=s.heap.objs.size + 1) k;refine .inr ⟨.inl k,c,e, ?_⟩;have q:=x.cell y c e;rw[MC ME hp hu (by show scope.names.lookup y≠_;rw[k];decide)]at q;exact q
 ·exact e0.ba.fresh (tq (x.above y c (vi h)))
 ·unfold start;show _=N.length;rw[cc,eS,xQ]
  lia
theorem V9{CX:qH}{P:Program}{w:World}{K:aj}{mg:Str->Option Value}{base:Heap}{k:Nat}{f:Addr}{name qual:Str}{params:Arguments}{body:List Stmt}{scope:Scope}{dV kV doc pm fC ct oc:Value}{an od:Option Addr}
  {oy:Array (Option Value)} {N ps:List Str} {sp:Sp} (lk:K.lookup f=some ⟨oc,od, .func (qr name qual params body scope dV kV doc pm an fC ct),oy⟩) (oh:DX K fC qual=true) (S:eE N ps scope)
  (len:∀vs H Q E,sp vs H Q E->vs.length=ps.length)
  (EG:∀(A:Around) (outer:List Env) (s:Shared) (H:Hp) (vs:List V) (Q:VK) (E:XK),fZ k (A.deeper (envOfC qual scope s.heap.objs.size f fC))->sp vs H Q E->
   ∃t,kM (rX CX P w K mg base N qual scope f fC A outer s H E) body t/\t { nx:=λ_ H'=>Q .aE H',rt:=Q } (start N vs) H):
  cz P w K mg base CX (k + 1) f (qr name qual params body scope dV kV doc pm an fC ct) ps sp:=by
 refine⟨len,λA outer s H args us vs Q E hr e0 hb r rY=> ?_⟩;have hl:=len _ _ _ _ rY;have KX:K.In s.heap:=e0.mod.xX.keeps λb o e=>(e0.bs b o e).1;have lim:s.heap.NoLimit:=e0.mod.nolimit.keeps λb o e=>(e0.bs b o e).1;have oz:∀y∈ps.zip us,scope.names.lookup y.1=some .local\/(scope.names.lookup y.1=some .cell/\((m8 (s.heap.objs.size + 1) scope.names []).lookup y.1).isSome=true):=λ⟨n,v⟩ hy=>by
  rcases S.par n (Uk hy).1 with q | q
  ·exact .inl q
  ·exact .inr ⟨q,W.cellsFrom_some _ _ _ (.inl q)⟩
 refine codeAny_call_function hr.depth (KX _ _ lk) rfl S.co S.gen rfl (W.codeRec_of KX oh) (hb _ _ _ _ ?_);refine wpAny_newFunctionEnv_cells S.kind oz λenv he s1 x=> ?_;subst he;refine⟨lim.keeps x.toInCall.keep,codeAny_func ?_⟩;obtain⟨t,ht,hq⟩:=EG A outer s H vs Q E (hr.deeper _) rY;have I:Inv (rX CX P w K mg base N qual scope f fC A outer s H E) [] (start N vs) H s1:=V8 S hr.hd e0 hl r x;refine lq (ht [] s1 (start N vs) H _ I hq) (λfl s' hs=> ?_) λe s' hs=>hs;have dD:∀{aN:St} {H':Hp} {v:V} {u:Value},Inv (rX CX P w K mg base N qual scope f fC A outer s H E) [] aN H' s'->RelV v u->Q v H'->CE outer P w H s Q u s':=
  λ{aN H' v u} J rv q=>⟨v,H',J.os,J.bare,J.base,J.ba,rv,q⟩
 cases fl with
 |ret u=>
  obtain⟨v,aN,H',J,rv,q⟩:=hs;exact dD J rv q
 |next=>
  obtain⟨aN,H',J,q⟩:=hs;exact dD (v:=V.aE) (u:=DS) J rfl q
 |brk=>
  obtain⟨_,_,_,q⟩:=hs;exact lM q
 |cont=>
  obtain⟨_,_,_,q⟩:=hs;exact lM q
section
variable {X:Cx}{x:Str}{p pos:Pos}{e:Expr}{es:List Expr}{t:TA}{id T:String}{r:List V->Hp->VK->Prop}
def lx(r:List V->Hp->VK->Prop)(t:TA):TE:=λσ H Q=>t σ H λvs H1=>r vs H1 Q
theorem kQ(hc:i4 X (.builtin id) r)(hg:Gl X x)(hm:X.mg x=none)(hv:AN x=some (.builtin id))(ha:PA X (e::es) t)(hn:x≠"__name__":=by decide)(mH:(x == ("__debug__":Str))=false:=by decide)
  (he:dh (e::es) X.env=(false,eval e X.env)::dh es X.env:=by rfl) (dM:(backTo pos (dh es X.env)).any (·.1)=false:=by rfl):PE X (.Call (.Name x p) (e::es) [] pos) (lx r t):=by
 intro aa s σ H Q I h;refine DO (vC I hg hm hv ?_ hn mH);exact PyProof.Rows.callWith_builtin1 (bP (ha pos aa s σ H _ I h) λus s1 ⟨vs,H1,I1,r1,q1⟩=>hc aa s1 σ H1 vs us Q I1 r1 q1) he dM
theorem Bn(hc:i4 X (.type T) r)(hg:Gl X x)(hm:X.mg x=none)(hv:AN x=some (.type T))(ha:PA X (e::es) t)(hn:x≠"__name__":=by decide)(mH:(x == ("__debug__":Str))=false:=by decide)
  (he:dh (e::es) X.env=(false,eval e X.env)::dh es X.env:=by rfl) (dM:(backTo pos (dh es X.env)).any (·.1)=false:=by rfl):PE X (.Call (.Name x p) (e::es) [] pos) (lx r t):=by
 intro aa s σ H Q I h;refine DO (vC I hg hm hv ?_ hn mH);exact Ub (bP (ha pos aa s σ H _ I h) λus s1 ⟨vs,H1,I1,r1,q1⟩=>hc aa s1 σ H1 vs us Q I1 r1 q1) he dM
end
end L2
namespace HT
open PySem PyProof.Rows
section
open PySem.SeqAt
open PySem.AutoSeq1 (wpAny_loadPart')
open PySem.MeetsSeq PySem.MeetsSeq2 PySem.MeetsSeq3
variable {prog:Program}{w:World}{A:Around}{E:Value->Shared->Prop}{s:Shared}
theorem Wa{t b:Addr}{vs ws:List Value}{Q:Value->Shared->Prop}(ht:IsTup s.heap t vs.toArray)(hb:IsTup s.heap b ws.toArray)(hv:vs≠ [])
  (h1:ws= []->Q (.ref t) s) (h2:ws≠ []->Q (.ref s.heap.objs.size) { s with heap:=s.heap.push { cls:= .type "tuple",data:= .seq (vs++ws).toArray } })
  (hsz:vs.length + ws.length<=aM):wpAny (model prog w) A (kE .Add (.ref t) (.ref b)) Q E s:=by
 obtain⟨⟨cls,dd,data,sl⟩,ho,hc,n,hd⟩:=id ht;obtain⟨⟨EH,pV,data2,iw⟩,mI,gq,n2,hd2⟩:=id hb;simp only at hc hd gq hd2;subst hc hd gq hd2;have e:vs.toArray++ws.toArray=(vs++ws).toArray:=by simp
 by_cases hw:ws= []
 ·exact Lg ⟨_,ho,rfl⟩ ⟨_,mI,rfl⟩ TV TX Uo Up (Uq _ _)
   (tuple_addW1 t b vs.toArray ws.toArray n n2 dd pV sl iw (by simpa using hv) (by simp[hw])) ⟨ho,mI,h1 hw⟩
 ·refine Lg ⟨_,ho,rfl⟩ ⟨_,mI,rfl⟩ TV TX Uo Up (Uq _ _)
   (tuple_addW2 t b vs.toArray ws.toArray n n2 dd pV sl iw (by simpa using hv) (by simpa using hw) (by rw[gr,gr];exact hsz)) ⟨ho,mI, ?_⟩
  rw[e];exact h2 hw
noncomputable def bY (n d:Nat):Option Int->Nat
 |none=>d
 |some v=>if v < 0 then(v + (n:Int)).toNat else min v.toNat n
theorem EI(n d:Nat):bY n d none=d:=rfl
theorem MF(n d k:Nat):bY n d (some (k:Int))=min k n:=by
 show(if(k:Int) < 0 then((k:Int) + (n:Int)).toNat else min (k:Int).toNat n)=min k n;rw[if_neg (by lia),LB]
theorem Wb(n d:Nat)(hd:d<=n)(o:Option Int):bY n d o<=n:=by
 cases o with
 |none=>exact hd
 |some v=>
  show(if v < 0 then(v + (n:Int)).toNat else min v.toNat n)<=n;by_cases hv:v < 0
  ·rw[if_pos hv];lia
  ·rw[if_neg hv];exact Nat.min_le_right _ _
theorem MG(v:Int)(n d:Nat):(if v < 0 then max (v + (n:Int)) 0 else min v (n:Int))=((bY n d (some v):Nat):Int):=by
 show(if v < 0 then max (v + (n:Int)) 0 else min v (n:Int))=(((if v < 0 then(v + (n:Int)).toNat else min v.toNat n):Nat):Int);by_cases hv:v < 0
 ·simp only[if_pos hv];lia
 ·simp only[if_neg hv];lia
theorem Wc(lo hi:Option Int)(n:Nat):Ur lo hi 1 (n:Int)=(((bY n 0 lo:Nat):Int),((bY n n hi:Nat):Int)):=by
 have h1:¬ ((1:Int) < 0):=by lia
 unfold Ur;simp only[h1,if_false];refine Prod.ext ?_ ?_
 ·cases lo with
  |none=>rfl
  |some v=>exact MG v n 0
 ·cases hi with
  |none=>rfl
  |some v=>exact MG v n n
theorem Wd(i j:Nat):LC (i:Int) (j:Int) 1=j - i:=by
 unfold LC;have h1:(1:Int) > 0:=by lia
 simp only[h1,if_true,Int.ediv_one]
 split <;> lia
theorem MH{v:Value}{o:Option Int}{Q:Option Int->Shared->Prop}(p:IsPart v o)(h:Q o s):wpAny (model prog w) A (Builtin.Slice.slicePartIndex v) Q E s:=by
 cases p with
 |none=>exact slicePart_none h
 |int i t=>exact slicePart_int h
theorem MI{sl:Addr}{vl vu:Value}{lo hi:Option Int}{n:Nat}{Q:Int×Int×Nat->Shared->Prop}(hs:s.heap.IsSliceOf sl vl vu .none)(pl:IsPart vl lo)(pu:IsPart vu hi)
  (h:Q (((bY n 0 lo:Nat):Int),1,bY n n hi - bY n 0 lo) s):wpAny (model prog w) A (agH (.ref sl) (pure (n:Int))) Q E s:=by
 obtain⟨os,tW,yn,yo⟩:=id hs;unfold agH Builtin.Slice.sliceFields;refine bq (bq (TY tW yo (x:=vl) rfl (bq (TY tW yo (x:=vu) rfl (bq (TY tW yo (x:= .none) rfl (dw ?_)))))));refine bq (slicePart_none ?_);show wpAny _ _ (if((1:Int) == 0)=true then _ else _) _ _ s;rw[if_neg (by decide)];refine bq (MH pl (bq (MH pu (bq (dw ?_)))));show wpAny _ _ (match Ur lo hi 1 (n:Int) with | (lo,hi)=>pure (lo,(1:Int),LC lo hi 1)) _ _ s;rw[Wc lo hi n];show wpAny _ _ (pure (((bY n 0 lo:Nat):Int),(1:Int),LC ((bY n 0 lo:Nat):Int) ((bY n n hi:Nat):Int) 1)) _ _ s;rw[Wd];exact dw h
theorem We(xs:Array Value)(i k:Nat):((jJ k).filterMap λ(m:Nat)=>xs[((i:Int) + (m:Int) * 1).toNat]?).toArray=((xs.toList.drop i).take k).toArray:=by
 have e:(λ(m:Nat)=>xs[((i:Int) + (m:Int) * 1).toNat]?)=λm=>xs[i + m]?:=by
  funext m;have:((i:Int) + (m:Int) * 1).toNat=i + m:=by lia
  rw[this]
 rw[e];have:=pick_run xs i k;rw[List.filterMap_map]at this;have e2:((λx=>xs[x]?) ∘ λx=>i + x)=λm=>xs[i + m]?:=rfl;rw[e2]at this;rw[this]
theorem Wh{t sl:Addr}{items:Array Value}{vl vu:Value}{lo hi:Option Int}{Q:Value->Shared->Prop}(ht:IsTup s.heap t items)(hs:s.heap.IsSliceOf sl vl vu .none)(pl:IsPart vl lo)(pu:IsPart vu hi)
  (hw:¬ (bY items.size 0 lo=0/\bY items.size items.size hi=items.size))
  (h:Q (.ref s.heap.objs.size) { s with heap:=s.heap.push { cls:= .type "tuple",data:= .seq ((items.toList.drop (bY items.size 0 lo)).take (bY items.size items.size hi - bY items.size 0 lo)).toArray } })
  (hsz:items.size<=aM):wpAny (model prog w) A (u7 (.ref t) (.ref sl)) Q E s:=by
 have Bo:sizeOk (.seq ((items.toList.drop (bY items.size 0 lo)).take (bY items.size items.size hi - bY items.size 0 lo)).toArray):=by
  show((items.toList.drop (bY items.size 0 lo)).take (bY items.size items.size hi - bY items.size 0 lo)).toArray.size<=aM;rw[gr,DW,xR,Lv]
  lia
 have hj:bY items.size items.size hi<=items.size:=Wb _ _ (bX _) hi;obtain⟨os,tW,yn,yo⟩:=id hs;have EJ:s.TypeIs (.ref sl) "slice":=⟨os,tW,yn⟩
 unfold u7
 try with_reducible refine rE ?_
 first | refine bq (dw ?_) | skip
 refine bq (wpAny_sequenceKey ht.typeIs (by decide) ?_);refine bq (agv (name:=ae "__getitem__") ht.typeIs A0
  (wpAny_call_entry A0 ht.typeIs agw ?_ (args_tuple_getitem _ _)))
 show wpAny _ _ (agI (.ref t) >>= _) _ _ s;refine bq (tupleItemsOf_ ht ?_);refine bq (TZ EJ ?_);rw[if_pos (by decide)];refine bq (MI hs pl pu ?_);have EK:¬ ((((bY items.size 0 lo:Nat):Int) == 0 && (1:Int) == 1 && (bY items.size items.size hi - bY items.size 0 lo) == items.size)=true):=by
  intro q;rw[qt,qt]at q;have q1:((bY items.size 0 lo:Nat):Int)=0:=eq_of_beq q.1.1;have q2:bY items.size items.size hi - bY items.size 0 lo=items.size:=eq_of_beq q.2;exact hw ⟨by lia,by lia⟩
 show wpAny _ _ (if(((bY items.size 0 lo:Nat):Int) == 0 && (1:Int) == 1 && (bY items.size items.size hi - bY items.size 0 lo) == items.size)=true then _ else _) _ _ s;rw[if_neg EK,We]
 first
  |exact bq (m:=LD _) (xH (dw ⟨_,rfl,dw h⟩) Bo)
  |exact bq (m:=LD _) (xH (bq (dw (dw ⟨_,rfl,dw h⟩))) Bo)
  |exact bq (bq (m:=LD _) (xH (dw (dw ⟨_,rfl,dw h⟩)) Bo))
  |exact bq (bq (m:=LD _) (xH (dw ⟨_,rfl,dw h⟩) Bo))
end
end HT
namespace L2
open PySem PySem.Spec PyProof.Rows
abbrev TO:=St->Hp->(Option Int->Hp->Prop)->Prop
def PO(X:Cx)(e:Option Expr)(t:TO):Prop:=
 ∀(aa:List (Addr×Obj)) (s:Shared) (σ:St) (H:Hp) (Q:Option Int->Hp->Prop),Inv X aa σ H s->t σ H Q->
  wpAny (model X.prog X.w) X.A (evalPart e X.env) (λu s'=>∃o H',Inv X aa σ H' s'/\IsPart u o/\Q o H') X.xe s
def EL:TO:=λ_ H Q=>Q none H
def EM(t:TE):TO:=λσ H Q=>t σ H λx H1=>∃i,x= .int i/\Q (some i) H1
section
variable {X:Cx}{e:Expr}{te:TE}{lo hi:Option Expr}{tl th:TO}{pos p2:Pos}
theorem rZ:PO X none EL:=by
 intro aa s σ H Q I h;rw[evalPart_none];exact dw ⟨none,H,I, .none,h⟩
theorem r6(h:PE X e te):PO X (some e) (EM te):=by
 intro aa s σ H Q I hw;rw[evalPart_some];refine bP (h aa s σ H _ I hw) λu s1 ⟨x,H1,I1,r1,q1⟩=> ?_;obtain⟨i,rfl,q⟩:=q1;obtain⟨t,rfl⟩:=r1;exact⟨some i,H1,I1, .int i t,q⟩
def mJ(X:Cx)(r:V->Option Int->Option Int->Hp->VK->Prop):Prop:=
 ∀(aa:List (Addr×Obj)) (s:Shared) (σ:St) (H:Hp) (x:V) (v vl vu:Value) (lo hi:Option Int) (sl:Addr) (Q:VK),Inv X aa σ H s->RelV x v->s.heap.IsSliceOf sl vl vu .none->IsPart vl lo->IsPart vu hi->r x lo hi H Q->
  ∃T id,typeLookup (.type T) "__getitem__"=pure (some (.builtin id))/\s.TypeIs v T/\wpAny (model X.prog X.w) X.A (u7 v (.ref sl)) (EP X aa σ Q) X.xe s
theorem mJ.or{r r':V->Option Int->Option Int->Hp->VK->Prop}(h:mJ X r)(h':mJ X r'):mJ X (λx lo hi H Q=>r x lo hi H Q\/r' x lo hi H Q):=by
 intro aa s σ H x v vl vu lo hi sl Q I rx hs pl pu q;rcases q with q | q
 ·exact h aa s σ H x v vl vu lo hi sl Q I rx hs pl pu q
 ·exact h' aa s σ H x v vl vu lo hi sl Q I rx hs pl pu q
def Bp(r:V->Option Int->Option Int->Hp->VK->Prop)(te:TE)(tl th:TO):TE:=λσ H Q=>te σ H λx H1=>tl σ H1 λl H2=>th σ H2 λu H3=>r x l u H3 Q
theorem r9{r:V->Option Int->Option Int->Hp->VK->Prop}(hr:mJ X r)(he:PE X e te)(hl:PO X lo tl)(hu:PO X hi th):PE X (.Subscript e (.Slice lo hi none p2) pos) (Bp r te tl th):=by
 intro aa s σ H Q I h;refine Subscript_ (bP (he aa s σ H _ I h) λv s1 ⟨x,H1,I1,r1,q1⟩=> ?_);refine wpAny_Slice (bP (hl aa s1 σ H1 _ I1 q1) λvl s2 ⟨l,H2,I2,pl,q2⟩=>bP (hu aa s2 σ H2 _ I2 q2) λvu s3 ⟨u,H3,I3,pu,q3⟩=> ?_);rw[evalPart_none];refine dw ?_;have I4:Inv X aa σ H3 { s3 with heap:=s3.heap.push { cls:= .type "slice",data:= .fields #[vl,vu, .none] } }:=I3.kept (t':=s3.toks) λb ob q=>gB _ q;obtain⟨T,id,hT,ht,hg⟩:=hr aa { s3 with heap:=s3.heap.push { cls:= .type "slice",data:= .fields #[vl,vu, .none] } } σ H3 x v vl vu l u s3.heap.objs.size Q I4 r1 (Heap.IsSliceOf.new ..) pl pu q3;show wpAny (model X.prog X.w) X.A (T2 e (.Slice lo hi none p2) v (.ref s3.heap.objs.size)) (EP X aa σ Q) X.xe { s3 with heap:=s3.heap.push { cls:= .type "slice",data:= .fields #[vl,vu, .none] } };exact tail_any (ops:= [.ref s3.heap.objs.size,v]) ht hT hg (by with_unfolding_all rfl)
def vS(xs:List V)(lo hi:Option Int):List V:=(xs.drop (HT.bY xs.length 0 lo)).take (HT.bY xs.length xs.length hi - HT.bY xs.length 0 lo)
theorem MJ(xs:List V)(lo hi:Option Int):(vS xs lo hi).length<=xs.length:=by
 unfold vS;rw[DW,xR]
 lia
def MK(K:aj):V->Option Int->Option Int->Hp->VK->Prop:=λx lo hi H Q=>∃a xs,x= .ref a/\cP K H a xs/\
 ¬ (HT.bY xs.length 0 lo=0/\HT.bY xs.length xs.length hi=xs.length)/\∀p,H p=none->Q (.ref p) (upd H p (.tup (vS xs lo hi)))
theorem Wi:mJ X (MK X.K):=by
 intro aa s σ H x v vl vu lo hi sl Q I rx hs pl pu h;obtain⟨a,xs,rfl,hx,hw,q⟩:=h;cases rx;obtain⟨au,r,ht,hz⟩:=I.tuple hx;have cU:au.toArray.size=xs.length:=by rw[gr];exact r.length.symm
 refine⟨"tuple",_,A0.lookup,ht.typeIs, ?_⟩;refine HT.Wh ht hs pl pu (by rw[cU];exact hw) ?_ (by rw[cU];exact hz);rw[cU];refine⟨.ref s.heap.objs.size,_,I.laid (t':=s.toks) (o:= .tup (vS xs lo hi)) (λb ob q=>gB _ q) (bX _) ?_,rfl,q _ (I.ba.fresh (bX _))⟩;exact⟨bO (MJ xs lo hi) hz,_,(r.drop (HT.bY xs.length 0 lo)).take (HT.bY xs.length xs.length hi - HT.bY xs.length 0 lo),Us _ _⟩
def EN(K:aj):R2:=λx y H Q=>∃a b xs ys,x= .ref a/\y= .ref b/\cP K H a xs/\cP K H b ys/\xs≠ []/\xs.length + ys.length<=aM/\
 (ys= []->Q (.ref a) H)/\(ys≠ []->∀p,H p=none->Q (.ref p) (upd H p (.tup (xs++ys))))
theorem bJ.EO{xs:List V}(r:bJ xs us):us= []↔xs= []:=by
 cases r with
 |nil=>simp
 |cons _ _=>simp
theorem ML:dJ X (kE .Add) (EN X.K):=by
 intro aa s σ H x y v u Q I rx ry h;obtain⟨a,b,xs,ys,rfl,rfl,ha,hb,hx,hz,q1,q2⟩:=h;cases rx;cases ry;obtain⟨au,r1,p1,_⟩:=I.tuple ha;obtain⟨nz,r2,p2,_⟩:=I.tuple hb;refine HT.Wa p1 p2 (λz=>hx (r1.EO.mp z)) (λz=>⟨.ref a,H,I,rfl,q1 (r2.EO.mp z)⟩) (λz=> ?_) (by rw[<- r1.length, <- r2.length];exact hz);refine⟨.ref s.heap.objs.size,_,I.laid (t':=s.toks) (o:= .tup (xs++ys)) (λb ob q=>gB _ q) (bX _) ?_,rfl,q2 (λw=>z (r2.EO.mpr w)) _ (I.ba.fresh (bX _))⟩;exact⟨by rw[cc];exact hz,_,r1.append r2,Us _ _⟩
end
noncomputable def d7 (n:Nat) (i:Int):Option Nat:=if 0<=i then(if i < n then some i.toNat else none) else if -(n:Int)<=i then some (i + n).toNat else none
def se{α:Type}(xs:List α)(i:Int):Option α:=(d7 xs.length i).bind λj=>xs[j]?
theorem MN(h:d7 n i=some j):seqIndex? i n=some j/\j < n/\ -(n:Int)<=i/\i < n:=by
 unfold d7 at h;by_cases h0:0<=i
 ·rw[if_pos h0]at h;by_cases h1:i < n
  ·rw[if_pos h1]at h;have e:i.toNat=j:=jI h;exact⟨by rw[T3 h0 h1,e],by lia,by lia,h1⟩
  ·rw[if_neg h1]at h;cases h
 ·rw[if_neg h0]at h;by_cases h1: -(n:Int)<=i
  ·rw[if_pos h1]at h;have e:(i + n).toNat=j:=jI h;exact⟨by rw[T4 (by lia) h1,e],by lia,h1,by lia⟩
  ·rw[if_neg h1]at h;cases h
theorem ER{α:Type}{xs:List α}{v:α}(h:se xs i=some v):∃j,seqIndex? i xs.length=some j/\xs[j]?=some v/\j < xs.length/\ -(xs.length:Int)<=i/\i < xs.length:=by
 unfold se at h;cases e:d7 xs.length i with
 |none=>rw[e]at h;cases h
 |some j=>
  rw[e]at h;obtain⟨h1,h2,h3,h4⟩:=MN e;exact⟨j,h1,h,h2,h3,h4⟩
def MO(b:Expr):Prop:=∀o i,subscripted b false o i=operate [o,i] (u7 o i)
def nB(X:Cx)(r:R2):Prop:=
 ∀(value slice:Expr) (aa:List (Addr×Obj)) (s:Shared) (σ:St) (H:Hp) (x y:V) (v u:Value) (Q:VK),Inv X aa σ H s->RelV x v->RelV y u->r x y H Q->
  subscripted slice false v u=operate [v,u] (u7 v u)->wpAny (model X.prog X.w) X.A (T2 value slice v u) (EP X aa σ Q) X.xe s
def ES(X:Cx)(id:String)(r:V->List V->Hp->VK->Prop):Prop:=
 ∀(aa:List (Addr×Obj)) (s:Shared) (σ:St) (H:Hp) (x:V) (xs:List V) (v:Value) (us:List Value) (Q:VK),Inv X aa σ H s->RelV x v->bJ xs us->r x xs H Q->
  wpAny (model X.prog X.w) X.A (call (.builtin id) (v::us)) (EP X aa σ Q) X.xe s
section
variable {X:Cx}
theorem nB.or{r r':R2}(h:nB X r)(h':nB X r'):nB X (λx y H Q=>r x y H Q\/r' x y H Q):=by
 intro value slice aa s σ H x y v u Q I rx ry q hs;rcases q with q | q
 ·exact h value slice aa s σ H x y v u Q I rx ry q hs
 ·exact h' value slice aa s σ H x y v u Q I rx ry q hs
theorem Wj{r:R2}(hr:nB X r)(ha:PE X a ta)(hb:PE X b tb)(hs:MO b):PE X (.Subscript a b pos) (kN r ta tb):=by
 intro aa s σ H Q I h;exact Subscript_ (Et ha hb I h λv u s2 x y H2 I2 rx ry q=>hr a b aa s2 σ H2 x y v u Q I2 rx ry q (hs _ _))
def MP(K:aj):R2:=λx y H Q=>∃p xs i v,x= .ref p/\y= .int i/\cV K H p xs/\se xs i=some v/\Q v H
def MQ(K:aj):R2:=λx y H Q=>∃p xs i v,x= .ref p/\y= .int i/\cP K H p xs/\se xs i=some v/\Q v H
def MR:R2:=λx y H Q=>∃z i c,x= .str z/\y= .int i/\z.length<=aM/\se z.cps.toList i=some c/\Q (.str ⟨#[c]⟩) H
theorem Wk:nB X (MP X.K):=by
 intro value slice aa s σ H x y v u Q I rx ry h hs;obtain⟨p,xs,i,z,rfl,rfl,hq,he,q⟩:=h;cases rx;obtain⟨t,rfl⟩:=ry;obtain⟨au,r,pl,hz⟩:=I.list hq;obtain⟨j,h1,h2,h3,h4,h5⟩:=ER he;obtain⟨w,ew,oA⟩:=r.get h2;have hl:=r.length;have hn:=vP;have dD:EP X aa σ Q w s:=⟨z,H,I,oA,q⟩
 by_cases h0:0<=i
 ·have hj:i.toNat=j:=by
   rw[T3 h0 h5]at h1;exact jI h1
  exact item_listR pl.isList h0 (by lia) (by rw[hj];simpa using ew) dD hs
 ·have hj:(i + (au.toArray.size:Int)).toNat=j:=by
   rw[T4 (by lia) h4]at h1;rw[gr, <- hl];exact jI h1
  exact agx (x:=w) pl.isList.typeIs slot_list_getitem.lookup
   (wpAny_getItem_list_neg (Q:=λr s'=>r=w/\EP X aa σ Q r s') pl.isList (by lia) (by rw[gr]<;> lia) (by lia) (by rw[hj];simpa using ew) ⟨rfl,dD⟩) hs
theorem Wl:nB X (MQ X.K):=by
 intro value slice aa s σ H x y v u Q I rx ry h hs;obtain⟨p,xs,i,z,rfl,rfl,hq,he,q⟩:=h;cases rx;obtain⟨t,rfl⟩:=ry;obtain⟨au,r,pl,hz⟩:=I.tuple hq;obtain⟨j,h1,h2,h3,h4,h5⟩:=ER he;obtain⟨w,ew,oA⟩:=r.get h2;have hl:=r.length;have hn:=vP;have dD:EP X aa σ Q w s:=⟨z,H,I,oA,q⟩
 exact agx (x:=w) pl.typeIs slot_tuple_getitem.lookup
  (getItem_tuple (j:=j) (Q:=λr s'=>r=w/\EP X aa σ Q r s') pl (by lia) (by lia) (by rw[gr, <- hl];exact h1) (by simpa using ew) ⟨rfl,dD⟩) hs
theorem Wm:nB X MR:=by
 intro value slice aa s σ H x y v u Q I rx ry h hs;obtain⟨z,i,c,rfl,rfl,hz,he,q⟩:=h;obtain⟨t,rfl⟩:=rx;obtain⟨t',rfl⟩:=ry;obtain⟨j,h1,h2,h3,h4,h5⟩:=ER he;have hl:z.cps.toList.length=z.length:=by simp[Str.length]
 rw[hl]at h1 h4 h5;have hn:=vP;exact tail_any (typeIs_str s z t) slot_str_getitem.lookup (getItem_str (c:=c) (by
  have e1:decide (i < -(2 ^ 63:Int))=false:=decide_eq_false (by lia);have e2:decide (i≥2 ^ 63)=false:=decide_eq_false (by lia);rw[e1,e2,Bool.or_false]) (by rw[h1];simpa using h2) ⟨.str ⟨#[c]⟩,H,I.tok _,⟨_,rfl⟩,q⟩) hs
def ET(K:aj):R2:=λx y H Q=>MP K x y H Q\/MQ K x y H Q\/MR x y H Q
theorem Wn:nB X (ET X.K):=Wk.or (Wl.or Wm)
theorem Wo(au:List Value)(n j:Nat)(u:Value):oa (·.setIfInBounds j u) { cls:= .type "list",data:= .seq au.toArray n }= { cls:= .type "list",data:= .seq (au.set j u).toArray n }:=by
 simp[oa]
theorem Inv.lst{aa:List (Addr×Obj)}{σ:St}{H:Hp}{s:Shared}{p:Addr}{xs:List V}(I:Inv X aa σ H s)(h:H p=some (.lst xs)):
  ∃(au:List Value) (n:Nat),bJ xs au/\s.heap.get? p=some { cls:= .type "list",data:= .seq au.toArray n }/\xs.length<=aM:=by
 obtain⟨z,au,n,r,e⟩:=I.ba p _ h;exact⟨au,n,r,e,z⟩
theorem Inv.Wq{aa:List (Addr×Obj)}{σ:St}{H:Hp}{s:Shared}{p:Addr}{xs ys:List V}{au its':List Value}{n n':Nat}{f:Obj->Obj}(I:Inv X aa σ H s)(h:H p=some (.lst xs))
  (ho:s.heap.get? p=some { cls:= .type "list",data:= .seq au.toArray n }) (hf:f { cls:= .type "list",data:= .seq au.toArray n }= { cls:= .type "list",data:= .seq its'.toArray n' }) (r:bJ ys its') (hz:ys.length<=aM) (t:Nat):
  Inv X aa σ (upd H p (.lst ys)) { s with heap:=s.heap.update p f,toks:=t }:=by
 have e:(s.heap.update p f).get? p=some { cls:= .type "list",data:= .seq its'.toArray n' }:=by
  rw[DY f ho (by rw[hf]<;> rfl),hf]
 refine I.write (x:=p) (e:=p) (by rw[h];trivial) (.inl rfl) (λb u hb q=>(vj _ _ (jO hb)).trans q) ⟨_,e⟩ ?_;exact⟨hz,its',n',r,e⟩
def MT:V->V->V->Hp->(Hp->Prop)->Prop:=λo i v H Q=>∃p xs k j,o= .ref p/\i= .int k/\H p=some (.lst xs)/\d7 xs.length k=some j/\Q (upd H p (.lst (xs.set j v)))
theorem TH:Em X MT:=by
 intro aa s σ H o i v ov iv u Q I ro ri rv h;obtain⟨p,xs,k,j,rfl,rfl,hp,hj,q⟩:=h;cases ro;obtain⟨t,rfl⟩:=ri;obtain⟨au,n,r,ho,hz⟩:=I.lst hp;obtain⟨h1,h2,h3,h4⟩:=MN hj;have hl:=r.length;have hn:=vP;have I':Inv X aa σ (upd H p (.lst (xs.set j v))) { s with heap:=s.heap.update p (oa (·.setIfInBounds j u)) }:=
  I.Wq hp ho (Wo au n j u) (r.set rv j) (by rw[cB];exact hz) s.toks
 by_cases h0:0<=k
 ·have hk:k.toNat=j:=by
   rw[T3 h0 h4]at h1;exact jI h1
  exact W.ki_setAt ho h0 (by lia) (by rw[gr, <- hl];exact h4) (by rw[hk];exact⟨_,I',q⟩)
 ·have hk:(k + (au.toArray.size:Int)).toNat=j:=by
   rw[T4 (by lia) h3]at h1;rw[gr, <- hl];exact jI h1
  exact W.ki_setBack ho (by lia) (by rw[gr, <- hl];exact h3) (by lia) (by rw[hk];exact⟨_,I',q⟩)
theorem Wr(lo hi:Option Int)(n:Nat):(xI lo hi none n).1=((HT.bY n 0 lo:Nat):Int)/\(xI lo hi none n).2.1=((HT.bY n n hi:Nat):Int)/\(xI lo hi none n).2.2=1:=by
 refine⟨?_, ?_,rfl⟩
 ·cases lo with
  |none=>simp[xI,HT.bY]
  |some i=>
   simp only[xI,HT.bY,agJ,show(1:Int) > 0 by decide,if_true];by_cases h:i < 0
   ·simp only[h,if_true]<;> lia
   ·simp only[h,if_false]<;> lia
 ·cases hi with
  |none=>simp[xI,HT.bY]
  |some i=>
   simp only[xI,HT.bY,agJ,show(1:Int) > 0 by decide,if_true];by_cases h:i < 0
   ·simp only[h,if_true]<;> lia
   ·simp only[h,if_false]<;> lia
theorem Ws(au:List Value)(lo hi:Option Int):slicePick au.toArray lo hi none=((au.drop (HT.bY au.length 0 lo)).take (HT.bY au.length au.length hi - HT.bY au.length 0 lo)).toArray:=by
 obtain⟨h1,h2,h3⟩:=Wr lo hi au.toArray.size;unfold slicePick;rw[h1,h2,h3];simp only[sliceRange_one,pick_run,gr]<;> rfl
def MU(K:aj):V->Option Int->Option Int->Hp->VK->Prop:=λx lo hi H Q=>∃a xs,x= .ref a/\cV K H a xs/\∀p,H p=none->Q (.ref p) (upd H p (.lst (vS xs lo hi)))
theorem Wt:mJ X (MU X.K):=by
 intro aa s σ H x v vl vu lo hi sl Q I rx hs pl pu h;obtain⟨a,xs,rfl,hx,q⟩:=h;cases rx;obtain⟨au,r,ht,hz⟩:=I.list hx;have cU:=r.length;refine⟨"list",_,slot_list_getitem.lookup,ht.isList.typeIs, ?_⟩;refine wpAny_getItem_list_slice ht.isList hs pl pu .none (by simp) ?_ (by rw[gr]<;> lia);rw[Ws, <- cU];refine⟨.ref s.heap.objs.size,_,I.laid (t':=s.toks) (o:= .lst (vS xs lo hi)) (λb ob q=>gB _ q) (bX _) ?_,rfl,q _ (I.ba.fresh (bX _))⟩;exact⟨bO (MJ xs lo hi) hz,_,0,(r.drop (HT.bY xs.length 0 lo)).take (HT.bY xs.length xs.length hi - HT.bY xs.length 0 lo),jz _ rfl⟩
noncomputable def kb:V->Bool
 |.aE=>true
 |.bl _=>true
 |.int _=>true
 |.str _=>true
 |_=>false
noncomputable def sf:V->V->Bool
 |.aE, .aE=>true
 |.bl a, .bl b=>a == b
 |.bl a, .int b=>(if a then 1 else 0) == b
 |.int a, .bl b=>a == (if b then 1 else 0)
 |.int a, .int b=>a == b
 |.str a, .str b=>a == b
 |_,_=>false
theorem Wu{A:Around}{s:Shared}{y x:V}{u v:Value}(ry:RelV y u)(rx:RelV x v)(fy:kb y=true)(fx:kb x=true):SeqAt.EqAt A s u v (sf y x):=by
 cases y with
 |aE=>
  cases ry;cases x with
  |aE=>cases rx;exact SeqAt.EqAt.same _
  |bl b=>cases rx;exact SeqAt.EqAt.none_bool b
  |int b=>obtain⟨t,rfl⟩:=rx;exact SeqAt.EqAt.none_int b t
  |str b=>obtain⟨t,rfl⟩:=rx;exact SeqAt.EqAt.none_str b t
  |_=>exact absurd (show false=true from fx) jA
 |bl a=>
  cases ry;cases x with
  |aE=>cases rx;exact SeqAt.EqAt.bool_none a
  |bl b=>cases rx;exact SeqAt.EqAt.bool_bool a b
  |int b=>obtain⟨t,rfl⟩:=rx;exact SeqAt.EqAt.bool_int a b t
  |str b=>obtain⟨t,rfl⟩:=rx;exact SeqAt.EqAt.bool_str a b t
  |_=>exact absurd (show false=true from fx) jA
 |int a=>
  obtain⟨t',rfl⟩:=ry;cases x with
  |aE=>cases rx;exact SeqAt.EqAt.int_none a t'
  |bl b=>cases rx;exact SeqAt.EqAt.int_bool a t' b
  |int b=>obtain⟨t,rfl⟩:=rx;exact SeqAt.EqAt.int_int a t' b t
  |str b=>obtain⟨t,rfl⟩:=rx;exact agC a t' b t
  |_=>exact absurd (show false=true from fx) jA
 |str a=>
  obtain⟨t',rfl⟩:=ry;cases x with
  |aE=>cases rx;exact SeqAt.EqAt.str_none a t'
  |bl b=>cases rx;exact SeqAt.EqAt.str_bool a t' b
  |int b=>obtain⟨t,rfl⟩:=rx;exact agD a t' b t
  |str b=>obtain⟨t,rfl⟩:=rx;exact SeqAt.EqAt.str_str a t' b t
  |_=>exact absurd (show false=true from fx) jA
 |_=>exact absurd (show false=true from fy) jA
def qI(x:V)(u:Value):Bool:=match u with
 |.none=>sf .aE x
 |.bool b=>sf (.bl b) x
 |.int i _=>sf (.int i) x
 |.str z _=>sf (.str z) x
 |_=>false
theorem MV{x y:V}{u:Value}(r:RelV y u)(f:kb y=true):qI x u=sf y x:=by
 cases y with
 |aE=>cases r;rfl
 |bl b=>cases r;rfl
 |int i=>obtain⟨t,rfl⟩:=r;rfl
 |str z=>obtain⟨t,rfl⟩:=r;rfl
 |_=>exact absurd (show false=true from f) jA
theorem EU{x:V}:∀{xs:List V} {us:List Value},bJ xs us->xs.all kb=true->us.any (qI x)=xs.any λy=>sf y x
 |_,_, .nil,_=>rfl
 |y::xs,u::us, .cons r t,f=>by
  rw[List.all_cons,qt]at f;rw[xS,xS,MV r f.1,EU t f.2]
theorem EV{A:Around}{s:Shared}{x:V}{v:Value}(rx:RelV x v)(fx:kb x=true):∀{xs:List V} {us:List Value},bJ xs us->xs.all kb=true->∀u∈us,SeqAt.EqAt A s u v (qI x u)
 |_,_, .nil,_=>λu hu=>by cases hu
 |y::xs,u::us, .cons r t,f=>λu' hu=>by
  rw[List.all_cons,qt]at f;rcases fX.mp hu with rfl | hu
  ·rw[MV r f.1];exact Wu r rx f.1 fx
  ·exact EV rx fx t f.2 u' hu
def yp(x:V)(xs:List V):Bool:=xs.any λy=>sf y x
def MW(K:aj)(neg:Bool):R2:=λx y H Q=>∃p xs,y= .ref p/\(cV K H p xs\/cP K H p xs)/\kb x=true/\xs.all kb=true/\Q (.bl (if neg then !yp x xs else yp x xs)) H
theorem Wv:dJ X (jd .In) (MW X.K false):=by
 intro aa s σ H x y v u Q I rx ry h;obtain⟨p,xs,rfl,hq,fx,fs,q⟩:=h;cases ry;rcases hq with hq | hq
 ·obtain⟨au,r,pl,hz⟩:=I.list hq;refine SeqAt.in_listAt (qI x) pl.isList (λw hw=>EV rx fx r fs w (by simpa using hw)) ⟨.bl _,H,I,rfl, ?_⟩;rw[show au.toArray.any (qI x)=au.any (qI x) by simp,EU r fs];exact q
 ·obtain⟨au,r,pl,hz⟩:=I.tuple hq;refine SeqAt.in_tupleAt (qI x) pl (λw hw=>EV rx fx r fs w (by simpa using hw)) ⟨.bl _,H,I,rfl, ?_⟩;rw[show au.toArray.any (qI x)=au.any (qI x) by simp,EU r fs];exact q
theorem Wx:i4 X (.builtin "len") (λxs H Q=>∃p ys,xs= [.ref p]/\(cV X.K H p ys\/cP X.K H p ys)/\Q (.int ys.length) H):=by
 intro aa s σ H xs us Q I r h;obtain⟨p,ys,rfl,hq,q⟩:=h;obtain⟨u,rfl,rx⟩:=vals1 r;cases rx;have hn:=vP;rcases hq with hq | hq
 ·obtain⟨au,r',pl,hz⟩:=I.list hq;have cU:=r'.length;exact Calls.call_len_list pl.isList (by simp only[gr]<;> lia) ⟨.int ys.length,H,I.tok _,⟨s.toks + 1,by rw[gr,cU]⟩,q⟩
 ·obtain⟨au,r',pl,hz⟩:=I.tuple hq;have cU:=r'.length;exact len_tuple pl (by simp only[gr]<;> lia) ⟨.int ys.length,H,I.tok _,⟨s.toks + 1,by rw[gr,cU]⟩,q⟩
theorem Wy:i4 X (.builtin "len") (λxs H Q=>∃z,xs= [.str z]/\z.length<=aM/\Q (.int z.length) H):=by
 intro aa s σ H xs us Q I r h;obtain⟨z,rfl,hz,q⟩:=h;obtain⟨u,rfl,t,rfl⟩:=vals1 r;have hn:=vP;exact len_str (by lia) ⟨.int z.length,H,I.tok _,⟨_,rfl⟩,q⟩
theorem Wz:i4 X (.type "list") (λxs H Q=>∃p ys,xs= [.ref p]/\(cV X.K H p ys\/cP X.K H p ys)/\∀l,H l=none->Q (.ref l) (upd H l (.lst ys))):=by
 intro aa s σ H xs us Q I r h;obtain⟨p,ys,rfl,hq,q⟩:=h;obtain⟨u,rfl,rx⟩:=vals1 r;cases rx;have dD:∀(au:List Value),bJ ys au->ys.length<=aM->∀(h':Heap) (c':Nat),(∀b o',s.heap.get? b=some o'->h'.get? b=some o')->
   h'.get? s.heap.objs.size=some { cls:= .type "list",dict:=none,data:= .seq au.toArray c',slots:=#[] }->EP X aa σ Q (.ref s.heap.objs.size) { s with heap:=h' }:=λau r' hz h' c' kp e=>
  ⟨.ref s.heap.objs.size,_,I.laid (t':=s.toks) kp (bX _) (show fY X.prog X.w _ h' _ (.lst ys) from⟨hz,au,c',r',e⟩),rfl,q _ (I.ba.fresh (bX _))⟩
 rcases hq with hq | hq
 ·obtain⟨au,r',pl,hz⟩:=I.list hq;have cU:=r'.length;obtain⟨o,ho,hc,n,hd⟩:=pl.isList;exact call_list_seq p (.inl rfl) ho hc hd (λh' c' kp e=>dD au r' hz h' c' kp e) (by simp only[gr]<;> lia)
 ·obtain⟨au,r',pl,hz⟩:=I.tuple hq;have cU:=r'.length;obtain⟨o,ho,hc,n,hd⟩:=pl;exact call_list_seq p (.inr rfl) ho hc hd (λh' c' kp e=>dD au r' hz h' c' kp e) (by simp only[gr]<;> lia)
theorem WA:i4 X (.type "tuple") (λxs H Q=>∃p ys,xs= [.ref p]/\((cV X.K H p ys/\∀l,H l=none->Q (.ref l) (upd H l (.tup ys)))\/(cP X.K H p ys/\Q (.ref p) H))):=by
 intro aa s σ H xs us Q I r h;obtain⟨p,ys,rfl,h⟩:=h;obtain⟨u,rfl,rx⟩:=vals1 r;cases rx;rcases h with⟨hq,q⟩ | ⟨hq,q⟩
 ·obtain⟨au,r',pl,hz⟩:=I.list hq;have cU:=r'.length;refine call_tuple_list pl.isList (λh' kp=> ?_) (by simp only[gr]<;> lia);have I1:Inv X aa σ H { s with heap:=h' }:=I.kept (t':=s.toks) kp;have I2:Inv X aa σ (upd H h'.objs.size (.tup ys)) { s with heap:=h'.push { cls:= .type "tuple",data:= .seq au.toArray } }:=
   I1.laid (t':=s.toks) (λb o e=>gB _ e) (bX _) (show fY X.prog X.w _ _ _ (.tup ys) from⟨hz,au,r',Us _ _⟩)
  exact⟨.ref h'.objs.size,_,I2,rfl,q _ (I1.ba.fresh (bX _))⟩
 ·obtain⟨au,r',pl,hz⟩:=I.tuple hq;exact call_tuple_same pl ⟨.ref p,H,I,rfl,q⟩
def vT(K:aj)(T:String)(x:V)(H:Hp):Prop:=match x with
 |.str _=>T="str"
 |.int _=>T="int"
 |.ref p=>(T="list"/\∃xs,cV K H p xs)\/(T="tuple"/\∃o,K.lookup p=some o/\o.cls= .type "tuple"/\o.dict=none)\/
   (T="dict"/\((∃ah,H p=some (.dK ah))\/∃ah,H p=some (.dT ah)))\/(T="set"/\∃S n,H p=some (.set S n))
 |_=>False
theorem MX{aa:List (Addr×Obj)}{σ:St}{H:Hp}{s:Shared}{T:String}{x:V}{v:Value}(I:Inv X aa σ H s)(r:RelV x v)(ty:vT X.K T x H):
  s.TypeIs v T/\∀a,v= .ref a->∃ob,s.heap.get? a=some ob/\ob.dict=none:=by
 cases x with
 |str z=>
  obtain⟨t,rfl⟩:=r;cases(show T="str" from ty);exact⟨typeIs_str s z t,λ_ e=>nomatch e⟩
 |int i=>
  obtain⟨t,rfl⟩:=r;cases(show T="int" from ty);exact⟨typeIs_int s i t,λ_ e=>nomatch e⟩
 |ref p=>
  cases r;rcases ty with⟨rfl,xs,hq⟩ | ⟨rfl,o,hk,hc,hd⟩ | ⟨rfl,hk⟩ | ⟨rfl,S,n,hk⟩
  ·obtain⟨au,_,pl,_⟩:=I.list hq;refine⟨pl.isList.typeIs,λa e=> ?_⟩;cases e;obtain⟨o,n,e,c,hd,_⟩:=pl;exact⟨o,e,hd⟩
  ·refine⟨⟨o,I.gg p o hk,hc⟩,λa e=> ?_⟩;cases e;exact⟨o,I.gg _ o hk,hd⟩
  ·have z:∃o,s.heap.get? p=some o/\o.ExactDict:=by
    rcases hk with⟨ah,hk⟩ | ⟨ah,hk⟩
    ·obtain⟨_,_,_,_,o,_,_,e,ex,_⟩:=I.ba p _ hk;exact⟨o,e,ex⟩
    ·obtain⟨_,_,_,_,o,_,_,e,ex,_⟩:=I.ba p _ hk;exact⟨o,e,ex⟩
   obtain⟨o,e,ex⟩:=z;refine⟨⟨o,e,ex.1⟩,λa e2=> ?_⟩;cases e2;exact⟨o,e,ex.2.1⟩
  ·obtain⟨o,_,_,_,e,ex,_⟩:=I.ba p _ hk;refine⟨⟨o,e,ex.1⟩,λa e2=> ?_⟩;cases e2;exact⟨o,e,ex.2.1⟩
 |_=>exact lM ty
def EW(K:aj)(T:String)(r:V->List V->Hp->VK->Prop)(to:TE):TE:=λσ H Q=>to σ H λx H1=>vT K T x H1/\r x [] H1 Q
def EX(K:aj)(T:String)(r:V->List V->Hp->VK->Prop)(to:TE)(t:TA):TE:=λσ H Q=>to σ H λx H1=>vT K T x H1/\t σ H1 λxs H2=>r x xs H2 Q
variable {o e:Expr}{es:List Expr}{to:TE}{t:TA}{name:Str}{iB jo:Pos}{T id:String}{r:V->List V->Hp->VK->Prop}
theorem WB(pa:PlainAttrs T)(slot:Slot T name id)(tX:typeOf (.builtin id)=pure (.type "method_descriptor"))(hm:ES X id r)(ho:PE X o to)
  (tY:qo o name X.env (eval o X.env)=eval o X.env:=by rfl) (tZ:(iB.endLine == jo.line)=true:=by rfl):PE X (.Call (.Attribute o name iB) [] [] jo) (EW X.K T r to):=by
 intro aa s σ H Q I h;refine agy tY tZ (bP (ho aa s σ H _ I h) λv s1 ⟨x,H1,I1,r1,ty,q1⟩=> ?_);obtain⟨h1,h2⟩:=MX I1 r1 ty;exact⟨T,id,pa,slot,tX,h1,h2,LF rfl (agK (hm aa s1 σ H1 x [] v [] Q I1 r1 .nil q1))⟩
theorem WC(pa:PlainAttrs T)(slot:Slot T name id)(tX:typeOf (.builtin id)=pure (.type "method_descriptor"))(hm:ES X id r)(ho:PE X o to)(ha:PA X (e::es) t)
  (tY:qo o name X.env (eval o X.env)=eval o X.env:=by rfl)
  (WD:((backTo jo (dh (e::es) X.env)).all (λx=> !x.1) && (xF jo (xG [] X.env)).all (λx=>x.1.isSome)
   && decide ((e::es).length + ([]:List Keyword).length + (if([]:List Keyword).isEmpty then 0 else 1) < 30))=true:=by rfl)
  (tZ:(iB.endLine == jo.line)=true:=by rfl) (hs:dh (e::es) X.env=(false,eval e X.env)::dh es X.env:=by rfl) (WE:(backTo jo (dh es X.env)).any (·.1)=false:=by rfl):
  PE X (.Call (.Attribute o name iB) (e::es) [] jo) (EX X.K T r to t):=by
 intro aa s σ H Q I h;refine wpAny_Call_method_late tY WD tZ rfl (bP (ho aa s σ H _ I h) λv s1 ⟨x,H1,I1,r1,ty,q1⟩=> ?_);obtain⟨h1,h2⟩:=MX I1 r1 ty;refine⟨T,id,pa,slot,tX,h1,h2, ?_⟩;have hA:=ha jo aa s1 σ H1 _ I1 q1;rw[hs]at hA |-;refine LF (by show(false || (backTo jo (dh es X.env)).any (·.1))=false;rw[WE]<;> rfl) (agL ?_);exact bP hA λus s2 ⟨vs,H2,I2,r2,q2⟩=>hm aa s2 σ H2 x vs v us Q I2 r1 r2 q2
/- xs.append(e),list.index on a WG tuple .. are ES facts of 06m -/
end
def MY(X:Cx)(id:String)(r:V->List V->Hp->VK->Prop):Prop:=
 ∀(aa:List (Addr×Obj)) (s:Shared) (σ:St) (H:Hp) (x:V) (xs:List V) (v:Value) (us:List Value) (Q:VK),Inv X aa σ H s->RelV x v->bJ xs us->r x xs H Q->
  wpAny (model X.prog X.w) X.A (call (.builtin id) (v::us)) (EP X aa σ Q) X.xe s
theorem bJ.one:∀{x:V} {us:List Value},bJ [x] us->∃u,us= [u]/\RelV x u
 |_,_, .cons r .nil=>⟨_,rfl,r⟩
theorem bJ.zero:∀{us:List Value},bJ [] us->us= []
 |_, .nil=>rfl
theorem bJ.dropLast{xs:List V}{us:List Value}(h:bJ xs us):bJ xs.dropLast us.dropLast:=by
 induction h with
 |nil=>exact .nil
 |cons r t ih=>
  cases t with
  |nil=>exact .nil
  |cons q t'=>exact .cons r ih
theorem WH{α:Type}(l:List α):l.eraseIdx (l.length - 1)=l.dropLast:=by
 induction l with
 |nil=>rfl
 |cons a r ih=>
  cases r with
  |nil=>rfl
  |cons b r=>
   have e:(a::b::r).length - 1=((b::r).length - 1) + 1:=by
    have h1:(a::b::r).length=r.length + 2:=rfl;have h2:(b::r).length=r.length + 1:=rfl
    lia
   rw[e,List.eraseIdx_cons_succ,ih]
   all_goals rfl
section
variable {X:Cx}{H:Hp}{s:Shared}
theorem Inv.MZ{au its':List Value}{n:Nat}{f:Array Value->Array Value}{t':Nat}(I:Inv X aa σ H s)(hH:H l=some (.lst xs))
  (e:s.heap.get? l=some { cls:= .type "list",data:= .seq au.toArray n }) (hf:f au.toArray=its'.toArray) (hv:bJ ys its') (hz:ys.length<=aM):
  Inv X aa σ (upd H l (.lst ys)) { s with heap:=s.heap.update l (oa f),toks:=t' }:=by
 have q:=PySem.IsL.update e f;rw[hf]at q;refine I.write (x:=l) (e:=l) (by rw[hH];exact trivial) (.inl rfl) (λb' u hb hu=>(vj s.heap (oa f) (jO hb)).trans hu) ⟨_,q⟩ ?_;exact⟨hz,its',_,hv,q⟩
theorem Inv.M0{t':Nat}(I:Inv X aa σ H s)(hv:bJ ys au)(hz:ys.length<=aM):
  Inv X aa σ (upd H s.heap.objs.size (.lst ys)) { s with heap:=s.heap.push { cls:= .type "list",data:= .seq au.toArray },toks:=t' }:=
 I.laid (λ_ _ q=>gB _ q) (bX _) ⟨hz,au,0,hv,jz _ rfl⟩
theorem Inv.fresh(I:Inv X aa σ H s):H s.heap.objs.size=none:=I.ba.fresh (bX _)
theorem Inv.fV(I:Inv X aa σ H s)(hH:H l=some (.lst xs)):xs.length<=aM/\∃(au:List Value) (n:Nat),bJ xs au/\xs.length=au.length/\s.heap.get? l=some { cls:= .type "list",data:= .seq au.toArray n }:=by
 obtain⟨z,au,n,r,e⟩:=I.ba l _ hH;exact⟨z,au,n,r,r.length,e⟩
end
section
variable {X:Cx}
def Bq:V->List V->Hp->VK->Prop:=λx vs H Q=>∃l xs y,x= .ref l/\vs= [y]/\H l=some (.lst xs)/\xs.length < aM/\Q .aE (upd H l (.lst (xs++ [y])))
theorem WI:MY X "list.append" Bq:=by
 intro aa s σ H x vs v us Q I rx rv h;obtain⟨l,xs,y,rfl,rfl,hH,hz,q⟩:=h;cases rx;obtain⟨u,rfl,ru⟩:=rv.one;obtain⟨z,au,n,r,hl,e⟩:=I.fV hH;refine call_meets F.slot_list_append ⟨_,e,rfl⟩ F.entry_list_append (F.args_list_append_2 _ _) (PySem.list_append l au.toArray n u (by rw[gr];lia)) ⟨e, ?_⟩;refine⟨.aE,_,I.MZ (its':=au++ [u]) hH e (by simp) (r.append (.cons ru .nil)) ?_,rfl,q⟩;rw[cc,ng]
 lia
def EY:V->List V->Hp->VK->Prop:=λx vs H Q=>∃l xs y,x= .ref l/\vs= []/\H l=some (.lst xs)/\xs[xs.length - 1]?=some y/\Q y (upd H l (.lst xs.dropLast))
theorem WJ:MY X "list.pop" EY:=by
 intro aa s σ H x vs v us Q I rx rv h;obtain⟨l,xs,y,rfl,rfl,hH,hy,q⟩:=h;cases rx;have WK:=rv.zero;subst WK;obtain⟨z,au,n,r,hl,e⟩:=I.fV hH;obtain⟨u,hu,ru⟩:=r.get hy;have WL:au.toArray[au.toArray.size - 1]?=some u:=by
  show au.toArray[au.length - 1]?=some u;rw[<- agM, <- hl];exact hu
 refine call_meets F.slot_list_pop ⟨_,e,rfl⟩ F.entry_list_pop (F.args_list_pop_1 _) (MeetsSeq.list_pop_last l au.toArray n u WL (by rw[gr];lia)) ⟨e, ?_⟩;refine⟨y,_,I.MZ (its':=au.dropLast) hH e ?_ r.dropLast ?_,ru,q⟩
 ·show au.toArray.eraseIdxIfInBounds (au.toArray.size - 1)=au.dropLast.toArray;rw[gr,List.eraseIdxIfInBounds_toArray,WH]
 ·rw[List.length_dropLast]
  lia
def M3:R2:=λx y H Q=>∃l b xs zs,x= .ref l/\y= .ref b/\H l=some (.lst xs)/\H b=some (.lst zs)/\xs.length + zs.length<=aM/\∀p,H p=none->Q (.ref p) (upd H p (.lst (xs++zs)))
theorem WN:dJ X (kE .Add) M3:=by
 intro aa s σ H x y v u Q I rx ry h;obtain⟨l,b,xs,zs,rfl,rfl,hH,hB,hz,q⟩:=h;cases rx;cases ry;obtain⟨z,au,n,r,hl,e⟩:=I.fV hH;obtain⟨z2,nz,n2,r2,gV,e2⟩:=I.fV hB;refine PySem.P.add_list e e2 ?_ (by rw[gr,gr];lia);have ea:au.toArray++nz.toArray=(au++nz).toArray:=by simp
 rw[ea];exact⟨.ref _,_,I.M0 (t':=s.toks) (r.append r2) (by rw[cc];lia),rfl,q _ I.fresh⟩
end
section
variable {prog:Program}{w:World}{A:Around}{E:Value->Shared->Prop}{s:Shared}
end
section
variable {X:Cx}
end
end L2
namespace M4
open PySem PySem.W PySem.Calls PyProof.Rows
theorem WO{P:Params}{h:Heap}:∀(ns:List Int) (vs:List Value),WellAll P h vs (ns.map WData.int)->DP vs ns:=by
 intro ns
 induction ns with
 |nil=>
  intro vs w;rw[iZ]at w;cases w;exact .nil
 |cons n ns ih=>
  intro vs w;rw[eI]at w;cases w with
  |cons a b=>
   cases a;exact .cons _ _ (ih _ b)
theorem WQ{l:OpenLaw}(hn:l.most=some n){P:Params}{h:Heap}{args:List WData}{vals:List Value}
  (Br:l.row.toRowW.claim.pre args=true) (EZ:WellAll P h vals args):
  ∃a vs ns,vals= [gA a]/\args= [WData.list (ns.map WData.int)]/\h.get? a=some { cls:= .type "list",data:= .seq vs.toArray }/\DP vs ns/\ns.length<=n:=by
 have WR:WShape.hasAll [] args [.list .int]=true:=(pre_splitW Br).1;have hc:l.pre.holds [] { args:=args }=true:=(pre_splitW Br).2;obtain⟨d,r,rfl,h1,h2⟩:=hasAllW_cons WR;obtain rfl:=hasAllW_nil h2;obtain⟨xs,rfl,h3⟩:=hasW_list h1;obtain⟨ns,rfl⟩:=items_int h3;have cU:ns.length<=n:=by
  unfold OpenLaw.pre at hc;have h4:(WTm.not (.lt (.lit (.int (n:Int))) (.len (.arg 0)))).holds [] { args:= [.list (ns.map .int)] }=true:=by
   have h4:=(holds_andW hc).1;rw[hn]at h4;exact h4
  have h5:=condW_of h4 (w_not (w_lt w_lit (w_len_list (w_arg rfl))));rw[eS]at h5;refine Nat.le_of_not_lt λq=> ?_;have q':(n:Int) < ((ns.length:Nat):Int):=by lia
  first
   |(rw[decide_eq_true q']at h5;exact absurd h5 (by decide))
   |(simp at h5;lia)
 cases EZ with
 |cons w1 w2=>
  cases w2;cases w1 with
  |list ho qJ=>exact⟨_,_,ns,rfl,rfl,ho,WO ns _ qJ,cU⟩
theorem WS(l:OpenLaw)(args:List WData):l.row.toRowW.claim.post args (.bool true) args=true:=
 postW_of (r:=l.row.toRowW) (X:=(true == true))
  (show WShape.has [] (.bool true) .bool=true by first | rfl | decide | simp[WShape.has,WShape.arms,WShape.armsAll])
  (show(WTm.eq .res (.lit (.bool true))).value [] { args:=args,res:=some (.bool true),after:=args }=some (.bool (true == true)) from w_eq_bool (w_res rfl) w_lit) rfl
theorem WT{l:OpenLaw}{n:Nat}{q:Program}{loose:List Str}{XP:(Str->Option Value)->Heap->Prop}{YP:World->Heap->Prop}{d:DefRec}
  (hn:l.most=some n) (yq:d.params.defaults= [])
  (call:∀(w:World) (iO eB:Shared) (mg mb:Str->Option Value) (fa:Addr) (o:Obj) (pm cd doc:Value) (a:Addr) (vs:List Value) (ns:List Int),
   Ground q loose [] XP w iO mg mb eB.heap->YP w eB.heap->
   eB.heap.get? fa=some o->o.data= .func (docDef d.name d.params d.body d.scope pm cd doc)->eB.heap.CodeRec cd d.name->mg d.name=some (.ref fa)->
   eB.heap.get? a=some { cls:= .type "list",data:= .seq vs.toArray }->DP vs ns->ns.length<=n->eB.gens=#[]->
   mw (model l.prog w) xJ (.call (.ref fa) ⟨[.ref a], []⟩) (λr s'=>r= .ok (.ret (.bool true))/\OldK eB.heap s'.heap/\s'.os=eB.os/\u1 s'.gens) eB):
  WalkO q loose XP YP l.row.toRowW d [] (λf vs=>Uu f vs):=by
 intro w iO eB mg mb G Y fa o pm cd doc dV kV ho hd oh hD hmg hg args vals as Br ahr ahs EZ aht;obtain rfl:dV= .none:=Dflts.none hD yq;obtain rfl:kV= .none:=Dflts.noKw hD;obtain⟨a,vs,ns,rfl,rfl,E1,hints,cU⟩:=WQ hn Br EZ;refine enter_call (DN (call w iO eB mg mb fa o pm cd doc a vs ns G Y ho (fd_plain hd) oh hmg E1 hints cU hg) λr s' hq=> ?_);obtain⟨rfl,h2,h3,h4⟩:=hq;exact⟨.inl ⟨.bool true, .bool true, [],rfl,λ_=>rfl, .bool true,WS l _,λ_=>⟨List.Pairwise.nil,λ_ hm=>(nomatch hm)⟩⟩,h2,h3,h4⟩
section
variable {prog:Program}{w:World}{A:Around}{E:Value->Shared->Prop}{s:Shared}{K:Frag}
end
end M4
namespace L2
open PySem PySem.Spec PyProof.Rows
theorem M5:∀{vs:List Value} {ns:List Int},DP vs ns->bJ (ns.map V.int) vs
 |_,_, .nil=> .nil
 |_,_, .cons n t h=> .cons ⟨t,rfl⟩ (M5 h)
def Bs(H:Hp):Prop:=∀b,H b=none\/∃o xs,H b=some (.cD o (.lst xs))
theorem WU{P:Program}{w:World}{K:aj}{mg mb:Str->Option Value}{CX:qH}{k:Nat}{fa a:Addr}{fd:j7}{x:Str}{sp:Sp}{eB:Shared}{vs:List Value}{ns:List Int}
  (KX:K.In eB.heap) (M6:eB.heap.Ns mv mg) (hb:eB.heap.Ns Lb mb) (WV:∀x:Str,x≠"__name__"->mb x=AN x) (WX:eB.heap.NoLimit) (hg:eB.gens=#[])
  (ha:eB.heap.get? a=some { cls:= .type "list",data:= .seq vs.toArray }) (hi:DP vs ns) (hl:ns.length<=aM) (hr:fZ k xJ)
  (F:∀base:Heap,K.In base->base.Ns mv mg->cz P w K mg base CX k fa fd [x] sp) (WY:∀(s:Shared) (u:Value),AS s fd ⟨[u], []⟩ [(x,u)])
  (rY:∀H:Hp,Bs H->cV K H a (ns.map V.int)->sp [.ref a] H (λv _=>v= .bl true) λ_ _ _=>False)
  (E2:∀H e s',CX [] H eB (λ_ _ _=>False) e s'->False):
  mw (model P w) xJ (.call (.ref fa) ⟨[.ref a], []⟩) (λr s'=>r= .ok (.ret (.bool true))/\OldK eB.heap s'.heap/\s'.os=eB.os/\u1 s'.gens) eB:=by
 have rv:=M5 hi;have WZ:=hi.length
 -- from an abstract heap in ahu nothing but mG W2 may be tracked
 have core:∀H:Hp,Bs H->cV K H a (ns.map V.int)->gT P w H eB.heap->(∀b,H b≠none->b=a)->(H a≠none->K.lookup a=none)->
   mw (model P w) xJ (.call (.ref fa) ⟨[.ref a], []⟩) (λr s'=>r= .ok (.ret (.bool true))/\OldK eB.heap s'.heap/\s'.os=eB.os/\u1 s'.gens) eB:=by
  intro H hO hS ba hA hK;have M7:∀{b:Addr} {o:Obj},eB.heap.get? b=some o->H b=none->(qx eB.heap H).get? b=some o:=λe n=>U0 e n;have tV:∀{b:Addr} {o:Obj} {es:Array DictEntry} {ep:Nat},eB.heap.get? b=some o->o.data= .dict es ep->H b=none:=λ{b o es ep} e d=>by
   cases q:H b with
   |none=>rfl
   |some u=>
    have e':b=a:=hA b (by rw[q];simp);subst e';rw[ha]at e;cases e;have d':Data.seq vs.toArray _=Data.dict es ep:=d;cases d'
  have Bt:∀{b:Addr} {m:Str->Option Value},eB.heap.Ns b m->(qx eB.heap H).Ns b m:=λ{b m} ⟨o,es,ep,e,d,r⟩=>⟨o,es,ep,M7 e (tV e d),d,r⟩
  have M8:K.In (qx eB.heap H):=λb o e=>M7 (KX b o e) (by
   cases q:H b with
   |none=>rfl
   |some u=>
    have e':b=a:=hA b (by rw[q];simp);subst e';rw[hK (by rw[q];simp)]at e;cases e)
  have hM:Mod K mg (qx eB.heap H):=⟨M8,Bt M6,⟨mb,Bt hb,WV⟩,let ⟨mc,h1,h2⟩:=WX;⟨mc,Bt h1,h2⟩⟩
  have e0:pU P w K mg (qx eB.heap H) xJ [] eB H:=⟨rfl,hM,λb o e=>U7 e,Ug (UZ _ _),trivial,λb hb=>absurd (show b∈([]:List Addr) from hb) (by simp),ba, .of_eq hg⟩
  refine DN ((F _ M8 (Bt M6)).run xJ [] eB H ⟨[.ref a], []⟩ [.ref a] [.ref a] _ _ hr e0 (WY eB (.ref a)) (.cons rfl .nil) (rY H hO hS)) λr s' h=> ?_;cases r with
  |error e=>exact(E2 H e s' h).elim
  |ok fl=>
   cases fl with
   |next=>exact lM h
   |brk=>exact lM h
   |cont=>exact lM h
   |ret u=>
    obtain⟨v,H',os,bare,un,W3,r',q⟩:=h;have q':v= .bl true:=q;subst q';obtain rfl:u=xO true:=r';refine⟨rfl,OldK.of_keep λb o e=> ?_,os,bare⟩;cases q:H b with
    |none=>exact un.keep b o e q (by intro z;exact absurd (show b∈([]:List Addr) from z) (by simp)) (by simp)
    |some u=>
     rcases hO b with z | ⟨ob,xs,z⟩
     ·rw[q]at z;cases z
     ·have z2:=un.mC b ob _ z;obtain⟨e1,_⟩:=ba b _ z;obtain⟨e2,_⟩:=W3 b _ z2;rw[e]at e1;cases e1;exact e2
 cases hk:K.lookup a with
 |some o=>
  -- mG W2 is one of mG WG own objects
  have e:=KX a o hk;rw[ha]at e;cases e;refine core (λ_=>none) (λ_=> .inl rfl) (.inr ⟨_,vs.toArray,_,hk,rfl,rfl,rfl,by rw[gr,WZ];exact hl,by simpa using rv⟩) (λb u z=>by have z':(none:Option HO)=some u:=z;cases z') (λb z=>absurd rfl z) λz=>absurd rfl z
 |none=>
  refine core (λb=>if b=a then some (.cD { cls:= .type "list",data:= .seq vs.toArray } (.lst (ns.map V.int))) else none) (λb=> ?_) (.inl (.inr ⟨{ cls:= .type "list",data:= .seq vs.toArray },if_pos rfl⟩)) (λb u z=> ?_) (λb z=> ?_) λ_=>hk
  ·by_cases hb:b=a
   ·exact .inr ⟨_,_,if_pos hb⟩
   ·exact .inl (if_neg hb)
  ·by_cases hb:b=a
   ·have z':=(if_pos hb).symm.trans z;cases z';subst hb;exact⟨ha,by rw[eS];exact hl,vs,_,rv,ha⟩
   ·have z':=(if_neg hb).symm.trans z;cases z'
  ·by_cases hb:b=a
   ·exact hb
   ·exact absurd (if_neg hb) z
theorem W4{l:W.OpenLaw}{n k:Nat}{q:Program}{loose:List Str}{XP:(Str->Option Value)->Heap->Prop}{YP:World->Heap->Prop}{d:DefRec}{K:Params->aj}{CX:World->qH}{sp:World->Sp}{x:Str}
  (hn:l.most=some n) (rV:n<=aM) (yq:d.params.defaults= []) (hr:fZ k xJ)
  (hY:∀(w:World) (h:Heap),YP w h->(K w.params).In h)
  (F:∀(w:World) (mg:Str->Option Value) (fa:Addr) (h:Heap),(K w.params).In h->h.Ns mv mg->mg d.name=some (.ref fa)->
   ∃fd:j7,(∀(s:Shared) (u:Value),AS s fd ⟨[u], []⟩ [(x,u)])/\
    ∀base:Heap,(K w.params).In base->base.Ns mv mg->cz l.prog w (K w.params) mg base (CX w) k fa fd [x] (sp w))
  (rY:∀(w:World) (H:Hp) (a:Addr) (ns:List Int),ns.length<=n->Bs H->cV (K w.params) H a (ns.map V.int)->sp w [.ref a] H (λv _=>v= .bl true) λ_ _ _=>False)
  (E2:∀(w:World) (H:Hp) (s:Shared) (e:Value) (s':Shared),CX w [] H s (λ_ _ _=>False) e s'->False):
  W.WalkO q loose XP YP l.row.toRowW d [] (λf vs=>Uu f vs):=by
 refine M4.WT hn yq λw iO eB mg mb fa o pm cd doc a vs ns G Y ho hd oh hmg E1 hints cU hg=> ?_;have KX:=hY w _ Y;obtain⟨fd,hb,hF⟩:=F w mg fa _ KX G.T.g hmg;exact WU KX G.T.g G.T.b G.T.builtins G.T.nolimit hg E1 hints (bO cU rV) hr hF hb (λH hO hS=>rY w H a ns cU hO hS) λH e s'=>E2 w H eB e s'
noncomputable def xB (s:Stmt) (j:Nat):Stmt:=match s with
 |.ClassDef _ _ _ body _ _ _ _ _ _ _=>body.getD j (.Pass ⟨0,0,0,0⟩)
 |_=> .Pass ⟨0,0,0,0⟩
noncomputable def qK (s:Stmt):Arguments:=match s with
 |.FunctionDef _ a _ _ _ _ _ _ _ _=>a
 |_=> { posonlyargs:= [],args:= [],vararg:=none,kwonlyargs:= [],kw_defaults:= [],kwarg:=none,defaults:= [] }
noncomputable def nD (s:Stmt):List Stmt:=match s with
 |.FunctionDef _ _ b _ _ _ _ _ _ _=>b
 |_=> []
noncomputable def cW (s:Stmt):Scope:=match s with
 |.FunctionDef _ _ _ _ _ _ sc _ _ _=>sc
 |_=> { kind:= .function,names:= [],isGenerator:=false,isCoroutine:=false }
noncomputable abbrev cX:qH:=λ_ _ _ _ _ _=>False
noncomputable abbrev E0:XK:=λ_ _ _=>False
theorem Bu{X:Cx}:u0 cX X E0:=λ_ _ _ _ _ _ _ h=>h.elim
structure ee(K:aj)(x qual:Str)(st:Stmt)(f:Addr)(fd:j7):Prop where
 ex:∃(oc:Value) (od:Option Addr) (kV doc pm:Value) (an:Option Addr) (fC ct:Value) (oy:Array (Option Value)),
  fd=qr x qual (qK st) (nD st) (cW st) .none kV doc pm an fC ct/\K.lookup f=some ⟨oc,od, .func fd,oy⟩/\DX K fC qual=true
 kp:vg K (.ref f)=true
section
variable {P:Program}{w:World}{K:aj}{mg:Str->Option Value}{base:Heap}
theorem ee.ok{x qual:Str}{st:Stmt}{f:Addr}{fd:j7}{N ps:List Str}{k:Nat}{sp:Sp}(F:ee K x qual st f fd)(S:eE N ps (cW st))(len:∀vs H Q E,sp vs H Q E->vs.length=ps.length)
  (EG:∀(fC:Value) (A:Around) (outer:List Env) (s:Shared) (H:Hp) (vs:List V) (Q:VK) (E:XK),fZ k (A.deeper (envOfC qual (cW st) s.heap.objs.size f fC))->sp vs H Q E->
   ∃t,kM (rX cX P w K mg base N qual (cW st) f fC A outer s H E).vE (nD st) t/\t { nx:=λ_ H'=>Q .aE H',rt:=Q } (start N vs) H):cz P w K mg base cX (k + 1) f fd ps sp:=by
 obtain⟨oc,od,kV,doc,pm,an,fC,ct,oy,rfl,lk,oh⟩:=F.ex;refine V9 lk oh S len λA outer s H vs Q E hr rY=> ?_;obtain⟨t,h,q⟩:=EG fC A outer s H vs Q E hr rY;exact⟨t,h.vE,q⟩
theorem ee.binds{x qual:Str}{st:Stmt}{f:Addr}{fd:j7}{ps:List Str}(F:ee K x qual st f fd)
  (h:∀(kV doc pm:Value) (an:Option Addr) (fC ct:Value) (us:List Value),us.length=ps.length->bindArgs (qr x qual (qK st) (nD st) (cW st) .none kV doc pm an fC ct) ⟨us, []⟩=pure (ps.zip us)):Binds K fd ps []:=by
 obtain⟨oc,od,kV,doc,pm,an,fC,ct,oy,rfl,lk,oh⟩:=F.ex;exact .all (h kV doc pm an fC ct)
theorem fj{x qual:Str}{st:Stmt}{f:Addr}{oc:Value}{od an:Option Addr}{oy:Array (Option Value)}{kV doc pm fC ct:Value}(l:K.lookup f=some ⟨oc,od, .func (qr x qual (qK st) (nD st) (cW st) .none kV doc pm an fC ct),oy⟩)
  (c:DX K fC qual=true) (k:vg K (.ref f)=true):ee K x qual st f (qr x qual (qK st) (nD st) (cW st) .none kV doc pm an fC ct):=⟨⟨oc,od,kV,doc,pm,an,fC,ct,oy,rfl,l,c⟩,k⟩
end
theorem gv{A:Around}{k:Nat}(hr:fZ k A):A.units + 1 < cLine:=DZ (Nat.add_le_add_left (by decide:1<=64) _) hr.units
section
theorem pv(i:Nat){x:Str}{pos:Pos}(hN:X.N[i]?=some x:=by rfl)(hv:Eb X.env.scope x:=by first | exact vm rfl | exact Or.inr (vm rfl) | exact Or.inr (Or.inr rfl))(hd:(x == ("__debug__":Str))=false:=by decide)
  (oh:(x == ("__classdict__":Str))=false:=by decide):PE X (.Name x pos) (jh i):=Vf hN hv hd oh
end
def aP(H H':Hp):Prop:=∀b o,H b=some o->H' b=some o
theorem aP.refl(H:Hp):aP H H:=λ_ _ h=>h
theorem aP.trans{H H1 H2:Hp}(a:aP H H1)(b:aP H1 H2):aP H H2:=λc o h=>b c o (a c o h)
theorem aP.free{H H':Hp}(e:aP H H'){l:Addr}(h:H' l=Option.none):H l=Option.none:=by
 cases q:H l with
 |none=>rfl
 |some o=>
  rw[e l o q]at h;cases h
section
variable {κ:Type}[DecidableEq κ]
noncomputable def oB (ah:List (κ×V)) (k:κ):Option V:=(ah.find? λkv=>decide (kv.1=k)).map (·.2)
noncomputable def jx (ah:List (κ×V)) (k:κ) (v:V):List (κ×V):=
 if(ah.any λkv=>decide (kv.1=k))=true then ah.map (λkv=>if kv.1=k then(kv.1,v) else kv) else ah++ [(k,v)]
theorem Bv{p:κ×V}(e:p.1=k):oB (p::r) k=some p.2:=by simp[oB,A1,e]
theorem Bw{p:κ×V}(e:¬ p.1=k):oB (p::r) k=oB r k:=by simp[oB,A1,e]
theorem M9(k:κ):∀ah:List (κ×V),(ah.any λkv=>decide (kv.1=k))=(oB ah k).isSome
 | []=>rfl
 |p::r=>by
  rw[xS];by_cases e:p.1=k
  ·simp only[Bv e,decide_eq_true e,Bool.true_or,agN]
  ·rw[Bw e,decide_eq_false e,Bool.false_or];exact M9 k r
theorem E3(ah:List (κ×V))(k:κ)(v:V):(jx ah k v).length<=ah.length + 1:=by
 unfold jx
 split
 ·rw[eS];lia
 ·rw[cc,gc,Uv];lia
theorem jP.E4(r:jP o u):o.isSome=u.isSome:=by
 cases o with
 |none=>cases u with
  |none=>rfl
  |some _=>exact(show False from r).elim
 |some _=>cases u with
  |none=>exact(show False from r).elim
  |some _=>rfl
theorem jP.getD(r:jP o u)(rd:RelV d d'):RelV (o.getD d) (u.getD d'):=by
 cases o with
 |none=>cases u with
  |none=>exact rd
  |some _=>exact(show False from r).elim
 |some _=>cases u with
  |none=>exact(show False from r).elim
  |some _=>exact r
theorem KV.val(r:KV ah vs)(k:κ):jP (oB ah k) (xK vs k):=by
 unfold KV at r
 induction r with
 |nil=>exact kK
 | @cons p q ps qs h t ih=>
  obtain⟨h1,h2⟩:=h;by_cases e:p.1=k
  ·have e':q.1=k:=h1.symm.trans e;have b:xK (q::qs) k=some q.2:=by simp[xK,A1,e']
   rw[Bv e,b];exact h2
  ·have e':¬ q.1=k:=λz=>e (h1.trans z);have b:xK (q::qs) k=xK qs k:=by simp[xK,A1,e']
   rw[Bw e,b];exact ih
theorem KV.any(r:KV ah vs)(k:κ):(ah.any λkv=>decide (kv.1=k))=vs.any λkv=>decide (kv.1=k):=by
 unfold KV at r
 induction r with
 |nil=>rfl
 |cons h t ih=>rw[xS,xS,ih,h.1]
theorem KV.E5(r:KV ah vs)(k:κ)(ry:RelV y u):
  KV (ah.map λkv=>if kv.1=k then(kv.1,y) else kv) (vs.map λkv=>if kv.1=k then(kv.1,u) else kv):=by
 unfold KV at r |-
 induction r with
 |nil=>exact .nil
 | @cons p q ps qs h t ih=>
  rw[eI,eI];refine .cons ?_ ih;obtain⟨h1,h2⟩:=h;by_cases e:p.1=k
  ·rw[if_pos e,if_pos (h1.symm.trans e)];exact⟨h1,ry⟩
  ·rw[if_neg e,if_neg (λz=>e (h1.trans z))];exact⟨h1,h2⟩
theorem KV.put(r:KV ah vs)(k:κ)(ry:RelV y u):KV (jx ah k y) (stored vs k u):=by
 unfold jx stored;rw[r.any k];by_cases e:(vs.any λkv=>decide (kv.1=k))=true
 ·rw[if_pos e,if_pos e];exact r.E5 k ry
 ·rw[if_neg e,if_neg e];exact Paired.snoc r ⟨rfl,ry⟩
theorem KV.length(r:KV ah vs):ah.length=vs.length:=T7 r
end
theorem vU(r:RelV (kV k) u):(jf P w).is k u=true:=by
 cases k with
 |inl i=>obtain⟨t,e⟩:=(show ∃t,u=xN i t from r);subst e;exact UU P w i t
 |inr x=>obtain⟨t,e⟩:=(show ∃t,u=AX x t from r);subst e;exact UW P w x t
theorem Na:∀{ks:List bw} {us:List Value},bJ (ks.map kV) us->ItemsAre (jf P w) ks us
 | [],_,r=>by rw[iZ]at r;cases r;exact .nil
 |k::ks,_,r=>by
  rw[eI]at r;cases r with
  |cons h t=>exact .cons (vU h) (Na t)
abbrev KT(H:Hp):List (List bw×V)->List (List bw×Addr×Value)->Prop:=Paired λp q=>p.1=q.1/\H q.2.1=some (.tup (p.1.map kV))/\RelV p.2 q.2.2
theorem KT.val(r:KT H ah xs)(k:List bw):jP (oB ah k) ((atKey xs k).map (·.2)):=by
 induction r with
 |nil=>exact kK
 | @cons p q ps qs h t ih=>
  obtain⟨h1,_,h2⟩:=h;by_cases e:p.1=k
  ·have e':q.1=k:=h1.symm.trans e;have b:atKey (q::qs) k=some q.2:=by simp[atKey,A1,e']
   rw[Bv e,b];exact h2
  ·have e':¬ q.1=k:=λz=>e (h1.trans z);have b:atKey (q::qs) k=atKey qs k:=by simp[atKey,A1,e']
   rw[Bw e,b];exact ih
theorem KT.E5(r:KT H ah xs)(k:List bw)(ry:RelV y u):
  KT H (ah.map λkv=>if kv.1=k then(kv.1,y) else kv) (xs.map (putAt k u)):=by
 induction r with
 |nil=>exact .nil
 | @cons p q ps qs h t ih=>
  rw[eI,eI];refine .cons ?_ ih;obtain⟨h1,h2,h3⟩:=h;unfold putAt;by_cases e:p.1=k
  ·rw[if_pos e,if_pos (h1.symm.trans e)];exact⟨h1,h2,ry⟩
  ·rw[if_neg e,if_neg (λz=>e (h1.trans z))];exact⟨h1,h2,h3⟩
theorem KT.put(r:KT H ah xs)(k:List bw)(hb:H b=some (.tup (k.map kV)))(ry:RelV y u):
  KT H (jx ah k y) (storedH xs k b u):=by
 have e:(ah.any λkv=>decide (kv.1=k))=(atKey xs k).isSome:=by
  rw[M9,(r.val k).E4,agO]
 unfold jx storedH;rw[e];by_cases q:(atKey xs k).isSome=true
 ·rw[if_pos q,if_pos q];exact r.E5 k ry
 ·rw[if_neg q,if_neg q];exact Paired.snoc r ⟨rfl,hb,ry⟩
theorem KT.keeps(r:KT H ah xs)(ht:∀b ys,H b=some (.tup ys)->H' b=some (.tup ys)):KT H' ah xs:=
 Paired.Ea r λ_ _ z=>⟨z.1,ht _ _ z.2.1,z.2.2⟩
section
theorem Nb(ok:gT P w H h)(e:Rd H a u):fY P w H h a u:=e.ok ok
theorem qL(ok:gT P w H h)(e:Rd H a (.dK ah)):ah.length<=aM/\(a == rD)=false/\∃vs,KV ah vs/\h.DictOf (jf P w) a vs:=
 show fY P w H h a (.dK ah) from Nb ok e
theorem E6(ok:gT P w H h)(e:H a=some (.dK ah)):ah.length<=aM/\(a == rD)=false/\∃vs,KV ah vs/\h.DictOf (jf P w) a vs:=qL ok (.inl e)
theorem yr(ok:gT P w H h)(e:H a=some (.tup (ks.map kV))):(AM (jf P w)).is h ks a:=by
 obtain⟨_,au,r,o,h1,h2,n,h3⟩:=(show fY P w H h a (.tup (ks.map kV)) from ok a _ e)
 exact⟨o,au.toArray,n,h1,h2,h3,by simpa using Na r⟩
theorem vV(ok:gT P w H h)(e:Rd H a (.dT ah)):ah.length<=aM/\(a == rD)=false/\
  ∃xs,KT H ah xs/\h.DictOfH (AM (jf P w)) a xs:=by
 obtain⟨z,y,xs,r,o,es,ep,h1,h2,h3,h4,h5⟩:=(show fY P w H h a (.dT ah) from Nb ok e)
 refine⟨z,y,xs,r,o,es,ep,h1,h2,h3,h4,λx hx=> ?_,h5⟩;have all:∀{l:List (List bw×V)} {m:List (List bw×Addr×Value)},KT H l m->∀x∈m,(AM (jf P w)).is h x.1 x.2.1:=by
  intro l m q
  induction q with
  |nil=>intro x hx;exact nomatch hx
  | @cons p q ps qs hq t ih=>
   intro x hx;rcases fX.mp hx with e | hx
   ·subst e;exact yr ok (by rw[<- hq.1];exact hq.2.1)
   ·exact ih x hx
 exact all r x hx
theorem W5(ok:gT P w H h)(e:H a=some (.dT ah)):ah.length<=aM/\(a == rD)=false/\
  ∃xs,KT H ah xs/\h.DictOfH (AM (jf P w)) a xs:=vV ok (.inl e)
end
def sg(H:Hp)(a:Addr)(y:V)(r:Option V):Prop:=
 (∃ah k,Rd H a (.dK ah)/\y=kV k/\r=oB ah k)\/∃ah k b,Rd H a (.dT ah)/\y= .ref b/\H b=some (.tup (k.map kV))/\r=oB ah k
def Bx(H:Hp)(a:Addr)(y v:V)(H':Hp):Prop:=
 (∃ah k,H a=some (.dK ah)/\y=kV k/\ah.length < aM/\H'=upd H a (.dK (jx ah k v)))\/
 ∃ah k b,H a=some (.dT ah)/\y= .ref b/\H b=some (.tup (k.map kV))/\ah.length < aM/\H'=upd H a (.dT (jx ah k v))
section
theorem Inv.big(I:Inv X aa σ H s):rD < s.heap.objs.size:=by
 have h:mv < s.heap.objs.size:=(I.mod.glob.keeps I.bk).lt;exact Nat.lt_trans (by decide) h
theorem W6(hu:A.units + 1 < cLine)(I:Inv X aa σ H s)(g:sg H a y (some v))(ry:RelV y u)(h:∀w' s',Inv X aa σ H s'->RelV v w'->Q w' s'):
  wpAny (model X.prog X.w) A (u7 (.ref a) u) Q E s:=by
 rcases g with⟨ah,k,e,ey,l⟩ | ⟨ah,k,b,e,ey,eb,l⟩
 ·subst ey;obtain⟨z,hd,vs,dX,dd⟩:=qL I.ba e;obtain⟨w',hw,oA⟩:=jP.some_of (v:=v) (o:=xK vs k) (by rw[l];exact dX.val k);exact wpAny_getItem_of (vU ry) dd.mapOf hw (h w' _ (I.tok _) oA)
 ·subst ey;cases(show u=gA b from ry);obtain⟨z,hd,xs,dX,dd⟩:=vV I.ba e;obtain⟨w',hw,oA⟩:=jP.some_of (v:=v) (o:=(atKey xs k).map (·.2)) (by rw[l];exact dX.val k);obtain⟨p,hp,pX⟩:=bg.mp hw;refine wpAny_getItem_heap (Lh hu) (yr I.ba eb) dd hp ?_;rw[pX];exact h w' _ (I.tok _) oA
theorem W7(hu:A.units + 1 < cLine)(I:Inv X aa σ H s)(g:sg H a y o)(ry:RelV y u)(h:∀s',Inv X aa σ H s'->Q (.bool o.isSome) s'):
  wpAny (model X.prog X.w) A (jd .In u (.ref a)) Q E s:=by
 rcases g with⟨ah,k,e,ey,l⟩ | ⟨ah,k,b,e,ey,eb,l⟩
 ·subst ey;obtain⟨z,hd,vs,dX,dd⟩:=qL I.ba e;refine wpAny_in_of (vU ry) hd dd.mapOf ?_;rw[<- (dX.val k).E4, <- l];exact h _ (I.tok _)
 ·subst ey;cases(show u=gA b from ry);obtain⟨z,hd,xs,dX,dd⟩:=vV I.ba e;refine wpAny_in_heap (Lh hu) (yr I.ba eb) hd dd ?_;have q:=(dX.val k).E4;rw[agO]at q;rw[<- q, <- l];exact h _ (I.tok _)
theorem E7{t':Nat}(I:Inv X aa σ H s)(mu:jC (H a))(hs:Lu a s.heap h')(he:∃q,h'.get? a=some q)(new:fY X.prog X.w (upd H a ob) h' a ob):
  Inv X aa σ (upd H a ob) { s with heap:=h',toks:=t' }:=
 I.write (x:=a) (e:=a) mu (.inl rfl) (λb q hb z=>(hs.2 b hb).trans z) he new
theorem Nc{P:Program}{w:World}{H':Hp}(z:ah.length<=aM)(hd:(a == rD)=false)(dX:KV ah vs)(dd:h'.DictOf (jf P w) a vs):
  fY P w H' h' a (.dK ah):=⟨z,hd,vs,dX,dd⟩
theorem Nd(hu:A.units + 1 < cLine)(I:Inv X aa σ H s)(g:Bx H a y v H')(ry:RelV y u)(rv:RelV v r)(h:∀s',Inv X aa σ H' s'->Q () s'):
  wpAny (model X.prog X.w) A (setItem (.ref a) u r) Q E s:=by
 rcases g with⟨ah,k,e,ey,l,eH⟩ | ⟨ah,k,b,e,ey,eb,l,eH⟩
 ·subst ey eH;obtain⟨z,hd,vs,dX,dd⟩:=E6 I.ba e;have hz:vs.length<=aM:=by rw[<- dX.length];exact z
  have hl:(jx ah k v).length<=aM:=by have:=E3 ah k v;lia
  refine wpAny_setItem_pairs (hsz:=hz) (vU ry) dd λh' t5 hs=>h _ ?_;have he:∃q,h'.get? a=some q:=let ⟨q,_,_,hq,_⟩:=t5;⟨q,hq⟩;exact E7 I (by rw[e];exact kK) hs he (Nc hl hd (dX.put k rv) t5)
 ·subst ey eH;cases(show u=gA b from ry);obtain⟨z,hd,xs,dX,dd⟩:=W5 I.ba e;have hz:xs.length<=aM:=by rw[<- T7 dX];exact z
  have hl:(jx ah k v).length<=aM:=by have:=E3 ah k v;lia
  refine wpAny_setItem_heap (hsz:=hz) (Lh hu) (yr I.ba eb) dd λh' t5 hs=>h _ ?_;obtain⟨q,es,ep,hq,h2,h3,h4,_,h5⟩:=t5;refine E7 I (by rw[e];exact kK) hs ⟨q,hq⟩ ⟨hl,hd,_,(dX.put k eb rv).keeps λc ys ec=> ?_,q,es,ep,hq,h2,h3,h4,h5⟩;rw[bA (UX ec e (λz=>nomatch z))];exact ec
theorem W8(I:Inv X aa σ H s)(e:Rd H a (.dK ah))(h:∀t s',Inv X aa σ H s'->Q (.int ah.length t) s'):wpAny (model X.prog X.w) A (call (.builtin "len") [.ref a]) Q E s:=by
 obtain⟨z,hd,vs,dX,dd⟩:=qL I.ba e;refine call_len_dict hd dd (by rw[<- dX.length];rw[Ld]at z;lia) ?_;rw[<- dX.length];exact h _ _ (I.tok _)
end
theorem W9{X:Cx}{aa:List (Addr×Obj)}{σ:St}{H:Hp}{s:Shared}{a:Addr}{y:V}{o:Option V}(I:Inv X aa σ H s)(g:sg H a y o):s.TypeIs (.ref a) "dict":=by
 rcases g with⟨ah,k,e,_,_⟩ | ⟨ah,k,b,e,_,_,_⟩
 ·obtain⟨_,_,vs,_,dd⟩:=qL I.ba e;exact dd.typeIs
 ·obtain⟨_,_,xs,_,dd⟩:=vV I.ba e;exact dd.typeIs
def Nf(td ty tv:TE):TS:=λD σ H=>tv σ H λv H1=>td σ H1 λx H2=>ty σ H2 λy H3=>∃a H4,x= .ref a/\Bx H3 a y v H4/\D.nx σ H4
section
theorem mK(hu:X.A.units + 1 < cLine)(ho:PE X o td)(hi:PE X i ty)(hv:PE X value tv)(hs:xE value (some (.Subscript o i pos')) pos.line X.env=pure false):
  PS X (.Assign [.Subscript o i pos'] value pos) (Nf td ty tv):=by
 intro aa s σ H D I h;refine wpAny_Assign_Subscript (bP (hv aa s σ H _ I h) λr s1 ⟨v,H1,I1,rv,q1⟩=>bP (ho aa s1 σ H1 _ I1 q1) λu s2 ⟨x,H2,I2,rx,q2⟩=>bP (hi aa s2 σ H2 _ I2 q2) λiv s3 ⟨y,H3,I3,ry,a,H4,ex,g,q3⟩=> ?_) hs;subst ex;obtain rfl:u=gA a:=rx;exact Nd hu I3 g ry rv λs4 I4=>⟨σ,H4,I4,q3⟩
end
theorem Ng{P:Program}{w:World}{H:Hp}(h:Heap)(hb:rD < h.objs.size):fY P w H (h.push { cls:= .type "dict",data:= .dict #[] }) h.objs.size (.dK []):=
 ⟨j8 _,beq_eq_false_iff_ne.mpr (jO (jy hb)), [], .nil,Heap.DictOf.new h⟩
def Nh:TE:=λ_ H Q=>∀p,H p=none->Q (.ref p) (upd H p (.dK []))
section
theorem vW:PE X (.Dict [] [] pos) Nh:=λaa s σ H Q I h=>
 wpAny_Dict_empty ⟨.ref s.heap.objs.size,_,I.laid (a:=s.heap.objs.size) (o:= .dK []) (t':=s.toks) (λ_ _ q=>gB _ q) (bX _) (Ng s.heap I.big),rfl,h _ (I.ba.fresh (bX _))⟩
end
def By:List (TE×TE)->St->Hp->(List (V×V)->Hp->Prop)->Prop
 | [],_,H,Q=>Q [] H
 |(tk,tv)::r,σ,H,Q=>tk σ H λx H1=>tv σ H1 λy H2=>By r σ H2 λps H3=>Q ((x,y)::ps) H3
abbrev VV:List (V×V)->List (Value×Value)->Prop:=Paired λp q=>RelV p.1 q.1/\RelV p.2 q.2
def yt(X:Cx)(pos:Pos)(keys:List (Option Expr))(values:List Expr)(lQ:List (TE×TE)):Prop:=
 ∀(aa:List (Addr×Obj)) (s:Shared) (σ:St) (H:Hp) (Q:List (V×V)->Hp->Prop),Inv X aa σ H s->By lQ σ H Q->
  wpAny (model X.prog X.w) X.A (evalPairs (pairTrees keys values X.env pos)) (λvs s'=>∃ps H',Inv X aa σ H' s'/\VV ps vs/\Q ps H') X.xe s
theorem E8{X:Cx}{pos:Pos}:yt X pos [] [] []:=λaa s σ H Q I h=>pairTrees_nil_walk ⟨[],H,I, .nil,h⟩
theorem mM{X:Cx}{pos:Pos}{k v:Expr}{tk tv:TE}(hk:PE X k tk)(hv:PE X v tv)(hr:yt X pos ks vs lQ):
  yt X pos (some k::ks) (v::vs) ((tk,tv)::lQ):=λaa s σ H Q I h=>
 pairTrees_cons_walk (bP (hk aa s σ H _ I h) λu s1 ⟨x,H1,I1,rx,q1⟩=>bP (hv aa s1 σ H1 _ I1 q1) λw2 s2 ⟨y,H2,I2,ry,q2⟩=>
  bP (hr aa s2 σ H2 _ I2 q2) λws s3 ⟨ps,H3,I3,dX,q3⟩=>⟨(x,y)::ps,H3,I3, .cons ⟨rx,ry⟩ dX,q3⟩)
def oC(ah more:List (bw×V)):List (bw×V):=more.foldl (λek kv=>jx ek kv.1 kv.2) ah
theorem KV.merge:∀{more:List (bw×V)} {rs:List (bw×Value)} {ah:List (bw×V)} {vs:List (bw×Value)},KV more rs->KV ah vs->KV (oC ah more) (merged vs rs):=by
 intro more rs ah vs r;unfold KV at r
 induction r generalizing ah vs with
 |nil=>intro q;exact q
 | @cons p q ps qs h t ih=>
  intro r0;have e:KV (jx ah p.1 p.2) (stored vs q.1 q.2):=by
   have:=r0.put p.1 h.2;rw[<- h.1];exact this
  exact ih e
theorem Ni:∀(more ah:List (bw×V)),(oC ah more).length<=ah.length + more.length
 | [],ah=>by show ah.length<=ah.length + 0;lia
 |p::r,ah=>by
  have h1:=Ni r (jx ah p.1 p.2);have h2:=E3 ah p.1 p.2;show(oC (jx ah p.1 p.2) r).length<=_;rw[gc];lia
theorem Nj{P:Program}{w:World}:∀{ah:List (bw×V)} {ws:List (Value×Value)},VV (ah.map λkv=>(kV kv.1,kv.2)) ws->∃rs,Carries (jf P w) ws rs/\KV ah rs
 | [],_,r=>by rw[iZ]at r;cases r;exact⟨[],kK, .nil⟩
 |p::ah,_,r=>by
  rw[eI]at r;cases r with
  | @cons a b as bs h t=>
   obtain⟨rs,c,q⟩:=Nj (P:=P) (w:=w) t;obtain⟨b1,b2⟩:=b;exact⟨(p.1,b2)::rs,⟨vU h.1,rfl,c⟩, .cons ⟨rfl,h.2⟩ q⟩
def yu(lQ:List (TE×TE)):TE:=λσ H Q=>∀p,H p=none->By lQ σ (upd H p (.dK [])) λps H2=>H2 p=some (.dK [])/\∃ah:List (bw×V),ps=ah.map (λkv=>(kV kv.1,kv.2))/\ah.length<=15/\Q (.ref p) (upd H2 p (.dK (oC [] ah)))
theorem Nk{X:Cx}{pos:Pos}(h:yt X pos keys values lQ)(qJ:keys.all (·.isSome)=true)(hl:keys.length=values.length)(h0:keys≠ [])
  (E9:keys.length<=15):PE X (.Dict keys values pos) (yu lQ):=by
 intro aa s σ H Q I q;have hn:=I.ba.fresh (bX s.heap.objs.size);have I1:=I.laid (a:=s.heap.objs.size) (o:= .dK []) (h':=s.heap.push { cls:= .type "dict",data:= .dict #[] }) (t':=s.toks) (λ_ _ q=>gB _ q) (bX _) (Ng s.heap I.big);refine wpAny_Dict_walk (knd:=jf X.prog X.w) qJ hl h0 E9 (bP (h aa _ σ _ _ I1 (q _ hn)) λws s2 ⟨ps,H2,I2,dX,e,ah,ep,lk,q2⟩=> ?_);subst ep;obtain⟨rs,c,rk⟩:=Nj (P:=X.prog) (w:=X.w) dX;obtain⟨z,hd,ahv,r0,dd⟩:=E6 I2.ba e;cases r0;refine⟨rs,c,dd,λh' t5 hs=>⟨.ref s.heap.objs.size,_, ?_,rfl,q2⟩⟩;have hz:(oC [] ah).length<=aM:=by
  have h1:=Ni ah [];rw[Uv]at h1;rw[Ld];lia
 have he:∃q,h'.get? s.heap.objs.size=some q:=let ⟨q,_,_,hq,_⟩:=t5;⟨q,hq⟩;exact E7 I2 (by rw[e];exact kK) hs he (Nc hz hd (rk.merge .nil) t5)
structure M2(X:Cx)(o:Expr)(m:Str)(iB:Pos)(e f:Expr)(jo:Pos):Prop where
 base:qo o m X.env (eval o X.env)=eval o X.env
 lT:((backTo jo (dh [e,f] X.env)).all (λx=> !x.1) && (xF jo (xG [] X.env)).all (λx=>x.1.isSome)
  && decide (([e,f]:List Expr).length + ([]:List Keyword).length + (if([]:List Keyword).isEmpty then 0 else 1) < 30))=true
 line:(iB.endLine == jo.line)=true
 trees:backTo jo (dh [e,f] X.env)= [(false,eval e X.env),(false,eval f X.env)]
def Fb(H:Hp)(a:Addr):Prop:=(∃ah,Rd H a (.dK ah))\/∃ah,Rd H a (.dT ah)
theorem Xa{X:Cx}{aa:List (Addr×Obj)}{σ:St}{H:Hp}{s:Shared}{a:Addr}(I:Inv X aa σ H s)(d:Fb H a):
  s.TypeIs (.ref a) "dict"/\(∀b,gA a= .ref b->∃ob,s.heap.get? b=some ob/\ob.dict=none)/\(a == rD)=false:=by
 rcases d with⟨ah,e⟩ | ⟨ah,e⟩
 ·obtain⟨_,hd,vs,_,dd⟩:=qL I.ba e;refine⟨dd.typeIs,λb q=> ?_,hd⟩;cases q;obtain⟨ob,_,_,h1,h2,_⟩:=dd;exact⟨ob,h1,h2.2.1⟩
 ·obtain⟨_,hd,xs,_,dd⟩:=vV I.ba e;refine⟨dd.typeIs,λb q=> ?_,hd⟩;cases q;obtain⟨ob,_,_,h1,h2,_⟩:=dd;exact⟨ob,h1,h2.2.1⟩
section
theorem Xb(hu:A.units + 1 < cLine)(I:Inv X aa σ H s)(g:sg H a y o)(ry:RelV y u)(rd:RelV d r)(h:∀w' s',Inv X aa σ H s'->RelV (o.getD d) w'->Q w' s'):
  wpAny (model X.prog X.w) A (call (.builtin "dict.get") [.ref a,u,r]) Q E s:=by
 rcases g with⟨ah,k,e,ey,l⟩ | ⟨ah,k,b,e,ey,eb,l⟩
 ·subst ey;obtain⟨z,hd,vs,dX,dd⟩:=qL I.ba e;refine T5 Uw dd.typeIs agP (agQ _ _ _) (meets_dict_get_default (jf X.prog X.w) a (vU ry) hd r) ⟨_,dd.mapOf,h _ _ (I.tok _) ?_⟩;rw[l];exact(dX.val k).getD rd
 ·subst ey;cases(show u=gA b from ry);obtain⟨z,hd,xs,dX,dd⟩:=vV I.ba e;refine T5 Uw dd.typeIs agP (agQ _ _ _) (meetsH_dict_get_default (AM (jf X.prog X.w)) a b hd r) ⟨Lh hu,k,xs,yr I.ba eb,dd,h _ _ (I.tok _) ?_⟩;rw[l];exact(dX.val k).getD rd
end
def Nl(td ty tx:TE):TE:=λσ H Q=>td σ H λx H1=>∃a,x= .ref a/\Fb H1 a/\ty σ H1 λy H2=>tx σ H2 λz H3=>∃o,sg H3 a y o/\Q (o.getD z) H3
section
theorem Fc(hu:X.A.units + 1 < cLine)(ho:PE X o td)(he:PE X e ty)(hf:PE X f tx)(m:M2 X o "get" iB e f jo):PE X (.Call (.Attribute o "get" iB) [e,f] [] jo) (Nl td ty tx):=by
 intro aa s σ H Q I h;refine wpAny_Call_method m.base m.lT m.line agR Uw PySem.F.type_dict_get (bP (ho aa s σ H _ I h) λu s1 ⟨x,H1,I1,rx,a,ex,d,q1⟩=> ?_);subst ex;obtain rfl:u=gA a:=rx;obtain⟨t1,t2,_⟩:=Xa I1 d;refine⟨t1,t2, ?_⟩;rw[m.trees];refine LF rfl (agL (Ui (bP (he aa s1 σ H1 _ I1 q1) λiv s2 ⟨y,H2,I2,ry,q2⟩=>
  Ui (bP (hf aa s2 σ H2 _ I2 q2) λfv s3 ⟨z,H3,I3,rz,ov,g,q3⟩=>agG ?_))))
 exact Xb hu I3 g ry rz λw' s4 I4 oA=>⟨_,H3,I4,oA,q3⟩
end
section
variable {κ:Type}[DecidableEq κ]
end
section
end
def t6(i j:Int):Prop:=0 < j/\j < 2 ^ 200
theorem Xc{j:Int}(h0:0 < j)(h:j < 2 ^ 200):j.natAbs.log2 < 9000:=by
 have e:j.natAbs < 2 ^ 200:=by
  have:(j.natAbs:Int)=j:=Int.natAbs_of_nonneg (Ux h0);have h2:(j.natAbs:Int) < ((2 ^ 200:Nat):Int):=by rw[this];exact_mod_cast h
  exact_mod_cast h2
 have:j.natAbs.log2 < 200:=(Nat.log2_lt (by lia)).mpr e
 lia
section
theorem Nm:dJ X (kE .FloorDiv) (rI t6 λi j=> .int (i / j)):=Bi λi j _ _ _ _ _ hc q=>by
 have h1:(0:Int) < j:=hc.1;exact floordiv_int (by lia) (by rw[Int.fdiv_eq_ediv_of_nonneg i (by lia)];exact q) (.inl (PyProof.noPylong_of_log2 (Xc hc.1 hc.2)))
theorem Xd:i4 X (.builtin "isinstance") (λxs H Q=>∃x t b,xs= [x, .ty T]/\kP X.K H x t/\vh X.K t (.type T)=some b/\Q (.bl b) H):=by
 intro aa s σ H xs us Q I r h;obtain⟨x,t,b,rfl,ty,e,q⟩:=h;obtain⟨u,w',rfl,ru,rt⟩:=vals2 r;cases rt;exact VX I ru ty e λtk=>⟨.bl b,H,I.tok tk,rfl,q⟩
end
theorem Fd(env:Env):∀(ns:List (Str×d6)) (ek:List (Str×Addr)),(∀y∈ns,y.2= .free->∃c,env.cells.lookup y.1=some c)->
  ∃new:List (Str×Addr),(∀p∈new,env.cells.lookup p.1=some p.2)/\(∀y∈ns,y.2= .free->∃c,(y.1,c)∈new)/\
   (forIn ns ek (λ(x:Str×d6) (r:List (Str×Addr))=>match x with
    |(name,kind)=>if(kind == mz)=true then do let c <- cellOf env name;pure (vp ((name,c)::r)) else pure (vp r)):Sem (List (Str×Addr)))=pure (new++ek)
 | [],ek,_=>⟨[],λ_ h=>(nomatch h),λ_ h=>(nomatch h),rfl⟩
 |(n,k)::rest,ek,h=>by
  by_cases hk:k= .free
  ·subst hk;obtain⟨c,hc⟩:=h (n, .free) tu rfl;obtain⟨new,h1,h2,h3⟩:=Fd env rest ((n,c)::ek) λy hy=>h y (my _ hy);refine⟨new++ [(n,c)],λp hp=> ?_,λy hy hf=> ?_, ?_⟩
   ·rcases kG.mp hp with z | z
    ·exact h1 p z
    ·obtain rfl:=gf.mp z;exact hc
   ·rcases fX.mp hy with z | z
    ·subst z;exact⟨c,by simp⟩
    ·obtain⟨c',z'⟩:=h2 y z hf;exact⟨c',DT _ z'⟩
   ·rw[Uy];have e1:cellOf env n=pure c:=by unfold cellOf;rw[hc]
    simp only[beq_self_eq_true,if_true,e1];rw[dI];exact h3
  ·obtain⟨new,h1,h2,h3⟩:=Fd env rest ek λy hy=>h y (my _ hy);refine⟨new,h1,λy hy hf=> ?_, ?_⟩
   ·rcases fX.mp hy with z | z
    ·subst z;exact absurd hf hk
    ·exact h2 y z hf
   ·rw[Uy];have e1:(k == mz)=false:=by simpa using hk
    simp only[e1,Bool.false_eq_true,if_false];exact h3
theorem ags{l:List (Str×Addr)}(h:(x,c)∈l):∃c',l.lookup x=some c':=by
 induction l with
 |nil=>cases h
 |cons p r ih=>
  obtain⟨y,d⟩:=p;rw[mB];cases e:x == y with
  |true=>exact⟨d,rfl⟩
  |false=>
   rcases fX.mp h with z | z
   ·have:x=y:=congrArg Uz z;rw[this]at e;simp at e
   ·exact ih z
theorem Nn{scope:Scope}{env:Env}(h:∀y∈scope.names,y.2= .free->∃c,env.cells.lookup y.1=some c):
  ∃cl,closureFor scope env=pure cl/\(∀x c,cl.lookup x=some c->env.cells.lookup x=some c)/\(∀y∈scope.names,y.2= .free->∃c,cl.lookup y.1=some c):=by
 obtain⟨new,h1,h2,h3⟩:=Fd env scope.names [] h;refine⟨new, ?_,λx c e=>h1 _ (vi e),λy hy hf=> ?_⟩
 ·rw[fE]at h3;have e:closureFor scope env=((forIn scope.names ([]:List (Str×Addr)) (λ(x:Str×d6) (r:List (Str×Addr))=>match x with
    |(name,kind)=>if(kind == mz)=true then do let c <- cellOf env name;pure (vp ((name,c)::r)) else pure (vp r)):Sem (List (Str×Addr))) >>= λr=>pure r):=rfl
  rw[e,h3];rfl
 ·obtain⟨c,hc⟩:=h2 y hy hf;exact ags hc
section
theorem Xe{elt target iter:Expr}{ifs:List Expr}{scope:Scope}{pos:Pos}{it ek:Value}{env:Env}(I:Nat->Shared->Prop)
  (turn:∀n s,I n s->wpAny (model prog w) A (pyNext it) (λr eB=>match r with
   |none=>R (.ok .next) eB
   |some v=>wpAny (model prog w) A (Lc target it v) (λ_ Np=>wpAny (model prog w) A (assign target env v) (λ_ Bh=>
     wpAny (model prog w) A (forIn ifs true λc r=>if r=true then do let ok <- isTrue c env (eval c env);pure (vp ok) else pure (vp r)) (λok oE=>
      if ok=true then wpAny (model prog w) A (eval elt env) (λx Bz=>
       wpAny (model prog w) A (call (.builtin "list.append") [ek,x]) (λ_ Nq=>∃m,m < n/\I m Nq) (AU (model prog w) A env λe s'=>R (.error e) s') Bz) (AU (model prog w) A env λe s'=>R (.error e) s') oE
      else ∃m,m < n/\I m oE) (AU (model prog w) A env λe s'=>R (.error e) s') Bh) (AU (model prog w) A env λe s'=>R (.error e) s') Np) (AU (model prog w) A env λe s'=>R (.error e) s') eB) (AU (model prog w) A env λe s'=>R (.error e) s') s)
  (n:Nat) (h:I n s):
  mw (model prog w) A (.compLoop (.ListComp elt [⟨target,iter,ifs,0⟩] scope pos) 0 it ek env) R s:=by
 refine codeAny_loop rfl I (λn s hI=> ?_) n h;show wpAny _ A ((compTurn (.ListComp elt [⟨target,iter,ifs,0⟩] scope pos) 0 it ek env).onRaise (λx=>do noteFrame x env;theTreesLotGoes x)) _ _ s;refine wpAny_noted ?_;rw[compTurn_list];refine bq (TQ (bq (lq (turn n s hI) (λr eB yv=> ?_) λ_ _ h'=>h')));cases r with
 |none=>exact dw yv
 |some v=>
  refine bq (lq yv (λ_ Np Xf=> ?_) λ_ _ h'=>h');refine bq (lq Xf (λ_ Bh Xg=>bq (lq Xg (λok oE Nr=> ?_) λ_ _ h'=>h')) λ_ _ h'=>h');cases ok with
  |false=>exact dw ⟨rfl,Nr⟩
  |true=>
   exact bq (bq (lq Nr (λx Bz Xh=>bq (lq Xh (λ_ Nq Xi=>dw (dw ⟨rfl,Xi⟩)) λ_ _ h'=>h')) λ_ _ h'=>h'))
end
noncomputable def i5 (X:Cx) (N:List Str) (scope:Scope) (cl:List (Str×Addr)) (C:Addr) (s:Shared) (H:Hp) (ex:List Addr) (aa:List (Addr×Obj)):Cx:=
 { X with N:=N,iO:=s,rJ:=H,env:=compEnvC scope cl C X.env,outer:=X.stack,stack:=X.stack,ex:=ex,fn:=λx=>scope.names.lookup x == some jB,pn:=X.pn++aa,xe:=λ_ _=>False }
theorem Xj{M:Model}{A:Around}{E:Value->Shared->Prop}{s:Shared}{scope:Scope}{globals:Addr}{cl:List (Str×Addr)}{qual:Str}{env:Env}{Q:Env->Shared->Prop}
  (hQ:Q (newEnv scope s.heap.objs.size globals (m8 (s.heap.objs.size + 1) scope.names cl) qual none .none (some env) Lb) { s with heap:=u9 (s.heap.push { cls:= .type "dict",data:= .dict #[] }) scope.names }):
  wpAny M A (T6 scope globals cl [] qual none .none (some env)) Q E s:=by
 simp only[T6,agN,if_true];refine bq (wpAny_alloc ?_);refine bq (wpAny_layCells _ (λname kind cells=>by cases Xk:kind == jB <;> simp[Xk]) _ _ _ _ ?_);rw[show({ s with heap:=s.heap.push { cls:= .type "dict",data:= .dict #[] } }:Shared).heap.objs.size=s.heap.objs.size + 1 from tG ..];rw[agS];exact bq (dw (dw hQ))
theorem Fe:∀(names:List (Str×d6)) (h:Heap) (ek:List (Str×Addr)) (x:Str) (c:Addr),(m8 h.objs.size names ek).lookup x=some c->
  (ek.lookup x=some c/\¬ (x,jB)∈names)\/(h.objs.size<=c/\(x,jB)∈names/\(u9 h names).IsCell c none)
 | [],_,_,_,_,e=> .inl ⟨e,λz=>nomatch z⟩
 |(name,kind)::r,h,ek,x,c,e=>by
  unfold m8 at e;unfold u9;by_cases hk:(kind == jB)=true
  ·rw[if_pos hk]at e;rw[if_pos hk];obtain rfl:kind= .cell:=by simpa using hk
   have hs:(h.push { cls:= .type "cell",data:= .cell none }).objs.size=h.objs.size + 1:=tG ..;rw[<- hs]at e;rcases Fe r _ _ x c e with⟨e1,e2⟩ | ⟨e1,e2,e3⟩
   ·rw[mB]at e1;cases hx:x == name with
    |true=>
     rw[hx]at e1;cases e1;obtain rfl:x=name:=by simpa using hx
     exact .inr ⟨bX _,tu,_,Li _ _ _ _ (jz _ rfl),rfl⟩
    |false=>
     rw[hx]at e1;refine .inl ⟨e1,λz=> ?_⟩;rcases fX.mp z with z | z
     ·have:x=name:=congrArg Uz z;rw[this]at hx;simp at hx
     ·exact e2 z
   ·exact .inr ⟨by rw[hs]at e1;exact Nat.le_of_succ_le e1,my _ e2,e3⟩
  ·rw[if_neg hk]at e;rw[if_neg hk];rcases Fe r h ek x c e with⟨e1,e2⟩ | ⟨e1,e2,e3⟩
   ·refine .inl ⟨e1,λz=> ?_⟩;rcases fX.mp z with z | z
    ·have:jB=kind:=congrArg Prod.snd z;rw[<- this]at hk;exact hk rfl
    ·exact e2 z
   ·exact .inr ⟨e1,my _ e2,e3⟩
theorem Ff:∀(names:List (Str×d6)) (n:Nat) (ek:List (Str×Addr)) (x:Str),(x,jB)∈names\/(∃c,ek.lookup x=some c)->∃c,(m8 n names ek).lookup x=some c
 | [],_,_,_,h=>h.elim (λz=>nomatch z) id
 |(name,kind)::r,n,ek,x,h=>by
  unfold m8;by_cases hk:(kind == jB)=true
  ·rw[if_pos hk];refine Ff r _ _ x ?_;rw[mB];cases hx:x == name with
   |true=>exact .inr ⟨n,rfl⟩
   |false=>
    rcases h with h | h
    ·rcases fX.mp h with z | z
     ·have:x=name:=congrArg Uz z;rw[this]at hx;simp at hx
     ·exact .inl z
    ·exact .inr h
  ·rw[if_neg hk];refine Ff r _ _ x (h.imp (λz=> ?_) id);rcases fX.mp z with z | z
   ·have:jB=kind:=congrArg Prod.snd z;rw[<- this]at hk;exact absurd rfl hk
   ·exact z
theorem Fg:∀(names:List (Str×d6)) (n:Nat) (ek:List (Str×Addr)),(∀x c,ek.lookup x=some c->c < n)->(∀x y c,ek.lookup x=some c->ek.lookup y=some c->x=y)->
  ∀x y c,(m8 n names ek).lookup x=some c->(m8 n names ek).lookup y=some c->x=y
 | [],_,_,_,h=>h
 |(name,kind)::r,n,ek,hb,hi=>by
  unfold m8;by_cases hk:(kind == jB)=true
  ·rw[if_pos hk];refine Fg r _ _ (λx c e=> ?_) λx y c e1 e2=> ?_
   ·rw[mB]at e;cases hx:x == name with
    |true=>rw[hx]at e;cases e;exact DV _
    |false=>rw[hx]at e;exact LG (hb x c e)
   ·rw[mB]at e1 e2;cases hx:x == name with
    |true=>
     rw[hx]at e1;cases e1;cases hy:y == name with
     |true=>rw[show x=name by simpa using hx,show y=name by simpa using hy]
     |false=>rw[hy]at e2;exact absurd (hb y _ e2) (m9 _)
    |false=>
     rw[hx]at e1;cases hy:y == name with
     |true=>rw[hy]at e2;cases e2;exact absurd (hb x _ e1) (m9 _)
     |false=>rw[hy]at e2;exact hi x y c e1 e2
  ·rw[if_neg hk];exact Fg r n ek hb hi
structure Nt(X:Cx)(scope:Scope)(C:Addr)(h':Heap)(cl:List (Str×Addr)):Prop where
 at_:∀x c,cl.lookup x=some c->(X.env.cells.lookup x=some c/\¬ (x,jB)∈scope.names)\/(C < c/\(x,jB)∈scope.names/\h'.IsCell c none)
 has:∀y∈scope.names,(y.2= .free\/y.2= .cell)->∃c,cl.lookup y.1=some c
 inj:∀x y c,cl.lookup x=some c->cl.lookup y=some c->x=y
noncomputable def pY (js:List (Option Nat)) (σ:St):St:=js.map λo=>o.bind λj=>(σ[j]?).join
structure yw(X:Cx)(N:List Str)(scope:Scope)(js:List (Option Nat)):Prop where
 len:js.length=N.length
 at_:∀(i j:Nat) (x:Str),js[i]?=some (some j)->N[i]?=some x->X.N[j]?=some x/\scope.names.lookup x=some .free/\(X.env.scope.names.lookup x=some .cell\/X.env.scope.names.lookup x=some .free)
 fr:∀y∈scope.names,y.2= .free->X.env.kindOf y.1=some .cell\/X.env.kindOf y.1=some .free
theorem Nu{env:Env}:∀{names:List (Str×d6)} {x:Str},names.lookup x=some .free->
  let r:=(names.map λ(n,k)=>if(k == mz && env.scope.kind == .function && env.kindOf n == some .cell) then(n,jB) else(n,k)).lookup x
  r=some .cell\/r=some .free
 | [],_,h=>by simp at h
 |(n,k)::r,x,h=>by
  have ih:=@Nu env r x;show(tF x ((if(k == mz && env.scope.kind == .function && env.kindOf n == some .cell)=true then(n,jB) else(n,k))::_)=_)\/(tF x ((if(k == mz && env.scope.kind == .function && env.kindOf n == some .cell)=true then(n,jB) else(n,k))::_)=_);cases hx:x == n with
  |true=>
   simp only[mB,hx]at h;cases h;by_cases hc:(mz == mz && env.scope.kind == .function && env.kindOf n == some .cell)=true
   ·rw[if_pos hc];simp only[mB,hx];exact .inl trivial
   ·rw[if_neg hc];simp only[mB,hx];exact .inr trivial
  |false=>
   simp only[mB,hx]at h;by_cases hc:(k == mz && env.scope.kind == .function && env.kindOf n == some .cell)=true
   ·rw[if_pos hc];simp only[mB,hx];exact ih h
   ·rw[if_neg hc];simp only[mB,hx];exact ih h
theorem Nv{env:Env}:∀{names:List (Str×d6)} {x:Str},
  ((names.map λ(n,k)=>if(k == mz && env.scope.kind == .function && env.kindOf n == some .cell) then(n,jB) else(n,k)).lookup x=some .cell\/
   (names.map λ(n,k)=>if(k == mz && env.scope.kind == .function && env.kindOf n == some .cell) then(n,jB) else(n,k)).lookup x=some .free)->
  (x,mz)∈names\/(x,jB)∈names
 | [],_,h=>by simp at h
 |(n,k)::r,x,h=>by
  have ih:=@Nv env r x;rw[eI]at h;by_cases hc:(k == mz && env.scope.kind == .function && env.kindOf n == some .cell)=true
  ·have e:(match ((n,k):Str×d6) with | (n,k)=>if(k == mz && env.scope.kind == .function && env.kindOf n == some .cell)=true then(n,jB) else(n,k))=(n,jB):=if_pos hc;rw[e]at h;simp only[mB]at h;cases hx:x == n with
   |true=>
    have:x=n:=by simpa using hx
    have hk:k= .free:=by
     rw[qt,qt]at hc;simpa using hc.1.1
    rw[this,hk];exact .inl tu
   |false=>
    rw[hx]at h;exact(ih h).imp (my _) (my _)
  ·have e:(match ((n,k):Str×d6) with | (n,k)=>if(k == mz && env.scope.kind == .function && env.kindOf n == some .cell)=true then(n,jB) else(n,k))=(n,k):=if_neg hc;rw[e]at h;simp only[mB]at h;cases hx:x == n with
   |true=>
    have:x=n:=by simpa using hx
    rw[hx]at h;rw[this];rcases h with h | h
    ·cases h;exact .inr tu
    ·cases h;exact .inl tu
   |false=>
    rw[hx]at h;exact(ih h).imp (my _) (my _)
section
theorem Inv.block{t':Nat}(I:Inv X aa σ H s)(hf:∀b∈fp,iQ X aa H b/\b < s.heap.objs.size)(hC:s.heap.objs.size<=C)(hk:∀b o,s.heap.get? b=some o->h'.get? b=some o)(hn:h'.Ns C m)
  (oz:scope.kind= .function) (pN:∀y∈scope.names,y.2= .cell->scope.names.lookup y.1=some .cell) (cO:Nt X scope C h' cl) (pZ:yw X N scope js):
  Inv (i5 X N scope cl C s H fp aa) [] (pY js σ) H { s with heap:=h',toks:=t' }:=by
 have ahw:∀x c,X.env.cells.lookup x=some c->c < s.heap.objs.size:=λx c e=>by
  obtain⟨v,q⟩:=I.cell x c e;exact q.lt
 have Xl:∀p∈X.pn++aa,p.1∉lO X.stack:=λp hp z=>by
  obtain⟨_,_,h3,h4,_⟩:=I.pin p hp;rcases fX.mp (I.ya _ z) with q | q
  ·exact h3 q
  ·exact h4 q
 have Xm:(i5 X N scope cl C s H fp aa).Ok:=by
  refine⟨I.ok.mod,oz,I.ok.glob,I.ok.blt,hC,cO.inj,λx hx=> ?_,λx c h e=> ?_,I.ok.hd,I.ok.frames, .inl rfl,λb hb=>⟨?_,λx c e=> ?_⟩,I.bs,bO I.ok.pK I.sz,
   λb o e hb=> ?_,λb hb z=> ?_,I.stack,I.L4⟩
  ·rcases Nv (env:=X.env) hx with q | q
   ·exact cO.has _ q (.inl rfl)
   ·exact cO.has _ q (.inr rfl)
  ·have h1:scope.names.lookup x=some jB:=by simpa[i5]using h
   rcases cO.at_ x c e with⟨_,z⟩ | ⟨z,_⟩
   ·exact absurd (vi h1) z
   ·exact bO hC (tq z)
  ·exact jy (iu (hf b hb).2 hC)
  ·rcases cO.at_ x c e with⟨z,_⟩ | ⟨z,_⟩
   ·exact(hf b hb).1.2.2.2.2.1 x c z
   ·exact AZ (iu (hf b hb).2 (bO hC (tq z)))
  ·obtain⟨_,_,_,h4,_⟩:=(hf b hb).1;rcases h4 with z | z
   ·exact I.ok.xZ b o e z
   ·exact absurd (iu (gk e) (bO I.ok.pK z)) (m9 _)
  ·obtain⟨_,h2,h3,_⟩:=(hf b hb).1;rcases fX.mp (I.ya _ z) with q | q
   ·exact h2 q
   ·exact h3 q
 refine⟨Xm,rfl,I.bare,Un.kept hk,⟨m,hn,λi x v e1 e2 e3=> ?_⟩,λx c e=> ?_,I.ba.fresh hC,λx c e=> ?_,λp hp=> ?_,I.ba.kept hk, ?_⟩
 ·have vX:(js.map λo=>o.bind λj=>(σ[j]?).join)[i]?=some (some v):=e2;rw[dF]at vX;cases ej:js[i]? with
  |none=>rw[ej]at vX;cases vX
  |some oj=>
   rw[ej]at vX;cases oj with
   |none=>cases vX
   |some j=>
    have BA:(σ[j]?).join=some v:=jI vX;have Xn:σ[j]?=some (some v):=by
     cases q:σ[j]? with
     |none=>rw[q]at BA;cases BA
     |some o=>rw[q]at BA;rw[show o=some v from BA]
    obtain⟨hN,vz,hX⟩:=pZ.at_ i j x ej e1;obtain⟨mX,_,hl⟩:=I.loc;obtain⟨u,ru,lk⟩:=hl j x v hN Xn (hX.elim (λz=> .inr (.inl z)) λz=> .inr (.inr z));refine⟨u,ru, .inr ⟨Nu (env:=X.env) vz, ?_⟩⟩;rcases lk with⟨Xo,_⟩ | ⟨_,c,hc,Xp⟩
    ·have Nw:X.env.scope.names.lookup x=some .local:=Xo;rcases hX with z | z <;> rw[z]at Nw <;> cases Nw
    ·obtain⟨c',qz⟩:=cO.has _ (vi vz) (.inl rfl);have Xq:X.env.cells.lookup x=some c':=by
      rcases cO.at_ x c' qz with⟨z,_⟩ | ⟨_,z,_⟩
      ·exact z
      ·have:=pN _ z rfl;rw[vz]at this;cases this
     have:c'=c:=jI (Xq.symm.trans hc);subst this;obtain⟨o,ho,hd⟩:=Xp;exact⟨c',qz,o,hk _ _ ho,hd⟩
 ·rcases cO.at_ x c e with⟨z,_⟩ | ⟨_,_,z⟩
  ·obtain⟨v,o,ho,hd⟩:=I.cell x c z;exact⟨v,o,hk _ _ ho,hd⟩
  ·exact⟨none,z⟩
 ·rcases cO.at_ x c e with⟨z,_⟩ | ⟨z,_⟩
  ·exact I.nr x c z
  ·exact I.ba.fresh (bO hC (tq z))
 ·have qM:p∈X.pn++aa:=by
   have:p∈(X.pn++aa)++ []:=hp;rwa [fE]at this
  obtain⟨h1,h2,h3,h4,h5⟩:=I.pin p qM;exact⟨hk _ _ h1,h2,jy (iu (gk h1) hC),Xl p qM,h5⟩
 ·show(js.map _).length=N.length;rw[eS];exact pZ.len
theorem Inv.Xr{o:HO}(I:Inv X aa σ H s)(h0:X.iO.heap.objs.size<=D)(hn:H D=none)(hL:D≠X.env.locals)(hc:∀x c,X.env.cells.lookup x=some c->c≠D)(hp:∀p∈X.pn++aa,p.1≠D)
  (new:fY X.prog X.w (upd H D o) s.heap D o):Inv X aa σ (upd H D o) s:=by
 have old:∀b ob,X.iO.heap.get? b=some ob->b≠D:=λb ob e=>jy (iu (gk e) h0);refine⟨I.ok,I.os,I.bare,⟨I.base.keep,I.base.slot,λb ob e n hx=> ?_,I.base.there,λb xs e=> ?_,λb ob u e=> ?_,λb ps e=> ?_⟩,I.loc,I.cell, ?_,λx c e=> ?_,λp qM=> ?_,λb u e=> ?_,I.len⟩
 ·rw[bA (old b ob e)];exact I.base.free b ob e n hx
 ·have q:=I.base.pH b xs e;rw[bA (kL q hn)];exact q
 ·have q:=I.base.mC b ob u e;rw[bA (kL q hn)];exact q
 ·obtain⟨more,q⟩:=I.base.pJ b ps e;exact⟨more,by rw[bA (kL q hn)];exact q⟩
 ·rw[bA (jO hL)];exact I.free
 ·rw[bA (hc x c e)];exact I.nr x c e
 ·obtain⟨h1,h2,h3⟩:=I.pin p qM;exact⟨h1,by rw[bA (hp p qM)];exact h2,h3⟩
 ·by_cases hb:b=D
  ·subst hb;rw[eJ]at e;cases e;exact new
  ·rw[bA hb]at e;exact(I.ba b u e).g9 (λc v _ q=>q) (λc z=>by rw[bA (kL z hn)];exact z) λc xs z=>by rw[bA (kL z hn)];exact z
theorem Inv.Xs{s':Shared}{aN:St}{H':Hp}{ys:List V}{au:List Value}{n:Nat}(I:Inv X aa σ H s)(hf:∀b∈fp,iQ X aa H b/\b < s.heap.objs.size)(hC:s.heap.objs.size<=C)(hD:s.heap.objs.size<=D)(yx:D≠C)
  (J:Inv (i5 X N scope cl C s H fp aa) [(D, { cls:= .type "list",data:= .seq au.toArray n })] aN H' s') (hv:bJ ys au) (hz:ys.length<=aM):
  Inv X aa σ (upd H' D (.lst ys)) s'/\iQ X aa (upd H' D (.lst ys)) C/\H' D=none/\∃m,s'.heap.Ns C m:=by
 have Fh:H' C=none:=J.free;have Nx:H' D=none:=(J.pin (D,_) (jK _ (gf.mpr rfl))).2.1;have Xt:s'.heap.get? D=some { cls:= .type "list",data:= .seq au.toArray n }:=(J.pin (D,_) (jK _ (gf.mpr rfl))).1;have u:Un (lO X.stack) fp H H' s.heap s'.heap:=J.base;obtain⟨hh,g,d,t,EC⟩:=s';have Xu:EC=s.os:=J.os;subst Xu;have I1:Inv X aa σ H' { s with heap:=hh,gens:=g,drawn:=d,toks:=t }:=
  I.call (h':=hh) (g':=g) (d':=d) (t':=t) (ch:=fp) u J.ba J.bare λb hb=>⟨(hf b hb).1.2.2.2.1,(hf b hb).1.2.1,(hf b hb).1.2.2.2.2.1,(hf b hb).1.2.2.2.2.2⟩
 have Dl:D≠X.env.locals:=AZ (iu I.lt hD);have young:∀a,s.heap.objs.size<=a->(∀x c,X.env.cells.lookup x=some c->c≠a)/\∀p∈X.pn++aa,p.1≠a:=λa ha=>⟨λx c e z=>by
   obtain⟨v,q⟩:=I.cell x c e;exact absurd (iu q.lt (by rw[z];exact ha)) (m9 _),λp hp z=>absurd (iu (gk (I.pin p hp).1) (by rw[z];exact ha)) (m9 _)⟩
 refine⟨I1.Xr (bO I.sz hD) Nx Dl (young D hD).1 (young D hD).2 ⟨hz,au,n,hv,Xt⟩,⟨by rw[bA (jO yx)];exact Fh,AZ (iu I.lt hC),I.Ec hC, .inr (bO I.sz hC),(young C hC).1,(young C hC).2⟩,Nx, ?_⟩;obtain⟨m,hn,_⟩:=J.loc;exact⟨m,hn⟩
end
def yy(Y:Cx)(ifs:List Expr)(tt:TT):Prop:=
 ∀(aa:List (Addr×Obj)) (s:Shared) (σ:St) (H:Hp) (Q:Bool->Hp->Prop),Inv Y aa σ H s->tt σ H Q->
  wpAny (model Y.prog Y.w) Y.A (forIn ifs true λc r=>if r=true then do let ok <- isTrue c Y.env (eval c Y.env);pure (vp ok) else pure (vp r)) (TP Y aa σ Q) Y.xe s
def BB:TT:=λ_ H Q=>Q true H
theorem sh:yy Y [] BB:=λ_ _ _ H _ I h=>dw ⟨H,I,h⟩
theorem vY(h:PT Y c tt):yy Y [c] tt:=by
 intro aa s σ H Q I hw;simp only[Uy,agS,if_true];exact bq (bq (lq (h aa s σ H Q I hw) (λb s' hb=>dw (dw hb)) λ_ _ x=>x))
def Ny(J:It)(g:TG)(tt:TT)(te:TE)(W:Nat->Nat->St->List V->Hp->Prop)(Q:V->Hp->Prop):Prop:=
 ∀i m aN ys H',W i m aN ys H'->(J.stop i H'/\∀D,H' D=none->Q (.ref D) (upd H' D (.lst ys)))\/
  (J.go i H'/\∃N:St->List V->Hp->Prop,(∀hJ zs H2,N hJ zs H2->zs.length<=aM/\∃m',m' < m/\W (i + 1) m' hJ zs H2)/\
   ∀x H2,J.vJ i H' x H2->g x aN H2 λhJ H3=>tt hJ H3 λok H4=>if ok=true then te hJ H4 λy H5=>N hJ (ys++ [y]) H5 else N hJ ys H4)
section
theorem Nz{W:Nat->Nat->St->List V->Hp->Prop}{Q:V->Hp->Prop}{m0:Nat}{RR:Value->Addr->Result->Shared->Prop}{E:Value->Shared->Prop}(hc:X.calm=true)
  (hg:∀cl C s H ex aa,PG (i5 X N scope cl C s H ex aa) tg g) (ht:∀cl C s H ex aa,yy (i5 X N scope cl C s H ex aa) ifs tt) (he:∀cl C s H ex aa,PE (i5 X N scope cl C s H ex aa) elt te)
  (oz:scope.kind= .function) (pN:∀y∈scope.names,y.2= .cell->scope.names.lookup y.1=some .cell) (oI:∀x c,cl.lookup x=some c->X.env.cells.lookup x=some c) (gq:∀y∈scope.names,y.2= .free->∃c,cl.lookup y.1=some c) (pZ:yw X N scope js)
  (I:Inv X aa σ H s) (T:Turn X.prog X.w X.K tg J fp it tn) (st:tn 0 s.heap) (f:∀b∈fp,iQ X aa H b) (w0:W 0 m0 (pY js σ) [] H) (turn:Ny J g tt te W Q)
  (Xv:∀(D C:Addr) (s':Shared) (ys:List V) (H':Hp),Inv X aa σ (upd H' D (.lst ys)) s'->iQ X aa (upd H' D (.lst ys)) C->(∃m,s'.heap.Ns C m)->Q (.ref D) (upd H' D (.lst ys))->RR (.ref D) C (.ok .next) s'):
  wpAny (model X.prog X.w) X.A (newList []) (λek oE=>wpAny (model X.prog X.w) X.A (T6 scope X.env.globals cl [] X.env.qual none .none (some X.env)) (λNB Bz=>
   mw (model X.prog X.w) X.A (.compStart (.ListComp elt [⟨tg,iter,ifs,0⟩] scope pos) 0 (.ref it) ek { NB with scope:=relabel scope X.env }) (RR ek NB.locals) Bz) E oE) E s:=by
 have j9:∀b∈fp,b < s.heap.objs.size:=λb hb=>by
  obtain⟨o,ho,_⟩:=T.obj 0 _ st b hb;exact gk ho
 have ff:∀b∈fp,iQ X aa H b/\b < s.heap.objs.size:=λb hb=>⟨f b hb,j9 b hb⟩
 refine xH (Xj ?_);dsimp only;generalize Fi:s.heap.push { cls:= .type "list",dict:=none,data:= .seq ([]:List Value).toArray }=H2;have hC:H2.objs.size=s.heap.objs.size + 1:=by rw[<- Fi,tG]
 have yx:s.heap.objs.size≠H2.objs.size:=by rw[hC];exact jy (DV _)
 have BC:s.heap.objs.size<=H2.objs.size:=by rw[hC];exact je _
 have below:∀b,b < s.heap.objs.size->b≠H2.objs.size/\b≠s.heap.objs.size:=λb hb=>⟨by rw[hC];exact jy (LG hb),jy hb⟩
 have Xw:(u9 (H2.push { cls:= .type "dict",data:= .dict #[] }) scope.names).Ns H2.objs.size (λ_=>none):=(Heap.Ns.new H2 (.type "dict")).keeps (Li _ _);have old:∀b o,s.heap.get? b=some o->(u9 (H2.push { cls:= .type "dict",data:= .dict #[] }) scope.names).get? b=some o:=λb o e=>Li _ _ b o (gB _ (Fi▸gB _ e));have BD:(u9 (H2.push { cls:= .type "dict",data:= .dict #[] }) scope.names).get? s.heap.objs.size=some { cls:= .type "list",dict:=none,data:= .seq ([]:List Value).toArray }:=Li _ _ _ _ (gB _ (Fi▸jz _ rfl));have jL:∀x c,cl.lookup x=some c->c < H2.objs.size + 1:=λx c e=>by
  obtain⟨v,q⟩:=I.cell x c (oI x c e);exact LG (iu q.lt BC)
 have hsz:(H2.push { cls:= .type "dict",data:= .dict #[] }).objs.size=H2.objs.size + 1:=tG ..;have cO:Nt X scope H2.objs.size (u9 (H2.push { cls:= .type "dict",data:= .dict #[] }) scope.names) (m8 (H2.objs.size + 1) scope.names cl):=by
  refine⟨λx c e=> ?_,λy hy hk=> ?_,Fg _ _ _ jL λx y c e1 e2=>I.ok.inj x y c (oI x c e1) (oI y c e2)⟩
  ·rw[<- hsz]at e;rcases Fe _ _ _ x c e with⟨e1,e2⟩ | ⟨e1,e2,e3⟩
   ·exact .inl ⟨oI x c e1,e2⟩
   ·exact .inr ⟨by rw[hsz]at e1;exact e1,e2,e3⟩
  ·obtain⟨y,k⟩:=y;refine Ff _ _ _ _ ?_;rcases hk with hk | hk
   ·exact .inr (gq _ hy hk)
   ·exact .inl (by rw[<- hk];exact hy)
 show mw _ _ (.compStart _ 0 _ _ (compEnvC scope (m8 (H2.objs.size + 1) scope.names cl) H2.objs.size X.env)) _ _;generalize m8 (H2.objs.size + 1) scope.names cl=ly at *;generalize u9 (H2.push { cls:= .type "dict",data:= .dict #[] }) scope.names=yv at *;clear oI gq jL hsz;generalize H2.objs.size=C at *;generalize BE:s.heap.objs.size=D at *;have t9:s.heap.objs.size<=D:=Ug BE;have NC:s.heap.objs.size<=C:=by rw[BE];exact BC
 -- mG ahx own invariant
 have J0:Inv (i5 X N scope ly C s H fp aa) [] (pY js σ) H { s with heap:=yv }:=
  I.block (λb hb=>⟨f b hb,by rw[BE];exact j9 b hb⟩) NC old Xw oz pN cO pZ
 have tP:∀b,b∉X.fs->b≠X.env.locals->b∉lO X.stack:=λb h1 h2 z=>by
  rcases fX.mp (I.ya _ z) with q | q
  ·exact h2 q
  ·exact h1 q
 have Xx:D∉lO X.stack:=tP D (I.Ec t9) (AZ (iu I.lt t9));have Xy:∀x c,ly.lookup x=some c->c≠D:=λx c e z=>by
  rcases cO.at_ x c e with⟨e,_⟩ | ⟨e,_⟩
  ·obtain⟨v,q⟩:=I.cell x c e;exact absurd (iu q.lt (by rw[z];exact t9)) (m9 _)
  ·exact absurd e (by rw[z];exact Nat.not_lt.mpr BC)
 have Xz:∀p∈X.pn++aa,p.1≠D:=λp hp z=>absurd (iu (gk (I.pin p hp).1) (by rw[z];exact t9)) (m9 _)
 -- mG list under way is pinned
 have ND:∀{ps:List (Addr×Obj)} {aN:St} {H':Hp} {s':Shared} {au:List Value} {n:Nat},Inv (i5 X N scope ly C s H fp aa) ps aN H' s'->H' D=none->s'.heap.get? D=some { cls:= .type "list",data:= .seq au.toArray n }->
   Inv (i5 X N scope ly C s H fp aa) [(D, { cls:= .type "list",data:= .seq au.toArray n })] aN H' s':=λ{ps aN H' s' au n} Jx hn ho=>Jx.yc λp hp=>by
  obtain rfl:=gf.mp hp;exact⟨ho,hn,yx,Xx,λv z=>by cases z⟩
 have tS:∀{H':Hp} {ob:Obj},(∀b∈fp,H' b=none)->∀b∈fp,iQ (i5 X N scope ly C s H fp aa) [(D,ob)] H' b:=λ{H' ob} hn b hb=>by
  obtain⟨_,f1,f2,f3,f4,f5⟩:=f b hb;refine⟨hn b hb,(below b (j9 b hb)).1,tP b f2 f1, .inl hb,λx c e=>(cO.at_ x c e).elim (λz=>f4 x c z.1) (λz=>AZ (iu (j9 b hb) (bO BC (tq z.1)))),λp hp=> ?_⟩;rcases kG.mp hp with z | z
  ·exact f5 p z
  ·obtain rfl:=gf.mp z;exact jO (below b (j9 b hb)).2
 have loop:∀oE:Shared,oE= { s with heap:=yv }->
   mw (model X.prog X.w) X.A (.compLoop (.ListComp elt [⟨tg,iter,ifs,0⟩] scope pos) 0 (.ref it) (.ref D) (compEnvC scope ly C X.env)) (RR (.ref D) C) oE:=by
  rintro oE rfl;refine Xe (λk s'=>∃(i:Nat) (aN:St) (ys:List V) (H':Hp) (au:List Value) (n:Nat),Inv (i5 X N scope ly C s H fp aa) [(D, { cls:= .type "list",data:= .seq au.toArray n })] aN H' s'/\bJ ys au/\ys.length<=aM/\tn i s'.heap/\(∀b∈fp,H' b=none)/\W i k aN ys H') ?_ m0
   ⟨0,pY js σ, [],H, [],0,ND J0 (I.ba.fresh t9) BD, .nil,j8 _,T.keep _ _ _ st λb _ o e=>old b o e,λb hb=>(f b hb).1,w0⟩
  rintro k s' ⟨i,aN,ys,H',au,n,J',hv,hz,hE,NF,w'⟩;rcases turn i k aN ys H' w' with⟨stop,q⟩ | ⟨go,NN,hN,step⟩
  ·refine lq (T.done (i5 X N scope ly C s H fp aa) rfl rfl rfl hc i _ s' aN H' (λ_ _=>False) J' (tS NF) hE stop) (λr s4 ⟨hr,J4⟩=> ?_) λ_ _ z=>z.elim;subst hr;obtain⟨K1,K2,K3,K4⟩:=I.Xs (λb hb=>⟨f b hb,by rw[BE];exact j9 b hb⟩) NC t9 yx J4 hv hz;exact Xv D C s4 ys H' K1 K2 K4 (q D K3)
  ·refine lq (T.item (i5 X N scope ly C s H fp aa) rfl rfl rfl hc i _ s' aN H' (λ_ _=>False) J' (tS NF) hE go) (λr s4 ⟨u,hr,h4⟩=> ?_) λ_ _ z=>z.elim;subst hr;refine lq h4 (λ_ s5 ⟨x,H5,J5,r5,y5,oo,Er⟩=> ?_) λ_ _ z=>z.elim;have XA:=J5.pinned (tS Er) (T.obj _ _ oo);have NG:∀{lP:St} {H7:Hp} {s7:Shared},Inv (i5 X N scope ly C s H fp aa) ([(D, { cls:= .type "list",data:= .seq au.toArray n })]++rS fp s5.heap) lP H7 s7->tn (i + 1) s7.heap/\∀b∈fp,H7 b=none:=λ{lP H7 s7} J7=>
    ⟨T.keep _ _ _ oo λb hb o e=>(J7.pin (b,o) (jK _ (jK _ (vM hb e)))).1,λb hb=>by
     obtain⟨o,e,d⟩:=T.obj _ _ oo b hb;exact(J7.pin (b,o) (jK _ (jK _ (vM hb e)))).2.1⟩
   refine lq (hg ly C s H fp aa _ s5 aN H5 x u _ XA r5 (step x H5 y5)) (λ_ s6 ⟨oq,H6,J6,q6⟩=> ?_) λ_ _ z=>(show False from z).elim;refine lq (ht ly C s H fp aa _ s6 oq H6 _ J6 q6) (λok s7 ⟨H7,J7,q7⟩=> ?_) λ_ _ z=>(show False from z).elim;cases ok with
   |false=>
    have XB:NN oq ys H7:=q7;obtain⟨oJ,m',hm,w7⟩:=hN oq ys H7 XB;obtain⟨t7,f7⟩:=NG J7;exact⟨m',hm,i + 1,oq,ys,H7,au,n,J7.vN,hv,hz,t7,f7,w7⟩
   |true=>
    refine lq (he ly C s H fp aa _ s7 oq H7 _ J7 q7) (λy s8 ⟨v,H8,J8,r8,q8⟩=> ?_) λ_ _ z=>(show False from z).elim;obtain⟨oJ,m',hm,w8⟩:=hN oq (ys++ [v]) H8 q8;obtain⟨t8,f8⟩:=NG J8;have pD:=J8.pin (D,_) (jK _ (DT _ (gf.mpr rfl)));have XC:au.toArray.size<=aM:=by rw[gr, <- hv.length];exact hz
    refine wpAny_list_append_plain (hsz:=XC) (items:=au.toArray) ⟨n,pD.1⟩ λh9 XD NH=> ?_;obtain⟨n9,XE⟩:=XD;have XF:h9.get? D=some { cls:= .type "list",data:= .seq (au++ [y]).toArray n9 }:=by rw[XE];simp
    have XG:Inv (i5 X N scope ly C s H fp aa) [] oq H8 s8:=J8.yc λp hp=>(nomatch hp)
    have J9:Inv (i5 X N scope ly C s H fp aa) [] oq H8 { s8 with heap:=h9 }:=XG.turned (t':=s8.toks) (it:=D) (λb o hb e=>(NH.2 b hb).trans e) pD.2.1 yx (.inr t9) Xy λp hp=>Xz p (by
     have:p∈(X.pn++aa)++ []:=hp;rwa [fE]at this)
    refine⟨m',hm,i + 1,oq,ys++ [v],H8,au++ [y],n9,ND J9 pD.2.1 XF,hv.append (.cons r8 .nil),oJ,T.keep _ _ _ t8 λb hb o e=>(NH.2 b (below b (j9 b hb)).2).trans e,f8,w8⟩
 exact codeAny_compStart_list (loop _ rfl) (T.self X.A 0 _ _ _ (T.keep _ _ _ st λb _ o e=>old b o e) (loop _ rfl))
def vZ(wi:TI)(g:TG)(tt:TT)(te:TE)(js:List (Option Nat)):TE:=λσ H Q=>wi σ H λJ H1=>∃W:Nat->Nat->St->List V->Hp->Prop,(∃m,W 0 m (pY js σ) [] H1)/\Ny J g tt te W Q
theorem p5(js:List (Option Nat))(N:List Str)(hc:X.calm=true)(pZ:yw X N scope js)(hi:PI X tg iter wi)(hg:∀cl C s H ex aa,PG (i5 X N scope cl C s H ex aa) tg g)(ht:∀cl C s H ex aa,yy (i5 X N scope cl C s H ex aa) ifs tt)
  (he:∀cl C s H ex aa,PE (i5 X N scope cl C s H ex aa) elt te)
  (oz:scope.kind= .function:=by rfl) (pN:∀y∈scope.names,y.2= .cell->scope.names.lookup y.1=some .cell:=by decide +kernel) (Fj:∀y∈scope.names,y.2= .local->scope.names.lookup y.1=some .local:=by decide +kernel)
  (hs:∀x,TU iter X.env x=pure x:=by intro _;rfl):PE X (.ListComp elt [⟨tg,iter,ifs,0⟩] scope pos) (vZ wi g tt te js):=by
 intro aa s σ H Q I h;obtain⟨cl,Fm,oI,gq⟩:=Nn (scope:=scope) (env:=X.env) λy hy hf=>I.ok.has _ (pZ.fr y hy hf);rw[eval_ListComp];refine agz (use:=none) rfl hs Fm oz Fj (bP (hi aa s σ H _ I h) λv s1 h1=>bP h1 λBe s2 h2=> ?_);obtain⟨it,fp,tn,J,H2,rfl,I2,T,cf,f2,W,⟨m0,w0⟩,turn⟩:=h2;refine Nz (RR:=λek C=>compPost (model X.prog X.w) X.A X.xe none (EP X aa σ Q) ek C) hc hg ht he oz pN oI gq pZ I2 T cf f2 w0 turn λD C s' ys H' K1 K2 K3 q=> ?_;obtain⟨m,hm⟩:=K3;refine⟨m,hm,λh' sb=>⟨.ref D,_,K1.turned (t':=s'.toks) (it:=C) (λb o hb e=>(sb.2 b hb).trans e) K2.1 K2.2.1 K2.2.2.2.1 K2.2.2.2.2.1 K2.2.2.2.2.2,rfl,q⟩⟩
theorem BF{py NI:Pos}(js:List (Option Nat))(N:List Str)(hc:X.calm=true)(pZ:yw X N scope js)(hN:X.N.Nodup)(hk:X.N[k]?=some y)(hy:Loc X.env.scope y)(hi:PI X tg iter wi)(hg:∀cl C s H ex aa,PG (i5 X N scope cl C s H ex aa) tg g)(ht:∀cl C s H ex aa,yy (i5 X N scope cl C s H ex aa) ifs tt)
  (he:∀cl C s H ex aa,PE (i5 X N scope cl C s H ex aa) elt te)
  (XH:xE (.ListComp elt [⟨tg,iter,ifs,0⟩] scope pos) (some (.Name y py)) NI.line X.env=pure true:=by rfl)
  (oz:scope.kind= .function:=by rfl) (pN:∀y∈scope.names,y.2= .cell->scope.names.lookup y.1=some .cell:=by decide +kernel) (Fj:∀y∈scope.names,y.2= .local->scope.names.lookup y.1=some .local:=by decide +kernel)
  (hs:∀x,TU iter X.env x=pure x:=by intro _;rfl) (hf:X.fn y=true\/X.env.scope.names.lookup y=some .local:=by first | exact .inl rfl | exact .inr rfl | assumption):
  PS X (.Assign [.Name y py] (.ListComp elt [⟨tg,iter,ifs,0⟩] scope pos) NI) (ny (vZ wi g tt te js) (mF k)):=by
 intro aa s σ H D I h;obtain⟨cl,Fm,oI,gq⟩:=Nn (scope:=scope) (env:=X.env) λy hy hf=>I.ok.has _ (pZ.fr y hy hf);rw[exec_Assign_Name_used _ _ _ _ XH];refine bq (TQ (bq ?_));show wpAny _ X.A (do let _ <- comprehension (.ListComp elt [⟨tg,iter,ifs,0⟩] scope pos) scope X.env _ (newList []) false (eval iter X.env) (some (assign (.Name y py) X.env))) _ _ s;refine bq (lq (agz (use:=some (assign (.Name y py) X.env)) (Q:=λ_ s'=>SP X aa D .next s') rfl hs Fm oz Fj
  (bP (hi aa s σ H _ I h) λv s1 h1=>bP h1 λBe s2 h2=> ?_)) (λ_ s' hq=>dw (dw hq)) λ_ _ e=>e)
 obtain⟨it,fp,tn,J,H2,rfl,I2,T,cf,f2,W,⟨m0,w0⟩,turn⟩:=h2;refine Nz (RR:=λek C=>compPost (model X.prog X.w) X.A X.xe (some (assign (.Name y py) X.env)) (λ_ s'=>SP X aa D .next s') ek C) hc hg ht he oz pN oI gq pZ I2 T cf f2 w0 turn λDd C s' ys H' K1 K2 K3 q=> ?_;obtain⟨m,o,es,ep,ho,hd,hr⟩:=K3;have Kp:Inv X (aa++ [(C,o)]) σ (upd H' Dd (.lst ys)) s':=K1.yc λp hp=>by
  rcases kG.mp hp with z | z
  ·exact K1.pin p (jK _ z)
  ·obtain rfl:=gf.mp z;exact⟨ho,K2.1,K2.2.1,K2.2.2.1,λv z=>by rw[hd]at z;cases z⟩
 show wpAny _ X.A (assign (.Name y py) X.env (.ref Dd)) _ _ _;refine wpAny_assign_Name (Ef (v:= .ref Dd) Kp hN hk hy rfl (λs3 I3=> ?_) hf);have pC:=I3.pin (C,o) (jK _ (jK _ (gf.mpr rfl)));refine⟨m,⟨o,es,ep,pC.1,hd,hr⟩,λh' sb=> ?_⟩;have I4:Inv X aa (σ.set k (some (.ref Dd))) (upd H' Dd (.lst ys)) s3:=I3.vN;exact⟨_,_,I4.turned (t':=s3.toks) (it:=C) (λb o hb e=>(sb.2 b hb).trans e) K2.1 K2.2.1 K2.2.2.2.1 K2.2.2.2.2.1 K2.2.2.2.2.2,q⟩
end
mutual
inductive jR(K:aj)(H:Hp):V->PyData->Prop
 |aE:jR K H .aE .none
 |bl (b:Bool):jR K H (.bl b) (.bool b)
 |int (i:Int):jR K H (.int i) (.int i)
 |str (x:Str):jR K H (.str x) (.str x)
 |lst {a:Addr} {xs:List V} {ds:List PyData}:cV K H a xs->uc K H xs ds->jR K H (.ref a) (.list ds)
 |tup {a:Addr} {xs:List V} {ds:List PyData}:cP K H a xs->uc K H xs ds->jR K H (.ref a) (.tuple ds)
inductive uc(K:aj)(H:Hp):List V->List PyData->Prop
 |nil:uc K H [] []
 |cons {x:V} {xs:List V} {d:PyData} {ds:List PyData}:jR K H x d->uc K H xs ds->uc K H (x::xs) (d::ds)
end
section
mutual
theorem Inv.reads(I:Inv X aa σ H s):∀{v:V} {d:PyData} {u:Value},jR X.K H v d->RelV v u->∃as,Reads s.heap u d as
 |_,_,_, .aE,r=>by cases r;exact⟨_, .none⟩
 |_,_,_, .bl b,r=>by cases r;exact⟨_, .bool b⟩
 |_,_,_, .int i,r=>by obtain⟨t,rfl⟩:=r;exact⟨_, .int i t⟩
 |_,_,_, .str x,r=>by obtain⟨t,rfl⟩:=r;exact⟨_, .str x t⟩
 |_,_,_, .lst hs ha,r=>by
  cases r;obtain⟨au,rv,⟨o,n,e,hc,_,hd⟩,_⟩:=I.list hs;obtain⟨as,q⟩:=I.readsAll ha rv;exact⟨_, .list e hc hd (by simpa using q)⟩
 |_,_,_, .tup hs ha,r=>by
  cases r;obtain⟨au,rv,⟨o,e,hc,n,hd⟩,_⟩:=I.tuple hs;obtain⟨as,q⟩:=I.readsAll ha rv;exact⟨_, .tuple e hc hd (by simpa using q)⟩
theorem Inv.readsAll(I:Inv X aa σ H s):∀{vs:List V} {ds:List PyData} {us:List Value},uc X.K H vs ds->bJ vs us->∃as,ReadsAll s.heap us ds as
 |_,_,_, .nil,r=>by cases r;exact⟨_, .nil⟩
 |_,_,_, .cons h t,r=>by
  cases r with
  |cons r1 r2=>
   obtain⟨as,q⟩:=I.reads h r1;obtain⟨bs,q2⟩:=I.readsAll t r2;exact⟨_, .cons q q2⟩
end
end
section
theorem XI(hu:X.A.units + 64 < cLine):dJ X (jd .Eq) (λx y H Q=>∃dx dy,jR X.K H x dx/\jR X.K H y dy/\dx.canLay0=true/\dy.canLay0=true/\dx.depth<=60/\Q (.bl (fM dx dy)) H):=by
 intro aa s σ H x y v u Q I rx ry h;obtain⟨dx,dy,h1,h2,c1,c2,hd,q⟩:=h;obtain⟨as,r1⟩:=I.reads h1 rx;obtain⟨bs,r2⟩:=I.reads h2 ry;exact SeqAt.compareEq_reads r1 r2 c1 c2 (by lia) ⟨.bl _,H,I,rfl,q⟩
theorem XJ(hu:X.A.units + 64 < cLine):dJ X (jd .NotEq) (λx y H Q=>∃dx dy,jR X.K H x dx/\jR X.K H y dy/\dx.canLay0=true/\dy.canLay0=true/\dx.depth<=60/\Q (.bl (!fM dx dy)) H):=by
 intro aa s σ H x y v u Q I rx ry h;obtain⟨dx,dy,h1,h2,c1,c2,hd,q⟩:=h;obtain⟨as,r1⟩:=I.reads h1 rx;obtain⟨bs,r2⟩:=I.reads h2 ry;exact SeqAt.compareNe_reads r1 r2 c1 c2 (by lia) ⟨.bl _,H,I,rfl,q⟩
end
def BG(x:Str):It:=⟨λi _=>i < x.cps.size,λi H v H'=>H'=H/\∃c,x.cps[i]?=some c/\v= .str ⟨#[c]⟩,λi _=>x.cps.size<=i⟩
theorem NJ{P:Program}{w:World}{K:aj}{tg:Expr}{it:Addr}{x:Str}{t:Tok}(tX: ["enumerate","zip","dict_itemiterator","dict_reverseitemiterator","odict_iterator","itertools.zip_longest","itertools.pairwise"].contains ty=false)
  (W:∀A':Around,A'.handled=none->Walks P w A' it [it] [it] x.cps.size (SignAt x) (λi h=>h.IsStrIter it ty x t i))
  (XM:∀(A:Around) (i:Nat) (s:Shared) (Q:Value->Shared->Prop) (E:Value->Shared->Prop),s.heap.IsStrIter it ty x t i->Q (.ref it) s->wpAny (model P w) A (pyIter (.ref it)) Q E s):Turn P w K tg (BG x) [it] it (λi h=>i<=x.cps.size/\h.IsStrIter it ty x t i) where
 mem:=by simp
 obj:=λi h st b hb=>by
  have e:b=it:=by simpa using hb
  subst e;obtain⟨_,o,e,c,d⟩:=st;exact⟨o,e,λv z=>by rw[d]at z;cases z⟩
 keep:=λi h h' st k=>by
  obtain⟨hi,o,e,r⟩:=st;exact⟨hi,o,k it (by simp) o e,r⟩
 item:=by
  intro X hP hw hK hc i aa s σ H E I hf st hg;subst hP hw hK;obtain⟨f0,f1,f2,f3,f4,f5⟩:=hf it (by simp);obtain⟨_,st⟩:=st;refine(W X.A (I.ok.hd hc)).item i s _ _ hg st λv h' tk hv hE kk=> ?_;obtain⟨c,u,hx,rfl⟩:=hv;have I1:Inv X aa σ H { s with heap:=h',toks:=tk }:=I.turned (λb o hb e=>kk b o (by simpa using hb) e) f0 f1 f3 f4 f5;obtain⟨o,e,XN,hd⟩:=id hE;exact⟨_,rfl,vK (s:= { s with heap:=h',toks:=tk }) e XN hd tX ⟨.str ⟨#[c]⟩,H,I1,⟨u,rfl⟩,⟨rfl,c,hx,rfl⟩,⟨hg,hE⟩,λb hb=>(hf b hb).1⟩⟩
 done:=by
  intro X hP hw hK hc i aa s σ H E I hf st hg;subst hP hw hK;obtain⟨f0,f1,f2,f3,f4,f5⟩:=hf it (by simp);obtain⟨hi,st⟩:=st;have e:i=x.cps.size:=Nat.le_antisymm hi hg;subst e;exact(W X.A (I.ok.hd hc)).done s _ _ st λh' tk kk=>⟨rfl,I.turned (t':=tk) (λb o hb e=>kk b o (by simpa using hb) e) f0 f1 f3 f4 f5⟩
 self:=λA i s Q E st h=>XM A i s Q E st.2 h
section
theorem XO(hc:X.calm=true):i4 X (.builtin "all") (λxs H Q=>∃(a:Addr) (bs:List Bool),xs= [.ref a]/\cV X.K H a (bs.map V.bl)/\Q (.bl (bs.all id)) H):=by
 intro aa s σ H xs us Q I r h;obtain⟨a,bs,rfl,hs,q⟩:=h;obtain⟨u,rfl,ru⟩:=vals1 r;cases ru;obtain⟨au,rv,pl,hz⟩:=I.list hs;have hl:au.length=bs.length:=by rw[<- rv.length,eS]
 refine call_all_walk ?_;refine DQ pl.isList ?_;have lt:a < s.heap.objs.size:=by obtain⟨o,n,e,_⟩:=pl;exact gk e
 have at_:∀(i:Nat) (v:Value),au.toArray[i]?=some v->v=xO (bs.getD i true):=λi v hv=>by
  have jD:au[i]?=some v:=by simpa using hv
  have hi:i < bs.length:=by
   have:=(bW.mp jD).1
   lia
  have hx:(bs.map V.bl)[i]?=some (.bl (bs.getD i true)):=by
   rw[dF,gn hi];simp[D0,gn hi]
  obtain⟨u,hu,ru⟩:=rv.get hx;rw[jD]at hu;cases hu;exact ru
 refine⟨s.heap.objs.size,_,_,_,_,_,λi=>bs.getD i true,rfl,D1 (A:=X.A.in1) (show X.A.in1.handled=none from I.ok.hd hc) _ a (jy lt) au.toArray,⟨⟨_,jz _ rfl,rfl,rfl⟩,pl.isList.at λo e=>gB _ e⟩,λi v s' Q' E' hv hQ=> ?_,λh' tk hk=> ?_⟩
 ·rw[at_ i v hv];exact xD hQ
 ·have e:((jJ au.toArray.size).all λi=>bs.getD i true)=bs.all id:=by
   rw[gr,hl];rw[Bool.eq_iff_iff,A3,A3]
   constructor
   ·intro h b hb;obtain⟨i,hi,e⟩:=List.mem_iff_getElem.mp hb;have:=h i (AY.mpr hi);rw[D0,gn hi]at this;rw[<- e];exact this
   ·intro h i hi;have NK:=AY.mp hi;rw[D0,gn NK];exact h _ (agT NK)
  rw[e];refine⟨.bl _,H,I.kept (t':=tk) λb o eo=>hk b o ?_ (gB _ eo),rfl,q⟩;intro z;rw[gf.mp z]at eo;exact absurd (gk eo) (m9 _)
theorem XQ:mJ X (λx lo hi H Q=>∃z,x= .str z/\z.length<=aM/\Q (.str (LH z lo hi)) H):=by
 intro aa s σ H x v vl vu lo hi sl Q I rx hs pl pu h;obtain⟨z,rfl,hz,q⟩:=h;obtain⟨t,rfl⟩:=rx;refine⟨"str",_,F.slot_str_getitem.lookup,typeIs_str _ _ _, ?_⟩;have dD:∀t' k,EP X aa σ Q (.str (LH z lo hi) t') { s with toks:=k }:=λt' k=>⟨.str _,H,I.tok k,⟨t',rfl⟩,q⟩
 obtain⟨o,ho,hc,hd⟩:=hs;cases pl with
 |none=>
  cases pu with
  |none=>exact Lk (l:=none) (u:=none) (st:=none) ⟨o,ho,hc,hd⟩ rfl (Ll ⟨bO (LI z _ _) hz,dD⟩)
  |int j tj=>exact Lk (l:=none) (u:=some (j,tj)) (st:=none) ⟨o,ho,hc,hd⟩ rfl (Ll ⟨bO (LI z _ _) hz,dD⟩)
 |int i ti=>
  cases pu with
  |none=>exact Lk (l:=some (i,ti)) (u:=none) (st:=none) ⟨o,ho,hc,hd⟩ rfl (Ll ⟨bO (LI z _ _) hz,dD⟩)
  |int j tj=>exact Lk (l:=some (i,ti)) (u:=some (j,tj)) (st:=none) ⟨o,ho,hc,hd⟩ rfl (Ll ⟨bO (LI z _ _) hz,dD⟩)
end
open PySem.W
section
variable {prog:Program}{w:World}{A:Around}{E:Value->Shared->Prop}{s:Shared}
end
section
variable {prog:Program}{w:World}{A:Around}{E:Value->Shared->Prop}{s:Shared}{κ:Type}[DecidableEq κ]{knd:agB prog w κ}
end
theorem NL:∀{xs:List V} {us:List Value},us.length=xs.length->(∀(j:Nat) (x:V) (u:Value),xs[j]?=some x->us[j]?=some u->RelV x u)->bJ xs us
 | [], [],_,_=> .nil
 | [],_::_,h,_=>by simp at h
 |_::_, [],h,_=>by simp at h
 |x::xs,u::us,h,r=> .cons (r 0 x u rfl rfl) (NL (by simpa using h) λj y v e1 e2=>r (j + 1) y v (by simpa using e1) (by simpa using e2))
section
variable {X:Cx}{aa:List (Addr×Obj)}{σ:St}{H:Hp}{s:Shared}
end
theorem BH{α β:Type}{R:α->β->Prop}:∀{xs:List α} {ys:List β} {j:Nat} {x:α} {y:β},Paired R xs ys->xs[j]?=some x->ys[j]?=some y->R x y
 |_,_,_,_,_, .nil,e,_=>by simp at e
 |_,_,0,_,_, .cons r _,e,f=>by simp at e f;subst e;subst f;exact r
 |_,_,j + 1,_,_, .cons _ t,e,f=>BH (j:=j) t (by simpa using e) (by simpa using f)
section
variable {prog:Program}{w:World}{A:Around}{E:Value->Shared->Prop}{s:Shared}{z TI TO i1 i2 l1 l2:Addr}{xs ys:Array Value}{R1 R2:Nat->Heap->Prop}
end
section
end
theorem gW(h:H p=none)(o:HO):aP H (upd H p o):=λb u q=>by rw[bA (kL q h)];exact q
structure eN(P:Program)(w:World)(K:aj)(mg:Str->Option Value)(base:Heap)(x:Str)(ps:List Str)(k:Nat)(sp:Sp):Prop where
 ex:∃(f:Addr) (fd:j7),cz P w K mg base cX k f fd ps sp/\Binds K fd ps []/\vg K (.ref f)=true/\mg x=some (.ref f)
theorem eN.of{P:Program}{w:World}{K:aj}{mg:Str->Option Value}{base:Heap}{x:Str}{ps:List Str}{k:Nat}{sp:Sp}{f:Addr}{fd:j7}{q:Str}{st:Stmt}(F:ee K x q st f fd)(b:Binds K fd ps [])(m:mg x=some (.ref f))
  (o:cz P w K mg base cX k f fd ps sp):eN P w K mg base x ps k sp:=⟨f,fd,o,b,F.kp,m⟩
theorem b9{p pos:Pos}{e:Expr}{es:List Expr}{t:TA}(C:eN X.prog X.w X.K X.mg X.base x ps k sp)(hr:fZ j X.A)(hg:Gl X x)
  (ha:PA X (e::es) t) (hj:k<=j:=by decide) (mH:(x == ("__debug__":Str))=false:=by decide) (he:dh (e::es) X.env=(false,eval e X.env)::dh es X.env:=by rfl) (dM:(backTo pos (dh es X.env)).any (·.1)=false:=by rfl):
  PE X (.Call (.Name x p) (e::es) [] pos) (tU sp [] E0 t):=by
 obtain⟨f,fd,o,b,kp,m⟩:=C.ex;exact V0 o (hr.mono hj) hg m kp b .nil Bu ha mH he dM
end L2
namespace VL
open PySem L2
inductive Kd where
 |tup | eT | lst | az (ks:List bw) | mN (ks:List (List bw)) | obj (C:Addr) (ns:List Str)
 deriving DecidableEq
inductive D where
 |sc (v:V)
 |nd (k:Kd) (cs:List D)
  |hl (v:V)
noncomputable def dk:Kd->Bool
 |.tup=>true
 |.eT=>true
 |_=>false
mutual
noncomputable def plain:D->Bool
 |.sc _=>true
 |.nd .tup cs=>aK cs
 |.nd .eT cs=>aK cs
 |.nd _ _=>false
 |.hl _=>false
noncomputable def aK:List D->Bool
 | []=>true
 |d::ds=>plain d && aK ds
end
theorem BI:∀{ds:List D} {d:D},aK ds=true->d∈ds->plain d=true
 |_::ds,d,h,m=>by
  rw[aK,qt]at h;cases m with
  |head=>exact h.1
  |tail _ m=>exact BI h.2 m
theorem qN:∀{ds:List D},(∀d∈ds,plain d=true)->aK ds=true
 | [],_=>rfl
 |d::ds,h=>by
  rw[aK,h d (.head _),qN λe he=>h e (.tail _ he)];rfl
theorem oK{ds:List D}{i:Nat}{d:D}(h:aK ds=true)(e:ds[i]?=some d):plain d=true:=BI h (gH e)
noncomputable def ho (k:Kd) (dx:Addr) (vs:List V):HO:=match k with
 |.tup=> .tup vs
 |.eT=> .lst vs
 |.lst=> .lst vs
 |.az ks=> .dK (ks.zip vs)
 |.mN ks=> .dT (ks.zip vs)
 |.obj C ns=> .ins C dx (ns.zip vs)
def fits(K:aj)(k:Kd)(n:Nat):Prop:=match k with
 |.az ks=>ks.length=n
 |.mN ks=>ks.length=n
 |.obj C ns=>ns.length=n/\kO K C/\∀f∈ns,iU K C f
 |_=>True
def jS(K:aj)(H:Hp)(a:Addr)(vs:List V):Prop:=(∃o,H a=some (.cD o (.lst vs)))\/∃(o:Obj) (au:Array Value) (n:Nat),K.lookup a=some o/\o.cls= .type "list"/\o.dict=none/\o.data= .seq au n/\au.size<=aM/\bJ vs au.toList
theorem jS.sq(h:jS K H a vs):cV K H a vs:=h.elim (λ⟨o,e⟩=> .inl (.inr ⟨o,e⟩)) .inr
def jb(K:aj)(H:Hp)(a:Addr)(k:Kd)(vs:List V):Prop:=fits K k vs.length/\match k with
 |.tup=>H a=some (.tup vs)
 |.eT=>jS K H a vs
 |.lst=>H a=some (.lst vs)
 |.az ks=>Rd H a (.dK (ks.zip vs))
 |.mN ks=>Rd H a (.dT (ks.zip vs))
 |.obj C ns=>∃dx,H a=some (.ins C dx (ns.zip vs))
def qO(K:aj)(H:Hp)(a:Addr)(k:Kd)(vs:List V):Prop:=dk k=false/\fits K k vs.length/\∃dx,H a=some (ho k dx vs)
theorem qO.cell(h:qO K H a k vs):jb K H a k vs:=by
 obtain⟨hk,hf,dx,e⟩:=h;refine⟨hf, ?_⟩;cases k with
 |tup=>cases hk
 |eT=>cases hk
 |lst=>exact e
 |az ks=>exact .inl e
 |mN ks=>exact .inl e
 |obj C ns=>exact⟨dx,e⟩
theorem qO.mu(h:qO K H a k vs):jC (H a):=by
 obtain⟨hk,hf,dx,e⟩:=h;rw[e];cases k with
 |tup=>cases hk
 |eT=>cases hk
 |lst=>trivial
 |az ks=>trivial
 |mN ks=>trivial
 |obj C ns=>trivial
def gJ(H H':Hp):Prop:=∀b o,¬ jC (some o)->H b=some o->H' b=some o
theorem gJ.refl(H:Hp):gJ H H:=λ_ _ _ h=>h
theorem gJ.of(s:aP H H'):gJ H H':=λb o _ h=>s b o h
theorem gJ.XR(s:gJ H H')(h:cP K H a xs):cP K H' a xs:=by
 rcases h with(h | ⟨o,h⟩) | h
 ·exact .inl (.inl (s _ _ (λz=>z) h))
 ·exact .inl (.inr ⟨o,s _ _ (λz=>z) h⟩)
 ·exact .inr h
theorem jS.g9(h:jS K H a vs)(s:gJ H H'):jS K H' a vs:=h.elim (λ⟨o,e⟩=> .inl ⟨o,s _ _ (λz=>z) e⟩) .inr
inductive Vw(K:aj)(H:Hp)(N:Addr->Prop):V->D->Prop
 |sc (v:V):Vw K H N v (.sc v)
 |hl (v:V):Vw K H N v (.hl v)
 |nd {a:Addr} {k:Kd} {vs:List V} {cs:List D}:(dk k=false->N a)->jb K H a k vs->vs.length=cs.length->(∀(i:Nat) (v:V) (d:D),vs[i]?=some v->cs[i]?=some d->Vw K H N v d)->Vw K H N (.ref a) (.nd k cs)
def jM(K:aj)(H:Hp)(F:Addr->Prop)(a:Addr)(k:Kd)(vs:List V)(cs:List D):Prop:=match k with
 |.tup=>H a=some (.tup vs)
 |.eT=>aK cs=true/\jS K H a vs
 |k=>F a/\qO K H a k vs
inductive bj(K:aj)(H:Hp):(Addr->Prop)->V->D->Prop
 |sc (F:Addr->Prop) (v:V):bj K H F v (.sc v)
 |hl (F:Addr->Prop) (v:V):bj K H F v (.hl v)
 |nd {F:Addr->Prop} {a:Addr} {k:Kd} {vs:List V} {cs:List D} (Fs:Nat->Addr->Prop):jM K H F a k vs cs->vs.length=cs.length->(∀i j b,Fs i b->Fs j b->i=j)->(∀i b,Fs i b->F b/\(dk k=false->b≠a))->
   (∀(i:Nat) (v:V) (d:D),vs[i]?=some v->cs[i]?=some d->bj K H (Fs i) v d)->bj K H F (.ref a) (.nd k cs)
section
variable {K:aj}{H H':Hp}{F F' N N':Addr->Prop}
theorem jM.mono(h:jM K H F a k vs cs)(m:∀b,F b->F' b):jM K H F' a k vs cs:=by
 cases k with
 |tup=>exact h
 |eT=>exact h
 |_=>exact⟨m _ h.1,h.2⟩
theorem jM.frame(h:jM K H F a k vs cs)(f:∀b o,F b->H b=some o->H' b=some o)(s:gJ H H'):jM K H' F a k vs cs:=by
 cases k with
 |tup=>exact s _ _ (λz=>z) h
 |eT=>exact⟨h.1,h.2.g9 s⟩
 |_=>obtain⟨h1,h2,h3,dx,e⟩:=h;exact⟨h1,h2,h3,dx,f _ _ h1 e⟩
theorem jM.cell(h:jM K H F a k vs cs):jb K H a k vs:=by
 cases k with
 |tup=>exact⟨trivial,h⟩
 |eT=>exact⟨trivial,h.2⟩
 |_=>exact h.2.cell
theorem jM.own(h:jM K H F a k vs cs)(hk:dk k=false):F a/\qO K H a k vs:=by
 cases k with
 |tup=>cases hk
 |eT=>cases hk
 |_=>exact h
theorem jM.put(hk:dk k=false)(h1:F a)(h2:qO K H a k vs):jM K H F a k vs cs:=by
 cases k with
 |tup=>cases hk
 |eT=>cases hk
 |_=>exact⟨h1,h2⟩
theorem bj.mono(h:bj K H F v d)(m:∀b,F b->F' b):bj K H F' v d:=by
 cases h with
 |sc=>exact .sc _ _
 |hl=>exact .hl _ _
 |nd Fs h1 h2 h3 h4 h5=>exact .nd Fs (h1.mono m) h2 h3 (λi b z=>⟨m _ (h4 i b z).1,(h4 i b z).2⟩) h5
theorem bj.frame(h:bj K H F v d)(f:∀b o,F b->H b=some o->H' b=some o)(s:gJ H H'):bj K H' F v d:=by
 induction h with
 |sc=>exact .sc _ _
 |hl=>exact .hl _ _
 |nd Fs h1 h2 h3 h4 _ ih=>exact .nd Fs (h1.frame f s) h2 h3 h4 λi v d hv hd=>ih i v d hv hd λb o z=>f b o (h4 i b z).1
theorem bj.same(h:bj K H F v d)(s:aP H H'):bj K H' F v d:=h.frame (λb o _ e=>s b o e) (gJ.of s)
theorem bj.view(h:bj K H F v d)(m:∀b,F b->N b):Vw K H N v d:=by
 induction h with
 |sc=>exact .sc _
 |hl=>exact .hl _
 |nd Fs h1 h2 h3 h4 _ ih=>exact .nd (λhk=>m _ (h1.own hk).1) h1.cell h2 λi v d hv hd=>ih i v d hv hd λb z=>m b (h4 i b z).1
theorem bj.vw(h:bj K H F v d):Vw K H (λ_=>True) v d:=h.view λ_ _=>trivial
theorem Vw.mono(h:Vw K H N v d)(m:∀b,N b->N' b):Vw K H N' v d:=by
 induction h with
 |sc=>exact .sc _
 |hl=>exact .hl _
 |nd h1 h2 h3 _ ih=>exact .nd (λk=>m _ (h1 k)) h2 h3 ih
theorem Vw.any(h:Vw K H N v d):Vw K H (λ_=>True) v d:=h.mono λ_ _=>trivial
theorem jb.frame(h:jb K H a k vs)(f:dk k=false->∀o,H a=some o->H' a=some o)(s:gJ H H'):jb K H' a k vs:=by
 obtain⟨h1,h⟩:=h;refine⟨h1, ?_⟩;cases k with
 |tup=>exact s _ _ (λz=>z) h
 |eT=>exact jS.g9 h s
 |lst=>exact f rfl _ h
 |az ks=>
  have f:=f rfl;rcases h with h | ⟨o,h⟩
  ·exact .inl (f _ h)
  ·exact .inr ⟨o,f _ h⟩
 |mN ks=>
  have f:=f rfl;rcases h with h | ⟨o,h⟩
  ·exact .inl (f _ h)
  ·exact .inr ⟨o,f _ h⟩
 |obj C ns=>
  obtain⟨dx,h⟩:=h;exact⟨dx,f rfl _ h⟩
theorem Vw.frame(h:Vw K H N v d)(f:∀b o,N b->H b=some o->H' b=some o)(s:gJ H H'):Vw K H' N v d:=by
 induction h with
 |sc=>exact .sc _
 |hl=>exact .hl _
 |nd h1 h2 h3 _ ih=>exact .nd h1 (h2.frame (λhk o e=>f _ o (h1 hk) e) s) h3 ih
theorem Vw.same(h:Vw K H N v d)(s:aP H H'):Vw K H' N v d:=h.frame (λb o _ e=>s b o e) (gJ.of s)
theorem Vw.plain{v:V}{d:D}(h:Vw K H N v d)(p:plain d=true):bj K H (λ_=>False) v d:=by
 induction h with
 |sc=>exact .sc _ _
 |hl=>cases p
 | @nd a k vs cs h1 h2 h3 _ ih=>
  cases k with
  |tup=>
   have p:aK cs=true:=p;exact .nd (λ_ _=>False) h2.2 h3 (λ_ _ _ z=>z.elim) (λ_ _ z=>z.elim) λi v d hv hd=>ih i v d hv hd (oK p hd)
  |eT=>
   have p:aK cs=true:=p;exact .nd (λ_ _=>False) ⟨p,h2.2⟩ h3 (λ_ _ _ z=>z.elim) (λ_ _ z=>z.elim) λi v d hv hd=>ih i v d hv hd (oK p hd)
  |_=>simp[VL.plain]at p
end
def kids:HO->List V
 |.lst xs=>xs
 |.tup xs=>xs
 |.dK ah=>ah.map (·.2)
 |.dT ah=>ah.map (·.2)
 |.ins _ _ fs=>fs.map (·.2)
 |.cD _ u=>kids u
 |_=> []
theorem yz{α β:Type}:∀{l:List α} {m:List β},l.length=m.length->(l.zip m).map (·.2)=m
 | [], [],_=>rfl
 |_::l,_::m,h=>by rw[qu,eI,yz (fU h)]
theorem XS{K:aj}(h:fits K k vs.length):kids (ho k dx vs)=vs:=by
 cases k with
 |tup=>rfl
 |eT=>rfl
 |lst=>rfl
 |az ks=>exact yz h
 |mN ks=>exact yz h
 |obj C ns=>exact yz h.1
inductive hU(H:Hp):V->List Nat->V->Prop
 |nil (v:V):hU H v [] v
 |cons {a:Addr} {o:HO} {n:Nat} {c u:V} {p:List Nat}:H a=some o->(kids o)[n]?=some c->hU H c p u->hU H (.ref a) (n::p) u
def ag:D->List Nat->Option D
 |d, []=>some d
 |.sc _,_::_=>none
 |.hl _,_::_=>none
 |.nd k cs,n::p=>if dk k=true/\aK cs=true then none else match cs[n]? with
  |some c=>ag c p
  |none=>none
noncomputable def aG:D->List Nat->D->D
 |_, [],e=>e
 |.sc v,_::_,_=> .sc v
 |.hl v,_::_,_=> .hl v
 |.nd k cs,n::p,e=> .nd k (match cs[n]? with
  |some c=>cs.set n (aG c p e)
  |none=>cs)
section
variable {K:aj}{H H':Hp}{F F' N N':Addr->Prop}
theorem jM.kids(h:jM K H F a k vs cs)(hp:¬ (dk k=true/\aK cs=true))(e:H a=some o):kids o=vs:=by
 cases k with
 |tup=>have h:H a=some (.tup vs):=h;rw[e]at h;cases h;rfl
 |eT=>exact absurd ⟨rfl,h.1⟩ hp
 |_=>obtain⟨_,_,hf,dx,q⟩:=h;rw[e]at q;cases q;exact XS hf
theorem bj.focus:∀{p:List Nat} {F:Addr->Prop} {v u:V} {d d1:D},bj K H F v d->hU H v p u->ag d p=some d1->
  ∃F1:Addr->Prop,(∀b,F1 b->F b)/\bj K H F1 u d1/\∀(H':Hp) (qP:Addr->Prop) (qQ:D),(∀b o,¬ F1 b->F b->H b=some o->H' b=some o)->gJ H H'->bj K H' qP u qQ->(∀b,qP b->F1 b\/¬ F b)->
   bj K H' (λb=>(F b/\¬ F1 b)\/qP b) v (aG d p qQ)
 | [],F,v,u,d,d1,h,hp,g=>by
  cases hp;cases g;refine⟨F,λ_ z=>z,h,λH' qP qQ _ _ h' _=> ?_⟩;show bj K H' _ v (aG d [] qQ);rw[aG];exact h'.mono λb z=> .inr z
 |n::p,F,v,u,d,d1,h,hp,g=>by
  cases hp with
  | @cons a o n c u p e1 e2 hp=>
   cases h with
   |sc=>rw[ag]at g;cases g
   |hl=>rw[ag]at g;cases g
   | @nd _ _ k vs cs Fs h1 h2 h3 h4 h5=>
    rw[ag]at g;by_cases dM:dk k=true/\aK cs=true
    ·rw[if_pos dM]at g;cases g
    rw[if_neg dM]at g;rw[h1.kids dM e1]at e2;have hn:n < cs.length:=by rw[<- h2];exact(bW.mp e2).1
    have hc:cs[n]?=some cs[n]:=gn hn;rw[hc]at g;obtain⟨F1,m1,r1,put⟩:=(h5 n c _ e2 hc).focus hp g;refine⟨F1,λb z=>(h4 n b (m1 b z)).1,r1,λH' qP qQ fr st r' ap=> ?_⟩;have key:=put H' qP qQ (λb o nb hb=>fr b o nb (h4 n b hb).1) st r' λb z=>(ap b z).elim .inl λq=> .inr λw=>q (h4 n b w).1;rw[aG,hc];have Fn:dk k=false->¬ F1 a:=λhk z=>(h4 n a (m1 a z)).2 hk rfl;refine .nd (λi b=>if i=n then(Fs n b/\¬ F1 b)\/qP b else Fs i b) ?_ (by show vs.length=(cs.set n _).length;rw[cB];exact h2) ?_ ?_ ?_
    ·cases k with
     |tup=>exact st _ _ (λz=>z) h1
     |eT=>exact absurd ⟨rfl,h1.1⟩ dM
     |_=>obtain⟨x1,x2,x3,dx,x4⟩:=h1;exact⟨.inl ⟨x1,Fn x2⟩,x2,x3,dx,fr _ _ (Fn x2) x1 x4⟩
    ·intro i j b hi hj;by_cases ei:i=n
     ·by_cases ej:j=n
      ·rw[ei,ej]
      ·rw[if_pos ei]at hi;rw[if_neg ej]at hj;rcases hi with hi | hi
       ·exact absurd (h3 j n b hj hi.1) ej
       ·rcases ap b hi with z | z
        ·exact absurd (h3 j n b hj (m1 b z)) ej
        ·exact absurd (h4 j b hj).1 z
     ·rw[if_neg ei]at hi;by_cases ej:j=n
      ·rw[if_pos ej]at hj;rcases hj with hj | hj
       ·exact absurd (h3 i n b hi hj.1) ei
       ·rcases ap b hj with z | z
        ·exact absurd (h3 i n b hi (m1 b z)) ei
        ·exact absurd (h4 i b hi).1 z
      ·rw[if_neg ej]at hj;exact h3 i j b hi hj
    ·intro i b hi;by_cases ei:i=n
     ·rw[if_pos ei]at hi;rcases hi with hi | hi
      ·exact⟨.inl ⟨(h4 n b hi.1).1,hi.2⟩,(h4 n b hi.1).2⟩
      ·refine⟨.inr hi,λhk z=> ?_⟩;subst z;rcases ap b hi with q | q
       ·exact Fn hk q
       ·exact q (h1.own hk).1
     ·rw[if_neg ei]at hi;exact⟨.inl ⟨(h4 i b hi).1,λz=>ei (h3 i n b hi (m1 b z))⟩,(h4 i b hi).2⟩
    ·intro i v2 d2 hv hd;by_cases ei:i=n
     ·subst ei;rw[e2]at hv;cases hv;have hd:(cs.set i (aG cs[i] p qQ))[i]?=some d2:=hd;rw[eY hn]at hd;cases hd;show bj K H' (λb=>if i=i then(Fs i b/\¬ F1 b)\/qP b else Fs i b) c _;simp only[if_pos rfl];exact key
     ·have hd:(cs.set n (aG cs[n] p qQ))[i]?=some d2:=hd;rw[gm (jO ei)]at hd;show bj K H' (λb=>if i=n then(Fs n b/\¬ F1 b)\/qP b else Fs i b) v2 d2;simp only[if_neg ei];exact(h5 i v2 d2 hv hd).frame (λb o hb=>fr b o (λz=>ei (h3 i n b hb (m1 b z))) (h4 i b hb).1) st
theorem jb.vy(h:jb K H a k vs)(hk:dk k=false):∃o,H a=some o:=by
 obtain⟨_,h⟩:=h;cases k with
 |tup=>cases hk
 |eT=>cases hk
 |lst=>exact⟨_,h⟩
 |az ks=>rcases h with h | ⟨o,h⟩ <;> exact⟨_,h⟩
 |mN ks=>rcases h with h | ⟨o,h⟩ <;> exact⟨_,h⟩
 |obj C ns=>obtain⟨dx,h⟩:=h;exact⟨_,h⟩
theorem Vw.over(h:Vw K H N v d)(f:∀b o,N b->H b=some o->H' b=some o/\N' b)(s:gJ H H'):Vw K H' N' v d:=by
 induction h with
 |sc=>exact .sc _
 |hl=>exact .hl _
 |nd h1 h2 h3 _ ih=>exact .nd (λk=>let ⟨o,e⟩:=h2.vy k;(f _ o (h1 k) e).2) (h2.frame (λhk o e=>(f _ o (h1 hk) e).1) s) h3 ih
theorem Vw.node(h:Vw K H N v (.nd k cs)):∃a vs,v= .ref a/\(dk k=false->N a)/\jb K H a k vs/\vs.length=cs.length/\∀(i:Nat) (v:V) (d:D),vs[i]?=some v->cs[i]?=some d->Vw K H N v d:=by
 cases h with
 |nd h1 h2 h3 h4=>exact⟨_,_,rfl,h1,h2,h3,h4⟩
theorem Vw.dm(h:Vw K H N v (.sc u)):v=u:=by
 cases h;rfl
theorem bj.dm(h:bj K H F v (.sc u)):v=u:=by
 cases h;rfl
theorem bj.hole(h:bj K H F v (.hl u)):v=u:=by
 cases h;rfl
theorem bj.node(h:bj K H F v (.nd k cs)):∃a vs,v= .ref a/\jM K H F a k vs cs/\vs.length=cs.length/\∃Fs:Nat->Addr->Prop,(∀i j b,Fs i b->Fs j b->i=j)/\(∀i b,Fs i b->F b/\(dk k=false->b≠a))/\
   (∀(i:Nat) (v:V) (d:D),vs[i]?=some v->cs[i]?=some d->bj K H (Fs i) v d):=by
 cases h with
 |nd Fs h1 h2 h3 h4 h5=>exact⟨_,_,rfl,h1,h2,Fs,h3,h4,h5⟩
theorem bj.path:∀{p:List Nat} {F:Addr->Prop} {v:V} {d d1:D},bj K H F v d->ag d p=some d1->∃u,hU H v p u
 | [],F,v,d,d1,h,g=>⟨v, .nil v⟩
 |n::p,F,v, .sc _,d1,h,g=>by rw[ag]at g;cases g
 |n::p,F,v, .hl _,d1,h,g=>by rw[ag]at g;cases g
 |n::p,F,v, .nd k cs,d1,h,g=>by
  obtain⟨a,vs,rfl,h1,h2,Fs,h3,h4,h5⟩:=h.node;rw[ag]at g;by_cases dM:dk k=true/\aK cs=true
  ·rw[if_pos dM]at g;cases g
  rw[if_neg dM]at g;cases hc:cs[n]? with
  |none=>rw[hc]at g;cases g
  |some c=>
   rw[hc]at g;have hn:n < vs.length:=by rw[h2];exact(bW.mp hc).1
   obtain⟨u,hu⟩:=(h5 n _ c (gn hn) hc).path g;have ho:∃o,H a=some o:=by
    cases k with
    |tup=>exact⟨_,h1⟩
    |eT=>exact absurd ⟨rfl,h1.1⟩ dM
    |_=>obtain⟨_,_,_,dx,e⟩:=h1;exact⟨_,e⟩
   obtain⟨o,e⟩:=ho;exact⟨u, .cons e (by rw[h1.kids dM e];exact gn hn) hu⟩
theorem bj.NM:∀{p:List Nat} {F:Addr->Prop} {v u:V} {d d1:D},bj K H F v d->ag d p=some d1->hU H v p u->(∀b o,F b->H b=some o->H' b=some o)->gJ H H'->hU H' v p u
 | [],F,v,u,d,d1,h,g,hp,f,s=>by cases hp;exact .nil v
 |n::p,F,v,u, .sc _,d1,h,g,hp,f,s=>by rw[ag]at g;cases g
 |n::p,F,v,u, .hl _,d1,h,g,hp,f,s=>by rw[ag]at g;cases g
 |n::p,F,v,u, .nd k cs,d1,h,g,hp,f,s=>by
  obtain⟨a,vs,rfl,h1,h2,Fs,h3,h4,h5⟩:=h.node;rw[ag]at g;by_cases dM:dk k=true/\aK cs=true
  ·rw[if_pos dM]at g;cases g
  rw[if_neg dM]at g;cases hc:cs[n]? with
  |none=>rw[hc]at g;cases g
  |some c=>
   rw[hc]at g;cases hp with
   | @cons a o n c' u p e1 e2 hp=>
    rw[h1.kids dM e1]at e2;have XT:H' a=some o:=by
     cases k with
     |tup=>have h1:H a=some (.tup vs):=h1;rw[e1]at h1;cases h1;exact s _ _ (λz=>z) e1
     |eT=>exact absurd ⟨rfl,h1.1⟩ dM
     |_=>exact f _ _ h1.1 e1
    refine .cons XT (by rw[h1.kids dM e1];exact e2) ?_;exact(h5 n c' c e2 hc).NM g hp (λb o z=>f b o (h4 n b z).1) s
theorem bj.sub(h:bj K H F v d)(g:ag d p=some d1)(hp:hU H v p u)(m:∀b,F b->N b):Vw K H N u d1:=by
 obtain⟨F1,m1,r1,_⟩:=h.focus hp g;exact r1.view λb z=>m b (m1 b z)
end
inductive B where
 |own (d:D) | ro (d:D) | ak (r:Nat) (p:List Nat)
noncomputable abbrev En:=List (Option B)
def nE(K:aj)(H:Hp)(U F:Addr->Prop)(m:Nat)(e:List (Option V))(v:V):B->Prop
 |.own d=>bj K H F v d
 |.ro d=>Vw K H (λb=>¬ U b) v d
 |.ak r p=>r < m/\∃vr,e[r]?=some (some vr)/\hU H vr p v
structure cL(K:aj)(H:Hp)(U:Addr->Prop)(m:Nat)(e:List (Option V))(Z:En):Prop where
 len:e.length=Z.length
 mu:∀b,U b->jC (H b)
 ex:∃Fs:Nat->Addr->Prop,(∀i j b,Fs i b->Fs j b->i=j)/\(∀i b,Fs i b->U b)/\∀(i:Nat) (β:B),Z[i]?=some (some β)->∃v,e[i]?=some (some v)/\nE K H U (Fs i) m e v β
def b5(U:Addr->Prop)(H:Hp)(U':Addr->Prop)(H':Hp):Prop:=∀b o,H b=some o->¬ U b->H' b=some o/\¬ U' b
theorem b5.refl(U:Addr->Prop)(H:Hp):b5 U H U H:=λ_ _ h n=>⟨h,n⟩
theorem b5.trans{H H1 H2:Hp}(a:b5 U H U1 H1)(b:b5 U1 H1 U2 H2):b5 U H U2 H2:=λc o h n=>b c o (a c o h n).1 (a c o h n).2
theorem b5.g9{H H':Hp}(s:b5 U H U' H')(mu:∀b,U b->jC (H b)):gJ H H':=λb o m e=>(s b o e λu=>m (by have:=mu b u;rw[e]at this;exact this)).1
theorem sm(h:jC o):∃x,o=some x:=by
 cases o with
 |none=>exact h.elim
 |some x=>exact⟨x,rfl⟩
noncomputable def ai (Z:En) (r:Nat):Option D:=match Z[r]? with
 |some (some (.own d))=>some d
 |_=>none
def bT(Z:En):Option B->Option B
 |some (.ak r p)=>if p= []\/((ai Z r).bind (ag · p)).isSome=true then some (.ak r p) else none
 |b=>b
def aZ(Z:En):En:=Z.map (bT Z)
def NO(τ:En):Prop:=∀b∈τ,b=none\/∃d,b=some (B.own d)
def yA(τ:En):Prop:=∀b∈τ,∀r p,b≠some (B.ak r p)
theorem i6(Z:En):(aZ Z).length=Z.length:=by unfold aZ;rw[eS]
section
variable {K:aj}{H H':Hp}{U U':Addr->Prop}{m:Nat}{e t t':List (Option V)}{Z τ v5:En}
theorem slot_of(hl:e.length=Z.length)(h:(Z++τ)[i]?=some (some β)):(i < e.length/\Z[i]?=some (some β))\/(e.length<=i/\τ[i - e.length]?=some (some β)):=by
 by_cases hi:i < Z.length
 ·rw[br hi]at h;exact .inl ⟨by lia,h⟩
 ·rw[bK (by lia)]at h;exact .inr ⟨by lia,by rw[hl];exact h⟩
theorem lU(h:ai Z r=some d):Z[r]?=some (some (.own d)):=by
 unfold ai at h
 split at h
 ·next q=>cases h;exact q
 ·cases h
theorem XU{i:Nat}{β:B}(h:(aZ Z)[i]?=some (some β)):Z[i]?=some (some β)/\bT Z (some β)=some β:=by
 unfold aZ at h;rw[dF]at h;cases q:Z[i]? with
 |none=>rw[q]at h;cases h
 |some o=>
  rw[q]at h;have h:bT Z o=some β:=jI h;cases o with
  |none=>cases h
  |some c=>
   cases c with
   |own d=>have h:some (B.own d)=some β:=h;cases h;exact⟨rfl,rfl⟩
   |ro d=>have h:some (B.ro d)=some β:=h;cases h;exact⟨rfl,rfl⟩
   |ak r p=>
    have h':(if p= []\/((ai Z r).bind (ag · p)).isSome=true then some (B.ak r p) else none)=some β:=h;by_cases c:p= []\/((ai Z r).bind (ag · p)).isSome=true
    ·rw[if_pos c]at h';cases h';exact⟨rfl,h⟩
    ·rw[if_neg c]at h';cases h'
theorem cL.call(h:cL K H U m (e++t) (Z++τ))(hl:e.length=Z.length)(hm:m<=e.length)(v7:yA τ):
  ∃Ut:Addr->Prop,(∀b,Ut b->U b)/\cL K H Ut 0 t τ/\(∀(i:Nat) (v:V) (d:D),e[i]?=some (some v)->(Z[i]?=some (some (.own d))->∃F:Addr->Prop,bj K H F v d/\∀b,F b->¬ Ut b)/\(Z[i]?=some (some (.ro d))->Vw K H (λb=>¬ Ut b) v d))/\
   ∀(H':Hp) (yB:Addr->Prop) (t':List (Option V)) (v5:En),cL K H' yB 0 t' v5->b5 Ut H yB H'->NO v5->∃U':Addr->Prop,cL K H' U' m (e++t') (aZ Z++v5)/\b5 U H U' H':=by
 obtain⟨cU,mu,Fs,dj,sub,sl⟩:=h;have hle:(e++t).length=(Z++τ).length:=cU;rw[cc,cc]at hle;refine⟨λb=>∃i,e.length<=i/\Fs i b,λb ⟨i,_,z⟩=>sub i b z,⟨by lia,λb ⟨i,_,z⟩=>mu b (sub i b z),λi=>Fs (e.length + i),λi j b hi hj=>by have:=dj _ _ b hi hj;lia,λi b hb=>⟨_,by lia,hb⟩,λi β aL=> ?_⟩, ?_, ?_⟩
 ·have ud:(Z++τ)[e.length + i]?=some (some β):=by
   rw[hl,bK (by lia),show Z.length + i - Z.length=i by lia];exact aL
  obtain⟨v,ev,sv⟩:=sl _ _ ud;rw[bK (by lia),show e.length + i - e.length=i by lia]at ev;refine⟨v,ev, ?_⟩;cases β with
  |own d=>exact sv
  |ro d=>exact Vw.mono sv λb nb ⟨j,_,z⟩=>nb (sub j b z)
  |ak r p=>exact absurd rfl (v7 _ (gH aL) r p)
 ·intro i v d ev;have hi:i < e.length:=by
   rcases xT i e.length with z | z
   ·exact z
   ·rw[agU.mpr z]at ev;cases ev
  have ap:∀β,Z[i]?=some (some β)->(Z++τ)[i]?=some (some β):=λβ q=>by rw[br (by lia)];exact q
  have mO:(e++t)[i]?=some (some v):=by rw[br hi];exact ev
  refine⟨λhb=> ?_,λhb=> ?_⟩
  ·obtain⟨v',dz,sv⟩:=sl i _ (ap _ hb);rw[mO]at dz;cases dz;exact⟨Fs i,sv,λb hb ⟨j,hj,z⟩=>by have:=dj i j b hb z;lia⟩
  ·obtain⟨v',dz,sv⟩:=sl i _ (ap _ hb);rw[mO]at dz;cases dz;exact Vw.mono sv λb nb ⟨j,_,z⟩=>nb (sub j b z)
 ·intro H' yB t' v5 h' st NP;obtain⟨ahy,XW,Gs,XY,Fo,Ed⟩:=h';have nU:∀i b,i < e.length->Fs i b->¬ ∃j,e.length<=j/\Fs j b:=λi b hi hb ⟨j,hj,z⟩=>by have:=dj i j b hb z;lia
  have g9:gJ H H':=st.g9 λb ⟨i,_,z⟩=>mu b (sub i b z);have keep:∀i,i < e.length->∀b o,Fs i b->H b=some o->H' b=some o:=λi hi b o hb q=>(st b o q (nU i b hi hb)).1;have NQ:∀i,i < e.length->∀b,Fs i b->¬ yB b:=λi hi b hb=>by
   obtain⟨o,q⟩:=sm (mu b (sub i b hb));exact(st b o q (nU i b hi hb)).2
  have lp:(aZ Z).length=Z.length:=i6 Z;refine⟨λb=>(∃i,i < e.length/\Fs i b)\/yB b,⟨by rw[cc,cc,lp];lia,λb hb=> ?_,λi=>if i < e.length then Fs i else Gs (i - e.length),λi j b hi hj=> ?_,λi b hb=> ?_,λi β aL=> ?_⟩,λb o q nb=> ?_⟩
  ·rcases hb with⟨i,hi,z⟩ | z
   ·obtain⟨o,q⟩:=sm (mu b (sub i b z));have:=mu b (sub i b z);rw[q]at this;rw[keep i hi b o z q];exact this
   ·exact XW b z
  ·have hi:(if i < e.length then Fs i else Gs (i - e.length)) b:=hi;have hj:(if j < e.length then Fs j else Gs (j - e.length)) b:=hj;by_cases ei:i < e.length
   ·rw[if_pos ei]at hi;by_cases ej:j < e.length
    ·rw[if_pos ej]at hj;exact dj i j b hi hj
    ·rw[if_neg ej]at hj;exact absurd (Fo _ b hj) (NQ i ei b hi)
   ·rw[if_neg ei]at hi;by_cases ej:j < e.length
    ·rw[if_pos ej]at hj;exact absurd (Fo _ b hi) (NQ j ej b hj)
    ·rw[if_neg ej]at hj;have:=XY _ _ b hi hj;lia
  ·have hb:(if i < e.length then Fs i else Gs (i - e.length)) b:=hb;by_cases ei:i < e.length
   ·rw[if_pos ei]at hb;exact .inl ⟨i,ei,hb⟩
   ·rw[if_neg ei]at hb;exact .inr (Fo _ b hb)
  ·rcases slot_of (τ:=v5) (by rw[lp];exact hl) aL with⟨hi,q⟩ | ⟨hi,q⟩
   ·obtain⟨q1,q2⟩:=XU q;obtain⟨v,ev,sv⟩:=sl i β (by rw[br (by lia)];exact q1);rw[br hi]at ev;refine⟨v,by rw[br hi];exact ev, ?_⟩;simp only[if_pos hi];cases β with
    |own d=>exact bj.frame sv (keep i hi) g9
    |ro d=>
     exact Vw.over sv (λb o nb q=>by
      have nt:¬ ∃j,e.length<=j/\Fs j b:=λ⟨j,_,z⟩=>nb (sub j b z);exact⟨(st b o q nt).1,λz=>z.elim (λ⟨j,_,z⟩=>nb (sub j b z)) (st b o q nt).2⟩) g9
    |ak r p=>
     obtain⟨hr,vr,er,hp⟩:=sv;rw[br (by lia)]at er;refine⟨hr,vr,by rw[br (by lia)];exact er, ?_⟩;have q2:(if p= []\/((ai Z r).bind (ag · p)).isSome=true then some (B.ak r p) else none)=some (B.ak r p):=q2;by_cases c:p= []\/((ai Z r).bind (ag · p)).isSome=true
     ·rcases c with c | c
      ·subst c;cases hp;exact .nil _
      ·cases hd:ai Z r with
       |none=>rw[hd]at c;cases c
       |some d=>
        rw[hd]at c;have v8:=lU hd;obtain⟨v2,dz,ef⟩:=sl r _ (by rw[br (by lia)];exact v8);rw[br (by lia),er]at dz;cases dz;obtain⟨d1,g⟩:=Ul.mp c;have ef:bj K H (Fs r) vr d:=ef;exact ef.NM (d1:=d1) g hp (keep r (by lia)) g9
     ·rw[if_neg c]at q2;cases q2
   ·obtain⟨v,ev,sv⟩:=Ed _ β q;refine⟨v,by rw[bK hi];exact ev, ?_⟩;have XZ:¬ i < e.length:=by lia
    simp only[if_neg XZ];cases β with
    |own d=>exact sv
    |ro d=>rcases NP _ (gH q) with z | ⟨_,z⟩ <;> cases z
    |ak r p=>rcases NP _ (gH q) with z | ⟨_,z⟩ <;> cases z
  ·have nt:¬ ∃j,e.length<=j/\Fs j b:=λ⟨j,_,z⟩=>nb (sub j b z);exact⟨(st b o q nt).1,λz=>z.elim (λ⟨j,_,z⟩=>nb (sub j b z)) (st b o q nt).2⟩
theorem v9{cs:List D}{n:Nat}{x:D}(hn:n < cs.length)(hx:plain x=false):aK (cs.set n x)=false:=by
 cases q:aK (cs.set n x) with
 |false=>rfl
 |true=>
  have:=oK q (eY hn);rw[hx]at this;cases this
theorem wc:∀{p:List Nat} {d d1 x:D},ag d p=some d1->plain x=false->plain (aG d p x)=false
 | [],d,d1,x,g,hx=>by rw[aG];exact hx
 |n::p, .sc _,d1,x,g,hx=>by rw[ag]at g;cases g
 |n::p, .hl _,d1,x,g,hx=>by rw[ag]at g;cases g
 |n::p, .nd k cs,d1,x,g,hx=>by
  rw[ag]at g;by_cases dM:dk k=true/\aK cs=true
  ·rw[if_pos dM]at g;cases g
  rw[if_neg dM]at g;cases hc:cs[n]? with
  |none=>rw[hc]at g;cases g
  |some c=>
   rw[hc]at g;rw[aG,hc];cases k with
   |tup=>exact v9 (bW.mp hc).1 (wc g hx)
   |eT=>exact v9 (bW.mp hc).1 (wc g hx)
   |_=>rfl
theorem Fq:∀{p:List Nat} {d d1 x:D},ag d p=some d1->plain x=false->ag (aG d p x) p=some x
 | [],d,d1,x,g,hx=>by rw[aG,ag]
 |n::p, .sc _,d1,x,g,hx=>by rw[ag]at g;cases g
 |n::p, .hl _,d1,x,g,hx=>by rw[ag]at g;cases g
 |n::p, .nd k cs,d1,x,g,hx=>by
  rw[ag]at g;by_cases dM:dk k=true/\aK cs=true
  ·rw[if_pos dM]at g;cases g
  rw[if_neg dM]at g;cases hc:cs[n]? with
  |none=>rw[hc]at g;cases g
  |some c=>
   rw[hc]at g;have hn:=(bW.mp hc).1;rw[aG,hc];show ag (.nd k (cs.set n (aG c p x))) (n::p)=some x;rw[ag,if_neg,eY hn]
   ·exact Fq g hx
   ·rintro⟨_,q⟩;rw[v9 hn (wc g hx)]at q;cases q
theorem Ft:∀{p:List Nat} {d d1 x y:D},ag d p=some d1->aG (aG d p x) p y=aG d p y
 | [],d,d1,x,y,g=>by simp only[aG]
 |n::p, .sc _,d1,x,y,g=>by rw[ag]at g;cases g
 |n::p, .hl _,d1,x,y,g=>by rw[ag]at g;cases g
 |n::p, .nd k cs,d1,x,y,g=>by
  rw[ag]at g;by_cases dM:dk k=true/\aK cs=true
  ·rw[if_pos dM]at g;cases g
  rw[if_neg dM]at g;cases hc:cs[n]? with
  |none=>rw[hc]at g;cases g
  |some c=>
   rw[hc]at g;have hn:=(bW.mp hc).1;have e1:aG (.nd k cs) (n::p) x= .nd k (cs.set n (aG c p x)):=by rw[aG,hc]
   have e2:aG (.nd k cs) (n::p) y= .nd k (cs.set n (aG c p y)):=by rw[aG,hc]
   have e3:aG (.nd k (cs.set n (aG c p x))) (n::p) y= .nd k ((cs.set n (aG c p x)).set n (aG (aG c p x) p y)):=by rw[aG,eY hn]
   rw[e1,e2,e3,List.set_set,Ft g]
theorem nE.slots{F:Addr->Prop}{e e':List (Option V)}(h:nE K H U F m e v β)(he:∀r,r < m->e'[r]?=e[r]?):nE K H U F m e' v β:=by
 cases β with
 |own d=>exact h
 |ro d=>exact h
 |ak r p=>
  obtain⟨hr,vr,er,hp⟩:=h;exact⟨hr,vr,(he r hr).trans er,hp⟩
theorem cL.take(h:cL K H U m e Z)(hm:m<=e.length)(hr:Z[r]?=some (some (.own d)))(er:e[r]?=some (some vr))(hp:hU H vr p u)(g:ag d p=some d1):
  cL K H U m (e++ [some u]) (Z.set r (some (.own (aG d p (.hl u))))++ [some (.own d1)]):=by
 obtain⟨cU,mu,Fs,dj,sub,sl⟩:=h;have jq:r < e.length:=by
  rcases xT r e.length with z | z
  ·exact z
  ·rw[agU.mpr z]at er;cases er
 obtain⟨v,ev,sv⟩:=sl r _ hr;rw[er]at ev;cases ev;have sv:bj K H (Fs r) vr d:=sv;obtain⟨F1,m1,r1,put⟩:=sv.focus hp g;have key:=put H (λ_=>False) (.hl u) (λb o _ _ z=>z) (gJ.refl H) (.hl _ _) λb z=>z.elim;have NR:(Z.set r (some (.own (aG d p (.hl u))))).length=Z.length:=cB;refine⟨by rw[cc,cc,NR,cU];rfl,mu,λi b=>if i=e.length then F1 b else if i=r then Fs r b/\¬ F1 b else Fs i b/\i < e.length,λi j b hi hj=> ?_,λi b hb=> ?_,λi β aL=> ?_⟩
 ·have hi:if i=e.length then F1 b else if i=r then Fs r b/\¬ F1 b else Fs i b/\i < e.length:=hi;have hj:if j=e.length then F1 b else if j=r then Fs r b/\¬ F1 b else Fs j b/\j < e.length:=hj;have fi:∀k,(if k=e.length then F1 b else if k=r then Fs r b/\¬ F1 b else Fs k b/\k < e.length)->(k=e.length/\F1 b)\/(k=r/\Fs r b/\¬ F1 b)\/(k≠r/\k≠e.length/\Fs k b):=λk hk=>by
   by_cases c1:k=e.length
   ·rw[if_pos c1]at hk;exact .inl ⟨c1,hk⟩
   ·rw[if_neg c1]at hk;by_cases c2:k=r
    ·rw[if_pos c2]at hk;exact .inr (.inl ⟨c2,hk⟩)
    ·rw[if_neg c2]at hk;exact .inr (.inr ⟨c2,c1,hk.1⟩)
  rcases fi i hi with⟨a1,a2⟩ | ⟨a1,a2,a3⟩ | ⟨a1,a2,a3⟩ <;> rcases fi j hj with⟨b1,b2⟩ | ⟨b1,b2,b3⟩ | ⟨b1,b2,b3⟩
  ·lia
  ·exact absurd a2 b3
  ·exact absurd (dj j r b b3 (m1 b a2)) b1
  ·exact absurd b2 a3
  ·lia
  ·exact absurd (dj j r b b3 a2) b1
  ·exact absurd (dj i r b a3 (m1 b b2)) a1
  ·exact absurd (dj i r b a3 b2) a1
  ·exact dj i j b a3 b3
 ·have hb:if i=e.length then F1 b else if i=r then Fs r b/\¬ F1 b else Fs i b/\i < e.length:=hb;by_cases c1:i=e.length
  ·rw[if_pos c1]at hb;exact sub r b (m1 b hb)
  ·rw[if_neg c1]at hb;by_cases c2:i=r
   ·rw[if_pos c2]at hb;exact sub r b hb.1
   ·rw[if_neg c2]at hb;exact sub i b hb.1
 ·have Fu:∀r,r < m->(e++ [some u])[r]?=e[r]?:=λr hr=>br (by lia);rcases slot_of (by rw[NR];exact cU) aL with⟨hi,q⟩ | ⟨hi,q⟩
  ·by_cases c:r=i
   ·subst c;rw[eY (by lia)]at q;cases q;refine⟨vr,by rw[br hi];exact er, ?_⟩;have n1:¬ r=e.length:=by lia
    show bj K H (λb=>if r=e.length then F1 b else if r=r then Fs r b/\¬ F1 b else _) vr _;simp only[if_neg n1,if_pos rfl];exact key.mono λb z=>z.elim (λz=>z) λz=>z.elim
   ·rw[gm c]at q;obtain⟨v,ev,sv⟩:=sl i β q;refine⟨v,by rw[br hi];exact ev, ?_⟩;have n1:¬ i=e.length:=by lia
    have n2:¬ i=r:=λz=>c z.symm;have sv:=nE.slots sv Fu;cases β with
    |own dd=>
     show bj K H (λb=>if i=e.length then F1 b else if i=r then Fs r b/\¬ F1 b else Fs i b/\i < e.length) v dd;simp only[if_neg n1,if_neg n2];exact bj.mono sv λb z=>⟨z,hi⟩
    |ro dd=>exact sv
    |ak _ _=>exact sv
  ·have:i - e.length=0:=by
    have:=(bW.mp q).1;simp at this;lia
   rw[this]at q;cases q;have ei:i=e.length:=by lia
   subst ei;refine⟨u,by rw[bK (bX _),lN];rfl, ?_⟩;show bj K H (λb=>if e.length=e.length then F1 b else _) u d1;simp only[if_pos rfl];exact r1
theorem cL.put(h:cL K H U m (e++ [some u]) (Z++ [some (.own d1)]))(hl:e.length=Z.length)(hm:m<=e.length)(hr:Z[r]?=some (some (.own d0)))(g:ag d0 p=some (.hl u)):
  cL K H U m e (Z.set r (some (.own (aG d0 p d1)))):=by
 obtain⟨cU,mu,Fs,dj,sub,sl⟩:=h;have jq:r < e.length:=by rw[hl];exact(bW.mp hr).1
 obtain⟨vr,ev,sv⟩:=sl r _ (by rw[br (by lia)];exact hr);rw[br jq]at ev;have sv:bj K H (Fs r) vr d0:=sv;obtain⟨u',hp⟩:=sv.path g;obtain⟨F1,m1,r1,put⟩:=sv.focus hp g;have:=r1.hole;subst this;obtain⟨u2,eu,su⟩:=sl e.length (.own d1) (by rw[hl,bK (bX _),lN];rfl);rw[bK (bX _),lN]at eu;have eu:some (some u')=some (some u2):=eu;cases eu;have su:bj K H (Fs e.length) u' d1:=su;have key:=put H (Fs e.length) d1 (λb o _ _ z=>z) (gJ.refl H) su λb z=> .inr λw=>by have:=dj _ _ b z w;lia
 refine⟨by rw[cB];exact hl,mu,λi b=>if i=r then(Fs r b/\¬ F1 b)\/Fs e.length b else Fs i b/\i < e.length,λi j b hi hj=> ?_,λi b hb=> ?_,λi β aL=> ?_⟩
 ·have hi:if i=r then(Fs r b/\¬ F1 b)\/Fs e.length b else Fs i b/\i < e.length:=hi;have hj:if j=r then(Fs r b/\¬ F1 b)\/Fs e.length b else Fs j b/\j < e.length:=hj;by_cases c1:i=r
  ·rw[if_pos c1]at hi;by_cases c2:j=r
   ·lia
   ·rw[if_neg c2]at hj;rcases hi with hi | hi
    ·exact absurd (dj j r b hj.1 hi.1) c2
    ·have:=dj j _ b hj.1 hi;lia
  ·rw[if_neg c1]at hi;by_cases c2:j=r
   ·rw[if_pos c2]at hj;rcases hj with hj | hj
    ·exact absurd (dj i r b hi.1 hj.1) c1
    ·have:=dj i _ b hi.1 hj;lia
   ·rw[if_neg c2]at hj;exact dj i j b hi.1 hj.1
 ·have hb:if i=r then(Fs r b/\¬ F1 b)\/Fs e.length b else Fs i b/\i < e.length:=hb;by_cases c1:i=r
  ·rw[if_pos c1]at hb;rcases hb with hb | hb
   ·exact sub r b hb.1
   ·exact sub _ b hb
  ·rw[if_neg c1]at hb;exact sub i b hb.1
 ·have Fu:∀r,r < m->e[r]?=(e++ [some u'])[r]?:=λr hr=>(br (by lia)).symm;by_cases c:r=i
  ·subst c;rw[eY (by lia)]at aL;cases aL;refine⟨vr,ev, ?_⟩;show bj K H (λb=>if r=r then(Fs r b/\¬ F1 b)\/Fs e.length b else _) vr _;simp only[if_pos rfl];exact key
  ·rw[gm c]at aL;have hi:i < e.length:=by rw[hl];exact(bW.mp aL).1
   obtain⟨v,dz,ef⟩:=sl i β (by rw[br (by lia)];exact aL);rw[br hi]at dz;refine⟨v,dz, ?_⟩;have n2:¬ i=r:=λz=>c z.symm;have ef:=nE.slots ef Fu;cases β with
   |own dd=>
    show bj K H (λb=>if i=r then(Fs r b/\¬ F1 b)\/Fs e.length b else Fs i b/\i < e.length) v dd;simp only[if_neg n2];exact bj.mono ef λb z=>⟨z,hi⟩
   |ro dd=>exact ef
   |ak _ _=>exact ef
end
abbrev T1:Addr->Prop:=λ_=>True
def eX(K:aj)(H H':Hp)(v:V)(d:D):Prop:=∃G:Addr->Prop,bj K H' G v d/\∀b,G b->H b=none/\jC (H' b)
section
theorem eX.sc(v:V):eX K H H' v (.sc v):=⟨λ_=>False, .sc _ _,λ_ z=>z.elim⟩
theorem eX.plain(h:Vw K H' N v d)(p:VL.plain d=true):eX K H H' v d:=⟨_,h.plain p,λ_ z=>z.elim⟩
theorem eX.vw(h:eX K H H' v d):Vw K H' T1 v d:=let ⟨_,r,_⟩:=h;r.vw
theorem eX.early(h:eX K H1 H2 v d)(s:aP H H1):eX K H H2 v d:=by
 obtain⟨G,r,f⟩:=h;refine⟨G,r,λb z=>⟨?_,(f b z).2⟩⟩;cases q:H b with
 |none=>rfl
 |some o=>have:=(f b z).1;rw[s b o q]at this;cases this
theorem hU.same(h:hU H v p u)(s:aP H H'):hU H' v p u:=by
 induction h with
 |nil=>exact .nil _
 |cons e1 e2 _ ih=>exact .cons (s _ _ e1) e2 ih
theorem yC(h:jC (H b))(s:aP H H'):jC (H' b):=by
 obtain⟨o,w⟩:=sm h;rw[w]at h;rw[s b o w];exact h
theorem cL.same(h:cL K H U m e Z)(s:aP H H'):cL K H' U m e Z:=by
 obtain⟨hl,mu,Fs,dj,sub,sl⟩:=h;refine⟨hl,λb z=>yC (mu b z) s,Fs,dj,sub,λi β aL=> ?_⟩;obtain⟨v,ev,sv⟩:=sl i β aL;refine⟨v,ev, ?_⟩;cases β with
 |own d=>exact bj.same sv s
 |ro d=>exact Vw.same sv s
 |ak r p=>obtain⟨a,vr,b,c⟩:=sv;exact⟨a,vr,b,c.same s⟩
theorem cL.push(h:cL K H U m e Z)(s:aP H H')(hm:m<=e.length)(ow:eX K H H' v d):∃U':Addr->Prop,cL K H' U' m (e++ [some v]) (Z++ [some (.own d)])/\b5 U H U' H':=by
 obtain⟨hl,mu,Fs,dj,sub,sl⟩:=h.same s;obtain⟨G,r,fr⟩:=ow;have nG:∀b,G b->¬ U b:=λb z u=>by
  obtain⟨o,w⟩:=sm (h.mu b u);rw[(fr b z).1]at w;cases w
 refine⟨λb=>U b\/G b,⟨by rw[cc,cc,hl];rfl,λb z=>z.elim (mu b) λz=>(fr b z).2,λi b=>if i=e.length then G b else Fs i b,λi j b hi hj=> ?_,λi b hb=> ?_,λi β aL=> ?_⟩,λb o q nu=>⟨s b o q,λz=>z.elim nu λz=>by rw[(fr b z).1]at q;cases q⟩⟩
 ·have hi:if i=e.length then G b else Fs i b:=hi;have hj:if j=e.length then G b else Fs j b:=hj;by_cases ci:i=e.length
  ·rw[if_pos ci]at hi;by_cases cj:j=e.length
   ·lia
   ·rw[if_neg cj]at hj;exact absurd (sub j b hj) (nG b hi)
  ·rw[if_neg ci]at hi;by_cases cj:j=e.length
   ·rw[if_pos cj]at hj;exact absurd (sub i b hi) (nG b hj)
   ·rw[if_neg cj]at hj;exact dj i j b hi hj
 ·have hb:if i=e.length then G b else Fs i b:=hb;by_cases ci:i=e.length
  ·rw[if_pos ci]at hb;exact .inr hb
  ·rw[if_neg ci]at hb;exact .inl (sub i b hb)
 ·rcases slot_of hl aL with⟨hi,q⟩ | ⟨hi,q⟩
  ·obtain⟨v',ev,sv⟩:=sl i β q;refine⟨v',by rw[br hi];exact ev, ?_⟩;have ni:¬ i=e.length:=by lia
   have sv:=nE.slots sv (e':=e++ [some v]) λr hr=>br (by lia);cases β with
   |own dd=>
    show bj K H' (λb=>if i=e.length then G b else Fs i b) v' dd;simp only[if_neg ni];exact sv
   |ro dd=>
    obtain⟨v2,dz,ue⟩:=h.ex.choose_spec.2.2 i _ q;rw[ev]at dz;cases dz;have ue:Vw K H (λb=>¬ U b) v' dd:=ue;exact ue.over (λb o nb q=>⟨s b o q,λz=>z.elim nb λz=>by rw[(fr b z).1]at q;cases q⟩) (gJ.of s)
   |ak _ _=>exact sv
  ·have:i - e.length=0:=by
    have:=(bW.mp q).1;simp at this;lia
   rw[this]at q;cases q;have ei:i=e.length:=by lia
   subst ei;refine⟨v,by rw[bK (bX _),lN];rfl, ?_⟩;show bj K H' (λb=>if e.length=e.length then G b else _) v d;simp only[if_pos rfl];exact r
theorem cL.drop(h:cL K H U m (e++t) (Z++τ))(hl:e.length=Z.length)(hm:m<=e.length):cL K H U m e Z:=by
 obtain⟨_,mu,Fs,dj,sub,sl⟩:=h;refine⟨hl,mu,Fs,dj,sub,λi β aL=> ?_⟩;have hi:i < Z.length:=(bW.mp aL).1;obtain⟨v,ev,sv⟩:=sl i β (by rw[br hi];exact aL);rw[br (by lia)]at ev;exact⟨v,ev,nE.slots sv λr hr=>(br (by lia)).symm⟩
noncomputable def gb (i:Nat) (Z:En):En:=Z.map λ
 |some (.ak r p)=>if r=i then none else some (.ak r p)
 |b=>b
theorem kT(i:Nat)(Z:En):(gb i Z).length=Z.length:=by unfold gb;rw[eS]
theorem Fv{i j:Nat}{β:B}(h:(gb i Z)[j]?=some (some β)):Z[j]?=some (some β)/\∀r p,β= .ak r p->r≠i:=by
 unfold gb at h;rw[dF]at h;cases q:Z[j]? with
 |none=>rw[q]at h;cases h
 |some o=>
  rw[q]at h;cases o with
  |none=>cases h
  |some c=>
   cases c with
   |own d=>cases h;exact⟨rfl,λ_ _ z=>nomatch z⟩
   |ro d=>cases h;exact⟨rfl,λ_ _ z=>nomatch z⟩
   |ak r p=>
    have h:some (if r=i then none else some (B.ak r p))=some (some β):=h;by_cases c:r=i
    ·rw[if_pos c]at h;cases h
    ·rw[if_neg c]at h;cases h;exact⟨rfl,λr' p' z=>by cases z;exact c⟩
theorem cL.set{i:Nat}(h:cL K H U m (e++ [some v]) (Z++ [some (.own d)]))(hl:e.length=Z.length)(hm:m<=e.length)(hi:i < e.length):cL K H U m (e.set i (some v)) ((gb i Z).set i (some (.own d))):=by
 obtain⟨_,mu,Fs,dj,sub,sl⟩:=h;obtain⟨v',ev,sv⟩:=sl e.length (.own d) (by rw[hl,bK (bX _),lN];rfl);rw[bK (bX _),lN]at ev;cases ev;have sv:bj K H (Fs e.length) v d:=sv;refine⟨by rw[cB,cB,kT];exact hl,mu,λj b=>if j=i then Fs e.length b else Fs j b/\j < e.length,λj k b hj hk=> ?_,λj b hb=> ?_,λj β aL=> ?_⟩
 ·have hj:if j=i then Fs e.length b else Fs j b/\j < e.length:=hj;have hk:if k=i then Fs e.length b else Fs k b/\k < e.length:=hk;by_cases cj:j=i
  ·rw[if_pos cj]at hj;by_cases ck:k=i
   ·lia
   ·rw[if_neg ck]at hk;have:=dj _ _ b hj hk.1;lia
  ·rw[if_neg cj]at hj;by_cases ck:k=i
   ·rw[if_pos ck]at hk;have:=dj _ _ b hj.1 hk;lia
   ·rw[if_neg ck]at hk;exact dj _ _ b hj.1 hk.1
 ·have hb:if j=i then Fs e.length b else Fs j b/\j < e.length:=hb;by_cases cj:j=i
  ·rw[if_pos cj]at hb;exact sub _ b hb
  ·rw[if_neg cj]at hb;exact sub _ b hb.1
 ·by_cases cj:i=j
  ·subst cj;rw[eY (by rw[kT];lia)]at aL;cases aL;refine⟨v,eY hi, ?_⟩;show bj K H (λb=>if i=i then Fs e.length b else _) v d;simp only[if_pos rfl];exact sv
  ·rw[gm cj]at aL;obtain⟨q1,q2⟩:=Fv aL;have hj:j < e.length:=by rw[hl];exact(bW.mp q1).1
   obtain⟨v2,dz,ef⟩:=sl j β (by rw[br (by lia)];exact q1);rw[br hj]at dz;refine⟨v2,by rw[gm cj];exact dz, ?_⟩;have nj:¬ j=i:=λz=>cj z.symm;cases β with
   |own dd=>
    show bj K H (λb=>if j=i then Fs e.length b else Fs j b/\j < e.length) v2 dd;simp only[if_neg nj];exact bj.mono ef λb z=>⟨z,hj⟩
   |ro dd=>exact ef
   |ak r p=>
    obtain⟨a,vr,b,c⟩:=ef;rw[br (by lia)]at b;exact⟨a,vr,by rw[gm λz=>q2 r p rfl z.symm];exact b,c⟩
theorem cL.bind{i:Nat}{β:B}(h:cL K H U m e Z)(hi:i < e.length)(hb:match β with | .own _=>False | .ro d=>Vw K H (λb=>¬ U b) v d | .ak r p=>r < m/\r≠i/\∃vr,e[r]?=some (some vr)/\hU H vr p v):
  cL K H U m (e.set i (some v)) ((gb i Z).set i (some β)):=by
 obtain⟨hl,mu,Fs,dj,sub,sl⟩:=h;refine⟨by rw[cB,cB,kT];exact hl,mu,Fs,dj,sub,λj γ fG=> ?_⟩;by_cases cj:i=j
 ·subst cj;rw[eY (by rw[kT];lia)]at fG;cases fG;refine⟨v,eY hi, ?_⟩;cases β with
  |own d=>exact hb.elim
  |ro d=>exact hb
  |ak r p=>
   obtain⟨a,b,vr,c,q⟩:=hb;exact⟨a,vr,by rw[gm λz=>b z.symm];exact c,q⟩
 ·rw[gm cj]at fG;obtain⟨q1,q2⟩:=Fv fG;obtain⟨v2,dz,ef⟩:=sl j γ q1;refine⟨v2,by rw[gm cj];exact dz, ?_⟩;cases γ with
  |own dd=>exact ef
  |ro dd=>exact ef
  |ak r p=>
   obtain⟨a,vr,b,c⟩:=ef;exact⟨a,vr,by rw[gm λz=>q2 r p rfl z.symm];exact b,c⟩
end
structure aB(K:aj)(n:Nat)(H:Hp)(U:Addr->Prop)(σ hv:List (Option V))(Z:En)(τv:List V)(τd:List D):Prop where
 ok:cL K H U Z.length (σ++hv++τv.map some) (Z++τd.map λd=>some (.own d))
 len:σ.length + hv.length=Z.length
 nn:σ.length=n
inductive Fl where
 |nx (Z:En) | rt (d:D) (Z:En) | bk (Z:En) | ct (Z:En)
def qR(K:aj)(n:Nat)(H:Hp)(U:Addr->Prop)(hv:List (Option V))(τv:List V)(τd:List D)(E:lK):Fl->Prop
 |.nx ρ'=>∀aN H' U',aB K n H' U' aN hv ρ' τv τd->b5 U H U' H'->E.nx aN H'
 |.rt d ρ'=>∀v aN H' U',aB K n H' U' aN hv ρ' (τv++ [v]) (τd++ [d])->b5 U H U' H'->E.rt v H'
 |.bk ρ'=>∀aN H' U',aB K n H' U' aN hv ρ' τv τd->b5 U H U' H'->E.bk aN H'
 |.ct ρ'=>∀aN H' U',aB K n H' U' aN hv ρ' τv τd->b5 U H U' H'->E.ct aN H'
class SV(K:aj)(n:Nat)(t:TE)(f:outParam (En->Option D)):Prop where
 s:∀{σ hv:List (Option V)} {H:Hp} {U:Addr->Prop} {Z:En} {τv:List V} {τd:List D} {d:D} {Q:VK},aB K n H U σ hv Z τv τd->f Z=some d->(∀v H',aP H H'->Vw K H' T1 v d->Q v H')->t σ H Q
class SF(K:aj)(n:Nat)(t:TE)(f:outParam (En->Option D)):Prop where
 s:∀{σ hv:List (Option V)} {H:Hp} {U:Addr->Prop} {Z:En} {τv:List V} {τd:List D} {d:D} {Q:VK},aB K n H U σ hv Z τv τd->f Z=some d->(∀v H',aP H H'->eX K H H' v d->Q v H')->t σ H Q
class SM(K:aj)(n:Nat)(t:TE)(f:outParam (En->Option (D×En))):Prop where
 s:∀{σ hv:List (Option V)} {H:Hp} {U:Addr->Prop} {Z ρ':En} {τv:List V} {τd:List D} {d:D} {Q:VK},aB K n H U σ hv Z τv τd->f Z=some (d,ρ')->
  (∀v H' U',aB K n H' U' σ hv ρ' (τv++ [v]) (τd++ [d])->b5 U H U' H'->Q v H')->t σ H Q
inductive Pl where
 |rt (r:Nat) (p:List Nat) | ro (d:D)
def ik(K:aj)(H:Hp)(U:Addr->Prop)(e:List (Option V))(Z:En)(v:V):Pl->Prop
 |.rt r p=>r < Z.length/\∃vr d,e[r]?=some (some vr)/\ai Z r=some d/\(ag d p).isSome=true/\hU H vr p v
 |.ro d=>Vw K H (λb=>¬ U b) v d
class SP(K:aj)(n:Nat)(t:TE)(f:outParam (En->Option Pl)):Prop where
 s:∀{σ hv:List (Option V)} {H:Hp} {U:Addr->Prop} {Z:En} {τv:List V} {τd:List D} {q:Pl} {Q:VK},aB K n H U σ hv Z τv τd->f Z=some q->(∀v H',aP H H'->ik K H' U (σ++hv) Z v q->Q v H')->t σ H Q
class kU(K:aj)(n:Nat)(t:TT)(f:outParam (En->Option Bool)):Prop where
 s:∀{σ hv:List (Option V)} {H:Hp} {U:Addr->Prop} {Z:En} {τv:List V} {τd:List D} {b:Bool} {Q:Bool->Hp->Prop},aB K n H U σ hv Z τv τd->f Z=some b->(∀H',aP H H'->Q b H')->t σ H Q
class ST(K:aj)(n:Nat)(t:TT)(f:outParam (En->Option (Bool×En))):Prop where
 s:∀{σ hv:List (Option V)} {H:Hp} {U:Addr->Prop} {Z ρ':En} {τv:List V} {τd:List D} {b:Bool} {Q:Bool->Hp->Prop},aB K n H U σ hv Z τv τd->f Z=some (b,ρ')->
  (∀H' U',aB K n H' U' σ hv ρ' τv τd->b5 U H U' H'->Q b H')->t σ H Q
def dB(K:aj)(H:Hp)(N:Addr->Prop)(vs:List V)(ds:List D):Prop:=vs.length=ds.length/\∀(i:Nat) (v:V) (d:D),vs[i]?=some v->ds[i]?=some d->Vw K H N v d
class SA(K:aj)(n:Nat)(t:TA)(f:outParam (En->Option (List D))):Prop where
 s:∀{σ hv:List (Option V)} {H:Hp} {U:Addr->Prop} {Z:En} {τv:List V} {τd:List D} {ds:List D} {Q:List V->Hp->Prop},aB K n H U σ hv Z τv τd->f Z=some ds->(∀vs H',aP H H'->dB K H' T1 vs ds->Q vs H')->t σ H Q
class we(K:aj)(n:Nat)(t:TA)(f:outParam (En->Option (List D×En))):Prop where
 s:∀{σ hv:List (Option V)} {H:Hp} {U:Addr->Prop} {Z ρ':En} {τv:List V} {τd:List D} {ds:List D} {Q:List V->Hp->Prop},aB K n H U σ hv Z τv τd->f Z=some (ds,ρ')->
  (∀vs H' U',vs.length=ds.length->aB K n H' U' σ hv ρ' (τv++vs) (τd++ds)->b5 U H U' H'->Q vs H')->t σ H Q
class SS(K:aj)(n:Nat)(t:TS)(f:outParam (En->Option Fl)):Prop where
 s:∀{σ hv:List (Option V)} {H:Hp} {U:Addr->Prop} {Z:En} {τv:List V} {τd:List D} {fl:Fl} {E:lK},aB K n H U σ hv Z τv τd->f Z=some fl->qR K n H U hv τv τd E fl->t E σ H
section
theorem aB.same(h:aB K n H U σ hv Z τv τd)(s:aP H H'):aB K n H' U σ hv Z τv τd:=⟨h.ok.same s,h.len,h.nn⟩
theorem aB.push(h:aB K n H U σ hv Z τv τd)(s:aP H H')(o:eX K H H' v d):∃U',aB K n H' U' σ hv Z (τv++ [v]) (τd++ [d])/\b5 U H U' H':=by
 obtain⟨U',k,st⟩:=h.ok.push s (by have:=h.len;simp;lia) o;refine⟨U',⟨?_,h.len,h.nn⟩,st⟩;rw[cK,cK, <- dI, <- dI];exact k
theorem aB.drop(h:aB K n H U σ hv Z (τv++vs) (τd++ds))(hl:vs.length=ds.length):aB K n H U σ hv Z τv τd:=by
 refine⟨?_,h.len,h.nn⟩;have k:=h.ok;have e:=k.len;have l:=h.len;rw[cK,cK, <- dI, <- dI]at k;refine k.drop ?_ (by simp;lia);simp at e |-
 lia
theorem aB.uf(h:aB K n H U σ hv Z (τv++ [v]) (τd++ [d])):aB K n H U σ hv Z τv τd:=h.drop (vs:= [v]) (ds:= [d]) rfl
theorem aB.tl(h:aB K n H U σ hv Z τv τd):τv.length=τd.length:=by
 have e:=h.ok.len;have l:=h.len;simp at e
 lia
theorem aB.last(h:aB K n H U σ hv Z (τv++ [v]) (τd++ [d])):Vw K H T1 v d:=by
 have tl:=h.tl;have l:=h.len;obtain⟨_,mu,Fs,dj,sub,sl⟩:=h.ok;obtain⟨v',ev,sv⟩:=sl (Z.length + τd.length) (.own d) (by simp);have:v'=v:=by
  have e2:(σ++hv++(τv++ [v]).map some)[Z.length + τd.length]?=some (some v):=by
   rw[bK (by simp;lia)];simp at tl |-;rw[show Z.length + τd.length - (σ.length + hv.length)=τv.length by lia];simp
  rw[e2]at ev;cases ev;rfl
 subst this;exact bj.vw sv
end
class ke(i n:Nat):Prop where
 h:i < n
instance:ke 0 (n + 1):=⟨LJ n⟩
instance [h:ke i n]:ke (i + 1) (n + 1):=⟨UA h.h⟩
section
instance (priority:=100) ahz{t:TE}{f:En->Option D}[S:SF K n t f]:SV K n t f:=⟨λI h k=>S.s I h λv H' s o=>k v H' s o.vw⟩
instance (priority:=200) X0{t:TE}{f:En->Option D}[S:SF K n t f]:SM K n t (λZ=>(f Z).map λd=>(d,Z)):=⟨λ{σ hv H U Z ρ' τv τd d Q} I h k=>by
 obtain⟨d',h1,h2⟩:=bg.mp h;cases h2;refine S.s I h1 λv H' s o=> ?_;obtain⟨U',I',st⟩:=I.push s o;exact k v H' U' I' st⟩
def jT(f:En->Option D)(Z:En):Option (D×En):=(f Z).bind λd=>if plain d=true then some (d,Z) else none
instance (priority:=90) ahA{t:TE}{f:En->Option D}[S:SV K n t f]:SM K n t (jT f):=⟨λ{σ hv H U Z ρ' τv τd d Q} I h k=>by
 obtain⟨d',h1,h2⟩:=af.mp h;by_cases p:plain d'=true
 ·rw[if_pos p]at h2;cases h2;refine S.s I h1 λv H' s w=> ?_;obtain⟨U',I',st⟩:=I.push s (eX.plain w p);exact k v H' U' I' st
 ·rw[if_neg p]at h2;cases h2⟩
instance (priority:=100) ahB{t:TT}{f:En->Option Bool}[S:kU K n t f]:ST K n t (λZ=>(f Z).map λb=>(b,Z)):=⟨λ{σ hv H U Z ρ' τv τd b Q} I h k=>by
 obtain⟨b',h1,h2⟩:=bg.mp h;cases h2;refine S.s I h1 λH' s=>k H' U (I.same s) λb o q nu=>⟨s b o q,nu⟩⟩
def bD(Z:En):Option B->Option D
 |some (.own d)=>some d
 |some (.ro d)=>some d
 |some (.ak r p)=>(ai Z r).bind (ag · p)
 |none=>none
def ab(i:Nat)(Z:En):Option D:=(Z[i]?).bind (bD Z)
theorem aB.slot{i:Nat}{β:B}(I:aB K n H U σ hv Z τv τd)(h:Z[i]?=some (some β)):∃v F,(σ++hv)[i]?=some (some v)/\(∀b,F b->U b)/\nE K H U F Z.length (σ++hv) v β:=by
 have l:=I.len;have hi:i < Z.length:=(bW.mp h).1;obtain⟨_,mu,Fs,dj,sub,sl⟩:=I.ok;obtain⟨v,ev,sv⟩:=sl i β (by rw[br hi];exact h);rw[br (by simp;lia)]at ev;exact⟨v,Fs i,ev,sub i,nE.slots sv λr hr=>(br (by simp;lia)).symm⟩
theorem aB.name(I:aB K n H U σ hv Z τv τd)(hi:i < n):(σ++hv)[i]?=σ[i]?:=br (by rw[I.nn];exact hi)
theorem aB.yD{r:Nat}(I:aB K n H U σ hv Z τv τd)(h:ai Z r=some d):∃v F,(σ++hv)[r]?=some (some v)/\(∀b,F b->U b)/\bj K H F v d:=by
 obtain⟨v,F,a,b,c⟩:=I.slot (lU h);exact⟨v,F,a,b,c⟩
def b6(Z:En):Pl->Option D
 |.rt r p=>(ai Z r).bind (ag · p)
 |.ro d=>some d
theorem aB.at(I:aB K n H U σ hv Z τv τd)(h:ik K H U (σ++hv) Z v q)(hd:b6 Z q=some d):Vw K H T1 v d:=by
 cases q with
 |ro d'=>cases hd;exact h.any
 |rt r p=>
  obtain⟨_,vr,d0,er,hr,_,hp⟩:=h;have hd:(ai Z r).bind (ag · p)=some d:=hd;rw[hr]at hd;obtain⟨v',F,ev,_,rp⟩:=I.yD hr;rw[er]at ev;cases ev;exact rp.sub hd hp λ_ _=>trivial
instance NS{i:Nat}[L:ke i n]:SV K n (jh i) (ab i):=⟨λ{σ hv H U Z τv τd d Q} I h k=>by
 obtain⟨o,h1,h2⟩:=af.mp h;cases o with
 |none=>cases h2
 |some β=>
  obtain⟨v,F,ev,sub,sv⟩:=I.slot h1;rw[I.name L.h]at ev;refine⟨v,ev,k v H (aP.refl H) ?_⟩;cases β with
  |own d'=>cases h2;exact bj.vw sv
  |ro d'=>cases h2;exact Vw.any sv
  |ak r p=>
   obtain⟨d0,hr,g⟩:=af.mp h2;obtain⟨_,vr,er,hp⟩:=sv;obtain⟨v',F',mO,_,rp⟩:=I.yD hr;rw[er]at mO;cases mO;exact rp.sub g hp λ_ _=>trivial⟩
def ar(i:Nat)(Z:En):Option Pl:=match Z[i]? with
 |some (some (.own _))=>some (.rt i [])
 |some (some (.ro d))=>some (.ro d)
 |some (some (.ak r p))=>if((ai Z r).bind (ag · p)).isSome=true then some (.rt r p) else none
 |_=>none
instance ahC{i:Nat}[L:ke i n]:SP K n (jh i) (ar i):=⟨λ{σ hv H U Z τv τd q Q} I h k=>by
 unfold ar at h
 split at h
 ·next d e1=>
  cases h;obtain⟨v,F,ev,sub,sv⟩:=I.slot e1;have mO:=ev;rw[I.name L.h]at ev;have hr:ai Z i=some d:=by unfold ai;rw[e1]
  exact⟨v,ev,k v H (aP.refl H) ⟨(bW.mp e1).1,v,d,mO,hr,rfl, .nil v⟩⟩
 ·next d e1=>
  cases h;obtain⟨v,F,ev,sub,sv⟩:=I.slot e1;rw[I.name L.h]at ev;exact⟨v,ev,k v H (aP.refl H) sv⟩
 ·next r p e1=>
  by_cases c:((ai Z r).bind (ag · p)).isSome=true
  ·rw[if_pos c]at h;cases h;obtain⟨v,F,ev,sub,sv⟩:=I.slot e1;rw[I.name L.h]at ev;obtain⟨hr,vr,er,hp⟩:=sv;cases hd:ai Z r with
   |none=>rw[hd]at c;cases c
   |some d0=>
    rw[hd]at c;exact⟨v,ev,k v H (aP.refl H) ⟨hr,vr,d0,er,hd,c,hp⟩⟩
  ·rw[if_neg c]at h;cases h
 ·cases h⟩
instance ahD{v:V}:SF K n (tC v) (λ_=>some (.sc v)):=⟨λI h k=>by cases h;exact k v _ (aP.refl _) (.sc v)⟩
class lV(K:aj)(r:R2)(g:outParam (D->D->Option D)):Prop where
 s:∀{H:Hp} {x y:V} {dx dy d:D} {Q:VK},Vw K H T1 x dx->Vw K H T1 y dy->g dx dy=some d->(∀v H',aP H H'->eX K H H' v d->Q v H')->r x y H Q
noncomputable def aw (g:D->D->Option D) (fa fb:En->Option D) (Z:En):Option D:=(fa Z).bind λa=>(fb Z).bind λb=>g a b
instance ahE[A:SV K n ta fa][B':SV K n tb fb][O:lV K r g]:SF K n (kN r ta tb) (aw g fa fb):=⟨λ{σ hv H U Z τv τd d Q} I h k=>by
 obtain⟨a,ha,h⟩:=af.mp h;obtain⟨b,hb,h⟩:=af.mp h;refine A.s I ha λx H1 s1 w1=> ?_;refine B'.s (I.same s1) hb λy H2 s2 w2=> ?_;exact O.s (w1.same s2) w2 h λv H3 s3 o=>k v H3 (s1.trans (s2.trans s3)) (o.early (s1.trans s2))⟩
noncomputable def kf (g:D->D->Option D) (fa fb:En->Option (D×En)) (Z:En):Option (D×En):=(fa Z).bind λa=>(fb a.2).bind λb=>(g a.1 b.1).map λd=>(d,b.2)
theorem aB.two(I:aB K n H U σ hv Z (τv++ [v1]++ [v2]) (τd++ [d1]++ [d2])):Vw K H T1 v1 d1/\Vw K H T1 v2 d2:=⟨I.uf.last,I.last⟩
instance (priority:=80) X1{r:R2}{ta tb:TE}{fa fb:En->Option (D×En)}{g:D->D->Option D}[A:SM K n ta fa][B':SM K n tb fb][O:lV K r g]:SM K n (kN r ta tb) (kf g fa fb):=⟨λ{σ hv H U Z ρ' τv τd d Q} I h k=>by
 obtain⟨⟨a,ρ1⟩,ha,h⟩:=af.mp h;obtain⟨⟨b,ay⟩,hb,h⟩:=af.mp h;obtain⟨d',hg,h⟩:=bg.mp h;cases h;refine A.s I ha λx H1 U1 I1 bH=> ?_;refine B'.s I1 hb λy H2 U2 I2 cf=> ?_;refine O.s I2.two.1 I2.two.2 hg λv H3 s3 o=> ?_;obtain⟨U3,I3,iT⟩:=(I2.uf.uf).push s3 o;exact k v H3 U3 I3 (bH.trans (cf.trans iT))⟩
class NT(K:aj)(r:V->Hp->VK->Prop)(g:outParam (D->Option D)):Prop where
 s:∀{H:Hp} {x:V} {dx d:D} {Q:VK},Vw K H T1 x dx->g dx=some d->(∀v H',aP H H'->eX K H H' v d->Q v H')->r x H Q
instance ahF[A:SV K n ta fa][O:NT K r g]:SF K n (Mo r ta) (λZ=>(fa Z).bind g):=⟨λ{σ hv H U Z τv τd d Q} I h k=>by
 obtain⟨a,ha,h⟩:=af.mp h;refine A.s I ha λx H1 s1 w1=> ?_;exact O.s w1 h λv H3 s3 o=>k v H3 (s1.trans s3) (o.early s1)⟩
instance ahG:SA K n gU (λ_=>some []):=⟨λI h k=>by cases h;exact k [] _ (aP.refl _) ⟨rfl,λi v d hv=>by simp at hv⟩⟩
noncomputable def aq (fa:En->Option D) (fr:En->Option (List D)) (Z:En):Option (List D):=(fa Z).bind λa=>(fr Z).map (a:: ·)
theorem dB.cons(h:Vw K H N v d)(t:dB K H N vs ds):dB K H N (v::vs) (d::ds):=⟨by rw[gc,gc,t.1],λi x y hx hy=>by
 cases i with
 |zero=>cases hx;cases hy;exact h
 |succ i=>exact t.2 i x y (by simpa using hx) (by simpa using hy)⟩
instance ahH[A:SV K n ta fa][R:SA K n tr fr]:SA K n (e9 ta tr) (aq fa fr):=⟨λ{σ hv H U Z τv τd ds Q} I h k=>by
 obtain⟨a,ha,h⟩:=af.mp h;obtain⟨r,hr,h⟩:=bg.mp h;cases h;refine A.s I ha λx H1 s1 w1=> ?_;exact R.s (I.same s1) hr λxs H2 s2 w2=>k (x::xs) H2 (s1.trans s2) (.cons (w1.same s2) w2)⟩
instance ahI:we K n gU (λZ=>some ([],Z)):=⟨λ{σ hv H U Z ρ' τv τd ds Q} I h k=>by cases h;exact k [] H U rfl (by rw[fE,fE];exact I) (b5.refl U H)⟩
noncomputable def kg (fa:En->Option (D×En)) (fr:En->Option (List D×En)) (Z:En):Option (List D×En):=(fa Z).bind λa=>(fr a.2).map λr=>(a.1::r.1,r.2)
instance ahJ[A:SM K n ta fa][R:we K n tr fr]:we K n (e9 ta tr) (kg fa fr):=⟨λ{σ hv H U Z ρ' τv τd ds Q} I h k=>by
 obtain⟨⟨a,ρ1⟩,ha,h⟩:=af.mp h;obtain⟨⟨r,ay⟩,hr,h⟩:=bg.mp h;cases h;refine A.s I ha λx H1 U1 I1 bH=> ?_;refine R.s I1 hr λxs H2 U2 hl I2 cf=> ?_;refine k (x::xs) H2 U2 (by rw[gc,gc,hl]) ?_ (bH.trans cf);rw[pB,pB τd];exact I2⟩
theorem oN{α β:Type}{vs:List α}{ds:List β}{i:Nat}{d:β}(h:vs.length=ds.length)(hd:ds[i]?=some d):∃v,vs[i]?=some v:=⟨_,gn (by rw[h];exact(bW.mp hd).1)⟩
theorem aB.gather{k:Kd}{o:HO}(I:aB K n H U σ hv Z (τv++vs) (τd++ds))(hl:vs.length=ds.length)(hp:H p=none)
  (hold:(dk k=true/\k= .tup/\o= .tup vs)\/(dk k=false/\fits K k vs.length/\∃dx,o=ho k dx vs)):
  ∃U',aB K n (upd H p o) U' σ hv Z (τv++ [.ref p]) (τd++ [.nd k ds])/\b5 U H U' (upd H p o):=by
 have l:=I.len;have s:aP H (upd H p o):=λb u q=>by rw[bA (kL q hp)];exact q
 have tl:=I.tl;obtain⟨he,mu,Fs,dj,sub,sl⟩:=I.ok.same s;have np:∀i,¬ Fs i p:=λi z=>by
  obtain⟨u,w⟩:=sm (I.ok.mu p (sub i p z));rw[hp]at w;cases w
 have base:(σ++hv++τv.map some).length=Z.length + τd.length:=by simp at tl |-;lia
 have X2:dk k=false->jC (upd H p o p):=λhk=>by
  rcases hold with⟨z,_⟩ | ⟨_,z,dx,w⟩
  ·rw[hk]at z;cases z
  ·rw[eJ,w];have:qO K (upd H p o) p k vs:=⟨hk,z,dx,by rw[eJ,w]⟩
   have:=this.mu;rw[eJ,w]at this;exact this
 refine⟨λb=>U b\/(dk k=false/\b=p),⟨⟨by simp at tl |-;lia,λb z=> ?_,λi b=>if i=Z.length + τd.length then(∃j,Z.length + τd.length<=j/\Fs j b)\/(dk k=false/\b=p) else Fs i b/\i < Z.length + τd.length,λi j b hi hj=> ?_,λi b hb=> ?_,λi β aL=> ?_⟩,l,I.nn⟩,λb u q nu=>⟨s b u q,λz=>z.elim nu λ⟨_,z⟩=>by rw[z,hp]at q;cases q⟩⟩
 ·rcases z with z | ⟨z,w⟩
  ·exact mu b z
  ·rw[w];exact X2 z
 ·have hi:if i=Z.length + τd.length then(∃j,Z.length + τd.length<=j/\Fs j b)\/(dk k=false/\b=p) else Fs i b/\i < Z.length + τd.length:=hi;have hj:if j=Z.length + τd.length then(∃j,Z.length + τd.length<=j/\Fs j b)\/(dk k=false/\b=p) else Fs j b/\j < Z.length + τd.length:=hj;by_cases ci:i=Z.length + τd.length
  ·rw[if_pos ci]at hi;by_cases cj:j=Z.length + τd.length
   ·lia
   ·rw[if_neg cj]at hj;rcases hi with⟨x,hx,hi⟩ | ⟨_,hi⟩
    ·have:=dj _ _ b hi hj.1;lia
    ·rw[hi]at hj;exact absurd hj.1 (np j)
  ·rw[if_neg ci]at hi;by_cases cj:j=Z.length + τd.length
   ·rw[if_pos cj]at hj;rcases hj with⟨x,hx,hj⟩ | ⟨_,hj⟩
    ·have:=dj _ _ b hi.1 hj;lia
    ·rw[hj]at hi;exact absurd hi.1 (np i)
   ·rw[if_neg cj]at hj;exact dj _ _ b hi.1 hj.1
 ·have hb:if i=Z.length + τd.length then(∃j,Z.length + τd.length<=j/\Fs j b)\/(dk k=false/\b=p) else Fs i b/\i < Z.length + τd.length:=hb;by_cases ci:i=Z.length + τd.length
  ·rw[if_pos ci]at hb;rcases hb with⟨x,_,hb⟩ | hb
   ·exact .inl (sub x b hb)
   ·exact .inr hb
  ·rw[if_neg ci]at hb;exact .inl (sub i b hb.1)
 ·have ud:((Z++τd.map λd=>some (B.own d))++ [some (.own (.nd k ds))])[i]?=some (some β):=by
   rw[cK, <- dI]at aL;exact aL
  have Fw:(σ++hv++τv.map some).length=(Z++τd.map λd=>some (B.own d)).length:=by rw[base];simp
  have NU:∀{i:Nat} (hi:i < (σ++hv++τv.map some).length) {x:V},(σ++hv++(τv++ [x]).map some)[i]?=(σ++hv++τv.map some)[i]?:=λ{i} hi {x}=>by
   rw[cK, <- dI,br hi]
  have Fx:∀{i:Nat} (hi:i < (σ++hv++τv.map some).length),(σ++hv++(τv++vs).map some)[i]?=(σ++hv++τv.map some)[i]?:=λ{i} hi=>by
   rw[cK, <- dI,br hi]
  rcases slot_of Fw ud with⟨hi,q⟩ | ⟨hi,q⟩
  ·obtain⟨v',ev,sv⟩:=sl i β (by rw[cK, <- dI,br (by rw[<- Fw];exact hi)];exact q);rw[Fx hi]at ev;refine⟨v',by rw[NU hi];exact ev, ?_⟩;have ni:¬ i=Z.length + τd.length:=by lia
   have sv:=nE.slots sv (e':=σ++hv++(τv++ [V.ref p]).map some) λr hr=>by rw[NU (by lia),Fx (by lia)]
   cases β with
   |own dd=>
    show bj K (upd H p o) (λb=>if i=Z.length + τd.length then _ else Fs i b/\i < Z.length + τd.length) v' dd;simp only[if_neg ni];exact bj.mono sv λb z=>⟨z,by lia⟩
   |ro dd=>
    obtain⟨v2,dz,ue⟩:=I.ok.ex.choose_spec.2.2 i _ (by rw[cK, <- dI,br (by rw[<- Fw];exact hi)];exact q);rw[Fx hi,ev]at dz;cases dz;have ue:Vw K H (λb=>¬ U b) v' dd:=ue;exact ue.over (λb o nb q=>⟨s b o q,λz=>z.elim nb λ⟨_,z⟩=>by rw[z,hp]at q;cases q⟩) (gJ.of s)
   |ak _ _=>exact sv
  ·have e0:i - (σ++hv++τv.map some).length=0:=by
    have:=(bW.mp q).1;simp at this |-;lia
   rw[e0]at q;cases q;have ei:i=Z.length + τd.length:=by lia
   subst ei;refine⟨.ref p,by rw[cK, <- dI,bK (by lia),base,lN];rfl, ?_⟩;have dq:∀(j:Nat) (v:V) (d:D),vs[j]?=some v->ds[j]?=some d->bj K (upd H p o) (Fs (Z.length + τd.length + j)) v d:=λj v d hv hd=>by
    obtain⟨v',ev,sv⟩:=sl (Z.length + τd.length + j) (.own d) (by
     rw[cK, <- dI,bK (by simp),dF];simp[hd])
    have:v'=v:=by
     rw[cK, <- dI,bK (by lia),base]at ev;simp[hv]at ev;exact ev.symm
    subst this;exact sv
   show bj K (upd H p o) (λb=>if Z.length + τd.length=Z.length + τd.length then(∃j,Z.length + τd.length<=j/\Fs j b)\/(dk k=false/\b=p) else _) (.ref p) (.nd k ds);simp only[if_pos rfl];refine .nd (λj=>Fs (Z.length + τd.length + j)) ?_ hl (λi j b hi hj=>by have:=dj _ _ b hi hj;lia) (λj b hb=>⟨.inl ⟨_,by lia,hb⟩,λ_ z=>by rw[z]at hb;exact np _ hb⟩) dq;rcases hold with⟨_,h1,h2⟩ | ⟨h1,h2,dx,h3⟩
   ·subst h1;show upd H p o p=some (.tup vs);rw[eJ,h2]
   ·exact jM.put h1 (.inr ⟨h1,rfl⟩) ⟨h1,h2,dx,by rw[eJ,h3]⟩
noncomputable def nH (f:En->Option (List D×En)) (Z:En):Option (D×En):=(f Z).bind λr=>if r.1.length<=aM then some (.nd .tup r.1,r.2) else none
noncomputable def fV (f:En->Option (List D×En)) (Z:En):Option (D×En):=(f Z).bind λr=>if r.1.length<=aM then some (.nd .lst r.1,r.2) else none
instance (priority:=300) ahK{ta:TA}{fa:En->Option (List D×En)}[A:we K n ta fa]:SM K n (rW ta) (nH fa):=⟨λ{σ hv H U Z ρ' τv τd d Q} I h k=>by
 obtain⟨⟨a,ρ1⟩,ha,h⟩:=af.mp h;by_cases c:a.length<=aM
 ·rw[if_pos c]at h;cases h;refine A.s I ha λxs H1 U1 hl I1 bH=>⟨by rw[hl];exact c,λp hp=> ?_⟩
  obtain⟨U2,I2,cf⟩:=I1.gather (k:= .tup) (o:= .tup xs) hl hp (.inl ⟨rfl,rfl,rfl⟩);exact k _ _ U2 I2 (bH.trans cf)
 ·rw[if_neg c]at h;cases h⟩
instance (priority:=300) ahL{ta:TA}{fa:En->Option (List D×En)}[A:we K n ta fa]:SM K n (vQ ta) (fV fa):=⟨λ{σ hv H U Z ρ' τv τd d Q} I h k=>by
 obtain⟨⟨a,ρ1⟩,ha,h⟩:=af.mp h;by_cases c:a.length<=aM
 ·rw[if_pos c]at h;cases h;refine A.s I ha λxs H1 U1 hl I1 bH=>⟨by rw[hl];exact c,λp hp=> ?_⟩
  obtain⟨U2,I2,cf⟩:=I1.gather (k:= .lst) (o:= .lst xs) hl hp (.inr ⟨rfl,trivial,0,rfl⟩);exact k _ _ U2 I2 (bH.trans cf)
 ·rw[if_neg c]at h;cases h⟩
variable {Z ρ' ay:En}{v:V}{d:D}
noncomputable def bc (ds:List D):En:=ds.map λd=>some (.own d)
theorem X3(ds:List D):NO (bc ds):=λb hb=>by
 obtain⟨d,_,rfl⟩:=i0.mp hb;exact .inr ⟨d,rfl⟩
theorem wj(ds:List D):yA (bc ds):=λb hb r p=>by
 obtain⟨d,_,rfl⟩:=i0.mp hb;exact λz=>nomatch z
theorem cL.weaken(h:cL K H U m e ay)(hl:Z.length=ay.length)(w:∀(i:Nat) (β:B),Z[i]?=some (some β)->ay[i]?=some (some β)):cL K H U m e Z:=by
 obtain⟨a,mu,Fs,dj,sub,sl⟩:=h;exact⟨a.trans hl.symm,mu,Fs,dj,sub,λi β aL=>sl i β (w i β aL)⟩
theorem wm(h:jC (H a)):gJ H (upd H a o):=λb u nm q=>by
 have:b≠a:=λz=>by subst z;rw[q]at h;exact nm h
 rw[bA this];exact q
theorem NV{a:Addr}(hk:dk k=false):jC (some (ho k dx vs)):=by
 cases k with
 |tup=>cases hk
 |eT=>cases hk
 |lst=>trivial
 |az ks=>trivial
 |mN ks=>trivial
 |obj C ns=>trivial
theorem cL.edit(h:cL K H U 0 (xs.map some++ [some v]) (bc ds++ [some (.own (.nd k cs))]))(hl:xs.length=ds.length)(hk:dk k=false):
  ∃(a dx:Addr) (vs:List V),v= .ref a/\H a=some (ho k dx vs)/\fits K k vs.length/\vs.length=cs.length/\dB K H T1 vs cs/\∀(k':Kd) (dU:List V) (gX:List D) (π:Nat->Nat),dk k'=false->fits K k' dU.length->dU.length=gX.length->
   (∀i j,i < dU.length->j < dU.length->π i=π j->i=j)->(∀(i:Nat) (x:V),dU[i]?=some x->(vs++xs)[π i]?=some x)->(∀(i:Nat) (y:D),gX[i]?=some y->(cs++ds)[π i]?=some y)->
   cL K (upd H a (ho k' dx dU)) U 0 [some v] [some (.own (.nd k' gX))]/\b5 U H U (upd H a (ho k' dx dU)):=by
 obtain⟨cU,mu,Fs,dj,sub,sl⟩:=h;have lo:(bc ds).length=xs.length:=by unfold bc;rw[eS,hl]
 obtain⟨v',ev,sv⟩:=sl xs.length (.own (.nd k cs)) (by rw[bK (by lia),lo,lN];rfl);rw[bK (by simp)]at ev;have:v'=v:=by simp at ev;exact ev.symm
 subst this;have sv:bj K H (Fs xs.length) v' (.nd k cs):=sv;obtain⟨a,vs,rfl,h1,h2,Gs,g3,g4,g5⟩:=sv.node;obtain⟨Fa,_,hf,dx,ha⟩:=h1.own hk;have X4:∀i,¬ Gs i a:=λi z=>(g4 i a z).2 hk rfl;refine⟨a,dx,vs,rfl,ha,hf,h2,⟨h2,λi v d hv hd=>(g5 i v d hv hd).vw⟩,λk' dU gX π yE wo ip inj jD qz=> ?_⟩;have X5:jC (H a):=mu a (sub _ a Fa);have st:gJ H (upd H a (ho k' dx dU)):=wm X5;have keep:∀b u,b≠a->H b=some u->upd H a (ho k' dx dU) b=some u:=λb u ne q=>by rw[bA ne];exact q
 -- mG ahM of fO comes from place j
 let Fp:Nat->Addr->Prop:=λj=>if j < cs.length then Gs j else λb=>Fs (j - cs.length) b/\j - cs.length < xs.length
 have NW:∀j,j < cs.length->Fp j=Gs j:=λj hj=>if_pos hj;have NX:∀j,¬ j < cs.length->Fp j=λb=>Fs (j - cs.length) b/\j - cs.length < xs.length:=λj hj=>if_neg hj;have BJ:∀j b,Fp j b->(j < cs.length/\Gs j b)\/(¬ j < cs.length/\Fs (j - cs.length) b/\j - cs.length < xs.length):=λj b hb=>by
  by_cases c:j < cs.length
  ·rw[NW j c]at hb;exact .inl ⟨c,hb⟩
  ·rw[NX j c]at hb;exact .inr ⟨c,hb.1,hb.2⟩
 have X6:∀j b,Fp j b->U b:=λj b hb=>by
  rcases BJ j b hb with⟨_,z⟩ | ⟨_,z,_⟩
  ·exact sub _ b (g4 j b z).1
  ·exact sub _ b z
 have NY:∀j,¬ Fp j a:=λj z=>by
  rcases BJ j a z with⟨_,z⟩ | ⟨_,z,w⟩
  ·exact X4 j z
  ·have:=dj _ _ a z Fa;lia
 have X7:∀i j b,Fp i b->Fp j b->i=j:=λi j b hi hj=>by
  rcases BJ i b hi with⟨c1,z1⟩ | ⟨c1,z1,w1⟩ <;> rcases BJ j b hj with⟨c2,z2⟩ | ⟨c2,z2,w2⟩
  ·exact g3 i j b z1 z2
  ·have:=dj _ _ b (g4 i b z1).1 z2;lia
  ·have:=dj _ _ b (g4 j b z2).1 z1;lia
  ·have:=dj _ _ b z1 z2;lia
 have X8:∀(j:Nat) (x:V) (y:D),(vs++xs)[j]?=some x->(cs++ds)[j]?=some y->bj K H (Fp j) x y:=λj x y hx hy=>by
  by_cases c:j < cs.length
  ·rw[NW j c];rw[br (by lia)]at hx;rw[br c]at hy;exact g5 j x y hx hy
  ·rw[NX j c];rw[bK (by lia)]at hx;rw[bK (by lia)]at hy;rw[h2]at hx;have Fy:j - cs.length < xs.length:=(bW.mp hx).1;obtain⟨x',ex,sx⟩:=sl (j - cs.length) (.own y) (by rw[br (by rw[lo];exact Fy)];unfold bc;rw[dF,hy];rfl);have:x'=x:=by
    rw[br (by simp;exact Fy),dF,hx]at ex;cases ex;rfl
   subst this;exact bj.mono sx λb z=>⟨z,Fy⟩
 refine⟨⟨rfl,λb ub=> ?_,λi b=>i=0/\(b=a\/∃j,j < dU.length/\Fp (π j) b),λi j b hi hj=>by rw[hi.1,hj.1],λi b hb=> ?_,λi β aL=> ?_⟩,λb u q nu=> ?_⟩
 ·by_cases c:b=a
  ·subst c;rw[eJ];exact NV (a:=b) yE
  ·rw[bA c];exact mu b ub
 ·rcases hb.2 with z | ⟨j,_,z⟩
  ·subst z;exact sub _ b Fa
  ·exact X6 _ b z
 ·cases i with
  |succ i=>simp at aL
  |zero=>
   cases aL;refine⟨.ref a,rfl, ?_⟩;refine .nd (λi b=>i < dU.length/\Fp (π i) b) (jM.put yE ⟨rfl, .inl rfl⟩ ⟨yE,wo,dx,eJ⟩) ip (λi j b hi hj=>inj i j hi.1 hj.1 (X7 _ _ b hi.2 hj.2)) (λi b hb=>⟨⟨rfl, .inr ⟨i,hb.1,hb.2⟩⟩,λ_ z=>by subst z;exact NY _ hb.2⟩) λi x y hx hy=> ?_;have hi:i < dU.length:=(bW.mp hx).1;have r:=X8 (π i) x y (jD i x hx) (qz i y hy);refine(r.frame (H':=upd H a (ho k' dx dU)) (λb u hb q=>keep b u (λz=>by subst z;exact NY _ hb) q) st).mono λb z=>⟨hi,z⟩
 ·have:b≠a:=λz=>by subst z;exact nu (sub _ b Fa)
  exact⟨keep b u this q,nu⟩
theorem Fz:∀{p q:List Nat} {d d1 x y:D},ag d p=some d1->plain x=false->plain y=false->(∀n r,ag x (n::r)=none)->(∀n r,ag y (n::r)=none)->(ag (aG d p x) q).isSome=(ag (aG d p y) q).isSome
 | [], [],d,d1,x,y,g,hx,hy,zx,zy=>by rw[aG,aG,ag,ag];rfl
 | [],n::r,d,d1,x,y,g,hx,hy,zx,zy=>by rw[aG,aG,zx,zy]
 |n::p,q, .sc _,d1,x,y,g,hx,hy,zx,zy=>by rw[ag]at g;cases g
 |n::p,q, .hl _,d1,x,y,g,hx,hy,zx,zy=>by rw[ag]at g;cases g
 |n::p,q, .nd k cs,d1,x,y,g,hx,hy,zx,zy=>by
  rw[ag]at g;by_cases dM:dk k=true/\aK cs=true
  ·rw[if_pos dM]at g;cases g
  rw[if_neg dM]at g;cases hc:cs[n]? with
  |none=>rw[hc]at g;cases g
  |some c=>
   rw[hc]at g;have hn:=(bW.mp hc).1;have e1:aG (.nd k cs) (n::p) x= .nd k (cs.set n (aG c p x)):=by rw[aG,hc]
   have e2:aG (.nd k cs) (n::p) y= .nd k (cs.set n (aG c p y)):=by rw[aG,hc]
   rw[e1,e2];cases q with
   |nil=>rw[ag,ag];rfl
   |cons i q=>
    have px:=v9 hn (wc g hx);have py:=v9 hn (wc g hy);rw[ag,ag,if_neg (by rintro⟨_,z⟩;rw[px]at z;cases z),if_neg (by rintro⟨_,z⟩;rw[py]at z;cases z)];by_cases ci:n=i
    ·subst ci;rw[eY hn,eY hn];exact Fz g hx hy zx zy
    ·rw[gm ci,gm ci]
def cm(Z:En)(r:Nat)(d0:D)(p:List Nat)(d':D):En:=(aZ (Z.set r (some (.own (aG d0 p (.hl .aE)))))).set r (some (.own (aG d0 p d')))
theorem ug(Z:En)(r:Nat)(d0:D)(p:List Nat)(d':D):(cm Z r d0 p d').length=Z.length:=by unfold cm;rw[cB,i6,cB]
theorem qS(h:r≠s):ai (Z.set r b) s=ai Z s:=by
 unfold ai;rw[gm h]
theorem BK(h:r < Z.length):ai (Z.set r (some (.own d))) r=some d:=by
 unfold ai;rw[eY h]
theorem NZ{i:Nat}{d:D}(h:Z[i]?=some (some (.own d))):(aZ Z)[i]?=some (some (.own d)):=by
 unfold aZ;rw[dF,h];rfl
theorem N0{d:D}(h:ai Z r=some d):ai (Z++τ) r=some d:=by
 have q:=lU h;have hr:r < Z.length:=(bW.mp q).1;unfold ai;rw[br hr,q]
theorem N1(v7:yA τ):∀(i:Nat) (β:B),(aZ Z++τ)[i]?=some (some β)->(aZ (Z++τ))[i]?=some (some β):=λi β h=>by
 unfold aZ at h |-;rw[cK];by_cases hi:i < Z.length
 ·rw[br (by rw[eS];exact hi)]at h;rw[br (by rw[eS];exact hi)];rw[dF]at h |-;cases q:Z[i]? with
  |none=>rw[q]at h;cases h
  |some o=>
   rw[q]at h;have h:bT Z o=some β:=jI h;show some (bT (Z++τ) o)=_;cases o with
   |none=>exact congrArg some h
   |some c=>
    cases c with
    |own d=>exact congrArg some h
    |ro d=>exact congrArg some h
    |ak r p=>
     have h:(if p= []\/((ai Z r).bind (ag · p)).isSome=true then some (B.ak r p) else none)=some β:=h;show some (if p= []\/((ai (Z++τ) r).bind (ag · p)).isSome=true then some (B.ak r p) else none)=_;by_cases c:p= []\/((ai Z r).bind (ag · p)).isSome=true
     ·rw[if_pos c]at h;have c':p= []\/((ai (Z++τ) r).bind (ag · p)).isSome=true:=by
       rcases c with c | c
       ·exact .inl c
       ·cases hd:ai Z r with
        |none=>rw[hd]at c;cases c
        |some d=>rw[N0 hd];rw[hd]at c;exact .inr c
      rw[if_pos c',h]
     ·rw[if_neg c]at h;cases h
 ·rw[bK (by rw[eS];lia)]at h |-;rw[eS]at h |-;rw[dF,h];cases β with
  |own d=>rfl
  |ro d=>rfl
  |ak r p=>exact absurd rfl (v7 _ (gH h) r p)
theorem X9{v:V}(hr:r < Z.length)(g:ag d0 p=some d1):∀(i:Nat) (β:B),i≠r->(aZ (Z.set r (some (.own (aG d0 p (.hl .aE))))))[i]?=some (some β)->(aZ (Z.set r (some (.own (aG d0 p (.hl v))))))[i]?=some (some β):=λi β ni h=>by
 unfold aZ at h |-;rw[dF,gm (jO ni)]at h |-;cases q:Z[i]? with
 |none=>rw[q]at h;cases h
 |some o=>
  rw[q]at h;have h:=jI h;show some (bT _ o)=_;cases o with
  |none=>exact congrArg some h
  |some c=>
   cases c with
   |own d=>exact congrArg some h
   |ro d=>exact congrArg some h
   |ak s p'=>
    have h:(if p'= []\/((ai (Z.set r (some (.own (aG d0 p (.hl .aE))))) s).bind (ag · p')).isSome=true then some (B.ak s p') else none)=some β:=h;show some (if p'= []\/((ai (Z.set r (some (.own (aG d0 p (.hl v))))) s).bind (ag · p')).isSome=true then some (B.ak s p') else none)=_;by_cases cs:r=s
    ·subst cs;rw[BK hr]at h |-;have e:((some (aG d0 p (.hl v))).bind (ag · p')).isSome=((some (aG d0 p (.hl .aE))).bind (ag · p')).isSome:=Fz g rfl rfl (λ_ _=>by rw[ag]) λ_ _=>by rw[ag]
     rw[e,h]
    ·rw[qS cs]at h |-;rw[h]
theorem aB.edit{r:Nat}{p:List Nat}{d0:D}{k:Kd}{cs:List D}(I:aB K n H U σ hv Z (τv++xs) (τd++ds))(hl:xs.length=ds.length)(hp:ik K H U (σ++hv) Z v (.rt r p))(hr:ai Z r=some d0)(hg:ag d0 p=some (.nd k cs))(hk:dk k=false):
  ∃(a dx:Addr) (vs:List V),v= .ref a/\H a=some (ho k dx vs)/\fits K k vs.length/\vs.length=cs.length/\dB K H T1 vs cs/\∀(k':Kd) (dU:List V) (gX:List D) (π:Nat->Nat),dk k'=false->fits K k' dU.length->dU.length=gX.length->
   (∀i j,i < dU.length->j < dU.length->π i=π j->i=j)->(∀(i:Nat) (x:V),dU[i]?=some x->(vs++xs)[π i]?=some x)->(∀(i:Nat) (y:D),gX[i]?=some y->(cs++ds)[π i]?=some y)->
   ∃U',aB K n (upd H a (ho k' dx dU)) U' σ hv (cm Z r d0 p (.nd k' gX)) τv τd/\b5 U H U' (upd H a (ho k' dx dU)):=by
 have l:=I.len;have tl:=I.tl;rw[cc,cc]at tl;obtain⟨jq,vr,Ya,er,mP,_,Yb⟩:=hp;rw[hr]at mP;cases mP;have v8:=lU hr
 -- all in one row
 have Yc:cL K H U Z.length ((σ++hv++τv.map some)++xs.map some) ((Z++bc τd)++bc ds):=by
  have:=I.ok;rw[cK,cK, <- dI, <- dI]at this;exact this
 have lE:(σ++hv++τv.map some).length=(Z++bc τd).length:=by unfold bc;simp;lia
 have hm:Z.length<=(σ++hv++τv.map some).length:=by simp;lia
 have N2:=Yc.take (r:=r) (vr:=vr) (u:=v) (d:=d0) (p:=p) (by rw[cc];lia) (by rw[br (by rw[cc];lia),br jq];exact v8)
  (by rw[br (by lia),br (by simp;lia)];exact er) Yb hg
 have es:((Z++bc τd)++bc ds).set r (some (.own (aG d0 p (.hl v))))++ [some (B.own (.nd k cs))]=(Z.set r (some (.own (aG d0 p (.hl v))))++bc τd)++(bc ds++ [some (.own (.nd k cs))]):=by
  rw[tH _ _ (by rw[cc];lia),tH _ _ jq];simp
 rw[es,dI]at N2;have nA:yA (bc ds++ [some (B.own (.nd k cs))]):=λb hb q p=>by
  rcases kG.mp hb with z | z
  ·exact wj ds b z q p
  ·rw[gf.mp z];exact λw=>nomatch w
 have N3:(σ++hv++τv.map some).length=(Z.set r (some (.own (aG d0 p (.hl v))))++bc τd).length:=by
  rw[lE,cc,cc,cB]
 obtain⟨Ut,_,small,_,back⟩:=N2.call N3 hm nA;obtain⟨a,dx,vs,ev,ha,hf,Yd,vw,ed⟩:=small.edit hl hk;refine⟨a,dx,vs,ev,ha,hf,Yd,vw,λk' dU gX π yE wo ip inj jD qz=> ?_⟩;obtain⟨Ye,Yf⟩:=ed k' dU gX π yE wo ip inj jD qz;obtain⟨U',FA,cf⟩:=back _ Ut [some v] [some (.own (.nd k' gX))] Ye Yf λb hb=>by rw[gf.mp hb];exact .inr ⟨_,rfl⟩
 refine⟨U',⟨?_,by rw[ug];exact l,I.nn⟩,cf⟩;have Yg:r < (Z.set r (some (.own (aG d0 p (.hl v))))).length:=by rw[cB];exact jq
 have gh:ag (aG d0 p (.hl v)) p=some (.hl v):=Fq hg rfl;have BL:=FA.put (r:=r) (d0:=aG d0 p (.hl v)) (u:=v) (p:=p) (d1:= .nd k' gX) (by rw[i6];exact N3) hm (by
  refine NZ ?_;rw[br Yg,eY jq]) gh
 rw[Ft hg]at BL;rw[ug];refine BL.weaken (by rw[cc,ug,cB,i6,cc,cB];unfold bc;rfl) λi β aL=> ?_;have aL:(cm Z r d0 p (.nd k' gX)++bc τd)[i]?=some (some β):=aL;by_cases ci:r=i
 ·subst ci;rw[br (by rw[ug];exact jq)]at aL;unfold cm at aL;rw[eY (by rw[i6,cB];exact jq)]at aL;rw[eY (by rw[i6,cc,cB];lia)];exact aL
 ·rw[gm ci];refine N1 (wj τd) i β ?_;by_cases hi:i < Z.length
  ·rw[br (by rw[ug];exact hi)]at aL;rw[br (by rw[i6,cB];exact hi)];unfold cm at aL;rw[gm ci]at aL;exact X9 jq hg i β (λz=>ci z.symm) aL
  ·rw[bK (by rw[ug];lia),ug]at aL;rw[bK (by rw[i6,cB];lia),i6,cB];exact aL
end
section
theorem aB.bound(I:aB K n H U σ hv Z (τv++ [v]) (τd++ [d]))(hi:i < n)(v7:τv= []/\τd= []\/True):aB K n H U (σ.set i (some v)) hv ((gb i Z).set i (some (.own d))) τv τd:=by
 have l:=I.len;have nn:=I.nn;have tl:=I.tl;rw[cc,cc]at tl;have tl:τv.length=τd.length:=by simp at tl;lia
 refine⟨?_,by rw[cB,cB,kT];exact l,by rw[cB];exact nn⟩;have ok:=I.ok;rw[cK,cK, <- dI, <- dI]at ok;have k:=ok.set (i:=i) (by simp;lia) (by simp;lia) (by simp;lia);have e1:(σ++hv++τv.map some).set i (some v)=σ.set i (some v)++hv++τv.map some:=by
  rw[tH _ _ (by simp;lia),tH _ _ (by lia)]
 rw[e1]at k;have lu:((gb i Z).set i (some (B.own d))).length=Z.length:=by rw[cB,kT]
 rw[lu];refine k.weaken (by simp[kT]) λj β aL=> ?_;by_cases hj:j < Z.length
 ·rw[br (by rw[lu];exact hj)]at aL;by_cases c:i=j
  ·subst c;rw[eY (by rw[kT];exact hj)]at aL;rw[eY (by rw[kT];simp;lia)];exact aL
  ·rw[gm c]at aL |-;unfold gb at aL |-;rw[cK,br (by simpa using hj)];exact aL
 ·rw[bK (by rw[lu];lia),lu]at aL;rw[gm (by lia)];unfold gb;rw[cK,bK (by simp;lia),eS,dF];have:(τd.map λd=>some (B.own d))[j - Z.length]?=some (some β):=aL;rw[this];rw[dF]at this;cases q:τd[j - Z.length]? with
  |none=>rw[q]at this;cases this
  |some x=>rw[q]at this;cases this;rfl
theorem aB.named(I:aB K n H U σ hv Z τv τd)(hi:i < n)(hb:match β with | .own _=>False | .ro d=>Vw K H (λb=>¬ U b) v d | .ak r p=>r < Z.length/\r≠i/\∃vr,(σ++hv)[r]?=some (some vr)/\hU H vr p v):
  aB K n H U (σ.set i (some v)) hv ((gb i Z).set i (some β)) τv τd:=by
 have l:=I.len;have nn:=I.nn;have tl:=I.tl;refine⟨?_,by rw[cB,cB,kT];exact l,by rw[cB];exact nn⟩;have k:=I.ok.bind (i:=i) (β:=β) (v:=v) (by simp;lia) (by
  cases β with
  |own d=>exact hb
  |ro d=>exact hb
  |ak r p=>
   obtain⟨h1,h2,vr,h3,h4⟩:=hb;exact⟨h1,h2,vr,by rw[br (by simp;lia)];exact h3,h4⟩)
 have e1:(σ++hv++τv.map some).set i (some v)=σ.set i (some v)++hv++τv.map some:=by
  rw[tH _ _ (by simp;lia),tH _ _ (by lia)]
 rw[e1]at k;have lu:((gb i Z).set i (some β)).length=Z.length:=by rw[cB,kT]
 rw[lu];refine k.weaken (by simp[kT]) λj γ fG=> ?_;by_cases hj:j < Z.length
 ·rw[br (by rw[lu];exact hj)]at fG;by_cases c:i=j
  ·subst c;rw[eY (by rw[kT];exact hj)]at fG;rw[eY (by rw[kT];simp;lia)];exact fG
  ·rw[gm c]at fG |-;unfold gb at fG |-;rw[cK,br (by simpa using hj)];exact fG
 ·rw[bK (by rw[lu];lia),lu]at fG;rw[gm (by lia)];unfold gb;rw[cK,bK (by simp;lia),eS,dF];have:(τd.map λd=>some (B.own d))[j - Z.length]?=some (some γ):=fG;rw[this];rw[dF]at this;cases q:τd[j - Z.length]? with
  |none=>rw[q]at this;cases this
  |some x=>rw[q]at this;cases this;rfl
theorem aB.moved(I:aB K n H U σ hv Z τv τd)(hi:i < n)(h:Z[i]?=some (some (.own d))):∃v,σ[i]?=some (some v)/\aB K n H U σ hv (Z.set i none) (τv++ [v]) (τd++ [d]):=by
 have l:=I.len;have nn:=I.nn;have tl:=I.tl;have FC:i < Z.length:=(bW.mp h).1;obtain⟨v,F,ev,_,_⟩:=I.slot h;rw[I.name hi]at ev;refine⟨v,ev, ?_,by rw[cB];exact l,nn⟩;have yF:(Z++τd.map λd=>some (B.own d))[i]?=some (some (.own d)):=by rw[br FC];exact h
 have Yh:(σ++hv++τv.map some)[i]?=some (some v):=by rw[br (by simp;lia),br (by lia)];exact ev
 have k:=I.ok.take (r:=i) (p:= []) (by simp;lia) yF Yh (.nil v) rfl;rw[cB,cK,cK, <- dI, <- dI];refine k.weaken (by simp;lia) λj β aL=> ?_;rw[tH _ _ FC];by_cases hj:j < Z.length
 ·rw[dI,br (by simpa using hj)]at aL |-;by_cases c:i=j
  ·subst c;rw[eY FC]at aL;cases aL
  ·rw[gm c]at aL |-;exact aL
 ·rw[dI,bK (by simp;lia)]at aL |-;rw[cB]at aL |-;exact aL
def fJ(i:Nat)(Z:En):Option (D×En):=(ab i Z).bind λd=>if plain d=true then some (d,Z) else match Z[i]? with
 |some (some (.own d'))=>some (d',Z.set i none)
 |_=>none
instance (priority:=400) Yi{i:Nat}[L:ke i n]:SM K n (jh i) (fJ i):=⟨λ{σ hv H U Z ρ' τv τd d Q} I h k=>by
 obtain⟨d1,h1,h2⟩:=af.mp h;by_cases p:plain d1=true
 ·rw[if_pos p]at h2;cases h2;refine(NS (i:=i)).s I h1 λv H' s w=> ?_;obtain⟨U',I',st⟩:=I.push s (eX.plain w p);exact k v H' U' I' st
 ·rw[if_neg p]at h2
  split at h2
  ·next d' e1=>
   cases h2;obtain⟨v,ev,I'⟩:=I.moved L.h e1;exact⟨v,ev,k v H U I' (b5.refl U H)⟩
  ·cases h2⟩
instance ahN:SS K n vF (λZ=>some (.nx Z)):=⟨λI h k=>by cases h;exact k _ _ _ I (b5.refl _ _)⟩
instance ahO:SS K n Bc (λ_=>none):=⟨λI h k=>by cases h⟩
noncomputable def dr (u:En->Option Fl):Fl->Option Fl
 |.nx Z=>u Z
 |fl=>some fl
def bQ(t u:En->Option Fl)(Z:En):Option Fl:=(t Z).bind (dr u)
theorem qR.step(h:qR K n H U hv τv τd E fl)(st:b5 U H U' H'):qR K n H' U' hv τv τd E fl:=by
 cases fl with
 |nx Z=>exact λσ H2 U2 I s=>h σ H2 U2 I (st.trans s)
 |rt d Z=>exact λv σ H2 U2 I s=>h v σ H2 U2 I (st.trans s)
 |bk Z=>exact λσ H2 U2 I s=>h σ H2 U2 I (st.trans s)
 |ct Z=>exact λσ H2 U2 I s=>h σ H2 U2 I (st.trans s)
instance ahP[A:SS K n t ft][B':SS K n u fu]:SS K n (vG t u) (bQ ft fu):=⟨λ{σ hv H U Z τv τd fl E} I h k=>by
 obtain⟨f1,h1,h2⟩:=af.mp h;refine A.s I h1 ?_;cases f1 with
 |nx ρ1=>exact λEp H1 U1 I1 bH=>B'.s I1 h2 (k.step bH)
 |rt d ρ1=>cases h2;exact k
 |bk ρ1=>cases h2;exact k
 |ct ρ1=>cases h2;exact k⟩
noncomputable def bF (c:En->Option (Bool×En)) (t u:En->Option Fl) (Z:En):Option Fl:=(c Z).bind λb=>if b.1=true then t b.2 else u b.2
instance ahQ[C:ST K n c fc][A:SS K n t ft][B':SS K n u fu]:SS K n (vH c t u) (bF fc ft fu):=⟨λ{σ hv H U Z τv τd fl E} I h k=>by
 obtain⟨⟨b,ρ1⟩,h1,h2⟩:=af.mp h;refine C.s I h1 λH1 U1 I1 bH=> ?_;cases b with
 |true=>rw[if_pos rfl];exact A.s I1 h2 (k.step bH)
 |false=>rw[if_neg jA];exact B'.s I1 h2 (k.step bH)⟩
noncomputable def cv (f:En->Option (D×En)) (Z:En):Option Fl:=(f Z).map λr=> .rt r.1 r.2
instance Yj[A:SM K n te fe]:SS K n (rO te) (cv fe):=⟨λ{σ hv H U Z τv τd fl E} I h k=>by
 obtain⟨⟨d,ρ1⟩,h1,h2⟩:=bg.mp h;cases h2;exact A.s I h1 λv H1 U1 I1 bH=>k v σ H1 U1 I1 bH⟩
instance ahR:SS K n Mg (λZ=>some (.rt (.sc .aE) Z)):=⟨λ{σ hv H U Z τv τd fl E} I h k=>by
 cases h;obtain⟨U',I',st⟩:=I.push (aP.refl H) (eX.sc (K:=K) .aE);exact k .aE σ H U' I' st⟩
noncomputable def dZ (f:En->Option (D×En)) (Z:En):Option Fl:=(f Z).map λr=> .nx r.2
instance ahS[A:SM K n te fe]:SS K n (Mf te) (dZ fe):=⟨λ{σ hv H U Z τv τd fl E} I h k=>by
 obtain⟨⟨d,ρ1⟩,h1,h2⟩:=bg.mp h;cases h2;exact A.s I h1 λv H1 U1 I1 bH=>k σ H1 U1 I1.uf bH⟩
def aQ(i:Nat)(β:B)(Z:En):En:=(gb i Z).set i (some β)
def fP(i:Nat)(f:En->Option (D×En))(Z:En):Option Fl:=(f Z).map λr=> .nx (aQ i (.own r.1) r.2)
instance (priority:=100) ahT{i:Nat}{te:TE}{fe:En->Option (D×En)}[L:ke i n][A:SM K n te fe]:SS K n (ny te (mF i)) (fP i fe):=⟨λ{σ hv H U Z τv τd fl E} I h k=>by
 obtain⟨⟨d,ρ1⟩,h1,h2⟩:=bg.mp h;cases h2;exact A.s I h1 λv H1 U1 I1 bH=>k _ H1 U1 (I1.bound L.h (.inr trivial)) bH⟩
def uh(i:Nat)(f:En->Option Pl)(Z:En):Option Fl:=(f Z).bind λq=>(b6 Z q).bind λd=>if plain d=true then some (.nx (aQ i (.own d) Z)) else match q with
 |.ro d=>some (.nx (aQ i (.ro d) Z))
 |.rt r p=>if r=i then none else some (.nx (aQ i (.ak r p) Z))
instance (priority:=500) ahU{i:Nat}{te:TE}{fe:En->Option Pl}[L:ke i n][A:SP K n te fe]:SS K n (ny te (mF i)) (uh i fe):=⟨λ{σ hv H U Z τv τd fl E} I h k=>by
 obtain⟨q,h1,h2⟩:=af.mp h;obtain⟨d,h3,h4⟩:=af.mp h2;refine A.s I h1 λv H1 s1 w1=> ?_;have I1:=I.same s1;have hV:b5 U H U H1:=λb o q nu=>⟨s1 b o q,nu⟩
 by_cases p:plain d=true
 ·rw[if_pos p]at h4;cases h4;obtain⟨U',I',st⟩:=I1.push (aP.refl H1) (eX.plain (I1.at w1 h3) p);exact k _ H1 U' (I'.bound L.h (.inr trivial)) (hV.trans st)
 ·rw[if_neg p]at h4;cases q with
  |ro d'=>
   cases h4;exact k _ H1 U (I1.named L.h (β:= .ro d') w1) hV
  |rt r p'=>
   have h4:(if r=i then none else some (Fl.nx (aQ i (.ak r p') Z)))=some fl:=h4;by_cases c:r=i
   ·rw[if_pos c]at h4;cases h4
   ·rw[if_neg c]at h4;cases h4;obtain⟨hr,vr,d0,er,_,_,hp⟩:=w1;exact k _ H1 U (I1.named L.h (β:= .ak r p') ⟨hr,c,vr,er,hp⟩) hV⟩
instance ahV[A:SV K n t f]:kU K n (tB t) (λZ=>(f Z).bind fun | .sc (.bl b)=>some b | _=>none):=⟨λ{σ hv H U Z τv τd b Q} I h k=>by
 obtain⟨d,h1,h2⟩:=af.mp h;refine A.s I h1 λv H1 s1 w1=> ?_
 split at h2
 ·cases h2;exact⟨b,w1.dm,k H1 s1⟩
 ·cases h2⟩
instance ahW[A:SV K n t f]:kU K n (Bl t) (λZ=>(f Z).bind fun | .sc (.bl b)=>some b | _=>none):=⟨λ{σ hv H U Z τv τd b Q} I h k=>by
 obtain⟨d,h1,h2⟩:=af.mp h;refine A.s I h1 λv H1 s1 w1=> ?_
 split at h2
 ·cases h2;exact⟨b,w1.dm,k H1 s1⟩
 ·cases h2⟩
noncomputable def BM (f:En->Option (D×En)) (Z:En):Option (Bool×En):=(f Z).bind λr=>match r.1 with
 |.sc (.bl b)=>some (b,r.2)
 |_=>none
instance (priority:=50) ahX{t:TE}{f:En->Option (D×En)}[A:SM K n t f]:ST K n (Bl t) (BM f):=⟨λ{σ hv H U Z ρ' τv τd b Q} I h k=>by
 obtain⟨⟨d,ρ1⟩,h1,h2⟩:=af.mp h;refine A.s I h1 λv H1 U1 I1 bH=> ?_
 split at h2
 ·next b' e=>
  have e:d= .sc (.bl b'):=e;subst e;cases h2;exact⟨b,I1.last.dm,k H1 U1 I1.uf bH⟩
 ·cases h2⟩
noncomputable def jr (a b:En->Option Bool) (Z:En):Option Bool:=(a Z).bind λx=>if x=true then b Z else some false
noncomputable def p6 (a b:En->Option Bool) (Z:En):Option Bool:=(a Z).bind λx=>if x=true then some true else b Z
instance ahY[A:kU K n t f][B':kU K n u g]:kU K n (Eh t u) (jr f g):=⟨λ{σ hv H U Z τv τd b Q} I h k=>by
 obtain⟨x,h1,h2⟩:=af.mp h;refine A.s I h1 λH1 s1=> ?_;cases x with
 |true=>rw[if_pos rfl];exact B'.s (I.same s1) h2 λH2 s2=>k H2 (s1.trans s2)
 |false=>cases h2;rw[if_neg jA];exact k H1 s1⟩
instance ahZ[A:kU K n t f][B':kU K n u g]:kU K n (Ei t u) (p6 f g):=⟨λ{σ hv H U Z τv τd b Q} I h k=>by
 obtain⟨x,h1,h2⟩:=af.mp h;refine A.s I h1 λH1 s1=> ?_;cases x with
 |true=>cases h2;rw[if_pos rfl];exact k H1 s1
 |false=>rw[if_neg jA];exact B'.s (I.same s1) h2 λH2 s2=>k H2 (s1.trans s2)⟩
instance ah0[A:kU K n t f]:kU K n (Mb t) (λZ=>(f Z).map (!·)):=⟨λ{σ hv H U Z τv τd b Q} I h k=>by
 obtain⟨x,h1,h2⟩:=bg.mp h;cases h2;exact A.s I h1 λH1 s1=>k H1 s1⟩
noncomputable def andM (a b:En->Option (Bool×En)) (Z:En):Option (Bool×En):=(a Z).bind λx=>if x.1=true then b x.2 else some (false,x.2)
noncomputable def orM (a b:En->Option (Bool×En)) (Z:En):Option (Bool×En):=(a Z).bind λx=>if x.1=true then some (true,x.2) else b x.2
instance (priority:=50) ah1{t u:TT}{f g:En->Option (Bool×En)}[A:ST K n t f][B':ST K n u g]:ST K n (Eh t u) (andM f g):=⟨λ{σ hv H U Z ρ' τv τd b Q} I h k=>by
 obtain⟨⟨x,ρ1⟩,h1,h2⟩:=af.mp h;refine A.s I h1 λH1 U1 I1 s1=> ?_;cases x with
 |true=>rw[if_pos rfl];exact B'.s I1 h2 λH2 U2 I2 s2=>k H2 U2 I2 (s1.trans s2)
 |false=>cases h2;rw[if_neg jA];exact k H1 U1 I1 s1⟩
instance (priority:=50) ah2{t u:TT}{f g:En->Option (Bool×En)}[A:ST K n t f][B':ST K n u g]:ST K n (Ei t u) (orM f g):=⟨λ{σ hv H U Z ρ' τv τd b Q} I h k=>by
 obtain⟨⟨x,ρ1⟩,h1,h2⟩:=af.mp h;refine A.s I h1 λH1 U1 I1 s1=> ?_;cases x with
 |true=>cases h2;rw[if_pos rfl];exact k H1 U1 I1 s1
 |false=>rw[if_neg jA];exact B'.s I1 h2 λH2 U2 I2 s2=>k H2 U2 I2 (s1.trans s2)⟩
instance ah3[A:SV K n ta fa][B':SV K n tb fb]:SV K n (Me ta tb) (λZ=>(fa Z).bind fun | .sc (.bl true)=>fb Z | .sc (.bl false)=>some (.sc (.bl false)) | _=>none):=⟨λ{σ hv H U Z τv τd d Q} I h k=>by
 obtain⟨x,h1,h2⟩:=af.mp h;refine A.s I h1 λv H1 s1 w1=> ?_
 split at h2
 ·exact⟨true,w1.dm,by rw[if_pos rfl];exact B'.s (I.same s1) h2 λv H2 s2 w=>k v H2 (s1.trans s2) w⟩
 ·cases h2;exact⟨false,w1.dm,by rw[if_neg jA];exact k _ H1 s1 (.sc _)⟩
 ·cases h2⟩
instance ah4[A:SV K n ta fa]:SV K n (Ej ta) (λZ=>(fa Z).bind fun | .sc (.bl b)=>some (.sc (.bl (!b))) | _=>none):=⟨λ{σ hv H U Z τv τd d Q} I h k=>by
 obtain⟨x,h1,h2⟩:=af.mp h;refine A.s I h1 λv H1 s1 w1=> ?_
 split at h2
 ·next b=>cases h2;exact⟨b,w1.dm,k _ H1 s1 (.sc _)⟩
 ·cases h2⟩
noncomputable def p7 (c:En->Option Bool) (a b:En->Option D) (Z:En):Option D:=(c Z).bind λx=>if x=true then a Z else b Z
instance ah5[C:kU K n c fc][A:SV K n ta fa][B':SV K n tb fb]:SV K n (Ek c ta tb) (p7 fc fa fb):=⟨λ{σ hv H U Z τv τd d Q} I h k=>by
 obtain⟨x,h1,h2⟩:=af.mp h;refine C.s I h1 λH1 s1=> ?_;cases x with
 |true=>rw[if_pos rfl];exact A.s (I.same s1) h2 λv H2 s2 w=>k v H2 (s1.trans s2) w
 |false=>rw[if_neg jA];exact B'.s (I.same s1) h2 λv H2 s2 w=>k v H2 (s1.trans s2) w⟩
end
noncomputable def de (f:Str):List Str->Option Nat
 | []=>none
 |g::r=>if f == g then some 0 else(de f r).map (· + 1)
theorem FD:∀{ns:List Str} {vs:List V} {i:Nat},de f ns=some i->ns.length=vs.length->(ns.zip vs).lookup f=vs[i]?
 | [],_,_,h,_=>by cases h
 |g::r, [],_,_,h=>by cases h
 |g::r,v::vs,i,h,hl=>by
  rw[de]at h;rw[qu,mB];by_cases c:(f == g)=true
  ·rw[if_pos c]at h;cases h;rw[c];rfl
  ·rw[if_neg c]at h;obtain⟨j,h1,h2⟩:=bg.mp h;subst h2;rw[agV]at c;rw[c];exact FD h1 (fU hl)
theorem N4:∀{ns:List Str} {i:Nat},de f ns=some i->i < ns.length
 | [],_,h=>by cases h
 |g::r,i,h=>by
  rw[de]at h;by_cases c:(f == g)=true
  ·rw[if_pos c]at h;cases h;exact LJ _
  ·rw[if_neg c]at h;obtain⟨j,h1,h2⟩:=bg.mp h;subst h2;exact UA (N4 h1)
theorem BN:∀{ns:List Str} {i:Nat},de f ns=some i->f∈ns
 | [],_,h=>by cases h
 |g::r,i,h=>by
  rw[de]at h;by_cases c:(f == g)=true
  ·have:f=g:=by simpa using c
   rw[this];exact .head _
  ·rw[if_neg c]at h;obtain⟨j,h1,_⟩:=bg.mp h;exact .tail _ (BN h1)
theorem N5:∀{ns:List Str} {vs:List V} {i:Nat},de f ns=some i->ns.length=vs.length->jE f y (ns.zip vs)=ns.zip (vs.set i y)
 | [],_,_,h,_=>by cases h
 |g::r, [],_,_,h=>by cases h
 |g::r,v::vs,i,h,hl=>by
  rw[de]at h;rw[qu,jE];by_cases c:(f == g)=true
  ·have e:g=f:=by have:f=g:=(by simpa using c);exact this.symm
   rw[if_pos c]at h;cases h;rw[if_pos e];rfl
  ·have ne:¬ g=f:=λz=>c (by rw[z];simp);rw[if_neg c]at h;obtain⟨j,h1,h2⟩:=bg.mp h;subst h2;rw[if_neg ne,N5 h1 (fU hl)];rfl
theorem N6:∀{ns:List Str} {vs:List V},de f ns=none->ns.length=vs.length->jE f y (ns.zip vs)=(ns++ [f]).zip (vs++ [y])
 | [], [],_,_=>rfl
 | [],_::_,_,h=>by cases h
 |g::r, [],_,h=>by cases h
 |g::r,v::vs,h,hl=>by
  rw[de]at h;rw[qu,jE];by_cases c:(f == g)=true
  ·rw[if_pos c]at h;cases h
  ·have ne:¬ g=f:=λz=>c (by rw[z];simp);rw[if_neg c]at h;rw[if_neg ne,N6 (agW.mp h) (fU hl)];rfl
section
def fQ(f:Str):D->Option Nat
 |.nd (.obj _ ns) _=>de f ns
 |_=>none
noncomputable def aU:D->Nat->Option D
 |.nd _ cs,i=>cs[i]?
 |_,_=>none
def b7(f:Str)(d:D):Option D:=(fQ f d).bind (aU d)
instance ah6[A:SV K n ta fa]:SV K n (yk K ta f) (λZ=>(fa Z).bind (b7 f)):=⟨λ{σ hv H U Z τv τd d Q} I h k=>by
 obtain⟨x,h1,h2⟩:=af.mp h;obtain⟨i,h3,h4⟩:=af.mp h2;refine A.s I h1 λv H1 s1 w1=> ?_;unfold fQ at h3
 split at h3
 ·next C ns cs=>
  obtain⟨a,vs,rfl,_,⟨⟨hl,hC,hA⟩,dx,hc⟩,gV,dq⟩:=w1.node;have h4:cs[i]?=some d:=h4;obtain⟨u,hu⟩:=oN gV h4;exact⟨a,C,dx,_,u,rfl,hc,hC,hA f (BN h3),(FD h3 hl).trans hu,k u H1 s1 (dq i u d hu h4)⟩
 ·cases h3⟩
def iy(Z:En)(q:Pl)(i:Nat):Option Pl:=(b6 Z q).bind λd=>(aU d i).bind λc=>match q with
 |.rt r p=>if plain d=true then some (.ro c) else some (.rt r (p++ [i]))
 |.ro _=>some (.ro c)
theorem N7:∀{p:List Nat} {d d1:D} {i:Nat},ag d p=some d1->ag d (p++ [i])=ag d1 [i]
 | [],d,d1,i,g=>by cases g;rfl
 |n::p, .sc _,d1,i,g=>by rw[ag]at g;cases g
 |n::p, .hl _,d1,i,g=>by rw[ag]at g;cases g
 |n::p, .nd k cs,d1,i,g=>by
  rw[ag]at g;rw[agX,ag];by_cases dM:dk k=true/\aK cs=true
  ·rw[if_pos dM]at g;cases g
  rw[if_neg dM]at g |-;cases hc:cs[n]? with
  |none=>rw[hc]at g;cases g
  |some c=>rw[hc]at g;exact N7 g
theorem hU.app(h:hU H v p u)(h2:hU H u q w):hU H v (p++q) w:=by
 induction h with
 |nil=>exact h2
 |cons e1 e2 _ ih=>exact .cons e1 e2 (ih h2)
theorem FE(h:¬ plain (.nd k cs)=true):¬ (dk k=true/\aK cs=true):=λ⟨a,b⟩=>by
 cases k with
 |tup=>exact h b
 |eT=>exact h b
 |_=>cases a
theorem aB.dq(I:aB K n H U σ hv Z τv τd)(h:ik K H U (σ++hv) Z v q)(hq:iy Z q i=some q'):
  ∃(a:Addr) (k:Kd) (vs:List V) (cs:List D) (u:V) (c:D),v= .ref a/\b6 Z q=some (.nd k cs)/\jb K H a k vs/\vs.length=cs.length/\vs[i]?=some u/\cs[i]?=some c/\ik K H U (σ++hv) Z u q'/\b6 Z q'=some c:=by
 obtain⟨d,h1,h2⟩:=af.mp hq;obtain⟨c,h3,h4⟩:=af.mp h2;cases d with
 |sc _=>cases h3
 |hl _=>cases h3
 |nd k cs=>
  have h3:cs[i]?=some c:=h3;cases q with
  |ro d'=>
   cases h4;cases h1;obtain⟨a,vs,rfl,_,hc,hl,dq⟩:=Vw.node (show Vw K H (λb=>¬ U b) v (.nd k cs) from h);obtain⟨u,hu⟩:=oN hl h3;exact⟨a,k,vs,cs,u,c,rfl,rfl,hc,hl,hu,h3,dq i u c hu h3,rfl⟩
  |rt r p=>
   have h4:(if plain (.nd k cs)=true then some (Pl.ro c) else some (.rt r (p++ [i])))=some q':=h4;by_cases pd:plain (.nd k cs)=true
   ·rw[if_pos pd]at h4;cases h4;obtain⟨a,vs,rfl,_,hc,hl,dq⟩:=(I.at h h1).node;obtain⟨u,hu⟩:=oN hl h3;have pc:plain c=true:=by
     cases k with
     |tup=>exact oK pd h3
     |eT=>exact oK pd h3
     |_=>cases pd
    exact⟨a,k,vs,cs,u,c,rfl,h1,hc,hl,hu,h3,((dq i u c hu h3).plain pc).view λ_ z=>z.elim,rfl⟩
   ·rw[if_neg pd]at h4;cases h4;obtain⟨hr,vr,d0,er,qT,hg,hp⟩:=h;have ui:(ai Z r).bind (ag · p)=some (.nd k cs):=h1;rw[qT]at ui;have ui:ag d0 p=some (.nd k cs):=ui;have g2:ag d0 (p++ [i])=some c:=by
     rw[N7 ui,ag,if_neg (FE pd),h3];rfl
    obtain⟨ah7,F,ev,_,rp⟩:=I.yD qT;rw[er]at ev;cases ev;obtain⟨F1,_,r1,_⟩:=rp.focus hp ui;obtain⟨a,vs,rfl,ho,hl,Fs,_,_,dq⟩:=r1.node;obtain⟨u,hu⟩:=oN hl h3;have Yk:∃o,H a=some o:=by
     cases k with
     |tup=>exact⟨_,ho⟩
     |eT=>exact absurd ⟨rfl,ho.1⟩ (FE pd)
     |_=>obtain⟨_,_,_,dx,x⟩:=ho;exact⟨_,x⟩
    obtain⟨o,eo⟩:=Yk;have pX:hU H vr (p++ [i]) u:=hp.app (.cons eo (by rw[ho.kids (FE pd) eo];exact hu) (.nil u));exact⟨a,k,vs,cs,u,c,rfl,h1,ho.cell,hl,hu,h3,⟨hr,vr,d0,er,qT,by rw[g2];rfl,pX⟩,by show(ai Z r).bind (ag · (p++ [i]))=some c;rw[qT];exact g2⟩
def so(f:Str)(fa:En->Option Pl)(Z:En):Option Pl:=(fa Z).bind λq=>(b6 Z q).bind λd=>(fQ f d).bind (iy Z q)
instance ah8[A:SP K n ta fa]:SP K n (yk K ta f) (so f fa):=⟨λ{σ hv H U Z τv τd q' Q} I h k=>by
 obtain⟨q,h1,h⟩:=af.mp h;obtain⟨d,h2,h⟩:=af.mp h;obtain⟨i,h3,h4⟩:=af.mp h;refine A.s I h1 λv H1 s1 w1=> ?_;obtain⟨a,kk,vs,cs,u,c,rfl,e1,hc,hl,hu,h5,ok,_⟩:=(I.same s1).dq w1 h4;rw[h2]at e1;cases e1;unfold fQ at h3
 split at h3
 ·next C ns gX e=>
  cases e;obtain⟨⟨gV,hC,hA⟩,dx,hc⟩:=hc;exact⟨a,C,dx,_,u,rfl,hc,hC,hA f (BN h3),(FD h3 gV).trans hu,k u H1 s1 ok⟩
 ·cases h3⟩
def dC(d i:D):Option Nat:=match d,i with
 |.nd .tup cs, .sc (.int j)=>d7 cs.length j
 |.nd .lst cs, .sc (.int j)=>d7 cs.length j
 |.nd .eT cs, .sc (.int j)=>d7 cs.length j
 |_,_=>none
class uj(K:aj)(r:R2)(g:outParam (D->D->Option Nat))(gs:outParam (V->D->Option V)):Prop where
 t:∀{H:Hp} {x y w:V} {dy:D} {Q:VK},Vw K H T1 y dy->gs x dy=some w->Q w H->r x y H Q
 s:∀{H:Hp} {a:Addr} {k:Kd} {vs:List V} {cs:List D} {y u:V} {dy:D} {i:Nat} {Q:VK},jb K H a k vs->vs.length=cs.length->Vw K H T1 y dy->g (.nd k cs) dy=some i->vs[i]?=some u->Q u H->r (.ref a) y H Q
def bf(g:D->D->Option Nat)(gs:V->D->Option V)(a b:D):Option D:=match a with
 |.sc x=>(gs x b).map .sc
 |a=>(g a b).bind (aU a)
instance (priority:=900) ah9{r:R2}{ta tb:TE}{fa fb:En->Option D}{g:D->D->Option Nat}{gs:V->D->Option V}[A:SV K n ta fa][B':SV K n tb fb][O:uj K r g gs]:SV K n (kN r ta tb) (aw (bf g gs) fa fb):=⟨λ{σ hv H U Z τv τd d Q} I h k=>by
 obtain⟨a,ha,h⟩:=af.mp h;obtain⟨b,hb,h⟩:=af.mp h;refine A.s I ha λx H1 s1 w1=> ?_;refine B'.s (I.same s1) hb λy H2 s2 w2=> ?_;cases a with
 |sc z=>
  obtain⟨w,h1,h2⟩:=bg.mp h;subst h2;rw[w1.dm];exact O.t w2 h1 (k w H2 (s1.trans s2) (.sc w))
 |hl _=>
  obtain⟨i,hi,h⟩:=af.mp h;cases h
 |nd kk cs=>
  obtain⟨i,hi,h⟩:=af.mp h;have h:cs[i]?=some d:=h;obtain⟨a,vs,rfl,_,hc,hl,dq⟩:=(w1.same s2).node;obtain⟨u,hu⟩:=oN hl h;exact O.s hc hl w2 hi hu (k u H2 (s1.trans s2) (dq i u d hu h))⟩
def eO(g:D->D->Option Nat)(fa:En->Option Pl)(fb:En->Option D)(Z:En):Option Pl:=(fa Z).bind λq=>(fb Z).bind λb=>(b6 Z q).bind λd=>(g d b).bind (iy Z q)
theorem ik.same(h:ik K H U e Z v q)(s:aP H H'):ik K H' U e Z v q:=by
 cases q with
 |ro d=>exact Vw.same h s
 |rt r p=>
  obtain⟨a,vr,d,b,c,e,f⟩:=h;exact⟨a,vr,d,b,c,e,f.same s⟩
instance aia[A:SP K n ta fa][B':SV K n tb fb][O:uj K r g gs]:SP K n (kN r ta tb) (eO g fa fb):=⟨λ{σ hv H U Z τv τd q' Q} I h k=>by
 obtain⟨q,ha,h⟩:=af.mp h;obtain⟨b,hb,h⟩:=af.mp h;obtain⟨d,hd,h⟩:=af.mp h;obtain⟨i,hi,h⟩:=af.mp h;refine A.s I ha λx H1 s1 w1=> ?_;refine B'.s (I.same s1) hb λy H2 s2 w2=> ?_;obtain⟨a,kk,vs,cs,u,c,rfl,e1,hc,hl,hu,h5,ok,_⟩:=((I.same s1).same s2).dq (w1.same s2) h;rw[hd]at e1;cases e1;exact O.s hc hl w2 hi hu (k u H2 (s1.trans s2) ok)⟩
def bx(x:V)(i:D):Option V:=match x,i with
 |.str z, .sc (.int j)=>if z.length<=aM then(se z.cps.toList j).map λc=> .str ⟨#[c]⟩ else none
 |_,_=>none
theorem Yl(h:d7 m j=some i):i < m:=by
 unfold d7 at h
 split at h
 ·split at h
  ·cases h;lia
  ·cases h
 ·split at h
  ·cases h;lia
  ·cases h
instance N8:uj K (ET K) dC bx where
 t:=λ{H x y w dy Q} w2 h q=>by
  unfold bx at h
  split at h
  ·next z j=>
   by_cases c:z.length<=aM
   ·rw[if_pos c]at h;obtain⟨ch,h1,h2⟩:=bg.mp h;subst h2;rw[w2.dm];exact .inr (.inr ⟨z,j,ch,rfl,rfl,c,h1,q⟩)
   ·rw[if_neg c]at h;cases h
  ·cases h
 s:=λ{H a k vs cs y u dy i Q} hc hl w2 h hu q=>by
  unfold dC at h;have at_:∀j,d7 cs.length j=some i->se vs j=some u:=λj e=>by
   unfold se;rw[hl,e];exact hu
  split at h
  ·next gX j e=>
   cases e;rw[w2.dm];exact .inr (.inl ⟨a,vs,j,u,rfl,rfl,cP.of hc.2,at_ j h,q⟩)
  ·next gX j e=>
   cases e;rw[w2.dm];exact .inl ⟨a,vs,j,u,rfl,rfl, .inl (.inl hc.2),at_ j h,q⟩
  ·next gX j e=>
   cases e;rw[w2.dm];exact .inl ⟨a,vs,j,u,rfl,rfl,hc.2.sq,at_ j h,q⟩
  ·cases h
class SQ(K:aj)(n:Nat)(t:TE)(f:outParam (En->Option D)):Prop where
 o:∀{σ hv:List (Option V)} {H:Hp} {U:Addr->Prop} {Z:En} {τv:List V} {τd:List D} {d:D} {Q:VK},aB K n H U σ hv Z τv τd->f Z=some d->(∀v H',aP H H'->eX K H H' v d->Q v H')->t σ H Q
theorem SQ.s[S:SQ K n t f](I:aB K n H U σ hv Z τv τd)(h:f Z=some d)(k:∀v H' U',aB K n H' U' σ hv Z (τv++ [v]) (τd++ [d])->b5 U H U' H'->aP H H'->Q v H'):t σ H Q:=
 S.o I h λv H' s o=>by
  obtain⟨U',I',st⟩:=I.push s o;exact k v H' U' I' st s
instance (priority:=200) aib{t:TE}{f:En->Option D}[S:SF K n t f]:SQ K n t f:=⟨λI h k=>S.s I h k⟩
def dE(f:En->Option D)(Z:En):Option D:=(f Z).bind λd=>if plain d=true then some d else none
instance (priority:=100) aic{t:TE}{f:En->Option D}[S:SV K n t f]:SQ K n t (dE f):=⟨λ{σ hv H U Z τv τd d Q} I h k=>by
 obtain⟨d',h1,h2⟩:=af.mp h;by_cases p:plain d'=true
 ·rw[if_pos p]at h2;cases h2;exact S.s I h1 λv H' s w=>k v H' s (eX.plain w p)
 ·rw[if_neg p]at h2;cases h2⟩
def cq(Z:En)(r:Nat)(p:List Nat):Option (D×Kd×List D):=(ai Z r).bind λd0=>(ag d0 p).bind λ
 |.nd k cs=>some (d0,k,cs)
 |_=>none
theorem qU(h:cq Z r p=some (d0,k,cs)):ai Z r=some d0/\ag d0 p=some (.nd k cs):=by
 obtain⟨x,h1,h2⟩:=af.mp h;obtain⟨y,h3,h4⟩:=af.mp h2;cases y with
 |sc _=>cases h4
 |hl _=>cases h4
 |nd k' gX=>cases h4;exact⟨h1,h3⟩
open Classical in
noncomputable def lB (K:aj) (f:Str) (k:Kd) (cs:List D) (d:D):Option D:=match k with
 |.obj C ns=>if cs.length < 1000 then(match de f ns with
  |some i=>some (.nd (.obj C ns) (cs.set i d))
  |none=>if iU K C f then some (.nd (.obj C (ns++ [f])) (cs++ [d])) else none) else none
 |_=>none
def lW(K:aj)(f:Str)(fv:En->Option (D×En))(fp:En->Option Pl)(Z:En):Option Fl:=(fv Z).bind λa=>(fp a.2).bind λ
 |.rt r p=>(cq a.2 r p).bind λz=>(lB K f z.2.1 z.2.2 a.1).map λd'=> .nx (cm a.2 r z.1 p d')
 |.ro _=>none
theorem sr{α:Type}{xs:List α}{x:α}{i:Nat}(hi:i < xs.length):∀(j:Nat) (y:α),(xs.set i x)[j]?=some y->(xs++ [x])[if j=i then xs.length else j]?=some y:=λj y h=>by
 by_cases c:j=i
 ·subst c;rw[eY hi]at h;rw[if_pos rfl,bK (bX _),lN];exact h
 ·rw[gm (jO c)]at h;rw[if_neg c,br (bW.mp h).1];exact h
theorem BO{i m:Nat}(hi:i < m):∀a b,a < m->b < m->(if a=i then m else a)=(if b=i then m else b)->a=b:=λa b ha hb h=>by
 by_cases c1:a=i
 ·by_cases c2:b=i
  ·lia
  ·rw[if_pos c1,if_neg c2]at h;lia
 ·by_cases c2:b=i
  ·rw[if_neg c1,if_pos c2]at h;lia
  ·rw[if_neg c1,if_neg c2]at h;exact h
instance aid{ta tv:TE}{f:Str}{fv:En->Option (D×En)}{fp:En->Option Pl}[A:SM K n tv fv][P:SP K n ta fp]:SS K n (EA K ta tv f) (lW K f fv fp):=⟨λ{σ hv H U Z τv τd fl E} I h k=>by
 obtain⟨⟨d,ρ1⟩,h1,h⟩:=af.mp h;obtain⟨q,h2,h⟩:=af.mp h;cases q with
 |ro _=>cases h
 |rt r p=>
  obtain⟨⟨d0,kk,cs⟩,h3,h⟩:=af.mp h;obtain⟨d',h4,h⟩:=bg.mp h;subst h;obtain⟨hr,hg⟩:=qU h3;refine A.s I h1 λy H1 U1 I1 bH=> ?_;refine P.s I1 h2 λx H2 s2 w2=> ?_;have I2:=I1.same s2;have hV:b5 U1 H1 U1 H2:=λb o q nu=>⟨s2 b o q,nu⟩
  unfold lB at h4
  split at h4
  ·next C ns e=>
   have e:kk= .obj C ns:=e;subst e;by_cases c:cs.length < 1000
   ·rw[if_pos c]at h4;obtain⟨a,dx,vs,rfl,ha,hf,hl,_,ed⟩:=aB.edit (xs:= [y]) (ds:= [d]) I2 rfl w2 hr hg rfl;obtain⟨yG,hC,hA⟩:=hf
    split at h4
    ·next i e2=>
     cases h4;have hi:i < vs.length:=by rw[<- yG];exact N4 e2
     refine⟨a,C,dx,_,rfl,ha,hC,hA f (BN e2),by rw[pE];lia, ?_⟩;rw[N5 e2 yG];obtain⟨U3,I3,iT⟩:=ed (.obj C ns) (vs.set i y) (cs.set i d) (λj=>if j=i then vs.length else j) rfl ⟨by rw[cB];exact yG,hC,hA⟩ (by rw[cB,cB];exact hl)
      (λx z hx hz=>BO hi x z (by rw[cB]at hx;exact hx) (by rw[cB]at hz;exact hz)) (sr hi) (by rw[hl];exact sr (by lia))
     exact k σ _ U3 I3 (bH.trans (hV.trans iT))
    ·next e2=>
     by_cases cn:iU K C f
     ·rw[if_pos cn]at h4;cases h4;refine⟨a,C,dx,_,rfl,ha,hC,cn,by rw[pE];lia, ?_⟩;rw[N6 e2 yG];obtain⟨U3,I3,iT⟩:=ed (.obj C (ns++ [f])) (vs++ [y]) (cs++ [d]) id rfl ⟨by simp;exact yG,hC,λg hg=>by
       rcases kG.mp hg with z | z
       ·exact hA g z
       ·rw[gf.mp z];exact cn⟩ (by simp;exact hl) (λx z _ _ h=>h) (λj x h=>h) λj x h=>h
      exact k σ _ U3 I3 (bH.trans (hV.trans iT))
     ·rw[if_neg cn]at h4;cases h4
   ·rw[if_neg c]at h4;cases h4
  ·cases h4⟩
def um(Z:En)(r:Nat)(p:List Nat)(g:List D->Option (List D)):Option En:=(cq Z r p).bind λz=>match z.2.1 with
 |.lst=>(g z.2.2).map λgX=>cm Z r z.1 p (.nd .lst gX)
 |_=>none
noncomputable def yH (d:D) (cs:List D):Option (List D):=if cs.length < aM then some (cs++ [d]) else none
def FG(fp:En->Option Pl)(fe:En->Option D)(Z:En):Option (D×En):=(fp Z).bind λ
 |.rt r p=>(fe Z).bind λd=>(um Z r p (yH d)).map λρ'=>(.sc .aE,ρ')
 |.ro _=>none
theorem FH(h:H p=some (.lst xs)):vT K "list" (.ref p) H:= .inl ⟨rfl,xs, .inl (.inl h)⟩
theorem aB.append{Q:VK}(I:aB K n H U σ hv Z (τv++ [y]) (τd++ [d]))(w:ik K H U (σ++hv) Z x (.rt r p))(h:um Z r p (yH d)=some ay)
  (k:∀v H' U',aB K n H' U' σ hv ay (τv++ [v]) (τd++ [.sc .aE])->b5 U H U' H'->Q v H'):vT K "list" x H/\Bq x [y] H Q:=by
 obtain⟨⟨d0,kk,cs⟩,h3,h⟩:=af.mp h;obtain⟨hr,hg⟩:=qU h3
 split at h
 ·next e=>
  have e:kk= .lst:=e;subst e;obtain⟨gX,h4,h⟩:=bg.mp h;subst h;unfold yH at h4;have h4:(if cs.length < aM then some (cs++ [d]) else none)=some gX:=h4;by_cases c:cs.length < aM
  ·rw[if_pos c]at h4;cases h4;obtain⟨a,dx,vs,rfl,ha,hf,hl,_,ed⟩:=aB.edit (xs:= [y]) (ds:= [d]) I rfl w hr hg rfl;obtain⟨U3,I3,iT⟩:=ed .lst (vs++ [y]) (cs++ [d]) id rfl trivial (by simp;exact hl) (λx z _ _ h=>h) (λj x h=>h) λj x h=>h;obtain⟨U4,I4,hZ⟩:=I3.push (aP.refl _) (eX.sc (K:=K) .aE);exact⟨FH ha,a,vs,y,rfl,rfl,ha,by lia,k _ _ U4 I4 (iT.trans hZ)⟩
  ·rw[if_neg c]at h4;cases h4
 ·cases h
theorem ik.root(h:ik K H U e Z v (.rt r []))(hd:ai ay r=some d):ik K H' U' e ay v (.rt r []):=by
 obtain⟨_,vr,d0,er,_,_,hp⟩:=h;cases hp;exact⟨(bW.mp (lU hd)).1,v,d,er,hd,rfl, .nil v⟩
instance (priority:=600) aie{to te:TE}{fp:En->Option Pl}{fe:En->Option D}[P:SP K n to fp][A:SQ K n te fe]:SM K n (EX K "list" Bq to (e9 te gU)) (FG fp fe):=⟨λ{σ hv H U Z ρ' τv τd d Q} I h k=>by
 obtain⟨q,h1,h⟩:=af.mp h;cases q with
 |ro _=>cases h
 |rt r p=>
  obtain⟨d1,h2,h⟩:=af.mp h;obtain⟨ay,h3,h⟩:=bg.mp h;cases h;refine P.s I h1 λx H1 s1 w1=> ?_;have I1:=I.same s1;have hV:b5 U H U H1:=λb o q nu=>⟨s1 b o q,nu⟩
  -- fO kind of aif it is,ahead of mG argument
  obtain⟨⟨d0,kk,cs⟩,h4,h5⟩:=af.mp h3;obtain⟨hr,hg⟩:=qU h4;have tX:vT K "list" x H1:=by
   split at h5
   ·next e=>
    have e:kk= .lst:=e;subst e;obtain⟨a,vs,rfl,_,hc,_,_⟩:=(I1.at (q:= .rt r p) (d:= .nd .lst cs) w1 (by show(ai Z r).bind _=_;rw[hr];exact hg)).node;exact FH hc.2
   ·cases h5
  refine⟨tX,SQ.s (f:=fe) I1 h2 λy H2 U2 I2 cf s2=> ?_⟩;have w2:ik K H2 U2 (σ++hv) Z x (.rt r p):=by
   obtain⟨a,vr,d,b,c,e,f⟩:=w1;exact⟨a,vr,d,b,c,e,f.same s2⟩
  exact(I2.append w2 h3 λv H3 U3 I3 iT=>k v H3 U3 I3 (hV.trans (cf.trans iT))).2⟩
end
noncomputable def nI (n:Nat) (vs:List V):St:=vs.map some++gC (n - vs.length) none
section
variable {K:aj}{H H':Hp}{U U':Addr->Prop}{σ hv:List (Option V)}{τv vs:List V}{τd ds:List D}{v:V}{d:D}
def eU(K:aj)(m:Nat)(G:List D->Option D):Sp:=λvs H Q _=>∃(ds:List D) (d:D),ds.length=m/\dB K H T1 vs ds/\G ds=some d/\∀v H',aP H H'->eX K H H' v d->Q v H'
instance aih{m:Nat}[A:SA K n ta fa]:SF K n (tU (eU K m G) [] E ta) (λZ=>(fa Z).bind λds=>if ds.length=m then G ds else none):=⟨λ{σ hv H U Z τv τd d Q} I h k=>by
 obtain⟨ds,h1,h2⟩:=af.mp h;by_cases c:ds.length=m
 ·rw[if_pos c]at h2;refine A.s I h1 λvs H1 s1 w1=> ?_;show eU K m G (vs++ []) H1 Q E;rw[fE];exact⟨ds,d,c,w1,h2,λv H' s o=>k v H' (s1.trans s) (o.early s1)⟩
 ·rw[if_neg c]at h2;cases h2⟩
noncomputable def dN (n:Nat) (f:En->Option Fl) (ds:List D):Option D:=match f (ds.map (λd=>some (.ro d))++gC (n - ds.length) none) with
 |some (.rt d _)=>some d
 |some (.nx _)=>some (.sc .aE)
 |_=>none
theorem dB.get{N:Addr->Prop}(h:dB K H N vs ds){i:Nat}{d:D}(hd:ds[i]?=some d):∃v,vs[i]?=some v/\Vw K H N v d:=by
 obtain⟨v,hv⟩:=oN h.1 hd;exact⟨v,hv,h.2 i v d hv hd⟩
theorem FI{t:TS}{f:En->Option Fl}{m:Nat}{Q:VK}{X:XK}[S:SS K n t f](h:eU K m (dN n f) vs H Q X)(hm:m<=n):t { nx:=λ_ H'=>Q .aE H',rt:=Q } (nI n vs) H:=by
 obtain⟨ds,d,hd,w,hG,k⟩:=h;have hl:=w.1;have rp:∀(i:Nat) (β:B),(ds.map (λd=>some (B.ro d))++gC (n - ds.length) none)[i]?=some (some β)->∃d,ds[i]?=some d/\β= .ro d:=λi β h=>by
  by_cases hi:i < ds.length
  ·rw[br (by simpa using hi),dF]at h;cases q:ds[i]? with
   |none=>rw[q]at h;cases h
   |some x=>rw[q]at h;cases h;exact⟨x,rfl,rfl⟩
  ·rw[bK (by simp;lia),xP]at h
   split at h <;> cases h
 have I:aB K n H (λ_=>False) (nI n vs) [] (ds.map (λd=>some (.ro d))++gC (n - ds.length) none) [] []:=by
  refine⟨⟨by unfold nI;simp[hl],λb z=>z.elim,λ_ _=>False,λi j b z=>z.elim,λi b z=>z.elim,λi β aL=> ?_⟩,by unfold nI;simp[hl],by unfold nI;simp;lia⟩;rw[iZ,fE]at aL;obtain⟨x,hx,rfl⟩:=rp i β aL;obtain⟨v,hv,vw⟩:=w.get hx;refine⟨v, ?_,vw.mono λ_ _ z=>z⟩;rw[iZ,fE,fE];unfold nI;rw[br (by simpa using (bW.mp hv).1),dF,hv];rfl
 have dD:∀{ρ':En} {v:V} {aN:List (Option V)} {H':Hp} {U':Addr->Prop},aB K n H' U' aN [] ρ' [v] [d]->b5 (λ_=>False) H U' H'->Q v H':=λ{ρ' v aN H' U'} J st=>by
  refine k v H' (λb o q=>(st b o q λz=>z).1) ?_;obtain⟨_,mu,Fs,dj,sub,sl⟩:=J.ok;have l:=J.len;obtain⟨v',ev,sv⟩:=sl ρ'.length (.own d) (by simp);have:v'=v:=by
   rw[bK (by simp at l |-;lia)]at ev;simp at ev l;rw[show ρ'.length - aN.length=0 by lia]at ev;simp at ev;exact ev.symm
  subst this;refine⟨_,sv,λb z=>⟨?_,mu b (sub _ b z)⟩⟩;cases q:H b with
  |none=>rfl
  |some o=>exact absurd (sub _ b z) (st b o q λz=>z).2
 unfold dN at hG
 split at hG
 ·next d' ρ' e=>
  cases hG;exact S.s I e λv aN H' U' J st=>dD J st
 ·next ρ' e=>
  cases hG;refine S.s I e λaN H' U' J st=> ?_;obtain⟨U2,J2,cf⟩:=J.push (aP.refl H') (eX.sc (K:=K) .aE);exact dD J2 (st.trans cf)
 ·cases hG
noncomputable def aV {α:Type}:List Bool->List α->List α
 |true::m,x::r=>x::aV m r
 |false::m,_::r=>aV m r
 |_,_=> []
def cC(K:aj)(bB:List Bool)(G:List D->Option (D×List D)):Sp:=λvs H Q _=>vs.length=bB.length/\∃(ds:List D) (U:Addr->Prop) (d:D) (dH:List D),ds.length=bB.length/\cL K H U 0 ((aV bB vs).map some) (bc (aV bB ds))/\
 (∀(i:Nat) (v:V) (d:D),bB[i]?=some false->vs[i]?=some v->ds[i]?=some d->Vw K H (λb=>¬ U b) v d)/\G ds=some (d,dH)/\
 ∀v H' U',cL K H' U' 0 (some v::(aV bB vs).map some) (some (.own d)::bc dH)->b5 U H U' H'->Q v H'
noncomputable def bU (n:Nat):Nat->List Bool->List D->En
 |j,true::m,_::r=>some (.ak (n + j) [])::bU n (j + 1) m r
 |j,false::m,d::r=>some (.ro d)::bU n j m r
 |_,_,_=> []
noncomputable def cg:En->Option (List D)
 | []=>some []
 |some (.own d)::r=>(cg r).map (d:: ·)
 |_=>none
theorem N9:∀{Z:En} {ds:List D},cg Z=some ds->Z=bc ds
 | [],ds,h=>by cases h;rfl
 |some (.own d)::r,ds,h=>by
  rw[cg]at h;obtain⟨x,h1,h2⟩:=bg.mp h;subst h2;rw[N9 h1];rfl
 |none::r,ds,h=>by simp[cg]at h
 |some (.ro d)::r,ds,h=>by simp[cg]at h
 |some (.ak _ _)::r,ds,h=>by simp[cg]at h
def bM(n:Nat)(bB:List Bool)(ds:List D):En:=bU n 0 bB ds++gC (n - bB.length) none++bc (aV bB ds)
def bp(n:Nat)(bB:List Bool)(f:En->Option Fl)(ds:List D):Option (D×List D):=match f (bM n bB ds) with
 |some (.rt d ρ')=>(cg (ρ'.drop n)).map λo=>(d,o)
 |some (.nx ρ')=>(cg (ρ'.drop n)).map λo=>(.sc .aE,o)
 |_=>none
theorem FJ(n:Nat):∀(j:Nat) {bB:List Bool} {ds:List D},ds.length=bB.length->(bU n j bB ds).length=bB.length
 |j, [], [],_=>rfl
 |j, [],_::_,h=>by cases h
 |j,_::_, [],h=>by cases h
 |j,true::m,_::r,h=>by rw[bU,gc,FJ n (j + 1) (fU h)];rfl
 |j,false::m,_::r,h=>by rw[bU,gc,FJ n j (fU h)];rfl
theorem BP{α β:Type}:∀{bB:List Bool} {xs:List α} {ys:List β},xs.length=bB.length->ys.length=bB.length->(aV bB xs).length=(aV bB ys).length
 | [], [], [],_,_=>rfl
 | [],_::_,_,h,_=>by cases h
 | [],_,_::_,_,h=>by cases h
 |_::_, [],_,h,_=>by cases h
 |_::_,_, [],_,h=>by cases h
 |true::m,x::xs,y::ys,h,h'=>by rw[aV,aV,gc,gc,BP (fU h) (fU h')]
 |false::m,x::xs,y::ys,h,h'=>by rw[aV,aV,BP (fU h) (fU h')]
theorem FK(n:Nat):∀(j:Nat) {bB:List Bool} {ds:List D} {vs:List V} {i:Nat} {β:B},ds.length=bB.length->vs.length=bB.length->(bU n j bB ds)[i]?=some (some β)->
  (∃d,β= .ro d/\bB[i]?=some false/\ds[i]?=some d)\/∃j' v,β= .ak (n + j') []/\j<=j'/\(aV bB vs)[j' - j]?=some v/\vs[i]?=some v
 |j, [],_,_,_,_,_,_,h=>by simp[bU]at h
 |j,_::_, [],_,_,_,h,_,_=>by cases h
 |j,_::_,_, [],_,_,_,h,_=>by cases h
 |j,true::m,d::ds,v::vs,0,β,h1,h2,h=>by
  rw[bU]at h;cases h;exact .inr ⟨j,v,rfl,bX _,by rw[lN,aV];rfl,rfl⟩
 |j,true::m,d::ds,v::vs,i + 1,β,h1,h2,h=>by
  rw[bU]at h;rcases FK n (j + 1) (bB:=m) (ds:=ds) (vs:=vs) (i:=i) (fU h1) (fU h2) (by simpa using h) with⟨x,a,b,c⟩ | ⟨j',x,a,b,c,e⟩
  ·exact .inl ⟨x,a,by simpa using b,by simpa using c⟩
  ·refine .inr ⟨j',x,a,by lia, ?_,by simpa using e⟩;rw[aV,show j' - j=(j' - (j + 1)) + 1 by lia];simpa using c
 |j,false::m,d::ds,v::vs,0,β,h1,h2,h=>by
  rw[bU]at h;cases h;exact .inl ⟨d,rfl,rfl,rfl⟩
 |j,false::m,d::ds,v::vs,i + 1,β,h1,h2,h=>by
  rw[bU]at h;rcases FK n j (bB:=m) (ds:=ds) (vs:=vs) (i:=i) (fU h1) (fU h2) (by simpa using h) with⟨x,a,b,c⟩ | ⟨j',x,a,b,c,e⟩
  ·exact .inl ⟨x,a,by simpa using b,by simpa using c⟩
  ·exact .inr ⟨j',x,a,b,by rw[aV];exact c,by simpa using e⟩
theorem cL.tail(h:cL K H U m (e++t) (Z++τ))(hl:e.length=Z.length)(v7:yA τ):∃Ut:Addr->Prop,(∀b,Ut b->U b)/\cL K H Ut 0 t τ:=by
 obtain⟨cU,mu,Fs,dj,sub,sl⟩:=h;rw[cc,cc]at cU;refine⟨λb=>∃i,e.length<=i/\Fs i b,λb ⟨i,_,z⟩=>sub i b z,⟨by lia,λb ⟨i,_,z⟩=>mu b (sub i b z),λi=>Fs (e.length + i),λi j b hi hj=>by have:=dj _ _ b hi hj;lia,λi b hb=>⟨_,by lia,hb⟩,λi β aL=> ?_⟩⟩;have ud:(Z++τ)[e.length + i]?=some (some β):=by
  rw[hl,bK (by lia),show Z.length + i - Z.length=i by lia];exact aL
 obtain⟨v,ev,sv⟩:=sl _ _ ud;rw[bK (by lia),show e.length + i - e.length=i by lia]at ev;refine⟨v,ev, ?_⟩;cases β with
 |own d=>exact sv
 |ro d=>exact Vw.mono sv λb nb ⟨j,_,z⟩=>nb (sub j b z)
 |ak r p=>exact absurd rfl (v7 _ (gH aL) r p)
theorem cL.pick{dU:List V}{nJ:List D}(h:cL K H U 0 (vs.map some) (bc ds))(hl:dU.length=nJ.length)(π:Nat->Nat)(inj:∀i j,i < dU.length->j < dU.length->π i=π j->i=j)
  (hv:∀(i:Nat) (x:V),dU[i]?=some x->vs[π i]?=some x) (hd:∀(i:Nat) (x:D),nJ[i]?=some x->ds[π i]?=some x):cL K H U 0 (dU.map some) (bc nJ):=by
 obtain⟨cU,mu,Fs,dj,sub,sl⟩:=h;refine⟨by unfold bc;rw[eS,eS];exact hl,mu,λi b=>i < dU.length/\Fs (π i) b,λi j b hi hj=>inj i j hi.1 hj.1 (dj _ _ b hi.2 hj.2),λi b hb=>sub _ b hb.2,λi β aL=> ?_⟩;unfold bc at aL;rw[dF]at aL;cases q:nJ[i]? with
 |none=>rw[q]at aL;cases aL
 |some x=>
  rw[q]at aL;cases aL;obtain⟨u,hu⟩:=oN hl q;obtain⟨v,ev,sv⟩:=sl (π i) (.own x) (by unfold bc;rw[dF,hd i x q];rfl);rw[dF,hv i u hu]at ev;cases ev;exact⟨u,by rw[dF,hu];rfl,bj.mono sv λb z=>⟨(bW.mp hu).1,z⟩⟩
theorem Oa{α:Type}{xs:List α}{x:α}:∀(i:Nat) (y:α),(x::xs)[i]?=some y->(xs++ [x])[if i=0 then xs.length else i - 1]?=some y:=λi y h=>by
 cases i with
 |zero=>simp at h |-;exact h
 |succ i=>
  have h:xs[i]?=some y:=by simpa using h
  rw[if_neg (Nat.succ_ne_zero i),UB,br (bW.mp h).1];exact h
theorem cL.Ym(h:cL K H U 0 ((vs++ [v]).map some) (bc (ds++ [d]))):cL K H U 0 ((v::vs).map some) (bc (d::ds)):=by
 have hl:vs.length=ds.length:=by have:=h.len;unfold bc at this;simp at this;lia
 refine h.pick (by simp[hl]) (λi=>if i=0 then vs.length else i - 1) (λi j hi hj q=> ?_) Oa (by rw[hl];exact Oa);rw[gc]at hi hj;by_cases c1:i=0
 ·by_cases c2:j=0
  ·lia
  ·simp only[if_pos c1,if_neg c2]at q;lia
 ·by_cases c2:j=0
  ·simp only[if_neg c1,if_pos c2]at q;lia
  ·simp only[if_neg c1,if_neg c2]at q;lia
theorem Yn{t:TS}[S:SS K n t f](h:cC K bB (bp n bB f) vs H Q X)(hm:bB.length<=n):t { nx:=λ_ H'=>Q .aE H',rt:=Q } (nI n vs) H:=by
 obtain⟨hv,ds,U,d,dH,hd,ok,vw,hG,k⟩:=h;have l1:=FJ n 0 (bB:=bB) (ds:=ds) hd;have l2:=BP (bB:=bB) hv hd;have lE:(bM n bB ds).length=n + (aV bB ds).length:=by
  unfold bM bc;rw[cc,cc,l1,xQ,eS]
  lia
 have sL:(nI n vs).length=n:=by unfold nI;simp;lia
 have I:aB K n H U (nI n vs) ((aV bB vs).map some) (bM n bB ds) [] []:=by
  obtain⟨ol,mu,Fs,dj,sub,sl⟩:=ok;refine⟨⟨by rw[iZ,iZ,fE,fE,cc,sL,lE,eS,l2],mu,λi b=>n<=i/\Fs (i - n) b,λi j b hi hj=>by have:=dj _ _ b hi.2 hj.2;lia,λi b hb=>sub _ b hb.2,λi β aL=> ?_⟩,by rw[sL,eS,l2,lE],sL⟩;rw[iZ,fE]at aL;rw[iZ,fE];by_cases hi:i < n
  ·have yI:(bU n 0 bB ds++gC (n - bB.length) none)[i]?=some (some β):=by
    unfold bM at aL;rw[br (by rw[cc,l1,xQ];lia)]at aL;exact aL
   by_cases yF:i < bB.length
   ·rw[br (by lia)]at yI;have sv:∀v,vs[i]?=some v->(nI n vs++(aV bB vs).map some)[i]?=some (some v):=λv q=>by
     rw[br (by lia)];unfold nI;rw[br (by simp;lia),dF,q];rfl
    rcases FK n 0 (vs:=vs) hd hv yI with⟨x,rfl,b,c⟩ | ⟨j',x,rfl,_,c,q⟩
    ·obtain⟨v,Ob⟩:=oN (vs:=vs) (by lia) c;exact⟨v,sv v Ob,vw i v x b Ob c⟩
    ·refine⟨x,sv x q, ?_,x, ?_, .nil x⟩
     ·have:=(bW.mp c).1;rw[lE]
      lia
     ·rw[bK (by lia),sL,dF,show n + j' - n=j' - 0 by lia,c];rfl
   ·rw[bK (by lia),xP]at yI
    split at yI <;> cases yI
  ·have Oc:(bc (aV bB ds))[i - n]?=some (some β):=by
    unfold bM at aL;rw[bK (by rw[cc,l1,xQ];lia)]at aL;rw[cc,l1,xQ,show bB.length + (n - bB.length)=n by lia]at aL;exact aL
   obtain⟨v,ev,sv⟩:=sl _ β Oc;refine⟨v,by rw[bK (by lia),sL];exact ev, ?_⟩;cases β with
   |own x=>exact bj.mono sv λb z=>⟨by lia,z⟩
   |ro x=>exact sv
   |ak r p=>exact absurd rfl (wj _ _ (gH Oc) r p)
 have dD:∀{ρ':En} {v:V} {aN:List (Option V)} {H':Hp} {U':Addr->Prop},aB K n H' U' aN ((aV bB vs).map some) ρ' [v] [d]->cg (ρ'.drop n)=some dH->b5 U H U' H'->Q v H':=λ{ρ' v aN H' U'} J ho st=>by
  have eo:=N9 ho;have ln:=J.len;have nn:=J.nn;have er:ρ'=ρ'.take n++bc dH:=by rw[<- eo,agY]
  have FL:=J.ok;have lt:aN.length=(ρ'.take n).length:=by rw[DW];lia
  -- first mG names go,then mG last one comes to mG front
  have FL:cL K H' U' ρ'.length (aN++((aV bB vs).map some++ [some v])) (ρ'.take n++(bc dH++ [some (.own d)])):=by
   rw[<- dI, <- dI, <- er];exact FL
  obtain⟨Ut,su,ot⟩:=FL.tail lt λb hb q p=>by
   rcases kG.mp hb with z | z
   ·exact wj dH b z q p
   ·rw[gf.mp z];exact λw=>nomatch w
  have Yo:cL K H' Ut 0 ((aV bB vs++ [v]).map some) (bc (dH++ [d])):=by
   unfold bc at ot |-;rw[cK,cK];exact ot
  refine k v H' Ut Yo.Ym λb o q nu=>⟨(st b o q nu).1,λz=>(st b o q nu).2 (su b z)⟩
 unfold bp at hG
 split at hG
 ·next d' ρ' q=>
  obtain⟨o,h1,h2⟩:=bg.mp hG;cases h2;exact S.s I q λv aN H' U' J st=>dD J h1 st
 ·next ρ' q=>
  obtain⟨o,h1,h2⟩:=bg.mp hG;cases h2;refine S.s I q λaN H' U' J st=> ?_;obtain⟨U2,J2,cf⟩:=J.push (aP.refl H') (eX.sc (K:=K) .aE);exact dD J2 h1 (st.trans cf)
 ·cases hG
end
section
theorem aB.Yp(I:aB K n H U σ hv Z τv τd):cL K H U Z.length (σ++hv++τv.map some) (Z++bc τd):=I.ok
theorem aB.lend(I:aB K n H U σ hv Z τv τd)(w:ik K H U (σ++hv) Z v (.rt r p))(hr:ai Z r=some d0)(hg:ag d0 p=some d1):
  aB K n H U σ hv (Z.set r (some (.own (aG d0 p (.hl v))))) (τv++ [v]) (τd++ [d1]):=by
 have l:=I.len;have tl:=I.tl;obtain⟨jq,vr,Ya,er,mP,_,hp⟩:=w;rw[hr]at mP;cases mP;refine⟨?_,by rw[cB];exact l,I.nn⟩;have k:=I.Yp.take (r:=r) (p:=p) (vr:=vr) (u:=v) (by simp;lia) (by rw[br jq];exact lU hr) (by rw[br (by simp;lia)];exact er) hp hg;rw[cB,cK,cK, <- dI, <- dI];rw[tH _ _ jq]at k;exact k
theorem aB.back(I:aB K n H U σ hv Z (τv++ [v]) (τd++ [d]))(hr:ai Z r=some d0)(hg:ag d0 p=some (.hl v)):aB K n H U σ hv (Z.set r (some (.own (aG d0 p d)))) τv τd:=by
 have l:=I.len;have tl:=I.tl;have tl:τv.length=τd.length:=by simp at tl;lia
 have v8:=lU hr;have jq:r < Z.length:=(bW.mp v8).1;have ok:=I.ok;rw[cK,cK, <- dI, <- dI]at ok;have k:=ok.put (r:=r) (p:=p) (d0:=d0) (by simp;lia) (by simp;lia) (by rw[br jq];exact v8) hg;rw[tH _ _ jq]at k;exact⟨by rw[cB];exact k,by rw[cB];exact l,I.nn⟩
theorem aB.pick(I:aB K n H U σ hv Z (τv++vs) (τd++ds))(hl:vs.length=ds.length)(h2:dU.length=nJ.length)(π:Nat->Nat)(inj:∀i j,i < dU.length->j < dU.length->π i=π j->i=j)
  (jD:∀(i:Nat) (x:V),dU[i]?=some x->vs[π i]?=some x) (qy:∀(i:Nat) (x:D),nJ[i]?=some x->ds[π i]?=some x):aB K n H U σ hv Z (τv++dU) (τd++nJ):=by
 have l:=I.len;have tl:=I.tl;have tl:τv.length=τd.length:=by simp at tl;lia
 obtain⟨he,mu,Fs,dj,sub,sl⟩:=I.ok;have base:(σ++hv++τv.map some).length=Z.length + τd.length:=by simp;lia
 refine⟨⟨by simp;lia,mu,λi b=>if i < Z.length + τd.length then Fs i b else i < Z.length + τd.length + dU.length/\Fs (Z.length + τd.length + π (i - (Z.length + τd.length))) b,λi j b hi hj=> ?_,λi b hb=> ?_,λi β aL=> ?_⟩,l,I.nn⟩
 ·have hi:if i < Z.length + τd.length then Fs i b else i < Z.length + τd.length + dU.length/\Fs (Z.length + τd.length + π (i - (Z.length + τd.length))) b:=hi;have hj:if j < Z.length + τd.length then Fs j b else j < Z.length + τd.length + dU.length/\Fs (Z.length + τd.length + π (j - (Z.length + τd.length))) b:=hj;by_cases ci:i < Z.length + τd.length
  ·rw[if_pos ci]at hi;by_cases cj:j < Z.length + τd.length
   ·rw[if_pos cj]at hj;exact dj i j b hi hj
   ·rw[if_neg cj]at hj;have:=dj _ _ b hi hj.2;lia
  ·rw[if_neg ci]at hi;by_cases cj:j < Z.length + τd.length
   ·rw[if_pos cj]at hj;have:=dj _ _ b hi.2 hj;lia
   ·rw[if_neg cj]at hj;have:=dj _ _ b hi.2 hj.2;have:=inj (i - (Z.length + τd.length)) (j - (Z.length + τd.length)) (by lia) (by lia) (by lia)
    lia
 ·have hb:if i < Z.length + τd.length then Fs i b else i < Z.length + τd.length + dU.length/\Fs (Z.length + τd.length + π (i - (Z.length + τd.length))) b:=hb;by_cases ci:i < Z.length + τd.length
  ·rw[if_pos ci]at hb;exact sub _ b hb
  ·rw[if_neg ci]at hb;exact sub _ b hb.2
 ·have e0:∀(zs:List V) (j:Nat),j < Z.length + τd.length->(σ++hv++(τv++zs).map some)[j]?=(σ++hv++τv.map some)[j]?:=λzs j hj=>by
   rw[cK, <- dI,br (by lia)]
  have lR:(Z++τd.map λd=>some (B.own d)).length=Z.length + τd.length:=by simp
  by_cases hi:i < Z.length + τd.length
  ·have g1:(Z++(τd++ds).map λd=>some (B.own d))[i]?=some (some β):=by
    rw[cK, <- dI,br (by lia)]at aL |-;exact aL
   obtain⟨v,ev,sv⟩:=sl i β g1;refine⟨v,by rw[e0 dU i hi];rw[e0 vs i hi]at ev;exact ev, ?_⟩;have sv:=nE.slots sv (e':=σ++hv++(τv++dU).map some) λr hr=>by rw[e0 dU r (by lia),e0 vs r (by lia)]
   cases β with
   |own x=>
    show bj K H (λb=>if i < Z.length + τd.length then Fs i b else _) v x;simp only[if_pos hi];exact sv
   |ro x=>exact sv
   |ak r p=>exact sv
  ·have g0:(nJ.map λd=>some (B.own d))[i - (Z.length + τd.length)]?=some (some β):=by
    rw[cK, <- dI,bK (by lia),lR]at aL;exact aL
   rw[dF]at g0;cases q:nJ[i - (Z.length + τd.length)]? with
   |none=>rw[q]at g0;cases g0
   |some x=>
    rw[q]at g0;cases g0;obtain⟨u,hu⟩:=oN h2 q;have g1:(Z++(τd++ds).map λd=>some (B.own d))[Z.length + τd.length + π (i - (Z.length + τd.length))]?=some (some (.own x)):=by
     rw[cK, <- dI,bK (by lia),lR,LK,dF,qy _ x q];rfl
    obtain⟨v,ev,sv⟩:=sl _ _ g1;rw[cK, <- dI,bK (by lia),base,LK,dF,jD _ u hu]at ev;cases ev;have jL:i - (Z.length + τd.length) < dU.length:=(bW.mp hu).1;refine⟨u,by rw[cK, <- dI,bK (by lia),base,dF,hu];rfl, ?_⟩;show bj K H (λb=>if i < Z.length + τd.length then _ else i < Z.length + τd.length + dU.length/\Fs (Z.length + τd.length + π (i - (Z.length + τd.length))) b) u x;simp only[if_neg hi];exact bj.mono sv λb z=>⟨by lia,z⟩
theorem aB.Yq(I:aB K n H U σ hv Z (τv++ws++vs) (τd++wd++ds))(hl:ws.length=wd.length)(h2:vs.length=ds.length):aB K n H U σ hv Z (τv++vs) (τd++ds):=by
 rw[dI,dI]at I;exact I.pick (by simp;lia) h2 (λi=>ws.length + i) (λi j _ _ h=>by lia) (λi x h=>by rw[bK (by lia),LK];exact h) (λi x h=>by rw[hl,bK (by lia),LK];exact h)
theorem Od{α:Type}{xs:List α}{x:α}:∀(i:Nat) (y:α),(xs++ [x])[i]?=some y->(x::xs)[if i=xs.length then 0 else i + 1]?=some y:=λi y h=>by
 by_cases c:i=xs.length
 ·subst c;simp at h |-;exact h
 ·have hi:i < xs.length:=by
   have:=(bW.mp h).1;simp at this;lia
  rw[br hi]at h;rw[if_neg c];simpa using h
theorem aB.Oe(I:aB K n H U σ hv Z (τv++(v::vs)) (τd++(d::ds)))(hl:vs.length=ds.length):aB K n H U σ hv Z (τv++vs++ [v]) (τd++ds++ [d]):=by
 rw[dI,dI];refine I.pick (by simp;exact hl) (by simp;exact hl) (λi=>if i=vs.length then 0 else i + 1) (λi j hi hj h=> ?_) Od (by rw[hl];exact Od);by_cases c1:i=vs.length
 ·by_cases c2:j=vs.length
  ·lia
  ·simp only[if_pos c1,if_neg c2]at h;lia
 ·by_cases c2:j=vs.length
  ·simp only[if_neg c1,if_pos c2]at h;lia
  ·simp only[if_neg c1,if_neg c2]at h;lia
structure Io where
 r:Nat
 p:List Nat
def bN:En->List Io->List V->En
 |Z,io::L,v::vs=>match ai Z io.r with
  |some d0=>bN (Z.set io.r (some (.own (aG d0 io.p (.hl v))))) L vs
  |none=>Z
 |Z,_,_=>Z
def mQ:En->List Io->Option (List D)
 |_, []=>some []
 |Z,io::L=>(ai Z io.r).bind λd0=>(ag d0 io.p).bind λd1=>(mQ Z L).map (d1:: ·)
def dt(ρ0:En):En->List Io->List D->En
 |Z,io::L,o::os=>match ai ρ0 io.r with
  |some d0=>dt ρ0 (Z.set io.r (some (.own (aG d0 io.p o)))) L os
  |none=>Z
 |Z,_,_=>Z
def bS(L:List Io):Prop:=L.Pairwise λa b=>a.r≠b.r
instance (L:List Io):Decidable (bS L):=inferInstanceAs (Decidable (L.Pairwise _))
theorem aB.Of:∀{L:List Io} {Z:En} {τv:List V} {τd:List D} {vs:List V} {ds:List D},aB K n H U σ hv Z τv τd->bS L->mQ Z L=some ds->vs.length=L.length->(∀(i:Nat) (io:Io) (v:V),L[i]?=some io->vs[i]?=some v->ik K H U (σ++hv) Z v (.rt io.r io.p))->
  aB K n H U σ hv (bN Z L vs) (τv++vs) (τd++ds)
 | [],Z,τv,τd,vs,ds,I,_,h,hl,_=>by
  cases h;have:vs= []:=rG hl;subst this;rw[fE,fE];simp only[bN];exact I
 |io::L,Z,τv,τd, [],ds,I,_,h,hl,_=>by cases hl
 |io::L,Z,τv,τd,v::vs,ds,I,ha,h,hl,hp=>by
  rw[mQ]at h;obtain⟨d0,h1,h⟩:=af.mp h;obtain⟨d1,h2,h⟩:=af.mp h;obtain⟨nJ,h3,h⟩:=bg.mp h;subst h;have ap:=D2.mp ha;have I1:=I.lend (hp 0 io v rfl rfl) h1 h2;have Og:∀j∈L,ai (Z.set io.r (some (.own (aG d0 io.p (.hl v))))) j.r=ai Z j.r:=λj hj=>qS (ap.1 j hj);have Yr:∀(M:List Io) (hM:∀j∈M,j∈L) (ds:List D),mQ Z M=some ds->mQ (Z.set io.r (some (.own (aG d0 io.p (.hl v))))) M=some ds:=by
   intro M
   induction M with
   |nil=>intro _ ds h;exact h
   |cons j M ih=>
    intro hM ds h;rw[mQ]at h |-;rw[Og j (hM j (.head _))];obtain⟨a,x1,h⟩:=af.mp h;obtain⟨b,x2,h⟩:=af.mp h;obtain⟨c,x3,h⟩:=bg.mp h;rw[x1];show(ag a j.p).bind _=_;rw[x2];show(mQ _ M).map _=_;rw[ih (λk hk=>hM k (.tail _ hk)) c x3];exact congrArg some h
  have I2:=I1.Of ap.2 (Yr L (λj hj=>hj) nJ h3) (vs:=vs) (fU hl) λi j u hj hu=>by
   obtain⟨q1,vr,dd,q2,q3,q4,q5⟩:=hp (i + 1) j u (by simpa using hj) (by simpa using hu);exact⟨by rw[cB];exact q1,vr,dd,q2,by rw[Og j (gH hj)];exact q3,q4,q5⟩
  rw[bN,h1];rw[pB,pB τd];exact I2
def sC(ρ1 ay:En):Prop:=∀s q,((ai ρ1 s).bind (ag · q)).isSome=((ai ay s).bind (ag · q)).isSome
theorem Ys(h:sC ρ1 ay)(b:Option B):bT ρ1 b=bT ay b:=by
 cases b with
 |none=>rfl
 |some c=>
  cases c with
  |own d=>rfl
  |ro d=>rfl
  |ak r p=>
   show(if p= []\/((ai ρ1 r).bind (ag · p)).isSome=true then some (B.ak r p) else none)=(if p= []\/((ai ay r).bind (ag · p)).isSome=true then some (B.ak r p) else none);rw[h r p]
theorem sC.hole{d0 e0 d1 e1 x y:D}(h:sC ρ1 ay)(l1:r < ρ1.length)(l2:r < ay.length)(g:∀q,(ag (aG d0 p x) q).isSome=(ag (aG e0 p y) q).isSome):sC (ρ1.set r (some (.own (aG d0 p x)))) (ay.set r (some (.own (aG e0 p y)))):=λs q=>by
 by_cases c:r=s
 ·subst c;rw[BK l1,BK l2];exact g q
 ·rw[qS c,qS c];exact h s q
theorem uo:∀(Z:En) (L:List Io) (vs:List V),(bN Z L vs).length=Z.length
 |Z, [],vs=>by simp[bN]
 |Z,io::L, []=>by simp[bN]
 |Z,io::L,v::vs=>by
  rw[bN];cases ai Z io.r with
  |none=>rfl
  |some d0=>show(bN _ L vs).length=_;rw[uo,cB]
theorem Yt(h:ρ1[s]?=ay[s]?):ai ρ1 s=ai ay s:=by unfold ai;rw[h]
theorem Oh:∀{L:List Io} {ρ1 ay:En} {vs us:List V},bS L->sC ρ1 ay->ρ1.length=ay.length->(∀io∈L,∃d0 d1,ai ρ1 io.r=some d0/\ai ay io.r=some d0/\ag d0 io.p=some d1)->vs.length=L.length->us.length=L.length->sC (bN ρ1 L vs) (bN ay L us)
 | [],ρ1,ay,vs,us,_,h,_,_,_,_=>by simp only[bN];exact h
 |io::L,ρ1,ay, [],us,_,_,_,_,h,_=>by cases h
 |io::L,ρ1,ay,_, [],_,_,_,_,_,h=>by cases h
 |io::L,ρ1,ay,v::vs,u::us,ha,h,hl,hr,l1,l2=>by
  obtain⟨d0,d1,q1,q2,q3⟩:=hr io (.head _);have ap:=D2.mp ha;have r1:io.r < ρ1.length:=(bW.mp (lU q1)).1;rw[bN,bN,q1,q2];refine Oh ap.2 (h.hole (d1:=d1) (e1:=d1) r1 (by lia) λq=>Fz q3 rfl rfl (λ_ _=>by rw[ag]) λ_ _=>by rw[ag]) (by rw[cB,cB];exact hl) (λj hj=> ?_) (fU l1) (fU l2);obtain⟨e0,e1,x1,x2,x3⟩:=hr j (.tail _ hj);exact⟨e0,e1,by rw[qS (ap.1 j hj)];exact x1,by rw[qS (ap.1 j hj)];exact x2,x3⟩
theorem FN:∀{L:List Io} {Z:En} {ds:List D},mQ Z L=some ds->∀io∈L,∃d0 d1,ai Z io.r=some d0/\ag d0 io.p=some d1
 |io::L,Z,ds,h,j,hj=>by
  rw[mQ]at h;obtain⟨d0,h1,h⟩:=af.mp h;obtain⟨d1,h2,h⟩:=af.mp h;obtain⟨nJ,h3,h⟩:=bg.mp h;cases hj with
  |head=>exact⟨d0,d1,h1,h2⟩
  |tail _ hj=>exact FN h3 j hj
theorem Yu(ha:bS L)(h:mQ Z L=some ds)(l1:vs.length=L.length)(l2:us.length=L.length):sC (bN Z L vs) (bN Z L us):=
 Oh ha (λ_ _=>rfl) rfl (λio qV=>let ⟨d0,d1,a,b⟩:=FN h io qV;⟨d0,d1,a,a,b⟩) l1 l2
theorem BQ:∀{L:List Io} {Z:En} {vs:List V} {s:Nat},(∀io∈L,io.r≠s)->(bN Z L vs)[s]?=Z[s]?
 | [],Z,vs,s,_=>by simp only[bN]
 |io::L,Z, [],s,_=>by simp only[bN]
 |io::L,Z,v::vs,s,h=>by
  rw[bN];cases ai Z io.r with
  |none=>rfl
  |some d0=>
   show(bN _ L vs)[s]?=_;rw[BQ λj hj=>h j (.tail _ hj),gm (h io (.head _))]
theorem FO:∀{L:List Io} {Z:En} {vs:List V} {i:Nat} {io:Io} {d0:D},bS L->vs.length=L.length->L[i]?=some io->ai Z io.r=some d0->(∀j∈L,∃e,ai Z j.r=some e)->∃v,vs[i]?=some v/\ai (bN Z L vs) io.r=some (aG d0 io.p (.hl v))
 | [],Z,vs,i,io,d0,_,_,h,_,_=>by simp at h
 |j::L,Z, [],i,io,d0,_,h,_,_,_=>by cases h
 |j::L,Z,v::vs,0,io,d0,ha,hl,h,hr,al=>by
  cases h;have ap:=D2.mp ha;have jq:j.r < Z.length:=(bW.mp (lU hr)).1;refine⟨v,rfl, ?_⟩;rw[bN,hr];show ai (bN _ L vs) j.r=_;rw[Yt (BQ λk hk=>(ap.1 k hk).symm),BK jq]
 |j::L,Z,v::vs,i + 1,io,d0,ha,hl,h,hr,al=>by
  have ap:=D2.mp ha;have h:L[i]?=some io:=by simpa using h
  obtain⟨e,he⟩:=al j (.head _);have ne:=ap.1 io (gH h);rw[bN,he];obtain⟨u,hu,q⟩:=FO (Z:=Z.set j.r (some (.own (aG e j.p (.hl v))))) ap.2 (fU hl) h (d0:=d0) (by rw[qS ne];exact hr) λk hk=>by
   obtain⟨x,hx⟩:=al k (.tail _ hk);exact⟨x,by rw[qS (ap.1 k hk)];exact hx⟩
  exact⟨u,by simpa using hu,q⟩
inductive Ar where
 |io (i:Io) | tm (d:D) | rv (q:Pl) (d:D)
inductive jU(K:aj)(H:Hp)(U:Addr->Prop)(e:List (Option V))(Z:En):List Bool->List V->List Ar->List V->List D->Prop
 |nil:jU K H U e Z [] [] [] [] []
 |io {m:List Bool} {v:V} {i:Io} {vs:List V} {as:List Ar} {ws:List V} {wd:List D}:ik K H U e Z v (.rt i.r i.p)->jU K H U e Z m vs as ws wd->jU K H U e Z (true::m) (v::vs) (.io i::as) ws wd
 |tm {m:List Bool} {v:V} {d:D} {vs:List V} {as:List Ar} {ws:List V} {wd:List D}:jU K H U e Z m vs as ws wd->jU K H U e Z (false::m) (v::vs) (.tm d::as) (v::ws) (d::wd)
 |rv {m:List Bool} {v:V} {q:Pl} {d:D} {vs:List V} {as:List Ar} {ws:List V} {wd:List D}:ik K H U e Z v q->b6 Z q=some d->jU K H U e Z m vs as ws wd->jU K H U e Z (false::m) (v::vs) (.rv q d::as) ws wd
class qW(K:aj)(n:Nat)(bB:List Bool)(t:TA)(f:outParam (En->Option (List Ar))):Prop where
 s:∀{σ hv:List (Option V)} {H:Hp} {U:Addr->Prop} {Z:En} {τv:List V} {τd:List D} {as:List Ar} {Q:List V->Hp->Prop},aB K n H U σ hv Z τv τd->f Z=some as->
  (∀vs ws wd H' U',aB K n H' U' σ hv Z (τv++ws) (τd++wd)->ws.length=wd.length->b5 U H U' H'->aP H H'->jU K H' U' (σ++hv) Z bB vs as ws wd->Q vs H')->t σ H Q
class SC(K:aj)(n:Nat)(bB:List Bool)(t:TA)(f:outParam (En->Option (List Ar×En))):Prop where
 s:∀{σ hv:List (Option V)} {H:Hp} {U:Addr->Prop} {Z ρ':En} {τv:List V} {τd:List D} {as:List Ar} {Q:List V->Hp->Prop},aB K n H U σ hv Z τv τd->f Z=some (as,ρ')->
  (∀vs ws wd H' U',aB K n H' U' σ hv ρ' (τv++ws) (τd++wd)->ws.length=wd.length->b5 U H U' H'->jU K H' U' (σ++hv) ρ' bB vs as ws wd->Q vs H')->t σ H Q
theorem ik.step(h:ik K H U e Z v q)(s:aP H H')(st:b5 U H U' H'):ik K H' U' e Z v q:=by
 cases q with
 |ro d=>
  have h:Vw K H (λb=>¬ U b) v d:=h;exact h.over (λb o nb q=>st b o q nb) (gJ.of s)
 |rt r p=>
  obtain⟨a,vr,d,b,c,e,f⟩:=h;exact⟨a,vr,d,b,c,e,f.same s⟩
instance aii:qW K n [] gU (λ_=>some []):=⟨λ{σ hv H U Z τv τd as Q} I h k=>by
 cases h;exact k [] [] [] H U (by rw[fE,fE];exact I) rfl (b5.refl U H) (aP.refl H) .nil⟩
noncomputable def bt (fp:En->Option Pl) (fr:En->Option (List Ar)) (Z:En):Option (List Ar):=(fp Z).bind λ
 |.rt r p=>(fr Z).map (.io ⟨r,p⟩:: ·)
 |.ro _=>none
instance aij[P:SP K n te fp][R:qW K n m tr fr]:qW K n (true::m) (e9 te tr) (bt fp fr):=⟨λ{σ hv H U Z τv τd as Q} I h k=>by
 obtain⟨q,h1,h⟩:=af.mp h;cases q with
 |ro _=>cases h
 |rt r p=>
  obtain⟨sE,h2,h⟩:=bg.mp h;subst h;refine P.s I h1 λv H1 s1 w1=> ?_;have hV:b5 U H U H1:=λb o q nu=>⟨s1 b o q,nu⟩
  refine R.s (I.same s1) h2 λvs ws wd H2 U2 I2 hl cf s2 ao=> ?_;exact k (v::vs) ws wd H2 U2 I2 hl (hV.trans cf) (s1.trans s2) (.io (w1.step s2 cf) ao)⟩
noncomputable def eg (fe:En->Option D) (fr:En->Option (List Ar)) (Z:En):Option (List Ar):=(fe Z).bind λd=>(fr Z).map (.tm d:: ·)
instance (priority:=200) aik{m:List Bool}{te:TE}{tr:TA}{fe:En->Option D}{fr:En->Option (List Ar)}[A:SQ K n te fe][R:qW K n m tr fr]:qW K n (false::m) (e9 te tr) (eg fe fr):=⟨λ{σ hv H U Z τv τd as Q} I h k=>by
 obtain⟨d,h1,h⟩:=af.mp h;obtain⟨sE,h2,h⟩:=bg.mp h;subst h;refine SQ.s (f:=fe) I h1 λv H1 U1 I1 bH s1=> ?_;refine R.s I1 h2 λvs ws wd H2 U2 I2 hl cf s2 ao=> ?_;refine k (v::vs) (v::ws) (d::wd) H2 U2 ?_ (by rw[gc,gc,hl]) (bH.trans cf) (s1.trans s2) (.tm ao);rw[pB,pB τd];exact I2⟩
def dR(fp:En->Option Pl)(fr:En->Option (List Ar))(Z:En):Option (List Ar):=(fp Z).bind λq=>(b6 Z q).bind λd=>if plain d=true then(fr Z).map (.tm d:: ·) else(fr Z).map (.rv q d:: ·)
instance (priority:=300) ail{m:List Bool}{te:TE}{tr:TA}{fp:En->Option Pl}{fr:En->Option (List Ar)}[P:SP K n te fp][R:qW K n m tr fr]:qW K n (false::m) (e9 te tr) (dR fp fr):=⟨λ{σ hv H U Z τv τd as Q} I h k=>by
 obtain⟨q,h1,h⟩:=af.mp h;obtain⟨d,h2,h⟩:=af.mp h;refine P.s I h1 λv H1 s1 w1=> ?_;have I1:=I.same s1;have hV:b5 U H U H1:=λb o q nu=>⟨s1 b o q,nu⟩
 by_cases p:plain d=true
 ·rw[if_pos p]at h;obtain⟨sE,h3,h⟩:=bg.mp h;subst h;obtain⟨U1,FP,bH⟩:=I1.push (aP.refl H1) (eX.plain (I1.at w1 h2) p);refine R.s FP h3 λvs ws wd H2 U2 I2 hl cf s2 ao=> ?_;refine k (v::vs) (v::ws) (d::wd) H2 U2 ?_ (by rw[gc,gc,hl]) (hV.trans (bH.trans cf)) (s1.trans s2) (.tm ao);rw[pB,pB τd];exact I2
 ·rw[if_neg p]at h;obtain⟨sE,h3,h⟩:=bg.mp h;subst h;refine R.s I1 h3 λvs ws wd H2 U2 I2 hl cf s2 ao=> ?_;exact k (v::vs) ws wd H2 U2 I2 hl (hV.trans cf) (s1.trans s2) (.rv (w1.step s2 cf) h2 ao)⟩
instance (priority:=1000) aim{bB:List Bool}{t:TA}{f:En->Option (List Ar)}[S:qW K n bB t f]:SC K n bB t (λZ=>(f Z).map λa=>(a,Z)):=⟨λ{σ hv H U Z ρ' τv τd as Q} I h k=>by
 obtain⟨sE,h1,h2⟩:=bg.mp h;cases h2;exact S.s I h1 λvs ws wd H' U' I' hl st s ao=>k vs ws wd H' U' I' hl st ao⟩
noncomputable def fD (fe:En->Option (D×En)) (fr:En->Option (List Ar×En)) (Z:En):Option (List Ar×En):=(fe Z).bind λa=>(fr a.2).map λr=>(.tm a.1::r.1,r.2)
instance (priority:=200) ain{m:List Bool}{te:TE}{tr:TA}{fe:En->Option (D×En)}{fr:En->Option (List Ar×En)}[A:SM K n te fe][R:SC K n m tr fr]:SC K n (false::m) (e9 te tr) (fD fe fr):=⟨λ{σ hv H U Z ρ' τv τd as Q} I h k=>by
 obtain⟨⟨d,ρ1⟩,h1,h⟩:=af.mp h;obtain⟨⟨sE,ay⟩,h2,h⟩:=bg.mp h;cases h;refine A.s I h1 λv H1 U1 I1 bH=> ?_;refine R.s I1 h2 λvs ws wd H2 U2 I2 hl cf ao=> ?_;refine k (v::vs) (v::ws) (d::wd) H2 U2 ?_ (by rw[gc,gc,hl]) (bH.trans cf) (.tm ao);rw[pB,pB τd];exact I2⟩
def i7(fp:En->Option Pl)(fr:En->Option (List Ar×En))(Z:En):Option (List Ar×En):=(fp Z).bind λ
 |.rt r p=>if p= [] then(fr Z).bind λa=>if(ai a.2 r).isSome=true then some (.io ⟨r, []⟩::a.1,a.2) else none else none
 |.ro _=>none
instance (priority:=200) aio{m:List Bool}{te:TE}{tr:TA}{fp:En->Option Pl}{fr:En->Option (List Ar×En)}[P:SP K n te fp][R:SC K n m tr fr]:SC K n (true::m) (e9 te tr) (i7 fp fr):=⟨λ{σ hv H U Z ρ' τv τd as Q} I h k=>by
 obtain⟨q,h1,h⟩:=af.mp h;cases q with
 |ro _=>cases h
 |rt r p=>
  have h:(if p= [] then(fr Z).bind λa=>if(ai a.2 r).isSome=true then some (Ar.io ⟨r, []⟩::a.1,a.2) else none else none)=some (as,ρ'):=h;by_cases cp:p= []
  ·rw[if_pos cp]at h;subst cp;obtain⟨⟨sE,ay⟩,h2,h⟩:=af.mp h;by_cases cr:(ai ay r).isSome=true
   ·have h:(if(ai ay r).isSome=true then some (Ar.io ⟨r, []⟩::sE,ay) else none)=some (as,ρ'):=h;rw[if_pos cr]at h;cases h;obtain⟨d',hd⟩:=Ul.mp cr;refine P.s I h1 λv H1 s1 w1=> ?_;have hV:b5 U H U H1:=λb o q nu=>⟨s1 b o q,nu⟩
    refine R.s (I.same s1) h2 λvs ws wd H2 U2 I2 hl cf ao=> ?_;exact k (v::vs) ws wd H2 U2 I2 hl (hV.trans cf) (.io (w1.root hd) ao)
   ·have h:(if(ai ay r).isSome=true then some (Ar.io ⟨r, []⟩::sE,ay) else none)=some (as,ρ'):=h;rw[if_neg cr]at h;cases h
  ·rw[if_neg cp]at h;cases h⟩
noncomputable def bG:List Ar->List Io
 | []=> []
 |.io i::r=>i::bG r
 |.tm _::r=>bG r
 |.rv _ _::r=>bG r
def e7(Z:En):Ar->Option D
 |.io i=>(ai Z i.r).bind (ag · i.p)
 |.tm d=>some d
 |.rv _ d=>some d
def dO(Z:En):List Ar->Option (List D)
 | []=>some []
 |a::r=>(e7 Z a).bind λd=>(dO Z r).map (d:: ·)
noncomputable def eF:List Nat->List Nat->Bool
 |a::p,b::q=> !decide (a=b) || eF p q
 |_,_=>false
def cb(L:List Io):Ar->Bool
 |.rv (.rt r p) _=>L.all λi=> !decide (i.r=r) || eF i.p p
 |_=>true
theorem Oi:∀{p q:List Nat} {d d1 x:D},eF p q=true->ag d p=some d1->plain x=false->ag (aG d p x) q=ag d q
 | [],_,_,_,_,h,_,_=>by simp[eF]at h
 |_::_, [],_,_,_,h,_,_=>by simp[eF]at h
 |a::p,b::q, .sc _,d1,x,h,g,hx=>by rw[ag]at g;cases g
 |a::p,b::q, .hl _,d1,x,h,g,hx=>by rw[ag]at g;cases g
 |a::p,b::q, .nd k cs,d1,x,h,g,hx=>by
  rw[ag]at g;by_cases dM:dk k=true/\aK cs=true
  ·rw[if_pos dM]at g;cases g
  rw[if_neg dM]at g;cases hc:cs[a]? with
  |none=>rw[hc]at g;cases g
  |some c=>
   rw[hc]at g;have hn:=(bW.mp hc).1;have e1:aG (.nd k cs) (a::p) x= .nd k (cs.set a (aG c p x)):=by rw[aG,hc]
   have px:=v9 hn (wc g hx);rw[e1,ag,ag,if_neg (by rintro⟨_,z⟩;rw[px]at z;cases z),if_neg dM];by_cases e:a=b
   ·subst e;rw[eY hn,hc];have h:eF p q=true:=by simpa[eF]using h
    exact Oi h g hx
   ·rw[gm e]
def b8(Z:En)(L:List Io)(dH:List D):En:=dt Z (aZ (bN Z L (L.map λ_=>V.aE))) L dH
theorem jU.len(h:jU K H U e Z m vs as ws wd):vs.length=m.length/\as.length=m.length/\ws.length=wd.length:=by
 induction h with
 |nil=>exact⟨rfl,rfl,rfl⟩
 |io _ _ ih=>exact⟨congrArg _ ih.1,congrArg _ ih.2.1,ih.2.2⟩
 |tm _ ih=>exact⟨congrArg _ ih.1,congrArg _ ih.2.1,congrArg _ ih.2.2⟩
 |rv _ _ _ ih=>exact⟨congrArg _ ih.1,congrArg _ ih.2.1,ih.2.2⟩
theorem jU.Yv(h:jU K H U e Z m vs as ws wd):(aV m vs).length=(bG as).length/\∀(i:Nat) (io:Io) (v:V),(bG as)[i]?=some io->(aV m vs)[i]?=some v->ik K H U e Z v (.rt io.r io.p):=by
 induction h with
 |nil=>exact⟨rfl,λi io v h=>by simp[bG]at h⟩
 | @io m v i vs as ws wd p _ ih=>
  refine⟨by rw[aV,bG,gc,gc,ih.1],λj io u h1 h2=> ?_⟩;rw[bG]at h1;rw[aV]at h2;cases j with
  |zero=>cases h1;cases h2;exact p
  |succ j=>exact ih.2 j io u (by simpa using h1) (by simpa using h2)
 |tm _ ih=>rw[aV,bG];exact ih
 |rv _ _ _ ih=>rw[aV,bG];exact ih
theorem jU.BR(h:jU K H U e Z m vs as ws wd):∀{ds:List D},dO Z as=some ds->ds.length=m.length/\mQ Z (bG as)=some (aV m ds):=by
 induction h with
 |nil=>intro ds q;cases q;exact⟨rfl,rfl⟩
 | @io m v i vs as ws wd p _ ih=>
  intro ds q;rw[dO]at q;obtain⟨x,q1,q⟩:=af.mp q;obtain⟨r,q2,q⟩:=bg.mp q;subst q;obtain⟨l1,l2⟩:=ih q2;refine⟨congrArg _ l1, ?_⟩;obtain⟨d0,x1,x2⟩:=af.mp q1;rw[bG,mQ,aV,x1];show(ag d0 i.p).bind _=_;rw[x2];show(mQ Z (bG as)).map _=_;rw[l2];rfl
 |tm _ ih=>
  intro ds q;rw[dO]at q;obtain⟨x,q1,q⟩:=af.mp q;obtain⟨r,q2,q⟩:=bg.mp q;subst q;obtain⟨l1,l2⟩:=ih q2;exact⟨congrArg _ l1,l2⟩
 |rv _ _ _ ih=>
  intro ds q;rw[dO]at q;obtain⟨x,q1,q⟩:=af.mp q;obtain⟨r,q2,q⟩:=bg.mp q;subst q;obtain⟨l1,l2⟩:=ih q2;exact⟨congrArg _ l1,l2⟩
theorem jU.seen(h:jU K H U e Z m vs as ws wd):∀{ds:List D},dO Z as=some ds->(∀(i:Nat) (w:V) (d:D),ws[i]?=some w->wd[i]?=some d->Vw K H N w d)->
  (∀q d v,ik K H U e Z v q->b6 Z q=some d->Ar.rv q d∈as->Vw K H N v d)->∀(i:Nat) (v:V) (d:D),m[i]?=some false->vs[i]?=some v->ds[i]?=some d->Vw K H N v d:=by
 induction h with
 |nil=>intro ds q _ _ i v d h;simp at h
 |io _ _ ih=>
  intro ds q hw hs i v d h1 h2 h3;rw[dO]at q;obtain⟨x,q1,q⟩:=af.mp q;obtain⟨r,q2,q⟩:=bg.mp q;subst q;cases i with
  |zero=>cases h1
  |succ i=>exact ih q2 hw (λq d v a b c=>hs q d v a b (.tail _ c)) i v d (by simpa using h1) (by simpa using h2) (by simpa using h3)
 |tm _ ih=>
  intro ds q hw hs i v d h1 h2 h3;rw[dO]at q;obtain⟨x,q1,q⟩:=af.mp q;obtain⟨r,q2,q⟩:=bg.mp q;subst q;cases q1;cases i with
  |zero=>cases h2;cases h3;exact hw 0 _ _ rfl rfl
  |succ i=>exact ih q2 (λi w d a b=>hw (i + 1) w d (by simpa using a) (by simpa using b)) (λq d v a b c=>hs q d v a b (.tail _ c)) i v d (by simpa using h1) (by simpa using h2) (by simpa using h3)
 |rv p1 p2 _ ih=>
  intro ds q hw hs i v d h1 h2 h3;rw[dO]at q;obtain⟨x,q1,q⟩:=af.mp q;obtain⟨r,q2,q⟩:=bg.mp q;subst q;cases q1;cases i with
  |zero=>cases h2;cases h3;exact hs _ _ _ p1 p2 (.head _)
  |succ i=>exact ih q2 hw (λq d v a b c=>hs q d v a b (.tail _ c)) i v d (by simpa using h1) (by simpa using h2) (by simpa using h3)
theorem aB.Oj(ρ0:En):∀{L:List Io} {Z:En} {vs:List V} {dH:List D},aB K n H U σ hv Z (τv++vs) (τd++dH)->bS L->vs.length=L.length->dH.length=L.length->
  (∀(i:Nat) (io:Io) (v:V),L[i]?=some io->vs[i]?=some v->∃d0 d1,ai ρ0 io.r=some d0/\ag d0 io.p=some d1/\ai Z io.r=some (aG d0 io.p (.hl v)))->aB K n H U σ hv (dt ρ0 Z L dH) τv τd
 | [],Z,vs,dH,I,_,h1,h2,_=>by
  have e1:vs= []:=rG h1;have e2:dH= []:=rG h2;subst e1;subst e2;rw[fE,fE]at I;simp only[dt];exact I
 |io::L,Z, [],dH,I,_,h1,h2,_=>by cases h1
 |io::L,Z,v::vs, [],I,_,h1,h2,_=>by cases h2
 |io::L,Z,v::vs,o::dH,I,ha,h1,h2,hq=>by
  have ap:=D2.mp ha;obtain⟨d0,d1,q1,q2,q3⟩:=hq 0 io v rfl rfl;have I1:=(I.Oe (by have:=fU h1;have:=fU h2;lia)).back q3 (Fq q2 rfl);rw[Ft q2]at I1;rw[dt,q1];refine I1.Oj ρ0 ap.2 (fU h1) (fU h2) λi j u hj hu=> ?_;obtain⟨e0,e1,x1,x2,x3⟩:=hq (i + 1) j u (by simpa using hj) (by simpa using hu);exact⟨e0,e1,x1,x2,by rw[qS (ap.1 j (gH hj))];exact x3⟩
theorem FQ(ρ0:En):∀(Z:En) (L:List Io) (dH:List D),(dt ρ0 Z L dH).length=Z.length
 |Z, [],_=>by simp only[dt]
 |Z,io::L, []=>by simp only[dt]
 |Z,io::L,o::os=>by
  rw[dt];cases ai ρ0 io.r with
  |none=>rfl
  |some d0=>show(dt ρ0 _ L os).length=_;rw[FQ,cB]
theorem Ol(ρ0:En):∀{L:List Io} {ρ1 ay:En} {dH:List D},ρ1.length=ay.length->dH.length=L.length->(∀io∈L,∃d0,ai ρ0 io.r=some d0)->(∀io∈L,io.r < ρ1.length)->(∀(i:Nat) (β:B),(∀io∈L,io.r≠i)->ρ1[i]?=some (some β)->ay[i]?=some (some β))->
  ∀(i:Nat) (β:B),(dt ρ0 ρ1 L dH)[i]?=some (some β)->(dt ρ0 ay L dH)[i]?=some (some β)
 | [],ρ1,ay,dH,_,_,_,_,h,i,β,q=>by
  simp only[dt]at q |-;exact h i β (λ_ z=>nomatch z) q
 |io::L,ρ1,ay, [],_,h,_,_,_,_,_,_=>by cases h
 |io::L,ρ1,ay,o::os,hl,h2,hr,jL,h,i,β,q=>by
  obtain⟨d0,e0⟩:=hr io (.head _);rw[dt,e0]at q |-;refine Ol ρ0 (by rw[cB,cB];exact hl) (fU h2) (λj hj=>hr j (.tail _ hj)) (λj hj=>by rw[cB];exact jL j (.tail _ hj)) (λj γ hj z=> ?_) i β q;by_cases c:io.r=j
  ·subst c;have:=jL io (.head _);rw[eY this]at z;rw[eY (by lia)];exact z
  ·rw[gm c]at z |-;exact h j γ (λk hk=>by
    cases hk with
    |head=>exact c
    |tail _ hk=>exact hj k hk) z
theorem aB.weaken(I:aB K n H U σ hv ay τv τd)(hl:Z.length=ay.length)(w:∀(i:Nat) (β:B),Z[i]?=some (some β)->ay[i]?=some (some β)):aB K n H U σ hv Z τv τd:=by
 have l:=I.len;refine⟨?_,by rw[hl];exact l,I.nn⟩;rw[hl];refine I.ok.weaken (by simp[hl]) λi β h=> ?_;by_cases hi:i < Z.length
 ·rw[br hi]at h;rw[br (by lia)];exact w i β h
 ·rw[bK (by lia)]at h;rw[bK (by lia), <- hl];exact h
theorem aB.sets(I:aB K n H U σ hv Z (τv++ws) (τd++wd))(hl:ws.length=wd.length)(i:Nat){d:D}(h1:ws[i]?=some w)(h2:wd[i]?=some d):(σ++hv++(τv++ws).map some)[Z.length + τd.length + i]?=some (some w)/\(Z++bc (τd++wd))[Z.length + τd.length + i]?=some (some (.own d)):=by
 have l:=I.len;have tl:=I.tl;have tl:τv.length=τd.length:=by simp at tl;lia
 constructor
 ·rw[bK (by simp;lia),dF,bK (by simp;lia)];rw[show Z.length + τd.length + i - (σ++hv).length - τv.length=i by simp;lia,h1];rfl
 ·unfold bc;rw[bK (by lia),dF,bK (by lia)];rw[show Z.length + τd.length + i - Z.length - τd.length=i by lia,h2];rfl
def aW(G:List D->Option (D×List D))(as:List Ar)(ρ1:En):Option (D×En):=(dO ρ1 as).bind λds=>
 if bS (bG as)/\as.all (cb (bG as))=true then(G ds).bind λr=>if r.2.length=(bG as).length then some (r.1,b8 ρ1 (bG as) r.2) else none else none
theorem aB.FR{G:List D->Option (D×List D)}{Q:VK}{ρ1:En}(I1:aB K n H1 U1 σ hv ρ1 (τv++ws) (τd++wd))(hl:ws.length=wd.length)(bH:b5 U H U1 H1)(ao:jU K H1 U1 (σ++hv) ρ1 bB vs as ws wd)
  (h:aW G as ρ1=some (d,ρ')) (k:∀v H' U',aB K n H' U' σ hv ρ' (τv++ [v]) (τd++ [d])->b5 U H U' H'->Q v H'):cC K bB G vs H1 Q E:=by
 obtain⟨ds,h2,h⟩:=af.mp h;have c:bS (bG as)/\as.all (cb (bG as))=true:=by
  by_cases c:bS (bG as)/\as.all (cb (bG as))=true
  ·exact c
  ·rw[if_neg c]at h;cases h
 rw[if_pos c]at h;obtain⟨⟨d',dH⟩,h3,h⟩:=af.mp h;have h:(if dH.length=(bG as).length then some (d',b8 ρ1 (bG as) dH) else none)=some (d,ρ'):=h;have co:dH.length=(bG as).length:=by
  by_cases co:dH.length=(bG as).length
  ·exact co
  ·rw[if_neg co]at h;cases h
 rw[if_pos co]at h;cases h;have cU:=ao.len;obtain⟨il,Yw⟩:=ao.Yv;obtain⟨dl,FT⟩:=ao.BR h2;have I2:=I1.Of c.1 FT il Yw;have l2:=I2.len;have Yx:=I1.tl;have lh:(bN ρ1 (bG as) (aV bB vs)).length=ρ1.length:=uo _ _ _;have Yy:(aV bB vs).length=(aV bB ds).length:=BP cU.1 dl
 -- fO is BR is parted from all else
 have FA:cL K H1 U1 ρ1.length ((σ++hv++(τv++ws).map some)++(aV bB vs).map some) ((bN ρ1 (bG as) (aV bB vs)++bc (τd++wd))++bc (aV bB ds)):=by
  have:=I2.ok;rw[lh,cK,cK (l₁:=τd++wd), <- dI, <- dI]at this;exact this
 have lE:(σ++hv++(τv++ws).map some).length=(bN ρ1 (bG as) (aV bB vs)++bc (τd++wd)).length:=by
  unfold bc;have l1:=I1.len;simp[lh]at Yx |-
  lia
 have hm:ρ1.length<=(σ++hv++(τv++ws).map some).length:=by have l1:=I1.len;simp;lia
 obtain⟨Ut,su,Yz,seen,back⟩:=FA.call lE hm (wj _);have wq:=FN FT;refine⟨cU.1,ds,Ut,d,dH,dl,Yz,ao.seen h2 (λi w x hw hx=> ?_) (λq x u pq pd mem=> ?_),h3,λv H2 U2 BL iT=> ?_⟩
 ·-- fO is under way
  obtain⟨g1,g2⟩:=I2.drop (vs:=aV bB vs) (ds:=aV bB ds) Yy |>.sets hl i hw hx;rw[lh]at g1;obtain⟨F,r,nf⟩:=(seen _ w x g1).1 (by rw[lh]at g2;exact g2);exact r.view nf
 ·-- fO is only seen
  cases q with
  |ro y=>
   have pd:some y=some x:=pd;cases pd;have pq:Vw K H1 (λb=>¬ U1 b) u x:=pq;exact pq.mono λb nb z=>nb (su b z)
  |rt r p=>
   obtain⟨hr,vr,d0,er,qT,hg,hp⟩:=pq;have Om:(ai ρ1 r).bind (ag · p)=some x:=pd;rw[qT]at Om;have Oo:ag d0 p=some x:=Om;have BS:(σ++hv++(τv++ws).map some)[r]?=some (some vr):=by rw[br (by have l1:=I1.len;simp;lia)];exact er
   have YA:∀io∈bG as,io.r≠r\/eF io.p p=true:=by
    have:=A3.mp c.2 _ mem;have:=A3.mp this;intro io qV;have:=this io qV;by_cases z:io.r=r
    ·right;simpa[z]using this
    ·left;exact z
   by_cases BU:∃(i:Nat) (io:Io),(bG as)[i]?=some io/\io.r=r
   ·obtain⟨i,io,hi,e⟩:=BU;subst e;obtain⟨v2,FU,q⟩:=FO (vs:=aV bB vs) c.1 il hi qT λj hj=>let ⟨a,_,b,_⟩:=wq j hj;⟨a,b⟩;obtain⟨a0,a1,b0,b1⟩:=wq io (gH hi);rw[qT]at b0;cases b0;have q':=lU q;obtain⟨F,rr,nf⟩:=(seen io.r vr _ BS).1 (by rw[br (by lia)];exact q');have ap:=(YA io (gH hi)).resolve_left λz=>z rfl;exact rr.sub (by rw[Oi ap b1 rfl];exact Oo) hp nf
   ·have q:(bN ρ1 (bG as) (aV bB vs))[r]?=some (some (.own d0)):=by
     rw[BQ λio qV z=>by
      obtain⟨i,hi⟩:=List.mem_iff_getElem?.mp qV;exact BU ⟨i,io,hi,z⟩]
     exact lU qT
    obtain⟨F,rr,nf⟩:=(seen r vr _ BS).1 (by rw[br (by lia)];exact q);exact rr.sub Oo hp nf
 ·-- all is given back
  obtain⟨U3,YB,hZ⟩:=back H2 U2 _ _ BL iT λb hb=>by
   cases hb with
   |head=>exact .inr ⟨d,rfl⟩
   |tail _ hb=>exact X3 dH b hb
  have I3:aB K n H2 U3 σ hv (aZ (bN ρ1 (bG as) (aV bB vs))) (τv++ws++(v::aV bB vs)) (τd++wd++(d::dH)):=by
   refine⟨?_,by rw[i6,lh];exact I1.len,I1.nn⟩;rw[i6,lh];have YC:cL K H2 U3 ρ1.length (σ++hv++(τv++ws).map some++(v::aV bB vs).map some) ((aZ (bN ρ1 (bG as) (aV bB vs))++bc (τd++wd))++bc (d::dH)):=by
    refine YB.weaken (by rw[cc,cc,cc,i6,i6,cc];rfl) λi β aL=> ?_;by_cases hi:i < ρ1.length + (τd++wd).length
    ·rw[br (by simp[i6,bc,lh]at hi |-;lia)]at aL;rw[br (by simp[i6,bc,lh]at hi |-;lia)];exact N1 (wj _) i β aL
    ·rw[bK (by simp[i6,bc,lh]at hi |-;lia)]at aL;rw[bK (by simp[i6,bc,lh]at hi |-;lia)];simp[i6,bc,lh]at aL |-;exact aL
   rw[cK (l₁:=τv++ws),cK (l₁:=τd++wd), <- dI, <- dI];exact YC
  have I4:=I3.Yq hl (by rw[gc,gc,il,co]);have I5:aB K n H2 U3 σ hv (aZ (bN ρ1 (bG as) (aV bB vs))) (τv++ [v]++aV bB vs) (τd++ [d]++dH):=by
   rw[<- pB, <- pB];exact I4
  have I6:=I5.Oj ρ1 (L:=bG as) c.1 il co λi io u hi hu=>by
   obtain⟨a0,a1,b0,b1⟩:=wq io (gH hi);obtain⟨v2,FU,q⟩:=FO (vs:=aV bB vs) c.1 il hi b0 λj hj=>let ⟨a,_,b,_⟩:=wq j hj;⟨a,b⟩;rw[hu]at FU;cases FU;exact⟨a0,a1,b0,b1,by unfold ai;rw[NZ (lU q)]⟩
  refine k v H2 U3 (I6.weaken ?_ ?_) (bH.trans hZ)
  ·unfold b8;rw[FQ,FQ,i6,i6,uo,uo]
  ·unfold b8;refine Ol ρ1 (by rw[i6,i6,uo,uo]) co (λio qV=>let ⟨a,_,b,_⟩:=wq io qV;⟨a,b⟩) (λio qV=> ?_) λi β hi aL=> ?_
   ·obtain⟨a,_,b,_⟩:=wq io qV;rw[i6,uo];exact(bW.mp (lU b)).1
   ·unfold aZ at aL |-;rw[dF,BQ hi]at aL |-;rw[<- aL];have sim:sC (bN ρ1 (bG as) (aV bB vs)) (bN ρ1 (bG as) ((bG as).map λ_=>V.aE)):=Yu c.1 FT il (by simp)
    congr 1
    funext b;exact Ys sim b
instance aip[A:SC K n bB ta fa]:SM K n (tU (cC K bB G) [] E ta) (λZ=>(fa Z).bind λa=>aW G a.1 a.2):=⟨λ{σ hv H U Z ρ' τv τd d Q} I h k=>by
 obtain⟨⟨as,ρ1⟩,h1,h⟩:=af.mp h;refine A.s I h1 λvs ws wd H1 U1 I1 hl bH ao=> ?_;show cC K bB G (vs++ []) H1 Q E;rw[fE];exact I1.FR hl bH ao h k⟩
def jV(K:aj)(H H':Hp)(vs:List V)(ds:List D):Prop:=vs.length=ds.length/\∃Fs:Nat->Addr->Prop,(∀i j b,Fs i b->Fs j b->i=j)/\(∀i b,Fs i b->H b=none/\jC (H' b))/\∀(i:Nat) (v:V) (d:D),vs[i]?=some v->ds[i]?=some d->bj K H' (Fs i) v d
theorem jV.nil:jV K H H' [] []:=⟨rfl,λ_ _=>False,λ_ _ _ z=>z.elim,λ_ _ z=>z.elim,λi v d h=>by simp at h⟩
theorem jV.cons(o:eX K H H1 v d)(s1:aP H1 H2)(t:jV K H1 H2 vs ds)(s0:aP H H1):jV K H H2 (v::vs) (d::ds):=by
 obtain⟨G,r,f⟩:=o;obtain⟨hl,Fs,dj,fr,rp⟩:=t;have Gn:∀b,G b->∀i,¬ Fs i b:=λb z i w=>by
  obtain⟨u,q⟩:=sm (f b z).2;rw[(fr i b w).1]at q;cases q
 refine⟨by rw[gc,gc,hl],λi b=>match i with | 0=>G b | i + 1=>Fs i b,λi j b hi hj=> ?_,λi b hb=> ?_,λi x y hx hy=> ?_⟩
 ·cases i with
  |zero=>cases j with
   |zero=>rfl
   |succ j=>exact absurd hj (Gn b hi j)
  |succ i=>cases j with
   |zero=>exact absurd hi (Gn b hj i)
   |succ j=>rw[dj i j b hi hj]
 ·cases i with
  |zero=>exact⟨(f b hb).1,yC (f b hb).2 s1⟩
  |succ i=>
   refine⟨?_,(fr i b hb).2⟩;cases q:H b with
   |none=>rfl
   |some o=>have:=(fr i b hb).1;rw[s0 b o q]at this;cases this
 ·cases i with
  |zero=>cases hx;cases hy;exact r.same s1
  |succ i=>exact rp i x y (by simpa using hx) (by simpa using hy)
theorem jV.node(h:jV K H H1 vs ds)(s:aP H H1)(hp:H1 p=none)(hold:(k= .tup/\o= .tup vs)\/(dk k=false/\fits K k vs.length/\∃dx,o=ho k dx vs)):eX K H (upd H1 p o) (.ref p) (.nd k ds):=by
 obtain⟨hl,Fs,dj,fr,rp⟩:=h;have s2:aP H1 (upd H1 p o):=gW hp o;have np:∀i,¬ Fs i p:=λi z=>by
  obtain⟨u,w⟩:=sm (fr i p z).2;rw[hp]at w;cases w
 have YD:H p=none:=s.free hp;refine⟨λb=>(∃i,Fs i b)\/(dk k=false/\b=p), .nd Fs ?_ hl dj (λi b hb=>⟨.inl ⟨i,hb⟩,λ_ z=>by rw[z]at hb;exact np i hb⟩) λi v d hv hd=>(rp i v d hv hd).same s2,λb hb=> ?_⟩
 ·rcases hold with⟨h1,h2⟩ | ⟨h1,h2,dx,h3⟩
  ·subst h1;show upd H1 p o p=some (.tup vs);rw[eJ,h2]
  ·exact jM.put h1 (.inr ⟨h1,rfl⟩) ⟨h1,h2,dx,by rw[eJ,h3]⟩
 ·rcases hb with⟨i,hb⟩ | ⟨h1,rfl⟩
  ·exact⟨(fr i b hb).1,yC (fr i b hb).2 s2⟩
  ·refine⟨YD, ?_⟩;rcases hold with⟨z,_⟩ | ⟨_,_,dx,h3⟩
   ·subst z;cases h1
   ·rw[eJ,h3];exact NV (a:=b) h1
class wt(K:aj)(n:Nat)(t:TA)(f:outParam (En->Option (List D))):Prop where
 s:∀{σ hv:List (Option V)} {H:Hp} {U:Addr->Prop} {Z:En} {τv:List V} {τd:List D} {ds:List D} {Q:List V->Hp->Prop},aB K n H U σ hv Z τv τd->f Z=some ds->(∀vs H',aP H H'->jV K H H' vs ds->Q vs H')->t σ H Q
instance aiq:wt K n gU (λ_=>some []):=⟨λI h k=>by cases h;exact k [] _ (aP.refl _) .nil⟩
instance air[A:SQ K n ta fa][R:wt K n tr fr]:wt K n (e9 ta tr) (aq fa fr):=⟨λ{σ hv H U Z τv τd ds Q} I h k=>by
 obtain⟨a,ha,h⟩:=af.mp h;obtain⟨r,hr,h⟩:=bg.mp h;cases h;refine A.o I ha λx H1 s1 o1=> ?_;exact R.s (I.same s1) hr λxs H2 s2 o2=>k (x::xs) H2 (s1.trans s2) (jV.cons o1 s2 o2 s1)⟩
noncomputable def cM (k:Kd) (f:En->Option (List D)) (Z:En):Option D:=(f Z).bind λr=>if r.length<=aM then some (.nd k r) else none
instance ais[A:wt K n ta fa]:SF K n (rW ta) (cM .tup fa):=⟨λ{σ hv H U Z τv τd d Q} I h k=>by
 obtain⟨a,ha,h⟩:=af.mp h;by_cases c:a.length<=aM
 ·rw[if_pos c]at h;cases h;refine A.s I ha λxs H1 s1 o=>⟨by rw[o.1];exact c,λp hp=> ?_⟩
  exact k _ _ (s1.trans (gW hp _)) (o.node s1 hp (.inl ⟨rfl,rfl⟩))
 ·rw[if_neg c]at h;cases h⟩
instance YE[A:wt K n ta fa]:SF K n (vQ ta) (cM .lst fa):=⟨λ{σ hv H U Z τv τd d Q} I h k=>by
 obtain⟨a,ha,h⟩:=af.mp h;by_cases c:a.length<=aM
 ·rw[if_pos c]at h;cases h;refine A.s I ha λxs H1 s1 o=>⟨by rw[o.1];exact c,λp hp=> ?_⟩
  exact k _ _ (s1.trans (gW hp _)) (o.node s1 hp (.inr ⟨rfl,trivial,0,rfl⟩))
 ·rw[if_neg c]at h;cases h⟩
theorem dB.node(h:dB K H T1 vs ds)(hp:H p=none)(hold:(k= .tup/\o= .tup vs)\/(dk k=false/\fits K k vs.length/\∃dx,o=ho k dx vs)):Vw K (upd H p o) T1 (.ref p) (.nd k ds):=by
 refine .nd (λ_=>trivial) ?_ h.1 λi v d hv hd=>(h.2 i v d hv hd).same (gW hp o);rcases hold with⟨h1,h2⟩ | ⟨h1,h2,dx,h3⟩
 ·subst h1;exact⟨trivial,by show upd H p o p=some (.tup vs);rw[eJ,h2]⟩
 ·exact qO.cell ⟨h1,h2,dx,by rw[eJ,h3]⟩
instance (priority:=800) ait{ta:TA}{fa:En->Option (List D)}[A:SA K n ta fa]:SV K n (rW ta) (cM .tup fa):=⟨λ{σ hv H U Z τv τd d Q} I h k=>by
 obtain⟨a,ha,h⟩:=af.mp h;by_cases c:a.length<=aM
 ·rw[if_pos c]at h;cases h;refine A.s I ha λxs H1 s1 o=>⟨by rw[o.1];exact c,λp hp=> ?_⟩
  exact k _ _ (s1.trans (gW hp _)) (o.node hp (.inl ⟨rfl,rfl⟩))
 ·rw[if_neg c]at h;cases h⟩
instance (priority:=800) aiu{ta:TA}{fa:En->Option (List D)}[A:SA K n ta fa]:SV K n (vQ ta) (cM .lst fa):=⟨λ{σ hv H U Z τv τd d Q} I h k=>by
 obtain⟨a,ha,h⟩:=af.mp h;by_cases c:a.length<=aM
 ·rw[if_pos c]at h;cases h;refine A.s I ha λxs H1 s1 o=>⟨by rw[o.1];exact c,λp hp=> ?_⟩
  exact k _ _ (s1.trans (gW hp _)) (o.node hp (.inr ⟨rfl,trivial,0,rfl⟩))
 ·rw[if_neg c]at h;cases h⟩
open Classical in
noncomputable def intD (C:Int->Int->Prop) (g:Int->Int->V) (a b:D):Option D:=match a,b with
 |.sc (.int i), .sc (.int j)=>if C i j then some (.sc (g i j)) else none
 |_,_=>none
noncomputable def cN (g:Int->Int->V) (a b:D):Option D:=match a,b with
 |.sc (.int i), .sc (.int j)=>some (.sc (g i j))
 |_,_=>none
instance aiv:lV K (pT g) (cN g):=⟨λ{H x y dx dy d Q} w1 w2 h k=>by
 unfold cN at h
 split at h
 ·next i j=>cases h;exact⟨i,j,w1.dm,w2.dm,k _ H (aP.refl H) (.sc _)⟩
 ·cases h⟩
instance aiw:lV K (rI C g) (intD C g):=⟨λ{H x y dx dy d Q} w1 w2 h k=>by
 unfold intD at h
 split at h
 ·next i j=>
  by_cases c:C i j
  ·rw[if_pos c]at h;cases h;exact⟨i,j,w1.dm,w2.dm,c,k _ H (aP.refl H) (.sc _)⟩
  ·rw[if_neg c]at h;cases h
 ·cases h⟩
noncomputable def yJ (g:Int->V) (a:D):Option D:=match a with
 |.sc (.int i)=>some (.sc (g i))
 |_=>none
instance aix:NT K (rU g) (yJ g):=⟨λ{H x dx d Q} w1 h k=>by
 unfold yJ at h
 split at h
 ·next i=>cases h;exact⟨i,w1.dm,k _ H (aP.refl H) (.sc _)⟩
 ·cases h⟩
mutual
noncomputable def cy:D->Option PyData
 |.sc .aE=>some .none
 |.sc (.bl b)=>some (.bool b)
 |.sc (.int i)=>some (.int i)
 |.sc (.str x)=>some (.str x)
 |.nd .tup cs=>(kh cs).map .tuple
 |.nd .lst cs=>(kh cs).map .list
 |.nd .eT cs=>(kh cs).map .list
 |_=>none
noncomputable def kh:List D->Option (List PyData)
 | []=>some []
 |d::ds=>(cy d).bind λx=>(kh ds).map (x:: ·)
end
theorem BV:∀{ds:List D} {vs:List V} {ps:List PyData},vs.length=ds.length->(∀(i:Nat) (v:V) (d:D) (p:PyData),vs[i]?=some v->ds[i]?=some d->cy d=some p->jR K H v p)->kh ds=some ps->uc K H vs ps
 | [], [],_,_,_,h=>by rw[kh]at h;cases h;exact .nil
 | [],_::_,_,h,_,_=>by cases h
 |_::_, [],_,h,_,_=>by cases h
 |d::ds,v::vs,ps,hl,hk,h=>by
  rw[kh]at h;obtain⟨x,h1,h⟩:=af.mp h;obtain⟨r,h2,h⟩:=bg.mp h;subst h;exact .cons (hk 0 v d x rfl rfl h1) (BV (fU hl) (λi v d p a b c=>hk (i + 1) v d p (by simpa using a) (by simpa using b) c) h2)
theorem Vw.py(h:Vw K H N v d):∀{p:PyData},cy d=some p->jR K H v p:=by
 induction h with
 |sc v=>
  intro p e;cases v with
  |aE=>rw[cy]at e;cases e;exact .aE
  |bl b=>rw[cy]at e;cases e;exact .bl b
  |int i=>rw[cy]at e;cases e;exact .int i
  |str x=>rw[cy]at e;cases e;exact .str x
  |xW _=>simp[cy]at e
  |j9 _=>simp[cy]at e
  |ref _=>simp[cy]at e
  |ty _=>simp[cy]at e
 |hl v=>intro p e;simp[cy]at e
 | @nd a k vs cs h1 h2 h3 _ ih=>
  intro p e;cases k with
  |tup=>
   rw[cy]at e;obtain⟨ps,e1,e2⟩:=bg.mp e;subst e2;exact .tup (cP.of h2.2) (BV h3 (λi v d p x y z=>ih i v d x y z) e1)
  |lst=>
   rw[cy]at e;obtain⟨ps,e1,e2⟩:=bg.mp e;subst e2;exact .lst (.inl (.inl h2.2)) (BV h3 (λi v d p x y z=>ih i v d x y z) e1)
  |eT=>
   rw[cy]at e;obtain⟨ps,e1,e2⟩:=bg.mp e;subst e2;exact .lst (jS.sq h2.2) (BV h3 (λi v d p x y z=>ih i v d x y z) e1)
  |_=>simp[cy]at e
def FV(K:aj):R2:=λx y H Q=>∃dx dy,jR K H x dx/\jR K H y dy/\dx.canLay0=true/\dy.canLay0=true/\dx.depth<=60/\Q (.bl (fM dx dy)) H
def FW(K:aj):R2:=λx y H Q=>∃dx dy,jR K H x dx/\jR K H y dy/\dx.canLay0=true/\dy.canLay0=true/\dx.depth<=60/\Q (.bl (!fM dx dy)) H
theorem YF(hu:X.A.units + 64 < cLine):dJ X (jd .Eq) (FV X.K):=XI hu
theorem YG(hu:X.A.units + 64 < cLine):dJ X (jd .NotEq) (FW X.K):=XJ hu
def bZ(g:Bool->Bool)(a b:D):Option D:=(cy a).bind λx=>(cy b).bind λy=>if x.canLay0=true/\y.canLay0=true/\x.depth<=60 then some (.sc (.bl (g (fM x y)))) else none
instance aiy:lV K (FV K) (bZ id):=⟨λ{H x y dx dy d Q} w1 w2 h k=>by
 obtain⟨a,h1,h⟩:=af.mp h;obtain⟨b,h2,h⟩:=af.mp h;by_cases c:a.canLay0=true/\b.canLay0=true/\a.depth<=60
 ·rw[if_pos c]at h;cases h;exact⟨a,b,w1.py h1,w2.py h2,c.1,c.2.1,c.2.2,k _ H (aP.refl H) (.sc _)⟩
 ·rw[if_neg c]at h;cases h⟩
instance aiz:lV K (FW K) (bZ (!·)):=⟨λ{H x y dx dy d Q} w1 w2 h k=>by
 obtain⟨a,h1,h⟩:=af.mp h;obtain⟨b,h2,h⟩:=af.mp h;by_cases c:a.canLay0=true/\b.canLay0=true/\a.depth<=60
 ·rw[if_pos c]at h;cases h;exact⟨a,b,w1.py h1,w2.py h2,c.1,c.2.1,c.2.2,k _ H (aP.refl H) (.sc _)⟩
 ·rw[if_neg c]at h;cases h⟩
end
end VL
namespace L2
open PySem PySem.Spec PyProof.Rows
section
end
theorem BW:([x]:List Str).Nodup:=nc.mpr ⟨oe,LL⟩
def p8(K:aj)(T:String):List V->Hp->VK->Prop:=λxs H Q=>∃x t b,xs= [x, .ty T]/\kP K H x t/\vh K t (.type T)=some b/\Q (.bl b) H
theorem BX:i4 X (.builtin "isinstance") (p8 X.K T):=Xd
theorem YH(K:aj)(a b:String)(h1:((ve a) == (ve b))=false)(h2:W.kitMeta b=true)(h3:(fastBuiltinMro a).map (·.contains (.type b))=some false):vh K (.type a) (.type b)=some false:=by
 unfold vh;rw[h1,if_neg (by simp)];show(if W.kitMeta b=true then W.subIn K (.type a) (.type b) else none)=some false;rw[if_pos h2];exact h3
section
variable (K:aj)
end
section
theorem qX{K:aj}(hK:X.K=K){k:Nat}{pos:Pos}(hc:X.calm=true)(h:yh X es t)(hn:(u5 es X.env).length=n:=by rfl)(tR:(u5 es X.env).findIdx? (·.1)=none:=by rfl):
  PG X (.Tuple es k pos) (vI K n t):=by
 subst hK;exact Vn hc h hn tR
end
end L2
namespace VL
open PySem PySem.Spec PyProof.Rows L2
section
variable {κ:Type}[DecidableEq κ]
noncomputable def cZ (k:κ):List κ->Option Nat
 | []=>none
 |g::r=>if g=k then some 0 else(cZ k r).map (· + 1)
theorem FX:∀{ks:List κ} {vs:List V},ks.length=vs.length->oB (ks.zip vs) k=(cZ k ks).bind (vs[·]?)
 | [], [],_=>rfl
 | [],_::_,h=>by cases h
 |_::_, [],h=>by cases h
 |g::r,v::vs,h=>by
  rw[qu,cZ];by_cases c:g=k
  ·rw[Bv (by exact c),if_pos c];rfl
  ·rw[Bw (by exact c),if_neg c,FX (fU h)];cases cZ k r with
   |none=>rfl
   |some i=>simp
theorem yK:∀{ks:List κ} {i:Nat},cZ k ks=some i->i < ks.length
 | [],_,h=>by cases h
 |g::r,i,h=>by
  rw[cZ]at h;by_cases c:g=k
  ·rw[if_pos c]at h;cases h;exact LJ _
  ·rw[if_neg c]at h;obtain⟨j,h1,h2⟩:=bg.mp h;subst h2;exact UA (yK h1)
theorem FY:∀{ks:List κ} {vs:List V},ks.length=vs.length->((ks.zip vs).any λkv=>decide (kv.1=k))=(cZ k ks).isSome
 | [], [],_=>rfl
 | [],_::_,h=>by cases h
 |_::_, [],h=>by cases h
 |g::r,v::vs,h=>by
  rw[qu,cZ,xS];by_cases c:g=k
  ·rw[if_pos c];simp[c]
  ·rw[if_neg c,FY (fU h)];cases cZ k r <;> simp[c]
end
noncomputable def cG:D->Option bw
 |.sc (.int i)=>some (.inl i)
 |.sc (.str x)=>some (.inr x)
 |_=>none
def qm:List D->Option (List bw)
 | []=>some []
 |d::r=>(cG d).bind λk=>(qm r).map (k:: ·)
section
variable {K:aj}{n:Nat}{H H' H1 H2:Hp}{U U':Addr->Prop}{σ hv:List (Option V)}{Z ρ':En}{τv vs:List V}{τd ds:List D}{v y:V}{d:D}{N:Addr->Prop}
theorem Vw.key(h:Vw K H N v d)(e:cG d=some k):v=kV k:=by
 unfold cG at e
 split at e
 ·cases e;exact h.dm
 ·cases e;exact h.dm
 ·cases e
theorem FZ:∀{cs:List D} {vs:List V} {ks:List bw},vs.length=cs.length->(∀(i:Nat) (v:V) (d:D),vs[i]?=some v->cs[i]?=some d->Vw K H N v d)->qm cs=some ks->vs=ks.map kV
 | [], [],_,_,_,h=>by rw[qm]at h;cases h;rfl
 | [],_::_,_,h,_,_=>by cases h
 |_::_, [],_,h,_,_=>by cases h
 |d::cs,v::vs,ks,hl,hk,h=>by
  rw[qm]at h;obtain⟨x,h1,h⟩:=af.mp h;obtain⟨r,h2,h⟩:=bg.mp h;subst h;rw[eI,(hk 0 v d rfl rfl).key h1,FZ (fU hl) (λi v d a b=>hk (i + 1) v d (by simpa using a) (by simpa using b)) h2]
def cY(d i:D):Option (Option Nat):=match d,i with
 |.nd (.az ks) _,i=>(cG i).map λk=>cZ k ks
 |.nd (.mN ks) _, .nd .tup cs=>(qm cs).map λk=>cZ k ks
 |_,_=>none
theorem jb.F0(hc:jb K H a k vs)(hl:vs.length=cs.length)(w:Vw K H N y dy)(h:cY (.nd k cs) dy=some o):sg H a y (o.bind (vs[·]?)):=by
 unfold cY at h
 split at h
 ·next ks _ i e=>
  cases e;obtain⟨kk,h1,h2⟩:=bg.mp h;subst h2;exact .inl ⟨_,kk,hc.2,w.key h1,(FX hc.1).symm⟩
 ·next ks _ gX e=>
  cases e;obtain⟨kk,h1,h2⟩:=bg.mp h;subst h2;obtain⟨b,us,rfl,_,hb,gV,dq⟩:=w.node;have e:=FZ gV dq h1;exact .inr ⟨_,kk,b,hc.2,rfl,by rw[<- e];exact hb.2,(FX hc.1).symm⟩
 ·cases h
theorem jb.YI(hc:jb K H a k vs)(h:cY (.nd k cs) dy=some (some i)):i < vs.length:=by
 unfold cY at h
 split at h
 ·next ks _ i e=>
  cases e;obtain⟨kk,h1,h2⟩:=bg.mp h;have:=yK h2;have:=hc.1;show _ < _;unfold fits at this
  lia
 ·next ks _ gX e=>
  cases e;obtain⟨kk,h1,h2⟩:=bg.mp h;have:=yK h2;have:=hc.1;unfold fits at this
  lia
 ·cases h
theorem jb.YJ(hc:jb K H a k vs)(h:cY (.nd k cs) dy=some o):(o.bind (vs[·]?)).isSome=o.isSome:=by
 cases o with
 |none=>rfl
 |some i=>
  show(vs[i]?).isSome=true;rw[gn (hc.YI h)];rfl
def Oq:R2:=λx y H Q=>∃a v,x= .ref a/\sg H a y (some v)/\Q v H
def F2(K:aj):R2:=λx y H Q=>ET K x y H Q\/Oq x y H Q
theorem YK(hu:X.A.units + 1 < cLine):nB X Oq:=by
 intro value slice aa s σ H x y v u Q I rx ry h hs;obtain⟨a,w,rfl,g,q⟩:=h;cases rx;have hT:=W9 I g;unfold T2;refine bq ?_;rw[getitemInPython_of_ne hT.not_modules];refine bq (wpAny_specialOf hT PySem.F.slot_dict_getitem.lookup ?_);have dD:wpAny (model X.prog X.w) X.A (subscripted slice false (.ref a) u) (λr oE=>wpAny (model X.prog X.w) X.A (letTemporaryGo value (.ref a) r >>= λ_=>pure r) (EP X aa σ Q) X.xe oE) X.xe s:=by
  rw[hs];exact wpAny_operating (W6 hu I g ry λw' s3 I3 oA=>bq (wpAny_letTemporaryGo (dw ⟨w,H,I3,oA,q⟩)))
 first
  |exact dw (bq dD)
  |exact bq (dw (bq dD))
  |exact bq dD
theorem YL(hu:X.A.units + 1 < cLine):nB X (F2 X.K):=nB.or Wn (YK hu)
def aC(d i:D):Option Nat:=match dC d i with
 |some j=>some j
 |none=>(cY d i).join
instance aiA:uj K (F2 K) aC bx where
 t:=λw2 h q=> .inl (N8.t w2 h q)
 s:=λ{H a k vs cs y u dy i Q} hc hl w2 h hu q=>by
  unfold aC at h
  split at h
  ·next j e=>cases h;exact .inl (N8.s hc hl w2 e hu q)
  ·cases e:cY (.nd k cs) dy with
   |none=>rw[e]at h;cases h
   |some o=>
    rw[e]at h;have h:o=some i:=h;subst h;have g:=hc.F0 hl w2 e;have:(some i).bind (vs[·]?)=some u:=hu;rw[this]at g;exact .inr ⟨a,u,rfl,g,q⟩
def YM:R2:=λx y H Q=>∃i j,x= .str i/\y= .str j/\Q (.bl (!(Uc j i 0 j.length 1).isEmpty)) H
def Ot(g:Bool->Bool):R2:=λx y H Q=>∃a o,y= .ref a/\sg H a x o/\Q (.bl (g o.isSome)) H
theorem YN(hu:X.A.units + 1 < cLine):dJ X (jd .In) (Ot id):=by
 intro aa s σ H x y v u Q I rx ry h;obtain⟨a,o,rfl,g,q⟩:=h;cases ry;exact W7 hu I g rx λs3 I3=>⟨.bl o.isSome,H,I3,rfl,q⟩
theorem dJ.or(h:dJ X f r)(h':dJ X f r'):dJ X f (λx y H Q=>r x y H Q\/r' x y H Q):=by
 intro aa s σ H x y v u Q I rx ry q;rcases q with q | q
 ·exact h aa s σ H x y v u Q I rx ry q
 ·exact h' aa s σ H x y v u Q I rx ry q
def F3(K:aj):R2:=λx y H Q=>MW K false x y H Q\/Ot id x y H Q\/YM x y H Q
theorem YO(hu:X.A.units + 1 < cLine):dJ X (jd .In) (F3 X.K):=dJ.or Wv (dJ.or (YN hu) Vz)
noncomputable def qY:List D->Option (List V)
 | []=>some []
 |.sc v::r=>(qY r).map (v:: ·)
 |_::_=>none
theorem F4:∀{cs:List D} {vs us:List V},vs.length=cs.length->(∀(i:Nat) (v:V) (d:D),vs[i]?=some v->cs[i]?=some d->Vw K H N v d)->qY cs=some us->vs=us
 | [], [],_,_,_,h=>by rw[qY]at h;cases h;rfl
 | [],_::_,_,h,_,_=>by cases h
 |_::_, [],_,h,_,_=>by cases h
 |.sc x::cs,v::vs,us,hl,hk,h=>by
  rw[qY]at h;obtain⟨r,h2,h⟩:=bg.mp h;subst h;rw[(hk 0 v (.sc x) rfl rfl).dm,F4 (fU hl) (λi v d a b=>hk (i + 1) v d (by simpa using a) (by simpa using b)) h2]
 |.nd _ _::cs,v::vs,us,hl,hk,h=>by simp[qY]at h
 |.hl _::cs,v::vs,us,hl,hk,h=>by simp[qY]at h
def xC(a b:D):Option Bool:=match a,b with
 |.sc (.str x), .sc (.str y)=>some (!(Uc y x 0 y.length 1).isEmpty)
 |.sc x, .nd .lst cs=>(qY cs).bind λus=>if kb x=true/\us.all kb=true then some (yp x us) else none
 |.sc x, .nd .tup cs=>(qY cs).bind λus=>if kb x=true/\us.all kb=true then some (yp x us) else none
 |a,b=>(cY b a).map (·.isSome)
instance aiB:lV K (F3 K) (λa b=>(xC a b).map λb=> .sc (.bl b)):=⟨λ{H x y dx dy d Q} w1 w2 h k=>by
 obtain⟨b,h1,h2⟩:=bg.mp h;subst h2;have dD:Q (.bl b) H:=k _ H (aP.refl H) (.sc _);unfold xC at h1
 split at h1
 ·next i j=>
  cases h1;exact .inr (.inr ⟨i,j,w1.dm,w2.dm,dD⟩)
 ·next z cs=>
  obtain⟨us,e1,e2⟩:=af.mp h1;by_cases c:kb z=true/\us.all kb=true
  ·rw[if_pos c]at e2;cases e2;obtain⟨a,vs,rfl,_,hc,hl,dq⟩:=w2.node;have:=F4 hl dq e1;subst this;rw[w1.dm];exact .inl ⟨a,vs,rfl, .inl (cV.of hc.2),c.1,c.2,dD⟩
  ·rw[if_neg c]at e2;cases e2
 ·next z cs=>
  obtain⟨us,e1,e2⟩:=af.mp h1;by_cases c:kb z=true/\us.all kb=true
  ·rw[if_pos c]at e2;cases e2;obtain⟨a,vs,rfl,_,hc,hl,dq⟩:=w2.node;have:=F4 hl dq e1;subst this;rw[w1.dm];exact .inl ⟨a,vs,rfl, .inr (cP.of hc.2),c.1,c.2,dD⟩
  ·rw[if_neg c]at e2;cases e2
 ·obtain⟨o,e1,e2⟩:=bg.mp h1;subst e2;cases dy with
  |sc _=>simp[cY]at e1
  |hl _=>simp[cY]at e1
  |nd kk cs=>
   obtain⟨a,vs,rfl,_,hc,hl,dq⟩:=w2.node;have g:=hc.F0 hl w1 e1;have e3:=hc.YJ e1;exact .inr (.inl ⟨a,_,rfl,g,by rw[e3];exact dD⟩)⟩
def Ou:R2:=λx y H Q=>y= .aE/\Q (.bl (!decide (x= .aE))) H
theorem YQ:dJ X (jd .IsNot) Ou:=VA
noncomputable def BY:D->Option Bool
 |.sc v=>some (decide (v= .aE))
 |.nd _ _=>some false
 |.hl _=>none
def BZ(g:Bool->Bool)(a b:D):Option D:=match b with
 |.sc .aE=>(BY a).map λb=> .sc (.bl (g b))
 |_=>none
theorem YR(w:Vw K H N v d)(h:BY d=some b):decide (v= .aE)=b:=by
 cases d with
 |sc z=>cases h;rw[w.dm]
 |nd k cs=>cases h;obtain⟨a,_,rfl,_⟩:=w.node;rfl
 |hl _=>cases h
instance aiC:lV K Ou (BZ (!·)):=⟨λ{H x y dx dy d Q} w1 w2 h k=>by
 unfold BZ at h
 split at h
 ·obtain⟨b,h1,h2⟩:=bg.mp h;subst h2;exact⟨w2.dm,by rw[YR w1 h1];exact k _ H (aP.refl H) (.sc _)⟩
 ·cases h⟩
def YS:R2:=λx y H Q=>∃i j,x= .str i/\y= .str j/\i.length + j.length<=aM/\Q (.str (i++j)) H
def yL(K:aj):R2:=λx y H Q=>pT (λi j=> .int (i + j)) x y H Q\/YS x y H Q\/M3 x y H Q\/EN K x y H Q
theorem YT:dJ X (kE .Add) (yL X.K):=dJ.or Vu (dJ.or VC (dJ.or WN ML))
def gP(a b:D):Option D:=match a,b with
 |.sc (.int i), .sc (.int j)=>some (.sc (.int (i + j)))
 |.sc (.str i), .sc (.str j)=>if i.length + j.length<=aM then some (.sc (.str (i++j))) else none
 |.nd .lst xs, .nd .lst ys=>if xs.length + ys.length<=aM/\aK (xs++ys)=true then some (.nd .lst (xs++ys)) else none
 |.nd .tup xs, .nd .tup ys=>if xs≠ []/\xs.length + ys.length<=aM/\aK (xs++ys)=true then some (.nd .tup (xs++ys)) else none
 |_,_=>none
theorem dB.app(h:dB K H N vs ds)(h':dB K H N us es):dB K H N (vs++us) (ds++es):=by
 refine⟨by rw[cc,cc,h.1,h'.1],λi v d hv hd=> ?_⟩;by_cases c:i < vs.length
 ·rw[br c]at hv;rw[br (by rw[<- h.1];exact c)]at hd;exact h.2 i v d hv hd
 ·rw[bK (by lia)]at hv;rw[bK (by rw[<- h.1];lia), <- h.1]at hd;exact h'.2 _ v d hv hd
theorem dB.own(h:dB K H T1 vs ds)(pl:aK ds=true)(hp:H p=none)(hold:(k= .tup/\o= .tup vs)\/(dk k=false/\fits K k vs.length/\∃dx,o=ho k dx vs)):eX K H (upd H p o) (.ref p) (.nd k ds):=
 jV.node (H:=H) (H1:=H) ⟨h.1,λ_ _=>False,λ_ _ _ z=>z.elim,λ_ _ z=>z.elim,λi v d hv hd=>(h.2 i v d hv hd).plain (oK pl hd)⟩ (aP.refl H) hp hold
theorem Vw.gN(w:Vw K H T1 v (.nd k cs)):∃a vs,v= .ref a/\jb K H a k vs/\dB K H T1 vs cs:=by
 obtain⟨a,vs,e,_,hc,hl,dq⟩:=w.node;exact⟨a,vs,e,hc,hl,dq⟩
instance YU:lV K (yL K) gP:=⟨λ{H x y dx dy d Q} w1 w2 h k=>by
 unfold gP at h
 split at h
 ·next i j=>cases h;exact .inl ⟨i,j,w1.dm,w2.dm,k _ H (aP.refl H) (.sc _)⟩
 ·next i j=>
  by_cases c:i.length + j.length<=aM
  ·rw[if_pos c]at h;cases h;exact .inr (.inl ⟨i,j,w1.dm,w2.dm,c,k _ H (aP.refl H) (.sc _)⟩)
  ·rw[if_neg c]at h;cases h
 ·next xs ys=>
  by_cases c:xs.length + ys.length<=aM/\aK (xs++ys)=true
  ·rw[if_pos c]at h;cases h;obtain⟨a,vs,rfl,hc,vl⟩:=w1.gN;obtain⟨b,us,rfl,gq,ul⟩:=w2.gN;refine .inr (.inr (.inl ⟨a,b,vs,us,rfl,rfl,hc.2,gq.2,by rw[vl.1,ul.1];exact c.1,λp hp=> ?_⟩));exact k _ _ (gW hp _) ((vl.app ul).own c.2 hp (.inr ⟨rfl,trivial,0,rfl⟩))
  ·rw[if_neg c]at h;cases h
 ·next xs ys=>
  by_cases c:xs≠ []/\xs.length + ys.length<=aM/\aK (xs++ys)=true
  ·rw[if_pos c]at h;cases h;obtain⟨a,vs,rfl,hc,vl⟩:=w1.gN;obtain⟨b,us,rfl,gq,ul⟩:=w2.gN;have nv:vs≠ []:=λz=>by
    subst z;have:=vl.1;exact c.1 (rG this.symm)
   refine .inr (.inr (.inr ⟨a,b,vs,us,rfl,rfl,cP.of hc.2,cP.of gq.2,nv,by rw[vl.1,ul.1];exact c.2.1,λz=> ?_,λ_ p hp=> ?_⟩))
   ·subst z;have e:ys= []:=rG ul.1.symm;subst e;rw[fE]at c k;exact k _ H (aP.refl H) (eX.plain w1 c.2.2)
   ·exact k _ _ (gW hp _) ((vl.app ul).own c.2.2 hp (.inl ⟨rfl,rfl⟩))
  ·rw[if_neg c]at h;cases h
 ·cases h⟩
class p9(K:aj)(r:List V->Hp->VK->Prop)(g:outParam (List D->Option D)):Prop where
 s:∀{H:Hp} {vs:List V} {ds:List D} {d:D} {Q:VK},dB K H T1 vs ds->g ds=some d->(∀v H',aP H H'->eX K H H' v d->Q v H')->r vs H Q
instance aiD[A:SA K n ta fa][C:p9 K r g]:SF K n (lx r ta) (λZ=>(fa Z).bind g):=⟨λ{σ hv H U Z τv τd d Q} I h k=>by
 obtain⟨a,ha,h⟩:=af.mp h;refine A.s I ha λxs H1 s1 w=> ?_;exact C.s w h λv H2 s2 o=>k v H2 (s1.trans s2) (o.early s1)⟩
theorem aB.YV(I:aB K n H U σ hv Z (τv++vs) (τd++ds))(hl:vs.length=ds.length):dB K H T1 vs ds:=by
 refine⟨hl,λi v d jD hd=> ?_⟩;obtain⟨g1,g2⟩:=I.sets hl i jD hd;obtain⟨_,_,Fs,_,_,sl⟩:=I.ok;obtain⟨v',ev,sv⟩:=sl _ _ g2;rw[g1]at ev;cases ev;exact bj.vw sv
theorem dB.one{d:D}(h:dB K H N vs [d]):∃v,vs= [v]/\Vw K H N v d:=by
 match vs,h with
 | [v],h=>exact⟨v,rfl,h.2 0 v d rfl rfl⟩
 | [],h=>cases h.1
 |_::_::_,h=>cases h.1
theorem dB.two{d e:D}(h:dB K H N vs [d,e]):∃v u,vs= [v,u]/\Vw K H N v d/\Vw K H N u e:=by
 match vs,h with
 | [v,u],h=>exact⟨v,u,rfl,h.2 0 v d rfl rfl,h.2 1 u e rfl rfl⟩
 | [],h=>cases h.1
 | [_],h=>cases h.1
 |_::_::_::_,h=>cases h.1
theorem YW:i4 X (.builtin "len") (λxs H Q=>∃a ah,xs= [V.ref a]/\Rd H a (.dK ah)/\Q (.int ah.length) H):=by
 intro aa s σ H xs us Q I r h;obtain⟨a,ah,rfl,ha,q⟩:=h;obtain⟨u,rfl,ru⟩:=vals1 r;cases ru;exact W8 I ha λt s' I'=>⟨.int ah.length,H,I',⟨t,rfl⟩,q⟩
def F5(K:aj):List V->Hp->VK->Prop:=λxs H Q=>(∃p ys,xs= [.ref p]/\(cV K H p ys\/cP K H p ys)/\Q (.int ys.length) H)\/(∃z,xs= [.str z]/\z.length<=aM/\Q (.int z.length) H)\/∃a ah,xs= [V.ref a]/\Rd H a (.dK ah)/\Q (.int ah.length) H
theorem YX:i4 X (.builtin "len") (F5 X.K):=by
 intro aa s σ H xs us Q I r h;rcases h with h | h | h
 ·exact Wx aa s σ H xs us Q I r h
 ·exact Wy aa s σ H xs us Q I r h
 ·exact YW aa s σ H xs us Q I r h
noncomputable def cJ:List D->Option D
 | [.nd .lst cs]=>some (.sc (.int cs.length))
 | [.nd .tup cs]=>some (.sc (.int cs.length))
 | [.nd .eT cs]=>some (.sc (.int cs.length))
 | [.sc (.str z)]=>if z.length<=aM then some (.sc (.int z.length)) else none
 | [.nd (.az _) cs]=>some (.sc (.int cs.length))
 |_=>none
instance aiE:p9 K (F5 K) cJ:=⟨λ{H vs ds d Q} w h k=>by
 unfold cJ at h
 split at h
 ·next cs=>cases h;obtain⟨v,rfl,w1⟩:=w.one;obtain⟨a,us,rfl,hc,vl⟩:=w1.gN;rw[<- vl.1]at k;exact .inl ⟨a,us,rfl, .inl (cV.of hc.2),k _ H (aP.refl H) (.sc _)⟩
 ·next cs=>cases h;obtain⟨v,rfl,w1⟩:=w.one;obtain⟨a,us,rfl,hc,vl⟩:=w1.gN;rw[<- vl.1]at k;exact .inl ⟨a,us,rfl, .inr (cP.of hc.2),k _ H (aP.refl H) (.sc _)⟩
 ·next cs=>cases h;obtain⟨v,rfl,w1⟩:=w.one;obtain⟨a,us,rfl,hc,vl⟩:=w1.gN;rw[<- vl.1]at k;exact .inl ⟨a,us,rfl, .inl (jS.sq hc.2),k _ H (aP.refl H) (.sc _)⟩
 ·next z=>
  by_cases c:z.length<=aM
  ·rw[if_pos c]at h;cases h;obtain⟨v,rfl,w1⟩:=w.one;rw[w1.dm];exact .inr (.inl ⟨z,rfl,c,k _ H (aP.refl H) (.sc _)⟩)
  ·rw[if_neg c]at h;cases h
 ·next ks cs=>
  cases h;obtain⟨v,rfl,w1⟩:=w.one;obtain⟨a,us,rfl,hc,vl⟩:=w1.gN;have hl:ks.length=us.length:=hc.1;have rd:Rd H a (.dK (ks.zip us)):=hc.2;refine .inr (.inr ⟨a,ks.zip us,rfl,rd, ?_⟩);rw[pE,hl,Nat.min_self,vl.1];exact k _ H (aP.refl H) (.sc _)
 ·cases h⟩
def F6(K:aj):List V->Hp->VK->Prop:=λxs H Q=>∃p ys,xs= [.ref p]/\(cV K H p ys\/cP K H p ys)/\∀l,H l=none->Q (.ref l) (upd H l (.lst ys))
theorem YY:i4 X (.type "list") (F6 X.K):=Wz
def yM(K:aj):List V->Hp->VK->Prop:=λxs H Q=>∃p ys,xs= [.ref p]/\((cV K H p ys/\∀l,H l=none->Q (.ref l) (upd H l (.tup ys)))\/(cP K H p ys/\Q (.ref p) H))
theorem Ov:i4 X (.type "tuple") (yM X.K):=WA
def F7:List D->Option D
 | [.nd .lst cs]=>if aK cs=true then some (.nd .lst cs) else none
 | [.nd .tup cs]=>if aK cs=true then some (.nd .lst cs) else none
 |_=>none
instance aiF:p9 K (F6 K) F7:=⟨λ{H vs ds d Q} w h k=>by
 unfold F7 at h
 split at h
 ·next cs=>
  by_cases c:aK cs=true
  ·rw[if_pos c]at h;cases h;obtain⟨v,rfl,w1⟩:=w.one;obtain⟨a,us,rfl,hc,vl⟩:=w1.gN;exact⟨a,us,rfl, .inl (cV.of hc.2),λl hl=>k _ _ (gW hl _) (vl.own c hl (.inr ⟨rfl,trivial,0,rfl⟩))⟩
  ·rw[if_neg c]at h;cases h
 ·next cs=>
  by_cases c:aK cs=true
  ·rw[if_pos c]at h;cases h;obtain⟨v,rfl,w1⟩:=w.one;obtain⟨a,us,rfl,hc,vl⟩:=w1.gN;exact⟨a,us,rfl, .inr (cP.of hc.2),λl hl=>k _ _ (gW hl _) (vl.own c hl (.inr ⟨rfl,trivial,0,rfl⟩))⟩
  ·rw[if_neg c]at h;cases h
 ·cases h⟩
def kW:List D->Option D
 | [.nd .lst cs]=>if aK cs=true then some (.nd .tup cs) else none
 | [.nd .tup cs]=>if aK cs=true then some (.nd .tup cs) else none
 |_=>none
instance aiG:p9 K (yM K) kW:=⟨λ{H vs ds d Q} w h k=>by
 unfold kW at h
 split at h
 ·next cs=>
  by_cases c:aK cs=true
  ·rw[if_pos c]at h;cases h;obtain⟨v,rfl,w1⟩:=w.one;obtain⟨a,us,rfl,hc,vl⟩:=w1.gN;exact⟨a,us,rfl, .inl ⟨cV.of hc.2,λl hl=>k _ _ (gW hl _) (vl.own c hl (.inl ⟨rfl,rfl⟩))⟩⟩
  ·rw[if_neg c]at h;cases h
 ·next cs=>
  by_cases c:aK cs=true
  ·rw[if_pos c]at h;cases h;obtain⟨v,rfl,w1⟩:=w.one;obtain⟨a,us,rfl,hc,vl⟩:=w1.gN;exact⟨a,us,rfl, .inr ⟨cP.of hc.2,k _ H (aP.refl H) (eX.plain w1 c)⟩⟩
  ·rw[if_neg c]at h;cases h
 ·cases h⟩
def uq:List V->Hp->VK->Prop:=λxs H Q=>∃i j,xs= [.int i, .int j]/\Q (.int (if j > i then j else i)) H
def B0:List V->Hp->VK->Prop:=λxs H Q=>∃i j,xs= [.int i, .int j]/\Q (.int (if j < i then j else i)) H
theorem yN(hc:X.calm=true):i4 X (.builtin "max") uq:=VD hc
theorem Ow(hc:X.calm=true):i4 X (.builtin "min") B0:=VE hc
noncomputable def lX (g:Int->Int->V):List D->Option D
 | [.sc (.int i), .sc (.int j)]=>some (.sc (g i j))
 |_=>none
instance aiH:p9 K uq (lX λi j=> .int (if j > i then j else i)):=⟨λ{H vs ds d Q} w h k=>by
 unfold lX at h
 split at h
 ·next i j=>cases h;obtain⟨v,u,rfl,w1,w2⟩:=w.two;rw[w1.dm,w2.dm];exact⟨i,j,rfl,k _ H (aP.refl H) (.sc _)⟩
 ·cases h⟩
instance aiI:p9 K B0 (lX λi j=> .int (if j < i then j else i)):=⟨λ{H vs ds d Q} w h k=>by
 unfold lX at h
 split at h
 ·next i j=>cases h;obtain⟨v,u,rfl,w1,w2⟩:=w.two;rw[w1.dm,w2.dm];exact⟨i,j,rfl,k _ H (aP.refl H) (.sc _)⟩
 ·cases h⟩
end
noncomputable def mR (a b:String):Bool:=a == b || (a == "bool" && b == "int")
noncomputable def B1:List String:= ["NoneType","bool","int","str","tuple","list","dict"]
noncomputable def oO:List String:= ["bool","int","str","tuple","list","dict"]
theorem YZ(K:aj):vh K (.type "bool") (.type "int")=some true:=by
 unfold vh;rw[if_neg (by decide)];show(if W.kitMeta "int"=true then W.subIn K (.type "bool") (.type "int") else none)=some true;rw[if_pos (by decide +kernel)];show(fastBuiltinMro "bool").map (·.contains (.type "int"))=some true
 decide +kernel
theorem Ox(K:aj):∀a∈B1,∀b∈oO,vh K (.type a) (.type b)=some (mR a b):=by
 intro a ha b hb;simp only[B1,oO,fX,oe,or_false]at ha hb;rcases ha with rfl | rfl | rfl | rfl | rfl | rfl | rfl <;> rcases hb with rfl | rfl | rfl | rfl | rfl | rfl <;> first
  |exact YZ K
  |exact aiJ K _ (by decide)
  |exact YH K _ _ (by decide) (by decide +kernel) (by decide +kernel)
theorem Oy(K:aj)(ha:a∈B1):∀{ts:List String},(∀b∈ts,b∈oO)->W.kitAny K (.type a) (ts.map ve)=some (ts.any (mR a))
 | [],_=>rfl
 |b::ts,h=>by
  rw[eI,W.kitAny,Ox K a ha b (h b (.head _))];cases e:mR a b with
  |true=>simp[e]
  |false=>
   simp only[e,xS,Bool.false_or];exact Oy K ha λc hc=>h c (.tail _ hc)
noncomputable def qa:D->Option String
 |.sc .aE=>some "NoneType"
 |.sc (.bl _)=>some "bool"
 |.sc (.int _)=>some "int"
 |.sc (.str _)=>some "str"
 |.nd .tup _=>some "tuple"
 |.nd .lst _=>some "list"
 |.nd (.az _) _=>some "dict"
 |.nd (.mN _) _=>some "dict"
 |_=>none
section
variable {K:aj}{H H' H1 H2:Hp}{τv vs:List V}{τd ds:List D}{v y:V}{d:D}{N:Addr->Prop}
theorem Oz(h:qa d=some a):a∈B1:=by
 unfold qa at h
 split at h <;> first | (cases h;decide) | cases h
theorem Vw.ty(w:Vw K H N v d)(h:qa d=some a)(hd:a≠"dict"):kP K H v (.type a):=by
 unfold qa at h
 split at h
 ·cases h;rw[w.dm];exact .aE
 ·cases h;rw[w.dm];exact .bl _
 ·cases h;rw[w.dm];exact .int _
 ·cases h;rw[w.dm];exact .str _
 ·cases h;obtain⟨a,vs,rfl,_,hc,_⟩:=w.node;exact .tup hc.2
 ·cases h;obtain⟨a,vs,rfl,_,hc,_⟩:=w.node;exact .lst hc.2
 ·cases h;exact absurd rfl hd
 ·cases h;exact absurd rfl hd
 ·cases h
def wz(T:String):List D->Option D
 | [a, .sc (.ty T')]=>if T'=T/\T∈oO then(qa a).bind λx=>if x="dict" then none else some (.sc (.bl (mR x T))) else none
 |_=>none
instance aiK:p9 K (p8 K T) (wz T):=⟨λ{H vs ds d Q} w h k=>by
 unfold wz at h
 split at h
 ·next a T'=>
  by_cases c:T'=T/\T∈oO
  ·rw[if_pos c]at h;obtain⟨x,h1,h⟩:=af.mp h;by_cases cd:x="dict"
   ·rw[if_pos cd]at h;cases h
   ·rw[if_neg cd]at h;cases h;obtain⟨v,u,rfl,w1,w2⟩:=w.two;rw[w2.dm,c.1];exact⟨v,_,_,rfl,w1.ty h1 cd,Ox K x (Oz h1) T c.2,k _ H (aP.refl H) (.sc _)⟩
  ·rw[if_neg c]at h;cases h
 ·cases h⟩
def B2(K:aj):List V->Hp->VK->Prop:=λxs H Q=>∃(x:V) (t:Value) (tp:Addr) (ts:List String) (b:Bool),xs= [x, .ref tp]/\kP K H x t/\H tp=some (.tup (ts.map V.ty))/\W.kitAny K t (ts.map ve)=some b/\Q (.bl b) H
theorem OA:∀{ts:List String} {us:List Value},bJ (ts.map V.ty) us->us=ts.map ve
 | [],us,h=>by cases h;rfl
 |t::ts,us,h=>by
  cases h with
  |cons r1 r2=>rw[OA r2,show _=ve t from r1];rfl
theorem Y0:i4 X (.builtin "isinstance") (B2 X.K):=by
 intro aa s σ H xs us Q I r h;obtain⟨x,t,tp,ts,b,rfl,ty,ht,e,q⟩:=h;obtain⟨u,w',rfl,ru,rt⟩:=vals2 r;cases rt;obtain⟨_,au,rv,o,ho,hc,n,hd⟩:=I.ba tp _ ht;have hits:=OA rv;subst hits;obtain⟨oc,od,aiL,oy⟩:=o;cases hc;cases hd;have dD:∀tk,EP X aa σ Q (.bool b) { s with toks:=tk }:=λtk=>⟨.bl b,H,I.tok tk,rfl,q⟩
 cases ty with
 |aE=>cases(show u=DS from ru);exact qv W.kitx_none I.gg kK ho e (λz=>nomatch z) dD
 |bl y=>cases(show u=xO y from ru);exact qv W.kitx_bool I.gg kK ho e (λz=>nomatch z) dD
 |int i=>obtain⟨t,z⟩:=(show ∃t,u=xN i t from ru);cases z;exact qv W.kitx_int I.gg kK ho e (λz=>nomatch z) dD
 |str y=>obtain⟨t,z⟩:=(show ∃t,u=AX y t from ru);cases z;exact qv W.kitx_str I.gg kK ho e (λz=>nomatch z) dD
 |j9 y=>obtain⟨t,z⟩:=(show ∃t,u=Ls y t from ru);cases z;exact qv W.kitx_float I.gg kK ho e (λz=>nomatch z) dD
 | @lst a xs ea=>
  cases(show u=gA a from ru);obtain⟨_,_,n',_,h1⟩:=(show fY X.prog X.w H s.heap a (.lst xs) from I.ba a _ ea)
  exact qv Ly I.gg ⟨_,h1,rfl⟩ ho e (λz=>nomatch z) dD
 | @cD a ob xs ea=>
  cases(show u=gA a from ru);obtain⟨_,_,_,n',_,h1⟩:=(show fY X.prog X.w H s.heap a (.cD ob (.lst xs)) from I.ba a _ ea)
  exact qv Ly I.gg ⟨_,h1,rfl⟩ ho e (λz=>nomatch z) dD
 | @tup a xs ea=>
  cases(show u=gA a from ru);obtain⟨_,_,_,p⟩:=(show fY X.prog X.w H s.heap a (.tup xs) from I.ba a _ ea)
  obtain⟨o',h1,h2,_⟩:=p;exact qv W.kitx_tuple I.gg ⟨o',h1,h2⟩ ho e (λz=>nomatch z) dD
 | @dK a ah ea=>
  cases(show u=gA a from ru);obtain⟨_,_,vs,_,p⟩:=(show fY X.prog X.w H s.heap a (.dK ah) from I.ba a _ ea)
  obtain⟨o',es,ep,h1,h2,_⟩:=p;exact qv Lz I.gg ⟨o',h1,h2.1⟩ ho e (λz=>nomatch z) dD
 | @dT a ah ea=>
  cases(show u=gA a from ru);obtain⟨_,_,xs,_,o',es,ep,h1,h2,_⟩:=(show fY X.prog X.w H s.heap a (.dT ah) from I.ba a _ ea)
  exact qv Lz I.gg ⟨o',h1,h2.1⟩ ho e (λz=>nomatch z) dD
 | @ins a C dx fs ea cl ha hn Bm hm=>
  cases(show u=gA a from ru);obtain⟨mA,O,_⟩:=ka I.ba ea;obtain⟨od,J,_⟩:=O.look;exact qv (W.kitx_own (cl.get _) cl.hd ha hn Bm hm) I.gg J ho e (λz=>nomatch z) dD
noncomputable def wA:List D->Option (List String)
 | []=>some []
 |.sc (.ty t)::r=>(wA r).map (t:: ·)
 |_::_=>none
theorem OB:∀{cs:List D} {vs:List V} {ts:List String},vs.length=cs.length->(∀(i:Nat) (v:V) (d:D),vs[i]?=some v->cs[i]?=some d->Vw K H N v d)->wA cs=some ts->vs=ts.map V.ty
 | [], [],_,_,_,h=>by rw[wA]at h;cases h;rfl
 | [],_::_,_,h,_,_=>by cases h
 |_::_, [],_,h,_,_=>by cases h
 |d::cs,v::vs,ts,hl,hk,h=>by
  unfold wA at h
  split at h
  ·next e=>cases e
  ·next t r e=>
   cases e;obtain⟨x,h2,h⟩:=bg.mp h;subst h;rw[eI,(hk 0 v _ rfl rfl).dm,OB (fU hl) (λi v d a b=>hk (i + 1) v d (by simpa using a) (by simpa using b)) h2]
  ·cases h
def F8:List D->Option D
 | [a, .nd .tup cs]=>(wA cs).bind λts=>if ts.all (oO.contains ·)=true then(qa a).bind λx=>if x="dict" then none else some (.sc (.bl (ts.any (mR x)))) else none
 |_=>none
instance aiM:p9 K (B2 K) F8:=⟨λ{H vs ds d Q} w h k=>by
 unfold F8 at h
 split at h
 ·next a cs=>
  obtain⟨ts,h0,h⟩:=af.mp h;by_cases c:ts.all (oO.contains ·)=true
  ·rw[if_pos c]at h;obtain⟨x,h1,h⟩:=af.mp h;by_cases cd:x="dict"
   ·rw[if_pos cd]at h;cases h
   ·rw[if_neg cd]at h;cases h;obtain⟨v,u,rfl,w1,w2⟩:=w.two;obtain⟨b,us,rfl,_,hc,hl,dq⟩:=w2.node;have e:=OB hl dq h0;refine⟨v,_,b,ts,_,rfl,w1.ty h1 cd,by rw[<- e];exact hc.2,Oy K (Oz h1) λt ht=> ?_,k _ H (aP.refl H) (.sc _)⟩;have:=A3.mp c t ht;simpa using this
  ·rw[if_neg c]at h;cases h
 ·cases h⟩
def B3(K:aj):List V->Hp->VK->Prop:=λxs H Q=>∃(a:Addr) (bs:List Bool),xs= [.ref a]/\cV K H a (bs.map V.bl)/\Q (.bl (bs.all id)) H
theorem Y4(hc:X.calm=true):i4 X (.builtin "all") (B3 X.K):=XO hc
noncomputable def qZ:List D->Option (List Bool)
 | []=>some []
 |.sc (.bl b)::r=>(qZ r).map (b:: ·)
 |_::_=>none
theorem OC:∀{cs:List D} {vs:List V} {bs:List Bool},vs.length=cs.length->(∀(i:Nat) (v:V) (d:D),vs[i]?=some v->cs[i]?=some d->Vw K H N v d)->qZ cs=some bs->vs=bs.map V.bl
 | [], [],_,_,_,h=>by rw[qZ]at h;cases h;rfl
 | [],_::_,_,h,_,_=>by cases h
 |_::_, [],_,h,_,_=>by cases h
 |d::cs,v::vs,ts,hl,hk,h=>by
  unfold qZ at h
  split at h
  ·next e=>cases e
  ·next t r e=>
   cases e;obtain⟨x,h2,h⟩:=bg.mp h;subst h;rw[eI,(hk 0 v _ rfl rfl).dm,OC (fU hl) (λi v d a b=>hk (i + 1) v d (by simpa using a) (by simpa using b)) h2]
  ·cases h
def yO:List D->Option D
 | [.nd .lst cs]=>(qZ cs).map λbs=> .sc (.bl (bs.all id))
 |_=>none
instance aiN:p9 K (B3 K) yO:=⟨λ{H vs ds d Q} w h k=>by
 unfold yO at h
 split at h
 ·next cs=>
  obtain⟨bs,h1,h2⟩:=bg.mp h;subst h2;obtain⟨v,rfl,w1⟩:=w.one;obtain⟨a,us,rfl,_,hc,hl,dq⟩:=w1.node;have e:=OC hl dq h1;exact⟨a,bs,rfl,cV.of (by rw[<- e];exact hc.2),k _ H (aP.refl H) (.sc _)⟩
 ·cases h⟩
end
def ur(K:aj)(tl:TE):TI:=λσ H R=>tl σ H λx H1=>(∃a,x= .ref a/\(∃xs,cV K H1 a xs)/\R (rR K a) H1)\/(∃a,x= .ref a/\(∃xs,cP K H1 a xs)/\R (Bf K a) H1)\/∃z,x= .str z/\R (BG z) H1
theorem F9(hl:PE X l tl):PI X tg l (ur X.K tl):=by
 intro aa s σ H R I h;refine bP (hl aa s σ H _ I h) λv s1 ⟨x,H1,I1,r1,q1⟩=> ?_;have dD:∀(b:Addr),b∈ [s1.heap.objs.size]->iQ X aa H1 b:=λb hb=>by
  have e:b=s1.heap.objs.size:=by simpa using hb
  subst e;exact I1.rQ (bX _) (I1.ba.fresh (bX _))
 rcases q1 with⟨a,rfl,⟨xs,hq⟩,q⟩ | ⟨a,rfl,⟨xs,hq⟩,q⟩ | ⟨z,rfl,q⟩
 ·cases r1;obtain⟨au,rv,p,hz⟩:=I1.list hq;exact DQ p.isList ⟨s1.heap.objs.size, [s1.heap.objs.size],_,_,H1,rfl,I1.kept (t':=s1.toks) λb o e=>gB _ e,Vp a _,⟨_,jz _ rfl,rfl,rfl⟩,dD,q⟩
 ·cases r1;obtain⟨au,rv,p,hz⟩:=I1.tuple hq;exact wpAny_pyIter_tuple (show s1.heap.IsTuple a au.toArray from p) ⟨s1.heap.objs.size, [s1.heap.objs.size],_,_,H1,rfl,I1.kept (t':=s1.toks) λb o e=>gB _ e,Vq a _,⟨_,jz _ rfl,rfl,rfl⟩,dD,q⟩
 ·obtain⟨t,rfl⟩:=r1;cases ha:z.cps.all (· < 128)
  ·refine wpAny_pyIter_wide ha ⟨s1.heap.objs.size, [s1.heap.objs.size],_,_,H1,rfl,I1.kept (t':=s1.toks) λb o e=>gB _ e,
    NJ (t:=t) (ty:="str_iterator") (by decide) (λA' hA=>Walks.strWide hA _ z t) (λA i s Q E st h=>wpAny_pyIter_striter_wide st h),⟨j8 _,_,jz _ rfl,rfl,rfl⟩,dD,q⟩
  ·refine wpAny_pyIter_ascii ha ⟨s1.heap.objs.size, [s1.heap.objs.size],_,_,H1,rfl,I1.kept (t':=s1.toks) λb o e=>gB _ e,
    NJ (t:=t) (ty:="str_ascii_iterator") (by decide) (λA' hA=>Walks.strAscii hA _ z t) (λA i s Q E st h=>wpAny_pyIter_striter_ascii st h),⟨j8 _,_,jz _ rfl,rfl,rfl⟩,dD,q⟩
class wB{α:Type}(l:List α)(m:outParam Nat):Prop where
 h:l.length=m
instance {α:Type}:wB ([]:List α) 0:=⟨rfl⟩
instance {α:Type}{a:α}{r:List α}{m:Nat}[L:wB r m]:wB (a::r) (m + 1):=⟨congrArg (· + 1) L.h⟩
section
variable {K:aj}{n:Nat}{H H' H1 H2:Hp}{U U':Addr->Prop}{σ hv:List (Option V)}{Z ρ':En}{τv vs:List V}{τd ds:List D}{v y:V}{d:D}
def wC(K:aj)(J:It)(H0:Hp)(ds:List D):Prop:=∀H,aP H0 H->J.stop ds.length H/\∀(i:Nat) (d:D),ds[i]?=some d->J.go i H/\∀x H',J.vJ i H x H'->aP H H'/\Vw K H' T1 x d
class SI(K:aj)(n:Nat)(wi:TI)(f:outParam (En->Option (List D))):Prop where
 s:∀{σ hv:List (Option V)} {H:Hp} {U:Addr->Prop} {Z:En} {τv:List V} {τd:List D} {ds:List D} {R:It->Hp->Prop},aB K n H U σ hv Z τv τd->f Z=some ds->(∀J H',aP H H'->wC K J H' ds->R J H')->wi σ H R
noncomputable def chars (z:Str):List D:=z.cps.toList.map λc=> .sc (.str ⟨#[c]⟩)
def gY:D->Option (List D)
 |.nd .lst cs=>some cs
 |.nd .tup cs=>some cs
 |.nd .eT cs=>some cs
 |.sc (.str z)=>some (chars z)
 |_=>none
theorem Y5{ds:List D}{R:It->Hp->Prop}(w:Vw K H T1 v d)(h:gY d=some ds)(k:∀J,wC K J H ds->R J H):
  (∃a,v= .ref a/\(∃xs,cV K H a xs)/\R (rR K a) H)\/(∃a,v= .ref a/\(∃xs,cP K H a xs)/\R (Bf K a) H)\/∃z,v= .str z/\R (BG z) H:=by
 have wl:∀{a:Addr} {vs:List V} {cs:List D},(∀H',aP H H'->cV K H' a vs)->dB K H T1 vs cs->wC K (rR K a) H cs:=λ{a vs cs} hs vl H' s=>by
  refine⟨⟨vs,hs H' s,by rw[vl.1];exact bX _⟩,λi d hd=> ?_⟩;obtain⟨u,hu,w⟩:=vl.get hd;exact⟨⟨vs,u,hs H' s,hu⟩,λx H2 ⟨e,q⟩=>by
   subst e;have:=q vs (hs H2 s);rw[hu]at this;cases this;exact⟨aP.refl _,w.same s⟩⟩
 unfold gY at h
 split at h
 ·next cs=>
  cases h;obtain⟨a,vs,rfl,hc,vl⟩:=w.gN;exact .inl ⟨a,rfl,⟨vs,cV.of hc.2⟩,k _ (wl (λH' s=>cV.of (s _ _ hc.2)) vl)⟩
 ·next cs=>
  cases h;obtain⟨a,vs,rfl,hc,vl⟩:=w.gN;refine .inr (.inl ⟨a,rfl,⟨vs,cP.of hc.2⟩,k _ λH' s=> ?_⟩);have hs:cP K H' a vs:=cP.of (s _ _ hc.2);refine⟨⟨vs,hs,by rw[vl.1];exact bX _⟩,λi d hd=> ?_⟩;obtain⟨u,hu,w⟩:=vl.get hd;exact⟨⟨vs,u,hs,hu⟩,λx H2 ⟨e,q⟩=>by
   subst e;have:=q vs hs;rw[hu]at this;cases this;exact⟨aP.refl _,w.same s⟩⟩
 ·next cs=>
  cases h;obtain⟨a,vs,rfl,hc,vl⟩:=w.gN;have ho:jS K H a vs:=hc.2;exact .inl ⟨a,rfl,⟨vs,ho.sq⟩,k _ (wl (λH' s=>(ho.g9 (gJ.of s)).sq) vl)⟩
 ·next z=>
  cases h;refine .inr (.inr ⟨z,w.dm,k _ λH' s=> ?_⟩);have lz:(chars z).length=z.cps.size:=by unfold chars;simp
  refine⟨by show z.cps.size<=_;rw[lz];exact bX _,λi d hd=> ?_⟩;have hi:i < z.cps.size:=by rw[<- lz];exact(bW.mp hd).1
  refine⟨hi,λx H2 ⟨e,c,hc,hx⟩=> ?_⟩;subst e hx;refine⟨aP.refl _, ?_⟩;unfold chars at hd;rw[dF]at hd;have:z.cps.toList[i]?=some c:=by simpa using hc
  rw[this]at hd;cases hd;exact .sc _
 ·cases h
instance aiO[A:SV K n tl fl]:SI K n (ur K tl) (λZ=>(fl Z).bind gY):=⟨λ{σ hv H U Z τv τd ds R} I h k=>by
 obtain⟨d,h1,h2⟩:=af.mp h;refine A.s I h1 λx H1 s1 w1=> ?_;exact Y5 w1 h2 λJ wk=>k J H1 s1 wk⟩
noncomputable def ia (lo:Int) (m:Nat):List D:=(jJ m).map λ(i:Nat)=> .sc (.int (lo + i))
theorem Y6(lo:Int)(m:Nat)(H:Hp):wC K (vL lo m) H (ia lo m):=λH' s=>by
 have l:(ia lo m).length=m:=by unfold ia;simp
 refine⟨by show m<=_;rw[l];exact bX _,λi d hd=> ?_⟩;have hi:i < m:=by rw[<- l];exact(bW.mp hd).1
 refine⟨hi,λx H2 ⟨e,hx⟩=> ?_⟩;subst e hx;unfold ia at hd;rw[dF,A4 hi]at hd;cases hd;exact⟨aP.refl _, .sc _⟩
open Classical in
noncomputable def lY:List D->Option (List D)
 | [.sc (.int j)]=>if -(2 ^ 62)<=j/\j < 2 ^ 62 then some (ia 0 j.toNat) else none
 |_=>none
open Classical in
noncomputable def yP:List D->Option (List D)
 | [.sc (.int i), .sc (.int j)]=>if -(2 ^ 62)<=i/\i < 2 ^ 62/\ -(2 ^ 62)<=j/\j < 2 ^ 62 then some (ia i (j - i).toNat) else none
 |_=>none
theorem Ga{vs:List V}{ds es:List D}(w:dB K H T1 vs ds)(h:lY ds=some es):∃j:Int,vs= [.int j]/\ -(2 ^ 62)<=j/\j < 2 ^ 62/\es=ia 0 j.toNat:=by
 unfold lY at h
 split at h
 ·next j=>
  by_cases c: -(2 ^ 62)<=j/\j < 2 ^ 62
  ·rw[if_pos c]at h;cases h;obtain⟨v,rfl,w1⟩:=w.one;rw[w1.dm];exact⟨j,rfl,c.1,c.2,rfl⟩
  ·rw[if_neg c]at h;cases h
 ·cases h
theorem Y7{vs:List V}{ds es:List D}(w:dB K H T1 vs ds)(h:yP ds=some es):∃i j:Int,vs= [.int i, .int j]/\(-(2 ^ 62)<=i/\i < 2 ^ 62/\ -(2 ^ 62)<=j/\j < 2 ^ 62)/\es=ia i (j - i).toNat:=by
 unfold yP at h
 split at h
 ·next i j=>
  by_cases c: -(2 ^ 62)<=i/\i < 2 ^ 62/\ -(2 ^ 62)<=j/\j < 2 ^ 62
  ·rw[if_pos c]at h;cases h;obtain⟨v,u,rfl,w1,w2⟩:=w.two;rw[w1.dm,w2.dm];exact⟨i,j,rfl,c,rfl⟩
  ·rw[if_neg c]at h;cases h
 ·cases h
instance aiP[A:SA K n ta fa]:SI K n (Bg ta) (λZ=>(fa Z).bind lY):=⟨λ{σ hv H U Z τv τd ds R} I h k=>by
 obtain⟨a,h1,h2⟩:=af.mp h;refine A.s I h1 λvs H1 s1 w=> ?_;obtain⟨j,e,c1,c2,e2⟩:=Ga w h2;subst e2;exact⟨j,e,c1,c2,k _ H1 s1 (Y6 0 _ H1)⟩⟩
class SG(K:aj)(n:Nat)(g:TG)(f:outParam (D->En->Option En))(is:outParam (List Nat)):Prop where
 s:∀{σ hv:List (Option V)} {H:Hp} {U:Addr->Prop} {Z ρ':En} {τv:List V} {τd:List D} {x:V} {d:D} {Q:L2.St->Hp->Prop},aB K n H U σ hv Z τv τd->Vw K H (λb=>¬ U b) x d->f d Z=some ρ'->(∀aN,aB K n H U aN hv ρ' τv τd->Q aN H)->g x σ H Q
 len:∀{d:D} {Z ρ':En},f d Z=some ρ'->ρ'.length=Z.length
 keep:∀{d:D} {Z ρ':En} {j:Nat} {β:B},f d Z=some ρ'->j∉is->(∀r p,β≠ .ak r p)->Z[j]?=some (some β)->ρ'[j]?=some (some β)
class B4(K:aj)(n:Nat)(g:qA)(f:outParam (List D->En->Option En))(is:outParam (List Nat)):Prop where
 s:∀{σ hv:List (Option V)} {H:Hp} {U:Addr->Prop} {Z ρ':En} {τv:List V} {τd:List D} {xs:List V} {ds:List D} {Q:L2.St->Hp->Prop},aB K n H U σ hv Z τv τd->dB K H (λb=>¬ U b) xs ds->f ds Z=some ρ'->(∀aN,aB K n H U aN hv ρ' τv τd->Q aN H)->g xs σ H Q
 len:∀{ds:List D} {Z ρ':En},f ds Z=some ρ'->ρ'.length=Z.length
 keep:∀{ds:List D} {Z ρ':En} {j:Nat} {β:B},f ds Z=some ρ'->j∉is->(∀r p,β≠ .ak r p)->Z[j]?=some (some β)->ρ'[j]?=some (some β)
theorem Y8{i j:Nat}{β:B}(h:∀r p,β≠ .ak r p)(hj:Z[j]?=some (some β)):(gb i Z)[j]?=some (some β):=by
 unfold gb;rw[dF,hj];cases β with
 |own d=>rfl
 |ro d=>rfl
 |ak r p=>exact absurd rfl (h r p)
instance aiQ{i:Nat}[L:ke i n]:SG K n (mF i) (λd Z=>some (aQ i (.ro d) Z)) [i] where
 s:=λ{σ hv H U Z ρ' τv τd x d Q} I w h k=>by
  cases h;exact k _ (I.named L.h (β:= .ro d) w)
 len:=λh=>by cases h;unfold aQ;rw[cB,kT]
 keep:=λ{d Z ρ' j β} h hj ha q=>by
  cases h;unfold aQ;rw[gm (λz=>hj (by rw[z];exact .head _))];exact Y8 ha q
instance aiR:B4 K n yi (λds Z=>match ds with | []=>some Z | _=>none) [] where
 s:=λ{σ hv H U Z ρ' τv τd xs ds Q} I w h k=>by
  split at h
  ·cases h;exact⟨rG w.1,k _ I⟩
  ·cases h
 len:=λ{ds Z ρ'} h=>by
  split at h
  ·cases h;rfl
  ·cases h
 keep:=λ{ds Z ρ' j β} h hj ha q=>by
  split at h
  ·cases h;exact q
  ·cases h
def jW(f:D->En->Option En)(fs:List D->En->Option En)(ds:List D)(Z:En):Option En:=match ds with
 |d::r=>(f d Z).bind (fs r)
 | []=>none
instance aiS[A:SG K n t f is][B':B4 K n u fs js]:B4 K n (rP t u) (jW f fs) (is++js) where
 s:=λ{σ hv H U Z ρ' τv τd xs ds Q} I w h k=>by
  unfold jW at h
  split at h
  ·next d r=>
   obtain⟨ρ1,h1,h2⟩:=af.mp h
   match xs,w with
   | [],w=>cases w.1
   |x::xs,w=>
    refine⟨x,xs,rfl,A.s I (w.2 0 x d rfl rfl) h1 λEp I1=> ?_⟩;exact B'.s I1 ⟨fU w.1,λi v d a b=>w.2 (i + 1) v d (by simpa using a) (by simpa using b)⟩ h2 k
  ·cases h
 len:=λ{ds Z ρ'} h=>by
  unfold jW at h
  split at h
  ·obtain⟨ρ1,h1,h2⟩:=af.mp h;rw[B'.len h2,A.len h1]
  ·cases h
 keep:=λ{ds Z ρ' j β} h hj ha q=>by
  unfold jW at h
  split at h
  ·obtain⟨ρ1,h1,h2⟩:=af.mp h;exact B'.keep h2 (λz=>hj (jK _ z)) ha (A.keep h1 (λz=>hj (DT _ z)) ha q)
  ·cases h
noncomputable def q0 (m:Nat) (f:List D->En->Option En) (d:D) (Z:En):Option En:=match d with
 |.nd .tup cs=>if cs.length=m then f cs Z else none
 |_=>none
instance aiT[A:B4 K n t f is]:SG K n (vI K m t) (q0 m f) is where
 s:=λ{σ hv H U Z ρ' τv τd x d Q} I w h k=>by
  unfold q0 at h
  split at h
  ·next cs=>
   by_cases c:cs.length=m
   ·rw[if_pos c]at h;obtain⟨a,vs,rfl,_,hc,hl,dq⟩:=w.node;exact⟨a,vs,rfl,cP.of hc.2,by rw[hl];exact c,A.s I ⟨hl,dq⟩ h k⟩
   ·rw[if_neg c]at h;cases h
  ·cases h
 len:=λ{d Z ρ'} h=>by
  unfold q0 at h
  split at h
  ·next cs=>
   by_cases c:cs.length=m
   ·rw[if_pos c]at h;exact A.len h
   ·rw[if_neg c]at h;cases h
  ·cases h
 keep:=λ{d Z ρ' j β} h hj ha q=>by
  unfold q0 at h
  split at h
  ·next cs=>
   by_cases c:cs.length=m
   ·rw[if_pos c]at h;exact A.keep h hj ha q
   ·rw[if_neg c]at h;cases h
  ·cases h
theorem jV.snoc(h:jV K H H1 us es)(o:eX K H1 H2 v d)(s0:aP H H1)(s1:aP H1 H2):jV K H H2 (us++ [v]) (es++ [d]):=by
 obtain⟨hl,Fs,dj,fr,rp⟩:=h;obtain⟨G,r,f⟩:=o;have nG:∀i b,Fs i b->¬ G b:=λi b z w=>by
  obtain⟨u,q⟩:=sm (fr i b z).2;rw[(f b w).1]at q;cases q
 refine⟨by simp[hl],λi b=>if i=us.length then G b else Fs i b/\i < us.length,λi j b hi hj=> ?_,λi b hb=> ?_,λi x y hx hy=> ?_⟩
 ·have hi:if i=us.length then G b else Fs i b/\i < us.length:=hi;have hj:if j=us.length then G b else Fs j b/\j < us.length:=hj;by_cases ci:i=us.length
  ·rw[if_pos ci]at hi;by_cases cj:j=us.length
   ·lia
   ·rw[if_neg cj]at hj;exact absurd hi (nG j b hj.1)
  ·rw[if_neg ci]at hi;by_cases cj:j=us.length
   ·rw[if_pos cj]at hj;exact absurd hj (nG i b hi.1)
   ·rw[if_neg cj]at hj;exact dj i j b hi.1 hj.1
 ·have hb:if i=us.length then G b else Fs i b/\i < us.length:=hb;by_cases ci:i=us.length
  ·rw[if_pos ci]at hb;refine⟨?_,(f b hb).2⟩;cases q:H b with
   |none=>rfl
   |some o=>have:=(f b hb).1;rw[s0 b o q]at this;cases this
  ·rw[if_neg ci]at hb;exact⟨(fr i b hb.1).1,yC (fr i b hb.1).2 s1⟩
 ·by_cases ci:i=us.length
  ·subst ci;rw[bK (bX _),lN]at hx;rw[bK (by lia),hl,lN]at hy;cases hx;cases hy;show bj K H2 (λb=>if us.length=us.length then G b else _) v d;simp only[if_pos rfl];exact r
  ·have hi:i < us.length:=by
    have:=(bW.mp hx).1;simp at this;lia
   rw[br hi]at hx;rw[br (by lia)]at hy;show bj K H2 (λb=>if i=us.length then G b else Fs i b/\i < us.length) x y;simp only[if_neg ci];exact((rp i x y hx hy).same s1).mono λb z=>⟨z,hi⟩
def fW(n:Nat)(js:List (Option Nat))(Z:En):En:=js.map λo=>o.bind λj=>if j < n then(ab j Z).map B.ro else none
noncomputable def mS (fg:D->En->Option En) (ft:En->Option Bool) (fe:En->Option D) (ρ0:En):List D->Option (List D)
 | []=>some []
 |d::ds=>(fg d ρ0).bind λρ1=>(ft ρ1).bind λb=>if b=true then(fe ρ1).bind λy=>(mS fg ft fe ρ0 ds).map (y:: ·) else mS fg ft fe ρ0 ds
open Classical in
noncomputable def ji (n:Nat) (js:List (Option Nat)) (is:List Nat) (fi:En->Option (List D)) (fg:D->En->Option En) (ft:En->Option Bool) (fe:En->Option D) (Z:En):Option D:=(fi Z).bind λds=>
 if ds.length<=aM/\is.all (λi=>js[i]? == some none)=true then(mS fg ft fe (fW n js Z) ds).map (.nd .lst ·) else none
theorem Y9(I:aB K n H U σ hv Z τv τd):aB K js.length H (λ_=>False) (pY js σ) [] (fW n js Z) [] []:=by
 refine⟨⟨by unfold pY fW;simp,λb z=>z.elim,λ_ _=>False,λ_ _ _ z=>z.elim,λ_ _ z=>z.elim,λi β aL=> ?_⟩,by unfold pY fW;simp,by unfold pY;simp⟩;rw[iZ,fE]at aL;rw[iZ,fE,fE];unfold fW at aL;rw[dF]at aL;cases e:js[i]? with
 |none=>rw[e]at aL;cases aL
 |some o=>
  rw[e]at aL;have aL:(o.bind λj=>if j < n then(ab j Z).map B.ro else none)=some β:=jI aL;cases o with
  |none=>cases aL
  |some j=>
   have aL:(if j < n then(ab j Z).map B.ro else none)=some β:=aL;by_cases c:j < n
   ·rw[if_pos c]at aL;obtain⟨d,h1,h2⟩:=bg.mp aL;subst h2;have:ke j n:=⟨c⟩
    have key:jh j σ H λv H'=>H'=H/\σ[j]?=some (some v)/\Vw K H T1 v d:=by
     obtain⟨o,g1,g2⟩:=af.mp h1;cases o with
     |none=>cases g2
     |some γ=>
      obtain⟨v,F,ev,sub,sv⟩:=I.slot g1;rw[I.name c]at ev;refine⟨v,ev,rfl,ev, ?_⟩;cases γ with
      |own d'=>cases g2;exact bj.vw sv
      |ro d'=>cases g2;exact Vw.any sv
      |ak r p=>
       obtain⟨d0,hr,g⟩:=af.mp g2;obtain⟨_,vr,er,hp⟩:=sv;obtain⟨v',F',mO,_,rp⟩:=I.yD hr;rw[er]at mO;cases mO;exact rp.sub g hp λ_ _=>trivial
    obtain⟨v,ev,_,_,vw⟩:=key;refine⟨v, ?_,vw.mono λ_ _ z=>z⟩;unfold pY;rw[dF,e];show some ((σ[j]?).join)=some (some v);rw[ev];rfl
   ·rw[if_neg c]at aL;cases aL
instance Za{wi:TI}{g:TG}{tt:TT}{te:TE}{is:List Nat}{fi:En->Option (List D)}{fg:D->En->Option En}{ft:En->Option Bool}{fe:En->Option D}[hm:wB js m]
  [A:SI K n wi fi] [G:SG K m g fg is] [T:kU K m tt ft] [Q':SQ K m te fe]:SF K n (vZ wi g tt te js) (ji n js is fi fg ft fe):=⟨λ{σ hv H U Z τv τd d Q} I h k=>by
 have hm:=hm.h;subst hm;obtain⟨ds,h1,h⟩:=af.mp h;by_cases c:ds.length<=aM/\is.all (λi=>js[i]? == some none)=true
 ·rw[if_pos c]at h;obtain⟨es,h2,h⟩:=bg.mp h;subst h;refine A.s I h1 λJ H1 s1 wk=> ?_;have I1:=Y9 (js:=js) (I.same s1);have Zb:∀i∈is,∀β,(fW n js Z)[i]?≠some (some β):=λi hi β z=>by
   have:=A3.mp c.2 i hi;have e:js[i]?=some none:=by simpa using this
   unfold fW at z;rw[dF,e]at z;cases z
  have tV:∀(j:Nat) (β:B),(fW n js Z)[j]?=some (some β)->∀r p,β≠ .ak r p:=λj β z r p e=>by
   subst e;unfold fW at z;rw[dF]at z;cases e:js[j]? with
   |none=>rw[e]at z;cases z
   |some o=>
    rw[e]at z;have z:=jI z;cases o with
    |none=>cases z
    |some x=>
     have z:(if x < n then(ab x Z).map B.ro else none)=some (B.ak r p):=z;by_cases c:x < n
     ·rw[if_pos c]at z;obtain⟨_,_,w⟩:=bg.mp z;cases w
     ·rw[if_neg c]at z;cases z
  refine⟨λi m aN ys H'=>m=ds.length - i/\i<=ds.length/\aP H1 H'/\aB K js.length H' (λ_=>False) aN [] (fW n js Z) [] []/\ys.length<=i/\∃ea eb,es=ea++eb/\jV K H1 H' ys ea/\mS fg ft fe (fW n js Z) (ds.drop i)=some eb,⟨ds.length,by simp,j8 _,aP.refl _,I1,bX _, [],es,rfl, .nil,h2⟩, ?_⟩;rintro i m aN ys H' ⟨rfl,hi,sx,Ix,hy,ea,eb,rfl,ow,cd⟩;by_cases jL:i < ds.length
  ·right;have hd:ds[i]?=some ds[i]:=gn jL;obtain⟨go,yl⟩:=(wk H' sx).2 i _ hd;rw[rH jL]at cd;rw[mS]at cd;obtain⟨ρ1,b1,cd⟩:=af.mp cd;obtain⟨b,b2,cd⟩:=af.mp cd;refine⟨go,λhJ zs H2=>aP H1 H2/\aB K js.length H2 (λ_=>False) hJ [] (fW n js Z) [] []/\zs.length<=i + 1/\∃fa fb,ea++eb=fa++fb/\jV K H1 H2 zs fa/\mS fg ft fe (fW n js Z) (ds.drop (i + 1))=some fb,λhJ zs H2 ⟨a1,a2,a3,a4⟩=>⟨by lia,_,by lia,rfl,jL,a1,a2,a3,a4⟩,λx H2 y2=> ?_⟩;obtain⟨s2,w2⟩:=yl x H2 y2;refine G.s (Ix.same s2) (w2.mono λ_ _ z=>z) b1 λhJ I2=> ?_;have back:∀{H3:Hp},aP H2 H3->aB K js.length H3 (λ_=>False) hJ [] (fW n js Z) [] []:=λ{H3} s3=>by
    refine(I2.same s3).weaken (G.len b1).symm λj β q=> ?_;by_cases hj:j∈is
    ·exact absurd q (Zb j hj β)
    ·exact G.keep b1 hj (tV j β q) q
   refine T.s I2 b2 λH4 s4=> ?_;cases b with
   |true=>
    rw[if_pos rfl]at cd |-;obtain⟨y,b3,cd⟩:=af.mp cd;obtain⟨fb,b4,cd⟩:=bg.mp cd;subst cd;refine Q'.o (I2.same s4) b3 λv H5 s5 o=>⟨sx.trans (s2.trans (s4.trans s5)),back (s4.trans s5),by simp;lia,ea++ [y],fb,by simp, ?_,b4⟩
    have o':eX K H' H5 v y:=o.early (s2.trans s4);exact ow.snoc o' sx (s2.trans (s4.trans s5))
   |false=>
    rw[if_neg jA]at cd |-;refine⟨sx.trans (s2.trans s4),back s4,by lia,ea,eb,rfl, ?_,cd⟩;obtain⟨hl,Fs,dj,fr,rp⟩:=ow;exact⟨hl,Fs,dj,λj b z=>⟨(fr j b z).1,yC (fr j b z).2 (s2.trans s4)⟩,λj v d a b=>(rp j v d a b).same (s2.trans s4)⟩
  ·left;have e:i=ds.length:=by lia
   subst e;rw[LM,mS]at cd;cases cd;rw[fE]at k;refine⟨(wk H' sx).1,λD hD=> ?_⟩;exact k _ _ ((s1.trans sx).trans (gW hD _)) ((ow.node (k:= .lst) sx hD (.inr ⟨rfl,trivial,0,rfl⟩)).early s1)
 ·rw[if_neg c]at h;cases h⟩
variable {E:lK}
structure yQ(K:aj)(J:It)(ds:List D)(P:Hp->(Addr->Prop)->Prop):Prop where
 step:∀{H H' U U'},P H U->b5 U H U' H'->(∀b,U b->jC (H b))->P H' U'
 stop:∀{H U},P H U->J.stop ds.length H
 item:∀{H U} {i:Nat} {d:D},P H U->ds[i]?=some d->J.go i H/\∀x H',J.vJ i H x H'->H'=H/\Vw K H (λb=>¬ U b) x d
class yR(K:aj)(n:Nat)(wi:TI)(f:outParam (En->Option (List D))):Prop where
 s:∀{σ hv:List (Option V)} {H:Hp} {U:Addr->Prop} {Z:En} {τv:List V} {τd:List D} {ds:List D} {R:It->Hp->Prop},aB K n H U σ hv Z τv τd->f Z=some ds->(∀J P H',aP H H'->yQ K J ds P->P H' U->R J H')->wi σ H R
theorem Gb(lo:Int)(m:Nat):yQ K (vL lo m) (ia lo m) λ_ _=>True:=by
 have l:(ia lo m).length=m:=by unfold ia;simp
 refine⟨λ_ _ _=>trivial,λ{H U} _=>by show m<=_;rw[l];exact bX _,λ{H U i d} _ hd=> ?_⟩;have hi:i < m:=by rw[<- l];exact(bW.mp hd).1
 refine⟨hi,λx H2 ⟨e,hx⟩=>⟨e, ?_⟩⟩;subst hx;unfold ia at hd;rw[dF,A4 hi]at hd;cases hd;exact .sc _
instance aiU[A:SA K n ta fa]:yR K n (Bg ta) (λZ=>(fa Z).bind lY):=⟨λ{σ hv H U Z τv τd ds R} I h k=>by
 obtain⟨a,h1,h2⟩:=af.mp h;refine A.s I h1 λvs H1 s1 w=> ?_;obtain⟨j,e,c1,c2,e2⟩:=Ga w h2;subst e2;exact⟨j,e,c1,c2,k _ _ H1 s1 (Gb 0 _) trivial⟩⟩
instance aiV[A:SA K n ta fa]:yR K n (Ml ta) (λZ=>(fa Z).bind yP):=⟨λ{σ hv H U Z τv τd ds R} I h k=>by
 obtain⟨a,h1,h2⟩:=af.mp h;refine A.s I h1 λvs H1 s1 w=> ?_;obtain⟨i,j,e,c,e2⟩:=Y7 w h2;subst e2;exact⟨i,j,e,c,k _ _ H1 s1 (Gb i _) trivial⟩⟩
theorem Ge(h:dB K H (λb=>¬ U b) vs cs)(st:b5 U H U' H')(mu:∀b,U b->jC (H b)):dB K H' (λb=>¬ U' b) vs cs:=⟨h.1,λi v d a b=>(h.2 i v d a b).over (λb o nb q=>st b o q nb) (st.g9 mu)⟩
theorem Zc{R:It->Hp->Prop}(w:Vw K H (λb=>¬ U b) v d)(h:gY d=some ds)(k:∀J P,yQ K J ds P->P H U->R J H):
  (∃a,v= .ref a/\(∃xs,cV K H a xs)/\R (rR K a) H)\/(∃a,v= .ref a/\(∃xs,cP K H a xs)/\R (Bf K a) H)\/∃z,v= .str z/\R (BG z) H:=by
 unfold gY at h
 split at h
 ·next cs=>
  cases h;obtain⟨a,vs,rfl,na,hc,hl,dq⟩:=w.node;refine .inl ⟨a,rfl,⟨vs,cV.of hc.2⟩,k _ (λH U=>H a=some (.lst vs)/\¬ U a/\dB K H (λb=>¬ U b) vs ds) ⟨λ{H H' U U'} ⟨x1,x2,x3⟩ st mu=>⟨(st _ _ x1 x2).1,(st _ _ x1 x2).2,Ge x3 st mu⟩,λ{H U} ⟨x1,_,x3⟩=>⟨vs,cV.of x1,by rw[x3.1];exact bX _⟩,λ{H U i d} ⟨x1,x2,x3⟩ hd=> ?_⟩ ⟨hc.2,na rfl,hl,dq⟩⟩;obtain⟨u,hu,w⟩:=x3.get hd;exact⟨⟨vs,u,cV.of x1,hu⟩,λx H2 ⟨e,q⟩=>⟨e,by
   have:=q vs (cV.of x1);rw[hu]at this;cases this;exact w⟩⟩
 ·next cs=>
  cases h;obtain⟨a,vs,rfl,na,hc,hl,dq⟩:=w.node;refine .inr (.inl ⟨a,rfl,⟨vs,cP.of hc.2⟩,k _ (λH U=>H a=some (.tup vs)/\dB K H (λb=>¬ U b) vs ds) ⟨λ{H H' U U'} ⟨x1,x3⟩ st mu=>⟨st.g9 mu _ _ (λz=>z) x1,Ge x3 st mu⟩,λ{H U} ⟨x1,x3⟩=>⟨vs,cP.of x1,by rw[x3.1];exact bX _⟩,λ{H U i d} ⟨x1,x3⟩ hd=> ?_⟩ ⟨hc.2,hl,dq⟩⟩);obtain⟨u,hu,w⟩:=x3.get hd;exact⟨⟨vs,u,cP.of x1,hu⟩,λx H2 ⟨e,q⟩=>⟨e,by
   have:=q vs (cP.of x1);rw[hu]at this;cases this;exact w⟩⟩
 ·next cs=>
  cases h;obtain⟨a,vs,rfl,na,hc,hl,dq⟩:=w.node;have ho:jS K H a vs:=hc.2;refine .inl ⟨a,rfl,⟨vs,ho.sq⟩,k _ (λH U=>jS K H a vs/\dB K H (λb=>¬ U b) vs ds) ⟨λ{H H' U U'} ⟨x1,x3⟩ st mu=>⟨x1.g9 (st.g9 mu),Ge x3 st mu⟩,λ{H U} ⟨x1,x3⟩=>⟨vs,x1.sq,by rw[x3.1];exact bX _⟩,λ{H U i d} ⟨x1,x3⟩ hd=> ?_⟩ ⟨ho,hl,dq⟩⟩;obtain⟨u,hu,w⟩:=x3.get hd;exact⟨⟨vs,u,x1.sq,hu⟩,λx H2 ⟨e,q⟩=>⟨e,by
   have:=q vs (x1.sq);rw[hu]at this;cases this;exact w⟩⟩
 ·next z=>
  cases h;have lz:(chars z).length=z.cps.size:=by unfold chars;simp
  refine .inr (.inr ⟨z,w.dm,k _ (λ_ _=>True) ⟨λ_ _ _=>trivial,λ{H U} _=>by show z.cps.size<=_;rw[lz];exact bX _,λ{H U i d} _ hd=> ?_⟩ trivial⟩);have hi:i < z.cps.size:=by rw[<- lz];exact(bW.mp hd).1
  refine⟨hi,λx H2 ⟨e,c,hc,hx⟩=>⟨e, ?_⟩⟩;subst hx;unfold chars at hd;rw[dF]at hd;have:z.cps.toList[i]?=some c:=by simpa using hc
  rw[this]at hd;cases hd;exact .sc _
 ·cases h
def Gf(f:En->Option Pl)(Z:En):Option (List D):=(f Z).bind λ
 |.ro d=>gY d
 |.rt _ _=>none
instance (priority:=500) Zd{tl:TE}{fl:En->Option Pl}[A:SP K n tl fl]:yR K n (ur K tl) (Gf fl):=⟨λ{σ hv H U Z τv τd ds R} I h k=>by
 obtain⟨q,h1,h2⟩:=af.mp h;cases q with
 |rt _ _=>cases h2
 |ro d=>exact A.s I h1 λx H1 s1 w1=>Zc w1 h2 λJ P wk p=>k J P H1 s1 wk p⟩
noncomputable def iC (fg:D->En->Option En) (fb:En->Option Fl):List D->En->Option Fl
 | [],Z=>some (.nx Z)
 |d::ds,Z=>(fg d Z).bind λρ1=>(fb ρ1).bind λ
  |.nx ay=>iC fg fb ds ay
  |.ct ay=>iC fg fb ds ay
  |.bk ay=>some (.nx ay)
  |.rt d ay=>some (.rt d ay)
instance OD[A:yR K n wi fi][G:SG K n g fg is][B':SS K n tb fb]:SS K n (yj wi g tb) (λZ=>(fi Z).bind λds=>iC fg fb ds Z):=⟨λ{σ hv H U Z τv τd fl E} I h k=>by
 obtain⟨ds,h1,h⟩:=af.mp h;refine A.s I h1 λJ P H1 s1 wk p0=> ?_;have hV:b5 U H U H1:=λb o q nu=>⟨s1 b o q,nu⟩
 refine⟨λi m aN H'=>m=ds.length - i/\i<=ds.length/\∃U' ρ',aB K n H' U' aN hv ρ' τv τd/\b5 U H U' H'/\P H' U'/\iC fg fb (ds.drop i) ρ'=some fl,⟨ds.length,by simp,j8 _,U,Z,I.same s1,hV,p0,h⟩, ?_⟩;rintro i m aN H' ⟨rfl,hi,U',ρ',Ix,st,p,fo⟩;by_cases jL:i < ds.length
 ·right;have hd:ds[i]?=some ds[i]:=gn jL;obtain⟨go,yl⟩:=wk.item p hd;rw[rH jL,iC]at fo;obtain⟨ρ1,b1,fo⟩:=af.mp fo;obtain⟨uu,b2,fo⟩:=af.mp fo;refine⟨go,λhJ H2=>∃U2 ay,aB K n H2 U2 hJ hv ay τv τd/\b5 U' H' U2 H2/\iC fg fb (ds.drop (i + 1)) ay=some fl,λhJ H2 ⟨U2,ay,a1,a2,a3⟩=>⟨_,by lia,rfl,jL,U2,ay,a1,st.trans a2,wk.step p a2 Ix.ok.mu,a3⟩,λx H2 y2=> ?_⟩;obtain⟨e,w2⟩:=yl x H2 y2;subst e;refine G.s Ix w2 b1 λhJ I2=> ?_;refine B'.s I2 b2 ?_;cases uu with
  |nx ay=>exact λgL H3 U3 I3 s3=>⟨U3,ay,I3,s3,fo⟩
  |ct ay=>exact λgL H3 U3 I3 s3=>⟨U3,ay,I3,s3,fo⟩
  |bk ay=>cases fo;exact λgL H3 U3 I3 s3=>k gL H3 U3 I3 (st.trans s3)
  |rt d ay=>cases fo;exact λv gL H3 U3 I3 s3=>k v gL H3 U3 I3 (st.trans s3)
 ·left;have e:i=ds.length:=by lia
  subst e;rw[LM,iC]at fo;cases fo;exact⟨wk.stop p,k aN H' U' Ix st⟩⟩
open Classical in
end
section
variable {K:aj}{n:Nat}{H H' H1 H2:Hp}{U U':Addr->Prop}{σ hv:List (Option V)}{Z ρ':En}{τv vs:List V}{τd ds:List D}{v y:V}{d:D}{E:XK}{N:Addr->Prop}{C:Addr}{m:Str}
theorem OE:∀{ns:List Str} {vs:List V},de f ns=none->ns.length=vs.length->(ns.zip vs).lookup f=none
 | [], [],_,_=>rfl
 | [],_::_,_,h=>by cases h
 |g::r, [],_,h=>by cases h
 |g::r,v::vs,h,hl=>by
  rw[de]at h;rw[qu,mB];by_cases c:(f == g)=true
  ·rw[if_pos c]at h;cases h
  ·rw[if_neg c]at h;rw[agV]at c;rw[c];exact OE (agW.mp h) (fU hl)
def jX(C:Addr)(m:Str):D->Bool
 |.nd (.obj C' ns) _=>decide (C'=C) && (de m ns).isNone
 |_=>false
theorem Vw.objOf(w:Vw K H N v d)(h:jX C m d=true):∃a dx fs,v= .ref a/\H a=some (.ins C dx fs)/\fs.lookup m=none:=by
 unfold jX at h
 split at h
 ·next C' ns cs=>
  rw[qt]at h;obtain⟨a,vs,rfl,_,hc,hl,dq⟩:=w.node;obtain⟨⟨hf,_,_⟩,dx,ha⟩:=hc;have e:C'=C:=by simpa using h.1
  subst e;exact⟨a,dx,_,rfl,ha,OE (by simpa using h.2) hf⟩
 ·cases h
def methP(G:List D->Option D)(C:Addr)(m:Str)(k:Nat)(fa:En->Option D)(fr:En->Option (List D))(Z:En):Option D:=(fa Z).bind λd=>if jX C m d=true then(fr Z).bind λds=>if ds.length + 1=k then G (d::ds) else none else none
instance aiW[A:SV K n ta fa][R:SA K n t fr]:SF K n (vR C m (eU K k G) [] E ta t) (methP G C m k fa fr):=⟨λ{σ hv H U Z τv τd d Q} I h kk=>by
 obtain⟨x,h1,h⟩:=af.mp h;by_cases c:jX C m x=true
 ·rw[if_pos c]at h;obtain⟨ds,h2,h⟩:=af.mp h;by_cases cl:ds.length + 1=k
  ·rw[if_pos cl]at h;refine A.s I h1 λv H1 s1 w1=> ?_;obtain⟨a,dx,fs,rfl,ha,hl⟩:=w1.objOf c;refine⟨a,dx,fs,rfl,ha,hl,R.s (I.same s1) h2 λvs H2 s2 w2=> ?_⟩;rw[fE];exact⟨x::ds,d,cl, .cons (w1.same s2) w2,h,λv H3 s3 o=>kk v H3 (s1.trans (s2.trans s3)) (o.early (s1.trans s2))⟩
  ·rw[if_neg cl]at h;cases h
 ·rw[if_neg c]at h;cases h⟩
def qb(G:List D->Option (D×List D))(C:Addr)(m:Str)(fp:En->Option Pl)(fr:En->Option (List Ar))(Z:En):Option (D×En):=(fp Z).bind λq=>(b6 Z q).bind λd=>if jX C m d=true then(match q with
 |.rt r p=>(fr Z).bind λas=>aW G (.io ⟨r,p⟩::as) Z
 |.ro _=>none) else none
instance (priority:=600) aiX{ta:TE}{t:TA}{bB:List Bool}{G:List D->Option (D×List D)}{fp:En->Option Pl}{fr:En->Option (List Ar)}[P:SP K n ta fp][R:qW K n bB t fr]:SM K n (vR C m (cC K (true::bB) G) [] E ta t) (qb G C m fp fr):=⟨λ{σ hv H U Z ρ' τv τd d Q} I h k=>by
 obtain⟨q,h1,h⟩:=af.mp h;obtain⟨x,h2,h⟩:=af.mp h;by_cases c:jX C m x=true
 ·rw[if_pos c]at h;cases q with
  |ro _=>cases h
  |rt r p=>
   obtain⟨as,h3,h⟩:=af.mp h;refine P.s I h1 λv H1 s1 w1=> ?_;have I1:=I.same s1;have hV:b5 U H U H1:=λb o q nu=>⟨s1 b o q,nu⟩
   obtain⟨a,dx,fs,rfl,ha,hl⟩:=(I1.at w1 h2).objOf c;refine⟨a,dx,fs,rfl,ha,hl,R.s I1 h3 λvs ws wd H2 U2 I2 gV cf s2 ao=> ?_⟩;rw[fE];exact I2.FR gV (hV.trans cf) (.io (i:=⟨r,p⟩) (w1.step s2 cf) ao) h k
 ·rw[if_neg c]at h;cases h⟩
class dW(K:aj)(C:Addr):Prop where
 h:kO K C
theorem B5{α:Type}:∀(k:Nat) (xs:List α),aV (gC k false) xs= []
 |0,_=>by simp[aV]
 |k + 1, []=>by simp[aV,gC]
 |k + 1,x::xs=>by rw[List.replicate_succ,aV];exact B5 k xs
theorem Ze{Q:VK}(hC:kO K C)(w:dB K H T1 vs ds)(hk:ds.length=k)(hG:G (.nd (.obj C []) []::ds)=some (r, [out]))(hr:r= .sc .aE)(hx:H x=none)(Gg:H dx=none)(ne:dx≠x)
  (q:∀H',aP H H'->eX K H H' (.ref x) out->Q (.ref x) H'):cC K (true::gC k false) G (.ref x::vs) (upd (upd H dx (.own x)) x (.ins C dx [])) (λv H2=>v= .aE/\Q (.ref x) H2) E:=by
 have s0:aP H (upd (upd H dx (.own x)) x (.ins C dx [])):=λb o e=>by
  rw[bA (kL e hx),bA (kL e Gg)];exact e
 have yS:upd (upd H dx (.own x)) x (.ins C dx []) x=some (.ins C dx []):=eJ;refine⟨by rw[gc,gc,xQ,w.1,hk], .nd (.obj C []) []::ds,λb=>b=x,r, [out],by rw[gc,gc,xQ,hk], ?_,λi u e hm hu he=> ?_,hG,λv H2 U2 ok st=> ?_⟩
 ·rw[aV,aV,B5,B5];refine⟨rfl,λb hb=>by rw[hb,yS];trivial,λi b=>i=0/\b=x,λi j b hi hj=>by rw[hi.1,hj.1],λi b hb=>hb.2,λi β aL=> ?_⟩;cases i with
  |succ i=>simp[bc]at aL
  |zero=>
   cases aL;refine⟨.ref x,rfl, .nd (vs:= []) (λ_ _=>False) ?_ rfl (λ_ _ _ z=>z.elim) (λ_ _ z=>z.elim) λi v d h=>by simp at h⟩;exact⟨⟨rfl,rfl⟩,rfl,⟨rfl,hC,λf hf=>by simp at hf⟩,dx,yS⟩
 ·cases i with
  |zero=>cases hm
  |succ i=>
   have a:vs[i]?=some u:=by simpa using hu
   have b:ds[i]?=some e:=by simpa using he
   exact(w.2 i u e a b).over (λc o _ q=>⟨s0 c o q,λz=>by rw[z,hx]at q;cases q⟩) (gJ.of s0)
 ·subst hr;rw[aV,B5]at ok;obtain⟨_,mu,Fs,dj,sub,sl⟩:=ok;obtain⟨v',ev,sv⟩:=sl 0 (.own (.sc .aE)) rfl;cases ev;have e0:v= .aE:=bj.dm sv;obtain⟨x',ex,sx⟩:=sl 1 (.own out) rfl;cases ex;refine⟨e0,q H2 (λb o e=>(st b o (s0 b o e) λz=>by rw[z,hx]at e;cases e).1) ⟨Fs 1,sx,λb z=>⟨?_,mu b (sub 1 b z)⟩⟩⟩;cases e:H b with
  |none=>rfl
  |some o=>exact absurd (sub 1 b z) (st b o (s0 b o e) λz=>by rw[z,hx]at e;cases e).2
noncomputable def yT:D->Bool
 |.sc .aE=>true
 |_=>false
def B6(G:List D->Option (D×List D))(C:Addr)(k:Nat)(fa:En->Option (List D))(Z:En):Option D:=(fa Z).bind λds=>if ds.length=k then(G (.nd (.obj C []) []::ds)).bind λ
 |(r, [o])=>if yT r=true then some o else none
 |_=>none else none
instance aiY[hC:dW K C][A:SA K n t fa]:SF K n (ED C (cC K (true::gC k false) G) [] E t) (B6 G C k fa):=⟨λ{σ hv H U Z τv τd d Q} I h kk=>by
 obtain⟨ds,h1,h⟩:=af.mp h;by_cases c:ds.length=k
 ·rw[if_pos c]at h;obtain⟨⟨r,dH⟩,h2,h⟩:=af.mp h
  match dH,h with
  | [o],h=>
   have h:(if yT r=true then some o else none)=some d:=h;by_cases cr:yT r=true
   ·rw[if_pos cr]at h;cases h;have er:r= .sc .aE:=by
     unfold yT at cr
     split at cr
     ·rfl
     ·cases cr
    refine A.s I h1 λvs H1 s1 w=> ?_;intro x dx hx Gg ne;rw[fE];exact Ze hC.h w c h2 er hx Gg ne λH2 s2 o=>kk _ H2 (s1.trans s2) (o.early s1)
   ·rw[if_neg cr]at h;cases h
  | [],h=>cases h
  |_::_::_,h=>cases h
 ·rw[if_neg c]at h;cases h⟩
instance aiZ:SF K n Nh (λ_=>some (.nd (.az []) [])):=⟨λ{σ hv H U Z τv τd d Q} I h k=>by
 cases h;intro p hp;exact k _ _ (gW hp _) ((jV.nil (K:=K) (H:=H) (H':=H)).node (k:= .az []) (aP.refl H) hp (.inr ⟨rfl,rfl,0,rfl⟩))⟩
theorem Zf(hc:jb K H a k vs)(h:cY (.nd k cs) dy=some o):Fb H a:=by
 unfold cY at h
 split at h
 ·next ks _ i e=>cases e;exact .inl ⟨_,hc.2⟩
 ·next ks _ gX e=>cases e;exact .inr ⟨_,hc.2⟩
 ·cases h
def jt(fd fy fx:En->Option D)(Z:En):Option D:=(fd Z).bind λd=>(fy Z).bind λy=>(fx Z).bind λx=>(cY d y).bind λ
 |some i=>aU d i
 |none=>some x
instance ai0[A:SV K n td fd][B':SV K n ty fy][C':SV K n tx fx]:SV K n (Nl td ty tx) (jt fd fy fx):=⟨λ{σ hv H U Z τv τd d Q} I h k=>by
 obtain⟨x,h1,h⟩:=af.mp h;obtain⟨y,h2,h⟩:=af.mp h;obtain⟨z,h3,h⟩:=af.mp h;obtain⟨o,h4,h⟩:=af.mp h;refine A.s I h1 λv H1 s1 w1=> ?_;cases x with
 |sc _=>simp[cY]at h4
 |hl _=>simp[cY]at h4
 |nd kk cs=>
  obtain⟨a,vs,rfl,_,hc,hl,dq⟩:=w1.node;refine⟨a,rfl,Zf hc h4,B'.s (I.same s1) h2 λu H2 s2 w2=>C'.s ((I.same s1).same s2) h3 λt H3 s3 w3=> ?_⟩;have Zg:jb K H3 a kk vs:=hc.frame (λ_ o e=>(s2.trans s3) _ _ e) (gJ.of (s2.trans s3));have g:=Zg.F0 hl (w2.same s3) h4;cases o with
  |none=>
   have h:some z=some d:=h;cases h;exact⟨_,g,k t H3 (s1.trans (s2.trans s3)) w3⟩
  |some i=>
   have h:cs[i]?=some d:=h;obtain⟨b,hb⟩:=oN hl h;have e:(some i).bind (vs[·]?)=some b:=hb;rw[e]at g;exact⟨_,g,k b H3 (s1.trans (s2.trans s3)) ((dq i b d hb h).same (s2.trans s3))⟩⟩
section
variable {κ:Type}[DecidableEq κ]
theorem OF{y:V}:∀{ks:List κ} {vs:List V} {i:Nat},cZ k ks=some i->ks.length=vs.length->ks.Nodup->jx (ks.zip vs) k y=ks.zip (vs.set i y):=λ{ks vs i} h hl nd=>by
 have ha:((ks.zip vs).any λkv=>decide (kv.1=k))=true:=by rw[FY hl,h];rfl
 unfold jx;rw[if_pos ha];clear ha
 induction ks generalizing vs i with
 |nil=>cases h
 |cons g r ih=>
  match vs,hl with
  | [],hl=>cases hl
  |v::vs,hl=>
   rw[cZ]at h;have OG:=nc.mp nd;by_cases c:g=k
   ·rw[if_pos c]at h;cases h;rw[qu,eI];have rest:∀(l:List κ) (us:List V),k∉l->(l.zip us).map (λkv=>if kv.1=k then(kv.1,y) else kv)=l.zip us:=by
     intro l
     induction l with
     |nil=>intro us _;rfl
     |cons b l Zh=>
      intro us hn;cases us with
      |nil=>rfl
      |cons u us=>
       rw[qu,eI,Zh us λz=>hn (.tail _ z)];have:¬ b=k:=λz=>hn (by rw[z];exact .head _);simp[this]
    rw[rest r vs (by rw[<- c];exact OG.1)];simp[c]
   ·rw[if_neg c]at h;obtain⟨j,h1,h2⟩:=bg.mp h;subst h2;rw[qu,eI,ih h1 (fU hl) OG.2];simp[c]
theorem OH{y:V}{ks:List κ}{vs:List V}(h:cZ k ks=none)(hl:ks.length=vs.length):jx (ks.zip vs) k y=(ks++ [k]).zip (vs++ [y]):=by
 have ha:((ks.zip vs).any λkv=>decide (kv.1=k))=false:=by rw[FY hl,h];rfl
 unfold jx;rw[if_neg (by rw[ha];exact jA),List.zip_append hl];rfl
end
def iG(k:Kd)(cs:List D)(y d:D):Option D:=match k with
 |.az ks=>(cG y).bind λkey=>if cs.length < aM/\ks.Nodup then(match cZ key ks with
  |some i=>some (.nd (.az ks) (cs.set i d))
  |none=>some (.nd (.az (ks++ [key])) (cs++ [d]))) else none
 |_=>none
def fm(fv:En->Option (D×En))(fp:En->Option Pl)(fy:En->Option D)(Z:En):Option Fl:=(fv Z).bind λa=>(fp a.2).bind λ
 |.rt r p=>(fy a.2).bind λy=>(cq a.2 r p).bind λz=>(iG z.2.1 z.2.2 y a.1).map λd'=> .nx (cm a.2 r z.1 p d')
 |.ro _=>none
instance ai1[A:SM K n tv fv][P:SP K n td fp][Y:SV K n ty fy]:SS K n (Nf td ty tv) (fm fv fp fy):=⟨λ{σ hv H U Z τv τd fl E} I h k=>by
 obtain⟨⟨d,ρ1⟩,h1,h⟩:=af.mp h;obtain⟨q,h2,h⟩:=af.mp h;cases q with
 |ro _=>cases h
 |rt r p=>
  obtain⟨y,h5,h⟩:=af.mp h;obtain⟨⟨d0,kk,cs⟩,h3,h⟩:=af.mp h;obtain⟨d',h4,h⟩:=bg.mp h;subst h;obtain⟨hr,hg⟩:=qU h3;refine A.s I h1 λx H1 U1 I1 bH=> ?_;refine P.s I1 h2 λo H2 s2 w2=> ?_;have I2:=I1.same s2;refine Y.s I2 h5 λu H3 s3 w3=> ?_;have I3:=I2.same s3;have Gh:=w2.same s3;have hV:b5 U1 H1 U1 H3:=λb o q nu=>⟨(s2.trans s3) b o q,nu⟩
  unfold iG at h4
  split at h4
  ·next ks e=>
   have e:kk= .az ks:=e;subst e;obtain⟨key,e1,h4⟩:=af.mp h4;by_cases c:cs.length < aM/\ks.Nodup
   ·rw[if_pos c]at h4;obtain⟨a,dx,vs,rfl,ha,hf,hl,_,ed⟩:=aB.edit (xs:= [x]) (ds:= [d]) I3 rfl Gh hr hg rfl;have hf:ks.length=vs.length:=hf
    split at h4
    ·next i e2=>
     cases h4;have hi:i < vs.length:=by rw[<- hf];exact yK e2
     refine⟨a,_,rfl, .inl ⟨_,key,ha,w3.key e1,by rw[pE];lia,rfl⟩, ?_⟩;rw[OF e2 hf c.2];obtain⟨U4,I4,hZ⟩:=ed (.az ks) (vs.set i x) (cs.set i d) (λj=>if j=i then vs.length else j) rfl (by show ks.length=(vs.set i x).length;rw[cB];exact hf) (by rw[cB,cB];exact hl)
      (λx z hx hz=>BO hi x z (by rw[cB]at hx;exact hx) (by rw[cB]at hz;exact hz)) (sr hi) (by rw[hl];exact sr (by lia))
     exact k σ _ U4 I4 (bH.trans (hV.trans hZ))
    ·next e2=>
     cases h4;refine⟨a,_,rfl, .inl ⟨_,key,ha,w3.key e1,by rw[pE];lia,rfl⟩, ?_⟩;rw[OH e2 hf];obtain⟨U4,I4,hZ⟩:=ed (.az (ks++ [key])) (vs++ [x]) (cs++ [d]) id rfl (by show(ks++ [key]).length=_;simp;exact hf) (by simp;exact hl) (λx z _ _ h=>h) (λj x h=>h) λj x h=>h;exact k σ _ U4 I4 (bH.trans (hV.trans hZ))
   ·rw[if_neg c]at h4;cases h4
  ·cases h4⟩
end
end VL
namespace HT
open PySem PySem.Spec PyProof.Rows L2
section
variable {w:World}{A:Around}{E:Value->Shared->Prop}{s:Shared}
theorem Zi{t sl:Addr}{items:Array Value}{vl vu:Value}{lo hi:Option Int}{Q:Value->Shared->Prop}(ht:IsTup s.heap t items)(hs:s.heap.IsSliceOf sl vl vu .none)(pl:IsPart vl lo)(pu:IsPart vu hi)
  (hw:bY items.size 0 lo=0/\bY items.size items.size hi=items.size) (h:Q (.ref t) s):wpAny (model prog w) A (u7 (.ref t) (.ref sl)) Q E s:=by
 obtain⟨os,tW,yn,yo⟩:=id hs;have EJ:s.TypeIs (.ref sl) "slice":=⟨os,tW,yn⟩
 unfold u7
 try with_reducible refine rE ?_
 first | refine bq (dw ?_) | skip
 refine bq (wpAny_sequenceKey ht.typeIs (by decide) ?_);refine bq (agv (name:=ae "__getitem__") ht.typeIs A0
  (wpAny_call_entry A0 ht.typeIs agw ?_ (args_tuple_getitem _ _)))
 show wpAny _ _ (agI (.ref t) >>= _) _ _ s;refine bq (tupleItemsOf_ ht ?_);refine bq (TZ EJ ?_);rw[if_pos (by decide)];refine bq (MI hs pl pu ?_);have Zj:(((bY items.size 0 lo:Nat):Int) == 0 && (1:Int) == 1 && (bY items.size items.size hi - bY items.size 0 lo) == items.size)=true:=by
  rw[hw.1,hw.2];simp
 show wpAny _ _ (if(((bY items.size 0 lo:Nat):Int) == 0 && (1:Int) == 1 && (bY items.size items.size hi - bY items.size 0 lo) == items.size)=true then _ else _) _ _ s;rw[if_pos Zj];unfold Builtin.Tuple.tupleIsExact;refine bq (bq (TZ ht.typeIs (dw ?_)));rw[if_pos (by decide)];exact bq (wpAny_rule (dw ⟨_,rfl,dw h⟩))
end
end HT
namespace VL
open PySem PySem.Spec PyProof.Rows L2
def OI(K:aj):V->Option Int->Option Int->Hp->VK->Prop:=λx lo hi H Q=>∃a xs,x= .ref a/\cP K H a xs/\(HT.bY xs.length 0 lo=0/\HT.bY xs.length xs.length hi=xs.length)/\Q (.ref a) H
theorem Zk:mJ X (OI X.K):=by
 intro aa s σ H x v vl vu lo hi sl Q I rx hs pl pu h;obtain⟨a,xs,rfl,hx,hw,q⟩:=h;cases rx;obtain⟨au,r,ht,hz⟩:=I.tuple hx;have cU:au.toArray.size=xs.length:=by rw[gr];exact r.length.symm
 refine⟨"tuple",_,A0.lookup,ht.typeIs, ?_⟩;exact HT.Zi ht hs pl pu (by rw[cU];exact hw) ⟨.ref a,H,I,rfl,q⟩
def Zl:V->Option Int->Option Int->Hp->VK->Prop:=λx lo hi H Q=>∃z,x= .str z/\z.length<=aM/\Q (.str (LH z lo hi)) H
def lZ(K:aj):V->Option Int->Option Int->Hp->VK->Prop:=λx lo hi H Q=>MK K x lo hi H Q\/OI K x lo hi H Q\/MU K x lo hi H Q\/Zl x lo hi H Q
theorem sF:mJ X (lZ X.K):=mJ.or Wi (mJ.or Zk (mJ.or Wt XQ))
def cutD{α:Type}(xs:List α)(lo hi:Option Int):List α:=(xs.drop (HT.bY xs.length 0 lo)).take (HT.bY xs.length xs.length hi - HT.bY xs.length 0 lo)
def iJ(a:D)(lo hi:Option Int):Option D:=match a with
 |.nd .tup cs=>if aK cs=true then some (.nd .tup (cutD cs lo hi)) else none
 |.nd .lst cs=>if aK cs=true then some (.nd .lst (cutD cs lo hi)) else none
 |.nd .eT cs=>if aK cs=true then some (.nd .lst (cutD cs lo hi)) else none
 |.sc (.str z)=>if z.length<=aM then some (.sc (.str (LH z lo hi))) else none
 |_=>none
section
variable {K:aj}{n:Nat}{H H' H1 H2:Hp}{U U':Addr->Prop}{σ hv:List (Option V)}{Z ρ':En}{τv vs:List V}{τd ds:List D}{v y:V}{d:D}
theorem B7{α β:Type}{R:α->β->Prop}{xs:List α}{ys:List β}(hl:xs.length=ys.length)(h:∀(i:Nat) (x:α) (y:β),xs[i]?=some x->ys[i]?=some y->R x y)(lo hi:Option Int):
  (cutD xs lo hi).length=(cutD ys lo hi).length/\∀(i:Nat) (x:α) (y:β),(cutD xs lo hi)[i]?=some x->(cutD ys lo hi)[i]?=some y->R x y:=by
 unfold cutD;rw[hl];generalize HT.bY ys.length 0 lo=p;generalize HT.bY ys.length ys.length hi - p=q;refine⟨by simp[hl],λi x y hx hy=> ?_⟩;by_cases c:i < q
 ·rw[Um c,List.getElem?_drop]at hx hy;exact h _ x y hx hy
 ·rw[List.getElem?_take,if_neg c]at hx;cases hx
theorem Gi(h:aK cs=true)(hs:∀d∈es,d∈cs):aK es=true:=qN λd hd=>BI h (hs d hd)
theorem Gj{α:Type}{xs:List α}{lo hi:Option Int}:∀x∈cutD xs lo hi,x∈xs:=λx hx=>LN (agZ hx)
class SO(K:aj)(n:Nat)(t:TO)(f:outParam (En->Option (Option Int))):Prop where
 s:∀{σ hv:List (Option V)} {H:Hp} {U:Addr->Prop} {Z:En} {τv:List V} {τd:List D} {o:Option Int} {Q:Option Int->Hp->Prop},aB K n H U σ hv Z τv τd->f Z=some o->(∀H',aP H H'->Q o H')->t σ H Q
instance ai2:SO K n EL (λ_=>some none):=⟨λI h k=>by cases h;exact k _ (aP.refl _)⟩
noncomputable def j6:D->Option (Option Int)
 |.sc (.int i)=>some (some i)
 |_=>none
instance ai3[A:SV K n t f]:SO K n (EM t) (λZ=>(f Z).bind j6):=⟨λ{σ hv H U Z τv τd o Q} I h k=>by
 obtain⟨d,h1,h2⟩:=af.mp h;refine A.s I h1 λv H1 s1 w1=> ?_;unfold j6 at h2
 split at h2
 ·next i=>cases h2;exact⟨i,w1.dm,k H1 s1⟩
 ·cases h2⟩
theorem Gk{Q:VK}{x:D}{lo hi:Option Int}(w:Vw K H T1 v x)(h:iJ x lo hi=some d)(k:∀v H',aP H H'->eX K H H' v d->Q v H'):lZ K v lo hi H Q:=by
 unfold iJ at h
 split at h
 ·next cs=>
  by_cases c:aK cs=true
  ·rw[if_pos c]at h;cases h;obtain⟨a,vs,rfl,hc,vl⟩:=w.gN;by_cases cw:HT.bY vs.length 0 lo=0/\HT.bY vs.length vs.length hi=vs.length
   ·refine .inr (.inl ⟨a,vs,rfl,cP.of hc.2,cw, ?_⟩);have e:cutD cs lo hi=cs:=by
     unfold cutD;rw[<- vl.1,cw.1,cw.2,LO,UC,vl.1,LP]
    rw[e]at k;exact k _ H (aP.refl H) (eX.plain w c)
   ·refine .inl ⟨a,vs,rfl,cP.of hc.2,cw,λp hp=> ?_⟩;have g:=B7 vl.1 vl.2 lo hi;exact k _ _ (gW hp _) (dB.own (k:= .tup) ⟨g.1,g.2⟩ (Gi c Gj) hp (.inl ⟨rfl,rfl⟩))
  ·rw[if_neg c]at h;cases h
 ·next cs=>
  by_cases c:aK cs=true
  ·rw[if_pos c]at h;cases h;obtain⟨a,vs,rfl,hc,vl⟩:=w.gN;refine .inr (.inr (.inl ⟨a,vs,rfl,cV.of hc.2,λp hp=> ?_⟩));have g:=B7 vl.1 vl.2 lo hi;exact k _ _ (gW hp _) (dB.own (k:= .lst) ⟨g.1,g.2⟩ (Gi c Gj) hp (.inr ⟨rfl,trivial,0,rfl⟩))
  ·rw[if_neg c]at h;cases h
 ·next cs=>
  by_cases c:aK cs=true
  ·rw[if_pos c]at h;cases h;obtain⟨a,vs,rfl,hc,vl⟩:=w.gN;refine .inr (.inr (.inl ⟨a,vs,rfl,jS.sq hc.2,λp hp=> ?_⟩));have g:=B7 vl.1 vl.2 lo hi;exact k _ _ (gW hp _) (dB.own (k:= .lst) ⟨g.1,g.2⟩ (Gi c Gj) hp (.inr ⟨rfl,trivial,0,rfl⟩))
  ·rw[if_neg c]at h;cases h
 ·next z=>
  by_cases c:z.length<=aM
  ·rw[if_pos c]at h;cases h;exact .inr (.inr (.inr ⟨z,w.dm,c,k _ H (aP.refl H) (.sc _)⟩))
  ·rw[if_neg c]at h;cases h
 ·cases h
def kX(fe:En->Option D)(fl fh:En->Option (Option Int))(Z:En):Option D:=(fe Z).bind λd=>(fl Z).bind λlo=>(fh Z).bind λhi=>iJ d lo hi
instance ai4[A:SV K n te fe][L:SO K n tl fl][R:SO K n th fh]:SF K n (Bp (lZ K) te tl th) (kX fe fl fh):=⟨λ{σ hv H U Z τv τd d Q} I h k=>by
 obtain⟨x,h1,h⟩:=af.mp h;obtain⟨lo,h2,h⟩:=af.mp h;obtain⟨hi,h3,h⟩:=af.mp h;refine A.s I h1 λv H1 s1 w1=>L.s (I.same s1) h2 λH2 s2=>R.s ((I.same s1).same s2) h3 λH3 s3=> ?_;exact Gk (w1.same (s2.trans s3)) h λv H4 s4 o=>k v H4 (s1.trans (s2.trans (s3.trans s4))) (o.early (s1.trans (s2.trans s3)))⟩
def uv(i d:D)(cs:List D):Option (List D):=match i with
 |.sc (.int j)=>(d7 cs.length j).map λp=>cs.set p d
 |_=>none
theorem Zm{i d:D}(h:uv i d cs=some gX):∃j p,i= .sc (.int j)/\d7 cs.length j=some p/\gX=cs.set p d:=by
 unfold uv at h
 split at h
 ·next j=>
  obtain⟨p,h1,h2⟩:=bg.mp h;exact⟨j,p,rfl,h1,h2.symm⟩
 ·cases h
def B8(fe:En->Option (D×En))(fp:En->Option Pl)(fi:En->Option D)(Z:En):Option Fl:=(fe Z).bind λa=>(fp a.2).bind λ
 |.rt r p=>(fi a.2).bind λi=>(um a.2 r p (uv i a.1)).map .nx
 |.ro _=>none
instance ai5[A:SM K n te fe][P:SP K n to fp][J:SV K n ti fi]:SS K n (ny te (qC to ti MT)) (B8 fe fp fi):=⟨λ{σ hv H U Z τv τd fl E} I h k=>by
 obtain⟨⟨d,ρ1⟩,h1,h⟩:=af.mp h;obtain⟨q,h2,h⟩:=af.mp h;cases q with
 |ro _=>cases h
 |rt r p=>
  obtain⟨i,h3,h⟩:=af.mp h;obtain⟨ay,h4,h⟩:=bg.mp h;subst h;refine A.s I h1 λx H1 U1 I1 bH=> ?_;refine P.s I1 h2 λo H2 s2 w2=> ?_;have I2:=I1.same s2;refine J.s I2 h3 λj H3 s3 w3=> ?_;have I3:=I2.same s3;have Gh:=w2.same s3;have hV:b5 U1 H1 U1 H3:=λb o q nu=>⟨(s2.trans s3) b o q,nu⟩
  obtain⟨⟨d0,kk,cs⟩,g1,g2⟩:=af.mp h4;obtain⟨hr,hg⟩:=qU g1
  split at g2
  ·next e=>
   have e:kk= .lst:=e;subst e;obtain⟨gX,g3,g4⟩:=bg.mp g2;subst g4;obtain⟨z,pp,ei,g5,g6⟩:=Zm (show uv i d cs=some gX from g3);subst ei;subst g6
   ·skip
    obtain⟨a,dx,vs,rfl,ha,hf,hl,_,ed⟩:=aB.edit (xs:= [x]) (ds:= [d]) I3 rfl Gh hr hg rfl;have hi:pp < vs.length:=by rw[hl];exact Yl g5
    refine⟨a,vs,z,pp,rfl,w3.dm,ha,by rw[hl];exact g5, ?_⟩;obtain⟨U4,I4,hZ⟩:=ed .lst (vs.set pp x) (cs.set pp d) (λj=>if j=pp then vs.length else j) rfl trivial (by rw[cB,cB];exact hl)
     (λx z hx hz=>BO hi x z (by rw[cB]at hx;exact hx) (by rw[cB]at hz;exact hz)) (sr hi) (by rw[hl];exact sr (by lia))
    exact k σ _ U4 I4 (bH.trans (hV.trans hZ))
  ·cases g2⟩
def B9(fp:En->Option Pl)(Z:En):Option (D×En):=(fp Z).bind λ
 |.rt r p=>(cq Z r p).bind λz=>match z.2.1 with
  |.lst=>(z.2.2[z.2.2.length - 1]?).bind λd=>if plain d=true then some (d,cm Z r z.1 p (.nd .lst z.2.2.dropLast)) else none
  |_=>none
 |.ro _=>none
theorem OJ{α:Type}{xs:List α}{i:Nat}{x:α}(h:xs.dropLast[i]?=some x):xs[i]?=some x:=by
 rw[List.getElem?_dropLast]at h
 split at h
 ·exact h
 ·cases h
instance (priority:=600) ai6{to:TE}{fp:En->Option Pl}[P:SP K n to fp]:SM K n (EW K "list" EY to) (B9 fp):=⟨λ{σ hv H U Z ρ' τv τd d Q} I h k=>by
 obtain⟨q,h1,h⟩:=af.mp h;cases q with
 |ro _=>cases h
 |rt r p=>
  obtain⟨⟨d0,kk,cs⟩,g1,g2⟩:=af.mp h;obtain⟨hr,hg⟩:=qU g1
  split at g2
  ·next e=>
   have e:kk= .lst:=e;subst e;obtain⟨d1,g3,g4⟩:=af.mp g2;by_cases c:plain d1=true
   ·rw[if_pos c]at g4;cases g4;refine P.s I h1 λx H1 s1 w1=> ?_;have I1:=I.same s1;have hV:b5 U H U H1:=λb o q nu=>⟨s1 b o q,nu⟩
    obtain⟨a,dx,vs,rfl,ha,hf,hl,vl,ed⟩:=aB.edit (τv:=τv) (τd:=τd) (xs:= []) (ds:= []) (by rw[fE,fE];exact I1) rfl w1 hr hg rfl;have g3:cs[cs.length - 1]?=some d:=g3;obtain⟨y,hy,wy⟩:=vl.get g3;obtain⟨U3,I3,iT⟩:=ed .lst vs.dropLast cs.dropLast id rfl trivial (by simp[hl]) (λx z _ _ h=>h) (λj x h=>by rw[fE];exact OJ h) (λj x h=>by rw[fE];exact OJ h);have OK:Vw K (upd H1 a (.lst vs.dropLast)) T1 y d:=((wy.plain c).frame (λ_ _ z=>z.elim) (wm (by rw[ha];trivial))).vw
    ·obtain⟨U4,I4,hZ⟩:=I3.push (aP.refl _) (eX.plain OK c);exact⟨FH ha,a,vs,y,rfl,rfl,ha,by rw[hl];exact hy,k _ _ U4 I4 (hV.trans (iT.trans hZ))⟩
   ·rw[if_neg c]at g4;cases g4
  ·cases g2⟩
end
theorem Gm{K:aj}{m:Nat}{G:List D->Option D}{vs:List V}{H:Hp}{Q:VK}{E:XK}(h:eU K m G vs H Q E):vs.length=m:=by
 obtain⟨ds,d,hd,w,_⟩:=h;rw[w.1,hd]
def lC(X:Cx)(scope:Scope):List Str->List (Option Nat)->Prop
 | [], []=>True
 |_::N,none::js=>lC X scope N js
 |x::N,some j::js=>(X.N[j]?=some x/\scope.names.lookup x=some .free/\(X.env.scope.names.lookup x=some .cell\/X.env.scope.names.lookup x=some .free))/\lC X scope N js
 |_,_=>False
noncomputable def wF:List Str->List (Option Nat)->List Str
 |_::N,none::js=>wF N js
 |x::N,some _::js=>x::wF N js
 |_,_=> []
theorem lC.len:∀{N:List Str} {js:List (Option Nat)},lC X scope N js->js.length=N.length
 | [], [],_=>rfl
 |_::N,none::js,h=>congrArg (· + 1) (lC.len (N:=N) (js:=js) h)
 |_::N,some _::js,h=>congrArg (· + 1) (lC.len (N:=N) (js:=js) h.2)
 | [],_::_,h=>h.elim
 |_::_, [],h=>h.elim
theorem lC.at:∀{N:List Str} {js:List (Option Nat)} {i j:Nat} {x:Str},lC X scope N js->js[i]?=some (some j)->N[i]?=some x->X.N[j]?=some x/\scope.names.lookup x=some .free/\(X.env.scope.names.lookup x=some .cell\/X.env.scope.names.lookup x=some .free)
 | [], [],_,_,_,_,h,_=>by simp at h
 |_::N,none::js,0,j,x,_,h,_=>by cases h
 |_::N,none::js,i + 1,j,x,h,h1,h2=>lC.at (N:=N) (js:=js) (i:=i) h (by simpa using h1) (by simpa using h2)
 |_::N,some _::js,0,j,x,h,h1,h2=>by cases h1;cases h2;exact h.1
 |_::N,some _::js,i + 1,j,x,h,h1,h2=>lC.at (N:=N) (js:=js) (i:=i) h.2 (by simpa using h1) (by simpa using h2)
 | [],_::_,_,_,_,h,_,_=>h.elim
 |_::_, [],_,_,_,h,_,_=>h.elim
theorem lC.mem:∀{N:List Str} {js:List (Option Nat)} {x:Str},lC X scope N js->x∈wF N js->X.env.scope.names.lookup x=some .cell\/X.env.scope.names.lookup x=some .free
 | [], [],_,_,h=>by simp[wF]at h
 |_::N,none::js,x,h,hm=>lC.mem (N:=N) (js:=js) h hm
 |y::N,some _::js,x,h,hm=>by
  rw[wF]at hm;cases hm with
  |head=>exact h.1.2.2
  |tail _ hm=>exact lC.mem (N:=N) (js:=js) h.2 hm
 | [],_::_,_,h,_=>h.elim
 |_::_, [],_,h,_=>h.elim
theorem md(h:lC X scope N js)(Fh:∀z∈scope.names,z.2= .free->z.1∈wF N js:=by decide +kernel):yw X N scope js:=
 ⟨h.len,λi j x e1 e2=>h.at e1 e2,λz hz kY=>h.mem (Fh z hz kY)⟩
structure nM(P:Program)(w:World)(K:aj)(mg:Str->Option Value)(base:Heap)(C:Addr)(m:Str)(ps:List Str)(k:Nat)(sp:Sp):Prop where
 cl:kO K C
 ex:∃(f:Addr) (fd:j7),cz P w K mg base cX k f fd ps sp/\Binds K fd ps []/\DL K C m f
structure Gp(P:Program)(w:World)(K:aj)(mg:Str->Option Value)(base:Heap)(x:Str)(C:Addr)(ps:List Str)(k:Nat)(sp:Sp):Prop where
 cl:kO K C
 ex:∃(f:Addr) (fd:j7),cz P w K mg base cX k f fd ps sp/\Binds K fd ps []/\Mk K C f/\mg x=some (.ref C)
section
variable {j k:Nat}{x m:Str}{e o:Expr}{ta:TE}
theorem OL{pl:Sem Bool}(M:nM X.prog X.w X.K X.mg X.base C m ps k sp)(hr:fZ j X.A)(he:PE X o ta)(ha:PA X (e::es) t)(hj:k<=j:=by decide)
  (tR:dh (e::es) X.env=(false,eval e X.env)::dh es X.env:=by rfl) (dM:(backTo pos (dh es X.env)).any (·.1)=false:=by rfl)
  (ht:eval (.Call (.Attribute o m iB) (e::es) [] pos) X.env=(do
   let ov <- eval o X.env
   AO iB.atName
   let (f,first) <- holding [ov] (AR ov m pl)
   Lf pos f first (backTo pos (dh (e::es) X.env)) (xF pos (xG [] X.env))):=by rfl):
  PE X (.Call (.Attribute o m iB) (e::es) [] pos) (vR C m sp [] E0 ta t):=by
 obtain⟨f,fd,F,b,hm⟩:=M.ex;exact V3 (pl:=pl) he M.cl hm F (hr.mono hj) b .nil Bu ha tR dM ht
theorem Ca{pl:Sem Bool}(M:nM X.prog X.w X.K X.mg X.base C m ps k sp)(hr:fZ j X.A)(he:PE X o ta)(hj:k<=j:=by decide)
  (ht:eval (.Call (.Attribute o m iB) [] [] pos) X.env=(do
   let ov <- eval o X.env
   AO iB.atName
   let (f,first) <- holding [ov] (AR ov m pl)
   Lf pos f first (backTo pos (dh [] X.env)) (xF pos (xG [] X.env))):=by rfl):
  PE X (.Call (.Attribute o m iB) [] [] pos) (vR C m sp [] E0 ta gU):=by
 obtain⟨f,fd,F,b,hm⟩:=M.ex;exact V4 (pl:=pl) he M.cl hm F (hr.mono hj) b .nil Bu ht
theorem Zn(M:Gp X.prog X.w X.K X.mg X.base x C ps k sp)(hr:fZ j X.A)(hg:Gl X x)(ha:PA X (e::es) t)(hj:k + 1<=j:=by decide)(mH:(x == ("__debug__":Str))=false:=by decide)
  (he:dh (e::es) X.env=(false,eval e X.env)::dh es X.env:=by rfl) (dM:(backTo pos (dh es X.env)).any (·.1)=false:=by rfl):
  PE X (.Call (.Name x p) (e::es) [] pos) (ED C sp [] E0 t):=by
 obtain⟨f,fd,F,b,mk,hm⟩:=M.ex;exact V6 mk F (hr.mono hj) hg hm b .nil Bu ha mH he dM
theorem Zo{X:Cx}{K:aj}(hK:X.K=K){e:Expr}{f:Str}{pos:Pos}{ta:TE}(he:PE X e ta)(hb:qo e f X.env (eval e X.env)=eval e X.env):PE X (.Attribute e f pos) (yk K ta f):=by
 subst hK;exact VU he hb
theorem OM(hk:PE X kk tk)(hv:PE X vv tv):PE X (.Dict [some kk] [vv] pos) (yu [(tk,tv)]):=
 Nk (mM hk hv E8) rfl rfl (List.cons_ne_nil _ _) (ag0 rfl)
end
section
variable {K:aj}{n:Nat}{H H' H1 H2:Hp}{U U':Addr->Prop}{σ hv:List (Option V)}{Z ρ':En}{τv vs:List V}{τd ds:List D}{v y:V}{d:D}
instance ai7:kU K n BB (λ_=>some true):=⟨λI h k=>by cases h;exact k _ (aP.refl _)⟩
def q9(fk fv:En->Option D)(Z:En):Option D:=(fk Z).bind λk=>(fv Z).bind λv=>(cG k).map λkey=> .nd (.az [key]) [v]
instance ai8[A:SV K n tk fk][B':SQ K n tv fv]:SF K n (yu [(tk,tv)]) (q9 fk fv):=⟨λ{σ hv H U Z τv τd d Q} I h k=>by
 obtain⟨a,ha,h⟩:=af.mp h;obtain⟨b,hb,h⟩:=af.mp h;obtain⟨key,hk,h⟩:=bg.mp h;subst h;intro p hp;have s0:aP H (upd H p (.dK [])):=gW hp _;refine A.s (I.same s0) ha λx H1 s1 w1=>B'.o ((I.same s0).same s1) hb λy H2 s2 o=> ?_;have e0:H2 p=some (.dK []):=s2 _ _ (s1 _ _ eJ);refine⟨e0, [(key,y)],by rw[w1.key hk];rfl,by simp, ?_⟩;have em:oC [] [(key,y)]= [key].zip [y]:=rfl;rw[em];have sA:aP H (upd H2 p (.dK ([key].zip [y]))):=λc u q=>by
  rw[bA (kL q hp)];exact s2 _ _ (s1 _ _ (s0 _ _ q))
 refine k _ _ sA ?_;obtain⟨G,r,f⟩:=o;have np:¬ G p:=λz=>by have q:=(f p z).1;rw[s1 _ _ eJ]at q;cases q
 refine⟨λc=>G c\/c=p, .nd (vs:= [y]) (λi c=>i=0/\G c) ⟨.inr rfl,rfl,rfl,0,eJ⟩ rfl (λi j c hi hj=>by rw[hi.1,hj.1]) (λi c hc=>⟨.inl hc.2,λ_ z=>by rw[z]at hc;exact np hc.2⟩) λi u e hu he=> ?_,λc hc=> ?_⟩
 ·cases i with
  |succ i=>simp at hu
  |zero=>
   cases hu;cases he;refine(r.frame (λc o hc q=> ?_) (wm (by rw[e0];trivial))).mono λc z=>⟨rfl,z⟩
   rw[bA λz=>by rw[z]at hc;exact np hc];exact q
 ·rcases hc with z | z
  ·refine⟨(s0.trans s1).free (f c z).1, ?_⟩;rw[bA λw=>by rw[w]at z;exact np z];exact(f c z).2
  ·rw[z];exact⟨hp,by rw[eJ];trivial⟩⟩
end
section
variable {K:aj}{n:Nat}{H H':Hp}{U U':Addr->Prop}{σ hv:List (Option V)}{Z ρ':En}{τv vs:List V}{τd ds cs:List D}{v:V}{d:D}{E:lK}
theorem Gq{α:Type}{a b c c':List α}(h:i < a.length + b.length):(a++(b++c))[i]?=(a++(b++c'))[i]?:=by
 rw[<- dI, <- dI,br (l₂:=c) (by simp;exact h),br (l₂:=c') (by simp;exact h)]
theorem aB.Zp(I:aB K n H U σ hv Z (τv++ [v]) (τd++ [.nd .tup cs])):∃a vs,v= .ref a/\H a=some (.tup vs)/\vs.length=cs.length/\aB K n H U σ hv Z (τv++vs) (τd++cs):=by
 have l:=I.len;have tl:=I.tl;simp only[cc,gc,Uv]at tl;obtain⟨hl,mu,Fs,dj,sub,sl⟩:=I.ok;have eD:(Z++(τd++ [D.nd .tup cs]).map λd=>some (B.own d))[Z.length + τd.length]?=some (some (.own (.nd .tup cs))):=by
  rw[bK (by lia)];simp
 have eV:(σ++hv++(τv++ [v]).map some)[Z.length + τd.length]?=some (some v):=by
  rw[bK (by simp;lia)];simp;rw[show Z.length + τd.length - (σ.length + hv.length)=τv.length by lia];simp
 obtain⟨v',ev,sv⟩:=sl _ _ eD;rw[eV]at ev;cases ev;have sv:bj K H (Fs (Z.length + τd.length)) v (.nd .tup cs):=sv;cases sv with
 | @nd F a k vs cs Gs h1 h2 h3 h4 h5=>
  refine⟨a,vs,rfl,h1,h2,⟨?_,I.len,I.nn⟩⟩;refine⟨by simp;lia,mu,λi b=>if i < Z.length + τd.length then Fs i b else Gs (i - (Z.length + τd.length)) b,λi j b hi hj=> ?_,λi b hb=> ?_,λi β aL=> ?_⟩
  ·have hi:if i < Z.length + τd.length then Fs i b else Gs (i - (Z.length + τd.length)) b:=hi;have hj:if j < Z.length + τd.length then Fs j b else Gs (j - (Z.length + τd.length)) b:=hj;by_cases c1:i < Z.length + τd.length
   ·rw[if_pos c1]at hi;by_cases c2:j < Z.length + τd.length
    ·rw[if_pos c2]at hj;exact dj _ _ _ hi hj
    ·rw[if_neg c2]at hj;have:=dj _ _ _ hi (h4 _ _ hj).1
     lia
   ·rw[if_neg c1]at hi;by_cases c2:j < Z.length + τd.length
    ·rw[if_pos c2]at hj;have:=dj _ _ _ hj (h4 _ _ hi).1
     lia
    ·rw[if_neg c2]at hj;have:=h3 _ _ _ hi hj
     lia
  ·have hb:if i < Z.length + τd.length then Fs i b else Gs (i - (Z.length + τd.length)) b:=hb;by_cases c1:i < Z.length + τd.length
   ·rw[if_pos c1]at hb;exact sub _ _ hb
   ·rw[if_neg c1]at hb;exact sub _ _ (h4 _ _ hb).1
  ·by_cases c1:i < Z.length + τd.length
   ·have ud:(Z++(τd++ [D.nd .tup cs]).map λd=>some (B.own d))[i]?=some (some β):=by
     rw[<- aL,cK,cK];exact Gq (by simp;lia)
    obtain⟨x,ex,sx⟩:=sl _ _ ud;have L1:(σ++hv++(τv++vs).map some)[i]?=some (some x):=by
     rw[<- ex,cK,cK];exact Gq (by simp;lia)
    refine⟨x,L1, ?_⟩;simp only[if_pos c1];cases β with
    |own d=>exact sx
    |ro d=>exact sx
    |ak r p=>
     obtain⟨a1,vr,a2,a3⟩:=sx;refine⟨a1,vr, ?_,a3⟩;rw[<- a2,cK,cK];exact Gq (by simp;lia)
   ·rw[cK, <- dI,bK (by simp;lia)]at aL;rw[cc,eS,dF]at aL;obtain⟨d,hd,e⟩:=bg.mp aL;cases e;have lt:=(bW.mp hd).1;refine⟨vs[i - (Z.length + τd.length)]'(by lia), ?_, ?_⟩
    ·rw[cK, <- dI,bK (by simp;lia)];simp only[cc,eS,dF];rw[show σ.length + hv.length + τv.length=Z.length + τd.length by lia,gn (by lia)];rfl
    ·simp only[if_neg c1];exact h5 _ _ _ (gn (by lia)) hd
def binds:List Nat->List D->En->En
 |i::is,d::ds,Z=>binds is ds (aQ i (.own d) Z)
 |_,_,Z=>Z
class GN(K:aj)(n:Nat)(g:qA)(is:outParam (List Nat)):Prop where
 s:∀{σ hv:List (Option V)} {H:Hp} {U:Addr->Prop} {Z:En} {τv:List V} {τd:List D} {xs:List V} {ds:List D} {Q:L2.St->Hp->Prop},aB K n H U σ hv Z (τv++xs) (τd++ds)->xs.length=ds.length->ds.length=is.length->(∀aN,aB K n H U aN hv (binds is ds Z) τv τd->Q aN H)->g xs σ H Q
instance ai9:GN K n yi []:=⟨λ{σ hv H U Z τv τd xs ds Q} I hl hd k=>by
 cases ds with
 |cons _ _=>cases hd
 |nil=>
  cases xs with
  |cons _ _=>cases hl
  |nil=>rw[fE,fE]at I;exact⟨rfl,k _ I⟩⟩
instance aja[L:ke i n][A:GN K n t is]:GN K n (rP (mF i) t) (i::is):=⟨λ{σ hv H U Z τv τd xs ds Q} I hl hd k=>by
 cases ds with
 |nil=>cases hd
 |cons d ds=>
  cases xs with
  |nil=>cases hl
  |cons x xs=>exact⟨x,xs,rfl,A.s (Z:=aQ i (.own d) Z) ((I.Oe (fU hl)).bound L.h (.inr trivial)) (fU hl) (fU hd) k⟩⟩
def mT(is:List Nat):D->En->Option Fl
 |.nd .tup cs,Z=>if cs.length=is.length then some (.nx (binds is cs Z)) else none
 |_,_=>none
def nN(is:List Nat)(f:En->Option (D×En))(Z:En):Option Fl:=(f Z).bind λr=>mT is r.1 r.2
instance ajb[Lm:wB is m][G:GN K n t is][A:SM K n te fe]:SS K n (ny te (vI K m t)) (nN is fe):=⟨λ{σ hv H U Z τv τd fl E} I h k=>by
 obtain⟨⟨d,ρ1⟩,h1,h2⟩:=af.mp h;have h2:mT is d ρ1=some fl:=h2;clear h;cases d with
 |sc x=>cases h2
 |hl x=>cases h2
 |nd kd cs=>
 cases kd with
 |tup=>
  have h2:(if cs.length=is.length then some (Fl.nx (binds is cs ρ1)) else none)=some fl:=h2;by_cases c:cs.length=is.length
  ·rw[if_pos c]at h2;cases h2;refine A.s I h1 λv H1 U1 I1 bH=> ?_;obtain⟨a,vs,rfl,ha,hl,I2⟩:=I1.Zp;exact⟨a,vs,rfl,cP.of ha,by rw[hl,c];exact Lm.h,G.s I2 hl c λaN I3=>k _ H1 U1 I3 bH⟩
  ·rw[if_neg c]at h2;cases h2
 |_=>cases h2⟩
end
open PySem.W
noncomputable def sG (v d:Addr):HO:= .ext λh=>h.IsValuesView v d
def Gr(to:TE):TE:=λσ H Q=>to σ H λx H1=>∃d ah,x= .ref d/\Rd H1 d (.dK ah)/\∀v,H1 v=none->Q (.ref v) (upd H1 v (sG v d))
def Gu:List V->Hp->VK->Prop:=λxs H Q=>∃v d ah,xs= [.ref v]/\H v=some (sG v d)/\Rd H d (.dK ah)/\∀l,H l=none->Q (.ref l) (upd H l (.lst (ah.map (·.2))))
section
theorem ON(ho:PE X o to)(tY:qo o "values" X.env (eval o X.env)=eval o X.env:=by rfl)(tZ:(iB.endLine == jo.line)=true:=by rfl):PE X (.Call (.Attribute o "values" iB) [] [] jo) (Gr to):=by
 intro aa s σ H Q I h;refine agy tY tZ (bP (ho aa s σ H _ I h) λv s1 ⟨x,H1,I1,r1,q1⟩=> ?_);obtain⟨d,ah,rfl,e,q⟩:=q1;cases r1;obtain⟨z,hd,ws,dX,dd⟩:=qL I1.ba e;have h1:s1.TypeIs (.ref d) "dict":=dd.typeIs;have h2:∀a,gA d= .ref a->∃ob,s1.heap.get? a=some ob/\ob.dict=none:=λa e2=>by
  cases e2;obtain⟨ob,_,_,e3,ex,_⟩:=dd;exact⟨ob,e3,ex.2.1⟩
 refine⟨"dict","dict.values",agR,ag1,PySem.F.type_dict_values,h1,h2,LF rfl (agK ?_)⟩;refine T5 ag1 dd.typeIs PySem.F.entry_dict_values (PySem.F.args_dict_values_1 _) (meets_dict_values (jf X.prog X.w) d hd) ⟨⟨ws,dd⟩, ?_⟩;have yS:(s1.heap.push { cls:= .type "dict_values",data:= .fields #[.ref d] }).get? s1.heap.objs.size=some { cls:= .type "dict_values",data:= .fields #[.ref d] }:=jz _ rfl;refine⟨.ref s1.heap.objs.size,_,I1.laid (t':=s1.toks) (o:=sG s1.heap.objs.size d) (λ_ _ q=>gB _ q) (bX _) ⟨⟨_,yS,rfl,rfl⟩,⟨_,yS⟩,λh1 h2 f k=> ?_⟩,rfl,q _ I1.fresh⟩;obtain⟨o,ho,r⟩:=f;exact⟨o,k o ho,r⟩
theorem Zq{ah:List (bw×V)}{vs:List (bw×Value)}{us:List Value}(dX:KV ah vs)(hl:us.length=vs.length)(h:∀(j:Nat) (v:Value),us[j]?=some v->∃k,vs[j]?=some (k,v)):bJ (ah.map (·.2)) us:=by
 refine NL (by rw[eS,hl, <- dX.length]) λj x u e1 e2=> ?_;obtain⟨k,e3⟩:=h j u e2;rw[dF]at e1;cases q:ah[j]? with
 |none=>rw[q]at e1;cases e1
 |some p=>
  rw[q]at e1;cases e1;exact(BH dX q e3).2
theorem Zr(hc:X.calm=true):i4 X (.type "list") Gu:=by
 intro aa s σ H xs us Q I r h;obtain⟨v,d,ah,rfl,ev,e,q⟩:=h;obtain⟨u,rfl,rx⟩:=vals1 r;cases rx;obtain⟨z,hd,vs,dX,dd⟩:=qL I.ba e;obtain⟨ep,da⟩:=dd.dictAt;have hz:vs.length<=aM:=by rw[<- dX.length];exact z
 have uw:s.heap.IsValuesView v d:=(I.ba v _ ev).1;refine kdl_call (kdl_values (knd:=jf X.prog X.w)) (I.ok.hd hc) ⟨uw,da⟩ hz λh' tk ek c kp hg BD=> ?_;have hv:bJ (ah.map (·.2)) ek.toList:=Zq dX (by rw[Lv];exact BD.1) λj v e=>BD.2 j v (by rw[<- agM];exact e);refine⟨.ref s.heap.objs.size,_,I.laid (t':=tk) kp (bX _) (show fY X.prog X.w _ h' _ (.lst (ah.map (·.2))) from⟨by rw[eS];exact z,ek.toList,c,hv, ?_⟩),rfl,q _ I.fresh⟩;rw[Array.toArray_toList];exact hg
variable {K:aj}{n:Nat}{H H':Hp}
def Cb:D->Option D
 |.nd (.az _) cs=>if aK cs=true then some (.nd .lst cs) else none
 |_=>none
instance (priority:=2000) ajc{t:TE}{f:En->Option D}[A:SV K n t f]:SF K n (lx Gu (e9 (Gr t) gU)) (λZ=>(f Z).bind Cb):=⟨λ{σ hv H U Z τv τd d Q} I h k=>by
 obtain⟨x,h1,h2⟩:=af.mp h;refine A.s I h1 λv H1 s1 w=> ?_;unfold Cb at h2
 split at h2
 ·next ks cs=>
  by_cases c:aK cs=true
  ·rw[if_pos c]at h2;cases h2;obtain⟨a,us,rfl,hc,vl⟩:=w.gN;have hl:ks.length=us.length:=hc.1;have rd:Rd H1 a (.dK (ks.zip us)):=hc.2;refine⟨a,ks.zip us,rfl,rd,λvw uw=>⟨vw,a,ks.zip us,rfl,eJ, ?_,λl ip=> ?_⟩⟩
   ·rcases rd with q | ⟨o,q⟩
    ·exact .inl (gW uw _ _ _ q)
    ·exact .inr ⟨o,gW uw _ _ _ q⟩
   ·have s2:=gW uw (sG vw a);have Zs:dB K (upd H1 vw (sG vw a)) T1 us cs:=⟨vl.1,λi v d a b=>(vl.2 i v d a b).same s2⟩
    rw[show(ks.zip us).map (·.2)=us from yz hl];exact k _ _ (s1.trans (s2.trans (gW ip _))) ((Zs.own (k:= .lst) c ip (.inr ⟨rfl,trivial,0,rfl⟩)).early (s1.trans s2))
  ·rw[if_neg c]at h2;cases h2
 ·cases h2⟩
end
theorem Zt{prog:Program}{w:World}{A:Around}{E:Value->Shared->Prop}{s:Shared}{id:String}{b:Builtin}{args:List Value}{kw:List (Str×Value)}{Q:Value->Shared->Prop}(hk:builtinKind id=none)(hp:plainId id=true)
  (hb:entryFor table id=some b) (ha:argsOk id ⟨args,kw⟩)
  (hc:wpAny (model prog w) A.in1 (b ⟨args,kw⟩) (λdD s'=>match dD with
   |.done f=>(match (Except.ok f:Result) with | .ok (.ret v)=>Q v s' | .ok _=>False | .error e=>E e s')
   |.again c'=>c'.quiet=true/\mw (model prog w) A c' (λr s'=>match r with | .ok (.ret v)=>Q v s' | .ok _=>False | .error e=>E e s') s') E s):
  wpAny (model prog w) A (call (.builtin id) args kw) Q E s:=by
 refine Le (codeAny_call_builtin hp hb ?_);simp only[checkBuiltinCall,hk];cases Zu:Manifest.signature? id with
 |none=>exact dw hc
 |some sig=>
  have Cc:Bind.checkArgs id sig ⟨args,kw⟩=pure ():=by simpa only [argsOk,Zu]using ha
  simp only[Cc];exact dw hc
theorem Zv(a k:Value):argsOk "max" ⟨[a], [("key",k)]⟩:=by unfold argsOk;kernel_rfl
section
variable {k:Nat}{f:Addr}
end
section
variable {K:aj}{n:Nat}{H H':Hp}
end
section
open AutoSeq1 (wpAny_loadPart')
open MeetsSeq MeetsSeq2 MeetsSeq3 SeqRoads2
theorem OO(h:Q (.bool (decide (b < a))) s):wpAny (model prog w) A (Ln .Gt (.int a t) (.int b u)) Q E s:=SiftDown.gt_int h
theorem eqT(e:a=b)(h:Q true s):wpAny (model prog w) A (eqBool (.int a t) (.int b u)) Q E s:=TM (by rw[show(a == b)=true by simp[e]];exact h)
theorem ra(e:a≠b)(h:Q false s):wpAny (model prog w) A (eqBool (.int a t) (.int b u)) Q E s:=TM (by rw[show(a == b)=false by simp[e]];exact h)
noncomputable def iW (i j i' j':Int):Bool:=if i=i' then decide (j' < j) else decide (i' < i)
set_option maxHeartbeats 4000000 in
theorem Zw(l b:Addr)(i j i' j':Int)(t u t' u':Tok)(n n2:Nat)(dd pV:Option Addr)(sl iw:Array (Option Value)):
  Meets (Builtin.«tuple.__gt__» ⟨[.ref l, .ref b], []⟩)
   (λA R s=>s.heap.get? l=some { cls:= .type "tuple",dict:=dd,data:= .seq #[.int i t, .int j u] n,slots:=sl }/\s.heap.get? b=some { cls:= .type "tuple",dict:=pV,data:= .seq #[.int i' t', .int j' u'] n2,slots:=iw }/\
    R (.ok (.ret (.bool (iW i j i' j')))) s):=
 .of_wp λprog w A R s h=>by
  obtain⟨hp,g,d,tk,os⟩:=s;obtain⟨hl,hb,h⟩:=h;have f2:=AutoSeq1.sub_tuple_tuple;unfold iW at h;by_cases e:i=i'
  ·rw[if_pos e]at h;by_cases e2:j=j'
   ·have c3:decide (j' < j)=false:=by simp[e2]
    rw[c3]at h
    wp_walk using u6 hl,u6 hb,eqT e,eqT e2
    exact⟨_,rfl,h⟩
   ·wp_walk using u6 hl,u6 hb,eqT e,ra e2,OO
    exact⟨_,rfl,h⟩
  ·rw[if_neg e]at h
   wp_walk using u6 hl,u6 hb,ra e,OO
   exact⟨_,rfl,h⟩
theorem Gv{prog:Program}{w:World}{E:Value->Shared->Prop}{Q:Value->Shared->Prop}(hl:s.heap.IsTuple l #[.int i t, .int j u])(hb:s.heap.IsTuple b #[.int i' t', .int j' u'])(hu:A.units < cLine)
  (h:Q (.bool (iW i j i' j')) s):wpAny (model prog w) A (Ln .Gt (.ref l) (.ref b)) Q E s:=by
 obtain⟨⟨cls,dd,data,sl⟩,ho,hc,n,hd⟩:=id hl;obtain⟨⟨EH,pV,data2,iw⟩,mI,gq,n2,hd2⟩:=id hb;simp only at hc hd gq hd2;subst hc hd gq hd2;exact richCompare_meets_room (op:= .Gt) ⟨_,ho,rfl⟩ ⟨_,mI,rfl⟩ F.slot_tuple_gt F.entry_tuple_gt (F.args_tuple_gt_2 _ _) (Zw l b i j i' j' t u t' u' n n2 dd pV sl iw)
  ⟨ho,mI,show xO (iW i j i' j')≠Value.notImplemented/\Q (.bool (iW i j i' j')) s from⟨(λx=>nomatch x),h⟩⟩ hu
variable {k:Nat}{f:Addr}
def Gw(K:aj)(H:Hp)(x y:V)(g:Bool):Prop:=∃(p q:Addr) (i j i' j':Int),x= .ref p/\y= .ref q/\cP K H p [.int i, .int j]/\cP K H q [.int i', .int j']/\g=iW i j i' j'
def wG(K:aj)(sp:Sp)(a:Addr)(xs:List V)(Q:VK):List V->Option (V×V)->Hp->Prop
 | [],some (b,_),H=>Q b H
 | [],none,_=>False
 |x::r,pz,H=>sp [x] H (λkv H2=>H2 a=some (.lst xs)/\match pz with
  |none=>wG K sp a xs Q r (some (x,kv)) H2
  |some (b,bk)=>∃g,Gw K H2 kv bk g/\wG K sp a xs Q r (if g=true then some (x,kv) else some (b,bk)) H2) E0
def Zx:Option (V×V)->List Value->Prop
 |none,us=>us= []
 |some (b,bk),us=>bJ [b,bk] us
theorem Cd{aa:List (Addr×Obj)}{σ:L2.St}{Q:VK}{xs:List V}(F:cz X.prog X.w X.K X.mg X.base cX k f fd ps sp)(hb:Binds X.K fd ps [])(hr:fZ (k + 1) X.A)(hc:X.calm=true)(jG:it≠S)(qc:a≠it):
  ∀(rest:List V) (i:Nat) (pz:Option (V×V)) (us:List Value) (n:Nat) (H:Hp) (s:Shared),xs.drop i=rest->Inv X aa σ H s->H a=some (.lst xs)->s.heap.IsListIter it a i->s.heap.get? S=some { cls:= .type "list",data:= .seq us.toArray n }->Zx pz us->iQ X aa H it->iQ X aa H S->
   wG X.K sp a xs Q rest pz H->mw (model X.prog X.w) X.A (.builtin "max.loop" ⟨[.ref it, .ref f, .ref S], []⟩) (λr s'=>match r with | .ok (.ret v)=>EP X aa σ Q v s' | .ok _=>False | .error e=>X.xe e s') s
 | [],i,none,us,n,H,s,hd,I,ha,hit,hS,hB,fI,fS,h=>h.elim
 | [],i,some (b,bk),us,n,H,s,hd,I,ha,hit,hS,hB,fI,fS,h=>by
  obtain⟨au,rv,pl,hz⟩:=I.list (cV.of ha);have W:=D1 (prog:=X.prog) (w:=X.w) (A:=X.A.in1) (show X.A.in1.handled=none from I.ok.hd hc) it a qc;have hi:xs.length<=i:=by
   rcases xT i xs.length with h | h
   ·rw[rH h]at hd;cases hd
   ·exact h
  have hsz:au.toArray.size=xs.length:=by rw[gr];exact rv.length.symm
  obtain⟨ub,uk,rfl,rb,rk⟩:=L2.vals2 hB;refine Lo LQ ?_;rw[LR pF _];show wpAny _ X.A.in1 (Lq (.ref S) >>= _) _ _ _;refine bq (Lr hS rfl ?_);show wpAny _ X.A.in1 (tryCatch (pyNext (.ref it)) _ >>= _) _ _ _;refine bq (xM (TR (show X.A.in1.handled=none from I.ok.hd hc) hit pl.isList (ag2 (by rw[hsz];exact hi)) λh7 Gx=> ?_));have yU:∀b o,b≠it->s.heap.get? b=some o->h7.get? b=some o:=λb o oQ e=>Gx b o oQ e;have Gy:=yU S _ (λz=>jG z.symm) hS;have I7:L2.Inv X aa σ H { s with heap:=h7 }:=I.turned (t':=s.toks) (it:=it) yU fI.1 fI.2.1 fI.2.2.2.1 fI.2.2.2.2.1 fI.2.2.2.2.2;show wpAny _ X.A.in1 (AV S (λ_=>#[]) >>= _) _ _ _;refine bq ?_;refine AW Gy rfl (bq (va (dw ?_)));exact⟨b,H,L2.Inv.turned (s:= { s with heap:=h7 }) I7 (t':=s.toks) (it:=S) (λb o n e=>(vj _ _ (jO n)).trans e) fS.1 fS.2.1 fS.2.2.2.1 fS.2.2.2.2.1 fS.2.2.2.2.2,rb,h⟩
 |x::r,i,pz,us,n,H,s,hd,I,ha,hit,hS,hB,fI,fS,h=>by
  have oR:(toString "max"++toString ".loop":String)="max.loop":=by decide
  obtain⟨au,rv,pl,hz⟩:=I.list (cV.of ha);have W:=D1 (prog:=X.prog) (w:=X.w) (A:=X.A.in1) (show X.A.in1.handled=none from I.ok.hd hc) it a qc;have hi:i < xs.length:=by
   rcases xT i xs.length with h | h
   ·exact h
   ·rw[UD h]at hd;cases hd
  have hx:xs[i]?=some x:=by rw[rH hi]at hd;injection hd with e1 e2;rw[gn hi,e1]
  have mP:xs.drop (i + 1)=r:=by rw[rH hi]at hd;injection hd
  have hsz:au.toArray.size=xs.length:=by rw[gr];exact rv.length.symm
  refine Lo LQ ?_;rw[LR pF _];show wpAny _ X.A.in1 (Lq (.ref S) >>= _) _ _ _;refine bq (Lr hS rfl ?_);show wpAny _ X.A.in1 (tryCatch (pyNext (.ref it)) _ >>= _) _ _ _;refine bq (xM ((W au.toArray).item i _ _ _ (by rw[hsz];exact hi) ⟨hit,pl.isList⟩ λv' h4 tk hP bH yV=> ?_));obtain⟨u',Gz,wH⟩:=rv.get hx;have e4:v'=u':=by
   have:au[i]?=some v':=by simpa using hP
   rw[Gz]at this;injection this with this;exact this.symm
  subst e4;have I4:L2.Inv X aa σ H { s with heap:=h4,toks:=tk }:=I.turned (t':=tk) (it:=it) (λb o n e=>yV b o (λz=>n (gf.mp z)) e) fI.1 fI.2.1 fI.2.2.2.1 fI.2.2.2.2.1 fI.2.2.2.2.2;have sH:h4.get? S=_:=yV S _ (λz=>jG (gf.mp z).symm) hS;obtain⟨oi,yW,yX,wI⟩:=id bH.1;have Zy:L2.Inv X (aa++rS [it,S] h4) σ H { s with heap:=h4,toks:=tk }:=I4.pinned (fp:= [it,S]) (λb oQ=>by
    rcases fX.mp oQ with rfl | oQ
    ·exact fI
    ·rw[gf.mp oQ];exact fS) (λb oQ=>by
    rcases fX.mp oQ with rfl | oQ
    ·exact⟨oi,yW,λv z=>by rw[wI]at z;cases z⟩
    ·rw[gf.mp oQ];exact⟨_,sH,λv z=>by cases z⟩)
  show wpAny _ X.A.in1 (tryCatch (holding [v'] (call (.ref f) [v'])) _ >>= _) _ _ _;refine bq (xM (rE ?_));have hl:([v']++ []).length=ps.length:=(F.len _ _ _ _ h)
  have ux:bJ [x] [v']:= .cons wH .nil;refine Le (DN (F.run X.A.in1 X.stack _ H ⟨[v'], []⟩ ([v']++ []) [x] _ E0 hr.in1 I4.EB.in1 (hb _ [v'] I4.gg hl) ux h) λr s5 hq=> ?_);cases r with
  |error e=>exact hq.elim
  |ok fl=>
   cases fl with
   |next=>exact lM hq
   |brk=>exact lM hq
   |cont=>exact lM hq
   |ret uk=>
    obtain⟨kv,H5,I5,rk,GF,q5⟩:=Zy.after hq;have pS:(S,_)∈rS [it,S] h4:=vM (my _ (gf.mpr rfl)) sH;have pI:(it,oi)∈rS [it,S] h4:=vM (tu) yW;have wJ:=(I5.pin _ (jK _ (jK _ pS)))
    have GG:=(I5.pin _ (jK _ (jK _ pI)))
    have Ce:L2.Inv X aa σ H5 s5:=I5.vN;have gI:iQ X aa H5 it:=⟨GG.2.1,fI.2⟩
    have gS:iQ X aa H5 S:=⟨wJ.2.1,fS.2⟩
    have up:∀(g:Array Value->Array Value),L2.Inv X aa σ H5 { s5 with heap:=s5.heap.update S (oa g) }:=λg=>Ce.turned (t':=s5.toks) (it:=S) (λb o n e=>(vj _ _ (jO n)).trans e) gS.1 gS.2.1 gS.2.2.2.1 gS.2.2.2.2.1 gS.2.2.2.2.2;have yY:∀(g:Array Value->Array Value),(s5.heap.update S (oa g)).IsListIter it a (i + 1):=λg=>⟨oi,(vj _ _ (jO jG)).trans GG.1,yX,wI⟩
    cases pz with
    |none=>
     have GJ:us= []:=hB;subst GJ;show wpAny _ X.A.in1 (AV S (λ_=>#[v',uk]) >>= _) _ _ _;refine bq ?_;refine AW wJ.1 rfl ?_;rw[oR];refine dw ⟨vb pF _, ?_⟩;exact Cd F hb hr hc jG qc _ (i + 1) (some (x,kv)) [v',uk] _ H5 _ mP (up _) GF (yY _) (DY (oa λ_=>#[v',uk]) wJ.1 rfl) (.cons wH (.cons rk .nil)) gI gS q5
    |some bb=>
     obtain⟨b,bk⟩:=bb;obtain⟨ub,ajd,rfl,rb,Zz⟩:=L2.vals2 hB;obtain⟨g,⟨pp,qq,i1,j1,i2,j2,rfl,rfl,h1,h2,hg⟩,q6⟩:=q5;cases rk;cases Zz;obtain⟨OP,ux,yZ,_⟩:=Ce.tuple h1;obtain⟨nz,y0,za,_⟩:=Ce.tuple h2;obtain⟨w1,w2,rfl,c1,c2⟩:=L2.vals2 ux;obtain⟨w3,w4,rfl,c3,c4⟩:=L2.vals2 y0;obtain⟨t1,rfl⟩:=c1;obtain⟨t2,rfl⟩:=c2;obtain⟨t3,rfl⟩:=c3;obtain⟨t4,rfl⟩:=c4;show wpAny _ X.A.in1 (tryCatch (holding [v',gA pp] (Ln .Gt (.ref pp) (.ref qq) >>= _)) _ >>= _) _ _ _;refine bq (xM (rE (bq (Gv yZ za (DZ (Nat.le_add_right _ 1) (gv hr.in1)) ?_))));refine bq (rE (xD ?_));refine bq (va (dw ?_));rw[<- hg];cases g with
     |true=>
      show wpAny _ X.A.in1 (AV S (λ_=>#[v', .ref pp]) >>= _) _ _ _;refine bq ?_;refine AW wJ.1 rfl ?_;refine bq (va ?_);rw[oR];refine dw ⟨vb pF _, ?_⟩;exact Cd F hb hr hc jG qc _ (i + 1) (some (x, .ref pp)) [v', .ref pp] _ H5 _ mP (up _) GF (yY _) (DY (oa λ_=>#[v', .ref pp]) wJ.1 rfl) (.cons wH (.cons rfl .nil)) gI gS q6
     |false=>
      show wpAny _ X.A.in1 (letGo _ >>= _) _ _ _;refine bq (va ?_);rw[oR];refine dw ⟨vb pF _, ?_⟩;exact Cd F hb hr hc jG qc _ (i + 1) (some (b, .ref qq)) [ub, .ref qq] _ H5 _ mP Ce GF ⟨oi,GG.1,yX,wI⟩ wJ.1 (.cons rb (.cons rfl .nil)) gI gS q6
theorem ZA{aa:List (Addr×Obj)}{σ:L2.St}{H:Hp}{s:Shared}{Q:VK}{a:Addr}{xs:List V}(F:cz X.prog X.w X.K X.mg X.base cX k f fd ps sp)(hb:Binds X.K fd ps [])(hr:fZ (k + 1) X.A)(hc:X.calm=true)
  (I:Inv X aa σ H s) (ha:H a=some (.lst xs)) (h:wG X.K sp a xs Q xs none H):
  wpAny (model X.prog X.w) X.A (call (.builtin "max") [.ref a] [("key", .ref f)]) (EP X aa σ Q) X.xe s:=by
 have oR:(toString "max"++toString ".loop":String)="max.loop":=by decide
 obtain⟨au,rv,pl,hz⟩:=I.list (cV.of ha);have lt:a < s.heap.objs.size:=by obtain⟨o,n,e,_⟩:=pl;exact gk e
 refine Zt ag3 ag4 ag5 (Zv _ _) ?_;show wpAny _ X.A.in1 (LS "max" ["key","default"] 0 ⟨[], [("key", .ref f)]⟩ >>= _) _ _ s;refine bq (wpAny_of_eq (show LS "max" ["key","default"] 0 ⟨[], [("key", .ref f)]⟩=pure [some (.ref f),none] from rfl) ?_);refine bq (dw ?_);refine bq (DQ pl.isList ?_);refine bq (xH ?_);rw[oR];refine dw ⟨vb pF _, ?_⟩;have uy:=jz (s.heap.push { cls:= .type "list_iterator",data:= .fields #[.ref a, .int 0 0] }) (o:= { cls:= .type "list",data:= .seq #[] }) rfl;have zb:((s.heap.push { cls:= .type "list_iterator",data:= .fields #[.ref a, .int 0 0] }).push { cls:= .type "list",data:= .seq #[] }).get? s.heap.objs.size=some { cls:= .type "list_iterator",data:= .fields #[.ref a, .int 0 0] }:=
  gB _ (jz _ rfl)
 have zc:∀b o,s.heap.get? b=some o->((s.heap.push { cls:= .type "list_iterator",data:= .fields #[.ref a, .int 0 0] }).push { cls:= .type "list",data:= .seq #[] }).get? b=some o:=
  λb o e=>gB _ (gB _ e)
 have GK:(s.heap.push { cls:= .type "list_iterator",data:= .fields #[.ref a, .int 0 0] }).objs.size=s.heap.objs.size + 1:=tG _ _;show mw (model X.prog X.w) X.A (.builtin "max.loop" ⟨[.ref s.heap.objs.size, .ref f, .ref (s.heap.push { cls:= .type "list_iterator",data:= .fields #[.ref a, .int 0 0] }).objs.size], []⟩) _ { s with heap:=(s.heap.push { cls:= .type "list_iterator",data:= .fields #[.ref a, .int 0 0] }).push { cls:= .type "list",data:= .seq #[] } };generalize ((s.heap.push { cls:= .type "list_iterator",data:= .fields #[.ref a, .int 0 0] }).push { cls:= .type "list",data:= .seq #[] })=h3 at uy zb zc |-;generalize hS:(s.heap.push { cls:= .type "list_iterator",data:= .fields #[.ref a, .int 0 0] }).objs.size=S at uy GK |-;have fI:iQ X aa H s.heap.objs.size:=I.rQ (bX _) (I.ba.fresh (bX _));have fS:iQ X aa H S:=I.rQ (by lia) (I.ba.fresh (by lia));have I3:L2.Inv X aa σ H { s with heap:=h3 }:=I.kept (t':=s.toks) zc;have zd:s.heap.objs.size≠S:=by lia
 exact Cd F hb hr hc zd (jy lt) xs 0 none [] _ H _ rfl I3 ha ⟨_,zb,rfl,rfl⟩ uy rfl fI fS h
def OQ(K:aj)(sp:Sp)(t:TA):TE:=λσ H Q=>t σ H λvs H1=>∃a xs,vs= [.ref a]/\H1 a=some (.lst xs)/\wG K sp a xs Q xs none H1
theorem ZC{K:aj}{j:Nat}{x:Str}{e:Expr}{t:TA}{p p2 kp pos:Pos}(C:eN X.prog X.w X.K X.mg X.base x ps k sp)(hr:fZ j X.A)(hc:X.calm=true)(hg:Gl X "max")(hm:X.mg "max"=none)(ZD:Gl X x)(ha:PA X [e] t)(hK:X.K=K:=by rfl)
  (hj:k + 1<=j:=by decide) (mH:(x == ("__debug__":Str))=false:=by decide) (hs:dh [e] X.env=(false,eval e X.env)::dh [] X.env:=by rfl):
  PE X (.Call (.Name "max" p) [e] [⟨some "key", .Name x p2,kp⟩] pos) (OQ K sp t):=by
 subst hK;intro aa s σ H Q I h;obtain⟨f,fd,o,b,aje,m⟩:=C.ex;refine DO (vC I hg hm vq ?_);refine callWith_kw (bP (ha pos aa s σ H _ I h) λus s1 ⟨vs,H1,I1,r1,a,v,ev,ZE,q1⟩=> ?_) (by rw[hs];rfl) (by rw[hs];rfl) rfl rfl
 ·subst ev;obtain⟨u,rfl,ru⟩:=L2.vals1 r1;cases ru;refine kws_cons (Eg I1 ZD m ?_ mH);refine kws_nil ?_;exact ZA o b (hr.mono hj) hc I1 ZE q1
end
section
variable {K:aj}{n:Nat}{H H':Hp}
noncomputable def mU:D->Option (Int×Int)
 |.nd .tup [.sc (.int i), .sc (.int j)]=>some (i,j)
 |_=>none
def uz(G:List D->Option D):List D->D->Int×Int->Option D
 | [],b,_=>some b
 |d::ds,b,q=>(G [d]).bind λe=>(mU e).bind λk=>if iW k.1 k.2 q.1 q.2=true then uz G ds d k else uz G ds b q
def Cf(G:List D->Option D):List D->Option D
 | [.nd .lst (d::ds)]=>if aK (d::ds)=true then(G [d]).bind λe=>(mU e).bind λk=>uz G ds d k else none
 |_=>none
theorem wK{k:Int×Int}(w:Vw K H T1 v e)(h:mU e=some k):∃p,v= .ref p/\cP K H p [.int k.1, .int k.2]:=by
 unfold mU at h
 split at h
 ·next i j=>
  cases h;obtain⟨p,us,rfl,hc,vl⟩:=w.gN;obtain⟨x,y,rfl,wx,wy⟩:=vl.two;have gq:H p=some (.tup [x,y]):=hc.2;have ex:x= .int i:=wx.dm;have ey:y= .int j:=wy.dm;subst ex ey;exact⟨p,rfl, .inl (.inl gq)⟩
 ·cases h
theorem GO{G:List D->Option D}(k:∀v H',aP H0 H'->eX K H0 H' v d->Q v H'):∀(ds:List D) (vs:List V) (b:V) (bd:D) (p:Addr) (q:Int×Int) (H1:Hp),aP H0 H1->H1 a=some (.lst xs)->dB K H1 T1 vs ds->aK ds=true->
  Vw K H1 T1 b bd->plain bd=true->cP K H1 p [.int q.1, .int q.2]->uz G ds bd q=some d->wG K (eU K 1 G) a xs Q vs (some (b, .ref p)) H1
 | [],vs,b,bd,p,q,H1,s1,ha,w,pl,wb,pb,hp,h=>by
  cases vs with
  |cons _ _=>cases w.1
  |nil=>cases h;exact k _ _ s1 (eX.plain wb pb)
 |d'::ds,vs,b,bd,p,q,H1,s1,ha,w,pl,wb,pb,hp,h=>by
  cases vs with
  |nil=>cases w.1
  |cons v vs=>
   rw[aK,qt]at pl;rw[uz]at h;obtain⟨e,h1,h⟩:=af.mp h;obtain⟨kk,h2,h⟩:=af.mp h;have wv:Vw K H1 T1 v d':=w.2 0 v d' rfl rfl;have wr:dB K H1 T1 vs ds:=⟨by have:=w.1;simpa using this,λi x y hx hy=>w.2 (i + 1) x y (by simpa using hx) (by simpa using hy)⟩
   refine⟨[d'],e,rfl,⟨rfl,λi x y hx hy=> ?_⟩,h1,λkv H2 s2 o=>⟨s2 _ _ ha, ?_⟩⟩
   ·cases i with
    |zero=>cases hx;cases hy;exact wv
    |succ i=>simp at hx
   ·obtain⟨p2,rfl,pX⟩:=wK o.vw h2;have OR:=s1.trans s2;have OS:=s2 _ _ ha;have OT:dB K H2 T1 vs ds:=⟨wr.1,λi x y hx hy=>(wr.2 i x y hx hy).same s2⟩
    have hq:=(gJ.of s2).XR hp;refine⟨_,⟨p2,p,_,_,_,_,rfl,rfl,pX,hq,rfl⟩, ?_⟩;cases c:iW kk.1 kk.2 q.1 q.2 with
    |true=>
     rw[c,if_pos rfl]at h;exact GO k ds vs v d' p2 kk H2 OR OS OT pl.2 (wv.same s2) pl.1 pX h
    |false=>
     rw[c,if_neg jA]at h;exact GO k ds vs b bd p q H2 OR OS OT pl.2 (wb.same s2) pb hq h
instance ajf{f:En->Option (List D)}[A:SA K n t f]:SF K n (OQ K (eU K 1 G) t) (λZ=>(f Z).bind (Cf G)):=⟨λ{σ hv H U Z τv τd d Q} I h k=>by
 obtain⟨x,h1,h2⟩:=af.mp h;refine A.s I h1 λvs H1 s1 w=> ?_;unfold Cf at h2
 split at h2
 ·next d' ds=>
  by_cases c:aK (d'::ds)=true
  ·rw[if_pos c]at h2;obtain⟨e,h3,h2⟩:=af.mp h2;obtain⟨kk,h4,h2⟩:=af.mp h2;rw[aK,qt]at c;obtain⟨v,rfl,w1⟩:=w.one;obtain⟨a,us,rfl,hc,vl⟩:=w1.gN;have gq:H1 a=some (.lst us):=hc.2;refine⟨a,us,rfl,gq, ?_⟩;cases us with
   |nil=>cases vl.1
   |cons v vs=>
    have wv:Vw K H1 T1 v d':=vl.2 0 v d' rfl rfl;have wr:dB K H1 T1 vs ds:=⟨by have:=vl.1;simpa using this,λi x y hx hy=>vl.2 (i + 1) x y (by simpa using hx) (by simpa using hy)⟩
    refine⟨[d'],e,rfl,⟨rfl,λi x y hx hy=> ?_⟩,h3,λkv H2 s2 o=>⟨s2 _ _ gq, ?_⟩⟩
    ·cases i with
     |zero=>cases hx;cases hy;exact wv
     |succ i=>simp at hx
    ·obtain⟨p2,rfl,pX⟩:=wK o.vw h4;exact GO k ds vs v d' p2 kk H2 (s1.trans s2) (s2 _ _ gq) ⟨wr.1,λi x y hx hy=>(wr.2 i x y hx hy).same s2⟩ c.2 (wv.same s2) c.1 pX h2
  ·rw[if_neg c]at h2;cases h2
 ·cases h2⟩
end
section
variable {P:Program}{w:World}{K:aj}{mg:Str->Option Value}{base:Heap}{k:Nat}{f:Addr}{fd:j7}{ps:List Str}{m:Nat}{bB:List Bool}
theorem OU:cz P w K mg base cX k f fd ps (eU K m λ_=>none):=by
 refine⟨λvs H Q E h=> ?_,λA outer s H args us vs Q E _ _ _ _ h=> ?_⟩
 ·obtain⟨ds,d,_,_,h,_⟩:=h;cases h
 ·obtain⟨ds,d,_,_,h,_⟩:=h;cases h
end
section
variable {K:aj}{n:Nat}{H H' H1 H2:Hp}{U U':Addr->Prop}{σ hv:List (Option V)}{Z ρ':En}{τv vs:List V}{τd ds:List D}{v y:V}{d:D}{E:lK}
def Cg(fa:En->Option (List D×En))(fg:D->En->Option En)(fb:En->Option Fl)(Z:En):Option Fl:=(fa Z).bind λa=>(lY a.1).bind λds=>iC fg fb ds a.2
instance (priority:=50) ajg{ta:TA}{g:TG}{tb:TS}{fa:En->Option (List D×En)}{fg:D->En->Option En}{is:List Nat}{fb:En->Option Fl}[A:we K n ta fa][G:SG K n g fg is][B':SS K n tb fb]:SS K n (yj (Bg ta) g tb) (Cg fa fg fb):=⟨λ{σ hv H U Z τv τd fl E} I h k=>by
 obtain⟨⟨as,ρ0⟩,h1,h⟩:=af.mp h;obtain⟨ds,h2,h⟩:=af.mp h;refine A.s I h1 λvs H1 U1 hl I1 bH=> ?_;obtain⟨j,e,c1,c2,e2⟩:=Ga (I1.YV hl) h2;have FP:=I1.drop hl;have wk:=Gb (K:=K) 0 j.toNat;subst e;refine⟨j,rfl,c1,c2, ?_⟩;rw[<- e2]at wk;refine⟨λi m aN H'=>m=ds.length - i/\i<=ds.length/\∃U' ρ',aB K n H' U' aN hv ρ' τv τd/\b5 U H U' H'/\iC fg fb (ds.drop i) ρ'=some fl,⟨ds.length,by simp,j8 _,U1,ρ0,FP,bH,h⟩, ?_⟩;rintro i m aN H' ⟨rfl,hi,U',ρ',Ix,st,fo⟩;by_cases jL:i < ds.length
 ·right;have hd:ds[i]?=some ds[i]:=gn jL;obtain⟨go,yl⟩:=wk.item (H:=H') (U:=U') trivial hd;rw[rH jL,iC]at fo;obtain⟨ρ1,b1,fo⟩:=af.mp fo;obtain⟨uu,b2,fo⟩:=af.mp fo;refine⟨go,λhJ H2=>∃U2 ay,aB K n H2 U2 hJ hv ay τv τd/\b5 U' H' U2 H2/\iC fg fb (ds.drop (i + 1)) ay=some fl,λhJ H2 ⟨U2,ay,a1,a2,a3⟩=>⟨_,by lia,rfl,jL,U2,ay,a1,st.trans a2,a3⟩,λx H2 y2=> ?_⟩;obtain⟨e,w2⟩:=yl x H2 y2;subst e;refine G.s Ix w2 b1 λhJ I2=> ?_;refine B'.s I2 b2 ?_;cases uu with
  |nx ay=>exact λgL H3 U3 I3 s3=>⟨U3,ay,I3,s3,fo⟩
  |ct ay=>exact λgL H3 U3 I3 s3=>⟨U3,ay,I3,s3,fo⟩
  |bk ay=>cases fo;exact λgL H3 U3 I3 s3=>k gL H3 U3 I3 (st.trans s3)
  |rt d ay=>cases fo;exact λv gL H3 U3 I3 s3=>k v gL H3 U3 I3 (st.trans s3)
 ·left;have e:i=ds.length:=by lia
  subst e;rw[LM,iC]at fo;cases fo;exact⟨wk.stop (H:=H') (U:=U') trivial,k aN H' U' Ix st⟩⟩
end
section
variable {K:aj}{n:Nat}
def ki(g:D->D->Option Nat)(gs:V->D->Option V)(a b:D):Option D:=(bf g gs a b).bind λd=>if plain d=true then some d else none
theorem ZF[O:uj K r g gs]:lV K r (ki g gs):=⟨λ{H x y dx dy d Q} w1 w2 h k=>by
 obtain⟨d',h1,h2⟩:=af.mp h;by_cases c:plain d'=true
 ·rw[if_pos c]at h2;cases h2;cases dx with
  |sc z=>
   obtain⟨w,h3,h4⟩:=bg.mp h1;subst h4;rw[w1.dm];exact O.t w2 h3 (k w H (aP.refl H) (.sc w))
  |hl _=>
   obtain⟨i,hi,h⟩:=af.mp h1;cases h
  |nd kk cs=>
   obtain⟨i,hi,h⟩:=af.mp h1;have h:cs[i]?=some d:=h;obtain⟨a,vs,rfl,_,hc,hl,dq⟩:=w1.node;obtain⟨u,hu⟩:=oN hl h;exact O.s hc hl w2 hi hu (k u H (aP.refl H) (eX.plain (dq i u d hu h) c))
 ·rw[if_neg c]at h2;cases h2⟩
instance (priority:=30) ZG{r:R2}{ta tb:TE}{fa fb:En->Option (D×En)}{g:D->D->Option Nat}{gs:V->D->Option V}[A:SM K n ta fa][B':SM K n tb fb][O:uj K r g gs]:SM K n (kN r ta tb) (kf (ki g gs) fa fb):=
 have:lV K r (ki g gs):=ZF
 X1
def jH(a b:D):Option D:=match a,b with
 |.nd .tup xs, .nd .tup ys=>if xs≠ []/\xs.length + ys.length<=aM then some (.nd .tup (xs++ys)) else none
 |a,b=>gP a b
theorem ZH(w1:Vw K H T1 x a)(w2:Vw K H T1 y b)(h:jH a b=some d)(k:∀v H',aP H H'->Vw K H' T1 v d->Q v H'):yL K x y H Q:=by
 unfold jH at h
 split at h
 ·next xs ys=>
  by_cases c:xs≠ []/\xs.length + ys.length<=aM
  ·rw[if_pos c]at h;cases h;obtain⟨a,vs,rfl,hc,vl⟩:=w1.gN;obtain⟨b,us,rfl,gq,ul⟩:=w2.gN;have nv:vs≠ []:=λz=>by
    subst z;have:=vl.1;exact c.1 (rG this.symm)
   refine .inr (.inr (.inr ⟨a,b,vs,us,rfl,rfl,cP.of hc.2,cP.of gq.2,nv,by rw[vl.1,ul.1];exact c.2,λz=> ?_,λ_ p hp=> ?_⟩))
   ·subst z;have e:ys= []:=rG ul.1.symm;subst e;rw[fE]at k;exact k _ H (aP.refl H) w1
   ·exact k _ _ (gW hp _) ((vl.app ul).node hp (.inl ⟨rfl,rfl⟩))
  ·rw[if_neg c]at h;cases h
 ·exact YU.s w1 w2 h λv H3 s3 o=>k v H3 s3 o.vw
instance (priority:=950) ajh{ta tb:TE}{fa fb:En->Option D}[A:SV K n ta fa][B':SV K n tb fb]:SV K n (kN (yL K) ta tb) (aw jH fa fb):=⟨λ{σ hv H U Z τv τd d Q} I h k=>by
 obtain⟨a,ha,h⟩:=af.mp h;obtain⟨b,hb,h⟩:=af.mp h;refine A.s I ha λx H1 s1 w1=> ?_;refine B'.s (I.same s1) hb λy H2 s2 w2=> ?_;exact ZH (w1.same s2) w2 h λv H3 s3 w=>k v H3 (s1.trans (s2.trans s3)) w⟩
def sI(a:D)(lo hi:Option Int):Option D:=match a with
 |.nd .tup cs=>some (.nd .tup (cutD cs lo hi))
 |a=>iJ a lo hi
theorem ZI{H:Hp}{v:V}{a d:D}{lo hi:Option Int}{Q:VK}(w:Vw K H T1 v a)(h:sI a lo hi=some d)(k:∀v H',aP H H'->Vw K H' T1 v d->Q v H'):lZ K v lo hi H Q:=by
 unfold sI at h
 split at h
 ·next cs=>
  cases h;obtain⟨a,vs,rfl,hc,vl⟩:=w.gN;by_cases cw:HT.bY vs.length 0 lo=0/\HT.bY vs.length vs.length hi=vs.length
  ·refine .inr (.inl ⟨a,vs,rfl,cP.of hc.2,cw, ?_⟩);have e:cutD cs lo hi=cs:=by
    unfold cutD;rw[<- vl.1,cw.1,cw.2,LO,UC,vl.1,LP]
   rw[e]at k;exact k _ H (aP.refl H) w
  ·refine .inl ⟨a,vs,rfl,cP.of hc.2,cw,λp hp=> ?_⟩;have g:=B7 vl.1 vl.2 lo hi;exact k _ _ (gW hp _) (dB.node (k:= .tup) ⟨g.1,g.2⟩ hp (.inl ⟨rfl,rfl⟩))
 ·exact Gk w h λv H4 s4 o=>k v H4 s4 o.vw
def GQ(fe:En->Option D)(fl fh:En->Option (Option Int))(Z:En):Option D:=(fe Z).bind λd=>(fl Z).bind λlo=>(fh Z).bind λhi=>sI d lo hi
instance (priority:=950) aji{te:TE}{tl th:TO}{fe:En->Option D}{fl fh:En->Option (Option Int)}[A:SV K n te fe][L:SO K n tl fl][R:SO K n th fh]:SV K n (Bp (lZ K) te tl th) (GQ fe fl fh):=⟨λ{σ hv H U Z τv τd d Q} I h k=>by
 obtain⟨x,h1,h⟩:=af.mp h;obtain⟨lo,h2,h⟩:=af.mp h;obtain⟨hi,h3,h⟩:=af.mp h;refine A.s I h1 λv H1 s1 w1=>L.s (I.same s1) h2 λH2 s2=>R.s ((I.same s1).same s2) h3 λH3 s3=> ?_;exact ZI (w1.same (s2.trans s3)) h λv H4 s4 w=>k v H4 (s1.trans (s2.trans (s3.trans s4))) w⟩
instance (priority:=2000) ajj{r:R2}{ta:TA}{tb:TE}{fa:En->Option (List D)}{fb:En->Option (D×En)}{g:D->D->Option Nat}{gs:V->D->Option V}[A:wt K n ta fa][B':SM K n tb fb][O:uj K r g gs]:SM K n (kN r (vQ ta) tb) (kf (ki g gs) (λZ=>(cM .lst fa Z).map λd=>(d,Z)) fb):=
 have:SM K n (vQ ta) (λZ=>(cM .lst fa Z).map λd=>(d,Z)):=@X0 K n _ _ YE
 ZG
variable {C:Addr}{E:XK}
end
section
variable {K:aj}{n:Nat}{H H':Hp}{U U':Addr->Prop}{σ hv:List (Option V)}{Z ρ':En}{τv vs:List V}{τd ds:List D}{d:D}
def uA(j:Nat)(f2:En->Option D)(Z:En):Option (D×En):=(f2 Z).bind λe=>(fJ j Z).map λr=>(.nd .tup [r.1,e],r.2)
instance (priority:=3000) ajk{j:Nat}{t2:TE}{f2:En->Option D}[Lj:ke j n][S2:SF K n t2 f2]:SM K n (rW (e9 (jh j) (e9 t2 gU))) (uA j f2):=⟨λ{σ hv H U Z ρ' τv τd d Q} I h k=>by
 obtain⟨e,h2,h⟩:=af.mp h;obtain⟨⟨d0,ρ1⟩,hm,h⟩:=bg.mp h;cases h;obtain⟨v0,ev,U1,I1,bH⟩:∃v0,σ[j]?=some (some v0)/\∃U1,aB K n H U1 σ hv ρ1 (τv++ [v0]) (τd++ [d0])/\b5 U H U1 H:=by
  obtain⟨d1,g1,g2⟩:=af.mp hm;by_cases p:plain d1=true
  ·rw[if_pos p]at g2;cases g2;obtain⟨v,ev,w⟩:jh j σ H (λv H'=>Vw K H' T1 v d0):=(NS (i:=j)).s I g1 λv H' s w=>w;obtain⟨U',I',st⟩:=I.push (aP.refl H) (eX.plain w p);exact⟨v,ev,U',I',st⟩
  ·rw[if_neg p]at g2
   split at g2
   ·next d' e1=>
    cases g2;obtain⟨v,ev,I'⟩:=I.moved Lj.h e1;exact⟨v,ev,U,I',b5.refl U H⟩
   ·cases g2
 refine⟨v0,ev,S2.s I h2 λv2 H1 s1 o1=> ?_⟩;obtain⟨U2,I2,cf⟩:=I1.push s1 o1;refine⟨by show 2<=aM;decide,λp hp=> ?_⟩;have ZJ:aB K n H1 U2 σ hv ρ1 (τv++ [v0,v2]) (τd++ [d0,e]):=by
  simp only[dI]at I2;exact I2
 obtain⟨U3,I3,iT⟩:=ZJ.gather (k:= .tup) (o:= .tup [v0,v2]) rfl hp (.inl ⟨rfl,rfl,rfl⟩);exact k _ _ U3 I3 (bH.trans (cf.trans iT))⟩
end
noncomputable def gD (n:Int) (ns:List Int):Int:=ns.foldl (λa b=>if b > a then b else a) n
theorem OV(n:Int)(ns:List Int):∀k,k<=ns.length->(n::ns).getD (argBest (λi j=>decide ((n::ns).getD i 0 > (n::ns).getD j 0)) k) 0=gD n (ns.take k)
 |0,_=>rfl
 |k + 1,h=>by
  have ih:=OV n ns k (by lia);have e:ns.take (k + 1)=ns.take k++ [ns.getD k 0]:=by
   rw[List.take_add_one,gn (by lia)];simp[D0,gn (show k < ns.length by lia)]
  have e2:gD n (ns.take (k + 1))=if ns.getD k 0 > gD n (ns.take k) then ns.getD k 0 else gD n (ns.take k):=by
   rw[e];unfold gD;rw[ag6];rfl
  rw[e2,argBest, <- ih];simp only[decide_eq_true_eq]
  split
  ·next c=>exact(if_pos (show ns.getD k 0 > _ from c)).symm
  ·next c=>exact(if_neg (show ¬ ns.getD k 0 > _ from c)).symm
section
theorem ZK(hc:X.calm=true):i4 X (.builtin "max") (λxs H Q=>∃(a:Addr) (n:Int) (ns:List Int),xs= [.ref a]/\cV X.K H a ((n::ns).map V.int)/\Q (.int (gD n ns)) H):=by
 intro aa s σ H xs us Q I r h;obtain⟨a,n,ns,rfl,hs,q⟩:=h;obtain⟨u,rfl,ru⟩:=vals1 r;cases ru;obtain⟨au,rv,pl,hz⟩:=I.list hs;have hl:au.length=ns.length + 1:=by rw[<- rv.length,eS];rfl
 refine call_max_walk ?_;refine DQ pl.isList ?_;have lt:a < s.heap.objs.size:=by obtain⟨o,n,e,_⟩:=pl;exact gk e
 have at_:∀(i:Nat) (v:Value),au.toArray[i]?=some v->∃t,v=xN ((n::ns).getD i 0) t:=λi v hv=>by
  have jD:au[i]?=some v:=by simpa using hv
  have hi:i < (n::ns).length:=by
   have:=(bW.mp jD).1;rw[gc]
   lia
  have hx:((n::ns).map V.int)[i]?=some (.int ((n::ns).getD i 0)):=by
   rw[dF,gn hi];simp[D0,gn hi]
  obtain⟨u,hu,ru⟩:=rv.get hx;rw[jD]at hu;cases hu;exact ru
 refine⟨s.heap.objs.size,_,_,_,_,_,λi j=>decide ((n::ns).getD i 0 > (n::ns).getD j 0),rfl,D1 (A:=X.A.in1) (show X.A.in1.handled=none from I.ok.hd hc) _ a (jy lt) au.toArray,⟨⟨_,jz _ rfl,rfl,rfl⟩,pl.isList.at λo e=>gB _ e⟩,λb hb=> ?_, ?_,CmpOf.ints_gt _ at_,λv h' tk hP hk=> ?_⟩
 ·rw[tG];rcases fX.mp hb with z | hb
  ·rw[z];exact DV _
  ·rw[gf.mp hb];exact LG lt
 ·rw[gr,hl];exact LJ _
 ·obtain⟨t,rfl⟩:=at_ _ v hP;rw[gr,hl,UB,OV n ns _ (bX _),LP];refine⟨.int (gD n ns),H,I.kept (t':=tk) λb o eo=>hk b o ?_ (gB _ eo),⟨t,rfl⟩,q⟩;intro z;rw[gf.mp z]at eo;exact absurd (gk eo) (m9 _)
def GU(K:aj):List V->Hp->VK->Prop:=λxs H Q=>∃(a:Addr) (n:Int) (ns:List Int),xs= [.ref a]/\cV K H a ((n::ns).map V.int)/\Q (.int (gD n ns)) H
theorem ZL{X:Cx}(hc:X.calm=true):i4 X (.builtin "max") (GU X.K):=ZK hc
variable {K:aj}{n:Nat}{H H':Hp}{N:Addr->Prop}
noncomputable def tf:List D->Option (List Int)
 | []=>some []
 |.sc (.int b)::r=>(tf r).map (b:: ·)
 |_::_=>none
theorem OW:∀{cs:List D} {vs:List V} {bs:List Int},vs.length=cs.length->(∀(i:Nat) (v:V) (d:D),vs[i]?=some v->cs[i]?=some d->Vw K H N v d)->tf cs=some bs->vs=bs.map V.int
 | [], [],_,_,_,h=>by rw[tf]at h;cases h;rfl
 | [],_::_,_,h,_,_=>by cases h
 |_::_, [],_,h,_,_=>by cases h
 |d::cs,v::vs,ts,hl,hk,h=>by
  unfold tf at h
  split at h
  ·next e=>cases e
  ·next t r e=>
   cases e;obtain⟨x,h2,h⟩:=bg.mp h;subst h;rw[eI,(hk 0 v _ rfl rfl).dm,OW (fU hl) (λi v d a b=>hk (i + 1) v d (by simpa using a) (by simpa using b)) h2]
  ·cases h
def TJ:List Int->Option D
 |n::ns=>some (.sc (.int (gD n ns)))
 | []=>none
def GV:List D->Option D
 | [.nd .lst cs]=>(tf cs).bind TJ
 |_=>none
instance ajl:p9 K (GU K) GV:=⟨λ{H vs ds d Q} w h k=>by
 unfold GV at h
 split at h
 ·next cs=>
  obtain⟨bs,h1,h2⟩:=af.mp h;cases bs with
  |nil=>cases h2
  |cons n ns=>
   cases h2;obtain⟨v,rfl,w1⟩:=w.one;obtain⟨a,us,rfl,_,hc,hl,dq⟩:=w1.node;have e:=OW hl dq h1;exact⟨a,n,ns,rfl,cV.of (by rw[<- e];exact hc.2),k _ H (aP.refl H) (.sc _)⟩
 ·cases h⟩
instance ajm[C:kU K n c fc][A:SF K n ta fa][B':SF K n tb fb]:SF K n (Ek c ta tb) (p7 fc fa fb):=⟨λ{σ hv H U Z τv τd d Q} I h k=>by
 obtain⟨x,h1,h2⟩:=af.mp h;refine C.s I h1 λH1 s1=> ?_;cases x with
 |true=>rw[if_pos rfl];exact A.s (I.same s1) h2 λv H2 s2 o=>k v H2 (s1.trans s2) (o.early s1)
 |false=>rw[if_neg jA];exact B'.s (I.same s1) h2 λv H2 s2 o=>k v H2 (s1.trans s2) (o.early s1)⟩
end
section
variable {K:aj}{H H':Hp}
end
end VL
set_option maxHeartbeats 4000000
namespace VL
open PySem L2
noncomputable abbrev iD (i:Int):D:= .sc (.int i)
noncomputable abbrev tD (b:Bool):D:= .sc (.bl b)
noncomputable abbrev sD (s:Str):D:= .sc (.str s)
noncomputable def iK (cs:List Int):D:= .nd .eT (cs.map λi=> .sc (.int i))
theorem kj(c d:Int):bZ id (.sc (.int c)) (.sc (.int d))=some (.sc (.bl (decide (c=d)))):=by
 simp[bZ,cy,tI,tJ,fM];by_cases h:c=d <;> simp[h]
theorem OX(c d:Int):bZ (!·) (.sc (.int c)) (.sc (.int d))=some (.sc (.bl (decide (c≠d)))):=by
 simp[bZ,cy,tI,tJ,fM];by_cases h:c=d <;> simp[h]
theorem qd(c d:Str)(hc:iN c=true)(hd:iN d=true):bZ id (.sc (.str c)) (.sc (.str d))=some (.sc (.bl (decide (c=d)))):=by
 simp[hc,hd,bZ,cy,tI,tJ,fM];by_cases h:c=d <;> simp[h]
theorem zd(c d:Str)(hc:iN c=true)(hd:iN d=true):bZ (!·) (.sc (.str c)) (.sc (.str d))=some (.sc (.bl (decide (c≠d)))):=by
 simp[hc,hd,bZ,cy,tI,tJ,fM];by_cases h:c=d <;> simp[h]
theorem mV:(1<=aM)=True:=eq_true (by decide)
theorem iw:(2<=aM)=True:=eq_true (by decide)
theorem ze:(3<=aM)=True:=eq_true (by decide)
theorem ZM:(4<=aM)=True:=eq_true (by decide)
theorem uB:(5<=aM)=True:=eq_true (by decide)
theorem GW:(6<=aM)=True:=eq_true (by decide)
theorem ZN:(8<=aM)=True:=eq_true (by decide)
def NA(x:Option B):Prop:=∀r p,x≠some (.ak r p)
theorem bV:gb i []= []:=rfl
theorem dS:gb i (some (.own d)::r)=some (.own d)::gb i r:=rfl
theorem du:gb i (some (.ro d)::r)=some (.ro d)::gb i r:=rfl
theorem df:gb i (none::r)=none::gb i r:=rfl
theorem eP:gb i (some (.ak j p)::r)=(if j=i then none else some (.ak j p))::gb i r:=rfl
theorem eW(h:NA x):gb i (x::r)=x::gb i r:=by
 match x,h with
 |none,_=>rfl
 |some (.own _),_=>rfl
 |some (.ro _),_=>rfl
 |some (.ak r p),h=>exact absurd rfl (h r p)
theorem dP(h:NA x):bT Z x=x:=by
 match x,h with
 |none,_=>rfl
 |some (.own _),_=>rfl
 |some (.ro _),_=>rfl
 |some (.ak r p),h=>exact absurd rfl (h r p)
def Ev(f:En->Option Fl)(Z:En)(Q:Fl->Prop):Prop:=∃fl,f Z=some fl/\Q fl
theorem Ev.seq(h:Ev t Z λfl=>match fl with | .nx ρ'=>Ev u ρ' Q | fl=>Q fl):Ev (bQ t u) Z Q:=by
 obtain⟨fl,e,h⟩:=h;unfold Ev bQ;rw[e];cases fl with
 |nx ρ'=>exact h
 |_=>exact⟨_,rfl,h⟩
theorem Ev.nx(e:t Z=some (.nx ρ'))(h:Ev u ρ' Q):Ev (bQ t u) Z Q:=Ev.seq ⟨_,e,h⟩
theorem OY{ds:List D}{R:D->Prop}(h:Ev f (ds.map (λd=>some (.ro d))++gC (n - ds.length) none) λfl=>match fl with | .rt d _=>R d | .nx _=>R (.sc .aE) | _=>False):∃d,dN n f ds=some d/\R d:=by
 obtain⟨fl,e,h⟩:=h;unfold dN;rw[e];cases fl with
 |nx ρ'=>exact⟨_,rfl,h⟩
 |rt d ρ'=>exact⟨_,rfl,h⟩
 |bk _=>exact h.elim
 |ct _=>exact h.elim
theorem GX{fg:D->En->Option En}{Q:Fl->Prop}(P:En->Prop):∀(ds:List D) (Z:En),P Z->(∀d∈ds,∀Z,P Z->∃ρ1,fg d Z=some ρ1/\Ev fb ρ1 λfl=>match fl with | .nx ay=>P ay | .ct ay=>P ay | .bk ay=>Q (.nx ay) | .rt d ay=>Q (.rt d ay))->
  (∀Z,P Z->Q (.nx Z))->∃fl,iC fg fb ds Z=some fl/\Q fl
 | [],Z,p,_,hd=>⟨_,rfl,hd Z p⟩
 |d::ds,Z,p,st,hd=>by
  obtain⟨ρ1,e1,fl,e2,h⟩:=st d (.head _) Z p;rw[iC,e1];show ∃fl,(fb ρ1).bind _=some fl/\Q fl;rw[e2];cases fl with
  |nx ay=>exact GX P ds ay h (λd qy=>st d (.tail _ qy)) hd
  |ct ay=>exact GX P ds ay h (λd qy=>st d (.tail _ qy)) hd
  |bk ay=>exact⟨_,rfl,h⟩
  |rt d ay=>exact⟨_,rfl,h⟩
theorem Ev.for{fi:En->Option (List D)}{fg:D->En->Option En}{fb:En->Option Fl}{Q:Fl->Prop}(hi:fi Z=some ds)(P:En->Prop)(h0:P Z)
  (st:∀d∈ds,∀Z,P Z->∃ρ1,fg d Z=some ρ1/\Ev fb ρ1 λfl=>match fl with | .nx ay=>P ay | .ct ay=>P ay | .bk ay=>Q (.nx ay) | .rt d ay=>Q (.rt d ay)) (hd:∀Z,P Z->Q (.nx Z)):
  Ev (λZ=>(fi Z).bind λds=>iC fg fb ds Z) Z Q:=by
 show ∃fl,(fi Z).bind _=some fl/\Q fl;rw[hi];exact GX P ds Z h0 st hd
theorem sJ(m:Nat)(hm:m < 100):lY [.sc (.int (m:Int))]=some (ia 0 m):=by
 unfold lY;dsimp only;rw[if_pos ⟨by lia,by lia⟩];rfl
theorem OZ{α:Type}(g:α->D)(p:α->Bool)(h:α->D):∀(l:List α),(∀a∈l,∃ρ1,fg (g a) ρ0=some ρ1/\ft ρ1=some (p a)/\(p a=true->fe ρ1=some (h a)))->
  mS fg ft fe ρ0 (l.map g)=some ((l.filter p).map h)
 | [],_=>rfl
 |a::l,H=>by
  obtain⟨ρ1,e1,e2,e3⟩:=H a (.head _);have ih:=OZ g p h l λx hx=>H x (.tail _ hx);rw[eI,mS,e1];show(ft ρ1).bind _=_;rw[e2];show(if p a=true then _ else _)=_;cases q:p a with
  |true=>rw[if_pos rfl,e3 q];show(mS fg ft fe ρ0 (l.map g)).map _=_;rw[ih,List.filter_cons_of_pos q];rfl
  |false=>rw[if_neg jA,ih,List.filter_cons_of_neg (by rw[q];exact jA)]
theorem zf(h:f (ds.map (λd=>some (.ro d))++gC (n - ds.length) none)=some (.rt d ρ')):dN n f ds=some d:=by
 unfold dN;rw[h]
theorem wL(h:f (bM n bB ds)=some (.rt d ρ'))(ho:cg (ρ'.drop n)=some o):bp n bB f ds=some (d,o):=by
 unfold bp;rw[h];show(cg (ρ'.drop n)).map _=_;rw[ho];rfl
theorem nO(h:f Z=some (d,ρ')):cv f Z=some (.rt d ρ'):=by
 unfold cv;rw[h];rfl
theorem fT(e:t Z=some (.nx ρ'))(h:u ρ'=r):bQ t u Z=r:=by
 unfold bQ;rw[e];exact h
theorem kZ{x:Option D}{Z:En}{d:D}(h:x=some d):x.map (λd=>(d,Z))=some (d,Z):=by rw[h];rfl
theorem ZO{n:Nat}{fg:D->En->Option En}{ft:En->Option Bool}{fe:En->Option D}(h1:fi Z=some ds)(hz:ds.length<=aM)(qJ:is.all (λi=>js[i]? == some none)=true)
  (h2:mS fg ft fe (fW n js Z) ds=some ys):ji n js is fi fg ft fe Z=some (.nd .lst ys):=by
 unfold ji;rw[h1];show(if _ then _ else _)=_;rw[if_pos ⟨hz,qJ⟩,h2];rfl
theorem me{α:Type}{n:Nat}{fg:D->En->Option En}{ft:En->Option Bool}{fe:En->Option D}(l:List α)(g:α->D)(p:α->Bool)(h:α->D)(h1:fi Z=some (l.map g))(hz:l.length<=aM)(qJ:is.all (λi=>js[i]? == some none)=true)
  (h2:∀a∈l,∃ρ1,fg (g a) (fW n js Z)=some ρ1/\ft ρ1=some (p a)/\(p a=true->fe ρ1=some (h a))):ji n js is fi fg ft fe Z=some (.nd .lst ((l.filter p).map h)):=
 ZO h1 (by rw[eS];exact hz) qJ (OZ g p h l h2)
theorem O0(h:d∈ia lo m):∃i:Nat,i < m/\d=iD (lo + i):=by
 unfold ia at h;obtain⟨i,hi,e⟩:=i0.mp h;exact⟨i,AY.mp hi,e.symm⟩
theorem iq:bT Z (some (.own d))=some (.own d):=rfl
theorem sM:bT Z (some (.ro d))=some (.ro d):=rfl
theorem ZP:bT Z none=none:=rfl
theorem gi:NA none:=λ_ _ h=>by cases h
theorem kl:NA (some (.ro d)):=λ_ _ h=>by cases h
theorem i8:NA (some (.own d)):=λ_ _ h=>by cases h
theorem Ci:(ae "many"=ae "number")=False:=bL
theorem km:(ae "term"=ae "number")=False:=bL
theorem kn:(ae "term"=ae "many")=False:=bL
theorem uC:(ae "of"=ae "number")=False:=bL
theorem uD:(ae "of"=ae "many")=False:=bL
theorem uE:(ae "of"=ae "term")=False:=bL
theorem rf:(ae "log"=ae "number")=False:=bL
theorem rg:(ae "log"=ae "many")=False:=bL
theorem rh:(ae "log"=ae "term")=False:=bL
theorem rj:(ae "log"=ae "of")=False:=bL
theorem wM:(ae "done"=ae "number")=False:=bL
theorem wN:(ae "done"=ae "many")=False:=bL
theorem wO:(ae "done"=ae "term")=False:=bL
theorem wQ:(ae "done"=ae "of")=False:=bL
theorem wR:(ae "done"=ae "log")=False:=bL
theorem ko:(ae "role"=ae "number")=False:=bL
theorem kq:(ae "role"=ae "many")=False:=bL
theorem kr:(ae "role"=ae "term")=False:=bL
theorem ku:(ae "role"=ae "of")=False:=bL
theorem kx:(ae "role"=ae "log")=False:=bL
theorem ky:(ae "role"=ae "done")=False:=bL
theorem zg:(ae "voices"=ae "number")=False:=bL
theorem zh:(ae "voices"=ae "many")=False:=bL
theorem zi:(ae "voices"=ae "term")=False:=bL
theorem zj:(ae "voices"=ae "of")=False:=bL
theorem zk:(ae "voices"=ae "log")=False:=bL
theorem zm:(ae "voices"=ae "done")=False:=bL
theorem zo:(ae "voices"=ae "role")=False:=bL
theorem zp:(ae "sizes"=ae "number")=False:=bL
theorem zq:(ae "sizes"=ae "many")=False:=bL
theorem zr:(ae "sizes"=ae "term")=False:=bL
theorem zt:(ae "sizes"=ae "of")=False:=bL
theorem zu:(ae "sizes"=ae "log")=False:=bL
theorem zv:(ae "sizes"=ae "done")=False:=bL
theorem zw:(ae "sizes"=ae "role")=False:=bL
theorem zA:(ae "sizes"=ae "voices")=False:=bL
theorem Cj:(ae "fixed"=ae "number")=False:=bL
theorem Ck:(ae "fixed"=ae "many")=False:=bL
theorem Co:(ae "fixed"=ae "term")=False:=bL
theorem Cp:(ae "fixed"=ae "of")=False:=bL
theorem Cq:(ae "fixed"=ae "log")=False:=bL
theorem Cr:(ae "fixed"=ae "done")=False:=bL
theorem Cs:(ae "fixed"=ae "role")=False:=bL
theorem Ct:(ae "fixed"=ae "voices")=False:=bL
theorem Cu:(ae "fixed"=ae "sizes")=False:=bL
def Gd(n:Nat)(d:D):Prop:=∃p,cy d=some p/\p.canLay0=true/\p.depth<=n/\fM p p=true
def mf(n:Nat)(ds:List D):Prop:=∃ps,kh ds=some ps/\UE ps=true/\UG ps<=n/\xU ps ps=true
theorem Gd.int(i:Int):Gd 0 (.sc (.int i)):=⟨.int i,by simp[cy],by simp[tI],by simp[tJ],by simp[fM]⟩
theorem Gd.str(x:Str)(h:iN x=true):Gd 0 (.sc (.str x)):=⟨.str x,by simp[cy],by simp[tI,h],by simp[tJ],by simp[fM]⟩
theorem Gd.mono(h:Gd m d)(l:m<=n):Gd n d:=by
 obtain⟨p,a,b,c,e⟩:=h;exact⟨p,a,b,bO c l,e⟩
theorem mf.nil:mf n []:=⟨[],by simp[kh],by simp[UE],by simp[UG],by simp[xU]⟩
theorem mf.cons(h:Gd n d)(t:mf n ds):mf n (d::ds):=by
 obtain⟨p,a,b,c,e⟩:=h;obtain⟨ps,a',b',c',e'⟩:=t;exact⟨p::ps,by simp[kh,a,a'],by simp[UE,b,b'],by simp[UG];lia,by simp[xU,e,e']⟩
theorem mf.all:∀{ds:List D},(∀d∈ds,Gd n d)->mf n ds
 | [],_=> .nil
 |d::ds,h=> .cons (h d (.head _)) (mf.all λx hx=>h x (.tail _ hx))
theorem mf.tup(h:mf n ds):Gd (n + 1) (.nd .tup ds):=by
 obtain⟨ps,a,b,c,e⟩:=h;exact⟨.tuple ps,by simp[cy,a],by simp[tI,b],by simp[tJ];lia,by simp[fM,e]⟩
theorem mf.lst(h:mf n ds):Gd (n + 1) (.nd .lst ds):=by
 obtain⟨ps,a,b,c,e⟩:=h;exact⟨.list ps,by simp[cy,a],by simp[tI,b],by simp[tJ];lia,by simp[fM,e]⟩
theorem zB(m:Nat):ia 0 m=(jJ m).map λi:Nat=>D.sc (.int (i:Int)):=by
 unfold ia;refine ag7 λi _=> ?_;rw[Int.zero_add]
noncomputable def gw (nu:Int) (m:Nat):List Nat:=(jJ m).filter λi:Nat=>decide ((i:Int)≠nu)
noncomputable def gE (nu ma te:Int):Int:=te + 1 + (nu - (te + 1)) % ma
def Lp(l:List D):Prop:=∃x y:Int,l= [iD x]\/l= [iD x,iD y]
theorem Ev.oS(h:fc Z=some (true,ρ1))(ha:Ev a ρ1 Q):Ev (bF fc a b) Z Q:=by
 obtain⟨fl,e,q⟩:=ha;refine⟨fl, ?_,q⟩;unfold bF;rw[h];exact e
noncomputable def dY:List Str:= ["number","many","term","of","log","done","role","voices","sizes","fixed"]
inductive jY:D->Prop
 |a (s:Str) (k:Int):iN s=true->jY (.nd .tup [.sc (.str s), .sc (.int k)])
 |b (s:Str) (k t:Int):iN s=true->jY (.nd .tup [.sc (.str s), .sc (.int k), .sc (.int t)])
 |c (s:Str) (k:Int) (t:Str):iN s=true->iN t=true->jY (.nd .tup [.sc (.str s), .sc (.int k), .sc (.str t)])
def cQ(L:List D):Prop:=∀d∈L,jY d
theorem jY.plain(h:jY d):VL.plain d=true:=by cases h <;> simp[VL.plain,VL.aK]
theorem cQ.plain(h:cQ L):VL.aK L=true:=qN λd hd=>(h d hd).plain
theorem cQ.nil:cQ []:=λ_ h=>nomatch h
theorem cQ.app(h:cQ L)(g:cQ M):cQ (L++M):=λd hd=>(kG.mp hd).elim (h d) (g d)
theorem cQ.one(h:jY r):cQ [r]:=λd hd=>by rw[gf.mp hd];exact h
def mD(C:Addr)(nu ma te o:Int)(L:List D)(dn:Int)(role:Str)(vo si:D):D:= .nd (.obj C dY) [iD nu,iD ma,iD te,iD o, .nd .lst L,iD dn,sD role,vo,si,tD true]
theorem zC(nu ma te o:Int)(L:List D)(dn:Int)(role:Str)(vo si:D):VL.plain (mD C nu ma te o L dn role vo si)=false:=by simp[mD,VL.plain]
theorem wU(h:(de m dY).isNone=true)(nu ma te o:Int)(L:List D)(dn:Int)(role:Str)(vo si:D):jX C m (mD C nu ma te o L dn role vo si)=true:=by
 show(decide (C=C) && (de m dY).isNone)=true;rw[decide_eq_true rfl,h];rfl
theorem O1(nu ma te o:Int)(L:List D)(dn:Int)(role:Str)(vo si:D):b7 "number" (mD C nu ma te o L dn role vo si)=some (iD nu):=by
 simp[mD,dY,b7,fQ,de,aU]
theorem GY(nu ma te o:Int)(L:List D)(dn:Int)(role:Str)(vo si:D):b7 "term" (mD C nu ma te o L dn role vo si)=some (iD te):=by
 simp[mD,dY,b7,fQ,de,aU,km,kn]
theorem ZQ(nu ma te o:Int)(L:List D)(dn:Int)(role:Str)(vo si:D):b7 "of" (mD C nu ma te o L dn role vo si)=some (iD o):=by
 simp[mD,dY,b7,fQ,de,aU,uC,uD,uE]
theorem O2(nu ma te o:Int)(L:List D)(dn:Int)(role:Str)(vo si:D):b7 "log" (mD C nu ma te o L dn role vo si)=some (.nd .lst L):=by
 simp[mD,dY,b7,fQ,de,aU,rf,rg,rh,rj]
theorem GZ(nu ma te o:Int)(L:List D)(dn:Int)(role:Str)(vo si:D):b7 "done" (mD C nu ma te o L dn role vo si)=some (iD dn):=by
 simp[mD,dY,b7,fQ,de,aU,wM,wN,wO,wQ,wR]
theorem G0(nu ma te o:Int)(L:List D)(dn:Int)(role:Str)(vo si:D):b7 "role" (mD C nu ma te o L dn role vo si)=some (sD role):=by
 simp[mD,dY,b7,fQ,de,aU,ko,kq,kr,ku,kx,ky]
theorem ZR(nu ma te o:Int)(L:List D)(dn:Int)(role:Str)(vo si:D):b7 "sizes" (mD C nu ma te o L dn role vo si)=some (si):=by
 simp[mD,dY,b7,fQ,de,aU,zp,zq,zr,zt,zu,zv,zw,zA]
open PySem.Spec PyProof.Rows
section
variable {K:aj}{n:Nat}{H H' H1 H2:Hp}{U U':Addr->Prop}{σ hv:List (Option V)}{Z ρ':En}{τv vs:List V}{τd ds:List D}{v y:V}{d:D}{E:lK}
theorem ka{α:Type}(A B:List α)(x:α)(j:Nat):(A++ [x]++B)[j]?=if j < A.length then(A++B)[j]? else if j=A.length then some x else(A++B)[j - 1]?:=by
 by_cases h1:j < A.length
 ·rw[if_pos h1,dI,br h1,br h1]
 ·rw[if_neg h1,dI,bK (by lia)];by_cases h2:j=A.length
  ·rw[if_pos h2,h2];simp
  ·rw[if_neg h2,List.singleton_append,bK (by lia)];obtain⟨k,hk⟩:∃k,j - A.length=k + 1:=⟨j - A.length - 1,by lia⟩
   rw[hk,List.getElem?_cons_succ,show j - 1 - A.length=k by lia]
def mW(r m:Nat)(Z:En):En:=match Z[r]? with
 |some (some (.ak q []))=>if q=m then((gb m Z).take m).set r ((ai Z m).map .own) else(gb m Z).take m
 |_=>(gb m Z).take m
def qe(M c:Nat)(Fs:Nat->Addr->Prop)(j:Nat)(b:Addr):Prop:=if j < M then(if j=c then Fs M b else Fs j b) else Fs (j + 1) b
theorem ZS(h:j < M)(h2:j≠c):qe M c Fs j=Fs j:=by
 funext b;unfold qe;rw[if_pos h,if_neg h2]
theorem ZT(h:c < M):qe M c Fs c=Fs M:=by
 funext b;unfold qe;rw[if_pos h,if_pos rfl]
theorem ZU(h:¬ j < M):qe M c Fs j=Fs (j + 1):=by
 funext b;unfold qe;rw[if_neg h]
theorem aB.O3{M c:Nat}(I:aB K n H U σ (hv++ [some v]) Z τv τd)(ZV:Z.length=M + 1)(G1:X.length=M)
  (hX:∀(j:Nat) (γ:B),X[j]?=some (some γ)->(j≠c/\Z[j]?=some (some γ)/\∀q p,γ= .ak q p->q≠M)\/(j=c/\∃d,γ= .own d/\ai Z M=some d/\Z[j]?=some (some (.ak M [])))):
  aB K n H U σ hv X τv τd:=by
 have l:=I.len;have nn:=I.nn;obtain⟨hl,mu,Fs,dj,sub,sl⟩:=I.ok;rw[cc,ng]at l;have hM:(σ++hv).length=M:=by rw[cc];lia
 have eA:σ++(hv++ [some v])++τv.map some=(σ++hv)++ [some v]++τv.map some:=by simp
 rw[eA]at hl sl;refine⟨?_,by rw[G1, <- hM,cc],nn⟩;rw[G1];have old:∀(q:Nat),q < M->((σ++hv)++ [some v]++τv.map some)[q]?=((σ++hv)++τv.map some)[q]?:=λq hq=>by
  rw[ka,if_pos (by lia)]
 have wV:((σ++hv)++ [some v]++τv.map some)[M]?=some (some v):=by
  rw[ka,if_neg (by lia),if_pos hM.symm]
 have big:∀(q:Nat),¬ q < M->((σ++hv)++ [some v]++τv.map some)[q + 1]?=((σ++hv)++τv.map some)[q]?:=λq hq=>by
  rw[ka,if_neg (by lia),if_neg (by lia),UB]
 refine⟨by simp only[cc,ng]at hl hM |-;lia,mu,qe M c Fs,λi j b hi hj=> ?_,λi b hb=> ?_,λj γ fG=> ?_⟩
 ·have hi:if i < M then(if i=c then Fs M b else Fs i b) else Fs (i + 1) b:=hi;have hj:if j < M then(if j=c then Fs M b else Fs j b) else Fs (j + 1) b:=hj
  split at hi <;> split at hj
  ·split at hi <;> split at hj
   ·lia
   ·have:=dj _ _ b hi hj;lia
   ·have:=dj _ _ b hi hj;lia
   ·exact dj _ _ b hi hj
  ·split at hi
   ·have:=dj _ _ b hi hj;lia
   ·have:=dj _ _ b hi hj;lia
  ·split at hj
   ·have:=dj _ _ b hi hj;lia
   ·have:=dj _ _ b hi hj;lia
  ·have:=dj _ _ b hi hj;lia
 ·have hb:if i < M then(if i=c then Fs M b else Fs i b) else Fs (i + 1) b:=hb
  split at hb
  ·split at hb <;> exact sub _ b hb
  ·exact sub _ b hb
 ·by_cases c1:j < M
  ·rw[br (by lia)]at fG;rcases hX j γ fG with⟨n1,q1,q2⟩ | ⟨rfl,dd,rfl,hd,q1⟩
   ·obtain⟨v2,dz,ef⟩:=sl j γ (by rw[br (by lia)];exact q1);rw[old _ c1]at dz;refine⟨v2,dz, ?_⟩;cases γ with
    |own dd=>
     show bj K H (qe M c Fs j) v2 dd;rw[ZS c1 n1];exact ef
    |ro dd=>exact ef
    |ak q p=>
     obtain⟨a,vr,b,k⟩:=ef;have:=q2 q p rfl;have hq:q < M:=by lia
     rw[old _ hq]at b;exact⟨hq,vr,b,k⟩
   ·obtain⟨v2,dz,ef⟩:=sl j _ (by rw[br (by lia)];exact q1);obtain⟨_,vr,b,k⟩:=ef;rw[old _ c1]at dz;rw[wV]at b;cases b;cases k;obtain⟨v3,O4,ZW⟩:=sl M (.own dd) (by rw[br (by lia)];exact lU hd);rw[wV]at O4;cases O4;refine⟨_,dz, ?_⟩;show bj K H (qe M j Fs j) _ dd;rw[ZT c1];exact ZW
  ·rw[bK (by lia),G1]at fG;obtain⟨v2,dz,ef⟩:=sl (j + 1) γ (by rw[bK (by lia),ZV,show j + 1 - (M + 1)=j - M by lia];exact fG);rw[big _ c1]at dz;refine⟨v2,dz, ?_⟩;rw[dF]at fG;obtain⟨dd,_,e2⟩:=bg.mp fG;cases e2;show bj K H (qe M c Fs j) v2 dd;rw[ZU c1];exact ef
theorem O5(h:((gb M Z).take M)[j]?=some (some γ)):j < M/\Z[j]?=some (some γ)/\∀q p,γ= .ak q p->q≠M:=by
 have hj:j < M:=by
  rcases xT j M with z | z
  ·exact z
  ·rw[List.getElem?_take_eq_none (by lia)]at h;cases h
 rw[Um hj]at h;exact⟨hj,Fv h⟩
theorem aB.cls(I:aB K n H U σ (hv++ [some v]) Z τv τd)(hm:Z.length=m + 1)(hr:r < m):aB K n H U σ hv (mW r m Z) τv τd:=by
 have e:((gb m Z).take m).length=m:=by rw[DW,kT];lia
 have plain:aB K n H U σ hv ((gb m Z).take m) τv τd:=I.O3 (c:=m) hm e λj γ h=>by
  obtain⟨a,b,c⟩:=O5 h;exact .inl ⟨by lia,b,c⟩
 unfold mW
 split
 ·next q hq=>
  split
  ·next c=>
   subst c;refine I.O3 (c:=r) hm (by rw[cB];exact e) λj γ h=> ?_;by_cases cj:r=j
   ·subst cj;rw[eY (by lia)]at h;have h:(ai Z q).map B.own=some γ:=jI h;obtain⟨d,h1,h2⟩:=bg.mp h;exact .inr ⟨rfl,d,h2.symm,h1,hq⟩
   ·rw[gm cj]at h;obtain⟨_,b,c⟩:=O5 h;exact .inl ⟨λz=>cj z.symm,b,c⟩
  ·exact plain
 ·exact plain
def uF(r m:Nat):Fl->Fl
 |.nx Z=> .nx (mW r m Z)
 |.rt d Z=> .rt d (mW r m Z)
 |.bk Z=> .bk (mW r m Z)
 |.ct Z=> .ct (mW r m Z)
theorem qR.close(hm:n + hv.length=m)(hr:r < n)(k:qR K n H U hv τv τd E (uF r m fl)):qR K n H U (hv++ [some v]) τv τd E fl:=by
 have key:∀{aN H' U' ρ'} {G3:List V} {G4:List D},aB K n H' U' aN (hv++ [some v]) ρ' G3 G4->aB K n H' U' aN hv (mW r m ρ') G3 G4:=λ{aN H' U' ρ'} {G3 G4} I=>I.cls (by
  have l:=I.len;have nn:=I.nn;rw[cc,ng]at l
  lia) (by lia)
 cases fl with
 |nx Z=>exact λaN H' U' I s=>k aN H' U' (key I) s
 |rt d Z=>exact λv aN H' U' I s=>k v aN H' U' (key I) s
 |bk Z=>exact λaN H' U' I s=>k aN H' U' (key I) s
 |ct Z=>exact λaN H' U' I s=>k aN H' U' (key I) s
end
section
variable {K:aj}{n:Nat}{H H' H1 H2:Hp}{U U':Addr->Prop}{σ hv:List (Option V)}{Z ρ':En}{τv vs:List V}{τd ds:List D}{v y:V}{d:D}{N:Addr->Prop}
open Classical in
noncomputable def G5 (K:aj):R2:=λx y H Q=>∃g,Gw K H x y g/\Q (.bl g) H
theorem ZX(hu:X.A.units + 1 < cLine):dJ X (jd .Gt) (G5 X.K):=by
 intro aa s σ H x y v u Q I rx ry h;obtain⟨g,⟨pp,qq,i1,j1,i2,j2,rfl,rfl,h1,h2,rfl⟩,q⟩:=h;cases rx;cases ry;obtain⟨OP,ux,yZ,_⟩:=I.tuple h1;obtain⟨nz,y0,za,_⟩:=I.tuple h2;obtain⟨w1,w2,rfl,⟨t1,rfl⟩,⟨t2,rfl⟩⟩:=L2.vals2 ux;obtain⟨w3,w4,rfl,⟨t3,rfl⟩,⟨t4,rfl⟩⟩:=L2.vals2 y0;exact Gv yZ za (by lia) ⟨.bl _,H,I,rfl,q⟩
def Cv(a b:D):Option D:=(mU a).bind λp=>(mU b).map λq=> .sc (.bl (iW p.1 p.2 q.1 q.2))
instance ajn:lV K (G5 K) Cv:=⟨λ{H x y dx dy d Q} w1 w2 h k=>by
 obtain⟨p,h1,h⟩:=af.mp h;obtain⟨q,h2,h⟩:=bg.mp h;subst h;obtain⟨a,rfl,ha⟩:=wK w1 h1;obtain⟨b,rfl,hb⟩:=wK w2 h2;exact⟨_,⟨a,b,_,_,_,_,rfl,rfl,ha,hb,rfl⟩,k _ H (aP.refl H) (.sc _)⟩⟩
end
open PySem.W
section
variable {K:aj}{n:Nat}{H H' H1 H2:Hp}{U U':Addr->Prop}{σ hv:List (Option V)}{Z ρ':En}{τv vs:List V}{τd ds:List D}{d:D}{E:lK}
end
section
variable {K:aj}{n:Nat}{H H':Hp}
instance (priority:=4000) ajo{i:Nat}[L:ke i n]:SS K n (rO (jh i)) (cv (fJ i)):=@Yj K n _ _ Yi
variable {H1 H2:Hp}{U U':Addr->Prop}{σ hv:List (Option V)}{Z ρ':En}{τv vs:List V}{τd ds:List D}{v y:V}{d d1:D}{E:lK}
end
section
variable {K:aj}{n:Nat}{C:Addr}{m:Str}{E:XK}
end
theorem Cw{fg:D->En->Option En}{Q:Fl->Prop}(P:Nat->En->Prop)(st:∀j:Nat,j < N->∀Z,P j Z->∃ρ1,fg (iD (j:Int)) Z=some ρ1/\Ev fb ρ1 λfl=>match fl with | .nx ay=>P (j + 1) ay | .ct ay=>P (j + 1) ay | .bk ay=>Q (.nx ay) | .rt d ay=>Q (.rt d ay))
  (hd:∀Z,P N Z->Q (.nx Z)):∀(k i:Nat) (Z:En),i + k=N->P i Z->∃fl,iC fg fb ((List.range' i k).map λi:Nat=>iD (i:Int)) Z=some fl/\Q fl
 |0,i,Z,hN,p=>⟨_,rfl,hd Z (by rw[<- hN];exact p)⟩
 |k + 1,i,Z,hN,p=>by
  obtain⟨ρ1,e1,fl,e2,h⟩:=st i (by lia) Z p;rw[List.range'_succ,eI,iC,e1];show ∃fl,(fb ρ1).bind _=some fl/\Q fl;rw[e2];cases fl with
  |nx ay=>exact Cw P st hd k (i + 1) ay (by lia) h
  |ct ay=>exact Cw P st hd k (i + 1) ay (by lia) h
  |bk ay=>exact⟨_,rfl,h⟩
  |rt d ay=>exact⟨_,rfl,h⟩
theorem O6(m:Nat):ia 0 m=(List.range' 0 m).map λi:Nat=>iD (i:Int):=by rw[zB,List.range_eq_range']
theorem Ev.O7{fi:En->Option (List D)}{fg:D->En->Option En}{fb:En->Option Fl}{Q:Fl->Prop}(hi:fi Z=some (ia 0 m))(P:Nat->En->Prop)(h0:P 0 Z)
  (st:∀j:Nat,j < m->∀Z,P j Z->∃ρ1,fg (iD (j:Int)) Z=some ρ1/\Ev fb ρ1 λfl=>match fl with | .nx ay=>P (j + 1) ay | .ct ay=>P (j + 1) ay | .bk ay=>Q (.nx ay) | .rt d ay=>Q (.rt d ay)) (hd:∀Z,P m Z->Q (.nx Z)):
  Ev (λZ=>(fi Z).bind λds=>iC fg fb ds Z) Z Q:=by
 show ∃fl,(fi Z).bind _=some fl/\Q fl;rw[hi];show ∃fl,iC fg fb (ia 0 m) Z=some fl/\Q fl;rw[O6];exact Cw P st hd m 0 Z (by lia) h0
theorem qf(h:f Z=some (d,ρ1))(e:aQ i (.own d) ρ1=ay):fP i f Z=some (.nx ay):=by
 unfold fP;rw[h, <- e];rfl
theorem iL:bT Z (some (.ak r p))=if p= []\/((ai Z r).bind (ag · p)).isSome=true then some (.ak r p) else none:=rfl
theorem wW(h:fc Z=some (c,ρ1))(hr:(if c=true then a ρ1 else b ρ1)=r):bF fc a b Z=r:=by
 unfold bF;rw[h];exact hr
theorem qg(h1:fa Z=some (a,ρ1))(h2:fb ρ1=some (b,ay))(h3:g a b=some d):kf g fa fb Z=some (d,ay):=by
 unfold kf;rw[h1];show(fb ρ1).bind _=_;rw[h2];show(g a b).map _=_;rw[h3];rfl
theorem G6(h:f Z=some (.sc (.bl b),ρ1)):BM f Z=some (b,ρ1):=by
 unfold BM;rw[h];rfl
theorem Ev.O8{fa:En->Option (List D×En)}{fg:D->En->Option En}{fb:En->Option Fl}{Q:Fl->Prop}(h1:fa Z=some (as,ρ0))(h2:lY as=some (ia 0 m))(P:Nat->En->Prop)(h0:P 0 ρ0)
  (st:∀j:Nat,j < m->∀Z,P j Z->∃ρ1,fg (iD (j:Int)) Z=some ρ1/\Ev fb ρ1 λfl=>match fl with | .nx ay=>P (j + 1) ay | .ct ay=>P (j + 1) ay | .bk ay=>Q (.nx ay) | .rt d ay=>Q (.rt d ay)) (hd:∀Z,P m Z->Q (.nx Z)):
  Ev (VL.Cg fa fg fb) Z Q:=by
 unfold Ev VL.Cg;rw[h1];show ∃fl,(lY as).bind _=some fl/\Q fl;rw[h2];show ∃fl,iC fg fb (ia 0 m) ρ0=some fl/\Q fl;rw[O6];exact Cw P st hd m 0 ρ0 (by lia) h0
section
theorem O9(h:yt X pos keys values lQ)(qJ:keys.all (·.isSome)=true)(hl:keys.length=values.length)(h0:keys.isEmpty=false)(E9:Nat.ble keys.length 15=true):PE X (.Dict keys values pos) (yu lQ):=
 Nk h qJ hl (λz=>by rw[z]at h0;cases h0) (ag0 E9)
end
theorem Pa:∀(ks:List bw) (vs:List V) (ek:List (bw×V)),ks.Nodup->(∀k∈ks,∀p∈ek,p.1≠k)->oC ek (ks.zip vs)=ek++ks.zip vs
 | [],vs,ek,_,_=>by simp[oC]
 |k::ks, [],ek,_,_=>by simp[oC]
 |k::ks,v::vs,ek,hn,hd=>by
  obtain⟨h1,h2⟩:=nc.mp hn;have e:jx ek k v=ek++ [(k,v)]:=by
   unfold jx;rw[if_neg];simp only[List.any_eq_true,decide_eq_true_eq,not_exists,not_and];exact λp hp=>hd k (.head _) p hp
  rw[qu];show oC (jx ek k v) (ks.zip vs)=_;rw[e,Pa ks vs _ h2 λk' hk p hp=> ?_]
  ·simp
  ·rcases kG.mp hp with h | h
   ·exact hd k' (.tail _ hk) p h
   ·rw[gf.mp h];exact λz=>h1 (by rw[show k=k' from z];exact hk)
section
variable {K:aj}{n:Nat}
class Cy(K:aj)(n:Nat)(lQ:List (TE×TE))(f:outParam (En->Option (List D×List D))):Prop where
 s:∀{σ hv:List (Option V)} {H:Hp} {U:Addr->Prop} {Z:En} {τv:List V} {τd:List D} {p:List D×List D} {Q:List (V×V)->Hp->Prop},aB K n H U σ hv Z τv τd->f Z=some p->(∀xs vs H',aP H H'->dB K H' T1 xs p.1->jV K H H' vs p.2->xs.length=vs.length->Q (xs.zip vs) H')->By lQ σ H Q
instance ajp:Cy K n [] (λ_=>some ([], [])):=⟨λI h k=>by cases h;exact k [] [] _ (aP.refl _) ⟨rfl,λi v d h=>by simp at h⟩ .nil rfl⟩
noncomputable def oU (fk fv:En->Option D) (fr:En->Option (List D×List D)) (Z:En):Option (List D×List D):=(fk Z).bind λk=>(fv Z).bind λv=>(fr Z).map λr=>(k::r.1,v::r.2)
instance ajq[A:SV K n tk fk][B':SQ K n tv fv][R:Cy K n r fr]:Cy K n ((tk,tv)::r) (oU fk fv fr):=⟨λ{σ hv H U Z τv τd p Q} I h k=>by
 obtain⟨a,ha,h⟩:=af.mp h;obtain⟨b,hb,h⟩:=af.mp h;obtain⟨q,hq,h⟩:=bg.mp h;subst h;refine A.s I ha λx H1 s1 w1=>B'.o (I.same s1) hb λy H2 s2 o=>R.s ((I.same s1).same s2) hq λxs vs H3 s3 w3 o3 hl=> ?_;refine k (x::xs) (y::vs) H3 (s1.trans (s2.trans s3)) ⟨by rw[gc,gc,w3.1],λi v d hv hd=> ?_⟩ (jV.cons (o.early s1) s3 o3 (s1.trans s2)) (by rw[gc,gc,hl]);cases i with
 |zero=>cases hv;cases hd;exact w1.same (s2.trans s3)
 |succ i=>exact w3.2 i v d (by simpa using hv) (by simpa using hd)⟩
open Classical in
noncomputable def zD (f:En->Option (List D×List D)) (Z:En):Option D:=(f Z).bind λp=>(qm p.1).bind λks=>if ks.Nodup/\ks.length=p.2.length/\ks.length<=15 then some (.nd (.az ks) p.2) else none
instance (priority:=900) ajr{lQ:List (TE×TE)}{f:En->Option (List D×List D)}[A:Cy K n lQ f]:SF K n (yu lQ) (zD f):=⟨λ{σ hv H U Z τv τd d Q} I h k=>by
 obtain⟨⟨kd,ds⟩,h1,h⟩:=af.mp h;obtain⟨ks,h2,h⟩:=af.mp h;by_cases c:ks.Nodup/\ks.length=ds.length/\ks.length<=15
 ·rw[if_pos c]at h;cases h;intro p hp;have s0:aP H (upd H p (.dK [])):=gW hp _;refine A.s (I.same s0) h1 λxs vs H2 s2 w o hl=> ?_;have e0:H2 p=some (.dK []):=s2 _ _ eJ;have ex:xs=ks.map kV:=FZ w.1 w.2 h2;obtain⟨ol,Fs,dj,fr,rp⟩:=o;refine⟨e0,ks.zip vs, ?_,by rw[pE];have:=c.2.2;lia, ?_⟩
  ·rw[ex,List.zip_map_left];rfl
  have em:oC [] (ks.zip vs)=ks.zip vs:=by
   rw[Pa ks vs [] c.1 λ_ _ p hp=>nomatch hp];rfl
  rw[em];have sA:aP H (upd H2 p (.dK (ks.zip vs))):=λb u q=>by
   rw[bA (kL q hp)];exact s2 _ _ (s0 _ _ q)
  refine k _ _ sA ?_;have np:∀i,¬ Fs i p:=λi z=>by have q:=(fr i p z).1;rw[eJ]at q;cases q
  refine⟨λb=>(∃i,Fs i b)\/b=p, .nd (vs:=vs) Fs ⟨.inr rfl,rfl,by show ks.length=vs.length;rw[ol];exact c.2.1,0,eJ⟩ ol dj (λi b hb=>⟨.inl ⟨i,hb⟩,λ_ z=>by rw[z]at hb;exact np i hb⟩) λi u e hu he=> ?_,λb hb=> ?_⟩
  ·refine(rp i u e hu he).frame (λb o hb q=> ?_) (wm (by rw[e0];trivial));rw[bA λz=>by rw[z]at hb;exact np i hb];exact q
  ·rcases hb with⟨i,z⟩ | z
   ·refine⟨s0.free (fr i b z).1, ?_⟩;rw[bA λw=>by rw[w]at z;exact np i z];exact(fr i b z).2
   ·rw[z];exact⟨hp,by rw[eJ];trivial⟩
 ·rw[if_neg c]at h;cases h⟩
variable {H H' H1 H2:Hp}{U U':Addr->Prop}{σ hv:List (Option V)}{Z ρ':En}{τv vs:List V}{τd ds:List D}{v y:V}{d:D}
def uG(M:Nat)(Fs:Nat->Addr->Prop)(j:Nat)(b:Addr):Prop:=if j < M then Fs j b else if j=M then False else Fs (j - 1) b
theorem ZY(h:j < M):uG M Fs j=Fs j:=by
 funext b;unfold uG;rw[if_pos h]
theorem ZZ(h:¬ j < M)(h2:¬ j=M):uG M Fs j=Fs (j - 1):=by
 funext b;unfold uG;rw[if_neg h,if_neg h2]
theorem aB.ak(I:aB K n H U σ hv Z τv τd)(w:ik K H U (σ++hv) Z v (.rt r p)):aB K n H U σ (hv++ [some v]) (Z++ [some (.ak r p)]) τv τd:=by
 have l:=I.len;have nn:=I.nn;obtain⟨jq,vr,d0,er,ajs,_,hp⟩:=w;obtain⟨hl,mu,Fs,dj,sub,sl⟩:=I.ok;have hM:(σ++hv).length=Z.length:=by rw[cc];exact l
 have eA:σ++(hv++ [some v])++τv.map some=(σ++hv)++ [some v]++τv.map some:=by simp
 refine⟨?_,by rw[cc,cc,ng,ng];lia,nn⟩;rw[eA];have hL:(Z++ [some (B.ak r p)]).length=Z.length + 1:=by rw[cc,ng]
 rw[hL];have old:∀(q:Nat),q < Z.length->((σ++hv)++ [some v]++τv.map some)[q]?=((σ++hv)++τv.map some)[q]?:=λq hq=>by
  rw[ka,if_pos (by lia)]
 have wV:((σ++hv)++ [some v]++τv.map some)[Z.length]?=some (some v):=by
  rw[ka,if_neg (by lia),if_pos hM.symm]
 have BS:((σ++hv)++τv.map some)[r]?=some (some vr):=by rw[br (by lia)];exact er
 refine⟨by simp only[cc,ng]at hl |-;lia,mu,uG Z.length Fs,λi j b hi hj=> ?_,λi b hb=> ?_,λj γ fG=> ?_⟩
 ·have hi:if i < Z.length then Fs i b else if i=Z.length then False else Fs (i - 1) b:=hi;have hj:if j < Z.length then Fs j b else if j=Z.length then False else Fs (j - 1) b:=hj
  split at hi
  ·split at hj
   ·exact dj _ _ b hi hj
   ·split at hj
    ·exact hj.elim
    ·have:=dj _ _ b hi hj;lia
  ·split at hi
   ·exact hi.elim
   ·split at hj
    ·have:=dj _ _ b hi hj;lia
    ·split at hj
     ·exact hj.elim
     ·have:=dj _ _ b hi hj;lia
 ·have hb:if i < Z.length then Fs i b else if i=Z.length then False else Fs (i - 1) b:=hb
  split at hb
  ·exact sub _ b hb
  ·split at hb
   ·exact hb.elim
   ·exact sub _ b hb
 ·rw[ka]at fG;by_cases c1:j < Z.length
  ·rw[if_pos c1]at fG;obtain⟨v2,dz,ef⟩:=sl j γ fG;refine⟨v2,by rw[old _ c1];exact dz, ?_⟩;cases γ with
   |own dd=>
    have ef:bj K H (Fs j) v2 dd:=ef;show bj K H (uG Z.length Fs j) v2 dd;rw[ZY c1];exact ef
   |ro dd=>exact ef
   |ak q p=>
    obtain⟨a,vr,b,c⟩:=ef;exact⟨by lia,vr,by rw[old _ a];exact b,c⟩
  ·rw[if_neg c1]at fG;by_cases c2:j=Z.length
   ·rw[if_pos c2]at fG;cases fG;subst c2;exact⟨v,wV,by lia,vr,by rw[old _ jq];exact BS,hp⟩
   ·rw[if_neg c2]at fG;obtain⟨v2,dz,ef⟩:=sl (j - 1) γ fG;refine⟨v2,by rw[ka,hM,if_neg c1,if_neg c2];exact dz, ?_⟩;cases γ with
    |own dd=>
     have ef:bj K H (Fs (j - 1)) v2 dd:=ef;show bj K H (uG Z.length Fs j) v2 dd;rw[ZZ c1 c2];exact ef
    |ro dd=>exact ef
    |ak q p=>
     obtain⟨a,vr,b,c⟩:=ef;exact⟨by lia,vr,by rw[old _ a];exact b,c⟩
theorem aB.dv(I:aB K n H U σ hv Z τv τd)(h:ab i Z=some d):∃v,(σ++hv)[i]?=some (some v)/\Vw K H T1 v d:=by
 obtain⟨o,h1,h2⟩:=af.mp h;cases o with
 |none=>cases h2
 |some β=>
  obtain⟨v,F,ev,sub,sv⟩:=I.slot h1;refine⟨v,ev, ?_⟩;cases β with
  |own d'=>cases h2;exact bj.vw sv
  |ro d'=>cases h2;exact Vw.any sv
  |ak r p=>
   obtain⟨d0,hr,g⟩:=af.mp h2;obtain⟨_,vr,er,hp⟩:=sv;obtain⟨v',F',mO,_,rp⟩:=I.yD hr;rw[er]at mO;cases mO;exact rp.sub g hp λ_ _=>trivial
def zE(x y:D):Option D:=match y with
 |.sc (.int i)=>iJ x (some i) none
 |_=>none
def G7(fp:En->Option Pl)(fb:En->Option (D×En))(Z:En):Option (D×En):=(fp Z).bind λ
 |.rt r p=>(fb (Z++ [some (.ak r p)])).bind λa=>(ab Z.length a.2).bind λx=>(zE x a.1).bind λd=>if a.2.length=Z.length + 1 then some (d,mW 0 Z.length a.2) else none
 |.ro _=>none
instance (priority:=60) ajt{te tb:TE}{fp:En->Option Pl}{fb:En->Option (D×En)}[L:ke 0 n][P:SP K n te fp][B':SM K n tb fb]:SM K n (Bp (lZ K) te (EM tb) EL) (G7 fp fb):=⟨λ{σ hv H U Z ρ' τv τd d Q} I h k=>by
 obtain⟨q,h1,h⟩:=af.mp h;cases q with
 |ro _=>cases h
 |rt r p=>
  obtain⟨⟨e,ay⟩,h2,h⟩:=af.mp h;obtain⟨x,h3,h⟩:=af.mp h;obtain⟨d1,h4,h⟩:=af.mp h;have h:(if ay.length=Z.length + 1 then some (d1,mW 0 Z.length ay) else none)=some (d,ρ'):=h;by_cases cl:ay.length=Z.length + 1
  ·rw[if_pos cl]at h;cases h;refine P.s I h1 λv H1 s1 w1=> ?_;have l:=I.len;have nn:=I.nn;have I1:=(I.same s1).ak w1;refine B'.s I1 h2 λy H2 U2 I2 cf=> ?_;have I3:=I2.uf;obtain⟨v',ev,wv⟩:=I3.dv h3;have dz:(σ++(hv++ [some v]))[Z.length]?=some (some v):=by
    rw[<- dI,bK (by rw[cc];lia),cc,show Z.length - (σ.length + hv.length)=0 by lia];rfl
   rw[dz]at ev;cases ev;unfold zE at h4
   split at h4
   ·next i he=>
    have he:e= .sc (.int i):=he;subst he;refine⟨i,I2.last.dm, ?_⟩;refine Gk wv h4 λz H4 s4 o=> ?_;obtain⟨U4,I4,hZ⟩:=I3.push s4 o;have wX:b5 U H U H1:=λb o q nu=>⟨s1 b o q,nu⟩
    exact k z H4 U4 (I4.cls cl (by have:=L.h;lia)) (wX.trans (cf.trans hZ))
   ·cases h4
  ·rw[if_neg cl]at h;cases h⟩
end
inductive Ex:Nat->D->Prop
 |int (n:Nat) (i:Int):Ex n (.sc (.int i))
 |str (n:Nat) (s:Str):iN s=true->Ex n (.sc (.str s))
 |aE (n:Nat):Ex n (.sc .aE)
 |tup (n:Nat) (cs:List D):(∀d∈cs,Ex n d)->Ex (n + 1) (.nd .tup cs)
 |lst (n:Nat) (cs:List D):(∀d∈cs,Ex n d)->Ex (n + 1) (.nd .lst cs)
theorem Pb(h:∀d∈cs,Gd n d):mf n cs:=mf.all h
theorem Ex.gd(h:Ex n d):Gd n d:=by
 induction h with
 |int n i=>exact(Gd.int i).mono (j8 _)
 |str n s hs=>exact(Gd.str s hs).mono (j8 _)
 |aE n=>exact⟨.none,by simp[cy],by simp[tI],by simp[tJ],by simp[fM]⟩
 |tup n cs _ ih=>exact(Pb ih).tup
 |lst n cs _ ih=>exact(Pb ih).lst
theorem G8:∀{cs ds:List D} {xs ys:List PyData},(∀d∈cs,∀(b:D) (x y:PyData),b∈ds->cy d=some x->cy b=some y->fM x y=true->d=b)->kh cs=some xs->kh ds=some ys->xU xs ys=true->cs=ds
 | [], [],_,_,_,_,_,_=>rfl
 | [],d::ds,xs,ys,_,h1,h2,h=>by
  simp only[kh,ag8]at h1;rw[kh]at h2;subst h1;obtain⟨y,_,h2⟩:=af.mp h2;obtain⟨Pc,_,rfl⟩:=bg.mp h2;simp[xU]at h
 |c::cs, [],xs,ys,_,h1,h2,h=>by
  simp only[kh,ag8]at h2;rw[kh]at h1;subst h2;obtain⟨y,_,h1⟩:=af.mp h1;obtain⟨Pc,_,rfl⟩:=bg.mp h1;simp[xU]at h
 |c::cs,d::ds,xs,ys,hk,h1,h2,h=>by
  rw[kh]at h1 h2;obtain⟨x,a1,h1⟩:=af.mp h1;obtain⟨aju,a2,rfl⟩:=bg.mp h1;obtain⟨y,b1,h2⟩:=af.mp h2;obtain⟨Pc,b2,rfl⟩:=bg.mp h2;rw[xU,qt]at h;rw[hk c (.head _) d x y (.head _) a1 b1 h.1,G8 (λe he b x y hb=>hk e (.tail _ he) b x y (.tail _ hb)) a2 b2 h.2]
theorem Ex.eqv(ha:Ex n a):∀{m:Nat} {b:D} {x y:PyData},Ex m b->cy a=some x->cy b=some y->fM x y=true->a=b:=by
 induction ha with
 |int n i=>
  intro m b x y hb h1 h2 h;rw[cy]at h1;cases h1;cases hb with
  |int n j=>rw[cy]at h2;cases h2;simp[fM]at h;rw[h]
  |str n s hs=>rw[cy]at h2;cases h2;simp[fM]at h
  |aE n=>rw[cy]at h2;cases h2;simp[fM]at h
  |tup n cs hc=>rw[cy]at h2;obtain⟨ys,_,rfl⟩:=bg.mp h2;simp[fM]at h
  |lst n cs hc=>rw[cy]at h2;obtain⟨ys,_,rfl⟩:=bg.mp h2;simp[fM]at h
 |str n s hs=>
  intro m b x y hb h1 h2 h;rw[cy]at h1;cases h1;cases hb with
  |int n j=>rw[cy]at h2;cases h2;simp[fM]at h
  |str n s hs=>rw[cy]at h2;cases h2;simp[fM]at h;rw[h]
  |aE n=>rw[cy]at h2;cases h2;simp[fM]at h
  |tup n cs hc=>rw[cy]at h2;obtain⟨ys,_,rfl⟩:=bg.mp h2;simp[fM]at h
  |lst n cs hc=>rw[cy]at h2;obtain⟨ys,_,rfl⟩:=bg.mp h2;simp[fM]at h
 |aE n=>
  intro m b x y hb h1 h2 h;rw[cy]at h1;cases h1;cases hb with
  |int n j=>rw[cy]at h2;cases h2;simp[fM]at h
  |str n s hs=>rw[cy]at h2;cases h2;simp[fM]at h
  |aE n=>rfl
  |tup n cs hc=>rw[cy]at h2;obtain⟨ys,_,rfl⟩:=bg.mp h2;simp[fM]at h
  |lst n cs hc=>rw[cy]at h2;obtain⟨ys,_,rfl⟩:=bg.mp h2;simp[fM]at h
 |tup n cs _ ih=>
  intro m b x y hb h1 h2 h;rw[cy]at h1;obtain⟨xs,g1,rfl⟩:=bg.mp h1;cases hb with
  |int n j=>rw[cy]at h2;cases h2;simp[fM]at h
  |str n s hs=>rw[cy]at h2;cases h2;simp[fM]at h
  |aE n=>rw[cy]at h2;cases h2;simp[fM]at h
  |tup n ds hc=>
   rw[cy]at h2;obtain⟨ys,g2,rfl⟩:=bg.mp h2;rw[fM]at h;rw[G8 (λd hd b x y hb=>ih d hd (hc b hb)) g1 g2 h]
  |lst n ds hc=>rw[cy]at h2;obtain⟨ys,_,rfl⟩:=bg.mp h2;simp[fM]at h
 |lst n cs _ ih=>
  intro m b x y hb h1 h2 h;rw[cy]at h1;obtain⟨xs,g1,rfl⟩:=bg.mp h1;cases hb with
  |int n j=>rw[cy]at h2;cases h2;simp[fM]at h
  |str n s hs=>rw[cy]at h2;cases h2;simp[fM]at h
  |aE n=>rw[cy]at h2;cases h2;simp[fM]at h
  |lst n ds hc=>
   rw[cy]at h2;obtain⟨ys,g2,rfl⟩:=bg.mp h2;rw[fM]at h;rw[G8 (λd hd b x y hb=>ih d hd (hc b hb)) g1 g2 h]
  |tup n ds hc=>rw[cy]at h2;obtain⟨ys,_,rfl⟩:=bg.mp h2;simp[fM]at h
theorem Ex.eq(ha:Ex n a)(hb:Ex m b)(hn:n<=60)(hm:m<=60)(g:Bool->Bool):∃c:Bool,(c=true↔a=b)/\bZ g a b=some (.sc (.bl (g c))):=by
 obtain⟨x,x1,x2,x3,x4⟩:=ha.gd;obtain⟨y,y1,y2,y3,y4⟩:=hb.gd;refine⟨fM x y,⟨ha.eqv hb x1 y1,λe=> ?_⟩, ?_⟩
 ·subst e;rw[x1]at y1;cases y1;exact x4
 ·unfold bZ;rw[x1,y1];show(if _ then _ else _)=_;rw[if_pos ⟨x2,y2,by lia⟩]
section
variable {σ:L2.St}{H:Hp}{a:Addr}
theorem Inv.freeze(I:L2.Inv X aa σ H s)(e:H a=some (.lst xs)):∃o,L2.Inv X aa σ (upd H a (.cD o (.lst xs))) s:=by
 have ba:=I.ba a _ e;obtain⟨z,au,n,r,ho⟩:=(show fY X.prog X.w H s.heap a (.lst xs) from ba)
 refine⟨{ cls:= .type "list",data:= .seq au.toArray n }, ?_⟩;have ne:∀{b:Addr} {u:HO},H b=some u->(∀ys,u≠ .lst ys)->b≠a:=λ{b u} hb hu z=>by
  subst z;rw[e]at hb;cases hb;exact hu _ rfl
 have step:=I.step (h':=s.heap) (H':=upd H a (.cD { cls:= .type "list",data:= .seq au.toArray n } (.lst xs))) (g':=s.gens) (t':=s.toks) (d':=s.drawn) (ch:= []) (λ_ z=>nomatch z)
  (λb o _ _ _ h _=>h) (λb o _ _ _ h _=>⟨o.slots,h⟩) (λb o _ _ hn=>by rw[bA λz=>by rw[z,e]at hn;cases hn];exact hn) (λb o _ h=>⟨o,h⟩)
  (λb ys h=>by rw[bA (ne h λ_ z=>nomatch z)];exact h) (λb o u h=>by rw[bA (ne h λ_ z=>nomatch z)];exact h) (λb ps h=>⟨#[],by rw[bA (ne h λ_ z=>nomatch z),ag9];exact h⟩) (λm h=>h)
  (λb u hb=>by
   by_cases c:b=a
   ·subst c;rw[eJ]at hb;cases hb;exact⟨ho,z,au,n,r,ho⟩
   ·rw[bA c]at hb;exact(I.ba b u hb).g9 (λ_ _ _ h=>h) (λd h=>by rw[bA (ne h λ_ z=>nomatch z)];exact h) λd ys h=>by rw[bA (ne h λ_ z=>nomatch z)];exact h) I.bare
 exact step
def Pd(t:TE):TE:=λσ H Q=>t σ H λv H'=>(∃a xs,v= .ref a/\H' a=some (.lst xs)/\∀o,Q v (upd H' a (.cD o (.lst xs))))\/Q v H'
theorem zF(he:PE X e t):PE X e (Pd t):=by
 intro aa s σ H Q I h;refine bP (he aa s σ H _ I h) λu s' ⟨v,H',I',r,q⟩=> ?_;rcases q with⟨a,xs,rfl,e,q⟩ | q
 ·obtain⟨o,I2⟩:=VL.Inv.freeze I' e;exact⟨_,_,I2,r,q o⟩
 ·exact⟨_,_,I',r,q⟩
end
section
variable {K:aj}{H H':Hp}{U:Addr->Prop}{m:Nat}{e:List (Option V)}{Z:En}
theorem hU.cD{a:Addr}{xs:List V}(ha:H a=some (.lst xs))(h:hU H v p u):hU (upd H a (.cD o (.lst xs))) v p u:=by
 induction h with
 |nil v=>exact .nil v
 | @cons b ob n c u p e1 e2 _ ih=>
  by_cases z:b=a
  ·subst z;rw[ha]at e1;cases e1;exact .cons eJ e2 ih
  ·exact .cons (by rw[bA z];exact e1) e2 ih
theorem cL.freeze(h:cL K H U m e Z)(hj:Z[j]?=some (some (.own (.nd .lst cs))))(p:aK cs=true):
  ∃a vs,e[j]?=some (some (.ref a))/\H a=some (.lst vs)/\U a/\∀o,cL K (upd H a (.cD o (.lst vs))) (λb=>U b/\b≠a) m e (Z.set j (some (.own (.nd .eT cs)))):=by
 obtain⟨hl,mu,Fs,dj,sub,sl⟩:=h;obtain⟨v,ev,sv⟩:=sl j _ hj;have sN:j < Z.length:=(bW.mp hj).1;have sv:bj K H (Fs j) v (.nd .lst cs):=sv;have vw:=sv.vw;cases sv with
 | @nd _ a _ vs _ Z0 hold cU Z1 Z2 dq=>
  obtain⟨Fa,_,_,dx,ha⟩:=hold;have ha:H a=some (.lst vs):=ha;refine⟨a,vs,ev,ha,sub j a Fa,λo=> ?_⟩;have st:gJ H (upd H a (.cD o (.lst vs))):=wm (by rw[ha];trivial);refine⟨by rw[cB];exact hl,λb hb=>by rw[bA hb.2];exact mu b hb.1,λi b=>Fs i b/\b≠a,λi k b hi hk=>dj i k b hi.1 hk.1,λi b hb=>⟨sub i b hb.1,hb.2⟩,λi β aL=> ?_⟩;by_cases c:j=i
  ·subst c;rw[eY sN]at aL;cases aL;refine⟨_,ev, .nd (λ_ _=>False) ⟨p, .inl ⟨o,eJ⟩⟩ cU (λ_ _ _ z=>z.elim) (λ_ _ z=>z.elim) λi u d hu hd=> ?_⟩;exact((dq i u d hu hd).vw.plain (oK p hd)).frame (λ_ _ z=>z.elim) st
  ·rw[gm c]at aL;obtain⟨w,ew,sw⟩:=sl i β aL;refine⟨w,ew, ?_⟩;have na:∀b,Fs i b->b≠a:=λb z y=>c (dj j i a Fa (by rw[<- y];exact z));cases β with
   |own d=>
    have sw:bj K H (Fs i) w d:=sw;exact(sw.frame (λb ob z q=>by rw[bA (na b z)];exact q) st).mono λb z=>⟨z,na b z⟩
   |ro d=>
    have sw:Vw K H (λb=>¬ U b) w d:=sw;exact(sw.frame (λb ob z q=>by rw[bA λy=>z (by rw[y];exact sub j a Fa)];exact q) st).mono λb z y=>z y.1
   |ak r q=>
    obtain⟨x,vr,er,hp⟩:=sw;exact⟨x,vr,er,hU.cD ha hp⟩
end
section
variable {K:aj}{n:Nat}
def ir:D->D
 |.nd .lst cs=>if aK cs=true then .nd .eT cs else .nd .lst cs
 |d=>d
def nP(f:En->Option (D×En))(Z:En):Option (D×En):=(f Z).map λr=>(ir r.1,r.2)
instance ajv[A:SM K n t f]:SM K n (Pd t) (nP f):=⟨λ{σ hv H U Z ρ' τv τd d Q} I h k=>by
 obtain⟨⟨d1,ρ1⟩,h1,h2⟩:=bg.mp h;cases h2;refine A.s I h1 λv H1 U1 I1 bH=> ?_;by_cases c:∃cs,d1= .nd .lst cs/\aK cs=true
 ·obtain⟨cs,rfl,p⟩:=c
  left;have e:ir (.nd .lst cs)= .nd .eT cs:=if_pos p;have k:∀v H' U',aB K n H' U' σ hv ρ1 (τv++ [v]) (τd++ [.nd .eT cs])->b5 U H U' H'->Q v H':=λv H' U'=>by
   have:=k v H' U';rw[show ir (D.nd .lst cs)= .nd .eT cs from e]at this;exact this
  have tl:=I1.tl;have hj:(ρ1++(τd++ [D.nd .lst cs]).map λd=>some (B.own d))[ρ1.length + τd.length]?=some (some (.own (.nd .lst cs))):=by
   rw[bK (by lia)];simp
  obtain⟨a,vs,ev,ha,ua,ok⟩:=cL.freeze I1.ok hj p;have l1:=I1.len;have ajw:τv.length=τd.length:=by simpa using tl
  have dz:v= .ref a:=by
   rw[bK (by simp;lia)]at ev;simp only[cK,eI,iZ,cc]at ev;rw[show ρ1.length + τd.length - (σ.length + hv.length)=(τv.map some).length by rw[eS];lia,bK (bX _)]at ev;simpa using ev
  subst dz;refine⟨a,vs,rfl,ha,λo=> ?_⟩;refine k _ _ (λb=>U1 b/\b≠a) ⟨?_,l1,I1.nn⟩ (bH.trans λb ob hb nu=> ?_)
  ·have:=ok o;rw[show(ρ1++(τd++ [D.nd .lst cs]).map λd=>some (B.own d)).set (ρ1.length + τd.length) (some (.own (.nd .eT cs)))=ρ1++(τd++ [D.nd .eT cs]).map λd=>some (B.own d) by
    rw[LU _ _ (by lia),cK,cK,LU _ _ (by simp)];simp]at this
   exact this
  ·exact⟨by rw[bA λz=>nu (by rw[z];exact ua)];exact hb,λz=>nu z.1⟩
 ·right;have e:ir d1=d1:=by
   unfold ir
   split
   ·next cs=>exact if_neg λp=>c ⟨cs,rfl,p⟩
   ·rfl
  exact k v H1 U1 (by rw[show ir (d1,ρ1).1=d1 from e];exact I1) bH⟩
end
section
def G9(K:aj):R2:=λx y H Q=>∃l b xs zs,x= .ref l/\y= .ref b/\cV K H l xs/\cV K H b zs/\xs.length + zs.length<=aM/\∀p,H p=none->Q (.ref p) (upd H p (.lst (xs++zs)))
theorem Z3:dJ X (kE .Add) (G9 X.K):=by
 intro aa s σ H x y v u Q I rx ry h;obtain⟨l,b,xs,zs,rfl,rfl,hH,hB,hz,q⟩:=h;cases rx;cases ry;obtain⟨au,r,⟨⟨cls,dd,data,sl⟩,n,ho,hc,_,hd⟩,z⟩:=I.list hH;obtain⟨nz,r2,⟨⟨EH,pV,data2,iw⟩,n2,mI,gq,_,hd2⟩,z2⟩:=I.list hB;simp only at hc hd gq hd2;subst hc hd gq hd2;have l1:xs.length=au.length:=r.length;have l2:zs.length=nz.length:=r2.length;have e:au.toArray++nz.toArray=(au++nz).toArray:=by simp
 refine Lg ⟨_,ho,rfl⟩ ⟨_,mI,rfl⟩ noFill_list_add seq_list_add PySem.F.slot_list_add PySem.F.entry_list_add (PySem.F.args_list_add_2 _ _) (list_addW l b au.toArray nz.toArray n n2 dd pV sl iw (by rw[gr,gr];lia)) ⟨ho,mI, ?_⟩;rw[e];exact⟨.ref _,_,I.M0 (t':=s.toks) (r.append r2) (by rw[cc];lia),rfl,q _ I.fresh⟩
variable {K:aj}
noncomputable def zG:D->Option (List D)
 |.nd .lst cs=>some cs
 |.nd .eT cs=>some cs
 |_=>none
theorem Pe(w:Vw K H T1 v d)(h:zG d=some cs):∃a vs,v= .ref a/\cV K H a vs/\dB K H T1 vs cs:=by
 unfold zG at h
 split at h
 ·cases h;obtain⟨a,vs,rfl,hc,vl⟩:=w.gN;exact⟨a,vs,rfl,cV.of hc.2,vl⟩
 ·cases h;obtain⟨a,vs,rfl,hc,vl⟩:=w.gN;exact⟨a,vs,rfl,jS.sq hc.2,vl⟩
 ·cases h
def Ha(a b:D):Option D:=(zG a).bind λxs=>(zG b).bind λys=>if xs.length + ys.length<=aM/\aK (xs++ys)=true then some (.nd .lst (xs++ys)) else none
instance ajx:lV K (G9 K) Ha:=⟨λ{H x y dx dy d Q} w1 w2 h k=>by
 obtain⟨xs,h1,h⟩:=af.mp h;obtain⟨ys,h2,h⟩:=af.mp h;by_cases c:xs.length + ys.length<=aM/\aK (xs++ys)=true
 ·rw[if_pos c]at h;cases h;obtain⟨a,vs,rfl,s1,v1⟩:=Pe w1 h1;obtain⟨b,us,rfl,s2,v2⟩:=Pe w2 h2;refine⟨a,b,vs,us,rfl,rfl,s1,s2,by rw[v1.1,v2.1];exact c.1,λp hp=> ?_⟩;exact k _ _ (gW hp _) ((v1.app v2).own c.2 hp (.inr ⟨rfl,trivial,0,rfl⟩))
 ·rw[if_neg c]at h;cases h⟩
end
section
def zH(K:aj)(Q:VK):List V->Option V->Hp->Prop
 | [],some b,H=>Q b H
 | [],none,_=>False
 |x::r,none,H=>zH K Q r (some x) H
 |x::r,some b,H=>∃g,Gw K H x b g/\zH K Q r (if g=true then some x else some b) H
def Z4:Option V->List Value->Prop
 |none,us=>us= []
 |some b,us=>∃u,us= [u,u]/\RelV b u
theorem Cz{σ:L2.St}{Q:VK}(hu:X.A.in1.units < cLine)(hc:X.calm=true)(jG:it≠S)(qc:a≠it)(ha:H a=some (.lst xs))(fI:iQ X aa H it)(fS:iQ X aa H S):
  ∀(rest:List V) (i:Nat) (pz:Option V) (us:List Value) (n:Nat) (s:Shared),xs.drop i=rest->L2.Inv X aa σ H s->s.heap.IsListIter it a i->s.heap.get? S=some { cls:= .type "list",data:= .seq us.toArray n }->Z4 pz us->
   zH X.K Q rest pz H->mw (model X.prog X.w) X.A (.builtin "max.loop" ⟨[.ref it, .none, .ref S], []⟩) (λr s'=>match r with | .ok (.ret v)=>EP X aa σ Q v s' | .ok _=>False | .error e=>X.xe e s') s
 | [],i,none,us,n,s,hd,I,hit,hS,hB,h=>h.elim
 | [],i,some b,us,n,s,hd,I,hit,hS,hB,h=>by
  obtain⟨au,rv,pl,hz⟩:=I.list (cV.of ha);have hi:xs.length<=i:=by
   rcases xT i xs.length with h | h
   ·rw[rH h]at hd;cases hd
   ·exact h
  have hsz:au.toArray.size=xs.length:=by rw[gr];exact rv.length.symm
  obtain⟨ub,rfl,rb⟩:=hB;refine Lo LQ ?_;rw[LR pF _];show wpAny _ X.A.in1 (Lq (.ref S) >>= _) _ _ _;refine bq (Lr hS rfl ?_);show wpAny _ X.A.in1 (tryCatch (pyNext (.ref it)) _ >>= _) _ _ _;refine bq (xM (TR (show X.A.in1.handled=none from I.ok.hd hc) hit pl.isList (ag2 (by rw[hsz];exact hi)) λh7 Gx=> ?_));have yU:∀b o,b≠it->s.heap.get? b=some o->h7.get? b=some o:=λb o oQ e=>Gx b o oQ e;have Gy:=yU S _ (λz=>jG z.symm) hS;have I7:L2.Inv X aa σ H { s with heap:=h7 }:=I.turned (t':=s.toks) (it:=it) yU fI.1 fI.2.1 fI.2.2.2.1 fI.2.2.2.2.1 fI.2.2.2.2.2;show wpAny _ X.A.in1 (AV S (λ_=>#[]) >>= _) _ _ _;refine bq ?_;refine AW Gy rfl (bq (va (dw ?_)));exact⟨b,H,L2.Inv.turned (s:= { s with heap:=h7 }) I7 (t':=s.toks) (it:=S) (λb o n e=>(vj _ _ (jO n)).trans e) fS.1 fS.2.1 fS.2.2.2.1 fS.2.2.2.2.1 fS.2.2.2.2.2,rb,h⟩
 |x::r,i,pz,us,n,s,hd,I,hit,hS,hB,h=>by
  have oR:(toString "max"++toString ".loop":String)="max.loop":=by decide
  obtain⟨au,rv,pl,hz⟩:=I.list (cV.of ha);have W:=D1 (prog:=X.prog) (w:=X.w) (A:=X.A.in1) (show X.A.in1.handled=none from I.ok.hd hc) it a qc;have hi:i < xs.length:=by
   rcases xT i xs.length with h | h
   ·exact h
   ·rw[UD h]at hd;cases hd
  have hx:xs[i]?=some x:=by rw[rH hi]at hd;injection hd with e1 e2;rw[gn hi,e1]
  have mP:xs.drop (i + 1)=r:=by rw[rH hi]at hd;injection hd
  have hsz:au.toArray.size=xs.length:=by rw[gr];exact rv.length.symm
  refine Lo LQ ?_;rw[LR pF _];show wpAny _ X.A.in1 (Lq (.ref S) >>= _) _ _ _;refine bq (Lr hS rfl ?_);show wpAny _ X.A.in1 (tryCatch (pyNext (.ref it)) _ >>= _) _ _ _;refine bq (xM ((W au.toArray).item i _ _ _ (by rw[hsz];exact hi) ⟨hit,pl.isList⟩ λv' h4 tk hP bH yV=> ?_));obtain⟨u',Gz,wH⟩:=rv.get hx;have e4:v'=u':=by
   have:au[i]?=some v':=by simpa using hP
   rw[Gz]at this;injection this with this;exact this.symm
  subst e4;have I4:L2.Inv X aa σ H { s with heap:=h4,toks:=tk }:=I.turned (t':=tk) (it:=it) (λb o n e=>yV b o (λz=>n (gf.mp z)) e) fI.1 fI.2.1 fI.2.2.2.1 fI.2.2.2.2.1 fI.2.2.2.2.2;have sH:h4.get? S=_:=yV S _ (λz=>jG (gf.mp z).symm) hS;obtain⟨oi,yW,yX,wI⟩:=id bH.1;have up:∀(g:Array Value->Array Value),L2.Inv X aa σ H { s with heap:=h4.update S (oa g),toks:=tk }:=λg=>L2.Inv.turned (s:= { s with heap:=h4,toks:=tk }) I4 (t':=tk) (it:=S) (λb o n e=>(vj _ _ (jO n)).trans e) fS.1 fS.2.1 fS.2.2.2.1 fS.2.2.2.2.1 fS.2.2.2.2.2;have yY:∀(g:Array Value->Array Value),(h4.update S (oa g)).IsListIter it a (i + 1):=λg=>⟨oi,(vj _ _ (jO jG)).trans yW,yX,wI⟩
  show wpAny _ X.A.in1 (pure v' >>= _) _ _ _;refine bq (dw ?_);cases pz with
  |none=>
   have GJ:us= []:=hB;subst GJ;show wpAny _ X.A.in1 (AV S (λ_=>#[v',v']) >>= _) _ _ _;refine bq ?_;refine AW sH rfl ?_;rw[oR];refine dw ⟨vb pF _, ?_⟩;exact Cz hu hc jG qc ha fI fS _ (i + 1) (some x) [v',v'] _ _ mP (up _) (yY _) (DY (oa λ_=>#[v',v']) sH rfl) ⟨v',rfl,wH⟩ h
  |some b=>
   obtain⟨ub,rfl,rb⟩:=hB;obtain⟨g,⟨pp,qq,i1,j1,i2,j2,rfl,rfl,h1,h2,hg⟩,q6⟩:=h;cases wH;cases rb;obtain⟨OP,ux,yZ,_⟩:=I4.tuple h1;obtain⟨nz,y0,za,_⟩:=I4.tuple h2;obtain⟨w1,w2,rfl,c1,c2⟩:=L2.vals2 ux;obtain⟨w3,w4,rfl,c3,c4⟩:=L2.vals2 y0;obtain⟨t1,rfl⟩:=c1;obtain⟨t2,rfl⟩:=c2;obtain⟨t3,rfl⟩:=c3;obtain⟨t4,rfl⟩:=c4;show wpAny _ X.A.in1 (tryCatch (holding [gA pp,gA pp] (Ln .Gt (.ref pp) (.ref qq) >>= _)) _ >>= _) _ _ _;refine bq (xM (rE (bq (Gv yZ za hu ?_))));refine bq (rE (xD ?_));refine bq (va (dw ?_));rw[<- hg];cases g with
   |true=>
    show wpAny _ X.A.in1 (AV S (λ_=>#[.ref pp, .ref pp]) >>= _) _ _ _;refine bq ?_;refine AW sH rfl ?_;refine bq (va ?_);rw[oR];refine dw ⟨vb pF _, ?_⟩;exact Cz hu hc jG qc ha fI fS _ (i + 1) (some (.ref pp)) [.ref pp, .ref pp] _ _ mP (up _) (yY _) (DY (oa λ_=>#[.ref pp, .ref pp]) sH rfl) ⟨_,rfl,rfl⟩ q6
   |false=>
    show wpAny _ X.A.in1 (letGo _ >>= _) _ _ _;refine bq (va ?_);rw[oR];refine dw ⟨vb pF _, ?_⟩;exact Cz hu hc jG qc ha fI fS _ (i + 1) (some (.ref qq)) [.ref qq, .ref qq] _ _ mP I4 ⟨oi,yW,yX,wI⟩ sH ⟨_,rfl,rfl⟩ q6
def Hb(K:aj):List V->Hp->VK->Prop:=λvs H Q=>∃a xs,vs= [.ref a]/\H a=some (.lst xs)/\zH K Q xs none H
theorem Z5(hu:X.A.units + 1 < cLine)(hc:X.calm=true):i4 X (.builtin "max") (Hb X.K):=by
 intro aa s σ H vs us Q I r h;obtain⟨a,xs,rfl,ha,h⟩:=h;obtain⟨u,rfl,ru⟩:=vals1 r;cases ru;have oR:(toString "max"++toString ".loop":String)="max.loop":=by decide
 obtain⟨au,rv,pl,hz⟩:=I.list (cV.of ha);have lt:a < s.heap.objs.size:=by obtain⟨o,n,e,_⟩:=pl;exact gk e
 refine call_function_tree ag3 ag4 ag5 (PySem.F.args_max1 _) ?_;show wpAny _ X.A.in1 (LS "max" ["key","default"] 0 ⟨[], []⟩ >>= _) _ _ s;refine bq (wpAny_of_eq (show LS "max" ["key","default"] 0 ⟨[], []⟩=pure [none,none] from rfl) ?_);refine bq (dw ?_);refine bq (DQ pl.isList ?_);refine bq (xH ?_);rw[oR];refine dw ⟨vb pF _, ?_⟩;have uy:=jz (s.heap.push { cls:= .type "list_iterator",data:= .fields #[.ref a, .int 0 0] }) (o:= { cls:= .type "list",data:= .seq #[] }) rfl;have zb:((s.heap.push { cls:= .type "list_iterator",data:= .fields #[.ref a, .int 0 0] }).push { cls:= .type "list",data:= .seq #[] }).get? s.heap.objs.size=some { cls:= .type "list_iterator",data:= .fields #[.ref a, .int 0 0] }:=
  gB _ (jz _ rfl)
 have zc:∀b o,s.heap.get? b=some o->((s.heap.push { cls:= .type "list_iterator",data:= .fields #[.ref a, .int 0 0] }).push { cls:= .type "list",data:= .seq #[] }).get? b=some o:=
  λb o e=>gB _ (gB _ e)
 have GK:(s.heap.push { cls:= .type "list_iterator",data:= .fields #[.ref a, .int 0 0] }).objs.size=s.heap.objs.size + 1:=tG _ _;show mw (model X.prog X.w) X.A (.builtin "max.loop" ⟨[.ref s.heap.objs.size, .none, .ref (s.heap.push { cls:= .type "list_iterator",data:= .fields #[.ref a, .int 0 0] }).objs.size], []⟩) _ { s with heap:=(s.heap.push { cls:= .type "list_iterator",data:= .fields #[.ref a, .int 0 0] }).push { cls:= .type "list",data:= .seq #[] } };generalize ((s.heap.push { cls:= .type "list_iterator",data:= .fields #[.ref a, .int 0 0] }).push { cls:= .type "list",data:= .seq #[] })=h3 at uy zb zc |-;generalize hS:(s.heap.push { cls:= .type "list_iterator",data:= .fields #[.ref a, .int 0 0] }).objs.size=S at uy GK |-;have fI:iQ X aa H s.heap.objs.size:=I.rQ (bX _) (I.ba.fresh (bX _));have fS:iQ X aa H S:=I.rQ (by lia) (I.ba.fresh (by lia));have I3:L2.Inv X aa σ H { s with heap:=h3 }:=I.kept (t':=s.toks) zc;have zd:s.heap.objs.size≠S:=by lia
 have Z6:X.A.in1.units < cLine:=by show X.A.units + 1 < cLine;exact hu
 exact Cz Z6 hc zd (jy lt) ha fI fS xs 0 none [] _ _ rfl I3 ⟨_,zb,rfl,rfl⟩ uy rfl h
variable {K:aj}{n:Nat}
def pairsOf:List D->Option (List (Int×Int))
 | []=>some []
 |d::r=>(mU d).bind λp=>(pairsOf r).map (p:: ·)
def mi(b:Int×Int)(ps:List (Int×Int)):Int×Int:=ps.foldl (λb p=>if iW p.1 p.2 b.1 b.2=true then p else b) b
noncomputable def pairD (p:Int×Int):D:= .nd .tup [.sc (.int p.1), .sc (.int p.2)]
def Hc:List D->Option D
 | [.nd .lst cs]=>(pairsOf cs).bind fun | []=>none | p::ps=>some (pairD (mi p ps))
 |_=>none
theorem Pf(h:mU d=some p):d=pairD p:=by
 unfold mU at h
 split at h
 ·cases h;rfl
 ·cases h
theorem Hd:∀{cs:List D} {vs:List V} {ps:List (Int×Int)} {b:Int×Int} {v:V},dB K H T1 vs cs->pairsOf cs=some ps->Vw K H T1 v (pairD b)->(∀v,Vw K H T1 v (pairD (mi b ps))->Q v H)->zH K Q vs (some v) H
 | [], [],ps,b,v,_,h,w,k=>by rw[pairsOf]at h;cases h;exact k v w
 | [],_::_,_,_,_,vl,_,_,_=>by have:=vl.1;simp at this
 |_::_, [],_,_,_,vl,_,_,_=>by have:=vl.1;simp at this
 |c::cs,x::vs,ps,b,v,vl,h,w,k=>by
  rw[pairsOf]at h;obtain⟨p,hp,h⟩:=af.mp h;obtain⟨Pg,Aa,rfl⟩:=bg.mp h;have wx:Vw K H T1 x c:=vl.2 0 x c rfl rfl;obtain⟨ax,ex,hx⟩:=wK wx hp;obtain⟨av,ev,hv⟩:=wK w (k:=b) rfl;have CA:dB K H T1 vs cs:=⟨by have:=vl.1;simpa using this,λi v d hv hd=>vl.2 (i + 1) v d (by simpa using hv) (by simpa using hd)⟩
  refine⟨iW p.1 p.2 b.1 b.2,⟨ax,av,_,_,_,_,ex,ev,hx,hv,rfl⟩, ?_⟩;have e:mi b (p::Pg)=mi (if iW p.1 p.2 b.1 b.2=true then p else b) Pg:=rfl;rw[e]at k;cases c2:iW p.1 p.2 b.1 b.2 with
  |true=>
   rw[c2,if_pos rfl]at k;exact Hd CA Aa (by rw[<- Pf hp];exact wx) k
  |false=>
   rw[c2,if_neg jA]at k;exact Hd CA Aa w k
instance (priority:=3000) ajy{t:TA}{f:En->Option (List D)}[A:SA K n t f]:SV K n (lx (Hb K) t) (λZ=>(f Z).bind Hc):=⟨λ{σ hv H U Z τv τd d Q} I h k=>by
 obtain⟨x,h1,h2⟩:=af.mp h;refine A.s I h1 λvs H1 s1 w=> ?_;unfold Hc at h2
 split at h2
 ·next cs=>
  obtain⟨ps,h3,h4⟩:=af.mp h2;obtain⟨v,rfl,w1⟩:=w.one;obtain⟨a,us,rfl,hc,vl⟩:=w1.gN;cases ps with
  |nil=>cases h4
  |cons p ps=>
   cases h4;refine⟨a,us,rfl,hc.2, ?_⟩
   match us,cs,vl,h3 with
   | [], [],_,h3=>rw[pairsOf]at h3;cases h3
   | [],_::_,vl,_=>have:=vl.1;simp at this
   |_::_, [],vl,_=>have:=vl.1;simp at this
   |u::us,c::cs,vl,h3=>
    rw[pairsOf]at h3;obtain⟨q,hq,h3⟩:=af.mp h3;obtain⟨qs,Z7,e⟩:=bg.mp h3;cases e;have wu:Vw K H1 T1 u c:=vl.2 0 u c rfl rfl;have CA:dB K H1 T1 us cs:=⟨by have:=vl.1;simpa using this,λi v d hv hd=>vl.2 (i + 1) v d (by simpa using hv) (by simpa using hd)⟩
    exact Hd CA Z7 (by rw[<- Pf hq];exact wu) λv wv=>k v H1 s1 wv
 ·cases h2⟩
variable {H H' H1 H2:Hp}{U U':Addr->Prop}{σ hv:List (Option V)}{Z ρ':En}{τv vs:List V}{τd ds:List D}{v y:V}{d:D}{E:lK}
def kz(M:Nat)(fg:D->En->Option En)(fb:En->Option Fl):Nat->Nat->En->Option Fl
 |0,j,Z=>match ab M Z with
  |some (.nd .lst cs)=>if cs.length<=j then some (.nx Z) else none
  |_=>none
 |k + 1,j,Z=>match ab M Z with
  |some (.nd .lst cs)=>(cs[j]?).bind λd=>if plain d=true then(fg d Z).bind λρ1=>(fb ρ1).bind λ
   |.nx ay=>kz M fg fb k (j + 1) ay
   |.ct ay=>kz M fg fb k (j + 1) ay
   |.bk ay=>some (.nx ay)
   |.rt d ay=>some (.rt d ay) else none
  |_=>none
theorem aB.Ph(I:aB K n H U σ hv Z τv τd)(hm:n<=M)(ha:hv[M - n]?=some (some (.ref a)))(hd:ab M Z=some (.nd .lst cs)):∃vs,H a=some (.lst vs)/\vs.length=cs.length/\∀(i:Nat) (v:V) (d:D),vs[i]?=some v->cs[i]?=some d->Vw K H T1 v d:=by
 obtain⟨v,ev,w⟩:=I.dv hd;have nn:=I.nn;rw[bK (by lia),nn,ha]at ev;cases ev;obtain⟨a',vs,e,hc,vl⟩:=w.gN;cases e;exact⟨vs,hc.2,vl.1,vl.2⟩
theorem Z8{M k:Nat}{fl:Fl}[G:SG K n g fg is][B':SS K n tb fb](I:aB K n H U σ hv Z τv τd)(hm:n<=M)(ha:hv[M - n]?=some (some (.ref a)))
  (h:kz M fg fb k 0 Z=some fl) (hk:qR K n H U hv τv τd E fl):
  ∃W:Nat->Nat->L2.St->Hp->Prop,(∃m,W 0 m σ H)/\∀i' m' σ H,W i' m' σ H->
   ((rR K a).stop i' H/\E.nx σ H)\/((rR K a).go i' H/\∃N:L2.St->Hp->Prop,(∀aN H',N aN H'->∃m2,m2 < m'/\W (i' + 1) m2 aN H')/\∀x H',(rR K a).vJ i' H x H'->g x σ H' λhJ H2=>tb { E with nx:=N,ct:=N,bk:=E.nx } hJ H2):=by
 refine⟨λj m' aN H'=>m'=k - j/\j<=k/\∃U' ρ',aB K n H' U' aN hv ρ' τv τd/\b5 U H U' H'/\kz M fg fb (k - j) j ρ'=some fl,⟨k,by simp,j8 _,U,Z,I, .refl U H,h⟩, ?_⟩;rintro j m' aN H' ⟨rfl,hj,U',ρ',Ix,st,fo⟩;by_cases jL:j < k
 ·right;obtain⟨t,ht⟩:∃t,k - j=t + 1:=⟨k - j - 1,by lia⟩
  rw[ht,kz]at fo
  split at fo
  ·next cs hd=>
   obtain⟨vs,jD,hl,dq⟩:=Ix.Ph hm ha hd;obtain⟨d,Pj,fo⟩:=af.mp fo;by_cases pd:plain d=true
   ·rw[if_pos pd]at fo;obtain⟨ρ1,b1,fo⟩:=af.mp fo;obtain⟨uu,b2,fo⟩:=af.mp fo;have Z9:j < cs.length:=(bW.mp Pj).1;refine⟨⟨vs,vs[j]'(by lia),cV.of jD,gn (by lia)⟩,λhJ H2=>∃U2 ay,aB K n H2 U2 hJ hv ay τv τd/\b5 U' H' U2 H2/\kz M fg fb t (j + 1) ay=some fl,λhJ H2 ⟨U2,ay,a1,a2,a3⟩=>⟨k - (j + 1),by lia,rfl,by lia,U2,ay,a1,st.trans a2,by rw[show k - (j + 1)=t by lia];exact a3⟩,λx H2 y2=> ?_⟩;obtain⟨e,w2⟩:=y2;subst e;have hx:=w2 vs (cV.of jD);have wx:Vw K H2 T1 x d:=dq j x d hx Pj;refine G.s Ix ((wx.plain pd).view λ_ z=>z.elim) b1 λhJ I2=> ?_;refine B'.s I2 b2 ?_;cases uu with
    |nx ay=>exact λgL H3 U3 I3 s3=>⟨U3,ay,I3,s3,fo⟩
    |ct ay=>exact λgL H3 U3 I3 s3=>⟨U3,ay,I3,s3,fo⟩
    |bk ay=>cases fo;exact λgL H3 U3 I3 s3=>hk gL H3 U3 I3 (st.trans s3)
    |rt d ay=>cases fo;exact λv gL H3 U3 I3 s3=>hk v gL H3 U3 I3 (st.trans s3)
   ·rw[if_neg pd]at fo;cases fo
  ·cases fo
 ·left;rw[show k - j=0 by lia,kz]at fo
  split at fo
  ·next cs hd=>
   obtain⟨vs,jD,hl,dq⟩:=Ix.Ph hm ha hd
   split at fo
   ·next Z9=>
    cases fo;exact⟨⟨vs,cV.of jD,by lia⟩,hk aN H' U' Ix st⟩
   ·cases fo
  ·cases fo
def forA(fp:En->Option Pl)(fg:D->En->Option En)(fb:En->Option Fl)(Z:En):Option Fl:=(fp Z).bind λ
 |.rt r p=>match b6 Z (.rt r p) with
  |some (.nd .lst cs)=>(kz Z.length fg fb cs.length 0 (Z++ [some (.ak r p)])).map (uF 0 Z.length)
  |_=>none
 |.ro d=>(gY d).bind λds=>iC fg fb ds Z
instance (priority:=1500) ajz{r:R2}{ta tc:TE}{g:TG}{tb:TS}{fp:En->Option Pl}{fg:D->En->Option En}{is:List Nat}{fb:En->Option Fl}[L:ke 0 n][P:SP K n (kN r ta tc) fp][G:SG K n g fg is][B':SS K n tb fb]:SS K n (yj (ur K (kN r ta tc)) g tb) (forA fp fg fb):=⟨λ{σ hv H U Z τv τd fl E} I h k=>by
 obtain⟨q,h1,h⟩:=af.mp h;cases q with
 |ro d=>
  refine(OD (A:=Zd (fl:=fp)) (G:=G) (B':=B')).s I ?_ k;show(Gf fp Z).bind _=_;unfold Gf;rw[h1];exact h
 |rt r p=>
  have h:(match b6 Z (.rt r p) with | some (.nd .lst cs)=>(kz Z.length fg fb cs.length 0 (Z++ [some (.ak r p)])).map (uF 0 Z.length) | _=>none)=some fl:=h
  split at h
  ·next cs hd=>
   obtain⟨uu,h2,rfl⟩:=bg.mp h;refine P.s I h1 λv H1 s1 w1=> ?_;have I1:=I.same s1;have l:=I1.len;have nn:=I1.nn;have wv:=I1.at w1 hd;obtain⟨a,vs,e,hc,vl⟩:=wv.gN;cases e;have wX:b5 U H U H1:=λb o q nu=>⟨s1 b o q,nu⟩
   refine .inl ⟨a,rfl,⟨vs,cV.of hc.2⟩, ?_⟩;refine Z8 (I1.ak w1) (M:=Z.length) (by lia) (by rw[bK (by lia),show Z.length - n - hv.length=0 by lia];rfl) h2 (qR.close (r:=0) (m:=Z.length) (by lia) L.h ?_);cases uu with
   |nx ay=>exact λgL H3 U3 I3 s3=>k gL H3 U3 I3 (wX.trans s3)
   |ct ay=>exact λgL H3 U3 I3 s3=>k gL H3 U3 I3 (wX.trans s3)
   |bk ay=>exact λgL H3 U3 I3 s3=>k gL H3 U3 I3 (wX.trans s3)
   |rt d ay=>exact λv gL H3 U3 I3 s3=>k v gL H3 U3 I3 (wX.trans s3)
  ·cases h⟩
end
section
def sO:Bd:=λo i v H Q=>∃a H4,o= .ref a/\Bx H a i v H4/\Q H4
theorem set_dict(hu:X.A.units + 1 < cLine):Em X sO:=by
 intro aa s σ H o i v ov iv u Q I ro ri rv h;obtain⟨a,H4,rfl,g,q⟩:=h;cases ro;exact Nd hu I g ri rv λs4 I4=>⟨H4,I4,q⟩
variable {K:aj}{n:Nat}{H H' H1 H2:Hp}{U U':Addr->Prop}{σ hv:List (Option V)}{Z ρ':En}{τv vs:List V}{τd ds:List D}{v y x o u:V}{d d0 d':D}
theorem aB.dput(I3:aB K n H U σ hv Z (τv++ [x]) (τd++ [d]))(w:ik K H U (σ++hv) Z o (.rt r p))(hr:ai Z r=some d0)(hg:ag d0 p=some (.nd kk cs))(w3:Vw K H T1 u yd)(h4:iG kk cs yd d=some d'):
  ∃a H4,o= .ref a/\Bx H a u x H4/\∃U4,aB K n H4 U4 σ hv (cm Z r d0 p d') τv τd/\b5 U H U4 H4:=by
 unfold iG at h4
 split at h4
 ·next ks=>
  obtain⟨key,e1,h4⟩:=af.mp h4;by_cases c:cs.length < aM/\ks.Nodup
  ·rw[if_pos c]at h4;obtain⟨a,dx,vs,rfl,ha,hf,hl,_,ed⟩:=aB.edit (xs:= [x]) (ds:= [d]) I3 rfl w hr hg rfl;have hf:ks.length=vs.length:=hf
   split at h4
   ·next i e2=>
    cases h4;have hi:i < vs.length:=by rw[<- hf];exact yK e2
    refine⟨a,_,rfl, .inl ⟨_,key,ha,w3.key e1,by rw[pE];lia,rfl⟩, ?_⟩;rw[OF e2 hf c.2];obtain⟨U4,I4,hZ⟩:=ed (.az ks) (vs.set i x) (cs.set i d) (λj=>if j=i then vs.length else j) rfl (by show ks.length=(vs.set i x).length;rw[cB];exact hf) (by rw[cB,cB];exact hl)
     (λx z hx hz=>BO hi x z (by rw[cB]at hx;exact hx) (by rw[cB]at hz;exact hz)) (sr hi) (by rw[hl];exact sr (by lia))
    exact⟨U4,I4,hZ⟩
   ·next e2=>
    cases h4;refine⟨a,_,rfl, .inl ⟨_,key,ha,w3.key e1,by rw[pE];lia,rfl⟩, ?_⟩;rw[OH e2 hf];obtain⟨U4,I4,hZ⟩:=ed (.az (ks++ [key])) (vs++ [x]) (cs++ [d]) id rfl (by show(ks++ [key]).length=_;simp;exact hf) (by simp;exact hl) (λx z _ _ h=>h) (λj x h=>h) λj x h=>h;exact⟨U4,I4,hZ⟩
  ·rw[if_neg c]at h4;cases h4
 ·cases h4
def mj(fp:En->Option Pl)(fy:En->Option D)(d:D)(Z:En):Option En:=(fp Z).bind λ
 |.rt r p=>(fy Z).bind λy=>(cq Z r p).bind λz=>(iG z.2.1 z.2.2 y d).map λd'=>cm Z r z.1 p d'
 |.ro _=>none
theorem He[P:SP K n td fp][Y:SV K n ty fy](I:aB K n H U σ hv Z (τv++ [x]) (τd++ [d]))(h:mj fp fy d Z=some ρ')(k:∀H' U',aB K n H' U' σ hv ρ' τv τd->b5 U H U' H'->Q σ H'):qC td ty sO x σ H Q:=by
 obtain⟨q,h2,h⟩:=af.mp h;cases q with
 |ro _=>cases h
 |rt r p=>
  obtain⟨y,h5,h⟩:=af.mp h;obtain⟨⟨d0,kk,cs⟩,h3,h⟩:=af.mp h;obtain⟨d',h4,h⟩:=bg.mp h;subst h;obtain⟨hr,hg⟩:=qU h3;refine P.s I h2 λo H2 s2 w2=> ?_;have I2:=I.same s2;refine Y.s I2 h5 λu H3 s3 w3=> ?_;have I3:=I2.same s3;have hV:b5 U H U H3:=λb o q nu=>⟨(s2.trans s3) b o q,nu⟩
  obtain⟨a,H4,rfl,dp,U4,I4,hZ⟩:=I3.dput (w2.same s3) hr hg w3 h4;exact⟨a,H4,rfl,dp,k H4 U4 I4 (hV.trans hZ)⟩
theorem Hf[P:SP K n td fp][Y:SV K n ty fy](I:aB K n H U σ hv Z τv τd)(w:Vw K H T1 x d)(pl:plain d=true)(h:mj fp fy d Z=some ρ')(k:∀H' U',aB K n H' U' σ hv ρ' τv τd->b5 U H U' H'->Q σ H'):qC td ty sO x σ H Q:=by
 obtain⟨U1,I1,bH⟩:=I.push (aP.refl H) (eX.plain w pl);exact He I1 h λH' U' I' hE=>k H' U' I' (bH.trans hE)
theorem Vw.wY(w:Vw K H T1 v d)(pl:VL.plain d=true)(st:gJ H H'):Vw K H' T1 v d:=((w.plain pl).frame (λ_ _ z=>z.elim) st).vw
def uH(fa:En->Option D)(fe:En->Option (D×En))(p1 p2:En->Option Pl)(y1 y2:En->Option D)(Z:En):Option Fl:=(fa Z).bind λa=>if plain a=true then(fe Z).bind λr=>(mj p1 y1 a r.2).bind λay=>(mj p2 y2 r.1 ay).map .nx else none
instance (priority:=3000) ajA{ta te d1 k1 d2 k2:TE}{fa:En->Option D}{fe:En->Option (D×En)}{p1 p2:En->Option Pl}{y1 y2:En->Option D}[A:SV K n ta fa][B':SM K n te fe][P1:SP K n d1 p1][Y1:SV K n k1 y1][P2:SP K n d2 p2][Y2:SV K n k2 y2]:
  SS K n (ny (rW (e9 ta (e9 te gU))) (vI K 2 (rP (qC d1 k1 sO) (rP (qC d2 k2 sO) yi)))) (uH fa fe p1 p2 y1 y2):=⟨λ{σ hv H U Z τv τd fl E} I h k=>by
 obtain⟨a,ha,h⟩:=af.mp h;by_cases pl:plain a=true
 ·rw[if_pos pl]at h;obtain⟨⟨e,ρ1⟩,he,h⟩:=af.mp h;obtain⟨ay,h1,h⟩:=af.mp h;obtain⟨uI,h2,h⟩:=bg.mp h;subst h;refine A.s I ha λx H1 s1 w1=>B'.s (I.same s1) he λy H2 U2 I2 cf=>⟨show 2<=aM by decide,λp hp=> ?_⟩
  have bH:b5 U H U H1:=λb o q nu=>⟨s1 b o q,nu⟩
  have s3:=gW hp (.tup [x,y]);have I3:=I2.same s3;have w3:Vw K (upd H2 p (.tup [x,y])) T1 x a:=(w1.wY pl (cf.g9 (I.same s1).ok.mu)).same s3;have iT:b5 U2 H2 U2 (upd H2 p (.tup [x,y])):=λb o q nu=>⟨s3 b o q,nu⟩
  refine⟨p, [x,y],rfl, .inl (.inl eJ),rfl,x, [y],rfl, ?_⟩;refine Hf I3 w3 pl h1 λH4 U4 I4 hZ=>⟨y, [],rfl, ?_⟩
  refine He I4 h2 λH5 U5 I5 oo=>⟨rfl, ?_⟩
  exact k σ H5 U5 I5 (bH.trans (cf.trans (iT.trans (hZ.trans oo))))
 ·rw[if_neg pl]at h;cases h⟩
def Pk(fa fb:En->Option D)(fe:En->Option (D×En))(p1 p2 p3:En->Option Pl)(y1 y2 y3:En->Option D)(Z:En):Option Fl:=(fa Z).bind λa=>(fb Z).bind λb=>if plain a=true/\plain b=true then(fe Z).bind λr=>(mj p1 y1 a r.2).bind λay=>(mj p2 y2 b ay).bind λuI=>(mj p3 y3 r.1 uI).map .nx else none
instance (priority:=3000) ajB{ta tb te d1 k1 d2 k2 d3 k3:TE}{fa fb:En->Option D}{fe:En->Option (D×En)}{p1 p2 p3:En->Option Pl}{y1 y2 y3:En->Option D}[A:SV K n ta fa][A2:SV K n tb fb][B':SM K n te fe][P1:SP K n d1 p1][Y1:SV K n k1 y1][P2:SP K n d2 p2][Y2:SV K n k2 y2][P3:SP K n d3 p3][Y3:SV K n k3 y3]:
  SS K n (ny (rW (e9 ta (e9 tb (e9 te gU)))) (vI K 3 (rP (qC d1 k1 sO) (rP (qC d2 k2 sO) (rP (qC d3 k3 sO) yi))))) (Pk fa fb fe p1 p2 p3 y1 y2 y3):=⟨λ{σ hv H U Z τv τd fl E} I h k=>by
 obtain⟨a,ha,h⟩:=af.mp h;obtain⟨b,hb,h⟩:=af.mp h;by_cases pl:plain a=true/\plain b=true
 ·rw[if_pos pl]at h;obtain⟨⟨e,ρ1⟩,he,h⟩:=af.mp h;obtain⟨ay,h1,h⟩:=af.mp h;obtain⟨uI,h2,h⟩:=af.mp h;obtain⟨ajC,h3,h⟩:=bg.mp h;subst h;refine A.s I ha λx H1 s1 w1=>A2.s (I.same s1) hb λz aaa CB aab=>B'.s ((I.same s1).same CB) he λy H2 U2 I2 cf=>⟨show 3<=aM by decide,λp hp=> ?_⟩
  have bH:b5 U H U aaa:=λb o q nu=>⟨(s1.trans CB) b o q,nu⟩
  have s3:=gW hp (.tup [x,z,y]);have I3:=I2.same s3;have Pm:=cf.g9 ((I.same s1).same CB).ok.mu;have w3:Vw K (upd H2 p (.tup [x,z,y])) T1 x a:=((w1.same CB).wY pl.1 Pm).same s3;have w4:Vw K (upd H2 p (.tup [x,z,y])) T1 z b:=(aab.wY pl.2 Pm).same s3;have iT:b5 U2 H2 U2 (upd H2 p (.tup [x,z,y])):=λb o q nu=>⟨s3 b o q,nu⟩
  refine⟨p, [x,z,y],rfl, .inl (.inl eJ),rfl,x, [z,y],rfl, ?_⟩;refine Hf I3 w3 pl.1 h1 λH4 U4 I4 hZ=>⟨z, [y],rfl, ?_⟩
  refine Hf I4 (w4.wY pl.2 (hZ.g9 I3.ok.mu)) pl.2 h2 λH5 U5 I5 oo=>⟨y, [],rfl, ?_⟩
  refine He I5 h3 λH6 U6 I6 aac=>⟨rfl, ?_⟩
  exact k σ H6 U6 I6 (bH.trans (cf.trans (iT.trans (hZ.trans (oo.trans aac)))))
 ·rw[if_neg pl]at h;cases h⟩
end
section
theorem Inv.CD(I:L2.Inv X aa σ H s)(e:H a=some (.dK ah)):∃o,L2.Inv X aa σ (upd H a (.cD o (.dK ah))) s/\∀o' u,X.rJ a≠some (.cD o' u):=by
 obtain⟨z,hd,vs,dX,o,es,ep,ho,rest⟩:=E6 I.ba e;have nf:∀o' u,X.rJ a≠some (.cD o' u):=λo' u q=>by
  have:=I.base.mC a o' u q;rw[e]at this;cases this
 refine⟨o, ?_,nf⟩;have ne:∀{b:Addr} {u:HO},H b=some u->(∀ys,u≠ .dK ys)->b≠a:=λ{b u} hb hu z=>by
  subst z;rw[e]at hb;cases hb;exact hu _ rfl
 have step:=I.step (h':=s.heap) (H':=upd H a (.cD o (.dK ah))) (g':=s.gens) (t':=s.toks) (d':=s.drawn) (ch:= []) (λ_ z=>nomatch z)
  (λb o _ _ _ h _=>h) (λb o _ _ _ h _=>⟨o.slots,h⟩) (λb o _ _ hn=>by rw[bA λz=>by rw[z,e]at hn;cases hn];exact hn) (λb o _ h=>⟨o,h⟩)
  (λb ys h=>by rw[bA (ne h λ_ z=>nomatch z)];exact h) (λb o u h=>by rw[bA (ne h λ_ z=>nomatch z)];exact h) (λb ps h=>⟨#[],by rw[bA (ne h λ_ z=>nomatch z),ag9];exact h⟩) (λm h=>h)
  (λb u hb=>by
   by_cases c:b=a
   ·subst c;rw[eJ]at hb;cases hb;exact⟨ho,z,hd,vs,dX,o,es,ep,ho,rest⟩
   ·rw[bA c]at hb;exact(I.ba b u hb).g9 (λ_ _ _ h=>h) (λd h=>by rw[bA (ne h λ_ z=>nomatch z)];exact h) λd ys h=>by rw[bA (ne h λ_ z=>nomatch z)];exact h) I.bare
 exact step
theorem Inv.qh(I:L2.Inv X aa σ H s)(e:H a=some (.cD o (.dK ah)))(nf:∀o' u,X.rJ a≠some (.cD o' u)):L2.Inv X aa σ (upd H a (.dK ah)) s:=by
 have ne:∀{b:Addr} {u:HO},H b=some u->(∀o ys,u≠ .cD o ys)->b≠a:=λ{b u} hb hu z=>by
  subst z;rw[e]at hb;cases hb;exact hu _ _ rfl
 have nn:∀{b:Addr},H b=none->b≠a:=λ{b} hb z=>by subst z;rw[e]at hb;cases hb
 refine⟨I.ok,I.os,I.bare,⟨I.base.keep,I.base.slot,λb ob q n hx=> ?_,I.base.there,λb xs q=> ?_,λb ob u q=> ?_,λb ps q=> ?_⟩,I.loc,I.cell, ?_,λx c q=> ?_,λp hp=> ?_,λb u hb=> ?_,I.len⟩
 ·have:=I.base.free b ob q n hx;rw[bA (nn this)];exact this
 ·have:=I.base.pH b xs q;rw[bA (ne this λ_ _ z=>nomatch z)];exact this
 ·have h:=I.base.mC b ob u q;rw[bA λz=>nf ob u (by rw[<- z];exact q)];exact h
 ·obtain⟨more,h⟩:=I.base.pJ b ps q;exact⟨more,by rw[bA (ne h λ_ _ z=>nomatch z)];exact h⟩
 ·rw[bA (nn I.free)];exact I.free
 ·have:=I.nr x c q;rw[bA (nn this)];exact this
 ·obtain⟨h1,h2,h3⟩:=I.pin p hp;exact⟨h1,by rw[bA (nn h2)];exact h2,h3⟩
 ·by_cases c:b=a
  ·subst c;rw[eJ]at hb;cases hb;exact(I.ba b _ e).2
  ·rw[bA c]at hb;exact(I.ba b u hb).g9 (λ_ _ _ h=>h) (λd h=>by rw[bA (ne h λ_ _ z=>nomatch z)];exact h) λd ys h=>by rw[bA (ne h λ_ _ z=>nomatch z)];exact h
end
def Hg(a:Addr)(o:Obj)(ah:List (bw×V)):It:=⟨λi H=>H a=some (.cD o (.dK ah))/\i < ah.length,λi H x H'=>H'=H/\∃p,ah[i]?=some p/\x=kV p.1,λi H=>H a=some (.cD o (.dK ah))/\ah.length<=i⟩
def Hh(a:Addr)(o:Obj)(ah:List (bw×V)):It:=⟨λi H=>H a=some (.cD o (.dK ah))/\i < ah.length,λi H x H'=>H'=H/\∃p,ah[i]?=some p/\x=p.2,λi H=>H a=some (.cD o (.dK ah))/\ah.length<=i⟩
theorem CF{X:Cx}{aa:List (Addr×Obj)}{σ:L2.St}{H:Hp}{s:Shared}{a:Addr}{ah:List (bw×V)}(I:L2.Inv X aa σ H s)(e:H a=some (.cD o (.dK ah)))(he:∃es,o.data= .dict es ep):∃vs,KV ah vs/\s.heap.DictAt (jf X.prog X.w) a vs ep:=by
 obtain⟨hg,z,hd,vs,dX,o',A9,Ba,jQ,ex,sP,rest⟩:=(show fY X.prog X.w H s.heap a (.cD o (.dK ah)) from I.ba a _ e)
 rw[hg]at jQ;cases jQ;obtain⟨es,he⟩:=he;rw[sP]at he;cases he;exact⟨vs,dX,o,_,hg,ex,sP,rest⟩
theorem aad{P:Program}{w:World}{K:aj}{tg:Expr}(a it:Addr)(o:Obj)(ah:List (bw×V))(ep:Nat)(he:∃es,o.data= .dict es ep):Turn P w K tg (Hg a o ah) [it] it (λi h=>h.IsKeyIter it a i ah.length ep) where
 mem:=by simp
 obj:=λi h st b hb=>by
  have e:b=it:=by simpa using hb
  subst e;obtain⟨o,e,c,d⟩:=st;exact⟨o,e,λv z=>by rw[d]at z;cases z⟩
 keep:=λi h h' st k=>st.at λo e=>k it (by simp) o e
 item:=by
  intro X hP hw hK hc i aa s σ H E I hf st hg;subst hP hw hK;obtain⟨hq,hx⟩:=hg;obtain⟨vs,dX,da⟩:=CF I hq he;have hl:ah.length=vs.length:=dX.length;rw[hl]at st;obtain⟨f0,f1,f2,f3,f4,f5⟩:=hf it (by simp);have hv:=gn (show i < vs.length by lia);have hk:=gn hx;have pr:=BH dX hk hv;refine wpAny_pyNext_dict_item st da (k:=vs[i].1) (v:=vs[i].2) hv λkey h' Ey hE sb=> ?_;have I1:L2.Inv X aa σ H { s with heap:=h' }:=I.turned (t':=s.toks) (λb o hb e=>(sb.2 b hb).trans e) f0 f1 f3 f4 f5;obtain⟨o,e,c,d⟩:=id hE;have rk:RelV (kV ah[i].1) key:=by
   rw[pr.1];rcases pG Ey with⟨j,t,e1,e2⟩ | ⟨x,t,e1,e2⟩
   ·rw[e1,e2];exact⟨t,rfl⟩
   ·rw[e1,e2];exact⟨t,rfl⟩
  rw[<- hl]at hE;exact⟨key,rfl,vK (s:= { s with heap:=h' }) e c d (by decide) ⟨_,H,I1,rk,⟨rfl,_,hk,rfl⟩,hE,λb hb=>(hf b hb).1⟩⟩
 done:=by
  intro X hP hw hK hc i aa s σ H E I hf st hg;subst hP hw hK;obtain⟨hq,hx⟩:=hg;obtain⟨vs,dX,da⟩:=CF I hq he;have hl:ah.length=vs.length:=dX.length;rw[hl]at st;obtain⟨f0,f1,f2,f3,f4,f5⟩:=hf it (by simp);exact wpAny_pyNext_dict_end (I.ok.hd hc) st da (tK (by lia)) λh' eb=>⟨rfl,I.turned (t':=s.toks) (λb o hb e=>eb b o hb e) f0 f1 f3 f4 f5⟩
 self:=λ_ _ _ _ _ st h=>wpAny_pyIter_keyiter st h
theorem aae{P:Program}{w:World}{K:aj}{tg:Expr}(a it:Addr)(o:Obj)(ah:List (bw×V))(ep:Nat)(he:∃es,o.data= .dict es ep):Turn P w K tg (Hh a o ah) [it] it (λi h=>h.IsValIter it a i ah.length ep) where
 mem:=by simp
 obj:=λi h st b hb=>by
  have e:b=it:=by simpa using hb
  subst e;obtain⟨o,e,c,d⟩:=st;exact⟨o,e,λv z=>by rw[d]at z;cases z⟩
 keep:=λi h h' st k=>st.at λo e=>k it (by simp) o e
 item:=by
  intro X hP hw hK hc i aa s σ H E I hf st hg;subst hP hw hK;obtain⟨hq,hx⟩:=hg;obtain⟨vs,dX,da⟩:=CF I hq he;have hl:ah.length=vs.length:=dX.length;rw[hl]at st;obtain⟨f0,f1,f2,f3,f4,f5⟩:=hf it (by simp);have hv:=gn (show i < vs.length by lia);have hk:=gn hx;have pr:=BH dX hk hv;refine wpAny_pyNext_values_item st da (k:=vs[i].1) (v:=vs[i].2) hv λh' hE sb=> ?_;have I1:L2.Inv X aa σ H { s with heap:=h' }:=I.turned (t':=s.toks) (λb o hb e=>(sb.2 b hb).trans e) f0 f1 f3 f4 f5;obtain⟨o,e,c,d⟩:=id hE;rw[<- hl]at hE;exact⟨_,rfl,vK (s:= { s with heap:=h' }) e c d (by decide) ⟨_,H,I1,pr.2,⟨rfl,_,hk,rfl⟩,hE,λb hb=>(hf b hb).1⟩⟩
 done:=by
  intro X hP hw hK hc i aa s σ H E I hf st hg;subst hP hw hK;obtain⟨hq,hx⟩:=hg;obtain⟨vs,dX,da⟩:=CF I hq he;have hl:ah.length=vs.length:=dX.length;rw[hl]at st;obtain⟨f0,f1,f2,f3,f4,f5⟩:=hf it (by simp);exact wpAny_pyNext_values_end (I.ok.hd hc) st da (tK (by lia)) λh' eb=>⟨rfl,I.turned (t':=s.toks) (λb o hb e=>eb b o hb e) f0 f1 f3 f4 f5⟩
 self:=λ_ _ _ _ _ st h=>wpAny_pyIter_valiter st h
section
def Pn(td:TE):TI:=λσ H R=>td σ H λx H1=>∃a ah,x= .ref a/\H1 a=some (.dK ah)/\∀o,R (Hg a o ah) (upd H1 a (.cD o (.dK ah)))
theorem aaf{l:Expr}{td:TE}(hl:PE X l td):PI X tg l (Pn td):=by
 intro aa s σ H R I h;refine bP (hl aa s σ H _ I h) λv s1 ⟨x,H1,I1,r1,q1⟩=> ?_;obtain⟨a,ah,rfl,ha,q⟩:=q1;cases r1;obtain⟨o,I2,_⟩:=VL.Inv.CD I1 ha;obtain⟨hg,z,hd,vs,dX,o',es,ep,jQ,ex,sP,rest⟩:=(show fY X.prog X.w _ s1.heap a (.cD o (.dK ah)) from I2.ba a _ eJ)
 rw[hg]at jQ;cases jQ;have da:s1.heap.DictAt (jf X.prog X.w) a vs ep:=⟨o,es,hg,ex,sP,rest⟩
 have cU:ah.length=vs.length:=dX.length;refine wpAny_pyIter_dict hd da ?_;refine⟨s1.heap.objs.size, [s1.heap.objs.size],_,_,upd H1 a (.cD o (.dK ah)),rfl,I2.kept (t':=s1.toks) λb o e=>gB _ e,aad a _ o ah ep ⟨es,sP⟩,⟨_,jz _ rfl,rfl,by rw[cU];rfl⟩,λb hb=> ?_,q o⟩;have e:b=s1.heap.objs.size:=by simpa using hb
 subst e;exact I2.rQ (bX _) (I2.ba.fresh (bX _))
def Po(td:TE):TI:=λσ H R=>Gr td σ H λx H1=>∃v a ah,x= .ref v/\H1 v=some (sG v a)/\H1 a=some (.dK ah)/\∀o,R (Hh a o ah) (upd H1 a (.cD o (.dK ah)))
theorem aag{l:Expr}{td:TE}{iB jo:Pos}(hl:PE X l td)(tY:qo l "values" X.env (eval l X.env)=eval l X.env:=by rfl)(tZ:(iB.endLine == jo.line)=true:=by rfl):PI X tg (.Call (.Attribute l "values" iB) [] [] jo) (Po td):=by
 intro aa s σ H R I h;refine bP (ON hl tY tZ aa s σ H _ I h) λv s1 ⟨x,H1,I1,r1,q1⟩=> ?_;obtain⟨vw,a,ah,rfl,uw,ha,q⟩:=q1;cases r1;have aah:s1.heap.IsValuesView vw a:=(I1.ba vw _ uw).1;obtain⟨o,I2,_⟩:=VL.Inv.CD I1 ha;obtain⟨hg,z,hd,vs,dX,o',es,ep,jQ,ex,sP,rest⟩:=(show fY X.prog X.w _ s1.heap a (.cD o (.dK ah)) from I2.ba a _ eJ)
 rw[hg]at jQ;cases jQ;have da:s1.heap.DictAt (jf X.prog X.w) a vs ep:=⟨o,es,hg,ex,sP,rest⟩
 have cU:ah.length=vs.length:=dX.length;refine wpAny_pyIter_values aah da ?_;refine⟨s1.heap.objs.size, [s1.heap.objs.size],_,_,upd H1 a (.cD o (.dK ah)),rfl,I2.kept (t':=s1.toks) λb o e=>gB _ e,aae a _ o ah ep ⟨es,sP⟩,⟨_,jz _ rfl,rfl,by rw[cU];rfl⟩,λb hb=> ?_,q o⟩;have e:b=s1.heap.objs.size:=by simpa using hb
 subst e;exact I2.rQ (bX _) (I2.ba.fresh (bX _))
def Pp(t:TE):TE:=λσ H Q=>t σ H λv H'=>(∃a o ah,(∀o' u,H a≠some (.cD o' u))/\H' a=some (.cD o (.dK ah))/\Q v (upd H' a (.dK ah)))\/Q v H'
def Hi(t:TS):TS:=λE σ H=>t { E with nx:=λaN H'=>(∃a o ah,(∀o' u,H a≠some (.cD o' u))/\H' a=some (.cD o (.dK ah))/\E.nx aN (upd H' a (.dK ah)))\/E.nx aN H' } σ H
theorem Pq{st:Stmt}{t:TS}(hs:PS X st t):PS X st (Hi t):=by
 intro aa s σ H D I h;refine bP (hs aa s σ H _ I h) λf s' q=> ?_;cases f with
 |next=>
  obtain⟨aN,H',I',q⟩:=q;rcases q with⟨a,o,ah,nf,e,q⟩ | q
  ·exact⟨_,_,VL.Inv.qh I' e (λo' u z=>nf o' u (I.base.mC a o' u z)),q⟩
  ·exact⟨_,_,I',q⟩
 |brk=>exact q
 |cont=>exact q
 |ret u=>exact q
variable {K:aj}{H H':Hp}{F N U:Addr->Prop}{a:Addr}{o:Obj}{ah:List (bw×V)}{m:Nat}{e:List (Option V)}{Z:En}
theorem jb.upd(z:b≠a)(h:jb K H b k vs):jb K (upd H a u) b k vs:=by
 obtain⟨h1,h⟩:=h;refine⟨h1, ?_⟩;cases k with
 |tup=>exact(bA z).trans h
 |eT=>exact h.elim (λ⟨o,e⟩=> .inl ⟨o,(bA z).trans e⟩) .inr
 |lst=>exact(bA z).trans h
 |az ks=>exact h.elim (λe=> .inl ((bA z).trans e)) λ⟨o,e⟩=> .inr ⟨o,(bA z).trans e⟩
 |mN ks=>exact h.elim (λe=> .inl ((bA z).trans e)) λ⟨o,e⟩=> .inr ⟨o,(bA z).trans e⟩
 |obj C ns=>obtain⟨dx,e⟩:=h;exact⟨dx,(bA z).trans e⟩
theorem Vw.ir(h:Vw K H N v d)(ha:H a=some (.dK ah)):Vw K (L2.upd H a (.cD o (.dK ah))) N v d:=by
 induction h with
 |sc=>exact .sc _
 |hl=>exact .hl _
 | @nd b k vs cs h1 h2 h3 _ ih=>
  refine .nd h1 ?_ h3 ih;by_cases z:b=a
  ·subst z;obtain⟨hf,hc⟩:=h2;refine⟨hf, ?_⟩;cases k with
   |tup=>have hc:H b=some (.tup vs):=hc;rw[ha]at hc;cases hc
   |eT=>
    rcases hc with⟨o,e⟩ | e
    ·rw[ha]at e;cases e
    ·exact .inr e
   |lst=>have hc:H b=some (.lst vs):=hc;rw[ha]at hc;cases hc
   |az ks=>
    rcases hc with e | ⟨o',e⟩
    ·rw[ha]at e;cases e;exact .inr ⟨o,eJ⟩
    ·rw[ha]at e;cases e
   |mN ks=>
    rcases hc with e | ⟨o',e⟩
    ·rw[ha]at e;cases e
    ·rw[ha]at e;cases e
   |obj C ns=>obtain⟨dx,e⟩:=hc;rw[ha]at e;cases e
  ·exact h2.upd z
theorem bj.qh(h:bj K H F v d)(ha:H a=some (.cD o (.dK ah)))(na:¬ F a):bj K (L2.upd H a (.dK ah)) F v d:=by
 induction h with
 |sc=>exact .sc _ _
 |hl=>exact .hl _ _
 | @nd F b k vs cs Fs h1 h2 h3 h4 _ ih=>
  refine .nd Fs ?_ h2 h3 h4 λi v d hv hd=>ih i v d hv hd λz=>na (h4 i a z).1;cases k with
  |tup=>
   have h1:H b=some (.tup vs):=h1;exact(bA λz=>by rw[z,ha]at h1;cases h1).trans h1
  |eT=>
   refine⟨h1.1,h1.2.elim (λ⟨o',e⟩=> .inl ⟨o',(bA λz=>by rw[z,ha]at e;cases e).trans e⟩) .inr⟩
  |_=>obtain⟨f1,f2,f3,dx,e⟩:=h1;exact⟨f1,f2,f3,dx,(bA λz=>na (by rw[<- z];exact f1)).trans e⟩
theorem hU.upd(ha:H a=some u)(hk:kids u'=kids u)(h:hU H v p w):hU (L2.upd H a u') v p w:=by
 induction h with
 |nil v=>exact .nil v
 | @cons b ob n c w p e1 e2 _ ih=>
  by_cases z:b=a
  ·subst z;rw[ha]at e1;cases e1;exact .cons eJ (by rw[hk];exact e2) ih
  ·exact .cons (by rw[bA z];exact e1) e2 ih
theorem cL.CD(h:cL K H U m e Z)(hj:Z[j]?=some (some (.own (.nd (.az ks) cs)))):
  ∃a vs,e[j]?=some (some (.ref a))/\H a=some (.dK (ks.zip vs))/\ks.length=vs.length/\dB K H T1 vs cs/\U a/\∀o,cL K (L2.upd H a (.cD o (.dK (ks.zip vs)))) (λb=>U b/\b≠a) m e (Z.set j (some (.own (.sc (.ref a))))):=by
 obtain⟨hl,mu,Fs,dj,sub,sl⟩:=h;obtain⟨v,ev,sv⟩:=sl j _ hj;have sN:j < Z.length:=(bW.mp hj).1;have sv:bj K H (Fs j) v (.nd (.az ks) cs):=sv;have vw:=sv.vw;cases sv with
 | @nd _ a _ vs _ Z0 hold cU Z1 Z2 dq=>
  obtain⟨Fa,_,hf,dx,ha⟩:=hold;have ha:H a=some (.dK (ks.zip vs)):=ha;refine⟨a,vs,ev,ha,hf,⟨cU,λi v d hv hd=>(dq i v d hv hd).vw⟩,sub j a Fa,λo=> ?_⟩;have st:gJ H (L2.upd H a (.cD o (.dK (ks.zip vs)))):=wm (by rw[ha];trivial);refine⟨by rw[cB];exact hl,λb hb=>by rw[bA hb.2];exact mu b hb.1,λi b=>Fs i b/\b≠a,λi k b hi hk=>dj i k b hi.1 hk.1,λi b hb=>⟨sub i b hb.1,hb.2⟩,λi β aL=> ?_⟩;by_cases c:j=i
  ·subst c;rw[eY sN]at aL;cases aL;exact⟨_,ev, .sc _ _⟩
  ·rw[gm c]at aL;obtain⟨w,ew,sw⟩:=sl i β aL;refine⟨w,ew, ?_⟩;have na:∀b,Fs i b->b≠a:=λb z y=>c (dj j i a Fa (by rw[<- y];exact z));cases β with
   |own d=>
    have sw:bj K H (Fs i) w d:=sw;exact(sw.frame (λb ob z q=>by rw[bA (na b z)];exact q) st).mono λb z=>⟨z,na b z⟩
   |ro d=>
    have sw:Vw K H (λb=>¬ U b) w d:=sw;exact(sw.frame (λb ob z q=>by rw[bA λy=>z (by rw[y];exact sub j a Fa)];exact q) st).mono λb z y=>z y.1
   |ak r q=>
    obtain⟨x,vr,er,hp⟩:=sw;exact⟨x,vr,er,hp.upd ha (show kids (.cD o (.dK (ks.zip vs)))=_ from rfl)⟩
def nQ(Z:En):En:=Z.map λ
 |some (.ro d)=>if plain d=true then some (.ro d) else none
 |x=>x
theorem CG:(nQ Z).length=Z.length:=eS _
theorem aai{i:Nat}{β:B}(h:(nQ Z)[i]?=some (some β)):Z[i]?=some (some β)/\∀d,β= .ro d->plain d=true:=by
 unfold nQ at h;rw[dF]at h;cases q:Z[i]? with
 |none=>rw[q]at h;cases h
 |some x=>
  rw[q]at h;cases x with
  |none=>cases h
  |some γ=>
   cases γ with
   |ro d=>
    have h:some (if plain d=true then some (B.ro d) else none)=some (some β):=h;by_cases c:plain d=true
    ·rw[if_pos c]at h;cases h;exact⟨rfl,λd' z=>by cases z;exact c⟩
    ·rw[if_neg c]at h;cases h
   |own d=>cases h;exact⟨rfl,λ_ z=>nomatch z⟩
   |ak r p=>cases h;exact⟨rfl,λ_ z=>nomatch z⟩
theorem aaj{τd:List D}:nQ (Z++τd.map λd=>some (.own d))=nQ Z++τd.map λd=>some (.own d):=by
 unfold nQ;rw[cK,qw];rfl
theorem cL.qh{ks:List bw}{vs:List V}{cs:List D}(h:cL K H U m e Z)(hm:m<=e.length)(ha:H a=some (.cD o (.dK (ks.zip vs))))(hf:ks.length=vs.length)(pl:aK cs=true)(dq:dB K H T1 vs cs):
  cL K (L2.upd H a (.dK (ks.zip vs))) (λb=>U b\/b=a) m (e++ [some (.ref a)]) (nQ Z++ [some (.own (.nd (.az ks) cs))]):=by
 obtain⟨hl,mu,Fs,dj,sub,sl⟩:=h;have na:¬ U a:=λz=>by have:=mu a z;rw[ha]at this;exact this
 have nf:∀i,¬ Fs i a:=λi z=>na (sub i a z);refine⟨by rw[cc,cc,CG,hl];rfl,λb hb=> ?_,λi b=>(i≠e.length/\Fs i b)\/(i=e.length/\b=a),λi j b hi hj=> ?_,λi b hb=> ?_,λi β aL=> ?_⟩
 ·by_cases c:b=a
  ·subst c;rw[eJ];trivial
  ·rw[bA c];exact mu b (hb.resolve_right c)
 ·rcases hi with⟨_,h1⟩ | ⟨h1,ui⟩ <;> rcases hj with⟨_,h2⟩ | ⟨h2,lD⟩
  ·exact dj i j b h1 h2
  ·subst lD;exact absurd h1 (nf i)
  ·subst ui;exact absurd h2 (nf j)
  ·lia
 ·rcases hb with⟨_,h1⟩ | ⟨_,h1⟩
  ·exact .inl (sub i b h1)
  ·exact .inr h1
 ·rcases slot_of (by rw[CG];exact hl) aL with⟨hi,q⟩ | ⟨hi,q⟩
  ·obtain⟨q,pr⟩:=aai q;obtain⟨w,ew,sw⟩:=sl i β q;refine⟨w,by rw[br hi];exact ew, ?_⟩;cases β with
   |own d=>
    have sw:bj K H (Fs i) w d:=sw;exact(sw.qh ha (nf i)).mono λb z=> .inl ⟨by lia,z⟩
   |ro d=>
    have sw:Vw K H (λb=>¬ U b) w d:=sw;exact((sw.plain (pr d rfl)).qh ha λz=>z).view λ_ z=>z.elim
   |ak r p=>
    obtain⟨x,vr,er,hp⟩:=sw;exact⟨x,vr,by rw[br (by lia)];exact er,hp.upd ha (show kids (.dK (ks.zip vs))=kids (.cD o (.dK (ks.zip vs))) from rfl)⟩
  ·have:i - e.length=0:=by
    have:=(bW.mp q).1;simp at this;lia
   rw[this]at q;cases q;have ei:i=e.length:=by lia
   subst ei;refine⟨_,by rw[bK (bX _),lN];rfl, ?_⟩;refine .nd (λ_ _=>False) ⟨.inr ⟨rfl,rfl⟩,rfl,hf,a,eJ⟩ dq.1 (λ_ _ _ z=>z.elim) (λ_ _ z=>z.elim) λi v d hv hd=> ?_;exact((dq.2 i v d hv hd).plain (oK pl hd)).qh ha λz=>z
end
section
variable {K:aj}{n:Nat}{H H' H1 H2:Hp}{U U':Addr->Prop}{σ hv:List (Option V)}{Z ρ':En}{τv vs:List V}{τd ds:List D}{v y:V}{d:D}{E:lK}{a:Addr}{o:Obj}
theorem aB.qh{vs:List V}(I:aB K n H U σ hv Z τv τd)(ha:H a=some (.cD o (.dK (ks.zip vs))))(hf:ks.length=vs.length)(pl:aK cs=true)(dq:dB K H T1 vs cs):
  aB K n (upd H a (.dK (ks.zip vs))) (λb=>U b\/b=a) σ hv (nQ Z) (τv++ [.ref a]) (τd++ [.nd (.az ks) cs]):=by
 have l:=I.len;have tl:=I.tl;refine⟨?_,by rw[CG];exact l,I.nn⟩;have k:=cL.qh I.ok (by simp;lia) ha hf pl dq;rw[aaj]at k;rw[CG,cK,cK, <- dI, <- dI];exact k
theorem aB.Hj(I:aB K n H U σ hv Z τv τd)(w:ik K H U (σ++hv) Z v (.rt r p))(hr:ai Z r=some d0)(hg:ag d0 p=some (.nd (.az ks) cs)):
  ∃a vs,v= .ref a/\H a=some (.dK (ks.zip vs))/\ks.length=vs.length/\dB K H T1 vs cs/\U a/\∀o,aB K n (upd H a (.cD o (.dK (ks.zip vs)))) (λb=>U b/\b≠a) σ hv (Z.set r (some (.own (aG d0 p (.hl v))))) τv τd:=by
 have I1:=I.lend w hr hg;have tl:=I.tl;have l1:=I1.len;have hj:((Z.set r (some (.own (aG d0 p (.hl v)))))++(τd++ [D.nd (.az ks) cs]).map λd=>some (B.own d))[(Z.set r (some (.own (aG d0 p (.hl v))))).length + τd.length]?=some (some (.own (.nd (.az ks) cs))):=by
  rw[bK (by lia)];simp
 obtain⟨a,vs,ev,ha,hf,dq,ua,ok⟩:=cL.CD I1.ok hj;have dz:v= .ref a:=by
  rw[bK (by simp at l1 |-;lia)]at ev;simp only[cK,eI,iZ,cc]at ev;rw[show(Z.set r (some (.own (aG d0 p (.hl v))))).length + τd.length - (σ.length + hv.length)=(τv.map some).length by rw[eS];lia,bK (bX _)]at ev;simpa using ev
 refine⟨a,vs,dz,ha,hf,dq,ua,λo=> ?_⟩;have I2:aB K n (upd H a (.cD o (.dK (ks.zip vs)))) (λb=>U b/\b≠a) σ hv (Z.set r (some (.own (aG d0 p (.hl v))))) (τv++ [v]) (τd++ [.sc (.ref a)]):=by
  refine⟨?_,l1,I.nn⟩;have:=ok o;generalize Z.set r (some (.own (aG d0 p (.hl v))))=Hk at this |-;rw[show(Hk++(τd++ [D.nd (.az ks) cs]).map λd=>some (B.own d)).set (Hk.length + τd.length) (some (.own (.sc (.ref a))))=Hk++(τd++ [D.sc (.ref a)]).map λd=>some (B.own d) by
   rw[LU _ _ (by lia),cK,cK,LU _ _ (by simp)];simp]at this
  exact this
 exact I2.uf
theorem aak{ds:List D}(wk:yQ K J ds P):yR K n (λσ H R=>(∀U,P H U)->R J H) (λ_=>some ds):=⟨λ{σ hv H U Z τv τd ds R} I h k=>by
 cases h;exact λp=>k J P H (aP.refl H) wk (p U)⟩
theorem Pr{α β:Type}{xs:List α}{ys:List β}{i:Nat}{x:α×β}(h:(xs.zip ys)[i]?=some x):xs[i]?=some x.1/\ys[i]?=some x.2:=by
 rw[List.getElem?_zip_eq_some]at h;exact h
theorem aal{ks:List bw}{vs:List V}{cs:List D}(hf:ks.length=vs.length)(pl:aK cs=true):yQ K (Hh a o (ks.zip vs)) cs λH _=>H a=some (.cD o (.dK (ks.zip vs)))/\dB K H T1 vs cs:=by
 refine⟨λ{H H' U U'} ⟨x1,x2⟩ st mu=> ?_,λ{H U} ⟨x1,x2⟩=>⟨x1, ?_⟩,λ{H U i d} ⟨x1,x2⟩ hd=> ?_⟩
 ·have sy:=st.g9 mu;exact⟨sy a _ (λz=>z) x1,x2.1,λi v d hv hd=>(x2.2 i v d hv hd).wY (oK pl hd) sy⟩
 ·rw[pE, <- x2.1];lia
 ·have hi:i < vs.length:=by rw[x2.1];exact(bW.mp hd).1
  refine⟨⟨x1,by rw[pE];lia⟩,λx H2 ⟨e,p,hp,hx⟩=>⟨e, ?_⟩⟩;subst hx;exact((x2.2 i _ d (Pr hp).2 hd).plain (oK pl hd)).view λ_ z=>z.elim
def Ab(fg:D->En->Option En)(fb:En->Option Fl)(Z:En)(r:Nat)(p:List Nat)(d0:D)(ks:List bw)(cs:List D)(ay:En):Prop:=∀v,∃ρ1 d1,iC fg fb cs (Z.set r (some (.own (aG d0 p (.hl v)))))=some (.nx ρ1)/\ai (nQ ρ1) r=some d1/\ag d1 p=some (.hl v)/\ay=(nQ ρ1).set r (some (.own (aG d1 p (.nd (.az ks) cs))))
open Classical in
noncomputable def uJ (fg:D->En->Option En) (fb:En->Option Fl) (Z:En) (r:Nat) (p:List Nat) (d0:D) (ks:List bw) (cs:List D):Option En:=if h:∃ay,Ab fg fb Z r p d0 ks cs ay then some h.choose else none
theorem aam(h:uJ fg fb Z r p d0 ks cs=some ay):Ab fg fb Z r p d0 ks cs ay:=by
 unfold uJ at h
 split at h
 ·next hx=>cases h;exact hx.choose_spec
 ·cases h
theorem aan(h:Ab fg fb Z r p d0 ks cs ay):uJ fg fb Z r p d0 ks cs=some ay:=by
 have hx:∃ay,Ab fg fb Z r p d0 ks cs ay:=⟨ay,h⟩
 unfold uJ;rw[dif_pos hx];obtain⟨ρ1,d1,a1,a2,a3,a4⟩:=hx.choose_spec .aE;obtain⟨ajD,qQ,b1,b2,b3,b4⟩:=h .aE;rw[a1]at b1;cases b1;rw[a2]at b2;cases b2;rw[a4,b4]
def Ac(fp:En->Option Pl)(fg:D->En->Option En)(fb:En->Option Fl)(Z:En):Option Fl:=(fp Z).bind λ
 |.rt r p=>(cq Z r p).bind λz=>match z.2.1 with
  |.az ks=>if aK z.2.2=true then(uJ fg fb Z r p z.1 ks z.2.2).map .nx else none
  |_=>none
 |.ro _=>none
instance (priority:=3000) ajE{td:TE}{g:TG}{tb:TS}{fp:En->Option Pl}{fg:D->En->Option En}{is:List Nat}{fb:En->Option Fl}[P:SP K n td fp][G:SG K n g fg is][B':SS K n tb fb]:SS K n (Hi (yj (Po td) g tb)) (Ac fp fg fb):=⟨λ{σ hv H U Z τv τd fl E} I h k=>by
 unfold Ac at h;obtain⟨q,h1,h⟩:=af.mp h;cases q with
 |ro d=>cases h
 |rt r p=>
  obtain⟨⟨d0,kk,cs⟩,h3,h⟩:=af.mp h;obtain⟨hr,hg⟩:=qU h3;cases kk with
  |az ks=>
   have h:(if aK cs=true then(uJ fg fb Z r p d0 ks cs).map Fl.nx else none)=some fl:=h;by_cases pl:aK cs=true
   ·rw[if_pos pl]at h;obtain⟨ay,hx,h⟩:=bg.mp h
    ·cases h;have hx:=aam hx;refine P.s I h1 λv H1 s1 w1=> ?_;have I1:=I.same s1;obtain⟨ρ1,d1,a1,a2,a3,a4⟩:=hx v;have bH:b5 U H U H1:=λb o q nu=>⟨s1 b o q,nu⟩
     obtain⟨a,vs,rfl,ha,hf,dq,ua,_⟩:=I1.Hj w1 hr hg;refine⟨a,_,rfl, .inl ha,λu hu=>⟨u,a,ks.zip vs,rfl,eJ, ?_,λo=> ?_⟩⟩
     ·rw[bA λz=>by rw[z,hu]at ha;cases ha];exact ha
     ·have s2:=gW hu (sG u a);have I2:=I1.same s2;obtain⟨a',dU,e',Cc,wo,Pt,ajF,BR⟩:=I2.Hj (w1.same s2) hr hg;cases e';have I3:=BR o;have e2:ks.zip dU=ks.zip vs:=by
       have:=s2 a _ ha;rw[Cc]at this;exact HO.dK.inj (jI this)
      rw[<- e2];have Hl:dB K (upd (upd H1 u (sG u a)) a (.cD o (.dK (ks.zip dU)))) T1 dU cs:=⟨Pt.1,λi v d hv hd=>(Pt.2 i v d hv hd).ir Cc⟩
      refine(OD (A:=aak (n:=n) (aal (K:=K) (a:=a) (o:=o) wo pl)) (G:=G) (B':=B')).s I3 (fl:= .nx ρ1) a1 ?_ λU=>⟨eJ,Hl⟩
      intro aao H4 U4 I4 hZ
      left;have f4:H4 a=some (.cD o (.dK (ks.zip dU))):=(hZ a _ eJ λz=>z.2 rfl).1;have aap:=hZ.g9 I3.ok.mu;refine⟨a,o,ks.zip dU,λo' u' z=> ?_,f4, ?_⟩
      ·have:=I.ok.mu a ua;rw[z]at this;exact this
      ·have I5:=I4.qh f4 wo pl ⟨Hl.1,λi v d hv hd=>(Hl.2 i v d hv hd).wY (oK pl hd) aap⟩;have I6:=I5.back a2 a3;rw[<- a4]at I6;refine k aao _ _ I6 (bH.trans λb ob hb nu=> ?_);have Hm:b≠a:=λz=>nu (by rw[z];exact ua);have:=hZ b ob (by rw[bA Hm];exact s2 b ob hb) λz=>nu z.1;exact⟨by rw[bA Hm];exact this.1,λz=>z.elim this.2 Hm⟩
   ·rw[if_neg pl]at h;cases h
  |_=>cases h⟩
end
section
variable {K:aj}{n:Nat}{H H' H1 H2:Hp}{U U':Addr->Prop}{σ hv:List (Option V)}{Z ρ':En}{τv vs:List V}{τd ds:List D}{d:D}{E:lK}{a:Addr}{o:Obj}
theorem aaq{ds:List D}:SI K n (λσ H R=>wC K J H ds->R J H) (λ_=>some ds):=⟨λ{σ hv H U Z τv τd ds R} I h k=>by
 cases h;exact λp=>k J H (aP.refl H) p⟩
def nR(n:Nat)(Z:En):En:=(jJ n).map λj=>(ab j Z).map B.ro
theorem aar(h:(nR n Z)[i]?=some (some β)):i < n/\∃d,ab i Z=some d/\β= .ro d:=by
 unfold nR at h;rw[dF]at h;by_cases c:i < n
 ·rw[A4 c]at h;have h:(ab i Z).map B.ro=some β:=jI h;obtain⟨d,h1,h2⟩:=bg.mp h;exact⟨c,d,h1,h2.symm⟩
 ·rw[tK (by simp;lia)]at h;cases h
theorem aas(h:j < n):ab j (nR n Z)=ab j Z:=by
 show((nR n Z)[j]?).bind (bD (nR n Z))=_;unfold nR;rw[dF,A4 h];show bD _ ((ab j Z).map B.ro)=_;cases ab j Z with
 |none=>rfl
 |some d=>rfl
theorem aat:fW n js (nR n Z)=fW n js Z:=by
 unfold fW;refine ag7 λo _=> ?_;cases o with
 |none=>rfl
 |some j=>
  show(if j < n then(ab j (nR n Z)).map B.ro else none)=if j < n then(ab j Z).map B.ro else none;by_cases c:j < n
  ·rw[if_pos c,if_pos c,aas c]
  ·rw[if_neg c,if_neg c]
theorem aB.aau(I:aB K n H U σ hv Z τv τd)(ha:H a=some (.dK ah)):aB K n (upd H a (.cD o (.dK ah))) (λ_=>False) σ [] (nR n Z) [] []:=by
 have nn:=I.nn;refine⟨⟨by simp[nR,nn],λb z=>z.elim,λ_ _=>False,λ_ _ _ z=>z.elim,λ_ _ z=>z.elim,λi β aL=> ?_⟩,by simp[nR,nn],nn⟩;rw[iZ,fE]at aL;rw[iZ,fE,fE];obtain⟨hi,d,hd,rfl⟩:=aar aL;obtain⟨v,ev,w⟩:=I.dv hd;rw[br (by lia)]at ev;exact⟨v,ev,(w.ir ha).mono λ_ _ z=>z⟩
def uK(ks:List bw):List D:=ks.map λk=> .sc (kV k)
theorem aav{vs:List V}(hf:ks.length=vs.length)(ha:H a=some (.cD o (.dK (ks.zip vs)))):wC K (Hg a o (ks.zip vs)) H (uK ks):=λH' s=>by
 have h':=s a _ ha;have hl:(uK ks).length=ks.length:=eS _;refine⟨⟨h',by rw[pE,hl];lia⟩,λi d hd=> ?_⟩;have hi:i < ks.length:=by rw[<- hl];exact(bW.mp hd).1
 refine⟨⟨h',by rw[pE];lia⟩,λx H2 ⟨e,p,hp,hx⟩=> ?_⟩;subst e hx;unfold uK at hd;rw[dF,(Pr hp).1]at hd;cases hd;exact⟨aP.refl _, .sc _⟩
def CH(n:Nat)(js:List (Option Nat))(is:List Nat)(fp:En->Option Pl)(fg:D->En->Option En)(ft:En->Option Bool)(fe:En->Option D)(Z:En):Option D:=(fp Z).bind λ
 |.rt r p=>(cq Z r p).bind λz=>match z.2.1 with
  |.az ks=>ji n js is (λ_=>some (uK ks)) fg ft fe Z
  |_=>none
 |.ro _=>none
theorem aaw{ds:List D}:ji n js is (λ_=>some ds) fg ft fe (nR n Z)=ji n js is (λ_=>some ds) fg ft fe Z:=by
 unfold ji;rw[aat]
instance (priority:=3000) ajG{td:TE}{g:TG}{tt:TT}{te:TE}{js:List (Option Nat)}{is:List Nat}{m:Nat}{fp:En->Option Pl}{fg:D->En->Option En}{ft:En->Option Bool}{fe:En->Option D}[hm:wB js m]
  [P:SP K n td fp] [G:SG K m g fg is] [T:kU K m tt ft] [Q':SQ K m te fe]:SF K n (Pp (vZ (Pn td) g tt te js)) (CH n js is fp fg ft fe):=⟨λ{σ hv H U Z τv τd d Q} I h k=>by
 obtain⟨q,h1,h⟩:=af.mp h;cases q with
 |ro d=>cases h
 |rt r p=>
  obtain⟨⟨d0,kk,cs⟩,h3,h⟩:=af.mp h;obtain⟨hr,hg⟩:=qU h3;cases kk with
  |az ks=>
   have h:ji n js is (λ_=>some (uK ks)) fg ft fe Z=some d:=h;refine P.s I h1 λv H1 s1 w1=> ?_;have I1:=I.same s1;obtain⟨a,vs,rfl,ha,hf,dq,ua,_⟩:=I1.Hj w1 hr hg;refine⟨a,_,rfl,ha,λo=> ?_⟩;refine(Za (A:=aaq) (G:=G) (T:=T) (Q':=Q') (hm:=hm)).s (I1.aau (o:=o) ha) (aaw.trans h) (λu H2 s2 o2=> ?_) (aav hf eJ);have f2:=s2 a _ eJ;refine .inl ⟨a,o,_,λo' u' z=> ?_,f2, ?_⟩
   ·have:=I.ok.mu a ua;rw[z]at this;exact this
   ·obtain⟨F,rp,fr⟩:=o2;have na:∀b,F b->b≠a:=λb hb z=>by
     have:=(fr b hb).1;rw[z,eJ]at this;cases this
    have sa:aP H1 (upd H2 a (.dK (ks.zip vs))):=λb ob hb=>by
     by_cases c:b=a
     ·subst c;rw[ha]at hb;cases hb;exact eJ
     ·rw[bA c];exact s2 b ob (by rw[bA c];exact hb)
    refine k u _ (s1.trans sa) ⟨F,rp.qh f2 λz=>na a z rfl,λb hb=>⟨?_, ?_⟩⟩
    ·have q:=(fr b hb).1;rw[bA (na b hb)]at q;cases e:H b with
     |none=>rfl
     |some ob=>have:=s1 b ob e;rw[q]at this;cases this
    ·rw[bA (na b hb)];exact(fr b hb).2
  |_=>cases h⟩
instance (priority:=3000) ajH{t:TE}{i:Nat}{f:En->Option Fl}[h:SS K n (ny (Pp t) (mF i)) f]:SS K n (Hi (ny t (mF i))) f:=⟨λ{σ hv H U Z τv τd fl E} I e k=>h.s I e k⟩
end
section
def Pu(K:aj):R2:=λx y H Q=>∃a b ys,x= .ref a/\y= .ref b/\cP K H a []/\cP K H b ys/\Q (.ref b) H
theorem aax:dJ X (kE .Add) (Pu X.K):=by
 intro aa s σ H x y v u Q I rx ry h;obtain⟨a,b,ys,rfl,rfl,ha,hb,q⟩:=h;cases rx;cases ry;obtain⟨au,r1,p1,_⟩:=I.tuple ha;obtain⟨nz,r2,p2,_⟩:=I.tuple hb;cases r1;obtain⟨⟨cls,dd,data,sl⟩,ho,hc,n,hd⟩:=id p1;obtain⟨⟨EH,pV,data2,iw⟩,mI,gq,n2,hd2⟩:=id p2;simp only at hc hd gq hd2;subst hc hd gq hd2;exact Lg ⟨_,ho,rfl⟩ ⟨_,mI,rfl⟩ TV TX Uo Up (Uq _ _)
  (tuple_addW0 a b _ _ n n2 dd pV sl iw (by simp)) ⟨ho,mI, .ref b,H,I,rfl,q⟩
def Hn(K:aj):R2:=λx y H Q=>Pu K x y H Q\/EN K x y H Q
theorem aay:dJ X (kE .Add) (Hn X.K):=dJ.or aax ML
variable {K:aj}
def Ho(a b:D):Option D:=match a,b with
 |.nd .tup xs, .nd .tup ys=>if xs.length + ys.length<=aM/\aK (xs++ys)=true then some (.nd .tup (xs++ys)) else none
 |_,_=>none
instance ajI:lV K (Hn K) Ho:=⟨λ{H x y dx dy d Q} w1 w2 h k=>by
 unfold Ho at h
 split at h
 ·next xs ys=>
  by_cases c:xs.length + ys.length<=aM/\aK (xs++ys)=true
  ·rw[if_pos c]at h;cases h;obtain⟨a,vs,rfl,hc,vl⟩:=w1.gN;obtain⟨b,us,rfl,gq,ul⟩:=w2.gN;by_cases nv:vs= []
   ·subst nv;have e:xs= []:=rG vl.1.symm;subst e;exact .inl ⟨a,b,us,rfl,rfl,cP.of hc.2,cP.of gq.2,k _ H (aP.refl H) (eX.plain w2 c.2)⟩
   ·refine .inr ⟨a,b,vs,us,rfl,rfl,cP.of hc.2,cP.of gq.2,nv,by rw[vl.1,ul.1];exact c.1,λz=> ?_,λ_ p hp=> ?_⟩
    ·subst z;have e:ys= []:=rG ul.1.symm;subst e;rw[fE]at c k;exact k _ H (aP.refl H) (eX.plain w1 c.2)
    ·exact k _ _ (gW hp _) ((vl.app ul).own c.2 hp (.inl ⟨rfl,rfl⟩))
  ·rw[if_neg c]at h;cases h
 ·cases h⟩
variable {n:Nat}{H H' H1 H2:Hp}{U U':Addr->Prop}{σ hv:List (Option V)}{Z ρ':En}{τv vs:List V}{τd ds:List D}{v y:V}{d:D}{E:XK}
def uL(M T:Nat)(Fs:Nat->Addr->Prop)(j:Nat)(b:Addr):Prop:=if j < M then Fs j b else if j=M then Fs (M + T) b else(j<=M + T/\Fs (j - 1) b)
theorem aaz(h:j < M):uL M T Fs j=Fs j:=by
 funext b;unfold uL;rw[if_pos h]
theorem aaA:uL M T Fs M=Fs (M + T):=by
 funext b;unfold uL;rw[if_neg (by lia),if_pos rfl]
theorem aB.hide(I:aB K n H U σ hv Z (τv++ [v]) (τd++ [d])):aB K n H U σ (hv++ [some v]) (Z++ [some (.own d)]) τv τd:=by
 have l:=I.len;have nn:=I.nn;have tl:τv.length=τd.length:=by have:=I.tl;simp at this;lia
 obtain⟨hl,mu,Fs,dj,sub,sl⟩:=I.ok;have hM:(σ++hv).length=Z.length:=by rw[cc];exact l
 have eA:σ++(hv++ [some v])++τv.map some=(σ++hv)++ [some v]++τv.map some:=by simp
 refine⟨?_,by rw[cc,cc,ng,ng];lia,nn⟩;rw[eA];have hL:(Z++ [some (B.own d)]).length=Z.length + 1:=by rw[cc,ng]
 rw[hL];have old:∀(q:Nat),q < Z.length->((σ++hv)++ [some v]++τv.map some)[q]?=(σ++hv++(τv++ [v]).map some)[q]?:=λq hq=>by
  rw[ka,if_pos (by lia)];exact(br (by lia)).trans (br (by lia)).symm
 have wV:((σ++hv)++ [some v]++τv.map some)[Z.length]?=some (some v):=by
  rw[ka,if_neg (by lia),if_pos hM.symm]
 refine⟨by simp only[cc,ng,eS]at hl |-;lia,mu,uL Z.length τd.length Fs,λi j b hi hj=> ?_,λi b hb=> ?_,λj γ fG=> ?_⟩
 ·have hi:if i < Z.length then Fs i b else if i=Z.length then Fs (Z.length + τd.length) b else(i<=Z.length + τd.length/\Fs (i - 1) b):=hi;have hj:if j < Z.length then Fs j b else if j=Z.length then Fs (Z.length + τd.length) b else(j<=Z.length + τd.length/\Fs (j - 1) b):=hj;have key:∀k,(if k < Z.length then Fs k b else if k=Z.length then Fs (Z.length + τd.length) b else(k<=Z.length + τd.length/\Fs (k - 1) b))->(k < Z.length/\Fs k b)\/(k=Z.length/\Fs (Z.length + τd.length) b)\/(Z.length < k/\k<=Z.length + τd.length/\Fs (k - 1) b):=λk hk=>by
   by_cases c1:k < Z.length
   ·rw[if_pos c1]at hk;exact .inl ⟨c1,hk⟩
   ·rw[if_neg c1]at hk;by_cases c2:k=Z.length
    ·rw[if_pos c2]at hk;exact .inr (.inl ⟨c2,hk⟩)
    ·rw[if_neg c2]at hk;exact .inr (.inr ⟨by lia,hk.1,hk.2⟩)
  rcases key i hi with⟨a1,a2⟩ | ⟨a1,a2⟩ | ⟨a1,a2,a3⟩ <;> rcases key j hj with⟨b1,b2⟩ | ⟨b1,b2⟩ | ⟨b1,b2,b3⟩
  ·exact dj i j b a2 b2
  ·have:=dj _ _ b a2 b2;lia
  ·have:=dj _ _ b a2 b3;lia
  ·have:=dj _ _ b a2 b2;lia
  ·lia
  ·have:=dj _ _ b a2 b3;lia
  ·have:=dj _ _ b a3 b2;lia
  ·have:=dj _ _ b a3 b2;lia
  ·have:=dj _ _ b a3 b3;lia
 ·have hb:if i < Z.length then Fs i b else if i=Z.length then Fs (Z.length + τd.length) b else(i<=Z.length + τd.length/\Fs (i - 1) b):=hb
  split at hb
  ·exact sub _ b hb
  ·split at hb
   ·exact sub _ b hb
   ·exact sub _ b hb.2
 ·rw[ka]at fG;by_cases c1:j < Z.length
  ·rw[if_pos c1,br c1]at fG;obtain⟨v2,dz,ef⟩:=sl j γ (by rw[br c1];exact fG);refine⟨v2,by rw[old _ c1];exact dz, ?_⟩;cases γ with
   |own dd=>
    have ef:bj K H (Fs j) v2 dd:=ef;show bj K H (uL Z.length τd.length Fs j) v2 dd;rw[aaz c1];exact ef
   |ro dd=>exact ef
   |ak q p=>
    obtain⟨a,vr,b,c⟩:=ef;exact⟨by lia,vr,by rw[old _ a];exact b,c⟩
  ·rw[if_neg c1]at fG;by_cases c2:j=Z.length
   ·rw[if_pos c2]at fG;cases fG;subst c2;obtain⟨v2,dz,ef⟩:=sl (Z.length + τd.length) (.own d) (by
     rw[bK (by lia)];simp)
    have e2:v2=v:=by
     rw[bK (by lia),hM,cK,show Z.length + τd.length - Z.length=(τv.map some).length by rw[eS];lia,bK (bX _),lN]at dz;have dz:some (some v)=some (some v2):=dz;cases dz;rfl
    subst e2;refine⟨v2,wV, ?_⟩;show bj K H (uL Z.length τd.length Fs Z.length) v2 d;rw[aaA];exact ef
   ·rw[if_neg c2,bK (by lia)]at fG;have hj:j - 1 - Z.length < τd.length:=by
     have:=(bW.mp fG).1;rw[eS]at this;exact this
    obtain⟨v2,dz,ef⟩:=sl (j - 1) γ (by rw[bK (by lia),cK,br (by rw[eS];exact hj)];exact fG);refine⟨v2, ?_, ?_⟩
    ·rw[ka,hM,if_neg c1,if_neg c2,bK (by lia),hM];rw[bK (by lia),hM,cK,br (by rw[eS];lia)]at dz;exact dz
    ·rw[dF]at fG;obtain⟨dd,_,hd⟩:=bg.mp fG;have hd:=jI hd;subst hd;have ef:bj K H (Fs (j - 1)) v2 dd:=ef;exact ef.mono λb z=>by
      show if j < Z.length then Fs j b else if j=Z.length then Fs (Z.length + τd.length) b else(j<=Z.length + τd.length/\Fs (j - 1) b);rw[if_neg c1,if_neg c2];exact⟨by lia,z⟩
def Hq(G:List D->Option (D×List D))(i:Nat)(fe:En->Option D)(Z:En):Option (D×En):=(ar i Z).bind λ
 |.rt r p=>(fe Z).bind λd=>(aW G [.io ⟨r,p⟩, .io ⟨Z.length, []⟩] (Z++ [some (.own d)])).bind λa=>if a.2.length=Z.length + 1 then some (a.1,mW 0 Z.length a.2) else none
 |.ro _=>none
instance (priority:=50) ajJ{G:List D->Option (D×List D)}{i:Nat}{te:TE}{fe:En->Option D}[L0:ke 0 n][L:ke i n][A:SQ K n te fe]:SM K n (tU (cC K [true,true] G) [] E (e9 (jh i) (e9 te gU))) (Hq G i fe):=⟨λ{σ hv H U Z ρ' τv τd d Q} I h k=>by
 obtain⟨q,h1,h⟩:=af.mp h;cases q with
 |ro _=>cases h
 |rt r p=>
  obtain⟨d2,h2,h⟩:=af.mp h;obtain⟨⟨d3,uI⟩,h3,h⟩:=af.mp h;have h:(if uI.length=Z.length + 1 then some (d3,mW 0 Z.length uI) else none)=some (d,ρ'):=h;by_cases cl:uI.length=Z.length + 1
  ·rw[if_pos cl]at h;cases h;show jh i σ H λv1 H1=>te σ H1 λv2 H2=>cC K [true,true] G [v1,v2] H2 Q E;refine(inferInstance:SP K n (jh i) (ar i)).s I h1 λv1 H1 s1 w1=> ?_;have I1:=I.same s1;have bH:b5 U H U H1:=λb o q nu=>⟨s1 b o q,nu⟩
   refine SQ.s (f:=fe) I1 h2 λv2 H2 U2 I2 cf s2=> ?_;have w2:=w1.step s2 cf;have I3:=I2.hide;have l:=I.len;have nn:=I.nn;have hM:(σ++hv).length=Z.length:=by rw[cc];exact l
   obtain⟨jq,vr,d0,er,hr,hs,hp⟩:=w2;have p1:ik K H2 U2 (σ++(hv++ [some v2])) (Z++ [some (.own d2)]) v1 (.rt r p):=⟨by rw[cc];lia,vr,d0,by rw[<- dI,br (by lia)];exact er,N0 hr,hs,hp⟩
   have p2:ik K H2 U2 (σ++(hv++ [some v2])) (Z++ [some (.own d2)]) v2 (.rt Z.length []):=⟨by rw[cc,ng];lia,v2,d2,by rw[<- dI,bK (by lia),hM,lN];rfl,by unfold ai;rw[bK (bX _),lN];rfl,by cases d2 <;> rfl, .nil _⟩
   have aaB:aB K n H2 U2 σ (hv++ [some v2]) (Z++ [some (.own d2)]) (τv++ []) (τd++ []):=by rw[fE,fE];exact I3
   exact aB.FR aaB rfl (bH.trans cf) (.io p1 (.io p2 .nil)) h3 λv H' U' I' hE=>k v H' U' (I'.cls cl (by have:=L0.h;lia)) hE
  ·rw[if_neg cl]at h;cases h⟩
end
section
variable {K:aj}{n:Nat}{H H' H1 H2:Hp}{U U':Addr->Prop}{σ hv:List (Option V)}{Z ρ':En}{τv vs:List V}{τd ds:List D}{d:D}{E:XK}
end
section
variable {K:aj}{n:Nat}{H H' H1 H2:Hp}{U U':Addr->Prop}{σ hv:List (Option V)}{Z ρ':En}{τv vs:List V}{τd ds:List D}{d:D}
end
theorem pxx{K:aj}{pos:Pos}(hr:fZ k X.A)(ha:PE X a ta)(hb:PE X b tb)(hs:MO b:=by exact λ_ _=>rfl)(hK:X.K=K:=by rfl):PE X (.Subscript a b pos) (kN (F2 K) ta tb):=hK▸Wj (YL (gv hr)) ha hb hs
theorem fK{N P:List Str}(a:sc.kind= .function:=by rfl)(b:sc.isCoroutine=false:=by rfl)(c:sc.isGenerator=false:=by rfl)(d:N.Nodup:=by decide +kernel)(e:N.take P.length=P:=by rfl)(f:∀x∈P,sc.names.lookup x=some .local\/sc.names.lookup x=some .cell:=by decide +kernel)(g:∀y∈sc.names,y.2≠ .free:=by decide +kernel):eE N P sc:=⟨a,b,c,d,e,f,g⟩
theorem ml{P:Program}{w:World}{K:aj}{mg:Str->Option Value}{base:Heap}{x q:Str}{st:Stmt}{f:Addr}{fd:j7}{N ps:List Str}{k n m:Nat}{t:TS}{g:En->Option Fl}(F:ee K x q st f fd)(S:eE N ps (cW st))(h:∀fC A outer s H E,fZ k (A.deeper (envOfC q (cW st) s.heap.objs.size f fC))->kM (rX cX P w K mg base N q (cW st) f fC A outer s H E).vE (nD st) t)[I:SS K n t g](hn:N.length=n:=by rfl)(hm:ps.length=m:=by rfl)(hl:m<=n:=by decide):cz P w K mg base cX (k + 1) f fd ps (eU K m (dN n g)):=by
 subst hn;subst hm;exact F.ok S (λvs H Q E h=>Gm h) λfC A outer s H vs Q E hr q=>⟨t,h fC A outer s H E hr,FI (S:=I) q hl⟩
theorem iM{P:Program}{w:World}{K:aj}{mg:Str->Option Value}{base:Heap}{x q:Str}{st:Stmt}{f:Addr}{fd:j7}{N ps:List Str}{k n:Nat}{mk:List Bool}{t:TS}{g:En->Option Fl}(F:ee K x q st f fd)(S:eE N ps (cW st))(h:∀fC A outer s H E,fZ k (A.deeper (envOfC q (cW st) s.heap.objs.size f fC))->kM (rX cX P w K mg base N q (cW st) f fC A outer s H E).vE (nD st) t)[I:SS K n t g](hn:N.length=n:=by rfl)(hm:ps.length=mk.length:=by rfl)(hl:mk.length<=n:=by decide):cz P w K mg base cX (k + 1) f fd ps (cC K mk (bp n mk g)):=by
 subst hn;exact F.ok S (λvs H Q E h=>h.1.trans hm.symm) λfC A outer s H vs Q E hr q=>⟨t,h fC A outer s H E hr,Yn (S:=I) q hl⟩
abbrev oG(K:aj)(C:Addr)[dW K C]:=En->Option Fl
section
variable {X:Cx}{K:aj}{a b e o:Expr}{ta tb te:TE}{p pos pos':Pos}{x f:Str}
theorem ju(hK:X.K=K:=by rfl):dJ X (kE .Add) (yL K):=hK▸YT
theorem aaC(hK:X.K=K:=by rfl):dJ X (kE .Add) (Hn K):=hK▸aay
theorem aaD(hK:X.K=K:=by rfl):dJ X (kE .Add) (G9 K):=hK▸Z3
theorem gQ(hu:X.A.units + 64 < cLine)(hK:X.K=K:=by rfl):dJ X (jd .Eq) (FV K):=hK▸YF hu
theorem one(hu:X.A.units + 64 < cLine)(hK:X.K=K:=by rfl):dJ X (jd .NotEq) (FW K):=hK▸YG hu
theorem aaE(hu:X.A.units + 1 < cLine)(hK:X.K=K:=by rfl):dJ X (jd .Gt) (G5 K):=hK▸ZX hu
theorem aaF(hu:X.A.units + 1 < cLine)(hK:X.K=K:=by rfl):dJ X (jd .In) (F3 K):=hK▸YO hu
theorem sQ{tg:Expr}(hl:PE X a ta)(hK:X.K=K:=by rfl):PI X tg a (ur K ta):=hK▸F9 hl
theorem gZ(ha:PE X o ta)(hv:PE X a tb)(hs:xE a (some (.Attribute o f pos')) pos.line X.env=pure false:=by rfl)(hK:X.K=K:=by rfl):PS X (.Assign [.Attribute o f pos'] a pos) (EA K ta tb f):=hK▸VW ha hv hs
theorem dQ(he:PE X e ta)(hK:X.K=K:=by rfl)(hb:qo e f X.env (eval e X.env)=eval e X.env:=by rfl):PE X (.Attribute e f pos) (yk K ta f):=Zo hK he hb
theorem fL(h:PE X a ta)(hs:dh [a] X.env=(false,eval a X.env)::dh [] X.env:=by rfl):PA X [a] (e9 ta gU):=bh h gM (hs:=hs)
theorem bz(h:PE X a ta)(h2:PE X b tb)(hs:dh [a,b] X.env=(false,eval a X.env)::dh [b] X.env:=by rfl)(ht:dh [b] X.env=(false,eval b X.env)::dh [] X.env:=by rfl):PA X [a,b] (e9 ta (e9 tb gU)):=bh h (bh h2 gM (hs:=ht)) (hs:=hs)
theorem e8(h:PE X a ta):kM X [.Return (some a) pos] (rO ta):=di (yg h)
theorem cT(ho:dJ X (jd op) r)(ha:PE X a ta)(hb:PE X b tb)(hm:AQ op b=false:=by exact Mt _):PT X (.Compare a [op] [b] pos) (Bl (kN r ta tb)):=Mu ho ha hb hm
theorem CI(ho:dJ X (jd op) r)(ha:PE X a ta)(hb:PE X b tb)(hm:AQ op b=false:=by exact Mt _):PE X (.Compare a [op] [b] pos) (kN r ta tb):=VB ho ha hb hm
theorem gR(i:Nat)(hN:X.N.Nodup)(hi:X.N[i]?=some x:=by rfl)(hx:Loc X.env.scope x:=by first | exact .inl rfl | exact .inr rfl)(hf:X.fn x=true\/X.env.scope.names.lookup x=some .local:=by first | exact .inl rfl | exact .inr rfl):PG X (.Name x pos) (mF i):=Eo hN hi hx hf
theorem gO(i:Nat)(hN:X.N.Nodup)(he:PE X e te)(hi:X.N[i]?=some x:=by rfl)(hx:Loc X.env.scope x:=by first | exact .inl rfl | exact .inr rfl)(hs:xE e (some (.Name x pos')) pos.line X.env=pure false:=by rfl)(hf:X.fn x=true\/X.env.scope.names.lookup x=some .local:=by first | exact .inl rfl | exact .inr rfl):PS X (.Assign [.Name x pos'] e pos) (ny te (mF i)):=Vo hN hi hx he hs hf
theorem pln(hm:X.mg "len"=none)(ha:PE X a ta)(hg:Gl X "len":=by rfl)(hK:X.K=K:=by rfl)(he:dh [a] X.env=(false,eval a X.env)::dh [] X.env:=by rfl):PE X (.Call (.Name "len" p) [a] [] pos) (lx (F5 K) (e9 ta gU)):=hK▸kQ YX hg hm PySem.boot_len (bh ha gM (hs:=he)) (he:=he)
theorem Ad(hm:X.mg "tuple"=none)(ha:PE X a ta)(hg:Gl X "tuple":=by rfl)(hK:X.K=K:=by rfl)(he:dh [a] X.env=(false,eval a X.env)::dh [] X.env:=by rfl):PE X (.Call (.Name "tuple" p) [a] [] pos) (lx (yM K) (e9 ta gU)):=hK▸Bn Ov hg hm LV (bh ha gM (hs:=he)) (he:=he)
theorem aaG(hm:X.mg "list"=none)(ha:PE X a ta)(hg:Gl X "list":=by rfl)(hK:X.K=K:=by rfl)(he:dh [a] X.env=(false,eval a X.env)::dh [] X.env:=by rfl):PE X (.Call (.Name "list" p) [a] [] pos) (lx (F6 K) (e9 ta gU)):=hK▸Bn YY hg hm LW (bh ha gM (hs:=he)) (he:=he)
theorem aaH(ho:PE X o ta)(hK:X.K=K:=by rfl)(hb:qo o "pop" X.env (eval o X.env)=eval o X.env:=by rfl)(hl:(p.endLine == pos.line)=true:=by rfl):PE X (.Call (.Attribute o "pop" p) [] [] pos) (EW K "list" EY ta):=hK▸WB aha PySem.F.slot_list_pop PySem.F.type_list_pop WJ ho hb hl
theorem agt(ho:PE X o ta)(ha:PE X a tb)(hK:X.K=K:=by rfl)(hb:qo o "append" X.env (eval o X.env)=eval o X.env:=by rfl)
  (hf:((backTo pos (dh [a] X.env)).all (λx=> !x.1) && (xF pos (xG [] X.env)).all (λx=>x.1.isSome)
   && decide ([a].length + ([]:List Keyword).length + (if([]:List Keyword).isEmpty then 0 else 1) < 30))=true:=by rfl) (hl:(p.endLine == pos.line)=true:=by rfl) (hs:dh [a] X.env=(false,eval a X.env)::dh [] X.env:=by rfl):PE X (.Call (.Attribute o "append" p) [a] [] pos) (EX K "list" Bq ta (e9 tb gU)):=hK▸WC aha PySem.F.slot_list_append PySem.F.type_list_append WI ho (bh ha gM (hs:=hs)) hb hf hl hs
end
end VL
set_option synthInstance.maxHeartbeats 1000000
set_option synthInstance.maxSize 4000
namespace K31
open PySem L2 VL
theorem hg:∀(M:D),ag M []=some M:=λM=>by cases M <;> rfl
theorem ajK:∀(M e:D),aG M [] e=e:=λM e=>by cases M <;> rfl
noncomputable def fz (i:Nat):Stmt:=PySem.Challenge.pw_farshelf_k31_any_messages.main.body.getD i (.Pass ⟨0,0,0,0⟩)
abbrev Hr:Stmt:=fz 19
abbrev Hs:Stmt:=fz 20
abbrev Ht:Stmt:=fz 21
abbrev Hu:Stmt:=fz 22
abbrev Hv:Stmt:=fz 23
abbrev Hw:Stmt:=xB (fz 4) 0
abbrev Hx:Stmt:=fz 24
abbrev Hy:Stmt:=fz 31
abbrev Hz:Stmt:=fz 32
abbrev HA:Stmt:=fz 33
abbrev HB:Stmt:=fz 35
abbrev HC:Stmt:=fz 34
abbrev HD:Stmt:=fz 36
abbrev HE:Stmt:=fz 37
abbrev HF:Stmt:=fz 25
abbrev HG:Stmt:=fz 6
abbrev HI:Stmt:=fz 2
abbrev HJ:Stmt:=fz 1
abbrev HK:Stmt:=fz 8
abbrev HL:Stmt:=fz 9
abbrev HM:Stmt:=fz 10
abbrev HN:Stmt:=fz 11
abbrev HP:Stmt:=fz 12
abbrev HQ:Stmt:=fz 5
abbrev HR:Stmt:=xB (fz 4) 1
abbrev HS:Stmt:=fz 13
abbrev HU:Stmt:=fz 17
abbrev HV:Stmt:=fz 7
abbrev HW:Stmt:=fz 14
abbrev HX:Stmt:=fz 15
abbrev HY:Stmt:=fz 16
abbrev HZ:Stmt:=xB (fz 4) 5
abbrev H9:Stmt:=fz 26
abbrev Ia:Stmt:=fz 27
abbrev Ib:Stmt:=fz 28
abbrev Ic:Stmt:=xB (fz 4) 3
abbrev Ie:Stmt:=xB (fz 4) 2
abbrev Ig:Stmt:=fz 29
abbrev Ih:Stmt:=xB (fz 4) 4
abbrev Ii:Stmt:=fz 30
abbrev wZ:Stmt:=fz 38
structure d5(mg:Str->Option Value):Prop where
 g7:mg "len"=none
 oV:mg "range"=none
 CJ:mg "list"=none
 sR:mg "tuple"=none
 ajL:mg "int"=none
 sS:mg "max"=none
 Pw:mg "min"=none
 aaI:mg "all"=none
 ajM:mg "any"=none
 Ae:mg "isinstance"=none
 ajN:mg "str"=none
 ajO:mg "bool"=none
 Px:mg "dict"=none
 ajP:mg "sorted"=none
theorem aaJ:eE ["_law_script","_law_k"] ["_law_script","_law_k"] (cW Hr):=fK
theorem Py:eE ["_law_cell","_law_k","_law_m"] ["_law_cell","_law_k"] (cW Hs):=fK
theorem CK:eE ["_law_cell","_law_k","_law_number","_law_j"] ["_law_cell","_law_k"] (cW Ht):=fK
theorem Pz:eE ["_law_script","_law_k","_law_cell"] ["_law_script","_law_k"] (cW Hu):=fK
theorem PB:eE ["_law_left_here","_law_many","_law_digit"] ["_law_left_here","_law_many"] (cW Hv):=fK
theorem aaK:eE ["self","number","many"] ["self","number","many"] (cW Hw):=fK
theorem Ij:eE ["_law_script","_law_left_here","_law_many"] ["_law_script"] (cW Hx):=fK
theorem aaL:eE ["_law_number"] ["_law_number"] (cW Hy):=fK
theorem aaM:eE ["_law_m","_law_many","_law_word","_law_more"] ["_law_m","_law_many","_law_word","_law_more"] (cW Hz):=fK
theorem Af:eE ["_law_m","_law_many","_law_best","_law_of","_law_rows"] ["_law_m","_law_many"] (cW HA):=fK
theorem aaN:eE ["_law_m","_law_sender","_law_term","_law_rows","_law_sure"] ["_law_m","_law_sender","_law_term","_law_rows","_law_sure"] (cW HB):=fK
theorem Ik:eE ["_law_m","_law_many","_law_size","_law_some"] ["_law_m","_law_many"] (cW HC):=fK
theorem Ag:eE ["_law_m","_law_many","_law_message","_law_word","_law_sender","_law_to","_law_term"] ["_law_m","_law_many","_law_message"] (cW HD):=fK
theorem aaO:eE ["_law_m","_law_many","_law_deed","_law_what"] ["_law_m","_law_many","_law_deed","_law_what"] (cW HE):=fK
theorem PC:eE ["_law_world","_law_m","_law_deed","_law_what","_law_told","_law_one"] ["_law_world","_law_m","_law_deed","_law_what","_law_told"] (cW HF):=fK
theorem PD:eE ["master","least"] ["master"] (cW HG):=fK
theorem aaP:eE ["value"] ["value"] (cW HI):=fK
theorem aaQ:eE ["value"] ["value"] (cW HJ):=fK
theorem PF:eE ["master","rows","fixed"] ["master","rows"] (cW HK):=fK
theorem Il:eE ["master","rows","size"] ["master","rows"] (cW HL):=fK
theorem aaR:eE ["master","many"] ["master","many"] (cW HM):=fK
theorem aaS:eE ["voice"] ["voice"] (cW HN):=fK
theorem PH:eE ["master","greatest"] ["master"] (cW HP):=fK
theorem aaT:eE ["master"] ["master"] (cW HQ):=fK
theorem aaU:eE ["self"] ["self"] (cW HR):=fK
theorem Im:eE ["master","sizes","common"] ["master"] (cW HS):=fK
theorem aaV:eE ["master","sender","term","size"] ["master","sender","term","size"] (cW HU):=fK
theorem PJ:eE ["master","rows"] ["master"] (cW HV):=fK
theorem aaW:eE ["master","sender","term"] ["master","sender","term"] (cW HW):=fK
theorem aaX:eE ["master","sender","term","of","rows"] ["master","sender","term","of","rows"] (cW HX):=fK
theorem aaY:eE ["master","sender","term","rows","done"] ["master","sender","term","rows","done"] (cW HY):=fK
theorem aaZ:eE ["self","message"] ["self","message"] (cW HZ):=fK
theorem PL:eE ["_law_world","_law_k","_law_stays","_law_message"] ["_law_world","_law_k","_law_stays"] (cW H9):=fK
theorem Ah:eE ["_law_world","_law_left_here","_law_words","_law_whole","_law_turn","_law_k","_law_turned"] ["_law_world","_law_left_here","_law_words","_law_whole"] (cW Ia):=fK
theorem Ip:eE ["_law_world","_law_left_here","_law_masters","_law_some"] ["_law_world","_law_left_here"] (cW Ib):=fK
theorem aa0:eE ["self"] ["self"] (cW Ic):=fK
theorem aa1:eE ["self","row"] ["self","row"] (cW Ie):=fK
theorem CL:eE ["_law_world","_law_left_here","_law_m","_law_turn","_law_row"] ["_law_world","_law_left_here"] (cW Ig):=fK
theorem aa2:eE ["self"] ["self"] (cW Ih):=fK
theorem w5:eE ["_law_world","_law_left_here","_law_road_here","_law_m","_law_one","_law_turn"] ["_law_world","_law_left_here"] (cW Ii):=fK
section
variable (P:Program)(w:World)(K:aj)(mg:Str->Option Value)(base:Heap)(Cm:Addr)[dW K Cm]
def CM: {g:oG K Cm // ∀{P w mg base f fd},ee K "_law_cell_at" "_law_cell_at" Hr f fd->d5 mg->cz P w K mg base cX 1 f fd ["_law_script","_law_k"] (eU K 2 (dN 2 g))}:=⟨_,λF T=>ml F aaJ λ_ _ _ _ _ _ hr=>(aY (eM (cT rT (pv 1) (pln T.g7 (pv 0)))
   (e8 (pxx hr (pv 0) (pv 1))) fN)
  (e8 aX))⟩
def CN:List D->Option D:=dN 2 (CM K Cm).1
abbrev aa3:Prop:=eN P w K mg base "_law_cell_at" ["_law_script","_law_k"] 1 (eU K 2 (CN K Cm))
def Iq: {g:oG K Cm // ∀{P w mg base f fd},ee K "_law_mix" "_law_mix" Hs f fd->d5 mg->cz P w K mg base cX 1 f fd ["_law_cell","_law_k"] (eU K 2 (dN 3 g))}:=⟨_,λF T=>ml F Py λ_ _ _ _ _ _ hr=>(aY (gO 2 Py.nd (eZ vO (eZ qG (eZ ju (eZ ju (eZ vO (pv 0) aX) (eZ qG (eZ qG (pv 1) (pv 1)) aX)) aX) aX) aX))
  (e8 (eZ vO (eZ qG (pv 2) (pv 2)) aX)))⟩
def Ir:List D->Option D:=dN 3 (Iq K Cm).1
abbrev aa4:Prop:=eN P w K mg base "_law_mix" ["_law_cell","_law_k"] 1 (eU K 2 (Ir K Cm))
def Iu: {g:oG K Cm // ∀{P w mg base f fd},ee K "_law_rich" "_law_rich" Ht f fd->d5 mg->aa4 P w K mg base Cm->cz P w K mg base cX 2 f fd ["_law_cell","_law_k"] (eU K 2 (dN 4 g))}:=⟨_,λF T CO=>ml F CK λ_ _ _ _ _ _ hr=>(aY (gO 2 CK.nd aX)
  (aY (qF tL rfl (qE rfl T.oV (fL aX)) (gR 3 CK.nd)
   (di (gO 2 CK.nd (eZ ju (eZ qG (pv 2) aX) (b9 CO hr rfl (bz (b9 CO hr rfl (bz (pv 0) (eZ ju (pv 1) (eZ qG aX (pv 3))))) (pv 3)))))))
  (e8 (pv 2))))⟩
def CP:List D->Option D:=dN 4 (Iu K Cm).1
abbrev aa5:Prop:=eN P w K mg base "_law_rich" ["_law_cell","_law_k"] 2 (eU K 2 (CP K Cm))
def CQ: {g:oG K Cm // ∀{P w mg base f fd},ee K "_law_left" "_law_left" Hu f fd->d5 mg->aa3 P w K mg base Cm->aa5 P w K mg base Cm->cz P w K mg base cX 3 f fd ["_law_script","_law_k"] (eU K 2 (dN 3 g))}:=⟨_,λF T Iv CS=>ml F Pz λ_ _ _ _ _ _ hr=>(aY (gO 2 Pz.nd (b9 Iv hr rfl (bz (pv 0) (pv 1))))
  (aY (eM (cT Bk (pv 2) (eZ Vv aX aX))
   (e8 (iV (bz (pv 2) (b9 CS hr rfl (bz (pv 2) (pv 1)))))) fN)
  (e8 (iV (fL (b9 CS hr rfl (bz (pv 2) (pv 1))))))))⟩
def w6:List D->Option D:=dN 3 (CQ K Cm).1
abbrev PM:Prop:=eN P w K mg base "_law_left" ["_law_script","_law_k"] 3 (eU K 2 (w6 K Cm))
def Ai: {g:oG K Cm // ∀{P w mg base f fd},ee K "_law_pick" "_law_pick" Hv f fd->d5 mg->cz P w K mg base cX 1 f fd ["_law_left_here","_law_many"] (cC K [true,false] (bp 3 [true,false] g))}:=⟨_,λF T=>iM F PB λ_ _ _ _ _ _ hr=>(aY (eM (PW.pt (om (cT (gQ hr.units) (pxx hr (pv 0) aX) aX) (rM (cT ox (pln T.g7 (pv 0)) aX))))
   (di (qD (aaH (pv 0)) (lr (pv 0) aX TH))) fN)
  (aY (gO 2 PB.nd (eZ vO (pxx hr (pv 0) aX) (pv 1)))
  (aY (qD (eZ Nm (pxx hr (pv 0) aX) (pv 1)) (lr (pv 0) aX TH))
  (e8 (pv 2)))))⟩
def kB:List D->Option (D×List D):=bp 3 [true,false] (Ai K Cm).1
abbrev Aj:Prop:=eN P w K mg base "_law_pick" ["_law_left_here","_law_many"] 1 (cC K [true,false] (kB K Cm))
def Iw: {g:oG K Cm // ∀{P w mg base f fd},ee K "__init__" "Master.__init__" Hw f fd->d5 mg->cz P w K mg base cX 1 f fd ["self","number","many"] (cC K (true::gC 2 false) (bp 3 (true::gC 2 false) g))}:=⟨_,λF T=>iM F aaK λ_ _ _ _ _ _ hr=>(aY (gZ (pv 0) (pv 1))
  (aY (gZ (pv 0) (pv 2))
  (aY (gZ (pv 0) aX)
  (aY (gZ (pv 0) aX)
  (aY (gZ (pv 0) (iV gM))
  (aY (gZ (pv 0) aX)
  (aY (gZ (pv 0) aJ)
  (aY (gZ (pv 0) vW)
  (aY (gZ (pv 0) vW)
  (di (gZ (pv 0) vA)))))))))))⟩
def sT:List D->Option (D×List D):=bp 3 (true::gC 2 false) (Iw K Cm).1
abbrev aa6:Prop:=Gp P w K mg base "Master" Cm ["self","number","many"] 1 (cC K (true::gC 2 false) (sT K Cm))
def Iy: {g:oG K Cm // ∀{P w mg base f fd},ee K "_law_begun" "_law_begun" Hx f fd->d5 mg->PM P w K mg base Cm->Aj P w K mg base Cm->aa6 P w K mg base Cm->cz P w K mg base cX 4 f fd ["_law_script"] (eU K 1 (dN 3 g))}:=⟨_,λF T w9 jj Iz=>ml F Ij λ_ _ _ _ _ _ hr=>(aY (gO 1 Ij.nd (b9 w9 hr rfl (bz (pv 0) aX)))
  (aY (gO 2 Ij.nd (pxx hr (iV (bh aX (bh aX (bh aX (bh aX (bh aX (bh aX (bz aX aX)))))))) (b9 jj hr rfl (bz (pv 1) aX))))
  (e8 (O9 (mM aJ (p5 [none,some 2] ["_law_number","_law_many"] rfl (md ⟨⟨rfl,rfl, .inl rfl⟩,trivial⟩) (qE rfl T.oV (fL (pv 2))) (λ_ _ _ _ _ _=>(gR 0 (by decide +kernel:(["_law_number","_law_many"]:List Str).Nodup))) (λ_ _ _ _ _ _=>sh) (λ_ _ _ _ _ _=>(Zn Iz hr rfl (bz (pv 0) (pv 1))))) (mM aJ (iV gM) (mM aJ (iV gM) (mM aJ aX E8)))) rfl rfl rfl rfl))))⟩
def CT:List D->Option D:=dN 3 (Iy K Cm).1
abbrev aa7:Prop:=eN P w K mg base "_law_begun" ["_law_script"] 4 (eU K 1 (CT K Cm))
def IA: {g:oG K Cm // ∀{P w mg base f fd},ee K "_law_plain" "_law_plain" Hy f fd->d5 mg->cz P w K mg base cX 1 f fd ["_law_number"] (eU K 1 (dN 1 g))}:=⟨_,λF T=>ml F aaL λ_ _ _ _ _ _ hr=>(e8 (O9 (mM aJ (pv 0) (mM aJ aX (mM aJ aX (mM aJ (gu gM) (mM aJ aX (mM aJ aJ (mM aJ vW (mM aJ vW E8)))))))) rfl rfl rfl rfl))⟩
def xa:List D->Option D:=dN 1 (IA K Cm).1
abbrev aa8:Prop:=eN P w K mg base "_law_plain" ["_law_number"] 1 (eU K 1 (xa K Cm))
def IB: {g:oG K Cm // ∀{P w mg base f fd},ee K "_law_to_others" "_law_to_others" Hz f fd->d5 mg->cz P w K mg base cX 1 f fd ["_law_m","_law_many","_law_word","_law_more"] (eU K 4 (dN 4 g))}:=⟨_,λF T=>ml F aaM λ_ _ _ _ _ _ hr=>(e8 (p5 [none,some 3,some 2,some 0] ["_law_to","_law_more","_law_word","_law_m"] rfl (md ⟨⟨rfl,rfl, .inl rfl⟩,⟨⟨rfl,rfl, .inl rfl⟩,⟨⟨rfl,rfl, .inl rfl⟩,trivial⟩⟩⟩) (qE rfl T.oV (fL (pv 1))) (λ_ _ _ _ _ _=>(gR 0 (by decide +kernel:(["_law_to","_law_more","_law_word","_law_m"]:List Str).Nodup))) (λ_ _ _ _ _ _=>(vY (cT (one hr.units) (pv 0) (pxx hr (pv 3) aJ)))) (λ_ _ _ _ _ _=>(eZ ju (gu (bh (pv 2) (bz (pxx hr (pv 3) aJ) (pv 0)))) (pv 1)))))⟩
def Ak:List D->Option D:=dN 4 (IB K Cm).1
abbrev aa9:Prop:=eN P w K mg base "_law_to_others" ["_law_m","_law_many","_law_word","_law_more"] 1 (eU K 4 (Ak K Cm))
def IC: {g:oG K Cm // ∀{P w mg base f fd},ee K "_law_lead" "_law_lead" HA f fd->d5 mg->cz P w K mg base cX 1 f fd ["_law_m","_law_many"] (cC K [true,false] (bp 5 [true,false] g))}:=⟨_,λF T=>iM F Af λ_ _ _ _ _ _ hr=>(di (eM (cT ox (eZ qG aX (pln T.g7 (pxx hr (pv 0) aJ))) (pv 1))
   (aY (gO 2 Af.nd (gu (bz (Mp Mr aX) aX)))
  (aY (Pq (qF tL rfl (aag (pxx hr (pv 0) aJ)) (qX (K:=K) rfl (n:=2) rfl (iP (gR 3 Af.nd) (iP (gR 4 Af.nd) qB)))
   (di (eM (cT (aaE (gv hr)) (gu (bz (pv 3) (pln T.g7 (pv 4)))) (pv 2))
   (aY (gO 2 Af.nd (gu (bz (pv 3) (pln T.g7 (pv 4)))))
  (di (mK (gv hr) (pv 0) aJ (pv 4) rfl))) fN))))
  (di (qD (gu (bh (pxx hr (pv 0) aJ) (bz aJ vW))) (qX (K:=K) rfl (n:=3) rfl (iP (lr (pv 0) aJ (set_dict (gv hr))) (iP (lr (pv 0) aJ (set_dict (gv hr))) (iP (lr (pv 0) aJ (set_dict (gv hr))) qB)))))))) fN))⟩
def CU:List D->Option (D×List D):=bp 5 [true,false] (IC K Cm).1
abbrev PN:Prop:=eN P w K mg base "_law_lead" ["_law_m","_law_many"] 1 (cC K [true,false] (CU K Cm))
def Al: {g:oG K Cm // ∀{P w mg base f fd},ee K "_law_keeps" "_law_keeps" HB f fd->d5 mg->cz P w K mg base cX 2 f fd ["_law_m","_law_sender","_law_term","_law_rows","_law_sure"] (cC K [true,false,false,false,false] (bp 5 [true,false,false,false,false] g))}:=⟨_,λF T=>iM F aaN λ_ _ _ _ _ _ hr=>(aY (qD (gu (bz (pv 2) aJ)) (qX (K:=K) rfl (n:=2) rfl (iP (lr (pv 0) aJ (set_dict (gv hr))) (iP (lr (pv 0) aJ (set_dict (gv hr))) qB))))
  (aY (eM (PW.pt (yf (cT rT (pxx hr (pv 0) aJ) (pv 2)) (ye (cT ox (pln T.g7 (pv 3)) (pln T.g7 (pxx hr (pv 0) aJ))))))
   (di (qD (gu (bz (pv 2) (pv 3))) (qX (K:=K) rfl (n:=2) rfl (iP (lr (pv 0) aJ (set_dict (gv hr))) (iP (lr (pv 0) aJ (set_dict (gv hr))) qB))))) fN)
  (aY (mK (gv hr) (pv 0) aJ (kQ (r:=uq) (yN rfl) rfl T.sS vq (bz (pxx hr (pv 0) aJ) (kQ (r:=B0) (Ow rfl) rfl T.Pw ahb (bz (pv 4) (pln T.g7 (pxx hr (pv 0) aJ)))))) rfl)
  (e8 (iV (fL (gu (bh aJ (bh (pxx hr (pv 0) aJ) (bh (pv 1) (bz (pv 2) (pln T.g7 (pxx hr (pv 0) aJ)))))))))))))⟩
def Am:List D->Option (D×List D):=bp 5 [true,false,false,false,false] (Al K Cm).1
abbrev aba:Prop:=eN P w K mg base "_law_keeps" ["_law_m","_law_sender","_law_term","_law_rows","_law_sure"] 2 (cC K [true,false,false,false,false] (Am K Cm))
def ID: {g:oG K Cm // ∀{P w mg base f fd},ee K "_law_know" "_law_know" HC f fd->d5 mg->cz P w K mg base cX 1 f fd ["_law_m","_law_many"] (cC K [true,false] (bp 4 [true,false] g))}:=⟨_,λF T=>iM F Ik λ_ _ _ _ _ _ hr=>(di (qF tL rfl (Mm rfl T.oV (bz (eZ ju (pxx hr (pv 0) aJ) aX) (eZ ju (pln T.g7 (pxx hr (pv 0) aJ)) aX))) (gR 2 Ik.nd)
   (aY (Pq (BF (k:=3) [none,some 2,some 0] ["_law_number","_law_size","_law_m"] rfl (md ⟨⟨rfl,rfl, .inl rfl⟩,⟨⟨rfl,rfl, .inl rfl⟩,trivial⟩⟩) Ik.nd rfl (vm rfl) (aaf (pxx hr (pv 0) aJ)) (λ_ _ _ _ _ _=>(gR 0 (by decide +kernel:(["_law_number","_law_size","_law_m"]:List Str).Nodup))) (λ_ _ _ _ _ _=>(vY (cT Bk (pxx hr (pxx hr (pv 2) aJ) (pv 0)) (pv 1)))) (λ_ _ _ _ _ _=>(pv 0))))
  (di (eM (cT ox (eZ qG aX (eZ ju (pln T.g7 (pv 3)) aX)) (pv 1))
   (di (mK (gv hr) (pv 0) aJ (pv 2) rfl)) fN)))))⟩
def CV:List D->Option (D×List D):=bp 4 [true,false] (ID K Cm).1
abbrev PQ:Prop:=eN P w K mg base "_law_know" ["_law_m","_law_many"] 1 (cC K [true,false] (CV K Cm))
def mY: {g:oG K Cm // ∀{P w mg base f fd},ee K "_law_hears" "_law_hears" HD f fd->d5 mg->PN P w K mg base Cm->aba P w K mg base Cm->PQ P w K mg base Cm->cz P w K mg base cX 4 f fd ["_law_m","_law_many","_law_message"] (cC K [true,false,false] (bp 7 [true,false,false] g))}:=⟨_,λF T xb IE xc=>iM F Ag λ_ _ _ _ _ _ hr=>(aY (qD (r9 (r:=lZ K) sF (pv 2) rZ (r6 aX)) (qX (K:=K) rfl (n:=4) rfl (iP (gR 3 Ag.nd) (iP (gR 4 Ag.nd) (iP (gR 5 Ag.nd) (iP (gR 6 Ag.nd) qB))))))
  (aY (eM (PW.pt (om (cT (gQ hr.units) (pv 3) aJ) (rM (cT ox (pv 6) (pxx hr (pv 0) aJ)))))
   (aY (qD (gu (bz (pv 6) aJ)) (qX (K:=K) rfl (n:=2) rfl (iP (lr (pv 0) aJ (set_dict (gv hr))) (iP (lr (pv 0) aJ (set_dict (gv hr))) qB))))
  (e8 (iV (fL (gu (bh aJ (bh (pv 5) (bh (pv 4) (bh (pv 6) (bz (pxx hr (pv 0) aJ) (pxx hr (pv 0) aJ))))))))))) fN)
  (aY (eM (PW.pt (om (cT (gQ hr.units) (pv 3) aJ) (om (cT (gQ hr.units) (pxx hr (pv 0) aJ) aJ) (rM (cT (gQ hr.units) (pv 6) (pxx hr (pv 0) aJ))))))
   (aY (mK (gv hr) (pxx hr (pv 0) aJ) (pv 4) (r9 (r:=lZ K) sF (pv 2) (r6 aX) rZ) rfl)
  (di (iE (b9 xb hr rfl (bz (pv 0) (pv 1)))))) fN)
  (aY (eM (PW.pt (om (cT (gQ hr.units) (pv 3) aJ) (rM (cT Bk (pv 6) (pxx hr (pv 0) aJ)))))
   (e8 (b9 IE hr rfl (bh (pv 0) (bh (pv 4) (bh (pv 6) (bz (pxx hr (pv 2) aX) (pxx hr (pv 2) aX))))))) fN)
  (aY (eM (PW.pt (om (cT (gQ hr.units) (pv 3) aJ) (om (cT (gQ hr.units) (pxx hr (pv 0) aJ) aJ) (rM (cT (gQ hr.units) (pv 6) (pxx hr (pv 0) aJ))))))
   (aY (mK (gv hr) (pxx hr (pv 0) aJ) (pv 4) (kQ (r:=uq) (yN rfl) rfl T.sS vq (bz (Fc (gv hr) (pxx hr (pv 0) aJ) (pv 4) aX ⟨rfl,rfl,rfl,rfl⟩) (pxx hr (pv 2) aX))) rfl)
  (di (iE (b9 xc hr rfl (bz (pv 0) (pv 1)))))) fN)
  (e8 (iV gM)))))))⟩
def jZ:List D->Option (D×List D):=bp 7 [true,false,false] (mY K Cm).1
abbrev abb:Prop:=eN P w K mg base "_law_hears" ["_law_m","_law_many","_law_message"] 4 (cC K [true,false,false] (jZ K Cm))
def rl: {g:oG K Cm // ∀{P w mg base f fd},ee K "_law_does" "_law_does" HE f fd->d5 mg->abb P w K mg base Cm->PN P w K mg base Cm->aa9 P w K mg base Cm->PQ P w K mg base Cm->cz P w K mg base cX 5 f fd ["_law_m","_law_many","_law_deed","_law_what"] (cC K [true,false,false,false] (bp 4 [true,false,false,false] g))}:=⟨_,λF T IF xb CW xc=>iM F aaO λ_ _ _ _ _ _ hr=>(aY (eM (cT (gQ hr.units) (pv 2) aJ)
   (e8 (b9 IF hr rfl (bh (pv 0) (bz (pv 1) (pv 3))))) fN)
  (aY (eM (cT (gQ hr.units) (pv 2) aJ)
   (aY (mK (gv hr) (pv 0) aJ (eZ ju (eZ ju (pxx hr (pv 0) aJ) aX) (eZ vO (eZ Ew (eZ Ew (pxx hr (pv 0) aJ) (pxx hr (pv 0) aJ)) aX) (pv 1))) rfl)
  (aY (qD (gu (bz aJ (OM (pxx hr (pv 0) aJ) (gu (bz (pxx hr (pv 0) aJ) (pxx hr (pv 0) aJ)))))) (qX (K:=K) rfl (n:=2) rfl (iP (lr (pv 0) aJ (set_dict (gv hr))) (iP (lr (pv 0) aJ (set_dict (gv hr))) qB))))
  (aY (iE (b9 xb hr rfl (bz (pv 0) (pv 1))))
  (e8 (b9 CW hr rfl (bh (pv 0) (bh (pv 1) (bz aJ (gu (fL (pxx hr (pv 0) aJ))))))))))) fN)
  (aY (eM (cT (gQ hr.units) (pv 2) aJ)
   (aY (qD (gu (bz aJ aX)) (qX (K:=K) rfl (n:=2) rfl (iP (lr (pv 0) aJ (set_dict (gv hr))) (iP (lr (pv 0) aJ (set_dict (gv hr))) qB))))
  (e8 (iV gM))) fN)
  (aY (eM (cT (one hr.units) (pxx hr (pv 0) aJ) aJ)
   (e8 (El (cT (gQ hr.units) (pv 2) aJ) vB (iV gM))) fN)
  (aY (eM (cT (gQ hr.units) (pv 2) aJ)
   (aY (mK (gv hr) (pv 0) aJ (eZ aaC (pxx hr (pv 0) aJ) (gu (fL (pv 3)))) rfl)
  (di (iE (b9 xc hr rfl (bz (pv 0) (pv 1)))))) fN)
  (e8 (b9 CW hr rfl (bh (pv 0) (bh (pv 1) (bz aJ (gu (bh (pxx hr (pv 0) aJ) (bz (pxx hr (pv 0) aJ) (pxx hr (pv 0) aJ))))))))))))))⟩
def i9:List D->Option (D×List D):=bp 4 [true,false,false,false] (rl K Cm).1
abbrev abc:Prop:=eN P w K mg base "_law_does" ["_law_m","_law_many","_law_deed","_law_what"] 5 (cC K [true,false,false,false] (i9 K Cm))
def IG: {g:oG K Cm // ∀{P w mg base f fd},ee K "_law_note" "_law_note" HF f fd->d5 mg->cz P w K mg base cX 1 f fd ["_law_world","_law_m","_law_deed","_law_what","_law_told"] (cC K [true,false,false,false,false] (bp 6 [true,false,false,false,false] g))}:=⟨_,λF T=>iM F PC λ_ _ _ _ _ _ hr=>(aY (gO 5 PC.nd (pxx hr (pxx hr (pv 0) aJ) (pv 1)))
  (aY (iE (agt (pxx hr (pv 0) aJ) (gu (bh (pv 1) (bh (pv 2) (bh (pv 3) (bz (pv 4) (gu (bh (dQ (pv 5)) (bh (dQ (pv 5)) (bh (Ad T.sR (dQ (pv 5))) (bz (dQ (pv 5)) (dQ (pv 5))))))))))))))
  (di (eM (cT YQ (pv 4) vB)
   (di (mK (gv hr) (pv 0) aJ (r9 (r:=lZ K) sF (eZ aaD (pxx hr (pv 0) aJ) (pv 4)) (r6 (Mp Mr aX)) rZ) rfl)) fN))))⟩
def rm:List D->Option (D×List D):=bp 6 [true,false,false,false,false] (IG K Cm).1
abbrev IH:Prop:=eN P w K mg base "_law_note" ["_law_world","_law_m","_law_deed","_law_what","_law_told"] 1 (cC K [true,false,false,false,false] (rm K Cm))
def II: {g:oG K Cm // ∀{P w mg base f fd},ee K "next_term" "next_term" HG f fd->d5 mg->cz P w K mg base cX 1 f fd ["master"] (eU K 1 (dN 2 g))}:=⟨_,λF T=>ml F PD λ_ _ _ _ _ _ hr=>(aY (gO 1 PD.nd (eZ ju (dQ (pv 0)) aX))
  (e8 (eZ ju (pv 1) (eZ vO (eZ Ew (dQ (pv 0)) (pv 1)) (dQ (pv 0))))))⟩
def IJ:List D->Option D:=dN 2 (II K Cm).1
abbrev abd:Prop:=eN P w K mg base "next_term" ["master"] 1 (eU K 1 (IJ K Cm))
abbrev PU(K:aj)(Cm:Addr)[dW K Cm](Gs:List D->Option D):TS:=(vG (vH (tB (lx (p8 K "tuple") (e9 (jh 0) (e9 (tC (.ty "tuple")) gU))))
   (rO (lx (B3 K) (e9 (vZ (ur K (jh 0)) (mF 0) BB (tU (eU K 1 Gs) [] E0 (e9 (jh 0) gU)) [none]) gU))) vF)
  (rO (Ej (lx (B2 K) (e9 (jh 0) (e9 (rW (e9 (tC (.ty "list")) (e9 (tC (.ty "dict")) gU))) gU))))))
def CY(K:aj)(Cm:Addr)[dW K Cm](Gs:List D->Option D): {f:En->Option Fl // SS K 1 (PU K Cm Gs) f}:=⟨_,inferInstance⟩
noncomputable def CZ (K:aj) (Cm:Addr) [dW K Cm] (Gs:List D->Option D):En->Option Fl:=(CY K Cm Gs).1
def oW(K:aj)(Cm:Addr)[dW K Cm]:Nat->List D->Option D
 |0=>λ_=>none
 |m + 1=>dN 1 (CZ K Cm (oW K Cm m))
def C0(K:aj)(Cm:Addr)[dW K Cm]:List D->Option D:=oW K Cm 3
abbrev abe:Prop:=eN P w K mg base "is_fixed" ["value"] 4 (eU K 1 (C0 K Cm))
variable {P w K mg base Cm} in
theorem PX{f:Addr}{fd:j7}(F:ee K "is_fixed" "is_fixed" HI f fd)(T:d5 mg)(hb:L2.Binds K fd ["value"] [])(hm:mg "is_fixed"=some (.ref f)):∀m:Nat,cz P w K mg base cX (1 + m) f fd ["value"] (eU K 1 (oW K Cm m))
 |0=>OU
 |j + 1=>by
  have An:=eN.of F hb hm (PX F T hb hm j);refine F.ok aaP (λvs H Q E h=>Gm h) (λfC A outer s H vs Q E hr h=> ?_);exact⟨PU K Cm (oW K Cm j),(aY (eM (pO (kQ (r:=p8 K "tuple") BX rfl T.Ae D3 (bh (pv 0) (bh (vD (v:= .ty "tuple") rfl T.sR LV rfl) gM))))
   (di (yg (kQ (r:=(B3 K)) (Y4 rfl) rfl T.aaI PyProof.Rows.boot_all (bh (p5 [none] ["part"] rfl (md trivial) (F9 (pv 0)) (λ_ _ _ _ _ _=>(Eo (i:=0) BW rfl (vm rfl))) (λ_ _ _ _ _ _=>sh) (λ_ _ _ _ _ _=>(b9 An hr rfl (bh (pv 0) gM) (bX _)))) gM)))) fN)
  (di (yg (Vi (kQ (r:=B2 K) Y0 rfl T.Ae D3 (bh (pv 0) (bh (gu (bh (vD (v:= .ty "list") rfl T.CJ LW rfl) (bh (vD (v:= .ty "dict") rfl T.Px ahc rfl) gM))) gM))))))),FI (S:=(CY K Cm (oW K Cm j)).2) h (by decide)⟩
abbrev PY(K:aj)(Cm:Addr)[dW K Cm](Gs:List D->Option D):TS:=(vG (vH (tB (lx (p8 K "list") (e9 (jh 0) (e9 (tC (.ty "list")) gU))))
   Bc vF)
  (vG (vH (tB (lx (p8 K "tuple") (e9 (jh 0) (e9 (tC (.ty "tuple")) gU))))
   (rO (lx (yM K) (e9 (vZ (ur K (jh 0)) (mF 0) BB (tU (eU K 1 Gs) [] E0 (e9 (jh 0) gU)) [none]) gU))) vF)
  (vG (vH (tB (lx (p8 K "dict") (e9 (jh 0) (e9 (tC (.ty "dict")) gU))))
   Bc vF)
  (rO (jh 0)))))
def C1(K:aj)(Cm:Addr)[dW K Cm](Gs:List D->Option D): {f:En->Option Fl // SS K 1 (PY K Cm Gs) f}:=⟨_,inferInstance⟩
noncomputable def C2 (K:aj) (Cm:Addr) [dW K Cm] (Gs:List D->Option D):En->Option Fl:=(C1 K Cm Gs).1
def oX(K:aj)(Cm:Addr)[dW K Cm]:Nat->List D->Option D
 |0=>λ_=>none
 |m + 1=>dN 1 (C2 K Cm (oX K Cm m))
def C3(K:aj)(Cm:Addr)[dW K Cm]:List D->Option D:=oX K Cm 3
abbrev IK:Prop:=eN P w K mg base "own_copy" ["value"] 4 (eU K 1 (C3 K Cm))
variable {P w K mg base Cm} in
theorem PZ{f:Addr}{fd:j7}(F:ee K "own_copy" "own_copy" HJ f fd)(T:d5 mg)(hb:L2.Binds K fd ["value"] [])(hm:mg "own_copy"=some (.ref f)):∀m:Nat,cz P w K mg base cX (1 + m) f fd ["value"] (eU K 1 (oX K Cm m))
 |0=>OU
 |j + 1=>by
  have oY:=eN.of F hb hm (PZ F T hb hm j);refine F.ok aaQ (λvs H Q E h=>Gm h) (λfC A outer s H vs Q E hr h=> ?_);exact⟨PY K Cm (oX K Cm j),(aY (eM (pO (kQ (r:=p8 K "list") BX rfl T.Ae D3 (bh (pv 0) (bh (vD (v:= .ty "list") rfl T.CJ LW rfl) gM))))
   Mh fN)
  (aY (eM (pO (kQ (r:=p8 K "tuple") BX rfl T.Ae D3 (bh (pv 0) (bh (vD (v:= .ty "tuple") rfl T.sR LV rfl) gM))))
   (di (yg (Bn (r:=(yM K)) Ov rfl T.sR LV (bh (p5 [none] ["part"] rfl (md trivial) (F9 (pv 0)) (λ_ _ _ _ _ _=>(Eo (i:=0) BW rfl (vm rfl))) (λ_ _ _ _ _ _=>sh) (λ_ _ _ _ _ _=>(b9 oY hr rfl (bh (pv 0) gM) (bX _)))) gM)))) fN)
  (aY (eM (pO (kQ (r:=p8 K "dict") BX rfl T.Ae D3 (bh (pv 0) (bh (vD (v:= .ty "dict") rfl T.Px ahc rfl) gM))))
   Mh fN)
  (di (yg (pv 0)))))),FI (S:=(C1 K Cm (oX K Cm j)).2) h (by decide)⟩
def IL: {g:oG K Cm // ∀{P w mg base f fd},ee K "take_behind" "take_behind" HK f fd->d5 mg->abe P w K mg base Cm->IK P w K mg base Cm->cz P w K mg base cX 5 f fd ["master","rows"] (cC K [true,false] (bp 3 [true,false] g))}:=⟨_,λF T An oY=>iM F PF λ_ _ _ _ _ _ hr=>(aY (gO 2 PF.nd (b9 An hr rfl (fL (pv 1))))
  (aY (gZ (pv 0) (eZ ju (dQ (pv 0)) (aaG T.CJ (El (pO (pv 2)) (pv 1) (b9 oY hr rfl (fL (pv 1)))))))
  (di (gZ (pv 0) (Vh (dQ (pv 0)) (Vg (pv 2)))))))⟩
def IM:List D->Option (D×List D):=bp 3 [true,false] (IL K Cm).1
abbrev P0:Prop:=eN P w K mg base "take_behind" ["master","rows"] 5 (cC K [true,false] (IM K Cm))
def C4: {g:oG K Cm // ∀{P w mg base f fd},ee K "take_rows" "take_rows" HL f fd->d5 mg->P0 P w K mg base Cm->cz P w K mg base cX 6 f fd ["master","rows"] (cC K [true,false] (bp 3 [true,false] g))}:=⟨_,λF T xf=>iM F Il λ_ _ _ _ _ _ hr=>(aY (gO 2 Il.nd (pln T.g7 (dQ (pv 0))))
  (aY (eM (cT (one hr.units) (r9 (r:=lZ K) sF (pv 1) rZ (r6 (pv 2))) (Ad T.sR (dQ (pv 0))))
   (aY (gO 2 Il.nd aX)
  (aY (gZ (pv 0) (iV gM))
  (di (gZ (pv 0) vA)))) fN)
  (di (iE (b9 xf hr rfl (bz (pv 0) (r9 (r:=lZ K) sF (pv 1) (r6 (pv 2)) rZ)))))))⟩
def C5:List D->Option (D×List D):=bp 3 [true,false] (C4 K Cm).1
abbrev P4:Prop:=eN P w K mg base "take_rows" ["master","rows"] 6 (cC K [true,false] (C5 K Cm))
def IP: {g:oG K Cm // ∀{P w mg base f fd},ee K "is_most" "is_most" HM f fd->d5 mg->cz P w K mg base cX 1 f fd ["master","many"] (eU K 2 (dN 2 g))}:=⟨_,λF T=>ml F aaR λ_ _ _ _ _ _ hr=>(e8 (CI ox (eZ qG aX (pv 1)) (dQ (pv 0))))⟩
def IQ:List D->Option D:=dN 2 (IP K Cm).1
abbrev P5:Prop:=eN P w K mg base "is_most" ["master","many"] 1 (eU K 2 (IQ K Cm))
def IS: {g:oG K Cm // ∀{P w mg base f fd},ee K "rank_of_voice" "rank_of_voice" HN f fd->d5 mg->cz P w K mg base cX 1 f fd ["voice"] (eU K 1 (dN 1 g))}:=⟨_,λF T=>ml F aaS λ_ _ _ _ _ _ hr=>(e8 (gu (bz (pxx hr (pv 0) aX) (pln T.g7 (pxx hr (pv 0) aX)))))⟩
def xg:List D->Option D:=dN 1 (IS K Cm).1
abbrev abf:Prop:=eN P w K mg base "rank_of_voice" ["voice"] 1 (eU K 1 (xg K Cm))
def C6: {g:oG K Cm // ∀{P w mg base f fd},ee K "lead_by_voices" "lead_by_voices" HP f fd->d5 mg->P5 P w K mg base Cm->abf P w K mg base Cm->P4 P w K mg base Cm->cz P w K mg base cX 8 f fd ["master"] (cC K [true] (bp 2 [true] g))}:=⟨_,λF T xh IT xi=>iM F PH λ_ _ _ _ _ _ hr=>(aY (eM (Mc (pO (b9 xh hr rfl (bz (pv 0) (pln T.g7 (dQ (pv 0)))))))
   (di Vm) fN)
  (aY (gO 1 PH.nd (ZC IT hr rfl rfl T.sS rfl (fL (Bn (r:=Gu) (Zr rfl) rfl T.CJ LW (fL (ON (dQ (pv 0))))))))
  (aY (iE (b9 xi hr rfl (bz (pv 0) (pxx hr (pv 1) aX))))
  (aY (gZ (pv 0) (dQ (pv 0)))
  (aY (gZ (pv 0) aJ)
  (di (gZ (pv 0) vW)))))))⟩
def C7:List D->Option (D×List D):=bp 2 [true] (C6 K Cm).1
abbrev P6:Prop:=eN P w K mg base "lead_by_voices" ["master"] 8 (cC K [true] (C7 K Cm))
def IU: {g:oG K Cm // ∀{P w mg base f fd},ee K "others" "others" HQ f fd->d5 mg->cz P w K mg base cX 1 f fd ["master"] (eU K 1 (dN 1 g))}:=⟨_,λF T=>ml F aaT λ_ _ _ _ _ _ hr=>(e8 (p5 [none,some 0] ["number","master"] rfl (md ⟨⟨rfl,rfl, .inl rfl⟩,trivial⟩) (qE rfl T.oV (fL (dQ (pv 0)))) (λ_ _ _ _ _ _=>(gR 0 (by decide +kernel:(["number","master"]:List Str).Nodup))) (λ_ _ _ _ _ _=>(vY (cT (one hr.units) (pv 0) (dQ (pv 1))))) (λ_ _ _ _ _ _=>(pv 0))))⟩
def C8:List D->Option D:=dN 1 (IU K Cm).1
abbrev IV:Prop:=eN P w K mg base "others" ["master"] 1 (eU K 1 (C8 K Cm))
def IW: {g:oG K Cm // ∀{P w mg base f fd},ee K "rise" "Master.rise" HR f fd->d5 mg->abd P w K mg base Cm->P6 P w K mg base Cm->IV P w K mg base Cm->cz P w K mg base cX 9 f fd ["self"] (cC K [true] (bp 1 [true] g))}:=⟨_,λF T IX xj rn=>iM F aaU λ_ _ _ _ _ _ hr=>(aY (gZ (pv 0) (b9 IX hr rfl (fL (pv 0))))
  (aY (gZ (pv 0) aJ)
  (aY (gZ (pv 0) (OM (dQ (pv 0)) (gu (bz (dQ (pv 0)) (Ad T.sR (dQ (pv 0)))))))
  (aY (iE (b9 xj hr rfl (fL (pv 0))))
  (e8 (p5 [none,some 0] ["other","self"] rfl (md ⟨⟨rfl,rfl, .inl rfl⟩,trivial⟩) (sQ (b9 rn hr rfl (fL (pv 0)))) (λ_ _ _ _ _ _=>(gR 0 (by decide +kernel:(["other","self"]:List Str).Nodup))) (λ_ _ _ _ _ _=>sh) (λ_ _ _ _ _ _=>(gu (bh aJ (bh (dQ (pv 1)) (bz (pv 0) (dQ (pv 1)))))))))))))⟩
def Ao:List D->Option (D×List D):=bp 1 [true] (IW K Cm).1
abbrev abg:Prop:=nM P w K mg base Cm "rise" ["self"] 9 (cC K [true] (Ao K Cm))
def IY: {g:oG K Cm // ∀{P w mg base f fd},ee K "count_done" "count_done" HS f fd->d5 mg->IV P w K mg base Cm->P5 P w K mg base Cm->cz P w K mg base cX 3 f fd ["master"] (cC K [true] (bp 3 [true] g))}:=⟨_,λF T rn xh=>iM F Im λ_ _ _ _ _ _ hr=>(aY (gO 1 Im.nd (eZ ju (p5 [none,some 0] ["other","master"] rfl (md ⟨⟨rfl,rfl, .inl rfl⟩,trivial⟩) (sQ (b9 rn hr rfl (fL (pv 0)))) (λ_ _ _ _ _ _=>(gR 0 (by decide +kernel:(["other","master"]:List Str).Nodup))) (λ_ _ _ _ _ _=>sh) (λ_ _ _ _ _ _=>(Fc (gv hr) (dQ (pv 1)) (pv 0) aX ⟨rfl,rfl,rfl,rfl⟩))) (iV (fL (pln T.g7 (dQ (pv 0)))))))
  (aY (BF (k:=2) [none,some 0,some 1] ["size","master","sizes"] rfl (md ⟨⟨rfl,rfl, .inl rfl⟩,⟨⟨rfl,rfl, .inl rfl⟩,trivial⟩⟩) Im.nd rfl (vm rfl) (sQ (pv 1)) (λ_ _ _ _ _ _=>(gR 0 (by decide +kernel:(["size","master","sizes"]:List Str).Nodup))) (λ_ _ _ _ _ _=>(vY (pO (b9 xh hr rfl (bz (pv 1) (pln T.g7 (p5 [none,some 0] ["other","size"] rfl (md ⟨⟨rfl,rfl,(by first | exact .inl rfl | exact .inr rfl)⟩,trivial⟩) (sQ (pv 2)) (λ_ _ _ _ _ _=>(gR 0 (by decide +kernel:(["other","size"]:List Str).Nodup))) (λ_ _ _ _ _ _=>(vY (cT Bk (pv 0) (pv 1)))) (λ_ _ _ _ _ _=>(pv 0))))))))) (λ_ _ _ _ _ _=>(pv 0)))
  (di (gZ (pv 0) (kQ (r:=(GU K)) (ZL rfl) rfl T.sS vq (fL (eZ ju (iV (fL (dQ (pv 0)))) (pv 2))))))))⟩
def IZ:List D->Option (D×List D):=bp 3 [true] (IY K Cm).1
abbrev P7:Prop:=eN P w K mg base "count_done" ["master"] 3 (cC K [true] (IZ K Cm))
def Ap: {g:oG K Cm // ∀{P w mg base f fd},ee K "hear_kept" "hear_kept" HU f fd->d5 mg->P7 P w K mg base Cm->cz P w K mg base cX 5 f fd ["master","sender","term","size"] (cC K [true,false,false,false] (bp 4 [true,false,false,false] g))}:=⟨_,λF T xk=>iM F aaV λ_ _ _ _ _ _ hr=>(aY (eM (PW.pt (om (cT (gQ hr.units) (dQ (pv 0)) aJ) (rM (cT (gQ hr.units) (pv 2) (dQ (pv 0))))))
   (aY (mK (gv hr) (dQ (pv 0)) (pv 1) (kQ (r:=uq) (yN rfl) rfl T.sS vq (bz (pv 3) (Fc (gv hr) (dQ (pv 0)) (pv 1) aX ⟨rfl,rfl,rfl,rfl⟩))) rfl)
  (di (iE (b9 xk hr rfl (fL (pv 0)))))) fN)
  (e8 (iV gM)))⟩
def Aq:List D->Option (D×List D):=bp 4 [true,false,false,false] (Ap K Cm).1
abbrev abh:Prop:=eN P w K mg base "hear_kept" ["master","sender","term","size"] 5 (cC K [true,false,false,false] (Aq K Cm))
def I0: {g:oG K Cm // ∀{P w mg base f fd},ee K "rows_told" "rows_told" HV f fd->d5 mg->IK P w K mg base Cm->cz P w K mg base cX 5 f fd ["master"] (eU K 1 (dN 2 g))}:=⟨_,λF T oY=>ml F PJ λ_ _ _ _ _ _ hr=>(aY (gO 1 PJ.nd (Ad T.sR (dQ (pv 0))))
  (e8 (El (pO (dQ (pv 0))) (pv 1) (b9 oY hr rfl (fL (pv 1))))))⟩
def I8:List D->Option D:=dN 2 (I0 K Cm).1
abbrev P8:Prop:=eN P w K mg base "rows_told" ["master"] 5 (eU K 1 (I8 K Cm))
def C9: {g:oG K Cm // ∀{P w mg base f fd},ee K "hear_stand" "hear_stand" HW f fd->d5 mg->P8 P w K mg base Cm->cz P w K mg base cX 6 f fd ["master","sender","term"] (cC K [true,false,false] (bp 3 [true,false,false] g))}:=⟨_,λF T xl=>iM F aaW λ_ _ _ _ _ _ hr=>(aY (eM (cT Vy (pv 2) (dQ (pv 0)))
   (e8 (iV gM)) fN)
  (aY (gZ (pv 0) (pv 2))
  (aY (gZ (pv 0) aJ)
  (e8 (iV (fL (gu (bh aJ (bh (dQ (pv 0)) (bh (pv 1) (bh (pv 2) (bz (dQ (pv 0)) (b9 xl hr rfl (fL (pv 0)))))))))))))))⟩
def Dc:List D->Option (D×List D):=bp 3 [true,false,false] (C9 K Cm).1
abbrev abi:Prop:=eN P w K mg base "hear_stand" ["master","sender","term"] 6 (cC K [true,false,false] (Dc K Cm))
def As: {g:oG K Cm // ∀{P w mg base f fd},ee K "hear_voice" "hear_voice" HX f fd->d5 mg->IK P w K mg base Cm->P6 P w K mg base Cm->cz P w K mg base cX 9 f fd ["master","sender","term","of","rows"] (cC K [true,false,false,false,false] (bp 5 [true,false,false,false,false] g))}:=⟨_,λF T oY xj=>iM F aaX λ_ _ _ _ _ _ hr=>(aY (eM (PW.pt (om (cT (gQ hr.units) (dQ (pv 0)) aJ) (rM (cT (gQ hr.units) (pv 2) (dQ (pv 0))))))
   (aY (mK (gv hr) (dQ (pv 0)) (pv 1) (gu (bz (pv 3) (b9 oY hr rfl (fL (pv 4))))) rfl)
  (di (iE (b9 xj hr rfl (fL (pv 0)))))) fN)
  (e8 (iV gM)))⟩
def Au:List D->Option (D×List D):=bp 5 [true,false,false,false,false] (As K Cm).1
abbrev abj:Prop:=eN P w K mg base "hear_voice" ["master","sender","term","of","rows"] 9 (cC K [true,false,false,false,false] (Au K Cm))
def Av: {g:oG K Cm // ∀{P w mg base f fd},ee K "hear_keep" "hear_keep" HY f fd->d5 mg->P4 P w K mg base Cm->cz P w K mg base cX 8 f fd ["master","sender","term","rows","done"] (cC K [true,false,false,false,false] (bp 5 [true,false,false,false,false] g))}:=⟨_,λF T xi=>iM F aaY λ_ _ _ _ _ _ hr=>(aY (eM (cT rT (pv 2) (dQ (pv 0)))
   (e8 (iV gM)) fN)
  (aY (gZ (pv 0) (pv 2))
  (aY (gZ (pv 0) aJ)
  (aY (eM (PW.pt (yf (cT rT (dQ (pv 0)) (pv 2)) (ye (cT ox (pln T.g7 (pv 3)) (pln T.g7 (dQ (pv 0)))))))
   (aY (iE (b9 xi hr rfl (bz (pv 0) (pv 3))))
  (di (gZ (pv 0) (pv 2)))) fN)
  (aY (gZ (pv 0) (kQ (r:=uq) (yN rfl) rfl T.sS vq (bz (dQ (pv 0)) (kQ (r:=B0) (Ow rfl) rfl T.Pw ahb (bz (pv 4) (pln T.g7 (dQ (pv 0))))))))
  (e8 (iV (fL (gu (bh aJ (bh (dQ (pv 0)) (bh (pv 1) (bz (pv 2) (pln T.g7 (dQ (pv 0))))))))))))))))⟩
def Aw:List D->Option (D×List D):=bp 5 [true,false,false,false,false] (Av K Cm).1
abbrev abk:Prop:=eN P w K mg base "hear_keep" ["master","sender","term","rows","done"] 8 (cC K [true,false,false,false,false] (Aw K Cm))
def xm: {g:oG K Cm // ∀{P w mg base f fd},ee K "hear" "Master.hear" HZ f fd->d5 mg->abi P w K mg base Cm->abj P w K mg base Cm->abk P w K mg base Cm->abh P w K mg base Cm->cz P w K mg base cX 10 f fd ["self","message"] (cC K [true,false] (bp 2 [true,false] g))}:=⟨_,λF T I9 Ja Jb Jc=>iM F aaZ λ_ _ _ _ _ _ hr=>(aY (eM (cT (gQ hr.units) (pxx hr (pv 1) aX) aJ)
   (e8 (b9 I9 hr rfl (bh (pv 0) (bz (pxx hr (pv 1) aX) (pxx hr (pv 1) aX))))) fN)
  (aY (eM (cT (gQ hr.units) (pxx hr (pv 1) aX) aJ)
   (e8 (b9 Ja hr rfl (bh (pv 0) (bh (pxx hr (pv 1) aX) (bh (pxx hr (pv 1) aX) (bz (pxx hr (pv 1) aX) (pxx hr (pv 1) aX))))))) fN)
  (aY (eM (cT (gQ hr.units) (pxx hr (pv 1) aX) aJ)
   (e8 (b9 Jb hr rfl (bh (pv 0) (bh (pxx hr (pv 1) aX) (bh (pxx hr (pv 1) aX) (bz (pxx hr (pv 1) aX) (pxx hr (pv 1) aX))))))) fN)
  (e8 (b9 Jc hr rfl (bh (pv 0) (bh (pxx hr (pv 1) aX) (bz (pxx hr (pv 1) aX) (pxx hr (pv 1) aX)))))))))⟩
def sU:List D->Option (D×List D):=bp 2 [true,false] (xm K Cm).1
abbrev abl:Prop:=nM P w K mg base Cm "hear" ["self","message"] 10 (cC K [true,false] (sU K Cm))
def Jd: {g:oG K Cm // ∀{P w mg base f fd},ee K "_law_heard" "_law_heard" H9 f fd->d5 mg->IH P w K mg base Cm->abl P w K mg base Cm->cz P w K mg base cX 11 f fd ["_law_world","_law_k","_law_stays"] (cC K [true,false,false] (bp 4 [true,false,false] g))}:=⟨_,λF T oZ Je=>iM F PL λ_ _ _ _ _ _ hr=>(aY (gO 3 PL.nd (pxx hr (pxx hr (pv 0) aJ) (pv 1)))
  (aY (eM (Mc (pO (pv 2)))
   (di (mK (gv hr) (pv 0) aJ (eZ ju (r9 (r:=lZ K) sF (pxx hr (pv 0) aJ) rZ (r6 (pv 1))) (r9 (r:=lZ K) sF (pxx hr (pv 0) aJ) (r6 (eZ ju (pv 1) aX)) rZ)) rfl)) fN)
  (di (iE (b9 oZ hr rfl (bh (pv 0) (bh (pxx hr (pv 3) aX) (bh aJ (bz (pv 3) (zF (OL Je hr (pxx hr (pxx hr (pv 0) aJ) (pxx hr (pv 3) aX)) (fL (pv 3)))))))))))))⟩
def xn:List D->Option (D×List D):=bp 4 [true,false,false] (Jd K Cm).1
abbrev P9:Prop:=eN P w K mg base "_law_heard" ["_law_world","_law_k","_law_stays"] 11 (cC K [true,false,false] (xn K Cm))
def Jf: {g:oG K Cm // ∀{P w mg base f fd},ee K "_law_carried" "_law_carried" Ia f fd->d5 mg->Aj P w K mg base Cm->P9 P w K mg base Cm->cz P w K mg base cX 12 f fd ["_law_world","_law_left_here","_law_words","_law_whole"] (cC K [true,true,false,false] (bp 7 [true,true,false,false] g))}:=⟨_,λF T jj xo=>iM F Ah λ_ _ _ _ _ _ hr=>(di (qF tL rfl (qE rfl T.oV (fL aX)) (gR 4 Ah.nd)
   (aY (gO 5 Ah.nd aX)
  (di (qF tL rfl (qE rfl T.oV (fL (pln T.g7 (pxx hr (pv 0) aJ)))) (gR 6 Ah.nd)
   (di (eM (PW.pt (om (cT rT (pv 5) (pln T.g7 (pxx hr (pv 0) aJ))) (om (Mu (aaF (gv hr)) (pxx hr (pxx hr (pxx hr (pv 0) aJ) (pv 5)) aX) (pv 2) (by with_unfolding_all rfl)) (rM (PW.pt (yf (pO (pv 3)) (ye (cT ox (b9 jj hr rfl (bz (pv 1) aX)) aX))))))))
   (di (iE (b9 xo hr rfl (bh (pv 0) (bz (pv 5) vA))))) (di (gO 5 Ah.nd (eZ ju (pv 5) aX))))))))))⟩
def De:List D->Option (D×List D):=bp 7 [true,true,false,false] (Jf K Cm).1
abbrev abm:Prop:=eN P w K mg base "_law_carried" ["_law_world","_law_left_here","_law_words","_law_whole"] 12 (cC K [true,true,false,false] (De K Cm))
def Jh: {g:oG K Cm // ∀{P w mg base f fd},ee K "_law_leader" "_law_leader" Ib f fd->d5 mg->Aj P w K mg base Cm->cz P w K mg base cX 3 f fd ["_law_world","_law_left_here"] (cC K [false,true] (bp 4 [false,true] g))}:=⟨_,λF T jj=>iM F Ip λ_ _ _ _ _ _ hr=>(aY (gO 2 Ip.nd (pxx hr (pv 0) aJ))
  (aY (BF (k:=3) [none] ["_law_one"] rfl (md trivial) Ip.nd rfl (vm rfl) (sQ (pv 2)) (λ_ _ _ _ _ _=>(gR 0 BW)) (λ_ _ _ _ _ _=>(vY (cT (gQ hr.units) (dQ (pv 0)) aJ))) (λ_ _ _ _ _ _=>(gu (bz (dQ (pv 0)) (dQ (pv 0))))))
  (aY (eM (PW.pt (yf (cT (gQ hr.units) (pv 3) (iV gM)) (ye (cT (gQ hr.units) (b9 jj hr rfl (bz (pv 1) aX)) aX))))
   (e8 (b9 jj hr rfl (bz (pv 1) (pln T.g7 (pv 2))))) fN)
  (e8 (pxx hr (kQ (r:=Hb K) (Z5 (gv hr) rfl) rfl T.sS vq (fL (pv 3))) aX)))))⟩
def Df:List D->Option (D×List D):=bp 4 [false,true] (Jh K Cm).1
abbrev Qa:Prop:=eN P w K mg base "_law_leader" ["_law_world","_law_left_here"] 3 (cC K [false,true] (Df K Cm))
def Dg: {g:oG K Cm // ∀{P w mg base f fd},ee K "send" "Master.send" Ic f fd->d5 mg->IV P w K mg base Cm->P8 P w K mg base Cm->cz P w K mg base cX 6 f fd ["self"] (eU K 1 (dN 1 g))}:=⟨_,λF T rn xl=>ml F aa0 λ_ _ _ _ _ _ hr=>(aY (eM (cT (one hr.units) (dQ (pv 0)) aJ)
   (e8 (iV gM)) fN)
  (e8 (p5 [none,some 0] ["other","self"] rfl (md ⟨⟨rfl,rfl, .inl rfl⟩,trivial⟩) (sQ (b9 rn hr rfl (fL (pv 0)))) (λ_ _ _ _ _ _=>(gR 0 (by decide +kernel:(["other","self"]:List Str).Nodup))) (λ_ _ _ _ _ _=>sh) (λ_ _ _ _ _ _=>(gu (bh aJ (bh (dQ (pv 1)) (bh (pv 0) (bh (dQ (pv 1)) (bz (b9 xl hr rfl (fL (pv 1))) (dQ (pv 1))))))))))))⟩
def sV:List D->Option D:=dN 1 (Dg K Cm).1
abbrev Qb:Prop:=nM P w K mg base Cm "send" ["self"] 6 (eU K 1 (sV K Cm))
def Dh: {g:oG K Cm // ∀{P w mg base f fd},ee K "add" "Master.add" Ie f fd->d5 mg->P0 P w K mg base Cm->P7 P w K mg base Cm->Qb P w K mg base Cm->cz P w K mg base cX 7 f fd ["self","row"] (cC K [true,false] (bp 2 [true,false] g))}:=⟨_,λF T xf xk xp=>iM F aa1 λ_ _ _ _ _ _ hr=>(aY (eM (cT (one hr.units) (dQ (pv 0)) aJ)
   (e8 vB) fN)
  (aY (iE (b9 xf hr rfl (bz (pv 0) (gu (fL (pv 1))))))
  (aY (iE (b9 xk hr rfl (fL (pv 0))))
  (e8 (Ca xp hr (pv 0))))))⟩
def rq:List D->Option (D×List D):=bp 2 [true,false] (Dh K Cm).1
abbrev abn:Prop:=nM P w K mg base Cm "add" ["self","row"] 7 (cC K [true,false] (rq K Cm))
def Ji: {g:oG K Cm // ∀{P w mg base f fd},ee K "_law_added" "_law_added" Ig f fd->d5 mg->Qa P w K mg base Cm->Aj P w K mg base Cm->IH P w K mg base Cm->abn P w K mg base Cm->cz P w K mg base cX 8 f fd ["_law_world","_law_left_here"] (cC K [true,true] (bp 5 [true,true] g))}:=⟨_,λF T xq jj oZ Jj=>iM F CL λ_ _ _ _ _ _ hr=>(aY (gO 2 CL.nd (b9 xq hr rfl (bz (pv 0) (pv 1))))
  (di (qF tL rfl (qE rfl T.oV (fL (eZ ju aX (b9 jj hr rfl (bz (pv 1) aX))))) (gR 3 CL.nd)
   (aY (mK (gv hr) (pv 0) aJ (eZ ju (pxx hr (pv 0) aJ) aX) rfl)
  (aY (gO 4 CL.nd (gu (bz aJ (pxx hr (iV (bz (pxx hr (pv 0) aJ) aX)) (eZ Nm (b9 jj hr rfl (bz (pv 1) aX)) aX)))))
  (di (iE (b9 oZ hr rfl (bh (pv 0) (bh (pv 2) (bh aJ (bz (pv 4) (zF (OL Jj hr (pxx hr (pxx hr (pv 0) aJ) (pv 2)) (fL (pv 4))))))))))))))))⟩
def Di:List D->Option (D×List D):=bp 5 [true,true] (Ji K Cm).1
abbrev abo:Prop:=eN P w K mg base "_law_added" ["_law_world","_law_left_here"] 8 (cC K [true,true] (Di K Cm))
def Jk: {g:oG K Cm // ∀{P w mg base f fd},ee K "fall" "Master.fall" Ih f fd->d5 mg->cz P w K mg base cX 1 f fd ["self"] (cC K [true] (bp 1 [true] g))}:=⟨_,λF T=>iM F aa2 λ_ _ _ _ _ _ hr=>(aY (gZ (pv 0) aJ)
  (aY (gZ (pv 0) aX)
  (e8 (iV gM))))⟩
def Ax:List D->Option (D×List D):=bp 1 [true] (Jk K Cm).1
abbrev abp:Prop:=nM P w K mg base Cm "fall" ["self"] 1 (cC K [true] (Ax K Cm))
def Jl: {g:oG K Cm // ∀{P w mg base f fd},ee K "_law_road" "_law_road" Ii f fd->d5 mg->Aj P w K mg base Cm->IH P w K mg base Cm->abg P w K mg base Cm->abm P w K mg base Cm->abo P w K mg base Cm->abp P w K mg base Cm->Qa P w K mg base Cm->Qb P w K mg base Cm->P9 P w K mg base Cm->cz P w K mg base cX 13 f fd ["_law_world","_law_left_here"] (cC K [true,true] (bp 6 [true,true] g))}:=⟨_,λF T jj oZ Jn Ay Jo Jp xq xp xo=>iM F w5 λ_ _ _ _ _ _ hr=>(aY (gO 2 w5.nd (b9 jj hr rfl (bz (pv 1) aX)))
  (aY (gO 3 w5.nd (b9 jj hr rfl (bz (pv 1) (pln T.g7 (pxx hr (pv 0) aJ)))))
  (aY (gO 4 w5.nd (pxx hr (pxx hr (pv 0) aJ) (pv 3)))
  (di (eM (cT rT (pv 2) aX)
   (aY (iE (b9 oZ hr rfl (bh (pv 0) (bh (pv 3) (bh aJ (bz vB (zF (Ca Jn hr (pv 4)))))))))
  (di (eM (cT ox (pv 2) aX)
   (di (iE (b9 Ay hr rfl (bh (pv 0) (bh (pv 1) (bz (gu (bz aJ aJ)) (CI (gQ hr.units) (pv 2) aX))))))) fN))) (di (eM (cT rT (pv 2) aX)
   (aY (iE (b9 Jo hr rfl (bz (pv 0) (pv 1))))
  (di (eM (cT ox (pv 2) aX)
   (di (iE (b9 Ay hr rfl (bh (pv 0) (bh (pv 1) (bz (gu (bz aJ aJ)) (CI (gQ hr.units) (pv 2) aX))))))) fN))) (di (eM (cT (gQ hr.units) (pv 2) aX)
   (di (iE (b9 oZ hr rfl (bh (pv 0) (bh (pv 3) (bh aJ (bz vB (zF (Ca Jp hr (pv 4)))))))))) (di (eM (cT (gQ hr.units) (pv 2) aX)
   (aY (gO 3 w5.nd (b9 xq hr rfl (bz (pv 0) (pv 1))))
  (aY (iE (b9 oZ hr rfl (bh (pv 0) (bh (pv 3) (bh aJ (bz vB (zF (Ca xp hr (pxx hr (pxx hr (pv 0) aJ) (pv 3))))))))))
  (di (iE (b9 Ay hr rfl (bh (pv 0) (bh (pv 1) (bz (gu (bz aJ aJ)) vA)))))))) (di (eM (cT (gQ hr.units) (pv 2) aX)
   (di (mK (gv hr) (pv 0) aJ (r9 (r:=lZ K) sF (pxx hr (pv 0) aJ) (r6 (b9 jj hr rfl (bz (pv 1) aX))) rZ) rfl)) (di (qF tL rfl (qE rfl T.oV (fL (eZ ju aX (b9 jj hr rfl (bz (pv 1) aX))))) (gR 5 w5.nd)
   (di (eM (cT ox (pln T.g7 (pxx hr (pv 0) aJ)) aX)
   (di (iE (b9 xo hr rfl (bh (pv 0) (bz (b9 jj hr rfl (bz (pv 1) (pln T.g7 (pxx hr (pv 0) aJ)))) (CI (gQ hr.units) (b9 jj hr rfl (bz (pv 1) aX)) aX)))))) fN)))))))))))))))))⟩
def Dj:List D->Option (D×List D):=bp 6 [true,true] (Jl K Cm).1
abbrev abq:Prop:=eN P w K mg base "_law_road" ["_law_world","_law_left_here"] 13 (cC K [true,true] (Dj K Cm))
end
end K31
namespace WM
open PySem L2 VL
structure MS where
 te:Int
 o:Int
 L:List D
 dn:Int
 role:Str
 vo:List (Int×Int×List D)
 si:List (Int×Int)
inductive dG where
 |ja (sn to t:Int)
 |ib (sn to t o:Int) (R:List D)
 |keep (sn to t:Int) (R:List D) (dn:Int)
 |kept (sn to t z:Int)
noncomputable def dG.to:dG->Int
 |.ja _ i _=>i
 |.ib _ i _ _ _=>i
 |.keep _ i _ _ _=>i
 |.kept _ i _ _=>i
noncomputable def dG.word:dG->Str
 |.ja ..=>"stand"
 |.ib ..=>"voice"
 |.keep ..=>"keep"
 |.kept ..=>"kept"
def dG.ok(b:Nat):dG->Prop
 |.ib _ _ _ _ R=>cQ R/\R.length<=b
 |.keep _ _ _ R _=>cQ R/\R.length<=b
 |_=>True
def aD:dG->D
 |.ja sn i t=> .nd .tup [sD "stand",iD sn,iD i,iD t]
 |.ib sn i t o R=> .nd .tup [sD "voice",iD sn,iD i,iD t,iD o, .nd .tup R]
 |.keep sn i t R dn=> .nd .tup [sD "keep",iD sn,iD i,iD t, .nd .tup R,iD dn]
 |.kept sn i t z=> .nd .tup [sD "kept",iD sn,iD i,iD t,iD z]
def ic(v:Int×List D):D:= .nd .tup [iD v.1, .nd .tup v.2]
def el(vo:List (Int×Int×List D)):D:= .nd (.az (vo.map λp=> .inl p.1)) (vo.map λp=>ic p.2)
def bC(S:List (Int×Int)):D:= .nd (.az (S.map λp=> .inl p.1)) (S.map λp=>iD p.2)
noncomputable def cx:List (Int×Int)->Int->Int
 | [],_=>0
 |p::S,i=>if p.1=i then p.2 else cx S i
theorem Qc:∀(S:List (Int×Int)) (i:Int),(match cZ (fB i:bw) (S.map λp=>(fB p.1:bw)) with | some k=>(S.map λp=>iD p.2)[k]? | none=>some (iD 0))=some (iD (cx S i))
 | [],_=>rfl
 |p::S,i=>by
  have ih:=Qc S i;by_cases h:p.1=i
  ·simp[cZ,cx,h]
  ·have hk:¬ (fB p.1:bw)=fB i:=λz=>h (DR z);rw[eI,eI,cZ,if_neg hk,cx,if_neg h];cases e:cZ (fB i:bw) (S.map λp=>(fB p.1:bw)) with
   |none=>rw[e]at ih;exact ih
   |some k=>rw[e]at ih;simpa using ih
theorem Jq(S:List (Int×Int))(i:Int):(cY (bC S) (iD i)).bind (fun | some k=>aU (bC S) k | none=>some (iD 0))=some (iD (cx S i)):=Qc S i
theorem ints_map:∀(ns:List Int),tf (ns.map iD)=some ns
 | []=>rfl
 |n::ns=>by rw[eI,tf,ints_map ns];rfl
theorem Qd(ns:List Int):VL.aK (ns.map iD)=true:=qN λd hd=>by
 obtain⟨i,_,rfl⟩:=i0.mp hd;rfl
theorem uM(nu:Int)(m:Nat):(gw nu m).length<=m:=by
 unfold gw;exact bO (UH _ _) (by rw[A5];exact bX _)
def dA(nu:Int)(m:Nat)(S:List (Int×Int))(n:Nat):List Int:=(gw nu m).map (λi:Nat=>cx S i)++ [(n:Int)]
noncomputable def most (m:Nat) (zs:List Int) (z:Int):Bool:=decide ((m:Int) < 2 * ((zs.filter λx=>decide (z<=x)).length:Nat))
theorem abr(nu:Int)(m:Nat)(S:List (Int×Int))(n:Nat):(dA nu m S n).length<=m + 1:=by
 unfold dA;have:=uM nu m;simp
 lia
def Dk(nu te:Int)(L:List D)(dn:Int)(i:Nat):D:=aD (.keep nu i te L dn)
def xr(nu te:Int)(m:Nat)(L:List D)(dn:Int):List D:=(gw nu m).map (Dk nu te L dn)
noncomputable def eG {α:Type}:List (Int×α)->Int->α->List (Int×α)
 | [],i,x=> [(i,x)]
 |p::r,i,x=>if p.1=i then(i,x)::r else p::eG r i x
def cE(C:Addr)(m:Nat)(nu:Int)(s:MS):D:=mD C nu m s.te s.o s.L s.dn s.role (el s.vo) (bC s.si)
def o4(b v:Int×List D):Int×List D:=if iW v.1 v.2.length b.1 b.2.length=true then v else b
def gF(v:Int×List D)(r:List (Int×Int×List D)):Int×List D:=r.foldl (λb p=>o4 b p.2) v
def gj(m:Nat)(s:MS):MS:=if(m:Int) < 2 * (s.vo.length:Nat) then(match s.vo with
 | []=>s
 |v::r=> { s with L:=(gF v.2 r).2,o:=s.te,role:="leads",si:= [] }) else s
def count(m:Nat)(nu:Int)(s:MS):MS:= { s with dn:=gD s.dn ((dA nu m s.si s.L.length).filter (most m (dA nu m s.si s.L.length))) }
def rise(m:Nat)(nu:Int)(s:MS):MS:=gj m { s with te:=gE nu m s.te,role:="stands",vo:= [(nu,s.o,s.L)] }
def j0(m:Nat)(nu t:Int):List dG:=(gw nu m).map λi:Nat=> .ja nu i t
def keeps(m:Nat)(nu:Int)(s:MS):List dG:=(gw nu m).map λi:Nat=> .keep nu i s.te s.L s.dn
def ij(m:Nat)(nu:Int)(r:D)(s:MS):MS×Option (List dG):=if s.role="leads" then(count m nu { s with L:=s.L++ [r] },some (keeps m nu (count m nu { s with L:=s.L++ [r] }))) else(s,none)
def sends(m:Nat)(nu:Int)(s:MS):List dG:=if s.role="leads" then keeps m nu s else []
noncomputable def kC (s:MS):MS:= { s with role:="hears",dn:=0 }
noncomputable def kept (s:MS) (t:Int) (R:List D):MS:=if s.o < t\/(s.L.length:Int) < R.length then { s with te:=t,role:="hears",L:=R,o:=t } else { s with te:=t,role:="hears" }
def bI(m:Nat)(nu:Int)(s:MS):dG->MS×List dG
 |.ja sn _ t=>if t<=s.te then(s, []) else({ s with te:=t,role:="hears" }, [.ib nu sn t s.o s.L])
 |.ib sn _ t o R=>if s.role="stands"/\t=s.te then(gj m { s with vo:=eG s.vo sn (o,R) }, []) else(s, [])
 |.keep sn _ t R dn=>if t < s.te then(s, []) else({ kept s t R with dn:=if(if((kept s t R).L.length:Int) < dn then((kept s t R).L.length:Int) else dn) > s.dn then(if((kept s t R).L.length:Int) < dn then((kept s t R).L.length:Int) else dn) else s.dn }, [.kept nu sn t (kept s t R).L.length])
 |.kept sn _ t z=>if s.role="leads"/\t=s.te then(count m nu { s with si:=eG s.si sn (if cx s.si sn > z then cx s.si sn else z) }, []) else(s, [])
noncomputable def s0:MS:=⟨0,0, [],0,"hears", [], []⟩
structure Wf(b:Nat)(s:MS):Prop where
 rows:cQ s.L
 len:s.L.length<=b
 role:s.role="hears"\/s.role="stands"\/s.role="leads"
 vn:(s.vo.map (·.1)).Nodup
 vl:s.vo.length<=50
 vr:∀p∈s.vo,cQ p.2.2/\p.2.2.length<=b
 sn:(s.si.map (·.1)).Nodup
 sl:s.si.length<=50
theorem uN(h:f (bM n bB ds)=some (.nx ρ'))(ho:cg (ρ'.drop n)=some o):bp n bB f ds=some (.sc .aE,o):=by
 unfold bp;rw[h];show(cg (ρ'.drop n)).map _=_;rw[ho];rfl
theorem og(role:Str)(h:iN role=true):bZ (!·) (.sc (.str role)) (.sc (.str "leads"))=some (.sc (.bl (decide (role≠"leads")))):=zd _ _ h (by decide +kernel)
theorem abt(h:jY d):Ex 1 d:=by
 cases h with
 |a s k hs=>
  refine .tup 0 _ λd hd=> ?_;simp only[fX,oe,or_false]at hd;rcases hd with rfl | rfl
  ·exact .str _ _ hs
  ·exact .int _ _
 |b s k t hs=>
  refine .tup 0 _ λd hd=> ?_;simp only[fX,oe,or_false]at hd;rcases hd with rfl | rfl | rfl
  ·exact .str _ _ hs
  ·exact .int _ _
  ·exact .int _ _
 |c s k t hs ht=>
  refine .tup 0 _ λd hd=> ?_;simp only[fX,oe,or_false]at hd;rcases hd with rfl | rfl | rfl
  ·exact .str _ _ hs
  ·exact .int _ _
  ·exact .str _ _ ht
theorem Az(h:cQ L):Ex 2 (.nd .tup L):= .tup 1 _ λd hd=>abt (h d hd)
theorem Jr{α:Type}(R:List α)(k:Nat):cutD R none (some (k:Int))=R.take k:=by
 unfold cutD;rw[HT.MF,HT.EI,LO,UC];by_cases h:k<=R.length
 ·rw[ahd h]
 ·rw[ahe (by lia),LP,UI (by lia)]
theorem AA{α:Type}(R:List α)(k:Nat):cutD R (some (k:Int)) none=R.drop k:=by
 unfold cutD;rw[HT.MF,HT.EI];by_cases h:k<=R.length
 ·rw[ahd h];exact UI (by rw[xR];exact bX _)
 ·rw[ahe (by lia),LM,UD (by lia)];simp
theorem Qe(h:cQ L)(s:∀d∈M,d∈L):cQ M:=λd hd=>h d (s d hd)
theorem mZ{α:Type}:∀(l:List (Int×α)) (i:Int) (x:α) (p:Int×α),p∈eG l i x->p∈l\/p=(i,x)
 | [],i,x,p,h=> .inr (gf.mp h)
 |q::l,i,x,p,h=>by
  unfold eG at h
  split at h
  ·rcases fX.mp h with h | h
   ·exact .inr h
   ·exact .inl (.tail _ h)
  ·rcases fX.mp h with h | h
   ·exact .inl (by rw[h];exact .head _)
   ·exact(mZ l i x p h).imp (.tail _) id
theorem abu{α:Type}:∀(l:List (Int×α)) (i:Int) (x:α) (k:Int),k∈(eG l i x).map (·.1)->k∈l.map (·.1)\/k=i:=λl i x k h=>by
 obtain⟨p,hp,rfl⟩:=i0.mp h;rcases mZ l i x p hp with q | q
 ·exact .inl (UJ q)
 ·exact .inr (by rw[q])
theorem AB{α:Type}:∀(l:List (Int×α)) (i:Int) (x:α),(l.map (·.1)).Nodup->((eG l i x).map (·.1)).Nodup
 | [],i,x,_=>by simp[eG]
 |q::l,i,x,h=>by
  rw[eI,nc]at h;unfold eG
  split
  ·next c=>
   rw[eI,nc];exact⟨by rw[<- c];exact h.1,h.2⟩
  ·next c=>
   rw[eI,nc];refine⟨λz=> ?_,AB l i x h.2⟩;rcases abu l i x q.1 z with y | y
   ·exact h.1 y
   ·exact c y
theorem Js{α:Type}:∀(l:List (Int×α)) (i:Int) (x:α),(eG l i x).length<=l.length + 1
 | [],_,_=>by simp[eG]
 |q::l,i,x=>by
  have:=Js l i x;unfold eG
  split
  ·simp
  ·simp;lia
theorem Wf.mono{b c:Nat}{s:MS}(w:Wf b s)(h:b<=c):Wf c s:=⟨w.rows,bO w.len h,w.role,w.vn,w.vl,λp hp=>⟨(w.vr p hp).1,bO (w.vr p hp).2 h⟩,w.sn,w.sl⟩
theorem Dm:∀(m:Nat) (l:List Int),l.Nodup->(∀k∈l,0<=k/\k < m)->l.length<=m
 |0, [],_,_=>bX _
 |0,k::l,_,h=>by have:=h k (.head _);lia
 |m + 1,l,hn,h=>by
  have h1:=Dm m (l.filter λk=>decide (k≠(m:Int))) (hn.filter _) λk hk=>by
   obtain⟨h1,h2⟩:=mx.mp hk;have h2:k≠(m:Int):=by simpa using h2
   have:=h k h1
   lia
  have h2:(l.filter λk=> !decide (k≠(m:Int))).length<=1:=by
   have rV:=hn.filter (λk=> !decide (k≠(m:Int)));have ha:∀k∈l.filter (λk=> !decide (k≠(m:Int))),k=(m:Int):=λk hk=>by
    have:=(mx.mp hk).2;simpa using this
   generalize l.filter (λk=> !decide (k≠(m:Int)))=r at *
   match r,rV,ha with
   | [],_,_=>simp
   | [_],_,_=>simp
   |a::c::r,rV,ha=>
    exact absurd (by rw[ha a (.head _),ha c (.tail _ (.head _))];exact .head _) (nc.mp rV).1
  have h3:(l.filter λk=>decide (k≠(m:Int))).length + (l.filter λk=> !decide (k≠(m:Int))).length=l.length:=by
   clear h1 h2 hn h
   induction l with
   |nil=>rfl
   |cons a l ih=>
    by_cases c:a=(m:Int)
    ·simp[c]at ih |-;lia
    ·simp[c]at ih |-;lia
  lia
structure Wg(m b:Nat)(s:MS):Prop where
 wf:Wf b s
 vk:∀p∈s.vo,0<=p.1/\p.1 < m
 sk:∀p∈s.si,0<=p.1/\p.1 < m
theorem Wg.mono{m b c:Nat}{s:MS}(w:Wg m b s)(h:b<=c):Wg m c s:=⟨w.wf.mono h,w.vk,w.sk⟩
def dG.sn:dG->Int
 |.ja i _ _=>i
 |.ib i _ _ _ _=>i
 |.keep i _ _ _ _=>i
 |.kept i _ _ _=>i
structure la(m b:Nat)(g:dG):Prop where
 ok:g.ok b
 s0:0<=g.sn
 s1:g.sn < m
 t0:0<=g.to
 t1:g.to < m
theorem la.mono{m b c:Nat}{g:dG}(w:la m b g)(h:b<=c):la m c g:=⟨by
 have:=w.ok;cases g with
 |ja=>trivial
 |ib=>exact⟨this.1,bO this.2 h⟩
 |keep=>exact⟨this.1,bO this.2 h⟩
 |kept=>trivial,w.s0,w.s1,w.t0,w.t1⟩
theorem TK{α:Type}{m:Nat}(hm:m<=50){l:List (Int×α)}(hn:(l.map (·.1)).Nodup)(hk:∀p∈l,0<=p.1/\p.1 < m):l.length<=50:=by
 have:=Dm m (l.map (·.1)) hn λk h=>by
  obtain⟨p,hp,rfl⟩:=i0.mp h;exact hk p hp
 rw[eS]at this
 lia
theorem Qf:∀(r:List (Int×Int×List D)) (v:Int×List D),gF v r=v\/∃p∈r,gF v r=p.2
 | [],v=> .inl rfl
 |p::r,v=>by
  have e:gF v (p::r)=gF (o4 v p.2) r:=rfl;rw[e];rcases Qf r (o4 v p.2) with h | ⟨q,hq,h⟩
  ·rw[h];unfold o4
   split
   ·exact .inr ⟨p, .head _,rfl⟩
   ·exact .inl rfl
  ·exact .inr ⟨q, .tail _ hq,h⟩
theorem Qg{m b:Nat}{s:MS}(w:Wg m b s):Wg m b (gj m s):=by
 unfold gj
 split
 ·split
  ·exact w
  ·next v r e=>
   have hb:cQ (gF v.2 r).2/\(gF v.2 r).2.length<=b:=by
    rcases Qf r v.2 with h | ⟨p,hp,h⟩
    ·rw[h];exact w.wf.vr v (by rw[e];exact .head _)
    ·rw[h];exact w.wf.vr p (by rw[e];exact .tail _ hp)
   exact⟨⟨hb.1,hb.2, .inr (.inr rfl),w.wf.vn,w.wf.vl,w.wf.vr,LL,j8 _⟩,w.vk,λ_ h=>nomatch h⟩
 ·exact w
theorem Qh{m b:Nat}{nu:Int}{s:MS}(w:Wg m b s):Wg m b (count m nu s):=⟨⟨w.wf.rows,w.wf.len,w.wf.role,w.wf.vn,w.wf.vl,w.wf.vr,w.wf.sn,w.wf.sl⟩,w.vk,w.sk⟩
theorem Jt{m b:Nat}{nu:Int}{s:MS}(w:Wg m b s)(h0:0<=nu)(h1:nu < m):Wg m b (rise m nu s):=by
 refine Qg ⟨⟨w.wf.rows,w.wf.len, .inr (.inl rfl),by simp,by simp,λp hp=> ?_,w.wf.sn,w.wf.sl⟩,λp hp=> ?_,w.sk⟩
 ·rw[gf.mp hp];exact⟨w.wf.rows,w.wf.len⟩
 ·rw[gf.mp hp];exact⟨h0,h1⟩
theorem Ju{m b:Nat}{s:MS}(w:Wg m b s):Wg m b (kC s):=⟨⟨w.wf.rows,w.wf.len, .inl rfl,w.wf.vn,w.wf.vl,w.wf.vr,w.wf.sn,w.wf.sl⟩,w.vk,w.sk⟩
theorem Dn{m b:Nat}{nu:Int}{r:D}{s:MS}(w:Wg m b s)(hr:jY r):Wg m (b + 1) (ij m nu r s).1:=by
 unfold ij
 split
 ·refine Qh ⟨⟨w.wf.rows.app (cQ.one hr),by simp;exact w.wf.len,w.wf.role,w.wf.vn,w.wf.vl,(w.wf.mono (je b)).vr,w.wf.sn,w.wf.sl⟩,w.vk,w.sk⟩
 ·exact w.mono (je b)
theorem abv{m b:Nat}{s:MS}{t:Int}{R:List D}(w:Wg m b s)(hR:cQ R)(hz:R.length<=b):Wg m b (kept s t R):=by
 unfold kept
 split
 ·exact⟨⟨hR,hz, .inl rfl,w.wf.vn,w.wf.vl,w.wf.vr,w.wf.sn,w.wf.sl⟩,w.vk,w.sk⟩
 ·exact⟨⟨w.wf.rows,w.wf.len, .inl rfl,w.wf.vn,w.wf.vl,w.wf.vr,w.wf.sn,w.wf.sl⟩,w.vk,w.sk⟩
theorem Jv{m b:Nat}{nu:Int}{s:MS}{g:dG}(w:Wg m b s)(hg:la m b g)(hm:m<=50):Wg m b (bI m nu s g).1:=by
 cases g with
 |ja sn i t=>
  unfold bI;dsimp only
  split
  ·exact w
  ·exact⟨⟨w.wf.rows,w.wf.len, .inl rfl,w.wf.vn,w.wf.vl,w.wf.vr,w.wf.sn,w.wf.sl⟩,w.vk,w.sk⟩
 |ib sn i t o R=>
  unfold bI;dsimp only
  split
  ·have hn:=AB s.vo sn (o,R) w.wf.vn;have hk:∀p∈eG s.vo sn (o,R),0<=p.1/\p.1 < m:=λp hp=>by
    rcases mZ s.vo sn (o,R) p hp with h | h
    ·exact w.vk p h
    ·rw[h];exact⟨hg.s0,hg.s1⟩
   refine Qg ⟨⟨w.wf.rows,w.wf.len,w.wf.role,hn,TK hm hn hk,λp hp=> ?_,w.wf.sn,w.wf.sl⟩,hk,w.sk⟩;rcases mZ s.vo sn (o,R) p hp with h | h
   ·exact w.wf.vr p h
   ·rw[h];exact hg.ok
  ·exact w
 |keep sn i t R dn=>
  unfold bI;dsimp only
  split
  ·exact w
  ·have k:=abv (t:=t) w hg.ok.1 hg.ok.2;exact⟨⟨k.wf.rows,k.wf.len,k.wf.role,k.wf.vn,k.wf.vl,k.wf.vr,k.wf.sn,k.wf.sl⟩,k.vk,k.sk⟩
 |kept sn i t z=>
  unfold bI;dsimp only
  split
  ·have hn:=AB s.si sn (if cx s.si sn > z then cx s.si sn else z) w.wf.sn;have hk:∀p∈eG s.si sn (if cx s.si sn > z then cx s.si sn else z),0<=p.1/\p.1 < m:=λp hp=>by
    rcases mZ s.si sn _ p hp with h | h
    ·exact w.sk p h
    ·rw[h];exact⟨hg.s0,hg.s1⟩
   exact Qh ⟨⟨w.wf.rows,w.wf.len,w.wf.role,w.wf.vn,w.wf.vl,w.wf.vr,hn,TK hm hn hk⟩,w.vk,hk⟩
  ·exact w
theorem Qi{nu:Int}{m i:Nat}(h:i∈gw nu m):i < m:=by
 unfold gw at h;exact AY.mp (mx.mp h).1
theorem Qj{m b:Nat}{nu t:Int}(h0:0<=nu)(h1:nu < m):∀g∈j0 m nu t,la m b g:=λg hg=>by
 obtain⟨i,hi,rfl⟩:=i0.mp hg;have:=Qi hi;exact⟨trivial,h0,h1,LX _,by show((i:Int) < m);lia⟩
theorem Jy{m b:Nat}{nu:Int}{s:MS}(w:Wg m b s)(h0:0<=nu)(h1:nu < m):∀g∈keeps m nu s,la m b g:=λg hg=>by
 obtain⟨i,hi,rfl⟩:=i0.mp hg;have:=Qi hi;exact⟨⟨w.wf.rows,w.wf.len⟩,h0,h1,LX _,by show((i:Int) < m);lia⟩
theorem Qk{m b:Nat}{nu:Int}{s:MS}(w:Wg m b s)(h0:0<=nu)(h1:nu < m):∀g∈sends m nu s,la m b g:=λg hg=>by
 unfold sends at hg
 split at hg
 ·exact Jy w h0 h1 g hg
 ·exact nomatch hg
theorem Ql{m b:Nat}{nu:Int}{s:MS}{g:dG}(w:Wg m b s)(hg:la m b g)(h0:0<=nu)(h1:nu < m):∀a∈(bI m nu s g).2,la m b a:=λa ha=>by
 cases g with
 |ja sn i t=>
  unfold bI at ha;dsimp only at ha
  split at ha
  ·exact nomatch ha
  ·rw[gf.mp ha];exact⟨⟨w.wf.rows,w.wf.len⟩,h0,h1,hg.s0,hg.s1⟩
 |ib sn i t o R=>
  unfold bI at ha;dsimp only at ha
  split at ha <;> exact nomatch ha
 |keep sn i t R dn=>
  unfold bI at ha;dsimp only at ha
  split at ha
  ·exact nomatch ha
  ·rw[gf.mp ha];exact⟨trivial,h0,h1,hg.s0,hg.s1⟩
 |kept sn i t z=>
  unfold bI at ha;dsimp only at ha
  split at ha <;> exact nomatch ha
theorem abw{m:Nat}{nu:Int}{s:MS}{g:dG}:(bI m nu s g).2.length<=1:=by
 cases g <;> (unfold bI;dsimp only;split <;> simp)
structure nY where
 i:Nat
 iz:Str
 fO:D
 told:Option (List dG)
 st:MS
def g8:Option (List dG)->D
 |some l=> .nd .eT (l.map aD)
 |none=> .sc .aE
def o5(s:MS):D:= .nd .tup [iD s.te,iD s.o, .nd .tup s.L,iD s.dn,sD s.role]
def gx(e:nY):D:= .nd .tup [iD e.i,sD e.iz,e.fO,g8 e.told,o5 e.st]
structure bE where
 ms:List MS
 way:List dG
 aT:List nY
 rows:Int
noncomputable def cu:List bw:= [.inr "masters", .inr "way", .inr "story", .inr "rows"]
def dg(C:Addr)(m:Nat)(ms:List MS):List D:=ms.mapIdx λi s=>cE C m i s
def wD(C:Addr)(m:Nat)(w:bE):D:= .nd (.az cu) [.nd .lst (dg C m w.ms), .nd .lst (w.way.map aD), .nd .lst (w.aT.map gx),iD w.rows]
noncomputable def m5 {α:Type} (l:List α):List α:=l.drop (l.length - 60)
def bE.note(w:bE)(i:Nat)(iz:Str)(fO:D)(told:Option (List dG))(s:MS):bE:= { w with ms:=w.ms.set i s,aT:=w.aT++ [⟨i,iz,fO,told,s⟩],way:=(match told with | some l=>m5 (w.way++l) | none=>w.way) }
theorem abx{α:Type}(l:List α):(m5 l).length<=60:=by unfold m5;rw[xR];lia
theorem Qm{α:Type}{l:List α}{x:α}(h:x∈m5 l):x∈l:=LN h
theorem aby{α:Type}(l:List α):cutD l (some (-60)) none=m5 l:=by
 unfold cutD m5;rw[HT.EI];have e:HT.bY l.length 0 (some (-60))=l.length - 60:=by
  show(if(-60:Int) < 0 then((-60:Int) + (l.length:Int)).toNat else min (-60:Int).toNat l.length)=_;rw[if_pos (by decide)]
  lia
 rw[e];exact UI (by rw[xR];exact bX _)
structure Ww(m:Nat)(w:bE):Prop where
 n:w.ms.length=m
 ms:∀s∈w.ms,Wg m w.aT.length s
 way:∀g∈w.way,la m w.aT.length g
 lT:w.way.length<=60
 st:∀e∈w.aT,VL.plain e.fO=true/\(∀l,e.told=some l->∀g∈l,g.ok w.aT.length)/\cQ e.st.L
theorem Ww.note{m:Nat}{w:bE}(h:Ww m w){i:Nat}{iz:Str}{fO:D}{told:Option (List dG)}{s:MS}(hs:Wg m (w.aT.length + 1) s)(hp:VL.plain fO=true)(ht:∀l,told=some l->∀g∈l,la m (w.aT.length + 1) g):Ww m (w.note i iz fO told s):=by
 have hl:(w.note i iz fO told s).aT.length=w.aT.length + 1:=by simp[bE.note]
 refine⟨by simp[bE.note,h.n], ?_, ?_, ?_, ?_⟩
 ·rw[hl];intro x hx;rcases List.mem_or_eq_of_mem_set hx with h1 | h1
  ·exact(h.ms x h1).mono (je _)
  ·rw[h1];exact hs
 ·rw[hl];intro g hg;cases told with
  |none=>exact(h.way g hg).mono (je _)
  |some l=>
   rcases kG.mp (Qm hg) with h1 | h1
   ·exact(h.way g h1).mono (je _)
   ·exact ht l rfl g h1
 ·cases told with
  |none=>exact h.lT
  |some l=>exact abx _
 ·rw[hl];intro e he;rcases kG.mp he with h1 | h1
  ·obtain⟨a,b,c⟩:=h.st e h1;refine⟨a,λl hl g hg=> ?_,c⟩;have:=b l hl g hg;cases g with
   |ja=>trivial
   |ib=>exact⟨this.1,ahf this.2⟩
   |keep=>exact⟨this.1,ahf this.2⟩
   |kept=>trivial
  ·rw[gf.mp h1];exact⟨hp,λl hl g hg=>(ht l hl g hg).ok,hs.wf.rows⟩
theorem Jz(h:g.ok b):VL.plain (aD g)=true:=by
 cases g with
 |ja=>simp[aD,VL.plain,VL.aK]
 |ib sn i t o R=>have:=h.1.plain;simp[aD,VL.plain,VL.aK,this]
 |keep sn i t R dn=>have:=h.1.plain;simp[aD,VL.plain,VL.aK,this]
 |kept=>simp[aD,VL.plain,VL.aK]
theorem qi{l:List dG}(h:∀g∈l,g.ok b):VL.aK (l.map aD)=true:=qN λd hd=>by
 obtain⟨g,hg,rfl⟩:=i0.mp hd;exact Jz (h g hg)
theorem xt(h:∀l,t=some l->∀g∈l,g.ok b):VL.plain (g8 t)=true:=by
 cases t with
 |none=>rfl
 |some l=>have:=qi (h l rfl);simp[g8,VL.plain,this]
def bE.xu(w:bE)(i:Nat)(iz:Str)(fO:D)(told:Option (List dG))(s:MS):bE:= { w with aT:=w.aT++ [⟨i,iz,fO,told,s⟩],way:=(match told with | some l=>m5 (w.way++l) | none=>w.way) }
noncomputable def bE.cut (w:bE) (k:Nat):bE:= { w with way:=w.way.eraseIdx k }
def bE.told(w:bE)(gG:Bool)(k:Nat)(g:dG)(i m:Nat)(s:MS):bE:=(if gG=true then w else w.cut k).note i "hear" (aD g) (some (bI m i s g).2) (bI m i s g).1
theorem abz(way:List dG)(k:Nat):way.take k++way.drop (k + 1)=way.eraseIdx k:=(List.eraseIdx_eq_take_drop_succ way k).symm
theorem Ww.told(h:Ww m w)(hm:m < 40)(hk:w.way[k]?=some g)(hs:w.ms[i]?=some s):Ww m (bE.told w gG k g i m s):=by
 have JA:g∈w.way:=gH hk;have JB:s∈w.ms:=gH hs;have mg:=h.way g JA;have ws:=h.ms s JB;have uO:i < m:=by rw[<- h.n];exact(bW.mp hs).1
 have wh:=Jv (nu:=i) ws mg (by lia);have mh:=Ql (nu:=i) ws mg (by lia) (by lia);have ie:Ww m (if gG=true then w else w.cut k):=by
  split
  ·exact h
  ·exact⟨h.n,h.ms,λx hx=>h.way x (LY hx),bO (List.length_eraseIdx_le ..) h.lT,h.st⟩
 have e:(if gG=true then w else w.cut k).aT.length=w.aT.length:=by split <;> rfl
 exact ie.note (by rw[e];exact wh.mono (je _)) (Jz mg.ok) λl hl x hx=>by cases hl;rw[e];exact(mh x hx).mono (je _)
theorem Qn(w:bE)(gG:Bool)(k:Nat)(g:dG)(i m:Nat)(s:MS):(bE.told w gG k g i m s).aT.length=w.aT.length + 1:=by
 unfold bE.told bE.note
 split <;> simp[bE.cut]
inductive Step(m:Nat):bE->bE->Prop
 |bI (w:bE) (gG:Bool) (k:Nat) (g:dG) (i:Nat) (s:MS):w.way[k]?=some g->g.to=i->w.ms[i]?=some s->Step m w (w.told gG k g i m s)
 |rise (w:bE) (i:Nat) (s:MS):w.ms[i]?=some s->Step m w (w.note i "rise" (.sc .aE) (some (j0 m i (rise m i s).te)) (rise m i s))
 |add (w:bE) (i:Nat) (s:MS) (r:D):w.ms[i]?=some s->jY r->Step m w (w.note i "add" r (ij m i r s).2 (ij m i r s).1)
 |sW (w:bE) (i:Nat) (s:MS):w.ms[i]?=some s->Step m w (w.note i "fall" (.sc .aE) (some []) (kC s))
 |send (w:bE) (i:Nat) (s:MS):w.ms[i]?=some s->Step m w (w.note i "send" (.sc .aE) (some (sends m i s)) s)
 |drop (w:bE) (way:List dG):(∀g∈way,g∈w.way)->way.length<=w.way.length->Step m w { w with way:=way }
 |rows (w:bE) (x:Int):Step m w { w with rows:=x }
inductive ig(m:Nat):bE->bE->Prop
 |refl (w:bE):ig m w w
 |cons {w w1 w2:bE}:Step m w w1->ig m w1 w2->ig m w w2
theorem ig.one(h:Step m w w'):ig m w w':= .cons h (.refl _)
theorem ig.trans(a:ig m w w1)(b:ig m w1 w2):ig m w w2:=by
 induction a with
 |refl=>exact b
 |cons h _ ih=>exact .cons h (ih b)
theorem Step.ww(hm:m < 40)(st:Step m w w')(h:Ww m w):Ww m w':=by
 have mr:∀{i:Nat} {s:MS},w.ms[i]?=some s->Wg m w.aT.length s/\i < m:=λ{i s} hs=>⟨h.ms s (gH hs),by rw[<- h.n];exact(bW.mp hs).1⟩
 cases st with
 |bI gG k g i s hk _ hs=>exact h.told hm hk hs
 |rise i s hs=>
  obtain⟨ws,hi⟩:=mr hs;exact h.note ((Jt ws (by lia) (by lia)).mono (je _)) rfl λl hl g hg=>by cases hl;exact Qj (by lia) (by lia) g hg
 |add i s r hs hr=>
  obtain⟨ws,hi⟩:=mr hs;have wa:=Dn (nu:=i) ws hr;refine h.note wa hr.plain λl hl g hg=> ?_;unfold ij at hl wa
  split at hl
  ·next c=>
   rw[if_pos c]at wa;cases hl;exact Jy wa (by lia) (by lia) g hg
  ·cases hl
 |sW i s hs=>
  obtain⟨ws,hi⟩:=mr hs;exact h.note ((Ju ws).mono (je _)) rfl λl hl g hg=>by cases hl;exact nomatch hg
 |send i s hs=>
  obtain⟨ws,hi⟩:=mr hs;exact h.note (ws.mono (je _)) rfl λl hl g hg=>by cases hl;exact(Qk ws (by lia) (by lia) g hg).mono (je _)
 |drop way hd hl=>exact⟨h.n,h.ms,λg hg=>h.way g (hd g hg),bO hl h.lT,h.st⟩
 |rows x=>exact⟨h.n,h.ms,h.way,h.lT,h.st⟩
theorem uP(w:bE)(i:Nat)(iz:Str)(fO:D)(told:Option (List dG))(s:MS):(w.note i iz fO told s).aT.length=w.aT.length + 1:=by simp[bE.note]
end WM
namespace VL
theorem Qo(h:fa Z=some (false,ρ1)):VL.andM fa fb Z=some (false,ρ1):=by
 unfold VL.andM;rw[h];rfl
theorem JC(h:fa Z=some (true,ρ1))(h2:fb ρ1=r):VL.andM fa fb Z=r:=by
 unfold VL.andM;rw[h];exact h2
theorem Qp(h:fa Z=some (true,ρ1)):VL.orM fa fb Z=some (true,ρ1):=by
 unfold VL.orM;rw[h];rfl
theorem JD(h:fa Z=some (false,ρ1))(h2:fb ρ1=r):VL.orM fa fb Z=r:=by
 unfold VL.orM;rw[h];exact h2
theorem Dp{R:D->List D->Prop}(h:Ev f (bM n bB ds) λfl=>match fl with | .rt d ρ'=>∃o,cg (ρ'.drop n)=some o/\R d o | .nx ρ'=>∃o,cg (ρ'.drop n)=some o/\R (.sc .aE) o | _=>False):∃d o,bp n bB f ds=some (d,o)/\R d o:=by
 obtain⟨fl,e,q⟩:=h;unfold bp;rw[e];cases fl with
 |rt d ρ'=>obtain⟨o,h1,h2⟩:=q;exact⟨d,o,by show(cg (ρ'.drop n)).map _=_;rw[h1];rfl,h2⟩
 |nx ρ'=>obtain⟨o,h1,h2⟩:=q;exact⟨.sc .aE,o,by show(cg (ρ'.drop n)).map _=_;rw[h1];rfl,h2⟩
 |bk _=>exact q.elim
 |ct _=>exact q.elim
theorem Ev.o6(h:fc Z=some (false,ρ1))(hb:Ev b ρ1 Q):Ev (bF fc a b) Z Q:=by
 obtain⟨fl,e,q⟩:=hb;refine⟨fl, ?_,q⟩;unfold bF;rw[h];exact e
end VL
namespace WM
open PySem L2 VL
noncomputable def pKeys:List bw:= [.inr "number", .inr "term", .inr "of", .inr "log", .inr "done", .inr "role", .inr "voices", .inr "sizes"]
def aO(nu:Int)(s:MS):D:= .nd (.az pKeys) [iD nu,iD s.te,iD s.o, .nd .tup s.L,iD s.dn,sD s.role,el s.vo,bC s.si]
theorem Dq:(ae "number"=ae "term")=False:=bL
theorem JE:(ae "number"=ae "of")=False:=bL
theorem JF:(ae "term"=ae "of")=False:=bL
theorem JG:(ae "number"=ae "log")=False:=bL
theorem JH:(ae "term"=ae "log")=False:=bL
theorem JI:(ae "of"=ae "log")=False:=bL
theorem JJ:(ae "number"=ae "done")=False:=bL
theorem JK:(ae "term"=ae "done")=False:=bL
theorem JL:(ae "of"=ae "done")=False:=bL
theorem JM:(ae "log"=ae "done")=False:=bL
theorem JN:(ae "number"=ae "role")=False:=bL
theorem JO:(ae "term"=ae "role")=False:=bL
theorem JP:(ae "of"=ae "role")=False:=bL
theorem JQ:(ae "log"=ae "role")=False:=bL
theorem JR:(ae "done"=ae "role")=False:=bL
theorem JS:(ae "number"=ae "voices")=False:=bL
theorem JT:(ae "term"=ae "voices")=False:=bL
theorem JU:(ae "of"=ae "voices")=False:=bL
theorem JV:(ae "log"=ae "voices")=False:=bL
theorem JW:(ae "done"=ae "voices")=False:=bL
theorem JX:(ae "role"=ae "voices")=False:=bL
theorem JY:(ae "number"=ae "sizes")=False:=bL
theorem JZ:(ae "term"=ae "sizes")=False:=bL
theorem J1:(ae "of"=ae "sizes")=False:=bL
theorem J3:(ae "log"=ae "sizes")=False:=bL
theorem Ka:(ae "done"=ae "sizes")=False:=bL
theorem Kb:(ae "role"=ae "sizes")=False:=bL
theorem Kc:(ae "voices"=ae "sizes")=False:=bL
theorem sX:pKeys.Nodup:=by simp[pKeys,Dq,JE,JF,JG,JH,JI,JJ,JK,JL,JM,JN,JO,JP,JQ,JR,JS,JT,JU,JV,JW,JX,JY,JZ,J1,J3,Ka,Kb,Kc]
theorem abA(a b c d e f g h:D):aC (.nd (.az pKeys) [a,b,c,d,e,f,g,h]) (.sc (.str "number"))=some 0:=by
 simp[aC,dC,cY,pKeys,cZ,cG]
theorem uQ(a b c d e f g h:D):bf aC bx (.nd (.az pKeys) [a,b,c,d,e,f,g,h]) (.sc (.str "number"))=some a:=by
 show(aC (.nd (.az pKeys) [a,b,c,d,e,f,g,h]) (.sc (.str "number"))).bind (aU (.nd (.az pKeys) [a,b,c,d,e,f,g,h]))=some a;rw[abA];rfl
theorem abB(a b c d e f g h:D):aC (.nd (.az pKeys) [a,b,c,d,e,f,g,h]) (.sc (.str "term"))=some 1:=by
 simp[aC,dC,cY,pKeys,cZ,cG,Dq]
theorem lg(a b c d e f g h:D):bf aC bx (.nd (.az pKeys) [a,b,c,d,e,f,g,h]) (.sc (.str "term"))=some b:=by
 show(aC (.nd (.az pKeys) [a,b,c,d,e,f,g,h]) (.sc (.str "term"))).bind (aU (.nd (.az pKeys) [a,b,c,d,e,f,g,h]))=some b;rw[abB];rfl
theorem AD(a b c d e f g h x:D):iG (.az pKeys) [a,b,c,d,e,f,g,h] (.sc (.str "term")) x=some (.nd (.az pKeys) [a,x,c,d,e,f,g,h]):=by
 have h:=sX;have h4:(8:Nat) < aM:=by decide
 have e:cZ (.inr (ae "term"):bw) pKeys=some 1:=by simp[pKeys,cZ,Dq]
 simp[iG,cG,h,h4,e]
theorem abC(a b c d e f g h:D):aC (.nd (.az pKeys) [a,b,c,d,e,f,g,h]) (.sc (.str "of"))=some 2:=by
 simp[aC,dC,cY,pKeys,cZ,cG,JE,JF]
theorem xv(a b c d e f g h:D):bf aC bx (.nd (.az pKeys) [a,b,c,d,e,f,g,h]) (.sc (.str "of"))=some c:=by
 show(aC (.nd (.az pKeys) [a,b,c,d,e,f,g,h]) (.sc (.str "of"))).bind (aU (.nd (.az pKeys) [a,b,c,d,e,f,g,h]))=some c;rw[abC];rfl
theorem Ke(a b c d e f g h x:D):iG (.az pKeys) [a,b,c,d,e,f,g,h] (.sc (.str "of")) x=some (.nd (.az pKeys) [a,b,x,d,e,f,g,h]):=by
 have h:=sX;have h4:(8:Nat) < aM:=by decide
 have e:cZ (.inr (ae "of"):bw) pKeys=some 2:=by simp[pKeys,cZ,JE,JF]
 simp[iG,cG,h,h4,e]
theorem abD(a b c d e f g h:D):aC (.nd (.az pKeys) [a,b,c,d,e,f,g,h]) (.sc (.str "log"))=some 3:=by
 simp[aC,dC,cY,pKeys,cZ,cG,JG,JH,JI]
theorem qj(a b c d e f g h:D):bf aC bx (.nd (.az pKeys) [a,b,c,d,e,f,g,h]) (.sc (.str "log"))=some d:=by
 show(aC (.nd (.az pKeys) [a,b,c,d,e,f,g,h]) (.sc (.str "log"))).bind (aU (.nd (.az pKeys) [a,b,c,d,e,f,g,h]))=some d;rw[abD];rfl
theorem Dr(a b c d e f g h x:D):iG (.az pKeys) [a,b,c,d,e,f,g,h] (.sc (.str "log")) x=some (.nd (.az pKeys) [a,b,c,x,e,f,g,h]):=by
 have h:=sX;have h4:(8:Nat) < aM:=by decide
 have e:cZ (.inr (ae "log"):bw) pKeys=some 3:=by simp[pKeys,cZ,JG,JH,JI]
 simp[iG,cG,h,h4,e]
theorem abE(a b c d e f g h:D):aC (.nd (.az pKeys) [a,b,c,d,e,f,g,h]) (.sc (.str "done"))=some 4:=by
 simp[aC,dC,cY,pKeys,cZ,cG,JJ,JK,JL,JM]
theorem uR(a b c d e f g h:D):bf aC bx (.nd (.az pKeys) [a,b,c,d,e,f,g,h]) (.sc (.str "done"))=some e:=by
 show(aC (.nd (.az pKeys) [a,b,c,d,e,f,g,h]) (.sc (.str "done"))).bind (aU (.nd (.az pKeys) [a,b,c,d,e,f,g,h]))=some e;rw[abE];rfl
theorem AE(a b c d e f g h x:D):iG (.az pKeys) [a,b,c,d,e,f,g,h] (.sc (.str "done")) x=some (.nd (.az pKeys) [a,b,c,d,x,f,g,h]):=by
 have h:=sX;have h4:(8:Nat) < aM:=by decide
 have e:cZ (.inr (ae "done"):bw) pKeys=some 4:=by simp[pKeys,cZ,JJ,JK,JL,JM]
 simp[iG,cG,h,h4,e]
theorem abF(a b c d e f g h:D):aC (.nd (.az pKeys) [a,b,c,d,e,f,g,h]) (.sc (.str "role"))=some 5:=by
 simp[aC,dC,cY,pKeys,cZ,cG,JN,JO,JP,JQ,JR]
theorem nS(a b c d e f g h:D):bf aC bx (.nd (.az pKeys) [a,b,c,d,e,f,g,h]) (.sc (.str "role"))=some f:=by
 show(aC (.nd (.az pKeys) [a,b,c,d,e,f,g,h]) (.sc (.str "role"))).bind (aU (.nd (.az pKeys) [a,b,c,d,e,f,g,h]))=some f;rw[abF];rfl
theorem uS(a b c d e f g h x:D):iG (.az pKeys) [a,b,c,d,e,f,g,h] (.sc (.str "role")) x=some (.nd (.az pKeys) [a,b,c,d,e,x,g,h]):=by
 have h:=sX;have h4:(8:Nat) < aM:=by decide
 have e:cZ (.inr (ae "role"):bw) pKeys=some 5:=by simp[pKeys,cZ,JN,JO,JP,JQ,JR]
 simp[iG,cG,h,h4,e]
theorem Ds(a b c d e f g h:D):aC (.nd (.az pKeys) [a,b,c,d,e,f,g,h]) (.sc (.str "voices"))=some 6:=by
 simp[aC,dC,cY,pKeys,cZ,cG,JS,JT,JU,JV,JW,JX]
theorem Qq(a b c d e f g h:D):bf aC bx (.nd (.az pKeys) [a,b,c,d,e,f,g,h]) (.sc (.str "voices"))=some g:=by
 show(aC (.nd (.az pKeys) [a,b,c,d,e,f,g,h]) (.sc (.str "voices"))).bind (aU (.nd (.az pKeys) [a,b,c,d,e,f,g,h]))=some g;rw[Ds];rfl
theorem abG(a b c d e f g h x:D):iG (.az pKeys) [a,b,c,d,e,f,g,h] (.sc (.str "voices")) x=some (.nd (.az pKeys) [a,b,c,d,e,f,x,h]):=by
 have h:=sX;have h4:(8:Nat) < aM:=by decide
 have e:cZ (.inr (ae "voices"):bw) pKeys=some 6:=by simp[pKeys,cZ,JS,JT,JU,JV,JW,JX]
 simp[iG,cG,h,h4,e]
theorem Kf(a b c d e f g h:D):aC (.nd (.az pKeys) [a,b,c,d,e,f,g,h]) (.sc (.str "sizes"))=some 7:=by
 simp[aC,dC,cY,pKeys,cZ,cG,JY,JZ,J1,J3,Ka,Kb,Kc]
theorem Kg(a b c d e f g h:D):bf aC bx (.nd (.az pKeys) [a,b,c,d,e,f,g,h]) (.sc (.str "sizes"))=some h:=by
 show(aC (.nd (.az pKeys) [a,b,c,d,e,f,g,h]) (.sc (.str "sizes"))).bind (aU (.nd (.az pKeys) [a,b,c,d,e,f,g,h]))=some h;rw[Kf];rfl
theorem abH(a b c d e f g h x:D):iG (.az pKeys) [a,b,c,d,e,f,g,h] (.sc (.str "sizes")) x=some (.nd (.az pKeys) [a,b,c,d,e,f,g,x]):=by
 have h:=sX;have h4:(8:Nat) < aM:=by decide
 have e:cZ (.inr (ae "sizes"):bw) pKeys=some 7:=by simp[pKeys,cZ,JY,JZ,J1,J3,Ka,Kb,Kc]
 simp[iG,cG,h,h4,e]
theorem Kh{α:Type}[DecidableEq α]:∀(l l':List α),l.Nodup->(∀x∈l,x∈l')->l.length<=l'.length
 | [],l',_,_=>j8 _
 |x::l,l',hn,hs=>by
  obtain⟨h1,h2⟩:=nc.mp hn;have hx:=hs x (.head _);have ih:=Kh l (l'.erase x) h2 λy hy=>(List.mem_erase_of_ne λz=>h1 (by rw[<- z];exact hy)).mpr (hs y (.tail _ hy));rw[List.length_erase_of_mem hx]at ih;have:=List.length_pos_of_mem hx;rw[gc]
  lia
theorem Qr:∀{S:List (Int×Int)} {p:Int×Int},p∈S->(S.map (·.1)).Nodup->cx S p.1=p.2
 |q::S,p,hp,hn=>by
  rw[eI,nc]at hn;rcases fX.mp hp with rfl | hp
  ·rw[cx,if_pos rfl]
  ·rw[cx,if_neg λz=>hn.1 (by rw[z];exact UJ hp)];exact Qr hp hn.2
theorem xw:∀{S:List (Int×Int)} {i z:Int},1<=z->z<=cx S i->∃p∈S,p.1=i/\p.2=cx S i
 | [],i,z,h1,h2=>by rw[cx]at h2;lia
 |q::S,i,z,h1,h2=>by
  rw[cx]at h2 |-;by_cases c:q.1=i
  ·rw[if_pos c];exact⟨q, .head _,c,rfl⟩
  ·rw[if_neg c]at h2 |-;obtain⟨p,hp,e⟩:=xw h1 h2;exact⟨p, .tail _ hp,e⟩
theorem abI(nu:Int)(m:Nat)(S:List (Int×Int))(z:Int)(hz:1<=z)(hn:(S.map (·.1)).Nodup)(hk:∀p∈S,0<=p.1/\p.1 < m/\p.1≠nu):((gw nu m).filter λi:Nat=>decide (z<=cx S i)).length=(S.filter λp=>decide (z<=p.2)).length:=by
 have n1:((((gw nu m).filter λi:Nat=>decide (z<=cx S i)).map λi:Nat=>(i:Int))).Nodup:=by
  have h:((gw nu m).filter λi:Nat=>decide (z<=cx S i)).Nodup:=(List.nodup_range.filter _).filter _;exact ahg _ (λa b abJ e=>abJ (Int.ofNat.inj e)) h
 have n2:((S.filter λp=>decide (z<=p.2)).map (·.1)).Nodup:=hn.sublist (List.filter_sublist.map _);have h1:=Kh _ ((S.filter λp=>decide (z<=p.2)).map (·.1)) n1 λx hx=>by
  obtain⟨i,hi,rfl⟩:=i0.mp hx;obtain⟨_,h2⟩:=mx.mp hi;have h2:z<=cx S i:=by simpa using h2
  obtain⟨p,hp,e1,e2⟩:=xw hz h2;exact i0.mpr ⟨p,mx.mpr ⟨hp,by simp;lia⟩,e1⟩
 have h2:=Kh _ (((gw nu m).filter λi:Nat=>decide (z<=cx S i)).map λi:Nat=>(i:Int)) n2 λx hx=>by
  obtain⟨p,hp,rfl⟩:=i0.mp hx;obtain⟨hp,h2⟩:=mx.mp hp;have h2:z<=p.2:=by simpa using h2
  obtain⟨k0,k1,k2⟩:=hk p hp;have e:((p.1.toNat:Nat):Int)=p.1:=by lia
  refine i0.mpr ⟨p.1.toNat,mx.mpr ⟨?_, ?_⟩,e⟩
  ·unfold gw;exact mx.mpr ⟨AY.mpr (by lia),by simp;lia⟩
  ·rw[e,Qr hp hn];simpa using h2
 rw[eS,eS]at h1 h2
 lia
theorem Qs(nu:Int)(m:Nat)(S:List (Int×Int))(n:Nat)(z:Int)(hz:1<=z)(abK:z<=n)(hn:(S.map (·.1)).Nodup)(hk:∀p∈S,0<=p.1/\p.1 < m/\p.1≠nu):((dA nu m S n).filter λx=>decide (z<=x)).length=(S.filter λp=>decide (z<=p.2)).length + 1:=by
 unfold dA;rw[List.filter_append,cc,List.filter_map,eS];have e:([(n:Int)].filter λx=>decide (z<=x)).length=1:=by simp[abK]
 rw[e, <- abI nu m S z hz hn hk];rfl
theorem Ki:∀(l:List Int) (n:Int),n<=gD n l/\∀x∈l,x<=gD n l
 | [],n=>⟨jn _,λ_ h=>nomatch h⟩
 |a::l,n=>by
  have ih:=Ki l (if a > n then a else n);have e:gD n (a::l)=gD (if a > n then a else n) l:=rfl;rw[e];have h1:n<=(if a > n then a else n):=by split <;> lia
  have h2:a<=(if a > n then a else n):=by split <;> lia
  refine⟨D4 h1 ih.1,λx hx=> ?_⟩;rcases fX.mp hx with rfl | hx
  ·exact D4 h2 ih.1
  ·exact ih.2 x hx
theorem Kj:∀(l:List Int) (n:Int),gD n l=n\/gD n l∈l
 | [],n=> .inl rfl
 |a::l,n=>by
  have e:gD n (a::l)=gD (if a > n then a else n) l:=rfl;rw[e];rcases Kj l (if a > n then a else n) with h | h
  ·rw[h];by_cases c:a > n
   ·rw[if_pos c];exact .inr (.head _)
   ·rw[if_neg c];exact .inl rfl
  ·exact .inr (.tail _ h)
noncomputable def uT (si:List (Int×Int)) (z:Int):Nat:=(si.filter λp=>decide (z<=p.2)).length
def lG(m:Nat)(si:List (Int×Int))(dn z:Int):Int:=if(m:Int) < 2 * ((uT si z:Int) + 1) then z else dn
theorem Qt(m:Nat)(si:List (Int×Int))(dn:Int):∀k:Nat,(((jJ k).map λi:Nat=>dn + 1 + (i:Int)).foldl (lG m si) dn=dn\/∃z,dn < z/\z<=dn + k/\(m:Int) < 2 * ((uT si z:Int) + 1)/\((jJ k).map λi:Nat=>dn + 1 + (i:Int)).foldl (lG m si) dn=z)/\∀z,dn < z->z<=dn + k->(m:Int) < 2 * ((uT si z:Int) + 1)->z<=((jJ k).map λi:Nat=>dn + 1 + (i:Int)).foldl (lG m si) dn
 |0=>⟨.inl rfl,λz h1 h2 _=>by lia⟩
 |k + 1=>by
  obtain⟨h1,h2⟩:=Qt m si dn k;rw[List.range_succ,cK,ag6];generalize ((jJ k).map λi:Nat=>dn + 1 + (i:Int)).foldl (lG m si) dn=F at *;show(lG m si F (dn + 1 + (k:Int))=dn\/∃z,dn < z/\z<=dn + ((k + 1:Nat):Int)/\(m:Int) < 2 * ((uT si z:Int) + 1)/\lG m si F (dn + 1 + (k:Int))=z)/\∀z,dn < z->z<=dn + ((k + 1:Nat):Int)->(m:Int) < 2 * ((uT si z:Int) + 1)->z<=lG m si F (dn + 1 + (k:Int));unfold lG;by_cases c:(m:Int) < 2 * ((uT si (dn + 1 + (k:Int)):Int) + 1)
  ·rw[if_pos c];exact⟨.inr ⟨_,by lia,by lia,c,rfl⟩,λz _ h _=>by lia⟩
  ·rw[if_neg c];refine⟨?_,λz h3 h4 h5=> ?_⟩
   ·rcases h1 with h1 | ⟨z,a,b,d,e⟩
    ·exact .inl h1
    ·exact .inr ⟨z,a,by lia,d,e⟩
   ·refine h2 z h3 ?_ h5;by_cases e:z=dn + 1 + (k:Int)
    ·rw[e]at h5;exact absurd h5 c
    ·lia
theorem least:∀(l:List Int) (z:Int),(∃x∈l,z<=x)->∃x∈l,z<=x/\∀y∈l,z<=y->x<=y
 | [],z,h=>by obtain⟨x,hx,_⟩:=h;cases hx
 |a::l,z,h=>by
  by_cases c:∃x∈l,z<=x
  ·obtain⟨x,hx,h1,h2⟩:=least l z c;by_cases d:z<=a/\a<=x
   ·refine⟨a, .head _,d.1,λy hy hz=> ?_⟩;rcases fX.mp hy with rfl | hy
    ·exact jn _
    ·have:=h2 y hy hz;lia
   ·refine⟨x, .tail _ hx,h1,λy hy hz=> ?_⟩;rcases fX.mp hy with rfl | hy
    ·lia
    ·exact h2 y hy hz
  ·obtain⟨x,hx,hz⟩:=h;rcases fX.mp hx with rfl | hx
   ·refine⟨x, .head _,hz,λy hy oJ=> ?_⟩;rcases fX.mp hy with rfl | hy
    ·exact jn _
    ·exact absurd ⟨y,hy,oJ⟩ c
   ·exact absurd ⟨x,hx,hz⟩ c
theorem abL(nu:Int)(m:Nat)(s:MS)(hd:0<=s.dn)(hn:(s.si.map (·.1)).Nodup)(hk:∀p∈s.si,0<=p.1/\p.1 < m/\p.1≠nu)(hz:∀p∈s.si,p.2<=s.L.length):((jJ ((s.L.length:Int) - s.dn).toNat).map λi:Nat=>s.dn + 1 + (i:Int)).foldl (lG m s.si) s.dn=(count m nu s).dn:=by
 obtain⟨f1,f2⟩:=Qt m s.si s.dn ((s.L.length:Int) - s.dn).toNat;show _=gD s.dn ((dA nu m s.si s.L.length).filter (most m (dA nu m s.si s.L.length)));generalize ((jJ ((s.L.length:Int) - s.dn).toNat).map λi:Nat=>s.dn + 1 + (i:Int)).foldl (lG m s.si) s.dn=F at *;have g1:=Ki ((dA nu m s.si s.L.length).filter (most m (dA nu m s.si s.L.length))) s.dn;have g2:=Kj ((dA nu m s.si s.L.length).filter (most m (dA nu m s.si s.L.length))) s.dn;generalize gD s.dn ((dA nu m s.si s.L.length).filter (most m (dA nu m s.si s.L.length)))=Cn at *;have abM:s.dn<=F:=by
  rcases f1 with f1 | ⟨z,a,_,_,e⟩ <;> lia
 have BU:(s.L.length:Int)∈dA nu m s.si s.L.length:=by unfold dA;simp
 have fz:∀x∈dA nu m s.si s.L.length,x<=(s.L.length:Int):=λx hx=>by
  unfold dA at hx;rcases kG.mp hx with hx | hx
  ·obtain⟨i,_,rfl⟩:=i0.mp hx;by_cases c:1<=cx s.si i
   ·obtain⟨p,hp,_,e⟩:=xw (jn 1) c;rw[<- e];exact hz p hp
   ·lia
  ·have:=gf.mp hx;lia
 apply Int.le_antisymm
 ·rcases f1 with f1 | ⟨z,a,b,c,e⟩
  ·rw[f1];exact g1.1
  ·have zl:z<=(s.L.length:Int):=by lia
   obtain⟨x,hx,h1,h2⟩:=least (dA nu m s.si s.L.length) z ⟨_,BU,zl⟩;have same:((dA nu m s.si s.L.length).filter λy=>decide (x<=y))=(dA nu m s.si s.L.length).filter λy=>decide (z<=y):=List.filter_congr λy hy=>by
    by_cases q:z<=y
    ·rw[decide_eq_true q,decide_eq_true (h2 y hy q)]
    ·rw[decide_eq_false q,decide_eq_false (by lia)]
   have hm:most m (dA nu m s.si s.L.length) x=true:=by
    unfold most;rw[same,Qs nu m s.si s.L.length z (by lia) zl hn hk];have c:(m:Int) < 2 * (((s.si.filter λp=>decide (z<=p.2)).length:Int) + 1):=c;exact decide_eq_true (by lia)
   have:=g1.2 x (mx.mpr ⟨hx,hm⟩)
   lia
 ·rcases g2 with g2 | g2
  ·rw[g2];exact abM
  ·obtain⟨hx,hm⟩:=mx.mp g2;by_cases q:Cn<=s.dn
   ·lia
   ·have cl:=fz Cn hx;refine f2 Cn (by lia) (by lia) ?_;unfold most at hm;have hm:=of_decide_eq_true hm;rw[Qs nu m s.si s.L.length Cn (by lia) cl hn hk]at hm;show(m:Int) < 2 * (((s.si.filter λp=>decide (Cn<=p.2)).length:Int) + 1)
    lia
end WM
namespace K31
open PySem L2 VL WM
variable [dW K C]
theorem abN(nu:Int):xa K C [iD nu]=some (aO nu s0):=by
 have hk:qm [sD "number",sD "term",sD "of",sD "log",sD "done",sD "role",sD "voices",sD "sizes"]=some pKeys:=by simp[qm,cG,pKeys]
 have hc:pKeys.Nodup/\pKeys.length=8/\pKeys.length<=15:=⟨sX,rfl,by decide⟩
 unfold xa IA;dsimp only;refine zf (ρ':= [some (.ro (iD nu))]) (nO (kZ ?_));unfold zD;refine af.mpr ⟨([sD "number",sD "term",sD "of",sD "log",sD "done",sD "role",sD "voices",sD "sizes"], [iD nu,iD 0,iD 0, .nd .tup [],iD 0,sD "hears", .nd (.az []) [], .nd (.az []) []]), ?_,af.mpr ⟨pKeys,hk, ?_⟩⟩
 ·simp[oU,bD,ab,cM,VL.plain,dE]
 ·refine(if_pos hc).trans ?_;rfl
theorem abO(nu sn t m6:Int)(s:MS)(R:List D)(hL:cQ s.L)(hR:cQ R)(hz:s.L.length<=900)(kY:R.length<=900):Am K C [aO nu s,iD sn,iD t, .nd .tup R,iD m6]=some (.nd .lst [aD (.kept nu sn t (kept s t R).L.length)], [aO nu { kept s t R with dn:=if(if((kept s t R).L.length:Int) < m6 then((kept s t R).L.length:Int) else m6) > s.dn then(if((kept s t R).L.length:Int) < m6 then((kept s t R).L.length:Int) else m6) else s.dn }]):=by
 have pL:=hL.plain;have pR:=hR.plain;obtain⟨te,o,L,dn,role,vo,si⟩:=s;unfold kept;by_cases c:o < t\/(L.length:Int) < R.length
 ·rw[if_pos c];simp only[aO];generalize el vo=V1 at *;generalize bC si=S1 at *;by_cases c1:o < t
  ·simp[Am,Al,uH,mj,c1,pR,uQ,xv,qj,uR,AD,uS,Ke,Dr,AE,aD,cg,bD,bp,aq,kg,ab,fm,cm,bM,ag,bF,cN,lX,aV,cJ,fV,fJ,cq,aw,p6,bc,bU,ar,VL.plain,jT,aZ,bT,cv,ai,bQ,aG,dr,nH,mV,uB]
  ·have c2:=c.resolve_left c1;simp[Am,Al,uH,mj,c1,c2,pR,uQ,xv,qj,uR,AD,uS,Ke,Dr,AE,aD,cg,bD,bp,aq,kg,ab,fm,cm,bM,ag,bF,cN,lX,aV,cJ,fV,fJ,cq,aw,p6,bc,bU,ar,VL.plain,jT,aZ,bT,cv,ai,bQ,aG,dr,nH,mV,uB]
 ·rw[if_neg c];obtain⟨c1,c2⟩:=not_or.mp c;simp only[aO];generalize el vo=V1 at *;generalize bC si=S1 at *;simp[Am,Al,uH,mj,c1,c2,uQ,xv,qj,uR,AD,uS,AE,aD,cg,bD,bp,aq,kg,ab,fm,cm,bM,ag,bF,cN,lX,aV,cJ,fV,fJ,cq,aw,p6,bc,bU,ar,VL.plain,jT,aZ,bT,cv,ai,bQ,aG,dr,nH,mV,uB]
variable [dW K C]
abbrev eL(M:D)(m:Nat)(b:Int×Int)(x3 x4:Option B):En:= [some (.ak 5 []),some (.ro (iD m)),some (.own (.nd .tup [iD b.1,iD b.2])),x3,x4,some (.own M)]
abbrev Kk:D->En->Option En:=(q0 2 (jW (λd Z=>some (aQ 3 (B.ro d) Z)) (jW (λd Z=>some (aQ 4 (B.ro d) Z)) λds Z=>match ds with | []=>some Z | x=>none)))
abbrev Kl:En->Option Fl:=(bF (λZ=>bu (λb=>(b,Z)) ((aw Cv (cM Kd.tup (aq (dE (ab 3)) (aq (dE λZ=>(aq (ab 4) (λx=>some []) Z).bind cJ) λx=>some []))) (ab 2) Z).bind λx=>match x with | D.sc (V.bl b)=>some b | x=>none)) (bQ (fP 2 (uA 3 λZ=>(aq (ab 4) (λx=>some []) Z).bind cJ)) (fm (fJ 4) (ar 0) λx=>some (D.sc (V.str (ae "log"))))) λZ=>some (Fl.nx Z))
def o7(b:(Int×Int)×List D)(v:Int×List D):(Int×Int)×List D:=if iW v.1 v.2.length b.1.1 b.1.2=true then((v.1,(v.2.length:Int)),v.2) else b
abbrev mL(nu te o dn:Int)(role:Str)(hv si:D)(L:List D):D:= .nd (.az pKeys) [iD nu,iD te,iD o, .nd .tup L,iD dn,sD role,hv,si]
theorem abP(M:D)(m:Nat)(b:Int×Int)(x3 x4:Option B)(h3:NA x3)(h4:NA x4)(v:Int×List D):Kk (ic v) (eL M m b x3 x4)=some (eL M m b (some (.ro (iD v.1))) (some (.ro (.nd .tup v.2)))):=by
 have u3:∀(i:Nat) (r:En),gb i (x3::r)=x3::gb i r:=λi r=>by
  cases x3 with
  |none=>rfl
  |some β=>cases β with
   |own d=>rfl
   |ro d=>rfl
   |ak q p=>exact absurd rfl (h3 q p)
 have u4:∀(i:Nat) (r:En),gb i (x4::r)=x4::gb i r:=λi r=>by
  cases x4 with
  |none=>rfl
  |some β=>cases β with
   |own d=>rfl
   |ro d=>rfl
   |ak q p=>exact absurd rfl (h4 q p)
 simp[ic,u3,u4,aQ,jW,q0,bV,dS,du,eP]
theorem abQ(nu te o dn:Int)(role:Str)(h si:D)(L:List D)(m:Nat)(b:Int×Int)(v:Int×List D)(pv:VL.aK v.2=true):Kl (eL (mL nu te o dn role h si L) m b (some (.ro (iD v.1))) (some (.ro (.nd .tup v.2))))=some (.nx (eL (mL nu te o dn role h si (o7 (b,L) v).2) m (o7 (b,L) v).1 (some (.ro (iD v.1))) (some (.ro (.nd .tup v.2))))):=by
 unfold o7;by_cases c:iW v.1 v.2.length b.1 b.2=true
 ·rw[if_pos c];simp[Cv,mU,c,pv,Dr,fP,bD,aQ,aq,ab,fm,cm,ag,bF,cJ,mU,uA,fJ,cM,cq,aw,ar,VL.plain,dE,aZ,bT,ai,bQ,aG,dr,bV,dS,du,eP,iw]
 ·rw[if_neg c];have c:iW v.1 v.2.length b.1 b.2=false:=by simpa using c
  simp[Cv,mU,c,fP,bD,aQ,aq,ab,bF,cJ,mU,uA,fJ,cM,aw,VL.plain,dE,bQ,iw]
def qk(x:Option B):Prop:=x=none\/∃d,x=some (.ro d)/\VL.plain d=true
theorem qk.na(h:qk x):NA x:=λr p z=>by
 rcases h with h | ⟨d,h,_⟩ <;> rw[h]at z <;> cases z
theorem Qu(h3:qk x3)(h4:qk x4):nQ (eL M m b x3 x4)=eL M m b x3 x4:=by
 rcases h3 with rfl | ⟨d3,rfl,p3⟩ <;> rcases h4 with rfl | ⟨d4,rfl,p4⟩ <;> simp[nQ,VL.plain, *]
theorem Qv(nu te o dn:Int)(role:Str)(si:D)(m:Nat):∀(r:List (Int×Int×List D)) (b:Int×Int) (L:List D) (x3 x4:Option B),(∀p∈r,VL.aK p.2.2=true)->qk x3->qk x4->∃sY mm,qk sY/\qk mm/\∀h:D,iC Kk Kl (r.map λp=>ic p.2) (eL (mL nu te o dn role h si L) m b x3 x4)=some (.nx (eL (mL nu te o dn role h si (r.foldl (λc p=>o7 c p.2) (b,L)).2) m (r.foldl (λc p=>o7 c p.2) (b,L)).1 sY mm))
 | [],b,L,x3,x4,_,h3,h4=>⟨x3,x4,h3,h4,λ_=>rfl⟩
 |p::r,b,L,x3,x4,hp,h3,h4=>by
  obtain⟨sY,mm,g3,g4,ih⟩:=Qv nu te o dn role si m r (o7 (b,L) p.2).1 (o7 (b,L) p.2).2 (some (.ro (iD p.2.1))) (some (.ro (.nd .tup p.2.2))) (λq hq=>hp q (.tail _ hq)) (.inr ⟨_,rfl,rfl⟩) (.inr ⟨_,rfl,hp p (.head _)⟩);refine⟨sY,mm,g3,g4,λh=> ?_⟩;rw[eI,iC];refine af.mpr ⟨_,abP _ m b x3 x4 h3.na h4.na p.2,af.mpr ⟨_,abQ nu te o dn role h si L m b p.2 (hp p (.head _)), ?_⟩⟩;exact ih h
variable [dW K C]
theorem abR(h1:fp Z=some (.rt r p))(h2:cq Z r p=some (d0, .az ks,cs))(pl:VL.aK cs=true)(h:Ab fg fb Z r p d0 ks cs ay):Ac fp fg fb Z=some (.nx ay):=by
 unfold Ac;rw[h1];show(cq Z r p).bind _=_;rw[h2];show(if VL.aK cs=true then(uJ fg fb Z r p d0 ks cs).map Fl.nx else none)=_;rw[if_pos pl,aan h];rfl
theorem Qw:∀(r:List (Int×Int×List D)) (x:Int×List D),r.foldl (λc p=>o7 c p.2) ((x.1,(x.2.length:Int)),x.2)=(((gF x r).1,((gF x r).2.length:Int)),(gF x r).2)
 | [],x=>rfl
 |p::r,x=>by
  have e:gF x (p::r)=gF (o4 x p.2) r:=rfl;rw[e, <- Qw r (o4 x p.2),UK];unfold o7 o4;by_cases c:iW p.2.1 p.2.2.length x.1 x.2.length=true
  ·rw[if_pos c,if_pos c]
  ·rw[if_neg c,if_neg c]
theorem abS{vo:List (Int×Int×List D)}(h:∀p∈vo,VL.aK p.2.2=true):VL.aK (vo.map λp=>ic p.2)=true:=qN λd hd=>by
 obtain⟨p,hp,rfl⟩:=i0.mp hd;simp[ic,VL.plain,VL.aK,h p hp]
theorem abT(nu:Int)(m:Nat)(s:MS)(v:Int×Int×List D)(r:List (Int×Int×List D))(hs:s.vo=v::r)(hp:∀p∈s.vo,VL.aK p.2.2=true)(ho:0<=v.2.1):∃(b:Int×Int) (x3 x4:Option B),qk x3/\qk x4/\Ac (eO aC (ar 0) λx=>some (D.sc (V.str (ae "voices")))) Kk Kl (eL (aO nu s) m (-1,0) none none)=some (.nx (eL (aO nu { s with L:=(gF v.2 r).2 }) m b x3 x4)):=by
 obtain⟨x3,x4,g3,g4,run⟩:=Qv nu s.te s.o s.dn s.role (bC s.si) m s.vo (-1,0) s.L none none hp (.inl rfl) (.inl rfl);have e:(s.vo.foldl (λc p=>o7 c p.2) ((-1,0),s.L))=(((gF v.2 r).1,((gF v.2 r).2.length:Int)),(gF v.2 r).2):=by
  rw[hs,UK, <- Qw];have c:iW v.2.1 v.2.2.length (-1) 0=true:=by
   unfold iW;rw[if_neg (by lia)];exact decide_eq_true (by lia)
  unfold o7;rw[if_pos c]
 rw[e]at run;refine⟨((gF v.2 r).1,((gF v.2 r).2.length:Int)),x3,x4,g3,g4,abR (r:=5) (p:= [6]) (d0:=aO nu s) (ks:=s.vo.map λp=> .inl p.1) (cs:=s.vo.map λp=>ic p.2) ?_ ?_ (abS hp) λh=>⟨_,mL nu s.te s.o s.dn s.role (.hl h) (bC s.si) (gF v.2 r).2,run (.hl h), ?_, ?_, ?_⟩⟩
 ·have pk:=Ds (iD nu) (iD s.te) (iD s.o) (.nd .tup s.L) (iD s.dn) (sD s.role) (el s.vo) (bC s.si);simp[aO,pk,ag,eO,aU,b6,iy,ar,VL.plain,ai]
 ·simp[aO,el,ag,dk,cq,VL.plain,aK,ai]
 ·rw[Qu g3 g4];rfl
 ·rfl
 ·rw[Qu g3 g4];rfl
theorem Qx(nu:Int)(m:Nat)(s:MS)(hp:∀p∈s.vo,VL.aK p.2.2=true)(ho:∀p∈s.vo,0<=p.2.1)(hz:s.vo.length<=50):CU K C [aO nu s,iD m]=some (.sc .aE, [aO nu (gj m s)]):=by
 unfold CU IC;dsimp only;by_cases c:(m:Int) < 2 * (s.vo.length:Nat)
 ·cases hs:s.vo with
  |nil=>rw[hs]at c;simp at c;lia
  |cons v r=>
   obtain⟨b,x3,x4,g3,g4,run⟩:=abT nu m s v r hs hp (ho v (by rw[hs];exact .head _));have e:gj m s= { s with L:=(gF v.2 r).2,o:=s.te,role:="leads",si:= [] }:=by
    unfold gj;rw[if_pos c,hs]
   rw[e];refine uN (ρ':=eL (aO nu { s with L:=(gF v.2 r).2,o:=s.te,role:="leads",si:= [] }) m b x3 x4) (wW (c:=true) (ρ1:= [some (.ak 5 []),some (.ro (iD m)),none,none,none,some (.own (aO nu s))]) ?_ ((if_pos rfl).trans (fT (ρ':=eL (aO nu s) m (-1,0) none none) ?_ (fT run ?_)))) rfl
   ·simp[aO,el,Qq,c,bD,aq,ab,bM,ag,cN,intD,aV,cJ,aw,bc,bU,ai,ou]
   ·simp[fP,aQ,kg,yJ,nH,bV,dS,du,df,eP,iw]
   ·rcases g3 with rfl | ⟨d3,rfl,p3⟩ <;> rcases g4 with rfl | ⟨d4,rfl,p4⟩ <;> simp[aO,bC,Pk,mj,lg,Ke,uS,abH,bD,ab,cm,ag,cq,aw,ar,VL.plain,aZ,bT,ai,aG]
 ·have e:gj m s=s:=by
   unfold gj;rw[if_neg c]
  rw[e];refine uN (ρ':= [some (.ak 5 []),some (.ro (iD m)),none,none,none,some (.own (aO nu s))]) (wW (c:=false) (ρ1:= [some (.ak 5 []),some (.ro (iD m)),none,none,none,some (.own (aO nu s))]) ?_ rfl) rfl;simp[aO,el,Qq,c,bD,aq,ab,bM,ag,cN,intD,aV,cJ,aw,bc,bU,ai,ou]
variable [dW K C]
theorem Qy(nu:Int)(m:Nat)(s:MS)(w:Str)(more:List D)(pm:VL.aK more=true)(hl:more.length<=10)(hm:m < 100):Ak K C [aO nu s,iD m,sD w, .nd .tup more]=some (.nd .lst ((gw nu m).map λi:Nat=> .nd .tup ([sD w,iD nu,iD i]++more))):=by
 unfold Ak IB;dsimp only;refine zf (ρ':= [some (.ro (aO nu s)),some (.ro (iD m)),some (.ro (sD w)),some (.ro (.nd .tup more))]) (nO (kZ ?_));refine me (jJ m) (λi=>iD i) (λi:Nat=>decide ((i:Int)≠nu)) (λi:Nat=> .nd .tup ([sD w,iD nu,iD i]++more)) ?_ (by rw[A5];exact bO (by lia:m<=100) (by decide)) rfl ?_
 ·refine af.mpr ⟨[iD m], ?_, ?_⟩
  ·simp[bD,aq,ab]
  ·rw[sJ _ hm,zB]
 ·intro i hi;have hz:3 + more.length<=aM:=bO (by lia:3 + more.length<=100) (by decide);refine⟨[some (.ro (iD i)),some (.ro (.nd .tup more)),some (.ro (sD w)),some (.ro (aO nu s))], ?_, ?_,λ_=> ?_⟩
  ·simp[fW,bD,aQ,fW,ab,bV,du,df]
  ·have e:=OX (i:Int) nu;simp[aO,uQ,e,bD,ab,aw]
  ·have oJ: [sD w,iD nu,iD i].length + more.length<=aM:=hz;have e:gP (.nd .tup [sD w,iD nu,iD i]) (.nd .tup more)=some (.nd .tup ([sD w,iD nu,iD i]++more)):=if_pos ⟨by simp,oJ,by simp[VL.aK,VL.plain,pm]⟩;simp[aO,uQ,e,bD,aq,ab,cM,aw,ze]
theorem TL:∀(S:List (Int×Int)) (p:Int×Int),p∈S->(S.map (·.1)).Nodup->∃k,cZ (fB p.1:bw) (S.map λp=>(fB p.1:bw))=some k/\(S.map λp=>iD p.2)[k]?=some (iD p.2)
 |q::S,p,hp,hn=>by
  rw[eI,nc]at hn;rcases fX.mp hp with rfl | hp
  ·exact⟨0,by rw[eI,cZ,if_pos rfl],rfl⟩
  ·obtain⟨k,h1,h2⟩:=TL S p hp hn.2;have ne:¬ (fB q.1:bw)=fB p.1:=λz=>hn.1 (by rw[DR z];exact UJ hp);exact⟨k + 1,by rw[eI,cZ,if_neg ne,h1];rfl,by simpa using h2⟩
theorem abU(hp:p∈S)(hn:(S.map (·.1)).Nodup):bf aC bx (bC S) (iD p.1)=some (iD p.2):=by
 obtain⟨k,h1,h2⟩:=TL S p hp hn;have e:aC (bC S) (iD p.1)=some k:=by
  simp[aC,dC,cY,bC,cG,h1]
 show(aC (bC S) (iD p.1)).bind (aU (bC S))=_;rw[e];exact h2
theorem abV(nu:Int)(m:Nat)(s:MS)(z:Int)(x3:Option B)(h3:NA x3)(hn:(s.si.map (·.1)).Nodup)(hl:s.si.length<=50):CH 4 [none,some 2,some 0] [0] (eO aC (ar 0) λx=>some (D.sc (V.str (ae "sizes")))) (λd Z=>some (aQ 0 (B.ro d) Z)) (λZ=>(aw (cN λi j=>V.bl (decide (j<=i))) (aw (bf aC bx) (aw (bf aC bx) (ab 2) λx=>some (D.sc (V.str (ae "sizes")))) (ab 0)) (ab 1) Z).bind λx=>match x with | D.sc (V.bl b)=>some b | x=>none) (dE (ab 0)) [some (.ak 4 []),some (.ro (iD m)),some (.ro (iD z)),x3,some (.own (aO nu s))]=some (.nd .lst ((s.si.filter λp=>decide (z<=p.2)).map λp=>iD p.1)):=by
 have pk:=Kf (iD nu) (iD s.te) (iD s.o) (.nd .tup s.L) (iD s.dn) (sD s.role) (el s.vo) (bC s.si);unfold CH;refine af.mpr ⟨.rt 4 [7], ?_, ?_⟩
 ·simp[aO,pk,ag,eO,aU,b6,iy,ar,VL.plain,ai]
 ·show(cq [some (.ak 4 []),some (.ro (iD m)),some (.ro (iD z)),x3,some (.own (aO nu s))] 4 [7]).bind _=_;refine af.mpr ⟨(aO nu s, .az (s.si.map λp=> .inl p.1),s.si.map λp=>iD p.2),rfl, ?_⟩;refine me s.si (λp=>iD p.1) (λp=>decide (z<=p.2)) (λp=>iD p.1) ?_ (bO hl (by decide)) rfl ?_
  ·show some (uK (s.si.map λp=>(fB p.1:bw)))=_;unfold uK;rw[qw];rfl
  ·intro p hp;have ix:=abU hp hn;refine⟨[some (.ro (iD p.1)),some (.ro (iD z)),some (.ro (aO nu s))], ?_, ?_,λ_=> ?_⟩
   ·simp[fW,bD,aQ,fW,ab,ag,ai,bV,du,df]
   ·simp[aO,Kg,ix,bD,ab,cN,aw]
   ·simp[bD,ab,VL.plain,dE]
variable [dW K C]
abbrev abW:En->Option Bool:=(λZ=>(aw (cN λi j=>V.bl (decide (j<=i))) (aw (bf aC bx) (aw (bf aC bx) (ab 2) λx=>some (D.sc (V.str (ae "sizes")))) (ab 0)) (ab 1) Z).bind λx=>match x with | D.sc (V.bl b)=>some b | x=>none)
abbrev Qz:En->Option D:=CH 4 [none,some 2,some 0] [0] (eO aC (ar 0) λx=>some (D.sc (V.str (ae "sizes")))) (λd Z=>some (aQ 0 (B.ro d) Z)) abW (dE (ab 0))
abbrev QA:D->En->Option En:=λd Z=>some (aQ 2 (B.ro d) Z)
abbrev QB:En->Option Fl:=(bF (λZ=>bu (λb=>(b,Z)) ((aw (cN λi j=>V.bl (decide (j < i))) (aw (intD ou λi j=>V.int (i * j)) (λx=>some (D.sc (V.int 2))) (aw jH (λZ=>(aq (ab 3) (λx=>some []) Z).bind cJ) λx=>some (D.sc (V.int 1)))) (ab 1) Z).bind λx=>match x with | D.sc (V.bl b)=>some b | x=>none)) (fm (fJ 2) (ar 0) λx=>some (D.sc (V.str (ae "done")))) λZ=>some (Fl.nx Z))
abbrev abX:En->Option Fl:=bQ (fP 3 λZ=>bu (λd=>(d,Z)) (Qz Z)) QB
abbrev eK(M:D)(m:Nat)(x2 x3:Option B):En:= [some (.ak 4 []),some (.ro (iD m)),x2,x3,some (.own M)]
theorem abY(M:D)(m:Nat)(x2 x3:Option B)(h2:NA x2)(h3:NA x3)(z:Int):QA (iD z) (eK M m x2 x3)=some (eK M m (some (.ro (iD z))) x3):=by
 have u2:=λ(i:Nat) (r:En)=>eW (i:=i) (r:=r) h2;have u3:=λ(i:Nat) (r:En)=>eW (i:=i) (r:=r) h3;simp[u2,u3,aQ,bV,dS,du,eP]
theorem abZ(nu:Int)(m:Nat)(s:MS)(z:Int)(x3:Option B)(h3:NA x3)(hn:(s.si.map (·.1)).Nodup)(hl:s.si.length<=50):fP 3 (λZ=>bu (λd=>(d,Z)) (Qz Z)) (eK (aO nu s) m (some (.ro (iD z))) x3)=some (.nx (eK (aO nu s) m (some (.ro (iD z))) (some (.own (.nd .lst ((s.si.filter λp=>decide (z<=p.2)).map λp=>iD p.1)))))):=by
 have u3:=λ(i:Nat) (r:En)=>eW (i:=i) (r:=r) h3;refine qf (kZ (abV nu m s z x3 h3 hn hl)) ?_;generalize aO nu s=M;simp[u3,aQ,bV,dS,du,eP]
theorem ab0(nu:Int)(m:Nat)(s:MS)(z:Int):QB (eK (aO nu s) m (some (.ro (iD z))) (some (.own (.nd .lst ((s.si.filter λp=>decide (z<=p.2)).map λp=>iD p.1)))))=some (.nx (eK (aO nu { s with dn:=lG m s.si s.dn z }) m (some (.ro (iD z))) (some (.own (.nd .lst ((s.si.filter λp=>decide (z<=p.2)).map λp=>iD p.1)))))):=by
 unfold lG;have hc:uT s.si z=((s.si.filter λp=>decide (z<=p.2)).map λp=>iD p.1).length:=by rw[eS];rfl
 generalize ((s.si.filter λp=>decide (z<=p.2)).map λp=>iD p.1)=F at *;rw[hc];simp only[aO];generalize el s.vo=V1 at *;generalize bC s.si=S1 at *;by_cases c:(m:Int) < 2 * ((F.length:Int) + 1)
 ·rw[if_pos c];simp[c,AE,jH,gP,bD,aq,ab,fm,cm,ag,bF,cN,intD,cJ,fJ,cq,aw,ar,VL.plain,aZ,bT,ai,aG,ou]
 ·rw[if_neg c];simp[c,jH,gP,bD,aq,ab,fm,cm,bF,cN,intD,cJ,fJ,cq,aw,ar,aZ,bT,ai,ou]
theorem QC(nu:Int)(m:Nat):∀(zs:List Int) (s:MS) (x2 x3:Option B),NA x2->NA x3->(s.si.map (·.1)).Nodup->s.si.length<=50->∃Km sY,iC QA abX (zs.map iD) (eK (aO nu s) m x2 x3)=some (.nx (eK (aO nu { s with dn:=zs.foldl (lG m s.si) s.dn }) m Km sY))
 | [],s,x2,x3,_,_,_,_=>⟨x2,x3,rfl⟩
 |z::zs,s,x2,x3,h2,h3,hn,hl=>by
  obtain⟨Km,sY,ih⟩:=QC nu m zs { s with dn:=lG m s.si s.dn z } (some (.ro (iD z))) (some (.own (.nd .lst ((s.si.filter λp=>decide (z<=p.2)).map λp=>iD p.1)))) (λ_ _ z=>nomatch z) (λ_ _ z=>nomatch z) hn hl;refine⟨Km,sY, ?_⟩;rw[eI,iC];refine af.mpr ⟨_,abY _ m x2 x3 h2 h3 z,af.mpr ⟨_,fT (abZ nu m s z x3 h3 hn hl) (ab0 nu m s z), ?_⟩⟩;exact ih
def kD(m:Nat)(s:MS):MS:= { s with dn:=((jJ ((s.L.length:Int) - s.dn).toNat).map λi:Nat=>s.dn + 1 + (i:Int)).foldl (lG m s.si) s.dn }
theorem QD(nu:Int)(m:Nat)(s:MS)(hn:(s.si.map (·.1)).Nodup)(hl:s.si.length<=50)(hL:s.L.length<=1000)(hd:0<=s.dn)(hd2:s.dn < 2 ^ 60):CV K C [aO nu s,iD m]=some (.sc .aE, [aO nu (kD m s)]):=by
 obtain⟨x2,x3,run⟩:=QC nu m ((jJ ((s.L.length:Int) - s.dn).toNat).map λi:Nat=>s.dn + 1 + (i:Int)) s none none (λ_ _ z=>nomatch z) (λ_ _ z=>nomatch z) hn hl;unfold CV ID;dsimp only;refine uN (ρ':=eK (aO nu (kD m s)) m x2 x3) (af.mpr ⟨ia (s.dn + 1) ((s.L.length:Int) + 1 - (s.dn + 1)).toNat,af.mpr ⟨[iD (s.dn + 1),iD ((s.L.length:Int) + 1)], ?_, ?_⟩, ?_⟩) rfl
 ·simp[aO,uR,qj,jH,gP,bD,aq,ab,bM,ag,aV,cJ,aw,bc,bU,ai]
 ·exact if_pos ⟨by lia,by lia,by lia,by lia⟩
 ·rw[show(s.L.length:Int) + 1 - (s.dn + 1)=(s.L.length:Int) - s.dn by lia];unfold ia;rw[qw]at run;exact run
variable [dW K C]
theorem QE:bZ id (.sc (.str "stand")) (.sc (.str "stand"))=some (.sc (.bl true)):=by rw[qd _ _ (by decide +kernel) (by decide +kernel)];rfl
theorem jk(ha:iN a=true)(hb:iN b=true)(h:a≠b):bZ id (.sc (.str a)) (.sc (.str b))=some (.sc (.bl false)):=by rw[qd _ _ ha hb,decide_eq_false h]
theorem uU(ha:iN a=true):bZ id (.sc (.str a)) (.sc (.str a))=some (.sc (.bl true)):=by rw[qd _ _ ha ha,decide_eq_true rfl]
theorem ab1:bZ id (.sc (.str "stand")) (.sc (.str "voice"))=some (.sc (.bl false)):=jk (by decide +kernel) (by decide +kernel) (by decide +kernel)
theorem ab2:bZ id (.sc (.str "stand")) (.sc (.str "keep"))=some (.sc (.bl false)):=jk (by decide +kernel) (by decide +kernel) (by decide +kernel)
theorem ab3:bZ id (.sc (.str "stand")) (.sc (.str "kept"))=some (.sc (.bl false)):=jk (by decide +kernel) (by decide +kernel) (by decide +kernel)
theorem Kn:bZ id (.sc (.str "voice")) (.sc (.str "stand"))=some (.sc (.bl false)):=jk (by decide +kernel) (by decide +kernel) (by decide +kernel)
theorem Ko:bZ id (.sc (.str "voice")) (.sc (.str "voice"))=some (.sc (.bl true)):=uU (by decide +kernel)
theorem Kq:bZ id (.sc (.str "voice")) (.sc (.str "keep"))=some (.sc (.bl false)):=jk (by decide +kernel) (by decide +kernel) (by decide +kernel)
theorem Kr:bZ id (.sc (.str "voice")) (.sc (.str "kept"))=some (.sc (.bl false)):=jk (by decide +kernel) (by decide +kernel) (by decide +kernel)
theorem QF:bZ id (.sc (.str "keep")) (.sc (.str "stand"))=some (.sc (.bl false)):=jk (by decide +kernel) (by decide +kernel) (by decide +kernel)
theorem QG:bZ id (.sc (.str "keep")) (.sc (.str "voice"))=some (.sc (.bl false)):=jk (by decide +kernel) (by decide +kernel) (by decide +kernel)
theorem QH:bZ id (.sc (.str "keep")) (.sc (.str "keep"))=some (.sc (.bl true)):=uU (by decide +kernel)
theorem ab4:bZ id (.sc (.str "keep")) (.sc (.str "kept"))=some (.sc (.bl false)):=jk (by decide +kernel) (by decide +kernel) (by decide +kernel)
theorem Dt:bZ id (.sc (.str "kept")) (.sc (.str "stand"))=some (.sc (.bl false)):=jk (by decide +kernel) (by decide +kernel) (by decide +kernel)
theorem Du:bZ id (.sc (.str "kept")) (.sc (.str "voice"))=some (.sc (.bl false)):=jk (by decide +kernel) (by decide +kernel) (by decide +kernel)
theorem Dv:bZ id (.sc (.str "kept")) (.sc (.str "keep"))=some (.sc (.bl false)):=jk (by decide +kernel) (by decide +kernel) (by decide +kernel)
theorem Dw:bZ id (.sc (.str "kept")) (.sc (.str "kept"))=some (.sc (.bl true)):=uU (by decide +kernel)
theorem o8(l:List D):cutD (a::b::c::d::l) none (some 4)= [a,b,c,d]:=Jr (a::b::c::d::l) 4
theorem ab5(l:List D):cutD (a::b::c::d::l) (some 4) none=l:=AA (a::b::c::d::l) 4
theorem ab6(nu sn t:Int)(m:Nat)(s:MS)(pL:VL.aK s.L=true):jZ K C [aO nu s,iD m,aD (.ja sn nu t)]=if s.te < t then some (.nd .lst [aD (.ib nu sn t s.o s.L)], [aO nu { s with te:=t,role:="hears" }]) else some (.nd .lst [], [aO nu s]):=by
 simp only[aO];generalize el s.vo=V1 at *;generalize bC s.si=S1 at *;by_cases c:s.te < t
 ·rw[if_pos c];simp[jZ,mY,aD,o8,QE,c,pL,uH,mj,lg,xv,qj,AD,uS,cg,jr,bD,aQ,binds,bp,bt,dR,aW,aq,kg,ab,jt,cY,cm,bM,b8,ag,bF,cN,aV,eO,cG,aU,fV,fJ,cq,aw,bc,bU,b6,ar,VL.plain,aK,jT,aZ,bT,cv,ai,bS,cb,bQ,aG,iJ,kX,dr,j6,nH,nN,mT,bV,dS,du,df,eP,mV,GW]
 ·rw[if_neg c];simp[jZ,mY,aD,o8,QE,ab1,ab2,ab3,c,lg,cg,jr,bD,aQ,binds,bp,bt,dR,aW,aq,ab,jt,cY,fm,cm,bM,b8,ag,bF,cN,aV,eO,cG,aU,fV,cq,aw,bc,bU,b6,ar,VL.plain,aK,aZ,bT,cv,ai,bS,cb,bQ,iJ,kX,dr,j6,nN,mT,bV,dS,du,df,eP]
variable [dW K C]
theorem ab7(nu ma:Int)(hn:∀f∈dY,iU K C f):sT K C [.nd (.obj C []) [],iD nu,iD ma]=some (.sc .aE, [mD C nu ma 0 0 [] 0 "hears" (.nd (.az []) []) (.nd (.az []) [])]):=by
 have h:iU K C "number"/\iU K C "many"/\iU K C "term"/\iU K C "of"/\iU K C "log"/\iU K C "done"/\iU K C "role"/\iU K C "voices"/\iU K C "sizes"/\iU K C "fixed":=by
  simpa[dY]using hn
 obtain⟨h1,h2,h3,h4,h5,h6,h7,h8,h9,m7⟩:=h;simp[sT,Iw,h1,h2,h3,h4,h5,h6,h7,h8,h9,m7,mD,dY,Ci,km,kn,uC,uD,uE,rf,rg,rh,rj,wM,wN,wO,wQ,wR,ko,kq,kr,ku,kx,ky,zg,zh,zi,zj,zk,zm,zo,zp,zq,zr,zt,zu,zv,zw,zA,Cj,Ck,Co,Cp,Cq,Cr,Cs,Ct,Cu,cg,bD,bp,ab,cm,bM,lW,lB,ag,aV,fV,fJ,cq,bc,bU,ar,VL.plain,de,aZ,bT,ai,bQ,aG,dr]
theorem ab8(nu ma te o:Int)(L:List D)(dn:Int)(role:Str)(vo si:D)(hm:0 < ma):IJ K C [mD C nu ma te o L dn role vo si]=some (iD (gE nu ma te)):=by
 simp[IJ,II,mD,dY,Ci,km,kn,hm,gE,gP,fP,bD,aQ,dN,ab,b7,fQ,cN,intD,aU,aw,de,cv,bQ,dr,bV,du,df]
theorem QI(nu ma te o:Int)(L:List D)(dn n:Int)(role:Str)(vo si:D):IQ K C [mD C nu ma te o L dn role vo si,iD n]=some (tD (decide (ma < 2 * n))):=by
 simp[IQ,IP,mD,dY,Ci,bD,dN,ab,b7,fQ,cN,intD,aU,aw,de,cv,ou]
theorem ab9(o:Int)(L:List D):xg K C [.nd .tup [iD o, .nd .tup L]]=some (.nd .tup [iD o,iD L.length]):=by
 simp[xg,IS,bD,dN,aq,kg,ab,cY,dC,d7,bx,aC,bf,cG,aU,cJ,aw,VL.plain,jT,cv,nH,iw]
theorem aca(h:jY r):oW K C 2 [r]=some (tD true):=by
 cases h <;> simp[ji,oW,CZ,CY,mR,mS,yO,bD,aQ,qZ,dN,fW,aq,ab,bF,mR,wz,F8,gY,cM,VL.plain,jT,cv,bQ,dr,qa,wA,oO,bV,df,iw,ze]
theorem QJ:∀(L:List D),qZ (L.map λ_=>tD true)=some (L.map λ_=>true)
 | []=>by simp[qZ]
 |_::L=>by
  rw[eI,eI,qZ,QJ L];rfl
theorem all_true(L:List D):yO [.nd .lst (L.map λ_=>tD true)]=some (tD true):=by
 simp only[yO,QJ];simp
theorem acb(L:List D)(hL:cQ L)(h:L.length<=900):ji 1 [none] [0] (λZ=>(ab 0 Z).bind gY) (λd Z=>some (aQ 0 (B.ro d) Z)) (λx=>some true) (λZ=>(aq (ab 0) (λx=>some []) Z).bind λds=>if ds.length=1 then oW K C 2 ds else none) [some (.ro (.nd .tup L))]=some (.nd .lst (L.map λ_=>tD true)):=by
 have h3:L.length<=aM:=bO h (by decide);rw[me (n:=1) (js:= [none]) (is:= [0]) (fi:=λZ=>(ab 0 Z).bind gY) (fg:=λd Z=>some (aQ 0 (B.ro d) Z)) (ft:=λx=>some true) (fe:=λZ=>(aq (ab 0) (λx=>some []) Z).bind λds=>if ds.length=1 then oW K C 2 ds else none) (Z:= [some (.ro (.nd .tup L))]) L id (λ_=>true) (λ_=>tD true) ?_ h3 rfl ?_,xV.mpr (λ_ _=>rfl)]
 ·simp[bD,ab,gY]
 ·intro r hr;have hr:=aca (K:=K) (C:=C) (hL r hr);simp[hr,bD,aQ,fW,aq,ab,bV,df]
theorem acd(L:List D)(hL:cQ L)(h:L.length<=900):C0 K C [.nd .tup L]=some (tD true):=by
 have e:=acb (K:=K) (C:=C) L hL h;have e2:=all_true L;unfold C0;show dN _ (CZ K C (oW K C 2)) _=_;unfold CZ CY;dsimp only;generalize (ji 1 [none] [0] (λZ=>(ab 0 Z).bind gY) (λd Z=>some (aQ 0 (B.ro d) Z)) (λx=>some true) (λZ=>(aq (ab 0) (λx=>some []) Z).bind λds=>if ds.length=1 then oW K C 2 ds else none))=F at e |-;simp[e,e2,mR,bD,dN,aq,ab,bF,mR,wz,cM,cv,bQ,dr,qa,oO,iw]
theorem Ks(nu ma te o:Int)(L R:List D)(dn:Int)(role:Str)(vo si:D)(hL:cQ L)(hR:cQ R)(h:L.length + R.length<=900):IM K C [mD C nu ma te o L dn role vo si, .nd .tup R]=some (.sc .aE, [mD C nu ma te o (L++R) dn role vo si]):=by
 have hf:=acd (K:=K) (C:=C) R hR (by lia);have h3:L.length + R.length<=aM:=bO h (by decide);have p1:=hL.plain;have p2:=hR.plain;have p3:=(hL.app hR).plain;simp[IM,IL,mD,dY,rf,rg,rh,rj,Cj,Ck,Co,Cp,Cq,Cr,Cs,Ct,Cu,hf,p2,p3,h3,gP,cg,fP,bD,aQ,bp,aq,ab,cm,bM,b7,lW,fQ,lB,ag,p7,aV,aU,F7,cq,aw,bc,bU,ar,VL.plain,jT,de,aZ,bT,ai,bQ,aG,dr,bV,dS,du,df,eP]
theorem Kt(nu te o:Int)(m:Nat)(L:List D)(dn:Int)(role:Str)(vo si:D)(hm:m < 100):C8 K C [mD C nu m te o L dn role vo si]=some (.nd .lst ((gw nu m).map λi:Nat=>D.sc (.int (i:Int)))):=by
 have h3:m<=aM:=bO (tq hm) (by decide);unfold C8 IU gw;dsimp only;refine zf (ρ':= [some (.ro (mD C nu m te o L dn role vo si))]) (nO (kZ (Z:= [some (.ro (mD C nu m te o L dn role vo si))]) (me (jJ m) (λi:Nat=>D.sc (.int (i:Int))) (λi:Nat=>decide ((i:Int)≠nu)) (λi:Nat=>D.sc (.int (i:Int))) ?_ ?_ ?_ ?_)))
 ·have e:(aq (λZ=>(ab 0 Z).bind (b7 (ae "many"))) (λx=>some []) (List.map (λd=>some (B.ro d)) [mD C nu (↑m) te o L dn role vo si]++gC (1 - [mD C nu (↑m) te o L dn role vo si].length) none))=some [iD m]:=by simp[mD,dY,Ci,bD,aq,ab,b7,fQ,aU,de]
  exact af.mpr ⟨_,e,by rw[sJ m hm,zB]⟩
 ·rw[A5];exact h3
 ·rfl
 ·intro i hi;simp[mD,dY,OX,bD,aQ,fW,ab,b7,fQ,aU,aw,VL.plain,dE,de,bV,du,df]
variable [dW K C]
theorem QK(nu ma te o:Int)(L:List D)(dn:Int)(role:Str)(vo si:D)(hL:cQ L)(hz:L.length<=900):I8 K C [mD C nu ma te o L dn role vo si]=some (.nd .tup L):=by
 have hp:=hL.plain;simp[I8,I0,mD,dY,hp,rf,rg,rh,rj,Cj,Ck,Co,Cp,Cq,Cr,Cs,Ct,Cu,fP,bD,aQ,dN,aq,ab,b7,fQ,p7,aU,VL.plain,jT,de,cv,bQ,dr,kW,bV,du,df]
theorem ace(nu ma te o:Int)(L:List D)(dn:Int)(role:Str)(vo si:D)(hs:iN role=true)(h:role≠"leads"):sV K C [mD C nu ma te o L dn role vo si]=some (.nd .lst []):=by
 have he:=og role hs;rw[decide_eq_true h]at he;simp[sV,Dg,mD,dY,he,ko,kq,kr,ku,kx,ky,bD,aQ,dN,aq,ab,b7,fQ,bF,aU,fV,aw,de,cv,bQ,dr]
theorem QL(nu te o:Int)(m:Nat)(L:List D)(dn:Int)(vo si:D)(hL:cQ L)(hz:L.length<=900)(hm:m < 100):sV K C [mD C nu m te o L dn "leads" vo si]=some (.nd .lst (xr nu te m L dn)):=by
 have he:=og "leads" (by decide +kernel);rw[decide_eq_false (λz=>z rfl)]at he;have ho:=Kt (K:=K) (C:=C) nu te o m L dn "leads" vo si hm;have hr:=QK (K:=K) (C:=C) nu m te o L dn "leads" vo si hL hz;have h3:(gw nu m).length<=aM:=bO (uM nu m) (bO (tq hm) (by decide));rw[show xr nu te m L dn=((gw nu m).filter λ_=>true).map (Dk nu te L dn) from by unfold xr;rw[xV.mpr (λ_ _=>rfl)]];unfold sV Dg;dsimp only;refine zf (ρ':= [some (.ro (mD C nu m te o L dn "leads" vo si))]) (fT (ρ':= [some (.ro (mD C nu m te o L dn "leads" vo si))]) ?_ (nO (kZ (me (gw nu m) (λi:Nat=>D.sc (.int (i:Int))) (λ_=>true) (Dk nu te L dn) ?_ h3 ?_ ?_))))
 ·simp[mD,dY,he,ko,kq,kr,ku,kx,ky,bD,ab,b7,fQ,bF,aU,fV,aw,de,cv]
 ·refine af.mpr ⟨.nd .lst ((gw nu m).map λi:Nat=>D.sc (.int (i:Int))),af.mpr ⟨[mD C nu m te o L dn "leads" vo si], ?_, ?_⟩,rfl⟩
  ·simp[bD,aq,ab]
  ·exact(if_pos rfl).trans ho
 ·rfl
 ·intro i hi;have f1:=O1 (C:=C) nu m te o L dn "leads" vo si;have f2:=GY (C:=C) nu m te o L dn "leads" vo si;have f3:=GZ (C:=C) nu m te o L dn "leads" vo si;generalize mD C nu m te o L dn "leads" vo si=M at *;simp[Dk,aD,f1,f2,f3,hr,bD,aQ,fW,aq,ab,cM,VL.plain,dE,bV,du,df,GW]
variable [dW K C]
theorem QM(nu te o:Int)(m:Nat)(L:List D)(dn:Int)(role:Str)(vo:D)(S:List (Int×Int))(hm:m < 90):
  IZ K C [mD C nu m te o L dn role vo (bC S)]=some (.sc .aE, [mD C nu m te o L (gD dn ((dA nu m S L.length).filter (most m (dA nu m S L.length)))) role vo (bC S)]):=by
 have ho:=Kt (K:=K) (C:=C) nu te o m L dn role vo (bC S) (by lia);have acf:=λn:Nat=>QI (K:=K) (C:=C) nu m te o L dn n role vo (bC S);have h3:(gw nu m).length<=aM:=bO (uM nu m) (bO (by lia:m<=100) (by decide));have h4:(gw nu m).length + 1<=aM:=bO (ahh (uM nu m)) (bO (by lia:m + 1<=100) (by decide));have QN:=abr nu m S L.length;have acg:dA nu m S L.length=(gw nu m).map (λi:Nat=>cx S i)++ [(L.length:Int)]:=rfl;have f1:=ZR (C:=C) nu m te o L dn role vo (bC S);have f2:=O2 (C:=C) nu m te o L dn role vo (bC S);have f3:=GZ (C:=C) nu m te o L dn role vo (bC S);have hg:=λi=>Jq S i;have pM:=zC (C:=C) nu m te o L dn role vo (bC S);have h5:(dA nu m S L.length).length<=aM:=bO QN (bO (by lia:m + 1<=100) (by decide));have ach:=Qd ((gw nu m).map (λi:Nat=>cx S i)++ [(L.length:Int)]);have Ku:=ints_map (dn::(dA nu m S L.length).filter (most m (dA nu m S L.length)));have dM:=Qd (dn::(dA nu m S L.length).filter (most m (dA nu m S L.length)));have ajQ:((dA nu m S L.length).filter (most m (dA nu m S L.length))).length + 1<=aM:=bO (ahh (bO (UH _ _) QN)) (bO (by lia:m + 1 + 1<=100) (by decide));generalize hA:dA nu m S L.length=zs at *;unfold IZ IY;dsimp only;refine uN (ρ':= [some (.ak 3 []),some (.own (.nd .lst (zs.map iD))),some (.own (.nd .lst ((zs.filter (most m zs)).map iD))),some (.own (mD C nu m te o L (gD dn (zs.filter (most m zs))) role vo (bC S)))])
  (fT (ρ':= [some (.ak 3 []),some (.own (.nd .lst (zs.map iD))),none,some (.own (mD C nu m te o L dn role vo (bC S)))]) (qf (d:= .nd .lst (zs.map iD)) (ρ1:=bM 3 [true] [mD C nu m te o L dn role vo (bC S)]) (kZ ?_) ?_)
  (fT (ρ':= [some (.ak 3 []),some (.own (.nd .lst (zs.map iD))),some (.own (.nd .lst ((zs.filter (most m zs)).map iD))),some (.own (mD C nu m te o L dn role vo (bC S)))]) (qf (d:= .nd .lst ((zs.filter (most m zs)).map iD)) (ρ1:= [some (.ak 3 []),some (.own (.nd .lst (zs.map iD))),none,some (.own (mD C nu m te o L dn role vo (bC S)))]) (kZ (me zs iD (most m zs) iD ?_ h5 rfl ?_)) ?_) ?_)) ?_
 ·refine af.mpr ⟨.nd .lst ((gw nu m).map λi:Nat=>iD (cx S i)), ?_,af.mpr ⟨.nd .lst [iD L.length], ?_, ?_⟩⟩
  ·have e:=me (n:=3) (js:= [none,some 0]) (is:= [0]) (fg:=λd Z=>some (aQ 0 (B.ro d) Z)) (ft:=λx=>some true) (fe:=dE (jt (λZ=>(ab 1 Z).bind (b7 (ae "sizes"))) (ab 0) λx=>some (D.sc (V.int 0)))) (fi:=λZ=>((aq (ab 0) (λx=>some []) Z).bind λds=>if ds.length=1 then C8 K C ds else none).bind gY) (Z:=bM 3 [true] [mD C nu m te o L dn role vo (bC S)]) (gw nu m) (λi:Nat=>D.sc (.int (i:Int))) (λ_=>true) (λi:Nat=>iD (cx S i)) ?_ h3 rfl ?_
   ·rw[xV.mpr (λ_ _=>rfl)]at e;exact e
   ·refine af.mpr ⟨.nd .lst ((gw nu m).map λi:Nat=>D.sc (.int (i:Int))),af.mpr ⟨[mD C nu m te o L dn role vo (bC S)], ?_, ?_⟩,rfl⟩
    ·generalize mD C nu m te o L dn role vo (bC S)=M;simp[bD,aq,ab,bM,ag,aV,bc,bU,ai]
    ·exact(if_pos rfl).trans ho
   ·intro i _;have aci:=hg i;generalize mD C nu m te o L dn role vo (bC S)=M at *;generalize bC S=W at *;refine⟨[some (.ro (iD i)),some (.ro M)], ?_,rfl,λ_=> ?_⟩
    ·simp[bD,aQ,fW,ab,bM,ag,aV,bc,bU,ai,bV,du,df]
    ·have e:jt (λZ=>(ab 1 Z).bind (b7 (ae "sizes"))) (ab 0) (λx=>some (D.sc (V.int 0))) [some (.ro (iD i)),some (.ro M)]=some (iD (cx S i)):=by
      unfold jt;refine af.mpr ⟨W,af.mpr ⟨M,rfl,f1⟩, ?_⟩;exact aci
     unfold dE;rw[e];rfl
  ·generalize mD C nu m te o L dn role vo (bC S)=M at *;simp[f2,bD,aq,ab,bM,ag,aV,cJ,cM,bc,bU,ai,mV]
  ·have pX:VL.aK ((gw nu m).map (λi:Nat=>iD (cx S i))++ [iD L.length])=true:=by simpa[cK,qw,ahi]using ach
   rw[acg];simp[gP,pX,h4,cK,qw,ahi]
 ·generalize mD C nu m te o L dn role vo (bC S)=M at *;simp[aQ,bM,aV,bc,bU,bV,dS,df,eP]
 ·rfl
 ·intro z hz;have hq:=acf ((zs.filter λx=>decide (z<=x)).length);generalize mD C nu m te o L dn role vo (bC S)=M at *;refine⟨[some (.ro (iD z)),some (.ro M),some (.ro (.nd .lst (zs.map iD)))], ?_, ?_,λ_=> ?_⟩
  ·simp[bD,aQ,fW,ab,ag,ai,bV,du,df]
  ·have e:=me (n:=0 + 1 + 1 + 1) (js:= [none,some 0]) (is:= [0]) (fi:=λZ=>(ab 2 Z).bind gY) (fg:=λd Z=>some (aQ 0 (B.ro d) Z)) (ft:=λZ=>(aw (cN λi j=>V.bl (decide (j<=i))) (ab 0) (ab 1) Z).bind λx=>match x with | D.sc (V.bl b)=>some b | x=>none) (fe:=dE (ab 0)) (Z:= [some (.ro (iD z)),some (.ro M),some (.ro (.nd .lst (zs.map iD)))]) zs iD (λx=>decide (z<=x)) iD ?_ h5 rfl ?_
   ·have e2:cJ [.nd .lst ((zs.filter λx=>decide (z<=x)).map iD)]=some (iD ((zs.filter λx=>decide (z<=x)).length:Nat)):=by simp[cJ]
    generalize (zs.filter λx=>decide (z<=x)).map iD=ys at *;refine af.mpr ⟨tD (most m zs z),af.mpr ⟨[M,iD ((zs.filter λx=>decide (z<=x)).length:Nat)], ?_, ?_⟩,rfl⟩
    ·refine af.mpr ⟨M,rfl, ?_⟩;have e3:aq (λZ=>(aq (ji (0 + 1 + 1 + 1) [none,some 0] [0] (λZ=>(ab 2 Z).bind gY) (λd Z=>some (aQ 0 (B.ro d) Z)) (λZ=>(aw (cN λi j=>V.bl (decide (j<=i))) (ab 0) (ab 1) Z).bind λx=>match x with | D.sc (V.bl b)=>some b | x=>none) (dE (ab 0))) (λx=>some []) Z).bind cJ) (λx=>some []) [some (.ro (iD z)),some (.ro M),some (.ro (.nd .lst (zs.map iD)))]=some [iD ((zs.filter λx=>decide (z<=x)).length:Nat)]:=by
      exact af.mpr ⟨_,af.mpr ⟨[.nd .lst ys],af.mpr ⟨.nd .lst ys,e,rfl⟩,e2⟩,rfl⟩
     exact congrArg (bu (M:: ·)) e3
    ·exact(if_pos rfl).trans hq
   ·simp[bD,ab,gY]
   ·intro x _;simp[bD,aQ,fW,ab,cN,aw,VL.plain,dE,bV,du,df]
  ·simp[bD,ab,VL.plain,dE]
 ·generalize mD C nu m te o L dn role vo (bC S)=M at *;simp[aQ,bV,dS,df,eP]
 ·have acj:jH (.nd .lst [iD dn]) (.nd .lst ((zs.filter (most m zs)).map iD))=some (.nd .lst ((dn::zs.filter (most m zs)).map iD)):=by
   have ack:VL.aK (iD dn::(zs.filter (most m zs)).map iD)=true:=dM;have acm:1 + (zs.filter (most m zs)).length<=aM:=by lia
   simp[jH,gP,ack,acm]
  have xx:GV [.nd .lst ((dn::zs.filter (most m zs)).map iD)]=some (iD (gD dn (zs.filter (most m zs)))):=by
   show(tf ((dn::zs.filter (most m zs)).map iD)).bind TJ=_;rw[Ku];rfl
  generalize (zs.filter (most m zs))=cs at *;generalize D.nd .lst ((dn::cs).map iD)=SS at *;generalize (cs.map iD)=ys at *;generalize (zs.map iD)=zz at *;simp only[mD,dY]at f3 |-;simp[acj,xx,wM,wN,wO,wQ,wR,bD,aq,ab,cm,b7,lW,fQ,lB,ag,aU,cM,cq,aw,ar,de,aZ,bT,ai,aG,mV]
 ·rfl
variable [dW K C]
theorem acn{GC:List D->Option (D×List D)}{M1 M2 r d:D}(hc:GC [M1]=some (d, [M2])):dZ (λZ=>(bu (λa=>(a,Z)) (bt (ar 0) (λx=>some []) Z)).bind λa=>aW GC a.fst a.snd) [some (.ak 2 []),some (.ro r),some (.own M1)]=some (.nx [some (.ak 2 []),some (.ro r),some (.own M2)]):=by
 have hs:∀(M e:D),aG M [] e=e:=λM e=>by cases M <;> rfl
 simp[hc,eF,e7,dO,bG,bt,aW,dZ,b8,ag,bN,ar,aZ,bT,dt,ai,bS,cb,aG]
theorem aco(nu ma te o:Int)(L:List D)(dn:Int)(role:Str)(vo si r:D)(hs:iN role=true)(h:role≠"leads"):rq K C [mD C nu ma te o L dn role vo si,r]=some (.sc .aE, [mD C nu ma te o L dn role vo si]):=by
 have he:=og role hs;rw[decide_eq_true h]at he;simp[rq,Dh,mD,dY,he,ko,kq,kr,ku,kx,ky,cg,bD,bp,bt,eg,aW,aq,ab,bM,b8,b7,fQ,ag,bF,aV,jX,aU,methP,cM,aw,bc,bU,ar,dE,de,aZ,cv,ai,bS,cb,bQ,dr]
theorem acp(nu te o:Int)(m:Nat)(L:List D)(dn:Int)(vo r:D)(S:List (Int×Int))(hL:cQ L)(hr:jY r)(hz:L.length < 890)(hm:m < 90):
  ∃j5,j5=gD dn ((dA nu m S (L.length + 1)).filter (most m (dA nu m S (L.length + 1))))/\
  rq K C [mD C nu m te o L dn "leads" vo (bC S),r]=some (.nd .lst (xr nu te m (L++ [r]) j5), [mD C nu m te o (L++ [r]) j5 "leads" vo (bC S)]):=by
 refine⟨_,rfl, ?_⟩;have he:=og "leads" (by decide +kernel);rw[decide_eq_false (λz=>z rfl)]at he;have acq:cQ (L++ [r]):=hL.app (cQ.one hr);have cU:(L++ [r]).length=L.length + 1:=by simp
 have hb:=Ks (K:=K) (C:=C) nu m te o L [r] dn "leads" vo (bC S) hL (cQ.one hr) (by simp;lia);have hc:=QM (K:=K) (C:=C) nu te o m (L++ [r]) dn "leads" vo S hm;rw[cU]at hc;have acr:=QL (K:=K) (C:=C) nu te o m (L++ [r]) (gD dn ((dA nu m S (L.length + 1)).filter (most m (dA nu m S (L.length + 1))))) vo (bC S) acq (by rw[cU];lia) (by lia);have ob:=wU (C:=C) (m:="send") (by decide +kernel) nu m te o (L++ [r]) (gD dn ((dA nu m S (L.length + 1)).filter (most m (dA nu m S (L.length + 1))))) "leads" vo (bC S);have fr:=G0 (C:=C) nu m te o L dn "leads" vo (bC S);have pr:=hr.plain;have p0:=zC (C:=C) nu m te o L dn "leads" vo (bC S);have p1:=zC (C:=C) nu m te o (L++ [r]) dn "leads" vo (bC S);have p2:=zC (C:=C) nu m te o (L++ [r]) (gD dn ((dA nu m S (L.length + 1)).filter (most m (dA nu m S (L.length + 1))))) "leads" vo (bC S);have hs:∀(M e:D),aG M [] e=e:=λM e=>by cases M <;> rfl
 generalize gD dn ((dA nu m S (L.length + 1)).filter (most m (dA nu m S (L.length + 1))))=j5 at *;generalize mD C nu m te o L dn "leads" vo (bC S)=M at *;generalize mD C nu m te o (L++ [r]) dn "leads" vo (bC S)=M1 at *;generalize mD C nu m te o (L++ [r]) j5 "leads" vo (bC S)=M2 at *;unfold rq Dh;dsimp only;refine wL (ρ':= [some (.ak 2 []),some (.ro r),some (.own M2)]) (fT (ρ':= [some (.ak 2 []),some (.ro r),some (.own M)]) ?_ (fT (ρ':= [some (.ak 2 []),some (.ro r),some (.own M1)]) ?_ (fT (ρ':= [some (.ak 2 []),some (.ro r),some (.own M2)]) ?_ (nO (kZ ?_))))) rfl
 ·simp[he,fr,bD,ab,bM,ag,bF,aV,aw,bc,bU,cv,ai]
 ·simp[hb,pr,eF,e7,dO,bG,bD,bt,eg,aW,aq,ab,dZ,b8,ag,bN,cM,ar,dE,aZ,bT,dt,ai,bS,cb,aG,mV]
 ·exact acn hc
 ·simp[ob,acr,bD,ab,ag,methP,ai]
variable [dW K C]
theorem QO(nu ma te o:Int)(L R:List D)(dn:Int)(role:Str)(vo si:D)(hL:cQ L)(hR:cQ R)(hz:L.length<=440)(kY:R.length<=440):C5 K C [mD C nu ma te o L dn role vo si, .nd .tup R]=some (.sc .aE, [mD C nu ma te o R dn role vo si]):=by
 have c1:=Jr R L.length;have c2:=AA R L.length;have c3:=AA R 0;have hT:cQ (R.take L.length):=Qe hR λd hd=>agZ hd;have QP:cQ (R.drop L.length):=Qe hR λd hd=>LN hd;obtain⟨c,hc,jG⟩:=Ex.eq (Az hT) (Az hL) (by decide) (by decide) (!·);have h3:L.length<=aM:=bO hz (by decide);have h4:R.length<=aM:=bO kY (by decide);have p1:=hL.plain;have p2:=hR.plain;rw[LO]at c3;have p3:=QP.plain;have p4:=hT.plain;cases c with
 |true=>
  have e:R.take L.length=L:=by have:=hc.mp rfl;injection this
  have hb:=Ks (K:=K) (C:=C) nu ma te o L (R.drop L.length) dn role vo si hL QP (by rw[xR];lia);have e2:L++R.drop L.length=R:=by
   have:=agY L.length R;rw[e]at this;exact this
  rw[e2]at hb;generalize R.drop L.length=R1 at *;generalize R.take L.length=R0 at *;simp only[mD,dY]at hb |-;simp[C5,C4,rf,rg,rh,rj,p1,p2,c1,c2,jG,hb,cg,eF,e7,dO,bG,fP,bD,aQ,bp,bt,eg,aW,aq,ab,dZ,cm,bM,b8,b7,lW,fQ,lB,ag,bN,bF,aV,aU,cJ,fV,cq,aw,bc,bU,ar,de,aZ,bT,dt,ai,bS,cb,bQ,aG,iJ,kX,dr,j6,kW,bV,dS,du,df,eP]
 |false=>
  have hb:=Ks (K:=K) (C:=C) nu ma te o [] R dn role vo si cQ.nil hR (by simp;lia);rw[List.nil_append]at hb;have c3:cutD R (some 0) none=R:=c3;generalize R.take L.length=R0 at *;simp only[mD,dY]at hb |-;simp[C5,C4,rf,rg,rh,rj,Cj,Ck,Co,Cp,Cq,Cr,Cs,Ct,Cu,p1,p2,c1,c3,jG,hb,cg,eF,e7,dO,bG,fP,bD,aQ,bp,bt,eg,aW,aq,ab,dZ,cm,bM,b8,b7,lW,fQ,lB,ag,bN,bF,aV,aU,cJ,fV,cq,aw,bc,bU,ar,de,aZ,bT,dt,ai,bS,cb,bQ,aG,iJ,kX,dr,j6,kW,bV,dS,du,df,eP]
variable [dW K C]
theorem acs(h:jY r):oX K C 2 [r]=some r:=by
 cases h <;> simp[ji,oX,C2,C1,mR,mS,bD,aQ,dN,fW,aq,ab,bF,mR,wz,gY,fJ,VL.plain,aK,cv,bQ,dr,kW,qa,oO,bV,df,iw,ze]
theorem acu(R:List D)(hR:cQ R)(h:R.length<=900):C3 K C [.nd .tup R]=some (.nd .tup R):=by
 have h3:R.length<=aM:=bO h (by decide);have e:ji 1 [none] [0] (λZ=>(ab 0 Z).bind gY) (λd Z=>some (aQ 0 (B.ro d) Z)) (λx=>some true) (λZ=>(aq (ab 0) (λx=>some []) Z).bind λds=>if ds.length=1 then oX K C 2 ds else none) [some (.ro (.nd .tup R))]=some (.nd .lst R):=by
  have e:=me (n:=1) (js:= [none]) (is:= [0]) (fi:=λZ=>(ab 0 Z).bind gY) (fg:=λd Z=>some (aQ 0 (B.ro d) Z)) (ft:=λx=>some true) (fe:=λZ=>(aq (ab 0) (λx=>some []) Z).bind λds=>if ds.length=1 then oX K C 2 ds else none) (Z:= [some (.ro (.nd .tup R))]) R id (λ_=>true) id ?_ h3 rfl ?_
  ·rw[xV.mpr (λ_ _=>rfl),List.map_id]at e;exact e
  ·simp[bD,ab,gY]
  ·intro r hr;have hr:=acs (K:=K) (C:=C) (hR r hr);simp[hr,bD,aQ,fW,aq,ab,bV,df]
 have hp:=hR.plain;unfold C3;show dN _ (C2 K C (oX K C 2)) _=_;unfold C2 C1;dsimp only;generalize (ji 1 [none] [0] (λZ=>(ab 0 Z).bind gY) (λd Z=>some (aQ 0 (B.ro d) Z)) (λx=>some true) (λZ=>(aq (ab 0) (λx=>some []) Z).bind λds=>if ds.length=1 then oX K C 2 ds else none))=F at e |-;simp[e,hp,mR,bD,dN,aq,ab,bF,mR,wz,cv,bQ,dr,kW,qa,oO]
theorem QQ{α:Type}(f:α->D):∀(l:List (Int×α)) (i:Int) (x:α),(match cZ (fB i:bw) (l.map λp=>(fB p.1:bw)) with | some k=>D.nd (.az (l.map λp=>(fB p.1:bw))) ((l.map λp=>f p.2).set k (f x)) | none=>D.nd (.az (l.map (λp=>(fB p.1:bw))++ [fB i])) ((l.map λp=>f p.2)++ [f x]))=D.nd (.az ((eG l i x).map λp=>(fB p.1:bw))) ((eG l i x).map λp=>f p.2)
 | [],_,_=>rfl
 |p::l,i,x=>by
  have ih:=QQ f l i x;by_cases h:p.1=i
  ·simp[cZ,eG,h]
  ·have hk:¬ (fB p.1:bw)=fB i:=λz=>h (DR z);rw[eI,eI,cZ,if_neg hk,eG,if_neg h];cases e:cZ (fB i:bw) (l.map λp=>(fB p.1:bw)) with
   |none=>
    rw[e]at ih;injection ih with i1 i2
    injection i1 with i1
    simp only[Option.map_none,eI,agX];rw[i1,i2]
   |some k=>
    rw[e]at ih;injection ih with i1 i2
    injection i1 with i1
    simp only[Option.map_some,eI,List.set_cons_succ];rw[i1,i2]
theorem Dx{α:Type}(f:α->D)(l:List (Int×α))(i:Int)(x:α)(hn:(l.map (·.1)).Nodup)(hz:l.length<=100):iG (.az (l.map λp=>(fB p.1:bw))) (l.map λp=>f p.2) (iD i) (f x)=some (.nd (.az ((eG l i x).map λp=>(fB p.1:bw))) ((eG l i x).map λp=>f p.2)):=by
 have h1:(l.map λp=>f p.2).length < aM:=by rw[eS];exact DZ hz (by decide)
 have h2:(l.map λp=>(fB p.1:bw)).Nodup:=by
  have e:(l.map λp=>(fB p.1:bw))=(l.map (·.1)).map fB:=by rw[qw];rfl
  rw[e];exact ahg _ (λa b h z=>h (DR z)) hn
 have e:=QQ f l i x;unfold iG;show(if _ then _ else _)=_;rw[if_pos ⟨h1,h2⟩, <- e];cases cZ (fB i:bw) (l.map λp=>(fB p.1:bw)) <;> rfl
theorem QS(h:cQ v.2):VL.plain (ic v)=true:=by
 have:=h.plain;simp[ic,VL.plain,VL.aK,this]
theorem acv(vo:List (Int×Int×List D)):cJ [el vo]=some (iD vo.length):=by simp[cJ,el]
theorem acw(vo:List (Int×Int×List D))(h:∀p∈vo,cQ p.2.2):Cb (el vo)=some (.nd .lst (vo.map λp=>ic p.2)):=by
 have hp:VL.aK (vo.map λp=>ic p.2)=true:=qN λd hd=>by
  obtain⟨p,hp,rfl⟩:=i0.mp hd;exact QS (h p hp)
 simp[Cb,el,hp]
theorem QT(v:Int×List D):xg K C [ic v]=some (.nd .tup [iD v.1,iD v.2.length]):=ab9 v.1 v.2
theorem Kv:∀(r:List (Int×Int×List D)) (b:Int×List D),uz (xg K C) (r.map λp=>ic p.2) (ic b) (b.1,(b.2.length:Int))=some (ic (gF b r))
 | [],_=>rfl
 |p::r,b=>by
  rw[eI,uz,QT];show(if iW p.2.1 p.2.2.length b.1 b.2.length=true then _ else _)=_;unfold gF;rw[UK];have e:o4 b p.2=if iW p.2.1 p.2.2.length b.1 b.2.length=true then p.2 else b:=rfl;by_cases c:iW p.2.1 p.2.2.length b.1 b.2.length=true
  ·rw[if_pos c]at e |-;rw[e];exact Kv r p.2
  ·rw[if_neg c]at e |-;rw[e];exact Kv r b
theorem acx(v:Int×Int×List D)(r:List (Int×Int×List D))(h:∀p∈v::r,cQ p.2.2):Cf (xg K C) [.nd .lst ((v::r).map λp=>ic p.2)]=some (ic (gF v.2 r)):=by
 have hp:VL.aK ((v::r).map λp=>ic p.2)=true:=qN λd hd=>by
  obtain⟨p,hp,rfl⟩:=i0.mp hd;exact QS (h p hp)
 rw[eI]at hp |-;unfold Cf;dsimp only;rw[if_pos hp,QT];exact Kv r v.2
theorem QU:∀(r:List (Int×Int×List D)) (v:Int×List D),gF v r=v\/∃p∈r,gF v r=p.2
 | [],v=> .inl rfl
 |p::r,v=>by
  have e:gF v (p::r)=gF (o4 v p.2) r:=rfl;rw[e];rcases QU r (o4 v p.2) with h | ⟨q,hq,h⟩
  ·rw[h];unfold o4
   split
   ·exact .inr ⟨p, .head _,rfl⟩
   ·exact .inl rfl
  ·exact .inr ⟨q, .tail _ hq,h⟩
theorem QV(m:Nat)(nu:Int)(s:MS)(hL:cQ s.L)(hz:s.L.length<=440)(hv:∀p∈s.vo,cQ p.2.2/\p.2.2.length<=440)(hm:0 < m):C7 K C [cE C m nu s]=some (.sc .aE, [cE C m nu (gj m s)]):=by
 obtain⟨te,o,L,dn,role,vo,si⟩:=s;have hb:=QI (K:=K) (C:=C) nu m te o L dn vo.length role (el vo) (bC si);have hl:=acv vo;by_cases h:(m:Int) < 2 * (vo.length:Nat)
 ·cases vo with
  |nil=>simp at h;lia
  |cons v r=>
   have acy:=acw (v::r) λp hp=>(hv p hp).1;have xx:=acx (K:=K) (C:=C) v r λp hp=>(hv p hp).1;have hB:cQ (gF v.2 r).2/\(gF v.2 r).2.length<=440:=by
    rcases QU r v.2 with e | ⟨p,hp,e⟩
    ·rw[e];exact hv v (.head _)
    ·rw[e];exact hv p (.tail _ hp)
   have hr:=QO (K:=K) (C:=C) nu m te o L (gF v.2 r).2 dn role (el (v::r)) (bC si) hL hB.1 hz hB.2;have hp:=hB.1.plain;have e:gj m ⟨te,o,L,dn,role,v::r,si⟩=⟨te,te,(gF v.2 r).2,dn,"leads",v::r, []⟩:=by
    unfold gj;rw[if_pos h]
   rw[e];rw[decide_eq_true h]at hb;unfold cE;dsimp only;have ez:bC []= .nd (.az []) []:=rfl;rw[ez];generalize (v::r).length=N at *;generalize el (v::r)=W at *;generalize ((v::r).map λp=>ic p.2)=RR at *;generalize (gF v.2 r)=b at *;obtain⟨bo,bR⟩:=b;generalize bC si=S at *;simp only[mD,dY,ic]at hb xx hr |-;simp[C7,C6,hb,hl,acy,xx,hr,hp,km,kn,uC,uD,uE,ko,kq,kr,ku,kx,ky,zg,zh,zi,zj,zk,zm,zo,zp,zq,zr,zt,zu,zv,zw,zA,cg,eF,e7,dO,bG,fP,bD,aQ,bp,bt,dR,aW,aq,ab,cY,dZ,cm,bM,b8,b7,lW,fQ,lB,ag,bN,bF,aV,dC,d7,eO,aC,cG,aU,cq,bc,bU,b6,iy,ar,VL.plain,aK,jT,de,aZ,bT,dt,ai,bS,cb,bQ,aG,dr,bV,dS,df,eP]
 ·have e:gj m ⟨te,o,L,dn,role,vo,si⟩=⟨te,o,L,dn,role,vo,si⟩:=by
   unfold gj;rw[if_neg h]
  rw[e];rw[decide_eq_false h]at hb;unfold cE;dsimp only;generalize vo.length=N at *;generalize el vo=W at *;generalize bC si=S at *;simp only[mD,dY]at hb |-;simp[C7,C6,hb,hl,zg,zh,zi,zj,zk,zm,zo,cg,bD,bp,bt,dR,aW,aq,ab,cY,bM,b8,b7,fQ,ag,bF,aV,dC,d7,eO,aC,cG,aU,bc,bU,b6,ar,de,aZ,ai,bS,cb,bQ,dr]
variable [dW K C]
theorem acz(m:Nat)(nu:Int)(s:MS)(hL:cQ s.L)(hz:s.L.length<=440)(h0:0 < m)(hm:m < 90):Ao K C [cE C m nu s]=some (.nd .lst ((j0 m nu (rise m nu s).te).map aD), [cE C m nu (rise m nu s)]):=by
 obtain⟨te,o,L,dn,role,vo,si⟩:=s;have acA:(0:Int) < m:=by lia
 have h3:(gw nu m).length<=aM:=by
  unfold gw;exact bO (UH _ _) (by rw[A5];exact bO (by lia:m<=100) (by decide))
 have hn:=ab8 (K:=K) (C:=C) nu m te o L dn role (el vo) (bC si) acA;have hl:=QV (K:=K) (C:=C) m nu ⟨gE nu m te,o,L,dn,"stands", [(nu,o,L)],si⟩ hL hz (λp hp=>by rw[gf.mp hp];exact⟨hL,hz⟩) h0;have er:rise m nu ⟨te,o,L,dn,role,vo,si⟩=gj m ⟨gE nu m te,o,L,dn,"stands", [(nu,o,L)],si⟩:=rfl;have et:(gj m ⟨gE nu m te,o,L,dn,"stands", [(nu,o,L)],si⟩).te=gE nu m te:=by
  unfold gj
  split <;> rfl
 rw[er,et];generalize gj m ⟨gE nu m te,o,L,dn,"stands", [(nu,o,L)],si⟩=s2 at *;obtain⟨acB,o2,L2,m6,Dy,QW,QX⟩:=s2;have et:acB=gE nu m te:=et;subst et;have ho:=Kt (K:=K) (C:=C) nu (gE nu m te) o2 m L2 m6 Dy (el QW) (bC QX) (by lia);have hp:=hL.plain;have oJ:L.length<=aM:=bO hz (by decide);have acC:(j0 m nu (gE nu m te)).map aD=(((gw nu m).filter λ_=>true).map λi:Nat=>D.nd .tup [.sc (.str "stand"), .sc (.int nu), .sc (.int (i:Int)), .sc (.int (gE nu m te))]):=by
  unfold j0;rw[xV.mpr (λ_ _=>rfl),qw];rfl
 rw[acC];unfold cE at hl |-;dsimp only at hl |-;have ev:el [(nu,o,L)]= .nd (.az [.inl nu]) [.nd .tup [iD o, .nd .tup L]]:=rfl;rw[ev]at hl;generalize el vo=V1 at *;generalize bC si=S1 at *;generalize el QW=V2 at *;generalize bC QX=S2 at *;unfold Ao IW;dsimp only;refine wL (ρ':= [some (.ak 1 []),some (.own (mD C nu m (gE nu m te) o2 L2 m6 Dy V2 S2))]) (fT (ρ':= [some (.ak 1 []),some (.own (mD C nu m (gE nu m te) o L dn role V1 S1))]) ?_ (fT (ρ':= [some (.ak 1 []),some (.own (mD C nu m (gE nu m te) o L dn "stands" V1 S1))]) ?_ (fT (ρ':= [some (.ak 1 []),some (.own (mD C nu m (gE nu m te) o L dn "stands" (.nd (.az [.inl nu]) [.nd .tup [iD o, .nd .tup L]]) S1))]) ?_
  (fT (ρ':= [some (.ak 1 []),some (.own (mD C nu m (gE nu m te) o2 L2 m6 Dy V2 S2))]) ?_ (nO (kZ (me (gw nu m) (λi:Nat=>D.sc (.int (i:Int))) (λ_=>true) (λi:Nat=>D.nd .tup [.sc (.str "stand"), .sc (.int nu), .sc (.int (i:Int)), .sc (.int (gE nu m te))]) ?_ h3 ?_ ?_))))))) ?_
 ·simp only[mD,dY]at hn |-;simp[hn,km,kn,bD,aq,ab,cm,bM,lW,lB,ag,aV,cq,bc,bU,ar,de,aZ,bT,ai,aG]
 ·simp[mD,dY,ko,kq,kr,ku,kx,ky,cm,lW,lB,ag,cq,ar,de,aZ,bT,ai,aG]
 ·simp[mD,dY,hp,uC,uD,uE,rf,rg,rh,rj,zg,zh,zi,zj,zk,zm,zo,bD,aq,ab,q9,cm,b7,lW,fQ,lB,ag,cG,aU,cM,cq,ar,VL.plain,dE,de,aZ,bT,ai,aG,kW,iw]
 ·simp only[mD,dY]at hl |-;simp[hl,eF,e7,dO,bG,bt,aW,dZ,b8,ag,bN,ar,aZ,bT,dt,ai,bS,cb,aG]
 ·refine af.mpr ⟨.nd .lst ((gw nu m).map λi:Nat=>D.sc (.int (i:Int))),af.mpr ⟨[mD C nu m (gE nu m te) o2 L2 m6 Dy V2 S2], ?_, ?_⟩,rfl⟩
  ·clear ho hl hn;simp[bD,aq,ab,ag,ai]
  ·exact(if_pos rfl).trans ho
 ·rfl
 ·intro i hi;simp[mD,dY,km,kn,bD,aQ,fW,aq,ab,b7,fQ,ag,aU,cM,VL.plain,dE,de,ai,bV,du,df,ZM]
 ·rfl
theorem acD(m:Nat)(nu sn i t:Int)(s:MS)(hL:cQ s.L)(hz:s.L.length<=440):Dc K C [cE C m nu s,iD sn,iD t]=some (.nd .lst ((bI m nu s (.ja sn i t)).2.map aD), [cE C m nu (bI m nu s (.ja sn i t)).1]):=by
 obtain⟨te,o,L,dn,role,vo,si⟩:=s;unfold bI cE;dsimp only;by_cases h:t<=te
 ·rw[if_pos h];dsimp only;simp only[mD,dY];simp[Dc,C9,h,km,kn,cg,bD,bp,aq,ab,bM,b7,fQ,ag,bF,cN,aV,aU,fV,aw,bc,bU,de,cv,ai,bQ,dr]
 ·rw[if_neg h];dsimp only;have hr:=QK (K:=K) (C:=C) nu m t o L dn "hears" (el vo) (bC si) hL (bO hz (by decide));have hp:=hL.plain;rw[eI,iZ,aD];simp only[mD,dY]at hr |-;simp[Dc,C9,hr,h,km,kn,uC,uD,uE,ko,kq,kr,ku,kx,ky,cg,bD,bp,aq,kg,ab,cm,bM,b7,lW,fQ,lB,ag,bF,cN,aV,aU,fV,fJ,cq,aw,bc,bU,ar,VL.plain,jT,de,aZ,bT,cv,ai,bQ,aG,dr,nH,mV,GW]
theorem rA{r:Str}(h:r="hears"\/r="stands"\/r="leads"):iN r=true:=by
 rcases h with rfl | rfl | rfl <;> decide +kernel
theorem acE(m:Nat)(nu sn i t o':Int)(R:List D)(s:MS)(w:Wf 440 s)(hR:cQ R)(hz:R.length<=440)(hm:0 < m):Au K C [cE C m nu s,iD sn,iD t,iD o', .nd .tup R]=some (.nd .lst ((bI m nu s (.ib sn i t o' R)).2.map aD), [cE C m nu (bI m nu s (.ib sn i t o' R)).1]):=by
 have he:=qd s.role "stands" (rA w.role) (by decide +kernel);have hw:=w.rows.plain;by_cases h:s.role="stands"/\t=s.te
 ·have e:bI m nu s (.ib sn i t o' R)=(gj m { s with vo:=eG s.vo sn (o',R) }, []):=by
   unfold bI;dsimp only;rw[if_pos h]
  rw[e];obtain⟨h1,h2⟩:=h;subst h2;have hv:∀p∈eG s.vo sn (o',R),cQ p.2.2/\p.2.2.length<=440:=λp hp=>by
   rcases mZ s.vo sn (o',R) p hp with q | q
   ·exact w.vr p q
   ·rw[q];exact⟨hR,hz⟩
  have hl:=QV (K:=K) (C:=C) m nu { s with vo:=eG s.vo sn (o',R) } w.rows w.len hv hm;have ql:=Dx ic s.vo sn (o',R) w.vn (by have:=w.vl;lia);have hc:=acu (K:=K) (C:=C) R hR (by lia);have pl:=hR.plain;rw[h1,decide_eq_true rfl]at he;generalize gj m { s with vo:=eG s.vo sn (o',R) }=s2 at *;obtain⟨te,o,L,dn,role,vo,si⟩:=s;have h1:role="stands":=h1;subst h1;rw[iZ];have hM:∃M2,M2=cE C m nu s2:=⟨_,rfl⟩
  obtain⟨M2,hM⟩:=hM;rw[<- hM]at hl |-;clear hM;unfold cE at hl |-;dsimp only at hl he ql |-;have ev:el vo= .nd (.az (vo.map λp=>(fB p.1:bw))) (vo.map λp=>ic p.2):=rfl;have dz:el (eG vo sn (o',R))= .nd (.az ((eG vo sn (o',R)).map λp=>(fB p.1:bw))) ((eG vo sn (o',R)).map λp=>ic p.2):=rfl;rw[<- dz]at ql;rw[ev];generalize el (eG vo sn (o',R))=W at *;generalize (vo.map λp=>(fB p.1:bw))=ks at *;generalize (vo.map λp=>ic p.2)=cs at *;generalize bC si=S at *;simp only[mD,dY,ic]at hl ql |-;simp[Au,As,he,kj,hc,ql,hl,km,kn,ko,kq,kr,ku,kx,ky,zg,zh,zi,zj,zk,zm,zo,cg,jr,eF,e7,dO,bG,bD,bp,bt,aW,aq,ab,fm,dZ,cm,bM,b8,b7,fQ,so,ag,bN,bF,dk,aV,aU,fV,uA,fJ,cq,aw,bc,bU,b6,iy,ar,VL.plain,aK,de,aZ,bT,dt,cv,ai,bS,cb,bQ,aG,dr]
 ·have e:bI m nu s (.ib sn i t o' R)=(s, []):=by
   unfold bI;dsimp only;rw[if_neg h]
  rw[e];obtain⟨te,o,L,dn,role,vo,si⟩:=s;unfold cE;dsimp only at h he |-;rw[iZ];by_cases h1:role="stands"
  ·rw[decide_eq_true h1]at he;have h2:¬ t=te:=λz=>h ⟨h1,z⟩;simp only[mD,dY];simp[Au,As,he,kj,h2,km,kn,ko,kq,kr,ku,kx,ky,cg,jr,bD,bp,bt,aW,aq,ab,fm,cm,bM,b8,b7,fQ,so,ag,bF,aV,aU,fV,uA,fJ,cq,aw,bc,bU,b6,ar,de,aZ,bT,cv,ai,bS,cb,bQ,dr]
  ·rw[decide_eq_false h1]at he;simp only[mD,dY];simp[Au,As,he,kj,km,kn,ko,kq,kr,ku,kx,ky,cg,jr,bD,bp,bt,aW,aq,ab,fm,cm,bM,b8,b7,fQ,so,ag,bF,aV,aU,fV,uA,fJ,cq,aw,bc,bU,b6,ar,de,aZ,bT,cv,ai,bS,cb,bQ,dr]
theorem or_true{a:Prop}[Decidable a]{l r:Nat}(h:a\/(l:Int) < r):(if a then some true else some (decide (l < r)))=some true:=by
 by_cases c:a
 ·rw[if_pos c]
 ·rw[if_neg c,decide_eq_true (by have:=h.resolve_left c;lia)]
theorem acF(m:Nat)(nu sn i t sure:Int)(R:List D)(s:MS)(hL:cQ s.L)(hz:s.L.length<=440)(hR:cQ R)(kY:R.length<=440):Aw K C [cE C m nu s,iD sn,iD t, .nd .tup R,iD sure]=some (.nd .lst ((bI m nu s (.keep sn i t R sure)).2.map aD), [cE C m nu (bI m nu s (.keep sn i t R sure)).1]):=by
 obtain⟨te,o,L,dn,role,vo,si⟩:=s;have p1:=hL.plain;have p2:=hR.plain;unfold bI cE;dsimp only;by_cases h:t < te
 ·rw[if_pos h];dsimp only;rw[iZ];simp only[mD,dY];simp[Aw,Av,h,km,kn,cg,bD,bp,bt,dR,aW,aq,ab,bM,b8,b7,fQ,ag,bF,cN,aV,aU,fV,aw,p6,bc,bU,b6,ar,de,aZ,cv,ai,bS,cb,bQ,dr]
 ·rw[if_neg h];unfold kept;dsimp only;by_cases hc:o < t\/(L.length:Int) < R.length
  ·rw[if_pos hc];dsimp only;rw[eI,iZ,aD];have hr:=QO (K:=K) (C:=C) nu m t o L R dn "hears" (el vo) (bC si) hL hR hz kY;have acG:=or_true hc;simp only[mD,dY]at hr |-;simp[Aw,Av,h,hr,p2,km,kn,uC,uD,uE,rf,rg,rh,rj,wM,wN,wO,wQ,wR,ko,kq,kr,ku,kx,ky,acG,cg,eF,e7,dO,bG,bD,bp,bt,dR,aW,aq,kg,ab,dZ,cm,bM,b8,b7,lW,fQ,lB,ag,bN,bF,cN,lX,aV,aU,cJ,fV,fJ,cq,aw,p6,bc,bU,b6,ar,VL.plain,jT,de,aZ,bT,dt,cv,ai,bS,cb,bQ,aG,dr,nH,mV,uB]
  ·rw[if_neg hc];dsimp only;rw[eI,iZ,aD];have oI:¬ o < t:=λz=>hc (.inl z);have gq:¬ L.length < R.length:=λz=>hc (.inr (by lia));simp only[mD,dY];simp[Aw,Av,h,oI,gq,km,kn,uC,uD,uE,rf,rg,rh,rj,wM,wN,wO,wQ,wR,ko,kq,kr,ku,kx,ky,cg,bD,bp,bt,dR,aW,aq,kg,ab,dZ,cm,bM,b8,b7,lW,fQ,lB,ag,bF,cN,lX,aV,aU,cJ,fV,fJ,cq,aw,p6,bc,bU,b6,ar,VL.plain,jT,de,aZ,bT,cv,ai,bS,cb,bQ,aG,dr,nH,mV,uB]
theorem acH{c:En->Option (Bool×En)}{a b:En->Option Fl}{Z ρ1:En}{r:Option Fl}(h:c Z=some (true,ρ1))(ha:a ρ1=r):bF c a b Z=r:=by
 unfold bF;rw[h];exact ha
theorem acI{GC:List D->Option (D×List D)}{M1 M2 d:D}{sn te z:Int}(hc:GC [M1]=some (d, [M2])):dZ (λZ=>(bu (λa=>(a,Z)) (bt (ar 0) (λx=>some []) Z)).bind λa=>aW GC a.fst a.snd) [some (.ak 4 []),some (.ro (iD sn)),some (.ro (iD te)),some (.ro (iD z)),some (.own M1)]=some (.nx [some (.ak 4 []),some (.ro (iD sn)),some (.ro (iD te)),some (.ro (iD z)),some (.own M2)]):=by
 have hs:∀(M e:D),aG M [] e=e:=λM e=>by cases M <;> rfl
 simp[hc,eF,e7,dO,bG,bt,aW,dZ,b8,ag,bN,ar,aZ,bT,dt,ai,bS,cb,aG]
theorem acJ(m:Nat)(nu sn i t z:Int)(s:MS)(w:Wf 440 s)(hm:m < 90):Aq K C [cE C m nu s,iD sn,iD t,iD z]=some (.nd .lst ((bI m nu s (.kept sn i t z)).2.map aD), [cE C m nu (bI m nu s (.kept sn i t z)).1]):=by
 have he:=qd s.role "leads" (rA w.role) (by decide +kernel);by_cases h:s.role="leads"/\t=s.te
 ·have e:bI m nu s (.kept sn i t z)=(count m nu { s with si:=eG s.si sn (if cx s.si sn > z then cx s.si sn else z) }, []):=by
   unfold bI;dsimp only;rw[if_pos h]
  rw[e];obtain⟨h1,h2⟩:=h;subst h2;have ql:=Dx iD s.si sn (if cx s.si sn > z then cx s.si sn else z) w.sn (by have:=w.sl;lia);have hg:=Jq s.si sn;rw[h1,decide_eq_true rfl]at he;obtain⟨te,o,L,dn,role,vo,si⟩:=s;have h1:role="leads":=h1;subst h1;dsimp only at he ql hg |-;rw[iZ];unfold count cE;dsimp only;have hc:=QM (K:=K) (C:=C) nu te o m L dn "leads" (el vo) (eG si sn (if cx si sn > z then cx si sn else z)) hm;have dz:bC (eG si sn (if cx si sn > z then cx si sn else z))= .nd (.az ((eG si sn (if cx si sn > z then cx si sn else z)).map λp=>(fB p.1:bw))) ((eG si sn (if cx si sn > z then cx si sn else z)).map λp=>iD p.2):=rfl;rw[<- dz]at ql;generalize eG si sn (if cx si sn > z then cx si sn else z)=S' at *;generalize gD dn ((dA nu m S' L.length).filter (most m (dA nu m S' L.length)))=j5 at *;generalize el vo=VV at *;have hW:∃W,W=bC S':=⟨_,rfl⟩
  obtain⟨W,hW⟩:=hW;rw[<- hW]at ql hc |-;clear hW dz;unfold Aq Ap;dsimp only;refine wL (ρ':= [some (.ak 4 []),some (.ro (iD sn)),some (.ro (iD te)),some (.ro (iD z)),some (.own (mD C nu m te o L j5 "leads" VV W))]) (fT (ρ':= [some (.ak 4 []),some (.ro (iD sn)),some (.ro (iD te)),some (.ro (iD z)),some (.own (mD C nu m te o L j5 "leads" VV W))]) ?_ ?_) rfl
  ·have bH:fm (λZ=>bu (λd=>(d,Z)) ((aq (ab 3) (aq (jt (λZ=>(ab 0 Z).bind (b7 (ae "sizes"))) (ab 1) λx=>some (D.sc (V.int 0))) λx=>some []) Z).bind (lX λi j=>V.int (if j > i then j else i)))) (so (ae "sizes") (ar 0)) (ab 1) [some (.ak 4 []),some (.ro (iD sn)),some (.ro (iD te)),some (.ro (iD z)),some (.own (mD C nu m te o L dn "leads" VV (bC si)))]=some (.nx [some (.ak 4 []),some (.ro (iD sn)),some (.ro (iD te)),some (.ro (iD z)),some (.own (mD C nu m te o L dn "leads" VV W))]):=by
    have Kw:jt (λZ=>(ab 0 Z).bind (b7 (ae "sizes"))) (ab 1) (λx=>some (D.sc (V.int 0))) [some (.ak 4 []),some (.ro (iD sn)),some (.ro (iD te)),some (.ro (iD z)),some (.own (mD C nu m te o L dn "leads" VV (bC si)))]=some (iD (cx si sn)):=by
     unfold jt;refine af.mpr ⟨bC si, ?_, ?_⟩
     ·simp[mD,dY,zp,zq,zr,zt,zu,zv,zw,zA,bD,ab,b7,fQ,ag,aU,de,ai]
     ·exact hg
    generalize hq:cx si sn=q at *;generalize jt (λZ=>(ab 0 Z).bind (b7 (ae "sizes"))) (ab 1) (λx=>some (D.sc (V.int 0)))=GD at Kw |-;simp only[mD,dY,bC]at Kw ql |-;simp[Kw,ql,zp,zq,zr,zt,zu,zv,zw,zA,bD,aq,ab,fm,cm,fQ,so,ag,dk,lX,aU,cq,b6,iy,ar,VL.plain,aK,de,aZ,bT,ai,aG]
   have cf:=acI (sn:=sn) (te:=te) (z:=z) hc;refine acH (ρ1:= [some (.ak 4 []),some (.ro (iD sn)),some (.ro (iD te)),some (.ro (iD z)),some (.own (mD C nu m te o L dn "leads" VV (bC si)))]) ?_ (fT bH cf);simp only[mD,dY];simp[he,kj,km,kn,ko,kq,kr,ku,kx,ky,jr,bD,ab,bM,b7,fQ,ag,aV,aU,aw,bc,bU,de,ai]
  ·simp[fV,cv]
 ·have e:bI m nu s (.kept sn i t z)=(s, []):=by
   unfold bI;dsimp only;rw[if_neg h]
  rw[e];obtain⟨te,o,L,dn,role,vo,si⟩:=s;unfold cE;dsimp only at h he |-;rw[iZ];by_cases h1:role="leads"
  ·rw[decide_eq_true h1]at he;have h2:¬ t=te:=λz=>h ⟨h1,z⟩;simp only[mD,dY];simp[Aq,Ap,he,kj,h2,km,kn,ko,kq,kr,ku,kx,ky,cg,jr,bD,bp,bt,aW,aq,ab,jt,cY,fm,cm,bM,b8,b7,fQ,so,ag,bF,aV,cG,aU,fV,cq,aw,bc,bU,b6,ar,de,aZ,bT,cv,ai,bS,cb,bQ,dr]
  ·rw[decide_eq_false h1]at he;simp only[mD,dY];simp[Aq,Ap,he,kj,km,kn,ko,kq,kr,ku,kx,ky,cg,jr,bD,bp,bt,aW,aq,ab,jt,cY,fm,cm,bM,b8,b7,fQ,so,ag,bF,aV,cG,aU,fV,cq,aw,bc,bU,b6,ar,de,aZ,bT,cv,ai,bS,cb,bQ,dr]
theorem ra(a b:Str)(ha:iN a=true)(hb:iN b=true)(h:decide (a=b)=false):bZ id (.sc (.str a)) (.sc (.str b))=some (.sc (.bl false)):=by rw[qd _ _ ha hb,h]
theorem eqT(a:Str)(ha:iN a=true):bZ id (.sc (.str a)) (.sc (.str a))=some (.sc (.bl true)):=by rw[qd _ _ ha ha,decide_eq_true rfl]
theorem acK(m:Nat)(nu:Int)(s:MS)(g:dG)(w:Wf 440 s)(hg:g.ok 440)(h0:0 < m)(hm:m < 90):sU K C [cE C m nu s,aD g]=some (.nd .lst ((bI m nu s g).2.map aD), [cE C m nu (bI m nu s g).1]):=by
 cases g with
 |ja sn i t=>
  have hv:=acD (K:=K) (C:=C) m nu sn i t s w.rows w.len;have h1:=eqT "stand" (by decide +kernel);generalize bI m nu s (.ja sn i t)=X at *;generalize cE C m nu s=M at *;rw[aD];simp[sU,xm,h1,hv,cg,eF,e7,dO,bG,bD,bp,bt,dR,aW,ab,cY,bM,b8,ag,bN,bF,aV,dC,d7,eO,bx,aC,bf,cG,aU,aw,bc,bU,b6,iy,ar,VL.plain,aZ,bT,dt,cv,ai,bS,cb,bQ,aG,dr]
 |ib sn i t o' R=>
  have hv:=acE (K:=K) (C:=C) m nu sn i t o' R s w hg.1 hg.2 h0;have h1:=ra "voice" "stand" (by decide +kernel) (by decide +kernel) (by decide +kernel);have h2:=eqT "voice" (by decide +kernel);have pl:=hg.1.plain;generalize bI m nu s (.ib sn i t o' R)=X at *;generalize cE C m nu s=M at *;rw[aD];simp[sU,xm,h1,h2,hv,pl,cg,eF,e7,dO,bG,bD,bp,bt,dR,aW,ab,cY,bM,b8,ag,bN,bF,aV,dC,d7,eO,bx,aC,bf,cG,aU,aw,bc,bU,b6,iy,ar,VL.plain,aZ,bT,dt,cv,ai,bS,cb,bQ,aG,dr]
 |keep sn i t R dn=>
  have hv:=acF (K:=K) (C:=C) m nu sn i t dn R s w.rows w.len hg.1 hg.2;have h1:=ra "keep" "stand" (by decide +kernel) (by decide +kernel) (by decide +kernel);have h2:=ra "keep" "voice" (by decide +kernel) (by decide +kernel) (by decide +kernel);have h3:=eqT "keep" (by decide +kernel);have pl:=hg.1.plain;generalize bI m nu s (.keep sn i t R dn)=X at *;generalize cE C m nu s=M at *;rw[aD];simp[sU,xm,h1,h2,h3,hv,pl,cg,eF,e7,dO,bG,bD,bp,bt,dR,aW,ab,cY,bM,b8,ag,bN,bF,aV,dC,d7,eO,bx,aC,bf,cG,aU,aw,bc,bU,b6,iy,ar,VL.plain,aZ,bT,dt,cv,ai,bS,cb,bQ,aG,dr]
 |kept sn i t z=>
  have hv:=acJ (K:=K) (C:=C) m nu sn i t z s w hm;have h1:=ra "kept" "stand" (by decide +kernel) (by decide +kernel) (by decide +kernel);have h2:=ra "kept" "voice" (by decide +kernel) (by decide +kernel) (by decide +kernel);have h3:=ra "kept" "keep" (by decide +kernel) (by decide +kernel) (by decide +kernel);generalize bI m nu s (.kept sn i t z)=X at *;generalize cE C m nu s=M at *;rw[aD];simp[sU,xm,h1,h2,h3,hv,cg,eF,e7,dO,bG,bD,bp,bt,dR,aW,ab,cY,bM,b8,ag,bN,bF,aV,dC,d7,eO,bx,aC,bf,cG,aU,aw,bc,bU,b6,iy,ar,VL.plain,aZ,bT,dt,cv,ai,bS,cb,bQ,aG,dr]
theorem QY(m:Nat)(nu:Int)(s:MS):(keeps m nu s).map aD=xr nu s.te m s.L s.dn:=by
 unfold keeps xr;rw[qw];rfl
theorem acL(m:Nat)(nu:Int)(s:MS)(w:Wf 440 s)(hm:m < 90):sV K C [cE C m nu s]=some (.nd .lst ((sends m nu s).map aD)):=by
 unfold sends;by_cases h:s.role="leads"
 ·rw[if_pos h,QY];unfold cE;rw[h];exact QL nu s.te s.o m s.L s.dn (el s.vo) (bC s.si) w.rows (bO w.len (by decide)) (by lia)
 ·rw[if_neg h,iZ];exact ace nu m s.te s.o s.L s.dn s.role (el s.vo) (bC s.si) (rA w.role) h
theorem acM(m:Nat)(nu:Int)(s:MS):Ax K C [cE C m nu s]=some (.nd .lst [], [cE C m nu (kC s)]):=by
 obtain⟨te,o,L,dn,role,vo,si⟩:=s;unfold kC cE;dsimp only;simp[Ax,Jk,mD,dY,wM,wN,wO,wQ,wR,ko,kq,kr,ku,kx,ky,cg,bp,cm,bM,lW,lB,ag,aV,fV,cq,bc,bU,ar,de,aZ,bT,cv,ai,bQ,aG,dr]
def Dz:Option (List dG)->D
 |some l=> .nd .lst (l.map aD)
 |none=> .sc .aE
theorem acN(m:Nat)(nu:Int)(s:MS)(r:D)(w:Wf 440 s)(hr:jY r)(hm:m < 90):rq K C [cE C m nu s,r]=some (Dz (ij m nu r s).2, [cE C m nu (ij m nu r s).1]):=by
 unfold ij;by_cases h:s.role="leads"
 ·rw[if_pos h];dsimp only;rw[Dz,QY];obtain⟨te,o,L,dn,role,vo,si⟩:=s;have h:role="leads":=h;subst h;unfold cE count;dsimp only;obtain⟨j5,e,ha⟩:=acp (K:=K) (C:=C) nu te o m L dn (el vo) r si w.rows hr (DZ w.len (by decide)) hm;rw[show(L++ [r]).length=L.length + 1 by simp, <- e];exact ha
 ·rw[if_neg h];exact aco nu m s.te s.o s.L s.dn s.role (el s.vo) (bC s.si) r (rA w.role) h
variable [dW K C]
theorem acO(nu sn t o':Int)(R:List D)(m:Nat)(s:MS)(hr:iN s.role=true)(pR:VL.aK R=true)(hn:(s.vo.map (·.1)).Nodup)(hl:s.vo.length<=49)(hp:∀p∈s.vo,VL.aK p.2.2=true)(ho:∀p∈s.vo,0<=p.2.1)(jQ:0<=o'):jZ K C [aO nu s,iD m,aD (.ib sn nu t o' R)]=if s.role="stands"/\t=s.te then some (.nd .lst [], [aO nu (gj m { s with vo:=eG s.vo sn (o',R) })]) else some (.nd .lst [], [aO nu s]):=by
 have er:=qd s.role "stands" hr (by decide +kernel);have et:=kj t s.te;by_cases c:s.role="stands"/\t=s.te
 ·rw[if_pos c];have hc:=Qx (K:=K) (C:=C) nu m { s with vo:=eG s.vo sn (o',R) } (λp qM=>by
   rcases mZ s.vo sn (o',R) p qM with q | q
   ·exact hp p q
   ·rw[q];exact pR) (λp qM=>by
   rcases mZ s.vo sn (o',R) p qM with q | q
   ·exact ho p q
   ·rw[q];exact jQ) (bO (Js _ _ _) (by lia))
  have put:=Dx ic s.vo sn (o',R) hn (by lia);have QZ:=λx=>Ds (iD nu) (iD s.te) (iD s.o) (.nd .tup s.L) (iD s.dn) (sD s.role) x (bC s.si);rw[decide_eq_true c.1]at er;rw[decide_eq_true c.2]at et;generalize aO nu (gj m { s with vo:=eG s.vo sn (o',R) })=M2 at *;simp only[aO,el,ic]at hc put |-;generalize bC s.si=S1 at *;generalize ((eG s.vo sn (o',R)).map λp=>(fB p.1:bw))=PK at *;generalize ((eG s.vo sn (o',R)).map λp=>(D.nd .tup [iD p.2.1, .nd .tup p.2.2]))=PV at *;simp[jZ,mY,aD,o8,ab5,Kn,Ko,Kq,Kr,er,et,pR,put,hc,QZ,lg,nS,cg,jr,eF,e7,dO,bG,bD,aQ,binds,bp,bt,dR,aW,aq,ab,jt,cY,fm,dZ,cm,bM,b8,ag,bN,bF,dk,cN,aV,eO,cG,aU,fV,cq,aw,bc,bU,b6,iy,ar,VL.plain,aK,aZ,bT,dt,cv,ai,bS,cb,bQ,aG,iJ,kX,dr,j6,nN,mT,bV,dS,du,df,eP]
 ·rw[if_neg c];have QZ:=λx=>Ds (iD nu) (iD s.te) (iD s.o) (.nd .tup s.L) (iD s.dn) (sD s.role) x (bC s.si);simp only[aO];generalize el s.vo=V1 at *;generalize bC s.si=S1 at *;by_cases c1:s.role="stands"
  ·have c2:t≠s.te:=λz=>c ⟨c1,z⟩;rw[decide_eq_true c1]at er;rw[decide_eq_false c2]at et;simp[jZ,mY,aD,o8,Kn,Ko,Kq,Kr,er,et,pR,lg,nS,cg,jr,bD,aQ,binds,bp,bt,dR,aW,aq,ab,jt,cY,fm,cm,bM,b8,ag,bF,cN,aV,eO,cG,aU,fV,cq,aw,bc,bU,b6,ar,VL.plain,aK,aZ,bT,cv,ai,bS,cb,bQ,iJ,kX,dr,j6,nN,mT,bV,dS,du,df,eP]
  ·rw[decide_eq_false c1]at er;simp[jZ,mY,aD,o8,Kn,Ko,Kq,Kr,er,pR,lg,nS,cg,jr,bD,aQ,binds,bp,bt,dR,aW,aq,ab,jt,cY,fm,cm,bM,b8,ag,bF,cN,aV,eO,cG,aU,fV,cq,aw,bc,bU,b6,ar,VL.plain,aK,aZ,bT,cv,ai,bS,cb,bQ,iJ,kX,dr,j6,nN,mT,bV,dS,du,df,eP]
theorem acP(nu sn t sure:Int)(R:List D)(m:Nat)(s:MS)(hL:cQ s.L)(hR:cQ R)(hz:s.L.length<=900)(kY:R.length<=900):jZ K C [aO nu s,iD m,aD (.keep sn nu t R sure)]=if s.te<=t then some (.nd .lst [aD (.kept nu sn t (kept s t R).L.length)], [aO nu { kept s t R with dn:=if(if((kept s t R).L.length:Int) < sure then((kept s t R).L.length:Int) else sure) > s.dn then(if((kept s t R).L.length:Int) < sure then((kept s t R).L.length:Int) else sure) else s.dn }]) else some (.nd .lst [], [aO nu s]):=by
 have pR:=hR.plain;by_cases c:s.te<=t
 ·rw[if_pos c];have hc:=abO (K:=K) (C:=C) nu sn t sure s R hL hR hz kY;generalize aO nu { kept s t R with dn:=if(if((kept s t R).L.length:Int) < sure then((kept s t R).L.length:Int) else sure) > s.dn then(if((kept s t R).L.length:Int) < sure then((kept s t R).L.length:Int) else sure) else s.dn }=M2 at *;generalize aD (.kept nu sn t (kept s t R).L.length)=G2 at *;simp only[aO]at hc |-;generalize el s.vo=V1 at *;generalize bC s.si=S1 at *;have e:cZ (vd (ae "term"):bw) pKeys=some 1:=by simp[pKeys,cZ,Dq]
  simp[jZ,mY,aD,o8,QF,QG,QH,c,pR,hc,e,cg,jr,eF,e7,dO,bG,bD,aQ,binds,bp,bt,dR,aW,aq,ab,jt,cY,fm,cm,bM,b8,ag,bN,bF,cN,aV,dC,d7,eO,bx,aC,bf,cG,aU,cq,aw,bc,bU,b6,iy,ar,VL.plain,aK,aZ,bT,dt,cv,ai,bS,cb,bQ,aG,iJ,kX,dr,j6,nN,mT,bV,dS,du,df,eP]
 ·rw[if_neg c];simp only[aO];generalize el s.vo=V1 at *;generalize bC s.si=S1 at *;simp[jZ,mY,aD,o8,QF,QG,QH,ab4,c,pR,lg,cg,jr,bD,aQ,binds,bp,bt,dR,aW,aq,ab,jt,cY,fm,cm,bM,b8,ag,bF,cN,aV,eO,cG,aU,fV,cq,aw,bc,bU,b6,ar,VL.plain,aK,aZ,bT,cv,ai,bS,cb,bQ,iJ,kX,dr,j6,nN,mT,bV,dS,du,df,eP]
theorem acQ(nu sn t z:Int)(m:Nat)(s:MS)(hr:iN s.role=true)(hn:(s.si.map (·.1)).Nodup)(hl:s.si.length<=49)(hL:s.L.length<=1000)(hd:0<=s.dn)(hd2:s.dn < 2 ^ 60):jZ K C [aO nu s,iD m,aD (.kept sn nu t z)]=if s.role="leads"/\t=s.te then some (.nd .lst [], [aO nu (kD m { s with si:=eG s.si sn (if z > cx s.si sn then z else cx s.si sn) })]) else some (.nd .lst [], [aO nu s]):=by
 have er:=qd s.role "leads" hr (by decide +kernel);have et:=kj t s.te;by_cases c:s.role="leads"/\t=s.te
 ·rw[if_pos c];have gs:=Jq s.si sn;generalize cx s.si sn=gz at *;have hc:=QD (K:=K) (C:=C) nu m { s with si:=eG s.si sn (if z > gz then z else gz) } (AB _ _ _ hn) (bO (Js _ _ _) (by lia)) hL hd hd2;have put:=Dx iD s.si sn (if z > gz then z else gz) hn (by lia);have Q0:=λx=>Kf (iD nu) (iD s.te) (iD s.o) (.nd .tup s.L) (iD s.dn) (sD s.role) (el s.vo) x;have m4:bf aC bx (.nd .tup [sD "kept",iD sn,iD nu,iD t,iD z]) (.sc (.int 4))=some (iD z):=by simp[dC,d7,aC,bf,aU]
  rw[decide_eq_true c.1]at er;rw[decide_eq_true c.2]at et;generalize aO nu (kD m { s with si:=eG s.si sn (if z > gz then z else gz) })=M2 at *;simp only[aO,bC]at hc put gs |-;generalize el s.vo=V1 at *;generalize ((eG s.si sn (if z > gz then z else gz)).map λp=>(fB p.1:bw))=PK at *;generalize ((eG s.si sn (if z > gz then z else gz)).map λp=>iD p.2)=PV at *;generalize ajR:(s.si.map λp=>(fB p.1:bw))=KS at *;generalize (s.si.map λp=>iD p.2)=VS at *;obtain⟨o,g1,g2⟩:=af.mp gs;cases o with
  |none=>
   have g2:(some (iD 0):Option D)=some (iD gz):=g2;have g2:gz=0:=by simpa using g2.symm
   subst g2;simp[jZ,mY,aD,o8,Dt,Du,Dv,Dw,er,et,put,hc,g1,Q0,m4,lg,nS,Kg,cg,jr,eF,e7,dO,bG,bD,aQ,binds,bp,bt,dR,aW,aq,ab,jt,fm,dZ,cm,bM,b8,ag,bN,bF,dk,cN,lX,aV,eO,aU,fV,cq,aw,bc,bU,b6,iy,ar,VL.plain,aK,aZ,bT,dt,cv,ai,bS,cb,bQ,aG,iJ,kX,dr,j6,nN,mT,bV,dS,du,df,eP]
  |some k=>
   have g2:VS[k]?=some (iD gz):=g2;simp[jZ,mY,aD,o8,Dt,Du,Dv,Dw,er,et,put,hc,g1,g2,Q0,m4,lg,nS,Kg,cg,jr,eF,e7,dO,bG,bD,aQ,binds,bp,bt,dR,aW,aq,ab,jt,fm,dZ,cm,bM,b8,ag,bN,bF,dk,cN,lX,aV,eO,aU,fV,cq,aw,bc,bU,b6,iy,ar,VL.plain,aK,aZ,bT,dt,cv,ai,bS,cb,bQ,aG,iJ,kX,dr,j6,nN,mT,bV,dS,du,df,eP]
 ·rw[if_neg c];simp only[aO];generalize el s.vo=V1 at *;generalize bC s.si=S1 at *;by_cases c1:s.role="leads"
  ·have c2:t≠s.te:=λz=>c ⟨c1,z⟩;rw[decide_eq_true c1]at er;rw[decide_eq_false c2]at et;simp[jZ,mY,aD,o8,Dt,Du,Dv,Dw,er,et,lg,nS,cg,jr,bD,aQ,binds,bp,bt,dR,aW,aq,ab,jt,cY,fm,cm,bM,b8,ag,bF,cN,aV,eO,cG,aU,fV,cq,aw,bc,bU,b6,ar,VL.plain,aK,aZ,bT,cv,ai,bS,cb,bQ,iJ,kX,dr,j6,nN,mT,bV,dS,du,df,eP]
  ·rw[decide_eq_false c1]at er;simp[jZ,mY,aD,o8,Dt,Du,Dv,Dw,er,lg,nS,cg,jr,bD,aQ,binds,bp,bt,dR,aW,aq,ab,jt,cY,fm,cm,bM,b8,ag,bF,cN,aV,eO,cG,aU,fV,cq,aw,bc,bU,b6,ar,VL.plain,aK,aZ,bT,cv,ai,bS,cb,bQ,iJ,kX,dr,j6,nN,mT,bV,dS,du,df,eP]
variable [dW K C]
theorem acR:bZ id (.sc (.str "hear")) (.sc (.str "hear"))=some (.sc (.bl true)):=uU (by decide +kernel)
theorem acS:bZ id (.sc (.str "rise")) (.sc (.str "hear"))=some (.sc (.bl false)):=jk (by decide +kernel) (by decide +kernel) (by decide +kernel)
theorem acT:bZ id (.sc (.str "rise")) (.sc (.str "rise"))=some (.sc (.bl true)):=uU (by decide +kernel)
theorem acU:bZ id (.sc (.str "fall")) (.sc (.str "hear"))=some (.sc (.bl false)):=jk (by decide +kernel) (by decide +kernel) (by decide +kernel)
theorem acV:bZ id (.sc (.str "fall")) (.sc (.str "rise"))=some (.sc (.bl false)):=jk (by decide +kernel) (by decide +kernel) (by decide +kernel)
theorem acW:bZ id (.sc (.str "fall")) (.sc (.str "fall"))=some (.sc (.bl true)):=uU (by decide +kernel)
theorem Q1:bZ id (.sc (.str "add")) (.sc (.str "hear"))=some (.sc (.bl false)):=jk (by decide +kernel) (by decide +kernel) (by decide +kernel)
theorem Q2:bZ id (.sc (.str "add")) (.sc (.str "rise"))=some (.sc (.bl false)):=jk (by decide +kernel) (by decide +kernel) (by decide +kernel)
theorem Q3:bZ id (.sc (.str "add")) (.sc (.str "fall"))=some (.sc (.bl false)):=jk (by decide +kernel) (by decide +kernel) (by decide +kernel)
theorem Q4:bZ id (.sc (.str "add")) (.sc (.str "add"))=some (.sc (.bl true)):=uU (by decide +kernel)
theorem Q5:bZ id (.sc (.str "send")) (.sc (.str "hear"))=some (.sc (.bl false)):=jk (by decide +kernel) (by decide +kernel) (by decide +kernel)
theorem Q6:bZ id (.sc (.str "send")) (.sc (.str "rise"))=some (.sc (.bl false)):=jk (by decide +kernel) (by decide +kernel) (by decide +kernel)
theorem Q7:bZ id (.sc (.str "send")) (.sc (.str "fall"))=some (.sc (.bl false)):=jk (by decide +kernel) (by decide +kernel) (by decide +kernel)
theorem Q8:bZ id (.sc (.str "send")) (.sc (.str "add"))=some (.sc (.bl false)):=jk (by decide +kernel) (by decide +kernel) (by decide +kernel)
theorem acX(pw:VL.plain fO=true)(h:jZ K C [aO nu s,iD m,fO]=some (d, [aO nu s'])):i9 K C [aO nu s,iD m,sD "hear",fO]=some (d, [aO nu s']):=by
 generalize aO nu s'=M2 at *;have pm:VL.plain (aO nu s)=false:=rfl;generalize aO nu s=M1 at *;simp[i9,rl,acR,pw,h,jH,gP,cg,eF,e7,dO,bG,bD,bp,bt,dR,aW,aq,ab,q9,cY,bM,b8,ag,bN,bF,p7,cN,intD,aV,dC,d7,bx,aC,bf,cG,cM,aw,bc,bU,b6,ar,VL.plain,dE,aZ,bT,dt,cv,ai,bS,cb,bQ,aG,dr]
theorem acY(nu:Int)(m:Nat)(s:MS):i9 K C [aO nu s,iD m,sD "fall", .sc .aE]=some (.nd .lst [], [aO nu (kC s)]):=by
 simp only[aO,kC];generalize el s.vo=V1 at *;generalize bC s.si=S1 at *;simp[i9,rl,acU,acV,acW,uH,mj,uS,AE,jH,gP,cg,bD,bp,bt,dR,aW,aq,ab,q9,cY,fm,cm,bM,b8,ag,bF,p7,cN,intD,aV,dC,d7,bx,aC,bf,cG,fV,cM,cq,aw,bc,bU,b6,ar,VL.plain,dE,aZ,bT,cv,ai,bS,cb,bQ,aG,dr]
theorem acZ(nu:Int)(m:Nat)(s:MS)(hr:iN s.role=true)(h:s.role≠"leads"):i9 K C [aO nu s,iD m,sD "send", .sc .aE]=some (.nd .lst [], [aO nu s]):=by
 have he:=og s.role hr;rw[decide_eq_true h]at he;simp only[aO];generalize el s.vo=V1 at *;generalize bC s.si=S1 at *;simp[i9,rl,Q5,Q6,Q7,Q8,he,nS,jH,gP,cg,bD,bp,bt,dR,aW,aq,ab,q9,fm,cm,bM,b8,ag,bF,p7,cN,intD,aV,cG,cM,cq,aw,bc,bU,b6,ar,dE,aZ,bT,cv,ai,bS,cb,bQ,dr]
theorem ac0(nu:Int)(m:Nat)(s:MS)(r:D)(hr:iN s.role=true)(h:s.role≠"leads"):i9 K C [aO nu s,iD m,sD "add",r]=some (.sc .aE, [aO nu s]):=by
 have he:=og s.role hr;rw[decide_eq_true h]at he;simp only[aO];generalize el s.vo=V1 at *;generalize bC s.si=S1 at *;simp[i9,rl,Q1,Q2,Q3,Q4,he,nS,jH,gP,cg,bD,bp,bt,dR,aW,aq,ab,q9,fm,cm,bM,b8,ag,bF,p7,cN,intD,aV,cG,cM,cq,aw,bc,bU,b6,ar,dE,aZ,bT,cv,ai,bS,cb,bQ,dr]
theorem Q9(nu:Int)(m:Nat)(s:MS)(pL:VL.aK s.L=true)(hm:m < 100):Ak K C [aO nu s,iD m,sD "keep", .nd .tup [iD s.te, .nd .tup s.L,iD s.dn]]=some (.nd .lst ((keeps m nu s).map aD)):=by
 rw[Qy nu m s "keep" _ (by simp[VL.aK,VL.plain,pL]) (by simp) hm];unfold keeps;rw[qw];rfl
theorem ac1(nu:Int)(m:Nat)(s:MS)(hm:m < 100):Ak K C [aO nu s,iD m,sD "stand", .nd .tup [iD s.te]]=some (.nd .lst ((j0 m nu s.te).map aD)):=by
 rw[Qy nu m s "stand" _ (by simp[VL.aK,VL.plain]) (by simp) hm];unfold j0;rw[qw];rfl
variable [dW K C]
theorem ac2(nu:Int)(m:Nat)(s:MS)(h:s.role="leads")(pL:VL.aK s.L=true)(hm:m < 100):i9 K C [aO nu s,iD m,sD "send", .sc .aE]=some (.nd .lst ((keeps m nu s).map aD), [aO nu s]):=by
 have he:=og s.role (by rw[h];decide +kernel);rw[decide_eq_false (λz=>z h)]at he;have ho:=Q9 (K:=K) (C:=C) nu m s pL hm;simp only[aO]at ho |-;generalize el s.vo=V1 at *;generalize bC s.si=S1 at *;unfold i9 rl;dsimp only;refine wL (ρ':= [some (.ak 4 []),some (.ro (iD m)),some (.ro (sD "send")),some (.ro (.sc .aE)),some (.own (.nd (.az pKeys) [iD nu,iD s.te,iD s.o, .nd .tup s.L,iD s.dn,sD s.role,V1,S1]))]) (fT (ρ':= [some (.ak 4 []),some (.ro (iD m)),some (.ro (sD "send")),some (.ro (.sc .aE)),some (.own (.nd (.az pKeys) [iD nu,iD s.te,iD s.o, .nd .tup s.L,iD s.dn,sD s.role,V1,S1]))]) ?_ (fT (ρ':= [some (.ak 4 []),some (.ro (iD m)),some (.ro (sD "send")),some (.ro (.sc .aE)),some (.own (.nd (.az pKeys) [iD nu,iD s.te,iD s.o, .nd .tup s.L,iD s.dn,sD s.role,V1,S1]))]) ?_ (fT (ρ':= [some (.ak 4 []),some (.ro (iD m)),some (.ro (sD "send")),some (.ro (.sc .aE)),some (.own (.nd (.az pKeys) [iD nu,iD s.te,iD s.o, .nd .tup s.L,iD s.dn,sD s.role,V1,S1]))]) ?_ (fT (ρ':= [some (.ak 4 []),some (.ro (iD m)),some (.ro (sD "send")),some (.ro (.sc .aE)),some (.own (.nd (.az pKeys) [iD nu,iD s.te,iD s.o, .nd .tup s.L,iD s.dn,sD s.role,V1,S1]))]) ?_ (fT (ρ':= [some (.ak 4 []),some (.ro (iD m)),some (.ro (sD "send")),some (.ro (.sc .aE)),some (.own (.nd (.az pKeys) [iD nu,iD s.te,iD s.o, .nd .tup s.L,iD s.dn,sD s.role,V1,S1]))]) ?_ (nO (kZ ?_))))))) rfl
 ·simp[Q5,bD,bt,dR,aW,ab,bM,b8,bF,aV,aw,bc,bU,b6,ar,aZ,cv,ai,bS,cb]
 ·simp[Q6,jH,gP,bD,bt,dR,aW,aq,ab,q9,cY,fm,cm,b8,bF,cN,intD,dC,d7,bx,aC,bf,cG,cM,cq,aw,b6,ar,dE,aZ,bT,ai,bS,cb,bQ]
 ·simp[Q7,bD,ab,bF,aw,bQ]
 ·simp[he,nS,bD,ab,ag,bF,p7,cM,aw,cv,ai]
 ·simp[Q8,bD,bt,dR,aW,aq,ab,cY,fm,cm,b8,bF,dC,d7,bx,aC,bf,cG,cM,cq,aw,b6,ar,aZ,bT,ai,bS,cb,bQ]
 ·refine af.mpr ⟨[.nd (.az pKeys) [iD nu,iD s.te,iD s.o, .nd .tup s.L,iD s.dn,sD s.role,V1,S1],iD m,sD "keep", .nd .tup [iD s.te, .nd .tup s.L,iD s.dn]], ?_,(if_pos rfl).trans ho⟩;clear ho he;simp[lg,qj,uR,bD,aq,ab,ag,cM,aw,ai,ze]
theorem ac3(nu:Int)(m:Nat)(s:MS)(r:D)(h:s.role="leads")(pL:VL.aK s.L=true)(pr:VL.plain r=true)(hm:m < 100)(hn:(s.si.map (·.1)).Nodup)(hl:s.si.length<=50)(hL:s.L.length<=900)(hd:0<=s.dn)(hd2:s.dn < 2 ^ 60):i9 K C [aO nu s,iD m,sD "add",r]=some (.nd .lst ((keeps m nu (kD m { s with L:=s.L++ [r] })).map aD), [aO nu (kD m { s with L:=s.L++ [r] })]):=by
 have he:=og s.role (by rw[h];decide +kernel);rw[decide_eq_false (λz=>z h)]at he;have Kx:VL.aK (s.L++ [r])=true:=qN λd hd=>by
  rcases kG.mp hd with q | q
  ·exact BI pL q
  ·rw[gf.mp q];exact pr
 have hc:=QD (K:=K) (C:=C) nu m { s with L:=s.L++ [r] } hn hl (by simp;lia) hd hd2;have ho:=Q9 (K:=K) (C:=C) nu m (kD m { s with L:=s.L++ [r] }) Kx hm;have ha:Ho (.nd .tup s.L) (.nd .tup [r])=some (.nd .tup (s.L++ [r])):=if_pos ⟨bO (by simp;lia:s.L.length + [r].length<=1000) (by decide),Kx⟩;have ht:bf aC bx (aO nu (kD m { s with L:=s.L++ [r] })) (.sc (.str "term"))=some (iD (kD m { s with L:=s.L++ [r] }).te):=lg ..;have gV:bf aC bx (aO nu (kD m { s with L:=s.L++ [r] })) (.sc (.str "log"))=some (.nd .tup (kD m { s with L:=s.L++ [r] }).L):=qj ..;have ac4:bf aC bx (aO nu (kD m { s with L:=s.L++ [r] })) (.sc (.str "done"))=some (iD (kD m { s with L:=s.L++ [r] }).dn):=uR ..;have ajS:VL.aK (kD m { s with L:=s.L++ [r] }).L=true:=Kx;generalize kD m { s with L:=s.L++ [r] }=s2 at *;generalize aO nu s2=M2 at *;simp only[aO]at hc |-;generalize el s.vo=V1 at *;generalize bC s.si=S1 at *;unfold i9 rl;dsimp only;refine wL (ρ':= [some (.ak 4 []),some (.ro (iD m)),some (.ro (sD "add")),some (.ro r),some (.own M2)]) (fT (ρ':= [some (.ak 4 []),some (.ro (iD m)),some (.ro (sD "add")),some (.ro r),some (.own (.nd (.az pKeys) [iD nu,iD s.te,iD s.o, .nd .tup s.L,iD s.dn,sD s.role,V1,S1]))]) ?_ (fT (ρ':= [some (.ak 4 []),some (.ro (iD m)),some (.ro (sD "add")),some (.ro r),some (.own (.nd (.az pKeys) [iD nu,iD s.te,iD s.o, .nd .tup s.L,iD s.dn,sD s.role,V1,S1]))]) ?_ (fT (ρ':= [some (.ak 4 []),some (.ro (iD m)),some (.ro (sD "add")),some (.ro r),some (.own (.nd (.az pKeys) [iD nu,iD s.te,iD s.o, .nd .tup s.L,iD s.dn,sD s.role,V1,S1]))]) ?_ (fT (ρ':= [some (.ak 4 []),some (.ro (iD m)),some (.ro (sD "add")),some (.ro r),some (.own (.nd (.az pKeys) [iD nu,iD s.te,iD s.o, .nd .tup s.L,iD s.dn,sD s.role,V1,S1]))]) ?_ (fT (ρ':= [some (.ak 4 []),some (.ro (iD m)),some (.ro (sD "add")),some (.ro r),some (.own M2)]) (wW (c:=true) (ρ1:= [some (.ak 4 []),some (.ro (iD m)),some (.ro (sD "add")),some (.ro r),some (.own (.nd (.az pKeys) [iD nu,iD s.te,iD s.o, .nd .tup s.L,iD s.dn,sD s.role,V1,S1]))]) ?_ ((if_pos rfl).trans (fT (ρ':= [some (.ak 4 []),some (.ro (iD m)),some (.ro (sD "add")),some (.ro r),some (.own (.nd (.az pKeys) [iD nu,iD s.te,iD s.o, .nd .tup (s.L++ [r]),iD s.dn,sD s.role,V1,S1]))]) ?_ ?_))) (nO (kZ ?_))))))) rfl
 ·simp[Q1,bD,bt,dR,aW,ab,bM,b8,bF,aV,aw,bc,bU,b6,ar,aZ,cv,ai,bS,cb]
 ·simp[Q2,jH,gP,bD,bt,dR,aW,aq,ab,q9,cY,fm,cm,b8,bF,cN,intD,dC,d7,bx,aC,bf,cG,cM,cq,aw,b6,ar,dE,aZ,bT,ai,bS,cb,bQ]
 ·simp[Q3,bD,ab,bF,aw,bQ]
 ·simp[he,nS,bD,ab,ag,bF,p7,cM,aw,cv,ai]
 ·simp[Q4,bD,ab,aw]
 ·simp[ha,qj,Dr,bD,aq,ab,fm,cm,ag,cM,cq,aw,ar,aZ,bT,ai,aG,mV]
 ·generalize CV K C=GL at hc |-;simp[hc,eF,e7,dO,bG,bt,dR,aW,dZ,b8,ag,bN,b6,ar,VL.plain,aZ,bT,dt,ai,bS,cb,aG]
 ·refine af.mpr ⟨[M2,iD m,sD "keep", .nd .tup [iD s2.te, .nd .tup s2.L,iD s2.dn]], ?_,(if_pos rfl).trans ho⟩;clear ho hc ha;simp[ht,gV,ac4,bD,aq,ab,ag,cM,aw,ai,ze]
variable [dW K C]
theorem ac5(e:t Z=some (.rt d ρ')):bQ t u Z=some (.rt d ρ'):=by
 unfold bQ;rw[e];rfl
theorem ac6(nu:Int)(m:Nat)(s:MS)(h0:0 < m)(hm:m < 100)(pL:VL.aK s.L=true)(ac7:0<=s.o):i9 K C [aO nu s,iD m,sD "rise", .sc .aE]=some (.nd .lst ((j0 m nu (rise m nu s).te).map aD), [aO nu (rise m nu s)]):=by
 have ajT:(0:Int) < m:=by lia
 have et:s.te + 1 + (nu - s.te - 1) % (m:Int)=gE nu m s.te:=by
  unfold gE;rw[show nu - s.te - 1=nu - (s.te + 1) by lia]
 have hc:=Qx (K:=K) (C:=C) nu m { s with te:=gE nu m s.te,role:="stands",vo:= [(nu,s.o,s.L)] } (λp hp=>by rw[gf.mp hp];exact pL) (λp hp=>by rw[gf.mp hp];exact ac7) (by simp);have ho:=ac1 (K:=K) (C:=C) nu m (rise m nu s) hm;have ht:bf aC bx (aO nu (rise m nu s)) (.sc (.str "term"))=some (iD (rise m nu s).te):=lg ..;have er:gj m { s with te:=gE nu m s.te,role:="stands",vo:= [(nu,s.o,s.L)] }=rise m nu s:=rfl;rw[er]at hc;rw[<- et]at hc;generalize rise m nu s=s2 at *;generalize aO nu s2=M2 at *;simp only[aO,el,ic,eI,iZ]at hc |-;generalize (.nd (.az (s.vo.map λp=>(fB p.1:bw))) (s.vo.map λp=>D.nd .tup [iD p.2.1, .nd .tup p.2.2]):D)=V1 at *;generalize bC s.si=S1 at *;unfold i9 rl;dsimp only;refine wL (ρ':= [some (.ak 4 []),some (.ro (iD m)),some (.ro (sD "rise")),some (.ro (.sc .aE)),some (.own M2)]) (fT (ρ':= [some (.ak 4 []),some (.ro (iD m)),some (.ro (sD "rise")),some (.ro (.sc .aE)),some (.own (.nd (.az pKeys) [iD nu,iD s.te,iD s.o, .nd .tup s.L,iD s.dn,sD s.role,V1,S1]))]) ?_ (ac5 (wW (c:=true) (ρ1:= [some (.ak 4 []),some (.ro (iD m)),some (.ro (sD "rise")),some (.ro (.sc .aE)),some (.own (.nd (.az pKeys) [iD nu,iD s.te,iD s.o, .nd .tup s.L,iD s.dn,sD s.role,V1,S1]))]) ?_ ((if_pos rfl).trans (fT (ρ':= [some (.ak 4 []),some (.ro (iD m)),some (.ro (sD "rise")),some (.ro (.sc .aE)),some (.own (.nd (.az pKeys) [iD nu,iD (s.te + 1 + (nu - s.te - 1) % (m:Int)),iD s.o, .nd .tup s.L,iD s.dn,sD s.role,V1,S1]))]) ?_ (fT (ρ':= [some (.ak 4 []),some (.ro (iD m)),some (.ro (sD "rise")),some (.ro (.sc .aE)),some (.own (.nd (.az pKeys) [iD nu,iD (s.te + 1 + (nu - s.te - 1) % (m:Int)),iD s.o, .nd .tup s.L,iD s.dn,sD "stands", .nd (.az [fB nu]) [.nd .tup [iD s.o, .nd .tup s.L]],S1]))]) ?_ (fT (ρ':= [some (.ak 4 []),some (.ro (iD m)),some (.ro (sD "rise")),some (.ro (.sc .aE)),some (.own M2)]) ?_ (nO (kZ ?_))))))))) rfl
 ·simp[acS,bD,bt,dR,aW,ab,bM,b8,bF,aV,aw,bc,bU,b6,ar,aZ,cv,ai,bS,cb]
 ·simp[acT,bD,ab,aw]
 ·simp[h0,uQ,lg,AD,jH,gP,bD,ab,fm,cm,ag,cN,intD,cq,aw,ar,aZ,bT,ai,aG]
 ·simp[pL,uH,mj,uQ,xv,qj,uS,abG,bD,aq,ab,q9,cm,ag,cG,cM,cq,aw,ar,VL.plain,dE,aZ,bT,ai,aG,iw]
 ·generalize CU K C=GL at hc |-;simp[hc,eF,e7,dO,bG,bt,dR,aW,dZ,b8,ag,bN,b6,ar,VL.plain,aZ,bT,dt,ai,bS,cb,aG]
 ·refine af.mpr ⟨[M2,iD m,sD "stand", .nd .tup [iD s2.te]], ?_,(if_pos rfl).trans ho⟩;clear ho hc er et;simp[ht,bD,aq,ab,ag,cM,aw,ai,mV]
variable [dW K C]
theorem Ra(nu:Int)(m:Nat)(s:MS)(hd:0<=s.dn)(hn:(s.si.map (·.1)).Nodup)(hk:∀p∈s.si,0<=p.1/\p.1 < m/\p.1≠nu)(hz:∀p∈s.si,p.2<=s.L.length):kD m s=count m nu s:=by
 have h:=abL nu m s hd hn hk hz;unfold kD;rw[h];rfl
structure Sd(m:Nat)(nu:Int)(s:MS):Prop where
 wf:Wf 440 s
 dn:0<=s.dn
 m6:s.dn < 2 ^ 60
 o:0<=s.o
 vo:∀p∈s.vo,0<=p.2.1
 vl:s.vo.length<=49
 sl:s.si.length<=49
 sk:∀p∈s.si,0<=p.1/\p.1 < m/\p.1≠nu
 sz:s.role="leads"->∀p∈s.si,p.2<=s.L.length
def Md(m:Nat)(nu:Int)(s:MS):dG->Prop
 |.ib _ _ _ o R=>0<=o/\cQ R/\R.length<=440
 |.keep _ _ _ R _=>cQ R/\R.length<=440
 |.kept sn _ t z=>(0<=sn/\sn < m/\sn≠nu)/\(s.role="leads"->t=s.te->z<=s.L.length)
 |_=>True
theorem ac8(nu:Int)(m:Nat)(s:MS)(g:dG)(w:Sd m nu s)(hg:Md m nu s g)(fq:g.to=nu):jZ K C [aO nu s,iD m,aD g]=some (.nd .lst ((bI m nu s g).2.map aD), [aO nu (bI m nu s g).1]):=by
 have hp:∀p∈s.vo,VL.aK p.2.2=true:=λp hp=>(w.wf.vr p hp).1.plain;cases g with
 |ja sn i t=>
  have fq:i=nu:=fq;subst fq;rw[ab6 i sn t m s w.wf.rows.plain];unfold bI;dsimp only;by_cases c:s.te < t
  ·rw[if_pos c,if_neg (by lia)];rfl
  ·rw[if_neg c,if_pos (by lia)];rfl
 |ib sn i t o R=>
  have fq:i=nu:=fq;subst fq;obtain⟨h1,h2,h3⟩:=hg;rw[acO i sn t o R m s (rA w.wf.role) h2.plain w.wf.vn w.vl hp w.vo h1];unfold bI;dsimp only;by_cases c:s.role="stands"/\t=s.te
  ·rw[if_pos c,if_pos c];rfl
  ·rw[if_neg c,if_neg c];rfl
 |keep sn i t R dn=>
  have fq:i=nu:=fq;subst fq;obtain⟨h2,h3⟩:=hg;rw[acP i sn t dn R m s w.wf.rows h2 (bO w.wf.len (by lia)) (by lia)];unfold bI;dsimp only;by_cases c:s.te<=t
  ·rw[if_pos c,if_neg (show ¬ t < s.te by lia)];rfl
  ·rw[if_neg c,if_pos (show t < s.te by lia)];rfl
 |kept sn i t z=>
  have fq:i=nu:=fq;subst fq;obtain⟨ac9,hz⟩:=hg;rw[acQ i sn t z m s (rA w.wf.role) w.wf.sn w.sl (bO w.wf.len (by lia)) w.dn w.m6];unfold bI;dsimp only;by_cases c:s.role="leads"/\t=s.te
  ·rw[if_pos c,if_pos c];have e:(if z > cx s.si sn then z else cx s.si sn)=(if cx s.si sn > z then cx s.si sn else z):=by split <;> split <;> lia
   rw[e];have ss:=w.sz c.1;have gz:cx s.si sn<=s.L.length:=by
    by_cases q:1<=cx s.si sn
    ·obtain⟨p,hp,_,e⟩:=xw (jn 1) q;rw[<- e];exact ss p hp
    ·lia
   rw[Ra i m { s with si:=eG s.si sn (if cx s.si sn > z then cx s.si sn else z) } w.dn (AB _ _ _ w.wf.sn) (λp hp=>by
    rcases mZ _ _ _ p hp with q | q
    ·exact w.sk p q
    ·rw[q];exact ac9) (λp hp=>by
    rcases mZ _ _ _ p hp with q | q
    ·exact ss p q
    ·rw[q];have:=hz c.1 c.2;show(if cx s.si sn > z then cx s.si sn else z)<=(s.L.length:Int)
     split <;> lia)]
   rfl
  ·rw[if_neg c,if_neg c];rfl
variable [dW K C]
def mn:Option (List dG)->D
 |none=> .sc .aE
 |some l=> .nd .lst (l.map aD)
theorem ada(nu:Int)(m:Nat)(s:MS)(r:D)(w:Sd m nu s)(hr:jY r)(hm:m < 100):i9 K C [aO nu s,iD m,sD "add",r]=some (mn (ij m nu r s).2, [aO nu (ij m nu r s).1]):=by
 unfold ij;by_cases c:s.role="leads"
 ·rw[if_pos c,ac3 nu m s r c w.wf.rows.plain hr.plain hm w.wf.sn (bO w.sl (by lia)) (bO w.wf.len (by lia)) w.dn w.m6];rw[Ra nu m { s with L:=s.L++ [r] } w.dn w.wf.sn w.sk λp hp=>by
   have:=w.sz c p hp;show p.2<=((s.L++ [r]).length:Int);rw[cc]
   lia]
  rfl
 ·rw[if_neg c,ac0 nu m s r (rA w.wf.role) c];rfl
theorem adb(nu:Int)(m:Nat)(s:MS)(w:Sd m nu s)(hm:m < 100):i9 K C [aO nu s,iD m,sD "send", .sc .aE]=some (mn (some (sends m nu s)), [aO nu s]):=by
 unfold sends;by_cases c:s.role="leads"
 ·rw[if_pos c,ac2 nu m s c w.wf.rows.plain hm];rfl
 ·rw[if_neg c,acZ nu m s (rA w.wf.role) c];rfl
theorem ade(nu:Int)(m:Nat)(s:MS):i9 K C [aO nu s,iD m,sD "fall", .sc .aE]=some (mn (some []), [aO nu (kC s)]):=acY nu m s
theorem adf(nu:Int)(m:Nat)(s:MS)(w:Sd m nu s)(h0:0 < m)(hm:m < 100):i9 K C [aO nu s,iD m,sD "rise", .sc .aE]=some (mn (some (j0 m nu (rise m nu s).te)), [aO nu (rise m nu s)]):=ac6 nu m s h0 hm w.wf.rows.plain w.o
theorem adg(h:Md m nu s g):VL.plain (aD g)=true:=by
 cases g with
 |ja=>rfl
 |ib sn i t o R=>simp[aD,VL.plain,VL.aK,h.2.1.plain]
 |keep sn i t R dn=>simp[aD,VL.plain,VL.aK,h.1.plain]
 |kept=>rfl
theorem adh(nu:Int)(m:Nat)(s:MS)(g:dG)(w:Sd m nu s)(hg:Md m nu s g)(fq:g.to=nu):i9 K C [aO nu s,iD m,sD "hear",aD g]=some (mn (some (bI m nu s g).2), [aO nu (bI m nu s g).1]):=acX (adg hg) (ac8 nu m s g w hg fq)
end K31
namespace WM
open PySem L2 VL
def lL(m:Nat)(ms:List MS)(t:Int)(n:Int):Prop:=∀s,ms[(t % m).toNat]?=some s->t<=s.te/\(s.role="stands"->t < s.te)/\(s.role="leads"->t=s.te->n<=s.L.length)
structure iX(s s':MS):Prop where
 te:s.te<=s'.te
 st:s'.role="stands"->s.te < s'.te\/(s.role="stands"/\s.te=s'.te)
 le:s'.role="leads"->s.te < s'.te\/(s.te=s'.te/\(s.role="stands"\/(s.role="leads"/\s.L.length<=s'.L.length)))
theorem iX.refl(s:MS):iX s s:=⟨jn _,λh=> .inr ⟨h,rfl⟩,λh=> .inr ⟨rfl, .inr ⟨h,bX _⟩⟩⟩
theorem lL.grow(h:lL m ms t n)(hs:ms[i]?=some s)(g:iX s s'):lL m (ms.set i s') t n:=λx hx=>by
 by_cases c:i=(t % m).toNat
 ·subst c;rw[eY (bW.mp hs).1]at hx;cases hx;obtain⟨h1,h2,h3⟩:=h s hs;have gt:=g.te;refine⟨by lia,λq=> ?_,λq e=> ?_⟩
  ·rcases g.st q with a | ⟨a,b⟩
   ·lia
   ·have:=h2 a;lia
  ·rcases g.le q with a | ⟨a,b | ⟨b,d⟩⟩
   ·lia
   ·have:=h2 b;lia
   ·have:=h3 b (by lia);lia
 ·rw[gm c]at hx;exact h x hx
theorem lL.self{m:Nat}{ms:List MS}{i:Nat}{s s':MS}(hs:ms[i]?=some s)(hm:s'.te % m=i)(hr:s'.role="leads"):lL m (ms.set i s') s'.te s'.L.length:=λx hx=>by
 rw[hm,LB,eY (bW.mp hs).1]at hx;cases hx;refine⟨jn _,λq=> ?_,λ_ _=>jn _⟩;rw[hr]at q;exact absurd q (by decide +kernel)
theorem Ky(m:Nat)(s:MS):(gj m s=s)\/((gj m s).role="leads"/\(gj m s).o=s.te/\(gj m s).si= []/\(gj m s).te=s.te/\(gj m s).vo=s.vo/\(gj m s).dn=s.dn):=by
 unfold gj
 split
 ·split
  ·exact .inl rfl
  ·exact .inr ⟨rfl,rfl,rfl,rfl,rfl,rfl⟩
 ·exact .inl rfl
theorem adi(nu:Int)(m:Nat)(te:Int)(hm:0 < m):te < gE nu m te:=by
 unfold gE;have:=A6 (nu - (te + 1)) (show(m:Int)≠0 by lia)
 lia
theorem adj(nu:Nat)(m:Nat)(te:Int)(hm:nu < m):gE nu m te % m=nu:=by
 unfold gE;rw[Int.add_emod,Int.emod_emod_of_dvd _ (Int.dvd_refl _), <- Int.add_emod,show te + 1 + ((nu:Int) - (te + 1))=nu by lia];exact Int.emod_eq_of_lt (by lia) (by lia)
theorem adk{s:MS}(h:s.role="stands")(vo:List (Int×Int×List D)):iX s (gj m { s with vo:=vo }):=by
 rcases Ky m { s with vo:=vo } with e | ⟨e1,e2,e3,e4,e5,e6⟩
 ·rw[e];exact⟨jn _,λq=> .inr ⟨h,rfl⟩,λq=> .inr ⟨rfl, .inl h⟩⟩
 ·have e4:(gj m { s with vo:=vo }).te=s.te:=e4;exact⟨by lia,λq=> .inr ⟨h,e4.symm⟩,λq=> .inr ⟨e4.symm, .inl h⟩⟩
structure Jm(m b:Nat)(ms:List MS)(i:Nat)(s:MS):Prop where
 te:0<=s.te
 o:0<=s.o
 ot:s.o<=s.te
 own:s.role≠"hears"->s.te % m=i/\1<=s.te
 lo:s.role="leads"->s.o=s.te
 led:1<=s.o->lL m ms s.o s.L.length
 dn:0<=s.dn
 db:s.dn<=b
 vo:∀p∈s.vo,0<=p.2.1
 sk:∀p∈s.si,p.1≠i
 sz:s.role="leads"->∀p∈s.si,p.2<=s.L.length
def Jg(m:Nat)(ms:List MS):dG->Prop
 |.ja sn i _=>sn≠i
 |.ib sn i _ o _=>sn≠i/\0<=o
 |.keep sn i t R dn=>sn≠i/\1<=t/\t % m=sn/\lL m ms t R.length
 |.kept sn i t z=>sn≠i/\1<=t/\t % m=i/\lL m ms t z
theorem Jm.grow(h:Jm m b ms j x)(hs:ms[i]?=some s)(g:iX s s')(hb:b<=c):Jm m c (ms.set i s') j x:=⟨h.te,h.o,h.ot,h.own,h.lo,λq=>(h.led q).grow hs g,h.dn,D4 h.db (by lia),h.vo,h.sk,h.sz⟩
theorem Jg.grow(h:Jg m ms x)(hs:ms[i]?=some s)(g:iX s s'):Jg m (ms.set i s') x:=by
 cases x with
 |ja=>exact h
 |ib=>exact h
 |keep=>exact⟨h.1,h.2.1,h.2.2.1,h.2.2.2.grow hs g⟩
 |kept=>exact⟨h.1,h.2.1,h.2.2.1,h.2.2.2.grow hs g⟩
theorem adl(h:Jm m b ms i s)(hs:ms[i]?=some s):iX s (kC s)/\Jm m b (ms.set i (kC s)) i (kC s):=by
 have nh:∀{r:Str},r≠"hears"->(kC s).role≠r:=λ{r} q z=>q z.symm;have g:iX s (kC s):=⟨jn _,λq=>absurd q (nh (by decide +kernel)),λq=>absurd q (nh (by decide +kernel))⟩
 exact⟨g,h.te,h.o,h.ot,λq=>absurd rfl q,λq=>absurd q (nh (by decide +kernel)),λq=>(h.led q).grow hs g,jn _,by show(0:Int)<=b;lia,h.vo,h.sk,λq=>absurd q (nh (by decide +kernel))⟩
theorem Rb{m b:Nat}{ms:List MS}{i:Nat}{s0 s:MS}(hs:ms[i]?=some s0)(hr:s.role="stands")(g0:iX s0 s)(te:0<=s.te)(o:0<=s.o)(ot:s.o<=s.te)(own:s.te % m=i/\1<=s.te)(led:1<=s.o->lL m ms s.o s.L.length)(dn:0<=s.dn)(db:s.dn<=b)(vo:∀p∈s.vo,0<=p.2.1)(sk:∀p∈s.si,p.1≠i)(g:iX s0 (gj m s)):Jm m b (ms.set i (gj m s)) i (gj m s):=by
 have ne:("stands":Str)≠"leads":=by decide +kernel
 rcases Ky m s with e | ⟨e1,e2,e3,e4,e5,e6⟩
 ·rw[e]at g |-;exact⟨te,o,ot,λ_=>own,λq=>absurd (hr.symm.trans q) ne,λq=>(led q).grow hs g,dn,db,vo,sk,λq=>absurd (hr.symm.trans q) ne⟩
 ·refine⟨by rw[e4];exact te,by rw[e2];exact te,by rw[e2,e4];exact jn _,λ_=>by rw[e4];exact own,λ_=>by rw[e2,e4],λq=> ?_,by rw[e6];exact dn,by rw[e6];exact db,by rw[e5];exact vo,by rw[e3];exact(λ_ h=>by cases h),λ_=>by rw[e3];exact(λ_ h=>by cases h)⟩;rw[e2, <- e4];exact lL.self hs (by rw[e4];exact own.1) e1
theorem adm(h:Jm m b ms i s)(hs:ms[i]?=some s)(hi:i < m):iX s (rise m i s)/\Jm m b (ms.set i (rise m i s)) i (rise m i s):=by
 have lt:=adi i m s.te (by lia);have adn:=h.te;have et:(rise m i s).te=gE i m s.te:=by
  unfold rise;rcases Ky m { s with te:=gE i m s.te,role:="stands",vo:= [((i:Int),s.o,s.L)] } with e | ⟨_,_,_,e,_⟩
  ·rw[e]
  ·exact e
 have g1:iX s { s with te:=gE i m s.te,role:="stands",vo:= [((i:Int),s.o,s.L)] }:=⟨Ux lt,λ_=> .inl lt,λ_=> .inl lt⟩
 have g:iX s (rise m i s):=⟨by rw[et];exact Ux lt,λ_=> .inl (by rw[et];exact lt),λ_=> .inl (by rw[et];exact lt)⟩
 refine⟨g,Rb hs rfl g1 (by show 0<=gE i m s.te;lia) h.o (by show s.o<=gE i m s.te;have:=h.ot;lia) ⟨adj i m s.te hi,by show 1<=gE i m s.te;lia⟩ h.led h.dn h.db (λp hp=> ?_) h.sk g⟩;have hp:p∈ [((i:Int),s.o,s.L)]:=hp;rw[gf.mp hp];exact h.o
theorem ado(nu:Int)(m:Nat)(s:MS)(hz:∀p∈s.si,p.2<=s.L.length):s.dn<=(count m nu s).dn/\((count m nu s).dn=s.dn\/(count m nu s).dn<=s.L.length):=by
 show s.dn<=gD s.dn ((dA nu m s.si s.L.length).filter (most m (dA nu m s.si s.L.length)))/\(gD s.dn ((dA nu m s.si s.L.length).filter (most m (dA nu m s.si s.L.length)))=s.dn\/gD s.dn ((dA nu m s.si s.L.length).filter (most m (dA nu m s.si s.L.length)))<=s.L.length);refine⟨(Ki _ _).1, ?_⟩;rcases Kj ((dA nu m s.si s.L.length).filter (most m (dA nu m s.si s.L.length))) s.dn with e | e
 ·exact .inl e
 ·right;have hx:=(mx.mp e).1;generalize gD s.dn ((dA nu m s.si s.L.length).filter (most m (dA nu m s.si s.L.length)))=x at *;unfold dA at hx;rcases kG.mp hx with hx | hx
  ·obtain⟨i,_,rfl⟩:=i0.mp hx;by_cases c:1<=cx s.si i
   ·obtain⟨p,hp,_,e⟩:=xw (jn 1) c;rw[<- e];exact hz p hp
   ·lia
  ·have:=gf.mp hx;lia
theorem Rc{m b:Nat}{ms:List MS}{i:Nat}{s0 s:MS}(hs:ms[i]?=some s0)(hr:s.role="leads")(g:iX s0 (count m i s))(te:0<=s.te)(own:s.te % m=i/\1<=s.te)(lo:s.o=s.te)(dn:0<=s.dn)(db:s.dn<=b)(lb:s.L.length<=b)(vo:∀p∈s.vo,0<=p.2.1)(sk:∀p∈s.si,p.1≠i)(sz:∀p∈s.si,p.2<=s.L.length):Jm m b (ms.set i (count m i s)) i (count m i s):=by
 obtain⟨d1,d2⟩:=ado i m s sz;refine⟨te,by show 0<=s.o;lia,by show s.o<=s.te;lia,λ_=>own,λ_=>lo,λq=> ?_,by lia, ?_,vo,sk,λ_=>sz⟩
 ·have e:=lL.self (m:=m) (s':=count m i s) hs own.1 hr;show lL m (ms.set i (count m i s)) s.o s.L.length;rw[lo];exact e
 ·rcases d2 with d2 | d2 <;> lia
theorem adp{m b:Nat}{ms:List MS}{i:Nat}{s:MS}(r:D)(h:Jm m b ms i s)(hs:ms[i]?=some s)(lb:s.L.length<=b):iX s (ij m i r s).1/\Jm m (b + 1) (ms.set i (ij m i r s).1) i (ij m i r s).1:=by
 unfold ij;by_cases c:s.role="leads"
 ·rw[if_pos c];have g:iX s (count m i { s with L:=s.L++ [r] }):=⟨jn _,λq=>by
   have q:s.role="stands":=q;exact .inr ⟨q,rfl⟩,λq=> .inr ⟨rfl, .inr ⟨c,by show s.L.length<=(s.L++ [r]).length;simp⟩⟩⟩
  refine⟨g,Rc hs c g h.te (h.own (by rw[c];decide +kernel)) (h.lo c) h.dn (D4 h.db (by lia)) (by show(s.L++ [r]).length<=b + 1;simp;lia) h.vo h.sk λp hp=> ?_⟩;have:=h.sz c p hp;show p.2<=((s.L++ [r]).length:Int);rw[cc]
  lia
 ·rw[if_neg c];exact⟨.refl s,h.grow hs (.refl s) (je _)⟩
theorem DA:¬ (ae "hears"=ae "leads"):=by decide +kernel
theorem DB(h:Jm m b ms i s)(hs:ms[i]?=some s):iX s s/\Jm m b (ms.set i s) i s/\∀x∈([]:List dG),Jg m (ms.set i s) x:=⟨.refl s,h.grow hs (.refl s) (bX _),λ_ h=>by cases h⟩
theorem Rf{s s':MS}(hr:s'.role="hears")(ht:s.te<=s'.te):iX s s':=⟨ht,λq=>absurd (hr.symm.trans q) (by decide +kernel),λq=>absurd (hr.symm.trans q) (by decide +kernel)⟩
theorem adq{ms:List MS}{s:MS}{g:dG}(h:Jm m b ms i s)(hs:ms[i]?=some s)(hg:Jg m ms g)(fq:g.to=i)(lb:s.L.length<=b)(gl:g.ok b):iX s (bI m i s g).1/\Jm m b (ms.set i (bI m i s g).1) i (bI m i s g).1/\∀x∈(bI m i s g).2,Jg m (ms.set i (bI m i s g).1) x:=by
 have adn:=h.te;have ajU:=h.ot;cases g with
 |ja sn to t=>
  have fq:to=i:=fq;subst fq;unfold bI;dsimp only;by_cases c:t<=s.te
  ·rw[if_pos c];exact DB h hs
  ·rw[if_neg c];have g:iX s { s with te:=t,role:="hears" }:=Rf rfl (by show s.te<=t;lia);refine⟨g,⟨by show 0<=t;lia,h.o,by show s.o<=t;lia,λq=>absurd rfl q,λq=>absurd q DA,λq=>(h.led q).grow hs g,h.dn,h.db,h.vo,h.sk,λq=>absurd q DA⟩,λx hx=> ?_⟩;rw[gf.mp hx];exact⟨λz=>hg z.symm,h.o⟩
 |ib sn to t o R=>
  have fq:to=i:=fq;subst fq;unfold bI;dsimp only;by_cases c:s.role="stands"/\t=s.te
  ·rw[if_pos c];have g:=adk (m:=m) c.1 (eG s.vo sn (o,R));refine⟨g,Rb hs c.1 ⟨jn _,λ_=> .inr ⟨c.1,rfl⟩,λ_=> .inr ⟨rfl, .inl c.1⟩⟩ h.te h.o h.ot (h.own (by rw[c.1];decide +kernel)) h.led h.dn h.db (λp hp=> ?_) h.sk g,λx hx=>by cases hx⟩;rcases mZ s.vo sn (o,R) p hp with q | q
   ·exact h.vo p q
   ·rw[q];exact hg.2
  ·rw[if_neg c];exact DB h hs
 |keep sn to t R dn=>
  have fq:to=i:=fq;subst fq;obtain⟨g1,g2,g3,g4⟩:=hg;unfold bI;dsimp only;by_cases c:t < s.te
  ·rw[if_pos c];exact DB h hs
  ·rw[if_neg c];have key:∀(L':List D) (o' j5:Int),L'.length<=b->0<=o'->o'<=t->lL m ms t L'.length->(1<=o'->lL m ms o' L'.length)->0<=j5->j5<=b->iX s { s with te:=t,role:="hears",L:=L',o:=o',dn:=j5 }/\Jm m b (ms.set i { s with te:=t,role:="hears",L:=L',o:=o',dn:=j5 }) i { s with te:=t,role:="hears",L:=L',o:=o',dn:=j5 }/\∀x∈ [dG.kept (i:Int) sn t L'.length],Jg m (ms.set i { s with te:=t,role:="hears",L:=L',o:=o',dn:=j5 }) x:=λL' o' j5 k1 k2 k3 k4 k5 k6 k7=>by
    have g:iX s { s with te:=t,role:="hears",L:=L',o:=o',dn:=j5 }:=Rf rfl (by show s.te<=t;lia);refine⟨g,⟨by show 0<=t;lia,k2,k3,λq=>absurd rfl q,λq=>absurd q DA,λq=>(k5 q).grow hs g,k6,k7,h.vo,h.sk,λq=>absurd q DA⟩,λx hx=> ?_⟩;rw[gf.mp hx];exact⟨λz=>g1 z.symm,g2,g3,k4.grow hs g⟩
   have d0:=h.dn;have d1:=h.db;unfold kept;by_cases q:s.o < t\/(s.L.length:Int) < R.length
   ·rw[if_pos q];have gl:R.length<=b:=gl.2;exact key R t _ gl (by lia) (jn _) g4 (λ_=>g4) (by dsimp only;split <;> split <;> lia) (by dsimp only;split <;> split <;> lia)
   ·rw[if_neg q];have e:s.o=t:=by lia
    exact key s.L s.o _ lb h.o (by lia) (by rw[<- e];exact h.led (by lia)) h.led (by dsimp only;split <;> split <;> lia) (by dsimp only;split <;> split <;> lia)
 |kept sn to t z=>
  have fq:to=i:=fq;subst fq;obtain⟨g1,g2,g3,g4⟩:=hg;unfold bI;dsimp only;by_cases c:s.role="leads"/\t=s.te
  ·rw[if_pos c];have g:iX s (count m i { s with si:=eG s.si sn (if cx s.si sn > z then cx s.si sn else z) }):=⟨jn _,λq=>by
    have q:s.role="stands":=q;exact .inr ⟨q,rfl⟩,λ_=> .inr ⟨rfl, .inr ⟨c.1,bX _⟩⟩⟩
   have ss:=h.sz c.1;have gz:cx s.si sn<=s.L.length:=by
    by_cases q:1<=cx s.si sn
    ·obtain⟨p,hp,_,e⟩:=xw (jn 1) q;rw[<- e];exact ss p hp
    ·lia
   have zl:z<=s.L.length:=(g4 s (by rw[g3,LB];exact hs)).2.2 c.1 c.2;refine⟨g,Rc hs c.1 g h.te (h.own (by rw[c.1];decide +kernel)) (h.lo c.1) h.dn h.db lb h.vo (λp hp=> ?_) (λp hp=> ?_),λx hx=>by cases hx⟩
   ·rcases mZ _ _ _ p hp with q | q
    ·exact h.sk p q
    ·rw[q];exact g1
   ·rcases mZ _ _ _ p hp with q | q
    ·exact ss p q
    ·rw[q];show(if cx s.si sn > z then cx s.si sn else z)<=(s.L.length:Int)
     split <;> lia
  ·rw[if_neg c];exact DB h hs
structure Jw(m:Nat)(w:bE):Prop where
 ms:∀i s,w.ms[i]?=some s->Jm m w.aT.length w.ms i s
 way:∀g∈w.way,Jg m w.ms g
theorem Jw.note(h:Jw m w)(hs:w.ms[i]?=some s)(g:iX s s')(j:Jm m (w.aT.length + 1) (w.ms.set i s') i s')(ht:∀l,told=some l->∀x∈l,Jg m (w.ms.set i s') x):Jw m (w.note i iz fO told s'):=by
 have hl:(w.note i iz fO told s').aT.length=w.aT.length + 1:=by simp[bE.note]
 refine⟨λk x hx=> ?_,λx hx=> ?_⟩
 ·rw[hl];have hx:(w.ms.set i s')[k]?=some x:=hx;by_cases c:i=k
  ·subst c;rw[eY (bW.mp hs).1]at hx;cases hx;exact j
  ·rw[gm c]at hx;exact(h.ms k x hx).grow hs g (je _)
 ·show Jg m (w.ms.set i s') x;cases told with
  |none=>exact(h.way x hx).grow hs g
  |some l=>
   rcases kG.mp (Qm hx) with h1 | h1
   ·exact(h.way x h1).grow hs g
   ·exact ht l rfl x h1
theorem Jm.mono(h:Jm m b ms i s)(hb:b<=c):Jm m c ms i s:=⟨h.te,h.o,h.ot,h.own,h.lo,h.led,h.dn,D4 h.db (by lia),h.vo,h.sk,h.sz⟩
theorem Rg(h:i∈gw nu m):nu≠(i:Int):=λz=>by
 have:=(mx.mp h).2;simp at this;exact this z.symm
theorem Rh{m:Nat}{ms:List MS}{i:Nat}{s s':MS}(hs:ms[i]?=some s)(hr:s'.role="leads")(own:s'.te % m=i/\1<=s'.te):∀x∈keeps m i s',Jg m (ms.set i s') x:=λx hx=>by
 obtain⟨k,hk,rfl⟩:=i0.mp hx;exact⟨Rg hk,own.2,own.1,lL.self hs own.1 hr⟩
theorem ads:∀x∈j0 m i t,Jg m ms x:=λx hx=>by
 obtain⟨k,hk,rfl⟩:=i0.mp hx;exact Rg hk
theorem Ri(h:Jm m b ms i s)(hr:s.role="leads"):s.te % m=i/\1<=s.te:=h.own (by rw[hr];decide +kernel)
theorem Step.jw{m:Nat}{w w':bE}(st:Step m w w')(h:Ww m w)(j:Jw m w):Jw m w':=by
 have mr:∀{i:Nat} {s:MS},w.ms[i]?=some s->s.L.length<=w.aT.length/\i < m:=λ{i s} hs=>⟨(h.ms s (gH hs)).wf.len,by rw[<- h.n];exact(bW.mp hs).1⟩
 cases st with
 |bI gG k g i s hk fq hs=>
  have hg:=gH hk;obtain⟨a1,a2,a3⟩:=adq (j.ms i s hs) hs (j.way g hg) fq (mr hs).1 (h.way g hg).ok;unfold bE.told;cases gG with
  |true=>exact Jw.note j hs a1 (a2.mono (je _)) λl hl x hx=>by cases hl;exact a3 x hx
  |false=>
   have jc:Jw m (w.cut k):=⟨j.ms,λx hx=>j.way x (LY hx)⟩
   exact Jw.note jc hs a1 (a2.mono (je _)) λl hl x hx=>by cases hl;exact a3 x hx
 |rise i s hs=>
  obtain⟨a1,a2⟩:=adm (j.ms i s hs) hs (mr hs).2;exact j.note hs a1 (a2.mono (je _)) λl hl x hx=>by cases hl;exact ads x hx
 |add i s r hs hr=>
  obtain⟨a1,a2⟩:=adp r (j.ms i s hs) hs (mr hs).1;refine j.note hs a1 a2 λl hl x hx=> ?_;unfold ij at hl a1 a2 |-;by_cases c:s.role="leads"
  ·rw[if_pos c]at hl a2 |-;cases hl;have ow:=Ri (j.ms i s hs) c;exact Rh (s':=count m i { s with L:=s.L++ [r] }) hs c ow x hx
  ·rw[if_neg c]at hl;cases hl
 |sW i s hs=>
  obtain⟨a1,a2⟩:=adl (j.ms i s hs) hs;exact j.note hs a1 (a2.mono (je _)) λl hl x hx=>by cases hl;cases hx
 |send i s hs=>
  refine j.note hs (.refl s) ((j.ms i s hs).grow hs (.refl s) (je _)) λl hl x hx=> ?_;cases hl;unfold sends at hx;by_cases c:s.role="leads"
  ·rw[if_pos c]at hx;exact Rh hs c (Ri (j.ms i s hs) c) x hx
  ·rw[if_neg c]at hx;cases hx
 |drop way hd hl=>exact⟨j.ms,λx hx=>j.way x (hd x hx)⟩
 |rows x=>exact⟨j.ms,j.way⟩
theorem ig.keep(hm:m < 40)(st:ig m w w'):Ww m w->Jw m w->Ww m w'/\Jw m w':=by
 induction st with
 |refl=>exact λh j=>⟨h,j⟩
 |cons s _ ih=>exact λh j=>ih (s.ww hm h) (s.jw h j)
theorem Rj(m:Nat):Jw m ⟨gC m s0, [], [],0⟩:=by
 refine⟨λi s hs=> ?_,λ_ h=>by cases h⟩;have e:s=s0:=ahj (gH hs);subst e;have nl:s0.role≠"leads":=by decide +kernel
 exact⟨jn _,jn _,jn _,λq=>absurd rfl q,λq=>absurd q nl,λq=>absurd q (by decide),jn _,jn _,(λ_ h=>by cases h),(λ_ h=>by cases h),λq=>absurd q nl⟩
inductive o9(m b:Nat)(ms:List MS)(i:Nat)(s:MS):nY->Prop
 |bI (g:dG):g.to=i->la m b g->Jg m ms g->o9 m b ms i s ⟨i,"hear",aD g,some (bI m i s g).2,(bI m i s g).1⟩
 |rise:o9 m b ms i s ⟨i,"rise", .sc .aE,some (j0 m i (rise m i s).te),rise m i s⟩
 |add (r:D):jY r->o9 m b ms i s ⟨i,"add",r,(ij m i r s).2,(ij m i r s).1⟩
 |sW:o9 m b ms i s ⟨i,"fall", .sc .aE,some [],kC s⟩
 |send:o9 m b ms i s ⟨i,"send", .sc .aE,some (sends m i s),s⟩
inductive pA(m:Nat)(ms0:List MS):List nY->List MS->Prop
 |nil:pA m ms0 [] ms0
 |snoc {ms:List MS} {st:List nY} {i:Nat} {e:nY} {s:MS}:pA m ms0 st ms->ms[i]?=some s->i < m->Wg m st.length s->Jm m st.length ms i s->o9 m st.length ms i s e->pA m ms0 (st++ [e]) (ms.set i e.st)
theorem Step.replay(st:Step m w w')(h:Ww m w)(j:Jw m w)(r:pA m ms0 w.aT w.ms):pA m ms0 w'.aT w'.ms:=by
 have mr:∀{i:Nat} {s:MS},w.ms[i]?=some s->i < m:=λ{i s} hs=>by rw[<- h.n];exact(bW.mp hs).1
 cases st with
 |bI gG k g i s hk fq hs=>
  have hg:=gH hk;have x:=r.snoc hs (mr hs) (h.ms s (gH hs)) (j.ms i s hs) (.bI g fq (h.way g hg) (j.way g hg));unfold bE.told;cases gG with
  |true=>exact x
  |false=>exact x
 |rise i s hs=>exact r.snoc hs (mr hs) (h.ms s (gH hs)) (j.ms i s hs) .rise
 |add i s d hs hr=>exact r.snoc hs (mr hs) (h.ms s (gH hs)) (j.ms i s hs) (.add d hr)
 |sW i s hs=>exact r.snoc hs (mr hs) (h.ms s (gH hs)) (j.ms i s hs) .sW
 |send i s hs=>exact r.snoc hs (mr hs) (h.ms s (gH hs)) (j.ms i s hs) .send
 |drop way hd hl=>exact r
 |rows x=>exact r
theorem ig.replay(hm:m < 40)(st:ig m w w'):Ww m w->Jw m w->pA m ms0 w.aT w.ms->pA m ms0 w'.aT w'.ms:=by
 induction st with
 |refl=>exact λ_ _ r=>r
 |cons s _ ih=>exact λh j r=>ih (s.ww hm h) (s.jw h j) (s.replay h j r)
end WM
namespace K31
open PySem L2 VL WM
variable [dW K C]
theorem adt(hb:b<=430)(hm:m<=40)(w:Wg m b s)(j:Jm m b ms i s):Sd m i s:=by
 have lv:=Dm m (s.vo.map (·.1)) w.wf.vn λk hk=>by
  obtain⟨p,hp,rfl⟩:=i0.mp hk;exact w.vk p hp
 have ls:=Dm m (s.si.map (·.1)) w.wf.sn λk hk=>by
  obtain⟨p,hp,rfl⟩:=i0.mp hk;exact w.sk p hp
 rw[eS]at lv ls;have db:=j.db;exact⟨w.wf.mono (by lia),j.dn,by lia,j.o,j.vo,by lia,by lia,λp hp=>⟨(w.sk p hp).1,(w.sk p hp).2,j.sk p hp⟩,j.sz⟩
theorem adu{m b:Nat}{ms:List MS}{i:Nat}{s:MS}{g:dG}(hb:b<=430)(k:la m b g)(j:Jg m ms g)(hs:ms[i]?=some s)(fq:g.to=i):Md m i s g:=by
 have ok:=k.ok;cases g with
 |ja sn to t=>trivial
 |ib sn to t o R=>exact⟨j.2,ok.1,bO ok.2 (by lia)⟩
 |keep sn to t R dn=>exact⟨ok.1,bO ok.2 (by lia)⟩
 |kept sn to t z=>
  have fq:to=(i:Int):=fq;obtain⟨j1,j2,j3,j4⟩:=j;refine⟨⟨k.s0,k.s1,λq=>j1 (by rw[fq];exact q)⟩,λhr ht=> ?_⟩;exact(j4 s (by rw[j3,fq,LB];exact hs)).2.2 hr ht
theorem adv{m b:Nat}{ms:List MS}{i:Nat}{s:MS}{e:nY}(hb:b<=430)(h0:0 < m)(hm:m<=40)(hs:ms[i]?=some s)(w:Wg m b s)(j:Jm m b ms i s)(d:o9 m b ms i s e):e.i=i/\i9 K C [aO i s,iD m,sD e.iz,e.fO]=some (mn e.told, [aO i e.st]):=by
 have sd:=adt hb hm w j;cases d with
 |bI g fq k jg=>exact⟨rfl,adh i m s g sd (adu hb k jg hs fq) fq⟩
 |rise=>exact⟨rfl,adf i m s sd h0 (by lia)⟩
 |add r hr=>exact⟨rfl,ada i m s r sd hr (by lia)⟩
 |sW=>exact⟨rfl,ade i m s⟩
 |send=>exact⟨rfl,adb i m s sd (by lia)⟩
variable [dW K C]
theorem adw(h:g.ok b):Ex 3 (aD g):=by
 cases g with
 |ja sn i t=>
  refine .tup 2 _ λd hd=> ?_;simp only[fX,oe,or_false]at hd;rcases hd with rfl | rfl | rfl | rfl
  ·exact .str _ _ (by decide +kernel)
  all_goals exact .int _ _
 |ib sn i t o R=>
  refine .tup 2 _ λd hd=> ?_;simp only[fX,oe,or_false]at hd;rcases hd with rfl | rfl | rfl | rfl | rfl | rfl
  ·exact .str _ _ (by decide +kernel)
  ·exact .int _ _
  ·exact .int _ _
  ·exact .int _ _
  ·exact .int _ _
  ·exact Az h.1
 |keep sn i t R dn=>
  refine .tup 2 _ λd hd=> ?_;simp only[fX,oe,or_false]at hd;rcases hd with rfl | rfl | rfl | rfl | rfl | rfl
  ·exact .str _ _ (by decide +kernel)
  ·exact .int _ _
  ·exact .int _ _
  ·exact .int _ _
  ·exact Az h.1
  ·exact .int _ _
 |kept sn i t z=>
  refine .tup 2 _ λd hd=> ?_;simp only[fX,oe,or_false]at hd;rcases hd with rfl | rfl | rfl | rfl | rfl
  ·exact .str _ _ (by decide +kernel)
  all_goals exact .int _ _
theorem Rk(h:∀l,t=some l->∀g∈l,g.ok b):Ex 4 (mn t):=by
 cases t with
 |none=>exact .aE _
 |some l=>
  refine .lst 3 _ λd hd=> ?_;obtain⟨g,hg,rfl⟩:=i0.mp hd;exact adw (h l rfl g hg)
theorem adx(h:∀l,t=some l->∀g∈l,g.ok b):bZ (!·) (g8 t) (mn t)=some (.sc (.bl false)):=by
 have e:bZ (!·) (g8 t) (mn t)=bZ (!·) (mn t) (mn t):=by
  cases t with
  |none=>rfl
  |some l=>
   have q:cy (g8 (some l))=cy (mn (some l)):=by show cy (.nd .eT (l.map aD))=cy (.nd .lst (l.map aD));rw[cy,cy]
   unfold bZ;rw[q]
 rw[e];obtain⟨c,hc,q⟩:=Ex.eq (Rk h) (Rk h) (by decide) (by decide) (!·);rw[q,hc.mpr rfl];rfl
theorem ady(hr:iN s.role=true)(hL:cQ s.L):bZ (!·) (o5 s) (o5 s)=some (.sc (.bl false)):=by
 have x:Ex 3 (o5 s):=by
  refine .tup 2 _ λd hd=> ?_;simp only[fX,oe,or_false]at hd;rcases hd with rfl | rfl | rfl | rfl | rfl
  ·exact .int _ _
  ·exact .int _ _
  ·exact Az hL
  ·exact .int _ _
  ·exact .str _ _ hr
 obtain⟨c,hc,q⟩:=Ex.eq x x (by decide) (by decide) (!·);rw[q,hc.mpr rfl];rfl
variable [dW K C]
theorem sZ(a b c d:D):aC (.nd (.az cu) [a,b,c,d]) (.sc (.str "masters"))=some 0:=by
 simp[aC,dC,cY,cu,cZ,cG]
theorem Kz:(ae "masters"=ae "way")=False:=bL
theorem Rl:(ae "masters"=ae "story")=False:=bL
theorem KA:(ae "masters"=ae "rows")=False:=bL
theorem Rm:(ae "way"=ae "story")=False:=bL
theorem KC:(ae "way"=ae "rows")=False:=bL
theorem KD:(ae "story"=ae "rows")=False:=bL
theorem pe(a b c d:D):aC (.nd (.az cu) [a,b,c,d]) (.sc (.str "way"))=some 1:=by
 simp[aC,dC,cY,cu,cZ,cG,Kz]
theorem KG(a b c d:D):aC (.nd (.az cu) [a,b,c,d]) (.sc (.str "story"))=some 2:=by
 simp[aC,dC,cY,cu,cZ,cG,Rl,Rm]
theorem Rn(a b c d:D):aC (.nd (.az cu) [a,b,c,d]) (.sc (.str "rows"))=some 3:=by
 simp[aC,dC,cY,cu,cZ,cG,KA,KC,KD]
theorem KH:cu.Nodup:=by simp[cu,Kz,Rl,KA,Rm,KC,KD]
theorem KI(a b c d x:D):iG (.az cu) [a,b,c,d] (.sc (.str "way")) x=some (.nd (.az cu) [a,x,c,d]):=by
 have h:=KH;have h4:(4:Nat) < aM:=by decide
 have e:cZ (.inr (ae "way"):bw) cu=some 1:=by simp[cu,cZ,Kz]
 simp[iG,cG,h,h4,e]
theorem adz(a b c d x:D):iG (.az cu) [a,b,c,d] (.sc (.str "rows")) x=some (.nd (.az cu) [a,b,c,x]):=by
 have h:=KH;have h4:(4:Nat) < aM:=by decide
 have e:cZ (.inr (ae "rows"):bw) cu=some 3:=by simp[cu,cZ,KA,KC,KD]
 simp[iG,cG,h,h4,e]
theorem s9{m:Nat}{ms:List MS}{i:Nat}{s:MS}(h:ms[i]?=some s):(dg C m ms)[i]?=some (cE C m i s):=by
 unfold dg;rw[tM,h];rfl
theorem DC:(dg C m ms).length=ms.length:=by unfold dg;rw[D5]
theorem AF{m:Nat}{ms:List MS}{i:Nat}{s:MS}(h:ms[i]?=some s):aC (.nd .lst (dg C m ms)) (iD i)=some i/\aU (.nd .lst (dg C m ms)) i=some (cE C m i s):=by
 have hi:i < (dg C m ms).length:=by rw[DC];exact(bW.mp h).1
 have e1:dC (.nd .lst (dg C m ms)) (iD i)=some i:=by
  have h0:¬ (i:Int) < 0:=by lia
  simp[dC,d7,hi]
 refine⟨by unfold aC;rw[e1], ?_⟩;have:=s9 (C:=C) (m:=m) h;simp[aU,this]
theorem rB(m:Nat)(nu:Int)(s:MS):VL.plain (cE C m nu s)=false:=zC _ _ _ _ _ _ _ _ _
theorem AG(m:Nat)(w:bE)(i:Nat)(iz:Str)(fO:D)(told:Option (List dG))(s:MS)(hs:w.ms[i]?=some s)(hL:cQ s.L)(hz:s.L.length<=900)(hp:VL.plain fO=true)(ht:∀l,told=some l->(∀g∈l,g.ok 900)/\l.length<=100)(hw:(∀g∈w.way,g.ok 900)/\w.way.length<=60)(hn:w.aT.length<=900):
  rm K C [wD C m w,iD i,sD iz,fO,g8 told]=some (.sc .aE, [wD C m (bE.xu w i iz fO told s)]):=by
 obtain⟨ms,way,aT,rows⟩:=w;dsimp only at hs hw hn;obtain⟨i1,i2⟩:=AF (C:=C) (m:=m) hs;have i3:=s9 (C:=C) (m:=m) hs;have pM:=rB (C:=C) m i s;have f1:b7 "term" (cE C m i s)=some (iD s.te):=GY _ _ _ _ _ _ _ _ _;have f2:b7 "of" (cE C m i s)=some (iD s.o):=ZQ _ _ _ _ _ _ _ _ _;have f3:b7 "log" (cE C m i s)=some (.nd .lst s.L):=O2 _ _ _ _ _ _ _ _ _;have f4:b7 "done" (cE C m i s)=some (iD s.dn):=GZ _ _ _ _ _ _ _ _ _;have f5:b7 "role" (cE C m i s)=some (sD s.role):=G0 _ _ _ _ _ _ _ _ _;have adA:=hL.plain;have ajV:s.L.length<=aM:=bO hz (by decide);have adB:VL.plain (g8 told)=true:=xt (b:=900) λl hl=>(ht l hl).1;have adC:kW [.nd .lst s.L]=some (.nd .tup s.L):=by simp[kW,adA]
 have adD:yH (D.nd .tup [iD i,sD iz,fO,g8 told, .nd .tup [iD s.te,iD s.o, .nd .tup s.L,iD s.dn,sD s.role]]) (aT.map gx)=some ((aT++ [(⟨i,iz,fO,told,s⟩:nY)]).map gx):=by
  have h9:aT.length < aM:=DZ hn (by decide);simp[yH,h9,gx,o5]
 have W:wD C m ⟨ms,way,aT,rows⟩= .nd (.az cu) [.nd .lst (dg C m ms), .nd .lst (way.map aD), .nd .lst (aT.map gx),iD rows]:=rfl;have adE:∀l,told=some l->Ha (.nd .lst (way.map aD)) (g8 told)=some (.nd .lst ((way++l).map aD)):=λl hl=>by
  subst hl;have p:VL.aK ((way++l).map aD)=true:=qi (b:=900) λg hg=>by
   rcases kG.mp hg with h | h
   ·exact hw.1 g h
   ·exact(ht l rfl).1 g h
  have z:way.length + l.length<=aM:=bO (by have:=hw.2;have:=(ht l rfl).2;simp at *;lia:way.length + l.length<=900) (by decide);rw[cK]at p |-;simp[Ha,g8,zG,p,z]
 have adF:∀l,told=some l->iJ (.nd .lst ((way++l).map aD)) (some (-60)) none=some (.nd .lst ((m5 (way++l)).map aD)):=λl hl=>by
  subst hl;have p:VL.aK ((way++l).map aD)=true:=qi (b:=900) λg hg=>by
   rcases kG.mp hg with h | h
   ·exact hw.1 g h
   ·exact(ht l rfl).1 g h
  have e:=aby ((way++l).map aD);have e2:m5 ((way++l).map aD)=(m5 (way++l)).map aD:=by
   unfold m5;rw[eS,UL]
  rw[e2]at e;generalize (way++l).map aD=CC at *;simp[iJ,p,e]
 unfold bE.xu;dsimp only;unfold rm IG;dsimp only;have e0:bM 6 [true,false,false,false,false] [wD C m ⟨ms,way,aT,rows⟩,iD i,sD iz,fO,g8 told]= [some (.ak 6 []),some (.ro (iD i)),some (.ro (sD iz)),some (.ro fO),some (.ro (g8 told)),none,some (.own (wD C m ⟨ms,way,aT,rows⟩))]:=by
  generalize wD C m ⟨ms,way,aT,rows⟩=WW;simp[bM,aV,bc,bU]
 generalize Ro:(aT++ [(⟨i,iz,fO,told,s⟩:nY)]).map gx=cf at *;have e1:(uh 5 (eO aC (eO aC (ar 0) λx=>some (D.sc (V.str (ae "masters")))) (ab 1))) [some (.ak 6 []),some (.ro (iD i)),some (.ro (sD iz)),some (.ro fO),some (.ro (g8 told)),none,some (.own (wD C m ⟨ms,way,aT,rows⟩))]=some (.nx [some (.ak 6 []),some (.ro (iD i)),some (.ro (sD iz)),some (.ro fO),some (.ro (g8 told)),some (.ak 6 [0,i]),some (.own (wD C m ⟨ms,way,aT,rows⟩))]):=by
  rw[W];generalize cE C m i s=M at *;simp[sZ,i1,i3,pM,uh,bD,aQ,ab,ag,dk,eO,aU,b6,iy,ar,VL.plain,aK,ai,bV,dS,du,df,eP]
 let ρ1:D->En:=λX=> [some (.ak 6 []),some (.ro (iD i)),some (.ro (sD iz)),some (.ro fO),some (.ro (g8 told)),some (.ak 6 [0,i]),some (.own X)]
 have e2:(dZ (FG (eO aC (ar 0) λx=>some (D.sc (V.str (ae "story")))) (cM Kd.tup (aq (dE (ab 1)) (aq (dE (ab 2)) (aq (dE (ab 3)) (aq (dE (ab 4)) (aq (cM Kd.tup (aq (dE λZ=>(ab 5 Z).bind (b7 (ae "term"))) (aq (dE λZ=>(ab 5 Z).bind (b7 (ae "of"))) (aq (λZ=>(aq (λZ=>(ab 5 Z).bind (b7 (ae "log"))) (λx=>some []) Z).bind kW) (aq (dE λZ=>(ab 5 Z).bind (b7 (ae "done"))) (aq (dE λZ=>(ab 5 Z).bind (b7 (ae "role"))) λx=>some [])))))) λx=>some [])))))))) (ρ1 (wD C m ⟨ms,way,aT,rows⟩))=some (.nx (ρ1 (.nd (.az cu) [.nd .lst (dg C m ms), .nd .lst (way.map aD), .nd .lst cf,iD rows]))):=by
  rw[W];dsimp only[ρ1];generalize cE C m i s=M at *;generalize g8 told=T at *;generalize aT.map gx=bH at *;generalize way.map aD=wy at *;simp[KG,i3,iL,f1,f2,f3,f4,f5,adC,hp,adB,adD,FG,bD,aq,ab,dZ,cm,ag,dk,eO,aU,um,cM,cq,b6,iy,ar,VL.plain,aK,dE,aZ,iq,sM,ai,aG,uB]
 cases told with
 |none=>
  refine uN (ρ':=ρ1 (.nd (.az cu) [.nd .lst (dg C m ms), .nd .lst (way.map aD), .nd .lst cf,iD rows])) (by
   rw[e0];refine fT e1 (fT e2 ?_);simp[ρ1,g8,bD,ab,cY,fm,cm,bF,yJ,BZ,BY,dC,d7,bx,aC,bf,cG,cq,aw,ar,aZ,iq,ai,iJ,kX,j6]) ?_
  unfold wD;dsimp only;rw[Ro];simp[ρ1,cg]
 |some l=>
  have hc:=adE l rfl;have hk:=adF l rfl;refine uN (ρ':= [some (.ak 6 []),some (.ro (iD i)),some (.ro (sD iz)),some (.ro fO),some (.ro (g8 (some l))),none,some (.own (.nd (.az cu) [.nd .lst (dg C m ms), .nd .lst ((m5 (way++l)).map aD), .nd .lst cf,iD rows]))]) (by
   rw[e0];refine fT e1 (fT e2 ?_);dsimp only[ρ1];have EK:BY (g8 (some l))=some false:=rfl;generalize g8 (some l)=T at *;generalize D.nd .lst ((way++l).map aD)=CC at *;generalize (m5 (way++l)).map aD=L6 at *;generalize way.map aD=wy at *;simp[pe,KI,hc,hk,EK,iL,bD,ab,fm,cm,ag,bF,yJ,BZ,bx,bf,aU,cq,aw,ar,aZ,iq,sM,ai,aG,kX,j6]) ?_
  unfold wD;dsimp only;rw[Ro];simp[cg]
variable [dW K C]
theorem DD(m:Nat)(ms:List MS)(i:Nat)(s:MS):(dg C m ms).set i (cE C m i s)=dg C m (ms.set i s):=by
 refine D6 λj=> ?_;unfold dg;rw[tM];by_cases c:i=j
 ·subst c;by_cases h:i < ms.length
  ·rw[eY (by rw[D5];exact h),eY h];rfl
  ·rw[tK (by rw[cB,D5];lia),tK (by rw[cB];lia)];rfl
 ·rw[gm c,gm c,tM]
theorem Rp{way:List dG}{k:Nat}{g:dG}(h:way[k]?=some g):aC (.nd .lst (way.map aD)) (iD k)=some k/\aU (.nd .lst (way.map aD)) k=some (aD g):=by
 have hi:k < way.length:=(bW.mp h).1;have e1:dC (.nd .lst (way.map aD)) (iD k)=some k:=by
  have h0:¬ (k:Int) < 0:=by lia
  simp[dC,d7,hi]
 refine⟨by unfold aC;rw[e1], ?_⟩;simp[aU,h]
theorem adG(g:dG):bf aC bx (aD g) (.sc (.int 2))=some (iD g.to):=by
 cases g <;> simp[aD,dG.to,dC,d7,aC,bf,aU]
theorem adH{GH GN:List D->Option (D×List D)}{ks:List bw}{M M' g a b c W':D}{gy pf:List D}{k st dH:D}{i:Nat}(h3:VL.plain g=true)(ht:bf aC bx g (.sc (.int 2))=some (iD i))(hk:∀x,aC (.nd (.az ks) [x,a,b,c]) (.sc (.str "masters"))=some 0)(h1:aC (.nd .lst gy) (iD i)=some i)(h2:aU (.nd .lst gy) i=some M)(lD:gy[i]?=some M)(hs:gy.set i M'=pf)(pM:VL.plain M=false)(KJ:VL.plain M'=false)(ho:jX C "hear" M=true)(eh:GH [M,g]=some (dH, [M']))(po:VL.plain (ir dH)=true)(en:GN [.nd (.az ks) [.nd .lst pf,a,b,c],iD i,sD "hear",g,ir dH]=some (.sc .aE, [W'])):
  (dZ λZ=>(i7 (ar 0) (fD (jT (aw (bf aC bx) (ab 3) λx=>some (D.sc (V.int 2)))) (fD (λZ=>bu (λd=>(d,Z)) (some (D.sc (V.str (ae "hear"))))) (fD (fJ 3) (fD (nP (qb GH C (ae "hear") (eO aC (eO aC (ar 0) λx=>some (D.sc (V.str (ae "masters")))) (aw (bf aC bx) (ab 3) λx=>some (D.sc (V.int 2)))) (dR (ar 3) λx=>some []))) λZ=>bu (λa=>(a,Z)) (some []))))) Z).bind λa=>aW GN a.fst a.snd) [some (.ak 4 []),some (.ro k),some (.ro st),some (.own g),some (.own (.nd (.az ks) [.nd .lst gy,a,b,c]))]=some (.nx [some (.ak 4 []),some (.ro k),some (.ro st),some (.own g),some (.own W')]):=by
 have hj:∀x,(gy.set i x)[i]?=some x:=λx=>eY (bW.mp lD).1;simp[nP,i7,h3,ht,hk,h1,lD,hs,ho,eh,en,iL,eF,e7,dO,bG,bD,i7,dR,fD,aW,ab,dZ,b8,ag,bN,dk,eO,aU,qb,fJ,aw,b6,iy,ar,VL.plain,aK,jT,aZ,iq,sM,dt,ai,bS,cb,aG]
theorem Rq(m:Nat)(w:bE)(h:Ww m w)(hz:w.aT.length < 440)(h0:0 < m)(hm:m < 40)(k:Nat)(gG:Bool)(g:dG)(hk:w.way[k]?=some g)(i:Nat)(s:MS)(hi:g.to=i)(hs:w.ms[i]?=some s):
  xn K C [wD C m w,iD k,tD gG]=some (.sc .aE, [wD C m (bE.told w gG k g i m s)]):=by
 have JA:g∈w.way:=gH hk;have JB:s∈w.ms:=gH hs;have mg:=h.way g JA;have ws:=h.ms s JB;have uO:i < m:=by rw[<- h.n];exact(bW.mp hs).1
 have wh:=Jv (nu:=i) ws mg (by lia);have mh:=Ql (nu:=i) ws mg (by lia) (by lia);have eh:=acK (K:=K) (C:=C) m i s g (ws.wf.mono (by lia)) (mg.mono (by lia)).ok h0 (by lia);obtain⟨k1,k2⟩:=Rp hk;have k3:(w.way.map aD)[k]?=some (aD g):=by rw[dF,hk];rfl
 have pg:=Jz mg.ok;have Rr:VL.aK (w.way.map aD)=true:=qi λg hg=>(h.way g hg).ok;have adI:k < w.way.length:=(bW.mp hk).1
 let w1:bE:=if gG=true then w else w.cut k
 have adJ:w1.ms=w.ms:=by show(if gG=true then w else w.cut k).ms=_;split <;> rfl
 have Rt:w1.aT=w.aT:=by show(if gG=true then w else w.cut k).aT=_;split <;> rfl
 have adK:w1.rows=w.rows:=by show(if gG=true then w else w.cut k).rows=_;split <;> rfl
 have Ru:(∀x∈w1.way,x∈w.way)/\w1.way.length<=60:=by
  have hf:=h.lT;show(∀x∈(if gG=true then w else w.cut k).way,x∈w.way)/\(if gG=true then w else w.cut k).way.length<=60
  split
  ·exact⟨λ_ h=>h,hf⟩
  ·exact⟨λx hx=>LY hx,by show(w.way.eraseIdx k).length<=60;rw[List.length_eraseIdx_of_lt adI];lia⟩
 have en:=AG (K:=K) (C:=C) m { w1 with ms:=w.ms.set i (bI m i s g).1 } i "hear" (aD g) (some (bI m i s g).2) (bI m i s g).1 (by show(w.ms.set i _)[i]?=_;exact eY (bW.mp hs).1) wh.wf.rows (bO wh.wf.len (by lia)) pg (λl hl=>by
  cases hl;exact⟨λx hx=>((mh x hx).mono (by lia)).ok,bO abw (by decide)⟩) ⟨λx hx=>((h.way x (Ru.1 x hx)).mono (by lia)).ok,Ru.2⟩ (by show w1.aT.length<=900;rw[Rt];lia)
 have adL:bE.xu { w1 with ms:=w.ms.set i (bI m i s g).1 } i "hear" (aD g) (some (bI m i s g).2) (bI m i s g).1=bE.told w gG k g i m s:=by
  unfold bE.xu bE.told bE.note;show _= { w1 with ms:=w1.ms.set i _,aT:=_,way:=_ };rw[adJ]
 rw[adL]at en;have adM:VL.aK ((bI m i s g).2.map aD)=true:=qi λx hx=>(mh x hx).ok;have ph:ir (.nd .lst ((bI m i s g).2.map aD))=g8 (some (bI m i s g).2):=by
  show(if _ then _ else _)=_;rw[if_pos adM];rfl
 have W1:wD C m { w1 with ms:=w.ms.set i (bI m i s g).1 }= .nd (.az cu) [.nd .lst (dg C m (w.ms.set i (bI m i s g).1)), .nd .lst (w1.way.map aD), .nd .lst (w.aT.map gx),iD w.rows]:=by
  unfold wD;dsimp only;rw[Rt,adK]
 rw[W1, <- ph]at en;obtain⟨i1,i2⟩:=AF (C:=C) (m:=m) hs;have fq:=adG g;rw[hi]at fq;have ho:jX C "hear" (cE C m i s)=true:=wU (by decide +kernel) _ _ _ _ _ _ _ _ _;have po:VL.plain (ir (.nd .lst ((bI m i s g).2.map aD)))=true:=by rw[ph];exact xt (b:=900) λl hl=>by cases hl;exact λx hx=>((mh x hx).mono (by lia)).ok
 have call:=adH (C:=C) (GH:=sU K C) (GN:=rm K C) (ks:=cu) (k:=iD k) (st:=tD gG) pg fq (λx=>sZ x _ _ _) i1 i2 (s9 hs) (DD m w.ms i (bI m i s g).1) (rB m i s) (rB m i _) ho eh po en;have W0:wD C m w= .nd (.az cu) [.nd .lst (dg C m w.ms), .nd .lst (w.way.map aD), .nd .lst (w.aT.map gx),iD w.rows]:=rfl;unfold xn Jd;dsimp only;have e0:bM 4 [true,false,false] [wD C m w,iD k,tD gG]= [some (.ak 4 []),some (.ro (iD k)),some (.ro (tD gG)),none,some (.own (wD C m w))]:=by
  generalize wD C m w=WW;simp[bM,aV,bc,bU]
 refine uN (ρ':= [some (.ak 4 []),some (.ro (iD k)),some (.ro (tD gG)),some (.own (aD g)),some (.own (wD C m (bE.told w gG k g i m s)))]) (by
  rw[e0];refine fT (ρ':= [some (.ak 4 []),some (.ro (iD k)),some (.ro (tD gG)),some (.own (aD g)),some (.own (wD C m w))]) ?_ (fT (ρ':= [some (.ak 4 []),some (.ro (iD k)),some (.ro (tD gG)),some (.own (aD g)),some (.own (.nd (.az cu) [.nd .lst (dg C m w.ms), .nd .lst (w1.way.map aD), .nd .lst (w.aT.map gx),iD w.rows]))]) ?_ call)
  ·rw[W0];generalize aD g=gd at *;generalize w.way.map aD=wy at *;simp[pe,k1,k3,pg,uh,bD,aQ,ab,ag,dk,eO,aU,b6,iy,ar,VL.plain,aK,ai,bV,dS,du,df,eP]
  ·rw[W0];cases gG with
   |true=>
    show _=some (Fl.nx [_,_,_,_,some (.own (.nd (.az cu) [_, .nd .lst (w.way.map aD),_,_]))]);simp[jH,sI,GQ,gP,bD,ab,cY,fm,cm,bF,dC,d7,bx,aC,bf,cG,cq,aw,ar,aZ,iq,ai,iJ]
   |false=>
    show _=some (Fl.nx [_,_,_,_,some (.own (.nd (.az cu) [_, .nd .lst ((w.way.eraseIdx k).map aD),_,_]))]);have c1:=Jr (w.way.map aD) k;have c2:=AA (w.way.map aD) (k + 1);have ea:gP (.nd .lst ((w.way.map aD).take k)) (.nd .lst ((w.way.map aD).drop (k + 1)))=some (.nd .lst ((w.way.eraseIdx k).map aD)):=by
     have e:(w.way.map aD).take k++(w.way.map aD).drop (k + 1)=(w.way.eraseIdx k).map aD:=by rw[<- abz,cK,List.map_take,UL]
     have p:VL.aK ((w.way.eraseIdx k).map aD)=true:=qi λx hx=>(h.way x (LY hx)).ok;have z:min k w.way.length + (w.way.length - (k + 1))<=aM:=bO (by have:=h.lT;lia:_<=900) (by decide);have p2:=p;rw[<- e]at p2;simp[gP,p,z,e]
    have s1:sI (.nd .lst (w.way.map aD)) none (some (k:Int))=some (.nd .lst ((w.way.map aD).take k)):=by
     simp[sI,iJ,Rr,c1]
    have s2:sI (.nd .lst (w.way.map aD)) (some ((k:Int) + 1)) none=some (.nd .lst ((w.way.map aD).drop (k + 1))):=by
     have adN:cutD (w.way.map aD) (some ((k:Int) + 1)) none=(w.way.map aD).drop (k + 1):=c2;simp[sI,iJ,Rr,adN]
    have adO:gP (iD k) (D.sc (V.int 1))=some (D.sc (V.int ((k:Int) + 1))):=rfl;generalize aD g=gd at *;generalize (w.way.map aD).take k=ajW at *;generalize (w.way.map aD).drop (k + 1)=ajX at *;generalize (w.way.eraseIdx k).map aD=OK at *;generalize w.way.map aD=wy at *;simp[pe,KI,s1,s2,ea,adO,iL,jH,GQ,bD,ab,fm,cm,ag,bF,bx,bf,aU,cq,aw,ar,aZ,iq,sM,ai,aG,j6]) ?_
 generalize wD C m (bE.told w gG k g i m s)=WW;simp[cg]
variable [dW K C]
theorem adP(cs:List Int)(k:Nat):∃c:Int,CN K C [iK cs,iD k]=some (iD c):=by
 by_cases h:k < cs.length
 ·exact⟨cs[k],by simp[CN,CM,iK,h,bD,dN,aq,ab,cY,bF,cN,dC,d7,bx,aC,bf,cG,aU,cJ,aw,VL.plain,jT,cv,bQ,dr]⟩
 ·exact⟨0,by simp[CN,CM,iK,h,bD,dN,aq,ab,cY,bF,cN,dC,d7,bx,aC,bf,cG,cJ,aw,jT,cv,bQ,dr]⟩
theorem Rv(c k:Int)(hk:0<=k/\k < 2 ^ 30):∃m:Int,0<=m/\m < 1999999973/\Ir K C [iD c,iD k]=some (iD m):=by
 let m:=((c % 2147483629 + k * k * 7919 + 11) * 48271 % 2147483647)
 have hm:0<=m/\m < 2147483647:=⟨A6 _ (by decide),D7 _ (by decide)⟩
 refine⟨m * m % 1999999973,A6 _ (by decide),D7 _ (by decide), ?_⟩;have k1: -18446744073709551616 < k/\k < 18446744073709551616:=by lia
 have m1: -18446744073709551616 < m/\m < 18446744073709551616:=by lia
 have m2: -18446744073709551616 < (c % 2147483629 + k * k * 7919 + 11) * 48271 % 2147483647/\(c % 2147483629 + k * k * 7919 + 11) * 48271 % 2147483647 < 18446744073709551616:=m1;simp[Ir,Iq,k1,m2,m,jH,gP,fP,bD,aQ,dN,ab,intD,aw,cv,bQ,dr,ou,bV,du,df]
theorem adQ(c m:Int)(hm:0 < m)(h2:m < 2 ^ 200):kB K C [.nd .lst [iD c],iD m]=some (iD (c % m), [.nd .lst [iD (c / m)]]):=by
 have h3:m < 1606938044258990275541962092341162602522202993782792835301376:=h2;simp[kB,Ai,kj,hm,h3,cg,jr,fP,bD,aQ,bp,aq,ab,cY,cm,bM,ag,bF,cN,intD,aV,dC,d7,bx,aC,bf,cG,aU,cJ,um,fJ,cq,aw,bc,bU,ar,VL.plain,B9,aZ,bT,cv,ai,bQ,B8,uv,aG,dr,t6,bV,dS,du,df,eP]
theorem adR(c r m:Int)(hm:0 < m)(h2:m < 2 ^ 200):∃d l,0<=d/\d < m/\(∃x y,l= [iD x]\/l= [iD x,iD y])/\kB K C [.nd .lst [iD c,iD r],iD m]=some (iD d, [.nd .lst l]):=by
 have h3:m < 1606938044258990275541962092341162602522202993782792835301376:=h2;by_cases h:c=0
 ·subst h;refine⟨r % m, [iD (r / m)],A6 _ (by lia),D7 _ hm,⟨_,0, .inl rfl⟩, ?_⟩;simp[kB,Ai,kj,hm,h3,cg,jr,fP,bD,aQ,bp,aq,ab,cY,cm,bM,ag,bF,cN,intD,aV,dC,d7,bx,aC,bf,cG,aU,cJ,um,fJ,cq,aw,bc,bU,ar,VL.plain,B9,aZ,bT,cv,ai,bQ,B8,uv,aG,dr,t6,bV,dS,du,df,eP]
 ·refine⟨c % m, [iD (c / m),iD r],A6 _ (by lia),D7 _ hm,⟨_,_, .inr rfl⟩, ?_⟩;simp[kB,Ai,kj,hm,h3,h,cg,jr,fP,bD,aQ,bp,aq,ab,cY,cm,bM,ag,bF,cN,intD,aV,dC,d7,bx,aC,bf,cG,aU,cJ,um,fJ,cq,aw,bc,bU,ar,VL.plain,B9,aZ,bT,cv,ai,bQ,B8,uv,aG,dr,t6,bV,dS,du,df,eP]
theorem adS(c:Int)(k:Nat)(hk:k < 2 ^ 20):∃r:Int,CP K C [iD c,iD k]=some (iD r):=by
 have key:∃d,CP K C [iD c,iD k]=some d/\∃r,d=iD r:=by
  unfold CP Iu;dsimp only;refine OY (Ev.nx (ρ':= [some (.ro (iD c)),some (.ro (iD k)),some (.own (iD 0)),none]) (by simp[gC,fP,aQ,bV,du,df]) (Ev.seq ?_));refine Ev.for (ds:=ia 0 12) (by simp[lY,aq]) (λZ=>∃(nu:Int) (x:Option B),NA x/\Z= [some (.ro (iD c)),some (.ro (iD k)),some (.own (iD nu)),x]) ⟨0,none,(λ_ _ h=>by cases h),rfl⟩ ?_ ?_
  ·rintro d hd Z ⟨nu,x,hx,rfl⟩;obtain⟨j,hj,rfl⟩:=O0 hd;obtain⟨m1,a1,a2,e1⟩:=Rv (K:=K) (C:=C) c (k + 20 * j) (by lia);obtain⟨m2,b1,b2,e2⟩:=Rv (K:=K) (C:=C) m1 j (by lia);have z:(0:Int) + j=j:=Int.zero_add _;rw[z];simp[Ev,eW hx,e1,e2,jH,gP,fP,bD,aQ,aq,ab,intD,fJ,aw,cv,ou,bV,dS,du];exact(λ_ _ h=>by cases h)
  ·rintro Z ⟨nu,x,hx,rfl⟩;simp[Ev,bD,ab,fJ,VL.plain,cv]
 obtain⟨d,e,r,rfl⟩:=key;exact⟨r,e⟩
theorem Rw(cs:List Int)(k:Nat)(hk:k < 2 ^ 20):∃l:List D,Lp l/\w6 K C [iK cs,iD k]=some (.nd .lst l):=by
 obtain⟨c,e1⟩:=adP (K:=K) (C:=C) cs k;obtain⟨r,e2⟩:=adS (K:=K) (C:=C) c k hk;by_cases h:1000000000000000000<=c
 ·refine⟨[iD c,iD r],⟨c,r, .inr rfl⟩, ?_⟩;simp[w6,CQ,e1,e2,h,fP,bD,aQ,dN,aq,kg,ab,bF,cN,intD,fV,fJ,aw,VL.plain,cv,bQ,dr,Eu,bV,du,df,iw]
 ·refine⟨[iD r],⟨r,0, .inl rfl⟩, ?_⟩;simp[w6,CQ,e1,e2,h,fP,bD,aQ,dN,aq,kg,ab,bF,cN,intD,fV,fJ,aw,cv,bQ,dr,Eu,bV,du,df,mV]
theorem nT(l:List D)(hl:Lp l)(m:Int)(hm:0 < m)(h2:m < 2 ^ 200):∃(d:Int) (l':List D),0<=d/\d < m/\Lp l'/\kB K C [.nd .lst l,iD m]=some (iD d, [.nd .lst l']):=by
 obtain⟨x,y,rfl | rfl⟩:=hl
 ·exact⟨_,_,A6 _ (by lia),D7 _ hm,⟨_,0, .inl rfl⟩,adQ x m hm h2⟩
 ·obtain⟨d,l,a,b,⟨p,q,e⟩,g⟩:=adR (K:=K) (C:=C) x y m hm h2;exact⟨d,l,a,b,⟨p,q,e⟩,g⟩
variable [dW K C]
def eC(words:D)(whole:Bool)(x4:Option B)(k:Int)(x6:Option B)(W:D)(l:List D):En:= [some (.ak 7 []),some (.ak 8 []),some (.ro words),some (.ro (tD whole)),x4,some (.own (iD k)),x6,some (.own W),some (.own (.nd .lst l))]
def KL(K:aj)(C:Addr)[dW K C]:En->Option (Bool×En):=(VL.andM (λZ=>bu (λb=>(b,Z)) ((aw (cN λi j=>V.bl (decide (i < j))) (ab 5) (λZ=>(aq (aw (bf aC bx) (ab 0) λx=>some (D.sc (V.str (ae "way")))) (λx=>some []) Z).bind cJ) Z).bind λx=>match x with | D.sc (V.bl b)=>some b | x=>none)) (VL.andM (λZ=>bu (λb=>(b,Z)) ((aw (λa b=>bu (λb=>D.sc (V.bl b)) (xC a b)) (aw (bf aC bx) (aw (bf aC bx) (aw (bf aC bx) (ab 0) λx=>some (D.sc (V.str (ae "way")))) (ab 5)) λx=>some (D.sc (V.int 0))) (ab 2) Z).bind λx=>match x with | D.sc (V.bl b)=>some b | x=>none)) (VL.orM (λZ=>bu (λb=>(b,Z)) ((ab 3 Z).bind λx=>match x with | D.sc (V.bl b)=>some b | x=>none)) (BM (kf (cN λi j=>V.bl (decide (j < i))) (λZ=>(bu (λa=>(a,Z)) (bt (ar 1) (eg (λx=>some (D.sc (V.int 4))) λx=>some []) Z)).bind λa=>aW (kB K C) a.fst a.snd) λZ=>bu (λd=>(d,Z)) (some (D.sc (V.int 0))))))))
def adT(K:aj)(C:Addr)[dW K C]:En->Option Fl:=(dZ λZ=>(bu (λa=>(a,Z)) (bt (ar 0) (dR (ar 5) (eg (λx=>some (D.sc (V.bl false))) λx=>some [])) Z)).bind λa=>aW (xn K C) a.fst a.snd)
def Rx:En->Option Fl:=(fP 5 λZ=>bu (λd=>(d,Z)) (aw gP (ab 5) (λx=>some (D.sc (V.int 1))) Z))
theorem adU(g:dG)(a b:Str):∃c,xC (sD g.word) (.nd .tup [sD a,sD b])=some c:=by
 refine⟨yp (.str g.word) [.str a, .str b], ?_⟩;simp[xC,qY,kb]
theorem adV(g:dG):bf aC bx (aD g) (.sc (.int 0))=some (sD g.word):=by
 cases g <;> simp[aD,dG.word,dC,d7,aC,bf,aU]
theorem adW{words W d:D}{whole:Bool}{k:Int}(h4:NA x4)(h6:NA x6)(e:GP [.nd .lst l,iD 4]=some (d, [.nd .lst l'])):
  ((bu (λa=>(a,eC words whole x4 k x6 W l)) (bt (ar 1) (eg (λx=>some (D.sc (V.int 4))) λx=>some []) (eC words whole x4 k x6 W l))).bind λa=>aW GP a.fst a.snd)=some (d,eC words whole x4 k x6 W l'):=by
 unfold eC;simp[e,dP h4,dP h6,iL,eF,e7,dO,bG,bt,eg,aW,b8,ag,bN,ar,aZ,iq,sM,dt,ai,bS,cb,aG]
theorem adX(m:Nat)(w:bE)(h:Ww m w)(a b:Str)(whole:Bool)(x4 x6:Option B)(h4:NA x4)(h6:NA x6)(k:Nat)(l:List D)(hl:Lp l):∃(c:Bool) (l':List D),Lp l'/\(c=true->k < w.way.length)/\KL K C (eC (.nd .tup [sD a,sD b]) whole x4 k x6 (wD C m w) l)=some (c,eC (.nd .tup [sD a,sD b]) whole x4 k x6 (wD C m w) l'):=by
 have W0:wD C m w= .nd (.az cu) [.nd .lst (dg C m w.ms), .nd .lst (w.way.map aD), .nd .lst (w.aT.map gx),iD w.rows]:=rfl;have cU:cJ [.nd .lst (w.way.map aD)]=some (iD w.way.length):=by simp[cJ]
 unfold KL;by_cases c1:k < w.way.length
 ·obtain⟨g,hk⟩:∃g,w.way[k]?=some g:=⟨_,gn c1⟩
  obtain⟨k1,k2⟩:=Rp hk;have hw:=adV g;obtain⟨c2,e2⟩:=adU g a b;have hi:bf aC bx (.nd .lst (w.way.map aD)) (iD k)=some (aD g):=by
   show(aC _ _).bind _=_;rw[k1];exact k2
  have s1:∀(F:En->Option (Bool×En)),VL.andM ((λZ=>bu (λb=>(b,Z)) ((aw (cN λi j=>V.bl (decide (i < j))) (ab 5) (λZ=>(aq (aw (bf aC bx) (ab 0) λx=>some (D.sc (V.str (ae "way")))) (λx=>some []) Z).bind cJ) Z).bind λx=>match x with | D.sc (V.bl b)=>some b | x=>none))) F (eC (.nd .tup [sD a,sD b]) whole x4 k x6 (wD C m w) l)=F (eC (.nd .tup [sD a,sD b]) whole x4 k x6 (wD C m w) l):=λF=>JC (ρ1:=eC (.nd .tup [sD a,sD b]) whole x4 k x6 (wD C m w) l) (by
   unfold eC;rw[W0];generalize w.way.map aD=wy at *;simp[pe,cU,c1,bD,aq,ab,ag,cN,bx,bf,aU,aw,ai]) rfl
  rw[s1];have s2:((λZ=>bu (λb=>(b,Z)) ((aw (λa b=>bu (λb=>D.sc (V.bl b)) (xC a b)) (aw (bf aC bx) (aw (bf aC bx) (aw (bf aC bx) (ab 0) λx=>some (D.sc (V.str (ae "way")))) (ab 5)) λx=>some (D.sc (V.int 0))) (ab 2) Z).bind λx=>match x with | D.sc (V.bl b)=>some b | x=>none))) (eC (.nd .tup [sD a,sD b]) whole x4 k x6 (wD C m w) l)=some (c2,eC (.nd .tup [sD a,sD b]) whole x4 k x6 (wD C m w) l):=by
   unfold eC;rw[W0];generalize w.way.map aD=wy at *;generalize aD g=gd at *;generalize (D.nd Kd.tup [sD a,sD b])=wd at *;have adY:∀a b c d:D,bf aC bx (.nd (.az cu) [a,b,c,d]) (.sc (.str "way"))=some b:=λa b c d=>by
    show(aC (.nd (.az cu) [a,b,c,d]) (.sc (.str "way"))).bind (aU (.nd (.az cu) [a,b,c,d]))=some b;rw[pe];rfl
   simp[adY,hi,hw,e2,bD,ab,ag,aw,ai]
  cases c2 with
  |false=>exact⟨false,l,hl,(λz=>nomatch z),Qo s2⟩
  |true=>
   cases whole with
   |true=>exact⟨true,l,hl,λ_=>c1,JC s2 (Qp (by unfold eC;simp[bD,ab]))⟩
   |false=>
    obtain⟨d,l',a1,b1,ip,e3⟩:=nT (K:=K) (C:=C) l hl 4 (by decide) (by decide);have p:=adW (words:= .nd .tup [sD a,sD b]) (whole:=false) (W:=wD C m w) (k:=k) h4 h6 e3;exact⟨decide (0 < d),l',ip,λ_=>c1,JC s2 (JD (ρ1:=eC (.nd .tup [sD a,sD b]) false x4 k x6 (wD C m w) l) (by unfold eC;simp[bD,ab]) (G6 (qg p rfl rfl)))⟩
 ·refine⟨false,l,hl,(λz=>nomatch z),Qo ?_⟩;unfold eC;rw[W0];generalize w.way.map aD=wy at *;simp[pe,cU,c1,bD,aq,ab,ag,cN,bx,bf,aU,aw,ai]
theorem adZ(h4:NA x4)(h6:NA x6)(e:GH [W,iD k,tD false]=some (.sc .aE, [W'])):((dZ λZ=>(bu (λa=>(a,Z)) (bt (ar 0) (dR (ar 5) (eg (λx=>some (D.sc (V.bl false))) λx=>some [])) Z)).bind λa=>aW GH a.fst a.snd)) (eC words whole x4 k x6 W l)=some (.nx (eC words whole x4 k x6 W' l)):=by
 unfold eC;simp[e,dP h4,dP h6,iL,eF,e7,dO,bG,bt,dR,eg,aW,dZ,b8,ag,bN,b6,ar,VL.plain,aZ,iq,sM,dt,ai,bS,cb,aG]
theorem ad0(m:Nat)(h0:0 < m)(hm:m < 40)(w:bE)(h:Ww m w)(hz:w.aT.length < 440)(a b:Str)(whole:Bool)(x4 x6:Option B)(h4:NA x4)(h6:NA x6)(k:Nat)(l:List D)(hl:Lp l):
  ∃(w':bE) (k':Nat) (l':List D),Lp l'/\Ww m w'/\ig m w w'/\w'.aT.length<=w.aT.length + 1/\bF (KL K C) (adT K C) Rx (eC (.nd .tup [sD a,sD b]) whole x4 k x6 (wD C m w) l)=some (.nx (eC (.nd .tup [sD a,sD b]) whole x4 k' x6 (wD C m w') l')):=by
 obtain⟨c,l',ip,hc,ec⟩:=adX (K:=K) (C:=C) m w h a b whole x4 x6 h4 h6 k l hl;cases c with
 |true=>
  have hk:=gn (hc rfl);generalize w.way[k]'(hc rfl)=g at hk;have mg:=h.way g (gH hk);have t0:=mg.t0;have t1:=mg.t1;obtain⟨i,hi⟩:∃i:Nat,g.to=i:=⟨g.to.toNat,by lia⟩
  have uO:i < w.ms.length:=by rw[h.n];lia
  have hs:=gn uO;generalize w.ms[i]'uO=s at hs;have eh:=Rq (K:=K) (C:=C) m w h hz h0 hm k false g hk i s hi hs;refine⟨w.told false k g i m s,k,l',ip,h.told hm hk hs, .one (.bI w false k g i s hk hi hs),by rw[Qn];exact bX _,wW ec ?_⟩;rw[if_pos rfl];exact adZ h4 h6 eh
 |false=>
  refine⟨w,k + 1,l',ip,h, .refl _,by lia,wW ec ?_⟩;rw[if_neg jA];unfold Rx eC;generalize wD C m w=WW;simp[eW h4,eW h6,gP,fP,bD,aQ,ab,aw,bV,dS,du,eP]
theorem KN(m:Nat)(h0:0 < m)(hm:m < 40)(w:bE)(h:Ww m w)(hz:w.aT.length<=310)(a b:Str)(whole:Bool)(l:List D)(hl:Lp l):
  ∃(w':bE) (l':List D),Lp l'/\Ww m w'/\ig m w w'/\w'.aT.length<=w.aT.length + 120/\De K C [wD C m w, .nd .lst l, .nd .tup [sD a,sD b],tD whole]=some (.sc .aE, [wD C m w', .nd .lst l']):=by
 have key:∃d o,De K C [wD C m w, .nd .lst l, .nd .tup [sD a,sD b],tD whole]=some (d,o)/\∃(w':bE) (l':List D),Lp l'/\Ww m w'/\ig m w w'/\w'.aT.length<=w.aT.length + 120/\d= .sc .aE/\o= [wD C m w', .nd .lst l']:=by
  unfold De Jf;dsimp only;have e0:bM 7 [true,true,false,false] [wD C m w, .nd .lst l, .nd .tup [sD a,sD b],tD whole]= [some (.ak 7 []),some (.ak 8 []),some (.ro (.nd .tup [sD a,sD b])),some (.ro (tD whole)),none,none,none,some (.own (wD C m w)),some (.own (.nd .lst l))]:=by
   generalize wD C m w=WW;simp[gC,bM,aV,bc,bU]
  refine Dp ?_;rw[e0];refine Ev.O7 (m:=2) (af.mpr ⟨[iD 2],rfl,sJ 2 (by decide)⟩) (λj Z=>∃(w1:bE) (l1:List D) (x4 x5 x6:Option B),Lp l1/\Ww m w1/\ig m w w1/\w1.aT.length<=w.aT.length + 60 * j/\NA x4/\NA x5/\NA x6/\Z= [some (.ak 7 []),some (.ak 8 []),some (.ro (.nd .tup [sD a,sD b])),some (.ro (tD whole)),x4,x5,x6,some (.own (wD C m w1)),some (.own (.nd .lst l1))]) ⟨w,l,none,none,none,hl,h, .refl _,by lia,gi,gi,gi,rfl⟩ ?_ ?_
  ·rintro j hj Z ⟨w1,l1,x4,x5,x6,nV,ie,bH,xy,h4,h5,h6,rfl⟩;refine⟨[some (.ak 7 []),some (.ak 8 []),some (.ro (.nd .tup [sD a,sD b])),some (.ro (tD whole)),some (.ro (iD j)),x5,x6,some (.own (wD C m w1)),some (.own (.nd .lst l1))],by
    generalize wD C m w1=WW;simp[eW h4,eW h5,eW h6,aQ,bV,dS,du,eP], ?_⟩
   refine Ev.nx (ρ':=eC (.nd .tup [sD a,sD b]) whole (some (.ro (iD j))) (0:Nat) x6 (wD C m w1) l1) (by
    unfold eC;generalize wD C m w1=WW;simp[eW h5,eW h6,fP,aQ,bV,dS,du,eP]) ?_
   have cU:cJ [.nd .lst (w1.way.map aD)]=some (iD w1.way.length):=by simp[cJ]
   have hf:=ie.lT;refine Ev.O7 (m:=w1.way.length) (af.mpr ⟨[iD w1.way.length], ?_,sJ _ (by lia)⟩) (λq Z=>∃(w2:bE) (k:Nat) (l2:List D) (x6:Option B),Lp l2/\Ww m w2/\ig m w w2/\w2.aT.length<=w1.aT.length + q/\NA x6/\Z=eC (.nd .tup [sD a,sD b]) whole (some (.ro (iD j))) k x6 (wD C m w2) l2) ⟨w1,0,l1,x6,nV,ie,bH,by lia,h6,rfl⟩ ?_ ?_
   ·have W0:wD C m w1= .nd (.az cu) [.nd .lst (dg C m w1.ms), .nd .lst (w1.way.map aD), .nd .lst (w1.aT.map gx),iD w1.rows]:=rfl;unfold eC;rw[W0];generalize w1.way.map aD=wy at *;simp[pe,cU,bD,aq,ab,ag,bx,bf,aU,aw,ai]
   ·rintro q hq Z ⟨w2,k,l2,x6,gV,pj,cf,kY,h6,rfl⟩;obtain⟨w3,k3,l3,lj,ad2,iT,ajY,e3⟩:=ad0 (K:=K) (C:=C) m h0 hm w2 pj (by lia) a b whole (some (.ro (iD j))) (some (.ro (iD q))) kl kl k l2 gV;refine⟨eC (.nd .tup [sD a,sD b]) whole (some (.ro (iD j))) k (some (.ro (iD q))) (wD C m w2) l2,by
     unfold eC;generalize wD C m w2=WW;simp[eW h6,aQ,bV,dS,du,eP],_,e3,w3,k3,l3,_,lj,ad2,cf.trans iT,by lia,kl,rfl⟩
   ·rintro Z ⟨w2,k,l2,x6,gV,pj,cf,kY,h6,rfl⟩;exact⟨w2,l2,_,_,_,gV,pj,cf,by lia,kl,i8,h6,rfl⟩
  ·rintro Z ⟨w1,l1,x4,x5,x6,nV,ie,bH,xy,h4,h5,h6,rfl⟩;exact⟨[wD C m w1, .nd .lst l1],by generalize wD C m w1=WW;simp[cg],w1,l1,nV,ie,bH,by lia,rfl,rfl⟩
 obtain⟨d,o,e,w',l',h1,h2,h3,h4,rfl,rfl⟩:=key;exact⟨w',l',h1,h2,h3,h4,e⟩
variable [dW K C]
theorem ad3(m:Nat)(ms:List MS):dg C m ms=ms.zipIdx.map λp=>cE C m p.2 p.1:=by
 refine D6 λj=> ?_;unfold dg;rw[tM,dF,List.getElem?_zipIdx];cases ms[j]? with
 |none=>rfl
 |some s=>simp
noncomputable def jl (ms:List MS):List (Int×Int):=(ms.zipIdx.filter λp=>decide (p.1.role=("leads":Str))).map λp=>(p.1.te,(p.2:Int))
theorem ad4(h:p∈jl ms):0<=p.2/\p.2 < ms.length:=by
 obtain⟨q,hq,rfl⟩:=i0.mp h;have:=(mx.mp hq).1;have:=List.snd_lt_of_mem_zipIdx this
 constructor
 ·exact LX _
 ·show((q.2:Int) < ms.length);lia
theorem KO:∀(ps:List (Int×Int)) (b:Int×Int),mi b ps=b\/mi b ps∈ps
 | [],b=> .inl rfl
 |p::ps,b=>by
  have e:mi b (p::ps)=mi (if iW p.1 p.2 b.1 b.2=true then p else b) ps:=rfl;rw[e]
  split
  ·rcases KO ps p with h | h
   ·rw[h];exact .inr (.head _)
   ·exact .inr (.tail _ h)
  ·rcases KO ps b with h | h
   ·exact .inl h
   ·exact .inr (.tail _ h)
theorem Ry:∀(ps:List (Int×Int)),pairsOf (ps.map pairD)=some ps
 | []=>rfl
 |p::ps=>by
  rw[eI,pairsOf,Ry ps];rfl
theorem ad5(p:Int×Int):Ex 1 (pairD p):= .tup 0 _ λd hd=>by
 simp only[fX,oe,or_false]at hd;rcases hd with rfl | rfl
 ·exact .int _ _
 ·exact .int _ _
noncomputable def eQ (W M X:D) (l:List D):En:= [some (.ro W),some (.ak 4 []),some (.ro M),some (.own X),some (.own (.nd .lst l))]
theorem ad6(m:Nat)(w:bE)(h:Ww m w)(hm:m < 40)(l:List D):(ji 4 [none] [0] (λZ=>(ab 2 Z).bind gY) (λd Z=>some (aQ 0 (B.ro d) Z)) (λZ=>(aw (bZ id) (λZ=>(ab 0 Z).bind (b7 (ae "role"))) (λx=>some (D.sc (V.str (ae "leads")))) Z).bind λx=>match x with | D.sc (V.bl b)=>some b | x=>none) (cM Kd.tup (aq (dE λZ=>(ab 0 Z).bind (b7 (ae "term"))) (aq (dE λZ=>(ab 0 Z).bind (b7 (ae "number"))) λx=>some [])))) [some (.ro (wD C m w)),some (.ak 4 []),some (.ro (.nd .lst (dg C m w.ms))),none,some (.own (.nd .lst l))]=some (.nd .lst ((jl w.ms).map pairD)):=by
 have e:=me (n:=4) (js:= [none]) (is:= [0]) (fi:=(λZ=>(ab 2 Z).bind gY)) (fg:=(λd Z=>some (aQ 0 (B.ro d) Z))) (ft:=(λZ=>(aw (bZ id) (λZ=>(ab 0 Z).bind (b7 (ae "role"))) (λx=>some (D.sc (V.str (ae "leads")))) Z).bind λx=>match x with | D.sc (V.bl b)=>some b | x=>none)) (fe:=(cM Kd.tup (aq (dE λZ=>(ab 0 Z).bind (b7 (ae "term"))) (aq (dE λZ=>(ab 0 Z).bind (b7 (ae "number"))) λx=>some [])))) (Z:= [some (.ro (wD C m w)),some (.ak 4 []),some (.ro (.nd .lst (dg C m w.ms))),none,some (.own (.nd .lst l))]) w.ms.zipIdx (λp=>cE C m p.2 p.1) (λp=>decide (p.1.role=("leads":Str))) (λp=>pairD (p.1.te,(p.2:Int))) ?_ (by rw[List.length_zipIdx,h.n];exact bO (by lia:m<=100) (by decide)) rfl ?_
 ·rw[e];unfold jl;rw[qw];rfl
 ·rw[<- ad3];generalize wD C m w=WW;generalize dg C m w.ms=MM;simp[bD,ab,gY]
 ·intro p hp;have hs:p.1∈w.ms:=by
   obtain⟨s,i⟩:=p;exact(List.mem_zipIdx' hp).2▸agT _
  have wr:=(h.ms p.1 hs).wf.role;have he:=qd p.1.role "leads" (rA wr) (by decide +kernel);have f1:b7 "role" (cE C m p.2 p.1)=some (sD p.1.role):=G0 _ _ _ _ _ _ _ _ _;have f2:b7 "term" (cE C m p.2 p.1)=some (iD p.1.te):=GY _ _ _ _ _ _ _ _ _;have f3:b7 "number" (cE C m p.2 p.1)=some (iD p.2):=O1 _ _ _ _ _ _ _ _ _;generalize cE C m p.2 p.1=M at *;simp[he,f1,f2,f3,pairD,bD,aQ,fW,aq,ab,cM,aw,VL.plain,dE,bV,df,iw]
theorem Rz(hf:fl (eQ W M X l)=some z)(e:GP [.nd .lst l,z]=some (d, [.nd .lst l'])):
  ((bu (λa=>(a,eQ W M X l)) (bt (ar 1) (eg fl λx=>some []) (eQ W M X l))).bind λa=>aW GP a.fst a.snd)=some (d,eQ W M X l'):=by
 unfold eQ at *;simp[hf,e,iL,eF,e7,dO,bG,bt,eg,aW,b8,ag,bN,ar,aZ,iq,sM,dt,ai,bS,cb,aG]
theorem RA(m:Nat)(h0:0 < m)(hm:m < 40)(w:bE)(h:Ww m w)(l:List D)(hl:Lp l):∃(i:Nat) (l':List D),i < m/\Lp l'/\Df K C [wD C m w, .nd .lst l]=some (iD i, [.nd .lst l']):=by
 have ad7:=ad6 (C:=C) m w h hm l;have e0:bM 4 [false,true] [wD C m w, .nd .lst l]= [some (.ro (wD C m w)),some (.ak 4 []),none,none,some (.own (.nd .lst l))]:=by
  generalize wD C m w=WW;simp[gC,bM,aV,bc,bU]
 have W0:wD C m w= .nd (.az cu) [.nd .lst (dg C m w.ms), .nd .lst (w.way.map aD), .nd .lst (w.aT.map gx),iD w.rows]:=rfl;obtain⟨c,hc,ad8⟩:=Ex.eq (Ex.lst 1 ((jl w.ms).map pairD) λd hd=>by
  obtain⟨p,_,rfl⟩:=i0.mp hd;exact ad5 p) (Ex.lst 0 [] λ_ h=>nomatch h) (by decide) (by decide) id
 have s1:uh 2 (eO aC (ar 0) λx=>some (D.sc (V.str (ae "masters")))) [some (.ro (wD C m w)),some (.ak 4 []),none,none,some (.own (.nd .lst l))]=some (.nx [some (.ro (wD C m w)),some (.ak 4 []),some (.ro (.nd .lst (dg C m w.ms))),none,some (.own (.nd .lst l))]):=by
  rw[W0];simp[sZ,uh,aQ,eO,aU,b6,iy,ar,VL.plain,ai,bV,dS,du,df,eP]
 have s2:(fP 3 λZ=>bu (λd=>(d,Z)) ((ji 4 [none] [0] (λZ=>(ab 2 Z).bind gY) (λd Z=>some (aQ 0 (B.ro d) Z)) (λZ=>(aw (bZ id) (λZ=>(ab 0 Z).bind (b7 (ae "role"))) (λx=>some (D.sc (V.str (ae "leads")))) Z).bind λx=>match x with | D.sc (V.bl b)=>some b | x=>none) (cM Kd.tup (aq (dE λZ=>(ab 0 Z).bind (b7 (ae "term"))) (aq (dE λZ=>(ab 0 Z).bind (b7 (ae "number"))) λx=>some [])))) Z)) [some (.ro (wD C m w)),some (.ak 4 []),some (.ro (.nd .lst (dg C m w.ms))),none,some (.own (.nd .lst l))]=some (.nx (eQ (wD C m w) (.nd .lst (dg C m w.ms)) (.nd .lst ((jl w.ms).map pairD)) l)):=qf (kZ ad7) (by
  unfold eQ;generalize wD C m w=WW;generalize dg C m w.ms=MM;generalize (jl w.ms).map pairD=XX;simp[aQ,bV,dS,du,df,eP])
 have AH:cJ [.nd .lst (dg C m w.ms)]=some (iD m):=by simp[cJ,DC,h.n]
 have RB:∀l,Lp l->∃(i:Nat) (l':List D),i < m/\Lp l'/\((bu (λa=>(a,eQ (wD C m w) (.nd .lst (dg C m w.ms)) (.nd .lst ((jl w.ms).map pairD)) l)) (bt (ar 1) (eg (λZ=>(aq (ab 2) (λx=>some []) Z).bind cJ) λx=>some []) (eQ (wD C m w) (.nd .lst (dg C m w.ms)) (.nd .lst ((jl w.ms).map pairD)) l))).bind λa=>aW (kB K C) a.fst a.snd)=some (iD i,eQ (wD C m w) (.nd .lst (dg C m w.ms)) (.nd .lst ((jl w.ms).map pairD)) l'):=λl hl=>by
  obtain⟨d,l',a1,b1,ip,e1⟩:=nT (K:=K) (C:=C) l hl (m:Int) (by lia) (UM (b:=40) (by lia) (by decide));obtain⟨i,rfl⟩:∃i:Nat,d=i:=⟨d.toNat,by lia⟩
  refine⟨i,l',by lia,ip,Rz ?_ e1⟩;unfold eQ;generalize dg C m w.ms=MM at *;generalize (jl w.ms).map pairD=XX;simp[AH,bD,aq,ab]
 have key:∃d o,Df K C [wD C m w, .nd .lst l]=some (d,o)/\∃(i:Nat) (l':List D),i < m/\Lp l'/\d=iD i/\o= [.nd .lst l']:=by
  unfold Df Jh;dsimp only;refine Dp ?_;rw[e0];refine Ev.nx s1 (Ev.nx s2 ?_);have KP:((λZ=>bu (λb=>(b,Z)) ((aw (bZ id) (ab 3) (cM Kd.lst λx=>some []) Z).bind λx=>match x with | D.sc (V.bl b)=>some b | x=>none))) (eQ (wD C m w) (.nd .lst (dg C m w.ms)) (.nd .lst ((jl w.ms).map pairD)) l)=some (c,eQ (wD C m w) (.nd .lst (dg C m w.ms)) (.nd .lst ((jl w.ms).map pairD)) l):=by
   unfold eQ;generalize wD C m w=WW;generalize dg C m w.ms=MM;generalize D.nd .lst ((jl w.ms).map pairD)=XX at *;simp[ad8,bD,ab,cM,aw]
  cases c with
  |true=>
   obtain⟨i,l',hi,ip,ep⟩:=RB l hl;refine Ev.seq (Ev.oS (Qp KP) ⟨.rt (iD i) _,nO ep, [.nd .lst l'], ?_,i,l',hi,ip,rfl,rfl⟩);unfold eQ;simp[cg]
  |false=>
   obtain⟨d,l1,a1,b1,nV,e1⟩:=nT (K:=K) (C:=C) l hl 8 (by decide) (by decide);have p1:=Rz (W:=wD C m w) (M:= .nd .lst (dg C m w.ms)) (X:= .nd .lst ((jl w.ms).map pairD)) (fl:=λx=>some (D.sc (V.int 8))) rfl e1;have c2:=kj d 0;by_cases cd:d=0
   ·rw[decide_eq_true cd]at c2;obtain⟨i,l',hi,ip,ep⟩:=RB l1 nV;refine Ev.seq (Ev.oS (JD KP (G6 (qg p1 rfl c2))) ⟨.rt (iD i) _,nO ep, [.nd .lst l'], ?_,i,l',hi,ip,rfl,rfl⟩);unfold eQ;simp[cg]
   ·rw[decide_eq_false cd]at c2;refine Ev.seq (Ev.o6 (JD KP (G6 (qg p1 rfl c2))) ⟨.nx _,rfl, ?_⟩);have jG:jl w.ms≠ []:=λz=>by
     have:=hc.mpr (by rw[z];rfl);cases this
    obtain⟨p,ps,Aa⟩:∃p ps,jl w.ms=p::ps:=by
     cases q:jl w.ms with
     |nil=>exact absurd q jG
     |cons p ps=>exact⟨p,ps,rfl⟩
    have xx:Hc [.nd .lst ((jl w.ms).map pairD)]=some (pairD (mi p ps)):=by
     show(pairsOf ((jl w.ms).map pairD)).bind _=_;rw[Ry,Aa];rfl
    have Ku:mi p ps∈jl w.ms:=by
     rw[Aa];rcases KO ps p with z | z
     ·rw[z];exact .head _
     ·exact .tail _ z
    have hr:=ad4 Ku;rw[h.n]at hr;obtain⟨i,hi⟩:∃i:Nat,(mi p ps).2=i:=⟨(mi p ps).2.toNat,by lia⟩
    have AI:bf aC bx (pairD (mi p ps)) (.sc (.int 1))=some (iD i):=by
     rw[<- hi];simp[pairD,dC,d7,aC,bf,aU]
    refine⟨.rt (iD i) (eQ (wD C m w) (.nd .lst (dg C m w.ms)) (.nd .lst ((jl w.ms).map pairD)) l1), ?_, [.nd .lst l1], ?_,i,l1,by lia,nV,rfl,rfl⟩
    ·unfold eQ;generalize (jl w.ms).map pairD=XX at *;generalize pairD (mi p ps)=PP at *;simp[xx,AI,bD,aq,ab,aw,VL.plain,jT,cv]
    ·unfold eQ;simp[cg]
 obtain⟨d,o,e,i,l',h1,h2,rfl,rfl⟩:=key;exact⟨i,l',h1,h2,e⟩
variable [dW K C]
noncomputable def eA (W:D) (l:List D) (x2 x3 x4:Option B):En:= [some (.ak 5 []),some (.ak 6 []),x2,x3,x4,some (.own W),some (.own (.nd .lst l))]
theorem RC{W d:D}(h2:NA x2)(h3:NA x3)(h4:NA x4)(e:GP [.nd .lst l, .sc z']=some (d, [.nd .lst l'])):
  ((bu (λa=>(a,eA W l x2 x3 x4)) (bt (ar 1) (eg (λx=>some (.sc z')) λx=>some []) (eA W l x2 x3 x4))).bind λa=>aW GP a.fst a.snd)=some (d,eA W l' x2 x3 x4):=by
 unfold eA;simp[e,dP h2,dP h3,dP h4,iL,eF,e7,dO,bG,bt,eg,aW,b8,ag,bN,ar,aZ,iq,dt,ai,bS,cb,aG]
theorem ad9(pW:VL.plain W=false)(e:GL [W, .nd .lst l]=some (d, [.nd .lst l'])):fP 2 (λZ=>(bu (λa=>(a,Z)) (dR (ar 0) (bt (ar 1) λx=>some []) Z)).bind λa=>aW GL a.fst a.snd) (eA W l none none none)=some (.nx (eA W l' (some (.own d)) none none)):=by
 unfold eA;simp[e,pW,iL,eF,e7,dO,bG,fP,aQ,bt,dR,aW,b8,ag,bN,b6,ar,aZ,iq,ZP,dt,ai,bS,cb,aG,bV,dS,df,eP]
theorem aea(h2:NA x2)(h3:NA x3)(h4:NA x4):(fm (λZ=>bu (λd=>(d,Z)) (aw gP (aw (bf aC bx) (ab 0) λx=>some (D.sc (V.str (ae "rows")))) (λx=>some (D.sc (V.int 1))) Z)) (ar 0) λx=>some (D.sc (V.str (ae "rows")))) (eA (.nd (.az cu) [a,b,c,iD rows]) l x2 x3 x4)=some (.nx (eA (.nd (.az cu) [a,b,c,iD (rows + 1)]) l x2 x3 x4)):=by
 unfold eA;simp[Rn,adz,dP h2,dP h3,dP h4,iL,gP,bD,ab,fm,cm,ag,bx,bf,aU,cq,aw,ar,aZ,iq,ai,aG]
theorem aeb(K:aj)(C:Addr)[dW K C](hl:Lp l)(h2:NA x2)(h3:NA x3)(h4:NA x4):∃(z:Int) (l':List D),Lp l'/\fP 4 (nH (kg (λZ=>bu (λd=>(d,Z)) (some (D.sc (V.str (ae "row"))))) (kg (kf (ki aC bx) (λZ=>bu (λd=>(d,Z)) (cM Kd.lst (aq (dE (aw (bf aC bx) (ab 0) λx=>some (D.sc (V.str (ae "rows"))))) (aq (λx=>some (D.sc (V.int 0))) λx=>some [])) Z)) (kf (intD t6 λi j=>V.int (i / j)) (λZ=>(bu (λa=>(a,Z)) (bt (ar 1) (eg (λx=>some (D.sc (V.int 4))) λx=>some []) Z)).bind λa=>aW (kB K C) a.fst a.snd) λZ=>bu (λd=>(d,Z)) (some (D.sc (V.int 3))))) λZ=>some ([],Z)))) (eA (.nd (.az cu) [a,b,c,iD rows]) l x2 x3 x4)=some (.nx (eA (.nd (.az cu) [a,b,c,iD rows]) l' x2 x3 (some (.own (.nd .tup [sD "row",iD z]))))):=by
 obtain⟨d,l',a1,b1,ip,e1⟩:=nT (K:=K) (C:=C) l hl 4 (by decide) (by decide);have p:=RC (W:= .nd (.az cu) [a,b,c,iD rows]) (x2:=x2) (x3:=x3) (x4:=x4) (z':= .int 4) h2 h3 h4 e1;have AI:ki aC bx (.nd .lst [iD rows,iD 0]) (iD (d / 3))=some (iD (if d / 3=0 then rows else 0)):=by
  have:d / 3=0\/d / 3=1:=by lia
  rcases this with e | e <;> rw[e]<;> simp[dC,d7,ki,aC,bf,aU,VL.plain]
 refine⟨if d / 3=0 then rows else 0,l',ip,qf (ρ1:=eA (.nd (.az cu) [a,b,c,iD rows]) l' x2 x3 x4) (d:= .nd .tup [sD "row",iD (if d / 3=0 then rows else 0)]) (af.mpr ⟨([sD "row",iD (if d / 3=0 then rows else 0)],eA (.nd (.az cu) [a,b,c,iD rows]) l' x2 x3 x4),af.mpr ⟨(sD "row",eA (.nd (.az cu) [a,b,c,iD rows]) l x2 x3 x4),rfl, ?_⟩,rfl⟩) ?_⟩
 ·refine bg.mpr ⟨([iD (if d / 3=0 then rows else 0)],eA (.nd (.az cu) [a,b,c,iD rows]) l' x2 x3 x4),af.mpr ⟨(iD (if d / 3=0 then rows else 0),eA (.nd (.az cu) [a,b,c,iD rows]) l' x2 x3 x4),qg (a:= .nd .lst [iD rows,iD 0]) (b:=iD (d / 3)) (ρ1:=eA (.nd (.az cu) [a,b,c,iD rows]) l x2 x3 x4) ?_ (qg p rfl ?_) AI,rfl⟩,rfl⟩
  ·unfold eA;simp[Rn,bD,aq,ab,ag,bx,bf,aU,cM,aw,VL.plain,dE,ai,iw]
  ·simp[intD,t6]
 ·unfold eA;simp[eW h2,eW h3,eW h4,aQ,bV,dS,eP]
theorem aec{GA GN:List D->Option (D×List D)}{ks:List bw}{M M' r a b c W':D}{gy pf:List D}{x3:Option B}{dH:D}{l:List D}{i:Nat}(h3:NA x3)(hr:VL.plain r=true)(hk:∀x,aC (.nd (.az ks) [x,a,b,c]) (.sc (.str "masters"))=some 0)(h1:aC (.nd .lst gy) (iD i)=some i)(h2:aU (.nd .lst gy) i=some M)(lD:gy[i]?=some M)(hs:gy.set i M'=pf)(pM:VL.plain M=false)(KJ:VL.plain M'=false)(ho:jX C "add" M=true)(eh:GA [M,r]=some (dH, [M']))(po:VL.plain (ir dH)=true)(en:GN [.nd (.az ks) [.nd .lst pf,a,b,c],iD i,sD "add",r,ir dH]=some (.sc .aE, [W'])):
  (dZ λZ=>(i7 (ar 0) (fD (fJ 2) (fD (λZ=>bu (λd=>(d,Z)) (some (D.sc (V.str (ae "add"))))) (fD (fJ 4) (fD (nP (qb GA C (ae "add") (eO aC (eO aC (ar 0) λx=>some (D.sc (V.str (ae "masters")))) (ab 2)) (dR (ar 4) λx=>some []))) λZ=>bu (λa=>(a,Z)) (some []))))) Z).bind λa=>aW GN a.fst a.snd) (eA (.nd (.az ks) [.nd .lst gy,a,b,c]) l (some (.own (iD i))) x3 (some (.own r)))=some (.nx (eA W' l (some (.own (iD i))) x3 (some (.own r)))):=by
 have hj:∀x,(gy.set i x)[i]?=some x:=λx=>eY (bW.mp lD).1;unfold eA;simp[nP,i7,hr,hk,h1,lD,hs,ho,eh,en,dP h3,iL,eF,e7,dO,bG,bD,i7,dR,fD,aW,ab,dZ,b8,ag,bN,dk,eO,aU,qb,fJ,b6,iy,ar,VL.plain,aK,aZ,iq,dt,ai,bS,cb,aG]
theorem aed(h:∀l,o=some l->∀g∈l,g.ok b):ir (Dz o)=g8 o:=by
 cases o with
 |none=>rfl
 |some l=>
  have p:=qi (h l rfl);show(if _ then _ else _)=_;rw[if_pos p];rfl
theorem aee(ws:Wg m b s)(hr:jY r)(hi:i < m):∀l,(ij m i r s).2=some l->(∀g∈l,la m (b + 1) g)/\l.length<=m:=λl hl=>by
 have wa:=Dn (nu:=i) ws hr;unfold ij at hl wa
 split at hl
 ·next c=>
  rw[if_pos c]at wa;cases hl;refine⟨Jy wa (by lia) (by lia), ?_⟩;unfold keeps;rw[eS];exact uM _ _
 ·cases hl
theorem aef(m:Nat)(h0:0 < m)(hm:m < 40)(w:bE)(h:Ww m w)(hz:w.aT.length < 430)(l:List D)(hl:Lp l)(i:Nat)(hi:i < m)(x3 x4:Option B)(h3:NA x3)(h4:NA x4):
  ∃(w':bE) (l':List D) (mm:Option B),Lp l'/\Ww m w'/\ig m w w'/\w'.aT.length=w.aT.length + 1/\NA mm/\(bQ (fm (λZ=>bu (λd=>(d,Z)) (aw gP (aw (bf aC bx) (ab 0) λx=>some (D.sc (V.str (ae "rows")))) (λx=>some (D.sc (V.int 1))) Z)) (ar 0) λx=>some (D.sc (V.str (ae "rows")))) (bQ (fP 4 (nH (kg (λZ=>bu (λd=>(d,Z)) (some (D.sc (V.str (ae "row"))))) (kg (kf (ki aC bx) (λZ=>bu (λd=>(d,Z)) (cM Kd.lst (aq (dE (aw (bf aC bx) (ab 0) λx=>some (D.sc (V.str (ae "rows"))))) (aq (λx=>some (D.sc (V.int 0))) λx=>some [])) Z)) (kf (intD t6 λi j=>V.int (i / j)) (λZ=>(bu (λa=>(a,Z)) (bt (ar 1) (eg (λx=>some (D.sc (V.int 4))) λx=>some []) Z)).bind λa=>aW (kB K C) a.fst a.snd) λZ=>bu (λd=>(d,Z)) (some (D.sc (V.int 3))))) λZ=>some ([],Z))))) (dZ λZ=>(i7 (ar 0) (fD (fJ 2) (fD (λZ=>bu (λd=>(d,Z)) (some (D.sc (V.str (ae "add"))))) (fD (fJ 4) (fD (nP (qb (rq K C) C (ae "add") (eO aC (eO aC (ar 0) λx=>some (D.sc (V.str (ae "masters")))) (ab 2)) (dR (ar 4) λx=>some []))) λZ=>bu (λa=>(a,Z)) (some []))))) Z).bind λa=>aW (rm K C) a.fst a.snd))) (eA (wD C m w) l (some (.own (iD i))) x3 x4)=some (.nx (eA (wD C m w') l' (some (.own (iD i))) x3 mm)):=by
 obtain⟨z,l',ip,e2⟩:=aeb K C (a:= .nd .lst (dg C m w.ms)) (b:= .nd .lst (w.way.map aD)) (c:= .nd .lst (w.aT.map gx)) (rows:=w.rows + 1) hl (x2:=some (.own (iD i))) (x3:=x3) (x4:=x4) i8 h3 h4;have e1:=aea (a:= .nd .lst (dg C m w.ms)) (b:= .nd .lst (w.way.map aD)) (c:= .nd .lst (w.aT.map gx)) (rows:=w.rows) (l:=l) (x2:=some (.own (iD i))) (x3:=x3) (x4:=x4) i8 h3 h4;have uV:jY (.nd .tup [sD "row",iD z]):= .a _ _ (by decide +kernel);generalize hR:D.nd .tup [sD "row",iD z]=r at *;have hs:=gn (show i < w.ms.length by rw[h.n];exact hi);generalize w.ms[i]'(by rw[h.n];exact hi)=s at hs;have ws:=h.ms s (gH hs);have ea:=acN (K:=K) (C:=C) m i s r (ws.wf.mono (by lia)) uV (by lia);have ht:=aee (i:=i) ws uV hi;have wa:=Dn (nu:=i) ws uV;have en:=AG (K:=K) (C:=C) m { w with rows:=w.rows + 1,ms:=w.ms.set i (ij m i r s).1 } i "add" r (ij m i r s).2 (ij m i r s).1 (by show(w.ms.set i _)[i]?=_;exact eY (bW.mp hs).1) wa.wf.rows (bO wa.wf.len (by lia)) uV.plain (λl hl=>⟨λg hg=>(((ht l hl).1 g hg).mono (by lia)).ok,bO (ht l hl).2 (by lia)⟩) ⟨λg hg=>((h.way g hg).mono (by lia)).ok,h.lT⟩ (by show w.aT.length<=900;lia);obtain⟨i1,i2⟩:=AF (C:=C) (m:=m) hs;have ph:=aed (o:=(ij m i r s).2) (b:=900) λl hl g hg=>(((ht l hl).1 g hg).mono (by lia)).ok;have po:VL.plain (ir (Dz (ij m i r s).2))=true:=by rw[ph];exact xt (b:=900) λl hl g hg=>(((ht l hl).1 g hg).mono (by lia)).ok
 rw[<- ph]at en;have ho:jX C "add" (cE C m i s)=true:=wU (by decide +kernel) _ _ _ _ _ _ _ _ _;have e3:=aec (C:=C) (GA:=rq K C) (GN:=rm K C) (ks:=cu) (l:=l') h3 uV.plain (λx=>sZ x _ _ _) i1 i2 (s9 hs) (DD m w.ms i (ij m i r s).1) (rB m i s) (rB m i _) ho ea po en;refine⟨({ w with rows:=w.rows + 1 }:bE).note i "add" r (ij m i r s).2 (ij m i r s).1,l',some (.own r),ip,Step.ww hm (.add { w with rows:=w.rows + 1 } i s r hs uV) (Step.ww hm (.rows w (w.rows + 1)) h), .cons (.rows w (w.rows + 1)) (.one (.add { w with rows:=w.rows + 1 } i s r hs uV)),uP _ _ _ _ _ _,i8, ?_⟩;exact fT e1 (fT e2 e3)
theorem RD(m:Nat)(w:bE):VL.plain (wD C m w)=false:=by simp[wD,VL.plain]
theorem aeg(m:Nat)(h0:0 < m)(hm:m < 40)(w:bE)(h:Ww m w)(hz:w.aT.length<=310)(l:List D)(hl:Lp l):
  ∃(w':bE) (l':List D),Lp l'/\Ww m w'/\ig m w w'/\w'.aT.length<=w.aT.length + 3/\Di K C [wD C m w, .nd .lst l]=some (.sc .aE, [wD C m w', .nd .lst l']):=by
 have key:∃d o,Di K C [wD C m w, .nd .lst l]=some (d,o)/\∃(w':bE) (l':List D),Lp l'/\Ww m w'/\ig m w w'/\w'.aT.length<=w.aT.length + 3/\d= .sc .aE/\o= [wD C m w', .nd .lst l']:=by
  unfold Di Ji;dsimp only;have e0:bM 5 [true,true] [wD C m w, .nd .lst l]=eA (wD C m w) l none none none:=by
   unfold eA;generalize wD C m w=WW;simp[gC,bM,aV,bc,bU]
  refine Dp ?_;rw[e0];obtain⟨i,l1,hi,nV,e1⟩:=RA (K:=K) (C:=C) m h0 hm w h l hl;refine Ev.nx (ad9 (RD m w) e1) ?_;obtain⟨d,l2,a2,b2,gV,e2⟩:=nT (K:=K) (C:=C) l1 nV 3 (by decide) (by decide);obtain⟨q,hq⟩:∃q:Nat,1 + d=(q:Int):=⟨(1 + d).toNat,by lia⟩
  have p:=RC (W:=wD C m w) (x2:=some (.own (iD i))) (x3:=none) (x4:=none) (z':= .int 3) i8 gi gi e2;refine Ev.O8 (as:= [iD q]) (m:=q) (ρ0:=eA (wD C m w) l2 (some (.own (iD i))) none none) (af.mpr ⟨(iD q,eA (wD C m w) l2 (some (.own (iD i))) none none),qg rfl p (by rw[<- hq];rfl),rfl⟩) (sJ q (by lia)) (λj Z=>∃(w1:bE) (l1:List D) (x3 x4:Option B),Lp l1/\Ww m w1/\ig m w w1/\w1.aT.length<=w.aT.length + j/\NA x3/\NA x4/\Z=eA (wD C m w1) l1 (some (.own (iD i))) x3 x4) ⟨w,l2,none,none,gV,h, .refl _,by lia,gi,gi,rfl⟩ ?_ ?_
  ·rintro j hj Z ⟨w1,l3,x3,x4,lj,ie,bH,xy,h3,h4,rfl⟩;obtain⟨w2,l4,mm,uW,pj,cf,kY,KQ,e4⟩:=aef (K:=K) (C:=C) m h0 hm w1 ie (by lia) l3 lj i hi (some (.ro (iD j))) x4 kl h4;refine⟨eA (wD C m w1) l3 (some (.own (iD i))) (some (.ro (iD j))) x4,by
    unfold eA;generalize wD C m w1=WW;simp[eW h3,eW h4,aQ,bV,dS,eP],_,e4,w2,l4,_,mm,uW,pj,bH.trans cf,by lia,kl,KQ,rfl⟩
  ·rintro Z ⟨w1,l3,x3,x4,lj,ie,bH,xy,h3,h4,rfl⟩;exact⟨[wD C m w1, .nd .lst l3],by unfold eA;generalize wD C m w1=WW;simp[cg],w1,l3,lj,ie,bH,by lia,rfl,rfl⟩
 obtain⟨d,o,e,w',l',h1,h2,h3,h4,rfl,rfl⟩:=key;exact⟨w',l',h1,h2,h3,h4,e⟩
variable [dW K C]
noncomputable def eR (W:D) (l:List D) (x2 x3 x4 x5:Option B):En:= [some (.ak 6 []),some (.ak 7 []),x2,x3,x4,x5,some (.own W),some (.own (.nd .lst l))]
theorem gp(h:gy[i]?=some M):ag (.nd (.az ks) [.nd .lst gy,a,b,c]) [0,i]=some M:=by
 simp[h,ag,dk,VL.plain,aK]
theorem KR(h2:NA x2)(h3:NA x3)(h5:NA x5)(hM:ag W [0,i]=some M)(hf:fl (eR W l x2 x3 (some (.ak 6 [0,i])) x5)=some z)(e:GP [.nd .lst l,z]=some (d, [.nd .lst l'])):
  ((bu (λa=>(a,eR W l x2 x3 (some (.ak 6 [0,i])) x5)) (bt (ar 1) (eg fl λx=>some []) (eR W l x2 x3 (some (.ak 6 [0,i])) x5))).bind λa=>aW GP a.fst a.snd)=some (d,eR W l' x2 x3 (some (.ak 6 [0,i])) x5):=by
 unfold eR at *;simp[hf,e,hg,hM,dP h2,dP h3,dP h5,iL,eF,e7,dO,bG,bt,eg,aW,b8,bN,ar,aZ,iq,dt,ai,bS,cb,aG]
theorem DE(h2:NA x2)(h3:NA x3)(h4:NA x4)(h5:NA x5)(hf:fl (eR W l x2 x3 x4 x5)=some z)(e:GP [.nd .lst l,z]=some (d, [.nd .lst l'])):
  ((bu (λa=>(a,eR W l x2 x3 x4 x5)) (bt (ar 1) (eg fl λx=>some []) (eR W l x2 x3 x4 x5))).bind λa=>aW GP a.fst a.snd)=some (d,eR W l' x2 x3 x4 x5):=by
 unfold eR at *;simp[hf,e,dP h4,dP h2,dP h3,dP h5,iL,eF,e7,dO,bG,bt,eg,aW,b8,ag,bN,ar,aZ,iq,dt,ai,bS,cb,aG]
theorem aeh{GR GN:List D->Option (D×List D)}{gy pf:List D}{l:List D}(h2:NA x2)(h5:NA x5)(lD:gy[i]?=some M)(hs:gy.set i M'=pf)(pM:VL.plain M=false)(KJ:VL.plain M'=false)(ho:jX C "rise" M=true)(eh:GR [M]=some (dH, [M']))(po:VL.plain (ir dH)=true)(en:GN [.nd (.az ks) [.nd .lst pf,a,b,c],iD i,sD "rise", .sc .aE,ir dH]=some (.sc .aE, [W'])):
  (dZ λZ=>(i7 (ar 0) (fD (fJ 3) (fD (λZ=>bu (λd=>(d,Z)) (some (D.sc (V.str (ae "rise"))))) (fD (λZ=>bu (λd=>(d,Z)) (some (D.sc V.aE))) (fD (nP (qb GR C (ae "rise") (ar 4) λx=>some [])) λZ=>bu (λa=>(a,Z)) (some []))))) Z).bind λa=>aW GN a.fst a.snd) (eR (.nd (.az ks) [.nd .lst gy,a,b,c]) l x2 (some (.own (iD i))) (some (.ak 6 [0,i])) x5)=some (.nx (eR W' l x2 (some (.own (iD i))) none x5)):=by
 have hj:∀x,(gy.set i x)[i]?=some x:=λx=>eY (bW.mp lD).1;unfold eR;simp[nP,i7,lD,hs,ho,eh,en,hj,dP h2,dP h5,iL,eF,e7,dO,bG,bD,i7,fD,aW,ab,dZ,b8,ag,bN,dk,qb,fJ,b6,ar,VL.plain,aK,aZ,iq,dt,ai,bS,cb,aG]
theorem aei{GR GN:List D->Option (D×List D)}{gy pf:List D}{l:List D}(h2:NA x2)(h5:NA x5)(lD:gy[i]?=some M)(hs:gy.set i M'=pf)(pM:VL.plain M=false)(KJ:VL.plain M'=false)(ho:jX C "fall" M=true)(eh:GR [M]=some (dH, [M']))(po:VL.plain (ir dH)=true)(en:GN [.nd (.az ks) [.nd .lst pf,a,b,c],iD i,sD "fall", .sc .aE,ir dH]=some (.sc .aE, [W'])):
  (dZ λZ=>(i7 (ar 0) (fD (fJ 3) (fD (λZ=>bu (λd=>(d,Z)) (some (D.sc (V.str (ae "fall"))))) (fD (λZ=>bu (λd=>(d,Z)) (some (D.sc V.aE))) (fD (nP (qb GR C (ae "fall") (ar 4) λx=>some [])) λZ=>bu (λa=>(a,Z)) (some []))))) Z).bind λa=>aW GN a.fst a.snd) (eR (.nd (.az ks) [.nd .lst gy,a,b,c]) l x2 (some (.own (iD i))) (some (.ak 6 [0,i])) x5)=some (.nx (eR W' l x2 (some (.own (iD i))) none x5)):=by
 have hj:∀x,(gy.set i x)[i]?=some x:=λx=>eY (bW.mp lD).1;unfold eR;simp[nP,i7,lD,hs,ho,eh,en,hj,dP h2,dP h5,iL,eF,e7,dO,bG,bD,i7,fD,aW,ab,dZ,b8,ag,bN,dk,qb,fJ,b6,ar,VL.plain,aK,aZ,iq,dt,ai,bS,cb,aG]
theorem aej(h3:NA x3)(h4:NA x4)(h5:NA x5)(e:GC [W, .nd .lst l, .nd .tup [sD "stand",sD "voice"],tD (decide (rd=1))]=some (.sc .aE, [W', .nd .lst l'])):
  (dZ λZ=>(bu (λa=>(a,Z)) (bt (ar 0) (bt (ar 1) (eg (cM Kd.tup (aq (λx=>some (D.sc (V.str (ae "stand")))) (aq (λx=>some (D.sc (V.str (ae "voice")))) λx=>some []))) (eg (aw (bZ id) (ab 2) λx=>some (D.sc (V.int 1))) λx=>some []))) Z)).bind λa=>aW GC a.fst a.snd) (eR W l (some (.own (iD rd))) x3 x4 x5)=some (.nx (eR W' l' (some (.own (iD rd))) x3 x4 x5)):=by
 unfold eR;simp[e,kj,dP h3,dP h4,dP h5,iL,eF,e7,dO,bG,bD,bt,eg,aW,aq,ab,dZ,b8,ag,bN,cM,aw,ar,aZ,iq,dt,ai,bS,cb,aG,iw]
theorem aek(h3:NA x3)(h4:NA x4)(h5:NA x5)(e:GC [W, .nd .lst l, .nd .tup [sD "keep",sD "kept"],tD (decide (rd=5))]=some (.sc .aE, [W', .nd .lst l'])):
  (dZ λZ=>(bu (λa=>(a,Z)) (bt (ar 0) (bt (ar 1) (eg (cM Kd.tup (aq (λx=>some (D.sc (V.str (ae "keep")))) (aq (λx=>some (D.sc (V.str (ae "kept")))) λx=>some []))) (eg (aw (bZ id) (ab 2) λx=>some (D.sc (V.int 5))) λx=>some []))) Z)).bind λa=>aW GC a.fst a.snd) (eR W l (some (.own (iD rd))) x3 x4 x5)=some (.nx (eR W' l' (some (.own (iD rd))) x3 x4 x5)):=by
 unfold eR;simp[e,kj,dP h3,dP h4,dP h5,iL,eF,e7,dO,bG,bD,bt,eg,aW,aq,ab,dZ,b8,ag,bN,cM,aw,ar,aZ,iq,dt,ai,bS,cb,aG,iw]
theorem ael(h2:NA x2)(h3:NA x3)(h4:NA x4)(h5:NA x5)(e:GC [W, .nd .lst l, .nd .tup [sD "keep",sD "kept"],tD false]=some (.sc .aE, [W', .nd .lst l'])):
  (dZ λZ=>(bu (λa=>(a,Z)) (bt (ar 0) (bt (ar 1) (eg (cM Kd.tup (aq (λx=>some (D.sc (V.str (ae "keep")))) (aq (λx=>some (D.sc (V.str (ae "kept")))) λx=>some []))) (eg (λx=>some (D.sc (V.bl false))) λx=>some []))) Z)).bind λa=>aW GC a.fst a.snd) (eR W l x2 x3 x4 x5)=some (.nx (eR W' l' x2 x3 x4 x5)):=by
 unfold eR;simp[e,dP h4,dP h2,dP h3,dP h5,iL,eF,e7,dO,bG,bt,eg,aW,aq,dZ,b8,ag,bN,cM,ar,aZ,iq,dt,ai,bS,cb,aG,iw]
theorem aem{i:Nat}(h2:NA x2)(h3:NA x3)(h5:NA x5)(e:GA [W, .nd .lst l]=some (.sc .aE, [W', .nd .lst l'])):
  (dZ λZ=>(bu (λa=>(a,Z)) (bt (ar 0) (bt (ar 1) λx=>some []) Z)).bind λa=>aW GA a.fst a.snd) (eR W l x2 x3 (some (.ak 6 [0,i])) x5)=some (.nx (eR W' l' x2 x3 none x5)):=by
 unfold eR;simp[e,dP h2,dP h3,dP h5,iL,eF,e7,dO,bG,bt,aW,dZ,b8,ag,bN,ar,aZ,iq,dt,ai,bS,cb,aG]
theorem aen(h2:NA x2)(h3:NA x3)(h5:NA x5)(pW:VL.plain W=false)(hM:ag W [0,i]=some M)(e:GL [W, .nd .lst l]=some (d, [.nd .lst l'])):
  (fP 3 λZ=>(bu (λa=>(a,Z)) (dR (ar 0) (bt (ar 1) λx=>some []) Z)).bind λa=>aW GL a.fst a.snd) (eR W l x2 x3 (some (.ak 6 [0,i])) x5)=some (.nx (eR W l' x2 (some (.own d)) (some (.ak 6 [0,i])) x5)):=by
 unfold eR;simp[e,hg,pW,hM,eW h2,dP h2,eW h3,dP h3,eW h5,dP h5,iL,eF,e7,dO,bG,fP,aQ,bt,dR,aW,b8,bN,b6,ar,aZ,iq,dt,ai,bS,cb,aG,bV,dS,eP]
theorem aeo{GS:List D->Option D}{GN:List D->Option (D×List D)}{gy:List D}{l:List D}{i j:Nat}(h2:NA x2)(h5:NA x5)(hk:∀x,aC (.nd (.az ks) [x,a,b,c]) (.sc (.str "masters"))=some 0)(h1:aC (.nd .lst gy) (iD i)=some i)(ajZ:aU (.nd .lst gy) i=some M)(lD:gy[i]?=some M)(pM:VL.plain M=false)(ho:jX C "send" M=true)(eh:GS [M]=some dH)(po:VL.plain (ir dH)=true)(en:GN [.nd (.az ks) [.nd .lst gy,a,b,c],iD i,sD "send", .sc .aE,ir dH]=some (.sc .aE, [W'])):
  (dZ λZ=>(i7 (ar 0) (fD (fJ 3) (fD (λZ=>bu (λd=>(d,Z)) (some (D.sc (V.str (ae "send"))))) (fD (λZ=>bu (λd=>(d,Z)) (some (D.sc V.aE))) (fD (nP λZ=>bu (λd=>(d,Z)) (methP GS C (ae "send") 1 (aw (bf aC bx) (aw (bf aC bx) (ab 0) λx=>some (D.sc (V.str (ae "masters")))) (ab 3)) (λx=>some []) Z)) λZ=>bu (λa=>(a,Z)) (some []))))) Z).bind λa=>aW GN a.fst a.snd) (eR (.nd (.az ks) [.nd .lst gy,a,b,c]) l x2 (some (.own (iD i))) (some (.ak 6 [0,j])) x5)=some (.nx (eR W' l x2 (some (.own (iD i))) none x5)):=by
 unfold eR;simp[nP,i7,hk,h1,lD,ho,eh,en,dP h2,dP h5,iL,eF,e7,dO,bG,bD,i7,fD,aW,ab,dZ,b8,ag,bN,bx,bf,aU,methP,fJ,aw,ar,VL.plain,aZ,iq,dt,ai,bS,cb,aG]
theorem aep{b c:D}(h2:NA x2)(h3:NA x3)(h5:NA x5)(hM:gy[i]?=some M)(e:GP [.nd .lst l,iD 20]=some (iD k, [.nd .lst l']))(hc:zE (.nd .lst wy) (iD k)=some (.nd .lst aeq)):
  (fm (G7 (eO aC (ar 0) λx=>some (D.sc (V.str (ae "way")))) λZ=>(bu (λa=>(a,Z)) (bt (ar 1) (eg (λx=>some (D.sc (V.int 20))) λx=>some []) Z)).bind λa=>aW GP a.fst a.snd) (ar 0) λx=>some (D.sc (V.str (ae "way")))) (eR (.nd (.az cu) [.nd .lst gy, .nd .lst wy,b,c]) l x2 x3 (some (.ak 6 [0,i])) x5)=some (.nx (eR (.nd (.az cu) [.nd .lst gy, .nd .lst aeq,b,c]) l' x2 x3 none x5)):=by
 unfold eR;simp[G7,mW,pe,KI,hM,e,hc,eW h2,dP h2,eW h3,dP h3,eW h5,dP h5,iL,eF,e7,dO,bG,bD,bt,eg,aW,ab,fm,cm,b8,ag,bN,dk,eO,aU,cq,b6,iy,ar,VL.plain,aK,aZ,iq,dt,ai,bS,cb,aG,dS,eP]
variable [dW K C]
theorem Ev.mono(h:Ev f Z Q)(k:∀fl,Q fl->Q' fl):Ev f Z Q':=by
 obtain⟨fl,e,q⟩:=h;exact⟨fl,e,k fl q⟩
theorem aer(h2:NA x2)(h3:NA x3)(h4:NA x4)(h5:NA x5)(hW:W= .nd (.az cu) [a, .nd .lst wy,b,c])(cU:cJ [.nd .lst wy]=some (iD n))(e1:GP [.nd .lst l,iD n]=some (iD k, [.nd .lst l1]))(e2:GP [.nd .lst l1,iD 2]=some (iD d, [.nd .lst l2]))(eh:GH [W,iD k,tD (decide (d=0))]=some (.sc .aE, [W'])):
  (dZ λZ=>(i7 (ar 0) (fD (λZ=>(bu (λa=>(a,Z)) (bt (ar 1) (eg (λZ=>(aq (aw (bf aC bx) (ab 0) λx=>some (D.sc (V.str (ae "way")))) (λx=>some []) Z).bind cJ) λx=>some []) Z)).bind λa=>aW GP a.fst a.snd) (fD (kf (bZ id) (λZ=>(bu (λa=>(a,Z)) (bt (ar 1) (eg (λx=>some (D.sc (V.int 2))) λx=>some []) Z)).bind λa=>aW GP a.fst a.snd) λZ=>bu (λd=>(d,Z)) (some (D.sc (V.int 0)))) λZ=>bu (λa=>(a,Z)) (some []))) Z).bind λa=>aW GH a.fst a.snd) (eR W l x2 x3 x4 x5)=some (.nx (eR W' l2 x2 x3 x4 x5)):=by
 have hq:=kj d 0;have p1:=DE (W:=W) (fl:=λZ=>(aq (aw (bf aC bx) (ab 0) λx=>some (D.sc (V.str (ae "way")))) (λx=>some []) Z).bind cJ) h2 h3 h4 h5 (by
  rw[hW];unfold eR;simp[pe,cU,bD,aq,ab,ag,bx,bf,aU,aw,ai]) e1
 have p2:=DE (W:=W) (fl:=λx=>some (D.sc (V.int 2))) h2 h3 h4 h5 rfl e2;have p3:=qg (g:=bZ id) (fa:=λZ=>(bu (λa=>(a,Z)) (bt (ar 1) (eg (λx=>some (D.sc (V.int 2))) λx=>some []) Z)).bind λa=>aW GP a.fst a.snd) (fb:=λZ=>bu (λd=>(d,Z)) (some (D.sc (V.int 0)))) (Z:=eR W l1 x2 x3 x4 x5) p2 rfl hq;have KU:ai (eR W l2 x2 x3 x4 x5) 6=some W:=rfl;unfold dZ;have KW:(i7 (ar 0) (fD (λZ=>(bu (λa=>(a,Z)) (bt (ar 1) (eg (λZ=>(aq (aw (bf aC bx) (ab 0) λx=>some (D.sc (V.str (ae "way")))) (λx=>some []) Z).bind cJ) λx=>some []) Z)).bind λa=>aW GP a.fst a.snd) (fD (kf (bZ id) (λZ=>(bu (λa=>(a,Z)) (bt (ar 1) (eg (λx=>some (D.sc (V.int 2))) λx=>some []) Z)).bind λa=>aW GP a.fst a.snd) λZ=>bu (λd=>(d,Z)) (some (D.sc (V.int 0)))) λZ=>bu (λa=>(a,Z)) (some [])))) (eR W l x2 x3 x4 x5)=some ([.io ⟨6, []⟩, .tm (iD k), .tm (tD (decide (d=0)))],eR W l2 x2 x3 x4 x5):=by
  refine af.mpr ⟨.rt 6 [], ?_, ?_⟩
  ·unfold eR;simp[ag,ar,ai]
  ·show(if([]:List Nat)= [] then _ else _)=_;rw[if_pos rfl];refine af.mpr ⟨([.tm (iD k), .tm (tD (decide (d=0)))],eR W l2 x2 x3 x4 x5),af.mpr ⟨(iD k,eR W l1 x2 x3 x4 x5),p1,bg.mpr ⟨([.tm (tD (decide (d=0)))],eR W l2 x2 x3 x4 x5),af.mpr ⟨(tD (decide (d=0)),eR W l2 x2 x3 x4 x5),p3,rfl⟩,rfl⟩⟩, ?_⟩;rw[KU];rfl
 refine bg.mpr ⟨(.sc .aE,eR W' l2 x2 x3 x4 x5),af.mpr ⟨_,KW, ?_⟩,rfl⟩;unfold eR;simp[eh,dP h2,dP h3,dP h4,dP h5,iL,e7,dO,bG,aW,b8,ag,bN,aZ,iq,dt,ai,bS,cb,aG]
theorem aes(h2:NA x2)(h3:NA x3)(h5:NA x5)(hW:W= .nd (.az cu) [a, .nd .lst wy,b,c])(cU:cJ [.nd .lst wy]=some (iD n))(hM:ag W [0,i]=some M)(e1:GP [.nd .lst l,iD n]=some (iD k, [.nd .lst l1]))(e2:GP [.nd .lst l1,iD 2]=some (iD d, [.nd .lst l2]))(eh:GH [W,iD k,tD (decide (d=0))]=some (.sc .aE, [W'])):
  (dZ λZ=>(i7 (ar 0) (fD (λZ=>(bu (λa=>(a,Z)) (bt (ar 1) (eg (λZ=>(aq (aw (bf aC bx) (ab 0) λx=>some (D.sc (V.str (ae "way")))) (λx=>some []) Z).bind cJ) λx=>some []) Z)).bind λa=>aW GP a.fst a.snd) (fD (kf (bZ id) (λZ=>(bu (λa=>(a,Z)) (bt (ar 1) (eg (λx=>some (D.sc (V.int 2))) λx=>some []) Z)).bind λa=>aW GP a.fst a.snd) λZ=>bu (λd=>(d,Z)) (some (D.sc (V.int 0)))) λZ=>bu (λa=>(a,Z)) (some []))) Z).bind λa=>aW GH a.fst a.snd) (eR W l x2 x3 (some (.ak 6 [0,i])) x5)=some (.nx (eR W' l2 x2 x3 none x5)):=by
 have hq:=kj d 0;have p1:=KR (W:=W) (fl:=λZ=>(aq (aw (bf aC bx) (ab 0) λx=>some (D.sc (V.str (ae "way")))) (λx=>some []) Z).bind cJ) h2 h3 h5 hM (by
  rw[hW];unfold eR;simp[pe,cU,bD,aq,ab,ag,bx,bf,aU,aw,ai]) e1
 have p2:=KR (W:=W) (fl:=λx=>some (D.sc (V.int 2))) h2 h3 h5 hM rfl e2;have p3:=qg (g:=bZ id) (fa:=λZ=>(bu (λa=>(a,Z)) (bt (ar 1) (eg (λx=>some (D.sc (V.int 2))) λx=>some []) Z)).bind λa=>aW GP a.fst a.snd) (fb:=λZ=>bu (λd=>(d,Z)) (some (D.sc (V.int 0)))) (Z:=eR W l1 x2 x3 (some (.ak 6 [0,i])) x5) p2 rfl hq;have KU:ai (eR W l2 x2 x3 (some (.ak 6 [0,i])) x5) 6=some W:=rfl;unfold dZ;have KW:(i7 (ar 0) (fD (λZ=>(bu (λa=>(a,Z)) (bt (ar 1) (eg (λZ=>(aq (aw (bf aC bx) (ab 0) λx=>some (D.sc (V.str (ae "way")))) (λx=>some []) Z).bind cJ) λx=>some []) Z)).bind λa=>aW GP a.fst a.snd) (fD (kf (bZ id) (λZ=>(bu (λa=>(a,Z)) (bt (ar 1) (eg (λx=>some (D.sc (V.int 2))) λx=>some []) Z)).bind λa=>aW GP a.fst a.snd) λZ=>bu (λd=>(d,Z)) (some (D.sc (V.int 0)))) λZ=>bu (λa=>(a,Z)) (some [])))) (eR W l x2 x3 (some (.ak 6 [0,i])) x5)=some ([.io ⟨6, []⟩, .tm (iD k), .tm (tD (decide (d=0)))],eR W l2 x2 x3 (some (.ak 6 [0,i])) x5):=by
  refine af.mpr ⟨.rt 6 [], ?_, ?_⟩
  ·unfold eR;simp[ag,ar,ai]
  ·show(if([]:List Nat)= [] then _ else _)=_;rw[if_pos rfl];refine af.mpr ⟨([.tm (iD k), .tm (tD (decide (d=0)))],eR W l2 x2 x3 (some (.ak 6 [0,i])) x5),af.mpr ⟨(iD k,eR W l1 x2 x3 (some (.ak 6 [0,i])) x5),p1,bg.mpr ⟨([.tm (tD (decide (d=0)))],eR W l2 x2 x3 (some (.ak 6 [0,i])) x5),af.mpr ⟨(tD (decide (d=0)),eR W l2 x2 x3 (some (.ak 6 [0,i])) x5),p3,rfl⟩,rfl⟩⟩, ?_⟩;rw[KU];rfl
 refine bg.mpr ⟨(.sc .aE,eR W' l2 x2 x3 none x5),af.mpr ⟨_,KW, ?_⟩,rfl⟩;unfold eR;simp[eh,dP h2,dP h3,dP h5,iL,e7,dO,bG,aW,b8,ag,bN,aZ,iq,dt,ai,bS,cb,aG]
def PR(C:Addr)(m:Nat)(w:bE)(n:Nat)(Z:En):Prop:=∃(w':bE) (l':List D) (x2 x3 x4 x5:Option B),Lp l'/\Ww m w'/\ig m w w'/\w'.aT.length<=w.aT.length + n/\Z=eR (wD C m w') l' x2 x3 x4 x5
def QR(C:Addr)(m:Nat)(w:bE)(n:Nat):Fl->Prop
 |.nx Z=>PR C m w n Z
 |_=>False
theorem aet(m:Nat)(h0:0 < m)(hm:m < 40)(w:bE)(h:Ww m w)(hz:w.aT.length<=310)(x2 x3:Option B)(h2:NA x2)(h3:NA x3)(i:Nat)(hi:i < m)(l:List D)(hl:Lp l):Ev (Cg (kg (kf gP (λZ=>bu (λd=>(d,Z)) (some (D.sc (V.int 1)))) λZ=>(bu (λa=>(a,Z)) (bt (ar 1) (eg (λx=>some (D.sc (V.int 6))) λx=>some []) Z)).bind λa=>aW (kB K C) a.fst a.snd) λZ=>some ([],Z)) (λd Z=>some (aQ 5 (B.ro d) Z)) (bF (λZ=>bu (λb=>(b,Z)) ((aw (cN λi j=>V.bl (decide (j < i))) (λZ=>(aq (aw (bf aC bx) (ab 0) λx=>some (D.sc (V.str (ae "way")))) (λx=>some []) Z).bind cJ) (λx=>some (D.sc (V.int 0))) Z).bind λx=>match x with | D.sc (V.bl b)=>some b | x=>none)) (dZ λZ=>(i7 (ar 0) (fD (λZ=>(bu (λa=>(a,Z)) (bt (ar 1) (eg (λZ=>(aq (aw (bf aC bx) (ab 0) λx=>some (D.sc (V.str (ae "way")))) (λx=>some []) Z).bind cJ) λx=>some []) Z)).bind λa=>aW (kB K C) a.fst a.snd) (fD (kf (bZ id) (λZ=>(bu (λa=>(a,Z)) (bt (ar 1) (eg (λx=>some (D.sc (V.int 2))) λx=>some []) Z)).bind λa=>aW (kB K C) a.fst a.snd) λZ=>bu (λd=>(d,Z)) (some (D.sc (V.int 0)))) λZ=>bu (λa=>(a,Z)) (some []))) Z).bind λa=>aW (xn K C) a.fst a.snd) λZ=>some (Fl.nx Z))) (eR (wD C m w) l x2 x3 (some (.ak 6 [0,i])) none) (QR C m w 20):=by
 have hs:=gn (show i < w.ms.length by rw[h.n];exact hi);have hM:=gp (ks:=cu) (a:= .nd .lst (w.way.map aD)) (b:= .nd .lst (w.aT.map gx)) (c:=iD w.rows) (s9 (C:=C) (m:=m) hs);obtain⟨d,l1,a1,b1,nV,e1⟩:=nT (K:=K) (C:=C) l hl 6 (by decide) (by decide);obtain⟨q,hq⟩:∃q:Nat,1 + d=(q:Int):=⟨(1 + d).toNat,by lia⟩
 have p:=KR (W:=wD C m w) (fl:=λx=>some (D.sc (V.int 6))) h2 h3 gi hM rfl e1
 -- mG name of mG aj0 is let go as aj1 as a message is aj2
 refine Ev.O8 (as:= [iD q]) (m:=q) (ρ0:=eR (wD C m w) l1 x2 x3 (some (.ak 6 [0,i])) none) (af.mpr ⟨(iD q,eR (wD C m w) l1 x2 x3 (some (.ak 6 [0,i])) none),qg rfl p (by rw[<- hq];rfl),rfl⟩) (sJ q (by lia)) (λj Z=>∃(w1:bE) (l1:List D) (x4 x5:Option B),Lp l1/\Ww m w1/\ig m w w1/\w1.aT.length<=w.aT.length + j/\(NA x4\/x4=some (.ak 6 [0,i]))/\NA x5/\Z=eR (wD C m w1) l1 x2 x3 x4 x5) ⟨w,l1,_,none,nV,h, .refl _,by lia, .inr rfl,gi,rfl⟩ ?_ ?_
 ·rintro j hj Z ⟨w1,l2,x4,x5,gV,ie,bH,xy,h4,h5,rfl⟩;have W0:wD C m w1= .nd (.az cu) [.nd .lst (dg C m w1.ms), .nd .lst (w1.way.map aD), .nd .lst (w1.aT.map gx),iD w1.rows]:=rfl;have cU:cJ [.nd .lst (w1.way.map aD)]=some (iD w1.way.length):=by simp[cJ]
  refine⟨eR (wD C m w1) l2 x2 x3 x4 (some (.ro (iD j))),by
   unfold eR;generalize wD C m w1=WW;rcases h4 with h4 | rfl
   ·simp[eW h2,eW h3,eW h4,eW h5,aQ,bV,dS,eP]
   ·simp[eW h2,eW h3,eW h5,aQ,bV,dS,eP], ?_⟩
  have rC:((λZ=>bu (λb=>(b,Z)) ((aw (cN λi j=>V.bl (decide (j < i))) (λZ=>(aq (aw (bf aC bx) (ab 0) λx=>some (D.sc (V.str (ae "way")))) (λx=>some []) Z).bind cJ) (λx=>some (D.sc (V.int 0))) Z).bind λx=>match x with | D.sc (V.bl b)=>some b | x=>none))) (eR (wD C m w1) l2 x2 x3 x4 (some (.ro (iD j))))=some (decide (0 < w1.way.length),eR (wD C m w1) l2 x2 x3 x4 (some (.ro (iD j)))):=by
   unfold eR;rw[W0];generalize w1.way.map aD=wy at *;simp[pe,cU,bD,aq,ab,ag,cN,bx,bf,aU,aw,ai]
  by_cases cw:0 < w1.way.length
  ·rw[decide_eq_true cw]at rC;have aeu:i < w1.ms.length:=by rw[ie.n];exact hi
   have aev:=gp (ks:=cu) (a:= .nd .lst (w1.way.map aD)) (b:= .nd .lst (w1.aT.map gx)) (c:=iD w1.rows) (s9 (C:=C) (m:=m) (gn aeu));have hf:=ie.lT;obtain⟨k,l3,a3,b3,lj,e3⟩:=nT (K:=K) (C:=C) l2 gV (w1.way.length:Int) (by lia) (UM (b:=60) (by lia) (by decide));obtain⟨k,rfl⟩:∃k':Nat,k=k':=⟨k.toNat,by lia⟩
   obtain⟨d2,l4,a4,b4,uW,e4⟩:=nT (K:=K) (C:=C) l3 lj 2 (by decide) (by decide);have hk:=gn (show k < w1.way.length by lia);generalize w1.way[k]'(by lia)=g at hk;have mg:=ie.way g (gH hk);have t0:=mg.t0;have t1:=mg.t1;obtain⟨i2,yF⟩:∃i:Nat,g.to=i:=⟨g.to.toNat,by lia⟩
   have uO:i2 < w1.ms.length:=by rw[ie.n];lia
   have pQ:=gn uO;generalize w1.ms[i2]'uO=s at pQ;have eh:=Rq (K:=K) (C:=C) m w1 ie (by lia) h0 hm k (decide (d2=0)) g hk i2 s yF pQ;have call:∀x4,(NA x4\/x4=some (.ak 6 [0,i]))->∃mm,NA mm/\(dZ λZ=>(i7 (ar 0) (fD (λZ=>(bu (λa=>(a,Z)) (bt (ar 1) (eg (λZ=>(aq (aw (bf aC bx) (ab 0) λx=>some (D.sc (V.str (ae "way")))) (λx=>some []) Z).bind cJ) λx=>some []) Z)).bind λa=>aW (kB K C) a.fst a.snd) (fD (kf (bZ id) (λZ=>(bu (λa=>(a,Z)) (bt (ar 1) (eg (λx=>some (D.sc (V.int 2))) λx=>some []) Z)).bind λa=>aW (kB K C) a.fst a.snd) λZ=>bu (λd=>(d,Z)) (some (D.sc (V.int 0)))) λZ=>bu (λa=>(a,Z)) (some []))) Z).bind λa=>aW (xn K C) a.fst a.snd) (eR (wD C m w1) l2 x2 x3 x4 (some (.ro (iD j))))=some (.nx (eR (wD C m (w1.told (decide (d2=0)) k g i2 m s)) l4 x2 x3 mm (some (.ro (iD j))))):=λx4 h4=>by
    rcases h4 with h4 | rfl
    ·exact⟨x4,h4,aer h2 h3 h4 kl W0 cU e3 e4 eh⟩
    ·exact⟨none,gi,aes h2 h3 kl W0 cU aev e3 e4 eh⟩
   obtain⟨mm,KQ,ec⟩:=call x4 h4;exact Ev.oS rC ⟨_,ec,w1.told (decide (d2=0)) k g i2 m s,l4,mm,_,uW,ie.told hm hk pQ,bH.trans (.one (.bI w1 (decide (d2=0)) k g i2 s hk yF pQ)),by rw[Qn];lia, .inl KQ,kl,rfl⟩
  ·rw[decide_eq_false cw]at rC;exact Ev.o6 rC ⟨_,rfl,w1,l2,x4,_,gV,ie,bH,by lia,h4,kl,rfl⟩
 ·rintro Z ⟨w1,l2,x4,x5,gV,ie,bH,xy,h4,h5,rfl⟩;exact⟨w1,l2,x2,x3,x4,x5,gV,ie,bH,by lia,rfl⟩
theorem aew(m:Nat)(h0:0 < m)(hm:m < 40)(w:bE)(h:Ww m w)(hz:w.aT.length<=300)(l:List D)(hl:Lp l):
  ∃(w':bE) (l':List D),Lp l'/\Ww m w'/\ig m w w'/\w'.aT.length<=w.aT.length + 130/\Dj K C [wD C m w, .nd .lst l]=some (.sc .aE, [wD C m w', .nd .lst l']):=by
 have key:∃d o,Dj K C [wD C m w, .nd .lst l]=some (d,o)/\∃(w':bE) (l':List D),Lp l'/\Ww m w'/\ig m w w'/\w'.aT.length<=w.aT.length + 130/\d= .sc .aE/\o= [wD C m w', .nd .lst l']:=by
  unfold Dj Jl;dsimp only;have e0:bM 6 [true,true] [wD C m w, .nd .lst l]=eR (wD C m w) l none none none none:=by
   unfold eR;generalize wD C m w=WW;simp[gC,bM,aV,bc,bU]
  refine Dp ?_;rw[e0];refine Ev.mono (Q:=QR C m w 130) ?_ λfl q=>by
   cases fl with
   |nx Z=>
    obtain⟨w',l',x2,x3,x4,x5,ip,AJ,st,oJ,rfl⟩:=q;exact⟨[wD C m w', .nd .lst l'],by unfold eR;generalize wD C m w'=WW;simp[cg],w',l',ip,AJ,st,oJ,rfl,rfl⟩
   |rt _ _=>exact q.elim
   |bk _=>exact q.elim
   |ct _=>exact q.elim
  have W0:wD C m w= .nd (.az cu) [.nd .lst (dg C m w.ms), .nd .lst (w.way.map aD), .nd .lst (w.aT.map gx),iD w.rows]:=rfl;have AH:cJ [.nd .lst (dg C m w.ms)]=some (iD m):=by simp[cJ,DC,h.n]
  obtain⟨rd,l1,a1,b1,nV,e1⟩:=nT (K:=K) (C:=C) l hl 12 (by decide) (by decide);obtain⟨d2,l2,a2,b2,gV,e2⟩:=nT (K:=K) (C:=C) l1 nV (m:Int) (by lia) (UM (b:=40) (by lia) (by decide));obtain⟨i,rfl⟩:∃i:Nat,d2=i:=⟨d2.toNat,by lia⟩
  have hi:i < m:=by lia
  have hs:=gn (show i < w.ms.length by rw[h.n];exact hi);generalize w.ms[i]'(by rw[h.n];exact hi)=s at hs;have ws:=h.ms s (gH hs);obtain⟨i1,i2⟩:=AF (C:=C) (m:=m) hs;have i3:=s9 (C:=C) (m:=m) hs;have pM:=rB (C:=C) m i s;refine Ev.nx (ρ':=eR (wD C m w) l1 (some (.own (iD rd))) none none none) (qf (DE (W:=wD C m w) (fl:=λx=>some (D.sc (V.int 12))) gi gi gi gi rfl e1) (by
   unfold eR;generalize wD C m w=WW;simp[aQ,bV,dS,df,eP])) ?_
  refine Ev.nx (ρ':=eR (wD C m w) l2 (some (.own (iD rd))) (some (.own (iD i))) none none) (qf (DE (W:=wD C m w) (fl:=λZ=>(aq (aw (bf aC bx) (ab 0) λx=>some (D.sc (V.str (ae "masters")))) (λx=>some []) Z).bind cJ) i8 gi gi gi (by
   rw[W0];unfold eR;generalize dg C m w.ms=MM at *;simp[sZ,AH,bD,aq,ab,ag,bx,bf,aU,aw,ai]) e2) (by
   unfold eR;generalize wD C m w=WW;simp[aQ,bV,dS,df,eP])) ?_
  refine Ev.nx (ρ':=eR (wD C m w) l2 (some (.own (iD rd))) (some (.own (iD i))) (some (.ak 6 [0,i])) none) (by
   rw[W0];unfold eR;generalize cE C m i s=M at *;simp[sZ,i1,i3,pM,uh,bD,aQ,ab,ag,dk,eO,aU,b6,iy,ar,VL.plain,aK,ai,bV,dS,df,eP]) ?_
  have cmp:∀(x4:Option B) (W:D) (l:List D) (k:Int),((λZ=>bu (λb=>(b,Z)) ((aw (cN λi j=>V.bl (decide (i < j))) (ab 2) (λx=>some (D.sc (V.int k))) Z).bind λx=>match x with | D.sc (V.bl b)=>some b | x=>none)):En->Option (Bool×En)) (eR W l (some (.own (iD rd))) (some (.own (iD i))) x4 none)=some (decide (rd < k),eR W l (some (.own (iD rd))) (some (.own (iD i))) x4 none):=λx4 W l k=>by
   unfold eR;simp[bD,ab,cN,aw]
  have DF:∀(x4:Option B) (W:D) (l:List D) (k:Int),((λZ=>bu (λb=>(b,Z)) ((aw (cN λi j=>V.bl (decide (j < i))) (ab 2) (λx=>some (D.sc (V.int k))) Z).bind λx=>match x with | D.sc (V.bl b)=>some b | x=>none)):En->Option (Bool×En)) (eR W l (some (.own (iD rd))) (some (.own (iD i))) x4 none)=some (decide (k < rd),eR W l (some (.own (iD rd))) (some (.own (iD i))) x4 none):=λx4 W l k=>by
   unfold eR;simp[bD,ab,cN,aw]
  have xA:∀(x4:Option B) (W:D) (l:List D) (k:Int),((λZ=>bu (λb=>(b,Z)) ((aw (bZ id) (ab 2) (λx=>some (D.sc (V.int k))) Z).bind λx=>match x with | D.sc (V.bl b)=>some b | x=>none)):En->Option (Bool×En)) (eR W l (some (.own (iD rd))) (some (.own (iD i))) x4 none)=some (decide (rd=k),eR W l (some (.own (iD rd))) (some (.own (iD i))) x4 none):=λx4 W l k=>by
   unfold eR;simp[kj,bD,ab,aw]
  have tr:∀{b:Prop} [Decidable b] {x:Option (Bool×En)} {ρ1:En},x=some (decide b,ρ1)->b->x=some (true,ρ1):=λ{b _ x ρ1} h hb=>by rw[h,decide_eq_true hb]
  have fa:∀{b:Prop} [Decidable b] {x:Option (Bool×En)} {ρ1:En},x=some (decide b,ρ1)->¬ b->x=some (false,ρ1):=λ{b _ x ρ1} h hb=>by rw[h,decide_eq_false hb]
  by_cases c4:rd < 4
  ·refine Ev.oS (tr (cmp _ _ _ _) c4) ?_
   -- rise
   have wr:=Jt ws (LX i) (by lia:(i:Int) < m);have er:=acz (K:=K) (C:=C) m i s ws.wf.rows (bO ws.wf.len (by lia)) h0 (by lia);have uX:∀g∈j0 m i (rise m i s).te,la m 900 g:=Qj (by lia) (by lia);have en:=AG (K:=K) (C:=C) m { w with ms:=w.ms.set i (rise m i s) } i "rise" (.sc .aE) (some (j0 m i (rise m i s).te)) (rise m i s) (by show(w.ms.set i _)[i]?=_;exact eY (bW.mp hs).1) wr.wf.rows (bO wr.wf.len (by lia)) rfl (λl hl=>by
    cases hl;exact⟨λg hg=>(uX g hg).ok,by unfold j0;rw[eS];exact bO (uM _ _) (by lia)⟩) ⟨λg hg=>((h.way g hg).mono (by lia)).ok,h.lT⟩ (by show w.aT.length<=900;lia)
   have ph:ir (.nd .lst ((j0 m i (rise m i s).te).map aD))=g8 (some (j0 m i (rise m i s).te)):=by
    show(if _ then _ else _)=_;rw[if_pos (qi λg hg=>(uX g hg).ok)];rfl
   rw[<- ph]at en;have po:VL.plain (ir (.nd .lst ((j0 m i (rise m i s).te).map aD)))=true:=by rw[ph];exact xt (b:=900) λl hl g hg=>by cases hl;exact(uX g hg).ok
   have ho:jX C "rise" (cE C m i s)=true:=wU (by decide +kernel) _ _ _ _ _ _ _ _ _;have ec:=aeh (C:=C) (GR:=Ao K C) (GN:=rm K C) (ks:=cu) (l:=l2) (x2:=some (.own (iD rd))) (x5:=none) i8 gi i3 (DD m w.ms i (rise m i s)) pM (rB m i _) ho er po en;have sw:Step m w (w.note i "rise" (.sc .aE) (some (j0 m i (rise m i s).te)) (rise m i s)):= .rise w i s hs;have ie:=Step.ww hm sw h;refine Ev.nx ec ?_;by_cases c0:0 < rd
   ·refine Ev.oS (tr (DF _ _ _ _) c0) ?_;obtain⟨w2,l3,lj,pj,cf,kY,e3⟩:=KN (K:=K) (C:=C) m h0 hm _ ie (by rw[uP];lia) "stand" "voice" (decide (rd=1)) l2 gV;exact⟨_,aej i8 gi gi e3,w2,l3,_,_,_,_,lj,pj, .cons sw cf,by rw[uP]at kY;lia,rfl⟩
   ·refine Ev.o6 (fa (DF _ _ _ _) c0) ⟨_,rfl,_,l2,_,_,_,_,gV,ie, .one sw,by rw[uP];lia,rfl⟩
  ·refine Ev.o6 (fa (cmp _ _ _ _) c4) ?_;by_cases c8:rd < 8
   ·refine Ev.oS (tr (cmp _ _ _ _) c8) ?_;obtain⟨w1,l3,lj,ie,bH,xy,e3⟩:=aeg (K:=K) (C:=C) m h0 hm w h (by lia) l2 gV;refine Ev.nx (aem i8 i8 gi e3) ?_;by_cases c5:4 < rd
    ·refine Ev.oS (tr (DF _ _ _ _) c5) ?_;obtain⟨w2,l4,uW,pj,cf,kY,e4⟩:=KN (K:=K) (C:=C) m h0 hm w1 ie (by lia) "keep" "kept" (decide (rd=5)) l3 lj;exact⟨_,aek i8 gi gi e4,w2,l4,_,_,_,_,uW,pj,bH.trans cf,by lia,rfl⟩
    ·exact Ev.o6 (fa (DF _ _ _ _) c5) ⟨_,rfl,w1,l3,_,_,_,_,lj,ie,bH,by lia,rfl⟩
   ·refine Ev.o6 (fa (cmp _ _ _ _) c8) ?_;by_cases d8:rd=8
    ·refine Ev.oS (tr (xA _ _ _ _) d8) ?_;have wr:=Ju ws;have er:=acM (K:=K) (C:=C) m i s;have en:=AG (K:=K) (C:=C) m { w with ms:=w.ms.set i (kC s) } i "fall" (.sc .aE) (some []) (kC s) (by show(w.ms.set i _)[i]?=_;exact eY (bW.mp hs).1) wr.wf.rows (bO wr.wf.len (by lia)) rfl (λl hl=>by
      cases hl;exact⟨(λ_ h=>nomatch h),by decide⟩) ⟨λg hg=>((h.way g hg).mono (by lia)).ok,h.lT⟩ (by show w.aT.length<=900;lia)
     have ho:jX C "fall" (cE C m i s)=true:=wU (by decide +kernel) _ _ _ _ _ _ _ _ _;have ec:=aei (C:=C) (GR:=Ax K C) (GN:=rm K C) (ks:=cu) (l:=l2) (x2:=some (.own (iD rd))) (x5:=none) i8 gi i3 (DD m w.ms i (kC s)) pM (rB m i _) ho er rfl en;have sw:Step m w (w.note i "fall" (.sc .aE) (some []) (kC s)):= .sW w i s hs;exact⟨_,ec,_,l2,_,_,_,_,gV,Step.ww hm sw h, .one sw,by rw[uP];lia,rfl⟩
    ·refine Ev.o6 (fa (xA _ _ _ _) d8) ?_;by_cases d9:rd=9
     ·refine Ev.oS (tr (xA _ _ _ _) d9) ?_;obtain⟨j,l3,hj,lj,e3⟩:=RA (K:=K) (C:=C) m h0 hm w h l2 gV;have hM:=gp (ks:=cu) (a:= .nd .lst (w.way.map aD)) (b:= .nd .lst (w.aT.map gx)) (c:=iD w.rows) i3;refine Ev.nx (aen i8 i8 gi (RD m w) hM e3) ?_;have uY:=gn (show j < w.ms.length by rw[h.n];exact hj);generalize w.ms[j]'(by rw[h.n];exact hj)=sj at uY;have DG:=h.ms sj (gH uY);obtain⟨j1,j2⟩:=AF (C:=C) (m:=m) uY;have es:=acL (K:=K) (C:=C) m j sj (DG.wf.mono (by lia)) (by lia);have uX:∀g∈sends m j sj,la m w.aT.length g:=Qk DG (by lia) (by lia);have aex:(sends m j sj).length<=100:=by
       unfold sends
       split
       ·unfold keeps;rw[eS];exact bO (uM _ _) (by lia)
       ·exact j8 _
      have aey:w.ms.set j sj=w.ms:=by
       obtain⟨hh,e⟩:=bW.mp uY;rw[<- e];exact List.set_getElem_self hh
      have en:=AG (K:=K) (C:=C) m w j "send" (.sc .aE) (some (sends m j sj)) sj uY DG.wf.rows (bO DG.wf.len (by lia)) rfl (λl hl=>by
       cases hl;exact⟨λg hg=>((uX g hg).mono (by lia)).ok,aex⟩) ⟨λg hg=>((h.way g hg).mono (by lia)).ok,h.lT⟩ (by lia)
      have aez:bE.xu w j "send" (.sc .aE) (some (sends m j sj)) sj=w.note j "send" (.sc .aE) (some (sends m j sj)) sj:=by
       unfold bE.xu bE.note;rw[aey]
      rw[aez]at en;have ph:ir (.nd .lst ((sends m j sj).map aD))=g8 (some (sends m j sj)):=by
       show(if _ then _ else _)=_;rw[if_pos (qi λg hg=>(uX g hg).ok)];rfl
      rw[<- ph]at en;have po:VL.plain (ir (.nd .lst ((sends m j sj).map aD)))=true:=by rw[ph];exact xt λl hl g hg=>by cases hl;exact(uX g hg).ok
      have ho:jX C "send" (cE C m j sj)=true:=wU (by decide +kernel) _ _ _ _ _ _ _ _ _;have ec:=aeo (C:=C) (GS:=sV K C) (GN:=rm K C) (ks:=cu) (l:=l3) (j:=i) (x2:=some (.own (iD rd))) (x5:=none) i8 gi (λx=>sZ x _ _ _) j1 j2 (s9 uY) (rB m j sj) ho es po en;have sw:Step m w (w.note j "send" (.sc .aE) (some (sends m j sj)) sj):= .send w j sj uY;have ie:=Step.ww hm sw h;refine Ev.nx ec ?_;obtain⟨w2,l4,uW,pj,cf,kY,e4⟩:=KN (K:=K) (C:=C) m h0 hm _ ie (by rw[uP];lia) "keep" "kept" false l3 lj;exact⟨_,ael i8 i8 gi gi e4,w2,l4,_,_,_,_,uW,pj, .cons sw cf,by rw[uP]at kY;lia,rfl⟩
     ·refine Ev.o6 (fa (xA _ _ _ _) d9) ?_;by_cases RE:rd=10
      ·refine Ev.oS (tr (xA _ _ _ _) RE) ?_;obtain⟨k,l3,a3,b3,lj,e3⟩:=nT (K:=K) (C:=C) l2 gV 20 (by decide) (by decide);obtain⟨k,rfl⟩:∃k':Nat,k=k':=⟨k.toNat,by lia⟩
       have hc:zE (.nd .lst (w.way.map aD)) (iD k)=some (.nd .lst ((w.way.drop k).map aD)):=by
        have p:VL.aK (w.way.map aD)=true:=qi λg hg=>(h.way g hg).ok;have c:=AA (w.way.map aD) k;rw[UL];generalize w.way.map aD=wy at *;simp[zE,iJ,p,c]
       have ec:=aep (b:= .nd .lst (w.aT.map gx)) (c:=iD w.rows) (x2:=some (.own (iD rd))) (x3:=some (.own (iD i))) (x5:=none) i8 i8 gi i3 e3 hc;have sw:Step m w { w with way:=w.way.drop k }:= .drop w _ (λg hg=>LN hg) (by rw[xR];lia);exact⟨_,ec,_,l3,_,_,_,_,lj,Step.ww hm sw h, .one sw,by show w.aT.length<=_;lia,rfl⟩
      ·refine Ev.o6 (fa (xA _ _ _ _) RE) ?_;exact Ev.mono (aet m h0 hm w h (by lia) _ _ i8 i8 i hi l2 gV) λfl q=>by
        cases fl with
        |nx Z=>
         obtain⟨w',l',x2,x3,x4,x5,ip,AJ,st,oJ,e⟩:=q;exact⟨w',l',x2,x3,x4,x5,ip,AJ,st,by lia,e⟩
        |rt _ _=>exact q.elim
        |bk _=>exact q.elim
        |ct _=>exact q.elim
 obtain⟨d,o,e,w',l',h1,h2,h3,h4,rfl,rfl⟩:=key;exact⟨w',l',h1,h2,h3,h4,e⟩
variable [dW K C]
def w0(m:Nat):bE:=⟨gC m s0, [], [],0⟩
theorem DH(m:Nat):Ww m (w0 m):=by
 refine⟨by simp[w0],λs hs=> ?_,(λ_ h=>nomatch h),j8 _,(λ_ h=>nomatch h)⟩;rw[ahj hs];exact⟨⟨cQ.nil,j8 _, .inl rfl,LL,j8 _,(λ_ h=>nomatch h),LL,j8 _⟩,(λ_ h=>nomatch h),λ_ h=>nomatch h⟩
theorem aeA(m:Nat):dg C m (w0 m).ms=(jJ m).map λi:Nat=>cE C m (i:Int) s0:=by
 refine D6 λj=> ?_;unfold dg w0;rw[tM,dF];by_cases h:j < m
 ·rw[xP,if_pos h,A4 h];rfl
 ·rw[xP,if_neg h,tK (by simp;lia)];rfl
theorem aeB(m:Nat)(hm:m < 100)(a b:D)(hn:∀f∈dY,iU K C f):(ji 3 [none,some 2] [0] (λZ=>(aq (ab 2) (λx=>some []) Z).bind lY) (λd Z=>some (aQ 0 (B.ro d) Z)) (λx=>some true) (B6 (sT K C) C 2 (aq (ab 0) (aq (ab 1) λx=>some [])))) [some (.ro a),some (.own b),some (.own (iD m))]=some (.nd .lst (dg C m (w0 m).ms)):=by
 have e:=me (n:=3) (js:= [none,some 2]) (is:= [0]) (fi:=(λZ=>(aq (ab 2) (λx=>some []) Z).bind lY)) (fg:=(λd Z=>some (aQ 0 (B.ro d) Z))) (ft:=(λx=>some true)) (fe:=(B6 (sT K C) C 2 (aq (ab 0) (aq (ab 1) λx=>some [])))) (Z:= [some (.ro a),some (.own b),some (.own (iD m))]) (jJ m) (λi=>iD i) (λ_=>true) (λi:Nat=>cE C m (i:Int) s0) ?_ (by rw[A5];exact bO (by lia:m<=100) (by decide)) rfl ?_
 ·rw[xV.mpr (λ_ _=>rfl)]at e;rw[aeA];exact e
 ·refine af.mpr ⟨[iD m], ?_, ?_⟩
  ·simp[bD,aq,ab]
  ·rw[sJ _ hm,zB]
 ·intro i hi;have hi:sT K C [.nd (.obj C []) [],iD i,iD m]=some (.sc .aE, [cE C m (i:Int) s0]):=ab7 (K:=K) (C:=C) i m hn;generalize cE C m (i:Int) s0=M at *;generalize sT K C=GI at *;simp[hi,bD,aQ,fW,aq,ab,yT,B6,bV,du,df]
theorem aeC(m:Nat):zD (oU (λx=>some (D.sc (V.str (ae "masters")))) (λ_=>some (.nd .lst (dg C m (w0 m).ms))) (oU (λx=>some (D.sc (V.str (ae "way")))) (cM Kd.lst λx=>some []) (oU (λx=>some (D.sc (V.str (ae "story")))) (cM Kd.lst λx=>some []) (oU (λx=>some (D.sc (V.str (ae "rows")))) (λx=>some (D.sc (V.int 0))) λx=>some ([], []))))) []=some (wD C m (w0 m)):=by
 have hk:qm [sD "masters",sD "way",sD "story",sD "rows"]=some cu:=by simp[qm,cG,cu]
 have hc:cu.Nodup/\cu.length=4/\cu.length<=15:=⟨KH,rfl,by decide⟩
 generalize hM:dg C m (w0 m).ms=MM;have e:oU (λx=>some (D.sc (V.str (ae "masters")))) (λ_=>some (.nd .lst MM)) (oU (λx=>some (D.sc (V.str (ae "way")))) (cM Kd.lst λx=>some []) (oU (λx=>some (D.sc (V.str (ae "story")))) (cM Kd.lst λx=>some []) (oU (λx=>some (D.sc (V.str (ae "rows")))) (λx=>some (D.sc (V.int 0))) λx=>some ([], [])))) []=some ([sD "masters",sD "way",sD "story",sD "rows"], [.nd .lst MM, .nd .lst [], .nd .lst [],iD 0]):=by
  simp[oU,cM]
 unfold zD;refine af.mpr ⟨_,e,af.mpr ⟨cu,hk, ?_⟩⟩;refine(if_pos hc).trans ?_;unfold wD;rw[hM];rfl
theorem aeD(d:Int)(h0:0<=d)(h8:d < 8):∃m:Nat,0 < m/\m<=7/\ki aC bx (.nd .lst [iD 1,iD 2,iD 3,iD 3,iD 4,iD 5,iD 6,iD 7]) (iD d)=some (iD m):=by
 have:d=0\/d=1\/d=2\/d=3\/d=4\/d=5\/d=6\/d=7:=by lia
 rcases this with rfl | rfl | rfl | rfl | rfl | rfl | rfl | rfl
 ·exact⟨1,by decide,by decide,by simp[dC,d7,ki,aC,bf,aU,VL.plain]⟩
 ·exact⟨2,by decide,by decide,by simp[dC,d7,ki,aC,bf,aU,VL.plain]⟩
 ·exact⟨3,by decide,by decide,by simp[dC,d7,ki,aC,bf,aU,VL.plain]⟩
 ·exact⟨3,by decide,by decide,by simp[dC,d7,ki,aC,bf,aU,VL.plain]⟩
 ·exact⟨4,by decide,by decide,by simp[dC,d7,ki,aC,bf,aU,VL.plain]⟩
 ·exact⟨5,by decide,by decide,by simp[dC,d7,ki,aC,bf,aU,VL.plain]⟩
 ·exact⟨6,by decide,by decide,by simp[dC,d7,ki,aC,bf,aU,VL.plain]⟩
 ·exact⟨7,by decide,by decide,by simp[dC,d7,ki,aC,bf,aU,VL.plain]⟩
theorem aeE(cs:List Int)(hn:∀f∈dY,iU K C f):∃m:Nat,0 < m/\m<=7/\CT K C [iK cs]=some (wD C m (w0 m)):=by
 obtain⟨l,hl,e1⟩:=Rw (K:=K) (C:=C) cs 0 (by decide);obtain⟨d,l',a1,b1,ip,e2⟩:=nT (K:=K) (C:=C) l hl 8 (by decide) (by decide);obtain⟨m,h0,h7,AI⟩:=aeD d a1 b1;refine⟨m,h0,h7, ?_⟩;have aeF:=aeB (K:=K) (C:=C) m (by lia) (iK cs) (.nd .lst l') hn;have hd:=aeC (C:=C) m;unfold CT Iy;dsimp only;refine zf (ρ':= [some (.ro (iK cs)),some (.own (.nd .lst l')),some (.own (iD m))]) (fT (ρ':= [some (.ro (iK cs)),some (.own (.nd .lst l)),none]) ?_ (fT (ρ':= [some (.ro (iK cs)),some (.own (.nd .lst l')),some (.own (iD m))]) (qf (ρ1:= [some (.ro (iK cs)),some (.own (.nd .lst l')),none]) (qg (a:= .nd .lst [iD 1,iD 2,iD 3,iD 3,iD 4,iD 5,iD 6,iD 7]) (b:=iD d) (ρ1:= [some (.ro (iK cs)),some (.own (.nd .lst l)),none]) ?_ ?_ AI) ?_) (nO (kZ ?_))))
 ·have e1:w6 K C [iK cs,iD 0]=some (.nd .lst l):=e1;generalize w6 K C=GL at *;simp[gC,e1,fP,bD,aQ,aq,ab,bV,du,df]
 ·simp[aq,cM,ZN]
 ·generalize kB K C=GP at *;simp[e2,eF,e7,dO,bG,bt,eg,aW,b8,ag,bN,ar,aZ,bT,dt,ai,bS,cb,aG]
 ·simp[aQ,bV,dS,du,df]
 ·unfold zD at hd |-;obtain⟨p,hp,hq⟩:=af.mp hd;refine af.mpr ⟨p, ?_,hq⟩;obtain⟨k0,aeG,hp⟩:=af.mp hp;obtain⟨v0,aeH,hp⟩:=af.mp hp;exact af.mpr ⟨k0,aeG,af.mpr ⟨v0,by rw[<- aeH];exact aeF,hp⟩⟩
theorem nW:eE ["_law_script","_law_world","_law_many","_law_k","_law_plain_here","_law_m","_law_deed","_law_what","_law_told","_law_then","_law_due","_law_parts"] ["_law_script"] (cW wZ):=fK
section
variable (P:Program)(w:World)(K:aj)(mg:Str->Option Value)(base:Heap)(Cm:Addr)[dW K Cm]
def KY: {g:oG K Cm // ∀{P w mg base f fd},ee K "law" "law" wZ f fd->d5 mg->aa7 P w K mg base Cm->abq P w K mg base Cm->PM P w K mg base Cm->aa8 P w K mg base Cm->abc P w K mg base Cm->cz P w K mg base cX 15 f fd ["_law_script"] (eU K 1 (dN 12 g))}:=⟨_,λF T KZ K0 w9 K5 K6=>ml F nW λ_ _ _ _ _ _ hr=>(aY (gO 1 nW.nd (b9 KZ hr rfl (fL (pv 0))))
  (aY (gO 2 nW.nd (pln T.g7 (pxx hr (pv 1) aJ)))
  (aY (qF tL rfl (Mm rfl T.oV (bz aX (kQ (r:=uq) (yN rfl) rfl T.sS vq (bz aX (pln T.g7 (pv 0)))))) (gR 3 nW.nd)
   (di (eM (cT rT (pln T.g7 (pxx hr (pv 1) aJ)) aX)
   (di (iE (b9 K0 hr rfl (bz (pv 1) (b9 w9 hr rfl (bz (pv 0) (pv 3))))))) fN)))
  (aY (gO 4 nW.nd (p5 [none] ["_law_number"] rfl (md trivial) (qE rfl T.oV (fL (pv 2))) (λ_ _ _ _ _ _=>(gR 0 BW)) (λ_ _ _ _ _ _=>sh) (λ_ _ _ _ _ _=>(b9 K5 hr rfl (fL (pv 0))))))
  (aY (qF tL rfl (sQ (pxx hr (pv 1) aJ)) (qX (K:=K) rfl (n:=5) rfl (iP (gR 5 nW.nd) (iP (gR 6 nW.nd) (iP (gR 7 nW.nd) (iP (gR 8 nW.nd) (iP (gR 9 nW.nd) qB))))))
   (aY (gO 10 nW.nd (b9 K6 hr rfl (bh (pxx hr (pv 4) (pv 5)) (bh (pv 2) (bz (pv 6) (pv 7))))))
  (aY (BF (k:=11) [none,some 4,some 5] ["_law_part","_law_plain_here","_law_m"] rfl (md ⟨⟨rfl,rfl, .inl rfl⟩,⟨⟨rfl,rfl, .inl rfl⟩,trivial⟩⟩) nW.nd rfl (vm rfl) (sQ (gu (bh aJ (bh aJ (bh aJ (bz aJ aJ)))))) (λ_ _ _ _ _ _=>(gR 0 (by decide +kernel:(["_law_part","_law_plain_here","_law_m"]:List Str).Nodup))) (λ_ _ _ _ _ _=>sh) (λ_ _ _ _ _ _=>(pxx hr (pxx hr (pv 1) (pv 2)) (pv 0))))
  (di (eM (PW.pt (yf (cT (one hr.units) (pv 8) (pv 10)) (ye (cT (one hr.units) (pv 9) (Ad T.sR (pv 11))))))
   (e8 vA) fN)))))
  (e8 vA))))))⟩
def K7:List D->Option D:=dN 12 (KY K Cm).1
end
end K31
namespace WM
open PySem L2 VL
inductive uZ(m:Nat):List MS->Nat->List nY->Prop
 |nil (ms:List MS) (n:Nat):uZ m ms n []
 |cons {ms:List MS} {n i:Nat} {s:MS} {e:nY} {es:List nY}:ms[i]?=some s->i < m->Wg m n s->Jm m n ms i s->o9 m n ms i s e->uZ m (ms.set i e.st) (n + 1) es->uZ m ms n (e::es)
theorem pA.fwd(r:pA m ms0 st ms):∀es,uZ m ms st.length es->uZ m ms0 0 (st++es):=by
 induction r with
 |nil=>exact λes h=>h
 |snoc r hs hi w j d ih=>
  intro es h;rw[dI];refine ih _ ?_;rw[cc,ng]at h;exact .cons hs hi w j d h
theorem pA.all(r:pA m ms0 st ms):uZ m ms0 0 st:=by
 have h:=r.fwd [] (.nil _ _);rw[fE]at h;exact h
theorem o9.wg(hm:m < 40)(hi:i < m)(w:Wg m b s)(d:o9 m b ms i s e):Wg m (b + 1) e.st:=by
 cases d with
 |bI g fq k jg=>exact(Jv (nu:=i) w k (by lia)).mono (je _)
 |rise=>exact(Jt w (by lia) (by lia)).mono (je _)
 |add r hr=>exact Dn (nu:=i) w hr
 |sW=>exact(Ju w).mono (je _)
 |send=>exact w.mono (je _)
def iY(ms:List MS):List D:=ms.mapIdx λi s=>aO i s
theorem aeI:(iY ms).length=ms.length:=by unfold iY;rw[D5]
theorem aeJ{ms:List MS}{i:Nat}{s:MS}(h:ms[i]?=some s):(iY ms)[i]?=some (aO i s):=by
 unfold iY;rw[tM,h];rfl
theorem aeK(ms:List MS)(i:Nat)(s:MS):(iY ms).set i (aO i s)=iY (ms.set i s):=by
 refine D6 λj=> ?_;unfold iY;rw[tM];by_cases c:i=j
 ·subst c;by_cases h:i < ms.length
  ·rw[eY (by rw[D5];exact h),eY h];rfl
  ·rw[tK (by simp;lia),tK (by simp;lia)];rfl
 ·rw[gm c,gm c,tM]
theorem RF{ms:List MS}{i:Nat}{s:MS}(h:ms[i]?=some s):aC (.nd .lst (iY ms)) (iD i)=some i/\aU (.nd .lst (iY ms)) i=some (aO i s):=by
 have hi:i < (iY ms).length:=by rw[aeI];exact(bW.mp h).1
 have e1:dC (.nd .lst (iY ms)) (iD i)=some i:=by
  have h0:¬ (i:Int) < 0:=by lia
  simp[dC,d7,hi,h0]
 exact⟨by unfold aC;rw[e1],aeJ h⟩
theorem aeL(m:Nat):iY (gC m s0)=(jJ m).map λi:Nat=>aO (i:Int) s0:=by
 refine D6 λj=> ?_;unfold iY;rw[tM,dF];by_cases h:j < m
 ·rw[xP,if_pos h,A4 h];rfl
 ·rw[xP,if_neg h,tK (by simp;lia)];rfl
theorem Ev.kz{fg:D->En->Option En}{fb:En->Option Fl}{Q:Fl->Prop}(P:Nat->En->Prop)(cs:List D)(hN:cs.length=N)(hr:∀j Z,P j Z->ab M Z=some (.nd .lst cs))
  (st:∀j d,cs[j]?=some d->∀Z,P j Z->VL.plain d=true/\∃ρ1,fg d Z=some ρ1/\Ev fb ρ1 λfl=>match fl with | .nx ay=>P (j + 1) ay | _=>False)
  (dD:∀Z,P N Z->Q (.nx Z)):∀(k j:Nat),k + j=N->∀Z,P j Z->Ev (VL.kz M fg fb k j) Z Q:=by
 intro k
 induction k with
 |zero=>
  intro j hj Z p;obtain rfl:j=N:=by lia
  have h:=hr j Z p;refine⟨.nx Z, ?_,dD Z p⟩;unfold VL.kz;rw[h];show(if cs.length<=j then some (Fl.nx Z) else none)=_;rw[if_pos (by lia)]
 |succ k ih=>
  intro j hj Z p;have h:=hr j Z p;have sN:j < cs.length:=by lia
  have hd:=gn sN;obtain⟨pl,ρ1,h1,fl,h2,q⟩:=st j _ hd Z p;cases fl with
  |nx ay=>
   obtain⟨aeM,h3,q'⟩:=ih (j + 1) (by lia) ay q;refine⟨aeM, ?_,q'⟩;rw[VL.kz,h];show(cs[j]?).bind _=_;rw[hd];show(if VL.plain cs[j]=true then _ else none)=_;rw[if_pos pl];refine af.mpr ⟨ρ1,h1,af.mpr ⟨.nx ay,h2,h3⟩⟩
  |rt _ _=>exact q.elim
  |bk _=>exact q.elim
  |ct _=>exact q.elim
end WM
namespace K31
open PySem L2 VL WM
variable [dW K C]
theorem aeN(a b:Nat)(hb:b < 100)(ha:a < 100):yP [iD a,iD b]=some (ia a (b - a)):=by
 have e:yP [iD a,iD b]=if -(2 ^ 62)<=(a:Int)/\(a:Int) < 2 ^ 62/\ -(2 ^ 62)<=(b:Int)/\(b:Int) < 2 ^ 62 then some (ia a ((b:Int) - a).toNat) else none:=rfl;rw[e,if_pos ⟨by lia,by lia,by lia,by lia⟩,show((b:Int) - a).toNat=b - a by lia]
def eV(c W:D)(m:Nat)(P:List D)(x3 x5 x6 x7 x8 x9 lJ jN:Option B):En:= [some (.ro c),some (.own W),some (.own (iD m)),x3,some (.own (.nd .lst P)),x5,x6,x7,x8,x9,lJ,jN,some (.ak 1 [2])]
theorem aeO(h3:NA x3)(h5:NA x5)(h6:NA x6)(h7:NA x7)(h8:NA x8)(h9:NA x9)(m7:NA lJ)(nX:NA jN):(q0 5 (jW (λd Z=>some (aQ 5 (B.ro d) Z)) (jW (λd Z=>some (aQ 6 (B.ro d) Z)) (jW (λd Z=>some (aQ 7 (B.ro d) Z)) (jW (λd Z=>some (aQ 8 (B.ro d) Z)) (jW (λd Z=>some (aQ 9 (B.ro d) Z)) λds Z=>match ds with | []=>some Z | x=>none)))))) (.nd .tup [a,b,d,t,z]) (eV c W m P x3 x5 x6 x7 x8 x9 lJ jN)=some (eV c W m P x3 (some (.ro a)) (some (.ro b)) (some (.ro d)) (some (.ro t)) (some (.ro z)) lJ jN):=by
 unfold eV;simp[eW h3,eW h5,eW h6,eW h7,eW h8,eW h9,eW m7,eW nX,aQ,jW,q0,bV,dS,du,eP]
theorem aeP{GD:List D->Option (D×List D)}{c W b d t z st p p' r:D}{m i:Nat}{P:List D}{x3 lJ jN:Option B}(h3:NA x3)(m7:NA lJ)(nX:NA jN)(hW:ag W [2]=some st)(e1:aC (.nd .lst P) (iD i)=some i)(e2:P[i]?=some p)(e:GD [p,iD m,b,d]=some (r, [p']))(pb:VL.plain b=true)(pd:VL.plain d=true):(fP 10 λZ=>(bu (λa=>(a,Z)) (bt (eO aC (ar 4) (ab 5)) (dR (ar 2) (dR (ar 6) (dR (ar 7) λx=>some []))) Z)).bind λa=>aW GD a.fst a.snd) (eV c W m P x3 (some (.ro (iD i))) (some (.ro b)) (some (.ro d)) (some (.ro t)) (some (.ro z)) lJ jN)=some (.nx (eV c W m (P.set i p') x3 (some (.ro (iD i))) (some (.ro b)) (some (.ro d)) (some (.ro t)) (some (.ro z)) (some (.own r)) jN)):=by
 unfold eV;simp[e,e1,e2,hW,pb,pd,iL,eW h3,dP h3,eW m7,dP m7,eW nX,dP nX,e7,dO,bG,fP,bD,aQ,bt,dR,aW,ab,b8,ag,bN,dk,eO,aU,b6,iy,ar,VL.plain,aZ,iq,sM,dt,ai,bS,cb,aG,bV,dS,du,eP]
theorem aeQ{c W b d t z r:D}{m i:Nat}{P:List D}{s:MS}{x3 jN:Option B}(e1:aC (.nd .lst P) (iD i)=some i)(e2:P[i]?=some (aO i s))(hL:VL.aK s.L=true):(ji 12 [none,some 4,some 5] [0] (λZ=>(cM Kd.tup (aq (λx=>some (D.sc (V.str (ae "term")))) (aq (λx=>some (D.sc (V.str (ae "of")))) (aq (λx=>some (D.sc (V.str (ae "log")))) (aq (λx=>some (D.sc (V.str (ae "done")))) (aq (λx=>some (D.sc (V.str (ae "role")))) λx=>some []))))) Z).bind gY) (λd Z=>some (aQ 0 (B.ro d) Z)) (λx=>some true) (dE (aw (bf aC bx) (aw (bf aC bx) (ab 1) (ab 2)) (ab 0)))) (eV c W m P x3 (some (.ro (iD i))) (some (.ro b)) (some (.ro d)) (some (.ro t)) (some (.ro z)) (some (.own r)) jN)=some (.nd .lst [iD s.te,iD s.o, .nd .tup s.L,iD s.dn,sD s.role]):=by
 have e3:bf aC bx (.nd .lst P) (iD i)=some (aO i s):=by
  show(aC (.nd .lst P) (iD i)).bind (aU (.nd .lst P))=_;rw[e1];exact e2
 have pl:VL.plain (.nd .tup s.L)=true:=by simp[VL.plain,hL]
 have lc:=me (n:=12) (js:= [none,some 4,some 5]) (is:= [0]) (fi:=(λZ=>(cM Kd.tup (aq (λx=>some (D.sc (V.str (ae "term")))) (aq (λx=>some (D.sc (V.str (ae "of")))) (aq (λx=>some (D.sc (V.str (ae "log")))) (aq (λx=>some (D.sc (V.str (ae "done")))) (aq (λx=>some (D.sc (V.str (ae "role")))) λx=>some []))))) Z).bind gY)) (fg:=(λd Z=>some (aQ 0 (B.ro d) Z))) (ft:=(λx=>some true)) (fe:=(dE (aw (bf aC bx) (aw (bf aC bx) (ab 1) (ab 2)) (ab 0)))) (Z:=eV c W m P x3 (some (.ro (iD i))) (some (.ro b)) (some (.ro d)) (some (.ro t)) (some (.ro z)) (some (.own r)) jN) [(sD "term",iD s.te),(sD "of",iD s.o),(sD "log", .nd .tup s.L),(sD "done",iD s.dn),(sD "role",sD s.role)] (λp=>p.1) (λ_=>true) (λp=>p.2) ?_ (by show 5<=aM;decide) rfl ?_
 ·exact lc
 ·unfold eV;simp[aq,gY,cM,uB]
 ·intro a ha;refine⟨[some (.ro a.1),some (.ro (.nd .lst P)),some (.ro (iD i))], ?_,rfl,λ_=> ?_⟩
  ·unfold eV;simp[fW,bD,aQ,fW,ab,bV,du,df]
  ·simp only[fX,oe,or_false]at ha;rcases ha with rfl | rfl | rfl | rfl | rfl
   ·simp[e3,aO,lg,bD,ab,aw,VL.plain,dE]
   ·simp[e3,aO,xv,bD,ab,aw,VL.plain,dE]
   ·simp[e3,aO,qj,pl,bD,ab,aw,dE]
   ·simp[e3,aO,uR,bD,ab,aw,VL.plain,dE]
   ·simp[e3,aO,nS,bD,ab,aw,VL.plain,dE]
theorem aeR(h1:bZ (!·) t r=some (.sc (.bl false)))(h2:kW [.nd .lst Y]=some z)(h3:bZ (!·) z z=some (.sc (.bl false))):(p6 (λZ=>(aw (bZ λx=> !x) (ab 8) (ab 10) Z).bind λx=>match x with | D.sc (V.bl b)=>some b | x=>none) (λZ=>(aw (bZ λx=> !x) (ab 9) (λZ=>(aq (ab 11) (λx=>some []) Z).bind kW) Z).bind λx=>match x with | D.sc (V.bl b)=>some b | x=>none)) (eV c W m P x3 (some (.ro (iD i))) (some (.ro b)) (some (.ro d)) (some (.ro t)) (some (.ro z)) (some (.own r)) (some (.own (.nd .lst Y))))=some false:=by
 unfold eV;simp[h1,h2,h3,bD,aq,ab,aw,p6]
variable [dW K C]
theorem aeS(h:x=some b):x.map (λb=>(b,Z))=some (b,Z):=by rw[h];rfl
def jv(c W:D)(m:Nat)(x3 x4:Option B):En:= [some (.ro c),some (.own W),some (.own (iD m)),x3,x4,none,none,none,none,none,none,none]
theorem aeT{GR:List D->Option (D×List D)}{GL:List D->Option D}(e1:GL [c,k]=some (.nd .lst l))(e2:GR [W, .nd .lst l]=some (.sc .aE, [W', .nd .lst l'])):(dZ (Hq GR 1 (λZ=>(aq (ab 0) (aq (ab 3) λx=>some []) Z).bind λds=>if ds.length=2 then GL ds else none))) (jv c W m (some (.ro k)) none)=some (.nx (jv c W' m (some (.ro k)) none)):=by
 unfold jv;simp[Hq,mW,e1,e2,e7,dO,bG,bD,aW,aq,ab,dZ,b8,ag,bN,ar,aZ,bT,dt,ai,bS,cb,aG,bV,dS,du,df]
theorem aeU:(λZ=>bu (λb=>(b,Z)) ((aw (cN λi j=>V.bl (decide (i < j))) (λZ=>(aq (aw (bf aC bx) (ab 1) λx=>some (D.sc (V.str (ae "story")))) (λx=>some []) Z).bind cJ) (λx=>some (D.sc (V.int 300))) Z).bind λx=>match x with | D.sc (V.bl b)=>some b | x=>none)) (jv c (wD C m w) m x3 none)=some (decide (w.aT.length < 300),jv c (wD C m w) m x3 none):=by
 have hl:cJ [.nd .lst (w.aT.map gx)]=some (iD w.aT.length):=by simp[cJ]
 have W0:wD C m w= .nd (.az cu) [.nd .lst (dg C m w.ms), .nd .lst (w.way.map aD), .nd .lst (w.aT.map gx),iD w.rows]:=rfl;have hd:decide ((w.aT.length:Int) < 300)=decide (w.aT.length < 300):=by
  by_cases c:w.aT.length < 300
  ·rw[decide_eq_true c,decide_eq_true (by lia)]
  ·rw[decide_eq_false c,decide_eq_false (by lia)]
 unfold jv;rw[W0];generalize w.aT.map gx=st at *;simp[KG,hl,hd,bD,aq,ab,cN,bx,bf,aU,aw]
theorem agu(hm:m < 100):(ji 12 [none] [0] (λZ=>(aq (ab 2) (λx=>some []) Z).bind lY) (λd Z=>some (aQ 0 (B.ro d) Z)) (λx=>some true) (λZ=>(aq (ab 0) (λx=>some []) Z).bind λds=>if ds.length=1 then xa K C ds else none)) (jv c W m x3 none)=some (.nd .lst (iY (gC m s0))):=by
 rw[aeL];have lc:=me (n:=12) (js:= [none]) (is:= [0]) (fi:=(λZ=>(aq (ab 2) (λx=>some []) Z).bind lY)) (fg:=(λd Z=>some (aQ 0 (B.ro d) Z))) (ft:=(λx=>some true)) (fe:=(λZ=>(aq (ab 0) (λx=>some []) Z).bind λds=>if ds.length=1 then xa K C ds else none)) (Z:=jv c W m x3 none) (jJ m) (λi=>iD i) (λ_=>true) (λi:Nat=>aO (i:Int) s0) ?_ (by rw[A5];exact bO (by lia:m<=100) (by decide)) rfl ?_
 ·rw[xV.mpr (λ_ _=>rfl)]at lc;exact lc
 ·refine af.mpr ⟨[iD m], ?_, ?_⟩
  ·unfold jv;simp[bD,aq,ab]
  ·rw[sJ _ hm,zB]
 ·intro i hi;have e:=abN (K:=K) (C:=C) i;generalize xa K C=GP at *;generalize aO (i:Int) s0=M at *;refine⟨[some (.ro (iD i))], ?_,rfl,λ_=> ?_⟩
  ·unfold jv;simp[fW,aQ,fW,ab,bV,df]
  ·simp[e,bD,aq,ab]
theorem aeV(h:VL.plain e.fO=true/\(∀l,e.told=some l->∀g∈l,g.ok b)/\cQ e.st.L):VL.plain (gx e)=true:=by
 have h1:=h.1;have h2:=xt h.2.1;have h3:=h.2.2.plain;unfold gx o5;generalize g8 e.told=F at *;simp[VL.plain,VL.aK,h1,h2,h3]
theorem aeW(w:Wg m b s):iN s.role=true:=by
 rcases w.wf.role with e | e | e <;> rw[e]<;> decide +kernel
theorem Ev.forA(h1:fp Z=some (.rt r p))(h2:b6 Z (.rt r p)=some (.nd .lst cs))(h:Ev (VL.kz Z.length fg fb cs.length 0) (Z++ [some (B.ak r p)]) λfl=>Q (uF 0 Z.length fl)):Ev (VL.forA fp fg fb) Z Q:=by
 obtain⟨fl,e,q⟩:=h;refine⟨uF 0 Z.length fl, ?_,q⟩;refine af.mpr ⟨.rt r p,h1, ?_⟩;show(match b6 Z (.rt r p) with | some (.nd .lst cs)=>(VL.kz Z.length fg fb cs.length 0 (Z++ [some (B.ak r p)])).map (uF 0 Z.length) | _=>none)=_;rw[h2];show(VL.kz Z.length fg fb cs.length 0 (Z++ [some (B.ak r p)])).map (uF 0 Z.length)=_;rw[e];rfl
theorem aeX{c W st:D}(h3:NA x3)(h5:NA x5)(h6:NA x6)(h7:NA x7)(h8:NA x8)(h9:NA x9)(m7:NA lJ)(nX:NA jN)(hW:ag W [2]=some st)(hj:j<=430)(h0:0 < m)(hm:m < 40)(hs:ms[i]?=some s)(hi:i < m)(wg:Wg m j s)(jm:Jm m j ms i s)(d:o9 m j ms i s e)(ok:VL.plain e.fO=true/\(∀l,e.told=some l->∀g∈l,g.ok b)/\cQ e.st.L):
  ∃ρ1,(q0 5 (jW (λd Z=>some (aQ 5 (B.ro d) Z)) (jW (λd Z=>some (aQ 6 (B.ro d) Z)) (jW (λd Z=>some (aQ 7 (B.ro d) Z)) (jW (λd Z=>some (aQ 8 (B.ro d) Z)) (jW (λd Z=>some (aQ 9 (B.ro d) Z)) λds Z=>match ds with | []=>some Z | x=>none)))))) (gx e) (eV c W m (iY ms) x3 x5 x6 x7 x8 x9 lJ jN)=some ρ1/\Ev (bQ (fP 10 λZ=>(bu (λa=>(a,Z)) (bt (eO aC (ar 4) (ab 5)) (dR (ar 2) (dR (ar 6) (dR (ar 7) λx=>some []))) Z)).bind λa=>aW (i9 K C) a.fst a.snd) (bQ (fP 11 λZ=>bu (λd=>(d,Z)) ((ji 12 [none,some 4,some 5] [0] (λZ=>(cM Kd.tup (aq (λx=>some (D.sc (V.str (ae "term")))) (aq (λx=>some (D.sc (V.str (ae "of")))) (aq (λx=>some (D.sc (V.str (ae "log")))) (aq (λx=>some (D.sc (V.str (ae "done")))) (aq (λx=>some (D.sc (V.str (ae "role")))) λx=>some []))))) Z).bind gY) (λd Z=>some (aQ 0 (B.ro d) Z)) (λx=>some true) (dE (aw (bf aC bx) (aw (bf aC bx) (ab 1) (ab 2)) (ab 0)))) Z)) (bF (λZ=>bu (λb=>(b,Z)) ((p6 (λZ=>(aw (bZ λx=> !x) (ab 8) (ab 10) Z).bind λx=>match x with | D.sc (V.bl b)=>some b | x=>none) (λZ=>(aw (bZ λx=> !x) (ab 9) (λZ=>(aq (ab 11) (λx=>some []) Z).bind kW) Z).bind λx=>match x with | D.sc (V.bl b)=>some b | x=>none)) Z)) (cv λZ=>bu (λd=>(d,Z)) (some (D.sc (V.bl false)))) λZ=>some (Fl.nx Z)))) ρ1 λfl=>match fl with | .nx ay=>∃y5 y6 y7 y8 y9 DI DJ:Option B,NA y5/\NA y6/\NA y7/\NA y8/\NA y9/\NA DI/\NA DJ/\ay=eV c W m (iY (ms.set i e.st)) x3 y5 y6 y7 y8 y9 DI DJ | _=>False:=by
 obtain⟨ei,dd⟩:=adv (K:=K) (C:=C) hj h0 (by lia) hs wg jm d;have w':=d.wg hm hi wg;have jG:=adx ok.2.1;have aeY:=ady (aeW w') w'.wf.rows;have aeZ:(ms.set i e.st)[i]?=some e.st:=eY (bW.mp hs).1;obtain⟨p1,p2⟩:=RF hs;obtain⟨q1,q2⟩:=RF aeZ;have hp:=w'.wf.rows.plain;have et:kW [.nd .lst [iD e.st.te,iD e.st.o, .nd .tup e.st.L,iD e.st.dn,sD e.st.role]]=some (o5 e.st):=by
  simp[kW,o5,VL.aK,VL.plain,hp]
 refine⟨_,aeO h3 h5 h6 h7 h8 h9 m7 nX, ?_⟩;rw[ei];refine Ev.nx (aeP (GD:=i9 K C) (c:=c) (t:=g8 e.told) (z:=o5 e.st) h3 m7 nX hW p1 p2 dd rfl ok.1) ?_;rw[aeK];refine Ev.nx (ρ':=eV c W m (iY (ms.set i e.st)) x3 (some (.ro (iD i))) (some (.ro (sD e.iz))) (some (.ro e.fO)) (some (.ro (g8 e.told))) (some (.ro (o5 e.st))) (some (.own (mn e.told))) (some (.own (.nd .lst [iD e.st.te,iD e.st.o, .nd .tup e.st.L,iD e.st.dn,sD e.st.role])))) (qf (kZ (aeQ q1 q2 hp)) ?_) ?_
 ·unfold eV;generalize g8 e.told=FF;generalize mn e.told=TT;generalize o5 e.st=HH;generalize iY (ms.set i e.st)=PP;simp[eW h3,eW nX,aQ,bV,dS,du,eP]
 ·refine Ev.o6 (aeS (aeR jG et aeY)) ⟨_,rfl,_,_,_,_,_,_,_,kl,kl,kl,kl,kl,i8,i8,rfl⟩
variable [dW K C]
theorem ae0(cs:List Int)(yn:cs.length<=63)(hn:∀f∈dY,iU K C f):K7 K C [iK cs]=some (tD true):=by
 obtain⟨m,h0,h7,eb⟩:=aeE (K:=K) (C:=C) cs hn;obtain⟨nk,ae1,cU⟩:∃nk:Nat,nk < 100/\(if(cs.length:Int) > 9 then(cs.length:Int) else 9)=(nk:Int):=by
  by_cases h8:(cs.length:Int) > 9
  ·exact⟨cs.length,by lia,by rw[if_pos h8]⟩
  ·exact⟨9,by decide,by rw[if_neg h8];rfl⟩
 have key:∃d,K7 K C [iK cs]=some d/\d=tD true:=by
  unfold K7 KY;dsimp only;refine OY (Ev.nx (ρ':= [some (.ro (iK cs)),some (.own (wD C m (w0 m))),none,none,none,none,none,none,none,none,none,none]) ?_ ?_)
  ·generalize CT K C=GB at *;generalize wD C m (w0 m)=WW at *;simp[eb,gC,fP,bD,aQ,aq,ab,bV,du,df]
  refine Ev.nx (ρ':=jv (iK cs) (wD C m (w0 m)) m none none) ?_ ?_
  ·have AH:cJ [.nd .lst (dg C m (w0 m).ms)]=some (iD m):=by simp[cJ,DC,(DH m).n]
   have W0:wD C m (w0 m)= .nd (.az cu) [.nd .lst (dg C m (w0 m).ms), .nd .lst ((w0 m).way.map aD), .nd .lst ((w0 m).aT.map gx),iD (w0 m).rows]:=rfl;unfold jv;rw[W0];generalize dg C m (w0 m).ms=MM at *;generalize (w0 m).way.map aD=m1;generalize (w0 m).aT.map gx=m2;generalize iD (w0 m).rows=m3;simp[sZ,AH,fP,bD,aQ,aq,ab,bx,bf,aU,aw,bV,dS,du,df]
  refine Ev.seq (Ev.for (ds:=ia ((1:Nat):Int) (nk - 1)) ?_ (λZ=>∃(w:bE) (x3:Option B),Ww m w/\ig m (w0 m) w/\w.aT.length<=430/\NA x3/\Z=jv (iK cs) (wD C m w) m x3 none) ⟨w0 m,none,DH m, .refl _,j8 _,gi,rfl⟩ ?_ ?_)
  ·refine af.mpr ⟨[iD (1:Nat),iD nk], ?_,aeN 1 nk ae1 (by decide)⟩;rw[<- cU];unfold jv;generalize wD C m (w0 m)=WW at *;simp[iK,bD,aq,ab,lX,cJ]
  ·rintro dd hd Z ⟨w,x3,hw,st,hz,h3,rfl⟩;obtain⟨k,hk,rfl⟩:=O0 hd;rw[show((1:Nat):Int) + (k:Int)=((1 + k:Nat):Int) by lia];refine⟨jv (iK cs) (wD C m w) m (some (.ro (iD (1 + k:Nat)))) none,(by
    unfold jv;generalize wD C m w=WW at *;simp[eW h3,aQ,bV,dS,du,df]), ?_⟩
   have rC:=aeU (C:=C) (c:=iK cs) (m:=m) (w:=w) (x3:=some (.ro (iD (1 + k:Nat))));by_cases c:w.aT.length < 300
   ·rw[decide_eq_true c]at rC;obtain⟨l,hl,e1⟩:=Rw (K:=K) (C:=C) cs (1 + k) (by lia);obtain⟨w',l',ip,AJ,hE,oJ,e2⟩:=aew (K:=K) (C:=C) m h0 (by lia) w hw (by lia) l hl;exact Ev.oS rC ⟨_,aeT e1 e2,w',_,AJ,st.trans hE,by lia,kl,rfl⟩
   ·rw[decide_eq_false c]at rC;exact Ev.o6 rC ⟨_,rfl,w,_,hw,st,hz,kl,rfl⟩
  ·rintro Z ⟨w,x3,hw,st,hz,h3,rfl⟩;obtain⟨_,jw⟩:=st.keep (by lia) (DH m) (Rj m);have rp:=(ig.replay (by lia) (ms0:=gC m s0) st (DH m) (Rj m) .nil).all;have W0:wD C m w= .nd (.az cu) [.nd .lst (dg C m w.ms), .nd .lst (w.way.map aD), .nd .lst (w.aT.map gx),iD w.rows]:=rfl;have hW:ag (wD C m w) [2]=some (.nd .lst (w.aT.map gx)):=by rw[W0];exact hg _
   have ae2:=hw.st;generalize wD C m w=WW at *;refine Ev.nx (ρ':=jv (iK cs) WW m x3 (some (.own (.nd .lst (iY (gC m s0)))))) (qf (kZ (agu (by lia))) (by
    generalize iY (gC m s0)=PP at *;unfold jv;simp[eW h3,aQ,bV,dS,du,df])) ?_
   refine Ev.seq (Ev.forA (r:=1) (p:= [2]) (cs:=w.aT.map gx) ?_ ?_ ?_)
   ·rw[W0];generalize iY (gC m s0)=PP at *;generalize w.aT.map gx=st at *;generalize w.way.map aD=m1;generalize dg C m w.ms=m2;generalize iD w.rows=m3;unfold jv;simp[KG,ag,eO,aU,b6,iy,ar,VL.plain,ai]
   ·generalize iY (gC m s0)=PP at *;unfold jv;simp[hW,b6,ai]
   ·refine Ev.kz (N:=w.aT.length) (λj Z=>∃(ms:List MS) (x5 x6 x7 x8 x9 lJ jN:Option B),uZ m ms j (w.aT.drop j)/\NA x5/\NA x6/\NA x7/\NA x8/\NA x9/\NA lJ/\NA jN/\Z=eV (iK cs) WW m (iY ms) x3 x5 x6 x7 x8 x9 lJ jN) (w.aT.map gx) (by simp) ?_ ?_ ?_ _ _ (by simp) _ ⟨_,none,none,none,none,none,none,none,rp,gi,gi,gi,gi,gi,gi,gi,rfl⟩
    ·rintro j Z ⟨ms,x5,x6,x7,x8,x9,lJ,jN,fw,h5,h6,h7,h8,h9,m7,nX,rfl⟩;generalize iY ms=PP at *;unfold jv eV;simp[hW,bD,ab,ai]
    ·rintro j d hd Z ⟨ms,x5,x6,x7,x8,x9,lJ,jN,fw,h5,h6,h7,h8,h9,m7,nX,rfl⟩;rw[dF]at hd;obtain⟨e,he,rfl⟩:=bg.mp hd;have sN:=(bW.mp he).1;have ae3:w.aT.drop j=e::w.aT.drop (j + 1):=by
      rw[rH sN];rw[gn sN]at he;cases he;rfl
     rw[ae3]at fw;cases fw with
     |cons hs hi wg jm dd ae4=>
      have ok:=ae2 e (gH he);refine⟨aeV ok, ?_⟩;obtain⟨ρ1,a1,fl,a2,q⟩:=aeX (K:=K) (C:=C) (c:=iK cs) h3 h5 h6 h7 h8 h9 m7 nX hW (by lia) h0 (by lia) hs hi wg jm dd ok;refine⟨ρ1,a1,fl,a2, ?_⟩;cases fl with
      |nx ay=>
       obtain⟨y5,y6,y7,y8,y9,DI,DJ,k5,k6,k7,k8,k9,K8,K9,rfl⟩:=q;exact⟨_,y5,y6,y7,y8,y9,DI,DJ,ae4,k5,k6,k7,k8,k9,K8,K9,rfl⟩
      |rt _ _=>exact q.elim
      |bk _=>exact q.elim
      |ct _=>exact q.elim
    ·rintro Z ⟨ms,x5,x6,x7,x8,x9,lJ,jN,fw,h5,h6,h7,h8,h9,m7,nX,rfl⟩;exact⟨_,rfl,rfl⟩
 obtain⟨d,e,rfl⟩:=key;exact e
def La(K:aj):Sp:=λvs H Q _=>∃(a:Addr) (ns:List Int),vs= [.ref a]/\jS K H a (ns.map V.int)/\ns.length<=63/\∀H',Q (.bl true) H'
theorem ae5{K:aj}{H:Hp}{a:Addr}{vs:List V}(hO:Bs H)(hS:cV K H a vs):jS K H a vs:=by
 rcases hS with(e | ⟨o,e⟩) | h
 ·rcases hO a with z | ⟨o,xs,z⟩
  ·rw[z]at e;cases e
  ·rw[z]at e;cases e
 ·exact .inl ⟨o,e⟩
 ·exact .inr h
theorem ae6{K:aj}{H:Hp}{a:Addr}{ns:List Int}(h:jS K H a (ns.map V.int)):dB K H T1 [.ref a] [iK ns]:=by
 refine⟨rfl,λi v d hv hd=> ?_⟩;cases i with
 |succ i=>simp at hv
 |zero=>
  cases hv;cases hd;refine .nd (λz=>by cases z) ⟨trivial,h⟩ (by simp) λi v d hv hd=> ?_;rw[dF]at hv hd;cases e:ns[i]? with
  |none=>rw[e]at hv;cases hv
  |some x=>
   rw[e]at hv hd;cases hv;cases hd;exact .sc _
theorem gK{P:Program}{w:World}{K:aj}{mg:Str->Option Value}{base h:Heap}{x:Str}{ps:List Str}{k:Nat}{sp:Sp}{st:Stmt}{f:Addr}{oc:Value}{od an:Option Addr}{oy:Array (Option Value)}{kV doc pm fC ct:Value}(X:K.In h)(G:h.Ns mv mg)(a:W.nsIn K mv x=some (some (.ref f)))(l:K.lookup f=some ⟨oc,od, .func (qr x x (qK st) (nD st) (cW st) .none kV doc pm an fC ct),oy⟩)(c:DX K fC x=true)(kk:vg K (.ref f)=true)
  (o:cz P w K mg base cX k f (qr x x (qK st) (nD st) (cW st) .none kV doc pm an fC ct) ps sp) (hb:∀(kV doc pm:Value) (an:Option Addr) (fC ct:Value) (us:List Value),us.length=ps.length->bindArgs (qr x x (qK st) (nD st) (cW st) .none kV doc pm an fC ct) ⟨us, []⟩=pure (ps.zip us)):eN P w K mg base x ps k sp:=eN.of (fj l c kk) ((fj l c kk).binds hb) (D8 X G a) o
theorem mq{P:List Value->Prop}(h:∀a,P [a]):∀us:List Value,us.length=1->P us
 | [a],_=>h a
theorem ll{P:List Value->Prop}(h:∀a b,P [a,b]):∀us:List Value,us.length=2->P us
 |a::r,e=>mq (P:=λr=>P (a::r)) (h a) r (fU e)
theorem AK{P:List Value->Prop}(h:∀a b c,P [a,b,c]):∀us:List Value,us.length=3->P us
 |a::r,e=>ll (P:=λr=>P (a::r)) (h a) r (fU e)
theorem AL{P:List Value->Prop}(h:∀a b c d,P [a,b,c,d]):∀us:List Value,us.length=4->P us
 |a::r,e=>AK (P:=λr=>P (a::r)) (h a) r (fU e)
theorem DK{P:List Value->Prop}(h:∀a b c d e,P [a,b,c,d,e]):∀us:List Value,us.length=5->P us
 |a::r,e=>AL (P:=λr=>P (a::r)) (h a) r (fU e)
def nA(K:aj)(x:Str)(f:Addr):Prop:=W.nsIn K mv x=some (some (.ref f))
def nZ(K:aj)(x:Str):Prop:=W.nsIn K mv x=some none
def nL(K:aj)(f:Addr)(x y:Str)(s:Stmt)(oc:Value)(od:Option Addr)(kV dc pm:Value)(an:Option Addr)(cd ct:Value)(sl:Array (Option Value)):Prop:=K.lookup f=some ⟨oc,od, .func (qr x y (qK s) (nD s) (cW s) .none kV dc pm an cd ct),sl⟩
def nC(K:aj)(c:Value)(x:Str):Prop:=DX K c x=true
def nK(K:aj)(f:Addr):Prop:=vg K (.ref f)=true
def nF(K:aj)(C:Addr)(x:Str):Prop:=kJ K (.ref C) x=some none
theorem all_mk{l:W.OpenLaw}{w:World}{K:aj}{h:Heap}{mg:Str->Option Value}{C fa:Addr}(X:K.In h)(G:h.Ns mv mg)(ae7:mg "law"=some (.ref fa))
 (a0:nA K "_law_cell_at" f0) (l0:nL K f0 "_law_cell_at" "_law_cell_at" Hr aj3 aj4 aj5 aj6 aj7 aj8 ae8 aj9 aka) (c0:nC K ae8 "_law_cell_at") (k0:nK K f0)
 (a1:nA K "_law_mix" f1) (l1:nL K f1 "_law_mix" "_law_mix" Hs akb akc akd ake akf akg ae9 akh aki) (c1:nC K ae9 "_law_mix") (k1:nK K f1)
 (a2:nA K "_law_rich" f2) (l2:nL K f2 "_law_rich" "_law_rich" Ht akj akk akl akm akn ako afa akp akq) (c2:nC K afa "_law_rich") (k2:nK K f2)
 (a3:nA K "_law_left" f3) (l3:nL K f3 "_law_left" "_law_left" Hu akr aks akt aku akv akw afb akx aky) (c3:nC K afb "_law_left") (k3:nK K f3)
 (a4:nA K "_law_pick" f4) (l4:nL K f4 "_law_pick" "_law_pick" Hv akz akA akB akC akD akE afc akF akG) (c4:nC K afc "_law_pick") (k4:nK K f4)
 (a5:nA K "_law_begun" f5) (l5:nL K f5 "_law_begun" "_law_begun" Hx akH akI akJ akK akL akM afd akN akO) (c5:nC K afd "_law_begun") (k5:nK K f5)
 (a6:nA K "_law_note" f6) (l6:nL K f6 "_law_note" "_law_note" HF akP akQ akR akS akT akU afe akV akW) (c6:nC K afe "_law_note") (k6:nK K f6)
 (a7:nA K "next_term" f7) (l7:nL K f7 "next_term" "next_term" HG akX akY akZ ak0 ak1 ak2 aff ak3 ak4) (c7:nC K aff "next_term") (k7:nK K f7)
 (a8:nA K "is_most" f8) (l8:nL K f8 "is_most" "is_most" HM ak5 ak6 ak7 ak8 ak9 ala afg alb alc) (c8:nC K afg "is_most") (k8:nK K f8)
 (a9:nA K "rank_of_voice" f9) (l9:nL K f9 "rank_of_voice" "rank_of_voice" HN ald ale alf alg alh alj afh alk alm) (c9:nC K afh "rank_of_voice") (k9:nK K f9)
 (afi:nA K "is_fixed" RG) (afj:nL K RG "is_fixed" "is_fixed" HI aln alo alp alq alr als afk alu alv) (afl:nC K afk "is_fixed") (K8:nK K RG)
 (afm:nA K "own_copy" RH) (afn:nL K RH "own_copy" "own_copy" HJ alw alx aly alz alA alB afo alC alD) (afp:nC K afo "own_copy") (K9:nK K RH)
 (afq:nA K "take_behind" RI) (RJ:nL K RI "take_behind" "take_behind" HK alE alF alG alH alI alJ afr alK alL) (RK:nC K afr "take_behind") (RL:nK K RI)
 (afs:nA K "take_rows" RM) (RN:nL K RM "take_rows" "take_rows" HL alM alN alO alP alQ alR aft alS alT) (RO:nC K aft "take_rows") (RP:nK K RM)
 (afu:nA K "lead_by_voices" RQ) (RS:nL K RQ "lead_by_voices" "lead_by_voices" HP alU alV alW alX alY alZ afv al0 al1) (RT:nC K afv "lead_by_voices") (RU:nK K RQ)
 (afw:nA K "others" RV) (RW:nL K RV "others" "others" HQ al2 al3 al4 al5 al6 al7 afx al8 al9) (RX:nC K afx "others") (RY:nK K RV)
 (afy:nA K "rows_told" RZ) (R3:nL K RZ "rows_told" "rows_told" HV ama amb amc amd ame amf afz amg amh) (R4:nC K afz "rows_told") (R5:nK K RZ)
 (afA:nA K "hear_stand" R6) (R7:nL K R6 "hear_stand" "hear_stand" HW ami amj amk aml amm amn afB amo amq) (R8:nC K afB "hear_stand") (R9:nK K R6)
 (afC:nA K "hear_voice" Sa) (Sb:nL K Sa "hear_voice" "hear_voice" HX amr ams amt amu amv amw afD amx amy) (Se:nC K afD "hear_voice") (Sf:nK K Sa)
 (afE:nA K "hear_keep" Sg) (Sh:nL K Sg "hear_keep" "hear_keep" HY amz amA amB amC amD amE afF amF amG) (Si:nC K afF "hear_keep") (Sj:nK K Sg)
 (afG:nA K "count_done" Sk) (Sl:nL K Sk "count_done" "count_done" HS amH amI amJ amK amL amM afH amN amO) (Sm:nC K afH "count_done") (Sn:nK K Sk)
 (afI:nA K "hear_kept" So) (Sq:nL K So "hear_kept" "hear_kept" HU amP amQ amR amS amT amU afJ amV amW) (Sr:nC K afJ "hear_kept") (Ss:nK K So)
 (afK:nA K "_law_heard" Su) (Sv:nL K Su "_law_heard" "_law_heard" H9 amX amY amZ am0 am1 am2 afL am3 am4) (Sw:nC K afL "_law_heard") (Sx:nK K Su)
 (afM:nA K "_law_carried" Sy) (Sz:nL K Sy "_law_carried" "_law_carried" Ia am5 am6 am7 am8 am9 ana afN anb anc) (SD:nC K afN "_law_carried") (SE:nK K Sy)
 (afO:nA K "_law_leader" SH) (SJ:nL K SH "_law_leader" "_law_leader" Ib anf ang anh ani anj ank afP anl anm) (SK:nC K afP "_law_leader") (SN:nK K SH)
 (afQ:nA K "_law_added" SR) (SU:nL K SR "_law_added" "_law_added" Ig ano anp anq anr ans ant afR anu anv) (SW:nC K afR "_law_added") (SX:nK K SR)
 (afS:nA K "_law_road" SY) (S0:nL K SY "_law_road" "_law_road" Ii anw anx anz anA anB anC afT anD anE) (S3:nC K afT "_law_road") (S4:nK K SY)
 (afU:nA K "_law_plain" S5) (S6:nL K S5 "_law_plain" "_law_plain" Hy anF anG anH anI anJ anK afV anL anM) (S7:nC K afV "_law_plain") (S8:nK K S5)
 (afW:nA K "_law_lead" S9) (Ta:nL K S9 "_law_lead" "_law_lead" HA anN anO anP anQ anR anS afX anT anU) (Tb:nC K afX "_law_lead") (Tc:nK K S9)
 (afY:nA K "_law_keeps" Td) (Te:nL K Td "_law_keeps" "_law_keeps" HB anV anW anY anZ an0 an1 afZ an2 an3) (Tf:nC K afZ "_law_keeps") (Tg:nK K Td)
 (af0:nA K "_law_know" Th) (Ti:nL K Th "_law_know" "_law_know" HC an4 an5 an6 an7 an8 an9 af1 aoa aob) (Tj:nC K af1 "_law_know") (Tn:nK K Th)
 (af2:nA K "_law_hears" To) (Tp:nL K To "_law_hears" "_law_hears" HD aoc aod aoe aof aog aoh af3 aoi aoj) (Tq:nC K af3 "_law_hears") (Tr:nK K To)
 (af4:nA K "_law_to_others" Ts) (Tt:nL K Ts "_law_to_others" "_law_to_others" Hz aok aol aom aon aoo aop af5 aoq aor) (Tu:nC K af5 "_law_to_others") (Tv:nK K Ts)
 (af6:nA K "_law_does" Tw) (Tx:nL K Tw "_law_does" "_law_does" HE aos aot aou aov aow aox af7 aoy aoz) (Tz:nC K af7 "_law_does") (TB:nK K Tw)
 (af8:nA K "law" TC) (af9:nL K TC "law" "law" wZ aoA aoB aga agb agc agd TF age aoC) (agf:nC K TF "law") (agg:nK K TC)
 (z0:nZ K "len")
 (z1:nZ K "range")
 (z2:nZ K "list")
 (z3:nZ K "tuple")
 (z4:nZ K "int")
 (z5:nZ K "max")
 (z6:nZ K "min")
 (z7:nZ K "all")
 (z8:nZ K "any")
 (z9:nZ K "isinstance")
 (agh:nZ K "str")
 (agi:nZ K "bool")
 (agj:nZ K "dict")
 (agk:nZ K "sorted")
 (agl:nA K "Master" C)
 (aI:kJ K (.ref C) "__init__"=some (some (.ref fI))) (iI:tw K (.ref fI)=true) (lI:nL K fI "__init__" "Master.__init__" Hw aoD aoE aoF aoG aoH aoI agm aoJ aoK) (cI:nC K agm "Master.__init__") (kI:nK K fI)
 (aR:kJ K (.ref C) "rise"=some (some (.ref fR))) (iR:tw K (.ref fR)=true) (lR:nL K fR "rise" "Master.rise" HR aoL aoM aoN aoO aoP aoQ agn aoR aoS) (cR:nC K agn "Master.rise") (kR:nK K fR)
 (aH:kJ K (.ref C) "hear"=some (some (.ref fH))) (iH:tw K (.ref fH)=true) (lH:nL K fH "hear" "Master.hear" HZ aoT aoU aoV aoW aoX aoY ago aoZ ao0) (cH:nC K ago "Master.hear") (kH:nK K fH)
 (aS:kJ K (.ref C) "send"=some (some (.ref fS))) (iS:tw K (.ref fS)=true) (lS:nL K fS "send" "Master.send" Ic ao1 ao2 ao3 ao4 ao5 ao6 agp ao7 ao8) (cS:nC K agp "Master.send") (kS:nK K fS)
 (aA:kJ K (.ref C) "add"=some (some (.ref fA))) (iA:tw K (.ref fA)=true) (lA:nL K fA "add" "Master.add" Ie ao9 apa apb apc apd ape agq apf apg) (cA:nC K agq "Master.add") (kA:nK K fA)
 (aF:kJ K (.ref C) "fall"=some (some (.ref fF))) (iF:tw K (.ref fF)=true) (lF:nL K fF "fall" "Master.fall" Ih aph api apj apk apl apm agr apn apo) (cF:nC K agr "Master.fall") (kF:nK K fF)
 (pg:DU K C Str.empty=true) (hd:Lx K C=true) (po:Ue K C=true) (sa:kJ K (.ref C) "__setattr__"=some (some (.builtin "object.__setattr__"))) (mk:W.makesIn K C=true) (kc:nK K C)
 (n0:nF K C "number")
 (n1:nF K C "many")
 (n2:nF K C "term")
 (n3:nF K C "of")
 (n4:nF K C "log")
 (n5:nF K C "done")
 (n6:nF K C "role")
 (n7:nF K C "voices")
 (n8:nF K C "sizes")
 (n9:nF K C "fixed")
 :∃fd:j7,(∀(s:Shared) (v:Value),AS s fd ⟨[v], []⟩ [("_law_script",v)])/\∀base:Heap,K.In base->base.Ns mv mg->cz l.prog w K mg base cX 15 fa fd ["_law_script"] (La K):=by
 have e:=ae7.symm.trans (D8 X G af8);cases e;have T:d5 mg:=⟨nq X G z0,nq X G z1,nq X G z2,nq X G z3,nq X G z4,nq X G z5,nq X G z6,nq X G z7,nq X G z8,nq X G z9,nq X G agh,nq X G agi,nq X G agj,nq X G agk⟩
 refine⟨qr "law" "law" (qK wZ) (nD wZ) (cW wZ) .none aga agb agc agd TF age,λs v=> .of_eq rfl,λbase _ _=> ?_⟩;have cls:kO K C:=⟨pg,hd,po,sa⟩
 haveI:dW K C:=⟨cls⟩
 have Iv:=gK (P:=l.prog) (w:=w) (base:=base) X G a0 l0 c0 k0 ((CM K C).2 (fj l0 c0 k0) T) λ_ _ _ _ _ _=>ll λ_ _=>rfl;have CO:=gK (P:=l.prog) (w:=w) (base:=base) X G a1 l1 c1 k1 ((Iq K C).2 (fj l1 c1 k1) T) λ_ _ _ _ _ _=>ll λ_ _=>rfl;have CS:=gK (P:=l.prog) (w:=w) (base:=base) X G a2 l2 c2 k2 ((Iu K C).2 (fj l2 c2 k2) T CO) λ_ _ _ _ _ _=>ll λ_ _=>rfl;have w9:=gK (P:=l.prog) (w:=w) (base:=base) X G a3 l3 c3 k3 ((CQ K C).2 (fj l3 c3 k3) T Iv CS) λ_ _ _ _ _ _=>ll λ_ _=>rfl;have jj:=gK (P:=l.prog) (w:=w) (base:=base) X G a4 l4 c4 k4 ((Ai K C).2 (fj l4 c4 k4) T) λ_ _ _ _ _ _=>ll λ_ _=>rfl;have F:=fj lI cI kI;have b:=F.binds (ps:= ["self","number","many"]) λ_ _ _ _ _ _=>AK λ_ _ _=>rfl;have Iz:Gp l.prog w K mg base "Master" C ["self","number","many"] 1 (cC K (true::gC 2 false) (sT K C)):=⟨cls,fI,_,(Iw K C).2 F T,b,⟨mk,aI,iI,kc⟩,D8 X G agl⟩
 have KZ:=gK (P:=l.prog) (w:=w) (base:=base) X G a5 l5 c5 k5 ((Iy K C).2 (fj l5 c5 k5) T w9 jj Iz) λ_ _ _ _ _ _=>mq λ_=>rfl;have oZ:=gK (P:=l.prog) (w:=w) (base:=base) X G a6 l6 c6 k6 ((IG K C).2 (fj l6 c6 k6) T) λ_ _ _ _ _ _=>DK λ_ _ _ _ _=>rfl;have IX:=gK (P:=l.prog) (w:=w) (base:=base) X G a7 l7 c7 k7 ((II K C).2 (fj l7 c7 k7) T) λ_ _ _ _ _ _=>mq λ_=>rfl;have xh:=gK (P:=l.prog) (w:=w) (base:=base) X G a8 l8 c8 k8 ((IP K C).2 (fj l8 c8 k8) T) λ_ _ _ _ _ _=>ll λ_ _=>rfl;have IT:=gK (P:=l.prog) (w:=w) (base:=base) X G a9 l9 c9 k9 ((IS K C).2 (fj l9 c9 k9) T) λ_ _ _ _ _ _=>mq λ_=>rfl;have F:=fj afj afl K8;have b:=F.binds (ps:= ["value"]) λ_ _ _ _ _ _=>mq λ_=>rfl;have m:=D8 X G afi;have An:eN l.prog w K mg base "is_fixed" ["value"] 4 (eU K 1 (C0 K C)):=eN.of F b m (PX (Cm:=C) F T b m  3);have F:=fj afn afp K9;have b:=F.binds (ps:= ["value"]) λ_ _ _ _ _ _=>mq λ_=>rfl;have m:=D8 X G afm;have oY:eN l.prog w K mg base "own_copy" ["value"] 4 (eU K 1 (C3 K C)):=eN.of F b m (PZ (Cm:=C) F T b m  3);have xf:=gK (P:=l.prog) (w:=w) (base:=base) X G afq RJ RK RL ((IL K C).2 (fj RJ RK RL) T An oY) λ_ _ _ _ _ _=>ll λ_ _=>rfl;have xi:=gK (P:=l.prog) (w:=w) (base:=base) X G afs RN RO RP ((C4 K C).2 (fj RN RO RP) T xf) λ_ _ _ _ _ _=>ll λ_ _=>rfl;have xj:=gK (P:=l.prog) (w:=w) (base:=base) X G afu RS RT RU ((C6 K C).2 (fj RS RT RU) T xh IT xi) λ_ _ _ _ _ _=>mq λ_=>rfl;have rn:=gK (P:=l.prog) (w:=w) (base:=base) X G afw RW RX RY ((IU K C).2 (fj RW RX RY) T) λ_ _ _ _ _ _=>mq λ_=>rfl;have F:=fj lR cR kR;have b:=F.binds (ps:= ["self"]) λ_ _ _ _ _ _=>mq λ_=>rfl;have Jn:nM l.prog w K mg base C "rise" ["self"] 9 (cC K [true] (Ao K C)):=⟨cls,fR,_,(IW K C).2 F T IX xj rn,b,⟨aR,iR,kR⟩⟩
 have xl:=gK (P:=l.prog) (w:=w) (base:=base) X G afy R3 R4 R5 ((I0 K C).2 (fj R3 R4 R5) T oY) λ_ _ _ _ _ _=>mq λ_=>rfl;have I9:=gK (P:=l.prog) (w:=w) (base:=base) X G afA R7 R8 R9 ((C9 K C).2 (fj R7 R8 R9) T xl) λ_ _ _ _ _ _=>AK λ_ _ _=>rfl;have Ja:=gK (P:=l.prog) (w:=w) (base:=base) X G afC Sb Se Sf ((As K C).2 (fj Sb Se Sf) T oY xj) λ_ _ _ _ _ _=>DK λ_ _ _ _ _=>rfl;have Jb:=gK (P:=l.prog) (w:=w) (base:=base) X G afE Sh Si Sj ((Av K C).2 (fj Sh Si Sj) T xi) λ_ _ _ _ _ _=>DK λ_ _ _ _ _=>rfl;have xk:=gK (P:=l.prog) (w:=w) (base:=base) X G afG Sl Sm Sn ((IY K C).2 (fj Sl Sm Sn) T rn xh) λ_ _ _ _ _ _=>mq λ_=>rfl;have Jc:=gK (P:=l.prog) (w:=w) (base:=base) X G afI Sq Sr Ss ((Ap K C).2 (fj Sq Sr Ss) T xk) λ_ _ _ _ _ _=>AL λ_ _ _ _=>rfl;have F:=fj lH cH kH;have b:=F.binds (ps:= ["self","message"]) λ_ _ _ _ _ _=>ll λ_ _=>rfl;have Je:nM l.prog w K mg base C "hear" ["self","message"] 10 (cC K [true,false] (sU K C)):=⟨cls,fH,_,(xm K C).2 F T I9 Ja Jb Jc,b,⟨aH,iH,kH⟩⟩
 have xo:=gK (P:=l.prog) (w:=w) (base:=base) X G afK Sv Sw Sx ((Jd K C).2 (fj Sv Sw Sx) T oZ Je) λ_ _ _ _ _ _=>AK λ_ _ _=>rfl;have Ay:=gK (P:=l.prog) (w:=w) (base:=base) X G afM Sz SD SE ((Jf K C).2 (fj Sz SD SE) T jj xo) λ_ _ _ _ _ _=>AL λ_ _ _ _=>rfl;have xq:=gK (P:=l.prog) (w:=w) (base:=base) X G afO SJ SK SN ((Jh K C).2 (fj SJ SK SN) T jj) λ_ _ _ _ _ _=>ll λ_ _=>rfl;have F:=fj lS cS kS;have b:=F.binds (ps:= ["self"]) λ_ _ _ _ _ _=>mq λ_=>rfl;have xp:nM l.prog w K mg base C "send" ["self"] 6 (eU K 1 (sV K C)):=⟨cls,fS,_,(Dg K C).2 F T rn xl,b,⟨aS,iS,kS⟩⟩
 have F:=fj lA cA kA;have b:=F.binds (ps:= ["self","row"]) λ_ _ _ _ _ _=>ll λ_ _=>rfl;have Jj:nM l.prog w K mg base C "add" ["self","row"] 7 (cC K [true,false] (rq K C)):=⟨cls,fA,_,(Dh K C).2 F T xf xk xp,b,⟨aA,iA,kA⟩⟩
 have Jo:=gK (P:=l.prog) (w:=w) (base:=base) X G afQ SU SW SX ((Ji K C).2 (fj SU SW SX) T xq jj oZ Jj) λ_ _ _ _ _ _=>ll λ_ _=>rfl;have F:=fj lF cF kF;have b:=F.binds (ps:= ["self"]) λ_ _ _ _ _ _=>mq λ_=>rfl;have Jp:nM l.prog w K mg base C "fall" ["self"] 1 (cC K [true] (Ax K C)):=⟨cls,fF,_,(Jk K C).2 F T,b,⟨aF,iF,kF⟩⟩
 have K0:=gK (P:=l.prog) (w:=w) (base:=base) X G afS S0 S3 S4 ((Jl K C).2 (fj S0 S3 S4) T jj oZ Jn Ay Jo Jp xq xp xo) λ_ _ _ _ _ _=>ll λ_ _=>rfl;have K5:=gK (P:=l.prog) (w:=w) (base:=base) X G afU S6 S7 S8 ((IA K C).2 (fj S6 S7 S8) T) λ_ _ _ _ _ _=>mq λ_=>rfl;have xb:=gK (P:=l.prog) (w:=w) (base:=base) X G afW Ta Tb Tc ((IC K C).2 (fj Ta Tb Tc) T) λ_ _ _ _ _ _=>ll λ_ _=>rfl;have IE:=gK (P:=l.prog) (w:=w) (base:=base) X G afY Te Tf Tg ((Al K C).2 (fj Te Tf Tg) T) λ_ _ _ _ _ _=>DK λ_ _ _ _ _=>rfl;have xc:=gK (P:=l.prog) (w:=w) (base:=base) X G af0 Ti Tj Tn ((ID K C).2 (fj Ti Tj Tn) T) λ_ _ _ _ _ _=>ll λ_ _=>rfl;have IF:=gK (P:=l.prog) (w:=w) (base:=base) X G af2 Tp Tq Tr ((mY K C).2 (fj Tp Tq Tr) T xb IE xc) λ_ _ _ _ _ _=>AK λ_ _ _=>rfl;have CW:=gK (P:=l.prog) (w:=w) (base:=base) X G af4 Tt Tu Tv ((IB K C).2 (fj Tt Tu Tv) T) λ_ _ _ _ _ _=>AL λ_ _ _ _=>rfl;have K6:=gK (P:=l.prog) (w:=w) (base:=base) X G af6 Tx Tz TB ((rl K C).2 (fj Tx Tz TB) T IF xb CW xc) λ_ _ _ _ _ _=>AL λ_ _ _ _=>rfl;have hn:∀f∈dY,iU K C f:=by
  intro f hf;simp only[dY,fX,oe,or_false]at hf;rcases hf with rfl | rfl | rfl | rfl | rfl | rfl | rfl | rfl | rfl | rfl
  all_goals assumption
 exact((KY K C).2 (fj af9 agf agg) T KZ K0 w9 K5 K6).imp λvs H Q E h=>by
  obtain⟨a,ns,rfl,hF,hl,qq⟩:=h;exact⟨[iK ns],tD true,rfl,ae6 hF,ae0 ns hl hn,λv H' _ o=>by
   have e:v= .bl true:=(eX.vw o).dm;subst e;exact qq H'⟩
theorem walk{l:W.OpenLaw}{q:Program}{loose:List Str}{XP:(Str->Option Value)->Heap->Prop}{YP:World->Heap->Prop}{d:DefRec}{K:Params->aj}(hn:l.most=some 63)(yq:d.params.defaults= [])
  (hY:∀(w:World) (h:Heap),YP w h->(K w.params).In h)
  (F:∀(w:World) (mg:Str->Option Value) (fa:Addr) (h:Heap),(K w.params).In h->h.Ns mv mg->mg d.name=some (.ref fa)->
   ∃fd:j7,(∀(s:Shared) (u:Value),AS s fd ⟨[u], []⟩ [("_law_script",u)])/\∀base:Heap,(K w.params).In base->base.Ns mv mg->cz l.prog w (K w.params) mg base cX 15 fa fd ["_law_script"] (La (K w.params))):
  W.WalkO q loose XP YP l.row.toRowW d [] (λf vs=>Uu f vs):=
 L2.W4 (n:=63) (k:=15) (x:="_law_script") (CX:=λ_=>cX) (sp:=λw=>La (K w.params)) hn (by decide) yq ⟨rfl,by decide,by decide,rfl⟩ hY F (λ_ _ a ns hl hO hS=>⟨a,ns,rfl,ae5 hO hS,hl,λ_=>rfl⟩) λ_ _ _ _ _ z=>z
end K31
namespace PySem.W.Fast
def tw6711728348282845248:=Nat
def tw10844352383675443584:=Nat
def tw15198895525275344288:=Nat
def tw14454404210938402400:=Nat
def tw10884391866975154880:=Nat
def tw15746149353358467840:=Nat
def tw17158391469740694304:=Nat
def tw13224269631540537184:=Nat
def tw2208325161411620065:=Nat
def tw17299755579037705505:=Nat
def tw124307576499177921:=Nat
def tw15838743709968887329:=Nat
def tw17476413990214001217:=Nat
def tw993226239831930785:=Nat
def tw6696214109399488610:=Nat
def tw3788220170373561538:=Nat
def tw13695040440554934498:=Nat
def tw3478432476701063490:=Nat
def tw6799397541431297634:=Nat
def tw8227648933976349378:=Nat
def tw14640446889241000642:=Nat
def tw3396131201486206722:=Nat
def tw10579091269173248802:=Nat
def tw9465593233453832291:=Nat
def tw9647635721477754979:=Nat
def tw11108809947748207811:=Nat
def tw2551893197163768067:=Nat
def tw17343236563524055459:=Nat
def tw13944783172655464899:=Nat
def tw64654381172481507:=Nat
def tw12731068978363445795:=Nat
def tw1939365418787060323:=Nat
def tw17975415383344707235:=Nat
def tw4445862945807324867:=Nat
def tw15840547753958718211:=Nat
def tw16116117497489944355:=Nat
def tw730608593534653347:=Nat
def tw6251179096563910563:=Nat
def tw12984461347371995043:=Nat
def tw17272107924898941956:=Nat
def tw1811318378538396740:=Nat
def tw6678386254052285540:=Nat
def tw3283676968567343268:=Nat
def tw14045295386620009668:=Nat
def tw505701943810666724:=Nat
def tw56329226747618692:=Nat
def tw5108623601986618852:=Nat
def tw3476549984835764772:=Nat
def tw12850568653022714468:=Nat
def tw5188681795384808036:=Nat
def tw9247316118544180900:=Nat
def tw6092350744129197956:=Nat
def tw2255755019620254628:=Nat
def tw13594232832877753284:=Nat
def tw3977233990001669092:=Nat
def tw15316526543104897349:=Nat
def tw7995984503338534245:=Nat
def tw4622252403057665541:=Nat
def tw7504620401556670149:=Nat
def tw759768289834474181:=Nat
def tw5493374880223924197:=Nat
def tw7737396117161640006:=Nat
def tw12182567422034330694:=Nat
def tw12948727212017340582:=Nat
def tw13254550371238290630:=Nat
def tw14390745367858496806:=Nat
def tw3920692876284639590:=Nat
def tw11300319066121940326:=Nat
def tw8774246000327366118:=Nat
def tw13547803086841557574:=Nat
def tw6005268534255811142:=Nat
def tw6802827920446889926:=Nat
def tw12451741739704064135:=Nat
def tw6799374982023821575:=Nat
def tw5619558032803580231:=Nat
def tw15689157293082164647:=Nat
def tw16144568089434891815:=Nat
def tw4382028486887574119:=Nat
def tw1675971860255768327:=Nat
def tw1499905844029298503:=Nat
def tw9850601915478155111:=Nat
def tw10204481344169686983:=Nat
def tw17024157683784284103:=Nat
def tw2359785918199061512:=Nat
def tw870711102814659816:=Nat
def tw6852397942816557352:=Nat
def tw7470366040960359752:=Nat
def tw12300139278610727240:=Nat
def tw2831587670616447496:=Nat
def tw7495699040073078280:=Nat
def tw16331002072227920456:=Nat
def tw3869747836817872712:=Nat
def tw393924102881176520:=Nat
def tw16207726439446494249:=Nat
def tw2147005952232631337:=Nat
def tw12522666037592163401:=Nat
def tw753153850635300969:=Nat
def tw9432133484609852649:=Nat
def tw4717711950236924201:=Nat
def tw16656080734374382921:=Nat
def tw202733702293018985:=Nat
def tw11576105410199674281:=Nat
def tw3288543932513545673:=Nat
def tw10972305279439292905:=Nat
def tw5685811609920189993:=Nat
def tw4921147249959556809:=Nat
def tw8683749165535277929:=Nat
def tw9621992727763687337:=Nat
def tw5369620862927665258:=Nat
def tw12955331996236518698:=Nat
def tw2081179188657986890:=Nat
def tw535612529206905162:=Nat
def tw13251847557322373450:=Nat
def tw11480558772112210314:=Nat
def tw12898385542426259882:=Nat
def tw2688249477437445578:=Nat
def tw16970335714303248042:=Nat
def tw15973665517713576714:=Nat
def tw847537273191126858:=Nat
def tw14726995240947430250:=Nat
def tw1862342935059653771:=Nat
def tw6052424255957115147:=Nat
def tw5772371202254681035:=Nat
def tw6729606256663185484:=Nat
def tw15064655851465728140:=Nat
def tw10959324780985952492:=Nat
def tw1356176378419186060:=Nat
def tw2986112136773253516:=Nat
def tw2625965348233918988:=Nat
def tw3475081866062144044:=Nat
def tw17628799844293829196:=Nat
def tw8320708975469648492:=Nat
def tw7288017161519298220:=Nat
def tw16230797959596562380:=Nat
def tw6621786179438680109:=Nat
def tw2443379939802684557:=Nat
def tw7956473454172738797:=Nat
def tw3157499338601588973:=Nat
def tw3271500652957534573:=Nat
def tw8078666892209560077:=Nat
def tw3485030917516696429:=Nat
def tw6047098517532351373:=Nat
def tw4916801317893789581:=Nat
def tw8778297613212355630:=Nat
def tw18194189370066426030:=Nat
def tw14949826912194972910:=Nat
def tw10000662276482106670:=Nat
def tw16842337673986760078:=Nat
def tw2387251987060486574:=Nat
def tw5536099637001842126:=Nat
def tw7440092215433596398:=Nat
def tw13858355730525473358:=Nat
def tw17838022303387481838:=Nat
def tw15388545257706099502:=Nat
def tw15183975702153302862:=Nat
def tw8044629775252106190:=Nat
def tw16828260123185493007:=Nat
def tw13737171738617827375:=Nat
def tw6894410789089628399:=Nat
def tw11136887876504717551:=Nat
def tw10253048609940272367:=Nat
def tw2041195826499460367:=Nat
def tw3598240099656634639:=Nat
def tw11050945159295440207:=Nat
def tw7519394282080536943:=Nat
def tw16668924912107618703:=Nat
def tw9860412002972691855:=Nat
def tw16151816217387076111:=Nat
def tw15837681399648690703:=Nat
def tw2830484122928435759:=Nat
def tw17934357157908839087:=Nat
def tw7135765684100545263:=Nat
def tw9552266685276497839:=Nat
def tw13593053044598491055:=Nat
def tw16871372826398240751:=Nat
def tw5866388207716131856:=Nat
def tw4020550135313724592:=Nat
def tw3713167560683702544:=Nat
def tw12504618284514888080:=Nat
def tw12742160682033307248:=Nat
def tw10284927136532362896:=Nat
def tw7463974129190061936:=Nat
def tw12037125682896243729:=Nat
def tw12459111092367447217:=Nat
def tw10960223631368909009:=Nat
def tw965762817622773137:=Nat
def tw3482073658432863633:=Nat
def tw2978311564933028273:=Nat
def tw9395195021365038609:=Nat
def tw12237019762411908913:=Nat
def tw15187801101707398033:=Nat
def tw14944049515039989778:=Nat
def tw11283694494910823666:=Nat
def tw16963579804482809234:=Nat
def tw16319038130861226578:=Nat
def tw17683802858030763858:=Nat
def tw2836814697206218642:=Nat
def tw2604781340295818226:=Nat
def tw10408254105332748467:=Nat
def tw1636693510478704915:=Nat
def tw5267468220527361555:=Nat
def tw16536993004652578323:=Nat
def tw8690764453037383219:=Nat
def tw17005235658099448403:=Nat
def tw10904838117404595795:=Nat
def tw6217529955556411412:=Nat
def tw6328740947176579348:=Nat
def tw3662139378046765428:=Nat
def tw9348000506058858004:=Nat
def tw9503248221682295476:=Nat
def tw17282149648802642644:=Nat
def tw13584416681620944820:=Nat
def tw10721368828116853973:=Nat
def tw3858294551729637621:=Nat
def tw15540247346392315221:=Nat
def tw16342382385095329109:=Nat
def tw7863873722787247605:=Nat
def tw1968448324063908469:=Nat
def tw2544943189218453173:=Nat
def tw7603636511490800469:=Nat
def tw212680862078310293:=Nat
def tw15837129862033799222:=Nat
def tw10676786845981995158:=Nat
def tw12705886777407356150:=Nat
def tw1527183182932315414:=Nat
def tw9878954125801199926:=Nat
def tw7108573694344974742:=Nat
def tw993851697191497174:=Nat
def tw16899371325191198262:=Nat
def tw1803747336826486:=Nat
def tw7964050958098111094:=Nat
def tw15498905629156054742:=Nat
def tw6964350662620465974:=Nat
def tw15578968044205590518:=Nat
def tw7282454487772007447:=Nat
def tw15292820216915535991:=Nat
def tw9758336238688696439:=Nat
def tw5809404526830324023:=Nat
def tw7051667458817891639:=Nat
def tw7164728439001796951:=Nat
def tw15686321760052374007:=Nat
def tw13927733178019467031:=Nat
def tw3639684334854638487:=Nat
def tw11718666488564438007:=Nat
def tw16368012651636485208:=Nat
def tw10213861009961399576:=Nat
def tw532461505811863864:=Nat
def tw10824205002842051032:=Nat
def tw7205741997911110360:=Nat
def tw11714391493353288408:=Nat
def tw17739833383582937912:=Nat
def tw3475655733053670425:=Nat
def tw9760693517355822201:=Nat
def tw2446730968176518329:=Nat
def tw8163912754596382137:=Nat
def tw1620108121220719065:=Nat
def tw1731573636904400345:=Nat
def tw2756699360478543321:=Nat
def tw5042082226741257945:=Nat
def tw14100553130267006745:=Nat
def tw15556753763183576921:=Nat
def tw18298029282484172826:=Nat
def tw2224734974408728634:=Nat
def tw6958503399184994586:=Nat
def tw6930100267963765050:=Nat
def tw17021570696535941498:=Nat
def tw16756542690642519546:=Nat
def tw1888319033778579098:=Nat
def tw11164937281808177914:=Nat
def tw2354321594327967610:=Nat
def tw3779119084213587930:=Nat
def tw6138613793030955131:=Nat
def tw16230110992548444283:=Nat
def tw4623702557697560763:=Nat
def tw6608471535787999419:=Nat
def tw9178148951070200411:=Nat
def tw5766458465902141179:=Nat
def tw14399858674207402811:=Nat
def tw11843805493937142844:=Nat
def tw17360746451223535836:=Nat
def tw9886003088084952444:=Nat
def tw9719053334138473884:=Nat
def tw5556594239069323260:=Nat
def tw10619730969379730493:=Nat
def tw5282603860130440285:=Nat
def tw1440138292011214941:=Nat
def tw12258285848515421469:=Nat
def tw18429448436673658525:=Nat
def tw6043131756187041533:=Nat
def tw13133526816909697821:=Nat
def tw17165257603177025405:=Nat
def tw11276397285950668669:=Nat
def tw15905168046642779069:=Nat
def tw2288764529282948093:=Nat
def tw16328476143288915166:=Nat
def tw14715723731714209182:=Nat
def tw16005108913833645566:=Nat
def tw14860083878315592382:=Nat
def tw16726964436391981822:=Nat
def tw14940461132282664734:=Nat
def tw2570264820407101278:=Nat
def tw13787371385720609694:=Nat
def tw7686514946785789950:=Nat
def tw274851592886561823:=Nat
def tw9453211153243757631:=Nat
def tw4112359239451831647:=Nat
def tw15087177756551506271:=Nat
def tw5845661784705614271:=Nat
def tw2791974132655123231:=Nat
def tw1576067838121467717:=Nat
end PySem.W.Fast
end
open PySem PySem.W PyProof.Rows
set_option maxRecDepth 100000 in
set_option maxHeartbeats 0 in
theorem PySem.Challenge.cw_farshelf_k31_any_messages_holds : PySem.Challenge.rw_farshelf_k31_any_messages.Holds := by
  w_on; o_law; k_head; (case hw => w_witness2)
  k_fill
  refine K31.walk (l := PySem.Challenge.rw_farshelf_k31_any_messages) rfl rfl (fun w h Y => W.kIn_of Y) ?F
  case F =>
    intro w mg fa h KX G hmg
    refine' K31.all_mk KX G hmg _ _ _ _ _ _ _ _ _ _ _ _ _ _ _ _ _ _ _ _ _ _ _ _ _ _ _ _ _ _ _ _ _ _ _ _ _ _ _ _ _ _ _ _ _ _ _ _ _ _ _ _ _ _ _ _ _ _ _ _ _ _ _ _ _ _ _ _ _ _ _ _ _ _ _ _ _ _ _ _ _ _ _ _ _ _ _ _ _ _ _ _ _ _ _ _ _ _ _ _ _ _ _ _ _ _ _ _ _ _ _ _ _ _ _ _ _ _ _ _ _ _ _ _ _ _ _ _ _ _ _ _ _ _ _ _ _ _ _ _ _ _ _ _ _ _ _ _ _ _ _ _ _ _ _ _ _ _ _ _ _ _ _ _ _ _ _ _ _ _ _ _ _ _ _ _ _ _ _ _ _ _ _ _ _ _ _ _ _ _ _ _ _ _ _ _ _ _ _ _ _
    any_goals (first | k_is | (unfold K31.nA; k_is) | (unfold K31.nL; k_is) | (unfold K31.nC; k_is) | (unfold K31.nK; k_is) | (unfold K31.nZ; k_is) | (unfold K31.nF; k_is))

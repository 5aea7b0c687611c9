import PyProof.Rows.All
import Wide.All
import OpenK.AllK
import Wide.FinOn
import Lean
import PyProof.EqAt
import PyProof.EqKinds
import PyProof.TupleCall
import PyProof.WalksEnum
import PyProof.EnumMake
import PyProof.Rows.EnumRows
import PyProof.NeData
import PyProof.ReprRoads
import PyProof.SumWalkG
import PyProof.StrLawsTight
import PyProof.Rows.StrNews
import PyProof.Rows.StrJoin2
import PyProof.Rows.CatFin
import PyProof.ConsumeWalk
import PyProof.StrWalks
import KE.KItemsList
import KE.KSortTup
import PyProof.ZipIter
import PyProof.ListRange
import PyProof.Rows.SeqMore
import KE.KDictLaws
import PySem.Challenge.RW_farshelf_k84_whole_what_is_written_stays
open Array renaming length_toList->xc,getElem?_toList->VR,toArray_toList->V0,getElem?_eq_none->aHd
open Bool renaming false_ne_true->df,and_eq_true->kM,eq_iff_iff->VZ,not_eq_true->aHb
open False renaming elim->pj
open ForInStep renaming yield->zq
open Function renaming comp_def->aHq
open Int renaming le_refl->rB,toNat_natCast->aqF,le_trans->arZ,emod_nonneg->ar0,natCast_nonneg->atz,emod_lt_of_pos->nW,lt_of_le_of_lt->awZ,le_of_lt->aBt
open List renaming getElem?_append_left->aU,length_append->eO,getElem?_eq_some_iff->cX,getElem?_append_right->br,length_set->bN,append_assoc->b8,mem_singleton->ly,getElem?_set_self->gK,map_cons->cP,map_append->cK,getElem?_map->bJ,length_map->nI,append_nil->nM,length_cons->p8,mem_of_getElem?->jr,getElem?_set_ne->gq,mem_cons->bL,getElem?_eq_getElem->dH,size_toArray->fM,replicate->ug,mem_map->gY,mem_append->lZ,mem_append_right->kg,range->kf,map_nil->jQ,mem_cons_of_mem->nQ,mem_filter->Cc,nodup_cons->jP,lookup_cons->nR,mem_cons_self->xb,append_cons->sM,zip_cons_cons->nV,drop_eq_getElem_cons->Cr,filter_eq_self->uV,length_drop->aik,length_singleton->pw,set_append_left->uT,mem_range->sH,lookup->uN,length_range->apk,length_take->Ce,length_replicate->apO,all_eq_true->gA,map_map->mJ,mem_append_left->qR,any_cons->uR,eq_nil_of_length_eq_zero->sN,not_mem_nil->dh,mem_of_mem_eraseIdx->aqH,getElem?_replicate->NK,find?_cons->Cj,length_zip->pz,nil_append->Wk,prefix_refl->ar1,getD->Cn,pairwise_cons->FQ,nodup_nil->atw,drop_length->FR,drop_zero->V7,length_filter_le->VT,getElem?_mapIdx->atA,mem_iff_getElem?->V5,getElem?_range->V6,mem_of_mem_drop->awO,take_length->aiF,take_of_length_le->awS,map->awT,map_drop->awU,take_prefix->awV,nodup_range->awW,nil_prefix->awX,length_zipIdx->awY,filterMap_cons->zk,of_mem_zip->NJ,getElem?_take_of_lt->VE,forIn_cons->FO,mem_of_mem_take->aBu,drop_of_length_le->aBw,length_mapIdx->aBy,ext_getElem?->aBz,getElem?_eq_none->uU,eq_of_mem_replicate->aBA,prefix_append->aBB,take_append_of_le_length->aBC,getD_eq_getElem?_getD->xl,mem_zipIdx_iff_getElem?->aBD,mem_filterMap->Vy,length_nil->uS,forIn_nil->NO,getElem_mem->Co,getElem?_eq_none_iff->aHa,cons_append->zr,take_append_drop->aiD,map_congr_left->Cs,set_append_right->Wb,mem_or_eq_of_mem_set->aiM,length_erase_of_mem->aHr,nodup_append->NZ,prefix_of_prefix_length_le->aHs,prefix_or_prefix_of_prefix->aHt,take_zero->aHu,set_getElem_self->aHw,flatMap_cons->aHz,length_take_le'->aHA,prefix_iff_eq_take->aHB
open List.Nodup renaming sublist->aHv
open Nat renaming le_trans->eK,le_refl->bO,lt_of_lt_of_le->dI,ne_of_lt->dR,zero_le->jO,le_succ->NI,sub_self->kj,lt_irrefl->mI,le_of_lt->nO,lt_succ_of_lt->Ck,ne_of_gt->apN,lt_succ_self->FN,le_of_not_lt->apP,lt_or_ge->NV,add_sub_cancel_left->NX,lt_of_le_of_lt->zp,succ_pos->V3,sub_succ_lt_self->atx,le_add_right->sJ,add_assoc->aty,not_lt->awN,add_sub_cancel->Cq,le_of_eq->VA,succ_lt_succ->V4,sub_zero->aBv,lt_of_le_of_ne->aBx,succ_le_succ->aiJ,le_of_ble_eq_true->cq,exists_eq_add_of_lt->aHh,add_right_comm->aHi,lt_succ_of_le->aHj,lt_of_succ_lt->aHk,min_eq_left->aHn,min_eq_right->aHo,le_succ_of_le->aHp,mul_le_mul_right->aHx,pow_le_pow_right->aHy
open Nat.succ renaming inj->eF
open Ne renaming symm->yd
open Option renaming bind_eq_some_iff->ak,map->aX,map_eq_some_iff->aY,bind_some->aoJ,isSome_iff_exists->VD,getD_none->ain,isSome_some->aip,isSome_map->VU,map_eq_none_iff->aHc
open Option.some renaming inj->IM,injEq->aiH
open Or renaming inl->ao3
open Prod renaming fst->VY
open PyProof.Rows renaming AllBare->wO,boot_max->aqG,slot_tuple_getitem->uQ,IntsAre->B6,boot_list->uX,boot_isinstance->uY,boot_tuple->awR,callWith_type1->Ny,boot_all->qV,entry_tuple_getitem->Vd,subscriptTail_builtinR->aib,boot_dict->aHl,boot_min->aHm
open PyProof.Rows.IsTup renaming new->Nw
open PySem renaming sizeLine->aM,wpAny_bind->az,starEach->ix,wpAny_pure->bF,NameKind->dQ,FuncData->kK,wpAny_mono->ja,mainGlobals->jN,codeAny->qQ,cellsFrom->nN,Spec->ie,sysModules->qO,wpAny_holding->uL,attributeBase->ao2,pushCells->wY,wpAny_letGo->Vs,plainId_quiet->Vo,mem_of_lookup->xh,wpAny_truthy_bool->uK,swapsWith->wQ,wpAny_passesOwn->zd,backToKw->B7,keywordEach->B8,wpAny_loadPart'->aqD,wpAny_newObj_type->qP,sliceBounds->zf,callerA->zg,valueAt->wX,wpAny_tryCatch->aqE,tupleKind->B1,bootBuiltins->B2,standAt->FH,behindInMarks->B3,BindsTo->B4,notedBy->B9,updateSeq->arX,wpAny_updateSeq->arY,sizeLine_eq->mG,codeAny_mono->B5,wpAny_Call_Name_kw->FJ,wpAny_pyIter_list->Vk,builtinsNs->Nk,wpAny_execs_nil->Nl,letOwnedTupleGo->Nm,wpAny_call->awI,tupleKind_room_in1->FK,pushCells_keeps->Nq,wpAny_getItem_str_slice->Nr,post_val_or_str->Nt,richCompare->awJ,codeAny_builtin->Ca,seqItems?->awK,wpAny_seqItems->wZ,wpAny_eqBool_int->aBo,wpAny_standAt->U8,wpAny_pyNext_list_end->aBp,foldedSetIterable->aBq,concat_meets->U9,wpAny_field->kL,wpAny_typeOf->Np,seqIndex_of->Vg,seqIndex_neg->Vh,call_meetsIn->FL,newFunctionEnv->Vj,Within->Vv,call->VS,wpAny_callSpecial?_slot->ze,wpAny_Call_method0_late->Vi,wpAny_comprehension_free->aG9,KeyKind->aie,evalArgs_none->VO,boot_len->Wc
open PySem.Around renaming under->NG,under_plainId->Cp
open PySem.Builtin.Builtins renaming bindParams->awQ
open PySem.Builtin.Slice renaming slicePlaces->zm,sliceAdjust->qa,sliceApplied->VI
open PySem.Builtin.Str renaming occurrences->Nz
open PySem.Builtin.Tuple renaming tupleExact->Cg,tupleItemsOf->VJ
open PySem.Calls renaming callWith_builtin->Ci,spliced_cons->NH,Name_function_global->aii,spliced_nil->VC,evalArgs_plain->VP
open PySem.Code renaming isFrame->VB
open PySem.F renaming plain_max_loop->aou,entry_max_loop->awP,slot_dict_get->VW,slot_tuple_add->VF,entry_tuple_add->VG,args_tuple_add_2->VH,entry_dict_get->air,args_dict_get_3->ais,plainAttrs_dict->NL,slot_dict_values->aiG,kind_max->aHe,plain_max->aHf,entry_max->aHg,plainAttrs_list->Wd
open PySem.Heap renaming lt_size->cW,get?_push_of_some->cB,get?_push_size->gc,size_push->p9,get?_update_other->VN,get?_update_self->aim,SameBut->Cd
open PySem.NameKind renaming cell->jR,free->qb
open PySem.Obj renaming mapSeq->zo
open PySem.Paired renaming length->Nv
open PySem.PassesOwn renaming never->sQ
open PySem.PyData renaming eqv->q9,strOk->fD,canLay0->sO,depth->sP,eqvAll->zu,canLayAll0->V8,depthAll->V9
open PySem.SeqAt.EqAt renaming int_str->aif,str_int->aih
open PySem.Str renaming ofString->ae
open PySem.Txt renaming slice->xj,slice_le->NP
open PySem.Value renaming ref->t5,type->apM,bool->zj,int->w6,str->zi,none->jb,float->Vu,isStrOf->aid
open PySem.W renaming Frag->ah,findIn->p7,mg_none_of->anZ,kia_one->qS,fnOf->qT,kia_tup->qU,isFn->apj,emptyDict->uM,instObj->xa,keepIn->uO,kitOne->xg,mg_of->qW,plainGet->NB,codeIn->Cf,lookIn->awM,hasDictIn->NC,kitx_list->ND,kitx_dict->NF,methodObj->Vx,plainGet_of->aBr,plainOver->Vz,callWith_K->aBs
open PySem.Walks renaming list->atv
open Sum renaming inl->zh,inr->cN
open Sum.inl renaming inj->awL
open True renaming intro->kh
set_option Elab.async false
set_option genSizeOf false
set_option bootstrap.genMatcherCode false
set_option compiler.extract_closed false
set_option linter.all false
set_option maxRecDepth 100000
noncomputable section
local macro_rules|`(tactic|let $x:ident $[$y]*:=$e)=>if y.size=0 then Lean.Macro.throwUnsupported else do
 let p (s:Lean.Syntax):Lean.MacroM (Lean.TSyntax `rcasesPat):=if s.isIdent then `(rcasesPat|$(⟨s⟩):ident) else `(rcasesPat|_)
 let q<-(#[x.raw]++y.map (·.raw)).mapM p
 `(tactic|obtain⟨$q,*⟩:=$e)
local macro_rules|`(-$x)=>if x.raw.isNatLit?.isSome then Lean.Macro.throwUnsupported else `(List.length $x)
local macro_rules|`($x\$y)=>`($x=some $y)
local macro_rules|`(!$y)=>`(some $y)
local macro_rules|`(#[$x,*])=>`(⟨$x,*⟩)
local macro_rules|`([$a,*]^^$c)=>`(by rw[$[$a:term],*];exact $c)|`($a^^$c)=>`(by rw[$a:term];exact $c)
local macro_rules|`(tactic|lk)=>`(tactic|first|assumption|contradiction)
theorem q_0(h:True:=by decide +kernel):True:=trivial
theorem q_1(h:True:=by decide):True:=trivial
theorem q_2(h:True:=by intro _;rfl):True:=trivial
theorem q_3(h:True:=by rfl):True:=trivial
theorem q_4(h:True:=by first | exact .inl rfl | exact .inr rfl | lk):True:=trivial
theorem q_5(h:True:=by exact rg _):True:=trivial
theorem q_6(h:True:=by first | exact .inl rfl | exact .inr rfl):True:=trivial
theorem aiR{p:Prop}[Decidable p](h:autoParam (decide p=false) q_0._auto_1):p=False:=eq_false (of_decide_eq_false h)
open Option renaming some->oF,none->oM
open Bool renaming true->oP,false->yv
open PySem renaming Value->zL,World->zQ,Program->zR,Addr->zI,Heap->zN,Around->zS,Shared->zM,Expr->zO,Stmt->zP
universe u
abbrev oT(α:Type u):=Option α
abbrev oH(α:Type u):=List α
theorem zJ{c:Prop}{h:Decidable c}(hc:c){α:Sort u}{t e:α}:ite c t e=t:=if_pos hc
theorem zK{c:Prop}{h:Decidable c}(hc:¬ c){α:Sort u}{t e:α}:ite c t e=e:=if_neg hc
theorem a_{p:Prop}(h:autoParam (p) q_1._auto_1):p:=h
theorem b_{p:Prop}(h:p:=by lia):p:=h
theorem c_{p:Prop}(h:autoParam (p) q_0._auto_1):p:=h
theorem d_{p:Prop}(h:p:=by with_unfolding_all rfl):p:=h
theorem e_{p:Prop}(h:p:=by simp):p:=h
theorem f_{p:Prop}(h:p:=by simp;lia):p:=h
theorem i_{α β:Type _}{o:Option α}{b:β}{f:α->Option β}(h:o.bind f=some b):∃a,o=some a/\f a=some b:=Option.bind_eq_some_iff.mp h
namespace L2
open PySem PySem.Spec PyProof.Rows
noncomputable abbrev bc:=Sum Int Str
noncomputable def sR:bc->zL->Bool
 |.inl k,v=>Value.isInt k v
 |.inr x,v=>aid x v
noncomputable def Wl (w:zQ):bc->Int
 |.inl k=>hashInt k
 |.inr x=>hashStr w x
theorem mK:∀{k:bc} {v:zL},sR k v=oP->(∃i t,k=zh i/\v=w6 i t)\/(∃x t,k=cN x/\v=zi x t)
 |.inl i,v,h=>by
  let t e:=Value.isInt_shape (k:=i) (v:=v) h;exact .inl #[i,t,rfl,e]
 |.inr x,v,h=>by
  let t e:=Value.isStrOf_shape (x:=x) (v:=v) h;exact .inr #[x,t,rfl,e]
theorem Wm(i:Int)(t:Tok):sR (.inl i) (.int i t)=oP:=by simp[sR,Value.isInt]
theorem Wn(x:Str)(t:Tok):sR (.inr x) (.str x t)=oP:=by simp[sR,aid]
theorem N5(a b:Int):decide ((zh a:bc)=zh b)=(a == b):=by
 by_cases e:a=b
 .subst e;simp
 .have h:¬ (zh a:bc)=zh b:=λq=>e (awL q);rw[decide_eq_false h];exact(beq_eq_false_iff_ne.mpr e).symm
theorem N6(a b:Str):decide ((cN a:bc)=cN b)=decide (a=b):=by
 by_cases e:a=b
 .subst e;simp
 .have h:¬ (cN a:bc)=cN b:=λq=>e (cN.inj q);rw[decide_eq_false h,decide_eq_false e]
theorem Wo(a:Int)(b:Str):decide ((zh a:bc)=cN b)=yv:=decide_eq_false (λq=>nomatch q)
theorem Wq(a:Str)(b:Int):decide ((cN a:bc)=zh b)=yv:=decide_eq_false (λq=>nomatch q)
def gL(prog:zR)(w:zQ):aie prog w bc where
 is:=sR
 hash:=Wl w
 inj:=λv a b ha hb=>by
  rcases mK ha with⟨i,t,rfl,rfl⟩ | ⟨x,t,rfl,rfl⟩
  .rcases mK hb with⟨j,u,rfl,e⟩ | ⟨y,u,rfl,e⟩
   .injection e with e1 _;rw[e1]
   .exact nomatch e
  .rcases mK hb with⟨j,u,rfl,e⟩ | ⟨y,u,rfl,e⟩
   .exact nomatch e
   .injection e with e1 _;rw[e1]
 byValue:=λk v h=>by
  rcases mK h with⟨i,t,rfl,rfl⟩ | ⟨x,t,rfl,rfl⟩ <;> rfl
 pyHash:=λhv h=>by
  rcases mK hv with⟨i,t,rfl,rfl⟩ | ⟨x,t,rfl,rfl⟩
  .exact wpAny_pyHash_int h
  .exact wpAny_pyHash_str h
 eqBool:=λhu hv h=>by
  rcases mK hu with⟨i,t,rfl,rfl⟩ | ⟨x,t,rfl,rfl⟩
  .rcases mK hv with⟨j,u,rfl,rfl⟩ | ⟨y,u,rfl,rfl⟩
   .rw[N5]at h;exact aBo h
   .rw[Wo]at h;exact aif i t y u _ _ _ _ h
  .rcases mK hv with⟨j,u,rfl,rfl⟩ | ⟨y,u,rfl,rfl⟩
   .rw[Wq]at h;exact aih x t j u _ _ _ _ h
   .rw[N6]at h;exact wpAny_eqBool_str h
 «strs»:=λk x t v h=>by
  rcases mK h with⟨i,u,rfl,e⟩ | ⟨y,u,rfl,e⟩
  .exact nomatch e
  .injection e with e1 _
   subst e1;cases v <;> rfl
theorem FU(prog:zR)(w:zQ)(i:Int)(t:Tok):(gL prog w).is (.inl i) (.int i t)=oP:=Wm i t
theorem FV(prog:zR)(w:zQ)(x:Str)(t:Tok):(gL prog w).is (.inr x) (.str x t)=oP:=Wn x t
inductive V where
 |aG | bl (b:Bool) | int (i:Int) | str (x:Str) | uZ (b:Array UInt8) | kl (b:UInt64) | ref (a:zI) | ty (n:String)
 deriving DecidableEq
def RelV:V->zL->Prop
 |.aG,u=>u=jb
 |.bl b,u=>u=zj b
 |.int i,u=>∃t,u=w6 i t
 |.str x,u=>∃t,u=zi x t
 |.uZ b,u=>∃t,u=Value.bytes b t
 |.kl b,u=>∃t,u=Vu b t
 |.ref a,u=>u=t5 a
 |.ty n,u=>u=apM n
abbrev bj:oH V->oH zL->Prop:=Paired RelV
theorem bj.length{xs:oH V}{us:oH zL}(r:bj xs us):-xs=-us:=Nv r
theorem bj.get:∀{xs:oH V} {us:oH zL} {i:Nat} {x:V},bj xs us->xs[i]?\x->∃u,us[i]?\u/\RelV x u
 |_,_,_,_, .nil,e=>by simp at e
 |_,_,0,_, .cons r _,e=>by simp at e;subst e;exact#[_,rfl,r]
 |_,_,i + 1,x, .cons _ t,e=>by
  let u h1 h2:=bj.get (i:=i) (x:=x) t (by simpa using e);exact#[u,by simpa using h1,h2]
theorem bj.set(r:RelV x u):∀{xs:oH V} {us:oH zL} (i:Nat),bj xs us->bj (xs.set i x) (us.set i u)
 |_,_,_, .nil=> .nil
 |_,_,0, .cons _ t=> .cons r t
 |_,_,i + 1, .cons q t=> .cons q (bj.set r i t)
theorem bj.append:∀{xs ys:oH V} {us ws:oH zL},bj xs us->bj ys ws->bj (xs++ys) (us++ws)
 |_,_,_,_, .nil,s=>s
 |_,_,_,_, .cons r t,s=> .cons r (bj.append t s)
theorem bj.take:∀{xs:oH V} {us:oH zL} (n:Nat),bj xs us->bj (xs.take n) (us.take n)
 |_,_,0,_=> .nil
 |_,_,_ + 1, .nil=> .nil
 |_,_,n + 1, .cons r t=> .cons r (bj.take n t)
theorem bj.drop:∀{xs:oH V} {us:oH zL} (n:Nat),bj xs us->bj (xs.drop n) (us.drop n)
 |_,_,0,r=>r
 |_,_,_ + 1, .nil=> .nil
 |_,_,n + 1, .cons _ t=>bj.drop n t
def kN:oT V->oT zL->Prop
 |some v,!u=>RelV v u
 |none,oM=>True
 |_,_=>False
def KV{κ:Type}:oH (κ×V)->oH (κ×zL)->Prop:=Paired λ(p:κ×V) (q:κ×zL)=>p.1=q.1/\RelV p.2 q.2
noncomputable def kV:bc->V
 |.inl i=> .int i
 |.inr x=> .str x
inductive HO where
  |lst (xs:List V)
  |tup (xs:List V)
  |dK (cf:List (bc×V)) | dT (cf:List (List bc×V))
  |set (S:Int->Bool) (n:Nat)
  |ins (C dx:zI) (fs:List (Str×V))
  |own (x:zI)
  |xd (fs:List (Str×V))
  |met (f x:zI)
  |FW (lo hi:Int)
  |b9 (o:Obj) (u:HO)
  |apl (ps:Array zL)
  |ext (φ:zN->Prop)
noncomputable abbrev Hp:=zI->oT HO
noncomputable def dm (H:Hp) (a:zI) (o:HO):Hp:=λb=>if b=a then oF o else H b
theorem uB:dm H a o a\o:=by rw[dm];rw[zJ rfl]
theorem ba{H:Hp}(h:b≠a):dm H a o b=H b:=by rw[dm];rw[zK h]
theorem aBE{H:Hp}(h:H a\o)(h':H b\u)(d:o≠u):a≠b:=by
 intro e;subst e;rw[h]at h';exact d (IM h')
theorem gM{H:Hp}(h:H a\o)(h':H b=oM):a≠b:=by
 intro e;subst e;rw[h]at h';lk
section
variable (P:zR)(w:zQ)
def va(H:Hp)(h:zN)(a:zI):HO->Prop
 |.lst xs=>-xs<=aM/\∃(ag:oH zL) (n:Nat),bj xs ag/\h.get? a=oF { cls:= .type "list",data:= .seq ag.toArray n }
 |.tup xs=>-xs<=aM/\∃ag:oH zL,bj xs ag/\IsTup h a ag.toArray
 |.dK cf=>-cf<=aM/\(a == qO)=yv/\∃vs,KV cf vs/\h.DictOf (gL P w) a vs
 |.dT cf=>-cf<=aM/\(a == qO)=yv/\∃xs:oH (oH bc×zI×zL),
   Paired (λ(p:oH bc×V) (q:oH bc×zI×zL)=>p.1=q.1/\H q.2.1\.tup (p.1.map kV)/\RelV p.2 q.2.2) cf xs/\
   ∃o es ep,h.get? a\o/\o.ExactDict/\o.data= .dict es ep/\es.toList=xs.map (entryOfKey (B1 (gL P w)))/\(xs.map (·.1)).Nodup
 |.set S n=>h.SetOf (intKind P w) a S n
 |.ins C dx fs=>H dx\.own a/\-fs<=1000/\dx≠a/\h.get? a\xa C dx/\
   ∃mA,h.Ns1 dx mA/\(∀f,kN (fs.lookup f) (mA f))/\Vv mA (fs.map (·.1))
 |.own _=>∃o,h.get? a\o
 |.xd fs=>∃mA,h.Ns1 a mA/\∀f,kN (fs.lookup f) (mA f)
 |.FW lo hi=>∃t u v,h.get? a=oF { cls:= .type "range",data:= .fields (List.toArray [.int lo t, .int hi u, .int 1 v]) }
 |.b9 o u=>h.get? a\o/\va H h a u
 |.apl ps=>h.get? a=oF { cls:= .none,data:= .fields ps }
 |.met f x=>h.get? a\Vx (.ref f) (.ref x)
 |.ext φ=>φ h/\(∃o,h.get? a\o)/\∀h1 h2:zN,φ h1->(∀o,h1.get? a\o->h2.get? a\o)->φ h2
def gB(H:Hp)(h:zN):Prop:=∀a o,H a\o->va P w H h a o
end
section
variable {P:zR}{w:zQ}{H H':Hp}{h h':zN}{a:zI}{o:HO}
theorem va.lt(x:va P w H h a o):a < h.objs.size:=by
 cases o with
 |lst xs=>obtain⟨_,_,_,_,e⟩:=x;exact cW e
 |tup xs=>obtain⟨_,_,_,p⟩:=x;exact p.lt
 |dK cf=>obtain⟨_,_,_,_,o,_,_,e,_⟩:=x;exact cW e
 |dT cf=>obtain⟨_,_,_,_,o,_,_,e,_⟩:=x;exact cW e
 |set S n=>let o _ _ _ e _:=x;exact cW e
 |ins C dx fs=>obtain⟨_,_,_,e,_⟩:=x;exact cW e
 |own y=>obtain⟨_,e⟩:=x;exact cW e
 |xd fs=>obtain⟨_,⟨_,_,_,e,_⟩,_⟩:=x;exact cW e
 |FW lo hi=>obtain⟨_,_,_,e⟩:=x;exact cW e
 |b9 ob u=>let e _:=x;exact cW e
 |apl ps=>exact cW (show h.get? a\_ from x)
 |met f y=>exact cW (show h.get? a\_ from x)
 |ext φ=>obtain⟨_,⟨_,e⟩,_⟩:=x;exact cW e
theorem Paired.FX{α β:Type}{F G:α->β->Prop}:∀{l₁:oH α} {l₂:oH β},Paired F l₁ l₂->(∀a b,F a b->G a b)->Paired G l₁ l₂
 |_,_, .nil,_=> .nil
 |_,_, .cons r t,f=> .cons (f _ _ r) (Paired.FX t f)
theorem va.gO(x:va P w H h a o)(k:∀b u,(b=a\/H b\.own a)->h.get? b\u->h'.get? b\u)
  (ho:∀b,H b\.own a->H' b\.own a) (ht:∀b xs,H b\.tup xs->H' b\.tup xs):va P w H' h' a o:=by
 induction o with
 |lst xs=>let z ag n r e:=x;exact#[z,ag,n,r,k _ _ (.inl rfl) e]
 |tup xs=>let z ag r ob e c:=x;exact#[z,ag,r,ob,k _ _ (.inl rfl) e,c]
 |dK cf=>let z y vs r ob es ep e c:=x;exact#[z,y,vs,r,ob,es,ep,k _ _ (.inl rfl) e,c]
 |dT cf=>
  let z y xs r ob es ep e c:=x;exact#[z,y,xs,Paired.FX r λp q z=>#[z.1,ht _ _ z.2.1,z.2.2],ob,es,ep,k _ _ (.inl rfl) e,c]
 |set S n=>let ob es ep t e c:=x;exact#[ob,es,ep,t,k _ _ (.inl rfl) e,c]
 |ins C dx fs=>
  obtain⟨d,z,ne,e,mA,⟨od,es,ep,e2,c⟩,r⟩:=x;exact#[ho _ d,z,ne,k _ _ (.inl rfl) e,mA,#[od,es,ep,k _ _ (.inr d) e2,c],r]
 |own y=>let ob e:=x;exact#[ob,k _ _ (.inl rfl) e]
 |xd fs=>obtain⟨mA,⟨od,es,ep,e,c⟩,r⟩:=x;exact#[mA,#[od,es,ep,k _ _ (.inl rfl) e,c],r]
 |FW lo hi=>let t u v e:=x;exact#[t,u,v,k _ _ (.inl rfl) e]
 |b9 ob u ih=>let e q:=x;exact#[k _ _ (.inl rfl) e,ih q]
 |apl ps=>
  have e:h.get? a=oF { cls:= .none,data:= .fields ps }:=x;show h'.get? a=oF { cls:= .none,data:= .fields ps };exact k a _ (.inl rfl) e
 |met f y=>
  have e:h.get? a\Vx (.ref f) (.ref y):=x;show h'.get? a\Vx (.ref f) (.ref y);exact k a _ (.inl rfl) e
 |ext φ=>obtain⟨p,⟨o,e⟩,st⟩:=x;exact#[st _ _ p λo q=>k _ _ (.inl rfl) q,#[o,k _ _ (.inl rfl) e],st]
theorem gB.lt(x:gB P w H h)(e:H a\o):a < h.objs.size:=(x a o e).lt
theorem gB.fresh(x:gB P w H h)(e:h.objs.size<=a):H a=oM:=by
 cases q:H a with
 |none=>rfl
 |some u=>exact absurd (dI (x.lt q) e) (mI _)
theorem gB.kept(x:gB P w H h)(k:∀b u,h.get? b\u->h'.get? b\u):gB P w H h':=λa o e=>
 (x a o e).gO (λb u _ q=>k b u q) (λ_ q=>q) λ_ _ q=>q
theorem gB.laid(x:gB P w H h)(k:∀b u,h.get? b\u->h'.get? b\u)(hp:h.objs.size<=a)(new:va P w (dm H a o) h' a o):gB P w (dm H a o) h':=λb u e=>by
 have hn:=x.fresh hp;by_cases hb:b=a
 .subst hb;rw[uB]at e;cases e;lk
 .rw[ba hb]at e;exact(x b u e).gO (λc v _ q=>k c v q) (λc q=>ba (gM q hn)^^q) λc xs q=>ba (gM q hn)^^q
end
def Rd(H:Hp)(a:zI)(u:HO):Prop:=H a\u\/∃o,H a\.b9 o u
theorem Rd.ok{P:zR}{w:zQ}{H:Hp}{h:zN}{a:zI}(r:Rd H a u)(x:gB P w H h):va P w H h a u:=by
 rcases r with r | ⟨o,r⟩
 .exact x a u r
 .obtain⟨_,q⟩:=x a _ r;lk
def iB:oT HO->Prop
 |some (.lst _)=>True
 |some (.dK _)=>True
 |some (.dT _)=>True
 |some (.set _ _)=>True
 |some (.ins _ _ _)=>True
 |some (.ext _)=>True
 |_=>False
section
variable {P:zR}{w:zQ}{H:Hp}{h h':zN}{x e:zI}
theorem gB.write(ok:gB P w H h)(mu:iB (H x))(he:e=x\/H e\.own x)(k:∀b u,b≠e->h.get? b\u->h'.get? b\u)(xn:∃u,h'.get? e\u)
  (new:va P w (dm H x o') h' x o'):gB P w (dm H x o') h':=λb u q=>by
 have N7:∀c y,H c\.own y->c≠x:=λc y r z=>by subst z;rw[r]at mu;lk
 have Ws:∀c xs,H c\.tup xs->c≠x:=λc xs r z=>by subst z;rw[r]at mu;lk
 by_cases hb:b=x
 .subst hb;rw[uB]at q;cases q;lk
 .rw[ba hb]at q;by_cases apm:b=e
  .have q':H b\.own x:=by
    rcases he with z | z
    .exact absurd (apm.trans z) hb
    .rw[apm];lk
   rw[q]at q';cases q';let v hv:=xn;exact#[v,apm^^hv]
  .refine(ok b u q).gO (λc v hc r=>k c v ?_ r) (λc r=>ba (N7 c b r)^^r) λc xs r=>ba (Ws c xs r)^^r
   rcases hc with rfl | hc
   .lk
   .rintro rfl;rcases he with z | z
    .exact N7 c b hc z
    .rw[hc]at z;cases z;exact hb rfl
end
structure Un(fs ex:List zI)(H H':Hp)(h h':zN):Prop where
 keep:∀b o,h.get? b=oF o->H b=oM->b∉fs->b∉ex->h'.get? b=oF o
 slot:∀b o,h.get? b=oF o->H b=oM->b∈fs->b∉ex->∃sl,h'.get? b=oF { o with slots:=sl }
 free:∀b o,h.get? b=oF o->H b=oM->b∉ex->H' b=oM
 there:∀b o,h.get? b=oF o->b∉ex->∃o',h'.get? b=oF o'
 mL:∀b xs,H b=oF (.tup xs)->H' b=oF (.tup xs)
 aov:∀b o u,H b=oF (.b9 o u)->H' b=oF (.b9 o u)
 qd:∀b ps,H b=oF (.apl ps)->∃more,H' b=oF (.apl (ps++more))
section
variable {fs zw ex aiS:oH zI}{H H1 H2:Hp}{h h1 h2 h':zN}{a x e:zI}{o:HO}
theorem Un.any(u:Un fs ex H H1 h h1){ob:Obj}(q:h.get? b\ob)(n:H b=oM)(hx:b∉ex):∃sl,h1.get? b=oF { ob with slots:=sl }:=by
 by_cases hb:b∈fs
 .exact u.slot b ob q n hb hx
 .exact#[ob.slots,u.keep b ob q n hb hx]
theorem Un.kept(k:∀b u,h.get? b\u->h'.get? b\u):Un fs ex H H h h':=
 #[λb ob q _ _ _=>k b ob q,λb ob q _ _ _=>#[ob.slots,k b ob q],λ_ _ _ n _=>n,λb ob q _=>#[ob,k b ob q],λ_ _ q=>q,λ_ _ _ q=>q,λ_ ps q=>#[(List.toArray []),by rw[q];simp]]
theorem Un.refl:Un fs ex H H h h:=Un.kept λ_ _ q=>q
theorem Un.laid(k:∀b u,h.get? b\u->h'.get? b\u)(hp:h.objs.size<=a)(hn:H a=oM):Un fs ex H (dm H a o) h h' where
 keep:=λb u q _ _ _=>k b u q
 slot:=λb u q _ _ _=>#[u.slots,k b u q]
 free:=λb u q n _=>ba (dR (dI (cW q) hp))^^n
 there:=λb u q _=>#[u,k b u q]
 mL:=λb xs q=>ba (gM q hn)^^q
 aov:=λb u xs q=>ba (gM q hn)^^q
 qd:=λb ps q=>#[(List.toArray []),by rw[ba (gM q hn),q];simp]
theorem Un.write(mu:iB (H x))(he:e=x\/H e\.own x)(k:∀b u,b≠e->h.get? b\u->h'.get? b\u)(xn:∃u,h'.get? e\u):Un fs ex H (dm H x o) h h':=by
 have hx:∀b,H b=oM->b≠x:=λb n z=>by subst z;rw[n]at mu;lk
 have hb:∀b,H b=oM->b≠e:=λb n z=>by
  subst z;rcases he with r | r
  .exact hx b n r
  .rw[n]at r;lk
 have hm:∀b u,H b\u->¬ iB (!u)->b≠x:=λb u q nm z=>by subst z;rw[q]at mu;exact nm mu
 refine#[λb u q n _ _=>k b u (hb b n) q,λb u q n _ _=>#[u.slots,k b u (hb b n) q],λb u q n _=>ba (hx b n)^^n,λb u q _=> ?_,
  λb xs q=>ba (hm b _ q λz=>z)^^q,λb u xs q=>ba (hm b _ q λz=>z)^^q,λb ps q=>#[(List.toArray []),by rw[ba (hm b _ q λz=>z),q];simp]]
 by_cases apm:b=e
 .subst apm;lk
 .exact#[u,k b u apm q]
end
noncomputable def xo (h:zN) (H:Hp):oH zI:=(kf h.objs.size).filter λa=>(H a).isSome
def qX(h:zN)(H:Hp):zN:=W.hideAll h (xo h H)
theorem Wt(h:zN)(H:Hp):(qX h H).objs.size=h.objs.size:=W.hideAll_size _ _
theorem Wu{h:zN}{H:Hp}{o:Obj}(e:h.get? b\o)(n:H b=oM):(qX h H).get? b\o:=
 W.hideAll_get _ e λhm=>by
  have q:(H b).isSome=oP:=(Cc.mp hm).2;rw[n]at q;simp at q
theorem Wv{h:zN}{H:Hp}{o:Obj}(e:(qX h H).get? b\o):h.get? b\o/\H b=oM:=by
 have e':h.get? b\o:=W.of_hideAll (xo h H) e;refine#[e', ?_];cases q:H b with
 |none=>rfl
 |some x=>
  have hm:b∈xo h H:=Cc.mpr #[sH.mpr (cW e'),by simp[q]];have z:(qX h H).get? b=oM:=W.hideAll_none (xo h H) hm;rw[z]at e;lk
structure Mod(K:ah)(mg:Str->Option zL)(base:zN):Prop where
 Cw:K.In base
 glob:base.Ns jN mg
 blt:∃mb,base.Ns Nk mb/\∀x:Str,x≠"__name__"->mb x=B2 x
 nolimit:base.NoLimit
structure Cx where
 prog:zR
 w:zQ
 K:ah
 mg:Str->Option zL
 base:zN
 A:zS
 N:List Str
 xP:zM
 sS:Hp
 env:Env
 outer:List Env
 stack:List Env
 ex:List zI
 fn:Str->Bool
 calm:Bool
 pn:List (zI×Obj)
 xe:zL->zM->Prop
noncomputable def ahf (l:oH Env):oH zI:=l.filterMap (·.frame)
abbrev Cx.fs(X:Cx):oH zI:=ahf X.outer
def FY(sc:Scope)(x:Str):Prop:=sc.names.lookup x\.local\/sc.names.lookup x\.cell\/sc.names.lookup x\.free
def Loc(sc:Scope)(x:Str):Prop:=sc.names.lookup x\.local\/sc.names.lookup x\.cell
def Look(env:Env)(h:zN)(m:Str->oT zL)(x:Str)(u:zL):Prop:=
 (env.kindOf x\.local/\m x\u)\/((env.kindOf x\.cell\/env.kindOf x\.free)/\∃c,env.cells.lookup x\c/\h.IsCell c (!u))
structure Cx.Ok(X:Cx):Prop where
 mod:Mod X.K X.mg X.base
 kind:X.env.scope.kind= .function
 glob:X.env.globals=jN
 blt:X.env.builtins=Nk
 above:X.xP.heap.objs.size<=X.env.locals
 inj:∀x y c,X.env.cells.lookup x=oF c->X.env.cells.lookup y=oF c->x=y
 has:∀x,(X.env.kindOf x=oF .cell\/X.env.kindOf x=oF .free)->∃c,X.env.cells.lookup x=oF c
 zA:∀x c,X.fn x=oP->X.env.cells.lookup x=oF c->X.xP.heap.objs.size<=c
 hd:X.calm=oP->X.A.handled=oM
 frames:X.A.frames=oF X.stack
 u9:X.stack=X.outer\/(X.stack=X.env::X.outer/\X.env.frame=oF X.env.locals)
 N8:∀b∈X.ex,b≠X.env.locals/\∀x c,X.env.cells.lookup x=oF c->c≠b
 bs:∀b o,X.base.get? b=oF o->X.xP.heap.get? b=oF o/\X.sS b=oM
 qe:X.base.objs.size<=X.xP.heap.objs.size
 zB:∀b o,X.base.get? b=oF o->b∉X.ex
 Cy:∀b∈X.ex,b∉X.fs
 nX:X.xP.heap.FunFrames X.base X.outer
 vc:∀b∈X.fs,X.sS b=oM
structure Inv(X:Cx)(ab:List (zI×Obj))(σ:List (Option V))(H:Hp)(s:zM):Prop where
 ok:X.Ok
 os:s.os=X.xP.os
 bare:wO s.gens
 base:Un X.fs X.ex X.sS H X.xP.heap s.heap
 loc:∃m,s.heap.Ns X.env.locals m/\∀(i:Nat) (x:Str) (v:V),X.N[i]?=oF x->σ[i]?=oF (oF v)->FY X.env.scope x->∃u,RelV v u/\Look X.env s.heap m x u
 cell:∀x c,X.env.cells.lookup x=oF c->∃v,s.heap.IsCell c v
 free:H X.env.locals=oM
 nY:∀x c,X.env.cells.lookup x=oF c->H c=oM
 pin:∀p∈X.pn++ab,s.heap.get? p.1=oF p.2/\H p.1=oM/\p.1≠X.env.locals/\p.1∉X.fs/\∀v,p.2.data≠ .cell v
 aQ:gB X.prog X.w H s.heap
 len:σ.length=X.N.length
section
variable {X:Cx}{ab:oH (zI×Obj)}{σ:oH (oT V)}{H H':Hp}{s:zM}
theorem Cx.Ok.aBF(ok:X.Ok){o:Obj}(e:X.base.get? b\o):b∉X.fs:=λhb=>by
 have:=(ok.nX.mem hb).1;rw[e]at this;lk
theorem Inv.bs(I:Inv X ab σ H s):∀b o,X.base.get? b\o->s.heap.get? b\o/\H b=oM:=λb o e=>
 #[I.base.keep b o (I.ok.bs b o e).1 (I.ok.bs b o e).2 (I.ok.aBF e) (I.ok.zB b o e),I.base.free b o (I.ok.bs b o e).1 (I.ok.bs b o e).2 (I.ok.zB b o e)]
theorem Inv.bk(I:Inv X ab σ H s):∀b o,X.base.get? b\o->s.heap.get? b\o:=λb o e=>(I.bs b o e).1
theorem Inv.mod(I:Inv X ab σ H s):Mod X.K X.mg X.base:=I.ok.mod
theorem Inv.fN(I:Inv X ab σ H s):X.K.In s.heap:=I.ok.mod.Cw.keeps I.bk
theorem Inv.lt(I:Inv X ab σ H s):X.env.locals < s.heap.objs.size:=let #[_,hn,_]:=I.loc;hn.lt
theorem Inv.sz(I:Inv X ab σ H s):X.xP.heap.objs.size<=s.heap.objs.size:=eK I.ok.above (nO I.lt)
theorem Inv.FZ(I:Inv X ab σ H s){a:zI}(h:s.heap.objs.size<=a):a∉X.fs:=λhb=>by
 obtain⟨_,o,ho,_⟩:=I.ok.nX.mem hb;exact absurd (dI (cW ho) (eK I.sz h)) (mI _)
theorem Inv.vd(I:Inv X ab σ H s):∀x c,X.env.cells.lookup x\c->c≠X.env.locals:=λx c e z=>by
 let v o ho hd:=I.cell x c e;obtain⟨m,⟨o',es,ep,jS,pA,_⟩,_⟩:=I.loc;rw[z,jS]at ho;cases ho;rw[pA]at hd;lk
theorem Inv.nX(I:Inv X ab σ H s):s.heap.FunFrames X.base X.outer:=by
 have all:∀(l:oH Env),(∀b∈ahf l,b∈X.fs)->X.xP.heap.FunFrames X.base l->s.heap.FunFrames X.base l:=by
  intro l
  induction l with
  |nil=>intro _ _;trivial
  |cons env r ih=>
   intro hs hl;obtain⟨hk,⟨L,o,hf,hn,ho,hd⟩,hr⟩:=hl;have hL:L∈X.fs:=hs L (by rw[ahf];rw[zk,hf];exact xb);let sl e:=I.base.slot L o ho (I.ok.vc L hL) hL λz=>I.ok.Cy L z hL;exact#[hk,#[L,_,hf,hn,e,hd],ih (λb hb=>hs b (by rw[ahf];rw[zk,hf];exact nQ _ hb)) hr]
 exact all X.outer (λ_ hb=>hb) I.ok.nX
theorem Inv.stack(I:Inv X ab σ H s):s.heap.FunFrames X.base X.stack:=by
 rcases I.ok.u9 with e | ⟨e,hf⟩
 .rw[e];exact I.nX
 .rw[e];let m hn _:=I.loc;refine .cons (by rw[I.ok.kind];decide) hf hn ?_ I.nX;exact Heap.get?_none_of_le (eK I.ok.qe I.ok.above)
theorem Inv.zC(I:Inv X ab σ H s):∀b∈ahf X.stack,b∈X.env.locals::X.fs:=λb hb=>by
 rcases I.ok.u9 with e | ⟨e,hf⟩
 .rw[e]at hb;exact nQ _ hb
 .rw[e]at hb;rw[ahf]at hb;rw[zk,hf]at hb;lk
theorem Inv.N9(I:Inv X ab σ H s):∀b∈ahf X.stack,H b=oM:=λb hb=>by
 rcases bL.mp (I.zC b hb) with e | hb
 .rw[e];exact I.free
 .obtain⟨_,o,ho,_⟩:=I.ok.nX.mem hb;exact I.base.free b o ho (I.ok.vc b hb) λz=>I.ok.Cy b z hb
theorem Inv.step{g':Array GenState}{t':Nat}{d':Drawn}{ch:oH zI}(I:Inv X ab σ H s)
  (sT:∀b∈ch,(b∈X.ex\/X.xP.heap.objs.size<=b)/\b≠X.env.locals/\(∀x c,X.env.cells.lookup x\c->c≠b)/\∀p∈X.pn++ab,p.1≠b)
  (keep:∀b o,b≠X.env.locals->b∉X.fs->b∉ch->s.heap.get? b\o->H b=oM->h'.get? b\o)
  (slot:∀b o,b≠X.env.locals->b∈X.fs->b∉ch->s.heap.get? b\o->H b=oM->∃sl,h'.get? b=oF { o with slots:=sl }) (free:∀b o,b∉ch->s.heap.get? b\o->H b=oM->H' b=oM)
  (there:∀b o,b∉ch->s.heap.get? b\o->∃o',h'.get? b\o')
  (mL:∀b xs,H b\.tup xs->H' b\.tup xs) (aov:∀b o u,H b\.b9 o u->H' b\.b9 o u) (qd:∀b ps,H b\.apl ps->∃more,H' b\.apl (ps++more))
  (ns:∀m,s.heap.Ns X.env.locals m->h'.Ns X.env.locals m) (aQ:gB X.prog X.w H' h') (hg:wO g'):
  Inv X ab σ H' { s with heap:=h',gens:=g',drawn:=d',toks:=t' }:=by
 have Oa:∀b o,X.xP.heap.get? b\o->b≠X.env.locals:=λb o e=>dR (dI (cW e) I.ok.above);have Cz:∀b o,X.xP.heap.get? b\o->b∉X.ex->b∉ch:=λb o e hx hb=>by
  rcases(sT b hb).1 with z | z
  .exact hx z
  .exact absurd (dI (cW e) z) (mI _)
 have cellK:∀x c,X.env.cells.lookup x\c->∀v,s.heap.IsCell c v->h'.IsCell c v:=λx c e v #[o,ho,hd]=>by
  have aqI:c∉ch:=λz=>(sT c z).2.2.1 x c e rfl;by_cases hc:c∈X.fs
  .let sl q:=slot c o (I.vd x c e) hc aqI ho (I.nY x c e);exact#[_,q,hd]
  .exact#[o,keep c o (I.vd x c e) hc aqI ho (I.nY x c e),hd]
 refine#[I.ok,I.os,hg,#[λb o e n hb hx=> ?_,λb o e n hb hx=> ?_,λb o e n hx=> ?_,λb o e hx=> ?_,λb xs e=>mL b xs (I.base.mL b xs e),λb o xs e=>aov b o xs (I.base.aov b o xs e),λb ps e=> ?_], ?_,λx c e=> ?_, ?_,λx c e=> ?_,λp hp=> ?_,aQ,I.len]
 .exact keep b o (Oa b o e) hb (Cz b o e hx) (I.base.keep b o e n hb hx) (I.base.free b o e n hx)
 .let sl e1:=I.base.slot b o e n hb hx;let F0 e2:=slot b _ (Oa b o e) hb (Cz b o e hx) e1 (I.base.free b o e n hx);exact#[F0,e2]
 .let o' e1:=I.base.there b o e hx;exact free b o' (Cz b o e hx) e1 (I.base.free b o e n hx)
 .let o' e1:=I.base.there b o e hx;exact there b o' (Cz b o e hx) e1
 .let m1 e1:=I.base.qd b ps e;let m2 e2:=qd b _ e1;exact#[m1++m2,by rw[e2,Array.append_assoc]]
 .let m hn hl:=I.loc;refine#[m,ns m hn,λi x v e1 e2 e3=> ?_];let u r l:=hl i x v e1 e2 e3;refine#[u,r, ?_];rcases l with l | ⟨k,c,e,z⟩
  .exact .inl l
  .exact .inr #[k,c,e,cellK x c e _ z]
 .let v z:=I.cell x c e;exact#[v,cellK x c e v z]
 .obtain⟨m,⟨o,_,_,ho,_⟩,_⟩:=I.loc;exact free _ o (λz=>(sT _ z).2.1 rfl) ho I.free
 .let v o ho hd:=I.cell x c e;exact free c o (λz=>(sT c z).2.2.1 x c e rfl) ho (I.nY x c e)
 .let e n ne nf d:=I.pin p hp;have aqI:p.1∉ch:=λz=>(sT p.1 z).2.2.2 p hp rfl;exact#[keep p.1 p.2 ne nf aqI e n,free p.1 p.2 aqI e n,ne,nf,d]
theorem Inv.un{t':Nat}(I:Inv X ab σ H s)(u:Un X.fs [] H H' s.heap h')(aQ:gB X.prog X.w H' h'):Inv X ab σ H' { s with heap:=h',toks:=t' }:=by
 obtain⟨m,⟨o,es,ep,ho,r⟩,_⟩:=id I.loc;let sl hL:=u.any ho I.free e_;exact I.step (g':=s.gens) (d':=s.drawn) (ch:= []) (λ_ z=>nomatch z) (λb o _ hb _ e n=>u.keep b o e n hb e_) (λb o _ hb _ e n=>u.slot b o e n hb e_) (λb o _ e n=>u.free b o e n e_) (λb o _ e=>u.there b o e e_) u.mL u.aov u.qd (λm' hm=>by
  let o' sU CA jS r':=hm;rw[ho]at jS;cases jS;exact#[_,sU,CA,hL,r']) aQ I.bare
theorem Inv.call{t':Nat}{d':Drawn}(I:Inv X ab σ H s)(u:Un (ahf X.stack) ch H H' s.heap h')(aQ:gB X.prog X.w H' h')(hg:wO g')
  (sT:∀b∈ch,(b∈X.ex\/X.xP.heap.objs.size<=b)/\b≠X.env.locals/\(∀x c,X.env.cells.lookup x\c->c≠b)/\∀p∈X.pn++ab,p.1≠b):
  Inv X ab σ H' { s with heap:=h',gens:=g',drawn:=d',toks:=t' }:=by
 obtain⟨m,⟨o,es,ep,ho,r⟩,_⟩:=id I.loc;let sl hL:=u.any ho I.free λz=>(sT _ z).2.1 rfl;exact I.step (ch:=ch) sT (λb o hL hb hc e n=>u.keep b o e n (λz=>(bL.mp (I.zC b z)).elim hL hb) hc) (λb o _ _ hc e n=>u.any e n hc) (λb o hc e n=>u.free b o e n hc) (λb o hc e=>u.there b o e hc) u.mL u.aov u.qd (λm' hm=>by
  let o' sU CA jS r':=hm;rw[ho]at jS;cases jS;exact#[_,sU,CA,hL,r']) aQ hg
theorem Inv.turned{t':Nat}(I:Inv X ab σ H s)(k:∀b o,b≠it->s.heap.get? b\o->h'.get? b\o)(hn:H it=oM)(hL:it≠X.env.locals)
  (h1:it∈X.ex\/X.xP.heap.objs.size<=it) (h2:∀x c,X.env.cells.lookup x\c->c≠it) (h3:∀p∈X.pn++ab,p.1≠it):Inv X ab σ H { s with heap:=h',toks:=t' }:=by
 have Ob:∀b u,H b\u->b≠it:=λb u e z=>by rw[z,hn]at e;lk
 refine I.step (g':=s.gens) (d':=s.drawn) (ch:= [it]) (λb hb=> ?_) (λb o _ _ hc e _=>k b o (λz=>hc (by simp[z])) e) (λb o _ _ hc e _=>#[o.slots,k b o (λz=>hc (by simp[z])) e]) (λ_ _ _ _ n=>n)
  (λb o hc e=>#[o,k b o (λz=>hc (by simp[z])) e]) (λ_ _ e=>e) (λ_ _ _ e=>e) (λb ps e=>#[(List.toArray []),by rw[e];simp]) (λm hm=> ?_) (λb u e=> ?_) I.bare
 .have e:b=it:=by simpa using hb
  subst e;exact#[h1,hL,h2,h3]
 .let o es ep ho r:=hm;exact#[o,es,ep,k _ o (yd hL) ho,r]
 .refine(I.aQ b u e).gO (λc v hc q=>k c v ?_ q) (λ_ q=>q) λ_ _ q=>q;rcases hc with z | z
  .rw[z];exact Ob b u e
  .exact Ob c _ z
theorem Inv.tok(I:Inv X ab σ H s)(t:Nat):Inv X ab σ H { s with toks:=t }:=I.un (h':=s.heap) (t':=t) Un.refl I.aQ
theorem Inv.kept{t':Nat}(I:Inv X ab σ H s)(k:∀b u,s.heap.get? b\u->h'.get? b\u):Inv X ab σ H { s with heap:=h',toks:=t' }:=I.un (Un.kept k) (I.aQ.kept k)
theorem Inv.laid{a:zI}{o:HO}{t':Nat}(I:Inv X ab σ H s)(k:∀b u,s.heap.get? b\u->h'.get? b\u)(hp:s.heap.objs.size<=a)(new:va X.prog X.w (dm H a o) h' a o):
  Inv X ab σ (dm H a o) { s with heap:=h',toks:=t' }:=I.un (Un.laid k hp (I.aQ.fresh hp)) (I.aQ.laid k hp new)
theorem Inv.write{x e:zI}{o:HO}{t':Nat}(I:Inv X ab σ H s)(mu:iB (H x))(he:e=x\/H e\.own x)(k:∀b u,b≠e->s.heap.get? b\u->h'.get? b\u)(xn:∃u,h'.get? e\u)
  (new:va X.prog X.w (dm H x o) h' x o):Inv X ab σ (dm H x o) { s with heap:=h',toks:=t' }:=I.un (Un.write mu he k xn) (I.aQ.write mu he k xn new)
theorem Inv.CB(I:Inv X ab σ H s)(h:∀p∈Wx,s.heap.get? p.1\p.2/\H p.1=oM/\p.1≠X.env.locals/\p.1∉X.fs/\∀v,p.2.data≠ .cell v):Inv X Wx σ H s:=
 #[I.ok,I.os,I.bare,I.base,I.loc,I.cell,I.free,I.nY,λp hp=>(lZ.mp hp).elim (λz=>I.pin p (qR _ z)) (h p),I.aQ,I.len]
theorem Oc{N:oH Str}(hN:N.Nodup){i j:Nat}{x:Str}(a:N[i]?\x)(b:N[j]?\x):i=j:=by
 let h1 e1:=cX.mp a;let h2 e2:=cX.mp b;exact(List.getElem_inj hN).mp (e1.trans e2.symm)
theorem Wy{M:Model}{A:zS}{E:zL->zM->Prop}{i:Nat}{x:Str}{v:V}{u:zL}{Q:Unit->zM->Prop}(I:Inv X ab σ H s)(hN:X.N.Nodup)(hi:X.N[i]?\x)(hx:Loc X.env.scope x)(r:RelV v u)
  (h:∀s',Inv X ab (σ.set i (!v)) H s'->(∃a,Cd a s.heap s'.heap/\(a=X.env.locals\/X.env.cells.lookup x\a))->Q () s') (hf:X.fn x=oP\/X.env.scope.names.lookup x\.local:=by first | exact .inl rfl | exact .inr rfl | lk):wpAny M A (storeName X.env x u) Q E s:=by
 let m hn hl:=id I.loc;have Wz:(X.env.scope.kind == .class || (X.env.scope.kind == .module && X.env.locals != X.env.globals))=yv:=by rw[I.ok.kind];rfl
 have Od:i < -σ:=by rw[I.len];exact(cX.mp hi).1
 have vd:=I.vd;have tracked:∀{a:zI} {h':zN},(∃o,s.heap.get? a\o/\H a=oM)->Cd a s.heap h'->gB X.prog X.w H h':=λ{a h'} ha hs b ob e=>by
  obtain⟨_,_,xp⟩:=ha;refine(I.aQ b ob e).gO (λc w' hc q=>(hs.2 c ?_).trans q) (λ_ q=>q) λ_ _ q=>q;rintro rfl;rcases hc with rfl | hc
  .rw[xp]at e;lk
  .rw[xp]at hc;lk
 rcases hx with hk | hk
 .refine wpAny_storeName_local hk hn (λh' WA hs=> ?_) Wz;let oL _ _ aBG _:=id hn;refine h _ #[I.ok,I.os,I.bare,#[λb o e n hb hx=> ?_,λb o e n hb hx=> ?_,I.base.free,λb o e hx=> ?_,I.base.mL,I.base.aov,I.base.qd],#[_,WA,λj y v' e1 e2 e3=> ?_],λy c e=> ?_,I.free,I.nY,λp hp=> ?_,tracked #[oL,aBG,I.free] hs,by simpa using I.len] #[_,hs, .inl rfl]
  .exact(hs.2 b (dR (dI (cW e) I.ok.above))).trans (I.base.keep b o e n hb hx)
  .let sl e1:=I.base.slot b o e n hb hx;exact#[sl,(hs.2 b (dR (dI (cW e) I.ok.above))).trans e1]
  .let o' e1:=I.base.there b o e hx;exact#[o',(hs.2 b (dR (dI (cW e) I.ok.above))).trans e1]
  .by_cases hj:j=i
   .subst hj;rw[hi]at e1;cases e1;rw[gK Od]at e2;cases e2;exact#[u,r, .inl #[hk,by simp]]
   .rw[gq (yd hj)]at e2;let u' r' q:=hl j y v' e1 e2 e3;refine#[u',r', ?_];rcases q with⟨k,e⟩ | ⟨k,c,e,z⟩
    .refine .inl #[k, ?_];have:y≠x:=λe=>hj (Oc hN e1 (e▸hi));simp[this,e]
    .exact .inr #[k,c,e,z.sameBut hs (vd y c e)]
  .let w' z:=I.cell y c e;exact#[w',z.sameBut hs (vd y c e)]
  .let e n ne nf d:=I.pin p hp;exact#[(hs.2 p.1 ne).trans e,n,ne,nf,d]
 .have F2:X.fn x=oP:=by
   rcases hf with z | z
   .lk
   .rw[z]at hk;lk
  let c hc:=I.ok.has x (.inl hk);let w' z:=I.cell x c hc;refine wpAny_storeName_cell I.ok.kind hk hc z (λh' qY hs=> ?_);let oc Oe WB:=id z;refine h { s with heap:=h' } #[I.ok,I.os,I.bare,#[λb o e n hb hx=> ?_,λb o e n hb hx=> ?_,I.base.free,λb o e hx=> ?_,I.base.mL,I.base.aov,I.base.qd],#[m,hn.sameBut hs (yd (vd x c hc)),λj y v' e1 e2 e3=> ?_],λy c' e=> ?_,I.free,I.nY,λp hp=> ?_,tracked #[oc,Oe,I.nY x c hc] hs,by simpa using I.len] #[c,hs, .inr hc]
  .exact(hs.2 b (dR (dI (cW e) (I.ok.zA x c F2 hc)))).trans (I.base.keep b o e n hb hx)
  .let sl e1:=I.base.slot b o e n hb hx;exact#[sl,(hs.2 b (dR (dI (cW e) (I.ok.zA x c F2 hc)))).trans e1]
  .let o' e1:=I.base.there b o e hx;exact#[o',(hs.2 b (dR (dI (cW e) (I.ok.zA x c F2 hc)))).trans e1]
  .by_cases hj:j=i
   .subst hj;rw[hi]at e1;cases e1;rw[gK Od]at e2;cases e2;exact#[u,r, .inr #[.inl hk,c,hc,qY]]
   .rw[gq (yd hj)]at e2;let u' r' q:=hl j y v' e1 e2 e3;refine#[u',r', ?_];rcases q with q | ⟨k,c',e,z'⟩
    .exact .inl q
    .refine .inr #[k,c',e,z'.sameBut hs ?_];rintro rfl;exact hj (Oc hN e1 (I.ok.inj _ _ _ e hc▸hi))
  .by_cases Of:c'=c
   .subst Of;exact#[_,qY]
   .let w2 z2:=I.cell y c' e;exact#[w2,z2.sameBut hs Of]
  .let e n ne nf d:=I.pin p hp;refine#[(hs.2 p.1 ?_).trans e,n,ne,nf,d];intro q;rw[q,Oe]at e;have q':oc=p.2:=IM e;exact d w' (by rw[<- q'];lk)
theorem atB{M:Model}{A:zS}{E:zL->zM->Prop}{x:Str}{Q:Unit->zM->Prop}(I:Inv X ab σ H s)(hN:X.N.Nodup)(hi:X.N[i]?\x)(hx:Loc X.env.scope x)(r:RelV v u)
  (h:∀s',Inv X ab (σ.set i (!v)) H s'->Q () s') (hf:X.fn x=oP\/X.env.scope.names.lookup x\.local:=by first | exact .inl rfl | exact .inr rfl | lk):wpAny M A (storeName X.env x u) Q E s:=
 Wy I hN hi hx r (λs' I' _=>h s' I') hf
end
abbrev XK:=zL->oT zI->Hp->Prop
noncomputable abbrev St:=oH (oT V)
abbrev VK:=V->Hp->Prop
abbrev TE:=St->Hp->VK->Prop
abbrev TT:=St->Hp->(Bool->Hp->Prop)->Prop
abbrev TA:=St->Hp->(oH V->Hp->Prop)->Prop
structure ke where
 nx:St->Hp->Prop
 rt:VK
 bk:St->Hp->Prop:=λ_ _=>False
 ct:St->Hp->Prop:=λ_ _=>False
abbrev TS:=ke->St->Hp->Prop
def EP(X:Cx)(ab:oH (zI×Obj))(σ:St)(Q:VK)(u:zL)(s':zM):Prop:=∃v H',Inv X ab σ H' s'/\RelV v u/\Q v H'
def TP(X:Cx)(ab:oH (zI×Obj))(σ:St)(Q:Bool->Hp->Prop)(b:Bool)(s':zM):Prop:=∃H',Inv X ab σ H' s'/\Q b H'
def AP(X:Cx)(ab:oH (zI×Obj))(σ:St)(Q:oH V->Hp->Prop)(us:oH zL)(s':zM):Prop:=∃vs H',Inv X ab σ H' s'/\bj vs us/\Q vs H'
def SP(X:Cx)(ab:oH (zI×Obj))(D:ke)(f:Flow)(s':zM):Prop:=
 match f with
 |.next=>∃dg H',Inv X ab dg H' s'/\D.nx dg H'
 |.brk=>∃dg H',Inv X ab dg H' s'/\D.bk dg H'
 |.cont=>∃dg H',Inv X ab dg H' s'/\D.ct dg H'
 |.ret u=>∃v dg H',Inv X ab dg H' s'/\RelV v u/\D.rt v H'
def PE(X:Cx)(e:zO)(t:TE):Prop:=
 ∀(ab:oH (zI×Obj)) (s:zM) (σ:St) (H:Hp) (Q:VK),Inv X ab σ H s->t σ H Q->wpAny (model X.prog X.w) X.A (eval e X.env) (EP X ab σ Q) X.xe s
def PT(X:Cx)(e:zO)(t:TT):Prop:=
 ∀(ab:oH (zI×Obj)) (s:zM) (σ:St) (H:Hp) (Q:Bool->Hp->Prop),Inv X ab σ H s->t σ H Q->wpAny (model X.prog X.w) X.A (isTrue e X.env (eval e X.env)) (TP X ab σ Q) X.xe s
def PW(X:Cx)(e:zO)(t:TT):Prop:=
 ∀(whole:Sem zL) (ab:oH (zI×Obj)) (s:zM) (σ:St) (H:Hp) (Q:Bool->Hp->Prop),Inv X ab σ H s->t σ H Q->wpAny (model X.prog X.w) X.A (isTrue e X.env whole) (TP X ab σ Q) X.xe s
theorem PW.pt{X:Cx}{e:zO}(h:PW X e t):PT X e t:=h _
def PA(X:Cx)(es:oH zO)(t:TA):Prop:=
 ∀(pos:Pos) (ab:oH (zI×Obj)) (s:zM) (σ:St) (H:Hp) (Q:oH V->Hp->Prop),Inv X ab σ H s->t σ H Q->wpAny (model X.prog X.w) X.A (spliced (backTo pos (ix es X.env))) (AP X ab σ Q) X.xe s
def PS(X:Cx)(st:zP)(t:TS):Prop:=
 ∀(ab:oH (zI×Obj)) (s:zM) (σ:St) (H:Hp) (D:ke),Inv X ab σ H s->t D σ H->wpAny (model X.prog X.w) X.A (exec st X.env) (SP X ab D) X.xe s
def OK(X:Cx)(st:oH zP)(t:TS):Prop:=
 ∀(ab:oH (zI×Obj)) (s:zM) (σ:St) (H:Hp) (D:ke),Inv X ab σ H s->t D σ H->wpAny (model X.prog X.w) X.A (execs st X.env) (SP X ab D) X.xe s
theorem bh{α:Type}{t:Sem α}{Q Q':α->zM->Prop}{M:Model}{A:zS}{E:zL->zM->Prop}{s:zM}(h:wpAny M A t Q E s)(hQ:∀a s,Q a s->Q' a s):wpAny M A t Q' E s:=ja h hQ λ_ _ x=>x
section
variable {X:Cx}
def nE(i:Nat):TE:=λσ H Q=>∃v,σ[i]?\!v/\Q v H
def tC(v:V):TE:=λ_ H Q=>Q v H
theorem WC{x:Str}{pos:Pos}(hN:X.N[i]?\x)(hv:FY X.env.scope x)(hd:autoParam ((x == ("__debug__":Str))=yv) q_1._auto_1)(pB:autoParam ((x == ("__classdict__":Str))=yv) q_1._auto_1):PE X (.Name x pos) (nE i):=by
 intro ab s σ H Q I h;let v e h:=h;let m hn hl:=I.loc;let u r l:=hl i x v hN e hv;have mm:EP X ab σ Q u s:=#[v,H,I,r,h]
 rcases l with⟨hk,hm⟩ | ⟨hk,c,hc,sV⟩
 .exact wpAny_Name (wpAny_loadName_local I.ok.kind hk hn hm mm) hd
 .rcases hk with hk | hk
  .exact wpAny_Name (wpAny_loadName_cell I.ok.kind hk hc sV mm) hd
  .exact wpAny_Name (wpAny_loadName_free I.ok.kind hk hc sV mm pB) hd
theorem dA{i j pos}:PE X (.Constant (.int i) j pos) (tC (.int i)):=λ_ _ _ H _ I h=>wpAny_Constant_int #[.int i,H,I.tok _,#[_,rfl],h]
theorem zD{b j pos}:PE X (.Constant (.bool b) j pos) (tC (.bl b)):=λ_ _ _ H _ I h=>Constant_bool #[.bl b,H,I,rfl,h]
theorem qZ{j pos}:PE X (.Constant .none j pos) (tC .aG):=λ_ _ _ H _ I h=>Constant_none #[.aG,H,I,rfl,h]
theorem aC{x j pos}:PE X (.Constant (.str x) j pos) (tC (.str x)):=λ_ _ _ H _ I h=>Calls.Constant_str #[.str x,H,I.tok _,#[_,rfl],h]
def Gl(X:Cx)(x:Str):Prop:=X.env.kindOf x\.globalImplicit
theorem CD{E:zL->zM->Prop}{ab:oH (zI×Obj)}{s:zM}{σ:St}{H:Hp}{x:Str}{pos:Pos}{Q:zL->zM->Prop}(I:Inv X ab σ H s)(hg:Gl X x)(hm:X.mg x\u)(h:Q u s)
  (hd:autoParam ((x == ("__debug__":Str))=yv) q_1._auto_1):wpAny (model X.prog X.w) X.A (eval (.Name x pos) X.env) Q E s:=
 aii I.ok.kind hg (Calls.loadGlobal_global (I.ok.glob^^I.mod.glob.keeps I.bk) hm h) hd
theorem xq{E:zL->zM->Prop}{ab:oH (zI×Obj)}{s:zM}{σ:St}{H:Hp}{x:Str}{pos:Pos}{Q:zL->zM->Prop}(I:Inv X ab σ H s)(hg:Gl X x)(hm:X.mg x=oM)(hv:B2 x\u)(h:Q u s)
  (hn:autoParam (x≠"__name__") q_1._auto_1) (hd:(x == ("__debug__":Str))=yv:=by decide):wpAny (model X.prog X.w) X.A (eval (.Name x pos) X.env) Q E s:=by
 let mb h1 h2:=I.mod.blt;exact aii I.ok.kind hg (Calls.loadGlobal_builtin (I.ok.glob^^I.mod.glob.keeps I.bk) hm (I.ok.blt^^h1.keeps I.bk) ((h2 x hn).trans hv) h) hd
theorem qf{x:Str}{pos:Pos}(hg:Gl X x)(hm:X.mg x=oM)(hv:B2 x\u)(r:RelV v u)(hn:autoParam (x≠"__name__") q_1._auto_1)(hd:autoParam ((x == ("__debug__":Str))=yv) q_1._auto_1):PE X (.Name x pos) (tC v):=
 λ_ _ _ H _ I h=>xq I hg hm hv #[v,H,I,r,h] hn hd
variable {a b:zO}{ta tb:TE}{pos:Pos}
def tB(t:TE):TT:=λσ H Q=>t σ H λx H1=>∃c,x= .bl c/\Q c H1
theorem aod{e:zO}{t:TE}(h:PE X e t)(he:autoParam (∀whole,isTrue e X.env whole=(do let v <- whole;FH e.pos;holding [v] (truthy v))) q_2._auto_1):PT X e (tB t):=by
 intro ab s σ H Q I hw;refine isTrue_plain (bh (h ab s σ H _ I hw) λv s1 #[x,H1,I1,r1,q1]=> ?_) (he _);let d rfl q:=q1;cases r1;exact uK #[H1,I1,q]
variable {tA CF:TT}{rest:oH zO}
def F3(t u:TT):TT:=λσ H Q=>t σ H λc H1=>if c=oP then u σ H1 Q else Q yv H1
def F4(t u:TT):TT:=λσ H Q=>t σ H λc H1=>if c=oP then Q oP H1 else u σ H1 Q
def F5(t:TT):TT:=λσ H Q=>t σ H λc H1=>Q (not c) H1
theorem zE(ha:PT X a tA):PW X (.BoolOp .And [a] pos) tA:=by
 intro wh ab s σ H Q I h;refine isTrue_and (bh (ha ab s σ H Q I h) λc s1 e=> ?_);cases c with
 |true=>exact isTrue_and_nil e
 |false=>lk
theorem F6(ha:PT X a tA):PW X (.BoolOp .Or [a] pos) tA:=by
 intro wh ab s σ H Q I h;refine isTrue_or (bh (ha ab s σ H Q I h) λc s1 e=> ?_);cases c with
 |false=>exact isTrue_or_nil e
 |true=>lk
theorem zF(ha:PT X a tA)(hb:PW X (.BoolOp .And (b::rest) pos) CF):PW X (.BoolOp .And (a::b::rest) pos) (F3 tA CF):=by
 intro wh ab s σ H Q I h;refine isTrue_and (bh (ha ab s σ H _ I h) λc s1 #[H1,I1,q1]=> ?_);cases c with
 |true=>exact hb wh ab s1 σ H1 Q I1 q1
 |false=>exact#[H1,I1,q1]
theorem F7(ha:PT X a tA)(hb:PW X (.BoolOp .Or (b::rest) pos) CF):PW X (.BoolOp .Or (a::b::rest) pos) (F4 tA CF):=by
 intro wh ab s σ H Q I h;refine isTrue_or (bh (ha ab s σ H _ I h) λc s1 #[H1,I1,q1]=> ?_);cases c with
 |true=>exact#[H1,I1,q1]
 |false=>exact hb wh ab s1 σ H1 Q I1 q1
theorem oa(ha:PT X a tA):PT X (.UnaryOp .Not a pos) (F5 tA):=by
 intro ab s σ H Q I h;exact isTrue_not (ha ab s σ H (λc H1=>Q (not c) H1) I h)
def xr(ta tb:TE):TE:=λσ H Q=>ta σ H λx H1=>∃c,x= .bl c/\if c=oP then tb σ H1 Q else Q (.bl yv) H1
def F8(ta:TE):TE:=λσ H Q=>ta σ H λx H1=>∃c,x= .bl c/\Q (.bl (not c)) H1
theorem qg{op}(h:PE X a t):PE X (.BoolOp op [a] pos) t:=λab s σ H Q I hw=>BoolOp_one (h ab s σ H Q I hw)
theorem aw0(ha:PE X a ta)(hb:PE X (.BoolOp .And (b::rest) pos) tb):PE X (.BoolOp .And (a::b::rest) pos) (xr ta tb):=by
 intro ab s σ H Q I h;refine BoolOp_and (bh (ha ab s σ H _ I h) λv s1 #[x,H1,I1,r1,q1]=> ?_);let c rfl q1:=q1;cases r1;refine uK ?_;cases c with
 |true=>exact hb ab s1 σ H1 Q I1 q1
 |false=>exact#[.bl yv,H1,I1,rfl,q1]
theorem WG(ha:PE X a ta):PE X (.UnaryOp .Not a pos) (F8 ta):=by
 intro ab s σ H Q I h;refine UnaryOp_ (bh (ha ab s σ H _ I h) λv s1 #[x,H1,I1,r1,q1]=> ?_);let c rfl q1:=q1;cases r1;exact not_of (uK #[.bl (not c),H1,I1,rfl,q1])
def Oi(t:TT)(ta tb:TE):TE:=λσ H Q=>t σ H λc H1=>if c=oP then ta σ H1 Q else tb σ H1 Q
theorem Oj{c:zO}(hc:PT X c tA)(ha:PE X a ta)(hb:PE X b tb):PE X (.IfExp c a b pos) (Oi tA ta tb):=by
 intro ab s σ H Q I h;refine wpAny_IfExp (bh (hc ab s σ H _ I h) λd s1 #[H1,I1,q1]=> ?_);cases d with
 |true=>exact ha ab s1 σ H1 Q I1 q1
 |false=>exact hb ab s1 σ H1 Q I1 q1
end
def gN(K:ah)(H:Hp)(a:zI)(xs:oH V):Prop:=
 Rd H a (.lst xs)\/
  ∃(o:Obj) (ag:Array zL) (n:Nat),K.lookup a\o/\o.cls= .type "list"/\o.dict=oM/\o.data= .seq ag n/\ag.size<=aM/\bj xs ag.toList
def cE(K:ah)(H:Hp)(a:zI)(xs:oH V):Prop:=
 Rd H a (.tup xs)\/
  ∃(o:Obj) (ag:Array zL) (n:Nat),K.lookup a\o/\o.cls= .type "tuple"/\o.data= .seq ag n/\ag.size<=aM/\bj xs ag.toList
noncomputable def WH:zL->oT V
 |.none=>oF .aG
 |.bool b=>oF (.bl b)
 |.int i _=>oF (.int i)
 |.str x _=>oF (.str x)
 |.bytes b _=>oF (.uZ b)
 |.float b _=>oF (.kl b)
 |.ref a=>oF (.ref a)
 |.type n=>oF (.ty n)
 |_=>oM
theorem RelV.abs{x:V}(r:RelV x u):WH u\x:=by
 cases x with
 |aG=>cases r;rfl
 |bl _=>cases r;rfl
 |int _=>let t rfl:=r;rfl
 |str _=>let t rfl:=r;rfl
 |uZ _=>let t rfl:=r;rfl
 |kl _=>let t rfl:=r;rfl
 |ref _=>cases r;rfl
 |ty _=>cases r;rfl
theorem RelV.inj{x y:V}(r:RelV x u)(q:RelV y u):x=y:=IM (r.abs.symm.trans q.abs)
theorem bj.inj:∀{xs ys:oH V} {us:oH zL},bj xs us->bj ys us->xs=ys
 |_,_,_, .nil, .nil=>rfl
 |_,_,_, .cons r t, .cons r' t'=>by rw[r.inj r',bj.inj t t']
section
variable {X:Cx}{ab:oH (zI×Obj)}{σ:St}{H:Hp}{s:zM}{a:zI}
theorem gN.of{K:ah}(h:H a\.lst xs):gN K H a xs:= .inl (.inl h)
theorem cE.of{K:ah}(h:H a\.tup xs):cE K H a xs:= .inl (.inl h)
theorem Inv.list(I:Inv X ab σ H s)(h:gN X.K H a xs):∃ag:oH zL,bj xs ag/\PlainL s.heap a ag.toArray/\-xs<=aM:=by
 rcases h with h | ⟨o,ag,n,hk,hc,hd,hs,hz,r⟩
 .let z ag n r e:=h.ok I.aQ;exact#[ag,r,#[_,n,e,rfl,rfl,rfl],z]
 .refine#[ag.toList,r,#[o,n,I.fN a o hk,hc,hd,by simpa using hs], ?_];have e:=r.length;simp[xc]at e
  lia
theorem Inv.tuple(I:Inv X ab σ H s)(h:cE X.K H a xs):∃ag:oH zL,bj xs ag/\IsTup s.heap a ag.toArray/\-xs<=aM:=by
 rcases h with h | ⟨o,ag,n,hk,hc,hs,hz,r⟩
 .let z ag r p:=h.ok I.aQ;exact#[ag,r,p,z]
 .refine#[ag.toList,r,#[o,I.fN a o hk,hc,n,by simpa using hs], ?_];have e:=r.length;simp[xc]at e
  lia
theorem Inv.Ol(I:Inv X ab σ H s)(h:gN X.K H a xs)(h':gN X.K H a ys):xs=ys:=by
 obtain⟨ag,r,⟨o,n,e,_,_,d⟩,_⟩:=I.list h;obtain⟨its',r',⟨o',n',e',_,_,d'⟩,_⟩:=I.list h';rw[e]at e';cases e';rw[d]at d';injection d' with d1 _
 have:ag=its':=by simpa using congrArg Array.toList d1
 subst this;exact r.inj r'
theorem Inv.Om(I:Inv X ab σ H s)(h:cE X.K H a xs)(h':cE X.K H a ys):xs=ys:=by
 obtain⟨ag,r,⟨o,e,_,n,d⟩,_⟩:=I.tuple h;obtain⟨its',r',⟨o',e',_,n',d'⟩,_⟩:=I.tuple h';rw[e]at e';cases e';rw[d]at d';injection d' with d1 _
 have:ag=its':=by simpa using congrArg Array.toList d1
 subst this;exact r.inj r'
end
noncomputable abbrev Cx.qh (X:Cx) (E:zL->zM->Prop):Cx:= { X with xe:=E }
abbrev Cx.ve(X:Cx):Cx:=X.qh λ_ _=>False
theorem Cx.Ok.qh{X:Cx}(ok:X.Ok)(E:zL->zM->Prop):(X.qh E).Ok:=
 #[ok.mod,ok.kind,ok.glob,ok.blt,ok.above,ok.inj,ok.has,ok.zA,ok.hd,ok.frames,ok.u9,ok.N8,ok.bs,ok.qe,ok.zB,ok.Cy,ok.nX,ok.vc]
theorem Cx.Ok.sW{X:Cx}(ok:(X.qh E).Ok):X.Ok:=
 #[ok.mod,ok.kind,ok.glob,ok.blt,ok.above,ok.inj,ok.has,ok.zA,ok.hd,ok.frames,ok.u9,ok.N8,ok.bs,ok.qe,ok.zB,ok.Cy,ok.nX,ok.vc]
section
variable {X:Cx}{ab:oH (zI×Obj)}{σ:St}{H:Hp}{s:zM}{E:zL->zM->Prop}
theorem Inv.qh(I:Inv X ab σ H s)(E:zL->zM->Prop):Inv (X.qh E) ab σ H s:=#[I.ok.qh E,I.os,I.bare,I.base,I.loc,I.cell,I.free,I.nY,I.pin,I.aQ,I.len]
theorem Inv.sW(I:Inv (X.qh E) ab σ H s):Inv X ab σ H s:=#[I.ok.sW,I.os,I.bare,I.base,I.loc,I.cell,I.free,I.nY,I.pin,I.aQ,I.len]
theorem SP.sW(h:SP (X.qh E) ab D f s'):SP X ab D f s':=by
 cases f with
 |next=>let dg H' I q:=h;exact#[dg,H',I.sW,q]
 |brk=>let dg H' I q:=h;exact#[dg,H',I.sW,q]
 |cont=>let dg H' I q:=h;exact#[dg,H',I.sW,q]
 |ret u=>let v dg H' I r q:=h;exact#[v,dg,H',I.sW,r,q]
theorem OK.ve{st:oH zP}{t:TS}(h:OK X.ve st t):OK X st t:=λab s σ H D I hw=>
 ja (h ab s σ H D (I.qh _) hw) (λ_ _ q=>q.sW) λ_ _ z=>pj z
end
section
variable {X:Cx}{st:zP}{rest:oH zP}{t u:TS}{e:zO}{te:TE}{pos:Pos}
def xt:TS:=λD σ H=>D.nx σ H
def sX(t u:TS):TS:=λD σ H=>t { D with nx:=u D } σ H
theorem cQ:OK X [] xt:=λ_ _ σ H _ I h=>Nl #[σ,H,I,h]
theorem aL(h1:PS X st t)(h2:OK X rest u):OK X (st::rest) (sX t u):=by
 intro ab s σ H D I h;refine wpAny_execs_cons (bh (h1 ab s σ H { D with nx:=u D } I h) λf s1 q=> ?_);cases f with
 |next=>
  let dg H' I' q:=q;exact h2 ab s1 dg H' D I' q
 |ret v=>lk
 |brk=>lk
 |cont=>lk
theorem dY(h1:PS X st t):OK X [st] t:=by
 intro ab s σ H D I h;refine wpAny_execs_cons (bh (h1 ab s σ H D I h) λf s1 q=> ?_);cases f with
 |next=>exact Nl q
 |ret v=>lk
 |brk=>lk
 |cont=>lk
theorem Inv.quiet{ab:oH (zI×Obj)}{σ:St}{H:Hp}{s:zM}(I:Inv X ab σ H s):interactive X.env=yv:=by simp[interactive,I.ok.kind]
def F9(te:TE):TS:=λD σ H=>te σ H λ_ H1=>D.nx σ H1
theorem vX(he:PE X e te)(hs:autoParam (wQ e oM pos.line X.env=pure yv) q_3._auto_1):PS X (.Expr e pos) (F9 te):=by
 intro ab s σ H D I h;exact wpAny_Expr_any (bh (he ab s σ H _ I h) λv s1 #[x,H1,I1,r1,q1]=>#[σ,H1,I1,q1]) I.quiet hs
def qi(te:TE):TS:=λD σ H=>te σ H D.rt
theorem vf(he:PE X e te):PS X (.Return (!e) pos) (qi te):=by
 intro ab s σ H D I h;exact wpAny_Return_some (bh (he ab s σ H _ I h) λv s1 #[x,H1,I1,r1,q1]=>#[x,σ,H1,I1,r1,q1])
def aw1:TS:=λD _ H=>D.rt .aG H
theorem aBH:PS X (.Return oM pos) aw1:=λ_ _ σ H _ I h=>wpAny_Return_none #[.aG,σ,H,I,rfl,h]
def xu(c:TT)(t u:TS):TS:=λD σ H=>c σ H λb H1=>if b=oP then t D σ H1 else u D σ H1
theorem bS{c:zO}{a b:oH zP}{tc:TT}(hc:PT X c tc)(ha:OK X a t)(hb:OK X b u):PS X (.If c a b pos) (xu tc t u):=by
 intro ab s σ H D I h;refine wpAny_If (bh (hc ab s σ H _ I h) λd s1 #[H1,I1,q1]=> ?_);cases d with
 |true=>exact ha ab s1 σ H1 D I1 q1
 |false=>exact hb ab s1 σ H1 D I1 q1
def atD:TS:=λ_ _ _=>False
theorem aBI:OK X aHC atD:=λ_ _ _ _ _ _ h=>h.elim
end
abbrev TG:=V->St->Hp->(St->Hp->Prop)->Prop
def PG(X:Cx)(target:zO)(t:TG):Prop:=
 ∀(ab:oH (zI×Obj)) (s:zM) (σ:St) (H:Hp) (v:V) (u:zL) (Q:St->Hp->Prop),Inv X ab σ H s->RelV v u->t v σ H Q->
  wpAny (model X.prog X.w) X.A (assign target X.env u) (λ_ s'=>∃dg H',Inv X ab dg H' s'/\Q dg H') X.xe s
abbrev atE:=V->V->V->Hp->(Hp->Prop)->Prop
def Oo(X:Cx)(t:atE):Prop:=
 ∀(ab:oH (zI×Obj)) (s:zM) (σ:St) (H:Hp) (o i v:V) (ov iv u:zL) (Q:Hp->Prop),Inv X ab σ H s->RelV o ov->RelV i iv->RelV v u->t o i v H Q->
  wpAny (model X.prog X.w) X.A (setItem ov iv u) (λ_ s'=>∃H',Inv X ab σ H' s'/\Q H') X.xe s
section
variable {X:Cx}{pos:Pos}
def lB(i:Nat):TG:=λv σ H Q=>Q (σ.set i (!v)) H
theorem Gb{x:Str}(hN:X.N.Nodup)(hi:X.N[i]?\x)(hx:Loc X.env.scope x)(hf:autoParam (X.fn x=oP\/X.env.scope.names.lookup x\.local) q_4._auto_1):PG X (.Name x pos) (lB i):=by
 intro ab s σ H v u Q I r h;exact wpAny_assign_Name (atB I hN hi hx r (λs' I'=>#[_,H,I',h]) hf)
def Oq(to ti:TE)(t:atE):TG:=λv σ H Q=>to σ H λo H1=>ti σ H1 λi H2=>t o i v H2 λH3=>Q σ H3
theorem WJ{o i:zO}{to ti:TE}{t:atE}(ho:PE X o to)(hi:PE X i ti)(hs:Oo X t)
  (ha:∀v,assign (.Subscript o i pos) X.env v=(do
   let ov <- holding [v] (eval o X.env)
   let iv <- holding [v,ov] (eval i X.env)
   FH pos
   holding [v,ov,iv] (setItem ov iv v)
   release [v,ov,iv] []):=by intro _;rfl):PG X (.Subscript o i pos) (Oq to ti t):=by
 intro ab s σ H v u Q I r h;rw[ha];refine az (uL (bh (ho ab s σ H _ I h) λov s1 #[x,H1,I1,r1,q1]=> ?_));refine az (uL (bh (hi ab s1 σ H1 _ I1 q1) λiv s2 #[y,H2,I2,r2,q2]=> ?_));refine az (U8 (az (uL (bh (hs ab s2 σ H2 x y v ov iv u _ I2 r1 r2 r q2) λ_ s3 #[H3,I3,q3]=> ?_))));exact wpAny_release #[σ,H3,I3,q3]
def vh(te:TE)(g:TG):TS:=λD σ H=>te σ H λx H1=>g x σ H1 D.nx
theorem WK{tg e:zO}{te:TE}{g:TG}(he:PE X e te)(hg:PG X tg g)(hs:autoParam (swapsWithSole [tg] e pos.line X.env=pure yv) q_3._auto_1)(hw:autoParam (swappedStores [tg] e X.env=pure oM) q_3._auto_1)
  (h1:autoParam ((assignEach [tg] X.env).map (·.2)= [assign tg X.env]) q_3._auto_1):PS X (.Assign [tg] e pos) (vh te g):=by
 intro ab s σ H D I h;refine wpAny_Assign_stores (bh (he ab s σ H _ I h) λv s1 #[x,H1,I1,r1,q1]=> ?_) hs hw;rw[h1];exact bh (hg ab s1 σ H1 x v _ I1 r1 q1) λ_ s2 q=>q
theorem WL{i:Nat}{x:Str}{e:zO}{te:TE}{pos':Pos}(hN:X.N.Nodup)(hi:X.N[i]?\x)(hx:Loc X.env.scope x)(he:PE X e te)(hs:autoParam (wQ e (!.Name x pos') pos.line X.env=pure yv) q_3._auto_1)(hf:autoParam (X.fn x=oP\/X.env.scope.names.lookup x\.local) q_4._auto_1):
  PS X (.Assign [.Name x pos'] e pos) (vh te (lB i)):=by
 intro ab s σ H D I h;refine wpAny_Assign_Name (bh (he ab s σ H _ I h) λv s1 #[y,H1,I1,r1,q1]=> ?_) hs;exact atB I1 hN hi hx r1 (λs2 I2=>#[_,H1,I2,q1]) hf
def Ou(c:TT)(tb:TS):TS:=λD σ H=>∃W:Nat->St->Hp->Prop,(∃m,W m σ H)/\∀m σ H,W m σ H->
 c σ H λb H1=>if b=oP then ∃N:St->Hp->Prop,(∀dg H',N dg H'->∃m',m' < m/\W m' dg H')/\tb { D with nx:=N,ct:=N,bk:=D.nx } σ H1 else D.nx σ H1
theorem Ov{c:zO}{body:oH zP}{tc:TT}{tb:TS}(hp:PassesOwn (model X.prog X.w) X.A X.env X.xe)(hc:PT X c tc)(hb:OK X body tb):PS X (.While c body [] pos) (Ou tc tb):=by
 intro ab s σ H D I h;obtain⟨W,⟨m0,w0⟩,turn⟩:=h;refine wpAny_While (codeAny_whileLoop (λn s'=>∃dg H',Inv X ab dg H' s'/\W n dg H') ?_ m0 #[σ,H,I,w0]);rintro n s1 ⟨sZ,H1,I1,w1⟩;refine zd hp (bh (hc ab s1 sZ H1 _ I1 (turn n sZ H1 w1)) λb s2 #[H2,I2,q2]=> ?_);cases b with
 |true=>
  let N hN q2:=q2;rw[zJ rfl];refine zd hp (bh (hb ab s2 sZ H2 _ I2 q2) λf s3 q3=> ?_);cases f with
  |next=>
   let tO H3 I3 n3:=q3;let m' hm w3:=hN tO H3 n3;exact#[m',hm,tO,H3,I3,w3]
  |cont=>
   let tO H3 I3 n3:=q3;let m' hm w3:=hN tO H3 n3;exact#[m',hm,tO,H3,I3,w3]
  |brk=>lk
  |ret v=>lk
 |false=>
  rw[zK df];exact Nl #[sZ,H2,I2,q2]
end
structure It where
 go:Nat->Hp->Prop
 apQ:Nat->Hp->V->Hp->Prop
 stop:Nat->Hp->Prop
def jT(X:Cx)(ab:oH (zI×Obj))(H:Hp)(b:zI):Prop:=
 H b=oM/\b≠X.env.locals/\b∉X.fs/\(b∈X.ex\/X.xP.heap.objs.size<=b)/\(∀x c,X.env.cells.lookup x\c->c≠b)/\∀p∈X.pn++ab,p.1≠b
theorem Inv.Aa{X:Cx}{ab:oH (zI×Obj)}{σ:St}{H H':Hp}{s:zM}{b:zI}(I:Inv X ab σ H s)(hb:s.heap.objs.size<=b)(hn:H' b=oM):jT X ab H' b:=by
 refine#[hn,apN (dI I.lt hb),I.FZ hb, .inr (eK I.sz hb),λx c e z=> ?_,λp hp z=> ?_]
 .let v q:=I.cell x c e;exact absurd (dI q.lt (z^^hb)) (mI _)
 .exact absurd (dI (cW (I.pin p hp).1) (z^^hb)) (mI _)
structure Turn(P:zR)(w:zQ)(K:ah)(tg:zO)(J:It)(fp:List zI)(it:zI)(tn:Nat->zN->Prop):Prop where
 mem:it∈fp
 obj:∀i h,tn i h->∀b∈fp,∃o,h.get? b=oF o/\∀v,o.data≠ .cell v
 keep:∀i h h',tn i h->(∀b∈fp,∀o,h.get? b=oF o->h'.get? b=oF o)->tn i h'
 item:∀(X:Cx),X.prog=P->X.w=w->X.K=K->X.calm=oP->∀(i:Nat) (ab:List (zI×Obj)) (s:zM) (σ:St) (H:Hp) (E:zL->zM->Prop),Inv X ab σ H s->(∀b∈fp,jT X ab H b)->tn i s.heap->J.go i H->
  wpAny (model P w) X.A (pyNext (.ref it)) (λr s1=>∃u,r=oF u/\
   wpAny (model P w) X.A (Nm tg (.ref it) u) (λ_ s2=>∃x H',Inv X ab σ H' s2/\RelV x u/\J.apQ i H x H'/\tn (i + 1) s2.heap/\∀b∈fp,H' b=oM) E s1) E s
 done:∀(X:Cx),X.prog=P->X.w=w->X.K=K->X.calm=oP->∀(i:Nat) (ab:List (zI×Obj)) (s:zM) (σ:St) (H:Hp) (E:zL->zM->Prop),Inv X ab σ H s->(∀b∈fp,jT X ab H b)->tn i s.heap->J.stop i H->
  wpAny (model P w) X.A (pyNext (.ref it)) (λr s1=>r=oM/\Inv X ab σ H s1) E s
 self:∀(A:zS) (i:Nat) (s:zM) (Q:zL->zM->Prop) (E:zL->zM->Prop),tn i s.heap->Q (.ref it) s->wpAny (model P w) A (pyIter (.ref it)) Q E s
abbrev TI:=St->Hp->(It->Hp->Prop)->Prop
def CI(X:Cx)(ab:oH (zI×Obj))(σ:St)(tg:zO)(R:It->Hp->Prop)(Gg:zL)(s2:zM):Prop:=
 ∃(it:zI) (fp:oH zI) (tn:Nat->zN->Prop) (J:It) (H':Hp),Gg= .ref it/\Inv X ab σ H' s2/\Turn X.prog X.w X.K tg J fp it tn/\tn 0 s2.heap/\(∀b∈fp,jT X ab H' b)/\R J H'
def PI(X:Cx)(tg iter:zO)(wi:TI):Prop:=
 ∀(ab:oH (zI×Obj)) (s:zM) (σ:St) (H:Hp) (R:It->Hp->Prop),Inv X ab σ H s->wi σ H R->
  wpAny (model X.prog X.w) X.A (eval iter X.env) (λv s1=>wpAny (model X.prog X.w) X.A (pyIter v) (CI X ab σ tg R) X.xe s1) X.xe s
theorem Ab{M:Model}{A:zS}{E:zL->zM->Prop}{s:zM}{tg:zO}{u:zL}{o:Obj}{Q:Unit->zM->Prop}(ho:s.heap.get? it\o)(hc:o.cls= .type n)(hd:o.data= .fields vs)
  (hn: ["enumerate","zip","dict_itemiterator","dict_reverseitemiterator","odict_iterator","itertools.zip_longest","itertools.pairwise"].contains n=yv) (hQ:Q () s):wpAny M A (Nm tg (.ref it) u) Q E s:=by
 unfold Nm;cases tg <;> first
  |exact bF hQ
  |(cases u <;> first
    |exact bF hQ
    |(refine az (wpAny_load ho ?_);rw[hc,hd];show wpAny M A (if(["enumerate","zip","dict_itemiterator","dict_reverseitemiterator","odict_iterator","itertools.zip_longest","itertools.pairwise"].contains n && vs[0]? == oF (rawInt _))=oP then _ else _) Q E s;rw[zK (by intro h;rw[hn,Bool.false_and]at h;lk)];exact bF hQ))
def tf(K:ah)(a:zI):It:=
 #[λi H=>∃xs x,gN K H a xs/\xs[i]?\x,λi H x H'=>H'=H/\∀xs,gN K H a xs->xs[i]?\x,λi H=>∃xs,gN K H a xs/\-xs<=i]
def CJ(K:ah)(a:zI):It:=
 #[λi H=>∃xs x,cE K H a xs/\xs[i]?\x,λi H x H'=>H'=H/\∀xs,cE K H a xs->xs[i]?\x,λi H=>∃xs,cE K H a xs/\-xs<=i]
def Ac(lo:Int)(n:Nat):It:=#[λi _=>i < n,λi H x H'=>H'=H/\x= .int (lo + i),λi _=>n<=i]
theorem WQ{P:zR}{w:zQ}{K:ah}{tg:zO}(a it:zI):Turn P w K tg (tf K a) [it] it (λi h=>h.IsListIter it a i) where
 mem:=e_
 obj:=λi h st b hb=>by
  have e:b=it:=by simpa using hb
  subst e;let o e c d:=st;exact#[o,e,λv z=>by rw[d]at z;lk]
 keep:=λi h h' st k=>st.at λo e=>k it e_ o e
 item:=by
  intro X hP hw hK hc i ab s σ H E I hf st hg;subst hP hw hK;let xs x hq hx:=hg;let ag rv p hz:=I.list hq;let u hu ru:=rv.get hx;let f0 f1 f2 f3 f4 f5:=hf it e_;refine wpAny_pyNext_list_item st p.isList (x:=u) (by simpa using hu) λh' st' sb=>?_;have I1:Inv X ab σ H { s with heap:=h' }:=I.turned (t':=s.toks) (λb o hb e=>(sb.2 b hb).trans e) f0 f1 f3 f4 f5;let o e c d:=id st';exact#[u,rfl,Ab (s:= { s with heap:=h' }) e c d a_ #[x,H,I1,ru,#[rfl,λys hy=>I.Ol hy hq^^hx],st',λb hb=>(hf b hb).1]]
 done:=by
  intro X hP hw hK hc i ab s σ H E I hf st hg;subst hP hw hK;let xs hq hx:=hg;let ag rv p hz:=I.list hq;let f0 f1 f2 f3 f4 f5:=hf it e_;have hl:=rv.length;exact aBp (I.ok.hd hc) st p.isList f_ λh' eb=>#[rfl,I.turned (t':=s.toks) (λb o hb e=>eb b o hb e) f0 f1 f3 f4 f5]
 self:=λ_ _ _ _ _ st h=>wpAny_pyIter_listiter st h
theorem WR{P:zR}{w:zQ}{K:ah}{tg:zO}(a it:zI):Turn P w K tg (CJ K a) [it] it (λi h=>h.IsTupleIter it a i) where
 mem:=e_
 obj:=λi h st b hb=>by
  have e:b=it:=by simpa using hb
  subst e;let o e c d:=st;exact#[o,e,λv z=>by rw[d]at z;lk]
 keep:=λi h h' st k=>st.at λo e=>k it e_ o e
 item:=by
  intro X hP hw hK hc i ab s σ H E I hf st hg;subst hP hw hK;let xs x hq hx:=hg;let ag rv p hz:=I.tuple hq;let u hu ru:=rv.get hx;let f0 f1 f2 f3 f4 f5:=hf it e_;refine wpAny_pyNext_tuple_item st (show s.heap.IsTuple a ag.toArray from p) (x:=u) (by simpa using hu) λh' st' sb=>?_;have I1:Inv X ab σ H { s with heap:=h' }:=I.turned (t':=s.toks) (λb o hb e=>(sb.2 b hb).trans e) f0 f1 f3 f4 f5;let o e c d:=id st';exact#[u,rfl,Ab (s:= { s with heap:=h' }) e c d a_ #[x,H,I1,ru,#[rfl,λys hy=>I.Om hy hq^^hx],st',λb hb=>(hf b hb).1]]
 done:=by
  intro X hP hw hK hc i ab s σ H E I hf st hg;subst hP hw hK;let xs hq hx:=hg;let ag rv p hz:=I.tuple hq;let f0 f1 f2 f3 f4 f5:=hf it e_;have hl:=rv.length;exact wpAny_pyNext_tuple_end (I.ok.hd hc) st (show s.heap.IsTuple a ag.toArray from p) f_ λh' eb=>#[rfl,I.turned (t':=s.toks) (λb o hb e=>eb b o hb e) f0 f1 f3 f4 f5]
 self:=λ_ _ _ _ _ st h=>wpAny_pyIter_tupleiter st h
theorem WS{P:zR}{w:zQ}{K:ah}{tg:zO}(it:zI)(lo:Int)(n:Nat):Turn P w K tg (Ac lo n) [it] it (λi h=>IsRangeIter h it (lo + (i:Nat) * 1) ((n:Int) - (i:Nat)) 1) where
 mem:=e_
 obj:=λi h st b hb=>by
  have e:b=it:=by simpa using hb
  subst e;exact#[_,st,λv z=>by
   have z':Data.fields _=Data.cell v:=z;lk]
 keep:=λi h h' st k=>k it e_ _ st
 item:=by
  intro X hP hw hK hc i ab s σ H E I hf st hg;subst hP hw hK;let f0 f1 f2 f3 f4 f5:=hf it e_;have W:=Walks.range (prog:=X.prog) (w:=X.w) (I.ok.hd hc) it lo 1 n;refine W.item i s _ _ hg st λv h' tk hv st' kk=>?_;let t rfl:=hv;have I1:Inv X ab σ H { s with heap:=h',toks:=tk }:=I.turned (λb o hb e=>kk b o (by simpa using hb) e) f0 f1 f3 f4 f5;refine#[_,rfl,Ab (s:= { s with heap:=h',toks:=tk }) (n:="range_iterator") st' rfl rfl a_ #[.int (lo + i),H,I1,#[t, ?_],#[rfl,rfl],st',λb hb=>(hf b hb).1]];rw[Int.mul_one]
 done:=by
  intro X hP hw hK hc i ab s σ H E I hf st hg;subst hP hw hK;let f0 f1 f2 f3 f4 f5:=hf it e_;exact wpAny_pyNext_range_end (I.ok.hd hc) st (by have:n<=i:=hg;lia) λh' eb=>#[rfl,I.turned (t':=s.toks) (λb o hb e=>eb b o hb e) f0 f1 f3 f4 f5]
 self:=λ_ _ _ _ _ st h=>wpAny_pyIter_rangeiter st h
section
variable {X:Cx}
theorem Ow{ab:oH (zI×Obj)}{σ:St}{H:Hp}{s:zM}{R:It->Hp->Prop}{E:zL->zM->Prop}{lo hi:Int}{t u v:Tok}{tk:Nat}(I:Inv X ab σ H s)(h1: (unop% Neg.neg (2 ^ 62))<=lo)(h2:lo < 2 ^ 62)(h3: (unop% Neg.neg (2 ^ 62))<=hi)(h4:hi < 2 ^ 62)
  (q:R (Ac lo (hi - lo).toNat) H):wpAny (model X.prog X.w) X.A (pyIter (.ref s.heap.objs.size)) (CI X ab σ tg R) E { s with heap:=s.heap.push { cls:= .type "range",data:= .fields (List.toArray [.int lo t, .int hi u, .int 1 v]) },toks:=tk }:=by
 refine wpAny_pyIter_range (IsRange.new ..) (small_one h1 h2 h3 h4) ?_;have I1:Inv X ab σ H { s with heap:=s.heap.push { cls:= .type "range",data:= .fields (List.toArray [.int lo t, .int hi u, .int 1 v]) },toks:=tk }:=I.kept λb o e=>cB _ e;refine#[(s.heap.push { cls:= .type "range",data:= .fields (List.toArray [.int lo t, .int hi u, .int 1 v]) }).objs.size, [(s.heap.push { cls:= .type "range",data:= .fields (List.toArray [.int lo t, .int hi u, .int 1 v]) }).objs.size],_,_,H,rfl,
  I1.kept (t':=tk) λb o e=>cB _ e,WS _ lo (hi - lo).toNat, ?_,λb hb=> ?_,q]
 .have e1:lo + ((0:Nat):Int) * 1=lo:=e_
  have e2:(((hi - lo).toNat:Nat):Int) - ((0:Nat):Int)=Builtin.Range.rangeSize lo hi 1:=by rw[rangeSize_one];split <;> lia
  show IsRangeIter _ _ (lo + ((0:Nat):Int) * 1) ((((hi - lo).toNat:Nat):Int) - ((0:Nat):Int)) 1;rw[e1,e2];exact gc _ rfl
 .have e:b=(s.heap.push { cls:= .type "range",data:= .fields (List.toArray [.int lo t, .int hi u, .int 1 v]) }).objs.size:=by simpa using hb
  subst e;exact I1.Aa (bO _) (I1.aQ.fresh (bO _))
def CK(ta:TA):TI:=λσ H R=>ta σ H λvs H1=>∃j:Int,vs= [.int j]/\ (unop% Neg.neg (2 ^ 62))<=j/\j < 2 ^ 62/\R (Ac 0 j.toNat) H1
def Ox(ta:TA):TI:=λσ H R=>ta σ H λvs H1=>∃i j:Int,vs= [.int i, .int j]/\((unop% Neg.neg (2 ^ 62))<=i/\i < 2 ^ 62/\ (unop% Neg.neg (2 ^ 62))<=j/\j < 2 ^ 62)/\R (Ac i (j - i).toNat) H1
theorem CL{a:zO}{ta:TA}{p pos:Pos}(hg:Gl X "range")(hm:X.mg "range"=oM)(ha:PA X [a] ta)(hs:autoParam (ix [a] X.env= [(yv,eval a X.env)]) q_3._auto_1):PI X tg (.Call (.Name "range" p) [a] [] pos) (CK ta):=by
 intro ab s σ H R I h;refine Call_ (xq I hg hm boot_range (Ny (bh (ha pos ab s σ H _ I h) λus s1 #[vs,H1,I1,r1,q1]=> ?_) hs rfl));let j e q1 q2 q:=q1;subst e;cases r1 with
 |cons r rr=>
  cases rr;let t rfl:=r;exact call_range_1 (Ow I1 b_ b_ q1 q2 (by simpa using q))
theorem WT{a b:zO}{ta:TA}{p pos:Pos}(hg:Gl X "range")(hm:X.mg "range"=oM)(ha:PA X [a,b] ta)(hs:autoParam (ix [a,b] X.env= [(yv,eval a X.env),(yv,eval b X.env)]) q_3._auto_1)(lC:autoParam (ix [b] X.env= [(yv,eval b X.env)]) q_3._auto_1):
  PI X tg (.Call (.Name "range" p) [a,b] [] pos) (Ox ta):=by
 intro ab s σ H R I h;refine Call_ (xq I hg hm boot_range (Ny (bh (ha pos ab s σ H _ I h) λus s1 #[vs,H1,I1,r1,q1]=> ?_) (by rw[hs,lC]) (by rw[lC];rfl)));obtain⟨i,j,e,⟨q1,q2,q3,q4⟩,q⟩:=q1;subst e;cases r1 with
 |cons r rr=>
  cases rr with
  |cons r' rr=>
   cases rr;let t rfl:=r;let t' rfl:=r';exact call_range_2 (Ow I1 q1 q2 q3 q4 q)
def xv(wi:TI)(g:TG)(tb:TS):TS:=λD σ H=>wi σ H λJ H1=>∃W:Nat->Nat->St->Hp->Prop,(∃m,W 0 m σ H1)/\∀i m σ H,W i m σ H->
 (J.stop i H/\D.nx σ H)\/(J.go i H/\∃N:St->Hp->Prop,(∀dg H',N dg H'->∃m',m' < m/\W (i + 1) m' dg H')/\∀x H',J.apQ i H x H'->g x σ H' λsm H2=>tb { D with nx:=N,ct:=N,bk:=D.nx } sm H2)
noncomputable def Ad (fp:oH zI) (h:zN):oH (zI×Obj):=fp.filterMap λb=>(h.get? b).map λo=>(b,o)
theorem CM{h:zN}{b:zI}{o:Obj}(hb:b∈fp)(e:h.get? b\o):(b,o)∈Ad fp h:=Vy.mpr #[b,hb,by rw[e];rfl]
theorem WU{h:zN}{p:zI×Obj}(hp:p∈Ad fp h):p.1∈fp/\h.get? p.1\p.2:=by
 let b hb e:=Vy.mp hp;cases q:h.get? b with
 |none=>rw[q]at e;lk
 |some o=>
  rw[q]at e;have e':(b,o)=p:=IM e;subst e';exact#[hb,q]
theorem Inv.pinned{ab:oH (zI×Obj)}{σ:St}{H:Hp}{s:zM}(I:Inv X ab σ H s)(hf:∀b∈fp,jT X ab H b)(ho:∀b∈fp,∃o,s.heap.get? b\o/\∀v,o.data≠ .cell v):Inv X (ab++Ad fp s.heap) σ H s:=
 I.CB λp hp=>(lZ.mp hp).elim (λz=>I.pin p (kg _ z)) λz=>by
  let hb e:=WU z;let f0 f1 f2 _:=hf p.1 hb;let o e' d:=ho p.1 hb;rw[e]at e';cases e';exact#[e,f0,f1,f2,d]
theorem Inv.CN{ab pl:oH (zI×Obj)}{σ:St}{H:Hp}{s:zM}(I:Inv X (ab++pl) σ H s):Inv X ab σ H s:=I.CB λp hp=>I.pin p (kg _ (qR _ hp))
theorem tq{iter:zO}{body:oH zP}{wi:TI}{g:TG}{tb:TS}{pos:Pos}(hp:PassesOwn (model X.prog X.w) X.A X.env X.xe)(hc:X.calm=oP)(hi:PI X tg iter wi)(hg:PG X tg g)(hb:OK X body tb)
  (hs:autoParam (∀x,aBq iter X.env x=pure x) q_2._auto_1):PS X (.For tg iter body [] pos) (xv wi g tb):=by
 intro ab s σ H D I h;refine wpAny_For (bh (hi ab s σ H _ I h) λv s1 h1=>bh h1 λGg s2 h2=> ?_) hs;obtain⟨it,fp,tn,J,H2,e,I2,T,dJ,f2,W,⟨m0,w0⟩,turn⟩:=h2;subst e
 -- fm alR oP of ahg aiT objects through ahg loop
 have vi:∀{H':Hp},(∀b∈fp,H' b=oM)->∀b∈fp,jT X ab H' b:=λhn b hb=>#[hn b hb,(f2 b hb).2]
 refine codeAny_forLoop_any (λn s'=>∃i dg H',Inv X ab dg H' s'/\tn i s'.heap/\(∀b∈fp,H' b=oM)/\W i n dg H') ?_ m0 #[0,σ,H2,I2,dJ,λb hb=>(f2 b hb).1,w0];rintro n s3 ⟨i,tO,H3,I3,gZ,Oy,w3⟩;rcases turn i n tO H3 w3 with⟨stop,qn⟩ | ⟨go,N,hN,step⟩
 .refine zd hp (bh (T.done X rfl rfl rfl hc i ab s3 tO H3 X.xe I3 (vi Oy) gZ stop) λr s4 #[hr,I4]=> ?_);subst hr;exact Nl #[tO,H3,I4,qn]
 .refine zd hp (bh (T.item X rfl rfl rfl hc i ab s3 tO H3 X.xe I3 (vi Oy) gZ go) λr s4 #[u,hr,h4]=> ?_);subst hr;refine zd hp (bh h4 λ_ s5 #[x,H5,I5,r5,y5,rf,atF]=> ?_);have WV:=I5.pinned (vi atF) (T.obj _ _ rf);refine zd hp (bh (hg _ s5 tO H5 x u _ WV r5 (step x H5 y5)) λ_ s6 #[aoe,H6,I6,q6]=> ?_);refine zd hp (bh (hb _ s6 aoe H6 _ I6 q6) λf s7 q7=> ?_);have again:∀{md:St} {H7:Hp},Inv X (ab++Ad fp s5.heap) md H7 s7->N md H7->∃m,m < n/\∃i dg H',Inv X ab dg H' s7/\tn i s7.heap/\(∀b∈fp,H' b=oM)/\W i m dg H':=λ{md H7} I7 n7=>by
   let m' hm w7:=hN md H7 n7;refine#[m',hm,i + 1,md,H7,I7.CN,T.keep _ _ _ rf λb hb o e=>(I7.pin (b,o) (kg _ (kg _ (CM hb e)))).1,λb hb=> ?_,w7];let o e d:=T.obj _ _ rf b hb;exact(I7.pin (b,o) (kg _ (kg _ (CM hb e)))).2.1
  cases f with
  |next=>let md H7 I7 n7:=q7;exact again I7 n7
  |cont=>let md H7 I7 n7:=q7;exact again I7 n7
  |brk=>let md H7 I7 q7:=q7;exact#[md,H7,I7.CN,q7]
  |ret v=>let x7 md H7 I7 r7 q7:=q7;exact#[x7,md,H7,I7.CN,r7,q7]
end
abbrev R2:=V->V->Hp->VK->Prop
def cu(X:Cx)(f:zL->zL->Sem zL)(r:R2):Prop:=
 ∀(ab:oH (zI×Obj)) (s:zM) (σ:St) (H:Hp) (x y:V) (v u:zL) (Q:VK),Inv X ab σ H s->RelV x v->RelV y u->r x y H Q->
  wpAny (model X.prog X.w) X.A (f v u) (EP X ab σ Q) X.xe s
def Gi(X:Cx)(f:zL->Sem zL)(r:V->Hp->VK->Prop):Prop:=
 ∀(ab:oH (zI×Obj)) (s:zM) (σ:St) (H:Hp) (x:V) (v:zL) (Q:VK),Inv X ab σ H s->RelV x v->r x H Q->
  wpAny (model X.prog X.w) X.A (f v) (EP X ab σ Q) X.xe s
def fT(X:Cx)(f:zL)(r:oH V->Hp->VK->Prop):Prop:=
 ∀(ab:oH (zI×Obj)) (s:zM) (σ:St) (H:Hp) (xs:oH V) (us:oH zL) (Q:VK),Inv X ab σ H s->bj xs us->r xs H Q->
  wpAny (model X.prog X.w) X.A (call f us) (EP X ab σ Q) X.xe s
def ig(r:R2)(ta tb:TE):TE:=λσ H Q=>ta σ H λx H1=>tb σ H1 λy H2=>r x y H2 Q
def Oz(r:V->Hp->VK->Prop)(ta:TE):TE:=λσ H Q=>ta σ H λx H1=>r x H1 Q
def rI(C:Int->Int->Prop)(g:Int->Int->V):R2:=λx y H Q=>∃i j,x= .int i/\y= .int j/\C i j/\Q (g i j) H
def qj(g:Int->Int->V):R2:=λx y H Q=>∃i j,x= .int i/\y= .int j/\Q (g i j) H
def rU(g:Int->V):V->Hp->VK->Prop:=λx H Q=>∃i,x= .int i/\Q (g i) H
section
variable {X:Cx}{a b c:zO}{pos:Pos}
theorem Gj(ha:PE X a ta)(hb:PE X b tb){ab:oH (zI×Obj)}{s:zM}{σ:St}{H:Hp}{R:V->V->Hp->Prop}(I:Inv X ab σ H s)
  (h:ta σ H λx H1=>tb σ H1 λy H2=>R x y H2) {Q:zL->zM->Prop} {f:zL->zL->Sem zL}
  (hf:∀v u s2 x y H2,Inv X ab σ H2 s2->RelV x v->RelV y u->R x y H2->wpAny (model X.prog X.w) X.A (f v u) Q X.xe s2):
  wpAny (model X.prog X.w) X.A (eval a X.env) (λv dD=>wpAny (model X.prog X.w) X.A (eval b X.env) (λu CO=>wpAny (model X.prog X.w) X.A (f v u) Q X.xe CO) X.xe dD) X.xe s:=by
 refine bh (ha ab s σ H _ I h) λv s1 #[x,H1,I1,r1,q1]=> ?_;refine bh (hb ab s1 σ H1 _ I1 q1) λu s2 #[y,H2,I2,r2,q2]=> ?_;exact hf v u s2 x y H2 I2 r1 r2 q2
theorem sg(ho:cu X (binaryOp op) r)(ha:PE X a ta)(hb:PE X b tb):PE X (.BinOp a op b pos) (ig r ta tb):=by
 intro ab s σ H Q I h;exact wpAny_BinOp (Gj ha hb I h λv u s2 x y H2 I2 rx ry q=>ho ab s2 σ H2 x y v u Q I2 rx ry q)
theorem Gk(ho:Gi X (unaryOp op) r)(ha:PE X a ta):PE X (.UnaryOp op a pos) (Oz r ta):=by
 intro ab s σ H Q I h;exact UnaryOp_ (bh (ha ab s σ H _ I h) λv s1 #[x,H1,I1,r1,q1]=>ho ab s1 σ H1 x v Q I1 r1 q1)
theorem CP{f:zL->zL->Sem zL}{C:Int->Int->Prop}{g:Int->Int->Int}
  (rule:∀(i j:Int) (t u:Tok) (s:zM) (Q:zL->zM->Prop) (E:zL->zM->Prop),C i j->Q (.int (g i j) s.toks) { s with toks:=s.toks + 1 }->wpAny (model X.prog X.w) X.A (f (.int i t) (.int j u)) Q E s):
  cu X f (rI C λi j=> .int (g i j)):=by
 intro ab s σ H x y v u Q I rx ry h;let i j rfl rfl hc q:=h;let t rfl:=rx;let t' rfl:=ry;exact rule i j t t' s _ _ hc #[.int (g i j),H,I.tok _,#[_,rfl],q]
theorem OA{f:zL->zL->Sem zL}{g:Int->Int->Int}
  (rule:∀(i j:Int) (t u:Tok) (s:zM) (Q:zL->zM->Prop) (E:zL->zM->Prop),Q (.int (g i j) s.toks) { s with toks:=s.toks + 1 }->wpAny (model X.prog X.w) X.A (f (.int i t) (.int j u)) Q E s):
  cu X f (qj λi j=> .int (g i j)):=by
 intro ab s σ H x y v u Q I rx ry h;let i j rfl rfl q:=h;let t rfl:=rx;let t' rfl:=ry;exact rule i j t t' s _ _ #[.int (g i j),H,I.tok _,#[_,rfl],q]
theorem CQ{f:zL->zL->Sem zL}{g:Int->Int->Bool}
  (rule:∀(i j:Int) (t u:Tok) (s:zM) (Q:zL->zM->Prop) (E:zL->zM->Prop),Q (.bool (g i j)) s->wpAny (model X.prog X.w) X.A (f (.int i t) (.int j u)) Q E s):
  cu X f (qj λi j=> .bl (g i j)):=by
 intro ab s σ H x y v u Q I rx ry h;let i j rfl rfl q:=h;let t rfl:=rx;let t' rfl:=ry;exact rule i j t t' s _ _ #[.bl (g i j),H,I,rfl,q]
def qk(i j:Int):Prop:=0<=j/\j<=1000000/\i.natAbs < 2 ^ 64
def mM(i j:Int):Prop:=((unop% Neg.neg (2 ^ 64)) < i/\i < 2 ^ 64)\/((unop% Neg.neg (2 ^ 64)) < j/\j < 2 ^ 64)
theorem mM.ok(h:mM i j):IntMulOk i j:=by
 rcases h with⟨h1,h2⟩ | ⟨h1,h2⟩
 .exact .of_left (intBits_le_64 h1 h2)
 .exact .of_right (intBits_le_64 h1 h2)
theorem WX:cu X (binaryOp .Add) (qj λi j=> .int (i + j)):=OA λ_ _ _ _ _ _ _ q=>add_int q
theorem OB:cu X (binaryOp .Sub) (qj λi j=> .int (i - j)):=OA λ_ _ _ _ _ _ _ q=>sub_int q
theorem tu:cu X (binaryOp .Mult) (rI mM λi j=> .int (i * j)):=CP λ_ _ _ _ _ _ _ hc q=>mul_int q hc.ok
theorem Ae:cu X (binaryOp .Mod) (rI (λ_ j=>0 < j) λi j=> .int (i % j)):=CP λi j _ _ _ _ _ hc q=>by
 have h1:(0:Int) < j:=hc;exact mod_int' b_ (Int.fmod_eq_emod_of_nonneg i b_^^q)
theorem WY:cu X (binaryOp .Pow) (rI qk λi j=> .int (i ^ j.toNat)):=CP λ_ _ _ _ _ _ _ hc q=>pow_int_small hc.1 hc.2.1 hc.2.2 q
theorem WZ{f:zL->Sem zL}{g:Int->Int}
  (rule:∀(i:Int) (t:Tok) (s:zM) (Q:zL->zM->Prop) (E:zL->zM->Prop),Q (.int (g i) s.toks) { s with toks:=s.toks + 1 }->wpAny (model X.prog X.w) X.A (f (.int i t)) Q E s):
  Gi X f (rU λi=> .int (g i)):=by
 intro ab s σ H x v Q I rx h;let i rfl q:=h;let t rfl:=rx;exact rule i t s _ _ #[.int (g i),H,I.tok _,#[_,rfl],q]
theorem Gm:Gi X (unaryOp .USub) (rU λi=> .int ((unop% Neg.neg i))):=WZ λ_ _ _ _ _ q=>neg_int q
theorem Gp{ab:oH (zI×Obj)}{σ:St}{H:Hp}{s:zM}{Q:VK}(I:Inv X ab σ H s)(q:Q (.bl k) H)(e:k=k'):EP X ab σ Q (.bool k') s:=by
 subst e;exact#[.bl k,H,I,rfl,q]
theorem apn:cu X (compareOp .Lt) (qj λi j=> .bl (decide (i < j))):=CQ λ_ _ _ _ _ _ _ q=>lt_int q
theorem xw:cu X (compareOp .LtE) (qj λi j=> .bl (decide (i<=j))):=CQ λ_ _ _ _ _ _ _ q=>le_int q
theorem Gq:cu X (compareOp .Gt) (qj λi j=> .bl (decide (j < i))):=CQ λ_ _ _ _ _ _ _ q=>gt_int q
theorem aw2:cu X (compareOp .GtE) (qj λi j=> .bl (decide (j<=i))):=CQ λ_ _ _ _ _ _ _ q=>ge_int q
theorem W3:cu X (compareOp .In) (λx y H Q=>∃i j,x= .str i/\y= .str j/\Q (.bl (not ((Nz j i 0 j.length 1).isEmpty))) H):=by
 intro ab s σ H x y v u Q I rx ry h;let i j rfl rfl q:=h;let t rfl:=rx;let t' rfl:=ry;exact in_str (Gp I q rfl)
theorem W4:cu X (compareOp .Is) (λx y H Q=>y= .aG/\Q (.bl (decide (x= .aG))) H):=by
 intro ab s σ H x y v u Q I rx ry h;let rfl q:=h;cases ry;refine is_none_gen (Gp I q ?_);cases x <;> first
  |(cases rx;rfl)
  |(let t rfl:=rx;rfl)
theorem W5:cu X (compareOp .IsNot) (λx y H Q=>y= .aG/\Q (.bl (not (decide (x= .aG)))) H):=by
 intro ab s σ H x y v u Q I rx ry h;let rfl q:=h;cases ry;refine isnot_none_gen (Gp I q ?_);cases x <;> first
  |(cases rx;rfl)
  |(let t rfl:=rx;rfl)
theorem rg(b:zO)(h:autoParam (op≠ .In) q_1._auto_1)(h2:autoParam (op≠ .NotIn) q_1._auto_1):B3 op b=yv:=by
 have e1:(op == CmpOp.In)=yv:=by cases op <;> first | rfl | exact absurd rfl h
 have e2:(op == CmpOp.NotIn)=yv:=by cases op <;> first | rfl | exact absurd rfl h2
 cases b <;> simp[B3,e1,e2]
theorem jd(ho:cu X (compareOp op) r)(ha:PE X a ta)(hb:PE X b tb)(hm:B3 op b=yv):PE X (.Compare a [op] [b] pos) (ig r ta tb):=by
 intro ab s σ H Q I h;exact wpAny_Compare1 (Gj ha hb I h λv u s2 x y H2 I2 rx ry q=>ho ab s2 σ H2 x y v u Q I2 rx ry q) hm
def apR(t:TE):TT:=λσ H Q=>t σ H λx H'=>∃k,x= .bl k/\Q k H'
theorem iM(ho:cu X (compareOp op) r)(ha:PE X a ta)(hb:PE X b tb)(hm:B3 op b=yv):PT X (.Compare a [op] [b] pos) (apR (ig r ta tb)):=by
 intro ab s σ H Q I h;refine wpAny_isTrue_Compare1 (bh (ha ab s σ H _ I h) λv s1 #[x,H1,I1,r1,q1]=>bh (hb ab s1 σ H1 _ I1 q1) λu s2 #[y,H2,I2,r2,q2]=>
  bh (ho ab s2 σ H2 x y v u _ I2 r1 r2 q2) λc s3 #[z,H3,I3,r3,k,e,q3]=> ?_) hm
 subst e;cases r3;exact uK #[H3,I3,q3]
theorem vm:(aM:Nat) < 2 ^ 63:=by rw[mG];decide
theorem W9:cu X (binaryOp .Add) (λx y H Q=>∃i j,x= .str i/\y= .str j/\i.length + j.length<=aM/\Q (.str (i++j)) H):=by
 intro ab s σ H x y v u Q I rx ry h;let i j rfl rfl hz q:=h;let t rfl:=rx;let t' rfl:=ry;exact add_str (λt' tk=>#[.str (i++j),H,I.tok _,#[_,rfl],q]) hz
theorem vals1{x:V}(r:bj [x] us):∃u,us= [u]/\RelV x u:=by
 cases r with
 |cons r1 r2=>cases r2;exact#[_,rfl,r1]
theorem vals2{x y:V}(r:bj [x,y] us):∃u w',us= [u,w']/\RelV x u/\RelV y w':=by
 cases r with
 |cons r1 r2=>
  cases r2 with
  |cons r3 r4=>cases r4;exact#[_,_,rfl,r1,r3]
theorem Xb(hc:X.calm=oP):fT X (.builtin "max") (λxs H Q=>∃i j,xs= [.int i, .int j]/\Q (.int (if j > i then j else i)) H):=by
 intro ab s σ H xs us Q I r h;let i j rfl q:=h;obtain⟨u,w',rfl,⟨t,rfl⟩,⟨t',rfl⟩⟩:=vals2 r;refine max_two_ints (I.ok.hd hc) λh' tk k=>#[_,H,I.kept k, ?_,q]
 by_cases hj:j > i
 .rw[zJ hj,zJ hj];exact#[_,rfl]
 .rw[zK hj,zK hj];exact#[_,rfl]
theorem Xc(hc:X.calm=oP):fT X (.builtin "min") (λxs H Q=>∃i j,xs= [.int i, .int j]/\Q (.int (if j < i then j else i)) H):=by
 intro ab s σ H xs us Q I r h;let i j rfl q:=h;obtain⟨u,w',rfl,⟨t,rfl⟩,⟨t',rfl⟩⟩:=vals2 r;refine min_two_ints (I.ok.hd hc) λh' tk k=>#[_,H,I.kept k, ?_,q]
 by_cases hj:j < i
 .rw[zJ hj,zJ hj];exact#[_,rfl]
 .rw[zK hj,zK hj];exact#[_,rfl]
end
structure xx(h:zN)(x dx C:zI)(mA:Str->Option zL):Prop where
 obj:h.get? x=oF (xa C dx)
 ns:h.Ns1 dx mA
 ne:dx≠x
theorem Xf{h:zN}{mA:Str->oT zL}(n:h.Ns1 dx mA):∃od,h.get? dx\od/\∀name,awM name od\mA name:=by
 let o es ep ho hd hk _ hm:=n;refine#[o,ho,λname=> ?_];have e:=hm name;rw[nsFind,findBy]at e;rw[<- Array.find?_toList]at e;rw[awM];rw[hd];dsimp only
 split
 .rename_i y q
  rw[q]at e;exact congrArg oF e
 .rename_i q
  rw[q]at e;have a:es.toList.any (·.refKey)=yv:=by
   rw[List.any_eq_false];intro y hy;let z t Af:=hk y (Array.mem_toList_iff.mp hy);simp[DictEntry.refKey,Af]
  have a':¬ es.toList.any (·.refKey)=oP:=a^^df
  rw[zK a'];exact congrArg oF e
theorem xx.look{h:zN}{x dx C:zI}{mA:Str->oT zL}(I:xx h x dx C mA):∃od,W.InstAt h x (xa C dx) C (!od)/\∀name,awM name od\mA name:=
 let #[od,ho,hl]:=Xf I.ns
 #[od,#[I.obj,rfl,rfl,ho],hl]
section
variable {prog:zR}{w:zQ}{A:zS}{E:zL->zM->Prop}{s:zM}{K:ah}{x dx C f:zI}{mA:Str->oT zL}{name:Str}{v:zL}
theorem get_map{expr:Bool}{Q:zL->zM->Prop}(X:K.In s.heap)(I:xx s.heap x dx C mA)(hg:NB K C name=oP)(hh:NC K C=oP)
  (ha:p7 K (.ref C) name\oM) (hv:mA name\v) (iV:W.handedIn v=oP) (h:Q v { s with toks:=s.toks + 1 }):
  wpAny (model prog w) A (getAttr (.ref x) name expr) Q E s:=by
 let od J hl:=I.look;exact W.get_value X J (aBr hg).1 (W.findObj_own hh ha rfl (by rw[hl,hv])) iV h
theorem aBJ{pl:Sem Bool}{Q:zL×oH zL->zM->Prop}(X:K.In s.heap)(I:xx s.heap x dx C mA)(hg:NB K C name=oP)
  (hf:p7 K (.ref C) name\!.ref f) (ht:apj K (.ref f)=oP) (hv:mA name=oM) (h:Q (.ref f, [.ref x]) s):
  wpAny (model prog w) A (getMethod (.ref x) name pl) Q E s:=by
 let od J hl:=I.look;exact W.method_fn X J (aBr hg).1 (aBr hg).2 hf (beq_iff_eq.mp ht) (by show(awM name od).map (·.isSome)\yv;rw[hl,hv];rfl) h
theorem Xg{ns:oH Str}{Q:Unit->zM->Prop}(X:K.In s.heap)(I:xx s.heap x dx C mA)
  (hs:p7 K (.ref C) "__setattr__"\!.builtin "object.__setattr__") (hp:Vz K C=oP) (ht:W.takerIn K C name\oM) (hh:NC K C=oP)
  (hw:Vv mA ns) (hsz:-ns<=aM)
  (h:∀h',xx h' x dx C (λy=>if y=name then oF v else mA y)->Cd dx s.heap h'->Q () { s with heap:=h',toks:=s.toks + 2 }):
  wpAny (model prog w) A (setAttr (.ref x) name v) Q E s:=by
 let od J hl:=I.look;refine W.set_plain X J hs (W.osa_open (s:= { s with toks:=s.toks + 1 }) (r:=oM) X J hp ht λb=> ?_);let cd hc pA:=W.any_some hh;have hx:s.heap.get? x\#[.ref C,!dx, .plain,(List.toArray [])]:=I.obj;refine az (bF (az (az (wpAny_loadPart hx (az (W.Looks.here (s:= { s with toks:=s.toks + 1 }) (W.looks_clsIn X hc) ?_))))));rw[pA];refine bF (a:=oF dx) (az (bF (az ?_)));refine wpAny_nsSet1 (s:= { s with toks:=s.toks + 1 }) I.ns λh' CS lC=>?_;let oD aiU aiV Xh Xi Xj:=CS.count (Vv.cons name v hw);refine az (wpAny_lookBehind Xh (Xi^^pastItsLine_dict (eK Xj (by rw[p8];lia))) ?_);exact bF (h _ #[(lC.2 _ (yd I.ne)).trans I.obj,CS,I.ne] lC)
theorem Xk{R:Result->zM->Prop}{vs:oH zL}{kw:oH (Str×zL)}(X:K.In s.heap)(hm:W.makesIn K C=oP)
  (hi:p7 K (.ref C) "__init__"\!.ref f) (hf:W.typeIn K (.ref f)\.type "function")
  (h:qQ (model prog w) (A.under (.builtin "type.__call__" #[.ref C::vs,kw])) (.call (.ref f) #[.ref (s.heap.objs.size + 1)::vs,kw]) (W.InitBack (s.heap.objs.size + 1) R)
   { s with heap:=(s.heap.push uM).push (xa C s.heap.objs.size) }):
  qQ (model prog w) A (.call (.ref C) #[vs,kw]) R s:=by
 let hh g d t os:=s;exact W.make_core (W.makes_of X hm) (W.looks_findIn X hi) (λself=>W.bind_fn X self hf) (.inl rfl) h
end
noncomputable def iW (f:Str) (v:V):oH (Str×V)->oH (Str×V)
 | []=> [(f,v)]
 |(g,x)::r=>if g=f then(g,v)::r else(g,x)::iW f v r
theorem OG(f g:Str)(v:V):∀fs:oH (Str×V),(iW f v fs).lookup g=if g=f then oF v else fs.lookup g
 | []=>by
  show uN g [(f,v)]=_;by_cases h:g=f
  .have hb:(g == f)=oP:=beq_iff_eq.mpr h;simp[uN,hb,zJ h]
  .have hb:(g == f)=yv:=beq_eq_false_iff_ne.mpr h;simp[uN,hb,zK h]
 |(k,x)::r=>by
  have ih:=OG f g v r;rw[show iW f v ((k,x)::r)=(if k=f then(k,v)::r else(k,x)::iW f v r) from rfl];by_cases hk:k=f
  .rw[zJ hk];by_cases h:g=k
   .have hb:(g == k)=oP:=beq_iff_eq.mpr h;simp[uN,hb,zJ (h.trans hk)]
   .have hb:(g == k)=yv:=beq_eq_false_iff_ne.mpr h;simp[uN,hb,zK (λe:g=f=>h (e.trans hk.symm))]
  .rw[zK hk];by_cases h:g=k
   .have hb:(g == k)=oP:=beq_iff_eq.mpr h;simp[uN,hb,zK (λe:g=f=>hk (h.symm.trans e))]
   .have hb:(g == k)=yv:=beq_eq_false_iff_ne.mpr h;simp[uN,hb];lk
theorem Gu(f:Str)(v:V):∀fs:oH (Str×V),f∈(iW f v fs).map (·.1)/\∀g,g∈fs.map (·.1)->g∈(iW f v fs).map (·.1)
 | []=>#[by simp[iW],λg h=>by simp at h]
 |(k,x)::r=>by
  let i1 i2:=Gu f v r;rw[show iW f v ((k,x)::r)=(if k=f then(k,v)::r else(k,x)::iW f v r) from rfl];by_cases hk:k=f
  .rw[zJ hk];subst hk;exact#[by simp,λg h=>by simpa using h]
  .rw[zK hk];refine#[?_,λg h=> ?_]
   .rw[cP];exact nQ _ i1
   .rw[cP]at h |-;rcases bL.mp h with e | e
    .exact bL.mpr (.inl e)
    .exact nQ _ (i2 g e)
theorem OH(f:Str)(v:V):∀fs:oH (Str×V),(iW f v fs).length<=-fs + 1
 | []=>by simp[iW]
 |(k,x)::r=>by
  have ih:=OH f v r;rw[show iW f v ((k,x)::r)=(if k=f then(k,v)::r else(k,x)::iW f v r) from rfl];by_cases hk:k=f
  .rw[zJ hk,p8,p8];lia
  .rw[zK hk,p8,p8];lia
theorem kN.some_of{v:V}{o:oT zL}(r:kN (!v) o):∃u,o\u/\RelV v u:=by
 cases o with
 |none=>exact(show False from r).elim
 |some u=>exact#[u,rfl,r]
theorem kN.none_of{o:oT zL}(r:kN oM o):o=oM:=by
 cases o with
 |none=>rfl
 |some u=>exact(show False from r).elim
theorem Xl{v:V}{u:zL}(r:RelV v u):W.handedIn u=oP:=by
 cases v with
 |aG=>cases(show u=jb from r);rfl
 |bl b=>cases(show u=zj b from r);rfl
 |int i=>let t e:=(show ∃t,u=w6 i t from r);cases e;rfl
 |str x=>let t e:=(show ∃t,u=zi x t from r);cases e;rfl
 |uZ b=>let t e:=(show ∃t,u=Value.bytes b t from r);cases e;rfl
 |kl b=>let t e:=(show ∃t,u=Vu b t from r);cases e;rfl
 |ref a=>cases(show u=t5 a from r);rfl
 |ty n=>cases(show u=apM n from r);rfl
section
variable {P:zR}{w:zQ}{H H':Hp}{h h':zN}{a C dx:zI}
theorem kO(aQ:gB P w H h)(e:H a\.ins C dx fs):∃mA,xx h a dx C mA/\(∀f,kN (fs.lookup f) (mA f))/\Vv mA (fs.map (·.1))/\-fs<=1000/\H dx\.own a:=by
 let d z ne ob mA n r q:=(show va P w H h a (.ins C dx fs) from aQ a _ e)
 exact#[mA,#[ob,n,ne],r,q,z,d]
end
structure mN(K:ah)(C:zI):Prop where
 pg:NB K C Str.empty=oP
 hd:NC K C=oP
 po:Vz K C=oP
 sa:p7 K (.ref C) "__setattr__"=oF (oF (.builtin "object.__setattr__"))
theorem mN.get{K:ah}{C:zI}(c:mN K C)(f:Str):NB K C f=oP:=c.pg
def mf(K:ah)(C:zI)(f:Str):Prop:=p7 K (.ref C) f\oM
theorem mf.Xm{K:ah}{C:zI}{f:Str}(n:mf K C f):W.takerIn K C f\oM:=by
 rw[W.takerIn];rw[show p7 K (.ref C) f\oM from n];rfl
structure ats(K:ah)(C:zI)(m:Str)(f:zI):Prop where
 at_:p7 K (.ref C) m=oF (oF (.ref f))
 fn:apj K (.ref f)=oP
 kp:uO K (.ref f)=oP
section
variable {X:Cx}{ab:oH (zI×Obj)}{σ:St}{H:Hp}{s:zM}{a C dx:zI}{f:Str}{v:V}{A:zS}{E:zL->zM->Prop}
theorem OI{b:Bool}{Q:zL->zM->Prop}(I:Inv X ab σ H s)(e:H a\.ins C dx fs)(c:mN X.K C)(n:mf X.K C f)(l:fs.lookup f\v)
  (h:∀u s',Inv X ab σ H s'->RelV v u->Q u s'):wpAny (model X.prog X.w) A (getAttr (.ref a) f b) Q E s:=by
 let mA O r _ _ _:=kO I.aQ e;let u hu ru:=kN.some_of (v:=v) (o:=mA f) (by rw[<- l];exact r f);exact get_map I.fN O (c.get f) c.hd n hu (Xl ru) (h u _ (I.tok _) ru)
theorem aw3{pl:Sem Bool}{Q:zL×oH zL->zM->Prop}(I:Inv X ab σ H s)(e:H a\.ins C dx fs)(c:mN X.K C)(k:ats X.K C m g)(l:fs.lookup m=oM)
  (h:Q (.ref g, [.ref a]) s):wpAny (model X.prog X.w) A (getMethod (.ref a) m pl) Q E s:=by
 let mA O r _ _ _:=kO I.aQ e;have hn:mA m=oM:=kN.none_of (by rw[<- l];exact r m);exact aBJ I.fN O (c.get m) k.at_ k.fn hn h
theorem OJ{u:zL}{Q:Unit->zM->Prop}(I:Inv X ab σ H s)(e:H a\.ins C dx fs)(c:mN X.K C)(n:mf X.K C f)(hl:-fs < 1000)(ry:RelV y u)
  (h:∀s',Inv X ab σ (dm H a (.ins C dx (iW f y fs))) s'->Q () s'):wpAny (model X.prog X.w) A (setAttr (.ref a) f u) Q E s:=by
 let mA O r wi _ ho:=kO I.aQ e;have hz:-(fs.map (·.1))<=aM:=by rw[nI,mG];lia
 refine Xg I.fN O c.sa c.po n.Xm c.hd wi hz λh' O' sb=>h _ ?_;have hd:∃o,h'.get? dx\o:=let #[o,_,_,e',_]:=O'.ns;#[o,e'];refine I.write (x:=a) (e:=dx) (e^^kh) (.inr ho) (λb q hb z=>(sb.2 b hb).trans z) hd ?_;refine#[ba O.ne^^ho, ?_,O.ne,O'.obj,_,O'.ns,λg=> ?_,λg hg=> ?_]
 .have:=OH f y fs;lia
 .show kN ((iW f y fs).lookup g) (if g=f then oF u else mA g);rw[OG];by_cases q:g=f
  .rw[zJ q,zJ q];lk
  .rw[zK q,zK q];exact r g
 .by_cases q:g=f
  .rw[q];exact(Gu f y fs).1
  .refine(Gu f y fs).2 g (wi g λz=>hg ?_);show(if g=f then oF u else mA g)=oM;rw[zK q];lk
theorem Inv.made(I:Inv X ab σ H s):Inv X ab σ (dm (dm H s.heap.objs.size (.own (s.heap.objs.size + 1))) (s.heap.objs.size + 1) (.ins C s.heap.objs.size []))
  { s with heap:=(s.heap.push uM).push (xa C s.heap.objs.size) }:=by
 have e1:(s.heap.push uM).get? s.heap.objs.size\uM:=gc s.heap rfl;have e2:((s.heap.push uM).push (xa C s.heap.objs.size)).get? (s.heap.objs.size + 1)\xa C s.heap.objs.size:=by
  have:=gc (s.heap.push uM) (o:=xa C s.heap.objs.size) rfl;rwa [p9]at this
 have e3:(s.heap.push uM).Ns s.heap.objs.size (λ_=>oM):=#[uM,(List.toArray []),_,e1,rfl,(λe he=>absurd he e_),λ_=>rfl]
 have I1:=I.laid (a:=s.heap.objs.size) (o:= .own (s.heap.objs.size + 1)) (h':=s.heap.push uM) (t':=s.toks) (λb u q=>cB _ q) (bO _) #[_,e1];refine I1.laid (a:=s.heap.objs.size + 1) (o:= .ins C s.heap.objs.size []) (t':=s.toks) (λb u q=>cB _ q) (VA (p9 _ _)) ?_;have ne:s.heap.objs.size≠s.heap.objs.size + 1:=dR (FN _);refine#[by rw[ba ne,uB],jO _,ne,e2,λ_=>oM,(Heap.Ns1.of_empty e3).at λo q=>cB _ q,λ_=>kh,λy hy=>absurd rfl hy]
theorem Xn{prog:zR}{w:zQ}{e:zO}{f:Str}{pos:Pos}{s:zM}{Q:zL->zM->Prop}(hb:ao2 e f env (eval e env)=eval e env)
  (h:wpAny (model prog w) A (eval e env) (λo dD=>wpAny (model prog w) A (getAttr o f oP) Q E dD) E s):wpAny (model prog w) A (eval (.Attribute e f pos) env) Q E s:=
 Attribute_any_ h (by rw[arm_eval_Attribute,hb])
end
def Ag(K:ah)(ta:TE)(f:Str):TE:=λσ H Q=>ta σ H λx H1=>∃a C dx fs v,x= .ref a/\H1 a\.ins C dx fs/\mN K C/\mf K C f/\fs.lookup f\v/\Q v H1
def Gv(K:ah)(ta tv:TE)(f:Str):TS:=λD σ H=>tv σ H λy H1=>ta σ H1 λx H2=>∃a C dx fs,x= .ref a/\H2 a\.ins C dx fs/\mN K C/\mf K C f/\-fs < 1000/\
 D.nx σ (dm H2 a (.ins C dx (iW f y fs)))
section
variable {X:Cx}{o e value:zO}{f:Str}{pos pos' Ah:Pos}
theorem Xo(he:PE X e ta)(hb:ao2 e f X.env (eval e X.env)=eval e X.env):PE X (.Attribute e f pos) (Ag X.K ta f):=by
 intro ab s σ H Q I h;refine Xn hb (bh (he ab s σ H _ I h) λu s1 #[x,H1,I1,rx,a,C,dx,fs,v,ex,ea,c,n,l,q]=> ?_);subst ex;obtain rfl:u=t5 a:=rx;exact OI I1 ea c n l λu' s2 I2 ru=>#[v,H1,I2,ru,q]
theorem Xp(ha:PE X o ta)(hv:PE X value tv)(hs:wQ value (!.Attribute o f pos') pos.line X.env=pure yv):PS X (.Assign [.Attribute o f pos'] value pos) (Gv X.K ta tv f):=by
 intro ab s σ H D I h;refine plainObj_wpAny_Assign_Attribute (bh (hv ab s σ H _ I h) λu s1 #[y,H1,I1,ry,q]=>bh (ha ab s1 σ H1 _ I1 q) λov s2 #[x,H2,I2,rx,a,C,dx,fs,ex,ea,c,n,l,q2]=> ?_) hs;subst ex;obtain rfl:ov=t5 a:=rx;exact OJ I2 ea c n l ry λs3 I3=>#[σ,_,I3,q2]
end
section
variable {X:Cx}{ab:oH (zI×Obj)}{σ:St}{H:Hp}{s:zM}{A:zS}{E:zL->zM->Prop}{Q:zL->zM->Prop}
inductive kP(K:ah)(H:Hp):V->zL->Prop where
 |aG:kP K H .aG (.type "NoneType")
 |bl (x:Bool):kP K H (.bl x) (.type "bool")
 |int (i:Int):kP K H (.int i) (.type "int")
 |str (x:Str):kP K H (.str x) (.type "str")
 |kl (x:UInt64):kP K H (.kl x) (.type "float")
 |lst {a:zI} {xs:List V} (e:H a=oF (.lst xs)):kP K H (.ref a) (.type "list")
 |b9 {a:zI} {o:Obj} {xs:List V} (e:H a=oF (.b9 o (.lst xs))):kP K H (.ref a) (.type "list")
 |tup {a:zI} {xs:List V} (e:H a=oF (.tup xs)):kP K H (.ref a) (.type "tuple")
 |dK {a:zI} {cf:List (bc×V)} (e:H a=oF (.dK cf)):kP K H (.ref a) (.type "dict")
 |dT {a:zI} {cf:List (List bc×V)} (e:H a=oF (.dT cf)):kP K H (.ref a) (.type "dict")
 |ins {a C dx:zI} {fs:List (Str×V)} (e:H a=oF (.ins C dx fs)) (cl:mN K C) (ha:p7 K (.ref C) "__class__"=oF (oF (.builtin "object.__class__")))
   (hn:W.specialIn K (.builtin "object.__class__") "__get__"=oF (oF (.builtin "getset_descriptor.__get__"))) (CT:W.takesIn K (.builtin "object.__class__")=oF oP)
   (hm:W.mroIn K C (.type "object")=oF oP):kP K H (.ref a) (.ref C)
theorem Xt{x:V}{u t:zL}(I:Inv X ab σ H s)(rx:RelV x u)(ty:kP X.K H x t)(e:xg X.K t c\b)(h:∀tk,Q (.bool b) { s with toks:=tk }):
  wpAny (model X.prog X.w) A (call (.builtin "isinstance") [u,c]) Q E s:=by
 cases ty with
 |aG=>cases(show u=jb from rx);exact qS W.kitx_none I.fN kh e (λz=>nomatch z) h
 |bl y=>cases(show u=zj y from rx);exact qS W.kitx_bool I.fN kh e (λz=>nomatch z) h
 |int i=>let t q:=(show ∃t,u=w6 i t from rx);cases q;exact qS W.kitx_int I.fN kh e (λz=>nomatch z) h
 |str y=>let t q:=(show ∃t,u=zi y t from rx);cases q;exact qS W.kitx_str I.fN kh e (λz=>nomatch z) h
 |kl y=>let t q:=(show ∃t,u=Vu y t from rx);cases q;exact qS W.kitx_float I.fN kh e (λz=>nomatch z) h
 | @lst a xs ea=>
  cases(show u=t5 a from rx);obtain⟨_,_,n,_,h1⟩:=(show va X.prog X.w H s.heap a (.lst xs) from I.aQ a _ ea)
  exact qS ND I.fN #[_,h1,rfl] e (λz=>nomatch z) h
 | @b9 a ob xs ea=>
  cases(show u=t5 a from rx);obtain⟨_,_,_,n,_,h1⟩:=(show va X.prog X.w H s.heap a (.b9 ob (.lst xs)) from I.aQ a _ ea)
  exact qS ND I.fN #[_,h1,rfl] e (λz=>nomatch z) h
 | @tup a xs ea=>
  cases(show u=t5 a from rx);obtain⟨_,_,_,p⟩:=(show va X.prog X.w H s.heap a (.tup xs) from I.aQ a _ ea)
  let o h1 h2 _:=p;exact qS W.kitx_tuple I.fN #[o,h1,h2] e (λz=>nomatch z) h
 | @dK a cf ea=>
  cases(show u=t5 a from rx);obtain⟨_,_,vs,_,p⟩:=(show va X.prog X.w H s.heap a (.dK cf) from I.aQ a _ ea)
  let o es ep h1 h2 _:=p;exact qS NF I.fN #[o,h1,h2.1] e (λz=>nomatch z) h
 | @dT a cf ea=>
  cases(show u=t5 a from rx);obtain⟨_,_,xs,_,o,es,ep,h1,h2,_⟩:=(show va X.prog X.w H s.heap a (.dT cf) from I.aQ a _ ea)
  exact qS NF I.fN #[o,h1,h2.1] e (λz=>nomatch z) h
 | @ins a C dx fs ea cl ha hn CT hm=>
  cases(show u=t5 a from rx);let mA O _:=kO I.aQ ea;let od J _:=O.look;exact qS (W.kitx_own (cl.get _) cl.hd ha hn CT hm) I.fN J e (λz=>nomatch z) h
end
structure gf(k:Nat)(A:zS):Prop where
 hd:A.handled=oM
 dp:A.depth + 3 * k + 5 < recursionLimit
 un:A.units + 16 * k + 200 < cLine
 gd:A.guards=oF []
theorem gf.mono{A:zS}(r:gf k A)(h:j<=k):gf j A:=#[r.hd,by have:=r.dp;lia,by have:=r.un;lia,r.gd]
theorem gf.deeper{A:zS}(r:gf (k + 1) A)(env:Env):gf k (A.deeper env):=
 #[r.hd,by have:=r.dp;show A.depth + 1 + 3 * k + 5 < _;lia,by have:=r.un;show A.units + 3 + 16 * k + 200 < _;lia,r.gd]
theorem gf.in1{A:zS}(r:gf (k + 1) A):gf k A.in1:=
 #[r.hd,by have:=r.dp;show A.depth + 3 * k + 5 < _;lia,by have:=r.un;show A.units + 1 + 16 * k + 200 < _;lia,r.gd]
theorem Xu{A:zS}{C:zI}:(A.under (.builtin "type.__call__" #[.ref C::us,kw])).depth=A.depth + 1:=by
 first | rfl | simp[NG,Code.weight,Code.isCreation,Code.isGuard,Code.isCaller,Code.frames,VB,guardIds]
theorem Xv{A:zS}{C:zI}:(A.under (.builtin "type.__call__" #[.ref C::us,kw])).units=A.units + 1:=by
 first | rfl | simp[NG,Code.cUnits,Code.frames,VB]
theorem gf.make{A:zS}(r:gf (k + 1) A)(C:zI)(us:oH zL)(kw:oH (Str×zL)):gf k (A.under (.builtin "type.__call__" #[.ref C::us,kw])):=
 #[r.hd,by have:=r.dp;rw[Xu];lia,by have:=r.un;rw[Xv];lia,by first | exact r.gd | (have:=r.gd;simpa[NG,Code.isGuard,guardIds]using this)]
theorem gf.depth{A:zS}(r:gf k A):A.depth < recursionLimit:=by have:=r.dp;lia
theorem gf.units{A:zS}(r:gf k A):A.units + 64 < cLine:=by have:=r.un;lia
def fz:TA:=λ_ H Q=>Q [] H
def di(ta:TE)(tr:TA):TA:=λσ H Q=>ta σ H λx H1=>tr σ H1 λxs H2=>Q (x::xs) H2
section
variable {X:Cx}{e:zO}{es:oH zO}{te:TE}{t:TA}{pos:Pos}
theorem gk:PA X [] fz:=λ_ _ _ _ H Q I h=>VC #[[],H,I, .nil,h]
theorem fJ(ha:PE X e te)(hr:PA X es t)(hs:autoParam (ix (e::es) X.env=(yv,eval e X.env)::ix es X.env) q_3._auto_1):PA X (e::es) (di te t):=by
 intro pos ab s σ H Q I h;rw[hs];show wpAny _ _ (spliced ((yv,eval e X.env)::backTo pos (ix es X.env))) _ _ s;refine NH (bh (ha ab s σ H _ I h) λu s1 #[x,H1,I1,r1,q1]=> ?_);exact bh (hr pos ab s1 σ H1 _ I1 q1) λus s2 #[xs,H2,I2,r2,q2]=>#[x::xs,H2,I2, .cons r1 r2,q2]
def Ai(t:TA):TE:=λσ H Q=>t σ H λxs H1=>-xs<=aM/\∀p,H1 p=oM->Q (.ref p) (dm H1 p (.tup xs))
def aoK(t:TA):TE:=λσ H Q=>t σ H λxs H1=>-xs<=aM/\∀p,H1 p=oM->Q (.ref p) (dm H1 p (.lst xs))
theorem eZ{x1}(h:PA X es t):PE X (.Tuple es x1 pos) (Ai t):=by
 intro ab s σ H Q I hq;refine wpAny_Tuple_spliced (bh (h pos ab s σ H _ I hq) λus s1 #[xs,H1,I1,r,z,q]=>#[by rw[<- r.length];lk, ?_]);have hf:H1 s1.heap.objs.size=oM:=I1.aQ.fresh (bO _);refine#[.ref s1.heap.objs.size,dm H1 s1.heap.objs.size (.tup xs),I1.laid (t':=s1.toks) (λb u e=>cB _ e) (bO _) ?_,rfl,q _ hf];exact#[z,us,r,#[_,gc _ rfl,rfl,_,rfl]]
theorem iX(h:PA X es t):PE X (.List es pos) (aoK t):=by
 intro ab s σ H Q I hq;refine wpAny_List_spliced (bh (h pos ab s σ H _ I hq) λus s1 #[xs,H1,I1,r,z,q]=>#[by rw[<- r.length];lk, ?_]);have hf:H1 s1.heap.objs.size=oM:=I1.aQ.fresh (bO _);refine#[.ref s1.heap.objs.size,dm H1 s1.heap.objs.size (.lst xs),I1.laid (t':=s1.toks) (λb u e=>cB _ e) (bO _) ?_,rfl,q _ hf];exact#[z,us,0,r,gc _ rfl]
end
abbrev Sp:=oH V->Hp->VK->XK->Prop
abbrev rh:=oH Env->Hp->zM->XK->zL->zM->Prop
structure aow(P:zR)(w:zQ)(K:ah)(mg:Str->Option zL)(base:zN)(A:zS)(outer:List Env)(s:zM)(H:Hp):Prop where
 frames:A.frames=oF outer
 mod:Mod K mg base
 bs:∀b o,base.get? b=oF o->s.heap.get? b=oF o/\H b=oM
 qe:base.objs.size<=s.heap.objs.size
 nX:s.heap.FunFrames base outer
 vc:∀b∈ahf outer,H b=oM
 aQ:gB P w H s.heap
 bare:wO s.gens
def CE(outer:oH Env)(P:zR)(w:zQ)(H:Hp)(s:zM)(Q:VK)(u:zL)(s':zM):Prop:=
 ∃v H',s'.os=s.os/\wO s'.gens/\Un (ahf outer) [] H H' s.heap s'.heap/\gB P w H' s'.heap/\RelV v u/\Q v H'
def CR(CX:rh)(outer:oH Env)(P:zR)(w:zQ)(H:Hp)(s:zM)(Q:VK)(E:XK)(r:Result)(s':zM):Prop:=
 match r with
 |.ok (.ret u)=>CE outer P w H s Q u s'
 |.ok _=>False
 |.error e=>CX outer H s E e s'
structure bZ(P:zR)(w:zQ)(K:ah)(mg:Str->Option zL)(base:zN)(CX:rh)(k:Nat)(f:zI)(fd:kK)(ps:List Str)(sp:Sp):Prop where
 len:∀vs H Q E,sp vs H Q E->vs.length=ps.length
 run:∀(A:zS) (outer:List Env) (s:zM) (H:Hp) (args:Args) (us:List zL) (vs:List V) (Q:VK) (E:XK),gf k A->aow P w K mg base A outer s H->B4 s fd args (ps.zip us)->bj vs us->sp vs H Q E->
  qQ (model P w) A (.call (.ref f) args) (CR CX outer P w H s Q E) s
theorem bZ.imp{P:zR}{w:zQ}{K:ah}{f:zI}{sp OM:Sp}(F:bZ P w K mg base CX k f fd ps sp)
  (h:∀vs H Q E,OM vs H Q E->sp vs H Q E):bZ P w K mg base CX k f fd ps OM:=
 #[λvs H Q E q=>F.len vs H Q E (h _ _ _ _ q),λA outer s H args us vs Q E hr he hb hv hs=>F.run A outer s H args us vs Q E hr he hb hv (h _ _ _ _ hs)]
theorem aow.make{P:zR}{w:zQ}{K:ah}{A:zS}{s:zM}{H:Hp}(e:aow P w K mg base A outer s H)(C:zI)(us:oH zL)(kw:oH (Str×zL)):
  aow P w K mg base (A.under (.builtin "type.__call__" #[.ref C::us,kw])) outer s H:=#[by first | exact e.frames | (simpa[NG,Code.envs,VB,pushEnvs]using e.frames),e.mod,e.bs,e.qe,e.nX,e.vc,e.aQ,e.bare]
theorem aow.in1{P:zR}{w:zQ}{K:ah}{A:zS}{s:zM}{H:Hp}(e:aow P w K mg base A outer s H):
  aow P w K mg base A.in1 outer s H:=#[e.frames,e.mod,e.bs,e.qe,e.nX,e.vc,e.aQ,e.bare]
section
variable {X:Cx}{ab:oH (zI×Obj)}{σ:St}{H:Hp}{s s':zM}
theorem Inv.ON(I:Inv X ab σ H s):aow X.prog X.w X.K X.mg X.base X.A X.stack s H:=
 #[I.ok.frames,I.ok.mod,I.bs,eK I.ok.qe I.sz,I.stack,I.N9,I.aQ,I.bare]
theorem Inv.after{Q:VK}{u:zL}(I:Inv X ab σ H s)(h:CE X.stack X.prog X.w H s Q u s'):EP X ab σ Q u s':=by
 let v H' os bare un aQ r q:=h;let hh g d t Gz:=s';obtain rfl:Gz=s.os:=os;exact#[v,H',I.call (h':=hh) (g':=g) (d':=d) (t':=t) (ch:= []) un aQ bare (λb z=>absurd z e_),r,q]
end
def og(sp:Sp)(kQ:oH V)(E:XK)(t:TA):TE:=λσ H Q=>t σ H λvs H1=>sp (vs++kQ) H1 Q E
def apS(C:zI)(m:Str)(sp:Sp)(kQ:oH V)(E:XK)(ta:TE)(t:TA):TE:=λσ H Q=>ta σ H λx H1=>∃a dx fs,x= .ref a/\H1 a\.ins C dx fs/\fs.lookup m=oM/\
 t σ H1 λvs H2=>sp (x::(vs++kQ)) H2 Q E
def atG(C:zI)(sp:Sp)(kQ:oH V)(E:XK)(t:TA):TE:=λσ H Q=>t σ H λvs H1=>∀x dx,H1 x=oM->H1 dx=oM->dx≠x->
 sp (.ref x::(vs++kQ)) (dm (dm H1 dx (.own x)) x (.ins C dx [])) (λv H2=>v= .aG/\Q (.ref x) H2) E
def Binds(K:ah)(fd:kK)(ps:oH Str)(ds:oH zL):Prop:=
 ∀(s:zM) (us:oH zL),K.In s.heap->-(us++ds)=-ps->B4 s fd #[us, []] (ps.zip (us++ds))
theorem Binds.all{K:ah}{ps:oH Str}(h:∀us:oH zL,us.length=-ps->bindArgs fd #[us, []]=pure (ps.zip us)):Binds K fd ps []:=λs us _ hl=>by
 rw[nM]at hl |-;exact .of_eq (h us hl)
def zb(CX:rh)(X:Cx)(E:XK):Prop:=∀(ab:oH (zI×Obj)) (σ:St) (H:Hp) (s:zM) (e:zL) (s':zM),Inv X ab σ H s->CX X.stack H s E e s'->X.xe e s'
section
variable {X:Cx}{k:Nat}{f C:zI}{fd:kK}{ps:oH Str}{sp:Sp}{E:XK}{x m:Str}{p pos jM:Pos}{e o:zO}{es:oH zO}{t:TA}
theorem OO{ab:oH (zI×Obj)}{σ:St}{H:Hp}{s:zM}{Q:VK}{us:oH zL}{vs:oH V}(F:bZ X.prog X.w X.K X.mg X.base CX k f fd ps sp)(hr:gf k X.A)(hb:Binds X.K fd ps ds)(hd:bj kQ ds)(hx:zb CX X E)
  (I:Inv X ab σ H s) (r:bj vs us) (h:sp (vs++kQ) H Q E):wpAny (model X.prog X.w) X.A (call (.ref f) us) (EP X ab σ Q) X.xe s:=by
 have r2:bj (vs++kQ) (us++ds):=r.append hd;have hl:-(us++ds)=-ps:=by rw[<- r2.length];exact F.len _ _ _ _ h
 refine awI (B5 (F.run X.A X.stack s H #[us, []] (us++ds) (vs++kQ) Q E hr I.ON (hb s us I.fN hl) r2 h) λr s' hq=> ?_);cases r with
 |error e=>exact hx ab σ H s e s' I hq
 |ok fl=>
  cases fl with
  |ret u=>exact I.after hq
  |next=>exact pj hq
  |brk=>exact pj hq
  |cont=>exact pj hq
theorem Xw(F:bZ X.prog X.w X.K X.mg X.base CX k f fd ps sp)(hr:gf k X.A)(hg:Gl X x)(hm:X.mg x\.ref f)(hk:uO X.K (.ref f)=oP)(hb:Binds X.K fd ps ds)(hd:bj kQ ds)(hx:zb CX X E)
  (ha:PA X (e::es) t) (akK:(x == ("__debug__":Str))=yv:=by decide) (he:ix (e::es) X.env=(yv,eval e X.env)::ix es X.env:=by rfl) (dM:(backTo pos (ix es X.env)).any (·.1)=yv:=by rfl):
  PE X (.Call (.Name x p) (e::es) [] pos) (og sp kQ E t):=by
 intro ab s σ H Q I h;refine FJ (CD I hg hm ?_ akK);refine aBs (h₀:=X.base) I.ok.mod.Cw hk (bh (ha pos ab s σ H _ I h) λus s1 #[vs,H1,I1,r,q]=>#[I1.fN, ?_]) he dM;exact OO F hr hb hd hx I1 r q
theorem aBK{pl:Sem Bool}(he:PE X o ta)(c:mN X.K C)(hm:ats X.K C m f)(F:bZ X.prog X.w X.K X.mg X.base CX k f fd ps sp)(hr:gf k X.A)(hb:Binds X.K fd ps ds)(hd:bj kQ ds)(hx:zb CX X E)(ha:PA X (e::es) t)
  (Ge:autoParam (ix (e::es) X.env=(yv,eval e X.env)::ix es X.env) q_3._auto_1) (dM:(backTo pos (ix es X.env)).any (·.1)=yv:=by rfl)
  (ht:eval (.Call (.Attribute o m jM) (e::es) [] pos) X.env=(do
   let ov <- eval o X.env
   FH jM.atName
   let (f,first) <- holding [ov] (getMethod ov m pl)
   callWith pos f first (backTo pos (ix (e::es) X.env)) (B7 pos (B8 [] X.env))):=by rfl):
  PE X (.Call (.Attribute o m jM) (e::es) [] pos) (apS C m sp kQ E ta t):=by
 intro ab s σ H Q I h;refine W.methodCall_KW (pl:=pl) (bh (he ab s σ H _ I h) λu s1 #[x,H1,I1,rx,a,dx,fs,ex,ea,l,q]=> ?_) ht;subst ex;obtain rfl:u=t5 a:=rx;refine aw3 I1 ea c hm l ?_;refine aBs (first:= [.ref a]) (h₀:=X.base) I.ok.mod.Cw hm.kp (bh (ha pos ab s1 σ H1 _ I1 q) λus s2 #[vs,H2,I2,r,q2]=>#[I2.fN, ?_]) Ge dM;exact OO (us:= .ref a::us) (vs:= .ref a::vs) F hr hb hd hx I2 (.cons rfl r) q2
theorem aBL{pl:Sem Bool}(he:PE X o ta)(c:mN X.K C)(hm:ats X.K C m f)(F:bZ X.prog X.w X.K X.mg X.base CX k f fd ps sp)(hr:gf k X.A)(hb:Binds X.K fd ps ds)(hd:bj kQ ds)(hx:zb CX X E)
  (ht:eval (.Call (.Attribute o m jM) [] [] pos) X.env=(do
   let ov <- eval o X.env
   FH jM.atName
   let (f,first) <- holding [ov] (getMethod ov m pl)
   callWith pos f first (backTo pos (ix [] X.env)) (B7 pos (B8 [] X.env))):=by rfl):
  PE X (.Call (.Attribute o m jM) [] [] pos) (apS C m sp kQ E ta fz):=by
 intro ab s σ H Q I h;refine W.methodCall_KW (pl:=pl) (bh (he ab s σ H _ I h) λu s1 #[x,H1,I1,rx,a,dx,fs,ex,ea,l,q]=> ?_) ht;subst ex;obtain rfl:u=t5 a:=rx;refine aw3 I1 ea c hm l ?_;exact W.callWith_K0 (first:= [.ref a]) I1.fN hm.kp (OO (us:= [.ref a]) (vs:= [.ref a]) F hr hb hd hx I1 (.cons rfl .nil) q)
structure Mk(K:ah)(C f:zI):Prop where
 makes:W.makesIn K C=oP
 init:p7 K (.ref C) "__init__"=oF (oF (.ref f))
 fn:apj K (.ref f)=oP
 kp:uO K (.ref C)=oP
theorem Xy{ab:oH (zI×Obj)}{σ:St}{H:Hp}{s:zM}{Q:VK}{us:oH zL}{vs:oH V}(M:Mk X.K C f)(F:bZ X.prog X.w X.K X.mg X.base CX k f fd ps sp)(hr:gf (k + 1) X.A)(hb:Binds X.K fd ps ds)(hd:bj kQ ds)
  (hx:zb CX X E) (I:Inv X ab σ H s) (r:bj vs us)
  (h:∀x dx,H x=oM->H dx=oM->dx≠x->sp (.ref x::(vs++kQ)) (dm (dm H dx (.own x)) x (.ins C dx [])) (λv H2=>v= .aG/\Q (.ref x) H2) E):
  wpAny (model X.prog X.w) X.A (call (.ref C) us) (EP X ab σ Q) X.xe s:=by
 have hq:=h (s.heap.objs.size + 1) s.heap.objs.size (I.aQ.fresh (NI _)) (I.aQ.fresh (bO _)) (dR (FN _));have I2:=Inv.made (C:=C) I;have r2:bj (V.ref (s.heap.objs.size + 1)::(vs++kQ)) (t5 (s.heap.objs.size + 1)::(us++ds)):= .cons rfl (r.append hd);have hl:-(t5 (s.heap.objs.size + 1)::us++ds)=-ps:=by
  have e:=r2.length;rw[F.len _ _ _ _ hq]at e;exact e.symm
 refine awI (Xk (f:=f) I.fN M.makes M.init (beq_iff_eq.mp M.fn) (B5 (F.run _ X.stack _ _ #[t5 (s.heap.objs.size + 1)::us, []] (t5 (s.heap.objs.size + 1)::(us++ds)) _ _ E (hr.make C us [])
  (I2.ON.make C us []) (hb _ (t5 (s.heap.objs.size + 1)::us) I2.fN hl) r2 hq) λr s' Aj=> ?_))
 cases r with
 |error e=>exact hx ab σ _ _ e s' I2 Aj
 |ok fl=>
  cases fl with
  |ret u=>
   let v H' I3 rv ev q3:=I2.after Aj;subst ev;exact#[rv,#[V.ref (s.heap.objs.size + 1),H',I3,rfl,q3]]
  |next=>exact pj Aj
  |brk=>exact pj Aj
  |cont=>exact pj Aj
theorem aBM(M:Mk X.K C f)(F:bZ X.prog X.w X.K X.mg X.base CX k f fd ps sp)(hr:gf (k + 1) X.A)(hg:Gl X x)(hm:X.mg x\.ref C)(hb:Binds X.K fd ps ds)(hd:bj kQ ds)(hx:zb CX X E)
  (ha:PA X (e::es) t) (akK:(x == ("__debug__":Str))=yv:=by decide) (he:ix (e::es) X.env=(yv,eval e X.env)::ix es X.env:=by rfl) (dM:(backTo pos (ix es X.env)).any (·.1)=yv:=by rfl):
  PE X (.Call (.Name x p) (e::es) [] pos) (atG C sp kQ E t):=by
 intro ab s σ H Q I h;refine FJ (CD I hg hm ?_ akK);refine aBs (h₀:=X.base) I.ok.mod.Cw M.kp (bh (ha pos ab s σ H _ I h) λus s1 #[vs,H1,I1,r,q]=>#[I1.fN, ?_]) he dM;exact Xy M F hr hb hd hx I1 r q
variable {ks:oH Str}{aiW:Pos}{te ta:TE}{tk:TA}
end
structure dr(N P:List Str)(sc:Scope):Prop where
 kind:sc.kind= .function
 co:sc.isCoroutine=yv
 gen:sc.isGenerator=yv
 nd:N.Nodup
 pre:N.take P.length=P
 par:∀x∈P,sc.names.lookup x=oF .local\/sc.names.lookup x=oF .cell
 XA:∀y∈sc.names,y.2≠ .free
theorem OP{kindOf:Str->oT dQ}{x:Str}:∀{binds:oH (Str×zL)} {m:Str->oT zL},(∀v,(x,v)∉binds)->bindL kindOf binds m x=m x
 | [],_,_=>rfl
 |(n,v)::r,m,h=>by
  rw[bindL];rw[OP λw hw=>h w (nQ _ hw)]
  split
  .have:x≠n:=by rintro rfl;exact h v xb
   simp[this]
  .rfl
theorem OQ{kindOf:Str->oT dQ}{x:Str}:∀{binds:oH (Str×zL)} {m:Str->oT zL},(∀v,(x,v)∉binds)->bindC kindOf binds m x=m x
 | [],_,_=>rfl
 |(n,v)::r,m,h=>by
  rw[bindC];rw[OQ λw hw=>h w (nQ _ hw)]
  split
  .rfl
  .have:x≠n:=by rintro rfl;exact h v xb
   simp[this]
theorem OR{kindOf:Str->oT dQ}{x:Str}{v:zL}:∀{P:oH Str} {vs:oH zL} {i:Nat} {m:Str->oT zL},P.Nodup->P[i]?\x->vs[i]?\v->kindOf x\.local->
  bindL kindOf (P.zip vs) m x\v
 | [],_,_,_,_,h,_,_=>by simp at h
 |_::_, [],_,_,_,_,h,_=>by simp at h
 |p::P,w::vs,0,m,nd,h1,h2,hk=>by
  simp at h1 h2;subst h1;subst h2;show bindL kindOf ((p,w)::P.zip vs) m p=_;rw[bindL];rw[OP λv hv=>(jP.mp nd).1 (NJ hv).1,zJ hk];simp
 |p::P,w::vs,i + 1,m,nd,h1,h2,hk=>by
  show bindL kindOf ((p,w)::P.zip vs) m x=_;rw[bindL];exact OR (i:=i) (jP.mp nd).2 (by simpa using h1) (by simpa using h2) hk
theorem OS{kindOf:Str->oT dQ}{x:Str}{v:zL}:∀{P:oH Str} {vs:oH zL} {i:Nat} {m:Str->oT zL},P.Nodup->P[i]?\x->vs[i]?\v->kindOf x≠oF .local->
  bindC kindOf (P.zip vs) m x\v
 | [],_,_,_,_,h,_,_=>by simp at h
 |_::_, [],_,_,_,_,h,_=>by simp at h
 |p::P,w::vs,0,m,nd,h1,h2,hk=>by
  simp at h1 h2;subst h1;subst h2;show bindC kindOf ((p,w)::P.zip vs) m p=_;rw[bindC];rw[OQ λv hv=>(jP.mp nd).1 (NJ hv).1,zK hk];simp
 |p::P,w::vs,i + 1,m,nd,h1,h2,hk=>by
  show bindC kindOf ((p,w)::P.zip vs) m x=_;rw[bindC];exact OS (i:=i) (jP.mp nd).2 (by simpa using h1) (by simpa using h2) hk
noncomputable def start (N:oH Str) (vs:oH V):St:=vs.map oF++ug (-N - -vs) oM
noncomputable def rj (CX:rh) (P:zR) (w:zQ) (K:ah) (mg:Str->oT zL) (base:zN) (N:oH Str) (qual:Str) (scope:Scope) (f:zI) (cd:zL) (A:zS) (outer:oH Env) (s:zM) (H:Hp) (E:XK):Cx where
 prog:=P
 w:=w
 K:=K
 mg:=mg
 base:=base
 A:=A.deeper (envOfC qual scope s.heap.objs.size f cd)
 N:=N
 xP:=s
 sS:=H
 env:=envOfC qual scope s.heap.objs.size f cd
 outer:=outer
 stack:=envOfC qual scope s.heap.objs.size f cd::outer
 ex:= []
 calm:=oP
 fn:=λ_=>oP
 pn:= []
 xe:=λe s'=>wpAny (model P w) (A.deeper (envOfC qual scope s.heap.objs.size f cd)) (leaving (envOfC qual scope s.heap.objs.size f cd) e) (λ_ GB=>CX outer H s E e GB) (λe' GB=>CX outer H s E e' GB) s'
theorem OT{sc:Scope}{x:Str}(h:sc.names.lookup x\.cell):∃c,(nN n sc.names []).lookup x\c:=by
 have q:=W.cellsFrom_some sc.names n [] (.inl h);exact VD.mp q
theorem XB{CX:rh}{P:zR}{w:zQ}{K:ah}{mg:Str->oT zL}{base:zN}{N ps:oH Str}{qual:Str}{scope:Scope}{f:zI}{cd:zL}{A:zS}{outer:oH Env}{s s1:zM}{H:Hp}{E:XK}{us:oH zL}{vs:oH V}
  (S:dr N ps scope) (hd:A.handled=oM) (e0:aow P w K mg base A outer s H) (hl:-vs=-ps) (r:bj vs us)
  (x:InCallC s s.heap.objs.size (bindL (envOfC qual scope s.heap.objs.size f cd).kindOf (ps.zip us) λ_=>oM) (nN (s.heap.objs.size + 1) scope.names []) (bindC (envOfC qual scope s.heap.objs.size f cd).kindOf (ps.zip us) λ_=>oM) s1):
  Inv (rj CX P w K mg base N qual scope f cd A outer s H E) [] (start N vs) H s1:=by
 have dM:-ps<=-N:=by have:=congrArg List.length S.pre;rw[Ce]at this;lia
 let h1 tk rfl hk:=x.done;have vq:∀b:zI,b∉(rj CX P w K mg base N qual scope f cd A outer s H E).ex:=λb z=>absurd (show b∈([]:oH zI) from z) e_;refine#[#[e0.mod,S.kind,rfl,rfl,bO _,λy z c h1 h2=> ?_,λy hy=> ?_,λy c _ h=> ?_,λ_=>hd,Around.frames_deeper e0.frames, .inr #[rfl,rfl],λb z=>absurd z (vq b),e0.bs,e0.qe,λb _ _=>vq b,λb z=>absurd z (vq b),e0.nX,e0.vc],
  rfl,e0.bare,Un.kept hk,#[_,x.toInCall.ns,λi y v h1 h2 h3=> ?_],λy c h=>#[_,x.cell y c h],e0.aQ.fresh (bO _),λy c h=> ?_,λp hp=>absurd (show p∈([]:oH (zI×Obj)) from hp) e_,e0.aQ.kept hk, ?_]
 .exact name_of_addr x.apart (xh h1) (xh h2)
 .have hy:scope.names.lookup y\.cell\/scope.names.lookup y\.free:=hy;rcases hy with hy | hy
  .exact OT hy
  .exact absurd rfl (S.XA _ (xh hy))
 .exact nO (x.above y c (xh h))
 .have hi:i < -vs:=by
   rw[start]at h2;by_cases hi:i < -vs
   .lk
   .rw[br (by simpa using hi)]at h2;rw[NK]at h2
    split at h2 <;> cases h2
  have ha:vs[i]?\v:=by
   rw[start]at h2;rw[aU (by simpa using hi),bJ]at h2;cases e:vs[i]? with
   |none=>rw[e]at h2;lk
   |some a=>rw[e]at h2;cases h2;rfl
  let u hu rv:=r.get ha;have hp:ps[i]?\y:=by
   rw[<- S.pre,VE b_];lk
  have OU:ps.Nodup:=by rw[<- S.pre];exact S.nd.sublist (List.take_sublist _ _)
  refine#[u,rv, ?_];rcases S.par y (jr hp) with k | k
  .exact .inl #[k,OR OU hp hu k]
  .let c e:=OT (n:=s.heap.objs.size + 1) k;refine .inr #[.inl k,c,e, ?_];have q:=x.cell y c e;rw[OS OU hp hu (by show scope.names.lookup y≠_;rw[k];decide)]at q;lk
 .exact e0.aQ.fresh (nO (x.above y c (xh h)))
 .rw[start];show _=-N;rw[eO,nI,apO]
  lia
theorem XC{CX:rh}{P:zR}{w:zQ}{K:ah}{mg:Str->oT zL}{base:zN}{k:Nat}{f:zI}{name qual:Str}{params:Arguments}{body:oH zP}{scope:Scope}{dV kV doc pm dB ct oc:zL}{an od:oT zI}
  {mO:Array (oT zL)} {N ps:oH Str} {sp:Sp} (lk:K.lookup f\#[oc,od, .func (qT name qual params body scope dV kV doc pm an dB ct),mO]) (pB:Cf K dB qual=oP) (S:dr N ps scope)
  (len:∀vs H Q E,sp vs H Q E->-vs=-ps)
  (atH:∀(A:zS) (outer:oH Env) (s:zM) (H:Hp) (vs:oH V) (Q:VK) (E:XK),gf k (A.deeper (envOfC qual scope s.heap.objs.size f dB))->sp vs H Q E->
   ∃t,OK (rj CX P w K mg base N qual scope f dB A outer s H E) body t/\t { nx:=λ_ H'=>Q .aG H',rt:=Q } (start N vs) H):
  bZ P w K mg base CX (k + 1) f (qT name qual params body scope dV kV doc pm an dB ct) ps sp:=by
 refine#[len,λA outer s H args us vs Q E hr e0 hb r tw=> ?_];have hl:=len _ _ _ _ tw;have KX:K.In s.heap:=e0.mod.Cw.keeps λb o e=>(e0.bs b o e).1;have lim:s.heap.NoLimit:=e0.mod.nolimit.keeps λb o e=>(e0.bs b o e).1;have tG:∀y∈ps.zip us,scope.names.lookup y.1\.local\/(scope.names.lookup y.1\.cell/\((nN (s.heap.objs.size + 1) scope.names []).lookup y.1).isSome=oP):=λ#[n,v] hy=>by
  rcases S.par n (NJ hy).1 with q | q
  .exact .inl q
  .exact .inr #[q,W.cellsFrom_some _ _ _ (.inl q)]
 refine codeAny_call_function hr.depth (KX _ _ lk) rfl S.co S.gen rfl (W.codeRec_of KX pB) (hb _ _ _ _ ?_);refine wpAny_newFunctionEnv_cells S.kind tG λenv he s1 x=>?_;subst he;refine#[lim.keeps x.toInCall.keep,codeAny_func ?_];let t ht hq:=atH A outer s H vs Q E (hr.deeper _) tw;have I:Inv (rj CX P w K mg base N qual scope f dB A outer s H E) [] (start N vs) H s1:=XB S hr.hd e0 hl r x;refine ja (ht [] s1 (start N vs) H _ I hq) (λfl s' hs=> ?_) λe s' hs=>hs;have mm:∀{dg:St} {H':Hp} {v:V} {u:zL},Inv (rj CX P w K mg base N qual scope f dB A outer s H E) [] dg H' s'->RelV v u->Q v H'->CE outer P w H s Q u s':=
  λ{dg H' v u} J rv q=>#[v,H',J.os,J.bare,J.base,J.aQ,rv,q]
 cases fl with
 |ret u=>
  let v dg H' J rv q:=hs;exact mm J rv q
 |next=>
  let dg H' J q:=hs;exact mm (v:=V.aG) (u:=jb) J rfl q
 |brk=>
  obtain⟨_,_,_,q⟩:=hs;exact pj q
 |cont=>
  obtain⟨_,_,_,q⟩:=hs;exact pj q
section
variable {X:Cx}{x:Str}{p pos:Pos}{e:zO}{es:oH zO}{t:TA}{id T:String}{r:oH V->Hp->VK->Prop}
def jU(r:oH V->Hp->VK->Prop)(t:TA):TE:=λσ H Q=>t σ H λvs H1=>r vs H1 Q
theorem fK(hc:fT X (.builtin id) r)(hg:Gl X x)(hm:X.mg x=oM)(hv:B2 x\.builtin id)(ha:PA X (e::es) t)(hn:autoParam (x≠"__name__") q_1._auto_1)(akK:autoParam ((x == ("__debug__":Str))=yv) q_1._auto_1)
  (he:autoParam (ix (e::es) X.env=(yv,eval e X.env)::ix es X.env) q_3._auto_1) (dM:(backTo pos (ix es X.env)).any (·.1)=yv:=by rfl):PE X (.Call (.Name x p) (e::es) [] pos) (jU r t):=by
 intro ab s σ H Q I h;refine FJ (xq I hg hm hv ?_ hn akK);exact PyProof.Rows.callWith_builtin1 (bh (ha pos ab s σ H _ I h) λus s1 #[vs,H1,I1,r1,q1]=>hc ab s1 σ H1 vs us Q I1 r1 q1) he dM
theorem oh(hc:fT X (.type T) r)(hg:Gl X x)(hm:X.mg x=oM)(hv:B2 x\.type T)(ha:PA X (e::es) t)(hn:autoParam (x≠"__name__") q_1._auto_1)(akK:autoParam ((x == ("__debug__":Str))=yv) q_1._auto_1)
  (he:autoParam (ix (e::es) X.env=(yv,eval e X.env)::ix es X.env) q_3._auto_1) (dM:(backTo pos (ix es X.env)).any (·.1)=yv:=by rfl):PE X (.Call (.Name x p) (e::es) [] pos) (jU r t):=by
 intro ab s σ H Q I h;refine FJ (xq I hg hm hv ?_ hn akK);exact Ny (bh (ha pos ab s σ H _ I h) λus s1 #[vs,H1,I1,r1,q1]=>hc ab s1 σ H1 vs us Q I1 r1 q1) he dM
end
end L2
namespace HT
open PySem PyProof.Rows
section
open PySem.SeqAt
open PySem.AutoSeq1 (wpAny_loadPart')
open PySem.MeetsSeq PySem.MeetsSeq2 PySem.MeetsSeq3
variable {prog:zR}{w:zQ}{A:zS}{E:zL->zM->Prop}{s:zM}
theorem XD{t b:zI}{vs ws:oH zL}{Q:zL->zM->Prop}(ht:IsTup s.heap t vs.toArray)(hb:IsTup s.heap b ws.toArray)(hv:vs≠ [])
  (h1:ws= []->Q (.ref t) s) (h2:ws≠ []->Q (.ref s.heap.objs.size) { s with heap:=s.heap.push { cls:= .type "tuple",data:= .seq (vs++ws).toArray } })
  (hsz:-vs + -ws<=aM):wpAny (model prog w) A (binaryOp .Add (.ref t) (.ref b)) Q E s:=by
 obtain⟨⟨cls,dd,data,sl⟩,ho,hc,n,hd⟩:=id ht;obtain⟨⟨XE,CU,data2,CV⟩,aox,jV,n2,hd2⟩:=id hb;simp only at hc hd jV hd2;subst hc hd jV hd2;have e:vs.toArray++ws.toArray=(vs++ws).toArray:=e_
 by_cases hw:ws= []
 .exact U9 #[_,ho,rfl] #[_,aox,rfl] noFill_tuple_add seq_tuple_add VF VG (VH _ _)
   (tuple_addW1 t b vs.toArray ws.toArray n n2 dd CU sl CV (by simpa using hv) (by simp[hw])) #[ho,aox,h1 hw]
 .refine U9 #[_,ho,rfl] #[_,aox,rfl] noFill_tuple_add seq_tuple_add VF VG (VH _ _)
   (tuple_addW2 t b vs.toArray ws.toArray n n2 dd CU sl CV (by simpa using hv) (by simpa using hw) ([fM,fM]^^hsz)) #[ho,aox, ?_]
  rw[e];exact h2 hw
noncomputable def bE (n d:Nat):oT Int->Nat
 |none=>d
 |some v=>if v < 0 then(v + (n:Int)).toNat else min v.toNat n
theorem atJ(n d:Nat):bE n d oM=d:=rfl
theorem aw4(n d k:Nat):bE n d (!(k:Int))=min k n:=by
 show(if(k:Int) < 0 then((k:Int) + (n:Int)).toNat else min (k:Int).toNat n)=min k n;rw[zK b_,aqF]
theorem XF(n d:Nat)(hd:d<=n)(o:oT Int):bE n d o<=n:=by
 cases o with
 |none=>lk
 |some v=>
  show(if v < 0 then(v + (n:Int)).toNat else min v.toNat n)<=n;by_cases hv:v < 0
  .rw[zJ hv];lia
  .rw[zK hv];exact Nat.min_le_right _ _
theorem OV(v:Int)(n d:Nat):(if v < 0 then max (v + (n:Int)) 0 else min v (n:Int))=((bE n d (!v):Nat):Int):=by
 show(if v < 0 then max (v + (n:Int)) 0 else min v (n:Int))=(((if v < 0 then(v + (n:Int)).toNat else min v.toNat n):Nat):Int);by_cases hv:v < 0
 .simp only[zJ hv];lia
 .simp[zK hv];lia
theorem XG(lo hi:oT Int)(n:Nat):qa lo hi 1 (n:Int)=(((bE n 0 lo:Nat):Int),((bE n n hi:Nat):Int)):=by
 have h1:¬ ((1:Int) < 0):=b_
 unfold qa;simp only[h1,if_false];refine Prod.ext ?_ ?_
 .cases lo with
  |none=>rfl
  |some v=>exact OV v n 0
 .cases hi with
  |none=>rfl
  |some v=>exact OV v n n
theorem XH(i j:Nat):zm (i:Int) (j:Int) 1=j - i:=by
 rw[zm];have h1:(1:Int) > 0:=b_
 simp[h1,if_true,Int.ediv_one]
 split <;> lia
theorem CW{v:zL}{o:oT Int}{Q:oT Int->zM->Prop}(p:IsPart v o)(h:Q o s):wpAny (model prog w) A (Builtin.Slice.slicePartIndex v) Q E s:=by
 cases p with
 |none=>exact slicePart_none h
 |int i t=>exact slicePart_int h
theorem OW{sl:zI}{vl vu:zL}{lo hi:oT Int}{n:Nat}{Q:Int×Int×Nat->zM->Prop}(hs:s.heap.IsSliceOf sl vl vu .none)(pl:IsPart vl lo)(pu:IsPart vu hi)
  (h:Q (((bE n 0 lo:Nat):Int),1,bE n n hi - bE n 0 lo) s):wpAny (model prog w) A (VI (.ref sl) (pure (n:Int))) Q E s:=by
 let os mP ql qm:=id hs;rw[VI,Builtin.Slice.sliceFields];refine az (az (kL mP qm (x:=vl) rfl (az (kL mP qm (x:=vu) rfl (az (kL mP qm (x:= .none) rfl (bF ?_)))))));refine az (slicePart_none ?_);show wpAny _ _ (if((1:Int) == 0)=oP then _ else _) _ _ s;rw[zK a_];refine az (CW pl (az (CW pu (az (bF ?_)))));show wpAny _ _ (match qa lo hi 1 (n:Int) with | (lo,hi)=>pure (lo,(1:Int),zm lo hi 1)) _ _ s;rw[XG lo hi n];show wpAny _ _ (pure (((bE n 0 lo:Nat):Int),(1:Int),zm ((bE n 0 lo:Nat):Int) ((bE n n hi:Nat):Int) 1)) _ _ s;rw[XH];exact bF h
theorem XI(xs:Array zL)(i k:Nat):((kf k).filterMap λ(m:Nat)=>xs[((i:Int) + (m:Int) * 1).toNat]?).toArray=((xs.toList.drop i).take k).toArray:=by
 have e:(λ(m:Nat)=>xs[((i:Int) + (m:Int) * 1).toNat]?)=λm=>xs[i + m]?:=by
  funext m;have:((i:Int) + (m:Int) * 1).toNat=i + m:=b_
  rw[this]
 rw[e];have:=pick_run xs i k;rw[List.filterMap_map]at this;have e2:((λx=>xs[x]?) ∘ λx=>i + x)=λm=>xs[i + m]?:=rfl;rw[e2]at this;rw[this]
theorem XJ{t sl:zI}{items:Array zL}{vl vu:zL}{lo hi:oT Int}{Q:zL->zM->Prop}(ht:IsTup s.heap t items)(hs:s.heap.IsSliceOf sl vl vu .none)(pl:IsPart vl lo)(pu:IsPart vu hi)
  (hw:¬ (bE items.size 0 lo=0/\bE items.size items.size hi=items.size))
  (h:Q (.ref s.heap.objs.size) { s with heap:=s.heap.push { cls:= .type "tuple",data:= .seq ((items.toList.drop (bE items.size 0 lo)).take (bE items.size items.size hi - bE items.size 0 lo)).toArray } })
  (hsz:items.size<=aM):wpAny (model prog w) A (getItem (.ref t) (.ref sl)) Q E s:=by
 have xA:sizeOk (.seq ((items.toList.drop (bE items.size 0 lo)).take (bE items.size items.size hi - bE items.size 0 lo)).toArray):=by
  show((items.toList.drop (bE items.size 0 lo)).take (bE items.size items.size hi - bE items.size 0 lo)).toArray.size<=aM;rw[fM,Ce,aik,xc]
  lia
 have hj:bE items.size items.size hi<=items.size:=XF _ _ (bO _) hi;let os mP ql qm:=id hs;have Ak:s.TypeIs (.ref sl) "slice":=#[os,mP,ql]
 rw[getItem]
 try with_reducible refine uL ?_
 first | refine az (bF ?_) | skip
 refine az (wpAny_sequenceKey ht.typeIs a_ ?_);refine az (ze (name:=ae "__getitem__") ht.typeIs uQ
  (wpAny_call_entry uQ ht.typeIs Vd ?_ (args_tuple_getitem _ _)))
 show wpAny _ _ (VJ (.ref t) >>= _) _ _ s;refine az (tupleItemsOf_ ht ?_);refine az (Np Ak ?_);rw[zJ a_];refine az (OW hs pl pu ?_);have XM:¬ ((((bE items.size 0 lo:Nat):Int) == 0 && (1:Int) == 1 && (bE items.size items.size hi - bE items.size 0 lo) == items.size)=oP):=by
  intro q;rw[kM,kM]at q;have q1:((bE items.size 0 lo:Nat):Int)=0:=eq_of_beq q.1.1;have q2:bE items.size items.size hi - bE items.size 0 lo=items.size:=eq_of_beq q.2;exact hw #[by lia,by lia]
 show wpAny _ _ (if(((bE items.size 0 lo:Nat):Int) == 0 && (1:Int) == 1 && (bE items.size items.size hi - bE items.size 0 lo) == items.size)=oP then _ else _) _ _ s;rw[zK XM,XI]
 first
  |exact az (m:=Cg _) (qP (bF #[_,rfl,bF h]) xA)
  |exact az (m:=Cg _) (qP (az (bF (bF #[_,rfl,bF h]))) xA)
  |exact az (az (m:=Cg _) (qP (bF (bF #[_,rfl,bF h])) xA))
  |exact az (az (m:=Cg _) (qP (bF #[_,rfl,bF h]) xA))
end
end HT
namespace L2
open PySem PySem.Spec PyProof.Rows
abbrev TO:=St->Hp->(oT Int->Hp->Prop)->Prop
def PO(X:Cx)(e:oT zO)(t:TO):Prop:=
 ∀(ab:oH (zI×Obj)) (s:zM) (σ:St) (H:Hp) (Q:oT Int->Hp->Prop),Inv X ab σ H s->t σ H Q->
  wpAny (model X.prog X.w) X.A (evalPart e X.env) (λu s'=>∃o H',Inv X ab σ H' s'/\IsPart u o/\Q o H') X.xe s
def ar2:TO:=λ_ H Q=>Q oM H
def rm(t:TE):TO:=λσ H Q=>t σ H λx H1=>∃i,x= .int i/\Q (!i) H1
section
variable {X:Cx}{e:zO}{te:TE}{lo hi:oT zO}{tl th:TO}{pos p2:Pos}
theorem OX:PO X oM ar2:=by
 intro ab s σ H Q I h;rw[evalPart_none];exact bF #[oM,H,I, .none,h]
theorem an0(h:PE X e te):PO X (!e) (rm te):=by
 intro ab s σ H Q I hw;rw[evalPart_some];refine bh (h ab s σ H _ I hw) λu s1 #[x,H1,I1,r1,q1]=> ?_;let i rfl q:=q1;let t rfl:=r1;exact#[!i,H1,I1, .int i t,q]
def mQ(X:Cx)(r:V->oT Int->oT Int->Hp->VK->Prop):Prop:=
 ∀(ab:oH (zI×Obj)) (s:zM) (σ:St) (H:Hp) (x:V) (v vl vu:zL) (lo hi:oT Int) (sl:zI) (Q:VK),Inv X ab σ H s->RelV x v->s.heap.IsSliceOf sl vl vu .none->IsPart vl lo->IsPart vu hi->r x lo hi H Q->
  ∃T id,typeLookup (.type T) "__getitem__"=pure (!.builtin id)/\s.TypeIs v T/\wpAny (model X.prog X.w) X.A (getItem v (.ref sl)) (EP X ab σ Q) X.xe s
theorem mQ.or{r r':V->oT Int->oT Int->Hp->VK->Prop}(h:mQ X r)(h':mQ X r'):mQ X (λx lo hi H Q=>r x lo hi H Q\/r' x lo hi H Q):=by
 intro ab s σ H x v vl vu lo hi sl Q I rx hs pl pu q;rcases q with q | q
 .exact h ab s σ H x v vl vu lo hi sl Q I rx hs pl pu q
 .exact h' ab s σ H x v vl vu lo hi sl Q I rx hs pl pu q
def CY(r:V->oT Int->oT Int->Hp->VK->Prop)(te:TE)(tl th:TO):TE:=λσ H Q=>te σ H λx H1=>tl σ H1 λl H2=>th σ H2 λu H3=>r x l u H3 Q
theorem xB{r:V->oT Int->oT Int->Hp->VK->Prop}(hr:mQ X r)(he:PE X e te)(hl:PO X lo tl)(hu:PO X hi th):PE X (.Subscript e (.Slice lo hi oM p2) pos) (CY r te tl th):=by
 intro ab s σ H Q I h;refine Subscript_ (bh (he ab s σ H _ I h) λv s1 #[x,H1,I1,r1,q1]=> ?_);refine wpAny_Slice (bh (hl ab s1 σ H1 _ I1 q1) λvl s2 #[l,H2,I2,pl,q2]=>bh (hu ab s2 σ H2 _ I2 q2) λvu s3 #[u,H3,I3,pu,q3]=> ?_);rw[evalPart_none];refine bF ?_;have I4:Inv X ab σ H3 { s3 with heap:=s3.heap.push { cls:= .type "slice",data:= .fields (List.toArray [vl,vu, .none]) } }:=I3.kept (t':=s3.toks) λb ob q=>cB _ q;let T id hT ht hg:=hr ab { s3 with heap:=s3.heap.push { cls:= .type "slice",data:= .fields (List.toArray [vl,vu, .none]) } } σ H3 x v vl vu l u s3.heap.objs.size Q I4 r1 (Heap.IsSliceOf.new ..) pl pu q3;show wpAny (model X.prog X.w) X.A (subscriptTail e (.Slice lo hi oM p2) v (.ref s3.heap.objs.size)) (EP X ab σ Q) X.xe { s3 with heap:=s3.heap.push { cls:= .type "slice",data:= .fields (List.toArray [vl,vu, .none]) } };exact tail_any (ops:= [.ref s3.heap.objs.size,v]) ht hT hg d_
def xC(xs:oH V)(lo hi:oT Int):oH V:=(xs.drop (HT.bE (-xs) 0 lo)).take (HT.bE (-xs) (-xs) hi - HT.bE (-xs) 0 lo)
theorem OY(xs:oH V)(lo hi:oT Int):-(xC xs lo hi)<=-xs:=by
 rw[xC];rw[Ce,aik]
 lia
def OZ(K:ah):V->oT Int->oT Int->Hp->VK->Prop:=λx lo hi H Q=>∃a xs,x= .ref a/\cE K H a xs/\
 ¬ (HT.bE (-xs) 0 lo=0/\HT.bE (-xs) (-xs) hi=-xs)/\∀p,H p=oM->Q (.ref p) (dm H p (.tup (xC xs lo hi)))
theorem XN:mQ X (OZ X.K):=by
 intro ab s σ H x v vl vu lo hi sl Q I rx hs pl pu h;let a xs rfl hx hw q:=h;cases rx;let ag r ht hz:=I.tuple hx;have dw:ag.toArray.size=-xs:=fM^^r.length.symm
 refine#["tuple",_,uQ.lookup,ht.typeIs, ?_];refine HT.XJ ht hs pl pu (dw^^hw) ?_ (dw^^hz);rw[dw];refine#[.ref s.heap.objs.size,_,I.laid (t':=s.toks) (o:= .tup (xC xs lo hi)) (λb ob q=>cB _ q) (bO _) ?_,rfl,q _ (I.aQ.fresh (bO _))];exact#[eK (OY xs lo hi) hz,_,(r.drop (HT.bE (-xs) 0 lo)).take (HT.bE (-xs) (-xs) hi - HT.bE (-xs) 0 lo),Nw _ _]
def GF(K:ah):R2:=λx y H Q=>∃a b xs ys,x= .ref a/\y= .ref b/\cE K H a xs/\cE K H b ys/\xs≠ []/\-xs + -ys<=aM/\
 (ys= []->Q (.ref a) H)/\(ys≠ []->∀p,H p=oM->Q (.ref p) (dm H p (.tup (xs++ys))))
theorem bj.GG{xs:oH V}(r:bj xs us):us= []↔xs= []:=by
 cases r with
 |nil=>simp
 |cons _ _=>simp
theorem O0:cu X (binaryOp .Add) (GF X.K):=by
 intro ab s σ H x y v u Q I rx ry h;let a b xs ys rfl rfl ha hb hx hz q1 q2:=h;cases rx;cases ry;let ag r1 p1 _:=I.tuple ha;let aoy r2 p2 _:=I.tuple hb;refine HT.XD p1 p2 (λz=>hx (r1.GG.mp z)) (λz=>#[.ref a,H,I,rfl,q1 (r2.GG.mp z)]) (λz=> ?_) (by rw[<- r1.length, <- r2.length];lk);refine#[.ref s.heap.objs.size,_,I.laid (t':=s.toks) (o:= .tup (xs++ys)) (λb ob q=>cB _ q) (bO _) ?_,rfl,q2 (λw=>z (r2.GG.mpr w)) _ (I.aQ.fresh (bO _))];exact#[eO^^hz,_,r1.append r2,Nw _ _]
end
noncomputable def gC (n:Nat) (i:Int):oT Nat:=if 0<=i then(if i < n then oF i.toNat else oM) else if (unop% Neg.neg (n:Int))<=i then oF (i + n).toNat else oM
def ao4{α:Type}(xs:oH α)(i:Int):oT α:=(gC (-xs) i).bind λj=>xs[j]?
theorem O1(h:gC n i\j):seqIndex? i n\j/\j < n/\ (unop% Neg.neg (n:Int))<=i/\i < n:=by
 rw[gC]at h;by_cases h0:0<=i
 .rw[zJ h0]at h;by_cases h1:i < n
  .rw[zJ h1]at h;have e:i.toNat=j:=IM h;exact#[by rw[Vg h0 h1,e],by lia,by lia,h1]
  .rw[zK h1]at h;lk
 .rw[zK h0]at h;by_cases h1: (unop% Neg.neg (n:Int))<=i
  .rw[zJ h1]at h;have e:(i + n).toNat=j:=IM h;exact#[by rw[Vh b_ h1,e],by lia,h1,by lia]
  .rw[zK h1]at h;lk
theorem atL{α:Type}{xs:oH α}{v:α}(h:ao4 xs i\v):∃j,seqIndex? i (-xs)\j/\xs[j]?\v/\j < -xs/\ (unop% Neg.neg (-xs:Int))<=i/\i < -xs:=by
 rw[ao4]at h;cases e:gC (-xs) i with
 |none=>rw[e]at h;lk
 |some j=>
  rw[e]at h;let h1 h2 h3 h4:=O1 e;exact#[j,h1,h,h2,h3,h4]
def CZ(b:zO):Prop:=∀o i,subscripted b yv o i=operate [o,i] (getItem o i)
def mR(X:Cx)(r:R2):Prop:=
 ∀(value slice:zO) (ab:oH (zI×Obj)) (s:zM) (σ:St) (H:Hp) (x y:V) (v u:zL) (Q:VK),Inv X ab σ H s->RelV x v->RelV y u->r x y H Q->
  subscripted slice yv v u=operate [v,u] (getItem v u)->wpAny (model X.prog X.w) X.A (subscriptTail value slice v u) (EP X ab σ Q) X.xe s
def Am(X:Cx)(id:String)(r:V->oH V->Hp->VK->Prop):Prop:=
 ∀(ab:oH (zI×Obj)) (s:zM) (σ:St) (H:Hp) (x:V) (xs:oH V) (v:zL) (us:oH zL) (Q:VK),Inv X ab σ H s->RelV x v->bj xs us->r x xs H Q->
  wpAny (model X.prog X.w) X.A (call (.builtin id) (v::us)) (EP X ab σ Q) X.xe s
section
variable {X:Cx}
theorem mR.or{r r':R2}(h:mR X r)(h':mR X r'):mR X (λx y H Q=>r x y H Q\/r' x y H Q):=by
 intro value slice ab s σ H x y v u Q I rx ry q hs;rcases q with q | q
 .exact h value slice ab s σ H x y v u Q I rx ry q hs
 .exact h' value slice ab s σ H x y v u Q I rx ry q hs
theorem xE{r:R2}(hr:mR X r)(ha:PE X a ta)(hb:PE X b tb)(hs:CZ b):PE X (.Subscript a b pos) (ig r ta tb):=by
 intro ab s σ H Q I h;exact Subscript_ (Gj ha hb I h λv u s2 x y H2 I2 rx ry q=>hr a b ab s2 σ H2 x y v u Q I2 rx ry q (hs _ _))
def O2(K:ah):R2:=λx y H Q=>∃p xs i v,x= .ref p/\y= .int i/\gN K H p xs/\ao4 xs i\v/\Q v H
def O3(K:ah):R2:=λx y H Q=>∃p xs i v,x= .ref p/\y= .int i/\cE K H p xs/\ao4 xs i\v/\Q v H
def O4:R2:=λx y H Q=>∃z i c,x= .str z/\y= .int i/\z.length<=aM/\ao4 z.cps.toList i\c/\Q (.str #[(List.toArray [c])]) H
theorem XQ:mR X (O2 X.K):=by
 intro value slice ab s σ H x y v u Q I rx ry h hs;let p xs i z rfl rfl hq he q:=h;cases rx;let t rfl:=ry;let ag r pl hz:=I.list hq;let j h1 h2 h3 h4 h5:=atL he;let w ew aof:=r.get h2;have hl:=r.length;have hn:=vm;have mm:EP X ab σ Q w s:=#[z,H,I,aof,q]
 by_cases h0:0<=i
 .have hj:i.toNat=j:=by
   rw[Vg h0 h5]at h1;exact IM h1
  exact item_listR pl.isList h0 b_ (by rw[hj];simpa using ew) mm hs
 .have hj:(i + (ag.toArray.size:Int)).toNat=j:=by
   rw[Vh b_ h4]at h1;rw[fM, <- hl];exact IM h1
  exact aib (x:=w) pl.isList.typeIs slot_list_getitem.lookup
   (wpAny_getItem_list_neg (Q:=λr s'=>r=w/\EP X ab σ Q r s') pl.isList b_ (by rw[fM]<;> lia) b_ (by rw[hj];simpa using ew) #[rfl,mm]) hs
theorem XR:mR X (O3 X.K):=by
 intro value slice ab s σ H x y v u Q I rx ry h hs;let p xs i z rfl rfl hq he q:=h;cases rx;let t rfl:=ry;let ag r pl hz:=I.tuple hq;let j h1 h2 h3 h4 h5:=atL he;let w ew aof:=r.get h2;have hl:=r.length;have hn:=vm;have mm:EP X ab σ Q w s:=#[z,H,I,aof,q]
 exact aib (x:=w) pl.typeIs slot_tuple_getitem.lookup
  (getItem_tuple (j:=j) (Q:=λr s'=>r=w/\EP X ab σ Q r s') pl b_ b_ (by rw[fM, <- hl];lk) (by simpa using ew) #[rfl,mm]) hs
theorem XS:mR X O4:=by
 intro value slice ab s σ H x y v u Q I rx ry h hs;let z i c rfl rfl hz he q:=h;let t rfl:=rx;let t' rfl:=ry;let j h1 h2 h3 h4 h5:=atL he;have hl:-z.cps.toList=z.length:=by simp[Str.length]
 rw[hl]at h1 h4 h5;have hn:=vm;exact tail_any (typeIs_str s z t) slot_str_getitem.lookup (getItem_str (c:=c) (by
  have e1:decide (i < (unop% Neg.neg (2 ^ 63:Int)))=yv:=decide_eq_false b_;have e2:decide (i≥2 ^ 63)=yv:=decide_eq_false b_;rw[e1,e2,Bool.or_false]) (by rw[h1];simpa using h2) #[.str #[(List.toArray [c])],H,I.tok _,#[_,rfl],q]) hs
def atM(K:ah):R2:=λx y H Q=>O2 K x y H Q\/O3 K x y H Q\/O4 x y H Q
theorem XT:mR X (atM X.K):=XQ.or (XR.or XS)
theorem XU(ag:oH zL)(n j:Nat)(u:zL):zo (·.setIfInBounds j u) { cls:= .type "list",data:= .seq ag.toArray n }= { cls:= .type "list",data:= .seq (ag.set j u).toArray n }:=by
 simp[zo]
theorem Inv.lst{ab:oH (zI×Obj)}{σ:St}{H:Hp}{s:zM}{p:zI}{xs:oH V}(I:Inv X ab σ H s)(h:H p\.lst xs):
  ∃(ag:oH zL) (n:Nat),bj xs ag/\s.heap.get? p=oF { cls:= .type "list",data:= .seq ag.toArray n }/\-xs<=aM:=by
 let z ag n r e:=I.aQ p _ h;exact#[ag,n,r,e,z]
theorem Inv.XW{ab:oH (zI×Obj)}{σ:St}{H:Hp}{s:zM}{p:zI}{xs ys:oH V}{ag its':oH zL}{n n':Nat}{f:Obj->Obj}(I:Inv X ab σ H s)(h:H p\.lst xs)
  (ho:s.heap.get? p=oF { cls:= .type "list",data:= .seq ag.toArray n }) (hf:f { cls:= .type "list",data:= .seq ag.toArray n }= { cls:= .type "list",data:= .seq its'.toArray n' }) (r:bj ys its') (hz:-ys<=aM) (t:Nat):
  Inv X ab σ (dm H p (.lst ys)) { s with heap:=s.heap.update p f,toks:=t }:=by
 have e:(s.heap.update p f).get? p=oF { cls:= .type "list",data:= .seq its'.toArray n' }:=by
  rw[aim f ho (by rw[hf]<;> rfl),hf]
 refine I.write (x:=p) (e:=p) (by rw[h];trivial) (.inl rfl) (λb u hb q=>(VN _ _ (yd hb)).trans q) #[_,e] ?_;exact#[hz,its',n',r,e]
def O5:V->V->V->Hp->(Hp->Prop)->Prop:=λo i v H Q=>∃p xs k j,o= .ref p/\i= .int k/\H p\.lst xs/\gC (-xs) k\j/\Q (dm H p (.lst (xs.set j v)))
theorem ah7:Oo X O5:=by
 intro ab s σ H o i v ov iv u Q I ro ri rv h;let p xs k j rfl rfl hp hj q:=h;cases ro;let t rfl:=ri;let ag n r ho hz:=I.lst hp;let h1 h2 h3 h4:=O1 hj;have hl:=r.length;have hn:=vm;have I':Inv X ab σ (dm H p (.lst (xs.set j v))) { s with heap:=s.heap.update p (zo (·.setIfInBounds j u)) }:=
  I.XW hp ho (XU ag n j u) (r.set rv j) (bN^^hz) s.toks
 by_cases h0:0<=k
 .have hk:k.toNat=j:=by
   rw[Vg h0 h4]at h1;exact IM h1
  exact W.ki_setAt ho h0 b_ (by rw[fM, <- hl];lk) (by rw[hk];exact#[_,I',q])
 .have hk:(k + (ag.toArray.size:Int)).toNat=j:=by
   rw[Vh b_ h3]at h1;rw[fM, <- hl];exact IM h1
  exact W.ki_setBack ho b_ (by rw[fM, <- hl];lk) b_ (by rw[hk];exact#[_,I',q])
theorem aBN(lo hi:oT Int)(n:Nat):(zf lo hi oM n).1=((HT.bE n 0 lo:Nat):Int)/\(zf lo hi oM n).2.1=((HT.bE n n hi:Nat):Int)/\(zf lo hi oM n).2.2=1:=by
 refine#[?_, ?_,rfl]
 .cases lo with
  |none=>simp[zf,HT.bE]
  |some i=>
   simp[zf,HT.bE,ain,show(1:Int) > 0 by decide,if_true];by_cases h:i < 0
   .simp[h,if_true]<;> lia
   .simp[h,if_false]<;> lia
 .cases hi with
  |none=>simp[zf,HT.bE]
  |some i=>
   simp[zf,HT.bE,ain,show(1:Int) > 0 by decide,if_true];by_cases h:i < 0
   .simp[h,if_true]<;> lia
   .simp[h,if_false]<;> lia
theorem XY(ag:oH zL)(lo hi:oT Int):slicePick ag.toArray lo hi oM=((ag.drop (HT.bE (-ag) 0 lo)).take (HT.bE (-ag) (-ag) hi - HT.bE (-ag) 0 lo)).toArray:=by
 let h1 h2 h3:=aBN lo hi ag.toArray.size;rw[slicePick];rw[h1,h2,h3];simp only[sliceRange_one,pick_run,fM]<;> rfl
def O6(K:ah):V->oT Int->oT Int->Hp->VK->Prop:=λx lo hi H Q=>∃a xs,x= .ref a/\gN K H a xs/\∀p,H p=oM->Q (.ref p) (dm H p (.lst (xC xs lo hi)))
theorem XZ:mQ X (O6 X.K):=by
 intro ab s σ H x v vl vu lo hi sl Q I rx hs pl pu h;let a xs rfl hx q:=h;cases rx;let ag r ht hz:=I.list hx;have dw:=r.length;refine#["list",_,slot_list_getitem.lookup,ht.isList.typeIs, ?_];refine wpAny_getItem_list_slice ht.isList hs pl pu .none e_ ?_ (by rw[fM]<;> lia);rw[XY, <- dw];refine#[.ref s.heap.objs.size,_,I.laid (t':=s.toks) (o:= .lst (xC xs lo hi)) (λb ob q=>cB _ q) (bO _) ?_,rfl,q _ (I.aQ.fresh (bO _))];exact#[eK (OY xs lo hi) hz,_,0,(r.drop (HT.bE (-xs) 0 lo)).take (HT.bE (-xs) (-xs) hi - HT.bE (-xs) 0 lo),gc _ rfl]
noncomputable def g7:V->Bool
 |.aG=>oP
 |.bl _=>oP
 |.int _=>oP
 |.str _=>oP
 |_=>yv
noncomputable def pE:V->V->Bool
 |.aG, .aG=>oP
 |.bl a, .bl b=>a == b
 |.bl a, .int b=>(if a then 1 else 0) == b
 |.int a, .bl b=>a == (if b then 1 else 0)
 |.int a, .int b=>a == b
 |.str a, .str b=>a == b
 |_,_=>yv
theorem X0{A:zS}{s:zM}{y x:V}{u v:zL}(ry:RelV y u)(rx:RelV x v)(fy:g7 y=oP)(fx:g7 x=oP):SeqAt.EqAt A s u v (pE y x):=by
 cases y with
 |aG=>
  cases ry;cases x with
  |aG=>cases rx;exact SeqAt.EqAt.same _
  |bl b=>cases rx;exact SeqAt.EqAt.none_bool b
  |int b=>let t rfl:=rx;exact SeqAt.EqAt.none_int b t
  |str b=>let t rfl:=rx;exact SeqAt.EqAt.none_str b t
  |_=>exact absurd (show yv=oP from fx) df
 |bl a=>
  cases ry;cases x with
  |aG=>cases rx;exact SeqAt.EqAt.bool_none a
  |bl b=>cases rx;exact SeqAt.EqAt.bool_bool a b
  |int b=>let t rfl:=rx;exact SeqAt.EqAt.bool_int a b t
  |str b=>let t rfl:=rx;exact SeqAt.EqAt.bool_str a b t
  |_=>exact absurd (show yv=oP from fx) df
 |int a=>
  let t' rfl:=ry;cases x with
  |aG=>cases rx;exact SeqAt.EqAt.int_none a t'
  |bl b=>cases rx;exact SeqAt.EqAt.int_bool a t' b
  |int b=>let t rfl:=rx;exact SeqAt.EqAt.int_int a t' b t
  |str b=>let t rfl:=rx;exact aif a t' b t
  |_=>exact absurd (show yv=oP from fx) df
 |str a=>
  let t' rfl:=ry;cases x with
  |aG=>cases rx;exact SeqAt.EqAt.str_none a t'
  |bl b=>cases rx;exact SeqAt.EqAt.str_bool a t' b
  |int b=>let t rfl:=rx;exact aih a t' b t
  |str b=>let t rfl:=rx;exact SeqAt.EqAt.str_str a t' b t
  |_=>exact absurd (show yv=oP from fx) df
 |_=>exact absurd (show yv=oP from fy) df
def lG(x:V)(u:zL):Bool:=match u with
 |.none=>pE .aG x
 |.bool b=>pE (.bl b) x
 |.int i _=>pE (.int i) x
 |.str z _=>pE (.str z) x
 |_=>yv
theorem O7{x y:V}{u:zL}(r:RelV y u)(f:g7 y=oP):lG x u=pE y x:=by
 cases y with
 |aG=>cases r;rfl
 |bl b=>cases r;rfl
 |int i=>let t rfl:=r;rfl
 |str z=>let t rfl:=r;rfl
 |_=>exact absurd (show yv=oP from f) df
theorem Ao{x:V}:∀{xs:oH V} {us:oH zL},bj xs us->xs.all g7=oP->us.any (lG x)=xs.any λy=>pE y x
 |_,_, .nil,_=>rfl
 |y::xs,u::us, .cons r t,f=>by
  rw[List.all_cons,kM]at f;rw[uR,uR,O7 r f.1,Ao t f.2]
theorem Ap{A:zS}{s:zM}{x:V}{v:zL}(rx:RelV x v)(fx:g7 x=oP):∀{xs:oH V} {us:oH zL},bj xs us->xs.all g7=oP->∀u∈us,SeqAt.EqAt A s u v (lG x u)
 |_,_, .nil,_=>λu hu=>by lk
 |y::xs,u::us, .cons r t,f=>λu' hu=>by
  rw[List.all_cons,kM]at f;rcases bL.mp hu with rfl | hu
  .rw[O7 r f.1];exact X0 r rx f.1 fx
  .exact Ap rx fx t f.2 u' hu
def tH(x:V)(xs:oH V):Bool:=xs.any λy=>pE y x
def C0(K:ah)(neg:Bool):R2:=λx y H Q=>∃p xs,y= .ref p/\(gN K H p xs\/cE K H p xs)/\g7 x=oP/\xs.all g7=oP/\Q (.bl (if neg then not (tH x xs) else tH x xs)) H
theorem X1:cu X (compareOp .In) (C0 X.K yv):=by
 intro ab s σ H x y v u Q I rx ry h;let p xs rfl hq fx fs q:=h;cases ry;rcases hq with hq | hq
 .let ag r pl hz:=I.list hq;refine SeqAt.in_listAt (lG x) pl.isList (λw hw=>Ap rx fx r fs w (by simpa using hw)) #[.bl _,H,I,rfl, ?_];rw[show ag.toArray.any (lG x)=ag.any (lG x) by simp,Ao r fs];lk
 .let ag r pl hz:=I.tuple hq;refine SeqAt.in_tupleAt (lG x) pl (λw hw=>Ap rx fx r fs w (by simpa using hw)) #[.bl _,H,I,rfl, ?_];rw[show ag.toArray.any (lG x)=ag.any (lG x) by simp,Ao r fs];lk
theorem aBO:fT X (.builtin "len") (λxs H Q=>∃p ys,xs= [.ref p]/\(gN X.K H p ys\/cE X.K H p ys)/\Q (.int (-ys)) H):=by
 intro ab s σ H xs us Q I r h;let p ys rfl hq q:=h;let u rfl rx:=vals1 r;cases rx;have hn:=vm;rcases hq with hq | hq
 .let ag r' pl hz:=I.list hq;have dw:=r'.length;exact Calls.call_len_list pl.isList (by simp[fM]<;> lia) #[.int (-ys),H,I.tok _,#[s.toks + 1,by rw[fM,dw]],q]
 .let ag r' pl hz:=I.tuple hq;have dw:=r'.length;exact len_tuple pl (by simp[fM]<;> lia) #[.int (-ys),H,I.tok _,#[s.toks + 1,by rw[fM,dw]],q]
theorem aBP:fT X (.builtin "len") (λxs H Q=>∃z,xs= [.str z]/\z.length<=aM/\Q (.int z.length) H):=by
 intro ab s σ H xs us Q I r h;let z rfl hz q:=h;let u rfl t rfl:=vals1 r;have hn:=vm;exact len_str b_ #[.int z.length,H,I.tok _,#[_,rfl],q]
theorem aBQ:fT X (.type "list") (λxs H Q=>∃p ys,xs= [.ref p]/\(gN X.K H p ys\/cE X.K H p ys)/\∀l,H l=oM->Q (.ref l) (dm H l (.lst ys))):=by
 intro ab s σ H xs us Q I r h;let p ys rfl hq q:=h;let u rfl rx:=vals1 r;cases rx;have mm:∀(ag:oH zL),bj ys ag->-ys<=aM->∀(h':zN) (c':Nat),(∀b o',s.heap.get? b\o'->h'.get? b\o')->
   h'.get? s.heap.objs.size=oF { cls:= .type "list",dict:=oM,data:= .seq ag.toArray c',slots:=(List.toArray []) }->EP X ab σ Q (.ref s.heap.objs.size) { s with heap:=h' }:=λag r' hz h' c' kp e=>
  #[.ref s.heap.objs.size,_,I.laid (t':=s.toks) kp (bO _) (show va X.prog X.w _ h' _ (.lst ys) from#[hz,ag,c',r',e]),rfl,q _ (I.aQ.fresh (bO _))]
 rcases hq with hq | hq
 .let ag r' pl hz:=I.list hq;have dw:=r'.length;let o ho hc n hd:=pl.isList;exact call_list_seq p (.inl rfl) ho hc hd (λh' c' kp e=>mm ag r' hz h' c' kp e) (by simp[fM]<;> lia)
 .let ag r' pl hz:=I.tuple hq;have dw:=r'.length;let o ho hc n hd:=pl;exact call_list_seq p (.inr rfl) ho hc hd (λh' c' kp e=>mm ag r' hz h' c' kp e) (by simp[fM]<;> lia)
theorem aBR:fT X (.type "tuple") (λxs H Q=>∃p ys,xs= [.ref p]/\((gN X.K H p ys/\∀l,H l=oM->Q (.ref l) (dm H l (.tup ys)))\/(cE X.K H p ys/\Q (.ref p) H))):=by
 intro ab s σ H xs us Q I r h;let p ys rfl h:=h;let u rfl rx:=vals1 r;cases rx;rcases h with⟨hq,q⟩ | ⟨hq,q⟩
 .let ag r' pl hz:=I.list hq;have dw:=r'.length;refine call_tuple_list pl.isList (λh' kp=> ?_) (by simp[fM]<;> lia);have I1:Inv X ab σ H { s with heap:=h' }:=I.kept (t':=s.toks) kp;have I2:Inv X ab σ (dm H h'.objs.size (.tup ys)) { s with heap:=h'.push { cls:= .type "tuple",data:= .seq ag.toArray } }:=
   I1.laid (t':=s.toks) (λb o e=>cB _ e) (bO _) (show va X.prog X.w _ _ _ (.tup ys) from#[hz,ag,r',Nw _ _])
  exact#[.ref h'.objs.size,_,I2,rfl,q _ (I1.aQ.fresh (bO _))]
 .let ag r' pl hz:=I.tuple hq;exact call_tuple_same pl #[.ref p,H,I,rfl,q]
def apT(K:ah)(T:String)(x:V)(H:Hp):Prop:=match x with
 |.str _=>T="str"
 |.int _=>T="int"
 |.ref p=>(T="list"/\∃xs,gN K H p xs)\/(T="tuple"/\∃o,K.lookup p\o/\o.cls= .type "tuple"/\o.dict=oM)\/
   (T="dict"/\((∃cf,H p\.dK cf)\/∃cf,H p\.dT cf))\/(T="set"/\∃S n,H p\.set S n)
 |_=>False
theorem O8{ab:oH (zI×Obj)}{σ:St}{H:Hp}{s:zM}{T:String}{x:V}{v:zL}(I:Inv X ab σ H s)(r:RelV x v)(ty:apT X.K T x H):
  s.TypeIs v T/\∀a,v= .ref a->∃ob,s.heap.get? a\ob/\ob.dict=oM:=by
 cases x with
 |str z=>
  let t rfl:=r;cases(show T="str" from ty);exact#[typeIs_str s z t,λ_ e=>nomatch e]
 |int i=>
  let t rfl:=r;cases(show T="int" from ty);exact#[typeIs_int s i t,λ_ e=>nomatch e]
 |ref p=>
  cases r;rcases ty with⟨rfl,xs,hq⟩ | ⟨rfl,o,hk,hc,hd⟩ | ⟨rfl,hk⟩ | ⟨rfl,S,n,hk⟩
  .let ag _ pl _:=I.list hq;refine#[pl.isList.typeIs,λa e=> ?_];cases e;let o n e c hd _:=pl;exact#[o,e,hd]
  .refine#[#[o,I.fN p o hk,hc],λa e=> ?_];cases e;exact#[o,I.fN _ o hk,hd]
  .have z:∃o,s.heap.get? p\o/\o.ExactDict:=by
    rcases hk with⟨cf,hk⟩ | ⟨cf,hk⟩
    .obtain⟨_,_,_,_,o,_,_,e,ex,_⟩:=I.aQ p _ hk;exact#[o,e,ex]
    .obtain⟨_,_,_,_,o,_,_,e,ex,_⟩:=I.aQ p _ hk;exact#[o,e,ex]
   let o e ex:=z;refine#[#[o,e,ex.1],λa e2=> ?_];cases e2;exact#[o,e,ex.2.1]
  .let o _ _ _ e ex _:=I.aQ p _ hk;refine#[#[o,e,ex.1],λa e2=> ?_];cases e2;exact#[o,e,ex.2.1]
 |_=>exact pj ty
def GJ(K:ah)(T:String)(r:V->oH V->Hp->VK->Prop)(to:TE):TE:=λσ H Q=>to σ H λx H1=>apT K T x H1/\r x [] H1 Q
def vy(K:ah)(T:String)(r:V->oH V->Hp->VK->Prop)(to:TE)(t:TA):TE:=λσ H Q=>to σ H λx H1=>apT K T x H1/\t σ H1 λxs H2=>r x xs H2 Q
variable {o e:zO}{es:oH zO}{to:TE}{t:TA}{name:Str}{jM gE:Pos}{T id:String}{r:V->oH V->Hp->VK->Prop}
theorem X5(pa:PlainAttrs T)(slot:Slot T name id)(rn:typeOf (.builtin id)=pure (.type "method_descriptor"))(hm:Am X id r)(ho:PE X o to)
  (rq:autoParam (ao2 o name X.env (eval o X.env)=eval o X.env) q_3._auto_1) (rA:(jM.endLine == gE.line)=oP:=by rfl):PE X (.Call (.Attribute o name jM) [] [] gE) (GJ X.K T r to):=by
 intro ab s σ H Q I h;refine Vi rq rA (bh (ho ab s σ H _ I h) λv s1 #[x,H1,I1,r1,ty,q1]=> ?_);let h1 h2:=O8 I1 r1 ty;exact#[T,id,pa,slot,rn,h1,h2,Ci rfl (VO (hm ab s1 σ H1 x [] v [] Q I1 r1 .nil q1))]
theorem GK(pa:PlainAttrs T)(slot:Slot T name id)(rn:typeOf (.builtin id)=pure (.type "method_descriptor"))(hm:Am X id r)(ho:PE X o to)(ha:PA X (e::es) t)
  (rq:autoParam (ao2 o name X.env (eval o X.env)=eval o X.env) q_3._auto_1)
  (X6:((backTo gE (ix (e::es) X.env)).all (λx=> not x.1) && (B7 gE (B8 [] X.env)).all (λx=>x.1.isSome)
   && decide (-(e::es) + -([]:oH Keyword) + (if([]:oH Keyword).isEmpty then 0 else 1) < 30))=oP:=by rfl)
  (rA:autoParam ((jM.endLine == gE.line)=oP) q_3._auto_1) (hs:ix (e::es) X.env=(yv,eval e X.env)::ix es X.env:=by rfl) (X7:(backTo gE (ix es X.env)).any (·.1)=yv:=by rfl):
  PE X (.Call (.Attribute o name jM) (e::es) [] gE) (vy X.K T r to t):=by
 intro ab s σ H Q I h;refine wpAny_Call_method_late rq X6 rA rfl (bh (ho ab s σ H _ I h) λv s1 #[x,H1,I1,r1,ty,q1]=> ?_);let h1 h2:=O8 I1 r1 ty;refine#[T,id,pa,slot,rn,h1,h2, ?_];have hA:=ha gE ab s1 σ H1 _ I1 q1;rw[hs]at hA |-;refine Ci (by show(yv || (backTo gE (ix es X.env)).any (·.1))=yv;rw[X7]<;> rfl) (VP ?_);exact bh hA λus s2 #[vs,H2,I2,r2,q2]=>hm ab s2 σ H2 x vs v us Q I2 r1 r2 q2
/- xs.append(e),list.index on a aBS tuple .. are Am facts of 06m -/
end
def aw5(X:Cx)(id:String)(r:V->oH V->Hp->VK->Prop):Prop:=
 ∀(ab:oH (zI×Obj)) (s:zM) (σ:St) (H:Hp) (x:V) (xs:oH V) (v:zL) (us:oH zL) (Q:VK),Inv X ab σ H s->RelV x v->bj xs us->r x xs H Q->
  wpAny (model X.prog X.w) X.A (call (.builtin id) (v::us)) (EP X ab σ Q) X.xe s
theorem bj.one:∀{x:V} {us:oH zL},bj [x] us->∃u,us= [u]/\RelV x u
 |_,_, .cons r .nil=>#[_,rfl,r]
theorem bj.zero:∀{us:oH zL},bj [] us->us= []
 |_, .nil=>rfl
theorem bj.dropLast{xs:oH V}{us:oH zL}(h:bj xs us):bj xs.dropLast us.dropLast:=by
 induction h with
 |nil=>exact .nil
 |cons r t ih=>
  cases t with
  |nil=>exact .nil
  |cons q t'=>exact .cons r ih
theorem X9{α:Type}(l:oH α):l.eraseIdx (-l - 1)=l.dropLast:=by
 induction l with
 |nil=>rfl
 |cons a r ih=>
  cases r with
  |nil=>rfl
  |cons b r=>
   have e:-(a::b::r) - 1=(-(b::r) - 1) + 1:=by
    have h1:-(a::b::r)=-r + 2:=rfl;have h2:-(b::r)=-r + 1:=rfl
    lia
   rw[e,List.eraseIdx_cons_succ,ih]
   all_goals rfl
section
variable {X:Cx}{H:Hp}{s:zM}
theorem Inv.GO{ag its':oH zL}{n:Nat}{f:Array zL->Array zL}{t':Nat}(I:Inv X ab σ H s)(hH:H l\.lst xs)
  (e:s.heap.get? l=oF { cls:= .type "list",data:= .seq ag.toArray n }) (hf:f ag.toArray=its'.toArray) (hv:bj ys its') (hz:-ys<=aM):
  Inv X ab σ (dm H l (.lst ys)) { s with heap:=s.heap.update l (zo f),toks:=t' }:=by
 have q:=PySem.IsL.update e f;rw[hf]at q;refine I.write (x:=l) (e:=l) (hH^^trivial) (.inl rfl) (λb' u hb hu=>(VN s.heap (zo f) (yd hb)).trans hu) #[_,q] ?_;exact#[hz,its',_,hv,q]
theorem Inv.Ya{t':Nat}(I:Inv X ab σ H s)(hv:bj ys ag)(hz:-ys<=aM):
  Inv X ab σ (dm H s.heap.objs.size (.lst ys)) { s with heap:=s.heap.push { cls:= .type "list",data:= .seq ag.toArray },toks:=t' }:=
 I.laid (λ_ _ q=>cB _ q) (bO _) #[hz,ag,0,hv,gc _ rfl]
theorem Inv.fresh(I:Inv X ab σ H s):H s.heap.objs.size=oM:=I.aQ.fresh (bO _)
theorem Inv.ju(I:Inv X ab σ H s)(hH:H l\.lst xs):-xs<=aM/\∃(ag:oH zL) (n:Nat),bj xs ag/\-xs=-ag/\s.heap.get? l=oF { cls:= .type "list",data:= .seq ag.toArray n }:=by
 let z ag n r e:=I.aQ l _ hH;exact#[z,ag,n,r,r.length,e]
end
section
variable {X:Cx}
def C1:V->oH V->Hp->VK->Prop:=λx vs H Q=>∃l xs y,x= .ref l/\vs= [y]/\H l\.lst xs/\-xs < aM/\Q .aG (dm H l (.lst (xs++ [y])))
theorem Yc:aw5 X "list.append" C1:=by
 intro ab s σ H x vs v us Q I rx rv h;let l xs y rfl rfl hH hz q:=h;cases rx;let u rfl ru:=rv.one;let z ag n r hl e:=I.ju hH;refine call_meets F.slot_list_append #[_,e,rfl] F.entry_list_append (F.args_list_append_2 _ _) (PySem.list_append l ag.toArray n u (by rw[fM];lia)) #[e, ?_];refine#[.aG,_,I.GO (its':=ag++ [u]) hH e e_ (r.append (.cons ru .nil)) ?_,rfl,q];rw[eO,pw]
 lia
def GQ:V->oH V->Hp->VK->Prop:=λx vs H Q=>∃l xs y,x= .ref l/\vs= []/\H l\.lst xs/\xs[xs.length - 1]?\y/\Q y (dm H l (.lst xs.dropLast))
theorem Yf:aw5 X "list.pop" GQ:=by
 intro ab s σ H x vs v us Q I rx rv h;let l xs y rfl rfl hH hy q:=h;cases rx;have vz:=rv.zero;subst vz;let z ag n r hl e:=I.ju hH;let u hu ru:=r.get hy;have Yg:ag.toArray[ag.toArray.size - 1]?\u:=by
  show ag.toArray[ag.length - 1]?\u;rw[<- VR, <- hl];lk
 refine call_meets F.slot_list_pop #[_,e,rfl] F.entry_list_pop (F.args_list_pop_1 _) (MeetsSeq.list_pop_last l ag.toArray n u Yg (by rw[fM];lia)) #[e, ?_];refine#[y,_,I.GO (its':=ag.dropLast) hH e ?_ r.dropLast ?_,ru,q]
 .show ag.toArray.eraseIdxIfInBounds (ag.toArray.size - 1)=ag.dropLast.toArray;rw[fM,List.eraseIdxIfInBounds_toArray,X9]
 .rw[List.length_dropLast]
  lia
def O9:R2:=λx y H Q=>∃l b xs zs,x= .ref l/\y= .ref b/\H l\.lst xs/\H b\.lst zs/\-xs + -zs<=aM/\∀p,H p=oM->Q (.ref p) (dm H p (.lst (xs++zs)))
theorem Yh:cu X (binaryOp .Add) O9:=by
 intro ab s σ H x y v u Q I rx ry h;let l b xs zs rfl rfl hH hB hz q:=h;cases rx;cases ry;let z ag n r hl e:=I.ju hH;let z2 aoy n2 r2 rC e2:=I.ju hB;refine PySem.P.add_list e e2 ?_ (by rw[fM,fM];lia);have ea:ag.toArray++aoy.toArray=(ag++aoy).toArray:=e_
 rw[ea];exact#[.ref _,_,I.Ya (t':=s.toks) (r.append r2) (by rw[eO];lia),rfl,q _ I.fresh]
end
section
variable {prog:zR}{w:zQ}{A:zS}{E:zL->zM->Prop}{s:zM}
end
section
variable {X:Cx}
end
end L2
namespace Pa
open PySem PySem.W PySem.Calls PyProof.Rows
theorem Yi{P:Params}{h:zN}:∀(ns:oH Int) (vs:oH zL),WellAll P h vs (ns.map WData.int)->B6 vs ns:=by
 intro ns
 induction ns with
 |nil=>
  intro vs w;rw[jQ]at w;cases w;exact .nil
 |cons n ns ih=>
  intro vs w;rw[cP]at w;cases w with
  |cons a b=>
   cases a;exact .cons _ _ (ih _ b)
theorem Yj{l:OpenLaw}(hn:l.most\n){P:Params}{h:zN}{args:oH WData}{vals:oH zL}
  (C2:l.row.toRowW.claim.pre args=oP) (atN:WellAll P h vals args):
  ∃a vs ns,vals= [t5 a]/\args= [WData.list (ns.map WData.int)]/\h.get? a=oF { cls:= .type "list",data:= .seq vs.toArray }/\B6 vs ns/\-ns<=n:=by
 have Yk:WShape.hasAll [] args [.list .int]=oP:=(pre_splitW C2).1;have hc:l.pre.holds [] { args:=args }=oP:=(pre_splitW C2).2;let d r rfl h1 h2:=hasAllW_cons Yk;obtain rfl:=hasAllW_nil h2;let xs rfl h3:=hasW_list h1;let ns rfl:=items_int h3;have dw:-ns<=n:=by
  rw[OpenLaw.pre]at hc;have h4:(WTm.not (.lt (.lit (.int (n:Int))) (.len (.arg 0)))).holds [] { args:= [.list (ns.map .int)] }=oP:=by
   have h4:=(holds_andW hc).1;rw[hn]at h4;lk
  have h5:=condW_of h4 (w_not (w_lt w_lit (w_len_list (w_arg rfl))));rw[nI]at h5;refine apP λq=> ?_;have q':(n:Int) < ((-ns:Nat):Int):=b_
  first
   |(rw[decide_eq_true q']at h5;exact absurd h5 a_)
   |(simp at h5;lia)
 cases atN with
 |cons w1 w2=>
  cases w2;cases w1 with
  |list ho rD=>exact#[_,_,ns,rfl,rfl,ho,Yi ns _ rD,dw]
theorem Yl(l:OpenLaw)(args:oH WData):l.row.toRowW.claim.post args (.bool oP) args=oP:=
 postW_of (r:=l.row.toRowW) (X:=(oP == oP))
  (show WShape.has [] (.bool oP) .bool=oP by first | rfl | decide | simp[WShape.has,WShape.arms,WShape.armsAll])
  (show(WTm.eq .res (.lit (.bool oP))).value [] { args:=args,res:=oF (.bool oP),after:=args }\.bool (oP == oP) from w_eq_bool (w_res rfl) w_lit) rfl
theorem Ym{l:OpenLaw}{n:Nat}{q:zR}{loose:oH Str}{XP:(Str->oT zL)->zN->Prop}{YP:zQ->zN->Prop}{d:DefRec}
  (hn:l.most\n) (Aq:d.params.defaults= [])
  (call:∀(w:zQ) (xP dD:zM) (mg mb:Str->oT zL) (fa:zI) (o:Obj) (pm cd doc:zL) (a:zI) (vs:oH zL) (ns:oH Int),
   Ground q loose [] XP w xP mg mb dD.heap->YP w dD.heap->
   dD.heap.get? fa\o->o.data= .func (docDef d.name d.params d.body d.scope pm cd doc)->dD.heap.CodeRec cd d.name->mg d.name\.ref fa->
   dD.heap.get? a=oF { cls:= .type "list",data:= .seq vs.toArray }->B6 vs ns->-ns<=n->dD.gens=(List.toArray [])->
   qQ (model l.prog w) zg (.call (.ref fa) #[[.ref a], []]) (λr s'=>r= .ok (.ret (.bool oP))/\OldK dD.heap s'.heap/\s'.os=dD.os/\wO s'.gens) dD):
  WalkO q loose XP YP l.row.toRowW d [] (λf vs=>VS f vs):=by
 intro w xP dD mg mb G Y fa o pm cd doc dV kV ho hd pB hD hmg hg args vals as C2 aiX aiY atN aHD;obtain rfl:dV= .none:=Dflts.none hD Aq;obtain rfl:kV= .none:=Dflts.noKw hD;let a vs ns rfl rfl GU hints dw:=Yj hn C2 atN;refine enter_call (B5 (call w xP dD mg mb fa o pm cd doc a vs ns G Y ho (fd_plain hd) pB hmg GU hints dw hg) λr s' hq=> ?_);let rfl h2 h3 h4:=hq;exact#[.inl #[.bool oP, .bool oP, [],rfl,λ_=>rfl, .bool oP,Yl l _,λ_=>#[List.Pairwise.nil,λ_ hm=>(nomatch hm)]],h2,h3,h4]
section
variable {prog:zR}{w:zQ}{A:zS}{E:zL->zM->Prop}{s:zM}{K:Frag}
end
end Pa
namespace L2
open PySem PySem.Spec PyProof.Rows
theorem C3:∀{vs:oH zL} {ns:oH Int},B6 vs ns->bj (ns.map V.int) vs
 |_,_, .nil=> .nil
 |_,_, .cons n t h=> .cons #[t,rfl] (C3 h)
def C4(H:Hp):Prop:=∀b,H b=oM\/∃o xs,H b\.b9 o (.lst xs)
theorem Yn{P:zR}{w:zQ}{K:ah}{mg mb:Str->oT zL}{CX:rh}{k:Nat}{fa a:zI}{fd:kK}{x:Str}{sp:Sp}{dD:zM}{vs:oH zL}{ns:oH Int}
  (KX:K.In dD.heap) (Pb:dD.heap.Ns jN mg) (hb:dD.heap.Ns Nk mb) (Yo:∀x:Str,x≠"__name__"->mb x=B2 x) (Yp:dD.heap.NoLimit) (hg:dD.gens=(List.toArray []))
  (ha:dD.heap.get? a=oF { cls:= .type "list",data:= .seq vs.toArray }) (hi:B6 vs ns) (hl:-ns<=aM) (hr:gf k zg)
  (F:∀base:zN,K.In base->base.Ns jN mg->bZ P w K mg base CX k fa fd [x] sp) (Yq:∀(s:zM) (u:zL),B4 s fd #[[u], []] [(x,u)])
  (tw:∀H:Hp,C4 H->gN K H a (ns.map V.int)->sp [.ref a] H (λv _=>v= .bl oP) λ_ _ _=>False)
  (GV:∀H e s',CX [] H dD (λ_ _ _=>False) e s'->False):
  qQ (model P w) zg (.call (.ref fa) #[[.ref a], []]) (λr s'=>r= .ok (.ret (.bool oP))/\OldK dD.heap s'.heap/\s'.os=dD.os/\wO s'.gens) dD:=by
 have rv:=C3 hi;have Yr:=hi.length
 -- from an abstract heap in aHE nothing but ahg Ys may be tracked
 have core:∀H:Hp,C4 H->gN K H a (ns.map V.int)->gB P w H dD.heap->(∀b,H b≠oM->b=a)->(H a≠oM->K.lookup a=oM)->
   qQ (model P w) zg (.call (.ref fa) #[[.ref a], []]) (λr s'=>r= .ok (.ret (.bool oP))/\OldK dD.heap s'.heap/\s'.os=dD.os/\wO s'.gens) dD:=by
  intro H hO hS aQ hA hK;have aw6:∀{b:zI} {o:Obj},dD.heap.get? b\o->H b=oM->(qX dD.heap H).get? b\o:=λe n=>Wu e n;have vq:∀{b:zI} {o:Obj} {es:Array DictEntry} {ep:Nat},dD.heap.get? b\o->o.data= .dict es ep->H b=oM:=λ{b o es ep} e d=>by
   cases q:H b with
   |none=>rfl
   |some u=>
    have e':b=a:=hA b (by rw[q];simp);subst e';rw[ha]at e;cases e;have d':Data.seq vs.toArray _=Data.dict es ep:=d;lk
  have C5:∀{b:zI} {m:Str->oT zL},dD.heap.Ns b m->(qX dD.heap H).Ns b m:=λ{b m} #[o,es,ep,e,d,r]=>#[o,es,ep,aw6 e (vq e d),d,r]
  have Pd:K.In (qX dD.heap H):=λb o e=>aw6 (KX b o e) (by
   cases q:H b with
   |none=>rfl
   |some u=>
    have e':b=a:=hA b (by rw[q];simp);subst e';rw[hK (by rw[q];simp)]at e;lk)
  have hM:Mod K mg (qX dD.heap H):=#[Pd,C5 Pb,#[mb,C5 hb,Yo],let #[mc,h1,h2]:=Yp;#[mc,C5 h1,h2]]
  have e0:aow P w K mg (qX dD.heap H) zg [] dD H:=#[rfl,hM,λb o e=>Wv e,VA (Wt _ _),trivial,λb hb=>absurd (show b∈([]:oH zI) from hb) e_,aQ, .of_eq hg]
  refine B5 ((F _ Pd (C5 Pb)).run zg [] dD H #[[.ref a], []] [.ref a] [.ref a] _ _ hr e0 (Yq dD (.ref a)) (.cons rfl .nil) (tw H hO hS)) λr s' h=>?_;cases r with
  |error e=>exact(GV H e s' h).elim
  |ok fl=>
   cases fl with
   |next=>exact pj h
   |brk=>exact pj h
   |cont=>exact pj h
   |ret u=>
    let v H' os bare un Yt r' q:=h;have q':v= .bl oP:=q;subst q';obtain rfl:u=zj oP:=r';refine#[rfl,OldK.of_keep λb o e=> ?_,os,bare];cases q:H b with
    |none=>exact un.keep b o e q (by intro z;exact absurd (show b∈([]:oH zI) from z) e_) e_
    |some u=>
     rcases hO b with z | ⟨ob,xs,z⟩
     .rw[q]at z;lk
     .have z2:=un.aov b ob _ z;let e1 _:=aQ b _ z;let e2 _:=Yt b _ z2;rw[e]at e1;cases e1;lk
 cases hk:K.lookup a with
 |some o=>
  -- ahg Ys is one of ahg aBS own objects
  have e:=KX a o hk;rw[ha]at e;cases e;refine core (λ_=>oM) (λ_=> .inl rfl) (.inr #[_,vs.toArray,_,hk,rfl,rfl,rfl,[fM,Yr]^^hl,by simpa using rv]) (λb u z=>by have z':(oM:oT HO)\u:=z;lk) (λb z=>absurd rfl z) λz=>absurd rfl z
 |none=>
  refine core (λb=>if b=a then oF (.b9 { cls:= .type "list",data:= .seq vs.toArray } (.lst (ns.map V.int))) else oM) (λb=> ?_) (.inl (.inr #[{ cls:= .type "list",data:= .seq vs.toArray },zJ rfl])) (λb u z=> ?_) (λb z=> ?_) λ_=>hk
  .by_cases hb:b=a
   .exact .inr #[_,_,zJ hb]
   .exact .inl (zK hb)
  .by_cases hb:b=a
   .have z':=(zJ hb).symm.trans z;cases z';subst hb;exact#[ha,nI^^hl,vs,_,rv,ha]
   .have z':=(zK hb).symm.trans z;lk
  .by_cases hb:b=a
   .lk
   .exact absurd (zK hb) z
theorem Yu{l:W.OpenLaw}{n k:Nat}{q:zR}{loose:oH Str}{XP:(Str->oT zL)->zN->Prop}{YP:zQ->zN->Prop}{d:DefRec}{K:Params->ah}{CX:zQ->rh}{sp:zQ->Sp}{x:Str}
  (hn:l.most\n) (CS:n<=aM) (Aq:d.params.defaults= []) (hr:gf k zg)
  (hY:∀(w:zQ) (h:zN),YP w h->(K w.params).In h)
  (F:∀(w:zQ) (mg:Str->oT zL) (fa:zI) (h:zN),(K w.params).In h->h.Ns jN mg->mg d.name\.ref fa->
   ∃fd:kK,(∀(s:zM) (u:zL),B4 s fd #[[u], []] [(x,u)])/\
    ∀base:zN,(K w.params).In base->base.Ns jN mg->bZ l.prog w (K w.params) mg base (CX w) k fa fd [x] (sp w))
  (tw:∀(w:zQ) (H:Hp) (a:zI) (ns:oH Int),ns.length<=n->C4 H->gN (K w.params) H a (ns.map V.int)->sp w [.ref a] H (λv _=>v= .bl oP) λ_ _ _=>False)
  (GV:∀(w:zQ) (H:Hp) (s:zM) (e:zL) (s':zM),CX w [] H s (λ_ _ _=>False) e s'->False):
  W.WalkO q loose XP YP l.row.toRowW d [] (λf vs=>VS f vs):=by
 refine Pa.Ym hn Aq λw xP dD mg mb fa o pm cd doc a vs ns G Y ho hd pB hmg GU hints dw hg=>?_;have KX:=hY w _ Y;let fd hb hF:=F w mg fa _ KX G.T.g hmg;exact Yn KX G.T.g G.T.b G.T.builtins G.T.nolimit hg GU hints (eK dw CS) hr hF hb (λH hO hS=>tw w H a ns dw hO hS) λH e s'=>GV w H dD e s'
noncomputable def ah8 (s:zP) (j:Nat):zP:=match s with
 |.ClassDef _ _ _ body _ _ _ _ _ _ _=>body.getD j (.Pass #[0,0,0,0])
 |_=> .Pass #[0,0,0,0]
noncomputable def rE (s:zP):Arguments:=match s with
 |.FunctionDef _ a _ _ _ _ _ _ _ _=>a
 |_=> { posonlyargs:= [],args:= [],vararg:=oM,kwonlyargs:= [],kw_defaults:= [],kwarg:=oM,defaults:= [] }
noncomputable def mS (s:zP):oH zP:=match s with
 |.FunctionDef _ _ b _ _ _ _ _ _ _=>b
 |_=> []
noncomputable def cb (s:zP):Scope:=match s with
 |.FunctionDef _ _ _ _ _ _ sc _ _ _=>sc
 |_=> { kind:= .function,names:= [],isGenerator:=yv,isCoroutine:=yv }
noncomputable abbrev cG:rh:=λ_ _ _ _ _ _=>False
noncomputable abbrev E0:XK:=λ_ _ _=>False
theorem GW{X:Cx}:zb cG X E0:=λ_ _ _ _ _ _ _ h=>h.elim
structure cY(K:ah)(x qual:Str)(st:zP)(f:zI)(fd:kK):Prop where
 ex:∃(oc:zL) (od:Option zI) (kV doc pm:zL) (an:Option zI) (dB ct:zL) (mO:Array (Option zL)),
  fd=qT x qual (rE st) (mS st) (cb st) .none kV doc pm an dB ct/\K.lookup f=oF ⟨oc,od, .func fd,mO⟩/\Cf K dB qual=oP
 kp:uO K (.ref f)=oP
section
variable {P:zR}{w:zQ}{K:ah}{mg:Str->oT zL}{base:zN}
theorem cY.ok{x qual:Str}{st:zP}{f:zI}{fd:kK}{N ps:oH Str}{k:Nat}{sp:Sp}(F:cY K x qual st f fd)(S:dr N ps (cb st))(len:∀vs H Q E,sp vs H Q E->-vs=-ps)
  (atH:∀(dB:zL) (A:zS) (outer:oH Env) (s:zM) (H:Hp) (vs:oH V) (Q:VK) (E:XK),gf k (A.deeper (envOfC qual (cb st) s.heap.objs.size f dB))->sp vs H Q E->
   ∃t,OK (rj cG P w K mg base N qual (cb st) f dB A outer s H E).ve (mS st) t/\t { nx:=λ_ H'=>Q .aG H',rt:=Q } (start N vs) H):bZ P w K mg base cG (k + 1) f fd ps sp:=by
 let oc od kV doc pm an dB ct mO rfl lk pB:=F.ex;refine XC lk pB S len λA outer s H vs Q E hr tw=>?_;let t h q:=atH dB A outer s H vs Q E hr tw;exact#[t,h.ve,q]
theorem cY.binds{x qual:Str}{st:zP}{f:zI}{fd:kK}{ps:oH Str}(F:cY K x qual st f fd)
  (h:∀(kV doc pm:zL) (an:oT zI) (dB ct:zL) (us:oH zL),us.length=-ps->bindArgs (qT x qual (rE st) (mS st) (cb st) .none kV doc pm an dB ct) #[us, []]=pure (ps.zip us)):Binds K fd ps []:=by
 let oc od kV doc pm an dB ct mO rfl lk pB:=F.ex;exact .all (h kV doc pm an dB ct)
theorem GX{x qual:Str}{st:zP}{f:zI}{oc:zL}{od an:oT zI}{mO:Array (oT zL)}{kV doc pm dB ct:zL}(l:K.lookup f\#[oc,od, .func (qT x qual (rE st) (mS st) (cb st) .none kV doc pm an dB ct),mO])
  (c:Cf K dB qual=oP) (k:uO K (.ref f)=oP):cY K x qual st f (qT x qual (rE st) (mS st) (cb st) .none kV doc pm an dB ct):=#[#[oc,od,kV,doc,pm,an,dB,ct,mO,rfl,l,c],k]
end
theorem akV{A:zS}{k:Nat}(hr:gf k A):A.units + 1 < cLine:=zp (Nat.add_le_add_left (by decide:1<=64) _) hr.units
section
theorem pv(i:Nat){x:Str}{pos:Pos}(hN:autoParam (X.N[i]?\x) q_3._auto_1)(hv:FY X.env.scope x:=by first | exact ao3 rfl | exact Or.inr (ao3 rfl) | exact Or.inr (Or.inr rfl))(hd:autoParam ((x == ("__debug__":Str))=yv) q_1._auto_1)
  (pB:autoParam ((x == ("__classdict__":Str))=yv) q_1._auto_1):PE X (.Name x pos) (nE i):=WC hN hv hd pB
end
def aJ(H H':Hp):Prop:=∀b o,H b\o->H' b\o
theorem aJ.refl(H:Hp):aJ H H:=λ_ _ h=>h
theorem aJ.trans{H H1 H2:Hp}(a:aJ H H1)(b:aJ H1 H2):aJ H H2:=λc o h=>b c o (a c o h)
theorem aJ.free{H H':Hp}(e:aJ H H'){l:zI}(h:H' l=Option.none):H l=Option.none:=by
 cases q:H l with
 |none=>rfl
 |some o=>
  rw[e l o q]at h;lk
section
variable {κ:Type}[DecidableEq κ]
noncomputable def mT (cf:oH (κ×V)) (k:κ):oT V:=(cf.find? λkv=>decide (kv.1=k)).map (·.2)
noncomputable def i8 (cf:oH (κ×V)) (k:κ) (v:V):oH (κ×V):=
 if(cf.any λkv=>decide (kv.1=k))=oP then cf.map (λkv=>if kv.1=k then(kv.1,v) else kv) else cf++ [(k,v)]
theorem C6{p:κ×V}(e:p.1=k):mT (p::r) k\p.2:=by simp[mT,Cj,e]
theorem C7{p:κ×V}(e:¬ p.1=k):mT (p::r) k=mT r k:=by simp[mT,Cj,e]
theorem Pe(k:κ):∀cf:oH (κ×V),(cf.any λkv=>decide (kv.1=k))=(mT cf k).isSome
 | []=>rfl
 |p::r=>by
  rw[uR];by_cases e:p.1=k
  .simp[C6 e,decide_eq_true e,Bool.true_or,aip]
  .rw[C7 e,decide_eq_false e,Bool.false_or];exact Pe k r
theorem GY(cf:oH (κ×V))(k:κ)(v:V):-(i8 cf k v)<=-cf + 1:=by
 rw[i8]
 split
 .rw[nI];lia
 .rw[eO,p8,uS];lia
theorem kN.As(r:kN o u):o.isSome=u.isSome:=by
 cases o with
 |none=>cases u with
  |none=>rfl
  |some _=>exact(show False from r).elim
 |some _=>cases u with
  |none=>exact(show False from r).elim
  |some _=>rfl
theorem kN.getD(r:kN o u)(rd:RelV d d'):RelV (o.getD d) (u.getD d'):=by
 cases o with
 |none=>cases u with
  |none=>lk
  |some _=>exact(show False from r).elim
 |some _=>cases u with
  |none=>exact(show False from r).elim
  |some _=>lk
theorem KV.val(r:KV cf vs)(k:κ):kN (mT cf k) (wX vs k):=by
 rw[KV]at r
 induction r with
 |nil=>exact kh
 | @cons p q ps qs h t ih=>
  let h1 h2:=h;by_cases e:p.1=k
  .have e':q.1=k:=h1.symm.trans e;have b:wX (q::qs) k\q.2:=by simp[wX,Cj,e']
   rw[C6 e,b];lk
  .have e':¬ q.1=k:=λz=>e (h1.trans z);have b:wX (q::qs) k=wX qs k:=by simp[wX,Cj,e']
   rw[C7 e,b];lk
theorem KV.any(r:KV cf vs)(k:κ):(cf.any λkv=>decide (kv.1=k))=vs.any λkv=>decide (kv.1=k):=by
 rw[KV]at r
 induction r with
 |nil=>rfl
 |cons h t ih=>rw[uR,uR,ih,h.1]
theorem KV.GZ(r:KV cf vs)(k:κ)(ry:RelV y u):
  KV (cf.map λkv=>if kv.1=k then(kv.1,y) else kv) (vs.map λkv=>if kv.1=k then(kv.1,u) else kv):=by
 rw[KV]at r |-
 induction r with
 |nil=>exact .nil
 | @cons p q ps qs h t ih=>
  rw[cP,cP];refine .cons ?_ ih;let h1 h2:=h;by_cases e:p.1=k
  .rw[zJ e,zJ (h1.symm.trans e)];exact#[h1,ry]
  .rw[zK e,zK (λz=>e (h1.trans z))];exact#[h1,h2]
theorem KV.put(r:KV cf vs)(k:κ)(ry:RelV y u):KV (i8 cf k y) (stored vs k u):=by
 rw[i8,stored];rw[r.any k];by_cases e:(vs.any λkv=>decide (kv.1=k))=oP
 .rw[zJ e,zJ e];exact r.GZ k ry
 .rw[zK e,zK e];exact Paired.snoc r #[rfl,ry]
theorem KV.length(r:KV cf vs):-cf=-vs:=Nv r
end
theorem tI(r:RelV (kV k) u):(gL P w).is k u=oP:=by
 cases k with
 |inl i=>let t e:=(show ∃t,u=w6 i t from r);subst e;exact FU P w i t
 |inr x=>let t e:=(show ∃t,u=zi x t from r);subst e;exact FV P w x t
theorem Pf:∀{ks:oH bc} {us:oH zL},bj (ks.map kV) us->ItemsAre (gL P w) ks us
 | [],_,r=>by rw[jQ]at r;cases r;exact .nil
 |k::ks,_,r=>by
  rw[cP]at r;cases r with
  |cons h t=>exact .cons (tI h) (Pf t)
abbrev KT(H:Hp):oH (oH bc×V)->oH (oH bc×zI×zL)->Prop:=Paired λp q=>p.1=q.1/\H q.2.1\.tup (p.1.map kV)/\RelV p.2 q.2.2
theorem KT.val(r:KT H cf xs)(k:oH bc):kN (mT cf k) ((atKey xs k).map (·.2)):=by
 induction r with
 |nil=>exact kh
 | @cons p q ps qs h t ih=>
  let h1 _ h2:=h;by_cases e:p.1=k
  .have e':q.1=k:=h1.symm.trans e;have b:atKey (q::qs) k\q.2:=by simp[atKey,Cj,e']
   rw[C6 e,b];lk
  .have e':¬ q.1=k:=λz=>e (h1.trans z);have b:atKey (q::qs) k=atKey qs k:=by simp[atKey,Cj,e']
   rw[C7 e,b];lk
theorem KT.GZ(r:KT H cf xs)(k:oH bc)(ry:RelV y u):
  KT H (cf.map λkv=>if kv.1=k then(kv.1,y) else kv) (xs.map (putAt k u)):=by
 induction r with
 |nil=>exact .nil
 | @cons p q ps qs h t ih=>
  rw[cP,cP];refine .cons ?_ ih;let h1 h2 h3:=h;rw[putAt];by_cases e:p.1=k
  .rw[zJ e,zJ (h1.symm.trans e)];exact#[h1,h2,ry]
  .rw[zK e,zK (λz=>e (h1.trans z))];exact#[h1,h2,h3]
theorem KT.put(r:KT H cf xs)(k:oH bc)(hb:H b\.tup (k.map kV))(ry:RelV y u):
  KT H (i8 cf k y) (storedH xs k b u):=by
 have e:(cf.any λkv=>decide (kv.1=k))=(atKey xs k).isSome:=by
  rw[Pe,(r.val k).As,VU]
 rw[i8,storedH];rw[e];by_cases q:(atKey xs k).isSome=oP
 .rw[zJ q,zJ q];exact r.GZ k ry
 .rw[zK q,zK q];exact Paired.snoc r #[rfl,hb,ry]
theorem KT.keeps(r:KT H cf xs)(ht:∀b ys,H b\.tup ys->H' b\.tup ys):KT H' cf xs:=
 Paired.FX r λ_ _ z=>#[z.1,ht _ _ z.2.1,z.2.2]
section
theorem Pg(ok:gB P w H h)(e:Rd H a u):va P w H h a u:=e.ok ok
theorem aoL(ok:gB P w H h)(e:Rd H a (.dK cf)):-cf<=aM/\(a == qO)=yv/\∃vs,KV cf vs/\h.DictOf (gL P w) a vs:=
 show va P w H h a (.dK cf) from Pg ok e
theorem C8(ok:gB P w H h)(e:H a\.dK cf):-cf<=aM/\(a == qO)=yv/\∃vs,KV cf vs/\h.DictOf (gL P w) a vs:=aoL ok (.inl e)
theorem xF(ok:gB P w H h)(e:H a\.tup (ks.map kV)):(B1 (gL P w)).is h ks a:=by
 obtain⟨_,ag,r,o,h1,h2,n,h3⟩:=(show va P w H h a (.tup (ks.map kV)) from ok a _ e)
 exact#[o,ag.toArray,n,h1,h2,h3,by simpa using Pf r]
theorem vA(ok:gB P w H h)(e:Rd H a (.dT cf)):-cf<=aM/\(a == qO)=yv/\
  ∃xs,KT H cf xs/\h.DictOfH (B1 (gL P w)) a xs:=by
 let z y xs r o es ep h1 h2 h3 h4 h5:=(show va P w H h a (.dT cf) from Pg ok e)
 refine#[z,y,xs,r,o,es,ep,h1,h2,h3,h4,λx hx=> ?_,h5];have all:∀{l:oH (oH bc×V)} {m:oH (oH bc×zI×zL)},KT H l m->∀x∈m,(B1 (gL P w)).is h x.1 x.2.1:=by
  intro l m q
  induction q with
  |nil=>intro x hx;exact nomatch hx
  | @cons p q ps qs hq t ih=>
   intro x hx;rcases bL.mp hx with e | hx
   .subst e;exact xF ok (by rw[<- hq.1];exact hq.2.1)
   .exact ih x hx
 exact all r x hx
theorem Yw(ok:gB P w H h)(e:H a\.dT cf):-cf<=aM/\(a == qO)=yv/\
  ∃xs,KT H cf xs/\h.DictOfH (B1 (gL P w)) a xs:=vA ok (.inl e)
end
def rH(H:Hp)(a:zI)(y:V)(r:oT V):Prop:=
 (∃cf k,Rd H a (.dK cf)/\y=kV k/\r=mT cf k)\/∃cf k b,Rd H a (.dT cf)/\y= .ref b/\H b\.tup (k.map kV)/\r=mT cf k
def Ph(H:Hp)(a:zI)(y v:V)(H':Hp):Prop:=
 (∃cf k,H a\.dK cf/\y=kV k/\-cf < aM/\H'=dm H a (.dK (i8 cf k v)))\/
 ∃cf k b,H a\.dT cf/\y= .ref b/\H b\.tup (k.map kV)/\-cf < aM/\H'=dm H a (.dT (i8 cf k v))
section
theorem Inv.big(I:Inv X ab σ H s):qO < s.heap.objs.size:=by
 have h:jN < s.heap.objs.size:=(I.mod.glob.keeps I.bk).lt;exact Nat.lt_trans a_ h
theorem Yx(hu:A.units + 1 < cLine)(I:Inv X ab σ H s)(g:rH H a y (!v))(ry:RelV y u)(h:∀w' s',Inv X ab σ H s'->RelV v w'->Q w' s'):
  wpAny (model X.prog X.w) A (getItem (.ref a) u) Q E s:=by
 rcases g with⟨cf,k,e,ey,l⟩ | ⟨cf,k,b,e,ey,eb,l⟩
 .subst ey;let z hd vs bG dd:=aoL I.aQ e;let w' hw aof:=kN.some_of (v:=v) (o:=wX vs k) (l^^bG.val k);exact wpAny_getItem_of (tI ry) dd.mapOf hw (h w' _ (I.tok _) aof)
 .subst ey;cases(show u=t5 b from ry);let z hd xs bG dd:=vA I.aQ e;let w' hw aof:=kN.some_of (v:=v) (o:=(atKey xs k).map (·.2)) (l^^bG.val k);let p hp G0:=aY.mp hw;refine wpAny_getItem_heap (FK hu) (xF I.aQ eb) dd hp ?_;rw[G0];exact h w' _ (I.tok _) aof
theorem Yy(hu:A.units + 1 < cLine)(I:Inv X ab σ H s)(g:rH H a y o)(ry:RelV y u)(h:∀s',Inv X ab σ H s'->Q (.bool o.isSome) s'):
  wpAny (model X.prog X.w) A (compareOp .In u (.ref a)) Q E s:=by
 rcases g with⟨cf,k,e,ey,l⟩ | ⟨cf,k,b,e,ey,eb,l⟩
 .subst ey;let z hd vs bG dd:=aoL I.aQ e;refine wpAny_in_of (tI ry) hd dd.mapOf ?_;rw[<- (bG.val k).As, <- l];exact h _ (I.tok _)
 .subst ey;cases(show u=t5 b from ry);let z hd xs bG dd:=vA I.aQ e;refine wpAny_in_heap (FK hu) (xF I.aQ eb) hd dd ?_;have q:=(bG.val k).As;rw[VU]at q;rw[<- q, <- l];exact h _ (I.tok _)
theorem C9{t':Nat}(I:Inv X ab σ H s)(mu:iB (H a))(hs:Cd a s.heap h')(he:∃q,h'.get? a\q)(new:va X.prog X.w (dm H a ob) h' a ob):
  Inv X ab σ (dm H a ob) { s with heap:=h',toks:=t' }:=
 I.write (x:=a) (e:=a) mu (.inl rfl) (λb q hb z=>(hs.2 b hb).trans z) he new
theorem G1{P:zR}{w:zQ}{H':Hp}(z:cf.length<=aM)(hd:(a == qO)=yv)(bG:KV cf vs)(dd:h'.DictOf (gL P w) a vs):
  va P w H' h' a (.dK cf):=#[z,hd,vs,bG,dd]
theorem YA(hu:A.units + 1 < cLine)(I:Inv X ab σ H s)(g:Ph H a y v H')(ry:RelV y u)(rv:RelV v r)(h:∀s',Inv X ab σ H' s'->Q () s'):
  wpAny (model X.prog X.w) A (setItem (.ref a) u r) Q E s:=by
 rcases g with⟨cf,k,e,ey,l,eH⟩ | ⟨cf,k,b,e,ey,eb,l,eH⟩
 .subst ey eH;let z hd vs bG dd:=C8 I.aQ e;have hz:-vs<=aM:=by rw[<- bG.length];lk
  have hl:-(i8 cf k v)<=aM:=by have:=GY cf k v;lia
  refine wpAny_setItem_pairs (hsz:=hz) (tI ry) dd λh' oo hs=>h _ ?_;have he:∃q,h'.get? a\q:=let #[q,_,_,hq,_]:=oo;#[q,hq];exact C9 I (e^^kh) hs he (G1 hl hd (bG.put k rv) oo)
 .subst ey eH;cases(show u=t5 b from ry);let z hd xs bG dd:=Yw I.aQ e;have hz:-xs<=aM:=by rw[<- Nv bG];lk
  have hl:-(i8 cf k v)<=aM:=by have:=GY cf k v;lia
  refine wpAny_setItem_heap (hsz:=hz) (FK hu) (xF I.aQ eb) dd λh' oo hs=>h _ ?_;let q es ep hq h2 h3 h4 _ h5:=oo;refine C9 I (e^^kh) hs #[q,hq] #[hl,hd,_,(bG.put k eb rv).keeps λc ys ec=> ?_,q,es,ep,hq,h2,h3,h4,h5];rw[ba (aBE ec e (λz=>nomatch z))];lk
theorem YC(I:Inv X ab σ H s)(e:Rd H a (.dK cf))(h:∀t s',Inv X ab σ H s'->Q (.int (-cf) t) s'):wpAny (model X.prog X.w) A (call (.builtin "len") [.ref a]) Q E s:=by
 let z hd vs bG dd:=aoL I.aQ e;refine call_len_dict hd dd (by rw[<- bG.length];rw[mG]at z;lia) ?_;rw[<- bG.length];exact h _ _ (I.tok _)
end
theorem YD{X:Cx}{ab:oH (zI×Obj)}{σ:St}{H:Hp}{s:zM}{a:zI}{y:V}{o:oT V}(I:Inv X ab σ H s)(g:rH H a y o):s.TypeIs (.ref a) "dict":=by
 rcases g with⟨cf,k,e,_,_⟩ | ⟨cf,k,b,e,_,_,_⟩
 .obtain⟨_,_,vs,_,dd⟩:=aoL I.aQ e;exact dd.typeIs
 .obtain⟨_,_,xs,_,dd⟩:=vA I.aQ e;exact dd.typeIs
def G2(td ty tv:TE):TS:=λD σ H=>tv σ H λv H1=>td σ H1 λx H2=>ty σ H2 λy H3=>∃a H4,x= .ref a/\Ph H3 a y v H4/\D.nx σ H4
section
theorem apo(hu:X.A.units + 1 < cLine)(ho:PE X o td)(hi:PE X i ty)(hv:PE X value tv)(hs:wQ value (!.Subscript o i pos') pos.line X.env=pure yv):
  PS X (.Assign [.Subscript o i pos'] value pos) (G2 td ty tv):=by
 intro ab s σ H D I h;refine wpAny_Assign_Subscript (bh (hv ab s σ H _ I h) λr s1 #[v,H1,I1,rv,q1]=>bh (ho ab s1 σ H1 _ I1 q1) λu s2 #[x,H2,I2,rx,q2]=>bh (hi ab s2 σ H2 _ I2 q2) λiv s3 #[y,H3,I3,ry,a,H4,ex,g,q3]=> ?_) hs;subst ex;obtain rfl:u=t5 a:=rx;exact YA hu I3 g ry rv λs4 I4=>#[σ,H4,I4,q3]
end
theorem Pj{P:zR}{w:zQ}{H:Hp}(h:zN)(hb:qO < h.objs.size):va P w H (h.push { cls:= .type "dict",data:= .dict (List.toArray []) }) h.objs.size (.dK []):=
 #[jO _,beq_eq_false_iff_ne.mpr (yd (dR hb)), [], .nil,Heap.DictOf.new h]
def Dc:TE:=λ_ H Q=>∀p,H p=oM->Q (.ref p) (dm H p (.dK []))
section
theorem qo:PE X (.Dict [] [] pos) Dc:=λab s σ H Q I h=>
 wpAny_Dict_empty #[.ref s.heap.objs.size,_,I.laid (a:=s.heap.objs.size) (o:= .dK []) (t':=s.toks) (λ_ _ q=>cB _ q) (bO _) (Pj s.heap I.big),rfl,h _ (I.aQ.fresh (bO _))]
end
def De:oH (TE×TE)->St->Hp->(oH (V×V)->Hp->Prop)->Prop
 | [],_,H,Q=>Q [] H
 |(tk,tv)::r,σ,H,Q=>tk σ H λx H1=>tv σ H1 λy H2=>De r σ H2 λps H3=>Q ((x,y)::ps) H3
abbrev VV:oH (V×V)->oH (zL×zL)->Prop:=Paired λp q=>RelV p.1 q.1/\RelV p.2 q.2
def Au(X:Cx)(pos:Pos)(keys:oH (oT zO))(values:oH zO)(mi:oH (TE×TE)):Prop:=
 ∀(ab:oH (zI×Obj)) (s:zM) (σ:St) (H:Hp) (Q:oH (V×V)->Hp->Prop),Inv X ab σ H s->De mi σ H Q->
  wpAny (model X.prog X.w) X.A (evalPairs (pairTrees keys values X.env pos)) (λvs s'=>∃ps H',Inv X ab σ H' s'/\VV ps vs/\Q ps H') X.xe s
theorem vB{X:Cx}{pos:Pos}:Au X pos [] [] []:=λab s σ H Q I h=>pairTrees_nil_walk #[[],H,I, .nil,h]
theorem aqJ{X:Cx}{pos:Pos}{k v:zO}{tk tv:TE}(hk:PE X k tk)(hv:PE X v tv)(hr:Au X pos ks vs mi):
  Au X pos (oF k::ks) (v::vs) ((tk,tv)::mi):=λab s σ H Q I h=>
 pairTrees_cons_walk (bh (hk ab s σ H _ I h) λu s1 #[x,H1,I1,rx,q1]=>bh (hv ab s1 σ H1 _ I1 q1) λw2 s2 #[y,H2,I2,ry,q2]=>
  bh (hr ab s2 σ H2 _ I2 q2) λws s3 #[ps,H3,I3,bG,q3]=>#[(x,y)::ps,H3,I3, .cons #[rx,ry] bG,q3])
def pF(cf more:oH (bc×V)):oH (bc×V):=more.foldl (λll kv=>i8 ll kv.1 kv.2) cf
theorem KV.merge:∀{more:oH (bc×V)} {rs:oH (bc×zL)} {cf:oH (bc×V)} {vs:oH (bc×zL)},KV more rs->KV cf vs->KV (pF cf more) (merged vs rs):=by
 intro more rs cf vs r;rw[KV]at r
 induction r generalizing cf vs with
 |nil=>intro q;lk
 | @cons p q ps qs h t ih=>
  intro r0;have e:KV (i8 cf p.1 p.2) (stored vs q.1 q.2):=by
   have:=r0.put p.1 h.2;rw[<- h.1];lk
  exact ih e
theorem Pk:∀(more cf:oH (bc×V)),(pF cf more).length<=-cf + -more
 | [],cf=>by show -cf<=-cf + 0;lia
 |p::r,cf=>by
  have h1:=Pk r (i8 cf p.1 p.2);have h2:=GY cf p.1 p.2;show(pF (i8 cf p.1 p.2) r).length<=_;rw[p8];lia
theorem Pm{P:zR}{w:zQ}:∀{cf:oH (bc×V)} {ws:oH (zL×zL)},VV (cf.map λkv=>(kV kv.1,kv.2)) ws->∃rs,Carries (gL P w) ws rs/\KV cf rs
 | [],_,r=>by rw[jQ]at r;cases r;exact#[[],kh, .nil]
 |p::cf,_,r=>by
  rw[cP]at r;cases r with
  | @cons a b as bs h t=>
   let rs c q:=Pm (P:=P) (w:=w) t;let b1 b2:=b;exact#[(p.1,b2)::rs,#[tI h.1,rfl,c], .cons #[rfl,h.2] q]
def tJ(mi:oH (TE×TE)):TE:=λσ H Q=>∀p,H p=oM->De mi σ (dm H p (.dK [])) λps H2=>H2 p\.dK []/\∃cf:oH (bc×V),ps=cf.map (λkv=>(kV kv.1,kv.2))/\-cf<=15/\Q (.ref p) (dm H2 p (.dK (pF [] cf)))
theorem aw7{X:Cx}{pos:Pos}(h:Au X pos keys values mi)(rD:keys.all (·.isSome)=oP)(hl:-keys=-values)(h0:keys≠ [])
  (Av:-keys<=15):PE X (.Dict keys values pos) (tJ mi):=by
 intro ab s σ H Q I q;have hn:=I.aQ.fresh (bO s.heap.objs.size);have I1:=I.laid (a:=s.heap.objs.size) (o:= .dK []) (h':=s.heap.push { cls:= .type "dict",data:= .dict (List.toArray []) }) (t':=s.toks) (λ_ _ q=>cB _ q) (bO _) (Pj s.heap I.big);refine wpAny_Dict_walk (knd:=gL X.prog X.w) rD hl h0 Av (bh (h ab _ σ _ _ I1 (q _ hn)) λws s2 #[ps,H2,I2,bG,e,cf,ep,lk,q2]=> ?_);subst ep;let rs c rk:=Pm (P:=X.prog) (w:=X.w) bG;let z hd ai0 r0 dd:=C8 I2.aQ e;cases r0;refine#[rs,c,dd,λh' oo hs=>#[.ref s.heap.objs.size,_, ?_,rfl,q2]];have hz:-(pF [] cf)<=aM:=by
  have h1:=Pk cf [];rw[uS]at h1;rw[mG];lia
 have he:∃q,h'.get? s.heap.objs.size\q:=let #[q,_,_,hq,_]:=oo;#[q,hq];exact C9 I2 (e^^kh) hs he (G1 hz hd (rk.merge .nil) oo)
structure M2(X:Cx)(o:zO)(m:Str)(jM:Pos)(e f:zO)(gE:Pos):Prop where
 base:ao2 o m X.env (eval o X.env)=eval o X.env
 G3:((backTo gE (ix [e,f] X.env)).all (λx=> not x.1) && (B7 gE (B8 [] X.env)).all (λx=>x.1.isSome)
  && decide (([e,f]:List zO).length + ([]:List Keyword).length + (if([]:List Keyword).isEmpty then 0 else 1) < 30))=oP
 line:(jM.endLine == gE.line)=oP
 trees:backTo gE (ix [e,f] X.env)= [(yv,eval e X.env),(yv,eval f X.env)]
def Df(H:Hp)(a:zI):Prop:=(∃cf,Rd H a (.dK cf))\/∃cf,Rd H a (.dT cf)
theorem Po{X:Cx}{ab:oH (zI×Obj)}{σ:St}{H:Hp}{s:zM}{a:zI}(I:Inv X ab σ H s)(d:Df H a):
  s.TypeIs (.ref a) "dict"/\(∀b,t5 a= .ref b->∃ob,s.heap.get? b\ob/\ob.dict=oM)/\(a == qO)=yv:=by
 rcases d with⟨cf,e⟩ | ⟨cf,e⟩
 .obtain⟨_,hd,vs,_,dd⟩:=aoL I.aQ e;refine#[dd.typeIs,λb q=> ?_,hd];cases q;let ob _ _ h1 h2 _:=dd;exact#[ob,h1,h2.2.1]
 .obtain⟨_,hd,xs,_,dd⟩:=vA I.aQ e;refine#[dd.typeIs,λb q=> ?_,hd];cases q;let ob _ _ h1 h2 _:=dd;exact#[ob,h1,h2.2.1]
section
theorem YE(hu:A.units + 1 < cLine)(I:Inv X ab σ H s)(g:rH H a y o)(ry:RelV y u)(rd:RelV d r)(h:∀w' s',Inv X ab σ H s'->RelV (o.getD d) w'->Q w' s'):
  wpAny (model X.prog X.w) A (call (.builtin "dict.get") [.ref a,u,r]) Q E s:=by
 rcases g with⟨cf,k,e,ey,l⟩ | ⟨cf,k,b,e,ey,eb,l⟩
 .subst ey;let z hd vs bG dd:=aoL I.aQ e;refine FL VW dd.typeIs air (ais _ _ _) (meets_dict_get_default (gL X.prog X.w) a (tI ry) hd r) #[_,dd.mapOf,h _ _ (I.tok _) ?_];rw[l];exact(bG.val k).getD rd
 .subst ey;cases(show u=t5 b from ry);let z hd xs bG dd:=vA I.aQ e;refine FL VW dd.typeIs air (ais _ _ _) (meetsH_dict_get_default (B1 (gL X.prog X.w)) a b hd r) #[FK hu,k,xs,xF I.aQ eb,dd,h _ _ (I.tok _) ?_];rw[l];exact(bG.val k).getD rd
end
def Pp(td ty tx:TE):TE:=λσ H Q=>td σ H λx H1=>∃a,x= .ref a/\Df H1 a/\ty σ H1 λy H2=>tx σ H2 λz H3=>∃o,rH H3 a y o/\Q (o.getD z) H3
section
theorem vC(hu:X.A.units + 1 < cLine)(ho:PE X o td)(he:PE X e ty)(hf:PE X f tx)(m:M2 X o "get" jM e f gE):PE X (.Call (.Attribute o "get" jM) [e,f] [] gE) (Pp td ty tx):=by
 intro ab s σ H Q I h;refine wpAny_Call_method m.base m.G3 m.line NL VW PySem.F.type_dict_get (bh (ho ab s σ H _ I h) λu s1 #[x,H1,I1,rx,a,ex,d,q1]=> ?_);subst ex;obtain rfl:u=t5 a:=rx;let t1 t2 _:=Po I1 d;refine#[t1,t2, ?_];rw[m.trees];refine Ci rfl (VP (NH (bh (he ab s1 σ H1 _ I1 q1) λiv s2 #[y,H2,I2,ry,q2]=>
  NH (bh (hf ab s2 σ H2 _ I2 q2) λfv s3 #[z,H3,I3,rz,ov,g,q3]=>VC ?_))))
 exact YE hu I3 g ry rz λw' s4 I4 aof=>#[_,H3,I4,aof,q3]
end
section
variable {κ:Type}[DecidableEq κ]
end
section
end
def oq(i j:Int):Prop:=0 < j/\j < 2 ^ 200
theorem YI{j:Int}(h0:0 < j)(h:j < 2 ^ 200):j.natAbs.log2 < 9000:=by
 have e:j.natAbs < 2 ^ 200:=by
  have:(j.natAbs:Int)=j:=Int.natAbs_of_nonneg (aBt h0);have h2:(j.natAbs:Int) < ((2 ^ 200:Nat):Int):=by rw[this];exact_mod_cast h
  exact_mod_cast h2
 have:j.natAbs.log2 < 200:=(Nat.log2_lt b_).mpr e
 lia
section
theorem Pq:cu X (binaryOp .FloorDiv) (rI oq λi j=> .int (i / j)):=CP λi j _ _ _ _ _ hc q=>by
 have h1:(0:Int) < j:=hc.1;exact floordiv_int b_ (Int.fdiv_eq_ediv_of_nonneg i b_^^q) (.inl (PyProof.noPylong_of_log2 (YI hc.1 hc.2)))
theorem YJ:fT X (.builtin "isinstance") (λxs H Q=>∃x t b,xs= [x, .ty T]/\kP X.K H x t/\xg X.K t (.type T)\b/\Q (.bl b) H):=by
 intro ab s σ H xs us Q I r h;let x t b rfl ty e q:=h;let u w' rfl ru rt:=vals2 r;cases rt;exact Xt I ru ty e λtk=>#[.bl b,H,I.tok tk,rfl,q]
end
theorem G4(env:Env):∀(ns:oH (Str×dQ)) (ll:oH (Str×zI)),(∀y∈ns,y.2= .free->∃c,env.cells.lookup y.1\c)->
  ∃new:oH (Str×zI),(∀p∈new,env.cells.lookup p.1\p.2)/\(∀y∈ns,y.2= .free->∃c,(y.1,c)∈new)/\
   (forIn ns ll (λ(x:Str×dQ) (r:oH (Str×zI))=>match x with
    |(name,kind)=>if(kind == qb)=oP then do let c <- cellOf env name;pure (zq ((name,c)::r)) else pure (zq r)):Sem (oH (Str×zI)))=pure (new++ll)
 | [],ll,_=>#[[],λ_ h=>(nomatch h),λ_ h=>(nomatch h),rfl]
 |(n,k)::rest,ll,h=>by
  by_cases hk:k= .free
  .subst hk;let c hc:=h _ xb rfl;let new h1 h2 h3:=G4 env rest _ λy hy=>h y (nQ _ hy);refine#[new++ [(n,c)],λp hp=> ?_,λy hy hf=> ?_, ?_]
   .rcases lZ.mp hp with z | z
    .exact h1 p z
    .obtain rfl:=ly.mp z;lk
   .rcases bL.mp hy with z | z
    .subst z;exact#[c,by simp]
    .let c' z':=h2 y z hf;exact#[c',qR _ z']
   .rw[FO];have e1:cellOf env n=pure c:=by rw[cellOf];rw[hc]
    simp only[beq_self_eq_true,if_true,e1];rw[b8];lk
  .let new h1 h2 h3:=G4 env rest ll λy hy=>h y (nQ _ hy);refine#[new,h1,λy hy hf=> ?_, ?_]
   .rcases bL.mp hy with z | z
    .subst z;exact absurd hf hk
    .exact h2 y z hf
   .rw[FO];have e1:(k == qb)=yv:=by simpa using hk
    simp only[e1,Bool.false_eq_true,if_false];lk
theorem ah9{l:oH (Str×zI)}(h:(x,c)∈l):∃c',l.lookup x\c':=by
 induction l with
 |nil=>lk
 |cons p r ih=>
  let y d:=p;rw[nR];cases e:x == y with
  |true=>exact#[d,rfl]
  |false=>
   rcases bL.mp h with z | z
   .have:x=y:=congrArg VY z;rw[this]at e;simp at e
   .exact ih z
theorem YK{scope:Scope}{env:Env}(h:∀y∈scope.names,y.2= .free->∃c,env.cells.lookup y.1\c):
  ∃cl,closureFor scope env=pure cl/\(∀x c,cl.lookup x\c->env.cells.lookup x\c)/\(∀y∈scope.names,y.2= .free->∃c,cl.lookup y.1\c):=by
 let new h1 h2 h3:=G4 env scope.names [] h;refine#[new, ?_,λx c e=>h1 _ (xh e),λy hy hf=> ?_]
 .rw[nM]at h3;have e:closureFor scope env=((forIn scope.names _ (λ(x:Str×dQ) (r:oH _)=>match x with
    |(name,kind)=>if _=oP then do let c <- cellOf env name;pure (zq ((name,c)::r)) else pure _):Sem _) >>= λr=>pure r):=rfl
  rw[e,h3];rfl
 .let c hc:=h2 y hy hf;exact ah9 hc
section
theorem YL{elt target iter:zO}{ifs:oH zO}{scope:Scope}{pos:Pos}{it ll:zL}{env:Env}(I:Nat->zM->Prop)
  (turn:∀n s,I n s->wpAny (model prog w) A (pyNext it) (λr dD=>match r with
   |none=>R (.ok .next) dD
   |some v=>wpAny (model prog w) A (Nm target it v) (λ_ Pr=>wpAny (model prog w) A (assign target env v) (λ_ CO=>
     wpAny (model prog w) A (forIn ifs oP λc r=>if r=oP then do let ok <- isTrue c env (eval c env);pure (zq ok) else pure (zq r)) (λok pG=>
      if ok=oP then wpAny (model prog w) A (eval elt env) (λx Dh=>
       wpAny (model prog w) A (call (.builtin "list.append") [ll,x]) (λ_ Pt=>∃m,m < n/\I m Pt) (B9 (model prog w) A env λe s'=>R (.error e) s') Dh) (B9 (model prog w) A env λe s'=>R (.error e) s') pG
      else ∃m,m < n/\I m pG) (B9 (model prog w) A env λe s'=>R (.error e) s') CO) (B9 (model prog w) A env λe s'=>R (.error e) s') Pr) (B9 (model prog w) A env λe s'=>R (.error e) s') dD) (B9 (model prog w) A env λe s'=>R (.error e) s') s)
  (n:Nat) (h:I n s):
  qQ (model prog w) A (.compLoop (.ListComp elt [#[target,iter,ifs,0]] scope pos) 0 it ll env) R s:=by
 refine codeAny_loop rfl I (λn s hI=> ?_) n h;refine wpAny_noted ?_;rw[compTurn_list];refine az (U8 (az (ja (turn n s hI) (λr dD Aw=> ?_) λ_ _ h'=>h')));cases r with
 |none=>exact bF Aw
 |some v=>
  refine az (ja Aw (λ_ Pr YM=> ?_) λ_ _ h'=>h');refine az (ja YM (λ_ CO YN=>az (ja YN (λok pG Pu=> ?_) λ_ _ h'=>h')) λ_ _ h'=>h');cases ok with
  |false=>exact bF #[rfl,Pu]
  |true=>
   exact az (az (ja Pu (λx Dh YO=>az (ja YO (λ_ Pt YQ=>bF (bF #[rfl,YQ])) λ_ _ h'=>h')) λ_ _ h'=>h'))
end
noncomputable def je (X:Cx) (N:oH Str) (scope:Scope) (cl:oH (Str×zI)) (C:zI) (s:zM) (H:Hp) (ex:oH zI) (ab:oH (zI×Obj)):Cx:=
 { X with N:=N,xP:=s,sS:=H,env:=compEnvC scope cl C X.env,outer:=X.stack,stack:=X.stack,ex:=ex,fn:=λx=>scope.names.lookup x == oF jR,pn:=X.pn++ab,xe:=λ_ _=>False }
theorem YR{M:Model}{A:zS}{E:zL->zM->Prop}{s:zM}{scope:Scope}{globals:zI}{cl:oH (Str×zI)}{qual:Str}{env:Env}{Q:Env->zM->Prop}
  (hQ:Q (newEnv scope s.heap.objs.size globals (nN (s.heap.objs.size + 1) scope.names cl) qual oM .none (!env) Nk) { s with heap:=wY (s.heap.push { cls:= .type "dict",data:= .dict (List.toArray []) }) scope.names }):
  wpAny M A (Vj scope globals cl [] qual oM .none (!env)) Q E s:=by
 simp only[Vj,aip,if_true];refine az (wpAny_alloc ?_);refine az (wpAny_layCells _ (λname kind cells=>by cases YS:kind == jR <;> simp[YS]) _ _ _ _ ?_);rw[show({ s with heap:=s.heap.push { cls:= .type "dict",data:= .dict (List.toArray []) } }:zM).heap.objs.size=s.heap.objs.size + 1 from p9 ..];rw[NO];exact az (bF (bF hQ))
theorem G5:∀(names:oH (Str×dQ)) (h:zN) (ll:oH (Str×zI)) (x:Str) (c:zI),(nN h.objs.size names ll).lookup x\c->
  (ll.lookup x\c/\¬ (x,jR)∈names)\/(h.objs.size<=c/\(x,jR)∈names/\(wY h names).IsCell c oM)
 | [],_,_,_,_,e=> .inl #[e,λz=>nomatch z]
 |(name,kind)::r,h,ll,x,c,e=>by
  rw[nN]at e;rw[wY];by_cases hk:(kind == jR)=oP
  .rw[zJ hk]at e;rw[zJ hk];obtain rfl:kind= .cell:=by simpa using hk
   have hs:(h.push { cls:= .type "cell",data:= .cell oM }).objs.size=h.objs.size + 1:=p9 ..;rw[<- hs]at e;rcases G5 r _ _ x c e with⟨e1,e2⟩ | ⟨e1,e2,e3⟩
   .rw[nR]at e1;cases hx:x == name with
    |true=>
     rw[hx]at e1;cases e1;obtain rfl:x=name:=by simpa using hx
     exact .inr #[bO _,xb,_,Nq _ _ _ _ (gc _ rfl),rfl]
    |false=>
     rw[hx]at e1;refine .inl #[e1,λz=> ?_];rcases bL.mp z with z | z
     .have:x=name:=congrArg VY z;rw[this]at hx;simp at hx
     .exact e2 z
   .exact .inr #[by rw[hs]at e1;exact Nat.le_of_succ_le e1,nQ _ e2,e3]
  .rw[zK hk]at e;rw[zK hk];rcases G5 r h ll x c e with⟨e1,e2⟩ | ⟨e1,e2,e3⟩
   .refine .inl #[e1,λz=> ?_];rcases bL.mp z with z | z
    .have:jR=kind:=congrArg Prod.snd z;rw[<- this]at hk;exact hk rfl
    .exact e2 z
   .exact .inr #[e1,nQ _ e2,e3]
theorem G6:∀(names:oH (Str×dQ)) (n:Nat) (ll:oH (Str×zI)) (x:Str),(x,jR)∈names\/(∃c,ll.lookup x\c)->∃c,(nN n names ll).lookup x\c
 | [],_,_,_,h=>h.elim (λz=>nomatch z) id
 |(name,kind)::r,n,ll,x,h=>by
  rw[nN];by_cases hk:(kind == jR)=oP
  .rw[zJ hk];refine G6 r _ _ x ?_;rw[nR];cases hx:x == name with
   |true=>exact .inr #[n,rfl]
   |false=>
    rcases h with h | h
    .rcases bL.mp h with z | z
     .have:x=name:=congrArg VY z;rw[this]at hx;simp at hx
     .exact .inl z
    .exact .inr h
  .rw[zK hk];refine G6 r _ _ x (h.imp (λz=> ?_) id);rcases bL.mp z with z | z
   .have:jR=kind:=congrArg Prod.snd z;rw[<- this]at hk;exact absurd rfl hk
   .lk
theorem G7:∀(names:oH (Str×dQ)) (n:Nat) (ll:oH (Str×zI)),(∀x c,ll.lookup x\c->c < n)->(∀x y c,ll.lookup x\c->ll.lookup y\c->x=y)->
  ∀x y c,(nN n names ll).lookup x\c->(nN n names ll).lookup y\c->x=y
 | [],_,_,_,h=>h
 |(name,kind)::r,n,ll,hb,hi=>by
  rw[nN];by_cases hk:(kind == jR)=oP
  .rw[zJ hk];refine G7 r _ _ (λx c e=> ?_) λx y c e1 e2=> ?_
   .rw[nR]at e;cases hx:x == name with
    |true=>rw[hx]at e;cases e;exact FN _
    |false=>rw[hx]at e;exact Ck (hb x c e)
   .rw[nR]at e1 e2;cases hx:x == name with
    |true=>
     rw[hx]at e1;cases e1;cases hy:y == name with
     |true=>rw[show x=name by simpa using hx,show y=name by simpa using hy]
     |false=>rw[hy]at e2;exact absurd (hb y _ e2) (mI _)
    |false=>
     rw[hx]at e1;cases hy:y == name with
     |true=>rw[hy]at e2;cases e2;exact absurd (hb x _ e1) (mI _)
     |false=>rw[hy]at e2;exact hi x y c e1 e2
  .rw[zK hk];exact G7 r n ll hb hi
structure Pw(X:Cx)(scope:Scope)(C:zI)(h':zN)(cl:List (Str×zI)):Prop where
 at_:∀x c,cl.lookup x=oF c->(X.env.cells.lookup x=oF c/\¬ (x,jR)∈scope.names)\/(C < c/\(x,jR)∈scope.names/\h'.IsCell c oM)
 has:∀y∈scope.names,(y.2= .free\/y.2= .cell)->∃c,cl.lookup y.1=oF c
 inj:∀x y c,cl.lookup x=oF c->cl.lookup y=oF c->x=y
noncomputable def jv (js:oH (oT Nat)) (σ:St):St:=js.map λo=>o.bind λj=>(σ[j]?).join
structure Di(X:Cx)(N:List Str)(scope:Scope)(js:List (Option Nat)):Prop where
 len:js.length=N.length
 at_:∀(i j:Nat) (x:Str),js[i]?=oF (oF j)->N[i]?=oF x->X.N[j]?=oF x/\scope.names.lookup x=oF .free/\(X.env.scope.names.lookup x=oF .cell\/X.env.scope.names.lookup x=oF .free)
 fr:∀y∈scope.names,y.2= .free->X.env.kindOf y.1=oF .cell\/X.env.kindOf y.1=oF .free
theorem Px{env:Env}:∀{names:oH (Str×dQ)} {x:Str},names.lookup x\.free->
  let r:=(names.map λ(n,k)=>if(k == qb && env.scope.kind == .function && env.kindOf n == oF .cell) then(n,jR) else(n,k)).lookup x
  r\.cell\/r\.free
 | [],_,h=>by simp at h
 |(n,k)::r,x,h=>by
  have ih:=@Px env r x;show(uN x ((if(k == qb && env.scope.kind == .function && env.kindOf n == oF .cell)=oP then(n,jR) else(n,k))::_)=_)\/(uN x ((if(k == qb && env.scope.kind == .function && env.kindOf n == oF .cell)=oP then _ else(n,k))::_)=_);cases hx:x == n with
  |true=>
   simp[nR,hx]at h;cases h;by_cases hc:(qb == qb && env.scope.kind == .function && env.kindOf n == oF .cell)=oP
   .rw[zJ hc];simp only[nR,hx];exact .inl trivial
   .rw[zK hc];simp only[nR,hx];exact .inr trivial
  |false=>
   simp[nR,hx]at h;by_cases hc:(k == qb && env.scope.kind == .function && env.kindOf n == oF .cell)=oP
   .rw[zJ hc];simp only[nR,hx];exact ih h
   .rw[zK hc];simp only[nR,hx];exact ih h
theorem Py{env:Env}:∀{names:oH (Str×dQ)} {x:Str},
  ((names.map λ(n,k)=>if(k == qb && env.scope.kind == .function && env.kindOf n == oF .cell) then(n,jR) else(n,k)).lookup x\.cell\/
   (names.map λ(n,k)=>if(k == qb && env.scope.kind == .function && env.kindOf n == oF .cell) then(n,jR) else(n,k)).lookup x\.free)->
  (x,qb)∈names\/(x,jR)∈names
 | [],_,h=>by simp at h
 |(n,k)::r,x,h=>by
  have ih:=@Py env r x;rw[cP]at h;by_cases hc:(k == qb && env.scope.kind == .function && env.kindOf n == oF .cell)=oP
  .have e:(match ((n,k):Str×dQ) with | (n,k)=>if _=oP then _ else(n,k))=(n,jR):=zJ hc;rw[e]at h;simp only[nR]at h;cases hx:x == n with
   |true=>
    have:x=n:=by simpa using hx
    have hk:k= .free:=by
     rw[kM,kM]at hc;simpa using hc.1.1
    rw[this,hk];exact .inl xb
   |false=>
    rw[hx]at h;exact(ih h).imp (nQ _) (nQ _)
  .have e:(match ((n,k):Str×dQ) with | (n,k)=>if _=oP then(n,jR) else(n,k))=(n,k):=zK hc;rw[e]at h;simp only[nR]at h;cases hx:x == n with
   |true=>
    have:x=n:=by simpa using hx
    rw[hx]at h;rw[this];rcases h with h | h
    .cases h;exact .inr xb
    .cases h;exact .inl xb
   |false=>
    rw[hx]at h;exact(ih h).imp (nQ _) (nQ _)
section
theorem Inv.block{t':Nat}(I:Inv X ab σ H s)(hf:∀b∈fp,jT X ab H b/\b < s.heap.objs.size)(hC:s.heap.objs.size<=C)(hk:∀b o,s.heap.get? b\o->h'.get? b\o)(hn:h'.Ns C m)
  (tG:scope.kind= .function) (sV:∀y∈scope.names,y.2= .cell->scope.names.lookup y.1\.cell) (cO:Pw X scope C h' cl) (vD:Di X N scope js):
  Inv (je X N scope cl C s H fp ab) [] (jv js σ) H { s with heap:=h',toks:=t' }:=by
 have ai1:∀x c,X.env.cells.lookup x\c->c < s.heap.objs.size:=λx c e=>by
  let v q:=I.cell x c e;exact q.lt
 have YT:∀p∈X.pn++ab,p.1∉ahf X.stack:=λp hp z=>by
  obtain⟨_,_,h3,h4,_⟩:=I.pin p hp;rcases bL.mp (I.zC _ z) with q | q
  .exact h3 q
  .exact h4 q
 have YU:(je X N scope cl C s H fp ab).Ok:=by
  refine#[I.ok.mod,tG,I.ok.glob,I.ok.blt,hC,cO.inj,λx hx=> ?_,λx c h e=> ?_,I.ok.hd,I.ok.frames, .inl rfl,λb hb=>#[?_,λx c e=> ?_],I.bs,eK I.ok.qe I.sz,
   λb o e hb=> ?_,λb hb z=> ?_,I.stack,I.N9]
  .rcases Py (env:=X.env) hx with q | q
   .exact cO.has _ q (.inl rfl)
   .exact cO.has _ q (.inr rfl)
  .have h1:scope.names.lookup x\jR:=by simpa[je]using h
   rcases cO.at_ x c e with⟨_,z⟩ | ⟨z,_⟩
   .exact absurd (xh h1) z
   .exact eK hC (nO z)
  .exact dR (dI (hf b hb).2 hC)
  .rcases cO.at_ x c e with⟨z,_⟩ | ⟨z,_⟩
   .exact(hf b hb).1.2.2.2.2.1 x c z
   .exact apN (dI (hf b hb).2 (eK hC (nO z)))
  .obtain⟨_,_,_,h4,_⟩:=(hf b hb).1;rcases h4 with z | z
   .exact I.ok.zB b o e z
   .exact absurd (dI (cW e) (eK I.ok.qe z)) (mI _)
  .obtain⟨_,h2,h3,_⟩:=(hf b hb).1;rcases bL.mp (I.zC _ z) with q | q
   .exact h2 q
   .exact h3 q
 refine#[YU,rfl,I.bare,Un.kept hk,#[m,hn,λi x v e1 e2 e3=> ?_],λx c e=> ?_,I.aQ.fresh hC,λx c e=> ?_,λp hp=> ?_,I.aQ.kept hk, ?_]
 .have xG:(js.map λo=>o.bind λj=>(σ[j]?).join)[i]?\!v:=e2;rw[bJ]at xG;cases ej:js[i]? with
  |none=>rw[ej]at xG;lk
  |some oj=>
   rw[ej]at xG;cases oj with
   |none=>cases xG
   |some j=>
    have Dj:(σ[j]?).join\v:=IM xG;have YV:σ[j]?\!v:=by
     cases q:σ[j]? with
     |none=>rw[q]at Dj;lk
     |some o=>rw[q]at Dj;rw[show o\v from Dj]
    let hN xp hX:=vD.at_ i j x ej e1;let mX _ hl:=I.loc;let u ru lk:=hl j x v hN YV (hX.elim (λz=> .inr (.inl z)) λz=> .inr (.inr z));refine#[u,ru, .inr #[Px (env:=X.env) xp, ?_]];rcases lk with⟨YW,_⟩ | ⟨_,c,hc,YX⟩
    .have Pz:X.env.scope.names.lookup x\.local:=YW;rcases hX with z | z <;> rw[z]at Pz <;> lk
    .let c' qY:=cO.has _ (xh xp) (.inl rfl);have YY:X.env.cells.lookup x\c':=by
      rcases cO.at_ x c' qY with⟨z,_⟩ | ⟨_,z,_⟩
      .lk
      .have:=sV _ z rfl;rw[xp]at this;lk
     have:c'=c:=IM (YY.symm.trans hc);subst this;let o ho hd:=YX;exact#[c',qY,o,hk _ _ ho,hd]
 .rcases cO.at_ x c e with⟨z,_⟩ | ⟨_,_,z⟩
  .let v o ho hd:=I.cell x c z;exact#[v,o,hk _ _ ho,hd]
  .exact#[oM,z]
 .rcases cO.at_ x c e with⟨z,_⟩ | ⟨z,_⟩
  .exact I.nY x c z
  .exact I.aQ.fresh (eK hC (nO z))
 .have Ax:p∈X.pn++ab:=by
   have:p∈(X.pn++ab)++ []:=hp;rwa [nM]at this
  let h1 h2 h3 h4 h5:=I.pin p Ax;exact#[hk _ _ h1,h2,dR (dI (cW h1) hC),YT p Ax,h5]
 .show(js.map _).length=-N;rw[nI];exact vD.len
theorem Inv.PB{o:HO}(I:Inv X ab σ H s)(h0:X.xP.heap.objs.size<=D)(hn:H D=oM)(hL:D≠X.env.locals)(hc:∀x c,X.env.cells.lookup x\c->c≠D)(hp:∀p∈X.pn++ab,p.1≠D)
  (new:va X.prog X.w (dm H D o) s.heap D o):Inv X ab σ (dm H D o) s:=by
 have old:∀b ob,X.xP.heap.get? b\ob->b≠D:=λb ob e=>dR (dI (cW e) h0);refine#[I.ok,I.os,I.bare,#[I.base.keep,I.base.slot,λb ob e n hx=> ?_,I.base.there,λb xs e=> ?_,λb ob u e=> ?_,λb ps e=> ?_],I.loc,I.cell, ?_,λx c e=> ?_,λp Ax=> ?_,λb u e=> ?_,I.len]
 .rw[ba (old b ob e)];exact I.base.free b ob e n hx
 .have q:=I.base.mL b xs e;rw[ba (gM q hn)];lk
 .have q:=I.base.aov b ob u e;rw[ba (gM q hn)];lk
 .let more q:=I.base.qd b ps e;exact#[more,ba (gM q hn)^^q]
 .rw[ba (yd hL)];exact I.free
 .rw[ba (hc x c e)];exact I.nY x c e
 .let h1 h2 h3:=I.pin p Ax;exact#[h1,ba (hp p Ax)^^h2,h3]
 .by_cases hb:b=D
  .subst hb;rw[uB]at e;cases e;lk
  .rw[ba hb]at e;exact(I.aQ b u e).gO (λc v _ q=>q) (λc z=>ba (gM z hn)^^z) λc xs z=>ba (gM z hn)^^z
theorem Inv.YZ{s':zM}{dg:St}{H':Hp}{ys:oH V}{ag:oH zL}{n:Nat}(I:Inv X ab σ H s)(hf:∀b∈fp,jT X ab H b/\b < s.heap.objs.size)(hC:s.heap.objs.size<=C)(hD:s.heap.objs.size<=D)(Ay:D≠C)
  (J:Inv (je X N scope cl C s H fp ab) [(D, { cls:= .type "list",data:= .seq ag.toArray n })] dg H' s') (hv:bj ys ag) (hz:-ys<=aM):
  Inv X ab σ (dm H' D (.lst ys)) s'/\jT X ab (dm H' D (.lst ys)) C/\H' D=oM/\∃m,s'.heap.Ns C m:=by
 have Az:H' C=oM:=J.free;have PC:H' D=oM:=(J.pin (D,_) (kg _ (ly.mpr rfl))).2.1;have Y0:s'.heap.get? D=oF { cls:= .type "list",data:= .seq ag.toArray n }:=(J.pin (D,_) (kg _ (ly.mpr rfl))).1;have u:Un (ahf X.stack) fp H H' s.heap s'.heap:=J.base;let hh g d t Gz:=s';have Y1:Gz=s.os:=J.os;subst Y1;have I1:Inv X ab σ H' { s with heap:=hh,gens:=g,drawn:=d,toks:=t }:=
  I.call (h':=hh) (g':=g) (d':=d) (t':=t) (ch:=fp) u J.aQ J.bare λb hb=>#[(hf b hb).1.2.2.2.1,(hf b hb).1.2.1,(hf b hb).1.2.2.2.2.1,(hf b hb).1.2.2.2.2.2]
 have Dl:D≠X.env.locals:=apN (dI I.lt hD);have young:∀a,s.heap.objs.size<=a->(∀x c,X.env.cells.lookup x\c->c≠a)/\∀p∈X.pn++ab,p.1≠a:=λa ha=>#[λx c e z=>by
   let v q:=I.cell x c e;exact absurd (dI q.lt (z^^ha)) (mI _),λp hp z=>absurd (dI (cW (I.pin p hp).1) (z^^ha)) (mI _)]
 refine#[I1.PB (eK I.sz hD) PC Dl (young D hD).1 (young D hD).2 #[hz,ag,n,hv,Y0],#[ba (yd Ay)^^Az,apN (dI I.lt hC),I.FZ hC, .inr (eK I.sz hC),(young C hC).1,(young C hC).2],PC, ?_];let m hn _:=J.loc;exact#[m,hn]
end
def Dk(Y:Cx)(ifs:oH zO)(tt:TT):Prop:=
 ∀(ab:oH (zI×Obj)) (s:zM) (σ:St) (H:Hp) (Q:Bool->Hp->Prop),Inv Y ab σ H s->tt σ H Q->
  wpAny (model Y.prog Y.w) Y.A (forIn ifs oP λc r=>if r=oP then do let ok <- isTrue c Y.env (eval c Y.env);pure (zq ok) else pure (zq r)) (TP Y ab σ Q) Y.xe s
def Dm:TT:=λ_ H Q=>Q oP H
theorem ko:Dk Y [] Dm:=λ_ _ _ H _ I h=>bF #[H,I,h]
theorem PD(h:PT Y c tt):Dk Y [c] tt:=by
 intro ab s σ H Q I hw;simp only[FO,NO,if_true];exact az (az (ja (h ab s σ H Q I hw) (λb s' hb=>bF (bF hb)) λ_ _ x=>x))
def PF(J:It)(g:TG)(tt:TT)(te:TE)(W:Nat->Nat->St->oH V->Hp->Prop)(Q:V->Hp->Prop):Prop:=
 ∀i m dg ys H',W i m dg ys H'->(J.stop i H'/\∀D,H' D=oM->Q (.ref D) (dm H' D (.lst ys)))\/
  (J.go i H'/\∃N:St->oH V->Hp->Prop,(∀sm zs H2,N sm zs H2->-zs<=aM/\∃m',m' < m/\W (i + 1) m' sm zs H2)/\
   ∀x H2,J.apQ i H' x H2->g x dg H2 λsm H3=>tt sm H3 λok H4=>if ok=oP then te sm H4 λy H5=>N sm (ys++ [y]) H5 else N sm ys H4)
section
theorem Y2{W:Nat->Nat->St->oH V->Hp->Prop}{Q:V->Hp->Prop}{m0:Nat}{RR:zL->zI->Result->zM->Prop}{E:zL->zM->Prop}(hc:X.calm=oP)
  (hg:∀cl C s H ex ab,PG (je X N scope cl C s H ex ab) tg g) (ht:∀cl C s H ex ab,Dk (je X N scope cl C s H ex ab) ifs tt) (he:∀cl C s H ex ab,PE (je X N scope cl C s H ex ab) elt te)
  (tG:scope.kind= .function) (sV:∀y∈scope.names,y.2= .cell->scope.names.lookup y.1\.cell) (vE:∀x c,cl.lookup x\c->X.env.cells.lookup x\c) (jV:∀y∈scope.names,y.2= .free->∃c,cl.lookup y.1\c) (vD:Di X N scope js)
  (I:Inv X ab σ H s) (T:Turn X.prog X.w X.K tg J fp it tn) (st:tn 0 s.heap) (f:∀b∈fp,jT X ab H b) (w0:W 0 m0 (jv js σ) [] H) (turn:PF J g tt te W Q)
  (Y3:∀(D C:zI) (s':zM) (ys:oH V) (H':Hp),Inv X ab σ (dm H' D (.lst ys)) s'->jT X ab (dm H' D (.lst ys)) C->(∃m,s'.heap.Ns C m)->Q (.ref D) (dm H' D (.lst ys))->RR (.ref D) C (.ok .next) s'):
  wpAny (model X.prog X.w) X.A (newList []) (λll pG=>wpAny (model X.prog X.w) X.A (Vj scope X.env.globals cl [] X.env.qual oM .none (!X.env)) (λPH Dh=>
   qQ (model X.prog X.w) X.A (.compStart (.ListComp elt [#[tg,iter,ifs,0]] scope pos) 0 (.ref it) ll { PH with scope:=relabel scope X.env }) (RR ll PH.locals) Dh) E pG) E s:=by
 have kl:∀b∈fp,b < s.heap.objs.size:=λb hb=>by
  let o ho _:=T.obj 0 _ st b hb;exact cW ho
 have ff:∀b∈fp,jT X ab H b/\b < s.heap.objs.size:=λb hb=>#[f b hb,kl b hb]
 refine qP (YR ?_);dsimp only;generalize G8:s.heap.push { cls:= .type "list",dict:=oM,data:= .seq ([]:oH zL).toArray }=H2;have hC:H2.objs.size=s.heap.objs.size + 1:=by rw[<- G8,p9]
 have Ay:s.heap.objs.size≠H2.objs.size:=hC^^dR (FN _)
 have ar3:s.heap.objs.size<=H2.objs.size:=hC^^NI _
 have below:∀b,b < s.heap.objs.size->b≠H2.objs.size/\b≠s.heap.objs.size:=λb hb=>#[hC^^dR (Ck hb),dR hb]
 have Y4:(wY (H2.push { cls:= .type "dict",data:= .dict (List.toArray []) }) scope.names).Ns H2.objs.size (λ_=>oM):=(Heap.Ns.new H2 (.type "dict")).keeps (Nq _ _);have old:∀b o,s.heap.get? b\o->(wY (H2.push { cls:= .type "dict",data:= .dict (List.toArray []) }) scope.names).get? b\o:=λb o e=>Nq _ _ b o (cB _ (G8▸cB _ e));have iY:(wY (H2.push { cls:= .type "dict",data:= .dict (List.toArray []) }) scope.names).get? s.heap.objs.size=oF { cls:= .type "list",dict:=oM,data:= .seq ([]:oH zL).toArray }:=Nq _ _ _ _ (cB _ (G8▸gc _ rfl));have dS:∀x c,cl.lookup x\c->c < H2.objs.size + 1:=λx c e=>by
  let v q:=I.cell x c (vE x c e);exact Ck (dI q.lt ar3)
 have hsz:(H2.push { cls:= .type "dict",data:= .dict (List.toArray []) }).objs.size=H2.objs.size + 1:=p9 ..;have cO:Pw X scope H2.objs.size (wY (H2.push { cls:= .type "dict",data:= .dict (List.toArray []) }) scope.names) (nN (H2.objs.size + 1) scope.names cl):=by
  refine#[λx c e=> ?_,λy hy hk=> ?_,G7 _ _ _ dS λx y c e1 e2=>I.ok.inj x y c (vE x c e1) (vE y c e2)]
  .rw[<- hsz]at e;rcases G5 _ _ _ x c e with⟨e1,e2⟩ | ⟨e1,e2,e3⟩
   .exact .inl #[vE x c e1,e2]
   .exact .inr #[by rw[hsz]at e1;lk,e2,e3]
  .let y k:=y;refine G6 _ _ _ _ ?_;rcases hk with hk | hk
   .exact .inr (jV _ hy hk)
   .exact .inl (by rw[<- hk];lk)
 show qQ _ _ (.compStart _ 0 _ _ (compEnvC scope (nN (H2.objs.size + 1) scope.names cl) H2.objs.size X.env)) _ _;generalize nN (H2.objs.size + 1) scope.names cl=abn at *;generalize wY (H2.push { cls:= .type "dict",data:= .dict (List.toArray []) }) scope.names=Aw at *;clear vE jV dS hsz;generalize H2.objs.size=C at *;generalize Dp:s.heap.objs.size=D at *;have vF:s.heap.objs.size<=D:=VA Dp;have PJ:s.heap.objs.size<=C:=Dp^^ar3
 -- ahg ai2 own invariant
 have J0:Inv (je X N scope abn C s H fp ab) [] (jv js σ) H { s with heap:=Aw }:=
  I.block (λb hb=>#[f b hb,Dp^^kl b hb]) PJ old Y4 tG sV cO vD
 have u9:∀b,b∉X.fs->b≠X.env.locals->b∉ahf X.stack:=λb h1 h2 z=>by
  rcases bL.mp (I.zC _ z) with q | q
  .exact h2 q
  .exact h1 q
 have Y5:D∉ahf X.stack:=u9 D (I.FZ vF) (apN (dI I.lt vF));have Y6:∀x c,abn.lookup x\c->c≠D:=λx c e z=>by
  rcases cO.at_ x c e with⟨e,_⟩ | ⟨e,_⟩
  .let v q:=I.cell x c e;exact absurd (dI q.lt (z^^vF)) (mI _)
  .exact absurd e (z^^awN.mpr ar3)
 have Y7:∀p∈X.pn++ab,p.1≠D:=λp hp z=>absurd (dI (cW (I.pin p hp).1) (z^^vF)) (mI _)
 -- ahg list under way is pinned
 have PK:∀{ps:oH (zI×Obj)} {dg:St} {H':Hp} {s':zM} {ag:oH zL} {n:Nat},Inv (je X N scope abn C s H fp ab) ps dg H' s'->H' D=oM->s'.heap.get? D=oF { cls:= .type "list",data:= .seq ag.toArray n }->
   Inv (je X N scope abn C s H fp ab) [(D, { cls:= .type "list",data:= .seq ag.toArray n })] dg H' s':=λ{ps dg H' s' ag n} Jx hn ho=>Jx.CB λp hp=>by
  obtain rfl:=ly.mp hp;exact#[ho,hn,Ay,Y5,λv z=>by lk]
 have vi:∀{H':Hp} {ob:Obj},(∀b∈fp,H' b=oM)->∀b∈fp,jT (je X N scope abn C s H fp ab) [(D,ob)] H' b:=λ{H' ob} hn b hb=>by
  obtain⟨_,f1,f2,f3,f4,f5⟩:=f b hb;refine#[hn b hb,(below b (kl b hb)).1,u9 b f2 f1, .inl hb,λx c e=>(cO.at_ x c e).elim (λz=>f4 x c z.1) (λz=>apN (dI (kl b hb) (eK ar3 (nO z.1)))),λp hp=> ?_];rcases lZ.mp hp with z | z
  .exact f5 p z
  .obtain rfl:=ly.mp z;exact yd (below b (kl b hb)).2
 have loop:∀pG:zM,pG= { s with heap:=Aw }->
   qQ (model X.prog X.w) X.A (.compLoop (.ListComp elt [#[tg,iter,ifs,0]] scope pos) 0 (.ref it) (.ref D) (compEnvC scope abn C X.env)) (RR (.ref D) C) pG:=by
  rintro pG rfl;refine YL (λk s'=>∃(i:Nat) (dg:St) (ys:oH V) (H':Hp) (ag:oH zL) (n:Nat),Inv (je X N scope abn C s H fp ab) [(D, { cls:= .type "list",data:= .seq ag.toArray n })] dg H' s'/\bj ys ag/\-ys<=aM/\tn i s'.heap/\(∀b∈fp,H' b=oM)/\W i k dg ys H') ?_ m0
   #[0,jv js σ, [],H, [],0,PK J0 (I.aQ.fresh vF) iY, .nil,jO _,T.keep _ _ _ st λb _ o e=>old b o e,λb hb=>(f b hb).1,w0]
  rintro k s' ⟨i,dg,ys,H',ag,n,J',hv,hz,st',PL,w'⟩;rcases turn i k dg ys H' w' with⟨stop,q⟩ | ⟨go,NN,hN,step⟩
  .refine ja (T.done (je X N scope abn C s H fp ab) rfl rfl rfl hc i _ s' dg H' (λ_ _=>False) J' (vi PL) st' stop) (λr s4 #[hr,J4]=> ?_) λ_ _ z=>z.elim;subst hr;let K1 K2 K3 K4:=I.YZ (λb hb=>#[f b hb,Dp^^kl b hb]) PJ vF Ay J4 hv hz;exact Y3 D C s4 ys H' K1 K2 K4 (q D K3)
  .refine ja (T.item (je X N scope abn C s H fp ab) rfl rfl rfl hc i _ s' dg H' (λ_ _=>False) J' (vi PL) st' go) (λr s4 #[u,hr,h4]=> ?_) λ_ _ z=>z.elim;subst hr;refine ja h4 (λ_ s5 #[x,H5,J5,r5,y5,rf,atF]=> ?_) λ_ _ z=>z.elim;have Y8:=J5.pinned (vi atF) (T.obj _ _ rf);have PM:∀{md:St} {H7:Hp} {s7:zM},Inv (je X N scope abn C s H fp ab) ([(D, { cls:= .type "list",data:= .seq ag.toArray n })]++Ad fp s5.heap) md H7 s7->tn (i + 1) s7.heap/\∀b∈fp,H7 b=oM:=λ{md H7 s7} J7=>
    #[T.keep _ _ _ rf λb hb o e=>(J7.pin (b,o) (kg _ (kg _ (CM hb e)))).1,λb hb=>by
     let o e d:=T.obj _ _ rf b hb;exact(J7.pin (b,o) (kg _ (kg _ (CM hb e)))).2.1]
   refine ja (hg abn C s H fp ab _ s5 dg H5 x u _ Y8 r5 (step x H5 y5)) (λ_ s6 #[aoe,H6,J6,q6]=> ?_) λ_ _ z=>(show False from z).elim;refine ja (ht abn C s H fp ab _ s6 aoe H6 _ J6 q6) (λok s7 #[H7,J7,q7]=> ?_) λ_ _ z=>(show False from z).elim;cases ok with
   |false=>
    have Y9:NN aoe ys H7:=q7;let G9 m' hm w7:=hN aoe ys H7 Y9;let t7 f7:=PM J7;exact#[m',hm,i + 1,aoe,ys,H7,ag,n,J7.CN,hv,hz,t7,f7,w7]
   |true=>
    refine ja (he abn C s H fp ab _ s7 aoe H7 _ J7 q7) (λy s8 #[v,H8,J8,r8,q8]=> ?_) λ_ _ z=>(show False from z).elim;let G9 m' hm w8:=hN aoe (ys++ [v]) H8 q8;let t8 f8:=PM J8;have pD:=J8.pin (D,_) (kg _ (qR _ (ly.mpr rfl)));have Za:ag.toArray.size<=aM:=by rw[fM, <- hv.length];lk
    refine wpAny_list_append_plain (hsz:=Za) (items:=ag.toArray) #[n,pD.1] λh9 Zb PN=>?_;let n9 Zc:=Zb;have Zd:h9.get? D=oF { cls:= .type "list",data:= .seq (ag++ [y]).toArray n9 }:=by rw[Zc];simp
    have Ze:Inv (je X N scope abn C s H fp ab) [] aoe H8 s8:=J8.CB λp hp=>(nomatch hp)
    have J9:Inv (je X N scope abn C s H fp ab) [] aoe H8 { s8 with heap:=h9 }:=Ze.turned (t':=s8.toks) (it:=D) (λb o hb e=>(PN.2 b hb).trans e) pD.2.1 Ay (.inr vF) Y6 λp hp=>Y7 p (by
     have:p∈(X.pn++ab)++ []:=hp;rwa [nM]at this)
    refine#[m',hm,i + 1,aoe,ys++ [v],H8,ag++ [y],n9,PK J9 pD.2.1 Zd,hv.append (.cons r8 .nil),G9,T.keep _ _ _ t8 λb hb o e=>(PN.2 b (below b (kl b hb)).2).trans e,f8,w8]
 exact codeAny_compStart_list (loop _ rfl) (T.self X.A 0 _ _ _ (T.keep _ _ _ st λb _ o e=>old b o e) (loop _ rfl))
def xH(wi:TI)(g:TG)(tt:TT)(te:TE)(js:oH (oT Nat)):TE:=λσ H Q=>wi σ H λJ H1=>∃W:Nat->Nat->St->oH V->Hp->Prop,(∃m,W 0 m (jv js σ) [] H1)/\PF J g tt te W Q
theorem ahh(js:oH (oT Nat))(N:oH Str)(hc:X.calm=oP)(vD:Di X N scope js)(hi:PI X tg iter wi)(hg:∀cl C s H ex ab,PG (je X N scope cl C s H ex ab) tg g)(ht:∀cl C s H ex ab,Dk (je X N scope cl C s H ex ab) ifs tt)
  (he:∀cl C s H ex ab,PE (je X N scope cl C s H ex ab) elt te)
  (tG:autoParam (scope.kind= .function) q_3._auto_1) (sV:∀y∈scope.names,y.2= .cell->scope.names.lookup y.1\.cell:=by decide +kernel) (Zf:∀y∈scope.names,y.2= .local->scope.names.lookup y.1\.local:=by decide +kernel)
  (hs:autoParam (∀x,aBq iter X.env x=pure x) q_2._auto_1):PE X (.ListComp elt [#[tg,iter,ifs,0]] scope pos) (xH wi g tt te js):=by
 intro ab s σ H Q I h;let cl Zg vE jV:=YK (scope:=scope) (env:=X.env) λy hy hf=>I.ok.has _ (vD.fr y hy hf);rw[eval_ListComp];refine aG9 (use:=oM) rfl hs Zg tG Zf (bh (hi ab s σ H _ I h) λv s1 h1=>bh h1 λGg s2 h2=> ?_);obtain⟨it,fp,tn,J,H2,rfl,I2,T,dJ,f2,W,⟨m0,w0⟩,turn⟩:=h2;refine Y2 (RR:=λll C=>compPost (model X.prog X.w) X.A X.xe oM (EP X ab σ Q) ll C) hc hg ht he tG sV vE jV vD I2 T dJ f2 w0 turn λD C s' ys H' K1 K2 K3 q=>?_;let m hm:=K3;refine#[m,hm,λh' sb=>#[.ref D,_,K1.turned (t':=s'.toks) (λb o hb e=>(sb.2 b hb).trans e) K2.1 K2.2.1 K2.2.2.2.1 K2.2.2.2.2.1 K2.2.2.2.2.2,rfl,q]]
theorem aw8{py aw9:Pos}(js:oH (oT Nat))(N:oH Str)(hc:X.calm=oP)(vD:Di X N scope js)(hN:X.N.Nodup)(hk:X.N[k]?\y)(hy:Loc X.env.scope y)(hi:PI X tg iter wi)(hg:∀cl C s H ex ab,PG (je X N scope cl C s H ex ab) tg g)(ht:∀cl C s H ex ab,Dk (je X N scope cl C s H ex ab) ifs tt)
  (he:∀cl C s H ex ab,PE (je X N scope cl C s H ex ab) elt te)
  (aBT:autoParam (wQ (.ListComp elt [#[tg,iter,ifs,0]] scope pos) (!.Name y py) aw9.line X.env=pure oP) q_3._auto_1)
  (tG:autoParam (scope.kind= .function) q_3._auto_1) (sV:∀y∈scope.names,y.2= .cell->scope.names.lookup y.1\.cell:=by decide +kernel) (Zf:∀y∈scope.names,y.2= .local->scope.names.lookup y.1\.local:=by decide +kernel)
  (hs:autoParam (∀x,aBq iter X.env x=pure x) q_2._auto_1) (hf:X.fn y=oP\/X.env.scope.names.lookup y\.local:=by first | exact .inl rfl | exact .inr rfl | lk):
  PS X (.Assign [.Name y py] (.ListComp elt [#[tg,iter,ifs,0]] scope pos) aw9) (vh (xH wi g tt te js) (lB k)):=by
 intro ab s σ H D I h;let cl Zg vE jV:=YK (scope:=scope) (env:=X.env) λy hy hf=>I.ok.has _ (vD.fr y hy hf);rw[exec_Assign_Name_used _ _ _ _ aBT];refine az (U8 (az ?_));show wpAny _ X.A (do let _ <- comprehension (.ListComp elt [#[tg,iter,ifs,0]] scope pos) scope X.env _ (newList []) yv (eval iter X.env) (!assign (.Name y py) X.env)) _ _ s;refine az (ja (aG9 (use:=oF (assign (.Name y py) X.env)) (Q:=λ_ s'=>SP X ab D .next s') rfl hs Zg tG Zf
  (bh (hi ab s σ H _ I h) λv s1 h1=>bh h1 λGg s2 h2=> ?_)) (λ_ s' hq=>bF (bF hq)) λ_ _ e=>e)
 obtain⟨it,fp,tn,J,H2,rfl,I2,T,dJ,f2,W,⟨m0,w0⟩,turn⟩:=h2;refine Y2 (RR:=λll C=>compPost (model X.prog X.w) X.A X.xe (!assign (.Name y py) X.env) (λ_ s'=>SP X ab D .next s') ll C) hc hg ht he tG sV vE jV vD I2 T dJ f2 w0 turn λDd C s' ys H' K1 K2 K3 q=>?_;let m o es ep ho hd hr:=K3;have Kp:Inv X (ab++ [(C,o)]) σ (dm H' Dd (.lst ys)) s':=K1.CB λp hp=>by
  rcases lZ.mp hp with z | z
  .exact K1.pin p (kg _ z)
  .obtain rfl:=ly.mp z;exact#[ho,K2.1,K2.2.1,K2.2.2.1,λv z=>by rw[hd]at z;lk]
 show wpAny _ X.A (assign (.Name y py) X.env (.ref Dd)) _ _ _;refine wpAny_assign_Name (atB (v:= .ref Dd) Kp hN hk hy rfl (λs3 I3=> ?_) hf);have pC:=I3.pin (C,o) (kg _ (kg _ (ly.mpr rfl)));refine#[m,#[o,es,ep,pC.1,hd,hr],λh' sb=> ?_];have I4:Inv X ab (σ.set k (!.ref Dd)) (dm H' Dd (.lst ys)) s3:=I3.CN;exact#[_,_,I4.turned (t':=s3.toks) (it:=C) (λb o hb e=>(sb.2 b hb).trans e) K2.1 K2.2.1 K2.2.2.2.1 K2.2.2.2.2.1 K2.2.2.2.2.2,q]
end
mutual
inductive jW(K:ah)(H:Hp):V->PyData->Prop
 |aG:jW K H .aG .none
 |bl (b:Bool):jW K H (.bl b) (.bool b)
 |int (i:Int):jW K H (.int i) (.int i)
 |str (x:Str):jW K H (.str x) (.str x)
 |lst {a:zI} {xs:List V} {ds:List PyData}:gN K H a xs->vG K H xs ds->jW K H (.ref a) (.list ds)
 |tup {a:zI} {xs:List V} {ds:List PyData}:cE K H a xs->vG K H xs ds->jW K H (.ref a) (.tuple ds)
inductive vG(K:ah)(H:Hp):List V->List PyData->Prop
 |nil:vG K H [] []
 |cons {x:V} {xs:List V} {d:PyData} {ds:List PyData}:jW K H x d->vG K H xs ds->vG K H (x::xs) (d::ds)
end
section
mutual
theorem Inv.reads(I:Inv X ab σ H s):∀{v:V} {d:PyData} {u:zL},jW X.K H v d->RelV v u->∃as,Reads s.heap u d as
 |_,_,_, .aG,r=>by cases r;exact⟨_, .none⟩
 |_,_,_, .bl b,r=>by cases r;exact⟨_, .bool b⟩
 |_,_,_, .int i,r=>by obtain⟨t,rfl⟩:=r;exact⟨_, .int i t⟩
 |_,_,_, .str x,r=>by obtain⟨t,rfl⟩:=r;exact⟨_, .str x t⟩
 |_,_,_, .lst hs ha,r=>by
  cases r;obtain⟨ag,rv,⟨o,n,e,hc,_,hd⟩,_⟩:=I.list hs;obtain⟨as,q⟩:=I.readsAll ha rv;exact⟨_, .list e hc hd (by simpa using q)⟩
 |_,_,_, .tup hs ha,r=>by
  cases r;obtain⟨ag,rv,⟨o,e,hc,n,hd⟩,_⟩:=I.tuple hs;obtain⟨as,q⟩:=I.readsAll ha rv;exact⟨_, .tuple e hc hd (by simpa using q)⟩
theorem Inv.readsAll(I:Inv X ab σ H s):∀{vs:oH V} {ds:oH PyData} {us:oH zL},vG X.K H vs ds->bj vs us->∃as,ReadsAll s.heap us ds as
 |_,_,_, .nil,r=>by cases r;exact⟨_, .nil⟩
 |_,_,_, .cons h t,r=>by
  cases r with
  |cons r1 r2=>
   obtain⟨as,q⟩:=I.reads h r1;obtain⟨bs,q2⟩:=I.readsAll t r2;exact⟨_, .cons q q2⟩
end
end
section
theorem Zh(hu:X.A.units + 64 < cLine):cu X (compareOp .Eq) (λx y H Q=>∃dx dy,jW X.K H x dx/\jW X.K H y dy/\dx.canLay0=oP/\dy.canLay0=oP/\dx.depth<=60/\Q (.bl (q9 dx dy)) H):=by
 intro ab s σ H x y v u Q I rx ry h;let dx dy h1 h2 c1 c2 hd q:=h;let as r1:=I.reads h1 rx;let bs r2:=I.reads h2 ry;exact SeqAt.compareEq_reads r1 r2 c1 c2 b_ #[.bl _,H,I,rfl,q]
theorem Zi(hu:X.A.units + 64 < cLine):cu X (compareOp .NotEq) (λx y H Q=>∃dx dy,jW X.K H x dx/\jW X.K H y dy/\dx.canLay0=oP/\dy.canLay0=oP/\dx.depth<=60/\Q (.bl (not (q9 dx dy))) H):=by
 intro ab s σ H x y v u Q I rx ry h;let dx dy h1 h2 c1 c2 hd q:=h;let as r1:=I.reads h1 rx;let bs r2:=I.reads h2 ry;exact SeqAt.compareNe_reads r1 r2 c1 c2 b_ #[.bl _,H,I,rfl,q]
end
def Dq(x:Str):It:=#[λi _=>i < x.cps.size,λi H v H'=>H'=H/\∃c,x.cps[i]?\c/\v= .str #[(List.toArray [c])],λi _=>x.cps.size<=i]
theorem PQ{P:zR}{w:zQ}{K:ah}{tg:zO}{it:zI}{x:Str}{t:Tok}(rn: ["enumerate","zip","dict_itemiterator","dict_reverseitemiterator","odict_iterator","itertools.zip_longest","itertools.pairwise"].contains ty=yv)
  (W:∀A':zS,A'.handled=oM->Walks P w A' it [it] [it] x.cps.size (SignAt x) (λi h=>h.IsStrIter it ty x t i))
  (Zj:∀(A:zS) (i:Nat) (s:zM) (Q:zL->zM->Prop) (E:zL->zM->Prop),s.heap.IsStrIter it ty x t i->Q (.ref it) s->wpAny (model P w) A (pyIter (.ref it)) Q E s):Turn P w K tg (Dq x) [it] it (λi h=>i<=x.cps.size/\h.IsStrIter it ty x t i) where
 mem:=e_
 obj:=λi h st b hb=>by
  have e:b=it:=by simpa using hb
  subst e;obtain⟨_,o,e,c,d⟩:=st;exact#[o,e,λv z=>by rw[d]at z;lk]
 keep:=λi h h' st k=>by
  let hi o e r:=st;exact#[hi,o,k it e_ o e,r]
 item:=by
  intro X hP hw hK hc i ab s σ H E I hf st hg;subst hP hw hK;let f0 f1 f2 f3 f4 f5:=hf it e_;obtain⟨_,st⟩:=st;refine(W X.A (I.ok.hd hc)).item i s _ _ hg st λv h' tk hv st' kk=> ?_;let c u hx rfl:=hv;have I1:Inv X ab σ H { s with heap:=h',toks:=tk }:=I.turned (λb o hb e=>kk b o (by simpa using hb) e) f0 f1 f3 f4 f5;let o e Zk hd:=id st';exact#[_,rfl,Ab e Zk hd rn #[.str #[(List.toArray [c])],H,I1,#[u,rfl],#[rfl,c,hx,rfl],#[hg,st'],λb hb=>(hf b hb).1]]
 done:=by
  intro X hP hw hK hc i ab s σ H E I hf st hg;subst hP hw hK;let f0 f1 f2 f3 f4 f5:=hf it e_;let hi st:=st;have e:=Nat.le_antisymm hi hg;subst e;exact(W X.A (I.ok.hd hc)).done s _ _ st λh' tk kk=>#[rfl,I.turned (λb o hb e=>kk b o (by simpa using hb) e) f0 f1 f3 f4 f5]
 self:=λA i s Q E st h=>Zj A i s Q E st.2 h
section
theorem Zl(hc:X.calm=oP):fT X (.builtin "all") (λxs H Q=>∃(a:zI) (bs:oH Bool),xs= [.ref a]/\gN X.K H a (bs.map V.bl)/\Q (.bl (bs.all id)) H):=by
 intro ab s σ H xs us Q I r h;let a bs rfl hs q:=h;let u rfl ru:=vals1 r;cases ru;let ag rv pl hz:=I.list hs;have hl:-ag=-bs:=by rw[<- rv.length,nI]
 refine call_all_walk ?_;refine Vk pl.isList ?_;have lt:a < s.heap.objs.size:=by let o n e _:=pl;exact cW e
 have at_:∀(i:Nat) (v:zL),ag.toArray[i]?\v->v=zj (bs.getD i oP):=λi v hv=>by
  have iV:ag[i]?\v:=by simpa using hv
  have hi:i < -bs:=by
   have:=(cX.mp iV).1
   lia
  have hx:(bs.map V.bl)[i]?\.bl (bs.getD i oP):=by
   rw[bJ,dH hi];simp[Cn,dH hi]
  let u hu ru:=rv.get hx;rw[iV]at hu;cases hu;lk
 refine#[s.heap.objs.size,_,_,_,_,_,λi=>bs.getD i oP,rfl,atv (A:=X.A.in1) (show X.A.in1.handled=oM from I.ok.hd hc) _ a (dR lt) ag.toArray,#[#[_,gc _ rfl,rfl,rfl],pl.isList.at λo e=>cB _ e],λi v s' Q' E' hv hQ=> ?_,λh' tk hk=> ?_]
 .rw[at_ i v hv];exact uK hQ
 .have e:((kf ag.toArray.size).all λi=>bs.getD i oP)=bs.all id:=by
   rw[fM,hl];rw[VZ,gA,gA]
   constructor
   .intro h b hb;let i hi e:=List.mem_iff_getElem.mp hb;have:=h i (sH.mpr hi);rw[Cn,dH hi]at this;rw[<- e];lk
   .intro h i hi;have vH:=sH.mp hi;rw[Cn,dH vH];exact h _ (Co vH)
  rw[e];refine#[.bl _,H,I.kept (t':=tk) λb o eo=>hk b o ?_ (cB _ eo),rfl,q];intro z;rw[ly.mp z]at eo;exact absurd (cW eo) (mI _)
theorem Zn:mQ X (λx lo hi H Q=>∃z,x= .str z/\z.length<=aM/\Q (.str (xj z lo hi)) H):=by
 intro ab s σ H x v vl vu lo hi sl Q I rx hs pl pu h;let z rfl hz q:=h;let t rfl:=rx;refine#["str",_,F.slot_str_getitem.lookup,typeIs_str _ _ _, ?_];have mm:∀t' k,EP X ab σ Q (.str (xj z lo hi) t') { s with toks:=k }:=λt' k=>#[.str _,H,I.tok k,#[t',rfl],q]
 let o ho hc hd:=hs;cases pl with
 |none=>
  cases pu with
  |none=>exact Nr (l:=oM) (u:=oM) (st:=oM) #[o,ho,hc,hd] rfl (Nt #[eK (NP z _ _) hz,mm])
  |int j tj=>exact Nr (l:=oM) (u:=oF (j,tj)) (st:=oM) #[o,ho,hc,hd] rfl (Nt #[eK (NP z _ _) hz,mm])
 |int i ti=>
  cases pu with
  |none=>exact Nr (l:=oF (i,ti)) (u:=oM) (st:=oM) #[o,ho,hc,hd] rfl (Nt #[eK (NP z _ _) hz,mm])
  |int j tj=>exact Nr (l:=oF (i,ti)) (u:=oF (j,tj)) (st:=oM) #[o,ho,hc,hd] rfl (Nt #[eK (NP z _ _) hz,mm])
end
open PySem.W
section
variable {prog:zR}{w:zQ}{A:zS}{E:zL->zM->Prop}{s:zM}
end
section
variable {prog:zR}{w:zQ}{A:zS}{E:zL->zM->Prop}{s:zM}{κ:Type}[DecidableEq κ]{knd:aie prog w κ}
end
theorem Du:∀{xs:oH V} {us:oH zL},us.length=-xs->(∀(j:Nat) (x:V) (u:zL),xs[j]?\x->us[j]?\u->RelV x u)->bj xs us
 | [], [],_,_=> .nil
 | [],_::_,h,_=>by simp at h
 |_::_, [],h,_=>by simp at h
 |x::xs,u::us,h,r=> .cons (r 0 x u rfl rfl) (Du (by simpa using h) λj y v e1 e2=>r (j + 1) y v (by simpa using e1) (by simpa using e2))
section
variable {X:Cx}{ab:oH (zI×Obj)}{σ:St}{H:Hp}{s:zM}
end
theorem xM{α β:Type}{R:α->β->Prop}:∀{xs:oH α} {ys:oH β} {j:Nat} {x:α} {y:β},Paired R xs ys->xs[j]?\x->ys[j]?\y->R x y
 |_,_,_,_,_, .nil,e,_=>by simp at e
 |_,_,0,_,_, .cons r _,e,f=>by simp at e f;subst e;subst f;lk
 |_,_,j + 1,_,_, .cons _ t,e,f=>xM t (by simpa using e) (by simpa using f)
section
variable {prog:zR}{w:zQ}{A:zS}{E:zL->zM->Prop}{s:zM}{z TI TO i1 i2 l1 l2:zI}{xs ys:Array zL}{R1 R2:Nat->zN->Prop}
end
section
end
theorem fE(h:H p=oM)(o:HO):aJ H (dm H p o):=λb u q=>ba (gM q h)^^q
structure dt(P:zR)(w:zQ)(K:ah)(mg:Str->Option zL)(base:zN)(x:Str)(ps:List Str)(k:Nat)(sp:Sp):Prop where
 ex:∃(f:zI) (fd:kK),bZ P w K mg base cG k f fd ps sp/\Binds K fd ps []/\uO K (.ref f)=oP/\mg x=oF (.ref f)
theorem dt.of{P:zR}{w:zQ}{K:ah}{mg:Str->oT zL}{base:zN}{x:Str}{ps:oH Str}{k:Nat}{sp:Sp}{f:zI}{fd:kK}{q:Str}{st:zP}(F:cY K x q st f fd)(b:Binds K fd ps [])(m:mg x\.ref f)
  (o:bZ P w K mg base cG k f fd ps sp):dt P w K mg base x ps k sp:=#[f,fd,o,b,F.kp,m]
theorem bC{p pos:Pos}{e:zO}{es:oH zO}{t:TA}(C:dt X.prog X.w X.K X.mg X.base x ps k sp)(hr:gf j X.A)(hg:Gl X x)
  (ha:PA X (e::es) t) (hj:k<=j:=by decide) (akK:(x == ("__debug__":Str))=yv:=by decide) (he:ix (e::es) X.env=(yv,eval e X.env)::ix es X.env:=by rfl) (dM:(backTo pos (ix es X.env)).any (·.1)=yv:=by rfl):
  PE X (.Call (.Name x p) (e::es) [] pos) (og sp [] E0 t):=by
 let f fd o b kp m:=C.ex;exact Xw o (hr.mono hj) hg m kp b .nil GW ha akK he dM
end L2
namespace VL
open PySem L2
inductive Kd where
 |tup | dk | lst | aO (ks:List bc) | lM (ks:List (List bc)) | obj (C:zI) (ns:List Str) | tE (b:zI) (ws:List V)
 deriving DecidableEq
inductive D where
 |sc (v:V)
 |nd (k:Kd) (cs:List D)
  |hl (v:V)
noncomputable def cg:Kd->Bool
 |.tup=>oP
 |.dk=>oP
 |.tE _ _=>oP
 |_=>yv
mutual
noncomputable def plain:D->Bool
 |.sc _=>oP
 |.nd .tup cs=>bI cs
 |.nd .dk cs=>bI cs
 |.nd (.tE _ _) cs=>bI cs
 |.nd _ _=>yv
 |.hl _=>yv
noncomputable def bI:oH D->Bool
 | []=>oP
 |d::ds=>plain d && bI ds
end
theorem xV:∀{ds:oH D} {d:D},bI ds=oP->d∈ds->plain d=oP
 |_::ds,d,h,m=>by
  rw[bI,kM]at h;cases m with
  |head=>exact h.1
  |tail _ m=>exact xV h.2 m
theorem vM:∀{ds:oH D},(∀d∈ds,plain d=oP)->bI ds=oP
 | [],_=>rfl
 |d::ds,h=>by
  rw[bI,h d (.head _),vM λe he=>h e (.tail _ he)];rfl
theorem xW{ds:oH D}{i:Nat}{d:D}(h:bI ds=oP)(e:ds[i]?\d):plain d=oP:=xV h (jr e)
noncomputable def ho (k:Kd) (dx:zI) (vs:oH V):HO:=match k with
 |.tup=> .tup vs
 |.dk=> .lst vs
 |.tE _ _=> .lst vs
 |.lst=> .lst vs
 |.aO ks=> .dK (ks.zip vs)
 |.lM ks=> .dT (ks.zip vs)
 |.obj C ns=> .ins C dx (ns.zip vs)
def fits(K:ah)(k:Kd)(n:Nat):Prop:=match k with
 |.aO ks=>-ks=n
 |.lM ks=>-ks=n
 |.obj C ns=>-ns=n/\mN K C/\∀f∈ns,mf K C f
 |_=>True
def jA(K:ah)(H:Hp)(a:zI)(vs:oH V):Prop:=(∃o,H a\.b9 o (.lst vs))\/∃(o:Obj) (ag:Array zL) (n:Nat),K.lookup a\o/\o.cls= .type "list"/\o.dict=oM/\o.data= .seq ag n/\ag.size<=aM/\bj vs ag.toList
theorem jA.sq(h:jA K H a vs):gN K H a vs:=h.elim (λ#[o,e]=> .inl (.inr #[o,e])) .inr
def ao5(H:Hp)(a:zI)(vs:oH V)(b:zI)(ws:oH V):Prop:=a=b/\vs=ws/\∃o,H a\.b9 o (.lst vs)
def iT(K:ah)(H:Hp)(a:zI)(k:Kd)(vs:oH V):Prop:=fits K k (-vs)/\match k with
 |.tup=>H a\.tup vs
 |.dk=>jA K H a vs
 |.tE b ws=>ao5 H a vs b ws
 |.lst=>H a\.lst vs
 |.aO ks=>Rd H a (.dK (ks.zip vs))
 |.lM ks=>Rd H a (.dT (ks.zip vs))
 |.obj C ns=>∃dx,H a\.ins C dx (ns.zip vs)
def qt(K:ah)(H:Hp)(a:zI)(k:Kd)(vs:oH V):Prop:=cg k=yv/\fits K k (-vs)/\∃dx,H a\ho k dx vs
theorem qt.cell(h:qt K H a k vs):iT K H a k vs:=by
 let hk hf dx e:=h;refine#[hf, ?_];cases k with
 |tup=>lk
 |dk=>lk
 |tE=>lk
 |lst=>lk
 |aO ks=>exact .inl e
 |lM ks=>exact .inl e
 |obj C ns=>exact#[dx,e]
theorem qt.mu(h:qt K H a k vs):iB (H a):=by
 let hk hf dx e:=h;rw[e];cases k with
 |tup=>lk
 |dk=>lk
 |tE=>lk
 |lst=>trivial
 |aO ks=>trivial
 |lM ks=>trivial
 |obj C ns=>trivial
def gu(H H':Hp):Prop:=∀b o,¬ iB (!o)->H b\o->H' b\o
theorem gu.refl(H:Hp):gu H H:=λ_ _ _ h=>h
theorem gu.of(s:aJ H H'):gu H H':=λb o _ h=>s b o h
theorem ao5.gO(h:ao5 H a vs b ws)(s:gu H H'):ao5 H' a vs b ws:=#[h.1,h.2.1,h.2.2.imp λ_ e=>s _ _ (λz=>z) e]
theorem gu.axa(s:gu H H')(h:cE K H a xs):cE K H' a xs:=by
 rcases h with(h | ⟨o,h⟩) | h
 .exact .inl (.inl (s _ _ (λz=>z) h))
 .exact .inl (.inr #[o,s _ _ (λz=>z) h])
 .exact .inr h
theorem jA.gO(h:jA K H a vs)(s:gu H H'):jA K H' a vs:=h.elim (λ#[o,e]=> .inl #[o,s _ _ (λz=>z) e]) .inr
inductive Vw(K:ah)(H:Hp)(N:zI->Prop):V->D->Prop
 |sc (v:V):Vw K H N v (.sc v)
 |hl (v:V):Vw K H N v (.hl v)
 |nd {a:zI} {k:Kd} {vs:List V} {cs:List D}:(cg k=yv->N a)->iT K H a k vs->vs.length=cs.length->(∀(i:Nat) (v:V) (d:D),vs[i]?=oF v->cs[i]?=oF d->Vw K H N v d)->Vw K H N (.ref a) (.nd k cs)
def jB(K:ah)(H:Hp)(F:zI->Prop)(a:zI)(k:Kd)(vs:oH V)(cs:oH D):Prop:=match k with
 |.tup=>H a\.tup vs
 |.dk=>bI cs=oP/\jA K H a vs
 |.tE b ws=>ao5 H a vs b ws
 |k=>F a/\qt K H a k vs
inductive bg(K:ah)(H:Hp):(zI->Prop)->V->D->Prop
 |sc (F:zI->Prop) (v:V):bg K H F v (.sc v)
 |hl (F:zI->Prop) (v:V):bg K H F v (.hl v)
 |nd {F:zI->Prop} {a:zI} {k:Kd} {vs:List V} {cs:List D} (Fs:Nat->zI->Prop):jB K H F a k vs cs->vs.length=cs.length->(∀i j b,Fs i b->Fs j b->i=j)->(∀i b,Fs i b->F b/\(cg k=yv->b≠a))->
   (∀(i:Nat) (v:V) (d:D),vs[i]?=oF v->cs[i]?=oF d->bg K H (Fs i) v d)->bg K H F (.ref a) (.nd k cs)
section
variable {K:ah}{H H':Hp}{F F' N N':zI->Prop}
theorem jB.mono(h:jB K H F a k vs cs)(m:∀b,F b->F' b):jB K H F' a k vs cs:=by
 cases k with
 |tup=>lk
 |dk=>lk
 |tE=>lk
 |_=>exact#[m _ h.1,h.2]
theorem jB.frame(h:jB K H F a k vs cs)(f:∀b o,F b->H b\o->H' b\o)(s:gu H H'):jB K H' F a k vs cs:=by
 cases k with
 |tup=>exact s _ _ (λz=>z) h
 |dk=>exact#[h.1,h.2.gO s]
 |tE=>exact ao5.gO h s
 |_=>let h1 h2 h3 dx e:=h;exact#[h1,h2,h3,dx,f _ _ h1 e]
theorem jB.cell(h:jB K H F a k vs cs):iT K H a k vs:=by
 cases k with
 |tup=>exact#[trivial,h]
 |dk=>exact#[trivial,h.2]
 |tE=>exact#[trivial,h]
 |_=>exact h.2.cell
theorem jB.own(h:jB K H F a k vs cs)(hk:cg k=yv):F a/\qt K H a k vs:=by
 cases k with
 |tup=>lk
 |dk=>lk
 |tE=>lk
 |_=>lk
theorem jB.put(hk:cg k=yv)(h1:F a)(h2:qt K H a k vs):jB K H F a k vs cs:=by
 cases k with
 |tup=>lk
 |dk=>lk
 |tE=>lk
 |_=>exact#[h1,h2]
theorem bg.mono(h:bg K H F v d)(m:∀b,F b->F' b):bg K H F' v d:=by
 cases h with
 |sc=>exact .sc _ _
 |hl=>exact .hl _ _
 |nd Fs h1 h2 h3 h4 h5=>exact .nd Fs (h1.mono m) h2 h3 (λi b z=>#[m _ (h4 i b z).1,(h4 i b z).2]) h5
theorem bg.frame(h:bg K H F v d)(f:∀b o,F b->H b\o->H' b\o)(s:gu H H'):bg K H' F v d:=by
 induction h with
 |sc=>exact .sc _ _
 |hl=>exact .hl _ _
 |nd Fs h1 h2 h3 h4 _ ih=>exact .nd Fs (h1.frame f s) h2 h3 h4 λi v d hv hd=>ih i v d hv hd λb o z=>f b o (h4 i b z).1
theorem bg.same(h:bg K H F v d)(s:aJ H H'):bg K H' F v d:=h.frame (λb o _ e=>s b o e) (gu.of s)
theorem bg.view(h:bg K H F v d)(m:∀b,F b->N b):Vw K H N v d:=by
 induction h with
 |sc=>exact .sc _
 |hl=>exact .hl _
 |nd Fs h1 h2 h3 h4 _ ih=>exact .nd (λhk=>m _ (h1.own hk).1) h1.cell h2 λi v d hv hd=>ih i v d hv hd λb z=>m b (h4 i b z).1
theorem bg.vw(h:bg K H F v d):Vw K H (λ_=>True) v d:=h.view λ_ _=>trivial
theorem Vw.mono(h:Vw K H N v d)(m:∀b,N b->N' b):Vw K H N' v d:=by
 induction h with
 |sc=>exact .sc _
 |hl=>exact .hl _
 |nd h1 h2 h3 _ ih=>exact .nd (λk=>m _ (h1 k)) h2 h3 ih
theorem Vw.any(h:Vw K H N v d):Vw K H (λ_=>True) v d:=h.mono λ_ _=>trivial
theorem iT.frame(h:iT K H a k vs)(f:cg k=yv->∀o,H a\o->H' a\o)(s:gu H H'):iT K H' a k vs:=by
 let h1 h:=h;refine#[h1, ?_];cases k with
 |tup=>exact s _ _ (λz=>z) h
 |dk=>exact jA.gO h s
 |tE=>exact ao5.gO h s
 |lst=>exact f rfl _ h
 |aO ks=>
  have f:=f rfl;rcases h with h | ⟨o,h⟩
  .exact .inl (f _ h)
  .exact .inr #[o,f _ h]
 |lM ks=>
  have f:=f rfl;rcases h with h | ⟨o,h⟩
  .exact .inl (f _ h)
  .exact .inr #[o,f _ h]
 |obj C ns=>
  let dx h:=h;exact#[dx,f rfl _ h]
theorem Vw.frame(h:Vw K H N v d)(f:∀b o,N b->H b\o->H' b\o)(s:gu H H'):Vw K H' N v d:=by
 induction h with
 |sc=>exact .sc _
 |hl=>exact .hl _
 |nd h1 h2 h3 _ ih=>exact .nd h1 (h2.frame (λhk o e=>f _ o (h1 hk) e) s) h3 ih
theorem Vw.same(h:Vw K H N v d)(s:aJ H H'):Vw K H' N v d:=h.frame (λb o _ e=>s b o e) (gu.of s)
theorem Vw.plain{v:V}{d:D}(h:Vw K H N v d)(p:plain d=oP):bg K H (λ_=>False) v d:=by
 induction h with
 |sc=>exact .sc _ _
 |hl=>lk
 | @nd a k vs cs h1 h2 h3 _ ih=>
  cases k with
  |tup=>
   have p:bI cs=oP:=p;exact .nd (λ_ _=>False) h2.2 h3 (λ_ _ _ z=>z.elim) (λ_ _ z=>z.elim) λi v d hv hd=>ih i v d hv hd (xW p hd)
  |dk=>
   have p:bI cs=oP:=p;exact .nd (λ_ _=>False) #[p,h2.2] h3 (λ_ _ _ z=>z.elim) (λ_ _ z=>z.elim) λi v d hv hd=>ih i v d hv hd (xW p hd)
  |tE=>
   have p:bI cs=oP:=p;exact .nd (λ_ _=>False) h2.2 h3 (λ_ _ _ z=>z.elim) (λ_ _ z=>z.elim) λi v d hv hd=>ih i v d hv hd (xW p hd)
  |_=>simp[VL.plain]at p
end
def kids:HO->oH V
 |.lst xs=>xs
 |.tup xs=>xs
 |.dK cf=>cf.map (·.2)
 |.dT cf=>cf.map (·.2)
 |.ins _ _ fs=>fs.map (·.2)
 |.b9 _ u=>kids u
 |_=> []
theorem DG{α β:Type}:∀{l:oH α} {m:oH β},l.length=-m->(l.zip m).map (·.2)=m
 | [], [],_=>rfl
 |_::l,_::m,h=>by rw[nV,cP,DG (eF h)]
theorem AH{K:ah}(h:fits K k vs.length):kids (ho k dx vs)=vs:=by
 cases k with
 |tup=>rfl
 |dk=>rfl
 |tE=>rfl
 |lst=>rfl
 |aO ks=>exact DG h
 |lM ks=>exact DG h
 |obj C ns=>exact DG h.1
inductive gU(H:Hp):V->List Nat->V->Prop
 |nil (v:V):gU H v [] v
 |cons {a:zI} {o:HO} {n:Nat} {c u:V} {p:List Nat}:H a=oF o->(kids o)[n]?=oF c->gU H c p u->gU H (.ref a) (n::p) u
def aa:D->oH Nat->oT D
 |d, []=>oF d
 |.sc _,_::_=>oM
 |.hl _,_::_=>oM
 |.nd k cs,n::p=>if cg k=oP/\bI cs=oP then oM else match cs[n]? with
  |some c=>aa c p
  |none=>oM
noncomputable def aZ:D->oH Nat->D->D
 |_, [],e=>e
 |.sc v,_::_,_=> .sc v
 |.hl v,_::_,_=> .hl v
 |.nd k cs,n::p,e=> .nd k (match cs[n]? with
  |some c=>cs.set n (aZ c p e)
  |none=>cs)
section
variable {K:ah}{H H':Hp}{F F' N N':zI->Prop}
theorem jB.kids(h:jB K H F a k vs cs)(hp:¬ (cg k=oP/\bI cs=oP))(e:H a\o):kids o=vs:=by
 cases k with
 |tup=>have h:H a\.tup vs:=h;rw[e]at h;cases h;rfl
 |dk=>exact absurd #[rfl,h.1] hp
 |tE=>obtain⟨_,_,_,q⟩:=h;rw[e]at q;cases q;rfl
 |_=>obtain⟨_,_,hf,dx,q⟩:=h;rw[e]at q;cases q;exact AH hf
theorem bg.focus:∀{p:oH Nat} {F:zI->Prop} {v u:V} {d d1:D},bg K H F v d->gU H v p u->aa d p\d1->
  ∃F1:zI->Prop,(∀b,F1 b->F b)/\bg K H F1 u d1/\∀(H':Hp) (rM:zI->Prop) (tQ:D),(∀b o,¬ F1 b->F b->H b\o->H' b\o)->gu H H'->bg K H' rM u tQ->(∀b,rM b->F1 b\/¬ F b)->
   bg K H' (λb=>(F b/\¬ F1 b)\/rM b) v (aZ d p tQ)
 | [],F,v,u,d,d1,h,hp,g=>by
  cases hp;cases g;refine#[F,λ_ z=>z,h,λH' rM tQ _ _ h' _=> ?_];show bg K H' _ v (aZ d [] tQ);rw[aZ];exact h'.mono λb z=> .inr z
 |n::p,F,v,u,d,d1,h,hp,g=>by
  cases hp with
  | @cons a o n c u p e1 e2 hp=>
   cases h with
   |sc=>rw[aa]at g;lk
   |hl=>rw[aa]at g;lk
   | @nd _ _ k vs cs Fs h1 h2 h3 h4 h5=>
    rw[aa]at g;by_cases dM:cg k=oP/\bI cs=oP
    .rw[zJ dM]at g;lk
    rw[zK dM]at g;rw[h1.kids dM e1]at e2;have hn:n < -cs:=by rw[<- h2];exact(cX.mp e2).1
    have hc:cs[n]?\cs[n]:=dH hn;rw[hc]at g;let F1 m1 r1 put:=(h5 n c _ e2 hc).focus hp g;refine#[F1,λb z=>(h4 n b (m1 b z)).1,r1,λH' rM tQ fr st r' ap=> ?_];have key:=put H' rM tQ (λb o nb hb=>fr b o nb (h4 n b hb).1) st r' λb z=>(ap b z).elim .inl λq=> .inr λw=>q (h4 n b w).1;rw[aZ,hc];have Hz:cg k=yv->¬ F1 a:=λhk z=>(h4 n a (m1 a z)).2 hk rfl;refine .nd (λi b=>if i=n then(Fs n b/\¬ F1 b)\/rM b else Fs i b) ?_ (by show -vs=-(cs.set n _);rw[bN];lk) ?_ ?_ ?_
    .cases k with
     |tup=>exact st _ _ (λz=>z) h1
     |dk=>exact absurd #[rfl,h1.1] dM
     |tE=>exact ao5.gO h1 st
     |_=>let x1 x2 x3 dx x4:=h1;exact#[.inl #[x1,Hz x2],x2,x3,dx,fr _ _ (Hz x2) x1 x4]
    .intro i j b hi hj;by_cases ei:i=n
     .by_cases ej:j=n
      .rw[ei,ej]
      .rw[zJ ei]at hi;rw[zK ej]at hj;rcases hi with hi | hi
       .exact absurd (h3 j n b hj hi.1) ej
       .rcases ap b hi with z | z
        .exact absurd (h3 j n b hj (m1 b z)) ej
        .exact absurd (h4 j b hj).1 z
     .rw[zK ei]at hi;by_cases ej:j=n
      .rw[zJ ej]at hj;rcases hj with hj | hj
       .exact absurd (h3 i n b hi hj.1) ei
       .rcases ap b hj with z | z
        .exact absurd (h3 i n b hi (m1 b z)) ei
        .exact absurd (h4 i b hi).1 z
      .rw[zK ej]at hj;exact h3 i j b hi hj
    .intro i b hi;by_cases ei:i=n
     .rw[zJ ei]at hi;rcases hi with hi | hi
      .exact#[.inl #[(h4 n b hi.1).1,hi.2],(h4 n b hi.1).2]
      .refine#[.inr hi,λhk z=> ?_];subst z;rcases ap b hi with q | q
       .exact Hz hk q
       .exact q (h1.own hk).1
     .rw[zK ei]at hi;exact#[.inl #[(h4 i b hi).1,λz=>ei (h3 i n b hi (m1 b z))],(h4 i b hi).2]
    .intro i v2 d2 hv hd;by_cases ei:i=n
     .subst ei;rw[e2]at hv;cases hv;have hd:(cs.set i (aZ cs[i] p tQ))[i]?\d2:=hd;rw[gK hn]at hd;cases hd;show bg K H' (λb=>if i=i then(Fs i b/\¬ F1 b)\/rM b else Fs i b) c _;simp[zJ rfl];lk
     .have hd:(cs.set n (aZ cs[n] p tQ))[i]?\d2:=hd;rw[gq (yd ei)]at hd;show bg K H' (λb=>if i=n then(Fs n b/\¬ F1 b)\/rM b else Fs i b) v2 d2;simp[zK ei];exact(h5 i v2 d2 hv hd).frame (λb o hb=>fr b o (λz=>ei (h3 i n b hb (m1 b z))) (h4 i b hb).1) st
theorem iT.xo(h:iT K H a k vs)(hk:cg k=yv):∃o,H a\o:=by
 obtain⟨_,h⟩:=h;cases k with
 |tup=>lk
 |dk=>lk
 |tE=>lk
 |lst=>exact#[_,h]
 |aO ks=>rcases h with h | ⟨o,h⟩ <;> exact#[_,h]
 |lM ks=>rcases h with h | ⟨o,h⟩ <;> exact#[_,h]
 |obj C ns=>let dx h:=h;exact#[_,h]
theorem Vw.over(h:Vw K H N v d)(f:∀b o,N b->H b\o->H' b\o/\N' b)(s:gu H H'):Vw K H' N' v d:=by
 induction h with
 |sc=>exact .sc _
 |hl=>exact .hl _
 |nd h1 h2 h3 _ ih=>exact .nd (λk=>let #[o,e]:=h2.xo k;(f _ o (h1 k) e).2) (h2.frame (λhk o e=>(f _ o (h1 hk) e).1) s) h3 ih
theorem Vw.node(h:Vw K H N v (.nd k cs)):∃a vs,v= .ref a/\(cg k=yv->N a)/\iT K H a k vs/\-vs=-cs/\∀(i:Nat) (v:V) (d:D),vs[i]?\v->cs[i]?\d->Vw K H N v d:=by
 cases h with
 |nd h1 h2 h3 h4=>exact#[_,_,rfl,h1,h2,h3,h4]
theorem Vw.bA(h:Vw K H N v (.sc u)):v=u:=by
 cases h;rfl
theorem bg.bA(h:bg K H F v (.sc u)):v=u:=by
 cases h;rfl
theorem bg.hole(h:bg K H F v (.hl u)):v=u:=by
 cases h;rfl
theorem bg.node(h:bg K H F v (.nd k cs)):∃a vs,v= .ref a/\jB K H F a k vs cs/\-vs=-cs/\∃Fs:Nat->zI->Prop,(∀i j b,Fs i b->Fs j b->i=j)/\(∀i b,Fs i b->F b/\(cg k=yv->b≠a))/\
   (∀(i:Nat) (v:V) (d:D),vs[i]?\v->cs[i]?\d->bg K H (Fs i) v d):=by
 cases h with
 |nd Fs h1 h2 h3 h4 h5=>exact#[_,_,rfl,h1,h2,Fs,h3,h4,h5]
theorem bg.path:∀{p:oH Nat} {F:zI->Prop} {v:V} {d d1:D},bg K H F v d->aa d p\d1->∃u,gU H v p u
 | [],F,v,d,d1,h,g=>#[v, .nil v]
 |n::p,F,v, .sc _,d1,h,g=>by rw[aa]at g;lk
 |n::p,F,v, .hl _,d1,h,g=>by rw[aa]at g;lk
 |n::p,F,v, .nd k cs,d1,h,g=>by
  let a vs rfl h1 h2 Fs h3 h4 h5:=h.node;rw[aa]at g;by_cases dM:cg k=oP/\bI cs=oP
  .rw[zJ dM]at g;lk
  rw[zK dM]at g;cases hc:cs[n]? with
  |none=>rw[hc]at g;lk
  |some c=>
   rw[hc]at g;have hn:n < -vs:=by rw[h2];exact(cX.mp hc).1
   let u hu:=(h5 n _ c (dH hn) hc).path g;have ho:∃o,H a\o:=by
    cases k with
    |tup=>exact#[_,h1]
    |dk=>exact absurd #[rfl,h1.1] dM
    |tE=>exact#[_,h1.2.2.choose_spec]
    |_=>obtain⟨_,_,_,dx,e⟩:=h1;exact#[_,e]
   let o e:=ho;exact#[u, .cons e (h1.kids dM e^^dH hn) hu]
theorem gU.inj(h:gU H v p u)(h':gU H v p u'):u=u':=by
 induction h with
 |nil=>cases h';rfl
 |cons e1 e2 _ ih=>
  cases h' with
  |cons f1 f2 hp=>
   rw[e1]at f1;cases f1;rw[e2]at f2;cases f2;exact ih hp
theorem bg.HA:∀{p:oH Nat} {F:zI->Prop} {v u:V} {d d1:D},bg K H F v d->aa d p\d1->gU H v p u->(∀b o,F b->H b\o->H' b\o)->gu H H'->gU H' v p u
 | [],F,v,u,d,d1,h,g,hp,f,s=>by cases hp;exact .nil v
 |n::p,F,v,u, .sc _,d1,h,g,hp,f,s=>by rw[aa]at g;lk
 |n::p,F,v,u, .hl _,d1,h,g,hp,f,s=>by rw[aa]at g;lk
 |n::p,F,v,u, .nd k cs,d1,h,g,hp,f,s=>by
  let a vs rfl h1 h2 Fs h3 h4 h5:=h.node;rw[aa]at g;by_cases dM:cg k=oP/\bI cs=oP
  .rw[zJ dM]at g;lk
  rw[zK dM]at g;cases hc:cs[n]? with
  |none=>rw[hc]at g;lk
  |some c=>
   rw[hc]at g;cases hp with
   | @cons a o n c' u p e1 e2 hp=>
    rw[h1.kids dM e1]at e2;have Z0:H' a\o:=by
     cases k with
     |tup=>have h1:H a\.tup vs:=h1;rw[e1]at h1;cases h1;exact s _ _ (λz=>z) e1
     |dk=>exact absurd #[rfl,h1.1] dM
     |tE=>obtain⟨_,_,o',q⟩:=h1;rw[e1]at q;cases q;exact s _ _ (λz=>z) e1
     |_=>exact f _ _ h1.1 e1
    refine .cons Z0 (h1.kids dM e1^^e2) ?_;exact(h5 n c' c e2 hc).HA g hp (λb o z=>f b o (h4 n b z).1) s
theorem bg.sub(h:bg K H F v d)(g:aa d p\d1)(hp:gU H v p u)(m:∀b,F b->N b):Vw K H N u d1:=by
 let F1 m1 r1 _:=h.focus hp g;exact r1.view λb z=>m b (m1 b z)
end
inductive B where
 |own (d:D) | ro (d:D) | aB (r:Nat) (p:List Nat)
abbrev j_(d:D):Option B:=some (.own d)
abbrev k_(d:D):Option B:=some (.ro d)
noncomputable abbrev En:=oH (oT B)
def ox(K:ah)(H:Hp)(U F:zI->Prop)(m:Nat)(e:oH (oT V))(v:V):B->Prop
 |.own d=>bg K H F v d
 |.ro d=>Vw K H (λb=>¬ U b) v d
 |.aB r p=>r < m/\∃vr,e[r]?\!vr/\gU H vr p v
structure bT(K:ah)(H:Hp)(U:zI->Prop)(m:Nat)(e:List (Option V))(ρ:En):Prop where
 len:e.length=ρ.length
 mu:∀b,U b->iB (H b)
 ex:∃Fs:Nat->zI->Prop,(∀i j b,Fs i b->Fs j b->i=j)/\(∀i b,Fs i b->U b)/\∀(i:Nat) (β:B),ρ[i]?=oF (oF β)->∃v,e[i]?=oF (oF v)/\ox K H U (Fs i) m e v β
def bH(U:zI->Prop)(H:Hp)(U':zI->Prop)(H':Hp):Prop:=∀b o,H b\o->¬ U b->H' b\o/\¬ U' b
theorem bH.refl(U:zI->Prop)(H:Hp):bH U H U H:=λ_ _ h n=>#[h,n]
theorem bH.trans{H H1 H2:Hp}(a:bH U H U1 H1)(b:bH U1 H1 U2 H2):bH U H U2 H2:=λc o h n=>b c o (a c o h n).1 (a c o h n).2
theorem bH.gO{H H':Hp}(s:bH U H U' H')(mu:∀b,U b->iB (H b)):gu H H':=λb o m e=>(s b o e λu=>m (by have:=mu b u;rw[e]at this;lk)).1
theorem rN(h:iB o):∃x,o\x:=by
 cases o with
 |none=>exact h.elim
 |some x=>exact#[x,rfl]
noncomputable def aV (ρ:En) (r:Nat):oT D:=match ρ[r]? with
 |some (!.own d)=>oF d
 |_=>oM
def fO(ρ:En):oT B->oT B
 |some (.aB r p)=>if p= []\/((aV ρ r).bind (aa · p)).isSome=oP then oF (.aB r p) else oM
 |b=>b
def eT(ρ:En):En:=ρ.map (fO ρ)
def Qf(τ:En):Prop:=∀b∈τ,b=oM\/∃d,b\B.own d
def AI(τ:En):Prop:=∀b∈τ,∀r p,b≠oF (B.aB r p)
theorem iE(ρ:En):-(eT ρ)=-ρ:=by rw[eT];rw[nI]
section
variable {K:ah}{H H':Hp}{U U':zI->Prop}{m:Nat}{e t t':oH (oT V)}{ρ τ xX:En}
theorem slot_of(hl:-e=-ρ)(h:(ρ++τ)[i]?\!β):(i < -e/\ρ[i]?\!β)\/(-e<=i/\τ[i - -e]?\!β):=by
 by_cases hi:i < -ρ
 .rw[aU hi]at h;exact .inl #[by lia,h]
 .rw[br b_]at h;exact .inr #[by lia,hl^^h]
theorem L3(h:aV ρ r\d):ρ[r]?\!.own d:=by
 rw[aV]at h
 split at h
 .next q=>cases h;lk
 .lk
theorem Z1{i:Nat}{β:B}(h:(eT ρ)[i]?\!β):ρ[i]?\!β/\fO ρ (!β)\β:=by
 rw[eT]at h;rw[bJ]at h;cases q:ρ[i]? with
 |none=>rw[q]at h;lk
 |some o=>
  rw[q]at h;have h:fO ρ o\β:=IM h;cases o with
  |none=>lk
  |some c=>
   cases c with
   |own d=>have h:oF (B.own d)\β:=h;cases h;exact#[rfl,rfl]
   |ro d=>have h:oF (B.ro d)\β:=h;cases h;exact#[rfl,rfl]
   |aB r p=>
    have h':(if p= []\/((aV ρ r).bind (aa · p)).isSome=oP then oF (B.aB r p) else oM)\β:=h;by_cases c:p= []\/((aV ρ r).bind (aa · p)).isSome=oP
    .rw[zJ c]at h';cases h';exact#[rfl,h]
    .rw[zK c]at h';lk
theorem bT.call(h:bT K H U m (e++t) (ρ++τ))(hl:-e=-ρ)(hm:m<=-e)(xY:AI τ):
  ∃Ut:zI->Prop,(∀b,Ut b->U b)/\bT K H Ut 0 t τ/\(∀(i:Nat) (v:V) (d:D),e[i]?\!v->(ρ[i]?\!.own d->∃F:zI->Prop,bg K H F v d/\∀b,F b->¬ Ut b)/\(ρ[i]?\!.ro d->Vw K H (λb=>¬ Ut b) v d))/\
   ∀(H':Hp) (AJ:zI->Prop) (t':oH (oT V)) (xX:En),bT K H' AJ 0 t' xX->bH Ut H AJ H'->Qf xX->∃U':zI->Prop,bT K H' U' m (e++t') (eT ρ++xX)/\bH U H U' H':=by
 let dw mu Fs dj sub sl:=h;have hle:-(e++t)=-(ρ++τ):=dw;rw[eO,eO]at hle;refine#[λb=>∃i,e.length<=i/\Fs i b,λb #[i,_,z]=>sub i b z,#[by lia,λb #[i,_,z]=>mu b (sub i b z),λi=>Fs (-e + i),λi j b hi hj=>by have:=dj _ _ b hi hj;lia,λi b hb=>#[_,by lia,hb],λi β aw=> ?_], ?_, ?_]
 .have AK:(ρ++τ)[e.length + i]?\!β:=by
   rw[hl,br b_,show -ρ + i - -ρ=i by lia];lk
  let v ev sv:=sl _ _ AK;rw[br b_,show -e + i - -e=i by lia]at ev;refine#[v,ev, ?_];cases β with
  |own d=>lk
  |ro d=>exact Vw.mono sv λb nb #[j,_,z]=>nb (sub j b z)
  |aB r p=>exact absurd rfl (xY _ (jr aw) r p)
 .intro i v d ev;have hi:i < -e:=by
   rcases NV i (-e) with z | z
   .lk
   .rw[aHa.mpr z]at ev;lk
  have ap:∀β,ρ[i]?\!β->(ρ++τ)[i]?\!β:=λβ q=>aU b_^^q
  have ij:(e++t)[i]?\!v:=aU hi^^ev
  refine#[λhb=> ?_,λhb=> ?_]
  .let v' dE sv:=sl i _ (ap _ hb);rw[ij]at dE;cases dE;exact#[Fs i,sv,λb hb #[j,hj,z]=>by have:=dj i j b hb z;lia]
  .let v' dE sv:=sl i _ (ap _ hb);rw[ij]at dE;cases dE;exact Vw.mono sv λb nb #[j,_,z]=>nb (sub j b z)
 .intro H' AJ t' xX h' st Qg;let ai5 Z2 Gs Z3 HB F0:=h';have nU:∀i b,i < -e->Fs i b->¬ ∃j,e.length<=j/\Fs j b:=λi b hi hb #[j,hj,z]=>by have:=dj i j b hb z;lia
  have gO:gu H H':=st.gO λb #[i,_,z]=>mu b (sub i b z);have keep:∀i,i < -e->∀b o,Fs i b->H b\o->H' b\o:=λi hi b o hb q=>(st b o q (nU i b hi hb)).1;have Qh:∀i,i < -e->∀b,Fs i b->¬ AJ b:=λi hi b hb=>by
   let o q:=rN (mu b (sub i b hb));exact(st b o q (nU i b hi hb)).2
  have lp:-(eT ρ)=-ρ:=iE ρ;refine#[λb=>(∃i,i < -e/\Fs i b)\/AJ b,#[by rw[eO,eO,lp];lia,λb hb=> ?_,λi=>if i < -e then Fs i else Gs (i - -e),λi j b hi hj=> ?_,λi b hb=> ?_,λi β aw=> ?_],λb o q nb=> ?_]
  .rcases hb with⟨i,hi,z⟩ | z
   .let o q:=rN (mu b (sub i b z));have:=mu b (sub i b z);rw[q]at this;rw[keep i hi b o z q];lk
   .exact Z2 b z
  .have hi:(if i < -e then Fs i else Gs (i - -e)) b:=hi;have hj:(if j < -e then Fs j else Gs (j - -e)) b:=hj;by_cases ei:i < -e
   .rw[zJ ei]at hi;by_cases ej:j < -e
    .rw[zJ ej]at hj;exact dj i j b hi hj
    .rw[zK ej]at hj;exact absurd (HB _ b hj) (Qh i ei b hi)
   .rw[zK ei]at hi;by_cases ej:j < -e
    .rw[zJ ej]at hj;exact absurd (HB _ b hi) (Qh j ej b hj)
    .rw[zK ej]at hj;have:=Z3 _ _ b hi hj;lia
  .have hb:(if i < -e then Fs i else Gs (i - -e)) b:=hb;by_cases ei:i < -e
   .rw[zJ ei]at hb;exact .inl #[i,ei,hb]
   .rw[zK ei]at hb;exact .inr (HB _ b hb)
  .rcases slot_of (τ:=xX) (lp^^hl) aw with⟨hi,q⟩ | ⟨hi,q⟩
   .let q1 q2:=Z1 q;let v ev sv:=sl i β (aU b_^^q1);rw[aU hi]at ev;refine#[v,aU hi^^ev, ?_];simp[zJ hi];cases β with
    |own d=>exact bg.frame sv (keep i hi) gO
    |ro d=>
     exact Vw.over sv (λb o nb q=>by
      have nt:¬ ∃j,e.length<=j/\Fs j b:=λ#[j,_,z]=>nb (sub j b z);exact#[(st b o q nt).1,λz=>z.elim (λ#[j,_,z]=>nb (sub j b z)) (st b o q nt).2]) gO
    |aB r p=>
     let hr vr er hp:=sv;rw[aU b_]at er;refine#[hr,vr,aU b_^^er, ?_];have q2:(if p= []\/((aV ρ r).bind (aa · p)).isSome=oP then oF (B.aB r p) else oM)\B.aB r p:=q2;by_cases c:p= []\/((aV ρ r).bind (aa · p)).isSome=oP
     .rcases c with c | c
      .subst c;cases hp;exact .nil _
      .cases hd:aV ρ r with
       |none=>rw[hd]at c;lk
       |some d=>
        rw[hd]at c;have tS:=L3 hd;let v2 dE dZ:=sl r _ (aU b_^^tS);rw[aU b_,er]at dE;cases dE;let d1 g:=VD.mp c;have dZ:bg K H (Fs r) vr d:=dZ;exact dZ.HA (d1:=d1) g hp (keep r b_) gO
     .rw[zK c]at q2;lk
   .let v ev sv:=F0 _ β q;refine#[v,br hi^^ev, ?_];have Z4:¬ i < -e:=b_
    simp[zK Z4];cases β with
    |own d=>lk
    |ro d=>rcases Qg _ (jr q) with z | ⟨_,z⟩ <;> cases z
    |aB r p=>rcases Qg _ (jr q) with z | ⟨_,z⟩ <;> cases z
  .have nt:¬ ∃j,e.length<=j/\Fs j b:=λ#[j,_,z]=>nb (sub j b z);exact#[(st b o q nt).1,λz=>z.elim (λ#[j,_,z]=>nb (sub j b z)) (st b o q nt).2]
theorem xZ{cs:oH D}{n:Nat}{x:D}(hn:n < -cs)(hx:plain x=yv):bI (cs.set n x)=yv:=by
 cases q:bI (cs.set n x) with
 |false=>rfl
 |true=>
  have:=xW q (gK hn);rw[hx]at this;lk
theorem ya:∀{p:oH Nat} {d d1 x:D},aa d p\d1->plain x=yv->plain (aZ d p x)=yv
 | [],d,d1,x,g,hx=>aZ^^hx
 |n::p, .sc _,d1,x,g,hx=>by rw[aa]at g;lk
 |n::p, .hl _,d1,x,g,hx=>by rw[aa]at g;lk
 |n::p, .nd k cs,d1,x,g,hx=>by
  rw[aa]at g;by_cases dM:cg k=oP/\bI cs=oP
  .rw[zJ dM]at g;lk
  rw[zK dM]at g;cases hc:cs[n]? with
  |none=>rw[hc]at g;lk
  |some c=>
   rw[hc]at g;rw[aZ,hc];cases k with
   |tup=>exact xZ (cX.mp hc).1 (ya g hx)
   |dk=>exact xZ (cX.mp hc).1 (ya g hx)
   |tE=>exact xZ (cX.mp hc).1 (ya g hx)
   |_=>rfl
theorem HC:∀{p:oH Nat} {d d1 x:D},aa d p\d1->plain x=yv->aa (aZ d p x) p\x
 | [],d,d1,x,g,hx=>by rw[aZ,aa]
 |n::p, .sc _,d1,x,g,hx=>by rw[aa]at g;lk
 |n::p, .hl _,d1,x,g,hx=>by rw[aa]at g;lk
 |n::p, .nd k cs,d1,x,g,hx=>by
  rw[aa]at g;by_cases dM:cg k=oP/\bI cs=oP
  .rw[zJ dM]at g;lk
  rw[zK dM]at g;cases hc:cs[n]? with
  |none=>rw[hc]at g;lk
  |some c=>
   rw[hc]at g;have hn:=(cX.mp hc).1;rw[aZ,hc];show aa (.nd k (cs.set n (aZ c p x))) (n::p)\x;rw[aa,zK,gK hn]
   .exact HC g hx
   .rintro⟨_,q⟩;rw[xZ hn (ya g hx)]at q;lk
theorem HD:∀{p:oH Nat} {d d1 x y:D},aa d p\d1->aZ (aZ d p x) p y=aZ d p y
 | [],d,d1,x,y,g=>by simp[aZ]
 |n::p, .sc _,d1,x,y,g=>by rw[aa]at g;lk
 |n::p, .hl _,d1,x,y,g=>by rw[aa]at g;lk
 |n::p, .nd k cs,d1,x,y,g=>by
  rw[aa]at g;by_cases dM:cg k=oP/\bI cs=oP
  .rw[zJ dM]at g;lk
  rw[zK dM]at g;cases hc:cs[n]? with
  |none=>rw[hc]at g;lk
  |some c=>
   rw[hc]at g;have hn:=(cX.mp hc).1;have e1:aZ (.nd k cs) (n::p) x= .nd k (cs.set n (aZ c p x)):=by rw[aZ,hc]
   have e2:aZ (.nd k cs) (n::p) y= .nd k (cs.set n (aZ c p y)):=by rw[aZ,hc]
   have e3:aZ (.nd k (cs.set n (aZ c p x))) (n::p) y= .nd k ((cs.set n (aZ c p x)).set n (aZ (aZ c p x) p y)):=by rw[aZ,gK hn]
   rw[e1,e2,e3,List.set_set,HD g]
theorem ox.slots{F:zI->Prop}{e e':oH (oT V)}(h:ox K H U F m e v β)(he:∀r,r < m->e'[r]?=e[r]?):ox K H U F m e' v β:=by
 cases β with
 |own d=>lk
 |ro d=>lk
 |aB r p=>
  let hr vr er hp:=h;exact#[hr,vr,(he r hr).trans er,hp]
theorem bT.take(h:bT K H U m e ρ)(hm:m<=-e)(hr:ρ[r]?\!.own d)(er:e[r]?\!vr)(hp:gU H vr p u)(g:aa d p\d1):
  bT K H U m (e++ [!u]) (ρ.set r (!.own (aZ d p (.hl u)))++ [!.own d1]):=by
 let dw mu Fs dj sub sl:=h;have iN:r < -e:=by
  rcases NV r (-e) with z | z
  .lk
  .rw[aHa.mpr z]at er;lk
 let v ev sv:=sl r _ hr;rw[er]at ev;cases ev;have sv:bg K H (Fs r) vr d:=sv;let F1 m1 r1 put:=sv.focus hp g;have key:=put H (λ_=>False) (.hl u) (λb o _ _ z=>z) (gu.refl H) (.hl _ _) λb z=>z.elim;have Qi:-(ρ.set r (!.own (aZ d p (.hl u))))=-ρ:=bN;refine#[by rw[eO,eO,Qi,dw];rfl,mu,λi b=>if i=-e then F1 b else if i=r then Fs r b/\¬ F1 b else Fs i b/\i < -e,λi j b hi hj=> ?_,λi b hb=> ?_,λi β aw=> ?_]
 .have hi:if i=-e then F1 b else if i=r then Fs r b/\¬ F1 b else Fs i b/\i < -e:=hi;have hj:if j=-e then F1 b else if j=r then Fs r b/\¬ F1 b else Fs j b/\j < -e:=hj;have fi:∀k,(if k=-e then F1 b else if k=r then Fs r b/\¬ F1 b else Fs k b/\k < -e)->(k=-e/\F1 b)\/(k=r/\Fs r b/\¬ F1 b)\/(k≠r/\k≠-e/\Fs k b):=λk hk=>by
   by_cases c1:k=-e
   .rw[zJ c1]at hk;exact .inl #[c1,hk]
   .rw[zK c1]at hk;by_cases c2:k=r
    .rw[zJ c2]at hk;exact .inr (.inl #[c2,hk])
    .rw[zK c2]at hk;exact .inr (.inr #[c2,c1,hk.1])
  rcases fi i hi with⟨a1,a2⟩ | ⟨a1,a2,a3⟩ | ⟨a1,a2,a3⟩ <;> rcases fi j hj with⟨b1,b2⟩ | ⟨b1,b2,b3⟩ | ⟨b1,b2,b3⟩
  .lia
  .exact absurd a2 b3
  .exact absurd (dj j r b b3 (m1 b a2)) b1
  .exact absurd b2 a3
  .lia
  .exact absurd (dj j r b b3 a2) b1
  .exact absurd (dj i r b a3 (m1 b b2)) a1
  .exact absurd (dj i r b a3 b2) a1
  .exact dj i j b a3 b3
 .have hb:if i=-e then F1 b else if i=r then Fs r b/\¬ F1 b else Fs i b/\i < -e:=hb;by_cases c1:i=-e
  .rw[zJ c1]at hb;exact sub r b (m1 b hb)
  .rw[zK c1]at hb;by_cases c2:i=r
   .rw[zJ c2]at hb;exact sub r b hb.1
   .rw[zK c2]at hb;exact sub i b hb.1
 .have HE:∀r,r < m->(e++ [!u])[r]?=e[r]?:=λr hr=>aU b_;rcases slot_of (Qi^^dw) aw with⟨hi,q⟩ | ⟨hi,q⟩
  .by_cases c:r=i
   .subst c;rw[gK b_]at q;cases q;refine#[vr,aU hi^^er, ?_];have n1:¬ r=-e:=b_
    show bg K H (λb=>if r=-e then F1 b else if r=r then Fs r b/\¬ F1 b else _) vr _;simp[zK n1,zJ rfl];exact key.mono λb z=>z.elim (λz=>z) λz=>z.elim
   .rw[gq c]at q;let v ev sv:=sl i β q;refine#[v,aU hi^^ev, ?_];have n1:¬ i=-e:=b_
    have n2:¬ i=r:=λz=>c z.symm;have sv:=ox.slots sv HE;cases β with
    |own dd=>
     show bg K H (λb=>if i=-e then F1 b else if i=r then Fs r b/\¬ F1 b else Fs i b/\i < -e) v dd;simp[zK n1,zK n2];exact bg.mono sv λb z=>#[z,hi]
    |ro dd=>lk
    |aB _ _=>lk
  .have:i - -e=0:=by
    have:=(cX.mp q).1;simp at this;lia
   rw[this]at q;cases q;have ei:i=-e:=b_
   subst ei;refine#[u,by rw[br (bO _),kj];rfl, ?_];show bg K H (λb=>if -e=-e then F1 b else _) u d1;simp[zJ rfl];lk
theorem bT.put(h:bT K H U m (e++ [!u]) (ρ++ [!.own d1]))(hl:-e=-ρ)(hm:m<=-e)(hr:ρ[r]?\!.own d0)(g:aa d0 p\.hl u):
  bT K H U m e (ρ.set r (!.own (aZ d0 p d1))):=by
 let dw mu Fs dj sub sl:=h;have iN:r < -e:=by rw[hl];exact(cX.mp hr).1
 let vr ev sv:=sl r _ (aU b_^^hr);rw[aU iN]at ev;have sv:bg K H (Fs r) vr d0:=sv;let u' hp:=sv.path g;let F1 m1 r1 put:=sv.focus hp g;have:=r1.hole;subst this;let u2 eu su:=sl (-e) (.own d1) (by rw[hl,br (bO _),kj];rfl);rw[br (bO _),kj]at eu;have eu:oF (!u')\!u2:=eu;cases eu;have su:bg K H (Fs (-e)) u' d1:=su;have key:=put H (Fs (-e)) d1 (λb o _ _ z=>z) (gu.refl H) su λb z=> .inr λw=>by have:=dj _ _ b z w;lia
 refine#[bN^^hl,mu,λi b=>if i=r then(Fs r b/\¬ F1 b)\/Fs (-e) b else Fs i b/\i < -e,λi j b hi hj=> ?_,λi b hb=> ?_,λi β aw=> ?_]
 .have hi:if i=r then(Fs r b/\¬ F1 b)\/Fs (-e) b else Fs i b/\i < -e:=hi;have hj:if j=r then(Fs r b/\¬ F1 b)\/Fs (-e) b else Fs j b/\j < -e:=hj;by_cases c1:i=r
  .rw[zJ c1]at hi;by_cases c2:j=r
   .lia
   .rw[zK c2]at hj;rcases hi with hi | hi
    .exact absurd (dj j r b hj.1 hi.1) c2
    .have:=dj j _ b hj.1 hi;lia
  .rw[zK c1]at hi;by_cases c2:j=r
   .rw[zJ c2]at hj;rcases hj with hj | hj
    .exact absurd (dj i r b hi.1 hj.1) c1
    .have:=dj i _ b hi.1 hj;lia
   .rw[zK c2]at hj;exact dj i j b hi.1 hj.1
 .have hb:if i=r then(Fs r b/\¬ F1 b)\/Fs (-e) b else Fs i b/\i < -e:=hb;by_cases c1:i=r
  .rw[zJ c1]at hb;rcases hb with hb | hb
   .exact sub r b hb.1
   .exact sub _ b hb
  .rw[zK c1]at hb;exact sub i b hb.1
 .have HE:∀r,r < m->e[r]?=(e++ [!u'])[r]?:=λr hr=>(aU b_).symm;by_cases c:r=i
  .subst c;rw[gK b_]at aw;cases aw;refine#[vr,ev, ?_];show bg K H (λb=>if r=r then(Fs r b/\¬ F1 b)\/Fs (-e) b else _) vr _;simp[zJ rfl];lk
  .rw[gq c]at aw;have hi:i < -e:=by rw[hl];exact(cX.mp aw).1
   let v dE dZ:=sl i β (aU b_^^aw);rw[aU hi]at dE;refine#[v,dE, ?_];have n2:¬ i=r:=λz=>c z.symm;have dZ:=ox.slots dZ HE;cases β with
   |own dd=>
    show bg K H (λb=>if i=r then(Fs r b/\¬ F1 b)\/Fs (-e) b else Fs i b/\i < -e) v dd;simp[zK n2];exact bg.mono dZ λb z=>#[z,hi]
   |ro dd=>lk
   |aB _ _=>lk
end
abbrev T1:zI->Prop:=λ_=>True
def ou(K:ah)(H H':Hp)(v:V)(d:D):Prop:=∃G:zI->Prop,bg K H' G v d/\∀b,G b->H b=oM/\iB (H' b)
section
theorem ou.sc(v:V):ou K H H' v (.sc v):=#[λ_=>False, .sc _ _,λ_ z=>z.elim]
theorem ou.plain(h:Vw K H' N v d)(p:VL.plain d=oP):ou K H H' v d:=#[_,h.plain p,λ_ z=>z.elim]
theorem ou.vw(h:ou K H H' v d):Vw K H' T1 v d:=let #[_,r,_]:=h;r.vw
theorem ou.early(h:ou K H1 H2 v d)(s:aJ H H1):ou K H H2 v d:=by
 let G r f:=h;refine#[G,r,λb z=>#[?_,(f b z).2]];cases q:H b with
 |none=>rfl
 |some o=>have:=(f b z).1;rw[s b o q]at this;lk
theorem gU.same(h:gU H v p u)(s:aJ H H'):gU H' v p u:=by
 induction h with
 |nil=>exact .nil _
 |cons e1 e2 _ ih=>exact .cons (s _ _ e1) e2 ih
theorem AL(h:iB (H b))(s:aJ H H'):iB (H' b):=by
 let o w:=rN h;rw[w]at h;rw[s b o w];lk
theorem bT.same(h:bT K H U m e ρ)(s:aJ H H'):bT K H' U m e ρ:=by
 let hl mu Fs dj sub sl:=h;refine#[hl,λb z=>AL (mu b z) s,Fs,dj,sub,λi β aw=> ?_];let v ev sv:=sl i β aw;refine#[v,ev, ?_];cases β with
 |own d=>exact bg.same sv s
 |ro d=>exact Vw.same sv s
 |aB r p=>let a vr b c:=sv;exact#[a,vr,b,c.same s]
theorem bT.push(h:bT K H U m e ρ)(s:aJ H H')(hm:m<=-e)(ow:ou K H H' v d):∃U':zI->Prop,bT K H' U' m (e++ [!v]) (ρ++ [!.own d])/\bH U H U' H':=by
 let hl mu Fs dj sub sl:=h.same s;let G r fr:=ow;have nG:∀b,G b->¬ U b:=λb z u=>by
  let o w:=rN (h.mu b u);rw[(fr b z).1]at w;lk
 refine#[λb=>U b\/G b,#[by rw[eO,eO,hl];rfl,λb z=>z.elim (mu b) λz=>(fr b z).2,λi b=>if i=-e then G b else Fs i b,λi j b hi hj=> ?_,λi b hb=> ?_,λi β aw=> ?_],λb o q nu=>#[s b o q,λz=>z.elim nu λz=>by rw[(fr b z).1]at q;lk]]
 .have hi:if i=-e then G b else Fs i b:=hi;have hj:if j=-e then G b else Fs j b:=hj;by_cases ci:i=-e
  .rw[zJ ci]at hi;by_cases cj:j=-e
   .lia
   .rw[zK cj]at hj;exact absurd (sub j b hj) (nG b hi)
  .rw[zK ci]at hi;by_cases cj:j=-e
   .rw[zJ cj]at hj;exact absurd (sub i b hi) (nG b hj)
   .rw[zK cj]at hj;exact dj i j b hi hj
 .have hb:if i=-e then G b else Fs i b:=hb;by_cases ci:i=-e
  .rw[zJ ci]at hb;exact .inr hb
  .rw[zK ci]at hb;exact .inl (sub i b hb)
 .rcases slot_of hl aw with⟨hi,q⟩ | ⟨hi,q⟩
  .let v' ev sv:=sl i β q;refine#[v',aU hi^^ev, ?_];have ni:¬ i=-e:=b_
   have sv:=ox.slots sv (e':=e++ [!v]) λr hr=>aU b_;cases β with
   |own dd=>
    show bg K H' (λb=>if i=-e then G b else Fs i b) v' dd;simp[zK ni];lk
   |ro dd=>
    let v2 dE vN:=h.ex.choose_spec.2.2 i _ q;rw[ev]at dE;cases dE;have vN:Vw K H (λb=>¬ U b) v' dd:=vN;exact vN.over (λb o nb q=>#[s b o q,λz=>z.elim nb λz=>by rw[(fr b z).1]at q;lk]) (gu.of s)
   |aB _ _=>lk
  .have:i - -e=0:=by
    have:=(cX.mp q).1;simp at this;lia
   rw[this]at q;cases q;have ei:i=-e:=b_
   subst ei;refine#[v,by rw[br (bO _),kj];rfl, ?_];show bg K H' (λb=>if -e=-e then G b else _) v d;simp[zJ rfl];lk
theorem bT.drop(h:bT K H U m (e++t) (ρ++τ))(hl:-e=-ρ)(hm:m<=-e):bT K H U m e ρ:=by
 obtain⟨_,mu,Fs,dj,sub,sl⟩:=h;refine#[hl,mu,Fs,dj,sub,λi β aw=> ?_];have hi:=(cX.mp aw).1;let v ev sv:=sl i β (aU hi^^aw);rw[aU b_]at ev;exact#[v,ev,ox.slots sv λr hr=>(aU b_).symm]
noncomputable def eI (i:Nat) (ρ:En):En:=ρ.map λ
 |some (.aB r p)=>if r=i then oM else oF (.aB r p)
 |b=>b
theorem jZ(i:Nat)(ρ:En):-(eI i ρ)=-ρ:=by rw[eI];rw[nI]
theorem DH{i j:Nat}{β:B}(h:(eI i ρ)[j]?\!β):ρ[j]?\!β/\∀r p,β= .aB r p->r≠i:=by
 rw[eI]at h;rw[bJ]at h;cases q:ρ[j]? with
 |none=>rw[q]at h;lk
 |some o=>
  rw[q]at h;cases o with
  |none=>cases h
  |some c=>
   cases c with
   |own d=>cases h;exact#[rfl,λ_ _ z=>nomatch z]
   |ro d=>cases h;exact#[rfl,λ_ _ z=>nomatch z]
   |aB r p=>
    have h:oF (if r=i then oM else oF (B.aB r p))\_:=h;by_cases c:r=i
    .rw[zJ c]at h;cases h
    .rw[zK c]at h;cases h;exact#[rfl,λr' p' z=>by cases z;lk]
theorem bT.set{i:Nat}(h:bT K H U m (e++ [!v]) (ρ++ [!.own d]))(hl:-e=ρ.length)(hm:m<=-e)(hi:i < -e):bT K H U m (e.set i (!v)) ((eI i ρ).set i (!.own d)):=by
 obtain⟨_,mu,Fs,dj,sub,sl⟩:=h;let v' ev sv:=sl (-e) (.own d) (by rw[hl,br (bO _),kj];rfl);rw[br (bO _),kj]at ev;cases ev;have sv:bg K H (Fs (-e)) v d:=sv;refine#[[bN,bN,jZ]^^hl,mu,λj b=>if j=i then Fs (-e) b else Fs j b/\j < -e,λj k b hj hk=> ?_,λj b hb=> ?_,λj β aw=> ?_]
 .have hj:if j=i then Fs (-e) b else Fs j b/\j < -e:=hj;have hk:if k=i then Fs (-e) b else Fs k b/\k < -e:=hk;by_cases cj:j=i
  .rw[zJ cj]at hj;by_cases ck:k=i
   .lia
   .rw[zK ck]at hk;have:=dj _ _ b hj hk.1;lia
  .rw[zK cj]at hj;by_cases ck:k=i
   .rw[zJ ck]at hk;have:=dj _ _ b hj.1 hk;lia
   .rw[zK ck]at hk;exact dj _ _ b hj.1 hk.1
 .have hb:if j=i then Fs (-e) b else Fs j b/\j < -e:=hb;by_cases cj:j=i
  .rw[zJ cj]at hb;exact sub _ b hb
  .rw[zK cj]at hb;exact sub _ b hb.1
 .by_cases cj:i=j
  .subst cj;rw[gK (by rw[jZ];lia)]at aw;cases aw;refine#[v,gK hi, ?_];show bg K H (λb=>if i=i then Fs (-e) b else _) v d;simp[zJ rfl];lk
  .rw[gq cj]at aw;let q1 q2:=DH aw;have hj:j < -e:=by rw[hl];exact(cX.mp q1).1
   let v2 dE dZ:=sl j β (aU b_^^q1);rw[aU hj]at dE;refine#[v2,gq cj^^dE, ?_];have nj:¬ j=i:=λz=>cj z.symm;cases β with
   |own dd=>
    show bg K H (λb=>if j=i then Fs (-e) b else Fs j b/\j < -e) v2 dd;simp[zK nj];exact bg.mono dZ λb z=>#[z,hj]
   |ro dd=>lk
   |aB r p=>
    let a vr b c:=dZ;rw[aU b_]at b;exact#[a,vr,by rw[gq λz=>q2 r p rfl z.symm];exact b,c]
theorem bT.bind{i:Nat}{β:B}(h:bT K H U m e ρ)(hi:i < -e)(hb:match β with | .own _=>False | .ro d=>Vw K H (λb=>¬ U b) v d | .aB r p=>r < m/\r≠i/\∃vr,e[r]?\!vr/\gU H vr p v):
  bT K H U m (e.set i (!v)) ((eI i ρ).set i (!β)):=by
 let hl mu Fs dj sub sl:=h;refine#[[bN,bN,jZ]^^hl,mu,Fs,dj,sub,λj γ qA=> ?_];by_cases cj:i=j
 .subst cj;rw[gK (by rw[jZ];lia)]at qA;cases qA;refine#[v,gK hi, ?_];cases β with
  |own d=>exact hb.elim
  |ro d=>lk
  |aB r p=>
   let a b vr c q:=hb;exact#[a,vr,by rw[gq λz=>b z.symm];exact c,q]
 .rw[gq cj]at qA;let q1 q2:=DH qA;let v2 dE dZ:=sl j γ q1;refine#[v2,gq cj^^dE, ?_];cases γ with
  |own dd=>lk
  |ro dd=>lk
  |aB r p=>
   let a vr b c:=dZ;exact#[a,vr,by rw[gq λz=>q2 r p rfl z.symm];exact b,c]
end
structure aj(K:ah)(n:Nat)(H:Hp)(U:zI->Prop)(σ hv:List (Option V))(ρ:En)(τv:List V)(τd:List D):Prop where
 ok:bT K H U ρ.length (σ++hv++τv.map oF) (ρ++τd.map λd=>oF (.own d))
 len:σ.length + hv.length=ρ.length
 nn:σ.length=n
inductive Fl where
 |nx (ρ:En) | rt (d:D) (ρ:En) | bk (ρ:En) | ct (ρ:En)
def qu(K:ah)(n:Nat)(H:Hp)(U:zI->Prop)(hv:oH (oT V))(τv:oH V)(τd:oH D)(E:ke):Fl->Prop
 |.nx ρ'=>∀dg H' U',aj K n H' U' dg hv ρ' τv τd->bH U H U' H'->E.nx dg H'
 |.rt d ρ'=>∀v dg H' U',aj K n H' U' dg hv ρ' (τv++ [v]) (τd++ [d])->bH U H U' H'->E.rt v H'
 |.bk ρ'=>∀dg H' U',aj K n H' U' dg hv ρ' τv τd->bH U H U' H'->E.bk dg H'
 |.ct ρ'=>∀dg H' U',aj K n H' U' dg hv ρ' τv τd->bH U H U' H'->E.ct dg H'
class SV(K:ah)(n:Nat)(t:TE)(f:outParam (En->Option D)):Prop where
 s:∀{σ hv:List (Option V)} {H:Hp} {U:zI->Prop} {ρ:En} {τv:List V} {τd:List D} {d:D} {Q:VK},aj K n H U σ hv ρ τv τd->f ρ=oF d->(∀v H',aJ H H'->Vw K H' T1 v d->Q v H')->t σ H Q
class SF(K:ah)(n:Nat)(t:TE)(f:outParam (En->Option D)):Prop where
 s:∀{σ hv:List (Option V)} {H:Hp} {U:zI->Prop} {ρ:En} {τv:List V} {τd:List D} {d:D} {Q:VK},aj K n H U σ hv ρ τv τd->f ρ=oF d->(∀v H',aJ H H'->ou K H H' v d->Q v H')->t σ H Q
class SM(K:ah)(n:Nat)(t:TE)(f:outParam (En->Option (D×En))):Prop where
 s:∀{σ hv:List (Option V)} {H:Hp} {U:zI->Prop} {ρ ρ':En} {τv:List V} {τd:List D} {d:D} {Q:VK},aj K n H U σ hv ρ τv τd->f ρ=oF (d,ρ')->
  (∀v H' U',aj K n H' U' σ hv ρ' (τv++ [v]) (τd++ [d])->bH U H U' H'->Q v H')->t σ H Q
inductive Pl where
 |rt (r:Nat) (p:List Nat) | ro (d:D)
def wq(K:ah)(H:Hp)(U:zI->Prop)(e:oH (oT V))(ρ:En)(v:V):Pl->Prop
 |.rt r p=>r < -ρ/\∃vr d,e[r]?\!vr/\aV ρ r\d/\(aa d p).isSome=oP/\gU H vr p v
 |.ro d=>Vw K H (λb=>¬ U b) v d
class SP(K:ah)(n:Nat)(t:TE)(f:outParam (En->Option Pl)):Prop where
 s:∀{σ hv:List (Option V)} {H:Hp} {U:zI->Prop} {ρ:En} {τv:List V} {τd:List D} {q:Pl} {Q:VK},aj K n H U σ hv ρ τv τd->f ρ=oF q->(∀v H',aJ H H'->wq K H' U (σ++hv) ρ v q->Q v H')->t σ H Q
class kq(K:ah)(n:Nat)(t:TT)(f:outParam (En->Option Bool)):Prop where
 s:∀{σ hv:List (Option V)} {H:Hp} {U:zI->Prop} {ρ:En} {τv:List V} {τd:List D} {b:Bool} {Q:Bool->Hp->Prop},aj K n H U σ hv ρ τv τd->f ρ=oF b->(∀H',aJ H H'->Q b H')->t σ H Q
class ST(K:ah)(n:Nat)(t:TT)(f:outParam (En->Option (Bool×En))):Prop where
 s:∀{σ hv:List (Option V)} {H:Hp} {U:zI->Prop} {ρ ρ':En} {τv:List V} {τd:List D} {b:Bool} {Q:Bool->Hp->Prop},aj K n H U σ hv ρ τv τd->f ρ=oF (b,ρ')->
  (∀H' U',aj K n H' U' σ hv ρ' τv τd->bH U H U' H'->Q b H')->t σ H Q
def gF(K:ah)(H:Hp)(N:zI->Prop)(vs:oH V)(ds:oH D):Prop:=-vs=-ds/\∀(i:Nat) (v:V) (d:D),vs[i]?\v->ds[i]?\d->Vw K H N v d
class SA(K:ah)(n:Nat)(t:TA)(f:outParam (En->Option (List D))):Prop where
 s:∀{σ hv:List (Option V)} {H:Hp} {U:zI->Prop} {ρ:En} {τv:List V} {τd:List D} {ds:List D} {Q:List V->Hp->Prop},aj K n H U σ hv ρ τv τd->f ρ=oF ds->(∀vs H',aJ H H'->gF K H' T1 vs ds->Q vs H')->t σ H Q
class qv(K:ah)(n:Nat)(t:TA)(f:outParam (En->Option (List D×En))):Prop where
 s:∀{σ hv:List (Option V)} {H:Hp} {U:zI->Prop} {ρ ρ':En} {τv:List V} {τd:List D} {ds:List D} {Q:List V->Hp->Prop},aj K n H U σ hv ρ τv τd->f ρ=oF (ds,ρ')->
  (∀vs H' U',vs.length=ds.length->aj K n H' U' σ hv ρ' (τv++vs) (τd++ds)->bH U H U' H'->Q vs H')->t σ H Q
class SS(K:ah)(n:Nat)(t:TS)(f:outParam (En->Option Fl)):Prop where
 s:∀{σ hv:List (Option V)} {H:Hp} {U:zI->Prop} {ρ:En} {τv:List V} {τd:List D} {fl:Fl} {E:ke},aj K n H U σ hv ρ τv τd->f ρ=oF fl->qu K n H U hv τv τd E fl->t E σ H
section
theorem aj.same(h:aj K n H U σ hv ρ τv τd)(s:aJ H H'):aj K n H' U σ hv ρ τv τd:=#[h.ok.same s,h.len,h.nn]
theorem aj.push(h:aj K n H U σ hv ρ τv τd)(s:aJ H H')(o:ou K H H' v d):∃U',aj K n H' U' σ hv ρ (τv++ [v]) (τd++ [d])/\bH U H U' H':=by
 let U' k st:=h.ok.push s (by have:=h.len;simp;lia) o;refine#[U',#[?_,h.len,h.nn],st];rw[cK,cK, <- b8, <- b8];lk
theorem aj.drop(h:aj K n H U σ hv ρ (τv++vs) (τd++ds))(hl:-vs=-ds):aj K n H U σ hv ρ τv τd:=by
 refine#[?_,h.len,h.nn];have k:=h.ok;have e:=k.len;have l:=h.len;rw[cK,cK, <- b8, <- b8]at k;refine k.drop ?_ f_;simp at e |-
 lia
theorem aj.qw(h:aj K n H U σ hv ρ (τv++ [v]) (τd++ [d])):aj K n H U σ hv ρ τv τd:=h.drop (vs:= [v]) (ds:= [d]) rfl
theorem aj.tl(h:aj K n H U σ hv ρ τv τd):-τv=-τd:=by
 have e:=h.ok.len;have l:=h.len;simp at e
 lia
theorem aj.last(h:aj K n H U σ hv ρ (τv++ [v]) (τd++ [d])):Vw K H T1 v d:=by
 have tl:=h.tl;have l:=h.len;obtain⟨_,mu,Fs,dj,sub,sl⟩:=h.ok;let v' ev sv:=sl (-ρ + -τd) (.own d) e_;have:v'=v:=by
  have e2:(σ++hv++(τv++ [v]).map oF)[ρ.length + -τd]?\!v:=by
   rw[br f_];simp at tl |-;rw[show -ρ + -τd - (-σ + -hv)=-τv by lia];simp
  rw[e2]at ev;cases ev;rfl
 subst this;exact bg.vw sv
end
class jC(i n:Nat):Prop where
 h:i < n
instance:jC 0 (n + 1):=#[V3 n]
instance [h:jC i n]:jC (i + 1) (n + 1):=#[V4 h.h]
section
instance (priority:=100) ai6{t:TE}{f:En->oT D}[S:SF K n t f]:SV K n t f:=#[λI h k=>S.s I h λv H' s o=>k v H' s o.vw]
instance (priority:=200) ai7{t:TE}{f:En->oT D}[S:SF K n t f]:SM K n t (λρ=>(f ρ).map λd=>(d,ρ)):=#[λ{σ hv H U ρ ρ' τv τd d Q} I h k=>by
 let d' h1 h2:=aY.mp h;cases h2;refine S.s I h1 λv H' s o=>?_;let U' I' st:=I.push s o;exact k v H' U' I' st]
def gm(f:En->oT D)(ρ:En):oT (D×En):=(f ρ).bind λd=>if plain d=oP then oF (d,ρ) else oM
instance (priority:=90) ai8{t:TE}{f:En->oT D}[S:SV K n t f]:SM K n t (gm f):=#[λ{σ hv H U ρ ρ' τv τd d Q} I h k=>by
 let d' h1 h2:=i_ h;by_cases p:plain d'=oP
 .rw[zJ p]at h2;cases h2;refine S.s I h1 λv H' s w=>?_;let U' I' st:=I.push s (ou.plain w p);exact k v H' U' I' st
 .rw[zK p]at h2;lk]
instance (priority:=100) ai9{t:TT}{f:En->oT Bool}[S:kq K n t f]:ST K n t (λρ=>(f ρ).map λb=>(b,ρ)):=#[λ{σ hv H U ρ ρ' τv τd b Q} I h k=>by
 let b' h1 h2:=aY.mp h;cases h2;refine S.s I h1 λH' s=>k H' U (I.same s) λb o q nu=>#[s b o q,nu]]
def bD(ρ:En):oT B->oT D
 |some (.own d)=>oF d
 |some (.ro d)=>oF d
 |some (.aB r p)=>(aV ρ r).bind (aa · p)
 |none=>oM
def af(i:Nat)(ρ:En):oT D:=(ρ[i]?).bind (bD ρ)
theorem aj.slot{i:Nat}{β:B}(I:aj K n H U σ hv ρ τv τd)(h:ρ[i]?\!β):∃v F,(σ++hv)[i]?\!v/\(∀b,F b->U b)/\ox K H U F (-ρ) (σ++hv) v β:=by
 have l:=I.len;have hi:=(cX.mp h).1;obtain⟨_,mu,Fs,dj,sub,sl⟩:=I.ok;let v ev sv:=sl i β (by grind);rw[aU (by grind)]at ev;exact#[v,Fs i,ev,sub i,ox.slots sv λr hr=>(aU (by grind)).symm]
theorem aj.name(I:aj K n H U σ hv ρ τv τd)(hi:i < n):(σ++hv)[i]?=σ[i]?:=aU (I.nn^^hi)
theorem aj.AM{r:Nat}(I:aj K n H U σ hv ρ τv τd)(h:aV ρ r\d):∃v F,(σ++hv)[r]?\!v/\(∀b,F b->U b)/\bg K H F v d:=by
 let v F a b c:=I.slot (L3 h);exact#[v,F,a,b,c]
def nT(ρ:En):Pl->oT D
 |.rt r p=>(aV ρ r).bind (aa · p)
 |.ro d=>oF d
theorem aj.at(I:aj K n H U σ hv ρ τv τd)(h:wq K H U (σ++hv) ρ v q)(hd:nT ρ q\d):Vw K H T1 v d:=by
 cases q with
 |ro d'=>cases hd;exact h.any
 |rt r p=>
  obtain⟨_,vr,d0,er,hr,_,hp⟩:=h;have hd:(aV ρ r).bind _\d:=hd;rw[hr]at hd;let v' F ev _ rp:=I.AM hr;rw[er]at ev;cases ev;exact rp.sub hd hp λ_ _=>trivial
instance Z5{i:Nat}[L:jC i n]:SV K n (nE i) (af i):=#[λ{σ hv H U ρ τv τd d Q} I h k=>by
 let o h1 h2:=i_ h;cases o with
 |none=>lk
 |some β=>
  let v F ev sub sv:=I.slot h1;rw[I.name L.h]at ev;refine#[v,ev,k v H (aJ.refl H) ?_];cases β with
  |own d'=>cases h2;exact bg.vw sv
  |ro d'=>cases h2;exact Vw.any sv
  |aB r p=>
   let d0 hr g:=i_ h2;obtain⟨_,vr,er,hp⟩:=sv;let v' F' ij _ rp:=I.AM hr;rw[er]at ij;cases ij;exact rp.sub g hp λ_ _=>trivial]
def aT(i:Nat)(ρ:En):oT Pl:=match ρ[i]? with
 |some (!.own _)=>oF (.rt i [])
 |some (!.ro d)=>oF (.ro d)
 |some (!.aB r p)=>if((aV ρ r).bind (aa · p)).isSome=oP then oF (.rt r p) else oM
 |_=>oM
instance aja{i:Nat}[L:jC i n]:SP K n (nE i) (aT i):=#[λ{σ hv H U ρ τv τd q Q} I h k=>by
 rw[aT]at h
 split at h
 .next d e1=>
  cases h;let v F ev sub sv:=I.slot e1;have ij:=ev;rw[I.name L.h]at ev;have hr:aV ρ i\d:=by rw[aV];rw[e1]
  exact#[v,ev,k v H (aJ.refl H) #[(cX.mp e1).1,v,d,ij,hr,rfl, .nil v]]
 .next d e1=>
  cases h;let v F ev sub sv:=I.slot e1;rw[I.name L.h]at ev;exact#[v,ev,k v H (aJ.refl H) sv]
 .next r p e1=>
  by_cases c:((aV ρ r).bind (aa · p)).isSome=oP
  .rw[zJ c]at h;cases h;let v F ev sub sv:=I.slot e1;rw[I.name L.h]at ev;let hr vr er hp:=sv;cases hd:aV ρ r with
   |none=>rw[hd]at c;lk
   |some d0=>
    rw[hd]at c;exact#[v,ev,k v H (aJ.refl H) #[hr,vr,d0,er,hd,c,hp]]
  .rw[zK c]at h;lk
 .lk]
instance ajb{v:V}:SF K n (tC v) (λ_=>oF (.sc v)):=#[λI h k=>by cases h;exact k v _ (aJ.refl _) (.sc v)]
class jD(K:ah)(r:R2)(g:outParam (D->D->Option D)):Prop where
 s:∀{H:Hp} {x y:V} {dx dy d:D} {Q:VK},Vw K H T1 x dx->Vw K H T1 y dy->g dx dy=oF d->(∀v H',aJ H H'->ou K H H' v d->Q v H')->r x y H Q
noncomputable def au (g:D->D->oT D) (fa fb:En->oT D) (ρ:En):oT D:=(fa ρ).bind λa=>(fb ρ).bind λb=>g a b
instance ajc[A:SV K n ta fa][B':SV K n tb fb][O:jD K r g]:SF K n (ig r ta tb) (au g fa fb):=#[λ{σ hv H U ρ τv τd d Q} I h k=>by
 let a ha h:=i_ h;let b hb h:=i_ h;refine A.s I ha λx H1 s1 w1=>?_;refine B'.s (I.same s1) hb λy H2 s2 w2=>?_;exact O.s (w1.same s2) w2 h λv H3 s3 o=>k v H3 (s1.trans (s2.trans s3)) (o.early (s1.trans s2))]
noncomputable def hZ (g:D->D->oT D) (fa fb:En->oT (D×En)) (ρ:En):oT (D×En):=(fa ρ).bind λa=>(fb a.2).bind λb=>(g a.1 b.1).map λd=>(d,b.2)
theorem aj.two(I:aj K n H U σ hv ρ (τv++ [v1]++ [v2]) (τd++ [d1]++ [d2])):Vw K H T1 v1 d1/\Vw K H T1 v2 d2:=#[I.qw.last,I.last]
instance (priority:=80) Z6{r:R2}{ta tb:TE}{fa fb:En->oT (D×En)}{g:D->D->oT D}[A:SM K n ta fa][B':SM K n tb fb][O:jD K r g]:SM K n (ig r ta tb) (hZ g fa fb):=#[λ{σ hv H U ρ ρ' τv τd d Q} I h k=>by
 obtain⟨⟨a,ρ1⟩,ha,h⟩:=i_ h;obtain⟨⟨b,ai⟩,hb,h⟩:=i_ h;let d' hg h:=aY.mp h;cases h;refine A.s I ha λx H1 U1 I1 bQ=>?_;refine B'.s I1 hb λy H2 U2 I2 dJ=>?_;refine O.s I2.two.1 I2.two.2 hg λv H3 s3 o=>?_;let U3 I3 gZ:=(I2.qw.qw).push s3 o;exact k v H3 U3 I3 (bQ.trans (dJ.trans gZ))]
class Qj(K:ah)(r:V->Hp->VK->Prop)(g:outParam (D->Option D)):Prop where
 s:∀{H:Hp} {x:V} {dx d:D} {Q:VK},Vw K H T1 x dx->g dx=oF d->(∀v H',aJ H H'->ou K H H' v d->Q v H')->r x H Q
instance ajd[A:SV K n ta fa][O:Qj K r g]:SF K n (Oz r ta) (λρ=>(fa ρ).bind g):=#[λ{σ hv H U ρ τv τd d Q} I h k=>by
 let a ha h:=i_ h;refine A.s I ha λx H1 s1 w1=>?_;exact O.s w1 h λv H3 s3 o=>k v H3 (s1.trans s3) (o.early s1)]
instance aje:SA K n fz (λ_=>oF []):=#[λI h k=>by cases h;exact k [] _ (aJ.refl _) #[rfl,λi v d hv=>by simp at hv]]
noncomputable def ar (fa:En->oT D) (fr:En->oT (oH D)) (ρ:En):oT (oH D):=(fa ρ).bind λa=>(fr ρ).map (a:: ·)
theorem gF.same(h:gF K H N vs ds)(s:aJ H H'):gF K H' N vs ds:=#[h.1,λi v d hv hd=>(h.2 i v d hv hd).same s]
theorem gF.cons(h:Vw K H N v d)(t:gF K H N vs ds):gF K H N (v::vs) (d::ds):=#[by rw[p8,p8,t.1],λi x y hx hy=>by
 cases i with
 |zero=>cases hx;cases hy;lk
 |succ i=>exact t.2 i x y (by simpa using hx) (by simpa using hy)]
instance ajf[A:SV K n ta fa][R:SA K n tr fr]:SA K n (di ta tr) (ar fa fr):=#[λ{σ hv H U ρ τv τd ds Q} I h k=>by
 let a ha h:=i_ h;let r hr h:=aY.mp h;cases h;refine A.s I ha λx H1 s1 w1=>?_;exact R.s (I.same s1) hr λxs H2 s2 w2=>k _ H2 (s1.trans s2) (.cons (w1.same s2) w2)]
instance ajg:qv K n fz (λρ=>oF ([],ρ)):=#[λ{σ hv H U ρ ρ' τv τd ds Q} I h k=>by cases h;exact k [] H U rfl (by grind) (bH.refl U H)]
noncomputable def eJ (fa:En->oT (D×En)) (fr:En->oT (oH D×En)) (ρ:En):oT (oH D×En):=(fa ρ).bind λa=>(fr a.2).map λr=>(a.1::r.1,r.2)
instance ajh[A:SM K n ta fa][R:qv K n tr fr]:qv K n (di ta tr) (eJ fa fr):=#[λ{σ hv H U ρ ρ' τv τd ds Q} I h k=>by
 obtain⟨⟨a,ρ1⟩,ha,h⟩:=i_ h;obtain⟨⟨r,ai⟩,hr,h⟩:=aY.mp h;cases h;refine A.s I ha λx H1 U1 I1 bQ=>?_;refine R.s I1 hr λxs H2 U2 hl I2 dJ=>?_;refine k _ H2 U2 (by grind) ?_ (bQ.trans dJ);rw[sM,sM τd];lk]
theorem pL{α β:Type}{vs:oH α}{ds:oH β}{i:Nat}{d:β}(h:-vs=-ds)(hd:ds[i]?\d):∃v,vs[i]?\v:=#[_,dH (by rw[h];exact(cX.mp hd).1)]
theorem aj.gather{k:Kd}{o:HO}(I:aj K n H U σ hv ρ (τv++vs) (τd++ds))(hl:-vs=-ds)(hp:H p=oM)
  (hold:(cg k=oP/\k= .tup/\o= .tup vs)\/(cg k=yv/\fits K k (-vs)/\∃dx,o=ho k dx vs)):
  ∃U',aj K n (dm H p o) U' σ hv ρ (τv++ [.ref p]) (τd++ [.nd k ds])/\bH U H U' (dm H p o):=by
 have l:=I.len;have s:aJ H (dm H p o):=λb u q=>ba (gM q hp)^^q
 have tl:=I.tl;let he mu Fs dj sub sl:=I.ok.same s;have np:∀i,¬ Fs i p:=λi z=>by
  let u w:=rN (I.ok.mu p (sub i p z));rw[hp]at w;lk
 have base:-(σ++hv++τv.map oF)=-ρ + -τd:=by simp at tl |-;lia
 have Z7:cg k=yv->iB (dm H p o p):=λhk=>by
  rcases hold with⟨z,_⟩ | ⟨_,z,dx,w⟩
  .rw[hk]at z;lk
  .rw[uB,w];have:qt K (dm H p o) p k vs:=#[hk,z,dx,by rw[uB,w]]
   have:=this.mu;rw[uB,w]at this;lk
 refine#[λb=>U b\/(cg k=yv/\b=p),#[#[by simp at tl |-;lia,λb z=> ?_,λi b=>if i=-ρ + -τd then(∃j,ρ.length + -τd<=j/\Fs j b)\/(cg k=yv/\b=p) else Fs i b/\i < -ρ + -τd,λi j b hi hj=> ?_,λi b hb=> ?_,λi β aw=> ?_],l,I.nn],λb u q nu=>#[s b u q,λz=>z.elim nu λ#[_,z]=>by rw[z,hp]at q;lk]]
 .rcases z with z | ⟨z,w⟩
  .exact mu b z
  .rw[w];exact Z7 z
 .have hi:if i=-ρ + -τd then(∃j,ρ.length + -τd<=j/\Fs j b)\/(cg k=yv/\b=p) else Fs i b/\i < -ρ + -τd:=hi;have hj:=hj;by_cases ci:i=-ρ + -τd
  .rw[zJ ci]at hi;by_cases cj:j=-ρ + -τd
   .lia
   .rw[zK cj]at hj;rcases hi with⟨x,hx,hi⟩ | ⟨_,hi⟩
    .have:=dj _ _ b hi hj.1;lia
    .rw[hi]at hj;exact absurd hj.1 (np j)
  .rw[zK ci]at hi;by_cases cj:j=-ρ + -τd
   .rw[zJ cj]at hj;rcases hj with⟨x,hx,hj⟩ | ⟨_,hj⟩
    .have:=dj _ _ b hi.1 hj;lia
    .rw[hj]at hi;exact absurd hi.1 (np i)
   .rw[zK cj]at hj;exact dj _ _ b hi.1 hj.1
 .have hb:if i=-ρ + -τd then(∃j,ρ.length + -τd<=j/\Fs j b)\/(cg k=yv/\b=p) else Fs i b/\i < -ρ + -τd:=hb;by_cases ci:i=-ρ + -τd
  .rw[zJ ci]at hb;rcases hb with⟨x,_,hb⟩ | hb
   .exact .inl (sub x b hb)
   .exact .inr hb
  .rw[zK ci]at hb;exact .inl (sub i b hb.1)
 .have AK:((ρ++τd.map λd=>oF (B.own d))++ [!.own (.nd k ds)])[i]?\!β:=by
   rw[cK, <- b8]at aw;lk
  have HF:-(σ++hv++τv.map oF)=-(ρ++τd.map λd=>oF (B.own d)):=by rw[base];simp
  have Qk:∀{i:Nat} (hi:i < -(σ++hv++τv.map oF)) {x:V},(σ++hv++(τv++ [x]).map oF)[i]?=(σ++hv++τv.map oF)[i]?:=λ{i} hi {x}=>by
   rw[cK, <- b8,aU hi]
  have HG:∀{i:Nat} (hi:i < -(σ++hv++τv.map oF)),(σ++hv++(τv++vs).map oF)[i]?=(σ++hv++τv.map oF)[i]?:=λ{i} hi=>by
   rw[cK, <- b8,aU hi]
  rcases slot_of HF AK with⟨hi,q⟩ | ⟨hi,q⟩
  .let v' ev sv:=sl i β (by rw[cK, <- b8,aU (by rw[<- HF];lk)];lk);rw[HG hi]at ev;refine#[v',Qk hi^^ev, ?_];have ni:¬ i=-ρ + -τd:=b_
   have sv:=ox.slots sv (e':=σ++hv++(τv++ [V.ref p]).map oF) λr hr=>by rw[Qk b_,HG b_]
   cases β with
   |own dd=>
    simp[zK ni];exact bg.mono sv λb z=>#[z,by lia]
   |ro dd=>
    let v2 dE vN:=I.ok.ex.choose_spec.2.2 i _ (by rw[cK, <- b8,aU (by rw[<- HF];lk)];lk);rw[HG hi,ev]at dE;cases dE;have vN:Vw K H (λb=>¬ U b) v' dd:=vN;exact vN.over (λb o nb q=>#[s b o q,λz=>z.elim nb λ#[_,z]=>by rw[z,hp]at q;lk]) (gu.of s)
   |aB _ _=>lk
  .have e0:i - -(σ++hv++τv.map oF)=0:=by
    have:=(cX.mp q).1;simp at this |-;lia
   rw[e0]at q;cases q;have ei:i=-ρ + -τd:=b_
   subst ei;refine#[.ref p,by rw[cK, <- b8,br b_,base,kj];rfl, ?_];have bB:∀(j:Nat) (v:V) (d:D),vs[j]?\v->ds[j]?\d->bg K (dm H p o) (Fs (-ρ + -τd + j)) v d:=λj v d hv hd=>by
    let v' ev sv:=sl (-ρ + -τd + j) (.own d) (by
     rw[cK, <- b8,br e_,bJ];simp[hd])
    have:v'=v:=by
     rw[cK, <- b8,br b_,base]at ev;simp[hv]at ev;exact ev.symm
    subst this;lk
   simp[zJ rfl];refine .nd (λj=>Fs (-ρ + -τd + j)) ?_ hl (λi j b hi hj=>by have:=dj _ _ b hi hj;lia) (λj b hb=>#[.inl #[_,by lia,hb],λ_ z=>by rw[z]at hb;exact np _ hb]) bB;rcases hold with⟨_,h1,h2⟩ | ⟨h1,h2,dx,h3⟩
   .subst h1;show dm H p o p\.tup vs;rw[uB,h2]
   .exact jB.put h1 (.inr #[h1,rfl]) #[h1,h2,dx,by rw[uB,h3]]
noncomputable def kU (f:En->oT (oH D×En)) (ρ:En):oT (D×En):=(f ρ).bind λr=>if -r.1<=aM then oF (.nd .tup r.1,r.2) else oM
noncomputable def ju (f:En->oT (oH D×En)) (ρ:En):oT (D×En):=(f ρ).bind λr=>if -r.1<=aM then oF (.nd .lst r.1,r.2) else oM
instance (priority:=300) aji{ta:TA}{fa:En->oT (oH D×En)}[A:qv K n ta fa]:SM K n (Ai ta) (kU fa):=#[λ{σ hv H U ρ ρ' τv τd d Q} I h k=>by
 obtain⟨⟨a,ρ1⟩,ha,h⟩:=i_ h;by_cases c:-a<=aM
 .rw[zJ c]at h;cases h;refine A.s I ha λxs H1 U1 hl I1 bQ=>#[hl^^c,λp hp=> ?_]
  let U2 I2 dJ:=I1.gather hl hp (.inl #[rfl,rfl,rfl]);exact k _ _ U2 I2 (bQ.trans dJ)
 .rw[zK c]at h;lk]
instance (priority:=300) ajj{ta:TA}{fa:En->oT (oH D×En)}[A:qv K n ta fa]:SM K n (aoK ta) (ju fa):=#[λ{σ hv H U ρ ρ' τv τd d Q} I h k=>by
 obtain⟨⟨a,ρ1⟩,ha,h⟩:=i_ h;by_cases c:-a<=aM
 .rw[zJ c]at h;cases h;refine A.s I ha λxs H1 U1 hl I1 bQ=>#[hl^^c,λp hp=> ?_]
  let U2 I2 dJ:=I1.gather (k:= .lst) hl hp (.inr #[rfl,trivial,0,rfl]);exact k _ _ U2 I2 (bQ.trans dJ)
 .rw[zK c]at h;lk]
variable {ρ ρ' ai:En}{v:V}{d:D}
noncomputable def bU (ds:oH D):En:=ds.map λd=>oF (.own d)
theorem Z8(ds:oH D):Qf (bU ds):=λb hb=>by
 let d _ rfl:=gY.mp hb;exact .inr #[d,rfl]
theorem vO(ds:oH D):AI (bU ds):=λb hb r p=>by
 let d _ rfl:=gY.mp hb;exact λz=>nomatch z
theorem bT.weaken(h:bT K H U m e ai)(hl:-ρ=-ai)(w:∀(i:Nat) (β:B),ρ[i]?\!β->ai[i]?\!β):bT K H U m e ρ:=by
 let a mu Fs dj sub sl:=h;exact#[a.trans hl.symm,mu,Fs,dj,sub,λi β aw=>sl i β (w i β aw)]
theorem vP(h:iB (H a)):gu H (dm H a o):=λb u nm q=>by
 have:b≠a:=λz=>by subst z;rw[q]at h;exact nm h
 rw[ba this];lk
theorem Ql{a:zI}(hk:cg k=yv):iB (!ho k dx vs):=by
 cases k with
 |tup=>lk
 |dk=>lk
 |tE=>lk
 |lst=>trivial
 |aO ks=>trivial
 |lM ks=>trivial
 |obj C ns=>trivial
theorem bT.edit(h:bT K H U 0 (xs.map oF++ [!v]) (bU ds++ [!.own (.nd k cs)]))(hl:xs.length=-ds)(hk:cg k=yv):
  ∃(a dx:zI) (vs:oH V),v= .ref a/\H a\ho k dx vs/\fits K k (-vs)/\-vs=cs.length/\gF K H T1 vs cs/\∀(k':Kd) (cC:oH V) (fU:oH D) (π:Nat->Nat),cg k'=yv->fits K k' (-cC)->-cC=-fU->
   (∀i j,i < -cC->j < -cC->π i=π j->i=j)->(∀(i:Nat) (x:V),cC[i]?\x->(vs++xs)[π i]?\x)->(∀(i:Nat) (y:D),fU[i]?\y->(cs++ds)[π i]?\y)->
   bT K (dm H a (ho k' dx cC)) U 0 [!v] [!.own (.nd k' fU)]/\bH U H U (dm H a (ho k' dx cC)):=by
 let dw mu Fs dj sub sl:=h;have lo:-(bU ds)=-xs:=by rw[bU];rw[nI,hl]
 let v' ev sv:=sl (-xs) (.own (.nd k cs)) (by rw[br b_,lo,kj];rfl);rw[br e_]at ev;have:v'=v:=by simp at ev;exact ev.symm
 subst this;have sv:bg K H (Fs (-xs)) v' (.nd k cs):=sv;let a vs rfl h1 h2 Gs g3 g4 g5:=sv.node;let Fa _ hf dx ha:=h1.own hk;have Z9:∀i,¬ Gs i a:=λi z=>(g4 i a z).2 hk rfl;refine#[a,dx,vs,rfl,ha,hf,h2,#[h2,λi v d hv hd=>(g5 i v d hv hd).vw],λk' cC fU π rO oy oz inj iV qY=> ?_];have aaa:iB (H a):=mu a (sub _ a Fa);have st:gu H (dm H a (ho k' dx cC)):=vP aaa;have keep:∀b u,b≠a->H b\u->dm H a (ho k' dx cC) b\u:=λb u ne q=>ba ne^^q
 -- ahg ajk of fm comes from place j
 let Fp:Nat->zI->Prop:=λj=>if j < -cs then Gs j else λb=>Fs (j - -cs) b/\j - -cs < -xs
 have Qm:∀j,j < -cs->Fp j=Gs j:=λj hj=>zJ hj;have Qn:∀j,¬ j < -cs->Fp j=λb=>Fs (j - -cs) b/\j - -cs < -xs:=λj hj=>zK hj;have DI:∀j b,Fp j b->(j < -cs/\Gs j b)\/(¬ j < -cs/\Fs (j - -cs) b/\j - -cs < -xs):=λj b hb=>by
  by_cases c:j < -cs
  .rw[Qm j c]at hb;exact .inl #[c,hb]
  .rw[Qn j c]at hb;exact .inr #[c,hb.1,hb.2]
 have aab:∀j b,Fp j b->U b:=λj b hb=>by
  rcases DI j b hb with⟨_,z⟩ | ⟨_,z,_⟩
  .exact sub _ b (g4 j b z).1
  .exact sub _ b z
 have Qo:∀j,¬ Fp j a:=λj z=>by
  rcases DI j a z with⟨_,z⟩ | ⟨_,z,w⟩
  .exact Z9 j z
  .have:=dj _ _ a z Fa;lia
 have aac:∀i j b,Fp i b->Fp j b->i=j:=λi j b hi hj=>by
  rcases DI i b hi with⟨c1,z1⟩ | ⟨c1,z1,w1⟩ <;> rcases DI j b hj with⟨c2,z2⟩ | ⟨c2,z2,w2⟩
  .exact g3 i j b z1 z2
  .have:=dj _ _ b (g4 i b z1).1 z2;lia
  .have:=dj _ _ b (g4 j b z2).1 z1;lia
  .have:=dj _ _ b z1 z2;lia
 have aad:∀(j:Nat) (x:V) (y:D),(vs++xs)[j]?\x->(cs++ds)[j]?\y->bg K H (Fp j) x y:=λj x y hx hy=>by
  by_cases c:j < -cs
  .rw[Qm j c];rw[aU b_]at hx;rw[aU c]at hy;exact g5 j x y hx hy
  .rw[Qn j c];rw[br b_]at hx;rw[br b_]at hy;rw[h2]at hx;have HH:j - -cs < -xs:=(cX.mp hx).1;let x' ex sx:=sl (j - -cs) (.own y) (by rw[aU (lo^^HH)];rw[bU];rw[bJ,hy];rfl);have:x'=x:=by
    rw[aU (by simp;lk),bJ,hx]at ex;cases ex;rfl
   subst this;exact bg.mono sx λb z=>#[z,HH]
 refine#[#[rfl,λb ub=> ?_,λi b=>i=0/\(b=a\/∃j,j < -cC/\Fp (π j) b),λi j b hi hj=>by rw[hi.1,hj.1],λi b hb=> ?_,λi β aw=> ?_],λb u q nu=> ?_]
 .by_cases c:b=a
  .subst c;rw[uB];exact Ql (a:=b) rO
  .rw[ba c];exact mu b ub
 .rcases hb.2 with z | ⟨j,_,z⟩
  .subst z;exact sub _ b Fa
  .exact aab _ b z
 .cases i with
  |succ i=>simp at aw
  |zero=>
   cases aw;refine#[.ref a,rfl, ?_];refine .nd (λi b=>i < -cC/\Fp (π i) b) (jB.put rO #[rfl, .inl rfl] #[rO,oy,dx,uB]) oz (λi j b hi hj=>inj i j hi.1 hj.1 (aac _ _ b hi.2 hj.2)) (λi b hb=>#[#[rfl, .inr #[i,hb.1,hb.2]],λ_ z=>by subst z;exact Qo _ hb.2]) λi x y hx hy=> ?_;have hi:i < -cC:=(cX.mp hx).1;have r:=aad (π i) x y (iV i x hx) (qY i y hy);refine(r.frame (H':=dm H a (ho k' dx cC)) (λb u hb q=>keep b u (λz=>by subst z;exact Qo _ hb) q) st).mono λb z=>#[hi,z]
 .have:b≠a:=λz=>by subst z;exact nu (sub _ b Fa)
  exact#[keep b u this q,nu]
theorem HI:∀{p q:oH Nat} {d d1 x y:D},aa d p\d1->plain x=yv->plain y=yv->(∀n r,aa x (n::r)=oM)->(∀n r,aa y (n::r)=oM)->(aa (aZ d p x) q).isSome=(aa (aZ d p y) q).isSome
 | [], [],d,d1,x,y,g,hx,hy,zx,zy=>by rw[aZ,aZ,aa,aa];rfl
 | [],n::r,d,d1,x,y,g,hx,hy,zx,zy=>by rw[aZ,aZ,zx,zy]
 |n::p,q, .sc _,d1,x,y,g,hx,hy,zx,zy=>by rw[aa]at g;lk
 |n::p,q, .hl _,d1,x,y,g,hx,hy,zx,zy=>by rw[aa]at g;lk
 |n::p,q, .nd k cs,d1,x,y,g,hx,hy,zx,zy=>by
  rw[aa]at g;by_cases dM:cg k=oP/\bI cs=oP
  .rw[zJ dM]at g;lk
  rw[zK dM]at g;cases hc:cs[n]? with
  |none=>rw[hc]at g;lk
  |some c=>
   rw[hc]at g;have hn:=(cX.mp hc).1;have e1:aZ (.nd k cs) (n::p) x= .nd k (cs.set n (aZ c p x)):=by rw[aZ,hc]
   have e2:aZ (.nd k cs) (n::p) y= .nd k (cs.set n (aZ c p y)):=by rw[aZ,hc]
   rw[e1,e2];cases q with
   |nil=>rw[aa,aa];rfl
   |cons i q=>
    have px:=xZ hn (ya g hx);have py:=xZ hn (ya g hy);rw[aa,aa,zK (by rintro⟨_,z⟩;rw[px]at z;lk),zK (by rintro⟨_,z⟩;rw[py]at z;lk)];by_cases ci:n=i
    .subst ci;rw[gK hn,gK hn];exact HI g hx hy zx zy
    .rw[gq ci,gq ci]
def fV(ρ:En)(r:Nat)(d0:D)(p:oH Nat)(d':D):En:=(eT (ρ.set r (!.own (aZ d0 p (.hl .aG))))).set r (!.own (aZ d0 p d'))
theorem mU(ρ:En)(r:Nat)(d0:D)(p:oH Nat)(d':D):-(fV ρ r d0 p d')=-ρ:=by rw[fV];rw[bN,iE,bN]
theorem rP(h:r≠s):aV (ρ.set r b) s=aV ρ s:=by
 unfold aV;rw[gq h]
theorem DJ(h:r < -ρ):aV (ρ.set r (!.own d)) r\d:=by
 rw[aV];rw[gK h]
theorem Qp{i:Nat}{d:D}(h:ρ[i]?\!.own d):(eT ρ)[i]?\!.own d:=by
 rw[eT];rw[bJ,h];rfl
theorem aae{d:D}(h:aV ρ r\d):aV (ρ++τ) r\d:=by
 have q:=L3 h;have hr:r < -ρ:=(cX.mp q).1;rw[aV];rw[aU hr,q]
theorem Qq(xY:AI τ):∀(i:Nat) (β:B),(eT ρ++τ)[i]?\!β->(eT (ρ++τ))[i]?\!β:=λi β h=>by
 rw[eT]at h |-;rw[cK];by_cases hi:i < -ρ
 .rw[aU (nI^^hi)]at h;rw[aU (nI^^hi)];rw[bJ]at h |-;cases q:ρ[i]? with
  |none=>rw[q]at h;lk
  |some o=>
   rw[q]at h;have h:fO ρ o\β:=IM h;show oF (fO (ρ++τ) o)=_;cases o with
   |none=>exact congrArg oF h
   |some c=>
    cases c with
    |own d=>exact congrArg oF h
    |ro d=>exact congrArg oF h
    |aB r p=>
     have h:(if p= []\/((aV ρ r).bind (aa · p)).isSome=oP then oF (B.aB r p) else oM)\β:=h;show oF (if p= []\/((aV (ρ++τ) r).bind (aa · p)).isSome=oP then oF (B.aB r p) else oM)=_;by_cases c:p= []\/((aV ρ r).bind (aa · p)).isSome=oP
     .rw[zJ c]at h;have c':p= []\/((aV (ρ++τ) r).bind (aa · p)).isSome=oP:=by
       rcases c with c | c
       .exact .inl c
       .cases hd:aV ρ r with
        |none=>rw[hd]at c;lk
        |some d=>rw[aae hd];rw[hd]at c;exact .inr c
      rw[zJ c',h]
     .rw[zK c]at h;lk
 .rw[br (by rw[nI];lia)]at h |-;rw[nI]at h |-;rw[bJ,h];cases β with
  |own d=>rfl
  |ro d=>rfl
  |aB r p=>exact absurd rfl (xY _ (jr h) r p)
theorem aaf{v:V}(hr:r < -ρ)(g:aa d0 p\d1):∀(i:Nat) (β:B),i≠r->(eT (ρ.set r (!.own (aZ d0 p (.hl .aG)))))[i]?\!β->(eT (ρ.set r (!.own (aZ d0 p (.hl v)))))[i]?\!β:=λi β ni h=>by
 rw[eT]at h |-;rw[bJ,gq (yd ni)]at h |-;cases q:ρ[i]? with
 |none=>rw[q]at h;lk
 |some o=>
  rw[q]at h;have h:=IM h;show oF (fO _ o)=_;cases o with
  |none=>exact congrArg oF h
  |some c=>
   cases c with
   |own d=>exact congrArg oF h
   |ro d=>exact congrArg oF h
   |aB s p'=>
    have h:(if p'= []\/((aV (ρ.set r (!.own (aZ d0 p (.hl .aG)))) s).bind (aa · p')).isSome=oP then oF (B.aB s p') else oM)\β:=h;show oF (if p'= []\/((aV (ρ.set r (!.own (aZ d0 p (.hl v)))) s).bind (aa · p')).isSome=oP then oF (B.aB s p') else oM)=_;by_cases cs:r=s
    .subst cs;rw[DJ hr]at h |-;have e:((!aZ d0 p (.hl v)).bind (aa · p')).isSome=((!aZ d0 p (.hl .aG)).bind (aa · p')).isSome:=HI g rfl rfl (λ_ _=>by rw[aa]) λ_ _=>by rw[aa]
     rw[e,h]
    .rw[rP cs]at h |-;rw[h]
theorem aj.edit{r:Nat}{p:oH Nat}{d0:D}{k:Kd}{cs:oH D}(I:aj K n H U σ hv ρ (τv++xs) (τd++ds))(hl:-xs=-ds)(hp:wq K H U (σ++hv) ρ v (.rt r p))(hr:aV ρ r\d0)(hg:aa d0 p\.nd k cs)(hk:cg k=yv):
  ∃(a dx:zI) (vs:oH V),v= .ref a/\H a\ho k dx vs/\fits K k (-vs)/\-vs=-cs/\gF K H T1 vs cs/\∀(k':Kd) (cC:oH V) (fU:oH D) (π:Nat->Nat),cg k'=yv->fits K k' (-cC)->-cC=-fU->
   (∀i j,i < -cC->j < -cC->π i=π j->i=j)->(∀(i:Nat) (x:V),cC[i]?\x->(vs++xs)[π i]?\x)->(∀(i:Nat) (y:D),fU[i]?\y->(cs++ds)[π i]?\y)->
   ∃U',aj K n (dm H a (ho k' dx cC)) U' σ hv (fV ρ r d0 p (.nd k' fU)) τv τd/\bH U H U' (dm H a (ho k' dx cC)):=by
 have l:=I.len;have tl:=I.tl;rw[eO,eO]at tl;let iN vr Qr er tT _ HJ:=hp;rw[hr]at tT;cases tT;have tS:=L3 hr
 -- all in one row
 have HK:bT K H U (-ρ) ((σ++hv++τv.map oF)++xs.map oF) ((ρ++bU τd)++bU ds):=by
  have:=I.ok;rw[cK,cK, <- b8, <- b8]at this;lk
 have lE:-(σ++hv++τv.map oF)=-(ρ++bU τd):=by rw[bU];simp;lia
 have hm:-ρ<=-(σ++hv++τv.map oF):=f_
 have Qs:=HK.take (r:=r) (vr:=vr) (u:=v) (d:=d0) (p:=p) (by rw[eO];lia) ([aU (by rw[eO];lia),aU iN]^^tS)
  ([aU b_,aU f_]^^er) HJ hg
 have es:((ρ++bU τd)++bU ds).set r (!.own (aZ d0 p (.hl v)))++ [!B.own (.nd k cs)]=(ρ.set r (!.own (aZ d0 p (.hl v)))++bU τd)++(bU ds++ [!.own (.nd k cs)]):=by
  rw[uT _ _ (by rw[eO];lia),uT _ _ iN];simp
 rw[es,b8]at Qs;have nA:AI (bU ds++ [!B.own (.nd k cs)]):=λb hb q p=>by
  rcases lZ.mp hb with z | z
  .exact vO ds b z q p
  .rw[ly.mp z];exact λw=>nomatch w
 have Qt:-(σ++hv++τv.map oF)=-(ρ.set r (!.own (aZ d0 p (.hl v)))++bU τd):=by
  rw[lE,eO,eO,bN]
 let Ut _ small _ back:=Qs.call Qt hm nA;let a dx vs ev ha hf HL vw ed:=small.edit hl hk;refine#[a,dx,vs,ev,ha,hf,HL,vw,λk' cC fU π rO oy oz inj iV qY=> ?_];let aag aah:=ed k' cC fU π rO oy oz inj iV qY;let U' HM dJ:=back _ Ut [!v] [!.own (.nd k' fU)] aag aah λb hb=>ly.mp hb^^.inr #[_,rfl]
 refine#[U',#[?_,mU^^l,I.nn],dJ];have aai:r < -(ρ.set r (!.own (aZ d0 p (.hl v)))):=bN^^iN
 have gh:aa (aZ d0 p (.hl v)) p\.hl v:=HC hg rfl;have DK:=HM.put (r:=r) (d0:=aZ d0 p (.hl v)) (u:=v) (p:=p) (d1:= .nd k' fU) (iE^^Qt) hm (by
  refine Qp ?_;rw[aU aai,gK iN]) gh
 rw[HD hg]at DK;rw[mU];refine DK.weaken (by rw[eO,mU,bN,iE,eO,bN];unfold bU;rfl) λi β aw=> ?_;have aw:(fV ρ r d0 p (.nd k' fU)++bU τd)[i]?\!β:=aw;by_cases ci:r=i
 .subst ci;rw[aU (mU^^iN)]at aw;rw[fV]at aw;rw[gK ([iE,bN]^^iN)]at aw;rw[gK (by rw[iE,eO,bN];lia)];lk
 .rw[gq ci];refine Qq (vO τd) i β ?_;by_cases hi:i < -ρ
  .rw[aU (mU^^hi)]at aw;rw[aU ([iE,bN]^^hi)];rw[fV]at aw;rw[gq ci]at aw;exact aaf iN hg i β (λz=>ci z.symm) aw
  .rw[br (by rw[mU];lia),mU]at aw;rw[br (by rw[iE,bN];lia),iE,bN];lk
end
section
theorem aj.bound(I:aj K n H U σ hv ρ (τv++ [v]) (τd++ [d]))(hi:i < n)(xY:τv= []/\τd= []\/True):aj K n H U (σ.set i (!v)) hv ((eI i ρ).set i (!.own d)) τv τd:=by
 have l:=I.len;have nn:=I.nn;have tl:=I.tl;rw[eO,eO]at tl;have tl:-τv=-τd:=by simp at tl;lia
 refine#[?_,[bN,bN,jZ]^^l,bN^^nn];have ok:=I.ok;rw[cK,cK, <- b8, <- b8]at ok;have k:=ok.set (i:=i) f_ f_ f_;have e1:(σ++hv++τv.map oF).set i (!v)=σ.set i (!v)++hv++τv.map oF:=by
  rw[uT _ _ f_,uT _ _ b_]
 rw[e1]at k;have lu:-((eI i ρ).set i (!B.own d))=-ρ:=by rw[bN,jZ]
 rw[lu];refine k.weaken (by simp[jZ]) λj β aw=>?_;by_cases hj:j < -ρ
 .rw[aU (lu^^hj)]at aw;by_cases c:i=j
  .subst c;rw[gK (jZ^^hj)]at aw;rw[gK (by rw[jZ];simp;lia)];lk
  .rw[gq c]at aw |-;rw[eI]at aw |-;rw[cK,aU (by simpa using hj)];lk
 .rw[br (by rw[lu];lia),lu]at aw;rw[gq b_];rw[eI];rw[cK,br f_,nI,bJ];have:(τd.map λd=>oF (B.own d))[j - -ρ]?\_:=aw;rw[this];rw[bJ]at this;cases q:τd[j - -ρ]? with
  |none=>rw[q]at this;lk
  |some x=>rw[q]at this;cases this;rfl
theorem aj.named(I:aj K n H U σ hv ρ τv τd)(hi:i < n)(hb:match β with | .own _=>False | .ro d=>Vw K H (λb=>¬ U b) v d | .aB r p=>r < -ρ/\r≠i/\∃vr,(σ++hv)[r]?\!vr/\gU H vr p v):
  aj K n H U (σ.set i (!v)) hv ((eI i ρ).set i (!β)) τv τd:=by
 have l:=I.len;have nn:=I.nn;have tl:=I.tl;refine#[?_,[bN,bN,jZ]^^l,bN^^nn];have k:=I.ok.bind (i:=i) (β:=β) (v:=v) f_ (by
  cases β with
  |own d=>lk
  |ro d=>lk
  |aB r p=>
   let h1 h2 vr h3 h4:=hb;exact#[h1,h2,vr,aU f_^^h3,h4])
 have e1:(σ++hv++τv.map oF).set i (!v)=σ.set i (!v)++hv++τv.map oF:=by
  rw[uT _ _ f_,uT _ _ b_]
 rw[e1]at k;have lu:-((eI i ρ).set i (!β))=-ρ:=by rw[bN,jZ]
 rw[lu];refine k.weaken (by simp[jZ]) λj γ qA=>?_;by_cases hj:j < -ρ
 .rw[aU (lu^^hj)]at qA;by_cases c:i=j
  .subst c;rw[gK (jZ^^hj)]at qA;rw[gK (by rw[jZ];simp;lia)];lk
  .rw[gq c]at qA |-;rw[eI]at qA |-;rw[cK,aU (by simpa using hj)];lk
 .rw[br (by rw[lu];lia),lu]at qA;rw[gq b_];rw[eI];rw[cK,br f_,nI,bJ];have:(τd.map λd=>oF (B.own d))[j - -ρ]?\_:=qA;rw[this];rw[bJ]at this;cases q:τd[j - -ρ]? with
  |none=>rw[q]at this;lk
  |some x=>rw[q]at this;cases this;rfl
theorem aj.moved(I:aj K n H U σ hv ρ τv τd)(hi:i < n)(h:ρ[i]?\!.own d):∃v,σ[i]?\!v/\aj K n H U σ hv (ρ.set i oM) (τv++ [v]) (τd++ [d]):=by
 have l:=I.len;have nn:=I.nn;have HN:=(cX.mp h).1;let v F ev _ _:=I.slot h;rw[I.name hi]at ev;refine#[v,ev, ?_,bN^^l,nn];have HP:(ρ++τd.map λd=>oF (B.own d))[i]?\!.own d:=aU HN^^h
 have al4:(σ++hv++τv.map oF)[i]?\!v:=[aU f_,aU b_]^^ev
 have k:=I.ok.take f_ HP al4 (.nil v) rfl;rw[bN,cK,cK, <- b8, <- b8];refine k.weaken f_ λj β aw=>?_;rw[uT _ _ HN];by_cases hj:j < -ρ
 .rw[b8,aU (by simpa using hj)]at aw |-;by_cases c:i=j
  .subst c;rw[gK HN]at aw;cases aw
  .rw[gq c]at aw |-;lk
 .rw[b8,br f_]at aw |-;rw[bN]at aw |-;lk
def kr(i:Nat)(ρ:En):oT (D×En):=(af i ρ).bind λd=>if plain d=oP then oF (d,ρ) else match ρ[i]? with
 |some (!.own d')=>oF (d',ρ.set i oM)
 |_=>oM
instance (priority:=400) aaj{i:Nat}[L:jC i n]:SM K n (nE i) (kr i):=#[λ{σ hv H U ρ ρ' τv τd d Q} I h k=>by
 let d1 h1 h2:=i_ h;by_cases p:plain d1=oP
 .rw[zJ p]at h2;cases h2;refine(Z5).s I h1 λv H' s w=> ?_;let U' I' st:=I.push s (ou.plain w p);exact k v H' U' I' st
 .rw[zK p]at h2
  split at h2
  .next d' e1=>
   cases h2;let v ev I':=I.moved L.h e1;exact#[v,ev,k v H U I' (bH.refl U H)]
  .lk]
instance ajl:SS K n xt (λρ=>oF (.nx ρ)):=#[λI h k=>by cases h;exact k _ _ _ I (bH.refl _ _)]
instance aHF:SS K n atD (λ_=>oM):=#[λI h k=>by lk]
noncomputable def rQ (u:En->oT Fl):Fl->oT Fl
 |.nx ρ=>u ρ
 |fl=>oF fl
def kT(t u:En->oT Fl)(ρ:En):oT Fl:=(t ρ).bind (rQ u)
theorem qu.step(h:qu K n H U hv τv τd E fl)(st:bH U H U' H'):qu K n H' U' hv τv τd E fl:=by
 cases fl with
 |nx ρ=>exact λσ H2 U2 I s=>h σ H2 U2 I (st.trans s)
 |rt d ρ=>exact λv σ H2 U2 I s=>h v σ H2 U2 I (st.trans s)
 |bk ρ=>exact λσ H2 U2 I s=>h σ H2 U2 I (st.trans s)
 |ct ρ=>exact λσ H2 U2 I s=>h σ H2 U2 I (st.trans s)
instance ajm[A:SS K n t ft][B':SS K n u fu]:SS K n (sX t u) (kT ft fu):=#[λ{σ hv H U ρ τv τd fl E} I h k=>by
 let f1 h1 h2:=i_ h;refine A.s I h1 ?_;cases f1 with
 |nx ρ1=>exact λsZ H1 U1 I1 bQ=>B'.s I1 h2 (k.step bQ)
 |rt d ρ1=>cases h2;lk
 |bk ρ1=>cases h2;lk
 |ct ρ1=>cases h2;lk]
noncomputable def gv (c:En->oT (Bool×En)) (t u:En->oT Fl) (ρ:En):oT Fl:=(c ρ).bind λb=>if b.1=oP then t b.2 else u b.2
instance ajn[C:ST K n c fc][A:SS K n t ft][B':SS K n u fu]:SS K n (xu c t u) (gv fc ft fu):=#[λ{σ hv H U ρ τv τd fl E} I h k=>by
 obtain⟨⟨b,ρ1⟩,h1,h2⟩:=i_ h;refine C.s I h1 λH1 U1 I1 bQ=>?_;cases b with
 |true=>rw[zJ rfl];exact A.s I1 h2 (k.step bQ)
 |false=>rw[zK df];exact B'.s I1 h2 (k.step bQ)]
noncomputable def jg (f:En->oT (D×En)) (ρ:En):oT Fl:=(f ρ).map λr=> .rt r.1 r.2
instance aak[A:SM K n te fe]:SS K n (qi te) (jg fe):=#[λ{σ hv H U ρ τv τd fl E} I h k=>by
 obtain⟨⟨d,ρ1⟩,h1,h2⟩:=aY.mp h;cases h2;exact A.s I h1 λv H1 U1 I1 bQ=>k v σ H1 U1 I1 bQ]
instance aHG:SS K n aw1 (λρ=>oF (.rt (.sc .aG) ρ)):=#[λ{σ hv H U ρ τv τd fl E} I h k=>by
 cases h;let U' I' st:=I.push (aJ.refl H) (ou.sc (K:=K) .aG);exact k .aG σ H U' I' st]
noncomputable def ik (f:En->oT (D×En)) (ρ:En):oT Fl:=(f ρ).map λr=> .nx r.2
instance ajo[A:SM K n te fe]:SS K n (F9 te) (ik fe):=#[λ{σ hv H U ρ τv τd fl E} I h k=>by
 obtain⟨⟨d,ρ1⟩,h1,h2⟩:=aY.mp h;cases h2;exact A.s I h1 λv H1 U1 I1 bQ=>k σ H1 U1 I1.qw bQ]
def bq(i:Nat)(β:B)(ρ:En):En:=(eI i ρ).set i (!β)
def dU(i:Nat)(f:En->oT (D×En))(ρ:En):oT Fl:=(f ρ).map λr=> .nx (bq i (.own r.1) r.2)
instance (priority:=100) ajp{i:Nat}{te:TE}{fe:En->oT (D×En)}[L:jC i n][A:SM K n te fe]:SS K n (vh te (lB i)) (dU i fe):=#[λ{σ hv H U ρ τv τd fl E} I h k=>by
 obtain⟨⟨d,ρ1⟩,h1,h2⟩:=aY.mp h;cases h2;exact A.s I h1 λv H1 U1 I1 bQ=>k _ H1 U1 (I1.bound L.h (.inr trivial)) bQ]
def gV(i:Nat)(f:En->oT Pl)(ρ:En):oT Fl:=(f ρ).bind λq=>(nT ρ q).bind λd=>if plain d=oP then oF (.nx (bq i (.own d) ρ)) else match q with
 |.ro d=>oF (.nx (bq i (.ro d) ρ))
 |.rt r p=>if r=i then oM else oF (.nx (bq i (.aB r p) ρ))
instance (priority:=500) ajq{i:Nat}{te:TE}{fe:En->oT Pl}[L:jC i n][A:SP K n te fe]:SS K n (vh te (lB i)) (gV i fe):=#[λ{σ hv H U ρ τv τd fl E} I h k=>by
 let q h1 h2:=i_ h;let d h3 h4:=i_ h2;refine A.s I h1 λv H1 s1 w1=>?_;have I1:=I.same s1;have gw:bH U H U H1:=λb o q nu=>#[s1 b o q,nu]
 by_cases p:plain d=oP
 .rw[zJ p]at h4;cases h4;let U' I' st:=I1.push (aJ.refl H1) (ou.plain (I1.at w1 h3) p);exact k _ H1 U' (I'.bound L.h (.inr trivial)) (gw.trans st)
 .rw[zK p]at h4;cases q with
  |ro d'=>
   cases h4;exact k _ H1 U (I1.named L.h w1) gw
  |rt r p'=>
   have h4:(if r=i then oM else oF _)\fl:=h4;by_cases c:r=i
   .rw[zJ c]at h4;lk
   .rw[zK c]at h4;cases h4;let hr vr d0 er _ _ hp:=w1;exact k _ H1 U (I1.named L.h #[hr,c,vr,er,hp]) gw]
instance ajr[A:SV K n t f]:kq K n (tB t) (λρ=>(f ρ).bind fun | .sc (.bl b)=>oF b | _=>oM):=#[λ{σ hv H U ρ τv τd b Q} I h k=>by
 let d h1 h2:=i_ h;refine A.s I h1 λv H1 s1 w1=>?_
 split at h2
 .cases h2;exact#[b,w1.bA,k H1 s1]
 .lk]
instance ajs[A:SV K n t f]:kq K n (apR t) (λρ=>(f ρ).bind fun | .sc (.bl b)=>oF b | _=>oM):=#[λ{σ hv H U ρ τv τd b Q} I h k=>by
 let d h1 h2:=i_ h;refine A.s I h1 λv H1 s1 w1=>?_
 split at h2
 .cases h2;exact#[b,w1.bA,k H1 s1]
 .lk]
noncomputable def ku (f:En->oT (D×En)) (ρ:En):oT (Bool×En):=(f ρ).bind λr=>match r.1 with
 |.sc (.bl b)=>oF (b,r.2)
 |_=>oM
instance (priority:=50) aju{t:TE}{f:En->oT (D×En)}[A:SM K n t f]:ST K n (apR t) (ku f):=#[λ{σ hv H U ρ ρ' τv τd b Q} I h k=>by
 obtain⟨⟨d,ρ1⟩,h1,h2⟩:=i_ h;refine A.s I h1 λv H1 U1 I1 bQ=>?_
 split at h2
 .next b' e=>
  subst e;cases h2;exact#[b,I1.last.bA,k H1 U1 I1.qw bQ]
 .lk]
noncomputable def lN (a b:En->oT Bool) (ρ:En):oT Bool:=(a ρ).bind λx=>if x=oP then b ρ else oF yv
noncomputable def mV (a b:En->oT Bool) (ρ:En):oT Bool:=(a ρ).bind λx=>if x=oP then oF oP else b ρ
instance ajv[A:kq K n t f][B':kq K n u g]:kq K n (F3 t u) (lN f g):=#[λ{σ hv H U ρ τv τd b Q} I h k=>by
 let x h1 h2:=i_ h;refine A.s I h1 λH1 s1=>?_;cases x with
 |true=>rw[zJ rfl];exact B'.s (I.same s1) h2 λH2 s2=>k H2 (s1.trans s2)
 |false=>cases h2;rw[zK df];exact k H1 s1]
instance ajw[A:kq K n t f][B':kq K n u g]:kq K n (F4 t u) (mV f g):=#[λ{σ hv H U ρ τv τd b Q} I h k=>by
 let x h1 h2:=i_ h;refine A.s I h1 λH1 s1=>?_;cases x with
 |true=>cases h2;rw[zJ rfl];exact k H1 s1
 |false=>rw[zK df];exact B'.s (I.same s1) h2 λH2 s2=>k H2 (s1.trans s2)]
instance ajx[A:kq K n t f]:kq K n (F5 t) (λρ=>(f ρ).map not):=#[λ{σ hv H U ρ τv τd b Q} I h k=>by
 let x h1 h2:=aY.mp h;cases h2;exact A.s I h1 λH1 s1=>k H1 s1]
noncomputable def andM (a b:En->oT (Bool×En)) (ρ:En):oT (Bool×En):=(a ρ).bind λx=>if x.1=oP then b x.2 else oF (yv,x.2)
noncomputable def orM (a b:En->oT (Bool×En)) (ρ:En):oT (Bool×En):=(a ρ).bind λx=>if x.1=oP then oF (oP,x.2) else b x.2
instance (priority:=50) ajy{t u:TT}{f g:En->oT (Bool×En)}[A:ST K n t f][B':ST K n u g]:ST K n (F3 t u) (andM f g):=#[λ{σ hv H U ρ ρ' τv τd b Q} I h k=>by
 obtain⟨⟨x,ρ1⟩,h1,h2⟩:=i_ h;refine A.s I h1 λH1 U1 I1 s1=>?_;cases x with
 |true=>rw[zJ rfl];exact B'.s I1 h2 λH2 U2 I2 s2=>k H2 U2 I2 (s1.trans s2)
 |false=>cases h2;rw[zK df];exact k H1 U1 I1 s1]
instance (priority:=50) aHH{t u:TT}{f g:En->oT (Bool×En)}[A:ST K n t f][B':ST K n u g]:ST K n (F4 t u) (orM f g):=#[λ{σ hv H U ρ ρ' τv τd b Q} I h k=>by
 obtain⟨⟨x,ρ1⟩,h1,h2⟩:=i_ h;refine A.s I h1 λH1 U1 I1 s1=>?_;cases x with
 |true=>cases h2;rw[zJ rfl];exact k H1 U1 I1 s1
 |false=>rw[zK df];exact B'.s I1 h2 λH2 U2 I2 s2=>k H2 U2 I2 (s1.trans s2)]
instance ajA[A:SV K n ta fa][B':SV K n tb fb]:SV K n (xr ta tb) (λρ=>(fa ρ).bind fun | .sc (.bl oP)=>fb ρ | .sc (.bl yv)=>oF (.sc (.bl yv)) | _=>oM):=#[λ{σ hv H U ρ τv τd d Q} I h k=>by
 let x h1 h2:=i_ h;refine A.s I h1 λv H1 s1 w1=>?_
 split at h2
 .exact#[oP,w1.bA,zJ rfl^^B'.s (I.same s1) h2 λv H2 s2 w=>k v H2 (s1.trans s2) w]
 .cases h2;exact#[yv,w1.bA,zK df^^k _ H1 s1 (.sc _)]
 .lk]
instance ajC[A:SV K n ta fa]:SV K n (F8 ta) (λρ=>(fa ρ).bind fun | .sc (.bl b)=>oF (.sc (.bl (not b))) | _=>oM):=#[λ{σ hv H U ρ τv τd d Q} I h k=>by
 let x h1 h2:=i_ h;refine A.s I h1 λv H1 s1 w1=>?_
 split at h2
 .next b=>cases h2;exact#[b,w1.bA,k _ H1 s1 (.sc _)]
 .lk]
noncomputable def oA (c:En->oT Bool) (a b:En->oT D) (ρ:En):oT D:=(c ρ).bind λx=>if x=oP then a ρ else b ρ
instance aHI[C:kq K n c fc][A:SV K n ta fa][B':SV K n tb fb]:SV K n (Oi c ta tb) (oA fc fa fb):=#[λ{σ hv H U ρ τv τd d Q} I h k=>by
 let x h1 h2:=i_ h;refine C.s I h1 λH1 s1=>?_;cases x with
 |true=>rw[zJ rfl];exact A.s (I.same s1) h2 λv H2 s2 w=>k v H2 (s1.trans s2) w
 |false=>rw[zK df];exact B'.s (I.same s1) h2 λv H2 s2 w=>k v H2 (s1.trans s2) w]
end
noncomputable def jf (f:Str):oH Str->oT Nat
 | []=>oM
 |g::r=>if f == g then oF 0 else(jf f r).map (· + 1)
theorem DL:∀{ns:oH Str} {vs:oH V} {i:Nat},jf f ns\i->-ns=-vs->(ns.zip vs).lookup f=vs[i]?
 | [],_,_,h,_=>by lk
 |g::r, [],_,_,h=>by lk
 |g::r,v::vs,i,h,hl=>by
  rw[jf]at h;rw[nV,nR];by_cases c:(f == g)=oP
  .rw[zJ c]at h;cases h;rw[c];rfl
  .rw[zK c]at h;let j h1 h2:=aY.mp h;subst h2;rw[aHb]at c;rw[c];exact DL h1 (eF hl)
theorem HQ:∀{ns:oH Str} {i:Nat},jf f ns\i->i < -ns
 | [],_,h=>by lk
 |g::r,i,h=>by
  rw[jf]at h;by_cases c:(f == g)=oP
  .rw[zJ c]at h;cases h;exact V3 _
  .rw[zK c]at h;let j h1 h2:=aY.mp h;subst h2;exact V4 (HQ h1)
theorem AO:∀{ns:oH Str} {i:Nat},jf f ns\i->f∈ns
 | [],_,h=>by lk
 |g::r,i,h=>by
  rw[jf]at h;by_cases c:(f == g)=oP
  .have:f=g:=by simpa using c
   rw[this];exact .head _
  .rw[zK c]at h;let j h1 _:=aY.mp h;exact .tail _ (AO h1)
theorem HR:∀{ns:oH Str} {vs:oH V} {i:Nat},jf f ns\i->-ns=-vs->iW f y (ns.zip vs)=ns.zip (vs.set i y)
 | [],_,_,h,_=>by lk
 |g::r, [],_,_,h=>by lk
 |g::r,v::vs,i,h,hl=>by
  rw[jf]at h;rw[nV,iW];by_cases c:(f == g)=oP
  .have e:g=f:=by have:f=g:=(by simpa using c);exact this.symm
   rw[zJ c]at h;cases h;rw[zJ e];rfl
  .have ne:¬ g=f:=λz=>c (by rw[z];simp);rw[zK c]at h;let j h1 h2:=aY.mp h;subst h2;rw[zK ne,HR h1 (eF hl)];rfl
theorem Qu:∀{ns:oH Str} {vs:oH V},jf f ns=oM->-ns=-vs->iW f y (ns.zip vs)=(ns++ [f]).zip (vs++ [y])
 | [], [],_,_=>rfl
 | [],_::_,_,h=>by lk
 |g::r, [],_,h=>by lk
 |g::r,v::vs,h,hl=>by
  rw[jf]at h;rw[nV,iW];by_cases c:(f == g)=oP
  .rw[zJ c]at h;lk
  .have ne:¬ g=f:=λz=>c (by rw[z];simp);rw[zK c]at h;rw[zK ne,Qu (aHc.mp h) (eF hl)];rfl
section
def oB(f:Str):D->oT Nat
 |.nd (.obj _ ns) _=>jf f ns
 |_=>oM
noncomputable def jh:D->Nat->oT D
 |.nd _ cs,i=>cs[i]?
 |_,_=>oM
def ji(f:Str)(d:D):oT D:=(oB f d).bind (jh d)
instance ajD[A:SV K n ta fa]:SV K n (Ag K ta f) (λρ=>(fa ρ).bind (ji f)):=#[λ{σ hv H U ρ τv τd d Q} I h k=>by
 let x h1 h2:=i_ h;let i h3 h4:=i_ h2;refine A.s I h1 λv H1 s1 w1=>?_;unfold oB at h3
 split at h3
 .next C ns cs=>
  obtain⟨a,vs,rfl,_,⟨⟨hl,hC,hA⟩,dx,hc⟩,rC,bB⟩:=w1.node;have h4:cs[i]?\d:=h4;let u hu:=pL rC h4;exact#[a,C,dx,_,u,rfl,hc,hC,hA f (AO h3),(DL h3 hl).trans hu,k u H1 s1 (bB i u d hu h4)]
 .lk]
def oC(ρ:En)(q:Pl)(i:Nat):oT Pl:=(nT ρ q).bind λd=>(jh d i).bind λc=>match q with
 |.rt r p=>if plain d=oP then oF (.ro c) else oF (.rt r (p++ [i]))
 |.ro _=>oF (.ro c)
theorem Qv:∀{p:oH Nat} {d d1:D} {i:Nat},aa d p\d1->aa d (p++ [i])=aa d1 [i]
 | [],d,d1,i,g=>by cases g;rfl
 |n::p, .sc _,d1,i,g=>by rw[aa]at g;lk
 |n::p, .hl _,d1,i,g=>by rw[aa]at g;lk
 |n::p, .nd k cs,d1,i,g=>by
  rw[aa]at g;rw[zr,aa];by_cases dM:cg k=oP/\bI cs=oP
  .rw[zJ dM]at g;lk
  rw[zK dM]at g |-;cases hc:cs[n]? with
  |none=>rw[hc]at g;lk
  |some c=>rw[hc]at g;exact Qv g
theorem gU.app(h:gU H v p u)(h2:gU H u q w):gU H v (p++q) w:=by
 induction h with
 |nil=>lk
 |cons e1 e2 _ ih=>exact .cons e1 e2 (ih h2)
theorem HS(h:¬ plain (.nd k cs)=oP):¬ (cg k=oP/\bI cs=oP):=λ#[a,b]=>by
 cases k with
 |tup=>exact h b
 |dk=>exact h b
 |tE=>exact h b
 |_=>lk
theorem aj.bB(I:aj K n H U σ hv ρ τv τd)(h:wq K H U (σ++hv) ρ v q)(hq:oC ρ q i\q'):
  ∃(a:zI) (k:Kd) (vs:oH V) (cs:oH D) (u:V) (c:D),v= .ref a/\nT ρ q\.nd k cs/\iT K H a k vs/\-vs=-cs/\vs[i]?\u/\cs[i]?\c/\wq K H U (σ++hv) ρ u q'/\nT ρ q'\c:=by
 let d h1 h2:=i_ hq;let c h3 h4:=i_ h2;cases d with
 |sc _=>lk
 |hl _=>lk
 |nd k cs=>
  have h3:cs[i]?\c:=h3;cases q with
  |ro d'=>
   cases h4;cases h1;let a vs rfl _ hc hl bB:=Vw.node (show Vw K H (λb=>¬ U b) v (.nd k cs) from h);let u hu:=pL hl h3;exact#[a,k,vs,cs,u,c,rfl,rfl,hc,hl,hu,h3,bB i u c hu h3,rfl]
  |rt r p=>
   have h4:(if plain (.nd k cs)=oP then oF (Pl.ro c) else oF (.rt r (p++ [i])))\q':=h4;by_cases pd:plain (.nd k cs)=oP
   .rw[zJ pd]at h4;cases h4;let a vs rfl _ hc hl bB:=(I.at h h1).node;let u hu:=pL hl h3;have pc:plain c=oP:=by
     cases k with
     |tup=>exact xW pd h3
     |dk=>exact xW pd h3
     |tE=>exact xW pd h3
     |_=>lk
    exact#[a,k,vs,cs,u,c,rfl,h1,hc,hl,hu,h3,((bB i u c hu h3).plain pc).view λ_ z=>z.elim,rfl]
   .rw[zK pd]at h4;cases h4;let hr vr d0 er rR hg hp:=h;have AQ:(aV ρ r).bind (aa · p)\.nd k cs:=h1;rw[rR]at AQ;have AQ:aa d0 p\.nd k cs:=AQ;have g2:aa d0 (p++ [i])\c:=by
     rw[Qv AQ,aa,zK (HS pd),h3];rfl
    let aal F ev _ rp:=I.AM rR;rw[er]at ev;cases ev;let F1 _ r1 _:=rp.focus hp AQ;let a vs rfl ho hl Fs _ _ bB:=r1.node;let u hu:=pL hl h3;have aam:∃o,H a\o:=by
     cases k with
     |tup=>exact#[_,ho]
     |dk=>exact absurd #[rfl,ho.1] (HS pd)
     |tE=>exact#[_,ho.2.2.choose_spec]
     |_=>obtain⟨_,_,_,dx,x⟩:=ho;exact#[_,x]
    let o eo:=aam;have G0:gU H vr (p++ [i]) u:=hp.app (.cons eo (ho.kids (HS pd) eo^^hu) (.nil u));exact#[a,k,vs,cs,u,c,rfl,h1,ho.cell,hl,hu,h3,#[hr,vr,d0,er,rR,by rw[g2];rfl,G0],by show(aV ρ r).bind (aa · (p++ [i]))\c;rw[rR];lk]
def iZ(f:Str)(fa:En->oT Pl)(ρ:En):oT Pl:=(fa ρ).bind λq=>(nT ρ q).bind λd=>(oB f d).bind (oC ρ q)
instance ajE[A:SP K n ta fa]:SP K n (Ag K ta f) (iZ f fa):=#[λ{σ hv H U ρ τv τd q' Q} I h k=>by
 let q h1 h:=i_ h;let d h2 h:=i_ h;let i h3 h4:=i_ h;refine A.s I h1 λv H1 s1 w1=>?_;let a kk vs cs u c rfl e1 hc hl hu h5 ok _:=(I.same s1).bB w1 h4;rw[h2]at e1;cases e1;unfold oB at h3
 split at h3
 .next C ns fU e=>
  cases e;obtain⟨⟨rC,hC,hA⟩,dx,hc⟩:=hc;exact#[a,C,dx,_,u,rfl,hc,hC,hA f (AO h3),(DL h3 rC).trans hu,k u H1 s1 ok]
 .lk]
def mq(d i:D):oT Nat:=match d,i with
 |.nd .tup cs, .sc (.int j)=>gC (-cs) j
 |.nd .lst cs, .sc (.int j)=>gC (-cs) j
 |.nd .dk cs, .sc (.int j)=>gC (-cs) j
 |.nd (.tE _ _) cs, .sc (.int j)=>gC (-cs) j
 |_,_=>oM
class tU(K:ah)(r:R2)(g:outParam (D->D->Option Nat))(gs:outParam (V->D->Option V)):Prop where
 t:∀{H:Hp} {x y w:V} {dy:D} {Q:VK},Vw K H T1 y dy->gs x dy=oF w->Q w H->r x y H Q
 s:∀{H:Hp} {a:zI} {k:Kd} {vs:List V} {cs:List D} {y u:V} {dy:D} {i:Nat} {Q:VK},iT K H a k vs->vs.length=cs.length->Vw K H T1 y dy->g (.nd k cs) dy=oF i->vs[i]?=oF u->Q u H->r (.ref a) y H Q
def aW(g:D->D->oT Nat)(gs:V->D->oT V)(a b:D):oT D:=match a with
 |.sc x=>(gs x b).map .sc
 |a=>(g a b).bind (jh a)
instance (priority:=900) ajF{r:R2}{ta tb:TE}{fa fb:En->oT D}{g:D->D->oT Nat}{gs:V->D->oT V}[A:SV K n ta fa][B':SV K n tb fb][O:tU K r g gs]:SV K n (ig r ta tb) (au (aW g gs) fa fb):=#[λ{σ hv H U ρ τv τd d Q} I h k=>by
 let a ha h:=i_ h;let b hb h:=i_ h;refine A.s I ha λx H1 s1 w1=>?_;refine B'.s (I.same s1) hb λy H2 s2 w2=>?_;cases a with
 |sc z=>
  let w h1 h2:=aY.mp h;subst h2;rw[w1.bA];exact O.t w2 h1 (k w H2 (s1.trans s2) (.sc w))
 |hl _=>
  let i hi h:=i_ h;lk
 |nd kk cs=>
  let i hi h:=i_ h;have h:cs[i]?\d:=h;let a vs rfl _ hc hl bB:=(w1.same s2).node;let u hu:=pL hl h;exact O.s hc hl w2 hi hu (k u H2 (s1.trans s2) (bB i u d hu h))]
def dF(g:D->D->oT Nat)(fa:En->oT Pl)(fb:En->oT D)(ρ:En):oT Pl:=(fa ρ).bind λq=>(fb ρ).bind λb=>(nT ρ q).bind λd=>(g d b).bind (oC ρ q)
theorem wq.same(h:wq K H U e ρ v q)(s:aJ H H'):wq K H' U e ρ v q:=by
 cases q with
 |ro d=>exact Vw.same h s
 |rt r p=>
  let a vr d b c e f:=h;exact#[a,vr,d,b,c,e,f.same s]
instance ajG[A:SP K n ta fa][B':SV K n tb fb][O:tU K r g gs]:SP K n (ig r ta tb) (dF g fa fb):=#[λ{σ hv H U ρ τv τd q' Q} I h k=>by
 let q ha h:=i_ h;let b hb h:=i_ h;let d hd h:=i_ h;let i hi h:=i_ h;refine A.s I ha λx H1 s1 w1=>?_;refine B'.s (I.same s1) hb λy H2 s2 w2=>?_;let a kk vs cs u c rfl e1 hc hl hu h5 ok _:=((I.same s1).same s2).bB (w1.same s2) h;rw[hd]at e1;cases e1;exact O.s hc hl w2 hi hu (k u H2 (s1.trans s2) ok)]
def aN(x:V)(i:D):oT V:=match x,i with
 |.str z, .sc (.int j)=>if z.length<=aM then(ao4 z.cps.toList j).map λc=> .str #[(List.toArray [c])] else oM
 |_,_=>oM
theorem aan(h:gC m j\i):i < m:=by
 rw[gC]at h
 split at h
 .split at h
  .cases h;lia
  .lk
 .split at h
  .cases h;lia
  .lk
instance Qw:tU K (atM K) mq aN where
 t:=λ{H x y w dy Q} w2 h q=>by
  unfold aN at h
  split at h
  .next z j=>
   by_cases c:z.length<=aM
   .rw[zJ c]at h;let ch h1 h2:=aY.mp h;subst h2;rw[w2.bA];exact .inr (.inr #[z,j,ch,rfl,rfl,c,h1,q])
   .rw[zK c]at h;lk
  .lk
 s:=λ{H a k vs cs y u dy i Q} hc hl w2 h hu q=>by
  unfold mq at h;have at_:∀j,gC (-cs) j\i->ao4 vs j\u:=λj e=>by
   rw[ao4];rw[hl,e];lk
  split at h
  .next fU j e=>
   cases e;rw[w2.bA];exact .inr (.inl #[a,vs,j,u,rfl,rfl,cE.of hc.2,at_ j h,q])
  .next fU j e=>
   cases e;rw[w2.bA];exact .inl #[a,vs,j,u,rfl,rfl, .inl (.inl hc.2),at_ j h,q]
  .next fU j e=>
   cases e;rw[w2.bA];exact .inl #[a,vs,j,u,rfl,rfl,hc.2.sq,at_ j h,q]
  .next fU j e=>
   cases e;rw[w2.bA];exact .inl #[a,vs,j,u,rfl,rfl,jA.sq (.inl hc.2.2.2),at_ j h,q]
  .lk
class SQ(K:ah)(n:Nat)(t:TE)(f:outParam (En->Option D)):Prop where
 o:∀{σ hv:List (Option V)} {H:Hp} {U:zI->Prop} {ρ:En} {τv:List V} {τd:List D} {d:D} {Q:VK},aj K n H U σ hv ρ τv τd->f ρ=oF d->(∀v H',aJ H H'->ou K H H' v d->Q v H')->t σ H Q
theorem SQ.s[S:SQ K n t f](I:aj K n H U σ hv ρ τv τd)(h:f ρ\d)(k:∀v H' U',aj K n H' U' σ hv ρ (τv++ [v]) (τd++ [d])->bH U H U' H'->aJ H H'->Q v H'):t σ H Q:=
 S.o I h λv H' s o=>by
  let U' I' st:=I.push s o;exact k v H' U' I' st s
instance (priority:=200) ajH{t:TE}{f:En->oT D}[S:SF K n t f]:SQ K n t f:=#[λI h k=>S.s I h k]
def gJ(f:En->oT D)(ρ:En):oT D:=(f ρ).bind λd=>if plain d=oP then oF d else oM
instance (priority:=100) ajI{t:TE}{f:En->oT D}[S:SV K n t f]:SQ K n t (gJ f):=#[λ{σ hv H U ρ τv τd d Q} I h k=>by
 let d' h1 h2:=i_ h;by_cases p:plain d'=oP
 .rw[zJ p]at h2;cases h2;exact S.s I h1 λv H' s w=>k v H' s (ou.plain w p)
 .rw[zK p]at h2;lk]
def eM(ρ:En)(r:Nat)(p:oH Nat):oT (D×Kd×oH D):=(aV ρ r).bind λd0=>(aa d0 p).bind λ
 |.nd k cs=>oF (d0,k,cs)
 |_=>oM
theorem qx(h:eM ρ r p\(d0,k,cs)):aV ρ r\d0/\aa d0 p\.nd k cs:=by
 let x h1 h2:=i_ h;let y h3 h4:=i_ h2;cases y with
 |sc _=>lk
 |hl _=>lk
 |nd k' fU=>cases h4;exact#[h1,h3]
open Classical in
noncomputable def oE (K:ah) (f:Str) (k:Kd) (cs:oH D) (d:D):oT D:=match k with
 |.obj C ns=>if -cs < 1000 then(match jf f ns with
  |some i=>oF (.nd (.obj C ns) (cs.set i d))
  |none=>if mf K C f then oF (.nd (.obj C (ns++ [f])) (cs++ [d])) else oM) else oM
 |_=>oM
def ahi(K:ah)(f:Str)(fv:En->oT (D×En))(fp:En->oT Pl)(ρ:En):oT Fl:=(fv ρ).bind λa=>(fp a.2).bind λ
 |.rt r p=>(eM a.2 r p).bind λz=>(oE K f z.2.1 z.2.2 a.1).map λd'=> .nx (fV a.2 r z.1 p d')
 |.ro _=>oM
theorem qy{α:Type}{xs:oH α}{x:α}{i:Nat}(hi:i < -xs):∀(j:Nat) (y:α),(xs.set i x)[j]?\y->(xs++ [x])[if j=i then -xs else j]?\y:=λj y h=>by
 by_cases c:j=i
 .subst c;rw[gK hi]at h;rw[zJ rfl,br (bO _),kj];lk
 .rw[gq (yd c)]at h;rw[zK c,aU (cX.mp h).1];lk
theorem AR{i m:Nat}(hi:i < m):∀a b,a < m->b < m->(if a=i then m else a)=(if b=i then m else b)->a=b:=λa b ha hb h=>by
 by_cases c1:a=i
 .by_cases c2:b=i
  .lia
  .rw[zJ c1,zK c2]at h;lia
 .by_cases c2:b=i
  .rw[zK c1,zJ c2]at h;lia
  .rw[zK c1,zK c2]at h;lk
instance ajJ{ta tv:TE}{f:Str}{fv:En->oT (D×En)}{fp:En->oT Pl}[A:SM K n tv fv][P:SP K n ta fp]:SS K n (Gv K ta tv f) (ahi K f fv fp):=#[λ{σ hv H U ρ τv τd fl E} I h k=>by
 obtain⟨⟨d,ρ1⟩,h1,h⟩:=i_ h;let q h2 h:=i_ h;cases q with
 |ro _=>lk
 |rt r p=>
  obtain⟨⟨d0,kk,cs⟩,h3,h⟩:=i_ h;let d' h4 h:=aY.mp h;subst h;let hr hg:=qx h3;refine A.s I h1 λy H1 U1 I1 bQ=>?_;refine P.s I1 h2 λx H2 s2 w2=>?_;have I2:=I1.same s2;have gw:bH U1 H1 U1 H2:=λb o q nu=>#[s2 b o q,nu]
  unfold oE at h4
  split at h4
  .next C ns e=>
   have e:kk= .obj C ns:=e;subst e;by_cases c:-cs < 1000
   .rw[zJ c]at h4;let a dx vs rfl ha hf hl _ ed:=aj.edit (xs:= [y]) (ds:= [d]) I2 rfl w2 hr hg rfl;let vQ hC hA:=hf
    split at h4
    .next i e2=>
     cases h4;have hi:i < -vs:=by rw[<- vQ];exact HQ e2
     refine#[a,C,dx,_,rfl,ha,hC,hA f (AO e2),by rw[pz];lia, ?_];rw[HR e2 vQ];let U3 I3 gZ:=ed (.obj C ns) (vs.set i y) (cs.set i d) (λj=>if j=i then -vs else j) rfl #[bN^^vQ,hC,hA] ([bN,bN]^^hl)
      (λx z hx hz=>AR hi x z (by rw[bN]at hx;lk) (by rw[bN]at hz;lk)) (qy hi) (hl^^qy b_)
     exact k σ _ U3 I3 (bQ.trans (gw.trans gZ))
    .next e2=>
     by_cases cn:mf K C f
     .rw[zJ cn]at h4;cases h4;refine#[a,C,dx,_,rfl,ha,hC,cn,by rw[pz];lia, ?_];rw[Qu e2 vQ];let U3 I3 gZ:=ed (.obj C (ns++ [f])) (vs++ [y]) (cs++ [d]) id rfl #[by simp;lk,hC,λg hg=>by
       rcases lZ.mp hg with z | z
       .exact hA g z
       .rw[ly.mp z];lk] (by simp;lk) (λx z _ _ h=>h) (λj x h=>h) λj x h=>h
      exact k σ _ U3 I3 (bQ.trans (gw.trans gZ))
     .rw[zK cn]at h4;lk
   .rw[zK c]at h4;lk
  .lk]
def lO(ρ:En)(r:Nat)(p:oH Nat)(g:oH D->oT (oH D)):oT En:=(eM ρ r p).bind λz=>match z.2.1 with
 |.lst=>(g z.2.2).map λfU=>fV ρ r z.1 p (.nd .lst fU)
 |_=>oM
noncomputable def oI (d:D) (cs:oH D):oT (oH D):=if -cs < aM then oF (cs++ [d]) else oM
def atO(fp:En->oT Pl)(fe:En->oT D)(ρ:En):oT (D×En):=(fp ρ).bind λ
 |.rt r p=>(fe ρ).bind λd=>(lO ρ r p (oI d)).map λρ'=>(.sc .aG,ρ')
 |.ro _=>oM
theorem DM(h:H p\.lst xs):apT K "list" (.ref p) H:= .inl #[rfl,xs, .inl (.inl h)]
theorem aj.append{Q:VK}(I:aj K n H U σ hv ρ (τv++ [y]) (τd++ [d]))(w:wq K H U (σ++hv) ρ x (.rt r p))(h:lO ρ r p (oI d)\ai)
  (k:∀v H' U',aj K n H' U' σ hv ai (τv++ [v]) (τd++ [.sc .aG])->bH U H U' H'->Q v H'):apT K "list" x H/\C1 x [y] H Q:=by
 obtain⟨⟨d0,kk,cs⟩,h3,h⟩:=i_ h;let hr hg:=qx h3
 split at h
 .next e=>
  have e:kk= .lst:=e;subst e;let fU h4 h:=aY.mp h;subst h;rw[oI]at h4;have h4:(if -cs < aM then oF (cs++ [d]) else oM)\fU:=h4;by_cases c:-cs < aM
  .rw[zJ c]at h4;cases h4;let a dx vs rfl ha hf hl _ ed:=aj.edit (xs:= [y]) (ds:= [d]) I rfl w hr hg rfl;let U3 I3 gZ:=ed .lst (vs++ [y]) (cs++ [d]) id rfl trivial (by simp;lk) (λx z _ _ h=>h) (λj x h=>h) λj x h=>h;let U4 I4 g8:=I3.push (aJ.refl _) (ou.sc (K:=K) .aG);exact#[DM ha,a,vs,y,rfl,rfl,ha,by lia,k _ _ U4 I4 (gZ.trans g8)]
  .rw[zK c]at h4;lk
 .lk
theorem wq.root(h:wq K H U e ρ v (.rt r []))(hd:aV ai r\d):wq K H' U' e ai v (.rt r []):=by
 obtain⟨_,vr,d0,er,_,_,hp⟩:=h;cases hp;exact#[(cX.mp (L3 hd)).1,v,d,er,hd,rfl, .nil v]
instance (priority:=600) ajK{to te:TE}{fp:En->oT Pl}{fe:En->oT D}[P:SP K n to fp][A:SQ K n te fe]:SM K n (vy K "list" C1 to (di te fz)) (atO fp fe):=#[λ{σ hv H U ρ ρ' τv τd d Q} I h k=>by
 let q h1 h:=i_ h;cases q with
 |ro _=>lk
 |rt r p=>
  let d1 h2 h:=i_ h;let ai h3 h:=aY.mp h;cases h;refine P.s I h1 λx H1 s1 w1=>?_;have I1:=I.same s1;have gw:bH U H U H1:=λb o q nu=>#[s1 b o q,nu]
  -- fm kind of ajL it is,ahead of ahg argument
  obtain⟨⟨d0,kk,cs⟩,h4,h5⟩:=i_ h3;let hr hg:=qx h4;have rn:apT K "list" x H1:=by
   split at h5
   .next e=>
    have e:kk= .lst:=e;subst e;let a vs rfl _ hc _ _:=(I1.at (q:= .rt r p) (d:= .nd .lst cs) w1 (by show(aV ρ r).bind _=_;rw[hr];lk)).node;exact DM hc.2
   .lk
  refine#[rn,SQ.s (f:=fe) I1 h2 λy H2 U2 I2 dJ s2=> ?_];have w2:wq K H2 U2 (σ++hv) ρ x (.rt r p):=by
   let a vr d b c e f:=w1;exact#[a,vr,d,b,c,e,f.same s2]
  exact(I2.append w2 h3 λv H3 U3 I3 gZ=>k v H3 U3 I3 (gw.trans (dJ.trans gZ))).2]
end
noncomputable def jE (n:Nat) (vs:oH V):St:=vs.map oF++ug (n - -vs) oM
section
variable {K:ah}{H H':Hp}{U U':zI->Prop}{σ hv:oH (oT V)}{τv vs:oH V}{τd ds:oH D}{v:V}{d:D}
def cL(K:ah)(m:Nat)(G:oH D->oT D):Sp:=λvs H Q _=>∃(ds:oH D) (d:D),ds.length=m/\gF K H T1 vs ds/\G ds\d/\∀v H',aJ H H'->ou K H H' v d->Q v H'
instance ajM{m:Nat}[A:SA K n ta fa]:SF K n (og (cL K m G) [] E ta) (λρ=>(fa ρ).bind λds=>if -ds=m then G ds else oM):=#[λ{σ hv H U ρ τv τd d Q} I h k=>by
 let ds h1 h2:=i_ h;by_cases c:-ds=m
 .rw[zJ c]at h2;refine A.s I h1 λvs H1 s1 w1=>?_;rw[nM];exact#[ds,d,c,w1,h2,λv H' s o=>k v H' (s1.trans s) (o.early s1)]
 .rw[zK c]at h2;lk]
noncomputable def bV (n:Nat) (f:En->oT Fl) (ds:oH D):oT D:=match f (ds.map (λd=>oF (.ro d))++ug (n - -ds) oM) with
 |some (.rt d _)=>oF d
 |some (.nx _)=>oF (.sc .aG)
 |_=>oM
theorem gF.get{N:zI->Prop}(h:gF K H N vs ds){i:Nat}{d:D}(hd:ds[i]?\d):∃v,vs[i]?\v/\Vw K H N v d:=by
 let v hv:=pL h.1 hd;exact#[v,hv,h.2 i v d hv hd]
theorem Qx{t:TS}{f:En->oT Fl}{m:Nat}{Q:VK}{X:XK}[S:SS K n t f](h:cL K m (bV n f) vs H Q X)(hm:m<=n):t { nx:=λ_ H'=>Q .aG H',rt:=Q } (jE n vs) H:=by
 let ds d hd w hG k:=h;have hl:=w.1;have rp:∀(i:Nat) (β:B),(ds.map (λd=>oF (B.ro d))++ug (n - -ds) oM)[i]?\!β->∃d,ds[i]?\d/\β= .ro d:=λi β h=>by
  by_cases hi:i < -ds
  .rw[aU (by simpa using hi),bJ]at h;cases q:ds[i]? with
   |none=>rw[q]at h;lk
   |some x=>rw[q]at h;cases h;exact#[x,rfl,rfl]
  .rw[br f_,NK]at h
   split at h <;> cases h
 have I:aj K n H (λ_=>False) (jE n vs) [] (ds.map (λd=>oF (.ro d))++ug (n - -ds) oM) [] []:=by
  refine#[#[by rw[jE];simp[hl],λb z=>z.elim,λ_ _=>False,λi j b z=>z.elim,λi b z=>z.elim,λi β aw=> ?_],by rw[jE];simp[hl],by rw[jE];simp;lia];rw[jQ,nM]at aw;let x hx rfl:=rp i β aw;let v hv vw:=w.get hx;refine#[v, ?_,vw.mono λ_ _ z=>z];rw[jQ,nM,nM];rw[jE];rw[aU (by simpa using (cX.mp hv).1),bJ,hv];rfl
 have mm:∀{ρ':En} {v:V} {dg:oH (oT V)} {H':Hp} {U':zI->Prop},aj K n H' U' dg [] ρ' [v] [d]->bH (λ_=>False) H U' H'->Q v H':=λ{ρ' v dg H' U'} J st=>by
  refine k v H' (λb o q=>(st b o q λz=>z).1) ?_;obtain⟨_,mu,Fs,dj,sub,sl⟩:=J.ok;have l:=J.len;let v' ev sv:=sl (-ρ') (.own d) e_;have:v'=v:=by
   rw[br (by simp at l |-;lia)]at ev;simp at ev l;rw[show -ρ' - -dg=0 by lia]at ev;simp at ev;exact ev.symm
  subst this;refine#[_,sv,λb z=>#[?_,mu b (sub _ b z)]];cases q:H b with
  |none=>rfl
  |some o=>exact absurd (sub _ b z) (st b o q λz=>z).2
 rw[bV]at hG
 split at hG
 .next d' ρ' e=>
  cases hG;exact S.s I e λv dg H' U' J st=>mm J st
 .next ρ' e=>
  cases hG;refine S.s I e λdg H' U' J st=>?_;let U2 J2 dJ:=J.push (aJ.refl H') (ou.sc (K:=K) .aG);exact mm J2 (st.trans dJ)
 .lk
noncomputable def bW {α:Type}:oH Bool->oH α->oH α
 |true::m,x::r=>x::bW m r
 |false::m,_::r=>bW m r
 |_,_=> []
def dW(K:ah)(bp:oH Bool)(G:oH D->oT (D×oH D)):Sp:=λvs H Q _=>-vs=-bp/\∃(ds:oH D) (U:zI->Prop) (d:D) (dq:oH D),ds.length=-bp/\bT K H U 0 ((bW bp vs).map oF) (bU (bW bp ds))/\
 (∀(i:Nat) (v:V) (d:D),bp[i]?\yv->vs[i]?\v->ds[i]?\d->Vw K H (λb=>¬ U b) v d)/\G ds\(d,dq)/\
 ∀v H' U',bT K H' U' 0 (oF v::(bW bp vs).map oF) (oF (.own d)::bU dq)->bH U H U' H'->Q v H'
noncomputable def i0 (n:Nat):Nat->oH Bool->oH D->En
 |j,oP::m,_::r=>oF (.aB (n + j) [])::i0 n (j + 1) m r
 |j,yv::m,d::r=>oF (.ro d)::i0 n j m r
 |_,_,_=> []
noncomputable def gP:En->oT (oH D)
 | []=>oF []
 |some (.own d)::r=>(gP r).map (d:: ·)
 |_=>oM
theorem HU:∀{ρ:En} {ds:oH D},gP ρ\ds->ρ=bU ds
 | [],ds,h=>by cases h;rfl
 |some (.own d)::r,ds,h=>by
  rw[gP]at h;let x h1 h2:=aY.mp h;subst h2;rw[HU h1];rfl
 |none::r,ds,h=>by simp[gP]at h
 |some (.ro d)::r,ds,h=>by simp[gP]at h
 |some (.aB _ _)::r,ds,h=>by simp[gP]at h
def kW(n:Nat)(bp:oH Bool)(ds:oH D):En:=i0 n 0 bp ds++ug (n - -bp) oM++bU (bW bp ds)
def dG(n:Nat)(bp:oH Bool)(f:En->oT Fl)(ds:oH D):oT (D×oH D):=match f (kW n bp ds) with
 |some (.rt d ρ')=>(gP (ρ'.drop n)).map λo=>(d,o)
 |some (.nx ρ')=>(gP (ρ'.drop n)).map λo=>(.sc .aG,o)
 |_=>oM
theorem HV(n:Nat):∀(j:Nat) {bp:oH Bool} {ds:oH D},ds.length=-bp->-(i0 n j bp ds)=-bp
 |j, [], [],_=>rfl
 |j, [],_::_,h=>by lk
 |j,_::_, [],h=>by lk
 |j,oP::m,_::r,h=>by rw[i0,p8,HV n _ (eF h)];rfl
 |j,yv::m,_::r,h=>by rw[i0,p8,HV n j (eF h)];rfl
theorem DN{α β:Type}:∀{bp:oH Bool} {xs:oH α} {ys:oH β},xs.length=-bp->-ys=-bp->-(bW bp xs)=-(bW bp ys)
 | [], [], [],_,_=>rfl
 | [],_::_,_,h,_=>by lk
 | [],_,_::_,_,h=>by lk
 |_::_, [],_,h,_=>by lk
 |_::_,_, [],_,h=>by lk
 |true::m,x::xs,y::ys,h,h'=>by rw[bW,bW,p8,p8,DN (eF h) (eF h')]
 |false::m,x::xs,y::ys,h,h'=>by rw[bW,bW,DN (eF h) (eF h')]
theorem HW(n:Nat):∀(j:Nat) {bp:oH Bool} {ds:oH D} {vs:oH V} {i:Nat} {β:B},ds.length=-bp->-vs=-bp->(i0 n j bp ds)[i]?\!β->
  (∃d,β= .ro d/\bp[i]?\yv/\ds[i]?\d)\/∃j' v,β= .aB (n + j') []/\j<=j'/\(bW bp vs)[j' - j]?\v/\vs[i]?\v
 |j, [],_,_,_,_,_,_,h=>by simp[i0]at h
 |j,_::_, [],_,_,_,h,_,_=>by lk
 |j,_::_,_, [],_,_,_,h,_=>by lk
 |j,oP::m,d::ds,v::vs,0,β,h1,h2,h=>by
  rw[i0]at h;cases h;exact .inr #[j,v,rfl,bO _,by rw[kj,bW];rfl,rfl]
 |j,oP::m,d::ds,v::vs,i + 1,β,h1,h2,h=>by
  rw[i0]at h;rcases HW n _ (bp:=m) (ds:=ds) (vs:=vs) (i:=i) (eF h1) (eF h2) (by simpa using h) with⟨x,a,b,c⟩ | ⟨j',x,a,b,c,e⟩
  .exact .inl #[x,a,by simpa using b,by simpa using c]
  .refine .inr #[j',x,a,by lia, ?_,by simpa using e];rw[bW,show j' - j=(j' - (j + 1)) + 1 by lia];simpa using c
 |j,yv::m,d::ds,v::vs,0,β,h1,h2,h=>by
  rw[i0]at h;cases h;exact .inl #[d,rfl,rfl,rfl]
 |j,yv::m,d::ds,v::vs,i + 1,β,h1,h2,h=>by
  rw[i0]at h;rcases HW n j (bp:=m) (ds:=ds) (vs:=vs) (i:=i) (eF h1) (eF h2) (by simpa using h) with⟨x,a,b,c⟩ | ⟨j',x,a,b,c,e⟩
  .exact .inl #[x,a,by simpa using b,by simpa using c]
  .exact .inr #[j',x,a,b,bW^^c,by simpa using e]
theorem bT.tail(h:bT K H U m (e++t) (ρ++τ))(hl:-e=-ρ)(xY:AI τ):∃Ut:zI->Prop,(∀b,Ut b->U b)/\bT K H Ut 0 t τ:=by
 let dw mu Fs dj sub sl:=h;rw[eO,eO]at dw;refine#[λb=>∃i,e.length<=i/\Fs i b,λb #[i,_,z]=>sub i b z,#[by lia,λb #[i,_,z]=>mu b (sub i b z),λi=>Fs (-e + i),λi j b hi hj=>by have:=dj _ _ b hi hj;lia,λi b hb=>#[_,by lia,hb],λi β aw=> ?_]];have AK:(ρ++τ)[e.length + i]?\!β:=by
  rw[hl,br b_,show -ρ + i - -ρ=i by lia];lk
 let v ev sv:=sl _ _ AK;rw[br b_,show -e + i - -e=i by lia]at ev;refine#[v,ev, ?_];cases β with
 |own d=>lk
 |ro d=>exact Vw.mono sv λb nb #[j,_,z]=>nb (sub j b z)
 |aB r p=>exact absurd rfl (xY _ (jr aw) r p)
theorem bT.pick{cC:oH V}{an1:oH D}(h:bT K H U 0 (vs.map oF) (bU ds))(hl:-cC=-an1)(π:Nat->Nat)(inj:∀i j,i < -cC->j < -cC->π i=π j->i=j)
  (hv:∀(i:Nat) (x:V),cC[i]?\x->vs[π i]?\x) (hd:∀(i:Nat) (x:D),an1[i]?\x->ds[π i]?\x):bT K H U 0 (cC.map oF) (bU an1):=by
 let dw mu Fs dj sub sl:=h;refine#[by rw[bU];rw[nI,nI];lk,mu,λi b=>i < -cC/\Fs (π i) b,λi j b hi hj=>inj i j hi.1 hj.1 (dj _ _ b hi.2 hj.2),λi b hb=>sub _ b hb.2,λi β aw=> ?_];rw[bU]at aw;rw[bJ]at aw;cases q:an1[i]? with
 |none=>rw[q]at aw;lk
 |some x=>
  rw[q]at aw;cases aw;let u hu:=pL hl q;let v ev sv:=sl (π i) _ (by rw[bU];rw[bJ,hd i x q];rfl);rw[bJ,hv i u hu]at ev;cases ev;exact#[u,by rw[bJ,hu];rfl,bg.mono sv λb z=>#[(cX.mp hu).1,z]]
theorem Qy{α:Type}{xs:oH α}{x:α}:∀(i:Nat) (y:α),(x::xs)[i]?\y->(xs++ [x])[if i=0 then -xs else i - 1]?\y:=λi y h=>by
 cases i with
 |zero=>simp at h |-;lk
 |succ i=>
  have h:xs[i]?\y:=by simpa using h
  rw[zK (Nat.succ_ne_zero i),Cq,aU (cX.mp h).1];lk
theorem bT.Qz(h:bT K H U 0 ((vs++ [v]).map oF) (bU (ds++ [d]))):bT K H U 0 ((v::vs).map oF) (bU (d::ds)):=by
 have hl:-vs=-ds:=by have:=h.len;rw[bU]at this;simp at this;lia
 refine h.pick (by simp[hl]) _ (λi j hi hj q=> ?_) Qy (hl^^Qy);rw[p8]at hi hj;by_cases c1:i=0
 .by_cases c2:j=0
  .lia
  .simp[zJ c1,zK c2]at q;lia
 .by_cases c2:j=0
  .simp[zK c1,zJ c2]at q;lia
  .simp[zK c1,zK c2]at q;lia
theorem aao{t:TS}[S:SS K n t f](h:dW K bp (dG n bp f) vs H Q X)(hm:-bp<=n):t { nx:=λ_ H'=>Q .aG H',rt:=Q } (jE n vs) H:=by
 let hv ds U d dq hd ok vw hG k:=h;have l1:=HV n 0 (bp:=bp) (ds:=ds) hd;have l2:=DN (bp:=bp) hv hd;have lE:-(kW n bp ds)=n + -(bW bp ds):=by
  rw[kW,bU];rw[eO,eO,l1,apO,nI]
  lia
 have sL:-(jE n vs)=n:=by rw[jE];simp;lia
 have I:aj K n H U (jE n vs) ((bW bp vs).map oF) (kW n bp ds) [] []:=by
  let ol mu Fs dj sub sl:=ok;refine#[#[by rw[jQ,jQ,nM,nM,eO,sL,lE,nI,l2],mu,λi b=>n<=i/\Fs (i - n) b,λi j b hi hj=>by have:=dj _ _ b hi.2 hj.2;lia,λi b hb=>sub _ b hb.2,λi β aw=> ?_],by rw[sL,nI,l2,lE],sL];rw[jQ,nM]at aw;rw[jQ,nM];by_cases hi:i < n
  .have mW:(i0 n 0 bp ds++ug (n - -bp) oM)[i]?\!β:=by
    rw[kW]at aw;rw[aU (by rw[eO,l1,apO];lia)]at aw;lk
   by_cases HP:i < -bp
   .rw[aU b_]at mW;have sv:∀v,vs[i]?\v->(jE n vs++(bW bp vs).map oF)[i]?\!v:=λv q=>by
     rw[aU b_];rw[jE];rw[aU f_,bJ,q];rfl
    rcases HW n 0 (vs:=vs) hd hv mW with⟨x,rfl,b,c⟩ | ⟨j',x,rfl,_,c,q⟩
    .let v QA:=pL (vs:=vs) b_ c;exact#[v,sv v QA,vw i v x b QA c]
    .refine#[x,sv x q, ?_,x, ?_, .nil x]
     .have:=(cX.mp c).1;rw[lE]
      lia
     .rw[br b_,sL,bJ,show n + j' - n=j' - 0 by lia,c];rfl
   .rw[br b_,NK]at mW
    split at mW <;> cases mW
  .have QB:(bU (bW bp ds))[i - n]?\!β:=by
    rw[kW]at aw;rw[br (by rw[eO,l1,apO];lia)]at aw;rw[eO,l1,apO,show -bp + (n - -bp)=n by lia]at aw;lk
   let v ev sv:=sl _ β QB;refine#[v,[br b_,sL]^^ev, ?_];cases β with
   |own x=>exact bg.mono sv λb z=>#[by lia,z]
   |ro x=>lk
   |aB r p=>exact absurd rfl (vO _ _ (jr QB) r p)
 have mm:∀{ρ':En} {v:V} {dg:oH (oT V)} {H':Hp} {U':zI->Prop},aj K n H' U' dg ((bW bp vs).map oF) ρ' [v] [d]->gP (ρ'.drop n)\dq->bH U H U' H'->Q v H':=λ{ρ' v dg H' U'} J ho st=>by
  have eo:=HU ho;have ln:=J.len;have nn:=J.nn;have er:ρ'=ρ'.take n++bU dq:=by rw[<- eo,aiD]
  have vR:=J.ok;have lt:-dg=-(ρ'.take n):=by rw[Ce];lia
  -- first ahg names go,then ahg last one comes to ahg front
  have vR:bT K H' U' (-ρ') (dg++((bW bp vs).map oF++ [!v])) (ρ'.take n++(bU dq++ [!.own d])):=by
   rw[<- b8, <- b8, <- er];lk
  let Ut su ot:=vR.tail lt λb hb q p=>by
   rcases lZ.mp hb with z | z
   .exact vO dq b z q p
   .rw[ly.mp z];exact λw=>nomatch w
  have HX:bT K H' Ut 0 ((bW bp vs++ [v]).map oF) (bU (dq++ [d])):=by
   rw[bU]at ot |-;rw[cK,cK];lk
  refine k v H' Ut HX.Qz λb o q nu=>#[(st b o q nu).1,λz=>(st b o q nu).2 (su b z)]
 rw[dG]at hG
 split at hG
 .next d' ρ' q=>
  let o h1 h2:=aY.mp hG;cases h2;exact S.s I q λv dg H' U' J st=>mm J h1 st
 .next ρ' q=>
  let o h1 h2:=aY.mp hG;cases h2;refine S.s I q λdg H' U' J st=>?_;let U2 J2 dJ:=J.push (aJ.refl H') (ou.sc (K:=K) .aG);exact mm J2 h1 (st.trans dJ)
 .lk
end
section
theorem aj.aap(I:aj K n H U σ hv ρ τv τd):bT K H U (-ρ) (σ++hv++τv.map oF) (ρ++bU τd):=I.ok
theorem aj.lend(I:aj K n H U σ hv ρ τv τd)(w:wq K H U (σ++hv) ρ v (.rt r p))(hr:aV ρ r\d0)(hg:aa d0 p\d1):
  aj K n H U σ hv (ρ.set r (!.own (aZ d0 p (.hl v)))) (τv++ [v]) (τd++ [d1]):=by
 have l:=I.len;have tl:=I.tl;let iN vr Qr er tT _ hp:=w;rw[hr]at tT;cases tT;refine#[?_,bN^^l,I.nn];have k:=I.aap.take (r:=r) (p:=p) (vr:=vr) f_ (aU iN^^L3 hr) (aU f_^^er) hp hg;rw[bN,cK,cK, <- b8, <- b8];rw[uT _ _ iN]at k;lk
theorem aj.back(I:aj K n H U σ hv ρ (τv++ [v]) (τd++ [d]))(hr:aV ρ r\d0)(hg:aa d0 p\.hl v):aj K n H U σ hv (ρ.set r (!.own (aZ d0 p d))) τv τd:=by
 have l:=I.len;have tl:=I.tl;have tl:-τv=-τd:=by simp at tl;lia
 have tS:=L3 hr;have iN:r < -ρ:=(cX.mp tS).1;have ok:=I.ok;rw[cK,cK, <- b8, <- b8]at ok;have k:=ok.put (r:=r) (d0:=d0) f_ f_ (aU iN^^tS) hg;rw[uT _ _ iN]at k;exact#[bN^^k,bN^^l,I.nn]
theorem aj.pick(I:aj K n H U σ hv ρ (τv++vs) (τd++ds))(hl:-vs=-ds)(h2:-cC=-an1)(π:Nat->Nat)(inj:∀i j,i < -cC->j < -cC->π i=π j->i=j)
  (iV:∀(i:Nat) (x:V),cC[i]?\x->vs[π i]?\x) (pA:∀(i:Nat) (x:D),an1[i]?\x->ds[π i]?\x):aj K n H U σ hv ρ (τv++cC) (τd++an1):=by
 have l:=I.len;have tl:=I.tl;have tl:-τv=-τd:=by simp at tl;lia
 let he mu Fs dj sub sl:=I.ok;have base:-(σ++hv++τv.map oF)=-ρ + -τd:=f_
 refine#[#[by simp;lia,mu,λi b=>if i < -ρ + -τd then Fs i b else i < -ρ + -τd + -cC/\Fs (-ρ + -τd + π (i - (-ρ + -τd))) b,λi j b hi hj=> ?_,λi b hb=> ?_,λi β aw=> ?_],l,I.nn]
 .have hi:if i < -ρ + -τd then Fs i b else i < -ρ + -τd + -cC/\Fs (-ρ + -τd + π (i - (-ρ + -τd))) b:=hi;have hj:if j < -ρ + -τd then Fs j b else j < -ρ + -τd + -cC/\Fs (-ρ + -τd + π (j - (-ρ + -τd))) b:=hj;by_cases ci:i < -ρ + -τd
  .rw[zJ ci]at hi;by_cases cj:j < -ρ + -τd
   .rw[zJ cj]at hj;exact dj i j b hi hj
   .rw[zK cj]at hj;have:=dj _ _ b hi hj.2;lia
  .rw[zK ci]at hi;by_cases cj:j < -ρ + -τd
   .rw[zJ cj]at hj;have:=dj _ _ b hi.2 hj;lia
   .rw[zK cj]at hj;have:=dj _ _ b hi.2 hj.2;have:=inj (i - (-ρ + -τd)) (j - (-ρ + -τd)) b_ b_ b_
    lia
 .have hb:if i < -ρ + -τd then Fs i b else i < -ρ + -τd + -cC/\Fs (-ρ + -τd + π (i - (-ρ + -τd))) b:=hb;by_cases ci:i < -ρ + -τd
  .rw[zJ ci]at hb;exact sub _ b hb
  .rw[zK ci]at hb;exact sub _ b hb.2
 .have e0:∀(zs:oH V) (j:Nat),j < -ρ + -τd->(σ++hv++(τv++zs).map oF)[j]?=(σ++hv++τv.map oF)[j]?:=λzs j hj=>by
   rw[cK, <- b8,aU b_]
  have lR:-(ρ++τd.map λd=>oF (B.own d))=-ρ + -τd:=e_
  by_cases hi:i < -ρ + -τd
  .have g1:(ρ++(τd++ds).map λd=>oF (B.own d))[i]?\!β:=by
    rw[cK, <- b8,aU b_]at aw |-;lk
   let v ev sv:=sl i β g1;refine#[v,by rw[e0 cC i hi];rw[e0 vs i hi]at ev;lk, ?_];have sv:=ox.slots sv λr hr=>by rw[e0 cC r b_,e0 vs r b_]
   cases β with
   |own x=>
    show bg K H (λb=>if i < -ρ + -τd then Fs i b else _) v x;simp[zJ hi];lk
   |ro x=>lk
   |aB r p=>lk
  .have g0:(an1.map λd=>oF (B.own d))[i - (-ρ + -τd)]?\!β:=by
    rw[cK, <- b8,br b_,lR]at aw;lk
   rw[bJ]at g0;cases q:an1[i - (-ρ + -τd)]? with
   |none=>rw[q]at g0;lk
   |some x=>
    rw[q]at g0;cases g0;let u hu:=pL h2 q;have g1:(ρ++(τd++ds).map λd=>oF (B.own d))[ρ.length + -τd + π (i - (-ρ + -τd))]?\!.own x:=by
     rw[cK, <- b8,br b_,lR,NX,bJ,pA _ x q];rfl
    let v ev sv:=sl _ _ g1;rw[cK, <- b8,br b_,base,NX,bJ,iV _ u hu]at ev;cases ev;have dS:i - (-ρ + -τd) < -cC:=(cX.mp hu).1;refine#[u,by rw[cK, <- b8,br b_,base,bJ,hu];rfl, ?_];show bg K H (λb=>if i < -ρ + -τd then _ else i < -ρ + -τd + -cC/\Fs (-ρ + -τd + π (i - (-ρ + -τd))) b) u x;simp[zK hi];exact bg.mono sv λb z=>#[by lia,z]
theorem aj.aaq(I:aj K n H U σ hv ρ (τv++ws++vs) (τd++wd++ds))(hl:-ws=-wd)(h2:-vs=-ds):aj K n H U σ hv ρ (τv++vs) (τd++ds):=by
 rw[b8,b8]at I;exact I.pick f_ h2 (λi=>-ws + i) (λi j _ _ h=>by lia) (λi x h=>[br b_,NX]^^h) (λi x h=>[hl,br b_,NX]^^h)
theorem QC{α:Type}{xs:oH α}{x:α}:∀(i:Nat) (y:α),(xs++ [x])[i]?\y->(x::xs)[if i=-xs then 0 else i + 1]?\y:=λi y h=>by
 by_cases c:i=-xs
 .subst c;simp at h |-;lk
 .have hi:i < -xs:=by
   have:=(cX.mp h).1;simp at this;lia
  rw[aU hi]at h;rw[zK c];simpa using h
theorem aj.QD(I:aj K n H U σ hv ρ (τv++(v::vs)) (τd++(d::ds)))(hl:-vs=-ds):aj K n H U σ hv ρ (τv++vs++ [v]) (τd++ds++ [d]):=by
 rw[b8,b8];refine I.pick (by simp;lk) (by simp;lk) _ (λi j hi hj h=> ?_) QC (hl^^QC);by_cases c1:i=-vs
 .by_cases c2:j=-vs
  .lia
  .simp only[zJ c1,zK c2]at h;lia
 .by_cases c2:j=-vs
  .simp only[zK c1,zJ c2]at h;lia
  .simp[zK c1,zK c2]at h;lia
structure Io where
 r:Nat
 p:List Nat
def gg:En->oH Io->oH V->En
 |ρ,io::L,v::vs=>match aV ρ io.r with
  |some d0=>gg (ρ.set io.r (!.own (aZ d0 io.p (.hl v)))) L vs
  |none=>ρ
 |ρ,_,_=>ρ
def i4:En->oH Io->oT (oH D)
 |_, []=>oF []
 |ρ,io::L=>(aV ρ io.r).bind λd0=>(aa d0 io.p).bind λd1=>(i4 ρ L).map (d1:: ·)
def g9(ρ0:En):En->oH Io->oH D->En
 |ρ,io::L,o::os=>match aV ρ0 io.r with
  |some d0=>g9 ρ0 (ρ.set io.r (!.own (aZ d0 io.p o))) L os
  |none=>ρ
 |ρ,_,_=>ρ
def jF(L:oH Io):Prop:=L.Pairwise λa b=>a.r≠b.r
instance (L:oH Io):Decidable (jF L):=inferInstanceAs (Decidable (L.Pairwise _))
theorem aj.QE:∀{L:oH Io} {ρ:En} {τv:oH V} {τd:oH D} {vs:oH V} {ds:oH D},aj K n H U σ hv ρ τv τd->jF L->i4 ρ L\ds->-vs=-L->(∀(i:Nat) (io:Io) (v:V),L[i]?\io->vs[i]?\v->wq K H U (σ++hv) ρ v (.rt io.r io.p))->
  aj K n H U σ hv (gg ρ L vs) (τv++vs) (τd++ds)
 | [],ρ,τv,τd,vs,ds,I,_,h,hl,_=>by
  cases h;have:vs= []:=sN hl;subst this;rw[nM,nM];simp[gg];lk
 |io::L,ρ,τv,τd, [],ds,I,_,h,hl,_=>by lk
 |io::L,ρ,τv,τd,v::vs,ds,I,ha,h,hl,hp=>by
  rw[i4]at h;let d0 h1 h:=i_ h;let d1 h2 h:=i_ h;let an1 h3 h:=aY.mp h;subst h;have ap:=FQ.mp ha;have I1:=I.lend (hp 0 io v rfl rfl) h1 h2;have QF:∀j∈L,aV (ρ.set io.r (!.own (aZ d0 io.p (.hl v)))) j.r=aV ρ j.r:=λj hj=>rP (ap.1 j hj);have aar:∀(M:oH Io) (hM:∀j∈M,j∈L) (ds:oH D),i4 ρ M\ds->i4 (ρ.set io.r (!.own (aZ d0 io.p (.hl v)))) M\ds:=by
   intro M
   induction M with
   |nil=>intro _ ds h;lk
   |cons j M ih=>
    intro hM ds h;rw[i4]at h |-;rw[QF j (hM j (.head _))];let a x1 h:=i_ h;let b x2 h:=i_ h;let c x3 h:=aY.mp h;rw[x1];show(aa a j.p).bind _=_;rw[x2];show(i4 _ M).map _=_;rw[ih (λk hk=>hM k (.tail _ hk)) c x3];exact congrArg oF h
  have I2:=I1.QE ap.2 (aar L (λj hj=>hj) an1 h3) (vs:=vs) (eF hl) λi j u hj hu=>by
   let q1 vr dd q2 q3 q4 q5:=hp (i + 1) j u (by simpa using hj) (by simpa using hu);exact#[bN^^q1,vr,dd,q2,QF j (jr hj)^^q3,q4,q5]
  rw[gg,h1];rw[sM,sM τd];lk
def tV(ρ1 ai:En):Prop:=∀s q,((aV ρ1 s).bind (aa · q)).isSome=((aV ai s).bind (aa · q)).isSome
theorem aas(h:tV ρ1 ai)(b:oT B):fO ρ1 b=fO ai b:=by
 cases b with
 |none=>rfl
 |some c=>
  cases c with
  |own d=>rfl
  |ro d=>rfl
  |aB r p=>
   show(if p= []\/((aV ρ1 r).bind _).isSome=oP then oF _ else oM)=(if p= []\/((aV ai r).bind _).isSome=oP then oF _ else oM);rw[h r p]
theorem tV.hole{d0 e0 d1 e1 x y:D}(h:tV ρ1 ai)(l1:r < -ρ1)(l2:r < -ai)(g:∀q,(aa (aZ d0 p x) q).isSome=(aa (aZ e0 p y) q).isSome):tV (ρ1.set r (!.own (aZ d0 p x))) (ai.set r (!.own (aZ e0 p y))):=λs q=>by
 by_cases c:r=s
 .subst c;rw[DJ l1,DJ l2];exact g q
 .rw[rP c,rP c];exact h s q
theorem vS:∀(ρ:En) (L:oH Io) (vs:oH V),(gg ρ L vs).length=-ρ
 |ρ, [],vs=>by simp[gg]
 |ρ,io::L, []=>by simp[gg]
 |ρ,io::L,v::vs=>by
  rw[gg];cases aV ρ io.r with
  |none=>rfl
  |some d0=>show(gg _ L vs).length=_;rw[vS,bN]
theorem aat(h:ρ1[s]?=ai[s]?):aV ρ1 s=aV ai s:=by unfold aV;rw[h]
theorem QG:∀{L:oH Io} {ρ1 ai:En} {vs us:oH V},jF L->tV ρ1 ai->-ρ1=-ai->(∀io∈L,∃d0 d1,aV ρ1 io.r\d0/\aV ai io.r\d0/\aa d0 io.p\d1)->-vs=-L->-us=-L->tV (gg ρ1 L vs) (gg ai L us)
 | [],ρ1,ai,vs,us,_,h,_,_,_,_=>by simp[gg];lk
 |io::L,ρ1,ai, [],us,_,_,_,_,h,_=>by lk
 |io::L,ρ1,ai,_, [],_,_,_,_,_,h=>by lk
 |io::L,ρ1,ai,v::vs,u::us,ha,h,hl,hr,l1,l2=>by
  let d0 d1 q1 q2 q3:=hr io (.head _);have ap:=FQ.mp ha;have r1:=(cX.mp (L3 q1)).1;rw[gg,gg,q1,q2];refine QG ap.2 (h.hole (d1:=d1) (e1:=d1) r1 b_ λq=>HI q3 rfl rfl (λ_ _=>by rw[aa]) λ_ _=>by rw[aa]) ([bN,bN]^^hl) (λj hj=> ?_) (eF l1) (eF l2);let e0 e1 x1 x2 x3:=hr j (.tail _ hj);exact#[e0,e1,rP (ap.1 j hj)^^x1,rP (ap.1 j hj)^^x2,x3]
theorem HY:∀{L:oH Io} {ρ:En} {ds:oH D},i4 ρ L\ds->∀io∈L,∃d0 d1,aV ρ io.r\d0/\aa d0 io.p\d1
 |io::L,ρ,ds,h,j,hj=>by
  rw[i4]at h;let d0 h1 h:=i_ h;let d1 h2 h:=i_ h;let an1 h3 h:=aY.mp h;cases hj with
  |head=>exact#[d0,d1,h1,h2]
  |tail _ hj=>exact HY h3 j hj
theorem aau(ha:jF L)(h:i4 ρ L\ds)(l1:vs.length=-L)(l2:us.length=-L):tV (gg ρ L vs) (gg ρ L us):=
 QG ha (λ_ _=>rfl) rfl (λio rS=>let #[d0,d1,a,b]:=HY h io rS;#[d0,d1,a,a,b]) l1 l2
theorem DO:∀{L:oH Io} {ρ:En} {vs:oH V} {s:Nat},(∀io∈L,io.r≠s)->(gg ρ L vs)[s]?=ρ[s]?
 | [],ρ,vs,s,_=>by simp[gg]
 |io::L,ρ, [],s,_=>by simp[gg]
 |io::L,ρ,v::vs,s,h=>by
  rw[gg];cases aV ρ io.r with
  |none=>rfl
  |some d0=>
   show(gg _ L vs)[s]?=_;rw[DO λj hj=>h j (.tail _ hj),gq (h io (.head _))]
theorem HZ:∀{L:oH Io} {ρ:En} {vs:oH V} {i:Nat} {io:Io} {d0:D},jF L->-vs=-L->L[i]?\io->aV ρ io.r\d0->(∀j∈L,∃e,aV ρ j.r\e)->∃v,vs[i]?\v/\aV (gg ρ L vs) io.r\aZ d0 io.p (.hl v)
 | [],ρ,vs,i,io,d0,_,_,h,_,_=>by simp at h
 |j::L,ρ, [],i,io,d0,_,h,_,_,_=>by lk
 |j::L,ρ,v::vs,0,io,d0,ha,hl,h,hr,al=>by
  cases h;have ap:=FQ.mp ha;have iN:=(cX.mp (L3 hr)).1;refine#[v,rfl, ?_];rw[gg,hr];rw[aat (DO λk hk=>(ap.1 k hk).symm),DJ iN]
 |j::L,ρ,v::vs,i + 1,io,d0,ha,hl,h,hr,al=>by
  have ap:=FQ.mp ha;let e he:=al j (.head _);have ne:=ap.1 io (jr h);rw[gg,he];let u hu q:=HZ (ρ:=ρ.set j.r (!_)) ap.2 (eF hl) h (rP ne^^hr) λk hk=>by
   let x hx:=al k (.tail _ hk);exact#[x,rP (ap.1 k hk)^^hx]
  exact#[u,by simpa using hu,q]
inductive Ar where
 |io (i:Io) | tm (d:D) | rv (q:Pl) (d:D)
inductive Nx(K:ah)(H:Hp)(U:zI->Prop)(e:List (Option V))(ρ:En):List Bool->List V->List Ar->List V->List D->Prop
 |nil:Nx K H U e ρ [] [] [] [] []
 |io {m:List Bool} {v:V} {i:Io} {vs:List V} {as:List Ar} {ws:List V} {wd:List D}:wq K H U e ρ v (.rt i.r i.p)->Nx K H U e ρ m vs as ws wd->Nx K H U e ρ (oP::m) (v::vs) (.io i::as) ws wd
 |tm {m:List Bool} {v:V} {d:D} {vs:List V} {as:List Ar} {ws:List V} {wd:List D}:Nx K H U e ρ m vs as ws wd->Nx K H U e ρ (yv::m) (v::vs) (.tm d::as) (v::ws) (d::wd)
 |rv {m:List Bool} {v:V} {q:Pl} {d:D} {vs:List V} {as:List Ar} {ws:List V} {wd:List D}:wq K H U e ρ v q->nT ρ q=oF d->Nx K H U e ρ m vs as ws wd->Nx K H U e ρ (yv::m) (v::vs) (.rv q d::as) ws wd
class tW(K:ah)(n:Nat)(bp:List Bool)(t:TA)(f:outParam (En->Option (List Ar))):Prop where
 s:∀{σ hv:List (Option V)} {H:Hp} {U:zI->Prop} {ρ:En} {τv:List V} {τd:List D} {as:List Ar} {Q:List V->Hp->Prop},aj K n H U σ hv ρ τv τd->f ρ=oF as->
  (∀vs ws wd H' U',aj K n H' U' σ hv ρ (τv++ws) (τd++wd)->ws.length=wd.length->bH U H U' H'->aJ H H'->Nx K H' U' (σ++hv) ρ bp vs as ws wd->Q vs H')->t σ H Q
class SC(K:ah)(n:Nat)(bp:List Bool)(t:TA)(f:outParam (En->Option (List Ar×En))):Prop where
 s:∀{σ hv:List (Option V)} {H:Hp} {U:zI->Prop} {ρ ρ':En} {τv:List V} {τd:List D} {as:List Ar} {Q:List V->Hp->Prop},aj K n H U σ hv ρ τv τd->f ρ=oF (as,ρ')->
  (∀vs ws wd H' U',aj K n H' U' σ hv ρ' (τv++ws) (τd++wd)->ws.length=wd.length->bH U H U' H'->Nx K H' U' (σ++hv) ρ' bp vs as ws wd->Q vs H')->t σ H Q
theorem wq.step(h:wq K H U e ρ v q)(s:aJ H H')(st:bH U H U' H'):wq K H' U' e ρ v q:=by
 cases q with
 |ro d=>
  exact h.over (λb o nb q=>st b o q nb) (gu.of s)
 |rt r p=>
  let a vr d b c e f:=h;exact#[a,vr,d,b,c,e,f.same s]
instance ajN:tW K n [] fz (λ_=>oF []):=#[λ{σ hv H U ρ τv τd as Q} I h k=>by
 cases h;exact k [] [] [] H U ([nM,nM]^^I) rfl (bH.refl U H) (aJ.refl H) .nil]
noncomputable def gn (fp:En->oT Pl) (fr:En->oT (oH Ar)) (ρ:En):oT (oH Ar):=(fp ρ).bind λ
 |.rt r p=>(fr ρ).map (.io #[r,p]:: ·)
 |.ro _=>oM
instance ajO[P:SP K n te fp][R:tW K n m tr fr]:tW K n (oP::m) (di te tr) (gn fp fr):=#[λ{σ hv H U ρ τv τd as Q} I h k=>by
 let q h1 h:=i_ h;cases q with
 |ro _=>lk
 |rt r p=>
  let DP h2 h:=aY.mp h;subst h;refine P.s I h1 λv H1 s1 w1=>?_;have gw:bH U H U H1:=λb o q nu=>#[s1 b o q,nu]
  refine R.s (I.same s1) h2 λvs ws wd H2 U2 I2 hl dJ s2 ao=>?_;exact k _ ws wd H2 U2 I2 hl (gw.trans dJ) (s1.trans s2) (.io (w1.step s2 dJ) ao)]
noncomputable def mr (fe:En->oT D) (fr:En->oT (oH Ar)) (ρ:En):oT (oH Ar):=(fe ρ).bind λd=>(fr ρ).map (.tm d:: ·)
instance (priority:=200) ajP{m:oH Bool}{te:TE}{tr:TA}{fe:En->oT D}{fr:En->oT (oH Ar)}[A:SQ K n te fe][R:tW K n m tr fr]:tW K n (yv::m) (di te tr) (mr fe fr):=#[λ{σ hv H U ρ τv τd as Q} I h k=>by
 let d h1 h:=i_ h;let DP h2 h:=aY.mp h;subst h;refine SQ.s I h1 λv H1 U1 I1 bQ s1=>?_;refine R.s I1 h2 λvs ws wd H2 U2 I2 hl dJ s2 ao=>?_;refine k _ _ _ H2 U2 ?_ (by rw[p8,p8,hl]) (bQ.trans dJ) (s1.trans s2) (.tm ao);rw[sM,sM τd];lk]
def fB(fp:En->oT Pl)(fr:En->oT (oH Ar))(ρ:En):oT (oH Ar):=(fp ρ).bind λq=>(nT ρ q).bind λd=>if plain d=oP then(fr ρ).map (.tm d:: ·) else(fr ρ).map (.rv q d:: ·)
instance (priority:=300) ajQ{m:oH Bool}{te:TE}{tr:TA}{fp:En->oT Pl}{fr:En->oT (oH Ar)}[P:SP K n te fp][R:tW K n m tr fr]:tW K n (yv::m) (di te tr) (fB fp fr):=#[λ{σ hv H U ρ τv τd as Q} I h k=>by
 let q h1 h:=i_ h;let d h2 h:=i_ h;refine P.s I h1 λv H1 s1 w1=>?_;have I1:=I.same s1;have gw:bH U H U H1:=λb o q nu=>#[s1 b o q,nu]
 by_cases p:plain d=oP
 .rw[zJ p]at h;let DP h3 h:=aY.mp h;subst h;let U1 AS bQ:=I1.push (aJ.refl H1) (ou.plain (I1.at w1 h2) p);refine R.s AS h3 λvs ws wd H2 U2 I2 hl dJ s2 ao=>?_;refine k _ _ _ H2 U2 ?_ (by rw[p8,p8,hl]) (gw.trans (bQ.trans dJ)) (s1.trans s2) (.tm ao);rw[sM,sM τd];lk
 .rw[zK p]at h;let DP h3 h:=aY.mp h;subst h;refine R.s I1 h3 λvs ws wd H2 U2 I2 hl dJ s2 ao=>?_;exact k _ ws wd H2 U2 I2 hl (gw.trans dJ) (s1.trans s2) (.rv (w1.step s2 dJ) h2 ao)]
instance (priority:=1000) ajR{bp:oH Bool}{t:TA}{f:En->oT (oH Ar)}[S:tW K n bp t f]:SC K n bp t (λρ=>(f ρ).map λa=>(a,ρ)):=#[λ{σ hv H U ρ ρ' τv τd as Q} I h k=>by
 let DP h1 h2:=aY.mp h;cases h2;exact S.s I h1 λvs ws wd H' U' I' hl st s ao=>k vs ws wd H' U' I' hl st ao]
noncomputable def lD (fe:En->oT (D×En)) (fr:En->oT (oH Ar×En)) (ρ:En):oT (oH Ar×En):=(fe ρ).bind λa=>(fr a.2).map λr=>(.tm a.1::r.1,r.2)
instance (priority:=200) aHJ{m:oH Bool}{te:TE}{tr:TA}{fe:En->oT (D×En)}{fr:En->oT (oH Ar×En)}[A:SM K n te fe][R:SC K n m tr fr]:SC K n (yv::m) (di te tr) (lD fe fr):=#[λ{σ hv H U ρ ρ' τv τd as Q} I h k=>by
 obtain⟨⟨d,ρ1⟩,h1,h⟩:=i_ h;obtain⟨⟨DP,ai⟩,h2,h⟩:=aY.mp h;cases h;refine A.s I h1 λv H1 U1 I1 bQ=>?_;refine R.s I1 h2 λvs ws wd H2 U2 I2 hl dJ ao=>?_;refine k (v::vs) (v::ws) (d::wd) H2 U2 ?_ (by rw[p8,p8,hl]) (bQ.trans dJ) (.tm ao);rw[sM,sM τd];lk]
def xm(fp:En->oT Pl)(fr:En->oT (oH Ar×En))(ρ:En):oT (oH Ar×En):=(fp ρ).bind λ
 |.rt r p=>if p= [] then(fr ρ).bind λa=>if(aV a.2 r).isSome=oP then oF (.io #[r, []]::a.1,a.2) else oM else oM
 |.ro _=>oM
instance (priority:=200) aHK{m:oH Bool}{te:TE}{tr:TA}{fp:En->oT Pl}{fr:En->oT (oH Ar×En)}[P:SP K n te fp][R:SC K n m tr fr]:SC K n (oP::m) (di te tr) (xm fp fr):=#[λ{σ hv H U ρ ρ' τv τd as Q} I h k=>by
 let q h1 h:=i_ h;cases q with
 |ro _=>lk
 |rt r p=>
  have h:(if p= [] then(fr ρ).bind λa=>if(aV a.2 r).isSome=oP then oF (Ar.io #[r, []]::a.1,a.2) else oM else oM)\(as,ρ'):=h;by_cases cp:p= []
  .rw[zJ cp]at h;subst cp;obtain⟨⟨DP,ai⟩,h2,h⟩:=i_ h;by_cases cr:(aV ai r).isSome=oP
   .have h:(if(aV ai r).isSome=oP then oF (Ar.io #[r, []]::DP,ai) else oM)\(as,ρ'):=h;rw[zJ cr]at h;cases h;let d' hd:=VD.mp cr;refine P.s I h1 λv H1 s1 w1=>?_;have gw:bH U H U H1:=λb o q nu=>#[s1 b o q,nu]
    refine R.s (I.same s1) h2 λvs ws wd H2 U2 I2 hl dJ ao=>?_;exact k (v::vs) ws wd H2 U2 I2 hl (gw.trans dJ) (.io (w1.root hd) ao)
   .have h:(if(aV ai r).isSome=oP then oF (Ar.io #[r, []]::DP,ai) else oM)\(as,ρ'):=h;rw[zK cr]at h;lk
  .rw[zK cp]at h;lk]
noncomputable def cT:oH Ar->oH Io
 | []=> []
 |.io i::r=>i::cT r
 |.tm _::r=>cT r
 |.rv _ _::r=>cT r
def mY(ρ:En):Ar->oT D
 |.io i=>(aV ρ i.r).bind (aa · i.p)
 |.tm d=>oF d
 |.rv _ d=>oF d
def gG(ρ:En):oH Ar->oT (oH D)
 | []=>oF []
 |a::r=>(mY ρ a).bind λd=>(gG ρ r).map (d:: ·)
noncomputable def kX:oH Nat->oH Nat->Bool
 |a::p,b::q=> not (decide (a=b)) || kX p q
 |_,_=>yv
def kY(L:oH Io):Ar->Bool
 |.rv (.rt r p) _=>L.all λi=> not (decide (i.r=r)) || kX i.p p
 |_=>oP
theorem QH:∀{p q:oH Nat} {d d1 x:D},kX p q=oP->aa d p\d1->plain x=yv->aa (aZ d p x) q=aa d q
 | [],_,_,_,_,h,_,_=>by simp[kX]at h
 |_::_, [],_,_,_,h,_,_=>by simp[kX]at h
 |a::p,b::q, .sc _,d1,x,h,g,hx=>by rw[aa]at g;lk
 |a::p,b::q, .hl _,d1,x,h,g,hx=>by rw[aa]at g;lk
 |a::p,b::q, .nd k cs,d1,x,h,g,hx=>by
  rw[aa]at g;by_cases dM:cg k=oP/\bI cs=oP
  .rw[zJ dM]at g;lk
  rw[zK dM]at g;cases hc:cs[a]? with
  |none=>rw[hc]at g;lk
  |some c=>
   rw[hc]at g;have hn:=(cX.mp hc).1;have e1:aZ (.nd k cs) (a::p) x= .nd k (cs.set a (aZ c p x)):=by rw[aZ,hc]
   have px:=xZ hn (ya g hx);rw[e1,aa,aa,zK (by rintro⟨_,z⟩;rw[px]at z;lk),zK dM];by_cases e:a=b
   .subst e;rw[gK hn,hc];have h:kX p q=oP:=by simpa[kX]using h
    exact QH h g hx
   .rw[gq e]
def j3(ρ:En)(L:oH Io)(dq:oH D):En:=g9 ρ (eT (gg ρ L (L.map λ_=>V.aG))) L dq
theorem Nx.len(h:Nx K H U e ρ m vs as ws wd):-vs=-m/\-as=-m/\-ws=-wd:=by
 induction h with
 |nil=>exact#[rfl,rfl,rfl]
 |io _ _ ih=>exact#[congrArg _ ih.1,congrArg _ ih.2.1,ih.2.2]
 |tm _ ih=>exact#[congrArg _ ih.1,congrArg _ ih.2.1,congrArg _ ih.2.2]
 |rv _ _ _ ih=>exact#[congrArg _ ih.1,congrArg _ ih.2.1,ih.2.2]
theorem Nx.aav(h:Nx K H U e ρ m vs as ws wd):-(bW m vs)=-(cT as)/\∀(i:Nat) (io:Io) (v:V),(cT as)[i]?\io->(bW m vs)[i]?\v->wq K H U e ρ v (.rt io.r io.p):=by
 induction h with
 |nil=>exact#[rfl,λi io v h=>by simp[cT]at h]
 | @io m v i vs as ws wd p _ ih=>
  refine#[by rw[bW,cT,p8,p8,ih.1],λj io u h1 h2=> ?_];rw[cT]at h1;rw[bW]at h2;cases j with
  |zero=>cases h1;cases h2;lk
  |succ j=>exact ih.2 j io u (by simpa using h1) (by simpa using h2)
 |tm _ ih=>rw[bW,cT];lk
 |rv _ _ _ ih=>rw[bW,cT];lk
theorem Nx.QI(h:Nx K H U e ρ m vs as ws wd):∀{ds:oH D},gG ρ as\ds->-ds=-m/\i4 ρ (cT as)\bW m ds:=by
 induction h with
 |nil=>intro ds q;cases q;exact#[rfl,rfl]
 | @io m v i vs as ws wd p _ ih=>
  intro ds q;rw[gG]at q;let x q1 q:=i_ q;let r q2 q:=aY.mp q;subst q;let l1 l2:=ih q2;refine#[congrArg _ l1, ?_];let d0 x1 x2:=i_ q1;rw[cT,i4,bW,x1];show(aa d0 i.p).bind _=_;rw[x2];show(i4 ρ _).map _=_;rw[l2];rfl
 |tm _ ih=>
  intro ds q;rw[gG]at q;let x q1 q:=i_ q;let r q2 q:=aY.mp q;subst q;let l1 l2:=ih q2;exact#[congrArg _ l1,l2]
 |rv _ _ _ ih=>
  intro ds q;rw[gG]at q;let x q1 q:=i_ q;let r q2 q:=aY.mp q;subst q;let l1 l2:=ih q2;exact#[congrArg _ l1,l2]
theorem Nx.seen(h:Nx K H U e ρ m vs as ws wd):∀{ds:oH D},gG ρ as\ds->(∀(i:Nat) (w:V) (d:D),ws[i]?\w->wd[i]?\d->Vw K H N w d)->
  (∀q d v,wq K H U e ρ v q->nT ρ q\d->Ar.rv q d∈as->Vw K H N v d)->∀(i:Nat) (v:V) (d:D),m[i]?\yv->vs[i]?\v->ds[i]?\d->Vw K H N v d:=by
 induction h with
 |nil=>intro ds q _ _ i v d h;simp at h
 |io _ _ ih=>
  intro ds q hw hs i v d h1 h2 h3;rw[gG]at q;let x q1 q:=i_ q;let r q2 q:=aY.mp q;subst q;cases i with
  |zero=>cases h1
  |succ i=>exact ih q2 hw (λq d v a b c=>hs q d v a b (.tail _ c)) i v d (by simpa using h1) (by simpa using h2) (by simpa using h3)
 |tm _ ih=>
  intro ds q hw hs i v d h1 h2 h3;rw[gG]at q;let x q1 q:=i_ q;let r q2 q:=aY.mp q;subst q;cases q1;cases i with
  |zero=>cases h2;cases h3;exact hw 0 _ _ rfl rfl
  |succ i=>exact ih q2 (λi w d a b=>hw (i + 1) w d (by simpa using a) (by simpa using b)) (λq d v a b c=>hs q d v a b (.tail _ c)) i v d (by simpa using h1) (by simpa using h2) (by simpa using h3)
 |rv p1 p2 _ ih=>
  intro ds q hw hs i v d h1 h2 h3;rw[gG]at q;let x q1 q:=i_ q;let r q2 q:=aY.mp q;subst q;cases q1;cases i with
  |zero=>cases h2;cases h3;exact hs _ _ _ p1 p2 (.head _)
  |succ i=>exact ih q2 hw (λq d v a b c=>hs q d v a b (.tail _ c)) i v d (by simpa using h1) (by simpa using h2) (by simpa using h3)
theorem aj.QJ(ρ0:En):∀{L:oH Io} {ρ:En} {vs:oH V} {dq:oH D},aj K n H U σ hv ρ (τv++vs) (τd++dq)->jF L->-vs=-L->-dq=-L->
  (∀(i:Nat) (io:Io) (v:V),L[i]?\io->vs[i]?\v->∃d0 d1,aV ρ0 io.r\d0/\aa d0 io.p\d1/\aV ρ io.r\aZ d0 io.p (.hl v))->aj K n H U σ hv (g9 ρ0 ρ L dq) τv τd
 | [],ρ,vs,dq,I,_,h1,h2,_=>by
  have e1:=sN h1;have e2:=sN h2;subst e1;subst e2;rw[nM,nM]at I;lk
 |io::L,ρ, [],dq,I,_,h1,h2,_=>by lk
 |io::L,ρ,v::vs, [],I,_,h1,h2,_=>by lk
 |io::L,ρ,v::vs,o::dq,I,ha,h1,h2,hq=>by
  have ap:=FQ.mp ha;let d0 d1 q1 q2 q3:=hq 0 io v rfl rfl;have I1:=(I.QD (by have:=eF h1;have:=eF h2;lia)).back q3 (HC q2 rfl);rw[HD q2]at I1;rw[g9,q1];refine I1.QJ ρ0 ap.2 (eF h1) (eF h2) λi j u hj hu=>?_;let e0 e1 x1 x2 x3:=hq (i + 1) j u (by simpa using hj) (by simpa using hu);exact#[e0,e1,x1,x2,rP (ap.1 j (jr hj))^^x3]
theorem H9(ρ0:En):∀(ρ:En) (L:oH Io) (dq:oH D),(g9 ρ0 ρ L dq).length=-ρ
 |ρ, [],_=>by simp[g9]
 |ρ,io::L, []=>by simp[g9]
 |ρ,io::L,o::os=>by
  rw[g9];cases aV ρ0 io.r with
  |none=>rfl
  |some d0=>show(g9 ρ0 _ L os).length=_;rw[H9,bN]
theorem QK(ρ0:En):∀{L:oH Io} {ρ1 ai:En} {dq:oH D},ρ1.length=-ai->-dq=-L->(∀io∈L,∃d0,aV ρ0 io.r\d0)->(∀io∈L,io.r < -ρ1)->(∀(i:Nat) (β:B),(∀io∈L,io.r≠i)->ρ1[i]?\!β->ai[i]?\!β)->
  ∀(i:Nat) (β:B),(g9 ρ0 ρ1 L dq)[i]?\!β->(g9 ρ0 ai L dq)[i]?\!β
 | [],ρ1,ai,dq,_,_,_,_,h,i,β,q=>by
  exact h i β (λ_ z=>nomatch z) q
 |io::L,ρ1,ai, [],_,h,_,_,_,_,_,_=>by lk
 |io::L,ρ1,ai,o::os,hl,h2,hr,dS,h,i,β,q=>by
  let d0 e0:=hr io (.head _);rw[g9,e0]at q |-;refine QK ρ0 ([bN,bN]^^hl) (eF h2) (λj hj=>hr j (.tail _ hj)) (λj hj=>bN^^dS j (.tail _ hj)) (λj γ hj z=> ?_) i β q;by_cases c:io.r=j
  .subst c;have:=dS io (.head _);rw[gK this]at z;rw[gK b_];lk
  .rw[gq c]at z |-;exact h j γ (λk hk=>by
    cases hk with
    |head=>lk
    |tail _ hk=>exact hj k hk) z
theorem aj.weaken(I:aj K n H U σ hv ai τv τd)(hl:ρ.length=-ai)(w:∀(i:Nat) (β:B),ρ[i]?\!β->ai[i]?\!β):aj K n H U σ hv ρ τv τd:=by
 have l:=I.len;refine#[?_,hl^^l,I.nn];rw[hl];refine I.ok.weaken (by simp[hl]) λi β h=>?_;by_cases hi:i < -ρ
 .rw[aU hi]at h;rw[aU b_];exact w i β h
 .rw[br b_]at h;rw[br b_, <- hl];lk
theorem aj.sets(I:aj K n H U σ hv ρ (τv++ws) (τd++wd))(hl:-ws=-wd)(i:Nat){d:D}(h1:ws[i]?\w)(h2:wd[i]?\d):(σ++hv++(τv++ws).map oF)[ρ.length + -τd + i]?\!w/\(ρ++bU (τd++wd))[ρ.length + -τd + i]?\!.own d:=by
 have l:=I.len;have tl:=I.tl;have tl:-τv=-τd:=by simp at tl;lia
 constructor
 .rw[br f_,bJ,br f_];rw[show -ρ + -τd + i - -(σ++hv) - -τv=i by simp;lia,h1];rfl
 .rw[bU];rw[br b_,bJ,br b_];rw[show -ρ + -τd + i - -ρ - -τd=i by lia,h2];rfl
def fL(G:oH D->oT (D×oH D))(as:oH Ar)(ρ1:En):oT (D×En):=(gG ρ1 as).bind λds=>
 if jF (cT as)/\as.all (kY (cT as))=oP then(G ds).bind λr=>if -r.2=-(cT as) then oF (r.1,j3 ρ1 (cT as) r.2) else oM else oM
theorem aj.Ia{G:oH D->oT (D×oH D)}{Q:VK}{ρ1:En}(I1:aj K n H1 U1 σ hv ρ1 (τv++ws) (τd++wd))(hl:-ws=-wd)(bQ:bH U H U1 H1)(ao:Nx K H1 U1 (σ++hv) ρ1 bp vs as ws wd)
  (h:fL G as ρ1\(d,ρ')) (k:∀v H' U',aj K n H' U' σ hv ρ' (τv++ [v]) (τd++ [d])->bH U H U' H'->Q v H'):dW K bp G vs H1 Q E:=by
 let ds h2 h:=i_ h;have c:jF (cT as)/\as.all (kY (cT as))=oP:=by
  by_cases c:jF (cT as)/\as.all (kY (cT as))=oP
  .lk
  .rw[zK c]at h;lk
 rw[zJ c]at h;obtain⟨⟨d',dq⟩,h3,h⟩:=i_ h;have h:(if -dq=-(cT as) then oF (d',j3 ρ1 (cT as) dq) else oM)\(d,ρ'):=h;have co:-dq=-(cT as):=by
  by_cases co:-dq=-(cT as)
  .lk
  .rw[zK co]at h;lk
 rw[zJ co]at h;cases h;have dw:=ao.len;let il aaw:=ao.aav;let dl Ib:=ao.QI h2;have I2:=I1.QE c.1 Ib il aaw;have l2:=I2.len;have Ic:=I1.tl;have lh:-(gg ρ1 (cT as) (bW bp vs))=-ρ1:=vS _ _ _;have aax:-(bW bp vs)=-(bW bp ds):=DN dw.1 dl
 -- fm is QI is parted from all else
 have HM:bT K H1 U1 (-ρ1) ((σ++hv++(τv++ws).map oF)++(bW bp vs).map oF) ((gg ρ1 (cT as) (bW bp vs)++bU (τd++wd))++bU (bW bp ds)):=by
  have:=I2.ok;rw[lh,cK,cK (l₁:=τd++wd), <- b8, <- b8]at this;lk
 have lE:-(σ++hv++(τv++ws).map oF)=-(gg ρ1 (cT as) (bW bp vs)++bU (τd++wd)):=by
  rw[bU];have l1:=I1.len;simp[lh]at Ic |-
  lia
 have hm:-ρ1<=-(σ++hv++(τv++ws).map oF):=by have l1:=I1.len;simp;lia
 let Ut su aay seen back:=HM.call lE hm (vO _);have yb:=HY Ib;refine#[dw.1,ds,Ut,d,dq,dl,aay,ao.seen h2 (λi w x hw hx=> ?_) (λq x u pq pd mem=> ?_),h3,λv H2 U2 DK gZ=> ?_]
 ·-- fm is under way
  let g1 g2:=I2.drop (vs:=bW bp vs) (ds:=bW bp ds) aax |>.sets hl i hw hx;rw[lh]at g1;let F r nf:=(seen _ w x g1).1 (by rw[lh]at g2;lk);exact r.view nf
 ·-- fm is only seen
  cases q with
  |ro y=>
   have pd:oF y\x:=pd;cases pd;have pq:Vw K H1 (λb=>¬ U1 b) u x:=pq;exact pq.mono λb nb z=>nb (su b z)
  |rt r p=>
   let hr vr d0 er rR hg hp:=pq;have QL:(aV ρ1 r).bind (aa · p)\x:=pd;rw[rR]at QL;have QM:aa d0 p\x:=QL;have AU:(σ++hv++(τv++ws).map oF)[r]?\!vr:=aU (by have l1:=I1.len;simp;lia)^^er
   have aaz:∀io∈cT as,io.r≠r\/kX io.p p=oP:=by
    have:=gA.mp c.2 _ mem;have:=gA.mp this;intro io rS;have:=this io rS;by_cases z:io.r=r
    .right;simpa[z]using this
    .left;lk
   by_cases AV:∃(i:Nat) (io:Io),(cT as)[i]?\io/\io.r=r
   .let i io hi e:=AV;subst e;let v2 Ie q:=HZ (vs:=bW bp vs) c.1 il hi rR λj hj=>let #[a,_,b,_]:=yb j hj;#[a,b];let a0 a1 b0 b1:=yb io (jr hi);rw[rR]at b0;cases b0;have q':=L3 q;let F rr nf:=(seen io.r vr _ AU).1 (aU b_^^q');have ap:=(aaz io (jr hi)).resolve_left λz=>z rfl;exact rr.sub (QH ap b1 rfl^^QM) hp nf
   .have q:(gg ρ1 (cT as) (bW bp vs))[r]?\!.own d0:=by
     rw[DO λio rS z=>by
      let i hi:=V5.mp rS;exact AV #[i,io,hi,z]]
     exact L3 rR
    let F rr nf:=(seen r vr _ AU).1 (aU b_^^q);exact rr.sub QM hp nf
 ·-- all is given back
  let U3 DQ g8:=back H2 U2 _ _ DK gZ λb hb=>by
   cases hb with
   |head=>exact .inr #[d,rfl]
   |tail _ hb=>exact Z8 dq b hb
  have I3:aj K n H2 U3 σ hv (eT (gg ρ1 (cT as) (bW bp vs))) (τv++ws++(v::bW bp vs)) (τd++wd++(d::dq)):=by
   refine#[?_,[iE,lh]^^I1.len,I1.nn];rw[iE,lh];have aaA:bT K H2 U3 (-ρ1) (σ++hv++(τv++ws).map oF++(v::bW bp vs).map oF) ((eT (gg ρ1 (cT as) (bW bp vs))++bU (τd++wd))++bU (d::dq)):=by
    refine DQ.weaken (by rw[eO,eO,eO,iE,iE,eO];rfl) λi β aw=> ?_;by_cases hi:i < -ρ1 + -(τd++wd)
    .rw[aU (by simp[iE,bU,lh]at hi |-;lia)]at aw;rw[aU (by simp[iE,bU,lh]at hi |-;lia)];exact Qq (vO _) i β aw
    .rw[br (by simp[iE,bU,lh]at hi |-;lia)]at aw;rw[br (by simp[iE,bU,lh]at hi |-;lia)];simp[iE,bU,lh]at aw |-;lk
   rw[cK (l₁:=τv++ws),cK (l₁:=τd++wd), <- b8, <- b8];lk
  have I4:=I3.aaq hl (by rw[p8,p8,il,co]);have I5:aj K n H2 U3 σ hv (eT (gg ρ1 (cT as) (bW bp vs))) (τv++ [v]++bW bp vs) (τd++ [d]++dq):=by
   rw[<- sM, <- sM];lk
  have I6:=I5.QJ ρ1 (L:=cT as) c.1 il co λi io u hi hu=>by
   let a0 a1 b0 b1:=yb io (jr hi);let v2 Ie q:=HZ (vs:=bW bp vs) c.1 il hi b0 λj hj=>let #[a,_,b,_]:=yb j hj;#[a,b];rw[hu]at Ie;cases Ie;exact#[a0,a1,b0,b1,by rw[aV];rw[Qp (L3 q)]]
  refine k v H2 U3 (I6.weaken ?_ ?_) (bQ.trans g8)
  .rw[j3];rw[H9,H9,iE,iE,vS,vS]
  .rw[j3];refine QK ρ1 (by rw[iE,iE,vS,vS]) co (λio rS=>let #[a,_,b,_]:=yb io rS;#[a,b]) (λio rS=> ?_) λi β hi aw=> ?_
   .let a _ b _:=yb io rS;rw[iE,vS];exact(cX.mp (L3 b)).1
   .rw[eT]at aw |-;rw[bJ,DO hi]at aw |-;rw[<- aw];have sim:tV (gg ρ1 (cT as) (bW bp vs)) (gg ρ1 (cT as) ((cT as).map λ_=>V.aG)):=aau c.1 Ib il e_
    congr 1
    funext b;exact aas sim b
instance ajS[A:SC K n bp ta fa]:SM K n (og (dW K bp G) [] E ta) (λρ=>(fa ρ).bind λa=>fL G a.1 a.2):=#[λ{σ hv H U ρ ρ' τv τd d Q} I h k=>by
 obtain⟨⟨as,ρ1⟩,h1,h⟩:=i_ h;refine A.s I h1 λvs ws wd H1 U1 I1 hl bQ ao=>?_;rw[nM];exact I1.Ia hl bQ ao h k]
def jG(K:ah)(H H':Hp)(vs:oH V)(ds:oH D):Prop:=-vs=-ds/\∃Fs:Nat->zI->Prop,(∀i j b,Fs i b->Fs j b->i=j)/\(∀i b,Fs i b->H b=oM/\iB (H' b))/\∀(i:Nat) (v:V) (d:D),vs[i]?\v->ds[i]?\d->bg K H' (Fs i) v d
theorem jG.nil:jG K H H' [] []:=#[rfl,λ_ _=>False,λ_ _ _ z=>z.elim,λ_ _ z=>z.elim,λi v d h=>by simp at h]
theorem jG.cons(o:ou K H H1 v d)(s1:aJ H1 H2)(t:jG K H1 H2 vs ds)(s0:aJ H H1):jG K H H2 (v::vs) (d::ds):=by
 let G r f:=o;let hl Fs dj fr rp:=t;have Gn:∀b,G b->∀i,¬ Fs i b:=λb z i w=>by
  let u q:=rN (f b z).2;rw[(fr i b w).1]at q;lk
 refine#[by rw[p8,p8,hl],λi b=>match i with | 0=>G b | i + 1=>Fs i b,λi j b hi hj=> ?_,λi b hb=> ?_,λi x y hx hy=> ?_]
 .cases i with
  |zero=>cases j with
   |zero=>rfl
   |succ j=>exact absurd hj (Gn b hi j)
  |succ i=>cases j with
   |zero=>exact absurd hi (Gn b hj i)
   |succ j=>rw[dj i j b hi hj]
 .cases i with
  |zero=>exact#[(f b hb).1,AL (f b hb).2 s1]
  |succ i=>
   refine#[?_,(fr i b hb).2];cases q:H b with
   |none=>rfl
   |some o=>have:=(fr i b hb).1;rw[s0 b o q]at this;lk
 .cases i with
  |zero=>cases hx;cases hy;exact r.same s1
  |succ i=>exact rp i x y (by simpa using hx) (by simpa using hy)
theorem jG.node(h:jG K H H1 vs ds)(s:aJ H H1)(hp:H1 p=oM)(hold:(k= .tup/\o= .tup vs)\/(cg k=yv/\fits K k (-vs)/\∃dx,o=ho k dx vs)):ou K H (dm H1 p o) (.ref p) (.nd k ds):=by
 let hl Fs dj fr rp:=h;have s2:=fE hp o;have np:∀i,¬ Fs i p:=λi z=>by
  let u w:=rN (fr i p z).2;rw[hp]at w;lk
 have aaB:=s.free hp;refine#[λb=>(∃i,Fs i b)\/(cg k=yv/\b=p), .nd Fs ?_ hl dj (λi b hb=>#[.inl #[i,hb],λ_ z=>by rw[z]at hb;exact np i hb]) λi v d hv hd=>(rp i v d hv hd).same s2,λb hb=> ?_]
 .rcases hold with⟨h1,h2⟩ | ⟨h1,h2,dx,h3⟩
  .subst h1;show dm H1 p o p\_;rw[uB,h2]
  .exact jB.put h1 (.inr #[h1,rfl]) #[h1,h2,dx,by rw[uB,h3]]
 .rcases hb with⟨i,hb⟩ | ⟨h1,rfl⟩
  .exact#[(fr i b hb).1,AL (fr i b hb).2 s2]
  .refine#[aaB, ?_];rcases hold with⟨z,_⟩ | ⟨_,_,dx,h3⟩
   .subst z;lk
   .rw[uB,h3];exact Ql (a:=b) h1
class yc(K:ah)(n:Nat)(t:TA)(f:outParam (En->Option (List D))):Prop where
 s:∀{σ hv:List (Option V)} {H:Hp} {U:zI->Prop} {ρ:En} {τv:List V} {τd:List D} {ds:List D} {Q:List V->Hp->Prop},aj K n H U σ hv ρ τv τd->f ρ=oF ds->(∀vs H',aJ H H'->jG K H H' vs ds->Q vs H')->t σ H Q
instance ajT:yc K n fz (λ_=>oF []):=#[λI h k=>by cases h;exact k [] _ (aJ.refl _) .nil]
instance ajU[A:SQ K n ta fa][R:yc K n tr fr]:yc K n (di ta tr) (ar fa fr):=#[λ{σ hv H U ρ τv τd ds Q} I h k=>by
 let a ha h:=i_ h;let r hr h:=aY.mp h;cases h;refine A.o I ha λx H1 s1 o1=>?_;exact R.s (I.same s1) hr λxs H2 s2 o2=>k _ H2 (s1.trans s2) (jG.cons o1 s2 o2 s1)]
noncomputable def d7 (k:Kd) (f:En->oT (oH D)) (ρ:En):oT D:=(f ρ).bind λr=>if -r<=aM then oF (.nd k r) else oM
instance ajV[A:yc K n ta fa]:SF K n (Ai ta) (d7 .tup fa):=#[λ{σ hv H U ρ τv τd d Q} I h k=>by
 let a ha h:=i_ h;by_cases c:-a<=aM
 .rw[zJ c]at h;cases h;refine A.s I ha λxs H1 s1 o=>#[o.1^^c,λp hp=> ?_]
  exact k _ _ (s1.trans (fE hp _)) (o.node s1 hp (.inl #[rfl,rfl]))
 .rw[zK c]at h;lk]
instance ajW[A:yc K n ta fa]:SF K n (aoK ta) (d7 .lst fa):=#[λ{σ hv H U ρ τv τd d Q} I h k=>by
 let a ha h:=i_ h;by_cases c:-a<=aM
 .rw[zJ c]at h;cases h;refine A.s I ha λxs H1 s1 o=>#[o.1^^c,λp hp=> ?_]
  exact k _ _ (s1.trans (fE hp _)) (o.node s1 hp (.inr #[rfl,trivial,0,rfl]))
 .rw[zK c]at h;lk]
theorem gF.node(h:gF K H T1 vs ds)(hp:H p=oM)(hold:(k= .tup/\o= .tup vs)\/(cg k=yv/\fits K k (-vs)/\∃dx,o=ho k dx vs)):Vw K (dm H p o) T1 (.ref p) (.nd k ds):=by
 refine .nd (λ_=>trivial) ?_ h.1 λi v d hv hd=>(h.2 i v d hv hd).same (fE hp o);rcases hold with⟨h1,h2⟩ | ⟨h1,h2,dx,h3⟩
 .subst h1;exact#[trivial,by show dm H p o p\_;rw[uB,h2]]
 .exact qt.cell #[h1,h2,dx,by rw[uB,h3]]
instance (priority:=800) ajX{ta:TA}{fa:En->oT (oH D)}[A:SA K n ta fa]:SV K n (Ai ta) (d7 .tup fa):=#[λ{σ hv H U ρ τv τd d Q} I h k=>by
 let a ha h:=i_ h;by_cases c:-a<=aM
 .rw[zJ c]at h;cases h;refine A.s I ha λxs H1 s1 o=>#[o.1^^c,λp hp=> ?_]
  exact k _ _ (s1.trans (fE hp _)) (o.node hp (.inl #[rfl,rfl]))
 .rw[zK c]at h;lk]
instance (priority:=800) ajY{ta:TA}{fa:En->oT (oH D)}[A:SA K n ta fa]:SV K n (aoK ta) (d7 .lst fa):=#[λ{σ hv H U ρ τv τd d Q} I h k=>by
 let a ha h:=i_ h;by_cases c:-a<=aM
 .rw[zJ c]at h;cases h;refine A.s I ha λxs H1 s1 o=>#[o.1^^c,λp hp=> ?_]
  exact k _ _ (s1.trans (fE hp _)) (o.node hp (.inr #[rfl,trivial,0,rfl]))
 .rw[zK c]at h;lk]
open Classical in
noncomputable def intD (C:Int->Int->Prop) (g:Int->Int->V) (a b:D):oT D:=match a,b with
 |.sc (.int i), .sc (.int j)=>if C i j then oF (.sc (g i j)) else oM
 |_,_=>oM
noncomputable def iO (g:Int->Int->V) (a b:D):oT D:=match a,b with
 |.sc (.int i), .sc (.int j)=>oF (.sc (g i j))
 |_,_=>oM
instance ajZ:jD K (qj g) (iO g):=#[λ{H x y dx dy d Q} w1 w2 h k=>by
 unfold iO at h
 split at h
 .next i j=>cases h;exact#[i,j,w1.bA,w2.bA,k _ H (aJ.refl H) (.sc _)]
 .lk]
instance aj0:jD K (rI C g) (intD C g):=#[λ{H x y dx dy d Q} w1 w2 h k=>by
 unfold intD at h
 split at h
 .next i j=>
  by_cases c:C i j
  .rw[zJ c]at h;cases h;exact#[i,j,w1.bA,w2.bA,c,k _ H (aJ.refl H) (.sc _)]
  .rw[zK c]at h;lk
 .lk]
noncomputable def lP (g:Int->V) (a:D):oT D:=match a with
 |.sc (.int i)=>oF (.sc (g i))
 |_=>oM
instance aj1:Qj K (rU g) (lP g):=#[λ{H x dx d Q} w1 h k=>by
 unfold lP at h
 split at h
 .next i=>cases h;exact#[i,w1.bA,k _ H (aJ.refl H) (.sc _)]
 .lk]
mutual
noncomputable def cy:D->oT PyData
 |.sc .aG=>oF .none
 |.sc (.bl b)=>oF (.bool b)
 |.sc (.int i)=>oF (.int i)
 |.sc (.str x)=>oF (.str x)
 |.nd .tup cs=>(ky cs).map .tuple
 |.nd .lst cs=>(ky cs).map .list
 |.nd .dk cs=>(ky cs).map .list
 |_=>oM
noncomputable def ky:oH D->oT (oH PyData)
 | []=>oF []
 |d::ds=>(cy d).bind λx=>(ky ds).map (x:: ·)
end
theorem DR:∀{ds:oH D} {vs:oH V} {ps:oH PyData},vs.length=-ds->(∀(i:Nat) (v:V) (d:D) (p:PyData),vs[i]?\v->ds[i]?\d->cy d\p->jW K H v p)->ky ds\ps->vG K H vs ps
 | [], [],_,_,_,h=>by rw[ky]at h;cases h;exact .nil
 | [],_::_,_,h,_,_=>by lk
 |_::_, [],_,h,_,_=>by lk
 |d::ds,v::vs,ps,hl,hk,h=>by
  rw[ky]at h;let x h1 h:=i_ h;let r h2 h:=aY.mp h;subst h;exact .cons (hk 0 v d x rfl rfl h1) (DR (eF hl) (λi v d p a b c=>hk (i + 1) v d p (by simpa using a) (by simpa using b) c) h2)
theorem Vw.py(h:Vw K H N v d):∀{p:PyData},cy d\p->jW K H v p:=by
 induction h with
 |sc v=>
  intro p e;cases v with
  |aG=>rw[cy]at e;cases e;exact .aG
  |bl b=>rw[cy]at e;cases e;exact .bl b
  |int i=>rw[cy]at e;cases e;exact .int i
  |str x=>rw[cy]at e;cases e;exact .str x
  |uZ _=>simp[cy]at e
  |kl _=>simp[cy]at e
  |ref _=>simp[cy]at e
  |ty _=>simp[cy]at e
 |hl v=>intro p e;simp[cy]at e
 | @nd a k vs cs h1 h2 h3 _ ih=>
  intro p e;cases k with
  |tup=>
   rw[cy]at e;let ps e1 e2:=aY.mp e;subst e2;exact .tup (cE.of h2.2) (DR h3 (λi v d p x y z=>ih i v d x y z) e1)
  |lst=>
   rw[cy]at e;let ps e1 e2:=aY.mp e;subst e2;exact .lst (.inl (.inl h2.2)) (DR h3 (λi v d p x y z=>ih i v d x y z) e1)
  |dk=>
   rw[cy]at e;let ps e1 e2:=aY.mp e;subst e2;exact .lst (jA.sq h2.2) (DR h3 (λi v d p x y z=>ih i v d x y z) e1)
  |_=>simp[cy]at e
def ye(K:ah):R2:=λx y H Q=>∃dx dy,jW K H x dx/\jW K H y dy/\dx.canLay0=oP/\dy.canLay0=oP/\dx.depth<=60/\Q (.bl (q9 dx dy)) H
def AW(K:ah):R2:=λx y H Q=>∃dx dy,jW K H x dx/\jW K H y dy/\dx.canLay0=oP/\dy.canLay0=oP/\dx.depth<=60/\Q (.bl (not (q9 dx dy))) H
theorem DS(hu:X.A.units + 64 < cLine):cu X (compareOp .Eq) (ye X.K):=Zh hu
theorem Ig(hu:X.A.units + 64 < cLine):cu X (compareOp .NotEq) (AW X.K):=Zi hu
def dN(g:Bool->Bool)(a b:D):oT D:=(cy a).bind λx=>(cy b).bind λy=>if x.canLay0=oP/\y.canLay0=oP/\x.depth<=60 then oF (.sc (.bl (g (q9 x y)))) else oM
instance aj2:jD K (ye K) (dN id):=#[λ{H x y dx dy d Q} w1 w2 h k=>by
 let a h1 h:=i_ h;let b h2 h:=i_ h;by_cases c:a.canLay0=oP/\b.canLay0=oP/\a.depth<=60
 .rw[zJ c]at h;cases h;exact#[a,b,w1.py h1,w2.py h2,c.1,c.2.1,c.2.2,k _ H (aJ.refl H) (.sc _)]
 .rw[zK c]at h;lk]
instance aj3:jD K (AW K) (dN not):=#[λ{H x y dx dy d Q} w1 w2 h k=>by
 let a h1 h:=i_ h;let b h2 h:=i_ h;by_cases c:a.canLay0=oP/\b.canLay0=oP/\a.depth<=60
 .rw[zJ c]at h;cases h;exact#[a,b,w1.py h1,w2.py h2,c.1,c.2.1,c.2.2,k _ H (aJ.refl H) (.sc _)]
 .rw[zK c]at h;lk]
end
end VL
namespace L2
open PySem PySem.Spec PyProof.Rows
section
end
theorem lQ:([x]:oH Str).Nodup:=jP.mpr #[dh,atw]
def j4(K:ah)(T:String):oH V->Hp->VK->Prop:=λxs H Q=>∃x t b,xs= [x, .ty T]/\kP K H x t/\xg K t (.type T)\b/\Q (.bl b) H
theorem tX:fT X (.builtin "isinstance") (j4 X.K T):=YJ
theorem aaC(K:ah)(a b:String)(h1:((apM a) == (apM b))=yv)(h2:W.kitMeta b=oP)(h3:(fastBuiltinMro a).map (·.contains (.type b))\yv):xg K (.type a) (.type b)\yv:=by
 rw[xg];rw[h1,zK e_];show(if W.kitMeta b=oP then W.subIn K (.type a) (.type b) else oM)\yv;rw[zJ h2];lk
section
variable (K:ah)
end
section
end
end L2
namespace VL
open PySem PySem.Spec PyProof.Rows L2
section
variable {κ:Type}[DecidableEq κ]
noncomputable def cM (k:κ):oH κ->oT Nat
 | []=>oM
 |g::r=>if g=k then oF 0 else(cM k r).map (· + 1)
theorem DU:∀{ks:oH κ} {vs:oH V},ks.length=-vs->mT (ks.zip vs) k=(cM k ks).bind (vs[·]?)
 | [], [],_=>rfl
 | [],_::_,h=>by lk
 |_::_, [],h=>by lk
 |g::r,v::vs,h=>by
  rw[nV,cM];by_cases c:g=k
  .rw[C6 (by lk),zJ c];rfl
  .rw[C7 (by lk),zK c,DU (eF h)];cases cM k r with
   |none=>rfl
   |some i=>simp
theorem AX:∀{ks:oH κ} {i:Nat},cM k ks\i->i < -ks
 | [],_,h=>by lk
 |g::r,i,h=>by
  rw[cM]at h;by_cases c:g=k
  .rw[zJ c]at h;cases h;exact V3 _
  .rw[zK c]at h;let j h1 h2:=aY.mp h;subst h2;exact V4 (AX h1)
theorem Ih:∀{ks:oH κ} {vs:oH V},ks.length=-vs->((ks.zip vs).any λkv=>decide (kv.1=k))=(cM k ks).isSome
 | [], [],_=>rfl
 | [],_::_,h=>by lk
 |_::_, [],h=>by lk
 |g::r,v::vs,h=>by
  rw[nV,cM,uR];by_cases c:g=k
  .rw[zJ c];simp[c]
  .rw[zK c,Ih (eF h)];cases cM k r <;> simp[c]
end
noncomputable def kJ:D->oT bc
 |.sc (.int i)=>oF (.inl i)
 |.sc (.str x)=>oF (.inr x)
 |_=>oM
def wM:oH D->oT (oH bc)
 | []=>oF []
 |d::r=>(kJ d).bind λk=>(wM r).map (k:: ·)
section
variable {K:ah}{n:Nat}{H H' H1 H2:Hp}{U U':zI->Prop}{σ hv:oH (oT V)}{ρ ρ':En}{τv vs:oH V}{τd ds:oH D}{v y:V}{d:D}{N:zI->Prop}
theorem Vw.key(h:Vw K H N v d)(e:kJ d\k):v=kV k:=by
 unfold kJ at e
 split at e
 .cases e;exact h.bA
 .cases e;exact h.bA
 .lk
theorem Ii:∀{cs:oH D} {vs:oH V} {ks:oH bc},vs.length=-cs->(∀(i:Nat) (v:V) (d:D),vs[i]?\v->cs[i]?\d->Vw K H N v d)->wM cs\ks->vs=ks.map kV
 | [], [],_,_,_,h=>by rw[wM]at h;cases h;rfl
 | [],_::_,_,h,_,_=>by lk
 |_::_, [],_,h,_,_=>by lk
 |d::cs,v::vs,ks,hl,hk,h=>by
  rw[wM]at h;let x h1 h:=i_ h;let r h2 h:=aY.mp h;subst h;rw[cP,(hk 0 v d rfl rfl).key h1,Ii (eF hl) (λi v d a b=>hk (i + 1) v d (by simpa using a) (by simpa using b)) h2]
def fW(d i:D):oT (oT Nat):=match d,i with
 |.nd (.aO ks) _,i=>(kJ i).map λk=>cM k ks
 |.nd (.lM ks) _, .nd .tup cs=>(wM cs).map λk=>cM k ks
 |_,_=>oM
theorem iT.DV(hc:iT K H a k vs)(hl:-vs=cs.length)(w:Vw K H N y dy)(h:fW (.nd k cs) dy\o):rH H a y (o.bind (vs[·]?)):=by
 unfold fW at h
 split at h
 .next ks _ i e=>
  cases e;let kk h1 h2:=aY.mp h;subst h2;exact .inl #[_,kk,hc.2,w.key h1,(DU hc.1).symm]
 .next ks _ fU e=>
  cases e;let kk h1 h2:=aY.mp h;subst h2;let b us rfl _ hb rC bB:=w.node;have e:=Ii rC bB h1;exact .inr #[_,kk,b,hc.2,rfl,by rw[<- e];exact hb.2,(DU hc.1).symm]
 .lk
theorem iT.aaD(hc:iT K H a k vs)(h:fW (.nd k cs) dy\!i):i < -vs:=by
 unfold fW at h
 split at h
 .next ks _ i e=>
  cases e;let kk h1 h2:=aY.mp h;have:=AX h2;have:=hc.1;show _ < _;rw[fits]at this
  lia
 .next ks _ fU e=>
  cases e;let kk h1 h2:=aY.mp h;have:=AX h2;have:=hc.1;rw[fits]at this
  lia
 .lk
theorem iT.QN(hc:iT K H a k vs)(h:fW (.nd k cs) dy\o):(o.bind (vs[·]?)).isSome=o.isSome:=by
 cases o with
 |none=>rfl
 |some i=>
  show(vs[i]?).isSome=oP;rw[dH (hc.aaD h)];rfl
def QO:R2:=λx y H Q=>∃a v,x= .ref a/\rH H a y (!v)/\Q v H
def DW(K:ah):R2:=λx y H Q=>atM K x y H Q\/QO x y H Q
theorem aaE(hu:X.A.units + 1 < cLine):mR X QO:=by
 intro value slice ab s σ H x y v u Q I rx ry h hs;let a w rfl g q:=h;cases rx;have hT:=YD I g;rw[subscriptTail];refine az ?_;rw[getitemInPython_of_ne hT.not_modules];refine az (wpAny_specialOf hT PySem.F.slot_dict_getitem.lookup ?_);have mm:wpAny (model X.prog X.w) X.A (subscripted slice yv (.ref a) u) (λr pG=>wpAny (model X.prog X.w) X.A (letTemporaryGo value (.ref a) r >>= λ_=>pure r) (EP X ab σ Q) X.xe pG) X.xe s:=by
  rw[hs];exact wpAny_operating (Yx hu I g ry λw' s3 I3 aof=>az (wpAny_letTemporaryGo (bF #[w,H,I3,aof,q])))
 first
  |exact bF (az mm)
  |exact az (bF (az mm))
  |exact az mm
theorem QP(hu:X.A.units + 1 < cLine):mR X (DW X.K):=mR.or XT (aaE hu)
def ay(d i:D):oT Nat:=match mq d i with
 |some j=>oF j
 |none=>(fW d i).join
instance aj4:tU K (DW K) ay aN where
 t:=λw2 h q=> .inl (Qw.t w2 h q)
 s:=λ{H a k vs cs y u dy i Q} hc hl w2 h hu q=>by
  rw[ay]at h
  split at h
  .next j e=>cases h;exact .inl (Qw.s hc hl w2 e hu q)
  .cases e:fW (.nd k cs) dy with
   |none=>rw[e]at h;lk
   |some o=>
    rw[e]at h;have h:o\i:=h;subst h;have g:=hc.DV hl w2 e;have:(!i).bind (vs[·]?)\u:=hu;rw[this]at g;exact .inr #[a,u,rfl,g,q]
def aaF:R2:=λx y H Q=>∃i j,x= .str i/\y= .str j/\Q (.bl (not ((Nz j i 0 j.length 1).isEmpty))) H
def DX(g:Bool->Bool):R2:=λx y H Q=>∃a o,y= .ref a/\rH H a x o/\Q (.bl (g o.isSome)) H
theorem aaG(hu:X.A.units + 1 < cLine):cu X (compareOp .In) (DX id):=by
 intro ab s σ H x y v u Q I rx ry h;let a o rfl g q:=h;cases ry;exact Yy hu I g rx λs3 I3=>#[.bl o.isSome,H,I3,rfl,q]
theorem cu.or(h:cu X f r)(h':cu X f r'):cu X f (λx y H Q=>r x y H Q\/r' x y H Q):=by
 intro ab s σ H x y v u Q I rx ry q;rcases q with q | q
 .exact h ab s σ H x y v u Q I rx ry q
 .exact h' ab s σ H x y v u Q I rx ry q
def Ij(K:ah):R2:=λx y H Q=>C0 K yv x y H Q\/DX id x y H Q\/aaF x y H Q
theorem aaI(hu:X.A.units + 1 < cLine):cu X (compareOp .In) (Ij X.K):=cu.or X1 (cu.or (aaG hu) W3)
noncomputable def kZ:oH D->oT (oH V)
 | []=>oF []
 |.sc v::r=>(kZ r).map (v:: ·)
 |_::_=>oM
theorem AY:∀{cs:oH D} {vs us:oH V},vs.length=-cs->(∀(i:Nat) (v:V) (d:D),vs[i]?\v->cs[i]?\d->Vw K H N v d)->kZ cs\us->vs=us
 | [], [],_,_,_,h=>by rw[kZ]at h;cases h;rfl
 | [],_::_,_,h,_,_=>by lk
 |_::_, [],_,h,_,_=>by lk
 |.sc x::cs,v::vs,us,hl,hk,h=>by
  rw[kZ]at h;let r h2 h:=aY.mp h;subst h;rw[(hk 0 v (.sc x) rfl rfl).bA,AY (eF hl) (λi v d a b=>hk (i + 1) v d (by simpa using a) (by simpa using b)) h2]
 |.nd _ _::cs,v::vs,us,hl,hk,h=>by simp[kZ]at h
 |.hl _::cs,v::vs,us,hl,hk,h=>by simp[kZ]at h
def aqC(a b:D):oT Bool:=match a,b with
 |.sc (.str x), .sc (.str y)=>oF (not ((Nz y x 0 y.length 1).isEmpty))
 |.sc x, .nd .lst cs=>(kZ cs).bind λus=>if g7 x=oP/\us.all g7=oP then oF (tH x us) else oM
 |.sc x, .nd .tup cs=>(kZ cs).bind λus=>if g7 x=oP/\us.all g7=oP then oF (tH x us) else oM
 |a,b=>(fW b a).map (·.isSome)
instance aj5:jD K (Ij K) (λa b=>(aqC a b).map λb=> .sc (.bl b)):=#[λ{H x y dx dy d Q} w1 w2 h k=>by
 let b h1 h2:=aY.mp h;subst h2;have mm:Q (.bl b) H:=k _ H (aJ.refl H) (.sc _);unfold aqC at h1
 split at h1
 .next i j=>
  cases h1;exact .inr (.inr #[i,j,w1.bA,w2.bA,mm])
 .next z cs=>
  let us e1 e2:=i_ h1;by_cases c:g7 z=oP/\us.all g7=oP
  .rw[zJ c]at e2;cases e2;let a vs rfl _ hc hl bB:=w2.node;have:=AY hl bB e1;subst this;rw[w1.bA];exact .inl #[a,vs,rfl, .inl (gN.of hc.2),c.1,c.2,mm]
  .rw[zK c]at e2;lk
 .next z cs=>
  let us e1 e2:=i_ h1;by_cases c:g7 z=oP/\us.all g7=oP
  .rw[zJ c]at e2;cases e2;let a vs rfl _ hc hl bB:=w2.node;have:=AY hl bB e1;subst this;rw[w1.bA];exact .inl #[a,vs,rfl, .inr (cE.of hc.2),c.1,c.2,mm]
  .rw[zK c]at e2;lk
 .let o e1 e2:=aY.mp h1;subst e2;cases dy with
  |sc _=>simp[fW]at e1
  |hl _=>simp[fW]at e1
  |nd kk cs=>
   let a vs rfl _ hc hl bB:=w2.node;have g:=hc.DV hl w1 e1;have e3:=hc.QN e1;exact .inr (.inl #[a,_,rfl,g,e3^^mm])]
def DY:R2:=λx y H Q=>y= .aG/\Q (.bl (decide (x= .aG))) H
def QQ:R2:=λx y H Q=>y= .aG/\Q (.bl (not (decide (x= .aG)))) H
theorem aBU:cu X (compareOp .Is) DY:=W4
theorem QS:cu X (compareOp .IsNot) QQ:=W5
noncomputable def qz:D->oT Bool
 |.sc v=>oF (decide (v= .aG))
 |.nd _ _=>oF yv
 |.hl _=>oM
def oJ(g:Bool->Bool)(a b:D):oT D:=match b with
 |.sc .aG=>(qz a).map λb=> .sc (.bl (g b))
 |_=>oM
theorem QT(w:Vw K H N v d)(h:qz d\b):decide (v= .aG)=b:=by
 cases d with
 |sc z=>cases h;rw[w.bA]
 |nd k cs=>cases h;let a _ rfl _:=w.node;rfl
 |hl _=>lk
instance aj7:jD K DY (oJ id):=#[λ{H x y dx dy d Q} w1 w2 h k=>by
 unfold oJ at h
 split at h
 .let b h1 h2:=aY.mp h;subst h2;exact#[w2.bA,QT w1 h1^^k _ H (aJ.refl H) (.sc _)]
 .lk]
instance aj8:jD K QQ (oJ not):=#[λ{H x y dx dy d Q} w1 w2 h k=>by
 unfold oJ at h
 split at h
 .let b h1 h2:=aY.mp h;subst h2;exact#[w2.bA,QT w1 h1^^k _ H (aJ.refl H) (.sc _)]
 .lk]
def aaK:R2:=λx y H Q=>∃i j,x= .str i/\y= .str j/\i.length + j.length<=aM/\Q (.str (i++j)) H
def AZ(K:ah):R2:=λx y H Q=>qj (λi j=> .int (i + j)) x y H Q\/aaK x y H Q\/O9 x y H Q\/GF K x y H Q
theorem aaL:cu X (binaryOp .Add) (AZ X.K):=cu.or WX (cu.or W9 (cu.or Yh O0))
def gx(a b:D):oT D:=match a,b with
 |.sc (.int i), .sc (.int j)=>oF (.sc (.int (i + j)))
 |.sc (.str i), .sc (.str j)=>if i.length + j.length<=aM then oF (.sc (.str (i++j))) else oM
 |.nd .lst xs, .nd .lst ys=>if -xs + -ys<=aM/\bI (xs++ys)=oP then oF (.nd .lst (xs++ys)) else oM
 |.nd .tup xs, .nd .tup ys=>if xs≠ []/\-xs + -ys<=aM/\bI (xs++ys)=oP then oF (.nd .tup (xs++ys)) else oM
 |_,_=>oM
theorem gF.app(h:gF K H N vs ds)(h':gF K H N us es):gF K H N (vs++us) (ds++es):=by
 refine#[by rw[eO,eO,h.1,h'.1],λi v d hv hd=> ?_];by_cases c:i < -vs
 .rw[aU c]at hv;rw[aU (by rw[<- h.1];lk)]at hd;exact h.2 i v d hv hd
 .rw[br b_]at hv;rw[br (by rw[<- h.1];lia), <- h.1]at hd;exact h'.2 _ v d hv hd
theorem gF.own(h:gF K H T1 vs ds)(pl:bI ds=oP)(hp:H p=oM)(hold:(k= .tup/\o= .tup vs)\/(cg k=yv/\fits K k (-vs)/\∃dx,o=ho k dx vs)):ou K H (dm H p o) (.ref p) (.nd k ds):=
 jG.node (H:=H) (H1:=H) #[h.1,λ_ _=>False,λ_ _ _ z=>z.elim,λ_ _ z=>z.elim,λi v d hv hd=>(h.2 i v d hv hd).plain (xW pl hd)] (aJ.refl H) hp hold
theorem Vw.ip(w:Vw K H T1 v (.nd k cs)):∃a vs,v= .ref a/\iT K H a k vs/\gF K H T1 vs cs:=by
 let a vs e _ hc hl bB:=w.node;exact#[a,vs,e,hc,hl,bB]
instance aaM:jD K (AZ K) gx:=#[λ{H x y dx dy d Q} w1 w2 h k=>by
 unfold gx at h
 split at h
 .next i j=>cases h;exact .inl #[i,j,w1.bA,w2.bA,k _ H (aJ.refl H) (.sc _)]
 .next i j=>
  by_cases c:i.length + j.length<=aM
  .rw[zJ c]at h;cases h;exact .inr (.inl #[i,j,w1.bA,w2.bA,c,k _ H (aJ.refl H) (.sc _)])
  .rw[zK c]at h;lk
 .next xs ys=>
  by_cases c:-xs + -ys<=aM/\bI (xs++ys)=oP
  .rw[zJ c]at h;cases h;let a vs rfl hc vl:=w1.ip;let b us rfl jV ul:=w2.ip;refine .inr (.inr (.inl #[a,b,vs,us,rfl,rfl,hc.2,jV.2,[vl.1,ul.1]^^c.1,λp hp=> ?_]));exact k _ _ (fE hp _) ((vl.app ul).own c.2 hp (.inr #[rfl,trivial,0,rfl]))
  .rw[zK c]at h;lk
 .next xs ys=>
  by_cases c:xs≠ []/\-xs + -ys<=aM/\bI (xs++ys)=oP
  .rw[zJ c]at h;cases h;let a vs rfl hc vl:=w1.ip;let b us rfl jV ul:=w2.ip;have nv:vs≠ []:=λz=>by
    subst z;have:=vl.1;exact c.1 (sN this.symm)
   refine .inr (.inr (.inr #[a,b,vs,us,rfl,rfl,cE.of hc.2,cE.of jV.2,nv,[vl.1,ul.1]^^c.2.1,λz=> ?_,λ_ p hp=> ?_]))
   .subst z;have e:ys= []:=sN ul.1.symm;subst e;rw[nM]at c k;exact k _ H (aJ.refl H) (ou.plain w1 c.2.2)
   .exact k _ _ (fE hp _) ((vl.app ul).own c.2.2 hp (.inl #[rfl,rfl]))
  .rw[zK c]at h;lk
 .lk]
class aoz(K:ah)(r:List V->Hp->VK->Prop)(g:outParam (List D->Option D)):Prop where
 s:∀{H:Hp} {vs:List V} {ds:List D} {d:D} {Q:VK},gF K H T1 vs ds->g ds=oF d->(∀v H',aJ H H'->ou K H H' v d->Q v H')->r vs H Q
instance aj9[A:SA K n ta fa][C:aoz K r g]:SF K n (jU r ta) (λρ=>(fa ρ).bind g):=#[λ{σ hv H U ρ τv τd d Q} I h k=>by
 let a ha h:=i_ h;refine A.s I ha λxs H1 s1 w=>?_;exact C.s w h λv H2 s2 o=>k v H2 (s1.trans s2) (o.early s1)]
theorem aj.DZ(I:aj K n H U σ hv ρ (τv++vs) (τd++ds))(hl:-vs=-ds):gF K H T1 vs ds:=by
 refine#[hl,λi v d iV hd=> ?_];let g1 g2:=I.sets hl i iV hd;obtain⟨_,_,Fs,_,_,sl⟩:=I.ok;let v' ev sv:=sl _ _ g2;rw[g1]at ev;cases ev;exact bg.vw sv
theorem gF.one{d:D}(h:gF K H N vs [d]):∃v,vs= [v]/\Vw K H N v d:=by
 match vs,h with
 | [v],h=>exact#[v,rfl,h.2 0 v d rfl rfl]
 | [],h=>cases h.1
 |_::_::_,h=>cases h.1
theorem gF.two{d e:D}(h:gF K H N vs [d,e]):∃v u,vs= [v,u]/\Vw K H N v d/\Vw K H N u e:=by
 match vs,h with
 | [v,u],h=>exact#[v,u,rfl,h.2 0 v d rfl rfl,h.2 1 u e rfl rfl]
 | [],h=>cases h.1
 | [_],h=>cases h.1
 |_::_::_::_,h=>cases h.1
theorem aaN:fT X (.builtin "len") (λxs H Q=>∃a cf,xs= [V.ref a]/\Rd H a (.dK cf)/\Q (.int (-cf)) H):=by
 intro ab s σ H xs us Q I r h;let a cf rfl ha q:=h;let u rfl ru:=vals1 r;cases ru;exact YC I ha λt s' I'=>#[.int (-cf),H,I',#[t,rfl],q]
def vT(K:ah):oH V->Hp->VK->Prop:=λxs H Q=>(∃p ys,xs= [.ref p]/\(gN K H p ys\/cE K H p ys)/\Q (.int (-ys)) H)\/(∃z,xs= [.str z]/\z.length<=aM/\Q (.int z.length) H)\/∃a cf,xs= [V.ref a]/\Rd H a (.dK cf)/\Q (.int (-cf)) H
theorem Il:fT X (.builtin "len") (vT X.K):=by
 intro ab s σ H xs us Q I r h;rcases h with h | h | h
 .exact aBO ab s σ H xs us Q I r h
 .exact aBP ab s σ H xs us Q I r h
 .exact aaN ab s σ H xs us Q I r h
noncomputable def eP:oH D->oT D
 | [.nd .lst cs]=>oF (.sc (.int (-cs)))
 | [.nd .tup cs]=>oF (.sc (.int (-cs)))
 | [.nd .dk cs]=>oF (.sc (.int (-cs)))
 | [.nd (.tE _ _) cs]=>oF (.sc (.int (-cs)))
 | [.sc (.str z)]=>if z.length<=aM then oF (.sc (.int z.length)) else oM
 | [.nd (.aO _) cs]=>oF (.sc (.int (-cs)))
 |_=>oM
instance akb:aoz K (vT K) eP:=#[λ{H vs ds d Q} w h k=>by
 unfold eP at h
 split at h
 .next cs=>cases h;let v rfl w1:=w.one;let a us rfl hc vl:=w1.ip;rw[<- vl.1]at k;exact .inl #[a,us,rfl, .inl (gN.of hc.2),k _ H (aJ.refl H) (.sc _)]
 .next cs=>cases h;let v rfl w1:=w.one;let a us rfl hc vl:=w1.ip;rw[<- vl.1]at k;exact .inl #[a,us,rfl, .inr (cE.of hc.2),k _ H (aJ.refl H) (.sc _)]
 .next cs=>cases h;let v rfl w1:=w.one;let a us rfl hc vl:=w1.ip;rw[<- vl.1]at k;exact .inl #[a,us,rfl, .inl (jA.sq hc.2),k _ H (aJ.refl H) (.sc _)]
 .next cs=>cases h;let v rfl w1:=w.one;let a us rfl hc vl:=w1.ip;rw[<- vl.1]at k;exact .inl #[a,us,rfl, .inl (jA.sq (.inl hc.2.2.2)),k _ H (aJ.refl H) (.sc _)]
 .next z=>
  by_cases c:z.length<=aM
  .rw[zJ c]at h;cases h;let v rfl w1:=w.one;rw[w1.bA];exact .inr (.inl #[z,rfl,c,k _ H (aJ.refl H) (.sc _)])
  .rw[zK c]at h;lk
 .next ks cs=>
  cases h;let v rfl w1:=w.one;let a us rfl hc vl:=w1.ip;have hl:-ks=-us:=hc.1;have rd:Rd H a (.dK (ks.zip us)):=hc.2;refine .inr (.inr #[a,ks.zip us,rfl,rd, ?_]);rw[pz,hl,Nat.min_self,vl.1];exact k _ H (aJ.refl H) (.sc _)
 .lk]
def atP(K:ah):oH V->Hp->VK->Prop:=λxs H Q=>∃p ys,xs= [.ref p]/\(gN K H p ys\/cE K H p ys)/\∀l,H l=oM->Q (.ref l) (dm H l (.lst ys))
theorem aBV:fT X (.type "list") (atP X.K):=aBQ
def aqK(K:ah):oH V->Hp->VK->Prop:=λxs H Q=>∃p ys,xs= [.ref p]/\((gN K H p ys/\∀l,H l=oM->Q (.ref l) (dm H l (.tup ys)))\/(cE K H p ys/\Q (.ref p) H))
theorem axb:fT X (.type "tuple") (aqK X.K):=aBR
def apU:oH D->oT D
 | [.nd .lst cs]=>if bI cs=oP then oF (.nd .lst cs) else oM
 | [.nd .tup cs]=>if bI cs=oP then oF (.nd .lst cs) else oM
 |_=>oM
instance aHL:aoz K (atP K) apU:=#[λ{H vs ds d Q} w h k=>by
 unfold apU at h
 split at h
 .next cs=>
  by_cases c:bI cs=oP
  .rw[zJ c]at h;cases h;let v rfl w1:=w.one;let a us rfl hc vl:=w1.ip;exact#[a,us,rfl, .inl (gN.of hc.2),λl hl=>k _ _ (fE hl _) (vl.own c hl (.inr #[rfl,trivial,0,rfl]))]
  .rw[zK c]at h;lk
 .next cs=>
  by_cases c:bI cs=oP
  .rw[zJ c]at h;cases h;let v rfl w1:=w.one;let a us rfl hc vl:=w1.ip;exact#[a,us,rfl, .inr (cE.of hc.2),λl hl=>k _ _ (fE hl _) (vl.own c hl (.inr #[rfl,trivial,0,rfl]))]
  .rw[zK c]at h;lk
 .lk]
def aog:oH D->oT D
 | [.nd .lst cs]=>if bI cs=oP then oF (.nd .tup cs) else oM
 | [.nd .tup cs]=>if bI cs=oP then oF (.nd .tup cs) else oM
 |_=>oM
instance aHM:aoz K (aqK K) aog:=#[λ{H vs ds d Q} w h k=>by
 unfold aog at h
 split at h
 .next cs=>
  by_cases c:bI cs=oP
  .rw[zJ c]at h;cases h;let v rfl w1:=w.one;let a us rfl hc vl:=w1.ip;exact#[a,us,rfl, .inl #[gN.of hc.2,λl hl=>k _ _ (fE hl _) (vl.own c hl (.inl #[rfl,rfl]))]]
  .rw[zK c]at h;lk
 .next cs=>
  by_cases c:bI cs=oP
  .rw[zJ c]at h;cases h;let v rfl w1:=w.one;let a us rfl hc vl:=w1.ip;exact#[a,us,rfl, .inr #[cE.of hc.2,k _ H (aJ.refl H) (ou.plain w1 c)]]
  .rw[zK c]at h;lk
 .lk]
def Im:oH V->Hp->VK->Prop:=λxs H Q=>∃i j,xs= [.int i, .int j]/\Q (.int (if j > i then j else i)) H
def Ip:oH V->Hp->VK->Prop:=λxs H Q=>∃i j,xs= [.int i, .int j]/\Q (.int (if j < i then j else i)) H
theorem aaO(hc:X.calm=oP):fT X (.builtin "max") Im:=Xb hc
theorem aaP(hc:X.calm=oP):fT X (.builtin "min") Ip:=Xc hc
noncomputable def kB (g:Int->Int->V):oH D->oT D
 | [.sc (.int i), .sc (.int j)]=>oF (.sc (g i j))
 |_=>oM
instance akd:aoz K Im (kB λi j=> .int (if j > i then j else i)):=#[λ{H vs ds d Q} w h k=>by
 unfold kB at h
 split at h
 .next i j=>cases h;let v u rfl w1 w2:=w.two;rw[w1.bA,w2.bA];exact#[i,j,rfl,k _ H (aJ.refl H) (.sc _)]
 .lk]
instance ake:aoz K Ip (kB λi j=> .int (if j < i then j else i)):=#[λ{H vs ds d Q} w h k=>by
 unfold kB at h
 split at h
 .next i j=>cases h;let v u rfl w1 w2:=w.two;rw[w1.bA,w2.bA];exact#[i,j,rfl,k _ H (aJ.refl H) (.sc _)]
 .lk]
end
noncomputable def m4 (a b:String):Bool:=a == b || (a == "bool" && b == "int")
noncomputable def D0:oH String:= ["NoneType","bool","int","str","tuple","list","dict"]
noncomputable def an2:oH String:= ["bool","int","str","tuple","list","dict"]
theorem aaQ(K:ah):xg K (.type "bool") (.type "int")\oP:=by
 rw[xg];rw[zK a_];show(if W.kitMeta "int"=oP then W.subIn K (.type "bool") _ else oM)\oP;rw[zJ c_];show(fastBuiltinMro "bool").map _\oP
 decide +kernel
theorem QU(K:ah):∀a∈D0,∀b∈an2,xg K (.type a) (.type b)\m4 a b:=by
 intro a ha b hb;simp[D0,an2,bL,dh,or_false]at ha hb;rcases ha with rfl | rfl | rfl | rfl | rfl | rfl | rfl <;> rcases hb with rfl | rfl | rfl | rfl | rfl | rfl <;> first
  |exact aaQ K
  |exact akf K _ a_
  |exact aaC K _ _ a_ c_ c_
theorem QV(K:ah)(ha:a∈D0):∀{ts:oH String},(∀b∈ts,b∈an2)->W.kitAny K (.type a) (ts.map apM)\ts.any (m4 a)
 | [],_=>rfl
 |b::ts,h=>by
  rw[cP,W.kitAny,QU K a ha b (h b (.head _))];cases e:m4 a b with
  |true=>simp[e]
  |false=>
   simp[e,uR,Bool.false_or];exact QV K ha λc hc=>h c (.tail _ hc)
noncomputable def aoh:D->oT String
 |.sc .aG=>oF "NoneType"
 |.sc (.bl _)=>oF "bool"
 |.sc (.int _)=>oF "int"
 |.sc (.str _)=>oF "str"
 |.nd .tup _=>oF "tuple"
 |.nd .lst _=>oF "list"
 |.nd (.aO _) _=>oF "dict"
 |.nd (.lM _) _=>oF "dict"
 |_=>oM
section
variable {K:ah}{H H' H1 H2:Hp}{τv vs:oH V}{τd ds:oH D}{v y:V}{d:D}{N:zI->Prop}
theorem QW(h:aoh d\a):a∈D0:=by
 unfold aoh at h
 split at h <;> first | (cases h;decide) | lk
theorem Vw.ty(w:Vw K H N v d)(h:aoh d\a)(hd:a≠"dict"):kP K H v (.type a):=by
 unfold aoh at h
 split at h
 .cases h;rw[w.bA];exact .aG
 .cases h;rw[w.bA];exact .bl _
 .cases h;rw[w.bA];exact .int _
 .cases h;rw[w.bA];exact .str _
 .cases h;let a vs rfl _ hc _:=w.node;exact .tup hc.2
 .cases h;let a vs rfl _ hc _:=w.node;exact .lst hc.2
 .cases h;exact absurd rfl hd
 .cases h;exact absurd rfl hd
 .lk
def apq(T:String):oH D->oT D
 | [a, .sc (.ty T')]=>if T'=T/\T∈an2 then(aoh a).bind λx=>if x="dict" then oM else oF (.sc (.bl (m4 x T))) else oM
 |_=>oM
instance akg:aoz K (j4 K T) (apq T):=#[λ{H vs ds d Q} w h k=>by
 unfold apq at h
 split at h
 .next a T'=>
  by_cases c:T'=T/\T∈an2
  .rw[zJ c]at h;let x h1 h:=i_ h;by_cases cd:x="dict"
   .rw[zJ cd]at h;lk
   .rw[zK cd]at h;cases h;let v u rfl w1 w2:=w.two;rw[w2.bA,c.1];exact#[v,_,_,rfl,w1.ty h1 cd,QU K x (QW h1) T c.2,k _ H (aJ.refl H) (.sc _)]
  .rw[zK c]at h;lk
 .lk]
def D1(K:ah):oH V->Hp->VK->Prop:=λxs H Q=>∃(x:V) (t:zL) (tp:zI) (ts:oH String) (b:Bool),xs= [x, .ref tp]/\kP K H x t/\H tp\.tup (ts.map V.ty)/\W.kitAny K t (ts.map apM)\b/\Q (.bl b) H
theorem QX:∀{ts:oH String} {us:oH zL},bj (ts.map V.ty) us->us=ts.map apM
 | [],us,h=>by cases h;rfl
 |t::ts,us,h=>by
  cases h with
  |cons r1 r2=>rw[QX r2,show _=apM t from r1];rfl
theorem aaR:fT X (.builtin "isinstance") (D1 X.K):=by
 intro ab s σ H xs us Q I r h;let x t tp ts b rfl ty ht e q:=h;let u w' rfl ru rt:=vals2 r;cases rt;obtain⟨_,ag,rv,o,ho,hc,n,hd⟩:=I.aQ tp _ ht;have hits:=QX rv;subst hits;let oc od akh mO:=o;cases hc;cases hd;have mm:∀tk,EP X ab σ Q (.bool b) { s with toks:=tk }:=λtk=>#[.bl b,H,I.tok tk,rfl,q]
 cases ty with
 |aG=>cases(show u=jb from ru);exact qU W.kitx_none I.fN kh ho e (λz=>nomatch z) mm
 |bl y=>cases(show u=zj y from ru);exact qU W.kitx_bool I.fN kh ho e (λz=>nomatch z) mm
 |int i=>let t z:=(ru);cases z;exact qU W.kitx_int I.fN kh ho e (λz=>nomatch z) mm
 |str y=>let t z:=(ru);cases z;exact qU W.kitx_str I.fN kh ho e (λz=>nomatch z) mm
 |kl y=>let t z:=(ru);cases z;exact qU W.kitx_float I.fN kh ho e (λz=>nomatch z) mm
 | @lst a xs ea=>
  cases(show u=t5 a from ru);obtain⟨_,_,n',_,h1⟩:=(I.aQ a _ ea)
  exact qU ND I.fN #[_,h1,rfl] ho e (λz=>nomatch z) mm
 | @b9 a ob xs ea=>
  cases(show u=t5 a from ru);obtain⟨_,_,_,n',_,h1⟩:=(I.aQ a _ ea)
  exact qU ND I.fN #[_,h1,rfl] ho e (λz=>nomatch z) mm
 | @tup a xs ea=>
  cases(show u=t5 a from ru);obtain⟨_,_,_,p⟩:=(I.aQ a _ ea)
  let o' h1 h2 _:=p;exact qU W.kitx_tuple I.fN #[o',h1,h2] ho e (λz=>nomatch z) mm
 | @dK a cf ea=>
  cases(show u=t5 a from ru);obtain⟨_,_,vs,_,p⟩:=(I.aQ a _ ea)
  let o' es ep h1 h2 _:=p;exact qU NF I.fN #[o',h1,h2.1] ho e (λz=>nomatch z) mm
 | @dT a cf ea=>
  cases(show u=t5 a from ru);obtain⟨_,_,xs,_,o',es,ep,h1,h2,_⟩:=(I.aQ a _ ea)
  exact qU NF I.fN #[o',h1,h2.1] ho e (λz=>nomatch z) mm
 | @ins a C dx fs ea cl ha hn CT hm=>
  cases(show u=t5 a from ru);let mA O _:=kO I.aQ ea;let od J _:=O.look;exact qU (W.kitx_own (cl.get _) cl.hd ha hn CT hm) I.fN J ho e (λz=>nomatch z) mm
noncomputable def m6:oH D->oT (oH String)
 | []=>oF []
 |.sc (.ty t)::r=>(m6 r).map (t:: ·)
 |_::_=>oM
theorem QY:∀{cs:oH D} {vs:oH V} {ts:oH String},vs.length=-cs->(∀(i:Nat) (v:V) (d:D),vs[i]?\v->cs[i]?\d->Vw K H N v d)->m6 cs\ts->vs=ts.map V.ty
 | [], [],_,_,_,h=>by rw[m6]at h;cases h;rfl
 | [],_::_,_,h,_,_=>by lk
 |_::_, [],_,h,_,_=>by lk
 |d::cs,v::vs,ts,hl,hk,h=>by
  unfold m6 at h
  split at h
  .next e=>lk
  .next t r e=>
   cases e;let x h2 h:=aY.mp h;subst h;rw[cP,(hk 0 v _ rfl rfl).bA,QY (eF hl) (λi v d a b=>hk (i + 1) v d (by simpa using a) (by simpa using b)) h2]
  .lk
def oN:oH D->oT D
 | [a, .nd .tup cs]=>(m6 cs).bind λts=>if ts.all (an2.contains ·)=oP then(aoh a).bind λx=>if x="dict" then oM else oF (.sc (.bl (ts.any (m4 x)))) else oM
 |_=>oM
instance aki:aoz K (D1 K) oN:=#[λ{H vs ds d Q} w h k=>by
 unfold oN at h
 split at h
 .next a cs=>
  let ts h0 h:=i_ h;by_cases c:ts.all (an2.contains ·)=oP
  .rw[zJ c]at h;let x h1 h:=i_ h;by_cases cd:x="dict"
   .rw[zJ cd]at h;lk
   .rw[zK cd]at h;cases h;let v u rfl w1 w2:=w.two;let b us rfl _ hc hl bB:=w2.node;have e:=QY hl bB h0;refine#[v,_,b,ts,_,rfl,w1.ty h1 cd,by rw[<- e];exact hc.2,QV K (QW h1) λt ht=> ?_,k _ H (aJ.refl H) (.sc _)];have:=gA.mp c t ht;simpa using this
  .rw[zK c]at h;lk
 .lk]
def mw(K:ah):oH V->Hp->VK->Prop:=λxs H Q=>∃(a:zI) (bs:oH Bool),xs= [.ref a]/\gN K H a (bs.map V.bl)/\Q (.bl (bs.all id)) H
theorem pN(hc:X.calm=oP):fT X (.builtin "all") (mw X.K):=Zl hc
noncomputable def iP:oH D->oT (oH Bool)
 | []=>oF []
 |.sc (.bl b)::r=>(iP r).map (b:: ·)
 |_::_=>oM
theorem Iq:∀{cs:oH D} {vs:oH V} {bs:oH Bool},vs.length=-cs->(∀(i:Nat) (v:V) (d:D),vs[i]?\v->cs[i]?\d->Vw K H N v d)->iP cs\bs->vs=bs.map V.bl
 | [], [],_,_,_,h=>by rw[iP]at h;cases h;rfl
 | [],_::_,_,h,_,_=>by lk
 |_::_, [],_,h,_,_=>by lk
 |d::cs,v::vs,ts,hl,hk,h=>by
  unfold iP at h
  split at h
  .next e=>lk
  .next t r e=>
   cases e;let x h2 h:=aY.mp h;subst h;rw[cP,(hk 0 v _ rfl rfl).bA,Iq (eF hl) (λi v d a b=>hk (i + 1) v d (by simpa using a) (by simpa using b)) h2]
  .lk
def iq:oH D->oT D
 | [.nd .lst cs]=>(iP cs).map λbs=> .sc (.bl (bs.all id))
 |_=>oM
instance akj:aoz K (mw K) iq:=#[λ{H vs ds d Q} w h k=>by
 unfold iq at h
 split at h
 .next cs=>
  let bs h1 h2:=aY.mp h;subst h2;let v rfl w1:=w.one;let a us rfl _ hc hl bB:=w1.node;have e:=Iq hl bB h1;exact#[a,bs,rfl,gN.of (by rw[<- e];exact hc.2),k _ H (aJ.refl H) (.sc _)]
 .lk]
end
def vV(K:ah)(tl:TE):TI:=λσ H R=>tl σ H λx H1=>(∃a,x= .ref a/\(∃xs,gN K H1 a xs)/\R (tf K a) H1)\/(∃a,x= .ref a/\(∃xs,cE K H1 a xs)/\R (CJ K a) H1)\/∃z,x= .str z/\R (Dq z) H1
theorem QZ(hl:PE X l tl):PI X tg l (vV X.K tl):=by
 intro ab s σ H R I h;refine bh (hl ab s σ H _ I h) λv s1 #[x,H1,I1,r1,q1]=> ?_;have mm:∀(b:zI),b∈ [s1.heap.objs.size]->jT X ab H1 b:=λb hb=>by
  have e:b=s1.heap.objs.size:=by simpa using hb
  subst e;exact I1.Aa (bO _) (I1.aQ.fresh (bO _))
 rcases q1 with⟨a,rfl,⟨xs,hq⟩,q⟩ | ⟨a,rfl,⟨xs,hq⟩,q⟩ | ⟨z,rfl,q⟩
 .cases r1;let ag rv p hz:=I1.list hq;exact Vk p.isList #[s1.heap.objs.size, [s1.heap.objs.size],_,_,H1,rfl,I1.kept (t':=s1.toks) λb o e=>cB _ e,WQ a _,#[_,gc _ rfl,rfl,rfl],mm,q]
 .cases r1;let ag rv p hz:=I1.tuple hq;exact wpAny_pyIter_tuple (show s1.heap.IsTuple a ag.toArray from p) #[s1.heap.objs.size, [s1.heap.objs.size],_,_,H1,rfl,I1.kept (t':=s1.toks) λb o e=>cB _ e,WR a _,#[_,gc _ rfl,rfl,rfl],mm,q]
 .let t rfl:=r1;cases ha:z.cps.all (· < 128)
  .refine wpAny_pyIter_wide ha #[s1.heap.objs.size, [s1.heap.objs.size],_,_,H1,rfl,I1.kept (t':=s1.toks) λb o e=>cB _ e,
    PQ (t:=t) (ty:="str_iterator") a_ (λA' hA=>Walks.strWide hA _ z t) (λA i s Q E st h=>wpAny_pyIter_striter_wide st h),#[jO _,_,gc _ rfl,rfl,rfl],mm,q]
  .refine wpAny_pyIter_ascii ha #[s1.heap.objs.size, [s1.heap.objs.size],_,_,H1,rfl,I1.kept (t':=s1.toks) λb o e=>cB _ e,
    PQ (t:=t) (ty:="str_ascii_iterator") a_ (λA' hA=>Walks.strAscii hA _ z t) (λA i s Q E st h=>wpAny_pyIter_striter_ascii st h),#[jO _,_,gc _ rfl,rfl,rfl],mm,q]
class vW{α:Type}(l:List α)(m:outParam Nat):Prop where
 h:l.length=m
instance {α:Type}:vW ([]:oH α) 0:=#[rfl]
instance {α:Type}{a:α}{r:oH α}{m:Nat}[L:vW r m]:vW (a::r) (m + 1):=#[congrArg (· + 1) L.h]
section
variable {K:ah}{n:Nat}{H H' H1 H2:Hp}{U U':zI->Prop}{σ hv:oH (oT V)}{ρ ρ':En}{τv vs:oH V}{τd ds:oH D}{v y:V}{d:D}
def tY(K:ah)(J:It)(H0:Hp)(ds:oH D):Prop:=∀H,aJ H0 H->J.stop (-ds) H/\∀(i:Nat) (d:D),ds[i]?\d->J.go i H/\∀x H',J.apQ i H x H'->aJ H H'/\Vw K H' T1 x d
class SI(K:ah)(n:Nat)(wi:TI)(f:outParam (En->Option (List D))):Prop where
 s:∀{σ hv:List (Option V)} {H:Hp} {U:zI->Prop} {ρ:En} {τv:List V} {τd:List D} {ds:List D} {R:It->Hp->Prop},aj K n H U σ hv ρ τv τd->f ρ=oF ds->(∀J H',aJ H H'->tY K J H' ds->R J H')->wi σ H R
noncomputable def chars (z:Str):oH D:=z.cps.toList.map λc=> .sc (.str #[(List.toArray [c])])
def fP:D->oT (oH D)
 |.nd .lst cs=>oF cs
 |.nd .tup cs=>oF cs
 |.nd .dk cs=>oF cs
 |.nd (.tE _ _) cs=>oF cs
 |.sc (.str z)=>oF (chars z)
 |_=>oM
theorem aaS{ds:oH D}{R:It->Hp->Prop}(w:Vw K H T1 v d)(h:fP d\ds)(k:∀J,tY K J H ds->R J H):
  (∃a,v= .ref a/\(∃xs,gN K H a xs)/\R (tf K a) H)\/(∃a,v= .ref a/\(∃xs,cE K H a xs)/\R (CJ K a) H)\/∃z,v= .str z/\R (Dq z) H:=by
 have wl:∀{a:zI} {vs:oH V} {cs:oH D},(∀H',aJ H H'->gN K H' a vs)->gF K H T1 vs cs->tY K (tf K a) H cs:=λ{a vs cs} hs vl H' s=>by
  refine#[#[vs,hs H' s,vl.1^^bO _],λi d hd=> ?_];let u hu w:=vl.get hd;exact#[#[vs,u,hs H' s,hu],λx H2 #[e,q]=>by
   subst e;have:=q vs (hs H2 s);rw[hu]at this;cases this;exact#[aJ.refl _,w.same s]]
 unfold fP at h
 split at h
 .next cs=>
  cases h;let a vs rfl hc vl:=w.ip;exact .inl #[a,rfl,#[vs,gN.of hc.2],k _ (wl (λH' s=>gN.of (s _ _ hc.2)) vl)]
 .next cs=>
  cases h;let a vs rfl hc vl:=w.ip;refine .inr (.inl #[a,rfl,#[vs,cE.of hc.2],k _ λH' s=> ?_]);have hs:cE K H' a vs:=cE.of (s _ _ hc.2);refine#[#[vs,hs,vl.1^^bO _],λi d hd=> ?_];let u hu w:=vl.get hd;exact#[#[vs,u,hs,hu],λx H2 #[e,q]=>by
   subst e;have:=q vs hs;rw[hu]at this;cases this;exact#[aJ.refl _,w.same s]]
 .next cs=>
  cases h;let a vs rfl hc vl:=w.ip;have ho:jA K H a vs:=hc.2;exact .inl #[a,rfl,#[vs,ho.sq],k _ (wl (λH' s=>(ho.gO (gu.of s)).sq) vl)]
 .next cs=>
  cases h;let a vs rfl hc vl:=w.ip;have ho:jA K H a vs:= .inl hc.2.2.2;exact .inl #[a,rfl,#[vs,ho.sq],k _ (wl (λH' s=>(ho.gO (gu.of s)).sq) vl)]
 .next z=>
  cases h;refine .inr (.inr #[z,w.bA,k _ λH' s=> ?_]);have lz:-(chars z)=z.cps.size:=by rw[chars];simp
  refine#[by show z.cps.size<=_;rw[lz];exact bO _,λi d hd=> ?_];have hi:i < z.cps.size:=by rw[<- lz];exact(cX.mp hd).1
  refine#[hi,λx H2 #[e,c,hc,hx]=> ?_];subst e hx;refine#[aJ.refl _, ?_];rw[chars]at hd;rw[bJ]at hd;have:z.cps.toList[i]?\c:=by simpa using hc
  rw[this]at hd;cases hd;exact .sc _
 .lk
instance akk[A:SV K n tl fl]:SI K n (vV K tl) (λρ=>(fl ρ).bind fP):=#[λ{σ hv H U ρ τv τd ds R} I h k=>by
 let d h1 h2:=i_ h;refine A.s I h1 λx H1 s1 w1=>?_;exact aaS w1 h2 λJ wk=>k J H1 s1 wk]
noncomputable def iQ (lo:Int) (m:Nat):oH D:=(kf m).map λ(i:Nat)=> .sc (.int (lo + i))
theorem aBW(lo:Int)(m:Nat)(H:Hp):tY K (Ac lo m) H (iQ lo m):=λH' s=>by
 have l:-(iQ lo m)=m:=by rw[iQ];simp
 refine#[by show m<=_;rw[l];exact bO _,λi d hd=> ?_];have hi:i < m:=by rw[<- l];exact(cX.mp hd).1
 refine#[hi,λx H2 #[e,hx]=> ?_];subst e hx;rw[iQ]at hd;rw[bJ,V6 hi]at hd;cases hd;exact#[aJ.refl _, .sc _]
open Classical in
noncomputable def tZ:oH D->oT (oH D)
 | [.sc (.int j)]=>if (unop% Neg.neg (2 ^ 62))<=j/\j < 2 ^ 62 then oF (iQ 0 j.toNat) else oM
 |_=>oM
open Classical in
noncomputable def m7:oH D->oT (oH D)
 | [.sc (.int i), .sc (.int j)]=>if (unop% Neg.neg (2 ^ 62))<=i/\i < 2 ^ 62/\ (unop% Neg.neg (2 ^ 62))<=j/\j < 2 ^ 62 then oF (iQ i (j - i).toNat) else oM
 |_=>oM
theorem Ir{vs:oH V}{ds es:oH D}(w:gF K H T1 vs ds)(h:tZ ds\es):∃j:Int,vs= [.int j]/\ (unop% Neg.neg (2 ^ 62))<=j/\j < 2 ^ 62/\es=iQ 0 j.toNat:=by
 unfold tZ at h
 split at h
 .next j=>
  by_cases c: (unop% Neg.neg (2 ^ 62))<=j/\j < 2 ^ 62
  .rw[zJ c]at h;cases h;let v rfl w1:=w.one;rw[w1.bA];exact#[j,rfl,c.1,c.2,rfl]
  .rw[zK c]at h;lk
 .lk
theorem aaT{vs:oH V}{ds es:oH D}(w:gF K H T1 vs ds)(h:m7 ds\es):∃i j:Int,vs= [.int i, .int j]/\((unop% Neg.neg (2 ^ 62))<=i/\i < 2 ^ 62/\ (unop% Neg.neg (2 ^ 62))<=j/\j < 2 ^ 62)/\es=iQ i (j - i).toNat:=by
 unfold m7 at h
 split at h
 .next i j=>
  by_cases c: (unop% Neg.neg (2 ^ 62))<=i/\i < 2 ^ 62/\ (unop% Neg.neg (2 ^ 62))<=j/\j < 2 ^ 62
  .rw[zJ c]at h;cases h;let v u rfl w1 w2:=w.two;rw[w1.bA,w2.bA];exact#[i,j,rfl,c,rfl]
  .rw[zK c]at h;lk
 .lk
instance aHN[A:SA K n ta fa]:SI K n (CK ta) (λρ=>(fa ρ).bind tZ):=#[λ{σ hv H U ρ τv τd ds R} I h k=>by
 let a h1 h2:=i_ h;refine A.s I h1 λvs H1 s1 w=>?_;let j e c1 c2 e2:=Ir w h2;subst e2;exact#[j,e,c1,c2,k _ H1 s1 (aBW 0 _ H1)]]
class SG(K:ah)(n:Nat)(g:TG)(f:outParam (D->En->Option En))(is:outParam (List Nat)):Prop where
 s:∀{σ hv:List (Option V)} {H:Hp} {U:zI->Prop} {ρ ρ':En} {τv:List V} {τd:List D} {x:V} {d:D} {Q:L2.St->Hp->Prop},aj K n H U σ hv ρ τv τd->Vw K H (λb=>¬ U b) x d->f d ρ=oF ρ'->(∀dg,aj K n H U dg hv ρ' τv τd->Q dg H)->g x σ H Q
 len:∀{d:D} {ρ ρ':En},f d ρ=oF ρ'->ρ'.length=ρ.length
 keep:∀{d:D} {ρ ρ':En} {j:Nat} {β:B},f d ρ=oF ρ'->j∉is->(∀r p,β≠ .aB r p)->ρ[j]?=oF (oF β)->ρ'[j]?=oF (oF β)
theorem aaU{i j:Nat}{β:B}(h:∀r p,β≠ .aB r p)(hj:ρ[j]?\!β):(eI i ρ)[j]?\!β:=by
 rw[eI];rw[bJ,hj];cases β with
 |own d=>rfl
 |ro d=>rfl
 |aB r p=>exact absurd rfl (h r p)
instance akl{i:Nat}[L:jC i n]:SG K n (lB i) (λd ρ=>oF (bq i (.ro d) ρ)) [i] where
 s:=λ{σ hv H U ρ ρ' τv τd x d Q} I w h k=>by
  cases h;exact k _ (I.named L.h (β:= .ro d) w)
 len:=λh=>by cases h;rw[bq];rw[bN,jZ]
 keep:=λ{d ρ ρ' j β} h hj ha q=>by
  cases h;rw[bq];rw[gq (λz=>hj (z^^.head _))];exact aaU ha q
theorem jG.snoc(h:jG K H H1 us es)(o:ou K H1 H2 v d)(s0:aJ H H1)(s1:aJ H1 H2):jG K H H2 (us++ [v]) (es++ [d]):=by
 let hl Fs dj fr rp:=h;let G r f:=o;have nG:∀i b,Fs i b->¬ G b:=λi b z w=>by
  let u q:=rN (fr i b z).2;rw[(f b w).1]at q;lk
 refine#[by simp[hl],λi b=>if i=-us then G b else Fs i b/\i < -us,λi j b hi hj=> ?_,λi b hb=> ?_,λi x y hx hy=> ?_]
 .have hi:if i=-us then G b else Fs i b/\i < -us:=hi;have hj:if j=-us then G b else Fs j b/\j < -us:=hj;by_cases ci:i=-us
  .rw[zJ ci]at hi;by_cases cj:j=-us
   .lia
   .rw[zK cj]at hj;exact absurd hi (nG j b hj.1)
  .rw[zK ci]at hi;by_cases cj:j=-us
   .rw[zJ cj]at hj;exact absurd hj (nG i b hi.1)
   .rw[zK cj]at hj;exact dj i j b hi.1 hj.1
 .have hb:if i=-us then G b else Fs i b/\i < -us:=hb;by_cases ci:i=-us
  .rw[zJ ci]at hb;refine#[?_,(f b hb).2];cases q:H b with
   |none=>rfl
   |some o=>have:=(f b hb).1;rw[s0 b o q]at this;lk
  .rw[zK ci]at hb;exact#[(fr i b hb.1).1,AL (fr i b hb.1).2 s1]
 .by_cases ci:i=-us
  .subst ci;rw[br (bO _),kj]at hx;rw[br b_,hl,kj]at hy;cases hx;cases hy;show bg K H2 (λb=>if -us=-us then G b else _) v d;simp[zJ rfl];lk
  .have hi:i < -us:=by
    have:=(cX.mp hx).1;simp at this;lia
   rw[aU hi]at hx;rw[aU b_]at hy;show bg K H2 (λb=>if i=-us then G b else Fs i b/\i < -us) x y;simp[zK ci];exact((rp i x y hx hy).same s1).mono λb z=>#[z,hi]
def gH(n:Nat)(js:oH (oT Nat))(ρ:En):En:=js.map λo=>o.bind λj=>if j < n then(af j ρ).map B.ro else oM
noncomputable def jH (fg:D->En->oT En) (ft:En->oT Bool) (fe:En->oT D) (ρ0:En):oH D->oT (oH D)
 | []=>oF []
 |d::ds=>(fg d ρ0).bind λρ1=>(ft ρ1).bind λb=>if b=oP then(fe ρ1).bind λy=>(jH fg ft fe ρ0 ds).map (y:: ·) else jH fg ft fe ρ0 ds
open Classical in
noncomputable def iJ (n:Nat) (js:oH (oT Nat)) (is:oH Nat) (fi:En->oT (oH D)) (fg:D->En->oT En) (ft:En->oT Bool) (fe:En->oT D) (ρ:En):oT D:=(fi ρ).bind λds=>
 if -ds<=aM/\is.all (λi=>js[i]? == oF oM)=oP then(jH fg ft fe (gH n js ρ) ds).map (.nd .lst ·) else oM
theorem aaV(I:aj K n H U σ hv ρ τv τd):aj K js.length H (λ_=>False) (jv js σ) [] (gH n js ρ) [] []:=by
 refine#[#[by rw[jv,gH];simp,λb z=>z.elim,λ_ _=>False,λ_ _ _ z=>z.elim,λ_ _ z=>z.elim,λi β aw=> ?_],by rw[jv,gH];simp,by rw[jv];simp];rw[jQ,nM]at aw;rw[jQ,nM,nM];rw[gH]at aw;rw[bJ]at aw;cases e:js[i]? with
 |none=>rw[e]at aw;lk
 |some o=>
  rw[e]at aw;have aw:(o.bind λj=>if j < n then(af j ρ).map B.ro else oM)\β:=IM aw;cases o with
  |none=>lk
  |some j=>
   have aw:(if j < n then(af j ρ).map B.ro else oM)\β:=aw;by_cases c:j < n
   .rw[zJ c]at aw;let d h1 h2:=aY.mp aw;subst h2;have:jC j n:=#[c]
    have key:nE j σ H λv H'=>H'=H/\σ[j]?\!v/\Vw K H T1 v d:=by
     let o g1 g2:=i_ h1;cases o with
     |none=>lk
     |some γ=>
      let v F ev sub sv:=I.slot g1;rw[I.name c]at ev;refine#[v,ev,rfl,ev, ?_];cases γ with
      |own d'=>cases g2;exact bg.vw sv
      |ro d'=>cases g2;exact Vw.any sv
      |aB r p=>
       let d0 hr g:=i_ g2;obtain⟨_,vr,er,hp⟩:=sv;let v' F' ij _ rp:=I.AM hr;rw[er]at ij;cases ij;exact rp.sub g hp λ_ _=>trivial
    let v ev _ _ vw:=key;refine#[v, ?_,vw.mono λ_ _ z=>z];rw[jv];rw[bJ,e];show oF ((σ[j]?).join)\!v;rw[ev];rfl
   .rw[zK c]at aw;lk
instance D3{wi:TI}{g:TG}{tt:TT}{te:TE}{is:oH Nat}{fi:En->oT (oH D)}{fg:D->En->oT En}{ft:En->oT Bool}{fe:En->oT D}[hm:vW js m]
  [A:SI K n wi fi] [G:SG K m g fg is] [T:kq K m tt ft] [Q':SQ K m te fe]:SF K n (xH wi g tt te js) (iJ n js is fi fg ft fe):=#[λ{σ hv H U ρ τv τd d Q} I h k=>by
 have hm:=hm.h;subst hm;let ds h1 h:=i_ h;by_cases c:-ds<=aM/\is.all (λi=>js[i]? == oF oM)=oP
 .rw[zJ c]at h;let es h2 h:=aY.mp h;subst h;refine A.s I h1 λJ H1 s1 wk=>?_;have I1:=aaV (js:=js) (I.same s1);have aaW:∀i∈is,∀β,(gH n js ρ)[i]?≠oF (!β):=λi hi β z=>by
   have:=gA.mp c.2 i hi;have e:js[i]?\oM:=by simpa using this
   rw[gH]at z;rw[bJ,e]at z;cases z
  have vq:∀(j:Nat) (β:B),(gH n js ρ)[j]?\!β->∀r p,β≠ .aB r p:=λj β z r p e=>by
   subst e;rw[gH]at z;rw[bJ]at z;cases e:js[j]? with
   |none=>rw[e]at z;lk
   |some o=>
    rw[e]at z;have z:=IM z;cases o with
    |none=>lk
    |some x=>
     have z:(if x < n then(af x ρ).map B.ro else oM)\B.aB r p:=z;by_cases c:x < n
     .rw[zJ c]at z;obtain⟨_,_,w⟩:=aY.mp z;lk
     .rw[zK c]at z;lk
  refine#[λi m dg ys H'=>m=-ds - i/\i<=-ds/\aJ H1 H'/\aj K (-js) H' (λ_=>False) dg [] (gH n js ρ) [] []/\-ys<=i/\∃ea eb,es=ea++eb/\jG K H1 H' ys ea/\jH fg ft fe (gH n js ρ) (ds.drop i)\eb,#[-ds,by simp,jO _,aJ.refl _,I1,bO _, [],es,rfl, .nil,h2], ?_];rintro i m dg ys H' ⟨rfl,hi,sx,Ix,hy,ea,eb,rfl,ow,cd⟩;by_cases dS:i < -ds
  .right;have hd:ds[i]?\ds[i]:=dH dS;let go yl:=(wk H' sx).2 i _ hd;rw[Cr dS]at cd;rw[jH]at cd;let ρ1 b1 cd:=i_ cd;let b b2 cd:=i_ cd;refine#[go,λsm zs H2=>aJ H1 H2/\aj K (-js) H2 (λ_=>False) sm [] (gH n js ρ) [] []/\-zs<=i + 1/\∃fa fb,ea++eb=fa++fb/\jG K H1 H2 zs fa/\jH fg ft fe (gH n js ρ) (ds.drop (i + 1))\fb,λsm zs H2 #[a1,a2,a3,a4]=>#[by lia,_,atx _ _ dS,rfl,dS,a1,a2,a3,a4],λx H2 y2=> ?_];let s2 w2:=yl x H2 y2;refine G.s (Ix.same s2) (w2.mono λ_ _ z=>z) b1 λsm I2=>?_;have back:∀{H3:Hp},aJ H2 H3->aj K (-js) H3 (λ_=>False) sm [] (gH n js ρ) [] []:=λ{H3} s3=>by
    refine(I2.same s3).weaken (G.len b1).symm λj β q=> ?_;by_cases hj:j∈is
    .exact absurd q (aaW j hj β)
    .exact G.keep b1 hj (vq j β q) q
   refine T.s I2 b2 λH4 s4=>?_;cases b with
   |true=>
    rw[zJ rfl]at cd |-;let y b3 cd:=i_ cd;let fb b4 cd:=aY.mp cd;subst cd;refine Q'.o (I2.same s4) b3 λv H5 s5 o=>#[sx.trans (s2.trans (s4.trans s5)),back (s4.trans s5),by simp;lia,ea++ [y],fb,by simp, ?_,b4]
    have o':ou K H' H5 v y:=o.early (s2.trans s4);exact ow.snoc o' sx (s2.trans (s4.trans s5))
   |false=>
    rw[zK df]at cd |-;refine#[sx.trans (s2.trans s4),back s4,by lia,ea,eb,rfl, ?_,cd];let hl Fs dj fr rp:=ow;exact#[hl,Fs,dj,λj b z=>#[(fr j b z).1,AL (fr j b z).2 (s2.trans s4)],λj v d a b=>(rp j v d a b).same (s2.trans s4)]
  .left;have e:i=-ds:=b_
   subst e;rw[FR,jH]at cd;cases cd;rw[nM]at k;refine#[(wk H' sx).1,λD hD=> ?_];exact k _ _ ((s1.trans sx).trans (fE hD _)) ((ow.node (k:= .lst) sx hD (.inr #[rfl,trivial,0,rfl])).early s1)
 .rw[zK c]at h;lk]
variable {E:ke}
structure Iu(K:ah)(J:It)(ds:List D)(P:Hp->(zI->Prop)->Prop):Prop where
 step:∀{H H' U U'},P H U->bH U H U' H'->(∀b,U b->iB (H b))->P H' U'
 stop:∀{H U},P H U->J.stop ds.length H
 item:∀{H U} {i:Nat} {d:D},P H U->ds[i]?=oF d->J.go i H/\∀x H',J.apQ i H x H'->H'=H/\Vw K H (λb=>¬ U b) x d
class A2(K:ah)(n:Nat)(wi:TI)(f:outParam (En->Option (List D))):Prop where
 s:∀{σ hv:List (Option V)} {H:Hp} {U:zI->Prop} {ρ:En} {τv:List V} {τd:List D} {ds:List D} {R:It->Hp->Prop},aj K n H U σ hv ρ τv τd->f ρ=oF ds->(∀J P H',aJ H H'->Iu K J ds P->P H' U->R J H')->wi σ H R
theorem D4(lo:Int)(m:Nat):Iu K (Ac lo m) (iQ lo m) λ_ _=>True:=by
 have l:-(iQ lo m)=m:=by rw[iQ];simp
 refine#[λ_ _ _=>trivial,λ{H U} _=>by show m<=_;rw[l];exact bO _,λ{H U i d} _ hd=> ?_];have hi:i < m:=by rw[<- l];exact(cX.mp hd).1
 refine#[hi,λx H2 #[e,hx]=>#[e, ?_]];subst hx;rw[iQ]at hd;rw[bJ,V6 hi]at hd;cases hd;exact .sc _
instance akp[A:SA K n ta fa]:A2 K n (CK ta) (λρ=>(fa ρ).bind tZ):=#[λ{σ hv H U ρ τv τd ds R} I h k=>by
 let a h1 h2:=i_ h;refine A.s I h1 λvs H1 s1 w=>?_;let j e c1 c2 e2:=Ir w h2;subst e2;exact#[j,e,c1,c2,k _ _ H1 s1 (D4 0 _) trivial]]
instance akq[A:SA K n ta fa]:A2 K n (Ox ta) (λρ=>(fa ρ).bind m7):=#[λ{σ hv H U ρ τv τd ds R} I h k=>by
 let a h1 h2:=i_ h;refine A.s I h1 λvs H1 s1 w=>?_;let i j e c e2:=aaT w h2;subst e2;exact#[i,j,e,c,k _ _ H1 s1 (D4 i _) trivial]]
theorem D5(h:gF K H (λb=>¬ U b) vs cs)(st:bH U H U' H')(mu:∀b,U b->iB (H b)):gF K H' (λb=>¬ U' b) vs cs:=#[h.1,λi v d a b=>(h.2 i v d a b).over (λb o nb q=>st b o q nb) (st.gO mu)]
theorem Q0{R:It->Hp->Prop}(w:Vw K H (λb=>¬ U b) v d)(h:fP d\ds)(k:∀J P,Iu K J ds P->P H U->R J H):
  (∃a,v= .ref a/\(∃xs,gN K H a xs)/\R (tf K a) H)\/(∃a,v= .ref a/\(∃xs,cE K H a xs)/\R (CJ K a) H)\/∃z,v= .str z/\R (Dq z) H:=by
 unfold fP at h
 split at h
 .next cs=>
  cases h;let a vs rfl na hc hl bB:=w.node;refine .inl #[a,rfl,#[vs,gN.of hc.2],k _ (λH U=>H a\.lst vs/\¬ U a/\gF K H (λb=>¬ U b) vs ds) #[λ{H H' U U'} #[x1,x2,x3] st mu=>#[(st _ _ x1 x2).1,(st _ _ x1 x2).2,D5 x3 st mu],λ{H U} #[x1,_,x3]=>#[vs,gN.of x1,x3.1^^bO _],λ{H U i d} #[x1,x2,x3] hd=> ?_] #[hc.2,na rfl,hl,bB]];let u hu w:=x3.get hd;exact#[#[vs,u,gN.of x1,hu],λx H2 #[e,q]=>#[e,by
   have:=q vs (gN.of x1);rw[hu]at this;cases this;lk]]
 .next cs=>
  cases h;let a vs rfl na hc hl bB:=w.node;refine .inr (.inl #[a,rfl,#[vs,cE.of hc.2],k _ (λH U=>H a\.tup vs/\gF K H (λb=>¬ U b) vs ds) #[λ{H H' U U'} #[x1,x3] st mu=>#[st.gO mu _ _ (λz=>z) x1,D5 x3 st mu],λ{H U} #[x1,x3]=>#[vs,cE.of x1,x3.1^^bO _],λ{H U i d} #[x1,x3] hd=> ?_] #[hc.2,hl,bB]]);let u hu w:=x3.get hd;exact#[#[vs,u,cE.of x1,hu],λx H2 #[e,q]=>#[e,by
   have:=q vs (cE.of x1);rw[hu]at this;cases this;lk]]
 .next cs=>
  cases h;let a vs rfl na hc hl bB:=w.node;have ho:jA K H a vs:=hc.2;refine .inl #[a,rfl,#[vs,ho.sq],k _ (λH U=>jA K H a vs/\gF K H (λb=>¬ U b) vs ds) #[λ{H H' U U'} #[x1,x3] st mu=>#[x1.gO (st.gO mu),D5 x3 st mu],λ{H U} #[x1,x3]=>#[vs,x1.sq,x3.1^^bO _],λ{H U i d} #[x1,x3] hd=> ?_] #[ho,hl,bB]];let u hu w:=x3.get hd;exact#[#[vs,u,x1.sq,hu],λx H2 #[e,q]=>#[e,by
   have:=q vs (x1.sq);rw[hu]at this;cases this;lk]]
 .next cs=>
  cases h;let a vs rfl na hc hl bB:=w.node;have ho:jA K H a vs:= .inl hc.2.2.2;refine .inl #[a,rfl,#[vs,ho.sq],k _ (λH U=>jA K H a vs/\gF K H (λb=>¬ U b) vs ds) #[λ{H H' U U'} #[x1,x3] st mu=>#[x1.gO (st.gO mu),D5 x3 st mu],λ{H U} #[x1,x3]=>#[vs,x1.sq,x3.1^^bO _],λ{H U i d} #[x1,x3] hd=> ?_] #[ho,hl,bB]];let u hu w:=x3.get hd;exact#[#[vs,u,x1.sq,hu],λx H2 #[e,q]=>#[e,by
   have:=q vs (x1.sq);rw[hu]at this;cases this;lk]]
 .next z=>
  cases h;have lz:-(chars z)=z.cps.size:=by rw[chars];simp
  refine .inr (.inr #[z,w.bA,k _ (λ_ _=>True) #[λ_ _ _=>trivial,λ{H U} _=>by show z.cps.size<=_;rw[lz];exact bO _,λ{H U i d} _ hd=> ?_] trivial]);have hi:i < z.cps.size:=by rw[<- lz];exact(cX.mp hd).1
  refine#[hi,λx H2 #[e,c,hc,hx]=>#[e, ?_]];subst hx;rw[chars]at hd;rw[bJ]at hd;have:z.cps.toList[i]?\c:=by simpa using hc
  rw[this]at hd;cases hd;exact .sc _
 .lk
theorem ou.out(o:ou K H H' v d)(mu:∀b,U b->iB (H b)):Vw K H' (λb=>¬ U b) v d:=by
 let G r f:=o;exact r.view λb z u=>by
  let w q:=rN (mu b u);rw[(f b z).1]at q;lk
def axc(f:En->oT Pl)(ρ:En):oT (oH D):=(f ρ).bind λ
 |.ro d=>fP d
 |.rt _ _=>oM
instance (priority:=500) aBX{tl:TE}{fl:En->oT Pl}[A:SP K n tl fl]:A2 K n (vV K tl) (axc fl):=#[λ{σ hv H U ρ τv τd ds R} I h k=>by
 let q h1 h2:=i_ h;cases q with
 |rt _ _=>lk
 |ro d=>exact A.s I h1 λx H1 s1 w1=>Q0 w1 h2 λJ P wk p=>k J P H1 s1 wk p]
noncomputable def eB (fg:D->En->oT En) (fb:En->oT Fl):oH D->En->oT Fl
 | [],ρ=>oF (.nx ρ)
 |d::ds,ρ=>(fg d ρ).bind λρ1=>(fb ρ1).bind λ
  |.nx ai=>eB fg fb ds ai
  |.ct ai=>eB fg fb ds ai
  |.bk ai=>oF (.nx ai)
  |.rt d ai=>oF (.rt d ai)
instance aaX[A:A2 K n wi fi][G:SG K n g fg is][B':SS K n tb fb]:SS K n (xv wi g tb) (λρ=>(fi ρ).bind λds=>eB fg fb ds ρ):=#[λ{σ hv H U ρ τv τd fl E} I h k=>by
 let ds h1 h:=i_ h;refine A.s I h1 λJ P H1 s1 wk p0=>?_;have gw:bH U H U H1:=λb o q nu=>#[s1 b o q,nu]
 refine#[λi m dg H'=>m=-ds - i/\i<=-ds/\∃U' ρ',aj K n H' U' dg hv ρ' τv τd/\bH U H U' H'/\P H' U'/\eB fg fb (ds.drop i) ρ'\fl,#[-ds,by simp,jO _,U,ρ,I.same s1,gw,p0,h], ?_];rintro i m dg H' ⟨rfl,hi,U',ρ',Ix,st,p,fo⟩;by_cases dS:i < -ds
 .right;have hd:ds[i]?\ds[i]:=dH dS;let go yl:=wk.item p hd;rw[Cr dS,eB]at fo;let ρ1 b1 fo:=i_ fo;let t6 b2 fo:=i_ fo;refine#[go,λsm H2=>∃U2 ai,aj K n H2 U2 sm hv ai τv τd/\bH U' H' U2 H2/\eB fg fb (ds.drop (i + 1)) ai\fl,λsm H2 #[U2,ai,a1,a2,a3]=>#[_,atx _ _ dS,rfl,dS,U2,ai,a1,st.trans a2,wk.step p a2 Ix.ok.mu,a3],λx H2 y2=> ?_];let e w2:=yl x H2 y2;subst e;refine G.s Ix w2 b1 λsm I2=>?_;refine B'.s I2 b2 ?_;cases t6 with
  |nx ai=>exact λtO H3 U3 I3 s3=>#[U3,ai,I3,s3,fo]
  |ct ai=>exact λtO H3 U3 I3 s3=>#[U3,ai,I3,s3,fo]
  |bk ai=>cases fo;exact λtO H3 U3 I3 s3=>k tO H3 U3 I3 (st.trans s3)
  |rt d ai=>cases fo;exact λv tO H3 U3 I3 s3=>k v tO H3 U3 I3 (st.trans s3)
 .left;have e:i=-ds:=b_
  subst e;rw[FR,eB]at fo;cases fo;exact#[wk.stop p,k dg H' U' Ix st]]
noncomputable def j6 (fc:En->oT (Bool×En)) (fb:En->oT Fl):Nat->En->oT Fl
 |0,_=>oM
 |k + 1,ρ=>(fc ρ).bind λc=>if c.1=oP then(fb c.2).bind λ
   |.nx ai=>j6 fc fb k ai
   |.ct ai=>j6 fc fb k ai
   |.bk ai=>oF (.nx ai)
   |.rt d ai=>oF (.rt d ai)
  else oF (.nx c.2)
theorem Iv:∀{k j:Nat} {ρ:En} {a b:Fl},j6 fc fb k ρ\a->j6 fc fb j ρ\b->a=b
 |0,_,_,_,_,h,_=>by lk
 |_ + 1,0,_,_,_,_,h=>by lk
 |k + 1,j + 1,ρ,a,b,h,h'=>by
  rw[j6]at h h';let c h1 h:=i_ h;rw[h1]at h';have h':(if c.1=oP then _ else oF (Fl.nx c.2))\b:=h';by_cases cc:c.1=oP
  .rw[zJ cc]at h h';let f1 h2 h:=i_ h;rw[h2]at h';cases f1 with
   |nx ai=>exact Iv h h'
   |ct ai=>exact Iv h h'
   |bk ai=>cases h;cases h';rfl
   |rt d ai=>cases h;cases h';rfl
  .rw[zK cc]at h h';cases h;cases h';rfl
open Classical in
noncomputable def D6 (fc:En->oT (Bool×En)) (fb:En->oT Fl) (ρ:En):oT Fl:=if h:∃k fl,j6 fc fb k ρ\fl then oF h.choose_spec.choose else oM
theorem Q1(h:j6 fc fb k ρ\fl):D6 fc fb ρ\fl:=by
 rw[D6];have hx:∃k fl,j6 fc fb k ρ\fl:=#[k,fl,h]
 rw[dif_pos hx];exact congrArg oF (Iv hx.choose_spec.choose_spec h)
instance akt[C:ST K n c fc][B':SS K n tb fb]:SS K n (Ou c tb) (D6 fc fb):=#[λ{σ hv H U ρ τv τd fl E} I h k=>by
 rw[D6]at h;by_cases hx:∃k fl,j6 fc fb k ρ\fl
 .rw[dif_pos hx]at h;have hw:=hx.choose_spec.choose_spec;rw[IM h]at hw;refine#[λm dg H'=>∃U' ρ',aj K n H' U' dg hv ρ' τv τd/\bH U H U' H'/\j6 fc fb m ρ'\fl,#[hx.choose,U,ρ,I,bH.refl U H,hw], ?_];rintro m dg H' ⟨U',ρ',Ix,st,fo⟩;cases m with
  |zero=>lk
  |succ m=>
   rw[j6]at fo;obtain⟨⟨b,ρ1⟩,h1,fo⟩:=i_ fo;refine C.s Ix h1 λH1 U1 I1 bQ=>?_;cases b with
   |true=>
    rw[zJ rfl]at fo |-;let f1 h2 fo:=i_ fo;refine#[λsm H2=>∃U2 ai,aj K n H2 U2 sm hv ai τv τd/\bH U H U2 H2/\j6 fc fb m ai\fl,λsm H2 z=>#[m,FN m,z],B'.s I1 h2 ?_];cases f1 with
    |nx ai=>exact λtO H3 U3 I3 s3=>#[U3,ai,I3,st.trans (bQ.trans s3),fo]
    |ct ai=>exact λtO H3 U3 I3 s3=>#[U3,ai,I3,st.trans (bQ.trans s3),fo]
    |bk ai=>cases fo;exact λtO H3 U3 I3 s3=>k tO H3 U3 I3 (st.trans (bQ.trans s3))
    |rt d ai=>cases fo;exact λv tO H3 U3 I3 s3=>k v tO H3 U3 I3 (st.trans (bQ.trans s3))
   |false=>
    rw[zK df]at fo |-;cases fo;exact k dg H1 U1 I1 (st.trans bQ)
 .rw[dif_neg hx]at h;lk]
end
section
variable {K:ah}{n:Nat}{H H' H1 H2:Hp}{U U':zI->Prop}{σ hv:oH (oT V)}{ρ ρ':En}{τv vs:oH V}{τd ds:oH D}{v y:V}{d:D}{E:XK}{N:zI->Prop}{C:zI}{m:Str}
theorem axd:∀{ns:oH Str} {vs:oH V},jf f ns=oM->-ns=-vs->(ns.zip vs).lookup f=oM
 | [], [],_,_=>rfl
 | [],_::_,_,h=>by lk
 |g::r, [],_,h=>by lk
 |g::r,v::vs,h,hl=>by
  rw[jf]at h;rw[nV,nR];by_cases c:(f == g)=oP
  .rw[zJ c]at h;lk
  .rw[zK c]at h;rw[aHb]at c;rw[c];exact axd (aHc.mp h) (eF hl)
def A0(C:zI)(m:Str):D->Bool
 |.nd (.obj C' ns) _=>decide (C'=C) && (jf m ns).isNone
 |_=>yv
theorem Vw.objOf(w:Vw K H N v d)(h:A0 C m d=oP):∃a dx fs,v= .ref a/\H a\.ins C dx fs/\fs.lookup m=oM:=by
 unfold A0 at h
 split at h
 .next C' ns cs=>
  rw[kM]at h;let a vs rfl _ hc hl bB:=w.node;obtain⟨⟨hf,_,_⟩,dx,ha⟩:=hc;have e:C'=C:=by simpa using h.1
  subst e;exact#[a,dx,_,rfl,ha,axd (by simpa using h.2) hf]
 .lk
def methP(G:oH D->oT D)(C:zI)(m:Str)(k:Nat)(fa:En->oT D)(fr:En->oT (oH D))(ρ:En):oT D:=(fa ρ).bind λd=>if A0 C m d=oP then(fr ρ).bind λds=>if -ds + 1=k then G (d::ds) else oM else oM
instance aHO[A:SV K n ta fa][R:SA K n t fr]:SF K n (apS C m (cL K k G) [] E ta t) (methP G C m k fa fr):=#[λ{σ hv H U ρ τv τd d Q} I h kk=>by
 let x h1 h:=i_ h;by_cases c:A0 C m x=oP
 .rw[zJ c]at h;let ds h2 h:=i_ h;by_cases cl:-ds + 1=k
  .rw[zJ cl]at h;refine A.s I h1 λv H1 s1 w1=>?_;let a dx fs rfl ha hl:=w1.objOf c;refine#[a,dx,fs,rfl,ha,hl,R.s (I.same s1) h2 λvs H2 s2 w2=> ?_];rw[nM];exact#[x::ds,d,cl, .cons (w1.same s2) w2,h,λv H3 s3 o=>kk v H3 (s1.trans (s2.trans s3)) (o.early (s1.trans s2))]
  .rw[zK cl]at h;lk
 .rw[zK c]at h;lk]
def abo(G:oH D->oT (D×oH D))(C:zI)(m:Str)(fp:En->oT Pl)(fr:En->oT (oH Ar))(ρ:En):oT (D×En):=(fp ρ).bind λq=>(nT ρ q).bind λd=>if A0 C m d=oP then(match q with
 |.rt r p=>(fr ρ).bind λas=>fL G (.io #[r,p]::as) ρ
 |.ro _=>oM) else oM
instance (priority:=600) aHP{ta:TE}{t:TA}{bp:oH Bool}{G:oH D->oT (D×oH D)}{fp:En->oT Pl}{fr:En->oT (oH Ar)}[P:SP K n ta fp][R:tW K n bp t fr]:SM K n (apS C m (dW K (oP::bp) G) [] E ta t) (abo G C m fp fr):=#[λ{σ hv H U ρ ρ' τv τd d Q} I h k=>by
 let q h1 h:=i_ h;let x h2 h:=i_ h;by_cases c:A0 C m x=oP
 .rw[zJ c]at h;cases q with
  |ro _=>lk
  |rt r p=>
   let as h3 h:=i_ h;refine P.s I h1 λv H1 s1 w1=>?_;have I1:=I.same s1;have gw:bH U H U H1:=λb o q nu=>#[s1 b o q,nu]
   let a dx fs rfl ha hl:=(I1.at w1 h2).objOf c;refine#[a,dx,fs,rfl,ha,hl,R.s I1 h3 λvs ws wd H2 U2 I2 rC dJ s2 ao=> ?_];rw[nM];exact I2.Ia rC (gw.trans dJ) (.io (i:=#[r,p]) (w1.step s2 dJ) ao) h k
 .rw[zK c]at h;lk]
class nc(K:ah)(C:zI):Prop where
 h:mN K C
theorem D7{α:Type}:∀(k:Nat) (xs:oH α),bW (ug k yv) xs= []
 |0,_=>by simp[bW]
 |k + 1, []=>by simp[bW,ug]
 |k + 1,x::xs=>[List.replicate_succ,bW]^^D7 k xs
theorem aaY{Q:VK}(hC:mN K C)(w:gF K H T1 vs ds)(hk:-ds=k)(hG:G (.nd (.obj C []) []::ds)\(r, [out]))(hr:r= .sc .aG)(hx:H x=oM)(Iw:H dx=oM)(ne:dx≠x)
  (q:∀H',aJ H H'->ou K H H' (.ref x) out->Q (.ref x) H'):dW K (oP::ug k yv) G (.ref x::vs) (dm (dm H dx (.own x)) x (.ins C dx [])) (λv H2=>v= .aG/\Q (.ref x) H2) E:=by
 have s0:aJ H (dm (dm H dx (.own x)) x (.ins C dx [])):=λb o e=>by
  rw[ba (gM e hx),ba (gM e Iw)];lk
 have ao6:dm (dm H dx (.own x)) x (.ins C dx []) x\.ins C dx []:=uB;refine#[by rw[p8,p8,apO,w.1,hk], .nd (.obj C []) []::ds,λb=>b=x,r, [out],by rw[p8,p8,apO,hk], ?_,λi u e hm hu he=> ?_,hG,λv H2 U2 ok st=> ?_]
 .rw[bW,bW,D7,D7];refine#[rfl,λb hb=>by rw[hb,ao6];trivial,λi b=>i=0/\b=x,λi j b hi hj=>by rw[hi.1,hj.1],λi b hb=>hb.2,λi β aw=> ?_];cases i with
  |succ i=>simp[bU]at aw
  |zero=>
   cases aw;refine#[.ref x,rfl, .nd (vs:= []) (λ_ _=>False) ?_ rfl (λ_ _ _ z=>z.elim) (λ_ _ z=>z.elim) λi v d h=>by simp at h];exact#[#[rfl,rfl],rfl,#[rfl,hC,λf hf=>by simp at hf],dx,ao6]
 .cases i with
  |zero=>cases hm
  |succ i=>
   have a:vs[i]?\u:=by simpa using hu
   have b:ds[i]?\e:=by simpa using he
   exact(w.2 i u e a b).over (λc o _ q=>#[s0 c o q,λz=>by rw[z,hx]at q;lk]) (gu.of s0)
 .subst hr;rw[bW,D7]at ok;obtain⟨_,mu,Fs,dj,sub,sl⟩:=ok;let v' ev sv:=sl 0 _ rfl;cases ev;have e0:v= .aG:=bg.bA sv;let x' ex sx:=sl 1 (.own out) rfl;cases ex;refine#[e0,q H2 (λb o e=>(st b o (s0 b o e) λz=>by rw[z,hx]at e;lk).1) #[Fs 1,sx,λb z=>#[?_,mu b (sub 1 b z)]]];cases e:H b with
  |none=>rfl
  |some o=>exact absurd (sub 1 b z) (st b o (s0 b o e) λz=>by rw[z,hx]at e;lk).2
noncomputable def oO:D->Bool
 |.sc .aG=>oP
 |_=>yv
def oQ(G:oH D->oT (D×oH D))(C:zI)(k:Nat)(fa:En->oT (oH D))(ρ:En):oT D:=(fa ρ).bind λds=>if -ds=k then(G (.nd (.obj C []) []::ds)).bind λ
 |(r, [o])=>if oO r=oP then oF o else oM
 |_=>oM else oM
instance aku[hC:nc K C][A:SA K n t fa]:SF K n (atG C (dW K (oP::ug k yv) G) [] E t) (oQ G C k fa):=#[λ{σ hv H U ρ τv τd d Q} I h kk=>by
 let ds h1 h:=i_ h;by_cases c:-ds=k
 .rw[zJ c]at h;obtain⟨⟨r,dq⟩,h2,h⟩:=i_ h
  match dq,h with
  | [o],h=>
   have h:(if oO r=oP then oF o else oM)\d:=h;by_cases cr:oO r=oP
   .rw[zJ cr]at h;cases h;have er:r= .sc .aG:=by
     unfold oO at cr
     split at cr
     .rfl
     .lk
    refine A.s I h1 λvs H1 s1 w=>?_;intro x dx hx Iw ne;rw[nM];exact aaY hC.h w c h2 er hx Iw ne λH2 s2 o=>kk _ H2 (s1.trans s2) (o.early s1)
   .rw[zK cr]at h;lk
  | [],h=>lk
  |_::_::_,h=>lk
 .rw[zK c]at h;lk]
instance akv:SF K n Dc (λ_=>oF (.nd (.aO []) [])):=#[λ{σ hv H U ρ τv τd d Q} I h k=>by
 cases h;intro p hp;exact k _ _ (fE hp _) ((jG.nil).node (aJ.refl H) hp (.inr #[rfl,rfl,0,rfl]))]
theorem aaZ(hc:iT K H a k vs)(h:fW (.nd k cs) dy\o):Df H a:=by
 unfold fW at h
 split at h
 .next ks _ i e=>cases e;exact .inl #[_,hc.2]
 .next ks _ fU e=>cases e;exact .inr #[_,hc.2]
 .lk
def iu(fd fy fx:En->oT D)(ρ:En):oT D:=(fd ρ).bind λd=>(fy ρ).bind λy=>(fx ρ).bind λx=>(fW d y).bind λ
 |some i=>jh d i
 |none=>oF x
instance akw[A:SV K n td fd][B':SV K n ty fy][C':SV K n tx fx]:SV K n (Pp td ty tx) (iu fd fy fx):=#[λ{σ hv H U ρ τv τd d Q} I h k=>by
 let x h1 h:=i_ h;let y h2 h:=i_ h;let z h3 h:=i_ h;let o h4 h:=i_ h;refine A.s I h1 λv H1 s1 w1=>?_;cases x with
 |sc _=>simp[fW]at h4
 |hl _=>simp[fW]at h4
 |nd kk cs=>
  let a vs rfl _ hc hl bB:=w1.node;refine#[a,rfl,aaZ hc h4,B'.s (I.same s1) h2 λu H2 s2 w2=>C'.s ((I.same s1).same s2) h3 λt H3 s3 w3=> ?_];have aa0:=hc.frame (λ_ o e=>(s2.trans s3) _ _ e) (gu.of (s2.trans s3));have g:=aa0.DV hl (w2.same s3) h4;cases o with
  |none=>
   cases h;exact#[_,g,k t H3 (s1.trans (s2.trans s3)) w3]
  |some i=>
   let b hb:=pL hl h;have e:(!i).bind (vs[·]?)\b:=hb;rw[e]at g;exact#[_,g,k b H3 (s1.trans (s2.trans s3)) ((bB i b d hb h).same (s2.trans s3))]]
section
variable {κ:Type}[DecidableEq κ]
theorem Q2{y:V}:∀{ks:oH κ} {vs:oH V} {i:Nat},cM k ks\i->-ks=-vs->ks.Nodup->i8 (ks.zip vs) k y=ks.zip (vs.set i y):=λ{ks vs i} h hl nd=>by
 have ha:((ks.zip vs).any λkv=>decide (kv.1=k))=oP:=by rw[Ih hl,h];rfl
 rw[i8];rw[zJ ha];clear ha
 induction ks generalizing vs i with
 |nil=>lk
 |cons g r ih=>
  match vs,hl with
  | [],hl=>lk
  |v::vs,hl=>
   rw[cM]at h;have Q3:=jP.mp nd;by_cases c:g=k
   .rw[zJ c]at h;cases h;rw[nV,cP];have rest:∀(l:oH κ) (us:oH V),k∉l->(l.zip us).map (λkv=>if kv.1=k then(kv.1,y) else kv)=l.zip us:=by
     intro l
     induction l with
     |nil=>intro us _;rfl
     |cons b l aa1=>
      intro us hn;cases us with
      |nil=>rfl
      |cons u us=>
       rw[nV,cP,aa1 us λz=>hn (.tail _ z)];have:¬ b=k:=λz=>hn (z^^.head _);simp[this]
    rw[rest r vs (by rw[<- c];exact Q3.1)];simp[c]
   .rw[zK c]at h;let j h1 h2:=aY.mp h;subst h2;rw[nV,cP,ih h1 (eF hl) Q3.2];simp[c]
theorem aa2{y:V}{ks:oH κ}{vs:oH V}(h:cM k ks=oM)(hl:-ks=-vs):i8 (ks.zip vs) k y=(ks++ [k]).zip (vs++ [y]):=by
 have ha:((ks.zip vs).any λkv=>decide (kv.1=k))=yv:=by rw[Ih hl,h];rfl
 rw[i8];rw[zK (ha^^df),List.zip_append hl];rfl
end
def yf(k:Kd)(cs:oH D)(y d:D):oT D:=match k with
 |.aO ks=>(kJ y).bind λkey=>if -cs < aM/\ks.Nodup then(match cM key ks with
  |some i=>oF (.nd (.aO ks) (cs.set i d))
  |none=>oF (.nd (.aO (ks++ [key])) (cs++ [d]))) else oM
 |_=>oM
def hJ(fv:En->oT (D×En))(fp:En->oT Pl)(fy:En->oT D)(ρ:En):oT Fl:=(fv ρ).bind λa=>(fp a.2).bind λ
 |.rt r p=>(fy a.2).bind λy=>(eM a.2 r p).bind λz=>(yf z.2.1 z.2.2 y a.1).map λd'=> .nx (fV a.2 r z.1 p d')
 |.ro _=>oM
instance akx[A:SM K n tv fv][P:SP K n td fp][Y:SV K n ty fy]:SS K n (G2 td ty tv) (hJ fv fp fy):=#[λ{σ hv H U ρ τv τd fl E} I h k=>by
 obtain⟨⟨d,ρ1⟩,h1,h⟩:=i_ h;let q h2 h:=i_ h;cases q with
 |ro _=>lk
 |rt r p=>
  let y h5 h:=i_ h;obtain⟨⟨d0,kk,cs⟩,h3,h⟩:=i_ h;let d' h4 h:=aY.mp h;subst h;let hr hg:=qx h3;refine A.s I h1 λx H1 U1 I1 bQ=>?_;refine P.s I1 h2 λo H2 s2 w2=>?_;have I2:=I1.same s2;refine Y.s I2 h5 λu H3 s3 w3=>?_;have I3:=I2.same s3;have yg:=w2.same s3;have gw:bH U1 H1 U1 H3:=λb o q nu=>#[(s2.trans s3) b o q,nu]
  unfold yf at h4
  split at h4
  .next ks e=>
   subst e;let key e1 h4:=i_ h4;by_cases c:-cs < aM/\ks.Nodup
   .rw[zJ c]at h4;let a dx vs rfl ha hf hl _ ed:=aj.edit (xs:= [x]) (ds:= [d]) I3 rfl yg hr hg rfl
    split at h4
    .next i e2=>
     cases h4;have hi:i < -vs:=by rw[<- hf];exact AX e2
     refine#[a,_,rfl, .inl #[_,key,ha,w3.key e1,by rw[pz];lia,rfl], ?_];rw[Q2 e2 hf c.2];let U4 I4 g8:=ed (.aO ks) (vs.set i x) (cs.set i d) _ rfl (by show -ks=-(vs.set i x);rw[bN];lk) ([bN,bN]^^hl)
      (λx z hx hz=>AR hi x z (by rw[bN]at hx;lk) (by rw[bN]at hz;lk)) (qy hi) (hl^^qy b_)
     exact k σ _ U4 I4 (bQ.trans (gw.trans g8))
    .next e2=>
     cases h4;refine#[a,_,rfl, .inl #[_,key,ha,w3.key e1,by rw[pz];lia,rfl], ?_];rw[aa2 e2 hf];let U4 I4 g8:=ed (.aO (ks++ [key])) (vs++ [x]) (cs++ [d]) id rfl (by show(ks++ [key]).length=_;simp;lk) (by simp;lk) (λx z _ _ h=>h) (λj x h=>h) λj x h=>h;exact k σ _ U4 I4 (bQ.trans (gw.trans g8))
   .rw[zK c]at h4;lk
  .lk]
end
end VL
namespace HT
open PySem PySem.Spec PyProof.Rows L2
section
variable {w:zQ}{A:zS}{E:zL->zM->Prop}{s:zM}
theorem aa3{t sl:zI}{items:Array zL}{vl vu:zL}{lo hi:oT Int}{Q:zL->zM->Prop}(ht:IsTup s.heap t items)(hs:s.heap.IsSliceOf sl vl vu .none)(pl:IsPart vl lo)(pu:IsPart vu hi)
  (hw:bE items.size 0 lo=0/\bE items.size items.size hi=items.size) (h:Q (.ref t) s):wpAny (model prog w) A (getItem (.ref t) (.ref sl)) Q E s:=by
 let os mP ql qm:=id hs;have Ak:s.TypeIs (.ref sl) "slice":=#[os,mP,ql]
 rw[getItem]
 try with_reducible refine uL ?_
 first | refine az (bF ?_) | skip
 refine az (wpAny_sequenceKey ht.typeIs a_ ?_);refine az (ze (name:=ae "__getitem__") ht.typeIs uQ
  (wpAny_call_entry uQ ht.typeIs Vd ?_ (args_tuple_getitem _ _)))
 show wpAny _ _ (VJ (.ref t) >>= _) _ _ s;refine az (tupleItemsOf_ ht ?_);refine az (Np Ak ?_);rw[zJ a_];refine az (OW hs pl pu ?_);have aa4:(((bE items.size 0 lo:Nat):Int) == 0 && (1:Int) == 1 && (bE items.size items.size hi - bE items.size 0 lo) == items.size)=oP:=by
  rw[hw.1,hw.2];simp
 show wpAny _ _ (if(((bE items.size 0 lo:Nat):Int) == 0 && (1:Int) == 1 && (bE items.size items.size hi - bE items.size 0 lo) == items.size)=oP then _ else _) _ _ s;rw[zJ aa4];rw[Builtin.Tuple.tupleIsExact];refine az (az (Np ht.typeIs (bF ?_)));rw[zJ a_];exact az (wpAny_rule (bF #[_,rfl,bF h]))
end
end HT
namespace VL
open PySem PySem.Spec PyProof.Rows L2
def Q4(K:ah):V->oT Int->oT Int->Hp->VK->Prop:=λx lo hi H Q=>∃a xs,x= .ref a/\cE K H a xs/\(HT.bE (-xs) 0 lo=0/\HT.bE (-xs) (-xs) hi=-xs)/\Q (.ref a) H
theorem aa5:mQ X (Q4 X.K):=by
 intro ab s σ H x v vl vu lo hi sl Q I rx hs pl pu h;let a xs rfl hx hw q:=h;cases rx;let ag r ht hz:=I.tuple hx;have dw:ag.toArray.size=-xs:=fM^^r.length.symm
 refine#["tuple",_,uQ.lookup,ht.typeIs, ?_];exact HT.aa3 ht hs pl pu (dw^^hw) #[.ref a,H,I,rfl,q]
def aa6:V->oT Int->oT Int->Hp->VK->Prop:=λx lo hi H Q=>∃z,x= .str z/\z.length<=aM/\Q (.str (xj z lo hi)) H
def oR(K:ah):V->oT Int->oT Int->Hp->VK->Prop:=λx lo hi H Q=>OZ K x lo hi H Q\/Q4 K x lo hi H Q\/O6 K x lo hi H Q\/aa6 x lo hi H Q
theorem yh:mQ X (oR X.K):=mQ.or XN (mQ.or aa5 (mQ.or XZ Zn))
def cutD{α:Type}(xs:oH α)(lo hi:oT Int):oH α:=(xs.drop (HT.bE (-xs) 0 lo)).take (HT.bE (-xs) (-xs) hi - HT.bE (-xs) 0 lo)
def oS(a:D)(lo hi:oT Int):oT D:=match a with
 |.nd .tup cs=>if bI cs=oP then oF (.nd .tup (cutD cs lo hi)) else oM
 |.nd .lst cs=>if bI cs=oP then oF (.nd .lst (cutD cs lo hi)) else oM
 |.nd .dk cs=>if bI cs=oP then oF (.nd .lst (cutD cs lo hi)) else oM
 |.sc (.str z)=>if z.length<=aM then oF (.sc (.str (xj z lo hi))) else oM
 |_=>oM
section
variable {K:ah}{n:Nat}{H H' H1 H2:Hp}{U U':zI->Prop}{σ hv:oH (oT V)}{ρ ρ':En}{τv vs:oH V}{τd ds:oH D}{v y:V}{d:D}
theorem D8{α β:Type}{R:α->β->Prop}{xs:oH α}{ys:oH β}(hl:-xs=-ys)(h:∀(i:Nat) (x:α) (y:β),xs[i]?\x->ys[i]?\y->R x y)(lo hi:oT Int):
  -(cutD xs lo hi)=-(cutD ys lo hi)/\∀(i:Nat) (x:α) (y:β),(cutD xs lo hi)[i]?\x->(cutD ys lo hi)[i]?\y->R x y:=by
 unfold cutD;rw[hl];generalize HT.bE (-ys) 0 lo=p;generalize HT.bE (-ys) (-ys) hi - p=q;refine#[by simp[hl],λi x y hx hy=> ?_];by_cases c:i < q
 .rw[VE c,List.getElem?_drop]at hx hy;exact h _ x y hx hy
 .rw[List.getElem?_take,zK c]at hx;lk
theorem Iy(h:bI cs=oP)(hs:∀d∈es,d∈cs):bI es=oP:=vM λd hd=>xV h (hs d hd)
theorem Iz{α:Type}{xs:oH α}{lo hi:oT Int}:∀x∈cutD xs lo hi,x∈xs:=λx hx=>awO (aBu hx)
class SO(K:ah)(n:Nat)(t:TO)(f:outParam (En->Option (Option Int))):Prop where
 s:∀{σ hv:List (Option V)} {H:Hp} {U:zI->Prop} {ρ:En} {τv:List V} {τd:List D} {o:Option Int} {Q:Option Int->Hp->Prop},aj K n H U σ hv ρ τv τd->f ρ=oF o->(∀H',aJ H H'->Q o H')->t σ H Q
instance aky:SO K n ar2 (λ_=>oF oM):=#[λI h k=>by cases h;exact k _ (aJ.refl _)]
noncomputable def i9:D->oT (oT Int)
 |.sc (.int i)=>oF (!i)
 |_=>oM
instance akz[A:SV K n t f]:SO K n (rm t) (λρ=>(f ρ).bind i9):=#[λ{σ hv H U ρ τv τd o Q} I h k=>by
 let d h1 h2:=i_ h;refine A.s I h1 λv H1 s1 w1=>?_;unfold i9 at h2
 split at h2
 .next i=>cases h2;exact#[i,w1.bA,k H1 s1]
 .lk]
theorem Q5{Q:VK}{x:D}{lo hi:oT Int}(w:Vw K H T1 v x)(h:oS x lo hi\d)(k:∀v H',aJ H H'->ou K H H' v d->Q v H'):oR K v lo hi H Q:=by
 unfold oS at h
 split at h
 .next cs=>
  by_cases c:bI cs=oP
  .rw[zJ c]at h;cases h;let a vs rfl hc vl:=w.ip;by_cases cw:HT.bE (-vs) 0 lo=0/\HT.bE (-vs) (-vs) hi=-vs
   .refine .inr (.inl #[a,vs,rfl,cE.of hc.2,cw, ?_]);have e:cutD cs lo hi=cs:=by
     rw[cutD];rw[<- vl.1,cw.1,cw.2,V7,aBv,vl.1,aiF]
    rw[e]at k;exact k _ H (aJ.refl H) (ou.plain w c)
   .refine .inl #[a,vs,rfl,cE.of hc.2,cw,λp hp=> ?_];have g:=D8 vl.1 vl.2 lo hi;exact k _ _ (fE hp _) (gF.own (k:= .tup) #[g.1,g.2] (Iy c Iz) hp (.inl #[rfl,rfl]))
  .rw[zK c]at h;lk
 .next cs=>
  by_cases c:bI cs=oP
  .rw[zJ c]at h;cases h;let a vs rfl hc vl:=w.ip;refine .inr (.inr (.inl #[a,vs,rfl,gN.of hc.2,λp hp=> ?_]));have g:=D8 vl.1 vl.2 lo hi;exact k _ _ (fE hp _) (gF.own (k:= .lst) #[g.1,g.2] (Iy c Iz) hp (.inr #[rfl,trivial,0,rfl]))
  .rw[zK c]at h;lk
 .next cs=>
  by_cases c:bI cs=oP
  .rw[zJ c]at h;cases h;let a vs rfl hc vl:=w.ip;refine .inr (.inr (.inl #[a,vs,rfl,jA.sq hc.2,λp hp=> ?_]));have g:=D8 vl.1 vl.2 lo hi;exact k _ _ (fE hp _) (gF.own (k:= .lst) #[g.1,g.2] (Iy c Iz) hp (.inr #[rfl,trivial,0,rfl]))
  .rw[zK c]at h;lk
 .next z=>
  by_cases c:z.length<=aM
  .rw[zJ c]at h;cases h;exact .inr (.inr (.inr #[z,w.bA,c,k _ H (aJ.refl H) (.sc _)]))
  .rw[zK c]at h;lk
 .lk
def aqL(fe:En->oT D)(fl fh:En->oT (oT Int))(ρ:En):oT D:=(fe ρ).bind λd=>(fl ρ).bind λlo=>(fh ρ).bind λhi=>oS d lo hi
instance akA[A:SV K n te fe][L:SO K n tl fl][R:SO K n th fh]:SF K n (CY (oR K) te tl th) (aqL fe fl fh):=#[λ{σ hv H U ρ τv τd d Q} I h k=>by
 let x h1 h:=i_ h;let lo h2 h:=i_ h;let hi h3 h:=i_ h;refine A.s I h1 λv H1 s1 w1=>L.s (I.same s1) h2 λH2 s2=>R.s ((I.same s1).same s2) h3 λH3 s3=> ?_;exact Q5 (w1.same (s2.trans s3)) h λv H4 s4 o=>k v H4 (s1.trans (s2.trans (s3.trans s4))) (o.early (s1.trans (s2.trans s3)))]
def oU(i d:D)(cs:oH D):oT (oH D):=match i with
 |.sc (.int j)=>(gC (-cs) j).map λp=>cs.set p d
 |_=>oM
theorem aa7{i d:D}(h:oU i d cs\fU):∃j p,i= .sc (.int j)/\gC (-cs) j\p/\fU=cs.set p d:=by
 unfold oU at h
 split at h
 .next j=>
  let p h1 h2:=aY.mp h;exact#[j,p,rfl,h1,h2.symm]
 .lk
def rT(fe:En->oT (D×En))(fp:En->oT Pl)(fi:En->oT D)(ρ:En):oT Fl:=(fe ρ).bind λa=>(fp a.2).bind λ
 |.rt r p=>(fi a.2).bind λi=>(lO a.2 r p (oU i a.1)).map .nx
 |.ro _=>oM
instance akB[A:SM K n te fe][P:SP K n to fp][J:SV K n ti fi]:SS K n (vh te (Oq to ti O5)) (rT fe fp fi):=#[λ{σ hv H U ρ τv τd fl E} I h k=>by
 obtain⟨⟨d,ρ1⟩,h1,h⟩:=i_ h;let q h2 h:=i_ h;cases q with
 |ro _=>lk
 |rt r p=>
  let i h3 h:=i_ h;let ai h4 h:=aY.mp h;subst h;refine A.s I h1 λx H1 U1 I1 bQ=>?_;refine P.s I1 h2 λo H2 s2 w2=>?_;have I2:=I1.same s2;refine J.s I2 h3 λj H3 s3 w3=>?_;have I3:=I2.same s3;have yg:=w2.same s3;have gw:bH U1 H1 U1 H3:=λb o q nu=>#[(s2.trans s3) b o q,nu]
  obtain⟨⟨d0,kk,cs⟩,g1,g2⟩:=i_ h4;let hr hg:=qx g1
  split at g2
  .next e=>
   have e:kk= .lst:=e;subst e;let fU g3 g4:=aY.mp g2;subst g4;let z pp ei g5 g6:=aa7 (show oU i d cs\fU from g3);subst ei;subst g6
   .skip
    let a dx vs rfl ha hf hl _ ed:=aj.edit (xs:= [x]) (ds:= [d]) I3 rfl yg hr hg rfl;have hi:pp < -vs:=hl^^aan g5
    refine#[a,vs,z,pp,rfl,w3.bA,ha,hl^^g5, ?_];let U4 I4 g8:=ed .lst (vs.set pp x) (cs.set pp d) (λj=>if j=pp then -vs else j) rfl trivial ([bN,bN]^^hl)
     (λx z hx hz=>AR hi x z (by rw[bN]at hx;lk) (by rw[bN]at hz;lk)) (qy hi) (hl^^qy b_)
    exact k σ _ U4 I4 (bQ.trans (gw.trans g8))
  .lk]
def oV(fp:En->oT Pl)(ρ:En):oT (D×En):=(fp ρ).bind λ
 |.rt r p=>(eM ρ r p).bind λz=>match z.2.1 with
  |.lst=>(z.2.2[z.2.2.length - 1]?).bind λd=>if plain d=oP then oF (d,fV ρ r z.1 p (.nd .lst z.2.2.dropLast)) else oM
  |_=>oM
 |.ro _=>oM
theorem Q6{α:Type}{xs:oH α}{i:Nat}{x:α}(h:xs.dropLast[i]?\x):xs[i]?\x:=by
 rw[List.getElem?_dropLast]at h
 split at h
 .lk
 .lk
instance (priority:=600) akC{to:TE}{fp:En->oT Pl}[P:SP K n to fp]:SM K n (GJ K "list" GQ to) (oV fp):=#[λ{σ hv H U ρ ρ' τv τd d Q} I h k=>by
 let q h1 h:=i_ h;cases q with
 |ro _=>lk
 |rt r p=>
  obtain⟨⟨d0,kk,cs⟩,g1,g2⟩:=i_ h;let hr hg:=qx g1
  split at g2
  .next e=>
   have e:kk= .lst:=e;subst e;let d1 g3 g4:=i_ g2;by_cases c:plain d1=oP
   .rw[zJ c]at g4;cases g4;refine P.s I h1 λx H1 s1 w1=>?_;have I1:=I.same s1;have gw:bH U H U H1:=λb o q nu=>#[s1 b o q,nu]
    let a dx vs rfl ha hf hl vl ed:=aj.edit (τv:=τv) (τd:=τd) (xs:= []) (ds:= []) ([nM,nM]^^I1) rfl w1 hr hg rfl;have g3:cs[cs.length - 1]?\d:=g3;let y hy wy:=vl.get g3;let U3 I3 gZ:=ed .lst vs.dropLast cs.dropLast id rfl trivial (by simp[hl]) (λx z _ _ h=>h) (λj x h=>nM^^Q6 h) (λj x h=>nM^^Q6 h);have aa8:Vw K (dm H1 a (.lst vs.dropLast)) T1 y d:=((wy.plain c).frame (λ_ _ z=>z.elim) (vP (by rw[ha];trivial))).vw
    .let U4 I4 g8:=I3.push (aJ.refl _) (ou.plain aa8 c);exact#[DM ha,a,vs,y,rfl,rfl,ha,hl^^hy,k _ _ U4 I4 (gw.trans (gZ.trans g8))]
   .rw[zK c]at g4;lk
  .lk]
end
theorem Q7{K:ah}{m:Nat}{G:oH D->oT D}{vs:oH V}{H:Hp}{Q:VK}{E:XK}(h:cL K m G vs H Q E):-vs=m:=by
 let ds d hd w _:=h;rw[w.1,hd]
def lU(X:Cx)(scope:Scope):oH Str->oH (oT Nat)->Prop
 | [], []=>True
 |_::N,oM::js=>lU X scope N js
 |x::N,oF j::js=>(X.N[j]?\x/\scope.names.lookup x\.free/\(X.env.scope.names.lookup x\.cell\/X.env.scope.names.lookup x\.free))/\lU X scope N js
 |_,_=>False
noncomputable def apV:oH Str->oH (oT Nat)->oH Str
 |_::N,oM::js=>apV N js
 |x::N,oF _::js=>x::apV N js
 |_,_=> []
theorem lU.len:∀{N:oH Str} {js:oH (oT Nat)},lU X scope N js->-js=-N
 | [], [],_=>rfl
 |_::N,oM::js,h=>congrArg (· + 1) (lU.len h)
 |_::N,oF _::js,h=>congrArg (· + 1) (lU.len (N:=N) h.2)
 | [],_::_,h=>h.elim
 |_::_, [],h=>h.elim
theorem lU.at:∀{N:oH Str} {js:oH (oT Nat)} {i j:Nat} {x:Str},lU X scope N js->js[i]?\!j->N[i]?\x->X.N[j]?\x/\scope.names.lookup x\.free/\(X.env.scope.names.lookup x\.cell\/X.env.scope.names.lookup x\.free)
 | [], [],_,_,_,_,h,_=>by simp at h
 |_::N,oM::js,0,j,x,_,h,_=>by cases h
 |_::N,oM::js,i + 1,j,x,h,h1,h2=>lU.at (js:=js) h (by simpa using h1) (by simpa using h2)
 |_::N,oF _::js,0,j,x,h,h1,h2=>by cases h1;cases h2;exact h.1
 |_::N,oF _::js,i + 1,j,x,h,h1,h2=>lU.at h.2 (by simpa using h1) (by simpa using h2)
 | [],_::_,_,_,_,h,_,_=>h.elim
 |_::_, [],_,_,_,h,_,_=>h.elim
theorem lU.mem:∀{N:oH Str} {js:oH (oT Nat)} {x:Str},lU X scope N js->x∈apV N js->X.env.scope.names.lookup x\.cell\/X.env.scope.names.lookup x\.free
 | [], [],_,_,h=>by simp[apV]at h
 |_::N,oM::js,x,h,hm=>lU.mem (N:=N) (js:=js) h hm
 |y::N,oF _::js,x,h,hm=>by
  rw[apV]at hm;cases hm with
  |head=>exact h.1.2.2
  |tail _ hm=>exact lU.mem (N:=N) (js:=js) h.2 hm
 | [],_::_,_,h,_=>h.elim
 |_::_, [],_,h,_=>h.elim
theorem jI(h:lU X scope N js)(Az:autoParam (∀z∈scope.names,z.2= .free->z.1∈apV N js) q_0._auto_1):Di X N scope js:=
 #[h.len,λi j x e1 e2=>h.at e1 e2,λz hz xO=>h.mem (Az z hz xO)]
structure an3(P:zR)(w:zQ)(K:ah)(mg:Str->Option zL)(base:zN)(C:zI)(m:Str)(ps:List Str)(k:Nat)(sp:Sp):Prop where
 cl:mN K C
 ex:∃(f:zI) (fd:kK),bZ P w K mg base cG k f fd ps sp/\Binds K fd ps []/\ats K C m f
structure IA(P:zR)(w:zQ)(K:ah)(mg:Str->Option zL)(base:zN)(x:Str)(C:zI)(ps:List Str)(k:Nat)(sp:Sp):Prop where
 cl:mN K C
 ex:∃(f:zI) (fd:kK),bZ P w K mg base cG k f fd ps sp/\Binds K fd ps []/\Mk K C f/\mg x=oF (.ref C)
section
variable {j k:Nat}{x m:Str}{e o:zO}{ta:TE}
theorem atQ{pl:Sem Bool}(M:an3 X.prog X.w X.K X.mg X.base C m ps k sp)(hr:gf j X.A)(he:PE X o ta)(ha:PA X (e::es) t)(hj:autoParam (k<=j) q_1._auto_1)
  (Ge:autoParam (ix (e::es) X.env=(yv,eval e X.env)::ix es X.env) q_3._auto_1) (dM:(backTo pos (ix es X.env)).any (·.1)=yv:=by rfl)
  (ht:eval (.Call (.Attribute o m jM) (e::es) [] pos) X.env=(do
   let ov <- eval o X.env
   FH jM.atName
   let (f,first) <- holding [ov] (getMethod ov m pl)
   callWith pos f first (backTo pos (ix (e::es) X.env)) (B7 pos (B8 [] X.env))):=by rfl):
  PE X (.Call (.Attribute o m jM) (e::es) [] pos) (apS C m sp [] E0 ta t):=by
 let f fd F b hm:=M.ex;exact aBK (pl:=pl) he M.cl hm F (hr.mono hj) b .nil GW ha Ge dM ht
theorem apr{pl:Sem Bool}(M:an3 X.prog X.w X.K X.mg X.base C m ps k sp)(hr:gf j X.A)(he:PE X o ta)(hj:autoParam (k<=j) q_1._auto_1)
  (ht:eval (.Call (.Attribute o m jM) [] [] pos) X.env=(do
   let ov <- eval o X.env
   FH jM.atName
   let (f,first) <- holding [ov] (getMethod ov m pl)
   callWith pos f first (backTo pos (ix [] X.env)) (B7 pos (B8 [] X.env))):=by rfl):
  PE X (.Call (.Attribute o m jM) [] [] pos) (apS C m sp [] E0 ta fz):=by
 let f fd F b hm:=M.ex;exact aBL (pl:=pl) he M.cl hm F (hr.mono hj) b .nil GW ht
theorem aBY(M:IA X.prog X.w X.K X.mg X.base x C ps k sp)(hr:gf j X.A)(hg:Gl X x)(ha:PA X (e::es) t)(hj:autoParam (k + 1<=j) q_1._auto_1)(akK:autoParam ((x == ("__debug__":Str))=yv) q_1._auto_1)
  (he:autoParam (ix (e::es) X.env=(yv,eval e X.env)::ix es X.env) q_3._auto_1) (dM:(backTo pos (ix es X.env)).any (·.1)=yv:=by rfl):
  PE X (.Call (.Name x p) (e::es) [] pos) (atG C sp [] E0 t):=by
 let f fd F b mk hm:=M.ex;exact aBM mk F (hr.mono hj) hg hm b .nil GW ha akK he dM
theorem aba{X:Cx}{K:ah}(hK:X.K=K){e:zO}{f:Str}{pos:Pos}{ta:TE}(he:PE X e ta)(hb:ao2 e f X.env (eval e X.env)=eval e X.env):PE X (.Attribute e f pos) (Ag K ta f):=by
 subst hK;exact Xo he hb
theorem IB(hk:PE X kk tk)(hv:PE X vv tv):PE X (.Dict [!kk] [vv] pos) (tJ [(tk,tv)]):=
 aw7 (aqJ hk hv vB) rfl rfl (List.cons_ne_nil _ _) (cq rfl)
end
section
variable {K:ah}{n:Nat}{H H' H1 H2:Hp}{U U':zI->Prop}{σ hv:oH (oT V)}{ρ ρ':En}{τv vs:oH V}{τd ds:oH D}{v y:V}{d:D}
instance akD:kq K n Dm (λ_=>oF oP):=#[λI h k=>by cases h;exact k _ (aJ.refl _)]
def qB(fk fv:En->oT D)(ρ:En):oT D:=(fk ρ).bind λk=>(fv ρ).bind λv=>(kJ k).map λkey=> .nd (.aO [key]) [v]
instance akG[A:SV K n tk fk][B':SQ K n tv fv]:SF K n (tJ [(tk,tv)]) (qB fk fv):=#[λ{σ hv H U ρ τv τd d Q} I h k=>by
 let a ha h:=i_ h;let b hb h:=i_ h;let key hk h:=aY.mp h;subst h;intro p hp;have s0:aJ H (dm H p (.dK [])):=fE hp _;refine A.s (I.same s0) ha λx H1 s1 w1=>B'.o ((I.same s0).same s1) hb λy H2 s2 o=> ?_;have e0:=s2 _ _ (s1 _ _ uB);refine#[e0, [(key,y)],by rw[w1.key hk];rfl,by simp, ?_];have em:pF [] [(key,y)]= [key].zip [y]:=rfl;rw[em];have sA:aJ H (dm H2 p (.dK ([key].zip [y]))):=λc u q=>by
  rw[ba (gM q hp)];exact s2 _ _ (s1 _ _ (s0 _ _ q))
 refine k _ _ sA ?_;let G r f:=o;have np:¬ G p:=λz=>by have q:=(f p z).1;rw[s1 _ _ uB]at q;lk
 refine#[λc=>G c\/c=p, .nd (vs:= [y]) (λi c=>i=0/\G c) #[.inr rfl,rfl,rfl,0,uB] rfl (λi j c hi hj=>by rw[hi.1,hj.1]) (λi c hc=>#[.inl hc.2,λ_ z=>by rw[z]at hc;exact np hc.2]) λi u e hu he=> ?_,λc hc=> ?_]
 .cases i with
  |succ i=>simp at hu
  |zero=>
   cases hu;cases he;refine(r.frame (λc o hc q=> ?_) (vP (by rw[e0];trivial))).mono λc z=>#[rfl,z]
   rw[ba λz=>by rw[z]at hc;exact np hc];lk
 .rcases hc with z | z
  .refine#[(s0.trans s1).free (f c z).1, ?_];rw[ba λw=>by rw[w]at z;exact np z];exact(f c z).2
  .rw[z];exact#[hp,by rw[uB];trivial]]
end
section
variable {K:ah}{n:Nat}{H H':Hp}{U U':zI->Prop}{σ hv:oH (oT V)}{ρ ρ':En}{τv vs:oH V}{τd ds cs:oH D}{v:V}{d:D}{E:ke}
end
open PySem.W
noncomputable def IE (v d:zI):HO:= .ext λh=>h.IsValuesView v d
def Q9(to:TE):TE:=λσ H Q=>to σ H λx H1=>∃d cf,x= .ref d/\Rd H1 d (.dK cf)/\∀v,H1 v=oM->Q (.ref v) (dm H1 v (IE v d))
def atR:oH V->Hp->VK->Prop:=λxs H Q=>∃v d cf,xs= [.ref v]/\H v\IE v d/\Rd H d (.dK cf)/\∀l,H l=oM->Q (.ref l) (dm H l (.lst (cf.map (·.2))))
section
theorem Ra(ho:PE X o to)(rq:autoParam (ao2 o "values" X.env (eval o X.env)=eval o X.env) q_3._auto_1)(rA:autoParam ((jM.endLine == gE.line)=oP) q_3._auto_1):PE X (.Call (.Attribute o "values" jM) [] [] gE) (Q9 to):=by
 intro ab s σ H Q I h;refine Vi rq rA (bh (ho ab s σ H _ I h) λv s1 #[x,H1,I1,r1,q1]=> ?_);let d cf rfl e q:=q1;cases r1;let z hd ws bG dd:=aoL I1.aQ e;have h1:=dd.typeIs;have h2:∀a,t5 d= .ref a->∃ob,s1.heap.get? a\ob/\ob.dict=oM:=λa e2=>by
  cases e2;let ob _ _ e3 ex _:=dd;exact#[ob,e3,ex.2.1]
 refine#["dict","dict.values",NL,aiG,PySem.F.type_dict_values,h1,h2,Ci rfl (VO ?_)];refine FL aiG dd.typeIs PySem.F.entry_dict_values (PySem.F.args_dict_values_1 _) (meets_dict_values _ d hd) #[#[ws,dd], ?_];have ao6:(s1.heap.push { cls:= .type "dict_values",data:= .fields (List.toArray [.ref d]) }).get? s1.heap.objs.size=oF { cls:= .type "dict_values",data:= .fields (List.toArray [.ref d]) }:=gc _ rfl;refine#[.ref s1.heap.objs.size,_,I1.laid (o:=IE s1.heap.objs.size d) (λ_ _ q=>cB _ q) (bO _) #[#[_,ao6,rfl,rfl],#[_,ao6],λh1 h2 f k=> ?_],rfl,q _ I1.fresh];let o ho r:=f;exact#[o,k o ho,r]
theorem aBZ{cf:oH (bc×V)}{vs:oH (bc×zL)}{us:oH zL}(bG:KV cf vs)(hl:-us=-vs)(h:∀(j:Nat) (v:zL),us[j]?\v->∃k,vs[j]?\(k,v)):bj (cf.map (·.2)) us:=by
 refine Du (by rw[nI,hl, <- bG.length]) λj x u e1 e2=>?_;let k e3:=h j u e2;rw[bJ]at e1;cases q:cf[j]? with
 |none=>rw[q]at e1;lk
 |some p=>
  rw[q]at e1;cases e1;exact(xM bG q e3).2
theorem aB0(hc:X.calm=oP):fT X (.type "list") atR:=by
 intro ab s σ H xs us Q I r h;let v d cf rfl ev e q:=h;let u rfl rx:=vals1 r;cases rx;let z hd vs bG dd:=aoL I.aQ e;let ep da:=dd.dictAt;have hz:-vs<=aM:=by rw[<- bG.length];lk
 have mC:s.heap.IsValuesView v d:=(I.aQ v _ ev).1;refine kdl_call (kdl_values (knd:=gL X.prog X.w)) (I.ok.hd hc) #[mC,da] hz λh' tk ll c kp hg iY=>?_;have hv:bj (cf.map (·.2)) ll.toList:=aBZ bG (xc^^iY.1) λj v e=>iY.2 j v (by rw[<- VR];lk);refine#[.ref s.heap.objs.size,_,I.laid (t':=tk) kp (bO _) (show va X.prog X.w _ h' _ (.lst (cf.map (·.2))) from#[nI^^z,ll.toList,c,hv, ?_]),rfl,q _ I.fresh];rw[V0];lk
variable {K:ah}{n:Nat}{H H':Hp}
def ar4:D->oT D
 |.nd (.aO _) cs=>if bI cs=oP then oF (.nd .lst cs) else oM
 |_=>oM
instance (priority:=2000) aHQ{t:TE}{f:En->oT D}[A:SV K n t f]:SF K n (jU atR (di (Q9 t) fz)) (λρ=>(f ρ).bind ar4):=#[λ{σ hv H U ρ τv τd d Q} I h k=>by
 let x h1 h2:=i_ h;refine A.s I h1 λv H1 s1 w=>?_;unfold ar4 at h2
 split at h2
 .next ks cs=>
  by_cases c:bI cs=oP
  .rw[zJ c]at h2;cases h2;let a us rfl hc vl:=w.ip;have hl:-ks=-us:=hc.1;have rd:Rd H1 a (.dK (ks.zip us)):=hc.2;refine#[a,ks.zip us,rfl,rd,λvw mC=>#[vw,a,ks.zip us,rfl,uB, ?_,λl oz=> ?_]]
   .rcases rd with q | ⟨o,q⟩
    .exact .inl (fE mC _ _ _ q)
    .exact .inr #[o,fE mC _ _ _ q]
   .have s2:=fE mC (IE vw a);have ab5:gF K (dm H1 vw (IE vw a)) T1 us cs:=#[vl.1,λi v d a b=>(vl.2 i v d a b).same s2]
    rw[show(ks.zip us).map (·.2)=us from DG hl];exact k _ _ (s1.trans (s2.trans (fE oz _))) ((ab5.own (k:= .lst) c oz (.inr #[rfl,trivial,0,rfl])).early (s1.trans s2))
  .rw[zK c]at h2;lk
 .lk]
end
theorem aB1{prog:zR}{w:zQ}{A:zS}{E:zL->zM->Prop}{s:zM}{id:String}{b:Builtin}{args:oH zL}{kw:oH (Str×zL)}{Q:zL->zM->Prop}(hk:builtinKind id=oM)(hp:plainId id=oP)
  (hb:entryFor table id\b) (ha:argsOk id #[args,kw])
  (hc:wpAny (model prog w) A.in1 (b #[args,kw]) (λmm s'=>match mm with
   |.done f=>(match (Except.ok f:Result) with | .ok (.ret v)=>Q v s' | .ok _=>False | .error e=>E e s')
   |.again c'=>c'.quiet=oP/\qQ (model prog w) A c' (λr s'=>match r with | .ok (.ret v)=>Q v s' | .ok _=>False | .error e=>E e s') s') E s):
  wpAny (model prog w) A (call (.builtin id) args kw) Q E s:=by
 refine awI (codeAny_call_builtin hp hb ?_);simp[checkBuiltinCall,hk];cases aB2:Manifest.signature? id with
 |none=>exact bF hc
 |some sig=>
  have Jf:Bind.checkArgs id sig #[args,kw]=pure ():=by simpa only [argsOk,aB2]using ha
  simp[Jf];exact bF hc
theorem aB3(a k:zL):argsOk "max" #[[a], [("key",k)]]:=by rw[argsOk];kernel_rfl
section
variable {k:Nat}{f:zI}
end
section
variable {K:ah}{n:Nat}{H H':Hp}
end
section
open MeetsSeq MeetsSeq2 MeetsSeq3 SeqRoads2
theorem axe(h:Q (.bool (decide (b < a))) s):wpAny (model prog w) A (awJ .Gt (.int a t) (.int b u)) Q E s:=SiftDown.gt_int h
theorem eqT(e:a=b)(h:Q oP s):wpAny (model prog w) A (eqBool (.int a t) (.int b u)) Q E s:=aBo (show(a == b)=oP by simp[e]^^h)
theorem aoM(e:a≠b)(h:Q yv s):wpAny (model prog w) A (eqBool (.int a t) (.int b u)) Q E s:=aBo (show(a == b)=yv by simp[e]^^h)
noncomputable def alI (i j i' j':Int):Bool:=if i=i' then decide (j' < j) else decide (i' < i)
set_option maxHeartbeats 4000000 in
theorem aB4(l b:zI)(i j i' j':Int)(t u t' u':Tok)(n n2:Nat)(dd CU:oT zI)(sl CV:Array (oT zL)):
  Meets (Builtin.«tuple.__gt__» #[[.ref l, .ref b], []])
   (λA R s=>s.heap.get? l=oF { cls:= .type "tuple",dict:=dd,data:= .seq (List.toArray [.int i t, .int j u]) n,slots:=sl }/\s.heap.get? b=oF { cls:= .type "tuple",dict:=CU,data:= .seq (List.toArray [.int i' t', .int j' u']) n2,slots:=CV }/\
    R (.ok (.ret (.bool (alI i j i' j')))) s):=
 .of_wp λprog w A R s h=>by
  let hp g d tk os:=s;let hl hb h:=h;have f2:=AutoSeq1.sub_tuple_tuple;rw[alI]at h;by_cases e:i=i'
  .rw[zJ e]at h;by_cases e2:j=j'
   .have c3:decide (j' < j)=yv:=by simp[e2]
    rw[c3]at h
    wp_walk using aqD hl,aqD hb,eqT e,eqT e2
    exact#[_,rfl,h]
   .wp_walk using aqD hl,aqD hb,eqT e,aoM e2,axe
    exact#[_,rfl,h]
  .rw[zK e]at h
   wp_walk using aqD hl,aqD hb,aoM e,axe
   exact#[_,rfl,h]
theorem axf{prog:zR}{w:zQ}{E:zL->zM->Prop}{Q:zL->zM->Prop}(hl:s.heap.IsTuple l (List.toArray [.int i t, .int j u]))(hb:s.heap.IsTuple b (List.toArray [.int i' t', .int j' u']))(hu:A.units < cLine)
  (h:Q (.bool (alI i j i' j')) s):wpAny (model prog w) A (awJ .Gt (.ref l) (.ref b)) Q E s:=by
 obtain⟨⟨cls,dd,data,sl⟩,ho,hc,n,hd⟩:=id hl;obtain⟨⟨XE,CU,data2,CV⟩,aox,jV,n2,hd2⟩:=id hb;simp only at hc hd jV hd2;subst hc hd jV hd2;exact richCompare_meets_room (op:= .Gt) #[_,ho,rfl] #[_,aox,rfl] F.slot_tuple_gt F.entry_tuple_gt (F.args_tuple_gt_2 _ _) (aB4 l b i j i' j' t u t' u' n n2 dd CU sl CV)
  #[ho,aox,show zj (alI i j i' j')≠Value.notImplemented/\Q (.bool (alI i j i' j')) s from#[(λx=>nomatch x),h]] hu
variable {k:Nat}{f:zI}
def axg(K:ah)(H:Hp)(x y:V)(g:Bool):Prop:=∃(p q:zI) (i j i' j':Int),x= .ref p/\y= .ref q/\cE K H p [.int i, .int j]/\cE K H q [.int i', .int j']/\g=alI i j i' j'
def aps(K:ah)(sp:Sp)(a:zI)(xs:oH V)(Q:VK):oH V->oT (V×V)->Hp->Prop
 | [],!(b,_),H=>Q b H
 | [],oM,_=>False
 |x::r,ahe,H=>sp [x] H (λkv H2=>H2 a\.lst xs/\match ahe with
  |none=>aps K sp a xs Q r (!(x,kv)) H2
  |some (b,bk)=>∃g,axg K H2 kv bk g/\aps K sp a xs Q r (if g=oP then oF (x,kv) else oF (b,bk)) H2) E0
def aB5:oT (V×V)->oH zL->Prop
 |none,us=>us= []
 |some (b,bk),us=>bj [b,bk] us
theorem ar5{ab:oH (zI×Obj)}{σ:L2.St}{Q:VK}{xs:oH V}(F:bZ X.prog X.w X.K X.mg X.base cG k f fd ps sp)(hb:Binds X.K fd ps [])(hr:gf (k + 1) X.A)(hc:X.calm=oP)(qp:it≠S)(aoA:a≠it):
  ∀(rest:oH V) (i:Nat) (ahe:oT (V×V)) (us:oH zL) (n:Nat) (H:Hp) (s:zM),xs.drop i=rest->Inv X ab σ H s->H a\.lst xs->s.heap.IsListIter it a i->s.heap.get? S=oF { cls:= .type "list",data:= .seq us.toArray n }->aB5 ahe us->jT X ab H it->jT X ab H S->
   aps X.K sp a xs Q rest ahe H->qQ (model X.prog X.w) X.A (.builtin "max.loop" #[[.ref it, .ref f, .ref S], []]) (λr s'=>match r with | .ok (.ret v)=>EP X ab σ Q v s' | .ok _=>False | .error e=>X.xe e s') s
 | [],i,oM,us,n,H,s,hd,I,ha,hit,hS,hB,fI,fS,h=>h.elim
 | [],i,!(b,bk),us,n,H,s,hd,I,ha,hit,hS,hB,fI,fS,h=>by
  let ag rv pl hz:=I.list (gN.of ha);have W:=atv (prog:=X.prog) (w:=X.w) (A:=X.A.in1) (show X.A.in1.handled=oM from I.ok.hd hc) it a aoA;have hi:-xs<=i:=by
   rcases NV i (-xs) with h | h
   .rw[Cr h]at hd;lk
   .lk
  have hsz:ag.toArray.size=-xs:=fM^^rv.length.symm
  let ub uk rfl rb rk:=L2.vals2 hB;refine Ca awP ?_;rw[Cp aou _];show wpAny _ X.A.in1 (awK (.ref S) >>= _) _ _ _;refine az (wZ hS rfl ?_);show wpAny _ X.A.in1 (tryCatch (pyNext (.ref it)) _ >>= _) _ _ _;refine az (aqE (aBp (show X.A.in1.handled=oM from I.ok.hd hc) hit pl.isList (aHd (hsz^^hi)) λh7 atU=> ?_));have aqM:∀b o,b≠it->s.heap.get? b\o->h7.get? b\o:=λb o amR e=>atU b o amR e;have atV:=aqM S _ (λz=>qp z.symm) hS;have I7:L2.Inv X ab σ H { s with heap:=h7 }:=I.turned (t':=s.toks) (it:=it) aqM fI.1 fI.2.1 fI.2.2.2.1 fI.2.2.2.2.1 fI.2.2.2.2.2;show wpAny _ X.A.in1 (arX S (λ_=>(List.toArray [])) >>= _) _ _ _;refine az ?_;refine arY atV rfl (az (Vs (bF ?_)));exact#[b,H,L2.Inv.turned (s:= { s with heap:=h7 }) I7 (t':=s.toks) (it:=S) (λb o n e=>(VN _ _ (yd n)).trans e) fS.1 fS.2.1 fS.2.2.2.1 fS.2.2.2.2.1 fS.2.2.2.2.2,rb,h]
 |x::r,i,ahe,us,n,H,s,hd,I,ha,hit,hS,hB,fI,fS,h=>by
  have aoi:(toString "max"++toString ".loop":String)="max.loop":=a_
  let ag rv pl hz:=I.list (gN.of ha);have W:=atv (prog:=X.prog) (w:=X.w) (A:=X.A.in1) (show X.A.in1.handled=oM from I.ok.hd hc) it a aoA;have hi:i < -xs:=by
   rcases NV i (-xs) with h | h
   .lk
   .rw[aBw h]at hd;lk
  have hx:xs[i]?\x:=by rw[Cr hi]at hd;injection hd with e1 e2;rw[dH hi,e1]
  have tT:xs.drop (i + 1)=r:=by rw[Cr hi]at hd;injection hd
  have hsz:ag.toArray.size=-xs:=fM^^rv.length.symm
  refine Ca awP ?_;rw[Cp aou _];show wpAny _ X.A.in1 (awK (.ref S) >>= _) _ _ _;refine az (wZ hS rfl ?_);show wpAny _ X.A.in1 (tryCatch (pyNext (.ref it)) _ >>= _) _ _ _;refine az (aqE ((W ag.toArray).item i _ _ _ (hsz^^hi) #[hit,pl.isList] λv' h4 tk hP bQ aqN=> ?_));let u' atW apW:=rv.get hx;have e4:v'=u':=by
   have:ag[i]?\v':=by simpa using hP
   rw[atW]at this;injection this with this;exact this.symm
  subst e4;have I4:L2.Inv X ab σ H { s with heap:=h4,toks:=tk }:=I.turned (t':=tk) (it:=it) (λb o n e=>aqN b o (λz=>n (ly.mp z)) e) fI.1 fI.2.1 fI.2.2.2.1 fI.2.2.2.2.1 fI.2.2.2.2.2;have ao7:h4.get? S=_:=aqN S _ (λz=>qp (ly.mp z).symm) hS;let oi aqO aqP apX:=id bQ.1;have aB6:L2.Inv X (ab++Ad [it,S] h4) σ H { s with heap:=h4,toks:=tk }:=I4.pinned (fp:= [it,S]) (λb amR=>by
    rcases bL.mp amR with rfl | amR
    .lk
    .rw[ly.mp amR];lk) (λb amR=>by
    rcases bL.mp amR with rfl | amR
    .exact#[oi,aqO,λv z=>by rw[apX]at z;lk]
    .rw[ly.mp amR];exact#[_,ao7,λv z=>by lk])
  show wpAny _ X.A.in1 (tryCatch (holding [v'] (call (.ref f) [v'])) _ >>= _) _ _ _;refine az (aqE (uL ?_));have hl:-([v']++ [])=-ps:=(F.len _ _ _ _ h)
  have Hu:bj [x] [v']:= .cons apW .nil;refine awI (B5 (F.run X.A.in1 X.stack _ H #[[v'], []] ([v']++ []) [x] _ E0 hr.in1 I4.ON.in1 (hb _ [v'] I4.fN hl) Hu h) λr s5 hq=> ?_);cases r with
  |error e=>exact hq.elim
  |ok fl=>
   cases fl with
   |next=>exact pj hq
   |brk=>exact pj hq
   |cont=>exact pj hq
   |ret uk=>
    let kv H5 I5 rk atX q5:=aB6.after hq;have pS:(S,_)∈Ad [it,S] h4:=CM (nQ _ (ly.mpr rfl)) ao7;have pI:(it,oi)∈Ad [it,S] h4:=CM (xb) aqO;have apY:=(I5.pin _ (kg _ (kg _ pS)))
    have atY:=(I5.pin _ (kg _ (kg _ pI)))
    have ar6:L2.Inv X ab σ H5 s5:=I5.CN;have gI:jT X ab H5 it:=#[atY.2.1,fI.2]
    have gS:jT X ab H5 S:=#[apY.2.1,fS.2]
    have up:∀(g:Array zL->Array zL),L2.Inv X ab σ H5 { s5 with heap:=s5.heap.update S (zo g) }:=λg=>ar6.turned (t':=s5.toks) (it:=S) (λb o n e=>(VN _ _ (yd n)).trans e) gS.1 gS.2.1 gS.2.2.2.1 gS.2.2.2.2.1 gS.2.2.2.2.2;have aqQ:∀(g:Array zL->Array zL),(s5.heap.update S (zo g)).IsListIter it a (i + 1):=λg=>#[oi,(VN _ _ (yd qp)).trans atY.1,aqP,apX]
    cases ahe with
    |none=>
     have atZ:us= []:=hB;subst atZ;show wpAny _ X.A.in1 (arX S (λ_=>(List.toArray [v',uk])) >>= _) _ _ _;refine az ?_;refine arY apY.1 rfl ?_;rw[aoi];refine bF #[Vo aou _, ?_];exact ar5 F hb hr hc qp aoA _ (i + 1) (!(x,kv)) [v',uk] _ H5 _ tT (up _) atX (aqQ _) (aim (zo λ_=>(List.toArray [v',uk])) apY.1 rfl) (.cons apW (.cons rk .nil)) gI gS q5
    |some bb=>
     let b bk:=bb;let ub aHR rfl rb aB7:=L2.vals2 hB;obtain⟨g,⟨pp,qq,i1,j1,i2,j2,rfl,rfl,h1,h2,hg⟩,q6⟩:=q5;cases rk;cases aB7;let DB Hu at0 _:=ar6.tuple h1;let aoy Hv at1 _:=ar6.tuple h2;let w1 w2 rfl c1 c2:=L2.vals2 Hu;let w3 w4 rfl c3 c4:=L2.vals2 Hv;let t1 rfl:=c1;let t2 rfl:=c2;let t3 rfl:=c3;let t4 rfl:=c4;show wpAny _ X.A.in1 (tryCatch (holding [v',t5 pp] (awJ .Gt (.ref pp) (.ref qq) >>= _)) _ >>= _) _ _ _;refine az (aqE (uL (az (axf at0 at1 (zp (sJ _ 1) (akV hr.in1)) ?_))));refine az (uL (uK ?_));refine az (Vs (bF ?_));rw[<- hg];cases g with
     |true=>
      show wpAny _ X.A.in1 (arX S (λ_=>(List.toArray [v', .ref pp])) >>= _) _ _ _;refine az ?_;refine arY apY.1 rfl ?_;refine az (Vs ?_);rw[aoi];refine bF #[Vo aou _, ?_];exact ar5 F hb hr hc qp aoA _ (i + 1) (!(x, .ref pp)) [v', .ref pp] _ H5 _ tT (up _) atX (aqQ _) (aim (zo λ_=>(List.toArray [v', .ref pp])) apY.1 rfl) (.cons apW (.cons rfl .nil)) gI gS q6
     |false=>
      show wpAny _ X.A.in1 (letGo _ >>= _) _ _ _;refine az (Vs ?_);rw[aoi];refine bF #[Vo aou _, ?_];exact ar5 F hb hr hc qp aoA _ (i + 1) (!(b, .ref qq)) [ub, .ref qq] _ H5 _ tT ar6 atX #[oi,atY.1,aqP,apX] apY.1 (.cons rb (.cons rfl .nil)) gI gS q6
theorem aB8{ab:oH (zI×Obj)}{σ:L2.St}{H:Hp}{s:zM}{Q:VK}{a:zI}{xs:oH V}(F:bZ X.prog X.w X.K X.mg X.base cG k f fd ps sp)(hb:Binds X.K fd ps [])(hr:gf (k + 1) X.A)(hc:X.calm=oP)
  (I:Inv X ab σ H s) (ha:H a\.lst xs) (h:aps X.K sp a xs Q xs oM H):
  wpAny (model X.prog X.w) X.A (call (.builtin "max") [.ref a] [("key", .ref f)]) (EP X ab σ Q) X.xe s:=by
 have aoi:(toString "max"++toString ".loop":String)="max.loop":=a_
 let ag rv pl hz:=I.list (gN.of ha);have lt:a < s.heap.objs.size:=by let o n e _:=pl;exact cW e
 refine aB1 aHe aHf aHg (aB3 _ _) ?_;show wpAny _ X.A.in1 (awQ "max" ["key","default"] 0 #[[], [("key", .ref f)]] >>= _) _ _ s;refine az (wpAny_of_eq (show awQ "max" ["key","default"] 0 #[[], [("key", .ref f)]]=pure [!.ref f,oM] from rfl) ?_);refine az (bF ?_);refine az (Vk pl.isList ?_);refine az (qP ?_);rw[aoi];refine bF #[Vo aou _, ?_];have apt:=gc (s.heap.push { cls:= .type "list_iterator",data:= .fields (List.toArray [.ref a, .int 0 0]) }) (o:= { cls:= .type "list",data:= .seq (List.toArray []) }) rfl;have aqR:((s.heap.push { cls:= .type "list_iterator",data:= .fields (List.toArray [.ref a, .int 0 0]) }).push { cls:= .type "list",data:= .seq (List.toArray []) }).get? s.heap.objs.size=oF { cls:= .type "list_iterator",data:= .fields (List.toArray [.ref a, .int 0 0]) }:=
  cB _ (gc _ rfl)
 have aqS:∀b o,s.heap.get? b\o->((s.heap.push { cls:= .type "list_iterator",data:= .fields (List.toArray [.ref a, .int 0 0]) }).push { cls:= .type "list",data:= .seq (List.toArray []) }).get? b\o:=
  λb o e=>cB _ (cB _ e)
 have at3:(s.heap.push { cls:= .type "list_iterator",data:= .fields (List.toArray [.ref a, .int 0 0]) }).objs.size=s.heap.objs.size + 1:=p9 _ _;show qQ (model X.prog X.w) X.A (.builtin "max.loop" #[[.ref s.heap.objs.size, .ref f, .ref (s.heap.push { cls:= .type "list_iterator",data:= .fields (List.toArray [.ref a, .int 0 0]) }).objs.size], []]) _ { s with heap:=(s.heap.push { cls:= .type "list_iterator",data:= .fields (List.toArray [.ref a, .int 0 0]) }).push { cls:= .type "list",data:= .seq (List.toArray []) } };generalize ((s.heap.push { cls:= .type "list_iterator",data:= .fields (List.toArray [.ref a, .int 0 0]) }).push { cls:= .type "list",data:= .seq (List.toArray []) })=h3 at apt aqR aqS |-;generalize hS:(s.heap.push { cls:= .type "list_iterator",data:= .fields (List.toArray [.ref a, .int 0 0]) }).objs.size=S at apt at3 |-;have fI:jT X ab H s.heap.objs.size:=I.Aa (bO _) (I.aQ.fresh (bO _));have fS:jT X ab H S:=I.Aa b_ (I.aQ.fresh b_);have I3:L2.Inv X ab σ H { s with heap:=h3 }:=I.kept (t':=s.toks) aqS;have Rf:s.heap.objs.size≠S:=b_
 exact ar5 F hb hr hc Rf (dR lt) xs 0 oM [] _ H _ rfl I3 ha #[_,aqR,rfl,rfl] apt rfl fI fS h
def at4(K:ah)(sp:Sp)(t:TA):TE:=λσ H Q=>t σ H λvs H1=>∃a xs,vs= [.ref a]/\H1 a\.lst xs/\aps K sp a xs Q xs oM H1
theorem axh{K:ah}{j:Nat}{x:Str}{e:zO}{t:TA}{p p2 kp pos:Pos}(C:dt X.prog X.w X.K X.mg X.base x ps k sp)(hr:gf j X.A)(hc:X.calm=oP)(hg:Gl X "max")(hm:X.mg "max"=oM)(aB9:Gl X x)(ha:PA X [e] t)(hK:autoParam (X.K=K) q_3._auto_1)
  (hj:autoParam (k + 1<=j) q_1._auto_1) (akK:(x == ("__debug__":Str))=yv:=by decide) (hs:ix [e] X.env=(yv,eval e X.env)::ix [] X.env:=by rfl):
  PE X (.Call (.Name "max" p) [e] [#[!"key", .Name x p2,kp]] pos) (at4 K sp t):=by
 subst hK;intro ab s σ H Q I h;let f fd o b aHS m:=C.ex;refine FJ (xq I hg hm aqG ?_);refine callWith_kw (bh (ha pos ab s σ H _ I h) λus s1 #[vs,H1,I1,r1,a,v,ev,aCa,q1]=> ?_) (by rw[hs];rfl) (by rw[hs];rfl) rfl rfl
 .subst ev;let u rfl ru:=L2.vals1 r1;cases ru;refine kws_cons (CD I1 aB9 m ?_ akK);refine kws_nil ?_;exact aB8 o b (hr.mono hj) hc I1 aCa q1
end
section
variable {K:ah}{n:Nat}{H H':Hp}
noncomputable def ao8:D->oT (Int×Int)
 |.nd .tup [.sc (.int i), .sc (.int j)]=>oF (i,j)
 |_=>oM
def alB(G:oH D->oT D):oH D->D->Int×Int->oT D
 | [],b,_=>oF b
 |d::ds,b,q=>(G [d]).bind λe=>(ao8 e).bind λk=>if alI k.1 k.2 q.1 q.2=oP then alB G ds d k else alB G ds b q
def ar7(G:oH D->oT D):oH D->oT D
 | [.nd .lst (d::ds)]=>if bI (d::ds)=oP then(G [d]).bind λe=>(ao8 e).bind λk=>alB G ds d k else oM
 |_=>oM
theorem apZ{k:Int×Int}(w:Vw K H T1 v e)(h:ao8 e\k):∃p,v= .ref p/\cE K H p [.int k.1, .int k.2]:=by
 unfold ao8 at h
 split at h
 .next i j=>
  cases h;let p us rfl hc vl:=w.ip;let x y rfl wx wy:=vl.two;have jV:H p\(.tup [x,y]):=hc.2;have ex:x= .int i:=wx.bA;have ey:y= .int j:=wy.bA;subst ex ey;exact#[p,rfl, .inl (.inl jV)]
 .lk
theorem at5{G:oH D->oT D}(k:∀v H',aJ H0 H'->ou K H0 H' v d->Q v H'):∀(ds:oH D) (vs:oH V) (b:V) (bd:D) (p:zI) (q:Int×Int) (H1:Hp),aJ H0 H1->H1 a\.lst xs->gF K H1 T1 vs ds->bI ds=oP->
  Vw K H1 T1 b bd->plain bd=oP->cE K H1 p [.int q.1, .int q.2]->alB G ds bd q\d->aps K (cL K 1 G) a xs Q vs (!(b, .ref p)) H1
 | [],vs,b,bd,p,q,H1,s1,ha,w,pl,wb,pb,hp,h=>by
  cases vs with
  |cons _ _=>cases w.1
  |nil=>cases h;exact k _ _ s1 (ou.plain wb pb)
 |d'::ds,vs,b,bd,p,q,H1,s1,ha,w,pl,wb,pb,hp,h=>by
  cases vs with
  |nil=>cases w.1
  |cons v vs=>
   rw[bI,kM]at pl;rw[alB]at h;let e h1 h:=i_ h;let kk h2 h:=i_ h;have wv:Vw K H1 T1 v d':=w.2 0 v d' rfl rfl;have wr:gF K H1 T1 vs ds:=#[by have:=w.1;simpa using this,λi x y hx hy=>w.2 (i + 1) x y (by simpa using hx) (by simpa using hy)]
   refine#[[d'],e,rfl,#[rfl,λi x y hx hy=> ?_],h1,λkv H2 s2 o=>#[s2 _ _ ha, ?_]]
   .cases i with
    |zero=>cases hx;cases hy;lk
    |succ i=>simp at hx
   .let p2 rfl G0:=apZ o.vw h2;have aqT:=s1.trans s2;have iK:=s2 _ _ ha;have aqU:gF K H2 T1 vs ds:=#[wr.1,λi x y hx hy=>(wr.2 i x y hx hy).same s2]
    have hq:=(gu.of s2).axa hp;refine#[_,#[p2,p,_,_,_,_,rfl,rfl,G0,hq,rfl], ?_];cases c:alI kk.1 kk.2 q.1 q.2 with
    |true=>
     rw[c,zJ rfl]at h;exact at5 k ds vs v d' p2 kk H2 aqT iK aqU pl.2 (wv.same s2) pl.1 G0 h
    |false=>
     rw[c,zK df]at h;exact at5 k ds vs b bd p q H2 aqT iK aqU pl.2 (wb.same s2) pb hq h
instance aHT{f:En->oT (oH D)}[A:SA K n t f]:SF K n (at4 K (cL K 1 G) t) (λρ=>(f ρ).bind (ar7 G)):=#[λ{σ hv H U ρ τv τd d Q} I h k=>by
 let x h1 h2:=i_ h;refine A.s I h1 λvs H1 s1 w=>?_;unfold ar7 at h2
 split at h2
 .next d' ds=>
  by_cases c:bI (d'::ds)=oP
  .rw[zJ c]at h2;let e h3 h2:=i_ h2;let kk h4 h2:=i_ h2;rw[bI,kM]at c;let v rfl w1:=w.one;let a us rfl hc vl:=w1.ip;have jV:H1 a\.lst us:=hc.2;refine#[a,us,rfl,jV, ?_];cases us with
   |nil=>cases vl.1
   |cons v vs=>
    have wv:Vw K H1 T1 v d':=vl.2 0 v d' rfl rfl;have wr:gF K H1 T1 vs ds:=#[by have:=vl.1;simpa using this,λi x y hx hy=>vl.2 (i + 1) x y (by simpa using hx) (by simpa using hy)]
    refine#[[d'],e,rfl,#[rfl,λi x y hx hy=> ?_],h3,λkv H2 s2 o=>#[s2 _ _ jV, ?_]]
    .cases i with
     |zero=>cases hx;cases hy;lk
     |succ i=>simp at hx
    .let p2 rfl G0:=apZ o.vw h4;exact at5 k ds vs v d' p2 kk H2 (s1.trans s2) (s2 _ _ jV) #[wr.1,λi x y hx hy=>(wr.2 i x y hx hy).same s2] c.2 (wv.same s2) c.1 G0 h2
  .rw[zK c]at h2;lk
 .lk]
end
section
variable {P:zR}{w:zQ}{K:ah}{mg:Str->oT zL}{base:zN}{k:Nat}{f:zI}{fd:kK}{ps:oH Str}{m:Nat}{bp:oH Bool}
theorem abe:bZ P w K mg base cG k f fd ps (cL K m λ_=>oM):=by
 refine#[λvs H Q E h=> ?_,λA outer s H args us vs Q E _ _ _ _ h=> ?_]
 .let ds d _ _ h _:=h;lk
 .let ds d _ _ h _:=h;lk
end
section
variable {K:ah}{n:Nat}{H H' H1 H2:Hp}{U U':zI->Prop}{σ hv:oH (oT V)}{ρ ρ':En}{τv vs:oH V}{τd ds:oH D}{v y:V}{d:D}{E:ke}
def ar8(fa:En->oT (oH D×En))(fg:D->En->oT En)(fb:En->oT Fl)(ρ:En):oT Fl:=(fa ρ).bind λa=>(tZ a.1).bind λds=>eB fg fb ds a.2
instance (priority:=50) aHU{ta:TA}{g:TG}{tb:TS}{fa:En->oT (oH D×En)}{fg:D->En->oT En}{is:oH Nat}{fb:En->oT Fl}[A:qv K n ta fa][G:SG K n g fg is][B':SS K n tb fb]:SS K n (xv (CK ta) g tb) (ar8 fa fg fb):=#[λ{σ hv H U ρ τv τd fl E} I h k=>by
 obtain⟨⟨as,ρ0⟩,h1,h⟩:=i_ h;let ds h2 h:=i_ h;refine A.s I h1 λvs H1 U1 hl I1 bQ=>?_;let j e c1 c2 e2:=Ir (I1.DZ hl) h2;have AS:=I1.drop hl;have wk:=D4 (K:=K) 0 j.toNat;subst e;refine#[j,rfl,c1,c2, ?_];rw[<- e2]at wk;refine#[λi m dg H'=>m=-ds - i/\i<=-ds/\∃U' ρ',aj K n H' U' dg hv ρ' τv τd/\bH U H U' H'/\eB fg fb (ds.drop i) ρ'\fl,#[-ds,by simp,jO _,U1,ρ0,AS,bQ,h], ?_];rintro i m dg H' ⟨rfl,hi,U',ρ',Ix,st,fo⟩;by_cases dS:i < -ds
 .right;have hd:ds[i]?\ds[i]:=dH dS;let go yl:=wk.item (H:=H') (U:=U') trivial hd;rw[Cr dS,eB]at fo;let ρ1 b1 fo:=i_ fo;let t6 b2 fo:=i_ fo;refine#[go,λsm H2=>∃U2 ai,aj K n H2 U2 sm hv ai τv τd/\bH U' H' U2 H2/\eB fg fb (ds.drop (i + 1)) ai\fl,λsm H2 #[U2,ai,a1,a2,a3]=>#[_,atx _ _ dS,rfl,dS,U2,ai,a1,st.trans a2,a3],λx H2 y2=> ?_];let e w2:=yl x H2 y2;subst e;refine G.s Ix w2 b1 λsm I2=>?_;refine B'.s I2 b2 ?_;cases t6 with
  |nx ai=>exact λtO H3 U3 I3 s3=>#[U3,ai,I3,s3,fo]
  |ct ai=>exact λtO H3 U3 I3 s3=>#[U3,ai,I3,s3,fo]
  |bk ai=>cases fo;exact λtO H3 U3 I3 s3=>k tO H3 U3 I3 (st.trans s3)
  |rt d ai=>cases fo;exact λv tO H3 U3 I3 s3=>k v tO H3 U3 I3 (st.trans s3)
 .left;have e:i=-ds:=b_
  subst e;rw[FR,eB]at fo;cases fo;exact#[wk.stop (H:=H') (U:=U') trivial,k dg H' U' Ix st]]
end
section
variable {K:ah}{n:Nat}
def gQ(g:D->D->oT Nat)(gs:V->D->oT V)(a b:D):oT D:=(aW g gs a b).bind λd=>if plain d=oP then oF d else oM
theorem Rb[O:tU K r g gs]:jD K r (gQ g gs):=#[λ{H x y dx dy d Q} w1 w2 h k=>by
 let d' h1 h2:=i_ h;by_cases c:plain d'=oP
 .rw[zJ c]at h2;cases h2;cases dx with
  |sc z=>
   let w h3 h4:=aY.mp h1;subst h4;rw[w1.bA];exact O.t w2 h3 (k w H (aJ.refl H) (.sc w))
  |hl _=>
   let i hi h:=i_ h1;lk
  |nd kk cs=>
   let i hi h:=i_ h1;have h:cs[i]?\d:=h;let a vs rfl _ hc hl bB:=w1.node;let u hu:=pL hl h;exact O.s hc hl w2 hi hu (k u H (aJ.refl H) (ou.plain (bB i u d hu h) c))
 .rw[zK c]at h2;lk]
instance (priority:=30) abf{r:R2}{ta tb:TE}{fa fb:En->oT (D×En)}{g:D->D->oT Nat}{gs:V->D->oT V}[A:SM K n ta fa][B':SM K n tb fb][O:tU K r g gs]:SM K n (ig r ta tb) (hZ (gQ g gs) fa fb):=
 have:jD K r (gQ g gs):=Rb
 Z6
def i5(a b:D):oT D:=match a,b with
 |.nd .tup xs, .nd .tup ys=>if xs≠ []/\-xs + -ys<=aM then oF (.nd .tup (xs++ys)) else oM
 |a,b=>gx a b
theorem abg(w1:Vw K H T1 x a)(w2:Vw K H T1 y b)(h:i5 a b\d)(k:∀v H',aJ H H'->Vw K H' T1 v d->Q v H'):AZ K x y H Q:=by
 unfold i5 at h
 split at h
 .next xs ys=>
  by_cases c:xs≠ []/\-xs + -ys<=aM
  .rw[zJ c]at h;cases h;let a vs rfl hc vl:=w1.ip;let b us rfl jV ul:=w2.ip;have nv:vs≠ []:=λz=>by
    subst z;have:=vl.1;exact c.1 (sN this.symm)
   refine .inr (.inr (.inr #[a,b,vs,us,rfl,rfl,cE.of hc.2,cE.of jV.2,nv,[vl.1,ul.1]^^c.2,λz=> ?_,λ_ p hp=> ?_]))
   .subst z;have e:=sN ul.1.symm;subst e;rw[nM]at k;exact k _ H (aJ.refl H) w1
   .exact k _ _ (fE hp _) ((vl.app ul).node hp (.inl #[rfl,rfl]))
  .rw[zK c]at h;lk
 .exact aaM.s w1 w2 h λv H3 s3 o=>k v H3 s3 o.vw
instance (priority:=950) akL{ta tb:TE}{fa fb:En->oT D}[A:SV K n ta fa][B':SV K n tb fb]:SV K n (ig (AZ K) ta tb) (au i5 fa fb):=#[λ{σ hv H U ρ τv τd d Q} I h k=>by
 let a ha h:=i_ h;let b hb h:=i_ h;refine A.s I ha λx H1 s1 w1=>?_;refine B'.s (I.same s1) hb λy H2 s2 w2=>?_;exact abg (w1.same s2) w2 h λv H3 s3 w=>k v H3 (s1.trans (s2.trans s3)) w]
def pO(a:D)(lo hi:oT Int):oT D:=match a with
 |.nd .tup cs=>oF (.nd .tup (cutD cs lo hi))
 |a=>oS a lo hi
theorem abh{H:Hp}{v:V}{a d:D}{lo hi:oT Int}{Q:VK}(w:Vw K H T1 v a)(h:pO a lo hi\d)(k:∀v H',aJ H H'->Vw K H' T1 v d->Q v H'):oR K v lo hi H Q:=by
 unfold pO at h
 split at h
 .next cs=>
  cases h;let a vs rfl hc vl:=w.ip;by_cases cw:HT.bE (-vs) 0 lo=0/\HT.bE (-vs) (-vs) hi=-vs
  .refine .inr (.inl #[a,vs,rfl,cE.of hc.2,cw, ?_]);have e:cutD cs lo hi=cs:=by
    rw[cutD];rw[<- vl.1,cw.1,cw.2,V7,aBv,vl.1,aiF]
   rw[e]at k;exact k _ H (aJ.refl H) w
  .refine .inl #[a,vs,rfl,cE.of hc.2,cw,λp hp=> ?_];have g:=D8 vl.1 vl.2 lo hi;exact k _ _ (fE hp _) (gF.node #[g.1,g.2] hp (.inl #[rfl,rfl]))
 .exact Q5 w h λv H4 s4 o=>k v H4 s4 o.vw
def pP(fe:En->oT D)(fl fh:En->oT (oT Int))(ρ:En):oT D:=(fe ρ).bind λd=>(fl ρ).bind λlo=>(fh ρ).bind λhi=>pO d lo hi
instance (priority:=950) akM{te:TE}{tl th:TO}{fe:En->oT D}{fl fh:En->oT (oT Int)}[A:SV K n te fe][L:SO K n tl fl][R:SO K n th fh]:SV K n (CY (oR K) te tl th) (pP fe fl fh):=#[λ{σ hv H U ρ τv τd d Q} I h k=>by
 let x h1 h:=i_ h;let lo h2 h:=i_ h;let hi h3 h:=i_ h;refine A.s I h1 λv H1 s1 w1=>L.s (I.same s1) h2 λH2 s2=>R.s ((I.same s1).same s2) h3 λH3 s3=> ?_;exact abh (w1.same (s2.trans s3)) h λv H4 s4 w=>k v H4 (s1.trans (s2.trans (s3.trans s4))) w]
instance (priority:=2000) akN{r:R2}{ta:TA}{tb:TE}{fa:En->oT (oH D)}{fb:En->oT (D×En)}{g:D->D->oT Nat}{gs:V->D->oT V}[A:yc K n ta fa][B':SM K n tb fb][O:tU K r g gs]:SM K n (ig r (aoK ta) tb) (hZ (gQ g gs) (λρ=>(d7 .lst fa ρ).map λd=>(d,ρ)) fb):=
 abf
variable {C:zI}{E:XK}
end
section
variable {K:ah}{n:Nat}{H H':Hp}{U U':zI->Prop}{σ hv:oH (oT V)}{ρ ρ':En}{τv vs:oH V}{τd ds:oH D}{d:D}
def ar9(j:Nat)(f2:En->oT D)(ρ:En):oT (D×En):=(f2 ρ).bind λe=>(kr j ρ).map λr=>(.nd .tup [r.1,e],r.2)
instance (priority:=3000) aHV{j:Nat}{t2:TE}{f2:En->oT D}[Lj:jC j n][S2:SF K n t2 f2]:SM K n (Ai (di (nE j) (di t2 fz))) (ar9 j f2):=#[λ{σ hv H U ρ ρ' τv τd d Q} I h k=>by
 let e h2 h:=i_ h;obtain⟨⟨d0,ρ1⟩,hm,h⟩:=aY.mp h;cases h;obtain⟨v0,ev,U1,I1,bQ⟩:∃v0,σ[j]?\!v0/\∃U1,aj K n H U1 σ hv ρ1 (τv++ [v0]) (τd++ [d0])/\bH U H U1 H:=by
  let d1 g1 g2:=i_ hm;by_cases p:plain d1=oP
  .rw[zJ p]at g2;cases g2;obtain⟨v,ev,w⟩:nE j σ H (λv H'=>Vw K H' T1 v d0):=(Z5 (i:=j)).s I g1 λv H' s w=>w;let U' I' st:=I.push (aJ.refl H) (ou.plain w p);exact#[v,ev,U',I',st]
  .rw[zK p]at g2
   split at g2
   .next d' e1=>
    cases g2;let v ev I':=I.moved Lj.h e1;exact#[v,ev,U,I',bH.refl U H]
   .lk
 refine#[v0,ev,S2.s I h2 λv2 H1 s1 o1=> ?_];let U2 I2 dJ:=I1.push s1 o1;refine#[by show 2<=aM;decide,λp hp=> ?_];have aCb:aj K n H1 U2 σ hv ρ1 (τv++ [v0,v2]) (τd++ [d0,e]):=by
  simp[b8]at I2;lk
 let U3 I3 gZ:=aCb.gather (k:= .tup) (o:= .tup [v0,v2]) rfl hp (.inl #[rfl,rfl,rfl]);exact k _ _ U3 I3 (bQ.trans (dJ.trans gZ))]
end
noncomputable def tF (n:Int) (ns:oH Int):Int:=ns.foldl (λa b=>if b > a then b else a) n
theorem axi(n:Int)(ns:oH Int):∀k,k<=-ns->(n::ns).getD (argBest (λi j=>decide ((n::ns).getD i 0 > (n::ns).getD j 0)) k) 0=tF n (ns.take k)
 |0,_=>rfl
 |k + 1,h=>by
  have ih:=axi n ns k b_;have e:ns.take (k + 1)=ns.take k++ [ns.getD k 0]:=by
   rw[List.take_add_one,dH b_];simp[Cn,dH (show k < -ns by lia)]
  have e2:tF n (ns.take (k + 1))=if ns.getD k 0 > tF n (ns.take k) then ns.getD k 0 else tF n (ns.take k):=by
   rw[e];rw[tF];rw[List.foldl_append];rfl
  rw[e2,argBest, <- ih];simp only[decide_eq_true_eq]
  split
  .next c=>exact(zJ (show ns.getD k 0 > _ from c)).symm
  .next c=>exact(zK (show ¬ ns.getD k 0 > _ from c)).symm
section
theorem aCc(hc:X.calm=oP):fT X (.builtin "max") (λxs H Q=>∃(a:zI) (n:Int) (ns:oH Int),xs= [.ref a]/\gN X.K H a ((n::ns).map V.int)/\Q (.int (tF n ns)) H):=by
 intro ab s σ H xs us Q I r h;let a n ns rfl hs q:=h;let u rfl ru:=vals1 r;cases ru;let ag rv pl hz:=I.list hs;have hl:-ag=-ns + 1:=by rw[<- rv.length,nI];rfl
 refine call_max_walk ?_;refine Vk pl.isList ?_;have lt:a < s.heap.objs.size:=by let o n e _:=pl;exact cW e
 have at_:∀(i:Nat) (v:zL),ag.toArray[i]?\v->∃t,v=w6 ((n::ns).getD i 0) t:=λi v hv=>by
  have iV:ag[i]?\v:=by simpa using hv
  have hi:i < -(n::ns):=by
   have:=(cX.mp iV).1;rw[p8]
   lia
  have hx:((n::ns).map V.int)[i]?\.int ((n::ns).getD i 0):=by
   rw[bJ,dH hi];simp[Cn,dH hi]
  let u hu ru:=rv.get hx;rw[iV]at hu;cases hu;lk
 refine#[s.heap.objs.size,_,_,_,_,_,λi j=>decide ((n::ns).getD i 0 > (n::ns).getD j 0),rfl,atv (A:=X.A.in1) (show X.A.in1.handled=oM from I.ok.hd hc) _ a (dR lt) ag.toArray,#[#[_,gc _ rfl,rfl,rfl],pl.isList.at λo e=>cB _ e],λb hb=> ?_, ?_,CmpOf.ints_gt _ at_,λv h' tk hP hk=> ?_]
 .rw[p9];rcases bL.mp hb with z | hb
  .rw[z];exact FN _
  .rw[ly.mp hb];exact Ck lt
 .rw[fM,hl];exact V3 _
 .let t rfl:=at_ _ v hP;rw[fM,hl,Cq,axi n ns _ (bO _),aiF];refine#[.int (tF n ns),H,I.kept (t':=tk) λb o eo=>hk b o ?_ (cB _ eo),#[t,rfl],q];intro z;rw[ly.mp z]at eo;exact absurd (cW eo) (mI _)
def asa(K:ah):oH V->Hp->VK->Prop:=λxs H Q=>∃(a:zI) (n:Int) (ns:oH Int),xs= [.ref a]/\gN K H a ((n::ns).map V.int)/\Q (.int (tF n ns)) H
theorem axj{X:Cx}(hc:X.calm=oP):fT X (.builtin "max") (asa X.K):=aCc hc
variable {K:ah}{n:Nat}{H H':Hp}{N:zI->Prop}
noncomputable def jq:oH D->oT (oH Int)
 | []=>oF []
 |.sc (.int b)::r=>(jq r).map (b:: ·)
 |_::_=>oM
theorem IF:∀{cs:oH D} {vs:oH V} {bs:oH Int},vs.length=-cs->(∀(i:Nat) (v:V) (d:D),vs[i]?\v->cs[i]?\d->Vw K H N v d)->jq cs\bs->vs=bs.map V.int
 | [], [],_,_,_,h=>by rw[jq]at h;cases h;rfl
 | [],_::_,_,h,_,_=>by lk
 |_::_, [],_,h,_,_=>by lk
 |d::cs,v::vs,ts,hl,hk,h=>by
  unfold jq at h
  split at h
  .next e=>lk
  .next t r e=>
   cases e;let x h2 h:=aY.mp h;subst h;rw[cP,(hk 0 v _ rfl rfl).bA,IF (eF hl) (λi v d a b=>hk (i + 1) v d (by simpa using a) (by simpa using b)) h2]
  .lk
def att:oH Int->oT D
 |n::ns=>oF (.sc (.int (tF n ns)))
 | []=>oM
def aqV:oH D->oT D
 | [.nd .lst cs]=>(jq cs).bind att
 |_=>oM
instance aHW:aoz K (asa K) aqV:=#[λ{H vs ds d Q} w h k=>by
 unfold aqV at h
 split at h
 .next cs=>
  let bs h1 h2:=i_ h;cases bs with
  |nil=>lk
  |cons n ns=>
   cases h2;let v rfl w1:=w.one;let a us rfl _ hc hl bB:=w1.node;have e:=IF hl bB h1;exact#[a,n,ns,rfl,gN.of (by rw[<- e];exact hc.2),k _ H (aJ.refl H) (.sc _)]
 .lk]
end
section
variable {K:ah}{H H':Hp}
end
end VL
set_option maxHeartbeats 4000000
namespace VL
open PySem L2
noncomputable abbrev iD (i:Int):D:= .sc (.int i)
noncomputable abbrev tD (b:Bool):D:= .sc (.bl b)
noncomputable abbrev sD (s:Str):D:= .sc (.str s)
noncomputable def qI (cs:oH Int):D:= .nd .dk (cs.map λi=> .sc (.int i))
theorem oX(c d:Int):dN id (.sc (.int c)) (.sc (.int d))\.sc (.bl (decide (c=d))):=by
 simp[dN,cy,sO,sP,q9];by_cases h:c=d <;> simp[h]
theorem axk(c d:Int):dN not (.sc (.int c)) (.sc (.int d))\.sc (.bl (decide (c≠d))):=by
 simp[dN,cy,sO,sP,q9];by_cases h:c=d <;> simp[h]
theorem Ea(c d:Str)(hc:fD c=oP)(hd:fD d=oP):dN id (.sc (.str c)) (.sc (.str d))\.sc (.bl (decide (c=d))):=by
 simp[hc,hd,dN,cy,sO,sP,q9];by_cases h:c=d <;> simp[h]
theorem Rf(c d:Str)(hc:fD c=oP)(hd:fD d=oP):dN not (.sc (.str c)) (.sc (.str d))\.sc (.bl (decide (c≠d))):=by
 simp[hc,hd,dN,cy,sO,sP,q9];by_cases h:c=d <;> simp[h]
theorem apu:(1<=aM)=True:=eq_true a_
theorem CV:(2<=aM)=True:=eq_true a_
theorem axl:(3<=aM)=True:=eq_true a_
theorem aCd:(4<=aM)=True:=eq_true a_
theorem at6:(5<=aM)=True:=eq_true a_
theorem axm:(6<=aM)=True:=eq_true a_
theorem aCe:(8<=aM)=True:=eq_true a_
def NA(x:oT B):Prop:=∀r p,x≠oF (.aB r p)
theorem t9:eI i []= []:=rfl
theorem uc:eI i (oF (.own d)::r)=oF (.own d)::eI i r:=rfl
theorem ud:eI i (oF (.ro d)::r)=oF (.ro d)::eI i r:=rfl
theorem ue:eI i (oM::r)=oM::eI i r:=rfl
theorem uf:eI i (oF (.aB j p)::r)=(if j=i then oM else oF (.aB j p))::eI i r:=rfl
theorem abj(h:NA x):eI i (x::r)=x::eI i r:=by
 match x,h with
 |none,_=>rfl
 |some (.own _),_=>rfl
 |some (.ro _),_=>rfl
 |some (.aB r p),h=>exact absurd rfl (h r p)
theorem abk(h:NA x):fO ρ x=x:=by
 match x,h with
 |none,_=>rfl
 |some (.own _),_=>rfl
 |some (.ro _),_=>rfl
 |some (.aB r p),h=>exact absurd rfl (h r p)
def Ev(f:En->oT Fl)(ρ:En)(Q:Fl->Prop):Prop:=∃fl,f ρ\fl/\Q fl
theorem Ev.seq(h:Ev t ρ λfl=>match fl with | .nx ρ'=>Ev u ρ' Q | fl=>Q fl):Ev (kT t u) ρ Q:=by
 let fl e h:=h;rw[Ev,kT];rw[e];cases fl with
 |nx ρ'=>lk
 |_=>exact#[_,rfl,h]
theorem Ev.nx(e:t ρ\.nx ρ')(h:Ev u ρ' Q):Ev (kT t u) ρ Q:=Ev.seq #[_,e,h]
theorem Rg{ds:oH D}{R:D->Prop}(h:Ev f (ds.map (λd=>oF (.ro d))++ug (n - -ds) oM) λfl=>match fl with | .rt d _=>R d | .nx _=>R (.sc .aG) | _=>False):∃d,bV n f ds\d/\R d:=by
 let fl e h:=h;rw[bV];rw[e];cases fl with
 |nx ρ'=>exact#[_,rfl,h]
 |rt d ρ'=>exact#[_,rfl,h]
 |bk _=>exact h.elim
 |ct _=>exact h.elim
theorem IH{fg:D->En->oT En}{Q:Fl->Prop}(P:En->Prop):∀(ds:oH D) (ρ:En),P ρ->(∀d∈ds,∀ρ,P ρ->∃ρ1,fg d ρ\ρ1/\Ev fb ρ1 λfl=>match fl with | .nx ai=>P ai | .ct ai=>P ai | .bk ai=>Q (.nx ai) | .rt d ai=>Q (.rt d ai))->
  (∀ρ,P ρ->Q (.nx ρ))->∃fl,eB fg fb ds ρ\fl/\Q fl
 | [],ρ,p,_,hd=>#[_,rfl,hd ρ p]
 |d::ds,ρ,p,st,hd=>by
  let ρ1 e1 fl e2 h:=st d (.head _) ρ p;rw[eB,e1];show ∃fl,(fb ρ1).bind _\fl/\Q fl;rw[e2];cases fl with
  |nx ai=>exact IH P ds ai h (λd pA=>st d (.tail _ pA)) hd
  |ct ai=>exact IH P ds ai h (λd pA=>st d (.tail _ pA)) hd
  |bk ai=>exact#[_,rfl,h]
  |rt d ai=>exact#[_,rfl,h]
theorem Ev.for{fi:En->oT (oH D)}{fg:D->En->oT En}{fb:En->oT Fl}{Q:Fl->Prop}(hi:fi ρ\ds)(P:En->Prop)(h0:P ρ)
  (st:∀d∈ds,∀ρ,P ρ->∃ρ1,fg d ρ\ρ1/\Ev fb ρ1 λfl=>match fl with | .nx ai=>P ai | .ct ai=>P ai | .bk ai=>Q (.nx ai) | .rt d ai=>Q (.rt d ai)) (hd:∀ρ,P ρ->Q (.nx ρ)):
  Ev (λρ=>(fi ρ).bind λds=>eB fg fb ds ρ) ρ Q:=by
 show ∃fl,(fi ρ).bind _\fl/\Q fl;rw[hi];exact IH P ds ρ h0 st hd
theorem apv(m:Nat)(hm:m < 100):tZ [.sc (.int (m:Int))]\iQ 0 m:=by
 unfold tZ;dsimp only;rw[zJ #[by lia,by lia]];rfl
theorem Rh{α:Type}(g:α->D)(p:α->Bool)(h:α->D):∀(l:oH α),(∀a∈l,∃ρ1,fg (g a) ρ0\ρ1/\ft ρ1\p a/\(p a=oP->fe ρ1\h a))->
  jH fg ft fe ρ0 (l.map g)\(l.filter p).map h
 | [],_=>rfl
 |a::l,H=>by
  let ρ1 e1 e2 e3:=H a (.head _);have ih:=Rh g p h l λx hx=>H x (.tail _ hx);rw[cP,jH,e1];show(ft ρ1).bind _=_;rw[e2];show(if p a=oP then _ else _)=_;cases q:p a with
  |true=>rw[zJ rfl,e3 q];show(jH fg ft fe ρ0 _).map _=_;rw[ih,List.filter_cons_of_pos q];rfl
  |false=>rw[zK df,ih,List.filter_cons_of_neg (q^^df)]
theorem fQ(h:f (ds.map (λd=>oF (.ro d))++ug (n - -ds) oM)\.rt d ρ'):bV n f ds\d:=by
 rw[bV];rw[h]
theorem fC(h:f (kW n bp ds)\.rt d ρ')(ho:gP (ρ'.drop n)\o):dG n bp f ds\(d,o):=by
 rw[dG];rw[h];show(gP _).map _=_;rw[ho];rfl
theorem cD(h:f ρ\(d,ρ')):jg f ρ\.rt d ρ':=by
 rw[jg];rw[h];rfl
theorem aD(e:t ρ\.nx ρ')(h:u ρ'=r):kT t u ρ=r:=by
 rw[kT];rw[e];lk
theorem e9{x:oT D}{ρ:En}{d:D}(h:x\d):x.map (λd=>(d,ρ))\(d,ρ):=by rw[h];rfl
theorem abl{n:Nat}{fg:D->En->oT En}{ft:En->oT Bool}{fe:En->oT D}(h1:fi ρ\ds)(hz:ds.length<=aM)(rD:is.all (λi=>js[i]? == oF oM)=oP)
  (h2:jH fg ft fe (gH n js ρ) ds\ys):iJ n js is fi fg ft fe ρ\.nd .lst ys:=by
 rw[iJ];rw[h1];show(if _ then _ else _)=_;rw[zJ #[hz,rD],h2];rfl
theorem qD{α:Type}{n:Nat}{fg:D->En->oT En}{ft:En->oT Bool}{fe:En->oT D}(l:oH α)(g:α->D)(p:α->Bool)(h:α->D)(h1:fi ρ\l.map g)(hz:-l<=aM)(rD:is.all (λi=>js[i]? == oF oM)=oP)
  (h2:∀a∈l,∃ρ1,fg (g a) (gH n js ρ)\ρ1/\ft ρ1\p a/\(p a=oP->fe ρ1\h a)):iJ n js is fi fg ft fe ρ\.nd .lst ((l.filter p).map h):=
 abl h1 (nI^^hz) rD (Rh g p h l h2)
theorem abm(h:d∈iQ lo m):∃i:Nat,i < m/\d=iD (lo + i):=by
 let i hi e:=gY.mp h;exact#[i,sH.mp hi,e.symm]
theorem akS:fO ρ (!.own d)\.own d:=rfl
theorem akT:fO ρ (!.ro d)\.ro d:=rfl
theorem akU:fO ρ oM=oM:=rfl
theorem i6:NA oM:=λ_ _ h=>by lk
theorem dO:NA (!.ro d):=λ_ _ h=>by cases h
theorem cZ:NA (!.own d):=λ_ _ h=>by cases h
theorem asb:(ae "many"=ae "number")=False:=aiR
theorem Rj:(ae "term"=ae "number")=False:=aiR
theorem Sh:(ae "term"=ae "many")=False:=aiR
theorem apw:(ae "of"=ae "number")=False:=aiR
theorem apx:(ae "of"=ae "many")=False:=aiR
theorem apy:(ae "of"=ae "term")=False:=aiR
theorem aoN:(ae "log"=ae "number")=False:=aiR
theorem aoO:(ae "log"=ae "many")=False:=aiR
theorem aoP:(ae "log"=ae "term")=False:=aiR
theorem aoQ:(ae "log"=ae "of")=False:=aiR
theorem ap0:(ae "done"=ae "number")=False:=aiR
theorem ap1:(ae "done"=ae "many")=False:=aiR
theorem ap2:(ae "done"=ae "term")=False:=aiR
theorem ap3:(ae "done"=ae "of")=False:=aiR
theorem ap4:(ae "done"=ae "log")=False:=aiR
theorem Sm:(ae "role"=ae "number")=False:=aiR
theorem Sz:(ae "role"=ae "many")=False:=aiR
theorem SH:(ae "role"=ae "term")=False:=aiR
theorem S0:(ae "role"=ae "of")=False:=aiR
theorem Up:(ae "role"=ae "log")=False:=aiR
theorem UN:(ae "role"=ae "done")=False:=aiR
theorem aqW:(ae "voices"=ae "number")=False:=aiR
theorem aqX:(ae "voices"=ae "many")=False:=aiR
theorem aqY:(ae "voices"=ae "term")=False:=aiR
theorem aqZ:(ae "voices"=ae "of")=False:=aiR
theorem aq0:(ae "voices"=ae "log")=False:=aiR
theorem aq1:(ae "voices"=ae "done")=False:=aiR
theorem aq2:(ae "voices"=ae "role")=False:=aiR
theorem aq3:(ae "sizes"=ae "number")=False:=aiR
theorem aq4:(ae "sizes"=ae "many")=False:=aiR
theorem aq5:(ae "sizes"=ae "term")=False:=aiR
theorem aq6:(ae "sizes"=ae "of")=False:=aiR
theorem aq7:(ae "sizes"=ae "log")=False:=aiR
theorem aq8:(ae "sizes"=ae "done")=False:=aiR
theorem aq9:(ae "sizes"=ae "role")=False:=aiR
theorem ara:(ae "sizes"=ae "voices")=False:=aiR
theorem asd:(ae "fixed"=ae "number")=False:=aiR
theorem ase:(ae "fixed"=ae "many")=False:=aiR
theorem asf:(ae "fixed"=ae "term")=False:=aiR
theorem ash:(ae "fixed"=ae "of")=False:=aiR
theorem asi:(ae "fixed"=ae "log")=False:=aiR
theorem asj:(ae "fixed"=ae "done")=False:=aiR
theorem asl:(ae "fixed"=ae "role")=False:=aiR
theorem asm:(ae "fixed"=ae "voices")=False:=aiR
theorem asn:(ae "fixed"=ae "sizes")=False:=aiR
def Gd(n:Nat)(d:D):Prop:=∃p,cy d\p/\p.canLay0=oP/\p.depth<=n/\q9 p p=oP
def mz(n:Nat)(ds:oH D):Prop:=∃ps,ky ds\ps/\V8 ps=oP/\V9 ps<=n/\zu ps ps=oP
theorem Gd.int(i:Int):Gd 0 (.sc (.int i)):=#[.int i,by simp[cy],by simp[sO],by simp[sP],by simp[q9]]
theorem Gd.str(x:Str)(h:fD x=oP):Gd 0 (.sc (.str x)):=#[.str x,by simp[cy],by simp[sO,h],by simp[sP],by simp[q9]]
theorem Gd.mono(h:Gd m d)(l:m<=n):Gd n d:=by
 let p a b c e:=h;exact#[p,a,b,eK c l,e]
theorem mz.nil:mz n []:=#[[],by simp[ky],by simp[V8],by simp[V9],by simp[zu]]
theorem mz.cons(h:Gd n d)(t:mz n ds):mz n (d::ds):=by
 let p a b c e:=h;let ps a' b' c' e':=t;exact#[p::ps,by simp[ky,a,a'],by simp[V8,b,b'],by simp[V9];lia,by simp[zu,e,e']]
theorem mz.all:∀{ds:oH D},(∀d∈ds,Gd n d)->mz n ds
 | [],_=> .nil
 |d::ds,h=> .cons (h d (.head _)) (mz.all λx hx=>h x (.tail _ hx))
theorem mz.tup(h:mz n ds):Gd (n + 1) (.nd .tup ds):=by
 let ps a b c e:=h;exact#[.tuple ps,by simp[cy,a],by simp[sO,b],by simp[sP];lia,by simp[q9,e]]
theorem mz.lst(h:mz n ds):Gd (n + 1) (.nd .lst ds):=by
 let ps a b c e:=h;exact#[.list ps,by simp[cy,a],by simp[sO,b],by simp[sP];lia,by simp[q9,e]]
theorem Ri(m:Nat):iQ 0 m=(kf m).map λi:Nat=>D.sc (.int (i:Int)):=by
 refine Cs λi _=>?_;rw[Int.zero_add]
noncomputable def nz (nu:Int) (m:Nat):oH Nat:=(kf m).filter λi:Nat=>decide ((i:Int)≠nu)
noncomputable def nP (nu ma te:Int):Int:=te + 1 + (nu - (te + 1)) % ma
def Lp(l:oH D):Prop:=∃x y:Int,l= [iD x]\/l= [iD x,iD y]
theorem Ev.aoj(h:fc ρ\(oP,ρ1))(ha:Ev a ρ1 Q):Ev (gv fc a b) ρ Q:=by
 let fl e q:=ha;refine#[fl, ?_,q];rw[gv];rw[h];lk
noncomputable def mH:oH Str:= ["number","many","term","of","log","done","role","voices","sizes","fixed"]
inductive NM:D->Prop
 |a (s:Str) (k:Int):fD s=oP->NM (.nd .tup [.sc (.str s), .sc (.int k)])
 |b (s:Str) (k t:Int):fD s=oP->NM (.nd .tup [.sc (.str s), .sc (.int k), .sc (.int t)])
 |c (s:Str) (k:Int) (t:Str):fD s=oP->fD t=oP->NM (.nd .tup [.sc (.str s), .sc (.int k), .sc (.str t)])
def eU(L:oH D):Prop:=∀d∈L,NM d
theorem NM.plain(h:NM d):VL.plain d=oP:=by cases h <;> simp[VL.plain,VL.bI]
theorem eU.plain(h:eU L):VL.bI L=oP:=vM λd hd=>(h d hd).plain
theorem eU.nil:eU []:=λ_ h=>nomatch h
theorem eU.app(h:eU L)(g:eU M):eU (L++M):=λd hd=>(lZ.mp hd).elim (h d) (g d)
theorem eU.one(h:NM r):eU [r]:=λd hd=>ly.mp hd^^h
def mD(C:zI)(nu ma te o:Int)(L:oH D)(dn:Int)(role:Str)(vo si:D):D:= .nd (.obj C mH) [iD nu,iD ma,iD te,iD o, .nd .lst L,iD dn,sD role,vo,si,tD oP]
theorem arb(nu ma te o:Int)(L:oH D)(dn:Int)(role:Str)(vo si:D):VL.plain (mD C nu ma te o L dn role vo si)=yv:=by simp[mD,VL.plain]
theorem aoB(h:(jf m mH).isNone=oP)(nu ma te o:Int)(L:oH D)(dn:Int)(role:Str)(vo si:D):A0 C m (mD C nu ma te o L dn role vo si)=oP:=by
 show(decide (C=C) && (jf m mH).isNone)=oP;rw[decide_eq_true rfl,h];rfl
theorem apz(nu ma te o:Int)(L:oH D)(dn:Int)(role:Str)(vo si:D):ji "number" (mD C nu ma te o L dn role vo si)\iD nu:=by
 simp[mD,mH,ji,oB,jf,jh]
theorem arc(nu ma te o:Int)(L:oH D)(dn:Int)(role:Str)(vo si:D):ji "term" (mD C nu ma te o L dn role vo si)\iD te:=by
 simp[mD,mH,ji,oB,jf,jh,Rj,Sh]
theorem axn(nu ma te o:Int)(L:oH D)(dn:Int)(role:Str)(vo si:D):ji "of" (mD C nu ma te o L dn role vo si)\iD o:=by
 simp[mD,mH,ji,oB,jf,jh,apw,apx,apy]
theorem ao9(nu ma te o:Int)(L:oH D)(dn:Int)(role:Str)(vo si:D):ji "log" (mD C nu ma te o L dn role vo si)\.nd .lst L:=by
 simp[mD,mH,ji,oB,jf,jh,aoN,aoO,aoP,aoQ]
theorem ard(nu ma te o:Int)(L:oH D)(dn:Int)(role:Str)(vo si:D):ji "done" (mD C nu ma te o L dn role vo si)\iD dn:=by
 simp[mD,mH,ji,oB,jf,jh,ap0,ap1,ap2,ap3,ap4]
theorem aso(nu ma te o:Int)(L:oH D)(dn:Int)(role:Str)(vo si:D):ji "role" (mD C nu ma te o L dn role vo si)\sD role:=by
 simp[mD,mH,ji,oB,jf,jh,Sm,Sz,SH,S0,Up,UN]
theorem aCf(nu ma te o:Int)(L:oH D)(dn:Int)(role:Str)(vo si:D):ji "sizes" (mD C nu ma te o L dn role vo si)\si:=by
 simp[mD,mH,ji,oB,jf,jh,aq3,aq4,aq5,aq6,aq7,aq8,aq9,ara]
open PySem.Spec PyProof.Rows
section
variable {K:ah}{n:Nat}{H H' H1 H2:Hp}{U U':zI->Prop}{σ hv:oH (oT V)}{ρ ρ':En}{τv vs:oH V}{τd ds:oH D}{v y:V}{d:D}{E:ke}
theorem asp(h:j < k):k - j=k - (j + 1) + 1:=(Nat.sub_add_cancel (Nat.sub_pos_of_lt h)).symm
theorem kO{α:Type}(A B:oH α)(x:α)(j:Nat):(A++ [x]++B)[j]?=if j < -A then(A++B)[j]? else if j=-A then oF x else(A++B)[j - 1]?:=by
 by_cases h1:j < -A
 .rw[zJ h1,b8,aU h1,aU h1]
 .rw[zK h1,b8,br (apP h1)];by_cases h2:j=-A
  .rw[zJ h2,h2];simp
  .let k rfl:=aHh (aBx (apP h1) (yd h2));rw[zK h2,List.singleton_append,Cq,br (sJ _ _),aty,NX,NX,List.getElem?_cons_succ]
def at7:B->Nat->Prop
 |.aB r _,q=>q=r
 |_,_=>False
theorem bT.re{m m':Nat}{ρ ρ':En}(h:bT K H U m e ρ)(π:Nat->Nat)(P:Nat->Prop)(hl:-e'=-ρ')(inj:∀i j,P i->P j->π i=π j->i=j)
  (w:∀(j:Nat) (β:B),ρ'[j]?\!β->(P j/\ρ[π j]?\!β/\e'[j]?=e[π j]?/\∀q,at7 β q->q < m->q < m'/\e'[q]?=e[q]?)\/∃r p v vr,β= .aB r p/\r < m'/\e'[j]?\!v/\e'[r]?\!vr/\gU H vr p v):bT K H U m' e' ρ':=by
 obtain⟨_,mu,Fs,dj,sub,sl⟩:=h;refine#[hl,mu,λj b=>P j/\Fs (π j) b,λi j b hi hj=>inj i j hi.1 hj.1 (dj _ _ b hi.2 hj.2),λi b hb=>sub _ b hb.2,λj β aw=> ?_];rcases w j β aw with⟨p,h1,h2,h3⟩ | ⟨r,p,v,vr,rfl,h1,h2,h3,h4⟩
 .let v ev sv:=sl _ _ h1;refine#[v,h2.trans ev, ?_];cases β with
  |own d=>exact bg.mono sv λb z=>#[p,z]
  |ro d=>lk
  |aB q p=>
   let a vr b c:=sv;let x y:=h3 q rfl a;exact#[x,vr,y.trans b,c]
 .exact#[v,h2,h1,vr,h3,h4]
noncomputable def insI (M r j:Nat):Nat:=if j < M then j else if j=M then r else j - 1
theorem aCg(h:j < M):insI M r j=j:=zJ h
theorem apa:insI M r M=r:=by rw[insI];rw[zK (mI _),zJ rfl]
theorem arf(h:k≠M):(if insI M r k < M then insI M r k else insI M r k + 1)=k:=by
 by_cases c:k < M
 .rw[aCg c,zJ c]
 .let x rfl:=aHh (aBx (apP c) (yd h));rw[insI];rw[zK c,zK h,Cq,zK (awN.mpr (sJ _ _))]
theorem at8(hi:i≠M)(hj:j≠M)(h:insI M r i=insI M r j):i=j:=by rw[<- arf (r:=r) hi,h,arf hj]
theorem at9(h:k≠M)(hr:r < M)(e:insI M r k=r):k=r:=by
 have:=arf (r:=r) h;rw[e,zJ hr]at this;exact this.symm
theorem ap5{α:Type}{A B:oH α}{x:α}{M r j:Nat}(hA:-A=M)(h:j≠M):(A++ [x]++B)[j]?=(A++B)[insI M r j]?:=by
 subst hA;rw[kO];rw[insI]
 split
 .rfl
 .rfl
theorem aoR{α:Type}{A B C:oH α}{x:α}{M q:Nat}(hA:-A=M)(h:q < M):(A++ [x]++B)[q]?=(A++C)[q]?:=by
 subst hA;rw[b8,aU h,aU h]
theorem aok{α:Type}{A B:oH α}{x:α}{M:Nat}(hA:-A=M):(A++ [x]++B)[M]?\x:=by
 subst hA;rw[kO,zK (mI _),zJ rfl]
def ap6(r:Nat)(d:D)(ρ:En):En:=((eI r ρ).set r (!.aB (-ρ) []))++ [!.own d]
def qE(r m:Nat)(ρ:En):En:=match ρ[r]? with
 |some (!.aB q [])=>if q=m then((eI m ρ).take m).set r ((aV ρ m).map .own) else(eI m ρ).take m
 |_=>(eI m ρ).take m
theorem aj.hM(I:aj K n H U σ hv ρ τv τd):-(σ++hv)=-ρ:=eO^^I.len
theorem aua{α β:Type}{A B:oH α}{C D:oH β}{x:α}{y:β}(h:-(A++B)=-(C++D)):-(A++ [x]++B)=-(C++ [y]++D):=by
 simp only[eO,pw]at h |-;rw[aHi,h,aHi]
theorem asq(x:oT V):σ++(hv++ [x])++τv.map oF=(σ++hv)++ [x]++τv.map oF:=by rw[<- b8]
theorem aj.aCh{r:Nat}(I:aj K n H U σ hv ρ τv τd)(h:ρ[r]?\!.own d)(hr:r < n):
  ∃v,σ[r]?\!v/\aj K n H U σ (hv++ [!v]) (ap6 r d ρ) τv τd:=by
 have hM:=I.hM;have hX:-((eI r ρ).set r (!.aB (-ρ) []))=-ρ:=by rw[bN,jZ]
 have aoC:r < -ρ:=(cX.mp h).1;let v _ aub _ _:=I.slot h;have aCi:σ[r]?\!v:=by rw[I.name hr]at aub;lk
 have er:(σ++hv++τv.map oF)[r]?\!v:=aU (hM^^aoC)^^aub
 refine#[v,aCi, ?_,by rw[ap6];rw[eO,eO,hX, <- aty,I.len];rfl,I.nn];have hL:-(ap6 r d ρ)=-ρ + 1:=by rw[ap6];rw[eO,hX,pw]
 rw[asq,hL];rw[ap6];refine I.ok.re (insI (-ρ) r) (·≠r) (aua (by rw[I.ok.len,eO,eO,hX])) (λi j hi hj q=> ?_) λj γ qA=> ?_
 .by_cases ci:i=-ρ
  .subst ci;by_cases cj:j=-ρ
   .exact cj.symm
   .exact absurd (at9 cj aoC (q.symm.trans apa)) hj
  .by_cases cj:j=-ρ
   .subst cj;exact absurd (at9 ci aoC (q.trans apa)) hi
   .exact at8 ci cj q
 .have refs:∀q,at7 γ q->q < -ρ->q < -ρ + 1/\((σ++hv)++ [!v]++τv.map oF)[q]?=(σ++hv++τv.map oF)[q]?:=λq _ hq=>#[Ck hq,aoR hM hq]
  by_cases cj:j=-ρ
  .subst cj;rw[aok hX]at qA;cases qA;refine .inl #[(dR aoC).symm, ?_, ?_,refs]
   .rw[apa,aU aoC];lk
   .rw[apa,aok hM,er]
  .by_cases cr:j=r
   .subst cr;rw[aoR (C:= []) hX aoC,nM,gK (jZ^^aoC)]at qA;cases qA;exact .inr #[_,_,v,v,rfl,FN _,(aoR hM aoC).trans er,aok hM, .nil v]
   .refine .inl #[cr, ?_,ap5 hM cj,refs];rw[ap5 (r:=r) hX cj]at qA;have nr:insI (-ρ) r j≠r:=λz=>cr (at9 cj aoC z);by_cases c:insI (-ρ) r j < -ρ
    .rw[aU (hX^^c),gq (yd nr)]at qA;rw[aU c];exact(DH qA).1
    .rw[br (hX^^apP c),hX]at qA;rw[br (apP c)];lk
noncomputable def an4 (M c j:Nat):Nat:=if j < M then(if j=c then M else j) else j + 1
theorem axo:(if an4 M c k=M then c else if an4 M c k < M then an4 M c k else an4 M c k - 1)=k:=by
 rw[an4];by_cases h:k < M
 .rw[zJ h];by_cases e:k=c
  .rw[zJ e,zJ rfl,e]
  .rw[zK e,zK (dR h),zJ h]
 .rw[zK h,zK (apN (aHj (apP h))),zK (λz=>h (aHk z))];rfl
theorem aj.Rk{M c:Nat}{X:En}(I:aj K n H U σ (hv++ [!v]) ρ τv τd)(abw:-ρ=M + 1)(II:-X=M)
  (hX:∀(j:Nat) (γ:B),X[j]?\!γ->(j≠c/\ρ[j]?\!γ/\∀q p,γ= .aB q p->q≠M)\/(j=c/\∃d,γ= .own d/\aV ρ M\d/\ρ[j]?\!.aB M [])):
  aj K n H U σ hv X τv τd:=by
 have hM:-(σ++hv)=M:=by
  have:=I.len;rw[eO, <- aty,abw]at this;rw[eO];exact eF this
 refine#[?_,by rw[II, <- hM,eO],I.nn];rw[II];have ok:=I.ok;rw[asq,abw]at ok;refine ok.re (an4 M c) (λ_=>True) ?_ (λi j _ _ q=>by rw[<- axo (M:=M) (c:=c) (k:=i),q,axo]) λj γ qA=> .inl ?_
 .have:=ok.len;rw[eO,eO (as:=σ++hv),eO (as:=ρ),hM,abw]at this;rw[eO (as:=σ++hv),eO (as:=X),hM,II];exact congrArg (M + ·) (Nat.add_left_cancel (n:=M + 1) this)
 by_cases c1:j < M
 .rw[aU (II^^c1)]at qA;have hj:j < -ρ:=abw^^Ck c1
  rcases hX j γ qA with⟨n1,q1,q2⟩ | ⟨rfl,dd,rfl,hd,q1⟩
  .refine#[trivial, ?_];have e:an4 M c j=j:=by rw[an4];rw[zJ c1,zK n1]
   rw[e,aU hj];refine#[q1,(aoR hM c1).symm,λq hq hm=> ?_];have:q < M:=aBx (Nat.le_of_lt_succ hm) (by
    cases γ with
    |aB r p=>exact λz=>q2 r p rfl (hq.symm.trans z)
    |_=>exact hq.elim)
   exact#[this,(aoR hM this).symm]
  .refine#[trivial, ?_];have e:an4 M j j=M:=by rw[an4];rw[zJ c1,zJ rfl]
   rw[e,aU (abw^^FN M)];refine#[L3 hd, ?_,λq hq=>hq.elim];let v2 _ dE _ _ vr er k:=I.slot q1;cases k;rw[<- b8, <- nM (σ++hv++ [!v])]at er dE;rw[aok hM]at er;cases er;rw[aok hM];exact(aoR hM c1).symm.trans dE
 .refine#[trivial, ?_];have e:an4 M c j=j + 1:=by rw[an4];rw[zK c1]
  have hj:M<=j:=apP c1;rw[br (II^^hj),II]at qA;refine#[?_, ?_,λq hq=> ?_]
  .rw[e,br (abw^^aiJ hj),abw,Nat.add_sub_add_right];lk
  .rw[e,kO,hM,zK (λz=>c1 (aHk z)),zK (apN (aHj hj))];rfl
  .rw[bJ]at qA;let dd _ e2:=aY.mp qA;cases e2;exact hq.elim
theorem Rm(h:((eI M ρ).take M)[j]?\!γ):j < M/\ρ[j]?\!γ/\∀q p,γ= .aB q p->q≠M:=by
 have hj:j < M:=by
  rcases NV j M with z | z
  .lk
  .rw[List.getElem?_take_eq_none b_]at h;lk
 rw[VE hj]at h;exact#[hj,DH h]
theorem aj.cls(I:aj K n H U σ (hv++ [!v]) ρ τv τd)(hm:-ρ=m + 1)(hr:r < m):aj K n H U σ hv (qE r m ρ) τv τd:=by
 have e:-((eI m ρ).take m)=m:=by rw[Ce,jZ];lia
 have plain:aj K n H U σ hv ((eI m ρ).take m) τv τd:=I.Rk (c:=m) hm e λj γ h=>by
  let a b c:=Rm h;exact .inl #[by lia,b,c]
 rw[qE]
 split
 .next q hq=>
  split
  .next c=>
   subst c;refine I.Rk (c:=r) hm (bN^^e) λj γ h=> ?_;by_cases cj:r=j
   .subst cj;rw[gK b_]at h;have h:(aV ρ q).map B.own\γ:=IM h;let d h1 h2:=aY.mp h;exact .inr #[rfl,d,h2.symm,h1,hq]
   .rw[gq cj]at h;obtain⟨_,b,c⟩:=Rm h;exact .inl #[λz=>cj z.symm,b,c]
  .lk
 .lk
theorem aj.Rn(I:aj K n H U σ hv ρ τv τd)(hm:n<=m)(ha:hv[m - n]?\!.ref a)(hd:aV ρ m\.nd .lst cs):
  m < -ρ/\(σ++hv)[m]?\!.ref a/\∃vs,H a\.lst vs/\-vs=-cs:=by
 have nn:=I.nn;have hr:=L3 hd;have em:(σ++hv)[m]?\!.ref a:=[br b_,nn]^^ha
 let v F ev _ sv:=I.slot hr;rw[em]at ev;cases ev;have sv:bg K H F (.ref a) (.nd .lst cs):=sv;let a' vs e _ hc hl _:=(bg.vw sv).node;cases e;exact#[(cX.mp hr).1,em,vs,hc.2,hl]
def aoS(i m:Nat)(fb:En->oT Fl):Nat->Nat->En->oT Fl
 |0,j,ρ=>match aV ρ m with
  |some (.nd .lst cs)=>if -cs<=j then oF (.nx ρ) else oM
  |_=>oM
 |k + 1,j,ρ=>match aV ρ m with
  |some (.nd .lst cs)=>if j < -cs then(fb (bq i (.aB m [j]) ρ)).bind λ
   |.nx ai=>aoS i m fb k (j + 1) ai
   |.ct ai=>aoS i m fb k (j + 1) ai
   |.bk ai=>oF (.nx ai)
   |.rt d ai=>oF (.rt d ai) else oM
  |_=>oM
theorem Ro{i m k:Nat}{fl:Fl}[L:jC i n][B':SS K n tb fb](I:aj K n H U σ hv ρ τv τd)(hm:n<=m)(ha:hv[m - n]?\!.ref a)
  (h:aoS i m fb k 0 ρ\fl) (hk:qu K n H U hv τv τd E fl):
  ∃W:Nat->Nat->L2.St->Hp->Prop,(∃m,W 0 m σ H)/\∀i' m' σ H,W i' m' σ H->
   ((tf K a).stop i' H/\E.nx σ H)\/((tf K a).go i' H/\∃N:L2.St->Hp->Prop,(∀dg H',N dg H'->∃m2,m2 < m'/\W (i' + 1) m2 dg H')/\∀x H',(tf K a).apQ i' H x H'->lB i x σ H' λsm H2=>tb { E with nx:=N,ct:=N,bk:=E.nx } sm H2):=by
 refine#[λj m' dg H'=>m'=k - j/\j<=k/\∃U' ρ',aj K n H' U' dg hv ρ' τv τd/\bH U H U' H'/\aoS i m fb (k - j) j ρ'\fl,#[k,by simp,jO _,U,ρ,I, .refl U H,h], ?_];rintro j m' dg H' ⟨rfl,hj,U',ρ',Ix,st,fo⟩;have hi:=L.h;by_cases dS:j < k
 .right;obtain⟨t,ht⟩:∃t,k - j=t + 1:=#[k - (j + 1),asp dS]
  rw[ht,aoS]at fo
  split at fo
  .next cs hd=>
   let hr em vs iV hl:=Ix.Rn hm ha hd
   split at fo
   .next aby=>
    let t6 b2 fo:=i_ fo;refine#[#[vs,vs[j]'b_,gN.of iV,dH b_],λsm H2=>∃U2 ai,aj K n H2 U2 sm hv ai τv τd/\bH U' H' U2 H2/\aoS i m fb t (j + 1) ai\fl,λsm H2 #[U2,ai,a1,a2,a3]=>#[k - (j + 1),atx _ _ dS,rfl,dS,U2,ai,a1,st.trans a2,eF ((asp dS).symm.trans ht)^^a3],λx H2 y2=> ?_];let e w2:=y2;subst e;have hx:=w2 vs (gN.of iV);show tb _ (dg.set i (!x)) H2;refine B'.s (Ix.named hi (β:= .aB m [j]) #[hr,by lia,_,em, .cons iV hx (.nil x)]) b2 ?_;cases t6 with
    |nx ai=>exact λtO H3 U3 I3 s3=>#[U3,ai,I3,s3,fo]
    |ct ai=>exact λtO H3 U3 I3 s3=>#[U3,ai,I3,s3,fo]
    |bk ai=>cases fo;exact λtO H3 U3 I3 s3=>hk tO H3 U3 I3 (st.trans s3)
    |rt d ai=>cases fo;exact λv tO H3 U3 I3 s3=>hk v tO H3 U3 I3 (st.trans s3)
   .lk
  .lk
 .left;rw[show k - j=0 by lia,aoS]at fo
  split at fo
  .next cs hd=>
   let hr em vs iV hl:=Ix.Rn hm ha hd
   split at fo
   .next aby=>
    cases fo;exact#[#[vs,gN.of iV,by lia],hk dg H' U' Ix st]
   .lk
  .lk
def IJ(r m:Nat):Fl->Fl
 |.nx ρ=> .nx (qE r m ρ)
 |.rt d ρ=> .rt d (qE r m ρ)
 |.bk ρ=> .bk (qE r m ρ)
 |.ct ρ=> .ct (qE r m ρ)
theorem qu.close(hm:n + -hv=m)(hr:r < n)(k:qu K n H U hv τv τd E (IJ r m fl)):qu K n H U (hv++ [!v]) τv τd E fl:=by
 have key:∀{dg H' U' ρ'} {IK:oH V} {IL:oH D},aj K n H' U' dg (hv++ [!v]) ρ' IK IL->aj K n H' U' dg hv (qE r m ρ') IK IL:=λ{dg H' U' ρ'} {IK IL} I=>I.cls (by
  have l:=I.len;have nn:=I.nn;rw[eO,pw]at l
  lia) b_
 cases fl with
 |nx ρ=>exact λdg H' U' I s=>k dg H' U' (key I) s
 |rt d ρ=>exact λv dg H' U' I s=>k v dg H' U' (key I) s
 |bk ρ=>exact λdg H' U' I s=>k dg H' U' (key I) s
 |ct ρ=>exact λdg H' U' I s=>k dg H' U' (key I) s
def axp(n r i:Nat)(fb:En->oT Fl)(ρ:En):oT Fl:=match ρ[r]? with
 |some (!.own (.nd .lst cs))=>(aoS i (-ρ) fb (-cs) 0 (ap6 r (.nd .lst cs) ρ)).map (IJ r (-ρ))
 |some (!.aB q [])=>if n<=q then match aV ρ q with
  |some (.nd .lst cs)=>aoS i q fb (-cs) 0 ρ
  |_=>oM
  else oM
 |_=>(axc (aT r) ρ).bind λds=>eB (λd ρ=>oF (bq i (.ro d) ρ)) fb ds ρ
instance (priority:=2000) aHX{r i:Nat}{tb:TS}{fb:En->oT Fl}[R:jC r n][L:jC i n][B':SS K n tb fb]:SS K n (xv (vV K (nE r)) (lB i) tb) (axp n r i fb):=#[λ{σ hv H U ρ τv τd fl E} I h k=>by
 rw[axp]at h
 split at h
 .next cs hs=>
  let t6 h1 rfl:=aY.mp h;let v ev I2:=I.aCh hs R.h;have l:=I.len;have nn:=I.nn;let v' F ij _ sv:=I.slot hs;rw[aU (by have:=R.h;lia),ev]at ij;cases ij;have sv:bg K H F v (.nd .lst cs):=sv;let a vs e _ hc hl _:=(bg.vw sv).node;cases e;refine#[_,ev, .inl #[a,rfl,#[vs,gN.of hc.2], ?_]];exact Ro I2 (m:=-ρ) b_ (by rw[br b_,show -ρ - n - -hv=0 by lia];rfl) h1 (qu.close b_ R.h k)
 .next q hs=>
  split at h
  .next hq=>
   split at h
   .next cs hd=>
    have l:=I.len;have nn:=I.nn;have xS:q < -ρ:=(cX.mp (L3 hd)).1;let v F ev _ sv:=I.slot hs;obtain⟨_,vr,er,hp⟩:=sv;cases hp;let v' F' ij _ auc:=I.slot (L3 hd);rw[er]at ij;cases ij;have auc:bg K H F' v (.nd .lst cs):=auc;let a vs e _ hc hl _:=(bg.vw auc).node;cases e;rw[aU (by have:=R.h;lia)]at ev;rw[br b_,nn]at er;exact#[_,ev, .inl #[a,rfl,#[vs,gN.of hc.2],Ro I hq er h k]]
   .lk
  .lk
 .exact(aaX (A:=aBX) (G:=akl) (B':=B')).s I h k]
end
section
variable {K:ah}{n:Nat}{H H' H1 H2:Hp}{U U':zI->Prop}{σ hv:oH (oT V)}{ρ ρ':En}{τv vs:oH V}{τd ds:oH D}{v y:V}{d:D}{N:zI->Prop}
theorem gF.snoc(h:gF K H N us es)(w:Vw K H N v d):gF K H N (us++ [v]) (es++ [d]):=by
 refine#[by simp[h.1],λi x y hx hy=> ?_];by_cases c:i < -us
 .rw[aU c]at hx;rw[aU (by rw[<- h.1];lk)]at hy;exact h.2 i x y hx hy
 .have hi:i < -(us++ [v]):=(cX.mp hx).1;rw[eO,pw]at hi;have e:i=-us:=b_
  subst e;rw[br (bO _),kj]at hx;rw[br (h.1^^bO _),h.1,kj]at hy;cases hx;cases hy;lk
def ap7(ρ:En)(j:Nat):oT B:=match ρ[j]? with
 |some (!.ro d)=>oF (.ro d)
 |_=>(af j ρ).bind λd=>if plain d=oP then oF (.ro d) else oM
def alK(n:Nat)(js:oH (oT Nat))(ρ:En):En:=js.map λo=>o.bind λj=>if j < n then ap7 ρ j else oM
theorem aud{js:oH (oT Nat)}{i:Nat}{β:B}(h:(alK n js ρ)[i]?\!β):∃j,js[i]?\!j/\j < n/\ap7 ρ j\β:=by
 rw[alK]at h;rw[bJ]at h;cases e:js[i]? with
 |none=>rw[e]at h;lk
 |some o=>
  rw[e]at h;have h:(o.bind λj=>if j < n then ap7 ρ j else oM)\β:=IM h;cases o with
  |none=>lk
  |some j=>
   have h:(if j < n then ap7 ρ j else oM)\β:=h;by_cases c:j < n
   .rw[zJ c]at h;exact#[j,rfl,c,h]
   .rw[zK c]at h;lk
theorem axq(h:ap7 ρ j\β):∃d,β= .ro d/\(ρ[j]?\!.ro d\/(af j ρ\d/\plain d=oP)):=by
 rw[ap7]at h
 split at h
 .next d e=>cases h;exact#[d,rfl, .inl e]
 .let d h1 h2:=i_ h;by_cases c:plain d=oP
  .rw[zJ c]at h2;cases h2;exact#[d,rfl, .inr #[h1,c]]
  .rw[zK c]at h2;lk
theorem aCj{js:oH (oT Nat)}(I:aj K n H U σ hv ρ τv τd):aj K (-js) H U (jv js σ) [] (alK n js ρ) [] []:=by
 refine#[#[by rw[jv,alK];simp,I.ok.mu,λ_ _=>False,λ_ _ _ z=>z.elim,λ_ _ z=>z.elim,λi β aw=> ?_],by rw[jv,alK];simp,by rw[jv];simp];rw[jQ,nM]at aw;rw[jQ,nM,nM];let j e c hb:=aud aw;let d rfl hd:=axq hb;have key:∃v,σ[j]?\!v/\Vw K H (λb=>¬ U b) v d:=by
  rcases hd with hd | ⟨hd,pl⟩
  .let v F ev _ sv:=I.slot hd;rw[I.name c]at ev;exact#[v,ev,sv]
  .have:jC j n:=#[c]
   have k:nE j σ H λv H'=>Vw K H' T1 v d:=(inferInstance:SV K n (nE j) (af j)).s I hd λv H' _ w=>w;let v ev w:=k;exact#[v,ev,(ou.plain w pl).out I.ok.mu]
 let v ev vw:=key;refine#[v, ?_,vw];rw[jv];rw[bJ,e];show oF ((σ[j]?).join)\!v;rw[ev];rfl
noncomputable def aol (fg:D->En->oT En) (ft:En->oT Bool) (fe:En->oT Pl) (ρ0:En):oH D->oT (oH D)
 | []=>oF []
 |d::ds=>(fg d ρ0).bind λρ1=>(ft ρ1).bind λb=>if b=oP then(fe ρ1).bind λ
  |.ro y=>(aol fg ft fe ρ0 ds).map (y:: ·)
  |.rt _ _=>oM else aol fg ft fe ρ0 ds
open Classical in
noncomputable def asr (n:Nat) (js:oH (oT Nat)) (is:oH Nat) (fi:En->oT (oH D)) (fg:D->En->oT En) (ft:En->oT Bool) (fe:En->oT Pl) (ρ:En):oT Pl:=(fi ρ).bind λds=>
 if -ds<=aM/\is.all (λi=>js[i]? == oF oM)=oP/\bI ds=oP then(aol fg ft fe (alK n js ρ) ds).map λes=> .ro (.nd .lst es) else oM
theorem aCk{wi:TI}{g:TG}{tt:TT}{te:TE}{js:oH (oT Nat)}{is:oH Nat}{m:Nat}{fi:En->oT (oH D)}{fg:D->En->oT En}{ft:En->oT Bool}{fe:En->oT Pl}(hm:vW js m)
  (A:SI K n wi fi) (G:SG K m g fg is) (T:kq K m tt ft) (Q':SP K m te fe):SP K n (xH wi g tt te js) (asr n js is fi fg ft fe):=#[λ{σ hv H U ρ τv τd q Q} I h k=>by
 have hm:=hm.h;subst hm;let ds h1 h:=i_ h;by_cases c:-ds<=aM/\is.all (λi=>js[i]? == oF oM)=oP/\bI ds=oP
 .rw[zJ c]at h;let es h2 h:=aY.mp h;subst h;refine A.s I h1 λJ H1 s1 wk=>?_;have I1:=aCj (js:=js) (I.same s1);have aaW:∀i∈is,∀β,(alK n js ρ)[i]?≠oF (!β):=λi hi β z=>by
   have:=gA.mp c.2.1 i hi;have e:js[i]?\oM:=by simpa using this
   let j e2 _:=aud z;rw[e]at e2;cases e2
  have vq:∀(j:Nat) (β:B),(alK n js ρ)[j]?\!β->∀r p,β≠ .aB r p:=λj β z r p e=>by
   obtain⟨_,_,_,hb⟩:=aud z;let d rfl _:=axq hb;lk
  refine#[λi m dg ys H'=>m=-ds - i/\i<=-ds/\aJ H1 H'/\aj K (-js) H' U dg [] (alK n js ρ) [] []/\-ys<=i/\∃ea eb,es=ea++eb/\gF K H' (λb=>¬ U b) ys ea/\aol fg ft fe (alK n js ρ) (ds.drop i)\eb,#[-ds,by simp,jO _,aJ.refl _,I1,bO _, [],es,rfl,#[rfl,λi v d a b=>by lk],h2], ?_];rintro i m dg ys H' ⟨rfl,hi,sx,Ix,hy,ea,eb,rfl,ow,cd⟩;by_cases dS:i < -ds
  .right;have hd:ds[i]?\ds[i]:=dH dS;let go yl:=(wk H' sx).2 i _ hd;rw[Cr dS]at cd;rw[aol]at cd;let ρ1 b1 cd:=i_ cd;let b b2 cd:=i_ cd;refine#[go,λsm zs H2=>aJ H1 H2/\aj K (-js) H2 U sm [] (alK n js ρ) [] []/\-zs<=i + 1/\∃fa fb,ea++eb=fa++fb/\gF K H2 (λb=>¬ U b) zs fa/\aol fg ft fe (alK n js ρ) (ds.drop (i + 1))\fb,λsm zs H2 #[a1,a2,a3,a4]=>#[by lia,_,atx _ _ dS,rfl,dS,a1,a2,a3,a4],λx H2 y2=> ?_];let s2 w2:=yl x H2 y2;have axr:=Ix.same s2;refine G.s axr ((ou.plain (w2.mono λ_ _=>trivial) (xW c.2.2 hd)).out axr.ok.mu) b1 λsm I2=>?_;have back:∀{H3:Hp},aJ H2 H3->aj K (-js) H3 U sm [] (alK n js ρ) [] []:=λ{H3} s3=>by
    refine(I2.same s3).weaken (G.len b1).symm λj β q=> ?_;by_cases hj:j∈is
    .exact absurd q (aaW j hj β)
    .exact G.keep b1 hj (vq j β q) q
   refine T.s I2 b2 λH4 s4=>?_;cases b with
   |true=>
    rw[zJ rfl]at cd |-;let y b3 cd:=i_ cd;cases y with
    |rt _ _=>lk
    |ro y=>
     let fb b4 cd:=aY.mp cd;subst cd;refine Q'.s (I2.same s4) b3 λv H5 s5 o=>#[sx.trans (s2.trans (s4.trans s5)),back (s4.trans s5),by simp;lia,ea++ [y],fb,by simp, ?_,b4]
     exact(ow.same (s2.trans (s4.trans s5))).snoc o
   |false=>
    rw[zK df]at cd |-;exact#[sx.trans (s2.trans s4),back s4,by lia,ea,eb,rfl,ow.same (s2.trans s4),cd]
  .left;have e:i=-ds:=b_
   subst e;rw[FR,aol]at cd;cases cd;rw[nM]at k;refine#[(wk H' sx).1,λD hD=> ?_];have s9:=fE hD (.lst ys);have o9:=ow.same s9;refine k _ _ ((s1.trans sx).trans s9) (show Vw K _ (λb=>¬ U b) (.ref D) (.nd .lst ea) from .nd (λ_ u=> ?_) #[trivial,uB] o9.1 o9.2);have:=Ix.ok.mu D u;rw[hD]at this;lk
 .rw[zK c]at h;lk]
theorem aue{G:oH D->oT D}{d:D}(k:∀v H',aJ H0 H'->Vw K H' N v d->Q v H'):∀(ds:oH D) (vs:oH V) (b:V) (bd:D) (p:zI) (q:Int×Int) (H1:Hp),aJ H0 H1->H1 a\.lst xs->gF K H1 N vs ds->
  Vw K H1 N b bd->cE K H1 p [.int q.1, .int q.2]->alB G ds bd q\d->aps K (cL K 1 G) a xs Q vs (!(b, .ref p)) H1
 | [],vs,b,bd,p,q,H1,s1,ha,w,wb,hp,h=>by
  cases vs with
  |cons _ _=>cases w.1
  |nil=>cases h;exact k _ _ s1 wb
 |d'::ds,vs,b,bd,p,q,H1,s1,ha,w,wb,hp,h=>by
  cases vs with
  |nil=>cases w.1
  |cons v vs=>
   rw[alB]at h;let e h1 h:=i_ h;let kk h2 h:=i_ h;have wv:Vw K H1 N v d':=w.2 0 v d' rfl rfl;have wr:gF K H1 N vs ds:=#[by have:=w.1;simpa using this,λi x y hx hy=>w.2 (i + 1) x y (by simpa using hx) (by simpa using hy)]
   refine#[[d'],e,rfl,#[rfl,λi x y hx hy=> ?_],h1,λkv H2 s2 o=>#[s2 _ _ ha, ?_]]
   .cases i with
    |zero=>cases hx;cases hy;exact wv.any
    |succ i=>simp at hx
   .let p2 rfl G0:=apZ o.vw h2;have aqT:=s1.trans s2;have iK:=s2 _ _ ha;have aqU:=wr.same s2;have hq:=(gu.of s2).axa hp;refine#[_,#[p2,p,_,_,_,_,rfl,rfl,G0,hq,rfl], ?_];cases c:alI kk.1 kk.2 q.1 q.2 with
    |true=>
     rw[c,zJ rfl]at h;exact aue k ds vs v d' p2 kk H2 aqT iK aqU (wv.same s2) G0 h
    |false=>
     rw[c,zK df]at h;exact aue k ds vs b bd p q H2 aqT iK aqU (wb.same s2) hq h
def ass(G:oH D->oT D):Pl->oT Pl
 |.ro (.nd .lst (d::ds))=>(G [d]).bind λe=>(ao8 e).bind λk=>(alB G ds d k).map .ro
 |_=>oM
instance (priority:=2000) aHY{G':oH D->oT D}{wi:TI}{g:TG}{tt:TT}{te:TE}{js:oH (oT Nat)}{is:oH Nat}{m:Nat}{fi:En->oT (oH D)}{fg:D->En->oT En}{ft:En->oT Bool}{fe:En->oT Pl}[hm:vW js m]
  [A:SI K n wi fi] [G:SG K m g fg is] [T:kq K m tt ft] [Q':SP K m te fe]:SP K n (at4 K (cL K 1 G') (di (xH wi g tt te js) fz)) (λρ=>(asr n js is fi fg ft fe ρ).bind (ass G')):=#[λ{σ hv H U ρ τv τd q Q} I h k=>by
 let x h1 h2:=i_ h;refine(aCk hm A G T Q').s I h1 λv H1 s1 w=> ?_;unfold ass at h2
 split at h2
 .next d' ds=>
  let e h3 h2:=i_ h2;let kk h4 h2:=i_ h2;let d9 h5 h2:=aY.mp h2;subst h2;have w:Vw K H1 (λb=>¬ U b) v (.nd .lst (d'::ds)):=w;let a us rfl _ hc hl bB:=w.node;have vl:gF K H1 (λb=>¬ U b) us (d'::ds):=#[hl,bB]
  have jV:H1 a\.lst us:=hc.2;refine#[a,us,rfl,jV, ?_];cases us with
  |nil=>cases vl.1
  |cons v vs=>
   have wv:Vw K H1 (λb=>¬ U b) v d':=vl.2 0 v d' rfl rfl;have wr:gF K H1 (λb=>¬ U b) vs ds:=#[by have:=vl.1;simpa using this,λi x y hx hy=>vl.2 (i + 1) x y (by simpa using hx) (by simpa using hy)]
   refine#[[d'],e,rfl,#[rfl,λi x y hx hy=> ?_],h3,λkv H2 s2 o=>#[s2 _ _ jV, ?_]]
   .cases i with
    |zero=>cases hx;cases hy;exact wv.any
    |succ i=>simp at hx
   .let p2 rfl G0:=apZ o.vw h4;exact aue (N:=λb=>¬ U b) (d:=d9) (λv H' s9 w9=>k v H' (s1.trans s9) w9) ds vs v d' p2 kk H2 s2 (s2 _ _ jV) (wr.same s2) (wv.same s2) G0 h5
 .lk]
end
open PySem.W
section
variable {K:ah}{n:Nat}{H H' H1 H2:Hp}{U U':zI->Prop}{σ hv:oH (oT V)}{ρ ρ':En}{τv vs:oH V}{τd ds:oH D}{d:D}{E:ke}
end
noncomputable def arh (v:zI) (j:Int):HO:= .ext λh=>∃t u w,IsRange h v 0 j 1 t u w
def auf:oH V->Hp->VK->Prop:=λxs H Q=>∃j:Int,xs= [.int j]/\∀v,H v=oM->Q (.ref v) (dm H v (arh v j))
noncomputable def yw (m:Nat):oH V:=(kf m).map λ(i:Nat)=> .int (0 + i)
def auh:oH V->Hp->VK->Prop:=λxs H Q=>∃v j,xs= [.ref v]/\H v\arh v j/\0<=j/\j<=2 ^ 20/\∀l,H l=oM->Q (.ref l) (dm H l (.lst (yw j.toNat)))
section
theorem aCl:fT X (.type "range") auf:=by
 intro ab s σ H xs us Q I r h;let j rfl q:=h;let u rfl t rfl:=vals1 r;have ao6:(s.heap.push { cls:= .type "range",data:= .fields (List.toArray [.int 0 s.toks, .int j t, .int 1 (s.toks + 1)]) }).get? s.heap.objs.size=oF { cls:= .type "range",data:= .fields (List.toArray [.int 0 s.toks, .int j t, .int 1 (s.toks + 1)]) }:=gc _ rfl;refine call_range_1 #[.ref s.heap.objs.size,_,I.laid (t':=s.toks + 1 + 1) (o:=arh s.heap.objs.size j) (λ_ _ q=>cB _ q) (bO _) #[#[_,_,_,ao6],#[_,ao6],λh1 h2 f k=> ?_],rfl,q _ I.fresh];let t u w e:=f;exact#[t,u,w,k _ e]
theorem aCm(hc:X.calm=oP):fT X (.type "list") auh:=by
 intro ab s σ H xs us Q I r h;let v j rfl ev h1 h2 q:=h;let u rfl rx:=vals1 r;cases rx;obtain⟨t,u,w,hr⟩:∃t u w,IsRange s.heap v 0 j 1 t u w:=(I.aQ v _ ev).1;refine call_list_range (n:=j.toNat) (I.ok.hd hc) hr (small_one b_ b_ b_ b_) (by rw[rangeSize_one];split <;> lia) b_ λh' tk ll c kp hg iY=> ?_;have hl:-(yw j.toNat)=j.toNat:=by rw[yw];simp
 have hv:bj (yw j.toNat) ll.toList:=Du (by rw[xc,iY.1,hl]) λi x y e1 e2=>by
  let t ht:=iY.2 i y (by rw[<- VR];lk);have hi:i < j.toNat:=by rw[<- hl];exact(cX.mp e1).1
  rw[yw]at e1;rw[bJ,V6 hi]at e1;cases e1;subst ht;exact#[t,by simp]
 have hz:(aM:Nat)=2 ^ 24:=mG;refine#[.ref s.heap.objs.size,_,I.laid (t':=tk) kp (bO _) (show va X.prog X.w _ h' _ (.lst (yw j.toNat)) from#[by rw[hl];lia,ll.toList,c,hv, ?_]),rfl,q _ I.fresh];rw[V0];lk
variable {K:ah}{n:Nat}{H H':Hp}
def ari:oH D->oT D
 | [.sc (.int j)]=>if 0<=j/\j<=2 ^ 20 then oF (.nd .lst (iQ 0 j.toNat)) else oM
 |_=>oM
instance (priority:=2000) aHZ{t:TA}{f:En->oT (oH D)}[A:SA K n t f]:SF K n (jU auh (di (jU auf t) fz)) (λρ=>(f ρ).bind ari):=#[λ{σ hv H U ρ τv τd d Q} I h k=>by
 let x h1 h2:=i_ h;refine A.s I h1 λvs H1 s1 w=>?_;unfold ari at h2
 split at h2
 .next j=>
  by_cases c:0<=j/\j<=2 ^ 20
  .rw[zJ c]at h2;cases h2;let v rfl w1:=w.one;have ev:v= .int j:=w1.bA;subst ev;refine#[j,rfl,λvw mC=>#[vw,j,rfl,uB,c.1,c.2,λl oz=> ?_]];have s2:=fE mC (arh vw j);have vl:gF K (dm H1 vw (arh vw j)) T1 (yw j.toNat) (iQ 0 j.toNat):=#[by rw[yw,iQ];simp,λi x y e1 e2=>by
    rw[yw]at e1;rw[iQ]at e2;rw[bJ]at e1 e2;cases q:(kf j.toNat)[i]? with
    |none=>rw[q]at e1;lk
    |some z=>rw[q]at e1 e2;cases e1;cases e2;exact .sc _]
   have pl:bI (iQ 0 j.toNat)=oP:=by
    rw[iQ]
    induction (kf j.toNat) with
    |nil=>rfl
    |cons a r ih=>rw[cP,bI,ih];rfl
   exact k _ _ (s1.trans (s2.trans (fE oz _))) ((vl.own (k:= .lst) pl oz (.inr #[rfl,trivial,0,rfl])).early (s1.trans s2))
  .rw[zK c]at h2;lk
 .lk]
instance (priority:=4000) akX{i:Nat}[L:jC i n]:SS K n (qi (nE i)) (jg (kr i)):=@aak K n _ _ aaj
variable {H1 H2:Hp}{U U':zI->Prop}{σ hv:oH (oT V)}{ρ ρ':En}{τv vs:oH V}{τd ds:oH D}{v y:V}{d d1:D}{E:ke}
end
section
variable {K:ah}{n:Nat}{C:zI}{m:Str}{E:XK}
end
theorem asu{fg:D->En->oT En}{Q:Fl->Prop}(P:Nat->En->Prop)(st:∀j:Nat,j < N->∀ρ,P j ρ->∃ρ1,fg (iD (j:Int)) ρ\ρ1/\Ev fb ρ1 λfl=>match fl with | .nx ai=>P (j + 1) ai | .ct ai=>P (j + 1) ai | .bk ai=>Q (.nx ai) | .rt d ai=>Q (.rt d ai))
  (hd:∀ρ,P N ρ->Q (.nx ρ)):∀(k i:Nat) (ρ:En),i + k=N->P i ρ->∃fl,eB fg fb ((List.range' i k).map λi:Nat=>iD (i:Int)) ρ\fl/\Q fl
 |0,i,ρ,hN,p=>#[_,rfl,hd ρ (by rw[<- hN];lk)]
 |k + 1,i,ρ,hN,p=>by
  let ρ1 e1 fl e2 h:=st i b_ ρ p;rw[List.range'_succ,cP,eB,e1];show ∃fl,(fb ρ1).bind _\fl/\Q fl;rw[e2];cases fl with
  |nx ai=>exact asu P st hd k (i + 1) ai b_ h
  |ct ai=>exact asu P st hd k (i + 1) ai b_ h
  |bk ai=>exact#[_,rfl,h]
  |rt d ai=>exact#[_,rfl,h]
theorem abA(m:Nat):iQ 0 m=(List.range' 0 m).map λi:Nat=>iD (i:Int):=by rw[Ri,List.range_eq_range']
theorem Ev.aui{fi:En->oT (oH D)}{fg:D->En->oT En}{fb:En->oT Fl}{Q:Fl->Prop}(hi:fi ρ\iQ 0 m)(P:Nat->En->Prop)(h0:P 0 ρ)
  (st:∀j:Nat,j < m->∀ρ,P j ρ->∃ρ1,fg (iD (j:Int)) ρ\ρ1/\Ev fb ρ1 λfl=>match fl with | .nx ai=>P (j + 1) ai | .ct ai=>P (j + 1) ai | .bk ai=>Q (.nx ai) | .rt d ai=>Q (.rt d ai)) (hd:∀ρ,P m ρ->Q (.nx ρ)):
  Ev (λρ=>(fi ρ).bind λds=>eB fg fb ds ρ) ρ Q:=by
 show ∃fl,(fi ρ).bind _\fl/\Q fl;rw[hi];show ∃fl,eB fg fb (iQ 0 m) ρ\fl/\Q fl;rw[abA];exact asu P st hd m 0 ρ b_ h0
theorem eW(h:f ρ\(d,ρ1))(e:bq i (.own d) ρ1=ai):dU i f ρ\.nx ai:=by
 rw[dU];rw[h, <- e];rfl
theorem abC:fO ρ (!.aB r p)=if p= []\/((aV ρ r).bind (aa · p)).isSome=oP then oF (.aB r p) else oM:=rfl
theorem mB(h:fc ρ\(c,ρ1))(hr:(if c=oP then a ρ1 else b ρ1)=r):gv fc a b ρ=r:=by
 rw[gv];rw[h];lk
theorem j7(h1:fa ρ\(a,ρ1))(h2:fb ρ1\(b,ai))(h3:g a b\d):hZ g fa fb ρ\(d,ai):=by
 rw[hZ];rw[h1];show(fb ρ1).bind _=_;rw[h2];show(g a b).map _=_;rw[h3];rfl
theorem IP(h:f ρ\(.sc (.bl b),ρ1)):ku f ρ\(b,ρ1):=by
 rw[ku];rw[h];rfl
theorem Ev.axs{fa:En->oT (oH D×En)}{fg:D->En->oT En}{fb:En->oT Fl}{Q:Fl->Prop}(h1:fa ρ\(as,ρ0))(h2:tZ as\iQ 0 m)(P:Nat->En->Prop)(h0:P 0 ρ0)
  (st:∀j:Nat,j < m->∀ρ,P j ρ->∃ρ1,fg (iD (j:Int)) ρ\ρ1/\Ev fb ρ1 λfl=>match fl with | .nx ai=>P (j + 1) ai | .ct ai=>P (j + 1) ai | .bk ai=>Q (.nx ai) | .rt d ai=>Q (.rt d ai)) (hd:∀ρ,P m ρ->Q (.nx ρ)):
  Ev (VL.ar8 fa fg fb) ρ Q:=by
 rw[Ev,VL.ar8];rw[h1];show ∃fl,(tZ as).bind _\fl/\Q fl;rw[h2];show ∃fl,eB fg fb (iQ 0 m) ρ0\fl/\Q fl;rw[abA];exact asu P st hd m 0 ρ0 b_ h0
section
theorem yi(h:Au X pos keys values mi)(rD:keys.all (·.isSome)=oP)(hl:-keys=-values)(h0:keys.isEmpty=yv)(Av:Nat.ble (-keys) 15=oP):PE X (.Dict keys values pos) (tJ mi):=
 aw7 h rD hl (λz=>by rw[z]at h0;lk) (cq Av)
end
theorem Rp:∀(ks:oH bc) (vs:oH V) (ll:oH (bc×V)),ks.Nodup->(∀k∈ks,∀p∈ll,p.1≠k)->pF ll (ks.zip vs)=ll++ks.zip vs
 | [],vs,ll,_,_=>by simp[pF]
 |k::ks, [],ll,_,_=>by simp[pF]
 |k::ks,v::vs,ll,hn,hd=>by
  let h1 h2:=jP.mp hn;have e:i8 ll k v=ll++ [(k,v)]:=by
   rw[i8];rw[zK];simp only[List.any_eq_true,decide_eq_true_eq,not_exists,not_and];exact λp hp=>hd k (.head _) p hp
  rw[nV];show pF (i8 ll k v) _=_;rw[e,Rp ks vs _ h2 λk' hk p hp=> ?_]
  .simp
  .rcases lZ.mp hp with h | h
   .exact hd k' (.tail _ hk) p h
   .rw[ly.mp h];exact λz=>h1 (by rw[show k=k' from z];exact hk)
section
variable {K:ah}{n:Nat}
class Ec(K:ah)(n:Nat)(mi:List (TE×TE))(f:outParam (En->Option (List D×List D))):Prop where
 s:∀{σ hv:List (Option V)} {H:Hp} {U:zI->Prop} {ρ:En} {τv:List V} {τd:List D} {p:List D×List D} {Q:List (V×V)->Hp->Prop},aj K n H U σ hv ρ τv τd->f ρ=oF p->(∀xs vs H',aJ H H'->gF K H' T1 xs p.1->jG K H H' vs p.2->xs.length=vs.length->Q (xs.zip vs) H')->De mi σ H Q
instance akY:Ec K n [] (λ_=>oF ([], [])):=#[λI h k=>by cases h;exact k [] [] _ (aJ.refl _) #[rfl,λi v d h=>by simp at h] .nil rfl]
noncomputable def iw (fk fv:En->oT D) (fr:En->oT (oH D×oH D)) (ρ:En):oT (oH D×oH D):=(fk ρ).bind λk=>(fv ρ).bind λv=>(fr ρ).map λr=>(k::r.1,v::r.2)
instance akZ[A:SV K n tk fk][B':SQ K n tv fv][R:Ec K n r fr]:Ec K n ((tk,tv)::r) (iw fk fv fr):=#[λ{σ hv H U ρ τv τd p Q} I h k=>by
 let a ha h:=i_ h;let b hb h:=i_ h;let q hq h:=aY.mp h;subst h;refine A.s I ha λx H1 s1 w1=>B'.o (I.same s1) hb λy H2 s2 o=>R.s ((I.same s1).same s2) hq λxs vs H3 s3 w3 o3 hl=> ?_;refine k (x::xs) _ H3 (s1.trans (s2.trans s3)) #[by rw[p8,p8,w3.1],λi v d hv hd=> ?_] (jG.cons (o.early s1) s3 o3 (s1.trans s2)) (by rw[p8,p8,hl]);cases i with
 |zero=>cases hv;cases hd;exact w1.same (s2.trans s3)
 |succ i=>exact w3.2 i v d (by simpa using hv) (by simpa using hd)]
open Classical in
noncomputable def asv (f:En->oT (oH D×oH D)) (ρ:En):oT D:=(f ρ).bind λp=>(wM p.1).bind λks=>if ks.Nodup/\-ks=-p.2/\-ks<=15 then oF (.nd (.aO ks) p.2) else oM
instance (priority:=900) ak0{mi:oH (TE×TE)}{f:En->oT (oH D×oH D)}[A:Ec K n mi f]:SF K n (tJ mi) (asv f):=#[λ{σ hv H U ρ τv τd d Q} I h k=>by
 obtain⟨⟨kd,ds⟩,h1,h⟩:=i_ h;let ks h2 h:=i_ h;by_cases c:ks.Nodup/\-ks=-ds/\-ks<=15
 .rw[zJ c]at h;cases h;intro p hp;have s0:aJ H (dm H p (.dK [])):=fE hp _;refine A.s (I.same s0) h1 λxs vs H2 s2 w o hl=>?_;have e0:=s2 _ _ uB;have ex:=Ii w.1 w.2 h2;let ol Fs dj fr rp:=o;refine#[e0,ks.zip vs, ?_,by rw[pz];have:=c.2.2;lia, ?_]
  .rw[ex,List.zip_map_left];rfl
  have em:pF [] (ks.zip vs)=ks.zip vs:=by
   rw[Rp ks vs [] c.1 λ_ _ p hp=>nomatch hp];rfl
  rw[em];have sA:aJ H (dm H2 p (.dK (ks.zip vs))):=λb u q=>by
   rw[ba (gM q hp)];exact s2 _ _ (s0 _ _ q)
  refine k _ _ sA ?_;have np:∀i,¬ Fs i p:=λi z=>by have q:=(fr i p z).1;rw[uB]at q;lk
  refine#[λb=>(∃i,Fs i b)\/b=p, .nd Fs #[.inr rfl,rfl,by show -ks=-vs;rw[ol];exact c.2.1,0,uB] ol dj (λi b hb=>#[.inl #[i,hb],λ_ z=>by rw[z]at hb;exact np i hb]) λi u e hu he=> ?_,λb hb=> ?_]
  .refine(rp i u e hu he).frame (λb o hb q=> ?_) (vP (by rw[e0];trivial));rw[ba λz=>by rw[z]at hb;exact np i hb];lk
  .rcases hb with⟨i,z⟩ | z
   .refine#[s0.free (fr i b z).1, ?_];rw[ba λw=>by rw[w]at z;exact np i z];exact(fr i b z).2
   .rw[z];exact#[hp,by rw[uB];trivial]
 .rw[zK c]at h;lk]
variable {H H' H1 H2:Hp}{U U':zI->Prop}{σ hv:oH (oT V)}{ρ ρ':En}{τv vs:oH V}{τd ds:oH D}{v y:V}{d:D}
theorem aj.aB(I:aj K n H U σ hv ρ τv τd)(w:wq K H U (σ++hv) ρ v (.rt r p)):aj K n H U σ (hv++ [!v]) (ρ++ [!.aB r p]) τv τd:=by
 let iN vr d0 er aoC _ hp:=w;have hM:=I.hM;refine#[?_,by rw[eO,eO, <- aty,I.len];rfl,I.nn];rw[asq,eO,pw];refine I.ok.re (insI (-ρ) 0) (·≠-ρ) (aua I.ok.len) (λi j=>at8) λj γ qA=>?_;by_cases cj:j=-ρ
 .subst cj;rw[aok rfl]at qA;cases qA;exact .inr #[r,p,v,vr,rfl,Ck iN,aok hM,(aoR (C:= []) hM iN).trans (nM^^er),hp]
 .rw[ap5 (r:=0) rfl cj]at qA;exact .inl #[cj,qA,ap5 hM cj,λq _ hq=>#[Ck hq,aoR hM hq]]
theorem aj.dv(I:aj K n H U σ hv ρ τv τd)(h:af i ρ\d):∃v,(σ++hv)[i]?\!v/\Vw K H T1 v d:=by
 let o h1 h2:=i_ h;cases o with
 |none=>lk
 |some β=>
  let v F ev sub sv:=I.slot h1;refine#[v,ev, ?_];cases β with
  |own d'=>cases h2;exact bg.vw sv
  |ro d'=>cases h2;exact Vw.any sv
  |aB r p=>
   let d0 hr g:=i_ h2;obtain⟨_,vr,er,hp⟩:=sv;let v' F' ij _ rp:=I.AM hr;rw[er]at ij;cases ij;exact rp.sub g hp λ_ _=>trivial
def arj(x y:D):oT D:=match y with
 |.sc (.int i)=>oS x (!i) oM
 |_=>oM
def auj(fp:En->oT Pl)(fb:En->oT (D×En))(ρ:En):oT (D×En):=(fp ρ).bind λ
 |.rt r p=>(fb (ρ++ [!.aB r p])).bind λa=>(af (-ρ) a.2).bind λx=>(arj x a.1).bind λd=>if -a.2=-ρ + 1 then oF (d,qE 0 (-ρ) a.2) else oM
 |.ro _=>oM
instance (priority:=60) aH0{te tb:TE}{fp:En->oT Pl}{fb:En->oT (D×En)}[L:jC 0 n][P:SP K n te fp][B':SM K n tb fb]:SM K n (CY (oR K) te (rm tb) ar2) (auj fp fb):=#[λ{σ hv H U ρ ρ' τv τd d Q} I h k=>by
 let q h1 h:=i_ h;cases q with
 |ro _=>lk
 |rt r p=>
  obtain⟨⟨e,ai⟩,h2,h⟩:=i_ h;let x h3 h:=i_ h;let d1 h4 h:=i_ h;have h:(if -ai=-ρ + 1 then oF (d1,qE 0 (-ρ) ai) else oM)\(d,ρ'):=h;by_cases cl:-ai=-ρ + 1
  .rw[zJ cl]at h;cases h;refine P.s I h1 λv H1 s1 w1=>?_;have l:=I.len;have nn:=I.nn;have I1:=(I.same s1).aB w1;refine B'.s I1 h2 λy H2 U2 I2 dJ=>?_;have I3:=I2.qw;let v' ev wv:=I3.dv h3;have dE:(σ++(hv++ [!v]))[ρ.length]?\!v:=by
    rw[<- b8,br (by rw[eO];lia),eO,show -ρ - (-σ + -hv)=0 by lia];rfl
   rw[dE]at ev;cases ev;unfold arj at h4
   split at h4
   .next i he=>
    have he:e= .sc (.int i):=he;subst he;refine#[i,I2.last.bA, ?_];refine Q5 wv h4 λz H4 s4 o=>?_;let U4 I4 g8:=I3.push s4 o;have aCn:bH U H U H1:=λb o q nu=>#[s1 b o q,nu]
    exact k z H4 U4 (I4.cls cl (by have:=L.h;lia)) (aCn.trans (dJ.trans g8))
   .lk
  .rw[zK cl]at h;lk]
end
inductive Ex:Nat->D->Prop
 |int (n:Nat) (i:Int):Ex n (.sc (.int i))
 |str (n:Nat) (s:Str):fD s=oP->Ex n (.sc (.str s))
 |aG (n:Nat):Ex n (.sc .aG)
 |tup (n:Nat) (cs:List D):(∀d∈cs,Ex n d)->Ex (n + 1) (.nd .tup cs)
 |lst (n:Nat) (cs:List D):(∀d∈cs,Ex n d)->Ex (n + 1) (.nd .lst cs)
theorem Rq(h:∀d∈cs,Gd n d):mz n cs:=mz.all h
theorem Ex.gd(h:Ex n d):Gd n d:=by
 induction h with
 |int n i=>exact(Gd.int i).mono (jO _)
 |str n s hs=>exact(Gd.str s hs).mono (jO _)
 |aG n=>exact#[.none,by simp[cy],by simp[sO],by simp[sP],by simp[q9]]
 |tup n cs _ ih=>exact(Rq ih).tup
 |lst n cs _ ih=>exact(Rq ih).lst
theorem IQ:∀{cs ds:oH D} {xs ys:oH PyData},(∀d∈cs,∀(b:D) (x y:PyData),b∈ds->cy d\x->cy b\y->q9 x y=oP->d=b)->ky cs\xs->ky ds\ys->zu xs ys=oP->cs=ds
 | [], [],_,_,_,_,_,_=>rfl
 | [],d::ds,xs,ys,_,h1,h2,h=>by
  simp[ky,aiH]at h1;rw[ky]at h2;subst h1;let y _ h2:=i_ h2;let Rr _ rfl:=aY.mp h2;simp[zu]at h
 |c::cs, [],xs,ys,_,h1,h2,h=>by
  simp[ky,aiH]at h2;rw[ky]at h1;subst h2;let y _ h1:=i_ h1;let Rr _ rfl:=aY.mp h1;simp[zu]at h
 |c::cs,d::ds,xs,ys,hk,h1,h2,h=>by
  rw[ky]at h1 h2;let x a1 h1:=i_ h1;let ak1 a2 rfl:=aY.mp h1;let y b1 h2:=i_ h2;let Rr b2 rfl:=aY.mp h2;rw[zu,kM]at h;rw[hk c (.head _) d x y (.head _) a1 b1 h.1,IQ (λe he b x y hb=>hk e (.tail _ he) b x y (.tail _ hb)) a2 b2 h.2]
theorem Ex.eqv(ha:Ex n a):∀{m:Nat} {b:D} {x y:PyData},Ex m b->cy a\x->cy b\y->q9 x y=oP->a=b:=by
 induction ha with
 |int n i=>
  intro m b x y hb h1 h2 h;rw[cy]at h1;cases h1;cases hb with
  |int n j=>rw[cy]at h2;cases h2;simp[q9]at h;rw[h]
  |str n s hs=>rw[cy]at h2;cases h2;simp[q9]at h
  |aG n=>rw[cy]at h2;cases h2;simp[q9]at h
  |tup n cs hc=>rw[cy]at h2;let ys _ rfl:=aY.mp h2;simp[q9]at h
  |lst n cs hc=>rw[cy]at h2;let ys _ rfl:=aY.mp h2;simp[q9]at h
 |str n s hs=>
  intro m b x y hb h1 h2 h;rw[cy]at h1;cases h1;cases hb with
  |int n j=>rw[cy]at h2;cases h2;simp[q9]at h
  |str n s hs=>rw[cy]at h2;cases h2;simp[q9]at h;rw[h]
  |aG n=>rw[cy]at h2;cases h2;simp[q9]at h
  |tup n cs hc=>rw[cy]at h2;let ys _ rfl:=aY.mp h2;simp[q9]at h
  |lst n cs hc=>rw[cy]at h2;let ys _ rfl:=aY.mp h2;simp[q9]at h
 |aG n=>
  intro m b x y hb h1 h2 h;rw[cy]at h1;cases h1;cases hb with
  |int n j=>rw[cy]at h2;cases h2;simp[q9]at h
  |str n s hs=>rw[cy]at h2;cases h2;simp[q9]at h
  |aG n=>rfl
  |tup n cs hc=>rw[cy]at h2;let ys _ rfl:=aY.mp h2;simp[q9]at h
  |lst n cs hc=>rw[cy]at h2;let ys _ rfl:=aY.mp h2;simp[q9]at h
 |tup n cs _ ih=>
  intro m b x y hb h1 h2 h;rw[cy]at h1;let xs g1 rfl:=aY.mp h1;cases hb with
  |int n j=>rw[cy]at h2;cases h2;simp[q9]at h
  |str n s hs=>rw[cy]at h2;cases h2;simp[q9]at h
  |aG n=>rw[cy]at h2;cases h2;simp[q9]at h
  |tup n ds hc=>
   rw[cy]at h2;let ys g2 rfl:=aY.mp h2;rw[q9]at h;rw[IQ (λd hd b x y hb=>ih d hd (hc b hb)) g1 g2 h]
  |lst n ds hc=>rw[cy]at h2;let ys _ rfl:=aY.mp h2;simp[q9]at h
 |lst n cs _ ih=>
  intro m b x y hb h1 h2 h;rw[cy]at h1;let xs g1 rfl:=aY.mp h1;cases hb with
  |int n j=>rw[cy]at h2;cases h2;simp[q9]at h
  |str n s hs=>rw[cy]at h2;cases h2;simp[q9]at h
  |aG n=>rw[cy]at h2;cases h2;simp[q9]at h
  |lst n ds hc=>
   rw[cy]at h2;let ys g2 rfl:=aY.mp h2;rw[q9]at h;rw[IQ (λd hd b x y hb=>ih d hd (hc b hb)) g1 g2 h]
  |tup n ds hc=>rw[cy]at h2;let ys _ rfl:=aY.mp h2;simp[q9]at h
theorem Ex.eq(ha:Ex n a)(hb:Ex m b)(hn:n<=60)(hm:m<=60)(g:Bool->Bool):∃c:Bool,(c=oP↔a=b)/\dN g a b\.sc (.bl (g c)):=by
 let x x1 x2 x3 x4:=ha.gd;let y y1 y2 y3 y4:=hb.gd;refine#[q9 x y,#[ha.eqv hb x1 y1,λe=> ?_], ?_]
 .subst e;rw[x1]at y1;cases y1;lk
 .rw[dN];rw[x1,y1];show(if _ then _ else _)=_;rw[zJ #[x2,y2,by lia]]
section
variable {σ:L2.St}{H:Hp}{a:zI}
theorem Inv.freeze(I:L2.Inv X ab σ H s)(e:H a\.lst xs):∃o,L2.Inv X ab σ (dm H a (.b9 o (.lst xs))) s:=by
 have aQ:=I.aQ a _ e;let z ag n r ho:=(show va X.prog X.w H s.heap a (.lst xs) from aQ)
 refine#[{ cls:= .type "list",data:= .seq ag.toArray n }, ?_];have ne:∀{b:zI} {u:HO},H b\u->(∀ys,u≠ .lst ys)->b≠a:=λ{b u} hb hu z=>by
  subst z;rw[e]at hb;cases hb;exact hu _ rfl
 have step:=I.step (h':=s.heap) (H':=dm H a (.b9 { cls:= .type "list",data:= .seq ag.toArray n } (.lst xs))) (g':=s.gens) (t':=s.toks) (d':=s.drawn) (ch:= []) (λ_ z=>nomatch z)
  (λb o _ _ _ h _=>h) (λb o _ _ _ h _=>#[o.slots,h]) (λb o _ _ hn=>by rw[ba λz=>by rw[z,e]at hn;lk];exact hn) (λb o _ h=>#[o,h])
  (λb ys h=>ba (ne h λ_ z=>nomatch z)^^h) (λb o u h=>ba (ne h λ_ z=>nomatch z)^^h) (λb ps h=>#[(List.toArray []),[ba (ne h λ_ z=>nomatch z),Array.append_empty]^^h]) (λm h=>h)
  (λb u hb=>by
   by_cases c:b=a
   .subst c;rw[uB]at hb;cases hb;exact#[ho,z,ag,n,r,ho]
   .rw[ba c]at hb;exact(I.aQ b u hb).gO (λ_ _ _ h=>h) (λd h=>ba (ne h λ_ z=>nomatch z)^^h) λd ys h=>ba (ne h λ_ z=>nomatch z)^^h) I.bare
 lk
def ap8(t:TE):TE:=λσ H Q=>t σ H λv H'=>(∃a xs,v= .ref a/\H' a\.lst xs/\∀o,Q v (dm H' a (.b9 o (.lst xs))))\/Q v H'
theorem ahj(he:PE X e t):PE X e (ap8 t):=by
 intro ab s σ H Q I h;refine bh (he ab s σ H _ I h) λu s' #[v,H',I',r,q]=> ?_;rcases q with⟨a,xs,rfl,e,q⟩ | q
 .let o I2:=VL.Inv.freeze I' e;exact#[_,_,I2,r,q o]
 .exact#[_,_,I',r,q]
end
section
variable {K:ah}{H H':Hp}{U:zI->Prop}{m:Nat}{e:oH (oT V)}{ρ:En}
theorem gU.b9{a:zI}{xs:oH V}(ha:H a\.lst xs)(h:gU H v p u):gU (dm H a (.b9 o (.lst xs))) v p u:=by
 induction h with
 |nil v=>exact .nil v
 | @cons b ob n c u p e1 e2 _ ih=>
  by_cases z:b=a
  .subst z;rw[ha]at e1;cases e1;exact .cons uB e2 ih
  .exact .cons (ba z^^e1) e2 ih
theorem bT.freeze(h:bT K H U m e ρ)(hj:ρ[j]?\!.own (.nd .lst cs))(p:bI cs=oP):
  ∃a vs,e[j]?\!.ref a/\H a\.lst vs/\U a/\∀o,bT K (dm H a (.b9 o (.lst vs))) (λb=>U b/\b≠a) m e (ρ.set j (!.own (.nd .dk cs))):=by
 let hl mu Fs dj sub sl:=h;let v ev sv:=sl j _ hj;have abE:j < -ρ:=(cX.mp hj).1;have sv:bg K H (Fs j) v (.nd .lst cs):=sv;have vw:=sv.vw;cases sv with
 | @nd _ a _ vs _ ak2 hold dw ak3 ak4 bB=>
  let Fa _ _ dx ha:=hold;have ha:H a\.lst vs:=ha;refine#[a,vs,ev,ha,sub j a Fa,λo=> ?_];have st:gu H (dm H a (.b9 o (.lst vs))):=vP (by rw[ha];trivial);refine#[bN^^hl,λb hb=>ba hb.2^^mu b hb.1,λi b=>Fs i b/\b≠a,λi k b hi hk=>dj i k b hi.1 hk.1,λi b hb=>#[sub i b hb.1,hb.2],λi β aw=> ?_];by_cases c:j=i
  .subst c;rw[gK abE]at aw;cases aw;refine#[_,ev, .nd (λ_ _=>False) #[p, .inl #[o,uB]] dw (λ_ _ _ z=>z.elim) (λ_ _ z=>z.elim) λi u d hu hd=> ?_];exact((bB i u d hu hd).vw.plain (xW p hd)).frame (λ_ _ z=>z.elim) st
  .rw[gq c]at aw;let w ew sw:=sl i β aw;refine#[w,ew, ?_];have na:∀b,Fs i b->b≠a:=λb z y=>c (dj j i a Fa (by rw[<- y];lk));cases β with
   |own d=>
    have sw:bg K H (Fs i) w d:=sw;exact(sw.frame (λb ob z q=>ba (na b z)^^q) st).mono λb z=>#[z,na b z]
   |ro d=>
    have sw:Vw K H (λb=>¬ U b) w d:=sw;exact(sw.frame (λb ob z q=>by rw[ba λy=>z (y^^sub j a Fa)];exact q) st).mono λb z y=>z y.1
   |aB r q=>
    let x vr er hp:=sw;exact#[x,vr,er,gU.b9 ha hp]
end
section
variable {K:ah}{n:Nat}
def Eg:D->D
 |.nd .lst cs=>if bI cs=oP then .nd .dk cs else .nd .lst cs
 |d=>d
def y7(f:En->oT (D×En))(ρ:En):oT (D×En):=(f ρ).map λr=>(Eg r.1,r.2)
instance aH1[A:SM K n t f]:SM K n (ap8 t) (y7 f):=#[λ{σ hv H U ρ ρ' τv τd d Q} I h k=>by
 obtain⟨⟨d1,ρ1⟩,h1,h2⟩:=aY.mp h;cases h2;refine A.s I h1 λv H1 U1 I1 bQ=>?_;by_cases c:∃cs,d1= .nd .lst cs/\bI cs=oP
 .let cs rfl p:=c
  left;have e:Eg (.nd .lst cs)= .nd .dk cs:=zJ p;have k:∀v H' U',aj K n H' U' σ hv ρ1 (τv++ [v]) (τd++ [.nd .dk cs])->bH U H U' H'->Q v H':=λv H' U'=>by
   have:=k v H' U';rw[show Eg (D.nd .lst cs)= .nd .dk cs from e]at this;lk
  have tl:=I1.tl;have hj:(ρ1++(τd++ [D.nd .lst cs]).map λd=>oF (B.own d))[ρ1.length + -τd]?\!.own (.nd .lst cs):=by
   rw[br b_];simp
  let a vs ev ha ua ok:=bT.freeze I1.ok hj p;have l1:=I1.len;have aH2:-τv=-τd:=by simpa using tl
  have dE:v= .ref a:=by
   rw[br f_]at ev;simp[cK,cP,jQ,eO]at ev;rw[show -ρ1 + -τd - (-σ + -hv)=-(τv.map oF) by rw[nI];lia,br (bO _)]at ev;simpa using ev
  subst dE;refine#[a,vs,rfl,ha,λo=> ?_];refine k _ _ (λb=>U1 b/\b≠a) #[?_,l1,I1.nn] (bQ.trans λb ob hb nu=> ?_)
  .have:=ok o;rw[show(ρ1++(τd++ [D.nd .lst cs]).map λd=>oF (B.own d)).set (-ρ1 + -τd) (!.own (.nd .dk cs))=ρ1++(τd++ [D.nd .dk cs]).map λd=>oF (B.own d) by
    rw[Wb _ _ b_,cK,cK,Wb _ _ e_];simp]at this
   lk
  .exact#[by rw[ba λz=>nu (z^^ua)];exact hb,λz=>nu z.1]
 .right;have e:Eg d1=d1:=by
   unfold Eg
   split
   .next cs=>exact zK λp=>c #[cs,rfl,p]
   .rfl
  exact k v H1 U1 (by rw[show Eg (d1,ρ1).1=d1 from e];exact I1) bQ]
end
section
def ark(K:ah):R2:=λx y H Q=>∃l b xs zs,x= .ref l/\y= .ref b/\gN K H l xs/\gN K H b zs/\-xs + -zs<=aM/\∀p,H p=oM->Q (.ref p) (dm H p (.lst (xs++zs)))
theorem auk:cu X (binaryOp .Add) (ark X.K):=by
 intro ab s σ H x y v u Q I rx ry h;let l b xs zs rfl rfl hH hB hz q:=h;cases rx;cases ry;obtain⟨ag,r,⟨⟨cls,dd,data,sl⟩,n,ho,hc,_,hd⟩,z⟩:=I.list hH;obtain⟨aoy,r2,⟨⟨XE,CU,data2,CV⟩,n2,aox,jV,_,hd2⟩,z2⟩:=I.list hB;simp only at hc hd jV hd2;subst hc hd jV hd2;have l1:-xs=-ag:=r.length;have l2:-zs=-aoy:=r2.length;have e:ag.toArray++aoy.toArray=(ag++aoy).toArray:=e_
 refine U9 #[_,ho,rfl] #[_,aox,rfl] noFill_list_add seq_list_add PySem.F.slot_list_add PySem.F.entry_list_add (PySem.F.args_list_add_2 _ _) (list_addW l b ag.toArray aoy.toArray n n2 dd CU sl CV (by rw[fM,fM];lia)) #[ho,aox, ?_];rw[e];exact#[.ref _,_,I.Ya (t':=s.toks) (r.append r2) (by rw[eO];lia),rfl,q _ I.fresh]
variable {K:ah}
noncomputable def abp:D->oT (oH D)
 |.nd .lst cs=>oF cs
 |.nd .dk cs=>oF cs
 |_=>oM
theorem axt(w:Vw K H T1 v d)(h:abp d\cs):∃a vs,v= .ref a/\gN K H a vs/\gF K H T1 vs cs:=by
 unfold abp at h
 split at h
 .cases h;let a vs rfl hc vl:=w.ip;exact#[a,vs,rfl,gN.of hc.2,vl]
 .cases h;let a vs rfl hc vl:=w.ip;exact#[a,vs,rfl,jA.sq hc.2,vl]
 .lk
def apb(a b:D):oT D:=(abp a).bind λxs=>(abp b).bind λys=>if -xs + -ys<=aM/\bI (xs++ys)=oP then oF (.nd .lst (xs++ys)) else oM
instance aH3:jD K (ark K) apb:=#[λ{H x y dx dy d Q} w1 w2 h k=>by
 let xs h1 h:=i_ h;let ys h2 h:=i_ h;by_cases c:-xs + -ys<=aM/\bI (xs++ys)=oP
 .rw[zJ c]at h;cases h;let a vs rfl s1 v1:=axt w1 h1;let b us rfl s2 v2:=axt w2 h2;refine#[a,b,vs,us,rfl,rfl,s1,s2,[v1.1,v2.1]^^c.1,λp hp=> ?_];exact k _ _ (fE hp _) ((v1.app v2).own c.2 hp (.inr #[rfl,trivial,0,rfl]))
 .rw[zK c]at h;lk]
end
section
def arl(K:ah)(Q:VK):oH V->oT V->Hp->Prop
 | [],!b,H=>Q b H
 | [],oM,_=>False
 |x::r,oM,H=>arl K Q r (!x) H
 |x::r,!b,H=>∃g,axg K H x b g/\arl K Q r (if g=oP then oF x else oF b) H
def aCo:oT V->oH zL->Prop
 |none,us=>us= []
 |some b,us=>∃u,us= [u,u]/\RelV b u
theorem asw{σ:L2.St}{Q:VK}(hu:X.A.in1.units < cLine)(hc:X.calm=oP)(qp:it≠S)(aoA:a≠it)(ha:H a\.lst xs)(fI:jT X ab H it)(fS:jT X ab H S):
  ∀(rest:oH V) (i:Nat) (ahe:oT V) (us:oH zL) (n:Nat) (s:zM),xs.drop i=rest->L2.Inv X ab σ H s->s.heap.IsListIter it a i->s.heap.get? S=oF { cls:= .type "list",data:= .seq us.toArray n }->aCo ahe us->
   arl X.K Q rest ahe H->qQ (model X.prog X.w) X.A (.builtin "max.loop" #[[.ref it, .none, .ref S], []]) (λr s'=>match r with | .ok (.ret v)=>EP X ab σ Q v s' | .ok _=>False | .error e=>X.xe e s') s
 | [],i,oM,us,n,s,hd,I,hit,hS,hB,h=>h.elim
 | [],i,!b,us,n,s,hd,I,hit,hS,hB,h=>by
  let ag rv pl hz:=I.list (gN.of ha);have hi:-xs<=i:=by
   rcases NV i (-xs) with h | h
   .rw[Cr h]at hd;lk
   .lk
  have hsz:ag.toArray.size=-xs:=fM^^rv.length.symm
  let ub rfl rb:=hB;refine Ca awP ?_;rw[Cp aou _];show wpAny _ X.A.in1 (awK (.ref S) >>= _) _ _ _;refine az (wZ hS rfl ?_);show wpAny _ X.A.in1 (tryCatch (pyNext (.ref it)) _ >>= _) _ _ _;refine az (aqE (aBp (show X.A.in1.handled=oM from I.ok.hd hc) hit pl.isList (aHd (hsz^^hi)) λh7 atU=> ?_));have aqM:∀b o,b≠it->s.heap.get? b\o->h7.get? b\o:=λb o amR e=>atU b o amR e;have atV:=aqM S _ (λz=>qp z.symm) hS;have I7:L2.Inv X ab σ H { s with heap:=h7 }:=I.turned (t':=s.toks) (it:=it) aqM fI.1 fI.2.1 fI.2.2.2.1 fI.2.2.2.2.1 fI.2.2.2.2.2;show wpAny _ X.A.in1 (arX S (λ_=>(List.toArray [])) >>= _) _ _ _;refine az ?_;refine arY atV rfl (az (Vs (bF ?_)));exact#[b,H,L2.Inv.turned (s:= { s with heap:=h7 }) I7 (t':=s.toks) (it:=S) (λb o n e=>(VN _ _ (yd n)).trans e) fS.1 fS.2.1 fS.2.2.2.1 fS.2.2.2.2.1 fS.2.2.2.2.2,rb,h]
 |x::r,i,ahe,us,n,s,hd,I,hit,hS,hB,h=>by
  have aoi:(toString "max"++toString ".loop":String)="max.loop":=a_
  let ag rv pl hz:=I.list (gN.of ha);have W:=atv (prog:=X.prog) (w:=X.w) (A:=X.A.in1) (show X.A.in1.handled=oM from I.ok.hd hc) it a aoA;have hi:i < -xs:=by
   rcases NV i (-xs) with h | h
   .lk
   .rw[aBw h]at hd;lk
  have hx:xs[i]?\x:=by rw[Cr hi]at hd;injection hd with e1 e2;rw[dH hi,e1]
  have tT:xs.drop (i + 1)=r:=by rw[Cr hi]at hd;injection hd
  have hsz:ag.toArray.size=-xs:=fM^^rv.length.symm
  refine Ca awP ?_;rw[Cp aou _];show wpAny _ X.A.in1 (awK (.ref S) >>= _) _ _ _;refine az (wZ hS rfl ?_);show wpAny _ X.A.in1 (tryCatch (pyNext (.ref it)) _ >>= _) _ _ _;refine az (aqE ((W ag.toArray).item i _ _ _ (hsz^^hi) #[hit,pl.isList] λv' h4 tk hP bQ aqN=> ?_));let u' atW apW:=rv.get hx;have e4:v'=u':=by
   have:ag[i]?\v':=by simpa using hP
   rw[atW]at this;injection this with this;exact this.symm
  subst e4;have I4:L2.Inv X ab σ H { s with heap:=h4,toks:=tk }:=I.turned (t':=tk) (it:=it) (λb o n e=>aqN b o (λz=>n (ly.mp z)) e) fI.1 fI.2.1 fI.2.2.2.1 fI.2.2.2.2.1 fI.2.2.2.2.2;have ao7:h4.get? S=_:=aqN S _ (λz=>qp (ly.mp z).symm) hS;let oi aqO aqP apX:=id bQ.1;have up:∀(g:Array zL->Array zL),L2.Inv X ab σ H { s with heap:=h4.update S (zo g),toks:=tk }:=λg=>L2.Inv.turned (s:= { s with heap:=h4,toks:=tk }) I4 (t':=tk) (it:=S) (λb o n e=>(VN _ _ (yd n)).trans e) fS.1 fS.2.1 fS.2.2.2.1 fS.2.2.2.2.1 fS.2.2.2.2.2;have aqQ:∀(g:Array zL->Array zL),(h4.update S (zo g)).IsListIter it a (i + 1):=λg=>#[oi,(VN _ _ (yd qp)).trans aqO,aqP,apX]
  show wpAny _ X.A.in1 (pure v' >>= _) _ _ _;refine az (bF ?_);cases ahe with
  |none=>
   have atZ:us= []:=hB;subst atZ;show wpAny _ X.A.in1 (arX S (λ_=>(List.toArray [v',v'])) >>= _) _ _ _;refine az ?_;refine arY ao7 rfl ?_;rw[aoi];refine bF #[Vo aou _, ?_];exact asw hu hc qp aoA ha fI fS _ (i + 1) (!x) [v',v'] _ _ tT (up _) (aqQ _) (aim (zo λ_=>(List.toArray [v',v'])) ao7 rfl) #[v',rfl,apW] h
  |some b=>
   let ub rfl rb:=hB;obtain⟨g,⟨pp,qq,i1,j1,i2,j2,rfl,rfl,h1,h2,hg⟩,q6⟩:=h;cases apW;cases rb;let DB Hu at0 _:=I4.tuple h1;let aoy Hv at1 _:=I4.tuple h2;let w1 w2 rfl c1 c2:=L2.vals2 Hu;let w3 w4 rfl c3 c4:=L2.vals2 Hv;let t1 rfl:=c1;let t2 rfl:=c2;let t3 rfl:=c3;let t4 rfl:=c4;show wpAny _ X.A.in1 (tryCatch (holding [t5 pp,t5 pp] (awJ .Gt (.ref pp) (.ref qq) >>= _)) _ >>= _) _ _ _;refine az (aqE (uL (az (axf at0 at1 hu ?_))));refine az (uL (uK ?_));refine az (Vs (bF ?_));rw[<- hg];cases g with
   |true=>
    show wpAny _ X.A.in1 (arX S (λ_=>(List.toArray [.ref pp, .ref pp])) >>= _) _ _ _;refine az ?_;refine arY ao7 rfl ?_;refine az (Vs ?_);rw[aoi];refine bF #[Vo aou _, ?_];exact asw hu hc qp aoA ha fI fS _ (i + 1) (!.ref pp) [.ref pp, .ref pp] _ _ tT (up _) (aqQ _) (aim (zo λ_=>(List.toArray [.ref pp, .ref pp])) ao7 rfl) #[_,rfl,rfl] q6
   |false=>
    show wpAny _ X.A.in1 (letGo _ >>= _) _ _ _;refine az (Vs ?_);rw[aoi];refine bF #[Vo aou _, ?_];exact asw hu hc qp aoA ha fI fS _ (i + 1) (!.ref qq) [.ref qq, .ref qq] _ _ tT I4 #[oi,aqO,aqP,apX] ao7 #[_,rfl,rfl] q6
def aul(K:ah):oH V->Hp->VK->Prop:=λvs H Q=>∃a xs,vs= [.ref a]/\H a\.lst xs/\arl K Q xs oM H
theorem aCp(hu:X.A.units + 1 < cLine)(hc:X.calm=oP):fT X (.builtin "max") (aul X.K):=by
 intro ab s σ H vs us Q I r h;let a xs rfl ha h:=h;let u rfl ru:=vals1 r;cases ru;have aoi:(toString "max"++toString ".loop":String)="max.loop":=a_
 let ag rv pl hz:=I.list (gN.of ha);have lt:a < s.heap.objs.size:=by let o n e _:=pl;exact cW e
 refine call_function_tree aHe aHf aHg (PySem.F.args_max1 _) ?_;show wpAny _ X.A.in1 (awQ "max" ["key","default"] 0 #[[], []] >>= _) _ _ s;refine az (wpAny_of_eq (show awQ "max" ["key","default"] 0 #[[], []]=pure [oM,oM] from rfl) ?_);refine az (bF ?_);refine az (Vk pl.isList ?_);refine az (qP ?_);rw[aoi];refine bF #[Vo aou _, ?_];have apt:=gc (s.heap.push { cls:= .type "list_iterator",data:= .fields (List.toArray [.ref a, .int 0 0]) }) (o:= { cls:= .type "list",data:= .seq (List.toArray []) }) rfl;have aqR:((s.heap.push { cls:= .type "list_iterator",data:= .fields (List.toArray [.ref a, .int 0 0]) }).push { cls:= .type "list",data:= .seq (List.toArray []) }).get? s.heap.objs.size=oF { cls:= .type "list_iterator",data:= .fields (List.toArray [.ref a, .int 0 0]) }:=
  cB _ (gc _ rfl)
 have aqS:∀b o,s.heap.get? b\o->((s.heap.push { cls:= .type "list_iterator",data:= .fields (List.toArray [.ref a, .int 0 0]) }).push { cls:= .type "list",data:= .seq (List.toArray []) }).get? b\o:=
  λb o e=>cB _ (cB _ e)
 have at3:(s.heap.push { cls:= .type "list_iterator",data:= .fields (List.toArray [.ref a, .int 0 0]) }).objs.size=s.heap.objs.size + 1:=p9 _ _;show qQ (model X.prog X.w) X.A (.builtin "max.loop" #[[.ref s.heap.objs.size, .none, .ref (s.heap.push { cls:= .type "list_iterator",data:= .fields (List.toArray [.ref a, .int 0 0]) }).objs.size], []]) _ { s with heap:=(s.heap.push { cls:= .type "list_iterator",data:= .fields (List.toArray [.ref a, .int 0 0]) }).push { cls:= .type "list",data:= .seq (List.toArray []) } };generalize ((s.heap.push { cls:= .type "list_iterator",data:= .fields (List.toArray [.ref a, .int 0 0]) }).push { cls:= .type "list",data:= .seq (List.toArray []) })=h3 at apt aqR aqS |-;generalize hS:(s.heap.push { cls:= .type "list_iterator",data:= .fields (List.toArray [.ref a, .int 0 0]) }).objs.size=S at apt at3 |-;have fI:jT X ab H s.heap.objs.size:=I.Aa (bO _) (I.aQ.fresh (bO _));have fS:jT X ab H S:=I.Aa b_ (I.aQ.fresh b_);have I3:L2.Inv X ab σ H { s with heap:=h3 }:=I.kept (t':=s.toks) aqS;have Rf:s.heap.objs.size≠S:=b_
 have DC:X.A.in1.units < cLine:=by show X.A.units + 1 < cLine;lk
 exact asw DC hc Rf (dR lt) ha fI fS xs 0 oM [] _ _ rfl I3 #[_,aqR,rfl,rfl] apt rfl h
variable {K:ah}{n:Nat}
def pairsOf:oH D->oT (oH (Int×Int))
 | []=>oF []
 |d::r=>(ao8 d).bind λp=>(pairsOf r).map (p:: ·)
def aiZ(b:Int×Int)(ps:oH (Int×Int)):Int×Int:=ps.foldl (λb p=>if alI p.1 p.2 b.1 b.2=oP then p else b) b
noncomputable def pairD (p:Int×Int):D:= .nd .tup [.sc (.int p.1), .sc (.int p.2)]
def aum:oH D->oT D
 | [.nd .lst cs]=>(pairsOf cs).bind fun | []=>oM | p::ps=>oF (pairD (aiZ p ps))
 |_=>oM
theorem axu(h:ao8 d\p):d=pairD p:=by
 unfold ao8 at h
 split at h
 .cases h;rfl
 .lk
theorem aun:∀{cs:oH D} {vs:oH V} {ps:oH (Int×Int)} {b:Int×Int} {v:V},gF K H T1 vs cs->pairsOf cs\ps->Vw K H T1 v (pairD b)->(∀v,Vw K H T1 v (pairD (aiZ b ps))->Q v H)->arl K Q vs (!v) H
 | [], [],ps,b,v,_,h,w,k=>by rw[pairsOf]at h;cases h;exact k v w
 | [],_::_,_,_,_,vl,_,_,_=>by have:=vl.1;simp at this
 |_::_, [],_,_,_,vl,_,_,_=>by have:=vl.1;simp at this
 |c::cs,x::vs,ps,b,v,vl,h,w,k=>by
  rw[pairsOf]at h;let p hp h:=i_ h;let sE arn rfl:=aY.mp h;have wx:Vw K H T1 x c:=vl.2 0 x c rfl rfl;let ax ex hx:=apZ wx hp;let av ev hv:=apZ w (k:=b) rfl;have RW:gF K H T1 vs cs:=#[by have:=vl.1;simpa using this,λi v d hv hd=>vl.2 (i + 1) v d (by simpa using hv) (by simpa using hd)]
  refine#[alI p.1 p.2 b.1 b.2,#[ax,av,_,_,_,_,ex,ev,hx,hv,rfl], ?_];have e:aiZ b (p::sE)=aiZ (if alI p.1 p.2 b.1 b.2=oP then p else b) sE:=rfl;rw[e]at k;cases c2:alI p.1 p.2 b.1 b.2 with
  |true=>
   rw[c2,zJ rfl]at k;exact aun RW arn (by rw[<- axu hp];lk) k
  |false=>
   rw[c2,zK df]at k;exact aun RW arn w k
instance (priority:=3000) aH4{t:TA}{f:En->oT (oH D)}[A:SA K n t f]:SV K n (jU (aul K) t) (λρ=>(f ρ).bind aum):=#[λ{σ hv H U ρ τv τd d Q} I h k=>by
 let x h1 h2:=i_ h;refine A.s I h1 λvs H1 s1 w=>?_;unfold aum at h2
 split at h2
 .next cs=>
  let ps h3 h4:=i_ h2;let v rfl w1:=w.one;let a us rfl hc vl:=w1.ip;cases ps with
  |nil=>lk
  |cons p ps=>
   cases h4;refine#[a,us,rfl,hc.2, ?_]
   match us,cs,vl,h3 with
   | [], [],_,h3=>rw[pairsOf]at h3;lk
   | [],_::_,vl,_=>have:=vl.1;simp at this
   |_::_, [],vl,_=>have:=vl.1;simp at this
   |u::us,c::cs,vl,h3=>
    rw[pairsOf]at h3;let q hq h3:=i_ h3;let qs aCq e:=aY.mp h3;cases e;have wu:Vw K H1 T1 u c:=vl.2 0 u c rfl rfl;have RW:gF K H1 T1 us cs:=#[by have:=vl.1;simpa using this,λi v d hv hd=>vl.2 (i + 1) v d (by simpa using hv) (by simpa using hd)]
    exact aun RW aCq (by rw[<- axu hq];lk) λv wv=>k v H1 s1 wv
 .lk]
variable {H H' H1 H2:Hp}{U U':zI->Prop}{σ hv:oH (oT V)}{ρ ρ':En}{τv vs:oH V}{τd ds:oH D}{v y:V}{d:D}{E:ke}
end
section
variable {K:ah}{n:Nat}{H H' H1 H2:Hp}{U U':zI->Prop}{σ hv:oH (oT V)}{ρ ρ':En}{τv vs:oH V}{τd ds:oH D}{v y x o u:V}{d d0 d':D}
end
section
variable {K:ah}{H H':Hp}{F N U:zI->Prop}{a:zI}{o:Obj}{cf:oH (bc×V)}{m:Nat}{e:oH (oT V)}{ρ:En}
end
section
variable {K:ah}{n:Nat}{H H' H1 H2:Hp}{U U':zI->Prop}{σ hv:oH (oT V)}{ρ ρ':En}{τv vs:oH V}{τd ds:oH D}{v y:V}{d:D}{E:ke}{a:zI}{o:Obj}
open Classical in
end
section
variable {K:ah}{n:Nat}{H H' H1 H2:Hp}{U U':zI->Prop}{σ hv:oH (oT V)}{ρ ρ':En}{τv vs:oH V}{τd ds:oH D}{d:D}{E:ke}{a:zI}{o:Obj}
end
section
variable {K:ah}
variable {n:Nat}{H H' H1 H2:Hp}{U U':zI->Prop}{σ hv:oH (oT V)}{ρ ρ':En}{τv vs:oH V}{τd ds:oH D}{v y:V}{d:D}{E:XK}
theorem aj.hide(I:aj K n H U σ hv ρ (τv++ [v]) (τd++ [d])):aj K n H U σ (hv++ [!v]) (ρ++ [!.own d]) τv τd:=by
 have hM:=I.hM;have tl:-τv=-τd:=by
  have:=I.tl;rw[eO,eO]at this;exact eF this
 have ok:=I.ok;rw[cK,cK, <- b8, <- b8 ρ]at ok;have lA:-(σ++hv++τv.map oF)=-ρ + -τd:=by rw[eO,hM,nI,tl]
 have lR:-(ρ++τd.map λd=>oF (B.own d))=-ρ + -τd:=by rw[eO,nI]
 refine#[?_,by rw[eO,eO, <- aty,I.len];rfl,I.nn];rw[asq,eO,pw];have key:∀{k},k≠-ρ->k<=-ρ + -τd->insI (-ρ) (-ρ + -τd) k≠-ρ + -τd:=λ{k} ck hk z=>by
  have:=arf (r:=-ρ + -τd) ck;rw[z,zK (awN.mpr (sJ _ _))]at this;exact Nat.not_succ_le_self _ (this▸hk)
 refine ok.re (insI (-ρ) (-ρ + -τd)) (·<=-ρ + -τd) (aua (lA.trans lR.symm)) (λi j hi hj q=> ?_) λj γ qA=> .inl ?_
 .by_cases ci:i=-ρ
  .by_cases cj:j=-ρ
   .exact ci.trans cj.symm
   .exact absurd (by rw[<- q,ci,apa]) (key cj hj)
  .by_cases cj:j=-ρ
   .exact absurd (by rw[q,cj,apa]) (key ci hi)
   .exact at8 ci cj q
 .have refs:∀q,at7 γ q->q < -ρ->q < -ρ + 1/\((σ++hv)++ [!v]++τv.map oF)[q]?=(σ++hv++τv.map oF++ [v].map oF)[q]?:=λq _ hq=>#[Ck hq,b8 (σ++hv) (τv.map oF)^^aoR hM hq]
  by_cases cj:j=-ρ
  .subst cj;rw[aok rfl]at qA;cases qA;refine#[sJ _ _, ?_, ?_,refs]
   .rw[apa];exact(congrArg (·[_]?) (nM _).symm).trans (aok (B:= []) lR)
   .rw[apa,aok hM];exact((congrArg (·[_]?) (nM _).symm).trans (aok (B:= []) lA)).symm
  .rw[ap5 (r:=-ρ + -τd) rfl cj]at qA;have hx:=(cX.mp qA).1;rw[lR]at hx;refine#[?_, ?_, ?_,refs]
   .show j<=-ρ + -τd;rw[<- arf (r:=-ρ + -τd) cj]
    split
    .exact nO hx
    .lk
   .rw[aU (lR^^hx)];lk
   .rw[ap5 (r:=-ρ + -τd) hM cj,aU (l₂:= [v].map oF) (lA^^hx)]
def aro(G:oH D->oT (D×oH D))(i:Nat)(fe:En->oT D)(ρ:En):oT (D×En):=(aT i ρ).bind λ
 |.rt r p=>(fe ρ).bind λd=>(fL G [.io #[r,p], .io #[-ρ, []]] (ρ++ [!.own d])).bind λa=>if -a.2=-ρ + 1 then oF (a.1,qE 0 (-ρ) a.2) else oM
 |.ro _=>oM
instance (priority:=50) aH5{G:oH D->oT (D×oH D)}{i:Nat}{te:TE}{fe:En->oT D}[L0:jC 0 n][L:jC i n][A:SQ K n te fe]:SM K n (og (dW K [oP,oP] G) [] E (di (nE i) (di te fz))) (aro G i fe):=#[λ{σ hv H U ρ ρ' τv τd d Q} I h k=>by
 let q h1 h:=i_ h;cases q with
 |ro _=>lk
 |rt r p=>
  let d2 h2 h:=i_ h;obtain⟨⟨d3,Jt⟩,h3,h⟩:=i_ h;have h:(if -Jt=-ρ + 1 then oF (d3,qE 0 (-ρ) Jt) else oM)\(d,ρ'):=h;by_cases cl:-Jt=-ρ + 1
  .rw[zJ cl]at h;cases h;show nE i σ H λv1 H1=>te σ H1 λv2 H2=>dW K [oP,oP] G [v1,v2] H2 Q E;refine(inferInstance:SP K n (nE i) (aT i)).s I h1 λv1 H1 s1 w1=> ?_;have I1:=I.same s1;have bQ:bH U H U H1:=λb o q nu=>#[s1 b o q,nu]
   refine SQ.s (f:=fe) I1 h2 λv2 H2 U2 I2 dJ s2=>?_;have w2:=w1.step s2 dJ;have I3:=I2.hide;have l:=I.len;have nn:=I.nn;have hM:-(σ++hv)=-ρ:=eO^^l
   let iN vr d0 er hr hs hp:=w2;have p1:wq K H2 U2 (σ++(hv++ [!v2])) (ρ++ [!.own d2]) v1 (.rt r p):=#[by rw[eO];lia,vr,d0,by rw[<- b8,aU b_];lk,aae hr,hs,hp]
   have p2:wq K H2 U2 (σ++(hv++ [!v2])) (ρ++ [!.own d2]) v2 (.rt (-ρ) []):=#[by rw[eO,pw];lia,v2,d2,by rw[<- b8,br b_,hM,kj];rfl,by rw[aV];rw[br (bO _),kj];rfl,by cases d2 <;> rfl, .nil _]
   have acq:aj K n H2 U2 σ (hv++ [!v2]) (ρ++ [!.own d2]) (τv++ []) (τd++ []):=[nM,nM]^^I3
   exact aj.Ia acq rfl (bQ.trans dJ) (.io p1 (.io p2 .nil)) h3 λv H' U' I' st'=>k v H' U' (I'.cls cl (by have:=L0.h;lia)) st'
  .rw[zK cl]at h;lk]
end
section
variable {K:ah}{n:Nat}{H H' H1 H2:Hp}{U U':zI->Prop}{σ hv:oH (oT V)}{ρ ρ':En}{τv vs:oH V}{τd ds:oH D}{d:D}{E:XK}
end
section
variable {K:ah}{n:Nat}{H H' H1 H2:Hp}{U U':zI->Prop}{σ hv:oH (oT V)}{ρ ρ':En}{τv vs:oH V}{τd ds:oH D}{d:D}
end
theorem pxx{K:ah}{pos:Pos}(hr:gf k X.A)(ha:PE X a ta)(hb:PE X b tb)(hs:CZ b:=by exact λ_ _=>rfl)(hK:autoParam (X.K=K) q_3._auto_1):PE X (.Subscript a b pos) (ig (DW K) ta tb):=hK▸xE (QP (akV hr)) ha hb hs
theorem rF{N P:oH Str}(a:autoParam (sc.kind= .function) q_3._auto_1)(b:autoParam (sc.isCoroutine=yv) q_3._auto_1)(c:autoParam (sc.isGenerator=yv) q_3._auto_1)(d:autoParam (N.Nodup) q_0._auto_1)(e:autoParam (N.take (-P)=P) q_3._auto_1)(f:autoParam (∀x∈P,sc.names.lookup x\.local\/sc.names.lookup x\.cell) q_0._auto_1)(g:autoParam (∀y∈sc.names,y.2≠ .free) q_0._auto_1):dr N P sc:=#[a,b,c,d,e,f,g]
theorem iy{P:zR}{w:zQ}{K:ah}{mg:Str->oT zL}{base:zN}{x q:Str}{st:zP}{f:zI}{fd:kK}{N ps:oH Str}{k n m:Nat}{t:TS}{g:En->oT Fl}(F:cY K x q st f fd)(S:dr N ps (cb st))(h:∀dB A outer s H E,gf k (A.deeper (envOfC q (cb st) s.heap.objs.size f dB))->OK (rj cG P w K mg base N q (cb st) f dB A outer s H E).ve (mS st) t)[I:SS K n t g](hn:autoParam (-N=n) q_3._auto_1)(hm:autoParam (-ps=m) q_3._auto_1)(hl:autoParam (m<=n) q_1._auto_1):bZ P w K mg base cG (k + 1) f fd ps (cL K m (bV n g)):=by
 subst hn;subst hm;exact F.ok S (λvs H Q E h=>Q7 h) λdB A outer s H vs Q E hr q=>#[t,h dB A outer s H E hr,Qx q hl]
theorem za{P:zR}{w:zQ}{K:ah}{mg:Str->oT zL}{base:zN}{x q:Str}{st:zP}{f:zI}{fd:kK}{N ps:oH Str}{k n:Nat}{mk:oH Bool}{t:TS}{g:En->oT Fl}(F:cY K x q st f fd)(S:dr N ps (cb st))(h:∀dB A outer s H E,gf k (A.deeper (envOfC q (cb st) s.heap.objs.size f dB))->OK (rj cG P w K mg base N q (cb st) f dB A outer s H E).ve (mS st) t)[I:SS K n t g](hn:autoParam (-N=n) q_3._auto_1)(hm:autoParam (-ps=-mk) q_3._auto_1)(hl:autoParam (-mk<=n) q_1._auto_1):bZ P w K mg base cG (k + 1) f fd ps (dW K mk (dG n mk g)):=by
 subst hn;exact F.ok S (λvs H Q E h=>h.1.trans hm.symm) λdB A outer s H vs Q E hr q=>#[t,h dB A outer s H E hr,aao q hl]
abbrev oG(K:ah)(C:zI)[nc K C]:=En->oT Fl
section
variable {X:Cx}{K:ah}{a b e o:zO}{ta tb te:TE}{p pos pos':Pos}{x f:Str}
theorem UT(hK:autoParam (X.K=K) q_3._auto_1):cu X (binaryOp .Add) (AZ K):=hK▸aaL
theorem aCr(hK:autoParam (X.K=K) q_3._auto_1):cu X (binaryOp .Add) (ark K):=hK▸auk
theorem fX(hu:X.A.units + 64 < cLine)(hK:autoParam (X.K=K) q_3._auto_1):cu X (compareOp .Eq) (ye K):=hK▸DS hu
theorem one(hu:X.A.units + 64 < cLine)(hK:autoParam (X.K=K) q_3._auto_1):cu X (compareOp .NotEq) (AW K):=hK▸Ig hu
theorem gR(hu:X.A.units + 1 < cLine)(hK:autoParam (X.K=K) q_3._auto_1):cu X (compareOp .In) (Ij K):=hK▸aaI hu
theorem lV{tg:zO}(hl:PE X a ta)(hK:autoParam (X.K=K) q_3._auto_1):PI X tg a (vV K ta):=hK▸QZ hl
theorem IW(ha:PE X o ta)(hv:PE X a tb)(hs:autoParam (wQ a (!.Attribute o f pos') pos.line X.env=pure yv) q_3._auto_1)(hK:autoParam (X.K=K) q_3._auto_1):PS X (.Assign [.Attribute o f pos'] a pos) (Gv K ta tb f):=hK▸Xp ha hv hs
theorem fY(he:PE X e ta)(hK:autoParam (X.K=K) q_3._auto_1)(hb:autoParam (ao2 e f X.env (eval e X.env)=eval e X.env) q_3._auto_1):PE X (.Attribute e f pos) (Ag K ta f):=aba hK he hb
theorem cJ(h:PE X a ta)(hs:autoParam (ix [a] X.env=(yv,eval a X.env)::ix [] X.env) q_3._auto_1):PA X [a] (di ta fz):=fJ h gk (hs:=hs)
theorem eS(h:PE X a ta)(h2:PE X b tb)(hs:autoParam (ix [a,b] X.env=(yv,eval a X.env)::ix [b] X.env) q_3._auto_1)(ht:autoParam (ix [b] X.env=(yv,eval b X.env)::ix [] X.env) q_3._auto_1):PA X [a,b] (di ta (di tb fz)):=fJ h (fJ h2 gk (hs:=ht)) (hs:=hs)
theorem bu(h:PE X a ta):OK X [.Return (!a) pos] (qi ta):=dY (vf h)
theorem d6(ho:cu X (compareOp op) r)(ha:PE X a ta)(hb:PE X b tb)(hm:autoParam (B3 op b=yv) q_5._auto_1):PT X (.Compare a [op] [b] pos) (apR (ig r ta tb)):=iM ho ha hb hm
theorem A6(ho:cu X (compareOp op) r)(ha:PE X a ta)(hb:PE X b tb)(hm:autoParam (B3 op b=yv) q_5._auto_1):PE X (.Compare a [op] [b] pos) (ig r ta tb):=jd ho ha hb hm
theorem Kf(i:Nat)(hN:X.N.Nodup)(hi:autoParam (X.N[i]?\x) q_3._auto_1)(hx:autoParam (Loc X.env.scope x) q_6._auto_1)(hf:autoParam (X.fn x=oP\/X.env.scope.names.lookup x\.local) q_6._auto_1):PG X (.Name x pos) (lB i):=Gb hN hi hx hf
theorem bX(i:Nat)(hN:X.N.Nodup)(he:PE X e te)(hi:autoParam (X.N[i]?\x) q_3._auto_1)(hx:autoParam (Loc X.env.scope x) q_6._auto_1)(hs:autoParam (wQ e (!.Name x pos') pos.line X.env=pure yv) q_3._auto_1)(hf:autoParam (X.fn x=oP\/X.env.scope.names.lookup x\.local) q_6._auto_1):PS X (.Assign [.Name x pos'] e pos) (vh te (lB i)):=WL hN hi hx he hs hf
theorem pln(hm:X.mg "len"=oM)(ha:PE X a ta)(hg:autoParam (Gl X "len") q_3._auto_1)(hK:autoParam (X.K=K) q_3._auto_1)(he:autoParam (ix [a] X.env=(yv,eval a X.env)::ix [] X.env) q_3._auto_1):PE X (.Call (.Name "len" p) [a] [] pos) (jU (vT K) (di ta fz)):=hK▸fK Il hg hm Wc (fJ ha gk (hs:=he)) (he:=he)
theorem asx(hm:X.mg "tuple"=oM)(ha:PE X a ta)(hg:autoParam (Gl X "tuple") q_3._auto_1)(hK:autoParam (X.K=K) q_3._auto_1)(he:autoParam (ix [a] X.env=(yv,eval a X.env)::ix [] X.env) q_3._auto_1):PE X (.Call (.Name "tuple" p) [a] [] pos) (jU (aqK K) (di ta fz)):=hK▸oh axb hg hm awR (fJ ha gk (hs:=he)) (he:=he)
theorem axv(hm:X.mg "list"=oM)(ha:PE X a ta)(hg:autoParam (Gl X "list") q_3._auto_1)(hK:autoParam (X.K=K) q_3._auto_1)(he:autoParam (ix [a] X.env=(yv,eval a X.env)::ix [] X.env) q_3._auto_1):PE X (.Call (.Name "list" p) [a] [] pos) (jU (atP K) (di ta fz)):=hK▸oh aBV hg hm uX (fJ ha gk (hs:=he)) (he:=he)
theorem abN(ho:PE X o ta)(hK:autoParam (X.K=K) q_3._auto_1)(hb:autoParam (ao2 o "pop" X.env (eval o X.env)=eval o X.env) q_3._auto_1)(hl:autoParam ((p.endLine == pos.line)=oP) q_3._auto_1):PE X (.Call (.Attribute o "pop" p) [] [] pos) (GJ K "list" GQ ta):=hK▸X5 Wd PySem.F.slot_list_pop PySem.F.type_list_pop Yf ho hb hl
theorem aG8(ho:PE X o ta)(ha:PE X a tb)(hK:autoParam (X.K=K) q_3._auto_1)(hb:autoParam (ao2 o "append" X.env (eval o X.env)=eval o X.env) q_3._auto_1)
  (hf:((backTo pos (ix [a] X.env)).all (λx=> not x.1) && (B7 pos (B8 [] X.env)).all (λx=>x.1.isSome)
   && decide ([a].length + -([]:oH Keyword) + (if([]:oH Keyword).isEmpty then 0 else 1) < 30))=oP:=by rfl) (hl:(p.endLine == pos.line)=oP:=by rfl) (hs:ix [a] X.env=(yv,eval a X.env)::ix [] X.env:=by rfl):PE X (.Call (.Attribute o "append" p) [a] [] pos) (vy K "list" C1 ta (di tb fz)):=hK▸GK Wd PySem.F.slot_list_append PySem.F.type_list_append Yc ho (fJ ha gk (hs:=hs)) hb hf hl hs
end
section
variable {K:ah}{n:Nat}{H H' H1 H2:Hp}{U U':zI->Prop}{σ hv:oH (oT V)}{ρ ρ':En}{τv vs:oH V}{τd ds:oH D}{v y:V}{d:D}{E:ke}{N:zI->Prop}
end
end VL
namespace L2
open PySem PySem.Spec PyProof.Rows
section
end
end L2
namespace VL
open PySem PySem.Spec PyProof.Rows L2
section
variable {K:ah}{n:Nat}{H H' H1 H2:Hp}{U U':zI->Prop}{σ hv:oH (oT V)}{ρ ρ':En}{τv vs:oH V}{τd ds:oH D}{v y:V}{d e:D}{N:zI->Prop}
end
end VL
namespace L2
open PySem PySem.Spec PyProof.Rows
section
variable {prog:zR}{w:zQ}{K:Type}[DecidableEq K]{knd:HeapKind prog w K}{A:zS}{s:zM}
end
section
end
end L2
namespace VL
open PySem PySem.Spec PyProof.Rows L2
section
variable {K:ah}{n:Nat}{H H' H1 H2:Hp}{U U':zI->Prop}{σ hv:oH (oT V)}{ρ ρ':En}{τv vs:oH V}{τd ds:oH D}{v y x o u:V}{d d0 d':D}
end
section
variable {K:ah}{n:Nat}{H H' H1 H2:Hp}{U U':zI->Prop}{σ hv:oH (oT V)}{ρ ρ':En}{τv vs:oH V}{τd ds:oH D}{v y:V}{d:D}
end
section
variable {X:Cx}{K:ah}
end
section
variable {K:ah}{n:Nat}{H H' H1 H2:Hp}{U U':zI->Prop}{σ hv:oH (oT V)}{ρ ρ':En}{τv vs:oH V}{τd ds:oH D}{d:D}{E:ke}
theorem bT.pin(h:bT K H U m e ρ)(hr:ρ[r]?\!.own d0)(hg:aa d0 p\.nd .lst cs)(er:e[r]?\!vr)(hp:gU H vr p (.ref a)):
  ∃vs,H a\.lst vs/\-vs=-cs/\U a/\∀o,bT K (dm H a (.b9 o (.lst vs))) (λb=>U b/\b≠a) m e (ρ.set r (!.own (aZ d0 p (.nd (.tE a vs) cs)))):=by
 let hl mu Fs dj sub sl:=h;let v ev sv:=sl r _ hr;rw[er]at ev;cases ev;have abE:r < -ρ:=(cX.mp hr).1;have sv:bg K H (Fs r) vr d0:=sv;let F1 m1 r1 put:=sv.focus hp hg;cases r1 with
 | @nd _ _ _ vs _ ak2 hold dw ak3 ak4 bB=>
  let Fa _ _ dx ha:=hold;have ha:H a\.lst vs:=ha;have ua:=sub r a (m1 a Fa);refine#[vs,ha,dw,ua,λo=> ?_];have st:gu H (dm H a (.b9 o (.lst vs))):=vP (by rw[ha];trivial);have key:=put (dm H a (.b9 o (.lst vs))) (λb=>F1 b/\b≠a) (.nd (.tE a vs) cs) (λb ob nb _ q=>by rw[ba λz=>nb (z^^Fa)];exact q) st
   (.nd ak2 #[rfl,rfl,o,uB] dw ak3 (λi b z=>#[#[(ak4 i b z).1,(ak4 i b z).2 rfl],λq=>nomatch q]) λi u d hu hd=>(bB i u d hu hd).frame (λb ob z q=>ba ((ak4 i b z).2 rfl)^^q) st) (λb z=> .inl z.1)
  refine#[bN^^hl,λb hb=>ba hb.2^^mu b hb.1,λi b=>Fs i b/\b≠a,λi k b hi hk=>dj i k b hi.1 hk.1,λi b hb=>#[sub i b hb.1,hb.2],λi β aw=> ?_];by_cases c:r=i
  .subst c;rw[gK abE]at aw;cases aw;refine#[_,er,key.mono λb z=> ?_];rcases z with z | z
   .exact#[z.1,λq=>z.2 (q^^Fa)]
   .exact#[m1 b z.1,z.2]
  .rw[gq c]at aw;let w ew sw:=sl i β aw;refine#[w,ew, ?_];have na:∀b,Fs i b->b≠a:=λb z y=>c (dj r i a (m1 a Fa) (by rw[<- y];lk));cases β with
   |own d=>
    have sw:bg K H (Fs i) w d:=sw;exact(sw.frame (λb ob z q=>ba (na b z)^^q) st).mono λb z=>#[z,na b z]
   |ro d=>
    have sw:Vw K H (λb=>¬ U b) w d:=sw;exact(sw.frame (λb ob z q=>by rw[ba λy=>z (y^^ua)];exact q) st).mono λb z y=>z y.1
   |aB r q=>
    let x vr er hp:=sw;exact#[x,vr,er,gU.b9 ha hp]
theorem bT.less(h:bT K H U m e ρ)(hl:-ρ'=-ρ)(hs:∀(i:Nat) (β:B),ρ'[i]?\!β->ρ[i]?\!β):bT K H U m e ρ':=by
 let dw mu Fs dj sub sl:=h;exact#[hl^^dw,mu,Fs,dj,sub,λj β aw=>sl j β (hs j β aw)]
noncomputable def blank (ρ:En):En:=ug (-ρ) oM
theorem aj.blank(I:aj K n H U σ hv ρ τv τd):aj K n H U σ hv (blank ρ) τv τd:=by
 have l:-(VL.blank ρ)=-ρ:=apO;refine#[?_,l^^I.len,I.nn];rw[l];refine I.ok.less (by simp[l]) λi β h=>?_;by_cases c:i < -ρ
 .rw[aU (l^^c)]at h;rw[VL.blank]at h;rw[NK]at h
  split at h <;> cases h
 .rw[br (by rw[l];lia),l]at h;rw[br b_];lk
def arp(i r:Nat)(p:oH Nat)(d0:D)(cs:oH D)(ρ:En)(b:zI)(ws:oH V):En:=bq i (.aB r p) (ρ.set r (!.own (aZ d0 p (.nd (.tE b ws) cs))))
def auo(i:Nat)(fp:En->oT Pl)(fr:En->oT Fl)(ρ:En):oT Fl:=(fp ρ).bind λq=>match q with
 |.ro _=>oM
 |.rt r p=>(aV ρ r).bind λd0=>(aa d0 p).bind λc=>match c with
  |.nd .lst cs=>open Classical in if h:r≠i/\∃d,∀b ws,ws.length=-cs->∃ρ',fr (arp i r p d0 cs ρ b ws)\.rt d ρ' then oF (.rt h.2.choose (blank ρ)) else oM
  |_=>oM
instance (priority:=3000) aH6{i:Nat}{te:TE}{fe:En->oT Pl}{tr:TS}{fr:En->oT Fl}[L:jC i n][A:SP K n te fe][R:SS K n tr fr]:SS K n (sX (vh (ap8 te) (lB i)) tr) (auo i fe fr):=#[λ{σ hv H U ρ τv τd fl E} I h k=>by
 let q h1 h:=i_ h;cases q with
 |ro _=>lk
 |rt r p=>
  let d0 h2 h:=i_ h;let c h3 h:=i_ h
  split at h
  .next cs=>
   split at h
   .next hx=>
    cases h;let aup hd:=hx;have spec:=hd.choose_spec;refine A.s I h1 λv H1 s1 w1=>?_;have I1:=I.same s1;let hr vr d er axw _ hp:=w1;rw[h2]at axw;cases axw;let aal F ev _ rp:=I1.AM h2;rw[er]at ev;cases ev;let F1 _ r1 _:=rp.focus hp h3;let a _ rfl _:=r1.node;have l:=I1.len;have iN:(ρ++τd.map λd=>oF (B.own d))[r]?\!.own d0:=aU hr^^L3 h2
    let vs ha hl ua ok:=bT.pin I1.ok iN h3 (aU (by rw[eO];lia)^^er) hp
    left;refine#[a,vs,rfl,ha,λo=> ?_];have aap:=ok o;rw[uT _ _ hr]at aap;have I2:aj K n (dm H1 a (.b9 o (.lst vs))) (λb=>U b/\b≠a) σ hv (ρ.set r (!.own (aZ d0 p (.nd (.tE a vs) cs)))) τv τd:=#[bN^^aap,bN^^l,I1.nn]
    let ρ' e:=spec a vs hl;have st:bH U H (λb=>U b/\b≠a) (dm H1 a (.b9 o (.lst vs))):=λb ob hb nu=>#[by rw[ba λz=>nu (z^^ua)];exact s1 b ob hb,λz=>nu z.1]
    refine R.s (I2.named L.h (β:= .aB r p) #[bN^^hr,aup,vr,er,gU.b9 ha hp]) e ?_;intro v2 sm H2 U2 I3 gZ;have e1:blank ρ'=blank ρ:=by
     unfold blank;have:=I3.len;have:=I3.nn;have:=I1.nn;rw[show -ρ'=-ρ by lia]
    exact k v2 sm H2 U2 (by rw[<- e1];exact I3.blank) (st.trans gZ)
   .lk
  .lk]
theorem aCs(h1:fp ρ\.rt r p)(h2:aV ρ r\d0)(h3:aa d0 p\.nd .lst cs)(aup:r≠i)(hr:∀b ws,ws.length=-cs->∃ρ',fr (arp i r p d0 cs ρ b ws)\.rt d ρ'):∃ρ',auo i fp fr ρ\.rt d ρ':=by
 refine#[blank ρ, ?_];have hx:r≠i/\∃d,∀b ws,ws.length=-cs->∃ρ',fr (arp i r p d0 cs ρ b ws)\.rt d ρ':=#[aup,d,hr]
 have e:hx.2.choose=d:=by
  let ρ1 e1:=hx.2.choose_spec 0 (ug (-cs) .aG) e_;let ai e2:=hr 0 (ug (-cs) .aG) e_;rw[e1]at e2;cases e2;rfl
 rw[auo];rw[h1,aoJ];dsimp only;rw[h2,aoJ,h3,aoJ];dsimp only;rw[dif_pos hx,e]
def axx(t:TE):TE:=t
theorem apc(h:PE X e t):PE X e (axx t):=h
def alL(ρ:En)(r:Nat):oT (zI×oH V):=match (aV ρ r).bind (aa · [0]) with
 |some (.nd (.tE b ws) _)=>oF (b,ws)
 |_=>oM
noncomputable def asy (k:Nat):oH Nat->Bool
 | [0]=>oP
 | [0,i]=>decide (i < k)
 |_=>yv
def EC(ρ ρ':En)(old new:oT B):oT B:=match new,old with
 |none,!.aB r q=>(alL ρ r).bind λx=>if alL ρ' r\x/\asy (-x.2) q=oP then oF (.aB r q) else oM
 |b,_=>b
def ED(ρ ρ':En):En:=List.zipWith (EC ρ ρ') ρ ρ'
def an5(f:En->oT (D×En))(ρ:En):oT (D×En):=(f ρ).map λa=>(a.1,ED ρ a.2)
theorem aCt(h:alL ρ r\(b,ws)):∃d cs,aV ρ r\d/\aa d [0]\.nd (.tE b ws) cs:=by
 rw[alL]at h
 split at h
 .next b' aH7 cs e=>
  cases h;let d h1 h2:=i_ e;exact#[d,cs,h1,h2]
 .lk
theorem aj.pinned(I:aj K n H U σ hv ρ τv τd)(h:alL ρ r\(b,ws)):∃vr o,(σ++hv)[r]?\!vr/\gU H vr [0] (.ref b)/\H b\.b9 o (.lst ws):=by
 let d cs h1 h2:=aCt h;let vr F ev _ rp:=I.AM h1;let u hu:=rp.path h2;let F1 _ r1 _:=rp.focus hu h2;obtain⟨a,vs,rfl,⟨e1,e2,o,e3⟩,_⟩:=r1.node;subst e1 e2;exact#[vr,o,ev,hu,e3]
theorem gU.aCu{vr v:V}(hp:gU H vr [0] (.ref b))(hb:H b\.b9 o (.lst ws))(hi:asy (-ws) q=oP):(q= [0]/\(gU H vr q v↔v= .ref b))\/∃i w,q= [0,i]/\ws[i]?\w/\(gU H vr q v↔v=w):=by
 unfold asy at hi
 split at hi
 .exact .inl #[rfl,λz=>z.inj hp,λz=>z^^hp]
 .next i=>
  have hl:i < -ws:=of_decide_eq_true hi;have hw:ws[i]?\ws[i]:=dH hl;have h2:gU H vr [0,i] ws[i]:=hp.app (.cons hb hw (.nil _));exact .inr #[i,_,rfl,hw,λz=>z.inj h2,λz=>z^^h2]
 .lk
theorem aj.keep{ρ ρ1:En}(I:aj K n H U σ hv ρ τv τd)(I1:aj K n H1 U' σ hv ρ1 aCv aCw):aj K n H1 U' σ hv (ED ρ ρ1) aCv aCw:=by
 have l:=I.len;have l1:=I1.len;have el:-ρ1=-ρ:=b_
 have ek:-(ED ρ ρ1)=-ρ1:=by rw[ED];rw[List.length_zipWith];lia
 refine#[?_,ek^^l1,I1.nn];rw[ek];let dw mu Fs dj sub sl:=I1.ok;refine#[by rw[dw,eO,eO,ek],mu,Fs,dj,sub,λj β aw=> ?_];by_cases c:j < -ρ1
 .rw[aU (ek^^c)]at aw;have aw:(List.zipWith (EC ρ ρ1) ρ ρ1)[j]?\!β:=aw;rw[List.getElem?_zipWith]at aw;have e0:ρ[j]?\ρ[j]:=dH b_;have e1:ρ1[j]?\ρ1[j]:=dH c;rw[e0,e1]at aw;have aw:EC ρ ρ1 ρ[j] ρ1[j]\β:=IM aw;cases q1:ρ1[j] with
  |some x=>
   rw[q1]at aw;have aw:oF x\β:=aw;cases aw;exact sl j β (by rw[aU c,e1,q1])
  |none=>
   rw[q1]at aw;cases q0:ρ[j] with
   |none=>rw[q0]at aw;lk
   |some y=>
    rw[q0]at aw;cases y with
    |own _=>lk
    |ro _=>lk
    |aB r q=>
     have aw:((alL ρ r).bind λx=>if alL ρ1 r\x/\asy (-x.2) q=oP then oF (B.aB r q) else oM)\β:=aw;obtain⟨⟨b,ws⟩,p0,aw⟩:=i_ aw
     split at aw
     .next cc=>
      cases aw;let p1 hi:=cc;let v0 F ev _ sv:=I.slot (show ρ[j]?\!.aB r q by rw[e0,q0]);let hr vr er hp:=sv;let aH8 o0 axy aaB aCx:=I.pinned p0;let aH9 o1 axz asz ant:=I1.pinned p1;rw[er]at axy;cases axy;rw[er]at axz;cases axz;refine#[v0,aU (by rw[eO];lia)^^ev,by lia,vr,aU (by rw[eO];lia)^^er, ?_];rcases gU.aCu (v:=v0) aaB aCx hi with⟨rfl,z⟩ | ⟨i,w,rfl,hw,z⟩
      .rw[z.mp hp];lk
      .rw[z.mp hp];exact asz.app (.cons ant hw (.nil _))
     .lk
 .rw[br (by rw[ek];lia),ek]at aw;refine sl j β ?_;rw[br b_];lk
instance (priority:=900) aIa{t:TE}{f:En->oT (D×En)}[A:SM K n t f]:SM K n (axx t) (an5 f):=#[λ{σ hv H U ρ ai τv τd d Q} I h k=>by
 obtain⟨⟨d1,ρ1⟩,h1,h2⟩:=aY.mp h;cases h2;exact A.s I h1 λv H1 U1 I1 bQ=>k v H1 U1 (I.keep I1) bQ]
def axA(t:TS):TS:=t
theorem aCy(h:PS X s t):PS X s (axA t):=h
def auq(f:En->oT Fl)(ρ:En):oT Fl:=(f ρ).map λ
 |.nx ρ'=> .nx (ED ρ ρ')
 |x=>x
instance (priority:=2000) aIb{td ty tv:TE}{f:En->oT Fl}[A:SS K n (G2 td ty tv) f]:SS K n (axA (G2 td ty tv)) (auq f):=#[λ{σ hv H U ρ τv τd fl E} I h k=>by
 let t6 h1 h2:=aY.mp h;have e:∀H',(σ=σ->E.nx σ H')=E.nx σ H':=λH'=>propext #[λz=>z rfl,λz _=>z];have key:G2 td ty tv { E with nx:=λdg H'=>dg=σ->E.nx dg H' } σ H:=by
  refine A.s I h1 ?_;cases t6 with
  |nx ρ'=>
   subst h2;intro dg H' U' I' st e;subst e;exact k _ H' U' (I.keep I') st
  |rt d ρ'=>subst h2;lk
  |bk ρ'=>subst h2;lk
  |ct ρ'=>subst h2;lk
 show G2 td ty tv E σ H;rw[G2]at key |-;dsimp only at key;have e2:∀p:Prop,(True->p)=p:=λp=>propext #[λz=>z trivial,λz _=>z];simp only[e,e2]at key;lk]
def axB(G:oH D->oT (D×oH D))(i:Nat)(fe fg:En->oT D)(ρ:En):oT (D×En):=(aT i ρ).bind λ
 |.rt r p=>(fe ρ).bind λd=>(fg (ρ++ [!.own d])).bind λx=>(fL G [.io #[r,p], .io #[-ρ, []], .tm x] (ρ++ [!.own d])).bind λa=>if -a.2=-ρ + 1 then oF (a.1,qE 0 (-ρ) a.2) else oM
 |.ro _=>oM
instance (priority:=50) aIc{G:oH D->oT (D×oH D)}{i:Nat}{te tg:TE}{fe fg:En->oT D}{E:XK}[L0:jC 0 n][L:jC i n][A:SQ K n te fe][B':SQ K n tg fg]:SM K n (og (dW K [oP,oP,yv] G) [] E (di (nE i) (di te (di tg fz)))) (axB G i fe fg):=#[λ{σ hv H U ρ ρ' τv τd d Q} I h k=>by
 let q h1 h:=i_ h;cases q with
 |ro _=>lk
 |rt r p=>
  let d2 h2 h:=i_ h;let d4 h4 h:=i_ h;obtain⟨⟨d3,Jt⟩,h3,h⟩:=i_ h;have h:(if -Jt=-ρ + 1 then oF (d3,qE 0 (-ρ) Jt) else oM)\(d,ρ'):=h;by_cases cl:-Jt=-ρ + 1
  .rw[zJ cl]at h;cases h;show nE i σ H λv1 H1=>te σ H1 λv2 H2=>tg σ H2 λv3 H3=>dW K [oP,oP,yv] G [v1,v2,v3] H3 Q E;refine(inferInstance:SP K n (nE i) (aT i)).s I h1 λv1 H1 s1 w1=> ?_;have I1:=I.same s1;have bQ:bH U H U H1:=λb o q nu=>#[s1 b o q,nu]
   refine SQ.s (f:=fe) I1 h2 λv2 H2 U2 I2 dJ s2=>?_;have w2:=w1.step s2 dJ;have I3:=I2.hide;refine SQ.s (f:=fg) I3 h4 λv3 H3 U3 I4 g8 s4=>?_;have w2:=w2.step s4 g8;have l:=I.len;have nn:=I.nn;have hM:-(σ++hv)=-ρ:=eO^^l
   let iN vr d0 er hr hs hp:=w2;have p1:wq K H3 U3 (σ++(hv++ [!v2])) (ρ++ [!.own d2]) v1 (.rt r p):=#[by rw[eO];lia,vr,d0,by rw[<- b8,aU b_];lk,aae hr,hs,hp]
   have p2:wq K H3 U3 (σ++(hv++ [!v2])) (ρ++ [!.own d2]) v2 (.rt (-ρ) []):=#[by rw[eO,pw];lia,v2,d2,by rw[<- b8,br b_,hM,kj];rfl,by rw[aV];rw[br (bO _),kj];rfl,by cases d2 <;> rfl, .nil _]
   exact aj.Ia (ws:= [v3]) (wd:= [d4]) I4 rfl ((bQ.trans dJ).trans g8) (.io p1 (.io p2 (.tm .nil))) h3 λv H' U' I' st'=>k v H' U' (I'.cls cl (by have:=L0.h;lia)) st'
  .rw[zK cl]at h;lk]
def aur(t:TE):TE:=ap8 t
theorem aCz(h:PE X e t):PE X e (aur t):=ahj h
def aus(f:En->oT D)(ρ:En):oT D:=(f ρ).map Eg
instance (priority:=40) aIe{t:TE}{f:En->oT D}[A:SF K n t f]:SF K n (aur t) (aus f):=#[λ{σ hv H U ρ τv τd d Q} I h k=>by
 let d1 h1 h2:=aY.mp h;subst h2;refine A.s I h1 λv H' s o=>?_;by_cases c:∃cs,d1= .nd .lst cs/\bI cs=oP
 .let cs rfl p:=c
  left;let G r g:=o;cases r with
  | @nd _ a _ vs _ Fs hold dw dj sub bB=>
   let Ga _ _ dx ha:=hold;have ha:H' a\.lst vs:=ha;refine#[a,vs,rfl,ha,λo=> ?_];have e:Eg (.nd .lst cs)= .nd .dk cs:=zJ p;rw[e]at k;have st:gu H' (dm H' a (.b9 o (.lst vs))):=vP (by rw[ha];trivial);exact k _ _ (λb ob q=>by rw[ba λz=>by rw[z,(g a Ga).1]at q;lk];exact s b ob q) #[λ_=>False, .nd (λ_ _=>False) #[p, .inl #[o,uB]] dw (λ_ _ _ z=>z.elim) (λ_ _ z=>z.elim) λi u d hu hd=>((bB i u d hu hd).vw.plain (xW p hd)).frame (λ_ _ z=>z.elim) st,λ_ z=>z.elim]
 .right;have e:Eg d1=d1:=by
   unfold Eg
   split
   .next cs=>exact zK λp=>c #[cs,rfl,p]
   .rfl
  rw[e]at k;exact k v H' s o]
def aut(i j:Nat)(g:D->D->oT Nat)(fb:En->oT (D×En))(ρ:En):oT Fl:=(af i ρ).bind λ_=>(fb ρ).bind λa=>(aT i a.2).bind λq0=>(nT a.2 q0).bind λd=>(g d a.1).bind λx=>(oC a.2 q0 x).bind λq=>match q with
 |.ro d=>oF (.nx (bq j (.ro d) a.2))
 |.rt r p=>if r=j then oM else oF (.nx (bq j (.aB r p) a.2))
instance (priority:=5000) aIf{r:R2}{i j:Nat}{args:TA}{bp:oH Bool}{G:oH D->oT (D×oH D)}{E:XK}{fb:En->oT (D×En)}{g:D->D->oT Nat}{gs:V->D->oT V}
  [L:jC i n] [L2:jC j n] [B':SM K n (og (dW K bp G) [] E args) fb] [O:tU K r g gs]:SS K n (vh (ig r (nE i) (og (dW K bp G) [] E args)) (lB j)) (aut i j g fb):=#[λ{σ hv H U ρ τv τd fl E} I h k=>by
 let x0 h0 h:=i_ h;obtain⟨⟨y0,ρ1⟩,h1,h⟩:=i_ h;let q0 h2 h:=i_ h;let d h3 h:=i_ h;let x h4 h:=i_ h;let q h5 h:=i_ h;have k0:nE i σ H λv H'=>Vw K H' T1 v x0:=(inferInstance:SV K n (nE i) (af i)).s I h0 λv H' _ w=>w;let v ev _:=k0;refine#[v,ev,B'.s I h1 λy H2 U2 I2 dJ=> ?_];have k1:nE i σ H2 λv H'=>aJ H2 H'/\wq K H' U2 (σ++hv) ρ1 v q0:=(inferInstance:SP K n (nE i) (aT i)).s I2 h2 λv H' s w=>#[s,w]
 let v' ij _ w:=k1;rw[ev]at ij;cases ij;let a kk vs cs u c rfl e1 hc hl hu _ ok _:=I2.bB w h5;have h3:nT ρ1 q0\d:=h3;rw[h3]at e1;cases e1;refine O.s hc hl I2.last h4 hu ?_;have I3:=I2.qw;cases q with
 |ro d'=>
  cases h;exact k _ H2 U2 (I3.named L2.h (β:= .ro d') ok) dJ
 |rt r p=>
  have h:(if r=j then oM else oF (Fl.nx (bq j (.aB r p) ρ1)))\fl:=h;by_cases c:r=j
  .rw[zJ c]at h;lk
  .rw[zK c]at h;cases h;let hr vr d0 er _ _ hp:=ok;exact k _ H2 U2 (I3.named L2.h (β:= .aB r p) #[hr,c,vr,er,hp]) dJ]
end
section
noncomputable def Nj:zO->Bool
 |.Starred ..=>oP
 |_=>yv
theorem acC{e:zO}(h:Nj e=yv):ix (e::es) env=(yv,eval e env)::ix es env:=by
 cases e <;> first | rfl | lk
theorem cU(ha:PE X e te)(hr:PA X es t)(h:autoParam (Nj e=yv) q_3._auto_1):PA X (e::es) (di te t):=fJ ha hr (acC h)
end
end VL
set_option synthInstance.maxHeartbeats 1000000
set_option synthInstance.maxSize 4000
namespace K84
open PySem L2 VL
theorem hg:∀(M:D),aa M []\M:=λM=>by cases M <;> rfl
theorem alF:∀(M e:D),aZ M [] e=e:=λM e=>by cases M <;> rfl
noncomputable def se (i:Nat):zP:=PySem.Challenge.pw_farshelf_k84_whole_what_is_written_stays.main.body.getD i (.Pass #[0,0,0,0])
abbrev JL:zP:=se 21
abbrev JM:zP:=se 22
abbrev auu:zP:=se 23
abbrev JN:zP:=se 24
abbrev JI:zP:=se 25
abbrev auv:zP:=ah8 (se 4) 0
abbrev auw:zP:=se 26
abbrev auy:zP:=se 33
abbrev auz:zP:=se 27
abbrev auA:zP:=se 10
abbrev auB:zP:=se 5
abbrev auC:zP:=se 13
abbrev auD:zP:=se 17
abbrev auE:zP:=se 1
abbrev auF:zP:=se 7
abbrev auG:zP:=se 14
abbrev auH:zP:=se 2
abbrev auI:zP:=se 8
abbrev auJ:zP:=se 9
abbrev auK:zP:=se 11
abbrev auL:zP:=se 12
abbrev auM:zP:=se 15
abbrev auN:zP:=se 16
abbrev auO:zP:=ah8 (se 4) 5
abbrev auP:zP:=se 28
abbrev auQ:zP:=se 29
abbrev auR:zP:=se 6
abbrev auS:zP:=ah8 (se 4) 1
abbrev auT:zP:=ah8 (se 4) 3
abbrev auU:zP:=ah8 (se 4) 2
abbrev auV:zP:=se 36
abbrev auW:zP:=se 30
abbrev auX:zP:=se 31
abbrev auY:zP:=ah8 (se 4) 4
abbrev auZ:zP:=se 32
abbrev au0:zP:=se 34
abbrev au1:zP:=se 18
abbrev au2:zP:=se 19
abbrev au3:zP:=se 35
abbrev yz:zP:=se 37
structure bM(mg:Str->Option zL):Prop where
 u0:mg "len"=oM
 Bj:mg "range"=oM
 rY:mg "list"=oM
 Kv:mg "tuple"=oM
 yA:mg "int"=oM
 acP:mg "max"=oM
 acQ:mg "min"=oM
 pV:mg "all"=oM
 acR:mg "any"=oM
 rZ:mg "isinstance"=oM
 aIg:mg "str"=oM
 acS:mg "bool"=oM
 alG:mg "dict"=oM
 we:mg "sorted"=oM
theorem ac9:dr ["_law_script","_law_k"] ["_law_script","_law_k"] (cb JL):=rF
theorem Sy:dr ["_law_cell","_law_k","_law_m"] ["_law_cell","_law_k"] (cb JM):=rF
theorem asA:dr ["_law_cell","_law_k","_law_number","_law_j"] ["_law_cell","_law_k"] (cb auu):=rF
theorem Bl:dr ["_law_script","_law_k","_law_cell"] ["_law_script","_law_k"] (cb JN):=rF
theorem Sx:dr ["_law_left_here","_law_many","_law_digit"] ["_law_left_here","_law_many"] (cb JI):=rF
theorem aCA:dr ["self","number","many"] ["self","number","many"] (cb auv):=rF
theorem au4:dr ["_law_script","_law_left_here","_law_many"] ["_law_script"] (cb auw):=rF
theorem asB:dr ["_law_places","_law_many","_law_found","_law_k"] ["_law_places","_law_many"] (cb auy):=rF
theorem axC:dr ["_law_world","_law_m","_law_deed","_law_what","_law_told","_law_one"] ["_law_world","_law_m","_law_deed","_law_what","_law_told"] (cb auz):=rF
theorem aCB:dr ["master","many"] ["master","many"] (cb auA):=rF
theorem aCC:dr ["master"] ["master"] (cb auB):=rF
theorem au5:dr ["master","sizes","common"] ["master"] (cb auC):=rF
theorem aCD:dr ["master","sender","term","size"] ["master","sender","term","size"] (cb auD):=rF
theorem aCE:dr ["value"] ["value"] (cb auE):=rF
theorem axD:dr ["master","rows"] ["master"] (cb auF):=rF
theorem aCF:dr ["master","sender","term"] ["master","sender","term"] (cb auG):=rF
theorem aCG:dr ["value"] ["value"] (cb auH):=rF
theorem axE:dr ["master","rows","fixed"] ["master","rows"] (cb auI):=rF
theorem au6:dr ["master","rows","size"] ["master","rows"] (cb auJ):=rF
theorem aCH:dr ["voice"] ["voice"] (cb auK):=rF
theorem axF:dr ["master","greatest"] ["master"] (cb auL):=rF
theorem aCI:dr ["master","sender","term","of","rows"] ["master","sender","term","of","rows"] (cb auM):=rF
theorem aCJ:dr ["master","sender","term","rows","done"] ["master","sender","term","rows","done"] (cb auN):=rF
theorem aCK:dr ["self","message"] ["self","message"] (cb auO):=rF
theorem axG:dr ["_law_world","_law_k","_law_stays_here","_law_message"] ["_law_world","_law_k","_law_stays_here"] (cb auP):=rF
theorem arq:dr ["_law_world","_law_left_here","_law_words","_law_whole","_law_turn","_law_k","_law_turned"] ["_law_world","_law_left_here","_law_words","_law_whole"] (cb auQ):=rF
theorem axH:dr ["master","least"] ["master"] (cb auR):=rF
theorem aCL:dr ["self"] ["self"] (cb auS):=rF
theorem aCM:dr ["self"] ["self"] (cb auT):=rF
theorem aCN:dr ["self","row"] ["self","row"] (cb auU):=rF
theorem au7:dr ["_law_world","_law_left_here","_law_written","_law_masters","_law_one"] ["_law_world","_law_left_here","_law_written"] (cb auV):=rF
theorem au8:dr ["_law_world","_law_left_here","_law_masters","_law_some"] ["_law_world","_law_left_here"] (cb auW):=rF
theorem asC:dr ["_law_world","_law_left_here","_law_m","_law_turn","_law_row"] ["_law_world","_law_left_here"] (cb auX):=rF
theorem aCO:dr ["self"] ["self"] (cb auY):=rF
theorem ap9:dr ["_law_world","_law_left_here","_law_road_here","_law_m","_law_one","_law_turn"] ["_law_world","_law_left_here"] (cb auZ):=rF
theorem ars:dr ["_law_written","_law_masters","_law_one","_law_sure","_law_short"] ["_law_written","_law_masters"] (cb au0):=rF
theorem aCP:dr ["master"] ["master"] (cb au1):=rF
theorem axI:dr ["masters","some","greatest"] ["masters","some"] (cb au2):=rF
theorem aCQ:dr ["_law_masters","_law_choices_here","_law_written"] ["_law_masters","_law_choices_here","_law_written"] (cb au3):=rF
section
variable (P:zR)(w:zQ)(K:ah)(mg:Str->oT zL)(base:zN)(Cm:zI)[nc K Cm]
def KG: {g:oG K Cm // ∀{P w mg base f fd},cY K "_law_pick" "_law_pick" JI f fd->bM mg->bZ P w K mg base cG 1 f fd ["_law_left_here","_law_many"] (dW K [oP,yv] (dG 3 [oP,yv] g))}:=#[_,λF T=>za F Sx λ_ _ _ _ _ _ hr=>(aL (bS (PW.pt (zF (d6 (fX hr.units) (pxx hr (pv 0) dA) dA) (zE (d6 Gq (pln T.u0 (pv 0)) dA))))
   (dY (WK (abN (pv 0)) (WJ (pv 0) dA ah7))) cQ)
  (aL (bX 2 Sx.nd (sg Ae (pxx hr (pv 0) dA) (pv 1)))
  (aL (WK (sg Pq (pxx hr (pv 0) dA) (pv 1)) (WJ (pv 0) dA ah7))
  (bu (pv 2)))))]
def Bp:oH D->oT (D×oH D):=dG 3 [oP,yv] (KG K Cm).1
abbrev ur:Prop:=dt P w K mg base "_law_pick" ["_law_left_here","_law_many"] 1 (dW K [oP,yv] (Bp K Cm))
def au9: {g:oG K Cm // ∀{P w mg base f fd},cY K "_law_leader" "_law_leader" auW f fd->bM mg->ur P w K mg base Cm->bZ P w K mg base cG 3 f fd ["_law_world","_law_left_here"] (dW K [yv,oP] (dG 4 [yv,oP] g))}:=#[_,λF T fj=>za F au8 λ_ _ _ _ _ _ hr=>(aL (bX 2 au8.nd (pxx hr (pv 0) aC))
  (aL (aw8 (k:=3) [oM] ["_law_one"] rfl (jI trivial) au8.nd rfl (ao3 rfl) (lV (pv 2)) (λ_ _ _ _ _ _=>(Kf 0 lQ)) (λ_ _ _ _ _ _=>(PD (d6 (fX hr.units) (fY (pv 0)) aC))) (λ_ _ _ _ _ _=>(eZ (eS (fY (pv 0)) (fY (pv 0))))))
  (aL (bS (PW.pt (F7 (d6 (fX hr.units) (pv 3) (iX gk)) (F6 (d6 (fX hr.units) (bC fj hr rfl (eS (pv 1) dA)) dA))))
   (bu (bC fj hr rfl (eS (pv 1) (pln T.u0 (pv 2))))) cQ)
  (bu (pxx hr (fK (r:=aul K) (aCp (akV hr) rfl) rfl T.acP aqG (cJ (pv 3))) dA)))))]
def asD:oH D->oT (D×oH D):=dG 4 [yv,oP] (au9 K Cm).1
abbrev axJ:Prop:=dt P w K mg base "_law_leader" ["_law_world","_law_left_here"] 3 (dW K [yv,oP] (asD K Cm))
def ava: {g:oG K Cm // ∀{P w mg base f fd},cY K "_law_note" "_law_note" auz f fd->bM mg->bZ P w K mg base cG 1 f fd ["_law_world","_law_m","_law_deed","_law_what","_law_told"] (dW K [oP,yv,yv,yv,yv] (dG 6 [oP,yv,yv,yv,yv] g))}:=#[_,λF T=>za F axC λ_ _ _ _ _ _ hr=>(aL (bX 5 axC.nd (pxx hr (pxx hr (pv 0) aC) (pv 1)))
  (aL (vX (aG8 (pxx hr (pv 0) aC) (eZ (cU (pv 1) (cU (pv 2) (cU (pv 3) (eS (pv 4) (eZ (cU (fY (pv 5)) (cU (fY (pv 5)) (cU (asx T.Kv (fY (pv 5))) (eS (fY (pv 5)) (fY (pv 5))))))))))))))
  (dY (bS (d6 QS (pv 4) qZ)
   (dY (apo (akV hr) (pv 0) aC (xB (r:=oR K) yh (sg aCr (pxx hr (pv 0) aC) (pv 4)) (an0 (Gk Gm dA)) OX) rfl)) cQ))))]
def an6:oH D->oT (D×oH D):=dG 6 [oP,yv,yv,yv,yv] (ava K Cm).1
abbrev asE:Prop:=dt P w K mg base "_law_note" ["_law_world","_law_m","_law_deed","_law_what","_law_told"] 1 (dW K [oP,yv,yv,yv,yv] (an6 K Cm))
def avb: {g:oG K Cm // ∀{P w mg base f fd},cY K "others" "others" auB f fd->bM mg->bZ P w K mg base cG 1 f fd ["master"] (cL K 1 (bV 1 g))}:=#[_,λF T=>iy F aCC λ_ _ _ _ _ _ hr=>(bu (ahh [oM,!0] ["number","master"] rfl (jI #[#[rfl,rfl, .inl rfl],trivial]) (CL rfl T.Bj (cJ (fY (pv 0)))) (λ_ _ _ _ _ _=>(Kf 0 (by decide +kernel:(["number","master"]:oH Str).Nodup))) (λ_ _ _ _ _ _=>(PD (d6 (one hr.units) (pv 0) (fY (pv 1))))) (λ_ _ _ _ _ _=>(pv 0))))]
def asF:oH D->oT D:=bV 1 (avb K Cm).1
abbrev avc:Prop:=dt P w K mg base "others" ["master"] 1 (cL K 1 (asF K Cm))
abbrev axK(K:ah)(Cm:zI)[nc K Cm](Gs:oH D->oT D):TS:=(sX (xu (tB (jU (j4 K "list") (di (nE 0) (di (tC (.ty "list")) fz))))
   (qi (xH (vV K (nE 0)) (lB 0) Dm (og (cL K 1 Gs) [] E0 (di (nE 0) fz)) [oM])) xt)
  (sX (xu (tB (jU (j4 K "tuple") (di (nE 0) (di (tC (.ty "tuple")) fz))))
   (qi (jU (aqK K) (di (xH (vV K (nE 0)) (lB 0) Dm (og (cL K 1 Gs) [] E0 (di (nE 0) fz)) [oM]) fz))) xt)
  (sX (xu (tB (jU (j4 K "dict") (di (nE 0) (di (tC (.ty "dict")) fz))))
   atD xt)
  (qi (nE 0)))))
def art(K:ah)(Cm:zI)[nc K Cm](Gs:oH D->oT D): {f:En->oT Fl // SS K 1 (axK K Cm Gs) f}:=#[_,inferInstance]
noncomputable def aqa (K:ah) (Cm:zI) [nc K Cm] (Gs:oH D->oT D):En->oT Fl:=(art K Cm Gs).1
def abq(K:ah)(Cm:zI)[nc K Cm]:Nat->oH D->oT D
 |0=>λ_=>oM
 |m + 1=>bV 1 (aqa K Cm (abq K Cm m))
def aqb(K:ah)(Cm:zI)[nc K Cm]:oH D->oT D:=abq K Cm 3
abbrev asG:Prop:=dt P w K mg base "own_copy" ["value"] 4 (cL K 1 (aqb K Cm))
variable {P w K mg base Cm} in
theorem axL{f:zI}{fd:kK}(F:cY K "own_copy" "own_copy" auE f fd)(T:bM mg)(hb:L2.Binds K fd ["value"] [])(hm:mg "own_copy"\.ref f):∀m:Nat,bZ P w K mg base cG (1 + m) f fd ["value"] (cL K 1 (abq K Cm m))
 |0=>abe
 |j + 1=>by
  have abr:=dt.of F hb hm (axL F T hb hm j);refine F.ok aCE (λvs H Q E h=>Q7 h) (λdB A outer s H vs Q E hr h=> ?_);exact#[axK K Cm (abq K Cm j),(aL (bS (aod (fK (r:=j4 K "list") tX rfl T.rZ uY (fJ (pv 0) (fJ (qf (v:= .ty "list") rfl T.rY uX rfl) gk))))
   (dY (vf (ahh [oM] ["part"] rfl (jI trivial) (QZ (pv 0)) (λ_ _ _ _ _ _=>(Gb (i:=0) lQ rfl (ao3 rfl))) (λ_ _ _ _ _ _=>ko) (λ_ _ _ _ _ _=>(bC abr hr rfl (fJ (pv 0) gk) (bO _)))))) cQ)
  (aL (bS (aod (fK (r:=j4 K "tuple") tX rfl T.rZ uY (fJ (pv 0) (fJ (qf (v:= .ty "tuple") rfl T.Kv awR rfl) gk))))
   (dY (vf (oh (r:=(aqK K)) axb rfl T.Kv awR (fJ (ahh [oM] ["part"] rfl (jI trivial) (QZ (pv 0)) (λ_ _ _ _ _ _=>(Gb (i:=0) lQ rfl (ao3 rfl))) (λ_ _ _ _ _ _=>ko) (λ_ _ _ _ _ _=>(bC abr hr rfl (fJ (pv 0) gk) (bO _)))) gk)))) cQ)
  (aL (bS (aod (fK (r:=j4 K "dict") tX rfl T.rZ uY (fJ (pv 0) (fJ (qf (v:= .ty "dict") rfl T.alG aHl rfl) gk))))
   aBI cQ)
  (dY (vf (pv 0)))))),Qx (S:=(art K Cm (abq K Cm j)).2) h a_]
end
section
variable (P:zR)(w:zQ)(K:ah)(mg:Str->oT zL)(base:zN)(Cm:zI)[nc K Cm]
def avd: {g:oG K Cm // ∀{P w mg base f fd},cY K "rows_told" "rows_told" auF f fd->bM mg->asG P w K mg base Cm->bZ P w K mg base cG 5 f fd ["master"] (cL K 1 (bV 2 g))}:=#[_,λF T abr=>iy F axD λ_ _ _ _ _ _ hr=>(aL (bX 1 axD.nd (asx T.Kv (fY (pv 0))))
  (bu (Oj (aod (fY (pv 0))) (pv 1) (bC abr hr rfl (cJ (pv 1))))))]
def ave:oH D->oT D:=bV 2 (avd K Cm).1
abbrev axM:Prop:=dt P w K mg base "rows_told" ["master"] 5 (cL K 1 (ave K Cm))
def asH: {g:oG K Cm // ∀{P w mg base f fd},cY K "send" "Master.send" auT f fd->bM mg->avc P w K mg base Cm->axM P w K mg base Cm->bZ P w K mg base cG 6 f fd ["self"] (cL K 1 (bV 1 g))}:=#[_,λF T aoT aqc=>iy F aCM λ_ _ _ _ _ _ hr=>(aL (bS (d6 (one hr.units) (fY (pv 0)) aC)
   (bu (iX gk)) cQ)
  (bu (ahh [oM,!0] ["other","self"] rfl (jI #[#[rfl,rfl, .inl rfl],trivial]) (lV (bC aoT hr rfl (cJ (pv 0)))) (λ_ _ _ _ _ _=>(Kf 0 (by decide +kernel:(["other","self"]:oH Str).Nodup))) (λ_ _ _ _ _ _=>ko) (λ_ _ _ _ _ _=>(eZ (cU aC (cU (fY (pv 1)) (cU (pv 0) (cU (fY (pv 1)) (eS (bC aqc hr rfl (cJ (pv 1))) (fY (pv 1))))))))))))]
def aoD:oH D->oT D:=bV 1 (asH K Cm).1
abbrev avf:Prop:=an3 P w K mg base Cm "send" ["self"] 6 (cL K 1 (aoD K Cm))
def avg: {g:oG K Cm // ∀{P w mg base f fd},cY K "is_most" "is_most" auA f fd->bM mg->bZ P w K mg base cG 1 f fd ["master","many"] (cL K 2 (bV 2 g))}:=#[_,λF T=>iy F aCB λ_ _ _ _ _ _ hr=>(bu (A6 Gq (sg tu dA (pv 1)) (fY (pv 0))))]
def avh:oH D->oT D:=bV 2 (avg K Cm).1
abbrev axN:Prop:=dt P w K mg base "is_most" ["master","many"] 1 (cL K 2 (avh K Cm))
def avi: {g:oG K Cm // ∀{P w mg base f fd},cY K "count_done" "count_done" auC f fd->bM mg->avc P w K mg base Cm->axN P w K mg base Cm->bZ P w K mg base cG 3 f fd ["master"] (dW K [oP] (dG 3 [oP] g))}:=#[_,λF T aoT aqd=>za F au5 λ_ _ _ _ _ _ hr=>(aL (bX 1 au5.nd (sg UT (ahh [oM,!0] ["other","master"] rfl (jI #[#[rfl,rfl, .inl rfl],trivial]) (lV (bC aoT hr rfl (cJ (pv 0)))) (λ_ _ _ _ _ _=>(Kf 0 (by decide +kernel:(["other","master"]:oH Str).Nodup))) (λ_ _ _ _ _ _=>ko) (λ_ _ _ _ _ _=>(vC (akV hr) (fY (pv 1)) (pv 0) dA #[rfl,rfl,rfl,rfl]))) (iX (cJ (pln T.u0 (fY (pv 0)))))))
  (aL (aw8 (k:=2) [oM,!0,!1] ["size","master","sizes"] rfl (jI #[#[rfl,rfl, .inl rfl],#[#[rfl,rfl, .inl rfl],trivial]]) au5.nd rfl (ao3 rfl) (lV (pv 1)) (λ_ _ _ _ _ _=>(Kf 0 (by decide +kernel:(["size","master","sizes"]:oH Str).Nodup))) (λ_ _ _ _ _ _=>(PD (aod (bC aqd hr rfl (eS (pv 1) (pln T.u0 (ahh [oM,!0] ["other","size"] rfl (jI #[#[rfl,rfl,(by first | exact .inl rfl | exact .inr rfl)],trivial]) (lV (pv 2)) (λ_ _ _ _ _ _=>(Kf 0 (by decide +kernel:(["other","size"]:oH Str).Nodup))) (λ_ _ _ _ _ _=>(PD (d6 aw2 (pv 0) (pv 1)))) (λ_ _ _ _ _ _=>(pv 0))))))))) (λ_ _ _ _ _ _=>(pv 0)))
  (dY (IW (pv 0) (fK (r:=(asa K)) (axj rfl) rfl T.acP aqG (cJ (sg UT (iX (cJ (fY (pv 0)))) (pv 2))))))))]
def avj:oH D->oT (D×oH D):=dG 3 [oP] (avi K Cm).1
abbrev axO:Prop:=dt P w K mg base "count_done" ["master"] 3 (dW K [oP] (avj K Cm))
abbrev axP(K:ah)(Cm:zI)[nc K Cm](Gs:oH D->oT D):TS:=(sX (xu (tB (jU (j4 K "tuple") (di (nE 0) (di (tC (.ty "tuple")) fz))))
   (qi (jU (mw K) (di (xH (vV K (nE 0)) (lB 0) Dm (og (cL K 1 Gs) [] E0 (di (nE 0) fz)) [oM]) fz))) xt)
  (qi (F8 (jU (D1 K) (di (nE 0) (di (Ai (di (tC (.ty "list")) (di (tC (.ty "dict")) fz))) fz))))))
def asI(K:ah)(Cm:zI)[nc K Cm](Gs:oH D->oT D): {f:En->oT Fl // SS K 1 (axP K Cm Gs) f}:=#[_,inferInstance]
noncomputable def asJ (K:ah) (Cm:zI) [nc K Cm] (Gs:oH D->oT D):En->oT Fl:=(asI K Cm Gs).1
def aom(K:ah)(Cm:zI)[nc K Cm]:Nat->oH D->oT D
 |0=>λ_=>oM
 |m + 1=>bV 1 (asJ K Cm (aom K Cm m))
def asK(K:ah)(Cm:zI)[nc K Cm]:oH D->oT D:=aom K Cm 3
abbrev aCR:Prop:=dt P w K mg base "is_fixed" ["value"] 4 (cL K 1 (asK K Cm))
variable {P w K mg base Cm} in
theorem axQ{f:zI}{fd:kK}(F:cY K "is_fixed" "is_fixed" auH f fd)(T:bM mg)(hb:L2.Binds K fd ["value"] [])(hm:mg "is_fixed"\.ref f):∀m:Nat,bZ P w K mg base cG (1 + m) f fd ["value"] (cL K 1 (aom K Cm m))
 |0=>abe
 |j + 1=>by
  have aru:=dt.of F hb hm (axQ F T hb hm j);refine F.ok aCG (λvs H Q E h=>Q7 h) (λdB A outer s H vs Q E hr h=> ?_);exact#[axP K Cm (aom K Cm j),(aL (bS (aod (fK (r:=j4 K "tuple") tX rfl T.rZ uY (fJ (pv 0) (fJ (qf (v:= .ty "tuple") rfl T.Kv awR rfl) gk))))
   (dY (vf (fK (r:=(mw K)) (pN rfl) rfl T.pV qV (fJ (ahh [oM] ["part"] rfl (jI trivial) (QZ (pv 0)) (λ_ _ _ _ _ _=>(Gb (i:=0) lQ rfl (ao3 rfl))) (λ_ _ _ _ _ _=>ko) (λ_ _ _ _ _ _=>(bC aru hr rfl (fJ (pv 0) gk) (bO _)))) gk)))) cQ)
  (dY (vf (WG (fK (r:=D1 K) aaR rfl T.rZ uY (fJ (pv 0) (fJ (eZ (fJ (qf (v:= .ty "list") rfl T.rY uX rfl) (fJ (qf (v:= .ty "dict") rfl T.alG aHl rfl) gk))) gk))))))),Qx (S:=(asI K Cm (aom K Cm j)).2) h a_]
end
section
variable (P:zR)(w:zQ)(K:ah)(mg:Str->oT zL)(base:zN)(Cm:zI)[nc K Cm]
def avk: {g:oG K Cm // ∀{P w mg base f fd},cY K "take_behind" "take_behind" auI f fd->bM mg->aCR P w K mg base Cm->asG P w K mg base Cm->bZ P w K mg base cG 5 f fd ["master","rows"] (dW K [oP,yv] (dG 3 [oP,yv] g))}:=#[_,λF T aru abr=>za F axE λ_ _ _ _ _ _ hr=>(aL (bX 2 axE.nd (bC aru hr rfl (cJ (pv 1))))
  (aL (IW (pv 0) (sg UT (fY (pv 0)) (axv T.rY (Oj (aod (pv 2)) (pv 1) (bC abr hr rfl (cJ (pv 1)))))))
  (dY (IW (pv 0) (aw0 (fY (pv 0)) (qg (pv 2)))))))]
def avl:oH D->oT (D×oH D):=dG 3 [oP,yv] (avk K Cm).1
abbrev axR:Prop:=dt P w K mg base "take_behind" ["master","rows"] 5 (dW K [oP,yv] (avl K Cm))
def asL: {g:oG K Cm // ∀{P w mg base f fd},cY K "add" "Master.add" auU f fd->bM mg->axR P w K mg base Cm->axO P w K mg base Cm->avf P w K mg base Cm->bZ P w K mg base cG 7 f fd ["self","row"] (dW K [oP,yv] (dG 2 [oP,yv] g))}:=#[_,λF T aqe aqf aoU=>za F aCN λ_ _ _ _ _ _ hr=>(aL (bS (d6 (one hr.units) (fY (pv 0)) aC)
   (bu qZ) cQ)
  (aL (vX (bC aqe hr rfl (eS (pv 0) (eZ (cJ (pv 1))))))
  (aL (vX (bC aqf hr rfl (cJ (pv 0))))
  (bu (apr aoU hr (pv 0))))))]
def aon:oH D->oT (D×oH D):=dG 2 [oP,yv] (asL K Cm).1
abbrev axS:Prop:=an3 P w K mg base Cm "add" ["self","row"] 7 (dW K [oP,yv] (aon K Cm))
def avm: {g:oG K Cm // ∀{P w mg base f fd},cY K "_law_added" "_law_added" auX f fd->bM mg->axJ P w K mg base Cm->ur P w K mg base Cm->asE P w K mg base Cm->axS P w K mg base Cm->bZ P w K mg base cG 8 f fd ["_law_world","_law_left_here"] (dW K [oP,oP] (dG 5 [oP,oP] g))}:=#[_,λF T aqg fj U5 aqh=>za F asC λ_ _ _ _ _ _ hr=>(aL (bX 2 asC.nd (bC aqg hr rfl (eS (pv 0) (pv 1))))
  (dY (tq sQ rfl (CL rfl T.Bj (cJ (sg UT dA (bC fj hr rfl (eS (pv 1) dA))))) (Kf 3 asC.nd)
   (aL (apo (akV hr) (pv 0) aC (sg UT (pxx hr (pv 0) aC) dA) rfl)
  (aL (bX 4 asC.nd (eZ (eS aC (pxx hr (iX (eS (pxx hr (pv 0) aC) dA)) (sg Pq (bC fj hr rfl (eS (pv 1) dA)) dA)))))
  (dY (vX (bC U5 hr rfl (cU (pv 0) (cU (pv 2) (cU aC (eS (pv 4) (ahj (atQ aqh hr (pxx hr (pxx hr (pv 0) aC) (pv 2)) (cJ (pv 4))))))))))))))))]
def asM:oH D->oT (D×oH D):=dG 5 [oP,oP] (avm K Cm).1
abbrev aCS:Prop:=dt P w K mg base "_law_added" ["_law_world","_law_left_here"] 8 (dW K [oP,oP] (asM K Cm))
def EH: {g:oG K Cm // ∀{P w mg base f fd},cY K "_law_cell_at" "_law_cell_at" JL f fd->bM mg->bZ P w K mg base cG 1 f fd ["_law_script","_law_k"] (cL K 2 (bV 2 g))}:=#[_,λF T=>iy (t:=(sX (xu (apR (ig (qj λi j=> .bl (decide (i < j))) (nE 1) (jU (vT K) (di (nE 0) fz))))
   (qi (ig (DW K) (nE 0) (nE 1))) xt)
  (qi (tC (.int 0))))) F ac9 λ_ _ _ _ _ _ hr=>(aL (bS (d6 apn (pv 1) (pln T.u0 (pv 0)))
   (bu (pxx hr (pv 0) (pv 1))) cQ)
  (bu dA))]
def EI:oH D->oT D:=bV 2 (EH K Cm).1
abbrev adm:Prop:=dt P w K mg base "_law_cell_at" ["_law_script","_law_k"] 1 (cL K 2 (EI K Cm))
def K9: {g:oG K Cm // ∀{P w mg base f fd},cY K "_law_mix" "_law_mix" JM f fd->bM mg->bZ P w K mg base cG 1 f fd ["_law_cell","_law_k"] (cL K 2 (bV 3 g))}:=#[_,λF T=>iy F Sy λ_ _ _ _ _ _ hr=>(aL (bX 2 Sy.nd (sg Ae (sg tu (sg UT (sg UT (sg Ae (pv 0) dA) (sg tu (sg tu (pv 1) (pv 1)) dA)) dA) dA) dA))
  (bu (sg Ae (sg tu (pv 2) (pv 2)) dA)))]
def La:oH D->oT D:=bV 3 (K9 K Cm).1
abbrev adz:Prop:=dt P w K mg base "_law_mix" ["_law_cell","_law_k"] 1 (cL K 2 (La K Cm))
def avn: {g:oG K Cm // ∀{P w mg base f fd},cY K "_law_rich" "_law_rich" auu f fd->bM mg->adz P w K mg base Cm->bZ P w K mg base cG 2 f fd ["_law_cell","_law_k"] (cL K 2 (bV 4 g))}:=#[_,λF T ER=>iy F asA λ_ _ _ _ _ _ hr=>(aL (bX 2 asA.nd dA)
  (aL (tq sQ rfl (CL rfl T.Bj (cJ dA)) (Kf 3 asA.nd)
   (dY (bX 2 asA.nd (sg UT (sg tu (pv 2) dA) (bC ER hr rfl (eS (bC ER hr rfl (eS (pv 0) (sg UT (pv 1) (sg tu dA (pv 3))))) (pv 3)))))))
  (bu (pv 2))))]
def aqi:oH D->oT D:=bV 4 (avn K Cm).1
abbrev axT:Prop:=dt P w K mg base "_law_rich" ["_law_cell","_law_k"] 2 (cL K 2 (aqi K Cm))
def Lb: {g:oG K Cm // ∀{P w mg base f fd},cY K "_law_left" "_law_left" JN f fd->bM mg->adm P w K mg base Cm->axT P w K mg base Cm->bZ P w K mg base cG 3 f fd ["_law_script","_law_k"] (cL K 2 (bV 3 g))}:=#[_,λF T Lc apA=>iy F Bl λ_ _ _ _ _ _ hr=>(aL (bX 2 Bl.nd (bC Lc hr rfl (eS (pv 0) (pv 1))))
  (aL (bS (d6 aw2 (pv 2) (sg WY dA dA))
   (bu (iX (eS (pv 2) (bC apA hr rfl (eS (pv 2) (pv 1)))))) cQ)
  (bu (iX (cJ (bC apA hr rfl (eS (pv 2) (pv 1))))))))]
def uu:oH D->oT D:=bV 3 (Lb K Cm).1
abbrev adA:Prop:=dt P w K mg base "_law_left" ["_law_script","_law_k"] 3 (cL K 2 (uu K Cm))
def avo: {g:oG K Cm // ∀{P w mg base f fd},cY K "__init__" "Master.__init__" auv f fd->bM mg->bZ P w K mg base cG 1 f fd ["self","number","many"] (dW K (oP::ug 2 yv) (dG 3 (oP::ug 2 yv) g))}:=#[_,λF T=>za F aCA λ_ _ _ _ _ _ hr=>(aL (IW (pv 0) (pv 1))
  (aL (IW (pv 0) (pv 2))
  (aL (IW (pv 0) dA)
  (aL (IW (pv 0) dA)
  (aL (IW (pv 0) (iX gk))
  (aL (IW (pv 0) dA)
  (aL (IW (pv 0) aC)
  (aL (IW (pv 0) qo)
  (aL (IW (pv 0) qo)
  (dY (IW (pv 0) zD)))))))))))]
def apd:oH D->oT (D×oH D):=dG 3 (oP::ug 2 yv) (avo K Cm).1
abbrev aCT:Prop:=IA P w K mg base "Master" Cm ["self","number","many"] 1 (dW K (oP::ug 2 yv) (apd K Cm))
def avp: {g:oG K Cm // ∀{P w mg base f fd},cY K "_law_begun" "_law_begun" auw f fd->bM mg->adA P w K mg base Cm->ur P w K mg base Cm->aCT P w K mg base Cm->bZ P w K mg base cG 4 f fd ["_law_script"] (cL K 1 (bV 3 g))}:=#[_,λF T BZ fj avq=>iy F au4 λ_ _ _ _ _ _ hr=>(aL (bX 1 au4.nd (bC BZ hr rfl (eS (pv 0) dA)))
  (aL (bX 2 au4.nd (pxx hr (iX (cU dA (cU dA (cU dA (cU dA (cU dA (cU dA (eS dA dA)))))))) (bC fj hr rfl (eS (pv 1) dA))))
  (bu (yi (aqJ aC (ahh [oM,!2] ["_law_number","_law_many"] rfl (jI #[#[rfl,rfl, .inl rfl],trivial]) (CL rfl T.Bj (cJ (pv 2))) (λ_ _ _ _ _ _=>(Kf 0 (by decide +kernel:(["_law_number","_law_many"]:oH Str).Nodup))) (λ_ _ _ _ _ _=>ko) (λ_ _ _ _ _ _=>(aBY avq hr rfl (eS (pv 0) (pv 1))))) (aqJ aC (iX gk) (aqJ aC (iX gk) (aqJ aC dA vB)))) rfl rfl rfl rfl))))]
def asN:oH D->oT D:=bV 3 (avp K Cm).1
abbrev aCU:Prop:=dt P w K mg base "_law_begun" ["_law_script"] 4 (cL K 1 (asN K Cm))
def asO: {g:oG K Cm // ∀{P w mg base f fd},cY K "take_rows" "take_rows" auJ f fd->bM mg->axR P w K mg base Cm->bZ P w K mg base cG 6 f fd ["master","rows"] (dW K [oP,yv] (dG 3 [oP,yv] g))}:=#[_,λF T aqe=>za F au6 λ_ _ _ _ _ _ hr=>(aL (bX 2 au6.nd (pln T.u0 (fY (pv 0))))
  (aL (bS (d6 (one hr.units) (xB (r:=oR K) yh (pv 1) OX (an0 (pv 2))) (asx T.Kv (fY (pv 0))))
   (aL (bX 2 au6.nd dA)
  (aL (IW (pv 0) (iX gk))
  (dY (IW (pv 0) zD)))) cQ)
  (dY (vX (bC aqe hr rfl (eS (pv 0) (xB (r:=oR K) yh (pv 1) (an0 (pv 2)) OX)))))))]
def asP:oH D->oT (D×oH D):=dG 3 [oP,yv] (asO K Cm).1
abbrev axU:Prop:=dt P w K mg base "take_rows" ["master","rows"] 6 (dW K [oP,yv] (asP K Cm))
def arv: {g:oG K Cm // ∀{P w mg base f fd},cY K "hear_keep" "hear_keep" auN f fd->bM mg->axU P w K mg base Cm->bZ P w K mg base cG 8 f fd ["master","sender","term","rows","done"] (dW K [oP,yv,yv,yv,yv] (dG 5 [oP,yv,yv,yv,yv] g))}:=#[_,λF T aqj=>za F aCJ λ_ _ _ _ _ _ hr=>(aL (bS (d6 apn (pv 2) (fY (pv 0)))
   (bu (iX gk)) cQ)
  (aL (IW (pv 0) (pv 2))
  (aL (IW (pv 0) aC)
  (aL (bS (PW.pt (F7 (d6 apn (fY (pv 0)) (pv 2)) (F6 (d6 Gq (pln T.u0 (pv 3)) (pln T.u0 (fY (pv 0)))))))
   (aL (vX (bC aqj hr rfl (eS (pv 0) (pv 3))))
  (dY (IW (pv 0) (pv 2)))) cQ)
  (aL (IW (pv 0) (fK (r:=Im) (aaO rfl) rfl T.acP aqG (eS (fY (pv 0)) (fK (r:=Ip) (aaP rfl) rfl T.acQ aHm (eS (pv 4) (pln T.u0 (fY (pv 0))))))))
  (bu (iX (cJ (eZ (cU aC (cU (fY (pv 0)) (cU (pv 1) (eS (pv 2) (pln T.u0 (fY (pv 0))))))))))))))))]
def arw:oH D->oT (D×oH D):=dG 5 [oP,yv,yv,yv,yv] (arv K Cm).1
abbrev aCV:Prop:=dt P w K mg base "hear_keep" ["master","sender","term","rows","done"] 8 (dW K [oP,yv,yv,yv,yv] (arw K Cm))
def arx: {g:oG K Cm // ∀{P w mg base f fd},cY K "hear_kept" "hear_kept" auD f fd->bM mg->axO P w K mg base Cm->bZ P w K mg base cG 5 f fd ["master","sender","term","size"] (dW K [oP,yv,yv,yv] (dG 4 [oP,yv,yv,yv] g))}:=#[_,λF T aqf=>za F aCD λ_ _ _ _ _ _ hr=>(aL (bS (PW.pt (zF (d6 (fX hr.units) (fY (pv 0)) aC) (zE (d6 (fX hr.units) (pv 2) (fY (pv 0))))))
   (aL (apo (akV hr) (fY (pv 0)) (pv 1) (fK (r:=Im) (aaO rfl) rfl T.acP aqG (eS (pv 3) (vC (akV hr) (fY (pv 0)) (pv 1) dA #[rfl,rfl,rfl,rfl]))) rfl)
  (dY (vX (bC aqf hr rfl (cJ (pv 0)))))) cQ)
  (bu (iX gk)))]
def ary:oH D->oT (D×oH D):=dG 4 [oP,yv,yv,yv] (arx K Cm).1
abbrev aCW:Prop:=dt P w K mg base "hear_kept" ["master","sender","term","size"] 5 (dW K [oP,yv,yv,yv] (ary K Cm))
def asQ: {g:oG K Cm // ∀{P w mg base f fd},cY K "hear_stand" "hear_stand" auG f fd->bM mg->axM P w K mg base Cm->bZ P w K mg base cG 6 f fd ["master","sender","term"] (dW K [oP,yv,yv] (dG 3 [oP,yv,yv] g))}:=#[_,λF T aqc=>za F aCF λ_ _ _ _ _ _ hr=>(aL (bS (d6 xw (pv 2) (fY (pv 0)))
   (bu (iX gk)) cQ)
  (aL (IW (pv 0) (pv 2))
  (aL (IW (pv 0) aC)
  (bu (iX (cJ (eZ (cU aC (cU (fY (pv 0)) (cU (pv 1) (cU (pv 2) (eS (fY (pv 0)) (bC aqc hr rfl (cJ (pv 0)))))))))))))))]
def asR:oH D->oT (D×oH D):=dG 3 [oP,yv,yv] (asQ K Cm).1
abbrev aCX:Prop:=dt P w K mg base "hear_stand" ["master","sender","term"] 6 (dW K [oP,yv,yv] (asR K Cm))
def avr: {g:oG K Cm // ∀{P w mg base f fd},cY K "rank_of_voice" "rank_of_voice" auK f fd->bM mg->bZ P w K mg base cG 1 f fd ["voice"] (cL K 1 (bV 1 g))}:=#[_,λF T=>iy F aCH λ_ _ _ _ _ _ hr=>(bu (eZ (eS (pxx hr (pv 0) dA) (pln T.u0 (pxx hr (pv 0) dA)))))]
def aqk:oH D->oT D:=bV 1 (avr K Cm).1
abbrev aCY:Prop:=dt P w K mg base "rank_of_voice" ["voice"] 1 (cL K 1 (aqk K Cm))
def asS: {g:oG K Cm // ∀{P w mg base f fd},cY K "lead_by_voices" "lead_by_voices" auL f fd->bM mg->axN P w K mg base Cm->aCY P w K mg base Cm->axU P w K mg base Cm->bZ P w K mg base cG 8 f fd ["master"] (dW K [oP] (dG 2 [oP] g))}:=#[_,λF T aqd avs aqj=>za F axF λ_ _ _ _ _ _ hr=>(aL (bS (oa (aod (bC aqd hr rfl (eS (pv 0) (pln T.u0 (fY (pv 0)))))))
   (dY aBH) cQ)
  (aL (bX 1 axF.nd (axh avs hr rfl rfl T.acP rfl (cJ (oh (r:=atR) (aB0 rfl) rfl T.rY uX (cJ (Ra (fY (pv 0))))))))
  (aL (vX (bC aqj hr rfl (eS (pv 0) (pxx hr (pv 1) dA))))
  (aL (IW (pv 0) (fY (pv 0)))
  (aL (IW (pv 0) aC)
  (dY (IW (pv 0) qo)))))))]
def asT:oH D->oT (D×oH D):=dG 2 [oP] (asS K Cm).1
abbrev axV:Prop:=dt P w K mg base "lead_by_voices" ["master"] 8 (dW K [oP] (asT K Cm))
def arz: {g:oG K Cm // ∀{P w mg base f fd},cY K "hear_voice" "hear_voice" auM f fd->bM mg->asG P w K mg base Cm->axV P w K mg base Cm->bZ P w K mg base cG 9 f fd ["master","sender","term","of","rows"] (dW K [oP,yv,yv,yv,yv] (dG 5 [oP,yv,yv,yv,yv] g))}:=#[_,λF T abr aql=>za F aCI λ_ _ _ _ _ _ hr=>(aL (bS (PW.pt (zF (d6 (fX hr.units) (fY (pv 0)) aC) (zE (d6 (fX hr.units) (pv 2) (fY (pv 0))))))
   (aL (apo (akV hr) (fY (pv 0)) (pv 1) (eZ (eS (pv 3) (bC abr hr rfl (cJ (pv 4))))) rfl)
  (dY (vX (bC aql hr rfl (cJ (pv 0)))))) cQ)
  (bu (iX gk)))]
def arA:oH D->oT (D×oH D):=dG 5 [oP,yv,yv,yv,yv] (arz K Cm).1
abbrev aCZ:Prop:=dt P w K mg base "hear_voice" ["master","sender","term","of","rows"] 9 (dW K [oP,yv,yv,yv,yv] (arA K Cm))
def aqm: {g:oG K Cm // ∀{P w mg base f fd},cY K "hear" "Master.hear" auO f fd->bM mg->aCX P w K mg base Cm->aCZ P w K mg base Cm->aCV P w K mg base Cm->aCW P w K mg base Cm->bZ P w K mg base cG 10 f fd ["self","message"] (dW K [oP,yv] (dG 2 [oP,yv] g))}:=#[_,λF T avt avu avv avw=>za F aCK λ_ _ _ _ _ _ hr=>(aL (bS (d6 (fX hr.units) (pxx hr (pv 1) dA) aC)
   (bu (bC avt hr rfl (cU (pv 0) (eS (pxx hr (pv 1) dA) (pxx hr (pv 1) dA))))) cQ)
  (aL (bS (d6 (fX hr.units) (pxx hr (pv 1) dA) aC)
   (bu (bC avu hr rfl (cU (pv 0) (cU (pxx hr (pv 1) dA) (cU (pxx hr (pv 1) dA) (eS (pxx hr (pv 1) dA) (pxx hr (pv 1) dA))))))) cQ)
  (aL (bS (d6 (fX hr.units) (pxx hr (pv 1) dA) aC)
   (bu (bC avv hr rfl (cU (pv 0) (cU (pxx hr (pv 1) dA) (cU (pxx hr (pv 1) dA) (eS (pxx hr (pv 1) dA) (pxx hr (pv 1) dA))))))) cQ)
  (bu (bC avw hr rfl (cU (pv 0) (cU (pxx hr (pv 1) dA) (eS (pxx hr (pv 1) dA) (pxx hr (pv 1) dA)))))))))]
def ape:oH D->oT (D×oH D):=dG 2 [oP,yv] (aqm K Cm).1
abbrev aC0:Prop:=an3 P w K mg base Cm "hear" ["self","message"] 10 (dW K [oP,yv] (ape K Cm))
def avx: {g:oG K Cm // ∀{P w mg base f fd},cY K "_law_heard" "_law_heard" auP f fd->bM mg->asE P w K mg base Cm->aC0 P w K mg base Cm->bZ P w K mg base cG 11 f fd ["_law_world","_law_k","_law_stays_here"] (dW K [oP,yv,yv] (dG 4 [oP,yv,yv] g))}:=#[_,λF T U5 avy=>za F axG λ_ _ _ _ _ _ hr=>(aL (bX 3 axG.nd (pxx hr (pxx hr (pv 0) aC) (pv 1)))
  (aL (bS (oa (aod (pv 2)))
   (dY (apo (akV hr) (pv 0) aC (sg UT (xB (r:=oR K) yh (pxx hr (pv 0) aC) OX (an0 (pv 1))) (xB (r:=oR K) yh (pxx hr (pv 0) aC) (an0 (sg UT (pv 1) dA)) OX)) rfl)) cQ)
  (dY (vX (bC U5 hr rfl (cU (pv 0) (cU (pxx hr (pv 3) dA) (cU aC (eS (pv 3) (ahj (atQ avy hr (pxx hr (pxx hr (pv 0) aC) (pxx hr (pv 3) dA)) (cJ (pv 3)))))))))))))]
def aqn:oH D->oT (D×oH D):=dG 4 [oP,yv,yv] (avx K Cm).1
abbrev axW:Prop:=dt P w K mg base "_law_heard" ["_law_world","_law_k","_law_stays_here"] 11 (dW K [oP,yv,yv] (aqn K Cm))
def avz: {g:oG K Cm // ∀{P w mg base f fd},cY K "_law_carried" "_law_carried" auQ f fd->bM mg->ur P w K mg base Cm->axW P w K mg base Cm->bZ P w K mg base cG 12 f fd ["_law_world","_law_left_here","_law_words","_law_whole"] (dW K [oP,oP,yv,yv] (dG 7 [oP,oP,yv,yv] g))}:=#[_,λF T fj aqo=>za F arq λ_ _ _ _ _ _ hr=>(dY (tq sQ rfl (CL rfl T.Bj (cJ dA)) (Kf 4 arq.nd)
   (aL (bX 5 arq.nd dA)
  (dY (tq sQ rfl (CL rfl T.Bj (cJ (pln T.u0 (pxx hr (pv 0) aC)))) (Kf 6 arq.nd)
   (dY (bS (PW.pt (zF (d6 apn (pv 5) (pln T.u0 (pxx hr (pv 0) aC))) (zF (iM (gR (akV hr)) (pxx hr (pxx hr (pxx hr (pv 0) aC) (pv 5)) dA) (pv 2) d_) (zE (PW.pt (F7 (aod (pv 3)) (F6 (d6 Gq (bC fj hr rfl (eS (pv 1) dA)) dA))))))))
   (dY (vX (bC aqo hr rfl (cU (pv 0) (eS (pv 5) zD))))) (dY (bX 5 arq.nd (sg UT (pv 5) dA))))))))))]
def arB:oH D->oT (D×oH D):=dG 7 [oP,oP,yv,yv] (avz K Cm).1
abbrev axX:Prop:=dt P w K mg base "_law_carried" ["_law_world","_law_left_here","_law_words","_law_whole"] 12 (dW K [oP,oP,yv,yv] (arB K Cm))
abbrev axY(K:ah)(Cm:zI)[nc K Cm](Gs:oH D->oT D):TS:=(sX (xu (apR (ig (ye K) (nE 1) (tC (.int 0))))
   (qi (aoK (di (ap8 (aoK fz)) fz))) xt)
  (sX (vh (ap8 (aoK fz)) (lB 2))
  (sX (xv (CK (di (jU (vT K) (di (nE 0) fz)) fz)) (lB 3)
   (vh (ig (ark K) (nE 2) (xH (vV K (og (cL K 2 Gs) [] E0 (di (CY (oR K) (nE 0) (rm (ig (AZ K) (nE 3) (tC (.int 1)))) ar2) (di (ig (qj λi j=> .int (i - j)) (nE 1) (tC (.int 1))) fz)))) (lB 0) Dm (aur (ig (ark K) (aoK (di (ig (DW K) (nE 1) (nE 2)) fz)) (nE 0))) [oM,!0,!3])) (lB 2)))
  (qi (nE 2)))))
def asU(K:ah)(Cm:zI)[nc K Cm](Gs:oH D->oT D): {f:En->oT Fl // SS K 4 (axY K Cm Gs) f}:=#[_,inferInstance]
noncomputable def arC (K:ah) (Cm:zI) [nc K Cm] (Gs:oH D->oT D):En->oT Fl:=(asU K Cm Gs).1
def an7(K:ah)(Cm:zI)[nc K Cm]:Nat->oH D->oT D
 |0=>λ_=>oM
 |m + 1=>bV 4 (arC K Cm (an7 K Cm m))
def aqp(K:ah)(Cm:zI)[nc K Cm]:oH D->oT D:=an7 K Cm 5
abbrev aC1:Prop:=dt P w K mg base "_law_choices" ["_law_places","_law_many"] 6 (cL K 2 (aqp K Cm))
variable {P w K mg base Cm} in
theorem axZ{f:zI}{fd:kK}(F:cY K "_law_choices" "_law_choices" auy f fd)(T:bM mg)(hb:L2.Binds K fd ["_law_places","_law_many"] [])(hm:mg "_law_choices"\.ref f):∀m:Nat,bZ P w K mg base cG (1 + m) f fd ["_law_places","_law_many"] (cL K 2 (an7 K Cm m))
 |0=>abe
 |j + 1=>by
  have arE:=dt.of F hb hm (axZ F T hb hm j);refine F.ok asB (λvs H Q E h=>Q7 h) (λdB A outer s H vs Q E hr h=> ?_);exact#[axY K Cm (an7 K Cm j),(aL (bS (iM (DS hr.units) (pv 1) dA (rg _))
   (dY (vf (iX (fJ (ahj (iX gk)) gk)))) cQ)
  (aL (WL (i:=2) asB.nd rfl (ao3 rfl) (ahj (iX gk)))
  (aL (tq sQ rfl (CL rfl T.Bj (fJ (fK (r:=(vT K)) Il rfl T.u0 Wc (fJ (pv 0) gk)) gk)) (Gb (i:=3) asB.nd rfl (Or.inr rfl))
   (dY (WL (i:=2) asB.nd rfl (ao3 rfl) (sg auk (pv 2) (ahh [oM,!0,!3] ["_law_more","_law_places","_law_k"] rfl (jI #[#[rfl,rfl, .inl rfl],#[#[rfl,rfl, .inl rfl],trivial]]) (QZ (bC arE hr rfl (fJ (xB (r:=oR K) yh (pv 0) (an0 (sg aaL (pv 3) dA)) OX) (fJ (sg OB (pv 1) dA) gk)) (bO _))) (λ_ _ _ _ _ _=>(Gb (i:=0) (by decide +kernel:(["_law_more","_law_places","_law_k"]:oH Str).Nodup) rfl (ao3 rfl))) (λ_ _ _ _ _ _=>ko) (λ_ _ _ _ _ _=>(aCz (sg auk (iX (fJ (pxx hr (pv 1) (pv 2)) gk)) (pv 0)))))))))
  (dY (vf (pv 2)))))),Qx (S:=(asU K Cm (an7 K Cm j)).2) h a_]
end
section
variable (P:zR)(w:zQ)(K:ah)(mg:Str->oT zL)(base:zN)(Cm:zI)[nc K Cm]
def avA: {g:oG K Cm // ∀{P w mg base f fd},cY K "next_term" "next_term" auR f fd->bM mg->bZ P w K mg base cG 1 f fd ["master"] (cL K 1 (bV 2 g))}:=#[_,λF T=>iy F axH λ_ _ _ _ _ _ hr=>(aL (bX 1 axH.nd (sg UT (fY (pv 0)) dA))
  (bu (sg UT (pv 1) (sg Ae (sg OB (fY (pv 0)) (pv 1)) (fY (pv 0))))))]
def avB:oH D->oT D:=bV 2 (avA K Cm).1
abbrev aC2:Prop:=dt P w K mg base "next_term" ["master"] 1 (cL K 1 (avB K Cm))
def avC: {g:oG K Cm // ∀{P w mg base f fd},cY K "rise" "Master.rise" auS f fd->bM mg->aC2 P w K mg base Cm->axV P w K mg base Cm->avc P w K mg base Cm->bZ P w K mg base cG 9 f fd ["self"] (dW K [oP] (dG 1 [oP] g))}:=#[_,λF T avD aql aoT=>za F aCL λ_ _ _ _ _ _ hr=>(aL (IW (pv 0) (bC avD hr rfl (cJ (pv 0))))
  (aL (IW (pv 0) aC)
  (aL (IW (pv 0) (IB (fY (pv 0)) (eZ (eS (fY (pv 0)) (asx T.Kv (fY (pv 0)))))))
  (aL (vX (bC aql hr rfl (cJ (pv 0))))
  (bu (ahh [oM,!0] ["other","self"] rfl (jI #[#[rfl,rfl, .inl rfl],trivial]) (lV (bC aoT hr rfl (cJ (pv 0)))) (λ_ _ _ _ _ _=>(Kf 0 (by decide +kernel:(["other","self"]:oH Str).Nodup))) (λ_ _ _ _ _ _=>ko) (λ_ _ _ _ _ _=>(eZ (cU aC (cU (fY (pv 1)) (eS (pv 0) (fY (pv 1)))))))))))))]
def aoE:oH D->oT (D×oH D):=dG 1 [oP] (avC K Cm).1
abbrev ax0:Prop:=an3 P w K mg base Cm "rise" ["self"] 9 (dW K [oP] (aoE K Cm))
def avE: {g:oG K Cm // ∀{P w mg base f fd},cY K "_law_healed" "_law_healed" auV f fd->bM mg->ur P w K mg base Cm->ax0 P w K mg base Cm->asE P w K mg base Cm->axX P w K mg base Cm->axS P w K mg base Cm->avf P w K mg base Cm->bZ P w K mg base cG 14 f fd ["_law_world","_law_left_here","_law_written"] (dW K [oP,oP,yv] (dG 5 [oP,oP,yv] g))}:=#[_,λF T fj apB U5 aoF aqh aoU=>za F au7 λ_ _ _ _ _ _ hr=>(aL (bX 3 au7.nd (pxx hr (pv 0) aC))
  (aL (bX 4 au7.nd (pxx hr (pv 3) (bC fj hr rfl (eS (pv 1) (pln T.u0 (pv 3))))))
  (aL (aCy (apo (akV hr) (pv 0) aC (iX gk) rfl))
  (aL (Ov sQ (d6 xw (fY (pv 4)) (fK (r:=(asa K)) (axj rfl) rfl T.acP aqG (cJ (sg UT (ahh [oM,!4] ["_law_other","_law_one"] rfl (jI #[#[rfl,rfl, .inl rfl],trivial]) (lV (pv 3)) (λ_ _ _ _ _ _=>(Kf 0 (by decide +kernel:(["_law_other","_law_one"]:oH Str).Nodup))) (λ_ _ _ _ _ _=>(PD (d6 (one hr.units) (fY (pv 0)) (fY (pv 1))))) (λ_ _ _ _ _ _=>(fY (pv 0)))) (iX (cJ dA))))))
   (dY (vX (apc (apr apB hr (pv 4))))))
  (aL (vX (apc (bC U5 hr rfl (cU (pv 0) (cU (fY (pv 4)) (cU aC (eS qZ (ahj (apr apB hr (pv 4))))))))))
  (aL (vX (apc (bC aoF hr rfl (cU (pv 0) (cU (pv 1) (eS (eZ (eS aC aC)) zD))))))
  (aL (bS (PW.pt (F7 (d6 (one hr.units) (fY (pv 4)) aC) (F6 (d6 (one hr.units) (xB (r:=oR K) yh (fY (pv 4)) OX (an0 (pln T.u0 (pv 2)))) (pv 2)))))
   (bu zD) cQ)
  (aL (vX (apc (bC U5 hr rfl (cU (pv 0) (cU (fY (pv 4)) (cU aC (eS (eZ (eS aC dA)) (ahj (atQ aqh hr (pv 4) (cJ (eZ (eS aC dA))))))))))))
  (aL (vX (apc (bC aoF hr rfl (cU (pv 0) (cU (pv 1) (eS (eZ (eS aC aC)) zD))))))
  (aL (vX (apc (bC U5 hr rfl (cU (pv 0) (cU (fY (pv 4)) (cU aC (eS qZ (ahj (apr aoU hr (pv 4))))))))))
  (aL (vX (apc (bC aoF hr rfl (cU (pv 0) (cU (pv 1) (eS (eZ (eS aC aC)) zD))))))
  (bu (fK (r:=(mw K)) (pN rfl) rfl T.pV qV (cJ (ahh [oM,!4] ["_law_other","_law_one"] rfl (jI #[#[rfl,rfl, .inl rfl],trivial]) (lV (pv 3)) (λ_ _ _ _ _ _=>(Kf 0 (by decide +kernel:(["_law_other","_law_one"]:oH Str).Nodup))) (λ_ _ _ _ _ _=>ko) (λ_ _ _ _ _ _=>(aw0 (A6 (fX hr.units) (fY (pv 0)) (pln T.u0 (fY (pv 1)))) (qg (A6 (fX hr.units) (fY (pv 0)) (fY (pv 1)))))))))))))))))))))]
def arF:oH D->oT (D×oH D):=dG 5 [oP,oP,yv] (avE K Cm).1
abbrev aC3:Prop:=dt P w K mg base "_law_healed" ["_law_world","_law_left_here","_law_written"] 14 (dW K [oP,oP,yv] (arF K Cm))
def avF: {g:oG K Cm // ∀{P w mg base f fd},cY K "_law_longest" "_law_longest" au0 f fd->bM mg->bZ P w K mg base cG 1 f fd ["_law_written","_law_masters"] (cL K 2 (bV 5 g))}:=#[_,λF T=>iy F ars λ_ _ _ _ _ _ hr=>(aL (tq sQ rfl (lV (pv 1)) (Kf 2 ars.nd)
   (aL (bX 3 ars.nd (ahj (axv T.rY (xB (r:=oR K) yh (fY (pv 2)) OX (an0 (fY (pv 2)))))))
  (aL (bX 4 ars.nd (fK (r:=Ip) (aaP rfl) rfl T.acQ aHm (eS (pln T.u0 (pv 3)) (pln T.u0 (pv 0)))))
  (aL (bS (PW.pt (F7 (d6 Gq (fY (pv 2)) (pln T.u0 (fY (pv 2)))) (F6 (d6 (one hr.units) (xB (r:=oR K) yh (pv 3) OX (an0 (pv 4))) (xB (r:=oR K) yh (pv 0) OX (an0 (pv 4)))))))
   (bu qZ) cQ)
  (dY (bS (d6 Gq (pln T.u0 (pv 3)) (pln T.u0 (pv 0)))
   (dY (bX 0 ars.nd (pv 3))) cQ))))))
  (bu (pv 0)))]
def aqq:oH D->oT D:=bV 5 (avF K Cm).1
abbrev aC4:Prop:=dt P w K mg base "_law_longest" ["_law_written","_law_masters"] 1 (cL K 2 (aqq K Cm))
def avG: {g:oG K Cm // ∀{P w mg base f fd},cY K "fall" "Master.fall" auY f fd->bM mg->bZ P w K mg base cG 1 f fd ["self"] (dW K [oP] (dG 1 [oP] g))}:=#[_,λF T=>za F aCO λ_ _ _ _ _ _ hr=>(aL (IW (pv 0) aC)
  (aL (IW (pv 0) dA)
  (bu (iX gk))))]
def arG:oH D->oT (D×oH D):=dG 1 [oP] (avG K Cm).1
abbrev aC5:Prop:=an3 P w K mg base Cm "fall" ["self"] 1 (dW K [oP] (arG K Cm))
def avH: {g:oG K Cm // ∀{P w mg base f fd},cY K "_law_road" "_law_road" auZ f fd->bM mg->ur P w K mg base Cm->asE P w K mg base Cm->ax0 P w K mg base Cm->axX P w K mg base Cm->aCS P w K mg base Cm->aC5 P w K mg base Cm->axJ P w K mg base Cm->avf P w K mg base Cm->axW P w K mg base Cm->bZ P w K mg base cG 13 f fd ["_law_world","_law_left_here"] (dW K [oP,oP] (dG 6 [oP,oP] g))}:=#[_,λF T fj U5 apB aoF avI avJ aqg aoU aqo=>za F ap9 λ_ _ _ _ _ _ hr=>(aL (bX 2 ap9.nd (bC fj hr rfl (eS (pv 1) dA)))
  (aL (bX 3 ap9.nd (bC fj hr rfl (eS (pv 1) (pln T.u0 (pxx hr (pv 0) aC)))))
  (aL (bX 4 ap9.nd (pxx hr (pxx hr (pv 0) aC) (pv 3)))
  (dY (bS (d6 apn (pv 2) dA)
   (aL (vX (bC U5 hr rfl (cU (pv 0) (cU (pv 3) (cU aC (eS qZ (ahj (apr apB hr (pv 4)))))))))
  (dY (bS (d6 Gq (pv 2) dA)
   (dY (vX (bC aoF hr rfl (cU (pv 0) (cU (pv 1) (eS (eZ (eS aC aC)) (A6 (fX hr.units) (pv 2) dA))))))) cQ))) (dY (bS (d6 apn (pv 2) dA)
   (aL (vX (bC avI hr rfl (eS (pv 0) (pv 1))))
  (dY (bS (d6 Gq (pv 2) dA)
   (dY (vX (bC aoF hr rfl (cU (pv 0) (cU (pv 1) (eS (eZ (eS aC aC)) (A6 (fX hr.units) (pv 2) dA))))))) cQ))) (dY (bS (d6 (fX hr.units) (pv 2) dA)
   (dY (vX (bC U5 hr rfl (cU (pv 0) (cU (pv 3) (cU aC (eS qZ (ahj (apr avJ hr (pv 4)))))))))) (dY (bS (d6 (fX hr.units) (pv 2) dA)
   (aL (bX 3 ap9.nd (bC aqg hr rfl (eS (pv 0) (pv 1))))
  (aL (vX (bC U5 hr rfl (cU (pv 0) (cU (pv 3) (cU aC (eS qZ (ahj (apr aoU hr (pxx hr (pxx hr (pv 0) aC) (pv 3))))))))))
  (dY (vX (bC aoF hr rfl (cU (pv 0) (cU (pv 1) (eS (eZ (eS aC aC)) zD)))))))) (dY (bS (d6 (fX hr.units) (pv 2) dA)
   (dY (apo (akV hr) (pv 0) aC (xB (r:=oR K) yh (pxx hr (pv 0) aC) (an0 (bC fj hr rfl (eS (pv 1) dA))) OX) rfl)) (dY (tq sQ rfl (CL rfl T.Bj (cJ (sg UT dA (bC fj hr rfl (eS (pv 1) dA))))) (Kf 5 ap9.nd)
   (dY (bS (d6 Gq (pln T.u0 (pxx hr (pv 0) aC)) dA)
   (dY (vX (bC aqo hr rfl (cU (pv 0) (eS (bC fj hr rfl (eS (pv 1) (pln T.u0 (pxx hr (pv 0) aC)))) (A6 (fX hr.units) (bC fj hr rfl (eS (pv 1) dA)) dA)))))) cQ)))))))))))))))))]
def aqr:oH D->oT (D×oH D):=dG 6 [oP,oP] (avH K Cm).1
abbrev aC6:Prop:=dt P w K mg base "_law_road" ["_law_world","_law_left_here"] 13 (dW K [oP,oP] (aqr K Cm))
def avK: {g:oG K Cm // ∀{P w mg base f fd},cY K "rank_of_log" "rank_of_log" au1 f fd->bM mg->bZ P w K mg base cG 1 f fd ["master"] (cL K 1 (bV 1 g))}:=#[_,λF T=>iy F aCP λ_ _ _ _ _ _ hr=>(bu (eZ (eS (fY (pv 0)) (pln T.u0 (fY (pv 0))))))]
def aqs:oH D->oT D:=bV 1 (avK K Cm).1
abbrev aC7:Prop:=dt P w K mg base "rank_of_log" ["master"] 1 (cL K 1 (aqs K Cm))
def avL: {g:oG K Cm // ∀{P w mg base f fd},cY K "next_log" "next_log" au2 f fd->bM mg->aC7 P w K mg base Cm->asG P w K mg base Cm->bZ P w K mg base cG 6 f fd ["masters","some"] (cL K 2 (bV 3 g))}:=#[_,λF T avM abr=>iy F axI λ_ _ _ _ _ _ hr=>(aL (bX 2 axI.nd (axh avM hr rfl rfl T.acP rfl (cJ (ahh [oM,!0] ["place","masters"] rfl (jI #[#[rfl,rfl, .inl rfl],trivial]) (lV (pv 1)) (λ_ _ _ _ _ _=>(Kf 0 (by decide +kernel:(["place","masters"]:oH Str).Nodup))) (λ_ _ _ _ _ _=>ko) (λ_ _ _ _ _ _=>(pxx hr (pv 1) (pv 0)))))))
  (bu (bC abr hr rfl (cJ (fY (pv 2))))))]
def asV:oH D->oT D:=bV 3 (avL K Cm).1
abbrev aC8:Prop:=dt P w K mg base "next_log" ["masters","some"] 6 (cL K 2 (asV K Cm))
def avN: {g:oG K Cm // ∀{P w mg base f fd},cY K "_law_stays" "_law_stays" au3 f fd->bM mg->aC8 P w K mg base Cm->bZ P w K mg base cG 7 f fd ["_law_masters","_law_choices_here","_law_written"] (cL K 3 (bV 3 g))}:=#[_,λF T avO=>iy F aCQ λ_ _ _ _ _ _ hr=>(bu (fK (r:=(mw K)) (pN rfl) rfl T.pV qV (cJ (ahh [oM,!2,!0] ["_law_some","_law_written","_law_masters"] rfl (jI #[#[rfl,rfl, .inl rfl],#[#[rfl,rfl, .inl rfl],trivial]]) (lV (pv 1)) (λ_ _ _ _ _ _=>(Kf 0 (by decide +kernel:(["_law_some","_law_written","_law_masters"]:oH Str).Nodup))) (λ_ _ _ _ _ _=>ko) (λ_ _ _ _ _ _=>(A6 (fX hr.units) (xB (r:=oR K) yh (bC avO hr rfl (eS (pv 2) (pv 0))) OX (an0 (pln T.u0 (pv 1)))) (pv 1)))))))]
def aqt:oH D->oT D:=bV 3 (avN K Cm).1
abbrev aC9:Prop:=dt P w K mg base "_law_stays" ["_law_masters","_law_choices_here","_law_written"] 7 (cL K 3 (aqt K Cm))
end
end K84
namespace WM
open PySem L2 VL
structure MS where
 te:Int
 o:Int
 L:List D
 dn:Int
 role:Str
 vo:List (Int×Int×List D)
 si:List (Int×Int)
inductive eN where
 |so (sn to t:Int)
 |oW (sn to t o:Int) (R:List D)
 |keep (sn to t:Int) (R:List D) (dn:Int)
 |kept (sn to t z:Int)
noncomputable def eN.to:eN->Int
 |.so _ i _=>i
 |.oW _ i _ _ _=>i
 |.keep _ i _ _ _=>i
 |.kept _ i _ _=>i
noncomputable def eN.word:eN->Str
 |.so ..=>"stand"
 |.oW ..=>"voice"
 |.keep ..=>"keep"
 |.kept ..=>"kept"
def eN.ok(b:Nat):eN->Prop
 |.oW _ _ _ _ R=>eU R/\-R<=b
 |.keep _ _ _ R _=>eU R/\-R<=b
 |_=>True
def cx:eN->D
 |.so sn i t=> .nd .tup [sD "stand",iD sn,iD i,iD t]
 |.oW sn i t o R=> .nd .tup [sD "voice",iD sn,iD i,iD t,iD o, .nd .tup R]
 |.keep sn i t R dn=> .nd .tup [sD "keep",iD sn,iD i,iD t, .nd .tup R,iD dn]
 |.kept sn i t z=> .nd .tup [sD "kept",iD sn,iD i,iD t,iD z]
def L1(v:Int×oH D):D:= .nd .tup [iD v.1, .nd .tup v.2]
def xD(vo:oH (Int×Int×oH D)):D:= .nd (.aO (vo.map λp=> .inl p.1)) (vo.map λp=>L1 p.2)
def iG(S:oH (Int×Int)):D:= .nd (.aO (S.map λp=> .inl p.1)) (S.map λp=>iD p.2)
noncomputable def gi:oH (Int×Int)->Int->Int
 | [],_=>0
 |p::S,i=>if p.1=i then p.2 else gi S i
theorem ax1:∀(S:oH (Int×Int)) (i:Int),(match cM (zh i:bc) (S.map λp=>(zh p.1:bc)) with | some k=>(S.map λp=>iD p.2)[k]? | none=>oF (iD 0))\iD (gi S i)
 | [],_=>rfl
 |p::S,i=>by
  have ih:=ax1 S i;by_cases h:p.1=i
  .simp[cM,gi,h]
  .have hk:¬ (zh p.1:bc)=zh i:=λz=>h (awL z);rw[cP,cP,cM,zK hk,gi,zK h];cases e:cM (zh i:bc) (S.map λp=>(zh p.1:bc)) with
   |none=>rw[e]at ih;lk
   |some k=>rw[e]at ih;simpa using ih
theorem ax2(S:oH (Int×Int))(i:Int):(fW (iG S) (iD i)).bind (fun | some k=>jh (iG S) k | none=>oF (iD 0))\iD (gi S i):=ax1 S i
theorem ints_map:∀(ns:oH Int),jq (ns.map iD)\ns
 | []=>rfl
 |n::ns=>by rw[cP,jq,ints_map ns];rfl
theorem avP(ns:oH Int):VL.bI (ns.map iD)=oP:=vM λd hd=>by
 let i _ rfl:=gY.mp hd;rfl
theorem aoG(nu:Int)(m:Nat):-(nz nu m)<=m:=by
 rw[nz];exact eK (VT _ _) (apk^^bO _)
def j0(nu:Int)(m:Nat)(S:oH (Int×Int))(n:Nat):oH Int:=(nz nu m).map (λi:Nat=>gi S i)++ [(n:Int)]
noncomputable def most (m:Nat) (zs:oH Int) (z:Int):Bool:=decide ((m:Int) < 2 * (-(zs.filter λx=>decide (z<=x)):Nat))
theorem aDa(nu:Int)(m:Nat)(S:oH (Int×Int))(n:Nat):-(j0 nu m S n)<=m + 1:=by
 rw[j0];have:=aoG nu m;simp
 lia
def asW(nu te:Int)(L:oH D)(dn:Int)(i:Nat):D:=cx (.keep nu i te L dn)
def aqu(nu te:Int)(m:Nat)(L:oH D)(dn:Int):oH D:=(nz nu m).map (asW nu te L dn)
noncomputable def nS {α:Type}:oH (Int×α)->Int->α->oH (Int×α)
 | [],i,x=> [(i,x)]
 |p::r,i,x=>if p.1=i then(i,x)::r else p::nS r i x
def d5(C:zI)(m:Nat)(nu:Int)(s:MS):D:=mD C nu m s.te s.o s.L s.dn s.role (xD s.vo) (iG s.si)
def abz(b v:Int×oH D):Int×oH D:=if alI v.1 (-v.2) b.1 (-b.2)=oP then v else b
def oe(v:Int×oH D)(r:oH (Int×Int×oH D)):Int×oH D:=r.foldl (λb p=>abz b p.2) v
def lead(m:Nat)(s:MS):MS:=if(m:Int) < 2 * (-s.vo:Nat) then(match s.vo with
 | []=>s
 |v::r=> { s with L:=(oe v.2 r).2,o:=s.te,role:="leads",si:= [] }) else s
def count(m:Nat)(nu:Int)(s:MS):MS:= { s with dn:=tF s.dn ((j0 nu m s.si (-s.L)).filter (most m (j0 nu m s.si (-s.L)))) }
def rise(m:Nat)(nu:Int)(s:MS):MS:=lead m { s with te:=nP nu m s.te,role:="stands",vo:= [(nu,s.o,s.L)] }
def w5(m:Nat)(nu t:Int):oH eN:=(nz nu m).map λi:Nat=> .so nu i t
def keeps(m:Nat)(nu:Int)(s:MS):oH eN:=(nz nu m).map λi:Nat=> .keep nu i s.te s.L s.dn
def sG(m:Nat)(nu:Int)(r:D)(s:MS):MS×oT (oH eN):=if s.role="leads" then(count m nu { s with L:=s.L++ [r] },!keeps m nu (count m nu { s with L:=s.L++ [r] })) else(s,oM)
def sends(m:Nat)(nu:Int)(s:MS):oH eN:=if s.role="leads" then keeps m nu s else []
noncomputable def alM (s:MS):MS:= { s with role:="hears",dn:=0 }
noncomputable def kept (s:MS) (t:Int) (R:oH D):MS:=if s.o < t\/(-s.L:Int) < -R then { s with te:=t,role:="hears",L:=R,o:=t } else { s with te:=t,role:="hears" }
def ef(m:Nat)(nu:Int)(s:MS):eN->MS×oH eN
 |.so sn _ t=>if t<=s.te then(s, []) else({ s with te:=t,role:="hears" }, [.oW nu sn t s.o s.L])
 |.oW sn _ t o R=>if s.role="stands"/\t=s.te then(lead m { s with vo:=nS s.vo sn (o,R) }, []) else(s, [])
 |.keep sn _ t R dn=>if t < s.te then(s, []) else({ kept s t R with dn:=if(if((kept s t R).L.length:Int) < dn then((kept s t R).L.length:Int) else dn) > s.dn then(if((kept s t R).L.length:Int) < dn then((kept s t R).L.length:Int) else dn) else s.dn }, [.kept nu sn t (kept s t R).L.length])
 |.kept sn _ t z=>if s.role="leads"/\t=s.te then(count m nu { s with si:=nS s.si sn (if gi s.si sn > z then gi s.si sn else z) }, []) else(s, [])
noncomputable def s0:MS:=#[0,0, [],0,"hears", [], []]
structure Wf(b:Nat)(s:MS):Prop where
 rows:eU s.L
 len:s.L.length<=b
 role:s.role="hears"\/s.role="stands"\/s.role="leads"
 vn:(s.vo.map (·.1)).Nodup
 vl:s.vo.length<=50
 vr:∀p∈s.vo,eU p.2.2/\p.2.2.length<=b
 sn:(s.si.map (·.1)).Nodup
 sl:s.si.length<=50
theorem Fm(h:f (kW n bp ds)\.nx ρ')(ho:gP (ρ'.drop n)\o):dG n bp f ds\(.sc .aG,o):=by
 rw[dG];rw[h];show(gP (ρ'.drop n)).map _=_;rw[ho];rfl
theorem Oa(role:Str)(h:fD role=oP):dN not (.sc (.str role)) (.sc (.str "leads"))\.sc (.bl (decide (role≠"leads"))):=Rf _ _ h c_
theorem ax3(h:NM d):Ex 1 d:=by
 cases h with
 |a s k hs=>
  refine .tup 0 _ λd hd=> ?_;simp[bL,dh,or_false]at hd;rcases hd with rfl | rfl
  .exact .str _ _ hs
  .exact .int _ _
 |b s k t hs=>
  refine .tup 0 _ λd hd=> ?_;simp[bL,dh,or_false]at hd;rcases hd with rfl | rfl | rfl
  .exact .str _ _ hs
  .exact .int _ _
  .exact .int _ _
 |c s k t hs ht=>
  refine .tup 0 _ λd hd=> ?_;simp[bL,dh,or_false]at hd;rcases hd with rfl | rfl | rfl
  .exact .str _ _ hs
  .exact .int _ _
  .exact .str _ _ ht
theorem ax4(h:eU L):Ex 2 (.nd .tup L):= .tup 1 _ λd hd=>ax3 (h d hd)
theorem asX{α:Type}(R:oH α)(k:Nat):cutD R oM (!(k:Int))=R.take k:=by
 rw[cutD];rw[HT.aw4,HT.atJ,V7,aBv];by_cases h:k<=-R
 .rw[aHn h]
 .rw[aHo b_,aiF,awS b_]
theorem arH{α:Type}(R:oH α)(k:Nat):cutD R (!(k:Int)) oM=R.drop k:=by
 rw[cutD];rw[HT.aw4,HT.atJ];by_cases h:k<=-R
 .rw[aHn h];exact awS (aik^^bO _)
 .rw[aHo b_,FR,aBw b_];simp
theorem ax5(h:eU L)(s:∀d∈M,d∈L):eU M:=λd hd=>h d (s d hd)
theorem aoo{α:Type}:∀(l:oH (Int×α)) (i:Int) (x:α) (p:Int×α),p∈nS l i x->p∈l\/p=(i,x)
 | [],i,x,p,h=> .inr (ly.mp h)
 |q::l,i,x,p,h=>by
  rw[nS]at h
  split at h
  .rcases bL.mp h with h | h
   .exact .inr h
   .exact .inl (.tail _ h)
  .rcases bL.mp h with h | h
   .exact .inl (h^^.head _)
   .exact(aoo l i x p h).imp (.tail _) id
theorem aDb{α:Type}:∀(l:oH (Int×α)) (i:Int) (x:α) (k:Int),k∈(nS l i x).map (·.1)->k∈l.map (·.1)\/k=i:=λl i x k h=>by
 let p hp rfl:=gY.mp h;rcases aoo l i x p hp with q | q
 .exact .inl (List.mem_map_of_mem q)
 .exact .inr (by rw[q])
theorem asY{α:Type}:∀(l:oH (Int×α)) (i:Int) (x:α),(l.map (·.1)).Nodup->((nS l i x).map (·.1)).Nodup
 | [],i,x,_=>by simp[nS]
 |q::l,i,x,h=>by
  rw[cP,jP]at h;rw[nS]
  split
  .next c=>
   rw[cP,jP];exact#[by rw[<- c];exact h.1,h.2]
  .next c=>
   rw[cP,jP];refine#[λz=> ?_,asY l i x h.2];rcases aDb l i x q.1 z with y | y
   .exact h.1 y
   .exact c y
theorem Wf.mono{b c:Nat}{s:MS}(w:Wf b s)(h:b<=c):Wf c s:=#[w.rows,eK w.len h,w.role,w.vn,w.vl,λp hp=>#[(w.vr p hp).1,eK (w.vr p hp).2 h],w.sn,w.sl]
theorem ax6:∀(m:Nat) (l:oH Int),l.Nodup->(∀k∈l,0<=k/\k < m)->-l<=m
 |0, [],_,_=>bO _
 |0,k::l,_,h=>by have:=h k (.head _);lia
 |m + 1,l,hn,h=>by
  have h1:=ax6 m (l.filter λk=>decide (k≠(m:Int))) (hn.filter _) λk hk=>by
   let h1 h2:=Cc.mp hk;have h2:k≠(m:Int):=by simpa using h2
   have:=h k h1
   lia
  have h2:-(l.filter λk=> not (decide (k≠(m:Int))))<=1:=by
   have CS:=hn.filter (λk=> not (decide (k≠(m:Int))));have ha:∀k∈l.filter (λk=> not (decide (k≠(m:Int)))),k=(m:Int):=λk hk=>by
    have:=(Cc.mp hk).2;simpa using this
   generalize l.filter (λk=> not (decide (k≠(m:Int))))=r at *
   match r,CS,ha with
   | [],_,_=>simp
   | [_],_,_=>simp
   |a::c::r,CS,ha=>
    exact absurd ([ha a (.head _),ha c (.tail _ (.head _))]^^.head _) (jP.mp CS).1
  have h3:-(l.filter λk=>decide (k≠(m:Int))) + -(l.filter λk=> not (decide (k≠(m:Int))))=-l:=by
   clear h1 h2 hn h
   induction l with
   |nil=>rfl
   |cons a l ih=>
    by_cases c:a=(m:Int)
    .simp[c]at ih |-;lia
    .simp[c]at ih |-;lia
  lia
structure Wg(m b:Nat)(s:MS):Prop where
 wf:Wf b s
 vk:∀p∈s.vo,0<=p.1/\p.1 < m
 sk:∀p∈s.si,0<=p.1/\p.1 < m
theorem Wg.mono{m b c:Nat}{s:MS}(w:Wg m b s)(h:b<=c):Wg m c s:=#[w.wf.mono h,w.vk,w.sk]
def eN.sn:eN->Int
 |.so i _ _=>i
 |.oW i _ _ _ _=>i
 |.keep i _ _ _ _=>i
 |.kept i _ _ _=>i
structure WD(m b:Nat)(g:eN):Prop where
 ok:g.ok b
 s0:0<=g.sn
 s1:g.sn < m
 t0:0<=g.to
 t1:g.to < m
theorem WD.mono{m b c:Nat}{g:eN}(w:WD m b g)(h:b<=c):WD m c g:=#[by
 have:=w.ok;cases g with
 |so=>trivial
 |oW=>exact#[this.1,eK this.2 h]
 |keep=>exact#[this.1,eK this.2 h]
 |kept=>trivial,w.s0,w.s1,w.t0,w.t1]
theorem aBk{α:Type}{m:Nat}(hm:m<=50){l:oH (Int×α)}(hn:(l.map (·.1)).Nodup)(hk:∀p∈l,0<=p.1/\p.1 < m):-l<=50:=by
 have:=ax6 m (l.map (·.1)) hn λk h=>by
  let p hp rfl:=gY.mp h;exact hk p hp
 rw[nI]at this
 lia
theorem avQ:∀(r:oH (Int×Int×oH D)) (v:Int×oH D),oe v r=v\/∃p∈r,oe v r=p.2
 | [],v=> .inl rfl
 |p::r,v=>by
  have e:oe v (p::r)=oe (abz v p.2) r:=rfl;rw[e];rcases avQ r (abz v p.2) with h | ⟨q,hq,h⟩
  .rw[h];rw[abz]
   split
   .exact .inr #[p, .head _,rfl]
   .exact .inl rfl
  .exact .inr #[q, .tail _ hq,h]
theorem ax7{m b:Nat}{s:MS}(w:Wg m b s):Wg m b (lead m s):=by
 rw[lead]
 split
 .split
  .lk
  .next v r e=>
   have hb:eU (oe v.2 r).2/\(oe v.2 r).2.length<=b:=by
    rcases avQ r v.2 with h | ⟨p,hp,h⟩
    .rw[h];exact w.wf.vr v (e^^.head _)
    .rw[h];exact w.wf.vr p (e^^.tail _ hp)
   exact#[#[hb.1,hb.2, .inr (.inr rfl),w.wf.vn,w.wf.vl,w.wf.vr,atw,jO _],w.vk,λ_ h=>nomatch h]
 .lk
theorem ax8{m b:Nat}{nu:Int}{s:MS}(w:Wg m b s):Wg m b (count m nu s):=#[#[w.wf.rows,w.wf.len,w.wf.role,w.wf.vn,w.wf.vl,w.wf.vr,w.wf.sn,w.wf.sl],w.vk,w.sk]
theorem asZ{m b:Nat}{nu:Int}{s:MS}(w:Wg m b s)(h0:0<=nu)(h1:nu < m):Wg m b (rise m nu s):=by
 refine ax7 #[#[w.wf.rows,w.wf.len, .inr (.inl rfl),by simp,by simp,λp hp=> ?_,w.wf.sn,w.wf.sl],λp hp=> ?_,w.sk]
 .rw[ly.mp hp];exact#[w.wf.rows,w.wf.len]
 .rw[ly.mp hp];exact#[h0,h1]
theorem ax9{m b:Nat}{s:MS}(w:Wg m b s):Wg m b (alM s):=#[#[w.wf.rows,w.wf.len, .inl rfl,w.wf.vn,w.wf.vl,w.wf.vr,w.wf.sn,w.wf.sl],w.vk,w.sk]
theorem as0{m b:Nat}{nu:Int}{r:D}{s:MS}(w:Wg m b s)(hr:NM r):Wg m (b + 1) (sG m nu r s).1:=by
 rw[sG]
 split
 .refine ax8 #[#[w.wf.rows.app (eU.one hr),by simp;exact w.wf.len,w.wf.role,w.wf.vn,w.wf.vl,(w.wf.mono (NI b)).vr,w.wf.sn,w.wf.sl],w.vk,w.sk]
 .exact w.mono (NI b)
theorem aDc{m b:Nat}{s:MS}{t:Int}{R:oH D}(w:Wg m b s)(hR:eU R)(hz:-R<=b):Wg m b (kept s t R):=by
 rw[kept]
 split
 .exact#[#[hR,hz, .inl rfl,w.wf.vn,w.wf.vl,w.wf.vr,w.wf.sn,w.wf.sl],w.vk,w.sk]
 .exact#[#[w.wf.rows,w.wf.len, .inl rfl,w.wf.vn,w.wf.vl,w.wf.vr,w.wf.sn,w.wf.sl],w.vk,w.sk]
theorem aya{m b:Nat}{nu:Int}{s:MS}{g:eN}(w:Wg m b s)(hg:WD m b g)(hm:m<=50):Wg m b (ef m nu s g).1:=by
 cases g with
 |so sn i t=>
  unfold ef;dsimp only
  split
  .lk
  .exact#[#[w.wf.rows,w.wf.len, .inl rfl,w.wf.vn,w.wf.vl,w.wf.vr,w.wf.sn,w.wf.sl],w.vk,w.sk]
 |oW sn i t o R=>
  unfold ef;dsimp only
  split
  .have hn:=asY s.vo sn (o,R) w.wf.vn;have hk:∀p∈nS s.vo sn (o,R),0<=p.1/\p.1 < m:=λp hp=>by
    rcases aoo s.vo sn (o,R) p hp with h | h
    .exact w.vk p h
    .rw[h];exact#[hg.s0,hg.s1]
   refine ax7 #[#[w.wf.rows,w.wf.len,w.wf.role,hn,aBk hm hn hk,λp hp=> ?_,w.wf.sn,w.wf.sl],hk,w.sk];rcases aoo s.vo sn (o,R) p hp with h | h
   .exact w.wf.vr p h
   .rw[h];exact hg.ok
  .lk
 |keep sn i t R dn=>
  rw[ef];dsimp only
  split
  .lk
  .have k:=aDc (t:=t) w hg.ok.1 hg.ok.2;exact#[#[k.wf.rows,k.wf.len,k.wf.role,k.wf.vn,k.wf.vl,k.wf.vr,k.wf.sn,k.wf.sl],k.vk,k.sk]
 |kept sn i t z=>
  unfold ef;dsimp only
  split
  .have hn:=asY s.si sn (if gi s.si sn > z then gi s.si sn else z) w.wf.sn;have hk:∀p∈nS s.si sn (if gi s.si sn > z then gi s.si sn else z),0<=p.1/\p.1 < m:=λp hp=>by
    rcases aoo s.si sn _ p hp with h | h
    .exact w.sk p h
    .rw[h];exact#[hg.s0,hg.s1]
   exact ax8 #[#[w.wf.rows,w.wf.len,w.wf.role,w.wf.vn,w.wf.vl,w.wf.vr,hn,aBk hm hn hk],w.vk,hk]
  .lk
theorem ayb{nu:Int}{m i:Nat}(h:i∈nz nu m):i < m:=by
 rw[nz]at h;exact sH.mp (Cc.mp h).1
theorem avR{m b:Nat}{nu t:Int}(h0:0<=nu)(h1:nu < m):∀g∈w5 m nu t,WD m b g:=λg hg=>by
 let i hi rfl:=gY.mp hg;have:=ayb hi;exact#[trivial,h0,h1,atz _,by show((i:Int) < m);lia]
theorem avS{m b:Nat}{nu:Int}{s:MS}(w:Wg m b s)(h0:0<=nu)(h1:nu < m):∀g∈keeps m nu s,WD m b g:=λg hg=>by
 let i hi rfl:=gY.mp hg;have:=ayb hi;exact#[#[w.wf.rows,w.wf.len],h0,h1,atz _,by show((i:Int) < m);lia]
theorem avT{m b:Nat}{nu:Int}{s:MS}(w:Wg m b s)(h0:0<=nu)(h1:nu < m):∀g∈sends m nu s,WD m b g:=λg hg=>by
 rw[sends]at hg
 split at hg
 .exact avS w h0 h1 g hg
 .exact nomatch hg
theorem ayc{m b:Nat}{nu:Int}{s:MS}{g:eN}(w:Wg m b s)(hg:WD m b g)(h0:0<=nu)(h1:nu < m):∀a∈(ef m nu s g).2,WD m b a:=λa ha=>by
 cases g with
 |so sn i t=>
  unfold ef at ha;dsimp only at ha
  split at ha
  .exact nomatch ha
  .rw[ly.mp ha];exact#[#[w.wf.rows,w.wf.len],h0,h1,hg.s0,hg.s1]
 |oW sn i t o R=>
  unfold ef at ha;dsimp only at ha
  split at ha <;> exact nomatch ha
 |keep sn i t R dn=>
  rw[ef]at ha;dsimp only at ha
  split at ha
  .exact nomatch ha
  .rw[ly.mp ha];exact#[trivial,h0,h1,hg.s0,hg.s1]
 |kept sn i t z=>
  unfold ef at ha;dsimp only at ha
  split at ha <;> exact nomatch ha
theorem aDd{m:Nat}{nu:Int}{s:MS}{g:eN}:(ef m nu s g).2.length<=1:=by
 cases g <;> (unfold ef;dsimp only;split <;> simp)
theorem ayd(nu:Int)(m:Nat):-(nz nu m)<=m:=aoG nu m
structure aoc where
 i:Nat
 gj:Str
 fm:D
 told:Option (List eN)
 st:MS
def x8:oT (oH eN)->D
 |some l=> .nd .dk (l.map cx)
 |none=> .sc .aG
def aye(s:MS):D:= .nd .tup [iD s.te,iD s.o, .nd .tup s.L,iD s.dn,sD s.role]
def Uy(e:aoc):D:= .nd .tup [iD e.i,sD e.gj,e.fm,x8 e.told,aye e.st]
structure cz where
 ms:List MS
 way:List eN
 aq:List aoc
 rows:Int
noncomputable def gD:oH bc:= [.inr "masters", .inr "way", .inr "story", .inr "rows"]
def eg(C:zI)(m:Nat)(ms:oH MS):oH D:=ms.mapIdx λi s=>d5 C m i s
class Pn where
 b:zI
 ws:List V
noncomputable abbrev pk [q:Pn]:Kd:= .tE q.b q.ws
def wL(C:zI)(m:Nat)(w:cz):D:= .nd (.aO gD) [.nd .lst (eg C m w.ms), .nd .lst (w.way.map cx), .nd .lst (w.aq.map Uy),iD w.rows]
def wD[Pn](C:zI)(m:Nat)(w:cz):D:= .nd (.aO gD) [.nd pk (eg C m w.ms), .nd .lst (w.way.map cx), .nd .lst (w.aq.map Uy),iD w.rows]
noncomputable def yy {α:Type} (l:oH α):oH α:=l.drop (-l - 60)
def cz.note(w:cz)(i:Nat)(gj:Str)(fm:D)(told:oT (oH eN))(s:MS):cz:= { w with ms:=w.ms.set i s,aq:=w.aq++ [#[i,gj,fm,told,s]],way:=(match told with | some l=>yy (w.way++l) | none=>w.way) }
theorem aDe{α:Type}(l:oH α):-(yy l)<=60:=by rw[yy];rw[aik];lia
theorem as1{α:Type}{l:oH α}{x:α}(h:x∈yy l):x∈l:=awO h
theorem aDf{α:Type}(l:oH α):cutD l (!(-60)) oM=yy l:=by
 rw[cutD,yy];rw[HT.atJ];have e:HT.bE (-l) 0 (!(-60))=-l - 60:=by
  show(if(-60:Int) < 0 then((-60:Int) + (-l:Int)).toNat else min (-60:Int).toNat (-l))=_;rw[zJ a_]
  lia
 rw[e];exact awS (aik^^bO _)
structure Ww(m:Nat)(w:cz):Prop where
 n:w.ms.length=m
 ms:∀s∈w.ms,Wg m w.aq.length s
 way:∀g∈w.way,WD m w.aq.length g
 G3:w.way.length<=60
 st:∀e∈w.aq,VL.plain e.fm=oP/\(∀l,e.told=oF l->∀g∈l,g.ok w.aq.length)/\eU e.st.L
theorem Ww.note{m:Nat}{w:cz}(h:Ww m w){i:Nat}{gj:Str}{fm:D}{told:oT (oH eN)}{s:MS}(hs:Wg m (-w.aq + 1) s)(hp:VL.plain fm=oP)(ht:∀l,told\l->∀g∈l,WD m (-w.aq + 1) g):Ww m (w.note i gj fm told s):=by
 have hl:(w.note i gj fm told s).aq.length=-w.aq + 1:=by simp[cz.note]
 refine#[by simp[cz.note,h.n], ?_, ?_, ?_, ?_]
 .rw[hl];intro x hx;rcases aiM hx with h1 | h1
  .exact(h.ms x h1).mono (NI _)
  .rw[h1];lk
 .rw[hl];intro g hg;cases told with
  |none=>exact(h.way g hg).mono (NI _)
  |some l=>
   rcases lZ.mp (as1 hg) with h1 | h1
   .exact(h.way g h1).mono (NI _)
   .exact ht l rfl g h1
 .cases told with
  |none=>exact h.G3
  |some l=>exact aDe _
 .rw[hl];intro e he;rcases lZ.mp he with h1 | h1
  .let a b c:=h.st e h1;refine#[a,λl hl g hg=> ?_,c];have:=b l hl g hg;cases g with
   |so=>trivial
   |oW=>exact#[this.1,aHp this.2]
   |keep=>exact#[this.1,aHp this.2]
   |kept=>trivial
  .rw[ly.mp h1];exact#[hp,λl hl g hg=>(ht l hl g hg).ok,hs.wf.rows]
end WM
namespace K84
open PySem L2 VL WM
variable [nc K C]
theorem af8(nu ma:Int)(hn:∀f∈mH,mf K C f):apd K C [.nd (.obj C []) [],iD nu,iD ma]\(.sc .aG, [mD C nu ma 0 0 [] 0 "hears" (.nd (.aO []) []) (.nd (.aO []) [])]):=by
 have h:mf K C "number"/\mf K C "many"/\mf K C "term"/\mf K C "of"/\mf K C "log"/\mf K C "done"/\mf K C "role"/\mf K C "voices"/\mf K C "sizes"/\mf K C "fixed":=by
  simpa[mH]using hn
 let h1 h2 h3 h4 h5 h6 h7 h8 h9 aDg:=h;simp[apd,avo,h1,h2,h3,h4,h5,h6,h7,h8,h9,aDg,mD,mH,asb,Rj,Sh,apw,apx,apy,aoN,aoO,aoP,aoQ,ap0,ap1,ap2,ap3,ap4,Sm,Sz,SH,S0,Up,UN,aqW,aqX,aqY,aqZ,aq0,aq1,aq2,aq3,aq4,aq5,aq6,aq7,aq8,aq9,ara,asd,ase,asf,ash,asi,asj,asl,asm,asn,gP,bD,dG,af,fV,kW,ahi,oE,aa,bW,ju,kr,eM,bU,i0,aT,VL.plain,jf,eT,fO,aV,kT,aZ,rQ]
theorem aDh(nu ma te o:Int)(L:oH D)(dn:Int)(role:Str)(vo si:D)(hm:0 < ma):avB K C [mD C nu ma te o L dn role vo si]\iD (nP nu ma te):=by
 simp[avB,avA,mD,mH,asb,Rj,Sh,hm,nP,gx,dU,bD,bq,bV,af,ji,oB,iO,intD,jh,au,jf,jg,kT,rQ,t9,ud,ue]
theorem ayf(nu ma te o:Int)(L:oH D)(dn n:Int)(role:Str)(vo si:D):avh K C [mD C nu ma te o L dn role vo si,iD n]\tD (decide (ma < 2 * n)):=by
 simp[avh,avg,mD,mH,asb,bD,bV,af,ji,oB,iO,intD,jh,au,jf,jg,mM]
theorem aDi(o:Int)(L:oH D):aqk K C [.nd .tup [iD o, .nd .tup L]]\(.nd .tup [iD o,iD (-L)]):=by
 simp[aqk,avr,bD,bV,ar,eJ,af,fW,mq,gC,aN,ay,aW,kJ,jh,eP,au,VL.plain,gm,jg,kU,CV]
theorem aDj(h:NM r):aom K C 2 [r]\tD oP:=by
 cases h <;> simp[iJ,aom,asJ,asI,m4,jH,iq,bD,bq,iP,bV,gH,ar,af,gv,m4,apq,oN,fP,d7,VL.plain,gm,jg,kT,rQ,aoh,m6,an2,t9,ue,CV,axl]
theorem ayg:∀(L:oH D),iP (L.map λ_=>tD oP)\(L.map λ_=>oP)
 | []=>by simp[iP]
 |_::L=>by
  rw[cP,cP,iP,ayg L];rfl
theorem all_true(L:oH D):iq [.nd .lst (L.map λ_=>tD oP)]\tD oP:=by
 simp only[iq,ayg];simp
theorem aDk(L:oH D)(hL:eU L)(h:-L<=1210):iJ 1 [oM] [0] (λρ=>(af 0 ρ).bind fP) (λd ρ=>oF (bq 0 (B.ro d) ρ)) (λx=>oF oP) (λρ=>(ar (af 0) (λx=>oF []) ρ).bind λds=>if -ds=1 then aom K C 2 ds else oM) [k_ (.nd .tup L)]\.nd .lst (L.map λ_=>tD oP):=by
 have h3:-L<=aM:=eK h a_;rw[qD (n:=1) (js:= [oM]) (is:= [0]) (fi:=λρ=>(af 0 ρ).bind fP) (fg:=λd ρ=>oF (bq 0 (B.ro d) ρ)) (ft:=λx=>oF oP) (fe:=λρ=>(ar (af 0) (λx=>oF []) ρ).bind λds=>if -ds=1 then aom K C 2 ds else oM) (ρ:= [k_ (.nd .tup L)]) L id (λ_=>oP) (λ_=>tD oP) ?_ h3 rfl ?_,uV.mpr (λ_ _=>rfl)]
 .simp[bD,af,fP]
 .intro r hr;have hr:=aDj (K:=K) (C:=C) (hL r hr);simp[hr,bD,bq,gH,ar,af,t9,ue]
theorem aDl(L:oH D)(hL:eU L)(h:-L<=1210):asK K C [.nd .tup L]\tD oP:=by
 have e:=aDk (K:=K) (C:=C) L hL h;have e2:=all_true L;rw[asK];show bV _ (asJ K C (aom K C 2)) _=_;rw[asJ,asI];dsimp only;generalize (iJ 1 [oM] [0] (λρ=>(af 0 ρ).bind fP) (λd ρ=>oF (bq 0 (B.ro d) ρ)) (λx=>oF oP) (λρ=>(ar (af 0) (λx=>oF []) ρ).bind λds=>if -ds=1 then aom K C 2 ds else oM))=F at e |-;simp[e,e2,m4,bD,bV,ar,af,gv,m4,apq,d7,jg,kT,rQ,aoh,an2,CV]
theorem avU(nu ma te o:Int)(L R:oH D)(dn:Int)(role:Str)(vo si:D)(hL:eU L)(hR:eU R)(h:-L + -R<=1210):avl K C [mD C nu ma te o L dn role vo si, .nd .tup R]\(.sc .aG, [mD C nu ma te o (L++R) dn role vo si]):=by
 have hf:=aDl (K:=K) (C:=C) R hR b_;have h3:-L + -R<=aM:=eK h a_;have p1:=hL.plain;have p2:=hR.plain;have p3:=(hL.app hR).plain;simp[avl,avk,mD,mH,aoN,aoO,aoP,aoQ,asd,ase,asf,ash,asi,asj,asl,asm,asn,hf,p2,p3,h3,gx,gP,dU,bD,bq,dG,ar,af,fV,kW,ji,ahi,oB,oE,aa,oA,bW,jh,apU,eM,au,bU,i0,aT,VL.plain,gm,jf,eT,fO,aV,kT,aZ,rQ,t9,uc,ud,ue,uf]
theorem avV(nu te o:Int)(m:Nat)(L:oH D)(dn:Int)(role:Str)(vo si:D)(hm:m < 100):asF K C [mD C nu m te o L dn role vo si]\.nd .lst ((nz nu m).map λi:Nat=>D.sc (.int (i:Int))):=by
 have h3:m<=aM:=eK (nO hm) a_;rw[asF,avb,nz];dsimp only;refine fQ (ρ':= [k_ (mD C nu m te o L dn role vo si)]) (cD (e9 (ρ:= [k_ (mD C nu m te o L dn role vo si)]) (qD (kf m) (λi:Nat=>D.sc (.int (i:Int))) (λi:Nat=>decide ((i:Int)≠nu)) (λi:Nat=>D.sc (.int (i:Int))) ?_ ?_ ?_ ?_)))
 .have e:(ar (λρ=>(af 0 ρ).bind (ji (ae "many"))) (λx=>oF []) (awT (λd=>oF (B.ro d)) [mD C nu (↑m) te o L dn role vo si]++ug (1 - [mD C nu (↑m) te o L dn role vo si].length) oM))\[iD m]:=by simp[mD,mH,asb,bD,ar,af,ji,oB,jh,jf]
  exact ak.mpr #[_,e,by rw[apv m hm,Ri]]
 .rw[apk];lk
 .rfl
 .intro i hi;simp[mD,mH,axk,bD,bq,gH,af,ji,oB,jh,au,VL.plain,gJ,jf,t9,ud,ue]
theorem ayh(nu ma te o:Int)(L:oH D)(dn:Int)(role:Str)(vo si:D)(hL:eU L)(hz:-L<=1210):ave K C [mD C nu ma te o L dn role vo si]\.nd .tup L:=by
 have hp:=hL.plain;simp[ave,avd,mD,mH,hp,aoN,aoO,aoP,aoQ,asd,ase,asf,ash,asi,asj,asl,asm,asn,dU,bD,bq,bV,ar,af,ji,oB,oA,jh,VL.plain,gm,jf,jg,kT,rQ,aog,t9,ud,ue]
theorem aDm(nu ma te o:Int)(L:oH D)(dn:Int)(role:Str)(vo si:D)(hs:fD role=oP)(h:role≠"leads"):aoD K C [mD C nu ma te o L dn role vo si]\.nd .lst []:=by
 have he:=Oa role hs;rw[decide_eq_true h]at he;simp[aoD,asH,mD,mH,he,Sm,Sz,SH,S0,Up,UN,bD,bq,bV,ar,af,ji,oB,gv,jh,ju,au,jf,jg,kT,rQ]
theorem ayi(nu te o:Int)(m:Nat)(L:oH D)(dn:Int)(vo si:D)(hL:eU L)(hz:-L<=1210)(hm:m < 100):aoD K C [mD C nu m te o L dn "leads" vo si]\.nd .lst (aqu nu te m L dn):=by
 have he:=Oa "leads" c_;rw[decide_eq_false (λz=>z rfl)]at he;have ho:=avV (K:=K) (C:=C) nu te o m L dn "leads" vo si hm;have hr:=ayh (K:=K) (C:=C) nu m te o L dn "leads" vo si hL hz;have h3:-(nz nu m)<=aM:=eK (aoG nu m) (eK (nO hm) a_);rw[show aqu nu te m L dn=((nz nu m).filter λ_=>oP).map (asW nu te L dn) from by rw[aqu];rw[uV.mpr (λ_ _=>rfl)]];rw[aoD,asH];dsimp only;refine fQ (ρ':= [k_ (mD C nu m te o L dn "leads" vo si)]) (aD (ρ':= [k_ (mD C nu m te o L dn "leads" vo si)]) ?_ (cD (e9 (qD (nz nu m) (λi:Nat=>D.sc (.int (i:Int))) (λ_=>oP) (asW nu te L dn) ?_ h3 ?_ ?_))))
 .simp[mD,mH,he,Sm,Sz,SH,S0,Up,UN,bD,af,ji,oB,gv,jh,ju,au,jf,jg]
 .refine ak.mpr #[.nd .lst ((nz nu m).map λi:Nat=>D.sc (.int (i:Int))),ak.mpr #[[mD C nu m te o L dn "leads" vo si], ?_, ?_],rfl]
  .simp[bD,ar,af]
  .exact(zJ rfl).trans ho
 .rfl
 .intro i hi;have f1:=apz (C:=C) nu m te o L dn "leads" vo si;have f2:=arc (C:=C) nu m te o L dn "leads" vo si;have f3:=ard (C:=C) nu m te o L dn "leads" vo si;generalize mD C nu m te o L dn "leads" vo si=M at *;simp[asW,cx,f1,f2,f3,hr,bD,bq,gH,ar,af,d7,VL.plain,gJ,t9,ud,ue,axm]
theorem ayj(nu te o:Int)(m:Nat)(L:oH D)(dn:Int)(role:Str)(vo:D)(S:oH (Int×Int))(hm:m < 90):
  avj K C [mD C nu m te o L dn role vo (iG S)]\(.sc .aG, [mD C nu m te o L (tF dn ((j0 nu m S (-L)).filter (most m (j0 nu m S (-L))))) role vo (iG S)]):=by
 have ho:=avV (K:=K) (C:=C) nu te o m L dn role vo (iG S) b_;have aDn:=λn:Nat=>ayf (K:=K) (C:=C) nu m te o L dn n role vo (iG S);have h3:-(nz nu m)<=aM:=eK (aoG nu m) (eK (by lia:m<=100) a_);have h4:-(nz nu m) + 1<=aM:=eK (aiJ (aoG nu m)) (eK (by lia:m + 1<=100) a_);have Qb:=aDa nu m S (-L);have aDo:j0 nu m S (-L)=(nz nu m).map (λi:Nat=>gi S i)++ [(-L:Int)]:=rfl;have f1:=aCf (C:=C) nu m te o L dn role vo (iG S);have f2:=ao9 (C:=C) nu m te o L dn role vo (iG S);have f3:=ard (C:=C) nu m te o L dn role vo (iG S);have hg:=λi=>ax2 S i;have pM:=arb (C:=C) nu m te o L dn role vo (iG S);have h5:-(j0 nu m S (-L))<=aM:=eK Qb (eK (by lia:m + 1<=100) a_);have asz:=avP ((nz nu m).map (λi:Nat=>gi S i)++ [(-L:Int)]);have avW:=ints_map (dn::(j0 nu m S (-L)).filter (most m (j0 nu m S (-L))));have dM:=avP (dn::(j0 nu m S (-L)).filter (most m (j0 nu m S (-L))));have aIh:-((j0 nu m S (-L)).filter (most m (j0 nu m S (-L)))) + 1<=aM:=eK (aiJ (eK (VT _ _) Qb)) (eK (by lia:m + 1 + 1<=100) a_);generalize hA:j0 nu m S (-L)=zs at *;rw[avj,avi];dsimp only;refine Fm (ρ':= [!.aB 3 [],j_ (.nd .lst (zs.map iD)),j_ (.nd .lst ((zs.filter (most m zs)).map iD)),j_ (mD C nu m te o L (tF dn (zs.filter (most m zs))) role vo (iG S))])
  (aD (ρ':= [!.aB 3 [],j_ (.nd .lst (zs.map iD)),oM,j_ (mD C nu m te o L dn role vo (iG S))]) (eW (d:= .nd .lst (zs.map iD)) (ρ1:=kW 3 [oP] [mD C nu m te o L dn role vo (iG S)]) (e9 ?_) ?_)
  (aD (ρ':= [!.aB 3 [],j_ (.nd .lst (zs.map iD)),j_ (.nd .lst ((zs.filter (most m zs)).map iD)),j_ (mD C nu m te o L dn role vo (iG S))]) (eW (d:= .nd .lst ((zs.filter (most m zs)).map iD)) (ρ1:= [!.aB 3 [],j_ (.nd .lst (zs.map iD)),oM,j_ (mD C nu m te o L dn role vo (iG S))]) (e9 (qD zs iD (most m zs) iD ?_ h5 rfl ?_)) ?_) ?_)) ?_
 .refine ak.mpr #[.nd .lst ((nz nu m).map λi:Nat=>iD (gi S i)), ?_,ak.mpr #[.nd .lst [iD (-L)], ?_, ?_]]
  .have e:=qD (n:=3) (js:= [oM,!0]) (is:= [0]) (fg:=λd ρ=>oF (bq 0 (B.ro d) ρ)) (ft:=λx=>oF oP) (fe:=gJ (iu (λρ=>(af 1 ρ).bind (ji (ae "sizes"))) (af 0) λx=>oF (D.sc (V.int 0)))) (fi:=λρ=>((ar (af 0) (λx=>oF []) ρ).bind λds=>if -ds=1 then asF K C ds else oM).bind fP) (ρ:=kW 3 [oP] [mD C nu m te o L dn role vo (iG S)]) (nz nu m) (λi:Nat=>D.sc (.int (i:Int))) (λ_=>oP) (λi:Nat=>iD (gi S i)) ?_ h3 rfl ?_
   .rw[uV.mpr (λ_ _=>rfl)]at e;lk
   .refine ak.mpr #[.nd .lst ((nz nu m).map λi:Nat=>D.sc (.int (i:Int))),ak.mpr #[[mD C nu m te o L dn role vo (iG S)], ?_, ?_],rfl]
    .generalize mD C nu m te o L dn role vo (iG S)=M;simp[bD,ar,af,kW,aa,bW,bU,i0,aV]
    .exact(zJ rfl).trans ho
   .intro i _;have aDp:=hg i;generalize mD C nu m te o L dn role vo (iG S)=M at *;generalize iG S=W at *;refine#[[k_ (iD i),k_ M], ?_,rfl,λ_=> ?_]
    .simp[bD,bq,gH,af,kW,aa,bW,bU,i0,aV,t9,ud,ue]
    .have e:iu (λρ=>(af 1 ρ).bind (ji (ae "sizes"))) (af 0) (λx=>oF (D.sc (V.int 0))) [k_ (iD i),k_ M]\iD (gi S i):=by
      rw[iu];refine ak.mpr #[W,ak.mpr #[M,rfl,f1], ?_];lk
     rw[gJ];rw[e];rfl
  .generalize mD C nu m te o L dn role vo (iG S)=M at *;simp[f2,bD,ar,af,kW,aa,bW,eP,d7,bU,i0,aV,apu]
  .have G0:VL.bI ((nz nu m).map (λi:Nat=>iD (gi S i))++ [iD (-L)])=oP:=by simpa[cK,mJ,aHq]using asz
   rw[aDo];simp[gx,G0,h4,cK,mJ,aHq]
 .generalize mD C nu m te o L dn role vo (iG S)=M at *;simp[bq,kW,bW,bU,i0,t9,uc,ue,uf]
 .rfl
 .intro z hz;have hq:=aDn (-(zs.filter λx=>decide (z<=x)));generalize mD C nu m te o L dn role vo (iG S)=M at *;refine#[[k_ (iD z),k_ M,k_ (.nd .lst (zs.map iD))], ?_, ?_,λ_=> ?_]
  .simp[bD,bq,gH,af,aa,aV,t9,ud,ue]
  .have e:=qD (n:=0 + 1 + 1 + 1) (js:= [oM,!0]) (is:= [0]) (fi:=λρ=>(af 2 ρ).bind fP) (fg:=λd ρ=>oF (bq 0 (B.ro d) ρ)) (ft:=λρ=>(au (iO λi j=>V.bl (decide (j<=i))) (af 0) (af 1) ρ).bind λx=>match x with | D.sc (V.bl b)=>oF b | x=>oM) (fe:=gJ (af 0)) (ρ:= [k_ (iD z),k_ M,k_ (.nd .lst (zs.map iD))]) zs iD (λx=>decide (z<=x)) iD ?_ h5 rfl ?_
   .have e2:eP [.nd .lst ((zs.filter λx=>decide (z<=x)).map iD)]\iD (-(zs.filter λx=>decide (z<=x)):Nat):=by simp[eP]
    generalize (zs.filter λx=>decide (z<=x)).map iD=ys at *;refine ak.mpr #[tD (most m zs z),ak.mpr #[[M,iD (-(zs.filter λx=>decide (z<=x)):Nat)], ?_, ?_],rfl]
    .refine ak.mpr #[M,rfl, ?_];have e3:ar (λρ=>(ar (iJ (0 + 1 + 1 + 1) [oM,!0] [0] (λρ=>(af 2 ρ).bind fP) (λd ρ=>oF (bq 0 (B.ro d) ρ)) (λρ=>(au (iO λi j=>V.bl (decide (j<=i))) (af 0) (af 1) ρ).bind λx=>match x with | D.sc (V.bl b)=>oF b | x=>oM) (gJ (af 0))) (λx=>oF []) ρ).bind eP) (λx=>oF []) [k_ (iD z),k_ M,k_ (.nd .lst (zs.map iD))]\[iD (-(zs.filter λx=>decide (z<=x)):Nat)]:=by
      exact ak.mpr #[_,ak.mpr #[[.nd .lst ys],ak.mpr #[.nd .lst ys,e,rfl],e2],rfl]
     exact congrArg (aX (M:: ·)) e3
    .exact(zJ rfl).trans hq
   .simp[bD,af,fP]
   .intro x _;simp[bD,bq,gH,af,iO,au,VL.plain,gJ,t9,ud,ue]
  .simp[bD,af,VL.plain,gJ]
 .generalize mD C nu m te o L dn role vo (iG S)=M at *;simp[bq,t9,uc,ue,uf]
 .have aDq:i5 (.nd .lst [iD dn]) (.nd .lst ((zs.filter (most m zs)).map iD))\.nd .lst ((dn::zs.filter (most m zs)).map iD):=by
   have aDr:VL.bI (iD dn::(zs.filter (most m zs)).map iD)=oP:=dM;have aDs:1 + -(zs.filter (most m zs))<=aM:=b_
   simp[i5,gx,aDr,aDs]
  have aqv:aqV [.nd .lst ((dn::zs.filter (most m zs)).map iD)]\iD (tF dn (zs.filter (most m zs))):=by
   show(jq ((dn::zs.filter (most m zs)).map iD)).bind att=_;rw[avW];rfl
  generalize (zs.filter (most m zs))=cs at *;generalize D.nd .lst ((dn::cs).map iD)=SS at *;generalize (cs.map iD)=ys at *;generalize (zs.map iD)=zz at *;simp[mD,mH]at f3 |-;simp[aDq,aqv,ap0,ap1,ap2,ap3,ap4,bD,ar,af,fV,ji,ahi,oB,oE,aa,jh,d7,eM,au,aT,jf,eT,fO,aV,aZ,apu]
 .rfl
theorem aDt{GC:oH D->oT (D×oH D)}{M1 M2 r d:D}(hc:GC [M1]\(d, [M2])):ik (λρ=>(aX (λa=>(a,ρ)) (gn (aT 0) (λx=>oF []) ρ)).bind λa=>fL GC a.fst a.snd) [!.aB 2 [],k_ r,j_ M1]\(.nx [!.aB 2 [],k_ r,j_ M2]):=by
 have hs:∀(M e:D),aZ M [] e=e:=λM e=>by cases M <;> rfl
 simp[hc,kX,mY,gG,cT,gn,fL,ik,j3,aa,gg,aT,eT,fO,g9,aV,jF,kY,aZ]
theorem aDu(nu ma te o:Int)(L:oH D)(dn:Int)(role:Str)(vo si r:D)(hs:fD role=oP)(h:role≠"leads"):aon K C [mD C nu ma te o L dn role vo si,r]\(.sc .aG, [mD C nu ma te o L dn role vo si]):=by
 have he:=Oa role hs;rw[decide_eq_true h]at he;simp[aon,asL,mD,mH,he,Sm,Sz,SH,S0,Up,UN,gP,bD,dG,gn,mr,fL,ar,af,kW,j3,ji,oB,aa,gv,bW,A0,jh,methP,d7,au,bU,i0,aT,gJ,jf,eT,jg,aV,jF,kY,kT,rQ]
theorem aDv(nu te o:Int)(m:Nat)(L:oH D)(dn:Int)(vo r:D)(S:oH (Int×Int))(hL:eU L)(hr:NM r)(hz:-L < 890)(hm:m < 90):
  ∃Eb,Eb=tF dn ((j0 nu m S (-L + 1)).filter (most m (j0 nu m S (-L + 1))))/\
  aon K C [mD C nu m te o L dn "leads" vo (iG S),r]\(.nd .lst (aqu nu te m (L++ [r]) Eb), [mD C nu m te o (L++ [r]) Eb "leads" vo (iG S)]):=by
 refine#[_,rfl, ?_];have he:=Oa "leads" c_;rw[decide_eq_false (λz=>z rfl)]at he;have aDw:eU (L++ [r]):=hL.app (eU.one hr);have dw:-(L++ [r])=-L + 1:=e_
 have hb:=avU (K:=K) (C:=C) nu m te o L [r] dn "leads" vo (iG S) hL (eU.one hr) f_;have hc:=ayj (K:=K) (C:=C) nu te o m (L++ [r]) dn "leads" vo S hm;rw[dw]at hc;have aDx:=ayi (K:=K) (C:=C) nu te o m (L++ [r]) (tF dn ((j0 nu m S (-L + 1)).filter (most m (j0 nu m S (-L + 1))))) vo (iG S) aDw (by rw[dw];lia) b_;have ob:=aoB (C:=C) (m:="send") c_ nu m te o (L++ [r]) (tF dn ((j0 nu m S (-L + 1)).filter (most m (j0 nu m S (-L + 1))))) "leads" vo (iG S);have fr:=aso (C:=C) nu m te o L dn "leads" vo (iG S);have pr:=hr.plain;have p0:=arb (C:=C) nu m te o L dn "leads" vo (iG S);have p1:=arb (C:=C) nu m te o (L++ [r]) dn "leads" vo (iG S);have p2:=arb (C:=C) nu m te o (L++ [r]) (tF dn ((j0 nu m S (-L + 1)).filter (most m (j0 nu m S (-L + 1))))) "leads" vo (iG S);have hs:∀(M e:D),aZ M [] e=e:=λM e=>by cases M <;> rfl
 generalize tF dn ((j0 nu m S (-L + 1)).filter (most m (j0 nu m S (-L + 1))))=Eb at *;generalize mD C nu m te o L dn "leads" vo (iG S)=M at *;generalize mD C nu m te o (L++ [r]) dn "leads" vo (iG S)=M1 at *;generalize mD C nu m te o (L++ [r]) Eb "leads" vo (iG S)=M2 at *;rw[aon,asL];dsimp only;refine fC (ρ':= [!.aB 2 [],k_ r,j_ M2]) (aD (ρ':= [!.aB 2 [],k_ r,j_ M]) ?_ (aD (ρ':= [!.aB 2 [],k_ r,j_ M1]) ?_ (aD (ρ':= [!.aB 2 [],k_ r,j_ M2]) ?_ (cD (e9 ?_))))) rfl
 .simp[he,fr,bD,af,kW,aa,gv,bW,au,bU,i0,jg,aV]
 .simp[hb,pr,kX,mY,gG,cT,bD,gn,mr,fL,ar,af,ik,j3,aa,gg,d7,aT,gJ,eT,fO,g9,aV,jF,kY,aZ,apu]
 .exact aDt hc
 .simp[ob,aDx,bD,af,aa,methP,aV]
theorem ayk(nu ma te o:Int)(L R:oH D)(dn:Int)(role:Str)(vo si:D)(hL:eU L)(hR:eU R)(hz:-L<=600)(xO:-R<=600):asP K C [mD C nu ma te o L dn role vo si, .nd .tup R]\(.sc .aG, [mD C nu ma te o R dn role vo si]):=by
 have c1:=asX R (-L);have c2:=arH R (-L);have c3:=arH R 0;have hT:eU (R.take (-L)):=ax5 hR λd hd=>aBu hd;have ayl:eU (R.drop (-L)):=ax5 hR λd hd=>awO hd;let c hc qp:=Ex.eq (ax4 hT) (ax4 hL) a_ a_ not;have h3:-L<=aM:=eK hz a_;have h4:-R<=aM:=eK xO a_;have p1:=hL.plain;have p2:=hR.plain;rw[V7]at c3;have p3:=ayl.plain;have p4:=hT.plain;cases c with
 |true=>
  have e:R.take (-L)=L:=by have:=hc.mp rfl;injection this
  have hb:=avU (K:=K) (C:=C) nu ma te o L (R.drop (-L)) dn role vo si hL ayl (by rw[aik];lia);have e2:L++R.drop (-L)=R:=by
   have:=aiD (-L) R;rw[e]at this;lk
  rw[e2]at hb;generalize R.drop (-L)=R1 at *;generalize R.take (-L)=R0 at *;simp[mD,mH]at hb |-;simp[asP,asO,aoN,aoO,aoP,aoQ,p1,p2,c1,c2,qp,hb,gP,kX,mY,gG,cT,dU,bD,bq,dG,gn,mr,fL,ar,af,ik,fV,kW,j3,ji,ahi,oB,oE,aa,gg,gv,bW,jh,eP,ju,eM,au,bU,i0,aT,jf,eT,fO,g9,aV,jF,kY,kT,aZ,oS,aqL,rQ,i9,aog,t9,uc,ud,ue,uf]
 |false=>
  have hb:=avU (K:=K) (C:=C) nu ma te o [] R dn role vo si eU.nil hR f_;rw[Wk]at hb;have c3:cutD R (!0) oM=R:=c3;generalize R.take (-L)=R0 at *;simp[mD,mH]at hb |-;simp[asP,asO,aoN,aoO,aoP,aoQ,asd,ase,asf,ash,asi,asj,asl,asm,asn,p1,p2,c1,c3,qp,hb,gP,kX,mY,gG,cT,dU,bD,bq,dG,gn,mr,fL,ar,af,ik,fV,kW,j3,ji,ahi,oB,oE,aa,gg,gv,bW,jh,eP,ju,eM,au,bU,i0,aT,jf,eT,fO,g9,aV,jF,kY,kT,aZ,oS,aqL,rQ,i9,aog,t9,uc,ud,ue,uf]
theorem aym(h:NM r):abq K C 2 [r]\r:=by
 cases h <;> simp[iJ,abq,aqa,art,m4,jH,bD,bq,bV,gH,ar,af,gv,m4,apq,fP,kr,VL.plain,bI,jg,kT,rQ,aog,aoh,an2,t9,ue,CV,axl]
theorem aDy(R:oH D)(hR:eU R)(h:-R<=1210):aqb K C [.nd .tup R]\.nd .tup R:=by
 have h3:-R<=aM:=eK h a_;have e:iJ 1 [oM] [0] (λρ=>(af 0 ρ).bind fP) (λd ρ=>oF (bq 0 (B.ro d) ρ)) (λx=>oF oP) (λρ=>(ar (af 0) (λx=>oF []) ρ).bind λds=>if -ds=1 then abq K C 2 ds else oM) [k_ (.nd .tup R)]\.nd .lst R:=by
  have e:=qD (n:=1) (js:= [oM]) (is:= [0]) (fi:=λρ=>(af 0 ρ).bind fP) (fg:=λd ρ=>oF (bq 0 (B.ro d) ρ)) (ft:=λx=>oF oP) (fe:=λρ=>(ar (af 0) (λx=>oF []) ρ).bind λds=>if -ds=1 then abq K C 2 ds else oM) (ρ:= [k_ (.nd .tup R)]) R id (λ_=>oP) id ?_ h3 rfl ?_
  .rw[uV.mpr (λ_ _=>rfl),List.map_id]at e;lk
  .simp[bD,af,fP]
  .intro r hr;have hr:=aym (K:=K) (C:=C) (hR r hr);simp[hr,bD,bq,gH,ar,af,t9,ue]
 have hp:=hR.plain;rw[aqb];show bV _ (aqa K C (abq K C 2)) _=_;rw[aqa,art];dsimp only;generalize (iJ 1 [oM] [0] (λρ=>(af 0 ρ).bind fP) (λd ρ=>oF (bq 0 (B.ro d) ρ)) (λx=>oF oP) (λρ=>(ar (af 0) (λx=>oF []) ρ).bind λds=>if -ds=1 then abq K C 2 ds else oM))=F at e |-;simp[e,hp,m4,bD,bV,ar,af,gv,m4,apq,jg,kT,rQ,aog,aoh,an2]
theorem ayn{α:Type}(f:α->D):∀(l:oH (Int×α)) (i:Int) (x:α),(match cM (zh i:bc) (l.map λp=>(zh p.1:bc)) with | some k=>D.nd (.aO (l.map λp=>(zh p.1:bc))) ((l.map λp=>f p.2).set k (f x)) | none=>D.nd (.aO (l.map (λp=>(zh p.1:bc))++ [zh i])) ((l.map λp=>f p.2)++ [f x]))=D.nd (.aO ((nS l i x).map λp=>(zh p.1:bc))) ((nS l i x).map λp=>f p.2)
 | [],_,_=>rfl
 |p::l,i,x=>by
  have ih:=ayn f l i x;by_cases h:p.1=i
  .simp[cM,nS,h]
  .have hk:¬ (zh p.1:bc)=zh i:=λz=>h (awL z);rw[cP,cP,cM,zK hk,nS,zK h];cases e:cM (zh i:bc) (l.map λp=>(zh p.1:bc)) with
   |none=>
    rw[e]at ih;injection ih with i1 i2
    injection i1 with i1
    simp only[Option.map_none,cP,zr];rw[i1,i2]
   |some k=>
    rw[e]at ih;injection ih with i1 i2
    injection i1 with i1
    simp only[Option.map_some,cP,List.set_cons_succ];rw[i1,i2]
theorem ayo{α:Type}(f:α->D)(l:oH (Int×α))(i:Int)(x:α)(hn:(l.map (·.1)).Nodup)(hz:-l<=100):yf (.aO (l.map λp=>(zh p.1:bc))) (l.map λp=>f p.2) (iD i) (f x)\.nd (.aO ((nS l i x).map λp=>(zh p.1:bc))) ((nS l i x).map λp=>f p.2):=by
 have h1:-(l.map λp=>f p.2) < aM:=nI^^zp hz a_
 have h2:(l.map λp=>(zh p.1:bc)).Nodup:=by
  have e:(l.map λp=>(zh p.1:bc))=(l.map (·.1)).map zh:=by rw[mJ];rfl
  rw[e];exact List.Pairwise.map _ (λa b h z=>h (awL z)) hn
 have e:=ayn f l i x;rw[yf];show(if _ then _ else _)=_;rw[zJ #[h1,h2], <- e];cases cM (zh i:bc) (l.map λp=>(zh p.1:bc)) <;> rfl
theorem ayp(h:eU v.2):VL.plain (L1 v)=oP:=by
 have:=h.plain;simp[L1,VL.plain,VL.bI,this]
theorem aDz(vo:oH (Int×Int×oH D)):eP [xD vo]\iD (-vo):=by simp[eP,xD]
theorem aDA(vo:oH (Int×Int×oH D))(h:∀p∈vo,eU p.2.2):ar4 (xD vo)\.nd .lst (vo.map λp=>L1 p.2):=by
 have hp:VL.bI (vo.map λp=>L1 p.2)=oP:=vM λd hd=>by
  let p hp rfl:=gY.mp hd;exact ayp (h p hp)
 simp[ar4,xD,hp]
theorem ayq(v:Int×oH D):aqk K C [L1 v]\(.nd .tup [iD v.1,iD (-v.2)]):=aDi v.1 v.2
theorem avX:∀(r:oH (Int×Int×oH D)) (b:Int×oH D),alB (aqk K C) (r.map λp=>L1 p.2) (L1 b) (b.1,(-b.2:Int))\L1 (oe b r)
 | [],_=>rfl
 |p::r,b=>by
  rw[cP,alB,ayq];show(if alI p.2.1 (-p.2.2) b.1 (-b.2)=oP then _ else _)=_;rw[oe];rw[List.foldl_cons];have e:abz b p.2=if alI p.2.1 (-p.2.2) b.1 (-b.2)=oP then p.2 else b:=rfl;by_cases c:alI p.2.1 (-p.2.2) b.1 (-b.2)=oP
  .rw[zJ c]at e |-;rw[e];exact avX r p.2
  .rw[zK c]at e |-;rw[e];exact avX r b
theorem aDB(v:Int×Int×oH D)(r:oH (Int×Int×oH D))(h:∀p∈v::r,eU p.2.2):ar7 (aqk K C) [.nd .lst ((v::r).map λp=>L1 p.2)]\L1 (oe v.2 r):=by
 have hp:VL.bI ((v::r).map λp=>L1 p.2)=oP:=vM λd hd=>by
  let p hp rfl:=gY.mp hd;exact ayp (h p hp)
 rw[cP]at hp |-;unfold ar7;dsimp only;rw[zJ hp,ayq];exact avX r v.2
theorem ayr:∀(r:oH (Int×Int×oH D)) (v:Int×oH D),oe v r=v\/∃p∈r,oe v r=p.2
 | [],v=> .inl rfl
 |p::r,v=>by
  have e:oe v (p::r)=oe (abz v p.2) r:=rfl;rw[e];rcases ayr r (abz v p.2) with h | ⟨q,hq,h⟩
  .rw[h];rw[abz]
   split
   .exact .inr #[p, .head _,rfl]
   .exact .inl rfl
  .exact .inr #[q, .tail _ hq,h]
theorem ays(m:Nat)(nu:Int)(s:MS)(hL:eU s.L)(hz:-s.L<=600)(hv:∀p∈s.vo,eU p.2.2/\-p.2.2<=600)(hm:0 < m):asT K C [d5 C m nu s]\(.sc .aG, [d5 C m nu (lead m s)]):=by
 let te o L dn role vo si:=s;have hb:=ayf (K:=K) (C:=C) nu m te o L dn (-vo) role (xD vo) (iG si);have hl:=aDz vo;by_cases h:(m:Int) < 2 * (-vo:Nat)
 .cases vo with
  |nil=>simp at h;lia
  |cons v r=>
   have aDC:=aDA (v::r) λp hp=>(hv p hp).1;have aqv:=aDB (K:=K) (C:=C) v r λp hp=>(hv p hp).1;have hB:eU (oe v.2 r).2/\(oe v.2 r).2.length<=600:=by
    rcases ayr r v.2 with e | ⟨p,hp,e⟩
    .rw[e];exact hv v (.head _)
    .rw[e];exact hv p (.tail _ hp)
   have hr:=ayk (K:=K) (C:=C) nu m te o L (oe v.2 r).2 dn role (xD (v::r)) (iG si) hL hB.1 hz hB.2;have hp:=hB.1.plain;have e:lead m #[te,o,L,dn,role,v::r,si]=#[te,te,(oe v.2 r).2,dn,"leads",v::r, []]:=by
    rw[lead];rw[zJ h]
   rw[e];rw[decide_eq_true h]at hb;unfold d5;dsimp only;have ez:iG []= .nd (.aO []) []:=rfl;rw[ez];generalize (-(v::r))=N at *;generalize xD (v::r)=W at *;generalize ((v::r).map λp=>L1 p.2)=RR at *;generalize (oe v.2 r)=b at *;let bo bR:=b;generalize iG si=S at *;simp[mD,mH,L1]at hb aqv hr |-;simp[asT,asS,hb,hl,aDC,aqv,hr,hp,Rj,Sh,apw,apx,apy,Sm,Sz,SH,S0,Up,UN,aqW,aqX,aqY,aqZ,aq0,aq1,aq2,aq3,aq4,aq5,aq6,aq7,aq8,aq9,ara,gP,kX,mY,gG,cT,dU,bD,bq,dG,gn,fB,fL,ar,af,fW,ik,fV,kW,j3,ji,ahi,oB,oE,aa,gg,gv,bW,mq,gC,dF,ay,kJ,jh,eM,bU,i0,nT,oC,aT,VL.plain,bI,gm,jf,eT,fO,g9,aV,jF,kY,kT,aZ,rQ,t9,uc,ue,uf]
 .have e:lead m #[te,o,L,dn,role,vo,si]=#[te,o,L,dn,role,vo,si]:=by
   rw[lead];rw[zK h]
  rw[e];rw[decide_eq_false h]at hb;rw[d5];dsimp only;generalize (-vo)=N at *;generalize xD vo=W at *;generalize iG si=S at *;simp[mD,mH]at hb |-;simp[asT,asS,hb,hl,aqW,aqX,aqY,aqZ,aq0,aq1,aq2,gP,bD,dG,gn,fB,fL,ar,af,fW,kW,j3,ji,oB,aa,gv,bW,mq,gC,dF,ay,kJ,jh,bU,i0,nT,aT,jf,eT,aV,jF,kY,kT,rQ]
theorem avY(m:Nat)(nu:Int)(s:MS)(hL:eU s.L)(hz:-s.L<=600)(h0:0 < m)(hm:m < 90):aoE K C [d5 C m nu s]\(.nd .lst ((w5 m nu (rise m nu s).te).map cx), [d5 C m nu (rise m nu s)]):=by
 let te o L dn role vo si:=s;have aDD:(0:Int) < m:=b_
 have h3:-(nz nu m)<=aM:=by
  rw[nz];exact eK (VT _ _) (apk^^eK (by lia:m<=100) a_)
 have hn:=aDh (K:=K) (C:=C) nu m te o L dn role (xD vo) (iG si) aDD;have hl:=ays (K:=K) (C:=C) m nu #[nP nu m te,o,L,dn,"stands", [(nu,o,L)],si] hL hz (λp hp=>by rw[ly.mp hp];exact#[hL,hz]) h0;have er:rise m nu #[te,o,L,dn,role,vo,si]=lead m #[nP nu m te,o,L,dn,"stands", [(nu,o,L)],si]:=rfl;have et:(lead m #[nP nu m te,o,L,dn,"stands", [(nu,o,L)],si]).te=nP nu m te:=by
  rw[lead]
  split <;> rfl
 rw[er,et];generalize lead m #[nP nu m te,o,L,dn,"stands", [(nu,o,L)],si]=s2 at *;let aDE o2 L2 as2 as3 ayt ayu:=s2;have et:aDE=nP nu m te:=et;subst et;have ho:=avV (K:=K) (C:=C) nu (nP nu m te) o2 m L2 as2 as3 (xD ayt) (iG ayu) b_;have hp:=hL.plain;have G9:-L<=aM:=eK hz a_;have aDF:(w5 m nu (nP nu m te)).map cx=(((nz nu m).filter λ_=>oP).map λi:Nat=>D.nd .tup [.sc (.str "stand"), .sc (.int nu), .sc (.int (i:Int)), .sc (.int (nP nu m te))]):=by
  rw[w5];rw[uV.mpr (λ_ _=>rfl),mJ];rfl
 rw[aDF];unfold d5 at hl |-;dsimp only at hl |-;have ev:xD [(nu,o,L)]= .nd (.aO [.inl nu]) [.nd .tup [iD o, .nd .tup L]]:=rfl;rw[ev]at hl;generalize xD vo=V1 at *;generalize iG si=S1 at *;generalize xD ayt=V2 at *;generalize iG ayu=S2 at *;rw[aoE,avC];dsimp only;refine fC (ρ':= [!.aB 1 [],j_ (mD C nu m (nP nu m te) o2 L2 as2 as3 V2 S2)]) (aD (ρ':= [!.aB 1 [],j_ (mD C nu m (nP nu m te) o L dn role V1 S1)]) ?_ (aD (ρ':= [!.aB 1 [],j_ (mD C nu m (nP nu m te) o L dn "stands" V1 S1)]) ?_ (aD (ρ':= [!.aB 1 [],j_ (mD C nu m (nP nu m te) o L dn "stands" (.nd (.aO [.inl nu]) [.nd .tup [iD o, .nd .tup L]]) S1)]) ?_
  (aD (ρ':= [!.aB 1 [],j_ (mD C nu m (nP nu m te) o2 L2 as2 as3 V2 S2)]) ?_ (cD (e9 (qD (nz nu m) (λi:Nat=>D.sc (.int (i:Int))) (λ_=>oP) (λi:Nat=>D.nd .tup [.sc (.str "stand"), .sc (.int nu), .sc (.int (i:Int)), .sc (.int (nP nu m te))]) ?_ h3 ?_ ?_))))))) ?_
 .simp[mD,mH]at hn |-;simp[hn,Rj,Sh,bD,ar,af,fV,kW,ahi,oE,aa,bW,eM,bU,i0,aT,jf,eT,fO,aV,aZ]
 .simp[mD,mH,Sm,Sz,SH,S0,Up,UN,fV,ahi,oE,aa,eM,aT,jf,eT,fO,aV,aZ]
 .simp[mD,mH,hp,apw,apx,apy,aoN,aoO,aoP,aoQ,aqW,aqX,aqY,aqZ,aq0,aq1,aq2,bD,ar,af,qB,fV,ji,ahi,oB,oE,aa,kJ,jh,d7,eM,aT,VL.plain,gJ,jf,eT,fO,aV,aZ,aog,CV]
 .simp[mD,mH]at hl |-;simp[hl,kX,mY,gG,cT,gn,fL,ik,j3,aa,gg,aT,eT,fO,g9,aV,jF,kY,aZ]
 .refine ak.mpr #[.nd .lst ((nz nu m).map λi:Nat=>D.sc (.int (i:Int))),ak.mpr #[[mD C nu m (nP nu m te) o2 L2 as2 as3 V2 S2], ?_, ?_],rfl]
  .clear ho hl hn;simp[bD,ar,af,aa,aV]
  .exact(zJ rfl).trans ho
 .rfl
 .intro i hi;simp[mD,mH,Rj,Sh,bD,bq,gH,ar,af,ji,oB,aa,jh,d7,VL.plain,gJ,jf,aV,t9,ud,ue,aCd]
 .rfl
theorem aDG(m:Nat)(nu sn i t:Int)(s:MS)(hL:eU s.L)(hz:-s.L<=600):asR K C [d5 C m nu s,iD sn,iD t]\(.nd .lst ((ef m nu s (.so sn i t)).2.map cx), [d5 C m nu (ef m nu s (.so sn i t)).1]):=by
 let te o L dn role vo si:=s;unfold ef d5;dsimp only;by_cases h:t<=te
 .rw[zJ h];dsimp only;simp[mD,mH];simp[asR,asQ,h,Rj,Sh,gP,bD,dG,ar,af,kW,ji,oB,aa,gv,iO,bW,jh,ju,au,bU,i0,jf,jg,aV,kT,rQ]
 .rw[zK h];dsimp only;have hr:=ayh (K:=K) (C:=C) nu m t o L dn "hears" (xD vo) (iG si) hL (eK hz a_);have hp:=hL.plain;rw[cP,jQ,cx];simp[mD,mH]at hr |-;simp[asR,asQ,hr,h,Rj,Sh,apw,apx,apy,Sm,Sz,SH,S0,Up,UN,gP,bD,dG,ar,eJ,af,fV,kW,ji,ahi,oB,oE,aa,gv,iO,bW,jh,ju,kr,eM,au,bU,i0,aT,VL.plain,gm,jf,eT,fO,jg,aV,kT,aZ,rQ,kU,apu,axm]
theorem arI{r:Str}(h:r="hears"\/r="stands"\/r="leads"):fD r=oP:=by
 rcases h with rfl | rfl | rfl <;> decide +kernel
theorem aDH(m:Nat)(nu sn i t o':Int)(R:oH D)(s:MS)(w:Wf 600 s)(hR:eU R)(hz:-R<=600)(hm:0 < m):arA K C [d5 C m nu s,iD sn,iD t,iD o', .nd .tup R]\(.nd .lst ((ef m nu s (.oW sn i t o' R)).2.map cx), [d5 C m nu (ef m nu s (.oW sn i t o' R)).1]):=by
 have he:=Ea s.role "stands" (arI w.role) c_;have hw:=w.rows.plain;by_cases h:s.role="stands"/\t=s.te
 .have e:ef m nu s (.oW sn i t o' R)=(lead m { s with vo:=nS s.vo sn (o',R) }, []):=by
   unfold ef;dsimp only;rw[zJ h]
  rw[e];let h1 h2:=h;subst h2;have hv:∀p∈nS s.vo sn (o',R),eU p.2.2/\-p.2.2<=600:=λp hp=>by
   rcases aoo s.vo sn (o',R) p hp with q | q
   .exact w.vr p q
   .rw[q];exact#[hR,hz]
  have hl:=ays (K:=K) (C:=C) m nu { s with vo:=nS s.vo sn (o',R) } w.rows w.len hv hm;have aoH:=ayo L1 s.vo sn (o',R) w.vn (by have:=w.vl;lia);have hc:=aDy (K:=K) (C:=C) R hR b_;have pl:=hR.plain;rw[h1,decide_eq_true rfl]at he;generalize lead m { s with vo:=nS s.vo sn (o',R) }=s2 at *;let te o L dn role vo si:=s;have h1:role="stands":=h1;subst h1;rw[jQ];have hM:∃M2,M2=d5 C m nu s2:=#[_,rfl]
  let M2 hM:=hM;rw[<- hM]at hl |-;clear hM;rw[d5]at hl |-;dsimp only at hl he aoH |-;have ev:xD vo= .nd (.aO (vo.map λp=>(zh p.1:bc))) (vo.map λp=>L1 p.2):=rfl;have dE:xD (nS vo sn (o',R))= .nd (.aO ((nS vo sn (o',R)).map λp=>(zh p.1:bc))) ((nS vo sn (o',R)).map λp=>L1 p.2):=rfl;rw[<- dE]at aoH;rw[ev];generalize xD (nS vo sn (o',R))=W at *;generalize (vo.map λp=>(zh p.1:bc))=ks at *;generalize (vo.map λp=>L1 p.2)=cs at *;generalize iG si=S at *;simp[mD,mH,L1]at hl aoH |-;simp[arA,arz,he,oX,hc,aoH,hl,Rj,Sh,Sm,Sz,SH,S0,Up,UN,aqW,aqX,aqY,aqZ,aq0,aq1,aq2,gP,lN,kX,mY,gG,cT,bD,dG,gn,fL,ar,af,hJ,ik,fV,kW,j3,ji,oB,iZ,aa,gg,gv,cg,bW,jh,ju,ar9,kr,eM,au,bU,i0,nT,oC,aT,VL.plain,bI,jf,eT,fO,g9,jg,aV,jF,kY,kT,aZ,rQ]
 .have e:ef m nu s (.oW sn i t o' R)=(s, []):=by
   unfold ef;dsimp only;rw[zK h]
  rw[e];let te o L dn role vo si:=s;rw[d5];dsimp only at h he |-;rw[jQ];by_cases h1:role="stands"
  .rw[decide_eq_true h1]at he;have h2:¬ t=te:=λz=>h #[h1,z];simp[mD,mH];simp[arA,arz,he,oX,h2,Rj,Sh,Sm,Sz,SH,S0,Up,UN,gP,lN,bD,dG,gn,fL,ar,af,hJ,fV,kW,j3,ji,oB,iZ,aa,gv,bW,jh,ju,ar9,kr,eM,au,bU,i0,nT,aT,jf,eT,fO,jg,aV,jF,kY,kT,rQ]
  .rw[decide_eq_false h1]at he;simp[mD,mH];simp[arA,arz,he,oX,Rj,Sh,Sm,Sz,SH,S0,Up,UN,gP,lN,bD,dG,gn,fL,ar,af,hJ,fV,kW,j3,ji,oB,iZ,aa,gv,bW,jh,ju,ar9,kr,eM,au,bU,i0,nT,aT,jf,eT,fO,jg,aV,jF,kY,kT,rQ]
theorem or_true{a:Prop}[Decidable a]{l r:Nat}(h:a\/(l:Int) < r):(if a then oF oP else oF (decide (l < r)))\oP:=by
 by_cases c:a
 .rw[zJ c]
 .rw[zK c,decide_eq_true (by have:=h.resolve_left c;lia)]
theorem aDI(m:Nat)(nu sn i t sure:Int)(R:oH D)(s:MS)(hL:eU s.L)(hz:-s.L<=600)(hR:eU R)(xO:-R<=600):arw K C [d5 C m nu s,iD sn,iD t, .nd .tup R,iD sure]\(.nd .lst ((ef m nu s (.keep sn i t R sure)).2.map cx), [d5 C m nu (ef m nu s (.keep sn i t R sure)).1]):=by
 let te o L dn role vo si:=s;have p1:=hL.plain;have p2:=hR.plain;unfold ef d5;dsimp only;by_cases h:t < te
 .rw[zJ h];dsimp only;rw[jQ];simp[mD,mH];simp[arw,arv,h,Rj,Sh,gP,bD,dG,gn,fB,fL,ar,af,kW,j3,ji,oB,aa,gv,iO,bW,jh,ju,au,mV,bU,i0,nT,aT,jf,eT,jg,aV,jF,kY,kT,rQ]
 .rw[zK h];rw[kept];dsimp only;by_cases hc:o < t\/(-L:Int) < -R
  .rw[zJ hc];dsimp only;rw[cP,jQ,cx];have hr:=ayk (K:=K) (C:=C) nu m t o L R dn "hears" (xD vo) (iG si) hL hR hz xO;have aDJ:=or_true hc;simp[mD,mH]at hr |-;simp[arw,arv,h,hr,p2,Rj,Sh,apw,apx,apy,aoN,aoO,aoP,aoQ,ap0,ap1,ap2,ap3,ap4,Sm,Sz,SH,S0,Up,UN,aDJ,gP,kX,mY,gG,cT,bD,dG,gn,fB,fL,ar,eJ,af,ik,fV,kW,j3,ji,ahi,oB,oE,aa,gg,gv,iO,kB,bW,jh,eP,ju,kr,eM,au,mV,bU,i0,nT,aT,VL.plain,gm,jf,eT,fO,g9,jg,aV,jF,kY,kT,aZ,rQ,kU,apu,at6]
  .rw[zK hc];dsimp only;rw[cP,jQ,cx];have vE:¬ o < t:=λz=>hc (.inl z);have jV:¬ -L < -R:=λz=>hc (.inr b_);simp[mD,mH];simp[arw,arv,h,vE,jV,Rj,Sh,apw,apx,apy,aoN,aoO,aoP,aoQ,ap0,ap1,ap2,ap3,ap4,Sm,Sz,SH,S0,Up,UN,gP,bD,dG,gn,fB,fL,ar,eJ,af,ik,fV,kW,j3,ji,ahi,oB,oE,aa,gv,iO,kB,bW,jh,eP,ju,kr,eM,au,mV,bU,i0,nT,aT,VL.plain,gm,jf,eT,fO,jg,aV,jF,kY,kT,aZ,rQ,kU,apu,at6]
theorem aDK{c:En->oT (Bool×En)}{a b:En->oT Fl}{ρ ρ1:En}{r:oT Fl}(h:c ρ\(oP,ρ1))(ha:a ρ1=r):gv c a b ρ=r:=by
 rw[gv];rw[h];lk
theorem aDL{GC:oH D->oT (D×oH D)}{M1 M2 d:D}{sn te z:Int}(hc:GC [M1]\(d, [M2])):ik (λρ=>(aX (λa=>(a,ρ)) (gn (aT 0) (λx=>oF []) ρ)).bind λa=>fL GC a.fst a.snd) [!.aB 4 [],k_ (iD sn),k_ (iD te),k_ (iD z),j_ M1]\(.nx [!.aB 4 [],k_ (iD sn),k_ (iD te),k_ (iD z),j_ M2]):=by
 have hs:∀(M e:D),aZ M [] e=e:=λM e=>by cases M <;> rfl
 simp[hc,kX,mY,gG,cT,gn,fL,ik,j3,aa,gg,aT,eT,fO,g9,aV,jF,kY,aZ]
theorem aDM(m:Nat)(nu sn i t z:Int)(s:MS)(w:Wf 600 s)(hm:m < 90):ary K C [d5 C m nu s,iD sn,iD t,iD z]\(.nd .lst ((ef m nu s (.kept sn i t z)).2.map cx), [d5 C m nu (ef m nu s (.kept sn i t z)).1]):=by
 have he:=Ea s.role "leads" (arI w.role) c_;by_cases h:s.role="leads"/\t=s.te
 .have e:ef m nu s (.kept sn i t z)=(count m nu { s with si:=nS s.si sn (if gi s.si sn > z then gi s.si sn else z) }, []):=by
   unfold ef;dsimp only;rw[zJ h]
  rw[e];let h1 h2:=h;subst h2;have aoH:=ayo iD s.si sn (if gi s.si sn > z then gi s.si sn else z) w.sn (by have:=w.sl;lia);have hg:=ax2 s.si sn;rw[h1,decide_eq_true rfl]at he;let te o L dn role vo si:=s;have h1:role="leads":=h1;subst h1;dsimp only at he aoH hg |-;rw[jQ];unfold count d5;dsimp only;have hc:=ayj (K:=K) (C:=C) nu te o m L dn "leads" (xD vo) (nS si sn (if gi si sn > z then gi si sn else z)) hm;have dE:iG (nS si sn (if gi si sn > z then gi si sn else z))= .nd (.aO ((nS si sn (if gi si sn > z then gi si sn else z)).map λp=>(zh p.1:bc))) ((nS si sn (if gi si sn > z then gi si sn else z)).map λp=>iD p.2):=rfl;rw[<- dE]at aoH;generalize nS si sn (if gi si sn > z then gi si sn else z)=S' at *;generalize tF dn ((j0 nu m S' (-L)).filter (most m (j0 nu m S' (-L))))=Eb at *;generalize xD vo=VV at *;have hW:∃W,W=iG S':=#[_,rfl]
  let W hW:=hW;rw[<- hW]at aoH hc |-;clear hW dE;rw[ary,arx];dsimp only;refine fC (ρ':= [!.aB 4 [],k_ (iD sn),k_ (iD te),k_ (iD z),j_ (mD C nu m te o L Eb "leads" VV W)]) (aD (ρ':= [!.aB 4 [],k_ (iD sn),k_ (iD te),k_ (iD z),j_ (mD C nu m te o L Eb "leads" VV W)]) ?_ ?_) rfl
  .have bQ:hJ (λρ=>aX (λd=>(d,ρ)) ((ar (af 3) (ar (iu (λρ=>(af 0 ρ).bind (ji (ae "sizes"))) (af 1) λx=>oF (D.sc (V.int 0))) λx=>oF []) ρ).bind (kB λi j=>V.int (if j > i then j else i)))) (iZ (ae "sizes") (aT 0)) (af 1) [!.aB 4 [],k_ (iD sn),k_ (iD te),k_ (iD z),j_ (mD C nu m te o L dn "leads" VV (iG si))]\(.nx [!.aB 4 [],k_ (iD sn),k_ (iD te),k_ (iD z),j_ (mD C nu m te o L dn "leads" VV W)]):=by
    have avZ:iu (λρ=>(af 0 ρ).bind (ji (ae "sizes"))) (af 1) (λx=>oF (D.sc (V.int 0))) [!.aB 4 [],k_ (iD sn),k_ (iD te),k_ (iD z),j_ (mD C nu m te o L dn "leads" VV (iG si))]\iD (gi si sn):=by
     rw[iu];refine ak.mpr #[iG si, ?_, ?_]
     .simp[mD,mH,aq3,aq4,aq5,aq6,aq7,aq8,aq9,ara,bD,af,ji,oB,aa,jh,jf,aV]
     .exact hg
    generalize hq:gi si sn=q at *;generalize iu (λρ=>(af 0 ρ).bind (ji (ae "sizes"))) (af 1) (λx=>oF (D.sc (V.int 0)))=GD at avZ |-;simp[mD,mH,iG]at avZ aoH |-;simp[avZ,aoH,aq3,aq4,aq5,aq6,aq7,aq8,aq9,ara,bD,ar,af,hJ,fV,oB,iZ,aa,cg,kB,jh,eM,nT,oC,aT,VL.plain,bI,jf,eT,fO,aV,aZ]
   have dJ:=aDL (sn:=sn) (te:=te) (z:=z) hc;refine aDK (ρ1:= [!.aB 4 [],k_ (iD sn),k_ (iD te),k_ (iD z),j_ (mD C nu m te o L dn "leads" VV (iG si))]) ?_ (aD bQ dJ);simp[mD,mH];simp[he,oX,Rj,Sh,Sm,Sz,SH,S0,Up,UN,lN,bD,af,kW,ji,oB,aa,bW,jh,au,bU,i0,jf,aV]
  .simp[ju,jg]
 .have e:ef m nu s (.kept sn i t z)=(s, []):=by
   unfold ef;dsimp only;rw[zK h]
  rw[e];let te o L dn role vo si:=s;rw[d5];dsimp only at h he |-;rw[jQ];by_cases h1:role="leads"
  .rw[decide_eq_true h1]at he;have h2:¬ t=te:=λz=>h #[h1,z];simp[mD,mH];simp[ary,arx,he,oX,h2,Rj,Sh,Sm,Sz,SH,S0,Up,UN,gP,lN,bD,dG,gn,fL,ar,af,iu,fW,hJ,fV,kW,j3,ji,oB,iZ,aa,gv,bW,kJ,jh,ju,eM,au,bU,i0,nT,aT,jf,eT,fO,jg,aV,jF,kY,kT,rQ]
  .rw[decide_eq_false h1]at he;simp[mD,mH];simp[ary,arx,he,oX,Rj,Sh,Sm,Sz,SH,S0,Up,UN,gP,lN,bD,dG,gn,fL,ar,af,iu,fW,hJ,fV,kW,j3,ji,oB,iZ,aa,gv,bW,kJ,jh,ju,eM,au,bU,i0,nT,aT,jf,eT,fO,jg,aV,jF,kY,kT,rQ]
theorem aoM(a b:Str)(ha:fD a=oP)(hb:fD b=oP)(h:decide (a=b)=yv):dN id (.sc (.str a)) (.sc (.str b))\.sc (.bl yv):=by rw[Ea _ _ ha hb,h]
theorem eqT(a:Str)(ha:fD a=oP):dN id (.sc (.str a)) (.sc (.str a))\.sc (.bl oP):=by rw[Ea _ _ ha ha,decide_eq_true rfl]
theorem aDN(m:Nat)(nu:Int)(s:MS)(g:eN)(w:Wf 600 s)(hg:g.ok 600)(h0:0 < m)(hm:m < 90):ape K C [d5 C m nu s,cx g]\(.nd .lst ((ef m nu s g).2.map cx), [d5 C m nu (ef m nu s g).1]):=by
 cases g with
 |so sn i t=>
  have hv:=aDG (K:=K) (C:=C) m nu sn i t s w.rows w.len;have h1:=eqT "stand" c_;generalize ef m nu s (.so sn i t)=X at *;generalize d5 C m nu s=M at *;rw[cx];simp[ape,aqm,h1,hv,gP,kX,mY,gG,cT,bD,dG,gn,fB,fL,af,fW,kW,j3,aa,gg,gv,bW,mq,gC,dF,aN,ay,aW,kJ,jh,au,bU,i0,nT,oC,aT,VL.plain,eT,fO,g9,jg,aV,jF,kY,kT,aZ,rQ]
 |oW sn i t o' R=>
  have hv:=aDH (K:=K) (C:=C) m nu sn i t o' R s w hg.1 hg.2 h0;have h1:=aoM "voice" "stand" c_ c_ c_;have h2:=eqT "voice" c_;have pl:=hg.1.plain;generalize ef m nu s (.oW sn i t o' R)=X at *;generalize d5 C m nu s=M at *;rw[cx];simp[ape,aqm,h1,h2,hv,pl,gP,kX,mY,gG,cT,bD,dG,gn,fB,fL,af,fW,kW,j3,aa,gg,gv,bW,mq,gC,dF,aN,ay,aW,kJ,jh,au,bU,i0,nT,oC,aT,VL.plain,eT,fO,g9,jg,aV,jF,kY,kT,aZ,rQ]
 |keep sn i t R dn=>
  have hv:=aDI (K:=K) (C:=C) m nu sn i t dn R s w.rows w.len hg.1 hg.2;have h1:=aoM "keep" "stand" c_ c_ c_;have h2:=aoM "keep" "voice" c_ c_ c_;have h3:=eqT "keep" c_;have pl:=hg.1.plain;generalize ef m nu s (.keep sn i t R dn)=X at *;generalize d5 C m nu s=M at *;rw[cx];simp[ape,aqm,h1,h2,h3,hv,pl,gP,kX,mY,gG,cT,bD,dG,gn,fB,fL,af,fW,kW,j3,aa,gg,gv,bW,mq,gC,dF,aN,ay,aW,kJ,jh,au,bU,i0,nT,oC,aT,VL.plain,eT,fO,g9,jg,aV,jF,kY,kT,aZ,rQ]
 |kept sn i t z=>
  have hv:=aDM (K:=K) (C:=C) m nu sn i t z s w hm;have h1:=aoM "kept" "stand" c_ c_ c_;have h2:=aoM "kept" "voice" c_ c_ c_;have h3:=aoM "kept" "keep" c_ c_ c_;generalize ef m nu s (.kept sn i t z)=X at *;generalize d5 C m nu s=M at *;rw[cx];simp[ape,aqm,h1,h2,h3,hv,gP,kX,mY,gG,cT,bD,dG,gn,fB,fL,af,fW,kW,j3,aa,gg,gv,bW,mq,gC,dF,aN,ay,aW,kJ,jh,au,bU,i0,nT,oC,aT,VL.plain,eT,fO,g9,jg,aV,jF,kY,kT,aZ,rQ]
theorem ayv(m:Nat)(nu:Int)(s:MS):(keeps m nu s).map cx=aqu nu s.te m s.L s.dn:=by
 rw[keeps,aqu];rw[mJ];rfl
theorem ayw(m:Nat)(nu:Int)(s:MS)(w:Wf 600 s)(hm:m < 90):aoD K C [d5 C m nu s]\.nd .lst ((sends m nu s).map cx):=by
 rw[sends];by_cases h:s.role="leads"
 .rw[zJ h,ayv];rw[d5];rw[h];exact ayi nu s.te s.o m s.L s.dn (xD s.vo) (iG s.si) w.rows (eK w.len a_) b_
 .rw[zK h,jQ];exact aDm nu m s.te s.o s.L s.dn s.role (xD s.vo) (iG s.si) (arI w.role) h
theorem aDO(m:Nat)(nu:Int)(s:MS):arG K C [d5 C m nu s]\(.nd .lst [], [d5 C m nu (alM s)]):=by
 let te o L dn role vo si:=s;unfold alM d5;dsimp only;simp[arG,avG,mD,mH,ap0,ap1,ap2,ap3,ap4,Sm,Sz,SH,S0,Up,UN,gP,dG,fV,kW,ahi,oE,aa,bW,ju,eM,bU,i0,aT,jf,eT,fO,jg,aV,kT,aZ,rQ]
def as4:oT (oH eN)->D
 |some l=> .nd .lst (l.map cx)
 |none=> .sc .aG
theorem ayx(m:Nat)(nu:Int)(s:MS)(r:D)(w:Wf 600 s)(hr:NM r)(hm:m < 90):aon K C [d5 C m nu s,r]\(as4 (sG m nu r s).2, [d5 C m nu (sG m nu r s).1]):=by
 rw[sG];by_cases h:s.role="leads"
 .rw[zJ h];dsimp only;rw[as4,ayv];let te o L dn role vo si:=s;have h:role="leads":=h;subst h;rw[d5,count];dsimp only;let Eb e ha:=aDv (K:=K) (C:=C) nu te o m L dn (xD vo) r si w.rows hr (zp w.len a_) hm;rw[show(L++ [r]).length=-L + 1 by simp, <- e];lk
 .rw[zK h];exact aDu nu m s.te s.o s.L s.dn s.role (xD s.vo) (iG s.si) r (arI w.role) h
end K84
namespace WM
open PySem L2 VL
theorem av0(h:g.ok b):VL.plain (cx g)=oP:=by
 cases g with
 |so=>simp[cx,VL.plain,VL.bI]
 |oW sn i t o R=>have:=h.1.plain;simp[cx,VL.plain,VL.bI,this]
 |keep sn i t R dn=>have:=h.1.plain;simp[cx,VL.plain,VL.bI,this]
 |kept=>simp[cx,VL.plain,VL.bI]
theorem an8{l:oH eN}(h:∀g∈l,g.ok b):VL.bI (l.map cx)=oP:=vM λd hd=>by
 let g hg rfl:=gY.mp hd;exact av0 (h g hg)
theorem arJ(h:∀l,t\l->∀g∈l,g.ok b):VL.plain (x8 t)=oP:=by
 cases t with
 |none=>rfl
 |some l=>have:=an8 (h l rfl);simp[x8,VL.plain,this]
def cz.apf(w:cz)(i:Nat)(gj:Str)(fm:D)(told:oT (oH eN))(s:MS):cz:= { w with aq:=w.aq++ [#[i,gj,fm,told,s]],way:=(match told with | some l=>yy (w.way++l) | none=>w.way) }
noncomputable def cz.cut (w:cz) (k:Nat):cz:= { w with way:=w.way.eraseIdx k }
def cz.told(w:cz)(alR:Bool)(k:Nat)(g:eN)(i m:Nat)(s:MS):cz:=(if alR=oP then w else w.cut k).note i "hear" (cx g) (oF (ef m i s g).2) (ef m i s g).1
theorem aDP(way:oH eN)(k:Nat):way.take k++way.drop (k + 1)=way.eraseIdx k:=(List.eraseIdx_eq_take_drop_succ way k).symm
theorem Ww.told(h:Ww m w)(hm:m < 40)(hk:w.way[k]?\g)(hs:w.ms[i]?\s):Ww m (cz.told w alR k g i m s):=by
 have Fw:g∈w.way:=jr hk;have av1:s∈w.ms:=jr hs;have mg:=h.way g Fw;have ws:=h.ms s av1;have apC:i < m:=by rw[<- h.n];exact(cX.mp hs).1
 have wh:=aya (nu:=i) ws mg b_;have mh:=ayc (nu:=i) ws mg b_ b_;have tR:Ww m (if alR=oP then w else w.cut k):=by
  split
  .lk
  .exact#[h.n,h.ms,λx hx=>h.way x (aqH hx),eK (List.length_eraseIdx_le ..) h.G3,h.st]
 have e:(if alR=oP then w else w.cut k).aq.length=-w.aq:=by split <;> rfl
 exact tR.note (e^^wh.mono (NI _)) (av0 mg.ok) λl hl x hx=>by cases hl;rw[e];exact(mh x hx).mono (NI _)
theorem av2(w:cz)(alR:Bool)(k:Nat)(g:eN)(i m:Nat)(s:MS):(cz.told w alR k g i m s).aq.length=-w.aq + 1:=by
 rw[cz.told,cz.note]
 split <;> simp[cz.cut]
end WM
namespace K84
open PySem L2 VL WM
variable [nc K C]
section
variable [Pn]
theorem aoV(a b c d:D):ay (.nd (.aO gD) [a,b,c,d]) (.sc (.str "masters"))\0:=by
 simp[ay,mq,fW,gD,cM,kJ]
theorem av3:(ae "masters"=ae "way")=False:=aiR
theorem ayy:(ae "masters"=ae "story")=False:=aiR
theorem av4:(ae "masters"=ae "rows")=False:=aiR
theorem ayz:(ae "way"=ae "story")=False:=aiR
theorem av5:(ae "way"=ae "rows")=False:=aiR
theorem av6:(ae "story"=ae "rows")=False:=aiR
theorem aop(a b c d:D):ay (.nd (.aO gD) [a,b,c,d]) (.sc (.str "way"))\1:=by
 simp[ay,mq,fW,gD,cM,kJ,av3]
theorem ayA(a b c d:D):ay (.nd (.aO gD) [a,b,c,d]) (.sc (.str "story"))\2:=by
 simp[ay,mq,fW,gD,cM,kJ,ayy,ayz]
theorem ayB(a b c d:D):ay (.nd (.aO gD) [a,b,c,d]) (.sc (.str "rows"))\3:=by
 simp[ay,mq,fW,gD,cM,kJ,av4,av5,av6]
theorem av7:gD.Nodup:=by simp[gD,av3,ayy,av4,ayz,av5,av6]
theorem as5(a b c d x:D):yf (.aO gD) [a,b,c,d] (.sc (.str "way")) x\(.nd (.aO gD) [a,x,c,d]):=by
 have h:=av7;have h4:(4:Nat) < aM:=a_
 have e:cM (.inr (ae "way"):bc) gD\1:=by simp[gD,cM,av3]
 simp[yf,kJ,h,h4,e]
theorem aDQ(a b c d x:D):yf (.aO gD) [a,b,c,d] (.sc (.str "rows")) x\(.nd (.aO gD) [a,b,c,x]):=by
 have h:=av7;have h4:(4:Nat) < aM:=a_
 have e:cM (.inr (ae "rows"):bc) gD\3:=by simp[gD,cM,av4,av5,av6]
 simp[yf,kJ,h,h4,e]
theorem Al{m:Nat}{ms:oH MS}{i:Nat}{s:MS}(h:ms[i]?\s):(eg C m ms)[i]?\d5 C m i s:=by
 rw[eg];rw[atA,h];rfl
theorem aqw:-(eg C m ms)=-ms:=by rw[eg];rw[aBy]
theorem vp:∀{cs:oH D} {i:Nat} {d:D},cs[i]?\d->VL.plain d=yv->bI cs=yv
 | [],_,_,h,_=>by simp at h
 |c::cs,0,d,h,p=>by cases h;rw[bI,p];rfl
 |c::cs,i + 1,d,h,p=>by rw[bI,vp (cs:=cs) (i:=i) h p,Bool.and_false]
theorem apD{m:Nat}{ms:oH MS}{i:Nat}{s:MS}(h:ms[i]?\s):ay (.nd pk (eg C m ms)) (iD i)\i/\jh (.nd pk (eg C m ms)) i\d5 C m i s:=by
 have hi:i < -(eg C m ms):=by rw[aqw];exact(cX.mp h).1
 have e1:mq (.nd pk (eg C m ms)) (iD i)\i:=by
  have h0:¬ (i:Int) < 0:=b_
  simp[mq,gC,hi]
 refine#[by rw[ay];rw[e1], ?_];have:=Al (C:=C) (m:=m) h;simp[jh,this]
theorem wz(m:Nat)(nu:Int)(s:MS):VL.plain (d5 C m nu s)=yv:=arb _ _ _ _ _ _ _ _ _
theorem aoW{m:Nat}{ms:oH MS}(hn:-ms=m)(h0:0 < m):bI (eg C m ms)=yv:=by
 have e:ms[0]?\ms[0]:=dH b_;exact vp (Al e) (wz m 0 _)
theorem apg(m:Nat)(w:cz)(i:Nat)(gj:Str)(fm:D)(told:oT (oH eN))(s:MS)(hs:w.ms[i]?\s)(hL:eU s.L)(hz:-s.L<=900)(hp:VL.plain fm=oP)(ht:∀l,told\l->(∀g∈l,g.ok 900)/\-l<=100)(hw:(∀g∈w.way,g.ok 900)/\-w.way<=60)(hn:-w.aq<=900):
  an6 K C [wD C m w,iD i,sD gj,fm,x8 told]\(.sc .aG, [wD C m (cz.apf w i gj fm told s)]):=by
 let ms way aq rows:=w;dsimp only at hs hw hn;let i1 i2:=apD (C:=C) (m:=m) hs;have i3:=Al (C:=C) (m:=m) hs;have pM:=wz (C:=C) m i s;have pl:=vp i3 pM;have f1:ji "term" (d5 C m i s)\iD s.te:=arc _ _ _ _ _ _ _ _ _;have f2:ji "of" (d5 C m i s)\iD s.o:=axn _ _ _ _ _ _ _ _ _;have f3:ji "log" (d5 C m i s)\.nd .lst s.L:=ao9 _ _ _ _ _ _ _ _ _;have f4:ji "done" (d5 C m i s)\iD s.dn:=ard _ _ _ _ _ _ _ _ _;have f5:ji "role" (d5 C m i s)\sD s.role:=aso _ _ _ _ _ _ _ _ _;have aDR:=hL.plain;have aIi:-s.L<=aM:=eK hz a_;have aDS:VL.plain (x8 told)=oP:=arJ (b:=900) λl hl=>(ht l hl).1;have aDT:aog [.nd .lst s.L]\.nd .tup s.L:=by simp[aog,aDR]
 have aDU:oI (D.nd .tup [iD i,sD gj,fm,x8 told, .nd .tup [iD s.te,iD s.o, .nd .tup s.L,iD s.dn,sD s.role]]) (aq.map Uy)\((aq++ [(#[i,gj,fm,told,s]:aoc)]).map Uy):=by
  have h9:-aq < aM:=zp hn a_;simp[oI,h9,Uy,aye]
 have W:wD C m #[ms,way,aq,rows]= .nd (.aO gD) [.nd pk (eg C m ms), .nd .lst (way.map cx), .nd .lst (aq.map Uy),iD rows]:=rfl;have aDV:∀l,told\l->apb (.nd .lst (way.map cx)) (x8 told)\.nd .lst ((way++l).map cx):=λl hl=>by
  subst hl;have p:VL.bI ((way++l).map cx)=oP:=an8 (b:=900) λg hg=>by
   rcases lZ.mp hg with h | h
   .exact hw.1 g h
   .exact(ht l rfl).1 g h
  have z:-way + -l<=aM:=eK (by have:=hw.2;have:=(ht l rfl).2;simp at *;lia:-way + -l<=900) a_;rw[cK]at p |-;simp[apb,x8,abp,p,z]
 have aDW:∀l,told\l->oS (.nd .lst ((way++l).map cx)) (!(-60)) oM\.nd .lst ((yy (way++l)).map cx):=λl hl=>by
  subst hl;have p:VL.bI ((way++l).map cx)=oP:=an8 (b:=900) λg hg=>by
   rcases lZ.mp hg with h | h
   .exact hw.1 g h
   .exact(ht l rfl).1 g h
  have e:=aDf ((way++l).map cx);have e2:yy ((way++l).map cx)=(yy (way++l)).map cx:=by
   unfold yy;rw[nI,awU]
  rw[e2]at e;generalize (way++l).map cx=CC at *;simp[oS,p,e]
 unfold cz.apf;dsimp only;rw[an6,ava];dsimp only;have e0:kW 6 [oP,yv,yv,yv,yv] [wD C m #[ms,way,aq,rows],iD i,sD gj,fm,x8 told]= [!.aB 6 [],k_ (iD i),k_ (sD gj),k_ fm,k_ (x8 told),oM,j_ (wD C m #[ms,way,aq,rows])]:=by
  generalize wD C m #[ms,way,aq,rows]=WW;simp[kW,bW,bU,i0]
 generalize ayC:(aq++ [(#[i,gj,fm,told,s]:aoc)]).map Uy=dJ at *;have e1:(gV 5 (dF ay (dF ay (aT 0) λx=>oF (D.sc (V.str (ae "masters")))) (af 1))) [!.aB 6 [],k_ (iD i),k_ (sD gj),k_ fm,k_ (x8 told),oM,j_ (wD C m #[ms,way,aq,rows])]\(.nx [!.aB 6 [],k_ (iD i),k_ (sD gj),k_ fm,k_ (x8 told),!.aB 6 [0,i],j_ (wD C m #[ms,way,aq,rows])]):=by
  rw[W];generalize d5 C m i s=M at *;simp[aoV,i1,i3,pM,pl,gV,bD,bq,af,aa,cg,dF,jh,nT,oC,aT,VL.plain,bI,aV,t9,uc,ud,ue,uf]
 let ρ1:D->En:=λX=> [!.aB 6 [],k_ (iD i),k_ (sD gj),k_ fm,k_ (x8 told),!.aB 6 [0,i],j_ X]
 have e2:(ik (atO (dF ay (aT 0) λx=>oF (D.sc (V.str (ae "story")))) (d7 Kd.tup (ar (gJ (af 1)) (ar (gJ (af 2)) (ar (gJ (af 3)) (ar (gJ (af 4)) (ar (d7 Kd.tup (ar (gJ λρ=>(af 5 ρ).bind (ji (ae "term"))) (ar (gJ λρ=>(af 5 ρ).bind (ji (ae "of"))) (ar (λρ=>(ar (λρ=>(af 5 ρ).bind (ji (ae "log"))) (λx=>oF []) ρ).bind aog) (ar (gJ λρ=>(af 5 ρ).bind (ji (ae "done"))) (ar (gJ λρ=>(af 5 ρ).bind (ji (ae "role"))) λx=>oF [])))))) λx=>oF [])))))))) (ρ1 (wD C m #[ms,way,aq,rows]))\(.nx (ρ1 (.nd (.aO gD) [.nd pk (eg C m ms), .nd .lst (way.map cx), .nd .lst dJ,iD rows]))):=by
  rw[W];dsimp only[ρ1];generalize d5 C m i s=M at *;generalize x8 told=T at *;generalize aq.map Uy=bQ at *;generalize way.map cx=wy at *;simp[ayA,i3,pl,abC,f1,f2,f3,f4,f5,aDT,hp,aDS,aDU,atO,bD,ar,af,ik,fV,aa,cg,dF,jh,lO,d7,eM,nT,oC,aT,VL.plain,bI,gJ,eT,akS,akT,aV,aZ,at6]
 cases told with
 |none=>
  refine Fm (ρ':=ρ1 (.nd (.aO gD) [.nd pk (eg C m ms), .nd .lst (way.map cx), .nd .lst dJ,iD rows])) (by
   rw[e0];refine aD e1 (aD e2 ?_);simp[ρ1,x8,bD,af,fW,hJ,fV,gv,lP,oJ,qz,mq,gC,aN,ay,aW,kJ,eM,au,aT,eT,akS,aV,oS,aqL,i9]) ?_
  rw[wD];dsimp only;rw[ayC];simp[ρ1,gP]
 |some l=>
  have hc:=aDV l rfl;have hk:=aDW l rfl;refine Fm (ρ':= [!.aB 6 [],k_ (iD i),k_ (sD gj),k_ fm,k_ (x8 (!l)),oM,j_ (.nd (.aO gD) [.nd pk (eg C m ms), .nd .lst ((yy (way++l)).map cx), .nd .lst dJ,iD rows])]) (by
   rw[e0];refine aD e1 (aD e2 ?_);dsimp only[ρ1];have XM:qz (x8 (!l))\yv:=rfl;generalize x8 (!l)=T at *;generalize D.nd .lst ((way++l).map cx)=CC at *;generalize (yy (way++l)).map cx=L6 at *;generalize way.map cx=wy at *;simp[aop,as5,hc,hk,XM,abC,bD,af,hJ,fV,aa,gv,lP,oJ,aN,aW,jh,eM,au,aT,eT,akS,akT,aV,aZ,aqL,i9]) ?_
  rw[wD];dsimp only;rw[ayC];simp[gP]
theorem apE(m:Nat)(ms:oH MS)(i:Nat)(s:MS):(eg C m ms).set i (d5 C m i s)=eg C m (ms.set i s):=by
 refine aBz λj=> ?_;unfold eg;rw[atA];by_cases c:i=j
 .subst c;by_cases h:i < -ms
  .rw[gK (aBy^^h),gK h];rfl
  .rw[uU (by rw[bN,aBy];lia),uU (by rw[bN];lia)];rfl
 .rw[gq c,gq c,atA]
theorem ayD{way:oH eN}{k:Nat}{g:eN}(h:way[k]?\g):ay (.nd .lst (way.map cx)) (iD k)\k/\jh (.nd .lst (way.map cx)) k\cx g:=by
 have hi:k < -way:=(cX.mp h).1;have e1:mq (.nd .lst (way.map cx)) (iD k)\k:=by
  have h0:¬ (k:Int) < 0:=b_
  simp[mq,gC,hi]
 refine#[by rw[ay];rw[e1], ?_];simp[jh,h]
theorem aDX(g:eN):aW ay aN (cx g) (.sc (.int 2))\iD g.to:=by
 cases g <;> simp[cx,eN.to,mq,gC,ay,aW,jh]
theorem aDY{GH GN:oH D->oT (D×oH D)}{ks:oH bc}{M M' g a b c W':D}{ee uC:oH D}{k st dq:D}{i:Nat}(h3:VL.plain g=oP)(ht:aW ay aN g (.sc (.int 2))\iD i)(hk:∀x,ay (.nd (.aO ks) [x,a,b,c]) (.sc (.str "masters"))\0)(h1:ay (.nd pk ee) (iD i)\i)(h2:jh (.nd pk ee) i\M)(P2:ee[i]?\M)(hs:ee.set i M'=uC)(pM:VL.plain M=yv)(UY:VL.plain M'=yv)(ho:A0 C "hear" M=oP)(eh:GH [M,g]\(dq, [M']))(po:VL.plain (Eg dq)=oP)(en:GN [.nd (.aO ks) [.nd pk uC,a,b,c],iD i,sD "hear",g,Eg dq]\(.sc .aG, [W'])):
  (ik λρ=>(xm (aT 0) (lD (gm (au (aW ay aN) (af 3) λx=>oF (D.sc (V.int 2)))) (lD (λρ=>aX (λd=>(d,ρ)) (!D.sc (V.str (ae "hear")))) (lD (kr 3) (lD (y7 (abo GH C (ae "hear") (dF ay (dF ay (aT 0) λx=>oF (D.sc (V.str (ae "masters")))) (au (aW ay aN) (af 3) λx=>oF (D.sc (V.int 2)))) (fB (aT 3) λx=>oF []))) λρ=>aX (λa=>(a,ρ)) (![]))))) ρ).bind λa=>fL GN a.fst a.snd) [!.aB 4 [],k_ k,k_ st,j_ g,j_ (.nd (.aO ks) [.nd pk ee,a,b,c])]\(.nx [!.aB 4 [],k_ k,k_ st,j_ g,j_ W']):=by
 have hj:∀x,(ee.set i x)[i]?\x:=λx=>gK (cX.mp P2).1;have amg:=vp P2 pM;have aoX:∀v,bI (ee.set i (.hl v))=yv:=λv=>vp (hj _) rfl;have afr:bI uC=yv:=vp (hs▸hj M') UY;simp[amg,aoX,afr,y7,xm,h3,ht,hk,h1,P2,hs,ho,eh,en,abC,kX,mY,gG,cT,bD,xm,fB,lD,fL,af,ik,j3,aa,gg,cg,dF,jh,abo,kr,au,nT,oC,aT,VL.plain,bI,gm,eT,akS,akT,g9,aV,jF,kY,aZ]
theorem ayE(m:Nat)(w:cz)(h:Ww m w)(hz:-w.aq < 600)(h0:0 < m)(hm:m < 40)(k:Nat)(alR:Bool)(g:eN)(hk:w.way[k]?\g)(i:Nat)(s:MS)(hi:g.to=i)(hs:w.ms[i]?\s):
  aqn K C [wD C m w,iD k,tD alR]\(.sc .aG, [wD C m (cz.told w alR k g i m s)]):=by
 have Fw:g∈w.way:=jr hk;have av1:s∈w.ms:=jr hs;have mg:=h.way g Fw;have ws:=h.ms s av1;have apC:i < m:=by rw[<- h.n];exact(cX.mp hs).1
 have wh:=aya (nu:=i) ws mg b_;have mh:=ayc (nu:=i) ws mg b_ b_;have eh:=aDN (K:=K) (C:=C) m i s g (ws.wf.mono b_) (mg.mono b_).ok h0 b_;let k1 k2:=ayD hk;have k3:(w.way.map cx)[k]?\cx g:=by rw[bJ,hk];rfl
 have pg:=av0 mg.ok;have ayF:VL.bI (w.way.map cx)=oP:=an8 λg hg=>(h.way g hg).ok;have aDZ:k < -w.way:=(cX.mp hk).1
 let w1:cz:=if alR=oP then w else w.cut k
 have aD0:w1.ms=w.ms:=by show(if alR=oP then w else w.cut k).ms=_;split <;> rfl
 have ayG:w1.aq=w.aq:=by show(if alR=oP then w else w.cut k).aq=_;split <;> rfl
 have aD1:w1.rows=w.rows:=by show(if alR=oP then w else w.cut k).rows=_;split <;> rfl
 have ayH:(∀x∈w1.way,x∈w.way)/\-w1.way<=60:=by
  have hf:=h.G3;show(∀x∈(if alR=oP then w else w.cut k).way,x∈w.way)/\(if alR=oP then w else w.cut k).way.length<=60
  split
  .exact#[λ_ h=>h,hf]
  .exact#[λx hx=>aqH hx,by show(w.way.eraseIdx k).length<=60;rw[List.length_eraseIdx_of_lt aDZ];lia]
 have en:=apg (K:=K) (C:=C) m { w1 with ms:=w.ms.set i (ef m i s g).1 } i "hear" (cx g) (oF (ef m i s g).2) (ef m i s g).1 (by show(w.ms.set i _)[i]?=_;exact gK (cX.mp hs).1) wh.wf.rows (eK wh.wf.len b_) pg (λl hl=>by
  cases hl;exact#[λx hx=>((mh x hx).mono b_).ok,eK aDd a_]) #[λx hx=>((h.way x (ayH.1 x hx)).mono b_).ok,ayH.2] (by show -w1.aq<=900;rw[ayG];lia)
 have aD2:cz.apf { w1 with ms:=w.ms.set i (ef m i s g).1 } i "hear" (cx g) (oF (ef m i s g).2) (ef m i s g).1=cz.told w alR k g i m s:=by
  rw[cz.apf,cz.told,cz.note];show _= { w1 with ms:=w1.ms.set i _,aq:=_,way:=_ };rw[aD0]
 rw[aD2]at en;have aD3:VL.bI ((ef m i s g).2.map cx)=oP:=an8 λx hx=>(mh x hx).ok;have UZ:Eg (.nd .lst ((ef m i s g).2.map cx))=x8 (oF (ef m i s g).2):=by
  show(if _ then _ else _)=_;rw[zJ aD3];rfl
 have W1:wD C m { w1 with ms:=w.ms.set i (ef m i s g).1 }= .nd (.aO gD) [.nd pk (eg C m (w.ms.set i (ef m i s g).1)), .nd .lst (w1.way.map cx), .nd .lst (w.aq.map Uy),iD w.rows]:=by
  rw[wD];dsimp only;rw[ayG,aD1]
 rw[W1, <- UZ]at en;let i1 i2:=apD (C:=C) (m:=m) hs;have y6:=aDX g;rw[hi]at y6;have ho:A0 C "hear" (d5 C m i s)=oP:=aoB c_ _ _ _ _ _ _ _ _ _;have po:VL.plain (Eg (.nd .lst ((ef m i s g).2.map cx)))=oP:=by rw[UZ];exact arJ (b:=900) λl hl=>by cases hl;exact λx hx=>((mh x hx).mono b_).ok
 have call:=aDY (C:=C) (GH:=ape K C) (GN:=an6 K C) (ks:=gD) (k:=iD k) (st:=tD alR) pg y6 (λx=>aoV x _ _ _) i1 i2 (Al hs) (apE m w.ms i (ef m i s g).1) (wz m i s) (wz m i _) ho eh po en;have W0:wD C m w= .nd (.aO gD) [.nd pk (eg C m w.ms), .nd .lst (w.way.map cx), .nd .lst (w.aq.map Uy),iD w.rows]:=rfl;rw[aqn,avx];dsimp only;have e0:kW 4 [oP,yv,yv] [wD C m w,iD k,tD alR]= [!.aB 4 [],k_ (iD k),k_ (tD alR),oM,j_ (wD C m w)]:=by
  generalize wD C m w=WW;simp[kW,bW,bU,i0]
 refine Fm (ρ':= [!.aB 4 [],k_ (iD k),k_ (tD alR),j_ (cx g),j_ (wD C m (cz.told w alR k g i m s))]) (by
  rw[e0];refine aD (ρ':= [!.aB 4 [],k_ (iD k),k_ (tD alR),j_ (cx g),j_ (wD C m w)]) ?_ (aD (ρ':= [!.aB 4 [],k_ (iD k),k_ (tD alR),j_ (cx g),j_ (.nd (.aO gD) [.nd pk (eg C m w.ms), .nd .lst (w1.way.map cx), .nd .lst (w.aq.map Uy),iD w.rows])]) ?_ call)
  .rw[W0];generalize cx g=gd at *;generalize w.way.map cx=wy at *;simp[aop,k1,k3,pg,gV,bD,bq,af,aa,cg,dF,jh,nT,oC,aT,VL.plain,bI,aV,t9,uc,ud,ue,uf]
  .rw[W0];cases alR with
   |true=>
    show _\(Fl.nx [_,_,_,_,j_ (.nd (.aO gD) [_, .nd .lst (w.way.map cx),_,_])]);simp[i5,pO,pP,gx,bD,af,fW,hJ,fV,gv,mq,gC,aN,ay,aW,kJ,eM,au,aT,eT,akS,aV,oS]
   |false=>
    show _\(Fl.nx [_,_,_,_,j_ (.nd (.aO gD) [_, .nd .lst ((w.way.eraseIdx k).map cx),_,_])]);have c1:=asX (w.way.map cx) k;have c2:=arH (w.way.map cx) (k + 1);have ea:gx (.nd .lst ((w.way.map cx).take k)) (.nd .lst ((w.way.map cx).drop (k + 1)))\.nd .lst ((w.way.eraseIdx k).map cx):=by
     have e:(w.way.map cx).take k++(w.way.map cx).drop (k + 1)=(w.way.eraseIdx k).map cx:=by rw[<- aDP,cK,List.map_take,awU]
     have p:VL.bI ((w.way.eraseIdx k).map cx)=oP:=an8 λx hx=>(h.way x (aqH hx)).ok;have z:min k (-w.way) + (-w.way - (k + 1))<=aM:=eK (by have:=h.G3;lia:_<=900) a_;have p2:=p;rw[<- e]at p2;simp[gx,p,z,e]
    have s1:pO (.nd .lst (w.way.map cx)) oM (!(k:Int))\.nd .lst ((w.way.map cx).take k):=by
     simp[pO,oS,ayF,c1]
    have s2:pO (.nd .lst (w.way.map cx)) (!((k:Int) + 1)) oM\.nd .lst ((w.way.map cx).drop (k + 1)):=by
     have as6:cutD (w.way.map cx) (!((k:Int) + 1)) oM=(w.way.map cx).drop (k + 1):=c2;simp[pO,oS,ayF,as6]
    have aD4:gx (iD k) (D.sc (V.int 1))\D.sc (V.int ((k:Int) + 1)):=rfl;generalize cx g=gd at *;generalize (w.way.map cx).take k=aIj at *;generalize (w.way.map cx).drop (k + 1)=aIk at *;generalize (w.way.eraseIdx k).map cx=aa8 at *;generalize w.way.map cx=wy at *;simp[aop,as5,s1,s2,ea,aD4,abC,i5,pP,bD,af,hJ,fV,aa,gv,aN,aW,jh,eM,au,aT,eT,akS,akT,aV,aZ,i9]) ?_
 generalize wD C m (cz.told w alR k g i m s)=WW;simp[gP]
end
end K84
namespace WM
open PySem L2 VL
inductive Step(m:Nat):cz->cz->Prop
 |ef (w:cz) (alR:Bool) (k:Nat) (g:eN) (i:Nat) (s:MS):w.way[k]?=oF g->g.to=i->w.ms[i]?=oF s->Step m w (w.told alR k g i m s)
 |rise (w:cz) (i:Nat) (s:MS):w.ms[i]?=oF s->Step m w (w.note i "rise" (.sc .aG) (oF (w5 m i (rise m i s).te)) (rise m i s))
 |add (w:cz) (i:Nat) (s:MS) (r:D):w.ms[i]?=oF s->NM r->Step m w (w.note i "add" r (sG m i r s).2 (sG m i r s).1)
 |aqx (w:cz) (i:Nat) (s:MS):w.ms[i]?=oF s->Step m w (w.note i "fall" (.sc .aG) (oF []) (alM s))
 |send (w:cz) (i:Nat) (s:MS):w.ms[i]?=oF s->Step m w (w.note i "send" (.sc .aG) (oF (sends m i s)) s)
 |drop (w:cz) (way:List eN):(∀g∈way,g∈w.way)->way.length<=w.way.length->Step m w { w with way:=way }
 |rows (w:cz) (x:Int):Step m w { w with rows:=x }
inductive xk(m:Nat):cz->cz->Prop
 |refl (w:cz):xk m w w
 |cons {w w1 w2:cz}:Step m w w1->xk m w1 w2->xk m w w2
theorem xk.one(h:Step m w w'):xk m w w':= .cons h (.refl _)
theorem xk.trans(a:xk m w w1)(b:xk m w1 w2):xk m w w2:=by
 induction a with
 |refl=>lk
 |cons h _ ih=>exact .cons h (ih b)
theorem Step.ww(hm:m < 40)(st:Step m w w')(h:Ww m w):Ww m w':=by
 have N2:∀{i:Nat} {s:MS},w.ms[i]?\s->Wg m (-w.aq) s/\i < m:=λ{i s} hs=>#[h.ms s (jr hs),by rw[<- h.n];exact(cX.mp hs).1]
 cases st with
 |ef alR k g i s hk _ hs=>exact h.told hm hk hs
 |rise i s hs=>
  let ws hi:=N2 hs;exact h.note ((asZ ws b_ b_).mono (NI _)) rfl λl hl g hg=>by cases hl;exact avR b_ b_ g hg
 |add i s r hs hr=>
  let ws hi:=N2 hs;have wa:=as0 (nu:=i) ws hr;refine h.note wa hr.plain λl hl g hg=>?_;rw[sG]at hl wa
  split at hl
  .next c=>
   rw[zJ c]at wa;cases hl;exact avS wa b_ b_ g hg
  .lk
 |aqx i s hs=>
  let ws hi:=N2 hs;exact h.note ((ax9 ws).mono (NI _)) rfl λl hl g hg=>by cases hl;exact nomatch hg
 |send i s hs=>
  let ws hi:=N2 hs;exact h.note (ws.mono (NI _)) rfl λl hl g hg=>by cases hl;exact(avT ws b_ b_ g hg).mono (NI _)
 |drop way hd hl=>exact#[h.n,h.ms,λg hg=>h.way g (hd g hg),eK hl h.G3,h.st]
 |rows x=>exact#[h.n,h.ms,h.way,h.G3,h.st]
theorem an9(w:cz)(i:Nat)(gj:Str)(fm:D)(told:oT (oH eN))(s:MS):(w.note i gj fm told s).aq.length=-w.aq + 1:=by simp[cz.note]
end WM
namespace VL
theorem afZ(h:fa ρ\(yv,ρ1)):VL.andM fa fb ρ\(yv,ρ1):=by
 rw[VL.andM];rw[h];rfl
theorem Uw(h:fa ρ\(oP,ρ1))(h2:fb ρ1=r):VL.andM fa fb ρ=r:=by
 rw[VL.andM];rw[h];lk
theorem ayI(h:fa ρ\(oP,ρ1)):VL.orM fa fb ρ\(oP,ρ1):=by
 rw[VL.orM];rw[h];rfl
theorem av8(h:fa ρ\(yv,ρ1))(h2:fb ρ1=r):VL.orM fa fb ρ=r:=by
 rw[VL.orM];rw[h];lk
theorem as7{R:D->oH D->Prop}(h:Ev f (kW n bp ds) λfl=>match fl with | .rt d ρ'=>∃o,gP (ρ'.drop n)\o/\R d o | .nx ρ'=>∃o,gP (ρ'.drop n)\o/\R (.sc .aG) o | _=>False):∃d o,dG n bp f ds\(d,o)/\R d o:=by
 let fl e q:=h;rw[dG];rw[e];cases fl with
 |rt d ρ'=>let o h1 h2:=q;exact#[d,o,by show(gP (ρ'.drop n)).map _=_;rw[h1];rfl,h2]
 |nx ρ'=>let o h1 h2:=q;exact#[.sc .aG,o,by show(gP (ρ'.drop n)).map _=_;rw[h1];rfl,h2]
 |bk _=>exact q.elim
 |ct _=>exact q.elim
theorem Ev.Mh(h:fc ρ\(yv,ρ1))(hb:Ev b ρ1 Q):Ev (gv fc a b) ρ Q:=by
 let fl e q:=hb;refine#[fl, ?_,q];rw[gv];rw[h];lk
theorem apF(h:x\b):x.map (λb=>(b,ρ))\(b,ρ):=by rw[h];rfl
end VL
namespace WM
open PySem L2 VL
theorem arK:∀{S:oH (Int×Int)} {i z:Int},1<=z->z<=gi S i->∃p∈S,p.1=i/\p.2=gi S i
 | [],i,z,h1,h2=>by rw[gi]at h2;lia
 |q::S,i,z,h1,h2=>by
  rw[gi]at h2 |-;by_cases c:q.1=i
  .rw[zJ c];exact#[q, .head _,c,rfl]
  .rw[zK c]at h2 |-;let p hp e:=arK h1 h2;exact#[p, .tail _ hp,e]
theorem as8:∀(l:oH Int) (n:Int),n<=tF n l/\∀x∈l,x<=tF n l
 | [],n=>#[rB _,λ_ h=>nomatch h]
 |a::l,n=>by
  have ih:=as8 l (if a > n then a else n);have e:tF n (a::l)=tF (if a > n then a else n) l:=rfl;rw[e];have h1:n<=(if a > n then a else n):=by split <;> lia
  have h2:a<=(if a > n then a else n):=by split <;> lia
  refine#[arZ h1 ih.1,λx hx=> ?_];rcases bL.mp hx with rfl | hx
  .exact arZ h2 ih.1
  .exact ih.2 x hx
theorem arL:∀(l:oH Int) (n:Int),tF n l=n\/tF n l∈l
 | [],n=> .inl rfl
 |a::l,n=>by
  have e:tF n (a::l)=tF (if a > n then a else n) l:=rfl;rw[e];rcases arL l (if a > n then a else n) with h | h
  .rw[h];by_cases c:a > n
   .rw[zJ c];exact .inr (.head _)
   .rw[zK c];exact .inl rfl
  .exact .inr (.tail _ h)
def OF(m:Nat)(ms:oH MS)(t:Int)(n:Int):Prop:=∀s,ms[(t % m).toNat]?\s->t<=s.te/\(s.role="stands"->t < s.te)/\(s.role="leads"->t=s.te->n<=-s.L)
structure wG(s s':MS):Prop where
 te:s.te<=s'.te
 st:s'.role="stands"->s.te < s'.te\/(s.role="stands"/\s.te=s'.te)
 le:s'.role="leads"->s.te < s'.te\/(s.te=s'.te/\(s.role="stands"\/(s.role="leads"/\s.L.length<=s'.L.length)))
theorem wG.refl(s:MS):wG s s:=#[rB _,λh=> .inr #[h,rfl],λh=> .inr #[rfl, .inr #[h,bO _]]]
theorem OF.grow(h:OF m ms t n)(hs:ms[i]?\s)(g:wG s s'):OF m (ms.set i s') t n:=λx hx=>by
 by_cases c:i=(t % m).toNat
 .subst c;rw[gK (cX.mp hs).1]at hx;cases hx;let h1 h2 h3:=h s hs;have gt:=g.te;refine#[by lia,λq=> ?_,λq e=> ?_]
  .rcases g.st q with a | ⟨a,b⟩
   .lia
   .have:=h2 a;lia
  .rcases g.le q with a | ⟨a,b | ⟨b,d⟩⟩
   .lia
   .have:=h2 b;lia
   .have:=h3 b b_;lia
 .rw[gq c]at hx;exact h x hx
theorem OF.self{m:Nat}{ms:oH MS}{i:Nat}{s s':MS}(hs:ms[i]?\s)(hm:s'.te % m=i)(hr:s'.role="leads"):OF m (ms.set i s') s'.te (-s'.L):=λx hx=>by
 rw[hm,aqF,gK (cX.mp hs).1]at hx;cases hx;refine#[rB _,λq=> ?_,λ_ _=>rB _];rw[hr]at q;exact absurd q c_
theorem arM(m:Nat)(s:MS):(lead m s=s)\/((lead m s).role="leads"/\(lead m s).o=s.te/\(lead m s).si= []/\(lead m s).te=s.te/\(lead m s).vo=s.vo/\(lead m s).dn=s.dn):=by
 rw[lead]
 split
 .split
  .exact .inl rfl
  .exact .inr #[rfl,rfl,rfl,rfl,rfl,rfl]
 .exact .inl rfl
theorem arN(nu:Int)(m:Nat)(te:Int)(hm:0 < m):te < nP nu m te:=by
 rw[nP];have:=ar0 (nu - (te + 1)) (show(m:Int)≠0 by lia)
 lia
theorem av9(nu:Nat)(m:Nat)(te:Int)(hm:nu < m):nP nu m te % m=nu:=by
 rw[nP];rw[Int.add_emod,Int.emod_emod_of_dvd _ (Int.dvd_refl _), <- Int.add_emod,show te + 1 + ((nu:Int) - (te + 1))=nu by lia];exact Int.emod_eq_of_lt b_ b_
theorem aD5{s:MS}(h:s.role="stands")(vo:oH (Int×Int×oH D)):wG s (lead m { s with vo:=vo }):=by
 rcases arM m { s with vo:=vo } with e | ⟨e1,e2,e3,e4,e5,e6⟩
 .rw[e];exact#[rB _,λq=> .inr #[h,rfl],λq=> .inr #[rfl, .inl h]]
 .have e4:(lead m { s with vo:=vo }).te=s.te:=e4;exact#[by lia,λq=> .inr #[h,e4.symm],λq=> .inr #[e4.symm, .inl h]]
structure Jm(m b:Nat)(ms:List MS)(i:Nat)(s:MS):Prop where
 te:0<=s.te
 o:0<=s.o
 ot:s.o<=s.te
 own:s.role≠"hears"->s.te % m=i/\1<=s.te
 lo:s.role="leads"->s.o=s.te
 led:1<=s.o->OF m ms s.o s.L.length
 dn:0<=s.dn
 db:s.dn<=b
 vo:∀p∈s.vo,0<=p.2.1
 sk:∀p∈s.si,p.1≠i
 sz:s.role="leads"->∀p∈s.si,p.2<=s.L.length
def Jg(m:Nat)(ms:oH MS):eN->Prop
 |.so sn i _=>sn≠i
 |.oW sn i _ o _=>sn≠i/\0<=o
 |.keep sn i t R dn=>sn≠i/\1<=t/\t % m=sn/\OF m ms t (-R)
 |.kept sn i t z=>sn≠i/\1<=t/\t % m=i/\OF m ms t z
theorem Jm.grow(h:Jm m b ms j x)(hs:ms[i]?\s)(g:wG s s')(hb:b<=c):Jm m c (ms.set i s') j x:=#[h.te,h.o,h.ot,h.own,h.lo,λq=>(h.led q).grow hs g,h.dn,arZ h.db b_,h.vo,h.sk,h.sz]
theorem Jg.grow(h:Jg m ms x)(hs:ms[i]?\s)(g:wG s s'):Jg m (ms.set i s') x:=by
 cases x with
 |so=>lk
 |oW=>lk
 |keep=>exact#[h.1,h.2.1,h.2.2.1,h.2.2.2.grow hs g]
 |kept=>exact#[h.1,h.2.1,h.2.2.1,h.2.2.2.grow hs g]
theorem ayJ(h:Jm m b ms i s)(hs:ms[i]?\s):wG s (alM s)/\Jm m b (ms.set i (alM s)) i (alM s):=by
 have nh:∀{r:Str},r≠"hears"->(alM s).role≠r:=λ{r} q z=>q z.symm;have g:wG s (alM s):=#[rB _,λq=>absurd q (nh c_),λq=>absurd q (nh c_)]
 exact#[g,h.te,h.o,h.ot,λq=>absurd rfl q,λq=>absurd q (nh c_),λq=>(h.led q).grow hs g,rB _,by show(0:Int)<=b;lia,h.vo,h.sk,λq=>absurd q (nh c_)]
theorem ayK{m b:Nat}{ms:oH MS}{i:Nat}{s0 s:MS}(hs:ms[i]?\s0)(hr:s.role="stands")(g0:wG s0 s)(te:0<=s.te)(o:0<=s.o)(ot:s.o<=s.te)(own:s.te % m=i/\1<=s.te)(led:1<=s.o->OF m ms s.o (-s.L))(dn:0<=s.dn)(db:s.dn<=b)(vo:∀p∈s.vo,0<=p.2.1)(sk:∀p∈s.si,p.1≠i)(g:wG s0 (lead m s)):Jm m b (ms.set i (lead m s)) i (lead m s):=by
 have ne:("stands":Str)≠"leads":=c_
 rcases arM m s with e | ⟨e1,e2,e3,e4,e5,e6⟩
 .rw[e]at g |-;exact#[te,o,ot,λ_=>own,λq=>absurd (hr.symm.trans q) ne,λq=>(led q).grow hs g,dn,db,vo,sk,λq=>absurd (hr.symm.trans q) ne]
 .refine#[e4^^te,e2^^te,[e2,e4]^^rB _,λ_=>e4^^own,λ_=>by rw[e2,e4],λq=> ?_,e6^^dn,e6^^db,e5^^vo,by rw[e3];exact(λ_ h=>by lk),λ_=>by rw[e3];exact(λ_ h=>by lk)];rw[e2, <- e4];exact OF.self hs (e4^^own.1) e1
theorem ayL(h:Jm m b ms i s)(hs:ms[i]?\s)(hi:i < m):wG s (rise m i s)/\Jm m b (ms.set i (rise m i s)) i (rise m i s):=by
 have lt:=arN i m s.te b_;have ayM:=h.te;have et:(rise m i s).te=nP i m s.te:=by
  rw[rise];rcases arM m { s with te:=nP i m s.te,role:="stands",vo:= [((i:Int),s.o,s.L)] } with e | ⟨_,_,_,e,_⟩
  .rw[e]
  .lk
 have g1:wG s { s with te:=nP i m s.te,role:="stands",vo:= [((i:Int),s.o,s.L)] }:=#[aBt lt,λ_=> .inl lt,λ_=> .inl lt]
 have g:wG s (rise m i s):=#[et^^aBt lt,λ_=> .inl (et^^lt),λ_=> .inl (et^^lt)]
 refine#[g,ayK hs rfl g1 (by show 0<=nP i m s.te;lia) h.o (by show s.o<=nP i m s.te;have:=h.ot;lia) #[av9 i m s.te hi,by show 1<=nP i m s.te;lia] h.led h.dn h.db (λp hp=> ?_) h.sk g];have hp:p∈ [((i:Int),s.o,s.L)]:=hp;rw[ly.mp hp];exact h.o
theorem ayN(nu:Int)(m:Nat)(s:MS)(hz:∀p∈s.si,p.2<=-s.L):s.dn<=(count m nu s).dn/\((count m nu s).dn=s.dn\/(count m nu s).dn<=-s.L):=by
 show s.dn<=tF s.dn ((j0 nu m s.si (-s.L)).filter (most m (j0 nu m s.si (-s.L))))/\(tF s.dn ((j0 nu m s.si (-s.L)).filter (most m (j0 nu m s.si (-s.L))))=s.dn\/tF s.dn ((j0 nu m s.si (-s.L)).filter (most m (j0 nu m s.si (-s.L))))<=-s.L);refine#[(as8 _ _).1, ?_];rcases arL ((j0 nu m s.si (-s.L)).filter (most m (j0 nu m s.si (-s.L)))) s.dn with e | e
 .exact .inl e
 .right;have hx:=(Cc.mp e).1;generalize tF s.dn ((j0 nu m s.si (-s.L)).filter (most m (j0 nu m s.si (-s.L))))=x at *;rw[j0]at hx;rcases lZ.mp hx with hx | hx
  .let i _ rfl:=gY.mp hx;by_cases c:1<=gi s.si i
   .let p hp _ e:=arK (rB 1) c;rw[<- e];exact hz p hp
   .lia
  .have:=ly.mp hx;lia
theorem ayO{m b:Nat}{ms:oH MS}{i:Nat}{s0 s:MS}(hs:ms[i]?\s0)(hr:s.role="leads")(g:wG s0 (count m i s))(te:0<=s.te)(own:s.te % m=i/\1<=s.te)(lo:s.o=s.te)(dn:0<=s.dn)(db:s.dn<=b)(lb:-s.L<=b)(vo:∀p∈s.vo,0<=p.2.1)(sk:∀p∈s.si,p.1≠i)(sz:∀p∈s.si,p.2<=-s.L):Jm m b (ms.set i (count m i s)) i (count m i s):=by
 let d1 d2:=ayN i m s sz;refine#[te,by show 0<=s.o;lia,by show s.o<=s.te;lia,λ_=>own,λ_=>lo,λq=> ?_,by lia, ?_,vo,sk,λ_=>sz]
 .have e:=OF.self (m:=m) (s':=count m i s) hs own.1 hr;show OF m (ms.set i (count m i s)) s.o (-s.L);rw[lo];lk
 .rcases d2 with d2 | d2 <;> lia
theorem ayP{m b:Nat}{ms:oH MS}{i:Nat}{s:MS}(r:D)(h:Jm m b ms i s)(hs:ms[i]?\s)(lb:-s.L<=b):wG s (sG m i r s).1/\Jm m (b + 1) (ms.set i (sG m i r s).1) i (sG m i r s).1:=by
 rw[sG];by_cases c:s.role="leads"
 .rw[zJ c];have g:wG s (count m i { s with L:=s.L++ [r] }):=#[rB _,λq=>by
   have q:s.role="stands":=q;exact .inr #[q,rfl],λq=> .inr #[rfl, .inr #[c,by show -s.L<=-(s.L++ [r]);simp]]]
  refine#[g,ayO hs c g h.te (h.own (by rw[c];decide +kernel)) (h.lo c) h.dn (arZ h.db b_) (by show(s.L++ [r]).length<=b + 1;simp;lia) h.vo h.sk λp hp=> ?_];have:=h.sz c p hp;show p.2<=(-(s.L++ [r]):Int);rw[eO]
  lia
 .rw[zK c];exact#[.refl s,h.grow hs (.refl s) (NI _)]
theorem as9:¬ (ae "hears"=ae "leads"):=c_
theorem ata(h:Jm m b ms i s)(hs:ms[i]?\s):wG s s/\Jm m b (ms.set i s) i s/\∀x∈([]:oH eN),Jg m (ms.set i s) x:=#[.refl s,h.grow hs (.refl s) (bO _),λ_ h=>by lk]
theorem ayQ{s s':MS}(hr:s'.role="hears")(ht:s.te<=s'.te):wG s s':=#[ht,λq=>absurd (hr.symm.trans q) c_,λq=>absurd (hr.symm.trans q) c_]
theorem ayR{ms:oH MS}{s:MS}{g:eN}(h:Jm m b ms i s)(hs:ms[i]?\s)(hg:Jg m ms g)(y6:g.to=i)(lb:-s.L<=b)(gl:g.ok b):wG s (ef m i s g).1/\Jm m b (ms.set i (ef m i s g).1) i (ef m i s g).1/\∀x∈(ef m i s g).2,Jg m (ms.set i (ef m i s g).1) x:=by
 have ayM:=h.te;have aIl:=h.ot;cases g with
 |so sn to t=>
  have y6:to=i:=y6;subst y6;unfold ef;dsimp only;by_cases c:t<=s.te
  .rw[zJ c];exact ata h hs
  .rw[zK c];have g:wG s { s with te:=t,role:="hears" }:=ayQ rfl (by show s.te<=t;lia);refine#[g,#[by show 0<=t;lia,h.o,by show s.o<=t;lia,λq=>absurd rfl q,λq=>absurd q as9,λq=>(h.led q).grow hs g,h.dn,h.db,h.vo,h.sk,λq=>absurd q as9],λx hx=> ?_];rw[ly.mp hx];exact#[λz=>hg z.symm,h.o]
 |oW sn to t o R=>
  have y6:to=i:=y6;subst y6;unfold ef;dsimp only;by_cases c:s.role="stands"/\t=s.te
  .rw[zJ c];have g:=aD5 (m:=m) c.1 (nS s.vo sn (o,R));refine#[g,ayK hs c.1 #[rB _,λ_=> .inr #[c.1,rfl],λ_=> .inr #[rfl, .inl c.1]] h.te h.o h.ot (h.own (by rw[c.1];decide +kernel)) h.led h.dn h.db (λp hp=> ?_) h.sk g,λx hx=>by lk];rcases aoo s.vo sn (o,R) p hp with q | q
   .exact h.vo p q
   .rw[q];exact hg.2
  .rw[zK c];exact ata h hs
 |keep sn to t R dn=>
  have y6:to=i:=y6;subst y6;let g1 g2 g3 g4:=hg;rw[ef];dsimp only;by_cases c:t < s.te
  .rw[zJ c];exact ata h hs
  .rw[zK c];have key:∀(L':oH D) (o' Eb:Int),L'.length<=b->0<=o'->o'<=t->OF m ms t (-L')->(1<=o'->OF m ms o' (-L'))->0<=Eb->Eb<=b->wG s { s with te:=t,role:="hears",L:=L',o:=o',dn:=Eb }/\Jm m b (ms.set i { s with te:=t,role:="hears",L:=L',o:=o',dn:=Eb }) i { s with te:=t,role:="hears",L:=L',o:=o',dn:=Eb }/\∀x∈ [eN.kept (i:Int) sn t (-L')],Jg m (ms.set i { s with te:=t,role:="hears",L:=L',o:=o',dn:=Eb }) x:=λL' o' Eb k1 k2 k3 k4 k5 k6 k7=>by
    have g:wG s { s with te:=t,role:="hears",L:=L',o:=o',dn:=Eb }:=ayQ rfl (by show s.te<=t;lia);refine#[g,#[by show 0<=t;lia,k2,k3,λq=>absurd rfl q,λq=>absurd q as9,λq=>(k5 q).grow hs g,k6,k7,h.vo,h.sk,λq=>absurd q as9],λx hx=> ?_];rw[ly.mp hx];exact#[λz=>g1 z.symm,g2,g3,k4.grow hs g]
   have d0:=h.dn;have d1:=h.db;rw[kept];by_cases q:s.o < t\/(-s.L:Int) < -R
   .rw[zJ q];have gl:-R<=b:=gl.2;exact key R t _ gl b_ (rB _) g4 (λ_=>g4) (by dsimp only;split <;> split <;> lia) (by dsimp only;split <;> split <;> lia)
   .rw[zK q];have e:s.o=t:=b_
    exact key s.L s.o _ lb h.o b_ (by rw[<- e];exact h.led b_) h.led (by dsimp only;split <;> split <;> lia) (by dsimp only;split <;> split <;> lia)
 |kept sn to t z=>
  have y6:to=i:=y6;subst y6;let g1 g2 g3 g4:=hg;unfold ef;dsimp only;by_cases c:s.role="leads"/\t=s.te
  .rw[zJ c];have g:wG s (count m i { s with si:=nS s.si sn (if gi s.si sn > z then gi s.si sn else z) }):=#[rB _,λq=>by
    have q:s.role="stands":=q;exact .inr #[q,rfl],λ_=> .inr #[rfl, .inr #[c.1,bO _]]]
   have ss:=h.sz c.1;have gz:gi s.si sn<=-s.L:=by
    by_cases q:1<=gi s.si sn
    .let p hp _ e:=arK (rB 1) q;rw[<- e];exact ss p hp
    .lia
   have zl:z<=-s.L:=(g4 s ([g3,aqF]^^hs)).2.2 c.1 c.2;refine#[g,ayO hs c.1 g h.te (h.own (by rw[c.1];decide +kernel)) (h.lo c.1) h.dn h.db lb h.vo (λp hp=> ?_) (λp hp=> ?_),λx hx=>by lk]
   .rcases aoo _ _ _ p hp with q | q
    .exact h.sk p q
    .rw[q];lk
   .rcases aoo _ _ _ p hp with q | q
    .exact ss p q
    .rw[q];show(if gi s.si sn > z then gi s.si sn else z)<=(-s.L:Int)
     split <;> lia
  .rw[zK c];exact ata h hs
structure Jw(m:Nat)(w:cz):Prop where
 ms:∀i s,w.ms[i]?=oF s->Jm m w.aq.length w.ms i s
 way:∀g∈w.way,Jg m w.ms g
theorem Jw.note(h:Jw m w)(hs:w.ms[i]?\s)(g:wG s s')(j:Jm m (-w.aq + 1) (w.ms.set i s') i s')(ht:∀l,told\l->∀x∈l,Jg m (w.ms.set i s') x):Jw m (w.note i gj fm told s'):=by
 have hl:(w.note i gj fm told s').aq.length=-w.aq + 1:=by simp[cz.note]
 refine#[λk x hx=> ?_,λx hx=> ?_]
 .rw[hl];have hx:(w.ms.set i s')[k]?\x:=hx;by_cases c:i=k
  .subst c;rw[gK (cX.mp hs).1]at hx;cases hx;lk
  .rw[gq c]at hx;exact(h.ms k x hx).grow hs g (NI _)
 .show Jg m (w.ms.set i s') x;cases told with
  |none=>exact(h.way x hx).grow hs g
  |some l=>
   rcases lZ.mp (as1 hx) with h1 | h1
   .exact(h.way x h1).grow hs g
   .exact ht l rfl x h1
theorem Jm.mono(h:Jm m b ms i s)(hb:b<=c):Jm m c ms i s:=#[h.te,h.o,h.ot,h.own,h.lo,h.led,h.dn,arZ h.db b_,h.vo,h.sk,h.sz]
theorem awa(h:i∈nz nu m):nu≠(i:Int):=λz=>by
 have:=(Cc.mp h).2;simp at this;exact this z.symm
theorem ayS{m:Nat}{ms:oH MS}{i:Nat}{s s':MS}(hs:ms[i]?\s)(hr:s'.role="leads")(own:s'.te % m=i/\1<=s'.te):∀x∈keeps m i s',Jg m (ms.set i s') x:=λx hx=>by
 let k hk rfl:=gY.mp hx;exact#[awa hk,own.2,own.1,OF.self hs own.1 hr]
theorem aD6:∀x∈w5 m i t,Jg m ms x:=λx hx=>by
 let k hk rfl:=gY.mp hx;exact awa hk
theorem ayT(h:Jm m b ms i s)(hr:s.role="leads"):s.te % m=i/\1<=s.te:=h.own (by rw[hr];decide +kernel)
theorem Step.jw{m:Nat}{w w':cz}(st:Step m w w')(h:Ww m w)(j:Jw m w):Jw m w':=by
 have N2:∀{i:Nat} {s:MS},w.ms[i]?\s->-s.L<=-w.aq/\i < m:=λ{i s} hs=>#[(h.ms s (jr hs)).wf.len,by rw[<- h.n];exact(cX.mp hs).1]
 cases st with
 |ef alR k g i s hk y6 hs=>
  have hg:=jr hk;let a1 a2 a3:=ayR (j.ms i s hs) hs (j.way g hg) y6 (N2 hs).1 (h.way g hg).ok;rw[cz.told];cases alR with
  |true=>exact Jw.note j hs a1 (a2.mono (NI _)) λl hl x hx=>by cases hl;exact a3 x hx
  |false=>
   have jc:Jw m (w.cut k):=#[j.ms,λx hx=>j.way x (aqH hx)]
   exact Jw.note jc hs a1 (a2.mono (NI _)) λl hl x hx=>by cases hl;exact a3 x hx
 |rise i s hs=>
  let a1 a2:=ayL (j.ms i s hs) hs (N2 hs).2;exact j.note hs a1 (a2.mono (NI _)) λl hl x hx=>by cases hl;exact aD6 x hx
 |add i s r hs hr=>
  let a1 a2:=ayP r (j.ms i s hs) hs (N2 hs).1;refine j.note hs a1 a2 λl hl x hx=>?_;rw[sG]at hl a1 a2 |-;by_cases c:s.role="leads"
  .rw[zJ c]at hl a2 |-;cases hl;have ow:=ayT (j.ms i s hs) c;exact ayS (s':=count m i { s with L:=s.L++ [r] }) hs c ow x hx
  .rw[zK c]at hl;lk
 |aqx i s hs=>
  let a1 a2:=ayJ (j.ms i s hs) hs;exact j.note hs a1 (a2.mono (NI _)) λl hl x hx=>by cases hl;lk
 |send i s hs=>
  refine j.note hs (.refl s) ((j.ms i s hs).grow hs (.refl s) (NI _)) λl hl x hx=>?_;cases hl;rw[sends]at hx;by_cases c:s.role="leads"
  .rw[zJ c]at hx;exact ayS hs c (ayT (j.ms i s hs) c) x hx
  .rw[zK c]at hx;lk
 |drop way hd hl=>exact#[j.ms,λx hx=>j.way x (hd x hx)]
 |rows x=>exact#[j.ms,j.way]
theorem aD7(m:Nat):Jw m #[ug m s0, [], [],0]:=by
 refine#[λi s hs=> ?_,λ_ h=>by lk];have e:s=s0:=aBA (jr hs);subst e;have nl:s0.role≠"leads":=c_
 exact#[rB _,rB _,rB _,λq=>absurd rfl q,λq=>absurd q nl,λq=>absurd q a_,rB _,rB _,(λ_ h=>by lk),(λ_ h=>by lk),λq=>absurd q nl]
def rG(o1:Int)(n1:Nat)(o:Int)(n:Nat):Prop:=o1 < o\/(o1=o/\n1<=n)
theorem rG.refl(o:Int)(n:Nat):rG o n o n:= .inr #[rfl,bO _]
theorem rG.trans(h:rG a x b y)(k:rG b y c z):rG a x c z:=by rw[rG]at *;lia
structure Gh where
 E:Int->Prop
 I:Int->List D
 G:Int->List D
structure Gh.le(g g':Gh):Prop where
 e:∀t,g.E t->g'.E t
 i:∀t,g.E t->g'.I t=g.I t
 g:∀t,g.E t->g.G t <+:g'.G t
theorem Gh.le.An(g:Gh):g.le g:=#[λ_ h=>h,λ_ _=>rfl,λ_ _=>ar1 _]
def Lg(g:Gh)(o:Int)(L:oH D):Prop:=(o=0/\L= [])\/(1<=o/\g.E o/\g.I o <+:L/\L <+:g.G o)
theorem Lg.le(l:Lg g o L)(h:g.le g'):Lg g' o L:=by
 rcases l with l | ⟨a,b,c,d⟩
 .exact .inl l
 .exact .inr #[a,h.e _ b,h.i _ b^^c,d.trans (h.g _ b)]
def aoq(st:oH aoc)(i:Nat)(t o:Int)(R:oH D):Prop:=∃e∈st,e.i=i/\∃l,e.told\l/\∃to,eN.oW i to t o R∈l
structure Vt(m:Nat)(w:cz)(g:Gh)(j:Nat)(t o:Int)(R:List D):Prop where
 hj:j < m
 lg:Lg g o R
 ho:o < t
 now:∀s,w.ms[j]?=oF s->t<=s.te/\(s.o < t->rG s.o s.L.length o R.length)
 old:∀e∈w.aq,e.i=j->e.st.o < t->rG e.st.o e.st.L.length o R.length
structure Km(m:Nat)(w:cz)(g:Gh)(i:Nat)(s:MS):Prop where
 lg:Lg g s.o s.L
 vo:s.role≠"hears"->∀p∈s.vo,∃j:Nat,p.1=j/\Vt m w g j s.te p.2.1 p.2.2/\(j=i\/aoq w.aq j s.te p.2.1 p.2.2)
 ld:s.role="leads"->m < 2 * s.vo.length/\g.E s.te/\g.G s.te=s.L
def Kg(m:Nat)(w:cz)(g:Gh):eN->Prop
 |.so sn _ t=>t % m=sn
 |.oW sn _ t o R=>∃j:Nat,sn=j/\aoq w.aq j t o R
 |.keep _ _ t R _=>Lg g t R
 |.kept ..=>True
structure El(m:Nat)(w:cz)(g:Gh)(t:Int):Prop where
 t1:1<=t
 led:OF m w.ms t 0
 q:∃Q:List (Int×Int×List D),(Q.map (·.1)).Nodup/\m < 2 * Q.length/\(∀p∈Q,∃j:Nat,p.1=j/\Vt m w g j t p.2.1 p.2.2)/\∃b∈Q,g.I t=b.2.2/\∀p∈Q,rG p.2.1 p.2.2.length b.2.1 b.2.2.length
structure Kw(m:Nat)(w:cz)(g:Gh):Prop where
 ms:∀i s,w.ms[i]?=oF s->Km m w g i s
 way:∀x∈w.way,Kg m w g x
 st:∀e∈w.aq,e.i < m/\Lg g e.st.o e.st.L/\∀s,w.ms[e.i]?=oF s->e.st.te<=s.te/\rG e.st.o e.st.L.length s.o s.L.length
 vt:∀i t o R,aoq w.aq i t o R->Vt m w g i t o R
 el:∀t,g.E t->El m w g t
structure Move(s s':MS):Prop where
 te:s.te<=s'.te
 lg:(s'.o=s.o/\s'.L=s.L)\/(s'.o=s'.te/\rG s.o s.L.length s'.o s'.L.length)
theorem Move.rk(h:Move s s'):rG s.o (-s.L) s'.o (-s'.L):=by
 rcases h.lg with⟨a,b⟩ | ⟨_,b⟩
 .rw[a,b];exact .refl _ _
 .lk
section
variable {m:Nat}{w:cz}{g g':Gh}{i:Nat}{s s':MS}{gj:Str}{fm:D}{told:oT (oH eN)}
theorem apG:(w.note i gj fm told s').ms=w.ms.set i s':=rfl
theorem aph:(w.note i gj fm told s').aq=w.aq++ [#[i,gj,fm,told,s']]:=rfl
theorem aoq.note(h:aoq w.aq j t o R):aoq (w.note i gj fm told s').aq j t o R:=by
 let e he r:=h;exact#[e,qR _ he,r]
theorem Vt.note(h:Vt m w g j t o R)(hs:w.ms[i]?\s)(mv:Move s s')(le:g.le g'):Vt m (w.note i gj fm told s') g' j t o R:=by
 have key:j=i->t<=s'.te/\(s'.o < t->rG s'.o (-s'.L) o (-R)):=λe=>by
  subst e;let a b:=h.now s hs;have:=mv.te;refine#[by lia,λq=> ?_];rcases mv.lg with⟨x,y⟩ | ⟨x,y⟩
  .rw[x,y];exact b b_
  .lia
 refine#[h.hj,h.lg.le le,h.ho,λx hx=> ?_,λe he ej q=> ?_]
 .rw[apG]at hx;by_cases c:i=j
  .subst c;rw[gK (cX.mp hs).1]at hx;cases hx;exact key rfl
  .rw[gq c]at hx;exact h.now x hx
 .rw[aph]at he;rcases lZ.mp he with he | he
  .exact h.old e he ej q
  .rw[ly.mp he]at ej q |-;exact(key ej.symm).2 q
theorem Km.note(h:Km m w g j x)(hs:w.ms[i]?\s)(mv:Move s s')(le:g.le g')(un:x.role="leads"->g'.G x.te=g.G x.te):Km m (w.note i gj fm told s') g' j x:=
 #[h.lg.le le,λq p hp=>by
  let k a b c:=h.vo q p hp;exact#[k,a,b.note hs mv le,c.imp id aoq.note],λq=>#[(h.ld q).1,le.e _ (h.ld q).2.1,(un q).trans (h.ld q).2.2]]
theorem Kw.note(h:Kw m w g)(hs:w.ms[i]?\s)(hi:i < m)(mv:Move s s')(gr:wG s s')(le:g.le g')(un:∀t:Int,t % m≠i->g'.G t=g.G t)(own:∀(j:Nat) (x:MS),w.ms[j]?\x->x.role="leads"->x.te % m=j)
  (hm:Km m (w.note i gj fm told s') g' i s') (ht:∀l,told\l->∀x∈l,Kg m (w.note i gj fm told s') g' x)
  (hv:∀l,told\l->∀to t o R,eN.oW i to t o R∈l->Vt m (w.note i gj fm told s') g' i t o R)
  (he:∀t,g'.E t->g.E t\/El m (w.note i gj fm told s') g' t):Kw m (w.note i gj fm told s') g':=by
 refine#[λj x hx=> ?_,λx hx=> ?_,λe hE=> ?_,λj t o R hV=> ?_,λt atb=> ?_]
 .rw[apG]at hx;by_cases c:i=j
  .subst c;rw[gK (cX.mp hs).1]at hx;cases hx;lk
  .rw[gq c]at hx;refine(h.ms j x hx).note hs mv le λq=>un _ ?_;rw[own j x hx q]
   lia
 .have old:∀y,Kg m w g y->Kg m (w.note i gj fm told s') g' y:=λy hy=>by
   cases y with
   |so=>lk
   |oW=>let j a b:=hy;exact#[j,a,b.note]
   |keep=>exact Lg.le hy le
   |kept=>trivial
  unfold cz.note at hx;cases told with
  |none=>exact old x (h.way x hx)
  |some l=>
   have hx:x∈yy (w.way++l):=hx;rcases lZ.mp (as1 hx) with hx | hx
   .exact old x (h.way x hx)
   .exact ht l rfl x hx
 .have now:∀e∈w.aq,∀x,(w.note i gj fm told s').ms[e.i]?\x->e.st.te<=x.te/\rG e.st.o (-e.st.L) x.o (-x.L):=λe hE x hx=>by
   obtain⟨_,_,c⟩:=h.st e hE;rw[apG]at hx;by_cases q:i=e.i
   .rw[<- q,gK (cX.mp hs).1]at hx;cases hx;let a b:=c s (by rw[<- q];lk);exact#[arZ a mv.te,b.trans mv.rk]
   .rw[gq q]at hx;exact c x hx
  rw[aph]at hE;rcases lZ.mp hE with hE | hE
  .exact#[(h.st e hE).1,(h.st e hE).2.1.le le,now e hE]
  .rw[ly.mp hE];refine#[hi,hm.lg,λx hx=> ?_];have hx:(w.ms.set i s')[i]?\x:=hx;rw[gK (cX.mp hs).1]at hx;cases hx;exact#[rB _, .refl _ _]
 .let e hE ej l hl to Fw:=hV;rw[aph]at hE;rcases lZ.mp hE with hE | hE
  .exact(h.vt j t o R #[e,hE,ej,l,hl,to,Fw]).note hs mv le
  .rw[ly.mp hE]at ej hl;have ej:i=j:=ej;subst ej;exact hv l hl to t o R Fw
 .rcases he t atb with q | q
  .let a b Q c1 c2 c3 bb c4 c5 c6:=h.el t q;exact#[a,b.grow hs gr,Q,c1,c2,λp hp=>by
    let j x y:=c3 p hp;exact#[j,x,y.note hs mv le],bb,c4,le.i _ q^^c5,c6]
  .lk
theorem Kw.less(h:Kw m w g)(way:oH eN)(hw:∀x∈way,x∈w.way)(r:Int):Kw m { w with way:=way,rows:=r } g:=
 #[λi s hs=>#[(h.ms i s hs).lg,λq p hp=>by
  let j a b c:=(h.ms i s hs).vo q p hp;exact#[j,a,#[b.hj,b.lg,b.ho,b.now,b.old],c],(h.ms i s hs).ld],λx hx=>by
   have:=h.way x (hw x hx);cases x with
   |so=>lk
   |oW=>lk
   |keep=>lk
   |kept=>trivial,h.st,λi t o R hV=>#[(h.vt i t o R hV).hj,(h.vt i t o R hV).lg,(h.vt i t o R hV).ho,(h.vt i t o R hV).now,(h.vt i t o R hV).old],λt ht=>by
   let a b Q c1 c2 c3 bb c4 c5 c6:=h.el t ht;exact#[a,b,Q,c1,c2,λp hp=>by
    let j x y:=c3 p hp;exact#[j,x,#[y.hj,y.lg,y.ho,y.now,y.old]],bb,c4,c5,c6]]
end
theorem ayU:∀(r:oH (Int×Int×oH D)) (v:Int×oH D),rG v.1 (-v.2) (oe v r).1 (oe v r).2.length/\∀p∈r,rG p.2.1 (-p.2.2) (oe v r).1 (oe v r).2.length
 | [],v=>#[.refl _ _,(λ_ h=>by lk)]
 |q::r,v=>by
  let a b:=ayU r (abz v q.2);have e:oe v (q::r)=oe (abz v q.2) r:=rfl;have p1:rG v.1 (-v.2) (abz v q.2).1 (abz v q.2).2.length/\rG q.2.1 (-q.2.2) (abz v q.2).1 (abz v q.2).2.length:=by
   rw[abz];by_cases c:alI q.2.1 (-q.2.2) v.1 (-v.2)=oP
   .rw[zJ c];refine#[?_, .refl _ _];rw[alI]at c;rw[rG]
    split at c
    .have:=of_decide_eq_true c;lia
    .have:=of_decide_eq_true c;lia
   .rw[zK c];refine#[.refl _ _, ?_];rw[alI]at c;rw[rG]
    split at c
    .have:¬ ((-v.2:Int) < -q.2.2):=λz=>c (decide_eq_true z)
     lia
    .have:¬ (v.1 < q.2.1):=λz=>c (decide_eq_true z)
     lia
  rw[e];refine#[p1.1.trans a,λp hp=> ?_];rcases bL.mp hp with rfl | hp
  .exact p1.2.trans a
  .exact b p hp
theorem awb(m:Nat)(s:MS):lead m s=s\/∃v r,s.vo=v::r/\m < 2 * -s.vo/\lead m s= { s with L:=(oe v.2 r).2,o:=s.te,role:="leads",si:= [] }:=by
 rw[lead];by_cases c:(m:Int) < 2 * (-s.vo:Nat)
 .rw[zJ c]
  split
  .exact .inl rfl
  .next v r e=>exact .inr #[v,r,e,by lia,rfl]
 .rw[zK c];exact .inl rfl
section
variable {m:Nat}{w:cz}{g g':Gh}{i:Nat}{s s' s1:MS}{gj:Str}{fm:D}{told:oT (oH eN)}
theorem Kw.lead(h:Kw m w g)(hs:w.ms[i]?\s)(hi:i < m)(own:∀(j:Nat) (x:MS),w.ms[j]?\x->x.role="leads"->x.te % m=j)
  (e1:s1.role="stands") (e2:s1.o=s.o) (e3:s1.L=s.L) (awc:s1.te % m=i) (aoI:1<=s1.te) (te:s.te<=s1.te) (lt:s.o < s1.te) (gr:wG s (lead m s1)) (ne:¬ g.E s1.te) (nd:(s1.vo.map (·.1)).Nodup)
  (atc:∀p∈s1.vo,∃j:Nat,p.1=j/\Vt m (w.note i gj fm told (WM.lead m s1)) g j s1.te p.2.1 p.2.2/\(j=i\/aoq (w.note i gj fm told (WM.lead m s1)).aq j s1.te p.2.1 p.2.2))
  (ht:∀l,told\l->∀x∈l,∃to,x= .so i to s1.te):∃g',g.le g'/\Kw m (w.note i gj fm told (WM.lead m s1)) g':=by
 have atb:∀(w':cz) (g':Gh) l,told\l->∀x∈l,Kg m w' g' x:=λw' g' l hl x hx=>by
  let to rfl:=ht l hl x hx;lk
 have iV:∀l,told\l->∀to t o R,eN.oW i to t o R∈l->False:=λl hl to t o R hx=>by
  let ayV e:=ht l hl _ hx;lk
 rcases awb m s1 with e | ⟨v,r,ev,mj,e⟩
 .rw[e]at gr atc |-;exact#[g, .An g,h.note hs hi #[te, .inl #[e2,e3]] gr (.An g) (λ_ _=>rfl) own #[by rw[e2,e3];exact(h.ms i s hs).lg,λ_=>atc,λq=>absurd (e1.symm.trans q) c_] (atb _ _) (λl hl to t o R hx=>(iV l hl to t o R hx).elim) (λt ht=> .inl ht)]
 .rw[e]at gr atc |-;have le:g.le #[λt=>g.E t\/t=s1.te,λt=>if t=s1.te then(oe v.2 r).2 else g.I t,λt=>if t=s1.te then(oe v.2 r).2 else g.G t]:=by
   have q:∀t,g.E t->¬ t=s1.te:=λt ht z=>ne (z▸ht);exact#[λt ht=> .inl ht,λt ht=>zK (q t ht),λt ht=>by show _ <+:(if t=s1.te then _ else _);rw[zK (q t ht)];exact ar1 _]
  have hI:(#[λt=>g.E t\/t=s1.te,λt=>if t=s1.te then(oe v.2 r).2 else g.I t,λt=>if t=s1.te then(oe v.2 r).2 else g.G t]:Gh).I s1.te=(oe v.2 r).2:=zJ rfl;have hG:(#[λt=>g.E t\/t=s1.te,λt=>if t=s1.te then(oe v.2 r).2 else g.I t,λt=>if t=s1.te then(oe v.2 r).2 else g.G t]:Gh).G s1.te=(oe v.2 r).2:=zJ rfl;have hE:(#[λt=>g.E t\/t=s1.te,λt=>if t=s1.te then(oe v.2 r).2 else g.I t,λt=>if t=s1.te then(oe v.2 r).2 else g.G t]:Gh).E s1.te:= .inr rfl;have aD8:∀t,(#[λt=>g.E t\/t=s1.te,λt=>if t=s1.te then(oe v.2 r).2 else g.I t,λt=>if t=s1.te then(oe v.2 r).2 else g.G t]:Gh).E t->g.E t\/t=s1.te:=λt ht=>ht;have un:∀t:Int,t % m≠i->(#[λt=>g.E t\/t=s1.te,λt=>if t=s1.te then(oe v.2 r).2 else g.I t,λt=>if t=s1.te then(oe v.2 r).2 else g.G t]:Gh).G t=g.G t:=λt ht=>zK λ(z:t=s1.te)=>ht (z^^awc);generalize (#[λt=>g.E t\/t=s1.te,λt=>if t=s1.te then(oe v.2 r).2 else g.I t,λt=>if t=s1.te then(oe v.2 r).2 else g.G t]:Gh)=g' at *;have mv:Move s { s1 with L:=(oe v.2 r).2,o:=s1.te,role:="leads",si:= [] }:=#[te, .inr #[rfl, .inl lt]]
  have aD9:∀{w':cz} {j:Nat} {t o:Int} {R:oH D},Vt m w' g j t o R->Vt m w' g' j t o R:=λq=>#[q.hj,q.lg.le le,q.ho,q.now,q.old]
  have ayW:∀p∈s1.vo,∃j:Nat,p.1=j/\Vt m (w.note i gj fm told { s1 with L:=(oe v.2 r).2,o:=s1.te,role:="leads",si:= [] }) g' j s1.te p.2.1 p.2.2/\(j=i\/aoq (w.note i gj fm told { s1 with L:=(oe v.2 r).2,o:=s1.te,role:="leads",si:= [] }).aq j s1.te p.2.1 p.2.2):=λp hp=>by
   let j a b c:=atc p hp;exact#[j,a,aD9 b,c]
  refine#[g',le,h.note hs hi mv gr le un own #[.inr #[aoI,hE,by show g'.I s1.te <+:_;rw[hI];exact ar1 _,by show _ <+:g'.G s1.te;rw[hG];exact ar1 _],λ_=>ayW,λ_=>#[mj,hE,hG]] (atb _ _) (λl hl to t o R hx=>(iV l hl to t o R hx).elim) λt aEa=> ?_];rcases aD8 t aEa with q | rfl
  .exact .inl q
  .refine .inr #[aoI, ?_,s1.vo,nd,mj,λp hp=>by let j a b _:=ayW p hp;exact#[j,a,b], ?_]
   .intro x hx;have hx:(w.ms.set i _)[(s1.te % m).toNat]?\x:=hx;rw[awc,aqF,gK (cX.mp hs).1]at hx;cases hx;exact#[rB _,λq=>absurd q (by show ¬ (("leads":Str)="stands");decide +kernel),λ_ _=>b_]
   .let b1 b2:=ayU r v.2;have all:∀p∈s1.vo,rG p.2.1 (-p.2.2) (oe v.2 r).1 (oe v.2 r).2.length:=λp hp=>by
     rw[ev]at hp;rcases bL.mp hp with rfl | hp
     .lk
     .exact b2 p hp
    rcases avQ r v.2 with q | ⟨p,hp,q⟩
    .exact#[v,ev^^xb ..,by rw[hI,q],by rw[q]at all;lk]
    .exact#[p,ev^^nQ _ hp,by rw[hI,q],by rw[q]at all;lk]
end
section
variable {m b:Nat}{w:cz}{g g':Gh}{i:Nat}{s s' s1:MS}
theorem Kw.gO(h:Kw m w g)(hs:w.ms[i]?\s)(hi:i < m)(own:∀(j:Nat) (x:MS),w.ms[j]?\x->x.role="leads"->x.te % m=j)(e1:s'.te=s.te)(e2:s'.o=s.o)(e3:s'.L=s.L)(e4:s'.role=s.role)(e5:s'.vo=s.vo)
  (ht:∀l,told\l->∀x∈l,Kg m (w.note i gj fm told s') g x/\x.word≠"voice"):Kw m (w.note i gj fm told s') g:=by
 have mv:Move s s':=#[by lia, .inl #[e2,e3]]
 have gr:wG s s':=#[by lia,λq=> .inr #[by rw[<- e4];lk,by lia],λq=> .inr #[by lia, .inr #[by rw[<- e4];lk,e3^^bO _]]]
 have k:Km m (w.note i gj fm told s') g i s:=(h.ms i s hs).note hs mv (.An g) λ_=>rfl;refine h.note hs hi mv gr (.An g) (λ_ _=>rfl) own #[[e2,e3]^^k.lg,λq=> ?_,λq=> ?_] (λl hl x hx=>(ht l hl x hx).1) (λl hl to t o R hx=>absurd rfl (ht l hl _ hx).2) λt ht=> .inl ht
 .rw[e5,e1];exact k.vo (by rw[<- e4];lk)
 .rw[e5,e1,e3];exact k.ld (by rw[<- e4];lk)
theorem Move.lead(e2:s1.o=s.o)(e3:s1.L=s.L)(te:s.te<=s1.te)(lt:s.o < s1.te):Move s (WM.lead m s1):=by
 rcases awb m s1 with e | ⟨v,r,ev,mj,e⟩
 .rw[e];exact#[te, .inl #[e2,e3]]
 .rw[e];exact#[te, .inr #[rfl, .inl lt]]
theorem OF.here(h:OF m ms t n)(hs:ms[i]?\s)(e:t % m=i):t<=s.te/\(s.role="stands"->t < s.te):=by
 have:=h s ([e,aqF]^^hs);exact#[this.1,this.2.1]
theorem ayX(j:Jm m b ms i s)(hs:ms[i]?\s)(hr:s.role="stands"):s.o < s.te:=by
 let o1 o2:=j.own (by rw[hr];decide +kernel);have ot:=j.ot;by_cases c:s.o=s.te
 .have:=(j.led b_).here hs (c^^o1);have:=this.2 hr
  lia
 .lia
theorem Kw.ef(h:Kw m w g)(hs:w.ms[i]?\s)(hi:i < m)(own:∀(j:Nat) (x:MS),w.ms[j]?\x->x.role="leads"->x.te % m=j)(jm:Jm m b w.ms i s)(wg:Wg m b s)(x:eN)(gr:wG s (WM.ef m i s x).1)(kx:Kg m w g x):
  ∃g',g.le g'/\Kw m (w.note i "hear" (cx x) (oF (WM.ef m i s x).2) (WM.ef m i s x).1) g':=by
 have oM:∀{w':cz} l,oF ([]:oH eN)\l->∀x∈l,Kg m w' g x/\x.word≠"voice":=λl hl x hx=>by cases hl;lk
 cases x with
 |so sn to t=>
  unfold WM.ef at gr |-;dsimp only at gr |-;by_cases c:t<=s.te
  .rw[zJ c]at gr |-;exact#[g, .An g,h.gO hs hi own rfl rfl rfl rfl rfl oM]
  .rw[zK c]at gr |-;have mv:Move s { s with te:=t,role:="hears" }:=#[by show s.te<=t;lia, .inl #[rfl,rfl]]
   have ot:=jm.ot;have hr:∀{P:Prop},(("hears":Str)≠"hears")->P:=λq=>absurd rfl q;refine#[g, .An g,h.note hs hi mv gr (.An g) (λ_ _=>rfl) own #[(h.ms i s hs).lg,λq=>hr q,λq=>absurd q (by show ¬ (("hears":Str)="leads");decide +kernel)] (λl hl x hx=> ?_) (λl hl ayV t' o' R' hx=> ?_) λt ht=> .inl ht]
   .cases hl;rw[ly.mp hx];exact#[i,rfl,_,kg _ (ly.mpr rfl),rfl,_,rfl,sn,ly.mpr rfl]
   .cases hl;cases ly.mp hx;refine#[hi,(h.ms i s hs).lg,by lia,λx hx=> ?_,λe he ej q=> ?_]
    .rw[apG,gK (cX.mp hs).1]at hx;cases hx;exact#[rB _,λ_=> .refl _ _]
    .rw[aph]at he;rcases lZ.mp he with he | he
     .exact((h.st e he).2.2 s (ej^^hs)).2
     .rw[ly.mp he];exact .refl _ _
 |oW sn to t o R=>
  unfold WM.ef at gr |-;dsimp only at gr |-;by_cases c:s.role="stands"/\t=s.te
  .rw[zJ c]at gr |-;let hr rfl:=c;let o1 o2:=jm.own (by rw[hr];decide +kernel);have lt:=ayX jm hs hr;have mv:Move s (WM.lead m { s with vo:=nS s.vo sn (o,R) }):=Move.lead (s1:= { s with vo:=nS s.vo sn (o,R) }) rfl rfl (rB _) lt;refine h.lead hs hi own hr rfl rfl o1 o2 (rB _) lt gr (λq=> ?_) (asY _ _ _ wg.wf.vn) (λp hp=> ?_) (λl hl x hx=>by cases hl;lk)
   .have:=((h.el _ q).led.here hs o1).2 hr;exact Int.lt_irrefl _ this
   .rcases aoo _ _ _ _ hp with q | rfl
    .let j a b c:=(h.ms i s hs).vo (by rw[hr];decide +kernel) p q;exact#[j,a,b.note hs mv (.An g),c.imp id aoq.note]
    .let j rfl hv:=kx;exact#[j,rfl,(h.vt j _ o R hv).note hs mv (.An g), .inr hv.note]
  .rw[zK c]at gr |-;exact#[g, .An g,h.gO hs hi own rfl rfl rfl rfl rfl oM]
 |keep sn to t R dn=>
  rw[WM.ef]at gr |-;dsimp only at gr |-;by_cases c:t < s.te
  .rw[zJ c]at gr |-;exact#[g, .An g,h.gO hs hi own rfl rfl rfl rfl rfl oM]
  .rw[zK c]at gr |-;have ot:=jm.ot;have kx:Lg g t R:=kx;have ek:(kept s t R).te=t/\(kept s t R).role="hears"/\(((kept s t R).o=s.o/\(kept s t R).L=s.L)\/((kept s t R).o=t/\(kept s t R).L=R/\rG s.o (-s.L) t (-R))):=by
    rw[kept]
    split
    .next q=>exact#[rfl,rfl, .inr #[rfl,rfl,by rw[rG];lia]]
    .exact#[rfl,rfl, .inl #[rfl,rfl]]
   generalize kept s t R=q at *;let e1 e2 e3:=ek;refine#[g, .An g,h.note hs hi #[by show s.te<=q.te;lia, ?_] gr (.An g) (λ_ _=>rfl) own #[?_,λz=>absurd e2 z,λz=>absurd (e2.symm.trans z) c_] (λl hl x hx=> ?_) (λl hl ayV t' o' R' hx=> ?_) λt ht=> .inl ht]
   .rcases e3 with e3 | ⟨a,b,c⟩
    .exact .inl e3
    .exact .inr #[by show q.o=q.te;lia,by show rG _ _ q.o (-q.L);rw[a,b];lk]
   .show Lg g q.o q.L;rcases e3 with⟨a,b⟩ | ⟨a,b,c⟩
    .rw[a,b];exact(h.ms i s hs).lg
    .rw[a,b];lk
   .cases hl;rw[ly.mp hx];trivial
   .cases hl;cases ly.mp hx
 |kept sn to t z=>
  unfold WM.ef at gr |-;dsimp only at gr |-;by_cases c:s.role="leads"/\t=s.te
  .rw[zJ c]at gr |-;exact#[g, .An g,h.gO hs hi own rfl rfl rfl rfl rfl oM]
  .rw[zK c]at gr |-;exact#[g, .An g,h.gO hs hi own rfl rfl rfl rfl rfl oM]
theorem arO{s:MS}(hx:x∈keeps m i s):∃to,x= .keep i to s.te s.L s.dn:=by
 rw[keeps]at hx;let k _ rfl:=gY.mp hx;exact#[k,rfl]
theorem Step.kw(st:Step m w w')(h:Ww m w)(j:Jw m w)(k:Kw m w g):∃g',g.le g'/\Kw m w' g':=by
 have own:∀(q:Nat) (x:MS),w.ms[q]?\x->x.role="leads"->x.te % m=q:=λq x hx hl=>((j.ms q x hx).own (by rw[hl];decide +kernel)).1;have N2:∀{i:Nat} {s:MS},w.ms[i]?\s->Wg m (-w.aq) s/\i < m:=λ{i s} hs=>#[h.ms s (jr hs),by rw[<- h.n];exact(cX.mp hs).1]
 cases st with
 |ef alR q x i s hk y6 hs=>
  have hg:=jr hk;let ws hi:=N2 hs;have a1:=(ayR (j.ms i s hs) hs (j.way x hg) y6 ws.wf.len (h.way x hg).ok).1;rw[cz.told];cases alR with
  |true=>exact k.ef hs hi own (j.ms i s hs) ws x a1 (k.way x hg)
  |false=>
   have kc:Kw m (w.cut q) g:=k.less _ (λx hx=>aqH hx) _;exact kc.ef hs hi own (j.ms i s hs) ws x a1 (by
    have:=k.way x hg;cases x with
    |so=>lk
    |oW=>lk
    |keep=>lk
    |kept=>trivial)
 |rise i s hs=>
  let ws hi:=N2 hs;have jm:=j.ms i s hs;have a1:=(ayL jm hs hi).1;have lt:=arN i m s.te b_;have ayM:=jm.te;have ot:=jm.ot;have et:(WM.rise m i s).te=nP i m s.te:=by
   rw[WM.rise];rcases arM m { s with te:=nP i m s.te,role:="stands",vo:= [((i:Int),s.o,s.L)] } with e | ⟨_,_,_,e,_⟩
   .rw[e]
   .lk
  have mv:Move s (WM.rise m i s):=Move.lead (s1:= { s with te:=nP i m s.te,role:="stands",vo:= [((i:Int),s.o,s.L)] }) rfl rfl (by show s.te<=nP i m s.te;lia) (by show s.o < nP i m s.te;lia);refine k.lead (s1:= { s with te:=nP i m s.te,role:="stands",vo:= [((i:Int),s.o,s.L)] }) hs hi own rfl rfl rfl (av9 i m s.te hi) (by show 1<=nP i m s.te;lia) (by show s.te<=nP i m s.te;lia) (by show s.o < nP i m s.te;lia) a1 (λq=> ?_) e_ (λp hp=> ?_) (λl hl x hx=> ?_)
  .have:=((k.el _ q).led.here hs (av9 i m s.te hi)).1;have:nP i m s.te<=s.te:=this
   lia
  .have hp:p∈ [((i:Int),s.o,s.L)]:=hp;rw[ly.mp hp];refine#[i,rfl,#[hi,(k.ms i s hs).lg,by show s.o < nP i m s.te;lia,λx hx=> ?_,λe he ej q=> ?_], .inl rfl]
   .rw[apG,gK (cX.mp hs).1]at hx;cases hx;refine#[by show nP i m s.te<=(WM.rise m i s).te;lia,λ(q:(WM.rise m i s).o < nP i m s.te)=> ?_];rcases mv.lg with⟨a,b⟩ | ⟨a,b⟩
    .show rG (WM.rise m i s).o (WM.rise m i s).L.length s.o (-s.L);rw[a,b];exact .refl _ _
    .lia
   .rw[aph]at he;rcases lZ.mp he with he | he
    .exact((k.st e he).2.2 s (ej^^hs)).2
    .rw[ly.mp he]at q |-;have q:(WM.rise m i s).o < nP i m s.te:=q;show rG (WM.rise m i s).o (WM.rise m i s).L.length s.o (-s.L);rcases mv.lg with⟨a,b⟩ | ⟨a,b⟩
     .rw[a,b];exact .refl _ _
     .lia
  .cases hl;rw[w5]at hx;let q _ rfl:=gY.mp hx;exact#[q,by rw[et]]
 |add i s r hs hr=>
  let ws hi:=N2 hs;have a1:=(ayP r (j.ms i s hs) hs ws.wf.len).1;rw[sG]at a1 |-;by_cases c:s.role="leads"
  .rw[zJ c]at a1 |-;let d1 d2 d3:=(k.ms i s hs).ld c;have lo:=(j.ms i s hs).lo c;have aoI:=((j.ms i s hs).own (by rw[c];decide +kernel)).2;have o1:=own i s hs c;have le:g.le #[g.E,g.I,λt=>if t=s.te then s.L++ [r] else g.G t]:=#[λ_ h=>h,λ_ _=>rfl,λt _=>by
    show g.G t <+:(if t=s.te then _ else _)
    split
    .next e=>rw[e,d3];exact aBB _ _
    .exact ar1 _]
   have mv:Move s (count m i { s with L:=s.L++ [r] }):=#[rB _, .inr #[lo, .inr #[rfl,by show -s.L<=-(s.L++ [r]);simp]]]
   have hG:(#[g.E,g.I,λt=>if t=s.te then s.L++ [r] else g.G t]:Gh).G s.te=s.L++ [r]:=zJ rfl;have un:∀t:Int,t % m≠i->(#[g.E,g.I,λt=>if t=s.te then s.L++ [r] else g.G t]:Gh).G t=g.G t:=λt ht=>zK λ(z:t=s.te)=>ht (z^^o1);have hE:∀t,(#[g.E,g.I,λt=>if t=s.te then s.L++ [r] else g.G t]:Gh).E t->g.E t:=λt h=>h;generalize (#[g.E,g.I,λt=>if t=s.te then s.L++ [r] else g.G t]:Gh)=g' at *;have lg:Lg g' s.te (s.L++ [r]):=by
    rcases(k.ms i s hs).lg with⟨q,_⟩ | ⟨_,x1,x2,_⟩
    .lia
    .rw[lo]at x1 x2;exact .inr #[aoI,le.e _ x1,le.i _ x1^^x2.trans (aBB _ _),hG^^ar1 _]
   refine#[g',le,k.note hs hi mv a1 le un own #[by show Lg g' s.o (s.L++ [r]);rw[lo];lk,λq p hp=> ?_,λ_=>#[d1,le.e _ d2,hG]] (λl hl x hx=> ?_) (λl hl to t o R hx=> ?_) λt ht=> .inl (hE t ht)]
   .let j' a b c:=(k.ms i s hs).vo (by rw[c];decide +kernel) p hp;exact#[j',a,b.note hs mv le,c.imp id aoq.note]
   .cases hl;let to rfl:=arO hx;lk
   .cases hl;let to e:=arO hx;lk
  .rw[zK c]at a1 |-;exact#[g, .An g,k.gO hs hi own rfl rfl rfl rfl rfl λl hl=>by lk]
 |aqx i s hs=>
  let ws hi:=N2 hs;exact#[g, .An g,k.note hs hi #[rB _, .inl #[rfl,rfl]] (ayJ (j.ms i s hs) hs).1 (.An g) (λ_ _=>rfl) own #[(k.ms i s hs).lg,λq=>absurd rfl q,λq=>absurd q (by show ¬ (("hears":Str)="leads");decide +kernel)] (λl hl x hx=>by cases hl;lk) (λl hl to t o R hx=>by cases hl;lk) λt ht=> .inl ht]
 |send i s hs=>
  let ws hi:=N2 hs;refine#[g, .An g,k.gO hs hi own rfl rfl rfl rfl rfl λl hl x hx=> ?_];cases hl;rw[sends]at hx;by_cases c:s.role="leads"
  .rw[zJ c]at hx;let to rfl:=arO hx;refine#[?_,by show ¬ (("keep":Str)="voice");decide +kernel];show Lg g s.te s.L;rw[<- (j.ms i s hs).lo c];exact(k.ms i s hs).lg
  .rw[zK c]at hx;lk
 |drop way hd hl=>exact#[g, .An g,k.less way hd _]
 |rows x=>exact#[g, .An g,k.less _ (λ_ h=>h) x]
end
theorem ayY:∀(m:Nat) (l:oH Nat),l.Nodup->(∀x∈l,x < m)->-l<=m
 |0,l,_,h=>by
  cases l with
  |nil=>exact bO _
  |cons a l=>have:=h a (xb ..);lia
 |m + 1,l,nd,h=>by
  have ih:=ayY m (l.erase m) (nd.erase m) λx hx=>by
   have:=(List.Nodup.mem_erase_iff nd).mp hx;have:=h x this.2
   lia
  by_cases c:m∈l
  .rw[aHr c]at ih;lia
  .rw[List.erase_of_not_mem c]at ih;lia
theorem aBl{A B:oH Nat}(ha:A.Nodup)(hb:B.Nodup)(la:m < 2 * -A)(lb:m < 2 * -B)(ra:∀a∈A,a < m)(rb:∀b∈B,b < m):∃x,x∈A/\x∈B:=by
 refine Classical.byContradiction λq=> ?_;have nd:(A++B).Nodup:=NZ.mpr #[ha,hb,λa h1 b h2 e=>q #[a,h1,e▸h2]];have:=ayY m (A++B) nd λx hx=>by
  rcases lZ.mp hx with hx | hx
  .exact ra x hx
  .exact rb x hx
 rw[eO]at this
 lia
theorem ayZ{α:Type}:∀(Q:oH (Int×α)),(Q.map (·.1)).Nodup->(∀p∈Q,0<=p.1)->(Q.map λp=>p.1.toNat).Nodup
 | [],_,_=>atw
 |p::Q,nd,h=>by
  rw[cP,jP]at nd |-;refine#[λhm=>nd.1 ?_,ayZ Q nd.2 λx hx=>h x (nQ _ hx)];let x hx e:=gY.mp hm;have a:=h p (xb ..);have b:=h x (nQ _ hx);exact gY.mpr #[x,hx,by lia]
def aoY(st:oH aoc)(j:Nat)(T z:Int):Prop:=∃e∈st,e.i=j/\e.st.o=T/\z<=-e.st.L
def Dn(m:Nat)(st:oH aoc)(T z:Int):Prop:=∃Q:oH Nat,Q.Nodup/\m < 2 * -Q/\∀j∈Q,j < m/\aoY st j T z
theorem aoY.more(h:aoY st j T z):aoY (st++st') j T z:=by
 let e he r:=h;exact#[e,qR _ he,r]
theorem Dn.more(h:Dn m st T z):Dn m (st++st') T z:=by
 let Q a b c:=h;exact#[Q,a,b,λj hj=>#[(c j hj).1,(c j hj).2.more]]
theorem Lg.pre(h:Lg g o L)(ho:1<=o):g.E o/\g.I o <+:L/\L <+:g.G o:=by
 rcases h with⟨a,_⟩ | ⟨_,b⟩
 .lia
 .lk
theorem aEb{α:Type}{L G:oH α}(h:L <+:G){n:Nat}(hn:n<=-L):G.take n=L.take n:=by
 let r rfl:=h;rw[aBC hn]
theorem atu{m:Nat}{w:cz}{g:Gh}(h:Kw m w g){T z:Int}(hT:1<=T)(hd:Dn m w.aq T z):∀(n:Nat) (t:Int),t<=n->g.E t->T < t->z<=-(g.G T)/\(g.G T).take z.toNat <+:g.I t:=by
 intro n
 induction n with
 |zero=>intro t h1 h2 h3;lia
 |succ n ih=>
  intro t h1 h2 h3;obtain⟨_,_,Q,q1,q2,q3,b,q4,q5,q6⟩:=h.el t h2;let A a1 a2 a3:=hd;have kn:=ayZ Q q1 λp hp=>by let j e _:=q3 p hp;lia
  let j j1 j2:=aBl a1 kn a2 (nI^^q2) (λj hj=>(a3 j hj).1) λx hx=>by
   let p hp rfl:=gY.mp hx;let k e v:=q3 p hp;rw[e];exact v.hj
  let p hp ep:=gY.mp j2;let k ek v:=q3 p hp;obtain⟨_,e,he,ei,eo,ez⟩:=a3 j j1;have hk:k=j:=by rw[<- ep,ek];rfl
  subst hk;have r1:=v.old e he ei b_;have r2:=r1.trans (q6 p hp);have lb:Lg g b.2.1 b.2.2:=by obtain⟨_,_,v⟩:=q3 b q4;exact v.lg
  have bt:b.2.1 < t:=by obtain⟨_,_,v⟩:=q3 b q4;exact v.ho
  obtain⟨_,_,gT⟩:=(h.st e he).2.1.pre b_;rw[eo]at gT r2;have hz:z<=-(g.G T):=by have:=gT.length_le;lia
  refine#[hz, ?_];rw[q5];rcases r2 with r | ⟨r,rl⟩
  .let l1 l2 _:=lb.pre b_;exact(ih b.2.1 b_ l1 r).2.trans l2
  .obtain⟨_,_,l3⟩:=lb.pre b_;rw[<- r]at l3;rw[aEb l3 b_];exact awV _ _
theorem ay0{m:Nat}{w:cz}{g:Gh}(h:Kw m w g){T z t:Int}(hT:1<=T)(hd:Dn m w.aq T z)(hE:g.E t)(lt:T < t):z<=-(g.I t):=by
 let a b:=atu h hT hd t.toNat t b_ hE lt;have:=b.length_le;rw[Ce]at this
 lia
def Wr(m:Nat)(st:oH aoc)(t dn:Int):Prop:=dn<=0\/∃T z,Dn m st T z/\dn<=z/\1<=T/\T<=t
theorem Wr.more(h:Wr m st t dn):Wr m (st++st') t dn:=by
 rcases h with h | ⟨T,z,a,b⟩
 .exact .inl h
 .exact .inr #[T,z,a.more,b]
theorem Wr.le(h:Wr m st t dn)(h1:t<=t')(h2:Eb<=dn):Wr m st t' Eb:=by
 rcases h with h | ⟨T,z,a,b,c,d⟩
 .exact .inl b_
 .exact .inr #[T,z,a,by lia,c,by lia]
structure aqy(m:Nat)(st:List aoc)(s:MS):Prop where
 wr:Wr m st s.o s.dn
 dl:s.dn<=s.L.length
 si:s.role="leads"->∀p∈s.si,∃j:Nat,p.1=j/\j < m/\aoY st j s.te p.2
def aor(m:Nat)(st:oH aoc):eN->Prop
 |.keep _ _ t _ dn=>Wr m st t dn
 |.kept sn _ t z=>∃j:Nat,sn=j/\j < m/\aoY st j t z
 |_=>True
structure Kz(m:Nat)(w:cz):Prop where
 ms:∀(i:Nat) s,w.ms[i]?=oF s->aqy m w.aq s
 way:∀x∈w.way,aor m w.aq x
theorem aqy.more(h:aqy m st s):aqy m (st++st') s:=#[h.wr.more,h.dl,λq p hp=>by
 let j a b c:=h.si q p hp;exact#[j,a,b,c.more]]
theorem aor.more(h:aor m st x):aor m (st++st') x:=by
 cases x with
 |so=>trivial
 |oW=>trivial
 |keep=>exact Wr.more h
 |kept=>let j a b c:=h;exact#[j,a,b,c.more]
section
variable {m b:Nat}{w:cz}{g g':Gh}{i:Nat}{s s' s1:MS}{gj:Str}{fm:D}{told:oT (oH eN)}
theorem Kz.note(h:Kz m w)(hs:w.ms[i]?\s)(hk:aqy m (w.note i gj fm told s').aq s')(ht:∀l,told\l->∀x∈l,aor m (w.note i gj fm told s').aq x):Kz m (w.note i gj fm told s'):=by
 refine#[λj x hx=> ?_,λx hx=> ?_]
 .rw[apG]at hx;by_cases c:i=j
  .subst c;rw[gK (cX.mp hs).1]at hx;cases hx;lk
  .rw[gq c]at hx;rw[aph];exact(h.ms j x hx).more
 .have old:∀y,aor m w.aq y->aor m (w.note i gj fm told s').aq y:=λy hy=>aph^^aor.more hy
  unfold cz.note at hx;cases told with
  |none=>exact old x (h.way x hx)
  |some l=>
   have hx:x∈yy (w.way++l):=hx;rcases lZ.mp (as1 hx) with hx | hx
   .exact old x (h.way x hx)
   .exact ht l rfl x hx
theorem Kz.lead(h:Kz m w)(hs:w.ms[i]?\s)(e2:s1.o=s.o)(e3:s1.L=s.L)(e4:s1.dn=s.dn)(e1:s1.role="stands")(lt:s.o < s1.te)(k':Kw m (w.note i gj fm told (WM.lead m s1)) g')(ht:∀l,told\l->∀x∈l,∃to,x= .so i to s1.te):Kz m (w.note i gj fm told (WM.lead m s1)):=by
 have k1:=h.ms i s hs;have aEc:(w.note i gj fm told (WM.lead m s1)).ms[i]?\WM.lead m s1:=by
  rw[apG];exact gK (cX.mp hs).1
 refine h.note hs ?_ λl hl x hx=>by let to rfl:=ht l hl x hx;trivial
 have km:=k'.ms i _ aEc;rcases awb m s1 with e | ⟨v,r,ev,mj,e⟩
 .rw[e];refine#[[e2,e4]^^k1.wr.more,[e3,e4]^^k1.dl,λq=>absurd (e1.symm.trans q) c_]
 .have er:(WM.lead m s1).role="leads":=by rw[e]
  have eo:(WM.lead m s1).o=s1.te:=by rw[e]
  have et:(WM.lead m s1).te=s1.te:=by rw[e]
  have ed:(WM.lead m s1).dn=s.dn:=e^^e4
  have es:(WM.lead m s1).si= []:=by rw[e]
  have wr:=k1.wr.more (st':= [#[i,gj,fm,told,WM.lead m s1]]);have hE:=(km.ld er).2.1;have lg:=km.lg;rw[aph];refine#[[eo,ed]^^wr.le b_ (rB _), ?_,λ_ p hp=>by rw[es]at hp;lk];rw[ed];rcases wr with z | ⟨T,z,a1,a2,a3,a4⟩
  .lia
  .rw[et]at hE;rw[eo]at lg;have:=ay0 k' a3 a1 hE b_;have:=(lg.pre (k'.el _ hE).t1).2.1.length_le
   lia
theorem ay1(st:oH aoc)(hs:s.role="leads")(lo:s.o=s.te)(hi:i < m)(aoI:1<=s.te)(aIm:0<=s.dn)(wr:Wr m st s.o s.dn)(dl:s.dn<=-s.L)(sz:∀p∈s.si,p.2<=-s.L)(si:∀p∈s.si,∃j:Nat,p.1=j/\j < m/\aoY st j s.te p.2)(me:aoY st i s.te (-s.L)):aqy m st (count m i s):=by
 have ay2:(count m i s).dn<=-s.L:=by
  rcases(ayN i m s sz).2 with e | e
  .rw[e];lk
  .lk
 refine#[?_,ay2,λ_=>si];show Wr m st s.o (tF s.dn ((j0 i m s.si (-s.L)).filter (most m (j0 i m s.si (-s.L)))));rcases arL ((j0 i m s.si (-s.L)).filter (most m (j0 i m s.si (-s.L)))) s.dn with e | e
 .rw[e];lk
 .obtain⟨_,hm⟩:=Cc.mp e;have hx:tF s.dn ((j0 i m s.si (-s.L)).filter (most m (j0 i m s.si (-s.L))))<=-s.L:=ay2;generalize tF s.dn ((j0 i m s.si (-s.L)).filter (most m (j0 i m s.si (-s.L))))=x at *;by_cases c:x<=0
  .exact .inl c
  .refine .inr #[s.te,x,#[((nz i m).filter λk:Nat=>decide (x<=gi s.si k))++ [i], ?_, ?_,λj hj=> ?_],rB _,aoI,by lia]
   .refine NZ.mpr #[(awW.filter _).filter _,by simp,λa ha b hb z=> ?_];have ha:=(Cc.mp ha).1;have:=awa ha;rw[ly.mp hb]at z
    lia
   .rw[most,j0]at hm;have hm:=of_decide_eq_true hm;rw[List.filter_append,eO,List.filter_map,nI]at hm;rw[eO,pw];have:-([(-s.L:Int)].filter λy=>decide (x<=y))<=1:=eK (VT _ _) e_;have e:-((nz i m).filter ((λy=>decide (x<=y)) ∘ λk:Nat=>gi s.si k))=-((nz i m).filter λk:Nat=>decide (x<=gi s.si k)):=rfl
    lia
   .rcases lZ.mp hj with hj | hj
    .let h1 h2:=Cc.mp hj;have h2:=of_decide_eq_true h2;let p hp e1 e2:=arK (z:=x) b_ h2;let q e3 h3 e4 e5 e6 e7 e8:=si p hp;have:q=j:=b_
     subst this;exact#[h3,e4,e5,e6,e7,by lia]
    .rw[ly.mp hj];let e4 e5 e6 e7 e8:=me;exact#[hi,e4,e5,e6,e7,by lia]
theorem Kz.gO(h:Kz m w)(hs:w.ms[i]?\s)(e1:s'.te=s.te)(e2:s'.o=s.o)(e3:s'.L=s.L)(e4:s'.role=s.role\/s'.role≠"leads")(e5:s'.si=s.si)(e6:s'.dn=s.dn)(ht:∀l,told\l->∀x∈l,aor m (w.note i gj fm told s').aq x):Kz m (w.note i gj fm told s'):=by
 have k:=(h.ms i s hs).more (st':= [#[i,gj,fm,told,s']]);refine h.note hs #[[e2,e6]^^k.wr,[e3,e6]^^k.dl,λq=> ?_] ht;rw[e5,e1];rcases e4 with e4 | e4
 .exact k.si (by rw[<- e4];lk)
 .exact absurd q e4
theorem Kz.ef(h:Kz m w)(k:Kw m w g)(hs:w.ms[i]?\s)(hi:i < m)(jm:Jm m b w.ms i s)(x:eN)(kx:Kg m w g x)(zx:aor m w.aq x)(jx:Jg m w.ms x)(y6:x.to=i)(k':Kw m (w.note i "hear" (cx x) (oF (WM.ef m i s x).2) (WM.ef m i s x).1) g'):
  Kz m (w.note i "hear" (cx x) (oF (WM.ef m i s x).2) (WM.ef m i s x).1):=by
 have oM:∀{st:oH aoc} l,oF ([]:oH eN)\l->∀x∈l,aor m st x:=λl hl x hx=>by cases hl;lk
 have k1:=h.ms i s hs;cases x with
 |so sn to t=>
  unfold WM.ef;dsimp only;by_cases c:t<=s.te
  .rw[zJ c];exact h.gO hs rfl rfl rfl (.inl rfl) rfl rfl oM
  .rw[zK c];refine h.note hs #[k1.wr.more,k1.dl,λq=>absurd q (by show ¬ (("hears":Str)="leads");decide +kernel)] λl hl x hx=> ?_;cases hl;rw[ly.mp hx];trivial
 |oW sn to t o R=>
  unfold WM.ef at k' |-;dsimp only at k' |-;by_cases c:s.role="stands"/\t=s.te
  .rw[zJ c]at k' |-;exact h.lead hs rfl rfl rfl c.1 (ayX jm hs c.1) k' λl hl x hx=>by cases hl;lk
  .rw[zK c];exact h.gO hs rfl rfl rfl (.inl rfl) rfl rfl oM
 |keep sn to t R dn=>
  rw[WM.ef];dsimp only;by_cases c:t < s.te
  .rw[zJ c];exact h.gO hs rfl rfl rfl (.inl rfl) rfl rfl oM
  .rw[zK c];have ot:=jm.ot;have kx:Lg g t R:=kx;have zx:Wr m w.aq t dn:=zx;have t1:1<=t:=jx.2.1;have ek:(kept s t R).te=t/\(kept s t R).role="hears"/\(kept s t R).o=t/\s.dn<=(kept s t R).L.length:=by
    rw[kept]
    split
    .next q=>
     refine#[rfl,rfl,rfl, ?_];show s.dn<=-R;have dl:=k1.dl;by_cases ct:s.o < t
     .rcases k1.wr with z | ⟨T,z,a1,a2,a3,a4⟩
      .lia
      .let hE hI _:=kx.pre t1;have:=ay0 k a3 a1 hE b_;have:=hI.length_le
       lia
     .lia
    .next q=>
     refine#[rfl,rfl,by show s.o=t;lia,k1.dl]
   generalize kept s t R=q at *;let e1 e2 e3 e4:=ek;have m1:(if(-q.L:Int) < dn then(-q.L:Int) else dn)<=-q.L/\(if(-q.L:Int) < dn then(-q.L:Int) else dn)<=dn:=by split <;> lia
   generalize (if(-q.L:Int) < dn then(-q.L:Int) else dn)=mn at *;have hw:Wr m w.aq t (if mn > s.dn then mn else s.dn):=by
    split
    .exact zx.le (rB _) m1.2
    .exact k1.wr.le b_ (rB _)
   refine h.note hs #[by show Wr m _ q.o _;rw[e3];exact hw.more, ?_,λz=>absurd (e2.symm.trans z) c_] λl hl x hx=> ?_
   .show(if mn > s.dn then mn else s.dn)<=(-q.L:Int)
    split
    .exact m1.1
    .lk
   .cases hl;rw[ly.mp hx];refine#[i,rfl,hi,_,kg _ (ly.mpr rfl),rfl,e3,rB _]
 |kept sn to t z=>
  unfold WM.ef;dsimp only;by_cases c:s.role="leads"/\t=s.te
  .rw[zJ c];let c rfl:=c;have lo:=jm.lo c;let j rfl hj arP:=zx;have aoI:=(jm.own (by rw[c];decide +kernel)).2;have own:=(jm.own (by rw[c];decide +kernel)).1;have ld:z<=-s.L:=by
    have:=jx.2.2.2 s ([own,aqF]^^hs);exact this.2.2 c rfl
   refine h.note hs ?_ oM;have ay3:∀p∈nS s.si j (if gi s.si j > z then gi s.si j else z),p.2<=-s.L/\∃j:Nat,p.1=j/\j < m/\aoY w.aq j s.te p.2:=λp hp=>by
    rcases aoo _ _ _ _ hp with q | rfl
    .exact#[jm.sz c p q,k1.si c p q]
    .show(if gi s.si j > z then gi s.si j else z)<=-s.L/\_
     split
     .next q=>
      by_cases c1:1<=gi s.si j
      .let p hp e1 e2:=arK (rB 1) c1;let j' e3 e4 e5:=k1.si c p hp;have:=jm.sz c p hp;rw[<- e2];exact#[this,j',by rw[<- e3,e1],e4,e5]
      .let e a1 a2 a3 a4:=arP;exact#[by lia,j,rfl,hj,e,a1,a2,a3,by show gi s.si j<=_;lia]
     .exact#[ld,j,rfl,hj,arP]
   exact ay1 (s:= { s with si:=nS s.si j (if gi s.si j > z then gi s.si j else z) }) _ c lo hi aoI jm.dn k1.wr.more k1.dl (λp hp=>(ay3 p hp).1) (λp hp=>by let j a b c:=(ay3 p hp).2;exact#[j,a,b,c.more]) #[_,kg _ (ly.mpr rfl),rfl,lo,rB _]
  .rw[zK c];exact h.gO hs rfl rfl rfl (.inl rfl) rfl rfl oM
theorem Step.kz(st:Step m w w')(h:Ww m w)(j:Jw m w)(k:Kw m w g)(k':Kw m w' g')(z:Kz m w):Kz m w':=by
 have N2:∀{i:Nat} {s:MS},w.ms[i]?\s->Wg m (-w.aq) s/\i < m:=λ{i s} hs=>#[h.ms s (jr hs),by rw[<- h.n];exact(cX.mp hs).1]
 cases st with
 |ef alR q x i s hk y6 hs=>
  have hg:=jr hk;let ws hi:=N2 hs;rw[cz.told]at k' |-;cases alR with
  |true=>exact z.ef k hs hi (j.ms i s hs) x (k.way x hg) (z.way x hg) (j.way x hg) y6 k'
  |false=>
   have kc:Kw m (w.cut q) g:=k.less _ (λx hx=>aqH hx) _;have zc:Kz m (w.cut q):=#[z.ms,λx hx=>z.way x (aqH hx)]
   exact zc.ef kc hs hi (j.ms i s hs) x (by
    have:=k.way x hg;cases x with
    |so=>lk
    |oW=>lk
    |keep=>lk
    |kept=>trivial) (z.way x hg) (j.way x hg) y6 k'
 |rise i s hs=>
  let ws hi:=N2 hs;have lt:=arN i m s.te b_;have ot:=(j.ms i s hs).ot;have et:(WM.rise m i s).te=nP i m s.te:=by
   rw[WM.rise];rcases arM m { s with te:=nP i m s.te,role:="stands",vo:= [((i:Int),s.o,s.L)] } with e | ⟨_,_,_,e,_⟩
   .rw[e]
   .lk
  refine z.lead (s1:= { s with te:=nP i m s.te,role:="stands",vo:= [((i:Int),s.o,s.L)] }) hs rfl rfl rfl rfl (by show s.o < nP i m s.te;lia) k' λl hl x hx=> ?_;cases hl;rw[w5]at hx;let q _ rfl:=gY.mp hx;exact#[q,by rw[et]]
 |add i s r hs hr=>
  let ws hi:=N2 hs;have jm:=j.ms i s hs;have k1:=z.ms i s hs;rw[sG];by_cases c:s.role="leads"
  .rw[zJ c];have lo:=jm.lo c;have aoI:=(jm.own (by rw[c];decide +kernel)).2;have sz:=jm.sz c;have dl:=k1.dl;have kc:=ay1 (m:=m) (i:=i) (s:= { s with L:=s.L++ [r] }) (w.note i "add" r (!keeps m i (count m i { s with L:=s.L++ [r] })) (count m i { s with L:=s.L++ [r] })).aq c lo hi aoI jm.dn k1.wr.more (by show s.dn<=(-(s.L++ [r]):Nat);rw[eO];lia) (λp hp=>by have:=sz p hp;show p.2<=(-(s.L++ [r]):Nat);rw[eO];lia) (λp hp=>by let j a b d:=k1.si c p hp;exact#[j,a,b,d.more]) #[_,kg _ (ly.mpr rfl),rfl,lo,rB _];refine z.note hs kc λl hl x hx=>?_;cases hl;let to rfl:=arO hx;exact kc.wr.le (by show s.o<=s.te;lia) (rB _)
  .rw[zK c];exact z.gO hs rfl rfl rfl (.inl rfl) rfl rfl λl hl=>by lk
 |aqx i s hs=>
  have dl:(0:Int)<=(-s.L:Nat):=b_
  refine z.note hs #[.inl (rB _),dl,λq=>absurd q (by show ¬ (("hears":Str)="leads");decide +kernel)] λl hl x hx=>by cases hl;lk
 |send i s hs=>
  have jm:=j.ms i s hs;refine z.gO hs rfl rfl rfl (.inl rfl) rfl rfl λl hl x hx=>?_;cases hl;rw[sends]at hx;by_cases c:s.role="leads"
  .rw[zJ c]at hx;let to rfl:=arO hx;have lo:=jm.lo c;exact(z.ms i s hs).wr.more.le b_ (rB _)
  .rw[zK c]at hx;lk
 |drop way hd hl=>exact#[z.ms,λx hx=>z.way x (hd x hx)]
 |rows x=>exact#[z.ms,z.way]
end
def Cm(m:Nat)(w:cz)(g:Gh)(W:oH D):Prop:=W= []\/∃T z,1<=T/\Dn m w.aq T z/\(-W:Int)<=z/\W <+:g.G T
section
variable {m:Nat}{w w':cz}{g g':Gh}{W W':oH D}{s:MS}{i:Nat}{T z:Int}
theorem Dn.e(k:Kw m w g)(hT:1<=T)(d:Dn m w.aq T z):g.E T/\z<=-(g.G T)/\g.I T <+:g.G T:=by
 let Q _ b c:=d;cases Q with
 |nil=>simp at b
 |cons j Q=>
  obtain⟨_,e,he,_,eo,ez⟩:=c j (.head _);let x y y2:=(k.st e he).2.1.pre b_;rw[eo]at x y y2;exact#[x,by have:=y2.length_le;lia,y.trans y2]
theorem aBm{α:Type}{A B:oH α}(h:A <+:B)(hn:-A<=n):A <+:B.take n:=by
 let r rfl:=h;rw[List.take_append];rw[awS hn];exact aBB _ _
theorem ay4(k:Kw m w g)(hT:1<=T)(d:Dn m w.aq T z)(hw:(-W:Int)<=z)(hp:W <+:g.G T){L:oH D}(lg:Lg g o L)(r:T < o\/(T=o/\z<=-L)):W <+:L:=by
 let a b c:=lg.pre b_;rcases r with r | ⟨rfl,r⟩
 .let z1 z2:=atu k hT d o.toNat o b_ a r;exact((aBm hp b_).trans z2).trans b
 .exact aHs hp c b_
theorem aEd(k:Kw m w g)(a:Cm m w g W)(b:Cm m w g W'):W <+:W'\/W' <+:W:=by
 rcases a with rfl | ⟨T1,z1,t1,d1,l1,p1⟩
 .exact .inl (awX ..)
 rcases b with rfl | ⟨T2,z2,t2,d2,l2,p2⟩
 .exact .inr (awX ..)
 have key:∀{T1 T2 z1 z2:Int} {A B:oH D},1<=T1->1<=T2->Dn m w.aq T1 z1->Dn m w.aq T2 z2->(-A:Int)<=z1->A <+:g.G T1->B <+:g.G T2->T1<=T2->A <+:B\/B <+:A:=λ{T1 T2 z1 z2 A B} t1 t2 d1 d2 l1 p1 p2 h=>by
  by_cases e:T1=T2
  .subst e;exact aHt p1 p2
  .let e2 _ i2:=d2.e k t2;exact aHt (((aBm p1 b_).trans (atu k t1 d1 T2.toNat T2 b_ e2 b_).2).trans i2) p2
 by_cases h:T1<=T2
 .exact key t1 t2 d1 d2 l1 p1 p2 h
 .exact(key t2 t1 d2 d1 l2 p2 p1 b_).symm
noncomputable def sure (s:MS):oH D:=s.L.take s.dn.toNat
theorem ay5(k:Kw m w g)(zz:Kz m w)(hs:w.ms[i]?\s):Cm m w g (sure s):=by
 have zs:=zz.ms i s hs;rcases zs.wr with h | ⟨T,z,d,h1,h2,h3⟩
 .left;rw[sure];rw[show s.dn.toNat=0 by lia,aHu]
 .by_cases dz:s.dn<=0
  .left;rw[sure];rw[show s.dn.toNat=0 by lia,aHu]
  right;have dl:=zs.dl;have lg:=(k.ms i s hs).lg;let a b c:=lg.pre b_;have hl:-(sure s)=s.dn.toNat:=by rw[sure];rw[Ce];lia
  refine#[T,z,h2,d,by lia, ?_];by_cases e:T=s.o
  .rw[e];exact(awV _ _).trans c
  .let z1 z2:=atu k h2 d s.o.toNat s.o b_ a b_;have z3:=z2.trans b;have:sure s <+:(g.G T).take z.toNat:=aHs (awV _ _) z3 (by rw[hl,Ce];lia);exact this.trans (awV _ _)
theorem rG.lt{z:Int}(h:rG a x b y)(hz:z<=x):a < b\/(a=b/\z<=y):=by rw[rG]at h;lia
theorem aEe(k:Kw m w g)(hn:-w.ms=m)(c:Cm m w g W){So:oH Nat}(nd:So.Nodup)(hl:m < 2 * -So)(lt:∀j∈So,j < m){b:MS}{q:Nat}(hb:w.ms[q]?= .some b)(ahe:∀j∈So,∀s,w.ms[j]?= .some s->rG s.o (-s.L) b.o (-b.L)):W <+:b.L:=by
 rcases c with rfl | ⟨T,z,t,d,l,p⟩
 .exact awX ..
 have d':=d;let Q q1 q2 q3:=d';let j j1 j2:=aBl q1 nd q2 hl (λj hj=>(q3 j hj).1) lt;obtain⟨_,e,he,ei,eo,ez⟩:=q3 j j1;have hs:=dH (show j < -w.ms by rw[hn];exact lt j j2);have r1:=((k.st e he).2.2 _ (ei^^hs)).2;have r2:=r1.trans (ahe j j2 _ hs);rw[eo]at r2;exact ay4 k t d l p (k.ms q b hb).lg (r2.lt ez)
structure AN(m:Nat)(w:cz)(W:List D):Prop where
 ww:Ww m w
 jw:Jw m w
 kz:Kz m w
 kw:∃g,Kw m w g/\Cm m w g W
theorem Cm.grow(c:Cm m w g W)(k:Kw m w g)(le:g.le g')(Ge:∃e,w'.aq=w.aq++e):Cm m w' g' W:=by
 rcases c with h | ⟨T,z,t,d,l,p⟩
 .exact .inl h
 .let e he:=Ge;exact .inr #[T,z,t,he^^d.more,l,p.trans (le.g T (d.e k t).1)]
theorem Step.aq(st:Step m w w'):∃e,w'.aq=w.aq++e:=by
 cases st with
 |ef alR k x i s _ _ _=>exact#[_,by rw[cz.told,cz.note,cz.cut];cases alR <;> rfl]
 |rise i s _=>exact#[_,rfl]
 |add i s r _ _=>exact#[_,rfl]
 |aqx i s _=>exact#[_,rfl]
 |send i s _=>exact#[_,rfl]
 |drop way _ _=>exact#[[],(nM _).symm]
 |rows x=>exact#[[],(nM _).symm]
theorem Step.al(hm:m < 40)(st:Step m w w')(h:AN m w W):AN m w' W:=by
 let g k c:=h.kw;let g' le k':=st.kw h.ww h.jw k;exact#[st.ww hm h.ww,st.jw h.ww h.jw,st.kz h.ww h.jw k k' h.kz,g',k',c.grow k le st.aq]
theorem xk.al(hm:m < 40)(st:xk m w w'):AN m w W->AN m w' W:=by
 induction st with
 |refl=>exact id
 |cons a _ ih=>exact λh=>ih (a.al hm h)
def ahb:oH MS->oH D->oH D
 | [],W=>W
 |s::ms,W=>ahb ms (if -W < -(sure s) then sure s else W)
theorem ay6(k:Kw m w g)(zz:Kz m w):∀(l:oH MS) (W:oH D),(∀s∈l,s∈w.ms)->Cm m w g W->Cm m w g (ahb l W)
 | [],W,_,c=>c
 |s::l,W,h,c=>by
  rw[ahb];refine ay6 k zz l _ (λx hx=>h x (.tail _ hx)) ?_
  split
  .let i hi:=V5.mp (h s (.head _));exact ay5 k zz hi
  .lk
end
theorem aEf(m:Nat)(h:Ww m #[ug m s0, [], [],0]):AN m #[ug m s0, [], [],0] []:=by
 have e:∀{i:Nat} {s:MS},(ug m s0)[i]?\s->s=s0:=λhs=>aBA (jr hs);have nl:¬ (("hears":Str)="leads"):=c_
 refine#[h,aD7 m,#[λi s hs=> ?_,(λ_ q=>by lk)],#[λ_=>False,λ_=> [],λ_=> []],#[λi s hs=> ?_,(λ_ q=>by lk),(λ_ q=>by lk),λi t o R hv=> ?_,λ_ q=>q.elim], .inl rfl]
 .cases e hs;exact#[.inl (rB _),rB _,λq=>absurd q nl]
 .cases e hs;exact#[.inl #[rfl,rfl],λq=>absurd rfl q,λq=>absurd q nl]
 .obtain⟨_,q,_⟩:=hv;lk
inductive Rd(m:Nat)(a b:Str):Nat->cz->cz->Prop
 |nil (w:cz):Rd m a b 0 w w
 |cons {n:Nat} {w w':cz} {g:eN} {r:List eN} {i:Nat} {s:MS}:w.way=g::r->(g.word=a\/g.word=b)->g.to=i->w.ms[i]?=oF s->Rd m a b n (w.told yv 0 g i m s) w'->Rd m a b (n + 1) w w'
def aqz(m:Nat)(a b:Str):Nat->cz->cz->Prop
 |0,w,w'=>w=w'
 |n + 1,w,w'=>∃w1,Rd m a b (-w.way) w w1/\aqz m a b n w1 w'
section
variable {m:Nat}{a b:Str}{w w' v v':cz}{W:oH D}{s:MS}{i n:Nat}{g:eN}{r:oH eN}{t:Int}
theorem Rd.steps(h:Rd m a b n w w'):xk m w w':=by
 induction h with
 |nil=>exact .refl _
 |cons e _ hi hs _ ih=>exact .cons (.ef _ yv 0 _ _ _ (by rw[e];rfl) hi hs) ih
theorem Rd.len(h:Rd m a b n w w'):-w'.aq=-w.aq + n:=by
 induction h with
 |nil=>rfl
 |cons e _ hi hs _ ih=>rw[ih,av2];lia
theorem aqA:(w.told yv 0 g i m s).ms=w.ms.set i (ef m i s g).1:=rfl
theorem atd(e:w.way=g::r):(w.told yv 0 g i m s).way=yy (r++(ef m i s g).2):=by
 show yy (w.way.eraseIdx 0++_)=_;rw[e];rfl
theorem apH{α:Type}{l:oH α}(h:-l<=60):yy l=l:=by
 rw[yy];rw[show -l - 60=0 by lia,V7]
theorem aoZ{α:Type}{l:oH α}{i k:Nat}{x:α}(h:k≠i):(l.set i x)[k]?=l[k]?:=gq (yd h)
theorem aoa{α:Type}{l:oH α}{i:Nat}{x y:α}(h:l[i]?\y):(l.set i x)[i]?\x:=gK (cX.mp h).1
theorem ay7(i:Nat)(t:Int):∀(js:oH Nat) (w:cz) (V:oH eN),js.Nodup->(∀j∈js,∃s,w.ms[j]?\s/\s.te < t)->w.way=js.map (λj:Nat=>eN.so i j t)++V->-js + -V<=60->
  ∃(w':cz) (f:Nat->Int×oH D),Rd m "stand" "voice" (-js) w w'/\(∀k,k∉js->w'.ms[k]?=w.ms[k]?)/\(∀j∈js,∃s s',w.ms[j]?\s/\w'.ms[j]?\s'/\s'.te=t/\s'.o=s.o)/\w'.way=V++js.map (λj:Nat=>eN.oW j i t (f j).1 (f j).2)
 | [],w,V,_,_,hw,_=>#[w,λ_=>(0, []), .nil _,λ_ _=>rfl,(λ_ h=>nomatch h),by simpa using hw]
 |j::js,w,V,nd,hs,hw,hl=>by
  let s es lt:=hs j (.head _);rw[jP]at nd;have hh:ef m j s (.so i j t)=({ s with te:=t,role:="hears" }, [.oW j i t s.o s.L]):=zK b_;have hw:w.way=eN.so i j t::(js.map (λj:Nat=>eN.so i j t)++V):=hw;rw[p8]at hl;have e1:(w.told yv 0 (.so i j t) j m s).way=js.map (λj:Nat=>eN.so i j t)++(V++ [.oW j i t s.o s.L]):=by
   rw[atd hw,hh,apH f_,b8]
  have e2:∀k,k≠j->(w.told yv 0 (.so i j t) j m s).ms[k]?=w.ms[k]?:=λk h=>aoZ h;let w' f rd o1 o2 o3:=ay7 i t js (w.told yv 0 (.so i j t) j m s) (V++ [.oW j i t s.o s.L]) nd.2 (λk hk=>by
   let x ex lx:=hs k (.tail _ hk);exact#[x,by rw[e2 k λz=>nd.1 (z▸hk)];exact ex,lx]) e1 f_
  refine#[w',λk=>if k=j then(s.o,s.L) else f k, .cons hw (.inl rfl) rfl es rd,λk hk=> ?_,λk hk=> ?_, ?_]
  .rw[o1 k λz=>hk (.tail _ z),e2 k λz=>hk (z▸ .head _)]
  .by_cases c:k=j
   .subst c;refine#[s, { s with te:=t,role:="hears" },es, ?_,rfl,rfl];rw[o1 k nd.1,aqA,hh];exact aoa es
   .have hk:k∈js:=by rcases bL.mp hk with z | z;exact absurd z c;lk
    let x x' ex aiS y:=o2 k hk;rw[e2 k c]at ex;exact#[x,x',ex,aiS,y]
  .rw[o3,cP,b8];show V++([eN.oW j i t s.o s.L]++_)=V++(eN.oW j i t (if j=j then(s.o,s.L) else f j).1 (if j=j then(s.o,s.L) else f j).2::_);rw[zJ rfl];refine congrArg (λz=>V++(eN.oW j i t s.o s.L::z)) (Cs λk hk=> ?_);dsimp only;rw[zK (show ¬ k=j from λz=>nd.1 (z▸hk))]
theorem ay8{α:Type}{j:Int}{x:α}:∀{l:oH (Int×α)},j∉l.map (·.1)->nS l j x=l++ [(j,x)]
 | [],_=>rfl
 |p::l,h=>by
  rw[cP,bL,not_or]at h;rw[nS,zK (yd h.1),ay8 h.2];rfl
theorem awd(s:MS)(h:m < 2 * -s.vo):(lead m s).role="leads"/\(lead m s).te=s.te:=by
 rw[lead];rw[zJ b_];cases e:s.vo with
 |nil=>rw[e]at h;simp at h
 |cons v r=>exact#[rfl,rfl]
theorem awe(s:MS)(h:¬ m < 2 * -s.vo):lead m s=s:=zK b_
theorem aEg:¬ (("leads":Str)="stands"):=c_
theorem ay9(i:Nat)(t:Int)(h0:0 < m)(f:Nat->Int×oH D):∀(js:oH Nat) (w:cz) (s:MS),js.Nodup->w.way=js.map (λj:Nat=>eN.oW j i t (f j).1 (f j).2)->-js<=60->w.ms[i]?\s->s.te=t->
  (s.role="leads"\/(s.role="stands"/\(∀j∈js,(j:Int)∉s.vo.map (·.1))/\-s.vo + -js=m/\¬ m < 2 * -s.vo))->
  ∃(w':cz) (s':MS),Rd m "stand" "voice" (-js) w w'/\w'.way= []/\w'.ms[i]?\s'/\s'.te=t/\s'.role="leads"/\∀k,k≠i->w'.ms[k]?=w.ms[k]?
 | [],w,s,_,hw,_,hs,ht,hr=>by
  rcases hr with hr | ⟨_,_,h1,h2⟩
  .exact#[w,s, .nil _,hw,hs,ht,hr,λ_ _=>rfl]
  .exfalso;simp at h1;lia
 |j::js,w,s,nd,hw,hl,hs,ht,hr=>by
  rw[jP]at nd;have hw:w.way=eN.oW j i t (f j).1 (f j).2::js.map (λj:Nat=>eN.oW j i t (f j).1 (f j).2):=hw;rw[p8]at hl;have key:∀s1,ef m i s (.oW j i t (f j).1 (f j).2)=(s1, [])->s1.te=t->(s1.role="leads"\/(s1.role="stands"/\(∀j∈js,(j:Int)∉s1.vo.map (·.1))/\-s1.vo + -js=m/\¬ m < 2 * -s1.vo))->∃(w':cz) (s':MS),Rd m "stand" "voice" (-js + 1) w w'/\w'.way= []/\w'.ms[i]?\s'/\s'.te=t/\s'.role="leads"/\∀k,k≠i->w'.ms[k]?=w.ms[k]?:=λs1 hh h1 h2=>by
   let w' s' rd o1 o2 o3 o4 o5:=ay9 i t h0 f js (w.told yv 0 (.oW j i t (f j).1 (f j).2) i m s) s1 nd.2 (by rw[atd hw,hh,nM,apH f_]) b_ ([aqA,hh]^^aoa hs) h1 h2;exact#[w',s', .cons hw (.inr rfl) rfl hs rd,o1,o2,o3,o4,λk hk=>[o5 k hk,aqA]^^aoZ hk]
  rcases hr with hr | ⟨hr,h1,h2,h3⟩
  .exact key s (zK λz=>aEg (hr▸z.1)) ht (.inl hr)
  .have hv:nS s.vo j ((f j).1,(f j).2)=s.vo++ [((j:Int),(f j).1,(f j).2)]:=ay8 (h1 j (.head _));have hh:ef m i s (.oW j i t (f j).1 (f j).2)=(lead m { s with vo:=s.vo++ [((j:Int),(f j).1,(f j).2)] }, []):=by rw[<- hv];exact zJ #[hr,ht.symm]
   rw[p8]at h2;by_cases c:m < 2 * -(s.vo++ [((j:Int),(f j).1,(f j).2)])
   .let l1 l2:=awd (m:=m) { s with vo:=s.vo++ [((j:Int),(f j).1,(f j).2)] } c;exact key _ hh (l2.trans ht) (.inl l1)
   .rw[awe (m:=m) { s with vo:=s.vo++ [((j:Int),(f j).1,(f j).2)] } c]at hh;refine key _ hh ht (.inr #[hr,λk hk=> ?_,by simp;lia,c]);show(k:Int)∉(s.vo++ [((j:Int),(f j).1,(f j).2)]).map (·.1);rw[cK,lZ,not_or];refine#[h1 k (.tail _ hk),λz=>nd.1 ?_];have:(k:Int)=j:=by simpa using z
    exact(show k=j by lia)▸hk
theorem aza(i:Nat)(t:Int)(R:oH D)(dn:Int):∀(js:oH Nat) (w:cz) (V:oH eN),js.Nodup->(∀j∈js,∃s,w.ms[j]?\s/\s.te=t/\(s.o < t\/s.o=t/\s.L=R))->w.way=js.map (λj:Nat=>eN.keep i j t R dn)++V->-js + -V<=60->
  ∃w':cz,Rd m "keep" "kept" (-js) w w'/\(∀k,k∉js->w'.ms[k]?=w.ms[k]?)/\(∀j∈js,∃s s',w.ms[j]?\s/\w'.ms[j]?\s'/\s'.te=t/\s'.o=t/\s'.L=R/\(dn=-R->s.dn<=-R->s'.dn=-R))/\w'.way=V++js.map (λj:Nat=>eN.kept j i t (-R))
 | [],w,V,_,_,hw,_=>#[w, .nil _,λ_ _=>rfl,(λ_ h=>nomatch h),by simpa using hw]
 |j::js,w,V,nd,hs,hw,hl=>by
  let s es te ho:=hs j (.head _);rw[jP]at nd;have hk:(kept s t R).te=t/\(kept s t R).o=t/\(kept s t R).L=R:=by
   rw[kept]
   split
   .exact#[rfl,rfl,rfl]
   .next c=>
    rcases ho with z | ⟨z1,z2⟩
    .exact absurd (.inl z) c
    .exact#[rfl,z1,z2]
  let k1 k2 k3:=hk;obtain⟨s',hh,p1,p2,p3,p4⟩:∃s',ef m j s (.keep i j t R dn)=(s', [.kept j i t (-R)])/\s'.te=t/\s'.o=t/\s'.L=R/\(dn=-R->s.dn<=-R->s'.dn=-R):=by
   have hh:ef m j s (.keep i j t R dn)=({ kept s t R with dn:=if(if(-R:Int) < dn then(-R:Int) else dn) > s.dn then(if(-R:Int) < dn then(-R:Int) else dn) else s.dn }, [.kept j i t (-R)]):=by
    show(if t < s.te then _ else _)=_;rw[zK b_,k3]
   refine#[_,hh,k1,k2,k3,λe l=> ?_];subst e;show(if(if(-R:Int) < -R then(-R:Int) else -R) > s.dn then(if(-R:Int) < -R then(-R:Int) else -R) else s.dn)=_;rw[zK (Int.lt_irrefl _)]
   split <;> lia
  have hw:w.way=eN.keep i j t R dn::(js.map (λj:Nat=>eN.keep i j t R dn)++V):=hw;rw[p8]at hl;have e1:(w.told yv 0 (.keep i j t R dn) j m s).way=js.map (λj:Nat=>eN.keep i j t R dn)++(V++ [.kept j i t (-R)]):=by
   rw[atd hw,hh,apH f_,b8]
  have e2:∀k,k≠j->(w.told yv 0 (.keep i j t R dn) j m s).ms[k]?=w.ms[k]?:=λk h=>aoZ h;let w' rd o1 o2 o3:=aza i t R dn js (w.told yv 0 (.keep i j t R dn) j m s) (V++ [.kept j i t (-R)]) nd.2 (λk hk=>by
   let x ex lx:=hs k (.tail _ hk);exact#[x,by rw[e2 k λz=>nd.1 (z▸hk)];exact ex,lx]) e1 f_
  refine#[w', .cons hw (.inl rfl) rfl es rd,λk hk=> ?_,λk hk=> ?_, ?_]
  .rw[o1 k λz=>hk (.tail _ z),e2 k λz=>hk (z▸ .head _)]
  .by_cases c:k=j
   .subst c;refine#[s,s',es, ?_,p1,p2,p3,p4];rw[o1 k nd.1,aqA,hh];exact aoa es
   .have hk:k∈js:=by rcases bL.mp hk with z | z;exact absurd z c;lk
    let x x' ex y:=o2 k hk;rw[e2 k c]at ex;exact#[x,x',ex,y]
  .rw[o3,cP,b8];rfl
end
section
variable {m:Nat}{w w':cz}{W:oH D}{s:MS}{i:Nat}{t:Int}
theorem apI:j∈nz i m↔j < m/\j≠i:=by
 rw[nz];rw[Cc,sH,decide_eq_true_eq]
 lia
theorem ate:(nz (i:Nat) m).Nodup:=aHv List.filter_sublist awW
theorem awf(hi:i < m):-(nz i m) + 1=m:=by
 have e:nz i m=(kf m).erase i:=by
  rw[awW.erase_eq_filter];refine List.filter_congr λj _=>?_;rw[VZ];simp
  lia
 rw[e,aHr (sH.mpr hi),apk]
 lia
theorem azb:∀(S:oH (Int×Int)) (i x k:Int),gi (nS S i x) k=if i=k then x else gi S k
 | [],i,x,k=>rfl
 |p::S,i,x,k=>by
  rw[nS];by_cases c:p.1=i
  .rw[zJ c,gi,gi];by_cases d:i=k
   .rw[zJ d,zJ d]
   .rw[zK d,zK d,zK λz=>d (c▸z)]
  .rw[zK c,gi,gi,azb S i x k];by_cases d:p.1=k
   .rw[zJ d,zJ d,zK λz=>c (d.trans z.symm)]
   .rw[zK d,zK d]
theorem azc(hz:0<=z):∀{S:oH (Int×Int)} {k:Int},(∀p∈S,p.2<=z)->gi S k<=z
 | [],_,_=>hz
 |p::S,k,h=>by
  rw[gi]
  split
  .exact h p (.head _)
  .exact azc hz λq hq=>h q (.tail _ hq)
theorem azd(hi:i < m)(h:∀j∈nz i m,gi s.si j=-s.L)(dl:s.dn<=-s.L):(count m i s).dn=-s.L:=by
 have al:∀x∈j0 i m s.si (-s.L),x=(-s.L:Int):=λx hx=>by
  rw[j0]at hx;rcases lZ.mp hx with z | z
  .let j hj rfl:=gY.mp z;exact h j hj
  .exact ly.mp z
 have hl:-(j0 i m s.si (-s.L))=m:=by rw[j0];rw[eO,nI];exact awf hi
 have mem:(-s.L:Int)∈(j0 i m s.si (-s.L)).filter (most m (j0 i m s.si (-s.L))):=by
  refine Cc.mpr #[by rw[j0];exact kg _ (.head _), ?_];rw[most];rw[uV.mpr λx hx=>decide_eq_true (al x hx^^rB _),hl];exact decide_eq_true b_
 have a:=(as8 ((j0 i m s.si (-s.L)).filter (most m (j0 i m s.si (-s.L)))) s.dn).2 _ mem;have b:=arL ((j0 i m s.si (-s.L)).filter (most m (j0 i m s.si (-s.L)))) s.dn;show tF s.dn _=_;rcases b with b | b
 .rw[b]at a |-;lia
 .exact al _ (Cc.mp b).1
theorem aze(hm:m < 40)(hi:i < m)(z:Int):∀(js:oH Nat) (w:cz) (s:MS),AN m w W->js.Nodup->(∀j∈js,j∈nz i m)->w.way=js.map (λj:Nat=>eN.kept j i t z)->-js<=60->w.ms[i]?\s->s.role="leads"->s.te=t->(-s.L:Int)=z->(∀j∈nz i m,j∉js->gi s.si j=z)->(js= []->s.dn=z)->
  ∃(w':cz) (s':MS),Rd m "keep" "kept" (-js) w w'/\w'.way= []/\w'.ms[i]?\s'/\s'.role="leads"/\s'.te=t/\s'.L=s.L/\s'.dn=z/\∀k,k≠i->w'.ms[k]?=w.ms[k]?
 | [],w,s,h,_,_,hw,_,hs,hr,ht,_,_,hd=>#[w,s, .nil _,hw,hs,hr,ht,rfl,hd rfl,λ_ _=>rfl]
 |j::js,w,s,h,nd,ho,hw,hl,hs,hr,ht,hz,hg,hd=>by
  rw[jP]at nd;have hw:w.way=eN.kept j i t z::js.map (λj:Nat=>eN.kept j i t z):=hw;rw[p8]at hl;have aEh:=h.jw.ms i s hs;have le:gi s.si j<=z:=azc b_ λp hp=>by have:=aEh.sz hr p hp;lia
  have dl:=(h.kz.ms i s hs).dl;have hh:ef m i s (.kept j i t z)=(count m i { s with si:=nS s.si j z }, []):=by
   show(if s.role="leads"/\t=s.te then _ else _)=_;rw[zJ #[hr,ht.symm]];have:(if gi s.si j > z then gi s.si j else z)=z:=zK b_;show(count m i { s with si:=nS s.si j (if gi s.si j > z then gi s.si j else z) }, [])=_;rw[this]
  have st:Step m w (w.told yv 0 (.kept j i t z) i m s):= .ef w yv 0 _ i s (by rw[hw];rfl) rfl hs;have gs:∀k∈nz i m,k∉js->gi (nS s.si j z) k=z:=λk hk hn=>by
   rw[azb]
   split
   .rfl
   .next c=>
    refine hg k hk λy=> ?_;rcases bL.mp y with y | y
    .exact c (by rw[y])
    .exact hn y
  let w' s' rd o1 o2 o3 o4 o5 o6 o7:=aze hm hi z js (w.told yv 0 (.kept j i t z) i m s) (count m i { s with si:=nS s.si j z }) (st.al hm h) nd.2 (λk hk=>ho k (.tail _ hk)) (by rw[atd hw,hh,nM,apH f_]) b_ ([aqA,hh]^^aoa hs) hr ht hz gs (λe=>by
   have:=azd (s:= { s with si:=nS s.si j z }) hi (λk hk=>by
    show gi (nS s.si j z) k=-s.L;rw[gs k hk (e^^λy=>nomatch y),hz]) dl
   exact this.trans hz)
  exact#[w',s', .cons hw (.inr rfl) rfl hs rd,o1,o2,o3,o4,o5,o6,λk hk=>[o7 k hk,aqA]^^aoZ hk]
def aob(m:Nat)(a b:Str)(z:Nat)(w w2:cz):Prop:=∃w1,w.way.length + -w1.way<=z/\Rd m a b (-w.way) w w1/\Rd m a b (-w1.way) w1 w2
theorem aob.n(h:aob m a b z w w'):aqz m a b 2 w w':=by
 let w1 _ h1 h2:=h;exact#[w1,h1,w',h2,rfl]
theorem aob.steps(h:aob m a b z w w'):xk m w w':=by
 let w1 _ h1 h2:=h;exact h1.steps.trans h2.steps
theorem aEi(h:AN m w W)(hs:w.ms[i]?\s)(hr:s.role="leads")(ht:∀(k:Nat) (x:MS),w.ms[k]?\x->x.te<=s.te):W <+:s.L:=by
 let g k c:=h.kw;rcases c with rfl | ⟨T,z,t1,d,l,p⟩
 .exact awX ..
 have ki:=k.ms i s hs;obtain⟨_,_,eG⟩:=ki.ld hr;have lo:=(h.jw.ms i s hs).lo hr;have de:=d.e k t1;let Q _ q2 q3:=d;have d:Dn m w.aq T z:=#[Q,‹_›,q2,q3]
 have hT:T<=s.te:=by
  cases Q with
  |nil=>simp at q2
  |cons j Q=>
   let hj e he ei eo _:=q3 j (.head _);have hx:=dH (show j < -w.ms by rw[h.ww.n];exact hj);have r:=((k.st e he).2.2 _ (ei^^hx)).2;have:=ht j _ hx;have:=(h.jw.ms j _ hx).ot;rw[eo]at r;rw[rG]at r
   lia
 refine ay4 k t1 d l p ki.lg ?_;by_cases e:T=s.te
 .right;rw[lo];refine#[e, ?_];rw[<- eG, <- e];exact de.2.1
 .left;lia
theorem awg(h:AN m w W)(hk:k < m):∃x,w.ms[k]?\x:=#[_,dH (h.ww.n^^hk)]
theorem azf(h:AN m w W)(hx:w.ms[k]?\x):k < m:=by rw[<- h.ww.n];exact(cX.mp hx).1
theorem aEj(hm:m<=30)(h:AN m w W)(hi:i < m)(aEk:w.way= [])(hs:w.ms[i]?\s)(ho:∀(k:Nat) (x:MS),k≠i->w.ms[k]?\x->x.te < (rise m i s).te):
  ∃w2 s2,aob m "stand" "voice" (2 * m) (w.note i "rise" (.sc .aG) (!w5 m i (rise m i s).te) (rise m i s)) w2/\w2.way= []/\w2.ms[i]?\s2/\s2.role="leads"/\W <+:s2.L/\∀(k:Nat) (x:MS),k≠i->w2.ms[k]?\x->x.te=s2.te/\x.o < s2.te:=by
 have lo:=awf hi;generalize tR:w.note i "rise" (.sc .aG) (!w5 m i (rise m i s).te) (rise m i s)=w1;have st:Step m w w1:=tR▸ .rise w i s hs;have h1:=st.al b_ h;have e1:w1.ms=w.ms.set i (rise m i s):=by rw[<- tR];rfl
 have e2:w1.way=(nz i m).map (λj:Nat=>eN.so i j (rise m i s).te)++ []:=by
  rw[<- tR];show yy (w.way++w5 m i (rise m i s).te)=_;rw[aEk,Wk,nM];exact apH (by rw[w5];rw[nI];lia)
 have AD:w1.ms[i]?\rise m i s:=e1^^aoa hs
 generalize hr:rise m i s=r at *;have rr:r.role="leads"\/(r.role="stands"/\(∀j∈nz i m,(j:Int)∉r.vo.map (·.1))/\-r.vo + -(nz i m)=m/\¬ m < 2 * -r.vo):=by
  rw[<- hr];rw[WM.rise];by_cases c:m < 2 * 1
  .exact .inl (awd _ c).1
  .rw[awe _ c];refine .inr #[rfl,λj hj z=>(apI.mp hj).2 ?_,by show 1 + _=_;lia,c];have:(j:Int)=i:=by simpa using z
   lia
 let wa f ra a1 a2 a3:=ay7 (m:=m) i r.te (nz i m) w1 [] ate (λj hj=>by
  let hj arQ:=apI.mp hj;let x hx:=awg h hj;exact#[x,[e1,aoZ arQ]^^hx,ho j x arQ hx]) e2 f_
 have ha:=ra.steps.al b_ h1;rw[Wk]at a3;have awh:wa.ms[i]?\r:=by rw[a1 i λz=>(apI.mp z).2 rfl];exact AD
 let wb s2 rb b1 b2 b3 b4 b5:=ay9 (m:=m) i r.te b_ f (nz i m) wa r ate a3 b_ awh rfl rr;have hb:=rb.steps.al b_ ha;have hx:∀(k:Nat) (x:MS),k≠i->wb.ms[k]?\x->x.te=s2.te/\x.o < s2.te:=λk x hk hx=>by
  have km:=azf hb hx;rw[b5 k hk]at hx;let y y' p1 p2 p3 p4:=a2 k (apI.mpr #[km,hk]);rw[p2]at hx;cases hx;rw[e1,aoZ hk]at p1;have:=ho k y hk p1;have:=(h.jw.ms k y p1).ot;rw[b3];exact#[p3,by lia]
 refine#[wb,s2,#[wa,by rw[e2,a3];simp;lia, ?_, ?_],b1,b2,b4,aEi hb b2 b4 λk x q=> ?_,hx]
 .rw[e2];simpa using ra
 .rw[a3,nI];lk
 .by_cases c:k=i
  .subst c;rw[b2]at q;cases q;exact rB _
  .exact Int.le_of_eq (hx k x c q).1
theorem azg(hm:m<=30)(h:AN m w W)(hi:i < m){l:oH eN}(st:Step m w w1)(e1:w1.ms=w.ms.set i s)(e2:w1.way=keeps m i s)(hr:s.role="leads")(ht:s.te=t)(hn:nz i m= []->s.dn=-s.L)
  {s0:MS} (aEm:w.ms[i]?\s0) (ho:∀(k:Nat) (x:MS),k≠i->w.ms[k]?\x->x.te=t/\(x.o < t\/x.o=t/\x.L=s.L)):
  ∃w2 s2,aob m "keep" "kept" (2 * m) w1 w2/\w2.way= []/\w2.ms[i]?\s2/\s2.role="leads"/\s2.te=t/\s2.L=s.L/\s2.dn=-s.L/\∀(k:Nat) (x:MS),k≠i->w2.ms[k]?\x->x.te=t/\x.o=t/\x.L=s.L/\(s.dn=-s.L->(∀(k:Nat) (x:MS),k≠i->w.ms[k]?\x->x.L=s.L)->x.dn=-s.L):=by
 have lo:=awf hi;have h1:=st.al b_ h;have AD:w1.ms[i]?\s:=e1^^aoa aEm
 have e2:w1.way=(nz i m).map (λj:Nat=>eN.keep i j t s.L s.dn)++ []:=by rw[e2,nM, <- ht];rfl
 let wa ra a1 a2 a3:=aza (m:=m) i t s.L s.dn (nz i m) w1 [] ate (λj hj=>by
  let hj arQ:=apI.mp hj;let x hx:=awg h hj;exact#[x,[e1,aoZ arQ]^^hx,ho j x arQ hx]) e2 f_
 have ha:=ra.steps.al b_ h1;rw[Wk]at a3;have awh:wa.ms[i]?\s:=by rw[a1 i λz=>(apI.mp z).2 rfl];exact AD
 let wb s2 rb b1 b2 b3 b4 b5 b6 b7:=aze (m:=m) b_ hi (-s.L) (nz i m) wa s ha ate (λ_ h=>h) a3 b_ awh hr ht rfl (λj h1 h2=>absurd h1 h2) hn;refine#[wb,s2,#[wa,by rw[e2,a3];simp;lia, ?_, ?_],b1,b2,b3,b4,b5,b6,λk x hk hx=> ?_]
 .rw[e2];simpa using ra
 .rw[a3,nI];lk
 .have hb:=rb.steps.al b_ ha;have km:=azf hb hx;rw[b7 k hk]at hx;let y y' p1 p2 p3 p4 p5 p6:=a2 k (apI.mpr #[km,hk]);rw[p2]at hx;cases hx;refine#[p3,p4,p5,λe al=>p6 e ?_];have dl:=(h1.kz.ms k y p1).dl;rw[e1,aoZ hk]at p1;rw[al k y hk p1]at dl;lk
end
end WM
namespace K84
open PySem L2 VL WM
variable [nc K C]
theorem afD(cs:oH Int)(k:Nat):∃c:Int,EI K C [qI cs,iD k]\iD c:=by
 by_cases h:k < -cs
 .exact#[cs[k],by simp[EI,EH,qI,h,bD,bV,ar,af,fW,gv,iO,mq,gC,aN,ay,aW,kJ,jh,eP,au,VL.plain,gm,jg,kT,rQ]]
 .exact#[0,by simp[EI,EH,qI,h,bD,bV,ar,af,fW,gv,iO,mq,gC,aN,ay,aW,kJ,eP,au,gm,jg,kT,rQ]]
theorem Uj(c k:Int)(hk:0<=k/\k < 2 ^ 30):∃m:Int,0<=m/\m < 1999999973/\La K C [iD c,iD k]\iD m:=by
 let m:=((c % 2147483629 + k * k * 7919 + 11) * 48271 % 2147483647)
 have hm:0<=m/\m < 2147483647:=#[ar0 _ a_,nW _ a_]
 refine#[m * m % 1999999973,ar0 _ a_,nW _ a_, ?_];have k1: -18446744073709551616 < k/\k < 18446744073709551616:=b_
 have m1: -18446744073709551616 < m/\m < 18446744073709551616:=b_
 have m2: -18446744073709551616 < (c % 2147483629 + k * k * 7919 + 11) * 48271 % 2147483647/\(c % 2147483629 + k * k * 7919 + 11) * 48271 % 2147483647 < 18446744073709551616:=m1;simp[La,K9,k1,m2,m,i5,gx,dU,bD,bq,bV,af,intD,au,jg,kT,rQ,mM,t9,ud,ue]
theorem afE(c m:Int)(hm:0 < m)(h2:m < 2 ^ 200):Bp K C [.nd .lst [iD c],iD m]\(iD (c % m), [.nd .lst [iD (c / m)]]):=by
 have h3:m < 1606938044258990275541962092341162602522202993782792835301376:=h2;simp[Bp,KG,oX,hm,h3,gP,lN,dU,bD,bq,dG,ar,af,fW,fV,kW,aa,gv,iO,intD,bW,mq,gC,aN,ay,aW,kJ,jh,eP,lO,kr,eM,au,bU,i0,aT,VL.plain,oV,eT,fO,jg,aV,kT,rT,oU,aZ,rQ,oq,t9,uc,ud,ue,uf]
theorem aEn(c r m:Int)(hm:0 < m)(h2:m < 2 ^ 200):∃d l,0<=d/\d < m/\(∃x y,l= [iD x]\/l= [iD x,iD y])/\Bp K C [.nd .lst [iD c,iD r],iD m]\(iD d, [.nd .lst l]):=by
 have h3:m < 1606938044258990275541962092341162602522202993782792835301376:=h2;by_cases h:c=0
 .subst h;refine#[r % m, [iD (r / m)],ar0 _ b_,nW _ hm,#[_,0, .inl rfl], ?_];simp[Bp,KG,oX,hm,h3,gP,lN,dU,bD,bq,dG,ar,af,fW,fV,kW,aa,gv,iO,intD,bW,mq,gC,aN,ay,aW,kJ,jh,eP,lO,kr,eM,au,bU,i0,aT,VL.plain,oV,eT,fO,jg,aV,kT,rT,oU,aZ,rQ,oq,t9,uc,ud,ue,uf]
 .refine#[c % m, [iD (c / m),iD r],ar0 _ b_,nW _ hm,#[_,_, .inr rfl], ?_];simp[Bp,KG,oX,hm,h3,h,gP,lN,dU,bD,bq,dG,ar,af,fW,fV,kW,aa,gv,iO,intD,bW,mq,gC,aN,ay,aW,kJ,jh,eP,lO,kr,eM,au,bU,i0,aT,VL.plain,oV,eT,fO,jg,aV,kT,rT,oU,aZ,rQ,oq,t9,uc,ud,ue,uf]
theorem azh(c:Int)(k:Nat)(hk:k < 2 ^ 20):∃r:Int,aqi K C [iD c,iD k]\iD r:=by
 have key:∃d,aqi K C [iD c,iD k]\d/\∃r,d=iD r:=by
  rw[aqi,avn];dsimp only;refine Rg (Ev.nx (ρ':= [k_ (iD c),k_ (iD k),j_ (iD 0),oM]) (by simp[ug,dU,bq,t9,ud,ue]) (Ev.seq ?_));refine Ev.for (ds:=iQ 0 12) (by simp[tZ,ar]) (λρ=>∃(nu:Int) (x:oT B),NA x/\ρ= [k_ (iD c),k_ (iD k),j_ (iD nu),x]) #[0,oM,(λ_ _ h=>by lk),rfl] ?_ ?_
  .rintro d hd ρ ⟨nu,x,hx,rfl⟩;let j hj rfl:=abm hd;let m1 a1 a2 e1:=Uj (K:=K) (C:=C) c (k + 20 * j) b_;let m2 b1 b2 e2:=Uj (K:=K) (C:=C) m1 j b_;have z:(0:Int) + j=j:=Int.zero_add _;rw[z];simp[Ev,abj hx,e1,e2,i5,gx,dU,bD,bq,ar,af,intD,kr,au,jg,mM,t9,uc,ud];exact(λ_ _ h=>by cases h)
  .rintro ρ ⟨nu,x,hx,rfl⟩;simp[Ev,bD,af,kr,VL.plain,jg]
 let d e r rfl:=key;exact#[r,e]
theorem azi(cs:oH Int)(k:Nat)(hk:k < 2 ^ 20):∃l:oH D,Lp l/\uu K C [qI cs,iD k]\.nd .lst l:=by
 let c e1:=afD (K:=K) (C:=C) cs k;let r e2:=azh (K:=K) (C:=C) c k hk;by_cases h:1000000000000000000<=c
 .refine#[[iD c,iD r],#[c,r, .inr rfl], ?_];simp[uu,Lb,e1,e2,h,dU,bD,bq,bV,ar,eJ,af,gv,iO,intD,ju,kr,au,VL.plain,jg,kT,rQ,qk,t9,ud,ue,CV]
 .refine#[[iD r],#[r,0, .inl rfl], ?_];simp[uu,Lb,e1,e2,h,dU,bD,bq,bV,ar,eJ,af,gv,iO,intD,ju,kr,au,jg,kT,rQ,qk,t9,ud,ue,apu]
theorem anD(l:oH D)(hl:Lp l)(m:Int)(hm:0 < m)(h2:m < 2 ^ 200):∃(d:Int) (l':oH D),0<=d/\d < m/\Lp l'/\Bp K C [.nd .lst l,iD m]\(iD d, [.nd .lst l']):=by
 obtain⟨x,y,rfl | rfl⟩:=hl
 .exact#[_,_,ar0 _ b_,nW _ hm,#[_,0, .inl rfl],afE x m hm h2]
 .obtain⟨d,l,a,b,⟨p,q,e⟩,g⟩:=aEn (K:=K) (C:=C) x y m hm h2;exact#[d,l,a,b,#[p,q,e],g]
section
variable [Pn]
def eC(words:D)(whole:Bool)(x4:oT B)(k:Int)(x6:oT B)(W:D)(l:oH D):En:= [!.aB 7 [],!.aB 8 [],k_ words,k_ (tD whole),x4,j_ (iD k),x6,j_ W,j_ (.nd .lst l)]
def awi(K:ah)(C:zI)[nc K C]:En->oT (Bool×En):=(VL.andM (λρ=>aX (λb=>(b,ρ)) ((au (iO λi j=>V.bl (decide (i < j))) (af 5) (λρ=>(ar (au (aW ay aN) (af 0) λx=>oF (D.sc (V.str (ae "way")))) (λx=>oF []) ρ).bind eP) ρ).bind λx=>match x with | D.sc (V.bl b)=>oF b | x=>oM)) (VL.andM (λρ=>aX (λb=>(b,ρ)) ((au (λa b=>aX (λb=>D.sc (V.bl b)) (aqC a b)) (au (aW ay aN) (au (aW ay aN) (au (aW ay aN) (af 0) λx=>oF (D.sc (V.str (ae "way")))) (af 5)) λx=>oF (D.sc (V.int 0))) (af 2) ρ).bind λx=>match x with | D.sc (V.bl b)=>oF b | x=>oM)) (VL.orM (λρ=>aX (λb=>(b,ρ)) ((af 3 ρ).bind λx=>match x with | D.sc (V.bl b)=>oF b | x=>oM)) (ku (hZ (iO λi j=>V.bl (decide (j < i))) (λρ=>(aX (λa=>(a,ρ)) (gn (aT 1) (mr (λx=>oF (D.sc (V.int 4))) λx=>oF []) ρ)).bind λa=>fL (Bp K C) a.fst a.snd) λρ=>aX (λd=>(d,ρ)) (!D.sc (V.int 0)))))))
def aEo(K:ah)(C:zI)[nc K C]:En->oT Fl:=(ik λρ=>(aX (λa=>(a,ρ)) (gn (aT 0) (fB (aT 5) (mr (λx=>oF (D.sc (V.bl yv))) λx=>oF [])) ρ)).bind λa=>fL (aqn K C) a.fst a.snd)
def azj:En->oT Fl:=(dU 5 λρ=>aX (λd=>(d,ρ)) (au gx (af 5) (λx=>oF (D.sc (V.int 1))) ρ))
theorem aEp(g:eN)(a b:Str):∃c,aqC (sD g.word) (.nd .tup [sD a,sD b])\c/\(g.word=a\/g.word=b->c=oP):=by
 refine#[tH (.str g.word) [.str a, .str b], ?_,λh=> ?_]
 .simp[aqC,kZ,g7]
 .rcases h with h | h <;> simp[tH,pE,h]
theorem aEq(g:eN):aW ay aN (cx g) (.sc (.int 0))\sD g.word:=by
 cases g <;> simp[cx,eN.word,mq,gC,ay,aW,jh]
theorem aEr{words W d:D}{whole:Bool}{k:Int}(h4:NA x4)(h6:NA x6)(e:GP [.nd .lst l,iD 4]\(d, [.nd .lst l'])):
  ((aX (λa=>(a,eC words whole x4 k x6 W l)) (gn (aT 1) (mr (λx=>oF (D.sc (V.int 4))) λx=>oF []) (eC words whole x4 k x6 W l))).bind λa=>fL GP a.fst a.snd)\(d,eC words whole x4 k x6 W l'):=by
 unfold eC;simp[e,abk h4,abk h6,abC,kX,mY,gG,cT,gn,mr,fL,j3,aa,gg,aT,eT,akS,akT,g9,aV,jF,kY,aZ]
theorem aEs(m:Nat)(w:cz)(h:Ww m w)(a b:Str)(whole:Bool)(x4 x6:oT B)(h4:NA x4)(h6:NA x6)(k:Nat)(l:oH D)(hl:Lp l):∃(c:Bool) (l':oH D),Lp l'/\(c=oP->k < -w.way)/\(whole=oP->l'=l/\∀g r,k=0->w.way=g::r->(g.word=a\/g.word=b)->c=oP)/\awi K C (eC (.nd .tup [sD a,sD b]) whole x4 k x6 (wD C m w) l)\(c,eC (.nd .tup [sD a,sD b]) whole x4 k x6 (wD C m w) l'):=by
 have W0:wD C m w= .nd (.aO gD) [.nd pk (eg C m w.ms), .nd .lst (w.way.map cx), .nd .lst (w.aq.map Uy),iD w.rows]:=rfl;have dw:eP [.nd .lst (w.way.map cx)]\iD (-w.way):=by simp[eP]
 rw[awi];by_cases c1:k < -w.way
 .obtain⟨g,hk⟩:∃g,w.way[k]?\g:=#[_,dH c1]
  let k1 k2:=ayD hk;have hw:=aEq g;let c2 e2 y2:=aEp g a b;have hi:aW ay aN (.nd .lst (w.way.map cx)) (iD k)\cx g:=by
   show(ay _ _).bind _=_;rw[k1];lk
  have s1:∀(F:En->oT (Bool×En)),VL.andM ((λρ=>aX (λb=>(b,ρ)) ((au (iO λi j=>V.bl (decide (i < j))) (af 5) (λρ=>(ar (au (aW ay aN) (af 0) λx=>oF (D.sc (V.str (ae "way")))) (λx=>oF []) ρ).bind eP) ρ).bind λx=>match x with | D.sc (V.bl b)=>oF b | x=>oM))) F (eC (.nd .tup [sD a,sD b]) whole x4 k x6 (wD C m w) l)=F (eC (.nd .tup [sD a,sD b]) whole x4 k x6 (wD C m w) l):=λF=>Uw (ρ1:=eC (.nd .tup [sD a,sD b]) whole x4 k x6 (wD C m w) l) (by
   rw[eC];rw[W0];generalize w.way.map cx=wy at *;simp[aop,dw,c1,bD,ar,af,aa,iO,aN,aW,jh,au,aV]) rfl
  rw[s1];have s2:((λρ=>aX (λb=>(b,ρ)) ((au (λa b=>aX (λb=>D.sc (V.bl b)) (aqC a b)) (au (aW ay aN) (au (aW ay aN) (au (aW ay aN) (af 0) λx=>oF (D.sc (V.str (ae "way")))) (af 5)) λx=>oF (D.sc (V.int 0))) (af 2) ρ).bind λx=>match x with | D.sc (V.bl b)=>oF b | x=>oM))) (eC (.nd .tup [sD a,sD b]) whole x4 k x6 (wD C m w) l)\(c2,eC (.nd .tup [sD a,sD b]) whole x4 k x6 (wD C m w) l):=by
   rw[eC];rw[W0];generalize w.way.map cx=wy at *;generalize cx g=gd at *;generalize (D.nd Kd.tup [sD a,sD b])=wd at *;have aEt:∀a b c d:D,aW ay aN (.nd (.aO gD) [a,b,c,d]) (.sc (.str "way"))\b:=λa b c d=>by
    show(ay (.nd (.aO gD) [a,b,c,d]) (.sc (.str "way"))).bind (jh (.nd (.aO gD) [a,b,c,d]))\b;rw[aop];rfl
   simp[aEt,hi,hw,e2,bD,af,aa,au,aV]
  cases c2 with
  |false=>exact#[yv,l,hl,(λz=>nomatch z),(λ_=>#[rfl,λg' r e1 e2 y=>by subst e1;rw[e2]at hk;cases hk;exact y2 y]),afZ s2]
  |true=>
   cases whole with
   |true=>exact#[oP,l,hl,λ_=>c1,(λ_=>#[rfl,λ_ _ _ _ _=>rfl]),Uw s2 (ayI (by rw[eC];simp[bD,af]))]
   |false=>
    let d l' a1 b1 oz e3:=anD (K:=K) (C:=C) l hl 4 a_ a_;have p:=aEr (words:= .nd .tup [sD a,sD b]) (whole:=yv) (W:=wD C m w) (k:=k) h4 h6 e3;exact#[decide (0 < d),l',oz,λ_=>c1,(λz=>nomatch z),Uw s2 (av8 (ρ1:=eC (.nd .tup [sD a,sD b]) yv x4 k x6 (wD C m w) l) (by rw[eC];simp[bD,af]) (IP (j7 p rfl rfl)))]
 .refine#[yv,l,hl,(λz=>nomatch z),(λ_=>#[rfl,λg r e1 e2 _=>by subst e1;rw[e2]at c1;exact absurd (V3 _) c1]),afZ ?_];rw[eC];rw[W0];generalize w.way.map cx=wy at *;simp[aop,dw,c1,bD,ar,af,aa,iO,aN,aW,jh,au,aV]
theorem aEu(h4:NA x4)(h6:NA x6)(e:GH [W,iD k,tD yv]\(.sc .aG, [W'])):((ik λρ=>(aX (λa=>(a,ρ)) (gn (aT 0) (fB (aT 5) (mr (λx=>oF (D.sc (V.bl yv))) λx=>oF [])) ρ)).bind λa=>fL GH a.fst a.snd)) (eC words whole x4 k x6 W l)\.nx (eC words whole x4 k x6 W' l):=by
 unfold eC;simp[e,abk h4,abk h6,abC,kX,mY,gG,cT,gn,fB,mr,fL,ik,j3,aa,gg,nT,aT,VL.plain,eT,akS,akT,g9,aV,jF,kY,aZ]
theorem aEv(m:Nat)(h0:0 < m)(hm:m < 40)(w:cz)(h:Ww m w)(hz:-w.aq < 600)(a b:Str)(whole:Bool)(x4 x6:oT B)(h4:NA x4)(h6:NA x6)(k:Nat)(l:oH D)(hl:Lp l):
  ∃(w':cz) (k':Nat) (l':oH D),Lp l'/\Ww m w'/\xk m w w'/\-w'.aq<=-w.aq + 1/\(whole=oP->l'=l/\∀(g:eN) (r:oH eN) (i:Nat) (s:MS),k=0->w.way=g::r->(g.word=a\/g.word=b)->g.to=i->w.ms[i]?\s->k'=0/\w'=w.told yv 0 g i m s)/\gv (awi K C) (aEo K C) azj (eC (.nd .tup [sD a,sD b]) whole x4 k x6 (wD C m w) l)\(.nx (eC (.nd .tup [sD a,sD b]) whole x4 k' x6 (wD C m w') l')):=by
 let c l' oz hc hy ec:=aEs (K:=K) (C:=C) m w h a b whole x4 x6 h4 h6 k l hl;cases c with
 |true=>
  have hk:=dH (hc rfl);generalize w.way[k]'(hc rfl)=g at hk;have mg:=h.way g (jr hk);have t0:=mg.t0;have t1:=mg.t1;obtain⟨i,hi⟩:∃i:Nat,g.to=i:=#[g.to.toNat,by lia]
  have apC:i < -w.ms:=by rw[h.n];lia
  have hs:=dH apC;generalize w.ms[i]'apC=s at hs;have eh:=ayE (K:=K) (C:=C) m w h hz h0 hm k yv g hk i s hi hs;refine#[w.told yv k g i m s,k,l',oz,h.told hm hk hs, .one (.ef w yv k g i s hk hi hs),av2^^bO _,(λz=>#[(hy z).1,λg' r i' s' e1 e2 _ e3 e4=>by
   subst e1;rw[e2]at hk;cases hk;have:i'=i:=by rw[hi]at e3;lia
   subst this;rw[hs]at e4;cases e4;exact#[rfl,rfl]]),mB ec ?_]
  rw[zJ rfl];exact aEu h4 h6 eh
 |false=>
  refine#[w,k + 1,l',oz,h, .refl _,by lia,(λz=>#[(hy z).1,λg r i s e1 e2 e3 _ _=>nomatch (hy z).2 g r e1 e2 e3]),mB ec ?_];rw[zK df];unfold azj eC;generalize wD C m w=WW;simp[abj h4,abj h6,gx,dU,bD,bq,af,au,t9,uc,ud,uf]
theorem atf(m:Nat)(h0:0 < m)(hm:m < 40)(w:cz)(h:Ww m w)(hz:-w.aq<=470)(a b:Str)(whole:Bool)(l:oH D)(hl:Lp l):
  ∃(w':cz) (l':oH D),Lp l'/\Ww m w'/\xk m w w'/\-w'.aq<=-w.aq + 120/\(whole=oP->∀w2,aqz m a b 2 w w2->w'=w2)/\arB K C [wD C m w, .nd .lst l, .nd .tup [sD a,sD b],tD whole]\(.sc .aG, [wD C m w', .nd .lst l']):=by
 have key:∃d o,arB K C [wD C m w, .nd .lst l, .nd .tup [sD a,sD b],tD whole]\(d,o)/\∃(w':cz) (l':oH D),Lp l'/\Ww m w'/\xk m w w'/\-w'.aq<=-w.aq + 120/\(whole=oP->∀w2,aqz m a b 2 w w2->w'=w2)/\d= .sc .aG/\o= [wD C m w', .nd .lst l']:=by
  rw[arB,avz];dsimp only;have e0:kW 7 [oP,oP,yv,yv] [wD C m w, .nd .lst l, .nd .tup [sD a,sD b],tD whole]= [!.aB 7 [],!.aB 8 [],k_ (.nd .tup [sD a,sD b]),k_ (tD whole),oM,oM,oM,j_ (wD C m w),j_ (.nd .lst l)]:=by
   generalize wD C m w=WW;simp[ug,kW,bW,bU,i0]
  refine as7 ?_;rw[e0];refine Ev.aui (m:=2) (ak.mpr #[[iD 2],rfl,apv 2 a_]) (λj ρ=>∃(w1:cz) (l1:oH D) (x4 x5 x6:oT B),Lp l1/\Ww m w1/\xk m w w1/\-w1.aq<=-w.aq + 60 * j/\(whole=oP->∀w2,aqz m a b 2 w w2->aqz m a b (2 - j) w1 w2)/\NA x4/\NA x5/\NA x6/\ρ= [!.aB 7 [],!.aB 8 [],k_ (.nd .tup [sD a,sD b]),k_ (tD whole),x4,x5,x6,j_ (wD C m w1),j_ (.nd .lst l1)]) #[w,l,oM,oM,oM,hl,h, .refl _,by lia,(λ_ _ z=>z),i6,i6,i6,rfl] ?_ ?_
  .rintro j hj ρ ⟨w1,l1,x4,x5,x6,akr,tR,bQ,pJ,hx,h4,h5,h6,rfl⟩;refine#[[!.aB 7 [],!.aB 8 [],k_ (.nd .tup [sD a,sD b]),k_ (tD whole),k_ (iD j),x5,x6,j_ (wD C m w1),j_ (.nd .lst l1)],by
    generalize wD C m w1=WW;simp[abj h4,abj h5,abj h6,bq,t9,uc,ud,uf], ?_]
   refine Ev.nx (ρ':=eC (.nd .tup [sD a,sD b]) whole (!.ro (iD j)) (0:Nat) x6 (wD C m w1) l1) (by
    rw[eC];generalize wD C m w1=WW;simp[abj h5,abj h6,dU,bq,t9,uc,ud,uf]) ?_
   have dw:eP [.nd .lst (w1.way.map cx)]\iD (-w1.way):=by simp[eP]
   have hf:=tR.G3;refine Ev.aui (m:=-w1.way) (ak.mpr #[[iD (-w1.way)], ?_,apv _ b_]) (λq ρ=>∃(w2:cz) (k:Nat) (l2:oH D) (x6:oT B),Lp l2/\Ww m w2/\xk m w w2/\-w2.aq<=-w1.aq + q/\(whole=oP->∀wA,Rd m a b (-w1.way) w1 wA->k=0/\Rd m a b (-w1.way - q) w2 wA)/\NA x6/\ρ=eC (.nd .tup [sD a,sD b]) whole (!.ro (iD j)) k x6 (wD C m w2) l2) #[w1,0,l1,x6,akr,tR,bQ,by lia,(λ_ _ z=>#[rfl,z]),h6,rfl] ?_ ?_
   .have W0:wD C m w1= .nd (.aO gD) [.nd pk (eg C m w1.ms), .nd .lst (w1.way.map cx), .nd .lst (w1.aq.map Uy),iD w1.rows]:=rfl;rw[eC];rw[W0];generalize w1.way.map cx=wy at *;simp[aop,dw,bD,ar,af,aa,aN,aW,jh,au,aV]
   .rintro q hq ρ ⟨w2,k,l2,x6,rC,ahc,dJ,xO,hy,h6,rfl⟩;let w3 k3 l3 N1 atg gZ aIn aEw e3:=aEv (K:=K) (C:=C) m h0 hm w2 ahc b_ a b whole (!.ro (iD j)) (!.ro (iD q)) dO dO k l2 rC;refine#[eC (.nd .tup [sD a,sD b]) whole (!.ro (iD j)) k (!.ro (iD q)) (wD C m w2) l2,by
     unfold eC;generalize wD C m w2=WW;simp[abj h6,bq,t9,uc,ud,uf],_,e3,w3,k3,l3,_,N1,atg,dJ.trans gZ,by lia,(λz wA hA=>by
     let k0 r:=hy z wA hA;rw[asp (k:=-w1.way) (j:=q) (by lk)]at r;cases r with
     |cons e1 e2 e3 e4 r=>
      let k1 e5:=(aEw z).2 _ _ _ _ k0 e1 e2 e3 e4;rw[e5];exact#[k1,r]),dO,rfl]
   .rintro ρ ⟨w2,k,l2,x6,rC,ahc,dJ,xO,hy,h6,rfl⟩;exact#[w2,l2,_,_,_,rC,ahc,dJ,by lia,(λz wB hB=>by
     have c:=hx z wB hB;rw[asp (k:=2) (j:=j) (by lk)]at c;let wA r c:=c;have r2:=(hy z wA r).2;rw[kj]at r2;cases r2;lk),dO,cZ,h6,rfl]
  .rintro ρ ⟨w1,l1,x4,x5,x6,akr,tR,bQ,pJ,hx,h4,h5,h6,rfl⟩;exact#[[wD C m w1, .nd .lst l1],by generalize wD C m w1=WW;simp[gP],w1,l1,akr,tR,bQ,by lia,(λz w2 c=>hx z w2 c),rfl,rfl]
 let d o e w' l' h1 h2 h3 h4 h5 rfl rfl:=key;exact#[w',l',h1,h2,h3,h4,h5,e]
theorem ath(m:Nat)(ms:oH MS):eg C m ms=ms.zipIdx.map λp=>d5 C m p.2 p.1:=by
 refine aBz λj=> ?_;rw[eg];rw[atA,bJ,List.getElem?_zipIdx];cases ms[j]? with
 |none=>rfl
 |some s=>simp
noncomputable def y8 (ms:oH MS):oH (Int×Int):=(ms.zipIdx.filter λp=>decide (p.1.role=("leads":Str))).map λp=>(p.1.te,(p.2:Int))
theorem aEx(h:p∈y8 ms):0<=p.2/\p.2 < -ms:=by
 let q hq rfl:=gY.mp h;have:=(Cc.mp hq).1;have:=List.snd_lt_of_mem_zipIdx this
 constructor
 .exact atz _
 .show((q.2:Int) < -ms);lia
theorem awj:∀(ps:oH (Int×Int)) (b:Int×Int),aiZ b ps=b\/aiZ b ps∈ps
 | [],b=> .inl rfl
 |p::ps,b=>by
  have e:aiZ b (p::ps)=aiZ (if alI p.1 p.2 b.1 b.2=oP then p else b) ps:=rfl;rw[e]
  split
  .rcases awj ps p with h | h
   .rw[h];exact .inr (.head _)
   .exact .inr (.tail _ h)
  .rcases awj ps b with h | h
   .exact .inl h
   .exact .inr (.tail _ h)
theorem azk:∀(ps:oH (Int×Int)),pairsOf (ps.map pairD)\ps
 | []=>rfl
 |p::ps=>by
  rw[cP,pairsOf,azk ps];rfl
theorem aEy(p:Int×Int):Ex 1 (pairD p):= .tup 0 _ λd hd=>by
 simp[bL,dh,or_false]at hd;rcases hd with rfl | rfl
 .exact .int _ _
 .exact .int _ _
noncomputable def eQ (W M X:D) (l:oH D):En:= [k_ W,!.aB 4 [],k_ M,j_ X,j_ (.nd .lst l)]
theorem aEz(m:Nat)(w:cz)(h:Ww m w)(hm:m < 40)(l:oH D):(iJ 4 [oM] [0] (λρ=>(af 2 ρ).bind fP) (λd ρ=>oF (bq 0 (B.ro d) ρ)) (λρ=>(au (dN id) (λρ=>(af 0 ρ).bind (ji (ae "role"))) (λx=>oF (D.sc (V.str (ae "leads")))) ρ).bind λx=>match x with | D.sc (V.bl b)=>oF b | x=>oM) (d7 Kd.tup (ar (gJ λρ=>(af 0 ρ).bind (ji (ae "term"))) (ar (gJ λρ=>(af 0 ρ).bind (ji (ae "number"))) λx=>oF [])))) [k_ (wD C m w),!.aB 4 [],k_ (.nd pk (eg C m w.ms)),oM,j_ (.nd .lst l)]\.nd .lst ((y8 w.ms).map pairD):=by
 have e:=qD (n:=4) (js:= [oM]) (is:= [0]) (fi:=(λρ=>(af 2 ρ).bind fP)) (fg:=(λd ρ=>oF (bq 0 (B.ro d) ρ))) (ft:=(λρ=>(au (dN id) (λρ=>(af 0 ρ).bind (ji (ae "role"))) (λx=>oF (D.sc (V.str (ae "leads")))) ρ).bind λx=>match x with | D.sc (V.bl b)=>oF b | x=>oM)) (fe:=(d7 Kd.tup (ar (gJ λρ=>(af 0 ρ).bind (ji (ae "term"))) (ar (gJ λρ=>(af 0 ρ).bind (ji (ae "number"))) λx=>oF [])))) (ρ:= [k_ (wD C m w),!.aB 4 [],k_ (.nd pk (eg C m w.ms)),oM,j_ (.nd .lst l)]) w.ms.zipIdx (λp=>d5 C m p.2 p.1) (λp=>decide (p.1.role=("leads":Str))) (λp=>pairD (p.1.te,(p.2:Int))) ?_ ([awY,h.n]^^eK (by lia:m<=100) a_) rfl ?_
 .rw[e];rw[y8];rw[mJ];rfl
 .rw[<- ath];generalize wD C m w=WW;generalize eg C m w.ms=MM;simp[bD,af,fP]
 .intro p hp;have hs:p.1∈w.ms:=by
   let s i:=p;exact(List.mem_zipIdx' hp).2▸Co _
  have wr:=(h.ms p.1 hs).wf.role;have he:=Ea p.1.role "leads" (arI wr) c_;have f1:ji "role" (d5 C m p.2 p.1)\sD p.1.role:=aso _ _ _ _ _ _ _ _ _;have f2:ji "term" (d5 C m p.2 p.1)\iD p.1.te:=arc _ _ _ _ _ _ _ _ _;have f3:ji "number" (d5 C m p.2 p.1)\iD p.2:=apz _ _ _ _ _ _ _ _ _;generalize d5 C m p.2 p.1=M at *;simp[he,f1,f2,f3,pairD,bD,bq,gH,ar,af,d7,au,VL.plain,gJ,t9,ue,CV]
theorem azl(hf:fl (eQ W M X l)\z)(e:GP [.nd .lst l,z]\(d, [.nd .lst l'])):
  ((aX (λa=>(a,eQ W M X l)) (gn (aT 1) (mr fl λx=>oF []) (eQ W M X l))).bind λa=>fL GP a.fst a.snd)\(d,eQ W M X l'):=by
 unfold eQ at *;simp[hf,e,abC,kX,mY,gG,cT,gn,mr,fL,j3,aa,gg,aT,eT,akS,akT,g9,aV,jF,kY,aZ]
theorem azm(m:Nat)(h0:0 < m)(hm:m < 40)(w:cz)(h:Ww m w)(l:oH D)(hl:Lp l):∃(i:Nat) (l':oH D),i < m/\Lp l'/\asD K C [wD C m w, .nd .lst l]\(iD i, [.nd .lst l']):=by
 have awk:=aEz (C:=C) m w h hm l;have e0:kW 4 [yv,oP] [wD C m w, .nd .lst l]= [k_ (wD C m w),!.aB 4 [],oM,oM,j_ (.nd .lst l)]:=by
  generalize wD C m w=WW;simp[ug,kW,bW,bU,i0]
 have W0:wD C m w= .nd (.aO gD) [.nd pk (eg C m w.ms), .nd .lst (w.way.map cx), .nd .lst (w.aq.map Uy),iD w.rows]:=rfl;let c hc AF:=Ex.eq (Ex.lst 1 ((y8 w.ms).map pairD) λd hd=>by
  let p _ rfl:=gY.mp hd;exact aEy p) (Ex.lst 0 [] λ_ h=>nomatch h) a_ a_ id
 have s1:gV 2 (dF ay (aT 0) λx=>oF (D.sc (V.str (ae "masters")))) [k_ (wD C m w),!.aB 4 [],oM,oM,j_ (.nd .lst l)]\(.nx [k_ (wD C m w),!.aB 4 [],k_ (.nd pk (eg C m w.ms)),oM,j_ (.nd .lst l)]):=by
  have pl:=aoW (C:=C) h.n h0;rw[W0];simp[pl,aoV,gV,bq,dF,jh,nT,oC,aT,VL.plain,aV,t9,uc,ud,ue,uf]
 have s2:(dU 3 λρ=>aX (λd=>(d,ρ)) ((iJ 4 [oM] [0] (λρ=>(af 2 ρ).bind fP) (λd ρ=>oF (bq 0 (B.ro d) ρ)) (λρ=>(au (dN id) (λρ=>(af 0 ρ).bind (ji (ae "role"))) (λx=>oF (D.sc (V.str (ae "leads")))) ρ).bind λx=>match x with | D.sc (V.bl b)=>oF b | x=>oM) (d7 Kd.tup (ar (gJ λρ=>(af 0 ρ).bind (ji (ae "term"))) (ar (gJ λρ=>(af 0 ρ).bind (ji (ae "number"))) λx=>oF [])))) ρ)) [k_ (wD C m w),!.aB 4 [],k_ (.nd pk (eg C m w.ms)),oM,j_ (.nd .lst l)]\.nx (eQ (wD C m w) (.nd pk (eg C m w.ms)) (.nd .lst ((y8 w.ms).map pairD)) l):=eW (e9 awk) (by
  rw[eQ];generalize wD C m w=WW;generalize eg C m w.ms=MM;generalize (y8 w.ms).map pairD=XX;simp[bq,t9,uc,ud,ue,uf])
 have acL:eP [.nd pk (eg C m w.ms)]\iD m:=by simp[eP,aqw,h.n]
 have azn:∀l,Lp l->∃(i:Nat) (l':oH D),i < m/\Lp l'/\((aX (λa=>(a,eQ (wD C m w) (.nd pk (eg C m w.ms)) (.nd .lst ((y8 w.ms).map pairD)) l)) (gn (aT 1) (mr (λρ=>(ar (af 2) (λx=>oF []) ρ).bind eP) λx=>oF []) (eQ (wD C m w) (.nd pk (eg C m w.ms)) (.nd .lst ((y8 w.ms).map pairD)) l))).bind λa=>fL (Bp K C) a.fst a.snd)\(iD i,eQ (wD C m w) (.nd pk (eg C m w.ms)) (.nd .lst ((y8 w.ms).map pairD)) l'):=λl hl=>by
  let d l' a1 b1 oz e1:=anD (K:=K) (C:=C) l hl (m:Int) b_ (awZ (b:=40) b_ a_);obtain⟨i,rfl⟩:∃i:Nat,d=i:=#[d.toNat,by lia]
  refine#[i,l',by lia,oz,azl ?_ e1];rw[eQ];generalize eg C m w.ms=MM at *;generalize (y8 w.ms).map pairD=XX;simp[acL,bD,ar,af]
 have key:∃d o,asD K C [wD C m w, .nd .lst l]\(d,o)/\∃(i:Nat) (l':oH D),i < m/\Lp l'/\d=iD i/\o= [.nd .lst l']:=by
  rw[asD,au9];dsimp only;refine as7 ?_;rw[e0];refine Ev.nx s1 (Ev.nx s2 ?_);have awl:((λρ=>aX (λb=>(b,ρ)) ((au (dN id) (af 3) (d7 Kd.lst λx=>oF []) ρ).bind λx=>match x with | D.sc (V.bl b)=>oF b | x=>oM))) (eQ (wD C m w) (.nd pk (eg C m w.ms)) (.nd .lst ((y8 w.ms).map pairD)) l)\(c,eQ (wD C m w) (.nd pk (eg C m w.ms)) (.nd .lst ((y8 w.ms).map pairD)) l):=by
   rw[eQ];generalize wD C m w=WW;generalize eg C m w.ms=MM;generalize D.nd .lst ((y8 w.ms).map pairD)=XX at *;simp[AF,bD,af,d7,au]
  cases c with
  |true=>
   let i l' hi oz ep:=azn l hl;refine Ev.seq (Ev.aoj (ayI awl) #[.rt (iD i) _,cD ep, [.nd .lst l'], ?_,i,l',hi,oz,rfl,rfl]);rw[eQ];simp[gP]
  |false=>
   let d l1 a1 b1 akr e1:=anD (K:=K) (C:=C) l hl 8 a_ a_;have p1:=azl (W:=wD C m w) (M:= .nd pk (eg C m w.ms)) (X:= .nd .lst ((y8 w.ms).map pairD)) (fl:=λx=>oF (D.sc (V.int 8))) rfl e1;have c2:=oX d 0;by_cases cd:d=0
   .rw[decide_eq_true cd]at c2;let i l' hi oz ep:=azn l1 akr;refine Ev.seq (Ev.aoj (av8 awl (IP (j7 p1 rfl c2))) #[.rt (iD i) _,cD ep, [.nd .lst l'], ?_,i,l',hi,oz,rfl,rfl]);rw[eQ];simp[gP]
   .rw[decide_eq_false cd]at c2;refine Ev.seq (Ev.Mh (av8 awl (IP (j7 p1 rfl c2))) #[.nx _,rfl, ?_]);have qp:y8 w.ms≠ []:=λz=>by
     have:=hc.mpr (by rw[z];rfl);lk
    obtain⟨p,ps,arn⟩:∃p ps,y8 w.ms=p::ps:=by
     cases q:y8 w.ms with
     |nil=>exact absurd q qp
     |cons p ps=>exact#[p,ps,rfl]
    have aqv:aum [.nd .lst ((y8 w.ms).map pairD)]\pairD (aiZ p ps):=by
     show(pairsOf ((y8 w.ms).map pairD)).bind _=_;rw[azk,arn];rfl
    have avW:aiZ p ps∈y8 w.ms:=by
     rw[arn];rcases awj ps p with z | z
     .rw[z];exact .head _
     .exact .tail _ z
    have hr:=aEx avW;rw[h.n]at hr;obtain⟨i,hi⟩:∃i:Nat,(aiZ p ps).2=i:=#[(aiZ p ps).2.toNat,by lia]
    have arR:aW ay aN (pairD (aiZ p ps)) (.sc (.int 1))\iD i:=by
     rw[<- hi];simp[pairD,mq,gC,ay,aW,jh]
    refine#[.rt (iD i) (eQ (wD C m w) (.nd pk (eg C m w.ms)) (.nd .lst ((y8 w.ms).map pairD)) l1), ?_, [.nd .lst l1], ?_,i,l1,by lia,akr,rfl,rfl]
    .rw[eQ];generalize (y8 w.ms).map pairD=XX at *;generalize pairD (aiZ p ps)=PP at *;simp[aqv,arR,bD,ar,af,au,VL.plain,gm,jg]
    .rw[eQ];simp[gP]
 let d o e i l' h1 h2 rfl rfl:=key;exact#[i,l',h1,h2,e]
noncomputable def eA (W:D) (l:oH D) (x2 x3 x4:oT B):En:= [!.aB 5 [],!.aB 6 [],x2,x3,x4,j_ W,j_ (.nd .lst l)]
theorem azo{W d:D}(h2:NA x2)(h3:NA x3)(h4:NA x4)(e:GP [.nd .lst l, .sc z']\(d, [.nd .lst l'])):
  ((aX (λa=>(a,eA W l x2 x3 x4)) (gn (aT 1) (mr (λx=>oF (.sc z')) λx=>oF []) (eA W l x2 x3 x4))).bind λa=>fL GP a.fst a.snd)\(d,eA W l' x2 x3 x4):=by
 unfold eA;simp[e,abk h2,abk h3,abk h4,abC,kX,mY,gG,cT,gn,mr,fL,j3,aa,gg,aT,eT,akS,g9,aV,jF,kY,aZ]
theorem aEA(pW:VL.plain W=yv)(e:GL [W, .nd .lst l]\(d, [.nd .lst l'])):dU 2 (λρ=>(aX (λa=>(a,ρ)) (fB (aT 0) (gn (aT 1) λx=>oF []) ρ)).bind λa=>fL GL a.fst a.snd) (eA W l oM oM oM)\.nx (eA W l' (!.own d) oM oM):=by
 unfold eA;simp[e,pW,abC,kX,mY,gG,cT,dU,bq,gn,fB,fL,j3,aa,gg,nT,aT,eT,akS,akU,g9,aV,jF,kY,aZ,t9,uc,ue,uf]
theorem aEB(h2:NA x2)(h3:NA x3)(h4:NA x4):(hJ (λρ=>aX (λd=>(d,ρ)) (au gx (au (aW ay aN) (af 0) λx=>oF (D.sc (V.str (ae "rows")))) (λx=>oF (D.sc (V.int 1))) ρ)) (aT 0) λx=>oF (D.sc (V.str (ae "rows")))) (eA (.nd (.aO gD) [a,b,c,iD rows]) l x2 x3 x4)\(.nx (eA (.nd (.aO gD) [a,b,c,iD (rows + 1)]) l x2 x3 x4)):=by
 unfold eA;simp[ayB,aDQ,abk h2,abk h3,abk h4,abC,gx,bD,af,hJ,fV,aa,aN,aW,jh,eM,au,aT,eT,akS,aV,aZ]
theorem aEC(K:ah)(C:zI)[nc K C](hl:Lp l)(h2:NA x2)(h3:NA x3)(h4:NA x4):∃(z:Int) (l':oH D),Lp l'/\dU 4 (kU (eJ (λρ=>aX (λd=>(d,ρ)) (!D.sc (V.str (ae "row")))) (eJ (hZ (gQ ay aN) (λρ=>aX (λd=>(d,ρ)) (d7 Kd.lst (ar (gJ (au (aW ay aN) (af 0) λx=>oF (D.sc (V.str (ae "rows"))))) (ar (λx=>oF (D.sc (V.int 0))) λx=>oF [])) ρ)) (hZ (intD oq λi j=>V.int (i / j)) (λρ=>(aX (λa=>(a,ρ)) (gn (aT 1) (mr (λx=>oF (D.sc (V.int 4))) λx=>oF []) ρ)).bind λa=>fL (Bp K C) a.fst a.snd) λρ=>aX (λd=>(d,ρ)) (!D.sc (V.int 3)))) λρ=>oF ([],ρ)))) (eA (.nd (.aO gD) [a,b,c,iD rows]) l x2 x3 x4)\(.nx (eA (.nd (.aO gD) [a,b,c,iD rows]) l' x2 x3 (!.own (.nd .tup [sD "row",iD z])))):=by
 let d l' a1 b1 oz e1:=anD (K:=K) (C:=C) l hl 4 a_ a_;have p:=azo (W:= .nd (.aO gD) [a,b,c,iD rows]) (x2:=x2) (x3:=x3) (x4:=x4) (z':= .int 4) h2 h3 h4 e1;have arR:gQ ay aN (.nd .lst [iD rows,iD 0]) (iD (d / 3))\iD (if d / 3=0 then rows else 0):=by
  have:d / 3=0\/d / 3=1:=b_
  rcases this with e | e <;> rw[e]<;> simp[mq,gC,gQ,ay,aW,jh,VL.plain]
 refine#[if d / 3=0 then rows else 0,l',oz,eW (ρ1:=eA (.nd (.aO gD) [a,b,c,iD rows]) l' x2 x3 x4) (d:= .nd .tup [sD "row",iD (if d / 3=0 then rows else 0)]) (ak.mpr #[([sD "row",iD (if d / 3=0 then rows else 0)],eA (.nd (.aO gD) [a,b,c,iD rows]) l' x2 x3 x4),ak.mpr #[(sD "row",eA (.nd (.aO gD) [a,b,c,iD rows]) l x2 x3 x4),rfl, ?_],rfl]) ?_]
 .refine aY.mpr #[([iD (if d / 3=0 then rows else 0)],eA (.nd (.aO gD) [a,b,c,iD rows]) l' x2 x3 x4),ak.mpr #[(iD (if d / 3=0 then rows else 0),eA (.nd (.aO gD) [a,b,c,iD rows]) l' x2 x3 x4),j7 (a:= .nd .lst [iD rows,iD 0]) (b:=iD (d / 3)) (ρ1:=eA (.nd (.aO gD) [a,b,c,iD rows]) l x2 x3 x4) ?_ (j7 p rfl ?_) arR,rfl],rfl]
  .rw[eA];simp[ayB,bD,ar,af,aa,aN,aW,jh,d7,au,VL.plain,gJ,aV,CV]
  .simp[intD,oq]
 .unfold eA;simp[abj h2,abj h3,abj h4,bq,t9,uc,uf]
theorem aED{GA GN:oH D->oT (D×oH D)}{ks:oH bc}{M M' r a b c W':D}{ee uC:oH D}{x3:oT B}{dq:D}{l:oH D}{i:Nat}(h3:NA x3)(hr:VL.plain r=oP)(hk:∀x,ay (.nd (.aO ks) [x,a,b,c]) (.sc (.str "masters"))\0)(h1:ay (.nd pk ee) (iD i)\i)(h2:jh (.nd pk ee) i\M)(P2:ee[i]?\M)(hs:ee.set i M'=uC)(pM:VL.plain M=yv)(UY:VL.plain M'=yv)(ho:A0 C "add" M=oP)(eh:GA [M,r]\(dq, [M']))(po:VL.plain (Eg dq)=oP)(en:GN [.nd (.aO ks) [.nd pk uC,a,b,c],iD i,sD "add",r,Eg dq]\(.sc .aG, [W'])):
  (ik λρ=>(xm (aT 0) (lD (kr 2) (lD (λρ=>aX (λd=>(d,ρ)) (!D.sc (V.str (ae "add")))) (lD (kr 4) (lD (y7 (abo GA C (ae "add") (dF ay (dF ay (aT 0) λx=>oF (D.sc (V.str (ae "masters")))) (af 2)) (fB (aT 4) λx=>oF []))) λρ=>aX (λa=>(a,ρ)) (![]))))) ρ).bind λa=>fL GN a.fst a.snd) (eA (.nd (.aO ks) [.nd pk ee,a,b,c]) l (!.own (iD i)) x3 (!.own r))\.nx (eA W' l (!.own (iD i)) x3 (!.own r)):=by
 have hj:∀x,(ee.set i x)[i]?\x:=λx=>gK (cX.mp P2).1;have amg:=vp P2 pM;have aoX:∀v,bI (ee.set i (.hl v))=yv:=λv=>vp (hj _) rfl;have afr:bI uC=yv:=vp (hs▸hj M') UY;unfold eA;simp[amg,aoX,afr,y7,xm,hr,hk,h1,P2,hs,ho,eh,en,abk h3,abC,kX,mY,gG,cT,bD,xm,fB,lD,fL,af,ik,j3,aa,gg,cg,dF,jh,abo,kr,nT,oC,aT,VL.plain,bI,eT,akS,g9,aV,jF,kY,aZ]
theorem azp(h:∀l,o\l->∀g∈l,g.ok b):Eg (as4 o)=x8 o:=by
 cases o with
 |none=>rfl
 |some l=>
  have p:=an8 (h l rfl);show(if _ then _ else _)=_;rw[zJ p];rfl
theorem azq(ws:Wg m b s)(hr:NM r)(hi:i < m):∀l,(sG m i r s).2\l->(∀g∈l,WD m (b + 1) g)/\-l<=m:=λl hl=>by
 have wa:=as0 (nu:=i) ws hr;rw[sG]at hl wa
 split at hl
 .next c=>
  rw[zJ c]at wa;cases hl;refine#[avS wa b_ b_, ?_];rw[keeps];rw[nI];exact aoG _ _
 .lk
theorem aEE(m:Nat)(h0:0 < m)(hm:m < 40)(w:cz)(h:Ww m w)(hz:-w.aq < 430)(l:oH D)(hl:Lp l)(i:Nat)(hi:i < m)(x3 x4:oT B)(h3:NA x3)(h4:NA x4):
  ∃(w':cz) (l':oH D) (U0:oT B),Lp l'/\Ww m w'/\xk m w w'/\-w'.aq=-w.aq + 1/\NA U0/\(kT (hJ (λρ=>aX (λd=>(d,ρ)) (au gx (au (aW ay aN) (af 0) λx=>oF (D.sc (V.str (ae "rows")))) (λx=>oF (D.sc (V.int 1))) ρ)) (aT 0) λx=>oF (D.sc (V.str (ae "rows")))) (kT (dU 4 (kU (eJ (λρ=>aX (λd=>(d,ρ)) (!D.sc (V.str (ae "row")))) (eJ (hZ (gQ ay aN) (λρ=>aX (λd=>(d,ρ)) (d7 Kd.lst (ar (gJ (au (aW ay aN) (af 0) λx=>oF (D.sc (V.str (ae "rows"))))) (ar (λx=>oF (D.sc (V.int 0))) λx=>oF [])) ρ)) (hZ (intD oq λi j=>V.int (i / j)) (λρ=>(aX (λa=>(a,ρ)) (gn (aT 1) (mr (λx=>oF (D.sc (V.int 4))) λx=>oF []) ρ)).bind λa=>fL (Bp K C) a.fst a.snd) λρ=>aX (λd=>(d,ρ)) (!D.sc (V.int 3)))) λρ=>oF ([],ρ))))) (ik λρ=>(xm (aT 0) (lD (kr 2) (lD (λρ=>aX (λd=>(d,ρ)) (!D.sc (V.str (ae "add")))) (lD (kr 4) (lD (y7 (abo (aon K C) C (ae "add") (dF ay (dF ay (aT 0) λx=>oF (D.sc (V.str (ae "masters")))) (af 2)) (fB (aT 4) λx=>oF []))) λρ=>aX (λa=>(a,ρ)) (![]))))) ρ).bind λa=>fL (an6 K C) a.fst a.snd))) (eA (wD C m w) l (!.own (iD i)) x3 x4)\.nx (eA (wD C m w') l' (!.own (iD i)) x3 U0):=by
 let z l' oz e2:=aEC K C (a:= .nd pk (eg C m w.ms)) (b:= .nd .lst (w.way.map cx)) (c:= .nd .lst (w.aq.map Uy)) (rows:=w.rows + 1) hl (x2:=oF (.own (iD i))) (x3:=x3) (x4:=x4) cZ h3 h4;have e1:=aEB (a:= .nd pk (eg C m w.ms)) (b:= .nd .lst (w.way.map cx)) (c:= .nd .lst (w.aq.map Uy)) (rows:=w.rows) (l:=l) (x2:=oF (.own (iD i))) (x3:=x3) (x4:=x4) cZ h3 h4;have ahd:NM (.nd .tup [sD "row",iD z]):= .a _ _ c_;generalize hR:D.nd .tup [sD "row",iD z]=r at *;have hs:=dH (show i < -w.ms by rw[h.n];exact hi);generalize w.ms[i]'(h.n^^hi)=s at hs;have ws:=h.ms s (jr hs);have ea:=ayx (K:=K) (C:=C) m i s r (ws.wf.mono b_) ahd b_;have ht:=azq (i:=i) ws ahd hi;have wa:=as0 (nu:=i) ws ahd;have en:=apg (K:=K) (C:=C) m { w with rows:=w.rows + 1,ms:=w.ms.set i (sG m i r s).1 } i "add" r (sG m i r s).2 (sG m i r s).1 (by show(w.ms.set i _)[i]?=_;exact gK (cX.mp hs).1) wa.wf.rows (eK wa.wf.len b_) ahd.plain (λl hl=>#[λg hg=>(((ht l hl).1 g hg).mono b_).ok,eK (ht l hl).2 b_]) #[λg hg=>((h.way g hg).mono b_).ok,h.G3] (by show -w.aq<=900;lia);let i1 i2:=apD (C:=C) (m:=m) hs;have UZ:=azp (o:=(sG m i r s).2) (b:=900) λl hl g hg=>(((ht l hl).1 g hg).mono b_).ok;have po:VL.plain (Eg (as4 (sG m i r s).2))=oP:=UZ^^arJ (b:=900) λl hl g hg=>(((ht l hl).1 g hg).mono b_).ok
 rw[<- UZ]at en;have ho:A0 C "add" (d5 C m i s)=oP:=aoB c_ _ _ _ _ _ _ _ _ _;have e3:=aED (C:=C) (GA:=aon K C) (GN:=an6 K C) (ks:=gD) (l:=l') h3 ahd.plain (λx=>aoV x _ _ _) i1 i2 (Al hs) (apE m w.ms i (sG m i r s).1) (wz m i s) (wz m i _) ho ea po en;refine#[({ w with rows:=w.rows + 1 }:cz).note i "add" r (sG m i r s).2 (sG m i r s).1,l',!.own r,oz,Step.ww hm (.add { w with rows:=w.rows + 1 } i s r hs ahd) (Step.ww hm (.rows w (w.rows + 1)) h), .cons (.rows w (w.rows + 1)) (.one (.add { w with rows:=w.rows + 1 } i s r hs ahd)),an9 _ _ _ _ _ _,cZ, ?_];exact aD e1 (aD e2 e3)
theorem azr(m:Nat)(w:cz):VL.plain (wD C m w)=yv:=rfl
theorem aEF(m:Nat)(h0:0 < m)(hm:m < 40)(w:cz)(h:Ww m w)(hz:-w.aq<=310)(l:oH D)(hl:Lp l):
  ∃(w':cz) (l':oH D),Lp l'/\Ww m w'/\xk m w w'/\-w'.aq<=-w.aq + 3/\asM K C [wD C m w, .nd .lst l]\(.sc .aG, [wD C m w', .nd .lst l']):=by
 have key:∃d o,asM K C [wD C m w, .nd .lst l]\(d,o)/\∃(w':cz) (l':oH D),Lp l'/\Ww m w'/\xk m w w'/\-w'.aq<=-w.aq + 3/\d= .sc .aG/\o= [wD C m w', .nd .lst l']:=by
  rw[asM,avm];dsimp only;have e0:kW 5 [oP,oP] [wD C m w, .nd .lst l]=eA (wD C m w) l oM oM oM:=by
   rw[eA];generalize wD C m w=WW;simp[ug,kW,bW,bU,i0]
  refine as7 ?_;rw[e0];let i l1 hi akr e1:=azm (K:=K) (C:=C) m h0 hm w h l hl;refine Ev.nx (aEA (azr m w) e1) ?_;let d l2 a2 b2 rC e2:=anD (K:=K) (C:=C) l1 akr 3 a_ a_;obtain⟨q,hq⟩:∃q:Nat,1 + d=(q:Int):=#[(1 + d).toNat,by lia]
  have p:=azo (W:=wD C m w) (x2:=oF (.own (iD i))) (x3:=oM) (x4:=oM) (z':= .int 3) cZ i6 i6 e2;refine Ev.axs (as:= [iD q]) (m:=q) (ρ0:=eA (wD C m w) l2 (!.own (iD i)) oM oM) (ak.mpr #[(iD q,eA (wD C m w) l2 (!.own (iD i)) oM oM),j7 rfl p (by rw[<- hq];rfl),rfl]) (apv q b_) (λj ρ=>∃(w1:cz) (l1:oH D) (x3 x4:oT B),Lp l1/\Ww m w1/\xk m w w1/\-w1.aq<=-w.aq + j/\NA x3/\NA x4/\ρ=eA (wD C m w1) l1 (!.own (iD i)) x3 x4) #[w,l2,oM,oM,rC,h, .refl _,by lia,i6,i6,rfl] ?_ ?_
  .rintro j hj ρ ⟨w1,l3,x3,x4,N1,tR,bQ,pJ,h3,h4,rfl⟩;let w2 l4 U0 api ahc dJ xO arS e4:=aEE (K:=K) (C:=C) m h0 hm w1 tR b_ l3 N1 i hi (!.ro (iD j)) x4 dO h4;refine#[eA (wD C m w1) l3 (!.own (iD i)) (!.ro (iD j)) x4,by
    unfold eA;generalize wD C m w1=WW;simp[abj h3,abj h4,bq,t9,uc,uf],_,e4,w2,l4,_,U0,api,ahc,bQ.trans dJ,by lia,dO,arS,rfl]
  .rintro ρ ⟨w1,l3,x3,x4,N1,tR,bQ,pJ,h3,h4,rfl⟩;exact#[[wD C m w1, .nd .lst l3],by rw[eA];generalize wD C m w1=WW;simp[gP],w1,l3,N1,tR,bQ,by lia,rfl,rfl]
 let d o e w' l' h1 h2 h3 h4 rfl rfl:=key;exact#[w',l',h1,h2,h3,h4,e]
noncomputable def eR (W:D) (l:oH D) (x2 x3 x4 x5:oT B):En:= [!.aB 6 [],!.aB 7 [],x2,x3,x4,x5,j_ W,j_ (.nd .lst l)]
theorem gp(h:ee[i]?\M)(pM:VL.plain M=yv):aa (.nd (.aO ks) [.nd pk ee,a,b,c]) [0,i]\M:=by
 have amg:=vp h pM;simp[amg,h,aa,cg,VL.plain,bI]
theorem awm(h2:NA x2)(h3:NA x3)(h5:NA x5)(hM:aa W [0,i]\M)(hf:fl (eR W l x2 x3 (!.aB 6 [0,i]) x5)\z)(e:GP [.nd .lst l,z]\(d, [.nd .lst l'])):
  ((aX (λa=>(a,eR W l x2 x3 (!.aB 6 [0,i]) x5)) (gn (aT 1) (mr fl λx=>oF []) (eR W l x2 x3 (!.aB 6 [0,i]) x5))).bind λa=>fL GP a.fst a.snd)\(d,eR W l' x2 x3 (!.aB 6 [0,i]) x5):=by
 unfold eR at *;simp[hf,e,hg,hM,abk h2,abk h3,abk h5,abC,kX,mY,gG,cT,gn,mr,fL,j3,gg,aT,eT,akS,g9,aV,jF,kY,aZ]
theorem ati(h2:NA x2)(h3:NA x3)(h4:NA x4)(h5:NA x5)(hf:fl (eR W l x2 x3 x4 x5)\z)(e:GP [.nd .lst l,z]\(d, [.nd .lst l'])):
  ((aX (λa=>(a,eR W l x2 x3 x4 x5)) (gn (aT 1) (mr fl λx=>oF []) (eR W l x2 x3 x4 x5))).bind λa=>fL GP a.fst a.snd)\(d,eR W l' x2 x3 x4 x5):=by
 unfold eR at *;simp[hf,e,abk h4,abk h2,abk h3,abk h5,abC,kX,mY,gG,cT,gn,mr,fL,j3,aa,gg,aT,eT,akS,g9,aV,jF,kY,aZ]
theorem aEG{GR GN:oH D->oT (D×oH D)}{ee uC:oH D}{l:oH D}(h2:NA x2)(h5:NA x5)(P2:ee[i]?\M)(hs:ee.set i M'=uC)(pM:VL.plain M=yv)(UY:VL.plain M'=yv)(ho:A0 C "rise" M=oP)(eh:GR [M]\(dq, [M']))(po:VL.plain (Eg dq)=oP)(en:GN [.nd (.aO ks) [.nd pk uC,a,b,c],iD i,sD "rise", .sc .aG,Eg dq]\(.sc .aG, [W'])):
  (ik λρ=>(xm (aT 0) (lD (kr 3) (lD (λρ=>aX (λd=>(d,ρ)) (!D.sc (V.str (ae "rise")))) (lD (λρ=>aX (λd=>(d,ρ)) (!D.sc V.aG)) (lD (y7 (abo GR C (ae "rise") (aT 4) λx=>oF [])) λρ=>aX (λa=>(a,ρ)) (![]))))) ρ).bind λa=>fL GN a.fst a.snd) (eR (.nd (.aO ks) [.nd pk ee,a,b,c]) l x2 (!.own (iD i)) (!.aB 6 [0,i]) x5)\.nx (eR W' l x2 (!.own (iD i)) oM x5):=by
 have hj:∀x,(ee.set i x)[i]?\x:=λx=>gK (cX.mp P2).1;have amg:=vp P2 pM;have aoX:∀v,bI (ee.set i (.hl v))=yv:=λv=>vp (hj _) rfl;have afr:bI uC=yv:=vp (hs▸hj M') UY;unfold eR;simp[amg,aoX,afr,y7,xm,P2,hs,ho,eh,en,hj,abk h2,abk h5,abC,kX,mY,gG,cT,bD,xm,lD,fL,af,ik,j3,aa,gg,cg,abo,kr,nT,aT,VL.plain,bI,eT,akS,g9,aV,jF,kY,aZ]
theorem aEH{GR GN:oH D->oT (D×oH D)}{ee uC:oH D}{l:oH D}(h2:NA x2)(h5:NA x5)(P2:ee[i]?\M)(hs:ee.set i M'=uC)(pM:VL.plain M=yv)(UY:VL.plain M'=yv)(ho:A0 C "fall" M=oP)(eh:GR [M]\(dq, [M']))(po:VL.plain (Eg dq)=oP)(en:GN [.nd (.aO ks) [.nd pk uC,a,b,c],iD i,sD "fall", .sc .aG,Eg dq]\(.sc .aG, [W'])):
  (ik λρ=>(xm (aT 0) (lD (kr 3) (lD (λρ=>aX (λd=>(d,ρ)) (!D.sc (V.str (ae "fall")))) (lD (λρ=>aX (λd=>(d,ρ)) (!D.sc V.aG)) (lD (y7 (abo GR C (ae "fall") (aT 4) λx=>oF [])) λρ=>aX (λa=>(a,ρ)) (![]))))) ρ).bind λa=>fL GN a.fst a.snd) (eR (.nd (.aO ks) [.nd pk ee,a,b,c]) l x2 (!.own (iD i)) (!.aB 6 [0,i]) x5)\.nx (eR W' l x2 (!.own (iD i)) oM x5):=by
 have hj:∀x,(ee.set i x)[i]?\x:=λx=>gK (cX.mp P2).1;have amg:=vp P2 pM;have aoX:∀v,bI (ee.set i (.hl v))=yv:=λv=>vp (hj _) rfl;have afr:bI uC=yv:=vp (hs▸hj M') UY;unfold eR;simp[amg,aoX,afr,y7,xm,P2,hs,ho,eh,en,hj,abk h2,abk h5,abC,kX,mY,gG,cT,bD,xm,lD,fL,af,ik,j3,aa,gg,cg,abo,kr,nT,aT,VL.plain,bI,eT,akS,g9,aV,jF,kY,aZ]
theorem aEI(h3:NA x3)(h4:NA x4)(h5:NA x5)(e:GC [W, .nd .lst l, .nd .tup [sD "stand",sD "voice"],tD (decide (rd=1))]\(.sc .aG, [W', .nd .lst l'])):
  (ik λρ=>(aX (λa=>(a,ρ)) (gn (aT 0) (gn (aT 1) (mr (d7 Kd.tup (ar (λx=>oF (D.sc (V.str (ae "stand")))) (ar (λx=>oF (D.sc (V.str (ae "voice")))) λx=>oF []))) (mr (au (dN id) (af 2) λx=>oF (D.sc (V.int 1))) λx=>oF []))) ρ)).bind λa=>fL GC a.fst a.snd) (eR W l (!.own (iD rd)) x3 x4 x5)\.nx (eR W' l' (!.own (iD rd)) x3 x4 x5):=by
 unfold eR;simp[e,oX,abk h3,abk h4,abk h5,abC,kX,mY,gG,cT,bD,gn,mr,fL,ar,af,ik,j3,aa,gg,d7,au,aT,eT,akS,g9,aV,jF,kY,aZ,CV]
theorem aEJ(h3:NA x3)(h4:NA x4)(h5:NA x5)(e:GC [W, .nd .lst l, .nd .tup [sD "keep",sD "kept"],tD (decide (rd=5))]\(.sc .aG, [W', .nd .lst l'])):
  (ik λρ=>(aX (λa=>(a,ρ)) (gn (aT 0) (gn (aT 1) (mr (d7 Kd.tup (ar (λx=>oF (D.sc (V.str (ae "keep")))) (ar (λx=>oF (D.sc (V.str (ae "kept")))) λx=>oF []))) (mr (au (dN id) (af 2) λx=>oF (D.sc (V.int 5))) λx=>oF []))) ρ)).bind λa=>fL GC a.fst a.snd) (eR W l (!.own (iD rd)) x3 x4 x5)\.nx (eR W' l' (!.own (iD rd)) x3 x4 x5):=by
 unfold eR;simp[e,oX,abk h3,abk h4,abk h5,abC,kX,mY,gG,cT,bD,gn,mr,fL,ar,af,ik,j3,aa,gg,d7,au,aT,eT,akS,g9,aV,jF,kY,aZ,CV]
theorem aEK(h2:NA x2)(h3:NA x3)(h4:NA x4)(h5:NA x5)(e:GC [W, .nd .lst l, .nd .tup [sD "keep",sD "kept"],tD yv]\(.sc .aG, [W', .nd .lst l'])):
  (ik λρ=>(aX (λa=>(a,ρ)) (gn (aT 0) (gn (aT 1) (mr (d7 Kd.tup (ar (λx=>oF (D.sc (V.str (ae "keep")))) (ar (λx=>oF (D.sc (V.str (ae "kept")))) λx=>oF []))) (mr (λx=>oF (D.sc (V.bl yv))) λx=>oF []))) ρ)).bind λa=>fL GC a.fst a.snd) (eR W l x2 x3 x4 x5)\.nx (eR W' l' x2 x3 x4 x5):=by
 unfold eR;simp[e,abk h4,abk h2,abk h3,abk h5,abC,kX,mY,gG,cT,gn,mr,fL,ar,ik,j3,aa,gg,d7,aT,eT,akS,g9,aV,jF,kY,aZ,CV]
theorem aEL{i:Nat}(h2:NA x2)(h3:NA x3)(h5:NA x5)(e:GA [W, .nd .lst l]\(.sc .aG, [W', .nd .lst l'])):
  (ik λρ=>(aX (λa=>(a,ρ)) (gn (aT 0) (gn (aT 1) λx=>oF []) ρ)).bind λa=>fL GA a.fst a.snd) (eR W l x2 x3 (!.aB 6 [0,i]) x5)\.nx (eR W' l' x2 x3 oM x5):=by
 unfold eR;simp[e,abk h2,abk h3,abk h5,abC,kX,mY,gG,cT,gn,fL,ik,j3,aa,gg,aT,eT,akS,g9,aV,jF,kY,aZ]
theorem aEM(h2:NA x2)(h3:NA x3)(h5:NA x5)(pW:VL.plain W=yv)(hM:aa W [0,i]\M)(e:GL [W, .nd .lst l]\(d, [.nd .lst l'])):
  (dU 3 λρ=>(aX (λa=>(a,ρ)) (fB (aT 0) (gn (aT 1) λx=>oF []) ρ)).bind λa=>fL GL a.fst a.snd) (eR W l x2 x3 (!.aB 6 [0,i]) x5)\(.nx (eR W l' x2 (!.own d) (!.aB 6 [0,i]) x5)):=by
 unfold eR;simp[e,hg,pW,hM,abj h2,abk h2,abj h3,abk h3,abj h5,abk h5,abC,kX,mY,gG,cT,dU,bq,gn,fB,fL,j3,gg,nT,aT,eT,akS,g9,aV,jF,kY,aZ,t9,uc,uf]
theorem aEN{GS:oH D->oT D}{GN:oH D->oT (D×oH D)}{ee:oH D}{l:oH D}{i j:Nat}(h2:NA x2)(h5:NA x5)(hk:∀x,ay (.nd (.aO ks) [x,a,b,c]) (.sc (.str "masters"))\0)(h1:ay (.nd pk ee) (iD i)\i)(aIo:jh (.nd pk ee) i\M)(P2:ee[i]?\M)(pM:VL.plain M=yv)(ho:A0 C "send" M=oP)(eh:GS [M]\dq)(po:VL.plain (Eg dq)=oP)(en:GN [.nd (.aO ks) [.nd pk ee,a,b,c],iD i,sD "send", .sc .aG,Eg dq]\(.sc .aG, [W'])):
  (ik λρ=>(xm (aT 0) (lD (kr 3) (lD (λρ=>aX (λd=>(d,ρ)) (!D.sc (V.str (ae "send")))) (lD (λρ=>aX (λd=>(d,ρ)) (!D.sc V.aG)) (lD (y7 λρ=>aX (λd=>(d,ρ)) (methP GS C (ae "send") 1 (au (aW ay aN) (au (aW ay aN) (af 0) λx=>oF (D.sc (V.str (ae "masters")))) (af 3)) (λx=>oF []) ρ)) λρ=>aX (λa=>(a,ρ)) (![]))))) ρ).bind λa=>fL GN a.fst a.snd) (eR (.nd (.aO ks) [.nd pk ee,a,b,c]) l x2 (!.own (iD i)) (!.aB 6 [0,j]) x5)\.nx (eR W' l x2 (!.own (iD i)) oM x5):=by
 unfold eR;have amg:=vp P2 pM;simp[amg,y7,xm,hk,h1,P2,ho,eh,en,abk h2,abk h5,abC,kX,mY,gG,cT,bD,xm,lD,fL,af,ik,j3,aa,gg,aN,aW,jh,methP,kr,au,aT,VL.plain,eT,akS,g9,aV,jF,kY,aZ]
theorem aEO{b c:D}(h2:NA x2)(h3:NA x3)(h5:NA x5)(hM:ee[i]?\M)(pM:VL.plain M=yv)(e:GP [.nd .lst l,iD 20]\(iD k, [.nd .lst l']))(hc:arj (.nd .lst wy) (iD k)\.nd .lst aEP):
  (hJ (auj (dF ay (aT 0) λx=>oF (D.sc (V.str (ae "way")))) λρ=>(aX (λa=>(a,ρ)) (gn (aT 1) (mr (λx=>oF (D.sc (V.int 20))) λx=>oF []) ρ)).bind λa=>fL GP a.fst a.snd) (aT 0) λx=>oF (D.sc (V.str (ae "way")))) (eR (.nd (.aO gD) [.nd pk ee, .nd .lst wy,b,c]) l x2 x3 (!.aB 6 [0,i]) x5)\(.nx (eR (.nd (.aO gD) [.nd pk ee, .nd .lst aEP,b,c]) l' x2 x3 oM x5)):=by
 unfold eR;have amg:=vp hM pM;simp[amg,auj,qE,aop,as5,hM,e,hc,abj h2,abk h2,abj h3,abk h3,abj h5,abk h5,abC,kX,mY,gG,cT,bD,gn,mr,fL,af,hJ,fV,j3,aa,gg,cg,dF,jh,eM,nT,oC,aT,VL.plain,bI,eT,akS,g9,aV,jF,kY,aZ,uc,uf]
theorem Ev.mono(h:Ev f ρ Q)(k:∀fl,Q fl->Q' fl):Ev f ρ Q':=by
 let fl e q:=h;exact#[fl,e,k fl q]
theorem aEQ(h2:NA x2)(h3:NA x3)(h4:NA x4)(h5:NA x5)(hW:W= .nd (.aO gD) [a, .nd .lst wy,b,c])(dw:eP [.nd .lst wy]\iD n)(e1:GP [.nd .lst l,iD n]\(iD k, [.nd .lst l1]))(e2:GP [.nd .lst l1,iD 2]\(iD d, [.nd .lst l2]))(eh:GH [W,iD k,tD (decide (d=0))]\(.sc .aG, [W'])):
  (ik λρ=>(xm (aT 0) (lD (λρ=>(aX (λa=>(a,ρ)) (gn (aT 1) (mr (λρ=>(ar (au (aW ay aN) (af 0) λx=>oF (D.sc (V.str (ae "way")))) (λx=>oF []) ρ).bind eP) λx=>oF []) ρ)).bind λa=>fL GP a.fst a.snd) (lD (hZ (dN id) (λρ=>(aX (λa=>(a,ρ)) (gn (aT 1) (mr (λx=>oF (D.sc (V.int 2))) λx=>oF []) ρ)).bind λa=>fL GP a.fst a.snd) λρ=>aX (λd=>(d,ρ)) (!D.sc (V.int 0))) λρ=>aX (λa=>(a,ρ)) (![]))) ρ).bind λa=>fL GH a.fst a.snd) (eR W l x2 x3 x4 x5)\.nx (eR W' l2 x2 x3 x4 x5):=by
 have hq:=oX d 0;have p1:=ati (W:=W) (fl:=λρ=>(ar (au (aW ay aN) (af 0) λx=>oF (D.sc (V.str (ae "way")))) (λx=>oF []) ρ).bind eP) h2 h3 h4 h5 (by
  rw[hW];rw[eR];simp[aop,dw,bD,ar,af,aa,aN,aW,jh,au,aV]) e1
 have p2:=ati (W:=W) (fl:=λx=>oF (D.sc (V.int 2))) h2 h3 h4 h5 rfl e2;have p3:=j7 (g:=dN id) (fa:=λρ=>(aX (λa=>(a,ρ)) (gn (aT 1) (mr (λx=>oF (D.sc (V.int 2))) λx=>oF []) ρ)).bind λa=>fL GP a.fst a.snd) (fb:=λρ=>aX (λd=>(d,ρ)) (!D.sc (V.int 0))) (ρ:=eR W l1 x2 x3 x4 x5) p2 rfl hq;have awn:aV (eR W l2 x2 x3 x4 x5) 6\W:=rfl;rw[ik];have awo:(xm (aT 0) (lD (λρ=>(aX (λa=>(a,ρ)) (gn (aT 1) (mr (λρ=>(ar (au (aW ay aN) (af 0) λx=>oF (D.sc (V.str (ae "way")))) (λx=>oF []) ρ).bind eP) λx=>oF []) ρ)).bind λa=>fL GP a.fst a.snd) (lD (hZ (dN id) (λρ=>(aX (λa=>(a,ρ)) (gn (aT 1) (mr (λx=>oF (D.sc (V.int 2))) λx=>oF []) ρ)).bind λa=>fL GP a.fst a.snd) λρ=>aX (λd=>(d,ρ)) (!D.sc (V.int 0))) λρ=>aX (λa=>(a,ρ)) (![])))) (eR W l x2 x3 x4 x5)\([.io #[6, []], .tm (iD k), .tm (tD (decide (d=0)))],eR W l2 x2 x3 x4 x5):=by
  refine ak.mpr #[.rt 6 [], ?_, ?_]
  .rw[eR];simp[aa,aT,aV]
  .show(if([]:oH Nat)= [] then _ else _)=_;rw[zJ rfl];refine ak.mpr #[([.tm (iD k), .tm (tD (decide (d=0)))],eR W l2 x2 x3 x4 x5),ak.mpr #[(iD k,eR W l1 x2 x3 x4 x5),p1,aY.mpr #[([.tm (tD (decide (d=0)))],eR W l2 x2 x3 x4 x5),ak.mpr #[(tD (decide (d=0)),eR W l2 x2 x3 x4 x5),p3,rfl],rfl]], ?_];rw[awn];rfl
 refine aY.mpr #[(.sc .aG,eR W' l2 x2 x3 x4 x5),ak.mpr #[_,awo, ?_],rfl];unfold eR;simp[eh,abk h2,abk h3,abk h4,abk h5,abC,mY,gG,cT,fL,j3,aa,gg,eT,akS,g9,aV,jF,kY,aZ]
theorem aER(h2:NA x2)(h3:NA x3)(h5:NA x5)(hW:W= .nd (.aO gD) [a, .nd .lst wy,b,c])(dw:eP [.nd .lst wy]\iD n)(hM:aa W [0,i]\M)(e1:GP [.nd .lst l,iD n]\(iD k, [.nd .lst l1]))(e2:GP [.nd .lst l1,iD 2]\(iD d, [.nd .lst l2]))(eh:GH [W,iD k,tD (decide (d=0))]\(.sc .aG, [W'])):
  (ik λρ=>(xm (aT 0) (lD (λρ=>(aX (λa=>(a,ρ)) (gn (aT 1) (mr (λρ=>(ar (au (aW ay aN) (af 0) λx=>oF (D.sc (V.str (ae "way")))) (λx=>oF []) ρ).bind eP) λx=>oF []) ρ)).bind λa=>fL GP a.fst a.snd) (lD (hZ (dN id) (λρ=>(aX (λa=>(a,ρ)) (gn (aT 1) (mr (λx=>oF (D.sc (V.int 2))) λx=>oF []) ρ)).bind λa=>fL GP a.fst a.snd) λρ=>aX (λd=>(d,ρ)) (!D.sc (V.int 0))) λρ=>aX (λa=>(a,ρ)) (![]))) ρ).bind λa=>fL GH a.fst a.snd) (eR W l x2 x3 (!.aB 6 [0,i]) x5)\.nx (eR W' l2 x2 x3 oM x5):=by
 have hq:=oX d 0;have p1:=awm (W:=W) (fl:=λρ=>(ar (au (aW ay aN) (af 0) λx=>oF (D.sc (V.str (ae "way")))) (λx=>oF []) ρ).bind eP) h2 h3 h5 hM (by
  rw[hW];rw[eR];simp[aop,dw,bD,ar,af,aa,aN,aW,jh,au,aV]) e1
 have p2:=awm (W:=W) (fl:=λx=>oF (D.sc (V.int 2))) h2 h3 h5 hM rfl e2;have p3:=j7 (g:=dN id) (fa:=λρ=>(aX (λa=>(a,ρ)) (gn (aT 1) (mr (λx=>oF (D.sc (V.int 2))) λx=>oF []) ρ)).bind λa=>fL GP a.fst a.snd) (fb:=λρ=>aX (λd=>(d,ρ)) (!D.sc (V.int 0))) (ρ:=eR W l1 x2 x3 (!.aB 6 [0,i]) x5) p2 rfl hq;have awn:aV (eR W l2 x2 x3 (!.aB 6 [0,i]) x5) 6\W:=rfl;rw[ik];have awo:(xm (aT 0) (lD (λρ=>(aX (λa=>(a,ρ)) (gn (aT 1) (mr (λρ=>(ar (au (aW ay aN) (af 0) λx=>oF (D.sc (V.str (ae "way")))) (λx=>oF []) ρ).bind eP) λx=>oF []) ρ)).bind λa=>fL GP a.fst a.snd) (lD (hZ (dN id) (λρ=>(aX (λa=>(a,ρ)) (gn (aT 1) (mr (λx=>oF (D.sc (V.int 2))) λx=>oF []) ρ)).bind λa=>fL GP a.fst a.snd) λρ=>aX (λd=>(d,ρ)) (!D.sc (V.int 0))) λρ=>aX (λa=>(a,ρ)) (![])))) (eR W l x2 x3 (!.aB 6 [0,i]) x5)\([.io #[6, []], .tm (iD k), .tm (tD (decide (d=0)))],eR W l2 x2 x3 (!.aB 6 [0,i]) x5):=by
  refine ak.mpr #[.rt 6 [], ?_, ?_]
  .rw[eR];simp[aa,aT,aV]
  .show(if([]:oH Nat)= [] then _ else _)=_;rw[zJ rfl];refine ak.mpr #[([.tm (iD k), .tm (tD (decide (d=0)))],eR W l2 x2 x3 (!.aB 6 [0,i]) x5),ak.mpr #[(iD k,eR W l1 x2 x3 (!.aB 6 [0,i]) x5),p1,aY.mpr #[([.tm (tD (decide (d=0)))],eR W l2 x2 x3 (!.aB 6 [0,i]) x5),ak.mpr #[(tD (decide (d=0)),eR W l2 x2 x3 (!.aB 6 [0,i]) x5),p3,rfl],rfl]], ?_];rw[awn];rfl
 refine aY.mpr #[(.sc .aG,eR W' l2 x2 x3 oM x5),ak.mpr #[_,awo, ?_],rfl];unfold eR;simp[eh,abk h2,abk h3,abk h5,abC,mY,gG,cT,fL,j3,aa,gg,eT,akS,g9,aV,jF,kY,aZ]
def PR(C:zI)(m:Nat)(w:cz)(n:Nat)(ρ:En):Prop:=∃(w':cz) (l':oH D) (x2 x3 x4 x5:oT B),Lp l'/\Ww m w'/\xk m w w'/\-w'.aq<=-w.aq + n/\ρ=eR (wD C m w') l' x2 x3 x4 x5
def QR(C:zI)(m:Nat)(w:cz)(n:Nat):Fl->Prop
 |.nx ρ=>PR C m w n ρ
 |_=>False
theorem aES(m:Nat)(h0:0 < m)(hm:m < 40)(w:cz)(h:Ww m w)(hz:-w.aq<=310)(x2 x3:oT B)(h2:NA x2)(h3:NA x3)(i:Nat)(hi:i < m)(l:oH D)(hl:Lp l):Ev (ar8 (eJ (hZ gx (λρ=>aX (λd=>(d,ρ)) (!D.sc (V.int 1))) λρ=>(aX (λa=>(a,ρ)) (gn (aT 1) (mr (λx=>oF (D.sc (V.int 6))) λx=>oF []) ρ)).bind λa=>fL (Bp K C) a.fst a.snd) λρ=>oF ([],ρ)) (λd ρ=>oF (bq 5 (B.ro d) ρ)) (gv (λρ=>aX (λb=>(b,ρ)) ((au (iO λi j=>V.bl (decide (j < i))) (λρ=>(ar (au (aW ay aN) (af 0) λx=>oF (D.sc (V.str (ae "way")))) (λx=>oF []) ρ).bind eP) (λx=>oF (D.sc (V.int 0))) ρ).bind λx=>match x with | D.sc (V.bl b)=>oF b | x=>oM)) (ik λρ=>(xm (aT 0) (lD (λρ=>(aX (λa=>(a,ρ)) (gn (aT 1) (mr (λρ=>(ar (au (aW ay aN) (af 0) λx=>oF (D.sc (V.str (ae "way")))) (λx=>oF []) ρ).bind eP) λx=>oF []) ρ)).bind λa=>fL (Bp K C) a.fst a.snd) (lD (hZ (dN id) (λρ=>(aX (λa=>(a,ρ)) (gn (aT 1) (mr (λx=>oF (D.sc (V.int 2))) λx=>oF []) ρ)).bind λa=>fL (Bp K C) a.fst a.snd) λρ=>aX (λd=>(d,ρ)) (!D.sc (V.int 0))) λρ=>aX (λa=>(a,ρ)) (![]))) ρ).bind λa=>fL (aqn K C) a.fst a.snd) λρ=>oF (Fl.nx ρ))) (eR (wD C m w) l x2 x3 (!.aB 6 [0,i]) oM) (QR C m w 20):=by
 have hs:=dH (show i < -w.ms by rw[h.n];exact hi);have hM:=gp (ks:=gD) (a:= .nd .lst (w.way.map cx)) (b:= .nd .lst (w.aq.map Uy)) (c:=iD w.rows) (Al (C:=C) (m:=m) hs) (wz m _ _);let d l1 a1 b1 akr e1:=anD (K:=K) (C:=C) l hl 6 a_ a_;obtain⟨q,hq⟩:∃q:Nat,1 + d=(q:Int):=#[(1 + d).toNat,by lia]
 have p:=awm (W:=wD C m w) (fl:=λx=>oF (D.sc (V.int 6))) h2 h3 i6 hM rfl e1
 -- ahg name of ahg aIp is let go as aIq as a message is aIr
 refine Ev.axs (as:= [iD q]) (m:=q) (ρ0:=eR (wD C m w) l1 x2 x3 (!.aB 6 [0,i]) oM) (ak.mpr #[(iD q,eR (wD C m w) l1 x2 x3 (!.aB 6 [0,i]) oM),j7 rfl p (by rw[<- hq];rfl),rfl]) (apv q b_) (λj ρ=>∃(w1:cz) (l1:oH D) (x4 x5:oT B),Lp l1/\Ww m w1/\xk m w w1/\-w1.aq<=-w.aq + j/\(NA x4\/x4\(.aB 6 [0,i]))/\NA x5/\ρ=eR (wD C m w1) l1 x2 x3 x4 x5) #[w,l1,_,oM,akr,h, .refl _,by lia, .inr rfl,i6,rfl] ?_ ?_
 .rintro j hj ρ ⟨w1,l2,x4,x5,rC,tR,bQ,pJ,h4,h5,rfl⟩;have W0:wD C m w1= .nd (.aO gD) [.nd pk (eg C m w1.ms), .nd .lst (w1.way.map cx), .nd .lst (w1.aq.map Uy),iD w1.rows]:=rfl;have dw:eP [.nd .lst (w1.way.map cx)]\iD (-w1.way):=by simp[eP]
  refine#[eR (wD C m w1) l2 x2 x3 x4 (!.ro (iD j)),by
   unfold eR;generalize wD C m w1=WW;rcases h4 with h4 | rfl
   .simp[abj h2,abj h3,abj h4,abj h5,bq,t9,uc,uf]
   .simp[abj h2,abj h3,abj h5,bq,t9,uc,uf], ?_]
  have ao0:((λρ=>aX (λb=>(b,ρ)) ((au (iO λi j=>V.bl (decide (j < i))) (λρ=>(ar (au (aW ay aN) (af 0) λx=>oF (D.sc (V.str (ae "way")))) (λx=>oF []) ρ).bind eP) (λx=>oF (D.sc (V.int 0))) ρ).bind λx=>match x with | D.sc (V.bl b)=>oF b | x=>oM))) (eR (wD C m w1) l2 x2 x3 x4 (!.ro (iD j)))\(decide (0 < -w1.way),eR (wD C m w1) l2 x2 x3 x4 (!.ro (iD j))):=by
   rw[eR];rw[W0];generalize w1.way.map cx=wy at *;simp[aop,dw,bD,ar,af,aa,iO,aN,aW,jh,au,aV]
  by_cases cw:0 < -w1.way
  .rw[decide_eq_true cw]at ao0;have AD:i < -w1.ms:=tR.n^^hi
   have aET:=gp (ks:=gD) (a:= .nd .lst (w1.way.map cx)) (b:= .nd .lst (w1.aq.map Uy)) (c:=iD w1.rows) (Al (C:=C) (m:=m) (dH AD)) (wz m _ _);have hf:=tR.G3;let k l3 a3 b3 N1 e3:=anD (K:=K) (C:=C) l2 rC (-w1.way:Int) b_ (awZ (b:=60) b_ a_);obtain⟨k,rfl⟩:∃k':Nat,k=k':=#[k.toNat,by lia]
   let d2 l4 a4 b4 api e4:=anD (K:=K) (C:=C) l3 N1 2 a_ a_;have hk:=dH (show k < -w1.way by lia);generalize w1.way[k]'(by lia)=g at hk;have mg:=tR.way g (jr hk);have t0:=mg.t0;have t1:=mg.t1;obtain⟨i2,HP⟩:∃i:Nat,g.to=i:=#[g.to.toNat,by lia]
   have apC:i2 < -w1.ms:=by rw[tR.n];lia
   have lC:=dH apC;generalize w1.ms[i2]'apC=s at lC;have eh:=ayE (K:=K) (C:=C) m w1 tR b_ h0 hm k (decide (d2=0)) g hk i2 s HP lC;have call:∀x4,(NA x4\/x4\(.aB 6 [0,i]))->∃U0,NA U0/\(ik λρ=>(xm (aT 0) (lD (λρ=>(aX (λa=>(a,ρ)) (gn (aT 1) (mr (λρ=>(ar (au (aW ay aN) (af 0) λx=>oF (D.sc (V.str (ae "way")))) (λx=>oF []) ρ).bind eP) λx=>oF []) ρ)).bind λa=>fL (Bp K C) a.fst a.snd) (lD (hZ (dN id) (λρ=>(aX (λa=>(a,ρ)) (gn (aT 1) (mr (λx=>oF (D.sc (V.int 2))) λx=>oF []) ρ)).bind λa=>fL (Bp K C) a.fst a.snd) λρ=>aX (λd=>(d,ρ)) (!D.sc (V.int 0))) λρ=>aX (λa=>(a,ρ)) (![]))) ρ).bind λa=>fL (aqn K C) a.fst a.snd) (eR (wD C m w1) l2 x2 x3 x4 (!.ro (iD j)))\.nx (eR (wD C m (w1.told (decide (d2=0)) k g i2 m s)) l4 x2 x3 U0 (!.ro (iD j))):=λx4 h4=>by
    rcases h4 with h4 | rfl
    .exact#[x4,h4,aEQ h2 h3 h4 dO W0 dw e3 e4 eh]
    .exact#[oM,i6,aER h2 h3 dO W0 dw aET e3 e4 eh]
   let U0 arS ec:=call x4 h4;exact Ev.aoj ao0 #[_,ec,w1.told (decide (d2=0)) k g i2 m s,l4,U0,_,api,tR.told hm hk lC,bQ.trans (.one (.ef w1 (decide (d2=0)) k g i2 s hk HP lC)),by rw[av2];lia, .inl arS,dO,rfl]
  .rw[decide_eq_false cw]at ao0;exact Ev.Mh ao0 #[_,rfl,w1,l2,x4,_,rC,tR,bQ,by lia,h4,dO,rfl]
 .rintro ρ ⟨w1,l2,x4,x5,rC,tR,bQ,pJ,h4,h5,rfl⟩;exact#[w1,l2,x2,x3,x4,x5,rC,tR,bQ,by lia,rfl]
theorem aEU(m:Nat)(h0:0 < m)(hm:m < 40)(w:cz)(h:Ww m w)(hz:-w.aq<=300)(l:oH D)(hl:Lp l):
  ∃(w':cz) (l':oH D),Lp l'/\Ww m w'/\xk m w w'/\-w'.aq<=-w.aq + 130/\aqr K C [wD C m w, .nd .lst l]\(.sc .aG, [wD C m w', .nd .lst l']):=by
 have key:∃d o,aqr K C [wD C m w, .nd .lst l]\(d,o)/\∃(w':cz) (l':oH D),Lp l'/\Ww m w'/\xk m w w'/\-w'.aq<=-w.aq + 130/\d= .sc .aG/\o= [wD C m w', .nd .lst l']:=by
  rw[aqr,avH];dsimp only;have e0:kW 6 [oP,oP] [wD C m w, .nd .lst l]=eR (wD C m w) l oM oM oM oM:=by
   rw[eR];generalize wD C m w=WW;simp[ug,kW,bW,bU,i0]
  refine as7 ?_;rw[e0];refine Ev.mono (Q:=QR C m w 130) ?_ λfl q=>by
   cases fl with
   |nx ρ=>
    let w' l' x2 x3 x4 x5 oz X8 st G9 rfl:=q;exact#[[wD C m w', .nd .lst l'],by rw[eR];generalize wD C m w'=WW;simp[gP],w',l',oz,X8,st,G9,rfl,rfl]
   |rt _ _=>exact q.elim
   |bk _=>exact q.elim
   |ct _=>exact q.elim
  have W0:wD C m w= .nd (.aO gD) [.nd pk (eg C m w.ms), .nd .lst (w.way.map cx), .nd .lst (w.aq.map Uy),iD w.rows]:=rfl;have acL:eP [.nd pk (eg C m w.ms)]\iD m:=by simp[eP,aqw,h.n]
  let rd l1 a1 b1 akr e1:=anD (K:=K) (C:=C) l hl 12 a_ a_;let d2 l2 a2 b2 rC e2:=anD (K:=K) (C:=C) l1 akr (m:Int) b_ (awZ (b:=40) b_ a_);obtain⟨i,rfl⟩:∃i:Nat,d2=i:=#[d2.toNat,by lia]
  have hi:i < m:=b_
  have hs:=dH (show i < -w.ms by rw[h.n];exact hi);generalize w.ms[i]'(h.n^^hi)=s at hs;have ws:=h.ms s (jr hs);let i1 i2:=apD (C:=C) (m:=m) hs;have i3:=Al (C:=C) (m:=m) hs;have pM:=wz (C:=C) m i s;refine Ev.nx (ρ':=eR (wD C m w) l1 (!.own (iD rd)) oM oM oM) (eW (ati (W:=wD C m w) (fl:=λx=>oF (D.sc (V.int 12))) i6 i6 i6 i6 rfl e1) (by
   unfold eR;generalize wD C m w=WW;simp[bq,t9,uc,ue,uf])) ?_
  refine Ev.nx (ρ':=eR (wD C m w) l2 (oF (.own (iD rd))) (oF (.own (iD i))) oM oM) (eW (ati (W:=wD C m w) (fl:=λρ=>(ar (au (aW ay aN) (af 0) λx=>oF (D.sc (V.str (ae "masters")))) (λx=>oF []) ρ).bind eP) cZ i6 i6 i6 (by
   rw[W0];unfold eR;generalize eg C m w.ms=MM at *;simp[aoV,acL,bD,ar,af,aa,aN,aW,jh,au,aV]) e2) (by
   unfold eR;generalize wD C m w=WW;simp[bq,t9,uc,ue,uf])) ?_
  refine Ev.nx (ρ':=eR (wD C m w) l2 (oF (.own (iD rd))) (oF (.own (iD i))) (oF (.aB 6 [0,i])) oM) (by
   rw[W0];unfold eR;generalize d5 C m i s=M at *;simp[aoW (C:=C) h.n h0,aoV,i1,i3,pM,gV,bD,bq,af,aa,cg,dF,jh,nT,oC,aT,VL.plain,bI,aV,t9,uc,ue,uf]) ?_
  have cmp:∀(x4:oT B) (W:D) (l:oH D) (k:Int),((λρ=>aX (λb=>(b,ρ)) ((au (iO λi j=>V.bl (decide (i < j))) (af 2) (λx=>oF (D.sc (V.int k))) ρ).bind λx=>match x with | D.sc (V.bl b)=>oF b | x=>oM)):En->oT (Bool×En)) (eR W l (!.own (iD rd)) (!.own (iD i)) x4 oM)\(decide (rd < k),eR W l (!.own (iD rd)) (!.own (iD i)) x4 oM):=λx4 W l k=>by
   rw[eR];simp[bD,af,iO,au]
  have atj:∀(x4:oT B) (W:D) (l:oH D) (k:Int),((λρ=>aX (λb=>(b,ρ)) ((au (iO λi j=>V.bl (decide (j < i))) (af 2) (λx=>oF (D.sc (V.int k))) ρ).bind λx=>match x with | D.sc (V.bl b)=>oF b | x=>oM)):En->oT (Bool×En)) (eR W l (!.own (iD rd)) (!.own (iD i)) x4 oM)\(decide (k < rd),eR W l (!.own (iD rd)) (!.own (iD i)) x4 oM):=λx4 W l k=>by
   rw[eR];simp[bD,af,iO,au]
  have aqB:∀(x4:oT B) (W:D) (l:oH D) (k:Int),((λρ=>aX (λb=>(b,ρ)) ((au (dN id) (af 2) (λx=>oF (D.sc (V.int k))) ρ).bind λx=>match x with | D.sc (V.bl b)=>oF b | x=>oM)):En->oT (Bool×En)) (eR W l (!.own (iD rd)) (!.own (iD i)) x4 oM)\(decide (rd=k),eR W l (!.own (iD rd)) (!.own (iD i)) x4 oM):=λx4 W l k=>by
   rw[eR];simp[oX,bD,af,au]
  have tr:∀{b:Prop} [Decidable b] {x:oT (Bool×En)} {ρ1:En},x\(decide b,ρ1)->b->x\(oP,ρ1):=λ{b _ x ρ1} h hb=>by rw[h,decide_eq_true hb]
  have fa:∀{b:Prop} [Decidable b] {x:oT (Bool×En)} {ρ1:En},x\(decide b,ρ1)->¬ b->x\(yv,ρ1):=λ{b _ x ρ1} h hb=>by rw[h,decide_eq_false hb]
  by_cases c4:rd < 4
  .refine Ev.aoj (tr (cmp _ _ _ _) c4) ?_
   -- rise
   have wr:=asZ ws (atz i) (by lia:(i:Int) < m);have er:=avY (K:=K) (C:=C) m i s ws.wf.rows (eK ws.wf.len b_) h0 b_;have anY:∀g∈w5 m i (rise m i s).te,WD m 900 g:=avR b_ b_;have en:=apg (K:=K) (C:=C) m { w with ms:=w.ms.set i (rise m i s) } i "rise" (.sc .aG) (!w5 m i (rise m i s).te) (rise m i s) (by show(w.ms.set i _)[i]?=_;exact gK (cX.mp hs).1) wr.wf.rows (eK wr.wf.len b_) rfl (λl hl=>by
    cases hl;exact#[λg hg=>(anY g hg).ok,by rw[w5];rw[nI];exact eK (aoG _ _) b_]) #[λg hg=>((h.way g hg).mono b_).ok,h.G3] (by show -w.aq<=900;lia)
   have UZ:Eg (.nd .lst ((w5 m i (rise m i s).te).map cx))=x8 (!w5 m i (rise m i s).te):=by
    show(if _ then _ else _)=_;rw[zJ (an8 λg hg=>(anY g hg).ok)];rfl
   rw[<- UZ]at en;have po:VL.plain (Eg (.nd .lst ((w5 m i (rise m i s).te).map cx)))=oP:=by rw[UZ];exact arJ (b:=900) λl hl g hg=>by cases hl;exact(anY g hg).ok
   have ho:A0 C "rise" (d5 C m i s)=oP:=aoB c_ _ _ _ _ _ _ _ _ _;have ec:=aEG (C:=C) (GR:=aoE K C) (GN:=an6 K C) (ks:=gD) (l:=l2) (x2:=oF (.own (iD rd))) (x5:=oM) cZ i6 i3 (apE m w.ms i (rise m i s)) pM (wz m i _) ho er po en;have sw:Step m w (w.note i "rise" (.sc .aG) (!w5 m i (rise m i s).te) (rise m i s)):= .rise w i s hs;have tR:=Step.ww hm sw h;refine Ev.nx ec ?_;by_cases c0:0 < rd
   .refine Ev.aoj (tr (atj _ _ _ _) c0) ?_;let w2 l3 N1 ahc dJ xO _ e3:=atf (K:=K) (C:=C) m h0 hm _ tR (by rw[an9];lia) "stand" "voice" (decide (rd=1)) l2 rC;exact#[_,aEI cZ i6 i6 e3,w2,l3,_,_,_,_,N1,ahc, .cons sw dJ,by rw[an9]at xO;lia,rfl]
   .refine Ev.Mh (fa (atj _ _ _ _) c0) #[_,rfl,_,l2,_,_,_,_,rC,tR, .one sw,by rw[an9];lia,rfl]
  .refine Ev.Mh (fa (cmp _ _ _ _) c4) ?_;by_cases c8:rd < 8
   .refine Ev.aoj (tr (cmp _ _ _ _) c8) ?_;let w1 l3 N1 tR bQ pJ e3:=aEF (K:=K) (C:=C) m h0 hm w h b_ l2 rC;refine Ev.nx (aEL cZ cZ i6 e3) ?_;by_cases c5:4 < rd
    .refine Ev.aoj (tr (atj _ _ _ _) c5) ?_;let w2 l4 api ahc dJ xO _ e4:=atf (K:=K) (C:=C) m h0 hm w1 tR b_ "keep" "kept" (decide (rd=5)) l3 N1;exact#[_,aEJ cZ i6 i6 e4,w2,l4,_,_,_,_,api,ahc,bQ.trans dJ,by lia,rfl]
    .exact Ev.Mh (fa (atj _ _ _ _) c5) #[_,rfl,w1,l3,_,_,_,_,N1,tR,bQ,by lia,rfl]
   .refine Ev.Mh (fa (cmp _ _ _ _) c8) ?_;by_cases d8:rd=8
    .refine Ev.aoj (tr (aqB _ _ _ _) d8) ?_;have wr:=ax9 ws;have er:=aDO (K:=K) (C:=C) m i s;have en:=apg (K:=K) (C:=C) m { w with ms:=w.ms.set i (alM s) } i "fall" (.sc .aG) (![]) (alM s) (by show(w.ms.set i _)[i]?=_;exact gK (cX.mp hs).1) wr.wf.rows (eK wr.wf.len b_) rfl (λl hl=>by
      cases hl;exact#[(λ_ h=>nomatch h),by decide]) #[λg hg=>((h.way g hg).mono b_).ok,h.G3] (by show -w.aq<=900;lia)
     have ho:A0 C "fall" (d5 C m i s)=oP:=aoB c_ _ _ _ _ _ _ _ _ _;have ec:=aEH (C:=C) (GR:=arG K C) (GN:=an6 K C) (ks:=gD) (l:=l2) (x2:=oF (.own (iD rd))) (x5:=oM) cZ i6 i3 (apE m w.ms i (alM s)) pM (wz m i _) ho er rfl en;have sw:Step m w (w.note i "fall" (.sc .aG) (![]) (alM s)):= .aqx w i s hs;exact#[_,ec,_,l2,_,_,_,_,rC,Step.ww hm sw h, .one sw,by rw[an9];lia,rfl]
    .refine Ev.Mh (fa (aqB _ _ _ _) d8) ?_;by_cases d9:rd=9
     ·refine Ev.aoj (tr (aqB _ _ _ _) d9) ?_;let j l3 hj N1 e3:=azm (K:=K) (C:=C) m h0 hm w h l2 rC;have hM:=gp (ks:=gD) (a:= .nd .lst (w.way.map cx)) (b:= .nd .lst (w.aq.map Uy)) (c:=iD w.rows) i3 (wz m _ _);refine Ev.nx (aEM cZ cZ i6 (azr m w) hM e3) ?_;have apJ:=dH (show j < -w.ms by rw[h.n];exact hj);generalize w.ms[j]'(by rw[h.n];exact hj)=sj at apJ;have atk:=h.ms sj (jr apJ);let j1 j2:=apD (C:=C) (m:=m) apJ;have es:=ayw (K:=K) (C:=C) m j sj (atk.wf.mono b_) b_;have anY:∀g∈sends m j sj,WD m (-w.aq) g:=avT atk b_ b_;have awp:-(sends m j sj)<=100:=by
       rw[sends]
       split
       .rw[keeps];rw[nI];exact eK (aoG _ _) b_
       .exact jO _
      have atl:w.ms.set j sj=w.ms:=by
       let hh e:=cX.mp apJ;rw[<- e];exact aHw hh
      have en:=apg (K:=K) (C:=C) m w j "send" (.sc .aG) (!sends m j sj) sj apJ atk.wf.rows (eK atk.wf.len b_) rfl (λl hl=>by
       cases hl;exact#[λg hg=>((anY g hg).mono b_).ok,awp]) #[λg hg=>((h.way g hg).mono b_).ok,h.G3] b_
      have awq:cz.apf w j "send" (.sc .aG) (!sends m j sj) sj=w.note j "send" (.sc .aG) (!sends m j sj) sj:=by
       rw[cz.apf,cz.note];rw[atl]
      rw[awq]at en;have UZ:Eg (.nd .lst ((sends m j sj).map cx))=x8 (!sends m j sj):=by
       show(if _ then _ else _)=_;rw[zJ (an8 λg hg=>(anY g hg).ok)];rfl
      rw[<- UZ]at en;have po:VL.plain (Eg (.nd .lst ((sends m j sj).map cx)))=oP:=by rw[UZ];exact arJ λl hl g hg=>by cases hl;exact(anY g hg).ok
      have ho:A0 C "send" (d5 C m j sj)=oP:=aoB c_ _ _ _ _ _ _ _ _ _;have ec:=aEN (C:=C) (GS:=aoD K C) (GN:=an6 K C) (ks:=gD) (l:=l3) (j:=i) (x2:=oF (.own (iD rd))) (x5:=oM) cZ i6 (λx=>aoV x _ _ _) j1 j2 (Al apJ) (wz m j sj) ho es po en;have sw:Step m w (w.note j "send" (.sc .aG) (!sends m j sj) sj):= .send w j sj apJ;have tR:=Step.ww hm sw h;refine Ev.nx ec ?_;let w2 l4 api ahc dJ xO _ e4:=atf (K:=K) (C:=C) m h0 hm _ tR (by rw[an9];lia) "keep" "kept" yv l3 N1;exact#[_,aEK cZ cZ i6 i6 e4,w2,l4,_,_,_,_,api,ahc, .cons sw dJ,by rw[an9]at xO;lia,rfl]
     .refine Ev.Mh (fa (aqB _ _ _ _) d9) ?_;by_cases azs:rd=10
      .refine Ev.aoj (tr (aqB _ _ _ _) azs) ?_;let k l3 a3 b3 N1 e3:=anD (K:=K) (C:=C) l2 rC 20 a_ a_;obtain⟨k,rfl⟩:∃k':Nat,k=k':=#[k.toNat,by lia]
       have hc:arj (.nd .lst (w.way.map cx)) (iD k)\.nd .lst ((w.way.drop k).map cx):=by
        have p:VL.bI (w.way.map cx)=oP:=an8 λg hg=>(h.way g hg).ok;have c:=arH (w.way.map cx) k;rw[awU];generalize w.way.map cx=wy at *;simp[arj,oS,p,c]
       have ec:=aEO (b:= .nd .lst (w.aq.map Uy)) (c:=iD w.rows) (x2:=oF (.own (iD rd))) (x3:=oF (.own (iD i))) (x5:=oM) cZ cZ i6 i3 (wz m _ _) e3 hc;have sw:Step m w { w with way:=w.way.drop k }:= .drop w _ (λg hg=>awO hg) (by rw[aik];lia);exact#[_,ec,_,l3,_,_,_,_,N1,Step.ww hm sw h, .one sw,by show -w.aq<=_;lia,rfl]
      .refine Ev.Mh (fa (aqB _ _ _ _) azs) ?_;exact Ev.mono (aES m h0 hm w h b_ _ _ cZ cZ i hi l2 rC) λfl q=>by
        cases fl with
        |nx ρ=>
         let w' l' x2 x3 x4 x5 oz X8 st G9 e:=q;exact#[w',l',x2,x3,x4,x5,oz,X8,st,by lia,e]
        |rt _ _=>exact q.elim
        |bk _=>exact q.elim
        |ct _=>exact q.elim
 let d o e w' l' h1 h2 h3 h4 rfl rfl:=key;exact#[w',l',h1,h2,h3,h4,e]
end
def w0(m:Nat):cz:=#[ug m s0, [], [],0]
theorem atm(m:Nat):Ww m (w0 m):=by
 refine#[by simp[w0],λs hs=> ?_,(λ_ h=>nomatch h),jO _,(λ_ h=>nomatch h)];rw[aBA hs];exact#[#[eU.nil,jO _, .inl rfl,atw,jO _,(λ_ h=>nomatch h),atw,jO _],(λ_ h=>nomatch h),λ_ h=>nomatch h]
theorem aEV(m:Nat):eg C m (w0 m).ms=(kf m).map λi:Nat=>d5 C m (i:Int) s0:=by
 refine aBz λj=> ?_;rw[eg,w0];rw[atA,bJ];by_cases h:j < m
 .rw[NK,zJ h,V6 h];rfl
 .rw[NK,zK h,uU f_];rfl
theorem aEW(m:Nat)(hm:m < 100)(a b:D)(hn:∀f∈mH,mf K C f):(iJ 3 [oM,!2] [0] (λρ=>(ar (af 2) (λx=>oF []) ρ).bind tZ) (λd ρ=>oF (bq 0 (B.ro d) ρ)) (λx=>oF oP) (oQ (apd K C) C 2 (ar (af 0) (ar (af 1) λx=>oF [])))) [k_ a,j_ b,j_ (iD m)]\.nd .lst (eg C m (w0 m).ms):=by
 have e:=qD (n:=3) (js:= [oM,!2]) (is:= [0]) (fi:=(λρ=>(ar (af 2) (λx=>oF []) ρ).bind tZ)) (fg:=(λd ρ=>oF (bq 0 (B.ro d) ρ))) (ft:=(λx=>oF oP)) (fe:=(oQ (apd K C) C 2 (ar (af 0) (ar (af 1) λx=>oF [])))) (ρ:= [k_ a,j_ b,j_ (iD m)]) (kf m) (λi=>iD i) (λ_=>oP) (λi:Nat=>d5 C m (i:Int) s0) ?_ (apk^^eK (by lia:m<=100) a_) rfl ?_
 .rw[uV.mpr (λ_ _=>rfl)]at e;rw[aEV];lk
 .refine ak.mpr #[[iD m], ?_, ?_]
  .simp[bD,ar,af]
  .rw[apv _ hm,Ri]
 .intro i hi;have hi:apd K C [.nd (.obj C []) [],iD i,iD m]\(.sc .aG, [d5 C m (i:Int) s0]):=af8 (K:=K) (C:=C) i m hn;generalize d5 C m (i:Int) s0=M at *;generalize apd K C=GI at *;simp[hi,bD,bq,gH,ar,af,oO,oQ,t9,ud,ue]
theorem aEX(m:Nat):asv (iw (λx=>oF (D.sc (V.str (ae "masters")))) (λ_=>oF (.nd .lst (eg C m (w0 m).ms))) (iw (λx=>oF (D.sc (V.str (ae "way")))) (d7 Kd.lst λx=>oF []) (iw (λx=>oF (D.sc (V.str (ae "story")))) (d7 Kd.lst λx=>oF []) (iw (λx=>oF (D.sc (V.str (ae "rows")))) (λx=>oF (D.sc (V.int 0))) λx=>oF ([], []))))) []\wL C m (w0 m):=by
 have hk:wM [sD "masters",sD "way",sD "story",sD "rows"]\gD:=by simp[wM,kJ,gD]
 have hc:gD.Nodup/\-gD=4/\-gD<=15:=haveI:Pn:=#[0, []];#[av7,rfl,by decide];generalize hM:eg C m (w0 m).ms=MM;have e:iw (λx=>oF (D.sc (V.str (ae "masters")))) (λ_=>oF (.nd .lst MM)) (iw (λx=>oF (D.sc (V.str (ae "way")))) (d7 Kd.lst λx=>oF []) (iw (λx=>oF (D.sc (V.str (ae "story")))) (d7 Kd.lst λx=>oF []) (iw (λx=>oF (D.sc (V.str (ae "rows")))) (λx=>oF (D.sc (V.int 0))) λx=>oF ([], [])))) []\([sD "masters",sD "way",sD "story",sD "rows"], [.nd .lst MM, .nd .lst [], .nd .lst [],iD 0]):=by
  simp[iw,d7]
 rw[asv];refine ak.mpr #[_,e,ak.mpr #[gD,hk, ?_]];refine(zJ hc).trans ?_;rw[wL];rw[hM];rfl
theorem aEY(d:Int)(h0:0<=d)(h8:d < 8):∃m:Nat,0 < m/\m<=7/\gQ ay aN (.nd .lst [iD 1,iD 2,iD 3,iD 3,iD 4,iD 5,iD 6,iD 7]) (iD d)\iD m:=by
 let n rfl:=Int.eq_ofNat_of_zero_le h0;have h:n < 8:=Int.ofNat_lt.mp h8
 match n,h with
 |0,_=>exact#[1,by decide,by decide,rfl]
 |1,_=>exact#[2,by decide,by decide,rfl]
 |2,_=>exact#[3,by decide,by decide,rfl]
 |3,_=>exact#[3,by decide,by decide,rfl]
 |4,_=>exact#[4,by decide,by decide,rfl]
 |5,_=>exact#[5,by decide,by decide,rfl]
 |6,_=>exact#[6,by decide,by decide,rfl]
 |7,_=>exact#[7,by decide,by decide,rfl]
 |n + 8,h=>exact absurd h (awN.mpr (Nat.le_add_left _ _))
theorem aEZ(cs:oH Int)(hn:∀f∈mH,mf K C f):∃m:Nat,0 < m/\m<=7/\asN K C [qI cs]\wL C m (w0 m):=by
 let l hl e1:=azi (K:=K) (C:=C) cs 0 a_;let d l' a1 b1 oz e2:=anD (K:=K) (C:=C) l hl 8 a_ a_;let m h0 h7 arR:=aEY d a1 b1;refine#[m,h0,h7, ?_];have aE0:=aEW (K:=K) (C:=C) m b_ (qI cs) (.nd .lst l') hn;have hd:=aEX (C:=C) m;rw[asN,avp];dsimp only;refine fQ (ρ':= [k_ (qI cs),j_ (.nd .lst l'),j_ (iD m)]) (aD (ρ':= [k_ (qI cs),j_ (.nd .lst l),oM]) ?_ (aD (ρ':= [k_ (qI cs),j_ (.nd .lst l'),j_ (iD m)]) (eW (ρ1:= [k_ (qI cs),j_ (.nd .lst l'),oM]) (j7 (a:= .nd .lst [iD 1,iD 2,iD 3,iD 3,iD 4,iD 5,iD 6,iD 7]) (b:=iD d) (ρ1:= [k_ (qI cs),j_ (.nd .lst l),oM]) ?_ ?_ arR) ?_) (cD (e9 ?_))))
 .have e1:uu K C [qI cs,iD 0]\.nd .lst l:=e1;generalize uu K C=GL at *;simp[ug,e1,dU,bD,bq,ar,af,t9,ud,ue]
 .simp[ar,d7,aCe]
 .generalize Bp K C=GP at *;simp[e2,kX,mY,gG,cT,gn,mr,fL,j3,aa,gg,aT,eT,fO,g9,aV,jF,kY,aZ]
 .simp[bq,t9,uc,ud,ue]
 .rw[asv]at hd |-;let p hp hq:=i_ hd;refine ak.mpr #[p, ?_,hq];let k0 aE1 hp:=i_ hp;let v0 aE2 hp:=i_ hp;exact ak.mpr #[k0,aE1,ak.mpr #[v0,by rw[<- aE2];exact aE0,hp]]
noncomputable def Hm:Nat->oH Nat->oH (oH Nat)
 |0,_=> [[]]
 |n + 1,P=>(kf (-P)).flatMap λk=>(Hm n (P.drop (k + 1))).map (P.getD k 0:: ·)
theorem awr:∀(n:Nat) (P c:oH Nat),c∈Hm n P->c.Sublist P/\-c=n
 |0,P,c,h=>by
  rw[Hm,ly]at h;subst h;exact#[List.nil_sublist _,rfl]
 |n + 1,P,c,h=>by
  rw[Hm]at h;let k hk h:=List.mem_flatMap.mp h;let c' hc rfl:=gY.mp h;let a b:=awr n _ _ hc;have hk:=sH.mp hk;refine#[?_,by rw[p8,b]];have e:P.drop k=P.getD k 0::P.drop (k + 1):=by
   rw[xl,dH hk];exact Cr hk
  exact(a.cons₂ (P.getD k 0)).trans (e▸List.drop_sublist k P)
theorem aws:∀(n:Nat) (P:oH Nat),P.length<=7->n<=5->-(Hm n P)<=7 ^ n
 |0,_,_,_=>bO _
 |n + 1,P,h,hn=>by
  rw[Hm,List.length_flatMap];have:∀(l:oH Nat),((l.map λk=>-((Hm n (P.drop (k + 1))).map (P.getD k 0:: ·)))).sum<=-l * 7 ^ n:=λl=>by
   induction l with
   |nil=>simp
   |cons k l ih=>
    have:=aws n (P.drop (k + 1)) (by rw[aik];lia) b_;rw[cP,List.sum_cons,nI,p8,Nat.succ_mul]
    lia
  have:=this (kf (-P));rw[apk]at this;have:-P * 7 ^ n<=7 * 7 ^ n:=aHx _ h;rw[Nat.pow_succ]
  lia
def x9(c:oH Nat):D:= .nd .dk (c.map λi:Nat=>iD i)
def vb(c:oH Nat):D:= .nd .lst (c.map λi:Nat=>iD i)
theorem arT(c:oH Nat):bI (c.map λi:Nat=>iD i)=oP:=vM λd h=>by obtain⟨_,_,rfl⟩:=gY.mp h;rfl
theorem aE3(c:oH (oH Nat)):bI (c.map x9)=oP:=vM λd h=>by let x _ rfl:=gY.mp h;exact arT x
theorem eV{α β:Type}{x:oT α}{a:α}{f:α->oT β}{r:oT β}(h:x\a)(hr:f a=r):x.bind f=r:=by rw[h,aoJ,hr]
theorem bY{g:D->D->oT D}{fa fb:En->oT D}{ρ:En}{a b:D}{r:oT D}(h1:fa ρ\a)(h2:fb ρ\b)(h:g a b=r):au g fa fb ρ=r:=by
 rw[au];rw[h1,aoJ,h2,aoJ,h]
theorem tL{fa:En->oT D}{fr:En->oT (oH D)}{ρ:En}{a:D}{r:oH D}(h1:fa ρ\a)(h2:fr ρ\r):ar fa fr ρ\(a::r):=by
 rw[ar];rw[h1,aoJ,h2];rfl
theorem ao1{x:oT D}{b:Bool}(h:x\.sc (.bl b)):(x.bind λx=>match x with | D.sc (V.bl b)=>oF b | x=>oM)\b:=by rw[h];rfl
theorem aE4{P:oH Nat}{k:Nat}(hk:k < -P):aW ay aN (vb P) (iD k)\iD (P.getD k 0:Nat):=by
 have e1:mq (vb P) (iD k)\k:=by
  have h0:¬ (k:Int) < 0:=b_
  simp[vb,mq,gC,hk]
 show(ay (vb P) (iD k)).bind (jh (vb P))=_;rw[ay];rw[e1];simp[vb,jh,dH hk,xl]
theorem aE5(x:Int)(i:Nat)(c:oH Nat)(hc:-c<=10):apb (.nd .lst [iD i]) (x9 c)\.nd .lst ((i::c).map λi:Nat=>iD i):=by
 have z:1 + -c<=aM:=eK (by lia:_<=11) a_;have p:=arT (i::c);simp[cP]at p;simp[apb,abp,x9,p,z]
theorem aE6{X:D}{ll cs:oH (oH Nat)}(hX:abp X\ll.map x9)(hl:-ll + -cs<=20000):apb X (.nd .lst (cs.map x9))\.nd .lst ((ll++cs).map x9):=by
 have z:-ll + -cs<=aM:=eK hl a_;have p:=aE3 (ll++cs);rw[cK]at p;show(abp X).bind _=_;rw[hX];simp[abp,p,z]
theorem aE7(P:oH Nat)(k:Nat):pO (vb P) (!((k:Int) + 1)) oM\vb (P.drop (k + 1)):=by
 have c:cutD (P.map λi:Nat=>iD i) (!((k:Int) + 1)) oM=(P.map λi:Nat=>iD i).drop (k + 1):=arH _ (k + 1);have p:=arT P;simp[pO,oS,vb,p,c,awU]
theorem azt:∀(j n:Nat) (P:oH Nat),n < j->n<=4->-P<=7->∃X,an7 K C j [vb P,iD n]\X/\abp X\(Hm n P).map x9
 |0,n,P,h,_,_=>absurd h (Nat.not_lt_zero n)
 |j + 1,0,P,_,_,_=>by
  refine#[.nd .lst [x9 []], ?_,rfl];show bV 4 (arC K C (an7 K C j)) _=_;rw[arC,asU];dsimp only;generalize vb P=PP;have h1:1<=aM:=a_
  simp[rQ,h1,bV,oX,x9,kT,gv,au,af,bD,jg,ju,eJ,y7,Eg,bI]
 |j + 1,n + 1,P,hj,hn,hP=>by
  have key:∃d,an7 K C (j + 1) [vb P,iD (n + 1:Nat)]\d/\abp d\(Hm (n + 1) P).map x9:=by
   show ∃d,bV 4 (arC K C (an7 K C j)) _\d/\_;rw[arC,asU];dsimp only;refine Rg (Ev.nx (ρ':= [k_ (vb P),k_ (iD (n + 1:Nat)),oM,oM]) ?_ (Ev.nx (ρ':= [k_ (vb P),k_ (iD (n + 1:Nat)),j_ (.nd .dk []),oM]) ?_ (Ev.seq (Ev.aui (m:=-P) (ak.mpr #[[iD (-P)], ?_,apv _ b_]) (λq ρ=>∃(X:D) (x3:oT B),abp X\((kf q).flatMap λk=>(Hm n (P.drop (k + 1))).map (P.getD k 0:: ·)).map x9/\NA x3/\ρ= [k_ (vb P),k_ (iD (n + 1:Nat)),j_ X,x3]) #[_,oM,rfl,i6,rfl] ?_ ?_))))
   .generalize vb P=PP;have:((n + 1:Nat):Int)≠0:=b_
    simp[ug,oX,gv,au,af,bD]
    lia
   .generalize vb P=PP;simp[dU,ju,y7,Eg,bI,bq,t9,ud,ue]
   .simp[ar,af,bD,eP,vb]
   .rintro q hq ρ ⟨X,x3,hX,h3,rfl⟩;let Y eY hY:=azt j n (P.drop (q + 1)) b_ b_ (by rw[aik];lia);have Zk:∀k,(Hm n (P.drop (k + 1))).length<=2401:=λk=>eK (aws n _ (by rw[aik];lia) b_) (aHy b_ (show n<=4 by lia));have Of:∀c∈Hm n (P.drop (q + 1)),c.length<=10:=λc hc=>by rw[(awr n _ c hc).2];lia
    have e1:iJ 4 [oM,!0,!3] [0] (λρ=>((ar (pP (af 0) (λρ=>(au i5 (af 3) (λx=>oF (D.sc (V.int 1))) ρ).bind i9) λx=>oF oM) (ar (au (iO λi j=>V.int (i - j)) (af 1) λx=>oF (D.sc (V.int 1))) λx=>oF []) ρ).bind λds=>if -ds=2 then an7 K C j ds else oM).bind fP) (λd ρ=>oF (bq 0 (B.ro d) ρ)) (λx=>oF oP) (aus (au apb (d7 Kd.lst (ar (au (aW ay aN) (af 1) (af 2)) λx=>oF [])) (af 0)))
      [k_ (vb P),k_ (iD (n + 1:Nat)),j_ X,k_ (iD q)]\.nd .lst (((Hm n (P.drop (q + 1))).map (P.getD q 0:: ·)).map x9):=by
     have e:=qD (n:=4) (js:= [oM,!0,!3]) (is:= [0]) (fg:=(λd ρ=>oF (bq 0 (B.ro d) ρ))) (ft:=λx=>oF oP) (ρ:= [k_ (vb P),k_ (iD (n + 1:Nat)),j_ X,k_ (iD q)]) (fi:=(λρ=>((ar (pP (af 0) (λρ=>(au i5 (af 3) (λx=>oF (D.sc (V.int 1))) ρ).bind i9) λx=>oF oM) (ar (au (iO λi j=>V.int (i - j)) (af 1) λx=>oF (D.sc (V.int 1))) λx=>oF []) ρ).bind λds=>if -ds=2 then an7 K C j ds else oM).bind fP)) (fe:=(aus (au apb (d7 Kd.lst (ar (au (aW ay aN) (af 1) (af 2)) λx=>oF [])) (af 0)))) (Hm n (P.drop (q + 1))) x9 (λ_=>oP) (λc=>x9 (P.getD q 0::c)) ?_ (eK (Zk q) a_) rfl ?_
     .rw[e,uV.mpr λ_ _=>rfl,mJ];rfl
     .have c1:=aE7 P q;have hi:fP Y\(Hm n (P.drop (q + 1))).map x9:=by
       cases Y with
       |nd k cs=>cases k <;> first | exact hY | (exact nomatch hY)
       |sc _=>exact nomatch hY
       |hl _=>exact nomatch hY
      generalize an7 K C j=G at *;generalize vb (P.drop (q + 1))=Q at *;have e3:(((n + 1:Nat):Int)) - 1=(n:Nat):=b_
      generalize hN:(n + 1:Nat)=N at *;have e2:pP (af 0) (λρ=>(au i5 (af 3) (λx=>oF (D.sc (V.int 1))) ρ).bind i9) (λx=>oF oM) [k_ (vb P),k_ (iD N),j_ X,k_ (iD q)]\Q:=by
       generalize vb P=PP at *;lk
      refine eV (eV (a:= [Q,iD n]) ?_ eY) hi;exact tL e2 (tL (bY (a:=iD N) (b:=iD 1) rfl rfl (by show oF (iD ((N:Int) - 1))=_;rw[e3])) rfl)
     .intro c hc;refine#[_,rfl,rfl,λ_=> ?_];refine(congrArg (aX Eg) (bY (a:= .nd .lst [iD (P.getD q 0:Nat)]) (b:=x9 c) (eV (a:= [iD (P.getD q 0:Nat)]) (eV (bY (a:=vb P) (b:=iD q) rfl rfl (aE4 hq)) rfl) rfl) rfl (aE5 0 _ c (Of c hc)))).trans ?_;have p:=arT (P.getD q 0::c);show oF (if bI ((P.getD q 0::c).map λi:Nat=>iD i)=oP then _ else _)=_;rw[zJ p];rfl
    have iY:∀l:oH Nat,((l.flatMap λk=>(Hm n (P.drop (k + 1))).map (P.getD k 0:: ·))).length<=-l * 2401:=λl=>by
     induction l with
     |nil=>simp
     |cons k l ih=>
      have:=Zk k;rw[aHz,eO,nI,p8,Nat.succ_mul]
      lia
    have ha:=iY (kf q);rw[apk]at ha;have aIs:q * 2401<=6 * 2401:=aHx _ b_;have e4:=aE6 hX (cs:=(Hm n (P.drop (q + 1))).map (P.getD q 0:: ·)) (by rw[nI];have:=Zk q;lia);refine#[[k_ (vb P),k_ (iD (n + 1:Nat)),j_ X,k_ (iD q)],by generalize vb P=PP;simp[abj h3,bq,t9,uc,ud], .nx [k_ (vb P),k_ (iD (n + 1:Nat)),!.own _,k_ (iD q)],eW (e9 (bY (a:=X) rfl e1 e4)) (by generalize vb P=PP;rfl),_,!.ro (iD q), ?_,dO,rfl];rw[List.range_succ,List.flatMap_append,aHz,List.flatMap_nil,nM];rfl
   .rintro ρ ⟨X,x3,hX,h3,rfl⟩;by_cases pX:VL.plain X=oP
    .exact#[.rt X _,cD (show(if VL.plain X=oP then _ else _)=_ from zJ pX),hX]
    .exact#[.rt X _,cD (show(if VL.plain X=oP then _ else _)=_ from zK pX),hX]
  lk
theorem atn(h:eU L):Ex 2 (.nd .lst L):= .lst 1 _ λd hd=>ax3 (h d hd)
theorem azu(g:Bool->Bool)(a:D)(cs:oH D):dN g a (.nd .dk cs)=dN g a (.nd .lst cs):=by simp[dN,cy]
theorem azv{A B:oH D}(ha:eU A)(hb:eU B)(h:A=B):dN id (.nd .lst A) (.nd .lst B)\.sc (.bl oP):=by
 let c hc e:=(atn ha).eq (atn hb) a_ a_ id;rw[e,hc.mpr (by rw[h])];rfl
theorem azw{A B:oH D}(ha:eU A)(hb:eU B)(h:A=B):dN not (.nd .lst A) (.nd .lst B)\.sc (.bl yv):=by
 let c hc e:=(atn ha).eq (atn hb) a_ a_ not;rw[e,hc.mpr (by rw[h])];rfl
theorem apK(h:eU L)(k:Nat):eU (L.take k):=λd hd=>h d (aBu hd)
theorem awt(h:eU L)(k:Nat):pO (.nd .lst L) oM (!(k:Int))\.nd .lst (L.take k):=by
 simp[pO,oS,h.plain,asX]
theorem azx(h:eU L)(k:Nat):pO (.nd .dk L) oM (!(k:Int))\.nd .lst (L.take k):=by
 simp[pO,oS,h.plain,asX]
noncomputable def eG (b0:B) (M:D) (x2 x3 x4:oT B):En:= [!b0,k_ M,x2,x3,x4]
theorem aE8{M Z:D}(hb:b0= .ro (.nd .dk W)\/b0= .own (.nd .dk W))(hW:eU W)(hL:eU s.L)(d0:0<=s.dn)(dl:s.dn<=s.L.length)(z1:-s.L<=1000)(z2:-W<=1000)(pc:sure s <+:W\/W <+:sure s)(h3:NA x3)(h4:NA x4)
  (f1:ji "log" Z\.nd .lst s.L) (f2:ji "done" Z\iD s.dn):
  ∃aos apL U0,(aos= .ro (.nd .dk (if -W < -(sure s) then sure s else W))\/aos= .own (.nd .dk (if -W < -(sure s) then sure s else W)))/\NA apL/\NA U0/\
  (kT (dU 3 (y7 λρ=>aX (λd=>(d,ρ)) ((ar (pP (λρ=>(af 2 ρ).bind (ji (ae "log"))) (λx=>oF oM) λρ=>((af 2 ρ).bind (ji (ae "done"))).bind i9) (λx=>oF []) ρ).bind apU))) (kT (dU 4 λρ=>aX (λd=>(d,ρ)) ((ar (λρ=>(ar (af 3) (λx=>oF []) ρ).bind eP) (ar (λρ=>(ar (af 0) (λx=>oF []) ρ).bind eP) λx=>oF []) ρ).bind (kB λi j=>V.int (if j < i then j else i)))) (kT (gv (λρ=>aX (λb=>(b,ρ)) (mV (λρ=>(au (iO λi j=>V.bl (decide (j < i))) (λρ=>(af 2 ρ).bind (ji (ae "done"))) (λρ=>(ar (λρ=>(af 2 ρ).bind (ji (ae "log"))) (λx=>oF []) ρ).bind eP) ρ).bind λx=>match x with | D.sc (V.bl b)=>oF b | x=>oM) (λρ=>(au (dN λx=> not x) (pP (af 3) (λx=>oF oM) λρ=>(af 4 ρ).bind i9) (pP (af 0) (λx=>oF oM) λρ=>(af 4 ρ).bind i9) ρ).bind λx=>match x with | D.sc (V.bl b)=>oF b | x=>oM) ρ)) (jg λρ=>aX (λd=>(d,ρ)) (!D.sc V.aG)) λρ=>oF (Fl.nx ρ)) (gv (λρ=>aX (λb=>(b,ρ)) ((au (iO λi j=>V.bl (decide (j < i))) (λρ=>(ar (af 3) (λx=>oF []) ρ).bind eP) (λρ=>(ar (af 0) (λx=>oF []) ρ).bind eP) ρ).bind λx=>match x with | D.sc (V.bl b)=>oF b | x=>oM)) (gV 0 (aT 3)) λρ=>oF (Fl.nx ρ))))) (eG b0 M (!.ro Z) x3 x4)\.nx (eG aos M (!.ro Z) apL U0):=by
 have hS:eU (sure s):=apK hL _;have Qr:af 0 (eG b0 M (!.ro Z) x3 x4)\.nd .dk W:=by rcases hb with rfl | rfl <;> rfl
 have dv:∀x3 x4,af 0 (eG b0 M (!.ro Z) x3 x4)\.nd .dk W:=λx3 x4=>by rcases hb with rfl | rfl <;> rfl
 have hn:i9 (iD s.dn)\!((s.dn.toNat:Nat):Int):=by
  show oF (!s.dn)=_;rw[Int.toNat_of_nonneg d0]
 have s1:=awt hL s.dn.toNat;have ls:∀L:oH D,eP [.nd .dk L]\iD (-L):=λ_=>rfl;generalize aE9:sure s=S at *;have e1:dU 3 (y7 λρ=>aX (λd=>(d,ρ)) ((ar (pP (λρ=>(af 2 ρ).bind (ji (ae "log"))) (λx=>oF oM) λρ=>((af 2 ρ).bind (ji (ae "done"))).bind i9) (λx=>oF []) ρ).bind apU)) (eG b0 M (!.ro Z) x3 x4)\.nx (eG b0 M (!.ro Z) (!.own (.nd .dk S)) x4):=by
  refine eW (ρ1:=eG b0 M (!.ro Z) x3 x4) (d:= .nd .dk S) ?_ ?_
  .have eL:pP (λρ=>(af 2 ρ).bind (ji (ae "log"))) (λx=>oF oM) (λρ=>((af 2 ρ).bind (ji (ae "done"))).bind i9) (eG b0 M (!.ro Z) x3 x4)\.nd .lst S:=by
    refine eV (a:=D.nd .lst s.L) (eV (a:=Z) rfl f1) (eV (a:=(oM:oT Int)) rfl (eV (a:=oF ((s.dn.toNat:Nat):Int)) (eV (eV (a:=Z) rfl f2) hn) ?_));rw[<- aE9];lk
   have eD:apU [.nd .lst S]\.nd .lst S:=zJ hS.plain;refine(congrArg (aX λr:D×En=>(Eg r.1,r.2)) (e9 (eV (tL eL rfl) eD))).trans ?_;show oF (if bI S=oP then _ else _,_)=_;rw[zJ hS.plain]
  .unfold eG bq;rcases hb with rfl | rfl <;> simp[abj h3,abj h4,t9,uc,ud]
 generalize hk:(if -W < -S then -W else -S)=k;have aFa:(if(-W:Int) < -S then(-W:Int) else -S)=(k:Int):=by rw[<- hk];split <;> split <;> lia
 have e2:(dU 4 λρ=>aX (λd=>(d,ρ)) ((ar (λρ=>(ar (af 3) (λx=>oF []) ρ).bind eP) (ar (λρ=>(ar (af 0) (λx=>oF []) ρ).bind eP) λx=>oF []) ρ).bind (kB λi j=>V.int (if j < i then j else i)))) (eG b0 M (!.ro Z) (!.own (.nd .dk S)) x4)\.nx (eG b0 M (!.ro Z) (!.own (.nd .dk S)) (!.own (iD k))):=by
  refine eW (ρ1:=eG b0 M (!.ro Z) (!.own (.nd .dk S)) x4) (d:=iD k) (e9 (eV (a:= [iD (-S),iD (-W)]) (tL (eV (a:= [.nd .dk S]) (tL rfl rfl) rfl) (tL (eV (a:= [.nd .dk W]) (tL (dv _ _) rfl) rfl) rfl)) ?_)) ?_
  .show oF (D.sc (V.int (if(-W:Int) < -S then(-W:Int) else -S)))=_;rw[aFa]
  .unfold eG bq;rcases hb with rfl | rfl <;> simp[abj h4,t9,uc,ud]
 have et:S.take k=W.take k:=by
  rcases pc with h | h
  .let r rfl:=h;rw[aBC (by rw[<- hk];split <;> lia)]
  .let r rfl:=h;rw[aBC (by rw[<- hk,eO];split <;> lia)]
 have e3:(mV (λρ=>(au (iO λi j=>V.bl (decide (j < i))) (λρ=>(af 2 ρ).bind (ji (ae "done"))) (λρ=>(ar (λρ=>(af 2 ρ).bind (ji (ae "log"))) (λx=>oF []) ρ).bind eP) ρ).bind λx=>match x with | D.sc (V.bl b)=>oF b | x=>oM) (λρ=>(au (dN λx=> not x) (pP (af 3) (λx=>oF oM) λρ=>(af 4 ρ).bind i9) (pP (af 0) (λx=>oF oM) λρ=>(af 4 ρ).bind i9) ρ).bind λx=>match x with | D.sc (V.bl b)=>oF b | x=>oM)) (eG b0 M (!.ro Z) (!.own (.nd .dk S)) (!.own (iD k)))\yv:=by
  refine eV (a:=yv) (ao1 (bY (a:=iD s.dn) (b:=iD (-s.L)) (eV (a:=Z) rfl f2) (eV (a:= [.nd .lst s.L]) (tL (eV (a:=Z) rfl f1) rfl) rfl) ?_)) (ao1 (bY (a:= .nd .lst (S.take k)) (b:= .nd .lst (W.take k)) (eV (a:= .nd .dk S) rfl (eV (a:=oM) rfl (eV (a:=oF (k:Int)) rfl (azx hS k)))) (eV (a:= .nd .dk W) (dv _ _) (eV (a:=oM) rfl (eV (a:=oF (k:Int)) rfl (azx hW k)))) (azw (apK hS _) (apK hW _) et)));show oF (D.sc (V.bl (decide ((-s.L:Int) < s.dn))))=_;rw[decide_eq_false b_]
 have e4:au (iO λi j=>V.bl (decide (j < i))) (λρ=>(ar (af 3) (λx=>oF []) ρ).bind eP) (λρ=>(ar (af 0) (λx=>oF []) ρ).bind eP) (eG b0 M (!.ro Z) (!.own (.nd .dk S)) (!.own (iD k)))\.sc (.bl (decide ((-W:Int) < -S))):=bY (a:=iD (-S)) (b:=iD (-W)) (eV (a:= [.nd .dk S]) (tL rfl rfl) rfl) (eV (a:= [.nd .dk W]) (tL (dv _ _) rfl) rfl) rfl;by_cases c:-W < -S
 .rw[zJ c];refine#[.own (.nd .dk S),!.own (.nd .dk S),!.own (iD k), .inr rfl,cZ,cZ,aD e1 (aD e2 (aD (mB (c:=yv) (apF e3) rfl) (mB (c:=oP) (apF (ao1 (by rw[e4,decide_eq_true b_]))) ?_)))];rw[zJ rfl];have pS:VL.plain (.nd .dk S)=oP:=hS.plain;refine eV (a:=Pl.rt 3 []) rfl (eV (a:=D.nd .dk S) rfl ((zJ pS).trans ?_));unfold eG bq;rcases hb with rfl | rfl <;> simp[t9,uc,ud]
 .rw[zK c];exact#[b0,!.own (.nd .dk S),!.own (iD k),hb,cZ,cZ,aD e1 (aD e2 (aD (mB (c:=yv) (apF e3) rfl) (mB (c:=yv) (apF (ao1 (by rw[e4,decide_eq_false b_]))) rfl)))]
theorem azy:∀(l:oH MS) (W:oH D) (z:Nat),W.length<=z->(∀s∈l,s.L.length<=z)->-(ahb l W)<=z
 | [],W,z,h,_=>h
 |s::l,W,z,h,hs=>by
  rw[ahb];refine azy l _ z ?_ λx hx=>hs x (.tail _ hx)
  split
  .exact eK (aHA _ _) (hs s (.head _))
  .lk
theorem awu:∀(l:oH MS) (W:oH D),eU W->(∀s∈l,eU s.L)->eU (ahb l W)
 | [],W,h,_=>h
 |s::l,W,h,hs=>by
  rw[ahb];refine awu l _ ?_ λx hx=>hs x (.tail _ hx)
  split
  .exact apK (hs s (.head _)) _
  .lk
theorem azz{fb:En->oT Fl}{M:D}(Pc:oH D->Prop)(pc:∀A B,Pc A->Pc B->A <+:B\/B <+:A)(g:MS×Nat->D)
  (step:∀(p:MS×Nat) (W:oH D) (b0:B) (x3 x4:oT B),(b0= .ro (.nd .dk W)\/b0= .own (.nd .dk W))->eU W->eU p.1.L->0<=p.1.dn->p.1.dn<=-p.1.L->-p.1.L<=1000->-W<=1000->(sure p.1 <+:W\/W <+:sure p.1)->NA x3->NA x4->∃aos apL U0,(aos= .ro (.nd .dk (if -W < -(sure p.1) then sure p.1 else W))\/aos= .own (.nd .dk (if -W < -(sure p.1) then sure p.1 else W)))/\NA apL/\NA U0/\fb (eG b0 M (!.ro (g p)) x3 x4)\.nx (eG aos M (!.ro (g p)) apL U0)):
  ∀(l:oH (MS×Nat)) (W:oH D) (b0:B) (x2 x3 x4:oT B),(b0= .ro (.nd .dk W)\/b0= .own (.nd .dk W))->eU W->Pc W->-W<=1000->(∀p∈l,eU p.1.L/\0<=p.1.dn/\p.1.dn<=-p.1.L/\-p.1.L<=1000/\Pc (sure p.1))->NA x2->NA x3->NA x4->
   ∃aos aFb apL U0,(aos= .ro (.nd .dk (ahb (l.map (·.1)) W))\/aos= .own (.nd .dk (ahb (l.map (·.1)) W)))/\eB (λd ρ=>oF (bq 2 (.ro d) ρ)) fb (l.map g) (eG b0 M x2 x3 x4)\.nx (eG aos M aFb apL U0)
 | [],W,b0,x2,x3,x4,hb,_,_,_,_,_,_,_=>#[b0,x2,x3,x4,hb,rfl]
 |p::l,W,b0,x2,x3,x4,hb,hW,pW,zW,hs,h2,h3,h4=>by
  let a1 a2 a3 a4 a5:=hs p (.head _);let b1 y3 y4 ant aFc arS e:=step p W b0 x3 x4 hb hW a1 a2 a3 a4 zW (pc _ _ a5 pW) h3 h4;have awv:eU (if -W < -(sure p.1) then sure p.1 else W):=by split;exact apK a1 _;lk
  have aFd:Pc (if -W < -(sure p.1) then sure p.1 else W):=by split;lk;lk
  have aww:-(if -W < -(sure p.1) then sure p.1 else W)<=1000:=by split;exact eK (aHA _ _) a4;lk
  let b2 z2 z3 z4 aFe e2:=azz Pc pc g step l _ b1 (!.ro (g p)) y3 y4 ant awv aFd aww (λq hq=>hs q (.tail _ hq)) dO aFc arS;refine#[b2,z2,z3,z4,aFe, ?_];rw[cP,eB];have eb:bq 2 (.ro (g p)) (eG b0 M x2 x3 x4)=eG b0 M (!.ro (g p)) x3 x4:=by
   unfold eG bq;rcases hb with rfl | rfl <;> simp[abj h2,abj h3,abj h4,t9,uc,ud]
  show(fb (bq 2 (.ro (g p)) (eG b0 M x2 x3 x4))).bind _=_;rw[eb,e];lk
theorem aFf[Pn](m:Nat)(ms:oH MS)(hm:-ms<=100)(W:oH D)(Pc:oH D->Prop)(pc:∀A B,Pc A->Pc B->A <+:B\/B <+:A)(hW:eU W)(pW:Pc W)(zW:-W<=1000)(hs:∀s∈ms,eU s.L/\0<=s.dn/\s.dn<=-s.L/\-s.L<=1000/\Pc (sure s)):
  aqq K C [.nd .dk W, .nd pk (eg C m ms)]\.nd .dk (ahb ms W):=by
 have em:=ath (C:=C) m ms;have es:ms.zipIdx.map (·.1)=ms:=List.zipIdx_map_fst ..;rw[aqq,avF];dsimp only;let b0 x2 x3 x4 hb e:=azz (M:= .nd pk (eg C m ms)) Pc pc (λp=>d5 C m p.2 p.1) (λp W b0 x3 x4 hb hW hL d0 dl z1 z2 pp h3 h4=>aE8 (Z:=d5 C m p.2 p.1) hb hW hL d0 dl z1 z2 pp h3 h4 (ao9 _ _ _ _ _ _ _ _ _) (ard _ _ _ _ _ _ _ _ _)) ms.zipIdx W (.ro (.nd .dk W)) oM oM oM (.inl rfl) hW pW zW (λp hp=>hs p.1 (by rw[<- es];exact gY.mpr #[p,hp,rfl])) i6 i6 i6;rw[es]at hb;refine fQ (ρ':=eG b0 (.nd pk (eg C m ms)) x2 x3 x4) (aD (ρ':=eG b0 (.nd pk (eg C m ms)) x2 x3 x4) ?_ (cD ?_))
 .rw[<- e, <- em];generalize eg C m ms=MM;rfl
 .have p:VL.plain (.nd .dk (ahb ms W))=oP:=(awu ms W hW λs h=>(hs s h).1).plain;rcases hb with rfl | rfl
  .exact zJ p
  .exact zJ p
theorem aFg(h:abp Y\cs):fP Y\cs:=by
 cases Y with
 |nd k cs=>cases k <;> first | exact h | (exact nomatch h)
 |sc _=>exact nomatch h
 |hl _=>exact nomatch h
theorem aFh(R:oH D)(hR:eU R)(h:-R<=1210):aqb K C [.nd .lst R]\.nd .lst R:=by
 have e:iJ 1 [oM] [0] (λρ=>(af 0 ρ).bind fP) (λd ρ=>oF (bq 0 (B.ro d) ρ)) (λx=>oF oP) (λρ=>(ar (af 0) (λx=>oF []) ρ).bind λds=>if -ds=1 then abq K C 2 ds else oM) [k_ (.nd .lst R)]\.nd .lst R:=by
  have e:=qD (n:=1) (js:= [oM]) (is:= [0]) (fi:=λρ=>(af 0 ρ).bind fP) (fg:=λd ρ=>oF (bq 0 (B.ro d) ρ)) (ft:=λx=>oF oP) (fe:=λρ=>(ar (af 0) (λx=>oF []) ρ).bind λds=>if -ds=1 then abq K C 2 ds else oM) (ρ:= [k_ (.nd .lst R)]) R id (λ_=>oP) id ?_ (eK h a_) rfl ?_
  .rw[uV.mpr (λ_ _=>rfl),List.map_id]at e;lk
  .simp[bD,af,fP]
  .intro r hr;have hr:=aym (K:=K) (C:=C) (hR r hr);simp[hr,bD,bq,gH,ar,af,t9,ue]
 rw[aqb];show bV _ (aqa K C (abq K C 2)) _=_;rw[aqa,art];dsimp only;generalize (iJ 1 [oM] [0] (λρ=>(af 0 ρ).bind fP) (λd ρ=>oF (bq 0 (B.ro d) ρ)) (λx=>oF oP) (λρ=>(ar (af 0) (λx=>oF []) ρ).bind λds=>if -ds=1 then abq K C 2 ds else oM))=F at e |-;simp[e,m4,bD,bV,ar,af,gv,m4,apq,jg,kT,rQ,aoh,an2]
theorem azA(m:Nat)(nu:Int)(s:MS):aqs K C [d5 C m nu s]\(.nd .tup [iD s.o,iD (-s.L)]):=by
 have f1:ji "of" (d5 C m nu s)\iD s.o:=axn _ _ _ _ _ _ _ _ _;have f2:ji "log" (d5 C m nu s)\.nd .lst s.L:=ao9 _ _ _ _ _ _ _ _ _;generalize d5 C m nu s=M at *;rw[aqs,avK];dsimp only;have p1:gm (λρ=>(af 0 ρ).bind (ji (ae "of"))) [k_ M]\(iD s.o, [k_ M]):=by
  simp[gm,af,bD,f1,VL.plain]
 have hz:2<=aM:=a_
 refine fQ (ρ':= [k_ M]) (cD ?_);have p2:(λρ=>aX (λd=>(d,ρ)) ((ar (λρ=>(af 0 ρ).bind (ji (ae "log"))) (λx=>oF []) ρ).bind eP)) [k_ M]\(iD (-s.L), [k_ M]):=e9 (eV (tL (eV (a:=M) rfl f2) rfl) rfl);refine eV (a:=([iD s.o,iD (-s.L)], [k_ M])) (eV p1 ?_) (zJ hz);exact congrArg (aX _) (eV p2 rfl)
def wV(ms:oH MS)(j:Nat):MS:=ms.getD j s0
theorem arU(h:j < ms.length):ms[j]?\wV ms j:=by
 rw[wV];rw[xl,dH h];rfl
theorem awx(m:Nat)(F:Nat->MS):∀(ss:oH Nat) (p:Nat),∃q,(q=p\/q∈ss)/\alB (aqs K C) (ss.map λj:Nat=>d5 C m j (F j)) (d5 C m p (F p)) ((F p).o,((F p).L.length:Int))\d5 C m q (F q)/\rG (F p).o (F p).L.length (F q).o (F q).L.length/\∀j∈ss,rG (F j).o (F j).L.length (F q).o (F q).L.length
 | [],p=>#[p, .inl rfl,rfl, .refl _ _,λ_ h=>nomatch h]
 |s::ss,p=>by
  rw[cP,alB,azA];by_cases c:alI (F s).o (F s).L.length (F p).o (F p).L.length=oP
  .let q h1 h2 h3 h4:=awx m F ss s;have hp:rG (F p).o (F p).L.length (F s).o (F s).L.length:=by
    rw[alI]at c;rw[rG]
    split at c
    .have:=of_decide_eq_true c;lia
    .have:=of_decide_eq_true c;lia
   refine#[q, .inr (by rcases h1 with h1 | h1;exact h1▸ .head _;exact .tail _ h1), ?_,hp.trans h3,λj hj=> ?_]
   .show(if alI (F s).o (F s).L.length (F p).o (F p).L.length=oP then _ else _)=_;rw[zJ c];lk
   .rcases bL.mp hj with rfl | hj
    .lk
    .exact h4 j hj
  .let q h1 h2 h3 h4:=awx m F ss p;have hp:rG (F s).o (F s).L.length (F p).o (F p).L.length:=by
    rw[alI]at c;rw[rG]
    split at c
    .have:¬ _:=λz=>c (decide_eq_true z);lia
    .have:¬ _:=λz=>c (decide_eq_true z);lia
   refine#[q,by rcases h1 with h1 | h1;exact .inl h1;exact .inr (.tail _ h1), ?_,h3,λj hj=> ?_]
   .show(if alI (F s).o (F s).L.length (F p).o (F p).L.length=oP then _ else _)=_;rw[zK c];lk
   .rcases bL.mp hj with rfl | hj
    .exact hp.trans h3
    .exact h4 j hj
theorem azB(h:Nat->D)(P:Nat->Prop)(st:∀s:Nat,P s->fe (bq 0 (B.ro (iD s)) ρ0)\.ro (h s)):∀(ss:oH Nat),(∀s∈ss,P s)->aol (λd ρ=>oF (bq 0 (B.ro d) ρ)) (λx=>oF oP) fe ρ0 (ss.map λi:Nat=>iD i)\ss.map h
 | [],_=>rfl
 |s::ss,hp=>by
  rw[cP,aol];show(fe (bq 0 (B.ro (iD s)) ρ0)).bind _=_;rw[st s (hp s (.head _))];show aX _ (aol _ _ _ _ _)=_;rw[azB h P st ss λw hw=>hp w (.tail _ hw)];rfl
theorem aFi[Pn](m:Nat)(ms:oH MS)(hn:-ms=m)(hL:∀s∈ms,eU s.L/\-s.L<=1000)(c:oH Nat)(hc:∀j∈c,j < m)(h0:0 < -c)(hz:-c<=100):∃q,q < m/\asV K C [.nd pk (eg C m ms),x9 c]\.nd .lst (wV ms q).L/\∀j∈c,rG (wV ms j).o (wV ms j).L.length (wV ms q).o (wV ms q).L.length:=by
 have awk:asr 3 [oM,!0] [0] (λρ=>(af 1 ρ).bind fP) (λd ρ=>oF (bq 0 (B.ro d) ρ)) (λx=>oF oP) (dF ay (aT 1) (af 0)) [k_ (.nd pk (eg C m ms)),k_ (x9 c),oM]\.ro (.nd .lst (c.map λj:Nat=>d5 C m j (wV ms j))):=by
  have e:=azB (fe:=dF ay (aT 1) (af 0)) (ρ0:= [oM,k_ (.nd pk (eg C m ms))]) (λj:Nat=>d5 C m j (wV ms j)) (λj=>j < m) (λj hj=>by
   let i1 i2:=apD (C:=C) (m:=m) (arU (ms:=ms) (j:=j) b_);generalize d5 C m j (wV ms j)=O at *;generalize D.nd pk (eg C m ms)=MM at *;simp[i1,i2,bD,bq,af,dF,nT,oC,aT,t9,ud,ue]) c hc
  rw[asr];refine eV (a:=c.map λi:Nat=>iD i) rfl ((zJ #[nI^^eK hz a_,rfl,arT c]).trans ?_);show aX _ (aol _ _ _ [oM,k_ (.nd pk (eg C m ms))] _)=_;rw[e];rfl
 cases c with
 |nil=>exact absurd h0 (mI _)
 |cons p c=>
  let q h1 h2 h3 h4:=awx (K:=K) (C:=C) m (wV ms) c p;have hq:q < m:=by
   rcases h1 with rfl | h1
   .exact hc q (.head _)
   .exact hc q (.tail _ h1)
  have aFj:ass (aqs K C) (.ro (.nd .lst ((p::c).map λj:Nat=>d5 C m j (wV ms j))))\.ro (d5 C m q (wV ms q)):=by
   rw[cP];unfold ass;dsimp only;rw[azA];show(alB (aqs K C) _ _ ((wV ms p).o,((wV ms p).L.length:Int))).map _=_;rw[h2];rfl
  have fl:ji "log" (d5 C m q (wV ms q))\.nd .lst (wV ms q).L:=ao9 _ _ _ _ _ _ _ _ _;have np:=wz (C:=C) m q (wV ms q);let r1 r2:=hL _ (jr (arU (ms:=ms) (j:=q) b_));have aFk:=aFh (K:=K) (C:=C) (wV ms q).L r1 b_;refine#[q,hq, ?_,λj hj=> ?_]
  .generalize d5 C m q (wV ms q)=Q at *;rw[asV,avL];dsimp only;generalize D.nd pk (eg C m ms)=MM at *;refine fQ (ρ':= [k_ MM,k_ (x9 (p::c)),k_ Q]) (aD (ρ':= [k_ MM,k_ (x9 (p::c)),k_ Q]) (eV (a:=Pl.ro Q) (eV awk aFj) (eV (a:=Q) rfl ((zK (np^^df)).trans rfl))) (cD (e9 (eV (tL (eV (a:=Q) rfl fl) rfl) aFk))))
  .rcases bL.mp hj with rfl | hj
   .lk
   .exact h4 j hj
theorem azC:∀{α:Type} (l:oH α),iq [.nd .lst (l.map λ_=>tD oP)]\tD oP:=λl=>by
 have:∀{α:Type} (l:oH α),iP (l.map λ_=>tD oP)\(l.map λ_=>oP):=λl=>by
  induction l with
  |nil=>rfl
  |cons a l ih=>rw[cP,iP,ih];rfl
 show(iP _).map _=_;rw[this];show oF (D.sc (V.bl ((l.map λ_=>oP).all id)))=_;rw[show(l.map λ_=>oP).all id=oP by simp]
theorem aFl[Pn](m:Nat)(ms:oH MS)(hn:-ms=m)(hL:∀s∈ms,eU s.L/\-s.L<=1000){cs:oH (oH Nat)}(hX:abp X\cs.map x9)(hl:-cs<=20000)(hc:∀c∈cs,(∀j∈c,j < m)/\0 < -c/\-c<=100)(hW:eU W)
  (st:∀c∈cs,∀q,q < m->(∀j∈c,rG (wV ms j).o (wV ms j).L.length (wV ms q).o (wV ms q).L.length)->W <+:(wV ms q).L):aqt K C [.nd pk (eg C m ms),X, .nd .dk W]\tD oP:=by
 have e:=qD (n:=3) (js:= [oM,!2,!0]) (is:= [0]) (fg:=λd ρ=>oF (bq 0 (B.ro d) ρ)) (ft:=λx=>oF oP) (fi:=λρ=>(af 1 ρ).bind fP) (fe:=au (dN id) (pP (λρ=>(ar (af 2) (ar (af 0) λx=>oF []) ρ).bind λds=>if -ds=2 then asV K C ds else oM) (λx=>oF oM) λρ=>((ar (af 1) (λx=>oF []) ρ).bind eP).bind i9) (af 1)) (ρ:= [k_ (.nd pk (eg C m ms)),k_ X,k_ (.nd .dk W)]) cs x9 (λ_=>oP) (λ_=>tD oP) (eV (a:=X) rfl (aFg hX)) (eK hl a_) rfl (λc h=>#[_,rfl,rfl,λ_=>by
  let c1 c2 c3:=hc c h;let q q1 q2 q3:=aFi (K:=K) (C:=C) m ms hn hL c c1 c2 c3;let r1 r2:=hL _ (jr (arU (ms:=ms) (j:=q) b_));have pre:=st c h q q1 q3;have et:(wV ms q).L.take (-W)=W:=aHB.mp pre▸rfl;generalize D.nd pk (eg C m ms)=MM at *;refine bY (a:= .nd .lst ((wV ms q).L.take (-W))) (b:= .nd .dk W) (eV (a:=D.nd .lst (wV ms q).L) (eV (tL (a:=MM) rfl (tL (a:=x9 c) rfl rfl)) q2) (eV (a:=(oM:oT Int)) rfl (eV (a:=oF (-W:Int)) rfl (awt r1 _)))) rfl ?_;rw[azu];exact azv (apK r1 _) hW et])
 rw[uV.mpr λ_ _=>rfl]at e;rw[aqt,avN];dsimp only;generalize D.nd pk (eg C m ms)=MM at *;exact fQ (ρ':= [k_ MM,k_ X,k_ (.nd .dk W)]) (cD (e9 (eV (tL e rfl) (azC cs))))
section
variable [Pn]
noncomputable def eH (W:D) (l:oH D) (wr:D) (x3 x4:oT B):En:= [!.aB 5 [],!.aB 6 [],k_ wr,x3,x4,j_ W,j_ (.nd .lst l)]
def wN(ee:oH D)(a b c:D):D:= .nd (.aO gD) [.nd pk ee,a,b,c]
theorem azD(p:bI ee=yv):alL (eH (wN ee a b c) l wr x3 x4) 5\(Pn.b,Pn.ws):=by
 simp[alL,eH,wN,aV,aa,cg]
theorem ato{ee uC l l':oH D}{a b c a' b' c' wr:D}(p:bI ee=yv)(p':bI uC=yv)(hi:i < -Pn.ws)(h3:x3=oM\/x3\.aB 5 [0])(h4:x4=oM\/x4\(.aB 5 [0,i])):
  ED (eH (wN ee a b c) l wr (!.aB 5 [0]) (!.aB 5 [0,i])) (eH (wN uC a' b' c') l' wr x3 x4)=eH (wN uC a' b' c') l' wr (!.aB 5 [0]) (!.aB 5 [0,i]):=by
 have e1:=azD (l:=l) (a:=a) (b:=b) (c:=c) (wr:=wr) (x3:=oF (.aB 5 [0])) (x4:=oF (.aB 5 [0,i])) p;have e2:=azD (l:=l') (a:=a') (b:=b') (c:=c') (wr:=wr) (x3:=x3) (x4:=x4) p';have k3:EC (eH (wN ee a b c) l wr (!.aB 5 [0]) (!.aB 5 [0,i])) (eH (wN uC a' b' c') l' wr x3 x4) (!.aB 5 [0]) x3\.aB 5 [0]:=by
  rcases h3 with rfl | rfl
  .unfold EC;dsimp only;rw[e1,aoJ];exact zJ #[e2,rfl]
  .rfl
 have k4:EC (eH (wN ee a b c) l wr (!.aB 5 [0]) (!.aB 5 [0,i])) (eH (wN uC a' b' c') l' wr x3 x4) (!.aB 5 [0,i]) x4\(.aB 5 [0,i]):=by
  rcases h4 with rfl | rfl
  .unfold EC;dsimp only;rw[e1,aoJ];exact zJ #[e2,decide_eq_true hi]
  .rfl
 show [_,_,_,EC _ _ (!.aB 5 [0]) x3,EC _ _ (!.aB 5 [0,i]) x4,_,_]=_;rw[k3,k4];rfl
theorem atp(h:f ρ\(d,ρ1))(e:ED ρ ρ1=ai):ik (an5 f) ρ\.nx ai:=by
 rw[ik,an5];rw[h, <- e];rfl
theorem aFm(p:bI ee=yv):gV 3 (dF ay (aT 0) λx=>oF (D.sc (V.str (ae "masters")))) (eH (wN ee a b c) l wr oM oM)\.nx (eH (wN ee a b c) l wr (!.aB 5 [0]) oM):=by
 unfold eH wN;simp[aoV,p,hg,gV,bq,aa,cg,dF,jh,nT,oC,aT,VL.plain,aV,t9,uc,ud,ue,uf]
theorem aFn{GP:oH D->oT (D×oH D)}{ee l l':oH D}{a b c wr M:D}{i:Nat}{fl:En->oT D}{z:D}(p:bI ee=yv)(h1:ay (.nd pk ee) (iD i)\i)(P2:ee[i]?\M)(pM:VL.plain M=yv)(hf:fl (eH (wN ee a b c) l wr (!.aB 5 [0]) oM)\z)(e:GP [.nd .lst l,z]\(iD i, [.nd .lst l'])):
  aut 3 4 ay (λρ=>(aX (λa=>(a,ρ)) (gn (aT 1) (mr fl λx=>oF []) ρ)).bind λa=>fL GP a.fst a.snd) (eH (wN ee a b c) l wr (!.aB 5 [0]) oM)\(.nx (eH (wN ee a b c) l' wr (!.aB 5 [0]) (!.aB 5 [0,i]))):=by
 unfold eH wN at *;simp[hf,e,hg,h1,P2,p,pM,abC,kX,mY,gG,cT,aut,bD,bq,gn,mr,fL,af,j3,aa,gg,cg,jh,nT,oC,aT,VL.plain,eT,akS,akT,akU,g9,aV,jF,kY,aZ,t9,uc,ud,ue,uf]
theorem aFo(p:bI ee=yv)(hi:i < -Pn.ws):auq (hJ (ju λρ=>oF ([],ρ)) (aT 0) λx=>oF (D.sc (V.str (ae "way")))) (eH (wN ee a b c) l wr (!.aB 5 [0]) (!.aB 5 [0,i]))\(.nx (eH (wN ee (.nd .lst []) b c) l wr (!.aB 5 [0]) (!.aB 5 [0,i]))):=by
 have e:hJ (ju λρ=>oF ([],ρ)) (aT 0) (λx=>oF (D.sc (V.str (ae "way")))) (eH (wN ee a b c) l wr (!.aB 5 [0]) (!.aB 5 [0,i]))\.nx (eH (wN ee (.nd .lst []) b c) l wr oM oM):=by
  unfold eH wN;simp[as5,hg,ju,abC,hJ,fV,aa,eM,aT,eT,akS,akT,aV,aZ]
 rw[auq];rw[e];show oF (Fl.nx (ED _ _))=_;rw[ato p p hi (.inl rfl) (.inl rfl)]
theorem atq(h1:fe ρ\(d,ρ1))(h2:fr ρ1\(as,ai)):lD fe fr ρ\(.tm d::as,ai):=by
 rw[lD];rw[h1,aoJ,h2];rfl
theorem arV(P2:ee[i]?\M)(pM:VL.plain M=yv):af 4 (eH (wN ee a b c) l wr x3 (!.aB 5 [0,i]))\M:=by
 have p:=vp P2 pM;rw[eH,wN];simp[P2,p,hg,bD,af,aa,cg,aV]
theorem awy{GN:oH D->oT (D×oH D)}{fw fx:En->oT (D×En)}{a b c a2 b2 c2 wr M gj fm dq:D}(P2:ee[i]?\M)(pM:VL.plain M=yv)(hi:i < -Pn.ws)(hN:ji "number" M\iD i)(p1:bI arW=yv)(p2:bI aot=yv)
  (hw:fw (eH (wN ee a b c) l wr (!.aB 5 [0]) (!.aB 5 [0,i]))\(fm,eH (wN ee a b c) l wr (!.aB 5 [0]) (!.aB 5 [0,i])))
  (hx:fx (eH (wN ee a b c) l wr (!.aB 5 [0]) (!.aB 5 [0,i]))\(dq,eH (wN arW a b c) l wr (!.aB 5 [0]) (!.aB 5 [0,i])))
  (en:GN [wN arW a b c,iD i,gj,fm,dq]\(.sc .aG, [wN aot a2 b2 c2])):
  ik (an5 λρ=>(xm (aT 0) (lD (gm λρ=>(af 4 ρ).bind (ji (ae "number"))) (lD (λρ=>aX (λd=>(d,ρ)) (!gj)) (lD fw (lD fx λρ=>aX (λa=>(a,ρ)) (![]))))) ρ).bind λa=>fL GN a.fst a.snd) (eH (wN ee a b c) l wr (!.aB 5 [0]) (!.aB 5 [0,i]))\(.nx (eH (wN aot a2 b2 c2) l wr (!.aB 5 [0]) (!.aB 5 [0,i]))):=by
 have p:=vp P2 pM;have hd:=arV (l:=l) (a:=a) (b:=b) (c:=c) (wr:=wr) (x3:=oF (.aB 5 [0])) P2 pM;have e1:gm (λρ=>(af 4 ρ).bind (ji (ae "number"))) (eH (wN ee a b c) l wr (!.aB 5 [0]) (!.aB 5 [0,i]))\(iD i,eH (wN ee a b c) l wr (!.aB 5 [0]) (!.aB 5 [0,i])):=eV (a:=iD i) (eV (a:=M) hd hN) rfl;have e2:=atq (fr:=lD (λρ=>aX (λd=>(d,ρ)) (!gj)) (lD fw (lD fx λρ=>aX (λa=>(a,ρ)) (![])))) e1 (atq rfl (atq hw (atq hx rfl)));have e3:fL GN [.io #[5, []], .tm (iD i), .tm gj, .tm fm, .tm dq] (eH (wN arW a b c) l wr (!.aB 5 [0]) (!.aB 5 [0,i]))\(.sc .aG,eH (wN aot a2 b2 c2) l wr oM oM):=by
  generalize wN arW a b c=W1 at en |-;generalize wN aot a2 b2 c2=W2 at en |-;unfold eH;simp[en,hg,alF,abC,kX,mY,gG,cT,fL,j3,aa,gg,eT,akS,akT,g9,aV,jF,kY,aZ]
 refine atp (ρ1:=eH (wN aot a2 b2 c2) l wr oM oM) (d:= .sc .aG) ?_ (ato p p2 hi (.inl rfl) (.inl rfl));refine eV (a:=([.io #[5, []], .tm (iD i), .tm gj, .tm fm, .tm dq],eH (wN arW a b c) l wr (!.aB 5 [0]) (!.aB 5 [0,i]))) ?_ e3;refine eV (a:=Pl.rt 5 []) ?_ ((zJ rfl).trans (eV e2 (zJ rfl)));rw[eH];simp[aT,aV,hg]
theorem aFp{GC:oH D->oT (D×oH D)}{ee aot l l2:oH D}{a b c a2 b2 c2 wr u v:D}(p:bI ee=yv)(p2:bI aot=yv)(hi:i < -Pn.ws)
  (e:GC [wN ee a b c, .nd .lst l, .nd .tup [u,v],tD oP]\(.sc .aG, [wN aot a2 b2 c2, .nd .lst l2])):
  ik (an5 λρ=>(aX (λa=>(a,ρ)) (gn (aT 0) (gn (aT 1) (mr (d7 Kd.tup (ar (λx=>oF u) (ar (λx=>oF v) λx=>oF []))) (mr (λx=>oF (D.sc (V.bl oP))) λx=>oF []))) ρ)).bind λa=>fL GC a.fst a.snd) (eH (wN ee a b c) l wr (!.aB 5 [0]) (!.aB 5 [0,i]))\(.nx (eH (wN aot a2 b2 c2) l2 wr (!.aB 5 [0]) (!.aB 5 [0,i]))):=by
 refine atp (ρ1:=eH (wN aot a2 b2 c2) l2 wr oM oM) (d:= .sc .aG) ?_ (ato p p2 hi (.inl rfl) (.inl rfl));generalize wN ee a b c=W1 at e |-;generalize wN aot a2 b2 c2=W2 at e |-;unfold eH;simp[e,hg,alF,abC,kX,mY,gG,cT,gn,mr,fL,ar,j3,aa,gg,d7,aT,eT,akS,akT,g9,aV,jF,kY,aZ,CV]
theorem awz{GR:oH D->oT (D×oH D)}{fa:En->oT (oH Ar)}{as:oH Ar}{ds:oH D}{a b c wr M M' dq:D}(P2:ee[i]?\M)(pM:VL.plain M=yv)(UY:VL.plain M'=yv)(hs:ee.set i M'=uC)(ho:A0 C f M=oP)
  (ha:fa (eH (wN ee a b c) l wr (!.aB 5 [0]) (!.aB 5 [0,i]))\as) (hd:as=ds.map Ar.tm) (eh:GR (M::ds)\(dq, [M'])):
  abo GR C f (aT 4) fa (eH (wN ee a b c) l wr (!.aB 5 [0]) (!.aB 5 [0,i]))\(dq,eH (wN uC a b c) l wr (!.aB 5 [0]) (!.aB 5 [0,i])):=by
 have hj:∀x,(ee.set i x)[i]?\x:=λx=>gK (cX.mp P2).1;have p:=vp P2 pM;have aoX:∀v,bI (ee.set i (.hl v))=yv:=λv=>vp (hj _) rfl;have e1:aT 4 (eH (wN ee a b c) l wr (!.aB 5 [0]) (!.aB 5 [0,i]))\(.rt 5 [0,i]):=by
  rw[eH,wN];simp[P2,p,hg,aT,aa,cg,aV]
 have e2:nT (eH (wN ee a b c) l wr (!.aB 5 [0]) (!.aB 5 [0,i])) (.rt 5 [0,i])\M:=by
  rw[eH,wN];simp[P2,p,hg,nT,aa,cg,aV]
 refine eV e1 (eV e2 ((zJ ho).trans (eV ha ?_)));subst hd;have e3:gG (eH (wN ee a b c) l wr (!.aB 5 [0]) (!.aB 5 [0,i])) (.io #[5, [0,i]]::ds.map Ar.tm)\(M::ds):=by
  have:∀ds:oH D,gG (eH (wN ee a b c) l wr (!.aB 5 [0]) (!.aB 5 [0,i])) (ds.map Ar.tm)\ds:=λds=>by
   induction ds with
   |nil=>rfl
   |cons d ds ih=>rw[cP,gG,ih];rfl
  rw[gG,this];show(((aV (eH (wN ee a b c) l wr (!.aB 5 [0]) (!.aB 5 [0,i])) 5).bind (aa · [0,i]))).bind _=_;rw[show((aV (eH (wN ee a b c) l wr (!.aB 5 [0]) (!.aB 5 [0,i])) 5).bind (aa · [0,i]))\M from e2];rfl
 have e4:cT (.io #[5, [0,i]]::ds.map Ar.tm)= [#[5, [0,i]]]:=by
  have:∀ds:oH D,cT (ds.map Ar.tm)= []:=λds=>by induction ds with | nil=>rfl | cons d ds ih=>lk
  rw[cT,this]
 have e5:(Ar.io #[5, [0,i]]::ds.map Ar.tm).all (kY [#[5, [0,i]]])=oP:=by
  rw[gA];intro x hx;rcases bL.mp hx with rfl | hx
  .rfl
  .let d _ rfl:=gY.mp hx;rfl
 refine eV e3 ?_;rw[e4];refine(zJ #[by simp[jF],e5]).trans (eV eh ((zJ rfl).trans ?_));unfold eH wN;simp[hj,hs,hg,alF,aoX,p,abC,j3,aa,gg,cg,eT,akS,akT,g9,aV,aZ,P2]
end
end K84
namespace WM
open PySem L2 VL
structure tV(w v:cz):Prop where
 ms:w.ms=v.ms
 way:w.way=v.way
section
theorem tV.note(h:tV w v)(gj:Str)(fm:D)(told:oT (oH eN))(s:MS):tV (w.note i gj fm told s) (v.note i gj fm told s):=#[by show w.ms.set i s=_;rw[h.ms];rfl,by
 show(match told with | some l=>yy (w.way++l) | none=>w.way)=_;rw[h.way];rfl]
theorem Rd.sim(r:Rd m a b n v v'):∀{w:cz},tV w v->∃w',Rd m a b n w w'/\tV w' v':=by
 induction r with
 |nil=>exact λh=>#[_, .nil _,h]
 |cons e1 e2 e3 e4 _ ih=>
  intro w h;have h1:tV (w.cut 0) (cz.cut _ 0):=#[h.ms,by show w.way.eraseIdx 0=_;rw[h.way];rfl]
  let w' r' h':=ih (h1.note "hear" _ _ _);exact#[w', .cons (h.way^^e1) e2 e3 (h.ms^^e4) r',h']
theorem aob.sim(c:aob m a b z v v')(h:tV w v):∃w',aob m a b z w w'/\tV w' v':=by
 let v1 hz r1 r2:=c;let w1 q1 h1:=r1.sim h;let w2 q2 h2:=r2.sim h1;exact#[w2,#[w1,[h.way,h1.way]^^hz,h.way^^q1,h1.way^^q2],h2]
theorem aob.len(c:aob m a b z w w'):-w'.aq<=-w.aq + z:=by
 let w1 hz r1 r2:=c;rw[r2.len,r1.len]
 lia
theorem azE(m:Nat)(i:Int)(s:MS):(rise m i s).te=nP i m s.te:=by
 rw[WM.rise];by_cases c:m < 2 * -([(i,s.o,s.L)]:oH (Int×Int×oH D))
 .exact(awd _ c).2
 .rw[awe _ c]
theorem Ww.quiet(h:Ww m w)(hi:i < m)(hs:w.ms[i]?\s):Ww m { w with ms:=w.ms.set i (rise m i s) }:=by
 refine#[bN^^h.n,λx hx=> ?_,h.way,h.G3,h.st];rcases aiM hx with z | rfl
 .exact h.ms x z
 .exact asZ (h.ms s (jr hs)) b_ b_
theorem AN.quiet(hm:m < 40)(h:AN m v W)(hs:v.ms[i]?\s):∃v',AN m v' W/\v'.ms=v.ms.set i (rise m i s)/\v'.way= []:=by
 have a:=(Step.rise v i s hs).al hm h;exact#[_,(Step.drop _ [] (λ_ z=>nomatch z) (jO _)).al hm a,rfl,rfl]
end
end WM
namespace K84
open PySem L2 VL WM
variable [nc K C]
section
variable [Pn]
def azF:En->oT (Bool×En):=λρ=>aX (λb=>(b,ρ)) ((au (iO λi j=>V.bl (decide (i<=j))) (λρ=>(af 4 ρ).bind (ji (ae "term"))) (λρ=>(ar (au i5 (iJ 5 [oM,!4] [0] (λρ=>(af 3 ρ).bind fP) (λd ρ=>oF (bq 0 (B.ro d) ρ)) (λρ=>(au (dN λx=> not x) (λρ=>(af 0 ρ).bind (ji (ae "number"))) (λρ=>(af 1 ρ).bind (ji (ae "number"))) ρ).bind λx=>match x with | D.sc (V.bl b)=>oF b | x=>oM) (gJ λρ=>(af 0 ρ).bind (ji (ae "term")))) (d7 Kd.lst (ar (λx=>oF (D.sc (V.int 0))) λx=>oF []))) (λx=>oF []) ρ).bind aqV) ρ).bind λx=>match x with | D.sc (V.bl b)=>oF b | x=>oM)
theorem aFq:∀(l:oH Int),l≠ []->∃x,att l\iD x/\x∈l/\∀y∈l,y<=x
 | [],h=>absurd rfl h
 |n::ns,_=>by
  let a b:=as8 ns n;refine#[tF n ns,rfl, ?_,λy hy=> ?_]
  .rcases arL ns n with h | h
   .rw[h];exact .head _
   .exact .tail _ h
  .rcases bL.mp hy with rfl | hy
   .lk
   .exact b y hy
theorem awA(p:bI ee=yv):af 3 (eH (wN ee a b c) l wr (!.aB 5 [0]) x4)\.nd pk ee:=by
 rw[eH,wN];simp[hg,bD,af,aa,cg,aV]
theorem azG(m:Nat)(ms:oH MS)(i:Nat)(s:MS)(hs:ms[i]?\s)(hn:-ms<=100)(bd:Int)(h0:0<=bd)(hB:∀(k:Nat) (x:MS),k≠i->ms[k]?\x->x.te<=bd){l:oH D}{a b c wr:D}:
  ∃bb,azF (eH (wN (eg C m ms) a b c) l wr (!.aB 5 [0]) (!.aB 5 [0,i]))\(bb,eH (wN (eg C m ms) a b c) l wr (!.aB 5 [0]) (!.aB 5 [0,i]))/\(bb=oP->s.te<=bd)/\(bb=yv->∀(k:Nat) (x:MS),k≠i->ms[k]?\x->x.te < s.te):=by
 have i3:=Al (C:=C) (m:=m) hs;have pM:=wz (C:=C) m i s;have p:=vp i3 pM;have d3:=awA (l:=l) (a:=a) (b:=b) (c:=c) (wr:=wr) (x4:=oF (.aB 5 [0,i])) p;have d4:=arV (l:=l) (a:=a) (b:=b) (c:=c) (wr:=wr) (x3:=oF (.aB 5 [0])) i3 pM;have ft:ji "term" (d5 C m i s)\iD s.te:=arc _ _ _ _ _ _ _ _ _;have fn:ji "number" (d5 C m i s)\iD i:=apz _ _ _ _ _ _ _ _ _
 let T:oH Int:=((ms.zipIdx.filter λp=>decide ((p.2:Int)≠i)).map λp=>p.1.te)
 have hT:∀y,y∈T↔∃(k:Nat) (x:MS),k≠i/\ms[k]?\x/\y=x.te:=λy=>by
  constructor
  .intro h;let q h1 rfl:=gY.mp h;let h2 h3:=Cc.mp h1;have h4:=aBD.mp h2;exact#[q.2,q.1,λz=>of_decide_eq_true h3 (by rw[z]),h4,rfl]
  .rintro⟨k,x,h1,h2,rfl⟩;exact gY.mpr #[(x,k),Cc.mpr #[aBD.mpr h2,decide_eq_true (by show((k:Nat):Int)≠i;lia)],rfl]
 have e1:iJ 5 [oM,!4] [0] (λρ=>(af 3 ρ).bind fP) (λd ρ=>oF (bq 0 (B.ro d) ρ)) (λρ=>(au (dN λx=> not x) (λρ=>(af 0 ρ).bind (ji (ae "number"))) (λρ=>(af 1 ρ).bind (ji (ae "number"))) ρ).bind λx=>match x with | D.sc (V.bl b)=>oF b | x=>oM) (gJ λρ=>(af 0 ρ).bind (ji (ae "term"))) (eH (wN (eg C m ms) a b c) l wr (!.aB 5 [0]) (!.aB 5 [0,i]))\.nd .lst (T.map iD):=by
  have ec:gH 5 [oM,!4] (eH (wN (eg C m ms) a b c) l wr (!.aB 5 [0]) (!.aB 5 [0,i]))= [oM,k_ (d5 C m i s)]:=by
   show [oM,(af 4 (eH (wN (eg C m ms) a b c) l wr (!.aB 5 [0]) (!.aB 5 [0,i]))).map B.ro]=_;rw[d4];rfl
  have e:=qD (n:=5) (js:= [oM,!4]) (is:= [0]) (fi:=λρ=>(af 3 ρ).bind fP) (fg:=λd ρ=>oF (bq 0 (B.ro d) ρ)) (ft:=λρ=>(au (dN λx=> not x) (λρ=>(af 0 ρ).bind (ji (ae "number"))) (λρ=>(af 1 ρ).bind (ji (ae "number"))) ρ).bind λx=>match x with | D.sc (V.bl b)=>oF b | x=>oM) (fe:=gJ λρ=>(af 0 ρ).bind (ji (ae "term"))) (ρ:=eH (wN (eg C m ms) a b c) l wr (!.aB 5 [0]) (!.aB 5 [0,i])) ms.zipIdx (λp=>d5 C m p.2 p.1) (λp=>decide ((p.2:Int)≠i)) (λp=>iD p.1.te) (eV (a:= .nd pk (eg C m ms)) d3 (by rw[<- ath];rfl)) (awY^^eK hn a_) rfl (λq hq=>by
    rw[ec];refine#[[k_ (d5 C m q.2 q.1),k_ (d5 C m i s)],rfl,ao1 ?_,λ_=> ?_]
    .exact bY (a:=iD q.2) (b:=iD i) (eV (a:=d5 C m q.2 q.1) rfl (apz _ _ _ _ _ _ _ _ _)) (eV (a:=d5 C m i s) rfl fn) (axk _ _)
    .exact eV (a:=iD q.1.te) (eV (a:=d5 C m q.2 q.1) rfl (arc _ _ _ _ _ _ _ _ _)) rfl)
  rw[e];show oF (D.nd .lst _)\D.nd .lst (awT iD (awT _ _));rw[mJ];rfl
 have lT:-T<=100:=by
  show(awT _ _).length<=100;rw[nI];exact eK (VT _ _) (awY^^hn)
 let x mx m1 m2:=aFq (T++ [0]) e_;have e2:i5 (.nd .lst (T.map iD)) (.nd .lst [iD 0])\.nd .lst ((T++ [0]).map iD):=by
  have z:-T + 1<=aM:=eK (by lia:_<=101) a_;have pp:=avP (T++ [0]);rw[cK]at pp;show(if(T.map iD).length + 1<=aM/\bI (T.map iD++ [iD 0])=oP then _ else _)=_;rw[zJ #[nI^^z,pp],cK];rfl
 have e3:aqV [.nd .lst ((T++ [0]).map iD)]\iD x:=by
  show(jq ((T++ [0]).map iD)).bind att=_;rw[ints_map];lk
 refine#[decide (s.te<=x),apF (ao1 (bY (a:=iD s.te) (b:=iD x) (eV (a:=d5 C m i s) d4 ft) (eV (a:= [.nd .lst ((T++ [0]).map iD)]) (tL (bY e1 rfl e2) rfl) e3) rfl)),λh=> ?_,λh k y hk hy=> ?_]
 .have hx:=of_decide_eq_true h;rcases lZ.mp m1 with z | z
  .let k y hk hy rfl:=(hT x).mp z;have:=hB k y hk hy
   lia
  .have:x=0:=ly.mp z
   lia
 .have hx:=of_decide_eq_false h;have:=m2 y.te (qR _ ((hT _).mpr #[k,y,hk,hy,rfl]))
  lia
theorem aFr(m:Nat)(h0:0 < m)(hm:m < 40)(i:Nat)(hi:i < m)(af4:-Pn.ws=m)(bd:Int)(azH:0<=bd)(wr:D)(l:oH D):∀(n:Nat) (w v:cz) (s:MS),Ww m w->-w.aq<=600->AN m v W->v.ms=w.ms->v.way= []->w.ms[i]?\s->(∀(k:Nat) (x:MS),k≠i->w.ms[k]?\x->x.te<=bd)->(bd + 1 - s.te).toNat<=n->
  ∃k w' v' s',j6 azF (ik (an5 (abo (aoE K C) C (ae "rise") (aT 4) λx=>oF []))) k (eH (wD C m w) l wr (!.aB 5 [0]) (!.aB 5 [0,i]))\(.nx (eH (wD C m w') l wr (!.aB 5 [0]) (!.aB 5 [0,i])))/\Ww m w'/\w'.aq=w.aq/\w'.way=w.way/\AN m v' W/\v'.ms=w'.ms/\v'.way= []/\w'.ms[i]?\s'/\∀(k:Nat) (x:MS),k≠i->w'.ms[k]?\x->x.te < s'.te:=by
 intro n
 induction n with
 |zero=>
  intro w v s hw hz hv e1 e2 hs hB hn;let bb c1 c2 c3:=azG (C:=C) m w.ms i s hs (by rw[hw.n];lia) bd azH hB (l:=l) (a:= .nd .lst (w.way.map cx)) (b:= .nd .lst (w.aq.map Uy)) (c:=iD w.rows) (wr:=wr);cases bb with
  |true=>have:=c2 rfl;lia
  |false=>exact#[1,w,v,s,eV c1 (zK df),hw,rfl,rfl,hv,e1,e2,hs,c3 rfl]
 |succ n ih=>
  intro w v s hw hz hv e1 e2 hs hB hn;let bb c1 c2 c3:=azG (C:=C) m w.ms i s hs (by rw[hw.n];lia) bd azH hB (l:=l) (a:= .nd .lst (w.way.map cx)) (b:= .nd .lst (w.aq.map Uy)) (c:=iD w.rows) (wr:=wr);cases bb with
  |false=>exact#[1,w,v,s,eV c1 (zK df),hw,rfl,rfl,hv,e1,e2,hs,c3 rfl]
  |true=>
   have ws:=hw.ms s (jr hs);have er:=avY (K:=K) (C:=C) m i s ws.wf.rows (eK ws.wf.len b_) h0 b_;let v1 a1 a2 a3:=hv.quiet hm (e1▸hs);have AD:({ w with ms:=w.ms.set i (rise m i s) }:cz).ms[i]?\rise m i s:=aoa hs;have lt:s.te < (rise m i s).te:=azE^^arN i m s.te h0
   have pM:=wz (C:=C) m i s;have UY:=wz (C:=C) m i (rise m i s);have p:=vp (Al (C:=C) (m:=m) hs) pM;have p':bI (eg C m (w.ms.set i (rise m i s)))=yv:=vp (Al (C:=C) (m:=m) (aoa hs)) UY;have em:=awz (GR:=aoE K C) (f:="rise") (fa:=λx=>oF []) (as:= []) (ds:= []) (l:=l) (a:= .nd .lst (w.way.map cx)) (b:= .nd .lst (w.aq.map Uy)) (c:=iD w.rows) (wr:=wr) (Al (C:=C) (m:=m) hs) pM UY (apE m w.ms i (rise m i s)) (aoB c_ _ _ _ _ _ _ _ _ _) rfl rfl er;have eb:ik (an5 (abo (aoE K C) C (ae "rise") (aT 4) λx=>oF [])) (eH (wD C m w) l wr (!.aB 5 [0]) (!.aB 5 [0,i]))\(.nx (eH (wD C m { w with ms:=w.ms.set i (rise m i s) }) l wr (!.aB 5 [0]) (!.aB 5 [0,i]))):=atp em (ato p p' b_ (.inr rfl) (.inr rfl));let k w' v' s' r q:=ih { w with ms:=w.ms.set i (rise m i s) } v1 (rise m i s) (hw.quiet hi hs) hz a1 (a2.trans (by rw[e1])) a3 AD (λk x hk hx=>hB k x hk (by rw[<- aoZ hk];lk)) b_;exact#[k + 1,w',v',s',eV c1 ((zJ rfl).trans (eV eb r)),q]
def awB(GN:oH D->oT (D×oH D))(gj:D)(fw fx:En->oT (D×En)):En->oT Fl:=ik (an5 λρ=>(xm (aT 0) (lD (gm λρ=>(af 4 ρ).bind (ji (ae "number"))) (lD (λρ=>aX (λd=>(d,ρ)) (!gj)) (lD fw (lD fx λρ=>aX (λa=>(a,ρ)) (![]))))) ρ).bind λa=>fL GN a.fst a.snd)
noncomputable abbrev azI:En->oT (D×En):=λρ=>aX (λd=>(d,ρ)) (!D.sc V.aG)
abbrev aFs:En->oT (D×En):=kU (eJ (λρ=>aX (λd=>(d,ρ)) (!D.sc (V.str (ae "row")))) (eJ (λρ=>aX (λd=>(d,ρ)) (!D.sc (V.int 0))) λρ=>oF ([],ρ)))
abbrev vx:D:= .nd .tup [sD "row",iD 0]
theorem atr(h:f ρ\(d,ρ1)):y7 f ρ\(Eg d,ρ1):=by
 rw[y7];rw[h];rfl
section
theorem aFt(h0:0 < m)(hm:m < 40)(h:Ww m w)(hz:-w.aq<=500)(hs:w.ms[i]?\s)(af4:-Pn.ws=m):
  awB (an6 K C) (sD "rise") azI (y7 (abo (aoE K C) C (ae "rise") (aT 4) λx=>oF [])) (eH (wD C m w) l wr (!.aB 5 [0]) (!.aB 5 [0,i]))\(.nx (eH (wD C m (w.note i "rise" (.sc .aG) (!w5 m i (rise m i s).te) (rise m i s))) l wr (!.aB 5 [0]) (!.aB 5 [0,i]))):=by
 have hi:i < m:=by rw[<- h.n];exact(cX.mp hs).1
 have ws:=h.ms s (jr hs);have azJ:=asZ ws (atz i) (by lia:(i:Int) < m);have er:=avY (K:=K) (C:=C) m i s ws.wf.rows (eK ws.wf.len b_) h0 b_;have anY:∀g∈w5 m i (rise m i s).te,WD m 900 g:=avR b_ b_;have en:=apg (K:=K) (C:=C) m { w with ms:=w.ms.set i (rise m i s) } i "rise" (.sc .aG) (!w5 m i (rise m i s).te) (rise m i s) (aoa hs) azJ.wf.rows (eK azJ.wf.len b_) rfl (λl hl=>by
  cases hl;exact#[λg hg=>(anY g hg).ok,by rw[w5];rw[nI];exact eK (aoG _ _) b_]) #[λg hg=>((h.way g hg).mono b_).ok,h.G3] (by show -w.aq<=900;lia)
 have UZ:Eg (.nd .lst ((w5 m i (rise m i s).te).map cx))=x8 (!w5 m i (rise m i s).te):=by
  show(if _ then _ else _)=_;rw[zJ (an8 λg hg=>(anY g hg).ok)];rfl
 rw[<- UZ]at en;have i3:=Al (C:=C) (m:=m) hs;have UY:=wz (C:=C) m i (rise m i s);have p1:bI (eg C m (w.ms.set i (rise m i s)))=yv:=vp (Al (C:=C) (m:=m) (aoa hs)) UY;have em:=awz (GR:=aoE K C) (f:="rise") (fa:=λx=>oF []) (as:= []) (ds:= []) (l:=l) (a:= .nd .lst (w.way.map cx)) (b:= .nd .lst (w.aq.map Uy)) (c:=iD w.rows) (wr:=wr) i3 (wz m i s) UY (apE m w.ms i (rise m i s)) (aoB c_ _ _ _ _ _ _ _ _ _) rfl rfl er;exact awy i3 (wz m i s) b_ (apz _ _ _ _ _ _ _ _ _) p1 p1 rfl (atr em) en
theorem aFu(h0:0 < m)(hm:m < 40)(h:Ww m w)(hz:-w.aq<=500)(hs:w.ms[i]?\s)(af4:-Pn.ws=m):
  awB (an6 K C) (sD "add") aFs (y7 (abo (aon K C) C (ae "add") (aT 4) (mr (d7 Kd.tup (ar (λx=>oF (D.sc (V.str (ae "row")))) (ar (gJ λx=>oF (D.sc (V.int 0))) λx=>oF []))) λx=>oF []))) (eH (wD C m w) l wr (!.aB 5 [0]) (!.aB 5 [0,i]))\(.nx (eH (wD C m (w.note i "add" vx (sG m i vx s).2 (sG m i vx s).1)) l wr (!.aB 5 [0]) (!.aB 5 [0,i]))):=by
 have hi:i < m:=by rw[<- h.n];exact(cX.mp hs).1
 have ws:=h.ms s (jr hs);have ahd:NM vx:= .a _ _ c_;have wa:=as0 (nu:=i) ws ahd;have er:=ayx (K:=K) (C:=C) m i s vx (ws.wf.mono b_) ahd b_;have ht:=azq (i:=i) ws ahd hi;have en:=apg (K:=K) (C:=C) m { w with ms:=w.ms.set i (sG m i vx s).1 } i "add" vx (sG m i vx s).2 (sG m i vx s).1 (aoa hs) wa.wf.rows (eK wa.wf.len b_) ahd.plain (λl hl=>#[λg hg=>(((ht l hl).1 g hg).mono b_).ok,eK (ht l hl).2 b_]) #[λg hg=>((h.way g hg).mono b_).ok,h.G3] (by show -w.aq<=900;lia);have UZ:=azp (o:=(sG m i vx s).2) (b:=900) λl hl g hg=>(((ht l hl).1 g hg).mono b_).ok;rw[<- UZ]at en;have i3:=Al (C:=C) (m:=m) hs;have UY:=wz (C:=C) m i (sG m i vx s).1;have p1:bI (eg C m (w.ms.set i (sG m i vx s).1))=yv:=vp (Al (C:=C) (m:=m) (aoa hs)) UY;have xO:2<=aM:=a_
 have em:=awz (GR:=aon K C) (f:="add") (fa:=(mr (d7 Kd.tup (ar (λx=>oF (D.sc (V.str (ae "row")))) (ar (gJ λx=>oF (D.sc (V.int 0))) λx=>oF []))) λx=>oF [])) (as:= [.tm vx]) (ds:= [vx]) (l:=l) (a:= .nd .lst (w.way.map cx)) (b:= .nd .lst (w.aq.map Uy)) (c:=iD w.rows) (wr:=wr) i3 (wz m i s) UY (apE m w.ms i (sG m i vx s).1) (aoB c_ _ _ _ _ _ _ _ _ _) (eV (a:=vx) (eV (a:= [sD "row",iD 0]) (tL rfl (tL rfl rfl)) (zJ xO)) rfl) rfl er;exact awy i3 (wz m i s) b_ (apz _ _ _ _ _ _ _ _ _) p1 p1 (eV (a:=([sD "row",iD 0],_)) rfl (zJ xO)) (atr em) en
theorem aFv(h0:0 < m)(hm:m < 40)(h:Ww m w)(hz:-w.aq<=500)(hs:w.ms[i]?\s)(af4:-Pn.ws=m):
  awB (an6 K C) (sD "send") azI (y7 λρ=>aX (λd=>(d,ρ)) (methP (aoD K C) C (ae "send") 1 (af 4) (λx=>oF []) ρ)) (eH (wD C m w) l wr (!.aB 5 [0]) (!.aB 5 [0,i]))\(.nx (eH (wD C m (w.note i "send" (.sc .aG) (!sends m i s) s)) l wr (!.aB 5 [0]) (!.aB 5 [0,i]))):=by
 have hi:i < m:=by rw[<- h.n];exact(cX.mp hs).1
 have ws:=h.ms s (jr hs);have er:=ayw (K:=K) (C:=C) m i s (ws.wf.mono b_) b_;have anY:∀g∈sends m i s,WD m (-w.aq) g:=avT ws b_ b_;have awp:-(sends m i s)<=100:=by
  rw[sends]
  split
  .rw[keeps];rw[nI];exact eK (aoG _ _) b_
  .exact jO _
 have atl:w.ms.set i s=w.ms:=by
  let hh e:=cX.mp hs;rw[<- e];exact aHw hh
 have en:=apg (K:=K) (C:=C) m w i "send" (.sc .aG) (!sends m i s) s hs ws.wf.rows (eK ws.wf.len b_) rfl (λl hl=>by
  cases hl;exact#[λg hg=>((anY g hg).mono b_).ok,awp]) #[λg hg=>((h.way g hg).mono b_).ok,h.G3] b_
 have awq:cz.apf w i "send" (.sc .aG) (!sends m i s) s=w.note i "send" (.sc .aG) (!sends m i s) s:=by
  rw[cz.apf,cz.note];rw[atl]
 rw[awq]at en;have UZ:Eg (.nd .lst ((sends m i s).map cx))=x8 (!sends m i s):=by
  show(if _ then _ else _)=_;rw[zJ (an8 λg hg=>(anY g hg).ok)];rfl
 rw[<- UZ]at en;have i3:=Al (C:=C) (m:=m) hs;have pM:=wz (C:=C) m i s;have p:=vp i3 pM;have p2:bI (eg C m (w.note i "send" (.sc .aG) (!sends m i s) s).ms)=yv:=by
  show bI (eg C m (w.ms.set i s))=yv;rw[atl];lk
 have ho:A0 C "send" (d5 C m i s)=oP:=aoB c_ _ _ _ _ _ _ _ _ _;have hd:=arV (l:=l) (a:= .nd .lst (w.way.map cx)) (b:= .nd .lst (w.aq.map Uy)) (c:=iD w.rows) (wr:=wr) (x3:=oF (.aB 5 [0])) i3 pM;have em:methP (aoD K C) C (ae "send") 1 (af 4) (λx=>oF []) (eH (wD C m w) l wr (!.aB 5 [0]) (!.aB 5 [0,i]))\.nd .lst ((sends m i s).map cx):=eV hd ((zJ ho).trans (eV (a:= []) rfl ((zJ rfl).trans er)));exact awy i3 pM b_ (apz _ _ _ _ _ _ _ _ _) p p2 rfl (atr (e9 em)) en
end
theorem azK:∀l:oH MS,∃b:Int,0<=b/\∀x∈l,x.te<=b
 | []=>#[0,rB _,λ_ h=>nomatch h]
 |s::l=>by
  let b h0 h:=azK l;refine#[if b<=s.te then s.te else b,by split <;> lia,λx hx=> ?_];rcases bL.mp hx with rfl | hx
  .split <;> lia
  .have:=h x hx;split <;> lia
theorem awC{wr:D}(h0:0 < m)(hm:m < 40)(h:Ww m w)(hz:-w.aq<=470)(af4:-Pn.ws=m)(hi:i < m)(a b:Str)(c:aob m a b z w w2)(hl:Lp l):∃l2,Lp l2/\Ww m w2/\
  (ik (an5 λρ=>(aX (λa=>(a,ρ)) (gn (aT 0) (gn (aT 1) (mr (d7 Kd.tup (ar (λx=>oF (sD a)) (ar (λx=>oF (sD b)) λx=>oF []))) (mr (λx=>oF (D.sc (V.bl oP))) λx=>oF []))) ρ)).bind λa=>fL (arB K C) a.fst a.snd)) (eH (wD C m w) l wr (!.aB 5 [0]) (!.aB 5 [0,i]))\(.nx (eH (wD C m w2) l2 wr (!.aB 5 [0]) (!.aB 5 [0,i]))):=by
 let w' l2 rC X8 _ _ ex e:=atf (K:=K) (C:=C) m h0 hm w h hz a b oP l hl;have:=ex rfl w2 c.n;subst this;exact#[l2,rC,X8,aFp (aoW h.n h0) (aoW X8.n h0) b_ e]
def azL:En->oT D:=λρ=>(ar (iJ 5 [oM,!4] [0] (λρ=>(af 3 ρ).bind fP) (λd ρ=>oF (bq 0 (B.ro d) ρ)) (λx=>oF oP) (gJ λρ=>(au (dN id) (λρ=>(af 0 ρ).bind (ji (ae "done"))) (λρ=>(ar (λρ=>(af 1 ρ).bind (ji (ae "log"))) (λx=>oF []) ρ).bind eP) ρ).bind λx=>match x with | D.sc (V.bl oP)=>au (dN id) (λρ=>(af 0 ρ).bind (ji (ae "log"))) (λρ=>(af 1 ρ).bind (ji (ae "log"))) ρ | D.sc (V.bl yv)=>oF (D.sc (V.bl yv)) | x=>oM)) (λx=>oF []) ρ).bind iq
theorem aFw(hs:ms[i]?\s)(hn:ms.length<=100)(hL:eU s.L)(al:∀x∈ms,x.dn=s.L.length/\x.L=s.L):azL (eH (wN (eg C m ms) a b c) l wr (!.aB 5 [0]) (!.aB 5 [0,i]))\tD oP:=by
 have i3:=Al (C:=C) (m:=m) hs;have pM:=wz (C:=C) m i s;have p:=vp i3 pM;have d3:=awA (l:=l) (a:=a) (b:=b) (c:=c) (wr:=wr) (x4:=oF (.aB 5 [0,i])) p;have d4:=arV (l:=l) (a:=a) (b:=b) (c:=c) (wr:=wr) (x3:=oF (.aB 5 [0])) i3 pM;have ec:gH 5 [oM,!4] (eH (wN (eg C m ms) a b c) l wr (!.aB 5 [0]) (!.aB 5 [0,i]))= [oM,k_ (d5 C m i s)]:=by
  show [oM,(af 4 (eH (wN (eg C m ms) a b c) l wr (!.aB 5 [0]) (!.aB 5 [0,i]))).map B.ro]=_;rw[d4];rfl
 have fl:ji "log" (d5 C m i s)\.nd .lst s.L:=ao9 _ _ _ _ _ _ _ _ _;have e:=qD (n:=5) (js:= [oM,!4]) (is:= [0]) (fi:=λρ=>(af 3 ρ).bind fP) (fg:=λd ρ=>oF (bq 0 (B.ro d) ρ)) (ft:=λx=>oF oP) (fe:=gJ λρ=>(au (dN id) (λρ=>(af 0 ρ).bind (ji (ae "done"))) (λρ=>(ar (λρ=>(af 1 ρ).bind (ji (ae "log"))) (λx=>oF []) ρ).bind eP) ρ).bind λx=>match x with | D.sc (V.bl oP)=>au (dN id) (λρ=>(af 0 ρ).bind (ji (ae "log"))) (λρ=>(af 1 ρ).bind (ji (ae "log"))) ρ | D.sc (V.bl yv)=>oF (D.sc (V.bl yv)) | x=>oM) (ρ:=eH (wN (eg C m ms) a b c) l wr (!.aB 5 [0]) (!.aB 5 [0,i])) ms.zipIdx (λp=>d5 C m p.2 p.1) (λ_=>oP) (λ_=>tD oP) (eV (a:= .nd pk (eg C m ms)) d3 (by rw[<- ath];rfl)) (awY^^eK hn a_) rfl (λq hq=>by
   rw[ec];refine#[[k_ (d5 C m q.2 q.1),k_ (d5 C m i s)],rfl,rfl,λ_=> ?_];let a1 a2:=al q.1 (jr (aBD.mp hq));refine eV (a:=tD oP) (eV (a:=tD oP) (bY (a:=iD q.1.dn) (b:=iD (-s.L)) (eV (a:=d5 C m q.2 q.1) rfl (ard _ _ _ _ _ _ _ _ _)) (eV (a:= [.nd .lst s.L]) (tL (eV (a:=d5 C m i s) rfl fl) rfl) rfl) ((oX _ _).trans (by rw[decide_eq_true a1]))) ?_) rfl;exact bY (a:= .nd .lst q.1.L) (b:= .nd .lst s.L) (eV (a:=d5 C m q.2 q.1) rfl (ao9 _ _ _ _ _ _ _ _ _)) (eV (a:=d5 C m i s) rfl fl) (azv (a2▸hL) hL a2))
 rw[uV.mpr λ_ _=>rfl]at e;exact eV (a:= [.nd .lst (ms.zipIdx.map λ_=>tD oP)]) (tL e rfl) (azC _)
def aBn:En->oT Bool:=mV (λρ=>(au (dN λx=> not x) (λρ=>(af 4 ρ).bind (ji (ae "role"))) (λx=>oF (D.sc (V.str (ae "leads")))) ρ).bind λx=>match x with | D.sc (V.bl b)=>oF b | x=>oM) (λρ=>(au (dN λx=> not x) (pP (λρ=>(af 4 ρ).bind (ji (ae "log"))) (λx=>oF oM) λρ=>((ar (af 2) (λx=>oF []) ρ).bind eP).bind i9) (af 2) ρ).bind λx=>match x with | D.sc (V.bl b)=>oF b | x=>oM)
theorem aFx(h0:0 < m)(hm:m<=7)(h:AN m w W)(hz:-w.aq<=430)(af4:-Pn.ws=m)(hl:Lp l)(hW:eU W)(zW:-W<=1000):∃w' l',arF K C [wD C m w, .nd .lst l, .nd .dk W]\(tD oP, [wD C m w', .nd .lst l']):=by
 let d l1 d0 d1 akr ep:=anD (K:=K) (C:=C) l hl (m:Int) b_ (awZ (b:=40) b_ a_);obtain⟨i,rfl⟩:∃i:Nat,d=i:=#[d.toNat,by lia]
 have hi:i < m:=b_
 let s hs:=awg h hi;have i3:=Al (C:=C) (m:=m) hs;have np:=aoW (C:=C) h.ww.n h0;let i1 _:=apD (C:=C) (m:=m) hs
 -- nothing on ahg way
 have hv:AN m { w with way:= [] } W:=(Step.drop w [] (λ_ z=>nomatch z) (jO _)).al b_ h;let bd b0 hb:=azK w.ms;let k w1 v1 s1 e1 tR z1 y1 g1 m1 x1 AD t1:=aFr (K:=K) (C:=C) m h0 b_ i hi af4 bd b0 (.nd .dk W) l1 _ { w with way:= [] } { w with way:= [] } s hv.ww (by show -w.aq<=600;lia) hv rfl rfl hs (λk x _ hx=>hb x (jr hx)) (bO _);have aIt:-w1.aq<=430:=z1^^hz
 have aFy:tV w1 v1:=#[m1.symm,by rw[y1,x1]]
 -- it is aIu
 let v2 s2 c2 q1 q2 q3 q4 q5:=aEj b_ g1 hi x1 (m1▸AD) (λk x hk hx=>by
  have:=t1 k x hk (by rw[<- m1];lk);rw[azE];have:=arN i m s1.te h0
  lia)
 have g2:=c2.steps.al b_ ((Step.rise v1 i s1 (m1▸AD)).al b_ g1);let w2 as6 azM:=c2.sim (aFy.note "rise" (.sc .aG) (!w5 m i (rise m i s1).te) (rise m i s1));have aFz:=Step.ww b_ (.rise w1 i s1 AD) tR;let l2 rC ahc e2:=awC (K:=K) (C:=C) (i:=i) (l:=l1) (wr:= .nd .dk W) h0 b_ aFz (by rw[an9];lia) af4 hi "stand" "voice" as6 akr;have z2:=as6.len;rw[an9]at z2;have lC:w2.ms[i]?\s2:=azM.ms^^q2
 -- ag row
 have ahd:NM vx:= .a _ _ c_;have CS:=Step.ww b_ (.add w2 i s2 vx lC ahd) ahc;generalize ha:(sG m i vx s2).1=a2 at CS;have arP:sG m i vx s2=(count m i { s2 with L:=s2.L++ [vx] },!keeps m i (count m i { s2 with L:=s2.L++ [vx] })):=zJ q3;have ea:a2=count m i { s2 with L:=s2.L++ [vx] }:=by rw[<- ha,arP]
 have et:(sG m i vx s2).2\keeps m i a2:=by rw[arP,ea]
 rw[et]at CS;have aIv:=(g2.kz.ms i s2 q2).dl;have azN:Step m v2 (v2.note i "add" vx (!keeps m i a2) a2):=by
  have st:=Step.add (m:=m) v2 i s2 vx q2 ahd;rw[et,ha]at st;lk
 let v3 s3 c3 r1 r2 r3 r4 r5 r6 r7:=azg (s:=a2) (t:=s2.te) (w1:=v2.note i "add" vx (!keeps m i a2) a2) (l:= []) b_ g2 hi azN rfl (by
   show yy (v2.way++keeps m i a2)=_;rw[q1];exact apH (by rw[Wk];rw[keeps];rw[nI];exact eK (ayd _ _) b_)) (ea^^q3) (by rw[ea];rfl) (λe=>by
   rw[ea];exact azd hi (λj hj=>by rw[e]at hj;exact nomatch hj) (by
    show s2.dn<=(-(s2.L++ [vx]):Nat);rw[eO]
    lia)) q2 (λk x hk hx=>#[(q5 k x hk hx).1, .inl (q5 k x hk hx).2])
 have g3:=c3.steps.al b_ (azN.al b_ g2);let w3 azO azP:=c3.sim (azM.note "add" vx (!keeps m i a2) a2);let l3 N1 atg e3:=awC (K:=K) (C:=C) (i:=i) (l:=l2) (wr:= .nd .dk W) h0 b_ CS (by rw[an9];lia) af4 hi "keep" "kept" azO rC;have z3:=azO.len;rw[an9]at z3;have rL:w3.ms[i]?\s3:=azP.ms^^r2
 -- told once more
 have aFA:=Step.ww b_ (.send w3 i s3 rL) atg;have es:sends m i s3=keeps m i s3:=zJ r3;let v4 s4 c4 u1 u2 u3 u4 u5 u6 u7:=azg (s:=s3) (t:=s2.te) (w1:=v3.note i "send" (.sc .aG) (!sends m i s3) s3) (l:= []) b_ g3 hi (.send v3 i s3 r2) rfl (by
   show yy (v3.way++sends m i s3)=_;rw[r1,es];exact apH (by rw[Wk];rw[keeps];rw[nI];exact eK (ayd _ _) b_)) r3 r4 (λ_=>by rw[r6,r5]) r2 (λk x hk hx=>by
   let y1 y2 y3 _:=r7 k x hk hx;exact#[y1, .inr #[y2,by rw[y3,r5]]])
 let w4 aFB azQ:=c4.sim (azP.note "send" (.sc .aG) (!sends m i s3) s3);let l4 api azR e4:=awC (K:=K) (C:=C) (i:=i) (l:=l3) (wr:= .nd .dk W) h0 b_ aFA (by rw[an9];lia) af4 hi "keep" "kept" aFB N1;have xN:w4.ms[i]?\s4:=azQ.ms^^u2
 have all:∀x∈w4.ms,x.dn=-s4.L/\x.L=s4.L:=λx hx=>by
  let k hk:=V5.mp hx;by_cases c:k=i
  .subst c;rw[xN]at hk;cases hk;exact#[by rw[u6,u5],rfl]
  .rw[azQ.ms]at hk;obtain⟨_,_,y3,y4⟩:=u7 k x c hk;rw[u5];exact#[y4 (by rw[r6,r5]) λk x hk hx=>by rw[(r7 k x hk hx).2.2.1,r5],y3]
 have azS:=ahc.ms s2 (jr lC);have aFC:=azR.ms s4 (jr xN);have aFD:=aFw (C:=C) (m:=m) (l:=l4) (a:= .nd .lst (w4.way.map cx)) (b:= .nd .lst (w4.aq.map Uy)) (c:=iD w4.rows) (wr:= .nd .dk W) xN (by rw[azR.n];lia) aFC.wf.rows all;have e5:=aFt (K:=K) (C:=C) (l:=l1) (wr:= .nd .dk W) h0 b_ tR b_ AD af4;have e6:=aFu (K:=K) (C:=C) (l:=l2) (wr:= .nd .dk W) h0 b_ ahc b_ lC af4;rw[et,ha]at e6;have e7:=aFv (K:=K) (C:=C) (l:=l3) (wr:= .nd .dk W) h0 b_ atg b_ rL af4
 -- it aIw,and has fm is written
 have aFE:=Al (C:=C) (m:=m) lC;have aFF:=wz (C:=C) m i s2;have d2:=arV (l:=l2) (a:= .nd .lst (w2.way.map cx)) (b:= .nd .lst (w2.aq.map Uy)) (c:=iD w2.rows) (wr:= .nd .dk W) (x3:=oF (.aB 5 [0])) aFE aFF;have fr:ji "role" (d5 C m i s2)\sD s2.role:=aso _ _ _ _ _ _ _ _ _;have fl:ji "log" (d5 C m i s2)\.nd .lst s2.L:=ao9 _ _ _ _ _ _ _ _ _;have aFG:s2.L.take (-W)=W:=aHB.mp q4▸rfl;have e8:aBn (eH (wD C m w2) l2 (.nd .dk W) (!.aB 5 [0]) (!.aB 5 [0,i]))\yv:=by
  refine eV (a:=yv) (ao1 (bY (a:=sD s2.role) (b:=sD "leads") (eV d2 fr) rfl ?_)) (ao1 (bY (a:= .nd .lst (s2.L.take (-W))) (b:= .nd .dk W) (eV (a:=D.nd .lst s2.L) (eV d2 fl) (eV (a:=(oM:oT Int)) rfl (eV (a:=oF (-W:Int)) rfl (awt azS.wf.rows _)))) rfl ?_))
  .rw[q3];exact(Rf _ _ c_ c_).trans (by rw[decide_eq_false λz=>z rfl])
  .rw[azu];exact azw (apK azS.wf.rows _) hW aFG
 refine#[w4,l4, ?_];rw[arF,avE];dsimp only;have e0:kW 5 [oP,oP,yv] [wD C m w, .nd .lst l, .nd .dk W]=eH (wD C m w) l (.nd .dk W) oM oM:=by
  rw[eH];generalize wD C m w=WW;simp[ug,kW,bW,bU,i0]
 have aFH:=aFn (GP:=Bp K C) (l:=l) (l':=l1) (a:= .nd .lst (w.way.map cx)) (b:= .nd .lst (w.aq.map Uy)) (c:=iD w.rows) (wr:= .nd .dk W) (fl:=λρ=>(ar (af 3) (λx=>oF []) ρ).bind eP) (z:=iD m) np i1 i3 (wz m i s) (eV (a:= [.nd pk (eg C m w.ms)]) (tL (awA np) rfl) (by show oF (iD (-(eg C m w.ms):Nat))=_;rw[aqw,h.ww.n])) ep;have aFI:=aFo (l:=l1) (a:= .nd .lst (w.way.map cx)) (b:= .nd .lst (w.aq.map Uy)) (c:=iD w.rows) (wr:= .nd .dk W) (i:=i) np b_;have run:=aD (aFm (l:=l) (a:= .nd .lst (w.way.map cx)) (b:= .nd .lst (w.aq.map Uy)) (c:=iD w.rows) (wr:= .nd .dk W) np) (aD aFH (aD aFI (aD (Q1 e1) (aD e5 (aD e2 (aD (mB (fc:=λρ=>aX (λb=>(b,ρ)) (aBn ρ)) (c:=yv) (a:=jg λρ=>aX (λd=>(d,ρ)) (!D.sc (V.bl yv))) (b:=λρ=>oF (Fl.nx ρ)) (apF e8) rfl) (aD e6 (aD e3 (aD e7 (aD e4 (cD (f:=λρ=>aX (λd=>(d,ρ)) (azL ρ)) (ρ':=eH (wD C m w4) l4 (.nd .dk W) (!.aB 5 [0]) (!.aB 5 [0,i])) (e9 aFD))))))))))));refine fC (ρ':=eH (wD C m w4) l4 (.nd .dk W) (!.aB 5 [0]) (!.aB 5 [0,i])) ?_ ?_
 .rw[e0];lk
 .generalize wD C m w4=WW;rfl
end
theorem pZ:dr ["_law_script","_law_world","_law_masters","_law_choices_here","_law_written","_law_k"] ["_law_script"] (cb yz):=rF
section
variable (P:zR)(w:zQ)(K:ah)(mg:Str->oT zL)(base:zN)(Cm:zI)[nc K Cm]
def M5: {g:oG K Cm // ∀{P w mg base f fd},cY K "law" "law" yz f fd->bM mg->aCU P w K mg base Cm->aC1 P w K mg base Cm->aC6 P w K mg base Cm->adA P w K mg base Cm->aC4 P w K mg base Cm->aC9 P w K mg base Cm->aC3 P w K mg base Cm->axT P w K mg base Cm->adm P w K mg base Cm->bZ P w K mg base cG 16 f fd ["_law_script"] (cL K 1 (bV 6 g))}:=#[_,λF T awD arE awE BZ awF awG awH apA Lc=>iy F pZ λ_ _ _ _ _ _ hr=>(aL (bX 1 pZ.nd (bC awD hr rfl (cJ (pv 0))))
  (aL (bX 2 pZ.nd (ahj (pxx hr (pv 1) aC)))
  (aL (bX 3 pZ.nd (bC arE hr rfl (eS (oh (r:=auh) (aCm rfl) rfl T.rY uX (cJ (oh (r:=auf) aCl rfl T.Bj PyProof.Rows.boot_range (cJ (pln T.u0 (pv 2)))))) (sg UT (sg Pq (pln T.u0 (pv 2)) dA) dA))))
  (aL (bX 4 pZ.nd (ahj (iX gk)))
  (aL (tq sQ rfl (WT rfl T.Bj (eS dA (fK (r:=Im) (aaO rfl) rfl T.acP aqG (eS dA (pln T.u0 (pv 0)))))) (Kf 5 pZ.nd)
   (dY (bS (d6 apn (pln T.u0 (pxx hr (pv 1) aC)) dA)
   (aL (vX (apc (bC awE hr rfl (eS (pv 1) (bC BZ hr rfl (eS (pv 0) (pv 5)))))))
  (aL (bX 4 pZ.nd (bC awF hr rfl (eS (pv 4) (pv 2))))
  (dY (bS (PW.pt (F7 (d6 aBU (pv 4) qZ) (F6 (oa (aod (bC awG hr rfl (fJ (pv 2) (eS (pv 3) (pv 4)))))))))
   (bu zD) cQ)))) cQ)))
  (bu (bC awH hr rfl (fJ (pv 1) (eS (iX (cJ (bC apA hr rfl (eS (bC Lc hr rfl (eS (pv 0) dA)) dA)))) (pv 4))))))))))]
def UO:oH D->oT D:=bV 6 (M5 K Cm).1
end
theorem aFJ(a b:Nat)(hb:b < 100)(ha:a < 100):m7 [iD a,iD b]\iQ a (b - a):=by
 have e:m7 [iD a,iD b]=if (unop% Neg.neg (2 ^ 62))<=(a:Int)/\(a:Int) < 2 ^ 62/\ (unop% Neg.neg (2 ^ 62))<=(b:Int)/\(b:Int) < 2 ^ 62 then oF (iQ a ((b:Int) - a).toNat) else oM:=rfl;rw[e,zJ #[by lia,by lia,by lia,by lia],Int.toNat_sub]
section
variable [Pn]
noncomputable def ic (c W X3:D) (x4 x5:oT B):En:= [k_ c,j_ W,!.aB 1 [0],j_ X3,x4,x5]
theorem aFK{a b c a' b' c' cc X3:D}(p:bI ee=yv)(p':bI uC=yv)(h2:x2=oM)(h5:NA x5)(h4:NA x4):
  ED (ic cc (wN ee a b c) X3 x4 x5) [k_ cc,j_ (wN uC a' b' c'),x2,j_ X3,x4,x5]=ic cc (wN uC a' b' c') X3 x4 x5:=by
 have e1:alL (ic cc (wN ee a b c) X3 x4 x5) 1\(Pn.b,Pn.ws):=by simp[alL,ic,wN,aV,aa,cg]
 have e2:∀x2,alL [k_ cc,j_ (wN uC a' b' c'),x2,j_ X3,x4,x5] 1\(Pn.b,Pn.ws):=λx2=>by simp[alL,wN,aV,aa,cg]
 have kn:∀{ρ ρ':En} {x:oT B},NA x->EC ρ ρ' x x=x:=λ{ρ ρ' x} h=>by
  cases x with
  |none=>rfl
  |some y=>
   cases y with
   |own _=>rfl
   |ro _=>rfl
   |aB r q=>exact absurd rfl (h r q)
 subst h2;have k2:EC (ic cc (wN ee a b c) X3 x4 x5) [k_ cc,j_ (wN uC a' b' c'),oM,j_ X3,x4,x5] (!.aB 1 [0]) oM\.aB 1 [0]:=by
  unfold EC;dsimp only;rw[e1,aoJ];exact zJ #[e2 _,rfl]
 show [_,_,EC _ _ (!.aB 1 [0]) oM,_,EC _ _ x4 x4,EC _ _ x5 x5]=_;rw[k2,kn h4,kn h5];rfl
theorem aFL{GR:oH D->oT (D×oH D)}{GL:oH D->oT D}{a b c a' b' c' cc k X3 X4:D}(p:bI ee=yv)(p':bI uC=yv)(e1:GL [cc,k]\.nd .lst l)(e2:GR [wN ee a b c, .nd .lst l]\(.sc .aG, [wN uC a' b' c', .nd .lst l'])):
  (ik (an5 (aro GR 1 λρ=>(ar (af 0) (ar (af 5) λx=>oF []) ρ).bind λds=>if -ds=2 then GL ds else oM))) (ic cc (wN ee a b c) X3 (!.own X4) (!.ro k))\.nx (ic cc (wN uC a' b' c') X3 (!.own X4) (!.ro k)):=by
 refine atp (ρ1:= [k_ cc,j_ (wN uC a' b' c'),oM,j_ X3,j_ X4,k_ k]) (d:= .sc .aG) ?_ (aFK p p' rfl dO cZ);generalize wN ee a b c=W1 at e2 |-;generalize wN uC a' b' c'=W2 at e2 |-;rw[ic];simp[aro,qE,e1,e2,hg,alF,mY,gG,cT,bD,fL,ar,af,j3,aa,gg,aT,eT,fO,g9,aV,jF,kY,aZ,t9,uc,ud,ue,uf]
theorem aFM(p:bI ee=yv):af 2 (ic cc (wN ee a b c) X3 x4 x5)\.nd pk ee:=by
 rw[ic,wN];simp[hg,bD,af,aa,cg,aV]
theorem aFN:(λρ=>aX (λb=>(b,ρ)) ((au (iO λi j=>V.bl (decide (i < j))) (λρ=>(ar (au (aW ay aN) (af 1) λx=>oF (D.sc (V.str (ae "story")))) (λx=>oF []) ρ).bind eP) (λx=>oF (D.sc (V.int 300))) ρ).bind λx=>match x with | D.sc (V.bl b)=>oF b | x=>oM)) (ic cc (wD C m w) X3 x4 x5)\(decide (-w.aq < 300),ic cc (wD C m w) X3 x4 x5):=by
 have hl:eP [.nd .lst (w.aq.map Uy)]\iD (-w.aq):=by simp[eP]
 have W0:wD C m w= .nd (.aO gD) [.nd pk (eg C m w.ms), .nd .lst (w.way.map cx), .nd .lst (w.aq.map Uy),iD w.rows]:=rfl;have hd:decide ((-w.aq:Int) < 300)=decide (-w.aq < 300):=by
  by_cases c:-w.aq < 300
  .rw[decide_eq_true c,decide_eq_true b_]
  .rw[decide_eq_false c,decide_eq_false b_]
 rw[ic];rw[W0];generalize w.aq.map Uy=st at *;simp[ayA,hl,hd,bD,ar,af,iO,aN,aW,jh,au]
theorem aFO(m:Nat)(hm:m<=100):ari [iD m]\vb (kf m):=by
 show(if 0<=(m:Int)/\(m:Int)<=2 ^ 20 then oF (D.nd .lst (iQ 0 (m:Int).toNat)) else oM)=_;rw[zJ #[by lia,by lia],aqF,Ri];rfl
theorem aFP(h0:0 < m)(hm:m<=7)(cs:oH Int){w:cz}{W:oH D}(h:AN m w W)(hz:-w.aq < 300)(hW:eU W)(zW:-W<=600)(k:Nat)(hk:k < 2 ^ 20)(hX:abp X3\(Hm (m / 2 + 1) (kf m)).map x9):
  ∃w' W',AN m w' W'/\-w'.aq<=430/\eU W'/\-W'<=600/\
   (kT (ik (an5 (aro (aqr K C) 1 λρ=>(ar (af 0) (ar (af 5) λx=>oF []) ρ).bind λds=>if -ds=2 then uu K C ds else oM))) (kT (dU 4 λρ=>aX (λd=>(d,ρ)) ((ar (af 4) (ar (af 2) λx=>oF []) ρ).bind λds=>if -ds=2 then aqq K C ds else oM)) (gv (λρ=>aX (λb=>(b,ρ)) (mV (λρ=>(au (oJ id) (af 4) (λx=>oF (D.sc V.aG)) ρ).bind λx=>match x with | D.sc (V.bl b)=>oF b | x=>oM) (λρ=>aX (λx=> not x) (((ar (af 2) (ar (af 3) (ar (af 4) λx=>oF [])) ρ).bind λds=>if -ds=3 then aqt K C ds else oM).bind λx=>match x with | D.sc (V.bl b)=>oF b | x=>oM)) ρ)) (jg λρ=>aX (λd=>(d,ρ)) (!D.sc (V.bl yv))) λρ=>oF (Fl.nx ρ)))) (ic (qI cs) (wD C m w) X3 (!.own (.nd .dk W)) (!.ro (iD k)))\.nx (ic (qI cs) (wD C m w') X3 (!.own (.nd .dk W')) (!.ro (iD k))):=by
 let l hl e1:=azi (K:=K) (C:=C) cs k hk;let w' l' oz X8 st G9 e2:=aEU (K:=K) (C:=C) m h0 b_ w h.ww b_ l hl;have h':=st.al b_ h;have e3:=aFL (X3:=X3) (X4:= .nd .dk W) (aoW h.ww.n h0) (aoW X8.n h0) e1 e2;let g kw cm:=h'.kw;have hs:∀s∈w'.ms,eU s.L/\0<=s.dn/\s.dn<=-s.L/\-s.L<=1000/\Cm m w' g (sure s):=λs q=>by
  let i hi:=V5.mp q;have ws:=X8.ms s q;exact#[ws.wf.rows,(h'.jw.ms i s hi).dn,(h'.kz.ms i s hi).dl,eK ws.wf.len b_,ay5 kw h'.kz hi]
 have e4:=aFf (K:=K) (C:=C) m w'.ms (by rw[X8.n];lia) W (Cm m w' g) (λA B a b=>aEd kw a b) hW cm b_ hs;have hL:=awu w'.ms W hW λs q=>(hs s q).1;have aFQ:=azy w'.ms W 600 zW λs q=>eK (X8.ms s q).wf.len b_;have azT:=ay6 kw h'.kz w'.ms W (λ_ q=>q) cm;have hc:∀c∈Hm (m / 2 + 1) (kf m),c.Nodup/\-c=m / 2 + 1/\∀j∈c,j < m:=λc q=>by
  let a b:=awr _ _ c q;exact#[aHv a awW,b,λj hj=>sH.mp (a.subset hj)]
 have Zk:-(Hm (m / 2 + 1) (kf m))<=20000:=eK (aws _ _ (apk^^hm) b_) (eK (aHy b_ (by lia:m / 2 + 1<=4)) a_);have e5:=aFl (K:=K) (C:=C) m w'.ms X8.n (λs q=>#[(hs s q).1,(hs s q).2.2.2.1]) hX Zk (λc q=>by
  obtain⟨_,b,d⟩:=hc c q;exact#[d,by lia,by lia]) hL (λc q j hj ahe=>by
  let a b d:=hc c q;exact aEe kw X8.n azT a b_ d (arU (X8.n^^hj)) λj2 h2 s2 q2=>by
   rw[arU (X8.n^^d j2 h2)]at q2;cases q2;exact ahe j2 h2)
 have l1:=λ(x4 x5:oT B)=>aFM (a:= .nd .lst (w'.way.map cx)) (b:= .nd .lst (w'.aq.map Uy)) (c:=iD w'.rows) (cc:=qI cs) (X3:=X3) (x4:=x4) (x5:=x5) (aoW (C:=C) X8.n h0);have f4:(ar (af 4) (ar (af 2) λx=>oF []) (ic (qI cs) (wD C m w') X3 (!.own (.nd .dk W)) (!.ro (iD k)))).bind (λds=>if -ds=2 then aqq K C ds else oM)\.nd .dk (ahb w'.ms W):=eV (tL rfl (tL (l1 _ _) rfl)) e4;have f5:(ar (af 2) (ar (af 3) (ar (af 4) λx=>oF [])) (ic (qI cs) (wD C m w') X3 (!.own (.nd .dk (ahb w'.ms W))) (!.ro (iD k)))).bind (λds=>if -ds=3 then aqt K C ds else oM)\tD oP:=eV (tL (l1 _ _) (tL rfl (tL rfl rfl))) e5;refine#[w',ahb w'.ms W,#[h'.ww,h'.jw,h'.kz,g,kw,azT],by lia,hL,aFQ,aD e3 (aD (ρ':=ic (qI cs) (wD C m w') X3 (!.own (.nd .dk (ahb w'.ms W))) (!.ro (iD k))) (eW (e9 f4) ?_) (mB (c:=yv) (apF (eV (a:=yv) rfl ?_)) rfl))]
 .show bq 4 _ (ic (qI cs) (wD C m w') X3 _ _)=_;generalize wD C m w'=WW;rfl
 .exact congrArg (aX λx=> not x) (ao1 f5)
theorem aFR(h0:0 < m)(hm:m<=7)(af4:-Pn.ws=m)(cs:oH Int)(ql:-cs<=63):Ev (kT (dU 3 λρ=>aX (λd=>(d,ρ)) ((ar (λρ=>(ar (λρ=>(ar (af 2) (λx=>oF []) ρ).bind eP) (λx=>oF []) ρ).bind ari) (ar (au i5 (au (intD oq λi j=>V.int (i / j)) (λρ=>(ar (af 2) (λx=>oF []) ρ).bind eP) λx=>oF (D.sc (V.int 2))) λx=>oF (D.sc (V.int 1))) λx=>oF []) ρ).bind λds=>if -ds=2 then aqp K C ds else oM))
  (kT (dU 4 (y7 (ju λρ=>oF ([],ρ)))) (kT (λρ=>((ar (λx=>oF (D.sc (V.int 1))) (ar (λρ=>(ar (λx=>oF (D.sc (V.int 9))) (ar (λρ=>(ar (af 0) (λx=>oF []) ρ).bind eP) λx=>oF []) ρ).bind (kB λi j=>V.int (if j > i then j else i))) λx=>oF []) ρ).bind m7).bind λds=>eB (λd ρ=>oF (bq 5 (B.ro d) ρ)) (gv (λρ=>aX (λb=>(b,ρ)) ((au (iO λi j=>V.bl (decide (i < j))) (λρ=>(ar (au (aW ay aN) (af 1) λx=>oF (D.sc (V.str (ae "story")))) (λx=>oF []) ρ).bind eP) (λx=>oF (D.sc (V.int 300))) ρ).bind λx=>match x with | D.sc (V.bl b)=>oF b | x=>oM))
   (kT (ik (an5 (aro (aqr K C) 1 λρ=>(ar (af 0) (ar (af 5) λx=>oF []) ρ).bind λds=>if -ds=2 then uu K C ds else oM))) (kT (dU 4 λρ=>aX (λd=>(d,ρ)) ((ar (af 4) (ar (af 2) λx=>oF []) ρ).bind λds=>if -ds=2 then aqq K C ds else oM)) (gv (λρ=>aX (λb=>(b,ρ)) (mV (λρ=>(au (oJ id) (af 4) (λx=>oF (D.sc V.aG)) ρ).bind λx=>match x with | D.sc (V.bl b)=>oF b | x=>oM) (λρ=>aX (λx=> not x) (((ar (af 2) (ar (af 3) (ar (af 4) λx=>oF [])) ρ).bind λds=>if -ds=3 then aqt K C ds else oM).bind λx=>match x with | D.sc (V.bl b)=>oF b | x=>oM)) ρ)) (jg λρ=>aX (λd=>(d,ρ)) (!D.sc (V.bl yv))) λρ=>oF (Fl.nx ρ)))) λρ=>oF (Fl.nx ρ)) ds ρ)
   (jg (axB (arF K C) 1 (d7 Kd.lst (ar (λρ=>(ar (λρ=>(ar (af 0) (ar (λx=>oF (D.sc (V.int 0))) λx=>oF []) ρ).bind λds=>if -ds=2 then EI K C ds else oM) (ar (λx=>oF (D.sc (V.int 7))) λx=>oF []) ρ).bind λds=>if -ds=2 then aqi K C ds else oM) λx=>oF [])) (gJ (af 4))))))) [k_ (qI cs),j_ (wD C m (w0 m)),!.aB 1 [0],oM,oM,oM] λfl=>match fl with | .rt d _=>d=tD oP | _=>False:=by
 have np:=aoW (C:=C) (atm m).n h0;let X3 eX hX:=azt (K:=K) (C:=C) 5 (m / 2 + 1) (kf m) b_ b_ (apk^^hm);obtain⟨nk,aFS,dw⟩:∃nk:Nat,nk < 100/\(if(-cs:Int) > 9 then(-cs:Int) else 9)=(nk:Int):=by
  by_cases h8:(-cs:Int) > 9
  .exact#[-cs,by lia,by rw[zJ h8]]
  .exact#[9,by decide,by rw[zK h8];rfl]
 have d2:af 2 [k_ (qI cs),j_ (wD C m (w0 m)),!.aB 1 [0],oM,oM,oM]\.nd pk (eg C m (w0 m).ms):=by
  rw[wD];simp[hg,bD,af,aa,cg,aV]
 have azU:(λρ=>(ar (af 2) (λx=>oF []) ρ).bind eP) [k_ (qI cs),j_ (wD C m (w0 m)),!.aB 1 [0],oM,oM,oM]\iD m:=eV (tL d2 rfl) (by show oF (iD (-(eg C m (w0 m).ms):Nat))=_;rw[aqw,(atm m).n]);have e3:(ar (λρ=>(ar (λρ=>(ar (af 2) (λx=>oF []) ρ).bind eP) (λx=>oF []) ρ).bind ari) (ar (au i5 (au (intD oq λi j=>V.int (i / j)) (λρ=>(ar (af 2) (λx=>oF []) ρ).bind eP) λx=>oF (D.sc (V.int 2))) λx=>oF (D.sc (V.int 1))) λx=>oF []) [k_ (qI cs),j_ (wD C m (w0 m)),!.aB 1 [0],oM,oM,oM]).bind (λds=>if -ds=2 then aqp K C ds else oM)\X3:=by
  have ed:intD oq (λi j=>V.int (i / j)) (iD m) (iD 2)\iD (m / 2:Nat):=by
   have:((m / 2:Nat):Int)=(m:Int) / 2:=b_
   rw[this];simp[intD,oq]
  have ea:i5 (iD (m / 2:Nat)) (.sc (.int 1))\iD (m / 2 + 1:Nat):=by
   rw[show((m / 2 + 1:Nat):Int)=((m / 2:Nat):Int) + 1 by lia];rfl
  have aFT:aqp K C [vb (kf m),iD (m / 2 + 1:Nat)]\X3:=by
   rw[aqp];exact eX
  exact eV (tL (eV (tL azU rfl) (aFO m b_)) (tL (bY (a:=iD (m / 2:Nat)) (b:= .sc (.int 1)) (bY (a:=iD m) (b:=iD 2) azU rfl ed) rfl ea) rfl)) ((zJ rfl).trans aFT)
 refine Ev.nx (ρ':= [k_ (qI cs),j_ (wD C m (w0 m)),!.aB 1 [0],j_ X3,oM,oM]) (eW (e9 e3) (by generalize wD C m (w0 m)=WW;rfl)) ?_;refine Ev.nx (ρ':=ic (qI cs) (wD C m (w0 m)) X3 (!.own (.nd .dk [])) oM) (eW (atr (d:= .nd .lst []) rfl) (by rw[ic];generalize wD C m (w0 m)=WW;rfl)) ?_;refine Ev.seq (Ev.for (ds:=iQ ((1:Nat):Int) (nk - 1)) ?_ (λρ=>∃(w:cz) (W:oH D) (x5:oT B),AN m w W/\-w.aq<=430/\eU W/\-W<=600/\NA x5/\ρ=ic (qI cs) (wD C m w) X3 (!.own (.nd .dk W)) x5) #[w0 m, [],oM,aEf m (atm m),jO _,(λ_ h=>nomatch h),jO _,i6,rfl] ?_ ?_)
 .refine ak.mpr #[[iD (1:Nat),iD nk], ?_,aFJ 1 nk aFS a_];rw[<- dw];rw[ic];generalize wD C m (w0 m)=WW at *;simp[qI,bD,ar,af,kB,eP]
 .rintro dd hd ρ ⟨w,W,x5,al,hz,hW,zW,h5,rfl⟩;let k hk rfl:=abm hd;rw[show((1:Nat):Int) + (k:Int)=((1 + k:Nat):Int) by lia];refine#[ic (qI cs) (wD C m w) X3 (!.own (.nd .dk W)) (!.ro (iD (1 + k:Nat))),(by
   unfold ic;generalize wD C m w=WW at *;simp[abj h5,bq,t9,uc,ud,uf]), ?_]
  have ao0:=aFN (C:=C) (cc:=qI cs) (X3:=X3) (m:=m) (w:=w) (x4:=oF (.own (.nd .dk W))) (x5:=oF (.ro (iD (1 + k:Nat))));by_cases c:-w.aq < 300
  .rw[decide_eq_true c]at ao0;let w' W' aFU G9 awv aww e:=aFP (K:=K) (C:=C) h0 hm cs al c hW zW (1 + k) b_ hX;exact Ev.aoj ao0 #[_,e,w',W',_,aFU,G9,awv,aww,dO,rfl]
  .rw[decide_eq_false c]at ao0;exact Ev.Mh ao0 #[_,rfl,w,W,_,al,hz,hW,zW,dO,rfl]
 .rintro ρ ⟨w,W,x5,al,hz,hW,zW,h5,rfl⟩;let cv ec:=afD (K:=K) (C:=C) cs 0;let r er:=azh (K:=K) (C:=C) cv 7 a_;let w' l' eh:=aFx (K:=K) (C:=C) h0 hm al hz af4 (l:= [iD r]) #[r,0, .inl rfl] hW b_;have n1:1<=aM:=a_
  have q1:(d7 Kd.lst (ar (λρ=>(ar (λρ=>(ar (af 0) (ar (λx=>oF (D.sc (V.int 0))) λx=>oF []) ρ).bind λds=>if -ds=2 then EI K C ds else oM) (ar (λx=>oF (D.sc (V.int 7))) λx=>oF []) ρ).bind λds=>if -ds=2 then aqi K C ds else oM) λx=>oF [])) (ic (qI cs) (wD C m w) X3 (!.own (.nd .dk W)) x5)\.nd .lst [iD r]:=eV (tL (eV (tL (eV (tL rfl (tL rfl rfl)) ec) (tL rfl rfl)) er) rfl) (zJ n1);have q2:gJ (af 4) (ic (qI cs) (wD C m w) X3 (!.own (.nd .dk W)) x5++ [j_ (.nd .lst [iD r])])\.nd .dk W:=eV rfl (zJ hW.plain);have q3:fL (arF K C) [.io #[1, []], .io #[6, []], .tm (.nd .dk W)] (ic (qI cs) (wD C m w) X3 (!.own (.nd .dk W)) x5++ [j_ (.nd .lst [iD r])])\(tD oP, [k_ (qI cs),j_ (wD C m w'),oM,j_ X3,j_ (.nd .dk W),x5,j_ (.nd .lst l')]):=by
   generalize wD C m w=W1 at eh |-;generalize wD C m w'=W2 at eh |-;rw[ic];simp[eh,hg,alF,mY,gG,cT,fL,j3,aa,gg,eT,abC,akS,akT,abk h5,g9,aV,jF,kY,aZ]
  refine#[.rt (tD oP) _,cD (eV (a:=Pl.rt 1 []) rfl (eV q1 (eV q2 (eV q3 (zJ rfl))))),rfl]
end
theorem agy(cs:oH Int)(ql:-cs<=63)(hn:∀f∈mH,mf K C f):UO K C [qI cs]\tD oP:=by
 let m h0 h7 eb:=aEZ (K:=K) (C:=C) cs hn;have e1:dU 1 (λρ=>aX (λd=>(d,ρ)) ((ar (af 0) (λx=>oF []) ρ).bind λds=>if -ds=1 then asN K C ds else oM)) [k_ (qI cs),oM,oM,oM,oM,oM]\(.nx [k_ (qI cs),j_ (wL C m (w0 m)),oM,oM,oM,oM]):=eW (e9 (eV (tL rfl rfl) eb)) (by generalize wL C m (w0 m)=WW;rfl);have ml:-(eg C m (w0 m).ms)=m:=by
  haveI:Pn:=#[0, []]
  rw[aqw,(atm m).n]
 rw[UO,M5];dsimp only;have hp:(dF ay (aT 1) λx=>oF (D.sc (V.str (ae "masters")))) [k_ (qI cs),j_ (wL C m (w0 m)),oM,oM,oM,oM]\.rt 1 [0]:=by
  haveI:Pn:=#[0, []]
  rw[wL];simp[aoV,hg,dF,jh,nT,oC,aT,VL.plain,aV,aa]
 let ρ' e2:=aCs (i:=2) (r:=1) (p:= [0]) (d:=tD oP) (fr:=_) (cs:=eg C m (w0 m).ms) (d0:=wL C m (w0 m)) hp rfl (by rw[wL];simp[aa,cg,hg]) a_ (λb ws hl=>by
  letI:Pn:=#[b,ws]
  let fl e q:=aFR (K:=K) (C:=C) h0 h7 (show -ws=m from hl.trans ml) cs ql;cases fl with
  |rt d ai=>
   have q:d=tD oP:=q;subst q;refine#[ai, ?_];have eE:arp 2 1 [0] (wL C m (w0 m)) (eg C m (w0 m).ms) [k_ (qI cs),j_ (wL C m (w0 m)),oM,oM,oM,oM] b ws= [k_ (qI cs),j_ (wD C m (w0 m)),!.aB 1 [0],oM,oM,oM]:=by
    have:aZ (wL C m (w0 m)) [0] (.nd (.tE b ws) (eg C m (w0 m).ms))=wD C m (w0 m):=by
     rw[wL,wD];simp[aZ];exact#[rfl,rfl]
    rw[arp];rw[this];generalize wD C m (w0 m)=WW;rfl
   rw[eE];lk
  |nx _=>exact q.elim
  |bk _=>exact q.elim
  |ct _=>exact q.elim)
 exact fQ (ρ':=ρ') (aD e1 e2)
def Ng(K:ah):Sp:=λvs H Q _=>∃(a:zI) (ns:oH Int),vs= [.ref a]/\jA K H a (ns.map V.int)/\-ns<=63/\∀H',Q (.bl oP) H'
theorem agB{K:ah}{H:Hp}{a:zI}{vs:oH V}(hO:C4 H)(hS:gN K H a vs):jA K H a vs:=by
 rcases hS with(e | ⟨o,e⟩) | h
 .rcases hO a with z | ⟨o,xs,z⟩
  .rw[z]at e;lk
  .rw[z]at e;cases e
 .exact .inl #[o,e]
 .exact .inr h
theorem agC{K:ah}{H:Hp}{a:zI}{ns:oH Int}(h:jA K H a (ns.map V.int)):gF K H T1 [.ref a] [qI ns]:=by
 refine#[rfl,λi v d hv hd=> ?_];cases i with
 |succ i=>simp at hv
 |zero=>
  cases hv;cases hd;refine .nd (λz=>by lk) #[trivial,h] e_ λi v d hv hd=> ?_;rw[bJ]at hv hd;cases e:ns[i]? with
  |none=>rw[e]at hv;lk
  |some x=>
   rw[e]at hv hd;cases hv;cases hd;exact .sc _
theorem vj{P:zR}{w:zQ}{K:ah}{mg:Str->oT zL}{base h:zN}{x:Str}{ps:oH Str}{k:Nat}{sp:Sp}{st:zP}{f:zI}{oc:zL}{od an:oT zI}{mO:Array (oT zL)}{kV doc pm dB ct:zL}(X:K.In h)(G:h.Ns jN mg)(a:W.nsIn K jN x\!.ref f)(l:K.lookup f\#[oc,od, .func (qT x x (rE st) (mS st) (cb st) .none kV doc pm an dB ct),mO])(c:Cf K dB x=oP)(kk:uO K (.ref f)=oP)
  (o:bZ P w K mg base cG k f (qT x x (rE st) (mS st) (cb st) .none kV doc pm an dB ct) ps sp) (hb:∀(kV doc pm:zL) (an:oT zI) (dB ct:zL) (us:oH zL),us.length=-ps->bindArgs (qT x x (rE st) (mS st) (cb st) .none kV doc pm an dB ct) #[us, []]=pure (ps.zip us)):dt P w K mg base x ps k sp:=dt.of (GX l c kk) ((GX l c kk).binds hb) (qW X G a) o
theorem ph{P:oH zL->Prop}(h:∀a,P [a]):∀us:oH zL,us.length=1->P us
 | [a],_=>h a
theorem jo{P:oH zL->Prop}(h:∀a b,P [a,b]):∀us:oH zL,us.length=2->P us
 |a::r,e=>ph (P:=λr=>P (a::r)) (h a) r (eF e)
theorem uF{P:oH zL->Prop}(h:∀a b c,P [a,b,c]):∀us:oH zL,us.length=3->P us
 |a::r,e=>jo (P:=λr=>P (a::r)) (h a) r (eF e)
theorem Nh{P:oH zL->Prop}(h:∀a b c d,P [a,b,c,d]):∀us:oH zL,us.length=4->P us
 |a::r,e=>uF (P:=λr=>P (a::r)) (h a) r (eF e)
theorem agF{P:oH zL->Prop}(h:∀a b c d e,P [a,b,c,d,e]):∀us:oH zL,us.length=5->P us
 |a::r,e=>Nh (P:=λr=>P (a::r)) (h a) r (eF e)
def nA(K:ah)(x:Str)(f:zI):Prop:=W.nsIn K jN x\!.ref f
def nZ(K:ah)(x:Str):Prop:=W.nsIn K jN x\oM
def nL(K:ah)(f:zI)(x y:Str)(s:zP)(oc:zL)(od:oT zI)(kV dc pm:zL)(an:oT zI)(cd ct:zL)(sl:Array (oT zL)):Prop:=K.lookup f\#[oc,od, .func (qT x y (rE s) (mS s) (cb s) .none kV dc pm an cd ct),sl]
def nC(K:ah)(c:zL)(x:Str):Prop:=Cf K c x=oP
def nK(K:ah)(f:zI):Prop:=uO K (.ref f)=oP
def nF(K:ah)(C:zI)(x:Str):Prop:=p7 K (.ref C) x\oM
theorem all_mk{l:W.OpenLaw}{w:zQ}{K:ah}{h:zN}{mg:Str->oT zL}{C fa:zI}(X:K.In h)(G:h.Ns jN mg)(agG:mg "law"\.ref fa)
 (a0:nA K "_law_cell_at" f0) (l0:nL K f0 "_law_cell_at" "_law_cell_at" JL aIx aIy aIz aIA aIB aIC aFV aID aIE) (c0:nC K aFV "_law_cell_at") (k0:nK K f0)
 (a1:nA K "_law_mix" f1) (l1:nL K f1 "_law_mix" "_law_mix" JM aIF aIG aIH aII aIJ aIK aFW aIL aIM) (c1:nC K aFW "_law_mix") (k1:nK K f1)
 (a2:nA K "_law_rich" f2) (l2:nL K f2 "_law_rich" "_law_rich" auu aIN aIO aIP aIQ aIR aIS aFX aIT aIU) (c2:nC K aFX "_law_rich") (k2:nK K f2)
 (a3:nA K "_law_left" f3) (l3:nL K f3 "_law_left" "_law_left" JN aIV aIW aIX aIY aIZ aI0 aFY aI1 aI2) (c3:nC K aFY "_law_left") (k3:nK K f3)
 (a4:nA K "_law_pick" f4) (l4:nL K f4 "_law_pick" "_law_pick" JI aI3 aI4 aI5 aI6 aI7 aI8 aFZ aI9 aJa) (c4:nC K aFZ "_law_pick") (k4:nK K f4)
 (a5:nA K "_law_begun" f5) (l5:nL K f5 "_law_begun" "_law_begun" auw aJb aJc aJd aJe aJf aJg aF0 aJh aJi) (c5:nC K aF0 "_law_begun") (k5:nK K f5)
 (a6:nA K "_law_choices" f6) (l6:nL K f6 "_law_choices" "_law_choices" auy aJj aJk aJl aJm aJn aJo aF1 aJp aJq) (c6:nC K aF1 "_law_choices") (k6:nK K f6)
 (a7:nA K "_law_note" f7) (l7:nL K f7 "_law_note" "_law_note" auz aJr aJs aJt aJu aJv aJw aF2 aJx aJy) (c7:nC K aF2 "_law_note") (k7:nK K f7)
 (a8:nA K "next_term" f8) (l8:nL K f8 "next_term" "next_term" auR aJz aJA aJB aJC aJD aJE aF3 aJF aJG) (c8:nC K aF3 "next_term") (k8:nK K f8)
 (a9:nA K "is_most" f9) (l9:nL K f9 "is_most" "is_most" auA aJH aJI aJJ aJK aJL aJM aF4 aJN aJO) (c9:nC K aF4 "is_most") (k9:nK K f9)
 (aF5:nA K "rank_of_voice" azV) (azW:nL K azV "rank_of_voice" "rank_of_voice" auK aJP aJQ aJR aJS aJT aJU aF6 aJV aJW) (azX:nC K aF6 "rank_of_voice") (azY:nK K azV)
 (aF7:nA K "is_fixed" azZ) (aF8:nL K azZ "is_fixed" "is_fixed" auH aJX aJY aJZ aJ0 aJ1 aJ2 aF9 aJ3 aJ4) (aGa:nC K aF9 "is_fixed") (aGb:nK K azZ)
 (aGc:nA K "own_copy" az0) (m9:nL K az0 "own_copy" "own_copy" auE aJ5 aJ6 aJ7 aJ8 aJ9 aKa aGd aKb aKc) (aGe:nC K aGd "own_copy") (aGf:nK K az0)
 (aGg:nA K "take_behind" az1) (az2:nL K az1 "take_behind" "take_behind" auI aKd aKe aKf aKg aKh aKi aGh aKj aKk) (az3:nC K aGh "take_behind") (az4:nK K az1)
 (aGi:nA K "take_rows" az5) (az6:nL K az5 "take_rows" "take_rows" auJ aKl aKm aKn aKo aKp aKq aGj aKr aKs) (az7:nC K aGj "take_rows") (az8:nK K az5)
 (aGk:nA K "lead_by_voices" az9) (aAa:nL K az9 "lead_by_voices" "lead_by_voices" auL aKt aKu aKv aKw aKx aKy aGl aKz aKA) (aAb:nC K aGl "lead_by_voices") (aAc:nK K az9)
 (aGm:nA K "others" aAd) (aAe:nL K aAd "others" "others" auB aKB aKC aKD aKE aKF aKG aGn aKH aKI) (aAf:nC K aGn "others") (aAg:nK K aAd)
 (aGo:nA K "rows_told" aAh) (aAi:nL K aAh "rows_told" "rows_told" auF aKJ aKK aKL aKM aKN aKO aGp aKP aKQ) (aAj:nC K aGp "rows_told") (aAk:nK K aAh)
 (aGq:nA K "hear_stand" aAl) (aAm:nL K aAl "hear_stand" "hear_stand" auG aKR aKS aKT aKU aKV aKW aGr aKX aKY) (aAn:nC K aGr "hear_stand") (aAo:nK K aAl)
 (aGs:nA K "hear_voice" aAp) (aAq:nL K aAp "hear_voice" "hear_voice" auM aKZ aK0 aK1 aK2 aK3 aK4 aGt aK5 aK6) (aAr:nC K aGt "hear_voice") (aAs:nK K aAp)
 (aGu:nA K "hear_keep" aAt) (aAu:nL K aAt "hear_keep" "hear_keep" auN aK7 aK8 aK9 aLa aLb aLc aGv aLd aLe) (aAv:nC K aGv "hear_keep") (aAw:nK K aAt)
 (aGw:nA K "count_done" aAx) (aAy:nL K aAx "count_done" "count_done" auC aLf aLg aLh aLi aLj aLk aGx aLl aLm) (aAz:nC K aGx "count_done") (aAA:nK K aAx)
 (aGy:nA K "hear_kept" aAB) (aAC:nL K aAB "hear_kept" "hear_kept" auD aLn aLo aLp aLq aLr aLs aGz aLt aLu) (aAD:nC K aGz "hear_kept") (aAE:nK K aAB)
 (aGA:nA K "_law_heard" aAF) (aAG:nL K aAF "_law_heard" "_law_heard" auP aLv aLw aLx aLy aLz aLA aGB aLB aLC) (aAH:nC K aGB "_law_heard") (aAI:nK K aAF)
 (aGC:nA K "_law_carried" aAJ) (aAK:nL K aAJ "_law_carried" "_law_carried" auQ aLD aLE aLF aLG aLH aLI aGD aLJ aLK) (aAL:nC K aGD "_law_carried") (aAM:nK K aAJ)
 (aGE:nA K "_law_leader" aAN) (aAO:nL K aAN "_law_leader" "_law_leader" auW aLL aLM aLN aLO aLP aLQ aGF aLR aLS) (aAP:nC K aGF "_law_leader") (aAQ:nK K aAN)
 (Fy:nA K "_law_added" aAR) (age:nL K aAR "_law_added" "_law_added" auX aLT aLU aLV aLW aLX aLY aGG aLZ aL0) (aAS:nC K aGG "_law_added") (aAT:nK K aAR)
 (aGH:nA K "_law_road" aAU) (aAV:nL K aAU "_law_road" "_law_road" auZ aL1 aL2 aL3 aL4 aL5 aL6 aGI aL7 aL8) (aAW:nC K aGI "_law_road") (aAX:nK K aAU)
 (aGJ:nA K "_law_longest" aAY) (aAZ:nL K aAY "_law_longest" "_law_longest" au0 aL9 aMa aMb aMc aMd aMe aGK aMf aMg) (aA0:nC K aGK "_law_longest") (aA1:nK K aAY)
 (aGL:nA K "rank_of_log" aA2) (aA3:nL K aA2 "rank_of_log" "rank_of_log" au1 aMh aMi aMj aMk aMl aMm aGM aMn aMo) (aA4:nC K aGM "rank_of_log") (aA5:nK K aA2)
 (aGN:nA K "next_log" aA6) (aA7:nL K aA6 "next_log" "next_log" au2 aMp aMq aMr aMs aMt aMu aGO aMv aMw) (aA8:nC K aGO "next_log") (aA9:nK K aA6)
 (aGP:nA K "_law_stays" aBa) (aBb:nL K aBa "_law_stays" "_law_stays" au3 aMx aMy aMz aMA aMB aMC aGQ aMD aME) (aBc:nC K aGQ "_law_stays") (aBd:nK K aBa)
 (aGR:nA K "_law_healed" aBe) (aBf:nL K aBe "_law_healed" "_law_healed" auV aMF aMG aMH aMI aMJ aMK aGS aML aMM) (aBg:nC K aGS "_law_healed") (aBh:nK K aBe)
 (aGT:nA K "law" aBi) (aGU:nL K aBi "law" "law" yz aMN aMO aGV aGW aGX aGY aBj aGZ aMP) (aG0:nC K aBj "law") (aG1:nK K aBi)
 (z0:nZ K "len")
 (z1:nZ K "range")
 (z2:nZ K "list")
 (z3:nZ K "tuple")
 (z4:nZ K "int")
 (z5:nZ K "max")
 (z6:nZ K "min")
 (z7:nZ K "all")
 (z8:nZ K "any")
 (z9:nZ K "isinstance")
 (ahk:nZ K "str")
 (ahl:nZ K "bool")
 (ahm:nZ K "dict")
 (ahn:nZ K "sorted")
 (ahr:nA K "Master" C)
 (aI:p7 K (.ref C) "__init__"\!.ref fI) (iI:apj K (.ref fI)=oP) (lI:nL K fI "__init__" "Master.__init__" auv aMQ aMR aMS aMT aMU aMV aG2 aMW aMX) (cI:nC K aG2 "Master.__init__") (kI:nK K fI)
 (aR:p7 K (.ref C) "rise"\!.ref fR) (iR:apj K (.ref fR)=oP) (lR:nL K fR "rise" "Master.rise" auS aMY aMZ aM0 aM1 aM2 aM3 aG3 aM4 aM5) (cR:nC K aG3 "Master.rise") (kR:nK K fR)
 (aH:p7 K (.ref C) "hear"\!.ref fH) (iH:apj K (.ref fH)=oP) (lH:nL K fH "hear" "Master.hear" auO aM6 aM7 aM8 aM9 aNa aNb aG4 aNc aNd) (cH:nC K aG4 "Master.hear") (kH:nK K fH)
 (aS:p7 K (.ref C) "send"\!.ref fS) (iS:apj K (.ref fS)=oP) (lS:nL K fS "send" "Master.send" auT aNe aNf aNg aNh aNi aNj aG5 aNk aNl) (cS:nC K aG5 "Master.send") (kS:nK K fS)
 (aA:p7 K (.ref C) "add"\!.ref fA) (iA:apj K (.ref fA)=oP) (lA:nL K fA "add" "Master.add" auU aNm aNn aNo aNp aNq aNr aG6 aNs aNt) (cA:nC K aG6 "Master.add") (kA:nK K fA)
 (aF:p7 K (.ref C) "fall"\!.ref fF) (iF:apj K (.ref fF)=oP) (lF:nL K fF "fall" "Master.fall" auY aNu aNv aNw aNx aNy aNz aG7 aNA aNB) (cF:nC K aG7 "Master.fall") (kF:nK K fF)
 (pg:NB K C Str.empty=oP) (hd:NC K C=oP) (po:Vz K C=oP) (sa:p7 K (.ref C) "__setattr__"\!.builtin "object.__setattr__") (mk:W.makesIn K C=oP) (kc:nK K C)
 (n0:nF K C "number")
 (n1:nF K C "many")
 (n2:nF K C "term")
 (n3:nF K C "of")
 (n4:nF K C "log")
 (n5:nF K C "done")
 (n6:nF K C "role")
 (n7:nF K C "voices")
 (n8:nF K C "sizes")
 (n9:nF K C "fixed")
 :∃fd:kK,(∀(s:zM) (v:zL),B4 s fd #[[v], []] [("_law_script",v)])/\∀base:zN,K.In base->base.Ns jN mg->bZ l.prog w K mg base cG 16 fa fd ["_law_script"] (Ng K):=by
 have e:=agG.symm.trans (qW X G aGT);cases e;have T:bM mg:=#[anZ X G z0,anZ X G z1,anZ X G z2,anZ X G z3,anZ X G z4,anZ X G z5,anZ X G z6,anZ X G z7,anZ X G z8,anZ X G z9,anZ X G ahk,anZ X G ahl,anZ X G ahm,anZ X G ahn]
 refine#[qT "law" "law" (rE yz) (mS yz) (cb yz) .none aGV aGW aGX aGY aBj aGZ,λs v=> .of_eq rfl,λbase _ _=> ?_];have cls:mN K C:=#[pg,hd,po,sa]
 haveI:nc K C:=#[cls]
 have Lc:=vj (P:=l.prog) (w:=w) (base:=base) X G a0 l0 c0 k0 ((EH K C).2 (GX l0 c0 k0) T) λ_ _ _ _ _ _=>jo λ_ _=>rfl;have ER:=vj (P:=l.prog) (w:=w) (base:=base) X G a1 l1 c1 k1 ((K9 K C).2 (GX l1 c1 k1) T) λ_ _ _ _ _ _=>jo λ_ _=>rfl;have apA:=vj (P:=l.prog) (w:=w) (base:=base) X G a2 l2 c2 k2 ((avn K C).2 (GX l2 c2 k2) T ER) λ_ _ _ _ _ _=>jo λ_ _=>rfl;have BZ:=vj (P:=l.prog) (w:=w) (base:=base) X G a3 l3 c3 k3 ((Lb K C).2 (GX l3 c3 k3) T Lc apA) λ_ _ _ _ _ _=>jo λ_ _=>rfl;have fj:=vj (P:=l.prog) (w:=w) (base:=base) X G a4 l4 c4 k4 ((KG K C).2 (GX l4 c4 k4) T) λ_ _ _ _ _ _=>jo λ_ _=>rfl;have F:=GX lI cI kI;have b:=F.binds (ps:= ["self","number","many"]) λ_ _ _ _ _ _=>uF λ_ _ _=>rfl;have avq:IA l.prog w K mg base "Master" C ["self","number","many"] 1 (dW K (oP::ug 2 yv) (apd K C)):=#[cls,fI,_,(avo K C).2 F T,b,#[mk,aI,iI,kc],qW X G ahr]
 have awD:=vj (P:=l.prog) (w:=w) (base:=base) X G a5 l5 c5 k5 ((avp K C).2 (GX l5 c5 k5) T BZ fj avq) λ_ _ _ _ _ _=>ph λ_=>rfl;have F:=GX l6 c6 k6;have b:=F.binds (ps:= ["_law_places","_law_many"]) λ_ _ _ _ _ _=>jo λ_ _=>rfl;have m:=qW X G a6;have arE:dt l.prog w K mg base "_law_choices" ["_law_places","_law_many"] 6 (cL K 2 (aqp K C)):=dt.of F b m (axZ (Cm:=C) F T b m  5);have U5:=vj (P:=l.prog) (w:=w) (base:=base) X G a7 l7 c7 k7 ((ava K C).2 (GX l7 c7 k7) T) λ_ _ _ _ _ _=>agF λ_ _ _ _ _=>rfl;have avD:=vj (P:=l.prog) (w:=w) (base:=base) X G a8 l8 c8 k8 ((avA K C).2 (GX l8 c8 k8) T) λ_ _ _ _ _ _=>ph λ_=>rfl;have aqd:=vj (P:=l.prog) (w:=w) (base:=base) X G a9 l9 c9 k9 ((avg K C).2 (GX l9 c9 k9) T) λ_ _ _ _ _ _=>jo λ_ _=>rfl;have avs:=vj (P:=l.prog) (w:=w) (base:=base) X G aF5 azW azX azY ((avr K C).2 (GX azW azX azY) T) λ_ _ _ _ _ _=>ph λ_=>rfl;have F:=GX aF8 aGa aGb;have b:=F.binds (ps:= ["value"]) λ_ _ _ _ _ _=>ph λ_=>rfl;have m:=qW X G aF7;have aru:dt l.prog w K mg base "is_fixed" ["value"] 4 (cL K 1 (asK K C)):=dt.of F b m (axQ (Cm:=C) F T b m  3);have F:=GX m9 aGe aGf;have b:=F.binds (ps:= ["value"]) λ_ _ _ _ _ _=>ph λ_=>rfl;have m:=qW X G aGc;have abr:dt l.prog w K mg base "own_copy" ["value"] 4 (cL K 1 (aqb K C)):=dt.of F b m (axL (Cm:=C) F T b m  3);have aqe:=vj (P:=l.prog) (w:=w) (base:=base) X G aGg az2 az3 az4 ((avk K C).2 (GX az2 az3 az4) T aru abr) λ_ _ _ _ _ _=>jo λ_ _=>rfl;have aqj:=vj (P:=l.prog) (w:=w) (base:=base) X G aGi az6 az7 az8 ((asO K C).2 (GX az6 az7 az8) T aqe) λ_ _ _ _ _ _=>jo λ_ _=>rfl;have aql:=vj (P:=l.prog) (w:=w) (base:=base) X G aGk aAa aAb aAc ((asS K C).2 (GX aAa aAb aAc) T aqd avs aqj) λ_ _ _ _ _ _=>ph λ_=>rfl;have aoT:=vj (P:=l.prog) (w:=w) (base:=base) X G aGm aAe aAf aAg ((avb K C).2 (GX aAe aAf aAg) T) λ_ _ _ _ _ _=>ph λ_=>rfl;have F:=GX lR cR kR;have b:=F.binds (ps:= ["self"]) λ_ _ _ _ _ _=>ph λ_=>rfl;have apB:an3 l.prog w K mg base C "rise" ["self"] 9 (dW K [oP] (aoE K C)):=#[cls,fR,_,(avC K C).2 F T avD aql aoT,b,#[aR,iR,kR]]
 have aqc:=vj (P:=l.prog) (w:=w) (base:=base) X G aGo aAi aAj aAk ((avd K C).2 (GX aAi aAj aAk) T abr) λ_ _ _ _ _ _=>ph λ_=>rfl;have avt:=vj (P:=l.prog) (w:=w) (base:=base) X G aGq aAm aAn aAo ((asQ K C).2 (GX aAm aAn aAo) T aqc) λ_ _ _ _ _ _=>uF λ_ _ _=>rfl;have avu:=vj (P:=l.prog) (w:=w) (base:=base) X G aGs aAq aAr aAs ((arz K C).2 (GX aAq aAr aAs) T abr aql) λ_ _ _ _ _ _=>agF λ_ _ _ _ _=>rfl;have avv:=vj (P:=l.prog) (w:=w) (base:=base) X G aGu aAu aAv aAw ((arv K C).2 (GX aAu aAv aAw) T aqj) λ_ _ _ _ _ _=>agF λ_ _ _ _ _=>rfl;have aqf:=vj (P:=l.prog) (w:=w) (base:=base) X G aGw aAy aAz aAA ((avi K C).2 (GX aAy aAz aAA) T aoT aqd) λ_ _ _ _ _ _=>ph λ_=>rfl;have avw:=vj (P:=l.prog) (w:=w) (base:=base) X G aGy aAC aAD aAE ((arx K C).2 (GX aAC aAD aAE) T aqf) λ_ _ _ _ _ _=>Nh λ_ _ _ _=>rfl;have F:=GX lH cH kH;have b:=F.binds (ps:= ["self","message"]) λ_ _ _ _ _ _=>jo λ_ _=>rfl;have avy:an3 l.prog w K mg base C "hear" ["self","message"] 10 (dW K [oP,yv] (ape K C)):=#[cls,fH,_,(aqm K C).2 F T avt avu avv avw,b,#[aH,iH,kH]]
 have aqo:=vj (P:=l.prog) (w:=w) (base:=base) X G aGA aAG aAH aAI ((avx K C).2 (GX aAG aAH aAI) T U5 avy) λ_ _ _ _ _ _=>uF λ_ _ _=>rfl;have aoF:=vj (P:=l.prog) (w:=w) (base:=base) X G aGC aAK aAL aAM ((avz K C).2 (GX aAK aAL aAM) T fj aqo) λ_ _ _ _ _ _=>Nh λ_ _ _ _=>rfl;have aqg:=vj (P:=l.prog) (w:=w) (base:=base) X G aGE aAO aAP aAQ ((au9 K C).2 (GX aAO aAP aAQ) T fj) λ_ _ _ _ _ _=>jo λ_ _=>rfl;have F:=GX lS cS kS;have b:=F.binds (ps:= ["self"]) λ_ _ _ _ _ _=>ph λ_=>rfl;have aoU:an3 l.prog w K mg base C "send" ["self"] 6 (cL K 1 (aoD K C)):=#[cls,fS,_,(asH K C).2 F T aoT aqc,b,#[aS,iS,kS]]
 have F:=GX lA cA kA;have b:=F.binds (ps:= ["self","row"]) λ_ _ _ _ _ _=>jo λ_ _=>rfl;have aqh:an3 l.prog w K mg base C "add" ["self","row"] 7 (dW K [oP,yv] (aon K C)):=#[cls,fA,_,(asL K C).2 F T aqe aqf aoU,b,#[aA,iA,kA]]
 have avI:=vj (P:=l.prog) (w:=w) (base:=base) X G Fy age aAS aAT ((avm K C).2 (GX age aAS aAT) T aqg fj U5 aqh) λ_ _ _ _ _ _=>jo λ_ _=>rfl;have F:=GX lF cF kF;have b:=F.binds (ps:= ["self"]) λ_ _ _ _ _ _=>ph λ_=>rfl;have avJ:an3 l.prog w K mg base C "fall" ["self"] 1 (dW K [oP] (arG K C)):=#[cls,fF,_,(avG K C).2 F T,b,#[aF,iF,kF]]
 have awE:=vj (P:=l.prog) (w:=w) (base:=base) X G aGH aAV aAW aAX ((avH K C).2 (GX aAV aAW aAX) T fj U5 apB aoF avI avJ aqg aoU aqo) λ_ _ _ _ _ _=>jo λ_ _=>rfl;have awF:=vj (P:=l.prog) (w:=w) (base:=base) X G aGJ aAZ aA0 aA1 ((avF K C).2 (GX aAZ aA0 aA1) T) λ_ _ _ _ _ _=>jo λ_ _=>rfl;have avM:=vj (P:=l.prog) (w:=w) (base:=base) X G aGL aA3 aA4 aA5 ((avK K C).2 (GX aA3 aA4 aA5) T) λ_ _ _ _ _ _=>ph λ_=>rfl;have avO:=vj (P:=l.prog) (w:=w) (base:=base) X G aGN aA7 aA8 aA9 ((avL K C).2 (GX aA7 aA8 aA9) T avM abr) λ_ _ _ _ _ _=>jo λ_ _=>rfl;have awG:=vj (P:=l.prog) (w:=w) (base:=base) X G aGP aBb aBc aBd ((avN K C).2 (GX aBb aBc aBd) T avO) λ_ _ _ _ _ _=>uF λ_ _ _=>rfl;have awH:=vj (P:=l.prog) (w:=w) (base:=base) X G aGR aBf aBg aBh ((avE K C).2 (GX aBf aBg aBh) T fj apB U5 aoF aqh aoU) λ_ _ _ _ _ _=>uF λ_ _ _=>rfl;have hn:∀f∈mH,mf K C f:=by
  intro f hf;simp[mH,bL,dh,or_false]at hf;rcases hf with rfl | rfl | rfl | rfl | rfl | rfl | rfl | rfl | rfl | rfl
  all_goals lk
 exact((M5 K C).2 (GX aGU aG0 aG1) T awD arE awE BZ awF awG awH apA Lc).imp λvs H Q E h=>by
  let a ns rfl hF hl qq:=h;exact#[[qI ns],tD oP,rfl,agC hF,agy ns hl hn,λv H' _ o=>by
   have e:v= .bl oP:=(ou.vw o).bA;subst e;exact qq H']
theorem walk{l:W.OpenLaw}{q:zR}{loose:oH Str}{XP:(Str->oT zL)->zN->Prop}{YP:zQ->zN->Prop}{d:DefRec}{K:Params->ah}(hn:l.most\63)(Aq:d.params.defaults= [])
  (hY:∀(w:zQ) (h:zN),YP w h->(K w.params).In h)
  (F:∀(w:zQ) (mg:Str->oT zL) (fa:zI) (h:zN),(K w.params).In h->h.Ns jN mg->mg d.name\.ref fa->
   ∃fd:kK,(∀(s:zM) (u:zL),B4 s fd #[[u], []] [("_law_script",u)])/\∀base:zN,(K w.params).In base->base.Ns jN mg->bZ l.prog w (K w.params) mg base cG 16 fa fd ["_law_script"] (Ng (K w.params))):
  W.WalkO q loose XP YP l.row.toRowW d [] (λf vs=>VS f vs):=
 L2.Yu (n:=63) (k:=16) (x:="_law_script") (CX:=λ_=>cG) (sp:=λw=>Ng (K w.params)) hn a_ Aq #[rfl,by decide,by decide,rfl] hY F (λ_ _ a ns hl hO hS=>#[a,ns,rfl,agB hO hS,hl,λ_=>rfl]) λ_ _ _ _ _ z=>z
end K84
namespace PySem.W.Fast
def tw5647923674630172861:=Nat
def tw5645631601054755986:=Nat
def tw5546673979025060162:=Nat
def tw5520158862678320182:=Nat
def tw5513591300684887273:=Nat
def tw5148012092150970727:=Nat
def tw5011539210385768884:=Nat
def tw4978445713675879486:=Nat
def tw4893203377280150053:=Nat
def tw4001766740254696727:=Nat
def tw3610541369805034352:=Nat
def tw2801784574724788571:=Nat
def tw2799578638907327572:=Nat
def tw2469596325254923750:=Nat
def tw2309544804633154397:=Nat
def tw1881943992150672369:=Nat
def tw18393037739508943895:=Nat
def tw18337297393218862159:=Nat
def tw18043408160971792445:=Nat
def tw17812102814381111500:=Nat
def tw17635907687200687745:=Nat
def tw17578583311002772584:=Nat
def tw17022741665114802251:=Nat
def tw16884983386058046255:=Nat
def tw16597016140414677995:=Nat
def tw16469141197286299267:=Nat
def tw16365364420861891700:=Nat
def tw16330520669410267914:=Nat
def tw1601471444379745861:=Nat
def tw15274454916282539293:=Nat
def tw14944018469292378642:=Nat
def tw14926911731518239992:=Nat
def tw14642998071436598697:=Nat
def tw14377419831312933917:=Nat
def tw14368795941162533054:=Nat
def tw14034955289275472410:=Nat
def tw14006314358476550944:=Nat
def tw13943390364278264016:=Nat
def tw13742292172629202080:=Nat
def tw13683062348282498619:=Nat
def tw13368351446322628493:=Nat
def tw13316901179667108447:=Nat
def tw12431510294289330398:=Nat
def tw12253332220117668616:=Nat
def tw11860237957662362598:=Nat
def tw11844559718933957357:=Nat
def tw11824588138978977841:=Nat
def tw11743656411987189013:=Nat
def tw11483970055596302219:=Nat
def tw11425842047362520482:=Nat
def tw11204591152401659340:=Nat
def tw11088583269828475989:=Nat
def tw11081496169744398881:=Nat
def tw11073319697325954495:=Nat
def tw10929279176505534244:=Nat
def tw10494307088509578602:=Nat
def tw10363344227848666581:=Nat
def tw10362266001632865410:=Nat
def tw3403466410224471420:=Nat
def tw15612745034367056748:=Nat
def tw6210911289859828548:=Nat
def tw9824782719610345690:=Nat
def tw7861024112792169100:=Nat
def tw1008137445503298751:=Nat
def tw1485766898262961029:=Nat
def tw3325608989874177836:=Nat
def tw14227901542486970459:=Nat
def tw14382722917581972578:=Nat
def tw10653222882552659528:=Nat
def tw5529126091642961479:=Nat
def tw5451938079741361944:=Nat
def tw10397073446620351083:=Nat
def tw12756379487552855779:=Nat
def tw4794541369315614731:=Nat
def tw8809790322891541934:=Nat
def tw1864574964790644835:=Nat
def tw4326569970887206303:=Nat
def tw3341358156828206641:=Nat
def tw14453732630272554361:=Nat
def tw5564222500058222486:=Nat
def tw5709416626184277112:=Nat
def tw3517291291115973367:=Nat
def tw4637179517559815450:=Nat
def tw6355395412529388096:=Nat
def tw10326881662331787339:=Nat
def tw1139621465640753885:=Nat
def tw4493967561760612036:=Nat
def tw12822309559469288094:=Nat
def tw11553281297618939193:=Nat
def tw15166297850914013308:=Nat
def tw14278407969756460683:=Nat
def tw12345060105529798973:=Nat
def tw2647823950765812056:=Nat
def tw16759487014038890952:=Nat
def tw8860994261594338524:=Nat
def tw6875349426927116513:=Nat
def tw9055954743633844807:=Nat
def tw14352114916393462884:=Nat
def tw10203796093886738651:=Nat
def tw8021419737177523187:=Nat
def tw12319031224339005460:=Nat
def tw13188075391286857669:=Nat
def tw5454551880881027002:=Nat
def tw12747932660020618981:=Nat
def tw12606479476577434899:=Nat
def tw797683877480994320:=Nat
def tw8269001257822244859:=Nat
def tw6787587940356145361:=Nat
def tw14115952084693186589:=Nat
def tw6654907347585844413:=Nat
def tw5346226400115373562:=Nat
def tw3421499528282856666:=Nat
def tw17793947265367808112:=Nat
def tw14763921836514990120:=Nat
def tw5892920958985306830:=Nat
def tw11781748091706861312:=Nat
def tw2444076294993900516:=Nat
def tw1152753590068187773:=Nat
def tw8411971850973204518:=Nat
def tw7026699742558025205:=Nat
def tw3195258263561346408:=Nat
def tw6642938204251617902:=Nat
def tw15529083452353405116:=Nat
def tw4335463569877361727:=Nat
def tw17316892550342014924:=Nat
def tw10171819605510779151:=Nat
def tw9281436047214672605:=Nat
def tw8363166268756638470:=Nat
def tw4986896199126730136:=Nat
def tw8714446852320001273:=Nat
def tw9949908704420308277:=Nat
def tw15413037925677915146:=Nat
def tw6668954906033098588:=Nat
def tw4408062839133936766:=Nat
def tw8810114291898362168:=Nat
def tw1450722140647952971:=Nat
def tw15305551426021165553:=Nat
def tw16877299723141990329:=Nat
def tw13974566456136217333:=Nat
def tw15917502038493842998:=Nat
def tw3975621533678835077:=Nat
def tw5667280593393604060:=Nat
def tw9387915568218760541:=Nat
def tw4826369490926187893:=Nat
def tw4797245381033238292:=Nat
def tw1459198616205019343:=Nat
def tw6879990082875040618:=Nat
def tw8694110239003198859:=Nat
def tw16495534047726835943:=Nat
def tw3833578752799796582:=Nat
def tw2665348425732380356:=Nat
def tw17683739476459851595:=Nat
def tw8584178908427055832:=Nat
def tw1785024372099899768:=Nat
def tw8846091986225135356:=Nat
def tw5955134076700794629:=Nat
def tw14098258981492879238:=Nat
def tw17852865668327876239:=Nat
def tw4377928953612203355:=Nat
def tw11148358141840970813:=Nat
def tw4553294155062017300:=Nat
def tw10831387576498686792:=Nat
def tw2739726829918743991:=Nat
def tw8691786517979998173:=Nat
def tw1733924198454605556:=Nat
def tw15944044882323304868:=Nat
def tw10388278657164935445:=Nat
def tw1512141685519598526:=Nat
def tw6617594145294725618:=Nat
def tw17525929508056150802:=Nat
def tw14032450911745419221:=Nat
def tw17504697255045889239:=Nat
def tw13218816579772798193:=Nat
def tw6124059067594051362:=Nat
def tw2364965598059046137:=Nat
def tw483732106993744412:=Nat
def tw8349010385639738337:=Nat
def tw15819531671471722524:=Nat
def tw5700702387163630033:=Nat
def tw9287746075749376196:=Nat
def tw5835078231271713131:=Nat
def tw10202953506894811928:=Nat
def tw9531192524097412945:=Nat
def tw5344010959387933559:=Nat
def tw14494011398548131218:=Nat
def tw14200864152033905749:=Nat
def tw1863291022105875878:=Nat
def tw13912387945893350172:=Nat
def tw2183911744852357652:=Nat
def tw13423883360880293359:=Nat
def tw3357464891806462923:=Nat
def tw15227611614370360858:=Nat
def tw7396626553919987001:=Nat
def tw5656818710632692804:=Nat
def tw11946977377405830118:=Nat
def tw8691627038917388079:=Nat
def tw9530627132603427934:=Nat
def tw3253836861675366398:=Nat
def tw2198050906205491005:=Nat
def tw13935685874283023072:=Nat
def tw12481337362166124516:=Nat
def tw6390278507691564228:=Nat
def tw18270627908627470490:=Nat
def tw9028164797786866039:=Nat
def tw4648011059865662751:=Nat
def tw14338442719693573912:=Nat
def tw565643940885518211:=Nat
def tw15443699435821222991:=Nat
def tw9737619899380431118:=Nat
def tw4221273627113381190:=Nat
def tw5659522558141768173:=Nat
def tw15941712219837449232:=Nat
def tw15304704959638176671:=Nat
def tw15778494059116258789:=Nat
def tw10668240122411408995:=Nat
def tw12602200042514805203:=Nat
def tw9447659310537483456:=Nat
def tw16060029589189814909:=Nat
def tw13003062392122337960:=Nat
def tw11656232292877331571:=Nat
def tw5261331113993633349:=Nat
def tw4334149309629599337:=Nat
def tw8387010356308221387:=Nat
def tw12026907858513906924:=Nat
def tw8429218334694633724:=Nat
def tw9799416456061292115:=Nat
def tw9678306510314905314:=Nat
def tw8800893827422581729:=Nat
def tw8340305363527330819:=Nat
def tw8296037961591091442:=Nat
def tw7366287828547774112:=Nat
def tw7248664232013229907:=Nat
def tw6916987090781721039:=Nat
def tw6763136473964329351:=Nat
def tw6676345061550023638:=Nat
def tw6556922269004125058:=Nat
def tw6322520395668422173:=Nat
def tw619371008151028643:=Nat
def tw5285677214457695745:=Nat
def tw13033202308491255237:=Nat
def tw14844746932850590919:=Nat
def tw14860603884184106152:=Nat
def tw6031533538849463305:=Nat
def tw13235075296843782828:=Nat
def tw2687384645786448588:=Nat
def tw10349632060478479661:=Nat
def tw8205299335080066192:=Nat
def tw11504421628744140177:=Nat
def tw4279208027238351441:=Nat
def tw6038348939303810961:=Nat
def tw10300238411524156978:=Nat
def tw13260141877022182749:=Nat
def tw7402569281353511710:=Nat
def tw6016844964857241631:=Nat
def tw7208139510555876158:=Nat
end PySem.W.Fast
end
open PySem PySem.W PyProof.Rows
set_option maxRecDepth 100000 in
set_option maxHeartbeats 0 in
theorem PySem.Challenge.cw_farshelf_k84_whole_what_is_written_stays_holds : PySem.Challenge.rw_farshelf_k84_whole_what_is_written_stays.Holds := by
  w_on; o_law; k_head; (case hw => w_witness2)
  k_fill
  refine K84.walk (l := PySem.Challenge.rw_farshelf_k84_whole_what_is_written_stays) rfl rfl (fun w h Y => W.kIn_of Y) ?F
  case F =>
    intro w mg fa h KX G hmg
    refine' K84.all_mk KX G hmg _ _ _ _ _ _ _ _ _ _ _ _ _ _ _ _ _ _ _ _ _ _ _ _ _ _ _ _ _ _ _ _ _ _ _ _ _ _ _ _ _ _ _ _ _ _ _ _ _ _ _ _ _ _ _ _ _ _ _ _ _ _ _ _ _ _ _ _ _ _ _ _ _ _ _ _ _ _ _ _ _ _ _ _ _ _ _ _ _ _ _ _ _ _ _ _ _ _ _ _ _ _ _ _ _ _ _ _ _ _ _ _ _ _ _ _ _ _ _ _ _ _ _ _ _ _ _ _ _ _ _ _ _ _ _ _ _ _ _ _ _ _ _ _ _ _ _ _ _ _ _ _ _ _ _ _ _ _ _ _ _ _ _ _ _ _ _ _ _ _ _ _ _ _ _ _ _ _ _ _ _ _ _ _ _ _ _ _ _ _ _ _ _ _ _ _ _
    any_goals (first | k_is | (unfold K84.nA; k_is) | (unfold K84.nL; k_is) | (unfold K84.nC; k_is) | (unfold K84.nK; k_is) | (unfold K84.nZ; k_is) | (unfold K84.nF; k_is))

import PyProof.Rows.All
import Wide.All
import OpenK.AllK
import Wide.FinOn
import Lean
import PyProof.EqAt
import PyProof.EqKinds
import PyProof.TupleCall
import PyProof.WalksEnum
import PyProof.EnumMake
import PyProof.Rows.EnumRows
import PyProof.NeData
import PyProof.ReprRoads
import PyProof.SumWalkG
import PyProof.StrLawsTight
import PyProof.Rows.StrNews
import PyProof.Rows.StrJoin2
import PyProof.Rows.CatFin
import PyProof.ConsumeWalk
import PyProof.StrWalks
import KE.KItemsList
import KE.KSortTup
import PyProof.ZipIter
import PyProof.ListRange
import PyProof.Rows.SeqMore
import KE.KDictLaws
import PySem.Challenge.RW_farshelf_k55_the_first_fault
open Array renaming length_toList->Nk
open Bool renaming false_ne_true->bh,and_eq_true->rj,and_false->Zp
open False renaming elim->mz
open ForInStep renaming yield->tK
open Int renaming toNat_natCast->Nv,le_trans->N3,emod_nonneg->N8,emod_lt_of_pos->N9,toNat_of_nonneg->Oa
open List renaming getElem?_append_left->aV,mem_cons->bx,length_set->bI,replicate->bK,getElem?_append_right->bL,length_append->b6,getElem?_eq_some_iff->cb,map_append->cf,append_assoc->cZ,getElem?_map->du,not_mem_nil->dw,length_map->eG,getElem?_set_self->eN,map_cons->eO,length_cons->eU,getElem?_set_ne->fF,append_nil->fO,size_toArray->gI,getElem?_eq_getElem->gP,range->jm,mem_map->jK,mem_of_getElem?->jR,mem_append_right->j7,mem_singleton->j8,mem_cons_of_mem->lH,mem_append->lJ,lookup_cons->lK,nodup_cons->mB,map_nil->mC,length_zip->ny,zip_cons_cons->p7,append_cons->p8,set_append_left->p9,lookup->rg,mem_filter->tE,mem_cons_self->tF,length_singleton->tI,set_set->tL,eq_nil_of_length_eq_zero->tM,length_replicate->vp,any_cons->vq,replicate_succ->vt,find?_cons->vv,length_take->xZ,nodup_nil->yb,mem_range->Bn,mem_append_left->Bo,getElem?_replicate->Br,flatten_cons->Bu,nil_append->Bv,forIn_cons->Bw,cons_append->By,pairwise_cons->Bz,drop_eq_getElem_cons->BA,length_filter_le->BC,findSome?_cons->BD,pairwise_singleton->BE,forIn_nil->F5,all_eq_true->Gg,drop_length->Gh,drop_zero->Gi,any_eq_true->Gj,filter_eq_self->Gm,map_map->Gp,Pairwise->Gq,filterMap_cons->Nj,of_mem_zip->Nt,getElem?_take_of_lt->Nu,foldl->ND,length_nil->NI,zipIdx_cons->NL,getElem?_take->NQ,take_length->NR,filter_cons_of_pos->NS,filter_cons_of_neg->NT,nodup_append->NW,take_left'->N4,getElem_mem->N5,set_cons_zero->N6,set_cons_succ->N7,map_set->Ob,mem_filterMap->YU,length_drop->Y0,zipIdx_nil->Zb,getElem?_eq_none_iff->Ze,mem_of_mem_take->Zf,set_append_right->Zh,getElem?_eq_none->Zn,mk_mem_zipIdx_iff_getElem?->Zo,map_replicate->Zq
open Nat renaming le_refl->bT,lt_of_lt_of_le->df,le_trans->dC,ne_of_lt->fN,zero_le->kz,lt_irrefl->mx,le_of_lt->my,sub_self->nr,le_add_right->oE,lt_of_le_of_lt->p5,ne_of_gt->rb,le_succ->xY,lt_succ_self->Bp,succ_le_succ->BB,lt_succ_of_lt->F6,succ_pos->Ge,add_sub_cancel_left->Gf,le_of_eq->Nn,lt_or_ge->NM,succ_lt_succ->NO,add_sub_cancel->NP,le_succ_of_le->N0
open Nat.succ renaming inj->eP
open Ne renaming symm->dS
open Option renaming bind_eq_some_iff->aj,map_eq_some_iff->aX,map->aY,bind_some->bo,map_some->mD,isSome_some->NH,isSome_iff_exists->YV,getD_none->Y3,isSome_map->Y4
open Option.some renaming inj->jQ,injEq->Zg
open Or renaming inl->tJ
open Prod renaming fst->NK
open PyProof.Rows renaming AllBare->sX,slot_tuple_getitem->ya,IntsAre->Bj,callWith_type1->FX,boot_tuple->Gk,subscriptTail->M5,boot_isinstance->NY,boot_int->NZ,entry_tuple_getitem->YL,subscriptTail_builtinR->YM,boot_abs->Zl,boot_max->Zm
open PyProof.Rows.IsTup renaming new->Ny
open PySem renaming wpAny_bind->aH,sizeLine->aN,wpAny_pure->b5,NameKind->cY,starEach->dB,compareOp->iB,FuncData->jl,wpAny_mono->j6,PassesOwn->ky,mainGlobals->kS,wpAny_field->kT,sysModules->lD,binaryOp->lF,cellsFrom->lG,Spec->nh,codeAny->pZ,swapsWith->sY,assignEach->sZ,getItem->tf,pushCells->tq,wpAny_seqItems->tu,mem_of_lookup->tH,tupleKind->vf,attributeBase->vg,wpAny_newObj_type->vh,sliceBounds->vi,callerA->vj,valueAt->vk,bootBuiltins->xO,wpAny_holding->xP,behindInMarks->xQ,BindsTo->xR,wpAny_callSpecial?_slot->xS,wpAny_call_entry->xT,notedBy->xU,wpAny_rule->xV,wpAny_setField_rec->xW,standAt->Bf,wpAny_truthy_bool->Bg,wpAny_passesOwn->Bh,sizeLine_eq->Bi,tupleKind_room_in1->Bk,builtinsNs->FJ,letOwnedTupleGo->FK,codeAny_mono->FL,wpAny_Call_Name_kw->FN,call_meetsIn->FO,pushCells_keeps->FP,wpAny_getItem_str_slice->FQ,post_val_or_str->FR,wpAny_onRaise->FT,atKey_none_of_get->FU,wpAny_execs_nil->M0,wpAny_standAt->M1,foldedSetIterable->M3,wpAny_typeOf->M4,seqIndex_of->M6,seqIndex_neg->M7,keywordEach->M8,newFunctionEnv->M9,wpAny_updateSeq_pair->Na,wpAny_letGo->Nb,wpAny_pyIter_list->Nc,dictSetDefault->Nd,storedH_new->Nf,Within->Nh,call->NG,wpAny_comprehension_free->YN,KeyKind->YQ
open PySem.Around renaming under->F0
open PySem.Builtin.List renaming listTooLong->NF
open PySem.Builtin.Slice renaming slicePlaces->F3,sliceAdjust->Nw,sliceApplied->YZ
open PySem.Builtin.SmallTypes renaming nextOf->p6,ownedTupleIsFree->Ga,ownedTupleHandOut->Zc
open PySem.Builtin.Str renaming occurrences->Nl
open PySem.Builtin.Tuple renaming tupleExact->F4,tupleItemsOf->Y1
open PySem.Calls renaming spliced_cons->Bq,spliced_nil->Nr,callWith_builtin->NB,evalArgs_plain->NC,Name_function_global->YT
open PySem.Code renaming isFrame->Nq
open PySem.F renaming slot_tuple_iterator_next->F9,slot_zip_next->Gb,slot_dict_get->NJ,slot_dict_setdefault->NX,slot_tuple_add->YW,entry_tuple_add->YX,args_tuple_add_2->YY,entry_dict_get->Y5,args_dict_get_3->Y6,plainAttrs_dict->Y7,entry_tuple_iterator_next->Y8,args_tuple_iterator_next_1->Y9,args_zip_next_1->Zd,entry_dict_setdefault->Zj,args_dict_setdefault_3->Zk
open PySem.Heap renaming get?_push_of_some->dN,lt_size->dR,get?_push_size->iH,size_push->nk,SameBut->tG,get?_update_self->Nz,get?_update_other->Y2
open PySem.Heap.SameBut renaming update->Bx
open PySem.NameKind renaming cell->iJ,free->kW
open PySem.Obj renaming mapSeq->Bt,data_mapFields->Za,data_mapDictKeys->Zi
open PySem.Paired renaming length->Bm
open PySem.PassesOwn renaming never->kX
open PySem.PyData renaming strOk->dU,eqv->dX,canLay0->vx,depth->vy,eqvAll->vz,canLayAll0->NU,depthAll->NV
open PySem.SeqAt.EqAt renaming int_str->YR,str_int->YS
open PySem.Str renaming ofString->aE
open PySem.Txt renaming slice->F7,slice_le->F8
open PySem.Value renaming ref->fZ,none->q0,int->xX,str->Bl,bool->FV,type->FW,float->Ng,isStrOf->YO
open PySem.W renaming Frag->ak,mg_none_of->j9,kia_one->nq,findIn->oB,fnOf->oC,emptyDict->rf,kitOne->rh,instObj->tw,keepIn->vo,codeIn->Bs,plainGet->FY,hasDictIn->FZ,mg_of->Gr,methodObj->Ni,plainOver->Nm,kitx_list->Np
open Sum renaming inl->vm,inr->vn
open True renaming intro->kU
set_option Elab.async false
set_option genSizeOf false
set_option compiler.extract_closed false
set_option linter.all false
set_option maxRecDepth 100000
noncomputable section
theorem BF{p:Prop}[Decidable p](h:decide p=false:=by decide +kernel):p=False:=eq_false (of_decide_eq_false h)
namespace L2
open PySem PySem.Spec PyProof.Rows
noncomputable abbrev bB:=Sum Int Str
noncomputable def tN:bB->Value->Bool
 |.inl k,v=>Value.isInt k v
 |.inr x,v=>YO x v
noncomputable def Oc (w:World):bB->Int
 |.inl k=>hashInt k
 |.inr x=>hashStr w x
theorem oI:∀{k:bB} {v:Value},tN k v=true->(∃i t,k=vm i/\v=xX i t)\/(∃x t,k=vn x/\v=Bl x t)
 |.inl i,v,h=>by
  obtain⟨t,e⟩:=Value.isInt_shape (k:=i) (v:=v) h;exact .inl ⟨i,t,rfl,e⟩
 |.inr x,v,h=>by
  obtain⟨t,e⟩:=Value.isStrOf_shape (x:=x) (v:=v) h;exact .inr ⟨x,t,rfl,e⟩
theorem Od(i:Int)(t:Tok):tN (.inl i) (.int i t)=true:=by simp[tN,Value.isInt]
theorem Oe(x:Str)(t:Tok):tN (.inr x) (.str x t)=true:=by simp[tN,YO]
theorem Of(a b:Int):decide ((vm a:bB)=vm b)=(a == b):=by
 by_cases e:a=b
 ·subst e;simp
 ·have h:¬ (vm a:bB)=vm b:=λq=>e (vm.inj q);rw[decide_eq_false h];exact(beq_eq_false_iff_ne.mpr e).symm
theorem Og(a b:Str):decide ((vn a:bB)=vn b)=decide (a=b):=by
 by_cases e:a=b
 ·subst e;simp
 ·have h:¬ (vn a:bB)=vn b:=λq=>e (vn.inj q);rw[decide_eq_false h,decide_eq_false e]
theorem Oh(a:Int)(b:Str):decide ((vm a:bB)=vn b)=false:=decide_eq_false (λq=>nomatch q)
theorem Oi(a:Str)(b:Int):decide ((vn a:bB)=vm b)=false:=decide_eq_false (λq=>nomatch q)
def iK(prog:Program)(w:World):YQ prog w bB where
 is:=tN
 hash:=Oc w
 inj:=λv a b ha hb=>by
  rcases oI ha with⟨i,t,rfl,rfl⟩ | ⟨x,t,rfl,rfl⟩
  ·rcases oI hb with⟨j,u,rfl,e⟩ | ⟨y,u,rfl,e⟩
   ·injection e with e1 _;rw[e1]
   ·exact nomatch e
  ·rcases oI hb with⟨j,u,rfl,e⟩ | ⟨y,u,rfl,e⟩
   ·exact nomatch e
   ·injection e with e1 _;rw[e1]
 byValue:=λk v h=>by
  rcases oI h with⟨i,t,rfl,rfl⟩ | ⟨x,t,rfl,rfl⟩ <;> rfl
 pyHash:=λhv h=>by
  rcases oI hv with⟨i,t,rfl,rfl⟩ | ⟨x,t,rfl,rfl⟩
  ·exact wpAny_pyHash_int h
  ·exact wpAny_pyHash_str h
 eqBool:=λhu hv h=>by
  rcases oI hu with⟨i,t,rfl,rfl⟩ | ⟨x,t,rfl,rfl⟩
  ·rcases oI hv with⟨j,u,rfl,rfl⟩ | ⟨y,u,rfl,rfl⟩
   ·rw[Of]at h;exact wpAny_eqBool_int h
   ·rw[Oh]at h;exact YR i t y u _ _ _ _ h
  ·rcases oI hv with⟨j,u,rfl,rfl⟩ | ⟨y,u,rfl,rfl⟩
   ·rw[Oi]at h;exact YS x t j u _ _ _ _ h
   ·rw[Og]at h;exact wpAny_eqBool_str h
 «strs»:=λk x t v h=>by
  rcases oI h with⟨i,u,rfl,e⟩ | ⟨y,u,rfl,e⟩
  ·exact nomatch e
  ·injection e with e1 _
   subst e1;cases v <;> rfl
theorem Oj(prog:Program)(w:World)(i:Int)(t:Tok):(iK prog w).is (.inl i) (.int i t)=true:=Od i t
theorem Ol(prog:Program)(w:World)(x:Str)(t:Tok):(iK prog w).is (.inr x) (.str x t)=true:=Oe x t
inductive V where
 |az | bl (b:Bool) | int (i:Int) | str (x:Str) | rl (b:Array UInt8) | jS (b:UInt64) | ref (a:Addr) | ty (n:String)
 deriving DecidableEq
def RelV:V->Value->Prop
 |.az,u=>u=q0
 |.bl b,u=>u=FV b
 |.int i,u=>∃t,u=xX i t
 |.str x,u=>∃t,u=Bl x t
 |.rl b,u=>∃t,u=Value.bytes b t
 |.jS b,u=>∃t,u=Ng b t
 |.ref a,u=>u=fZ a
 |.ty n,u=>u=FW n
abbrev bA:List V->List Value->Prop:=Paired RelV
theorem bA.length{xs:List V}{us:List Value}(r:bA xs us):xs.length=us.length:=Bm r
theorem bA.get:∀{xs:List V} {us:List Value} {i:Nat} {x:V},bA xs us->xs[i]?=some x->∃u,us[i]?=some u/\RelV x u
 |_,_,_,_, .nil,e=>by simp at e
 |_,_,0,_, .cons r _,e=>by simp at e;subst e;exact⟨_,rfl,r⟩
 |_,_,i + 1,x, .cons _ t,e=>by
  obtain⟨u,h1,h2⟩:=bA.get (i:=i) (x:=x) t (by simpa using e);exact⟨u,by simpa using h1,h2⟩
theorem bA.set{x:V}{u:Value}(r:RelV x u):∀{xs:List V} {us:List Value} (i:Nat),bA xs us->bA (xs.set i x) (us.set i u)
 |_,_,_, .nil=> .nil
 |_,_,0, .cons _ t=> .cons r t
 |_,_,i + 1, .cons q t=> .cons q (bA.set r i t)
theorem bA.append:∀{xs ys:List V} {us ws:List Value},bA xs us->bA ys ws->bA (xs++ys) (us++ws)
 |_,_,_,_, .nil,s=>s
 |_,_,_,_, .cons r t,s=> .cons r (bA.append t s)
theorem bA.take:∀{xs:List V} {us:List Value} (n:Nat),bA xs us->bA (xs.take n) (us.take n)
 |_,_,0,_=> .nil
 |_,_,_ + 1, .nil=> .nil
 |_,_,n + 1, .cons r t=> .cons r (bA.take n t)
theorem bA.drop:∀{xs:List V} {us:List Value} (n:Nat),bA xs us->bA (xs.drop n) (us.drop n)
 |_,_,0,r=>r
 |_,_,_ + 1, .nil=> .nil
 |_,_,n + 1, .cons _ t=>bA.drop n t
def ka:Option V->Option Value->Prop
 |some v,some u=>RelV v u
 |none,none=>True
 |_,_=>False
def KV{κ:Type}:List (κ×V)->List (κ×Value)->Prop:=Paired λ(p:κ×V) (q:κ×Value)=>p.1=q.1/\RelV p.2 q.2
noncomputable def kV:bB->V
 |.inl i=> .int i
 |.inr x=> .str x
inductive HO where
  |lst (xs:List V)
  |tup (xs:List V)
  |dK (aw:List (bB×V)) | dT (aw:List (List bB×V))
  |set (S:Int->Bool) (n:Nat)
  |ins (C dx:Addr) (fs:List (Str×V))
  |own (x:Addr)
  |xd (fs:List (Str×V))
  |met (f x:Addr)
  |BG (lo hi:Int)
  |gC (o:Obj) (u:HO)
  |rm (ps:Array Value)
  |ext (φ:Heap->Prop)
noncomputable abbrev Hp:=Addr->Option HO
noncomputable def upd (H:Hp) (a:Addr) (o:HO):Hp:=λb=>if b=a then some o else H b
theorem gb{H:Hp}{a:Addr}{o:HO}:upd H a o a=some o:=by unfold upd;rw[if_pos rfl]
theorem bE{H:Hp}{a b:Addr}{o:HO}(h:b≠a):upd H a o b=H b:=by unfold upd;rw[if_neg h]
theorem Gu{H:Hp}{a b:Addr}{o u:HO}(h:H a=some o)(h':H b=some u)(d:o≠u):a≠b:=by
 intro e;subst e;rw[h]at h';exact d (jQ h')
theorem gQ{H:Hp}{a b:Addr}{o:HO}(h:H a=some o)(h':H b=none):a≠b:=by
 intro e;subst e;rw[h]at h';cases h'
section
variable (P:Program)(w:World)
def fP(H:Hp)(h:Heap)(a:Addr):HO->Prop
 |.lst xs=>xs.length<=aN/\∃(ax:List Value) (n:Nat),bA xs ax/\h.get? a=some { cls:= .type "list",data:= .seq ax.toArray n }
 |.tup xs=>xs.length<=aN/\∃ax:List Value,bA xs ax/\IsTup h a ax.toArray
 |.dK aw=>aw.length<=aN/\(a == lD)=false/\∃vs,KV aw vs/\h.DictOf (iK P w) a vs
 |.dT aw=>aw.length<=aN/\(a == lD)=false/\∃xs:List (List bB×Addr×Value),
   Paired (λ(p:List bB×V) (q:List bB×Addr×Value)=>p.1=q.1/\H q.2.1=some (.tup (p.1.map kV))/\RelV p.2 q.2.2) aw xs/\
   ∃o es ep,h.get? a=some o/\o.ExactDict/\o.data= .dict es ep/\es.toList=xs.map (entryOfKey (vf (iK P w)))/\(xs.map (·.1)).Nodup
 |.set S n=>h.SetOf (intKind P w) a S n
 |.ins C dx fs=>H dx=some (.own a)/\fs.length<=1000/\dx≠a/\h.get? a=some (tw C dx)/\
   ∃mA,h.Ns1 dx mA/\(∀f,ka (fs.lookup f) (mA f))/\Nh mA (fs.map (·.1))
 |.own _=>∃o,h.get? a=some o
 |.xd fs=>∃mA,h.Ns1 a mA/\∀f,ka (fs.lookup f) (mA f)
 |.BG lo hi=>∃t u v,h.get? a=some { cls:= .type "range",data:= .fields #[.int lo t, .int hi u, .int 1 v] }
 |.gC o u=>h.get? a=some o/\fP H h a u
 |.rm ps=>h.get? a=some { cls:= .none,data:= .fields ps }
 |.met f x=>h.get? a=some (Ni (.ref f) (.ref x))
 |.ext φ=>φ h/\(∃o,h.get? a=some o)/\∀h1 h2:Heap,φ h1->(∀o,h1.get? a=some o->h2.get? a=some o)->φ h2
def gc(H:Hp)(h:Heap):Prop:=∀a o,H a=some o->fP P w H h a o
end
section
variable {P:Program}{w:World}{H H':Hp}{h h':Heap}{a:Addr}{o:HO}
theorem fP.lt(x:fP P w H h a o):a < h.objs.size:=by
 cases o with
 |lst xs=>obtain⟨_,_,_,_,e⟩:=x;exact dR e
 |tup xs=>obtain⟨_,_,_,p⟩:=x;exact p.lt
 |dK aw=>obtain⟨_,_,_,_,o,_,_,e,_⟩:=x;exact dR e
 |dT aw=>obtain⟨_,_,_,_,o,_,_,e,_⟩:=x;exact dR e
 |set S n=>obtain⟨o,_,_,_,e,_⟩:=x;exact dR e
 |ins C dx fs=>obtain⟨_,_,_,e,_⟩:=x;exact dR e
 |own y=>obtain⟨_,e⟩:=x;exact dR e
 |xd fs=>obtain⟨_,⟨_,_,_,e,_⟩,_⟩:=x;exact dR e
 |BG lo hi=>obtain⟨_,_,_,e⟩:=x;exact dR e
 |gC ob u=>obtain⟨e,_⟩:=x;exact dR e
 |rm ps=>exact dR (show h.get? a=some _ from x)
 |met f y=>exact dR (show h.get? a=some _ from x)
 |ext φ=>obtain⟨_,⟨_,e⟩,_⟩:=x;exact dR e
theorem Paired.BH{α β:Type}{F G:α->β->Prop}:∀{l₁:List α} {l₂:List β},Paired F l₁ l₂->(∀a b,F a b->G a b)->Paired G l₁ l₂
 |_,_, .nil,_=> .nil
 |_,_, .cons r t,f=> .cons (f _ _ r) (Paired.BH t f)
theorem fP.e9(x:fP P w H h a o)(k:∀b u,(b=a\/H b=some (.own a))->h.get? b=some u->h'.get? b=some u)
  (ho:∀b,H b=some (.own a)->H' b=some (.own a)) (ht:∀b xs,H b=some (.tup xs)->H' b=some (.tup xs)):fP P w H' h' a o:=by
 induction o with
 |lst xs=>obtain⟨z,ax,n,r,e⟩:=x;exact⟨z,ax,n,r,k _ _ (.inl rfl) e⟩
 |tup xs=>obtain⟨z,ax,r,ob,e,c⟩:=x;exact⟨z,ax,r,ob,k _ _ (.inl rfl) e,c⟩
 |dK aw=>obtain⟨z,y,vs,r,ob,es,ep,e,c⟩:=x;exact⟨z,y,vs,r,ob,es,ep,k _ _ (.inl rfl) e,c⟩
 |dT aw=>
  obtain⟨z,y,xs,r,ob,es,ep,e,c⟩:=x;exact⟨z,y,xs,Paired.BH r λp q z=>⟨z.1,ht _ _ z.2.1,z.2.2⟩,ob,es,ep,k _ _ (.inl rfl) e,c⟩
 |set S n=>obtain⟨ob,es,ep,t,e,c⟩:=x;exact⟨ob,es,ep,t,k _ _ (.inl rfl) e,c⟩
 |ins C dx fs=>
  obtain⟨d,z,ne,e,mA,⟨od,es,ep,e2,c⟩,r⟩:=x;exact⟨ho _ d,z,ne,k _ _ (.inl rfl) e,mA,⟨od,es,ep,k _ _ (.inr d) e2,c⟩,r⟩
 |own y=>obtain⟨ob,e⟩:=x;exact⟨ob,k _ _ (.inl rfl) e⟩
 |xd fs=>obtain⟨mA,⟨od,es,ep,e,c⟩,r⟩:=x;exact⟨mA,⟨od,es,ep,k _ _ (.inl rfl) e,c⟩,r⟩
 |BG lo hi=>obtain⟨t,u,v,e⟩:=x;exact⟨t,u,v,k _ _ (.inl rfl) e⟩
 |gC ob u ih=>obtain⟨e,q⟩:=x;exact⟨k _ _ (.inl rfl) e,ih q⟩
 |rm ps=>
  have e:h.get? a=some { cls:= .none,data:= .fields ps }:=x;show h'.get? a=some { cls:= .none,data:= .fields ps };exact k a _ (.inl rfl) e
 |met f y=>
  have e:h.get? a=some (Ni (.ref f) (.ref y)):=x;show h'.get? a=some (Ni (.ref f) (.ref y));exact k a _ (.inl rfl) e
 |ext φ=>obtain⟨p,⟨o,e⟩,st⟩:=x;exact⟨st _ _ p λo q=>k _ _ (.inl rfl) q,⟨o,k _ _ (.inl rfl) e⟩,st⟩
theorem gc.lt(x:gc P w H h)(e:H a=some o):a < h.objs.size:=(x a o e).lt
theorem gc.fresh(x:gc P w H h)(e:h.objs.size<=a):H a=none:=by
 cases q:H a with
 |none=>rfl
 |some u=>exact absurd (df (x.lt q) e) (mx _)
theorem gc.kept(x:gc P w H h)(k:∀b u,h.get? b=some u->h'.get? b=some u):gc P w H h':=λa o e=>
 (x a o e).e9 (λb u _ q=>k b u q) (λ_ q=>q) λ_ _ q=>q
theorem gc.laid(x:gc P w H h)(k:∀b u,h.get? b=some u->h'.get? b=some u)(hp:h.objs.size<=a)(new:fP P w (upd H a o) h' a o):gc P w (upd H a o) h':=λb u e=>by
 have hn:=x.fresh hp;by_cases hb:b=a
 ·subst hb;rw[gb]at e;cases e;exact new
 ·rw[bE hb]at e;exact(x b u e).e9 (λc v _ q=>k c v q) (λc q=>by rw[bE (gQ q hn)];exact q) λc xs q=>by rw[bE (gQ q hn)];exact q
end
def Rd(H:Hp)(a:Addr)(u:HO):Prop:=H a=some u\/∃o,H a=some (.gC o u)
theorem Rd.ok{P:Program}{w:World}{H:Hp}{h:Heap}{a:Addr}{u:HO}(r:Rd H a u)(x:gc P w H h):fP P w H h a u:=by
 rcases r with r | ⟨o,r⟩
 ·exact x a u r
 ·obtain⟨_,q⟩:=x a _ r;exact q
def gY:Option HO->Prop
 |some (.lst _)=>True
 |some (.dK _)=>True
 |some (.dT _)=>True
 |some (.set _ _)=>True
 |some (.ins _ _ _)=>True
 |some (.ext _)=>True
 |_=>False
section
variable {P:Program}{w:World}{H:Hp}{h h':Heap}{x e:Addr}{o':HO}
theorem gc.write(ok:gc P w H h)(mu:gY (H x))(he:e=x\/H e=some (.own x))(k:∀b u,b≠e->h.get? b=some u->h'.get? b=some u)(tO:∃u,h'.get? e=some u)
  (new:fP P w (upd H x o') h' x o'):gc P w (upd H x o') h':=λb u q=>by
 have Gv:∀c y,H c=some (.own y)->c≠x:=λc y r z=>by subst z;rw[r]at mu;exact mu
 have Om:∀c xs,H c=some (.tup xs)->c≠x:=λc xs r z=>by subst z;rw[r]at mu;exact mu
 by_cases hb:b=x
 ·subst hb;rw[gb]at q;cases q;exact new
 ·rw[bE hb]at q;by_cases rn:b=e
  ·have q':H b=some (.own x):=by
    rcases he with z | z
    ·exact absurd (rn.trans z) hb
    ·rw[rn];exact z
   rw[q]at q';cases q';obtain⟨v,hv⟩:=tO;exact⟨v,by rw[rn];exact hv⟩
  ·refine(ok b u q).e9 (λc v hc r=>k c v ?_ r) (λc r=>by rw[bE (Gv c b r)];exact r) λc xs r=>by rw[bE (Om c xs r)];exact r
   rcases hc with rfl | hc
   ·exact rn
   ·rintro rfl;rcases he with z | z
    ·exact Gv c b hc z
    ·rw[hc]at z;cases z;exact hb rfl
end
structure Un(fs ex:List Addr)(H H':Hp)(h h':Heap):Prop where
 keep:∀b o,h.get? b=some o->H b=none->b∉fs->b∉ex->h'.get? b=some o
 slot:∀b o,h.get? b=some o->H b=none->b∈fs->b∉ex->∃sl,h'.get? b=some { o with slots:=sl }
 free:∀b o,h.get? b=some o->H b=none->b∉ex->H' b=none
 there:∀b o,h.get? b=some o->b∉ex->∃o',h'.get? b=some o'
 oJ:∀b xs,H b=some (.tup xs)->H' b=some (.tup xs)
 nz:∀b o u,H b=some (.gC o u)->H' b=some (.gC o u)
 oK:∀b ps,H b=some (.rm ps)->∃more,H' b=some (.rm (ps++more))
section
variable {fs Oo ex Gw:List Addr}{H H1 H2:Hp}{h h1 h2 h':Heap}{a x e:Addr}{o:HO}
theorem Un.any(u:Un fs ex H H1 h h1){b:Addr}{ob:Obj}(q:h.get? b=some ob)(n:H b=none)(hx:b∉ex):∃sl,h1.get? b=some { ob with slots:=sl }:=by
 by_cases hb:b∈fs
 ·exact u.slot b ob q n hb hx
 ·exact⟨ob.slots,u.keep b ob q n hb hx⟩
theorem Un.kept(k:∀b u,h.get? b=some u->h'.get? b=some u):Un fs ex H H h h':=
 ⟨λb ob q _ _ _=>k b ob q,λb ob q _ _ _=>⟨ob.slots,k b ob q⟩,λ_ _ _ n _=>n,λb ob q _=>⟨ob,k b ob q⟩,λ_ _ q=>q,λ_ _ _ q=>q,λ_ ps q=>⟨#[],by rw[q];simp⟩⟩
theorem Un.refl:Un fs ex H H h h:=Un.kept λ_ _ q=>q
theorem Un.laid(k:∀b u,h.get? b=some u->h'.get? b=some u)(hp:h.objs.size<=a)(hn:H a=none):Un fs ex H (upd H a o) h h' where
 keep:=λb u q _ _ _=>k b u q
 slot:=λb u q _ _ _=>⟨u.slots,k b u q⟩
 free:=λb u q n _=>by rw[bE (fN (df (dR q) hp))];exact n
 there:=λb u q _=>⟨u,k b u q⟩
 oJ:=λb xs q=>by rw[bE (gQ q hn)];exact q
 nz:=λb u xs q=>by rw[bE (gQ q hn)];exact q
 oK:=λb ps q=>⟨#[],by rw[bE (gQ q hn),q];simp⟩
theorem Un.write(mu:gY (H x))(he:e=x\/H e=some (.own x))(k:∀b u,b≠e->h.get? b=some u->h'.get? b=some u)(tO:∃u,h'.get? e=some u):Un fs ex H (upd H x o) h h':=by
 have hx:∀b,H b=none->b≠x:=λb n z=>by subst z;rw[n]at mu;exact mu
 have hb:∀b,H b=none->b≠e:=λb n z=>by
  subst z;rcases he with r | r
  ·exact hx b n r
  ·rw[n]at r;cases r
 have hm:∀b u,H b=some u->¬ gY (some u)->b≠x:=λb u q nm z=>by subst z;rw[q]at mu;exact nm mu
 refine⟨λb u q n _ _=>k b u (hb b n) q,λb u q n _ _=>⟨u.slots,k b u (hb b n) q⟩,λb u q n _=>by rw[bE (hx b n)];exact n,λb u q _=> ?_,
  λb xs q=>by rw[bE (hm b _ q λz=>z)];exact q,λb u xs q=>by rw[bE (hm b _ q λz=>z)];exact q,λb ps q=>⟨#[],by rw[bE (hm b _ q λz=>z),q];simp⟩⟩
 by_cases rn:b=e
 ·subst rn;exact tO
 ·exact⟨u,k b u rn q⟩
end
noncomputable def tP (h:Heap) (H:Hp):List Addr:=(jm h.objs.size).filter λa=>(H a).isSome
def oN(h:Heap)(H:Hp):Heap:=W.hideAll h (tP h H)
theorem Oq(h:Heap)(H:Hp):(oN h H).objs.size=h.objs.size:=W.hideAll_size _ _
theorem Ot{h:Heap}{H:Hp}{b:Addr}{o:Obj}(e:h.get? b=some o)(n:H b=none):(oN h H).get? b=some o:=
 W.hideAll_get _ e λhm=>by
  have q:(H b).isSome=true:=(tE.mp hm).2;rw[n]at q;simp at q
theorem Ou{h:Heap}{H:Hp}{b:Addr}{o:Obj}(e:(oN h H).get? b=some o):h.get? b=some o/\H b=none:=by
 have e':h.get? b=some o:=W.of_hideAll (tP h H) e;refine⟨e', ?_⟩;cases q:H b with
 |none=>rfl
 |some x=>
  have hm:b∈tP h H:=tE.mpr ⟨Bn.mpr (dR e'),by simp[q]⟩;have z:(oN h H).get? b=none:=W.hideAll_none (tP h H) hm;rw[z]at e;cases e
structure Mod(K:ak)(mg:Str->Option Value)(base:Heap):Prop where
 BI:K.In base
 glob:base.Ns kS mg
 blt:∃mb,base.Ns FJ mb/\∀x:Str,x≠"__name__"->mb x=xO x
 nolimit:base.NoLimit
structure Cx where
 prog:Program
 w:World
 K:ak
 mg:Str->Option Value
 base:Heap
 A:Around
 N:List Str
 gZ:Shared
 vA:Hp
 env:Env
 outer:List Env
 stack:List Env
 ex:List Addr
 fn:Str->Bool
 calm:Bool
 pn:List (Addr×Obj)
 xe:Value->Shared->Prop
noncomputable def kA (l:List Env):List Addr:=l.filterMap (·.frame)
abbrev Cx.fs(X:Cx):List Addr:=kA X.outer
def BJ(sc:Scope)(x:Str):Prop:=sc.names.lookup x=some .local\/sc.names.lookup x=some .cell\/sc.names.lookup x=some .free
def Loc(sc:Scope)(x:Str):Prop:=sc.names.lookup x=some .local\/sc.names.lookup x=some .cell
def Look(env:Env)(h:Heap)(m:Str->Option Value)(x:Str)(u:Value):Prop:=
 (env.kindOf x=some .local/\m x=some u)\/((env.kindOf x=some .cell\/env.kindOf x=some .free)/\∃c,env.cells.lookup x=some c/\h.IsCell c (some u))
structure Cx.Ok(X:Cx):Prop where
 mod:Mod X.K X.mg X.base
 kind:X.env.scope.kind= .function
 glob:X.env.globals=kS
 blt:X.env.builtins=FJ
 above:X.gZ.heap.objs.size<=X.env.locals
 inj:∀x y c,X.env.cells.lookup x=some c->X.env.cells.lookup y=some c->x=y
 has:∀x,(X.env.kindOf x=some .cell\/X.env.kindOf x=some .free)->∃c,X.env.cells.lookup x=some c
 vB:∀x c,X.fn x=true->X.env.cells.lookup x=some c->X.gZ.heap.objs.size<=c
 hd:X.calm=true->X.A.handled=none
 frames:X.A.frames=some X.stack
 rq:X.stack=X.outer\/(X.stack=X.env::X.outer/\X.env.frame=some X.env.locals)
 Gx:∀b∈X.ex,b≠X.env.locals/\∀x c,X.env.cells.lookup x=some c->c≠b
 bs:∀b o,X.base.get? b=some o->X.gZ.heap.get? b=some o/\X.vA b=none
 oO:X.base.objs.size<=X.gZ.heap.objs.size
 vC:∀b o,X.base.get? b=some o->b∉X.ex
 yc:∀b∈X.ex,b∉X.fs
 lL:X.gZ.heap.FunFrames X.base X.outer
 rA:∀b∈X.fs,X.vA b=none
structure Inv(X:Cx)(aa:List (Addr×Obj))(σ:List (Option V))(H:Hp)(s:Shared):Prop where
 ok:X.Ok
 os:s.os=X.gZ.os
 bare:sX s.gens
 base:Un X.fs X.ex X.vA H X.gZ.heap s.heap
 loc:∃m,s.heap.Ns X.env.locals m/\∀(i:Nat) (x:Str) (v:V),X.N[i]?=some x->σ[i]?=some (some v)->BJ X.env.scope x->∃u,RelV v u/\Look X.env s.heap m x u
 cell:∀x c,X.env.cells.lookup x=some c->∃v,s.heap.IsCell c v
 free:H X.env.locals=none
 mE:∀x c,X.env.cells.lookup x=some c->H c=none
 pin:∀p∈X.pn++aa,s.heap.get? p.1=some p.2/\H p.1=none/\p.1≠X.env.locals/\p.1∉X.fs/\∀v,p.2.data≠ .cell v
 aU:gc X.prog X.w H s.heap
 len:σ.length=X.N.length
section
variable {X:Cx}{aa:List (Addr×Obj)}{σ:List (Option V)}{H H':Hp}{s:Shared}{h':Heap}
theorem Cx.Ok.Ov(ok:X.Ok){b:Addr}{o:Obj}(e:X.base.get? b=some o):b∉X.fs:=λhb=>by
 have:=(ok.lL.mem hb).1;rw[e]at this;cases this
theorem Inv.bs(I:Inv X aa σ H s):∀b o,X.base.get? b=some o->s.heap.get? b=some o/\H b=none:=λb o e=>
 ⟨I.base.keep b o (I.ok.bs b o e).1 (I.ok.bs b o e).2 (I.ok.Ov e) (I.ok.vC b o e),I.base.free b o (I.ok.bs b o e).1 (I.ok.bs b o e).2 (I.ok.vC b o e)⟩
theorem Inv.bk(I:Inv X aa σ H s):∀b o,X.base.get? b=some o->s.heap.get? b=some o:=λb o e=>(I.bs b o e).1
theorem Inv.mod(I:Inv X aa σ H s):Mod X.K X.mg X.base:=I.ok.mod
theorem Inv.g7(I:Inv X aa σ H s):X.K.In s.heap:=I.ok.mod.BI.keeps I.bk
theorem Inv.lt(I:Inv X aa σ H s):X.env.locals < s.heap.objs.size:=let ⟨_,hn,_⟩:=I.loc;hn.lt
theorem Inv.sz(I:Inv X aa σ H s):X.gZ.heap.objs.size<=s.heap.objs.size:=dC I.ok.above (my I.lt)
theorem Inv.BK(I:Inv X aa σ H s){a:Addr}(h:s.heap.objs.size<=a):a∉X.fs:=λhb=>by
 obtain⟨_,o,ho,_⟩:=I.ok.lL.mem hb;exact absurd (df (dR ho) (dC I.sz h)) (mx _)
theorem Inv.rB(I:Inv X aa σ H s):∀x c,X.env.cells.lookup x=some c->c≠X.env.locals:=λx c e z=>by
 obtain⟨v,o,ho,hd⟩:=I.cell x c e;obtain⟨m,⟨o',es,ep,rC,oQ,_⟩,_⟩:=I.loc;rw[z,rC]at ho;cases ho;rw[oQ]at hd;cases hd
theorem Inv.lL(I:Inv X aa σ H s):s.heap.FunFrames X.base X.outer:=by
 have all:∀(l:List Env),(∀b∈kA l,b∈X.fs)->X.gZ.heap.FunFrames X.base l->s.heap.FunFrames X.base l:=by
  intro l
  induction l with
  |nil=>intro _ _;trivial
  |cons env r ih=>
   intro hs hl;obtain⟨hk,⟨L,o,hf,hn,ho,hd⟩,hr⟩:=hl;have hL:L∈X.fs:=hs L (by unfold kA;rw[Nj,hf];exact tF);obtain⟨sl,e⟩:=I.base.slot L o ho (I.ok.rA L hL) hL λz=>I.ok.yc L z hL;exact⟨hk,⟨L,_,hf,hn,e,hd⟩,ih (λb hb=>hs b (by unfold kA;rw[Nj,hf];exact lH _ hb)) hr⟩
 exact all X.outer (λ_ hb=>hb) I.ok.lL
theorem Inv.stack(I:Inv X aa σ H s):s.heap.FunFrames X.base X.stack:=by
 rcases I.ok.rq with e | ⟨e,hf⟩
 ·rw[e];exact I.lL
 ·rw[e];obtain⟨m,hn,_⟩:=I.loc;refine .cons (by rw[I.ok.kind];decide) hf hn ?_ I.lL;exact Heap.get?_none_of_le (dC I.ok.oO I.ok.above)
theorem Inv.vD(I:Inv X aa σ H s):∀b∈kA X.stack,b∈X.env.locals::X.fs:=λb hb=>by
 rcases I.ok.rq with e | ⟨e,hf⟩
 ·rw[e]at hb;exact lH _ hb
 ·rw[e]at hb;unfold kA at hb;rw[Nj,hf]at hb;exact hb
theorem Inv.Gy(I:Inv X aa σ H s):∀b∈kA X.stack,H b=none:=λb hb=>by
 rcases bx.mp (I.vD b hb) with e | hb
 ·rw[e];exact I.free
 ·obtain⟨_,o,ho,_⟩:=I.ok.lL.mem hb;exact I.base.free b o ho (I.ok.rA b hb) λz=>I.ok.yc b z hb
theorem Inv.step{g':Array GenState}{t':Nat}{d':Drawn}{ch:List Addr}(I:Inv X aa σ H s)
  (qb:∀b∈ch,(b∈X.ex\/X.gZ.heap.objs.size<=b)/\b≠X.env.locals/\(∀x c,X.env.cells.lookup x=some c->c≠b)/\∀p∈X.pn++aa,p.1≠b)
  (keep:∀b o,b≠X.env.locals->b∉X.fs->b∉ch->s.heap.get? b=some o->H b=none->h'.get? b=some o)
  (slot:∀b o,b≠X.env.locals->b∈X.fs->b∉ch->s.heap.get? b=some o->H b=none->∃sl,h'.get? b=some { o with slots:=sl }) (free:∀b o,b∉ch->s.heap.get? b=some o->H b=none->H' b=none)
  (there:∀b o,b∉ch->s.heap.get? b=some o->∃o',h'.get? b=some o')
  (oJ:∀b xs,H b=some (.tup xs)->H' b=some (.tup xs)) (nz:∀b o u,H b=some (.gC o u)->H' b=some (.gC o u)) (oK:∀b ps,H b=some (.rm ps)->∃more,H' b=some (.rm (ps++more)))
  (ns:∀m,s.heap.Ns X.env.locals m->h'.Ns X.env.locals m) (aU:gc X.prog X.w H' h') (hg:sX g'):
  Inv X aa σ H' { s with heap:=h',gens:=g',drawn:=d',toks:=t' }:=by
 have Gz:∀b o,X.gZ.heap.get? b=some o->b≠X.env.locals:=λb o e=>fN (df (dR e) I.ok.above);have ye:∀b o,X.gZ.heap.get? b=some o->b∉X.ex->b∉ch:=λb o e hx hb=>by
  rcases(qb b hb).1 with z | z
  ·exact hx z
  ·exact absurd (df (dR e) z) (mx _)
 have cellK:∀x c,X.env.cells.lookup x=some c->∀v,s.heap.IsCell c v->h'.IsCell c v:=λx c e v ⟨o,ho,hd⟩=>by
  have iW:c∉ch:=λz=>(qb c z).2.2.1 x c e rfl;by_cases hc:c∈X.fs
  ·obtain⟨sl,q⟩:=slot c o (I.rB x c e) hc iW ho (I.mE x c e);exact⟨_,q,hd⟩
  ·exact⟨o,keep c o (I.rB x c e) hc iW ho (I.mE x c e),hd⟩
 refine⟨I.ok,I.os,hg,⟨λb o e n hb hx=> ?_,λb o e n hb hx=> ?_,λb o e n hx=> ?_,λb o e hx=> ?_,λb xs e=>oJ b xs (I.base.oJ b xs e),λb o xs e=>nz b o xs (I.base.nz b o xs e),λb ps e=> ?_⟩, ?_,λx c e=> ?_, ?_,λx c e=> ?_,λp hp=> ?_,aU,I.len⟩
 ·exact keep b o (Gz b o e) hb (ye b o e hx) (I.base.keep b o e n hb hx) (I.base.free b o e n hx)
 ·obtain⟨sl,e1⟩:=I.base.slot b o e n hb hx;obtain⟨BL,e2⟩:=slot b _ (Gz b o e) hb (ye b o e hx) e1 (I.base.free b o e n hx);exact⟨BL,e2⟩
 ·obtain⟨o',e1⟩:=I.base.there b o e hx;exact free b o' (ye b o e hx) e1 (I.base.free b o e n hx)
 ·obtain⟨o',e1⟩:=I.base.there b o e hx;exact there b o' (ye b o e hx) e1
 ·obtain⟨m1,e1⟩:=I.base.oK b ps e;obtain⟨m2,e2⟩:=oK b _ e1;exact⟨m1++m2,by rw[e2,Array.append_assoc]⟩
 ·obtain⟨m,hn,hl⟩:=I.loc;refine⟨m,ns m hn,λi x v e1 e2 e3=> ?_⟩;obtain⟨u,r,l⟩:=hl i x v e1 e2 e3;refine⟨u,r, ?_⟩;rcases l with l | ⟨k,c,e,z⟩
  ·exact .inl l
  ·exact .inr ⟨k,c,e,cellK x c e _ z⟩
 ·obtain⟨v,z⟩:=I.cell x c e;exact⟨v,cellK x c e v z⟩
 ·obtain⟨m,⟨o,_,_,ho,_⟩,_⟩:=I.loc;exact free _ o (λz=>(qb _ z).2.1 rfl) ho I.free
 ·obtain⟨v,o,ho,hd⟩:=I.cell x c e;exact free c o (λz=>(qb c z).2.2.1 x c e rfl) ho (I.mE x c e)
 ·obtain⟨e,n,ne,nf,d⟩:=I.pin p hp;have iW:p.1∉ch:=λz=>(qb p.1 z).2.2.2 p hp rfl;exact⟨keep p.1 p.2 ne nf iW e n,free p.1 p.2 iW e n,ne,nf,d⟩
theorem Inv.un{t':Nat}(I:Inv X aa σ H s)(u:Un X.fs [] H H' s.heap h')(aU:gc X.prog X.w H' h'):Inv X aa σ H' { s with heap:=h',toks:=t' }:=by
 obtain⟨m,⟨o,es,ep,ho,r⟩,_⟩:=id I.loc;obtain⟨sl,hL⟩:=u.any ho I.free (by simp);exact I.step (g':=s.gens) (d':=s.drawn) (ch:= []) (λ_ z=>nomatch z) (λb o _ hb _ e n=>u.keep b o e n hb (by simp)) (λb o _ hb _ e n=>u.slot b o e n hb (by simp)) (λb o _ e n=>u.free b o e n (by simp)) (λb o _ e=>u.there b o e (by simp)) u.oJ u.nz u.oK (λm' hm=>by
  obtain⟨o',BM,BN,rC,r'⟩:=hm;rw[ho]at rC;cases rC;exact⟨_,BM,BN,hL,r'⟩) aU I.bare
theorem Inv.call{g':Array GenState}{t':Nat}{d':Drawn}{ch:List Addr}(I:Inv X aa σ H s)(u:Un (kA X.stack) ch H H' s.heap h')(aU:gc X.prog X.w H' h')(hg:sX g')
  (qb:∀b∈ch,(b∈X.ex\/X.gZ.heap.objs.size<=b)/\b≠X.env.locals/\(∀x c,X.env.cells.lookup x=some c->c≠b)/\∀p∈X.pn++aa,p.1≠b):
  Inv X aa σ H' { s with heap:=h',gens:=g',drawn:=d',toks:=t' }:=by
 obtain⟨m,⟨o,es,ep,ho,r⟩,_⟩:=id I.loc;obtain⟨sl,hL⟩:=u.any ho I.free λz=>(qb _ z).2.1 rfl;exact I.step (ch:=ch) qb (λb o hL hb hc e n=>u.keep b o e n (λz=>(bx.mp (I.vD b z)).elim hL hb) hc) (λb o _ _ hc e n=>u.any e n hc) (λb o hc e n=>u.free b o e n hc) (λb o hc e=>u.there b o e hc) u.oJ u.nz u.oK (λm' hm=>by
  obtain⟨o',BM,BN,rC,r'⟩:=hm;rw[ho]at rC;cases rC;exact⟨_,BM,BN,hL,r'⟩) aU hg
theorem Inv.turned{t':Nat}{it:Addr}(I:Inv X aa σ H s)(k:∀b o,b≠it->s.heap.get? b=some o->h'.get? b=some o)(hn:H it=none)(hL:it≠X.env.locals)
  (h1:it∈X.ex\/X.gZ.heap.objs.size<=it) (h2:∀x c,X.env.cells.lookup x=some c->c≠it) (h3:∀p∈X.pn++aa,p.1≠it):Inv X aa σ H { s with heap:=h',toks:=t' }:=by
 have GA:∀b u,H b=some u->b≠it:=λb u e z=>by rw[z,hn]at e;cases e
 refine I.step (g':=s.gens) (d':=s.drawn) (ch:= [it]) (λb hb=> ?_) (λb o _ _ hc e _=>k b o (λz=>hc (by simp[z])) e) (λb o _ _ hc e _=>⟨o.slots,k b o (λz=>hc (by simp[z])) e⟩) (λ_ _ _ _ n=>n)
  (λb o hc e=>⟨o,k b o (λz=>hc (by simp[z])) e⟩) (λ_ _ e=>e) (λ_ _ _ e=>e) (λb ps e=>⟨#[],by rw[e];simp⟩) (λm hm=> ?_) (λb u e=> ?_) I.bare
 ·have e:b=it:=by simpa using hb
  subst e;exact⟨h1,hL,h2,h3⟩
 ·obtain⟨o,es,ep,ho,r⟩:=hm;exact⟨o,es,ep,k _ o (dS hL) ho,r⟩
 ·refine(I.aU b u e).e9 (λc v hc q=>k c v ?_ q) (λ_ q=>q) λ_ _ q=>q;rcases hc with z | z
  ·rw[z];exact GA b u e
  ·exact GA c _ z
theorem Inv.tok(I:Inv X aa σ H s)(t:Nat):Inv X aa σ H { s with toks:=t }:=I.un (h':=s.heap) (t':=t) Un.refl I.aU
theorem Inv.kept{t':Nat}(I:Inv X aa σ H s)(k:∀b u,s.heap.get? b=some u->h'.get? b=some u):Inv X aa σ H { s with heap:=h',toks:=t' }:=I.un (Un.kept k) (I.aU.kept k)
theorem Inv.laid{a:Addr}{o:HO}{t':Nat}(I:Inv X aa σ H s)(k:∀b u,s.heap.get? b=some u->h'.get? b=some u)(hp:s.heap.objs.size<=a)(new:fP X.prog X.w (upd H a o) h' a o):
  Inv X aa σ (upd H a o) { s with heap:=h',toks:=t' }:=I.un (Un.laid k hp (I.aU.fresh hp)) (I.aU.laid k hp new)
theorem Inv.write{x e:Addr}{o:HO}{t':Nat}(I:Inv X aa σ H s)(mu:gY (H x))(he:e=x\/H e=some (.own x))(k:∀b u,b≠e->s.heap.get? b=some u->h'.get? b=some u)(tO:∃u,h'.get? e=some u)
  (new:fP X.prog X.w (upd H x o) h' x o):Inv X aa σ (upd H x o) { s with heap:=h',toks:=t' }:=I.un (Un.write mu he k tO) (I.aU.write mu he k tO new)
theorem Inv.vE{GB:List (Addr×Obj)}(I:Inv X aa σ H s)(h:∀p∈GB,s.heap.get? p.1=some p.2/\H p.1=none/\p.1≠X.env.locals/\p.1∉X.fs/\∀v,p.2.data≠ .cell v):Inv X GB σ H s:=
 ⟨I.ok,I.os,I.bare,I.base,I.loc,I.cell,I.free,I.mE,λp hp=>(lJ.mp hp).elim (λz=>I.pin p (Bo _ z)) (h p),I.aU,I.len⟩
theorem GC{N:List Str}(hN:N.Nodup){i j:Nat}{x:Str}(a:N[i]?=some x)(b:N[j]?=some x):i=j:=by
 obtain⟨h1,e1⟩:=cb.mp a;obtain⟨h2,e2⟩:=cb.mp b;exact(List.getElem_inj hN).mp (e1.trans e2.symm)
theorem Ow{M:Model}{A:Around}{E:Value->Shared->Prop}{i:Nat}{x:Str}{v:V}{u:Value}{Q:Unit->Shared->Prop}(I:Inv X aa σ H s)(hN:X.N.Nodup)(hi:X.N[i]?=some x)(hx:Loc X.env.scope x)(r:RelV v u)
  (h:∀s',Inv X aa (σ.set i (some v)) H s'->(∃a,tG a s.heap s'.heap/\(a=X.env.locals\/X.env.cells.lookup x=some a))->Q () s') (hf:X.fn x=true\/X.env.scope.names.lookup x=some .local:=by first | exact .inl rfl | exact .inr rfl | assumption):wpAny M A (storeName X.env x u) Q E s:=by
 obtain⟨m,hn,hl⟩:=id I.loc;have Ox:(X.env.scope.kind == .class || (X.env.scope.kind == .module && X.env.locals != X.env.globals))=false:=by rw[I.ok.kind];rfl
 have GD:i < σ.length:=by rw[I.len];exact(cb.mp hi).1
 have rB:=I.rB;have tracked:∀{a:Addr} {h':Heap},(∃o,s.heap.get? a=some o/\H a=none)->tG a s.heap h'->gc X.prog X.w H h':=λ{a h'} ha hs b ob e=>by
  obtain⟨_,_,tQ⟩:=ha;refine(I.aU b ob e).e9 (λc w' hc q=>(hs.2 c ?_).trans q) (λ_ q=>q) λ_ _ q=>q;rintro rfl;rcases hc with rfl | hc
  ·rw[tQ]at e;cases e
  ·rw[tQ]at hc;cases hc
 rcases hx with hk | hk
 ·refine wpAny_storeName_local hk hn (λh' Oy hs=> ?_) Ox;obtain⟨oL,_,_,Oz,_⟩:=id hn;refine h _ ⟨I.ok,I.os,I.bare,⟨λb o e n hb hx=> ?_,λb o e n hb hx=> ?_,I.base.free,λb o e hx=> ?_,I.base.oJ,I.base.nz,I.base.oK⟩,⟨_,Oy,λj y v' e1 e2 e3=> ?_⟩,λy c e=> ?_,I.free,I.mE,λp hp=> ?_,tracked ⟨oL,Oz,I.free⟩ hs,by simpa using I.len⟩ ⟨_,hs, .inl rfl⟩
  ·exact(hs.2 b (fN (df (dR e) I.ok.above))).trans (I.base.keep b o e n hb hx)
  ·obtain⟨sl,e1⟩:=I.base.slot b o e n hb hx;exact⟨sl,(hs.2 b (fN (df (dR e) I.ok.above))).trans e1⟩
  ·obtain⟨o',e1⟩:=I.base.there b o e hx;exact⟨o',(hs.2 b (fN (df (dR e) I.ok.above))).trans e1⟩
  ·by_cases hj:j=i
   ·subst hj;rw[hi]at e1;cases e1;rw[eN GD]at e2;cases e2;exact⟨u,r, .inl ⟨hk,by simp⟩⟩
   ·rw[fF (dS hj)]at e2;obtain⟨u',r',q⟩:=hl j y v' e1 e2 e3;refine⟨u',r', ?_⟩;rcases q with⟨k,e⟩ | ⟨k,c,e,z⟩
    ·refine .inl ⟨k, ?_⟩;have:y≠x:=λe=>hj (GC hN e1 (e▸hi));simp[this,e]
    ·exact .inr ⟨k,c,e,z.sameBut hs (rB y c e)⟩
  ·obtain⟨w',z⟩:=I.cell y c e;exact⟨w',z.sameBut hs (rB y c e)⟩
  ·obtain⟨e,n,ne,nf,d⟩:=I.pin p hp;exact⟨(hs.2 p.1 ne).trans e,n,ne,nf,d⟩
 ·have BO:X.fn x=true:=by
   rcases hf with z | z
   ·exact z
   ·rw[z]at hk;cases hk
  obtain⟨c,hc⟩:=I.ok.has x (.inl hk);obtain⟨w',z⟩:=I.cell x c hc;refine wpAny_storeName_cell I.ok.kind hk hc z (λh' oR hs=> ?_);obtain⟨oc,GF,OA⟩:=id z;refine h { s with heap:=h' } ⟨I.ok,I.os,I.bare,⟨λb o e n hb hx=> ?_,λb o e n hb hx=> ?_,I.base.free,λb o e hx=> ?_,I.base.oJ,I.base.nz,I.base.oK⟩,⟨m,hn.sameBut hs (dS (rB x c hc)),λj y v' e1 e2 e3=> ?_⟩,λy c' e=> ?_,I.free,I.mE,λp hp=> ?_,tracked ⟨oc,GF,I.mE x c hc⟩ hs,by simpa using I.len⟩ ⟨c,hs, .inr hc⟩
  ·exact(hs.2 b (fN (df (dR e) (I.ok.vB x c BO hc)))).trans (I.base.keep b o e n hb hx)
  ·obtain⟨sl,e1⟩:=I.base.slot b o e n hb hx;exact⟨sl,(hs.2 b (fN (df (dR e) (I.ok.vB x c BO hc)))).trans e1⟩
  ·obtain⟨o',e1⟩:=I.base.there b o e hx;exact⟨o',(hs.2 b (fN (df (dR e) (I.ok.vB x c BO hc)))).trans e1⟩
  ·by_cases hj:j=i
   ·subst hj;rw[hi]at e1;cases e1;rw[eN GD]at e2;cases e2;exact⟨u,r, .inr ⟨.inl hk,c,hc,oR⟩⟩
   ·rw[fF (dS hj)]at e2;obtain⟨u',r',q⟩:=hl j y v' e1 e2 e3;refine⟨u',r', ?_⟩;rcases q with q | ⟨k,c',e,z'⟩
    ·exact .inl q
    ·refine .inr ⟨k,c',e,z'.sameBut hs ?_⟩;rintro rfl;exact hj (GC hN e1 (I.ok.inj _ _ _ e hc▸hi))
  ·by_cases GG:c'=c
   ·subst GG;exact⟨_,oR⟩
   ·obtain⟨w2,z2⟩:=I.cell y c' e;exact⟨w2,z2.sameBut hs GG⟩
  ·obtain⟨e,n,ne,nf,d⟩:=I.pin p hp;refine⟨(hs.2 p.1 ?_).trans e,n,ne,nf,d⟩;intro q;rw[q,GF]at e;have q':oc=p.2:=jQ e;exact d w' (by rw[<- q'];exact OA)
theorem BP{M:Model}{A:Around}{E:Value->Shared->Prop}{i:Nat}{x:Str}{v:V}{u:Value}{Q:Unit->Shared->Prop}(I:Inv X aa σ H s)(hN:X.N.Nodup)(hi:X.N[i]?=some x)(hx:Loc X.env.scope x)(r:RelV v u)
  (h:∀s',Inv X aa (σ.set i (some v)) H s'->Q () s') (hf:X.fn x=true\/X.env.scope.names.lookup x=some .local:=by first | exact .inl rfl | exact .inr rfl | assumption):wpAny M A (storeName X.env x u) Q E s:=
 Ow I hN hi hx r (λs' I' _=>h s' I') hf
end
abbrev XK:=Value->Option Addr->Hp->Prop
noncomputable abbrev St:=List (Option V)
abbrev VK:=V->Hp->Prop
abbrev TE:=St->Hp->VK->Prop
abbrev TT:=St->Hp->(Bool->Hp->Prop)->Prop
abbrev TA:=St->Hp->(List V->Hp->Prop)->Prop
structure jJ where
 nx:St->Hp->Prop
 rt:VK
 bk:St->Hp->Prop:=λ_ _=>False
 ct:St->Hp->Prop:=λ_ _=>False
abbrev TS:=jJ->St->Hp->Prop
def EP(X:Cx)(aa:List (Addr×Obj))(σ:St)(Q:VK)(u:Value)(s':Shared):Prop:=∃v H',Inv X aa σ H' s'/\RelV v u/\Q v H'
def TP(X:Cx)(aa:List (Addr×Obj))(σ:St)(Q:Bool->Hp->Prop)(b:Bool)(s':Shared):Prop:=∃H',Inv X aa σ H' s'/\Q b H'
def AP(X:Cx)(aa:List (Addr×Obj))(σ:St)(Q:List V->Hp->Prop)(us:List Value)(s':Shared):Prop:=∃vs H',Inv X aa σ H' s'/\bA vs us/\Q vs H'
def SP(X:Cx)(aa:List (Addr×Obj))(D:jJ)(f:Flow)(s':Shared):Prop:=
 match f with
 |.next=>∃aM H',Inv X aa aM H' s'/\D.nx aM H'
 |.brk=>∃aM H',Inv X aa aM H' s'/\D.bk aM H'
 |.cont=>∃aM H',Inv X aa aM H' s'/\D.ct aM H'
 |.ret u=>∃v aM H',Inv X aa aM H' s'/\RelV v u/\D.rt v H'
def PE(X:Cx)(e:Expr)(t:TE):Prop:=
 ∀(aa:List (Addr×Obj)) (s:Shared) (σ:St) (H:Hp) (Q:VK),Inv X aa σ H s->t σ H Q->wpAny (model X.prog X.w) X.A (eval e X.env) (EP X aa σ Q) X.xe s
def PT(X:Cx)(e:Expr)(t:TT):Prop:=
 ∀(aa:List (Addr×Obj)) (s:Shared) (σ:St) (H:Hp) (Q:Bool->Hp->Prop),Inv X aa σ H s->t σ H Q->wpAny (model X.prog X.w) X.A (isTrue e X.env (eval e X.env)) (TP X aa σ Q) X.xe s
def PW(X:Cx)(e:Expr)(t:TT):Prop:=
 ∀(whole:Sem Value) (aa:List (Addr×Obj)) (s:Shared) (σ:St) (H:Hp) (Q:Bool->Hp->Prop),Inv X aa σ H s->t σ H Q->wpAny (model X.prog X.w) X.A (isTrue e X.env whole) (TP X aa σ Q) X.xe s
theorem PW.pt{X:Cx}{e:Expr}{t:TT}(h:PW X e t):PT X e t:=h _
def PA(X:Cx)(es:List Expr)(t:TA):Prop:=
 ∀(pos:Pos) (aa:List (Addr×Obj)) (s:Shared) (σ:St) (H:Hp) (Q:List V->Hp->Prop),Inv X aa σ H s->t σ H Q->wpAny (model X.prog X.w) X.A (spliced (backTo pos (dB es X.env))) (AP X aa σ Q) X.xe s
def PS(X:Cx)(st:Stmt)(t:TS):Prop:=
 ∀(aa:List (Addr×Obj)) (s:Shared) (σ:St) (H:Hp) (D:jJ),Inv X aa σ H s->t D σ H->wpAny (model X.prog X.w) X.A (exec st X.env) (SP X aa D) X.xe s
def kb(X:Cx)(st:List Stmt)(t:TS):Prop:=
 ∀(aa:List (Addr×Obj)) (s:Shared) (σ:St) (H:Hp) (D:jJ),Inv X aa σ H s->t D σ H->wpAny (model X.prog X.w) X.A (execs st X.env) (SP X aa D) X.xe s
theorem bC{α:Type}{t:Sem α}{Q Q':α->Shared->Prop}{M:Model}{A:Around}{E:Value->Shared->Prop}{s:Shared}(h:wpAny M A t Q E s)(hQ:∀a s,Q a s->Q' a s):wpAny M A t Q' E s:=j6 h hQ λ_ _ x=>x
section
variable {X:Cx}
def iX(i:Nat):TE:=λσ H Q=>∃v,σ[i]?=some (some v)/\Q v H
def tC(v:V):TE:=λ_ H Q=>Q v H
theorem OB{i:Nat}{x:Str}{pos:Pos}(hN:X.N[i]?=some x)(hv:BJ X.env.scope x)(hd:(x == ("__debug__":Str))=false:=by decide)(mF:(x == ("__classdict__":Str))=false:=by decide):PE X (.Name x pos) (iX i):=by
 intro aa s σ H Q I h;obtain⟨v,e,h⟩:=h;obtain⟨m,hn,hl⟩:=I.loc;obtain⟨u,r,l⟩:=hl i x v hN e hv;have fin:EP X aa σ Q u s:=⟨v,H,I,r,h⟩
 rcases l with⟨hk,hm⟩ | ⟨hk,c,hc,nB⟩
 ·exact wpAny_Name (wpAny_loadName_local I.ok.kind hk hn hm fin) hd
 ·rcases hk with hk | hk
  ·exact wpAny_Name (wpAny_loadName_cell I.ok.kind hk hc nB fin) hd
  ·exact wpAny_Name (wpAny_loadName_free I.ok.kind hk hc nB fin mF) hd
theorem ay{i j pos}:PE X (.Constant (.int i) j pos) (tC (.int i)):=λ_ _ _ H _ I h=>wpAny_Constant_int ⟨.int i,H,I.tok _,⟨_,rfl⟩,h⟩
theorem GH{b j pos}:PE X (.Constant (.bool b) j pos) (tC (.bl b)):=λ_ _ _ H _ I h=>Constant_bool ⟨.bl b,H,I,rfl,h⟩
theorem jn{j pos}:PE X (.Constant .none j pos) (tC .az):=λ_ _ _ H _ I h=>Constant_none ⟨.az,H,I,rfl,h⟩
theorem aW{x j pos}:PE X (.Constant (.str x) j pos) (tC (.str x)):=λ_ _ _ H _ I h=>Calls.Constant_str ⟨.str x,H,I.tok _,⟨_,rfl⟩,h⟩
def Gl(X:Cx)(x:Str):Prop:=X.env.kindOf x=some .globalImplicit
theorem GI{E:Value->Shared->Prop}{aa:List (Addr×Obj)}{s:Shared}{σ:St}{H:Hp}{x:Str}{u:Value}{pos:Pos}{Q:Value->Shared->Prop}(I:Inv X aa σ H s)(hg:Gl X x)(hm:X.mg x=some u)(h:Q u s)
  (hd:(x == ("__debug__":Str))=false:=by decide):wpAny (model X.prog X.w) X.A (eval (.Name x pos) X.env) Q E s:=
 YT I.ok.kind hg (Calls.loadGlobal_global (by rw[I.ok.glob];exact I.mod.glob.keeps I.bk) hm h) hd
theorem tR{E:Value->Shared->Prop}{aa:List (Addr×Obj)}{s:Shared}{σ:St}{H:Hp}{x:Str}{u:Value}{pos:Pos}{Q:Value->Shared->Prop}(I:Inv X aa σ H s)(hg:Gl X x)(hm:X.mg x=none)(hv:xO x=some u)(h:Q u s)
  (hn:x≠"__name__":=by decide) (hd:(x == ("__debug__":Str))=false:=by decide):wpAny (model X.prog X.w) X.A (eval (.Name x pos) X.env) Q E s:=by
 obtain⟨mb,h1,h2⟩:=I.mod.blt;exact YT I.ok.kind hg (Calls.loadGlobal_builtin (by rw[I.ok.glob];exact I.mod.glob.keeps I.bk) hm (by rw[I.ok.blt];exact h1.keeps I.bk) ((h2 x hn).trans hv) h) hd
theorem BQ{x:Str}{v:V}{u:Value}{pos:Pos}(hg:Gl X x)(hm:X.mg x=none)(hv:xO x=some u)(r:RelV v u)(hn:x≠"__name__":=by decide)(hd:(x == ("__debug__":Str))=false:=by decide):PE X (.Name x pos) (tC v):=
 λ_ _ _ H _ I h=>tR I hg hm hv ⟨v,H,I,r,h⟩ hn hd
variable {a b:Expr}{ta tb:TE}{pos:Pos}
def tB(t:TE):TT:=λσ H Q=>t σ H λx H1=>∃c,x= .bl c/\Q c H1
theorem yf{e:Expr}{t:TE}(h:PE X e t)(he:∀whole,isTrue e X.env whole=(do let v <- whole;Bf e.pos;holding [v] (truthy v)):=by intro _;rfl):PT X e (tB t):=by
 intro aa s σ H Q I hw;refine isTrue_plain (bC (h aa s σ H _ I hw) λv s1 ⟨x,H1,I1,r1,q1⟩=> ?_) (he _);obtain⟨d,rfl,q⟩:=q1;cases r1;exact Bg ⟨H1,I1,q⟩
variable {tA yg:TT}{rest:List Expr}
def BR(t u:TT):TT:=λσ H Q=>t σ H λc H1=>if c=true then u σ H1 Q else Q false H1
def GJ(t u:TT):TT:=λσ H Q=>t σ H λc H1=>if c=true then Q true H1 else u σ H1 Q
def GK(t:TT):TT:=λσ H Q=>t σ H λc H1=>Q (!c) H1
theorem oS(ha:PT X a tA):PW X (.BoolOp .And [a] pos) tA:=by
 intro wh aa s σ H Q I h;refine isTrue_and (bC (ha aa s σ H Q I h) λc s1 e=> ?_);cases c with
 |true=>exact isTrue_and_nil e
 |false=>exact e
theorem BS(ha:PT X a tA):PW X (.BoolOp .Or [a] pos) tA:=by
 intro wh aa s σ H Q I h;refine isTrue_or (bC (ha aa s σ H Q I h) λc s1 e=> ?_);cases c with
 |false=>exact isTrue_or_nil e
 |true=>exact e
theorem kY(ha:PT X a tA)(hb:PW X (.BoolOp .And (b::rest) pos) yg):PW X (.BoolOp .And (a::b::rest) pos) (BR tA yg):=by
 intro wh aa s σ H Q I h;refine isTrue_and (bC (ha aa s σ H _ I h) λc s1 ⟨H1,I1,q1⟩=> ?_);cases c with
 |true=>exact hb wh aa s1 σ H1 Q I1 q1
 |false=>exact⟨H1,I1,q1⟩
theorem yh(ha:PT X a tA)(hb:PW X (.BoolOp .Or (b::rest) pos) yg):PW X (.BoolOp .Or (a::b::rest) pos) (GJ tA yg):=by
 intro wh aa s σ H Q I h;refine isTrue_or (bC (ha aa s σ H _ I h) λc s1 ⟨H1,I1,q1⟩=> ?_);cases c with
 |true=>exact⟨H1,I1,q1⟩
 |false=>exact hb wh aa s1 σ H1 Q I1 q1
theorem OC(ha:PT X a tA):PT X (.UnaryOp .Not a pos) (GK tA):=by
 intro aa s σ H Q I h;exact isTrue_not (ha aa s σ H (λc H1=>Q (!c) H1) I h)
def GO(ta tb:TE):TE:=λσ H Q=>ta σ H λx H1=>∃c,x= .bl c/\if c=true then tb σ H1 Q else Q (.bl false) H1
def GQ(ta tb:TE):TE:=λσ H Q=>ta σ H λx H1=>∃c,x= .bl c/\if c=true then Q (.bl true) H1 else tb σ H1 Q
theorem GR{op}{t:TE}(h:PE X a t):PE X (.BoolOp op [a] pos) t:=λaa s σ H Q I hw=>BoolOp_one (h aa s σ H Q I hw)
theorem OD(ha:PE X a ta)(hb:PE X (.BoolOp .And (b::rest) pos) tb):PE X (.BoolOp .And (a::b::rest) pos) (GO ta tb):=by
 intro aa s σ H Q I h;refine BoolOp_and (bC (ha aa s σ H _ I h) λv s1 ⟨x,H1,I1,r1,q1⟩=> ?_);obtain⟨c,rfl,q1⟩:=q1;cases r1;refine Bg ?_;cases c with
 |true=>exact hb aa s1 σ H1 Q I1 q1
 |false=>exact⟨.bl false,H1,I1,rfl,q1⟩
theorem OE(ha:PE X a ta)(hb:PE X (.BoolOp .Or (b::rest) pos) tb):PE X (.BoolOp .Or (a::b::rest) pos) (GQ ta tb):=by
 intro aa s σ H Q I h;refine BoolOp_or (bC (ha aa s σ H _ I h) λv s1 ⟨x,H1,I1,r1,q1⟩=> ?_);obtain⟨c,rfl,q1⟩:=q1;cases r1;refine Bg ?_;cases c with
 |false=>exact hb aa s1 σ H1 Q I1 q1
 |true=>exact⟨.bl true,H1,I1,rfl,q1⟩
def GS(t:TT)(ta tb:TE):TE:=λσ H Q=>t σ H λc H1=>if c=true then ta σ H1 Q else tb σ H1 Q
theorem GU{c:Expr}(hc:PT X c tA)(ha:PE X a ta)(hb:PE X b tb):PE X (.IfExp c a b pos) (GS tA ta tb):=by
 intro aa s σ H Q I h;refine wpAny_IfExp (bC (hc aa s σ H _ I h) λd s1 ⟨H1,I1,q1⟩=> ?_);cases d with
 |true=>exact ha aa s1 σ H1 Q I1 q1
 |false=>exact hb aa s1 σ H1 Q I1 q1
end
def bW(K:ak)(H:Hp)(a:Addr)(xs:List V):Prop:=
 Rd H a (.lst xs)\/
  ∃(o:Obj) (ax:Array Value) (n:Nat),K.lookup a=some o/\o.cls= .type "list"/\o.dict=none/\o.data= .seq ax n/\ax.size<=aN/\bA xs ax.toList
def cD(K:ak)(H:Hp)(a:Addr)(xs:List V):Prop:=
 Rd H a (.tup xs)\/
  ∃(o:Obj) (ax:Array Value) (n:Nat),K.lookup a=some o/\o.cls= .type "tuple"/\o.data= .seq ax n/\ax.size<=aN/\bA xs ax.toList
noncomputable def OF:Value->Option V
 |.none=>some .az
 |.bool b=>some (.bl b)
 |.int i _=>some (.int i)
 |.str x _=>some (.str x)
 |.bytes b _=>some (.rl b)
 |.float b _=>some (.jS b)
 |.ref a=>some (.ref a)
 |.type n=>some (.ty n)
 |_=>none
theorem RelV.abs{x:V}{u:Value}(r:RelV x u):OF u=some x:=by
 cases x with
 |az=>cases r;rfl
 |bl _=>cases r;rfl
 |int _=>obtain⟨t,rfl⟩:=r;rfl
 |str _=>obtain⟨t,rfl⟩:=r;rfl
 |rl _=>obtain⟨t,rfl⟩:=r;rfl
 |jS _=>obtain⟨t,rfl⟩:=r;rfl
 |ref _=>cases r;rfl
 |ty _=>cases r;rfl
theorem RelV.inj{x y:V}{u:Value}(r:RelV x u)(q:RelV y u):x=y:=jQ (r.abs.symm.trans q.abs)
theorem bA.inj:∀{xs ys:List V} {us:List Value},bA xs us->bA ys us->xs=ys
 |_,_,_, .nil, .nil=>rfl
 |_,_,_, .cons r t, .cons r' t'=>by rw[r.inj r',bA.inj t t']
section
variable {X:Cx}{aa:List (Addr×Obj)}{σ:St}{H:Hp}{s:Shared}{a:Addr}{xs ys:List V}
theorem bW.of{K:ak}(h:H a=some (.lst xs)):bW K H a xs:= .inl (.inl h)
theorem cD.of{K:ak}(h:H a=some (.tup xs)):cD K H a xs:= .inl (.inl h)
theorem Inv.list(I:Inv X aa σ H s)(h:bW X.K H a xs):∃ax:List Value,bA xs ax/\PlainL s.heap a ax.toArray/\xs.length<=aN:=by
 rcases h with h | ⟨o,ax,n,hk,hc,hd,hs,hz,r⟩
 ·obtain⟨z,ax,n,r,e⟩:=h.ok I.aU;exact⟨ax,r,⟨_,n,e,rfl,rfl,rfl⟩,z⟩
 ·refine⟨ax.toList,r,⟨o,n,I.g7 a o hk,hc,hd,by simpa using hs⟩, ?_⟩;have e:=r.length;simp only[Nk]at e
  lia
theorem Inv.tuple(I:Inv X aa σ H s)(h:cD X.K H a xs):∃ax:List Value,bA xs ax/\IsTup s.heap a ax.toArray/\xs.length<=aN:=by
 rcases h with h | ⟨o,ax,n,hk,hc,hs,hz,r⟩
 ·obtain⟨z,ax,r,p⟩:=h.ok I.aU;exact⟨ax,r,p,z⟩
 ·refine⟨ax.toList,r,⟨o,I.g7 a o hk,hc,n,by simpa using hs⟩, ?_⟩;have e:=r.length;simp only[Nk]at e
  lia
theorem Inv.BU(I:Inv X aa σ H s)(h:bW X.K H a xs)(h':bW X.K H a ys):xs=ys:=by
 obtain⟨ax,r,⟨o,n,e,_,_,d⟩,_⟩:=I.list h;obtain⟨its',r',⟨o',n',e',_,_,d'⟩,_⟩:=I.list h';rw[e]at e';cases e';rw[d]at d';injection d' with d1 _
 have:ax=its':=by simpa using congrArg Array.toList d1
 subst this;exact r.inj r'
theorem Inv.GV(I:Inv X aa σ H s)(h:cD X.K H a xs)(h':cD X.K H a ys):xs=ys:=by
 obtain⟨ax,r,⟨o,e,_,n,d⟩,_⟩:=I.tuple h;obtain⟨its',r',⟨o',e',_,n',d'⟩,_⟩:=I.tuple h';rw[e]at e';cases e';rw[d]at d';injection d' with d1 _
 have:ax=its':=by simpa using congrArg Array.toList d1
 subst this;exact r.inj r'
end
noncomputable abbrev Cx.nD (X:Cx) (E:Value->Shared->Prop):Cx:= { X with xe:=E }
abbrev Cx.tS(X:Cx):Cx:=X.nD λ_ _=>False
theorem Cx.Ok.nD{X:Cx}(ok:X.Ok)(E:Value->Shared->Prop):(X.nD E).Ok:=
 ⟨ok.mod,ok.kind,ok.glob,ok.blt,ok.above,ok.inj,ok.has,ok.vB,ok.hd,ok.frames,ok.rq,ok.Gx,ok.bs,ok.oO,ok.vC,ok.yc,ok.lL,ok.rA⟩
theorem Cx.Ok.qc{X:Cx}{E:Value->Shared->Prop}(ok:(X.nD E).Ok):X.Ok:=
 ⟨ok.mod,ok.kind,ok.glob,ok.blt,ok.above,ok.inj,ok.has,ok.vB,ok.hd,ok.frames,ok.rq,ok.Gx,ok.bs,ok.oO,ok.vC,ok.yc,ok.lL,ok.rA⟩
section
variable {X:Cx}{aa:List (Addr×Obj)}{σ:St}{H:Hp}{s:Shared}{E:Value->Shared->Prop}
theorem Inv.nD(I:Inv X aa σ H s)(E:Value->Shared->Prop):Inv (X.nD E) aa σ H s:=⟨I.ok.nD E,I.os,I.bare,I.base,I.loc,I.cell,I.free,I.mE,I.pin,I.aU,I.len⟩
theorem Inv.qc(I:Inv (X.nD E) aa σ H s):Inv X aa σ H s:=⟨I.ok.qc,I.os,I.bare,I.base,I.loc,I.cell,I.free,I.mE,I.pin,I.aU,I.len⟩
theorem SP.qc{D:jJ}{f:Flow}{s':Shared}(h:SP (X.nD E) aa D f s'):SP X aa D f s':=by
 cases f with
 |next=>obtain⟨aM,H',I,q⟩:=h;exact⟨aM,H',I.qc,q⟩
 |brk=>obtain⟨aM,H',I,q⟩:=h;exact⟨aM,H',I.qc,q⟩
 |cont=>obtain⟨aM,H',I,q⟩:=h;exact⟨aM,H',I.qc,q⟩
 |ret u=>obtain⟨v,aM,H',I,r,q⟩:=h;exact⟨v,aM,H',I.qc,r,q⟩
theorem kb.tS{st:List Stmt}{t:TS}(h:kb X.tS st t):kb X st t:=λaa s σ H D I hw=>
 j6 (h aa s σ H D (I.nD _) hw) (λ_ _ q=>q.qc) λ_ _ z=>mz z
end
section
variable {X:Cx}{st:Stmt}{rest:List Stmt}{t u:TS}{e:Expr}{te:TE}{pos:Pos}
def yi:TS:=λD σ H=>D.nx σ H
def yj(t u:TS):TS:=λD σ H=>t { D with nx:=u D } σ H
theorem d4:kb X [] yi:=λ_ _ σ H _ I h=>M0 ⟨σ,H,I,h⟩
theorem aZ(h1:PS X st t)(h2:kb X rest u):kb X (st::rest) (yj t u):=by
 intro aa s σ H D I h;refine wpAny_execs_cons (bC (h1 aa s σ H { D with nx:=u D } I h) λf s1 q=> ?_);cases f with
 |next=>
  obtain⟨aM,H',I',q⟩:=q;exact h2 aa s1 aM H' D I' q
 |ret v=>exact q
 |brk=>exact q
 |cont=>exact q
theorem fj(h1:PS X st t):kb X [st] t:=by
 intro aa s σ H D I h;refine wpAny_execs_cons (bC (h1 aa s σ H D I h) λf s1 q=> ?_);cases f with
 |next=>exact M0 q
 |ret v=>exact q
 |brk=>exact q
 |cont=>exact q
def GW:TS:=λD σ H=>D.ct σ H
theorem OG:PS X (.Continue pos) GW:=λ_ _ σ H _ I h=>wpAny_Continue ⟨σ,H,I,h⟩
theorem Inv.quiet{aa:List (Addr×Obj)}{σ:St}{H:Hp}{s:Shared}(I:Inv X aa σ H s):interactive X.env=false:=by simp[interactive,I.ok.kind]
def GX(te:TE):TS:=λD σ H=>te σ H λ_ H1=>D.nx σ H1
theorem oU(he:PE X e te)(hs:sY e none pos.line X.env=pure false:=by rfl):PS X (.Expr e pos) (GX te):=by
 intro aa s σ H D I h;exact wpAny_Expr_any (bC (he aa s σ H _ I h) λv s1 ⟨x,H1,I1,r1,q1⟩=>⟨σ,H1,I1,q1⟩) I.quiet hs
def rD(te:TE):TS:=λD σ H=>te σ H D.rt
theorem yk(he:PE X e te):PS X (.Return (some e) pos) (rD te):=by
 intro aa s σ H D I h;exact wpAny_Return_some (bC (he aa s σ H _ I h) λv s1 ⟨x,H1,I1,r1,q1⟩=>⟨x,σ,H1,I1,r1,q1⟩)
def GY:TS:=λD _ H=>D.rt .az H
theorem OH:PS X (.Return none pos) GY:=λ_ _ σ H _ I h=>wpAny_Return_none ⟨.az,σ,H,I,rfl,h⟩
def ym(c:TT)(t u:TS):TS:=λD σ H=>c σ H λb H1=>if b=true then t D σ H1 else u D σ H1
theorem dY{c:Expr}{a b:List Stmt}{tc:TT}(hc:PT X c tc)(ha:kb X a t)(hb:kb X b u):PS X (.If c a b pos) (ym tc t u):=by
 intro aa s σ H D I h;refine wpAny_If (bC (hc aa s σ H _ I h) λd s1 ⟨H1,I1,q1⟩=> ?_);cases d with
 |true=>exact ha aa s1 σ H1 D I1 q1
 |false=>exact hb aa s1 σ H1 D I1 q1
end
abbrev TG:=V->St->Hp->(St->Hp->Prop)->Prop
abbrev oV:=List V->St->Hp->(St->Hp->Prop)->Prop
def PG(X:Cx)(target:Expr)(t:TG):Prop:=
 ∀(aa:List (Addr×Obj)) (s:Shared) (σ:St) (H:Hp) (v:V) (u:Value) (Q:St->Hp->Prop),Inv X aa σ H s->RelV v u->t v σ H Q->
  wpAny (model X.prog X.w) X.A (assign target X.env u) (λ_ s'=>∃aM H',Inv X aa aM H' s'/\Q aM H') X.xe s
def vF(X:Cx)(ts:List Expr)(t:oV):Prop:=
 ∀(aa:List (Addr×Obj)) (s:Shared) (σ:St) (H:Hp) (vs:List V) (us:List Value) (Q:St->Hp->Prop),Inv X aa σ H s->bA vs us->t vs σ H Q->
  wpAny (model X.prog X.w) X.A (assignInOrder ((sZ ts X.env).map (·.2)) us) (λ_ s'=>∃aM H',Inv X aa aM H' s'/\Q aM H') X.xe s
abbrev BV:=V->V->V->Hp->(Hp->Prop)->Prop
def GZ(X:Cx)(t:BV):Prop:=
 ∀(aa:List (Addr×Obj)) (s:Shared) (σ:St) (H:Hp) (o i v:V) (ov iv u:Value) (Q:Hp->Prop),Inv X aa σ H s->RelV o ov->RelV i iv->RelV v u->t o i v H Q->
  wpAny (model X.prog X.w) X.A (setItem ov iv u) (λ_ s'=>∃H',Inv X aa σ H' s'/\Q H') X.xe s
section
variable {X:Cx}{pos:Pos}
def kB(i:Nat):TG:=λv σ H Q=>Q (σ.set i (some v)) H
theorem BW{i:Nat}{x:Str}(hN:X.N.Nodup)(hi:X.N[i]?=some x)(hx:Loc X.env.scope x)(hf:X.fn x=true\/X.env.scope.names.lookup x=some .local:=by first | exact .inl rfl | exact .inr rfl | assumption):PG X (.Name x pos) (kB i):=by
 intro aa s σ H v u Q I r h;exact wpAny_assign_Name (BP I hN hi hx r (λs' I'=>⟨_,H,I',h⟩) hf)
def BX:oV:=λvs σ H Q=>vs= []/\Q σ H
def BY(t:TG)(u:oV):oV:=λvs σ H Q=>∃v r,vs=v::r/\t v σ H λaM H'=>u r aM H' Q
theorem lM:vF X [] BX:=by
 intro aa s σ H vs us Q I r h;obtain⟨e,h⟩:=h;subst e;cases r;exact assignInOrder_nil ⟨σ,H,I,h⟩
theorem gD{e:Expr}{es:List Expr}{t:TG}{u:oV}(h1:PG X e t)(h2:vF X es u)
  (hs:(sZ (e::es) X.env).map (·.2)=assign e X.env::(sZ es X.env).map (·.2):=by rfl):vF X (e::es) (BY t u):=by
 intro aa s σ H vs us Q I r h;obtain⟨v,vr,e1,h⟩:=h;subst e1;cases r with
 |cons r rr=>
  rw[hs];refine assignInOrder_cons (bC (h1 aa s σ H _ _ _ I r h) λ_ s1 ⟨BZ,H1,I1,q1⟩=> ?_);exact h2 aa s1 BZ H1 _ _ Q I1 rr q1
def yn(K:ak)(n:Nat)(t:oV):TG:=λv σ H Q=>∃a xs,v= .ref a/\cD K H a xs/\xs.length=n/\t xs σ H Q
theorem OI{es:List Expr}{k:Nat}{t:oV}{n:Nat}(hc:X.calm=true)(h:vF X es t)
  (hn:(sZ es X.env).length=n:=by rfl) (B0:(sZ es X.env).findIdx? (·.1)=none:=by rfl):PG X (.Tuple es k pos) (yn X.K n t):=by
 intro aa s σ H v u Q I r hw;obtain⟨a,xs,e1,hq,hl,hw⟩:=hw;subst e1;cases r;obtain⟨ax,rv,ht,hz⟩:=I.tuple hq;refine assign_Tuple_tuple (I.ok.hd hc) ht (by simp[hn, <- hl,rv.length]) B0 λh' hx=> ?_;have I1:Inv X aa σ H { s with heap:=h' }:=I.kept (t':=s.toks) λb o e=>hx b o (fN (dR e)) e;exact h aa _ σ H xs _ Q I1 (by simpa using rv) hw
def G0(to ti:TE)(t:BV):TG:=λv σ H Q=>to σ H λo H1=>ti σ H1 λi H2=>t o i v H2 λH3=>Q σ H3
theorem yo{o i:Expr}{to ti:TE}{t:BV}(ho:PE X o to)(hi:PE X i ti)(hs:GZ X t)
  (ha:∀v,assign (.Subscript o i pos) X.env v=(do
   let ov <- holding [v] (eval o X.env)
   let iv <- holding [v,ov] (eval i X.env)
   Bf pos
   holding [v,ov,iv] (setItem ov iv v)
   release [v,ov,iv] []):=by intro _;rfl):PG X (.Subscript o i pos) (G0 to ti t):=by
 intro aa s σ H v u Q I r h;rw[ha];refine aH (xP (bC (ho aa s σ H _ I h) λov s1 ⟨x,H1,I1,r1,q1⟩=> ?_));refine aH (xP (bC (hi aa s1 σ H1 _ I1 q1) λiv s2 ⟨y,H2,I2,r2,q2⟩=> ?_));refine aH (M1 (aH (xP (bC (hs aa s2 σ H2 x y v ov iv u _ I2 r1 r2 r q2) λ_ s3 ⟨H3,I3,q3⟩=> ?_))));exact wpAny_release ⟨σ,H3,I3,q3⟩
def mG(te:TE)(g:TG):TS:=λD σ H=>te σ H λx H1=>g x σ H1 D.nx
theorem vG{tg e:Expr}{te:TE}{g:TG}(he:PE X e te)(hg:PG X tg g)(hs:swapsWithSole [tg] e pos.line X.env=pure false:=by rfl)(hw:swappedStores [tg] e X.env=pure none:=by rfl)
  (h1:(sZ [tg] X.env).map (·.2)= [assign tg X.env]:=by rfl):PS X (.Assign [tg] e pos) (mG te g):=by
 intro aa s σ H D I h;refine wpAny_Assign_stores (bC (he aa s σ H _ I h) λv s1 ⟨x,H1,I1,r1,q1⟩=> ?_) hs hw;rw[h1];exact bC (hg aa s1 σ H1 x v _ I1 r1 q1) λ_ s2 q=>q
theorem G1{i:Nat}{x:Str}{e:Expr}{te:TE}{pos':Pos}(hN:X.N.Nodup)(hi:X.N[i]?=some x)(hx:Loc X.env.scope x)(he:PE X e te)(hs:sY e (some (.Name x pos')) pos.line X.env=pure false:=by rfl)(hf:X.fn x=true\/X.env.scope.names.lookup x=some .local:=by first | exact .inl rfl | exact .inr rfl | assumption):
  PS X (.Assign [.Name x pos'] e pos) (mG te (kB i)):=by
 intro aa s σ H D I h;refine wpAny_Assign_Name (bC (he aa s σ H _ I h) λv s1 ⟨y,H1,I1,r1,q1⟩=> ?_) hs;exact BP I1 hN hi hx r1 (λs2 I2=>⟨_,H1,I2,q1⟩) hf
end
structure It where
 go:Nat->Hp->Prop
 qd:Nat->Hp->V->Hp->Prop
 stop:Nat->Hp->Prop
def iL(X:Cx)(aa:List (Addr×Obj))(H:Hp)(b:Addr):Prop:=
 H b=none/\b≠X.env.locals/\b∉X.fs/\(b∈X.ex\/X.gZ.heap.objs.size<=b)/\(∀x c,X.env.cells.lookup x=some c->c≠b)/\∀p∈X.pn++aa,p.1≠b
theorem Inv.vH{X:Cx}{aa:List (Addr×Obj)}{σ:St}{H H':Hp}{s:Shared}{b:Addr}(I:Inv X aa σ H s)(hb:s.heap.objs.size<=b)(hn:H' b=none):iL X aa H' b:=by
 refine⟨hn,rb (df I.lt hb),I.BK hb, .inr (dC I.sz hb),λx c e z=> ?_,λp hp z=> ?_⟩
 ·obtain⟨v,q⟩:=I.cell x c e;exact absurd (df q.lt (by rw[z];exact hb)) (mx _)
 ·exact absurd (df (dR (I.pin p hp).1) (by rw[z];exact hb)) (mx _)
structure Turn(P:Program)(w:World)(K:ak)(tg:Expr)(J:It)(fp:List Addr)(it:Addr)(tn:Nat->Heap->Prop):Prop where
 mem:it∈fp
 obj:∀i h,tn i h->∀b∈fp,∃o,h.get? b=some o/\∀v,o.data≠ .cell v
 keep:∀i h h',tn i h->(∀b∈fp,∀o,h.get? b=some o->h'.get? b=some o)->tn i h'
 item:∀(X:Cx),X.prog=P->X.w=w->X.K=K->X.calm=true->∀(i:Nat) (aa:List (Addr×Obj)) (s:Shared) (σ:St) (H:Hp) (E:Value->Shared->Prop),Inv X aa σ H s->(∀b∈fp,iL X aa H b)->tn i s.heap->J.go i H->
  wpAny (model P w) X.A (pyNext (.ref it)) (λr s1=>∃u,r=some u/\
   wpAny (model P w) X.A (FK tg (.ref it) u) (λ_ s2=>∃x H',Inv X aa σ H' s2/\RelV x u/\J.qd i H x H'/\tn (i + 1) s2.heap/\∀b∈fp,H' b=none) E s1) E s
 done:∀(X:Cx),X.prog=P->X.w=w->X.K=K->X.calm=true->∀(i:Nat) (aa:List (Addr×Obj)) (s:Shared) (σ:St) (H:Hp) (E:Value->Shared->Prop),Inv X aa σ H s->(∀b∈fp,iL X aa H b)->tn i s.heap->J.stop i H->
  wpAny (model P w) X.A (pyNext (.ref it)) (λr s1=>r=none/\Inv X aa σ H s1) E s
 self:∀(A:Around) (i:Nat) (s:Shared) (Q:Value->Shared->Prop) (E:Value->Shared->Prop),tn i s.heap->Q (.ref it) s->wpAny (model P w) A (pyIter (.ref it)) Q E s
abbrev TI:=St->Hp->(It->Hp->Prop)->Prop
def G2(X:Cx)(aa:List (Addr×Obj))(σ:St)(tg:Expr)(R:It->Hp->Prop)(yp:Value)(s2:Shared):Prop:=
 ∃(it:Addr) (fp:List Addr) (tn:Nat->Heap->Prop) (J:It) (H':Hp),yp= .ref it/\Inv X aa σ H' s2/\Turn X.prog X.w X.K tg J fp it tn/\tn 0 s2.heap/\(∀b∈fp,iL X aa H' b)/\R J H'
def PI(X:Cx)(tg iter:Expr)(wi:TI):Prop:=
 ∀(aa:List (Addr×Obj)) (s:Shared) (σ:St) (H:Hp) (R:It->Hp->Prop),Inv X aa σ H s->wi σ H R->
  wpAny (model X.prog X.w) X.A (eval iter X.env) (λv s1=>wpAny (model X.prog X.w) X.A (pyIter v) (G2 X aa σ tg R) X.xe s1) X.xe s
theorem yq{M:Model}{A:Around}{E:Value->Shared->Prop}{s:Shared}{tg:Expr}{it:Addr}{u:Value}{o:Obj}{n:String}{vs:Array Value}{Q:Unit->Shared->Prop}(ho:s.heap.get? it=some o)(hc:o.cls= .type n)(hd:o.data= .fields vs)
  (hn: ["enumerate","zip","dict_itemiterator","dict_reverseitemiterator","odict_iterator","itertools.zip_longest","itertools.pairwise"].contains n=false) (hQ:Q () s):wpAny M A (FK tg (.ref it) u) Q E s:=by
 unfold FK;cases tg <;> first
  |exact b5 hQ
  |(cases u <;> first
    |exact b5 hQ
    |(refine aH (wpAny_load ho ?_);rw[hc,hd];show wpAny M A (if(["enumerate","zip","dict_itemiterator","dict_reverseitemiterator","odict_iterator","itertools.zip_longest","itertools.pairwise"].contains n && vs[0]? == some (rawInt _))=true then _ else _) Q E s;rw[if_neg (by intro h;rw[hn,Bool.false_and]at h;cases h)];exact b5 hQ))
def qe(K:ak)(a:Addr):It:=
 ⟨λi H=>∃xs x,bW K H a xs/\xs[i]?=some x,λi H x H'=>H'=H/\∀xs,bW K H a xs->xs[i]?=some x,λi H=>∃xs,bW K H a xs/\xs.length<=i⟩
def yr(K:ak)(a:Addr):It:=
 ⟨λi H=>∃xs x,cD K H a xs/\xs[i]?=some x,λi H x H'=>H'=H/\∀xs,cD K H a xs->xs[i]?=some x,λi H=>∃xs,cD K H a xs/\xs.length<=i⟩
def yt(lo:Int)(n:Nat):It:=⟨λi _=>i < n,λi H x H'=>H'=H/\x= .int (lo + i),λi _=>n<=i⟩
theorem OJ{P:Program}{w:World}{K:ak}{tg:Expr}(a it:Addr):Turn P w K tg (qe K a) [it] it (λi h=>h.IsListIter it a i) where
 mem:=by simp
 obj:=λi h st b hb=>by
  have e:b=it:=by simpa using hb
  subst e;obtain⟨o,e,c,d⟩:=st;exact⟨o,e,λv z=>by rw[d]at z;cases z⟩
 keep:=λi h h' st k=>st.at λo e=>k it (by simp) o e
 item:=by
  intro X hP hw hK hc i aa s σ H E I hf st hg;subst hP hw hK;obtain⟨xs,x,hq,hx⟩:=hg;obtain⟨ax,rv,p,hz⟩:=I.list hq;obtain⟨u,hu,ru⟩:=rv.get hx;obtain⟨f0,f1,f2,f3,f4,f5⟩:=hf it (by simp);refine wpAny_pyNext_list_item st p.isList (x:=u) (by simpa using hu) λh' iY sb=> ?_;have I1:Inv X aa σ H { s with heap:=h' }:=I.turned (t':=s.toks) (λb o hb e=>(sb.2 b hb).trans e) f0 f1 f3 f4 f5;obtain⟨o,e,c,d⟩:=id iY;exact⟨u,rfl,yq (s:= { s with heap:=h' }) e c d (by decide) ⟨x,H,I1,ru,⟨rfl,λys hy=>by rw[I.BU hy hq];exact hx⟩,iY,λb hb=>(hf b hb).1⟩⟩
 done:=by
  intro X hP hw hK hc i aa s σ H E I hf st hg;subst hP hw hK;obtain⟨xs,hq,hx⟩:=hg;obtain⟨ax,rv,p,hz⟩:=I.list hq;obtain⟨f0,f1,f2,f3,f4,f5⟩:=hf it (by simp);have hl:=rv.length;exact wpAny_pyNext_list_end (I.ok.hd hc) st p.isList (by simp;lia) λh' eb=>⟨rfl,I.turned (t':=s.toks) (λb o hb e=>eb b o hb e) f0 f1 f3 f4 f5⟩
 self:=λ_ _ _ _ _ st h=>wpAny_pyIter_listiter st h
theorem OK{P:Program}{w:World}{K:ak}{tg:Expr}(a it:Addr):Turn P w K tg (yr K a) [it] it (λi h=>h.IsTupleIter it a i) where
 mem:=by simp
 obj:=λi h st b hb=>by
  have e:b=it:=by simpa using hb
  subst e;obtain⟨o,e,c,d⟩:=st;exact⟨o,e,λv z=>by rw[d]at z;cases z⟩
 keep:=λi h h' st k=>st.at λo e=>k it (by simp) o e
 item:=by
  intro X hP hw hK hc i aa s σ H E I hf st hg;subst hP hw hK;obtain⟨xs,x,hq,hx⟩:=hg;obtain⟨ax,rv,p,hz⟩:=I.tuple hq;obtain⟨u,hu,ru⟩:=rv.get hx;obtain⟨f0,f1,f2,f3,f4,f5⟩:=hf it (by simp);refine wpAny_pyNext_tuple_item st (show s.heap.IsTuple a ax.toArray from p) (x:=u) (by simpa using hu) λh' iY sb=> ?_;have I1:Inv X aa σ H { s with heap:=h' }:=I.turned (t':=s.toks) (λb o hb e=>(sb.2 b hb).trans e) f0 f1 f3 f4 f5;obtain⟨o,e,c,d⟩:=id iY;exact⟨u,rfl,yq (s:= { s with heap:=h' }) e c d (by decide) ⟨x,H,I1,ru,⟨rfl,λys hy=>by rw[I.GV hy hq];exact hx⟩,iY,λb hb=>(hf b hb).1⟩⟩
 done:=by
  intro X hP hw hK hc i aa s σ H E I hf st hg;subst hP hw hK;obtain⟨xs,hq,hx⟩:=hg;obtain⟨ax,rv,p,hz⟩:=I.tuple hq;obtain⟨f0,f1,f2,f3,f4,f5⟩:=hf it (by simp);have hl:=rv.length;exact wpAny_pyNext_tuple_end (I.ok.hd hc) st (show s.heap.IsTuple a ax.toArray from p) (by simp;lia) λh' eb=>⟨rfl,I.turned (t':=s.toks) (λb o hb e=>eb b o hb e) f0 f1 f3 f4 f5⟩
 self:=λ_ _ _ _ _ st h=>wpAny_pyIter_tupleiter st h
theorem OL{P:Program}{w:World}{K:ak}{tg:Expr}(it:Addr)(lo:Int)(n:Nat):Turn P w K tg (yt lo n) [it] it (λi h=>IsRangeIter h it (lo + (i:Nat) * 1) ((n:Int) - (i:Nat)) 1) where
 mem:=by simp
 obj:=λi h st b hb=>by
  have e:b=it:=by simpa using hb
  subst e;exact⟨_,st,λv z=>by
   have z':Data.fields _=Data.cell v:=z;cases z'⟩
 keep:=λi h h' st k=>k it (by simp) _ st
 item:=by
  intro X hP hw hK hc i aa s σ H E I hf st hg;subst hP hw hK;obtain⟨f0,f1,f2,f3,f4,f5⟩:=hf it (by simp);have W:=Walks.range (prog:=X.prog) (w:=X.w) (I.ok.hd hc) it lo 1 n;refine W.item i s _ _ hg st λv h' tk hv iY kk=> ?_;obtain⟨t,rfl⟩:=hv;have I1:Inv X aa σ H { s with heap:=h',toks:=tk }:=I.turned (λb o hb e=>kk b o (by simpa using hb) e) f0 f1 f3 f4 f5;refine⟨_,rfl,yq (s:= { s with heap:=h',toks:=tk }) (n:="range_iterator") iY rfl rfl (by decide) ⟨.int (lo + i),H,I1,⟨t, ?_⟩,⟨rfl,rfl⟩,iY,λb hb=>(hf b hb).1⟩⟩;rw[Int.mul_one]
 done:=by
  intro X hP hw hK hc i aa s σ H E I hf st hg;subst hP hw hK;obtain⟨f0,f1,f2,f3,f4,f5⟩:=hf it (by simp);exact wpAny_pyNext_range_end (I.ok.hd hc) st (by have:n<=i:=hg;lia) λh' eb=>⟨rfl,I.turned (t':=s.toks) (λb o hb e=>eb b o hb e) f0 f1 f3 f4 f5⟩
 self:=λ_ _ _ _ _ st h=>wpAny_pyIter_rangeiter st h
section
variable {X:Cx}{tg:Expr}
theorem OM{aa:List (Addr×Obj)}{σ:St}{H:Hp}{s:Shared}{R:It->Hp->Prop}{E:Value->Shared->Prop}{lo hi:Int}{t u v:Tok}{tk:Nat}(I:Inv X aa σ H s)(h1: -(2 ^ 62)<=lo)(h2:lo < 2 ^ 62)(h3: -(2 ^ 62)<=hi)(h4:hi < 2 ^ 62)
  (q:R (yt lo (hi - lo).toNat) H):wpAny (model X.prog X.w) X.A (pyIter (.ref s.heap.objs.size)) (G2 X aa σ tg R) E { s with heap:=s.heap.push { cls:= .type "range",data:= .fields #[.int lo t, .int hi u, .int 1 v] },toks:=tk }:=by
 refine wpAny_pyIter_range (IsRange.new ..) (small_one h1 h2 h3 h4) ?_;have I1:Inv X aa σ H { s with heap:=s.heap.push { cls:= .type "range",data:= .fields #[.int lo t, .int hi u, .int 1 v] },toks:=tk }:=I.kept λb o e=>dN _ e;refine⟨(s.heap.push { cls:= .type "range",data:= .fields #[.int lo t, .int hi u, .int 1 v] }).objs.size, [(s.heap.push { cls:= .type "range",data:= .fields #[.int lo t, .int hi u, .int 1 v] }).objs.size],_,_,H,rfl,
  I1.kept (t':=tk) λb o e=>dN _ e,OL _ lo (hi - lo).toNat, ?_,λb hb=> ?_,q⟩
 ·have e1:lo + ((0:Nat):Int) * 1=lo:=by simp
  have e2:(((hi - lo).toNat:Nat):Int) - ((0:Nat):Int)=Builtin.Range.rangeSize lo hi 1:=by rw[rangeSize_one];split <;> lia
  show IsRangeIter _ _ (lo + ((0:Nat):Int) * 1) ((((hi - lo).toNat:Nat):Int) - ((0:Nat):Int)) 1;rw[e1,e2];exact iH _ rfl
 ·have e:b=(s.heap.push { cls:= .type "range",data:= .fields #[.int lo t, .int hi u, .int 1 v] }).objs.size:=by simpa using hb
  subst e;exact I1.vH (bT _) (I1.aU.fresh (bT _))
def B1(ta:TA):TI:=λσ H R=>ta σ H λvs H1=>∃j:Int,vs= [.int j]/\ -(2 ^ 62)<=j/\j < 2 ^ 62/\R (yt 0 j.toNat) H1
theorem vI{a:Expr}{ta:TA}{p pos:Pos}(hg:Gl X "range")(hm:X.mg "range"=none)(ha:PA X [a] ta)(hs:dB [a] X.env= [(false,eval a X.env)]:=by rfl):PI X tg (.Call (.Name "range" p) [a] [] pos) (B1 ta):=by
 intro aa s σ H R I h;refine Call_ (tR I hg hm boot_range (FX (bC (ha pos aa s σ H _ I h) λus s1 ⟨vs,H1,I1,r1,q1⟩=> ?_) hs rfl));obtain⟨j,e,q1,q2,q⟩:=q1;subst e;cases r1 with
 |cons r rr=>
  cases rr;obtain⟨t,rfl⟩:=r;exact call_range_1 (OM I1 (by lia) (by lia) q1 q2 (by simpa using q))
def vJ(wi:TI)(g:TG)(tb:TS):TS:=λD σ H=>wi σ H λJ H1=>∃W:Nat->Nat->St->Hp->Prop,(∃m,W 0 m σ H1)/\∀i m σ H,W i m σ H->
 (J.stop i H/\D.nx σ H)\/(J.go i H/\∃N:St->Hp->Prop,(∀aM H',N aM H'->∃m',m' < m/\W (i + 1) m' aM H')/\∀x H',J.qd i H x H'->g x σ H' λfG H2=>tb { D with nx:=N,ct:=N,bk:=D.nx } fG H2)
noncomputable def vK (fp:List Addr) (h:Heap):List (Addr×Obj):=fp.filterMap λb=>(h.get? b).map λo=>(b,o)
theorem yu{fp:List Addr}{h:Heap}{b:Addr}{o:Obj}(hb:b∈fp)(e:h.get? b=some o):(b,o)∈vK fp h:=YU.mpr ⟨b,hb,by rw[e];rfl⟩
theorem ON{fp:List Addr}{h:Heap}{p:Addr×Obj}(hp:p∈vK fp h):p.1∈fp/\h.get? p.1=some p.2:=by
 obtain⟨b,hb,e⟩:=YU.mp hp;cases q:h.get? b with
 |none=>rw[q]at e;cases e
 |some o=>
  rw[q]at e;have e':(b,o)=p:=jQ e;subst e';exact⟨hb,q⟩
theorem Inv.pinned{aa:List (Addr×Obj)}{σ:St}{H:Hp}{s:Shared}{fp:List Addr}(I:Inv X aa σ H s)(hf:∀b∈fp,iL X aa H b)(ho:∀b∈fp,∃o,s.heap.get? b=some o/\∀v,o.data≠ .cell v):Inv X (aa++vK fp s.heap) σ H s:=
 I.vE λp hp=>(lJ.mp hp).elim (λz=>I.pin p (j7 _ z)) λz=>by
  obtain⟨hb,e⟩:=ON z;obtain⟨f0,f1,f2,_⟩:=hf p.1 hb;obtain⟨o,e',d⟩:=ho p.1 hb;rw[e]at e';cases e';exact⟨e,f0,f1,f2,d⟩
theorem Inv.vL{aa pl:List (Addr×Obj)}{σ:St}{H:Hp}{s:Shared}(I:Inv X (aa++pl) σ H s):Inv X aa σ H s:=I.vE λp hp=>I.pin p (j7 _ (Bo _ hp))
theorem ke{iter:Expr}{body:List Stmt}{wi:TI}{g:TG}{tb:TS}{pos:Pos}(hp:ky (model X.prog X.w) X.A X.env X.xe)(hc:X.calm=true)(hi:PI X tg iter wi)(hg:PG X tg g)(hb:kb X body tb)
  (hs:∀x,M3 iter X.env x=pure x:=by intro _;rfl):PS X (.For tg iter body [] pos) (vJ wi g tb):=by
 intro aa s σ H D I h;refine wpAny_For (bC (hi aa s σ H _ I h) λv s1 h1=>bC h1 λyp s2 h2=> ?_) hs;obtain⟨it,fp,tn,J,H2,e,I2,T,d5,f2,W,⟨m0,w0⟩,turn⟩:=h2;subst e
 -- vM aex true of mH Zr objects through mH loop
 have rE:∀{H':Hp},(∀b∈fp,H' b=none)->∀b∈fp,iL X aa H' b:=λhn b hb=>⟨hn b hb,(f2 b hb).2⟩
 refine codeAny_forLoop_any (λn s'=>∃i aM H',Inv X aa aM H' s'/\tn i s'.heap/\(∀b∈fp,H' b=none)/\W i n aM H') ?_ m0 ⟨0,σ,H2,I2,d5,λb hb=>(f2 b hb).1,w0⟩;rintro n s3 ⟨i,dq,H3,I3,iZ,G3,w3⟩;rcases turn i n dq H3 w3 with⟨stop,qn⟩ | ⟨go,N,hN,step⟩
 ·refine Bh hp (bC (T.done X rfl rfl rfl hc i aa s3 dq H3 X.xe I3 (rE G3) iZ stop) λr s4 ⟨hr,I4⟩=> ?_);subst hr;exact M0 ⟨dq,H3,I4,qn⟩
 ·refine Bh hp (bC (T.item X rfl rfl rfl hc i aa s3 dq H3 X.xe I3 (rE G3) iZ go) λr s4 ⟨u,hr,h4⟩=> ?_);subst hr;refine Bh hp (bC h4 λ_ s5 ⟨x,H5,I5,r5,y5,kZ,B2⟩=> ?_);have OO:=I5.pinned (rE B2) (T.obj _ _ kZ);refine Bh hp (bC (hg _ s5 dq H5 x u _ OO r5 (step x H5 y5)) λ_ s6 ⟨mI,H6,I6,q6⟩=> ?_);refine Bh hp (bC (hb _ s6 mI H6 _ I6 q6) λf s7 q7=> ?_);have again:∀{kC:St} {H7:Hp},Inv X (aa++vK fp s5.heap) kC H7 s7->N kC H7->∃m,m < n/\∃i aM H',Inv X aa aM H' s7/\tn i s7.heap/\(∀b∈fp,H' b=none)/\W i m aM H':=λ{kC H7} I7 n7=>by
   obtain⟨m',hm,w7⟩:=hN kC H7 n7;refine⟨m',hm,i + 1,kC,H7,I7.vL,T.keep _ _ _ kZ λb hb o e=>(I7.pin (b,o) (j7 _ (j7 _ (yu hb e)))).1,λb hb=> ?_,w7⟩;obtain⟨o,e,d⟩:=T.obj _ _ kZ b hb;exact(I7.pin (b,o) (j7 _ (j7 _ (yu hb e)))).2.1
  cases f with
  |next=>obtain⟨kC,H7,I7,n7⟩:=q7;exact again I7 n7
  |cont=>obtain⟨kC,H7,I7,n7⟩:=q7;exact again I7 n7
  |brk=>obtain⟨kC,H7,I7,q7⟩:=q7;exact⟨kC,H7,I7.vL,q7⟩
  |ret v=>obtain⟨x7,kC,H7,I7,r7,q7⟩:=q7;exact⟨x7,kC,H7,I7.vL,r7,q7⟩
end
abbrev R2:=V->V->Hp->VK->Prop
def dg(X:Cx)(f:Value->Value->Sem Value)(r:R2):Prop:=
 ∀(aa:List (Addr×Obj)) (s:Shared) (σ:St) (H:Hp) (x y:V) (v u:Value) (Q:VK),Inv X aa σ H s->RelV x v->RelV y u->r x y H Q->
  wpAny (model X.prog X.w) X.A (f v u) (EP X aa σ Q) X.xe s
def i0(X:Cx)(f:Value)(r:List V->Hp->VK->Prop):Prop:=
 ∀(aa:List (Addr×Obj)) (s:Shared) (σ:St) (H:Hp) (xs:List V) (us:List Value) (Q:VK),Inv X aa σ H s->bA xs us->r xs H Q->
  wpAny (model X.prog X.w) X.A (call f us) (EP X aa σ Q) X.xe s
def OP(X:Cx)(r:V->Hp->(Bool->Hp->Prop)->Prop):Prop:=
 ∀(aa:List (Addr×Obj)) (s:Shared) (σ:St) (H:Hp) (x:V) (v:Value) (Q:Bool->Hp->Prop),Inv X aa σ H s->RelV x v->r x H Q->
  wpAny (model X.prog X.w) X.A (truthy v) (TP X aa σ Q) X.xe s
def jL(r:R2)(ta tb:TE):TE:=λσ H Q=>ta σ H λx H1=>tb σ H1 λy H2=>r x y H2 Q
def rI(C:Int->Int->Prop)(g:Int->Int->V):R2:=λx y H Q=>∃i j,x= .int i/\y= .int j/\C i j/\Q (g i j) H
def oW(g:Int->Int->V):R2:=λx y H Q=>∃i j,x= .int i/\y= .int j/\Q (g i j) H
section
variable {X:Cx}{a b c:Expr}{ta tb tc:TE}{pos:Pos}
theorem B3(ha:PE X a ta)(hb:PE X b tb){aa:List (Addr×Obj)}{s:Shared}{σ:St}{H:Hp}{R:V->V->Hp->Prop}(I:Inv X aa σ H s)
  (h:ta σ H λx H1=>tb σ H1 λy H2=>R x y H2) {Q:Value->Shared->Prop} {f:Value->Value->Sem Value}
  (hf:∀v u s2 x y H2,Inv X aa σ H2 s2->RelV x v->RelV y u->R x y H2->wpAny (model X.prog X.w) X.A (f v u) Q X.xe s2):
  wpAny (model X.prog X.w) X.A (eval a X.env) (λv dh=>wpAny (model X.prog X.w) X.A (eval b X.env) (λu yw=>wpAny (model X.prog X.w) X.A (f v u) Q X.xe yw) X.xe dh) X.xe s:=by
 refine bC (ha aa s σ H _ I h) λv s1 ⟨x,H1,I1,r1,q1⟩=> ?_;refine bC (hb aa s1 σ H1 _ I1 q1) λu s2 ⟨y,H2,I2,r2,q2⟩=> ?_;exact hf v u s2 x y H2 I2 r1 r2 q2
theorem d6{op:Operator}{r:R2}(ho:dg X (lF op) r)(ha:PE X a ta)(hb:PE X b tb):PE X (.BinOp a op b pos) (jL r ta tb):=by
 intro aa s σ H Q I h;exact wpAny_BinOp (B3 ha hb I h λv u s2 x y H2 I2 rx ry q=>ho aa s2 σ H2 x y v u Q I2 rx ry q)
theorem yx{f:Value->Value->Sem Value}{C:Int->Int->Prop}{g:Int->Int->Int}
  (rule:∀(i j:Int) (t u:Tok) (s:Shared) (Q:Value->Shared->Prop) (E:Value->Shared->Prop),C i j->Q (.int (g i j) s.toks) { s with toks:=s.toks + 1 }->wpAny (model X.prog X.w) X.A (f (.int i t) (.int j u)) Q E s):
  dg X f (rI C λi j=> .int (g i j)):=by
 intro aa s σ H x y v u Q I rx ry h;obtain⟨i,j,rfl,rfl,hc,q⟩:=h;obtain⟨t,rfl⟩:=rx;obtain⟨t',rfl⟩:=ry;exact rule i j t t' s _ _ hc ⟨.int (g i j),H,I.tok _,⟨_,rfl⟩,q⟩
theorem G4{f:Value->Value->Sem Value}{g:Int->Int->Int}
  (rule:∀(i j:Int) (t u:Tok) (s:Shared) (Q:Value->Shared->Prop) (E:Value->Shared->Prop),Q (.int (g i j) s.toks) { s with toks:=s.toks + 1 }->wpAny (model X.prog X.w) X.A (f (.int i t) (.int j u)) Q E s):
  dg X f (oW λi j=> .int (g i j)):=by
 intro aa s σ H x y v u Q I rx ry h;obtain⟨i,j,rfl,rfl,q⟩:=h;obtain⟨t,rfl⟩:=rx;obtain⟨t',rfl⟩:=ry;exact rule i j t t' s _ _ ⟨.int (g i j),H,I.tok _,⟨_,rfl⟩,q⟩
theorem B4{f:Value->Value->Sem Value}{g:Int->Int->Bool}
  (rule:∀(i j:Int) (t u:Tok) (s:Shared) (Q:Value->Shared->Prop) (E:Value->Shared->Prop),Q (.bool (g i j)) s->wpAny (model X.prog X.w) X.A (f (.int i t) (.int j u)) Q E s):
  dg X f (oW λi j=> .bl (g i j)):=by
 intro aa s σ H x y v u Q I rx ry h;obtain⟨i,j,rfl,rfl,q⟩:=h;obtain⟨t,rfl⟩:=rx;obtain⟨t',rfl⟩:=ry;exact rule i j t t' s _ _ ⟨.bl (g i j),H,I,rfl,q⟩
def vN(i j:Int):Prop:=0<=j/\j<=1000000/\i.natAbs < 2 ^ 64
def rF(i j:Int):Prop:=(-(2 ^ 64) < i/\i < 2 ^ 64)\/(-(2 ^ 64) < j/\j < 2 ^ 64)
theorem rF.ok{i j:Int}(h:rF i j):IntMulOk i j:=by
 rcases h with⟨h1,h2⟩ | ⟨h1,h2⟩
 ·exact .of_left (intBits_le_64 h1 h2)
 ·exact .of_right (intBits_le_64 h1 h2)
theorem OQ:dg X (lF .Add) (oW λi j=> .int (i + j)):=G4 λ_ _ _ _ _ _ _ q=>add_int q
theorem OR:dg X (lF .Sub) (oW λi j=> .int (i - j)):=G4 λ_ _ _ _ _ _ _ q=>sub_int q
theorem qf:dg X (lF .Mult) (rI rF λi j=> .int (i * j)):=yx λ_ _ _ _ _ _ _ hc q=>mul_int q hc.ok
theorem yy:dg X (lF .Mod) (rI (λ_ j=>0 < j) λi j=> .int (i % j)):=yx λi j _ _ _ _ _ hc q=>by
 have h1:(0:Int) < j:=hc;exact mod_int' (by lia) (by rw[Int.fmod_eq_emod_of_nonneg i (by lia)];exact q)
theorem OS:dg X (lF .Pow) (rI vN λi j=> .int (i ^ j.toNat)):=yx λ_ _ _ _ _ _ _ hc q=>pow_int_small hc.1 hc.2.1 hc.2.2 q
theorem B5{aa:List (Addr×Obj)}{σ:St}{H:Hp}{s:Shared}{Q:VK}{k k':Bool}(I:Inv X aa σ H s)(q:Q (.bl k) H)(e:k=k'):EP X aa σ Q (.bool k') s:=by
 subst e;exact⟨.bl k,H,I,rfl,q⟩
theorem B6:dg X (iB .Lt) (oW λi j=> .bl (decide (i < j))):=B4 λ_ _ _ _ _ _ _ q=>lt_int q
theorem yz:dg X (iB .Gt) (oW λi j=> .bl (decide (j < i))):=B4 λ_ _ _ _ _ _ _ q=>gt_int q
theorem OT:dg X (iB .GtE) (oW λi j=> .bl (decide (j<=i))):=B4 λ_ _ _ _ _ _ _ q=>ge_int q
theorem OU:dg X (iB .In) (λx y H Q=>∃i j,x= .str i/\y= .str j/\Q (.bl (!(Nl j i 0 j.length 1).isEmpty)) H):=by
 intro aa s σ H x y v u Q I rx ry h;obtain⟨i,j,rfl,rfl,q⟩:=h;obtain⟨t,rfl⟩:=rx;obtain⟨t',rfl⟩:=ry;exact in_str (B5 I q rfl)
theorem OV:dg X (iB .Is) (λx y H Q=>y= .az/\Q (.bl (decide (x= .az))) H):=by
 intro aa s σ H x y v u Q I rx ry h;obtain⟨rfl,q⟩:=h;cases ry;refine is_none_gen (B5 I q ?_);cases x <;> first
  |(cases rx;rfl)
  |(obtain⟨t,rfl⟩:=rx;rfl)
theorem OW:dg X (iB .IsNot) (λx y H Q=>y= .az/\Q (.bl (!decide (x= .az))) H):=by
 intro aa s σ H x y v u Q I rx ry h;obtain⟨rfl,q⟩:=h;cases ry;refine isnot_none_gen (B5 I q ?_);cases x <;> first
  |(cases rx;rfl)
  |(obtain⟨t,rfl⟩:=rx;rfl)
theorem G5(b:Expr){op:CmpOp}(h:op≠ .In:=by decide)(h2:op≠ .NotIn:=by decide):xQ op b=false:=by
 have e1:(op == CmpOp.In)=false:=by cases op <;> first | rfl | exact absurd rfl h
 have e2:(op == CmpOp.NotIn)=false:=by cases op <;> first | rfl | exact absurd rfl h2
 cases b <;> simp[xQ,e1,e2]
theorem OX{op:CmpOp}{r:R2}(ho:dg X (iB op) r)(ha:PE X a ta)(hb:PE X b tb)(hm:xQ op b=false):PE X (.Compare a [op] [b] pos) (jL r ta tb):=by
 intro aa s σ H Q I h;exact wpAny_Compare1 (B3 ha hb I h λv u s2 x y H2 I2 rx ry q=>ho aa s2 σ H2 x y v u Q I2 rx ry q) hm
def yA(t:TE):TT:=λσ H Q=>t σ H λx H'=>∃k,x= .bl k/\Q k H'
theorem B7{op:CmpOp}{r:R2}(ho:dg X (iB op) r)(ha:PE X a ta)(hb:PE X b tb)(hm:xQ op b=false):PT X (.Compare a [op] [b] pos) (yA (jL r ta tb)):=by
 intro aa s σ H Q I h;refine wpAny_isTrue_Compare1 (bC (ha aa s σ H _ I h) λv s1 ⟨x,H1,I1,r1,q1⟩=>bC (hb aa s1 σ H1 _ I1 q1) λu s2 ⟨y,H2,I2,r2,q2⟩=>
  bC (ho aa s2 σ H2 x y v u _ I2 r1 r2 q2) λc s3 ⟨z,H3,I3,r3,k,e,q3⟩=> ?_) hm
 subst e;cases r3;exact Bg ⟨H3,I3,q3⟩
def B8(K:ak)(x:V)(H:Hp)(k:Bool):Prop:=
 match x with
 |.az=>k=false
 |.bl b=>k=b
 |.int i=>k=(i != 0)
 |.str y=>y.length<=aN/\k=((y.length:Int) != 0)
 |.rl y=>y.size<=aN/\k=((y.size:Int) != 0)
 |.ref p=>(∃xs,bW K H p xs/\k= !xs.isEmpty)\/(∃xs,cD K H p xs/\k= !xs.isEmpty)\/∃aw,H p=some (.dK aw)/\k= !aw.isEmpty
 |_=>False
theorem OY{κ:Type}{aw:List (κ×V)}{vs:List (κ×Value)}(r:KV aw vs):(!vs.isEmpty)= !aw.isEmpty:=by
 cases r <;> rfl
theorem G6{xs:List V}{ax:List Value}(r:bA xs ax):(!ax.toArray.isEmpty)= !xs.isEmpty:=by
 cases r <;> simp
theorem rG:(aN:Nat) < 2 ^ 63:=by rw[Bi];decide
theorem OZ:OP X (λx H Q=>∃k,B8 X.K x H k/\Q k H):=by
 intro aa s σ H x v Q I rx h;obtain⟨k,e,q⟩:=h;have hl:=rG;have hs:aN=16777216:=Bi;cases x with
 |az=>
  cases rx;have e':k=false:=e;subst e';exact truthy_none ⟨H,I,q⟩
 |bl b=>
  cases rx;have e':k=b:=e;subst e';exact Bg ⟨H,I,q⟩
 |int i=>
  obtain⟨t,rfl⟩:=rx;have e':k=(i != 0):=e;subst e';exact PySem.P.truthy_int ⟨H,I,q⟩
 |str y=>
  obtain⟨t,rfl⟩:=rx;obtain⟨hy,e'⟩:y.length<=aN/\k=((y.length:Int) != 0):=e;subst e';exact PySem.P.truthy_str (by lia) ⟨H,I.tok _,q⟩
 |rl y=>
  obtain⟨t,rfl⟩:=rx;obtain⟨hy,e'⟩:y.size<=aN/\k=((y.size:Int) != 0):=e;subst e';exact W.truthy_bytes (by lia) ⟨H,I.tok _,q⟩
 |ref p=>
  cases rx;have e':(∃xs,bW X.K H p xs/\k= !xs.isEmpty)\/(∃xs,cD X.K H p xs/\k= !xs.isEmpty)\/∃aw,H p=some (.dK aw)/\k= !aw.isEmpty:=e;rcases e' with⟨xs,hx,e'⟩ | ⟨xs,hx,e'⟩ | ⟨aw,hx,e'⟩
  ·subst e';obtain⟨ax,r,pl,hz⟩:=I.list hx;have dM:=r.length;exact wpAny_truthy_list pl.isList (by simp only[gI];lia) ⟨H,I.tok _,by rw[G6 r];exact q⟩
  ·subst e';obtain⟨ax,r,pl,hz⟩:=I.tuple hx;have dM:=r.length;exact truthy_tuple pl (by simp only[gI];lia) ⟨H,I.tok _,by rw[G6 r];exact q⟩
  ·subst e';obtain⟨hz,hS,vs,r,m⟩:aw.length<=aN/\(p == lD)=false/\∃vs,KV aw vs/\s.heap.DictOf (iK X.prog X.w) p vs:=I.aU p _ hx;have dM:aw.length=vs.length:=Bm r;exact wpAny_truthy_dict hS m (by lia) ⟨H,I.tok _,by rw[OY r];exact q⟩
 |_=>exact(show False from e).elim
theorem O0(ha:PE X a ta)(he:∀whole,isTrue a X.env whole=(do let v <- whole;Bf a.pos;holding [v] (truthy v))):
  PT X a (λσ H Q=>ta σ H λx H'=>∃k,B8 X.K x H' k/\Q k H'):=by
 intro aa s σ H Q I h;exact isTrue_plain (bC (ha aa s σ H _ I h) λv s1 ⟨x,H1,I1,r1,q1⟩=>OZ aa s1 σ H1 x v Q I1 r1 q1) (he _)
theorem O1:dg X (lF .Add) (λx y H Q=>∃i j,x= .str i/\y= .str j/\i.length + j.length<=aN/\Q (.str (i++j)) H):=by
 intro aa s σ H x y v u Q I rx ry h;obtain⟨i,j,rfl,rfl,hz,q⟩:=h;obtain⟨t,rfl⟩:=rx;obtain⟨t',rfl⟩:=ry;exact add_str (λt' tk=>⟨.str (i++j),H,I.tok _,⟨_,rfl⟩,q⟩) hz
theorem vals1{x:V}{us:List Value}(r:bA [x] us):∃u,us= [u]/\RelV x u:=by
 cases r with
 |cons r1 r2=>cases r2;exact⟨_,rfl,r1⟩
theorem vals2{x y:V}{us:List Value}(r:bA [x,y] us):∃u w',us= [u,w']/\RelV x u/\RelV y w':=by
 cases r with
 |cons r1 r2=>
  cases r2 with
  |cons r3 r4=>cases r4;exact⟨_,_,rfl,r1,r3⟩
theorem O2:i0 X (.builtin "abs") (λxs H Q=>∃i,xs= [.int i]/\Q (.int (if i < 0 then -i else i)) H):=by
 intro aa s σ H xs us Q I r h;obtain⟨i,rfl,q⟩:=h;obtain⟨u,rfl,t,rfl⟩:=vals1 r;exact call_abs_int λu tk=>⟨.int (if i < 0 then -i else i),H,I.tok _,⟨_,rfl⟩,q⟩
theorem O3(hc:X.calm=true):i0 X (.builtin "max") (λxs H Q=>∃i j,xs= [.int i, .int j]/\Q (.int (if j > i then j else i)) H):=by
 intro aa s σ H xs us Q I r h;obtain⟨i,j,rfl,q⟩:=h;obtain⟨u,w',rfl,⟨t,rfl⟩,⟨t',rfl⟩⟩:=vals2 r;refine max_two_ints (I.ok.hd hc) λh' tk k=>⟨_,H,I.kept k, ?_,q⟩
 by_cases hj:j > i
 ·rw[if_pos hj,if_pos hj];exact⟨_,rfl⟩
 ·rw[if_neg hj,if_neg hj];exact⟨_,rfl⟩
theorem O4:i0 X (.type "int") (λxs H Q=>(∃i,xs= [.int i]/\Q (.int i) H)\/∃k,xs= [.bl k]/\Q (.int (if k then 1 else 0)) H):=by
 intro aa s σ H xs us Q I r h;rcases h with⟨i,rfl,q⟩ | ⟨k,rfl,q⟩
 ·obtain⟨u,rfl,t,rfl⟩:=vals1 r;exact call_int_int ⟨.int i,H,I,⟨_,rfl⟩,q⟩
 ·obtain⟨u,rfl,r1⟩:=vals1 r;cases r1;exact call_int_bool ⟨.int (if k then 1 else 0),H,I.tok _,⟨_,rfl⟩,q⟩
end
structure tT(h:Heap)(x dx C:Addr)(mA:Str->Option Value):Prop where
 obj:h.get? x=some (tw C dx)
 ns:h.Ns1 dx mA
 ne:dx≠x
theorem O5{h:Heap}{dx:Addr}{mA:Str->Option Value}(n:h.Ns1 dx mA):∃od,h.get? dx=some od/\∀name,W.lookIn name od=some (mA name):=by
 obtain⟨o,es,ep,ho,hd,hk,_,hm⟩:=n;refine⟨o,ho,λname=> ?_⟩;have e:=hm name;unfold nsFind findBy at e;rw[<- Array.find?_toList]at e;unfold W.lookIn;rw[hd];dsimp only
 split
 ·rename_i y q
  rw[q]at e;exact congrArg some e
 ·rename_i q
  rw[q]at e;have a:es.toList.any (·.refKey)=false:=by
   rw[List.any_eq_false];intro y hy;obtain⟨z,t,rH⟩:=hk y (Array.mem_toList_iff.mp hy);simp[DictEntry.refKey,rH]
  have a':¬ es.toList.any (·.refKey)=true:=by rw[a];exact bh
  rw[if_neg a'];exact congrArg some e
theorem tT.look{h:Heap}{x dx C:Addr}{mA:Str->Option Value}(I:tT h x dx C mA):∃od,W.InstAt h x (tw C dx) C (some od)/\∀name,W.lookIn name od=some (mA name):=
 let ⟨od,ho,hl⟩:=O5 I.ns
 ⟨od,⟨I.obj,rfl,rfl,ho⟩,hl⟩
section
variable {prog:Program}{w:World}{A:Around}{E:Value->Shared->Prop}{s:Shared}{K:ak}{x dx C f:Addr}{mA:Str->Option Value}{name:Str}{v:Value}
theorem get_map{expr:Bool}{Q:Value->Shared->Prop}(X:K.In s.heap)(I:tT s.heap x dx C mA)(hg:FY K C name=true)(hh:FZ K C=true)
  (ha:oB K (.ref C) name=some none) (hv:mA name=some v) (i3:W.handedIn v=true) (h:Q v { s with toks:=s.toks + 1 }):
  wpAny (model prog w) A (getAttr (.ref x) name expr) Q E s:=by
 obtain⟨od,J,hl⟩:=I.look;exact W.get_value X J (W.plainGet_of hg).1 (W.findObj_own hh ha rfl (by rw[hl,hv])) i3 h
theorem O6{ns:List Str}{Q:Unit->Shared->Prop}(X:K.In s.heap)(I:tT s.heap x dx C mA)
  (hs:oB K (.ref C) "__setattr__"=some (some (.builtin "object.__setattr__"))) (hp:Nm K C=true) (ht:W.takerIn K C name=some none) (hh:FZ K C=true)
  (hw:Nh mA ns) (hsz:ns.length<=aN)
  (h:∀h',tT h' x dx C (λy=>if y=name then some v else mA y)->tG dx s.heap h'->Q () { s with heap:=h',toks:=s.toks + 2 }):
  wpAny (model prog w) A (setAttr (.ref x) name v) Q E s:=by
 obtain⟨od,J,hl⟩:=I.look;refine W.set_plain X J hs (W.osa_open (s:= { s with toks:=s.toks + 1 }) (r:=none) X J hp ht λb=> ?_);obtain⟨cd,hc,oQ⟩:=W.any_some hh;have hx:s.heap.get? x=some ⟨.ref C,some dx, .plain,#[]⟩:=I.obj;refine aH (b5 (aH (aH (wpAny_loadPart hx (aH (W.Looks.here (s:= { s with toks:=s.toks + 1 }) (W.looks_clsIn X hc) ?_))))));rw[oQ];refine b5 (a:=some dx) (aH (b5 (aH ?_)));refine wpAny_nsSet1 (s:= { s with toks:=s.toks + 1 }) I.ns λh' yB kD=> ?_;obtain⟨oD,Zs,Zt,O7,O8,O9⟩:=yB.count (Nh.cons name v hw);refine aH (wpAny_lookBehind O7 (by rw[O8];exact pastItsLine_dict (dC O9 (by rw[eU];lia))) ?_);exact b5 (h _ ⟨(kD.2 _ (dS I.ne)).trans I.obj,yB,I.ne⟩ kD)
theorem Pa{R:Result->Shared->Prop}{vs:List Value}{kw:List (Str×Value)}(X:K.In s.heap)(hm:W.makesIn K C=true)
  (hi:oB K (.ref C) "__init__"=some (some (.ref f))) (hf:W.typeIn K (.ref f)=some (.type "function"))
  (h:pZ (model prog w) (A.under (.builtin "type.__call__" ⟨.ref C::vs,kw⟩)) (.call (.ref f) ⟨.ref (s.heap.objs.size + 1)::vs,kw⟩) (W.InitBack (s.heap.objs.size + 1) R)
   { s with heap:=(s.heap.push rf).push (tw C s.heap.objs.size) }):
  pZ (model prog w) A (.call (.ref C) ⟨vs,kw⟩) R s:=by
 obtain⟨hh,g,d,t,os⟩:=s;exact W.make_core (W.makes_of X hm) (W.looks_findIn X hi) (λself=>W.bind_fn X self hf) (.inl rfl) h
end
noncomputable def iM (f:Str) (v:V):List (Str×V)->List (Str×V)
 | []=> [(f,v)]
 |(g,x)::r=>if g=f then(g,v)::r else(g,x)::iM f v r
theorem G7(f g:Str)(v:V):∀fs:List (Str×V),(iM f v fs).lookup g=if g=f then some v else fs.lookup g
 | []=>by
  show rg g [(f,v)]=_;by_cases h:g=f
  ·have hb:(g == f)=true:=beq_iff_eq.mpr h;simp only[rg,hb,if_pos h]
  ·have hb:(g == f)=false:=beq_eq_false_iff_ne.mpr h;simp only[rg,hb,if_neg h]
 |(k,x)::r=>by
  have ih:=G7 f g v r;rw[show iM f v ((k,x)::r)=(if k=f then(k,v)::r else(k,x)::iM f v r) from rfl];by_cases hk:k=f
  ·rw[if_pos hk];by_cases h:g=k
   ·have hb:(g == k)=true:=beq_iff_eq.mpr h;simp only[rg,hb,if_pos (h.trans hk)]
   ·have hb:(g == k)=false:=beq_eq_false_iff_ne.mpr h;simp only[rg,hb,if_neg (λe:g=f=>h (e.trans hk.symm))]
  ·rw[if_neg hk];by_cases h:g=k
   ·have hb:(g == k)=true:=beq_iff_eq.mpr h;simp only[rg,hb,if_neg (λe:g=f=>hk (h.symm.trans e))]
   ·have hb:(g == k)=false:=beq_eq_false_iff_ne.mpr h;simp only[rg,hb];exact ih
theorem B9(f:Str)(v:V):∀fs:List (Str×V),f∈(iM f v fs).map (·.1)/\∀g,g∈fs.map (·.1)->g∈(iM f v fs).map (·.1)
 | []=>⟨by simp[iM],λg h=>by simp at h⟩
 |(k,x)::r=>by
  obtain⟨i1,i2⟩:=B9 f v r;rw[show iM f v ((k,x)::r)=(if k=f then(k,v)::r else(k,x)::iM f v r) from rfl];by_cases hk:k=f
  ·rw[if_pos hk];subst hk;exact⟨by simp,λg h=>by simpa using h⟩
  ·rw[if_neg hk];refine⟨?_,λg h=> ?_⟩
   ·rw[eO];exact lH _ i1
   ·rw[eO]at h |-;rcases bx.mp h with e | e
    ·exact bx.mpr (.inl e)
    ·exact lH _ (i2 g e)
theorem G8(f:Str)(v:V):∀fs:List (Str×V),(iM f v fs).length<=fs.length + 1
 | []=>by simp[iM]
 |(k,x)::r=>by
  have ih:=G8 f v r;rw[show iM f v ((k,x)::r)=(if k=f then(k,v)::r else(k,x)::iM f v r) from rfl];by_cases hk:k=f
  ·rw[if_pos hk,eU,eU];lia
  ·rw[if_neg hk,eU,eU];lia
theorem ka.some_of{v:V}{o:Option Value}(r:ka (some v) o):∃u,o=some u/\RelV v u:=by
 cases o with
 |none=>exact(show False from r).elim
 |some u=>exact⟨u,rfl,r⟩
theorem Pb{v:V}{u:Value}(r:RelV v u):W.handedIn u=true:=by
 cases v with
 |az=>cases(show u=q0 from r);rfl
 |bl b=>cases(show u=FV b from r);rfl
 |int i=>obtain⟨t,e⟩:=(show ∃t,u=xX i t from r);cases e;rfl
 |str x=>obtain⟨t,e⟩:=(show ∃t,u=Bl x t from r);cases e;rfl
 |rl b=>obtain⟨t,e⟩:=(show ∃t,u=Value.bytes b t from r);cases e;rfl
 |jS b=>obtain⟨t,e⟩:=(show ∃t,u=Ng b t from r);cases e;rfl
 |ref a=>cases(show u=fZ a from r);rfl
 |ty n=>cases(show u=FW n from r);rfl
section
variable {P:Program}{w:World}{H H':Hp}{h h':Heap}{a C dx:Addr}{fs Oo:List (Str×V)}
theorem mJ(aU:gc P w H h)(e:H a=some (.ins C dx fs)):∃mA,tT h a dx C mA/\(∀f,ka (fs.lookup f) (mA f))/\Nh mA (fs.map (·.1))/\fs.length<=1000/\H dx=some (.own a):=by
 obtain⟨d,z,ne,ob,mA,n,r,q⟩:=(show fP P w H h a (.ins C dx fs) from aU a _ e)
 exact⟨mA,⟨ob,n,ne⟩,r,q,z,d⟩
end
structure lN(K:ak)(C:Addr):Prop where
 pg:FY K C Str.empty=true
 hd:FZ K C=true
 po:Nm K C=true
 sa:oB K (.ref C) "__setattr__"=some (some (.builtin "object.__setattr__"))
theorem lN.get{K:ak}{C:Addr}(c:lN K C)(f:Str):FY K C f=true:=c.pg
def jo(K:ak)(C:Addr)(f:Str):Prop:=oB K (.ref C) f=some none
theorem jo.Pc{K:ak}{C:Addr}{f:Str}(n:jo K C f):W.takerIn K C f=some none:=by
 unfold W.takerIn;rw[show oB K (.ref C) f=some none from n];rfl
section
variable {X:Cx}{aa:List (Addr×Obj)}{σ:St}{H:Hp}{s:Shared}{a C dx:Addr}{fs:List (Str×V)}{f:Str}{v:V}{A:Around}{E:Value->Shared->Prop}
theorem Pd{b:Bool}{Q:Value->Shared->Prop}(I:Inv X aa σ H s)(e:H a=some (.ins C dx fs))(c:lN X.K C)(n:jo X.K C f)(l:fs.lookup f=some v)
  (h:∀u s',Inv X aa σ H s'->RelV v u->Q u s'):wpAny (model X.prog X.w) A (getAttr (.ref a) f b) Q E s:=by
 obtain⟨mA,O,r,_,_,_⟩:=mJ I.aU e;obtain⟨u,hu,ru⟩:=ka.some_of (v:=v) (o:=mA f) (by rw[<- l];exact r f);exact get_map I.g7 O (c.get f) c.hd n hu (Pb ru) (h u _ (I.tok _) ru)
theorem Pe{y:V}{u:Value}{Q:Unit->Shared->Prop}(I:Inv X aa σ H s)(e:H a=some (.ins C dx fs))(c:lN X.K C)(n:jo X.K C f)(hl:fs.length < 1000)(ry:RelV y u)
  (h:∀s',Inv X aa σ (upd H a (.ins C dx (iM f y fs))) s'->Q () s'):wpAny (model X.prog X.w) A (setAttr (.ref a) f u) Q E s:=by
 obtain⟨mA,O,r,wi,_,ho⟩:=mJ I.aU e;have hz:(fs.map (·.1)).length<=aN:=by rw[eG,Bi];lia
 refine O6 I.g7 O c.sa c.po n.Pc c.hd wi hz λh' O' sb=>h _ ?_;have hd:∃o,h'.get? dx=some o:=let ⟨o,_,_,e',_⟩:=O'.ns;⟨o,e'⟩;refine I.write (x:=a) (e:=dx) (by rw[e];exact kU) (.inr ho) (λb q hb z=>(sb.2 b hb).trans z) hd ?_;refine⟨by rw[bE O.ne];exact ho, ?_,O.ne,O'.obj,_,O'.ns,λg=> ?_,λg hg=> ?_⟩
 ·have:=G8 f y fs;lia
 ·show ka ((iM f y fs).lookup g) (if g=f then some u else mA g);rw[G7];by_cases q:g=f
  ·rw[if_pos q,if_pos q];exact ry
  ·rw[if_neg q,if_neg q];exact r g
 ·by_cases q:g=f
  ·rw[q];exact(B9 f y fs).1
  ·refine(B9 f y fs).2 g (wi g λz=>hg ?_);show(if g=f then some u else mA g)=none;rw[if_neg q];exact z
theorem Inv.made(I:Inv X aa σ H s):Inv X aa σ (upd (upd H s.heap.objs.size (.own (s.heap.objs.size + 1))) (s.heap.objs.size + 1) (.ins C s.heap.objs.size []))
  { s with heap:=(s.heap.push rf).push (tw C s.heap.objs.size) }:=by
 have e1:(s.heap.push rf).get? s.heap.objs.size=some rf:=iH s.heap rfl;have e2:((s.heap.push rf).push (tw C s.heap.objs.size)).get? (s.heap.objs.size + 1)=some (tw C s.heap.objs.size):=by
  have:=iH (s.heap.push rf) (o:=tw C s.heap.objs.size) rfl;rwa [nk]at this
 have e3:(s.heap.push rf).Ns s.heap.objs.size (λ_=>none):=⟨rf,#[],_,e1,rfl,(λe he=>absurd he (by simp)),λ_=>rfl⟩
 have I1:=I.laid (a:=s.heap.objs.size) (o:= .own (s.heap.objs.size + 1)) (h':=s.heap.push rf) (t':=s.toks) (λb u q=>dN _ q) (bT _) ⟨_,e1⟩;refine I1.laid (a:=s.heap.objs.size + 1) (o:= .ins C s.heap.objs.size []) (t':=s.toks) (λb u q=>dN _ q) (Nn (nk _ _)) ?_;have ne:s.heap.objs.size≠s.heap.objs.size + 1:=fN (Bp _);refine⟨by rw[bE ne,gb],kz _,ne,e2,λ_=>none,(Heap.Ns1.of_empty e3).at λo q=>dN _ q,λ_=>kU,λy hy=>absurd rfl hy⟩
theorem Pf{prog:Program}{w:World}{env:Env}{e:Expr}{f:Str}{pos:Pos}{s:Shared}{Q:Value->Shared->Prop}(hb:vg e f env (eval e env)=eval e env)
  (h:wpAny (model prog w) A (eval e env) (λo dh=>wpAny (model prog w) A (getAttr o f true) Q E dh) E s):wpAny (model prog w) A (eval (.Attribute e f pos) env) Q E s:=
 Attribute_any_ h (by rw[arm_eval_Attribute,hb])
end
def vO(K:ak)(ta:TE)(f:Str):TE:=λσ H Q=>ta σ H λx H1=>∃a C dx fs v,x= .ref a/\H1 a=some (.ins C dx fs)/\lN K C/\jo K C f/\fs.lookup f=some v/\Q v H1
def Ca(K:ak)(ta tv:TE)(f:Str):TS:=λD σ H=>tv σ H λy H1=>ta σ H1 λx H2=>∃a C dx fs,x= .ref a/\H2 a=some (.ins C dx fs)/\lN K C/\jo K C f/\fs.length < 1000/\
 D.nx σ (upd H2 a (.ins C dx (iM f y fs)))
section
variable {X:Cx}{o e value:Expr}{f:Str}{pos pos' oX:Pos}{ta tv:TE}
theorem Pg(he:PE X e ta)(hb:vg e f X.env (eval e X.env)=eval e X.env):PE X (.Attribute e f pos) (vO X.K ta f):=by
 intro aa s σ H Q I h;refine Pf hb (bC (he aa s σ H _ I h) λu s1 ⟨x,H1,I1,rx,a,C,dx,fs,v,ex,ea,c,n,l,q⟩=> ?_);subst ex;obtain rfl:u=fZ a:=rx;exact Pd I1 ea c n l λu' s2 I2 ru=>⟨v,H1,I2,ru,q⟩
theorem Ph(ha:PE X o ta)(hv:PE X value tv)(hs:sY value (some (.Attribute o f pos')) pos.line X.env=pure false):PS X (.Assign [.Attribute o f pos'] value pos) (Ca X.K ta tv f):=by
 intro aa s σ H D I h;refine plainObj_wpAny_Assign_Attribute (bC (hv aa s σ H _ I h) λu s1 ⟨y,H1,I1,ry,q⟩=>bC (ha aa s1 σ H1 _ I1 q) λov s2 ⟨x,H2,I2,rx,a,C,dx,fs,ex,ea,c,n,l,q2⟩=> ?_) hs;subst ex;obtain rfl:ov=fZ a:=rx;exact Pe I2 ea c n l ry λs3 I3=>⟨σ,_,I3,q2⟩
end
section
variable {X:Cx}{aa:List (Addr×Obj)}{σ:St}{H:Hp}{s:Shared}{A:Around}{E:Value->Shared->Prop}{Q:Value->Shared->Prop}{c:Value}{b:Bool}
inductive kg(K:ak)(H:Hp):V->Value->Prop where
 |az:kg K H .az (.type "NoneType")
 |bl (x:Bool):kg K H (.bl x) (.type "bool")
 |int (i:Int):kg K H (.int i) (.type "int")
 |str (x:Str):kg K H (.str x) (.type "str")
 |jS (x:UInt64):kg K H (.jS x) (.type "float")
 |lst {a:Addr} {xs:List V} (e:H a=some (.lst xs)):kg K H (.ref a) (.type "list")
 |gC {a:Addr} {o:Obj} {xs:List V} (e:H a=some (.gC o (.lst xs))):kg K H (.ref a) (.type "list")
 |tup {a:Addr} {xs:List V} (e:H a=some (.tup xs)):kg K H (.ref a) (.type "tuple")
 |dK {a:Addr} {aw:List (bB×V)} (e:H a=some (.dK aw)):kg K H (.ref a) (.type "dict")
 |dT {a:Addr} {aw:List (List bB×V)} (e:H a=some (.dT aw)):kg K H (.ref a) (.type "dict")
 |ins {a C dx:Addr} {fs:List (Str×V)} (e:H a=some (.ins C dx fs)) (cl:lN K C) (ha:oB K (.ref C) "__class__"=some (some (.builtin "object.__class__")))
   (hn:W.specialIn K (.builtin "object.__class__") "__get__"=some (some (.builtin "getset_descriptor.__get__"))) (G9:W.takesIn K (.builtin "object.__class__")=some true)
   (hm:W.mroIn K C (.type "object")=some true):kg K H (.ref a) (.ref C)
theorem Pj{x:V}{u t:Value}(I:Inv X aa σ H s)(rx:RelV x u)(ty:kg X.K H x t)(e:rh X.K t c=some b)(h:∀tk,Q (.bool b) { s with toks:=tk }):
  wpAny (model X.prog X.w) A (call (.builtin "isinstance") [u,c]) Q E s:=by
 cases ty with
 |az=>cases(show u=q0 from rx);exact nq W.kitx_none I.g7 kU e (λz=>nomatch z) h
 |bl y=>cases(show u=FV y from rx);exact nq W.kitx_bool I.g7 kU e (λz=>nomatch z) h
 |int i=>obtain⟨t,q⟩:=(show ∃t,u=xX i t from rx);cases q;exact nq W.kitx_int I.g7 kU e (λz=>nomatch z) h
 |str y=>obtain⟨t,q⟩:=(show ∃t,u=Bl y t from rx);cases q;exact nq W.kitx_str I.g7 kU e (λz=>nomatch z) h
 |jS y=>obtain⟨t,q⟩:=(show ∃t,u=Ng y t from rx);cases q;exact nq W.kitx_float I.g7 kU e (λz=>nomatch z) h
 | @lst a xs ea=>
  cases(show u=fZ a from rx);obtain⟨_,_,n,_,h1⟩:=(show fP X.prog X.w H s.heap a (.lst xs) from I.aU a _ ea)
  exact nq Np I.g7 ⟨_,h1,rfl⟩ e (λz=>nomatch z) h
 | @gC a ob xs ea=>
  cases(show u=fZ a from rx);obtain⟨_,_,_,n,_,h1⟩:=(show fP X.prog X.w H s.heap a (.gC ob (.lst xs)) from I.aU a _ ea)
  exact nq Np I.g7 ⟨_,h1,rfl⟩ e (λz=>nomatch z) h
 | @tup a xs ea=>
  cases(show u=fZ a from rx);obtain⟨_,_,_,p⟩:=(show fP X.prog X.w H s.heap a (.tup xs) from I.aU a _ ea)
  obtain⟨o,h1,h2,_⟩:=p;exact nq W.kitx_tuple I.g7 ⟨o,h1,h2⟩ e (λz=>nomatch z) h
 | @dK a aw ea=>
  cases(show u=fZ a from rx);obtain⟨_,_,vs,_,p⟩:=(show fP X.prog X.w H s.heap a (.dK aw) from I.aU a _ ea)
  obtain⟨o,es,ep,h1,h2,_⟩:=p;exact nq W.kitx_dict I.g7 ⟨o,h1,h2.1⟩ e (λz=>nomatch z) h
 | @dT a aw ea=>
  cases(show u=fZ a from rx);obtain⟨_,_,xs,_,o,es,ep,h1,h2,_⟩:=(show fP X.prog X.w H s.heap a (.dT aw) from I.aU a _ ea)
  exact nq W.kitx_dict I.g7 ⟨o,h1,h2.1⟩ e (λz=>nomatch z) h
 | @ins a C dx fs ea cl ha hn G9 hm=>
  cases(show u=fZ a from rx);obtain⟨mA,O,_⟩:=mJ I.aU ea;obtain⟨od,J,_⟩:=O.look;exact nq (W.kitx_own (cl.get _) cl.hd ha hn G9 hm) I.g7 J e (λz=>nomatch z) h
end
structure gn(k:Nat)(A:Around):Prop where
 hd:A.handled=none
 dp:A.depth + 3 * k + 5 < recursionLimit
 un:A.units + 16 * k + 200 < cLine
 gd:A.guards=some []
theorem gn.mono{j k:Nat}{A:Around}(r:gn k A)(h:j<=k):gn j A:=⟨r.hd,by have:=r.dp;lia,by have:=r.un;lia,r.gd⟩
theorem gn.deeper{k:Nat}{A:Around}(r:gn (k + 1) A)(env:Env):gn k (A.deeper env):=
 ⟨r.hd,by have:=r.dp;show A.depth + 1 + 3 * k + 5 < _;lia,by have:=r.un;show A.units + 3 + 16 * k + 200 < _;lia,r.gd⟩
theorem Pk{A:Around}{C:Addr}{us:List Value}{kw:List (Str×Value)}:(A.under (.builtin "type.__call__" ⟨.ref C::us,kw⟩)).depth=A.depth + 1:=by
 first | rfl | simp[F0,Code.weight,Code.isCreation,Code.isGuard,Code.isCaller,Code.frames,Nq,guardIds]
theorem Pm{A:Around}{C:Addr}{us:List Value}{kw:List (Str×Value)}:(A.under (.builtin "type.__call__" ⟨.ref C::us,kw⟩)).units=A.units + 1:=by
 first | rfl | simp[F0,Code.cUnits,Code.frames,Nq]
theorem gn.make{k:Nat}{A:Around}(r:gn (k + 1) A)(C:Addr)(us:List Value)(kw:List (Str×Value)):gn k (A.under (.builtin "type.__call__" ⟨.ref C::us,kw⟩)):=
 ⟨r.hd,by have:=r.dp;rw[Pk];lia,by have:=r.un;rw[Pm];lia,by first | exact r.gd | (have:=r.gd;simpa[F0,Code.isGuard,guardIds]using this)⟩
theorem gn.depth{k:Nat}{A:Around}(r:gn k A):A.depth < recursionLimit:=by have:=r.dp;lia
theorem gn.units{k:Nat}{A:Around}(r:gn k A):A.units + 64 < cLine:=by have:=r.un;lia
def gR:TA:=λ_ H Q=>Q [] H
def gq(ta:TE)(tr:TA):TA:=λσ H Q=>ta σ H λx H1=>tr σ H1 λxs H2=>Q (x::xs) H2
section
variable {X:Cx}{e:Expr}{es:List Expr}{te:TE}{t:TA}{pos:Pos}
theorem g8:PA X [] gR:=λ_ _ _ _ H Q I h=>Nr ⟨[],H,I, .nil,h⟩
theorem bS(ha:PE X e te)(hr:PA X es t)(hs:dB (e::es) X.env=(false,eval e X.env)::dB es X.env:=by rfl):PA X (e::es) (gq te t):=by
 intro pos aa s σ H Q I h;rw[hs];show wpAny _ _ (spliced ((false,eval e X.env)::backTo pos (dB es X.env))) _ _ s;refine Bq (bC (ha aa s σ H _ I h) λu s1 ⟨x,H1,I1,r1,q1⟩=> ?_);exact bC (hr pos aa s1 σ H1 _ I1 q1) λus s2 ⟨xs,H2,I2,r2,q2⟩=>⟨x::xs,H2,I2, .cons r1 r2,q2⟩
def tU(t:TA):TE:=λσ H Q=>t σ H λxs H1=>xs.length<=aN/\∀p,H1 p=none->Q (.ref p) (upd H1 p (.tup xs))
def rJ(t:TA):TE:=λσ H Q=>t σ H λxs H1=>xs.length<=aN/\∀p,H1 p=none->Q (.ref p) (upd H1 p (.lst xs))
theorem cU{x1}(h:PA X es t):PE X (.Tuple es x1 pos) (tU t):=by
 intro aa s σ H Q I hq;refine wpAny_Tuple_spliced (bC (h pos aa s σ H _ I hq) λus s1 ⟨xs,H1,I1,r,z,q⟩=>⟨by rw[<- r.length];exact z, ?_⟩);have hf:H1 s1.heap.objs.size=none:=I1.aU.fresh (bT _);refine⟨.ref s1.heap.objs.size,upd H1 s1.heap.objs.size (.tup xs),I1.laid (t':=s1.toks) (λb u e=>dN _ e) (bT _) ?_,rfl,q _ hf⟩;exact⟨z,us,r,⟨_,iH _ rfl,rfl,_,rfl⟩⟩
theorem fH(h:PA X es t):PE X (.List es pos) (rJ t):=by
 intro aa s σ H Q I hq;refine wpAny_List_spliced (bC (h pos aa s σ H _ I hq) λus s1 ⟨xs,H1,I1,r,z,q⟩=>⟨by rw[<- r.length];exact z, ?_⟩);have hf:H1 s1.heap.objs.size=none:=I1.aU.fresh (bT _);refine⟨.ref s1.heap.objs.size,upd H1 s1.heap.objs.size (.lst xs),I1.laid (t':=s1.toks) (λb u e=>dN _ e) (bT _) ?_,rfl,q _ hf⟩;exact⟨z,us,0,r,iH _ rfl⟩
end
abbrev Sp:=List V->Hp->VK->XK->Prop
abbrev lO:=List Env->Hp->Shared->XK->Value->Shared->Prop
structure rK(P:Program)(w:World)(K:ak)(mg:Str->Option Value)(base:Heap)(A:Around)(outer:List Env)(s:Shared)(H:Hp):Prop where
 frames:A.frames=some outer
 mod:Mod K mg base
 bs:∀b o,base.get? b=some o->s.heap.get? b=some o/\H b=none
 oO:base.objs.size<=s.heap.objs.size
 lL:s.heap.FunFrames base outer
 rA:∀b∈kA outer,H b=none
 aU:gc P w H s.heap
 bare:sX s.gens
def CE(outer:List Env)(P:Program)(w:World)(H:Hp)(s:Shared)(Q:VK)(u:Value)(s':Shared):Prop:=
 ∃v H',s'.os=s.os/\sX s'.gens/\Un (kA outer) [] H H' s.heap s'.heap/\gc P w H' s'.heap/\RelV v u/\Q v H'
def CR(CX:lO)(outer:List Env)(P:Program)(w:World)(H:Hp)(s:Shared)(Q:VK)(E:XK)(r:Result)(s':Shared):Prop:=
 match r with
 |.ok (.ret u)=>CE outer P w H s Q u s'
 |.ok _=>False
 |.error e=>CX outer H s E e s'
structure dO(P:Program)(w:World)(K:ak)(mg:Str->Option Value)(base:Heap)(CX:lO)(k:Nat)(f:Addr)(fd:jl)(ps:List Str)(sp:Sp):Prop where
 len:∀vs H Q E,sp vs H Q E->vs.length=ps.length
 run:∀(A:Around) (outer:List Env) (s:Shared) (H:Hp) (args:Args) (us:List Value) (vs:List V) (Q:VK) (E:XK),gn k A->rK P w K mg base A outer s H->xR s fd args (ps.zip us)->bA vs us->sp vs H Q E->
  pZ (model P w) A (.call (.ref f) args) (CR CX outer P w H s Q E) s
theorem dO.imp{P:Program}{w:World}{K:ak}{mg:Str->Option Value}{base:Heap}{CX:lO}{k:Nat}{f:Addr}{fd:jl}{ps:List Str}{sp Ha:Sp}(F:dO P w K mg base CX k f fd ps sp)
  (h:∀vs H Q E,Ha vs H Q E->sp vs H Q E):dO P w K mg base CX k f fd ps Ha:=
 ⟨λvs H Q E q=>F.len vs H Q E (h _ _ _ _ q),λA outer s H args us vs Q E hr he hb hv hs=>F.run A outer s H args us vs Q E hr he hb hv (h _ _ _ _ hs)⟩
theorem rK.make{P:Program}{w:World}{K:ak}{mg:Str->Option Value}{base:Heap}{A:Around}{outer:List Env}{s:Shared}{H:Hp}(e:rK P w K mg base A outer s H)(C:Addr)(us:List Value)(kw:List (Str×Value)):
  rK P w K mg base (A.under (.builtin "type.__call__" ⟨.ref C::us,kw⟩)) outer s H:=⟨by first | exact e.frames | (simpa[F0,Code.envs,Nq,pushEnvs]using e.frames),e.mod,e.bs,e.oO,e.lL,e.rA,e.aU,e.bare⟩
section
variable {X:Cx}{aa:List (Addr×Obj)}{σ:St}{H:Hp}{s s':Shared}
theorem Inv.Hb(I:Inv X aa σ H s):rK X.prog X.w X.K X.mg X.base X.A X.stack s H:=
 ⟨I.ok.frames,I.ok.mod,I.bs,dC I.ok.oO I.sz,I.stack,I.Gy,I.aU,I.bare⟩
theorem Inv.after{Q:VK}{u:Value}(I:Inv X aa σ H s)(h:CE X.stack X.prog X.w H s Q u s'):EP X aa σ Q u s':=by
 obtain⟨v,H',os,bare,un,aU,r,q⟩:=h;obtain⟨hh,g,d,t,Cb⟩:=s';obtain rfl:Cb=s.os:=os;exact⟨v,H',I.call (h':=hh) (g':=g) (d':=d) (t':=t) (ch:= []) un aU bare (λb z=>absurd z (by simp)),r,q⟩
end
def qg(sp:Sp)(kh:List V)(E:XK)(t:TA):TE:=λσ H Q=>t σ H λvs H1=>sp (vs++kh) H1 Q E
def Cc(C:Addr)(sp:Sp)(kh:List V)(E:XK)(t:TA):TE:=λσ H Q=>t σ H λvs H1=>∀x dx,H1 x=none->H1 dx=none->dx≠x->
 sp (.ref x::(vs++kh)) (upd (upd H1 dx (.own x)) x (.ins C dx [])) (λv H2=>v= .az/\Q (.ref x) H2) E
def Binds(K:ak)(fd:jl)(ps:List Str)(ds:List Value):Prop:=
 ∀(s:Shared) (us:List Value),K.In s.heap->(us++ds).length=ps.length->xR s fd ⟨us, []⟩ (ps.zip (us++ds))
theorem Binds.all{K:ak}{fd:jl}{ps:List Str}(h:∀us:List Value,us.length=ps.length->bindArgs fd ⟨us, []⟩=pure (ps.zip us)):Binds K fd ps []:=λs us _ hl=>by
 rw[fO]at hl |-;exact .of_eq (h us hl)
def xN(CX:lO)(X:Cx)(E:XK):Prop:=∀(aa:List (Addr×Obj)) (σ:St) (H:Hp) (s:Shared) (e:Value) (s':Shared),Inv X aa σ H s->CX X.stack H s E e s'->X.xe e s'
section
variable {X:Cx}{CX:lO}{k:Nat}{f C:Addr}{fd:jl}{ps:List Str}{sp:Sp}{kh:List V}{ds:List Value}{E:XK}{x m:Str}{p pos mw:Pos}{e o:Expr}{es:List Expr}{ta:TE}{t:TA}
theorem Pn{aa:List (Addr×Obj)}{σ:St}{H:Hp}{s:Shared}{Q:VK}{us:List Value}{vs:List V}(F:dO X.prog X.w X.K X.mg X.base CX k f fd ps sp)(hr:gn k X.A)(hb:Binds X.K fd ps ds)(hd:bA kh ds)(hx:xN CX X E)
  (I:Inv X aa σ H s) (r:bA vs us) (h:sp (vs++kh) H Q E):wpAny (model X.prog X.w) X.A (call (.ref f) us) (EP X aa σ Q) X.xe s:=by
 have r2:bA (vs++kh) (us++ds):=r.append hd;have hl:(us++ds).length=ps.length:=by rw[<- r2.length];exact F.len _ _ _ _ h
 refine wpAny_call (FL (F.run X.A X.stack s H ⟨us, []⟩ (us++ds) (vs++kh) Q E hr I.Hb (hb s us I.g7 hl) r2 h) λr s' hq=> ?_);cases r with
 |error e=>exact hx aa σ H s e s' I hq
 |ok fl=>
  cases fl with
  |ret u=>exact I.after hq
  |next=>exact mz hq
  |brk=>exact mz hq
  |cont=>exact mz hq
theorem Po(F:dO X.prog X.w X.K X.mg X.base CX k f fd ps sp)(hr:gn k X.A)(hg:Gl X x)(hm:X.mg x=some (.ref f))(hk:vo X.K (.ref f)=true)(hb:Binds X.K fd ps ds)(hd:bA kh ds)(hx:xN CX X E)
  (ha:PA X (e::es) t) (mK:(x == ("__debug__":Str))=false:=by decide) (he:dB (e::es) X.env=(false,eval e X.env)::dB es X.env:=by rfl) (cH:(backTo pos (dB es X.env)).any (·.1)=false:=by rfl):
  PE X (.Call (.Name x p) (e::es) [] pos) (qg sp kh E t):=by
 intro aa s σ H Q I h;refine FN (GI I hg hm ?_ mK);refine W.callWith_K (h₀:=X.base) I.ok.mod.BI hk (bC (ha pos aa s σ H _ I h) λus s1 ⟨vs,H1,I1,r,q⟩=>⟨I1.g7, ?_⟩) he cH;exact Pn F hr hb hd hx I1 r q
structure Mk(K:ak)(C f:Addr):Prop where
 makes:W.makesIn K C=true
 init:oB K (.ref C) "__init__"=some (some (.ref f))
 fn:W.isFn K (.ref f)=true
 kp:vo K (.ref C)=true
theorem Pp{aa:List (Addr×Obj)}{σ:St}{H:Hp}{s:Shared}{Q:VK}{us:List Value}{vs:List V}(M:Mk X.K C f)(F:dO X.prog X.w X.K X.mg X.base CX k f fd ps sp)(hr:gn (k + 1) X.A)(hb:Binds X.K fd ps ds)(hd:bA kh ds)
  (hx:xN CX X E) (I:Inv X aa σ H s) (r:bA vs us)
  (h:∀x dx,H x=none->H dx=none->dx≠x->sp (.ref x::(vs++kh)) (upd (upd H dx (.own x)) x (.ins C dx [])) (λv H2=>v= .az/\Q (.ref x) H2) E):
  wpAny (model X.prog X.w) X.A (call (.ref C) us) (EP X aa σ Q) X.xe s:=by
 have hq:=h (s.heap.objs.size + 1) s.heap.objs.size (I.aU.fresh (xY _)) (I.aU.fresh (bT _)) (fN (Bp _));have I2:=Inv.made (C:=C) I;have r2:bA (V.ref (s.heap.objs.size + 1)::(vs++kh)) (fZ (s.heap.objs.size + 1)::(us++ds)):= .cons rfl (r.append hd);have hl:(fZ (s.heap.objs.size + 1)::us++ds).length=ps.length:=by
  have e:=r2.length;rw[F.len _ _ _ _ hq]at e;exact e.symm
 refine wpAny_call (Pa (f:=f) I.g7 M.makes M.init (beq_iff_eq.mp M.fn) (FL (F.run _ X.stack _ _ ⟨fZ (s.heap.objs.size + 1)::us, []⟩ (fZ (s.heap.objs.size + 1)::(us++ds)) _ _ E (hr.make C us [])
  (I2.Hb.make C us []) (hb _ (fZ (s.heap.objs.size + 1)::us) I2.g7 hl) r2 hq) λr s' vP=> ?_))
 cases r with
 |error e=>exact hx aa σ _ _ e s' I2 vP
 |ok fl=>
  cases fl with
  |ret u=>
   obtain⟨v,H',I3,rv,ev,q3⟩:=I2.after vP;subst ev;exact⟨rv,⟨V.ref (s.heap.objs.size + 1),H',I3,rfl,q3⟩⟩
  |next=>exact mz vP
  |brk=>exact mz vP
  |cont=>exact mz vP
theorem Pq(M:Mk X.K C f)(F:dO X.prog X.w X.K X.mg X.base CX k f fd ps sp)(hr:gn (k + 1) X.A)(hg:Gl X x)(hm:X.mg x=some (.ref C))(hb:Binds X.K fd ps ds)(hd:bA kh ds)(hx:xN CX X E)
  (mK:(x == ("__debug__":Str))=false:=by decide):PE X (.Call (.Name x p) [] [] pos) (Cc C sp kh E gR):=by
 intro aa s σ H Q I h;refine FN (GI I hg hm ?_ mK);exact W.callWith_K0 I.g7 M.kp (Pp (us:= []) M F hr hb hd hx I .nil h)
end
section
variable {X:Cx}{CX:lO}{k:Nat}{f C:Addr}{fd:jl}{ps ks:List Str}{sp:Sp}{E:XK}{x m:Str}{p pos mw Zu:Pos}{e o:Expr}{es:List Expr}{Zv:List Keyword}{te ta:TE}{t tk:TA}{nm:Option Str}
variable {g:List Value->List Value->List Value}{gV:List V->List V->List V}
end
structure gJ(N P:List Str)(sc:Scope):Prop where
 kind:sc.kind= .function
 co:sc.isCoroutine=false
 gen:sc.isGenerator=false
 nd:N.Nodup
 pre:N.take P.length=P
 par:∀x∈P,sc.names.lookup x=some .local\/sc.names.lookup x=some .cell
 Pr:∀y∈sc.names,y.2≠ .free
theorem Hc{kindOf:Str->Option cY}{x:Str}:∀{binds:List (Str×Value)} {m:Str->Option Value},(∀v,(x,v)∉binds)->bindL kindOf binds m x=m x
 | [],_,_=>rfl
 |(n,v)::r,m,h=>by
  unfold bindL;rw[Hc λw hw=>h w (lH _ hw)]
  split
  ·have:x≠n:=by rintro rfl;exact h v tF
   simp[this]
  ·rfl
theorem Hd{kindOf:Str->Option cY}{x:Str}:∀{binds:List (Str×Value)} {m:Str->Option Value},(∀v,(x,v)∉binds)->bindC kindOf binds m x=m x
 | [],_,_=>rfl
 |(n,v)::r,m,h=>by
  unfold bindC;rw[Hd λw hw=>h w (lH _ hw)]
  split
  ·rfl
  ·have:x≠n:=by rintro rfl;exact h v tF
   simp[this]
theorem He{kindOf:Str->Option cY}{x:Str}{v:Value}:∀{P:List Str} {vs:List Value} {i:Nat} {m:Str->Option Value},P.Nodup->P[i]?=some x->vs[i]?=some v->kindOf x=some .local->
  bindL kindOf (P.zip vs) m x=some v
 | [],_,_,_,_,h,_,_=>by simp at h
 |_::_, [],_,_,_,_,h,_=>by simp at h
 |p::P,w::vs,0,m,nd,h1,h2,hk=>by
  simp at h1 h2;subst h1;subst h2;show bindL kindOf ((p,w)::P.zip vs) m p=_;unfold bindL;rw[Hc λv hv=>(mB.mp nd).1 (Nt hv).1,if_pos hk];simp
 |p::P,w::vs,i + 1,m,nd,h1,h2,hk=>by
  show bindL kindOf ((p,w)::P.zip vs) m x=_;unfold bindL;exact He (i:=i) (mB.mp nd).2 (by simpa using h1) (by simpa using h2) hk
theorem Hf{kindOf:Str->Option cY}{x:Str}{v:Value}:∀{P:List Str} {vs:List Value} {i:Nat} {m:Str->Option Value},P.Nodup->P[i]?=some x->vs[i]?=some v->kindOf x≠some .local->
  bindC kindOf (P.zip vs) m x=some v
 | [],_,_,_,_,h,_,_=>by simp at h
 |_::_, [],_,_,_,_,h,_=>by simp at h
 |p::P,w::vs,0,m,nd,h1,h2,hk=>by
  simp at h1 h2;subst h1;subst h2;show bindC kindOf ((p,w)::P.zip vs) m p=_;unfold bindC;rw[Hd λv hv=>(mB.mp nd).1 (Nt hv).1,if_neg hk];simp
 |p::P,w::vs,i + 1,m,nd,h1,h2,hk=>by
  show bindC kindOf ((p,w)::P.zip vs) m x=_;unfold bindC;exact Hf (i:=i) (mB.mp nd).2 (by simpa using h1) (by simpa using h2) hk
noncomputable def start (N:List Str) (vs:List V):St:=vs.map some++bK (N.length - vs.length) none
noncomputable def qh (CX:lO) (P:Program) (w:World) (K:ak) (mg:Str->Option Value) (base:Heap) (N:List Str) (qual:Str) (scope:Scope) (f:Addr) (cd:Value) (A:Around) (outer:List Env) (s:Shared) (H:Hp) (E:XK):Cx where
 prog:=P
 w:=w
 K:=K
 mg:=mg
 base:=base
 A:=A.deeper (envOfC qual scope s.heap.objs.size f cd)
 N:=N
 gZ:=s
 vA:=H
 env:=envOfC qual scope s.heap.objs.size f cd
 outer:=outer
 stack:=envOfC qual scope s.heap.objs.size f cd::outer
 ex:= []
 calm:=true
 fn:=λ_=>true
 pn:= []
 xe:=λe s'=>wpAny (model P w) (A.deeper (envOfC qual scope s.heap.objs.size f cd)) (leaving (envOfC qual scope s.heap.objs.size f cd) e) (λ_ Cd=>CX outer H s E e Cd) (λe' Cd=>CX outer H s E e' Cd) s'
theorem Hg{sc:Scope}{n:Nat}{x:Str}(h:sc.names.lookup x=some .cell):∃c,(lG n sc.names []).lookup x=some c:=by
 have q:=W.cellsFrom_some sc.names n [] (.inl h);exact YV.mp q
theorem Pt{CX:lO}{P:Program}{w:World}{K:ak}{mg:Str->Option Value}{base:Heap}{N ps:List Str}{qual:Str}{scope:Scope}{f:Addr}{cd:Value}{A:Around}{outer:List Env}{s s1:Shared}{H:Hp}{E:XK}{us:List Value}{vs:List V}
  (S:gJ N ps scope) (hd:A.handled=none) (e0:rK P w K mg base A outer s H) (hl:vs.length=ps.length) (r:bA vs us)
  (x:InCallC s s.heap.objs.size (bindL (envOfC qual scope s.heap.objs.size f cd).kindOf (ps.zip us) λ_=>none) (lG (s.heap.objs.size + 1) scope.names []) (bindC (envOfC qual scope s.heap.objs.size f cd).kindOf (ps.zip us) λ_=>none) s1):
  Inv (qh CX P w K mg base N qual scope f cd A outer s H E) [] (start N vs) H s1:=by
 have cH:ps.length<=N.length:=by have:=congrArg List.length S.pre;rw[xZ]at this;lia
 obtain⟨h1,tk,rfl,hk⟩:=x.done;have rL:∀b:Addr,b∉(qh CX P w K mg base N qual scope f cd A outer s H E).ex:=λb z=>absurd (show b∈([]:List Addr) from z) (by simp);refine⟨⟨e0.mod,S.kind,rfl,rfl,bT _,λy z c h1 h2=> ?_,λy hy=> ?_,λy c _ h=> ?_,λ_=>hd,Around.frames_deeper e0.frames, .inr ⟨rfl,rfl⟩,λb z=>absurd z (rL b),e0.bs,e0.oO,λb _ _=>rL b,λb z=>absurd z (rL b),e0.lL,e0.rA⟩,
  rfl,e0.bare,Un.kept hk,⟨_,x.toInCall.ns,λi y v h1 h2 h3=> ?_⟩,λy c h=>⟨_,x.cell y c h⟩,e0.aU.fresh (bT _),λy c h=> ?_,λp hp=>absurd (show p∈([]:List (Addr×Obj)) from hp) (by simp),e0.aU.kept hk, ?_⟩
 ·exact name_of_addr x.apart (tH h1) (tH h2)
 ·have hy:scope.names.lookup y=some .cell\/scope.names.lookup y=some .free:=hy;rcases hy with hy | hy
  ·exact Hg hy
  ·exact absurd rfl (S.Pr _ (tH hy))
 ·exact my (x.above y c (tH h))
 ·have hi:i < vs.length:=by
   unfold start at h2;by_cases hi:i < vs.length
   ·exact hi
   ·rw[bL (by simpa using hi)]at h2;rw[Br]at h2
    split at h2 <;> cases h2
  have ha:vs[i]?=some v:=by
   unfold start at h2;rw[aV (by simpa using hi),du]at h2;cases e:vs[i]? with
   |none=>rw[e]at h2;cases h2
   |some a=>rw[e]at h2;cases h2;rfl
  obtain⟨u,hu,rv⟩:=r.get ha;have hp:ps[i]?=some y:=by
   rw[<- S.pre,Nu (by lia)];exact h1
  have Hh:ps.Nodup:=by rw[<- S.pre];exact S.nd.sublist (List.take_sublist _ _)
  refine⟨u,rv, ?_⟩;rcases S.par y (jR hp) with k | k
  ·exact .inl ⟨k,He Hh hp hu k⟩
  ·obtain⟨c,e⟩:=Hg (n:=s.heap.objs.size + 1) k;refine .inr ⟨.inl k,c,e, ?_⟩;have q:=x.cell y c e;rw[Hf Hh hp hu (by show scope.names.lookup y≠_;rw[k];decide)]at q;exact q
 ·exact e0.aU.fresh (my (x.above y c (tH h)))
 ·unfold start;show _=N.length;rw[b6,eG,vp]
  lia
theorem Pu{CX:lO}{P:Program}{w:World}{K:ak}{mg:Str->Option Value}{base:Heap}{k:Nat}{f:Addr}{name qual:Str}{params:Arguments}{body:List Stmt}{scope:Scope}{dV kV doc pm dJ ct oc:Value}{an od:Option Addr}
  {nE:Array (Option Value)} {N ps:List Str} {sp:Sp} (lk:K.lookup f=some ⟨oc,od, .func (oC name qual params body scope dV kV doc pm an dJ ct),nE⟩) (mF:Bs K dJ qual=true) (S:gJ N ps scope)
  (len:∀vs H Q E,sp vs H Q E->vs.length=ps.length)
  (Ce:∀(A:Around) (outer:List Env) (s:Shared) (H:Hp) (vs:List V) (Q:VK) (E:XK),gn k (A.deeper (envOfC qual scope s.heap.objs.size f dJ))->sp vs H Q E->
   ∃t,kb (qh CX P w K mg base N qual scope f dJ A outer s H E) body t/\t { nx:=λ_ H'=>Q .az H',rt:=Q } (start N vs) H):
  dO P w K mg base CX (k + 1) f (oC name qual params body scope dV kV doc pm an dJ ct) ps sp:=by
 refine⟨len,λA outer s H args us vs Q E hr e0 hb r qi=> ?_⟩;have hl:=len _ _ _ _ qi;have KX:K.In s.heap:=e0.mod.BI.keeps λb o e=>(e0.bs b o e).1;have lim:s.heap.NoLimit:=e0.mod.nolimit.keeps λb o e=>(e0.bs b o e).1;have mL:∀y∈ps.zip us,scope.names.lookup y.1=some .local\/(scope.names.lookup y.1=some .cell/\((lG (s.heap.objs.size + 1) scope.names []).lookup y.1).isSome=true):=λ⟨n,v⟩ hy=>by
  rcases S.par n (Nt hy).1 with q | q
  ·exact .inl q
  ·exact .inr ⟨q,W.cellsFrom_some _ _ _ (.inl q)⟩
 refine codeAny_call_function hr.depth (KX _ _ lk) rfl S.co S.gen rfl (W.codeRec_of KX mF) (hb _ _ _ _ ?_);refine wpAny_newFunctionEnv_cells S.kind mL λenv he s1 x=> ?_;subst he;refine⟨lim.keeps x.toInCall.keep,codeAny_func ?_⟩;obtain⟨t,ht,hq⟩:=Ce A outer s H vs Q E (hr.deeper _) qi;have I:Inv (qh CX P w K mg base N qual scope f dJ A outer s H E) [] (start N vs) H s1:=Pt S hr.hd e0 hl r x;refine j6 (ht [] s1 (start N vs) H _ I hq) (λfl s' hs=> ?_) λe s' hs=>hs;have fin:∀{aM:St} {H':Hp} {v:V} {u:Value},Inv (qh CX P w K mg base N qual scope f dJ A outer s H E) [] aM H' s'->RelV v u->Q v H'->CE outer P w H s Q u s':=
  λ{aM H' v u} J rv q=>⟨v,H',J.os,J.bare,J.base,J.aU,rv,q⟩
 cases fl with
 |ret u=>
  obtain⟨v,aM,H',J,rv,q⟩:=hs;exact fin J rv q
 |next=>
  obtain⟨aM,H',J,q⟩:=hs;exact fin (v:=V.az) (u:=q0) J rfl q
 |brk=>
  obtain⟨_,_,_,q⟩:=hs;exact mz q
 |cont=>
  obtain⟨_,_,_,q⟩:=hs;exact mz q
section
variable {X:Cx}{x:Str}{p pos:Pos}{e:Expr}{es:List Expr}{t:TA}{id T:String}{r:List V->Hp->VK->Prop}
def nH(r:List V->Hp->VK->Prop)(t:TA):TE:=λσ H Q=>t σ H λvs H1=>r vs H1 Q
theorem oY(hc:i0 X (.builtin id) r)(hg:Gl X x)(hm:X.mg x=none)(hv:xO x=some (.builtin id))(ha:PA X (e::es) t)(hn:x≠"__name__":=by decide)(mK:(x == ("__debug__":Str))=false:=by decide)
  (he:dB (e::es) X.env=(false,eval e X.env)::dB es X.env:=by rfl) (cH:(backTo pos (dB es X.env)).any (·.1)=false:=by rfl):PE X (.Call (.Name x p) (e::es) [] pos) (nH r t):=by
 intro aa s σ H Q I h;refine FN (tR I hg hm hv ?_ hn mK);exact PyProof.Rows.callWith_builtin1 (bC (ha pos aa s σ H _ I h) λus s1 ⟨vs,H1,I1,r1,q1⟩=>hc aa s1 σ H1 vs us Q I1 r1 q1) he cH
theorem vQ(hc:i0 X (.type T) r)(hg:Gl X x)(hm:X.mg x=none)(hv:xO x=some (.type T))(ha:PA X (e::es) t)(hn:x≠"__name__":=by decide)(mK:(x == ("__debug__":Str))=false:=by decide)
  (he:dB (e::es) X.env=(false,eval e X.env)::dB es X.env:=by rfl) (cH:(backTo pos (dB es X.env)).any (·.1)=false:=by rfl):PE X (.Call (.Name x p) (e::es) [] pos) (nH r t):=by
 intro aa s σ H Q I h;refine FN (tR I hg hm hv ?_ hn mK);exact FX (bC (ha pos aa s σ H _ I h) λus s1 ⟨vs,H1,I1,r1,q1⟩=>hc aa s1 σ H1 vs us Q I1 r1 q1) he cH
end
end L2
namespace HT
open PySem PyProof.Rows
section
open PySem.SeqAt
open PySem.AutoSeq1 (wpAny_loadPart')
open PySem.MeetsSeq PySem.MeetsSeq2 PySem.MeetsSeq3
variable {prog:Program}{w:World}{A:Around}{E:Value->Shared->Prop}{s:Shared}
theorem Pw{t b:Addr}{vs ws:List Value}{Q:Value->Shared->Prop}(ht:IsTup s.heap t vs.toArray)(hb:IsTup s.heap b ws.toArray)(hv:vs≠ [])
  (h1:ws= []->Q (.ref t) s) (h2:ws≠ []->Q (.ref s.heap.objs.size) { s with heap:=s.heap.push { cls:= .type "tuple",data:= .seq (vs++ws).toArray } })
  (hsz:vs.length + ws.length<=aN):wpAny (model prog w) A (lF .Add (.ref t) (.ref b)) Q E s:=by
 obtain⟨⟨cls,dd,data,sl⟩,ho,hc,n,hd⟩:=id ht;obtain⟨⟨Zw,Hi,data2,iC⟩,tV,ki,n2,hd2⟩:=id hb;simp only at hc hd ki hd2;subst hc hd ki hd2;have e:vs.toArray++ws.toArray=(vs++ws).toArray:=by simp
 by_cases hw:ws= []
 ·exact concat_meets ⟨_,ho,rfl⟩ ⟨_,tV,rfl⟩ noFill_tuple_add seq_tuple_add YW YX (YY _ _)
   (tuple_addW1 t b vs.toArray ws.toArray n n2 dd Hi sl iC (by simpa using hv) (by simp[hw])) ⟨ho,tV,h1 hw⟩
 ·refine concat_meets ⟨_,ho,rfl⟩ ⟨_,tV,rfl⟩ noFill_tuple_add seq_tuple_add YW YX (YY _ _)
   (tuple_addW2 t b vs.toArray ws.toArray n n2 dd Hi sl iC (by simpa using hv) (by simpa using hw) (by rw[gI,gI];exact hsz)) ⟨ho,tV, ?_⟩
  rw[e];exact h2 hw
noncomputable def bz (n d:Nat):Option Int->Nat
 |none=>d
 |some v=>if v < 0 then(v + (n:Int)).toNat else min v.toNat n
theorem Px(n d:Nat):bz n d none=d:=rfl
theorem Hj(n d k:Nat):bz n d (some (k:Int))=min k n:=by
 show(if(k:Int) < 0 then((k:Int) + (n:Int)).toNat else min (k:Int).toNat n)=min k n;rw[if_neg (by lia),Nv]
theorem Py(n d:Nat)(hd:d<=n)(o:Option Int):bz n d o<=n:=by
 cases o with
 |none=>exact hd
 |some v=>
  show(if v < 0 then(v + (n:Int)).toNat else min v.toNat n)<=n;by_cases hv:v < 0
  ·rw[if_pos hv];lia
  ·rw[if_neg hv];exact Nat.min_le_right _ _
theorem Hk(v:Int)(n d:Nat):(if v < 0 then max (v + (n:Int)) 0 else min v (n:Int))=((bz n d (some v):Nat):Int):=by
 show(if v < 0 then max (v + (n:Int)) 0 else min v (n:Int))=(((if v < 0 then(v + (n:Int)).toNat else min v.toNat n):Nat):Int);by_cases hv:v < 0
 ·simp only[if_pos hv];lia
 ·simp only[if_neg hv];lia
theorem Pz(lo hi:Option Int)(n:Nat):Nw lo hi 1 (n:Int)=(((bz n 0 lo:Nat):Int),((bz n n hi:Nat):Int)):=by
 have h1:¬ ((1:Int) < 0):=by lia
 unfold Nw;simp only[h1,if_false];refine Prod.ext ?_ ?_
 ·cases lo with
  |none=>rfl
  |some v=>exact Hk v n 0
 ·cases hi with
  |none=>rfl
  |some v=>exact Hk v n n
theorem PB(i j:Nat):F3 (i:Int) (j:Int) 1=j - i:=by
 unfold F3;have h1:(1:Int) > 0:=by lia
 simp only[h1,if_true,Int.ediv_one]
 split <;> lia
theorem Hl{v:Value}{o:Option Int}{Q:Option Int->Shared->Prop}(p:IsPart v o)(h:Q o s):wpAny (model prog w) A (Builtin.Slice.slicePartIndex v) Q E s:=by
 cases p with
 |none=>exact slicePart_none h
 |int i t=>exact slicePart_int h
theorem Hm{sl:Addr}{vl vu:Value}{lo hi:Option Int}{n:Nat}{Q:Int×Int×Nat->Shared->Prop}(hs:s.heap.IsSliceOf sl vl vu .none)(pl:IsPart vl lo)(pu:IsPart vu hi)
  (h:Q (((bz n 0 lo:Nat):Int),1,bz n n hi - bz n 0 lo) s):wpAny (model prog w) A (YZ (.ref sl) (pure (n:Int))) Q E s:=by
 obtain⟨os,rM,qj,rN⟩:=id hs;unfold YZ Builtin.Slice.sliceFields;refine aH (aH (kT rM rN (x:=vl) rfl (aH (kT rM rN (x:=vu) rfl (aH (kT rM rN (x:= .none) rfl (b5 ?_)))))));refine aH (slicePart_none ?_);show wpAny _ _ (if((1:Int) == 0)=true then _ else _) _ _ s;rw[if_neg (by decide)];refine aH (Hl pl (aH (Hl pu (aH (b5 ?_)))));show wpAny _ _ (match Nw lo hi 1 (n:Int) with | (lo,hi)=>pure (lo,(1:Int),F3 lo hi 1)) _ _ s;rw[Pz lo hi n];show wpAny _ _ (pure (((bz n 0 lo:Nat):Int),(1:Int),F3 ((bz n 0 lo:Nat):Int) ((bz n n hi:Nat):Int) 1)) _ _ s;rw[PB];exact b5 h
theorem PC(xs:Array Value)(i k:Nat):((jm k).filterMap λ(m:Nat)=>xs[((i:Int) + (m:Int) * 1).toNat]?).toArray=((xs.toList.drop i).take k).toArray:=by
 have e:(λ(m:Nat)=>xs[((i:Int) + (m:Int) * 1).toNat]?)=λm=>xs[i + m]?:=by
  funext m;have:((i:Int) + (m:Int) * 1).toNat=i + m:=by lia
  rw[this]
 rw[e];have:=pick_run xs i k;rw[List.filterMap_map]at this;have e2:((λx=>xs[x]?) ∘ λx=>i + x)=λm=>xs[i + m]?:=rfl;rw[e2]at this;rw[this]
theorem PD{t sl:Addr}{items:Array Value}{vl vu:Value}{lo hi:Option Int}{Q:Value->Shared->Prop}(ht:IsTup s.heap t items)(hs:s.heap.IsSliceOf sl vl vu .none)(pl:IsPart vl lo)(pu:IsPart vu hi)
  (hw:¬ (bz items.size 0 lo=0/\bz items.size items.size hi=items.size))
  (h:Q (.ref s.heap.objs.size) { s with heap:=s.heap.push { cls:= .type "tuple",data:= .seq ((items.toList.drop (bz items.size 0 lo)).take (bz items.size items.size hi - bz items.size 0 lo)).toArray } })
  (hsz:items.size<=aN):wpAny (model prog w) A (tf (.ref t) (.ref sl)) Q E s:=by
 have yC:sizeOk (.seq ((items.toList.drop (bz items.size 0 lo)).take (bz items.size items.size hi - bz items.size 0 lo)).toArray):=by
  show((items.toList.drop (bz items.size 0 lo)).take (bz items.size items.size hi - bz items.size 0 lo)).toArray.size<=aN;rw[gI,xZ,Y0,Nk]
  lia
 have hj:bz items.size items.size hi<=items.size:=Py _ _ (bT _) hi;obtain⟨os,rM,qj,rN⟩:=id hs;have Cf:s.TypeIs (.ref sl) "slice":=⟨os,rM,qj⟩
 unfold tf
 try with_reducible refine xP ?_
 first | refine aH (b5 ?_) | skip
 refine aH (wpAny_sequenceKey ht.typeIs (by decide) ?_);refine aH (xS (name:=aE "__getitem__") ht.typeIs ya
  (xT ya ht.typeIs YL ?_ (args_tuple_getitem _ _)))
 show wpAny _ _ (Y1 (.ref t) >>= _) _ _ s;refine aH (tupleItemsOf_ ht ?_);refine aH (M4 Cf ?_);rw[if_pos (by decide)];refine aH (Hm hs pl pu ?_);have oZ:¬ ((((bz items.size 0 lo:Nat):Int) == 0 && (1:Int) == 1 && (bz items.size items.size hi - bz items.size 0 lo) == items.size)=true):=by
  intro q;rw[rj,rj]at q;have q1:((bz items.size 0 lo:Nat):Int)=0:=eq_of_beq q.1.1;have q2:bz items.size items.size hi - bz items.size 0 lo=items.size:=eq_of_beq q.2;exact hw ⟨by lia,by lia⟩
 show wpAny _ _ (if(((bz items.size 0 lo:Nat):Int) == 0 && (1:Int) == 1 && (bz items.size items.size hi - bz items.size 0 lo) == items.size)=true then _ else _) _ _ s;rw[if_neg oZ,PC]
 first
  |exact aH (m:=F4 _) (vh (b5 ⟨_,rfl,b5 h⟩) yC)
  |exact aH (m:=F4 _) (vh (aH (b5 (b5 ⟨_,rfl,b5 h⟩))) yC)
  |exact aH (aH (m:=F4 _) (vh (b5 (b5 ⟨_,rfl,b5 h⟩)) yC))
  |exact aH (aH (m:=F4 _) (vh (b5 ⟨_,rfl,b5 h⟩) yC))
end
end HT
namespace L2
open PySem PySem.Spec PyProof.Rows
abbrev TO:=St->Hp->(Option Int->Hp->Prop)->Prop
def PO(X:Cx)(e:Option Expr)(t:TO):Prop:=
 ∀(aa:List (Addr×Obj)) (s:Shared) (σ:St) (H:Hp) (Q:Option Int->Hp->Prop),Inv X aa σ H s->t σ H Q->
  wpAny (model X.prog X.w) X.A (evalPart e X.env) (λu s'=>∃o H',Inv X aa σ H' s'/\IsPart u o/\Q o H') X.xe s
def Hn:TO:=λ_ H Q=>Q none H
def Ho(t:TE):TO:=λσ H Q=>t σ H λx H1=>∃i,x= .int i/\Q (some i) H1
section
variable {X:Cx}{e:Expr}{te:TE}{lo hi:Option Expr}{tl th:TO}{pos p2:Pos}
theorem Cg:PO X none Hn:=by
 intro aa s σ H Q I h;rw[evalPart_none];exact b5 ⟨none,H,I, .none,h⟩
theorem kj(h:PE X e te):PO X (some e) (Ho te):=by
 intro aa s σ H Q I hw;rw[evalPart_some];refine bC (h aa s σ H _ I hw) λu s1 ⟨x,H1,I1,r1,q1⟩=> ?_;obtain⟨i,rfl,q⟩:=q1;obtain⟨t,rfl⟩:=r1;exact⟨some i,H1,I1, .int i t,q⟩
def lg(X:Cx)(r:V->Option Int->Option Int->Hp->VK->Prop):Prop:=
 ∀(aa:List (Addr×Obj)) (s:Shared) (σ:St) (H:Hp) (x:V) (v vl vu:Value) (lo hi:Option Int) (sl:Addr) (Q:VK),Inv X aa σ H s->RelV x v->s.heap.IsSliceOf sl vl vu .none->IsPart vl lo->IsPart vu hi->r x lo hi H Q->
  ∃T id,typeLookup (.type T) "__getitem__"=pure (some (.builtin id))/\s.TypeIs v T/\wpAny (model X.prog X.w) X.A (tf v (.ref sl)) (EP X aa σ Q) X.xe s
theorem lg.or{r r':V->Option Int->Option Int->Hp->VK->Prop}(h:lg X r)(h':lg X r'):lg X (λx lo hi H Q=>r x lo hi H Q\/r' x lo hi H Q):=by
 intro aa s σ H x v vl vu lo hi sl Q I rx hs pl pu q;rcases q with q | q
 ·exact h aa s σ H x v vl vu lo hi sl Q I rx hs pl pu q
 ·exact h' aa s σ H x v vl vu lo hi sl Q I rx hs pl pu q
def vR(r:V->Option Int->Option Int->Hp->VK->Prop)(te:TE)(tl th:TO):TE:=λσ H Q=>te σ H λx H1=>tl σ H1 λl H2=>th σ H2 λu H3=>r x l u H3 Q
theorem o4{r:V->Option Int->Option Int->Hp->VK->Prop}(hr:lg X r)(he:PE X e te)(hl:PO X lo tl)(hu:PO X hi th):PE X (.Subscript e (.Slice lo hi none p2) pos) (vR r te tl th):=by
 intro aa s σ H Q I h;refine Subscript_ (bC (he aa s σ H _ I h) λv s1 ⟨x,H1,I1,r1,q1⟩=> ?_);refine wpAny_Slice (bC (hl aa s1 σ H1 _ I1 q1) λvl s2 ⟨l,H2,I2,pl,q2⟩=>bC (hu aa s2 σ H2 _ I2 q2) λvu s3 ⟨u,H3,I3,pu,q3⟩=> ?_);rw[evalPart_none];refine b5 ?_;have I4:Inv X aa σ H3 { s3 with heap:=s3.heap.push { cls:= .type "slice",data:= .fields #[vl,vu, .none] } }:=I3.kept (t':=s3.toks) λb ob q=>dN _ q;obtain⟨T,id,hT,ht,hg⟩:=hr aa { s3 with heap:=s3.heap.push { cls:= .type "slice",data:= .fields #[vl,vu, .none] } } σ H3 x v vl vu l u s3.heap.objs.size Q I4 r1 (Heap.IsSliceOf.new ..) pl pu q3;show wpAny (model X.prog X.w) X.A (M5 e (.Slice lo hi none p2) v (.ref s3.heap.objs.size)) (EP X aa σ Q) X.xe { s3 with heap:=s3.heap.push { cls:= .type "slice",data:= .fields #[vl,vu, .none] } };exact tail_any (ops:= [.ref s3.heap.objs.size,v]) ht hT hg (by with_unfolding_all rfl)
def tW(xs:List V)(lo hi:Option Int):List V:=(xs.drop (HT.bz xs.length 0 lo)).take (HT.bz xs.length xs.length hi - HT.bz xs.length 0 lo)
theorem Hq(xs:List V)(lo hi:Option Int):(tW xs lo hi).length<=xs.length:=by
 unfold tW;rw[xZ,Y0]
 lia
def Hr(K:ak):V->Option Int->Option Int->Hp->VK->Prop:=λx lo hi H Q=>∃a xs,x= .ref a/\cD K H a xs/\
 ¬ (HT.bz xs.length 0 lo=0/\HT.bz xs.length xs.length hi=xs.length)/\∀p,H p=none->Q (.ref p) (upd H p (.tup (tW xs lo hi)))
theorem PF:lg X (Hr X.K):=by
 intro aa s σ H x v vl vu lo hi sl Q I rx hs pl pu h;obtain⟨a,xs,rfl,hx,hw,q⟩:=h;cases rx;obtain⟨ax,r,ht,hz⟩:=I.tuple hx;have dM:ax.toArray.size=xs.length:=by rw[gI];exact r.length.symm
 refine⟨"tuple",_,ya.lookup,ht.typeIs, ?_⟩;refine HT.PD ht hs pl pu (by rw[dM];exact hw) ?_ (by rw[dM];exact hz);rw[dM];refine⟨.ref s.heap.objs.size,_,I.laid (t':=s.toks) (o:= .tup (tW xs lo hi)) (λb ob q=>dN _ q) (bT _) ?_,rfl,q _ (I.aU.fresh (bT _))⟩;exact⟨dC (Hq xs lo hi) hz,_,(r.drop (HT.bz xs.length 0 lo)).take (HT.bz xs.length xs.length hi - HT.bz xs.length 0 lo),Ny _ _⟩
def Hs(K:ak):R2:=λx y H Q=>∃a b xs ys,x= .ref a/\y= .ref b/\cD K H a xs/\cD K H b ys/\xs≠ []/\xs.length + ys.length<=aN/\
 (ys= []->Q (.ref a) H)/\(ys≠ []->∀p,H p=none->Q (.ref p) (upd H p (.tup (xs++ys))))
theorem bA.Ci{xs:List V}{us:List Value}(r:bA xs us):us= []↔xs= []:=by
 cases r with
 |nil=>simp
 |cons _ _=>simp
theorem PH:dg X (lF .Add) (Hs X.K):=by
 intro aa s σ H x y v u Q I rx ry h;obtain⟨a,b,xs,ys,rfl,rfl,ha,hb,hx,hz,q1,q2⟩:=h;cases rx;cases ry;obtain⟨ax,r1,p1,_⟩:=I.tuple ha;obtain⟨qk,r2,p2,_⟩:=I.tuple hb;refine HT.Pw p1 p2 (λz=>hx (r1.Ci.mp z)) (λz=>⟨.ref a,H,I,rfl,q1 (r2.Ci.mp z)⟩) (λz=> ?_) (by rw[<- r1.length, <- r2.length];exact hz);refine⟨.ref s.heap.objs.size,_,I.laid (t':=s.toks) (o:= .tup (xs++ys)) (λb ob q=>dN _ q) (bT _) ?_,rfl,q2 (λw=>z (r2.Ci.mpr w)) _ (I.aU.fresh (bT _))⟩;exact⟨by rw[b6];exact hz,_,r1.append r2,Ny _ _⟩
end
noncomputable def bJ (n:Nat) (i:Int):Option Nat:=if 0<=i then(if i < n then some i.toNat else none) else if -(n:Int)<=i then some (i + n).toNat else none
def ql{α:Type}(xs:List α)(i:Int):Option α:=(bJ xs.length i).bind λj=>xs[j]?
theorem Ht{n:Nat}{i:Int}{j:Nat}(h:bJ n i=some j):seqIndex? i n=some j/\j < n/\ -(n:Int)<=i/\i < n:=by
 unfold bJ at h;by_cases h0:0<=i
 ·rw[if_pos h0]at h;by_cases h1:i < n
  ·rw[if_pos h1]at h;have e:i.toNat=j:=jQ h;exact⟨by rw[M6 h0 h1,e],by lia,by lia,h1⟩
  ·rw[if_neg h1]at h;cases h
 ·rw[if_neg h0]at h;by_cases h1: -(n:Int)<=i
  ·rw[if_pos h1]at h;have e:(i + n).toNat=j:=jQ h;exact⟨by rw[M7 (by lia) h1,e],by lia,h1,by lia⟩
  ·rw[if_neg h1]at h;cases h
theorem Cj{α:Type}{xs:List α}{i:Int}{v:α}(h:ql xs i=some v):∃j,seqIndex? i xs.length=some j/\xs[j]?=some v/\j < xs.length/\ -(xs.length:Int)<=i/\i < xs.length:=by
 unfold ql at h;cases e:bJ xs.length i with
 |none=>rw[e]at h;cases h
 |some j=>
  rw[e]at h;obtain⟨h1,h2,h3,h4⟩:=Ht e;exact⟨j,h1,h,h2,h3,h4⟩
def Hu(b:Expr):Prop:=∀o i,subscripted b false o i=operate [o,i] (tf o i)
def lP(X:Cx)(r:R2):Prop:=
 ∀(value slice:Expr) (aa:List (Addr×Obj)) (s:Shared) (σ:St) (H:Hp) (x y:V) (v u:Value) (Q:VK),Inv X aa σ H s->RelV x v->RelV y u->r x y H Q->
  subscripted slice false v u=operate [v,u] (tf v u)->wpAny (model X.prog X.w) X.A (M5 value slice v u) (EP X aa σ Q) X.xe s
def Hv(X:Cx)(id:String)(r:V->List V->Hp->VK->Prop):Prop:=
 ∀(aa:List (Addr×Obj)) (s:Shared) (σ:St) (H:Hp) (x:V) (xs:List V) (v:Value) (us:List Value) (Q:VK),Inv X aa σ H s->RelV x v->bA xs us->r x xs H Q->
  wpAny (model X.prog X.w) X.A (call (.builtin id) (v::us)) (EP X aa σ Q) X.xe s
section
variable {X:Cx}{a b:Expr}{ta tb:TE}{pos:Pos}
theorem lP.or{r r':R2}(h:lP X r)(h':lP X r'):lP X (λx y H Q=>r x y H Q\/r' x y H Q):=by
 intro value slice aa s σ H x y v u Q I rx ry q hs;rcases q with q | q
 ·exact h value slice aa s σ H x y v u Q I rx ry q hs
 ·exact h' value slice aa s σ H x y v u Q I rx ry q hs
theorem PJ{r:R2}(hr:lP X r)(ha:PE X a ta)(hb:PE X b tb)(hs:Hu b):PE X (.Subscript a b pos) (jL r ta tb):=by
 intro aa s σ H Q I h;exact Subscript_ (B3 ha hb I h λv u s2 x y H2 I2 rx ry q=>hr a b aa s2 σ H2 x y v u Q I2 rx ry q (hs _ _))
def Hw(K:ak):R2:=λx y H Q=>∃p xs i v,x= .ref p/\y= .int i/\bW K H p xs/\ql xs i=some v/\Q v H
def Hx(K:ak):R2:=λx y H Q=>∃p xs i v,x= .ref p/\y= .int i/\cD K H p xs/\ql xs i=some v/\Q v H
def Hy:R2:=λx y H Q=>∃z i c,x= .str z/\y= .int i/\z.length<=aN/\ql z.cps.toList i=some c/\Q (.str ⟨#[c]⟩) H
theorem PK:lP X (Hw X.K):=by
 intro value slice aa s σ H x y v u Q I rx ry h hs;obtain⟨p,xs,i,z,rfl,rfl,hq,he,q⟩:=h;cases rx;obtain⟨t,rfl⟩:=ry;obtain⟨ax,r,pl,hz⟩:=I.list hq;obtain⟨j,h1,h2,h3,h4,h5⟩:=Cj he;obtain⟨w,ew,ll⟩:=r.get h2;have hl:=r.length;have hn:=rG;have fin:EP X aa σ Q w s:=⟨z,H,I,ll,q⟩
 by_cases h0:0<=i
 ·have hj:i.toNat=j:=by
   rw[M6 h0 h5]at h1;exact jQ h1
  exact item_listR pl.isList h0 (by lia) (by rw[hj];simpa using ew) fin hs
 ·have hj:(i + (ax.toArray.size:Int)).toNat=j:=by
   rw[M7 (by lia) h4]at h1;rw[gI, <- hl];exact jQ h1
  exact YM (x:=w) pl.isList.typeIs slot_list_getitem.lookup
   (wpAny_getItem_list_neg (Q:=λr s'=>r=w/\EP X aa σ Q r s') pl.isList (by lia) (by rw[gI]<;> lia) (by lia) (by rw[hj];simpa using ew) ⟨rfl,fin⟩) hs
theorem PL:lP X (Hx X.K):=by
 intro value slice aa s σ H x y v u Q I rx ry h hs;obtain⟨p,xs,i,z,rfl,rfl,hq,he,q⟩:=h;cases rx;obtain⟨t,rfl⟩:=ry;obtain⟨ax,r,pl,hz⟩:=I.tuple hq;obtain⟨j,h1,h2,h3,h4,h5⟩:=Cj he;obtain⟨w,ew,ll⟩:=r.get h2;have hl:=r.length;have hn:=rG;have fin:EP X aa σ Q w s:=⟨z,H,I,ll,q⟩
 exact YM (x:=w) pl.typeIs slot_tuple_getitem.lookup
  (getItem_tuple (j:=j) (Q:=λr s'=>r=w/\EP X aa σ Q r s') pl (by lia) (by lia) (by rw[gI, <- hl];exact h1) (by simpa using ew) ⟨rfl,fin⟩) hs
theorem PM:lP X Hy:=by
 intro value slice aa s σ H x y v u Q I rx ry h hs;obtain⟨z,i,c,rfl,rfl,hz,he,q⟩:=h;obtain⟨t,rfl⟩:=rx;obtain⟨t',rfl⟩:=ry;obtain⟨j,h1,h2,h3,h4,h5⟩:=Cj he;have hl:z.cps.toList.length=z.length:=by simp[Str.length]
 rw[hl]at h1 h4 h5;have hn:=rG;exact tail_any (typeIs_str s z t) slot_str_getitem.lookup (getItem_str (c:=c) (by
  have e1:decide (i < -(2 ^ 63:Int))=false:=decide_eq_false (by lia);have e2:decide (i≥2 ^ 63)=false:=decide_eq_false (by lia);rw[e1,e2,Bool.or_false]) (by rw[h1];simpa using h2) ⟨.str ⟨#[c]⟩,H,I.tok _,⟨_,rfl⟩,q⟩) hs
def Ck(K:ak):R2:=λx y H Q=>Hw K x y H Q\/Hx K x y H Q\/Hy x y H Q
theorem PN:lP X (Ck X.K):=PK.or (PL.or PM)
theorem PQ(ax:List Value)(n j:Nat)(u:Value):Bt (·.setIfInBounds j u) { cls:= .type "list",data:= .seq ax.toArray n }= { cls:= .type "list",data:= .seq (ax.set j u).toArray n }:=by
 simp[Bt]
theorem Inv.lst{aa:List (Addr×Obj)}{σ:St}{H:Hp}{s:Shared}{p:Addr}{xs:List V}(I:Inv X aa σ H s)(h:H p=some (.lst xs)):
  ∃(ax:List Value) (n:Nat),bA xs ax/\s.heap.get? p=some { cls:= .type "list",data:= .seq ax.toArray n }/\xs.length<=aN:=by
 obtain⟨z,ax,n,r,e⟩:=I.aU p _ h;exact⟨ax,n,r,e,z⟩
theorem Inv.PR{aa:List (Addr×Obj)}{σ:St}{H:Hp}{s:Shared}{p:Addr}{xs ys:List V}{ax its':List Value}{n n':Nat}{f:Obj->Obj}(I:Inv X aa σ H s)(h:H p=some (.lst xs))
  (ho:s.heap.get? p=some { cls:= .type "list",data:= .seq ax.toArray n }) (hf:f { cls:= .type "list",data:= .seq ax.toArray n }= { cls:= .type "list",data:= .seq its'.toArray n' }) (r:bA ys its') (hz:ys.length<=aN) (t:Nat):
  Inv X aa σ (upd H p (.lst ys)) { s with heap:=s.heap.update p f,toks:=t }:=by
 have e:(s.heap.update p f).get? p=some { cls:= .type "list",data:= .seq its'.toArray n' }:=by
  rw[Nz f ho (by rw[hf]<;> rfl),hf]
 refine I.write (x:=p) (e:=p) (by rw[h];trivial) (.inl rfl) (λb u hb q=>(Y2 _ _ (dS hb)).trans q) ⟨_,e⟩ ?_;exact⟨hz,its',n',r,e⟩
def Hz:V->V->V->Hp->(Hp->Prop)->Prop:=λo i v H Q=>∃p xs k j,o= .ref p/\i= .int k/\H p=some (.lst xs)/\bJ xs.length k=some j/\Q (upd H p (.lst (xs.set j v)))
theorem Be:GZ X Hz:=by
 intro aa s σ H o i v ov iv u Q I ro ri rv h;obtain⟨p,xs,k,j,rfl,rfl,hp,hj,q⟩:=h;cases ro;obtain⟨t,rfl⟩:=ri;obtain⟨ax,n,r,ho,hz⟩:=I.lst hp;obtain⟨h1,h2,h3,h4⟩:=Ht hj;have hl:=r.length;have hn:=rG;have I':Inv X aa σ (upd H p (.lst (xs.set j v))) { s with heap:=s.heap.update p (Bt (·.setIfInBounds j u)) }:=
  I.PR hp ho (PQ ax n j u) (r.set rv j) (by rw[bI];exact hz) s.toks
 by_cases h0:0<=k
 ·have hk:k.toNat=j:=by
   rw[M6 h0 h4]at h1;exact jQ h1
  exact W.ki_setAt ho h0 (by lia) (by rw[gI, <- hl];exact h4) (by rw[hk];exact⟨_,I',q⟩)
 ·have hk:(k + (ax.toArray.size:Int)).toNat=j:=by
   rw[M7 (by lia) h3]at h1;rw[gI, <- hl];exact jQ h1
  exact W.ki_setBack ho (by lia) (by rw[gI, <- hl];exact h3) (by lia) (by rw[hk];exact⟨_,I',q⟩)
theorem PU(lo hi:Option Int)(n:Nat):(vi lo hi none n).1=((HT.bz n 0 lo:Nat):Int)/\(vi lo hi none n).2.1=((HT.bz n n hi:Nat):Int)/\(vi lo hi none n).2.2=1:=by
 refine⟨?_, ?_,rfl⟩
 ·cases lo with
  |none=>simp[vi,HT.bz]
  |some i=>
   simp only[vi,HT.bz,Y3,show(1:Int) > 0 by decide,if_true];by_cases h:i < 0
   ·simp only[h,if_true]<;> lia
   ·simp only[h,if_false]<;> lia
 ·cases hi with
  |none=>simp[vi,HT.bz]
  |some i=>
   simp only[vi,HT.bz,Y3,show(1:Int) > 0 by decide,if_true];by_cases h:i < 0
   ·simp only[h,if_true]<;> lia
   ·simp only[h,if_false]<;> lia
theorem PV(ax:List Value)(lo hi:Option Int):slicePick ax.toArray lo hi none=((ax.drop (HT.bz ax.length 0 lo)).take (HT.bz ax.length ax.length hi - HT.bz ax.length 0 lo)).toArray:=by
 obtain⟨h1,h2,h3⟩:=PU lo hi ax.toArray.size;unfold slicePick;rw[h1,h2,h3];simp only[sliceRange_one,pick_run,gI]<;> rfl
def HA(K:ak):V->Option Int->Option Int->Hp->VK->Prop:=λx lo hi H Q=>∃a xs,x= .ref a/\bW K H a xs/\∀p,H p=none->Q (.ref p) (upd H p (.lst (tW xs lo hi)))
theorem PX:lg X (HA X.K):=by
 intro aa s σ H x v vl vu lo hi sl Q I rx hs pl pu h;obtain⟨a,xs,rfl,hx,q⟩:=h;cases rx;obtain⟨ax,r,ht,hz⟩:=I.list hx;have dM:=r.length;refine⟨"list",_,slot_list_getitem.lookup,ht.isList.typeIs, ?_⟩;refine wpAny_getItem_list_slice ht.isList hs pl pu .none (by simp) ?_ (by rw[gI]<;> lia);rw[PV, <- dM];refine⟨.ref s.heap.objs.size,_,I.laid (t':=s.toks) (o:= .lst (tW xs lo hi)) (λb ob q=>dN _ q) (bT _) ?_,rfl,q _ (I.aU.fresh (bT _))⟩;exact⟨dC (Hq xs lo hi) hz,_,0,(r.drop (HT.bz xs.length 0 lo)).take (HT.bz xs.length xs.length hi - HT.bz xs.length 0 lo),iH _ rfl⟩
noncomputable def jq:V->Bool
 |.az=>true
 |.bl _=>true
 |.int _=>true
 |.str _=>true
 |_=>false
noncomputable def nI:V->V->Bool
 |.az, .az=>true
 |.bl a, .bl b=>a == b
 |.bl a, .int b=>(if a then 1 else 0) == b
 |.int a, .bl b=>a == (if b then 1 else 0)
 |.int a, .int b=>a == b
 |.str a, .str b=>a == b
 |_,_=>false
theorem PY{A:Around}{s:Shared}{y x:V}{u v:Value}(ry:RelV y u)(rx:RelV x v)(fy:jq y=true)(fx:jq x=true):SeqAt.EqAt A s u v (nI y x):=by
 cases y with
 |az=>
  cases ry;cases x with
  |az=>cases rx;exact SeqAt.EqAt.same _
  |bl b=>cases rx;exact SeqAt.EqAt.none_bool b
  |int b=>obtain⟨t,rfl⟩:=rx;exact SeqAt.EqAt.none_int b t
  |str b=>obtain⟨t,rfl⟩:=rx;exact SeqAt.EqAt.none_str b t
  |_=>exact absurd (show false=true from fx) bh
 |bl a=>
  cases ry;cases x with
  |az=>cases rx;exact SeqAt.EqAt.bool_none a
  |bl b=>cases rx;exact SeqAt.EqAt.bool_bool a b
  |int b=>obtain⟨t,rfl⟩:=rx;exact SeqAt.EqAt.bool_int a b t
  |str b=>obtain⟨t,rfl⟩:=rx;exact SeqAt.EqAt.bool_str a b t
  |_=>exact absurd (show false=true from fx) bh
 |int a=>
  obtain⟨t',rfl⟩:=ry;cases x with
  |az=>cases rx;exact SeqAt.EqAt.int_none a t'
  |bl b=>cases rx;exact SeqAt.EqAt.int_bool a t' b
  |int b=>obtain⟨t,rfl⟩:=rx;exact SeqAt.EqAt.int_int a t' b t
  |str b=>obtain⟨t,rfl⟩:=rx;exact YR a t' b t
  |_=>exact absurd (show false=true from fx) bh
 |str a=>
  obtain⟨t',rfl⟩:=ry;cases x with
  |az=>cases rx;exact SeqAt.EqAt.str_none a t'
  |bl b=>cases rx;exact SeqAt.EqAt.str_bool a t' b
  |int b=>obtain⟨t,rfl⟩:=rx;exact YS a t' b t
  |str b=>obtain⟨t,rfl⟩:=rx;exact SeqAt.EqAt.str_str a t' b t
  |_=>exact absurd (show false=true from fx) bh
 |_=>exact absurd (show false=true from fy) bh
def o5(x:V)(u:Value):Bool:=match u with
 |.none=>nI .az x
 |.bool b=>nI (.bl b) x
 |.int i _=>nI (.int i) x
 |.str z _=>nI (.str z) x
 |_=>false
theorem HB{x y:V}{u:Value}(r:RelV y u)(f:jq y=true):o5 x u=nI y x:=by
 cases y with
 |az=>cases r;rfl
 |bl b=>cases r;rfl
 |int i=>obtain⟨t,rfl⟩:=r;rfl
 |str z=>obtain⟨t,rfl⟩:=r;rfl
 |_=>exact absurd (show false=true from f) bh
theorem Cm{x:V}:∀{xs:List V} {us:List Value},bA xs us->xs.all jq=true->us.any (o5 x)=xs.any λy=>nI y x
 |_,_, .nil,_=>rfl
 |y::xs,u::us, .cons r t,f=>by
  rw[List.all_cons,rj]at f;rw[vq,vq,HB r f.1,Cm t f.2]
theorem Cn{A:Around}{s:Shared}{x:V}{v:Value}(rx:RelV x v)(fx:jq x=true):∀{xs:List V} {us:List Value},bA xs us->xs.all jq=true->∀u∈us,SeqAt.EqAt A s u v (o5 x u)
 |_,_, .nil,_=>λu hu=>by cases hu
 |y::xs,u::us, .cons r t,f=>λu' hu=>by
  rw[List.all_cons,rj]at f;rcases bx.mp hu with rfl | hu
  ·rw[HB r f.1];exact PY r rx f.1 fx
  ·exact Cn rx fx t f.2 u' hu
def rO(x:V)(xs:List V):Bool:=xs.any λy=>nI y x
def HC(K:ak)(neg:Bool):R2:=λx y H Q=>∃p xs,y= .ref p/\(bW K H p xs\/cD K H p xs)/\jq x=true/\xs.all jq=true/\Q (.bl (if neg then !rO x xs else rO x xs)) H
theorem PZ:dg X (iB .In) (HC X.K false):=by
 intro aa s σ H x y v u Q I rx ry h;obtain⟨p,xs,rfl,hq,fx,fs,q⟩:=h;cases ry;rcases hq with hq | hq
 ·obtain⟨ax,r,pl,hz⟩:=I.list hq;refine SeqAt.in_listAt (o5 x) pl.isList (λw hw=>Cn rx fx r fs w (by simpa using hw)) ⟨.bl _,H,I,rfl, ?_⟩;rw[show ax.toArray.any (o5 x)=ax.any (o5 x) by simp,Cm r fs];exact q
 ·obtain⟨ax,r,pl,hz⟩:=I.tuple hq;refine SeqAt.in_tupleAt (o5 x) pl (λw hw=>Cn rx fx r fs w (by simpa using hw)) ⟨.bl _,H,I,rfl, ?_⟩;rw[show ax.toArray.any (o5 x)=ax.any (o5 x) by simp,Cm r fs];exact q
theorem P0:i0 X (.builtin "len") (λxs H Q=>∃p ys,xs= [.ref p]/\(bW X.K H p ys\/cD X.K H p ys)/\Q (.int ys.length) H):=by
 intro aa s σ H xs us Q I r h;obtain⟨p,ys,rfl,hq,q⟩:=h;obtain⟨u,rfl,rx⟩:=vals1 r;cases rx;have hn:=rG;rcases hq with hq | hq
 ·obtain⟨ax,r',pl,hz⟩:=I.list hq;have dM:=r'.length;exact Calls.call_len_list pl.isList (by simp only[gI]<;> lia) ⟨.int ys.length,H,I.tok _,⟨s.toks + 1,by rw[gI,dM]⟩,q⟩
 ·obtain⟨ax,r',pl,hz⟩:=I.tuple hq;have dM:=r'.length;exact len_tuple pl (by simp only[gI]<;> lia) ⟨.int ys.length,H,I.tok _,⟨s.toks + 1,by rw[gI,dM]⟩,q⟩
theorem P1:i0 X (.builtin "len") (λxs H Q=>∃z,xs= [.str z]/\z.length<=aN/\Q (.int z.length) H):=by
 intro aa s σ H xs us Q I r h;obtain⟨z,rfl,hz,q⟩:=h;obtain⟨u,rfl,t,rfl⟩:=vals1 r;have hn:=rG;exact len_str (by lia) ⟨.int z.length,H,I.tok _,⟨_,rfl⟩,q⟩
theorem P2:i0 X (.type "tuple") (λxs H Q=>∃p ys,xs= [.ref p]/\((bW X.K H p ys/\∀l,H l=none->Q (.ref l) (upd H l (.tup ys)))\/(cD X.K H p ys/\Q (.ref p) H))):=by
 intro aa s σ H xs us Q I r h;obtain⟨p,ys,rfl,h⟩:=h;obtain⟨u,rfl,rx⟩:=vals1 r;cases rx;rcases h with⟨hq,q⟩ | ⟨hq,q⟩
 ·obtain⟨ax,r',pl,hz⟩:=I.list hq;have dM:=r'.length;refine call_tuple_list pl.isList (λh' kp=> ?_) (by simp only[gI]<;> lia);have I1:Inv X aa σ H { s with heap:=h' }:=I.kept (t':=s.toks) kp;have I2:Inv X aa σ (upd H h'.objs.size (.tup ys)) { s with heap:=h'.push { cls:= .type "tuple",data:= .seq ax.toArray } }:=
   I1.laid (t':=s.toks) (λb o e=>dN _ e) (bT _) (show fP X.prog X.w _ _ _ (.tup ys) from⟨hz,ax,r',Ny _ _⟩)
  exact⟨.ref h'.objs.size,_,I2,rfl,q _ (I1.aU.fresh (bT _))⟩
 ·obtain⟨ax,r',pl,hz⟩:=I.tuple hq;exact call_tuple_same pl ⟨.ref p,H,I,rfl,q⟩
def tX(K:ak)(T:String)(x:V)(H:Hp):Prop:=match x with
 |.str _=>T="str"
 |.int _=>T="int"
 |.ref p=>(T="list"/\∃xs,bW K H p xs)\/(T="tuple"/\∃o,K.lookup p=some o/\o.cls= .type "tuple"/\o.dict=none)\/
   (T="dict"/\((∃aw,H p=some (.dK aw))\/∃aw,H p=some (.dT aw)))\/(T="set"/\∃S n,H p=some (.set S n))
 |_=>False
theorem P4{aa:List (Addr×Obj)}{σ:St}{H:Hp}{s:Shared}{T:String}{x:V}{v:Value}(I:Inv X aa σ H s)(r:RelV x v)(ty:tX X.K T x H):
  s.TypeIs v T/\∀a,v= .ref a->∃ob,s.heap.get? a=some ob/\ob.dict=none:=by
 cases x with
 |str z=>
  obtain⟨t,rfl⟩:=r;cases(show T="str" from ty);exact⟨typeIs_str s z t,λ_ e=>nomatch e⟩
 |int i=>
  obtain⟨t,rfl⟩:=r;cases(show T="int" from ty);exact⟨typeIs_int s i t,λ_ e=>nomatch e⟩
 |ref p=>
  cases r;rcases ty with⟨rfl,xs,hq⟩ | ⟨rfl,o,hk,hc,hd⟩ | ⟨rfl,hk⟩ | ⟨rfl,S,n,hk⟩
  ·obtain⟨ax,_,pl,_⟩:=I.list hq;refine⟨pl.isList.typeIs,λa e=> ?_⟩;cases e;obtain⟨o,n,e,c,hd,_⟩:=pl;exact⟨o,e,hd⟩
  ·refine⟨⟨o,I.g7 p o hk,hc⟩,λa e=> ?_⟩;cases e;exact⟨o,I.g7 _ o hk,hd⟩
  ·have z:∃o,s.heap.get? p=some o/\o.ExactDict:=by
    rcases hk with⟨aw,hk⟩ | ⟨aw,hk⟩
    ·obtain⟨_,_,_,_,o,_,_,e,ex,_⟩:=I.aU p _ hk;exact⟨o,e,ex⟩
    ·obtain⟨_,_,_,_,o,_,_,e,ex,_⟩:=I.aU p _ hk;exact⟨o,e,ex⟩
   obtain⟨o,e,ex⟩:=z;refine⟨⟨o,e,ex.1⟩,λa e2=> ?_⟩;cases e2;exact⟨o,e,ex.2.1⟩
  ·obtain⟨o,_,_,_,e,ex,_⟩:=I.aU p _ hk;refine⟨⟨o,e,ex.1⟩,λa e2=> ?_⟩;cases e2;exact⟨o,e,ex.2.1⟩
 |_=>exact mz ty
def vS(K:ak)(T:String)(r:V->List V->Hp->VK->Prop)(to:TE)(t:TA):TE:=λσ H Q=>to σ H λx H1=>tX K T x H1/\t σ H1 λxs H2=>r x xs H2 Q
variable {o e:Expr}{es:List Expr}{to:TE}{t:TA}{name:Str}{mw jr:Pos}{T id:String}{r:V->List V->Hp->VK->Prop}
theorem P5(pa:PlainAttrs T)(slot:Slot T name id)(vT:typeOf (.builtin id)=pure (.type "method_descriptor"))(hm:Hv X id r)(ho:PE X o to)(ha:PA X (e::es) t)
  (P6:vg o name X.env (eval o X.env)=eval o X.env:=by rfl)
  (P7:((backTo jr (dB (e::es) X.env)).all (λx=> !x.1) && (backToKw jr (M8 [] X.env)).all (λx=>x.1.isSome)
   && decide ((e::es).length + ([]:List Keyword).length + (if([]:List Keyword).isEmpty then 0 else 1) < 30))=true:=by rfl)
  (P8:(mw.endLine == jr.line)=true:=by rfl) (hs:dB (e::es) X.env=(false,eval e X.env)::dB es X.env:=by rfl) (P9:(backTo jr (dB es X.env)).any (·.1)=false:=by rfl):
  PE X (.Call (.Attribute o name mw) (e::es) [] jr) (vS X.K T r to t):=by
 intro aa s σ H Q I h;refine wpAny_Call_method_late P6 P7 P8 rfl (bC (ho aa s σ H _ I h) λv s1 ⟨x,H1,I1,r1,ty,q1⟩=> ?_);obtain⟨h1,h2⟩:=P4 I1 r1 ty;refine⟨T,id,pa,slot,vT,h1,h2, ?_⟩;have hA:=ha jr aa s1 σ H1 _ I1 q1;rw[hs]at hA |-;refine NB (by show(false || (backTo jr (dB es X.env)).any (·.1))=false;rw[P9]<;> rfl) (NC ?_);exact bC hA λus s2 ⟨vs,H2,I2,r2,q2⟩=>hm aa s2 σ H2 x vs v us Q I2 r1 r2 q2
/- xs.append(e),list.index on a Qa tuple .. are Hv facts of 06m -/
end
def Qb(X:Cx)(id:String)(r:V->List V->Hp->VK->Prop):Prop:=
 ∀(aa:List (Addr×Obj)) (s:Shared) (σ:St) (H:Hp) (x:V) (xs:List V) (v:Value) (us:List Value) (Q:VK),Inv X aa σ H s->RelV x v->bA xs us->r x xs H Q->
  wpAny (model X.prog X.w) X.A (call (.builtin id) (v::us)) (EP X aa σ Q) X.xe s
theorem bA.one:∀{x:V} {us:List Value},bA [x] us->∃u,us= [u]/\RelV x u
 |_,_, .cons r .nil=>⟨_,rfl,r⟩
theorem bA.rep{xs:List V}{us:List Value}(h:bA xs us):∀k:Nat,bA (bK k xs).flatten (bK k us).flatten
 |0=> .nil
 |k + 1=>by
  rw[vt,vt,Bu,Bu];exact bA.append h (bA.rep h k)
theorem foldl_rep(ax:List Value):∀(k:Nat) (aG:List Value),
  ND (λx1 x2=>x1++x2) aG.toArray (bK k ax.toArray)=(aG++(bK k ax).flatten).toArray
 |0,aG=>by simp
 |k + 1,aG=>by
  have e:aG.toArray++ax.toArray=(aG++ax).toArray:=by simp
  have e2:(aG++ax)++(bK k ax).flatten=aG++(bK (k + 1) ax).flatten:=by
   rw[vt,Bu,cZ]
  rw[<- e2, <- foldl_rep ax k (aG++ax), <- e,vt,List.foldl_cons]
section
variable {X:Cx}{aa:List (Addr×Obj)}{σ:St}{H:Hp}{s:Shared}{l b:Addr}{xs ys zs:List V}
theorem Inv.Qc{ax its':List Value}{n:Nat}{f:Array Value->Array Value}{t':Nat}(I:Inv X aa σ H s)(hH:H l=some (.lst xs))
  (e:s.heap.get? l=some { cls:= .type "list",data:= .seq ax.toArray n }) (hf:f ax.toArray=its'.toArray) (hv:bA ys its') (hz:ys.length<=aN):
  Inv X aa σ (upd H l (.lst ys)) { s with heap:=s.heap.update l (Bt f),toks:=t' }:=by
 have q:=PySem.IsL.update e f;rw[hf]at q;refine I.write (x:=l) (e:=l) (by rw[hH];exact trivial) (.inl rfl) (λb' u hb hu=>(Y2 s.heap (Bt f) (dS hb)).trans hu) ⟨_,q⟩ ?_;exact⟨hz,its',_,hv,q⟩
theorem Inv.HD{ax:List Value}{t':Nat}(I:Inv X aa σ H s)(hv:bA ys ax)(hz:ys.length<=aN):
  Inv X aa σ (upd H s.heap.objs.size (.lst ys)) { s with heap:=s.heap.push { cls:= .type "list",data:= .seq ax.toArray },toks:=t' }:=
 I.laid (λ_ _ q=>dN _ q) (bT _) ⟨hz,ax,0,hv,iH _ rfl⟩
theorem Inv.fresh(I:Inv X aa σ H s):H s.heap.objs.size=none:=I.aU.fresh (bT _)
theorem Inv.eQ(I:Inv X aa σ H s)(hH:H l=some (.lst xs)):xs.length<=aN/\∃(ax:List Value) (n:Nat),bA xs ax/\xs.length=ax.length/\s.heap.get? l=some { cls:= .type "list",data:= .seq ax.toArray n }:=by
 obtain⟨z,ax,n,r,e⟩:=I.aU l _ hH;exact⟨z,ax,n,r,r.length,e⟩
theorem Qd{n:Nat}(h:n<=aN):NF n=false:=by
 unfold NF;exact decide_eq_false (by lia)
end
section
variable {X:Cx}
def tY:V->List V->Hp->VK->Prop:=λx vs H Q=>∃l xs y,x= .ref l/\vs= [y]/\H l=some (.lst xs)/\xs.length < aN/\Q .az (upd H l (.lst (xs++ [y])))
theorem Qe:Qb X "list.append" tY:=by
 intro aa s σ H x vs v us Q I rx rv h;obtain⟨l,xs,y,rfl,rfl,hH,hz,q⟩:=h;cases rx;obtain⟨u,rfl,ru⟩:=rv.one;obtain⟨z,ax,n,r,hl,e⟩:=I.eQ hH;refine call_meets F.slot_list_append ⟨_,e,rfl⟩ F.entry_list_append (F.args_list_append_2 _ _) (PySem.list_append l ax.toArray n u (by rw[gI];lia)) ⟨e, ?_⟩;refine⟨.az,_,I.Qc (its':=ax++ [u]) hH e (by simp) (r.append (.cons ru .nil)) ?_,rfl,q⟩;rw[b6,tI]
 lia
def HE:R2:=λx y H Q=>∃l b xs zs,x= .ref l/\y= .ref b/\H l=some (.lst xs)/\H b=some (.lst zs)/\xs.length + zs.length<=aN/\∀p,H p=none->Q (.ref p) (upd H p (.lst (xs++zs)))
theorem Qf:dg X (lF .Add) HE:=by
 intro aa s σ H x y v u Q I rx ry h;obtain⟨l,b,xs,zs,rfl,rfl,hH,hB,hz,q⟩:=h;cases rx;cases ry;obtain⟨z,ax,n,r,hl,e⟩:=I.eQ hH;obtain⟨z2,qk,n2,r2,lq,e2⟩:=I.eQ hB;refine PySem.P.add_list e e2 ?_ (by rw[gI,gI];lia);have ea:ax.toArray++qk.toArray=(ax++qk).toArray:=by simp
 rw[ea];exact⟨.ref _,_,I.HD (t':=s.toks) (r.append r2) (by rw[b6];lia),rfl,q _ I.fresh⟩
def HF:R2:=λx y H Q=>∃l k xs,x= .ref l/\y= .int k/\H l=some (.lst xs)/\ -(2 ^ 63)<=k/\k < 2 ^ 63/\xs.length * k.toNat<=aN/\
 ∀p,H p=none->Q (.ref p) (upd H p (.lst (bK k.toNat xs).flatten))
theorem YH{α:Type}(xs:List α)(k:Nat):(bK k xs).flatten.length=k * xs.length:=by
 induction k with
 |zero=>simp
 |succ k ih=>rw[vt,Bu,b6,ih,Nat.succ_mul,Nat.add_comm]
theorem HG:dg X (lF .Mult) HF:=by
 intro aa s σ H x y v u Q I rx ry h;obtain⟨l,k,xs,rfl,rfl,hH,h1,h2,hz,q⟩:=h;cases rx;obtain⟨t,rfl⟩:=ry;obtain⟨z,ax,n,r,hl,e⟩:=I.eQ hH;have dM:ax.toArray.size * k.toNat<=aN:=by rw[gI, <- hl];exact hz
 have Qg:¬ ax.toArray.size * k.toNat > (2 ^ 63 - 1) / 8:=by
  have:(aN:Nat)<=(2 ^ 63 - 1) / 8:=by decide
  lia
 have Cp:¬ (!Builtin.List.listFitsIndex k)=true:=by
  rw[fitsIndex_both h1 h2];exact bh
 have Qh:¬ NF (ax.toArray.size * k.toNat)=true:=by
  rw[Qd dM];exact bh
 have Qi:ND (λx1 x2=>x1++x2) #[] (bK (if ax.toArray.isEmpty=true then 0 else k.toNat) ax.toArray)=(bK k.toNat ax).flatten.toArray:=by
  have f0:∀m:Nat,ND (λx1 x2=>x1++x2) #[] (bK m ax.toArray)=(bK m ax).flatten.toArray:=λm=>by
   have:=foldl_rep ax m [];rw[Bv]at this;exact this
  rw[f0];cases ax with
  |nil=>simp
  |cons a r'=>rw[if_neg (by simp)]
 refine wpAny_binaryOp_repeat_ref (T:="list") (U:="int") (by decide) ⟨_,e,rfl⟩ (λs'=>typeIs_int s' k t) noFill_list_mul F.fills_int_mul F.slot_int_rmul repeat_list F.slot_int_index.lookup
  (call_meets F.slot_int_rmul (typeIs_int s k t) F.entry_int_rmul (F.args_int_rmul_2 _ _) (int___rmul___int_list k t l ax.toArray n)
   ⟨e,rfl,⟨_,e,rfl⟩,call_meets F.slot_list_mul ⟨_,e,rfl⟩ F.entry_list_mul (F.args_list_mul_2 _ _) (AutoListH.list___mul___list_int_3 l ax.toArray n k t Cp Qg Qh) ⟨e, ?_⟩⟩)
 rw[Qi];exact⟨.ref _,_,I.HD (t':=s.toks) (r.rep k.toNat) (by rw[YH,Nat.mul_comm];exact hz),rfl,q _ I.fresh⟩
end
section
variable {prog:Program}{w:World}{A:Around}{E:Value->Shared->Prop}{s:Shared}
end
section
variable {X:Cx}
end
end L2
namespace HH
open PySem PySem.W PySem.Calls PyProof.Rows
theorem Qj{P:Params}{h:Heap}:∀(ns:List Int) (vs:List Value),WellAll P h vs (ns.map WData.int)->Bj vs ns:=by
 intro ns
 induction ns with
 |nil=>
  intro vs w;rw[mC]at w;cases w;exact .nil
 |cons n ns ih=>
  intro vs w;rw[eO]at w;cases w with
  |cons a b=>
   cases a;exact .cons _ _ (ih _ b)
theorem Qk{l:OpenLaw}{n:Nat}(hn:l.most=some n){P:Params}{h:Heap}{args:List WData}{vals:List Value}
  (yD:l.row.toRowW.claim.pre args=true) (Cq:WellAll P h vals args):
  ∃a vs ns,vals= [fZ a]/\args= [WData.list (ns.map WData.int)]/\h.get? a=some { cls:= .type "list",data:= .seq vs.toArray }/\Bj vs ns/\ns.length<=n:=by
 have Ql:WShape.hasAll [] args [.list .int]=true:=(pre_splitW yD).1;have hc:l.pre.holds [] { args:=args }=true:=(pre_splitW yD).2;obtain⟨d,r,rfl,h1,h2⟩:=hasAllW_cons Ql;obtain rfl:=hasAllW_nil h2;obtain⟨xs,rfl,h3⟩:=hasW_list h1;obtain⟨ns,rfl⟩:=items_int h3;have dM:ns.length<=n:=by
  unfold OpenLaw.pre at hc;have h4:(WTm.not (.lt (.lit (.int (n:Int))) (.len (.arg 0)))).holds [] { args:= [.list (ns.map .int)] }=true:=by
   have h4:=(holds_andW hc).1;rw[hn]at h4;exact h4
  have h5:=condW_of h4 (w_not (w_lt w_lit (w_len_list (w_arg rfl))));rw[eG]at h5;refine Nat.le_of_not_lt λq=> ?_;have q':(n:Int) < ((ns.length:Nat):Int):=by lia
  first
   |(rw[decide_eq_true q']at h5;exact absurd h5 (by decide))
   |(simp at h5;lia)
 cases Cq with
 |cons w1 w2=>
  cases w2;cases w1 with
  |list ho mM=>exact⟨_,_,ns,rfl,rfl,ho,Qj ns _ mM,dM⟩
theorem Qm(l:OpenLaw)(args:List WData):l.row.toRowW.claim.post args (.bool true) args=true:=
 postW_of (r:=l.row.toRowW) (X:=(true == true))
  (show WShape.has [] (.bool true) .bool=true by first | rfl | decide | simp[WShape.has,WShape.arms,WShape.armsAll])
  (show(WTm.eq .res (.lit (.bool true))).value [] { args:=args,res:=some (.bool true),after:=args }=some (.bool (true == true)) from w_eq_bool (w_res rfl) w_lit) rfl
theorem Qn{l:OpenLaw}{n:Nat}{q:Program}{loose:List Str}{XP:(Str->Option Value)->Heap->Prop}{YP:World->Heap->Prop}{d:DefRec}
  (hn:l.most=some n) (vU:d.params.defaults= [])
  (call:∀(w:World) (gZ dh:Shared) (mg mb:Str->Option Value) (fa:Addr) (o:Obj) (pm cd doc:Value) (a:Addr) (vs:List Value) (ns:List Int),
   Ground q loose [] XP w gZ mg mb dh.heap->YP w dh.heap->
   dh.heap.get? fa=some o->o.data= .func (docDef d.name d.params d.body d.scope pm cd doc)->dh.heap.CodeRec cd d.name->mg d.name=some (.ref fa)->
   dh.heap.get? a=some { cls:= .type "list",data:= .seq vs.toArray }->Bj vs ns->ns.length<=n->dh.gens=#[]->
   pZ (model l.prog w) vj (.call (.ref fa) ⟨[.ref a], []⟩) (λr s'=>r= .ok (.ret (.bool true))/\OldK dh.heap s'.heap/\s'.os=dh.os/\sX s'.gens) dh):
  WalkO q loose XP YP l.row.toRowW d [] (λf vs=>NG f vs):=by
 intro w gZ dh mg mb G Y fa o pm cd doc dV kV ho hd mF hD hmg hg args vals as yD Zx Zy Cq Zz;obtain rfl:dV= .none:=Dflts.none hD vU;obtain rfl:kV= .none:=Dflts.noKw hD;obtain⟨a,vs,ns,rfl,rfl,Cr,hints,dM⟩:=Qk hn yD Cq;refine enter_call (FL (call w gZ dh mg mb fa o pm cd doc a vs ns G Y ho (fd_plain hd) mF hmg Cr hints dM hg) λr s' hq=> ?_);obtain⟨rfl,h2,h3,h4⟩:=hq;exact⟨.inl ⟨.bool true, .bool true, [],rfl,λ_=>rfl, .bool true,Qm l _,λ_=>⟨Gq.nil,λ_ hm=>(nomatch hm)⟩⟩,h2,h3,h4⟩
section
variable {prog:Program}{w:World}{A:Around}{E:Value->Shared->Prop}{s:Shared}{K:Frag}
end
end HH
namespace L2
open PySem PySem.Spec PyProof.Rows
theorem HI:∀{vs:List Value} {ns:List Int},Bj vs ns->bA (ns.map V.int) vs
 |_,_, .nil=> .nil
 |_,_, .cons n t h=> .cons ⟨t,rfl⟩ (HI h)
def yE(H:Hp):Prop:=∀b,H b=none\/∃o xs,H b=some (.gC o (.lst xs))
theorem Qo{P:Program}{w:World}{K:ak}{mg mb:Str->Option Value}{CX:lO}{k:Nat}{fa a:Addr}{fd:jl}{x:Str}{sp:Sp}{dh:Shared}{vs:List Value}{ns:List Int}
  (KX:K.In dh.heap) (HJ:dh.heap.Ns kS mg) (hb:dh.heap.Ns FJ mb) (Qp:∀x:Str,x≠"__name__"->mb x=xO x) (Qq:dh.heap.NoLimit) (hg:dh.gens=#[])
  (ha:dh.heap.get? a=some { cls:= .type "list",data:= .seq vs.toArray }) (hi:Bj vs ns) (hl:ns.length<=aN) (hr:gn k vj)
  (F:∀base:Heap,K.In base->base.Ns kS mg->dO P w K mg base CX k fa fd [x] sp) (Qr:∀(s:Shared) (u:Value),xR s fd ⟨[u], []⟩ [(x,u)])
  (qi:∀H:Hp,yE H->bW K H a (ns.map V.int)->sp [.ref a] H (λv _=>v= .bl true) λ_ _ _=>False)
  (Cs:∀H e s',CX [] H dh (λ_ _ _=>False) e s'->False):
  pZ (model P w) vj (.call (.ref fa) ⟨[.ref a], []⟩) (λr s'=>r= .ok (.ret (.bool true))/\OldK dh.heap s'.heap/\s'.os=dh.os/\sX s'.gens) dh:=by
 have rv:=HI hi;have Qs:=hi.length
 -- from an abstract heap in ZA nothing but mH Qt may be tracked
 have core:∀H:Hp,yE H->bW K H a (ns.map V.int)->gc P w H dh.heap->(∀b,H b≠none->b=a)->(H a≠none->K.lookup a=none)->
   pZ (model P w) vj (.call (.ref fa) ⟨[.ref a], []⟩) (λr s'=>r= .ok (.ret (.bool true))/\OldK dh.heap s'.heap/\s'.os=dh.os/\sX s'.gens) dh:=by
  intro H hO hS aU hA hK;have HK:∀{b:Addr} {o:Obj},dh.heap.get? b=some o->H b=none->(oN dh.heap H).get? b=some o:=λe n=>Ot e n;have rL:∀{b:Addr} {o:Obj} {es:Array DictEntry} {ep:Nat},dh.heap.get? b=some o->o.data= .dict es ep->H b=none:=λ{b o es ep} e d=>by
   cases q:H b with
   |none=>rfl
   |some u=>
    have e':b=a:=hA b (by rw[q];simp);subst e';rw[ha]at e;cases e;have d':Data.seq vs.toArray _=Data.dict es ep:=d;cases d'
  have yF:∀{b:Addr} {m:Str->Option Value},dh.heap.Ns b m->(oN dh.heap H).Ns b m:=λ{b m} ⟨o,es,ep,e,d,r⟩=>⟨o,es,ep,HK e (rL e d),d,r⟩
  have HL:K.In (oN dh.heap H):=λb o e=>HK (KX b o e) (by
   cases q:H b with
   |none=>rfl
   |some u=>
    have e':b=a:=hA b (by rw[q];simp);subst e';rw[hK (by rw[q];simp)]at e;cases e)
  have hM:Mod K mg (oN dh.heap H):=⟨HL,yF HJ,⟨mb,yF hb,Qp⟩,let ⟨mc,h1,h2⟩:=Qq;⟨mc,yF h1,h2⟩⟩
  have e0:rK P w K mg (oN dh.heap H) vj [] dh H:=⟨rfl,hM,λb o e=>Ou e,Nn (Oq _ _),trivial,λb hb=>absurd (show b∈([]:List Addr) from hb) (by simp),aU, .of_eq hg⟩
  refine FL ((F _ HL (yF HJ)).run vj [] dh H ⟨[.ref a], []⟩ [.ref a] [.ref a] _ _ hr e0 (Qr dh (.ref a)) (.cons rfl .nil) (qi H hO hS)) λr s' h=> ?_;cases r with
  |error e=>exact(Cs H e s' h).elim
  |ok fl=>
   cases fl with
   |next=>exact mz h
   |brk=>exact mz h
   |cont=>exact mz h
   |ret u=>
    obtain⟨v,H',os,bare,un,Qu,r',q⟩:=h;have q':v= .bl true:=q;subst q';obtain rfl:u=FV true:=r';refine⟨rfl,OldK.of_keep λb o e=> ?_,os,bare⟩;cases q:H b with
    |none=>exact un.keep b o e q (by intro z;exact absurd (show b∈([]:List Addr) from z) (by simp)) (by simp)
    |some u=>
     rcases hO b with z | ⟨ob,xs,z⟩
     ·rw[q]at z;cases z
     ·have z2:=un.nz b ob _ z;obtain⟨e1,_⟩:=aU b _ z;obtain⟨e2,_⟩:=Qu b _ z2;rw[e]at e1;cases e1;exact e2
 cases hk:K.lookup a with
 |some o=>
  -- mH Qt is one of mH Qa own objects
  have e:=KX a o hk;rw[ha]at e;cases e;refine core (λ_=>none) (λ_=> .inl rfl) (.inr ⟨_,vs.toArray,_,hk,rfl,rfl,rfl,by rw[gI,Qs];exact hl,by simpa using rv⟩) (λb u z=>by have z':(none:Option HO)=some u:=z;cases z') (λb z=>absurd rfl z) λz=>absurd rfl z
 |none=>
  refine core (λb=>if b=a then some (.gC { cls:= .type "list",data:= .seq vs.toArray } (.lst (ns.map V.int))) else none) (λb=> ?_) (.inl (.inr ⟨{ cls:= .type "list",data:= .seq vs.toArray },if_pos rfl⟩)) (λb u z=> ?_) (λb z=> ?_) λ_=>hk
  ·by_cases hb:b=a
   ·exact .inr ⟨_,_,if_pos hb⟩
   ·exact .inl (if_neg hb)
  ·by_cases hb:b=a
   ·have z':=(if_pos hb).symm.trans z;cases z';subst hb;exact⟨ha,by rw[eG];exact hl,vs,_,rv,ha⟩
   ·have z':=(if_neg hb).symm.trans z;cases z'
  ·by_cases hb:b=a
   ·exact hb
   ·exact absurd (if_neg hb) z
theorem Qv{l:W.OpenLaw}{n k:Nat}{q:Program}{loose:List Str}{XP:(Str->Option Value)->Heap->Prop}{YP:World->Heap->Prop}{d:DefRec}{K:Params->ak}{CX:World->lO}{sp:World->Sp}{x:Str}
  (hn:l.most=some n) (yB:n<=aN) (vU:d.params.defaults= []) (hr:gn k vj)
  (hY:∀(w:World) (h:Heap),YP w h->(K w.params).In h)
  (F:∀(w:World) (mg:Str->Option Value) (fa:Addr) (h:Heap),(K w.params).In h->h.Ns kS mg->mg d.name=some (.ref fa)->
   ∃fd:jl,(∀(s:Shared) (u:Value),xR s fd ⟨[u], []⟩ [(x,u)])/\
    ∀base:Heap,(K w.params).In base->base.Ns kS mg->dO l.prog w (K w.params) mg base (CX w) k fa fd [x] (sp w))
  (qi:∀(w:World) (H:Hp) (a:Addr) (ns:List Int),ns.length<=n->yE H->bW (K w.params) H a (ns.map V.int)->sp w [.ref a] H (λv _=>v= .bl true) λ_ _ _=>False)
  (Cs:∀(w:World) (H:Hp) (s:Shared) (e:Value) (s':Shared),CX w [] H s (λ_ _ _=>False) e s'->False):
  W.WalkO q loose XP YP l.row.toRowW d [] (λf vs=>NG f vs):=by
 refine HH.Qn hn vU λw gZ dh mg mb fa o pm cd doc a vs ns G Y ho hd mF hmg Cr hints dM hg=> ?_;have KX:=hY w _ Y;obtain⟨fd,hb,hF⟩:=F w mg fa _ KX G.T.g hmg;exact Qo KX G.T.g G.T.b G.T.builtins G.T.nolimit hg Cr hints (dC dM yB) hr hF hb (λH hO hS=>qi w H a ns dM hO hS) λH e s'=>Cs w H dh e s'
noncomputable def YI (s:Stmt) (j:Nat):Stmt:=match s with
 |.ClassDef _ _ _ body _ _ _ _ _ _ _=>body.getD j (.Pass ⟨0,0,0,0⟩)
 |_=> .Pass ⟨0,0,0,0⟩
noncomputable def o6 (s:Stmt):Arguments:=match s with
 |.FunctionDef _ a _ _ _ _ _ _ _ _=>a
 |_=> { posonlyargs:= [],args:= [],vararg:=none,kwonlyargs:= [],kw_defaults:= [],kwarg:=none,defaults:= [] }
noncomputable def lQ (s:Stmt):List Stmt:=match s with
 |.FunctionDef _ _ b _ _ _ _ _ _ _=>b
 |_=> []
noncomputable def dZ (s:Stmt):Scope:=match s with
 |.FunctionDef _ _ _ _ _ _ sc _ _ _=>sc
 |_=> { kind:= .function,names:= [],isGenerator:=false,isCoroutine:=false }
noncomputable abbrev eR:lO:=λ_ _ _ _ _ _=>False
noncomputable abbrev E0:XK:=λ_ _ _=>False
theorem HM{X:Cx}:xN eR X E0:=λ_ _ _ _ _ _ _ h=>h.elim
structure gr(K:ak)(x qual:Str)(st:Stmt)(f:Addr)(fd:jl):Prop where
 ex:∃(oc:Value) (od:Option Addr) (kV doc pm:Value) (an:Option Addr) (dJ ct:Value) (nE:Array (Option Value)),
  fd=oC x qual (o6 st) (lQ st) (dZ st) .none kV doc pm an dJ ct/\K.lookup f=some ⟨oc,od, .func fd,nE⟩/\Bs K dJ qual=true
 kp:vo K (.ref f)=true
section
variable {P:Program}{w:World}{K:ak}{mg:Str->Option Value}{base:Heap}
theorem gr.ok{x qual:Str}{st:Stmt}{f:Addr}{fd:jl}{N ps:List Str}{k:Nat}{sp:Sp}(F:gr K x qual st f fd)(S:gJ N ps (dZ st))(len:∀vs H Q E,sp vs H Q E->vs.length=ps.length)
  (Ce:∀(dJ:Value) (A:Around) (outer:List Env) (s:Shared) (H:Hp) (vs:List V) (Q:VK) (E:XK),gn k (A.deeper (envOfC qual (dZ st) s.heap.objs.size f dJ))->sp vs H Q E->
   ∃t,kb (qh eR P w K mg base N qual (dZ st) f dJ A outer s H E).tS (lQ st) t/\t { nx:=λ_ H'=>Q .az H',rt:=Q } (start N vs) H):dO P w K mg base eR (k + 1) f fd ps sp:=by
 obtain⟨oc,od,kV,doc,pm,an,dJ,ct,nE,rfl,lk,mF⟩:=F.ex;refine Pu lk mF S len λA outer s H vs Q E hr qi=> ?_;obtain⟨t,h,q⟩:=Ce dJ A outer s H vs Q E hr qi;exact⟨t,h.tS,q⟩
theorem gr.binds{x qual:Str}{st:Stmt}{f:Addr}{fd:jl}{ps:List Str}(F:gr K x qual st f fd)
  (h:∀(kV doc pm:Value) (an:Option Addr) (dJ ct:Value) (us:List Value),us.length=ps.length->bindArgs (oC x qual (o6 st) (lQ st) (dZ st) .none kV doc pm an dJ ct) ⟨us, []⟩=pure (ps.zip us)):Binds K fd ps []:=by
 obtain⟨oc,od,kV,doc,pm,an,dJ,ct,nE,rfl,lk,mF⟩:=F.ex;exact .all (h kV doc pm an dJ ct)
theorem ir{x qual:Str}{st:Stmt}{f:Addr}{oc:Value}{od an:Option Addr}{nE:Array (Option Value)}{kV doc pm dJ ct:Value}(l:K.lookup f=some ⟨oc,od, .func (oC x qual (o6 st) (lQ st) (dZ st) .none kV doc pm an dJ ct),nE⟩)
  (c:Bs K dJ qual=true) (k:vo K (.ref f)=true):gr K x qual st f (oC x qual (o6 st) (lQ st) (dZ st) .none kV doc pm an dJ ct):=⟨⟨oc,od,kV,doc,pm,an,dJ,ct,nE,rfl,l,c⟩,k⟩
end
theorem i4{A:Around}{k:Nat}(hr:gn k A):A.units + 1 < cLine:=p5 (Nat.add_le_add_left (by decide:1<=64) _) hr.units
section
variable {X:Cx}
theorem pv(i:Nat){x:Str}{pos:Pos}(hN:X.N[i]?=some x:=by rfl)(hv:BJ X.env.scope x:=by first | exact tJ rfl | exact Or.inr (tJ rfl) | exact Or.inr (Or.inr rfl))(hd:(x == ("__debug__":Str))=false:=by decide)
  (mF:(x == ("__classdict__":Str))=false:=by decide):PE X (.Name x pos) (iX i):=OB hN hv hd mF
end
def aQ(H H':Hp):Prop:=∀b o,H b=some o->H' b=some o
theorem aQ.refl(H:Hp):aQ H H:=λ_ _ h=>h
theorem aQ.trans{H H1 H2:Hp}(a:aQ H H1)(b:aQ H1 H2):aQ H H2:=λc o h=>b c o (a c o h)
theorem aQ.free{H H':Hp}(e:aQ H H'){l:Addr}(h:H' l=Option.none):H l=Option.none:=by
 cases q:H l with
 |none=>rfl
 |some o=>
  rw[e l o q]at h;cases h
section
variable {κ:Type}[DecidableEq κ]
noncomputable def kl (aw:List (κ×V)) (k:κ):Option V:=(aw.find? λkv=>decide (kv.1=k)).map (·.2)
noncomputable def iq (aw:List (κ×V)) (k:κ) (v:V):List (κ×V):=
 if(aw.any λkv=>decide (kv.1=k))=true then aw.map (λkv=>if kv.1=k then(kv.1,v) else kv) else aw++ [(k,v)]
theorem yG{p:κ×V}{r:List (κ×V)}{k:κ}(e:p.1=k):kl (p::r) k=some p.2:=by simp[kl,vv,e]
theorem yH{p:κ×V}{r:List (κ×V)}{k:κ}(e:¬ p.1=k):kl (p::r) k=kl r k:=by simp[kl,vv,e]
theorem HN(k:κ):∀aw:List (κ×V),(aw.any λkv=>decide (kv.1=k))=(kl aw k).isSome
 | []=>rfl
 |p::r=>by
  rw[vq];by_cases e:p.1=k
  ·simp only[yG e,decide_eq_true e,Bool.true_or,NH]
  ·rw[yH e,decide_eq_false e,Bool.false_or];exact HN k r
theorem vV(aw:List (κ×V))(k:κ)(v:V):(iq aw k v).length<=aw.length + 1:=by
 unfold iq
 split
 ·rw[eG];lia
 ·rw[b6,eU,NI];lia
theorem ka.Ct{o:Option V}{u:Option Value}(r:ka o u):o.isSome=u.isSome:=by
 cases o with
 |none=>cases u with
  |none=>rfl
  |some _=>exact(show False from r).elim
 |some _=>cases u with
  |none=>exact(show False from r).elim
  |some _=>rfl
theorem ka.getD{o:Option V}{u:Option Value}{d:V}{d':Value}(r:ka o u)(rd:RelV d d'):RelV (o.getD d) (u.getD d'):=by
 cases o with
 |none=>cases u with
  |none=>exact rd
  |some _=>exact(show False from r).elim
 |some _=>cases u with
  |none=>exact(show False from r).elim
  |some _=>exact r
theorem KV.val{aw:List (κ×V)}{vs:List (κ×Value)}(r:KV aw vs)(k:κ):ka (kl aw k) (vk vs k):=by
 unfold KV at r
 induction r with
 |nil=>exact kU
 | @cons p q ps qs h t ih=>
  obtain⟨h1,h2⟩:=h;by_cases e:p.1=k
  ·have e':q.1=k:=h1.symm.trans e;have b:vk (q::qs) k=some q.2:=by simp[vk,vv,e']
   rw[yG e,b];exact h2
  ·have e':¬ q.1=k:=λz=>e (h1.trans z);have b:vk (q::qs) k=vk qs k:=by simp[vk,vv,e']
   rw[yH e,b];exact ih
theorem KV.any{aw:List (κ×V)}{vs:List (κ×Value)}(r:KV aw vs)(k:κ):(aw.any λkv=>decide (kv.1=k))=vs.any λkv=>decide (kv.1=k):=by
 unfold KV at r
 induction r with
 |nil=>rfl
 |cons h t ih=>rw[vq,vq,ih,h.1]
theorem KV.Cu{aw:List (κ×V)}{vs:List (κ×Value)}(r:KV aw vs)(k:κ){y:V}{u:Value}(ry:RelV y u):
  KV (aw.map λkv=>if kv.1=k then(kv.1,y) else kv) (vs.map λkv=>if kv.1=k then(kv.1,u) else kv):=by
 unfold KV at r |-
 induction r with
 |nil=>exact .nil
 | @cons p q ps qs h t ih=>
  rw[eO,eO];refine .cons ?_ ih;obtain⟨h1,h2⟩:=h;by_cases e:p.1=k
  ·rw[if_pos e,if_pos (h1.symm.trans e)];exact⟨h1,ry⟩
  ·rw[if_neg e,if_neg (λz=>e (h1.trans z))];exact⟨h1,h2⟩
theorem KV.put{aw:List (κ×V)}{vs:List (κ×Value)}(r:KV aw vs)(k:κ){y:V}{u:Value}(ry:RelV y u):KV (iq aw k y) (stored vs k u):=by
 unfold iq stored;rw[r.any k];by_cases e:(vs.any λkv=>decide (kv.1=k))=true
 ·rw[if_pos e,if_pos e];exact r.Cu k ry
 ·rw[if_neg e,if_neg e];exact Paired.snoc r ⟨rfl,ry⟩
theorem KV.length{aw:List (κ×V)}{vs:List (κ×Value)}(r:KV aw vs):aw.length=vs.length:=Bm r
end
theorem rP{P:Program}{w:World}{k:bB}{u:Value}(r:RelV (kV k) u):(iK P w).is k u=true:=by
 cases k with
 |inl i=>obtain⟨t,e⟩:=(show ∃t,u=xX i t from r);subst e;exact Oj P w i t
 |inr x=>obtain⟨t,e⟩:=(show ∃t,u=Bl x t from r);subst e;exact Ol P w x t
theorem HP{a b:bB}(e:kV a=kV b):a=b:=by
 cases a with
 |inl i=>cases b with
  |inl j=>have e':V.int i=V.int j:=e;injection e' with e';rw[e']
  |inr y=>exact nomatch (show V.int i=V.str y from e)
 |inr x=>cases b with
  |inl j=>exact nomatch (show V.str x=V.int j from e)
  |inr y=>have e':V.str x=V.str y:=e;injection e' with e';rw[e']
theorem HQ:∀{a b:List bB},a.map kV=b.map kV->a=b
 | [], [],_=>rfl
 | [],_::_,e=>by simp at e
 |_::_, [],e=>by simp at e
 |x::xs,y::ys,e=>by
  rw[eO,eO]at e;injection e with e1 e2
  rw[HP e1,HQ e2]
theorem HR{P:Program}{w:World}:∀{ks:List bB} {us:List Value},bA (ks.map kV) us->ItemsAre (iK P w) ks us
 | [],_,r=>by rw[mC]at r;cases r;exact .nil
 |k::ks,_,r=>by
  rw[eO]at r;cases r with
  |cons h t=>exact .cons (rP h) (HR t)
abbrev KT(H:Hp):List (List bB×V)->List (List bB×Addr×Value)->Prop:=Paired λp q=>p.1=q.1/\H q.2.1=some (.tup (p.1.map kV))/\RelV p.2 q.2.2
theorem KT.val{H:Hp}{aw:List (List bB×V)}{xs:List (List bB×Addr×Value)}(r:KT H aw xs)(k:List bB):ka (kl aw k) ((atKey xs k).map (·.2)):=by
 induction r with
 |nil=>exact kU
 | @cons p q ps qs h t ih=>
  obtain⟨h1,_,h2⟩:=h;by_cases e:p.1=k
  ·have e':q.1=k:=h1.symm.trans e;have b:atKey (q::qs) k=some q.2:=by simp[atKey,vv,e']
   rw[yG e,b];exact h2
  ·have e':¬ q.1=k:=λz=>e (h1.trans z);have b:atKey (q::qs) k=atKey qs k:=by simp[atKey,vv,e']
   rw[yH e,b];exact ih
theorem KT.Cu{H:Hp}{aw:List (List bB×V)}{xs:List (List bB×Addr×Value)}(r:KT H aw xs)(k:List bB){y:V}{u:Value}(ry:RelV y u):
  KT H (aw.map λkv=>if kv.1=k then(kv.1,y) else kv) (xs.map (putAt k u)):=by
 induction r with
 |nil=>exact .nil
 | @cons p q ps qs h t ih=>
  rw[eO,eO];refine .cons ?_ ih;obtain⟨h1,h2,h3⟩:=h;unfold putAt;by_cases e:p.1=k
  ·rw[if_pos e,if_pos (h1.symm.trans e)];exact⟨h1,h2,ry⟩
  ·rw[if_neg e,if_neg (λz=>e (h1.trans z))];exact⟨h1,h2,h3⟩
theorem KT.put{H:Hp}{aw:List (List bB×V)}{xs:List (List bB×Addr×Value)}(r:KT H aw xs)(k:List bB){b:Addr}{y:V}{u:Value}(hb:H b=some (.tup (k.map kV)))(ry:RelV y u):
  KT H (iq aw k y) (storedH xs k b u):=by
 have e:(aw.any λkv=>decide (kv.1=k))=(atKey xs k).isSome:=by
  rw[HN,(r.val k).Ct,Y4]
 unfold iq storedH;rw[e];by_cases q:(atKey xs k).isSome=true
 ·rw[if_pos q,if_pos q];exact r.Cu k ry
 ·rw[if_neg q,if_neg q];exact Paired.snoc r ⟨rfl,hb,ry⟩
theorem KT.keeps{H H':Hp}{aw:List (List bB×V)}{xs:List (List bB×Addr×Value)}(r:KT H aw xs)(ht:∀b ys,H b=some (.tup ys)->H' b=some (.tup ys)):KT H' aw xs:=
 Paired.BH r λ_ _ z=>⟨z.1,ht _ _ z.2.1,z.2.2⟩
section
variable {P:Program}{w:World}{H:Hp}{h:Heap}{a:Addr}
theorem HS{u:HO}(ok:gc P w H h)(e:Rd H a u):fP P w H h a u:=e.ok ok
theorem qm{aw:List (bB×V)}(ok:gc P w H h)(e:Rd H a (.dK aw)):aw.length<=aN/\(a == lD)=false/\∃vs,KV aw vs/\h.DictOf (iK P w) a vs:=
 show fP P w H h a (.dK aw) from HS ok e
theorem HU{aw:List (bB×V)}(ok:gc P w H h)(e:H a=some (.dK aw)):aw.length<=aN/\(a == lD)=false/\∃vs,KV aw vs/\h.DictOf (iK P w) a vs:=qm ok (.inl e)
theorem tZ{ks:List bB}(ok:gc P w H h)(e:H a=some (.tup (ks.map kV))):(vf (iK P w)).is h ks a:=by
 obtain⟨_,ax,r,o,h1,h2,n,h3⟩:=(show fP P w H h a (.tup (ks.map kV)) from ok a _ e)
 exact⟨o,ax.toArray,n,h1,h2,h3,by simpa using HR r⟩
theorem rQ{aw:List (List bB×V)}(ok:gc P w H h)(e:Rd H a (.dT aw)):aw.length<=aN/\(a == lD)=false/\
  ∃xs,KT H aw xs/\h.DictOfH (vf (iK P w)) a xs:=by
 obtain⟨z,y,xs,r,o,es,ep,h1,h2,h3,h4,h5⟩:=(show fP P w H h a (.dT aw) from HS ok e)
 refine⟨z,y,xs,r,o,es,ep,h1,h2,h3,h4,λx hx=> ?_,h5⟩;have all:∀{l:List (List bB×V)} {m:List (List bB×Addr×Value)},KT H l m->∀x∈m,(vf (iK P w)).is h x.1 x.2.1:=by
  intro l m q
  induction q with
  |nil=>intro x hx;exact nomatch hx
  | @cons p q ps qs hq t ih=>
   intro x hx;rcases bx.mp hx with e | hx
   ·subst e;exact tZ ok (by rw[<- hq.1];exact hq.2.1)
   ·exact ih x hx
 exact all r x hx
theorem Qw{aw:List (List bB×V)}(ok:gc P w H h)(e:H a=some (.dT aw)):aw.length<=aN/\(a == lD)=false/\
  ∃xs,KT H aw xs/\h.DictOfH (vf (iK P w)) a xs:=rQ ok (.inl e)
end
def nJ(H:Hp)(a:Addr)(y:V)(r:Option V):Prop:=
 (∃aw k,Rd H a (.dK aw)/\y=kV k/\r=kl aw k)\/∃aw k b,Rd H a (.dT aw)/\y= .ref b/\H b=some (.tup (k.map kV))/\r=kl aw k
def vW(H:Hp)(a:Addr)(y v:V)(H':Hp):Prop:=
 (∃aw k,H a=some (.dK aw)/\y=kV k/\aw.length < aN/\H'=upd H a (.dK (iq aw k v)))\/
 ∃aw k b,H a=some (.dT aw)/\y= .ref b/\H b=some (.tup (k.map kV))/\aw.length < aN/\H'=upd H a (.dT (iq aw k v))
section
variable {X:Cx}{aa:List (Addr×Obj)}{σ:St}{H:Hp}{s:Shared}{a:Addr}{y v:V}{u r:Value}{o:Option V}{A:Around}{E:Value->Shared->Prop}
theorem Inv.big(I:Inv X aa σ H s):lD < s.heap.objs.size:=by
 have h:kS < s.heap.objs.size:=(I.mod.glob.keeps I.bk).lt;exact Nat.lt_trans (by decide) h
theorem Qx{Q:Value->Shared->Prop}(hu:A.units + 1 < cLine)(I:Inv X aa σ H s)(g:nJ H a y (some v))(ry:RelV y u)(h:∀w' s',Inv X aa σ H s'->RelV v w'->Q w' s'):
  wpAny (model X.prog X.w) A (tf (.ref a) u) Q E s:=by
 rcases g with⟨aw,k,e,ey,l⟩ | ⟨aw,k,b,e,ey,eb,l⟩
 ·subst ey;obtain⟨z,hd,vs,eM,dd⟩:=qm I.aU e;obtain⟨w',hw,ll⟩:=ka.some_of (v:=v) (o:=vk vs k) (by rw[l];exact eM.val k);exact wpAny_getItem_of (rP ry) dd.mapOf hw (h w' _ (I.tok _) ll)
 ·subst ey;cases(show u=fZ b from ry);obtain⟨z,hd,xs,eM,dd⟩:=rQ I.aU e;obtain⟨w',hw,ll⟩:=ka.some_of (v:=v) (o:=(atKey xs k).map (·.2)) (by rw[l];exact eM.val k);obtain⟨p,hp,vX⟩:=aX.mp hw;refine wpAny_getItem_heap (Bk hu) (tZ I.aU eb) dd hp ?_;rw[vX];exact h w' _ (I.tok _) ll
theorem Qy{Q:Value->Shared->Prop}(hu:A.units + 1 < cLine)(I:Inv X aa σ H s)(g:nJ H a y o)(ry:RelV y u)(h:∀s',Inv X aa σ H s'->Q (.bool o.isSome) s'):
  wpAny (model X.prog X.w) A (iB .In u (.ref a)) Q E s:=by
 rcases g with⟨aw,k,e,ey,l⟩ | ⟨aw,k,b,e,ey,eb,l⟩
 ·subst ey;obtain⟨z,hd,vs,eM,dd⟩:=qm I.aU e;refine wpAny_in_of (rP ry) hd dd.mapOf ?_;rw[<- (eM.val k).Ct, <- l];exact h _ (I.tok _)
 ·subst ey;cases(show u=fZ b from ry);obtain⟨z,hd,xs,eM,dd⟩:=rQ I.aU e;refine wpAny_in_heap (Bk hu) (tZ I.aU eb) hd dd ?_;have q:=(eM.val k).Ct;rw[Y4]at q;rw[<- q, <- l];exact h _ (I.tok _)
theorem vY{h':Heap}{t':Nat}{ob:HO}(I:Inv X aa σ H s)(mu:gY (H a))(hs:tG a s.heap h')(he:∃q,h'.get? a=some q)(new:fP X.prog X.w (upd H a ob) h' a ob):
  Inv X aa σ (upd H a ob) { s with heap:=h',toks:=t' }:=
 I.write (x:=a) (e:=a) mu (.inl rfl) (λb q hb z=>(hs.2 b hb).trans z) he new
theorem Cv{P:Program}{w:World}{H':Hp}{h':Heap}{aw:List (bB×V)}{vs:List (bB×Value)}(z:aw.length<=aN)(hd:(a == lD)=false)(eM:KV aw vs)(dd:h'.DictOf (iK P w) a vs):
  fP P w H' h' a (.dK aw):=⟨z,hd,vs,eM,dd⟩
theorem Qz{H':Hp}{Q:Unit->Shared->Prop}(hu:A.units + 1 < cLine)(I:Inv X aa σ H s)(g:vW H a y v H')(ry:RelV y u)(rv:RelV v r)(h:∀s',Inv X aa σ H' s'->Q () s'):
  wpAny (model X.prog X.w) A (setItem (.ref a) u r) Q E s:=by
 rcases g with⟨aw,k,e,ey,l,eH⟩ | ⟨aw,k,b,e,ey,eb,l,eH⟩
 ·subst ey eH;obtain⟨z,hd,vs,eM,dd⟩:=HU I.aU e;have hz:vs.length<=aN:=by rw[<- eM.length];exact z
  have hl:(iq aw k v).length<=aN:=by have:=vV aw k v;lia
  refine wpAny_setItem_pairs (hsz:=hz) (rP ry) dd λh' lS hs=>h _ ?_;have he:∃q,h'.get? a=some q:=let ⟨q,_,_,hq,_⟩:=lS;⟨q,hq⟩;exact vY I (by rw[e];exact kU) hs he (Cv hl hd (eM.put k rv) lS)
 ·subst ey eH;cases(show u=fZ b from ry);obtain⟨z,hd,xs,eM,dd⟩:=Qw I.aU e;have hz:xs.length<=aN:=by rw[<- Bm eM];exact z
  have hl:(iq aw k v).length<=aN:=by have:=vV aw k v;lia
  refine wpAny_setItem_heap (hsz:=hz) (Bk hu) (tZ I.aU eb) dd λh' lS hs=>h _ ?_;obtain⟨q,es,ep,hq,h2,h3,h4,_,h5⟩:=lS;refine vY I (by rw[e];exact kU) hs ⟨q,hq⟩ ⟨hl,hd,_,(eM.put k eb rv).keeps λc ys ec=> ?_,q,es,ep,hq,h2,h3,h4,h5⟩;rw[bE (Gu ec e (λz=>nomatch z))];exact ec
end
section
variable {X:Cx}{aa:List (Addr×Obj)}{σ:St}{H:Hp}{s:Shared}{a:Addr}{aw:List (bB×V)}{k:bB}{u:Value}{A:Around}{E:Value->Shared->Prop}
theorem QA{Q:Value->Shared->Prop}(I:Inv X aa σ H s)(e:Rd H a (.dK aw))(h:∀t s',Inv X aa σ H s'->Q (.int aw.length t) s'):wpAny (model X.prog X.w) A (call (.builtin "len") [.ref a]) Q E s:=by
 obtain⟨z,hd,vs,eM,dd⟩:=qm I.aU e;refine call_len_dict hd dd (by rw[<- eM.length];rw[Bi]at z;lia) ?_;rw[<- eM.length];exact h _ _ (I.tok _)
end
theorem QB{X:Cx}{aa:List (Addr×Obj)}{σ:St}{H:Hp}{s:Shared}{a:Addr}{y:V}{o:Option V}(I:Inv X aa σ H s)(g:nJ H a y o):s.TypeIs (.ref a) "dict":=by
 rcases g with⟨aw,k,e,_,_⟩ | ⟨aw,k,b,e,_,_,_⟩
 ·obtain⟨_,_,vs,_,dd⟩:=qm I.aU e;exact dd.typeIs
 ·obtain⟨_,_,xs,_,dd⟩:=rQ I.aU e;exact dd.typeIs
def yI(td ty tv:TE):TS:=λD σ H=>tv σ H λv H1=>td σ H1 λx H2=>ty σ H2 λy H3=>∃a H4,x= .ref a/\vW H3 a y v H4/\D.nx σ H4
section
variable {X:Cx}{o i e value:Expr}{pos pos' oX:Pos}{td ty tv:TE}
theorem t9(hu:X.A.units + 1 < cLine)(ho:PE X o td)(hi:PE X i ty)(hv:PE X value tv)(hs:sY value (some (.Subscript o i pos')) pos.line X.env=pure false):
  PS X (.Assign [.Subscript o i pos'] value pos) (yI td ty tv):=by
 intro aa s σ H D I h;refine wpAny_Assign_Subscript (bC (hv aa s σ H _ I h) λr s1 ⟨v,H1,I1,rv,q1⟩=>bC (ho aa s1 σ H1 _ I1 q1) λu s2 ⟨x,H2,I2,rx,q2⟩=>bC (hi aa s2 σ H2 _ I2 q2) λiv s3 ⟨y,H3,I3,ry,a,H4,ex,g,q3⟩=> ?_) hs;subst ex;obtain rfl:u=fZ a:=rx;exact Qz hu I3 g ry rv λs4 I4=>⟨σ,H4,I4,q3⟩
end
theorem HV{P:Program}{w:World}{H:Hp}(h:Heap)(hb:lD < h.objs.size):fP P w H (h.push { cls:= .type "dict",data:= .dict #[] }) h.objs.size (.dK []):=
 ⟨kz _,beq_eq_false_iff_ne.mpr (dS (fN hb)), [], .nil,Heap.DictOf.new h⟩
theorem QC{P:Program}{w:World}{H:Hp}(h:Heap)(hb:lD < h.objs.size):fP P w H (h.push { cls:= .type "dict",data:= .dict #[] }) h.objs.size (.dT []):=
 ⟨kz _,beq_eq_false_iff_ne.mpr (dS (fN hb)), [], .nil,_,#[],0,iH _ rfl,⟨rfl,rfl,rfl⟩,rfl,rfl,yb⟩
def HW:TE:=λ_ H Q=>∀p,H p=none->Q (.ref p) (upd H p (.dK []))
def HX:TE:=λ_ H Q=>∀p,H p=none->Q (.ref p) (upd H p (.dT []))
section
variable {X:Cx}{pos:Pos}
theorem HY:PE X (.Dict [] [] pos) HW:=λaa s σ H Q I h=>
 wpAny_Dict_empty ⟨.ref s.heap.objs.size,_,I.laid (a:=s.heap.objs.size) (o:= .dK []) (t':=s.toks) (λ_ _ q=>dN _ q) (bT _) (HV s.heap I.big),rfl,h _ (I.aU.fresh (bT _))⟩
theorem yJ:PE X (.Dict [] [] pos) HX:=λaa s σ H Q I h=>
 wpAny_Dict_empty ⟨.ref s.heap.objs.size,_,I.laid (a:=s.heap.objs.size) (o:= .dT []) (t':=s.toks) (λ_ _ q=>dN _ q) (bT _) (QC s.heap I.big),rfl,h _ (I.aU.fresh (bT _))⟩
end
def yK:List (TE×TE)->St->Hp->(List (V×V)->Hp->Prop)->Prop
 | [],_,H,Q=>Q [] H
 |(tk,tv)::r,σ,H,Q=>tk σ H λx H1=>tv σ H1 λy H2=>yK r σ H2 λps H3=>Q ((x,y)::ps) H3
abbrev VV:List (V×V)->List (Value×Value)->Prop:=Paired λp q=>RelV p.1 q.1/\RelV p.2 q.2
def uc(X:Cx)(pos:Pos)(keys:List (Option Expr))(values:List Expr)(i5:List (TE×TE)):Prop:=
 ∀(aa:List (Addr×Obj)) (s:Shared) (σ:St) (H:Hp) (Q:List (V×V)->Hp->Prop),Inv X aa σ H s->yK i5 σ H Q->
  wpAny (model X.prog X.w) X.A (evalPairs (pairTrees keys values X.env pos)) (λvs s'=>∃ps H',Inv X aa σ H' s'/\VV ps vs/\Q ps H') X.xe s
theorem QD{X:Cx}{pos:Pos}:uc X pos [] [] []:=λaa s σ H Q I h=>pairTrees_nil_walk ⟨[],H,I, .nil,h⟩
theorem yL{X:Cx}{pos:Pos}{k v:Expr}{ks:List (Option Expr)}{vs:List Expr}{tk tv:TE}{i5:List (TE×TE)}(hk:PE X k tk)(hv:PE X v tv)(hr:uc X pos ks vs i5):
  uc X pos (some k::ks) (v::vs) ((tk,tv)::i5):=λaa s σ H Q I h=>
 pairTrees_cons_walk (bC (hk aa s σ H _ I h) λu s1 ⟨x,H1,I1,rx,q1⟩=>bC (hv aa s1 σ H1 _ I1 q1) λw2 s2 ⟨y,H2,I2,ry,q2⟩=>
  bC (hr aa s2 σ H2 _ I2 q2) λws s3 ⟨ps,H3,I3,eM,q3⟩=>⟨(x,y)::ps,H3,I3, .cons ⟨rx,ry⟩ eM,q3⟩)
def nM(aw more:List (bB×V)):List (bB×V):=more.foldl (λaG kv=>iq aG kv.1 kv.2) aw
theorem KV.merge:∀{more:List (bB×V)} {rs:List (bB×Value)} {aw:List (bB×V)} {vs:List (bB×Value)},KV more rs->KV aw vs->KV (nM aw more) (merged vs rs):=by
 intro more rs aw vs r;unfold KV at r
 induction r generalizing aw vs with
 |nil=>intro q;exact q
 | @cons p q ps qs h t ih=>
  intro r0;have e:KV (iq aw p.1 p.2) (stored vs q.1 q.2):=by
   have:=r0.put p.1 h.2;rw[<- h.1];exact this
  exact ih e
theorem HZ:∀(more aw:List (bB×V)),(nM aw more).length<=aw.length + more.length
 | [],aw=>by show aw.length<=aw.length + 0;lia
 |p::r,aw=>by
  have h1:=HZ r (iq aw p.1 p.2);have h2:=vV aw p.1 p.2;show(nM (iq aw p.1 p.2) r).length<=_;rw[eU];lia
theorem H9{P:Program}{w:World}:∀{aw:List (bB×V)} {ws:List (Value×Value)},VV (aw.map λkv=>(kV kv.1,kv.2)) ws->∃rs,Carries (iK P w) ws rs/\KV aw rs
 | [],_,r=>by rw[mC]at r;cases r;exact⟨[],kU, .nil⟩
 |p::aw,_,r=>by
  rw[eO]at r;cases r with
  | @cons a b as bs h t=>
   obtain⟨rs,c,q⟩:=H9 (P:=P) (w:=w) t;obtain⟨b1,b2⟩:=b;exact⟨(p.1,b2)::rs,⟨rP h.1,rfl,c⟩, .cons ⟨rfl,h.2⟩ q⟩
def yM(i5:List (TE×TE)):TE:=λσ H Q=>∀p,H p=none->yK i5 σ (upd H p (.dK [])) λps H2=>H2 p=some (.dK [])/\∃aw:List (bB×V),ps=aw.map (λkv=>(kV kv.1,kv.2))/\aw.length<=15/\Q (.ref p) (upd H2 p (.dK (nM [] aw)))
theorem QE{X:Cx}{pos:Pos}{keys:List (Option Expr)}{values:List Expr}{i5:List (TE×TE)}(h:uc X pos keys values i5)(mM:keys.all (·.isSome)=true)(hl:keys.length=values.length)(h0:keys≠ [])
  (vZ:keys.length<=15):PE X (.Dict keys values pos) (yM i5):=by
 intro aa s σ H Q I q;have hn:=I.aU.fresh (bT s.heap.objs.size);have I1:=I.laid (a:=s.heap.objs.size) (o:= .dK []) (h':=s.heap.push { cls:= .type "dict",data:= .dict #[] }) (t':=s.toks) (λ_ _ q=>dN _ q) (bT _) (HV s.heap I.big);refine wpAny_Dict_walk (knd:=iK X.prog X.w) mM hl h0 vZ (bC (h aa _ σ _ _ I1 (q _ hn)) λws s2 ⟨ps,H2,I2,eM,e,aw,ep,lk,q2⟩=> ?_);subst ep;obtain⟨rs,c,rk⟩:=H9 (P:=X.prog) (w:=X.w) eM;obtain⟨z,hd,ZC,r0,dd⟩:=HU I2.aU e;cases r0;refine⟨rs,c,dd,λh' lS hs=>⟨.ref s.heap.objs.size,_, ?_,rfl,q2⟩⟩;have hz:(nM [] aw).length<=aN:=by
  have h1:=HZ aw [];rw[NI]at h1;rw[Bi];lia
 have he:∃q,h'.get? s.heap.objs.size=some q:=let ⟨q,_,_,hq,_⟩:=lS;⟨q,hq⟩;exact vY I2 (by rw[e];exact kU) hs he (Cv hz hd (rk.merge .nil) lS)
structure M2(X:Cx)(o:Expr)(m:Str)(mw:Pos)(e f:Expr)(jr:Pos):Prop where
 base:vg o m X.env (eval o X.env)=eval o X.env
 Ia:((backTo jr (dB [e,f] X.env)).all (λx=> !x.1) && (backToKw jr (M8 [] X.env)).all (λx=>x.1.isSome)
  && decide (([e,f]:List Expr).length + ([]:List Keyword).length + (if([]:List Keyword).isEmpty then 0 else 1) < 30))=true
 line:(mw.endLine == jr.line)=true
 trees:backTo jr (dB [e,f] X.env)= [(false,eval e X.env),(false,eval f X.env)]
def yN(H:Hp)(a:Addr):Prop:=(∃aw,Rd H a (.dK aw))\/∃aw,Rd H a (.dT aw)
theorem Ib{X:Cx}{aa:List (Addr×Obj)}{σ:St}{H:Hp}{s:Shared}{a:Addr}(I:Inv X aa σ H s)(d:yN H a):
  s.TypeIs (.ref a) "dict"/\(∀b,fZ a= .ref b->∃ob,s.heap.get? b=some ob/\ob.dict=none)/\(a == lD)=false:=by
 rcases d with⟨aw,e⟩ | ⟨aw,e⟩
 ·obtain⟨_,hd,vs,_,dd⟩:=qm I.aU e;refine⟨dd.typeIs,λb q=> ?_,hd⟩;cases q;obtain⟨ob,_,_,h1,h2,_⟩:=dd;exact⟨ob,h1,h2.2.1⟩
 ·obtain⟨_,hd,xs,_,dd⟩:=rQ I.aU e;refine⟨dd.typeIs,λb q=> ?_,hd⟩;cases q;obtain⟨ob,_,_,h1,h2,_⟩:=dd;exact⟨ob,h1,h2.2.1⟩
section
variable {X:Cx}{aa:List (Addr×Obj)}{σ:St}{H:Hp}{s:Shared}{a:Addr}{y d:V}{u r:Value}{o:Option V}{A:Around}{E:Value->Shared->Prop}
theorem QF{Q:Value->Shared->Prop}(hu:A.units + 1 < cLine)(I:Inv X aa σ H s)(g:nJ H a y o)(ry:RelV y u)(rd:RelV d r)(h:∀w' s',Inv X aa σ H s'->RelV (o.getD d) w'->Q w' s'):
  wpAny (model X.prog X.w) A (call (.builtin "dict.get") [.ref a,u,r]) Q E s:=by
 rcases g with⟨aw,k,e,ey,l⟩ | ⟨aw,k,b,e,ey,eb,l⟩
 ·subst ey;obtain⟨z,hd,vs,eM,dd⟩:=qm I.aU e;refine FO NJ dd.typeIs Y5 (Y6 _ _ _) (meets_dict_get_default (iK X.prog X.w) a (rP ry) hd r) ⟨_,dd.mapOf,h _ _ (I.tok _) ?_⟩;rw[l];exact(eM.val k).getD rd
 ·subst ey;cases(show u=fZ b from ry);obtain⟨z,hd,xs,eM,dd⟩:=rQ I.aU e;refine FO NJ dd.typeIs Y5 (Y6 _ _ _) (meetsH_dict_get_default (vf (iK X.prog X.w)) a b hd r) ⟨Bk hu,k,xs,tZ I.aU eb,dd,h _ _ (I.tok _) ?_⟩;rw[l];exact(eM.val k).getD rd
end
def ud(td ty tx:TE):TE:=λσ H Q=>td σ H λx H1=>∃a,x= .ref a/\yN H1 a/\ty σ H1 λy H2=>tx σ H2 λz H3=>∃o,nJ H3 a y o/\Q (o.getD z) H3
section
variable {X:Cx}{o e f:Expr}{mw jr:Pos}{td ty tx:TE}
theorem rR(hu:X.A.units + 1 < cLine)(ho:PE X o td)(he:PE X e ty)(hf:PE X f tx)(m:M2 X o "get" mw e f jr):PE X (.Call (.Attribute o "get" mw) [e,f] [] jr) (ud td ty tx):=by
 intro aa s σ H Q I h;refine wpAny_Call_method m.base m.Ia m.line Y7 NJ PySem.F.type_dict_get (bC (ho aa s σ H _ I h) λu s1 ⟨x,H1,I1,rx,a,ex,d,q1⟩=> ?_);subst ex;obtain rfl:u=fZ a:=rx;obtain⟨t1,t2,_⟩:=Ib I1 d;refine⟨t1,t2, ?_⟩;rw[m.trees];refine NB rfl (NC (Bq (bC (he aa s1 σ H1 _ I1 q1) λiv s2 ⟨y,H2,I2,ry,q2⟩=>
  Bq (bC (hf aa s2 σ H2 _ I2 q2) λfv s3 ⟨z,H3,I3,rz,ov,g,q3⟩=>Nr ?_))))
 exact QF hu I3 g ry rz λw' s4 I4 ll=>⟨_,H3,I4,ll,q3⟩
end
section
variable {X:Cx}{aa:List (Addr×Obj)}{σ:St}{H:Hp}{s:Shared}{a:Addr}{aw:List (bB×V)}{A:Around}{E:Value->Shared->Prop}
end
section
variable {X:Cx}{aa:List (Addr×Obj)}{σ:St}{H:Hp}{s:Shared}{a:Addr}{y:V}{u:Value}{A:Around}{E:Value->Shared->Prop}
end
section
variable {X:Cx}
end
section
variable {κ:Type}[DecidableEq κ]
end
section
theorem Inv.QG{t':Nat}{e it T:Addr}{o:HO}(I:Inv X aa σ H s)(k:∀b u,b≠e->b≠it->s.heap.get? b=some u->h'.get? b=some u)
  (fe:iL X aa H e) (fi:iL X aa H it) (hT:s.heap.objs.size<=T) (new:fP X.prog X.w (upd H T o) h' T o):Inv X aa σ (upd H T o) { s with heap:=h',toks:=t' }:=by
 have hn:H T=none:=I.aU.fresh hT;have iW:∀{b:Addr},b∉ [e,it]->b≠e/\b≠it:=λ{b} hb=>⟨λz=>hb (by simp[z]),λz=>hb (by simp[z])⟩
 have lt:∀{b:Addr} {u:Obj},s.heap.get? b=some u->b≠T:=λ{b u} q=>fN (df (dR q) hT);have tr:∀{b:Addr} {u:HO},H b=some u->b≠e/\b≠it:=λ{b u} q=>⟨λz=>(by rw[z,fe.1]at q;cases q),λz=>(by rw[z,fi.1]at q;cases q)⟩
 refine I.step (g':=s.gens) (d':=s.drawn) (ch:= [e,it]) (λb hb=> ?_) (λb u _ _ hc q _=>k b u (iW hc).1 (iW hc).2 q) (λb u _ _ hc q _=>⟨u.slots,k b u (iW hc).1 (iW hc).2 q⟩)
  (λb u _ q n=>by rw[bE (lt q)];exact n) (λb u hc q=>⟨u,k b u (iW hc).1 (iW hc).2 q⟩) (λb xs q=>by rw[bE (gQ q hn)];exact q) (λb u v q=>by rw[bE (gQ q hn)];exact q)
  (λb ps q=>⟨#[],by rw[bE (gQ q hn),q];simp⟩) (λm hm=> ?_) (λb u q=> ?_) I.bare
 ·rcases bx.mp hb with z | hb
  ·subst z;exact⟨fe.2.2.2.1,fe.2.1,fe.2.2.2.2.1,fe.2.2.2.2.2⟩
  ·rcases bx.mp hb with z | hb
   ·subst z;exact⟨fi.2.2.2.1,fi.2.1,fi.2.2.2.2.1,fi.2.2.2.2.2⟩
   ·cases hb
 ·obtain⟨ob,es,ep,ho,r⟩:=hm;exact⟨ob,es,ep,k _ ob (dS fe.2.1) (dS fi.2.1) ho,r⟩
 ·by_cases hb:b=T
  ·subst hb;rw[gb]at q;cases q;exact new
  ·rw[bE hb]at q;refine(I.aU b u q).e9 (λc v hc z=> ?_) (λc z=>by rw[bE (gQ z hn)];exact z) λc xs z=>by rw[bE (gQ z hn)];exact z
   rcases hc with z' | z'
   ·rw[z']at z |-;exact k b v (tr q).1 (tr q).2 z
   ·exact k c v (tr z').1 (tr z').2 z
theorem Inv.QH{t':Nat}(I:Inv X aa σ H s)(k:∀b u,b≠e->b≠it->s.heap.get? b=some u->h'.get? b=some u)
  (fe:iL X aa H e) (fi:iL X aa H it):Inv X aa σ H { s with heap:=h',toks:=t' }:=by
 have iW:∀{b:Addr},b∉ [e,it]->b≠e/\b≠it:=λ{b} hb=>⟨λz=>hb (by simp[z]),λz=>hb (by simp[z])⟩
 have tr:∀{b:Addr} {u:HO},H b=some u->b≠e/\b≠it:=λ{b u} q=>⟨λz=>(by rw[z,fe.1]at q;cases q),λz=>(by rw[z,fi.1]at q;cases q)⟩
 refine I.step (g':=s.gens) (d':=s.drawn) (ch:= [e,it]) (λb hb=> ?_) (λb u _ _ hc q _=>k b u (iW hc).1 (iW hc).2 q) (λb u _ _ hc q _=>⟨u.slots,k b u (iW hc).1 (iW hc).2 q⟩)
  (λb u _ q n=>n) (λb u hc q=>⟨u,k b u (iW hc).1 (iW hc).2 q⟩) (λb xs q=>q) (λb u v q=>q)
  (λb ps q=>⟨#[],by rw[q];simp⟩) (λm hm=> ?_) (λb u q=> ?_) I.bare
 ·rcases bx.mp hb with z | hb
  ·subst z;exact⟨fe.2.2.2.1,fe.2.1,fe.2.2.2.2.1,fe.2.2.2.2.2⟩
  ·rcases bx.mp hb with z | hb
   ·subst z;exact⟨fi.2.2.2.1,fi.2.1,fi.2.2.2.2.1,fi.2.2.2.2.2⟩
   ·cases hb
 ·obtain⟨ob,es,ep,ho,r⟩:=hm;exact⟨ob,es,ep,k _ ob (dS fe.2.1) (dS fi.2.1) ho,r⟩
 ·refine(I.aU b u q).e9 (λc v hc z=> ?_) (λc z=>z) λc xs z=>z;rcases hc with z' | z'
  ·rw[z']at z |-;exact k b v (tr q).1 (tr q).2 z
  ·exact k c v (tr z').1 (tr z').2 z
end
def yO(K:ak)(a:Addr):It:=
 ⟨λi H=>∃xs x,bW K H a xs/\xs[i]?=some x,λi H v H'=>∃T,H T=none/\v= .ref T/\∀xs,bW K H a xs->∃x,xs[i]?=some x/\H'=upd H T (.tup [.int i,x]),λi H=>∃xs,bW K H a xs/\xs.length<=i⟩
theorem QI{P:Program}{w:World}{K:ak}{elts:List Expr}{x1:Nat}{pos:Pos}(a e it:Addr)(o7:e≠it):
  Turn P w K (.Tuple elts x1 pos) (yO K a) [e,it] e (λi h=>(∃old,IsEnum h e it i old)/\h.IsListIter it a i) where
 mem:=by simp
 obj:=λi h st b hb=>by
  obtain⟨⟨old,he⟩,o,ho,c,d⟩:=st;rcases bx.mp hb with z | hb
  ·subst z;exact⟨_,he,λv z=>by cases z⟩
  ·rcases bx.mp hb with z | hb
   ·subst z;exact⟨o,ho,λv z=>by rw[d]at z;cases z⟩
   ·cases hb
 keep:=λi h h' st k=>by
  obtain⟨⟨old,he⟩,hit⟩:=st;exact⟨⟨old,k e (by simp) _ he⟩,hit.at λo q=>k it (by simp) o q⟩
 item:=by
  intro X hP hw hK hc i aa s σ H E I hf st hg;subst hP hw hK;obtain⟨xs,x,hq,hx⟩:=hg;obtain⟨ax,rv,p,hz⟩:=I.list hq;obtain⟨u,hu,ru⟩:=rv.get hx;have fe:=hf e (by simp);have fi:=hf it (by simp);obtain⟨⟨old,he⟩,hit⟩:=st;have Ic:e < s.heap.objs.size:=dR he;have v5:it < s.heap.objs.size:=by obtain⟨o,ho,_⟩:=hit;exact dR ho
  refine wpAny_pyNext_enum_item he hit p.isList (x:=u) (by simpa using hu) o7 λh1 QJ QK Cw mN k1=> ?_;refine⟨_,rfl, ?_⟩;refine wpAny_letOwnedTupleGo_enum (s:= { s with heap:=h1,toks:=s.toks + 1 }) QJ λh2 Cy sb=> ?_;have k2:∀b ob,b≠e->b≠it->s.heap.get? b=some ob->h2.get? b=some ob:=λb ob n1 n2 q=>(sb.2 b n1).trans (k1 b ob n1 n2 q);have Cz:h2.get? s.heap.objs.size=some { cls:= .type "tuple",data:= .seq #[.int i s.toks,u] }:=(sb.2 _ (rb Ic)).trans Cw;have v7:H s.heap.objs.size=none:=I.aU.fresh (bT _);refine⟨.ref s.heap.objs.size,upd H s.heap.objs.size (.tup [.int i,x]),I.QG (t':=s.toks + 1) k2 fe fi (bT _) ?_,rfl,⟨_,v7,rfl,λys hy=>⟨x,by rw[I.BU hy hq];exact hx,rfl⟩⟩,⟨⟨u, ?_⟩, ?_⟩,λb hb=> ?_⟩
  ·exact⟨(by show 2<=aN;decide), [.int i s.toks,u], .cons ⟨_,rfl⟩ (.cons ru .nil),⟨_,Cz,rfl,_,rfl⟩⟩
  ·have e1:((i + 1:Nat):Int)=(i:Int) + 1:=by push_cast;rfl
   rw[e1];exact Cy
  ·exact QK.at λo q=>(sb.2 it (dS o7)).trans q
  ·rcases bx.mp hb with z | hb
   ·subst z;rw[bE (fN Ic)];exact fe.1
   ·rcases bx.mp hb with z | hb
    ·subst z;rw[bE (fN v5)];exact fi.1
    ·cases hb
 done:=by
  intro X hP hw hK hc i aa s σ H E I hf st hg;subst hP hw hK;obtain⟨xs,hq,hx⟩:=hg;obtain⟨ax,rv,p,hz⟩:=I.list hq;have fe:=hf e (by simp);have fi:=hf it (by simp);obtain⟨⟨old,he⟩,hit⟩:=st;have hl:=rv.length;refine wpAny_pyNext_enum_end (I.ok.hd hc) he hit p.isList (by simp;lia) λh1 k1=>⟨rfl, ?_⟩
  exact I.QH (t':=s.toks) (λb u n1 n2 q=>k1 b u n2 q) fe fi
 self:=λ_ _ _ _ _ st h=>by
  obtain⟨⟨old,he⟩,_⟩:=st;exact wpAny_pyIter_enum he h
section
def yP(K:ak)(ta:TA):TI:=λσ H R=>ta σ H λvs H1=>∃a,vs= [.ref a]/\(∃xs,bW K H1 a xs)/\R (yO K a) H1
theorem QL{elts:List Expr}{x1:Nat}{oX:Pos}{p pos:Pos}(hg:Gl X "enumerate")(hm:X.mg "enumerate"=none)(ha:PA X [a] ta)(hs:dB [a] X.env= [(false,eval a X.env)]:=by rfl):
  PI X (.Tuple elts x1 oX) (.Call (.Name "enumerate" p) [a] [] pos) (yP X.K ta):=by
 intro aa s σ H R I h;refine Call_ (tR I hg hm boot_enumerate (FX (bC (ha pos aa s σ H _ I h) λus s1 ⟨vs,H1,I1,r1,q1⟩=> ?_) hs rfl));obtain⟨l,e,⟨xs,hq⟩,q⟩:=q1;subst e;obtain⟨u,rfl,ru⟩:=vals1 r1;cases ru;obtain⟨ax,rv,pl,hz⟩:=I1.list hq;refine call_enumerate_list pl.isList λh' he hit hsz hk=> ?_;refine wpAny_pyIter_enum (s:= { s1 with heap:=h' }) he ?_;have ne:s1.heap.objs.size + 1≠s1.heap.objs.size:=Nat.succ_ne_self _;refine⟨s1.heap.objs.size + 1, [s1.heap.objs.size + 1,s1.heap.objs.size],_,_,H1,rfl,I1.kept (t':=s1.toks) hk,QI l _ _ ne,⟨⟨_,he⟩,hit⟩,λb hb=> ?_,q⟩;rcases bx.mp hb with z | hb
 ·subst z;exact I1.vH (xY _) (I1.aU.fresh (xY _))
 ·rcases bx.mp hb with z | hb
  ·subst z;exact I1.vH (bT _) (I1.aU.fresh (bT _))
  ·cases hb
end
def yQ(i j:Int):Prop:=0 < j/\j < 2 ^ 200
theorem QM{j:Int}(h0:0 < j)(h:j < 2 ^ 200):j.natAbs.log2 < 9000:=by
 have e:j.natAbs < 2 ^ 200:=by
  have:(j.natAbs:Int)=j:=Int.natAbs_of_nonneg (Int.le_of_lt h0);have h2:(j.natAbs:Int) < ((2 ^ 200:Nat):Int):=by rw[this];exact_mod_cast h
  exact_mod_cast h2
 have:j.natAbs.log2 < 200:=(Nat.log2_lt (by lia)).mpr e
 lia
section
theorem Ie:dg X (lF .FloorDiv) (rI yQ λi j=> .int (i / j)):=yx λi j _ _ _ _ _ hc q=>by
 have h1:(0:Int) < j:=hc.1;exact floordiv_int (by lia) (by rw[Int.fdiv_eq_ediv_of_nonneg i (by lia)];exact q) (.inl (PyProof.noPylong_of_log2 (QM hc.1 hc.2)))
theorem QN:i0 X (.builtin "isinstance") (λxs H Q=>∃x t b,xs= [x, .ty T]/\kg X.K H x t/\rh X.K t (.type T)=some b/\Q (.bl b) H):=by
 intro aa s σ H xs us Q I r h;obtain⟨x,t,b,rfl,ty,e,q⟩:=h;obtain⟨u,w',rfl,ru,rt⟩:=vals2 r;cases rt;exact Pj I ru ty e λtk=>⟨.bl b,H,I.tok tk,rfl,q⟩
end
theorem CA(env:Env):∀(ns:List (Str×cY)) (aG:List (Str×Addr)),(∀y∈ns,y.2= .free->∃c,env.cells.lookup y.1=some c)->
  ∃new:List (Str×Addr),(∀p∈new,env.cells.lookup p.1=some p.2)/\(∀y∈ns,y.2= .free->∃c,(y.1,c)∈new)/\
   (forIn ns aG (λ(x:Str×cY) (r:List (Str×Addr))=>match x with
    |(name,kind)=>if(kind == kW)=true then do let c <- cellOf env name;pure (tK ((name,c)::r)) else pure (tK r)):Sem (List (Str×Addr)))=pure (new++aG)
 | [],aG,_=>⟨[],λ_ h=>(nomatch h),λ_ h=>(nomatch h),rfl⟩
 |(n,k)::rest,aG,h=>by
  by_cases hk:k= .free
  ·subst hk;obtain⟨c,hc⟩:=h (n, .free) tF rfl;obtain⟨new,h1,h2,h3⟩:=CA env rest ((n,c)::aG) λy hy=>h y (lH _ hy);refine⟨new++ [(n,c)],λp hp=> ?_,λy hy hf=> ?_, ?_⟩
   ·rcases lJ.mp hp with z | z
    ·exact h1 p z
    ·obtain rfl:=j8.mp z;exact hc
   ·rcases bx.mp hy with z | z
    ·subst z;exact⟨c,by simp⟩
    ·obtain⟨c',z'⟩:=h2 y z hf;exact⟨c',Bo _ z'⟩
   ·rw[Bw];have e1:cellOf env n=pure c:=by unfold cellOf;rw[hc]
    simp only[beq_self_eq_true,if_true,e1];rw[cZ];exact h3
  ·obtain⟨new,h1,h2,h3⟩:=CA env rest aG λy hy=>h y (lH _ hy);refine⟨new,h1,λy hy hf=> ?_, ?_⟩
   ·rcases bx.mp hy with z | z
    ·subst z;exact absurd hf hk
    ·exact h2 y z hf
   ·rw[Bw];have e1:(k == kW)=false:=by simpa using hk
    simp only[e1,Bool.false_eq_true,if_false];exact h3
theorem YJ{l:List (Str×Addr)}(h:(x,c)∈l):∃c',l.lookup x=some c':=by
 induction l with
 |nil=>cases h
 |cons p r ih=>
  obtain⟨y,d⟩:=p;rw[lK];cases e:x == y with
  |true=>exact⟨d,rfl⟩
  |false=>
   rcases bx.mp h with z | z
   ·have:x=y:=congrArg NK z;rw[this]at e;simp at e
   ·exact ih z
theorem Ig{scope:Scope}{env:Env}(h:∀y∈scope.names,y.2= .free->∃c,env.cells.lookup y.1=some c):
  ∃cl,closureFor scope env=pure cl/\(∀x c,cl.lookup x=some c->env.cells.lookup x=some c)/\(∀y∈scope.names,y.2= .free->∃c,cl.lookup y.1=some c):=by
 obtain⟨new,h1,h2,h3⟩:=CA env scope.names [] h;refine⟨new, ?_,λx c e=>h1 _ (tH e),λy hy hf=> ?_⟩
 ·rw[fO]at h3;have e:closureFor scope env=((forIn scope.names ([]:List (Str×Addr)) (λ(x:Str×cY) (r:List (Str×Addr))=>match x with
    |(name,kind)=>if(kind == kW)=true then do let c <- cellOf env name;pure (tK ((name,c)::r)) else pure (tK r)):Sem (List (Str×Addr))) >>= λr=>pure r):=rfl
  rw[e,h3];rfl
 ·obtain⟨c,hc⟩:=h2 y hy hf;exact YJ hc
section
theorem QO{elt target iter:Expr}{ifs:List Expr}{scope:Scope}{pos:Pos}{it aG:Value}{env:Env}(I:Nat->Shared->Prop)
  (turn:∀n s,I n s->wpAny (model prog w) A (pyNext it) (λr dh=>match r with
   |none=>R (.ok .next) dh
   |some v=>wpAny (model prog w) A (FK target it v) (λ_ Ih=>wpAny (model prog w) A (assign target env v) (λ_ yw=>
     wpAny (model prog w) A (forIn ifs true λc r=>if r=true then do let ok <- isTrue c env (eval c env);pure (tK ok) else pure (tK r)) (λok mO=>
      if ok=true then wpAny (model prog w) A (eval elt env) (λx yR=>
       wpAny (model prog w) A (call (.builtin "list.append") [aG,x]) (λ_ Ii=>∃m,m < n/\I m Ii) (xU (model prog w) A env λe s'=>R (.error e) s') yR) (xU (model prog w) A env λe s'=>R (.error e) s') mO
      else ∃m,m < n/\I m mO) (xU (model prog w) A env λe s'=>R (.error e) s') yw) (xU (model prog w) A env λe s'=>R (.error e) s') Ih) (xU (model prog w) A env λe s'=>R (.error e) s') dh) (xU (model prog w) A env λe s'=>R (.error e) s') s)
  (n:Nat) (h:I n s):
  pZ (model prog w) A (.compLoop (.ListComp elt [⟨target,iter,ifs,0⟩] scope pos) 0 it aG env) R s:=by
 refine codeAny_loop rfl I (λn s hI=> ?_) n h;show wpAny _ A ((compTurn (.ListComp elt [⟨target,iter,ifs,0⟩] scope pos) 0 it aG env).onRaise (λx=>do noteFrame x env;theTreesLotGoes x)) _ _ s;refine wpAny_noted ?_;rw[compTurn_list];refine aH (M1 (aH (j6 (turn n s hI) (λr dh v8=> ?_) λ_ _ h'=>h')));cases r with
 |none=>exact b5 v8
 |some v=>
  refine aH (j6 v8 (λ_ Ih QP=> ?_) λ_ _ h'=>h');refine aH (j6 QP (λ_ yw QQ=>aH (j6 QQ (λok mO Ij=> ?_) λ_ _ h'=>h')) λ_ _ h'=>h');cases ok with
  |false=>exact b5 ⟨rfl,Ij⟩
  |true=>
   exact aH (aH (j6 Ij (λx yR QR=>aH (j6 QR (λ_ Ii QS=>b5 (b5 ⟨rfl,QS⟩)) λ_ _ h'=>h')) λ_ _ h'=>h'))
end
noncomputable def ia (X:Cx) (N:List Str) (scope:Scope) (cl:List (Str×Addr)) (C:Addr) (s:Shared) (H:Hp) (ex:List Addr) (aa:List (Addr×Obj)):Cx:=
 { X with N:=N,gZ:=s,vA:=H,env:=compEnvC scope cl C X.env,outer:=X.stack,stack:=X.stack,ex:=ex,fn:=λx=>scope.names.lookup x == some iJ,pn:=X.pn++aa,xe:=λ_ _=>False }
theorem QT{M:Model}{A:Around}{E:Value->Shared->Prop}{s:Shared}{scope:Scope}{globals:Addr}{cl:List (Str×Addr)}{qual:Str}{env:Env}{Q:Env->Shared->Prop}
  (hQ:Q (newEnv scope s.heap.objs.size globals (lG (s.heap.objs.size + 1) scope.names cl) qual none .none (some env) FJ) { s with heap:=tq (s.heap.push { cls:= .type "dict",data:= .dict #[] }) scope.names }):
  wpAny M A (M9 scope globals cl [] qual none .none (some env)) Q E s:=by
 simp only[M9,NH,if_true];refine aH (wpAny_alloc ?_);refine aH (wpAny_layCells _ (λname kind cells=>by cases QU:kind == iJ <;> simp[QU]) _ _ _ _ ?_);rw[show({ s with heap:=s.heap.push { cls:= .type "dict",data:= .dict #[] } }:Shared).heap.objs.size=s.heap.objs.size + 1 from nk ..];rw[F5];exact aH (b5 (b5 hQ))
theorem CB:∀(names:List (Str×cY)) (h:Heap) (aG:List (Str×Addr)) (x:Str) (c:Addr),(lG h.objs.size names aG).lookup x=some c->
  (aG.lookup x=some c/\¬ (x,iJ)∈names)\/(h.objs.size<=c/\(x,iJ)∈names/\(tq h names).IsCell c none)
 | [],_,_,_,_,e=> .inl ⟨e,λz=>nomatch z⟩
 |(name,kind)::r,h,aG,x,c,e=>by
  unfold lG at e;unfold tq;by_cases hk:(kind == iJ)=true
  ·rw[if_pos hk]at e;rw[if_pos hk];obtain rfl:kind= .cell:=by simpa using hk
   have hs:(h.push { cls:= .type "cell",data:= .cell none }).objs.size=h.objs.size + 1:=nk ..;rw[<- hs]at e;rcases CB r _ _ x c e with⟨e1,e2⟩ | ⟨e1,e2,e3⟩
   ·rw[lK]at e1;cases hx:x == name with
    |true=>
     rw[hx]at e1;cases e1;obtain rfl:x=name:=by simpa using hx
     exact .inr ⟨bT _,tF,_,FP _ _ _ _ (iH _ rfl),rfl⟩
    |false=>
     rw[hx]at e1;refine .inl ⟨e1,λz=> ?_⟩;rcases bx.mp z with z | z
     ·have:x=name:=congrArg NK z;rw[this]at hx;simp at hx
     ·exact e2 z
   ·exact .inr ⟨by rw[hs]at e1;exact Nat.le_of_succ_le e1,lH _ e2,e3⟩
  ·rw[if_neg hk]at e;rw[if_neg hk];rcases CB r h aG x c e with⟨e1,e2⟩ | ⟨e1,e2,e3⟩
   ·refine .inl ⟨e1,λz=> ?_⟩;rcases bx.mp z with z | z
    ·have:iJ=kind:=congrArg Prod.snd z;rw[<- this]at hk;exact hk rfl
    ·exact e2 z
   ·exact .inr ⟨e1,lH _ e2,e3⟩
theorem CC:∀(names:List (Str×cY)) (n:Nat) (aG:List (Str×Addr)) (x:Str),(x,iJ)∈names\/(∃c,aG.lookup x=some c)->∃c,(lG n names aG).lookup x=some c
 | [],_,_,_,h=>h.elim (λz=>nomatch z) id
 |(name,kind)::r,n,aG,x,h=>by
  unfold lG;by_cases hk:(kind == iJ)=true
  ·rw[if_pos hk];refine CC r _ _ x ?_;rw[lK];cases hx:x == name with
   |true=>exact .inr ⟨n,rfl⟩
   |false=>
    rcases h with h | h
    ·rcases bx.mp h with z | z
     ·have:x=name:=congrArg NK z;rw[this]at hx;simp at hx
     ·exact .inl z
    ·exact .inr h
  ·rw[if_neg hk];refine CC r _ _ x (h.imp (λz=> ?_) id);rcases bx.mp z with z | z
   ·have:iJ=kind:=congrArg Prod.snd z;rw[<- this]at hk;exact absurd rfl hk
   ·exact z
theorem CD:∀(names:List (Str×cY)) (n:Nat) (aG:List (Str×Addr)),(∀x c,aG.lookup x=some c->c < n)->(∀x y c,aG.lookup x=some c->aG.lookup y=some c->x=y)->
  ∀x y c,(lG n names aG).lookup x=some c->(lG n names aG).lookup y=some c->x=y
 | [],_,_,_,h=>h
 |(name,kind)::r,n,aG,hb,hi=>by
  unfold lG;by_cases hk:(kind == iJ)=true
  ·rw[if_pos hk];refine CD r _ _ (λx c e=> ?_) λx y c e1 e2=> ?_
   ·rw[lK]at e;cases hx:x == name with
    |true=>rw[hx]at e;cases e;exact Bp _
    |false=>rw[hx]at e;exact F6 (hb x c e)
   ·rw[lK]at e1 e2;cases hx:x == name with
    |true=>
     rw[hx]at e1;cases e1;cases hy:y == name with
     |true=>rw[show x=name by simpa using hx,show y=name by simpa using hy]
     |false=>rw[hy]at e2;exact absurd (hb y _ e2) (mx _)
    |false=>
     rw[hx]at e1;cases hy:y == name with
     |true=>rw[hy]at e2;cases e2;exact absurd (hb x _ e1) (mx _)
     |false=>rw[hy]at e2;exact hi x y c e1 e2
  ·rw[if_neg hk];exact CD r n aG hb hi
structure Ik(X:Cx)(scope:Scope)(C:Addr)(h':Heap)(cl:List (Str×Addr)):Prop where
 at_:∀x c,cl.lookup x=some c->(X.env.cells.lookup x=some c/\¬ (x,iJ)∈scope.names)\/(C < c/\(x,iJ)∈scope.names/\h'.IsCell c none)
 has:∀y∈scope.names,(y.2= .free\/y.2= .cell)->∃c,cl.lookup y.1=some c
 inj:∀x y c,cl.lookup x=some c->cl.lookup y=some c->x=y
noncomputable def nN (js:List (Option Nat)) (σ:St):St:=js.map λo=>o.bind λj=>(σ[j]?).join
structure v9(X:Cx)(N:List Str)(scope:Scope)(js:List (Option Nat)):Prop where
 len:js.length=N.length
 at_:∀(i j:Nat) (x:Str),js[i]?=some (some j)->N[i]?=some x->X.N[j]?=some x/\scope.names.lookup x=some .free/\(X.env.scope.names.lookup x=some .cell\/X.env.scope.names.lookup x=some .free)
 fr:∀y∈scope.names,y.2= .free->X.env.kindOf y.1=some .cell\/X.env.kindOf y.1=some .free
theorem Il{env:Env}:∀{names:List (Str×cY)} {x:Str},names.lookup x=some .free->
  let r:=(names.map λ(n,k)=>if(k == kW && env.scope.kind == .function && env.kindOf n == some .cell) then(n,iJ) else(n,k)).lookup x
  r=some .cell\/r=some .free
 | [],_,h=>by simp at h
 |(n,k)::r,x,h=>by
  have ih:=@Il env r x;show(rg x ((if(k == kW && env.scope.kind == .function && env.kindOf n == some .cell)=true then(n,iJ) else(n,k))::_)=_)\/(rg x ((if(k == kW && env.scope.kind == .function && env.kindOf n == some .cell)=true then(n,iJ) else(n,k))::_)=_);cases hx:x == n with
  |true=>
   simp only[lK,hx]at h;cases h;by_cases hc:(kW == kW && env.scope.kind == .function && env.kindOf n == some .cell)=true
   ·rw[if_pos hc];simp only[lK,hx];exact .inl trivial
   ·rw[if_neg hc];simp only[lK,hx];exact .inr trivial
  |false=>
   simp only[lK,hx]at h;by_cases hc:(k == kW && env.scope.kind == .function && env.kindOf n == some .cell)=true
   ·rw[if_pos hc];simp only[lK,hx];exact ih h
   ·rw[if_neg hc];simp only[lK,hx];exact ih h
theorem Im{env:Env}:∀{names:List (Str×cY)} {x:Str},
  ((names.map λ(n,k)=>if(k == kW && env.scope.kind == .function && env.kindOf n == some .cell) then(n,iJ) else(n,k)).lookup x=some .cell\/
   (names.map λ(n,k)=>if(k == kW && env.scope.kind == .function && env.kindOf n == some .cell) then(n,iJ) else(n,k)).lookup x=some .free)->
  (x,kW)∈names\/(x,iJ)∈names
 | [],_,h=>by simp at h
 |(n,k)::r,x,h=>by
  have ih:=@Im env r x;rw[eO]at h;by_cases hc:(k == kW && env.scope.kind == .function && env.kindOf n == some .cell)=true
  ·have e:(match ((n,k):Str×cY) with | (n,k)=>if(k == kW && env.scope.kind == .function && env.kindOf n == some .cell)=true then(n,iJ) else(n,k))=(n,iJ):=if_pos hc;rw[e]at h;simp only[lK]at h;cases hx:x == n with
   |true=>
    have:x=n:=by simpa using hx
    have hk:k= .free:=by
     rw[rj,rj]at hc;simpa using hc.1.1
    rw[this,hk];exact .inl tF
   |false=>
    rw[hx]at h;exact(ih h).imp (lH _) (lH _)
  ·have e:(match ((n,k):Str×cY) with | (n,k)=>if(k == kW && env.scope.kind == .function && env.kindOf n == some .cell)=true then(n,iJ) else(n,k))=(n,k):=if_neg hc;rw[e]at h;simp only[lK]at h;cases hx:x == n with
   |true=>
    have:x=n:=by simpa using hx
    rw[hx]at h;rw[this];rcases h with h | h
    ·cases h;exact .inr tF
    ·cases h;exact .inl tF
   |false=>
    rw[hx]at h;exact(ih h).imp (lH _) (lH _)
section
theorem Inv.block{t':Nat}(I:Inv X aa σ H s)(hf:∀b∈fp,iL X aa H b/\b < s.heap.objs.size)(hC:s.heap.objs.size<=C)(hk:∀b o,s.heap.get? b=some o->h'.get? b=some o)(hn:h'.Ns C m)
  (mL:scope.kind= .function) (nB:∀y∈scope.names,y.2= .cell->scope.names.lookup y.1=some .cell) (cO:Ik X scope C h' cl) (nO:v9 X N scope js):
  Inv (ia X N scope cl C s H fp aa) [] (nN js σ) H { s with heap:=h',toks:=t' }:=by
 have ZD:∀x c,X.env.cells.lookup x=some c->c < s.heap.objs.size:=λx c e=>by
  obtain⟨v,q⟩:=I.cell x c e;exact q.lt
 have QV:∀p∈X.pn++aa,p.1∉kA X.stack:=λp hp z=>by
  obtain⟨_,_,h3,h4,_⟩:=I.pin p hp;rcases bx.mp (I.vD _ z) with q | q
  ·exact h3 q
  ·exact h4 q
 have QW:(ia X N scope cl C s H fp aa).Ok:=by
  refine⟨I.ok.mod,mL,I.ok.glob,I.ok.blt,hC,cO.inj,λx hx=> ?_,λx c h e=> ?_,I.ok.hd,I.ok.frames, .inl rfl,λb hb=>⟨?_,λx c e=> ?_⟩,I.bs,dC I.ok.oO I.sz,
   λb o e hb=> ?_,λb hb z=> ?_,I.stack,I.Gy⟩
  ·rcases Im (env:=X.env) hx with q | q
   ·exact cO.has _ q (.inl rfl)
   ·exact cO.has _ q (.inr rfl)
  ·have h1:scope.names.lookup x=some iJ:=by simpa[ia]using h
   rcases cO.at_ x c e with⟨_,z⟩ | ⟨z,_⟩
   ·exact absurd (tH h1) z
   ·exact dC hC (my z)
  ·exact fN (df (hf b hb).2 hC)
  ·rcases cO.at_ x c e with⟨z,_⟩ | ⟨z,_⟩
   ·exact(hf b hb).1.2.2.2.2.1 x c z
   ·exact rb (df (hf b hb).2 (dC hC (my z)))
  ·obtain⟨_,_,_,h4,_⟩:=(hf b hb).1;rcases h4 with z | z
   ·exact I.ok.vC b o e z
   ·exact absurd (df (dR e) (dC I.ok.oO z)) (mx _)
  ·obtain⟨_,h2,h3,_⟩:=(hf b hb).1;rcases bx.mp (I.vD _ z) with q | q
   ·exact h2 q
   ·exact h3 q
 refine⟨QW,rfl,I.bare,Un.kept hk,⟨m,hn,λi x v e1 e2 e3=> ?_⟩,λx c e=> ?_,I.aU.fresh hC,λx c e=> ?_,λp hp=> ?_,I.aU.kept hk, ?_⟩
 ·have ue:(js.map λo=>o.bind λj=>(σ[j]?).join)[i]?=some (some v):=e2;rw[du]at ue;cases ej:js[i]? with
  |none=>rw[ej]at ue;cases ue
  |some oj=>
   rw[ej]at ue;cases oj with
   |none=>cases ue
   |some j=>
    have yS:(σ[j]?).join=some v:=jQ ue;have QX:σ[j]?=some (some v):=by
     cases q:σ[j]? with
     |none=>rw[q]at yS;cases yS
     |some o=>rw[q]at yS;rw[show o=some v from yS]
    obtain⟨hN,tQ,hX⟩:=nO.at_ i j x ej e1;obtain⟨mX,_,hl⟩:=I.loc;obtain⟨u,ru,lk⟩:=hl j x v hN QX (hX.elim (λz=> .inr (.inl z)) λz=> .inr (.inr z));refine⟨u,ru, .inr ⟨Il (env:=X.env) tQ, ?_⟩⟩;rcases lk with⟨rS,_⟩ | ⟨_,c,hc,QY⟩
    ·have Ip:X.env.scope.names.lookup x=some .local:=rS;rcases hX with z | z <;> rw[z]at Ip <;> cases Ip
    ·obtain⟨c',oR⟩:=cO.has _ (tH tQ) (.inl rfl);have QZ:X.env.cells.lookup x=some c':=by
      rcases cO.at_ x c' oR with⟨z,_⟩ | ⟨_,z,_⟩
      ·exact z
      ·have:=nB _ z rfl;rw[tQ]at this;cases this
     have:c'=c:=jQ (QZ.symm.trans hc);subst this;obtain⟨o,ho,hd⟩:=QY;exact⟨c',oR,o,hk _ _ ho,hd⟩
 ·rcases cO.at_ x c e with⟨z,_⟩ | ⟨_,_,z⟩
  ·obtain⟨v,o,ho,hd⟩:=I.cell x c z;exact⟨v,o,hk _ _ ho,hd⟩
  ·exact⟨none,z⟩
 ·rcases cO.at_ x c e with⟨z,_⟩ | ⟨z,_⟩
  ·exact I.mE x c z
  ·exact I.aU.fresh (dC hC (my z))
 ·have wa:p∈X.pn++aa:=by
   have:p∈(X.pn++aa)++ []:=hp;rwa [fO]at this
  obtain⟨h1,h2,h3,h4,h5⟩:=I.pin p wa;exact⟨hk _ _ h1,h2,fN (df (dR h1) hC),QV p wa,h5⟩
 ·show(js.map _).length=N.length;rw[eG];exact nO.len
theorem Inv.Q0{o:HO}(I:Inv X aa σ H s)(h0:X.gZ.heap.objs.size<=D)(hn:H D=none)(hL:D≠X.env.locals)(hc:∀x c,X.env.cells.lookup x=some c->c≠D)(hp:∀p∈X.pn++aa,p.1≠D)
  (new:fP X.prog X.w (upd H D o) s.heap D o):Inv X aa σ (upd H D o) s:=by
 have old:∀b ob,X.gZ.heap.get? b=some ob->b≠D:=λb ob e=>fN (df (dR e) h0);refine⟨I.ok,I.os,I.bare,⟨I.base.keep,I.base.slot,λb ob e n hx=> ?_,I.base.there,λb xs e=> ?_,λb ob u e=> ?_,λb ps e=> ?_⟩,I.loc,I.cell, ?_,λx c e=> ?_,λp wa=> ?_,λb u e=> ?_,I.len⟩
 ·rw[bE (old b ob e)];exact I.base.free b ob e n hx
 ·have q:=I.base.oJ b xs e;rw[bE (gQ q hn)];exact q
 ·have q:=I.base.nz b ob u e;rw[bE (gQ q hn)];exact q
 ·obtain⟨more,q⟩:=I.base.oK b ps e;exact⟨more,by rw[bE (gQ q hn)];exact q⟩
 ·rw[bE (dS hL)];exact I.free
 ·rw[bE (hc x c e)];exact I.mE x c e
 ·obtain⟨h1,h2,h3⟩:=I.pin p wa;exact⟨h1,by rw[bE (hp p wa)];exact h2,h3⟩
 ·by_cases hb:b=D
  ·subst hb;rw[gb]at e;cases e;exact new
  ·rw[bE hb]at e;exact(I.aU b u e).e9 (λc v _ q=>q) (λc z=>by rw[bE (gQ z hn)];exact z) λc xs z=>by rw[bE (gQ z hn)];exact z
theorem Inv.Q1{s':Shared}{aM:St}{H':Hp}{ys:List V}{ax:List Value}{n:Nat}(I:Inv X aa σ H s)(hf:∀b∈fp,iL X aa H b/\b < s.heap.objs.size)(hC:s.heap.objs.size<=C)(hD:s.heap.objs.size<=D)(wc:D≠C)
  (J:Inv (ia X N scope cl C s H fp aa) [(D, { cls:= .type "list",data:= .seq ax.toArray n })] aM H' s') (hv:bA ys ax) (hz:ys.length<=aN):
  Inv X aa σ (upd H' D (.lst ys)) s'/\iL X aa (upd H' D (.lst ys)) C/\H' D=none/\∃m,s'.heap.Ns C m:=by
 have v7:H' C=none:=J.free;have Iq:H' D=none:=(J.pin (D,_) (j7 _ (j8.mpr rfl))).2.1;have Q2:s'.heap.get? D=some { cls:= .type "list",data:= .seq ax.toArray n }:=(J.pin (D,_) (j7 _ (j8.mpr rfl))).1;have u:Un (kA X.stack) fp H H' s.heap s'.heap:=J.base;obtain⟨hh,g,d,t,Cb⟩:=s';have Q3:Cb=s.os:=J.os;subst Q3;have I1:Inv X aa σ H' { s with heap:=hh,gens:=g,drawn:=d,toks:=t }:=
  I.call (h':=hh) (g':=g) (d':=d) (t':=t) (ch:=fp) u J.aU J.bare λb hb=>⟨(hf b hb).1.2.2.2.1,(hf b hb).1.2.1,(hf b hb).1.2.2.2.2.1,(hf b hb).1.2.2.2.2.2⟩
 have Dl:D≠X.env.locals:=rb (df I.lt hD);have young:∀a,s.heap.objs.size<=a->(∀x c,X.env.cells.lookup x=some c->c≠a)/\∀p∈X.pn++aa,p.1≠a:=λa ha=>⟨λx c e z=>by
   obtain⟨v,q⟩:=I.cell x c e;exact absurd (df q.lt (by rw[z];exact ha)) (mx _),λp hp z=>absurd (df (dR (I.pin p hp).1) (by rw[z];exact ha)) (mx _)⟩
 refine⟨I1.Q0 (dC I.sz hD) Iq Dl (young D hD).1 (young D hD).2 ⟨hz,ax,n,hv,Q2⟩,⟨by rw[bE (dS wc)];exact v7,rb (df I.lt hC),I.BK hC, .inr (dC I.sz hC),(young C hC).1,(young C hC).2⟩,Iq, ?_⟩;obtain⟨m,hn,_⟩:=J.loc;exact⟨m,hn⟩
end
def we(Y:Cx)(ifs:List Expr)(tt:TT):Prop:=
 ∀(aa:List (Addr×Obj)) (s:Shared) (σ:St) (H:Hp) (Q:Bool->Hp->Prop),Inv Y aa σ H s->tt σ H Q->
  wpAny (model Y.prog Y.w) Y.A (forIn ifs true λc r=>if r=true then do let ok <- isTrue c Y.env (eval c Y.env);pure (tK ok) else pure (tK r)) (TP Y aa σ Q) Y.xe s
def yT:TT:=λ_ H Q=>Q true H
theorem yU:we Y [] yT:=λ_ _ _ H _ I h=>b5 ⟨H,I,h⟩
theorem Ir(h:PT Y c tt):we Y [c] tt:=by
 intro aa s σ H Q I hw;simp only[Bw,F5,if_true];exact aH (aH (j6 (h aa s σ H Q I hw) (λb s' hb=>b5 (b5 hb)) λ_ _ x=>x))
def Iu(J:It)(g:TG)(tt:TT)(te:TE)(W:Nat->Nat->St->List V->Hp->Prop)(Q:V->Hp->Prop):Prop:=
 ∀i m aM ys H',W i m aM ys H'->(J.stop i H'/\∀D,H' D=none->Q (.ref D) (upd H' D (.lst ys)))\/
  (J.go i H'/\∃N:St->List V->Hp->Prop,(∀fG zs H2,N fG zs H2->zs.length<=aN/\∃m',m' < m/\W (i + 1) m' fG zs H2)/\
   ∀x H2,J.qd i H' x H2->g x aM H2 λfG H3=>tt fG H3 λok H4=>if ok=true then te fG H4 λy H5=>N fG (ys++ [y]) H5 else N fG ys H4)
section
theorem Iv{W:Nat->Nat->St->List V->Hp->Prop}{Q:V->Hp->Prop}{m0:Nat}{RR:Value->Addr->Result->Shared->Prop}{E:Value->Shared->Prop}(hc:X.calm=true)
  (hg:∀cl C s H ex aa,PG (ia X N scope cl C s H ex aa) tg g) (ht:∀cl C s H ex aa,we (ia X N scope cl C s H ex aa) ifs tt) (he:∀cl C s H ex aa,PE (ia X N scope cl C s H ex aa) elt te)
  (mL:scope.kind= .function) (nB:∀y∈scope.names,y.2= .cell->scope.names.lookup y.1=some .cell) (o8:∀x c,cl.lookup x=some c->X.env.cells.lookup x=some c) (ki:∀y∈scope.names,y.2= .free->∃c,cl.lookup y.1=some c) (nO:v9 X N scope js)
  (I:Inv X aa σ H s) (T:Turn X.prog X.w X.K tg J fp it tn) (st:tn 0 s.heap) (f:∀b∈fp,iL X aa H b) (w0:W 0 m0 (nN js σ) [] H) (turn:Iu J g tt te W Q)
  (Q4:∀(D C:Addr) (s':Shared) (ys:List V) (H':Hp),Inv X aa σ (upd H' D (.lst ys)) s'->iL X aa (upd H' D (.lst ys)) C->(∃m,s'.heap.Ns C m)->Q (.ref D) (upd H' D (.lst ys))->RR (.ref D) C (.ok .next) s'):
  wpAny (model X.prog X.w) X.A (newList []) (λaG mO=>wpAny (model X.prog X.w) X.A (M9 scope X.env.globals cl [] X.env.qual none .none (some X.env)) (λIw yR=>
   pZ (model X.prog X.w) X.A (.compStart (.ListComp elt [⟨tg,iter,ifs,0⟩] scope pos) 0 (.ref it) aG { Iw with scope:=relabel scope X.env }) (RR aG Iw.locals) yR) E mO) E s:=by
 have jS:∀b∈fp,b < s.heap.objs.size:=λb hb=>by
  obtain⟨o,ho,_⟩:=T.obj 0 _ st b hb;exact dR ho
 have ff:∀b∈fp,iL X aa H b/\b < s.heap.objs.size:=λb hb=>⟨f b hb,jS b hb⟩
 refine vh (QT ?_);dsimp only;generalize CF:s.heap.push { cls:= .type "list",dict:=none,data:= .seq ([]:List Value).toArray }=H2;have hC:H2.objs.size=s.heap.objs.size + 1:=by rw[<- CF,nk]
 have wc:s.heap.objs.size≠H2.objs.size:=by rw[hC];exact fN (Bp _)
 have yV:s.heap.objs.size<=H2.objs.size:=by rw[hC];exact xY _
 have below:∀b,b < s.heap.objs.size->b≠H2.objs.size/\b≠s.heap.objs.size:=λb hb=>⟨by rw[hC];exact fN (F6 hb),fN hb⟩
 have Q5:(tq (H2.push { cls:= .type "dict",data:= .dict #[] }) scope.names).Ns H2.objs.size (λ_=>none):=(Heap.Ns.new H2 (.type "dict")).keeps (FP _ _);have old:∀b o,s.heap.get? b=some o->(tq (H2.push { cls:= .type "dict",data:= .dict #[] }) scope.names).get? b=some o:=λb o e=>FP _ _ b o (dN _ (CF▸dN _ e));have Q6:(tq (H2.push { cls:= .type "dict",data:= .dict #[] }) scope.names).get? s.heap.objs.size=some { cls:= .type "list",dict:=none,data:= .seq ([]:List Value).toArray }:=FP _ _ _ _ (dN _ (CF▸iH _ rfl));have fm:∀x c,cl.lookup x=some c->c < H2.objs.size + 1:=λx c e=>by
  obtain⟨v,q⟩:=I.cell x c (o8 x c e);exact F6 (df q.lt yV)
 have hsz:(H2.push { cls:= .type "dict",data:= .dict #[] }).objs.size=H2.objs.size + 1:=nk ..;have cO:Ik X scope H2.objs.size (tq (H2.push { cls:= .type "dict",data:= .dict #[] }) scope.names) (lG (H2.objs.size + 1) scope.names cl):=by
  refine⟨λx c e=> ?_,λy hy hk=> ?_,CD _ _ _ fm λx y c e1 e2=>I.ok.inj x y c (o8 x c e1) (o8 y c e2)⟩
  ·rw[<- hsz]at e;rcases CB _ _ _ x c e with⟨e1,e2⟩ | ⟨e1,e2,e3⟩
   ·exact .inl ⟨o8 x c e1,e2⟩
   ·exact .inr ⟨by rw[hsz]at e1;exact e1,e2,e3⟩
  ·obtain⟨y,k⟩:=y;refine CC _ _ _ _ ?_;rcases hk with hk | hk
   ·exact .inr (ki _ hy hk)
   ·exact .inl (by rw[<- hk];exact hy)
 show pZ _ _ (.compStart _ 0 _ _ (compEnvC scope (lG (H2.objs.size + 1) scope.names cl) H2.objs.size X.env)) _ _;generalize lG (H2.objs.size + 1) scope.names cl=km at *;generalize tq (H2.push { cls:= .type "dict",data:= .dict #[] }) scope.names=v8 at *;clear o8 ki fm hsz;generalize H2.objs.size=C at *;generalize yW:s.heap.objs.size=D at *;have rT:s.heap.objs.size<=D:=Nn yW;have Iy:s.heap.objs.size<=C:=by rw[yW];exact yV
 -- mH ZE own invariant
 have J0:Inv (ia X N scope km C s H fp aa) [] (nN js σ) H { s with heap:=v8 }:=
  I.block (λb hb=>⟨f b hb,by rw[yW];exact jS b hb⟩) Iy old Q5 mL nB cO nO
 have rq:∀b,b∉X.fs->b≠X.env.locals->b∉kA X.stack:=λb h1 h2 z=>by
  rcases bx.mp (I.vD _ z) with q | q
  ·exact h2 q
  ·exact h1 q
 have Q7:D∉kA X.stack:=rq D (I.BK rT) (rb (df I.lt rT));have Q8:∀x c,km.lookup x=some c->c≠D:=λx c e z=>by
  rcases cO.at_ x c e with⟨e,_⟩ | ⟨e,_⟩
  ·obtain⟨v,q⟩:=I.cell x c e;exact absurd (df q.lt (by rw[z];exact rT)) (mx _)
  ·exact absurd e (by rw[z];exact Nat.not_lt.mpr yV)
 have Q9:∀p∈X.pn++aa,p.1≠D:=λp hp z=>absurd (df (dR (I.pin p hp).1) (by rw[z];exact rT)) (mx _)
 -- mH list under way is pinned
 have Iz:∀{ps:List (Addr×Obj)} {aM:St} {H':Hp} {s':Shared} {ax:List Value} {n:Nat},Inv (ia X N scope km C s H fp aa) ps aM H' s'->H' D=none->s'.heap.get? D=some { cls:= .type "list",data:= .seq ax.toArray n }->
   Inv (ia X N scope km C s H fp aa) [(D, { cls:= .type "list",data:= .seq ax.toArray n })] aM H' s':=λ{ps aM H' s' ax n} Jx hn ho=>Jx.vE λp hp=>by
  obtain rfl:=j8.mp hp;exact⟨ho,hn,wc,Q7,λv z=>by cases z⟩
 have rE:∀{H':Hp} {ob:Obj},(∀b∈fp,H' b=none)->∀b∈fp,iL (ia X N scope km C s H fp aa) [(D,ob)] H' b:=λ{H' ob} hn b hb=>by
  obtain⟨_,f1,f2,f3,f4,f5⟩:=f b hb;refine⟨hn b hb,(below b (jS b hb)).1,rq b f2 f1, .inl hb,λx c e=>(cO.at_ x c e).elim (λz=>f4 x c z.1) (λz=>rb (df (jS b hb) (dC yV (my z.1)))),λp hp=> ?_⟩;rcases lJ.mp hp with z | z
  ·exact f5 p z
  ·obtain rfl:=j8.mp z;exact dS (below b (jS b hb)).2
 have loop:∀mO:Shared,mO= { s with heap:=v8 }->
   pZ (model X.prog X.w) X.A (.compLoop (.ListComp elt [⟨tg,iter,ifs,0⟩] scope pos) 0 (.ref it) (.ref D) (compEnvC scope km C X.env)) (RR (.ref D) C) mO:=by
  rintro mO rfl;refine QO (λk s'=>∃(i:Nat) (aM:St) (ys:List V) (H':Hp) (ax:List Value) (n:Nat),Inv (ia X N scope km C s H fp aa) [(D, { cls:= .type "list",data:= .seq ax.toArray n })] aM H' s'/\bA ys ax/\ys.length<=aN/\tn i s'.heap/\(∀b∈fp,H' b=none)/\W i k aM ys H') ?_ m0
   ⟨0,nN js σ, [],H, [],0,Iz J0 (I.aU.fresh rT) Q6, .nil,kz _,T.keep _ _ _ st λb _ o e=>old b o e,λb hb=>(f b hb).1,w0⟩
  rintro k s' ⟨i,aM,ys,H',ax,n,J',hv,hz,iY,IA,w'⟩;rcases turn i k aM ys H' w' with⟨stop,q⟩ | ⟨go,NN,hN,step⟩
  ·refine j6 (T.done (ia X N scope km C s H fp aa) rfl rfl rfl hc i _ s' aM H' (λ_ _=>False) J' (rE IA) iY stop) (λr s4 ⟨hr,J4⟩=> ?_) λ_ _ z=>z.elim;subst hr;obtain⟨K1,K2,K3,K4⟩:=I.Q1 (λb hb=>⟨f b hb,by rw[yW];exact jS b hb⟩) Iy rT wc J4 hv hz;exact Q4 D C s4 ys H' K1 K2 K4 (q D K3)
  ·refine j6 (T.item (ia X N scope km C s H fp aa) rfl rfl rfl hc i _ s' aM H' (λ_ _=>False) J' (rE IA) iY go) (λr s4 ⟨u,hr,h4⟩=> ?_) λ_ _ z=>z.elim;subst hr;refine j6 h4 (λ_ s5 ⟨x,H5,J5,r5,y5,kZ,B2⟩=> ?_) λ_ _ z=>z.elim;have Ra:=J5.pinned (rE B2) (T.obj _ _ kZ);have IB:∀{kC:St} {H7:Hp} {s7:Shared},Inv (ia X N scope km C s H fp aa) ([(D, { cls:= .type "list",data:= .seq ax.toArray n })]++vK fp s5.heap) kC H7 s7->tn (i + 1) s7.heap/\∀b∈fp,H7 b=none:=λ{kC H7 s7} J7=>
    ⟨T.keep _ _ _ kZ λb hb o e=>(J7.pin (b,o) (j7 _ (j7 _ (yu hb e)))).1,λb hb=>by
     obtain⟨o,e,d⟩:=T.obj _ _ kZ b hb;exact(J7.pin (b,o) (j7 _ (j7 _ (yu hb e)))).2.1⟩
   refine j6 (hg km C s H fp aa _ s5 aM H5 x u _ Ra r5 (step x H5 y5)) (λ_ s6 ⟨mI,H6,J6,q6⟩=> ?_) λ_ _ z=>(show False from z).elim;refine j6 (ht km C s H fp aa _ s6 mI H6 _ J6 q6) (λok s7 ⟨H7,J7,q7⟩=> ?_) λ_ _ z=>(show False from z).elim;cases ok with
   |false=>
    have Rb:NN mI ys H7:=q7;obtain⟨IC,m',hm,w7⟩:=hN mI ys H7 Rb;obtain⟨t7,f7⟩:=IB J7;exact⟨m',hm,i + 1,mI,ys,H7,ax,n,J7.vL,hv,hz,t7,f7,w7⟩
   |true=>
    refine j6 (he km C s H fp aa _ s7 mI H7 _ J7 q7) (λy s8 ⟨v,H8,J8,r8,q8⟩=> ?_) λ_ _ z=>(show False from z).elim;obtain⟨IC,m',hm,w8⟩:=hN mI (ys++ [v]) H8 q8;obtain⟨t8,f8⟩:=IB J8;have pD:=J8.pin (D,_) (j7 _ (Bo _ (j8.mpr rfl)));have Rc:ax.toArray.size<=aN:=by rw[gI, <- hv.length];exact hz
    refine wpAny_list_append_plain (hsz:=Rc) (items:=ax.toArray) ⟨n,pD.1⟩ λh9 Rf ID=> ?_;obtain⟨n9,Rg⟩:=Rf;have Rh:h9.get? D=some { cls:= .type "list",data:= .seq (ax++ [y]).toArray n9 }:=by rw[Rg];simp
    have Rj:Inv (ia X N scope km C s H fp aa) [] mI H8 s8:=J8.vE λp hp=>(nomatch hp)
    have J9:Inv (ia X N scope km C s H fp aa) [] mI H8 { s8 with heap:=h9 }:=Rj.turned (t':=s8.toks) (it:=D) (λb o hb e=>(ID.2 b hb).trans e) pD.2.1 wc (.inr rT) Q8 λp hp=>Q9 p (by
     have:p∈(X.pn++aa)++ []:=hp;rwa [fO]at this)
    refine⟨m',hm,i + 1,mI,ys++ [v],H8,ax++ [y],n9,Iz J9 pD.2.1 Rh,hv.append (.cons r8 .nil),IC,T.keep _ _ _ t8 λb hb o e=>(ID.2 b (below b (jS b hb)).2).trans e,f8,w8⟩
 exact codeAny_compStart_list (loop _ rfl) (T.self X.A 0 _ _ _ (T.keep _ _ _ st λb _ o e=>old b o e) (loop _ rfl))
def rU(wi:TI)(g:TG)(tt:TT)(te:TE)(js:List (Option Nat)):TE:=λσ H Q=>wi σ H λJ H1=>∃W:Nat->Nat->St->List V->Hp->Prop,(∃m,W 0 m (nN js σ) [] H1)/\Iu J g tt te W Q
theorem yX(js:List (Option Nat))(N:List Str)(hc:X.calm=true)(nO:v9 X N scope js)(hi:PI X tg iter wi)(hg:∀cl C s H ex aa,PG (ia X N scope cl C s H ex aa) tg g)(ht:∀cl C s H ex aa,we (ia X N scope cl C s H ex aa) ifs tt)
  (he:∀cl C s H ex aa,PE (ia X N scope cl C s H ex aa) elt te)
  (mL:scope.kind= .function:=by rfl) (nB:∀y∈scope.names,y.2= .cell->scope.names.lookup y.1=some .cell:=by decide +kernel) (CG:∀y∈scope.names,y.2= .local->scope.names.lookup y.1=some .local:=by decide +kernel)
  (hs:∀x,M3 iter X.env x=pure x:=by intro _;rfl):PE X (.ListComp elt [⟨tg,iter,ifs,0⟩] scope pos) (rU wi g tt te js):=by
 intro aa s σ H Q I h;obtain⟨cl,CH,o8,ki⟩:=Ig (scope:=scope) (env:=X.env) λy hy hf=>I.ok.has _ (nO.fr y hy hf);rw[eval_ListComp];refine YN (use:=none) rfl hs CH mL CG (bC (hi aa s σ H _ I h) λv s1 h1=>bC h1 λyp s2 h2=> ?_);obtain⟨it,fp,tn,J,H2,rfl,I2,T,d5,f2,W,⟨m0,w0⟩,turn⟩:=h2;refine Iv (RR:=λaG C=>compPost (model X.prog X.w) X.A X.xe none (EP X aa σ Q) aG C) hc hg ht he mL nB o8 ki nO I2 T d5 f2 w0 turn λD C s' ys H' K1 K2 K3 q=> ?_;obtain⟨m,hm⟩:=K3;refine⟨m,hm,λh' sb=>⟨.ref D,_,K1.turned (t':=s'.toks) (it:=C) (λb o hb e=>(sb.2 b hb).trans e) K2.1 K2.2.1 K2.2.2.2.1 K2.2.2.2.2.1 K2.2.2.2.2.2,rfl,q⟩⟩
theorem IE{py IF:Pos}(js:List (Option Nat))(N:List Str)(hc:X.calm=true)(nO:v9 X N scope js)(hN:X.N.Nodup)(hk:X.N[k]?=some y)(hy:Loc X.env.scope y)(hi:PI X tg iter wi)(hg:∀cl C s H ex aa,PG (ia X N scope cl C s H ex aa) tg g)(ht:∀cl C s H ex aa,we (ia X N scope cl C s H ex aa) ifs tt)
  (he:∀cl C s H ex aa,PE (ia X N scope cl C s H ex aa) elt te)
  (Rk:sY (.ListComp elt [⟨tg,iter,ifs,0⟩] scope pos) (some (.Name y py)) IF.line X.env=pure true:=by rfl)
  (mL:scope.kind= .function:=by rfl) (nB:∀y∈scope.names,y.2= .cell->scope.names.lookup y.1=some .cell:=by decide +kernel) (CG:∀y∈scope.names,y.2= .local->scope.names.lookup y.1=some .local:=by decide +kernel)
  (hs:∀x,M3 iter X.env x=pure x:=by intro _;rfl) (hf:X.fn y=true\/X.env.scope.names.lookup y=some .local:=by first | exact .inl rfl | exact .inr rfl | assumption):
  PS X (.Assign [.Name y py] (.ListComp elt [⟨tg,iter,ifs,0⟩] scope pos) IF) (mG (rU wi g tt te js) (kB k)):=by
 intro aa s σ H D I h;obtain⟨cl,CH,o8,ki⟩:=Ig (scope:=scope) (env:=X.env) λy hy hf=>I.ok.has _ (nO.fr y hy hf);rw[exec_Assign_Name_used _ _ _ _ Rk];refine aH (M1 (aH ?_));show wpAny _ X.A (do let _ <- comprehension (.ListComp elt [⟨tg,iter,ifs,0⟩] scope pos) scope X.env _ (newList []) false (eval iter X.env) (some (assign (.Name y py) X.env))) _ _ s;refine aH (j6 (YN (use:=some (assign (.Name y py) X.env)) (Q:=λ_ s'=>SP X aa D .next s') rfl hs CH mL CG
  (bC (hi aa s σ H _ I h) λv s1 h1=>bC h1 λyp s2 h2=> ?_)) (λ_ s' hq=>b5 (b5 hq)) λ_ _ e=>e)
 obtain⟨it,fp,tn,J,H2,rfl,I2,T,d5,f2,W,⟨m0,w0⟩,turn⟩:=h2;refine Iv (RR:=λaG C=>compPost (model X.prog X.w) X.A X.xe (some (assign (.Name y py) X.env)) (λ_ s'=>SP X aa D .next s') aG C) hc hg ht he mL nB o8 ki nO I2 T d5 f2 w0 turn λDd C s' ys H' K1 K2 K3 q=> ?_;obtain⟨m,o,es,ep,ho,hd,hr⟩:=K3;have Kp:Inv X (aa++ [(C,o)]) σ (upd H' Dd (.lst ys)) s':=K1.vE λp hp=>by
  rcases lJ.mp hp with z | z
  ·exact K1.pin p (j7 _ z)
  ·obtain rfl:=j8.mp z;exact⟨ho,K2.1,K2.2.1,K2.2.2.1,λv z=>by rw[hd]at z;cases z⟩
 show wpAny _ X.A (assign (.Name y py) X.env (.ref Dd)) _ _ _;refine wpAny_assign_Name (BP (v:= .ref Dd) Kp hN hk hy rfl (λs3 I3=> ?_) hf);have pC:=I3.pin (C,o) (j7 _ (j7 _ (j8.mpr rfl)));refine⟨m,⟨o,es,ep,pC.1,hd,hr⟩,λh' sb=> ?_⟩;have I4:Inv X aa (σ.set k (some (.ref Dd))) (upd H' Dd (.lst ys)) s3:=I3.vL;exact⟨_,_,I4.turned (t':=s3.toks) (it:=C) (λb o hb e=>(sb.2 b hb).trans e) K2.1 K2.2.1 K2.2.2.2.1 K2.2.2.2.2.1 K2.2.2.2.2.2,q⟩
end
mutual
inductive jt(K:ak)(H:Hp):V->PyData->Prop
 |az:jt K H .az .none
 |bl (b:Bool):jt K H (.bl b) (.bool b)
 |int (i:Int):jt K H (.int i) (.int i)
 |str (x:Str):jt K H (.str x) (.str x)
 |lst {a:Addr} {xs:List V} {ds:List PyData}:bW K H a xs->rV K H xs ds->jt K H (.ref a) (.list ds)
 |tup {a:Addr} {xs:List V} {ds:List PyData}:cD K H a xs->rV K H xs ds->jt K H (.ref a) (.tuple ds)
inductive rV(K:ak)(H:Hp):List V->List PyData->Prop
 |nil:rV K H [] []
 |cons {x:V} {xs:List V} {d:PyData} {ds:List PyData}:jt K H x d->rV K H xs ds->rV K H (x::xs) (d::ds)
end
section
mutual
theorem Inv.reads(I:Inv X aa σ H s):∀{v:V} {d:PyData} {u:Value},jt X.K H v d->RelV v u->∃as,Reads s.heap u d as
 |_,_,_, .az,r=>by cases r;exact⟨_, .none⟩
 |_,_,_, .bl b,r=>by cases r;exact⟨_, .bool b⟩
 |_,_,_, .int i,r=>by obtain⟨t,rfl⟩:=r;exact⟨_, .int i t⟩
 |_,_,_, .str x,r=>by obtain⟨t,rfl⟩:=r;exact⟨_, .str x t⟩
 |_,_,_, .lst hs ha,r=>by
  cases r;obtain⟨ax,rv,⟨o,n,e,hc,_,hd⟩,_⟩:=I.list hs;obtain⟨as,q⟩:=I.readsAll ha rv;exact⟨_, .list e hc hd (by simpa using q)⟩
 |_,_,_, .tup hs ha,r=>by
  cases r;obtain⟨ax,rv,⟨o,e,hc,n,hd⟩,_⟩:=I.tuple hs;obtain⟨as,q⟩:=I.readsAll ha rv;exact⟨_, .tuple e hc hd (by simpa using q)⟩
theorem Inv.readsAll(I:Inv X aa σ H s):∀{vs:List V} {ds:List PyData} {us:List Value},rV X.K H vs ds->bA vs us->∃as,ReadsAll s.heap us ds as
 |_,_,_, .nil,r=>by cases r;exact⟨_, .nil⟩
 |_,_,_, .cons h t,r=>by
  cases r with
  |cons r1 r2=>
   obtain⟨as,q⟩:=I.reads h r1;obtain⟨bs,q2⟩:=I.readsAll t r2;exact⟨_, .cons q q2⟩
end
end
section
theorem Rm(hu:X.A.units + 64 < cLine):dg X (iB .Eq) (λx y H Q=>∃dx dy,jt X.K H x dx/\jt X.K H y dy/\dx.canLay0=true/\dy.canLay0=true/\dx.depth<=60/\Q (.bl (dX dx dy)) H):=by
 intro aa s σ H x y v u Q I rx ry h;obtain⟨dx,dy,h1,h2,c1,c2,hd,q⟩:=h;obtain⟨as,r1⟩:=I.reads h1 rx;obtain⟨bs,r2⟩:=I.reads h2 ry;exact SeqAt.compareEq_reads r1 r2 c1 c2 (by lia) ⟨.bl _,H,I,rfl,q⟩
theorem Rn(hu:X.A.units + 64 < cLine):dg X (iB .NotEq) (λx y H Q=>∃dx dy,jt X.K H x dx/\jt X.K H y dy/\dx.canLay0=true/\dy.canLay0=true/\dx.depth<=60/\Q (.bl (!dX dx dy)) H):=by
 intro aa s σ H x y v u Q I rx ry h;obtain⟨dx,dy,h1,h2,c1,c2,hd,q⟩:=h;obtain⟨as,r1⟩:=I.reads h1 rx;obtain⟨bs,r2⟩:=I.reads h2 ry;exact SeqAt.compareNe_reads r1 r2 c1 c2 (by lia) ⟨.bl _,H,I,rfl,q⟩
end
def yY(x:Str):It:=⟨λi _=>i < x.cps.size,λi H v H'=>H'=H/\∃c,x.cps[i]?=some c/\v= .str ⟨#[c]⟩,λi _=>x.cps.size<=i⟩
theorem IG{P:Program}{w:World}{K:ak}{tg:Expr}{it:Addr}{x:Str}{t:Tok}(vT: ["enumerate","zip","dict_itemiterator","dict_reverseitemiterator","odict_iterator","itertools.zip_longest","itertools.pairwise"].contains ty=false)
  (W:∀A':Around,A'.handled=none->Walks P w A' it [it] [it] x.cps.size (SignAt x) (λi h=>h.IsStrIter it ty x t i))
  (Ro:∀(A:Around) (i:Nat) (s:Shared) (Q:Value->Shared->Prop) (E:Value->Shared->Prop),s.heap.IsStrIter it ty x t i->Q (.ref it) s->wpAny (model P w) A (pyIter (.ref it)) Q E s):Turn P w K tg (yY x) [it] it (λi h=>i<=x.cps.size/\h.IsStrIter it ty x t i) where
 mem:=by simp
 obj:=λi h st b hb=>by
  have e:b=it:=by simpa using hb
  subst e;obtain⟨_,o,e,c,d⟩:=st;exact⟨o,e,λv z=>by rw[d]at z;cases z⟩
 keep:=λi h h' st k=>by
  obtain⟨hi,o,e,r⟩:=st;exact⟨hi,o,k it (by simp) o e,r⟩
 item:=by
  intro X hP hw hK hc i aa s σ H E I hf st hg;subst hP hw hK;obtain⟨f0,f1,f2,f3,f4,f5⟩:=hf it (by simp);obtain⟨_,st⟩:=st;refine(W X.A (I.ok.hd hc)).item i s _ _ hg st λv h' tk hv iY kk=> ?_;obtain⟨c,u,hx,rfl⟩:=hv;have I1:Inv X aa σ H { s with heap:=h',toks:=tk }:=I.turned (λb o hb e=>kk b o (by simpa using hb) e) f0 f1 f3 f4 f5;obtain⟨o,e,IH,hd⟩:=id iY;exact⟨_,rfl,yq (s:= { s with heap:=h',toks:=tk }) e IH hd vT ⟨.str ⟨#[c]⟩,H,I1,⟨u,rfl⟩,⟨rfl,c,hx,rfl⟩,⟨hg,iY⟩,λb hb=>(hf b hb).1⟩⟩
 done:=by
  intro X hP hw hK hc i aa s σ H E I hf st hg;subst hP hw hK;obtain⟨f0,f1,f2,f3,f4,f5⟩:=hf it (by simp);obtain⟨hi,st⟩:=st;have e:i=x.cps.size:=Nat.le_antisymm hi hg;subst e;exact(W X.A (I.ok.hd hc)).done s _ _ st λh' tk kk=>⟨rfl,I.turned (t':=tk) (λb o hb e=>kk b o (by simpa using hb) e) f0 f1 f3 f4 f5⟩
 self:=λA i s Q E st h=>Ro A i s Q E st.2 h
section
theorem Rp:lg X (λx lo hi H Q=>∃z,x= .str z/\z.length<=aN/\Q (.str (F7 z lo hi)) H):=by
 intro aa s σ H x v vl vu lo hi sl Q I rx hs pl pu h;obtain⟨z,rfl,hz,q⟩:=h;obtain⟨t,rfl⟩:=rx;refine⟨"str",_,F.slot_str_getitem.lookup,typeIs_str _ _ _, ?_⟩;have fin:∀t' k,EP X aa σ Q (.str (F7 z lo hi) t') { s with toks:=k }:=λt' k=>⟨.str _,H,I.tok k,⟨t',rfl⟩,q⟩
 obtain⟨o,ho,hc,hd⟩:=hs;cases pl with
 |none=>
  cases pu with
  |none=>exact FQ (l:=none) (u:=none) (st:=none) ⟨o,ho,hc,hd⟩ rfl (FR ⟨dC (F8 z _ _) hz,fin⟩)
  |int j tj=>exact FQ (l:=none) (u:=some (j,tj)) (st:=none) ⟨o,ho,hc,hd⟩ rfl (FR ⟨dC (F8 z _ _) hz,fin⟩)
 |int i ti=>
  cases pu with
  |none=>exact FQ (l:=some (i,ti)) (u:=none) (st:=none) ⟨o,ho,hc,hd⟩ rfl (FR ⟨dC (F8 z _ _) hz,fin⟩)
  |int j tj=>exact FQ (l:=some (i,ti)) (u:=some (j,tj)) (st:=none) ⟨o,ho,hc,hd⟩ rfl (FR ⟨dC (F8 z _ _) hz,fin⟩)
end
open PySem.W
section
variable {prog:Program}{w:World}{A:Around}{E:Value->Shared->Prop}{s:Shared}
end
section
variable {prog:Program}{w:World}{A:Around}{E:Value->Shared->Prop}{s:Shared}{κ:Type}[DecidableEq κ]{knd:YQ prog w κ}
end
section
variable {X:Cx}{aa:List (Addr×Obj)}{σ:St}{H:Hp}{s:Shared}
end
section
end
structure Nx(prog:Program)(w:World)(it l:Addr)(xs:Array Value)(R:Nat->Heap->Prop):Prop where
 obj:∀k h,R k h->∃o,h.get? it=some o/\∀v,o.data≠ .cell v
 keep:∀k (h h':Heap),R k h->(∀o,h.get? it=some o->h'.get? it=some o)->(∀o,h.get? l=some o->h'.get? l=some o)->R k h'
 item:∀(A:Around) (E:Value->Shared->Prop) (s:Shared) (k:Nat) (x:Value) (Q:Value->Shared->Prop),R k s.heap->xs[k]?=some x->(∀h',R (k + 1) h'->tG it s.heap h'->Q x { s with heap:=h' })->wpAny (model prog w) A (p6 (.ref it)) Q E s
 fin:∀(A:Around) (E:Value->Shared->Prop) (s:Shared) (k:Nat) (Q:Value->Shared->Prop),A.handled=none->R k s.heap->xs[k]?=none->(∀h' e,Heap.ExtBut it s.heap h'->(∃o,h'.get? e=some o/\o.cls= .type "StopIteration")->E (.ref e) { s with heap:=h' })->wpAny (model prog w) A (p6 (.ref it)) Q E s
section
variable {prog:Program}{w:World}{A:Around}{E:Value->Shared->Prop}{s:Shared}
theorem Rq(o7:l≠it)(xs:Array Value):Nx prog w it l xs (λk h=>h.IsListIter it l k/\h.IsList l xs) where
 obj:=λk h ⟨⟨o,ho,_,hd⟩,_⟩=>⟨o,ho,λv e=>by rw[hd]at e;cases e⟩
 keep:=λk h h' ⟨a,b⟩ k1 k2=>⟨a.at λo e=>k1 o e,b.at λo e=>k2 o e⟩
 item:=λA E s k x Q ⟨a,b⟩ hx hQ=>wpAny_nextOf_list_item a b hx λh' a' sb=>hQ h' ⟨a',b.extBut sb.extBut o7⟩ sb
 fin:=λA E s k Q hh ⟨a,b⟩ hx hE=>wpAny_nextOf_list_end hh a b hx hE
theorem Rr{Q:Value->Shared->Prop}(hit:s.heap.IsTupleIter it t i)(ht:s.heap.IsTuple t items)(hx:items[i]?=some x)
  (hQ:∀h',h'.IsTupleIter it t (i + 1)->tG it s.heap h'->Q x { s with heap:=h' }):wpAny (model prog w) A (p6 (.ref it)) Q E s:=by
 obtain⟨⟨o,ho,hc,hd⟩,ol,CI,_,nl,wg⟩:=And.intro hit ht;unfold p6;refine aH (xS (name:=aE "__next__") hit.typeIs F9 (xT F9 hit.typeIs Y8 ?_ (Y9 _)));show wpAny _ _ (field (.ref it) 0 >>= _) _ _ s;refine aH (kT ho hd (x:= .ref t) rfl ?_);show wpAny _ _ (if(fZ t == q0)=true then _ else _) _ _ s;rw[if_neg (show ¬ ((fZ t == q0)=true) from bh)];show wpAny _ _ (field (.ref it) 1 >>= _) _ _ s;refine aH (kT ho hd (x:= .int i 0) rfl ?_);show wpAny _ _ (seqItems? (.ref t) >>= _) _ _ s;refine aH (tu CI wg ?_);simp only[Nv,hx];refine aH (wpAny_setField ho hd (by simp) (b5 ⟨x,rfl,b5 (hQ _ ⟨_,Nz _ ho (Obj.isFreed_of_fields (Za hd _)),(Obj.cls_mapFields ..).trans hc, ?_⟩ (Bx ..))⟩));rw[Za hd];simp[rawInt]
theorem Rt{Q:Value->Shared->Prop}(hh:A.handled=none)(hit:s.heap.IsTupleIter it t i)(ht:s.heap.IsTuple t items)(hx:items[i]?=none)
  (hE:∀h' e,Heap.ExtBut it s.heap h'->(∃o,h'.get? e=some o/\o.cls= .type "StopIteration")->E (.ref e) { s with heap:=h' }):wpAny (model prog w) A (p6 (.ref it)) Q E s:=by
 obtain⟨⟨o,ho,hc,hd⟩,ol,CI,_,nl,wg⟩:=And.intro hit ht;unfold p6;refine aH (xS (name:=aE "__next__") hit.typeIs F9 (xT F9 hit.typeIs Y8 ?_ (Y9 _)));show wpAny _ _ (field (.ref it) 0 >>= _) _ _ s;refine aH (kT ho hd (x:= .ref t) rfl ?_);show wpAny _ _ (if(fZ t == q0)=true then _ else _) _ _ s;rw[if_neg (show ¬ ((fZ t == q0)=true) from bh)];show wpAny _ _ (field (.ref it) 1 >>= _) _ _ s;refine aH (kT ho hd (x:= .int i 0) rfl ?_);show wpAny _ _ (seqItems? (.ref t) >>= _) _ _ s;refine aH (tu CI wg ?_);simp only[Nv,hx];refine aH (xV (aH (wpAny_setField ho hd (by simp) ?_)));show wpAny _ _ (newExc (.type "StopIteration") [] >>= _) _ _ _;refine aH ?_;simp only[newExc,newTuple];refine aH (vh ?_ (by size_fits));refine aH (m:=firstArgMember _ _) (wpAny_of_eq (a:=q0) (by first | rfl | (simp only[firstArgMember];rfl)) ?_);refine vh ?_ (by size_fits);simp only[raiseNew];refine aH (wpAny_handled ?_);(first | rw[show A.in1.handled=none from hh] | rw[hh]);exact aH (b5 (wpAny_throw (hE _ _ (((Bx ..).extBut.push _).push _) ⟨_,iH _ rfl,rfl⟩)))
theorem Ru(o7:l≠it)(xs:Array Value):Nx prog w it l xs (λk h=>h.IsTupleIter it l k/\h.IsTuple l xs) where
 obj:=λk h ⟨⟨o,ho,_,hd⟩,_⟩=>⟨o,ho,λv e=>by rw[hd]at e;cases e⟩
 keep:=λk h h' ⟨⟨o,ho,r⟩,⟨o2,tV,r2⟩⟩ k1 k2=>⟨⟨o,k1 o ho,r⟩,⟨o2,k2 o2 tV,r2⟩⟩
 item:=λA E s k x Q ⟨a,b⟩ hx hQ=>Rr a b hx λh' a' sb=>hQ h' ⟨a',b.extBut sb.extBut o7⟩ sb
 fin:=λA E s k Q hh ⟨a,b⟩ hx hE=>Rt hh a b hx hE
structure Apart(z TI TO i1 i2 l1 l2:Addr):Prop where
 nd: [z,TI,TO,i1,i2].Nodup
 o1:l1∉ [z,TO,i1,i2]
 o2:l2∉ [z,TO,i1,i2]
variable {z TI TO i1 i2 l1 l2:Addr}{xs ys:Array Value}{R1 R2:Nat->Heap->Prop}
theorem Rv{k:Nat}{x y a b:Value}{Q:Value->Shared->Prop}(D:Apart z TI TO i1 i2 l1 l2)(N1:Nx prog w i1 l1 xs R1)(N2:Nx prog w i2 l2 ys R2)
  (hz:IsZip s.heap z TI TO .none) (i6:IsPair s.heap TI (.ref i1) (.ref i2)) (ju:IsPair s.heap TO a b) (r1:R1 k s.heap) (r2:R2 k s.heap) (hx:xs[k]?=some x) (hy:ys[k]?=some y)
  (hQ:∀h',IsZip h' z TI TO (rawInt s.heap.objs.size)->IsPair h' TO x y->R1 (k + 1) h'->R2 (k + 1) h'->IsPair h' s.heap.objs.size x y->h'.objs.size=s.heap.objs.size + 1->
   (∀c o,c∉ [z,TO,i1,i2]->s.heap.get? c=some o->h'.get? c=some o)->Q (.ref s.heap.objs.size) { s with heap:=h' }):
  wpAny (model prog w) A (Builtin.«zip.__next__» ⟨[.ref z], []⟩) (λfin s'=>∃v,fin= .done (.ret v)/\Q v s') E s:=by
 have nd:=D.nd;simp only[mB,bx,dw,or_false,not_or]at nd;obtain⟨⟨yZ,qo,o9,qp⟩,⟨TITO,TIi1,TIi2⟩,⟨TOi1,TOi2⟩,i12,_⟩:=nd;have o1:=D.o1;have o2:=D.o2;simp only[bx,dw,or_false,not_or]at o1 o2;obtain⟨l1z,l1TO,l1i1,l1i2⟩:=o1;obtain⟨l2z,l2TO,l2i1,l2i2⟩:=o2;show wpAny _ _ (field (.ref z) 2 >>= _) _ _ _;refine aH (kT hz rfl (x:= .bool false) rfl ?_);show wpAny _ _ (field (.ref z) 3 >>= _) _ _ _;refine aH (kT hz rfl (x:= .ref TI) rfl (aH (tu i6 rfl ?_)));show wpAny _ _ (Ga (.ref z) >>= _) _ _ _;refine aH ?_;unfold Ga;refine aH (kT hz rfl (x:= .none) rfl (b5 ?_));simp only[if_true];refine aH (xV (aH (kT hz rfl (x:= .ref TO) rfl (aH (xW hz (by simp) λh1 mN wj=> ?_)))))
 replace mN:IsZip h1 z TI TO .ellipsis:=mN
 refine aH ?_;simp only[NL,Zb,Bw,F5];refine aH (aH (FT ?_));show wpAny _ _ (p6 (.ref i1) >>= _) _ _ _;have e1:∀c o,c≠z->s.heap.get? c=some o->h1.get? c=some o:=λc o n e=>wj.extBut c o n e;refine aH (N1.item _ _ _ k x _ (N1.keep k _ _ r1 (λo e=>e1 i1 o (dS o9) e) λo e=>e1 l1 o l1z e) hx λh2 II kD=>b5 ?_);have e2:∀c o,c≠z->c≠i1->s.heap.get? c=some o->h2.get? c=some o:=λc o n n2 e=>kD.extBut c o n2 (e1 c o n e);have wm:IsPair h2 TO a b:=e2 _ _ (dS qo) TOi1 ju;refine aH (tu wm rfl (aH (Na wm λh3 za pe=>aH (Nb (b5 ?_)))))
 replace za:IsPair h3 TO x b:=za
 have e3:∀c o,c≠z->c≠i1->c≠TO->s.heap.get? c=some o->h3.get? c=some o:=λc o n n2 n3 e=>pe.extBut c o n3 (e2 c o n n2 e);refine aH (aH (FT ?_));show wpAny _ _ (p6 (.ref i2) >>= _) _ _ _;refine aH (N2.item _ _ _ k y _ (N2.keep k _ _ r2 (λo e=>e3 i2 o (dS qp) (dS i12) (dS TOi2) e) λo e=>e3 l2 o l2z l2i1 l2TO e) hy λh4 Rx uf=>b5 ?_);have IJ:IsPair h4 TO x b:=uf.extBut _ _ TOi2 za;refine aH (tu IJ rfl (aH (Na IJ λh5 zb rW=>aH (Nb (b5 (b5 ?_))))))
 replace zb:IsPair h5 TO x y:=zb
 refine aH (tu zb rfl (aH (wpAny_newTuple ?_)));have hsz:h5.objs.size=s.heap.objs.size:=by rw[rW.1,uf.1,pe.1,kD.1,wj.1]
 have Ry:∀c o,c≠TO->c≠i2->h3.get? c=some o->h5.get? c=some o:=λc o n n2 e=>rW.extBut c o n (uf.extBut c o n2 e);have zc:∀c o,c≠TO->c≠i2->h2.get? c=some o->h5.get? c=some o:=λc o n n2 e=>Ry c o n n2 (pe.extBut c o n e);have IK:IsZip h5 z TI TO .ellipsis:=zc _ _ qo qp (kD.extBut _ _ o9 mN);have k5:∀c o,c∉ [z,TO,i1,i2]->s.heap.get? c=some o->h5.get? c=some o:=λc o hc e=>by
  simp only[bx,dw,or_false,not_or]at hc;exact zc c o hc.2.1 hc.2.2.2 (e2 c o hc.1 hc.2.2.1 e)
 have Rz:R1 (k + 1) h5:=N1.keep _ _ _ II (λo e=>zc i1 o (dS TOi1) i12 e) λo e=>zc l1 o l1TO l1i2 e;have RA:R2 (k + 1) h5:=N2.keep _ _ _ Rx (λo e=>rW.extBut i2 o (dS TOi2) e) λo e=>rW.extBut l2 o l2TO e;have IL:z < h5.objs.size:=dR IK;show wpAny _ _ (Zc (.ref z) (.ref h5.objs.size) >>= _) _ _ _;refine aH ?_;unfold Zc;have RB:IsZip (h5.push { cls:= .type "tuple",data:= .seq #[x,y] }) z TI TO .ellipsis:=dN _ IK;refine aH (xW RB (by simp) λh7 CJ CK=> ?_)
 replace CJ:IsZip h7 z TI TO (rawInt h5.objs.size):=CJ
 refine xW CJ (by simp) λh8 zd CL=> ?_
 replace zd:IsZip h8 z TI TO (rawInt h5.objs.size):=zd
 have up:∀c o,c≠z->h5.get? c=some o->h8.get? c=some o:=λc o n e=>CL.extBut c o n (CK.extBut c o n (dN _ e));have IM:IsPair h8 h5.objs.size x y:=CL.extBut _ _ (rb IL) (CK.extBut _ _ (rb IL) (iH _ rfl));have hs:h8.objs.size=h5.objs.size + 1:=by rw[CL.1,CK.1,nk]
 rw[hsz]at zd IM hs;refine b5 ⟨_,rfl, ?_⟩;show Q (.ref h5.objs.size) _;rw[hsz];exact hQ h8 zd (up _ _ (dS qo) zb) (N1.keep _ _ _ Rz (λo e=>up i1 o (dS o9) e) λo e=>up l1 o l1z e) (N2.keep _ _ _ RA (λo e=>up i2 o (dS qp) e) λo e=>up l2 o l2z e) IM hs λc o hc e=>up c o (λq=>hc (by simp[q])) (k5 c o hc e)
theorem RC{k:Nat}{a b:Value}{Q:PySem.Fin->Shared->Prop}(hh:A.handled=none)(D:Apart z TI TO i1 i2 l1 l2)(N1:Nx prog w i1 l1 xs R1)(N2:Nx prog w i2 l2 ys R2)
  (hz:IsZip s.heap z TI TO .none) (i6:IsPair s.heap TI (.ref i1) (.ref i2)) (ju:IsPair s.heap TO a b) (r1:R1 k s.heap) (r2:R2 k s.heap) (CM:xs[k]?=none\/ys[k]?=none)
  (hE:∀h' e,(∀c o,c∉ [z,TO,i1,i2]->s.heap.get? c=some o->h'.get? c=some o)->(∃o,h'.get? e=some o/\o.cls= .type "StopIteration")->E (.ref e) { s with heap:=h' }):
  wpAny (model prog w) A (Builtin.«zip.__next__» ⟨[.ref z], []⟩) Q E s:=by
 have nd:=D.nd;simp only[mB,bx,dw,or_false,not_or]at nd;obtain⟨⟨yZ,qo,o9,qp⟩,⟨TITO,TIi1,TIi2⟩,⟨TOi1,TOi2⟩,i12,_⟩:=nd;have o1:=D.o1;have o2:=D.o2;simp only[bx,dw,or_false,not_or]at o1 o2;obtain⟨l1z,l1TO,l1i1,l1i2⟩:=o1;obtain⟨l2z,l2TO,l2i1,l2i2⟩:=o2;show wpAny _ _ (field (.ref z) 2 >>= _) _ _ _;refine aH (kT hz rfl (x:= .bool false) rfl ?_);show wpAny _ _ (field (.ref z) 3 >>= _) _ _ _;refine aH (kT hz rfl (x:= .ref TI) rfl (aH (tu i6 rfl ?_)));show wpAny _ _ (Ga (.ref z) >>= _) _ _ _;refine aH ?_;unfold Ga;refine aH (kT hz rfl (x:= .none) rfl (b5 ?_));simp only[if_true];refine aH (xV (aH (kT hz rfl (x:= .ref TO) rfl (aH (xW hz (by simp) λh1 mN wj=> ?_)))))
 replace mN:IsZip h1 z TI TO .ellipsis:=mN
 refine aH ?_;simp only[NL,Zb,Bw,F5];refine aH (aH (FT ?_));show wpAny _ _ (p6 (.ref i1) >>= _) _ _ _;have e1:∀c o,c≠z->s.heap.get? c=some o->h1.get? c=some o:=λc o n e=>wj.extBut c o n e;have q1:=N1.keep k _ _ r1 (λo e=>e1 i1 o (dS o9) e) λo e=>e1 l1 o l1z e;cases hx:xs[k]? with
 |none=>
  refine aH (N1.fin _ _ _ k _ hh q1 hx λh2 e kD he=> ?_);obtain⟨oe,rX,wo⟩:=he;have qr:IsZip h2 z TI TO .ellipsis:=kD _ _ o9 mN;have CN:e≠z:=λq=>by subst q;rw[qr]at rX;cases rX;simp at wo
  refine xW qr (by simp) λh3 _ pe=>hE h3 e (λc o hc q=> ?_) ⟨oe,pe.extBut _ _ CN rX,wo⟩;simp only[bx,dw,or_false,not_or]at hc;exact pe.extBut _ _ hc.1 (kD _ _ hc.2.2.1 (e1 c o hc.1 q))
 |some x=>
  have hy:ys[k]?=none:=by rcases CM with h | h;rw[hx]at h;cases h;exact h
  refine aH (N1.item _ _ _ k x _ q1 hx λh2 II kD=>b5 ?_);have e2:∀c o,c≠z->c≠i1->s.heap.get? c=some o->h2.get? c=some o:=λc o n n2 e=>kD.extBut c o n2 (e1 c o n e);have wm:IsPair h2 TO a b:=e2 _ _ (dS qo) TOi1 ju;refine aH (tu wm rfl (aH (Na wm λh3 za pe=>aH (Nb (b5 ?_)))));have e3:∀c o,c≠z->c≠i1->c≠TO->s.heap.get? c=some o->h3.get? c=some o:=λc o n n2 n3 e=>pe.extBut c o n3 (e2 c o n n2 e);refine aH (aH (FT ?_));show wpAny _ _ (p6 (.ref i2) >>= _) _ _ _;refine aH (N2.fin _ _ _ k _ hh (N2.keep k _ _ r2 (λo e=>e3 i2 o (dS qp) (dS i12) (dS TOi2) e) λo e=>e3 l2 o l2z l2i1 l2TO e) hy λh4 e uf he=> ?_);obtain⟨oe,rX,wo⟩:=he;have IP:IsZip h4 z TI TO .ellipsis:=uf _ _ qp (pe.extBut _ _ qo (kD.extBut _ _ o9 mN));have CN:e≠z:=λq=>by subst q;rw[IP]at rX;cases rX;simp at wo
  refine xW IP (by simp) λh5 _ rW=>hE h5 e (λc o hc q=> ?_) ⟨oe,rW.extBut _ _ CN rX,wo⟩;simp only[bx,dw,or_false,not_or]at hc;exact rW.extBut _ _ hc.1 (uf _ _ hc.2.2.2 (e3 c o hc.1 hc.2.2.1 hc.2.1 q))
theorem RD{k:Nat}{x y a b:Value}{Q:Option Value->Shared->Prop}(D:Apart z TI TO i1 i2 l1 l2)(N1:Nx prog w i1 l1 xs R1)(N2:Nx prog w i2 l2 ys R2)
  (hz:IsZip s.heap z TI TO .none) (i6:IsPair s.heap TI (.ref i1) (.ref i2)) (ju:IsPair s.heap TO a b) (r1:R1 k s.heap) (r2:R2 k s.heap) (hx:xs[k]?=some x) (hy:ys[k]?=some y)
  (hQ:∀h',IsZip h' z TI TO (rawInt s.heap.objs.size)->IsPair h' TO x y->R1 (k + 1) h'->R2 (k + 1) h'->IsPair h' s.heap.objs.size x y->h'.objs.size=s.heap.objs.size + 1->
   (∀c o,c∉ [z,TO,i1,i2]->s.heap.get? c=some o->h'.get? c=some o)->Q (some (.ref s.heap.objs.size)) { s with heap:=h' }):wpAny (model prog w) A (pyNext (.ref z)) Q E s:=by
 have hT:s.TypeIs (.ref z) "zip":=⟨_,hz,rfl⟩
 unfold pyNext;refine aH (wpAny_attempt (xS (name:=aE "__next__") hT Gb (xT Gb hT F.entry_zip_next ?_ (Zd _))));exact Rv D N1 N2 hz i6 ju r1 r2 hx hy λh' a1 a2 a3 a4 a5 a6 a7=>b5 (hQ h' a1 a2 a3 a4 a5 a6 a7)
theorem RE{k:Nat}{a b:Value}{Q:Option Value->Shared->Prop}(hh:A.handled=none)(D:Apart z TI TO i1 i2 l1 l2)(N1:Nx prog w i1 l1 xs R1)(N2:Nx prog w i2 l2 ys R2)
  (hz:IsZip s.heap z TI TO .none) (i6:IsPair s.heap TI (.ref i1) (.ref i2)) (ju:IsPair s.heap TO a b) (r1:R1 k s.heap) (r2:R2 k s.heap) (CM:xs[k]?=none\/ys[k]?=none)
  (hQ:∀h',(∀c o,c∉ [z,TO,i1,i2]->s.heap.get? c=some o->h'.get? c=some o)->Q none { s with heap:=h' }):wpAny (model prog w) A (pyNext (.ref z)) Q E s:=by
 have hT:s.TypeIs (.ref z) "zip":=⟨_,hz,rfl⟩
 unfold pyNext;refine aH (wpAny_attempt (xS (name:=aE "__next__") hT Gb (xT Gb hT F.entry_zip_next ?_ (Zd _))));refine RC (A:=A.in1) hh D N1 N2 hz i6 ju r1 r2 CM λh' e hk he=> ?_;obtain⟨o,ho,hc⟩:=he;exact aH (wpAny_isInstance (T:="StopIteration") (b:=true) ⟨o,ho,hc⟩ isSubtype_stop (b5 (hQ _ hk)))
end
def i7(t:Bool)(K:ak)(H:Hp)(a:Addr)(xs:List V):Prop:=match t with
 |true=>cD K H a xs
 |false=>bW K H a xs
def nP(t:Bool)(h:Heap)(it l:Addr)(k:Nat):Prop:=match t with
 |true=>h.IsTupleIter it l k
 |false=>h.IsListIter it l k
def wt(t:Bool)(h:Heap)(l:Addr)(xs:Array Value):Prop:=match t with
 |true=>h.IsTuple l xs
 |false=>h.IsList l xs
section
theorem Inv.ug(I:Inv X aa σ H s)(h:i7 t X.K H a xs):∃ax:List Value,bA xs ax/\wt t s.heap a ax.toArray:=by
 cases t with
 |true=>
  obtain⟨ax,r,pl,_⟩:=I.tuple h;exact⟨ax,r,pl⟩
 |false=>
  obtain⟨ax,r,pl,_⟩:=I.list h;exact⟨ax,r,pl.isList⟩
theorem Inv.IQ(I:Inv X aa σ H s)(h:i7 t X.K H a xs)(h2:i7 t X.K H a ys):xs=ys:=by
 cases t with
 |true=>exact I.GV h h2
 |false=>exact I.BU h h2
theorem ze(t:Bool)(o7:l≠it)(xs:Array Value):Nx prog w it l xs (λk h=>nP t h it l k/\wt t h l xs):=by
 cases t with
 |true=>exact Ru o7 xs
 |false=>exact Rq o7 xs
theorem nP.at{h h':Heap}(x:nP t h it l k)(e:∀o,h.get? it=some o->h'.get? it=some o):nP t h' it l k:=by
 cases t with
 |true=>obtain⟨o,ho,r⟩:=x;exact⟨o,e o ho,r⟩
 |false=>exact Heap.IsListIter.at x e
theorem nP.obj(x:nP t h it l k):∃o,h.get? it=some o/\∀v,o.data≠ .cell v:=by
 cases t with
 |true=>obtain⟨o,ho,_,hd⟩:=x;exact⟨o,ho,λv e=>by rw[hd]at e;cases e⟩
 |false=>obtain⟨o,ho,_,hd⟩:=x;exact⟨o,ho,λv e=>by rw[hd]at e;cases e⟩
theorem Inv.RF{t':Nat}{ch:List Addr}{T:Addr}{o:HO}(I:Inv X aa σ H s)(k:∀b u,b∉ch->s.heap.get? b=some u->h'.get? b=some u)
  (fc:∀b∈ch,iL X aa H b) (hT:s.heap.objs.size<=T) (new:fP X.prog X.w (upd H T o) h' T o):Inv X aa σ (upd H T o) { s with heap:=h',toks:=t' }:=by
 have hn:H T=none:=I.aU.fresh hT;have lt:∀{b:Addr} {u:Obj},s.heap.get? b=some u->b≠T:=λ{b u} q=>fN (df (dR q) hT);have tr:∀{b:Addr} {u:HO},H b=some u->b∉ch:=λ{b u} q z=>by rw[(fc b z).1]at q;cases q
 refine I.step (g':=s.gens) (d':=s.drawn) (ch:=ch) (λb hb=>⟨(fc b hb).2.2.2.1,(fc b hb).2.1,(fc b hb).2.2.2.2.1,(fc b hb).2.2.2.2.2⟩) (λb u _ _ hc q _=>k b u hc q) (λb u _ _ hc q _=>⟨u.slots,k b u hc q⟩)
  (λb u _ q n=>by rw[bE (lt q)];exact n) (λb u hc q=>⟨u,k b u hc q⟩) (λb xs q=>by rw[bE (gQ q hn)];exact q) (λb u v q=>by rw[bE (gQ q hn)];exact q)
  (λb ps q=>⟨#[],by rw[bE (gQ q hn),q];simp⟩) (λm hm=> ?_) (λb u q=> ?_) I.bare
 ·obtain⟨ob,es,ep,ho,r⟩:=hm;exact⟨ob,es,ep,k _ ob (λz=>(fc _ z).2.1 rfl) ho,r⟩
 ·by_cases hb:b=T
  ·subst hb;rw[gb]at q;cases q;exact new
  ·rw[bE hb]at q;refine(I.aU b u q).e9 (λc v hc z=> ?_) (λc z=>by rw[bE (gQ z hn)];exact z) λc xs z=>by rw[bE (gQ z hn)];exact z
   rcases hc with z' | z'
   ·rw[z']at z |-;exact k b v (tr q) z
   ·exact k c v (tr z') z
theorem Inv.RG{t':Nat}{ch:List Addr}(I:Inv X aa σ H s)(k:∀b u,b∉ch->s.heap.get? b=some u->h'.get? b=some u)(fc:∀b∈ch,iL X aa H b):Inv X aa σ H { s with heap:=h',toks:=t' }:=by
 have tr:∀{b:Addr} {u:HO},H b=some u->b∉ch:=λ{b u} q z=>by rw[(fc b z).1]at q;cases q
 refine I.step (g':=s.gens) (d':=s.drawn) (ch:=ch) (λb hb=>⟨(fc b hb).2.2.2.1,(fc b hb).2.1,(fc b hb).2.2.2.2.1,(fc b hb).2.2.2.2.2⟩) (λb u _ _ hc q _=>k b u hc q) (λb u _ _ hc q _=>⟨u.slots,k b u hc q⟩)
  (λb u _ q n=>n) (λb u hc q=>⟨u,k b u hc q⟩) (λb xs q=>q) (λb u v q=>q) (λb ps q=>⟨#[],by rw[q];simp⟩) (λm hm=> ?_) (λb u q=> ?_) I.bare
 ·obtain⟨ob,es,ep,ho,r⟩:=hm;exact⟨ob,es,ep,k _ ob (λz=>(fc _ z).2.1 rfl) ho,r⟩
 ·refine(I.aU b u q).e9 (λc v hc z=> ?_) (λc z=>z) λc xs z=>z;rcases hc with z' | z'
  ·rw[z']at z |-;exact k b v (tr q) z
  ·exact k c v (tr z') z
noncomputable abbrev zf (h:Heap) (a:Addr):Heap:=h.push { cls:= .type "tuple_iterator",data:= .fields #[.ref a, .int 0 0] }
theorem Inv.ltB{aa:List (Addr×Obj)}{σ:St}{H:Hp}{s:Shared}(x:wt t h l xs):l < h.objs.size:=by
 cases t with
 |true=>obtain⟨o,ho,_⟩:=x;exact dR ho
 |false=>obtain⟨o,ho,_⟩:=x;exact dR ho
end
theorem g9(h:H p=none)(o:HO):aQ H (upd H p o):=λb u q=>by rw[bE (gQ q h)];exact q
structure gK(P:Program)(w:World)(K:ak)(mg:Str->Option Value)(base:Heap)(x:Str)(ps:List Str)(k:Nat)(sp:Sp):Prop where
 ex:∃(f:Addr) (fd:jl),dO P w K mg base eR k f fd ps sp/\Binds K fd ps []/\vo K (.ref f)=true/\mg x=some (.ref f)
theorem gK.of{P:Program}{w:World}{K:ak}{mg:Str->Option Value}{base:Heap}{x:Str}{ps:List Str}{k:Nat}{sp:Sp}{f:Addr}{fd:jl}{q:Str}{st:Stmt}(F:gr K x q st f fd)(b:Binds K fd ps [])(m:mg x=some (.ref f))
  (o:dO P w K mg base eR k f fd ps sp):gK P w K mg base x ps k sp:=⟨f,fd,o,b,F.kp,m⟩
theorem cm{p pos:Pos}{e:Expr}{es:List Expr}{t:TA}(C:gK X.prog X.w X.K X.mg X.base x ps k sp)(hr:gn j X.A)(hg:Gl X x)
  (ha:PA X (e::es) t) (hj:k<=j:=by decide) (mK:(x == ("__debug__":Str))=false:=by decide) (he:dB (e::es) X.env=(false,eval e X.env)::dB es X.env:=by rfl) (cH:(backTo pos (dB es X.env)).any (·.1)=false:=by rfl):
  PE X (.Call (.Name x p) (e::es) [] pos) (qg sp [] E0 t):=by
 obtain⟨f,fd,o,b,kp,m⟩:=C.ex;exact Po o (hr.mono hj) hg m kp b .nil HM ha mK he cH
end L2
namespace VL
open PySem L2
inductive Kd where
 |tup | aA | lst | cy (ks:List bB) | dk (ks:List (List bB)) | obj (C:Addr) (ns:List Str)
 deriving DecidableEq
inductive D where
 |sc (v:V)
 |nd (k:Kd) (cs:List D)
  |hl (v:V)
noncomputable def cV:Kd->Bool
 |.tup=>true
 |.aA=>true
 |_=>false
mutual
noncomputable def plain:D->Bool
 |.sc _=>true
 |.nd .tup cs=>bq cs
 |.nd .aA cs=>bq cs
 |.nd _ _=>false
 |.hl _=>false
noncomputable def bq:List D->Bool
 | []=>true
 |d::ds=>plain d && bq ds
end
theorem CO:∀{ds:List D} {d:D},bq ds=true->d∈ds->plain d=true
 |_::ds,d,h,m=>by
  rw[bq,rj]at h;cases m with
  |head=>exact h.1
  |tail _ m=>exact CO h.2 m
theorem nQ:∀{ds:List D},(∀d∈ds,plain d=true)->bq ds=true
 | [],_=>rfl
 |d::ds,h=>by
  rw[bq,h d (.head _),nQ λe he=>h e (.tail _ he)];rfl
theorem rY{ds:List D}{i:Nat}{d:D}(h:bq ds=true)(e:ds[i]?=some d):plain d=true:=CO h (jR e)
noncomputable def ho (k:Kd) (dx:Addr) (vs:List V):HO:=match k with
 |.tup=> .tup vs
 |.aA=> .lst vs
 |.lst=> .lst vs
 |.cy ks=> .dK (ks.zip vs)
 |.dk ks=> .dT (ks.zip vs)
 |.obj C ns=> .ins C dx (ns.zip vs)
def fits(K:ak)(k:Kd)(n:Nat):Prop:=match k with
 |.cy ks=>ks.length=n
 |.dk ks=>ks.length=n
 |.obj C ns=>ns.length=n/\lN K C/\∀f∈ns,jo K C f
 |_=>True
def ib(K:ak)(H:Hp)(a:Addr)(vs:List V):Prop:=(∃o,H a=some (.gC o (.lst vs)))\/∃(o:Obj) (ax:Array Value) (n:Nat),K.lookup a=some o/\o.cls= .type "list"/\o.dict=none/\o.data= .seq ax n/\ax.size<=aN/\bA vs ax.toList
theorem ib.sq(h:ib K H a vs):bW K H a vs:=h.elim (λ⟨o,e⟩=> .inl (.inr ⟨o,e⟩)) .inr
def hV(K:ak)(H:Hp)(a:Addr)(k:Kd)(vs:List V):Prop:=fits K k vs.length/\match k with
 |.tup=>H a=some (.tup vs)
 |.aA=>ib K H a vs
 |.lst=>H a=some (.lst vs)
 |.cy ks=>Rd H a (.dK (ks.zip vs))
 |.dk ks=>Rd H a (.dT (ks.zip vs))
 |.obj C ns=>∃dx,H a=some (.ins C dx (ns.zip vs))
def pf(K:ak)(H:Hp)(a:Addr)(k:Kd)(vs:List V):Prop:=cV k=false/\fits K k vs.length/\∃dx,H a=some (ho k dx vs)
theorem pf.cell(h:pf K H a k vs):hV K H a k vs:=by
 obtain⟨hk,hf,dx,e⟩:=h;refine⟨hf, ?_⟩;cases k with
 |tup=>cases hk
 |aA=>cases hk
 |lst=>exact e
 |cy ks=>exact .inl e
 |dk ks=>exact .inl e
 |obj C ns=>exact⟨dx,e⟩
theorem pf.mu(h:pf K H a k vs):gY (H a):=by
 obtain⟨hk,hf,dx,e⟩:=h;rw[e];cases k with
 |tup=>cases hk
 |aA=>cases hk
 |lst=>trivial
 |cy ks=>trivial
 |dk ks=>trivial
 |obj C ns=>trivial
def fJ(H H':Hp):Prop:=∀b o,¬ gY (some o)->H b=some o->H' b=some o
theorem fJ.refl(H:Hp):fJ H H:=λ_ _ _ h=>h
theorem fJ.of(s:aQ H H'):fJ H H':=λb o _ h=>s b o h
theorem ib.e9(h:ib K H a vs)(s:fJ H H'):ib K H' a vs:=h.elim (λ⟨o,e⟩=> .inl ⟨o,s _ _ (λz=>z) e⟩) .inr
inductive Vw(K:ak)(H:Hp)(N:Addr->Prop):V->D->Prop
 |sc (v:V):Vw K H N v (.sc v)
 |hl (v:V):Vw K H N v (.hl v)
 |nd {a:Addr} {k:Kd} {vs:List V} {cs:List D}:(cV k=false->N a)->hV K H a k vs->vs.length=cs.length->(∀(i:Nat) (v:V) (d:D),vs[i]?=some v->cs[i]?=some d->Vw K H N v d)->Vw K H N (.ref a) (.nd k cs)
def i8(K:ak)(H:Hp)(F:Addr->Prop)(a:Addr)(k:Kd)(vs:List V)(cs:List D):Prop:=match k with
 |.tup=>H a=some (.tup vs)
 |.aA=>bq cs=true/\ib K H a vs
 |k=>F a/\pf K H a k vs
inductive bb(K:ak)(H:Hp):(Addr->Prop)->V->D->Prop
 |sc (F:Addr->Prop) (v:V):bb K H F v (.sc v)
 |hl (F:Addr->Prop) (v:V):bb K H F v (.hl v)
 |nd {F:Addr->Prop} {a:Addr} {k:Kd} {vs:List V} {cs:List D} (Fs:Nat->Addr->Prop):i8 K H F a k vs cs->vs.length=cs.length->(∀i j b,Fs i b->Fs j b->i=j)->(∀i b,Fs i b->F b/\(cV k=false->b≠a))->
   (∀(i:Nat) (v:V) (d:D),vs[i]?=some v->cs[i]?=some d->bb K H (Fs i) v d)->bb K H F (.ref a) (.nd k cs)
section
variable {K:ak}{H H':Hp}{F F' N N':Addr->Prop}
theorem i8.mono(h:i8 K H F a k vs cs)(m:∀b,F b->F' b):i8 K H F' a k vs cs:=by
 cases k with
 |tup=>exact h
 |aA=>exact h
 |_=>exact⟨m _ h.1,h.2⟩
theorem i8.frame(h:i8 K H F a k vs cs)(f:∀b o,F b->H b=some o->H' b=some o)(s:fJ H H'):i8 K H' F a k vs cs:=by
 cases k with
 |tup=>exact s _ _ (λz=>z) h
 |aA=>exact⟨h.1,h.2.e9 s⟩
 |_=>obtain⟨h1,h2,h3,dx,e⟩:=h;exact⟨h1,h2,h3,dx,f _ _ h1 e⟩
theorem i8.cell(h:i8 K H F a k vs cs):hV K H a k vs:=by
 cases k with
 |tup=>exact⟨trivial,h⟩
 |aA=>exact⟨trivial,h.2⟩
 |_=>exact h.2.cell
theorem i8.own(h:i8 K H F a k vs cs)(hk:cV k=false):F a/\pf K H a k vs:=by
 cases k with
 |tup=>cases hk
 |aA=>cases hk
 |_=>exact h
theorem i8.put(hk:cV k=false)(h1:F a)(h2:pf K H a k vs):i8 K H F a k vs cs:=by
 cases k with
 |tup=>cases hk
 |aA=>cases hk
 |_=>exact⟨h1,h2⟩
theorem bb.mono(h:bb K H F v d)(m:∀b,F b->F' b):bb K H F' v d:=by
 cases h with
 |sc=>exact .sc _ _
 |hl=>exact .hl _ _
 |nd Fs h1 h2 h3 h4 h5=>exact .nd Fs (h1.mono m) h2 h3 (λi b z=>⟨m _ (h4 i b z).1,(h4 i b z).2⟩) h5
theorem bb.frame(h:bb K H F v d)(f:∀b o,F b->H b=some o->H' b=some o)(s:fJ H H'):bb K H' F v d:=by
 induction h with
 |sc=>exact .sc _ _
 |hl=>exact .hl _ _
 |nd Fs h1 h2 h3 h4 _ ih=>exact .nd Fs (h1.frame f s) h2 h3 h4 λi v d hv hd=>ih i v d hv hd λb o z=>f b o (h4 i b z).1
theorem bb.same(h:bb K H F v d)(s:aQ H H'):bb K H' F v d:=h.frame (λb o _ e=>s b o e) (fJ.of s)
theorem bb.view(h:bb K H F v d)(m:∀b,F b->N b):Vw K H N v d:=by
 induction h with
 |sc=>exact .sc _
 |hl=>exact .hl _
 |nd Fs h1 h2 h3 h4 _ ih=>exact .nd (λhk=>m _ (h1.own hk).1) h1.cell h2 λi v d hv hd=>ih i v d hv hd λb z=>m b (h4 i b z).1
theorem bb.vw(h:bb K H F v d):Vw K H (λ_=>True) v d:=h.view λ_ _=>trivial
theorem Vw.mono(h:Vw K H N v d)(m:∀b,N b->N' b):Vw K H N' v d:=by
 induction h with
 |sc=>exact .sc _
 |hl=>exact .hl _
 |nd h1 h2 h3 _ ih=>exact .nd (λk=>m _ (h1 k)) h2 h3 ih
theorem Vw.any(h:Vw K H N v d):Vw K H (λ_=>True) v d:=h.mono λ_ _=>trivial
theorem hV.frame(h:hV K H a k vs)(f:cV k=false->∀o,H a=some o->H' a=some o)(s:fJ H H'):hV K H' a k vs:=by
 obtain⟨h1,h⟩:=h;refine⟨h1, ?_⟩;cases k with
 |tup=>exact s _ _ (λz=>z) h
 |aA=>exact ib.e9 h s
 |lst=>exact f rfl _ h
 |cy ks=>
  have f:=f rfl;rcases h with h | ⟨o,h⟩
  ·exact .inl (f _ h)
  ·exact .inr ⟨o,f _ h⟩
 |dk ks=>
  have f:=f rfl;rcases h with h | ⟨o,h⟩
  ·exact .inl (f _ h)
  ·exact .inr ⟨o,f _ h⟩
 |obj C ns=>
  obtain⟨dx,h⟩:=h;exact⟨dx,f rfl _ h⟩
theorem Vw.frame(h:Vw K H N v d)(f:∀b o,N b->H b=some o->H' b=some o)(s:fJ H H'):Vw K H' N v d:=by
 induction h with
 |sc=>exact .sc _
 |hl=>exact .hl _
 |nd h1 h2 h3 _ ih=>exact .nd h1 (h2.frame (λhk o e=>f _ o (h1 hk) e) s) h3 ih
theorem Vw.same(h:Vw K H N v d)(s:aQ H H'):Vw K H' N v d:=h.frame (λb o _ e=>s b o e) (fJ.of s)
theorem Vw.plain{v:V}{d:D}(h:Vw K H N v d)(p:plain d=true):bb K H (λ_=>False) v d:=by
 induction h with
 |sc=>exact .sc _ _
 |hl=>cases p
 | @nd a k vs cs h1 h2 h3 _ ih=>
  cases k with
  |tup=>
   have p:bq cs=true:=p;exact .nd (λ_ _=>False) h2.2 h3 (λ_ _ _ z=>z.elim) (λ_ _ z=>z.elim) λi v d hv hd=>ih i v d hv hd (rY p hd)
  |aA=>
   have p:bq cs=true:=p;exact .nd (λ_ _=>False) ⟨p,h2.2⟩ h3 (λ_ _ _ z=>z.elim) (λ_ _ z=>z.elim) λi v d hv hd=>ih i v d hv hd (rY p hd)
  |_=>simp[VL.plain]at p
end
def kids:HO->List V
 |.lst xs=>xs
 |.tup xs=>xs
 |.dK aw=>aw.map (·.2)
 |.dT aw=>aw.map (·.2)
 |.ins _ _ fs=>fs.map (·.2)
 |.gC _ u=>kids u
 |_=> []
theorem zg{α β:Type}:∀{l:List α} {m:List β},l.length=m.length->(l.zip m).map (·.2)=m
 | [], [],_=>rfl
 |_::l,_::m,h=>by rw[p7,eO,zg (eP h)]
theorem uh{K:ak}(h:fits K k vs.length):kids (ho k dx vs)=vs:=by
 cases k with
 |tup=>rfl
 |aA=>rfl
 |lst=>rfl
 |cy ks=>exact zg h
 |dk ks=>exact zg h
 |obj C ns=>exact zg h.1
inductive fV(H:Hp):V->List Nat->V->Prop
 |nil (v:V):fV H v [] v
 |cons {a:Addr} {o:HO} {n:Nat} {c u:V} {p:List Nat}:H a=some o->(kids o)[n]?=some c->fV H c p u->fV H (.ref a) (n::p) u
def aJ:D->List Nat->Option D
 |d, []=>some d
 |.sc _,_::_=>none
 |.hl _,_::_=>none
 |.nd k cs,n::p=>if cV k=true/\bq cs=true then none else match cs[n]? with
  |some c=>aJ c p
  |none=>none
noncomputable def bf:D->List Nat->D->D
 |_, [],e=>e
 |.sc v,_::_,_=> .sc v
 |.hl v,_::_,_=> .hl v
 |.nd k cs,n::p,e=> .nd k (match cs[n]? with
  |some c=>cs.set n (bf c p e)
  |none=>cs)
section
variable {K:ak}{H H':Hp}{F F' N N':Addr->Prop}
theorem i8.kids(h:i8 K H F a k vs cs)(hp:¬ (cV k=true/\bq cs=true))(e:H a=some o):kids o=vs:=by
 cases k with
 |tup=>have h:H a=some (.tup vs):=h;rw[e]at h;cases h;rfl
 |aA=>exact absurd ⟨rfl,h.1⟩ hp
 |_=>obtain⟨_,_,hf,dx,q⟩:=h;rw[e]at q;cases q;exact uh hf
theorem bb.focus:∀{p:List Nat} {F:Addr->Prop} {v u:V} {d d1:D},bb K H F v d->fV H v p u->aJ d p=some d1->
  ∃F1:Addr->Prop,(∀b,F1 b->F b)/\bb K H F1 u d1/\∀(H':Hp) (ph:Addr->Prop) (qt:D),(∀b o,¬ F1 b->F b->H b=some o->H' b=some o)->fJ H H'->bb K H' ph u qt->(∀b,ph b->F1 b\/¬ F b)->
   bb K H' (λb=>(F b/\¬ F1 b)\/ph b) v (bf d p qt)
 | [],F,v,u,d,d1,h,hp,g=>by
  cases hp;cases g;refine⟨F,λ_ z=>z,h,λH' ph qt _ _ h' _=> ?_⟩;show bb K H' _ v (bf d [] qt);rw[bf];exact h'.mono λb z=> .inr z
 |n::p,F,v,u,d,d1,h,hp,g=>by
  cases hp with
  | @cons a o n c u p e1 e2 hp=>
   cases h with
   |sc=>rw[aJ]at g;cases g
   |hl=>rw[aJ]at g;cases g
   | @nd _ _ k vs cs Fs h1 h2 h3 h4 h5=>
    rw[aJ]at g;by_cases cH:cV k=true/\bq cs=true
    ·rw[if_pos cH]at g;cases g
    rw[if_neg cH]at g;rw[h1.kids cH e1]at e2;have hn:n < cs.length:=by rw[<- h2];exact(cb.mp e2).1
    have hc:cs[n]?=some cs[n]:=gP hn;rw[hc]at g;obtain⟨F1,m1,r1,put⟩:=(h5 n c _ e2 hc).focus hp g;refine⟨F1,λb z=>(h4 n b (m1 b z)).1,r1,λH' ph qt fr st r' ap=> ?_⟩;have key:=put H' ph qt (λb o nb hb=>fr b o nb (h4 n b hb).1) st r' λb z=>(ap b z).elim .inl λq=> .inr λw=>q (h4 n b w).1;rw[bf,hc];have CP:cV k=false->¬ F1 a:=λhk z=>(h4 n a (m1 a z)).2 hk rfl;refine .nd (λi b=>if i=n then(Fs n b/\¬ F1 b)\/ph b else Fs i b) ?_ (by show vs.length=(cs.set n _).length;rw[bI];exact h2) ?_ ?_ ?_
    ·cases k with
     |tup=>exact st _ _ (λz=>z) h1
     |aA=>exact absurd ⟨rfl,h1.1⟩ cH
     |_=>obtain⟨x1,x2,x3,dx,x4⟩:=h1;exact⟨.inl ⟨x1,CP x2⟩,x2,x3,dx,fr _ _ (CP x2) x1 x4⟩
    ·intro i j b hi hj;by_cases ei:i=n
     ·by_cases ej:j=n
      ·rw[ei,ej]
      ·rw[if_pos ei]at hi;rw[if_neg ej]at hj;rcases hi with hi | hi
       ·exact absurd (h3 j n b hj hi.1) ej
       ·rcases ap b hi with z | z
        ·exact absurd (h3 j n b hj (m1 b z)) ej
        ·exact absurd (h4 j b hj).1 z
     ·rw[if_neg ei]at hi;by_cases ej:j=n
      ·rw[if_pos ej]at hj;rcases hj with hj | hj
       ·exact absurd (h3 i n b hi hj.1) ei
       ·rcases ap b hj with z | z
        ·exact absurd (h3 i n b hi (m1 b z)) ei
        ·exact absurd (h4 i b hi).1 z
      ·rw[if_neg ej]at hj;exact h3 i j b hi hj
    ·intro i b hi;by_cases ei:i=n
     ·rw[if_pos ei]at hi;rcases hi with hi | hi
      ·exact⟨.inl ⟨(h4 n b hi.1).1,hi.2⟩,(h4 n b hi.1).2⟩
      ·refine⟨.inr hi,λhk z=> ?_⟩;subst z;rcases ap b hi with q | q
       ·exact CP hk q
       ·exact q (h1.own hk).1
     ·rw[if_neg ei]at hi;exact⟨.inl ⟨(h4 i b hi).1,λz=>ei (h3 i n b hi (m1 b z))⟩,(h4 i b hi).2⟩
    ·intro i v2 d2 hv hd;by_cases ei:i=n
     ·subst ei;rw[e2]at hv;cases hv;have hd:(cs.set i (bf cs[i] p qt))[i]?=some d2:=hd;rw[eN hn]at hd;cases hd;show bb K H' (λb=>if i=i then(Fs i b/\¬ F1 b)\/ph b else Fs i b) c _;simp only[if_pos rfl];exact key
     ·have hd:(cs.set n (bf cs[n] p qt))[i]?=some d2:=hd;rw[fF (dS ei)]at hd;show bb K H' (λb=>if i=n then(Fs n b/\¬ F1 b)\/ph b else Fs i b) v2 d2;simp only[if_neg ei];exact(h5 i v2 d2 hv hd).frame (λb o hb=>fr b o (λz=>ei (h3 i n b hb (m1 b z))) (h4 i b hb).1) st
theorem hV.tP(h:hV K H a k vs)(hk:cV k=false):∃o,H a=some o:=by
 obtain⟨_,h⟩:=h;cases k with
 |tup=>cases hk
 |aA=>cases hk
 |lst=>exact⟨_,h⟩
 |cy ks=>rcases h with h | ⟨o,h⟩ <;> exact⟨_,h⟩
 |dk ks=>rcases h with h | ⟨o,h⟩ <;> exact⟨_,h⟩
 |obj C ns=>obtain⟨dx,h⟩:=h;exact⟨_,h⟩
theorem Vw.over(h:Vw K H N v d)(f:∀b o,N b->H b=some o->H' b=some o/\N' b)(s:fJ H H'):Vw K H' N' v d:=by
 induction h with
 |sc=>exact .sc _
 |hl=>exact .hl _
 |nd h1 h2 h3 _ ih=>exact .nd (λk=>let ⟨o,e⟩:=h2.tP k;(f _ o (h1 k) e).2) (h2.frame (λhk o e=>(f _ o (h1 hk) e).1) s) h3 ih
theorem Vw.node(h:Vw K H N v (.nd k cs)):∃a vs,v= .ref a/\(cV k=false->N a)/\hV K H a k vs/\vs.length=cs.length/\∀(i:Nat) (v:V) (d:D),vs[i]?=some v->cs[i]?=some d->Vw K H N v d:=by
 cases h with
 |nd h1 h2 h3 h4=>exact⟨_,_,rfl,h1,h2,h3,h4⟩
theorem Vw.cq(h:Vw K H N v (.sc u)):v=u:=by
 cases h;rfl
theorem bb.cq(h:bb K H F v (.sc u)):v=u:=by
 cases h;rfl
theorem bb.hole(h:bb K H F v (.hl u)):v=u:=by
 cases h;rfl
theorem bb.node(h:bb K H F v (.nd k cs)):∃a vs,v= .ref a/\i8 K H F a k vs cs/\vs.length=cs.length/\∃Fs:Nat->Addr->Prop,(∀i j b,Fs i b->Fs j b->i=j)/\(∀i b,Fs i b->F b/\(cV k=false->b≠a))/\
   (∀(i:Nat) (v:V) (d:D),vs[i]?=some v->cs[i]?=some d->bb K H (Fs i) v d):=by
 cases h with
 |nd Fs h1 h2 h3 h4 h5=>exact⟨_,_,rfl,h1,h2,Fs,h3,h4,h5⟩
theorem bb.path:∀{p:List Nat} {F:Addr->Prop} {v:V} {d d1:D},bb K H F v d->aJ d p=some d1->∃u,fV H v p u
 | [],F,v,d,d1,h,g=>⟨v, .nil v⟩
 |n::p,F,v, .sc _,d1,h,g=>by rw[aJ]at g;cases g
 |n::p,F,v, .hl _,d1,h,g=>by rw[aJ]at g;cases g
 |n::p,F,v, .nd k cs,d1,h,g=>by
  obtain⟨a,vs,rfl,h1,h2,Fs,h3,h4,h5⟩:=h.node;rw[aJ]at g;by_cases cH:cV k=true/\bq cs=true
  ·rw[if_pos cH]at g;cases g
  rw[if_neg cH]at g;cases hc:cs[n]? with
  |none=>rw[hc]at g;cases g
  |some c=>
   rw[hc]at g;have hn:n < vs.length:=by rw[h2];exact(cb.mp hc).1
   obtain⟨u,hu⟩:=(h5 n _ c (gP hn) hc).path g;have ho:∃o,H a=some o:=by
    cases k with
    |tup=>exact⟨_,h1⟩
    |aA=>exact absurd ⟨rfl,h1.1⟩ cH
    |_=>obtain⟨_,_,_,dx,e⟩:=h1;exact⟨_,e⟩
   obtain⟨o,e⟩:=ho;exact⟨u, .cons e (by rw[h1.kids cH e];exact gP hn) hu⟩
theorem bb.IS:∀{p:List Nat} {F:Addr->Prop} {v u:V} {d d1:D},bb K H F v d->aJ d p=some d1->fV H v p u->(∀b o,F b->H b=some o->H' b=some o)->fJ H H'->fV H' v p u
 | [],F,v,u,d,d1,h,g,hp,f,s=>by cases hp;exact .nil v
 |n::p,F,v,u, .sc _,d1,h,g,hp,f,s=>by rw[aJ]at g;cases g
 |n::p,F,v,u, .hl _,d1,h,g,hp,f,s=>by rw[aJ]at g;cases g
 |n::p,F,v,u, .nd k cs,d1,h,g,hp,f,s=>by
  obtain⟨a,vs,rfl,h1,h2,Fs,h3,h4,h5⟩:=h.node;rw[aJ]at g;by_cases cH:cV k=true/\bq cs=true
  ·rw[if_pos cH]at g;cases g
  rw[if_neg cH]at g;cases hc:cs[n]? with
  |none=>rw[hc]at g;cases g
  |some c=>
   rw[hc]at g;cases hp with
   | @cons a o n c' u p e1 e2 hp=>
    rw[h1.kids cH e1]at e2;have RH:H' a=some o:=by
     cases k with
     |tup=>have h1:H a=some (.tup vs):=h1;rw[e1]at h1;cases h1;exact s _ _ (λz=>z) e1
     |aA=>exact absurd ⟨rfl,h1.1⟩ cH
     |_=>exact f _ _ h1.1 e1
    refine .cons RH (by rw[h1.kids cH e1];exact e2) ?_;exact(h5 n c' c e2 hc).IS g hp (λb o z=>f b o (h4 n b z).1) s
theorem bb.sub(h:bb K H F v d)(g:aJ d p=some d1)(hp:fV H v p u)(m:∀b,F b->N b):Vw K H N u d1:=by
 obtain⟨F1,m1,r1,_⟩:=h.focus hp g;exact r1.view λb z=>m b (m1 b z)
end
inductive B where
 |own (d:D) | ro (d:D) | aT (r:Nat) (p:List Nat)
noncomputable abbrev En:=List (Option B)
def lT(K:ak)(H:Hp)(U F:Addr->Prop)(m:Nat)(e:List (Option V))(v:V):B->Prop
 |.own d=>bb K H F v d
 |.ro d=>Vw K H (λb=>¬ U b) v d
 |.aT r p=>r < m/\∃vr,e[r]?=some (some vr)/\fV H vr p v
structure cz(K:ak)(H:Hp)(U:Addr->Prop)(m:Nat)(e:List (Option V))(Z:En):Prop where
 len:e.length=Z.length
 mu:∀b,U b->gY (H b)
 ex:∃Fs:Nat->Addr->Prop,(∀i j b,Fs i b->Fs j b->i=j)/\(∀i b,Fs i b->U b)/\∀(i:Nat) (β:B),Z[i]?=some (some β)->∃v,e[i]?=some (some v)/\lT K H U (Fs i) m e v β
def bF(U:Addr->Prop)(H:Hp)(U':Addr->Prop)(H':Hp):Prop:=∀b o,H b=some o->¬ U b->H' b=some o/\¬ U' b
theorem bF.refl(U:Addr->Prop)(H:Hp):bF U H U H:=λ_ _ h n=>⟨h,n⟩
theorem bF.trans{H H1 H2:Hp}(a:bF U H U1 H1)(b:bF U1 H1 U2 H2):bF U H U2 H2:=λc o h n=>b c o (a c o h n).1 (a c o h n).2
theorem bF.e9{H H':Hp}(s:bF U H U' H')(mu:∀b,U b->gY (H b)):fJ H H':=λb o m e=>(s b o e λu=>m (by have:=mu b u;rw[e]at this;exact this)).1
theorem pj(h:gY o):∃x,o=some x:=by
 cases o with
 |none=>exact h.elim
 |some x=>exact⟨x,rfl⟩
noncomputable def aP (Z:En) (r:Nat):Option D:=match Z[r]? with
 |some (some (.own d))=>some d
 |_=>none
def jv(Z:En):Option B->Option B
 |some (.aT r p)=>if p= []\/((aP Z r).bind (aJ · p)).isSome=true then some (.aT r p) else none
 |b=>b
def gA(Z:En):En:=Z.map (jv Z)
def IT(τ:En):Prop:=∀b∈τ,b=none\/∃d,b=some (B.own d)
def wy(τ:En):Prop:=∀b∈τ,∀r p,b≠some (B.aT r p)
theorem ic(Z:En):(gA Z).length=Z.length:=by unfold gA;rw[eG]
section
variable {K:ak}{H H':Hp}{U U':Addr->Prop}{m:Nat}{e t t':List (Option V)}{Z τ ui:En}
theorem slot_of(hl:e.length=Z.length)(h:(Z++τ)[i]?=some (some β)):(i < e.length/\Z[i]?=some (some β))\/(e.length<=i/\τ[i - e.length]?=some (some β)):=by
 by_cases hi:i < Z.length
 ·rw[aV hi]at h;exact .inl ⟨by lia,h⟩
 ·rw[bL (by lia)]at h;exact .inr ⟨by lia,by rw[hl];exact h⟩
theorem kE(h:aP Z r=some d):Z[r]?=some (some (.own d)):=by
 unfold aP at h
 split at h
 ·next q=>cases h;exact q
 ·cases h
theorem RI{i:Nat}{β:B}(h:(gA Z)[i]?=some (some β)):Z[i]?=some (some β)/\jv Z (some β)=some β:=by
 unfold gA at h;rw[du]at h;cases q:Z[i]? with
 |none=>rw[q]at h;cases h
 |some o=>
  rw[q]at h;have h:jv Z o=some β:=jQ h;cases o with
  |none=>cases h
  |some c=>
   cases c with
   |own d=>have h:some (B.own d)=some β:=h;cases h;exact⟨rfl,rfl⟩
   |ro d=>have h:some (B.ro d)=some β:=h;cases h;exact⟨rfl,rfl⟩
   |aT r p=>
    have h':(if p= []\/((aP Z r).bind (aJ · p)).isSome=true then some (B.aT r p) else none)=some β:=h;by_cases c:p= []\/((aP Z r).bind (aJ · p)).isSome=true
    ·rw[if_pos c]at h';cases h';exact⟨rfl,h⟩
    ·rw[if_neg c]at h';cases h'
theorem cz.call(h:cz K H U m (e++t) (Z++τ))(hl:e.length=Z.length)(hm:m<=e.length)(uj:wy τ):
  ∃Ut:Addr->Prop,(∀b,Ut b->U b)/\cz K H Ut 0 t τ/\(∀(i:Nat) (v:V) (d:D),e[i]?=some (some v)->(Z[i]?=some (some (.own d))->∃F:Addr->Prop,bb K H F v d/\∀b,F b->¬ Ut b)/\(Z[i]?=some (some (.ro d))->Vw K H (λb=>¬ Ut b) v d))/\
   ∀(H':Hp) (wz:Addr->Prop) (t':List (Option V)) (ui:En),cz K H' wz 0 t' ui->bF Ut H wz H'->IT ui->∃U':Addr->Prop,cz K H' U' m (e++t') (gA Z++ui)/\bF U H U' H':=by
 obtain⟨dM,mu,Fs,dj,sub,sl⟩:=h;have hle:(e++t).length=(Z++τ).length:=dM;rw[b6,b6]at hle;refine⟨λb=>∃i,e.length<=i/\Fs i b,λb ⟨i,_,z⟩=>sub i b z,⟨by lia,λb ⟨i,_,z⟩=>mu b (sub i b z),λi=>Fs (e.length + i),λi j b hi hj=>by have:=dj _ _ b hi hj;lia,λi b hb=>⟨_,by lia,hb⟩,λi β aL=> ?_⟩, ?_, ?_⟩
 ·have rZ:(Z++τ)[e.length + i]?=some (some β):=by
   rw[hl,bL (by lia),show Z.length + i - Z.length=i by lia];exact aL
  obtain⟨v,ev,sv⟩:=sl _ _ rZ;rw[bL (by lia),show e.length + i - e.length=i by lia]at ev;refine⟨v,ev, ?_⟩;cases β with
  |own d=>exact sv
  |ro d=>exact Vw.mono sv λb nb ⟨j,_,z⟩=>nb (sub j b z)
  |aT r p=>exact absurd rfl (uj _ (jR aL) r p)
 ·intro i v d ev;have hi:i < e.length:=by
   rcases NM i e.length with z | z
   ·exact z
   ·rw[Ze.mpr z]at ev;cases ev
  have ap:∀β,Z[i]?=some (some β)->(Z++τ)[i]?=some (some β):=λβ q=>by rw[aV (by lia)];exact q
  have jT:(e++t)[i]?=some (some v):=by rw[aV hi];exact ev
  refine⟨λhb=> ?_,λhb=> ?_⟩
  ·obtain⟨v',d7,sv⟩:=sl i _ (ap _ hb);rw[jT]at d7;cases d7;exact⟨Fs i,sv,λb hb ⟨j,hj,z⟩=>by have:=dj i j b hb z;lia⟩
  ·obtain⟨v',d7,sv⟩:=sl i _ (ap _ hb);rw[jT]at d7;cases d7;exact Vw.mono sv λb nb ⟨j,_,z⟩=>nb (sub j b z)
 ·intro H' wz t' ui h' st IU;obtain⟨ZF,RJ,Gs,RK,CQ,BL⟩:=h';have nU:∀i b,i < e.length->Fs i b->¬ ∃j,e.length<=j/\Fs j b:=λi b hi hb ⟨j,hj,z⟩=>by have:=dj i j b hb z;lia
  have e9:fJ H H':=st.e9 λb ⟨i,_,z⟩=>mu b (sub i b z);have keep:∀i,i < e.length->∀b o,Fs i b->H b=some o->H' b=some o:=λi hi b o hb q=>(st b o q (nU i b hi hb)).1;have IV:∀i,i < e.length->∀b,Fs i b->¬ wz b:=λi hi b hb=>by
   obtain⟨o,q⟩:=pj (mu b (sub i b hb));exact(st b o q (nU i b hi hb)).2
  have lp:(gA Z).length=Z.length:=ic Z;refine⟨λb=>(∃i,i < e.length/\Fs i b)\/wz b,⟨by rw[b6,b6,lp];lia,λb hb=> ?_,λi=>if i < e.length then Fs i else Gs (i - e.length),λi j b hi hj=> ?_,λi b hb=> ?_,λi β aL=> ?_⟩,λb o q nb=> ?_⟩
  ·rcases hb with⟨i,hi,z⟩ | z
   ·obtain⟨o,q⟩:=pj (mu b (sub i b z));have:=mu b (sub i b z);rw[q]at this;rw[keep i hi b o z q];exact this
   ·exact RJ b z
  ·have hi:(if i < e.length then Fs i else Gs (i - e.length)) b:=hi;have hj:(if j < e.length then Fs j else Gs (j - e.length)) b:=hj;by_cases ei:i < e.length
   ·rw[if_pos ei]at hi;by_cases ej:j < e.length
    ·rw[if_pos ej]at hj;exact dj i j b hi hj
    ·rw[if_neg ej]at hj;exact absurd (CQ _ b hj) (IV i ei b hi)
   ·rw[if_neg ei]at hi;by_cases ej:j < e.length
    ·rw[if_pos ej]at hj;exact absurd (CQ _ b hi) (IV j ej b hj)
    ·rw[if_neg ej]at hj;have:=RK _ _ b hi hj;lia
  ·have hb:(if i < e.length then Fs i else Gs (i - e.length)) b:=hb;by_cases ei:i < e.length
   ·rw[if_pos ei]at hb;exact .inl ⟨i,ei,hb⟩
   ·rw[if_neg ei]at hb;exact .inr (CQ _ b hb)
  ·rcases slot_of (τ:=ui) (by rw[lp];exact hl) aL with⟨hi,q⟩ | ⟨hi,q⟩
   ·obtain⟨q1,q2⟩:=RI q;obtain⟨v,ev,sv⟩:=sl i β (by rw[aV (by lia)];exact q1);rw[aV hi]at ev;refine⟨v,by rw[aV hi];exact ev, ?_⟩;simp only[if_pos hi];cases β with
    |own d=>exact bb.frame sv (keep i hi) e9
    |ro d=>
     exact Vw.over sv (λb o nb q=>by
      have nt:¬ ∃j,e.length<=j/\Fs j b:=λ⟨j,_,z⟩=>nb (sub j b z);exact⟨(st b o q nt).1,λz=>z.elim (λ⟨j,_,z⟩=>nb (sub j b z)) (st b o q nt).2⟩) e9
    |aT r p=>
     obtain⟨hr,vr,er,hp⟩:=sv;rw[aV (by lia)]at er;refine⟨hr,vr,by rw[aV (by lia)];exact er, ?_⟩;have q2:(if p= []\/((aP Z r).bind (aJ · p)).isSome=true then some (B.aT r p) else none)=some (B.aT r p):=q2;by_cases c:p= []\/((aP Z r).bind (aJ · p)).isSome=true
     ·rcases c with c | c
      ·subst c;cases hp;exact .nil _
      ·cases hd:aP Z r with
       |none=>rw[hd]at c;cases c
       |some d=>
        rw[hd]at c;have uk:=kE hd;obtain⟨v2,d7,d8⟩:=sl r _ (by rw[aV (by lia)];exact uk);rw[aV (by lia),er]at d7;cases d7;obtain⟨d1,g⟩:=YV.mp c;have d8:bb K H (Fs r) vr d:=d8;exact d8.IS (d1:=d1) g hp (keep r (by lia)) e9
     ·rw[if_neg c]at q2;cases q2
   ·obtain⟨v,ev,sv⟩:=BL _ β q;refine⟨v,by rw[bL hi];exact ev, ?_⟩;have RL:¬ i < e.length:=by lia
    simp only[if_neg RL];cases β with
    |own d=>exact sv
    |ro d=>rcases IU _ (jR q) with z | ⟨_,z⟩ <;> cases z
    |aT r p=>rcases IU _ (jR q) with z | ⟨_,z⟩ <;> cases z
  ·have nt:¬ ∃j,e.length<=j/\Fs j b:=λ⟨j,_,z⟩=>nb (sub j b z);exact⟨(st b o q nt).1,λz=>z.elim (λ⟨j,_,z⟩=>nb (sub j b z)) (st b o q nt).2⟩
theorem um{cs:List D}{n:Nat}{x:D}(hn:n < cs.length)(hx:plain x=false):bq (cs.set n x)=false:=by
 cases q:bq (cs.set n x) with
 |false=>rfl
 |true=>
  have:=rY q (eN hn);rw[hx]at this;cases this
theorem uo:∀{p:List Nat} {d d1 x:D},aJ d p=some d1->plain x=false->plain (bf d p x)=false
 | [],d,d1,x,g,hx=>by rw[bf];exact hx
 |n::p, .sc _,d1,x,g,hx=>by rw[aJ]at g;cases g
 |n::p, .hl _,d1,x,g,hx=>by rw[aJ]at g;cases g
 |n::p, .nd k cs,d1,x,g,hx=>by
  rw[aJ]at g;by_cases cH:cV k=true/\bq cs=true
  ·rw[if_pos cH]at g;cases g
  rw[if_neg cH]at g;cases hc:cs[n]? with
  |none=>rw[hc]at g;cases g
  |some c=>
   rw[hc]at g;rw[bf,hc];cases k with
   |tup=>exact um (cb.mp hc).1 (uo g hx)
   |aA=>exact um (cb.mp hc).1 (uo g hx)
   |_=>rfl
theorem CS:∀{p:List Nat} {d d1 x:D},aJ d p=some d1->plain x=false->aJ (bf d p x) p=some x
 | [],d,d1,x,g,hx=>by rw[bf,aJ]
 |n::p, .sc _,d1,x,g,hx=>by rw[aJ]at g;cases g
 |n::p, .hl _,d1,x,g,hx=>by rw[aJ]at g;cases g
 |n::p, .nd k cs,d1,x,g,hx=>by
  rw[aJ]at g;by_cases cH:cV k=true/\bq cs=true
  ·rw[if_pos cH]at g;cases g
  rw[if_neg cH]at g;cases hc:cs[n]? with
  |none=>rw[hc]at g;cases g
  |some c=>
   rw[hc]at g;have hn:=(cb.mp hc).1;rw[bf,hc];show aJ (.nd k (cs.set n (bf c p x))) (n::p)=some x;rw[aJ,if_neg,eN hn]
   ·exact CS g hx
   ·rintro⟨_,q⟩;rw[um hn (uo g hx)]at q;cases q
theorem CT:∀{p:List Nat} {d d1 x y:D},aJ d p=some d1->bf (bf d p x) p y=bf d p y
 | [],d,d1,x,y,g=>by simp only[bf]
 |n::p, .sc _,d1,x,y,g=>by rw[aJ]at g;cases g
 |n::p, .hl _,d1,x,y,g=>by rw[aJ]at g;cases g
 |n::p, .nd k cs,d1,x,y,g=>by
  rw[aJ]at g;by_cases cH:cV k=true/\bq cs=true
  ·rw[if_pos cH]at g;cases g
  rw[if_neg cH]at g;cases hc:cs[n]? with
  |none=>rw[hc]at g;cases g
  |some c=>
   rw[hc]at g;have hn:=(cb.mp hc).1;have e1:bf (.nd k cs) (n::p) x= .nd k (cs.set n (bf c p x)):=by rw[bf,hc]
   have e2:bf (.nd k cs) (n::p) y= .nd k (cs.set n (bf c p y)):=by rw[bf,hc]
   have e3:bf (.nd k (cs.set n (bf c p x))) (n::p) y= .nd k ((cs.set n (bf c p x)).set n (bf (bf c p x) p y)):=by rw[bf,eN hn]
   rw[e1,e2,e3,tL,CT g]
theorem lT.slots{F:Addr->Prop}{e e':List (Option V)}(h:lT K H U F m e v β)(he:∀r,r < m->e'[r]?=e[r]?):lT K H U F m e' v β:=by
 cases β with
 |own d=>exact h
 |ro d=>exact h
 |aT r p=>
  obtain⟨hr,vr,er,hp⟩:=h;exact⟨hr,vr,(he r hr).trans er,hp⟩
theorem cz.take(h:cz K H U m e Z)(hm:m<=e.length)(hr:Z[r]?=some (some (.own d)))(er:e[r]?=some (some vr))(hp:fV H vr p u)(g:aJ d p=some d1):
  cz K H U m (e++ [some u]) (Z.set r (some (.own (bf d p (.hl u))))++ [some (.own d1)]):=by
 obtain⟨dM,mu,Fs,dj,sub,sl⟩:=h;have iu:r < e.length:=by
  rcases NM r e.length with z | z
  ·exact z
  ·rw[Ze.mpr z]at er;cases er
 obtain⟨v,ev,sv⟩:=sl r _ hr;rw[er]at ev;cases ev;have sv:bb K H (Fs r) vr d:=sv;obtain⟨F1,m1,r1,put⟩:=sv.focus hp g;have key:=put H (λ_=>False) (.hl u) (λb o _ _ z=>z) (fJ.refl H) (.hl _ _) λb z=>z.elim;have zh:(Z.set r (some (.own (bf d p (.hl u))))).length=Z.length:=bI;refine⟨by rw[b6,b6,zh,dM];rfl,mu,λi b=>if i=e.length then F1 b else if i=r then Fs r b/\¬ F1 b else Fs i b/\i < e.length,λi j b hi hj=> ?_,λi b hb=> ?_,λi β aL=> ?_⟩
 ·have hi:if i=e.length then F1 b else if i=r then Fs r b/\¬ F1 b else Fs i b/\i < e.length:=hi;have hj:if j=e.length then F1 b else if j=r then Fs r b/\¬ F1 b else Fs j b/\j < e.length:=hj;have fi:∀k,(if k=e.length then F1 b else if k=r then Fs r b/\¬ F1 b else Fs k b/\k < e.length)->(k=e.length/\F1 b)\/(k=r/\Fs r b/\¬ F1 b)\/(k≠r/\k≠e.length/\Fs k b):=λk hk=>by
   by_cases c1:k=e.length
   ·rw[if_pos c1]at hk;exact .inl ⟨c1,hk⟩
   ·rw[if_neg c1]at hk;by_cases c2:k=r
    ·rw[if_pos c2]at hk;exact .inr (.inl ⟨c2,hk⟩)
    ·rw[if_neg c2]at hk;exact .inr (.inr ⟨c2,c1,hk.1⟩)
  rcases fi i hi with⟨a1,a2⟩ | ⟨a1,a2,a3⟩ | ⟨a1,a2,a3⟩ <;> rcases fi j hj with⟨b1,b2⟩ | ⟨b1,b2,b3⟩ | ⟨b1,b2,b3⟩
  ·lia
  ·exact absurd a2 b3
  ·exact absurd (dj j r b b3 (m1 b a2)) b1
  ·exact absurd b2 a3
  ·lia
  ·exact absurd (dj j r b b3 a2) b1
  ·exact absurd (dj i r b a3 (m1 b b2)) a1
  ·exact absurd (dj i r b a3 b2) a1
  ·exact dj i j b a3 b3
 ·have hb:if i=e.length then F1 b else if i=r then Fs r b/\¬ F1 b else Fs i b/\i < e.length:=hb;by_cases c1:i=e.length
  ·rw[if_pos c1]at hb;exact sub r b (m1 b hb)
  ·rw[if_neg c1]at hb;by_cases c2:i=r
   ·rw[if_pos c2]at hb;exact sub r b hb.1
   ·rw[if_neg c2]at hb;exact sub i b hb.1
 ·have CU:∀r,r < m->(e++ [some u])[r]?=e[r]?:=λr hr=>aV (by lia);rcases slot_of (by rw[zh];exact dM) aL with⟨hi,q⟩ | ⟨hi,q⟩
  ·by_cases c:r=i
   ·subst c;rw[eN (by lia)]at q;cases q;refine⟨vr,by rw[aV hi];exact er, ?_⟩;have n1:¬ r=e.length:=by lia
    show bb K H (λb=>if r=e.length then F1 b else if r=r then Fs r b/\¬ F1 b else _) vr _;simp only[if_neg n1,if_pos rfl];exact key.mono λb z=>z.elim (λz=>z) λz=>z.elim
   ·rw[fF c]at q;obtain⟨v,ev,sv⟩:=sl i β q;refine⟨v,by rw[aV hi];exact ev, ?_⟩;have n1:¬ i=e.length:=by lia
    have n2:¬ i=r:=λz=>c z.symm;have sv:=lT.slots sv CU;cases β with
    |own dd=>
     show bb K H (λb=>if i=e.length then F1 b else if i=r then Fs r b/\¬ F1 b else Fs i b/\i < e.length) v dd;simp only[if_neg n1,if_neg n2];exact bb.mono sv λb z=>⟨z,hi⟩
    |ro dd=>exact sv
    |aT _ _=>exact sv
  ·have:i - e.length=0:=by
    have:=(cb.mp q).1;simp at this;lia
   rw[this]at q;cases q;have ei:i=e.length:=by lia
   subst ei;refine⟨u,by rw[bL (bT _),nr];rfl, ?_⟩;show bb K H (λb=>if e.length=e.length then F1 b else _) u d1;simp only[if_pos rfl];exact r1
theorem cz.put(h:cz K H U m (e++ [some u]) (Z++ [some (.own d1)]))(hl:e.length=Z.length)(hm:m<=e.length)(hr:Z[r]?=some (some (.own d0)))(g:aJ d0 p=some (.hl u)):
  cz K H U m e (Z.set r (some (.own (bf d0 p d1)))):=by
 obtain⟨dM,mu,Fs,dj,sub,sl⟩:=h;have iu:r < e.length:=by rw[hl];exact(cb.mp hr).1
 obtain⟨vr,ev,sv⟩:=sl r _ (by rw[aV (by lia)];exact hr);rw[aV iu]at ev;have sv:bb K H (Fs r) vr d0:=sv;obtain⟨u',hp⟩:=sv.path g;obtain⟨F1,m1,r1,put⟩:=sv.focus hp g;have:=r1.hole;subst this;obtain⟨u2,eu,su⟩:=sl e.length (.own d1) (by rw[hl,bL (bT _),nr];rfl);rw[bL (bT _),nr]at eu;have eu:some (some u')=some (some u2):=eu;cases eu;have su:bb K H (Fs e.length) u' d1:=su;have key:=put H (Fs e.length) d1 (λb o _ _ z=>z) (fJ.refl H) su λb z=> .inr λw=>by have:=dj _ _ b z w;lia
 refine⟨by rw[bI];exact hl,mu,λi b=>if i=r then(Fs r b/\¬ F1 b)\/Fs e.length b else Fs i b/\i < e.length,λi j b hi hj=> ?_,λi b hb=> ?_,λi β aL=> ?_⟩
 ·have hi:if i=r then(Fs r b/\¬ F1 b)\/Fs e.length b else Fs i b/\i < e.length:=hi;have hj:if j=r then(Fs r b/\¬ F1 b)\/Fs e.length b else Fs j b/\j < e.length:=hj;by_cases c1:i=r
  ·rw[if_pos c1]at hi;by_cases c2:j=r
   ·lia
   ·rw[if_neg c2]at hj;rcases hi with hi | hi
    ·exact absurd (dj j r b hj.1 hi.1) c2
    ·have:=dj j _ b hj.1 hi;lia
  ·rw[if_neg c1]at hi;by_cases c2:j=r
   ·rw[if_pos c2]at hj;rcases hj with hj | hj
    ·exact absurd (dj i r b hi.1 hj.1) c1
    ·have:=dj i _ b hi.1 hj;lia
   ·rw[if_neg c2]at hj;exact dj i j b hi.1 hj.1
 ·have hb:if i=r then(Fs r b/\¬ F1 b)\/Fs e.length b else Fs i b/\i < e.length:=hb;by_cases c1:i=r
  ·rw[if_pos c1]at hb;rcases hb with hb | hb
   ·exact sub r b hb.1
   ·exact sub _ b hb
  ·rw[if_neg c1]at hb;exact sub i b hb.1
 ·have CU:∀r,r < m->e[r]?=(e++ [some u'])[r]?:=λr hr=>(aV (by lia)).symm;by_cases c:r=i
  ·subst c;rw[eN (by lia)]at aL;cases aL;refine⟨vr,ev, ?_⟩;show bb K H (λb=>if r=r then(Fs r b/\¬ F1 b)\/Fs e.length b else _) vr _;simp only[if_pos rfl];exact key
  ·rw[fF c]at aL;have hi:i < e.length:=by rw[hl];exact(cb.mp aL).1
   obtain⟨v,d7,d8⟩:=sl i β (by rw[aV (by lia)];exact aL);rw[aV hi]at d7;refine⟨v,d7, ?_⟩;have n2:¬ i=r:=λz=>c z.symm;have d8:=lT.slots d8 CU;cases β with
   |own dd=>
    show bb K H (λb=>if i=r then(Fs r b/\¬ F1 b)\/Fs e.length b else Fs i b/\i < e.length) v dd;simp only[if_neg n2];exact bb.mono d8 λb z=>⟨z,hi⟩
   |ro dd=>exact d8
   |aT _ _=>exact d8
end
abbrev T1:Addr->Prop:=λ_=>True
def dF(K:ak)(H H':Hp)(v:V)(d:D):Prop:=∃G:Addr->Prop,bb K H' G v d/\∀b,G b->H b=none/\gY (H' b)
section
theorem dF.sc(v:V):dF K H H' v (.sc v):=⟨λ_=>False, .sc _ _,λ_ z=>z.elim⟩
theorem dF.plain(h:Vw K H' N v d)(p:VL.plain d=true):dF K H H' v d:=⟨_,h.plain p,λ_ z=>z.elim⟩
theorem dF.vw(h:dF K H H' v d):Vw K H' T1 v d:=let ⟨_,r,_⟩:=h;r.vw
theorem dF.early(h:dF K H1 H2 v d)(s:aQ H H1):dF K H H2 v d:=by
 obtain⟨G,r,f⟩:=h;refine⟨G,r,λb z=>⟨?_,(f b z).2⟩⟩;cases q:H b with
 |none=>rfl
 |some o=>have:=(f b z).1;rw[s b o q]at this;cases this
theorem fV.same(h:fV H v p u)(s:aQ H H'):fV H' v p u:=by
 induction h with
 |nil=>exact .nil _
 |cons e1 e2 _ ih=>exact .cons (s _ _ e1) e2 ih
theorem wA(h:gY (H b))(s:aQ H H'):gY (H' b):=by
 obtain⟨o,w⟩:=pj h;rw[w]at h;rw[s b o w];exact h
theorem cz.same(h:cz K H U m e Z)(s:aQ H H'):cz K H' U m e Z:=by
 obtain⟨hl,mu,Fs,dj,sub,sl⟩:=h;refine⟨hl,λb z=>wA (mu b z) s,Fs,dj,sub,λi β aL=> ?_⟩;obtain⟨v,ev,sv⟩:=sl i β aL;refine⟨v,ev, ?_⟩;cases β with
 |own d=>exact bb.same sv s
 |ro d=>exact Vw.same sv s
 |aT r p=>obtain⟨a,vr,b,c⟩:=sv;exact⟨a,vr,b,c.same s⟩
theorem cz.push(h:cz K H U m e Z)(s:aQ H H')(hm:m<=e.length)(ow:dF K H H' v d):∃U':Addr->Prop,cz K H' U' m (e++ [some v]) (Z++ [some (.own d)])/\bF U H U' H':=by
 obtain⟨hl,mu,Fs,dj,sub,sl⟩:=h.same s;obtain⟨G,r,fr⟩:=ow;have nG:∀b,G b->¬ U b:=λb z u=>by
  obtain⟨o,w⟩:=pj (h.mu b u);rw[(fr b z).1]at w;cases w
 refine⟨λb=>U b\/G b,⟨by rw[b6,b6,hl];rfl,λb z=>z.elim (mu b) λz=>(fr b z).2,λi b=>if i=e.length then G b else Fs i b,λi j b hi hj=> ?_,λi b hb=> ?_,λi β aL=> ?_⟩,λb o q nu=>⟨s b o q,λz=>z.elim nu λz=>by rw[(fr b z).1]at q;cases q⟩⟩
 ·have hi:if i=e.length then G b else Fs i b:=hi;have hj:if j=e.length then G b else Fs j b:=hj;by_cases ci:i=e.length
  ·rw[if_pos ci]at hi;by_cases cj:j=e.length
   ·lia
   ·rw[if_neg cj]at hj;exact absurd (sub j b hj) (nG b hi)
  ·rw[if_neg ci]at hi;by_cases cj:j=e.length
   ·rw[if_pos cj]at hj;exact absurd (sub i b hi) (nG b hj)
   ·rw[if_neg cj]at hj;exact dj i j b hi hj
 ·have hb:if i=e.length then G b else Fs i b:=hb;by_cases ci:i=e.length
  ·rw[if_pos ci]at hb;exact .inr hb
  ·rw[if_neg ci]at hb;exact .inl (sub i b hb)
 ·rcases slot_of hl aL with⟨hi,q⟩ | ⟨hi,q⟩
  ·obtain⟨v',ev,sv⟩:=sl i β q;refine⟨v',by rw[aV hi];exact ev, ?_⟩;have ni:¬ i=e.length:=by lia
   have sv:=lT.slots sv (e':=e++ [some v]) λr hr=>aV (by lia);cases β with
   |own dd=>
    show bb K H' (λb=>if i=e.length then G b else Fs i b) v' dd;simp only[if_neg ni];exact sv
   |ro dd=>
    obtain⟨v2,d7,r6⟩:=h.ex.choose_spec.2.2 i _ q;rw[ev]at d7;cases d7;have r6:Vw K H (λb=>¬ U b) v' dd:=r6;exact r6.over (λb o nb q=>⟨s b o q,λz=>z.elim nb λz=>by rw[(fr b z).1]at q;cases q⟩) (fJ.of s)
   |aT _ _=>exact sv
  ·have:i - e.length=0:=by
    have:=(cb.mp q).1;simp at this;lia
   rw[this]at q;cases q;have ei:i=e.length:=by lia
   subst ei;refine⟨v,by rw[bL (bT _),nr];rfl, ?_⟩;show bb K H' (λb=>if e.length=e.length then G b else _) v d;simp only[if_pos rfl];exact r
theorem cz.drop(h:cz K H U m (e++t) (Z++τ))(hl:e.length=Z.length)(hm:m<=e.length):cz K H U m e Z:=by
 obtain⟨_,mu,Fs,dj,sub,sl⟩:=h;refine⟨hl,mu,Fs,dj,sub,λi β aL=> ?_⟩;have hi:i < Z.length:=(cb.mp aL).1;obtain⟨v,ev,sv⟩:=sl i β (by rw[aV hi];exact aL);rw[aV (by lia)]at ev;exact⟨v,ev,lT.slots sv λr hr=>(aV (by lia)).symm⟩
noncomputable def eI (i:Nat) (Z:En):En:=Z.map λ
 |some (.aT r p)=>if r=i then none else some (.aT r p)
 |b=>b
theorem jU(i:Nat)(Z:En):(eI i Z).length=Z.length:=by unfold eI;rw[eG]
theorem CV{i j:Nat}{β:B}(h:(eI i Z)[j]?=some (some β)):Z[j]?=some (some β)/\∀r p,β= .aT r p->r≠i:=by
 unfold eI at h;rw[du]at h;cases q:Z[j]? with
 |none=>rw[q]at h;cases h
 |some o=>
  rw[q]at h;cases o with
  |none=>cases h
  |some c=>
   cases c with
   |own d=>cases h;exact⟨rfl,λ_ _ z=>nomatch z⟩
   |ro d=>cases h;exact⟨rfl,λ_ _ z=>nomatch z⟩
   |aT r p=>
    have h:some (if r=i then none else some (B.aT r p))=some (some β):=h;by_cases c:r=i
    ·rw[if_pos c]at h;cases h
    ·rw[if_neg c]at h;cases h;exact⟨rfl,λr' p' z=>by cases z;exact c⟩
theorem cz.set{i:Nat}(h:cz K H U m (e++ [some v]) (Z++ [some (.own d)]))(hl:e.length=Z.length)(hm:m<=e.length)(hi:i < e.length):cz K H U m (e.set i (some v)) ((eI i Z).set i (some (.own d))):=by
 obtain⟨_,mu,Fs,dj,sub,sl⟩:=h;obtain⟨v',ev,sv⟩:=sl e.length (.own d) (by rw[hl,bL (bT _),nr];rfl);rw[bL (bT _),nr]at ev;cases ev;have sv:bb K H (Fs e.length) v d:=sv;refine⟨by rw[bI,bI,jU];exact hl,mu,λj b=>if j=i then Fs e.length b else Fs j b/\j < e.length,λj k b hj hk=> ?_,λj b hb=> ?_,λj β aL=> ?_⟩
 ·have hj:if j=i then Fs e.length b else Fs j b/\j < e.length:=hj;have hk:if k=i then Fs e.length b else Fs k b/\k < e.length:=hk;by_cases cj:j=i
  ·rw[if_pos cj]at hj;by_cases ck:k=i
   ·lia
   ·rw[if_neg ck]at hk;have:=dj _ _ b hj hk.1;lia
  ·rw[if_neg cj]at hj;by_cases ck:k=i
   ·rw[if_pos ck]at hk;have:=dj _ _ b hj.1 hk;lia
   ·rw[if_neg ck]at hk;exact dj _ _ b hj.1 hk.1
 ·have hb:if j=i then Fs e.length b else Fs j b/\j < e.length:=hb;by_cases cj:j=i
  ·rw[if_pos cj]at hb;exact sub _ b hb
  ·rw[if_neg cj]at hb;exact sub _ b hb.1
 ·by_cases cj:i=j
  ·subst cj;rw[eN (by rw[jU];lia)]at aL;cases aL;refine⟨v,eN hi, ?_⟩;show bb K H (λb=>if i=i then Fs e.length b else _) v d;simp only[if_pos rfl];exact sv
  ·rw[fF cj]at aL;obtain⟨q1,q2⟩:=CV aL;have hj:j < e.length:=by rw[hl];exact(cb.mp q1).1
   obtain⟨v2,d7,d8⟩:=sl j β (by rw[aV (by lia)];exact q1);rw[aV hj]at d7;refine⟨v2,by rw[fF cj];exact d7, ?_⟩;have nj:¬ j=i:=λz=>cj z.symm;cases β with
   |own dd=>
    show bb K H (λb=>if j=i then Fs e.length b else Fs j b/\j < e.length) v2 dd;simp only[if_neg nj];exact bb.mono d8 λb z=>⟨z,hj⟩
   |ro dd=>exact d8
   |aT r p=>
    obtain⟨a,vr,b,c⟩:=d8;rw[aV (by lia)]at b;exact⟨a,vr,by rw[fF λz=>q2 r p rfl z.symm];exact b,c⟩
theorem cz.bind{i:Nat}{β:B}(h:cz K H U m e Z)(hi:i < e.length)(hb:match β with | .own _=>False | .ro d=>Vw K H (λb=>¬ U b) v d | .aT r p=>r < m/\r≠i/\∃vr,e[r]?=some (some vr)/\fV H vr p v):
  cz K H U m (e.set i (some v)) ((eI i Z).set i (some β)):=by
 obtain⟨hl,mu,Fs,dj,sub,sl⟩:=h;refine⟨by rw[bI,bI,jU];exact hl,mu,Fs,dj,sub,λj γ gf=> ?_⟩;by_cases cj:i=j
 ·subst cj;rw[eN (by rw[jU];lia)]at gf;cases gf;refine⟨v,eN hi, ?_⟩;cases β with
  |own d=>exact hb.elim
  |ro d=>exact hb
  |aT r p=>
   obtain⟨a,b,vr,c,q⟩:=hb;exact⟨a,vr,by rw[fF λz=>b z.symm];exact c,q⟩
 ·rw[fF cj]at gf;obtain⟨q1,q2⟩:=CV gf;obtain⟨v2,d7,d8⟩:=sl j γ q1;refine⟨v2,by rw[fF cj];exact d7, ?_⟩;cases γ with
  |own dd=>exact d8
  |ro dd=>exact d8
  |aT r p=>
   obtain⟨a,vr,b,c⟩:=d8;exact⟨a,vr,by rw[fF λz=>q2 r p rfl z.symm];exact b,c⟩
end
structure aB(K:ak)(n:Nat)(H:Hp)(U:Addr->Prop)(σ hv:List (Option V))(Z:En)(af:List V)(ab:List D):Prop where
 ok:cz K H U Z.length (σ++hv++af.map some) (Z++ab.map λd=>some (.own d))
 len:σ.length + hv.length=Z.length
 nn:σ.length=n
inductive Fl where
 |nx (Z:En) | rt (d:D) (Z:En) | bk (Z:En) | ct (Z:En)
def pk(K:ak)(n:Nat)(H:Hp)(U:Addr->Prop)(hv:List (Option V))(af:List V)(ab:List D)(E:jJ):Fl->Prop
 |.nx ρ'=>∀aM H' U',aB K n H' U' aM hv ρ' af ab->bF U H U' H'->E.nx aM H'
 |.rt d ρ'=>∀v aM H' U',aB K n H' U' aM hv ρ' (af++ [v]) (ab++ [d])->bF U H U' H'->E.rt v H'
 |.bk ρ'=>∀aM H' U',aB K n H' U' aM hv ρ' af ab->bF U H U' H'->E.bk aM H'
 |.ct ρ'=>∀aM H' U',aB K n H' U' aM hv ρ' af ab->bF U H U' H'->E.ct aM H'
class SV(K:ak)(n:Nat)(t:TE)(f:outParam (En->Option D)):Prop where
 s:∀{σ hv:List (Option V)} {H:Hp} {U:Addr->Prop} {Z:En} {af:List V} {ab:List D} {d:D} {Q:VK},aB K n H U σ hv Z af ab->f Z=some d->(∀v H',aQ H H'->Vw K H' T1 v d->Q v H')->t σ H Q
class SF(K:ak)(n:Nat)(t:TE)(f:outParam (En->Option D)):Prop where
 s:∀{σ hv:List (Option V)} {H:Hp} {U:Addr->Prop} {Z:En} {af:List V} {ab:List D} {d:D} {Q:VK},aB K n H U σ hv Z af ab->f Z=some d->(∀v H',aQ H H'->dF K H H' v d->Q v H')->t σ H Q
class SM(K:ak)(n:Nat)(t:TE)(f:outParam (En->Option (D×En))):Prop where
 s:∀{σ hv:List (Option V)} {H:Hp} {U:Addr->Prop} {Z ρ':En} {af:List V} {ab:List D} {d:D} {Q:VK},aB K n H U σ hv Z af ab->f Z=some (d,ρ')->
  (∀v H' U',aB K n H' U' σ hv ρ' (af++ [v]) (ab++ [d])->bF U H U' H'->Q v H')->t σ H Q
inductive Pl where
 |rt (r:Nat) (p:List Nat) | ro (d:D)
def fw(K:ak)(H:Hp)(U:Addr->Prop)(e:List (Option V))(Z:En)(v:V):Pl->Prop
 |.rt r p=>r < Z.length/\∃vr d,e[r]?=some (some vr)/\aP Z r=some d/\(aJ d p).isSome=true/\fV H vr p v
 |.ro d=>Vw K H (λb=>¬ U b) v d
class SP(K:ak)(n:Nat)(t:TE)(f:outParam (En->Option Pl)):Prop where
 s:∀{σ hv:List (Option V)} {H:Hp} {U:Addr->Prop} {Z:En} {af:List V} {ab:List D} {q:Pl} {Q:VK},aB K n H U σ hv Z af ab->f Z=some q->(∀v H',aQ H H'->fw K H' U (σ++hv) Z v q->Q v H')->t σ H Q
class ko(K:ak)(n:Nat)(t:TT)(f:outParam (En->Option Bool)):Prop where
 s:∀{σ hv:List (Option V)} {H:Hp} {U:Addr->Prop} {Z:En} {af:List V} {ab:List D} {b:Bool} {Q:Bool->Hp->Prop},aB K n H U σ hv Z af ab->f Z=some b->(∀H',aQ H H'->Q b H')->t σ H Q
class ST(K:ak)(n:Nat)(t:TT)(f:outParam (En->Option (Bool×En))):Prop where
 s:∀{σ hv:List (Option V)} {H:Hp} {U:Addr->Prop} {Z ρ':En} {af:List V} {ab:List D} {b:Bool} {Q:Bool->Hp->Prop},aB K n H U σ hv Z af ab->f Z=some (b,ρ')->
  (∀H' U',aB K n H' U' σ hv ρ' af ab->bF U H U' H'->Q b H')->t σ H Q
def cS(K:ak)(H:Hp)(N:Addr->Prop)(vs:List V)(ds:List D):Prop:=vs.length=ds.length/\∀(i:Nat) (v:V) (d:D),vs[i]?=some v->ds[i]?=some d->Vw K H N v d
class SA(K:ak)(n:Nat)(t:TA)(f:outParam (En->Option (List D))):Prop where
 s:∀{σ hv:List (Option V)} {H:Hp} {U:Addr->Prop} {Z:En} {af:List V} {ab:List D} {ds:List D} {Q:List V->Hp->Prop},aB K n H U σ hv Z af ab->f Z=some ds->(∀vs H',aQ H H'->cS K H' T1 vs ds->Q vs H')->t σ H Q
class r9(K:ak)(n:Nat)(t:TA)(f:outParam (En->Option (List D×En))):Prop where
 s:∀{σ hv:List (Option V)} {H:Hp} {U:Addr->Prop} {Z ρ':En} {af:List V} {ab:List D} {ds:List D} {Q:List V->Hp->Prop},aB K n H U σ hv Z af ab->f Z=some (ds,ρ')->
  (∀vs H' U',vs.length=ds.length->aB K n H' U' σ hv ρ' (af++vs) (ab++ds)->bF U H U' H'->Q vs H')->t σ H Q
class SS(K:ak)(n:Nat)(t:TS)(f:outParam (En->Option Fl)):Prop where
 s:∀{σ hv:List (Option V)} {H:Hp} {U:Addr->Prop} {Z:En} {af:List V} {ab:List D} {fl:Fl} {E:jJ},aB K n H U σ hv Z af ab->f Z=some fl->pk K n H U hv af ab E fl->t E σ H
section
theorem aB.same(h:aB K n H U σ hv Z af ab)(s:aQ H H'):aB K n H' U σ hv Z af ab:=⟨h.ok.same s,h.len,h.nn⟩
theorem aB.push(h:aB K n H U σ hv Z af ab)(s:aQ H H')(o:dF K H H' v d):∃U',aB K n H' U' σ hv Z (af++ [v]) (ab++ [d])/\bF U H U' H':=by
 obtain⟨U',k,st⟩:=h.ok.push s (by have:=h.len;simp;lia) o;refine⟨U',⟨?_,h.len,h.nn⟩,st⟩;rw[cf,cf, <- cZ, <- cZ];exact k
theorem aB.drop(h:aB K n H U σ hv Z (af++vs) (ab++ds))(hl:vs.length=ds.length):aB K n H U σ hv Z af ab:=by
 refine⟨?_,h.len,h.nn⟩;have k:=h.ok;have e:=k.len;have l:=h.len;rw[cf,cf, <- cZ, <- cZ]at k;refine k.drop ?_ (by simp;lia);simp at e |-
 lia
theorem aB.uq(h:aB K n H U σ hv Z (af++ [v]) (ab++ [d])):aB K n H U σ hv Z af ab:=h.drop (vs:= [v]) (ds:= [d]) rfl
theorem aB.tl(h:aB K n H U σ hv Z af ab):af.length=ab.length:=by
 have e:=h.ok.len;have l:=h.len;simp at e
 lia
theorem aB.last(h:aB K n H U σ hv Z (af++ [v]) (ab++ [d])):Vw K H T1 v d:=by
 have tl:=h.tl;have l:=h.len;obtain⟨_,mu,Fs,dj,sub,sl⟩:=h.ok;obtain⟨v',ev,sv⟩:=sl (Z.length + ab.length) (.own d) (by simp);have:v'=v:=by
  have e2:(σ++hv++(af++ [v]).map some)[Z.length + ab.length]?=some (some v):=by
   rw[bL (by simp;lia)];simp at tl |-;rw[show Z.length + ab.length - (σ.length + hv.length)=af.length by lia];simp
  rw[e2]at ev;cases ev;rfl
 subst this;exact bb.vw sv
end
class jV(i n:Nat):Prop where
 h:i < n
instance:jV 0 (n + 1):=⟨Ge n⟩
instance [h:jV i n]:jV (i + 1) (n + 1):=⟨NO h.h⟩
section
instance (priority:=100) ZG{t:TE}{f:En->Option D}[S:SF K n t f]:SV K n t f:=⟨λI h k=>S.s I h λv H' s o=>k v H' s o.vw⟩
instance (priority:=200) RM{t:TE}{f:En->Option D}[S:SF K n t f]:SM K n t (λZ=>(f Z).map λd=>(d,Z)):=⟨λ{σ hv H U Z ρ' af ab d Q} I h k=>by
 obtain⟨d',h1,h2⟩:=aX.mp h;cases h2;refine S.s I h1 λv H' s o=> ?_;obtain⟨U',I',st⟩:=I.push s o;exact k v H' U' I' st⟩
def gu(f:En->Option D)(Z:En):Option (D×En):=(f Z).bind λd=>if plain d=true then some (d,Z) else none
instance (priority:=90) ZH{t:TE}{f:En->Option D}[S:SV K n t f]:SM K n t (gu f):=⟨λ{σ hv H U Z ρ' af ab d Q} I h k=>by
 obtain⟨d',h1,h2⟩:=aj.mp h;by_cases p:plain d'=true
 ·rw[if_pos p]at h2;cases h2;refine S.s I h1 λv H' s w=> ?_;obtain⟨U',I',st⟩:=I.push s (dF.plain w p);exact k v H' U' I' st
 ·rw[if_neg p]at h2;cases h2⟩
instance (priority:=100) ZI{t:TT}{f:En->Option Bool}[S:ko K n t f]:ST K n t (λZ=>(f Z).map λb=>(b,Z)):=⟨λ{σ hv H U Z ρ' af ab b Q} I h k=>by
 obtain⟨b',h1,h2⟩:=aX.mp h;cases h2;refine S.s I h1 λH' s=>k H' U (I.same s) λb o q nu=>⟨s b o q,nu⟩⟩
def bD(Z:En):Option B->Option D
 |some (.own d)=>some d
 |some (.ro d)=>some d
 |some (.aT r p)=>(aP Z r).bind (aJ · p)
 |none=>none
def ae(i:Nat)(Z:En):Option D:=(Z[i]?).bind (bD Z)
theorem aB.slot{i:Nat}{β:B}(I:aB K n H U σ hv Z af ab)(h:Z[i]?=some (some β)):∃v F,(σ++hv)[i]?=some (some v)/\(∀b,F b->U b)/\lT K H U F Z.length (σ++hv) v β:=by
 have l:=I.len;have hi:i < Z.length:=(cb.mp h).1;obtain⟨_,mu,Fs,dj,sub,sl⟩:=I.ok;obtain⟨v,ev,sv⟩:=sl i β (by rw[aV hi];exact h);rw[aV (by simp;lia)]at ev;exact⟨v,Fs i,ev,sub i,lT.slots sv λr hr=>(aV (by simp;lia)).symm⟩
theorem aB.name(I:aB K n H U σ hv Z af ab)(hi:i < n):(σ++hv)[i]?=σ[i]?:=aV (by rw[I.nn];exact hi)
theorem aB.wB{r:Nat}(I:aB K n H U σ hv Z af ab)(h:aP Z r=some d):∃v F,(σ++hv)[r]?=some (some v)/\(∀b,F b->U b)/\bb K H F v d:=by
 obtain⟨v,F,a,b,c⟩:=I.slot (kE h);exact⟨v,F,a,b,c⟩
def fB(Z:En):Pl->Option D
 |.rt r p=>(aP Z r).bind (aJ · p)
 |.ro d=>some d
theorem aB.at(I:aB K n H U σ hv Z af ab)(h:fw K H U (σ++hv) Z v q)(hd:fB Z q=some d):Vw K H T1 v d:=by
 cases q with
 |ro d'=>cases hd;exact h.any
 |rt r p=>
  obtain⟨_,vr,d0,er,hr,_,hp⟩:=h;have hd:(aP Z r).bind (aJ · p)=some d:=hd;rw[hr]at hd;obtain⟨v',F,ev,_,rp⟩:=I.wB hr;rw[er]at ev;cases ev;exact rp.sub hd hp λ_ _=>trivial
instance RN{i:Nat}[L:jV i n]:SV K n (iX i) (ae i):=⟨λ{σ hv H U Z af ab d Q} I h k=>by
 obtain⟨o,h1,h2⟩:=aj.mp h;cases o with
 |none=>cases h2
 |some β=>
  obtain⟨v,F,ev,sub,sv⟩:=I.slot h1;rw[I.name L.h]at ev;refine⟨v,ev,k v H (aQ.refl H) ?_⟩;cases β with
  |own d'=>cases h2;exact bb.vw sv
  |ro d'=>cases h2;exact Vw.any sv
  |aT r p=>
   obtain⟨d0,hr,g⟩:=aj.mp h2;obtain⟨_,vr,er,hp⟩:=sv;obtain⟨v',F',jT,_,rp⟩:=I.wB hr;rw[er]at jT;cases jT;exact rp.sub g hp λ_ _=>trivial⟩
def aC(i:Nat)(Z:En):Option Pl:=match Z[i]? with
 |some (some (.own _))=>some (.rt i [])
 |some (some (.ro d))=>some (.ro d)
 |some (some (.aT r p))=>if((aP Z r).bind (aJ · p)).isSome=true then some (.rt r p) else none
 |_=>none
instance ZJ{i:Nat}[L:jV i n]:SP K n (iX i) (aC i):=⟨λ{σ hv H U Z af ab q Q} I h k=>by
 unfold aC at h
 split at h
 ·next d e1=>
  cases h;obtain⟨v,F,ev,sub,sv⟩:=I.slot e1;have jT:=ev;rw[I.name L.h]at ev;have hr:aP Z i=some d:=by unfold aP;rw[e1]
  exact⟨v,ev,k v H (aQ.refl H) ⟨(cb.mp e1).1,v,d,jT,hr,rfl, .nil v⟩⟩
 ·next d e1=>
  cases h;obtain⟨v,F,ev,sub,sv⟩:=I.slot e1;rw[I.name L.h]at ev;exact⟨v,ev,k v H (aQ.refl H) sv⟩
 ·next r p e1=>
  by_cases c:((aP Z r).bind (aJ · p)).isSome=true
  ·rw[if_pos c]at h;cases h;obtain⟨v,F,ev,sub,sv⟩:=I.slot e1;rw[I.name L.h]at ev;obtain⟨hr,vr,er,hp⟩:=sv;cases hd:aP Z r with
   |none=>rw[hd]at c;cases c
   |some d0=>
    rw[hd]at c;exact⟨v,ev,k v H (aQ.refl H) ⟨hr,vr,d0,er,hd,c,hp⟩⟩
  ·rw[if_neg c]at h;cases h
 ·cases h⟩
instance ZK{v:V}:SF K n (tC v) (λ_=>some (.sc v)):=⟨λI h k=>by cases h;exact k v _ (aQ.refl _) (.sc v)⟩
class lr(K:ak)(r:R2)(g:outParam (D->D->Option D)):Prop where
 s:∀{H:Hp} {x y:V} {dx dy d:D} {Q:VK},Vw K H T1 x dx->Vw K H T1 y dy->g dx dy=some d->(∀v H',aQ H H'->dF K H H' v d->Q v H')->r x y H Q
noncomputable def ag (g:D->D->Option D) (fa fb:En->Option D) (Z:En):Option D:=(fa Z).bind λa=>(fb Z).bind λb=>g a b
instance ZL[A:SV K n ta fa][B':SV K n tb fb][O:lr K r g]:SF K n (jL r ta tb) (ag g fa fb):=⟨λ{σ hv H U Z af ab d Q} I h k=>by
 obtain⟨a,ha,h⟩:=aj.mp h;obtain⟨b,hb,h⟩:=aj.mp h;refine A.s I ha λx H1 s1 w1=> ?_;refine B'.s (I.same s1) hb λy H2 s2 w2=> ?_;exact O.s (w1.same s2) w2 h λv H3 s3 o=>k v H3 (s1.trans (s2.trans s3)) (o.early (s1.trans s2))⟩
noncomputable def i9 (g:D->D->Option D) (fa fb:En->Option (D×En)) (Z:En):Option (D×En):=(fa Z).bind λa=>(fb a.2).bind λb=>(g a.1 b.1).map λd=>(d,b.2)
theorem aB.two(I:aB K n H U σ hv Z (af++ [v1]++ [v2]) (ab++ [d1]++ [d2])):Vw K H T1 v1 d1/\Vw K H T1 v2 d2:=⟨I.uq.last,I.last⟩
instance (priority:=80) RO{r:R2}{ta tb:TE}{fa fb:En->Option (D×En)}{g:D->D->Option D}[A:SM K n ta fa][B':SM K n tb fb][O:lr K r g]:SM K n (jL r ta tb) (i9 g fa fb):=⟨λ{σ hv H U Z ρ' af ab d Q} I h k=>by
 obtain⟨⟨a,ρ1⟩,ha,h⟩:=aj.mp h;obtain⟨⟨b,ρ2⟩,hb,h⟩:=aj.mp h;obtain⟨d',hg,h⟩:=aX.mp h;cases h;refine A.s I ha λx H1 U1 I1 cT=> ?_;refine B'.s I1 hb λy H2 U2 I2 d5=> ?_;refine O.s I2.two.1 I2.two.2 hg λv H3 s3 o=> ?_;obtain⟨U3,I3,iZ⟩:=(I2.uq.uq).push s3 o;exact k v H3 U3 I3 (cT.trans (d5.trans iZ))⟩
instance ZM:SA K n gR (λ_=>some []):=⟨λI h k=>by cases h;exact k [] _ (aQ.refl _) ⟨rfl,λi v d hv=>by simp at hv⟩⟩
noncomputable def au (fa:En->Option D) (fr:En->Option (List D)) (Z:En):Option (List D):=(fa Z).bind λa=>(fr Z).map (a:: ·)
theorem cS.cons(h:Vw K H N v d)(t:cS K H N vs ds):cS K H N (v::vs) (d::ds):=⟨by rw[eU,eU,t.1],λi x y hx hy=>by
 cases i with
 |zero=>cases hx;cases hy;exact h
 |succ i=>exact t.2 i x y (by simpa using hx) (by simpa using hy)⟩
instance ZN[A:SV K n ta fa][R:SA K n tr fr]:SA K n (gq ta tr) (au fa fr):=⟨λ{σ hv H U Z af ab ds Q} I h k=>by
 obtain⟨a,ha,h⟩:=aj.mp h;obtain⟨r,hr,h⟩:=aX.mp h;cases h;refine A.s I ha λx H1 s1 w1=> ?_;exact R.s (I.same s1) hr λxs H2 s2 w2=>k (x::xs) H2 (s1.trans s2) (.cons (w1.same s2) w2)⟩
instance ZO:r9 K n gR (λZ=>some ([],Z)):=⟨λ{σ hv H U Z ρ' af ab ds Q} I h k=>by cases h;exact k [] H U rfl (by rw[fO,fO];exact I) (bF.refl U H)⟩
noncomputable def bU (fa:En->Option (D×En)) (fr:En->Option (List D×En)) (Z:En):Option (List D×En):=(fa Z).bind λa=>(fr a.2).map λr=>(a.1::r.1,r.2)
instance ZP[A:SM K n ta fa][R:r9 K n tr fr]:r9 K n (gq ta tr) (bU fa fr):=⟨λ{σ hv H U Z ρ' af ab ds Q} I h k=>by
 obtain⟨⟨a,ρ1⟩,ha,h⟩:=aj.mp h;obtain⟨⟨r,ρ2⟩,hr,h⟩:=aX.mp h;cases h;refine A.s I ha λx H1 U1 I1 cT=> ?_;refine R.s I1 hr λxs H2 U2 hl I2 d5=> ?_;refine k (x::xs) H2 U2 (by rw[eU,eU,hl]) ?_ (cT.trans d5);rw[p8,p8 ab];exact I2⟩
theorem lU{α β:Type}{vs:List α}{ds:List β}{i:Nat}{d:β}(h:vs.length=ds.length)(hd:ds[i]?=some d):∃v,vs[i]?=some v:=⟨_,gP (by rw[h];exact(cb.mp hd).1)⟩
theorem aB.gather{k:Kd}{o:HO}(I:aB K n H U σ hv Z (af++vs) (ab++ds))(hl:vs.length=ds.length)(hp:H p=none)
  (hold:(cV k=true/\k= .tup/\o= .tup vs)\/(cV k=false/\fits K k vs.length/\∃dx,o=ho k dx vs)):
  ∃U',aB K n (upd H p o) U' σ hv Z (af++ [.ref p]) (ab++ [.nd k ds])/\bF U H U' (upd H p o):=by
 have l:=I.len;have s:aQ H (upd H p o):=λb u q=>by rw[bE (gQ q hp)];exact q
 have tl:=I.tl;obtain⟨he,mu,Fs,dj,sub,sl⟩:=I.ok.same s;have np:∀i,¬ Fs i p:=λi z=>by
  obtain⟨u,w⟩:=pj (I.ok.mu p (sub i p z));rw[hp]at w;cases w
 have base:(σ++hv++af.map some).length=Z.length + ab.length:=by simp at tl |-;lia
 have RP:cV k=false->gY (upd H p o p):=λhk=>by
  rcases hold with⟨z,_⟩ | ⟨_,z,dx,w⟩
  ·rw[hk]at z;cases z
  ·rw[gb,w];have:pf K (upd H p o) p k vs:=⟨hk,z,dx,by rw[gb,w]⟩
   have:=this.mu;rw[gb,w]at this;exact this
 refine⟨λb=>U b\/(cV k=false/\b=p),⟨⟨by simp at tl |-;lia,λb z=> ?_,λi b=>if i=Z.length + ab.length then(∃j,Z.length + ab.length<=j/\Fs j b)\/(cV k=false/\b=p) else Fs i b/\i < Z.length + ab.length,λi j b hi hj=> ?_,λi b hb=> ?_,λi β aL=> ?_⟩,l,I.nn⟩,λb u q nu=>⟨s b u q,λz=>z.elim nu λ⟨_,z⟩=>by rw[z,hp]at q;cases q⟩⟩
 ·rcases z with z | ⟨z,w⟩
  ·exact mu b z
  ·rw[w];exact RP z
 ·have hi:if i=Z.length + ab.length then(∃j,Z.length + ab.length<=j/\Fs j b)\/(cV k=false/\b=p) else Fs i b/\i < Z.length + ab.length:=hi;have hj:if j=Z.length + ab.length then(∃j,Z.length + ab.length<=j/\Fs j b)\/(cV k=false/\b=p) else Fs j b/\j < Z.length + ab.length:=hj;by_cases ci:i=Z.length + ab.length
  ·rw[if_pos ci]at hi;by_cases cj:j=Z.length + ab.length
   ·lia
   ·rw[if_neg cj]at hj;rcases hi with⟨x,hx,hi⟩ | ⟨_,hi⟩
    ·have:=dj _ _ b hi hj.1;lia
    ·rw[hi]at hj;exact absurd hj.1 (np j)
  ·rw[if_neg ci]at hi;by_cases cj:j=Z.length + ab.length
   ·rw[if_pos cj]at hj;rcases hj with⟨x,hx,hj⟩ | ⟨_,hj⟩
    ·have:=dj _ _ b hi.1 hj;lia
    ·rw[hj]at hi;exact absurd hi.1 (np i)
   ·rw[if_neg cj]at hj;exact dj _ _ b hi.1 hj.1
 ·have hb:if i=Z.length + ab.length then(∃j,Z.length + ab.length<=j/\Fs j b)\/(cV k=false/\b=p) else Fs i b/\i < Z.length + ab.length:=hb;by_cases ci:i=Z.length + ab.length
  ·rw[if_pos ci]at hb;rcases hb with⟨x,_,hb⟩ | hb
   ·exact .inl (sub x b hb)
   ·exact .inr hb
  ·rw[if_neg ci]at hb;exact .inl (sub i b hb.1)
 ·have rZ:((Z++ab.map λd=>some (B.own d))++ [some (.own (.nd k ds))])[i]?=some (some β):=by
   rw[cf, <- cZ]at aL;exact aL
  have CW:(σ++hv++af.map some).length=(Z++ab.map λd=>some (B.own d)).length:=by rw[base];simp
  have IW:∀{i:Nat} (hi:i < (σ++hv++af.map some).length) {x:V},(σ++hv++(af++ [x]).map some)[i]?=(σ++hv++af.map some)[i]?:=λ{i} hi {x}=>by
   rw[cf, <- cZ,aV hi]
  have CY:∀{i:Nat} (hi:i < (σ++hv++af.map some).length),(σ++hv++(af++vs).map some)[i]?=(σ++hv++af.map some)[i]?:=λ{i} hi=>by
   rw[cf, <- cZ,aV hi]
  rcases slot_of CW rZ with⟨hi,q⟩ | ⟨hi,q⟩
  ·obtain⟨v',ev,sv⟩:=sl i β (by rw[cf, <- cZ,aV (by rw[<- CW];exact hi)];exact q);rw[CY hi]at ev;refine⟨v',by rw[IW hi];exact ev, ?_⟩;have ni:¬ i=Z.length + ab.length:=by lia
   have sv:=lT.slots sv (e':=σ++hv++(af++ [V.ref p]).map some) λr hr=>by rw[IW (by lia),CY (by lia)]
   cases β with
   |own dd=>
    show bb K (upd H p o) (λb=>if i=Z.length + ab.length then _ else Fs i b/\i < Z.length + ab.length) v' dd;simp only[if_neg ni];exact bb.mono sv λb z=>⟨z,by lia⟩
   |ro dd=>
    obtain⟨v2,d7,r6⟩:=I.ok.ex.choose_spec.2.2 i _ (by rw[cf, <- cZ,aV (by rw[<- CW];exact hi)];exact q);rw[CY hi,ev]at d7;cases d7;have r6:Vw K H (λb=>¬ U b) v' dd:=r6;exact r6.over (λb o nb q=>⟨s b o q,λz=>z.elim nb λ⟨_,z⟩=>by rw[z,hp]at q;cases q⟩) (fJ.of s)
   |aT _ _=>exact sv
  ·have e0:i - (σ++hv++af.map some).length=0:=by
    have:=(cb.mp q).1;simp at this |-;lia
   rw[e0]at q;cases q;have ei:i=Z.length + ab.length:=by lia
   subst ei;refine⟨.ref p,by rw[cf, <- cZ,bL (by lia),base,nr];rfl, ?_⟩;have bQ:∀(j:Nat) (v:V) (d:D),vs[j]?=some v->ds[j]?=some d->bb K (upd H p o) (Fs (Z.length + ab.length + j)) v d:=λj v d hv hd=>by
    obtain⟨v',ev,sv⟩:=sl (Z.length + ab.length + j) (.own d) (by
     rw[cf, <- cZ,bL (by simp),du];simp[hd])
    have:v'=v:=by
     rw[cf, <- cZ,bL (by lia),base]at ev;simp[hv]at ev;exact ev.symm
    subst this;exact sv
   show bb K (upd H p o) (λb=>if Z.length + ab.length=Z.length + ab.length then(∃j,Z.length + ab.length<=j/\Fs j b)\/(cV k=false/\b=p) else _) (.ref p) (.nd k ds);simp only[if_pos rfl];refine .nd (λj=>Fs (Z.length + ab.length + j)) ?_ hl (λi j b hi hj=>by have:=dj _ _ b hi hj;lia) (λj b hb=>⟨.inl ⟨_,by lia,hb⟩,λ_ z=>by rw[z]at hb;exact np _ hb⟩) bQ;rcases hold with⟨_,h1,h2⟩ | ⟨h1,h2,dx,h3⟩
   ·subst h1;show upd H p o p=some (.tup vs);rw[gb,h2]
   ·exact i8.put h1 (.inr ⟨h1,rfl⟩) ⟨h1,h2,dx,by rw[gb,h3]⟩
noncomputable def fQ (f:En->Option (List D×En)) (Z:En):Option (D×En):=(f Z).bind λr=>if r.1.length<=aN then some (.nd .tup r.1,r.2) else none
noncomputable def eQ (f:En->Option (List D×En)) (Z:En):Option (D×En):=(f Z).bind λr=>if r.1.length<=aN then some (.nd .lst r.1,r.2) else none
instance (priority:=300) ZQ{ta:TA}{fa:En->Option (List D×En)}[A:r9 K n ta fa]:SM K n (tU ta) (fQ fa):=⟨λ{σ hv H U Z ρ' af ab d Q} I h k=>by
 obtain⟨⟨a,ρ1⟩,ha,h⟩:=aj.mp h;by_cases c:a.length<=aN
 ·rw[if_pos c]at h;cases h;refine A.s I ha λxs H1 U1 hl I1 cT=>⟨by rw[hl];exact c,λp hp=> ?_⟩
  obtain⟨U2,I2,d5⟩:=I1.gather (k:= .tup) (o:= .tup xs) hl hp (.inl ⟨rfl,rfl,rfl⟩);exact k _ _ U2 I2 (cT.trans d5)
 ·rw[if_neg c]at h;cases h⟩
instance (priority:=300) ZR{ta:TA}{fa:En->Option (List D×En)}[A:r9 K n ta fa]:SM K n (rJ ta) (eQ fa):=⟨λ{σ hv H U Z ρ' af ab d Q} I h k=>by
 obtain⟨⟨a,ρ1⟩,ha,h⟩:=aj.mp h;by_cases c:a.length<=aN
 ·rw[if_pos c]at h;cases h;refine A.s I ha λxs H1 U1 hl I1 cT=>⟨by rw[hl];exact c,λp hp=> ?_⟩
  obtain⟨U2,I2,d5⟩:=I1.gather (k:= .lst) (o:= .lst xs) hl hp (.inr ⟨rfl,trivial,0,rfl⟩);exact k _ _ U2 I2 (cT.trans d5)
 ·rw[if_neg c]at h;cases h⟩
variable {Z ρ' ρ2:En}{v:V}{d:D}
noncomputable def cJ (ds:List D):En:=ds.map λd=>some (.own d)
theorem RQ(ds:List D):IT (cJ ds):=λb hb=>by
 obtain⟨d,_,rfl⟩:=jK.mp hb;exact .inr ⟨d,rfl⟩
theorem ur(ds:List D):wy (cJ ds):=λb hb r p=>by
 obtain⟨d,_,rfl⟩:=jK.mp hb;exact λz=>nomatch z
theorem cz.weaken(h:cz K H U m e ρ2)(hl:Z.length=ρ2.length)(w:∀(i:Nat) (β:B),Z[i]?=some (some β)->ρ2[i]?=some (some β)):cz K H U m e Z:=by
 obtain⟨a,mu,Fs,dj,sub,sl⟩:=h;exact⟨a.trans hl.symm,mu,Fs,dj,sub,λi β aL=>sl i β (w i β aL)⟩
theorem CZ(h:gY (H a)):fJ H (upd H a o):=λb u nm q=>by
 have:b≠a:=λz=>by subst z;rw[q]at h;exact nm h
 rw[bE this];exact q
theorem IX{a:Addr}(hk:cV k=false):gY (some (ho k dx vs)):=by
 cases k with
 |tup=>cases hk
 |aA=>cases hk
 |lst=>trivial
 |cy ks=>trivial
 |dk ks=>trivial
 |obj C ns=>trivial
theorem cz.edit(h:cz K H U 0 (xs.map some++ [some v]) (cJ ds++ [some (.own (.nd k cs))]))(hl:xs.length=ds.length)(hk:cV k=false):
  ∃(a dx:Addr) (vs:List V),v= .ref a/\H a=some (ho k dx vs)/\fits K k vs.length/\vs.length=cs.length/\cS K H T1 vs cs/\∀(k':Kd) (dr:List V) (fR:List D) (π:Nat->Nat),cV k'=false->fits K k' dr.length->dr.length=fR.length->
   (∀i j,i < dr.length->j < dr.length->π i=π j->i=j)->(∀(i:Nat) (x:V),dr[i]?=some x->(vs++xs)[π i]?=some x)->(∀(i:Nat) (y:D),fR[i]?=some y->(cs++ds)[π i]?=some y)->
   cz K (upd H a (ho k' dx dr)) U 0 [some v] [some (.own (.nd k' fR))]/\bF U H U (upd H a (ho k' dx dr)):=by
 obtain⟨dM,mu,Fs,dj,sub,sl⟩:=h;have lo:(cJ ds).length=xs.length:=by unfold cJ;rw[eG,hl]
 obtain⟨v',ev,sv⟩:=sl xs.length (.own (.nd k cs)) (by rw[bL (by lia),lo,nr];rfl);rw[bL (by simp)]at ev;have:v'=v:=by simp at ev;exact ev.symm
 subst this;have sv:bb K H (Fs xs.length) v' (.nd k cs):=sv;obtain⟨a,vs,rfl,h1,h2,Gs,g3,g4,g5⟩:=sv.node;obtain⟨Fa,_,hf,dx,ha⟩:=h1.own hk;have RS:∀i,¬ Gs i a:=λi z=>(g4 i a z).2 hk rfl;refine⟨a,dx,vs,rfl,ha,hf,h2,⟨h2,λi v d hv hd=>(g5 i v d hv hd).vw⟩,λk' dr fR π wC C0 pz inj i3 oR=> ?_⟩;have RT:gY (H a):=mu a (sub _ a Fa);have st:fJ H (upd H a (ho k' dx dr)):=CZ RT;have keep:∀b u,b≠a->H b=some u->upd H a (ho k' dx dr) b=some u:=λb u ne q=>by rw[bE ne];exact q
 -- mH ZS of vM comes from place j
 let Fp:Nat->Addr->Prop:=λj=>if j < cs.length then Gs j else λb=>Fs (j - cs.length) b/\j - cs.length < xs.length
 have IY:∀j,j < cs.length->Fp j=Gs j:=λj hj=>if_pos hj;have IZ:∀j,¬ j < cs.length->Fp j=λb=>Fs (j - cs.length) b/\j - cs.length < xs.length:=λj hj=>if_neg hj;have zi:∀j b,Fp j b->(j < cs.length/\Gs j b)\/(¬ j < cs.length/\Fs (j - cs.length) b/\j - cs.length < xs.length):=λj b hb=>by
  by_cases c:j < cs.length
  ·rw[IY j c]at hb;exact .inl ⟨c,hb⟩
  ·rw[IZ j c]at hb;exact .inr ⟨c,hb.1,hb.2⟩
 have RU:∀j b,Fp j b->U b:=λj b hb=>by
  rcases zi j b hb with⟨_,z⟩ | ⟨_,z,_⟩
  ·exact sub _ b (g4 j b z).1
  ·exact sub _ b z
 have I0:∀j,¬ Fp j a:=λj z=>by
  rcases zi j a z with⟨_,z⟩ | ⟨_,z,w⟩
  ·exact RS j z
  ·have:=dj _ _ a z Fa;lia
 have RV:∀i j b,Fp i b->Fp j b->i=j:=λi j b hi hj=>by
  rcases zi i b hi with⟨c1,z1⟩ | ⟨c1,z1,w1⟩ <;> rcases zi j b hj with⟨c2,z2⟩ | ⟨c2,z2,w2⟩
  ·exact g3 i j b z1 z2
  ·have:=dj _ _ b (g4 i b z1).1 z2;lia
  ·have:=dj _ _ b (g4 j b z2).1 z1;lia
  ·have:=dj _ _ b z1 z2;lia
 have RW:∀(j:Nat) (x:V) (y:D),(vs++xs)[j]?=some x->(cs++ds)[j]?=some y->bb K H (Fp j) x y:=λj x y hx hy=>by
  by_cases c:j < cs.length
  ·rw[IY j c];rw[aV (by lia)]at hx;rw[aV c]at hy;exact g5 j x y hx hy
  ·rw[IZ j c];rw[bL (by lia)]at hx;rw[bL (by lia)]at hy;rw[h2]at hx;have C1:j - cs.length < xs.length:=(cb.mp hx).1;obtain⟨x',ex,sx⟩:=sl (j - cs.length) (.own y) (by rw[aV (by rw[lo];exact C1)];unfold cJ;rw[du,hy];rfl);have:x'=x:=by
    rw[aV (by simp;exact C1),du,hx]at ex;cases ex;rfl
   subst this;exact bb.mono sx λb z=>⟨z,C1⟩
 refine⟨⟨rfl,λb ub=> ?_,λi b=>i=0/\(b=a\/∃j,j < dr.length/\Fp (π j) b),λi j b hi hj=>by rw[hi.1,hj.1],λi b hb=> ?_,λi β aL=> ?_⟩,λb u q nu=> ?_⟩
 ·by_cases c:b=a
  ·subst c;rw[gb];exact IX (a:=b) wC
  ·rw[bE c];exact mu b ub
 ·rcases hb.2 with z | ⟨j,_,z⟩
  ·subst z;exact sub _ b Fa
  ·exact RU _ b z
 ·cases i with
  |succ i=>simp at aL
  |zero=>
   cases aL;refine⟨.ref a,rfl, ?_⟩;refine .nd (λi b=>i < dr.length/\Fp (π i) b) (i8.put wC ⟨rfl, .inl rfl⟩ ⟨wC,C0,dx,gb⟩) pz (λi j b hi hj=>inj i j hi.1 hj.1 (RV _ _ b hi.2 hj.2)) (λi b hb=>⟨⟨rfl, .inr ⟨i,hb.1,hb.2⟩⟩,λ_ z=>by subst z;exact I0 _ hb.2⟩) λi x y hx hy=> ?_;have hi:i < dr.length:=(cb.mp hx).1;have r:=RW (π i) x y (i3 i x hx) (oR i y hy);refine(r.frame (H':=upd H a (ho k' dx dr)) (λb u hb q=>keep b u (λz=>by subst z;exact I0 _ hb) q) st).mono λb z=>⟨hi,z⟩
 ·have:b≠a:=λz=>by subst z;exact nu (sub _ b Fa)
  exact⟨keep b u this q,nu⟩
theorem C2:∀{p q:List Nat} {d d1 x y:D},aJ d p=some d1->plain x=false->plain y=false->(∀n r,aJ x (n::r)=none)->(∀n r,aJ y (n::r)=none)->(aJ (bf d p x) q).isSome=(aJ (bf d p y) q).isSome
 | [], [],d,d1,x,y,g,hx,hy,zx,zy=>by rw[bf,bf,aJ,aJ];rfl
 | [],n::r,d,d1,x,y,g,hx,hy,zx,zy=>by rw[bf,bf,zx,zy]
 |n::p,q, .sc _,d1,x,y,g,hx,hy,zx,zy=>by rw[aJ]at g;cases g
 |n::p,q, .hl _,d1,x,y,g,hx,hy,zx,zy=>by rw[aJ]at g;cases g
 |n::p,q, .nd k cs,d1,x,y,g,hx,hy,zx,zy=>by
  rw[aJ]at g;by_cases cH:cV k=true/\bq cs=true
  ·rw[if_pos cH]at g;cases g
  rw[if_neg cH]at g;cases hc:cs[n]? with
  |none=>rw[hc]at g;cases g
  |some c=>
   rw[hc]at g;have hn:=(cb.mp hc).1;have e1:bf (.nd k cs) (n::p) x= .nd k (cs.set n (bf c p x)):=by rw[bf,hc]
   have e2:bf (.nd k cs) (n::p) y= .nd k (cs.set n (bf c p y)):=by rw[bf,hc]
   rw[e1,e2];cases q with
   |nil=>rw[aJ,aJ];rfl
   |cons i q=>
    have px:=um hn (uo g hx);have py:=um hn (uo g hy);rw[aJ,aJ,if_neg (by rintro⟨_,z⟩;rw[px]at z;cases z),if_neg (by rintro⟨_,z⟩;rw[py]at z;cases z)];by_cases ci:n=i
    ·subst ci;rw[eN hn,eN hn];exact C2 g hx hy zx zy
    ·rw[fF ci,fF ci]
def gE(Z:En)(r:Nat)(d0:D)(p:List Nat)(d':D):En:=(gA (Z.set r (some (.own (bf d0 p (.hl .az)))))).set r (some (.own (bf d0 p d')))
theorem qu(Z:En)(r:Nat)(d0:D)(p:List Nat)(d':D):(gE Z r d0 p d').length=Z.length:=by unfold gE;rw[bI,ic,bI]
theorem nR(h:r≠s):aP (Z.set r b) s=aP Z s:=by
 unfold aP;rw[fF h]
theorem wF(h:r < Z.length):aP (Z.set r (some (.own d))) r=some d:=by
 unfold aP;rw[eN h]
theorem I8{i:Nat}{d:D}(h:Z[i]?=some (some (.own d))):(gA Z)[i]?=some (some (.own d)):=by
 unfold gA;rw[du,h];rfl
theorem RX{d:D}(h:aP Z r=some d):aP (Z++τ) r=some d:=by
 have q:=kE h;have hr:r < Z.length:=(cb.mp q).1;unfold aP;rw[aV hr,q]
theorem I9(uj:wy τ):∀(i:Nat) (β:B),(gA Z++τ)[i]?=some (some β)->(gA (Z++τ))[i]?=some (some β):=λi β h=>by
 unfold gA at h |-;rw[cf];by_cases hi:i < Z.length
 ·rw[aV (by rw[eG];exact hi)]at h;rw[aV (by rw[eG];exact hi)];rw[du]at h |-;cases q:Z[i]? with
  |none=>rw[q]at h;cases h
  |some o=>
   rw[q]at h;have h:jv Z o=some β:=jQ h;show some (jv (Z++τ) o)=_;cases o with
   |none=>exact congrArg some h
   |some c=>
    cases c with
    |own d=>exact congrArg some h
    |ro d=>exact congrArg some h
    |aT r p=>
     have h:(if p= []\/((aP Z r).bind (aJ · p)).isSome=true then some (B.aT r p) else none)=some β:=h;show some (if p= []\/((aP (Z++τ) r).bind (aJ · p)).isSome=true then some (B.aT r p) else none)=_;by_cases c:p= []\/((aP Z r).bind (aJ · p)).isSome=true
     ·rw[if_pos c]at h;have c':p= []\/((aP (Z++τ) r).bind (aJ · p)).isSome=true:=by
       rcases c with c | c
       ·exact .inl c
       ·cases hd:aP Z r with
        |none=>rw[hd]at c;cases c
        |some d=>rw[RX hd];rw[hd]at c;exact .inr c
      rw[if_pos c',h]
     ·rw[if_neg c]at h;cases h
 ·rw[bL (by rw[eG];lia)]at h |-;rw[eG]at h |-;rw[du,h];cases β with
  |own d=>rfl
  |ro d=>rfl
  |aT r p=>exact absurd rfl (uj _ (jR h) r p)
theorem RY{v:V}(hr:r < Z.length)(g:aJ d0 p=some d1):∀(i:Nat) (β:B),i≠r->(gA (Z.set r (some (.own (bf d0 p (.hl .az))))))[i]?=some (some β)->(gA (Z.set r (some (.own (bf d0 p (.hl v))))))[i]?=some (some β):=λi β ni h=>by
 unfold gA at h |-;rw[du,fF (dS ni)]at h |-;cases q:Z[i]? with
 |none=>rw[q]at h;cases h
 |some o=>
  rw[q]at h;have h:=jQ h;show some (jv _ o)=_;cases o with
  |none=>exact congrArg some h
  |some c=>
   cases c with
   |own d=>exact congrArg some h
   |ro d=>exact congrArg some h
   |aT s p'=>
    have h:(if p'= []\/((aP (Z.set r (some (.own (bf d0 p (.hl .az))))) s).bind (aJ · p')).isSome=true then some (B.aT s p') else none)=some β:=h;show some (if p'= []\/((aP (Z.set r (some (.own (bf d0 p (.hl v))))) s).bind (aJ · p')).isSome=true then some (B.aT s p') else none)=_;by_cases cs:r=s
    ·subst cs;rw[wF hr]at h |-;have e:((some (bf d0 p (.hl v))).bind (aJ · p')).isSome=((some (bf d0 p (.hl .az))).bind (aJ · p')).isSome:=C2 g rfl rfl (λ_ _=>by rw[aJ]) λ_ _=>by rw[aJ]
     rw[e,h]
    ·rw[nR cs]at h |-;rw[h]
theorem aB.edit{r:Nat}{p:List Nat}{d0:D}{k:Kd}{cs:List D}(I:aB K n H U σ hv Z (af++xs) (ab++ds))(hl:xs.length=ds.length)(hp:fw K H U (σ++hv) Z v (.rt r p))(hr:aP Z r=some d0)(hg:aJ d0 p=some (.nd k cs))(hk:cV k=false):
  ∃(a dx:Addr) (vs:List V),v= .ref a/\H a=some (ho k dx vs)/\fits K k vs.length/\vs.length=cs.length/\cS K H T1 vs cs/\∀(k':Kd) (dr:List V) (fR:List D) (π:Nat->Nat),cV k'=false->fits K k' dr.length->dr.length=fR.length->
   (∀i j,i < dr.length->j < dr.length->π i=π j->i=j)->(∀(i:Nat) (x:V),dr[i]?=some x->(vs++xs)[π i]?=some x)->(∀(i:Nat) (y:D),fR[i]?=some y->(cs++ds)[π i]?=some y)->
   ∃U',aB K n (upd H a (ho k' dx dr)) U' σ hv (gE Z r d0 p (.nd k' fR)) af ab/\bF U H U' (upd H a (ho k' dx dr)):=by
 have l:=I.len;have tl:=I.tl;rw[b6,b6]at tl;obtain⟨iu,vr,RZ,er,wG,_,R3⟩:=hp;rw[hr]at wG;cases wG;have uk:=kE hr
 -- all in one row
 have R4:cz K H U Z.length ((σ++hv++af.map some)++xs.map some) ((Z++cJ ab)++cJ ds):=by
  have:=I.ok;rw[cf,cf, <- cZ, <- cZ]at this;exact this
 have lE:(σ++hv++af.map some).length=(Z++cJ ab).length:=by unfold cJ;simp;lia
 have hm:Z.length<=(σ++hv++af.map some).length:=by simp;lia
 have Ja:=R4.take (r:=r) (vr:=vr) (u:=v) (d:=d0) (p:=p) (by rw[b6];lia) (by rw[aV (by rw[b6];lia),aV iu];exact uk)
  (by rw[aV (by lia),aV (by simp;lia)];exact er) R3 hg
 have es:((Z++cJ ab)++cJ ds).set r (some (.own (bf d0 p (.hl v))))++ [some (B.own (.nd k cs))]=(Z.set r (some (.own (bf d0 p (.hl v))))++cJ ab)++(cJ ds++ [some (.own (.nd k cs))]):=by
  rw[p9 _ _ (by rw[b6];lia),p9 _ _ iu];simp
 rw[es,cZ]at Ja;have nA:wy (cJ ds++ [some (B.own (.nd k cs))]):=λb hb q p=>by
  rcases lJ.mp hb with z | z
  ·exact ur ds b z q p
  ·rw[j8.mp z];exact λw=>nomatch w
 have Jb:(σ++hv++af.map some).length=(Z.set r (some (.own (bf d0 p (.hl v))))++cJ ab).length:=by
  rw[lE,b6,b6,bI]
 obtain⟨Ut,_,small,_,back⟩:=Ja.call Jb hm nA;obtain⟨a,dx,vs,ev,ha,hf,R5,vw,ed⟩:=small.edit hl hk;refine⟨a,dx,vs,ev,ha,hf,R5,vw,λk' dr fR π wC C0 pz inj i3 oR=> ?_⟩;obtain⟨R6,R7⟩:=ed k' dr fR π wC C0 pz inj i3 oR;obtain⟨U',C3,d5⟩:=back _ Ut [some v] [some (.own (.nd k' fR))] R6 R7 λb hb=>by rw[j8.mp hb];exact .inr ⟨_,rfl⟩
 refine⟨U',⟨?_,by rw[qu];exact l,I.nn⟩,d5⟩;have R8:r < (Z.set r (some (.own (bf d0 p (.hl v))))).length:=by rw[bI];exact iu
 have gh:aJ (bf d0 p (.hl v)) p=some (.hl v):=CS hg rfl;have zj:=C3.put (r:=r) (d0:=bf d0 p (.hl v)) (u:=v) (p:=p) (d1:= .nd k' fR) (by rw[ic];exact Jb) hm (by
  refine I8 ?_;rw[aV R8,eN iu]) gh
 rw[CT hg]at zj;rw[qu];refine zj.weaken (by rw[b6,qu,bI,ic,b6,bI];unfold cJ;rfl) λi β aL=> ?_;have aL:(gE Z r d0 p (.nd k' fR)++cJ ab)[i]?=some (some β):=aL;by_cases ci:r=i
 ·subst ci;rw[aV (by rw[qu];exact iu)]at aL;unfold gE at aL;rw[eN (by rw[ic,bI];exact iu)]at aL;rw[eN (by rw[ic,b6,bI];lia)];exact aL
 ·rw[fF ci];refine I9 (ur ab) i β ?_;by_cases hi:i < Z.length
  ·rw[aV (by rw[qu];exact hi)]at aL;rw[aV (by rw[ic,bI];exact hi)];unfold gE at aL;rw[fF ci]at aL;exact RY iu hg i β (λz=>ci z.symm) aL
  ·rw[bL (by rw[qu];lia),qu]at aL;rw[bL (by rw[ic,bI];lia),ic,bI];exact aL
end
section
theorem aB.bound(I:aB K n H U σ hv Z (af++ [v]) (ab++ [d]))(hi:i < n)(uj:af= []/\ab= []\/True):aB K n H U (σ.set i (some v)) hv ((eI i Z).set i (some (.own d))) af ab:=by
 have l:=I.len;have nn:=I.nn;have tl:=I.tl;rw[b6,b6]at tl;have tl:af.length=ab.length:=by simp at tl;lia
 refine⟨?_,by rw[bI,bI,jU];exact l,by rw[bI];exact nn⟩;have ok:=I.ok;rw[cf,cf, <- cZ, <- cZ]at ok;have k:=ok.set (i:=i) (by simp;lia) (by simp;lia) (by simp;lia);have e1:(σ++hv++af.map some).set i (some v)=σ.set i (some v)++hv++af.map some:=by
  rw[p9 _ _ (by simp;lia),p9 _ _ (by lia)]
 rw[e1]at k;have lu:((eI i Z).set i (some (B.own d))).length=Z.length:=by rw[bI,jU]
 rw[lu];refine k.weaken (by simp[jU]) λj β aL=> ?_;by_cases hj:j < Z.length
 ·rw[aV (by rw[lu];exact hj)]at aL;by_cases c:i=j
  ·subst c;rw[eN (by rw[jU];exact hj)]at aL;rw[eN (by rw[jU];simp;lia)];exact aL
  ·rw[fF c]at aL |-;unfold eI at aL |-;rw[cf,aV (by simpa using hj)];exact aL
 ·rw[bL (by rw[lu];lia),lu]at aL;rw[fF (by lia)];unfold eI;rw[cf,bL (by simp;lia),eG,du];have:(ab.map λd=>some (B.own d))[j - Z.length]?=some (some β):=aL;rw[this];rw[du]at this;cases q:ab[j - Z.length]? with
  |none=>rw[q]at this;cases this
  |some x=>rw[q]at this;cases this;rfl
theorem aB.named(I:aB K n H U σ hv Z af ab)(hi:i < n)(hb:match β with | .own _=>False | .ro d=>Vw K H (λb=>¬ U b) v d | .aT r p=>r < Z.length/\r≠i/\∃vr,(σ++hv)[r]?=some (some vr)/\fV H vr p v):
  aB K n H U (σ.set i (some v)) hv ((eI i Z).set i (some β)) af ab:=by
 have l:=I.len;have nn:=I.nn;have tl:=I.tl;refine⟨?_,by rw[bI,bI,jU];exact l,by rw[bI];exact nn⟩;have k:=I.ok.bind (i:=i) (β:=β) (v:=v) (by simp;lia) (by
  cases β with
  |own d=>exact hb
  |ro d=>exact hb
  |aT r p=>
   obtain⟨h1,h2,vr,h3,h4⟩:=hb;exact⟨h1,h2,vr,by rw[aV (by simp;lia)];exact h3,h4⟩)
 have e1:(σ++hv++af.map some).set i (some v)=σ.set i (some v)++hv++af.map some:=by
  rw[p9 _ _ (by simp;lia),p9 _ _ (by lia)]
 rw[e1]at k;have lu:((eI i Z).set i (some β)).length=Z.length:=by rw[bI,jU]
 rw[lu];refine k.weaken (by simp[jU]) λj γ gf=> ?_;by_cases hj:j < Z.length
 ·rw[aV (by rw[lu];exact hj)]at gf;by_cases c:i=j
  ·subst c;rw[eN (by rw[jU];exact hj)]at gf;rw[eN (by rw[jU];simp;lia)];exact gf
  ·rw[fF c]at gf |-;unfold eI at gf |-;rw[cf,aV (by simpa using hj)];exact gf
 ·rw[bL (by rw[lu];lia),lu]at gf;rw[fF (by lia)];unfold eI;rw[cf,bL (by simp;lia),eG,du];have:(ab.map λd=>some (B.own d))[j - Z.length]?=some (some γ):=gf;rw[this];rw[du]at this;cases q:ab[j - Z.length]? with
  |none=>rw[q]at this;cases this
  |some x=>rw[q]at this;cases this;rfl
theorem aB.moved(I:aB K n H U σ hv Z af ab)(hi:i < n)(h:Z[i]?=some (some (.own d))):∃v,σ[i]?=some (some v)/\aB K n H U σ hv (Z.set i none) (af++ [v]) (ab++ [d]):=by
 have l:=I.len;have nn:=I.nn;have tl:=I.tl;have v5:i < Z.length:=(cb.mp h).1;obtain⟨v,F,ev,_,_⟩:=I.slot h;rw[I.name hi]at ev;refine⟨v,ev, ?_,by rw[bI];exact l,nn⟩;have Jc:(Z++ab.map λd=>some (B.own d))[i]?=some (some (.own d)):=by rw[aV v5];exact h
 have Cy:(σ++hv++af.map some)[i]?=some (some v):=by rw[aV (by simp;lia),aV (by lia)];exact ev
 have k:=I.ok.take (r:=i) (p:= []) (by simp;lia) Jc Cy (.nil v) rfl;rw[bI,cf,cf, <- cZ, <- cZ];refine k.weaken (by simp;lia) λj β aL=> ?_;rw[p9 _ _ v5];by_cases hj:j < Z.length
 ·rw[cZ,aV (by simpa using hj)]at aL |-;by_cases c:i=j
  ·subst c;rw[eN v5]at aL;cases aL
  ·rw[fF c]at aL |-;exact aL
 ·rw[cZ,bL (by simp;lia)]at aL |-;rw[bI]at aL |-;exact aL
def fK(i:Nat)(Z:En):Option (D×En):=(ae i Z).bind λd=>if plain d=true then some (d,Z) else match Z[i]? with
 |some (some (.own d'))=>some (d',Z.set i none)
 |_=>none
instance (priority:=400) R9{i:Nat}[L:jV i n]:SM K n (iX i) (fK i):=⟨λ{σ hv H U Z ρ' af ab d Q} I h k=>by
 obtain⟨d1,h1,h2⟩:=aj.mp h;by_cases p:plain d1=true
 ·rw[if_pos p]at h2;cases h2;refine(RN (i:=i)).s I h1 λv H' s w=> ?_;obtain⟨U',I',st⟩:=I.push s (dF.plain w p);exact k v H' U' I' st
 ·rw[if_neg p]at h2
  split at h2
  ·next d' e1=>
   cases h2;obtain⟨v,ev,I'⟩:=I.moved L.h e1;exact⟨v,ev,k v H U I' (bF.refl U H)⟩
  ·cases h2⟩
instance ZT:SS K n yi (λZ=>some (.nx Z)):=⟨λI h k=>by cases h;exact k _ _ _ I (bF.refl _ _)⟩
instance ZU:SS K n GW (λZ=>some (.ct Z)):=⟨λI h k=>by cases h;exact k _ _ _ I (bF.refl _ _)⟩
noncomputable def fC (u:En->Option Fl):Fl->Option Fl
 |.nx Z=>u Z
 |fl=>some fl
def bO(t u:En->Option Fl)(Z:En):Option Fl:=(t Z).bind (fC u)
theorem pk.step(h:pk K n H U hv af ab E fl)(st:bF U H U' H'):pk K n H' U' hv af ab E fl:=by
 cases fl with
 |nx Z=>exact λσ H2 U2 I s=>h σ H2 U2 I (st.trans s)
 |rt d Z=>exact λv σ H2 U2 I s=>h v σ H2 U2 I (st.trans s)
 |bk Z=>exact λσ H2 U2 I s=>h σ H2 U2 I (st.trans s)
 |ct Z=>exact λσ H2 U2 I s=>h σ H2 U2 I (st.trans s)
instance ZV[A:SS K n t ft][B':SS K n u fu]:SS K n (yj t u) (bO ft fu):=⟨λ{σ hv H U Z af ab fl E} I h k=>by
 obtain⟨f1,h1,h2⟩:=aj.mp h;refine A.s I h1 ?_;cases f1 with
 |nx ρ1=>exact λBZ H1 U1 I1 cT=>B'.s I1 h2 (k.step cT)
 |rt d ρ1=>cases h2;exact k
 |bk ρ1=>cases h2;exact k
 |ct ρ1=>cases h2;exact k⟩
noncomputable def cP (c:En->Option (Bool×En)) (t u:En->Option Fl) (Z:En):Option Fl:=(c Z).bind λb=>if b.1=true then t b.2 else u b.2
instance ZW[C:ST K n c fc][A:SS K n t ft][B':SS K n u fu]:SS K n (ym c t u) (cP fc ft fu):=⟨λ{σ hv H U Z af ab fl E} I h k=>by
 obtain⟨⟨b,ρ1⟩,h1,h2⟩:=aj.mp h;refine C.s I h1 λH1 U1 I1 cT=> ?_;cases b with
 |true=>rw[if_pos rfl];exact A.s I1 h2 (k.step cT)
 |false=>rw[if_neg bh];exact B'.s I1 h2 (k.step cT)⟩
noncomputable def cu (f:En->Option (D×En)) (Z:En):Option Fl:=(f Z).map λr=> .rt r.1 r.2
instance Sa[A:SM K n te fe]:SS K n (rD te) (cu fe):=⟨λ{σ hv H U Z af ab fl E} I h k=>by
 obtain⟨⟨d,ρ1⟩,h1,h2⟩:=aX.mp h;cases h2;exact A.s I h1 λv H1 U1 I1 cT=>k v σ H1 U1 I1 cT⟩
instance ZX:SS K n GY (λZ=>some (.rt (.sc .az) Z)):=⟨λ{σ hv H U Z af ab fl E} I h k=>by
 cases h;obtain⟨U',I',st⟩:=I.push (aQ.refl H) (dF.sc (K:=K) .az);exact k .az σ H U' I' st⟩
noncomputable def gv (f:En->Option (D×En)) (Z:En):Option Fl:=(f Z).map λr=> .nx r.2
instance ZY[A:SM K n te fe]:SS K n (GX te) (gv fe):=⟨λ{σ hv H U Z af ab fl E} I h k=>by
 obtain⟨⟨d,ρ1⟩,h1,h2⟩:=aX.mp h;cases h2;exact A.s I h1 λv H1 U1 I1 cT=>k σ H1 U1 I1.uq cT⟩
def aR(i:Nat)(β:B)(Z:En):En:=(eI i Z).set i (some β)
def dP(i:Nat)(f:En->Option (D×En))(Z:En):Option Fl:=(f Z).map λr=> .nx (aR i (.own r.1) r.2)
instance (priority:=100) ZZ{i:Nat}{te:TE}{fe:En->Option (D×En)}[L:jV i n][A:SM K n te fe]:SS K n (mG te (kB i)) (dP i fe):=⟨λ{σ hv H U Z af ab fl E} I h k=>by
 obtain⟨⟨d,ρ1⟩,h1,h2⟩:=aX.mp h;cases h2;exact A.s I h1 λv H1 U1 I1 cT=>k _ H1 U1 (I1.bound L.h (.inr trivial)) cT⟩
def kF(i:Nat)(f:En->Option Pl)(Z:En):Option Fl:=(f Z).bind λq=>(fB Z q).bind λd=>if plain d=true then some (.nx (aR i (.own d) Z)) else match q with
 |.ro d=>some (.nx (aR i (.ro d) Z))
 |.rt r p=>if r=i then none else some (.nx (aR i (.aT r p) Z))
instance (priority:=500) Z0{i:Nat}{te:TE}{fe:En->Option Pl}[L:jV i n][A:SP K n te fe]:SS K n (mG te (kB i)) (kF i fe):=⟨λ{σ hv H U Z af ab fl E} I h k=>by
 obtain⟨q,h1,h2⟩:=aj.mp h;obtain⟨d,h3,h4⟩:=aj.mp h2;refine A.s I h1 λv H1 s1 w1=> ?_;have I1:=I.same s1;have fL:bF U H U H1:=λb o q nu=>⟨s1 b o q,nu⟩
 by_cases p:plain d=true
 ·rw[if_pos p]at h4;cases h4;obtain⟨U',I',st⟩:=I1.push (aQ.refl H1) (dF.plain (I1.at w1 h3) p);exact k _ H1 U' (I'.bound L.h (.inr trivial)) (fL.trans st)
 ·rw[if_neg p]at h4;cases q with
  |ro d'=>
   cases h4;exact k _ H1 U (I1.named L.h (β:= .ro d') w1) fL
  |rt r p'=>
   have h4:(if r=i then none else some (Fl.nx (aR i (.aT r p') Z)))=some fl:=h4;by_cases c:r=i
   ·rw[if_pos c]at h4;cases h4
   ·rw[if_neg c]at h4;cases h4;obtain⟨hr,vr,d0,er,_,_,hp⟩:=w1;exact k _ H1 U (I1.named L.h (β:= .aT r p') ⟨hr,c,vr,er,hp⟩) fL⟩
instance Z1[A:SV K n t f]:ko K n (tB t) (λZ=>(f Z).bind fun | .sc (.bl b)=>some b | _=>none):=⟨λ{σ hv H U Z af ab b Q} I h k=>by
 obtain⟨d,h1,h2⟩:=aj.mp h;refine A.s I h1 λv H1 s1 w1=> ?_
 split at h2
 ·cases h2;exact⟨b,w1.cq,k H1 s1⟩
 ·cases h2⟩
instance Z2[A:SV K n t f]:ko K n (yA t) (λZ=>(f Z).bind fun | .sc (.bl b)=>some b | _=>none):=⟨λ{σ hv H U Z af ab b Q} I h k=>by
 obtain⟨d,h1,h2⟩:=aj.mp h;refine A.s I h1 λv H1 s1 w1=> ?_
 split at h2
 ·cases h2;exact⟨b,w1.cq,k H1 s1⟩
 ·cases h2⟩
noncomputable def wH (f:En->Option (D×En)) (Z:En):Option (Bool×En):=(f Z).bind λr=>match r.1 with
 |.sc (.bl b)=>some (b,r.2)
 |_=>none
instance (priority:=50) Z3{t:TE}{f:En->Option (D×En)}[A:SM K n t f]:ST K n (yA t) (wH f):=⟨λ{σ hv H U Z ρ' af ab b Q} I h k=>by
 obtain⟨⟨d,ρ1⟩,h1,h2⟩:=aj.mp h;refine A.s I h1 λv H1 U1 I1 cT=> ?_
 split at h2
 ·next b' e=>
  have e:d= .sc (.bl b'):=e;subst e;cases h2;exact⟨b,I1.last.cq,k H1 U1 I1.uq cT⟩
 ·cases h2⟩
noncomputable def d3 (a b:En->Option Bool) (Z:En):Option Bool:=(a Z).bind λx=>if x=true then b Z else some false
noncomputable def gL (a b:En->Option Bool) (Z:En):Option Bool:=(a Z).bind λx=>if x=true then some true else b Z
instance Z4[A:ko K n t f][B':ko K n u g]:ko K n (BR t u) (d3 f g):=⟨λ{σ hv H U Z af ab b Q} I h k=>by
 obtain⟨x,h1,h2⟩:=aj.mp h;refine A.s I h1 λH1 s1=> ?_;cases x with
 |true=>rw[if_pos rfl];exact B'.s (I.same s1) h2 λH2 s2=>k H2 (s1.trans s2)
 |false=>cases h2;rw[if_neg bh];exact k H1 s1⟩
instance Z5[A:ko K n t f][B':ko K n u g]:ko K n (GJ t u) (gL f g):=⟨λ{σ hv H U Z af ab b Q} I h k=>by
 obtain⟨x,h1,h2⟩:=aj.mp h;refine A.s I h1 λH1 s1=> ?_;cases x with
 |true=>cases h2;rw[if_pos rfl];exact k H1 s1
 |false=>rw[if_neg bh];exact B'.s (I.same s1) h2 λH2 s2=>k H2 (s1.trans s2)⟩
instance Z6[A:ko K n t f]:ko K n (GK t) (λZ=>(f Z).map (!·)):=⟨λ{σ hv H U Z af ab b Q} I h k=>by
 obtain⟨x,h1,h2⟩:=aX.mp h;cases h2;exact A.s I h1 λH1 s1=>k H1 s1⟩
noncomputable def andM (a b:En->Option (Bool×En)) (Z:En):Option (Bool×En):=(a Z).bind λx=>if x.1=true then b x.2 else some (false,x.2)
instance (priority:=50) Z7{t u:TT}{f g:En->Option (Bool×En)}[A:ST K n t f][B':ST K n u g]:ST K n (BR t u) (andM f g):=⟨λ{σ hv H U Z ρ' af ab b Q} I h k=>by
 obtain⟨⟨x,ρ1⟩,h1,h2⟩:=aj.mp h;refine A.s I h1 λH1 U1 I1 s1=> ?_;cases x with
 |true=>rw[if_pos rfl];exact B'.s I1 h2 λH2 U2 I2 s2=>k H2 U2 I2 (s1.trans s2)
 |false=>cases h2;rw[if_neg bh];exact k H1 U1 I1 s1⟩
instance Z8[A:SV K n ta fa][B':SV K n tb fb]:SV K n (GO ta tb) (λZ=>(fa Z).bind fun | .sc (.bl true)=>fb Z | .sc (.bl false)=>some (.sc (.bl false)) | _=>none):=⟨λ{σ hv H U Z af ab d Q} I h k=>by
 obtain⟨x,h1,h2⟩:=aj.mp h;refine A.s I h1 λv H1 s1 w1=> ?_
 split at h2
 ·exact⟨true,w1.cq,by rw[if_pos rfl];exact B'.s (I.same s1) h2 λv H2 s2 w=>k v H2 (s1.trans s2) w⟩
 ·cases h2;exact⟨false,w1.cq,by rw[if_neg bh];exact k _ H1 s1 (.sc _)⟩
 ·cases h2⟩
instance Z9[A:SV K n ta fa][B':SV K n tb fb]:SV K n (GQ ta tb) (λZ=>(fa Z).bind fun | .sc (.bl false)=>fb Z | .sc (.bl true)=>some (.sc (.bl true)) | _=>none):=⟨λ{σ hv H U Z af ab d Q} I h k=>by
 obtain⟨x,h1,h2⟩:=aj.mp h;refine A.s I h1 λv H1 s1 w1=> ?_
 split at h2
 ·exact⟨false,w1.cq,by rw[if_neg bh];exact B'.s (I.same s1) h2 λv H2 s2 w=>k v H2 (s1.trans s2) w⟩
 ·cases h2;exact⟨true,w1.cq,by rw[if_pos rfl];exact k _ H1 s1 (.sc _)⟩
 ·cases h2⟩
noncomputable def pA (c:En->Option Bool) (a b:En->Option D) (Z:En):Option D:=(c Z).bind λx=>if x=true then a Z else b Z
instance aaa[C:ko K n c fc][A:SV K n ta fa][B':SV K n tb fb]:SV K n (GS c ta tb) (pA fc fa fb):=⟨λ{σ hv H U Z af ab d Q} I h k=>by
 obtain⟨x,h1,h2⟩:=aj.mp h;refine C.s I h1 λH1 s1=> ?_;cases x with
 |true=>rw[if_pos rfl];exact A.s (I.same s1) h2 λv H2 s2 w=>k v H2 (s1.trans s2) w
 |false=>rw[if_neg bh];exact B'.s (I.same s1) h2 λv H2 s2 w=>k v H2 (s1.trans s2) w⟩
end
noncomputable def kG (f:Str):List Str->Option Nat
 | []=>none
 |g::r=>if f == g then some 0 else(kG f r).map (· + 1)
theorem C4:∀{ns:List Str} {vs:List V} {i:Nat},kG f ns=some i->ns.length=vs.length->(ns.zip vs).lookup f=vs[i]?
 | [],_,_,h,_=>by cases h
 |g::r, [],_,_,h=>by cases h
 |g::r,v::vs,i,h,hl=>by
  rw[kG]at h;rw[p7,lK];by_cases c:(f == g)=true
  ·rw[if_pos c]at h;cases h;rw[c];rfl
  ·rw[if_neg c]at h;obtain⟨j,h1,h2⟩:=aX.mp h;subst h2;rw[Bool.not_eq_true]at c;rw[c];exact C4 h1 (eP hl)
theorem Jd:∀{ns:List Str} {i:Nat},kG f ns=some i->i < ns.length
 | [],_,h=>by cases h
 |g::r,i,h=>by
  rw[kG]at h;by_cases c:(f == g)=true
  ·rw[if_pos c]at h;cases h;exact Ge _
  ·rw[if_neg c]at h;obtain⟨j,h1,h2⟩:=aX.mp h;subst h2;exact NO (Jd h1)
theorem zk:∀{ns:List Str} {i:Nat},kG f ns=some i->f∈ns
 | [],_,h=>by cases h
 |g::r,i,h=>by
  rw[kG]at h;by_cases c:(f == g)=true
  ·have:f=g:=by simpa using c
   rw[this];exact .head _
  ·rw[if_neg c]at h;obtain⟨j,h1,_⟩:=aX.mp h;exact .tail _ (zk h1)
theorem Je:∀{ns:List Str} {vs:List V} {i:Nat},kG f ns=some i->ns.length=vs.length->iM f y (ns.zip vs)=ns.zip (vs.set i y)
 | [],_,_,h,_=>by cases h
 |g::r, [],_,_,h=>by cases h
 |g::r,v::vs,i,h,hl=>by
  rw[kG]at h;rw[p7,iM];by_cases c:(f == g)=true
  ·have e:g=f:=by have:f=g:=(by simpa using c);exact this.symm
   rw[if_pos c]at h;cases h;rw[if_pos e];rfl
  ·have ne:¬ g=f:=λz=>c (by rw[z];simp);rw[if_neg c]at h;obtain⟨j,h1,h2⟩:=aX.mp h;subst h2;rw[if_neg ne,Je h1 (eP hl)];rfl
theorem Jf:∀{ns:List Str} {vs:List V},kG f ns=none->ns.length=vs.length->iM f y (ns.zip vs)=(ns++ [f]).zip (vs++ [y])
 | [], [],_,_=>rfl
 | [],_::_,_,h=>by cases h
 |g::r, [],_,h=>by cases h
 |g::r,v::vs,h,hl=>by
  rw[kG]at h;rw[p7,iM];by_cases c:(f == g)=true
  ·rw[if_pos c]at h;cases h
  ·have ne:¬ g=f:=λz=>c (by rw[z];simp);rw[if_neg c]at h;rw[if_neg ne,Jf (Option.map_eq_none_iff.mp h) (eP hl)];rfl
section
def wI(f:Str):D->Option Nat
 |.nd (.obj _ ns) _=>kG f ns
 |_=>none
noncomputable def bM:D->Nat->Option D
 |.nd _ cs,i=>cs[i]?
 |_,_=>none
def pB(f:Str)(d:D):Option D:=(wI f d).bind (bM d)
instance aab[A:SV K n ta fa]:SV K n (vO K ta f) (λZ=>(fa Z).bind (pB f)):=⟨λ{σ hv H U Z af ab d Q} I h k=>by
 obtain⟨x,h1,h2⟩:=aj.mp h;obtain⟨i,h3,h4⟩:=aj.mp h2;refine A.s I h1 λv H1 s1 w1=> ?_;unfold wI at h3
 split at h3
 ·next C ns cs=>
  obtain⟨a,vs,rfl,_,⟨⟨hl,hC,hA⟩,dx,hc⟩,lq,bQ⟩:=w1.node;have h4:cs[i]?=some d:=h4;obtain⟨u,hu⟩:=lU lq h4;exact⟨a,C,dx,_,u,rfl,hc,hC,hA f (zk h3),(C4 h3 hl).trans hu,k u H1 s1 (bQ i u d hu h4)⟩
 ·cases h3⟩
def lV(Z:En)(q:Pl)(i:Nat):Option Pl:=(fB Z q).bind λd=>(bM d i).bind λc=>match q with
 |.rt r p=>if plain d=true then some (.ro c) else some (.rt r (p++ [i]))
 |.ro _=>some (.ro c)
theorem Jg:∀{p:List Nat} {d d1:D} {i:Nat},aJ d p=some d1->aJ d (p++ [i])=aJ d1 [i]
 | [],d,d1,i,g=>by cases g;rfl
 |n::p, .sc _,d1,i,g=>by rw[aJ]at g;cases g
 |n::p, .hl _,d1,i,g=>by rw[aJ]at g;cases g
 |n::p, .nd k cs,d1,i,g=>by
  rw[aJ]at g;rw[By,aJ];by_cases cH:cV k=true/\bq cs=true
  ·rw[if_pos cH]at g;cases g
  rw[if_neg cH]at g |-;cases hc:cs[n]? with
  |none=>rw[hc]at g;cases g
  |some c=>rw[hc]at g;exact Jg g
theorem fV.app(h:fV H v p u)(h2:fV H u q w):fV H v (p++q) w:=by
 induction h with
 |nil=>exact h2
 |cons e1 e2 _ ih=>exact .cons e1 e2 (ih h2)
theorem C5(h:¬ plain (.nd k cs)=true):¬ (cV k=true/\bq cs=true):=λ⟨a,b⟩=>by
 cases k with
 |tup=>exact h b
 |aA=>exact h b
 |_=>cases a
theorem aB.bQ(I:aB K n H U σ hv Z af ab)(h:fw K H U (σ++hv) Z v q)(hq:lV Z q i=some q'):
  ∃(a:Addr) (k:Kd) (vs:List V) (cs:List D) (u:V) (c:D),v= .ref a/\fB Z q=some (.nd k cs)/\hV K H a k vs/\vs.length=cs.length/\vs[i]?=some u/\cs[i]?=some c/\fw K H U (σ++hv) Z u q'/\fB Z q'=some c:=by
 obtain⟨d,h1,h2⟩:=aj.mp hq;obtain⟨c,h3,h4⟩:=aj.mp h2;cases d with
 |sc _=>cases h3
 |hl _=>cases h3
 |nd k cs=>
  have h3:cs[i]?=some c:=h3;cases q with
  |ro d'=>
   cases h4;cases h1;obtain⟨a,vs,rfl,_,hc,hl,bQ⟩:=Vw.node (show Vw K H (λb=>¬ U b) v (.nd k cs) from h);obtain⟨u,hu⟩:=lU hl h3;exact⟨a,k,vs,cs,u,c,rfl,rfl,hc,hl,hu,h3,bQ i u c hu h3,rfl⟩
  |rt r p=>
   have h4:(if plain (.nd k cs)=true then some (Pl.ro c) else some (.rt r (p++ [i])))=some q':=h4;by_cases pd:plain (.nd k cs)=true
   ·rw[if_pos pd]at h4;cases h4;obtain⟨a,vs,rfl,_,hc,hl,bQ⟩:=(I.at h h1).node;obtain⟨u,hu⟩:=lU hl h3;have pc:plain c=true:=by
     cases k with
     |tup=>exact rY pd h3
     |aA=>exact rY pd h3
     |_=>cases pd
    exact⟨a,k,vs,cs,u,c,rfl,h1,hc,hl,hu,h3,((bQ i u c hu h3).plain pc).view λ_ z=>z.elim,rfl⟩
   ·rw[if_neg pd]at h4;cases h4;obtain⟨hr,vr,d0,er,pE,hg,hp⟩:=h;have wJ:(aP Z r).bind (aJ · p)=some (.nd k cs):=h1;rw[pE]at wJ;have wJ:aJ d0 p=some (.nd k cs):=wJ;have g2:aJ d0 (p++ [i])=some c:=by
     rw[Jg wJ,aJ,if_neg (C5 pd),h3];rfl
    obtain⟨aac,F,ev,_,rp⟩:=I.wB pE;rw[er]at ev;cases ev;obtain⟨F1,_,r1,_⟩:=rp.focus hp wJ;obtain⟨a,vs,rfl,ho,hl,Fs,_,_,bQ⟩:=r1.node;obtain⟨u,hu⟩:=lU hl h3;have Sb:∃o,H a=some o:=by
     cases k with
     |tup=>exact⟨_,ho⟩
     |aA=>exact absurd ⟨rfl,ho.1⟩ (C5 pd)
     |_=>obtain⟨_,_,_,dx,x⟩:=ho;exact⟨_,x⟩
    obtain⟨o,eo⟩:=Sb;have vX:fV H vr (p++ [i]) u:=hp.app (.cons eo (by rw[ho.kids (C5 pd) eo];exact hu) (.nil u));exact⟨a,k,vs,cs,u,c,rfl,h1,ho.cell,hl,hu,h3,⟨hr,vr,d0,er,pE,by rw[g2];rfl,vX⟩,by show(aP Z r).bind (aJ · (p++ [i]))=some c;rw[pE];exact g2⟩
def nS(f:Str)(fa:En->Option Pl)(Z:En):Option Pl:=(fa Z).bind λq=>(fB Z q).bind λd=>(wI f d).bind (lV Z q)
instance aad[A:SP K n ta fa]:SP K n (vO K ta f) (nS f fa):=⟨λ{σ hv H U Z af ab q' Q} I h k=>by
 obtain⟨q,h1,h⟩:=aj.mp h;obtain⟨d,h2,h⟩:=aj.mp h;obtain⟨i,h3,h4⟩:=aj.mp h;refine A.s I h1 λv H1 s1 w1=> ?_;obtain⟨a,kk,vs,cs,u,c,rfl,e1,hc,hl,hu,h5,ok,_⟩:=(I.same s1).bQ w1 h4;rw[h2]at e1;cases e1;unfold wI at h3
 split at h3
 ·next C ns fR e=>
  cases e;obtain⟨⟨lq,hC,hA⟩,dx,hc⟩:=hc;exact⟨a,C,dx,_,u,rfl,hc,hC,hA f (zk h3),(C4 h3 lq).trans hu,k u H1 s1 ok⟩
 ·cases h3⟩
def cE(d i:D):Option Nat:=match d,i with
 |.nd .tup cs, .sc (.int j)=>bJ cs.length j
 |.nd .lst cs, .sc (.int j)=>bJ cs.length j
 |.nd .aA cs, .sc (.int j)=>bJ cs.length j
 |_,_=>none
class qv(K:ak)(r:R2)(g:outParam (D->D->Option Nat))(gs:outParam (V->D->Option V)):Prop where
 t:∀{H:Hp} {x y w:V} {dy:D} {Q:VK},Vw K H T1 y dy->gs x dy=some w->Q w H->r x y H Q
 s:∀{H:Hp} {a:Addr} {k:Kd} {vs:List V} {cs:List D} {y u:V} {dy:D} {i:Nat} {Q:VK},hV K H a k vs->vs.length=cs.length->Vw K H T1 y dy->g (.nd k cs) dy=some i->vs[i]?=some u->Q u H->r (.ref a) y H Q
def ar(g:D->D->Option Nat)(gs:V->D->Option V)(a b:D):Option D:=match a with
 |.sc x=>(gs x b).map .sc
 |a=>(g a b).bind (bM a)
instance (priority:=900) aae{r:R2}{ta tb:TE}{fa fb:En->Option D}{g:D->D->Option Nat}{gs:V->D->Option V}[A:SV K n ta fa][B':SV K n tb fb][O:qv K r g gs]:SV K n (jL r ta tb) (ag (ar g gs) fa fb):=⟨λ{σ hv H U Z af ab d Q} I h k=>by
 obtain⟨a,ha,h⟩:=aj.mp h;obtain⟨b,hb,h⟩:=aj.mp h;refine A.s I ha λx H1 s1 w1=> ?_;refine B'.s (I.same s1) hb λy H2 s2 w2=> ?_;cases a with
 |sc z=>
  obtain⟨w,h1,h2⟩:=aX.mp h;subst h2;rw[w1.cq];exact O.t w2 h1 (k w H2 (s1.trans s2) (.sc w))
 |hl _=>
  obtain⟨i,hi,h⟩:=aj.mp h;cases h
 |nd kk cs=>
  obtain⟨i,hi,h⟩:=aj.mp h;have h:cs[i]?=some d:=h;obtain⟨a,vs,rfl,_,hc,hl,bQ⟩:=(w1.same s2).node;obtain⟨u,hu⟩:=lU hl h;exact O.s hc hl w2 hi hu (k u H2 (s1.trans s2) (bQ i u d hu h))⟩
def cA(g:D->D->Option Nat)(fa:En->Option Pl)(fb:En->Option D)(Z:En):Option Pl:=(fa Z).bind λq=>(fb Z).bind λb=>(fB Z q).bind λd=>(g d b).bind (lV Z q)
theorem fw.same(h:fw K H U e Z v q)(s:aQ H H'):fw K H' U e Z v q:=by
 cases q with
 |ro d=>exact Vw.same h s
 |rt r p=>
  obtain⟨a,vr,d,b,c,e,f⟩:=h;exact⟨a,vr,d,b,c,e,f.same s⟩
instance aaf[A:SP K n ta fa][B':SV K n tb fb][O:qv K r g gs]:SP K n (jL r ta tb) (cA g fa fb):=⟨λ{σ hv H U Z af ab q' Q} I h k=>by
 obtain⟨q,ha,h⟩:=aj.mp h;obtain⟨b,hb,h⟩:=aj.mp h;obtain⟨d,hd,h⟩:=aj.mp h;obtain⟨i,hi,h⟩:=aj.mp h;refine A.s I ha λx H1 s1 w1=> ?_;refine B'.s (I.same s1) hb λy H2 s2 w2=> ?_;obtain⟨a,kk,vs,cs,u,c,rfl,e1,hc,hl,hu,h5,ok,_⟩:=((I.same s1).same s2).bQ (w1.same s2) h;rw[hd]at e1;cases e1;exact O.s hc hl w2 hi hu (k u H2 (s1.trans s2) ok)⟩
def aq(x:V)(i:D):Option V:=match x,i with
 |.str z, .sc (.int j)=>if z.length<=aN then(ql z.cps.toList j).map λc=> .str ⟨#[c]⟩ else none
 |_,_=>none
theorem Sd(h:bJ m j=some i):i < m:=by
 unfold bJ at h
 split at h
 ·split at h
  ·cases h;lia
  ·cases h
 ·split at h
  ·cases h;lia
  ·cases h
instance Jh:qv K (Ck K) cE aq where
 t:=λ{H x y w dy Q} w2 h q=>by
  unfold aq at h
  split at h
  ·next z j=>
   by_cases c:z.length<=aN
   ·rw[if_pos c]at h;obtain⟨ch,h1,h2⟩:=aX.mp h;subst h2;rw[w2.cq];exact .inr (.inr ⟨z,j,ch,rfl,rfl,c,h1,q⟩)
   ·rw[if_neg c]at h;cases h
  ·cases h
 s:=λ{H a k vs cs y u dy i Q} hc hl w2 h hu q=>by
  unfold cE at h;have at_:∀j,bJ cs.length j=some i->ql vs j=some u:=λj e=>by
   unfold ql;rw[hl,e];exact hu
  split at h
  ·next fR j e=>
   cases e;rw[w2.cq];exact .inr (.inl ⟨a,vs,j,u,rfl,rfl,cD.of hc.2,at_ j h,q⟩)
  ·next fR j e=>
   cases e;rw[w2.cq];exact .inl ⟨a,vs,j,u,rfl,rfl, .inl (.inl hc.2),at_ j h,q⟩
  ·next fR j e=>
   cases e;rw[w2.cq];exact .inl ⟨a,vs,j,u,rfl,rfl,hc.2.sq,at_ j h,q⟩
  ·cases h
class SQ(K:ak)(n:Nat)(t:TE)(f:outParam (En->Option D)):Prop where
 o:∀{σ hv:List (Option V)} {H:Hp} {U:Addr->Prop} {Z:En} {af:List V} {ab:List D} {d:D} {Q:VK},aB K n H U σ hv Z af ab->f Z=some d->(∀v H',aQ H H'->dF K H H' v d->Q v H')->t σ H Q
theorem SQ.s[S:SQ K n t f](I:aB K n H U σ hv Z af ab)(h:f Z=some d)(k:∀v H' U',aB K n H' U' σ hv Z (af++ [v]) (ab++ [d])->bF U H U' H'->aQ H H'->Q v H'):t σ H Q:=
 S.o I h λv H' s o=>by
  obtain⟨U',I',st⟩:=I.push s o;exact k v H' U' I' st s
instance (priority:=200) aag{t:TE}{f:En->Option D}[S:SF K n t f]:SQ K n t f:=⟨λI h k=>S.s I h k⟩
def gB(f:En->Option D)(Z:En):Option D:=(f Z).bind λd=>if plain d=true then some d else none
instance (priority:=100) aah{t:TE}{f:En->Option D}[S:SV K n t f]:SQ K n t (gB f):=⟨λ{σ hv H U Z af ab d Q} I h k=>by
 obtain⟨d',h1,h2⟩:=aj.mp h;by_cases p:plain d'=true
 ·rw[if_pos p]at h2;cases h2;exact S.s I h1 λv H' s w=>k v H' s (dF.plain w p)
 ·rw[if_neg p]at h2;cases h2⟩
def gw(Z:En)(r:Nat)(p:List Nat):Option (D×Kd×List D):=(aP Z r).bind λd0=>(aJ d0 p).bind λ
 |.nd k cs=>some (d0,k,cs)
 |_=>none
theorem mP(h:gw Z r p=some (d0,k,cs)):aP Z r=some d0/\aJ d0 p=some (.nd k cs):=by
 obtain⟨x,h1,h2⟩:=aj.mp h;obtain⟨y,h3,h4⟩:=aj.mp h2;cases y with
 |sc _=>cases h4
 |hl _=>cases h4
 |nd k' fR=>cases h4;exact⟨h1,h3⟩
open Classical in
noncomputable def C6 (K:ak) (f:Str) (k:Kd) (cs:List D) (d:D):Option D:=match k with
 |.obj C ns=>if cs.length < 1000 then(match kG f ns with
  |some i=>some (.nd (.obj C ns) (cs.set i d))
  |none=>if jo K C f then some (.nd (.obj C (ns++ [f])) (cs++ [d])) else none) else none
 |_=>none
def Ji(K:ak)(f:Str)(fv:En->Option (D×En))(fp:En->Option Pl)(Z:En):Option Fl:=(fv Z).bind λa=>(fp a.2).bind λ
 |.rt r p=>(gw a.2 r p).bind λz=>(C6 K f z.2.1 z.2.2 a.1).map λd'=> .nx (gE a.2 r z.1 p d')
 |.ro _=>none
theorem nT{α:Type}{xs:List α}{x:α}{i:Nat}(hi:i < xs.length):∀(j:Nat) (y:α),(xs.set i x)[j]?=some y->(xs++ [x])[if j=i then xs.length else j]?=some y:=λj y h=>by
 by_cases c:j=i
 ·subst c;rw[eN hi]at h;rw[if_pos rfl,bL (bT _),nr];exact h
 ·rw[fF (dS c)]at h;rw[if_neg c,aV (cb.mp h).1];exact h
theorem wK{i m:Nat}(hi:i < m):∀a b,a < m->b < m->(if a=i then m else a)=(if b=i then m else b)->a=b:=λa b ha hb h=>by
 by_cases c1:a=i
 ·by_cases c2:b=i
  ·lia
  ·rw[if_pos c1,if_neg c2]at h;lia
 ·by_cases c2:b=i
  ·rw[if_neg c1,if_pos c2]at h;lia
  ·rw[if_neg c1,if_neg c2]at h;exact h
instance aai{ta tv:TE}{f:Str}{fv:En->Option (D×En)}{fp:En->Option Pl}[A:SM K n tv fv][P:SP K n ta fp]:SS K n (Ca K ta tv f) (Ji K f fv fp):=⟨λ{σ hv H U Z af ab fl E} I h k=>by
 obtain⟨⟨d,ρ1⟩,h1,h⟩:=aj.mp h;obtain⟨q,h2,h⟩:=aj.mp h;cases q with
 |ro _=>cases h
 |rt r p=>
  obtain⟨⟨d0,kk,cs⟩,h3,h⟩:=aj.mp h;obtain⟨d',h4,h⟩:=aX.mp h;subst h;obtain⟨hr,hg⟩:=mP h3;refine A.s I h1 λy H1 U1 I1 cT=> ?_;refine P.s I1 h2 λx H2 s2 w2=> ?_;have I2:=I1.same s2;have fL:bF U1 H1 U1 H2:=λb o q nu=>⟨s2 b o q,nu⟩
  unfold C6 at h4
  split at h4
  ·next C ns e=>
   have e:kk= .obj C ns:=e;subst e;by_cases c:cs.length < 1000
   ·rw[if_pos c]at h4;obtain⟨a,dx,vs,rfl,ha,hf,hl,_,ed⟩:=aB.edit (xs:= [y]) (ds:= [d]) I2 rfl w2 hr hg rfl;obtain⟨wL,hC,hA⟩:=hf
    split at h4
    ·next i e2=>
     cases h4;have hi:i < vs.length:=by rw[<- wL];exact Jd e2
     refine⟨a,C,dx,_,rfl,ha,hC,hA f (zk e2),by rw[ny];lia, ?_⟩;rw[Je e2 wL];obtain⟨U3,I3,iZ⟩:=ed (.obj C ns) (vs.set i y) (cs.set i d) (λj=>if j=i then vs.length else j) rfl ⟨by rw[bI];exact wL,hC,hA⟩ (by rw[bI,bI];exact hl)
      (λx z hx hz=>wK hi x z (by rw[bI]at hx;exact hx) (by rw[bI]at hz;exact hz)) (nT hi) (by rw[hl];exact nT (by lia))
     exact k σ _ U3 I3 (cT.trans (fL.trans iZ))
    ·next e2=>
     by_cases cn:jo K C f
     ·rw[if_pos cn]at h4;cases h4;refine⟨a,C,dx,_,rfl,ha,hC,cn,by rw[ny];lia, ?_⟩;rw[Jf e2 wL];obtain⟨U3,I3,iZ⟩:=ed (.obj C (ns++ [f])) (vs++ [y]) (cs++ [d]) id rfl ⟨by simp;exact wL,hC,λg hg=>by
       rcases lJ.mp hg with z | z
       ·exact hA g z
       ·rw[j8.mp z];exact cn⟩ (by simp;exact hl) (λx z _ _ h=>h) (λj x h=>h) λj x h=>h
      exact k σ _ U3 I3 (cT.trans (fL.trans iZ))
     ·rw[if_neg cn]at h4;cases h4
   ·rw[if_neg c]at h4;cases h4
  ·cases h4⟩
def ja(Z:En)(r:Nat)(p:List Nat)(g:List D->Option (List D)):Option En:=(gw Z r p).bind λz=>match z.2.1 with
 |.lst=>(g z.2.2).map λfR=>gE Z r z.1 p (.nd .lst fR)
 |_=>none
noncomputable def jW (d:D) (cs:List D):Option (List D):=if cs.length < aN then some (cs++ [d]) else none
def mQ(fp:En->Option Pl)(fe:En->Option D)(Z:En):Option (D×En):=(fp Z).bind λ
 |.rt r p=>(fe Z).bind λd=>(ja Z r p (jW d)).map λρ'=>(.sc .az,ρ')
 |.ro _=>none
def qw(fp:En->Option Pl)(fe:En->Option (D×En))(Z:En):Option (D×En):=(fp Z).bind λ
 |.rt r p=>if p= [] then(match aP Z r with
  |some (.nd .lst _)=>(fe Z).bind λa=>(ja a.2 r [] (jW a.1)).map λρ'=>(.sc .az,ρ')
  |_=>none) else none
 |.ro _=>none
theorem zl(h:H p=some (.lst xs)):tX K "list" (.ref p) H:= .inl ⟨rfl,xs, .inl (.inl h)⟩
theorem aB.append{Q:VK}(I:aB K n H U σ hv Z (af++ [y]) (ab++ [d]))(w:fw K H U (σ++hv) Z x (.rt r p))(h:ja Z r p (jW d)=some ρ2)
  (k:∀v H' U',aB K n H' U' σ hv ρ2 (af++ [v]) (ab++ [.sc .az])->bF U H U' H'->Q v H'):tX K "list" x H/\tY x [y] H Q:=by
 obtain⟨⟨d0,kk,cs⟩,h3,h⟩:=aj.mp h;obtain⟨hr,hg⟩:=mP h3
 split at h
 ·next e=>
  have e:kk= .lst:=e;subst e;obtain⟨fR,h4,h⟩:=aX.mp h;subst h;unfold jW at h4;have h4:(if cs.length < aN then some (cs++ [d]) else none)=some fR:=h4;by_cases c:cs.length < aN
  ·rw[if_pos c]at h4;cases h4;obtain⟨a,dx,vs,rfl,ha,hf,hl,_,ed⟩:=aB.edit (xs:= [y]) (ds:= [d]) I rfl w hr hg rfl;obtain⟨U3,I3,iZ⟩:=ed .lst (vs++ [y]) (cs++ [d]) id rfl trivial (by simp;exact hl) (λx z _ _ h=>h) (λj x h=>h) λj x h=>h;obtain⟨U4,I4,gS⟩:=I3.push (aQ.refl _) (dF.sc (K:=K) .az);exact⟨zl ha,a,vs,y,rfl,rfl,ha,by lia,k _ _ U4 I4 (iZ.trans gS)⟩
  ·rw[if_neg c]at h4;cases h4
 ·cases h
theorem fw.root(h:fw K H U e Z v (.rt r []))(hd:aP ρ2 r=some d):fw K H' U' e ρ2 v (.rt r []):=by
 obtain⟨_,vr,d0,er,_,_,hp⟩:=h;cases hp;exact⟨(cb.mp (kE hd)).1,v,d,er,hd,rfl, .nil v⟩
instance (priority:=600) aaj{to te:TE}{fp:En->Option Pl}{fe:En->Option D}[P:SP K n to fp][A:SQ K n te fe]:SM K n (vS K "list" tY to (gq te gR)) (mQ fp fe):=⟨λ{σ hv H U Z ρ' af ab d Q} I h k=>by
 obtain⟨q,h1,h⟩:=aj.mp h;cases q with
 |ro _=>cases h
 |rt r p=>
  obtain⟨d1,h2,h⟩:=aj.mp h;obtain⟨ρ2,h3,h⟩:=aX.mp h;cases h;refine P.s I h1 λx H1 s1 w1=> ?_;have I1:=I.same s1;have fL:bF U H U H1:=λb o q nu=>⟨s1 b o q,nu⟩
  -- vM kind of aak it is,ahead of mH argument
  obtain⟨⟨d0,kk,cs⟩,h4,h5⟩:=aj.mp h3;obtain⟨hr,hg⟩:=mP h4;have vT:tX K "list" x H1:=by
   split at h5
   ·next e=>
    have e:kk= .lst:=e;subst e;obtain⟨a,vs,rfl,_,hc,_,_⟩:=(I1.at (q:= .rt r p) (d:= .nd .lst cs) w1 (by show(aP Z r).bind _=_;rw[hr];exact hg)).node;exact zl hc.2
   ·cases h5
  refine⟨vT,SQ.s (f:=fe) I1 h2 λy H2 U2 I2 d5 s2=> ?_⟩;have w2:fw K H2 U2 (σ++hv) Z x (.rt r p):=by
   obtain⟨a,vr,d,b,c,e,f⟩:=w1;exact⟨a,vr,d,b,c,e,f.same s2⟩
  exact(I2.append w2 h3 λv H3 U3 I3 iZ=>k v H3 U3 I3 (fL.trans (d5.trans iZ))).2⟩
instance (priority:=500) aal{to te:TE}{fp:En->Option Pl}{fe:En->Option (D×En)}[P:SP K n to fp][A:SM K n te fe]:SM K n (vS K "list" tY to (gq te gR)) (qw fp fe):=⟨λ{σ hv H U Z ρ' af ab d Q} I h k=>by
 obtain⟨q,h1,h⟩:=aj.mp h;cases q with
 |ro _=>cases h
 |rt r p=>
  by_cases cp:p= []
  ·subst cp;have h:(match aP Z r with | some (.nd .lst _)=>(fe Z).bind λa=>(ja a.2 r [] (jW a.1)).map λρ'=>(D.sc .az,ρ') | _=>none)=some (d,ρ'):=h
   split at h
   ·next Se e0=>
    obtain⟨⟨d1,ρ1⟩,h2,h⟩:=aj.mp h;obtain⟨ρ2,h3,h⟩:=aX.mp h;cases h;refine P.s I h1 λx H1 s1 w1=> ?_;have I1:=I.same s1;have fL:bF U H U H1:=λb o q nu=>⟨s1 b o q,nu⟩
    obtain⟨a,vs,rfl,_,hc,_,_⟩:=(I1.at (q:= .rt r []) (d:= .nd .lst Se) w1 (by show(aP Z r).bind _=_;rw[e0];rfl)).node;refine⟨zl hc.2,A.s I1 h2 λy H2 U2 I2 d5=> ?_⟩;obtain⟨⟨d0,kk,cs⟩,h4,h5⟩:=aj.mp h3;have w2:fw K H2 U2 (σ++hv) ρ1 (.ref a) (.rt r []):=w1.root (mP h4).1;exact(I2.append w2 h3 λv H3 U3 I3 iZ=>k v H3 U3 I3 (fL.trans (d5.trans iZ))).2
   ·cases h
  ·have h:(if p= [] then _ else none)=some (d,ρ'):=h;rw[if_neg cp]at h;cases h⟩
end
noncomputable def lW (n:Nat) (vs:List V):St:=vs.map some++bK (n - vs.length) none
section
variable {K:ak}{H H':Hp}{U U':Addr->Prop}{σ hv:List (Option V)}{af vs:List V}{ab ds:List D}{v:V}{d:D}
def fW(K:ak)(m:Nat)(G:List D->Option D):Sp:=λvs H Q _=>∃(ds:List D) (d:D),ds.length=m/\cS K H T1 vs ds/\G ds=some d/\∀v H',aQ H H'->dF K H H' v d->Q v H'
instance aam{m:Nat}[A:SA K n ta fa]:SF K n (qg (fW K m G) [] E ta) (λZ=>(fa Z).bind λds=>if ds.length=m then G ds else none):=⟨λ{σ hv H U Z af ab d Q} I h k=>by
 obtain⟨ds,h1,h2⟩:=aj.mp h;by_cases c:ds.length=m
 ·rw[if_pos c]at h2;refine A.s I h1 λvs H1 s1 w1=> ?_;show fW K m G (vs++ []) H1 Q E;rw[fO];exact⟨ds,d,c,w1,h2,λv H' s o=>k v H' (s1.trans s) (o.early s1)⟩
 ·rw[if_neg c]at h2;cases h2⟩
noncomputable def b7 (n:Nat) (f:En->Option Fl) (ds:List D):Option D:=match f (ds.map (λd=>some (.ro d))++bK (n - ds.length) none) with
 |some (.rt d _)=>some d
 |some (.nx _)=>some (.sc .az)
 |_=>none
theorem cS.get{N:Addr->Prop}(h:cS K H N vs ds){i:Nat}{d:D}(hd:ds[i]?=some d):∃v,vs[i]?=some v/\Vw K H N v d:=by
 obtain⟨v,hv⟩:=lU h.1 hd;exact⟨v,hv,h.2 i v d hv hd⟩
theorem Jj{t:TS}{f:En->Option Fl}{m:Nat}{Q:VK}{X:XK}[S:SS K n t f](h:fW K m (b7 n f) vs H Q X)(hm:m<=n):t { nx:=λ_ H'=>Q .az H',rt:=Q } (lW n vs) H:=by
 obtain⟨ds,d,hd,w,hG,k⟩:=h;have hl:=w.1;have rp:∀(i:Nat) (β:B),(ds.map (λd=>some (B.ro d))++bK (n - ds.length) none)[i]?=some (some β)->∃d,ds[i]?=some d/\β= .ro d:=λi β h=>by
  by_cases hi:i < ds.length
  ·rw[aV (by simpa using hi),du]at h;cases q:ds[i]? with
   |none=>rw[q]at h;cases h
   |some x=>rw[q]at h;cases h;exact⟨x,rfl,rfl⟩
  ·rw[bL (by simp;lia),Br]at h
   split at h <;> cases h
 have I:aB K n H (λ_=>False) (lW n vs) [] (ds.map (λd=>some (.ro d))++bK (n - ds.length) none) [] []:=by
  refine⟨⟨by unfold lW;simp[hl],λb z=>z.elim,λ_ _=>False,λi j b z=>z.elim,λi b z=>z.elim,λi β aL=> ?_⟩,by unfold lW;simp[hl],by unfold lW;simp;lia⟩;rw[mC,fO]at aL;obtain⟨x,hx,rfl⟩:=rp i β aL;obtain⟨v,hv,vw⟩:=w.get hx;refine⟨v, ?_,vw.mono λ_ _ z=>z⟩;rw[mC,fO,fO];unfold lW;rw[aV (by simpa using (cb.mp hv).1),du,hv];rfl
 have fin:∀{ρ':En} {v:V} {aM:List (Option V)} {H':Hp} {U':Addr->Prop},aB K n H' U' aM [] ρ' [v] [d]->bF (λ_=>False) H U' H'->Q v H':=λ{ρ' v aM H' U'} J st=>by
  refine k v H' (λb o q=>(st b o q λz=>z).1) ?_;obtain⟨_,mu,Fs,dj,sub,sl⟩:=J.ok;have l:=J.len;obtain⟨v',ev,sv⟩:=sl ρ'.length (.own d) (by simp);have:v'=v:=by
   rw[bL (by simp at l |-;lia)]at ev;simp at ev l;rw[show ρ'.length - aM.length=0 by lia]at ev;simp at ev;exact ev.symm
  subst this;refine⟨_,sv,λb z=>⟨?_,mu b (sub _ b z)⟩⟩;cases q:H b with
  |none=>rfl
  |some o=>exact absurd (sub _ b z) (st b o q λz=>z).2
 unfold b7 at hG
 split at hG
 ·next d' ρ' e=>
  cases hG;exact S.s I e λv aM H' U' J st=>fin J st
 ·next ρ' e=>
  cases hG;refine S.s I e λaM H' U' J st=> ?_;obtain⟨U2,J2,d5⟩:=J.push (aQ.refl H') (dF.sc (K:=K) .az);exact fin J2 (st.trans d5)
 ·cases hG
noncomputable def b8 {α:Type}:List Bool->List α->List α
 |true::m,x::r=>x::b8 m r
 |false::m,_::r=>b8 m r
 |_,_=> []
def gy(K:ak)(bc:List Bool)(G:List D->Option (D×List D)):Sp:=λvs H Q _=>vs.length=bc.length/\∃(ds:List D) (U:Addr->Prop) (d:D) (cW:List D),ds.length=bc.length/\cz K H U 0 ((b8 bc vs).map some) (cJ (b8 bc ds))/\
 (∀(i:Nat) (v:V) (d:D),bc[i]?=some false->vs[i]?=some v->ds[i]?=some d->Vw K H (λb=>¬ U b) v d)/\G ds=some (d,cW)/\
 ∀v H' U',cz K H' U' 0 (some v::(b8 bc vs).map some) (some (.own d)::cJ cW)->bF U H U' H'->Q v H'
noncomputable def kq (n:Nat):Nat->List Bool->List D->En
 |j,true::m,_::r=>some (.aT (n + j) [])::kq n (j + 1) m r
 |j,false::m,d::r=>some (.ro d)::kq n j m r
 |_,_,_=> []
noncomputable def jM:En->Option (List D)
 | []=>some []
 |some (.own d)::r=>(jM r).map (d:: ·)
 |_=>none
theorem Jk:∀{Z:En} {ds:List D},jM Z=some ds->Z=cJ ds
 | [],ds,h=>by cases h;rfl
 |some (.own d)::r,ds,h=>by
  rw[jM]at h;obtain⟨x,h1,h2⟩:=aX.mp h;subst h2;rw[Jk h1];rfl
 |none::r,ds,h=>by simp[jM]at h
 |some (.ro d)::r,ds,h=>by simp[jM]at h
 |some (.aT _ _)::r,ds,h=>by simp[jM]at h
def nV(n:Nat)(bc:List Bool)(ds:List D):En:=kq n 0 bc ds++bK (n - bc.length) none++cJ (b8 bc ds)
def gF(n:Nat)(bc:List Bool)(f:En->Option Fl)(ds:List D):Option (D×List D):=match f (nV n bc ds) with
 |some (.rt d ρ')=>(jM (ρ'.drop n)).map λo=>(d,o)
 |some (.nx ρ')=>(jM (ρ'.drop n)).map λo=>(.sc .az,o)
 |_=>none
theorem C7(n:Nat):∀(j:Nat) {bc:List Bool} {ds:List D},ds.length=bc.length->(kq n j bc ds).length=bc.length
 |j, [], [],_=>rfl
 |j, [],_::_,h=>by cases h
 |j,_::_, [],h=>by cases h
 |j,true::m,_::r,h=>by rw[kq,eU,C7 n (j + 1) (eP h)];rfl
 |j,false::m,_::r,h=>by rw[kq,eU,C7 n j (eP h)];rfl
theorem zm{α β:Type}:∀{bc:List Bool} {xs:List α} {ys:List β},xs.length=bc.length->ys.length=bc.length->(b8 bc xs).length=(b8 bc ys).length
 | [], [], [],_,_=>rfl
 | [],_::_,_,h,_=>by cases h
 | [],_,_::_,_,h=>by cases h
 |_::_, [],_,h,_=>by cases h
 |_::_,_, [],_,h=>by cases h
 |true::m,x::xs,y::ys,h,h'=>by rw[b8,b8,eU,eU,zm (eP h) (eP h')]
 |false::m,x::xs,y::ys,h,h'=>by rw[b8,b8,zm (eP h) (eP h')]
theorem C8(n:Nat):∀(j:Nat) {bc:List Bool} {ds:List D} {vs:List V} {i:Nat} {β:B},ds.length=bc.length->vs.length=bc.length->(kq n j bc ds)[i]?=some (some β)->
  (∃d,β= .ro d/\bc[i]?=some false/\ds[i]?=some d)\/∃j' v,β= .aT (n + j') []/\j<=j'/\(b8 bc vs)[j' - j]?=some v/\vs[i]?=some v
 |j, [],_,_,_,_,_,_,h=>by simp[kq]at h
 |j,_::_, [],_,_,_,h,_,_=>by cases h
 |j,_::_,_, [],_,_,_,h,_=>by cases h
 |j,true::m,d::ds,v::vs,0,β,h1,h2,h=>by
  rw[kq]at h;cases h;exact .inr ⟨j,v,rfl,bT _,by rw[nr,b8];rfl,rfl⟩
 |j,true::m,d::ds,v::vs,i + 1,β,h1,h2,h=>by
  rw[kq]at h;rcases C8 n (j + 1) (bc:=m) (ds:=ds) (vs:=vs) (i:=i) (eP h1) (eP h2) (by simpa using h) with⟨x,a,b,c⟩ | ⟨j',x,a,b,c,e⟩
  ·exact .inl ⟨x,a,by simpa using b,by simpa using c⟩
  ·refine .inr ⟨j',x,a,by lia, ?_,by simpa using e⟩;rw[b8,show j' - j=(j' - (j + 1)) + 1 by lia];simpa using c
 |j,false::m,d::ds,v::vs,0,β,h1,h2,h=>by
  rw[kq]at h;cases h;exact .inl ⟨d,rfl,rfl,rfl⟩
 |j,false::m,d::ds,v::vs,i + 1,β,h1,h2,h=>by
  rw[kq]at h;rcases C8 n j (bc:=m) (ds:=ds) (vs:=vs) (i:=i) (eP h1) (eP h2) (by simpa using h) with⟨x,a,b,c⟩ | ⟨j',x,a,b,c,e⟩
  ·exact .inl ⟨x,a,by simpa using b,by simpa using c⟩
  ·exact .inr ⟨j',x,a,b,by rw[b8];exact c,by simpa using e⟩
theorem cz.tail(h:cz K H U m (e++t) (Z++τ))(hl:e.length=Z.length)(uj:wy τ):∃Ut:Addr->Prop,(∀b,Ut b->U b)/\cz K H Ut 0 t τ:=by
 obtain⟨dM,mu,Fs,dj,sub,sl⟩:=h;rw[b6,b6]at dM;refine⟨λb=>∃i,e.length<=i/\Fs i b,λb ⟨i,_,z⟩=>sub i b z,⟨by lia,λb ⟨i,_,z⟩=>mu b (sub i b z),λi=>Fs (e.length + i),λi j b hi hj=>by have:=dj _ _ b hi hj;lia,λi b hb=>⟨_,by lia,hb⟩,λi β aL=> ?_⟩⟩;have rZ:(Z++τ)[e.length + i]?=some (some β):=by
  rw[hl,bL (by lia),show Z.length + i - Z.length=i by lia];exact aL
 obtain⟨v,ev,sv⟩:=sl _ _ rZ;rw[bL (by lia),show e.length + i - e.length=i by lia]at ev;refine⟨v,ev, ?_⟩;cases β with
 |own d=>exact sv
 |ro d=>exact Vw.mono sv λb nb ⟨j,_,z⟩=>nb (sub j b z)
 |aT r p=>exact absurd rfl (uj _ (jR aL) r p)
theorem cz.pick{dr:List V}{lX:List D}(h:cz K H U 0 (vs.map some) (cJ ds))(hl:dr.length=lX.length)(π:Nat->Nat)(inj:∀i j,i < dr.length->j < dr.length->π i=π j->i=j)
  (hv:∀(i:Nat) (x:V),dr[i]?=some x->vs[π i]?=some x) (hd:∀(i:Nat) (x:D),lX[i]?=some x->ds[π i]?=some x):cz K H U 0 (dr.map some) (cJ lX):=by
 obtain⟨dM,mu,Fs,dj,sub,sl⟩:=h;refine⟨by unfold cJ;rw[eG,eG];exact hl,mu,λi b=>i < dr.length/\Fs (π i) b,λi j b hi hj=>inj i j hi.1 hj.1 (dj _ _ b hi.2 hj.2),λi b hb=>sub _ b hb.2,λi β aL=> ?_⟩;unfold cJ at aL;rw[du]at aL;cases q:lX[i]? with
 |none=>rw[q]at aL;cases aL
 |some x=>
  rw[q]at aL;cases aL;obtain⟨u,hu⟩:=lU hl q;obtain⟨v,ev,sv⟩:=sl (π i) (.own x) (by unfold cJ;rw[du,hd i x q];rfl);rw[du,hv i u hu]at ev;cases ev;exact⟨u,by rw[du,hu];rfl,bb.mono sv λb z=>⟨(cb.mp hu).1,z⟩⟩
theorem Jl{α:Type}{xs:List α}{x:α}:∀(i:Nat) (y:α),(x::xs)[i]?=some y->(xs++ [x])[if i=0 then xs.length else i - 1]?=some y:=λi y h=>by
 cases i with
 |zero=>simp at h |-;exact h
 |succ i=>
  have h:xs[i]?=some y:=by simpa using h
  rw[if_neg (Nat.succ_ne_zero i),NP,aV (cb.mp h).1];exact h
theorem cz.Sf(h:cz K H U 0 ((vs++ [v]).map some) (cJ (ds++ [d]))):cz K H U 0 ((v::vs).map some) (cJ (d::ds)):=by
 have hl:vs.length=ds.length:=by have:=h.len;unfold cJ at this;simp at this;lia
 refine h.pick (by simp[hl]) (λi=>if i=0 then vs.length else i - 1) (λi j hi hj q=> ?_) Jl (by rw[hl];exact Jl);rw[eU]at hi hj;by_cases c1:i=0
 ·by_cases c2:j=0
  ·lia
  ·simp only[if_pos c1,if_neg c2]at q;lia
 ·by_cases c2:j=0
  ·simp only[if_neg c1,if_pos c2]at q;lia
  ·simp only[if_neg c1,if_neg c2]at q;lia
theorem Sg{t:TS}[S:SS K n t f](h:gy K bc (gF n bc f) vs H Q X)(hm:bc.length<=n):t { nx:=λ_ H'=>Q .az H',rt:=Q } (lW n vs) H:=by
 obtain⟨hv,ds,U,d,cW,hd,ok,vw,hG,k⟩:=h;have l1:=C7 n 0 (bc:=bc) (ds:=ds) hd;have l2:=zm (bc:=bc) hv hd;have lE:(nV n bc ds).length=n + (b8 bc ds).length:=by
  unfold nV cJ;rw[b6,b6,l1,vp,eG]
  lia
 have sL:(lW n vs).length=n:=by unfold lW;simp;lia
 have I:aB K n H U (lW n vs) ((b8 bc vs).map some) (nV n bc ds) [] []:=by
  obtain⟨ol,mu,Fs,dj,sub,sl⟩:=ok;refine⟨⟨by rw[mC,mC,fO,fO,b6,sL,lE,eG,l2],mu,λi b=>n<=i/\Fs (i - n) b,λi j b hi hj=>by have:=dj _ _ b hi.2 hj.2;lia,λi b hb=>sub _ b hb.2,λi β aL=> ?_⟩,by rw[sL,eG,l2,lE],sL⟩;rw[mC,fO]at aL;rw[mC,fO];by_cases hi:i < n
  ·have wM:(kq n 0 bc ds++bK (n - bc.length) none)[i]?=some (some β):=by
    unfold nV at aL;rw[aV (by rw[b6,l1,vp];lia)]at aL;exact aL
   by_cases Jc:i < bc.length
   ·rw[aV (by lia)]at wM;have sv:∀v,vs[i]?=some v->(lW n vs++(b8 bc vs).map some)[i]?=some (some v):=λv q=>by
     rw[aV (by lia)];unfold lW;rw[aV (by simp;lia),du,q];rfl
    rcases C8 n 0 (vs:=vs) hd hv wM with⟨x,rfl,b,c⟩ | ⟨j',x,rfl,_,c,q⟩
    ·obtain⟨v,Jm⟩:=lU (vs:=vs) (by lia) c;exact⟨v,sv v Jm,vw i v x b Jm c⟩
    ·refine⟨x,sv x q, ?_,x, ?_, .nil x⟩
     ·have:=(cb.mp c).1;rw[lE]
      lia
     ·rw[bL (by lia),sL,du,show n + j' - n=j' - 0 by lia,c];rfl
   ·rw[bL (by lia),Br]at wM
    split at wM <;> cases wM
  ·have Jn:(cJ (b8 bc ds))[i - n]?=some (some β):=by
    unfold nV at aL;rw[bL (by rw[b6,l1,vp];lia)]at aL;rw[b6,l1,vp,show bc.length + (n - bc.length)=n by lia]at aL;exact aL
   obtain⟨v,ev,sv⟩:=sl _ β Jn;refine⟨v,by rw[bL (by lia),sL];exact ev, ?_⟩;cases β with
   |own x=>exact bb.mono sv λb z=>⟨by lia,z⟩
   |ro x=>exact sv
   |aT r p=>exact absurd rfl (ur _ _ (jR Jn) r p)
 have fin:∀{ρ':En} {v:V} {aM:List (Option V)} {H':Hp} {U':Addr->Prop},aB K n H' U' aM ((b8 bc vs).map some) ρ' [v] [d]->jM (ρ'.drop n)=some cW->bF U H U' H'->Q v H':=λ{ρ' v aM H' U'} J ho st=>by
  have eo:=Jk ho;have ln:=J.len;have nn:=J.nn;have er:ρ'=ρ'.take n++cJ cW:=by rw[<- eo,List.take_append_drop]
  have C9:=J.ok;have lt:aM.length=(ρ'.take n).length:=by rw[xZ];lia
  -- first mH names go,then mH last one comes to mH front
  have C9:cz K H' U' ρ'.length (aM++((b8 bc vs).map some++ [some v])) (ρ'.take n++(cJ cW++ [some (.own d)])):=by
   rw[<- cZ, <- cZ, <- er];exact C9
  obtain⟨Ut,su,ot⟩:=C9.tail lt λb hb q p=>by
   rcases lJ.mp hb with z | z
   ·exact ur cW b z q p
   ·rw[j8.mp z];exact λw=>nomatch w
  have Sh:cz K H' Ut 0 ((b8 bc vs++ [v]).map some) (cJ (cW++ [d])):=by
   unfold cJ at ot |-;rw[cf,cf];exact ot
  refine k v H' Ut Sh.Sf λb o q nu=>⟨(st b o q nu).1,λz=>(st b o q nu).2 (su b z)⟩
 unfold gF at hG
 split at hG
 ·next d' ρ' q=>
  obtain⟨o,h1,h2⟩:=aX.mp hG;cases h2;exact S.s I q λv aM H' U' J st=>fin J h1 st
 ·next ρ' q=>
  obtain⟨o,h1,h2⟩:=aX.mp hG;cases h2;refine S.s I q λaM H' U' J st=> ?_;obtain⟨U2,J2,d5⟩:=J.push (aQ.refl H') (dF.sc (K:=K) .az);exact fin J2 h1 (st.trans d5)
 ·cases hG
end
section
theorem aB.zo(I:aB K n H U σ hv Z af ab):cz K H U Z.length (σ++hv++af.map some) (Z++cJ ab):=I.ok
theorem aB.lend(I:aB K n H U σ hv Z af ab)(w:fw K H U (σ++hv) Z v (.rt r p))(hr:aP Z r=some d0)(hg:aJ d0 p=some d1):
  aB K n H U σ hv (Z.set r (some (.own (bf d0 p (.hl v))))) (af++ [v]) (ab++ [d1]):=by
 have l:=I.len;have tl:=I.tl;obtain⟨iu,vr,RZ,er,wG,_,hp⟩:=w;rw[hr]at wG;cases wG;refine⟨?_,by rw[bI];exact l,I.nn⟩;have k:=I.zo.take (r:=r) (p:=p) (vr:=vr) (u:=v) (by simp;lia) (by rw[aV iu];exact kE hr) (by rw[aV (by simp;lia)];exact er) hp hg;rw[bI,cf,cf, <- cZ, <- cZ];rw[p9 _ _ iu]at k;exact k
theorem aB.back(I:aB K n H U σ hv Z (af++ [v]) (ab++ [d]))(hr:aP Z r=some d0)(hg:aJ d0 p=some (.hl v)):aB K n H U σ hv (Z.set r (some (.own (bf d0 p d)))) af ab:=by
 have l:=I.len;have tl:=I.tl;have tl:af.length=ab.length:=by simp at tl;lia
 have uk:=kE hr;have iu:r < Z.length:=(cb.mp uk).1;have ok:=I.ok;rw[cf,cf, <- cZ, <- cZ]at ok;have k:=ok.put (r:=r) (p:=p) (d0:=d0) (by simp;lia) (by simp;lia) (by rw[aV iu];exact uk) hg;rw[p9 _ _ iu]at k;exact⟨by rw[bI];exact k,by rw[bI];exact l,I.nn⟩
theorem aB.pick(I:aB K n H U σ hv Z (af++vs) (ab++ds))(hl:vs.length=ds.length)(h2:dr.length=lX.length)(π:Nat->Nat)(inj:∀i j,i < dr.length->j < dr.length->π i=π j->i=j)
  (i3:∀(i:Nat) (x:V),dr[i]?=some x->vs[π i]?=some x) (oQ:∀(i:Nat) (x:D),lX[i]?=some x->ds[π i]?=some x):aB K n H U σ hv Z (af++dr) (ab++lX):=by
 have l:=I.len;have tl:=I.tl;have tl:af.length=ab.length:=by simp at tl;lia
 obtain⟨he,mu,Fs,dj,sub,sl⟩:=I.ok;have base:(σ++hv++af.map some).length=Z.length + ab.length:=by simp;lia
 refine⟨⟨by simp;lia,mu,λi b=>if i < Z.length + ab.length then Fs i b else i < Z.length + ab.length + dr.length/\Fs (Z.length + ab.length + π (i - (Z.length + ab.length))) b,λi j b hi hj=> ?_,λi b hb=> ?_,λi β aL=> ?_⟩,l,I.nn⟩
 ·have hi:if i < Z.length + ab.length then Fs i b else i < Z.length + ab.length + dr.length/\Fs (Z.length + ab.length + π (i - (Z.length + ab.length))) b:=hi;have hj:if j < Z.length + ab.length then Fs j b else j < Z.length + ab.length + dr.length/\Fs (Z.length + ab.length + π (j - (Z.length + ab.length))) b:=hj;by_cases ci:i < Z.length + ab.length
  ·rw[if_pos ci]at hi;by_cases cj:j < Z.length + ab.length
   ·rw[if_pos cj]at hj;exact dj i j b hi hj
   ·rw[if_neg cj]at hj;have:=dj _ _ b hi hj.2;lia
  ·rw[if_neg ci]at hi;by_cases cj:j < Z.length + ab.length
   ·rw[if_pos cj]at hj;have:=dj _ _ b hi.2 hj;lia
   ·rw[if_neg cj]at hj;have:=dj _ _ b hi.2 hj.2;have:=inj (i - (Z.length + ab.length)) (j - (Z.length + ab.length)) (by lia) (by lia) (by lia)
    lia
 ·have hb:if i < Z.length + ab.length then Fs i b else i < Z.length + ab.length + dr.length/\Fs (Z.length + ab.length + π (i - (Z.length + ab.length))) b:=hb;by_cases ci:i < Z.length + ab.length
  ·rw[if_pos ci]at hb;exact sub _ b hb
  ·rw[if_neg ci]at hb;exact sub _ b hb.2
 ·have e0:∀(zs:List V) (j:Nat),j < Z.length + ab.length->(σ++hv++(af++zs).map some)[j]?=(σ++hv++af.map some)[j]?:=λzs j hj=>by
   rw[cf, <- cZ,aV (by lia)]
  have lR:(Z++ab.map λd=>some (B.own d)).length=Z.length + ab.length:=by simp
  by_cases hi:i < Z.length + ab.length
  ·have g1:(Z++(ab++ds).map λd=>some (B.own d))[i]?=some (some β):=by
    rw[cf, <- cZ,aV (by lia)]at aL |-;exact aL
   obtain⟨v,ev,sv⟩:=sl i β g1;refine⟨v,by rw[e0 dr i hi];rw[e0 vs i hi]at ev;exact ev, ?_⟩;have sv:=lT.slots sv (e':=σ++hv++(af++dr).map some) λr hr=>by rw[e0 dr r (by lia),e0 vs r (by lia)]
   cases β with
   |own x=>
    show bb K H (λb=>if i < Z.length + ab.length then Fs i b else _) v x;simp only[if_pos hi];exact sv
   |ro x=>exact sv
   |aT r p=>exact sv
  ·have g0:(lX.map λd=>some (B.own d))[i - (Z.length + ab.length)]?=some (some β):=by
    rw[cf, <- cZ,bL (by lia),lR]at aL;exact aL
   rw[du]at g0;cases q:lX[i - (Z.length + ab.length)]? with
   |none=>rw[q]at g0;cases g0
   |some x=>
    rw[q]at g0;cases g0;obtain⟨u,hu⟩:=lU h2 q;have g1:(Z++(ab++ds).map λd=>some (B.own d))[Z.length + ab.length + π (i - (Z.length + ab.length))]?=some (some (.own x)):=by
     rw[cf, <- cZ,bL (by lia),lR,Gf,du,oQ _ x q];rfl
    obtain⟨v,ev,sv⟩:=sl _ _ g1;rw[cf, <- cZ,bL (by lia),base,Gf,du,i3 _ u hu]at ev;cases ev;have fm:i - (Z.length + ab.length) < dr.length:=(cb.mp hu).1;refine⟨u,by rw[cf, <- cZ,bL (by lia),base,du,hu];rfl, ?_⟩;show bb K H (λb=>if i < Z.length + ab.length then _ else i < Z.length + ab.length + dr.length/\Fs (Z.length + ab.length + π (i - (Z.length + ab.length))) b) u x;simp only[if_neg hi];exact bb.mono sv λb z=>⟨by lia,z⟩
theorem aB.Si(I:aB K n H U σ hv Z (af++ws++vs) (ab++wd++ds))(hl:ws.length=wd.length)(h2:vs.length=ds.length):aB K n H U σ hv Z (af++vs) (ab++ds):=by
 rw[cZ,cZ]at I;exact I.pick (by simp;lia) h2 (λi=>ws.length + i) (λi j _ _ h=>by lia) (λi x h=>by rw[bL (by lia),Gf];exact h) (λi x h=>by rw[hl,bL (by lia),Gf];exact h)
theorem Jo{α:Type}{xs:List α}{x:α}:∀(i:Nat) (y:α),(xs++ [x])[i]?=some y->(x::xs)[if i=xs.length then 0 else i + 1]?=some y:=λi y h=>by
 by_cases c:i=xs.length
 ·subst c;simp at h |-;exact h
 ·have hi:i < xs.length:=by
   have:=(cb.mp h).1;simp at this;lia
  rw[aV hi]at h;rw[if_neg c];simpa using h
theorem aB.Jp(I:aB K n H U σ hv Z (af++(v::vs)) (ab++(d::ds)))(hl:vs.length=ds.length):aB K n H U σ hv Z (af++vs++ [v]) (ab++ds++ [d]):=by
 rw[cZ,cZ];refine I.pick (by simp;exact hl) (by simp;exact hl) (λi=>if i=vs.length then 0 else i + 1) (λi j hi hj h=> ?_) Jo (by rw[hl];exact Jo);by_cases c1:i=vs.length
 ·by_cases c2:j=vs.length
  ·lia
  ·simp only[if_pos c1,if_neg c2]at h;lia
 ·by_cases c2:j=vs.length
  ·simp only[if_neg c1,if_pos c2]at h;lia
  ·simp only[if_neg c1,if_neg c2]at h;lia
structure Io where
 r:Nat
 p:List Nat
def dH:En->List Io->List V->En
 |Z,io::L,v::vs=>match aP Z io.r with
  |some d0=>dH (Z.set io.r (some (.own (bf d0 io.p (.hl v))))) L vs
  |none=>Z
 |Z,_,_=>Z
def lx:En->List Io->Option (List D)
 |_, []=>some []
 |Z,io::L=>(aP Z io.r).bind λd0=>(aJ d0 io.p).bind λd1=>(lx Z L).map (d1:: ·)
def jb(cF:En):En->List Io->List D->En
 |Z,io::L,o::os=>match aP cF io.r with
  |some d0=>jb cF (Z.set io.r (some (.own (bf d0 io.p o)))) L os
  |none=>Z
 |Z,_,_=>Z
def lY(L:List Io):Prop:=L.Pairwise λa b=>a.r≠b.r
instance (L:List Io):Decidable (lY L):=inferInstanceAs (Decidable (L.Pairwise _))
theorem aB.Jq:∀{L:List Io} {Z:En} {af:List V} {ab:List D} {vs:List V} {ds:List D},aB K n H U σ hv Z af ab->lY L->lx Z L=some ds->vs.length=L.length->(∀(i:Nat) (io:Io) (v:V),L[i]?=some io->vs[i]?=some v->fw K H U (σ++hv) Z v (.rt io.r io.p))->
  aB K n H U σ hv (dH Z L vs) (af++vs) (ab++ds)
 | [],Z,af,ab,vs,ds,I,_,h,hl,_=>by
  cases h;have:vs= []:=tM hl;subst this;rw[fO,fO];simp only[dH];exact I
 |io::L,Z,af,ab, [],ds,I,_,h,hl,_=>by cases hl
 |io::L,Z,af,ab,v::vs,ds,I,ha,h,hl,hp=>by
  rw[lx]at h;obtain⟨d0,h1,h⟩:=aj.mp h;obtain⟨d1,h2,h⟩:=aj.mp h;obtain⟨lX,h3,h⟩:=aX.mp h;subst h;have ap:=Bz.mp ha;have I1:=I.lend (hp 0 io v rfl rfl) h1 h2;have Jr:∀j∈L,aP (Z.set io.r (some (.own (bf d0 io.p (.hl v))))) j.r=aP Z j.r:=λj hj=>nR (ap.1 j hj);have Sj:∀(M:List Io) (hM:∀j∈M,j∈L) (ds:List D),lx Z M=some ds->lx (Z.set io.r (some (.own (bf d0 io.p (.hl v))))) M=some ds:=by
   intro M
   induction M with
   |nil=>intro _ ds h;exact h
   |cons j M ih=>
    intro hM ds h;rw[lx]at h |-;rw[Jr j (hM j (.head _))];obtain⟨a,x1,h⟩:=aj.mp h;obtain⟨b,x2,h⟩:=aj.mp h;obtain⟨c,x3,h⟩:=aX.mp h;rw[x1];show(aJ a j.p).bind _=_;rw[x2];show(lx _ M).map _=_;rw[ih (λk hk=>hM k (.tail _ hk)) c x3];exact congrArg some h
  have I2:=I1.Jq ap.2 (Sj L (λj hj=>hj) lX h3) (vs:=vs) (eP hl) λi j u hj hu=>by
   obtain⟨q1,vr,dd,q2,q3,q4,q5⟩:=hp (i + 1) j u (by simpa using hj) (by simpa using hu);exact⟨by rw[bI];exact q1,vr,dd,q2,by rw[Jr j (jR hj)];exact q3,q4,q5⟩
  rw[dH,h1];rw[p8,p8 ab];exact I2
def qx(ρ1 ρ2:En):Prop:=∀s q,((aP ρ1 s).bind (aJ · q)).isSome=((aP ρ2 s).bind (aJ · q)).isSome
theorem Sk(h:qx ρ1 ρ2)(b:Option B):jv ρ1 b=jv ρ2 b:=by
 cases b with
 |none=>rfl
 |some c=>
  cases c with
  |own d=>rfl
  |ro d=>rfl
  |aT r p=>
   show(if p= []\/((aP ρ1 r).bind (aJ · p)).isSome=true then some (B.aT r p) else none)=(if p= []\/((aP ρ2 r).bind (aJ · p)).isSome=true then some (B.aT r p) else none);rw[h r p]
theorem qx.hole{d0 e0 d1 e1 x y:D}(h:qx ρ1 ρ2)(l1:r < ρ1.length)(l2:r < ρ2.length)(g:∀q,(aJ (bf d0 p x) q).isSome=(aJ (bf e0 p y) q).isSome):qx (ρ1.set r (some (.own (bf d0 p x)))) (ρ2.set r (some (.own (bf e0 p y)))):=λs q=>by
 by_cases c:r=s
 ·subst c;rw[wF l1,wF l2];exact g q
 ·rw[nR c,nR c];exact h s q
theorem sd:∀(Z:En) (L:List Io) (vs:List V),(dH Z L vs).length=Z.length
 |Z, [],vs=>by simp[dH]
 |Z,io::L, []=>by simp[dH]
 |Z,io::L,v::vs=>by
  rw[dH];cases aP Z io.r with
  |none=>rfl
  |some d0=>show(dH _ L vs).length=_;rw[sd,bI]
theorem Sl(h:ρ1[s]?=ρ2[s]?):aP ρ1 s=aP ρ2 s:=by unfold aP;rw[h]
theorem Js:∀{L:List Io} {ρ1 ρ2:En} {vs us:List V},lY L->qx ρ1 ρ2->ρ1.length=ρ2.length->(∀io∈L,∃d0 d1,aP ρ1 io.r=some d0/\aP ρ2 io.r=some d0/\aJ d0 io.p=some d1)->vs.length=L.length->us.length=L.length->qx (dH ρ1 L vs) (dH ρ2 L us)
 | [],ρ1,ρ2,vs,us,_,h,_,_,_,_=>by simp only[dH];exact h
 |io::L,ρ1,ρ2, [],us,_,_,_,_,h,_=>by cases h
 |io::L,ρ1,ρ2,_, [],_,_,_,_,_,h=>by cases h
 |io::L,ρ1,ρ2,v::vs,u::us,ha,h,hl,hr,l1,l2=>by
  obtain⟨d0,d1,q1,q2,q3⟩:=hr io (.head _);have ap:=Bz.mp ha;have r1:io.r < ρ1.length:=(cb.mp (kE q1)).1;rw[dH,dH,q1,q2];refine Js ap.2 (h.hole (d1:=d1) (e1:=d1) r1 (by lia) λq=>C2 q3 rfl rfl (λ_ _=>by rw[aJ]) λ_ _=>by rw[aJ]) (by rw[bI,bI];exact hl) (λj hj=> ?_) (eP l1) (eP l2);obtain⟨e0,e1,x1,x2,x3⟩:=hr j (.tail _ hj);exact⟨e0,e1,by rw[nR (ap.1 j hj)];exact x1,by rw[nR (ap.1 j hj)];exact x2,x3⟩
theorem Dc:∀{L:List Io} {Z:En} {ds:List D},lx Z L=some ds->∀io∈L,∃d0 d1,aP Z io.r=some d0/\aJ d0 io.p=some d1
 |io::L,Z,ds,h,j,hj=>by
  rw[lx]at h;obtain⟨d0,h1,h⟩:=aj.mp h;obtain⟨d1,h2,h⟩:=aj.mp h;obtain⟨lX,h3,h⟩:=aX.mp h;cases hj with
  |head=>exact⟨d0,d1,h1,h2⟩
  |tail _ hj=>exact Dc h3 j hj
theorem Sm(ha:lY L)(h:lx Z L=some ds)(l1:vs.length=L.length)(l2:us.length=L.length):qx (dH Z L vs) (dH Z L us):=
 Js ha (λ_ _=>rfl) rfl (λio pF=>let ⟨d0,d1,a,b⟩:=Dc h io pF;⟨d0,d1,a,a,b⟩) l1 l2
theorem zq:∀{L:List Io} {Z:En} {vs:List V} {s:Nat},(∀io∈L,io.r≠s)->(dH Z L vs)[s]?=Z[s]?
 | [],Z,vs,s,_=>by simp only[dH]
 |io::L,Z, [],s,_=>by simp only[dH]
 |io::L,Z,v::vs,s,h=>by
  rw[dH];cases aP Z io.r with
  |none=>rfl
  |some d0=>
   show(dH _ L vs)[s]?=_;rw[zq λj hj=>h j (.tail _ hj),fF (h io (.head _))]
theorem De:∀{L:List Io} {Z:En} {vs:List V} {i:Nat} {io:Io} {d0:D},lY L->vs.length=L.length->L[i]?=some io->aP Z io.r=some d0->(∀j∈L,∃e,aP Z j.r=some e)->∃v,vs[i]?=some v/\aP (dH Z L vs) io.r=some (bf d0 io.p (.hl v))
 | [],Z,vs,i,io,d0,_,_,h,_,_=>by simp at h
 |j::L,Z, [],i,io,d0,_,h,_,_,_=>by cases h
 |j::L,Z,v::vs,0,io,d0,ha,hl,h,hr,al=>by
  cases h;have ap:=Bz.mp ha;have iu:j.r < Z.length:=(cb.mp (kE hr)).1;refine⟨v,rfl, ?_⟩;rw[dH,hr];show aP (dH _ L vs) j.r=_;rw[Sl (zq λk hk=>(ap.1 k hk).symm),wF iu]
 |j::L,Z,v::vs,i + 1,io,d0,ha,hl,h,hr,al=>by
  have ap:=Bz.mp ha;have h:L[i]?=some io:=by simpa using h
  obtain⟨e,he⟩:=al j (.head _);have ne:=ap.1 io (jR h);rw[dH,he];obtain⟨u,hu,q⟩:=De (Z:=Z.set j.r (some (.own (bf e j.p (.hl v))))) ap.2 (eP hl) h (d0:=d0) (by rw[nR ne];exact hr) λk hk=>by
   obtain⟨x,hx⟩:=al k (.tail _ hk);exact⟨x,by rw[nR (ap.1 k hk)];exact hx⟩
  exact⟨u,by simpa using hu,q⟩
inductive Ar where
 |io (i:Io) | tm (d:D) | rv (q:Pl) (d:D)
inductive jw(K:ak)(H:Hp)(U:Addr->Prop)(e:List (Option V))(Z:En):List Bool->List V->List Ar->List V->List D->Prop
 |nil:jw K H U e Z [] [] [] [] []
 |io {m:List Bool} {v:V} {i:Io} {vs:List V} {as:List Ar} {ws:List V} {wd:List D}:fw K H U e Z v (.rt i.r i.p)->jw K H U e Z m vs as ws wd->jw K H U e Z (true::m) (v::vs) (.io i::as) ws wd
 |tm {m:List Bool} {v:V} {d:D} {vs:List V} {as:List Ar} {ws:List V} {wd:List D}:jw K H U e Z m vs as ws wd->jw K H U e Z (false::m) (v::vs) (.tm d::as) (v::ws) (d::wd)
 |rv {m:List Bool} {v:V} {q:Pl} {d:D} {vs:List V} {as:List Ar} {ws:List V} {wd:List D}:fw K H U e Z v q->fB Z q=some d->jw K H U e Z m vs as ws wd->jw K H U e Z (false::m) (v::vs) (.rv q d::as) ws wd
class qy(K:ak)(n:Nat)(bc:List Bool)(t:TA)(f:outParam (En->Option (List Ar))):Prop where
 s:∀{σ hv:List (Option V)} {H:Hp} {U:Addr->Prop} {Z:En} {af:List V} {ab:List D} {as:List Ar} {Q:List V->Hp->Prop},aB K n H U σ hv Z af ab->f Z=some as->
  (∀vs ws wd H' U',aB K n H' U' σ hv Z (af++ws) (ab++wd)->ws.length=wd.length->bF U H U' H'->aQ H H'->jw K H' U' (σ++hv) Z bc vs as ws wd->Q vs H')->t σ H Q
class SC(K:ak)(n:Nat)(bc:List Bool)(t:TA)(f:outParam (En->Option (List Ar×En))):Prop where
 s:∀{σ hv:List (Option V)} {H:Hp} {U:Addr->Prop} {Z ρ':En} {af:List V} {ab:List D} {as:List Ar} {Q:List V->Hp->Prop},aB K n H U σ hv Z af ab->f Z=some (as,ρ')->
  (∀vs ws wd H' U',aB K n H' U' σ hv ρ' (af++ws) (ab++wd)->ws.length=wd.length->bF U H U' H'->jw K H' U' (σ++hv) ρ' bc vs as ws wd->Q vs H')->t σ H Q
theorem fw.step(h:fw K H U e Z v q)(s:aQ H H')(st:bF U H U' H'):fw K H' U' e Z v q:=by
 cases q with
 |ro d=>
  have h:Vw K H (λb=>¬ U b) v d:=h;exact h.over (λb o nb q=>st b o q nb) (fJ.of s)
 |rt r p=>
  obtain⟨a,vr,d,b,c,e,f⟩:=h;exact⟨a,vr,d,b,c,e,f.same s⟩
instance aan:qy K n [] gR (λ_=>some []):=⟨λ{σ hv H U Z af ab as Q} I h k=>by
 cases h;exact k [] [] [] H U (by rw[fO,fO];exact I) rfl (bF.refl U H) (aQ.refl H) .nil⟩
noncomputable def cG (fp:En->Option Pl) (fr:En->Option (List Ar)) (Z:En):Option (List Ar):=(fp Z).bind λ
 |.rt r p=>(fr Z).map (.io ⟨r,p⟩:: ·)
 |.ro _=>none
instance aao[P:SP K n te fp][R:qy K n m tr fr]:qy K n (true::m) (gq te tr) (cG fp fr):=⟨λ{σ hv H U Z af ab as Q} I h k=>by
 obtain⟨q,h1,h⟩:=aj.mp h;cases q with
 |ro _=>cases h
 |rt r p=>
  obtain⟨wN,h2,h⟩:=aX.mp h;subst h;refine P.s I h1 λv H1 s1 w1=> ?_;have fL:bF U H U H1:=λb o q nu=>⟨s1 b o q,nu⟩
  refine R.s (I.same s1) h2 λvs ws wd H2 U2 I2 hl d5 s2 ao=> ?_;exact k (v::vs) ws wd H2 U2 I2 hl (fL.trans d5) (s1.trans s2) (.io (w1.step s2 d5) ao)⟩
noncomputable def fX (fe:En->Option D) (fr:En->Option (List Ar)) (Z:En):Option (List Ar):=(fe Z).bind λd=>(fr Z).map (.tm d:: ·)
instance (priority:=200) aap{m:List Bool}{te:TE}{tr:TA}{fe:En->Option D}{fr:En->Option (List Ar)}[A:SQ K n te fe][R:qy K n m tr fr]:qy K n (false::m) (gq te tr) (fX fe fr):=⟨λ{σ hv H U Z af ab as Q} I h k=>by
 obtain⟨d,h1,h⟩:=aj.mp h;obtain⟨wN,h2,h⟩:=aX.mp h;subst h;refine SQ.s (f:=fe) I h1 λv H1 U1 I1 cT s1=> ?_;refine R.s I1 h2 λvs ws wd H2 U2 I2 hl d5 s2 ao=> ?_;refine k (v::vs) (v::ws) (d::wd) H2 U2 ?_ (by rw[eU,eU,hl]) (cT.trans d5) (s1.trans s2) (.tm ao);rw[p8,p8 ab];exact I2⟩
def eJ(fp:En->Option Pl)(fr:En->Option (List Ar))(Z:En):Option (List Ar):=(fp Z).bind λq=>(fB Z q).bind λd=>if plain d=true then(fr Z).map (.tm d:: ·) else(fr Z).map (.rv q d:: ·)
instance (priority:=300) aaq{m:List Bool}{te:TE}{tr:TA}{fp:En->Option Pl}{fr:En->Option (List Ar)}[P:SP K n te fp][R:qy K n m tr fr]:qy K n (false::m) (gq te tr) (eJ fp fr):=⟨λ{σ hv H U Z af ab as Q} I h k=>by
 obtain⟨q,h1,h⟩:=aj.mp h;obtain⟨d,h2,h⟩:=aj.mp h;refine P.s I h1 λv H1 s1 w1=> ?_;have I1:=I.same s1;have fL:bF U H U H1:=λb o q nu=>⟨s1 b o q,nu⟩
 by_cases p:plain d=true
 ·rw[if_pos p]at h;obtain⟨wN,h3,h⟩:=aX.mp h;subst h;obtain⟨U1,Df,cT⟩:=I1.push (aQ.refl H1) (dF.plain (I1.at w1 h2) p);refine R.s Df h3 λvs ws wd H2 U2 I2 hl d5 s2 ao=> ?_;refine k (v::vs) (v::ws) (d::wd) H2 U2 ?_ (by rw[eU,eU,hl]) (fL.trans (cT.trans d5)) (s1.trans s2) (.tm ao);rw[p8,p8 ab];exact I2
 ·rw[if_neg p]at h;obtain⟨wN,h3,h⟩:=aX.mp h;subst h;refine R.s I1 h3 λvs ws wd H2 U2 I2 hl d5 s2 ao=> ?_;exact k (v::vs) ws wd H2 U2 I2 hl (fL.trans d5) (s1.trans s2) (.rv (w1.step s2 d5) h2 ao)⟩
instance (priority:=1000) aar{bc:List Bool}{t:TA}{f:En->Option (List Ar)}[S:qy K n bc t f]:SC K n bc t (λZ=>(f Z).map λa=>(a,Z)):=⟨λ{σ hv H U Z ρ' af ab as Q} I h k=>by
 obtain⟨wN,h1,h2⟩:=aX.mp h;cases h2;exact S.s I h1 λvs ws wd H' U' I' hl st s ao=>k vs ws wd H' U' I' hl st ao⟩
noncomputable def cK:List Ar->List Io
 | []=> []
 |.io i::r=>i::cK r
 |.tm _::r=>cK r
 |.rv _ _::r=>cK r
def nW(Z:En):Ar->Option D
 |.io i=>(aP Z i.r).bind (aJ · i.p)
 |.tm d=>some d
 |.rv _ d=>some d
def iw(Z:En):List Ar->Option (List D)
 | []=>some []
 |a::r=>(nW Z a).bind λd=>(iw Z r).map (d:: ·)
noncomputable def qz:List Nat->List Nat->Bool
 |a::p,b::q=> !decide (a=b) || qz p q
 |_,_=>false
def qA(L:List Io):Ar->Bool
 |.rv (.rt r p) _=>L.all λi=> !decide (i.r=r) || qz i.p p
 |_=>true
theorem Jt:∀{p q:List Nat} {d d1 x:D},qz p q=true->aJ d p=some d1->plain x=false->aJ (bf d p x) q=aJ d q
 | [],_,_,_,_,h,_,_=>by simp[qz]at h
 |_::_, [],_,_,_,h,_,_=>by simp[qz]at h
 |a::p,b::q, .sc _,d1,x,h,g,hx=>by rw[aJ]at g;cases g
 |a::p,b::q, .hl _,d1,x,h,g,hx=>by rw[aJ]at g;cases g
 |a::p,b::q, .nd k cs,d1,x,h,g,hx=>by
  rw[aJ]at g;by_cases cH:cV k=true/\bq cs=true
  ·rw[if_pos cH]at g;cases g
  rw[if_neg cH]at g;cases hc:cs[a]? with
  |none=>rw[hc]at g;cases g
  |some c=>
   rw[hc]at g;have hn:=(cb.mp hc).1;have e1:bf (.nd k cs) (a::p) x= .nd k (cs.set a (bf c p x)):=by rw[bf,hc]
   have px:=um hn (uo g hx);rw[e1,aJ,aJ,if_neg (by rintro⟨_,z⟩;rw[px]at z;cases z),if_neg cH];by_cases e:a=b
   ·subst e;rw[eN hn,hc];have h:qz p q=true:=by simpa[qz]using h
    exact Jt h g hx
   ·rw[fF e]
def pG(Z:En)(L:List Io)(cW:List D):En:=jb Z (gA (dH Z L (L.map λ_=>V.az))) L cW
theorem jw.len(h:jw K H U e Z m vs as ws wd):vs.length=m.length/\as.length=m.length/\ws.length=wd.length:=by
 induction h with
 |nil=>exact⟨rfl,rfl,rfl⟩
 |io _ _ ih=>exact⟨congrArg _ ih.1,congrArg _ ih.2.1,ih.2.2⟩
 |tm _ ih=>exact⟨congrArg _ ih.1,congrArg _ ih.2.1,congrArg _ ih.2.2⟩
 |rv _ _ _ ih=>exact⟨congrArg _ ih.1,congrArg _ ih.2.1,ih.2.2⟩
theorem jw.Sn(h:jw K H U e Z m vs as ws wd):(b8 m vs).length=(cK as).length/\∀(i:Nat) (io:Io) (v:V),(cK as)[i]?=some io->(b8 m vs)[i]?=some v->fw K H U e Z v (.rt io.r io.p):=by
 induction h with
 |nil=>exact⟨rfl,λi io v h=>by simp[cK]at h⟩
 | @io m v i vs as ws wd p _ ih=>
  refine⟨by rw[b8,cK,eU,eU,ih.1],λj io u h1 h2=> ?_⟩;rw[cK]at h1;rw[b8]at h2;cases j with
  |zero=>cases h1;cases h2;exact p
  |succ j=>exact ih.2 j io u (by simpa using h1) (by simpa using h2)
 |tm _ ih=>rw[b8,cK];exact ih
 |rv _ _ _ ih=>rw[b8,cK];exact ih
theorem jw.Ju(h:jw K H U e Z m vs as ws wd):∀{ds:List D},iw Z as=some ds->ds.length=m.length/\lx Z (cK as)=some (b8 m ds):=by
 induction h with
 |nil=>intro ds q;cases q;exact⟨rfl,rfl⟩
 | @io m v i vs as ws wd p _ ih=>
  intro ds q;rw[iw]at q;obtain⟨x,q1,q⟩:=aj.mp q;obtain⟨r,q2,q⟩:=aX.mp q;subst q;obtain⟨l1,l2⟩:=ih q2;refine⟨congrArg _ l1, ?_⟩;obtain⟨d0,x1,x2⟩:=aj.mp q1;rw[cK,lx,b8,x1];show(aJ d0 i.p).bind _=_;rw[x2];show(lx Z (cK as)).map _=_;rw[l2];rfl
 |tm _ ih=>
  intro ds q;rw[iw]at q;obtain⟨x,q1,q⟩:=aj.mp q;obtain⟨r,q2,q⟩:=aX.mp q;subst q;obtain⟨l1,l2⟩:=ih q2;exact⟨congrArg _ l1,l2⟩
 |rv _ _ _ ih=>
  intro ds q;rw[iw]at q;obtain⟨x,q1,q⟩:=aj.mp q;obtain⟨r,q2,q⟩:=aX.mp q;subst q;obtain⟨l1,l2⟩:=ih q2;exact⟨congrArg _ l1,l2⟩
theorem jw.seen(h:jw K H U e Z m vs as ws wd):∀{ds:List D},iw Z as=some ds->(∀(i:Nat) (w:V) (d:D),ws[i]?=some w->wd[i]?=some d->Vw K H N w d)->
  (∀q d v,fw K H U e Z v q->fB Z q=some d->Ar.rv q d∈as->Vw K H N v d)->∀(i:Nat) (v:V) (d:D),m[i]?=some false->vs[i]?=some v->ds[i]?=some d->Vw K H N v d:=by
 induction h with
 |nil=>intro ds q _ _ i v d h;simp at h
 |io _ _ ih=>
  intro ds q hw hs i v d h1 h2 h3;rw[iw]at q;obtain⟨x,q1,q⟩:=aj.mp q;obtain⟨r,q2,q⟩:=aX.mp q;subst q;cases i with
  |zero=>cases h1
  |succ i=>exact ih q2 hw (λq d v a b c=>hs q d v a b (.tail _ c)) i v d (by simpa using h1) (by simpa using h2) (by simpa using h3)
 |tm _ ih=>
  intro ds q hw hs i v d h1 h2 h3;rw[iw]at q;obtain⟨x,q1,q⟩:=aj.mp q;obtain⟨r,q2,q⟩:=aX.mp q;subst q;cases q1;cases i with
  |zero=>cases h2;cases h3;exact hw 0 _ _ rfl rfl
  |succ i=>exact ih q2 (λi w d a b=>hw (i + 1) w d (by simpa using a) (by simpa using b)) (λq d v a b c=>hs q d v a b (.tail _ c)) i v d (by simpa using h1) (by simpa using h2) (by simpa using h3)
 |rv p1 p2 _ ih=>
  intro ds q hw hs i v d h1 h2 h3;rw[iw]at q;obtain⟨x,q1,q⟩:=aj.mp q;obtain⟨r,q2,q⟩:=aX.mp q;subst q;cases q1;cases i with
  |zero=>cases h2;cases h3;exact hs _ _ _ p1 p2 (.head _)
  |succ i=>exact ih q2 hw (λq d v a b c=>hs q d v a b (.tail _ c)) i v d (by simpa using h1) (by simpa using h2) (by simpa using h3)
theorem aB.Jv(cF:En):∀{L:List Io} {Z:En} {vs:List V} {cW:List D},aB K n H U σ hv Z (af++vs) (ab++cW)->lY L->vs.length=L.length->cW.length=L.length->
  (∀(i:Nat) (io:Io) (v:V),L[i]?=some io->vs[i]?=some v->∃d0 d1,aP cF io.r=some d0/\aJ d0 io.p=some d1/\aP Z io.r=some (bf d0 io.p (.hl v)))->aB K n H U σ hv (jb cF Z L cW) af ab
 | [],Z,vs,cW,I,_,h1,h2,_=>by
  have e1:vs= []:=tM h1;have e2:cW= []:=tM h2;subst e1;subst e2;rw[fO,fO]at I;simp only[jb];exact I
 |io::L,Z, [],cW,I,_,h1,h2,_=>by cases h1
 |io::L,Z,v::vs, [],I,_,h1,h2,_=>by cases h2
 |io::L,Z,v::vs,o::cW,I,ha,h1,h2,hq=>by
  have ap:=Bz.mp ha;obtain⟨d0,d1,q1,q2,q3⟩:=hq 0 io v rfl rfl;have I1:=(I.Jp (by have:=eP h1;have:=eP h2;lia)).back q3 (CS q2 rfl);rw[CT q2]at I1;rw[jb,q1];refine I1.Jv cF ap.2 (eP h1) (eP h2) λi j u hj hu=> ?_;obtain⟨e0,e1,x1,x2,x3⟩:=hq (i + 1) j u (by simpa using hj) (by simpa using hu);exact⟨e0,e1,x1,x2,by rw[nR (ap.1 j (jR hj))];exact x3⟩
theorem Dg(cF:En):∀(Z:En) (L:List Io) (cW:List D),(jb cF Z L cW).length=Z.length
 |Z, [],_=>by simp only[jb]
 |Z,io::L, []=>by simp only[jb]
 |Z,io::L,o::os=>by
  rw[jb];cases aP cF io.r with
  |none=>rfl
  |some d0=>show(jb cF _ L os).length=_;rw[Dg,bI]
theorem Jw(cF:En):∀{L:List Io} {ρ1 ρ2:En} {cW:List D},ρ1.length=ρ2.length->cW.length=L.length->(∀io∈L,∃d0,aP cF io.r=some d0)->(∀io∈L,io.r < ρ1.length)->(∀(i:Nat) (β:B),(∀io∈L,io.r≠i)->ρ1[i]?=some (some β)->ρ2[i]?=some (some β))->
  ∀(i:Nat) (β:B),(jb cF ρ1 L cW)[i]?=some (some β)->(jb cF ρ2 L cW)[i]?=some (some β)
 | [],ρ1,ρ2,cW,_,_,_,_,h,i,β,q=>by
  simp only[jb]at q |-;exact h i β (λ_ z=>nomatch z) q
 |io::L,ρ1,ρ2, [],_,h,_,_,_,_,_,_=>by cases h
 |io::L,ρ1,ρ2,o::os,hl,h2,hr,fm,h,i,β,q=>by
  obtain⟨d0,e0⟩:=hr io (.head _);rw[jb,e0]at q |-;refine Jw cF (by rw[bI,bI];exact hl) (eP h2) (λj hj=>hr j (.tail _ hj)) (λj hj=>by rw[bI];exact fm j (.tail _ hj)) (λj γ hj z=> ?_) i β q;by_cases c:io.r=j
  ·subst c;have:=fm io (.head _);rw[eN this]at z;rw[eN (by lia)];exact z
  ·rw[fF c]at z |-;exact h j γ (λk hk=>by
    cases hk with
    |head=>exact c
    |tail _ hk=>exact hj k hk) z
theorem aB.weaken(I:aB K n H U σ hv ρ2 af ab)(hl:Z.length=ρ2.length)(w:∀(i:Nat) (β:B),Z[i]?=some (some β)->ρ2[i]?=some (some β)):aB K n H U σ hv Z af ab:=by
 have l:=I.len;refine⟨?_,by rw[hl];exact l,I.nn⟩;rw[hl];refine I.ok.weaken (by simp[hl]) λi β h=> ?_;by_cases hi:i < Z.length
 ·rw[aV hi]at h;rw[aV (by lia)];exact w i β h
 ·rw[bL (by lia)]at h;rw[bL (by lia), <- hl];exact h
theorem aB.sets(I:aB K n H U σ hv Z (af++ws) (ab++wd))(hl:ws.length=wd.length)(i:Nat){d:D}(h1:ws[i]?=some w)(h2:wd[i]?=some d):(σ++hv++(af++ws).map some)[Z.length + ab.length + i]?=some (some w)/\(Z++cJ (ab++wd))[Z.length + ab.length + i]?=some (some (.own d)):=by
 have l:=I.len;have tl:=I.tl;have tl:af.length=ab.length:=by simp at tl;lia
 constructor
 ·rw[bL (by simp;lia),du,bL (by simp;lia)];rw[show Z.length + ab.length + i - (σ++hv).length - af.length=i by simp;lia,h1];rfl
 ·unfold cJ;rw[bL (by lia),du,bL (by lia)];rw[show Z.length + ab.length + i - Z.length - ab.length=i by lia,h2];rfl
def qB(G:List D->Option (D×List D))(as:List Ar)(ρ1:En):Option (D×En):=(iw ρ1 as).bind λds=>
 if lY (cK as)/\as.all (qA (cK as))=true then(G ds).bind λr=>if r.2.length=(cK as).length then some (r.1,pG ρ1 (cK as) r.2) else none else none
theorem aB.So{G:List D->Option (D×List D)}{Q:VK}{ρ1:En}(I1:aB K n H1 U1 σ hv ρ1 (af++ws) (ab++wd))(hl:ws.length=wd.length)(cT:bF U H U1 H1)(ao:jw K H1 U1 (σ++hv) ρ1 bc vs as ws wd)
  (h:qB G as ρ1=some (d,ρ')) (k:∀v H' U',aB K n H' U' σ hv ρ' (af++ [v]) (ab++ [d])->bF U H U' H'->Q v H'):gy K bc G vs H1 Q E:=by
 obtain⟨ds,h2,h⟩:=aj.mp h;have c:lY (cK as)/\as.all (qA (cK as))=true:=by
  by_cases c:lY (cK as)/\as.all (qA (cK as))=true
  ·exact c
  ·rw[if_neg c]at h;cases h
 rw[if_pos c]at h;obtain⟨⟨d',cW⟩,h3,h⟩:=aj.mp h;have h:(if cW.length=(cK as).length then some (d',pG ρ1 (cK as) cW) else none)=some (d,ρ'):=h;have co:cW.length=(cK as).length:=by
  by_cases co:cW.length=(cK as).length
  ·exact co
  ·rw[if_neg co]at h;cases h
 rw[if_pos co]at h;cases h;have dM:=ao.len;obtain⟨il,Sq⟩:=ao.Sn;obtain⟨dl,Dh⟩:=ao.Ju h2;have I2:=I1.Jq c.1 Dh il Sq;have l2:=I2.len;have Sr:=I1.tl;have lh:(dH ρ1 (cK as) (b8 bc vs)).length=ρ1.length:=sd _ _ _;have Ss:(b8 bc vs).length=(b8 bc ds).length:=zm dM.1 dl
 -- vM is Ju is parted from all else
 have C3:cz K H1 U1 ρ1.length ((σ++hv++(af++ws).map some)++(b8 bc vs).map some) ((dH ρ1 (cK as) (b8 bc vs)++cJ (ab++wd))++cJ (b8 bc ds)):=by
  have:=I2.ok;rw[lh,cf,cf (l₁:=ab++wd), <- cZ, <- cZ]at this;exact this
 have lE:(σ++hv++(af++ws).map some).length=(dH ρ1 (cK as) (b8 bc vs)++cJ (ab++wd)).length:=by
  unfold cJ;have l1:=I1.len;simp[lh]at Sr |-
  lia
 have hm:ρ1.length<=(σ++hv++(af++ws).map some).length:=by have l1:=I1.len;simp;lia
 obtain⟨Ut,su,Su,seen,back⟩:=C3.call lE hm (ur _);have uu:=Dc Dh;refine⟨dM.1,ds,Ut,d,cW,dl,Su,ao.seen h2 (λi w x hw hx=> ?_) (λq x u pq pd mem=> ?_),h3,λv H2 U2 zj iZ=> ?_⟩
 ·-- vM is under way
  obtain⟨g1,g2⟩:=I2.drop (vs:=b8 bc vs) (ds:=b8 bc ds) Ss |>.sets hl i hw hx;rw[lh]at g1;obtain⟨F,r,nf⟩:=(seen _ w x g1).1 (by rw[lh]at g2;exact g2);exact r.view nf
 ·-- vM is only seen
  cases q with
  |ro y=>
   have pd:some y=some x:=pd;cases pd;have pq:Vw K H1 (λb=>¬ U1 b) u x:=pq;exact pq.mono λb nb z=>nb (su b z)
  |rt r p=>
   obtain⟨hr,vr,d0,er,pE,hg,hp⟩:=pq;have Jy:(aP ρ1 r).bind (aJ · p)=some x:=pd;rw[pE]at Jy;have Jz:aJ d0 p=some x:=Jy;have zr:(σ++hv++(af++ws).map some)[r]?=some (some vr):=by rw[aV (by have l1:=I1.len;simp;lia)];exact er
   have Sv:∀io∈cK as,io.r≠r\/qz io.p p=true:=by
    have:=Gg.mp c.2 _ mem;have:=Gg.mp this;intro io pF;have:=this io pF;by_cases z:io.r=r
    ·right;simpa[z]using this
    ·left;exact z
   by_cases JA:∃(i:Nat) (io:Io),(cK as)[i]?=some io/\io.r=r
   ·obtain⟨i,io,hi,e⟩:=JA;subst e;obtain⟨v2,wO,q⟩:=De (vs:=b8 bc vs) c.1 il hi pE λj hj=>let ⟨a,_,b,_⟩:=uu j hj;⟨a,b⟩;obtain⟨a0,a1,b0,b1⟩:=uu io (jR hi);rw[pE]at b0;cases b0;have q':=kE q;obtain⟨F,rr,nf⟩:=(seen io.r vr _ zr).1 (by rw[aV (by lia)];exact q');have ap:=(Sv io (jR hi)).resolve_left λz=>z rfl;exact rr.sub (by rw[Jt ap b1 rfl];exact Jz) hp nf
   ·have q:(dH ρ1 (cK as) (b8 bc vs))[r]?=some (some (.own d0)):=by
     rw[zq λio pF z=>by
      obtain⟨i,hi⟩:=List.mem_iff_getElem?.mp pF;exact JA ⟨i,io,hi,z⟩]
     exact kE pE
    obtain⟨F,rr,nf⟩:=(seen r vr _ zr).1 (by rw[aV (by lia)];exact q);exact rr.sub Jz hp nf
 ·-- all is given back
  obtain⟨U3,Sw,gS⟩:=back H2 U2 _ _ zj iZ λb hb=>by
   cases hb with
   |head=>exact .inr ⟨d,rfl⟩
   |tail _ hb=>exact RQ cW b hb
  have I3:aB K n H2 U3 σ hv (gA (dH ρ1 (cK as) (b8 bc vs))) (af++ws++(v::b8 bc vs)) (ab++wd++(d::cW)):=by
   refine⟨?_,by rw[ic,lh];exact I1.len,I1.nn⟩;rw[ic,lh];have Sx:cz K H2 U3 ρ1.length (σ++hv++(af++ws).map some++(v::b8 bc vs).map some) ((gA (dH ρ1 (cK as) (b8 bc vs))++cJ (ab++wd))++cJ (d::cW)):=by
    refine Sw.weaken (by rw[b6,b6,b6,ic,ic,b6];rfl) λi β aL=> ?_;by_cases hi:i < ρ1.length + (ab++wd).length
    ·rw[aV (by simp[ic,cJ,lh]at hi |-;lia)]at aL;rw[aV (by simp[ic,cJ,lh]at hi |-;lia)];exact I9 (ur _) i β aL
    ·rw[bL (by simp[ic,cJ,lh]at hi |-;lia)]at aL;rw[bL (by simp[ic,cJ,lh]at hi |-;lia)];simp[ic,cJ,lh]at aL |-;exact aL
   rw[cf (l₁:=af++ws),cf (l₁:=ab++wd), <- cZ, <- cZ];exact Sx
  have I4:=I3.Si hl (by rw[eU,eU,il,co]);have I5:aB K n H2 U3 σ hv (gA (dH ρ1 (cK as) (b8 bc vs))) (af++ [v]++b8 bc vs) (ab++ [d]++cW):=by
   rw[<- p8, <- p8];exact I4
  have I6:=I5.Jv ρ1 (L:=cK as) c.1 il co λi io u hi hu=>by
   obtain⟨a0,a1,b0,b1⟩:=uu io (jR hi);obtain⟨v2,wO,q⟩:=De (vs:=b8 bc vs) c.1 il hi b0 λj hj=>let ⟨a,_,b,_⟩:=uu j hj;⟨a,b⟩;rw[hu]at wO;cases wO;exact⟨a0,a1,b0,b1,by unfold aP;rw[I8 (kE q)]⟩
  refine k v H2 U3 (I6.weaken ?_ ?_) (cT.trans gS)
  ·unfold pG;rw[Dg,Dg,ic,ic,sd,sd]
  ·unfold pG;refine Jw ρ1 (by rw[ic,ic,sd,sd]) co (λio pF=>let ⟨a,_,b,_⟩:=uu io pF;⟨a,b⟩) (λio pF=> ?_) λi β hi aL=> ?_
   ·obtain⟨a,_,b,_⟩:=uu io pF;rw[ic,sd];exact(cb.mp (kE b)).1
   ·unfold gA at aL |-;rw[du,zq hi]at aL |-;rw[<- aL];have sim:qx (dH ρ1 (cK as) (b8 bc vs)) (dH ρ1 (cK as) ((cK as).map λ_=>V.az)):=Sm c.1 Dh il (by simp)
    congr 1
    funext b;exact Sk sim b
instance aas[A:SC K n bc ta fa]:SM K n (qg (gy K bc G) [] E ta) (λZ=>(fa Z).bind λa=>qB G a.1 a.2):=⟨λ{σ hv H U Z ρ' af ab d Q} I h k=>by
 obtain⟨⟨as,ρ1⟩,h1,h⟩:=aj.mp h;refine A.s I h1 λvs ws wd H1 U1 I1 hl cT ao=> ?_;show gy K bc G (vs++ []) H1 Q E;rw[fO];exact I1.So hl cT ao h k⟩
def iE(K:ak)(H H':Hp)(vs:List V)(ds:List D):Prop:=vs.length=ds.length/\∃Fs:Nat->Addr->Prop,(∀i j b,Fs i b->Fs j b->i=j)/\(∀i b,Fs i b->H b=none/\gY (H' b))/\∀(i:Nat) (v:V) (d:D),vs[i]?=some v->ds[i]?=some d->bb K H' (Fs i) v d
theorem iE.nil:iE K H H' [] []:=⟨rfl,λ_ _=>False,λ_ _ _ z=>z.elim,λ_ _ z=>z.elim,λi v d h=>by simp at h⟩
theorem iE.cons(o:dF K H H1 v d)(s1:aQ H1 H2)(t:iE K H1 H2 vs ds)(s0:aQ H H1):iE K H H2 (v::vs) (d::ds):=by
 obtain⟨G,r,f⟩:=o;obtain⟨hl,Fs,dj,fr,rp⟩:=t;have Gn:∀b,G b->∀i,¬ Fs i b:=λb z i w=>by
  obtain⟨u,q⟩:=pj (f b z).2;rw[(fr i b w).1]at q;cases q
 refine⟨by rw[eU,eU,hl],λi b=>match i with | 0=>G b | i + 1=>Fs i b,λi j b hi hj=> ?_,λi b hb=> ?_,λi x y hx hy=> ?_⟩
 ·cases i with
  |zero=>cases j with
   |zero=>rfl
   |succ j=>exact absurd hj (Gn b hi j)
  |succ i=>cases j with
   |zero=>exact absurd hi (Gn b hj i)
   |succ j=>rw[dj i j b hi hj]
 ·cases i with
  |zero=>exact⟨(f b hb).1,wA (f b hb).2 s1⟩
  |succ i=>
   refine⟨?_,(fr i b hb).2⟩;cases q:H b with
   |none=>rfl
   |some o=>have:=(fr i b hb).1;rw[s0 b o q]at this;cases this
 ·cases i with
  |zero=>cases hx;cases hy;exact r.same s1
  |succ i=>exact rp i x y (by simpa using hx) (by simpa using hy)
theorem iE.node(h:iE K H H1 vs ds)(s:aQ H H1)(hp:H1 p=none)(hold:(k= .tup/\o= .tup vs)\/(cV k=false/\fits K k vs.length/\∃dx,o=ho k dx vs)):dF K H (upd H1 p o) (.ref p) (.nd k ds):=by
 obtain⟨hl,Fs,dj,fr,rp⟩:=h;have s2:aQ H1 (upd H1 p o):=g9 hp o;have np:∀i,¬ Fs i p:=λi z=>by
  obtain⟨u,w⟩:=pj (fr i p z).2;rw[hp]at w;cases w
 have Sy:H p=none:=s.free hp;refine⟨λb=>(∃i,Fs i b)\/(cV k=false/\b=p), .nd Fs ?_ hl dj (λi b hb=>⟨.inl ⟨i,hb⟩,λ_ z=>by rw[z]at hb;exact np i hb⟩) λi v d hv hd=>(rp i v d hv hd).same s2,λb hb=> ?_⟩
 ·rcases hold with⟨h1,h2⟩ | ⟨h1,h2,dx,h3⟩
  ·subst h1;show upd H1 p o p=some (.tup vs);rw[gb,h2]
  ·exact i8.put h1 (.inr ⟨h1,rfl⟩) ⟨h1,h2,dx,by rw[gb,h3]⟩
 ·rcases hb with⟨i,hb⟩ | ⟨h1,rfl⟩
  ·exact⟨(fr i b hb).1,wA (fr i b hb).2 s2⟩
  ·refine⟨Sy, ?_⟩;rcases hold with⟨z,_⟩ | ⟨_,_,dx,h3⟩
   ·subst z;cases h1
   ·rw[gb,h3];exact IX (a:=b) h1
class uv(K:ak)(n:Nat)(t:TA)(f:outParam (En->Option (List D))):Prop where
 s:∀{σ hv:List (Option V)} {H:Hp} {U:Addr->Prop} {Z:En} {af:List V} {ab:List D} {ds:List D} {Q:List V->Hp->Prop},aB K n H U σ hv Z af ab->f Z=some ds->(∀vs H',aQ H H'->iE K H H' vs ds->Q vs H')->t σ H Q
instance aat:uv K n gR (λ_=>some []):=⟨λI h k=>by cases h;exact k [] _ (aQ.refl _) .nil⟩
instance aau[A:SQ K n ta fa][R:uv K n tr fr]:uv K n (gq ta tr) (au fa fr):=⟨λ{σ hv H U Z af ab ds Q} I h k=>by
 obtain⟨a,ha,h⟩:=aj.mp h;obtain⟨r,hr,h⟩:=aX.mp h;cases h;refine A.o I ha λx H1 s1 o1=> ?_;exact R.s (I.same s1) hr λxs H2 s2 o2=>k (x::xs) H2 (s1.trans s2) (iE.cons o1 s2 o2 s1)⟩
noncomputable def bu (k:Kd) (f:En->Option (List D)) (Z:En):Option D:=(f Z).bind λr=>if r.length<=aN then some (.nd k r) else none
instance aav[A:uv K n ta fa]:SF K n (tU ta) (bu .tup fa):=⟨λ{σ hv H U Z af ab d Q} I h k=>by
 obtain⟨a,ha,h⟩:=aj.mp h;by_cases c:a.length<=aN
 ·rw[if_pos c]at h;cases h;refine A.s I ha λxs H1 s1 o=>⟨by rw[o.1];exact c,λp hp=> ?_⟩
  exact k _ _ (s1.trans (g9 hp _)) (o.node s1 hp (.inl ⟨rfl,rfl⟩))
 ·rw[if_neg c]at h;cases h⟩
instance Sz[A:uv K n ta fa]:SF K n (rJ ta) (bu .lst fa):=⟨λ{σ hv H U Z af ab d Q} I h k=>by
 obtain⟨a,ha,h⟩:=aj.mp h;by_cases c:a.length<=aN
 ·rw[if_pos c]at h;cases h;refine A.s I ha λxs H1 s1 o=>⟨by rw[o.1];exact c,λp hp=> ?_⟩
  exact k _ _ (s1.trans (g9 hp _)) (o.node s1 hp (.inr ⟨rfl,trivial,0,rfl⟩))
 ·rw[if_neg c]at h;cases h⟩
theorem cS.node(h:cS K H T1 vs ds)(hp:H p=none)(hold:(k= .tup/\o= .tup vs)\/(cV k=false/\fits K k vs.length/\∃dx,o=ho k dx vs)):Vw K (upd H p o) T1 (.ref p) (.nd k ds):=by
 refine .nd (λ_=>trivial) ?_ h.1 λi v d hv hd=>(h.2 i v d hv hd).same (g9 hp o);rcases hold with⟨h1,h2⟩ | ⟨h1,h2,dx,h3⟩
 ·subst h1;exact⟨trivial,by show upd H p o p=some (.tup vs);rw[gb,h2]⟩
 ·exact pf.cell ⟨h1,h2,dx,by rw[gb,h3]⟩
instance (priority:=800) aaw{ta:TA}{fa:En->Option (List D)}[A:SA K n ta fa]:SV K n (tU ta) (bu .tup fa):=⟨λ{σ hv H U Z af ab d Q} I h k=>by
 obtain⟨a,ha,h⟩:=aj.mp h;by_cases c:a.length<=aN
 ·rw[if_pos c]at h;cases h;refine A.s I ha λxs H1 s1 o=>⟨by rw[o.1];exact c,λp hp=> ?_⟩
  exact k _ _ (s1.trans (g9 hp _)) (o.node hp (.inl ⟨rfl,rfl⟩))
 ·rw[if_neg c]at h;cases h⟩
instance (priority:=800) aax{ta:TA}{fa:En->Option (List D)}[A:SA K n ta fa]:SV K n (rJ ta) (bu .lst fa):=⟨λ{σ hv H U Z af ab d Q} I h k=>by
 obtain⟨a,ha,h⟩:=aj.mp h;by_cases c:a.length<=aN
 ·rw[if_pos c]at h;cases h;refine A.s I ha λxs H1 s1 o=>⟨by rw[o.1];exact c,λp hp=> ?_⟩
  exact k _ _ (s1.trans (g9 hp _)) (o.node hp (.inr ⟨rfl,trivial,0,rfl⟩))
 ·rw[if_neg c]at h;cases h⟩
open Classical in
noncomputable def intD (C:Int->Int->Prop) (g:Int->Int->V) (a b:D):Option D:=match a,b with
 |.sc (.int i), .sc (.int j)=>if C i j then some (.sc (g i j)) else none
 |_,_=>none
noncomputable def iN (g:Int->Int->V) (a b:D):Option D:=match a,b with
 |.sc (.int i), .sc (.int j)=>some (.sc (g i j))
 |_,_=>none
instance aay:lr K (oW g) (iN g):=⟨λ{H x y dx dy d Q} w1 w2 h k=>by
 unfold iN at h
 split at h
 ·next i j=>cases h;exact⟨i,j,w1.cq,w2.cq,k _ H (aQ.refl H) (.sc _)⟩
 ·cases h⟩
instance aaz:lr K (rI C g) (intD C g):=⟨λ{H x y dx dy d Q} w1 w2 h k=>by
 unfold intD at h
 split at h
 ·next i j=>
  by_cases c:C i j
  ·rw[if_pos c]at h;cases h;exact⟨i,j,w1.cq,w2.cq,c,k _ H (aQ.refl H) (.sc _)⟩
  ·rw[if_neg c]at h;cases h
 ·cases h⟩
mutual
noncomputable def bH:D->Option PyData
 |.sc .az=>some .none
 |.sc (.bl b)=>some (.bool b)
 |.sc (.int i)=>some (.int i)
 |.sc (.str x)=>some (.str x)
 |.nd .tup cs=>(hJ cs).map .tuple
 |.nd .lst cs=>(hJ cs).map .list
 |.nd .aA cs=>(hJ cs).map .list
 |_=>none
noncomputable def hJ:List D->Option (List PyData)
 | []=>some []
 |d::ds=>(bH d).bind λx=>(hJ ds).map (x:: ·)
end
theorem zt:∀{ds:List D} {vs:List V} {ps:List PyData},vs.length=ds.length->(∀(i:Nat) (v:V) (d:D) (p:PyData),vs[i]?=some v->ds[i]?=some d->bH d=some p->jt K H v p)->hJ ds=some ps->rV K H vs ps
 | [], [],_,_,_,h=>by rw[hJ]at h;cases h;exact .nil
 | [],_::_,_,h,_,_=>by cases h
 |_::_, [],_,h,_,_=>by cases h
 |d::ds,v::vs,ps,hl,hk,h=>by
  rw[hJ]at h;obtain⟨x,h1,h⟩:=aj.mp h;obtain⟨r,h2,h⟩:=aX.mp h;subst h;exact .cons (hk 0 v d x rfl rfl h1) (zt (eP hl) (λi v d p a b c=>hk (i + 1) v d p (by simpa using a) (by simpa using b) c) h2)
theorem Vw.py(h:Vw K H N v d):∀{p:PyData},bH d=some p->jt K H v p:=by
 induction h with
 |sc v=>
  intro p e;cases v with
  |az=>rw[bH]at e;cases e;exact .az
  |bl b=>rw[bH]at e;cases e;exact .bl b
  |int i=>rw[bH]at e;cases e;exact .int i
  |str x=>rw[bH]at e;cases e;exact .str x
  |rl _=>simp[bH]at e
  |jS _=>simp[bH]at e
  |ref _=>simp[bH]at e
  |ty _=>simp[bH]at e
 |hl v=>intro p e;simp[bH]at e
 | @nd a k vs cs h1 h2 h3 _ ih=>
  intro p e;cases k with
  |tup=>
   rw[bH]at e;obtain⟨ps,e1,e2⟩:=aX.mp e;subst e2;exact .tup (cD.of h2.2) (zt h3 (λi v d p x y z=>ih i v d x y z) e1)
  |lst=>
   rw[bH]at e;obtain⟨ps,e1,e2⟩:=aX.mp e;subst e2;exact .lst (.inl (.inl h2.2)) (zt h3 (λi v d p x y z=>ih i v d x y z) e1)
  |aA=>
   rw[bH]at e;obtain⟨ps,e1,e2⟩:=aX.mp e;subst e2;exact .lst (ib.sq h2.2) (zt h3 (λi v d p x y z=>ih i v d x y z) e1)
  |_=>simp[bH]at e
def Di(K:ak):R2:=λx y H Q=>∃dx dy,jt K H x dx/\jt K H y dy/\dx.canLay0=true/\dy.canLay0=true/\dx.depth<=60/\Q (.bl (dX dx dy)) H
def Dj(K:ak):R2:=λx y H Q=>∃dx dy,jt K H x dx/\jt K H y dy/\dx.canLay0=true/\dy.canLay0=true/\dx.depth<=60/\Q (.bl (!dX dx dy)) H
theorem SD(hu:X.A.units + 64 < cLine):dg X (iB .Eq) (Di X.K):=Rm hu
theorem SE(hu:X.A.units + 64 < cLine):dg X (iB .NotEq) (Dj X.K):=Rn hu
def aF(g:Bool->Bool)(a b:D):Option D:=(bH a).bind λx=>(bH b).bind λy=>if x.canLay0=true/\y.canLay0=true/\x.depth<=60 then some (.sc (.bl (g (dX x y)))) else none
instance aaA:lr K (Di K) (aF id):=⟨λ{H x y dx dy d Q} w1 w2 h k=>by
 obtain⟨a,h1,h⟩:=aj.mp h;obtain⟨b,h2,h⟩:=aj.mp h;by_cases c:a.canLay0=true/\b.canLay0=true/\a.depth<=60
 ·rw[if_pos c]at h;cases h;exact⟨a,b,w1.py h1,w2.py h2,c.1,c.2.1,c.2.2,k _ H (aQ.refl H) (.sc _)⟩
 ·rw[if_neg c]at h;cases h⟩
instance aaB:lr K (Dj K) (aF (!·)):=⟨λ{H x y dx dy d Q} w1 w2 h k=>by
 obtain⟨a,h1,h⟩:=aj.mp h;obtain⟨b,h2,h⟩:=aj.mp h;by_cases c:a.canLay0=true/\b.canLay0=true/\a.depth<=60
 ·rw[if_pos c]at h;cases h;exact⟨a,b,w1.py h1,w2.py h2,c.1,c.2.1,c.2.2,k _ H (aQ.refl H) (.sc _)⟩
 ·rw[if_neg c]at h;cases h⟩
end
end VL
namespace L2
open PySem PySem.Spec PyProof.Rows
section
end
theorem JB:([x]:List Str).Nodup:=mB.mpr ⟨dw,yb⟩
def zu(K:ak)(T:String):List V->Hp->VK->Prop:=λxs H Q=>∃x t b,xs= [x, .ty T]/\kg K H x t/\rh K t (.type T)=some b/\Q (.bl b) H
theorem Dk:i0 X (.builtin "isinstance") (zu X.K T):=QN
theorem SH(K:ak)(a b:String)(h1:((FW a) == (FW b))=false)(h2:W.kitMeta b=true)(h3:(fastBuiltinMro a).map (·.contains (.type b))=some false):rh K (.type a) (.type b)=some false:=by
 unfold rh;rw[h1,if_neg (by simp)];show(if W.kitMeta b=true then W.subIn K (.type a) (.type b) else none)=some false;rw[if_pos h2];exact h3
section
variable (K:ak)
end
section
theorem lZ{K:ak}(hK:X.K=K){k:Nat}{pos:Pos}(hc:X.calm=true)(h:vF X es t)(hn:(sZ es X.env).length=n:=by rfl)(B0:(sZ es X.env).findIdx? (·.1)=none:=by rfl):
  PG X (.Tuple es k pos) (yn K n t):=by
 subst hK;exact OI hc h hn B0
end
end L2
namespace VL
open PySem PySem.Spec PyProof.Rows L2
section
variable {κ:Type}[DecidableEq κ]
noncomputable def cX (k:κ):List κ->Option Nat
 | []=>none
 |g::r=>if g=k then some 0 else(cX k r).map (· + 1)
theorem Dm:∀{ks:List κ} {vs:List V},ks.length=vs.length->kl (ks.zip vs) k=(cX k ks).bind (vs[·]?)
 | [], [],_=>rfl
 | [],_::_,h=>by cases h
 |_::_, [],h=>by cases h
 |g::r,v::vs,h=>by
  rw[p7,cX];by_cases c:g=k
  ·rw[yG (by exact c),if_pos c];rfl
  ·rw[yH (by exact c),if_neg c,Dm (eP h)];cases cX k r with
   |none=>rfl
   |some i=>simp
theorem uw:∀{ks:List κ} {i:Nat},cX k ks=some i->i < ks.length
 | [],_,h=>by cases h
 |g::r,i,h=>by
  rw[cX]at h;by_cases c:g=k
  ·rw[if_pos c]at h;cases h;exact Ge _
  ·rw[if_neg c]at h;obtain⟨j,h1,h2⟩:=aX.mp h;subst h2;exact NO (uw h1)
theorem Dn:∀{ks:List κ} {vs:List V},ks.length=vs.length->((ks.zip vs).any λkv=>decide (kv.1=k))=(cX k ks).isSome
 | [], [],_=>rfl
 | [],_::_,h=>by cases h
 |_::_, [],h=>by cases h
 |g::r,v::vs,h=>by
  rw[p7,cX,vq];by_cases c:g=k
  ·rw[if_pos c];simp[c]
  ·rw[if_neg c,Dn (eP h)];cases cX k r <;> simp[c]
end
noncomputable def cv:D->Option bB
 |.sc (.int i)=>some (.inl i)
 |.sc (.str x)=>some (.inr x)
 |_=>none
def qW:List D->Option (List bB)
 | []=>some []
 |d::r=>(cv d).bind λk=>(qW r).map (k:: ·)
section
variable {K:ak}{n:Nat}{H H' H1 H2:Hp}{U U':Addr->Prop}{σ hv:List (Option V)}{Z ρ':En}{af vs:List V}{ab ds:List D}{v y:V}{d:D}{N:Addr->Prop}
theorem Vw.key(h:Vw K H N v d)(e:cv d=some k):v=kV k:=by
 unfold cv at e
 split at e
 ·cases e;exact h.cq
 ·cases e;exact h.cq
 ·cases e
theorem ux:∀{cs:List D} {vs:List V} {ks:List bB},vs.length=cs.length->(∀(i:Nat) (v:V) (d:D),vs[i]?=some v->cs[i]?=some d->Vw K H N v d)->qW cs=some ks->vs=ks.map kV
 | [], [],_,_,_,h=>by rw[qW]at h;cases h;rfl
 | [],_::_,_,h,_,_=>by cases h
 |_::_, [],_,h,_,_=>by cases h
 |d::cs,v::vs,ks,hl,hk,h=>by
  rw[qW]at h;obtain⟨x,h1,h⟩:=aj.mp h;obtain⟨r,h2,h⟩:=aX.mp h;subst h;rw[eO,(hk 0 v d rfl rfl).key h1,ux (eP hl) (λi v d a b=>hk (i + 1) v d (by simpa using a) (by simpa using b)) h2]
def bp(d i:D):Option (Option Nat):=match d,i with
 |.nd (.cy ks) _,i=>(cv i).map λk=>cX k ks
 |.nd (.dk ks) _, .nd .tup cs=>(qW cs).map λk=>cX k ks
 |_,_=>none
theorem hV.wQ(hc:hV K H a k vs)(hl:vs.length=cs.length)(w:Vw K H N y dy)(h:bp (.nd k cs) dy=some o):nJ H a y (o.bind (vs[·]?)):=by
 unfold bp at h
 split at h
 ·next ks _ i e=>
  cases e;obtain⟨kk,h1,h2⟩:=aX.mp h;subst h2;exact .inl ⟨_,kk,hc.2,w.key h1,(Dm hc.1).symm⟩
 ·next ks _ fR e=>
  cases e;obtain⟨kk,h1,h2⟩:=aX.mp h;subst h2;obtain⟨b,us,rfl,_,hb,lq,bQ⟩:=w.node;have e:=ux lq bQ h1;exact .inr ⟨_,kk,b,hc.2,rfl,by rw[<- e];exact hb.2,(Dm hc.1).symm⟩
 ·cases h
theorem hV.JC(hc:hV K H a k vs)(h:bp (.nd k cs) dy=some (some i)):i < vs.length:=by
 unfold bp at h
 split at h
 ·next ks _ i e=>
  cases e;obtain⟨kk,h1,h2⟩:=aX.mp h;have:=uw h2;have:=hc.1;show _ < _;unfold fits at this
  lia
 ·next ks _ fR e=>
  cases e;obtain⟨kk,h1,h2⟩:=aX.mp h;have:=uw h2;have:=hc.1;unfold fits at this
  lia
 ·cases h
theorem hV.SJ(hc:hV K H a k vs)(h:bp (.nd k cs) dy=some o):(o.bind (vs[·]?)).isSome=o.isSome:=by
 cases o with
 |none=>rfl
 |some i=>
  show(vs[i]?).isSome=true;rw[gP (hc.JC h)];rfl
def JD:R2:=λx y H Q=>∃a v,x= .ref a/\nJ H a y (some v)/\Q v H
def Dp(K:ak):R2:=λx y H Q=>Ck K x y H Q\/JD x y H Q
theorem SK(hu:X.A.units + 1 < cLine):lP X JD:=by
 intro value slice aa s σ H x y v u Q I rx ry h hs;obtain⟨a,w,rfl,g,q⟩:=h;cases rx;have hT:=QB I g;unfold M5;refine aH ?_;rw[getitemInPython_of_ne hT.not_modules];refine aH (wpAny_specialOf hT PySem.F.slot_dict_getitem.lookup ?_);have fin:wpAny (model X.prog X.w) X.A (subscripted slice false (.ref a) u) (λr mO=>wpAny (model X.prog X.w) X.A (letTemporaryGo value (.ref a) r >>= λ_=>pure r) (EP X aa σ Q) X.xe mO) X.xe s:=by
  rw[hs];exact wpAny_operating (Qx hu I g ry λw' s3 I3 ll=>aH (wpAny_letTemporaryGo (b5 ⟨w,H,I3,ll,q⟩)))
 first
  |exact b5 (aH fin)
  |exact aH (b5 (aH fin))
  |exact aH fin
theorem SN(hu:X.A.units + 1 < cLine):lP X (Dp X.K):=lP.or PN (SK hu)
def ah(d i:D):Option Nat:=match cE d i with
 |some j=>some j
 |none=>(bp d i).join
instance aaC:qv K (Dp K) ah aq where
 t:=λw2 h q=> .inl (Jh.t w2 h q)
 s:=λ{H a k vs cs y u dy i Q} hc hl w2 h hu q=>by
  unfold ah at h
  split at h
  ·next j e=>cases h;exact .inl (Jh.s hc hl w2 e hu q)
  ·cases e:bp (.nd k cs) dy with
   |none=>rw[e]at h;cases h
   |some o=>
    rw[e]at h;have h:o=some i:=h;subst h;have g:=hc.wQ hl w2 e;have:(some i).bind (vs[·]?)=some u:=hu;rw[this]at g;exact .inr ⟨a,u,rfl,g,q⟩
def SR:R2:=λx y H Q=>∃i j,x= .str i/\y= .str j/\Q (.bl (!(Nl j i 0 j.length 1).isEmpty)) H
def JE(g:Bool->Bool):R2:=λx y H Q=>∃a o,y= .ref a/\nJ H a x o/\Q (.bl (g o.isSome)) H
theorem SU(hu:X.A.units + 1 < cLine):dg X (iB .In) (JE id):=by
 intro aa s σ H x y v u Q I rx ry h;obtain⟨a,o,rfl,g,q⟩:=h;cases ry;exact Qy hu I g rx λs3 I3=>⟨.bl o.isSome,H,I3,rfl,q⟩
theorem dg.or(h:dg X f r)(h':dg X f r'):dg X f (λx y H Q=>r x y H Q\/r' x y H Q):=by
 intro aa s σ H x y v u Q I rx ry q;rcases q with q | q
 ·exact h aa s σ H x y v u Q I rx ry q
 ·exact h' aa s σ H x y v u Q I rx ry q
def Dq(K:ak):R2:=λx y H Q=>HC K false x y H Q\/JE id x y H Q\/SR x y H Q
theorem SW(hu:X.A.units + 1 < cLine):dg X (iB .In) (Dq X.K):=dg.or PZ (dg.or (SU hu) OU)
noncomputable def qC:List D->Option (List V)
 | []=>some []
 |.sc v::r=>(qC r).map (v:: ·)
 |_::_=>none
theorem Dr:∀{cs:List D} {vs us:List V},vs.length=cs.length->(∀(i:Nat) (v:V) (d:D),vs[i]?=some v->cs[i]?=some d->Vw K H N v d)->qC cs=some us->vs=us
 | [], [],_,_,_,h=>by rw[qC]at h;cases h;rfl
 | [],_::_,_,h,_,_=>by cases h
 |_::_, [],_,h,_,_=>by cases h
 |.sc x::cs,v::vs,us,hl,hk,h=>by
  rw[qC]at h;obtain⟨r,h2,h⟩:=aX.mp h;subst h;rw[(hk 0 v (.sc x) rfl rfl).cq,Dr (eP hl) (λi v d a b=>hk (i + 1) v d (by simpa using a) (by simpa using b)) h2]
 |.nd _ _::cs,v::vs,us,hl,hk,h=>by simp[qC]at h
 |.hl _::cs,v::vs,us,hl,hk,h=>by simp[qC]at h
def qX(a b:D):Option Bool:=match a,b with
 |.sc (.str x), .sc (.str y)=>some (!(Nl y x 0 y.length 1).isEmpty)
 |.sc x, .nd .lst cs=>(qC cs).bind λus=>if jq x=true/\us.all jq=true then some (rO x us) else none
 |.sc x, .nd .tup cs=>(qC cs).bind λus=>if jq x=true/\us.all jq=true then some (rO x us) else none
 |a,b=>(bp b a).map (·.isSome)
instance aaD:lr K (Dq K) (λa b=>(qX a b).map λb=> .sc (.bl b)):=⟨λ{H x y dx dy d Q} w1 w2 h k=>by
 obtain⟨b,h1,h2⟩:=aX.mp h;subst h2;have fin:Q (.bl b) H:=k _ H (aQ.refl H) (.sc _);unfold qX at h1
 split at h1
 ·next i j=>
  cases h1;exact .inr (.inr ⟨i,j,w1.cq,w2.cq,fin⟩)
 ·next z cs=>
  obtain⟨us,e1,e2⟩:=aj.mp h1;by_cases c:jq z=true/\us.all jq=true
  ·rw[if_pos c]at e2;cases e2;obtain⟨a,vs,rfl,_,hc,hl,bQ⟩:=w2.node;have:=Dr hl bQ e1;subst this;rw[w1.cq];exact .inl ⟨a,vs,rfl, .inl (bW.of hc.2),c.1,c.2,fin⟩
  ·rw[if_neg c]at e2;cases e2
 ·next z cs=>
  obtain⟨us,e1,e2⟩:=aj.mp h1;by_cases c:jq z=true/\us.all jq=true
  ·rw[if_pos c]at e2;cases e2;obtain⟨a,vs,rfl,_,hc,hl,bQ⟩:=w2.node;have:=Dr hl bQ e1;subst this;rw[w1.cq];exact .inl ⟨a,vs,rfl, .inr (cD.of hc.2),c.1,c.2,fin⟩
  ·rw[if_neg c]at e2;cases e2
 ·obtain⟨o,e1,e2⟩:=aX.mp h1;subst e2;cases dy with
  |sc _=>simp[bp]at e1
  |hl _=>simp[bp]at e1
  |nd kk cs=>
   obtain⟨a,vs,rfl,_,hc,hl,bQ⟩:=w2.node;have g:=hc.wQ hl w1 e1;have e3:=hc.SJ e1;exact .inr (.inl ⟨a,_,rfl,g,by rw[e3];exact fin⟩)⟩
def JF:R2:=λx y H Q=>y= .az/\Q (.bl (decide (x= .az))) H
def JG:R2:=λx y H Q=>y= .az/\Q (.bl (!decide (x= .az))) H
theorem zv:dg X (iB .Is) JF:=OV
theorem Ds:dg X (iB .IsNot) JG:=OW
noncomputable def iO:D->Option Bool
 |.sc v=>some (decide (v= .az))
 |.nd _ _=>some false
 |.hl _=>none
def eg(g:Bool->Bool)(a b:D):Option D:=match b with
 |.sc .az=>(iO a).map λb=> .sc (.bl (g b))
 |_=>none
theorem JH(w:Vw K H N v d)(h:iO d=some b):decide (v= .az)=b:=by
 cases d with
 |sc z=>cases h;rw[w.cq]
 |nd k cs=>cases h;obtain⟨a,_,rfl,_⟩:=w.node;rfl
 |hl _=>cases h
instance aaE:lr K JF (eg id):=⟨λ{H x y dx dy d Q} w1 w2 h k=>by
 unfold eg at h
 split at h
 ·obtain⟨b,h1,h2⟩:=aX.mp h;subst h2;exact⟨w2.cq,by rw[JH w1 h1];exact k _ H (aQ.refl H) (.sc _)⟩
 ·cases h⟩
instance aaF:lr K JG (eg (!·)):=⟨λ{H x y dx dy d Q} w1 w2 h k=>by
 unfold eg at h
 split at h
 ·obtain⟨b,h1,h2⟩:=aX.mp h;subst h2;exact⟨w2.cq,by rw[JH w1 h1];exact k _ H (aQ.refl H) (.sc _)⟩
 ·cases h⟩
def SX:R2:=λx y H Q=>∃i j,x= .str i/\y= .str j/\i.length + j.length<=aN/\Q (.str (i++j)) H
def wR(K:ak):R2:=λx y H Q=>oW (λi j=> .int (i + j)) x y H Q\/SX x y H Q\/HE x y H Q\/Hs K x y H Q
theorem SY:dg X (lF .Add) (wR X.K):=dg.or OQ (dg.or O1 (dg.or Qf PH))
def jx(a b:D):Option D:=match a,b with
 |.sc (.int i), .sc (.int j)=>some (.sc (.int (i + j)))
 |.sc (.str i), .sc (.str j)=>if i.length + j.length<=aN then some (.sc (.str (i++j))) else none
 |.nd .lst xs, .nd .lst ys=>if xs.length + ys.length<=aN/\bq (xs++ys)=true then some (.nd .lst (xs++ys)) else none
 |.nd .tup xs, .nd .tup ys=>if xs≠ []/\xs.length + ys.length<=aN/\bq (xs++ys)=true then some (.nd .tup (xs++ys)) else none
 |_,_=>none
theorem cS.app(h:cS K H N vs ds)(h':cS K H N us es):cS K H N (vs++us) (ds++es):=by
 refine⟨by rw[b6,b6,h.1,h'.1],λi v d hv hd=> ?_⟩;by_cases c:i < vs.length
 ·rw[aV c]at hv;rw[aV (by rw[<- h.1];exact c)]at hd;exact h.2 i v d hv hd
 ·rw[bL (by lia)]at hv;rw[bL (by rw[<- h.1];lia), <- h.1]at hd;exact h'.2 _ v d hv hd
theorem cS.own(h:cS K H T1 vs ds)(pl:bq ds=true)(hp:H p=none)(hold:(k= .tup/\o= .tup vs)\/(cV k=false/\fits K k vs.length/\∃dx,o=ho k dx vs)):dF K H (upd H p o) (.ref p) (.nd k ds):=
 iE.node (H:=H) (H1:=H) ⟨h.1,λ_ _=>False,λ_ _ _ z=>z.elim,λ_ _ z=>z.elim,λi v d hv hd=>(h.2 i v d hv hd).plain (rY pl hd)⟩ (aQ.refl H) hp hold
theorem Vw.ie(w:Vw K H T1 v (.nd k cs)):∃a vs,v= .ref a/\hV K H a k vs/\cS K H T1 vs cs:=by
 obtain⟨a,vs,e,_,hc,hl,bQ⟩:=w.node;exact⟨a,vs,e,hc,hl,bQ⟩
instance S0:lr K (wR K) jx:=⟨λ{H x y dx dy d Q} w1 w2 h k=>by
 unfold jx at h
 split at h
 ·next i j=>cases h;exact .inl ⟨i,j,w1.cq,w2.cq,k _ H (aQ.refl H) (.sc _)⟩
 ·next i j=>
  by_cases c:i.length + j.length<=aN
  ·rw[if_pos c]at h;cases h;exact .inr (.inl ⟨i,j,w1.cq,w2.cq,c,k _ H (aQ.refl H) (.sc _)⟩)
  ·rw[if_neg c]at h;cases h
 ·next xs ys=>
  by_cases c:xs.length + ys.length<=aN/\bq (xs++ys)=true
  ·rw[if_pos c]at h;cases h;obtain⟨a,vs,rfl,hc,vl⟩:=w1.ie;obtain⟨b,us,rfl,ki,ul⟩:=w2.ie;refine .inr (.inr (.inl ⟨a,b,vs,us,rfl,rfl,hc.2,ki.2,by rw[vl.1,ul.1];exact c.1,λp hp=> ?_⟩));exact k _ _ (g9 hp _) ((vl.app ul).own c.2 hp (.inr ⟨rfl,trivial,0,rfl⟩))
  ·rw[if_neg c]at h;cases h
 ·next xs ys=>
  by_cases c:xs≠ []/\xs.length + ys.length<=aN/\bq (xs++ys)=true
  ·rw[if_pos c]at h;cases h;obtain⟨a,vs,rfl,hc,vl⟩:=w1.ie;obtain⟨b,us,rfl,ki,ul⟩:=w2.ie;have nv:vs≠ []:=λz=>by
    subst z;have:=vl.1;exact c.1 (tM this.symm)
   refine .inr (.inr (.inr ⟨a,b,vs,us,rfl,rfl,cD.of hc.2,cD.of ki.2,nv,by rw[vl.1,ul.1];exact c.2.1,λz=> ?_,λ_ p hp=> ?_⟩))
   ·subst z;have e:ys= []:=tM ul.1.symm;subst e;rw[fO]at c k;exact k _ H (aQ.refl H) (dF.plain w1 c.2.2)
   ·exact k _ _ (g9 hp _) ((vl.app ul).own c.2.2 hp (.inl ⟨rfl,rfl⟩))
  ·rw[if_neg c]at h;cases h
 ·cases h⟩
class nX(K:ak)(r:List V->Hp->VK->Prop)(g:outParam (List D->Option D)):Prop where
 s:∀{H:Hp} {vs:List V} {ds:List D} {d:D} {Q:VK},cS K H T1 vs ds->g ds=some d->(∀v H',aQ H H'->dF K H H' v d->Q v H')->r vs H Q
instance aaG[A:SA K n ta fa][C:nX K r g]:SF K n (nH r ta) (λZ=>(fa Z).bind g):=⟨λ{σ hv H U Z af ab d Q} I h k=>by
 obtain⟨a,ha,h⟩:=aj.mp h;refine A.s I ha λxs H1 s1 w=> ?_;exact C.s w h λv H2 s2 o=>k v H2 (s1.trans s2) (o.early s1)⟩
theorem aB.JI(I:aB K n H U σ hv Z (af++vs) (ab++ds))(hl:vs.length=ds.length):cS K H T1 vs ds:=by
 refine⟨hl,λi v d i3 hd=> ?_⟩;obtain⟨g1,g2⟩:=I.sets hl i i3 hd;obtain⟨_,_,Fs,_,_,sl⟩:=I.ok;obtain⟨v',ev,sv⟩:=sl _ _ g2;rw[g1]at ev;cases ev;exact bb.vw sv
noncomputable def zw (g:List D->Option D) (fa:En->Option (List D×En)) (Z:En):Option (D×En):=(fa Z).bind λa=>(g a.1).map λd=>(d,a.2)
instance (priority:=70) aaH{r:List V->Hp->VK->Prop}{ta:TA}{fa:En->Option (List D×En)}{g:List D->Option D}[A:r9 K n ta fa][C:nX K r g]:SM K n (nH r ta) (zw g fa):=⟨λ{σ hv H U Z ρ' af ab d Q} I h k=>by
 obtain⟨⟨a,ρ1⟩,ha,h⟩:=aj.mp h;obtain⟨d',h1,h2⟩:=aX.mp h;cases h2;refine A.s I ha λxs H1 U1 hl I1 cT=> ?_;refine C.s (I1.JI hl) h1 λv H2 s2 o=> ?_;obtain⟨U2,I2,d5⟩:=(I1.drop hl).push s2 o;exact k v H2 U2 I2 (cT.trans d5)⟩
theorem cS.one{d:D}(h:cS K H N vs [d]):∃v,vs= [v]/\Vw K H N v d:=by
 match vs,h with
 | [v],h=>exact⟨v,rfl,h.2 0 v d rfl rfl⟩
 | [],h=>cases h.1
 |_::_::_,h=>cases h.1
theorem cS.two{d e:D}(h:cS K H N vs [d,e]):∃v u,vs= [v,u]/\Vw K H N v d/\Vw K H N u e:=by
 match vs,h with
 | [v,u],h=>exact⟨v,u,rfl,h.2 0 v d rfl rfl,h.2 1 u e rfl rfl⟩
 | [],h=>cases h.1
 | [_],h=>cases h.1
 |_::_::_::_,h=>cases h.1
theorem S1:i0 X (.builtin "len") (λxs H Q=>∃a aw,xs= [V.ref a]/\Rd H a (.dK aw)/\Q (.int aw.length) H):=by
 intro aa s σ H xs us Q I r h;obtain⟨a,aw,rfl,ha,q⟩:=h;obtain⟨u,rfl,ru⟩:=vals1 r;cases ru;exact QA I ha λt s' I'=>⟨.int aw.length,H,I',⟨t,rfl⟩,q⟩
def Dt(K:ak):List V->Hp->VK->Prop:=λxs H Q=>(∃p ys,xs= [.ref p]/\(bW K H p ys\/cD K H p ys)/\Q (.int ys.length) H)\/(∃z,xs= [.str z]/\z.length<=aN/\Q (.int z.length) H)\/∃a aw,xs= [V.ref a]/\Rd H a (.dK aw)/\Q (.int aw.length) H
theorem S2:i0 X (.builtin "len") (Dt X.K):=by
 intro aa s σ H xs us Q I r h;rcases h with h | h | h
 ·exact P0 aa s σ H xs us Q I r h
 ·exact P1 aa s σ H xs us Q I r h
 ·exact S1 aa s σ H xs us Q I r h
noncomputable def qD:List D->Option D
 | [.nd .lst cs]=>some (.sc (.int cs.length))
 | [.nd .tup cs]=>some (.sc (.int cs.length))
 | [.nd .aA cs]=>some (.sc (.int cs.length))
 | [.sc (.str z)]=>if z.length<=aN then some (.sc (.int z.length)) else none
 | [.nd (.cy _) cs]=>some (.sc (.int cs.length))
 |_=>none
instance aaI:nX K (Dt K) qD:=⟨λ{H vs ds d Q} w h k=>by
 unfold qD at h
 split at h
 ·next cs=>cases h;obtain⟨v,rfl,w1⟩:=w.one;obtain⟨a,us,rfl,hc,vl⟩:=w1.ie;rw[<- vl.1]at k;exact .inl ⟨a,us,rfl, .inl (bW.of hc.2),k _ H (aQ.refl H) (.sc _)⟩
 ·next cs=>cases h;obtain⟨v,rfl,w1⟩:=w.one;obtain⟨a,us,rfl,hc,vl⟩:=w1.ie;rw[<- vl.1]at k;exact .inl ⟨a,us,rfl, .inr (cD.of hc.2),k _ H (aQ.refl H) (.sc _)⟩
 ·next cs=>cases h;obtain⟨v,rfl,w1⟩:=w.one;obtain⟨a,us,rfl,hc,vl⟩:=w1.ie;rw[<- vl.1]at k;exact .inl ⟨a,us,rfl, .inl (ib.sq hc.2),k _ H (aQ.refl H) (.sc _)⟩
 ·next z=>
  by_cases c:z.length<=aN
  ·rw[if_pos c]at h;cases h;obtain⟨v,rfl,w1⟩:=w.one;rw[w1.cq];exact .inr (.inl ⟨z,rfl,c,k _ H (aQ.refl H) (.sc _)⟩)
  ·rw[if_neg c]at h;cases h
 ·next ks cs=>
  cases h;obtain⟨v,rfl,w1⟩:=w.one;obtain⟨a,us,rfl,hc,vl⟩:=w1.ie;have hl:ks.length=us.length:=hc.1;have rd:Rd H a (.dK (ks.zip us)):=hc.2;refine .inr (.inr ⟨a,ks.zip us,rfl,rd, ?_⟩);rw[ny,hl,Nat.min_self,vl.1];exact k _ H (aQ.refl H) (.sc _)
 ·cases h⟩
def uy(K:ak):List V->Hp->VK->Prop:=λxs H Q=>∃p ys,xs= [.ref p]/\((bW K H p ys/\∀l,H l=none->Q (.ref l) (upd H l (.tup ys)))\/(cD K H p ys/\Q (.ref p) H))
theorem JJ:i0 X (.type "tuple") (uy X.K):=P2
def wU:List D->Option D
 | [.nd .lst cs]=>if bq cs=true then some (.nd .tup cs) else none
 | [.nd .tup cs]=>if bq cs=true then some (.nd .tup cs) else none
 |_=>none
instance aaJ:nX K (uy K) wU:=⟨λ{H vs ds d Q} w h k=>by
 unfold wU at h
 split at h
 ·next cs=>
  by_cases c:bq cs=true
  ·rw[if_pos c]at h;cases h;obtain⟨v,rfl,w1⟩:=w.one;obtain⟨a,us,rfl,hc,vl⟩:=w1.ie;exact⟨a,us,rfl, .inl ⟨bW.of hc.2,λl hl=>k _ _ (g9 hl _) (vl.own c hl (.inl ⟨rfl,rfl⟩))⟩⟩
  ·rw[if_neg c]at h;cases h
 ·next cs=>
  by_cases c:bq cs=true
  ·rw[if_pos c]at h;cases h;obtain⟨v,rfl,w1⟩:=w.one;obtain⟨a,us,rfl,hc,vl⟩:=w1.ie;exact⟨a,us,rfl, .inr ⟨cD.of hc.2,k _ H (aQ.refl H) (dF.plain w1 c)⟩⟩
  ·rw[if_neg c]at h;cases h
 ·cases h⟩
def wV:List V->Hp->VK->Prop:=λxs H Q=>(∃i,xs= [.int i]/\Q (.int i) H)\/∃k,xs= [.bl k]/\Q (.int (if k then 1 else 0)) H
theorem Du:i0 X (.type "int") wV:=O4
noncomputable def Dv:List D->Option D
 | [.sc (.int i)]=>some (.sc (.int i))
 | [.sc (.bl b)]=>some (.sc (.int (if b then 1 else 0)))
 |_=>none
instance aaK:nX K wV Dv:=⟨λ{H vs ds d Q} w h k=>by
 unfold Dv at h
 split at h
 ·next i=>cases h;obtain⟨v,rfl,w1⟩:=w.one;rw[w1.cq];exact .inl ⟨i,rfl,k _ H (aQ.refl H) (.sc _)⟩
 ·next b=>cases h;obtain⟨v,rfl,w1⟩:=w.one;rw[w1.cq];exact .inr ⟨b,rfl,k _ H (aQ.refl H) (.sc _)⟩
 ·cases h⟩
def zz:List V->Hp->VK->Prop:=λxs H Q=>∃i j,xs= [.int i, .int j]/\Q (.int (if j > i then j else i)) H
theorem JK(hc:X.calm=true):i0 X (.builtin "max") zz:=O3 hc
noncomputable def JL (g:Int->Int->V):List D->Option D
 | [.sc (.int i), .sc (.int j)]=>some (.sc (g i j))
 |_=>none
instance aaL:nX K zz (JL λi j=> .int (if j > i then j else i)):=⟨λ{H vs ds d Q} w h k=>by
 unfold JL at h
 split at h
 ·next i j=>cases h;obtain⟨v,u,rfl,w1,w2⟩:=w.two;rw[w1.cq,w2.cq];exact⟨i,j,rfl,k _ H (aQ.refl H) (.sc _)⟩
 ·cases h⟩
end
noncomputable def Dw (a b:String):Bool:=a == b || (a == "bool" && b == "int")
noncomputable def Dx:List String:= ["NoneType","bool","int","str","tuple","list","dict"]
noncomputable def uz:List String:= ["bool","int","str","tuple","list","dict"]
theorem S3(K:ak):rh K (.type "bool") (.type "int")=some true:=by
 unfold rh;rw[if_neg (by decide)];show(if W.kitMeta "int"=true then W.subIn K (.type "bool") (.type "int") else none)=some true;rw[if_pos (by decide +kernel)];show(fastBuiltinMro "bool").map (·.contains (.type "int"))=some true
 decide +kernel
theorem JM(K:ak):∀a∈Dx,∀b∈uz,rh K (.type a) (.type b)=some (Dw a b):=by
 intro a ha b hb;simp only[Dx,uz,bx,dw,or_false]at ha hb;rcases ha with rfl | rfl | rfl | rfl | rfl | rfl | rfl <;> rcases hb with rfl | rfl | rfl | rfl | rfl | rfl <;> first
  |exact S3 K
  |exact aaM K _ (by decide)
  |exact SH K _ _ (by decide) (by decide +kernel) (by decide +kernel)
noncomputable def wW:D->Option String
 |.sc .az=>some "NoneType"
 |.sc (.bl _)=>some "bool"
 |.sc (.int _)=>some "int"
 |.sc (.str _)=>some "str"
 |.nd .tup _=>some "tuple"
 |.nd .lst _=>some "list"
 |.nd (.cy _) _=>some "dict"
 |.nd (.dk _) _=>some "dict"
 |_=>none
section
variable {K:ak}{H H' H1 H2:Hp}{af vs:List V}{ab ds:List D}{v y:V}{d:D}{N:Addr->Prop}
theorem S4(h:wW d=some a):a∈Dx:=by
 unfold wW at h
 split at h <;> first | (cases h;decide) | cases h
theorem Vw.ty(w:Vw K H N v d)(h:wW d=some a)(hd:a≠"dict"):kg K H v (.type a):=by
 unfold wW at h
 split at h
 ·cases h;rw[w.cq];exact .az
 ·cases h;rw[w.cq];exact .bl _
 ·cases h;rw[w.cq];exact .int _
 ·cases h;rw[w.cq];exact .str _
 ·cases h;obtain⟨a,vs,rfl,_,hc,_⟩:=w.node;exact .tup hc.2
 ·cases h;obtain⟨a,vs,rfl,_,hc,_⟩:=w.node;exact .lst hc.2
 ·cases h;exact absurd rfl hd
 ·cases h;exact absurd rfl hd
 ·cases h
def qE(T:String):List D->Option D
 | [a, .sc (.ty T')]=>if T'=T/\T∈uz then(wW a).bind λx=>if x="dict" then none else some (.sc (.bl (Dw x T))) else none
 |_=>none
instance S5:nX K (zu K T) (qE T):=⟨λ{H vs ds d Q} w h k=>by
 unfold qE at h
 split at h
 ·next a T'=>
  by_cases c:T'=T/\T∈uz
  ·rw[if_pos c]at h;obtain⟨x,h1,h⟩:=aj.mp h;by_cases cd:x="dict"
   ·rw[if_pos cd]at h;cases h
   ·rw[if_neg cd]at h;cases h;obtain⟨v,u,rfl,w1,w2⟩:=w.two;rw[w2.cq,c.1];exact⟨v,_,_,rfl,w1.ty h1 cd,JM K x (S4 h1) T c.2,k _ H (aQ.refl H) (.sc _)⟩
  ·rw[if_neg c]at h;cases h
 ·cases h⟩
end
def pH(K:ak)(tl:TE):TI:=λσ H R=>tl σ H λx H1=>(∃a,x= .ref a/\(∃xs,bW K H1 a xs)/\R (qe K a) H1)\/(∃a,x= .ref a/\(∃xs,cD K H1 a xs)/\R (yr K a) H1)\/∃z,x= .str z/\R (yY z) H1
theorem Dy(hl:PE X l tl):PI X tg l (pH X.K tl):=by
 intro aa s σ H R I h;refine bC (hl aa s σ H _ I h) λv s1 ⟨x,H1,I1,r1,q1⟩=> ?_;have fin:∀(b:Addr),b∈ [s1.heap.objs.size]->iL X aa H1 b:=λb hb=>by
  have e:b=s1.heap.objs.size:=by simpa using hb
  subst e;exact I1.vH (bT _) (I1.aU.fresh (bT _))
 rcases q1 with⟨a,rfl,⟨xs,hq⟩,q⟩ | ⟨a,rfl,⟨xs,hq⟩,q⟩ | ⟨z,rfl,q⟩
 ·cases r1;obtain⟨ax,rv,p,hz⟩:=I1.list hq;exact Nc p.isList ⟨s1.heap.objs.size, [s1.heap.objs.size],_,_,H1,rfl,I1.kept (t':=s1.toks) λb o e=>dN _ e,OJ a _,⟨_,iH _ rfl,rfl,rfl⟩,fin,q⟩
 ·cases r1;obtain⟨ax,rv,p,hz⟩:=I1.tuple hq;exact wpAny_pyIter_tuple (show s1.heap.IsTuple a ax.toArray from p) ⟨s1.heap.objs.size, [s1.heap.objs.size],_,_,H1,rfl,I1.kept (t':=s1.toks) λb o e=>dN _ e,OK a _,⟨_,iH _ rfl,rfl,rfl⟩,fin,q⟩
 ·obtain⟨t,rfl⟩:=r1;cases ha:z.cps.all (· < 128)
  ·refine wpAny_pyIter_wide ha ⟨s1.heap.objs.size, [s1.heap.objs.size],_,_,H1,rfl,I1.kept (t':=s1.toks) λb o e=>dN _ e,
    IG (t:=t) (ty:="str_iterator") (by decide) (λA' hA=>Walks.strWide hA _ z t) (λA i s Q E st h=>wpAny_pyIter_striter_wide st h),⟨kz _,_,iH _ rfl,rfl,rfl⟩,fin,q⟩
  ·refine wpAny_pyIter_ascii ha ⟨s1.heap.objs.size, [s1.heap.objs.size],_,_,H1,rfl,I1.kept (t':=s1.toks) λb o e=>dN _ e,
    IG (t:=t) (ty:="str_ascii_iterator") (by decide) (λA' hA=>Walks.strAscii hA _ z t) (λA i s Q E st h=>wpAny_pyIter_striter_ascii st h),⟨kz _,_,iH _ rfl,rfl,rfl⟩,fin,q⟩
class wX{α:Type}(l:List α)(m:outParam Nat):Prop where
 h:l.length=m
instance {α:Type}:wX ([]:List α) 0:=⟨rfl⟩
instance {α:Type}{a:α}{r:List α}{m:Nat}[L:wX r m]:wX (a::r) (m + 1):=⟨congrArg (· + 1) L.h⟩
section
variable {K:ak}{n:Nat}{H H' H1 H2:Hp}{U U':Addr->Prop}{σ hv:List (Option V)}{Z ρ':En}{af vs:List V}{ab ds:List D}{v y:V}{d:D}
def zA(K:ak)(J:It)(H0:Hp)(ds:List D):Prop:=∀H,aQ H0 H->J.stop ds.length H/\∀(i:Nat) (d:D),ds[i]?=some d->J.go i H/\∀x H',J.qd i H x H'->aQ H H'/\Vw K H' T1 x d
class SI(K:ak)(n:Nat)(wi:TI)(f:outParam (En->Option (List D))):Prop where
 s:∀{σ hv:List (Option V)} {H:Hp} {U:Addr->Prop} {Z:En} {af:List V} {ab:List D} {ds:List D} {R:It->Hp->Prop},aB K n H U σ hv Z af ab->f Z=some ds->(∀J H',aQ H H'->zA K J H' ds->R J H')->wi σ H R
noncomputable def chars (z:Str):List D:=z.cps.toList.map λc=> .sc (.str ⟨#[c]⟩)
def jX:D->Option (List D)
 |.nd .lst cs=>some cs
 |.nd .tup cs=>some cs
 |.nd .aA cs=>some cs
 |.sc (.str z)=>some (chars z)
 |_=>none
theorem S6{ds:List D}{R:It->Hp->Prop}(w:Vw K H T1 v d)(h:jX d=some ds)(k:∀J,zA K J H ds->R J H):
  (∃a,v= .ref a/\(∃xs,bW K H a xs)/\R (qe K a) H)\/(∃a,v= .ref a/\(∃xs,cD K H a xs)/\R (yr K a) H)\/∃z,v= .str z/\R (yY z) H:=by
 have wl:∀{a:Addr} {vs:List V} {cs:List D},(∀H',aQ H H'->bW K H' a vs)->cS K H T1 vs cs->zA K (qe K a) H cs:=λ{a vs cs} hs vl H' s=>by
  refine⟨⟨vs,hs H' s,by rw[vl.1];exact bT _⟩,λi d hd=> ?_⟩;obtain⟨u,hu,w⟩:=vl.get hd;exact⟨⟨vs,u,hs H' s,hu⟩,λx H2 ⟨e,q⟩=>by
   subst e;have:=q vs (hs H2 s);rw[hu]at this;cases this;exact⟨aQ.refl _,w.same s⟩⟩
 unfold jX at h
 split at h
 ·next cs=>
  cases h;obtain⟨a,vs,rfl,hc,vl⟩:=w.ie;exact .inl ⟨a,rfl,⟨vs,bW.of hc.2⟩,k _ (wl (λH' s=>bW.of (s _ _ hc.2)) vl)⟩
 ·next cs=>
  cases h;obtain⟨a,vs,rfl,hc,vl⟩:=w.ie;refine .inr (.inl ⟨a,rfl,⟨vs,cD.of hc.2⟩,k _ λH' s=> ?_⟩);have hs:cD K H' a vs:=cD.of (s _ _ hc.2);refine⟨⟨vs,hs,by rw[vl.1];exact bT _⟩,λi d hd=> ?_⟩;obtain⟨u,hu,w⟩:=vl.get hd;exact⟨⟨vs,u,hs,hu⟩,λx H2 ⟨e,q⟩=>by
   subst e;have:=q vs hs;rw[hu]at this;cases this;exact⟨aQ.refl _,w.same s⟩⟩
 ·next cs=>
  cases h;obtain⟨a,vs,rfl,hc,vl⟩:=w.ie;have ho:ib K H a vs:=hc.2;exact .inl ⟨a,rfl,⟨vs,ho.sq⟩,k _ (wl (λH' s=>(ho.e9 (fJ.of s)).sq) vl)⟩
 ·next z=>
  cases h;refine .inr (.inr ⟨z,w.cq,k _ λH' s=> ?_⟩);have lz:(chars z).length=z.cps.size:=by unfold chars;simp
  refine⟨by show z.cps.size<=_;rw[lz];exact bT _,λi d hd=> ?_⟩;have hi:i < z.cps.size:=by rw[<- lz];exact(cb.mp hd).1
  refine⟨hi,λx H2 ⟨e,c,hc,hx⟩=> ?_⟩;subst e hx;refine⟨aQ.refl _, ?_⟩;unfold chars at hd;rw[du]at hd;have:z.cps.toList[i]?=some c:=by simpa using hc
  rw[this]at hd;cases hd;exact .sc _
 ·cases h
instance aaN[A:SV K n tl fl]:SI K n (pH K tl) (λZ=>(fl Z).bind jX):=⟨λ{σ hv H U Z af ab ds R} I h k=>by
 obtain⟨d,h1,h2⟩:=aj.mp h;refine A.s I h1 λx H1 s1 w1=> ?_;exact S6 w1 h2 λJ wk=>k J H1 s1 wk⟩
noncomputable def nY (lo:Int) (m:Nat):List D:=(jm m).map λ(i:Nat)=> .sc (.int (lo + i))
open Classical in
noncomputable def kH:List D->Option (List D)
 | [.sc (.int j)]=>if -(2 ^ 62)<=j/\j < 2 ^ 62 then some (nY 0 j.toNat) else none
 |_=>none
open Classical in
theorem JN{vs:List V}{ds es:List D}(w:cS K H T1 vs ds)(h:kH ds=some es):∃j:Int,vs= [.int j]/\ -(2 ^ 62)<=j/\j < 2 ^ 62/\es=nY 0 j.toNat:=by
 unfold kH at h
 split at h
 ·next j=>
  by_cases c: -(2 ^ 62)<=j/\j < 2 ^ 62
  ·rw[if_pos c]at h;cases h;obtain⟨v,rfl,w1⟩:=w.one;rw[w1.cq];exact⟨j,rfl,c.1,c.2,rfl⟩
  ·rw[if_neg c]at h;cases h
 ·cases h
class SG(K:ak)(n:Nat)(g:TG)(f:outParam (D->En->Option En))(is:outParam (List Nat)):Prop where
 s:∀{σ hv:List (Option V)} {H:Hp} {U:Addr->Prop} {Z ρ':En} {af:List V} {ab:List D} {x:V} {d:D} {Q:L2.St->Hp->Prop},aB K n H U σ hv Z af ab->Vw K H (λb=>¬ U b) x d->f d Z=some ρ'->(∀aM,aB K n H U aM hv ρ' af ab->Q aM H)->g x σ H Q
 len:∀{d:D} {Z ρ':En},f d Z=some ρ'->ρ'.length=Z.length
 keep:∀{d:D} {Z ρ':En} {j:Nat} {β:B},f d Z=some ρ'->j∉is->(∀r p,β≠ .aT r p)->Z[j]?=some (some β)->ρ'[j]?=some (some β)
class zB(K:ak)(n:Nat)(g:oV)(f:outParam (List D->En->Option En))(is:outParam (List Nat)):Prop where
 s:∀{σ hv:List (Option V)} {H:Hp} {U:Addr->Prop} {Z ρ':En} {af:List V} {ab:List D} {xs:List V} {ds:List D} {Q:L2.St->Hp->Prop},aB K n H U σ hv Z af ab->cS K H (λb=>¬ U b) xs ds->f ds Z=some ρ'->(∀aM,aB K n H U aM hv ρ' af ab->Q aM H)->g xs σ H Q
 len:∀{ds:List D} {Z ρ':En},f ds Z=some ρ'->ρ'.length=Z.length
 keep:∀{ds:List D} {Z ρ':En} {j:Nat} {β:B},f ds Z=some ρ'->j∉is->(∀r p,β≠ .aT r p)->Z[j]?=some (some β)->ρ'[j]?=some (some β)
theorem S7{i j:Nat}{β:B}(h:∀r p,β≠ .aT r p)(hj:Z[j]?=some (some β)):(eI i Z)[j]?=some (some β):=by
 unfold eI;rw[du,hj];cases β with
 |own d=>rfl
 |ro d=>rfl
 |aT r p=>exact absurd rfl (h r p)
instance aaO{i:Nat}[L:jV i n]:SG K n (kB i) (λd Z=>some (aR i (.ro d) Z)) [i] where
 s:=λ{σ hv H U Z ρ' af ab x d Q} I w h k=>by
  cases h;exact k _ (I.named L.h (β:= .ro d) w)
 len:=λh=>by cases h;unfold aR;rw[bI,jU]
 keep:=λ{d Z ρ' j β} h hj ha q=>by
  cases h;unfold aR;rw[fF (λz=>hj (by rw[z];exact .head _))];exact S7 ha q
instance aaP:zB K n BX (λds Z=>match ds with | []=>some Z | _=>none) [] where
 s:=λ{σ hv H U Z ρ' af ab xs ds Q} I w h k=>by
  split at h
  ·cases h;exact⟨tM w.1,k _ I⟩
  ·cases h
 len:=λ{ds Z ρ'} h=>by
  split at h
  ·cases h;rfl
  ·cases h
 keep:=λ{ds Z ρ' j β} h hj ha q=>by
  split at h
  ·cases h;exact q
  ·cases h
def dD(f:D->En->Option En)(fs:List D->En->Option En)(ds:List D)(Z:En):Option En:=match ds with
 |d::r=>(f d Z).bind (fs r)
 | []=>none
instance aaQ[A:SG K n t f is][B':zB K n u fs js]:zB K n (BY t u) (dD f fs) (is++js) where
 s:=λ{σ hv H U Z ρ' af ab xs ds Q} I w h k=>by
  unfold dD at h
  split at h
  ·next d r=>
   obtain⟨ρ1,h1,h2⟩:=aj.mp h
   match xs,w with
   | [],w=>cases w.1
   |x::xs,w=>
    refine⟨x,xs,rfl,A.s I (w.2 0 x d rfl rfl) h1 λBZ I1=> ?_⟩;exact B'.s I1 ⟨eP w.1,λi v d a b=>w.2 (i + 1) v d (by simpa using a) (by simpa using b)⟩ h2 k
  ·cases h
 len:=λ{ds Z ρ'} h=>by
  unfold dD at h
  split at h
  ·obtain⟨ρ1,h1,h2⟩:=aj.mp h;rw[B'.len h2,A.len h1]
  ·cases h
 keep:=λ{ds Z ρ' j β} h hj ha q=>by
  unfold dD at h
  split at h
  ·obtain⟨ρ1,h1,h2⟩:=aj.mp h;exact B'.keep h2 (λz=>hj (j7 _ z)) ha (A.keep h1 (λz=>hj (Bo _ z)) ha q)
  ·cases h
noncomputable def gz (m:Nat) (f:List D->En->Option En) (d:D) (Z:En):Option En:=match d with
 |.nd .tup cs=>if cs.length=m then f cs Z else none
 |_=>none
instance aaR[A:zB K n t f is]:SG K n (yn K m t) (gz m f) is where
 s:=λ{σ hv H U Z ρ' af ab x d Q} I w h k=>by
  unfold gz at h
  split at h
  ·next cs=>
   by_cases c:cs.length=m
   ·rw[if_pos c]at h;obtain⟨a,vs,rfl,_,hc,hl,bQ⟩:=w.node;exact⟨a,vs,rfl,cD.of hc.2,by rw[hl];exact c,A.s I ⟨hl,bQ⟩ h k⟩
   ·rw[if_neg c]at h;cases h
  ·cases h
 len:=λ{d Z ρ'} h=>by
  unfold gz at h
  split at h
  ·next cs=>
   by_cases c:cs.length=m
   ·rw[if_pos c]at h;exact A.len h
   ·rw[if_neg c]at h;cases h
  ·cases h
 keep:=λ{d Z ρ' j β} h hj ha q=>by
  unfold gz at h
  split at h
  ·next cs=>
   by_cases c:cs.length=m
   ·rw[if_pos c]at h;exact A.keep h hj ha q
   ·rw[if_neg c]at h;cases h
  ·cases h
theorem iE.snoc(h:iE K H H1 us es)(o:dF K H1 H2 v d)(s0:aQ H H1)(s1:aQ H1 H2):iE K H H2 (us++ [v]) (es++ [d]):=by
 obtain⟨hl,Fs,dj,fr,rp⟩:=h;obtain⟨G,r,f⟩:=o;have nG:∀i b,Fs i b->¬ G b:=λi b z w=>by
  obtain⟨u,q⟩:=pj (fr i b z).2;rw[(f b w).1]at q;cases q
 refine⟨by simp[hl],λi b=>if i=us.length then G b else Fs i b/\i < us.length,λi j b hi hj=> ?_,λi b hb=> ?_,λi x y hx hy=> ?_⟩
 ·have hi:if i=us.length then G b else Fs i b/\i < us.length:=hi;have hj:if j=us.length then G b else Fs j b/\j < us.length:=hj;by_cases ci:i=us.length
  ·rw[if_pos ci]at hi;by_cases cj:j=us.length
   ·lia
   ·rw[if_neg cj]at hj;exact absurd hi (nG j b hj.1)
  ·rw[if_neg ci]at hi;by_cases cj:j=us.length
   ·rw[if_pos cj]at hj;exact absurd hj (nG i b hi.1)
   ·rw[if_neg cj]at hj;exact dj i j b hi.1 hj.1
 ·have hb:if i=us.length then G b else Fs i b/\i < us.length:=hb;by_cases ci:i=us.length
  ·rw[if_pos ci]at hb;refine⟨?_,(f b hb).2⟩;cases q:H b with
   |none=>rfl
   |some o=>have:=(f b hb).1;rw[s0 b o q]at this;cases this
  ·rw[if_neg ci]at hb;exact⟨(fr i b hb.1).1,wA (fr i b hb.1).2 s1⟩
 ·by_cases ci:i=us.length
  ·subst ci;rw[bL (bT _),nr]at hx;rw[bL (by lia),hl,nr]at hy;cases hx;cases hy;show bb K H2 (λb=>if us.length=us.length then G b else _) v d;simp only[if_pos rfl];exact r
  ·have hi:i < us.length:=by
    have:=(cb.mp hx).1;simp at this;lia
   rw[aV hi]at hx;rw[aV (by lia)]at hy;show bb K H2 (λb=>if i=us.length then G b else Fs i b/\i < us.length) x y;simp only[if_neg ci];exact((rp i x y hx hy).same s1).mono λb z=>⟨z,hi⟩
def jc(n:Nat)(js:List (Option Nat))(Z:En):En:=js.map λo=>o.bind λj=>if j < n then(ae j Z).map B.ro else none
noncomputable def mR (fg:D->En->Option En) (ft:En->Option Bool) (fe:En->Option D) (cF:En):List D->Option (List D)
 | []=>some []
 |d::ds=>(fg d cF).bind λρ1=>(ft ρ1).bind λb=>if b=true then(fe ρ1).bind λy=>(mR fg ft fe cF ds).map (y:: ·) else mR fg ft fe cF ds
open Classical in
noncomputable def wY (n:Nat) (js:List (Option Nat)) (is:List Nat) (fi:En->Option (List D)) (fg:D->En->Option En) (ft:En->Option Bool) (fe:En->Option D) (Z:En):Option D:=(fi Z).bind λds=>
 if ds.length<=aN/\is.all (λi=>js[i]? == some none)=true then(mR fg ft fe (jc n js Z) ds).map (.nd .lst ·) else none
theorem S8(I:aB K n H U σ hv Z af ab):aB K js.length H (λ_=>False) (nN js σ) [] (jc n js Z) [] []:=by
 refine⟨⟨by unfold nN jc;simp,λb z=>z.elim,λ_ _=>False,λ_ _ _ z=>z.elim,λ_ _ z=>z.elim,λi β aL=> ?_⟩,by unfold nN jc;simp,by unfold nN;simp⟩;rw[mC,fO]at aL;rw[mC,fO,fO];unfold jc at aL;rw[du]at aL;cases e:js[i]? with
 |none=>rw[e]at aL;cases aL
 |some o=>
  rw[e]at aL;have aL:(o.bind λj=>if j < n then(ae j Z).map B.ro else none)=some β:=jQ aL;cases o with
  |none=>cases aL
  |some j=>
   have aL:(if j < n then(ae j Z).map B.ro else none)=some β:=aL;by_cases c:j < n
   ·rw[if_pos c]at aL;obtain⟨d,h1,h2⟩:=aX.mp aL;subst h2;have:jV j n:=⟨c⟩
    have key:iX j σ H λv H'=>H'=H/\σ[j]?=some (some v)/\Vw K H T1 v d:=by
     obtain⟨o,g1,g2⟩:=aj.mp h1;cases o with
     |none=>cases g2
     |some γ=>
      obtain⟨v,F,ev,sub,sv⟩:=I.slot g1;rw[I.name c]at ev;refine⟨v,ev,rfl,ev, ?_⟩;cases γ with
      |own d'=>cases g2;exact bb.vw sv
      |ro d'=>cases g2;exact Vw.any sv
      |aT r p=>
       obtain⟨d0,hr,g⟩:=aj.mp g2;obtain⟨_,vr,er,hp⟩:=sv;obtain⟨v',F',jT,_,rp⟩:=I.wB hr;rw[er]at jT;cases jT;exact rp.sub g hp λ_ _=>trivial
    obtain⟨v,ev,_,_,vw⟩:=key;refine⟨v, ?_,vw.mono λ_ _ z=>z⟩;unfold nN;rw[du,e];show some ((σ[j]?).join)=some (some v);rw[ev];rfl
   ·rw[if_neg c]at aL;cases aL
instance aaS{wi:TI}{g:TG}{tt:TT}{te:TE}{is:List Nat}{fi:En->Option (List D)}{fg:D->En->Option En}{ft:En->Option Bool}{fe:En->Option D}[hm:wX js m]
  [A:SI K n wi fi] [G:SG K m g fg is] [T:ko K m tt ft] [Q':SQ K m te fe]:SF K n (rU wi g tt te js) (wY n js is fi fg ft fe):=⟨λ{σ hv H U Z af ab d Q} I h k=>by
 have hm:=hm.h;subst hm;obtain⟨ds,h1,h⟩:=aj.mp h;by_cases c:ds.length<=aN/\is.all (λi=>js[i]? == some none)=true
 ·rw[if_pos c]at h;obtain⟨es,h2,h⟩:=aX.mp h;subst h;refine A.s I h1 λJ H1 s1 wk=> ?_;have I1:=S8 (js:=js) (I.same s1);have S9:∀i∈is,∀β,(jc n js Z)[i]?≠some (some β):=λi hi β z=>by
   have:=Gg.mp c.2 i hi;have e:js[i]?=some none:=by simpa using this
   unfold jc at z;rw[du,e]at z;cases z
  have rL:∀(j:Nat) (β:B),(jc n js Z)[j]?=some (some β)->∀r p,β≠ .aT r p:=λj β z r p e=>by
   subst e;unfold jc at z;rw[du]at z;cases e:js[j]? with
   |none=>rw[e]at z;cases z
   |some o=>
    rw[e]at z;have z:=jQ z;cases o with
    |none=>cases z
    |some x=>
     have z:(if x < n then(ae x Z).map B.ro else none)=some (B.aT r p):=z;by_cases c:x < n
     ·rw[if_pos c]at z;obtain⟨_,_,w⟩:=aX.mp z;cases w
     ·rw[if_neg c]at z;cases z
  refine⟨λi m aM ys H'=>m=ds.length - i/\i<=ds.length/\aQ H1 H'/\aB K js.length H' (λ_=>False) aM [] (jc n js Z) [] []/\ys.length<=i/\∃ea eb,es=ea++eb/\iE K H1 H' ys ea/\mR fg ft fe (jc n js Z) (ds.drop i)=some eb,⟨ds.length,by simp,kz _,aQ.refl _,I1,bT _, [],es,rfl, .nil,h2⟩, ?_⟩;rintro i m aM ys H' ⟨rfl,hi,sx,Ix,hy,ea,eb,rfl,ow,cd⟩;by_cases fm:i < ds.length
  ·right;have hd:ds[i]?=some ds[i]:=gP fm;obtain⟨go,yl⟩:=(wk H' sx).2 i _ hd;rw[BA fm]at cd;rw[mR]at cd;obtain⟨ρ1,b1,cd⟩:=aj.mp cd;obtain⟨b,b2,cd⟩:=aj.mp cd;refine⟨go,λfG zs H2=>aQ H1 H2/\aB K js.length H2 (λ_=>False) fG [] (jc n js Z) [] []/\zs.length<=i + 1/\∃fa fb,ea++eb=fa++fb/\iE K H1 H2 zs fa/\mR fg ft fe (jc n js Z) (ds.drop (i + 1))=some fb,λfG zs H2 ⟨a1,a2,a3,a4⟩=>⟨by lia,_,by lia,rfl,fm,a1,a2,a3,a4⟩,λx H2 y2=> ?_⟩;obtain⟨s2,w2⟩:=yl x H2 y2;refine G.s (Ix.same s2) (w2.mono λ_ _ z=>z) b1 λfG I2=> ?_;have back:∀{H3:Hp},aQ H2 H3->aB K js.length H3 (λ_=>False) fG [] (jc n js Z) [] []:=λ{H3} s3=>by
    refine(I2.same s3).weaken (G.len b1).symm λj β q=> ?_;by_cases hj:j∈is
    ·exact absurd q (S9 j hj β)
    ·exact G.keep b1 hj (rL j β q) q
   refine T.s I2 b2 λH4 s4=> ?_;cases b with
   |true=>
    rw[if_pos rfl]at cd |-;obtain⟨y,b3,cd⟩:=aj.mp cd;obtain⟨fb,b4,cd⟩:=aX.mp cd;subst cd;refine Q'.o (I2.same s4) b3 λv H5 s5 o=>⟨sx.trans (s2.trans (s4.trans s5)),back (s4.trans s5),by simp;lia,ea++ [y],fb,by simp, ?_,b4⟩
    have o':dF K H' H5 v y:=o.early (s2.trans s4);exact ow.snoc o' sx (s2.trans (s4.trans s5))
   |false=>
    rw[if_neg bh]at cd |-;refine⟨sx.trans (s2.trans s4),back s4,by lia,ea,eb,rfl, ?_,cd⟩;obtain⟨hl,Fs,dj,fr,rp⟩:=ow;exact⟨hl,Fs,dj,λj b z=>⟨(fr j b z).1,wA (fr j b z).2 (s2.trans s4)⟩,λj v d a b=>(rp j v d a b).same (s2.trans s4)⟩
  ·left;have e:i=ds.length:=by lia
   subst e;rw[Gh,mR]at cd;cases cd;rw[fO]at k;refine⟨(wk H' sx).1,λD hD=> ?_⟩;exact k _ _ ((s1.trans sx).trans (g9 hD _)) ((ow.node (k:= .lst) sx hD (.inr ⟨rfl,trivial,0,rfl⟩)).early s1)
 ·rw[if_neg c]at h;cases h⟩
variable {E:jJ}
structure Dz(K:ak)(J:It)(ds:List D)(P:Hp->(Addr->Prop)->Prop):Prop where
 step:∀{H H' U U'},P H U->bF U H U' H'->(∀b,U b->gY (H b))->P H' U'
 stop:∀{H U},P H U->J.stop ds.length H
 item:∀{H U} {i:Nat} {d:D},P H U->ds[i]?=some d->J.go i H/\∀x H',J.qd i H x H'->H'=H/\Vw K H (λb=>¬ U b) x d
class wZ(K:ak)(n:Nat)(wi:TI)(f:outParam (En->Option (List D))):Prop where
 s:∀{σ hv:List (Option V)} {H:Hp} {U:Addr->Prop} {Z:En} {af:List V} {ab:List D} {ds:List D} {R:It->Hp->Prop},aB K n H U σ hv Z af ab->f Z=some ds->(∀J P H',aQ H H'->Dz K J ds P->P H' U->R J H')->wi σ H R
theorem JO(lo:Int)(m:Nat):Dz K (yt lo m) (nY lo m) λ_ _=>True:=by
 have l:(nY lo m).length=m:=by unfold nY;simp
 refine⟨λ_ _ _=>trivial,λ{H U} _=>by show m<=_;rw[l];exact bT _,λ{H U i d} _ hd=> ?_⟩;have hi:i < m:=by rw[<- l];exact(cb.mp hd).1
 refine⟨hi,λx H2 ⟨e,hx⟩=>⟨e, ?_⟩⟩;subst hx;unfold nY at hd;rw[du,List.getElem?_range hi]at hd;cases hd;exact .sc _
instance aaT[A:SA K n ta fa]:wZ K n (B1 ta) (λZ=>(fa Z).bind kH):=⟨λ{σ hv H U Z af ab ds R} I h k=>by
 obtain⟨a,h1,h2⟩:=aj.mp h;refine A.s I h1 λvs H1 s1 w=> ?_;obtain⟨j,e,c1,c2,e2⟩:=JN w h2;subst e2;exact⟨j,e,c1,c2,k _ _ H1 s1 (JO 0 _) trivial⟩⟩
theorem se(h:cS K H (λb=>¬ U b) vs cs)(st:bF U H U' H')(mu:∀b,U b->gY (H b)):cS K H' (λb=>¬ U' b) vs cs:=⟨h.1,λi v d a b=>(h.2 i v d a b).over (λb o nb q=>st b o q nb) (st.e9 mu)⟩
theorem DA{R:It->Hp->Prop}(w:Vw K H (λb=>¬ U b) v d)(h:jX d=some ds)(k:∀J P,Dz K J ds P->P H U->R J H):
  (∃a,v= .ref a/\(∃xs,bW K H a xs)/\R (qe K a) H)\/(∃a,v= .ref a/\(∃xs,cD K H a xs)/\R (yr K a) H)\/∃z,v= .str z/\R (yY z) H:=by
 unfold jX at h
 split at h
 ·next cs=>
  cases h;obtain⟨a,vs,rfl,na,hc,hl,bQ⟩:=w.node;refine .inl ⟨a,rfl,⟨vs,bW.of hc.2⟩,k _ (λH U=>H a=some (.lst vs)/\¬ U a/\cS K H (λb=>¬ U b) vs ds) ⟨λ{H H' U U'} ⟨x1,x2,x3⟩ st mu=>⟨(st _ _ x1 x2).1,(st _ _ x1 x2).2,se x3 st mu⟩,λ{H U} ⟨x1,_,x3⟩=>⟨vs,bW.of x1,by rw[x3.1];exact bT _⟩,λ{H U i d} ⟨x1,x2,x3⟩ hd=> ?_⟩ ⟨hc.2,na rfl,hl,bQ⟩⟩;obtain⟨u,hu,w⟩:=x3.get hd;exact⟨⟨vs,u,bW.of x1,hu⟩,λx H2 ⟨e,q⟩=>⟨e,by
   have:=q vs (bW.of x1);rw[hu]at this;cases this;exact w⟩⟩
 ·next cs=>
  cases h;obtain⟨a,vs,rfl,na,hc,hl,bQ⟩:=w.node;refine .inr (.inl ⟨a,rfl,⟨vs,cD.of hc.2⟩,k _ (λH U=>H a=some (.tup vs)/\cS K H (λb=>¬ U b) vs ds) ⟨λ{H H' U U'} ⟨x1,x3⟩ st mu=>⟨st.e9 mu _ _ (λz=>z) x1,se x3 st mu⟩,λ{H U} ⟨x1,x3⟩=>⟨vs,cD.of x1,by rw[x3.1];exact bT _⟩,λ{H U i d} ⟨x1,x3⟩ hd=> ?_⟩ ⟨hc.2,hl,bQ⟩⟩);obtain⟨u,hu,w⟩:=x3.get hd;exact⟨⟨vs,u,cD.of x1,hu⟩,λx H2 ⟨e,q⟩=>⟨e,by
   have:=q vs (cD.of x1);rw[hu]at this;cases this;exact w⟩⟩
 ·next cs=>
  cases h;obtain⟨a,vs,rfl,na,hc,hl,bQ⟩:=w.node;have ho:ib K H a vs:=hc.2;refine .inl ⟨a,rfl,⟨vs,ho.sq⟩,k _ (λH U=>ib K H a vs/\cS K H (λb=>¬ U b) vs ds) ⟨λ{H H' U U'} ⟨x1,x3⟩ st mu=>⟨x1.e9 (st.e9 mu),se x3 st mu⟩,λ{H U} ⟨x1,x3⟩=>⟨vs,x1.sq,by rw[x3.1];exact bT _⟩,λ{H U i d} ⟨x1,x3⟩ hd=> ?_⟩ ⟨ho,hl,bQ⟩⟩;obtain⟨u,hu,w⟩:=x3.get hd;exact⟨⟨vs,u,x1.sq,hu⟩,λx H2 ⟨e,q⟩=>⟨e,by
   have:=q vs (x1.sq);rw[hu]at this;cases this;exact w⟩⟩
 ·next z=>
  cases h;have lz:(chars z).length=z.cps.size:=by unfold chars;simp
  refine .inr (.inr ⟨z,w.cq,k _ (λ_ _=>True) ⟨λ_ _ _=>trivial,λ{H U} _=>by show z.cps.size<=_;rw[lz];exact bT _,λ{H U i d} _ hd=> ?_⟩ trivial⟩);have hi:i < z.cps.size:=by rw[<- lz];exact(cb.mp hd).1
  refine⟨hi,λx H2 ⟨e,c,hc,hx⟩=>⟨e, ?_⟩⟩;subst hx;unfold chars at hd;rw[du]at hd;have:z.cps.toList[i]?=some c:=by simpa using hc
  rw[this]at hd;cases hd;exact .sc _
 ·cases h
theorem dF.out(o:dF K H H' v d)(mu:∀b,U b->gY (H b)):Vw K H' (λb=>¬ U b) v d:=by
 obtain⟨G,r,f⟩:=o;exact r.view λb z u=>by
  obtain⟨w,q⟩:=pj (mu b u);rw[(f b z).1]at q;cases q
def DB(f:En->Option Pl)(Z:En):Option (List D):=(f Z).bind λ
 |.ro d=>jX d
 |.rt _ _=>none
instance (priority:=500) Ta{tl:TE}{fl:En->Option Pl}[A:SP K n tl fl]:wZ K n (pH K tl) (DB fl):=⟨λ{σ hv H U Z af ab ds R} I h k=>by
 obtain⟨q,h1,h2⟩:=aj.mp h;cases q with
 |rt _ _=>cases h2
 |ro d=>exact A.s I h1 λx H1 s1 w1=>DA w1 h2 λJ P wk p=>k J P H1 s1 wk p⟩
instance (priority:=400) aaU{tl:TE}{fl:En->Option D}[A:SQ K n tl fl]:wZ K n (pH K tl) (λZ=>(fl Z).bind jX):=⟨λ{σ hv H U Z af ab ds R} I h k=>by
 obtain⟨d,h1,h2⟩:=aj.mp h;exact A.o I h1 λx H1 s1 o=>DA (o.out I.ok.mu) h2 λJ P wk p=>k J P H1 s1 wk p⟩
noncomputable def de (fg:D->En->Option En) (fb:En->Option Fl):List D->En->Option Fl
 | [],Z=>some (.nx Z)
 |d::ds,Z=>(fg d Z).bind λρ1=>(fb ρ1).bind λ
  |.nx ρ2=>de fg fb ds ρ2
  |.ct ρ2=>de fg fb ds ρ2
  |.bk ρ2=>some (.nx ρ2)
  |.rt d ρ2=>some (.rt d ρ2)
instance Tb[A:wZ K n wi fi][G:SG K n g fg is][B':SS K n tb fb]:SS K n (vJ wi g tb) (λZ=>(fi Z).bind λds=>de fg fb ds Z):=⟨λ{σ hv H U Z af ab fl E} I h k=>by
 obtain⟨ds,h1,h⟩:=aj.mp h;refine A.s I h1 λJ P H1 s1 wk p0=> ?_;have fL:bF U H U H1:=λb o q nu=>⟨s1 b o q,nu⟩
 refine⟨λi m aM H'=>m=ds.length - i/\i<=ds.length/\∃U' ρ',aB K n H' U' aM hv ρ' af ab/\bF U H U' H'/\P H' U'/\de fg fb (ds.drop i) ρ'=some fl,⟨ds.length,by simp,kz _,U,Z,I.same s1,fL,p0,h⟩, ?_⟩;rintro i m aM H' ⟨rfl,hi,U',ρ',Ix,st,p,fo⟩;by_cases fm:i < ds.length
 ·right;have hd:ds[i]?=some ds[i]:=gP fm;obtain⟨go,yl⟩:=wk.item p hd;rw[BA fm,de]at fo;obtain⟨ρ1,b1,fo⟩:=aj.mp fo;obtain⟨pI,b2,fo⟩:=aj.mp fo;refine⟨go,λfG H2=>∃U2 ρ2,aB K n H2 U2 fG hv ρ2 af ab/\bF U' H' U2 H2/\de fg fb (ds.drop (i + 1)) ρ2=some fl,λfG H2 ⟨U2,ρ2,a1,a2,a3⟩=>⟨_,by lia,rfl,fm,U2,ρ2,a1,st.trans a2,wk.step p a2 Ix.ok.mu,a3⟩,λx H2 y2=> ?_⟩;obtain⟨e,w2⟩:=yl x H2 y2;subst e;refine G.s Ix w2 b1 λfG I2=> ?_;refine B'.s I2 b2 ?_;cases pI with
  |nx ρ2=>exact λdq H3 U3 I3 s3=>⟨U3,ρ2,I3,s3,fo⟩
  |ct ρ2=>exact λdq H3 U3 I3 s3=>⟨U3,ρ2,I3,s3,fo⟩
  |bk ρ2=>cases fo;exact λdq H3 U3 I3 s3=>k dq H3 U3 I3 (st.trans s3)
  |rt d ρ2=>cases fo;exact λv dq H3 U3 I3 s3=>k v dq H3 U3 I3 (st.trans s3)
 ·left;have e:i=ds.length:=by lia
  subst e;rw[Gh,de]at fo;cases fo;exact⟨wk.stop p,k aM H' U' Ix st⟩⟩
open Classical in
end
section
variable {K:ak}{n:Nat}{H H' H1 H2:Hp}{U U':Addr->Prop}{σ hv:List (Option V)}{Z ρ':En}{af vs:List V}{ab ds:List D}{v y:V}{d:D}{E:XK}{N:Addr->Prop}{C:Addr}{m:Str}
class dz(K:ak)(C:Addr):Prop where
 h:lN K C
theorem zC{α:Type}:∀(k:Nat) (xs:List α),b8 (bK k false) xs= []
 |0,_=>by simp[b8]
 |k + 1, []=>by simp[b8,bK]
 |k + 1,x::xs=>by rw[vt,b8];exact zC k xs
theorem Tc{Q:VK}(hC:lN K C)(w:cS K H T1 vs ds)(hk:ds.length=k)(hG:G (.nd (.obj C []) []::ds)=some (r, [out]))(hr:r= .sc .az)(hx:H x=none)(DC:H dx=none)(ne:dx≠x)
  (q:∀H',aQ H H'->dF K H H' (.ref x) out->Q (.ref x) H'):gy K (true::bK k false) G (.ref x::vs) (upd (upd H dx (.own x)) x (.ins C dx [])) (λv H2=>v= .az/\Q (.ref x) H2) E:=by
 have s0:aQ H (upd (upd H dx (.own x)) x (.ins C dx [])):=λb o e=>by
  rw[bE (gQ e hx),bE (gQ e DC)];exact e
 have JP:upd (upd H dx (.own x)) x (.ins C dx []) x=some (.ins C dx []):=gb;refine⟨by rw[eU,eU,vp,w.1,hk], .nd (.obj C []) []::ds,λb=>b=x,r, [out],by rw[eU,eU,vp,hk], ?_,λi u e hm hu he=> ?_,hG,λv H2 U2 ok st=> ?_⟩
 ·rw[b8,b8,zC,zC];refine⟨rfl,λb hb=>by rw[hb,JP];trivial,λi b=>i=0/\b=x,λi j b hi hj=>by rw[hi.1,hj.1],λi b hb=>hb.2,λi β aL=> ?_⟩;cases i with
  |succ i=>simp[cJ]at aL
  |zero=>
   cases aL;refine⟨.ref x,rfl, .nd (vs:= []) (λ_ _=>False) ?_ rfl (λ_ _ _ z=>z.elim) (λ_ _ z=>z.elim) λi v d h=>by simp at h⟩;exact⟨⟨rfl,rfl⟩,rfl,⟨rfl,hC,λf hf=>by simp at hf⟩,dx,JP⟩
 ·cases i with
  |zero=>cases hm
  |succ i=>
   have a:vs[i]?=some u:=by simpa using hu
   have b:ds[i]?=some e:=by simpa using he
   exact(w.2 i u e a b).over (λc o _ q=>⟨s0 c o q,λz=>by rw[z,hx]at q;cases q⟩) (fJ.of s0)
 ·subst hr;rw[b8,zC]at ok;obtain⟨_,mu,Fs,dj,sub,sl⟩:=ok;obtain⟨v',ev,sv⟩:=sl 0 (.own (.sc .az)) rfl;cases ev;have e0:v= .az:=bb.cq sv;obtain⟨x',ex,sx⟩:=sl 1 (.own out) rfl;cases ex;refine⟨e0,q H2 (λb o e=>(st b o (s0 b o e) λz=>by rw[z,hx]at e;cases e).1) ⟨Fs 1,sx,λb z=>⟨?_,mu b (sub 1 b z)⟩⟩⟩;cases e:H b with
  |none=>rfl
  |some o=>exact absurd (sub 1 b z) (st b o (s0 b o e) λz=>by rw[z,hx]at e;cases e).2
noncomputable def zD:D->Bool
 |.sc .az=>true
 |_=>false
def DD(G:List D->Option (D×List D))(C:Addr)(k:Nat)(fa:En->Option (List D))(Z:En):Option D:=(fa Z).bind λds=>if ds.length=k then(G (.nd (.obj C []) []::ds)).bind λ
 |(r, [o])=>if zD r=true then some o else none
 |_=>none else none
instance aaV[hC:dz K C][A:SA K n t fa]:SF K n (Cc C (gy K (true::bK k false) G) [] E t) (DD G C k fa):=⟨λ{σ hv H U Z af ab d Q} I h kk=>by
 obtain⟨ds,h1,h⟩:=aj.mp h;by_cases c:ds.length=k
 ·rw[if_pos c]at h;obtain⟨⟨r,cW⟩,h2,h⟩:=aj.mp h
  match cW,h with
  | [o],h=>
   have h:(if zD r=true then some o else none)=some d:=h;by_cases cr:zD r=true
   ·rw[if_pos cr]at h;cases h;have er:r= .sc .az:=by
     unfold zD at cr
     split at cr
     ·rfl
     ·cases cr
    refine A.s I h1 λvs H1 s1 w=> ?_;intro x dx hx DC ne;rw[fO];exact Tc hC.h w c h2 er hx DC ne λH2 s2 o=>kk _ H2 (s1.trans s2) (o.early s1)
   ·rw[if_neg cr]at h;cases h
  | [],h=>cases h
  |_::_::_,h=>cases h
 ·rw[if_neg c]at h;cases h⟩
instance aaW:SF K n HW (λ_=>some (.nd (.cy []) [])):=⟨λ{σ hv H U Z af ab d Q} I h k=>by
 cases h;intro p hp;exact k _ _ (g9 hp _) ((iE.nil (K:=K) (H:=H) (H':=H)).node (k:= .cy []) (aQ.refl H) hp (.inr ⟨rfl,rfl,0,rfl⟩))⟩
instance aaX:SF K n HX (λ_=>some (.nd (.dk []) [])):=⟨λ{σ hv H U Z af ab d Q} I h k=>by
 cases h;intro p hp;exact k _ _ (g9 hp _) ((iE.nil (K:=K) (H:=H) (H':=H)).node (k:= .dk []) (aQ.refl H) hp (.inr ⟨rfl,rfl,0,rfl⟩))⟩
theorem DE(hc:hV K H a k vs)(h:bp (.nd k cs) dy=some o):yN H a:=by
 unfold bp at h
 split at h
 ·next ks _ i e=>cases e;exact .inl ⟨_,hc.2⟩
 ·next ks _ fR e=>cases e;exact .inr ⟨_,hc.2⟩
 ·cases h
def mS(fd fy fx:En->Option D)(Z:En):Option D:=(fd Z).bind λd=>(fy Z).bind λy=>(fx Z).bind λx=>(bp d y).bind λ
 |some i=>bM d i
 |none=>some x
instance aaY[A:SV K n td fd][B':SV K n ty fy][C':SV K n tx fx]:SV K n (ud td ty tx) (mS fd fy fx):=⟨λ{σ hv H U Z af ab d Q} I h k=>by
 obtain⟨x,h1,h⟩:=aj.mp h;obtain⟨y,h2,h⟩:=aj.mp h;obtain⟨z,h3,h⟩:=aj.mp h;obtain⟨o,h4,h⟩:=aj.mp h;refine A.s I h1 λv H1 s1 w1=> ?_;cases x with
 |sc _=>simp[bp]at h4
 |hl _=>simp[bp]at h4
 |nd kk cs=>
  obtain⟨a,vs,rfl,_,hc,hl,bQ⟩:=w1.node;refine⟨a,rfl,DE hc h4,B'.s (I.same s1) h2 λu H2 s2 w2=>C'.s ((I.same s1).same s2) h3 λt H3 s3 w3=> ?_⟩;have w4:hV K H3 a kk vs:=hc.frame (λ_ o e=>(s2.trans s3) _ _ e) (fJ.of (s2.trans s3));have g:=w4.wQ hl (w2.same s3) h4;cases o with
  |none=>
   have h:some z=some d:=h;cases h;exact⟨_,g,k t H3 (s1.trans (s2.trans s3)) w3⟩
  |some i=>
   have h:cs[i]?=some d:=h;obtain⟨b,hb⟩:=lU hl h;have e:(some i).bind (vs[·]?)=some b:=hb;rw[e]at g;exact⟨_,g,k b H3 (s1.trans (s2.trans s3)) ((bQ i b d hb h).same (s2.trans s3))⟩⟩
section
variable {κ:Type}[DecidableEq κ]
theorem DF{y:V}:∀{ks:List κ} {vs:List V} {i:Nat},cX k ks=some i->ks.length=vs.length->ks.Nodup->iq (ks.zip vs) k y=ks.zip (vs.set i y):=λ{ks vs i} h hl nd=>by
 have ha:((ks.zip vs).any λkv=>decide (kv.1=k))=true:=by rw[Dn hl,h];rfl
 unfold iq;rw[if_pos ha];clear ha
 induction ks generalizing vs i with
 |nil=>cases h
 |cons g r ih=>
  match vs,hl with
  | [],hl=>cases hl
  |v::vs,hl=>
   rw[cX]at h;have JQ:=mB.mp nd;by_cases c:g=k
   ·rw[if_pos c]at h;cases h;rw[p7,eO];have rest:∀(l:List κ) (us:List V),k∉l->(l.zip us).map (λkv=>if kv.1=k then(kv.1,y) else kv)=l.zip us:=by
     intro l
     induction l with
     |nil=>intro us _;rfl
     |cons b l Td=>
      intro us hn;cases us with
      |nil=>rfl
      |cons u us=>
       rw[p7,eO,Td us λz=>hn (.tail _ z)];have:¬ b=k:=λz=>hn (by rw[z];exact .head _);simp[this]
    rw[rest r vs (by rw[<- c];exact JQ.1)];simp[c]
   ·rw[if_neg c]at h;obtain⟨j,h1,h2⟩:=aX.mp h;subst h2;rw[p7,eO,ih h1 (eP hl) JQ.2];simp[c]
theorem w6{y:V}{ks:List κ}{vs:List V}(h:cX k ks=none)(hl:ks.length=vs.length):iq (ks.zip vs) k y=(ks++ [k]).zip (vs++ [y]):=by
 have ha:((ks.zip vs).any λkv=>decide (kv.1=k))=false:=by rw[Dn hl,h];rfl
 unfold iq;rw[if_neg (by rw[ha];exact bh),List.zip_append hl];rfl
end
def w9:D->Option (List bB)
 |.nd .tup ys=>qW ys
 |_=>none
def qF(k:Kd)(cs:List D)(y d:D):Option D:=match k with
 |.cy ks=>(cv y).bind λkey=>if cs.length < aN/\ks.Nodup then(match cX key ks with
  |some i=>some (.nd (.cy ks) (cs.set i d))
  |none=>some (.nd (.cy (ks++ [key])) (cs++ [d]))) else none
 |_=>none
def xa(fv:En->Option (D×En))(fp:En->Option Pl)(fy:En->Option D)(Z:En):Option Fl:=(fv Z).bind λa=>(fp a.2).bind λ
 |.rt r p=>(fy a.2).bind λy=>(gw a.2 r p).bind λz=>(qF z.2.1 z.2.2 y a.1).map λd'=> .nx (gE a.2 r z.1 p d')
 |.ro _=>none
instance aaZ[A:SM K n tv fv][P:SP K n td fp][Y:SV K n ty fy]:SS K n (yI td ty tv) (xa fv fp fy):=⟨λ{σ hv H U Z af ab fl E} I h k=>by
 obtain⟨⟨d,ρ1⟩,h1,h⟩:=aj.mp h;obtain⟨q,h2,h⟩:=aj.mp h;cases q with
 |ro _=>cases h
 |rt r p=>
  obtain⟨y,h5,h⟩:=aj.mp h;obtain⟨⟨d0,kk,cs⟩,h3,h⟩:=aj.mp h;obtain⟨d',h4,h⟩:=aX.mp h;subst h;obtain⟨hr,hg⟩:=mP h3;refine A.s I h1 λx H1 U1 I1 cT=> ?_;refine P.s I1 h2 λo H2 s2 w2=> ?_;have I2:=I1.same s2;refine Y.s I2 h5 λu H3 s3 w3=> ?_;have I3:=I2.same s3;have sf:=w2.same s3;have fL:bF U1 H1 U1 H3:=λb o q nu=>⟨(s2.trans s3) b o q,nu⟩
  unfold qF at h4
  split at h4
  ·next ks e=>
   have e:kk= .cy ks:=e;subst e;obtain⟨key,e1,h4⟩:=aj.mp h4;by_cases c:cs.length < aN/\ks.Nodup
   ·rw[if_pos c]at h4;obtain⟨a,dx,vs,rfl,ha,hf,hl,_,ed⟩:=aB.edit (xs:= [x]) (ds:= [d]) I3 rfl sf hr hg rfl;have hf:ks.length=vs.length:=hf
    split at h4
    ·next i e2=>
     cases h4;have hi:i < vs.length:=by rw[<- hf];exact uw e2
     refine⟨a,_,rfl, .inl ⟨_,key,ha,w3.key e1,by rw[ny];lia,rfl⟩, ?_⟩;rw[DF e2 hf c.2];obtain⟨U4,I4,gS⟩:=ed (.cy ks) (vs.set i x) (cs.set i d) (λj=>if j=i then vs.length else j) rfl (by show ks.length=(vs.set i x).length;rw[bI];exact hf) (by rw[bI,bI];exact hl)
      (λx z hx hz=>wK hi x z (by rw[bI]at hx;exact hx) (by rw[bI]at hz;exact hz)) (nT hi) (by rw[hl];exact nT (by lia))
     exact k σ _ U4 I4 (cT.trans (fL.trans gS))
    ·next e2=>
     cases h4;refine⟨a,_,rfl, .inl ⟨_,key,ha,w3.key e1,by rw[ny];lia,rfl⟩, ?_⟩;rw[w6 e2 hf];obtain⟨U4,I4,gS⟩:=ed (.cy (ks++ [key])) (vs++ [x]) (cs++ [d]) id rfl (by show(ks++ [key]).length=_;simp;exact hf) (by simp;exact hl) (λx z _ _ h=>h) (λj x h=>h) λj x h=>h;exact k σ _ U4 I4 (cT.trans (fL.trans gS))
   ·rw[if_neg c]at h4;cases h4
  ·cases h4⟩
end
end VL
namespace HT
open PySem PySem.Spec PyProof.Rows L2
section
variable {w:World}{A:Around}{E:Value->Shared->Prop}{s:Shared}
theorem Te{t sl:Addr}{items:Array Value}{vl vu:Value}{lo hi:Option Int}{Q:Value->Shared->Prop}(ht:IsTup s.heap t items)(hs:s.heap.IsSliceOf sl vl vu .none)(pl:IsPart vl lo)(pu:IsPart vu hi)
  (hw:bz items.size 0 lo=0/\bz items.size items.size hi=items.size) (h:Q (.ref t) s):wpAny (model prog w) A (tf (.ref t) (.ref sl)) Q E s:=by
 obtain⟨os,rM,qj,rN⟩:=id hs;have Cf:s.TypeIs (.ref sl) "slice":=⟨os,rM,qj⟩
 unfold tf
 try with_reducible refine xP ?_
 first | refine aH (b5 ?_) | skip
 refine aH (wpAny_sequenceKey ht.typeIs (by decide) ?_);refine aH (xS (name:=aE "__getitem__") ht.typeIs ya
  (xT ya ht.typeIs YL ?_ (args_tuple_getitem _ _)))
 show wpAny _ _ (Y1 (.ref t) >>= _) _ _ s;refine aH (tupleItemsOf_ ht ?_);refine aH (M4 Cf ?_);rw[if_pos (by decide)];refine aH (Hm hs pl pu ?_);have Tf:(((bz items.size 0 lo:Nat):Int) == 0 && (1:Int) == 1 && (bz items.size items.size hi - bz items.size 0 lo) == items.size)=true:=by
  rw[hw.1,hw.2];simp
 show wpAny _ _ (if(((bz items.size 0 lo:Nat):Int) == 0 && (1:Int) == 1 && (bz items.size items.size hi - bz items.size 0 lo) == items.size)=true then _ else _) _ _ s;rw[if_pos Tf];unfold Builtin.Tuple.tupleIsExact;refine aH (aH (M4 ht.typeIs (b5 ?_)));rw[if_pos (by decide)];exact aH (xV (b5 ⟨_,rfl,b5 h⟩))
end
end HT
namespace VL
open PySem PySem.Spec PyProof.Rows L2
def JR(K:ak):V->Option Int->Option Int->Hp->VK->Prop:=λx lo hi H Q=>∃a xs,x= .ref a/\cD K H a xs/\(HT.bz xs.length 0 lo=0/\HT.bz xs.length xs.length hi=xs.length)/\Q (.ref a) H
theorem Tg:lg X (JR X.K):=by
 intro aa s σ H x v vl vu lo hi sl Q I rx hs pl pu h;obtain⟨a,xs,rfl,hx,hw,q⟩:=h;cases rx;obtain⟨ax,r,ht,hz⟩:=I.tuple hx;have dM:ax.toArray.size=xs.length:=by rw[gI];exact r.length.symm
 refine⟨"tuple",_,ya.lookup,ht.typeIs, ?_⟩;exact HT.Te ht hs pl pu (by rw[dM];exact hw) ⟨.ref a,H,I,rfl,q⟩
def Th:V->Option Int->Option Int->Hp->VK->Prop:=λx lo hi H Q=>∃z,x= .str z/\z.length<=aN/\Q (.str (F7 z lo hi)) H
def kJ(K:ak):V->Option Int->Option Int->Hp->VK->Prop:=λx lo hi H Q=>Hr K x lo hi H Q\/JR K x lo hi H Q\/HA K x lo hi H Q\/Th x lo hi H Q
theorem pJ:lg X (kJ X.K):=lg.or PF (lg.or Tg (lg.or PX Rp))
def cutD{α:Type}(xs:List α)(lo hi:Option Int):List α:=(xs.drop (HT.bz xs.length 0 lo)).take (HT.bz xs.length xs.length hi - HT.bz xs.length 0 lo)
def jy(a:D)(lo hi:Option Int):Option D:=match a with
 |.nd .tup cs=>if bq cs=true then some (.nd .tup (cutD cs lo hi)) else none
 |.nd .lst cs=>if bq cs=true then some (.nd .lst (cutD cs lo hi)) else none
 |.nd .aA cs=>if bq cs=true then some (.nd .lst (cutD cs lo hi)) else none
 |.sc (.str z)=>if z.length<=aN then some (.sc (.str (F7 z lo hi))) else none
 |_=>none
section
variable {K:ak}{n:Nat}{H H' H1 H2:Hp}{U U':Addr->Prop}{σ hv:List (Option V)}{Z ρ':En}{af vs:List V}{ab ds:List D}{v y:V}{d:D}
theorem zE{α β:Type}{R:α->β->Prop}{xs:List α}{ys:List β}(hl:xs.length=ys.length)(h:∀(i:Nat) (x:α) (y:β),xs[i]?=some x->ys[i]?=some y->R x y)(lo hi:Option Int):
  (cutD xs lo hi).length=(cutD ys lo hi).length/\∀(i:Nat) (x:α) (y:β),(cutD xs lo hi)[i]?=some x->(cutD ys lo hi)[i]?=some y->R x y:=by
 unfold cutD;rw[hl];generalize HT.bz ys.length 0 lo=p;generalize HT.bz ys.length ys.length hi - p=q;refine⟨by simp[hl],λi x y hx hy=> ?_⟩;by_cases c:i < q
 ·rw[Nu c,List.getElem?_drop]at hx hy;exact h _ x y hx hy
 ·rw[NQ,if_neg c]at hx;cases hx
theorem DG(h:bq cs=true)(hs:∀d∈es,d∈cs):bq es=true:=nQ λd hd=>CO h (hs d hd)
theorem DH{α:Type}{xs:List α}{lo hi:Option Int}:∀x∈cutD xs lo hi,x∈xs:=λx hx=>List.mem_of_mem_drop (Zf hx)
class SO(K:ak)(n:Nat)(t:TO)(f:outParam (En->Option (Option Int))):Prop where
 s:∀{σ hv:List (Option V)} {H:Hp} {U:Addr->Prop} {Z:En} {af:List V} {ab:List D} {o:Option Int} {Q:Option Int->Hp->Prop},aB K n H U σ hv Z af ab->f Z=some o->(∀H',aQ H H'->Q o H')->t σ H Q
instance aa0:SO K n Hn (λ_=>some none):=⟨λI h k=>by cases h;exact k _ (aQ.refl _)⟩
noncomputable def fE:D->Option (Option Int)
 |.sc (.int i)=>some (some i)
 |_=>none
instance aa1[A:SV K n t f]:SO K n (Ho t) (λZ=>(f Z).bind fE):=⟨λ{σ hv H U Z af ab o Q} I h k=>by
 obtain⟨d,h1,h2⟩:=aj.mp h;refine A.s I h1 λv H1 s1 w1=> ?_;unfold fE at h2
 split at h2
 ·next i=>cases h2;exact⟨i,w1.cq,k H1 s1⟩
 ·cases h2⟩
theorem JS{Q:VK}{x:D}{lo hi:Option Int}(w:Vw K H T1 v x)(h:jy x lo hi=some d)(k:∀v H',aQ H H'->dF K H H' v d->Q v H'):kJ K v lo hi H Q:=by
 unfold jy at h
 split at h
 ·next cs=>
  by_cases c:bq cs=true
  ·rw[if_pos c]at h;cases h;obtain⟨a,vs,rfl,hc,vl⟩:=w.ie;by_cases cw:HT.bz vs.length 0 lo=0/\HT.bz vs.length vs.length hi=vs.length
   ·refine .inr (.inl ⟨a,vs,rfl,cD.of hc.2,cw, ?_⟩);have e:cutD cs lo hi=cs:=by
     unfold cutD;rw[<- vl.1,cw.1,cw.2,Gi,Nat.sub_zero,vl.1,NR]
    rw[e]at k;exact k _ H (aQ.refl H) (dF.plain w c)
   ·refine .inl ⟨a,vs,rfl,cD.of hc.2,cw,λp hp=> ?_⟩;have g:=zE vl.1 vl.2 lo hi;exact k _ _ (g9 hp _) (cS.own (k:= .tup) ⟨g.1,g.2⟩ (DG c DH) hp (.inl ⟨rfl,rfl⟩))
  ·rw[if_neg c]at h;cases h
 ·next cs=>
  by_cases c:bq cs=true
  ·rw[if_pos c]at h;cases h;obtain⟨a,vs,rfl,hc,vl⟩:=w.ie;refine .inr (.inr (.inl ⟨a,vs,rfl,bW.of hc.2,λp hp=> ?_⟩));have g:=zE vl.1 vl.2 lo hi;exact k _ _ (g9 hp _) (cS.own (k:= .lst) ⟨g.1,g.2⟩ (DG c DH) hp (.inr ⟨rfl,trivial,0,rfl⟩))
  ·rw[if_neg c]at h;cases h
 ·next cs=>
  by_cases c:bq cs=true
  ·rw[if_pos c]at h;cases h;obtain⟨a,vs,rfl,hc,vl⟩:=w.ie;refine .inr (.inr (.inl ⟨a,vs,rfl,ib.sq hc.2,λp hp=> ?_⟩));have g:=zE vl.1 vl.2 lo hi;exact k _ _ (g9 hp _) (cS.own (k:= .lst) ⟨g.1,g.2⟩ (DG c DH) hp (.inr ⟨rfl,trivial,0,rfl⟩))
  ·rw[if_neg c]at h;cases h
 ·next z=>
  by_cases c:z.length<=aN
  ·rw[if_pos c]at h;cases h;exact .inr (.inr (.inr ⟨z,w.cq,c,k _ H (aQ.refl H) (.sc _)⟩))
  ·rw[if_neg c]at h;cases h
 ·cases h
def iP(fe:En->Option D)(fl fh:En->Option (Option Int))(Z:En):Option D:=(fe Z).bind λd=>(fl Z).bind λlo=>(fh Z).bind λhi=>jy d lo hi
instance aa2[A:SV K n te fe][L:SO K n tl fl][R:SO K n th fh]:SF K n (vR (kJ K) te tl th) (iP fe fl fh):=⟨λ{σ hv H U Z af ab d Q} I h k=>by
 obtain⟨x,h1,h⟩:=aj.mp h;obtain⟨lo,h2,h⟩:=aj.mp h;obtain⟨hi,h3,h⟩:=aj.mp h;refine A.s I h1 λv H1 s1 w1=>L.s (I.same s1) h2 λH2 s2=>R.s ((I.same s1).same s2) h3 λH3 s3=> ?_;exact JS (w1.same (s2.trans s3)) h λv H4 s4 o=>k v H4 (s1.trans (s2.trans (s3.trans s4))) (o.early (s1.trans (s2.trans s3)))⟩
def xb(i d:D)(cs:List D):Option (List D):=match i with
 |.sc (.int j)=>(bJ cs.length j).map λp=>cs.set p d
 |_=>none
theorem Ti{i d:D}(h:xb i d cs=some fR):∃j p,i= .sc (.int j)/\bJ cs.length j=some p/\fR=cs.set p d:=by
 unfold xb at h
 split at h
 ·next j=>
  obtain⟨p,h1,h2⟩:=aX.mp h;exact⟨j,p,rfl,h1,h2.symm⟩
 ·cases h
def sg(fe:En->Option (D×En))(fp:En->Option Pl)(fi:En->Option D)(Z:En):Option Fl:=(fe Z).bind λa=>(fp a.2).bind λ
 |.rt r p=>(fi a.2).bind λi=>(ja a.2 r p (xb i a.1)).map .nx
 |.ro _=>none
instance aa3[A:SM K n te fe][P:SP K n to fp][J:SV K n ti fi]:SS K n (mG te (G0 to ti Hz)) (sg fe fp fi):=⟨λ{σ hv H U Z af ab fl E} I h k=>by
 obtain⟨⟨d,ρ1⟩,h1,h⟩:=aj.mp h;obtain⟨q,h2,h⟩:=aj.mp h;cases q with
 |ro _=>cases h
 |rt r p=>
  obtain⟨i,h3,h⟩:=aj.mp h;obtain⟨ρ2,h4,h⟩:=aX.mp h;subst h;refine A.s I h1 λx H1 U1 I1 cT=> ?_;refine P.s I1 h2 λo H2 s2 w2=> ?_;have I2:=I1.same s2;refine J.s I2 h3 λj H3 s3 w3=> ?_;have I3:=I2.same s3;have sf:=w2.same s3;have fL:bF U1 H1 U1 H3:=λb o q nu=>⟨(s2.trans s3) b o q,nu⟩
  obtain⟨⟨d0,kk,cs⟩,g1,g2⟩:=aj.mp h4;obtain⟨hr,hg⟩:=mP g1
  split at g2
  ·next e=>
   have e:kk= .lst:=e;subst e;obtain⟨fR,g3,g4⟩:=aX.mp g2;subst g4;obtain⟨z,pp,ei,g5,g6⟩:=Ti (show xb i d cs=some fR from g3);subst ei;subst g6
   ·skip
    obtain⟨a,dx,vs,rfl,ha,hf,hl,_,ed⟩:=aB.edit (xs:= [x]) (ds:= [d]) I3 rfl sf hr hg rfl;have hi:pp < vs.length:=by rw[hl];exact Sd g5
    refine⟨a,vs,z,pp,rfl,w3.cq,ha,by rw[hl];exact g5, ?_⟩;obtain⟨U4,I4,gS⟩:=ed .lst (vs.set pp x) (cs.set pp d) (λj=>if j=pp then vs.length else j) rfl trivial (by rw[bI,bI];exact hl)
     (λx z hx hz=>wK hi x z (by rw[bI]at hx;exact hx) (by rw[bI]at hz;exact hz)) (nT hi) (by rw[hl];exact nT (by lia))
    exact k σ _ U4 I4 (cT.trans (fL.trans gS))
  ·cases g2⟩
end
theorem JT{K:ak}{m:Nat}{G:List D->Option D}{vs:List V}{H:Hp}{Q:VK}{E:XK}(h:fW K m G vs H Q E):vs.length=m:=by
 obtain⟨ds,d,hd,w,_⟩:=h;rw[w.1,hd]
def kr(X:Cx)(scope:Scope):List Str->List (Option Nat)->Prop
 | [], []=>True
 |_::N,none::js=>kr X scope N js
 |x::N,some j::js=>(X.N[j]?=some x/\scope.names.lookup x=some .free/\(X.env.scope.names.lookup x=some .cell\/X.env.scope.names.lookup x=some .free))/\kr X scope N js
 |_,_=>False
noncomputable def uA:List Str->List (Option Nat)->List Str
 |_::N,none::js=>uA N js
 |x::N,some _::js=>x::uA N js
 |_,_=> []
theorem kr.len:∀{N:List Str} {js:List (Option Nat)},kr X scope N js->js.length=N.length
 | [], [],_=>rfl
 |_::N,none::js,h=>congrArg (· + 1) (kr.len (N:=N) (js:=js) h)
 |_::N,some _::js,h=>congrArg (· + 1) (kr.len (N:=N) (js:=js) h.2)
 | [],_::_,h=>h.elim
 |_::_, [],h=>h.elim
theorem kr.at:∀{N:List Str} {js:List (Option Nat)} {i j:Nat} {x:Str},kr X scope N js->js[i]?=some (some j)->N[i]?=some x->X.N[j]?=some x/\scope.names.lookup x=some .free/\(X.env.scope.names.lookup x=some .cell\/X.env.scope.names.lookup x=some .free)
 | [], [],_,_,_,_,h,_=>by simp at h
 |_::N,none::js,0,j,x,_,h,_=>by cases h
 |_::N,none::js,i + 1,j,x,h,h1,h2=>kr.at (N:=N) (js:=js) (i:=i) h (by simpa using h1) (by simpa using h2)
 |_::N,some _::js,0,j,x,h,h1,h2=>by cases h1;cases h2;exact h.1
 |_::N,some _::js,i + 1,j,x,h,h1,h2=>kr.at (N:=N) (js:=js) (i:=i) h.2 (by simpa using h1) (by simpa using h2)
 | [],_::_,_,_,_,h,_,_=>h.elim
 |_::_, [],_,_,_,h,_,_=>h.elim
theorem kr.mem:∀{N:List Str} {js:List (Option Nat)} {x:Str},kr X scope N js->x∈uA N js->X.env.scope.names.lookup x=some .cell\/X.env.scope.names.lookup x=some .free
 | [], [],_,_,h=>by simp[uA]at h
 |_::N,none::js,x,h,hm=>kr.mem (N:=N) (js:=js) h hm
 |y::N,some _::js,x,h,hm=>by
  rw[uA]at hm;cases hm with
  |head=>exact h.1.2.2
  |tail _ hm=>exact kr.mem (N:=N) (js:=js) h.2 hm
 | [],_::_,_,h,_=>h.elim
 |_::_, [],_,h,_=>h.elim
theorem uB(h:kr X scope N js)(v7:∀z∈scope.names,z.2= .free->z.1∈uA N js:=by decide +kernel):v9 X N scope js:=
 ⟨h.len,λi j x e1 e2=>h.at e1 e2,λz hz qr=>h.mem (v7 z hz qr)⟩
structure DI(P:Program)(w:World)(K:ak)(mg:Str->Option Value)(base:Heap)(x:Str)(C:Addr)(ps:List Str)(k:Nat)(sp:Sp):Prop where
 cl:lN K C
 ex:∃(f:Addr) (fd:jl),dO P w K mg base eR k f fd ps sp/\Binds K fd ps []/\Mk K C f/\mg x=some (.ref C)
section
variable {j k:Nat}{x m:Str}{e o:Expr}{ta:TE}
theorem Tj(M:DI X.prog X.w X.K X.mg X.base x C ps k sp)(hr:gn j X.A)(hg:Gl X x)(hj:k + 1<=j:=by decide)(mK:(x == ("__debug__":Str))=false:=by decide):
  PE X (.Call (.Name x p) [] [] pos) (Cc C sp [] E0 gR):=by
 obtain⟨f,fd,F,b,mk,hm⟩:=M.ex;exact Pq mk F (hr.mono hj) hg hm b .nil HM mK
theorem Tn{X:Cx}{K:ak}(hK:X.K=K){e:Expr}{f:Str}{pos:Pos}{ta:TE}(he:PE X e ta)(hb:vg e f X.env (eval e X.env)=eval e X.env):PE X (.Attribute e f pos) (vO K ta f):=by
 subst hK;exact Pg he hb
end
section
variable {K:ak}{n:Nat}{H H' H1 H2:Hp}{U U':Addr->Prop}{σ hv:List (Option V)}{Z ρ':En}{af vs:List V}{ab ds:List D}{v y:V}{d:D}
instance aa4:ko K n yT (λ_=>some true):=⟨λI h k=>by cases h;exact k _ (aQ.refl _)⟩
def DJ(K:ak)(ta:TE):TT:=λσ H Q=>ta σ H λx H'=>∃k,B8 K x H' k/\Q k H'
theorem To{X:Cx}{ta:TE}(ha:PE X a ta)(he:∀whole,isTrue a X.env whole=(do let v <- whole;Bf a.pos;holding [v] (truthy v))):PT X a (DJ X.K ta):=O0 ha he
noncomputable def xc:D->Option Bool
 |.nd .lst cs=>some (!cs.isEmpty)
 |.nd .tup cs=>some (!cs.isEmpty)
 |.sc (.bl b)=>some b
 |.sc (.int i)=>some (i != 0)
 |.sc .az=>some false
 |_=>none
theorem JU{α β:Type}{xs:List α}{ys:List β}(h:xs.length=ys.length):xs.isEmpty=ys.isEmpty:=by
 cases xs <;> cases ys <;> simp at h |-
instance aa5{ta:TE}{fa:En->Option D}[A:SV K n ta fa]:ko K n (DJ K ta) (λZ=>(fa Z).bind xc):=⟨λ{σ hv H U Z af ab b Q} I h k=>by
 obtain⟨x,h1,h⟩:=aj.mp h;refine A.s I h1 λv H1 s1 w=> ?_;unfold xc at h
 split at h
 ·cases h;obtain⟨a,us,rfl,hc,vl⟩:=w.ie;exact⟨_, .inl ⟨us,bW.of hc.2,by rw[JU vl.1]⟩,k H1 s1⟩
 ·cases h;obtain⟨a,us,rfl,hc,vl⟩:=w.ie;exact⟨_, .inr (.inl ⟨us,cD.of hc.2,by rw[JU vl.1]⟩),k H1 s1⟩
 ·cases h;rw[w.cq];exact⟨_,rfl,k H1 s1⟩
 ·cases h;rw[w.cq];exact⟨_,rfl,k H1 s1⟩
 ·cases h;rw[w.cq];exact⟨_,rfl,k H1 s1⟩
 ·cases h⟩
end
section
variable {K:ak}{n:Nat}{H H':Hp}{U U':Addr->Prop}{σ hv:List (Option V)}{Z ρ':En}{af vs:List V}{ab ds cs:List D}{v:V}{d:D}{E:jJ}
theorem DK{α:Type}{a b c c':List α}(h:i < a.length + b.length):(a++(b++c))[i]?=(a++(b++c'))[i]?:=by
 rw[<- cZ, <- cZ,aV (l₂:=c) (by simp;exact h),aV (l₂:=c') (by simp;exact h)]
theorem aB.Tp(I:aB K n H U σ hv Z (af++ [v]) (ab++ [.nd .tup cs])):∃a vs,v= .ref a/\H a=some (.tup vs)/\vs.length=cs.length/\aB K n H U σ hv Z (af++vs) (ab++cs):=by
 have l:=I.len;have tl:=I.tl;simp only[b6,eU,NI]at tl;obtain⟨hl,mu,Fs,dj,sub,sl⟩:=I.ok;have eD:(Z++(ab++ [D.nd .tup cs]).map λd=>some (B.own d))[Z.length + ab.length]?=some (some (.own (.nd .tup cs))):=by
  rw[bL (by lia)];simp
 have eV:(σ++hv++(af++ [v]).map some)[Z.length + ab.length]?=some (some v):=by
  rw[bL (by simp;lia)];simp;rw[show Z.length + ab.length - (σ.length + hv.length)=af.length by lia];simp
 obtain⟨v',ev,sv⟩:=sl _ _ eD;rw[eV]at ev;cases ev;have sv:bb K H (Fs (Z.length + ab.length)) v (.nd .tup cs):=sv;cases sv with
 | @nd F a k vs cs Gs h1 h2 h3 h4 h5=>
  refine⟨a,vs,rfl,h1,h2,⟨?_,I.len,I.nn⟩⟩;refine⟨by simp;lia,mu,λi b=>if i < Z.length + ab.length then Fs i b else Gs (i - (Z.length + ab.length)) b,λi j b hi hj=> ?_,λi b hb=> ?_,λi β aL=> ?_⟩
  ·have hi:if i < Z.length + ab.length then Fs i b else Gs (i - (Z.length + ab.length)) b:=hi;have hj:if j < Z.length + ab.length then Fs j b else Gs (j - (Z.length + ab.length)) b:=hj;by_cases c1:i < Z.length + ab.length
   ·rw[if_pos c1]at hi;by_cases c2:j < Z.length + ab.length
    ·rw[if_pos c2]at hj;exact dj _ _ _ hi hj
    ·rw[if_neg c2]at hj;have:=dj _ _ _ hi (h4 _ _ hj).1
     lia
   ·rw[if_neg c1]at hi;by_cases c2:j < Z.length + ab.length
    ·rw[if_pos c2]at hj;have:=dj _ _ _ hj (h4 _ _ hi).1
     lia
    ·rw[if_neg c2]at hj;have:=h3 _ _ _ hi hj
     lia
  ·have hb:if i < Z.length + ab.length then Fs i b else Gs (i - (Z.length + ab.length)) b:=hb;by_cases c1:i < Z.length + ab.length
   ·rw[if_pos c1]at hb;exact sub _ _ hb
   ·rw[if_neg c1]at hb;exact sub _ _ (h4 _ _ hb).1
  ·by_cases c1:i < Z.length + ab.length
   ·have rZ:(Z++(ab++ [D.nd .tup cs]).map λd=>some (B.own d))[i]?=some (some β):=by
     rw[<- aL,cf,cf];exact DK (by simp;lia)
    obtain⟨x,ex,sx⟩:=sl _ _ rZ;have Gw:(σ++hv++(af++vs).map some)[i]?=some (some x):=by
     rw[<- ex,cf,cf];exact DK (by simp;lia)
    refine⟨x,Gw, ?_⟩;simp only[if_pos c1];cases β with
    |own d=>exact sx
    |ro d=>exact sx
    |aT r p=>
     obtain⟨a1,vr,a2,a3⟩:=sx;refine⟨a1,vr, ?_,a3⟩;rw[<- a2,cf,cf];exact DK (by simp;lia)
   ·rw[cf, <- cZ,bL (by simp;lia)]at aL;rw[b6,eG,du]at aL;obtain⟨d,hd,e⟩:=aX.mp aL;cases e;have lt:=(cb.mp hd).1;refine⟨vs[i - (Z.length + ab.length)]'(by lia), ?_, ?_⟩
    ·rw[cf, <- cZ,bL (by simp;lia)];simp only[b6,eG,du];rw[show σ.length + hv.length + af.length=Z.length + ab.length by lia,gP (by lia)];rfl
    ·simp only[if_neg c1];exact h5 _ _ _ (gP (by lia)) hd
def binds:List Nat->List D->En->En
 |i::is,d::ds,Z=>binds is ds (aR i (.own d) Z)
 |_,_,Z=>Z
class GN(K:ak)(n:Nat)(g:oV)(is:outParam (List Nat)):Prop where
 s:∀{σ hv:List (Option V)} {H:Hp} {U:Addr->Prop} {Z:En} {af:List V} {ab:List D} {xs:List V} {ds:List D} {Q:L2.St->Hp->Prop},aB K n H U σ hv Z (af++xs) (ab++ds)->xs.length=ds.length->ds.length=is.length->(∀aM,aB K n H U aM hv (binds is ds Z) af ab->Q aM H)->g xs σ H Q
instance aa6:GN K n BX []:=⟨λ{σ hv H U Z af ab xs ds Q} I hl hd k=>by
 cases ds with
 |cons _ _=>cases hd
 |nil=>
  cases xs with
  |cons _ _=>cases hl
  |nil=>rw[fO,fO]at I;exact⟨rfl,k _ I⟩⟩
instance aa7[L:jV i n][A:GN K n t is]:GN K n (BY (kB i) t) (i::is):=⟨λ{σ hv H U Z af ab xs ds Q} I hl hd k=>by
 cases ds with
 |nil=>cases hd
 |cons d ds=>
  cases xs with
  |nil=>cases hl
  |cons x xs=>exact⟨x,xs,rfl,A.s (Z:=aR i (.own d) Z) ((I.Jp (eP hl)).bound L.h (.inr trivial)) (eP hl) (eP hd) k⟩⟩
def JV(is:List Nat):D->En->Option Fl
 |.nd .tup cs,Z=>if cs.length=is.length then some (.nx (binds is cs Z)) else none
 |_,_=>none
def zF(is:List Nat)(f:En->Option (D×En))(Z:En):Option Fl:=(f Z).bind λr=>JV is r.1 r.2
instance aa8[Lm:wX is m][G:GN K n t is][A:SM K n te fe]:SS K n (mG te (yn K m t)) (zF is fe):=⟨λ{σ hv H U Z af ab fl E} I h k=>by
 obtain⟨⟨d,ρ1⟩,h1,h2⟩:=aj.mp h;have h2:JV is d ρ1=some fl:=h2;clear h;cases d with
 |sc x=>cases h2
 |hl x=>cases h2
 |nd kd cs=>
 cases kd with
 |tup=>
  have h2:(if cs.length=is.length then some (Fl.nx (binds is cs ρ1)) else none)=some fl:=h2;by_cases c:cs.length=is.length
  ·rw[if_pos c]at h2;cases h2;refine A.s I h1 λv H1 U1 I1 cT=> ?_;obtain⟨a,vs,rfl,ha,hl,I2⟩:=I1.Tp;exact⟨a,vs,rfl,cD.of ha,by rw[hl,c];exact Lm.h,G.s I2 hl c λaM I3=>k _ H1 U1 I3 cT⟩
  ·rw[if_neg c]at h2;cases h2
 |_=>cases h2⟩
end
open PySem.W
section
variable {K:ak}{n:Nat}{H H':Hp}
end
section
variable {k:Nat}{f:Addr}
end
section
variable {K:ak}{n:Nat}{H H':Hp}
end
section
open AutoSeq1 (wpAny_loadPart')
open MeetsSeq MeetsSeq2 MeetsSeq3 SeqRoads2
variable {k:Nat}{f:Addr}
end
section
variable {K:ak}{n:Nat}{H H':Hp}
end
section
variable {P:Program}{w:World}{K:ak}{mg:Str->Option Value}{base:Heap}{k:Nat}{f:Addr}{fd:jl}{ps:List Str}{m:Nat}{bc:List Bool}
theorem Tq:dO P w K mg base eR k f fd ps (fW K m λ_=>none):=by
 refine⟨λvs H Q E h=> ?_,λA outer s H args us vs Q E _ _ _ _ h=> ?_⟩
 ·obtain⟨ds,d,_,_,h,_⟩:=h;cases h
 ·obtain⟨ds,d,_,_,h,_⟩:=h;cases h
end
section
variable {K:ak}{n:Nat}{H H' H1 H2:Hp}{U U':Addr->Prop}{σ hv:List (Option V)}{Z ρ':En}{af vs:List V}{ab ds:List D}{v y:V}{d:D}{E:jJ}
def sh(fa:En->Option (List D×En))(fg:D->En->Option En)(fb:En->Option Fl)(Z:En):Option Fl:=(fa Z).bind λa=>(kH a.1).bind λds=>de fg fb ds a.2
instance (priority:=50) aa9{ta:TA}{g:TG}{tb:TS}{fa:En->Option (List D×En)}{fg:D->En->Option En}{is:List Nat}{fb:En->Option Fl}[A:r9 K n ta fa][G:SG K n g fg is][B':SS K n tb fb]:SS K n (vJ (B1 ta) g tb) (sh fa fg fb):=⟨λ{σ hv H U Z af ab fl E} I h k=>by
 obtain⟨⟨as,cF⟩,h1,h⟩:=aj.mp h;obtain⟨ds,h2,h⟩:=aj.mp h;refine A.s I h1 λvs H1 U1 hl I1 cT=> ?_;obtain⟨j,e,c1,c2,e2⟩:=JN (I1.JI hl) h2;have Df:=I1.drop hl;have wk:=JO (K:=K) 0 j.toNat;subst e;refine⟨j,rfl,c1,c2, ?_⟩;rw[<- e2]at wk;refine⟨λi m aM H'=>m=ds.length - i/\i<=ds.length/\∃U' ρ',aB K n H' U' aM hv ρ' af ab/\bF U H U' H'/\de fg fb (ds.drop i) ρ'=some fl,⟨ds.length,by simp,kz _,U1,cF,Df,cT,h⟩, ?_⟩;rintro i m aM H' ⟨rfl,hi,U',ρ',Ix,st,fo⟩;by_cases fm:i < ds.length
 ·right;have hd:ds[i]?=some ds[i]:=gP fm;obtain⟨go,yl⟩:=wk.item (H:=H') (U:=U') trivial hd;rw[BA fm,de]at fo;obtain⟨ρ1,b1,fo⟩:=aj.mp fo;obtain⟨pI,b2,fo⟩:=aj.mp fo;refine⟨go,λfG H2=>∃U2 ρ2,aB K n H2 U2 fG hv ρ2 af ab/\bF U' H' U2 H2/\de fg fb (ds.drop (i + 1)) ρ2=some fl,λfG H2 ⟨U2,ρ2,a1,a2,a3⟩=>⟨_,by lia,rfl,fm,U2,ρ2,a1,st.trans a2,a3⟩,λx H2 y2=> ?_⟩;obtain⟨e,w2⟩:=yl x H2 y2;subst e;refine G.s Ix w2 b1 λfG I2=> ?_;refine B'.s I2 b2 ?_;cases pI with
  |nx ρ2=>exact λdq H3 U3 I3 s3=>⟨U3,ρ2,I3,s3,fo⟩
  |ct ρ2=>exact λdq H3 U3 I3 s3=>⟨U3,ρ2,I3,s3,fo⟩
  |bk ρ2=>cases fo;exact λdq H3 U3 I3 s3=>k dq H3 U3 I3 (st.trans s3)
  |rt d ρ2=>cases fo;exact λv dq H3 U3 I3 s3=>k v dq H3 U3 I3 (st.trans s3)
 ·left;have e:i=ds.length:=by lia
  subst e;rw[Gh,de]at fo;cases fo;exact⟨wk.stop (H:=H') (U:=U') trivial,k aM H' U' Ix st⟩⟩
end
section
variable {K:ak}{n:Nat}
def gT(g:D->D->Option Nat)(gs:V->D->Option V)(a b:D):Option D:=(ar g gs a b).bind λd=>if plain d=true then some d else none
theorem JW[O:qv K r g gs]:lr K r (gT g gs):=⟨λ{H x y dx dy d Q} w1 w2 h k=>by
 obtain⟨d',h1,h2⟩:=aj.mp h;by_cases c:plain d'=true
 ·rw[if_pos c]at h2;cases h2;cases dx with
  |sc z=>
   obtain⟨w,h3,h4⟩:=aX.mp h1;subst h4;rw[w1.cq];exact O.t w2 h3 (k w H (aQ.refl H) (.sc w))
  |hl _=>
   obtain⟨i,hi,h⟩:=aj.mp h1;cases h
  |nd kk cs=>
   obtain⟨i,hi,h⟩:=aj.mp h1;have h:cs[i]?=some d:=h;obtain⟨a,vs,rfl,_,hc,hl,bQ⟩:=w1.node;obtain⟨u,hu⟩:=lU hl h;exact O.s hc hl w2 hi hu (k u H (aQ.refl H) (dF.plain (bQ i u d hu h) c))
 ·rw[if_neg c]at h2;cases h2⟩
instance (priority:=30) Tr{r:R2}{ta tb:TE}{fa fb:En->Option (D×En)}{g:D->D->Option Nat}{gs:V->D->Option V}[A:SM K n ta fa][B':SM K n tb fb][O:qv K r g gs]:SM K n (jL r ta tb) (i9 (gT g gs) fa fb):=
 have:lr K r (gT g gs):=JW
 RO
def pK(a b:D):Option D:=match a,b with
 |.nd .tup xs, .nd .tup ys=>if xs≠ []/\xs.length + ys.length<=aN then some (.nd .tup (xs++ys)) else none
 |a,b=>jx a b
theorem Ts(w1:Vw K H T1 x a)(w2:Vw K H T1 y b)(h:pK a b=some d)(k:∀v H',aQ H H'->Vw K H' T1 v d->Q v H'):wR K x y H Q:=by
 unfold pK at h
 split at h
 ·next xs ys=>
  by_cases c:xs≠ []/\xs.length + ys.length<=aN
  ·rw[if_pos c]at h;cases h;obtain⟨a,vs,rfl,hc,vl⟩:=w1.ie;obtain⟨b,us,rfl,ki,ul⟩:=w2.ie;have nv:vs≠ []:=λz=>by
    subst z;have:=vl.1;exact c.1 (tM this.symm)
   refine .inr (.inr (.inr ⟨a,b,vs,us,rfl,rfl,cD.of hc.2,cD.of ki.2,nv,by rw[vl.1,ul.1];exact c.2,λz=> ?_,λ_ p hp=> ?_⟩))
   ·subst z;have e:ys= []:=tM ul.1.symm;subst e;rw[fO]at k;exact k _ H (aQ.refl H) w1
   ·exact k _ _ (g9 hp _) ((vl.app ul).node hp (.inl ⟨rfl,rfl⟩))
  ·rw[if_neg c]at h;cases h
 ·exact S0.s w1 w2 h λv H3 s3 o=>k v H3 s3 o.vw
instance (priority:=950) aba{ta tb:TE}{fa fb:En->Option D}[A:SV K n ta fa][B':SV K n tb fb]:SV K n (jL (wR K) ta tb) (ag pK fa fb):=⟨λ{σ hv H U Z af ab d Q} I h k=>by
 obtain⟨a,ha,h⟩:=aj.mp h;obtain⟨b,hb,h⟩:=aj.mp h;refine A.s I ha λx H1 s1 w1=> ?_;refine B'.s (I.same s1) hb λy H2 s2 w2=> ?_;exact Ts (w1.same s2) w2 h λv H3 s3 w=>k v H3 (s1.trans (s2.trans s3)) w⟩
def DL(a:D)(lo hi:Option Int):Option D:=match a with
 |.nd .tup cs=>some (.nd .tup (cutD cs lo hi))
 |a=>jy a lo hi
theorem Tt{H:Hp}{v:V}{a d:D}{lo hi:Option Int}{Q:VK}(w:Vw K H T1 v a)(h:DL a lo hi=some d)(k:∀v H',aQ H H'->Vw K H' T1 v d->Q v H'):kJ K v lo hi H Q:=by
 unfold DL at h
 split at h
 ·next cs=>
  cases h;obtain⟨a,vs,rfl,hc,vl⟩:=w.ie;by_cases cw:HT.bz vs.length 0 lo=0/\HT.bz vs.length vs.length hi=vs.length
  ·refine .inr (.inl ⟨a,vs,rfl,cD.of hc.2,cw, ?_⟩);have e:cutD cs lo hi=cs:=by
    unfold cutD;rw[<- vl.1,cw.1,cw.2,Gi,Nat.sub_zero,vl.1,NR]
   rw[e]at k;exact k _ H (aQ.refl H) w
  ·refine .inl ⟨a,vs,rfl,cD.of hc.2,cw,λp hp=> ?_⟩;have g:=zE vl.1 vl.2 lo hi;exact k _ _ (g9 hp _) (cS.node (k:= .tup) ⟨g.1,g.2⟩ hp (.inl ⟨rfl,rfl⟩))
 ·exact JS w h λv H4 s4 o=>k v H4 s4 o.vw
def uC(fe:En->Option D)(fl fh:En->Option (Option Int))(Z:En):Option D:=(fe Z).bind λd=>(fl Z).bind λlo=>(fh Z).bind λhi=>DL d lo hi
instance (priority:=950) abb{te:TE}{tl th:TO}{fe:En->Option D}{fl fh:En->Option (Option Int)}[A:SV K n te fe][L:SO K n tl fl][R:SO K n th fh]:SV K n (vR (kJ K) te tl th) (uC fe fl fh):=⟨λ{σ hv H U Z af ab d Q} I h k=>by
 obtain⟨x,h1,h⟩:=aj.mp h;obtain⟨lo,h2,h⟩:=aj.mp h;obtain⟨hi,h3,h⟩:=aj.mp h;refine A.s I h1 λv H1 s1 w1=>L.s (I.same s1) h2 λH2 s2=>R.s ((I.same s1).same s2) h3 λH3 s3=> ?_;exact Tt (w1.same (s2.trans s3)) h λv H4 s4 w=>k v H4 (s1.trans (s2.trans (s3.trans s4))) w⟩
instance (priority:=2000) abc{r:R2}{ta:TA}{tb:TE}{fa:En->Option (List D)}{fb:En->Option (D×En)}{g:D->D->Option Nat}{gs:V->D->Option V}[A:uv K n ta fa][B':SM K n tb fb][O:qv K r g gs]:SM K n (jL r (rJ ta) tb) (i9 (gT g gs) (λZ=>(bu .lst fa Z).map λd=>(d,Z)) fb):=
 have:SM K n (rJ ta) (λZ=>(bu .lst fa Z).map λd=>(d,Z)):=@RM K n _ _ Sz
 Tr
variable {C:Addr}{E:XK}
end
section
variable {K:ak}{n:Nat}{H H':Hp}{U U':Addr->Prop}{σ hv:List (Option V)}{Z ρ':En}{af vs:List V}{ab ds:List D}{d:D}
end
section
variable {K:ak}{n:Nat}{H H':Hp}{N:Addr->Prop}
noncomputable def qY:List D->Option (List Int)
 | []=>some []
 |.sc (.int b)::r=>(qY r).map (b:: ·)
 |_::_=>none
theorem JX:∀{cs:List D} {vs:List V} {bs:List Int},vs.length=cs.length->(∀(i:Nat) (v:V) (d:D),vs[i]?=some v->cs[i]?=some d->Vw K H N v d)->qY cs=some bs->vs=bs.map V.int
 | [], [],_,_,_,h=>by rw[qY]at h;cases h;rfl
 | [],_::_,_,h,_,_=>by cases h
 |_::_, [],_,h,_,_=>by cases h
 |d::cs,v::vs,ts,hl,hk,h=>by
  unfold qY at h
  split at h
  ·next e=>cases e
  ·next t r e=>
   cases e;obtain⟨x,h2,h⟩:=aX.mp h;subst h;rw[eO,(hk 0 v _ rfl rfl).cq,JX (eP hl) (λi v d a b=>hk (i + 1) v d (by simpa using a) (by simpa using b)) h2]
  ·cases h
end
section
variable {K:ak}{H H':Hp}
end
end VL
set_option maxHeartbeats 4000000
namespace VL
open PySem L2
noncomputable abbrev iD (i:Int):D:= .sc (.int i)
noncomputable abbrev tD (b:Bool):D:= .sc (.bl b)
noncomputable abbrev sD (s:Str):D:= .sc (.str s)
noncomputable def iQ (cs:List Int):D:= .nd .aA (cs.map λi=> .sc (.int i))
theorem Tu(c d:Str)(hc:dU c=true)(hd:dU d=true):aF id (.sc (.str c)) (.sc (.str d))=some (.sc (.bl (decide (c=d)))):=by
 simp[hc,hd,aF,bH,vx,vy,dX];by_cases h:c=d <;> simp[h]
theorem DM(c d:Str)(hc:dU c=true)(hd:dU d=true):aF (!·) (.sc (.str c)) (.sc (.str d))=some (.sc (.bl (decide (c≠d)))):=by
 simp[hc,hd,aF,bH,vx,vy,dX];by_cases h:c=d <;> simp[h]
theorem zG:(1<=aN)=True:=eq_true (by decide)
theorem iC:(2<=aN)=True:=eq_true (by decide)
theorem zH:(3<=aN)=True:=eq_true (by decide)
def NA(x:Option B):Prop:=∀r p,x≠some (.aT r p)
theorem el:eI i []= []:=rfl
theorem ig:eI i (some (.own d)::r)=some (.own d)::eI i r:=rfl
theorem eC:eI i (some (.ro d)::r)=some (.ro d)::eI i r:=rfl
theorem iy:eI i (none::r)=none::eI i r:=rfl
theorem si:eI i (some (.aT j p)::r)=(if j=i then none else some (.aT j p))::eI i r:=rfl
theorem bg(h:NA x):eI i (x::r)=x::eI i r:=by
 match x,h with
 |none,_=>rfl
 |some (.own _),_=>rfl
 |some (.ro _),_=>rfl
 |some (.aT r p),h=>exact absurd rfl (h r p)
theorem Tv(h:NA x):jv Z x=x:=by
 match x,h with
 |none,_=>rfl
 |some (.own _),_=>rfl
 |some (.ro _),_=>rfl
 |some (.aT r p),h=>exact absurd rfl (h r p)
def Ev(f:En->Option Fl)(Z:En)(Q:Fl->Prop):Prop:=∃fl,f Z=some fl/\Q fl
theorem Ev.seq(h:Ev t Z λfl=>match fl with | .nx ρ'=>Ev u ρ' Q | fl=>Q fl):Ev (bO t u) Z Q:=by
 obtain⟨fl,e,h⟩:=h;unfold Ev bO;rw[e];cases fl with
 |nx ρ'=>exact h
 |_=>exact⟨_,rfl,h⟩
theorem Ev.nx(e:t Z=some (.nx ρ'))(h:Ev u ρ' Q):Ev (bO t u) Z Q:=Ev.seq ⟨_,e,h⟩
theorem Tw{ds:List D}{R:D->Prop}(h:Ev f (ds.map (λd=>some (.ro d))++bK (n - ds.length) none) λfl=>match fl with | .rt d _=>R d | .nx _=>R (.sc .az) | _=>False):∃d,b7 n f ds=some d/\R d:=by
 obtain⟨fl,e,h⟩:=h;unfold b7;rw[e];cases fl with
 |nx ρ'=>exact⟨_,rfl,h⟩
 |rt d ρ'=>exact⟨_,rfl,h⟩
 |bk _=>exact h.elim
 |ct _=>exact h.elim
theorem DN{fg:D->En->Option En}{Q:Fl->Prop}(P:En->Prop):∀(ds:List D) (Z:En),P Z->(∀d∈ds,∀Z,P Z->∃ρ1,fg d Z=some ρ1/\Ev fb ρ1 λfl=>match fl with | .nx ρ2=>P ρ2 | .ct ρ2=>P ρ2 | .bk ρ2=>Q (.nx ρ2) | .rt d ρ2=>Q (.rt d ρ2))->
  (∀Z,P Z->Q (.nx Z))->∃fl,de fg fb ds Z=some fl/\Q fl
 | [],Z,p,_,hd=>⟨_,rfl,hd Z p⟩
 |d::ds,Z,p,st,hd=>by
  obtain⟨ρ1,e1,fl,e2,h⟩:=st d (.head _) Z p;rw[de,e1];show ∃fl,(fb ρ1).bind _=some fl/\Q fl;rw[e2];cases fl with
  |nx ρ2=>exact DN P ds ρ2 h (λd oQ=>st d (.tail _ oQ)) hd
  |ct ρ2=>exact DN P ds ρ2 h (λd oQ=>st d (.tail _ oQ)) hd
  |bk ρ2=>exact⟨_,rfl,h⟩
  |rt d ρ2=>exact⟨_,rfl,h⟩
theorem Ev.for{fi:En->Option (List D)}{fg:D->En->Option En}{fb:En->Option Fl}{Q:Fl->Prop}(hi:fi Z=some ds)(P:En->Prop)(h0:P Z)
  (st:∀d∈ds,∀Z,P Z->∃ρ1,fg d Z=some ρ1/\Ev fb ρ1 λfl=>match fl with | .nx ρ2=>P ρ2 | .ct ρ2=>P ρ2 | .bk ρ2=>Q (.nx ρ2) | .rt d ρ2=>Q (.rt d ρ2)) (hd:∀Z,P Z->Q (.nx Z)):
  Ev (λZ=>(fi Z).bind λds=>de fg fb ds Z) Z Q:=by
 show ∃fl,(fi Z).bind _=some fl/\Q fl;rw[hi];exact DN P ds Z h0 st hd
theorem JY{α:Type}(g:α->D)(p:α->Bool)(h:α->D):∀(l:List α),(∀a∈l,∃ρ1,fg (g a) cF=some ρ1/\ft ρ1=some (p a)/\(p a=true->fe ρ1=some (h a)))->
  mR fg ft fe cF (l.map g)=some ((l.filter p).map h)
 | [],_=>rfl
 |a::l,H=>by
  obtain⟨ρ1,e1,e2,e3⟩:=H a (.head _);have ih:=JY g p h l λx hx=>H x (.tail _ hx);rw[eO,mR,e1];show(ft ρ1).bind _=_;rw[e2];show(if p a=true then _ else _)=_;cases q:p a with
  |true=>rw[if_pos rfl,e3 q];show(mR fg ft fe cF (l.map g)).map _=_;rw[ih,NS q];rfl
  |false=>rw[if_neg bh,ih,NT (by rw[q];exact bh)]
theorem jY(h:f (ds.map (λd=>some (.ro d))++bK (n - ds.length) none)=some (.rt d ρ')):b7 n f ds=some d:=by
 unfold b7;rw[h]
theorem jz(h:f (nV n bc ds)=some (.rt d ρ'))(ho:jM (ρ'.drop n)=some o):gF n bc f ds=some (d,o):=by
 unfold gF;rw[h];show(jM (ρ'.drop n)).map _=_;rw[ho];rfl
theorem ij(h:f Z=some (d,ρ')):cu f Z=some (.rt d ρ'):=by
 unfold cu;rw[h];rfl
theorem aK(e:t Z=some (.nx ρ'))(h:u ρ'=r):bO t u Z=r:=by
 unfold bO;rw[e];exact h
theorem fM{x:Option D}{Z:En}{d:D}(h:x=some d):x.map (λd=>(d,Z))=some (d,Z):=by rw[h];rfl
theorem Tx{n:Nat}{fg:D->En->Option En}{ft:En->Option Bool}{fe:En->Option D}(h1:fi Z=some ds)(hz:ds.length<=aN)(mM:is.all (λi=>js[i]? == some none)=true)
  (h2:mR fg ft fe (jc n js Z) ds=some ys):wY n js is fi fg ft fe Z=some (.nd .lst ys):=by
 unfold wY;rw[h1];show(if _ then _ else _)=_;rw[if_pos ⟨hz,mM⟩,h2];rfl
theorem uD{α:Type}{n:Nat}{fg:D->En->Option En}{ft:En->Option Bool}{fe:En->Option D}(l:List α)(g:α->D)(p:α->Bool)(h:α->D)(h1:fi Z=some (l.map g))(hz:l.length<=aN)(mM:is.all (λi=>js[i]? == some none)=true)
  (h2:∀a∈l,∃ρ1,fg (g a) (jc n js Z)=some ρ1/\ft ρ1=some (p a)/\(p a=true->fe ρ1=some (h a))):wY n js is fi fg ft fe Z=some (.nd .lst ((l.filter p).map h)):=
 Tx h1 (by rw[eG];exact hz) mM (JY g p h l h2)
theorem Tz(h:d∈nY lo m):∃i:Nat,i < m/\d=iD (lo + i):=by
 unfold nY at h;obtain⟨i,hi,e⟩:=jK.mp h;exact⟨i,Bn.mp hi,e.symm⟩
theorem TB:jv Z (some (.own d))=some (.own d):=rfl
theorem TC:jv Z (some (.ro d))=some (.ro d):=rfl
theorem TF:jv Z none=none:=rfl
theorem aO:NA none:=λ_ _ h=>by cases h
theorem bX:NA (some (.ro d)):=λ_ _ h=>by cases h
theorem ba:NA (some (.own d)):=λ_ _ h=>by cases h
def Gd(n:Nat)(d:D):Prop:=∃p,bH d=some p/\p.canLay0=true/\p.depth<=n/\dX p p=true
def kK(n:Nat)(ds:List D):Prop:=∃ps,hJ ds=some ps/\NU ps=true/\NV ps<=n/\vz ps ps=true
theorem Gd.int(i:Int):Gd 0 (.sc (.int i)):=⟨.int i,by simp[bH],by simp[vx],by simp[vy],by simp[dX]⟩
theorem Gd.str(x:Str)(h:dU x=true):Gd 0 (.sc (.str x)):=⟨.str x,by simp[bH],by simp[vx,h],by simp[vy],by simp[dX]⟩
theorem Gd.mono(h:Gd m d)(l:m<=n):Gd n d:=by
 obtain⟨p,a,b,c,e⟩:=h;exact⟨p,a,b,dC c l,e⟩
theorem kK.nil:kK n []:=⟨[],by simp[hJ],by simp[NU],by simp[NV],by simp[vz]⟩
theorem kK.cons(h:Gd n d)(t:kK n ds):kK n (d::ds):=by
 obtain⟨p,a,b,c,e⟩:=h;obtain⟨ps,a',b',c',e'⟩:=t;exact⟨p::ps,by simp[hJ,a,a'],by simp[NU,b,b'],by simp[NV];lia,by simp[vz,e,e']⟩
theorem kK.all:∀{ds:List D},(∀d∈ds,Gd n d)->kK n ds
 | [],_=> .nil
 |d::ds,h=> .cons (h d (.head _)) (kK.all λx hx=>h x (.tail _ hx))
theorem kK.tup(h:kK n ds):Gd (n + 1) (.nd .tup ds):=by
 obtain⟨ps,a,b,c,e⟩:=h;exact⟨.tuple ps,by simp[bH,a],by simp[vx,b],by simp[vy];lia,by simp[dX,e]⟩
theorem kK.lst(h:kK n ds):Gd (n + 1) (.nd .lst ds):=by
 obtain⟨ps,a,b,c,e⟩:=h;exact⟨.list ps,by simp[bH,a],by simp[vx,b],by simp[vy];lia,by simp[dX,e]⟩
open PySem.Spec PyProof.Rows
section
variable {K:ak}{n:Nat}{H H' H1 H2:Hp}{U U':Addr->Prop}{σ hv:List (Option V)}{Z ρ':En}{af vs:List V}{ab ds:List D}{v y:V}{d:D}{E:jJ}
theorem mJ{α:Type}(A B:List α)(x:α)(j:Nat):(A++ [x]++B)[j]?=if j < A.length then(A++B)[j]? else if j=A.length then some x else(A++B)[j - 1]?:=by
 by_cases h1:j < A.length
 ·rw[if_pos h1,cZ,aV h1,aV h1]
 ·rw[if_neg h1,cZ,bL (by lia)];by_cases h2:j=A.length
  ·rw[if_pos h2,h2];simp
  ·rw[if_neg h2,List.singleton_append,bL (by lia)];obtain⟨k,hk⟩:∃k,j - A.length=k + 1:=⟨j - A.length - 1,by lia⟩
   rw[hk,List.getElem?_cons_succ,show j - 1 - A.length=k by lia]
def qG(r m:Nat)(Z:En):En:=match Z[r]? with
 |some (some (.aT q []))=>if q=m then((eI m Z).take m).set r ((aP Z m).map .own) else(eI m Z).take m
 |_=>(eI m Z).take m
def oa(M c:Nat)(Fs:Nat->Addr->Prop)(j:Nat)(b:Addr):Prop:=if j < M then(if j=c then Fs M b else Fs j b) else Fs (j + 1) b
theorem TH(h:j < M)(h2:j≠c):oa M c Fs j=Fs j:=by
 funext b;unfold oa;rw[if_pos h,if_neg h2]
theorem TJ(h:c < M):oa M c Fs c=Fs M:=by
 funext b;unfold oa;rw[if_pos h,if_pos rfl]
theorem TK(h:¬ j < M):oa M c Fs j=Fs (j + 1):=by
 funext b;unfold oa;rw[if_neg h]
theorem aB.JZ{M c:Nat}(I:aB K n H U σ (hv++ [some v]) Z af ab)(TL:Z.length=M + 1)(DO:X.length=M)
  (hX:∀(j:Nat) (γ:B),X[j]?=some (some γ)->(j≠c/\Z[j]?=some (some γ)/\∀q p,γ= .aT q p->q≠M)\/(j=c/\∃d,γ= .own d/\aP Z M=some d/\Z[j]?=some (some (.aT M [])))):
  aB K n H U σ hv X af ab:=by
 have l:=I.len;have nn:=I.nn;obtain⟨hl,mu,Fs,dj,sub,sl⟩:=I.ok;rw[b6,tI]at l;have hM:(σ++hv).length=M:=by rw[b6];lia
 have eA:σ++(hv++ [some v])++af.map some=(σ++hv)++ [some v]++af.map some:=by simp
 rw[eA]at hl sl;refine⟨?_,by rw[DO, <- hM,b6],nn⟩;rw[DO];have old:∀(q:Nat),q < M->((σ++hv)++ [some v]++af.map some)[q]?=((σ++hv)++af.map some)[q]?:=λq hq=>by
  rw[mJ,if_pos (by lia)]
 have Aa:((σ++hv)++ [some v]++af.map some)[M]?=some (some v):=by
  rw[mJ,if_neg (by lia),if_pos hM.symm]
 have big:∀(q:Nat),¬ q < M->((σ++hv)++ [some v]++af.map some)[q + 1]?=((σ++hv)++af.map some)[q]?:=λq hq=>by
  rw[mJ,if_neg (by lia),if_neg (by lia),NP]
 refine⟨by simp only[b6,tI]at hl hM |-;lia,mu,oa M c Fs,λi j b hi hj=> ?_,λi b hb=> ?_,λj γ gf=> ?_⟩
 ·have hi:if i < M then(if i=c then Fs M b else Fs i b) else Fs (i + 1) b:=hi;have hj:if j < M then(if j=c then Fs M b else Fs j b) else Fs (j + 1) b:=hj
  split at hi <;> split at hj
  ·split at hi <;> split at hj
   ·lia
   ·have:=dj _ _ b hi hj;lia
   ·have:=dj _ _ b hi hj;lia
   ·exact dj _ _ b hi hj
  ·split at hi
   ·have:=dj _ _ b hi hj;lia
   ·have:=dj _ _ b hi hj;lia
  ·split at hj
   ·have:=dj _ _ b hi hj;lia
   ·have:=dj _ _ b hi hj;lia
  ·have:=dj _ _ b hi hj;lia
 ·have hb:if i < M then(if i=c then Fs M b else Fs i b) else Fs (i + 1) b:=hb
  split at hb
  ·split at hb <;> exact sub _ b hb
  ·exact sub _ b hb
 ·by_cases c1:j < M
  ·rw[aV (by lia)]at gf;rcases hX j γ gf with⟨n1,q1,q2⟩ | ⟨rfl,dd,rfl,hd,q1⟩
   ·obtain⟨v2,d7,d8⟩:=sl j γ (by rw[aV (by lia)];exact q1);rw[old _ c1]at d7;refine⟨v2,d7, ?_⟩;cases γ with
    |own dd=>
     show bb K H (oa M c Fs j) v2 dd;rw[TH c1 n1];exact d8
    |ro dd=>exact d8
    |aT q p=>
     obtain⟨a,vr,b,k⟩:=d8;have:=q2 q p rfl;have hq:q < M:=by lia
     rw[old _ hq]at b;exact⟨hq,vr,b,k⟩
   ·obtain⟨v2,d7,d8⟩:=sl j _ (by rw[aV (by lia)];exact q1);obtain⟨_,vr,b,k⟩:=d8;rw[old _ c1]at d7;rw[Aa]at b;cases b;cases k;obtain⟨v3,J1,TM⟩:=sl M (.own dd) (by rw[aV (by lia)];exact kE hd);rw[Aa]at J1;cases J1;refine⟨_,d7, ?_⟩;show bb K H (oa M j Fs j) _ dd;rw[TJ c1];exact TM
  ·rw[bL (by lia),DO]at gf;obtain⟨v2,d7,d8⟩:=sl (j + 1) γ (by rw[bL (by lia),TL,show j + 1 - (M + 1)=j - M by lia];exact gf);rw[big _ c1]at d7;refine⟨v2,d7, ?_⟩;rw[du]at gf;obtain⟨dd,_,e2⟩:=aX.mp gf;cases e2;show bb K H (oa M c Fs j) v2 dd;rw[TK c1];exact d8
theorem J3(h:((eI M Z).take M)[j]?=some (some γ)):j < M/\Z[j]?=some (some γ)/\∀q p,γ= .aT q p->q≠M:=by
 have hj:j < M:=by
  rcases NM j M with z | z
  ·exact z
  ·rw[List.getElem?_take_eq_none (by lia)]at h;cases h
 rw[Nu hj]at h;exact⟨hj,CV h⟩
theorem aB.cls(I:aB K n H U σ (hv++ [some v]) Z af ab)(hm:Z.length=m + 1)(hr:r < m):aB K n H U σ hv (qG r m Z) af ab:=by
 have e:((eI m Z).take m).length=m:=by rw[xZ,jU];lia
 have plain:aB K n H U σ hv ((eI m Z).take m) af ab:=I.JZ (c:=m) hm e λj γ h=>by
  obtain⟨a,b,c⟩:=J3 h;exact .inl ⟨by lia,b,c⟩
 unfold qG
 split
 ·next q hq=>
  split
  ·next c=>
   subst c;refine I.JZ (c:=r) hm (by rw[bI];exact e) λj γ h=> ?_;by_cases cj:r=j
   ·subst cj;rw[eN (by lia)]at h;have h:(aP Z q).map B.own=some γ:=jQ h;obtain⟨d,h1,h2⟩:=aX.mp h;exact .inr ⟨rfl,d,h2.symm,h1,hq⟩
   ·rw[fF cj]at h;obtain⟨_,b,c⟩:=J3 h;exact .inl ⟨λz=>cj z.symm,b,c⟩
  ·exact plain
 ·exact plain
def Ab(r m:Nat):Fl->Fl
 |.nx Z=> .nx (qG r m Z)
 |.rt d Z=> .rt d (qG r m Z)
 |.bk Z=> .bk (qG r m Z)
 |.ct Z=> .ct (qG r m Z)
theorem pk.close(hm:n + hv.length=m)(hr:r < n)(k:pk K n H U hv af ab E (Ab r m fl)):pk K n H U (hv++ [some v]) af ab E fl:=by
 have key:∀{aM H' U' ρ'} {DP:List V} {DQ:List D},aB K n H' U' aM (hv++ [some v]) ρ' DP DQ->aB K n H' U' aM hv (qG r m ρ') DP DQ:=λ{aM H' U' ρ'} {DP DQ} I=>I.cls (by
  have l:=I.len;have nn:=I.nn;rw[b6,tI]at l
  lia) (by lia)
 cases fl with
 |nx Z=>exact λaM H' U' I s=>k aM H' U' (key I) s
 |rt d Z=>exact λv aM H' U' I s=>k v aM H' U' (key I) s
 |bk Z=>exact λaM H' U' I s=>k aM H' U' (key I) s
 |ct Z=>exact λaM H' U' I s=>k aM H' U' (key I) s
end
section
variable {K:ak}{n:Nat}{H H' H1 H2:Hp}{U U':Addr->Prop}{σ hv:List (Option V)}{Z ρ':En}{af vs:List V}{ab ds:List D}{v y:V}{d:D}{N:Addr->Prop}
open Classical in
end
open PySem.W
section
variable {K:ak}{n:Nat}{H H' H1 H2:Hp}{U U':Addr->Prop}{σ hv:List (Option V)}{Z ρ':En}{af vs:List V}{ab ds:List D}{d:D}{E:jJ}
end
section
variable {K:ak}{n:Nat}{H H':Hp}
def uE(i:Nat)(g:D->D->Option D)(fb:En->Option (D×En))(Z:En):Option (D×En):=(ae i Z).bind λ_=>(fb Z).bind λa=>(ae i a.2).bind λxs=>(g xs a.1).map λd=>(d,a.2)
instance (priority:=4000) abd{r:R2}{i:Nat}{args:TA}{bc:List Bool}{G:List D->Option (D×List D)}{E:XK}{fb:En->Option (D×En)}{g:D->D->Option Nat}{gs:V->D->Option V}
  [L:jV i n] [B':SM K n (qg (gy K bc G) [] E args) fb] [O:qv K r g gs]:SM K n (jL r (iX i) (qg (gy K bc G) [] E args)) (uE i (gT g gs) fb):=⟨λ{σ hv H U Z ρ' af ab d Q} I h k=>by
 obtain⟨x0,h0,h⟩:=aj.mp h;obtain⟨⟨j,ρ1⟩,h1,h⟩:=aj.mp h;obtain⟨xs,h2,h⟩:=aj.mp h;obtain⟨d1,h3,h⟩:=aX.mp h;cases h;have k0:iX i σ H λv H'=>Vw K H' T1 v x0:=(inferInstance:SV K n (iX i) (ae i)).s I h0 λv H' _ w=>w;obtain⟨v,ev,_⟩:=k0;refine⟨v,ev,B'.s I h1 λy H2 U2 I2 d5=> ?_⟩;have k1:iX i σ H2 λv H'=>Vw K H' T1 v xs:=(inferInstance:SV K n (iX i) (ae i)).s I2 h2 λv H' _ w=>w;obtain⟨v',jT,w⟩:=k1;rw[ev]at jT;cases jT;refine(JW (K:=K) (r:=r) (g:=g) (gs:=gs)).s w I2.last h3 λz H3 s3 o=> ?_;obtain⟨U4,I4,gS⟩:=I2.uq.push s3 o;exact k z H3 U4 I4 (d5.trans gS)⟩
instance (priority:=4000) abe{i:Nat}[L:jV i n]:SS K n (rD (iX i)) (cu (fK i)):=@Sa K n _ _ R9
variable {H1 H2:Hp}{U U':Addr->Prop}{σ hv:List (Option V)}{Z ρ':En}{af vs:List V}{ab ds:List D}{v y:V}{d d1:D}{E:jJ}
end
section
variable {K:ak}{n:Nat}{C:Addr}{m:Str}{E:XK}
end
theorem abf:jv Z (some (.aT r p))=if p= []\/((aP Z r).bind (aJ · p)).isSome=true then some (.aT r p) else none:=rfl
theorem jZ(h:fc Z=some (c,ρ1))(hr:(if c=true then a ρ1 else b ρ1)=r):cP fc a b Z=r:=by
 unfold cP;rw[h];exact hr
theorem gg(h1:fa Z=some (a,ρ1))(h2:fb ρ1=some (b,ρ2))(h3:g a b=some d):i9 g fa fb Z=some (d,ρ2):=by
 unfold i9;rw[h1];show(fb ρ1).bind _=_;rw[h2];show(g a b).map _=_;rw[h3];rfl
theorem sj(h:f Z=some (.sc (.bl b),ρ1)):wH f Z=some (b,ρ1):=by
 unfold wH;rw[h];rfl
theorem Ac(h0:ae i Z=some x0)(h1:fb Z=some (e,ρ1))(h2:ae i ρ1=some xs)(h3:g xs e=some d):uE i g fb Z=some (d,ρ1):=by
 unfold uE;rw[h0];show(fb Z).bind _=_;rw[h1];show(ae i ρ1).bind _=_;rw[h2];show(g xs e).map _=_;rw[h3];rfl
section
theorem TN(h:uc X pos keys values i5)(mM:keys.all (·.isSome)=true)(hl:keys.length=values.length)(h0:keys.isEmpty=false)(vZ:Nat.ble keys.length 15=true):PE X (.Dict keys values pos) (yM i5):=
 QE h mM hl (λz=>by rw[z]at h0;cases h0) (Nat.le_of_ble_eq_true vZ)
end
theorem Ka:∀(ks:List bB) (vs:List V) (aG:List (bB×V)),ks.Nodup->(∀k∈ks,∀p∈aG,p.1≠k)->nM aG (ks.zip vs)=aG++ks.zip vs
 | [],vs,aG,_,_=>by simp[nM]
 |k::ks, [],aG,_,_=>by simp[nM]
 |k::ks,v::vs,aG,hn,hd=>by
  obtain⟨h1,h2⟩:=mB.mp hn;have e:iq aG k v=aG++ [(k,v)]:=by
   unfold iq;rw[if_neg];simp only[Gj,decide_eq_true_eq,not_exists,not_and];exact λp hp=>hd k (.head _) p hp
  rw[p7];show nM (iq aG k v) (ks.zip vs)=_;rw[e,Ka ks vs _ h2 λk' hk p hp=> ?_]
  ·simp
  ·rcases lJ.mp hp with h | h
   ·exact hd k' (.tail _ hk) p h
   ·rw[j8.mp h];exact λz=>h1 (by rw[show k=k' from z];exact hk)
section
variable {K:ak}{n:Nat}
class Ad(K:ak)(n:Nat)(i5:List (TE×TE))(f:outParam (En->Option (List D×List D))):Prop where
 s:∀{σ hv:List (Option V)} {H:Hp} {U:Addr->Prop} {Z:En} {af:List V} {ab:List D} {p:List D×List D} {Q:List (V×V)->Hp->Prop},aB K n H U σ hv Z af ab->f Z=some p->(∀xs vs H',aQ H H'->cS K H' T1 xs p.1->iE K H H' vs p.2->xs.length=vs.length->Q (xs.zip vs) H')->yK i5 σ H Q
instance abg:Ad K n [] (λ_=>some ([], [])):=⟨λI h k=>by cases h;exact k [] [] _ (aQ.refl _) ⟨rfl,λi v d h=>by simp at h⟩ .nil rfl⟩
noncomputable def sk (fk fv:En->Option D) (fr:En->Option (List D×List D)) (Z:En):Option (List D×List D):=(fk Z).bind λk=>(fv Z).bind λv=>(fr Z).map λr=>(k::r.1,v::r.2)
instance abh[A:SV K n tk fk][B':SQ K n tv fv][R:Ad K n r fr]:Ad K n ((tk,tv)::r) (sk fk fv fr):=⟨λ{σ hv H U Z af ab p Q} I h k=>by
 obtain⟨a,ha,h⟩:=aj.mp h;obtain⟨b,hb,h⟩:=aj.mp h;obtain⟨q,hq,h⟩:=aX.mp h;subst h;refine A.s I ha λx H1 s1 w1=>B'.o (I.same s1) hb λy H2 s2 o=>R.s ((I.same s1).same s2) hq λxs vs H3 s3 w3 o3 hl=> ?_;refine k (x::xs) (y::vs) H3 (s1.trans (s2.trans s3)) ⟨by rw[eU,eU,w3.1],λi v d hv hd=> ?_⟩ (iE.cons (o.early s1) s3 o3 (s1.trans s2)) (by rw[eU,eU,hl]);cases i with
 |zero=>cases hv;cases hd;exact w1.same (s2.trans s3)
 |succ i=>exact w3.2 i v d (by simpa using hv) (by simpa using hd)⟩
open Classical in
noncomputable def Ae (f:En->Option (List D×List D)) (Z:En):Option D:=(f Z).bind λp=>(qW p.1).bind λks=>if ks.Nodup/\ks.length=p.2.length/\ks.length<=15 then some (.nd (.cy ks) p.2) else none
instance (priority:=900) abi{i5:List (TE×TE)}{f:En->Option (List D×List D)}[A:Ad K n i5 f]:SF K n (yM i5) (Ae f):=⟨λ{σ hv H U Z af ab d Q} I h k=>by
 obtain⟨⟨kd,ds⟩,h1,h⟩:=aj.mp h;obtain⟨ks,h2,h⟩:=aj.mp h;by_cases c:ks.Nodup/\ks.length=ds.length/\ks.length<=15
 ·rw[if_pos c]at h;cases h;intro p hp;have s0:aQ H (upd H p (.dK [])):=g9 hp _;refine A.s (I.same s0) h1 λxs vs H2 s2 w o hl=> ?_;have e0:H2 p=some (.dK []):=s2 _ _ gb;have ex:xs=ks.map kV:=ux w.1 w.2 h2;obtain⟨ol,Fs,dj,fr,rp⟩:=o;refine⟨e0,ks.zip vs, ?_,by rw[ny];have:=c.2.2;lia, ?_⟩
  ·rw[ex,List.zip_map_left];rfl
  have em:nM [] (ks.zip vs)=ks.zip vs:=by
   rw[Ka ks vs [] c.1 λ_ _ p hp=>nomatch hp];rfl
  rw[em];have sA:aQ H (upd H2 p (.dK (ks.zip vs))):=λb u q=>by
   rw[bE (gQ q hp)];exact s2 _ _ (s0 _ _ q)
  refine k _ _ sA ?_;have np:∀i,¬ Fs i p:=λi z=>by have q:=(fr i p z).1;rw[gb]at q;cases q
  refine⟨λb=>(∃i,Fs i b)\/b=p, .nd (vs:=vs) Fs ⟨.inr rfl,rfl,by show ks.length=vs.length;rw[ol];exact c.2.1,0,gb⟩ ol dj (λi b hb=>⟨.inl ⟨i,hb⟩,λ_ z=>by rw[z]at hb;exact np i hb⟩) λi u e hu he=> ?_,λb hb=> ?_⟩
  ·refine(rp i u e hu he).frame (λb o hb q=> ?_) (CZ (by rw[e0];trivial));rw[bE λz=>by rw[z]at hb;exact np i hb];exact q
  ·rcases hb with⟨i,z⟩ | z
   ·refine⟨s0.free (fr i b z).1, ?_⟩;rw[bE λw=>by rw[w]at z;exact np i z];exact(fr i b z).2
   ·rw[z];exact⟨hp,by rw[gb];trivial⟩
 ·rw[if_neg c]at h;cases h⟩
variable {H H' H1 H2:Hp}{U U':Addr->Prop}{σ hv:List (Option V)}{Z ρ':En}{af vs:List V}{ab ds:List D}{v y:V}{d:D}
def so(M:Nat)(Fs:Nat->Addr->Prop)(j:Nat)(b:Addr):Prop:=if j < M then Fs j b else if j=M then False else Fs (j - 1) b
theorem TQ(h:j < M):so M Fs j=Fs j:=by
 funext b;unfold so;rw[if_pos h]
theorem TR(h:¬ j < M)(h2:¬ j=M):so M Fs j=Fs (j - 1):=by
 funext b;unfold so;rw[if_neg h,if_neg h2]
theorem aB.aT(I:aB K n H U σ hv Z af ab)(w:fw K H U (σ++hv) Z v (.rt r p)):aB K n H U σ (hv++ [some v]) (Z++ [some (.aT r p)]) af ab:=by
 have l:=I.len;have nn:=I.nn;obtain⟨iu,vr,d0,er,abj,_,hp⟩:=w;obtain⟨hl,mu,Fs,dj,sub,sl⟩:=I.ok;have hM:(σ++hv).length=Z.length:=by rw[b6];exact l
 have eA:σ++(hv++ [some v])++af.map some=(σ++hv)++ [some v]++af.map some:=by simp
 refine⟨?_,by rw[b6,b6,tI,tI];lia,nn⟩;rw[eA];have hL:(Z++ [some (B.aT r p)]).length=Z.length + 1:=by rw[b6,tI]
 rw[hL];have old:∀(q:Nat),q < Z.length->((σ++hv)++ [some v]++af.map some)[q]?=((σ++hv)++af.map some)[q]?:=λq hq=>by
  rw[mJ,if_pos (by lia)]
 have Aa:((σ++hv)++ [some v]++af.map some)[Z.length]?=some (some v):=by
  rw[mJ,if_neg (by lia),if_pos hM.symm]
 have zr:((σ++hv)++af.map some)[r]?=some (some vr):=by rw[aV (by lia)];exact er
 refine⟨by simp only[b6,tI]at hl |-;lia,mu,so Z.length Fs,λi j b hi hj=> ?_,λi b hb=> ?_,λj γ gf=> ?_⟩
 ·have hi:if i < Z.length then Fs i b else if i=Z.length then False else Fs (i - 1) b:=hi;have hj:if j < Z.length then Fs j b else if j=Z.length then False else Fs (j - 1) b:=hj
  split at hi
  ·split at hj
   ·exact dj _ _ b hi hj
   ·split at hj
    ·exact hj.elim
    ·have:=dj _ _ b hi hj;lia
  ·split at hi
   ·exact hi.elim
   ·split at hj
    ·have:=dj _ _ b hi hj;lia
    ·split at hj
     ·exact hj.elim
     ·have:=dj _ _ b hi hj;lia
 ·have hb:if i < Z.length then Fs i b else if i=Z.length then False else Fs (i - 1) b:=hb
  split at hb
  ·exact sub _ b hb
  ·split at hb
   ·exact hb.elim
   ·exact sub _ b hb
 ·rw[mJ]at gf;by_cases c1:j < Z.length
  ·rw[if_pos c1]at gf;obtain⟨v2,d7,d8⟩:=sl j γ gf;refine⟨v2,by rw[old _ c1];exact d7, ?_⟩;cases γ with
   |own dd=>
    have d8:bb K H (Fs j) v2 dd:=d8;show bb K H (so Z.length Fs j) v2 dd;rw[TQ c1];exact d8
   |ro dd=>exact d8
   |aT q p=>
    obtain⟨a,vr,b,c⟩:=d8;exact⟨by lia,vr,by rw[old _ a];exact b,c⟩
  ·rw[if_neg c1]at gf;by_cases c2:j=Z.length
   ·rw[if_pos c2]at gf;cases gf;subst c2;exact⟨v,Aa,by lia,vr,by rw[old _ iu];exact zr,hp⟩
   ·rw[if_neg c2]at gf;obtain⟨v2,d7,d8⟩:=sl (j - 1) γ gf;refine⟨v2,by rw[mJ,hM,if_neg c1,if_neg c2];exact d7, ?_⟩;cases γ with
    |own dd=>
     have d8:bb K H (Fs (j - 1)) v2 dd:=d8;show bb K H (so Z.length Fs j) v2 dd;rw[TR c1 c2];exact d8
    |ro dd=>exact d8
    |aT q p=>
     obtain⟨a,vr,b,c⟩:=d8;exact⟨by lia,vr,by rw[old _ a];exact b,c⟩
theorem aB.dv(I:aB K n H U σ hv Z af ab)(h:ae i Z=some d):∃v,(σ++hv)[i]?=some (some v)/\Vw K H T1 v d:=by
 obtain⟨o,h1,h2⟩:=aj.mp h;cases o with
 |none=>cases h2
 |some β=>
  obtain⟨v,F,ev,sub,sv⟩:=I.slot h1;refine⟨v,ev, ?_⟩;cases β with
  |own d'=>cases h2;exact bb.vw sv
  |ro d'=>cases h2;exact Vw.any sv
  |aT r p=>
   obtain⟨d0,hr,g⟩:=aj.mp h2;obtain⟨_,vr,er,hp⟩:=sv;obtain⟨v',F',jT,_,rp⟩:=I.wB hr;rw[er]at jT;cases jT;exact rp.sub g hp λ_ _=>trivial
end
inductive Ex:Nat->D->Prop
 |int (n:Nat) (i:Int):Ex n (.sc (.int i))
 |str (n:Nat) (s:Str):dU s=true->Ex n (.sc (.str s))
 |az (n:Nat):Ex n (.sc .az)
 |tup (n:Nat) (cs:List D):(∀d∈cs,Ex n d)->Ex (n + 1) (.nd .tup cs)
 |lst (n:Nat) (cs:List D):(∀d∈cs,Ex n d)->Ex (n + 1) (.nd .lst cs)
theorem Kb(h:∀d∈cs,Gd n d):kK n cs:=kK.all h
theorem Ex.gd(h:Ex n d):Gd n d:=by
 induction h with
 |int n i=>exact(Gd.int i).mono (kz _)
 |str n s hs=>exact(Gd.str s hs).mono (kz _)
 |az n=>exact⟨.none,by simp[bH],by simp[vx],by simp[vy],by simp[dX]⟩
 |tup n cs _ ih=>exact(Kb ih).tup
 |lst n cs _ ih=>exact(Kb ih).lst
theorem DR:∀{cs ds:List D} {xs ys:List PyData},(∀d∈cs,∀(b:D) (x y:PyData),b∈ds->bH d=some x->bH b=some y->dX x y=true->d=b)->hJ cs=some xs->hJ ds=some ys->vz xs ys=true->cs=ds
 | [], [],_,_,_,_,_,_=>rfl
 | [],d::ds,xs,ys,_,h1,h2,h=>by
  simp only[hJ,Zg]at h1;rw[hJ]at h2;subst h1;obtain⟨y,_,h2⟩:=aj.mp h2;obtain⟨Kc,_,rfl⟩:=aX.mp h2;simp[vz]at h
 |c::cs, [],xs,ys,_,h1,h2,h=>by
  simp only[hJ,Zg]at h2;rw[hJ]at h1;subst h2;obtain⟨y,_,h1⟩:=aj.mp h1;obtain⟨Kc,_,rfl⟩:=aX.mp h1;simp[vz]at h
 |c::cs,d::ds,xs,ys,hk,h1,h2,h=>by
  rw[hJ]at h1 h2;obtain⟨x,a1,h1⟩:=aj.mp h1;obtain⟨abk,a2,rfl⟩:=aX.mp h1;obtain⟨y,b1,h2⟩:=aj.mp h2;obtain⟨Kc,b2,rfl⟩:=aX.mp h2;rw[vz,rj]at h;rw[hk c (.head _) d x y (.head _) a1 b1 h.1,DR (λe he b x y hb=>hk e (.tail _ he) b x y (.tail _ hb)) a2 b2 h.2]
theorem Ex.eqv(ha:Ex n a):∀{m:Nat} {b:D} {x y:PyData},Ex m b->bH a=some x->bH b=some y->dX x y=true->a=b:=by
 induction ha with
 |int n i=>
  intro m b x y hb h1 h2 h;rw[bH]at h1;cases h1;cases hb with
  |int n j=>rw[bH]at h2;cases h2;simp[dX]at h;rw[h]
  |str n s hs=>rw[bH]at h2;cases h2;simp[dX]at h
  |az n=>rw[bH]at h2;cases h2;simp[dX]at h
  |tup n cs hc=>rw[bH]at h2;obtain⟨ys,_,rfl⟩:=aX.mp h2;simp[dX]at h
  |lst n cs hc=>rw[bH]at h2;obtain⟨ys,_,rfl⟩:=aX.mp h2;simp[dX]at h
 |str n s hs=>
  intro m b x y hb h1 h2 h;rw[bH]at h1;cases h1;cases hb with
  |int n j=>rw[bH]at h2;cases h2;simp[dX]at h
  |str n s hs=>rw[bH]at h2;cases h2;simp[dX]at h;rw[h]
  |az n=>rw[bH]at h2;cases h2;simp[dX]at h
  |tup n cs hc=>rw[bH]at h2;obtain⟨ys,_,rfl⟩:=aX.mp h2;simp[dX]at h
  |lst n cs hc=>rw[bH]at h2;obtain⟨ys,_,rfl⟩:=aX.mp h2;simp[dX]at h
 |az n=>
  intro m b x y hb h1 h2 h;rw[bH]at h1;cases h1;cases hb with
  |int n j=>rw[bH]at h2;cases h2;simp[dX]at h
  |str n s hs=>rw[bH]at h2;cases h2;simp[dX]at h
  |az n=>rfl
  |tup n cs hc=>rw[bH]at h2;obtain⟨ys,_,rfl⟩:=aX.mp h2;simp[dX]at h
  |lst n cs hc=>rw[bH]at h2;obtain⟨ys,_,rfl⟩:=aX.mp h2;simp[dX]at h
 |tup n cs _ ih=>
  intro m b x y hb h1 h2 h;rw[bH]at h1;obtain⟨xs,g1,rfl⟩:=aX.mp h1;cases hb with
  |int n j=>rw[bH]at h2;cases h2;simp[dX]at h
  |str n s hs=>rw[bH]at h2;cases h2;simp[dX]at h
  |az n=>rw[bH]at h2;cases h2;simp[dX]at h
  |tup n ds hc=>
   rw[bH]at h2;obtain⟨ys,g2,rfl⟩:=aX.mp h2;rw[dX]at h;rw[DR (λd hd b x y hb=>ih d hd (hc b hb)) g1 g2 h]
  |lst n ds hc=>rw[bH]at h2;obtain⟨ys,_,rfl⟩:=aX.mp h2;simp[dX]at h
 |lst n cs _ ih=>
  intro m b x y hb h1 h2 h;rw[bH]at h1;obtain⟨xs,g1,rfl⟩:=aX.mp h1;cases hb with
  |int n j=>rw[bH]at h2;cases h2;simp[dX]at h
  |str n s hs=>rw[bH]at h2;cases h2;simp[dX]at h
  |az n=>rw[bH]at h2;cases h2;simp[dX]at h
  |lst n ds hc=>
   rw[bH]at h2;obtain⟨ys,g2,rfl⟩:=aX.mp h2;rw[dX]at h;rw[DR (λd hd b x y hb=>ih d hd (hc b hb)) g1 g2 h]
  |tup n ds hc=>rw[bH]at h2;obtain⟨ys,_,rfl⟩:=aX.mp h2;simp[dX]at h
theorem Ex.eq(ha:Ex n a)(hb:Ex m b)(hn:n<=60)(hm:m<=60)(g:Bool->Bool):∃c:Bool,(c=true↔a=b)/\aF g a b=some (.sc (.bl (g c))):=by
 obtain⟨x,x1,x2,x3,x4⟩:=ha.gd;obtain⟨y,y1,y2,y3,y4⟩:=hb.gd;refine⟨dX x y,⟨ha.eqv hb x1 y1,λe=> ?_⟩, ?_⟩
 ·subst e;rw[x1]at y1;cases y1;exact x4
 ·unfold aF;rw[x1,y1];show(if _ then _ else _)=_;rw[if_pos ⟨x2,y2,by lia⟩]
section
variable {σ:L2.St}{H:Hp}{a:Addr}
theorem Inv.freeze(I:L2.Inv X aa σ H s)(e:H a=some (.lst xs)):∃o,L2.Inv X aa σ (upd H a (.gC o (.lst xs))) s:=by
 have aU:=I.aU a _ e;obtain⟨z,ax,n,r,ho⟩:=(show fP X.prog X.w H s.heap a (.lst xs) from aU)
 refine⟨{ cls:= .type "list",data:= .seq ax.toArray n }, ?_⟩;have ne:∀{b:Addr} {u:HO},H b=some u->(∀ys,u≠ .lst ys)->b≠a:=λ{b u} hb hu z=>by
  subst z;rw[e]at hb;cases hb;exact hu _ rfl
 have step:=I.step (h':=s.heap) (H':=upd H a (.gC { cls:= .type "list",data:= .seq ax.toArray n } (.lst xs))) (g':=s.gens) (t':=s.toks) (d':=s.drawn) (ch:= []) (λ_ z=>nomatch z)
  (λb o _ _ _ h _=>h) (λb o _ _ _ h _=>⟨o.slots,h⟩) (λb o _ _ hn=>by rw[bE λz=>by rw[z,e]at hn;cases hn];exact hn) (λb o _ h=>⟨o,h⟩)
  (λb ys h=>by rw[bE (ne h λ_ z=>nomatch z)];exact h) (λb o u h=>by rw[bE (ne h λ_ z=>nomatch z)];exact h) (λb ps h=>⟨#[],by rw[bE (ne h λ_ z=>nomatch z),Array.append_empty];exact h⟩) (λm h=>h)
  (λb u hb=>by
   by_cases c:b=a
   ·subst c;rw[gb]at hb;cases hb;exact⟨ho,z,ax,n,r,ho⟩
   ·rw[bE c]at hb;exact(I.aU b u hb).e9 (λ_ _ _ h=>h) (λd h=>by rw[bE (ne h λ_ z=>nomatch z)];exact h) λd ys h=>by rw[bE (ne h λ_ z=>nomatch z)];exact h) I.bare
 exact step
def Ke(t:TE):TE:=λσ H Q=>t σ H λv H'=>(∃a xs,v= .ref a/\H' a=some (.lst xs)/\∀o,Q v (upd H' a (.gC o (.lst xs))))\/Q v H'
theorem Kf(he:PE X e t):PE X e (Ke t):=by
 intro aa s σ H Q I h;refine bC (he aa s σ H _ I h) λu s' ⟨v,H',I',r,q⟩=> ?_;rcases q with⟨a,xs,rfl,e,q⟩ | q
 ·obtain⟨o,I2⟩:=VL.Inv.freeze I' e;exact⟨_,_,I2,r,q o⟩
 ·exact⟨_,_,I',r,q⟩
end
section
variable {K:ak}{H H':Hp}{U:Addr->Prop}{m:Nat}{e:List (Option V)}{Z:En}
theorem fV.gC{a:Addr}{xs:List V}(ha:H a=some (.lst xs))(h:fV H v p u):fV (upd H a (.gC o (.lst xs))) v p u:=by
 induction h with
 |nil v=>exact .nil v
 | @cons b ob n c u p e1 e2 _ ih=>
  by_cases z:b=a
  ·subst z;rw[ha]at e1;cases e1;exact .cons gb e2 ih
  ·exact .cons (by rw[bE z];exact e1) e2 ih
theorem cz.freeze(h:cz K H U m e Z)(hj:Z[j]?=some (some (.own (.nd .lst cs))))(p:bq cs=true):
  ∃a vs,e[j]?=some (some (.ref a))/\H a=some (.lst vs)/\U a/\∀o,cz K (upd H a (.gC o (.lst vs))) (λb=>U b/\b≠a) m e (Z.set j (some (.own (.nd .aA cs)))):=by
 obtain⟨hl,mu,Fs,dj,sub,sl⟩:=h;obtain⟨v,ev,sv⟩:=sl j _ hj;have DS:j < Z.length:=(cb.mp hj).1;have sv:bb K H (Fs j) v (.nd .lst cs):=sv;have vw:=sv.vw;cases sv with
 | @nd _ a _ vs _ abl hold dM abm abn bQ=>
  obtain⟨Fa,_,_,dx,ha⟩:=hold;have ha:H a=some (.lst vs):=ha;refine⟨a,vs,ev,ha,sub j a Fa,λo=> ?_⟩;have st:fJ H (upd H a (.gC o (.lst vs))):=CZ (by rw[ha];trivial);refine⟨by rw[bI];exact hl,λb hb=>by rw[bE hb.2];exact mu b hb.1,λi b=>Fs i b/\b≠a,λi k b hi hk=>dj i k b hi.1 hk.1,λi b hb=>⟨sub i b hb.1,hb.2⟩,λi β aL=> ?_⟩;by_cases c:j=i
  ·subst c;rw[eN DS]at aL;cases aL;refine⟨_,ev, .nd (λ_ _=>False) ⟨p, .inl ⟨o,gb⟩⟩ dM (λ_ _ _ z=>z.elim) (λ_ _ z=>z.elim) λi u d hu hd=> ?_⟩;exact((bQ i u d hu hd).vw.plain (rY p hd)).frame (λ_ _ z=>z.elim) st
  ·rw[fF c]at aL;obtain⟨w,ew,sw⟩:=sl i β aL;refine⟨w,ew, ?_⟩;have na:∀b,Fs i b->b≠a:=λb z y=>c (dj j i a Fa (by rw[<- y];exact z));cases β with
   |own d=>
    have sw:bb K H (Fs i) w d:=sw;exact(sw.frame (λb ob z q=>by rw[bE (na b z)];exact q) st).mono λb z=>⟨z,na b z⟩
   |ro d=>
    have sw:Vw K H (λb=>¬ U b) w d:=sw;exact(sw.frame (λb ob z q=>by rw[bE λy=>z (by rw[y];exact sub j a Fa)];exact q) st).mono λb z y=>z y.1
   |aT r q=>
    obtain⟨x,vr,er,hp⟩:=sw;exact⟨x,vr,er,fV.gC ha hp⟩
end
section
variable {K:ak}{n:Nat}
def sr:D->D
 |.nd .lst cs=>if bq cs=true then .nd .aA cs else .nd .lst cs
 |d=>d
def Af(f:En->Option (D×En))(Z:En):Option (D×En):=(f Z).map λr=>(sr r.1,r.2)
instance abo[A:SM K n t f]:SM K n (Ke t) (Af f):=⟨λ{σ hv H U Z ρ' af ab d Q} I h k=>by
 obtain⟨⟨d1,ρ1⟩,h1,h2⟩:=aX.mp h;cases h2;refine A.s I h1 λv H1 U1 I1 cT=> ?_;by_cases c:∃cs,d1= .nd .lst cs/\bq cs=true
 ·obtain⟨cs,rfl,p⟩:=c
  left;have e:sr (.nd .lst cs)= .nd .aA cs:=if_pos p;have k:∀v H' U',aB K n H' U' σ hv ρ1 (af++ [v]) (ab++ [.nd .aA cs])->bF U H U' H'->Q v H':=λv H' U'=>by
   have:=k v H' U';rw[show sr (D.nd .lst cs)= .nd .aA cs from e]at this;exact this
  have tl:=I1.tl;have hj:(ρ1++(ab++ [D.nd .lst cs]).map λd=>some (B.own d))[ρ1.length + ab.length]?=some (some (.own (.nd .lst cs))):=by
   rw[bL (by lia)];simp
  obtain⟨a,vs,ev,ha,ua,ok⟩:=cz.freeze I1.ok hj p;have l1:=I1.len;have abp:af.length=ab.length:=by simpa using tl
  have d7:v= .ref a:=by
   rw[bL (by simp;lia)]at ev;simp only[cf,eO,mC,b6]at ev;rw[show ρ1.length + ab.length - (σ.length + hv.length)=(af.map some).length by rw[eG];lia,bL (bT _)]at ev;simpa using ev
  subst d7;refine⟨a,vs,rfl,ha,λo=> ?_⟩;refine k _ _ (λb=>U1 b/\b≠a) ⟨?_,l1,I1.nn⟩ (cT.trans λb ob hb nu=> ?_)
  ·have:=ok o;rw[show(ρ1++(ab++ [D.nd .lst cs]).map λd=>some (B.own d)).set (ρ1.length + ab.length) (some (.own (.nd .aA cs)))=ρ1++(ab++ [D.nd .aA cs]).map λd=>some (B.own d) by
    rw[Zh _ _ (by lia),cf,cf,Zh _ _ (by simp)];simp]at this
   exact this
  ·exact⟨by rw[bE λz=>nu (by rw[z];exact ua)];exact hb,λz=>nu z.1⟩
 ·right;have e:sr d1=d1:=by
   unfold sr
   split
   ·next cs=>exact if_neg λp=>c ⟨cs,rfl,p⟩
   ·rfl
  exact k v H1 U1 (by rw[show sr (d1,ρ1).1=d1 from e];exact I1) cT⟩
end
section
variable {K:ak}
end
section
variable {K:ak}{n:Nat}
variable {H H' H1 H2:Hp}{U U':Addr->Prop}{σ hv:List (Option V)}{Z ρ':En}{af vs:List V}{ab ds:List D}{v y:V}{d:D}{E:jJ}
def jA(M:Nat)(fg:D->En->Option En)(fb:En->Option Fl):Nat->Nat->En->Option Fl
 |0,j,Z=>match ae M Z with
  |some (.nd .lst cs)=>if cs.length<=j then some (.nx Z) else none
  |_=>none
 |k + 1,j,Z=>match ae M Z with
  |some (.nd .lst cs)=>(cs[j]?).bind λd=>if plain d=true then(fg d Z).bind λρ1=>(fb ρ1).bind λ
   |.nx ρ2=>jA M fg fb k (j + 1) ρ2
   |.ct ρ2=>jA M fg fb k (j + 1) ρ2
   |.bk ρ2=>some (.nx ρ2)
   |.rt d ρ2=>some (.rt d ρ2) else none
  |_=>none
theorem aB.Kg(I:aB K n H U σ hv Z af ab)(hm:n<=M)(ha:hv[M - n]?=some (some (.ref a)))(hd:ae M Z=some (.nd .lst cs)):∃vs,H a=some (.lst vs)/\vs.length=cs.length/\∀(i:Nat) (v:V) (d:D),vs[i]?=some v->cs[i]?=some d->Vw K H T1 v d:=by
 obtain⟨v,ev,w⟩:=I.dv hd;have nn:=I.nn;rw[bL (by lia),nn,ha]at ev;cases ev;obtain⟨a',vs,e,hc,vl⟩:=w.ie;cases e;exact⟨vs,hc.2,vl.1,vl.2⟩
theorem TU{M k:Nat}{fl:Fl}[G:SG K n g fg is][B':SS K n tb fb](I:aB K n H U σ hv Z af ab)(hm:n<=M)(ha:hv[M - n]?=some (some (.ref a)))
  (h:jA M fg fb k 0 Z=some fl) (hk:pk K n H U hv af ab E fl):
  ∃W:Nat->Nat->L2.St->Hp->Prop,(∃m,W 0 m σ H)/\∀i' m' σ H,W i' m' σ H->
   ((qe K a).stop i' H/\E.nx σ H)\/((qe K a).go i' H/\∃N:L2.St->Hp->Prop,(∀aM H',N aM H'->∃m2,m2 < m'/\W (i' + 1) m2 aM H')/\∀x H',(qe K a).qd i' H x H'->g x σ H' λfG H2=>tb { E with nx:=N,ct:=N,bk:=E.nx } fG H2):=by
 refine⟨λj m' aM H'=>m'=k - j/\j<=k/\∃U' ρ',aB K n H' U' aM hv ρ' af ab/\bF U H U' H'/\jA M fg fb (k - j) j ρ'=some fl,⟨k,by simp,kz _,U,Z,I, .refl U H,h⟩, ?_⟩;rintro j m' aM H' ⟨rfl,hj,U',ρ',Ix,st,fo⟩;by_cases fm:j < k
 ·right;obtain⟨t,ht⟩:∃t,k - j=t + 1:=⟨k - j - 1,by lia⟩
  rw[ht,jA]at fo
  split at fo
  ·next cs hd=>
   obtain⟨vs,i3,hl,bQ⟩:=Ix.Kg hm ha hd;obtain⟨d,Kh,fo⟩:=aj.mp fo;by_cases pd:plain d=true
   ·rw[if_pos pd]at fo;obtain⟨ρ1,b1,fo⟩:=aj.mp fo;obtain⟨pI,b2,fo⟩:=aj.mp fo;have TV:j < cs.length:=(cb.mp Kh).1;refine⟨⟨vs,vs[j]'(by lia),bW.of i3,gP (by lia)⟩,λfG H2=>∃U2 ρ2,aB K n H2 U2 fG hv ρ2 af ab/\bF U' H' U2 H2/\jA M fg fb t (j + 1) ρ2=some fl,λfG H2 ⟨U2,ρ2,a1,a2,a3⟩=>⟨k - (j + 1),by lia,rfl,by lia,U2,ρ2,a1,st.trans a2,by rw[show k - (j + 1)=t by lia];exact a3⟩,λx H2 y2=> ?_⟩;obtain⟨e,w2⟩:=y2;subst e;have hx:=w2 vs (bW.of i3);have wx:Vw K H2 T1 x d:=bQ j x d hx Kh;refine G.s Ix ((wx.plain pd).view λ_ z=>z.elim) b1 λfG I2=> ?_;refine B'.s I2 b2 ?_;cases pI with
    |nx ρ2=>exact λdq H3 U3 I3 s3=>⟨U3,ρ2,I3,s3,fo⟩
    |ct ρ2=>exact λdq H3 U3 I3 s3=>⟨U3,ρ2,I3,s3,fo⟩
    |bk ρ2=>cases fo;exact λdq H3 U3 I3 s3=>hk dq H3 U3 I3 (st.trans s3)
    |rt d ρ2=>cases fo;exact λv dq H3 U3 I3 s3=>hk v dq H3 U3 I3 (st.trans s3)
   ·rw[if_neg pd]at fo;cases fo
  ·cases fo
 ·left;rw[show k - j=0 by lia,jA]at fo
  split at fo
  ·next cs hd=>
   obtain⟨vs,i3,hl,bQ⟩:=Ix.Kg hm ha hd
   split at fo
   ·next TV=>
    cases fo;exact⟨⟨vs,bW.of i3,by lia⟩,hk aM H' U' Ix st⟩
   ·cases fo
  ·cases fo
def forA(fp:En->Option Pl)(fg:D->En->Option En)(fb:En->Option Fl)(Z:En):Option Fl:=(fp Z).bind λ
 |.rt r p=>match fB Z (.rt r p) with
  |some (.nd .lst cs)=>(jA Z.length fg fb cs.length 0 (Z++ [some (.aT r p)])).map (Ab 0 Z.length)
  |_=>none
 |.ro d=>(jX d).bind λds=>de fg fb ds Z
instance (priority:=1500) abq{r:R2}{ta tc:TE}{g:TG}{tb:TS}{fp:En->Option Pl}{fg:D->En->Option En}{is:List Nat}{fb:En->Option Fl}[L:jV 0 n][P:SP K n (jL r ta tc) fp][G:SG K n g fg is][B':SS K n tb fb]:SS K n (vJ (pH K (jL r ta tc)) g tb) (forA fp fg fb):=⟨λ{σ hv H U Z af ab fl E} I h k=>by
 obtain⟨q,h1,h⟩:=aj.mp h;cases q with
 |ro d=>
  refine(Tb (A:=Ta (fl:=fp)) (G:=G) (B':=B')).s I ?_ k;show(DB fp Z).bind _=_;unfold DB;rw[h1];exact h
 |rt r p=>
  have h:(match fB Z (.rt r p) with | some (.nd .lst cs)=>(jA Z.length fg fb cs.length 0 (Z++ [some (.aT r p)])).map (Ab 0 Z.length) | _=>none)=some fl:=h
  split at h
  ·next cs hd=>
   obtain⟨pI,h2,rfl⟩:=aX.mp h;refine P.s I h1 λv H1 s1 w1=> ?_;have I1:=I.same s1;have l:=I1.len;have nn:=I1.nn;have wv:=I1.at w1 hd;obtain⟨a,vs,e,hc,vl⟩:=wv.ie;cases e;have Ag:bF U H U H1:=λb o q nu=>⟨s1 b o q,nu⟩
   refine .inl ⟨a,rfl,⟨vs,bW.of hc.2⟩, ?_⟩;refine TU (I1.aT w1) (M:=Z.length) (by lia) (by rw[bL (by lia),show Z.length - n - hv.length=0 by lia];rfl) h2 (pk.close (r:=0) (m:=Z.length) (by lia) L.h ?_);cases pI with
   |nx ρ2=>exact λdq H3 U3 I3 s3=>k dq H3 U3 I3 (Ag.trans s3)
   |ct ρ2=>exact λdq H3 U3 I3 s3=>k dq H3 U3 I3 (Ag.trans s3)
   |bk ρ2=>exact λdq H3 U3 I3 s3=>k dq H3 U3 I3 (Ag.trans s3)
   |rt d ρ2=>exact λv dq H3 U3 I3 s3=>k v dq H3 U3 I3 (Ag.trans s3)
  ·cases h⟩
end
section
variable {K:ak}{n:Nat}{H H' H1 H2:Hp}{U U':Addr->Prop}{σ hv:List (Option V)}{Z ρ':En}{af vs:List V}{ab ds:List D}{v y x o u:V}{d d0 d':D}
end
section
variable {K:ak}{H H':Hp}{F N U:Addr->Prop}{a:Addr}{o:Obj}{aw:List (bB×V)}{m:Nat}{e:List (Option V)}{Z:En}
end
section
variable {K:ak}{n:Nat}{H H' H1 H2:Hp}{U U':Addr->Prop}{σ hv:List (Option V)}{Z ρ':En}{af vs:List V}{ab ds:List D}{v y:V}{d:D}{E:jJ}{a:Addr}{o:Obj}
open Classical in
end
section
variable {K:ak}{n:Nat}{H H' H1 H2:Hp}{U U':Addr->Prop}{σ hv:List (Option V)}{Z ρ':En}{af vs:List V}{ab ds:List D}{d:D}{E:jJ}{a:Addr}{o:Obj}
end
section
variable {K:ak}
variable {n:Nat}{H H' H1 H2:Hp}{U U':Addr->Prop}{σ hv:List (Option V)}{Z ρ':En}{af vs:List V}{ab ds:List D}{v y:V}{d:D}{E:XK}
end
section
variable {K:ak}{n:Nat}{H H' H1 H2:Hp}{U U':Addr->Prop}{σ hv:List (Option V)}{Z ρ':En}{af vs:List V}{ab ds:List D}{d:D}{E:XK}
def qH(k:Kd)(cs:List D)(y d:D):Option D:=match k with
 |.dk ks=>(w9 y).bind λkey=>if cs.length < aN/\ks.Nodup then(match cX key ks with
  |some i=>some (.nd (.dk ks) (cs.set i d))
  |none=>some (.nd (.dk (ks++ [key])) (cs++ [d]))) else none
 |_=>none
def uF(fv:En->Option (D×En))(fp:En->Option Pl)(fy:En->Option D)(Z:En):Option Fl:=(fv Z).bind λa=>(fp a.2).bind λ
 |.rt r p=>(fy a.2).bind λy=>(gw a.2 r p).bind λz=>(qH z.2.1 z.2.2 y a.1).map λd'=> .nx (gE a.2 r z.1 p d')
 |.ro _=>none
instance (priority:=3000) abr{td tv:TE}{ty:TA}{fv:En->Option (D×En)}{fp:En->Option Pl}{fy:En->Option D}[A:SM K n tv fv][P:SP K n td fp][Y:SV K n (tU ty) fy]:SS K n (yI td (tU ty) tv) (uF fv fp fy):=⟨λ{σ hv H U Z af ab fl E} I h k=>by
 obtain⟨⟨d,ρ1⟩,h1,h⟩:=aj.mp h;obtain⟨q,h2,h⟩:=aj.mp h;cases q with
 |ro _=>cases h
 |rt r p=>
  obtain⟨y,h5,h⟩:=aj.mp h;obtain⟨⟨d0,kk,cs⟩,h3,h⟩:=aj.mp h;obtain⟨d',h4,h⟩:=aX.mp h;subst h;obtain⟨hr,hg⟩:=mP h3;refine A.s I h1 λx H1 U1 I1 cT=> ?_;refine P.s I1 h2 λo H2 s2 w2=> ?_;have I2:=I1.same s2;refine Y.s I2 h5 λu H3 s3 w3=> ?_;have I3:=I2.same s3;have sf:=w2.same s3;have fL:bF U1 H1 U1 H3:=λb o q nu=>⟨(s2.trans s3) b o q,nu⟩
  unfold qH at h4
  split at h4
  ·next ks e=>
   have e:kk= .dk ks:=e;subst e;obtain⟨key,e1,g4⟩:=aj.mp h4;clear h4;unfold w9 at e1
   split at e1
   ·next ys=>
    obtain⟨b,us,rfl,_,hb,lq,bQ⟩:=w3.node;have xf:=ux lq bQ e1;have hb:H3 b=some (.tup us):=hb.2;rw[xf]at hb;by_cases c:cs.length < aN/\ks.Nodup
    ·rw[if_pos c]at g4;obtain⟨a,dx,vs,rfl,ha,hf,hl,_,ed⟩:=aB.edit (xs:= [x]) (ds:= [d]) I3 rfl sf hr hg rfl;have hf:ks.length=vs.length:=hf
     split at g4
     ·next i e2=>
      cases g4;have hi:i < vs.length:=by rw[<- hf];exact uw e2
      refine⟨a,_,rfl, .inr ⟨_,key,b,ha,rfl,hb,by rw[ny];lia,rfl⟩, ?_⟩;rw[DF e2 hf c.2];obtain⟨U4,I4,gS⟩:=ed (.dk ks) (vs.set i x) (cs.set i d) (λj=>if j=i then vs.length else j) rfl (by show ks.length=(vs.set i x).length;rw[bI];exact hf) (by rw[bI,bI];exact hl)
       (λx z hx hz=>wK hi x z (by rw[bI]at hx;exact hx) (by rw[bI]at hz;exact hz)) (nT hi) (by rw[hl];exact nT (by lia))
      exact k σ _ U4 I4 (cT.trans (fL.trans gS))
     ·next e2=>
      cases g4;refine⟨a,_,rfl, .inr ⟨_,key,b,ha,rfl,hb,by rw[ny];lia,rfl⟩, ?_⟩;rw[w6 e2 hf];obtain⟨U4,I4,gS⟩:=ed (.dk (ks++ [key])) (vs++ [x]) (cs++ [d]) id rfl (by show(ks++ [key]).length=_;simp;exact hf) (by simp;exact hl) (λx z _ _ h=>h) (λj x h=>h) λj x h=>h;exact k σ _ U4 I4 (cT.trans (fL.trans gS))
    ·rw[if_neg c]at g4;cases g4
   ·cases e1
  ·cases h4⟩
end
section
variable {K:ak}{n:Nat}{H H' H1 H2:Hp}{U U':Addr->Prop}{σ hv:List (Option V)}{Z ρ':En}{af vs:List V}{ab ds:List D}{d:D}
end
theorem pxx{K:ak}{pos:Pos}(hr:gn k X.A)(ha:PE X a ta)(hb:PE X b tb)(hs:Hu b:=by exact λ_ _=>rfl)(hK:X.K=K:=by rfl):PE X (.Subscript a b pos) (jL (Dp K) ta tb):=hK▸PJ (SN (i4 hr)) ha hb hs
theorem iR{N P:List Str}(a:sc.kind= .function:=by rfl)(b:sc.isCoroutine=false:=by rfl)(c:sc.isGenerator=false:=by rfl)(d:N.Nodup:=by decide +kernel)(e:N.take P.length=P:=by rfl)(f:∀x∈P,sc.names.lookup x=some .local\/sc.names.lookup x=some .cell:=by decide +kernel)(g:∀y∈sc.names,y.2≠ .free:=by decide +kernel):gJ N P sc:=⟨a,b,c,d,e,f,g⟩
theorem og{P:Program}{w:World}{K:ak}{mg:Str->Option Value}{base:Heap}{x q:Str}{st:Stmt}{f:Addr}{fd:jl}{N ps:List Str}{k n m:Nat}{t:TS}{g:En->Option Fl}(F:gr K x q st f fd)(S:gJ N ps (dZ st))(h:∀dJ A outer s H E,gn k (A.deeper (envOfC q (dZ st) s.heap.objs.size f dJ))->kb (qh eR P w K mg base N q (dZ st) f dJ A outer s H E).tS (lQ st) t)[I:SS K n t g](hn:N.length=n:=by rfl)(hm:ps.length=m:=by rfl)(hl:m<=n:=by decide):dO P w K mg base eR (k + 1) f fd ps (fW K m (b7 n g)):=by
 subst hn;subst hm;exact F.ok S (λvs H Q E h=>JT h) λdJ A outer s H vs Q E hr q=>⟨t,h dJ A outer s H E hr,Jj (S:=I) q hl⟩
theorem pL{P:Program}{w:World}{K:ak}{mg:Str->Option Value}{base:Heap}{x q:Str}{st:Stmt}{f:Addr}{fd:jl}{N ps:List Str}{k n:Nat}{mk:List Bool}{t:TS}{g:En->Option Fl}(F:gr K x q st f fd)(S:gJ N ps (dZ st))(h:∀dJ A outer s H E,gn k (A.deeper (envOfC q (dZ st) s.heap.objs.size f dJ))->kb (qh eR P w K mg base N q (dZ st) f dJ A outer s H E).tS (lQ st) t)[I:SS K n t g](hn:N.length=n:=by rfl)(hm:ps.length=mk.length:=by rfl)(hl:mk.length<=n:=by decide):dO P w K mg base eR (k + 1) f fd ps (gy K mk (gF n mk g)):=by
 subst hn;exact F.ok S (λvs H Q E h=>h.1.trans hm.symm) λdJ A outer s H vs Q E hr q=>⟨t,h dJ A outer s H E hr,Sg (S:=I) q hl⟩
abbrev oG(K:ak)(C:Addr)[dz K C]:=En->Option Fl
section
variable {X:Cx}{K:ak}{a b e o:Expr}{ta tb te:TE}{p pos pos':Pos}{x f:Str}
theorem jd(hK:X.K=K:=by rfl):dg X (lF .Add) (wR K):=hK▸SY
theorem eK(hu:X.A.units + 64 < cLine)(hK:X.K=K:=by rfl):dg X (iB .Eq) (Di K):=hK▸SD hu
theorem one(hu:X.A.units + 64 < cLine)(hK:X.K=K:=by rfl):dg X (iB .NotEq) (Dj K):=hK▸SE hu
theorem Ki(hu:X.A.units + 1 < cLine)(hK:X.K=K:=by rfl):dg X (iB .In) (Dq K):=hK▸SW hu
theorem qI{tg:Expr}(hl:PE X a ta)(hK:X.K=K:=by rfl):PI X tg a (pH K ta):=hK▸Dy hl
theorem DT(ha:PE X o ta)(hv:PE X a tb)(hs:sY a (some (.Attribute o f pos')) pos.line X.env=pure false:=by rfl)(hK:X.K=K:=by rfl):PS X (.Assign [.Attribute o f pos'] a pos) (Ca K ta tb f):=hK▸Ph ha hv hs
theorem qJ(he:PE X e ta)(hK:X.K=K:=by rfl)(hb:vg e f X.env (eval e X.env)=eval e X.env:=by rfl):PE X (.Attribute e f pos) (vO K ta f):=Tn hK he hb
theorem fD(h:PE X a ta)(hs:dB [a] X.env=(false,eval a X.env)::dB [] X.env:=by rfl):PA X [a] (gq ta gR):=bS h g8 (hs:=hs)
theorem aS(h:PE X a ta)(h2:PE X b tb)(hs:dB [a,b] X.env=(false,eval a X.env)::dB [b] X.env:=by rfl)(ht:dB [b] X.env=(false,eval b X.env)::dB [] X.env:=by rfl):PA X [a,b] (gq ta (gq tb gR)):=bS h (bS h2 g8 (hs:=ht)) (hs:=hs)
theorem dI(h:PE X a ta):kb X [.Return (some a) pos] (rD ta):=fj (yk h)
theorem cQ(ho:dg X (iB op) r)(ha:PE X a ta)(hb:PE X b tb)(hm:xQ op b=false:=by exact G5 _):PT X (.Compare a [op] [b] pos) (yA (jL r ta tb)):=B7 ho ha hb hm
theorem uG(ho:dg X (iB op) r)(ha:PE X a ta)(hb:PE X b tb)(hm:xQ op b=false:=by exact G5 _):PE X (.Compare a [op] [b] pos) (jL r ta tb):=OX ho ha hb hm
theorem eS(i:Nat)(hN:X.N.Nodup)(hi:X.N[i]?=some x:=by rfl)(hx:Loc X.env.scope x:=by first | exact .inl rfl | exact .inr rfl)(hf:X.fn x=true\/X.env.scope.names.lookup x=some .local:=by first | exact .inl rfl | exact .inr rfl):PG X (.Name x pos) (kB i):=BW hN hi hx hf
theorem dt(i:Nat)(hN:X.N.Nodup)(he:PE X e te)(hi:X.N[i]?=some x:=by rfl)(hx:Loc X.env.scope x:=by first | exact .inl rfl | exact .inr rfl)(hs:sY e (some (.Name x pos')) pos.line X.env=pure false:=by rfl)(hf:X.fn x=true\/X.env.scope.names.lookup x=some .local:=by first | exact .inl rfl | exact .inr rfl):PS X (.Assign [.Name x pos'] e pos) (mG te (kB i)):=G1 hN hi hx he hs hf
theorem pln(hm:X.mg "len"=none)(ha:PE X a ta)(hg:Gl X "len":=by rfl)(hK:X.K=K:=by rfl)(he:dB [a] X.env=(false,eval a X.env)::dB [] X.env:=by rfl):PE X (.Call (.Name "len" p) [a] [] pos) (nH (Dt K) (gq ta gR)):=hK▸oY S2 hg hm PySem.boot_len (bS ha g8 (hs:=he)) (he:=he)
theorem TX(hm:X.mg "tuple"=none)(ha:PE X a ta)(hg:Gl X "tuple":=by rfl)(hK:X.K=K:=by rfl)(he:dB [a] X.env=(false,eval a X.env)::dB [] X.env:=by rfl):PE X (.Call (.Name "tuple" p) [a] [] pos) (nH (uy K) (gq ta gR)):=hK▸vQ JJ hg hm Gk (bS ha g8 (hs:=he)) (he:=he)
theorem qZ(ho:PE X o ta)(ha:PE X a tb)(hK:X.K=K:=by rfl)(hb:vg o "append" X.env (eval o X.env)=eval o X.env:=by rfl)
  (hf:((backTo pos (dB [a] X.env)).all (λx=> !x.1) && (backToKw pos (M8 [] X.env)).all (λx=>x.1.isSome)
   && decide ([a].length + ([]:List Keyword).length + (if([]:List Keyword).isEmpty then 0 else 1) < 30))=true:=by rfl) (hl:(p.endLine == pos.line)=true:=by rfl) (hs:dB [a] X.env=(false,eval a X.env)::dB [] X.env:=by rfl):PE X (.Call (.Attribute o "append" p) [a] [] pos) (vS K "list" tY ta (gq tb gR)):=hK▸P5 PySem.F.plainAttrs_list PySem.F.slot_list_append PySem.F.type_list_append Qe ho (bS ha g8 (hs:=hs)) hb hf hl hs
end
section
variable {K:ak}{n:Nat}{H H' H1 H2:Hp}{U U':Addr->Prop}{σ hv:List (Option V)}{Z ρ':En}{af vs:List V}{ab ds:List D}{v y:V}{d:D}{E:jJ}{N:Addr->Prop}
structure Ah(K:ak)(J:It)(ds:List D)(P:Hp->(Addr->Prop)->Prop):Prop where
 step:∀{H H' U U'},P H U->bF U H U' H'->(∀b,U b->gY (H b))->P H' U'
 stop:∀{H U},P H U->J.stop ds.length H
 item:∀{H U} {i:Nat} {d:D},P H U->(∀b,U b->gY (H b))->ds[i]?=some d->J.go i H/\∀x H',J.qd i H x H'->aQ H H'/\P H' U/\Vw K H' (λb=>¬ U b) x d
class Ai(K:ak)(n:Nat)(wi:TI)(f:outParam (En->Option (List D))):Prop where
 s:∀{σ hv:List (Option V)} {H:Hp} {U:Addr->Prop} {Z:En} {af:List V} {ab:List D} {ds:List D} {R:It->Hp->Prop},aB K n H U σ hv Z af ab->f Z=some ds->(∀J P H',aQ H H'->Ah K J ds P->P H' U->R J H')->wi σ H R
instance (priority:=50) abt{wi:TI}{g:TG}{tb:TS}{fi:En->Option (List D)}{fg:D->En->Option En}{is:List Nat}{fb:En->Option Fl}[A:Ai K n wi fi][G:SG K n g fg is][B':SS K n tb fb]:SS K n (vJ wi g tb) (λZ=>(fi Z).bind λds=>de fg fb ds Z):=⟨λ{σ hv H U Z af ab fl E} I h k=>by
 obtain⟨ds,h1,h⟩:=aj.mp h;refine A.s I h1 λJ P H1 s1 wk p0=> ?_;have fL:bF U H U H1:=λb o q nu=>⟨s1 b o q,nu⟩
 refine⟨λi m aM H'=>m=ds.length - i/\i<=ds.length/\∃U' ρ',aB K n H' U' aM hv ρ' af ab/\bF U H U' H'/\P H' U'/\de fg fb (ds.drop i) ρ'=some fl,⟨ds.length,by simp,kz _,U,Z,I.same s1,fL,p0,h⟩, ?_⟩;rintro i m aM H' ⟨rfl,hi,U',ρ',Ix,st,p,fo⟩;by_cases fm:i < ds.length
 ·right;have hd:ds[i]?=some ds[i]:=gP fm;obtain⟨go,yl⟩:=wk.item p Ix.ok.mu hd;rw[BA fm,de]at fo;obtain⟨ρ1,b1,fo⟩:=aj.mp fo;obtain⟨pI,b2,fo⟩:=aj.mp fo;refine⟨go,λfG H2=>∃U2 ρ2,aB K n H2 U2 fG hv ρ2 af ab/\bF U H U2 H2/\P H2 U2/\de fg fb (ds.drop (i + 1)) ρ2=some fl,λfG H2 ⟨U2,ρ2,a1,a2,a4,a3⟩=>⟨_,by lia,rfl,fm,U2,ρ2,a1,a2,a4,a3⟩,λx H2 y2=> ?_⟩;obtain⟨sm,p2,w2⟩:=yl x H2 y2;have I':=Ix.same sm;have iY:bF U H U' H2:=st.trans λb o q nu=>⟨sm b o q,nu⟩
  refine G.s I' w2 b1 λfG I2=> ?_;refine B'.s I2 b2 ?_;cases pI with
  |nx ρ2=>exact λdq H3 U3 I3 s3=>⟨U3,ρ2,I3,iY.trans s3,wk.step p2 s3 I'.ok.mu,fo⟩
  |ct ρ2=>exact λdq H3 U3 I3 s3=>⟨U3,ρ2,I3,iY.trans s3,wk.step p2 s3 I'.ok.mu,fo⟩
  |bk ρ2=>cases fo;exact λdq H3 U3 I3 s3=>k dq H3 U3 I3 (iY.trans s3)
  |rt d ρ2=>cases fo;exact λv dq H3 U3 I3 s3=>k v dq H3 U3 I3 (iY.trans s3)
 ·left;have e:i=ds.length:=by lia
  subst e;rw[Gh,de]at fo;cases fo;exact⟨wk.stop p,k aM H' U' Ix st⟩⟩
noncomputable def jB:Nat->List D->List D
 |_, []=> []
 |i,d::ds=> .nd .tup [.sc (.int i),d]::jB (i + 1) ds
theorem Kj:∀(i:Nat) (ds:List D),(jB i ds).length=ds.length
 |_, []=>rfl
 |i,d::ds=>congrArg (· + 1) (Kj (i + 1) ds)
theorem Kk:∀(i j:Nat) (ds:List D),(jB i ds)[j]?=(ds[j]?).map λd=> .nd .tup [.sc (.int ((i + j:Nat):Int)),d]
 |_,_, []=>by simp[jB]
 |i,0,d::ds=>by simp[jB]
 |i,j + 1,d::ds=>by
  have e:=Kk (i + 1) j ds;rw[show i + 1 + j=i + (j + 1) by lia]at e;simpa[jB]using e
noncomputable def ma:D->Option (List D)
 |.nd .lst cs=>some cs
 |.nd .aA cs=>some cs
 |_=>none
theorem Kl{x u:V}{a b:D}{p:Addr}(hp:H p=none)(w1:Vw K H N x a)(w2:Vw K H N u b):Vw K (upd H p (.tup [x,u])) N (.ref p) (.nd .tup [a,b]):=by
 have s:=g9 hp (.tup [x,u]);refine .nd (λz=>by cases z) ⟨trivial,gb⟩ rfl λi v d hv hd=> ?_
 match i,hv,hd with
 |0,hv,hd=>cases hv;cases hd;exact w1.same s
 |1,hv,hd=>cases hv;cases hd;exact w2.same s
theorem uH{cs:List D}(h:cS K H N vs cs)(s:aQ H H'):cS K H' N vs cs:=⟨h.1,λi v d a b=>(h.2 i v d a b).same s⟩
theorem Km{cs:List D}(w:Vw K H (λb=>¬ U b) v d)(h:ma d=some cs):∃a,v= .ref a/\(∃xs,bW K H a xs)/\∃P,Ah K (yO K a) (jB 0 cs) P/\P H U:=by
 have go:∀{a:Addr} {vs:List V} (P:Hp->(Addr->Prop)->Prop),(∀{H U},P H U->bW K H a vs/\cS K H (λb=>¬ U b) vs cs)->(∀{H H' U},P H U->aQ H H'->P H' U)->(∀{H H' U U'},P H U->bF U H U' H'->(∀b,U b->gY (H b))->P H' U')->Ah K (yO K a) (jB 0 cs) P:=λ{a vs} P pr sm st=>by
  refine⟨st,λ{H U} p=>⟨vs,(pr p).1,by rw[Kj,(pr p).2.1];exact bT _⟩,λ{H U i d} p mu hd=> ?_⟩;rw[Kk]at hd;obtain⟨c,hc,e⟩:=aX.mp hd;subst e;obtain⟨u,hu,w⟩:=(pr p).2.get hc;refine⟨⟨vs,u,(pr p).1,hu⟩,λx H2 ⟨T,hT,e,q⟩=> ?_⟩;subst e;obtain⟨y,hy,e⟩:=q vs (pr p).1;subst e;rw[hu]at hy;cases hy;have s:=g9 hT (.tup [.int i,u]);refine⟨s,sm p s, ?_⟩;rw[Nat.zero_add];exact Kl hT (.sc _) w
 unfold ma at h
 split at h
 ·next fR=>
  cases h;obtain⟨a,vs,rfl,na,hc,hl,bQ⟩:=w.node;exact⟨a,rfl,⟨vs,bW.of hc.2⟩,λH U=>H a=some (.lst vs)/\¬ U a/\cS K H (λb=>¬ U b) vs cs,go _ (λ⟨x1,_,x3⟩=>⟨bW.of x1,x3⟩) (λ⟨x1,x2,x3⟩ s=>⟨s _ _ x1,x2,uH x3 s⟩) (λ⟨x1,x2,x3⟩ st mu=>⟨(st _ _ x1 x2).1,(st _ _ x1 x2).2,se x3 st mu⟩),hc.2,na rfl,hl,bQ⟩
 ·next fR=>
  cases h;obtain⟨a,vs,rfl,na,hc,hl,bQ⟩:=w.node;have ho:ib K H a vs:=hc.2;exact⟨a,rfl,⟨vs,ho.sq⟩,λH U=>ib K H a vs/\cS K H (λb=>¬ U b) vs cs,go _ (λ⟨x1,x3⟩=>⟨x1.sq,x3⟩) (λ⟨x1,x3⟩ s=>⟨x1.e9 (fJ.of s),uH x3 s⟩) (λ⟨x1,x3⟩ st mu=>⟨x1.e9 (st.e9 mu),se x3 st mu⟩),ho,hl,bQ⟩
 ·cases h
def Ko(f:En->Option Pl)(Z:En):Option (List D):=(f Z).bind λ
 |.ro d=>(ma d).map (jB 0)
 |.rt _ _=>none
def Aj(f:En->Option D)(Z:En):Option (List D):=(f Z).bind λd=>(ma d).map (jB 0)
instance (priority:=500) abu{tl:TE}{fl:En->Option Pl}[A:SP K n tl fl]:Ai K n (yP K (gq tl gR)) (Ko fl):=⟨λ{σ hv H U Z af ab ds R} I h k=>by
 obtain⟨q,h1,h2⟩:=aj.mp h;cases q with
 |rt _ _=>cases h2
 |ro d=>
  obtain⟨cs,h3,e⟩:=aX.mp h2;subst e;refine A.s I h1 λx H1 s1 w1=> ?_;obtain⟨a,rfl,hx,P,wk,p⟩:=Km w1 h3;exact⟨a,rfl,hx,k _ P H1 s1 wk p⟩⟩
instance (priority:=400) abv{tl:TE}{fl:En->Option D}[A:SQ K n tl fl]:Ai K n (yP K (gq tl gR)) (Aj fl):=⟨λ{σ hv H U Z af ab ds R} I h k=>by
 obtain⟨d,h1,h2⟩:=aj.mp h;obtain⟨cs,h3,e⟩:=aX.mp h2;subst e;refine A.o I h1 λx H1 s1 o=> ?_;obtain⟨a,rfl,hx,P,wk,p⟩:=Km (o.out I.ok.mu) h3;exact⟨a,rfl,hx,k _ P H1 s1 wk p⟩⟩
def Am:List V->Hp->VK->Prop:=λxs H Q=>∃i,xs= [.int i]/\Q (.int (if i < 0 then -i else i)) H
theorem Kq{X:Cx}:i0 X (.builtin "abs") Am:=O2
noncomputable def xg:List D->Option D
 | [.sc (.int i)]=>some (.sc (.int (if i < 0 then -i else i)))
 |_=>none
instance abw:nX K Am xg:=⟨λ{H vs ds d Q} w h k=>by
 unfold xg at h
 split at h
 ·next i=>
  cases h;obtain⟨v,rfl,w1⟩:=w.one;rw[w1.cq];exact⟨i,rfl,k _ H (aQ.refl H) (dF.sc _)⟩
 ·cases h⟩
end
end VL
namespace L2
open PySem PySem.Spec PyProof.Rows
def Itm(K:ak)(a b:Addr):It:=
 ⟨λi H=>∃xs ys x y,i7 true K H a xs/\i7 false K H b ys/\xs[i]?=some x/\ys[i]?=some y,λi H v H'=>∃T,H T=none/\v= .ref T/\∀xs ys,i7 true K H a xs->i7 false K H b ys->∃x y,xs[i]?=some x/\ys[i]?=some y/\H'=upd H T (.tup [x,y]),λi H=>∃xs ys,i7 true K H a xs/\i7 false K H b ys/\(xs.length<=i\/ys.length<=i)⟩
theorem TY{P:Program}{w:World}{K:ak}{elts:List Expr}{x1:Nat}{pos:Pos}(a b z TI TO i1 i2:Addr)(D:Apart z TI TO i1 i2 a b):
  Turn P w K (.Tuple elts x1 pos) (Itm K a b) [z,TI,TO,i1,i2] z (λi h=>IsZip h z TI TO .none/\IsPair h TI (.ref i1) (.ref i2)/\(∃c d,IsPair h TO c d)/\nP true h i1 a i/\nP false h i2 b i) where
 mem:=by simp
 obj:=λi h st c hc=>by
  obtain⟨hz,i6,⟨c1,d1,ju⟩,h1,h2⟩:=st;simp only[bx,dw,or_false]at hc;rcases hc with rfl | rfl | rfl | rfl | rfl
  ·exact⟨_,hz,λv e=>by cases e⟩
  ·exact⟨_,i6,λv e=>by cases e⟩
  ·exact⟨_,ju,λv e=>by cases e⟩
  ·exact h1.obj
  ·exact h2.obj
 keep:=λi h h' st k=>by
  obtain⟨hz,i6,⟨c1,d1,ju⟩,h1,h2⟩:=st;exact⟨k z (by simp) _ hz,k TI (by simp) _ i6,⟨c1,d1,k TO (by simp) _ ju⟩,h1.at λo e=>k i1 (by simp) o e,h2.at λo e=>k i2 (by simp) o e⟩
 item:=by
  intro X hP hw hK hc i aa s σ H E I hf st hg;subst hP hw hK;obtain⟨xs,ys,x,y,uI,qK,hx,hy⟩:=hg;obtain⟨An,DU,p1⟩:=I.ug uI;obtain⟨qk,DV,p2⟩:=I.ug qK;obtain⟨u1,Ao,TZ⟩:=DU.get hx;obtain⟨u2,Ap,T2⟩:=DV.get hy;obtain⟨hz,i6,⟨c1,d1,ju⟩,h1,h2⟩:=st;have n1:a≠i1:=λe=>D.o1 (by simp[e]);have n2:b≠i2:=λe=>D.o2 (by simp[e]);have uJ:∀{c:Addr} {o:Obj},s.heap.get? c=some o->c≠s.heap.objs.size:=λq=>fN (dR q);refine RD D (ze true n1 An.toArray) (ze false n2 qk.toArray) hz i6 ju ⟨h1,p1⟩ ⟨h2,p2⟩ (x:=u1) (y:=u2) (by simpa using Ao) (by simpa using Ap) λg1 mN T3 q1 q2 Cw wj k1=> ?_;refine⟨_,rfl, ?_⟩;refine wpAny_letOwnedTupleGo_zip (s:= { s with heap:=g1 }) mN λg2 qr sb=> ?_;have nd:=D.nd;simp only[mB,bx,dw,or_false,not_or]at nd;obtain⟨⟨yZ,qo,o9,qp⟩,⟨TITO,TIi1,TIi2⟩,⟨TOi1,TOi2⟩,i12,_⟩:=nd;have k2:∀c o,c∉ [z,TO,i1,i2]->s.heap.get? c=some o->g2.get? c=some o:=λc o hc q=>(sb.2 c (λe=>hc (by simp[e]))).trans (k1 c o hc q);have T4:z≠s.heap.objs.size:=uJ hz;have Cz:g2.get? s.heap.objs.size=some { cls:= .type "tuple",data:= .seq #[u1,u2] }:=(sb.2 _ (dS T4)).trans Cw;refine⟨.ref s.heap.objs.size,upd H s.heap.objs.size (.tup [x,y]),I.RF (t':=s.toks) k2 (λc hc=>hf c (by simp only[bx,dw,or_false]at hc |-;rcases hc with e | e | e | e <;> simp[e])) (bT _) ?_,rfl,⟨_,I.fresh,rfl,λabx aby e1 e2=>⟨x,y,by rw[I.IQ e1 uI];exact hx,by rw[I.IQ e2 qK];exact hy,rfl⟩⟩,⟨qr, ?_,⟨u1,u2, ?_⟩, ?_, ?_⟩,λc hc=> ?_⟩
  ·exact⟨(by show 2<=aN;decide), [u1,u2], .cons TZ (.cons T2 .nil),⟨_,Cz,rfl,_,rfl⟩⟩
  ·exact(sb.2 TI (dS yZ)).trans (k1 TI _ (by simp only[bx,dw,or_false,not_or];exact⟨dS yZ,TITO,TIi1,TIi2⟩) i6)
  ·exact(sb.2 TO (dS qo)).trans T3
  ·exact q1.1.at λo e=>(sb.2 i1 (dS o9)).trans e
  ·exact q2.1.at λo e=>(sb.2 i2 (dS qp)).trans e
  ·have T5:=(hf c hc).1;have fm:c≠s.heap.objs.size:=by
    simp only[bx,dw,or_false]at hc;rcases hc with rfl | rfl | rfl | rfl | rfl
    ·exact uJ hz
    ·exact uJ i6
    ·exact uJ ju
    ·obtain⟨o,ho,_⟩:=h1.obj;exact uJ ho
    ·obtain⟨o,ho,_⟩:=h2.obj;exact uJ ho
   rw[bE fm];exact T5
 done:=by
  intro X hP hw hK hc i aa s σ H E I hf st hg;subst hP hw hK;obtain⟨xs,ys,uI,qK,hx⟩:=hg;obtain⟨An,DU,p1⟩:=I.ug uI;obtain⟨qk,DV,p2⟩:=I.ug qK;obtain⟨hz,i6,⟨c1,d1,ju⟩,h1,h2⟩:=st;have n1:a≠i1:=λe=>D.o1 (by simp[e]);have n2:b≠i2:=λe=>D.o2 (by simp[e]);have l1:=DU.length;have l2:=DV.length;refine RE (I.ok.hd hc) D (ze true n1 An.toArray) (ze false n2 qk.toArray) hz i6 ju ⟨h1,p1⟩ ⟨h2,p2⟩ ?_ λg1 k1=>⟨rfl, ?_⟩
  ·rcases hx with hx | hx
   ·left;simp;lia
   ·right;simp;lia
  ·exact I.RG (t':=s.toks) k1 λc hc=>hf c (by simp only[bx,dw,or_false]at hc |-;rcases hc with e | e | e | e <;> simp[e])
 self:=λ_ _ _ _ _ st h=>wpAny_pyIter_zip st.1 h
section
variable {prog:Program}{w:World}{A:Around}{E:Value->Shared->Prop}{s:Shared}
abbrev Aq(h:Heap)(a b:Addr):Heap:=(zf h a).push { cls:= .type "list_iterator",data:= .fields #[.ref b, .int 0 0] }
abbrev As(h:Heap)(a b:Addr):Heap:=(Aq h a b).push { cls:= .type "tuple",data:= .seq #[.ref h.objs.size, .ref (zf h a).objs.size] }
abbrev Au(h:Heap)(a b:Addr):Heap:=(As h a b).push { cls:= .type "tuple",data:= .seq #[.none, .none] }
abbrev uK(h:Heap)(a b:Addr):Heap:=(Au h a b).push { cls:= .type "zip",data:= .fields #[.none, .bool false, .bool false, .ref (Aq h a b).objs.size, .ref (As h a b).objs.size] }
theorem T6(a b:Addr)(xs ys:Array Value):
  Meets (Builtin.«zip.__new__» ⟨[.type "zip", .ref a, .ref b], []⟩) (λ_ R s=>s.heap.IsTuple a xs/\s.heap.IsList b ys/\R (.ok (.ret (.ref (Au s.heap a b).objs.size))) { s with heap:=uK s.heap a b }):=
 .of_wp λprog w A R s h=>by
  obtain⟨hp,g,d,tk,os⟩:=s;obtain⟨ha,hb,h⟩:=h;have abz:=sub_zip;have hA:Heap.IsTuple (Shared.heap ⟨hp,g,d,tk,os⟩) a xs:=ha;have hB:Heap.IsList (Shared.heap ⟨hp.push { cls:= .type "tuple_iterator",data:= .fields #[.ref a, .int 0 0] },g,d,tk,os⟩) b ys:=Heap.IsList.push hb _
  wp_walk using wpAny_pyIter_tuple hA,Nc hB
  exact⟨_,rfl,h⟩
theorem T7{a b:Addr}{xs ys:Array Value}{Q:Value->Shared->Prop}(ha:wt true s.heap a xs)(hb:wt false s.heap b ys)
  (h:∀h':Heap,IsZip h' (s.heap.objs.size + 4) (s.heap.objs.size + 2) (s.heap.objs.size + 3) .none->IsPair h' (s.heap.objs.size + 2) (.ref s.heap.objs.size) (.ref (s.heap.objs.size + 1))->IsPair h' (s.heap.objs.size + 3) .none .none->nP true h' s.heap.objs.size a 0->nP false h' (s.heap.objs.size + 1) b 0->
   (∀c o,s.heap.get? c=some o->h'.get? c=some o)->Q (.ref (s.heap.objs.size + 4)) { s with heap:=h' }):wpAny (model prog w) A (call (.type "zip") [.ref a, .ref b]) Q E s:=by
 refine callType_new F.called_zip (by decide) (F.typeCall_zip_2 _ _) (F.newCall_zip_2 _ _) (λobj=>F.args_object_init_3 obj _ _) F.entry_zip_new (T6 a b xs ys) ⟨ha,hb, ?_⟩;have z1:(zf s.heap a).objs.size=s.heap.objs.size + 1:=nk ..;have z2:(Aq s.heap a b).objs.size=s.heap.objs.size + 2:=by rw[nk,z1]
 have z3:(As s.heap a b).objs.size=s.heap.objs.size + 3:=by rw[nk,z2]
 have z4:(Au s.heap a b).objs.size=s.heap.objs.size + 4:=by rw[nk,z3]
 have g5:(uK s.heap a b).get? (Au s.heap a b).objs.size=some _:=iH _ rfl;have g4:(uK s.heap a b).get? (As s.heap a b).objs.size=some _:=dN _ (iH _ rfl);have g3:(uK s.heap a b).get? (Aq s.heap a b).objs.size=some _:=dN _ (dN _ (iH _ rfl));have g2:(uK s.heap a b).get? (zf s.heap a).objs.size=some _:=dN _ (dN _ (dN _ (iH _ rfl)));have g1:(uK s.heap a b).get? s.heap.objs.size=some _:=dN _ (dN _ (dN _ (dN _ (iH _ rfl))));show _/\_;rw[z2,z3,z4]at g5;rw[z1,z2]at g3;rw[z3]at g4;rw[z1]at g2;rw[z4];exact⟨⟨_,g5,rfl⟩,h _ g5 g3 g4 ⟨_,g1,rfl,rfl⟩ ⟨_,g2,rfl,rfl⟩ λc o x=>dN _ (dN _ (dN _ (dN _ (dN _ x))))⟩
end
section
variable {X:Cx}
def Av(K:ak)(ta:TA):TI:=λσ H R=>ta σ H λvs H1=>∃(a b:Addr) (xs ys:List V),vs= [.ref a, .ref b]/\i7 true K H1 a xs/\i7 false K H1 b ys/\R (Itm K a b) H1
theorem T8{elts:List Expr}{x1:Nat}{oX:Pos}{a b:Expr}{ta:TA}{p pos:Pos}(hg:Gl X "zip")(hm:X.mg "zip"=none)(ha:PA X [a,b] ta)(hs:dB [a,b] X.env=(false,eval a X.env)::dB [b] X.env:=by rfl)(cH:(backTo pos (dB [b] X.env)).any (·.1)=false:=by rfl):
  PI X (.Tuple elts x1 oX) (.Call (.Name "zip" p) [a,b] [] pos) (Av X.K ta):=by
 intro aa s σ H R I h;refine Call_ (tR I hg hm boot_zip (FX (bC (ha pos aa s σ H _ I h) λus s1 ⟨vs,H1,I1,r1,q1⟩=> ?_) hs cH));obtain⟨a,b,xs,ys,e,uI,qK,q⟩:=q1;subst e;obtain⟨u,v,rfl,ru,rv⟩:=vals2 r1;cases ru;cases rv;obtain⟨An,_,p1⟩:=I1.ug uI;obtain⟨qk,_,p2⟩:=I1.ug qK;have la:=Inv.ltB (aa:=aa) (σ:=σ) (H:=H1) (s:=s1) p1;have lb:=Inv.ltB (aa:=aa) (σ:=σ) (H:=H1) (s:=s1) p2;refine T7 p1 p2 λh' hz i6 ju i1 i2 hk=> ?_;refine wpAny_pyIter_zip (s:= { s1 with heap:=h' }) hz ?_;have D:Apart (s1.heap.objs.size + 4) (s1.heap.objs.size + 2) (s1.heap.objs.size + 3) s1.heap.objs.size (s1.heap.objs.size + 1) a b:=⟨by simp,by simp only[bx,dw,or_false,not_or];exact⟨fN (df la (oE _ _)),fN (df la (oE _ _)),fN la,fN (df la (oE _ _))⟩,by simp only[bx,dw,or_false,not_or];exact⟨fN (df lb (oE _ _)),fN (df lb (oE _ _)),fN lb,fN (df lb (oE _ _))⟩⟩
 refine⟨s1.heap.objs.size + 4, [s1.heap.objs.size + 4,s1.heap.objs.size + 2,s1.heap.objs.size + 3,s1.heap.objs.size,s1.heap.objs.size + 1],_,_,H1,rfl,I1.kept (t':=s1.toks) hk,TY a b _ _ _ _ _ D,⟨hz,i6,⟨_,_,ju⟩,i1,i2⟩,λc hc=> ?_,q⟩;have qj:s1.heap.objs.size<=c:=by
  simp only[bx,dw,or_false]at hc;rcases hc with rfl | rfl | rfl | rfl | rfl
  ·exact oE _ _
  ·exact oE _ _
  ·exact oE _ _
  ·exact bT _
  ·exact oE _ _
 exact I1.vH qj (I1.aU.fresh qj)
end
end L2
namespace VL
open PySem PySem.Spec PyProof.Rows L2
section
variable {K:ak}{n:Nat}{H H' H1 H2:Hp}{U U':Addr->Prop}{σ hv:List (Option V)}{Z ρ':En}{af vs:List V}{ab ds:List D}{v y:V}{d e:D}{E:jJ}{N:Addr->Prop}
noncomputable def j1:List D->List D->List D
 |c::cs,e::es=> .nd .tup [c,e]::j1 cs es
 |_,_=> []
theorem Kr:∀(i:Nat) (cs es:List D) (d:D),(j1 cs es)[i]?=some d->∃c e,cs[i]?=some c/\es[i]?=some e/\d= .nd .tup [c,e]
 |_, [],_,_,h=>by simp[j1]at h
 |_,_::_, [],_,h=>by simp[j1]at h
 |0,c::cs,e::es,d,h=>⟨c,e,rfl,rfl,by simpa[j1]using h.symm⟩
 |i + 1,c::cs,e::es,d,h=>by simpa using Kr i cs es d (by simpa[j1]using h)
theorem Ks:∀(cs es:List D),cs.length<=(j1 cs es).length\/es.length<=(j1 cs es).length
 | [],_=> .inl (kz _)
 |_::_, []=> .inr (kz _)
 |c::cs,e::es=>(Ks cs es).imp (λh=>BB h) λh=>BB h
noncomputable def ve:D->Option (List D)
 |.nd .tup cs=>some cs
 |_=>none
theorem DW{a b:Addr}{xs ys:List V}{cs es:List D}(q1:i7 true K H a xs)(q2:i7 false K H b ys)(v1:cS K H N xs cs)(v2:cS K H N ys es):
  (Itm K a b).stop (j1 cs es).length H/\∀(i:Nat) (d:D),(j1 cs es)[i]?=some d->(Itm K a b).go i H/\∀x H',(Itm K a b).qd i H x H'->aQ H H'/\Vw K H' N x d:=by
 refine⟨⟨xs,ys,q1,q2,by rw[v1.1,v2.1];exact Ks cs es⟩,λi d hd=> ?_⟩;obtain⟨c,e,hc,he,rfl⟩:=Kr i cs es d hd;obtain⟨u1,Ao,w1⟩:=v1.get hc;obtain⟨u2,Ap,w2⟩:=v2.get he;refine⟨⟨xs,ys,u1,u2,q1,q2,Ao,Ap⟩,λx H2 ⟨T,hT,ex,q⟩=> ?_⟩;subst ex;obtain⟨x,y,hx,hy,e2⟩:=q xs ys q1 q2;subst e2;rw[Ao]at hx;cases hx;rw[Ap]at hy;cases hy;exact⟨g9 hT _,Kl hT w1 w2⟩
theorem Kt{cs:List D}(w:Vw K H N v d)(h:ma d=some cs):∃a vs,v= .ref a/\i7 false K H a vs/\cS K H N vs cs/\((H a=some (.lst vs)/\N a)\/ib K H a vs):=by
 unfold ma at h
 split at h
 ·cases h;obtain⟨a,vs,rfl,na,hc,hl,bQ⟩:=w.node;exact⟨a,vs,rfl,bW.of hc.2,⟨hl,bQ⟩, .inl ⟨hc.2,na rfl⟩⟩
 ·cases h;obtain⟨a,vs,rfl,na,hc,hl,bQ⟩:=w.node;have ho:ib K H a vs:=hc.2;exact⟨a,vs,rfl,ho.sq,⟨hl,bQ⟩, .inr ho⟩
 ·cases h
theorem Ku{cs:List D}(w:Vw K H N v d)(h:ve d=some cs):∃a vs,v= .ref a/\H a=some (.tup vs)/\cS K H N vs cs:=by
 unfold ve at h
 split at h
 ·cases h;obtain⟨a,vs,rfl,na,hc,hl,bQ⟩:=w.node;exact⟨a,vs,rfl,hc.2,hl,bQ⟩
 ·cases h
theorem T9{cs es:List D}{u:V}(w1:Vw K H T1 v d)(w2:Vw K H T1 u e)(h1:ve d=some cs)(h2:ma e=some es):∃a b xs ys,v= .ref a/\u= .ref b/\i7 true K H a xs/\i7 false K H b ys/\zA K (Itm K a b) H (j1 cs es):=by
 obtain⟨a,xs,rfl,q1,v1⟩:=Ku w1 h1;obtain⟨b,ys,rfl,q2,v2,o⟩:=Kt w2 h2;refine⟨a,b,xs,ys,rfl,rfl,cD.of q1,q2,λH' s=> ?_⟩;have Ua:i7 false K H' b ys:=by
  rcases o with⟨z,_⟩ | z
  ·exact bW.of (s _ _ z)
  ·exact(z.e9 (fJ.of s)).sq
 exact DW (cD.of (s _ _ q1)) Ua (uH v1 s) (uH v2 s)
theorem Ub{cs es:List D}{u:V}(w1:Vw K H (λb=>¬ U b) v d)(w2:Vw K H (λb=>¬ U b) u e)(h1:ve d=some cs)(h2:ma e=some es):∃a b xs ys,v= .ref a/\u= .ref b/\i7 true K H a xs/\i7 false K H b ys/\∃P,Ah K (Itm K a b) (j1 cs es) P/\P H U:=by
 obtain⟨a,xs,rfl,q1,v1⟩:=Ku w1 h1;obtain⟨b,ys,rfl,q2,v2,o⟩:=Kt w2 h2;refine⟨a,b,xs,ys,rfl,rfl,cD.of q1,q2,λH U=>H a=some (.tup xs)/\cS K H (λb=>¬ U b) xs cs/\cS K H (λb=>¬ U b) ys es/\((H b=some (.lst ys)/\¬ U b)\/ib K H b ys),⟨?_, ?_, ?_⟩,q1,v1,v2,o⟩
 ·intro H H' U U' ⟨x1,x2,x3,x4⟩ st mu;exact⟨st.e9 mu _ _ (λz=>z) x1,se x2 st mu,se x3 st mu,x4.imp (λz=>st _ _ z.1 z.2) λz=>z.e9 (st.e9 mu)⟩
 ·intro H U ⟨x1,x2,x3,x4⟩;exact(DW (cD.of x1) (x4.elim (λz=>bW.of z.1) λz=>z.sq) x2 x3).1
 ·intro H U i d ⟨x1,x2,x3,x4⟩ mu hd;obtain⟨go,yl⟩:=(DW (cD.of x1) (x4.elim (λz=>bW.of z.1) λz=>z.sq) x2 x3).2 i d hd;refine⟨go,λx H' y=> ?_⟩;obtain⟨s,w⟩:=yl x H' y;exact⟨s,⟨s _ _ x1,uH x2 s,uH x3 s,x4.imp (λz=>⟨s _ _ z.1,z.2⟩) λz=>z.e9 (fJ.of s)⟩,w⟩
def Aw:List D->Option (List D)
 | [d,e]=>(ve d).bind λcs=>(ma e).map λes=>j1 cs es
 |_=>none
def DX(fa fb:En->Option Pl)(Z:En):Option (List D):=(fa Z).bind λp=>(fb Z).bind λq=>match p,q with
 |.ro d, .ro e=>Aw [d,e]
 |_,_=>none
theorem Kv{d e:D}{zs:List D}(h:Aw [d,e]=some zs):∃cs es,ve d=some cs/\ma e=some es/\zs=j1 cs es:=by
 obtain⟨cs,h1,h⟩:=aj.mp h;obtain⟨es,h2,h⟩:=aX.mp h;exact⟨cs,es,h1,h2,h.symm⟩
instance abA{ta:TA}{fa:En->Option (List D)}[A:SA K n ta fa]:SI K n (Av K ta) (λZ=>(fa Z).bind Aw):=⟨λ{σ hv H U Z af ab ds R} I h k=>by
 obtain⟨l,h1,h2⟩:=aj.mp h
 match l,h1,h2 with
 | [d,e],h1,h2=>
  obtain⟨cs,es,g1,g2,rfl⟩:=Kv h2;refine A.s I h1 λvs H1 s1 w=> ?_;obtain⟨v,u,rfl,w1,w2⟩:=w.two;obtain⟨a,b,xs,ys,rfl,rfl,q1,q2,wk⟩:=T9 w1 w2 g1 g2;exact⟨a,b,xs,ys,rfl,q1,q2,k _ H1 s1 wk⟩
 | [],h1,h2=>cases h2
 | [_],h1,h2=>cases h2
 |_::_::_::_,h1,h2=>cases h2⟩
theorem fw.Uc{e:List (Option V)}(h:fw K H U e Z v (.ro d))(s:aQ H H'):fw K H' U e Z v (.ro d):=Vw.same h s
instance (priority:=500) abB{ta tb:TE}{fa fb:En->Option Pl}[A:SP K n ta fa][B':SP K n tb fb]:Ai K n (Av K (gq ta (gq tb gR))) (DX fa fb):=⟨λ{σ hv H U Z af ab ds R} I h k=>by
 obtain⟨p,h1,h⟩:=aj.mp h;obtain⟨q,h2,h⟩:=aj.mp h
 match p,q,h1,h2,h with
 |.ro d, .ro e,h1,h2,h=>
  obtain⟨cs,es,g1,g2,rfl⟩:=Kv h;refine A.s I h1 λx H1 s1 w1=> ?_;refine B'.s (I.same s1) h2 λy H2 s2 w2=> ?_;obtain⟨a,b,xs,ys,rfl,rfl,q1,q2,P,wk,p⟩:=Ub (w1.Uc s2) w2 g1 g2;exact⟨a,b,xs,ys,rfl,q1,q2,k _ P H2 (s1.trans s2) wk p⟩
 |.ro _, .rt _ _,_,_,h=>cases h
 |.rt _ _, .ro _,_,_,h=>cases h
 |.rt _ _, .rt _ _,_,_,h=>cases h⟩
end
end VL
namespace L2
open PySem PySem.Spec PyProof.Rows
section
variable {prog:Program}{w:World}{K:Type}[DecidableEq K]{knd:HeapKind prog w K}{A:Around}{E:Value->Shared->Prop}{s:Shared}
theorem Ud{d a:Addr}{xs:List (K×Addr×Value)}{k:K}{v:Value}{Q:Value->Shared->Prop}(hu:knd.room A)(rH:knd.is s.heap k a)(hm:s.heap.DictOfH knd d xs)
  (h1:∀p,atKey xs k=some p->Q p.2 { s with toks:=s.toks + knd.draws k })
  (h2:atKey xs k=none->∀h',h'.DictOfH knd d (storedH xs k a v)->tG d s.heap h'->Q v { s with heap:=h',toks:=s.toks + knd.draws k })
  (hsz:xs.length<=aN):wpAny (model prog w) A (Nd d (.ref a) v) Q E s:=by
 obtain⟨o,es,ep,ho,hc,hd,he,Kw,hn⟩:=hm;unfold Nd
 try with_reducible refine xP ?_
 refine aH (knd.pyHash hu rH ?_);refine aH (wpAny_dictFind_heap (s:= { s with toks:=s.toks + knd.draws k }) hu rH ho hd he Kw hn ?_ ?_)
 ·intro oZ;have Ue:k∉xs.map (·.1):=not_mem_keys_of_get oZ;have e:=size_of_entries he;refine aH (xV (aH (wpAny_updateDictKeys (hz:=by rw[e];exact hsz) (s:= { s with toks:=s.toks + knd.draws k }) ho hd (b5 (h2 (FU oZ) _ ⟨_,_,ep + 1,Nz _ ho (Obj.isFreed_of_dict (Zi hd _)),
   hc.mapDictKeys _,Zi hd _, ?_, ?_, ?_⟩ (Bx ..))))))
  ·rw[Nf (FU oZ)];simp[he,entryOfKey]
  ·rw[Nf (FU oZ)];intro x hx;rcases lJ.mp hx with hx | hx
   ·exact knd.keeps (Kw x hx) ho hd (Bx ..)
   ·simp only[j8]at hx;subst hx;exact knd.keeps rH ho hd (Bx ..)
  ·rw[Nf (FU oZ)];rw[cf,NW];refine⟨hn,by simp, ?_⟩;intro x hx y hy;simp only[eO,mC,j8]at hy;subst hy;exact λe=>Ue (e▸hx)
 ·intro j p hj;refine aH (wpAny_dictEntries (s:= { s with toks:=s.toks + knd.draws k }) ho hd ?_);rw[entry_at he j,hj];exact aH (xV (b5 (h1 p (atKey_of_get hn hj))))
theorem Ug(knd:HeapKind prog w K)(d a:Addr)(hd:(d == lD)=false)(dflt:Value):
  MeetsIn prog w (Builtin.«dict.setdefault» ⟨[.ref d, .ref a,dflt], []⟩) (λA R s=>knd.room A.in1/\∃k xs,knd.is s.heap k a/\s.heap.DictOfH knd d xs/\xs.length<=aN/\
   (∀p,atKey xs k=some p->R (.ok (.ret p.2)) { s with toks:=s.toks + knd.draws k })/\
   (atKey xs k=none->∀h',h'.DictOfH knd d (storedH xs k a dflt)->tG d s.heap h'->R (.ok (.ret dflt)) { s with heap:=h',toks:=s.toks + knd.draws k })):=
 .of_wp λA R s ⟨hu,k,xs,rH,hm,hz,h1,h2⟩=>by
  unfold Builtin.«dict.setdefault»;refine aH ?_;unfold Builtin.Dict.keyAndDefault;refine aH (wpAny_notOrdered_dict hm.typeIs ?_);show wpAny _ _ (pure (d,fZ a,some dflt)) _ _ s;refine b5 ?_;show wpAny _ _ (if(d == lD)=true then _ else(Nd d (.ref a) dflt >>= _)) _ _ s;rw[if_neg (by rw[hd];exact bh)];exact aH (Ud hu rH hm (λp hp=>b5 ⟨p.2,rfl,h1 p hp⟩) (λhn h' Uh Ui=>b5 ⟨dflt,rfl,h2 hn h' Uh Ui⟩) hz)
end
section
variable {X:Cx}{aa:List (Addr×Obj)}{σ:St}{H:Hp}{s:Shared}{a:Addr}{y v d:V}{u r:Value}{ov:Option V}{A:Around}{E:Value->Shared->Prop}
theorem Uj{Q:Value->Shared->Prop}(hu:A.units + 1 < cLine)(I:Inv X aa σ H s)(g:nJ H a y ov)(ry:RelV y u)(rd:RelV d r)(h1:∀v w' s',ov=some v->Inv X aa σ H s'->RelV v w'->Q w' s')
  (h2:ov=none->∃H',vW H a y d H'/\∀s',Inv X aa σ H' s'->Q r s'):wpAny (model X.prog X.w) A (call (.builtin "dict.setdefault") [.ref a,u,r]) Q E s:=by
 rcases g with⟨aw,k,e,ey,l⟩ | ⟨aw,k,b,e,ey,eb,l⟩
 ·subst ey;obtain⟨z,hd,vs,eM,dd⟩:=qm I.aU e;have hz:vs.length<=aN:=by rw[<- eM.length];exact z
  refine FO NX dd.typeIs Zj (Zk _ _ _) (kt_meets_setdefault (iK X.prog X.w) a (rP ry) hd r) ⟨vs,dd,hz,λv' i3=> ?_,λhn h' lS hs=> ?_⟩
  ·have rv:=eM.val k;rw[i3]at rv;cases hk:kl aw k with
   |none=>rw[hk]at rv;exact rv.elim
   |some v0=>
    rw[hk]at rv;exact h1 v0 v' _ (l.trans hk) (I.tok _) rv
  ·have rv:=eM.val k;rw[hn]at rv;cases hk:kl aw k with
   |some v0=>rw[hk]at rv;exact rv.elim
   |none=>
    obtain⟨H',dp,q⟩:=h2 (l.trans hk);rcases dp with⟨pM,k',e',sy,l',eH⟩ | ⟨pM,k',b',e',sy,sC,l',eH⟩
    ·subst eH;have ek:=HP sy;subst ek;have ee:pM=aw:=by
      rcases e with e | ⟨o,e⟩
      ·rw[e]at e';cases e';rfl
      ·rw[e]at e';cases e'
     subst ee;have hl:(iq pM k d).length<=aN:=by have:=vV pM k d;lia
     have he:∃q,h'.get? a=some q:=let ⟨q,_,_,hq,_⟩:=lS;⟨q,hq⟩;exact q _ (vY (t':=s.toks + 1) I (by rw[e'];exact kU) hs he (Cv hl hd (eM.put k rd) lS))
    ·cases k <;> cases sy
 ·subst ey;cases(show u=fZ b from ry);obtain⟨z,hd,xs,eM,dd⟩:=rQ I.aU e;have hz:xs.length<=aN:=by rw[<- Bm eM];exact z
  refine FO NX dd.typeIs Zj (Zk _ _ _) (Ug (vf (iK X.prog X.w)) a b hd r) ⟨Bk hu,k,xs,tZ I.aU eb,dd,hz,λp hp=> ?_,λhn h' lS hs=> ?_⟩
  ·have rv:=eM.val k;rw[hp]at rv;cases hk:kl aw k with
   |none=>rw[hk]at rv;exact rv.elim
   |some v0=>
    rw[hk]at rv;exact h1 v0 p.2 _ (l.trans hk) (I.tok _) rv
  ·have rv:=eM.val k;rw[hn]at rv;cases hk:kl aw k with
   |some v0=>rw[hk]at rv;exact rv.elim
   |none=>
    obtain⟨H',dp,q⟩:=h2 (l.trans hk);rcases dp with⟨pM,k',e',sy,l',eH⟩ | ⟨pM,k',b',e',sy,sC,l',eH⟩
    ·cases k' <;> cases sy
    ·subst eH;cases sy;rw[eb]at sC;injection sC with sC
     injection sC with sC
     have ek:=HQ sC;subst ek;have ee:pM=aw:=by
      rcases e with e | ⟨o,e⟩
      ·rw[e]at e';cases e';rfl
      ·rw[e]at e';cases e'
     subst ee;have hl:(iq pM k d).length<=aN:=by have:=vV pM k d;lia
     obtain⟨q2,es,ep,hq,g2,g3,g4,_,g5⟩:=lS;refine q _ (vY (t':=_) I (by rw[e'];exact kU) hs ⟨q2,hq⟩ ⟨hl,hd,_,(eM.put k eb rd).keeps λc ys ec=> ?_,q2,es,ep,hq,g2,g3,g4,g5⟩);rw[bE (Gu ec e' (λz=>nomatch z))];exact ec
end
def Kx(td ty tx:TE):TE:=λσ H Q=>td σ H λx H1=>∃a,x= .ref a/\yN H1 a/\ty σ H1 λy H2=>tx σ H2 λz H3=>∃o,nJ H3 a y o/\(∀v,o=some v->Q v H3)/\(o=none->∃H4,vW H3 a y z H4/\Q z H4)
theorem DY{X:Cx}{o e f:Expr}{td ty tx:TE}{mw jr:Pos}(hu:X.A.units + 1 < cLine)(ho:PE X o td)(he:PE X e ty)(hf:PE X f tx)(m:M2 X o "setdefault" mw e f jr):PE X (.Call (.Attribute o "setdefault" mw) [e,f] [] jr) (Kx td ty tx):=by
 intro aa s σ H Q I h;refine wpAny_Call_method m.base m.Ia m.line Y7 NX PySem.F.type_dict_setdefault (bC (ho aa s σ H _ I h) λu s1 ⟨x,H1,I1,rx,a,ex,d,q1⟩=> ?_);subst ex;obtain rfl:u=fZ a:=rx;obtain⟨t1,t2,_⟩:=Ib I1 d;refine⟨t1,t2, ?_⟩;rw[m.trees];refine NB rfl (NC (Bq (bC (he aa s1 σ H1 _ I1 q1) λiv s2 ⟨y,H2,I2,ry,q2⟩=>
  Bq (bC (hf aa s2 σ H2 _ I2 q2) λfv s3 ⟨z,H3,I3,rz,ov,g,qs,qn⟩=>Nr ?_))))
 exact Uj hu I3 g ry rz (λv w' s4 eo I4 ll=>⟨v,H3,I4,ll,qs v eo⟩) λeo=>let ⟨H4,dp,q⟩:=qn eo;⟨H4,dp,λs4 I4=>⟨z,H4,I4,rz,q⟩⟩
end L2
namespace VL
open PySem PySem.Spec PyProof.Rows L2
section
variable {K:ak}{n:Nat}{H H' H1 H2:Hp}{U U':Addr->Prop}{σ hv:List (Option V)}{Z ρ':En}{af vs:List V}{ab ds:List D}{v y x o u:V}{d d0 d':D}
def xh(k:Kd)(cs:List D)(y d:D):Option D:=match k with
 |.cy ks=>(cv y).bind λkey=>if cs.length < aN/\cX key ks=none then some (.nd (.cy (ks++ [key])) (cs++ [d])) else none
 |.dk ks=>(w9 y).bind λkey=>if cs.length < aN/\cX key ks=none then some (.nd (.dk (ks++ [key])) (cs++ [d])) else none
 |_=>none
theorem fV.grow{a:Addr}{u u':HO}{ex:List V}(ha:H a=some u)(hk:kids u'=kids u++ex){v w:V}{p:List Nat}(h:fV H v p w):fV (L2.upd H a u') v p w:=by
 induction h with
 |nil=>exact .nil _
 | @cons b ob m c w p e1 e2 _ ih=>
  by_cases hb:b=a
  ·subst hb;rw[ha]at e1;cases e1;refine .cons gb ?_ ih;rw[hk,aV (cb.mp e2).1];exact e2
  ·exact .cons (by rw[bE hb];exact e1) e2 ih
theorem aB.Uk{r:Nat}{p:List Nat}{kk:Kd}{cs:List D}{yd:D}(I3:aB K n H U σ hv Z (af++ [x]) (ab++ [d]))(w:fw K H U (σ++hv) Z o (.rt r p))(hr:aP Z r=some d0)(hg:aJ d0 p=some (.nd kk cs))(w3:Vw K H T1 u yd)(h4:xh kk cs yd d=some d'):
  ∃a u1 u2,o= .ref a/\H a=some u1/\kids u2=kids u1++ [x]/\(kids u1).length=cs.length/\vW H a u x (upd H a u2)/\∃U4,aB K n (upd H a u2) U4 σ hv (gE Z r d0 p d') af ab/\bF U H U4 (upd H a u2):=by
 unfold xh at h4
 split at h4
 ·next ks=>
  obtain⟨key,e1,h4⟩:=aj.mp h4;by_cases c:cs.length < aN/\cX key ks=none
  ·rw[if_pos c]at h4;cases h4;obtain⟨a,dx,vs,rfl,ha,hf,hl,_,ed⟩:=aB.edit (xs:= [x]) (ds:= [d]) I3 rfl w hr hg rfl;have hf:ks.length=vs.length:=hf;obtain⟨U4,I4,gS⟩:=ed (.cy (ks++ [key])) (vs++ [x]) (cs++ [d]) id rfl (by show(ks++ [key]).length=_;simp;exact hf) (by simp;exact hl) (λx z _ _ h=>h) (λj x h=>h) λj x h=>h;have rS:kids (ho (.cy ks) dx vs)=vs:=uh (K:=K) hf;refine⟨a,_,_,rfl,ha, ?_,by rw[rS];exact hl, .inl ⟨_,key,ha,w3.key e1,by rw[ny];lia, ?_⟩,U4,I4,gS⟩
   ·rw[rS];exact uh (K:=K) (by show(ks++ [key]).length=_;simp;exact hf)
   ·rw[w6 c.2 hf];rfl
  ·rw[if_neg c]at h4;cases h4
 ·next ks=>
  obtain⟨key,e1,g4⟩:=aj.mp h4;clear h4;unfold w9 at e1
  split at e1
  ·next ys=>
   obtain⟨b,us,rfl,_,hb,lq,bQ⟩:=w3.node;have xf:=ux lq bQ e1;have hb:H b=some (.tup us):=hb.2;rw[xf]at hb;by_cases c:cs.length < aN/\cX key ks=none
   ·rw[if_pos c]at g4;cases g4;obtain⟨a,dx,vs,rfl,ha,hf,hl,_,ed⟩:=aB.edit (xs:= [x]) (ds:= [d]) I3 rfl w hr hg rfl;have hf:ks.length=vs.length:=hf;obtain⟨U4,I4,gS⟩:=ed (.dk (ks++ [key])) (vs++ [x]) (cs++ [d]) id rfl (by show(ks++ [key]).length=_;simp;exact hf) (by simp;exact hl) (λx z _ _ h=>h) (λj x h=>h) λj x h=>h;have rS:kids (ho (.dk ks) dx vs)=vs:=uh (K:=K) hf;refine⟨a,_,_,rfl,ha, ?_,by rw[rS];exact hl, .inr ⟨_,key,b,ha,rfl,hb,by rw[ny];lia, ?_⟩,U4,I4,gS⟩
    ·rw[rS];exact uh (K:=K) (by show(ks++ [key]).length=_;simp;exact hf)
    ·rw[w6 c.2 hf];rfl
   ·rw[if_neg c]at g4;cases g4
  ·cases e1
 ·cases h4
theorem Ul{k:Kd}{cs:List D}{y:D}{o:Option Nat}(h:bp (.nd k cs) y=some o):cV k=false:=by
 unfold bp at h
 split at h
 ·next e=>cases e;rfl
 ·next e=>cases e;rfl
 ·cases h
theorem Um{k:Kd}{cs:List D}{y:D}{o:Option Nat}{a dx:Addr}(ha:H a=some (ho k dx vs))(hf:fits K k vs.length)(h:bp (.nd k cs) y=some o):hV K H a k vs:=by
 unfold bp at h
 split at h
 ·next e=>cases e;exact⟨hf, .inl ha⟩
 ·next e=>cases e;exact⟨hf, .inl ha⟩
 ·cases h
def qL(fp:En->Option Pl)(fy:En->Option D)(fv:En->Option D)(Z:En):Option (D×En):=(fp Z).bind λ
 |.ro _=>none
 |.rt r p=>(fy Z).bind λy=>(gw Z r p).bind λz=>(bp (.nd z.2.1 z.2.2) y).bind λ
  |some i=>if cV z.2.1=false then(fv Z).bind λd=>(ja Z r (p++ [i]) (jW d)).map λρ'=>(.sc .az,ρ') else none
  |none=>(xh z.2.1 z.2.2 y (.nd .lst [])).bind λdd=>(aP (gE Z r z.1 p dd) r).bind λd1=>if(aJ d1 p).isSome=true then(fv (gE Z r z.1 p dd)).bind λd=>(ja (gE Z r z.1 p dd) r (p++ [z.2.2.length]) (jW d)).map λρ'=>(.sc .az,ρ') else none
theorem Ky{r:Nat}{p:List Nat}{g:List D->Option (List D)}{ρ2:En}(I:aB K n H U σ hv Z af ab)(w:fw K H U (σ++hv) Z x (.rt r p))(h:ja Z r p g=some ρ2):tX K "list" x H:=by
 obtain⟨⟨d0,kk,cs⟩,h4,h5⟩:=aj.mp h;obtain⟨hr,hg⟩:=mP h4
 split at h5
 ·next e=>
  have e:kk= .lst:=e;subst e;obtain⟨a,vs,rfl,_,hc,_,_⟩:=(I.at (q:= .rt r p) (d:= .nd .lst cs) w (by show(aP Z r).bind _=_;rw[hr];exact hg)).node;exact zl hc.2
 ·cases h5
theorem Kz{r:Nat}{p:List Nat}{g:List D->Option (List D)}{ρ2:En}(h:ja Z r p g=some ρ2):∃d0,aP Z r=some d0/\(aJ d0 p).isSome=true:=by
 obtain⟨⟨d0,kk,cs⟩,h4,h5⟩:=aj.mp h;obtain⟨hr,hg⟩:=mP h4;exact⟨d0,hr,by rw[hg];rfl⟩
instance (priority:=2500) abC{td ty tv:TE}{fp:En->Option Pl}{fy fv:En->Option D}[P:SP K n td fp][Y:SV K n ty fy][A:SQ K n tv fv]:SM K n (vS K "list" tY (Kx td ty (rJ gR)) (gq tv gR)) (qL fp fy fv):=⟨λ{σ hv H U Z ρ' af ab d Q} I h k=>by
 obtain⟨q,h1,h⟩:=aj.mp h;cases q with
 |ro _=>cases h
 |rt r p=>
  obtain⟨yd,h2,h⟩:=aj.mp h;obtain⟨⟨d0,kk,cs⟩,h3,h⟩:=aj.mp h;obtain⟨oi,h4,h⟩:=aj.mp h;obtain⟨hr,hg⟩:=mP h3;refine P.s I h1 λxo H1 s1 w1=> ?_;have I1:=I.same s1;obtain⟨a,dx,vs,rfl,ha,hf,hl,_,_⟩:=aB.edit (xs:= []) (ds:= []) (by rw[fO,fO];exact I1) rfl w1 hr hg (Ul h4);have hc:hV K H1 a kk vs:=Um ha hf h4;refine⟨a,rfl,DE hc h4,Y.s I1 h2 λyv H2 s2 w2=> ?_⟩;have I2:=I1.same s2;refine⟨kz _,λl KA=> ?_⟩;have s3:=g9 KA (.lst []);have oL:dF K H2 (upd H2 l (.lst [])) (.ref l) (.nd .lst []):=(iE.nil (K:=K) (H:=H2) (H':=H2)).node (k:= .lst) (aQ.refl H2) KA (.inr ⟨rfl,trivial,0,rfl⟩);have xi:=s2.trans s3;have w4:hV K (upd H2 l (.lst [])) a kk vs:=hc.frame (λ_ o e=>xi _ _ e) (fJ.of xi);have g:=w4.wQ hl (w2.same s3) h4;have fL:bF U H U (upd H2 l (.lst [])):=λb o q nu=>⟨(s1.trans xi) b o q,nu⟩
  have w3:fw K (upd H2 l (.lst [])) U (σ++hv) Z (.ref a) (.rt r p):=w1.same xi;cases oi with
  |some i=>
   have h:(if cV kk=false then(fv Z).bind λd=>(ja Z r (p++ [i]) (jW d)).map λρ'=>(D.sc .az,ρ') else none)=some (d,ρ'):=h;by_cases ci:cV kk=false
   ·rw[if_pos ci]at h;obtain⟨dv,h5,h⟩:=aj.mp h;obtain⟨ρ2,h6,h⟩:=aX.mp h;cases h;have hi:=hc.JC h4;obtain⟨b,hb⟩:∃b,vs[i]?=some b:=⟨vs[i],gP hi⟩
    refine⟨_,g,λv ev=> ?_,λhn=> ?_⟩
    ·have ev:vs[i]?=some v:=ev;rw[hb]at ev;cases ev;have I3:=I2.same s3;obtain⟨g1,vr,dd,g2,g3,g4,g5⟩:=w3;obtain⟨d9,DZ,D0⟩:=Kz h6;have pb:fV (upd H2 l (.lst [])) vr (p++ [i]) b:=g5.app (.cons (xi _ _ ha) (by rw[uh (K:=K) hf];exact hb) (.nil b));have wb:fw K (upd H2 l (.lst [])) U (σ++hv) Z b (.rt r (p++ [i])):=⟨g1,vr,d9,g2,DZ,D0,pb⟩
     refine⟨Ky I3 wb h6,SQ.s (f:=fv) I3 h5 λy5 H5 U5 I5 kZ s5=> ?_⟩;exact(I5.append (wb.step s5 kZ) h6 λv H6 U6 I6 D1=>k v H6 U6 I6 (fL.trans (kZ.trans D1))).2
    ·have hn:vs[i]?=none:=hn;rw[hb]at hn;cases hn
   ·rw[if_neg ci]at h;cases h
  |none=>
   obtain⟨dd,h5,h⟩:=aj.mp h;obtain⟨d1,h6,h⟩:=aj.mp h;by_cases cg:(aJ d1 p).isSome=true
   ·have h:(if(aJ d1 p).isSome=true then _ else none)=some (d,ρ'):=h;rw[if_pos cg]at h;obtain⟨dv,h7,h⟩:=aj.mp h;obtain⟨ρ2,h8,h⟩:=aX.mp h;cases h;refine⟨_,g,λv hv=>(nomatch hv),λ_=> ?_⟩;obtain⟨U3,I3,iZ⟩:=I2.push s3 oL;have KC:fw K (upd H2 l (.lst [])) U3 (σ++hv) Z (.ref a) (.rt r p):=(w1.same s2).step s3 iZ;obtain⟨a',u1,u2,e1,ha,hk,Uo,dp,U4,I4,gS⟩:=I3.Uk KC hr hg (w2.same s3) h5;cases e1;refine⟨_,dp, ?_⟩;obtain⟨g1,vr,_,g2,g3,g4,g5⟩:=KC;obtain⟨d9,DZ,D0⟩:=Kz h8;have pb:fV (upd (upd H2 l (.lst [])) a u2) vr (p++ [cs.length]) (.ref l):=(g5.grow ha hk).app (.cons gb (by rw[hk, <- Uo];simp) (.nil _));have wb:fw K (upd (upd H2 l (.lst [])) a u2) U4 (σ++hv) (gE Z r d0 p dd) (.ref l) (.rt r (p++ [cs.length])):=⟨by rw[qu];exact g1,vr,d9,g2,DZ,D0,pb⟩
    refine⟨Ky I4 wb h8,SQ.s (f:=fv) I4 h7 λy5 H5 U5 I5 kZ s5=> ?_⟩;have Up:bF U H U3 (upd H2 l (.lst [])):=(show bF U H U H2 from λb o q nu=>⟨(s1.trans s2) b o q,nu⟩).trans iZ;exact(I5.append (wb.step s5 kZ) h8 λv H6 U6 I6 D1=>k v H6 U6 I6 (Up.trans (gS.trans (kZ.trans D1)))).2
   ·have h:(if(aJ d1 p).isSome=true then _ else none)=some (d,ρ'):=h;rw[if_neg cg]at h;cases h⟩
end
noncomputable def je (n:Int) (ns:List Int):Int:=ns.foldl (λa b=>if b < a then b else a) n
theorem KD(n:Int)(ns:List Int):∀k,k<=ns.length->(n::ns).getD (argBest (λi j=>decide ((n::ns).getD i 0 < (n::ns).getD j 0)) k) 0=je n (ns.take k)
 |0,_=>rfl
 |k + 1,h=>by
  have ih:=KD n ns k (by lia);have e:ns.take (k + 1)=ns.take k++ [ns.getD k 0]:=by
   rw[List.take_add_one,gP (by lia)];simp[List.getD,gP (show k < ns.length by lia)]
  have e2:je n (ns.take (k + 1))=if ns.getD k 0 < je n (ns.take k) then ns.getD k 0 else je n (ns.take k):=by
   rw[e];unfold je;rw[List.foldl_append];rfl
  rw[e2,argBest, <- ih];simp only[decide_eq_true_eq]
  split
  ·next c=>exact(if_pos (show ns.getD k 0 < _ from c)).symm
  ·next c=>exact(if_neg (show ¬ ns.getD k 0 < _ from c)).symm
section
variable {X:Cx}
theorem Uq(hc:X.calm=true):i0 X (.builtin "min") (λxs H Q=>∃(a:Addr) (n:Int) (ns:List Int),xs= [.ref a]/\bW X.K H a ((n::ns).map V.int)/\Q (.int (je n ns)) H):=by
 intro aa s σ H xs us Q I r h;obtain⟨a,n,ns,rfl,hs,q⟩:=h;obtain⟨u,rfl,ru⟩:=vals1 r;cases ru;obtain⟨ax,rv,pl,hz⟩:=I.list hs;have hl:ax.length=ns.length + 1:=by rw[<- rv.length,eG];rfl
 refine call_min_walk ?_;refine Nc pl.isList ?_;have lt:a < s.heap.objs.size:=by obtain⟨o,n,e,_⟩:=pl;exact dR e
 have at_:∀(i:Nat) (v:Value),ax.toArray[i]?=some v->∃t,v=xX ((n::ns).getD i 0) t:=λi v hv=>by
  have i3:ax[i]?=some v:=by simpa using hv
  have hi:i < (n::ns).length:=by
   have:=(cb.mp i3).1;rw[eU]
   lia
  have hx:((n::ns).map V.int)[i]?=some (.int ((n::ns).getD i 0)):=by
   rw[du,gP hi];simp[List.getD,gP hi]
  obtain⟨u,hu,ru⟩:=rv.get hx;rw[i3]at hu;cases hu;exact ru
 refine⟨s.heap.objs.size,_,_,_,_,_,λi j=>decide ((n::ns).getD i 0 < (n::ns).getD j 0),rfl,Walks.list (A:=X.A.in1) (show X.A.in1.handled=none from I.ok.hd hc) _ a (fN lt) ax.toArray,⟨⟨_,iH _ rfl,rfl,rfl⟩,pl.isList.at λo e=>dN _ e⟩,λb hb=> ?_, ?_,CmpOf.ints_lt _ at_,λv h' tk hP hk=> ?_⟩
 ·rw[nk];rcases bx.mp hb with z | hb
  ·rw[z];exact Bp _
  ·rw[j8.mp hb];exact F6 lt
 ·rw[gI,hl];exact Ge _
 ·obtain⟨t,rfl⟩:=at_ _ v hP;rw[gI,hl,NP,KD n ns _ (bT _),NR];refine⟨.int (je n ns),H,I.kept (t':=tk) λb o eo=>hk b o ?_ (dN _ eo),⟨t,rfl⟩,q⟩;intro z;rw[j8.mp z]at eo;exact absurd (dR eo) (mx _)
def D2(K:ak):List V->Hp->VK->Prop:=λxs H Q=>∃(a:Addr) (n:Int) (ns:List Int),xs= [.ref a]/\bW K H a ((n::ns).map V.int)/\Q (.int (je n ns)) H
theorem Ur{X:Cx}(hc:X.calm=true):i0 X (.builtin "min") (D2 X.K):=Uq hc
def KG(i:Nat)(t:TS):TS:=λE σ H=>(∃a xs,σ[i]?=some (some (.ref a))/\H a=some (.lst xs)/\∀o,t E σ (upd H a (.gC o (.lst xs))))\/t E σ H
theorem Us{X:Cx}{st:Stmt}{t:TS}(i:Nat)(h:PS X st t):PS X st (KG i t):=by
 intro aa s σ H D I q;rcases q with⟨a,xs,_,e,q⟩ | q
 ·obtain⟨o,I2⟩:=VL.Inv.freeze I e;exact h aa s σ _ D I2 (q o)
 ·exact h aa s σ H D I q
end
section
variable {K:ak}{n:Nat}{H H' H1 H2:Hp}{U U':Addr->Prop}{σ hv:List (Option V)}{Z ρ':En}{af vs:List V}{ab ds:List D}{v y:V}{d:D}
def MY:List Int->Option D
 |n::ns=>some (.sc (.int (je n ns)))
 | []=>none
def uL:List D->Option D
 | [.nd .lst cs]=>(qY cs).bind MY
 |_=>none
instance abD:nX K (D2 K) uL:=⟨λ{H vs ds d Q} w h k=>by
 unfold uL at h
 split at h
 ·next cs=>
  obtain⟨bs,h1,h2⟩:=aj.mp h;cases bs with
  |nil=>cases h2
  |cons n ns=>
   cases h2;obtain⟨v,rfl,w1⟩:=w.one;obtain⟨a,us,rfl,_,hc,hl,bQ⟩:=w1.node;have e:=JX hl bQ h1;exact⟨a,n,ns,rfl,bW.of (by rw[<- e];exact hc.2),k _ H (aQ.refl H) (.sc _)⟩
 ·cases h⟩
def sE:D->D->Option D
 |.nd .lst [d], .sc (.int k)=>if plain d=true/\0<=k/\k < 1000 then some (.nd .lst (bK k.toNat d)) else none
 |_,_=>none
theorem KH(v:V):∀k:Nat,(bK k [v]).flatten=bK k v
 |0=>rfl
 |k + 1=>by rw[vt,Bu,KH v k];rfl
theorem Uu{d:D}(p:plain d=true)(k:Nat):bq (bK k d)=true:=nQ λe he=>by rw[(List.mem_replicate.mp he).2];exact p
instance abE:lr K HF sE:=⟨λ{H x y dx dy d Q} w1 w2 h k=>by
 unfold sE at h
 split at h
 ·next c kk=>
  by_cases cc:plain c=true/\0<=kk/\kk < 1000
  ·rw[if_pos cc]at h;cases h;obtain⟨a,us,rfl,_,hc,hl,bQ⟩:=w1.node
   match us,hl with
   | [u],_=>
    have hc:H a=some (.lst [u]):=hc.2;have wu:=bQ 0 u c rfl rfl;rw[w2.cq];refine⟨a,kk, [u],rfl,rfl,hc,by lia,by lia, ?_,λp hp=> ?_⟩
    ·have:kk.toNat<=1000:=by lia
     exact dC (show 1 * kk.toNat<=1000 by rw[Nat.one_mul];exact this) (by decide)
    ·rw[KH];have vl:cS K H T1 (bK kk.toNat u) (bK kk.toNat c):=⟨by simp,λi v d hv hd=>by
      rw[Br]at hv hd
      split at hv
      ·next e=>rw[if_pos e]at hd;cases hv;cases hd;exact wu
      ·cases hv⟩
     exact k _ _ (g9 hp _) (vl.own (k:= .lst) (Uu cc.1 _) hp (.inr ⟨rfl,trivial,0,rfl⟩))
  ·rw[if_neg cc]at h;cases h
 ·cases h⟩
def KI(i:Nat)(f:En->Option Fl)(Z:En):Option Fl:=match Z[i]? with
 |some (some (.own (.nd .lst cs)))=>if bq cs=true then f (Z.set i (some (.own (.nd .aA cs)))) else none
 |_=>none
instance abF{i:Nat}{t:TS}{f:En->Option Fl}[L:jV i n][A:SS K n t f]:SS K n (KG i t) (KI i f):=⟨λ{σ hv H U Z af ab fl E} I h k=>by
 unfold KI at h
 split at h
 ·next cs e=>
  by_cases p:bq cs=true
  ·rw[if_pos p]at h;have hi:i < Z.length:=(cb.mp e).1;have Uv:i < n:=L.h;have hj:(Z++ab.map λd=>some (B.own d))[i]?=some (some (.own (.nd .lst cs))):=by rw[aV hi];exact e
   obtain⟨a,vs,ev,ha,ua,ok⟩:=cz.freeze I.ok hj p
   left;refine⟨a,vs, ?_,ha,λo=> ?_⟩
   ·rw[cZ,aV (by rw[I.nn];exact Uv)]at ev;exact ev
   ·have zo:=ok o;rw[p9 _ _ hi,bI.symm]at zo;have st:bF U H (λb=>U b/\b≠a) (upd H a (.gC o (.lst vs))):=λb ob hb nu=>⟨by rw[bE λz=>nu (by rw[z];exact ua)];exact hb,λz=>nu z.1⟩
    refine A.s ⟨zo,by rw[bI];exact I.len,I.nn⟩ h ?_;cases fl with
    |nx ρ2=>exact λdq H3 U3 I3 s3=>k dq H3 U3 I3 (st.trans s3)
    |ct ρ2=>exact λdq H3 U3 I3 s3=>k dq H3 U3 I3 (st.trans s3)
    |bk ρ2=>exact λdq H3 U3 I3 s3=>k dq H3 U3 I3 (st.trans s3)
    |rt d ρ2=>exact λv dq H3 U3 I3 s3=>k v dq H3 U3 I3 (st.trans s3)
  ·rw[if_neg p]at h;cases h
 ·cases h⟩
instance (priority:=3000) abG{td tv ta:TE}{r0:V->Option Int->Option Int->Hp->VK->Prop}{lo hi:TO}{fv:En->Option (D×En)}{fp:En->Option Pl}{fy:En->Option D}[A:SM K n tv fv][P:SP K n td fp][Y:SV K n (vR r0 ta lo hi) fy]:SS K n (yI td (vR r0 ta lo hi) tv) (uF fv fp fy):=⟨λ{σ hv H U Z af ab fl E} I h k=>by
 obtain⟨⟨d,ρ1⟩,h1,h⟩:=aj.mp h;obtain⟨q,h2,h⟩:=aj.mp h;cases q with
 |ro _=>cases h
 |rt r p=>
  obtain⟨y,h5,h⟩:=aj.mp h;obtain⟨⟨d0,kk,cs⟩,h3,h⟩:=aj.mp h;obtain⟨d',h4,h⟩:=aX.mp h;subst h;obtain⟨hr,hg⟩:=mP h3;refine A.s I h1 λx H1 U1 I1 cT=> ?_;refine P.s I1 h2 λo H2 s2 w2=> ?_;have I2:=I1.same s2;refine Y.s I2 h5 λu H3 s3 w3=> ?_;have I3:=I2.same s3;have sf:=w2.same s3;have fL:bF U1 H1 U1 H3:=λb o q nu=>⟨(s2.trans s3) b o q,nu⟩
  unfold qH at h4
  split at h4
  ·next ks e=>
   have e:kk= .dk ks:=e;subst e;obtain⟨key,e1,g4⟩:=aj.mp h4;clear h4;unfold w9 at e1
   split at e1
   ·next ys=>
    obtain⟨b,us,rfl,_,hb,lq,bQ⟩:=w3.node;have xf:=ux lq bQ e1;have hb:H3 b=some (.tup us):=hb.2;rw[xf]at hb;by_cases c:cs.length < aN/\ks.Nodup
    ·rw[if_pos c]at g4;obtain⟨a,dx,vs,rfl,ha,hf,hl,_,ed⟩:=aB.edit (xs:= [x]) (ds:= [d]) I3 rfl sf hr hg rfl;have hf:ks.length=vs.length:=hf
     split at g4
     ·next i e2=>
      cases g4;have hi:i < vs.length:=by rw[<- hf];exact uw e2
      refine⟨a,_,rfl, .inr ⟨_,key,b,ha,rfl,hb,by rw[ny];lia,rfl⟩, ?_⟩;rw[DF e2 hf c.2];obtain⟨U4,I4,gS⟩:=ed (.dk ks) (vs.set i x) (cs.set i d) (λj=>if j=i then vs.length else j) rfl (by show ks.length=(vs.set i x).length;rw[bI];exact hf) (by rw[bI,bI];exact hl)
       (λx z hx hz=>wK hi x z (by rw[bI]at hx;exact hx) (by rw[bI]at hz;exact hz)) (nT hi) (by rw[hl];exact nT (by lia))
      exact k σ _ U4 I4 (cT.trans (fL.trans gS))
     ·next e2=>
      cases g4;refine⟨a,_,rfl, .inr ⟨_,key,b,ha,rfl,hb,by rw[ny];lia,rfl⟩, ?_⟩;rw[w6 e2 hf];obtain⟨U4,I4,gS⟩:=ed (.dk (ks++ [key])) (vs++ [x]) (cs++ [d]) id rfl (by show(ks++ [key]).length=_;simp;exact hf) (by simp;exact hl) (λx z _ _ h=>h) (λj x h=>h) λj x h=>h;exact k σ _ U4 I4 (cT.trans (fL.trans gS))
    ·rw[if_neg c]at g4;cases g4
   ·cases e1
  ·cases h4⟩
end
theorem Uw{X:Cx}{i:Nat}{x:Str}{keys:List (Option Expr)}{values:List Expr}{i5:List (TE×TE)}{p pos pos':Pos}(hN:X.N.Nodup)(hi:X.N[i]?=some x)(hx:Loc X.env.scope x)(h:uc X p keys values i5)(mM:keys.all (·.isSome)=true)(hl:keys.length=values.length)(h0:keys.isEmpty=false)(vZ:Nat.ble keys.length 15=true)
  (hs:sY (.Dict keys values p) (some (.Name x pos')) pos.line X.env=pure false) (hf:X.fn x=true\/X.env.scope.names.lookup x=some .local):PS X (.Assign [.Name x pos'] (.Dict keys values p) pos) (mG (yM i5) (kB i)):=G1 hN hi hx (TN h mM hl h0 vZ) hs hf
section
variable {X:Cx}{K:ak}
theorem Ax{elts:List Expr}{x1:Nat}{oX:Pos}{a:Expr}{ta:TA}{p pos:Pos}(hg:Gl X "enumerate")(hm:X.mg "enumerate"=none)(ha:PA X [a] ta)(hs:dB [a] X.env= [(false,eval a X.env)]:=by rfl)(hK:X.K=K:=by rfl):
  PI X (.Tuple elts x1 oX) (.Call (.Name "enumerate" p) [a] [] pos) (yP K ta):=hK▸QL hg hm ha hs
theorem KJ{elts:List Expr}{x1:Nat}{oX:Pos}{a b:Expr}{ta:TA}{p pos:Pos}(hg:Gl X "zip")(hm:X.mg "zip"=none)(ha:PA X [a,b] ta)(hs:dB [a,b] X.env=(false,eval a X.env)::dB [b] X.env:=by rfl)(cH:(backTo pos (dB [b] X.env)).any (·.1)=false:=by rfl)(hK:X.K=K:=by rfl):
  PI X (.Tuple elts x1 oX) (.Call (.Name "zip" p) [a,b] [] pos) (Av K ta):=hK▸T8 hg hm ha hs cH
theorem Ux{a:Expr}{ta:TE}(ha:PE X a ta)(he:∀whole,isTrue a X.env whole=(do let v <- whole;Bf a.pos;holding [v] (truthy v)))(hK:X.K=K:=by rfl):PT X a (DJ K ta):=hK▸To ha he
end
section
variable {K:ak}{n:Nat}{H H' H1 H2:Hp}{U U':Addr->Prop}{σ hv:List (Option V)}{Z ρ':En}{af vs:List V}{ab ds:List D}{v y:V}{d:D}
def sF(fp:En->Option Pl)(fy fx:En->Option D)(Z:En):Option D:=(fp Z).bind λ
 |.ro dd=>(fy Z).bind λy=>(fx Z).bind λx=>(bp dd y).bind λ
  |some i=>bM dd i
  |none=>some x
 |.rt _ _=>none
theorem KL{td ty tx:TE}{fp:En->Option Pl}{fy fx:En->Option D}[P:SP K n td fp][Y:SV K n ty fy][A:SQ K n tx fx]{Q:VK}(I:aB K n H U σ hv Z af ab)(h:sF fp fy fx Z=some d)(k:∀v H',aQ H H'->Vw K H' (λb=>¬ U b) v d->Q v H'):ud td ty tx σ H Q:=by
 obtain⟨q,h1,h⟩:=aj.mp h;cases q with
 |rt _ _=>cases h
 |ro dd=>
  obtain⟨yd,h2,h⟩:=aj.mp h;obtain⟨xd,h3,h⟩:=aj.mp h;obtain⟨o,h4,h⟩:=aj.mp h;refine P.s I h1 λv H1 s1 w1=> ?_;have w1:Vw K H1 (λb=>¬ U b) v dd:=w1;cases dd with
  |sc _=>simp[bp]at h4
  |hl _=>simp[bp]at h4
  |nd kk cs=>
   obtain⟨a,vs,rfl,_,hc,hl,bQ⟩:=w1.node;have I1:=I.same s1;refine⟨a,rfl,DE hc h4,Y.s I1 h2 λu H2 s2 w2=>A.o (I1.same s2) h3 λt H3 s3 o3=> ?_⟩;have w4:hV K H3 a kk vs:=hc.frame (λ_ o e=>(s2.trans s3) _ _ e) (fJ.of (s2.trans s3));have g:=w4.wQ hl (w2.same s3) h4;cases o with
   |none=>
    have h:some xd=some d:=h;cases h;exact⟨_,g,k t H3 (s1.trans (s2.trans s3)) (o3.out (I1.same s2).ok.mu)⟩
   |some i=>
    have h:cs[i]?=some d:=h;obtain⟨b,hb⟩:=lU hl h;have e:(some i).bind (vs[·]?)=some b:=hb;rw[e]at g;exact⟨_,g,k b H3 (s1.trans (s2.trans s3)) ((bQ i b d hb h).same (s2.trans s3))⟩
instance (priority:=3000) abH{td ty tx:TE}{fp:En->Option Pl}{fy fx:En->Option D}[P:SP K n td fp][Y:SV K n ty fy][A:SQ K n tx fx]:wZ K n (pH K (ud td ty tx)) (λZ=>(sF fp fy fx Z).bind jX):=⟨λ{σ hv H U Z af ab ds R} I h k=>by
 obtain⟨d,h1,h2⟩:=aj.mp h;exact KL I h1 λv H1 s1 w1=>DA w1 h2 λJ P wk p=>k J P H1 s1 wk p⟩
def uM(i:Nat)(fp:En->Option Pl)(fd fy fx gx:En->Option D)(Z:En):Option Fl:=(fp Z).bind λ
 |.ro _=>(sF fp fy fx Z).map λd=> .nx (aR i (.ro d) Z)
 |.rt _ _=>dP i (gu (mS fd fy gx)) Z
instance (priority:=3000) abI{i:Nat}{td ty tx:TE}{fp:En->Option Pl}{fd fy fx gx:En->Option D}[L:jV i n][P:SP K n td fp][D':SV K n td fd][Y:SV K n ty fy][A:SQ K n tx fx][X':SV K n tx gx]:SS K n (mG (ud td ty tx) (kB i)) (uM i fp fd fy fx gx):=⟨λ{σ hv H U Z af ab fl E} I h k=>by
 obtain⟨q,h1,h⟩:=aj.mp h;cases q with
 |ro dd=>
  obtain⟨d,h2,h⟩:=aX.mp h;subst h;exact KL I h2 λv H1 s1 w1=>k _ H1 U ((I.same s1).named L.h (β:= .ro d) w1) λb o q nu=>⟨s1 b o q,nu⟩
 |rt r p=>exact(show SS K n (mG (ud td ty tx) (kB i)) (dP i (gu (mS fd fy gx))) from inferInstance).s I h k⟩
end
section
variable {K:ak}{n:Nat}{H H' H1 H2:Hp}{v:V}
theorem dF.items{cs:List D}(o:dF K H H1 v (.nd .lst cs)):∃a vs,v= .ref a/\H1 a=some (.lst vs)/\iE K H H1 vs cs:=by
 obtain⟨G,r,fr⟩:=o;cases r with
 | @nd _ a _ vs _ Fs hold dM dj sub bQ=>
  obtain⟨_,_,_,dx,ha⟩:=hold;exact⟨a,vs,rfl,ha,dM,Fs,dj,λi b z=>fr b (sub i b z).1,bQ⟩
noncomputable def Uy (f:En->Option D) (Z:En):Option D:=(f Z).bind λ
 |.nd .lst cs=>some (.nd .tup cs)
 |_=>none
instance (priority:=3000) abJ{wi:TI}{g:TG}{tt:TT}{te:TE}{js:List (Option Nat)}{f:En->Option D}[A:SF K n (rU wi g tt te js) f]:SF K n (nH (uy K) (gq (rU wi g tt te js) gR)) (Uy f):=⟨λ{σ hv H U Z af ab d Q} I h k=>by
 obtain⟨d1,h1,h2⟩:=aj.mp h
 split at h2
 ·next cs=>
  cases h2;refine A.s I h1 λv H1 s1 o=> ?_;obtain⟨a,vs,rfl,ha,ol⟩:=o.items;exact⟨a,vs,rfl, .inl ⟨bW.of ha,λl hl=>k _ _ (s1.trans (g9 hl _)) (ol.node (k:= .tup) s1 hl (.inl ⟨rfl,rfl⟩))⟩⟩
 ·cases h2⟩
end
def uN(K:ak)(T:String):List V->Hp->VK->Prop:=λxs H Q=>zu K T xs H Q\/∃a vs b,xs= [.ref a, .ty T]/\ib K H a vs/\rh K (.type "list") (.type T)=some b/\Q (.bl b) H
theorem KN{X:Cx}{T:String}:i0 X (.builtin "isinstance") (uN X.K T):=by
 intro aa s σ H xs us Q I r h;rcases h with h | ⟨a,vs,b,rfl,fr,e,q⟩
 ·exact Dk aa s σ H xs us Q I r h
 ·rcases fr with⟨o,ea⟩ | ⟨o,ax,n,e1,e2,_⟩
  ·exact Dk aa s σ H _ us Q I r ⟨_,_,b,rfl, .gC ea,e,q⟩
  ·obtain⟨u,w',rfl,ru,rt⟩:=vals2 r;cases rt;cases(show u=fZ a from ru);exact nq Np I.g7 ⟨o,I.g7 a o e1,e2⟩ e (λz=>nomatch z) λtk=>⟨.bl b,H,I.tok tk,rfl,q⟩
section
variable {K:ak}
def qM(T:String):List D->Option D
 | [.nd .aA _, .sc (.ty T')]=>if T'=T/\T∈uz then some (.sc (.bl (Dw "list" T))) else none
 |ds=>qE T ds
instance abK{T:String}:nX K (uN K T) (qM T):=⟨λ{H vs ds d Q} w h k=>by
 unfold qM at h
 split at h
 ·next cs T'=>
  by_cases c:T'=T/\T∈uz
  ·rw[if_pos c]at h;cases h;obtain⟨v,u,rfl,w1,w2⟩:=w.two;rw[w2.cq,c.1];obtain⟨a,vs,rfl,_,hc,_⟩:=w1.node;exact .inr ⟨a,vs,_,rfl,hc.2,JM K "list" (by decide) T c.2,k _ H (aQ.refl H) (.sc _)⟩
  ·rw[if_neg c]at h;cases h
 ·exact .inl (S5.s w h k)⟩
end
end VL
set_option synthInstance.maxHeartbeats 1000000
set_option synthInstance.maxSize 4000
namespace K55
open PySem L2 VL
theorem hg:∀(M:D),aJ M []=some M:=λM=>by cases M <;> rfl
theorem abL:∀(M e:D),bf M [] e=e:=λM e=>by cases M <;> rfl
noncomputable def iV (i:Nat):Stmt:=PySem.Challenge.pw_farshelf_k55_the_first_fault.main.body.getD i (.Pass ⟨0,0,0,0⟩)
abbrev D3:Stmt:=iV 9
abbrev D4:Stmt:=iV 10
abbrev D5:Stmt:=iV 8
abbrev D6:Stmt:=iV 11
abbrev D7:Stmt:=iV 12
abbrev D8:Stmt:=iV 13
abbrev D9:Stmt:=iV 14
abbrev Ea:Stmt:=YI (iV 3) 0
abbrev Eb:Stmt:=iV 1
abbrev Ec:Stmt:=iV 5
abbrev Ed:Stmt:=iV 2
abbrev Ee:Stmt:=iV 4
abbrev Ef:Stmt:=iV 6
abbrev Eg:Stmt:=iV 15
abbrev Eh:Stmt:=iV 18
abbrev Ei:Stmt:=iV 16
abbrev Ej:Stmt:=iV 17
abbrev Ek:Stmt:=iV 19
abbrev El:Stmt:=iV 20
abbrev uO:Stmt:=iV 21
structure gm(mg:Str->Option Value):Prop where
 Em:mg "len"=none
 xj:mg "range"=none
 Uz:mg "list"=none
 Ay:mg "tuple"=none
 Eo:mg "int"=none
 KO:mg "max"=none
 UA:mg "min"=none
 abM:mg "all"=none
 abN:mg "any"=none
 Ep:mg "isinstance"=none
 abO:mg "str"=none
 abP:mg "bool"=none
 abQ:mg "dict"=none
 abR:mg "sorted"=none
 KP:mg "abs"=none
 Az:mg "enumerate"=none
 KQ:mg "zip"=none
theorem KR:gJ ["_law_cell","_law_k","_law_m"] ["_law_cell","_law_k"] (dZ D3):=iR
theorem AB:gJ ["_law_cell","_law_k","_law_number","_law_j"] ["_law_cell","_law_k"] (dZ D4):=iR
theorem UB:gJ ["_law_script","_law_k"] ["_law_script","_law_k"] (dZ D5):=iR
theorem KS:gJ ["_law_left_here","_law_many","_law_digit"] ["_law_left_here","_law_many"] (dZ D6):=iR
theorem UC:gJ ["_law_thing"] ["_law_thing"] (dZ D7):=iR
theorem xk:gJ ["_law_asks","_law_row_here","_law_request","_law_found","_law_deed","_law_part"] ["_law_asks","_law_row_here"] (dZ D8):=iR
theorem j2:gJ ["_law_story","_law_asks","_law_place","_law_row_here","_law_rows","_law_k","_law_file","_law_version_here","_law_content_here","_law_begin","_law_i","_law_one","_law_number","_law_text","_law_binds"] ["_law_story"] (dZ D9):=iR
theorem UD:gJ ["self"] ["self"] (dZ Ea):=iR
theorem UE:gJ ["row"] ["row"] (dZ Eb):=iR
theorem qN:gJ ["known","place","row","sight","ahead_of","found","other","version","hand","contents"] ["known","place","row"] (dZ Ec):=iR
theorem Er:gJ ["row","request","told","parts"] ["row","request"] (dZ Ed):=iR
theorem xl:gJ ["known","place","row","sight","asked","file","version"] ["known","place","row"] (dZ Ee):=iR
theorem xm:gJ ["story","known","place","row","found"] ["story"] (dZ Ef):=iR
theorem KU:gJ ["_law_left_here","_law_state","_law_file","_law_now"] ["_law_left_here","_law_state","_law_file"] (dZ Eg):=iR
theorem pN:gJ ["_law_left_here","_law_state","_law_h","_law_file","_law_contents","_law_deeds","_law_k","_law_deed","_law_some"] ["_law_left_here","_law_state","_law_h"] (dZ Eh):=iR
theorem UG:gJ ["_law_left_here","_law_state","_law_file","_law_version_here"] ["_law_left_here","_law_state","_law_file","_law_version_here"] (dZ Ei):=iR
theorem KW:gJ ["_law_left_here","_law_state","_law_file","_law_content_here","_law_version_here"] ["_law_left_here","_law_state","_law_file","_law_content_here"] (dZ Ej):=iR
theorem pO:gJ ["_law_left_here","_law_state","_law_request","_law_parts","_law_deed","_law_part","_law_file","_law_version_here"] ["_law_left_here","_law_state","_law_request"] (dZ Ek):=iR
theorem xn:gJ ["_law_left_here","_law_state","_law_h","_law_file","_law_version_here","_law_request"] ["_law_left_here","_law_state"] (dZ El):=iR
section
variable (P:Program)(w:World)(K:ak)(mg:Str->Option Value)(base:Heap)(C_Known:Addr)[dz K C_Known]
def Es: {g:oG K C_Known // ∀{P w mg base f fd},gr K "_law_mix" "_law_mix" D3 f fd->gm mg->dO P w K mg base eR 1 f fd ["_law_cell","_law_k"] (fW K 2 (b7 3 g))}:=⟨_,λF T=>og F KR λ_ _ _ _ _ _ hr=>(aZ (dt 2 KR.nd (d6 yy (d6 qf (d6 jd (d6 jd (d6 yy (pv 0) ay) (d6 qf (d6 qf (pv 1) (pv 1)) ay)) ay) ay) ay))
  (dI (d6 yy (d6 qf (pv 2) (pv 2)) ay)))⟩
def AD:List D->Option D:=b7 3 (Es K C_Known).1
abbrev UH:Prop:=gK P w K mg base "_law_mix" ["_law_cell","_law_k"] 1 (fW K 2 (AD K C_Known))
def Et: {g:oG K C_Known // ∀{P w mg base f fd},gr K "_law_left" "_law_left" D4 f fd->gm mg->UH P w K mg base C_Known->dO P w K mg base eR 2 f fd ["_law_cell","_law_k"] (fW K 2 (b7 4 g))}:=⟨_,λF T AE=>og F AB λ_ _ _ _ _ _ hr=>(aZ (dY (cQ OT (oY (r:=Am) Kq rfl T.KP Zl (fD (pv 0))) (d6 OS ay ay))
   (dI (fH (fD (oY (r:=Am) Kq rfl T.KP Zl (fD (pv 0)))))) d4)
  (aZ (dt 2 AB.nd ay)
  (aZ (ke kX rfl (vI rfl T.xj (fD ay)) (eS 3 AB.nd)
   (fj (dt 2 AB.nd (d6 jd (d6 qf (pv 2) ay) (cm AE hr rfl (aS (cm AE hr rfl (aS (pv 0) (d6 jd (d6 qf ay (pv 1)) (pv 3)))) (pv 3)))))))
  (dI (fH (fD (pv 2)))))))⟩
def pP:List D->Option D:=b7 4 (Et K C_Known).1
abbrev UI:Prop:=gK P w K mg base "_law_left" ["_law_cell","_law_k"] 2 (fW K 2 (pP K C_Known))
def AF: {g:oG K C_Known // ∀{P w mg base f fd},gr K "_law_cell_at" "_law_cell_at" D5 f fd->gm mg->dO P w K mg base eR 1 f fd ["_law_script","_law_k"] (fW K 2 (b7 2 g))}:=⟨_,λF T=>og F UB λ_ _ _ _ _ _ hr=>(aZ (dY (cQ B6 (pv 1) (pln T.Em (pv 0)))
   (dI (pxx hr (pv 0) (pv 1))) d4)
  (dI ay))⟩
def xp:List D->Option D:=b7 2 (AF K C_Known).1
abbrev UJ:Prop:=gK P w K mg base "_law_cell_at" ["_law_script","_law_k"] 1 (fW K 2 (xp K C_Known))
def Eu: {g:oG K C_Known // ∀{P w mg base f fd},gr K "_law_pick" "_law_pick" D6 f fd->gm mg->dO P w K mg base eR 1 f fd ["_law_left_here","_law_many"] (gy K [true,false] (gF 3 [true,false] g))}:=⟨_,λF T=>pL F KS λ_ _ _ _ _ _ hr=>(aZ (dt 2 KS.nd (d6 yy (pxx hr (pv 0) ay) (pv 1)))
  (aZ (vG (d6 Ie (pxx hr (pv 0) ay) (pv 1)) (yo (pv 0) ay Be))
  (dI (pv 2))))⟩
def gG:List D->Option (D×List D):=gF 3 [true,false] (Eu K C_Known).1
abbrev uP:Prop:=gK P w K mg base "_law_pick" ["_law_left_here","_law_many"] 1 (gy K [true,false] (gG K C_Known))
abbrev KY(K:ak)(C_Known:Addr)[dz K C_Known](Gs:List D->Option D):TS:=(yj (ym (tB (nH (uN K "list") (gq (iX 0) (gq (tC (.ty "list")) gR))))
   (rD (rU (pH K (iX 0)) (kB 0) yT (qg (fW K 1 Gs) [] E0 (gq (iX 0) gR)) [none])) yi)
  (yj (ym (tB (nH (uN K "tuple") (gq (iX 0) (gq (tC (.ty "tuple")) gR))))
   (rD (nH (uy K) (gq (rU (pH K (iX 0)) (kB 0) yT (qg (fW K 1 Gs) [] E0 (gq (iX 0) gR)) [none]) gR))) yi)
  (rD (iX 0))))
def xq(K:ak)(C_Known:Addr)[dz K C_Known](Gs:List D->Option D): {f:En->Option Fl // SS K 1 (KY K C_Known Gs) f}:=⟨_,inferInstance⟩
noncomputable def AG (K:ak) (C_Known:Addr) [dz K C_Known] (Gs:List D->Option D):En->Option Fl:=(xq K C_Known Gs).1
def gM(K:ak)(C_Known:Addr)[dz K C_Known]:Nat->List D->Option D
 |0=>λ_=>none
 |m + 1=>b7 1 (AG K C_Known (gM K C_Known m))
def uQ(K:ak)(C_Known:Addr)[dz K C_Known]:List D->Option D:=gM K C_Known 6
abbrev UK:Prop:=gK P w K mg base "_law_own" ["_law_thing"] 7 (fW K 1 (uQ K C_Known))
variable {P w K mg base C_Known} in
theorem KZ{f:Addr}{fd:jl}(F:gr K "_law_own" "_law_own" D7 f fd)(T:gm mg)(hb:L2.Binds K fd ["_law_thing"] [])(hm:mg "_law_own"=some (.ref f)):∀m:Nat,dO P w K mg base eR (1 + m) f fd ["_law_thing"] (fW K 1 (gM K C_Known m))
 |0=>Tq
 |j + 1=>by
  have uR:=gK.of F hb hm (KZ F T hb hm j);refine F.ok UC (λvs H Q E h=>JT h) (λdJ A outer s H vs Q E hr h=> ?_);exact⟨KY K C_Known (gM K C_Known j),(aZ (dY (yf (oY (r:=uN K "list") KN rfl T.Ep NY (bS (pv 0) (bS (BQ (v:= .ty "list") rfl T.Uz PyProof.Rows.boot_list rfl) g8))))
   (fj (yk (yX [none] ["_law_part"] rfl (uB trivial) (Dy (pv 0)) (λ_ _ _ _ _ _=>(BW (i:=0) JB rfl (tJ rfl))) (λ_ _ _ _ _ _=>yU) (λ_ _ _ _ _ _=>(cm uR hr rfl (bS (pv 0) g8) (bT _)))))) d4)
  (aZ (dY (yf (oY (r:=uN K "tuple") KN rfl T.Ep NY (bS (pv 0) (bS (BQ (v:= .ty "tuple") rfl T.Ay Gk rfl) g8))))
   (fj (yk (vQ (r:=(uy K)) JJ rfl T.Ay Gk (bS (yX [none] ["_law_part"] rfl (uB trivial) (Dy (pv 0)) (λ_ _ _ _ _ _=>(BW (i:=0) JB rfl (tJ rfl))) (λ_ _ _ _ _ _=>yU) (λ_ _ _ _ _ _=>(cm uR hr rfl (bS (pv 0) g8) (bT _)))) g8)))) d4)
  (fj (yk (pv 0))))),Jj (S:=(xq K C_Known (gM K C_Known j)).2) h (by decide)⟩
def sG: {g:oG K C_Known // ∀{P w mg base f fd},gr K "_law_tells" "_law_tells" D8 f fd->gm mg->dO P w K mg base eR 1 f fd ["_law_asks","_law_row_here"] (fW K 2 (b7 6 g))}:=⟨_,λF T=>og F xk λ_ _ _ _ _ _ hr=>(aZ (dY (cQ (eK hr.units) (pxx hr (pv 1) ay) aW)
   (dI (fH (fD (o4 (r:=kJ K) pJ (pv 1) (kj ay) Cg)))) d4)
  (aZ (dY (cQ (eK hr.units) (pxx hr (pv 1) ay) aW)
   (dI (fH g8)) d4)
  (aZ (dt 2 xk.nd (pxx hr (pxx hr (pv 0) (cU (aS (pxx hr (pv 1) ay) (pxx hr (pv 1) ay)))) ay))
  (aZ (dY (cQ (eK hr.units) (pxx hr (pxx hr (pv 1) ay) ay) aW)
   (dI (fH (fD (o4 (r:=kJ K) pJ (pxx hr (pv 1) ay) (kj ay) (kj ay))))) d4)
  (aZ (dY (cQ (eK hr.units) (pxx hr (pxx hr (pv 1) ay) ay) aW)
   (dI (fH (fD (cU (bS (pxx hr (pv 2) ay) (aS (pxx hr (pxx hr (pv 1) ay) ay) jn)))))) d4)
  (aZ (dt 3 xk.nd (fH g8))
  (aZ (dY (cQ (eK hr.units) (pxx hr (pxx hr (pv 1) ay) ay) aW)
   (fj (ke kX rfl (KJ rfl T.KQ (aS (pxx hr (pv 2) ay) (pxx hr (pxx hr (pv 1) ay) ay))) (lZ (K:=K) rfl (n:=2) rfl (gD (eS 4 xk.nd) (gD (eS 5 xk.nd) lM)))
   (fj (dY (PW.pt (kY (cQ (eK hr.units) (pxx hr (pv 4) ay) aW) (oS (cQ (eK hr.units) (pxx hr (pv 5) ay) aW))))
   (fj (oU (qZ (pv 3) (cU (bS (pxx hr (pv 4) ay) (aS (pxx hr (pv 5) ay) jn)))))) d4)))) d4)
  (dI (pv 3)))))))))⟩
def oh:List D->Option D:=b7 6 (sG K C_Known).1
abbrev UL:Prop:=gK P w K mg base "_law_tells" ["_law_asks","_law_row_here"] 1 (fW K 2 (oh K C_Known))
def Ew: {g:oG K C_Known // ∀{P w mg base f fd},gr K "_law_fault" "_law_fault" D9 f fd->gm mg->UL P w K mg base C_Known->dO P w K mg base eR 2 f fd ["_law_story"] (fW K 1 (b7 15 g))}:=⟨_,λF T Ey=>og F j2 λ_ _ _ _ _ _ hr=>(aZ (dt 1 j2.nd yJ)
  (aZ (ke kX rfl (Ax rfl T.Az (fD (pv 0))) (lZ (K:=K) rfl (n:=2) rfl (gD (eS 2 j2.nd) (gD (eS 3 j2.nd) lM)))
   (fj (dY (cQ (eK hr.units) (pxx hr (pv 3) ay) aW)
   (fj (t9 (i4 hr) (pv 1) (o4 (r:=kJ K) pJ (pv 3) (kj ay) (kj ay)) (cU (aS (pv 2) (pxx hr (pv 3) ay))) rfl)) d4)))
  (aZ (IE (k:=4) [none,some 1] ["_law_row_here","_law_asks"] rfl (uB ⟨⟨rfl,rfl, .inl rfl⟩,trivial⟩) j2.nd rfl (tJ rfl) (qI (pv 0)) (λ_ _ _ _ _ _=>(eS 0 (by decide +kernel:(["_law_row_here","_law_asks"]:List Str).Nodup))) (λ_ _ _ _ _ _=>yU) (λ_ _ _ _ _ _=>(cm Ey hr rfl (aS (pv 1) (pv 0)))))
  (aZ (ke kX rfl (Ax rfl T.Az (fD (pv 0))) (lZ (K:=K) rfl (n:=2) rfl (gD (eS 5 j2.nd) (gD (eS 3 j2.nd) lM)))
   (aZ (dY (PW.pt (yh (cQ (eK hr.units) (pxx hr (pv 3) ay) aW) (BS (PW.pt (kY (cQ (eK hr.units) (pxx hr (pv 3) ay) aW) (oS (cQ (one hr.units) (pxx hr (pxx hr (pv 3) ay) ay) aW)))))))
   (fj OG) d4)
  (aZ (vG (pxx hr (pxx hr (pv 4) (pv 5)) ay) (lZ (K:=K) rfl (n:=3) rfl (gD (eS 6 j2.nd) (gD (eS 7 j2.nd) (gD (eS 8 j2.nd) lM)))))
  (aZ (dt 9 j2.nd (GU (cQ (eK hr.units) (pxx hr (pv 3) ay) aW) (pv 5) (pxx hr (pxx hr (pv 1) (o4 (r:=kJ K) pJ (pv 3) (kj ay) (kj ay))) ay)))
  (fj (ke kX rfl (vI rfl T.xj (fD (pv 5))) (eS 10 j2.nd)
   (fj (ke kX rfl (qI (pxx hr (pv 4) (pv 10))) (lZ (K:=K) rfl (n:=3) rfl (gD (eS 11 j2.nd) (gD (eS 12 j2.nd) (gD (eS 13 j2.nd) lM))))
   (aZ (dt 14 j2.nd (OD (uG B6 (pv 10) (pv 9)) (GR (OE (uG zv (pv 13) jn) (GR (uG (eK hr.units) (pxx hr (pxx hr (pv 0) (pv 10)) ay) (pxx hr (pv 3) ay)))))))
  (aZ (dY (PW.pt (kY (cQ (eK hr.units) (pv 11) (pv 6)) (kY (cQ yz (pv 12) (pv 7)) (oS (yf (pv 14))))))
   (dI (cU (aS (pv 10) (pv 5)))) d4)
  (fj (dY (PW.pt (kY (cQ (eK hr.units) (pv 11) (pv 6)) (kY (cQ (eK hr.units) (pv 12) (pv 7)) (kY (cQ Ds (pv 13) jn) (oS (cQ (one hr.units) (pv 13) (pv 8)))))))
   (dI (cU (aS (pv 10) (pv 5)))) d4))))))))))))
  (dI jn)))))⟩
def uS:List D->Option D:=b7 15 (Ew K C_Known).1
abbrev UM:Prop:=gK P w K mg base "_law_fault" ["_law_story"] 2 (fW K 1 (uS K C_Known))
def Ez: {g:oG K C_Known // ∀{P w mg base f fd},gr K "__init__" "Known.__init__" Ea f fd->gm mg->dO P w K mg base eR 1 f fd ["self"] (gy K (true::bK 0 false) (gF 1 (true::bK 0 false) g))}:=⟨_,λF T=>pL F UD λ_ _ _ _ _ _ hr=>(aZ (DT (pv 0) yJ)
  (aZ (DT (pv 0) HY)
  (fj (DT (pv 0) yJ))))⟩
def xr:List D->Option (D×List D):=gF 1 (true::bK 0 false) (Ez K C_Known).1
abbrev UN:Prop:=DI P w K mg base "Known" C_Known ["self"] 1 (gy K (true::bK 0 false) (xr K C_Known))
def md: {g:oG K C_Known // ∀{P w mg base f fd},gr K "sight_of" "sight_of" Eb f fd->gm mg->dO P w K mg base eR 1 f fd ["row"] (fW K 1 (b7 1 g))}:=⟨_,λF T=>og F UE λ_ _ _ _ _ _ hr=>(aZ (dY (cQ (eK hr.units) (pxx hr (pv 0) ay) aW)
   (dI (o4 (r:=kJ K) pJ (pv 0) (kj ay) (kj ay))) d4)
  (aZ (dY (PW.pt (kY (cQ (eK hr.units) (pxx hr (pv 0) ay) aW) (oS (cQ (eK hr.units) (pxx hr (pxx hr (pv 0) ay) ay) aW))))
   (dI (o4 (r:=kJ K) pJ (pxx hr (pv 0) ay) (kj ay) (kj ay))) d4)
  (dI jn)))⟩
def kL:List D->Option D:=b7 1 (md K C_Known).1
abbrev K0:Prop:=gK P w K mg base "sight_of" ["row"] 1 (fW K 1 (kL K C_Known))
def AH: {g:oG K C_Known // ∀{P w mg base f fd},gr K "places_against" "places_against" Ec f fd->gm mg->K0 P w K mg base C_Known->dO P w K mg base eR 2 f fd ["known","place","row"] (fW K 3 (b7 10 g))}:=⟨_,λF T uT=>og F qN λ_ _ _ _ _ _ hr=>(aZ (dt 3 qN.nd (cm uT hr rfl (fD (pv 2))))
  (aZ (dY (cQ zv (pv 3) jn)
   (dI (fH g8)) d4)
  (aZ (dt 4 qN.nd (GU (cQ (eK hr.units) (pxx hr (pv 2) ay) aW) (pv 1) (pxx hr (rR (i4 hr) (qJ (pv 0)) (cU (aS (pxx hr (pv 2) ay) (pxx hr (pv 2) ay))) (cU (aS ay jn)) ⟨rfl,rfl,rfl,rfl⟩) ay)))
  (aZ (dt 5 qN.nd (fH g8))
  (aZ (ke kX rfl (qI (rR (i4 hr) (qJ (pv 0)) (pxx hr (pv 3) ay) (fH g8) ⟨rfl,rfl,rfl,rfl⟩)) (lZ (K:=K) rfl (n:=3) rfl (gD (eS 6 qN.nd) (gD (eS 7 qN.nd) (gD (eS 8 qN.nd) lM))))
   (fj (dY (PW.pt (kY (cQ B6 (pv 6) (pv 4)) (kY (cQ yz (pv 7) (pxx hr (pv 3) ay)) (oS (B7 (Ki (i4 hr)) (pv 8) (cU (aS jn (pxx hr (pv 2) ay))) (by with_unfolding_all rfl))))))
   (fj (oU (qZ (pv 5) (pv 6)))) d4)))
  (aZ (dt 9 qN.nd (rR (i4 hr) (qJ (pv 0)) (cU (aS (pxx hr (pv 3) ay) (pxx hr (pv 3) ay))) (fH g8) ⟨rfl,rfl,rfl,rfl⟩))
  (dI (d6 jd (pv 5) (yX [none,none,some 3] ["other","content","sight"] rfl (uB ⟨⟨rfl,rfl, .inl rfl⟩,trivial⟩) (qI (pv 9)) (λ_ _ _ _ _ _=>(lZ (K:=K) rfl (n:=2) rfl (gD (eS 0 (by decide +kernel:(["other","content","sight"]:List Str).Nodup)) (gD (eS 1 (by decide +kernel:(["other","content","sight"]:List Str).Nodup)) lM)))) (λ_ _ _ _ _ _=>(Ir (cQ (one hr.units) (pv 1) (pxx hr (pv 2) ay)))) (λ_ _ _ _ _ _=>(pv 0)))))))))))⟩
def sH:List D->Option D:=b7 10 (AH K C_Known).1
abbrev UO:Prop:=gK P w K mg base "places_against" ["known","place","row"] 2 (fW K 3 (sH K C_Known))
def jC: {g:oG K C_Known // ∀{P w mg base f fd},gr K "puts_of" "puts_of" Ed f fd->gm mg->dO P w K mg base eR 1 f fd ["row","request"] (fW K 2 (b7 4 g))}:=⟨_,λF T=>og F Er λ_ _ _ _ _ _ hr=>(aZ (dY (PW.pt (yh (cQ (one hr.units) (pxx hr (pv 0) ay) aW) (BS (cQ zv (pv 1) jn))))
   (dI (fH g8)) d4)
  (aZ (dt 2 Er.nd (pxx hr (pv 0) ay))
  (aZ (dY (cQ (eK hr.units) (pxx hr (pv 2) ay) aW)
   (dI (fH (fD (cU (aS (pxx hr (pv 1) ay) (pxx hr (pv 2) ay)))))) d4)
  (aZ (dY (cQ (one hr.units) (pxx hr (pv 2) ay) aW)
   (dI (fH g8)) d4)
  (aZ (IE (k:=3) [none,none] ["deed","part"] rfl (uB trivial) Er.nd rfl (tJ rfl) (KJ rfl T.KQ (aS (pxx hr (pv 1) ay) (pxx hr (pv 2) ay))) (λ_ _ _ _ _ _=>(lZ (K:=K) rfl (n:=2) rfl (gD (eS 0 (by decide +kernel:(["deed","part"]:List Str).Nodup)) (gD (eS 1 (by decide +kernel:(["deed","part"]:List Str).Nodup)) lM)))) (λ_ _ _ _ _ _=>(Ir (PW.pt (kY (cQ (eK hr.units) (pxx hr (pv 0) ay) aW) (oS (cQ (eK hr.units) (pxx hr (pv 1) ay) aW)))))) (λ_ _ _ _ _ _=>(cU (aS (pv 0) (pv 1)))))
  (dI (yX [none,none] ["deed","part"] rfl (uB trivial) (qI (pv 3)) (λ_ _ _ _ _ _=>(lZ (K:=K) rfl (n:=2) rfl (gD (eS 0 (by decide +kernel:(["deed","part"]:List Str).Nodup)) (gD (eS 1 (by decide +kernel:(["deed","part"]:List Str).Nodup)) lM)))) (λ_ _ _ _ _ _=>yU) (λ_ _ _ _ _ _=>(cU (aS (pxx hr (pv 0) ay) (pxx hr (pv 1) ay)))))))))))⟩
def jf:List D->Option D:=b7 4 (jC K C_Known).1
abbrev UP:Prop:=gK P w K mg base "puts_of" ["row","request"] 1 (fW K 2 (jf K C_Known))
def AI: {g:oG K C_Known // ∀{P w mg base f fd},gr K "learn" "learn" Ee f fd->gm mg->K0 P w K mg base C_Known->UP P w K mg base C_Known->dO P w K mg base eR 2 f fd ["known","place","row"] (gy K [true,false,false] (gF 7 [true,false,false] g))}:=⟨_,λF T uT EA=>pL F xl λ_ _ _ _ _ _ hr=>(aZ (dY (cQ (eK hr.units) (pxx hr (pv 2) ay) aW)
   (aZ (t9 (i4 hr) (qJ (pv 0)) (cU (aS (pxx hr (pv 2) ay) (pxx hr (pv 2) ay))) (cU (aS (pv 1) (pxx hr (pv 2) ay))) rfl)
  (fj OH)) d4)
  (aZ (dt 3 xl.nd (cm uT hr rfl (fD (pv 2))))
  (aZ (dY (cQ Ds (pv 3) jn)
   (aZ (oU (qZ (DY (i4 hr) (qJ (pv 0)) (pxx hr (pv 3) ay) (fH g8) ⟨rfl,rfl,rfl,rfl⟩) (cU (bS (pv 1) (aS (pxx hr (pv 3) ay) (pxx hr (pv 2) ay))))))
  (fj (oU (qZ (DY (i4 hr) (qJ (pv 0)) (cU (aS (pxx hr (pv 3) ay) (pxx hr (pv 3) ay))) (fH g8) ⟨rfl,rfl,rfl,rfl⟩) (cU (aS (pv 1) (pxx hr (pv 3) ay))))))) d4)
  (aZ (dt 4 xl.nd (rR (i4 hr) (qJ (pv 0)) (cU (aS (pxx hr (pv 2) ay) (pxx hr (pv 2) ay))) (cU (aS ay jn)) ⟨rfl,rfl,rfl,rfl⟩))
  (fj (ke kX rfl (qI (cm EA hr rfl (aS (pv 2) (pxx hr (pv 4) ay)))) (lZ (K:=K) rfl (n:=2) rfl (gD (eS 5 xl.nd) (gD (eS 6 xl.nd) lM)))
   (fj (oU (qZ (DY (i4 hr) (qJ (pv 0)) (pv 5) (fH g8) ⟨rfl,rfl,rfl,rfl⟩) (cU (bS (pv 1) (aS (pv 6) jn))))))))))))⟩
def qO:List D->Option (D×List D):=gF 7 [true,false,false] (AI K C_Known).1
abbrev UQ:Prop:=gK P w K mg base "learn" ["known","place","row"] 2 (gy K [true,false,false] (qO K C_Known))
def EB: {g:oG K C_Known // ∀{P w mg base f fd},gr K "story_fault" "story_fault" Ef f fd->gm mg->UN P w K mg base C_Known->UO P w K mg base C_Known->UQ P w K mg base C_Known->dO P w K mg base eR 3 f fd ["story"] (fW K 1 (b7 5 g))}:=⟨_,λF T EC ED EE=>og F xm λ_ _ _ _ _ _ hr=>(aZ (dt 1 xm.nd (Tj EC hr rfl))
  (aZ (ke kX rfl (Ax rfl T.Az (fD (pv 0))) (lZ (K:=K) rfl (n:=2) rfl (gD (eS 2 xm.nd) (gD (eS 3 xm.nd) lM)))
   (aZ (dt 4 xm.nd (cm ED hr rfl (bS (pv 1) (aS (pv 2) (pv 3)))))
  (aZ (dY (Ux (pv 4) (by intro _;rfl))
   (dI (cU (aS (oY (r:=(D2 K)) (Ur rfl) rfl T.UA PyProof.Rows.boot_min (fD (pv 4))) (pv 2)))) d4)
  (fj (oU (cm EE hr rfl (bS (pv 1) (aS (pv 2) (pv 3)))))))))
  (dI jn)))⟩
def xt:List D->Option D:=b7 5 (EB K C_Known).1
abbrev UR:Prop:=gK P w K mg base "story_fault" ["story"] 3 (fW K 1 (xt K C_Known))
def EF: {g:oG K C_Known // ∀{P w mg base f fd},gr K "_law_version" "_law_version" Eg f fd->gm mg->uP P w K mg base C_Known->dO P w K mg base eR 3 f fd ["_law_left_here","_law_state","_law_file"] (gy K [true,false,false] (gF 4 [true,false,false] g))}:=⟨_,λF T dE=>pL F KU λ_ _ _ _ _ _ hr=>(aZ (dt 3 KU.nd (rR (i4 hr) (pxx hr (pv 1) aW) (pv 2) ay ⟨rfl,rfl,rfl,rfl⟩))
  (aZ (dY (cQ (eK hr.units) (cm dE hr rfl (aS (pv 0) (pxx hr (pv 1) aW))) ay)
   (dI (oY (r:=zz) (JK rfl) rfl T.KO Zm (aS ay (d6 OR (d6 jd (pv 3) (cm dE hr rfl (aS (pv 0) ay))) ay)))) d4)
  (dI (pv 3))))⟩
def uU:List D->Option (D×List D):=gF 4 [true,false,false] (EF K C_Known).1
abbrev EG:Prop:=gK P w K mg base "_law_version" ["_law_left_here","_law_state","_law_file"] 3 (gy K [true,false,false] (uU K C_Known))
def EH: {g:oG K C_Known // ∀{P w mg base f fd},gr K "_law_ask" "_law_ask" Eh f fd->gm mg->uP P w K mg base C_Known->dO P w K mg base eR 2 f fd ["_law_left_here","_law_state","_law_h"] (gy K [true,true,false] (gF 9 [true,true,false] g))}:=⟨_,λF T dE=>pL F pN λ_ _ _ _ _ _ hr=>(aZ (dt 3 pN.nd (d6 jd ay (cm dE hr rfl (aS (pv 0) (pxx hr (pv 1) aW)))))
  (aZ (dt 4 pN.nd (fH (bS aW (bS aW (aS aW aW)))))
  (aZ (dt 5 pN.nd (fH g8))
  (aZ (ke kX rfl (vI rfl T.xj (fD (cm dE hr rfl (aS (pv 0) ay)))) (eS 6 pN.nd)
   (aZ (dt 7 pN.nd (cU (bS aW (bS ay (aS aW (pxx hr (pv 4) (cm dE hr rfl (aS (pv 0) ay))))))))
  (aZ (dY (cQ yz (cm dE hr rfl (aS (pv 0) ay)) ay)
   (fj (dt 7 pN.nd (cU (bS aW (bS (d6 jd ay (cm dE hr rfl (aS (pv 0) (pxx hr (pv 1) aW)))) (aS (cm dE hr rfl (aS (pv 0) ay)) (pxx hr (pv 4) (cm dE hr rfl (aS (pv 0) ay))))))))) d4)
  (fj (oU (qZ (pv 5) (pv 7)))))))
  (aZ (dt 8 pN.nd (fH (bS (cU (aS aW (pv 3))) (aS (cU (aS aW aW)) (cU (bS aW (bS (pv 3) (aS (cm dE hr rfl (aS (pv 0) ay)) (pxx hr (pv 4) (cm dE hr rfl (aS (pv 0) ay)))))))))))
  (aZ (dt 8 pN.nd (d6 jd (pv 8) (fH (bS (cU (aS aW (TX T.Ay (pv 5)))) (bS (cU (fD aW)) (aS (cU (aS aW (pv 3))) (cU (fD aW))))))))
  (aZ (vG (pxx hr (pv 8) (cm dE hr rfl (aS (pv 0) ay))) (yo (pxx hr (pv 1) aW) (pv 2) Be))
  (aZ (vG (d6 jd (pxx hr (pxx hr (pv 1) aW) (pv 2)) ay) (yo (pxx hr (pv 1) aW) (pv 2) Be))
  (dI (cU (bS aW (bS (pv 2) (aS (pxx hr (pxx hr (pv 1) aW) (pv 2)) (pxx hr (pxx hr (pv 1) aW) (pv 2)))))))))))))))⟩
def AJ:List D->Option (D×List D):=gF 9 [true,true,false] (EH K C_Known).1
abbrev US:Prop:=gK P w K mg base "_law_ask" ["_law_left_here","_law_state","_law_h"] 2 (gy K [true,true,false] (AJ K C_Known))
def EI: {g:oG K C_Known // ∀{P w mg base f fd},gr K "_law_content" "_law_content" Ei f fd->gm mg->uP P w K mg base C_Known->dO P w K mg base eR 2 f fd ["_law_left_here","_law_state","_law_file","_law_version_here"] (gy K [true,false,false,false] (gF 4 [true,false,false,false] g))}:=⟨_,λF T dE=>pL F UG λ_ _ _ _ _ _ hr=>(aZ (dY (cQ (eK hr.units) (cm dE hr rfl (aS (pv 0) (pxx hr (pv 1) aW))) ay)
   (dI (pxx hr (fH (bS aW (aS aW aW))) (cm dE hr rfl (aS (pv 0) ay)))) d4)
  (dI (rR (i4 hr) (pxx hr (pv 1) aW) (cU (aS (pv 2) (pv 3))) aW ⟨rfl,rfl,rfl,rfl⟩)))⟩
def xu:List D->Option (D×List D):=gF 4 [true,false,false,false] (EI K C_Known).1
abbrev K5:Prop:=gK P w K mg base "_law_content" ["_law_left_here","_law_state","_law_file","_law_version_here"] 2 (gy K [true,false,false,false] (xu K C_Known))
def EJ: {g:oG K C_Known // ∀{P w mg base f fd},gr K "_law_put" "_law_put" Ej f fd->gm mg->EG P w K mg base C_Known->dO P w K mg base eR 5 f fd ["_law_left_here","_law_state","_law_file","_law_content_here"] (gy K [true,true,false,false] (gF 5 [true,true,false,false] g))}:=⟨_,λF T pQ=>pL F KW λ_ _ _ _ _ _ hr=>(aZ (dt 4 KW.nd (d6 jd (cm pQ hr rfl (bS (pv 0) (aS (pv 1) (pv 2)))) ay))
  (aZ (t9 (i4 hr) (pxx hr (pv 1) aW) (pv 2) (oY (r:=zz) (JK rfl) rfl T.KO Zm (aS (pv 4) (rR (i4 hr) (pxx hr (pv 1) aW) (pv 2) ay ⟨rfl,rfl,rfl,rfl⟩))) rfl)
  (aZ (t9 (i4 hr) (pxx hr (pv 1) aW) (cU (aS (pv 2) (pv 4))) (pv 3) rfl)
  (dI (pv 4)))))⟩
def xv:List D->Option (D×List D):=gF 5 [true,true,false,false] (EJ K C_Known).1
abbrev UT:Prop:=gK P w K mg base "_law_put" ["_law_left_here","_law_state","_law_file","_law_content_here"] 5 (gy K [true,true,false,false] (xv K C_Known))
def EK: {g:oG K C_Known // ∀{P w mg base f fd},gr K "_law_answer" "_law_answer" Ek f fd->gm mg->uP P w K mg base C_Known->UT P w K mg base C_Known->EG P w K mg base C_Known->K5 P w K mg base C_Known->dO P w K mg base eR 6 f fd ["_law_left_here","_law_state","_law_request"] (gy K [true,true,false] (gF 8 [true,true,false] g))}:=⟨_,λF T dE AK pQ uV=>pL F pO λ_ _ _ _ _ _ hr=>(aZ (dY (cQ (eK hr.units) (cm dE hr rfl (aS (pv 0) ay)) ay)
   (dI (pxx hr (fH (bS (cU (fD aW)) (aS (cU (aS aW aW)) (cU (aS aW aW))))) (cm dE hr rfl (aS (pv 0) ay)))) d4)
  (aZ (dY (cQ (eK hr.units) (pxx hr (pv 2) ay) aW)
   (dI (cU (bS aW (aS (cm AK hr rfl (bS (pv 0) (bS (pv 1) (aS (pxx hr (pv 2) ay) (pxx hr (pv 2) ay))))) (cm dE hr rfl (aS (pv 0) ay)))))) d4)
  (aZ (dY (cQ (eK hr.units) (pxx hr (pv 2) ay) aW)
   (aZ (dt 3 pO.nd (fH g8))
  (aZ (ke kX rfl (qI (pxx hr (pv 2) ay)) (eS 4 pO.nd)
   (aZ (dt 5 pO.nd (cU (bS aW (aS ay aW))))
  (aZ (dY (PW.pt (kY (cQ yz (cm dE hr rfl (aS (pv 0) ay)) ay) (oS (cQ (eK hr.units) (pxx hr (pv 4) ay) aW))))
   (fj (dt 5 pO.nd (cU (aS aW (cm AK hr rfl (bS (pv 0) (bS (pv 1) (aS (pxx hr (pv 4) ay) (pxx hr (pv 4) ay))))))))) (fj (dY (cQ (eK hr.units) (pxx hr (pv 4) ay) aW)
   (fj (dt 5 pO.nd (pxx hr (fH (aS (cU (aS aW ay)) (cU (aS aW aW)))) (cm dE hr rfl (aS (pv 0) ay))))) d4)))
  (fj (oU (qZ (pv 3) (pv 5)))))))
  (dI (cU (aS aW (Kf (pv 3))))))) d4)
  (aZ (dY (B7 (Ki (i4 hr)) (pxx hr (pv 2) ay) (cU (aS aW aW)) (by with_unfolding_all rfl))
   (dI (pxx hr (fH (aS (cU (fD aW)) (cU (fD aW)))) (vQ (r:=wV) Du rfl T.Eo NZ (fD (uG (eK hr.units) (pxx hr (pv 2) ay) aW))))) d4)
  (aZ (dt 6 pO.nd (pxx hr (pv 2) ay))
  (aZ (dY (cQ (eK hr.units) (pxx hr (pv 2) ay) aW)
   (aZ (dt 6 pO.nd (d6 jd ay (cm dE hr rfl (aS (pv 0) (pxx hr (pv 1) aW)))))
  (fj (dY (cQ (eK hr.units) (cm dE hr rfl (aS (pv 0) ay)) ay)
   (dI (cU (bS aW (aS ay (Kf (fH (aS aW aW))))))) d4))) d4)
  (aZ (dt 7 pO.nd (cm pQ hr rfl (bS (pv 0) (aS (pv 1) (pv 6)))))
  (dI (cU (bS aW (bS (pv 6) (bS (pv 7) (aS (cm uV hr rfl (bS (pv 0) (bS (pv 1) (aS (pv 6) (pv 7))))) (cm dE hr rfl (aS (pv 0) ay)))))))))))))))⟩
def AL:List D->Option (D×List D):=gF 8 [true,true,false] (EK K C_Known).1
abbrev UU:Prop:=gK P w K mg base "_law_answer" ["_law_left_here","_law_state","_law_request"] 6 (gy K [true,true,false] (AL K C_Known))
def EL: {g:oG K C_Known // ∀{P w mg base f fd},gr K "_law_row" "_law_row" El f fd->gm mg->uP P w K mg base C_Known->EG P w K mg base C_Known->K5 P w K mg base C_Known->US P w K mg base C_Known->UU P w K mg base C_Known->dO P w K mg base eR 7 f fd ["_law_left_here","_law_state"] (gy K [true,true] (gF 6 [true,true] g))}:=⟨_,λF T dE pQ uV EM EN=>pL F xn λ_ _ _ _ _ _ hr=>(aZ (dt 2 xn.nd (cm dE hr rfl (aS (pv 0) (pln T.Em (pxx hr (pv 1) aW)))))
  (aZ (dY (cQ (eK hr.units) (cm dE hr rfl (aS (pv 0) ay)) ay)
   (aZ (dt 3 xn.nd (d6 jd ay (cm dE hr rfl (aS (pv 0) (pxx hr (pv 1) aW)))))
  (aZ (dt 4 xn.nd (cm pQ hr rfl (bS (pv 0) (aS (pv 1) (pv 3)))))
  (dI (cU (bS aW (bS (pv 2) (bS (pv 3) (aS (pv 4) (cm uV hr rfl (bS (pv 0) (bS (pv 1) (aS (pv 3) (pv 4))))))))))))) d4)
  (aZ (dY (cQ zv (pxx hr (pxx hr (pv 1) aW) (pv 2)) jn)
   (dI (cm EM hr rfl (bS (pv 0) (aS (pv 1) (pv 2))))) d4)
  (aZ (dt 5 xn.nd (pxx hr (pxx hr (pv 1) aW) (pv 2)))
  (aZ (vG jn (yo (pxx hr (pv 1) aW) (pv 2) Be))
  (dI (cU (bS aW (bS (pv 2) (aS (pxx hr (pxx hr (pv 1) aW) (pv 2)) (cm EN hr rfl (bS (pv 0) (aS (pv 1) (pv 5))))))))))))))⟩
def pR:List D->Option (D×List D):=gF 6 [true,true] (EL K C_Known).1
abbrev UW:Prop:=gK P w K mg base "_law_row" ["_law_left_here","_law_state"] 7 (gy K [true,true] (pR K C_Known))
end
end K55
namespace SF
open PySem L2 VL
inductive jD where | make(c:Str) | di(f v:Int)(c:Str)
inductive bw where | iz(f:Int) | iF | di(f v:Int)(c:Str) | join(ds:List jD) | look | begin
inductive jP where | me | put(v:Int) | made | refused
inductive mf where | ended | refused(w:Str) | di(v x:Int) | joined(ps:List jP) | ok | begun | folder | file(f v:Int)(c:Str)(x:Int)
inductive Row where | eE(h f v:Int)(c:Str) | ask(h n:Int)(q:bw) | told(h n:Int)(a:mf)
noncomputable def tp (ds:List D):D:= .nd .tup ds
def br:jD->D
 |.make c=>tp [sD "make",iD 0,sD "n",sD c]
 |.di f v c=>tp [sD "shut",iD f,iD v,sD c]
def bj:bw->D
 |.iz f=>tp [sD "see",iD f]
 |.iF=>tp [sD "open",sD "/a"]
 |.di f v c=>tp [sD "shut",iD f,iD v,sD c]
 |.join ds=>tp [sD "join",tp (ds.map br)]
 |.look=>tp [sD "look"]
 |.begin=>tp [sD "begin"]
def cB:jP->D
 |.me=>tp [sD "clash",iD 9,sD "stale"]
 |.put v=>tp [sD "put",iD v]
 |.made=>tp [sD "made",iD 8]
 |.refused=>tp [sD "refused",sD "there"]
def cx(k:Kd):mf->D
 |.ended=>tp [sD "ended"]
 |.refused w=>tp [sD "refused",sD w]
 |.di v x=>tp [sD "shut",iD v,iD x]
 |.joined ps=>tp [sD "joined", .nd k (ps.map cB)]
 |.ok=>tp [sD "ok"]
 |.begun=>tp [sD "begun"]
 |.folder=>tp [sD "folder",iD 0, .nd k [sD "a",sD "clash"]]
 |.file f v c x=>tp [sD "file",iD f,iD v,sD c,iD x]
def av(k:Kd):Row->D
 |.eE h f v c=>tp [sD "saw",iD h,iD f,iD v,sD c]
 |.ask h n q=>tp [sD "ask",iD h,iD n,bj q]
 |.told h n a=>tp [sD "told",iD h,iD n,cx k a]
noncomputable def dm:Row->Option (Int×Int×Str)
 |.eE _ f v c=>some (f,v,c)
 |.told _ _ (.file f v c _)=>some (f,v,c)
 |_=>none
def gi(r:Row):D:=match dm r with
 |some (f,v,c)=>tp [iD f,iD v,sD c]
 |none=> .sc .az
noncomputable def iS:jD->Bool
 |.di ..=>true
 |_=>false
noncomputable def jg:jP->Bool
 |.put _=>true
 |_=>false
noncomputable def qP:jD->Int
 |.di f _ _=>f
 |_=>0
noncomputable def qQ:jP->Int
 |.put v=>v
 |_=>0
def cC:Row->Option bw->List (Int×Int)
 |.told _ _ (.di v _),some (.di f _ _)=> [(f,v)]
 |.told _ _ (.joined ps),some (.join ds)=>((ds.zip ps).filter λx=>iS x.1 && jg x.2).map λx=>(qP x.1,qQ x.2)
 |_,_=> []
def oA:Row->Option bw->Prop
 |.told _ _ (.di _ _),q=>∃f v c,q=some (.di f v c)
 |.told _ _ (.joined _),q=>∃ds,q=some (.join ds)/\ds.length < 10
 |_,_=>True
def dn:Option bw->D
 |some q=>bj q
 |none=> .sc .az
theorem zip_map:∀(ds:List jD) (ps:List jP),j1 (ds.map br) (ps.map cB)=(ds.zip ps).map λx=>tp [br x.1,cB x.2]
 | [],_=>rfl
 |_::_, []=>rfl
 |d::ds,p::ps=>by simp[j1,zip_map ds ps,tp]
theorem xw(d:jD):VL.plain (br d)=true:=by cases d <;> rfl
theorem xx(p:jP):VL.plain (cB p)=true:=by cases p <;> rfl
theorem cR(c d:Str)(b:Bool)(hc:dU c=true:=by decide +kernel)(hd:dU d=true:=by decide +kernel)(h:decide (c=d)=b:=by decide +kernel):aF id (.sc (.str c)) (.sc (.str d))=some (.sc (.bl b)):=by rw[Tu c d hc hd,h]
theorem jE(c d:Str)(b:Bool)(hc:dU c=true:=by decide +kernel)(hd:dU d=true:=by decide +kernel)(h:decide (c≠d)=b:=by decide +kernel):aF (!·) (.sc (.str c)) (.sc (.str d))=some (.sc (.bl b)):=by rw[DM c d hc hd,h]
theorem AM:aF id (.sc (.str "saw")) (.sc (.str "saw"))=some (.sc (.bl true)):=cR _ _ _
theorem EO:aF id (.sc (.str "saw")) (.sc (.str "ask"))=some (.sc (.bl false)):=cR _ _ _
theorem UX:aF id (.sc (.str "saw")) (.sc (.str "told"))=some (.sc (.bl false)):=cR _ _ _
theorem UY:aF (!·) (.sc (.str "saw")) (.sc (.str "told"))=some (.sc (.bl true)):=jE _ _ _
theorem K6:aF id (.sc (.str "ask")) (.sc (.str "saw"))=some (.sc (.bl false)):=cR _ _ _
theorem AN:aF id (.sc (.str "ask")) (.sc (.str "ask"))=some (.sc (.bl true)):=cR _ _ _
theorem UZ:aF id (.sc (.str "ask")) (.sc (.str "told"))=some (.sc (.bl false)):=cR _ _ _
theorem U0:aF (!·) (.sc (.str "ask")) (.sc (.str "told"))=some (.sc (.bl true)):=jE _ _ _
theorem mT:aF id (.sc (.str "told")) (.sc (.str "saw"))=some (.sc (.bl false)):=cR _ _ _
theorem AO:aF id (.sc (.str "told")) (.sc (.str "ask"))=some (.sc (.bl false)):=cR _ _ _
theorem pS:aF id (.sc (.str "told")) (.sc (.str "told"))=some (.sc (.bl true)):=cR _ _ _
theorem kM:aF (!·) (.sc (.str "told")) (.sc (.str "told"))=some (.sc (.bl false)):=jE _ _ _
theorem K7:aF id (.sc (.str "ended")) (.sc (.str "file"))=some (.sc (.bl false)):=cR _ _ _
theorem U7:aF (!·) (.sc (.str "ended")) (.sc (.str "file"))=some (.sc (.bl true)):=jE _ _ _
theorem K8:aF id (.sc (.str "ended")) (.sc (.str "shut"))=some (.sc (.bl false)):=cR _ _ _
theorem U8:aF id (.sc (.str "ended")) (.sc (.str "joined"))=some (.sc (.bl false)):=cR _ _ _
theorem U9:aF (!·) (.sc (.str "ended")) (.sc (.str "joined"))=some (.sc (.bl true)):=jE _ _ _
theorem K9:aF id (.sc (.str "refused")) (.sc (.str "file"))=some (.sc (.bl false)):=cR _ _ _
theorem Va:aF (!·) (.sc (.str "refused")) (.sc (.str "file"))=some (.sc (.bl true)):=jE _ _ _
theorem La:aF id (.sc (.str "refused")) (.sc (.str "shut"))=some (.sc (.bl false)):=cR _ _ _
theorem Vb:aF id (.sc (.str "refused")) (.sc (.str "joined"))=some (.sc (.bl false)):=cR _ _ _
theorem Vc:aF (!·) (.sc (.str "refused")) (.sc (.str "joined"))=some (.sc (.bl true)):=jE _ _ _
theorem Lb:aF id (.sc (.str "shut")) (.sc (.str "file"))=some (.sc (.bl false)):=cR _ _ _
theorem Vd:aF (!·) (.sc (.str "shut")) (.sc (.str "file"))=some (.sc (.bl true)):=jE _ _ _
theorem uW:aF id (.sc (.str "shut")) (.sc (.str "shut"))=some (.sc (.bl true)):=cR _ _ _
theorem Lc:aF id (.sc (.str "joined")) (.sc (.str "file"))=some (.sc (.bl false)):=cR _ _ _
theorem Ve:aF (!·) (.sc (.str "joined")) (.sc (.str "file"))=some (.sc (.bl true)):=jE _ _ _
theorem Ld:aF id (.sc (.str "joined")) (.sc (.str "shut"))=some (.sc (.bl false)):=cR _ _ _
theorem Vf:aF id (.sc (.str "joined")) (.sc (.str "joined"))=some (.sc (.bl true)):=cR _ _ _
theorem Vg:aF (!·) (.sc (.str "joined")) (.sc (.str "joined"))=some (.sc (.bl false)):=jE _ _ _
theorem Le:aF id (.sc (.str "ok")) (.sc (.str "file"))=some (.sc (.bl false)):=cR _ _ _
theorem Vh:aF (!·) (.sc (.str "ok")) (.sc (.str "file"))=some (.sc (.bl true)):=jE _ _ _
theorem Lf:aF id (.sc (.str "ok")) (.sc (.str "shut"))=some (.sc (.bl false)):=cR _ _ _
theorem Vi:aF id (.sc (.str "ok")) (.sc (.str "joined"))=some (.sc (.bl false)):=cR _ _ _
theorem Vj:aF (!·) (.sc (.str "ok")) (.sc (.str "joined"))=some (.sc (.bl true)):=jE _ _ _
theorem Lg:aF id (.sc (.str "begun")) (.sc (.str "file"))=some (.sc (.bl false)):=cR _ _ _
theorem Vk:aF (!·) (.sc (.str "begun")) (.sc (.str "file"))=some (.sc (.bl true)):=jE _ _ _
theorem Lh:aF id (.sc (.str "begun")) (.sc (.str "shut"))=some (.sc (.bl false)):=cR _ _ _
theorem Vl:aF id (.sc (.str "begun")) (.sc (.str "joined"))=some (.sc (.bl false)):=cR _ _ _
theorem Vm:aF (!·) (.sc (.str "begun")) (.sc (.str "joined"))=some (.sc (.bl true)):=jE _ _ _
theorem Li:aF id (.sc (.str "folder")) (.sc (.str "file"))=some (.sc (.bl false)):=cR _ _ _
theorem Vn:aF (!·) (.sc (.str "folder")) (.sc (.str "file"))=some (.sc (.bl true)):=jE _ _ _
theorem Lj:aF id (.sc (.str "folder")) (.sc (.str "shut"))=some (.sc (.bl false)):=cR _ _ _
theorem Vo:aF id (.sc (.str "folder")) (.sc (.str "joined"))=some (.sc (.bl false)):=cR _ _ _
theorem Vp:aF (!·) (.sc (.str "folder")) (.sc (.str "joined"))=some (.sc (.bl true)):=jE _ _ _
theorem Lk:aF id (.sc (.str "file")) (.sc (.str "file"))=some (.sc (.bl true)):=cR _ _ _
theorem Vq:aF (!·) (.sc (.str "file")) (.sc (.str "file"))=some (.sc (.bl false)):=jE _ _ _
theorem Vr:aF id (.sc (.str "file")) (.sc (.str "shut"))=some (.sc (.bl false)):=cR _ _ _
theorem Vs:aF (!·) (.sc (.str "file")) (.sc (.str "joined"))=some (.sc (.bl true)):=jE _ _ _
theorem Vt:aF id (.sc (.str "see")) (.sc (.str "shut"))=some (.sc (.bl false)):=cR _ _ _
theorem Vu:aF id (.sc (.str "see")) (.sc (.str "join"))=some (.sc (.bl false)):=cR _ _ _
theorem Vv:aF id (.sc (.str "see")) (.sc (.str "open"))=some (.sc (.bl false)):=cR _ _ _
theorem Ll:aF id (.sc (.str "open")) (.sc (.str "shut"))=some (.sc (.bl false)):=cR _ _ _
theorem Ln:aF id (.sc (.str "open")) (.sc (.str "join"))=some (.sc (.bl false)):=cR _ _ _
theorem Lo:aF id (.sc (.str "open")) (.sc (.str "open"))=some (.sc (.bl true)):=cR _ _ _
theorem Vx:aF id (.sc (.str "join")) (.sc (.str "shut"))=some (.sc (.bl false)):=cR _ _ _
theorem Vy:aF id (.sc (.str "join")) (.sc (.str "join"))=some (.sc (.bl true)):=cR _ _ _
theorem Vz:aF id (.sc (.str "look")) (.sc (.str "shut"))=some (.sc (.bl false)):=cR _ _ _
theorem VA:aF id (.sc (.str "look")) (.sc (.str "join"))=some (.sc (.bl false)):=cR _ _ _
theorem VB:aF id (.sc (.str "look")) (.sc (.str "begin"))=some (.sc (.bl false)):=cR _ _ _
theorem VC:aF id (.sc (.str "begin")) (.sc (.str "shut"))=some (.sc (.bl false)):=cR _ _ _
theorem VD:aF id (.sc (.str "begin")) (.sc (.str "join"))=some (.sc (.bl false)):=cR _ _ _
theorem VE:aF id (.sc (.str "begin")) (.sc (.str "begin"))=some (.sc (.bl true)):=cR _ _ _
theorem ER:aF id (.sc (.str "make")) (.sc (.str "shut"))=some (.sc (.bl false)):=cR _ _ _
theorem VF:aF id (.sc (.str "make")) (.sc (.str "make"))=some (.sc (.bl true)):=cR _ _ _
theorem VG:aF id (.sc (.str "shut")) (.sc (.str "make"))=some (.sc (.bl false)):=cR _ _ _
theorem Lp:aF id (.sc (.str "clash")) (.sc (.str "put"))=some (.sc (.bl false)):=cR _ _ _
theorem Lq:aF id (.sc (.str "put")) (.sc (.str "put"))=some (.sc (.bl true)):=cR _ _ _
theorem Lr:aF id (.sc (.str "made")) (.sc (.str "put"))=some (.sc (.bl false)):=cR _ _ _
theorem Ls:aF id (.sc (.str "refused")) (.sc (.str "put"))=some (.sc (.bl false)):=cR _ _ _
end SF
namespace K55
open PySem L2 VL SF
variable {K:ak}{C:Addr}[dz K C]
theorem VH(a b c d e:D):cutD [a,b,c,d,e] (some 2) (some 5)= [c,d,e]:=rfl
theorem VI(a b c d e:D):cutD [a,b,c,d,e] (some 1) (some 4)= [b,c,d]:=rfl
theorem eX{i:Nat}{f:En->Option (D×En)}{Z ρ1 ρ':En}{d:D}(h:f Z=some (d,ρ1))(e:aR i (.own d) ρ1=ρ'):dP i f Z=some (.nx ρ'):=by
 unfold dP;rw[h];exact congrArg (λx=>some (Fl.nx x)) e
theorem ES(k:Kd)(r:Row):kL K C [av k r]=some (gi r):=by
 cases r with
 |eE h f v c=>simp[kL,md,av,tp,sD,iD,AM,gi,dm,VH,d3,bD,b7,ae,bp,cP,cE,bJ,aq,ah,ar,cv,bM,ag,VL.plain,bq,cu,bO,jy,iP,fC,fE]
 |ask h n q=>simp[kL,md,av,tp,sD,iD,K6,UZ,gi,dm,d3,bD,b7,ae,bp,cP,cE,bJ,aq,ah,ar,cv,bM,ag,cu,bO,jy,iP,fC,fE]
 |told h n a=>
  cases a with
  |file f v c x=>simp[kL,md,av,cx,tp,sD,iD,mT,pS,Lk,gi,dm,VI,d3,bD,b7,ae,bp,cP,cE,bJ,aq,ah,ar,cv,bM,ag,VL.plain,bq,cu,bO,jy,iP,fC,fE]
  |ended=>simp[kL,md,av,cx,tp,sD,iD,mT,pS,K7,gi,dm,d3,bD,b7,ae,bp,cP,cE,bJ,aq,ah,ar,cv,bM,ag,cu,bO,jy,iP,fC,fE]
  |refused w=>simp[kL,md,av,cx,tp,sD,iD,mT,pS,K9,gi,dm,d3,bD,b7,ae,bp,cP,cE,bJ,aq,ah,ar,cv,bM,ag,cu,bO,jy,iP,fC,fE]
  |di v x=>simp[kL,md,av,cx,tp,sD,iD,mT,pS,Lb,gi,dm,d3,bD,b7,ae,bp,cP,cE,bJ,aq,ah,ar,cv,bM,ag,cu,bO,jy,iP,fC,fE]
  |joined ps=>simp[kL,md,av,cx,tp,sD,iD,mT,pS,Lc,gi,dm,d3,bD,b7,ae,bp,cP,cE,bJ,aq,ah,ar,cv,bM,ag,cu,bO,jy,iP,fC,fE]
  |ok=>simp[kL,md,av,cx,tp,sD,iD,mT,pS,Le,gi,dm,d3,bD,b7,ae,bp,cP,cE,bJ,aq,ah,ar,cv,bM,ag,cu,bO,jy,iP,fC,fE]
  |begun=>simp[kL,md,av,cx,tp,sD,iD,mT,pS,Lg,gi,dm,d3,bD,b7,ae,bp,cP,cE,bJ,aq,ah,ar,cv,bM,ag,cu,bO,jy,iP,fC,fE]
  |folder=>simp[kL,md,av,cx,tp,sD,iD,mT,pS,Li,gi,dm,d3,bD,b7,ae,bp,cP,cE,bJ,aq,ah,ar,cv,bM,ag,cu,bO,jy,iP,fC,fE]
variable {K:ak}{C:Addr}[dz K C]
theorem VJ(h n:Int)(ps:List jP)(ds:List jD)(hd:ds.length < 10):jf K C [av .lst (.told h n (.joined ps)),dn (some (.join ds))]=some (.nd .lst ((cC (.told h n (.joined ps)) (some (.join ds))).map λp=>tp [iD p.1,iD p.2])):=by
 have hz:(ds.zip ps).length<=aN:=dC (by simp;lia:(ds.zip ps).length<=10) (by decide);have qr:((ds.zip ps).filter λx=>iS x.1 && jg x.2).length<=aN:=dC (BC _ _) hz;have np:VL.plain (cx .lst (.joined ps))=false:=by simp[cx,tp,VL.plain,bq]
 have zp:Aw [tp (ds.map br), .nd .lst (ps.map cB)]=some ((ds.zip ps).map λx=>tp [br x.1,cB x.2]):=by rw[<- zip_map];rfl
 have pp:VL.bq (((ds.zip ps).filter λx=>iS x.1 && jg x.2).map λx=>tp [br x.1,cB x.2])=true:=nQ λd hd=>by
  obtain⟨x,_,rfl⟩:=jK.mp hd;simp[tp,VL.plain,bq,xw,xx]
 unfold jf jC;dsimp only;refine jY (ρ':= [some (.ro (av .lst (.told h n (.joined ps)))),some (.ro (dn (some (.join ds)))),some (.ro (cx .lst (.joined ps))),some (.own (.nd .lst (((ds.zip ps).filter λx=>iS x.1 && jg x.2).map λx=>tp [br x.1,cB x.2])))])
  (aK (ρ':= [some (.ro (av .lst (.told h n (.joined ps)))),some (.ro (dn (some (.join ds)))),none,none]) ?_
  (aK (ρ':= [some (.ro (av .lst (.told h n (.joined ps)))),some (.ro (dn (some (.join ds)))),some (.ro (cx .lst (.joined ps))),none]) ?_
  (aK (ρ':= [some (.ro (av .lst (.told h n (.joined ps)))),some (.ro (dn (some (.join ds)))),some (.ro (cx .lst (.joined ps))),none]) ?_
  (aK (ρ':= [some (.ro (av .lst (.told h n (.joined ps)))),some (.ro (dn (some (.join ds)))),some (.ro (cx .lst (.joined ps))),none]) ?_
  (aK (ρ':= [some (.ro (av .lst (.told h n (.joined ps)))),some (.ro (dn (some (.join ds)))),some (.ro (cx .lst (.joined ps))),some (.own (.nd .lst (((ds.zip ps).filter λx=>iS x.1 && jg x.2).map λx=>tp [br x.1,cB x.2])))])
   (eX (fM (uD (ds.zip ps) (λx=>tp [br x.1,cB x.2]) (λx=>iS x.1 && jg x.2) (λx=>tp [br x.1,cB x.2]) ?_ hz rfl ?_)) ?_)
   (ij (fM ?_)))))))
 ·simp[av,dn,bj,tp,sD,iD,kM,bD,ae,bp,cP,eg,iO,cE,bJ,aq,ah,ar,cv,bM,eQ,ag,gL,cu]
 ·simp[av,cx,dn,bj,tp,sD,iD,kF,aR,bp,cE,bJ,cA,ah,cv,bM,fB,lV,aC,VL.plain,bq,aP,el,eC,iy]
 ·simp[cx,dn,bj,tp,sD,Ld,bD,bU,ae,bp,cP,cE,bJ,aq,ah,ar,cv,bM,eQ,ag,gu,cu,fQ]
 ·simp[cx,dn,bj,tp,sD,Vg,bD,ae,bp,cP,cE,bJ,aq,ah,ar,cv,bM,eQ,ag,cu]
 ·refine aj.mpr ⟨[tp (ds.map br), .nd .lst (ps.map cB)], ?_,zp⟩;simp[cx,dn,bj,tp,sD,bD,au,ae,bp,cE,bJ,aq,ah,ar,cv,bM,ag]
 ·rintro⟨d,p⟩ _;refine⟨[some (.ro (br d)),some (.ro (cB p))], ?_, ?_,λ_=> ?_⟩
  ·simp[tp,aR,jc,ae,dD,gz,el,eC,iy]
  ·cases d <;> cases p <;> simp[br,cB,tp,sD,iD,iS,jg,ER,uW,Lp,Lq,Lr,Ls,d3,bD,ae,bp,cE,bJ,aq,ah,ar,cv,bM,ag]
  ·simp[xw,xx,tp,bD,au,ae,bu,gB,iC]
 ·simp[aR,el,eC,iy]
 ·have e:=uD (n:=4) (js:= [none,none]) (is:= [0]++([1]++ [])) (fg:=gz 2 (dD (λd Z=>some (aR 0 (B.ro d) Z)) (dD (λd Z=>some (aR 1 (B.ro d) Z)) λds Z=>match ds with | []=>some Z | x=>none))) (ft:=λx=>some true)
   (fe:=bu Kd.tup (au (gB (ag (ar ah aq) (ae 0) λx=>some (D.sc (V.int 1)))) (au (gB (ag (ar ah aq) (ae 1) λx=>some (D.sc (V.int 1)))) λx=>some []))) (fi:=λZ=>(ae 3 Z).bind jX)
   (Z:= [some (.ro (av .lst (.told h n (.joined ps)))),some (.ro (dn (some (.join ds)))),some (.ro (cx .lst (.joined ps))),some (.own (.nd .lst (((ds.zip ps).filter λx=>iS x.1 && jg x.2).map λx=>tp [br x.1,cB x.2])))])
   ((ds.zip ps).filter λx=>iS x.1 && jg x.2) (λx=>tp [br x.1,cB x.2]) (λ_=>true) (λx=>tp [iD (qP x.1),iD (qQ x.2)]) rfl qr rfl (by
    rintro⟨d,p⟩ hm;have c:=(tE.mp hm).2;cases d with
    |make c=>exact absurd c (by simp[iS])
    |di f v c2=>
     cases p with
     |put v2=>exact⟨[some (.ro (br (.di f v c2))),some (.ro (cB (.put v2)))],by simp[tp,aR,jc,ae,dD,gz,el,eC,iy],rfl,λ_=>by simp[br,cB,tp,sD,iD,qP,qQ,bD,au,ae,bp,cE,bJ,aq,ah,ar,cv,bM,bu,ag,VL.plain,gB,iC]⟩
     |me=>exact absurd c (by simp[iS,jg])
     |made=>exact absurd c (by simp[iS,jg])
     |refused=>exact absurd c (by simp[iS,jg]))
  rw[Gm.mpr (λ_ _=>rfl)]at e;rw[show(cC (.told h n (.joined ps)) (some (.join ds))).map (λp=>tp [iD p.1,iD p.2])=((ds.zip ps).filter λx=>iS x.1 && jg x.2).map λx=>tp [iD (qP x.1),iD (qQ x.2)] by simp[cC]];exact e
theorem VM(r:Row)(q:Option bw)(hf:oA r q):jf K C [av .lst r,dn q]=some (.nd .lst ((cC r q).map λp=>tp [iD p.1,iD p.2])):=by
 cases r with
 |eE h f v c=>simp[jf,jC,av,tp,sD,iD,UY,cC,bD,aR,b7,au,ae,bp,cP,eg,iO,cE,bJ,aq,ah,ar,cv,bM,eQ,ag,gL,cu,bO,fC]
 |ask h n q'=>simp[jf,jC,av,tp,sD,iD,U0,cC,bD,aR,b7,au,ae,bp,cP,eg,iO,cE,bJ,aq,ah,ar,cv,bM,eQ,ag,gL,cu,bO,fC]
 |told h n a=>
  cases a with
  |di v x=>
   obtain⟨f,v',c,rfl⟩:=hf;simp[jf,jC,av,cx,dn,bj,tp,sD,iD,kM,uW,cC,kF,bD,aR,b7,au,bU,ae,bp,cP,eg,iO,cE,bJ,cA,aq,ah,ar,cv,bM,eQ,ag,gL,fB,lV,aC,VL.plain,bq,gu,cu,aP,bO,fC,fQ,el,eC,iy,zG,iC]
  |joined ps=>
   obtain⟨ds,rfl,hd⟩:=hf;exact VJ h n ps ds hd
  |file f v c x=>cases q with
   |none=>simp[jf,jC,av,cx,dn,tp,sD,iD,kM,cC,bD,aR,b7,au,ae,bp,cP,eg,iO,cE,bJ,aq,ah,ar,cv,bM,eQ,ag,gL,cu,bO,fC]
   |some q=>cases q <;> simp[jf,jC,av,cx,dn,bj,tp,sD,iD,kM,Vr,Vs,cC,kF,bD,aR,b7,au,bU,ae,bp,cP,eg,iO,cE,bJ,cA,aq,ah,ar,cv,bM,eQ,ag,gL,fB,lV,aC,VL.plain,bq,gu,cu,aP,bO,fC,fQ,el,eC,iy]
  |ended=>cases q with
   |none=>simp[jf,jC,av,cx,dn,tp,sD,iD,kM,cC,bD,aR,b7,au,ae,bp,cP,eg,iO,cE,bJ,aq,ah,ar,cv,bM,eQ,ag,gL,cu,bO,fC]
   |some q=>cases q <;> simp[jf,jC,av,cx,dn,bj,tp,sD,iD,kM,K8,U9,cC,kF,bD,aR,b7,au,bU,ae,bp,cP,eg,iO,cE,bJ,cA,aq,ah,ar,cv,bM,eQ,ag,gL,fB,lV,aC,VL.plain,bq,gu,cu,aP,bO,fC,fQ,el,eC,iy]
  |refused w=>cases q with
   |none=>simp[jf,jC,av,cx,dn,tp,sD,iD,kM,cC,bD,aR,b7,au,ae,bp,cP,eg,iO,cE,bJ,aq,ah,ar,cv,bM,eQ,ag,gL,cu,bO,fC]
   |some q=>cases q <;> simp[jf,jC,av,cx,dn,bj,tp,sD,iD,kM,La,Vc,cC,kF,bD,aR,b7,au,bU,ae,bp,cP,eg,iO,cE,bJ,cA,aq,ah,ar,cv,bM,eQ,ag,gL,fB,lV,aC,VL.plain,bq,gu,cu,aP,bO,fC,fQ,el,eC,iy]
  |ok=>cases q with
   |none=>simp[jf,jC,av,cx,dn,tp,sD,iD,kM,cC,bD,aR,b7,au,ae,bp,cP,eg,iO,cE,bJ,aq,ah,ar,cv,bM,eQ,ag,gL,cu,bO,fC]
   |some q=>cases q <;> simp[jf,jC,av,cx,dn,bj,tp,sD,iD,kM,Lf,Vj,cC,kF,bD,aR,b7,au,bU,ae,bp,cP,eg,iO,cE,bJ,cA,aq,ah,ar,cv,bM,eQ,ag,gL,fB,lV,aC,VL.plain,bq,gu,cu,aP,bO,fC,fQ,el,eC,iy]
  |begun=>cases q with
   |none=>simp[jf,jC,av,cx,dn,tp,sD,iD,kM,cC,bD,aR,b7,au,ae,bp,cP,eg,iO,cE,bJ,aq,ah,ar,cv,bM,eQ,ag,gL,cu,bO,fC]
   |some q=>cases q <;> simp[jf,jC,av,cx,dn,bj,tp,sD,iD,kM,Lh,Vm,cC,kF,bD,aR,b7,au,bU,ae,bp,cP,eg,iO,cE,bJ,cA,aq,ah,ar,cv,bM,eQ,ag,gL,fB,lV,aC,VL.plain,bq,gu,cu,aP,bO,fC,fQ,el,eC,iy]
  |folder=>cases q with
   |none=>simp[jf,jC,av,cx,dn,tp,sD,iD,kM,cC,bD,aR,b7,au,ae,bp,cP,eg,iO,cE,bJ,aq,ah,ar,cv,bM,eQ,ag,gL,cu,bO,fC]
   |some q=>cases q <;> simp[jf,jC,av,cx,dn,bj,tp,sD,iD,kM,Lj,Vp,cC,kF,bD,aR,b7,au,bU,ae,bp,cP,eg,iO,cE,bJ,cA,aq,ah,ar,cv,bM,eQ,ag,gL,fB,lV,aC,VL.plain,bq,gu,cu,aP,bO,fC,fQ,el,eC,iy]
end K55
namespace SF
open PySem L2 VL
section
variable {α β κ:Type}[DecidableEq β][DecidableEq κ]
noncomputable def lk (b:β):List (β×α)->Option α
 | []=>none
 |x::l=>if x.1=b then some x.2 else lk b l
theorem sI(kk:β->κ)(inj:∀a b,kk a=kk b->a=b)(g:α->D)(b:β):∀l:List (β×α),
  (∃i a,cX (kk b) (l.map λx=>kk x.1)=some i/\lk b l=some a/\(l.map λx=>g x.2)[i]?=some (g a))\/(cX (kk b) (l.map λx=>kk x.1)=none/\lk b l=none)
 | []=> .inr ⟨rfl,rfl⟩
 |x::l=>by
  by_cases c:x.1=b
  ·left;refine⟨0,x.2, ?_, ?_,rfl⟩
   ·show(if kk x.1=kk b then some 0 else _)=_;rw[if_pos (by rw[c])]
   ·show(if x.1=b then some x.2 else _)=_;rw[if_pos c]
  ·have nc:¬ kk x.1=kk b:=λe=>c (inj _ _ e);have e1:cX (kk b) ((x::l).map λx=>kk x.1)=(cX (kk b) (l.map λx=>kk x.1)).map (· + 1):=by
    show(if kk x.1=kk b then some 0 else _)=_;rw[if_neg nc]
   have e2:lk b (x::l)=lk b l:=by
    show(if x.1=b then some x.2 else _)=_;rw[if_neg c]
   rw[e1,e2];rcases sI kk inj g b l with⟨i,a,h1,h2,h3⟩ | ⟨h1,h2⟩
   ·exact .inl ⟨i + 1,a,by rw[h1];rfl,h2,by simpa using h3⟩
   ·exact .inr ⟨by rw[h1];rfl,h2⟩
noncomputable def fY (b:β) (a:α):List (β×List α)->List (β×List α)
 | []=> [(b, [a])]
 |x::l=>if x.1=b then(x.1,x.2++ [a])::l else x::fY b a l
theorem ET(b:β)(a:α)(c:β):∀l:List (β×List α),lk c (fY b a l)=if c=b then some (((lk b l).getD [])++ [a]) else lk c l
 | []=>by
  by_cases e:c=b
  ·subst e;simp[fY,lk]
  ·have e':¬ b=c:=λh=>e h.symm;simp[fY,lk,e,e']
 |x::l=>by
  unfold fY;by_cases e:x.1=b
  ·rw[if_pos e];by_cases f:c=b
   ·subst f;simp[lk,e]
   ·rw[if_neg f];have:¬ x.1=c:=λh=>f (h.symm.trans e);simp[lk,this]
  ·rw[if_neg e];by_cases g:x.1=c
   ·have:¬ c=b:=λh=>e (g.trans h);simp[lk,g,this]
   ·have ih:=ET b a c l;by_cases f:c=b
    ·subst f;rw[if_pos rfl]at ih |-;simp only[lk,if_neg g];exact ih
    ·rw[if_neg f]at ih |-;simp only[lk,if_neg g];exact ih
theorem Lu(kk:β->κ)(inj:∀a b,kk a=kk b->a=b)(g:List α->D)(b:β)(a:α):∀(l:List (β×List α)) (i:Nat),cX (kk b) (l.map λx=>kk x.1)=some i->
  (fY b a l).map (λx=>kk x.1)=l.map (λx=>kk x.1)/\∃as,lk b l=some as/\(fY b a l).map (λx=>g x.2)=(l.map λx=>g x.2).set i (g (as++ [a]))
 | [],_,h=>by cases h
 |x::l,i,h=>by
  by_cases c:x.1=b
  ·have e1:cX (kk b) ((x::l).map λx=>kk x.1)=some 0:=by
    show(if kk x.1=kk b then some 0 else _)=_;rw[if_pos (by rw[c])]
   rw[e1]at h;cases h;unfold fY;rw[if_pos c];exact⟨rfl,x.2,by simp[lk,c],rfl⟩
  ·have nc:¬ kk x.1=kk b:=λe=>c (inj _ _ e);have e1:cX (kk b) ((x::l).map λx=>kk x.1)=(cX (kk b) (l.map λx=>kk x.1)).map (· + 1):=by
    show(if kk x.1=kk b then some 0 else _)=_;rw[if_neg nc]
   rw[e1]at h;obtain⟨j,h1,h2⟩:=aX.mp h;subst h2;obtain⟨k1,as,k2,k3⟩:=Lu kk inj g b a l j h1;unfold fY;rw[if_neg c];exact⟨by simp[k1],as,by simp[lk,c,k2],by simp[k3]⟩
theorem Lv(kk:β->κ)(inj:∀a b,kk a=kk b->a=b)(b:β)(a:α):∀l:List (β×List α),cX (kk b) (l.map λx=>kk x.1)=none->fY b a l=l++ [(b, [a])]
 | [],_=>rfl
 |x::l,h=>by
  by_cases c:x.1=b
  ·have e1:cX (kk b) ((x::l).map λx=>kk x.1)=some 0:=by
    show(if kk x.1=kk b then some 0 else _)=_;rw[if_pos (by rw[c])]
   rw[e1]at h;cases h
  ·have nc:¬ kk x.1=kk b:=λe=>c (inj _ _ e);have e1:cX (kk b) ((x::l).map λx=>kk x.1)=(cX (kk b) (l.map λx=>kk x.1)).map (· + 1):=by
    show(if kk x.1=kk b then some 0 else _)=_;rw[if_neg nc]
   rw[e1]at h;have h1:cX (kk b) (l.map λx=>kk x.1)=none:=by
    cases q:cX (kk b) (l.map λx=>kk x.1) with
    |none=>rfl
    |some i=>rw[q]at h;cases h
   unfold fY;rw[if_neg c,Lv kk inj b a l h1];rfl
end
section
variable {α:Type}
noncomputable def k1 (b:Int):bB:= .inl b
noncomputable def k2 (b:Int×Int):List bB:= [.inl b.1, .inl b.2]
theorem AQ(a b:Int)(h:k1 a=k1 b):a=b:=by cases h;rfl
theorem pT(a b:Int×Int)(h:k2 a=k2 b):a=b:=by
 obtain⟨a1,a2⟩:=a;obtain⟨b1,b2⟩:=b;cases h;rfl
def j3(g:α->D)(l:List (Int×α)):D:= .nd (.cy (l.map λx=>k1 x.1)) (l.map λx=>g x.2)
def bP(g:α->D)(l:List ((Int×Int)×α)):D:= .nd (.dk (l.map λx=>k2 x.1)) (l.map λx=>g x.2)
noncomputable def ly (g:α->D) (o:Option α) (x:D):D:=match o with
 |some a=>g a
 |none=>x
theorem EU(g:α->D)(l:List (Int×α))(b:Int)(x:D):((bp (j3 g l) (iD b)).bind λ
  |some i=>bM (j3 g l) i
  |none=>some x)=some (ly g (lk b l) x):=by
 have e:bp (j3 g l) (iD b)=some (cX (k1 b) (l.map λx=>k1 x.1)):=rfl;rw[e];rcases sI k1 AQ g b l with⟨i,a,h1,h2,h3⟩ | ⟨h1,h2⟩
 ·rw[h1,h2];exact h3
 ·rw[h1,h2];rfl
theorem AR(g:α->D)(l:List ((Int×Int)×α))(b c:Int)(x:D):((bp (bP g l) (.nd .tup [iD b,iD c])).bind λ
  |some i=>bM (bP g l) i
  |none=>some x)=some (ly g (lk (b,c) l) x):=by
 have e:bp (bP g l) (.nd .tup [iD b,iD c])=some (cX (k2 (b,c)) (l.map λx=>k2 x.1)):=rfl;rw[e];rcases sI k2 pT g (b,c) l with⟨i,a,h1,h2,h3⟩ | ⟨h1,h2⟩
 ·rw[h1,h2];exact h3
 ·rw[h1,h2];rfl
end
end SF
namespace K55
open PySem L2 VL SF
variable {K:ak}{C:Addr}[dz K C]
def oD:Option Int->D
 |none=> .sc .az
 |some h=>iD h
def om(x:Int×Int×Option Int):D:=tp [iD x.1,iD x.2.1,oD x.2.2]
def uX(x:Int×Str):D:=tp [iD x.1,sD x.2]
def bG(x:Int×bw):D:=tp [iD x.1,bj x.2]
def pU(l:List (Int×Int×Option Int)):D:= .nd .lst (l.map om)
def oo(l:List (Int×Str)):D:= .nd .lst (l.map uX)
noncomputable def mh:List Str:= ["asks","least","contents"]
def bt(C:Addr)(A:List ((Int×Int)×(Int×bw)))(L:List (Int×List (Int×Int×Option Int)))(Q:List ((Int×Int)×List (Int×Str))):D:= .nd (.obj C mh) [bP bG A,j3 pU L,bP oo Q]
noncomputable def dG:Row->Int
 |.eE h ..=>h
 |.ask h ..=>h
 |.told h ..=>h
noncomputable def num:Row->Int
 |.eE _ f ..=>f
 |.ask _ n ..=>n
 |.told _ n ..=>n
def jF(A:List ((Int×Int)×(Int×bw)))(k:Int):Row->Int
 |.eE ..=>k
 |r=>((lk (dG r,num r) A).map (·.1)).getD 0
noncomputable def jG (a v h:Int) (x:Int×Int×Option Int):Bool:=decide (x.1 < a) && (decide (v < x.2.1) && (decide (x.2.2=none) || decide (x.2.2=some h)))
noncomputable def mi (c:Str) (x:Int×Str):Bool:=decide (x.2≠c)
def jN(A:List ((Int×Int)×(Int×bw)))(L:List (Int×List (Int×Int×Option Int)))(Q:List ((Int×Int)×List (Int×Str)))(k:Int)(r:Row):List Int:=match dm r with
 |none=> []
 |some (f,v,c)=>((((lk f L).getD []).filter (jG (jF A k r) v (dG r))).map (·.1))++((((lk (f,v) Q).getD []).filter (mi c)).map (·.1))
theorem VN(o:Option Int)(h:Int):qX (oD o) (.nd .tup [.sc .az, .sc (.int h)])=some (decide (o=none) || decide (o=some h)):=by
 cases o with
 |none=>rfl
 |some i=>
  show(if jq (.int i)=true/\ [V.az,V.int h].all jq=true then some (rO (.int i) [.az, .int h]) else none)=_;rw[if_pos ⟨rfl,rfl⟩];by_cases c:i=h
  ·subst c;simp[rO,nI]
  ·have c':¬ h=i:=λe=>c e.symm;simp[rO,nI,c,c']
theorem VO(A:List ((Int×Int)×(Int×bw)))(L:List (Int×List (Int×Int×Option Int)))(Q:List ((Int×Int)×List (Int×Str))):pB (aE "asks") (bt C A L Q)=some (bP bG A):=rfl
theorem abS(A:List ((Int×Int)×(Int×bw)))(L:List (Int×List (Int×Int×Option Int)))(Q:List ((Int×Int)×List (Int×Str))):pB (aE "least") (bt C A L Q)=some (j3 pU L):=rfl
theorem abT(A:List ((Int×Int)×(Int×bw)))(L:List (Int×List (Int×Int×Option Int)))(Q:List ((Int×Int)×List (Int×Str))):pB (aE "contents") (bt C A L Q)=some (bP oo Q):=rfl
variable {K:ak}{C:Addr}[dz K C]
def jH(M:D)(k:Int)(r S:D)(a:Int)(aG:List D)(x6 x7 x8 x9:Option B):En:= [some (.ro M),some (.ro (iD k)),some (.ro r),some (.own S),some (.own (iD a)),some (.own (.nd .lst aG)),x6,x7,x8,x9]
theorem VP(L:List (Int×List (Int×Int×Option Int)))(f:Int):ly pU (lk f L) (.nd .lst [])=pU ((lk f L).getD []):=by cases lk f L <;> rfl
theorem VQ(Q:List ((Int×Int)×List (Int×Str)))(b:Int×Int):ly oo (lk b Q) (.nd .lst [])=oo ((lk b Q).getD []):=by cases lk b Q <;> rfl
theorem EV{fg:D->En->Option En}{fb:En->Option Fl}(M:D)(k:Int)(r S:D)(a:Int)(p:Int×Int×Option Int->Bool)
  (st:∀(x:Int×Int×Option Int) (aG:List D) (x6 x7 x8:Option B),NA x6->NA x7->NA x8->aG.length < 5000->∃y6 y7 y8 ρ1,NA y6/\NA y7/\NA y8/\fg (om x) (jH M k r S a aG x6 x7 x8 none)=some ρ1/\fb ρ1=some (.nx (jH M k r S a (if p x=true then aG++ [iD x.1] else aG) y6 y7 y8 none))):
  ∀(l:List (Int×Int×Option Int)) (aG:List D) (x6 x7 x8:Option B),NA x6->NA x7->NA x8->aG.length + l.length < 5000->∃y6 y7 y8,NA y6/\NA y7/\NA y8/\de fg fb (l.map om) (jH M k r S a aG x6 x7 x8 none)=some (.nx (jH M k r S a (aG++((l.filter p).map λx=>iD x.1)) y6 y7 y8 none))
 | [],aG,x6,x7,x8,h6,h7,h8,_=>⟨x6,x7,x8,h6,h7,h8,by simp[de]⟩
 |x::l,aG,x6,x7,x8,h6,h7,h8,hl=>by
  obtain⟨y6,y7,y8,ρ1,n6,n7,n8,e1,e2⟩:=st x aG x6 x7 x8 h6 h7 h8 (by simp at hl;lia);rw[eO,de,e1];show ∃z6 z7 z8,NA z6/\NA z7/\NA z8/\(fb ρ1).bind _=_;rw[e2];cases q:p x with
  |true=>
   rw[q,if_pos rfl]at e2;obtain⟨z6,z7,z8,m6,m7,m8,e3⟩:=EV M k r S a p st l (aG++ [iD x.1]) y6 y7 y8 n6 n7 n8 (by simp at hl |-;lia);refine⟨z6,z7,z8,m6,m7,m8, ?_⟩;rw[if_pos rfl,NS q,eO];rw[cZ]at e3;exact e3
  |false=>
   obtain⟨z6,z7,z8,m6,m7,m8,e3⟩:=EV M k r S a p st l aG y6 y7 y8 n6 n7 n8 (by simp at hl |-;lia);refine⟨z6,z7,z8,m6,m7,m8, ?_⟩;rw[if_neg bh,NT (by rw[q];exact bh)];exact e3
theorem uY{f g:En->Option Bool}{Z:En}{b c:Bool}(h1:f Z=some b)(h2:g Z=some c):d3 f g Z=some (b && c):=by
 unfold d3;rw[h1];cases b
 ·rfl
 ·exact h2
theorem bR{f:En->Option Bool}{A B':En->Option Fl}{Z:En}{b:Bool}(h:f Z=some b):cP (λZ=>aY (λb=>(b,Z)) (f Z)) A B' Z=if b=true then A Z else B' Z:=by
 unfold cP;dsimp only;rw[h];rfl
theorem VR(M:D)(k:Int)(r:D)(f v:Int)(c:Str)(a h:Int)(hr:ar ah aq r (.sc (.int 1))=some (iD h))(x:Int×Int×Option Int)(aG:List D)(x6 x7 x8:Option B)(h6:NA x6)(h7:NA x7)(h8:NA x8)(ha:aG.length < 5000):
  ∃y6 y7 y8 ρ1,NA y6/\NA y7/\NA y8/\gz 3 (dD (λd Z=>some (aR 6 (B.ro d) Z)) (dD (λd Z=>some (aR 7 (B.ro d) Z)) (dD (λd Z=>some (aR 8 (B.ro d) Z)) λds Z=>match ds with | []=>some Z | x=>none))) (om x) (jH M k r (tp [iD f,iD v,sD c]) a aG x6 x7 x8 none)=some ρ1/\
   cP (λZ=>aY (λb=>(b,Z)) (d3 (λZ=>(ag (iN λi j=>V.bl (decide (i < j))) (ae 6) (ae 4) Z).bind λx=>match x with | D.sc (V.bl b)=>some b | x=>none)
    (d3 (λZ=>(ag (iN λi j=>V.bl (decide (j < i))) (ae 7) (ag (ar ah aq) (ae 3) λx=>some (D.sc (V.int 1))) Z).bind λx=>match x with | D.sc (V.bl b)=>some b | x=>none)
     λZ=>(ag (λa b=>aY (λb=>D.sc (V.bl b)) (qX a b)) (ae 8) (bu Kd.tup (au (λx=>some (D.sc V.az)) (au (ag (ar ah aq) (ae 2) λx=>some (D.sc (V.int 1))) λx=>some []))) Z).bind λx=>match x with | D.sc (V.bl b)=>some b | x=>none) Z))
    (gv (mQ (aC 5) (gB (ae 6)))) (λZ=>some (Fl.nx Z)) ρ1=some (.nx (jH M k r (tp [iD f,iD v,sD c]) a (if jG a v h x=true then aG++ [iD x.1] else aG) y6 y7 y8 none)):=by
 refine⟨some (.ro (iD x.1)),some (.ro (iD x.2.1)),some (.ro (oD x.2.2)),jH M k r (tp [iD f,iD v,sD c]) a aG (some (.ro (iD x.1))) (some (.ro (iD x.2.1))) (some (.ro (oD x.2.2))) none,bX,bX,bX, ?_, ?_⟩
 ·unfold om;generalize oD x.2.2=O;simp[tp,jH,iD,sD,bg h6,bg h7,bg h8,aR,dD,gz,el,ig,eC,iy]
 ·have ho:=VN x.2.2 h;have hz:aG.length < aN:=df ha (by decide);generalize oD x.2.2=O at *;generalize j4:jH M k r (tp [iD f,iD v,sD c]) a aG (some (.ro (iD x.1))) (some (.ro (iD x.2.1))) (some (.ro O)) none=ρ1;have t1:(ag (iN λi j=>V.bl (decide (i < j))) (ae 6) (ae 4) ρ1).bind (λx=>match x with | D.sc (V.bl b)=>some b | x=>none)=some (decide (x.1 < a)):=by subst j4;rfl
  have t2:(ag (iN λi j=>V.bl (decide (j < i))) (ae 7) (ag (ar ah aq) (ae 3) λx=>some (D.sc (V.int 1))) ρ1).bind (λx=>match x with | D.sc (V.bl b)=>some b | x=>none)=some (decide (v < x.2.1)):=by subst j4;rfl
  have e3:ag (ar ah aq) (ae 2) (λx=>some (D.sc (V.int 1))) ρ1=some (iD h):=by subst j4;exact hr
  have e4:bu Kd.tup (au (λx=>some (D.sc V.az)) (au (ag (ar ah aq) (ae 2) λx=>some (D.sc (V.int 1))) λx=>some [])) ρ1=some (.nd .tup [.sc .az, .sc (.int h)]):=by
   generalize ag (ar ah aq) (ae 2) (λx=>some (D.sc (V.int 1)))=F at *;simp[bu,au,e3,iD,iC]
  have t3:(ag (λa b=>aY (λb=>D.sc (V.bl b)) (qX a b)) (ae 8) (bu Kd.tup (au (λx=>some (D.sc V.az)) (au (ag (ar ah aq) (ae 2) λx=>some (D.sc (V.int 1))) λx=>some []))) ρ1).bind (λx=>match x with | D.sc (V.bl b)=>some b | x=>none)=some (decide (x.2.2=none) || decide (x.2.2=some h)):=by
   have e5:ae 8 ρ1=some O:=by subst j4;rfl
   generalize bu Kd.tup (au (λx=>some (D.sc V.az)) (au (ag (ar ah aq) (ae 2) λx=>some (D.sc (V.int 1))) λx=>some []))=G at *;unfold ag;rw[e5];show((G ρ1).bind _).bind _=_;rw[e4];show((qX O _).map _).bind _=_;rw[ho];rfl
  rw[bR (uY t1 (uY t2 t3))];show(if jG a v h x=true then _ else _)=_;cases jG a v h x with
  |true=>
   rw[if_pos rfl,if_pos rfl];subst j4;simp[jH,hz,iD,jW,mQ,bD,ae,gv,gE,aJ,ja,gw,aC,VL.plain,gB,gA,TB,TC,TF,aP,bf]
  |false=>
   rw[if_neg bh,if_neg bh];subst j4;rfl
variable {K:ak}{C:Addr}[dz K C]
theorem iG{t u:En->Option Fl}{Z ρ':En}{d:D}(e:t Z=some (.rt d ρ')):bO t u Z=some (.rt d ρ'):=by
 unfold bO;rw[e];rfl
theorem sJ(k:Kd)(r:Row):ar ah aq (av k r) (.sc (.int 1))=some (iD (dG r)):=by cases r <;> rfl
theorem AS(k:Kd)(r:Row):ar ah aq (av k r) (.sc (.int 2))=some (iD (num r)):=by cases r <;> rfl
theorem VS(A:List ((Int×Int)×(Int×bw)))(L:List (Int×List (Int×Int×Option Int)))(Q:List ((Int×Int)×List (Int×Str)))(k:Int)(r:Row)(S:D)(hs:dm r≠none):
  pA (λZ=>(ag (aF id) (ag (ar ah aq) (ae 2) λx=>some (D.sc (V.int 0))) (λx=>some (D.sc (V.str (aE "saw")))) Z).bind λx=>match x with | D.sc (V.bl b)=>some b | x=>none) (ae 1)
   (ag (ar ah aq) (mS (λZ=>(ae 0 Z).bind (pB (aE "asks"))) (bu Kd.tup (au (ag (ar ah aq) (ae 2) λx=>some (D.sc (V.int 1))) (au (ag (ar ah aq) (ae 2) λx=>some (D.sc (V.int 2))) λx=>some [])))
    (bu Kd.tup (au (λx=>some (D.sc (V.int 0))) (au (λx=>some (D.sc V.az)) λx=>some [])))) λx=>some (D.sc (V.int 0)))
   [some (.ro (bt C A L Q)),some (.ro (iD k)),some (.ro (av .lst r)),some (.own S),none,none,none,none,none,none]=some (iD (jF A k r)):=by
 have f1:=VO (C:=C) A L Q;have r1:=sJ .lst r;have r2:=AS .lst r;cases r with
 |ask h n q=>exact absurd rfl hs
 |eE h f v c=>
  generalize bt C A L Q=M at *;simp[av,tp,sD,iD,AM,jF,bD,au,ae,mS,bp,pB,wI,pA,cE,bJ,aq,ah,ar,cv,bM,bu,ag,iC]
 |told h n a=>
  have t0:(ag (aF id) (ag (ar ah aq) (ae 2) λx=>some (D.sc (V.int 0))) (λx=>some (D.sc (V.str (aE "saw")))) [some (.ro (bt C A L Q)),some (.ro (iD k)),some (.ro (av .lst (.told h n a))),some (.own S),none,none,none,none,none,none]).bind (λx=>match x with | D.sc (V.bl b)=>some b | x=>none)=some false:=by
   generalize bt C A L Q=M at *;simp[av,tp,sD,iD,mT,bD,ae,bp,cE,bJ,aq,ah,ar,cv,bM,ag]
  have g:=AR bG A h n (.nd .tup [iD 0, .sc .az]);generalize av .lst (.told h n a)=R at *;generalize bt C A L Q=M at *;generalize j4:([some (.ro M),some (.ro (iD k)),some (.ro R),some (.own S),none,none,none,none,none,none]:En)=Z at *;have e1:(ae 0 Z).bind (pB (aE "asks"))=some (bP bG A):=by subst j4;exact f1
  have a1:ag (ar ah aq) (ae 2) (λx=>some (D.sc (V.int 1))) Z=some (iD h):=by subst j4;exact r1
  have a2:ag (ar ah aq) (ae 2) (λx=>some (D.sc (V.int 2))) Z=some (iD n):=by subst j4;exact r2
  have e2:bu Kd.tup (au (ag (ar ah aq) (ae 2) λx=>some (D.sc (V.int 1))) (au (ag (ar ah aq) (ae 2) λx=>some (D.sc (V.int 2))) λx=>some [])) Z=some (.nd .tup [iD h,iD n]):=by
   simp[bu,au,a1,a2,iC]
  have e3:bu Kd.tup (au (λx=>some (D.sc (V.int 0))) (au (λx=>some (D.sc V.az)) λx=>some [])) Z=some (.nd .tup [iD 0, .sc .az]):=by
   simp[bu,au,iD,iC]
  have e4:mS (λZ=>(ae 0 Z).bind (pB (aE "asks"))) (bu Kd.tup (au (ag (ar ah aq) (ae 2) λx=>some (D.sc (V.int 1))) (au (ag (ar ah aq) (ae 2) λx=>some (D.sc (V.int 2))) λx=>some []))) (bu Kd.tup (au (λx=>some (D.sc (V.int 0))) (au (λx=>some (D.sc V.az)) λx=>some []))) Z=some (ly bG (lk (h,n) A) (.nd .tup [iD 0, .sc .az])):=by
   unfold mS;dsimp only;rw[e1,e2,e3];exact g
  unfold pA;dsimp only;rw[t0,bo,if_neg bh];generalize mS (λZ=>(ae 0 Z).bind (pB (aE "asks"))) (bu Kd.tup (au (ag (ar ah aq) (ae 2) λx=>some (D.sc (V.int 1))) (au (ag (ar ah aq) (ae 2) λx=>some (D.sc (V.int 2))) λx=>some []))) (bu Kd.tup (au (λx=>some (D.sc (V.int 0))) (au (λx=>some (D.sc V.az)) λx=>some [])))=G at *;unfold ag;rw[e4];show ar ah aq (ly bG (lk (h,n) A) (.nd .tup [iD 0, .sc .az])) (.sc (.int 0))=_;show _=some (iD (((lk (h,n) A).map (·.1)).getD 0));cases lk (h,n) A with
  |none=>rfl
  |some x=>rfl
variable {K:ak}{C:Addr}[dz K C]
theorem pV{f:En->Option D}{Z:En}{d:D}(h:f Z=some d)(p:VL.plain d=true):gu f Z=some (d,Z):=by
 unfold gu;rw[h];exact if_pos p
theorem EW{fp:En->Option Pl}{fy fx:En->Option D}{Z:En}{dd y x d:D}(h1:fp Z=some (.ro dd))(h2:fy Z=some y)(h3:fx Z=some x)(h4:((bp dd y).bind λ
  |some i=>bM dd i
  |none=>some x)=some d):sF fp fy fx Z=some d:=by
 unfold sF;rw[h1];show(fy Z).bind _=_;rw[h2];show(fx Z).bind _=_;rw[h3];exact h4
theorem Lw{i:Nat}{fp:En->Option Pl}{fd fy fx gx:En->Option D}{Z ρ':En}{dd d:D}(h1:fp Z=some (.ro dd))(h2:sF fp fy fx Z=some d)(e:aR i (.ro d) Z=ρ'):uM i fp fd fy fx gx Z=some (.nx ρ'):=by
 unfold uM;rw[h1];show(sF fp fy fx Z).map _=_;rw[h2, <- e];rfl
theorem b9{g:D->D->Option D}{fa fb:En->Option D}{Z:En}{a b d:D}(h1:fa Z=some a)(h2:fb Z=some b)(h3:g a b=some d):ag g fa fb Z=some d:=by
 unfold ag;rw[h1];show(fb Z).bind _=_;rw[h2];exact h3
theorem VT(l:List Int):bq (l.map iD)=true:=nQ λd hd=>by
 obtain⟨i,_,rfl⟩:=jK.mp hd;rfl
theorem VU(A:List ((Int×Int)×(Int×bw)))(L:List (Int×List (Int×Int×Option Int)))(Q:List ((Int×Int)×List (Int×Str)))(k:Int)(r:Row)(hs:dm r=none):sH K C [bt C A L Q,iD k,av .lst r]=some (.nd .lst ((jN A L Q k r).map iD)):=by
 have h1:kL K C [av .lst r]=some (.sc .az):=by rw[ES,gi,hs]
 have h2:jN A L Q k r= []:=by unfold jN;rw[hs]
 rw[h2];generalize av .lst r=R at *;generalize bt C A L Q=M at *;unfold sH AH;dsimp only;refine jY (ρ':= [some (.ro M),some (.ro (iD k)),some (.ro R),some (.own (.sc .az)),none,none,none,none,none,none])
  (aK (ρ':= [some (.ro M),some (.ro (iD k)),some (.ro R),some (.own (.sc .az)),none,none,none,none,none,none]) (eX (fM (aj.mpr ⟨[R],rfl,(if_pos rfl).trans h1⟩)) rfl) (iG ?_))
 simp[bD,ae,cP,eg,iO,eQ,ag,cu]
theorem VW(A:List ((Int×Int)×(Int×bw)))(L:List (Int×List (Int×Int×Option Int)))(Q:List ((Int×Int)×List (Int×Str)))(k:Int)(r:Row)(f v:Int)(c:Str)(hs:dm r=some (f,v,c))(hc:dU c=true)(hL:((lk f L).getD []).length < 2000)(hQ:((lk (f,v) Q).getD []).length < 2000)(sM:∀x∈(lk (f,v) Q).getD [],dU x.2=true):
  sH K C [bt C A L Q,iD k,av .lst r]=some (.nd .lst ((jN A L Q k r).map iD)):=by
 have h1:kL K C [av .lst r]=some (tp [iD f,iD v,sD c]):=by rw[ES,gi,hs]
 have h2:jN A L Q k r=((((lk f L).getD []).filter (jG (jF A k r) v (dG r))).map (·.1))++((((lk (f,v) Q).getD []).filter (mi c)).map (·.1)):=by unfold jN;rw[hs]
 have h3:=VS (C:=C) A L Q k r (tp [iD f,iD v,sD c]) (by rw[hs];exact λz=>nomatch z);have g1:=EU pU L f (.nd .lst []);have g2:=AR oo Q f v (.nd .lst []);rw[VP]at g1;rw[VQ]at g2;rw[h2];have p1:∀Z:En,nS (aE "least") (aC 0) (some (.ro (bt C A L Q))::Z)=some (.ro (j3 pU L)):=λZ=>rfl;have p2:∀Z:En,nS (aE "contents") (aC 0) (some (.ro (bt C A L Q))::Z)=some (.ro (bP oo Q)):=λZ=>rfl;generalize jF A k r=a at *;have hr:=sJ .lst r;generalize dG r=h at *;generalize av .lst r=R at *;generalize bt C A L Q=M at *;generalize (lk f L).getD []=l at *;generalize (lk (f,v) Q).getD []=m at *;obtain⟨y6,y7,y8,n6,n7,n8,eL⟩:=EV M k R (tp [iD f,iD v,sD c]) a (jG a v h) (λx aG x6 x7 x8 h6 h7 h8 ha=>VR M k R f v c a h hr x aG x6 x7 x8 h6 h7 h8 ha) l [] none none none aO aO aO (by simp;lia);rw[Bv]at eL;unfold sH AH;dsimp only;refine jY (ρ':=jH M k R (tp [iD f,iD v,sD c]) a ((l.filter (jG a v h)).map λx=>iD x.1) y6 y7 y8 (some (.ro (oo m))))
  (aK (ρ':= [some (.ro M),some (.ro (iD k)),some (.ro R),some (.own (tp [iD f,iD v,sD c])),none,none,none,none,none,none]) (eX (fM (aj.mpr ⟨[R],rfl,(if_pos rfl).trans h1⟩)) rfl)
  (aK (ρ':= [some (.ro M),some (.ro (iD k)),some (.ro R),some (.own (tp [iD f,iD v,sD c])),none,none,none,none,none,none]) ?_
  (aK (ρ':= [some (.ro M),some (.ro (iD k)),some (.ro R),some (.own (tp [iD f,iD v,sD c])),some (.own (iD a)),none,none,none,none,none]) (eX (pV h3 rfl) rfl)
  (aK (ρ':=jH M k R (tp [iD f,iD v,sD c]) a [] none none none none) ?_
  (aK (ρ':=jH M k R (tp [iD f,iD v,sD c]) a ((l.filter (jG a v h)).map λx=>iD x.1) y6 y7 y8 none) (aj.mpr ⟨l.map om,aj.mpr ⟨pU l,EW (p1 _) (y:=iD f) (x:= .nd .lst []) rfl ?_ g1,rfl⟩,eL⟩)
  (aK (ρ':=jH M k R (tp [iD f,iD v,sD c]) a ((l.filter (jG a v h)).map λx=>iD x.1) y6 y7 y8 (some (.ro (oo m)))) (Lw (p2 _) (EW (p2 _) (y:= .nd .tup [iD f,iD v]) (x:= .nd .lst []) ?_ ?_ g2) ?_)
  (ij (fM (b9 (a:= .nd .lst ((l.filter (jG a v h)).map λx=>iD x.1)) (b:= .nd .lst ((m.filter (mi c)).map λx=>iD x.1)) rfl (uD m uX (mi c) (λx=>iD x.1) rfl ?_ rfl ?_) ?_)))))))))
 ·simp[tp,bD,ae,cP,eg,iO,eQ,ag,cu]
 ·simp[jH,dP,aR,eQ,el,ig,eC,iy]
 ·simp[bu]
 ·simp[jH,tp,sD,iD,bD,au,ae,bp,cE,bJ,aq,ah,ar,cv,bM,bu,ag,iC]
 ·simp[bu]
 ·simp[jH,bg n6,bg n7,bg n8,aR,el,ig,eC,iy]
 ·exact dC (my hQ) (by decide)
 ·intro x hx;have VX:=sM x hx;refine⟨[some (.ro (iD x.1)),some (.ro (sD x.2)),some (.ro (tp [iD f,iD v,sD c]))], ?_, ?_,λ_=> ?_⟩
  ·simp[uX,tp,jH,iD,sD,bD,aR,jc,ae,dD,gz,el,eC,iy]
  ·have e:=DM x.2 c VX hc;simp[mi,sD,iD,tp,e,bD,ae,bp,cE,bJ,aq,ah,ar,cv,bM,ag]
  ·simp[iD,bD,ae,VL.plain,gB]
 ·have z1:(l.filter (jG a v h)).length<=l.length:=BC _ _;have z2:(m.filter (mi c)).length<=m.length:=BC _ _;have z3:((l.filter (jG a v h)).map λx=>iD x.1).length + ((m.filter (mi c)).map λx=>iD x.1).length<=aN:=dC (by simp;lia:_<=4000) (by decide);have z4:bq (((l.filter (jG a v h)).map λx=>iD x.1)++(m.filter (mi c)).map λx=>iD x.1)=true:=by
   have:=VT (((l.filter (jG a v h)).map (·.1))++(m.filter (mi c)).map (·.1));rw[cf,Gp,Gp]at this;exact this
  show(if _ then _ else _)=_;rw[if_pos ⟨z3,z4⟩,cf,Gp,Gp];rfl
end K55
namespace SF
open PySem L2 VL
def Al(Z:En):Prop:=∀b∈Z,NA b\/∃r,b=some (.aT r [])
theorem EX{Z:En}(h:Al Z):gA Z=Z:=by
 unfold gA;have:∀b∈Z,jv Z b=b:=λb hb=>by
  rcases h b hb with n | ⟨r,rfl⟩
  ·exact Tv n
  ·simp[jv]
 exact(List.map_congr_left this).trans (List.map_id' Z)
theorem Al.set{Z:En}(h:Al Z)(r:Nat)(e:D):Al (Z.set r (some (.own e))):=λb hb=>by
 rcases List.mem_or_eq_of_mem_set hb with z | z
 ·exact h b z
 ·subst z;exact .inl ba
theorem mj{Z:En}(h:Al Z)(r:Nat)(d0:D)(p:List Nat)(d':D):gE Z r d0 p d'=Z.set r (some (.own (bf d0 p d'))):=by
 unfold gE;rw[EX (h.set r _),tL]
section
variable {α β κ:Type}[DecidableEq β][DecidableEq κ]
theorem Lx{fp:En->Option Pl}{fy fv:En->Option D}{Z:En}{r j:Nat}{k0:Kd}{cs:List D}{y:D}(kd:List κ->Kd)(kk:β->κ)(inj:∀a b,kk a=kk b->a=b)(g:α->D)(b:β)(a:α)(L:List (β×List α))
  (EY:Al Z) (iu:r < Z.length) (h1:fp Z=some (.rt r [j])) (h2:fy Z=some y) (hd:aP Z r=some (.nd k0 cs)) (hk:cV k0=false) (hj:cs[j]?=some (.nd (kd (L.map λx=>kk x.1)) (L.map λx=> .nd .lst (x.2.map g))))
  (hi:∀ks,cV (kd ks)=false) (hp:∀ks vs,bp (.nd (kd ks) vs) y=some (cX (kk b) ks)) (hn:∀ks vs e,xh (kd ks) vs y e=if vs.length < aN/\cX (kk b) ks=none then some (.nd (kd (ks++ [kk b])) (vs++ [e])) else none)
  (VY:fv Z=some (g a)) (wO:∀e,fv (Z.set r (some (.own e)))=some (g a)) (hl:L.length < aN) (xy:∀as,lk b L=some as->as.length < aN):
  qL fp fy fv Z=some (.sc .az,Z.set r (some (.own (.nd k0 (cs.set j (.nd (kd ((fY b a L).map λx=>kk x.1)) ((fY b a L).map λx=> .nd .lst (x.2.map g)))))))):=by
 have DS:j < cs.length:=(cb.mp hj).1;have n0:∀(k:Kd) (xs:List D),cV k=false->¬ (cV k=true/\bq xs=true):=λk xs h z=>by rw[h]at z;exact bh z.1
 have gp:∀(k:Kd) (xs:List D) (n:Nat) (p:List Nat) (c:D),cV k=false->xs[n]?=some c->aJ (.nd k xs) (n::p)=aJ c p:=λk xs n p c h e=>by
  rw[aJ,if_neg (n0 k xs h),e]
 have sp:∀(k:Kd) (xs:List D) (n:Nat) (p:List Nat) (c e:D),xs[n]?=some c->bf (.nd k xs) (n::p) e= .nd k (xs.set n (bf c p e)):=λk xs n p c e h=>by
  rw[bf,h]
 have g0:∀d:D,aJ d []=some d:=λd=>by cases d <;> rfl
 have s0:∀d e:D,bf d [] e=e:=λd e=>by cases d <;> rfl
 have na:gw Z r [j]=some (.nd k0 cs,kd (L.map λx=>kk x.1),L.map λx=> .nd .lst (x.2.map g)):=by
  unfold gw;rw[hd];show(aJ (.nd k0 cs) [j]).bind _=_;rw[gp k0 cs j [] _ hk hj,g0];rfl
 unfold qL;rw[h1];show(fy Z).bind _=_;rw[h2];show(gw Z r [j]).bind _=_;rw[na];show(bp _ y).bind _=_;rw[hp];rcases sI kk inj (λl:List α=>D.nd .lst (l.map g)) b L with⟨i,as,q1,q2,q3⟩ | ⟨q1,q2⟩
 ·rw[q1];show(if cV _=false then _ else _)=_;rw[if_pos (hi _),VY];show(ja Z r ([j]++ [i]) (jW (g a))).map _=_;have nb:gw Z r ([j]++ [i])=some (.nd k0 cs, .lst,as.map g):=by
   unfold gw;rw[hd];show(aJ (.nd k0 cs) [j,i]).bind _=_;rw[gp k0 cs j [i] _ hk hj,gp _ _ i [] _ (hi _) q3,g0];rfl
  unfold ja;rw[nb];show((jW (g a) (as.map g)).map _).map _=_;unfold jW;rw[if_pos (by rw[eG];exact xy as q2)];show some (D.sc .az,gE Z r (.nd k0 cs) ([j]++ [i]) (.nd .lst (as.map g++ [g a])))=_;obtain⟨k1,wN,k2,k3⟩:=Lu kk inj (λl:List α=>D.nd .lst (l.map g)) b a L i q1;rw[q2]at k2;cases k2;rw[mj EY];show some (D.sc .az,Z.set r (some (.own (bf (.nd k0 cs) [j,i] _))))=_;rw[sp k0 cs j [i] _ _ hj,sp _ _ i [] _ _ q3,s0,k1,k3,cf];rfl
 ·rw[q1];show(xh _ _ y _).bind _=_;rw[hn,if_pos ⟨by rw[eG];exact hl,q1⟩];have e1:gE Z r (.nd k0 cs) [j] (.nd (kd ((L.map λx=>kk x.1)++ [kk b])) ((L.map λx=>D.nd .lst (x.2.map g))++ [.nd .lst []]))=Z.set r (some (.own (.nd k0 (cs.set j (.nd (kd ((L.map λx=>kk x.1)++ [kk b])) ((L.map λx=>D.nd .lst (x.2.map g))++ [.nd .lst []])))))):=by
   rw[mj EY,sp k0 cs j [] _ _ hj,s0]
  rw[bo];dsimp only;rw[e1];have r1:∀e:D,aP (Z.set r (some (.own e))) r=some e:=λe=>wF iu;rw[r1,bo];have EZ:∀e:D,(cs.set j e)[j]?=some e:=λe=>eN DS;rw[gp k0 _ j [] _ hk (EZ _),g0,if_pos (NH),wO,bo];have Ly:((L.map λx=>D.nd .lst (x.2.map g))++ [D.nd .lst []])[(L.map λx=>D.nd .lst (x.2.map g)).length]?=some (D.nd .lst []):=by simp
  unfold ja;have nb:gw (Z.set r (some (.own (.nd k0 (cs.set j (.nd (kd ((L.map λx=>kk x.1)++ [kk b])) ((L.map λx=>D.nd .lst (x.2.map g))++ [.nd .lst []]))))))) r ([j]++ [(L.map λx=>D.nd .lst (x.2.map g)).length])=some (.nd k0 (cs.set j (.nd (kd ((L.map λx=>kk x.1)++ [kk b])) ((L.map λx=>D.nd .lst (x.2.map g))++ [.nd .lst []]))), .lst, []):=by
   unfold gw;rw[r1];show(aJ (.nd k0 _) [j,_]).bind _=_;rw[gp k0 _ j _ _ hk (EZ _),gp _ _ _ [] _ (hi _) Ly,g0];rfl
  rw[nb];rw[bo];dsimp only;unfold jW;rw[if_pos (by show 0 < aN;decide),mD,mD,mj (EY.set r _),tL];rw[show([j]++ [(L.map λx=>D.nd .lst (x.2.map g)).length]:List Nat)= [j,(L.map λx=>D.nd .lst (x.2.map g)).length] from rfl];rw[sp k0 _ j _ _ _ (EZ _),sp _ _ _ [] _ _ Ly,s0,tL,Lv kk inj b a L q1];simp
end
end SF
namespace K55
open PySem L2 VL SF
variable {K:ak}{C:Addr}[dz K C]
def bY(k:Int)(R:D)(s3 s4 s5 s6:Option B)(M:D):En:= [some (.aT 7 []),some (.ro (iD k)),some (.ro R),s3,s4,s5,s6,some (.own M)]
theorem E1(k:Int)(R M:D){s3 s4 s5 s6:Option B}(h3:NA s3)(h4:NA s4)(h5:NA s5)(h6:NA s6):Al (bY k R s3 s4 s5 s6 M):=λb hb=>by
 simp only[bY,bx,dw,or_false]at hb;rcases hb with rfl | rfl | rfl | rfl | rfl | rfl | rfl | rfl
 ·exact .inr ⟨7,rfl⟩
 ·exact .inl bX
 ·exact .inl bX
 ·exact .inl h3
 ·exact .inl h4
 ·exact .inl h5
 ·exact .inl h6
 ·exact .inl ba
theorem Lz{fy fv:En->Option D}(A:List ((Int×Int)×(Int×bw)))(L:List (Int×List (Int×Int×Option Int)))(Q:List ((Int×Int)×List (Int×Str)))(k:Int)(R:D){s3 s4 s5 s6:Option B}(h3:NA s3)(h4:NA s4)(h5:NA s5)(h6:NA s6)(f:Int)(x:Int×Int×Option Int)
  (hy:fy (bY k R s3 s4 s5 s6 (bt C A L Q))=some (iD f)) (hv:∀M,fv (bY k R s3 s4 s5 s6 M)=some (om x)) (hl:L.length < 2000) (xy:∀as,lk f L=some as->as.length < 2000):
  gv (qL (nS (aE "least") (aC 0)) fy fv) (bY k R s3 s4 s5 s6 (bt C A L Q))=some (.nx (bY k R s3 s4 s5 s6 (bt C A (fY f x L) Q))):=by
 have e:=Lx (Z:=bY k R s3 s4 s5 s6 (bt C A L Q)) (r:=7) (j:=1) (k0:= .obj C mh) (cs:= [bP bG A,j3 pU L,bP oo Q]) (fp:=nS (aE "least") (aC 0)) (fy:=fy) (fv:=fv) (y:=iD f) Kd.cy k1 AQ om f x L (E1 k R _ h3 h4 h5 h6) (by simp[bY]) rfl hy rfl rfl rfl (λ_=>rfl) (λ_ _=>rfl) (λ_ _ _=>rfl) (hv _) (λM=>hv M) (df hl (by decide)) (λas h=>df (xy as h) (by decide));unfold gv;rw[e];rfl
theorem VZ{fy fv:En->Option D}(A:List ((Int×Int)×(Int×bw)))(L:List (Int×List (Int×Int×Option Int)))(Q:List ((Int×Int)×List (Int×Str)))(k:Int)(R:D){s3 s4 s5 s6:Option B}(h3:NA s3)(h4:NA s4)(h5:NA s5)(h6:NA s6)(f v:Int)(x:Int×Str)
  (hy:fy (bY k R s3 s4 s5 s6 (bt C A L Q))=some (.nd .tup [iD f,iD v])) (hv:∀M,fv (bY k R s3 s4 s5 s6 M)=some (uX x)) (hl:Q.length < 2000) (xy:∀as,lk (f,v) Q=some as->as.length < 2000):
  gv (qL (nS (aE "contents") (aC 0)) fy fv) (bY k R s3 s4 s5 s6 (bt C A L Q))=some (.nx (bY k R s3 s4 s5 s6 (bt C A L (fY (f,v) x Q)))):=by
 have e:=Lx (Z:=bY k R s3 s4 s5 s6 (bt C A L Q)) (r:=7) (j:=2) (k0:= .obj C mh) (cs:= [bP bG A,j3 pU L,bP oo Q]) (fp:=nS (aE "contents") (aC 0)) (fy:=fy) (fv:=fv) (y:= .nd .tup [iD f,iD v]) Kd.dk k2 pT uX (f,v) x Q (E1 k R _ h3 h4 h5 h6) (by simp[bY]) rfl hy rfl rfl rfl (λ_=>rfl) (λ_ _=>rfl) (λ_ _ _=>rfl) (hv _) (λM=>hv M) (df hl (by decide)) (λas h=>df (xy as h) (by decide));unfold gv;rw[e];rfl
variable {K:ak}{C:Addr}[dz K C]
def Bd{α β:Type}[DecidableEq β](n:Nat)(L:List (β×List α)):Prop:=L.length<=n/\∀f as,lk f L=some as->as.length<=n
theorem LA{α β:Type}[DecidableEq β](f:β)(x:α):∀L:List (β×List α),(fY f x L).length<=L.length + 1
 | []=>by simp[fY]
 |y::L=>by
  unfold fY
  split
  ·simp
  ·have:=LA f x L;simp;lia
theorem Bd.add{α β:Type}[DecidableEq β]{n:Nat}{L:List (β×List α)}(h:Bd n L)(f:β)(x:α):Bd (n + 1) (fY f x L):=by
 refine⟨dC (LA f x L) (BB h.1),λc as e=> ?_⟩;rw[ET]at e;by_cases q:c=f
 ·rw[if_pos q]at e;cases e;cases w:lk f L with
  |none=>simp
  |some z=>have:=h.2 f z w;simp;exact this
 ·rw[if_neg q]at e;exact N0 (h.2 c as e)
theorem Bd.mono{α β:Type}[DecidableEq β]{n m:Nat}{L:List (β×List α)}(h:Bd n L)(hm:n<=m):Bd m L:=⟨dC h.1 hm,λf as e=>dC (h.2 f as e) hm⟩
def putAll(k:Int)(ps:List (Int×Int))(L:List (Int×List (Int×Int×Option Int))):List (Int×List (Int×Int×Option Int)):=ps.foldl (λL p=>fY p.1 (k,p.2,none) L) L
theorem LB(A:List ((Int×Int)×(Int×bw)))(Q:List ((Int×Int)×List (Int×Str)))(k:Int)(R:D){s3 s4:Option B}(h3:NA s3)(h4:NA s4):∀(ps:List (Int×Int)) (n:Nat) (L:List (Int×List (Int×Int×Option Int))) (s5 s6:Option B),NA s5->NA s6->Bd n L->n + ps.length < 1999->
  ∃t5 t6,NA t5/\NA t6/\de (gz 2 (dD (λd Z=>some (aR 5 (B.ro d) Z)) (dD (λd Z=>some (aR 6 (B.ro d) Z)) λds Z=>match ds with | []=>some Z | x=>none)))
   (gv (qL (nS (aE "least") (aC 0)) (ae 5) (bu Kd.tup (au (gB (ae 1)) (au (gB (ae 6)) (au (λx=>some (D.sc V.az)) λx=>some []))))))
   (ps.map λp=>tp [iD p.1,iD p.2]) (bY k R s3 s4 s5 s6 (bt C A L Q))=some (.nx (bY k R s3 s4 t5 t6 (bt C A (putAll k ps L) Q)))
 | [],n,L,s5,s6,h5,h6,hb,hn=>⟨s5,s6,h5,h6,rfl⟩
 |p::ps,n,L,s5,s6,h5,h6,hb,hn=>by
  have e1:gz 2 (dD (λd Z=>some (aR 5 (B.ro d) Z)) (dD (λd Z=>some (aR 6 (B.ro d) Z)) λds Z=>match ds with | []=>some Z | x=>none)) (tp [iD p.1,iD p.2]) (bY k R s3 s4 s5 s6 (bt C A L Q))=some (bY k R s3 s4 (some (.ro (iD p.1))) (some (.ro (iD p.2))) (bt C A L Q)):=by
   generalize bt C A L Q=M;simp[tp,bY,iD,bg h3,bg h4,bg h5,bg h6,aR,dD,gz,el,ig,eC,si]
  have e2:=Lz (C:=C) (fy:=ae 5) (fv:=bu Kd.tup (au (gB (ae 1)) (au (gB (ae 6)) (au (λx=>some (D.sc V.az)) λx=>some [])))) A L Q k R (s5:=some (.ro (iD p.1))) (s6:=some (.ro (iD p.2))) h3 h4 bX bX p.1 (k,p.2,none) rfl (λM=>by simp[bY,om,tp,oD,iD,bD,au,ae,bu,VL.plain,gB,zH]) (p5 hb.1 (by simp at hn;lia)) (λas h=>p5 (hb.2 _ as h) (by simp at hn;lia));obtain⟨t5,t6,n5,n6,e3⟩:=LB A Q k R h3 h4 ps (n + 1) (fY p.1 (k,p.2,none) L) (some (.ro (iD p.1))) (some (.ro (iD p.2))) bX bX (hb.add _ _) (by simp at hn;lia);refine⟨t5,t6,n5,n6, ?_⟩;rw[eO,de,e1];show(gv _ _).bind _=_;rw[e2];exact e3
variable {K:ak}{C:Addr}[dz K C]
def iT(k:Int)(r:Row)(L:List (Int×List (Int×Int×Option Int))):List (Int×List (Int×Int×Option Int)):=match dm r with
 |some (f,v,_)=>fY f (k,v,some (dG r)) L
 |none=>L
def gU(k:Int)(r:Row)(Q:List ((Int×Int)×List (Int×Str))):List ((Int×Int)×List (Int×Str)):=match dm r with
 |some (f,v,c)=>fY (f,v) (k,c) Q
 |none=>Q
def gW(A:List ((Int×Int)×(Int×bw)))(r:Row):Option bw:=(lk (dG r,num r) A).map (·.2)
theorem V0(r:Row)(q:Option bw)(h:oA r q):(cC r q).length<=10:=by
 cases r with
 |eE=>simp[cC]
 |ask=>simp[cC]
 |told h' n a=>
  cases a with
  |di v x=>obtain⟨f,v',c,rfl⟩:=h;simp[cC]
  |joined ps=>
   obtain⟨ds,rfl,hd⟩:=h;have z:=BC (λx:jD×jP=>iS x.1 && jg x.2) (ds.zip ps);have w:(ds.zip ps).length<=ds.length:=by simp;lia
   simp only[cC,eG]
   lia
  |_=>simp[cC]
theorem pW(q:bw):VL.plain (bj q)=true:=by
 cases q with
 |join ds=>
  have:bq (ds.map br)=true:=nQ λd hd=>by
   obtain⟨x,_,rfl⟩:=jK.mp hd;exact xw x
  simp[bj,tp,VL.plain,bq,this,sD]
 |_=>rfl
theorem V1{i:Nat}{fp:En->Option Pl}{fd fy fx gx:En->Option D}{Z:En}{r:Nat}{p:List Nat}{x:Option Fl}(h1:fp Z=some (.rt r p))(h2:dP i (gu (mS fd fy gx)) Z=x):uM i fp fd fy fx gx Z=x:=by
 unfold uM;rw[h1];exact h2
theorem E2{fd fy fx:En->Option D}{Z:En}{dd y x d:D}(h1:fd Z=some dd)(h2:fy Z=some y)(h3:fx Z=some x)(h4:((bp dd y).bind λ
  |some i=>bM dd i
  |none=>some x)=some d):mS fd fy fx Z=some d:=by
 unfold mS;rw[h1];show(fy Z).bind _=_;rw[h2];show(fx Z).bind _=_;rw[h3];exact h4
theorem V2(A:List ((Int×Int)×(Int×bw)))(L:List (Int×List (Int×Int×Option Int)))(Q:List ((Int×Int)×List (Int×Str)))(k:Int)(r:Row)(R:D)(hR:ar ah aq R (.sc (.int 1))=some (iD (dG r)))(n:Nat)(hb:Bd n L)(hq:Bd n Q)(hn:n < 1900):
  cP (λZ=>aY (λb=>(b,Z)) ((ag (eg λx=> !x) (ae 3) (λx=>some (D.sc V.az)) Z).bind λx=>match x with | D.sc (V.bl b)=>some b | x=>none))
   (bO (gv (qL (nS (aE "least") (aC 0)) (ag (ar ah aq) (ae 3) λx=>some (D.sc (V.int 0))) (bu Kd.tup (au (gB (ae 1)) (au (gB (ag (ar ah aq) (ae 3) λx=>some (D.sc (V.int 1)))) (au (gB (ag (ar ah aq) (ae 2) λx=>some (D.sc (V.int 1)))) λx=>some []))))))
    (gv (qL (nS (aE "contents") (aC 0)) (bu Kd.tup (au (ag (ar ah aq) (ae 3) λx=>some (D.sc (V.int 0))) (au (ag (ar ah aq) (ae 3) λx=>some (D.sc (V.int 1))) λx=>some []))) (bu Kd.tup (au (gB (ae 1)) (au (gB (ag (ar ah aq) (ae 3) λx=>some (D.sc (V.int 2)))) λx=>some []))))))
   (λZ=>some (Fl.nx Z)) (bY k R (some (.own (gi r))) none none none (bt C A L Q))=some (.nx (bY k R (some (.own (gi r))) none none none (bt C A (iT k r L) (gU k r Q)))):=by
 cases hs:dm r with
 |none=>
  have e:gi r= .sc .az:=by unfold gi;rw[hs]
  have e1:iT k r L=L:=by unfold iT;rw[hs]
  have e2:gU k r Q=Q:=by unfold gU;rw[hs]
  rw[e,e1,e2,bR (b:=false) rfl,if_neg bh]
 |some x=>
  obtain⟨f,v,c⟩:=x;have e:gi r=tp [iD f,iD v,sD c]:=by unfold gi;rw[hs]
  have e1:iT k r L=fY f (k,v,some (dG r)) L:=by unfold iT;rw[hs]
  have e2:gU k r Q=fY (f,v) (k,c) Q:=by unfold gU;rw[hs]
  rw[e,e1,e2,bR (b:=true) rfl,if_pos rfl];have a1:∀M,ag (ar ah aq) (ae 2) (λx=>some (D.sc (V.int 1))) (bY k R (some (.own (tp [iD f,iD v,sD c]))) none none none M)=some (iD (dG r)):=λM=>hR;refine aK (Lz A L Q k R ba aO aO aO f (k,v,some (dG r)) rfl (λM=> ?_) (p5 hb.1 (by lia)) (λas h=>p5 (hb.2 _ as h) (by lia))) (VZ A _ Q k R ba aO aO aO f v (k,c) ?_ (λM=> ?_) (p5 hq.1 (by lia)) (λas h=>p5 (hq.2 _ as h) (by lia)))
  ·have a1:=a1 M;generalize ag (ar ah aq) (ae 2) (λx=>some (D.sc (V.int 1)))=F at *;generalize dG r=hh at *;have b1:ae 1 (bY k R (some (.own (tp [iD f,iD v,sD c]))) none none none M)=some (iD k):=rfl;have b2:ag (ar ah aq) (ae 3) (λx=>some (D.sc (V.int 1))) (bY k R (some (.own (tp [iD f,iD v,sD c]))) none none none M)=some (iD v):=rfl;generalize bY k R (some (.own (tp [iD f,iD v,sD c]))) none none none M=Z at *;simp[bu,au,gB,a1,b1,b2,om,tp,oD,iD,VL.plain,zH]
  ·have b1:ag (ar ah aq) (ae 3) (λx=>some (D.sc (V.int 0))) (bY k R (some (.own (tp [iD f,iD v,sD c]))) none none none (bt C A (fY f (k,v,some (dG r)) L) Q))=some (iD f):=rfl;have b2:ag (ar ah aq) (ae 3) (λx=>some (D.sc (V.int 1))) (bY k R (some (.own (tp [iD f,iD v,sD c]))) none none none (bt C A (fY f (k,v,some (dG r)) L) Q))=some (iD v):=rfl;generalize bY k R (some (.own (tp [iD f,iD v,sD c]))) none none none (bt C A (fY f (k,v,some (dG r)) L) Q)=Z at *;simp[bu,au,b1,b2,iC]
  ·have b1:ae 1 (bY k R (some (.own (tp [iD f,iD v,sD c]))) none none none M)=some (iD k):=rfl;have b2:ag (ar ah aq) (ae 3) (λx=>some (D.sc (V.int 2))) (bY k R (some (.own (tp [iD f,iD v,sD c]))) none none none M)=some (sD c):=rfl;generalize bY k R (some (.own (tp [iD f,iD v,sD c]))) none none none M=Z at *;simp[bu,au,gB,b1,b2,uX,tp,iD,sD,VL.plain,iC]
variable {K:ak}{C:Addr}[dz K C]
theorem V3{n:Nat}{bc:List Bool}{f:En->Option Fl}{ds o:List D}{ρ':En}(h:f (nV n bc ds)=some (.nx ρ'))(ho:jM (ρ'.drop n)=some o):gF n bc f ds=some (.sc .az,o):=by
 unfold gF;rw[h];show(jM (ρ'.drop n)).map _=_;rw[ho];rfl
theorem V4(o:Option (Int×bw)):VL.plain (ly bG o (.nd .tup [iD 0, .sc .az]))=true:=by
 cases o with
 |none=>rfl
 |some x=>simp[ly,bG,tp,VL.plain,bq,iD,pW]
theorem V5(o:Option (Int×bw)):ar ah aq (ly bG o (.nd .tup [iD 0, .sc .az])) (.sc (.int 1))=some (dn (o.map (·.2))):=by cases o <;> rfl
theorem LC{k:Int}{r:Row}{L:List (Int×List (Int×Int×Option Int))}{n:Nat}(h:Bd n L):Bd (n + 1) (iT k r L):=by
 unfold iT
 split
 ·exact h.add _ _
 ·exact h.mono (xY n)
theorem V6(A:List ((Int×Int)×(Int×bw)))(L:List (Int×List (Int×Int×Option Int)))(Q:List ((Int×Int)×List (Int×Str)))(k:Int)(r:Row)(hr:∀h n q,r≠ .ask h n q)(n:Nat)(hb:Bd n L)(hq:Bd n Q)(hn:n < 1900)(hf:oA r (gW A r)):
  qO K C [bt C A L Q,iD k,av .lst r]=some (.sc .az, [bt C A (putAll k (cC r (gW A r)) (iT k r L)) (gU k r Q)]):=by
 have h1:=ES (K:=K) (C:=C) .lst r;have h2:=VM (K:=K) (C:=C) r (gW A r) hf;have h3:=V0 r (gW A r) hf;have r1:=sJ .lst r;have r2:=AS .lst r;have st:=V2 (C:=C) A L Q k r (av .lst r) r1 n hb hq hn;have t0:∀M:D,(ag (aF id) (ag (ar ah aq) (ae 2) λx=>some (D.sc (V.int 0))) (λx=>some (D.sc (V.str (aE "ask")))) (bY k (av .lst r) none none none none M)).bind (λx=>match x with | D.sc (V.bl b)=>some b | x=>none)=some false:=λM=>by
  cases r with
  |ask h n q=>exact absurd rfl (hr h n q)
  |eE h f v c=>simp[av,tp,sD,iD,EO,bY,bD,ae,bp,cE,bJ,aq,ah,ar,cv,bM,ag]
  |told h n a=>simp[av,tp,sD,iD,AO,bY,bD,ae,bp,cE,bJ,aq,ah,ar,cv,bM,ag]
 have g:=AR bG A (dG r) (num r) (.nd .tup [iD 0, .sc .az]);have ap:=V4 (lk (dG r,num r) A);have ai:=V5 (lk (dG r,num r) A);generalize ho:ly bG (lk (dG r,num r) A) (.nd .tup [iD 0, .sc .az])=Ak at *;obtain⟨t5,t6,n5,n6,eL⟩:=LB (C:=C) A (gU k r Q) k (av .lst r) (s3:=some (.own (gi r))) (s4:=some (.own Ak)) ba ba (cC r (gW A r)) (n + 1) (iT k r L) none none aO aO (LC hb) (by lia);generalize av .lst r=R at *;unfold qO AI;dsimp only;refine V3 (ρ':=bY k R (some (.own (gi r))) (some (.own Ak)) t5 t6 (bt C A (putAll k (cC r (gW A r)) (iT k r L)) (gU k r Q)))
  (aK (ρ':=bY k R none none none none (bt C A L Q)) ((bR (t0 _)).trans (if_neg bh))
  (aK (ρ':=bY k R (some (.own (gi r))) none none none (bt C A L Q)) (eX (fM (aj.mpr ⟨[R],rfl,(if_pos rfl).trans h1⟩)) rfl)
  (aK st
  (aK (ρ':=bY k R (some (.own (gi r))) (some (.own Ak)) none none (bt C A (iT k r L) (gU k r Q))) (V1 (r:=7) (p:= [0]) rfl (eX (pV (E2 (dd:=bP bG A) (y:= .nd .tup [iD (dG r),iD (num r)]) (x:= .nd .tup [iD 0, .sc .az]) rfl ?_ ?_ g) ap) rfl))
   (aj.mpr ⟨(cC r (gW A r)).map λp=>tp [iD p.1,iD p.2],aj.mpr ⟨.nd .lst ((cC r (gW A r)).map λp=>tp [iD p.1,iD p.2]),aj.mpr ⟨[R,dn (gW A r)], ?_,(if_pos rfl).trans h2⟩,rfl⟩,eL⟩))))) rfl
 ·have b1:ag (ar ah aq) (ae 2) (λx=>some (D.sc (V.int 1))) (bY k R (some (.own (gi r))) none none none (bt C A (iT k r L) (gU k r Q)))=some (iD (dG r)):=r1;have b2:ag (ar ah aq) (ae 2) (λx=>some (D.sc (V.int 2))) (bY k R (some (.own (gi r))) none none none (bt C A (iT k r L) (gU k r Q)))=some (iD (num r)):=r2;generalize bY k R (some (.own (gi r))) none none none (bt C A (iT k r L) (gU k r Q))=Z at *;simp[bu,au,b1,b2,iC]
 ·simp[bu,au,iD,iC]
 ·have b1:ae 2 (bY k R (some (.own (gi r))) (some (.own Ak)) none none (bt C A (iT k r L) (gU k r Q)))=some R:=rfl;have b2:ag (ar ah aq) (ae 4) (λx=>some (D.sc (V.int 1))) (bY k R (some (.own (gi r))) (some (.own Ak)) none none (bt C A (iT k r L) (gU k r Q)))=some (dn (gW A r)):=ai;generalize bY k R (some (.own (gi r))) (some (.own Ak)) none none (bt C A (iT k r L) (gU k r Q))=Z at *;simp[au,b1,b2]
variable {K:ak}{C:Addr}[dz K C]
theorem E3{fv:En->Option (D×En)}{fp:En->Option Pl}{fy:En->Option D}{Z ρ':En}{d y d0 d':D}{r:Nat}{p:List Nat}{kk:Kd}{cs:List D}(h1:fv Z=some (d,Z))(h2:fp Z=some (.rt r p))(h3:fy Z=some y)(h4:gw Z r p=some (d0,kk,cs))(h5:qH kk cs y d=some d')(e:gE Z r d0 p d'=ρ'):uF fv fp fy Z=some (.nx ρ'):=by
 unfold uF;rw[h1];show(fp Z).bind _=_;rw[h2];show(fy Z).bind _=_;rw[h3];show(gw Z r p).bind _=_;rw[h4];show(qH kk cs y d).map _=_;rw[h5, <- e];rfl
theorem V7(A:List ((Int×Int)×(Int×bw)))(L:List (Int×List (Int×Int×Option Int)))(Q:List ((Int×Int)×List (Int×Str)))(k h n:Int)(q:bw)(hl:A.length < 2000)(ml:(A.map λx=>k2 x.1).Nodup)(oZ:lk (h,n) A=none):
  qO K C [bt C A L Q,iD k,av .lst (.ask h n q)]=some (.sc .az, [bt C (A++ [((h,n),(k,q))]) L Q]):=by
 have t0:∀M:D,(ag (aF id) (ag (ar ah aq) (ae 2) λx=>some (D.sc (V.int 0))) (λx=>some (D.sc (V.str (aE "ask")))) (bY k (av .lst (.ask h n q)) none none none none M)).bind (λx=>match x with | D.sc (V.bl b)=>some b | x=>none)=some true:=λM=>by
  simp[av,tp,sD,iD,AN,bY,bD,ae,bp,cE,bJ,aq,ah,ar,cv,bM,ag]
 have pn:cX (k2 (h,n)) (A.map λx=>k2 x.1)=none:=by
  rcases sI k2 pT bG (h,n) A with⟨i,a,q1,q2,_⟩ | ⟨q1,_⟩
  ·rw[oZ]at q2;cases q2
  ·exact q1
 have e5:qH (.dk (A.map λx=>k2 x.1)) (A.map λx=>bG x.2) (.nd .tup [iD h,iD n]) (bG (k,q))=some (bP bG (A++ [((h,n),(k,q))])):=by
  show(if(A.map λx=>bG x.2).length < aN/\(A.map λx=>k2 x.1).Nodup then _ else _)=_;rw[if_pos ⟨by rw[eG];exact df hl (by decide),ml⟩];show(match cX (k2 (h,n)) (A.map λx=>k2 x.1) with | some i=>_ | none=>_)=_;rw[pn];simp[bP,k2]
 have r1:=sJ .lst (.ask h n q);have r2:=AS .lst (.ask h n q);have r3:ar ah aq (av .lst (.ask h n q)) (.sc (.int 3))=some (bj q):=rfl;have rp:=pW q;generalize av .lst (.ask h n q)=R at *;unfold qO AI;dsimp only;refine jz (ρ':=bY k R none none none none (bt C (A++ [((h,n),(k,q))]) L Q)) (iG (((bR (t0 _)).trans (if_pos rfl)).trans (aK (ρ':=bY k R none none none none (bt C (A++ [((h,n),(k,q))]) L Q)) (E3 (d:=bG (k,q)) (y:= .nd .tup [iD h,iD n]) (r:=7) (p:= [0]) (d0:=bt C A L Q) (kk:= .dk (A.map λx=>k2 x.1)) (cs:=A.map λx=>bG x.2) ?_ rfl ?_ rfl e5 ?_) rfl))) rfl
 ·have b1:ag (ar ah aq) (ae 2) (λx=>some (D.sc (V.int 3))) (bY k R none none none none (bt C A L Q))=some (bj q):=r3;have b2:fK 1 (bY k R none none none none (bt C A L Q))=some (iD k,bY k R none none none none (bt C A L Q)):=rfl;show fQ _ (bY k R none none none none (bt C A L Q))=some (bG (k,q),bY k R none none none none (bt C A L Q));generalize bY k R none none none none (bt C A L Q)=Z at *;simp[fQ,bU,gu,b1,b2,rp,bG,tp,iC]
 ·have b1:ag (ar ah aq) (ae 2) (λx=>some (D.sc (V.int 1))) (bY k R none none none none (bt C A L Q))=some (iD h):=r1;have b2:ag (ar ah aq) (ae 2) (λx=>some (D.sc (V.int 2))) (bY k R none none none none (bt C A L Q))=some (iD n):=r2;show bu _ _ (bY k R none none none none (bt C A L Q))=_;generalize bY k R none none none none (bt C A L Q)=Z at *;simp[bu,au,b1,b2,iC]
 ·show gE (bY k R none none none none (bt C A L Q)) 7 _ _ _=_;rw[mj (E1 k R _ aO aO aO aO)];rfl
variable {K:ak}{C:Addr}[dz K C]
theorem xA{X:D}{T:String}{b:Bool}(h:qM T [X, .sc (.ty T)]=some (.sc (.bl b))):((au (ae 0) (au (λx=>some (D.sc (V.ty T))) λx=>some []) [some (B.ro X)]).bind (qM T)).bind (λx=>match x with | D.sc (V.bl b)=>some b | x=>none)=some b:=by
 show(qM T [X, .sc (.ty T)]).bind _=_;rw[h];rfl
theorem LD(m:Nat)(x:V)(h1:qM "list" [.sc x, .sc (.ty "list")]=some (.sc (.bl false)))(h2:qM "tuple" [.sc x, .sc (.ty "tuple")]=some (.sc (.bl false))):gM K C (m + 1) [.sc x]=some (.sc x):=by
 rw[gM];unfold AG xq;dsimp only;refine jY (ρ':= [some (.ro (.sc x))]) (aK (ρ':= [some (.ro (.sc x))]) ((bR (b:=false) (xA h1)).trans (if_neg bh)) (aK (ρ':= [some (.ro (.sc x))]) ((bR (b:=false) (xA h2)).trans (if_neg bh)) (ij ?_)));rfl
theorem E4{α:Type}(m:Nat)(l:List α)(g h:α->D)(hl:l.length<=aN)(hc:∀a∈l,gM K C m [g a]=some (h a)):gM K C (m + 1) [.nd .tup (l.map g)]=some (.nd .tup (l.map h)):=by
 rw[gM];unfold AG xq;dsimp only;refine jY (ρ':= [some (.ro (.nd .tup (l.map g)))]) (aK (ρ':= [some (.ro (.nd .tup (l.map g)))]) ((bR (b:=false) (xA rfl)).trans (if_neg bh)) (iG ((bR (b:=true) (xA rfl)).trans ((if_pos rfl).trans (ij (fM (aj.mpr ⟨D.nd .lst (l.map h), ?_,rfl⟩)))))));have e:=uD (n:=1) (js:= [none]) (is:= [0]) (fi:=λZ=>(ae 0 Z).bind jX) (fg:=λd Z=>some (aR 0 (B.ro d) Z)) (ft:=λx=>some true) (fe:=λZ=>(au (ae 0) (λx=>some []) Z).bind λds=>if ds.length=1 then gM K C m ds else none) (Z:= [some (.ro (.nd .tup (l.map g)))]) l g (λ_=>true) h rfl hl rfl (λa ha=>⟨[some (.ro (g a))],rfl,rfl,λ_=>aj.mpr ⟨[g a],rfl,(if_pos rfl).trans (hc a ha)⟩⟩);rw[Gm.mpr (λ_ _=>rfl)]at e;exact e
theorem E5{α:Type}(k:Kd)(hk:k= .lst\/k= .aA)(m:Nat)(l:List α)(g h:α->D)(hl:l.length<=aN)(hc:∀a∈l,gM K C m [g a]=some (h a)):gM K C (m + 1) [.nd k (l.map g)]=some (.nd .lst (l.map h)):=by
 have hi:jX (.nd k (l.map g))=some (l.map g):=by rcases hk with rfl | rfl <;> rfl
 have ht:qM "list" [.nd k (l.map g), .sc (.ty "list")]=some (.sc (.bl true)):=by rcases hk with rfl | rfl <;> rfl
 rw[gM];unfold AG xq;dsimp only;refine jY (ρ':= [some (.ro (.nd k (l.map g)))]) (iG ((bR (b:=true) (xA ht)).trans ((if_pos rfl).trans (ij (fM ?_)))));have e:=uD (n:=1) (js:= [none]) (is:= [0]) (fi:=λZ=>(ae 0 Z).bind jX) (fg:=λd Z=>some (aR 0 (B.ro d) Z)) (ft:=λx=>some true) (fe:=λZ=>(au (ae 0) (λx=>some []) Z).bind λds=>if ds.length=1 then gM K C m ds else none) (Z:= [some (.ro (.nd k (l.map g)))]) l g (λ_=>true) h hi hl rfl (λa ha=>⟨[some (.ro (g a))],rfl,rfl,λ_=>aj.mpr ⟨[g a],rfl,(if_pos rfl).trans (hc a ha)⟩⟩);rw[Gm.mpr (λ_ _=>rfl)]at e;exact e
theorem qR(m:Nat)(i:Int):gM K C (m + 1) [iD i]=some (iD i):=LD m _ rfl rfl
theorem mU(m:Nat)(c:Str):gM K C (m + 1) [sD c]=some (sD c):=LD m _ rfl rfl
theorem sN(m:Nat)(l:List D)(hl:l.length<=10)(hc:∀a∈l,gM K C m [a]=some a):gM K C (m + 1) [tp l]=some (tp l):=by
 have:=E4 (K:=K) (C:=C) m l id id (dC hl (by decide)) hc;rw[List.map_id]at this;exact this
theorem V8(m:Nat)(d:jD):gM K C (m + 2) [br d]=some (br d):=by
 cases d <;> exact sN _ _ (by simp) λa ha=>by
  simp only[bx,dw,or_false]at ha;rcases ha with rfl | rfl | rfl | rfl <;> first | exact mU m _ | exact qR m _
theorem V9(m:Nat)(d:jP):gM K C (m + 2) [cB d]=some (cB d):=by
 cases d <;> exact sN _ _ (by simp) λa ha=>by
  simp only[bx,dw,or_false]at ha
  (first | (rcases ha with rfl | rfl | rfl) | (rcases ha with rfl | rfl)) <;> first | exact mU m _ | exact qR m _
def uZ:jD->Prop
 |.make c=>dU c=true
 |.di _ _ c=>dU c=true
def mV:bw->Prop
 |.di _ _ c=>dU c=true
 |.join ds=>ds.length < 5/\∀d∈ds,uZ d
 |_=>True
def xB:mf->Prop
 |.refused w=>dU w=true
 |.joined ps=>ps.length < 5
 |.file _ _ c _=>dU c=true
 |_=>True
def pX:Row->Prop
 |.eE _ _ _ c=>dU c=true
 |.ask _ _ q=>mV q
 |.told _ _ a=>xB a
theorem Wa(m:Nat)(q:bw)(h:mV q):gM K C (m + 4) [bj q]=some (bj q):=by
 cases q with
 |join ds=>
  refine sN _ _ (by simp) λa ha=> ?_;simp only[bx,dw,or_false]at ha;rcases ha with rfl | rfl
  ·exact mU _ _
  ·exact E4 _ ds br br (dC (my h.1) (by decide)) λd _=>V8 m d
 |_=>
  exact sN _ _ (by simp) λa ha=>by
   simp only[bx,dw,or_false]at ha
   (first | (rcases ha with rfl | rfl | rfl | rfl) | (rcases ha with rfl | rfl) | (subst ha)) <;> first | exact mU _ _ | exact qR _ _
theorem E6(m:Nat)(l:List (D×D))(hl:l.length<=10)(hc:∀a∈l,gM K C m [a.1]=some a.2):gM K C (m + 1) [tp (l.map (·.1))]=some (tp (l.map (·.2))):=E4 m l _ _ (dC hl (by decide)) hc
theorem Wb(m:Nat)(q:mf)(h:xB q):gM K C (m + 4) [cx .aA q]=some (cx .lst q):=by
 cases q with
 |joined ps=>
  refine E6 _ [(sD "joined",sD "joined"),(.nd .aA (ps.map cB), .nd .lst (ps.map cB))] (by simp) λa ha=> ?_;simp only[bx,dw,or_false]at ha;rcases ha with rfl | rfl
  ·exact mU _ _
  ·exact E5 .aA (.inr rfl) _ ps cB cB (dC (my h) (by decide)) λd _=>V9 m d
 |folder=>
  refine E6 _ [(sD "folder",sD "folder"),(iD 0,iD 0),(.nd .aA [sD "a",sD "clash"], .nd .lst [sD "a",sD "clash"])] (by simp) λa ha=> ?_;simp only[bx,dw,or_false]at ha;rcases ha with rfl | rfl | rfl
  ·exact mU _ _
  ·exact qR _ _
  ·have:=E5 (K:=K) (C:=C) .aA (.inr rfl) (m + 2) [sD "a",sD "clash"] id id (by decide) λd hd=>by
    simp only[bx,dw,or_false]at hd;rcases hd with rfl | rfl <;> exact mU _ _
   exact this
 |_=>
  exact sN _ _ (by simp) λa ha=>by
   simp only[bx,dw,or_false]at ha
   (first | (rcases ha with rfl | rfl | rfl | rfl | rfl) | (rcases ha with rfl | rfl | rfl) | (rcases ha with rfl | rfl) | (subst ha)) <;> first | exact mU _ _ | exact qR _ _
theorem Wc(r:Row)(h:pX r):gM K C 5 [av .aA r]=some (av .lst r):=by
 cases r with
 |eE h f v c=>
  exact sN _ _ (by simp) λa ha=>by
   simp only[bx,dw,or_false]at ha;rcases ha with rfl | rfl | rfl | rfl | rfl <;> first | exact mU _ _ | exact qR _ _
 |ask a n q=>
  exact sN _ _ (by simp) λa ha=>by
   simp only[bx,dw,or_false]at ha;rcases ha with rfl | rfl | rfl | rfl <;> first | exact mU _ _ | exact qR _ _ | exact Wa 0 q h
 |told a n q=>
  exact E6 _ [(sD "told",sD "told"),(iD a,iD a),(iD n,iD n),(cx .aA q,cx .lst q)] (by simp) λa ha=>by
   simp only[bx,dw,or_false]at ha;rcases ha with rfl | rfl | rfl | rfl <;> first | exact mU _ _ | exact qR _ _ | exact Wb 0 q h
theorem Wd(k:Kd)(hk:k= .lst\/k= .aA)(rs:List Row)(hl:rs.length < 1000)(h:∀r∈rs,pX r):uQ K C [.nd k (rs.map (av .aA))]=some (.nd .lst (rs.map (av .lst))):=
 E5 k hk 5 rs _ _ (dC (my hl) (by decide)) λr hr=>Wc r (h r hr)
variable {K:ak}{C:Addr}[dz K C]
noncomputable def aD:Int->List Row->List ((Int×Int)×(Int×bw))
 |_, []=> []
 |k, .ask h n q::rs=>((h,n),(k,q))::aD (k + 1) rs
 |k, .eE ..::rs=>aD (k + 1) rs
 |k, .told ..::rs=>aD (k + 1) rs
noncomputable def AU (k:Int) (r:Row) (A:List ((Int×Int)×(Int×bw))):List ((Int×Int)×(Int×bw)):=match r with
 |.ask h n q=>A++ [((h,n),(k,q))]
 |_=>A
def qS(k:Int)(r:Row)(A:List ((Int×Int)×(Int×bw)))(L:List (Int×List (Int×Int×Option Int))):List (Int×List (Int×Int×Option Int)):=putAll k (cC r (gW A r)) (iT k r L)
def run:Int->List ((Int×Int)×(Int×bw))->List (Int×List (Int×Int×Option Int))->List ((Int×Int)×List (Int×Str))->List Row->Option (Int×Int)
 |_,_,_,_, []=>none
 |k,A,L,Q,r::rs=>match jN A L Q k r with
  |i::is=>some (je i is,k)
  | []=>run (k + 1) (AU k r A) (qS k r A L) (gU k r Q) rs
def hZ(A:List ((Int×Int)×(Int×bw)))(r:Row):List (Int×Int×Option Str):=(match dm r with
 |some (f,v,c)=> [(f,v,some c)]
 |none=> [])++(cC r (gW A r)).map λp=>(p.1,p.2,none)
noncomputable def ku (b h f v:Int) (c:Str) (i hi:Int) (t:Int×Int×Option Str):Bool:=(decide (t.1=f) && (decide (v < t.2.1) && (decide (i < b) && (decide (t.2.2=none) || decide (hi=h))))) || (decide (t.1=f) && (decide (t.2.1=v) && (decide (t.2.2≠none) && decide (t.2.2≠some c))))
def kN(A:List ((Int×Int)×(Int×bw)))(rs:List Row)(b h f v:Int)(c:Str)(i:Nat):Bool:=match rs[i]? with
 |some ri=>(hZ A ri).any (ku b h f v c i (dG ri))
 |none=>false
def mm(A:List ((Int×Int)×(Int×bw)))(rs:List Row)(k:Nat)(r:Row):Option (Int×Int):=match dm r with
 |none=>none
 |some (f,v,c)=>((jm k).find? (kN A rs (jF A k r) (dG r) f v c)).map λi:Nat=>((i:Int),(k:Int))
def kO(rs:List Row):Option (Int×Int):=rs.zipIdx.findSome? λx=>mm (aD 0 rs) rs x.2 x.1
structure gX(rs:List Row):Prop where
 told:∀(i:Nat) (h n:Int) (a:mf),rs[i]?=some (.told h n a)->∃(j:Nat) (q:bw),j < i/\rs[j]?=some (.ask h n q)/\oA (.told h n a) (some q)
 one:∀(i j:Nat) (h n:Int) (q q':bw),rs[i]?=some (.ask h n q)->rs[j]?=some (.ask h n q')->i=j
 ok:∀r∈rs,pX r
theorem gX.take{rs:List Row}(s:gX rs)(m:Nat):gX (rs.take m):=by
 have g:∀{i:Nat} {r:Row},(rs.take m)[i]?=some r->i < m/\rs[i]?=some r:=λ{i r} h=>by
  rw[NQ]at h
  split at h
  ·exact⟨by assumption,h⟩
  ·cases h
 refine⟨λi h n a e=> ?_,λi j h n q q' e e'=>s.one i j h n q q' (g e).2 (g e').2,λr hr=>s.ok r (Zf hr)⟩;obtain⟨l,e⟩:=g e;obtain⟨j,q,hj,ej,hf⟩:=s.told i h n a e;exact⟨j,q,hj,by rw[NQ,if_pos (Nat.lt_trans hj l)];exact ej,hf⟩
theorem u0(h n:Int):∀(rs:List Row) (k:Int),(lk (h,n) (aD k rs)=none/\∀(j:Nat) (q:bw),rs[j]?≠some (.ask h n q))\/∃(j:Nat) (q:bw),rs[j]?=some (.ask h n q)/\lk (h,n) (aD k rs)=some (k + j,q)
 | [],k=> .inl ⟨rfl,λj q z=>by simp at z⟩
 |r::rs,k=>by
  have skip:aD k (r::rs)=aD (k + 1) rs->(∀q,r≠ .ask h n q)->((lk (h,n) (aD k (r::rs))=none/\∀(j:Nat) (q:bw),(r::rs)[j]?≠some (.ask h n q))\/∃(j:Nat) (q:bw),(r::rs)[j]?=some (.ask h n q)/\lk (h,n) (aD k (r::rs))=some (k + j,q)):=λe ne=>by
   rw[e];rcases u0 h n rs (k + 1) with⟨h1,h2⟩ | ⟨j,q,h1,h2⟩
   ·exact .inl ⟨h1,λj q z=>by
     cases j with
     |zero=>simp at z;exact ne q z
     |succ j=>simp at z;exact h2 j q z⟩
   ·exact .inr ⟨j + 1,q,by simpa using h1,by rw[h2];congr 2;simp;lia⟩
  cases r with
  |eE=>exact skip rfl λq z=>by cases z
  |told=>exact skip rfl λq z=>by cases z
  |ask h' n' q'=>
   by_cases c:(h',n')=(h,n)
   ·obtain⟨rfl,rfl⟩:=Prod.mk.inj c;exact .inr ⟨0,q',rfl,by simp[aD,lk]⟩
   ·have e:lk (h,n) (aD k (.ask h' n' q'::rs))=lk (h,n) (aD (k + 1) rs):=by
     show(if(h',n')=(h,n) then _ else _)=_;rw[if_neg c]
    rw[e];rcases u0 h n rs (k + 1) with⟨h1,h2⟩ | ⟨j,q,h1,h2⟩
    ·exact .inl ⟨h1,λj q z=>by
      cases j with
      |zero=>simp at z;exact c (by rw[z.1,z.2.1])
      |succ j=>simp at z;exact h2 j q z⟩
    ·exact .inr ⟨j + 1,q,by simpa using h1,by rw[h2];congr 2;simp;lia⟩
theorem xC{rs:List Row}(s:gX rs){j:Nat}{h n:Int}{q:bw}(e:rs[j]?=some (.ask h n q)):lk (h,n) (aD 0 rs)=some ((j:Int),q):=by
 rcases u0 h n rs 0 with⟨_,h2⟩ | ⟨i,q',h1,h2⟩
 ·exact absurd e (h2 j q)
 ·have:=s.one i j h n q' q h1 e;subst this;rw[e]at h1;cases h1;rw[h2];simp
theorem LF:∀(a b:List Row) (k:Int),aD k (a++b)=aD k a++aD (k + a.length) b
 | [],b,k=>by simp[aD]
 |r::a,b,k=>by
  have e:k + 1 + (a.length:Int)=k + ((r::a).length:Nat):=by simp;lia
  have ih:=LF a b (k + 1);rw[e]at ih;cases r <;> simp only[By,aD,ih]
theorem sO(a:List Row)(r:Row):aD 0 (a++ [r])=AU a.length r (aD 0 a):=by
 rw[LF];cases r <;> simp[aD,AU]
theorem AV{α β:Type}[DecidableEq β](b:β)(a:α)(c:β)(L:List (β×List α))(x:α):x∈(lk c (fY b a L)).getD []↔x∈(lk c L).getD []\/(c=b/\x=a):=by
 rw[ET];by_cases e:c=b
 ·subst e;simp
 ·simp[e]
theorem LG(k f:Int)(x:Int×Int×Option Int):∀(ps:List (Int×Int)) (L:List (Int×List (Int×Int×Option Int))),x∈(lk f (putAll k ps L)).getD []↔x∈(lk f L).getD []\/(x.1=k/\(f,x.2.1)∈ps/\x.2.2=none)
 | [],L=>by simp[putAll]
 |p::ps,L=>by
  show x∈(lk f (putAll k ps (fY p.1 (k,p.2,none) L))).getD []↔_;rw[LG k f x ps,AV];obtain⟨p1,p2⟩:=p;obtain⟨x1,x2,x3⟩:=x
  constructor
  ·rintro((h | ⟨rfl,h⟩) | ⟨h1,h2,h3⟩)
   ·exact .inl h
   ·cases h;exact .inr ⟨rfl, .head _,rfl⟩
   ·exact .inr ⟨h1, .tail _ h2,h3⟩
  ·rintro(h | ⟨h1,h2,h3⟩)
   ·exact .inl (.inl h)
   ·cases h2 with
    |head=>left;right;simp at h1 h3;subst h1;subst h3;exact⟨rfl,rfl⟩
    |tail _ h2=>exact .inr ⟨h1,h2,h3⟩
structure Kn(full pre:List Row)(L:List (Int×List (Int×Int×Option Int)))(Q:List ((Int×Int)×List (Int×Str))):Prop where
 l:∀(f:Int) (x:Int×Int×Option Int),x∈(lk f L).getD []↔∃(j:Nat) (r:Row),pre[j]?=some r/\x.1=j/\((∃c,dm r=some (f,x.2.1,c)/\x.2.2=some (dG r))\/((f,x.2.1)∈cC r (gW (aD 0 full) r)/\x.2.2=none))
 q:∀(f v:Int) (y:Int×Str),y∈(lk (f,v) Q).getD []↔∃(j:Nat) (r:Row),pre[j]?=some r/\y.1=j/\dm r=some (f,v,y.2)
theorem Kn.nil(full:List Row):Kn full [] [] []:=⟨λf x=>by simp[lk],λf v y=>by simp[lk]⟩
theorem iU{α:Type}{a:List α}{x y:α}{j:Nat}:(a++ [x])[j]?=some y↔a[j]?=some y\/(j=a.length/\y=x):=by
 by_cases c:j < a.length
 ·rw[aV c];exact⟨.inl,λh=>h.elim id λz=>by lia⟩
 ·rw[bL (by lia)];have:a[j]?=none:=Zn (by lia);rw[this];by_cases d:j=a.length
  ·subst d;simp[eq_comm]
  ·have:([x]:List α)[j - a.length]?=none:=Zn (by simp;lia);rw[this];simp[d]
theorem Kn.step{full pre:List Row}{L:List (Int×List (Int×Int×Option Int))}{Q:List ((Int×Int)×List (Int×Str))}(h:Kn full pre L Q)(r:Row)(A:List ((Int×Int)×(Int×bw)))(hA:cC r (gW A r)=cC r (gW (aD 0 full) r)):Kn full (pre++ [r]) (qS pre.length r A L) (gU pre.length r Q):=by
 constructor
 ·intro f x;unfold qS;rw[LG,hA];have e:x∈(lk f (iT pre.length r L)).getD []↔x∈(lk f L).getD []\/(x.1=pre.length/\∃c,dm r=some (f,x.2.1,c)/\x.2.2=some (dG r)):=by
   unfold iT;cases hs:dm r with
   |none=>simp
   |some y=>
    obtain⟨f',v',c'⟩:=y;dsimp only;rw[AV];obtain⟨x1,x2,x3⟩:=x
    constructor
    ·rintro(z | ⟨rfl,z⟩)
     ·exact .inl z
     ·cases z;exact .inr ⟨rfl,c',rfl,rfl⟩
    ·rintro(z | ⟨z1,c,z2,z3⟩)
     ·exact .inl z
     ·cases z2;simp at z1 z3;subst z1;subst z3;exact .inr ⟨rfl,rfl⟩
  rw[e,h.l]
  constructor
  ·rintro((⟨j,s,z1,z2,z3⟩ | ⟨z1,c,z2,z3⟩) | ⟨z1,z2,z3⟩)
   ·exact⟨j,s,iU.mpr (.inl z1),z2,z3⟩
   ·exact⟨pre.length,r,iU.mpr (.inr ⟨rfl,rfl⟩),z1, .inl ⟨c,z2,z3⟩⟩
   ·exact⟨pre.length,r,iU.mpr (.inr ⟨rfl,rfl⟩),z1, .inr ⟨z2,z3⟩⟩
  ·rintro⟨j,s,z1,z2,z3⟩;rcases iU.mp z1 with z1 | ⟨rfl,rfl⟩
   ·exact .inl (.inl ⟨j,s,z1,z2,z3⟩)
   ·rcases z3 with⟨c,z3,z4⟩ | ⟨z3,z4⟩
    ·exact .inl (.inr ⟨z2,c,z3,z4⟩)
    ·exact .inr ⟨z2,z3,z4⟩
 ·intro f v y;have e:y∈(lk (f,v) (gU pre.length r Q)).getD []↔y∈(lk (f,v) Q).getD []\/(y.1=pre.length/\dm r=some (f,v,y.2)):=by
   unfold gU;cases hs:dm r with
   |none=>simp
   |some z=>
    obtain⟨f',v',c'⟩:=z;dsimp only;rw[AV];obtain⟨y1,y2⟩:=y
    constructor
    ·rintro(z | ⟨z1,z⟩)
     ·exact .inl z
     ·cases z;cases z1;exact .inr ⟨rfl,rfl⟩
    ·rintro(z | ⟨z1,z2⟩)
     ·exact .inl z
     ·cases z2;simp at z1;subst z1;exact .inr ⟨rfl,rfl⟩
  rw[e,h.q]
  constructor
  ·rintro(⟨j,s,z1,z2,z3⟩ | ⟨z1,z2⟩)
   ·exact⟨j,s,iU.mpr (.inl z1),z2,z3⟩
   ·exact⟨pre.length,r,iU.mpr (.inr ⟨rfl,rfl⟩),z1,z2⟩
  ·rintro⟨j,s,z1,z2,z3⟩;rcases iU.mp z1 with z1 | ⟨rfl,rfl⟩
   ·exact .inl ⟨j,s,z1,z2,z3⟩
   ·exact .inr ⟨z2,z3⟩
theorem xD(A:List ((Int×Int)×(Int×bw)))(r:Row)(t:Int×Int×Option Str):t∈hZ A r↔(∃f v c,dm r=some (f,v,c)/\t=(f,v,some c))\/∃p∈cC r (gW A r),t=(p.1,p.2,none):=by
 unfold hZ;rw[lJ];refine or_congr ?_ (by simp[eq_comm]);cases dm r with
 |none=>simp
 |some y=>obtain⟨f,v,c⟩:=y;simp;exact⟨λh=>⟨f,v,c,⟨rfl,rfl,rfl⟩,h⟩,λ⟨_,_,_,⟨a,b,d⟩,h⟩=>by subst a;subst b;subst d;exact h⟩
theorem We{full pre:List Row}{L:List (Int×List (Int×Int×Option Int))}{Q:List ((Int×Int)×List (Int×Str))}(kn:Kn full pre L Q)(hp:∀(j:Nat) (r:Row),pre[j]?=some r↔j < pre.length/\full[j]?=some r)(A:List ((Int×Int)×(Int×bw)))(k:Int)(r:Row)(f v:Int)(c:Str)(hs:dm r=some (f,v,c))(i:Int):
  i∈jN A L Q k r↔∃j:Nat,i=j/\j < pre.length/\kN (aD 0 full) full (jF A k r) (dG r) f v c j=true:=by
 generalize hb:jF A k r=b;generalize hh:dG r=h;have e:jN A L Q k r=((((lk f L).getD []).filter (jG b v h)).map (·.1))++((((lk (f,v) Q).getD []).filter (mi c)).map (·.1)):=by unfold jN;rw[hs,hb,hh]
 rw[e,lJ,jK,jK]
 constructor
 ·rintro(⟨x,hx,rfl⟩ | ⟨y,hy,rfl⟩)
  ·obtain⟨m,p⟩:=tE.mp hx;obtain⟨j,s,z1,z2,z3⟩:=(kn.l f x).mp m;obtain⟨l,z1⟩:=(hp j s).mp z1;refine⟨j,z2,l, ?_⟩;unfold kN;rw[z1];dsimp only;rw[Gj];simp only[jG,rj,decide_eq_true_eq,Bool.or_eq_true]at p;rcases z3 with⟨c',z3,z4⟩ | ⟨z3,z4⟩
   ·refine⟨(f,x.2.1,some c'),(xD _ _ _).mpr (.inl ⟨_,_,_,z3,rfl⟩), ?_⟩;rw[z4,z2]at p;simp[ku];simp at p;exact .inl ⟨p.2.1,p.1,p.2.2⟩
   ·refine⟨(f,x.2.1,none),(xD _ _ _).mpr (.inr ⟨_,z3,rfl⟩), ?_⟩;rw[z2]at p;simp[ku];exact⟨p.2.1,p.1⟩
  ·obtain⟨m,p⟩:=tE.mp hy;obtain⟨j,s,z1,z2,z3⟩:=(kn.q f v y).mp m;obtain⟨l,z1⟩:=(hp j s).mp z1;refine⟨j,z2,l, ?_⟩;unfold kN;rw[z1];dsimp only;rw[Gj];refine⟨(f,v,some y.2),(xD _ _ _).mpr (.inl ⟨_,_,_,z3,rfl⟩), ?_⟩;simp only[mi,decide_eq_true_eq]at p;simp[ku,p]
 ·rintro⟨j,rfl,l,t⟩;unfold kN at t;cases z1:full[j]? with
  |none=>rw[z1]at t;cases t
  |some s=>
   rw[z1]at t;dsimp only at t;obtain⟨y,m,p⟩:=Gj.mp t;have z2:=(hp j s).mpr ⟨l,z1⟩;rcases(xD _ _ _).mp m with⟨f',v',c',z3,rfl⟩ | ⟨p',z3,rfl⟩
   ·simp[ku]at p;rcases p with⟨p1,p2,p3,p4⟩ | ⟨p1,p2,p3⟩
    ·left;subst p1;refine⟨((j:Int),v',some (dG s)),tE.mpr ⟨(kn.l _ _).mpr ⟨j,s,z2,rfl, .inl ⟨c',z3,rfl⟩⟩, ?_⟩,rfl⟩;simp[jG,p2,p3,p4]
    ·right;subst p1;subst p2;refine⟨((j:Int),c'),tE.mpr ⟨(kn.q _ _ _).mpr ⟨j,s,z2,rfl,z3⟩, ?_⟩,rfl⟩;simp[mi,p3]
   ·simp[ku]at p
    left;obtain⟨p1,p2,p3⟩:=p;refine⟨((j:Int),p'.2,none),tE.mpr ⟨(kn.l _ _).mpr ⟨j,s,z2,rfl, .inr ⟨by rw[<- p1];exact z3,rfl⟩⟩, ?_⟩,rfl⟩;simp[jG,p2,p3]
theorem Wf(n:Int):∀(ns:List Int),je n ns∈n::ns/\∀x∈n::ns,je n ns<=x:=by
 intro ns
 induction ns generalizing n with
 |nil=>simp[je]
 |cons m ns ih=>
  have e:je n (m::ns)=je (if m < n then m else n) ns:=rfl;rw[e];have hw:(if m < n then m else n)<=m/\(if m < n then m else n)<=n/\((if m < n then m else n)=m\/(if m < n then m else n)=n):=by split <;> lia
  generalize (if m < n then m else n)=w at hw;obtain⟨w1,w2,w3⟩:=hw;obtain⟨h1,h2⟩:=ih w;have h3:=h2 _ (.head _)
  constructor
  ·rcases bx.mp h1 with h | h
   ·rw[h];rcases w3 with rfl | rfl <;> simp
   ·simp[h]
  ·intro x hx;rcases bx.mp hx with rfl | hx
   ·exact N3 h3 w2
   ·rcases bx.mp hx with rfl | hx
    ·exact N3 h3 w1
    ·exact h2 x (.tail _ hx)
def LH:List Int->Option Int
 | []=>none
 |x::xs=>some (je x xs)
theorem Wg(k:Nat)(T:Nat->Bool)(X:List Int)(h:∀i:Int,i∈X↔∃j:Nat,i=j/\j < k/\T j=true):LH X=((jm k).find? T).map λi:Nat=>(i:Int):=by
 cases X with
 |nil=>
  have:(jm k).find? T=none:=by
   rw[List.find?_eq_none];intro j hj t;have:=(h j).mpr ⟨j,rfl,Bn.mp hj,t⟩;cases this
  rw[this];rfl
 |cons x xs=>
  obtain⟨m1,m2⟩:=Wf x xs;obtain⟨j,e,hj,t⟩:=(h _).mp m1;have:(jm k).find? T=some j:=by
   rw[List.find?_range_eq_some];refine⟨t,Bn.mpr hj,λi hi=> ?_⟩;cases q:T i with
   |false=>rfl
   |true=>
    have:=m2 i ((h i).mpr ⟨i,rfl,by lia,q⟩)
    lia
  rw[this];exact congrArg some e
theorem MZ{full:List Row}(s:gX full):∀(jh pre:List Row) (L:List (Int×List (Int×Int×Option Int))) (Q:List ((Int×Int)×List (Int×Str))),full=pre++jh->Kn full pre L Q->run pre.length (aD 0 pre) L Q jh=(jh.zipIdx pre.length).findSome? λx=>mm (aD 0 full) full x.2 x.1
 | [],pre,L,Q,_,_=>rfl
 |r::jh,pre,L,Q,hf,kn=>by
  have hp:∀(j:Nat) (r':Row),pre[j]?=some r'↔j < pre.length/\full[j]?=some r':=λj r'=>by
   rw[hf]
   constructor
   ·intro e;have l:=(cb.mp e).1;exact⟨l,by rw[aV l];exact e⟩
   ·rintro⟨l,e⟩;rw[aV l]at e;exact e
  have hr:full[pre.length]?=some r:=by rw[hf];simp
  have hq:∀h n a,r= .told h n a->lk (h,n) (aD 0 pre)=lk (h,n) (aD 0 full):=λh n a e=>by
   subst e;obtain⟨j,q,l,ej,_⟩:=s.told _ _ _ _ hr;rw[xC s ej];have sp:gX pre:=by have:=s.take pre.length;rw[hf,N4 rfl]at this;exact this
   exact xC sp ((hp j _).mpr ⟨l,ej⟩)
  have hA:cC r (gW (aD 0 pre) r)=cC r (gW (aD 0 full) r):=by
   cases r with
   |eE=>rfl
   |ask=>rfl
   |told h n a=>
    have:gW (aD 0 pre) (.told h n a)=gW (aD 0 full) (.told h n a):=congrArg (·.map (·.2)) (hq h n a rfl);rw[this]
  have hh:dm r≠none->jF (aD 0 pre) pre.length r=jF (aD 0 full) pre.length r:=λz=>by
   cases r with
   |eE=>rfl
   |ask=>exact absurd rfl z
   |told h n a=>exact congrArg (λx=>(x.map (·.1)).getD 0) (hq h n a rfl)
  have hX:(LH (jN (aD 0 pre) L Q pre.length r)).map (λi=>(i,(pre.length:Int)))=mm (aD 0 full) full pre.length r:=by
   unfold mm;cases hs:dm r with
   |none=>
    have e:jN (aD 0 pre) L Q pre.length r= []:=by unfold jN;rw[hs]
    rw[e];rfl
   |some y=>
    obtain⟨f,v,c⟩:=y;have q:=Wg pre.length (kN (aD 0 full) full (jF (aD 0 full) pre.length r) (dG r) f v c) (jN (aD 0 pre) L Q pre.length r) (by rw[<- hh (by rw[hs];exact λz=>nomatch z)];exact We kn hp (aD 0 pre) pre.length r f v c hs);dsimp only;have q2:=congrArg (aY λi:Int=>(i,(pre.length:Int))) q;rw[Option.map_map]at q2;exact q2
  rw[NL,BD];dsimp only;rw[<- hX];unfold run;cases hx:jN (aD 0 pre) L Q pre.length r with
  |cons i is=>rfl
  |nil=>
   have ih:=MZ s jh (pre++ [r]) _ _ (by rw[hf];simp) (kn.step r (aD 0 pre) hA);rw[sO]at ih;rw[b6]at ih;exact ih
theorem Wh{rs:List Row}(s:gX rs):run 0 [] [] [] rs=kO rs:=MZ s rs [] [] [] rfl (Kn.nil rs)
end K55
namespace SF
open PySem L2 VL
theorem Wi{G:List D->Option (D×List D)}{as:List Ar}{ρ1 ρ':En}{ds cW:List D}{d:D}(h1:iw ρ1 as=some ds)(h2:lY (cK as)/\as.all (qA (cK as))=true)(h3:G ds=some (d,cW))(hl:cW.length=(cK as).length)(e:pG ρ1 (cK as) cW=ρ'):qB G as ρ1=some (d,ρ'):=by
 unfold qB;rw[h1,bo,if_pos h2,h3,bo,if_pos hl];dsimp only;rw[e]
theorem oq(d e:D):bf d [] e=e:=by cases d <;> rfl
theorem j5(d:D):aJ d []=some d:=by cases d <;> rfl
theorem AW{Z:En}(h:Al Z){r:Nat}{d0:D}(hr:aP Z r=some d0)(d':D):pG Z [⟨r, []⟩] [d']=Z.set r (some (.own d')):=by
 have e1:dH Z [⟨r, []⟩] [V.az]=Z.set r (some (.own (.hl .az))):=by
  unfold dH;rw[hr];dsimp only;rw[oq];rfl
 show jb Z (gA (dH Z [⟨r, []⟩] [V.az])) [⟨r, []⟩] [d']=_;rw[e1,EX (h.set r _)];unfold jb;dsimp only;rw[hr];dsimp only;rw[oq,tL];rfl
theorem AX{Z:En}(h:Al Z){r s:Nat}{d0 d1:D}(hn:r≠s)(hr:aP Z r=some d0)(hs:aP Z s=some d1)(d' E7:D):pG Z [⟨r, []⟩,⟨s, []⟩] [d',E7]=(Z.set r (some (.own d'))).set s (some (.own E7)):=by
 have e1:dH Z [⟨r, []⟩,⟨s, []⟩] [V.az,V.az]=(Z.set r (some (.own (.hl .az)))).set s (some (.own (.hl .az))):=by
  rw[dH];dsimp only;rw[hr];dsimp only;rw[oq,dH];dsimp only;rw[nR hn,hs];dsimp only;rw[oq];rfl
 show jb Z (gA (dH Z [⟨r, []⟩,⟨s, []⟩] [V.az,V.az])) [⟨r, []⟩,⟨s, []⟩] [d',E7]=_;rw[e1,EX ((h.set r _).set s _),jb];dsimp only;rw[hr];dsimp only;rw[oq,jb];dsimp only;rw[hs];dsimp only;rw[oq];show(((Z.set r _).set s _).set r _).set s _=_;rw[List.set_comm _ _ hn.symm,tL,tL]
theorem E8{α:Type}{fg:D->En->Option En}{fb:En->Option Fl}(g:α->D)(t:α->Option D)(P:En->Prop):∀(l:List α) (Z:En),P Z->
  (∀a∈l,∀Z,P Z->∃ρ1,fg (g a) Z=some ρ1/\match t a with | none=>∃ρ',P ρ'/\(fb ρ1=some (.nx ρ')\/fb ρ1=some (.ct ρ')) | some d=>∃ρ',fb ρ1=some (.rt d ρ'))->
  match l.findSome? t with | none=>∃ρ',P ρ'/\de fg fb (l.map g) Z=some (.nx ρ') | some d=>∃ρ',de fg fb (l.map g) Z=some (.rt d ρ')
 | [],Z,h,_=>⟨Z,h,rfl⟩
 |a::l,Z,h,st=>by
  obtain⟨ρ1,e1,e2⟩:=st a (.head _) Z h;rw[BD];have hd:∀fl,fb ρ1=some fl->de fg fb ((a::l).map g) Z=match fl with | .nx ρ'=>de fg fb (l.map g) ρ' | .ct ρ'=>de fg fb (l.map g) ρ' | .bk ρ'=>some (.nx ρ') | .rt d ρ'=>some (.rt d ρ'):=λfl e=>by
   rw[eO,de,e1];show(fb ρ1).bind _=_;rw[e];cases fl <;> rfl
  cases q:t a with
  |none=>
   rw[q]at e2;obtain⟨ρ',hP,e⟩:=e2;have ih:=E8 g t P l ρ' hP λb hb=>st b (.tail _ hb);dsimp only;rcases e with e | e
   ·rw[hd _ e];exact ih
   ·rw[hd _ e];exact ih
  |some d=>
   rw[q]at e2;obtain⟨ρ',e⟩:=e2;exact⟨ρ',hd _ e⟩
theorem E9{α:Type}(g:α->D):∀(l:List α) (k:Nat),jB k (l.map g)=(l.zipIdx k).map λx=> .nd .tup [.sc (.int x.2),g x.1]
 | [],_=>rfl
 |a::l,k=>by
  rw[eO,jB,E9 g l (k + 1)];rfl
theorem LI{α:Type}{fg:D->En->Option En}{fb:En->Option Fl}(N:Nat)(g:α->D)(p:α->Bool)(h:α->D)(P:List D->En->Prop)(st:∀a aG Z,P aG Z->aG.length < N->∃ρ1 ρ',fg (g a) Z=some ρ1/\fb ρ1=some (.nx ρ')/\P (if p a=true then aG++ [h a] else aG) ρ'):
  ∀(l:List α) (aG:List D) (Z:En),P aG Z->aG.length + l.length<=N->∃ρ',de fg fb (l.map g) Z=some (.nx ρ')/\P (aG++(l.filter p).map h) ρ'
 | [],aG,Z,hP,_=>⟨Z,rfl,by simpa using hP⟩
 |a::l,aG,Z,hP,hl=>by
  obtain⟨ρ1,ρ',e1,e2,Fb⟩:=st a aG Z hP (by simp at hl;lia);obtain⟨Wj,e3,AY⟩:=LI N g p h P st l _ ρ' Fb (by split <;> simp at hl |- <;> lia);refine⟨Wj, ?_, ?_⟩
  ·rw[eO,de,e1];show(fb ρ1).bind _=_;rw[e2];exact e3
  ·cases q:p a with
   |true=>rw[q,if_pos rfl]at AY;rw[NS q,eO];simpa using AY
   |false=>rw[q,if_neg bh]at AY;rw[NT (by rw[q];exact bh)];exact AY
theorem AZ{i:Nat}{fp:En->Option Pl}{Z ρ':En}{q:Pl}{d:D}(h:fp Z=some q)(hd:fB Z q=some d)(pl:VL.plain d=true)(e:aR i (.own d) Z=ρ'):kF i fp Z=some (.nx ρ'):=by
 unfold kF;rw[h,bo,hd,bo,if_pos pl,e]
theorem LJ{fp:En->Option Pl}{fr:En->Option (List Ar)}{Z:En}{d:D}{as:List Ar}(h:fp Z=some (.ro d))(h2:fr Z=some as):eJ fp fr Z=some ((if VL.plain d=true then .tm d else .rv (.ro d) d)::as):=by
 unfold eJ;rw[h,bo];show(if VL.plain d=true then _ else _)=_;rw[h2]
 split <;> rfl
theorem mn{fp:En->Option Pl}{fr:En->Option (List Ar)}{Z:En}{r:Nat}{p:List Nat}{as:List Ar}(h:fp Z=some (.rt r p))(h2:fr Z=some as):cG fp fr Z=some (.io ⟨r,p⟩::as):=by
 unfold cG;rw[h,bo];dsimp only;rw[h2];rfl
theorem Wk{fe:En->Option D}{fr:En->Option (List Ar)}{Z:En}{d:D}{as:List Ar}(h:fe Z=some d)(h2:fr Z=some as):fX fe fr Z=some (.tm d::as):=by
 unfold fX;rw[h,bo,h2];rfl
theorem LK{G:List D->Option (D×List D)}{fa:En->Option (List Ar)}{Z ρ':En}{as:List Ar}{ds cW:List D}{d:D}(h0:fa Z=some as)(h1:iw Z as=some ds)(h2:lY (cK as)/\as.all (qA (cK as))=true)(h3:G ds=some (d,cW))(hl:cW.length=(cK as).length)(e:pG Z (cK as) cW=ρ'):((aY (λa=>(a,Z)) (fa Z)).bind λa=>qB G a.fst a.snd)=some (d,ρ'):=by
 rw[h0,mD,bo];exact Wi h1 h2 h3 hl e
theorem Fc{f:En->Option (D×En)}{Z ρ':En}{d:D}(h:f Z=some (d,ρ')):gv f Z=some (.nx ρ'):=by
 unfold gv;rw[h];rfl
end SF
namespace K55
open PySem L2 VL SF
variable {K:ak}{C:Addr}[dz K C]
def mq:Option Str->D
 |none=> .sc .az
 |some c=>sD c
def ji(t:Int×Int×Option Str):D:=tp [iD t.1,iD t.2.1,mq t.2.2]
theorem Wl(a b c d e:D):cutD [a,b,c,d,e] (some 2) none= [c,d,e]:=rfl
theorem Wm(A:D)(B:List ((Int×Int)×(Int×bw)))(h f v:Int)(c:Str):oh K C [A,av .aA (.eE h f v c)]=some (.nd .lst ((hZ B (.eE h f v c)).map ji)):=by
 simp[oh,sG,av,tp,sD,iD,AM,hZ,dm,cC,ji,mq,Wl,d3,bD,aR,b7,bU,ae,bp,cP,cE,bJ,aq,ah,ar,cv,bM,eQ,ag,VL.plain,bq,cu,bO,jy,iP,fC,fE,zG]
theorem Wn(A:D)(B:List ((Int×Int)×(Int×bw)))(h n:Int)(q:bw):oh K C [A,av .aA (.ask h n q)]=some (.nd .lst ((hZ B (.ask h n q)).map ji)):=by
 simp[oh,sG,av,tp,sD,iD,K6,AN,hZ,dm,cC,d3,bD,aR,b7,bU,ae,bp,cP,cE,bJ,aq,ah,ar,cv,bM,eQ,ag,cu,bO,jy,iP,fC,fE]
theorem u3{g:D->D->Option Nat}{fa:En->Option Pl}{fb:En->Option D}{Z:En}{d b c:D}{i:Nat}(h1:fa Z=some (.ro d))(h2:fb Z=some b)(h3:g d b=some i)(h4:bM d i=some c):cA g fa fb Z=some (.ro c):=by
 unfold cA;rw[h1,bo,h2,bo];show(g d b).bind _=_;rw[h3];show(bM d i).bind _=_;rw[h4];rfl
theorem LL{α:Type}(g:α->D)(l:List ((Int×Int)×α))(b c:Int)(x:α)(h:lk (b,c) l=some x):∃i,ah (bP g l) (.nd .tup [iD b,iD c])=some i/\bM (bP g l) i=some (g x):=by
 rcases sI k2 pT g (b,c) l with⟨i,a,h1,h2,h3⟩ | ⟨h1,h2⟩
 ·rw[h]at h2;cases h2;refine⟨i, ?_,h3⟩;show(bp (bP g l) (.nd .tup [iD b,iD c])).join=_;have e:bp (bP g l) (.nd .tup [iD b,iD c])=some (cX (k2 (b,c)) (l.map λx=>k2 x.1)):=rfl;rw[e,h1];rfl
 ·rw[h]at h2;cases h2
noncomputable def eY (A R Q:D) (x3 x4 x5:Option B):En:= [some (.ro A),some (.ro R),some (.own Q),x3,x4,x5]
theorem Wo(A:List ((Int×Int)×(Int×bw)))(h n p:Int)(q:bw)(a:mf)(hk:lk (h,n) A=some (p,q))(hf:oA (.told h n a) (some q)):oh K C [bP bG A,av .aA (.told h n a)]=some (.nd .lst ((hZ A (.told h n a)).map ji)):=by
 have hq:gW A (.told h n a)=some q:=congrArg (·.map (·.2)) hk;have et:hZ A (.told h n a)=(match dm (.told h n a) with | some (f,v,c)=> [(f,v,some c)] | none=> [])++(cC (.told h n a) (some q)).map λp=>(p.1,p.2,none):=by unfold hZ;rw[hq]<;> rfl
 rw[et];clear et hq;obtain⟨i,e1,e2⟩:=LL bG A h n (p,q) hk;have rp:=pW q;have h1:=sJ .aA (.told h n a);have h2:=AS .aA (.told h n a);have h3:ar ah aq (av .aA (.told h n a)) (.sc (.int 3))=some (cx .aA a):=rfl;have Wq:∀Z:En,cA ah (aC 1) (λx=>some (D.sc (V.int 3))) (some (.ro (bP bG A))::some (.ro (av .aA (.told h n a)))::Z)=some (.ro (cx .aA a)):=λZ=>rfl;have t1:(ag (aF id) (ag (ar ah aq) (ae 1) λx=>some (D.sc (V.int 0))) (λx=>some (D.sc (V.str (aE "saw")))) [some (.ro (bP bG A)),some (.ro (av .aA (.told h n a))),none,none,none,none]).bind (λx=>match x with | D.sc (V.bl b)=>some b | x=>none)=some false:=by
  generalize bP bG A=M;simp[av,tp,sD,iD,mT,bD,ae,bp,cE,bJ,aq,ah,ar,cv,bM,ag]
 have t2:(ag (aF id) (ag (ar ah aq) (ae 1) λx=>some (D.sc (V.int 0))) (λx=>some (D.sc (V.str (aE "ask")))) [some (.ro (bP bG A)),some (.ro (av .aA (.told h n a))),none,none,none,none]).bind (λx=>match x with | D.sc (V.bl b)=>some b | x=>none)=some false:=by
  generalize bP bG A=M;simp[av,tp,sD,iD,AO,bD,ae,bp,cE,bJ,aq,ah,ar,cv,bM,ag]
 generalize bP bG A=M at *;generalize av .aA (.told h n a)=R at *;unfold oh sG;dsimp only;have first:∀{u:En->Option Fl} {d:D} {ρ':En},u (eY M R (bj q) none none none)=some (.rt d ρ')->bO (kF 2 (cA ah (cA ah (aC 0) (bu Kd.tup (au (ag (ar ah aq) (ae 1) λx=>some (D.sc (V.int 1))) (au (ag (ar ah aq) (ae 1) λx=>some (D.sc (V.int 2))) λx=>some [])))) λx=>some (D.sc (V.int 1)))) u [some (.ro M),some (.ro R),none,none,none,none]=some (.rt d ρ'):=λ{u d ρ'} hu=>by
  refine aK (AZ (q:= .ro (bj q)) (d:=bj q) (u3 (d:=bG (p,q)) (i:=1) (b:= .sc (.int 1)) (u3 (d:=M) (i:=i) (b:= .nd .tup [iD h,iD n]) rfl ?_ e1 e2) rfl rfl rfl) rfl rp rfl) hu;have b1:ag (ar ah aq) (ae 1) (λx=>some (D.sc (V.int 1))) [some (.ro M),some (.ro R),none,none,none,none]=some (iD h):=h1;have b2:ag (ar ah aq) (ae 1) (λx=>some (D.sc (V.int 2))) [some (.ro M),some (.ro R),none,none,none,none]=some (iD n):=h2;generalize ([some (.ro M),some (.ro R),none,none,none,none]:En)=Z at *;simp[bu,au,b1,b2,iC]
 have wd:∀(Q:D) (x3 x4 x5:Option B) (w w':Str) (b:Bool),aF id (.sc (.str w)) (.sc (.str w'))=some (.sc (.bl b))->ar ah aq (cx .aA a) (.sc (.int 0))=some (sD w)->(ag (aF id) (ag (ar ah aq) (ag (ar ah aq) (ae 1) λx=>some (D.sc (V.int 3))) λx=>some (D.sc (V.int 0))) (λx=>some (D.sc (V.str w'))) (eY M R Q x3 x4 x5)).bind (λx=>match x with | D.sc (V.bl b)=>some b | x=>none)=some b:=λQ x3 x4 x5 w w' b hb hw=>by
  have a3:ag (ar ah aq) (ae 1) (λx=>some (D.sc (V.int 3))) (eY M R Q x3 x4 x5)=some (cx .aA a):=h3;have a4:ag (ar ah aq) (ag (ar ah aq) (ae 1) λx=>some (D.sc (V.int 3))) (λx=>some (D.sc (V.int 0))) (eY M R Q x3 x4 x5)=some (sD w):=b9 a3 rfl hw;rw[b9 a4 rfl hb];rfl
 have rest:∀{w:Str},ar ah aq (cx .aA a) (.sc (.int 0))=some (sD w)->aF id (.sc (.str w)) (.sc (.str (aE "file")))=some (.sc (.bl false))->aF id (.sc (.str w)) (.sc (.str (aE "shut")))=some (.sc (.bl false))->aF id (.sc (.str w)) (.sc (.str (aE "joined")))=some (.sc (.bl false))->((match dm (.told h n a) with | some (f,v,c)=> [(f,v,some c)] | none=> [])++(cC (.told h n a) (some q)).map λp=>(p.1,p.2,(none:Option Str)))= []->b7 6 (sG K C).1 [M,R]=some (.nd .lst []):=λ{w} hw f1 f2 f3 _=>by
  unfold sG;dsimp only;exact jY (ρ':=eY M R (bj q) none none none) (aK ((bR t1).trans (if_neg bh)) (aK ((bR t2).trans (if_neg bh)) (first
   (aK (ρ':=eY M R (bj q) none none none) ((bR (wd _ _ _ _ _ _ _ f1 hw)).trans (if_neg bh)) (aK (ρ':=eY M R (bj q) none none none) ((bR (wd _ _ _ _ _ _ _ f2 hw)).trans (if_neg bh))
    (aK (ρ':=eY M R (bj q) (some (.own (.nd .lst []))) none none) rfl (aK (ρ':=eY M R (bj q) (some (.own (.nd .lst []))) none none) ((bR (wd _ _ _ _ _ _ _ f3 hw)).trans (if_neg bh)) (by simp[eY,bD,ae,fK,VL.plain,cu]))))))))
 cases a with
 |file f v c x=>
  refine jY (ρ':=eY M R (bj q) none none none) (aK ((bR t1).trans (if_neg bh)) (aK ((bR t2).trans (if_neg bh)) (first (iG (((bR (wd _ _ _ _ _ _ _ Lk rfl)).trans (if_pos rfl)).trans ?_)))));have a3:ag (ar ah aq) (ae 1) (λx=>some (D.sc (V.int 3))) (eY M R (bj q) none none none)=some (cx .aA (.file f v c x)):=h3;generalize ag (ar ah aq) (ae 1) (λx=>some (D.sc (V.int 3)))=F at *;generalize eY M R (bj q) none none none=Z at *;simp[cu,eQ,bU,iP,a3,fE,cx,tp,jy,cutD,HT.bz,bq,VL.plain,iD,sD,dm,cC,ji,mq,zG]
 |di v x=>
  obtain⟨f,v',c,e⟩:=hf;cases e;refine jY (ρ':=eY M R (bj (.di f v' c)) none none none) (aK ((bR t1).trans (if_neg bh)) (aK ((bR t2).trans (if_neg bh)) (first (aK (ρ':=eY M R (bj (.di f v' c)) none none none) ((bR (wd _ _ _ _ _ _ _ Lb rfl)).trans (if_neg bh)) (iG (((bR (wd _ _ _ _ _ _ _ uW rfl)).trans (if_pos rfl)).trans ?_))))));have a3:ag (ar ah aq) (ae 1) (λx=>some (D.sc (V.int 3))) (eY M R (bj (.di f v' c)) none none none)=some (cx .aA (.di v x)):=h3;have a4:ag (ar ah aq) (ag (ar ah aq) (ae 1) λx=>some (D.sc (V.int 3))) (λx=>some (D.sc (V.int 1))) (eY M R (bj (.di f v' c)) none none none)=some (iD v):=b9 a3 rfl rfl;have a5:ag (ar ah aq) (ae 2) (λx=>some (D.sc (V.int 1))) (eY M R (bj (.di f v' c)) none none none)=some (iD f):=rfl;generalize ag (ar ah aq) (ag (ar ah aq) (ae 1) λx=>some (D.sc (V.int 3))) (λx=>some (D.sc (V.int 1)))=F at *;generalize eY M R (bj (.di f v' c)) none none none=Z at *;simp[cu,eQ,fQ,bU,gu,a4,a5,VL.plain,iD,dm,cC,ji,mq,tp,zG,zH]
 |joined ps=>
  obtain⟨ds,e,hd⟩:=hf;cases e;have zp:∀(x3 x4 x5:Option B),DX (cA ah (aC 2) λx=>some (D.sc (V.int 1))) (cA ah (cA ah (aC 1) λx=>some (D.sc (V.int 3))) λx=>some (D.sc (V.int 1))) (eY M R (bj (.join ds)) x3 x4 x5)=some ((ds.zip ps).map λx=>tp [br x.1,cB x.2]):=λx3 x4 x5=>by
   have z1:cA ah (aC 2) (λx=>some (D.sc (V.int 1))) (eY M R (bj (.join ds)) x3 x4 x5)=some (.ro (tp (ds.map br))):=by
    show(if VL.plain (bj (.join ds))=true then _ else _)=_;rw[if_pos rp]
   have z2:cA ah (cA ah (aC 1) λx=>some (D.sc (V.int 3))) (λx=>some (D.sc (V.int 1))) (eY M R (bj (.join ds)) x3 x4 x5)=some (.ro (.nd .aA (ps.map cB))):=u3 (Wq _) rfl (i:=1) rfl rfl;unfold DX;rw[z1,z2,bo,bo];dsimp only;rw[<- zip_map];rfl
  obtain⟨ρ',e3,x4,x5,n4,n5,rfl⟩:=LI (fg:=gz 2 (dD (λd Z=>some (aR 4 (B.ro d) Z)) (dD (λd Z=>some (aR 5 (B.ro d) Z)) λds Z=>match ds with | []=>some Z | x=>none)))
   (fb:=cP (λZ=>aY (λb=>(b,Z)) (d3 (λZ=>(ag (aF id) (ag (ar ah aq) (ae 4) λx=>some (D.sc (V.int 0))) (λx=>some (D.sc (V.str (aE "shut")))) Z).bind λx=>match x with | D.sc (V.bl b)=>some b | x=>none) (λZ=>(ag (aF id) (ag (ar ah aq) (ae 5) λx=>some (D.sc (V.int 0))) (λx=>some (D.sc (V.str (aE "put")))) Z).bind λx=>match x with | D.sc (V.bl b)=>some b | x=>none) Z))
    (gv (mQ (aC 3) (bu Kd.tup (au (gB (ag (ar ah aq) (ae 4) λx=>some (D.sc (V.int 1)))) (au (gB (ag (ar ah aq) (ae 5) λx=>some (D.sc (V.int 1)))) (au (λx=>some (D.sc V.az)) λx=>some [])))))) λZ=>some (Fl.nx Z))
   10 (λx:jD×jP=>tp [br x.1,cB x.2]) (λx=>iS x.1 && jg x.2) (λx=>ji (qP x.1,qQ x.2,none)) (λaG Z=>∃x4 x5,NA x4/\NA x5/\Z=eY M R (bj (.join ds)) (some (.own (.nd .lst aG))) x4 x5)
   (λx aG Z hP fm=>by
    obtain⟨x4,x5,n4,n5,rfl⟩:=hP;obtain⟨d,p⟩:=x;have hz:aG.length < aN:=df fm (by decide);generalize bj (.join ds)=Q;refine⟨eY M R Q (some (.own (.nd .lst aG))) (some (.ro (br d))) (some (.ro (cB p))),eY M R Q (some (.own (.nd .lst (if(iS d && jg p)=true then aG++ [ji (qP d,qQ p,none)] else aG)))) (some (.ro (br d))) (some (.ro (cB p))), ?_, ?_,_,_,bX,bX,rfl⟩
    ·simp[eY,tp,bg n4,bg n5,aR,dD,gz,el,ig,eC]
    ·cases d <;> cases p <;> simp[eY,br,cB,tp,sD,iD,iS,jg,qP,qQ,ji,mq,hz,ER,uW,Lp,Lq,Lr,Ls,d3,jW,mQ,bD,au,ae,bp,gv,gE,aJ,cP,cE,bJ,aq,ah,ar,cv,bM,ja,bu,gw,ag,aC,VL.plain,gB,gA,jv,aP,bf,zH])
   (ds.zip ps) [] (eY M R (bj (.join ds)) (some (.own (.nd .lst []))) none none) ⟨none,none,aO,aO,rfl⟩ (by simp;lia)
  refine jY (ρ':=eY M R (bj (.join ds)) none x4 x5) (aK ((bR t1).trans (if_neg bh)) (aK ((bR t2).trans (if_neg bh)) (first
   (aK (ρ':=eY M R (bj (.join ds)) none none none) ((bR (wd _ _ _ _ _ _ _ Lc rfl)).trans (if_neg bh)) (aK (ρ':=eY M R (bj (.join ds)) none none none) ((bR (wd _ _ _ _ _ _ _ Ld rfl)).trans (if_neg bh))
    (aK (ρ':=eY M R (bj (.join ds)) (some (.own (.nd .lst []))) none none) ?_ (aK (((bR (wd _ _ _ _ _ _ _ Vf rfl)).trans (if_pos rfl)).trans (aj.mpr ⟨_,zp _ _ _,e3⟩)) ?_)))))))
  ·simp[eY,dP,aR,eQ,el,ig,eC,iy]
  ·have e4:([]++((ds.zip ps).filter λx=>iS x.1 && jg x.2).map λx=>ji (qP x.1,qQ x.2,none))=((match dm (.told h n (.joined ps)) with | some (f,v,c)=> [(f,v,some c)] | none=> [])++(cC (.told h n (.joined ps)) (some (.join ds))).map λp=>(p.1,p.2,(none:Option Str))).map ji:=by
    simp[dm,cC]
   rw[e4];generalize List.map ji _=X;simp[eY,bD,ae,fK,VL.plain,cu]
 |ended=>exact rest rfl K7 K8 U8 rfl
 |refused w=>exact rest rfl K9 La Vb rfl
 |ok=>exact rest rfl Le Lf Vi rfl
 |begun=>exact rest rfl Lg Lh Vl rfl
 |folder=>exact rest rfl Li Lj Vo rfl
theorem Wr{rs:List Row}(s:gX rs)(r:Row)(hr:r∈rs):oh K C [bP bG (aD 0 rs),av .aA r]=some (.nd .lst ((hZ (aD 0 rs) r).map ji)):=by
 cases r with
 |eE h f v c=>exact Wm _ _ h f v c
 |ask h n q=>exact Wn _ _ h n q
 |told h n a=>
  obtain⟨i,hi,e⟩:=List.getElem_of_mem hr;obtain⟨j,q,_,ej,hf⟩:=s.told i h n a (by rw[gP hi,e]);exact Wo _ h n _ q a (xC s ej) hf
variable {K:ak}{C:Addr}[dz K C]
def pairD:Option (Int×Int)->D
 |none=> .sc .az
 |some (i,k)=>tp [iD i,iD k]
theorem Fd{α β:Type}[DecidableEq β]{b:β}:∀{l:List (β×α)},lk b l=none->∀x∈l,x.1≠b
 |y::l,h,x,hx=>by
  unfold lk at h
  split at h
  ·cases h
  ·rename_i c
   cases hx with
   |head=>exact c
   |tail _ hx=>exact Fd h x hx
theorem Bd.cC{k:Int}:∀(ps:List (Int×Int)) {n:Nat} {L:List (Int×List (Int×Int×Option Int))},Bd n L->Bd (n + ps.length) (putAll k ps L)
 | [],n,L,h=>h
 |p::ps,n,L,h=>by
  have:=Bd.cC (k:=k) ps (h.add p.1 (k,p.2,none));rw[show n + (p::ps).length=n + 1 + ps.length by simp;lia];exact this
theorem Ws{k:Int}{r:Row}{L:List ((Int×Int)×List (Int×Str))}{n:Nat}(h:Bd n L):Bd (n + 1) (gU k r L):=by
 unfold gU
 split
 ·exact h.add _ _
 ·exact h.mono (xY n)
theorem Wt(r:Row)(q:Option bw)(h:oA r q)(hq:∀q',q=some q'->mV q'):(cC r q).length<=4:=by
 cases r with
 |eE=>simp[cC]
 |ask=>simp[cC]
 |told h' n a=>
  cases a with
  |di v x=>obtain⟨f,v',c,rfl⟩:=h;simp[cC]
  |joined ps=>
   obtain⟨ds,rfl,_⟩:=h;have hd:=(hq _ rfl).1;have z:=BC (λx:jD×jP=>iS x.1 && jg x.2) (ds.zip ps);have w:(ds.zip ps).length<=ds.length:=by simp;lia
   simp only[cC,eG]
   lia
  |_=>simp[cC]
theorem A0{r:Row}(h:pX r){f v:Int}{c:Str}(hs:dm r=some (f,v,c)):dU c=true:=by
 cases r with
 |eE h' f' v' c'=>cases hs;exact h
 |ask=>cases hs
 |told h' n a=>
  cases a with
  |file f' v' c' x=>cases hs;exact h
  |_=>cases hs
theorem Wu(A:List ((Int×Int)×(Int×bw)))(L:List (Int×List (Int×Int×Option Int)))(Q:List ((Int×Int)×List (Int×Str)))(k:Int)(r:Row)(hr:pX r)(n:Nat)(hn:n < 1900)(hL:Bd n L)(hQ:Bd n Q)(sM:∀b,∀x∈(lk b Q).getD [],dU x.2=true):
  sH K C [bt C A L Q,iD k,av .lst r]=some (.nd .lst ((jN A L Q k r).map iD)):=by
 have bd:∀{α β:Type} [DecidableEq β] {L:List (β×List α)} (f:β),Bd n L->((lk f L).getD []).length < 2000:=λ{α β _ L} f h=>by
  cases e:lk f L with
  |none=>simp
  |some as=>have:=h.2 f as e;simp;lia
 cases hs:dm r with
 |none=>exact VU A L Q k r hs
 |some y=>obtain⟨f,v,c⟩:=y;exact VW A L Q k r f v c hs (A0 hr hs) (bd f hL) (bd (f,v) hQ) (sM (f,v))
theorem Wv{full pre jh:List Row}{r:Row}(s:gX full)(hf:full=pre++r::jh)(hl:full.length < 200)(L:List (Int×List (Int×Int×Option Int)))(Q:List ((Int×Int)×List (Int×Str)))(n:Nat)(hL:Bd n L)(hQ:Bd n Q)(hn:n < 1900)(ml:((aD 0 pre).map λx=>k2 x.1).Nodup):
  qO K C [bt C (aD 0 pre) L Q,iD pre.length,av .lst r]=some (.sc .az, [bt C (aD 0 (pre++ [r])) (qS pre.length r (aD 0 pre) L) (gU pre.length r Q)])/\((aD 0 (pre++ [r])).map λx=>k2 x.1).Nodup/\Bd (n + 5) (qS pre.length r (aD 0 pre) L):=by
 have hr:full[pre.length]?=some r:=by rw[hf];simp
 have hp:∀{j:Nat} {r':Row},j < pre.length->full[j]?=some r'->pre[j]?=some r':=λ{j r'} l e=>by
  rw[hf,aV l]at e;exact e
 have sp:gX pre:=by have:=s.take pre.length;rw[hf,N4 rfl]at this;exact this
 have Fe:∀(l:List Row) (k:Int),(aD k l).length<=l.length:=λl=>by
  induction l with
  |nil=>intro k;simp[aD]
  |cons r l ih=>intro k;have:=ih (k + 1);cases r <;> simp[aD]<;> lia
 have row:(∀h n q,r≠ .ask h n q)->oA r (gW (aD 0 pre) r)->(∀q',gW (aD 0 pre) r=some q'->mV q')->qO K C [bt C (aD 0 pre) L Q,iD pre.length,av .lst r]=some (.sc .az, [bt C (aD 0 pre) (qS pre.length r (aD 0 pre) L) (gU pre.length r Q)])/\Bd (n + 5) (qS pre.length r (aD 0 pre) L):=λh1 h2 h3=>by
  refine⟨V6 (aD 0 pre) L Q pre.length r h1 n hL hQ hn h2, ?_⟩;have z:=Wt r _ h2 h3;exact(Bd.cC _ (LC hL)).mono (by lia)
 rw[sO];cases r with
 |eE h f v c=>
  have qa:∀q',gW (aD 0 pre) (.eE h f v c)=some q'->mV q':=λq' e=>by
   obtain⟨x,e1,e2⟩:=aX.mp e;rcases u0 h f pre 0 with⟨z,_⟩ | ⟨j,q,z1,z2⟩
   ·rw[show(dG (.eE h f v c),num (.eE h f v c))=(h,f) from rfl,z]at e1;cases e1
   ·rw[show(dG (.eE h f v c),num (.eE h f v c))=(h,f) from rfl,z2]at e1;cases e1;cases e2;exact sp.ok _ (jR z1)
  obtain⟨a,b⟩:=row (λ_ _ _ z=>by cases z) trivial qa;exact⟨a,ml,b⟩
 |told h m a=>
  obtain⟨j,q,l,ej,ft⟩:=s.told _ _ _ _ hr;have e:gW (aD 0 pre) (.told h m a)=some q:=congrArg (·.map (·.2)) (xC sp (hp l ej));obtain⟨a,b⟩:=row (λ_ _ _ z=>by cases z) (by rw[e];exact ft) (λq' z=>by rw[e]at z;cases z;exact s.ok _ (jR ej));exact⟨a,ml,b⟩
 |ask h m q=>
  have no:lk (h,m) (aD 0 pre)=none:=by
   rcases u0 h m pre 0 with⟨z,_⟩ | ⟨j,q',z1,z2⟩
   ·exact z
   ·have lj:=(cb.mp z1).1;have:=s.one j pre.length h m q' q (by rw[hf,aV lj];exact z1) hr
    lia
  have lp:pre.length < 200:=by rw[hf]at hl;simp at hl;lia
  refine⟨V7 (aD 0 pre) L Q pre.length h m q (p5 (Fe pre 0) (by lia)) ml no, ?_,hL.mono (by lia)⟩;show((aD 0 pre++ [((h,m),((pre.length:Int),q))]).map λx=>k2 x.1).Nodup;rw[cf,NW];refine⟨ml,by simp,λa ha b hb e=> ?_⟩;simp at hb;subst hb;obtain⟨x,hx,e2⟩:=jK.mp ha;exact Fd no x hx (pT _ _ (e2.trans e))
noncomputable def jj (S M:D) (x2 x3 x4:Option B):En:= [some (.ro S),some (.own M),x2,x3,x4]
theorem Ww(S M:D){x2 x3 x4:Option B}(h2:NA x2)(h3:NA x3)(h4:NA x4):Al (jj S M x2 x3 x4):=λb hb=>by
 simp only[jj,bx,dw,or_false]at hb;rcases hb with rfl | rfl | rfl | rfl | rfl
 ·exact .inl bX
 ·exact .inl ba
 ·exact .inl h2
 ·exact .inl h3
 ·exact .inl h4
theorem Wx{GP:List D->Option D}(S M R:D)(k:Int)(x4:Option B)(h4:NA x4){X:D}(hP:GP [M,iD k,R]=some X):(dP 4 λZ=>aY (λd=>(d,Z)) ((au (ae 1) (au (ae 2) (au (ae 3) λx=>some [])) Z).bind λds=>if ds.length=3 then GP ds else none)) (jj S M (some (.ro (iD k))) (some (.ro R)) x4)=some (.nx (jj S M (some (.ro (iD k))) (some (.ro R)) (some (.own X)))):=by
 refine eX (fM (aj.mpr ⟨[M,iD k,R],rfl,(if_pos rfl).trans hP⟩)) ?_;simp[jj,bg h4,aR,el,ig,eC]
theorem ints_of:∀(l:List Int),qY (l.map iD)=some l
 | []=>rfl
 |i::l=>by
  have:=ints_of l;simp[qY,iD,this]at *
theorem Wy{GL:List D->Option (D×List D)}(S M M' R:D)(k:Int)(x4:Option B)(h4:NA x4)(hL:GL [M,iD k,R]=some (.sc .az, [M'])):(gv λZ=>(aY (λa=>(a,Z)) (cG (aC 1) (eJ (aC 2) (eJ (aC 3) λx=>some [])) Z)).bind λa=>qB GL a.fst a.snd) (jj S M (some (.ro (iD k))) (some (.ro R)) x4)=some (.nx (jj S M' (some (.ro (iD k))) (some (.ro R)) x4)):=by
 have al:=Ww S M (x2:=some (.ro (iD k))) (x3:=some (.ro R)) bX bX h4;refine Fc (d:= .sc .az) (LK (as:= [.io ⟨1, []⟩, .tm (iD k),(if VL.plain R=true then .tm R else .rv (.ro R) R)]) (ds:= [M,iD k,R]) (cW:= [M']) (mn rfl (LJ (d:=iD k) rfl (LJ (d:=R) rfl rfl))) ?_ ?_ hL ?_ ?_)
 ·by_cases p:VL.plain R=true
  ·rw[if_pos p];simp[iw,nW,aP,jj,j5]
  ·rw[if_neg p];simp[iw,nW,aP,jj,j5]
 ·by_cases p:VL.plain R=true
  ·rw[if_pos p];exact⟨BE _ _,rfl⟩
  ·rw[if_neg p];exact⟨BE _ _,rfl⟩
 ·by_cases p:VL.plain R=true
  ·rw[if_pos p];rfl
  ·rw[if_neg p];rfl
 ·have e:cK [.io ⟨1, []⟩, .tm (iD k),(if VL.plain R=true then .tm R else .rv (.ro R) R)]= [⟨1, []⟩]:=by
   by_cases p:VL.plain R=true
   ·rw[if_pos p];rfl
   ·rw[if_neg p];rfl
  rw[e,AW al (d0:=M) rfl];rfl
variable {K:ak}{C:Addr}[dz K C]
theorem Ff{n m:Nat}{d e:D}(hd:Ex n d)(he:Ex m e)(hn:n<=60)(hm:m<=60)(p:Prop)[Decidable p](h:d=e↔p)(g:Bool->Bool):aF g d e=some (.sc (.bl (g (decide p)))):=by
 obtain⟨c,hc,q⟩:=Ex.eq hd he hn hm g;rw[q];have:c=decide p:=by
  cases c with
  |true=>exact(decide_eq_true (h.mp (hc.mp rfl))).symm
  |false=>exact(decide_eq_false λz=>bh (hc.mpr (h.mpr z))).symm
 rw[this]
theorem ou(a b:Int):aF id (iD a) (iD b)=some (.sc (.bl (decide (a=b)))):=Ff (.int 0 a) (.int 0 b) (by decide) (by decide) (a=b) ⟨λh=>by cases h;rfl,λh=>by rw[h]⟩ id
theorem tB{f:En->Option D}{Z:En}{b:Bool}(h:f Z=some (.sc (.bl b))):(f Z).bind (λx=>match x with | D.sc (V.bl b)=>some b | x=>none)=some b:=by
 rw[h];rfl
theorem A1{f g:En->Option Bool}{Z:En}{b c:Bool}(h1:f Z=some b)(h2:b=true->g Z=some c):d3 f g Z=some (b && c):=by
 unfold d3;rw[h1];cases b
 ·rfl
 ·exact h2 rfl
theorem xE{f g:En->Option Bool}{Z:En}{b c:Bool}(h1:f Z=some b)(h2:b=false->g Z=some c):gL f g Z=some (b || c):=by
 unfold gL;rw[h1];cases b
 ·exact h2 rfl
 ·rfl
theorem LM{α:Type}{M:Nat}{fg:D->En->Option En}{fb:En->Option Fl}(l:List α)(g:α->D)(t:α->Option D)(P:En->Prop)(hM:∀Z,P Z->ae M Z=some (.nd .lst (l.map g)))(pl:∀a∈l,VL.plain (g a)=true)
  (st:∀a∈l,∀Z,P Z->∃ρ1,fg (g a) Z=some ρ1/\match t a with | none=>∃ρ',P ρ'/\fb ρ1=some (.nx ρ') | some d=>∃ρ',fb ρ1=some (.rt d ρ')):
  ∀(k j:Nat) (Z:En),P Z->j + k=l.length->match (l.drop j).findSome? t with | none=>∃ρ',P ρ'/\jA M fg fb k j Z=some (.nx ρ') | some d=>∃ρ',jA M fg fb k j Z=some (.rt d ρ')
 |0,j,Z,hP,hj=>by
  have e:l.drop j= []:=List.drop_eq_nil_of_le (by lia);rw[e];refine⟨Z,hP, ?_⟩;rw[jA,hM Z hP];show(if(l.map g).length<=j then _ else _)=_;rw[if_pos (by simp;lia)]
 |k + 1,j,Z,hP,hj=>by
  have lt:j < l.length:=by lia
  obtain⟨ρ1,e1,e2⟩:=st l[j] (N5 lt) Z hP;have step:∀fl,fb ρ1=some fl->jA M fg fb (k + 1) j Z=match fl with | .nx ρ2=>jA M fg fb k (j + 1) ρ2 | .ct ρ2=>jA M fg fb k (j + 1) ρ2 | .bk ρ2=>some (.nx ρ2) | .rt d ρ2=>some (.rt d ρ2):=λfl e=>by
   rw[jA,hM Z hP];show((l.map g)[j]?).bind _=_;rw[du,gP lt,mD,bo,if_pos (pl _ (N5 lt)),e1,bo,e];cases fl <;> rfl
  rw[BA lt,BD];cases q:t l[j] with
  |none=>
   rw[q]at e2;obtain⟨ρ',Fb,e⟩:=e2;have ih:=LM l g t P hM pl st k (j + 1) ρ' Fb (by lia);dsimp only;rw[step _ e];exact ih
  |some d=>
   rw[q]at e2;obtain⟨ρ',e⟩:=e2;exact⟨ρ',step _ e⟩
theorem LN{α β:Type}(p:α->Bool)(d:β):∀l:List α,l.findSome? (λt=>if p t=true then some d else none)=if l.any p=true then some d else none
 | []=>rfl
 |a::l=>by
  rw[BD,vq];cases q:p a with
  |true=>simp
  |false=>simp only[Bool.false_or];exact LN p d l
theorem LO{β:Type}(T:Nat->Bool)(d:Nat->β):∀l:List Nat,l.findSome? (λi=>if T i=true then some (d i) else none)=(l.find? T).map d
 | []=>rfl
 |a::l=>by
  rw[BD,vv];cases q:T a with
  |true=>simp
  |false=>exact LO T d l
noncomputable def dW (S A x2 x3 Rw:Option B) (x5 x6 x7 x8 x9 x10 x11 cL cM bV:Option B):En:= [S,A,x2,x3,Rw,x5,x6,x7,x8,x9,x10,x11,cL,cM,bV]
theorem Fg{full:List Row}(s:gX full)(hl:full.length < 200)(S:D):∀(jh pre:List Row) (x2 x3:Option B),full=pre++jh->NA x2->NA x3->((aD 0 pre).map λx=>k2 x.1).Nodup->
  ∃y2 y3,NA y2/\NA y3/\de (gz 2 (dD (λd Z=>some (aR 2 (B.ro d) Z)) (dD (λd Z=>some (aR 3 (B.ro d) Z)) λds Z=>match ds with | []=>some Z | x=>none)))
   (cP (λZ=>aY (λb=>(b,Z)) ((ag (aF id) (ag (ar ah aq) (ae 3) λx=>some (D.sc (V.int 0))) (λx=>some (D.sc (V.str (aE "ask")))) Z).bind λx=>match x with | D.sc (V.bl b)=>some b | x=>none))
    (uF (fQ (bU (fK 2) (bU (gu (ag (ar ah aq) (ae 3) λx=>some (D.sc (V.int 3)))) λZ=>some ([],Z)))) (aC 1) (uC (ae 3) (λZ=>(some (D.sc (V.int 1))).bind fE) λZ=>(some (D.sc (V.int 3))).bind fE))
    λZ=>some (Fl.nx Z))
   (jB pre.length (jh.map (av .aA))) (dW (some (.ro S)) (some (.own (bP bG (aD 0 pre)))) x2 x3 none none none none none none none none none none none)=some (.nx (dW (some (.ro S)) (some (.own (bP bG (aD 0 full)))) y2 y3 none none none none none none none none none none none))
 | [],pre,x2,x3,hf,h2,h3,_=>by
  rw[fO]at hf;subst hf;exact⟨x2,x3,h2,h3,rfl⟩
 |r::jh,pre,x2,x3,hf,h2,h3,ml=>by
  have lp:pre.length < 200:=by rw[hf]at hl;simp at hl;lia
  have hr:full[pre.length]?=some r:=by rw[hf];simp
  have e1:gz 2 (dD (λd Z=>some (aR 2 (B.ro d) Z)) (dD (λd Z=>some (aR 3 (B.ro d) Z)) λds Z=>match ds with | []=>some Z | x=>none)) (.nd .tup [.sc (.int (pre.length:Nat)),av .aA r]) (dW (some (.ro S)) (some (.own (bP bG (aD 0 pre)))) x2 x3 none none none none none none none none none none none)=some (dW (some (.ro S)) (some (.own (bP bG (aD 0 pre)))) (some (.ro (iD (pre.length:Nat)))) (some (.ro (av .aA r))) none none none none none none none none none none none):=by
   generalize bP bG (aD 0 pre)=M;generalize av .aA r=R;simp[dW,iD,bg h2,bg h3,aR,dD,gz,el,ig,eC,iy]
  have skip:(∀h n q,r≠ .ask h n q)->aD 0 (pre++ [r])=aD 0 pre/\∀M,(ag (aF id) (ag (ar ah aq) (ae 3) λx=>some (D.sc (V.int 0))) (λx=>some (D.sc (V.str (aE "ask")))) (dW (some (.ro S)) (some (.own M)) (some (.ro (iD (pre.length:Nat)))) (some (.ro (av .aA r))) none none none none none none none none none none none)).bind (λx=>match x with | D.sc (V.bl b)=>some b | x=>none)=some false:=λne=>by
   cases r with
   |ask h n q=>exact absurd rfl (ne h n q)
   |eE h f v c=>exact⟨sO _ _,λM=>by simp[dW,av,tp,sD,iD,EO,bD,ae,bp,cE,bJ,aq,ah,ar,cv,bM,ag]⟩
   |told h n a=>exact⟨sO _ _,λM=>by simp[dW,av,tp,sD,iD,AO,bD,ae,bp,cE,bJ,aq,ah,ar,cv,bM,ag]⟩
  by_cases ne:∀h n q,r≠ .ask h n q
  ·obtain⟨ea,et⟩:=skip ne;obtain⟨y2,y3,n2,n3,ih⟩:=Fg s hl S jh (pre++ [r]) (some (.ro (iD (pre.length:Nat)))) (some (.ro (av .aA r))) (by rw[hf];simp) bX bX (by rw[ea];exact ml);refine⟨y2,y3,n2,n3, ?_⟩;rw[eO,jB,de,e1,bo,(bR (et _)).trans (if_neg bh),bo];rw[ea,b6]at ih;exact ih
  cases r with
  |eE h f v c=>exact absurd (λ_ _ _ z=>by cases z) ne
  |told h n a=>exact absurd (λ_ _ _ z=>by cases z) ne
  |ask h n q=>
   have sp:gX pre:=by have:=s.take pre.length;rw[hf,N4 rfl]at this;exact this
   have no:lk (h,n) (aD 0 pre)=none:=by
    rcases u0 h n pre 0 with⟨z,_⟩ | ⟨j,q',z1,z2⟩
    ·exact z
    ·have lj:=(cb.mp z1).1;have:=s.one j pre.length h n q' q (by rw[hf,aV lj];exact z1) hr
     lia
   have Fe:∀(l:List Row) (k:Int),(aD k l).length<=l.length:=λl=>by
    induction l with
    |nil=>intro k;simp[aD]
    |cons r l ih=>intro k;have:=ih (k + 1);cases r <;> simp[aD]<;> lia
   have abU:=Fe pre 0;have pn:cX (k2 (h,n)) ((aD 0 pre).map λx=>k2 x.1)=none:=by
    rcases sI k2 pT bG (h,n) (aD 0 pre) with⟨i,a,q1,q2,_⟩ | ⟨q1,_⟩
    ·rw[no]at q2;cases q2
    ·exact q1
   have e5:qH (.dk ((aD 0 pre).map λx=>k2 x.1)) ((aD 0 pre).map λx=>bG x.2) (.nd .tup [iD h,iD n]) (bG ((pre.length:Int),q))=some (bP bG (aD 0 (pre++ [.ask h n q]))):=by
    show(if((aD 0 pre).map λx=>bG x.2).length < aN/\((aD 0 pre).map λx=>k2 x.1).Nodup then _ else _)=_;rw[if_pos ⟨by rw[eG];exact df (by lia:_ < 200) (by decide),ml⟩];show(match cX (k2 (h,n)) ((aD 0 pre).map λx=>k2 x.1) with | some i=>_ | none=>_)=_;rw[pn,sO];simp[bP,k2,AU]
   have Fh:((aD 0 (pre++ [.ask h n q])).map λx=>k2 x.1).Nodup:=by
    rw[sO];show((aD 0 pre++ [((h,n),((pre.length:Int),q))]).map λx=>k2 x.1).Nodup;rw[cf,NW];refine⟨ml,by simp,λa ha b hb e=> ?_⟩;simp at hb;subst hb;obtain⟨x,hx,e2⟩:=jK.mp ha;exact Fd no x hx (pT _ _ (e2.trans e))
   obtain⟨y2,y3,n2,n3,ih⟩:=Fg s hl S jh (pre++ [.ask h n q]) (some (.ro (iD (pre.length:Nat)))) (some (.ro (av .aA (.ask h n q)))) (by rw[hf];simp) bX bX Fh;refine⟨y2,y3,n2,n3, ?_⟩;have rp:=pW q;have t0:(ag (aF id) (ag (ar ah aq) (ae 3) λx=>some (D.sc (V.int 0))) (λx=>some (D.sc (V.str (aE "ask")))) (dW (some (.ro S)) (some (.own (bP bG (aD 0 pre)))) (some (.ro (iD (pre.length:Nat)))) (some (.ro (av .aA (.ask h n q)))) none none none none none none none none none none none)).bind (λx=>match x with | D.sc (V.bl b)=>some b | x=>none)=some true:=by
    generalize bP bG (aD 0 pre)=M;simp[dW,av,tp,sD,iD,AN,bD,ae,bp,cE,bJ,aq,ah,ar,cv,bM,ag]
   have dp:uF (fQ (bU (fK 2) (bU (gu (ag (ar ah aq) (ae 3) λx=>some (D.sc (V.int 3)))) λZ=>some ([],Z)))) (aC 1) (uC (ae 3) (λZ=>(some (D.sc (V.int 1))).bind fE) λZ=>(some (D.sc (V.int 3))).bind fE) (dW (some (.ro S)) (some (.own (bP bG (aD 0 pre)))) (some (.ro (iD (pre.length:Nat)))) (some (.ro (av .aA (.ask h n q)))) none none none none none none none none none none none)=some (.nx (dW (some (.ro S)) (some (.own (bP bG (aD 0 (pre++ [.ask h n q]))))) (some (.ro (iD (pre.length:Nat)))) (some (.ro (av .aA (.ask h n q)))) none none none none none none none none none none none)):=by
    refine E3 (d:=bG ((pre.length:Int),q)) (y:= .nd .tup [iD h,iD n]) (r:=1) (p:= []) (d0:=bP bG (aD 0 pre)) (kk:= .dk ((aD 0 pre).map λx=>k2 x.1)) (cs:=(aD 0 pre).map λx=>bG x.2) ?_ rfl ?_ ?_ e5 ?_
    ·generalize bP bG (aD 0 pre)=M;have b1:ag (ar ah aq) (ae 3) (λx=>some (D.sc (V.int 3))) (dW (some (.ro S)) (some (.own M)) (some (.ro (iD (pre.length:Nat)))) (some (.ro (av .aA (.ask h n q)))) none none none none none none none none none none none)=some (bj q):=rfl;have b2:fK 2 (dW (some (.ro S)) (some (.own M)) (some (.ro (iD (pre.length:Nat)))) (some (.ro (av .aA (.ask h n q)))) none none none none none none none none none none none)=some (iD (pre.length:Nat),dW (some (.ro S)) (some (.own M)) (some (.ro (iD (pre.length:Nat)))) (some (.ro (av .aA (.ask h n q)))) none none none none none none none none none none none):=rfl;generalize dW (some (.ro S)) (some (.own M)) (some (.ro (iD (pre.length:Nat)))) (some (.ro (av .aA (.ask h n q)))) none none none none none none none none none none none=Z at *;simp[fQ,bU,gu,b1,b2,rp,bG,tp,iC]
    ·rfl
    ·unfold gw;show(aJ (bP bG (aD 0 pre)) []).bind _=_;rw[j5];rfl
    ·rw[mj]
     ·rw[oq];rfl
     ·intro b hb;simp only[dW,bx,dw,or_false]at hb;rcases hb with rfl | rfl | rfl | rfl | rfl | rfl | rfl | rfl | rfl | rfl | rfl | rfl | rfl | rfl | rfl <;> first | exact .inl bX | exact .inl ba | exact .inl aO
   rw[eO,jB,de,e1,bo,(bR t0).trans (if_pos rfl),dp,bo];rw[b6]at ih;exact ih
variable {K:ak}{C:Addr}[dz K C]
theorem LP(t:Option Str)(g:Bool->Bool):eg g (mq t) (.sc .az)=some (.sc (.bl (g (decide (t=none))))):=by cases t <;> rfl
theorem lA(k:Kd)(hk:k= .lst\/k= .aA){α:Type}(rs:List α)(g:α->D)(i:Nat)(r:α)(h:rs[i]?=some r)(hi:i < 1000):ah (.nd k (rs.map g)) (iD (i:Nat))=some i/\bM (.nd k (rs.map g)) i=some (g r)/\ar ah aq (.nd k (rs.map g)) (iD (i:Nat))=some (g r):=by
 have lt:=(cb.mp h).1;have e1:bJ (rs.map g).length (i:Int)=some i:=by
  unfold bJ;simp only[eG];rw[if_pos (by lia)]
  first | (rw[if_pos (by lia)];simp) | simp[lt] | lia
 have e2:ah (.nd k (rs.map g)) (iD (i:Nat))=some i:=by
  have:cE (.nd k (rs.map g)) (iD (i:Nat))=some i:=by rcases hk with rfl | rfl <;> exact e1
  unfold ah;rw[this]
 have e3:bM (.nd k (rs.map g)) i=some (g r):=by
  show(rs.map g)[i]?=_;rw[du,h];rfl
 refine⟨e2,e3, ?_⟩;show(ah _ _).bind _=_;rw[e2];exact e3
def sP:En->Option Fl:=bO (dP 14 (gu λZ=>(ag (iN λi j=>V.bl (decide (i < j))) (ae 10) (ae 9) Z).bind λx=>match x with
     |D.sc (V.bl true)=>(ag (eg id) (ae 13) (λx=>some (D.sc V.az)) Z).bind λx=>match x with
      |D.sc (V.bl false)=>ag (aF id) (ag (ar ah aq) (ag (ar ah aq) (ae 0) (ae 10)) λx=>some (D.sc (V.int 1))) (ag (ar ah aq) (ae 3) λx=>some (D.sc (V.int 1))) Z
      |D.sc (V.bl true)=>some (D.sc (V.bl true))
      |x=>none
     |D.sc (V.bl false)=>some (D.sc (V.bl false))
     |x=>none))
   (bO (cP (λZ=>aY (λb=>(b,Z)) (d3 (λZ=>(ag (aF id) (ae 11) (ae 6) Z).bind λx=>match x with | D.sc (V.bl b)=>some b | x=>none)
      (d3 (λZ=>(ag (iN λi j=>V.bl (decide (j < i))) (ae 12) (ae 7) Z).bind λx=>match x with | D.sc (V.bl b)=>some b | x=>none) λZ=>(ae 14 Z).bind λx=>match x with | D.sc (V.bl b)=>some b | x=>none) Z))
     (cu (fQ (bU (fK 10) (bU (fK 5) λZ=>some ([],Z))))) λZ=>some (Fl.nx Z))
    (cP (λZ=>aY (λb=>(b,Z)) (d3 (λZ=>(ag (aF id) (ae 11) (ae 6) Z).bind λx=>match x with | D.sc (V.bl b)=>some b | x=>none)
      (d3 (λZ=>(ag (aF id) (ae 12) (ae 7) Z).bind λx=>match x with | D.sc (V.bl b)=>some b | x=>none)
       (d3 (λZ=>(ag (eg λx=> !x) (ae 13) (λx=>some (D.sc V.az)) Z).bind λx=>match x with | D.sc (V.bl b)=>some b | x=>none) λZ=>(ag (aF λx=> !x) (ae 13) (ae 8) Z).bind λx=>match x with | D.sc (V.bl b)=>some b | x=>none)) Z))
     (cu (fQ (bU (fK 10) (bU (fK 5) λZ=>some ([],Z))))) λZ=>some (Fl.nx Z)))
def u4:D->En->Option En:=gz 3 (dD (λd Z=>some (aR 11 (B.ro d) Z)) (dD (λd Z=>some (aR 12 (B.ro d) Z)) (dD (λd Z=>some (aR 13 (B.ro d) Z)) λds Z=>match ds with | []=>some Z | x=>none)))
theorem Wz(k:Kd)(hk:k= .lst\/k= .aA)(rs:List Row)(A Rw R:D)(kk:Int)(i:Nat)(ri:Row)(qT:rs[i]?=some ri)(hi:i < 1000)(h f v:Int)(c:Str)(hc:dU c=true)(b:Int)(t:Int×Int×Option Str)(ht:∀c',t.2.2=some c'->dU c'=true)(hR:ar ah aq R (.sc (.int 1))=some (iD h))(x2 bV:Option B)(h2:NA x2)(lB:NA bV):
  let cF:=λbV=>dW (some (.ro (.nd k (rs.map (av .aA))))) (some (.own A)) x2 (some (.ro R)) (some (.own Rw)) (some (.ro (iD kk))) (some (.own (iD f))) (some (.own (iD v))) (some (.own (sD c))) (some (.own (iD b))) (some (.ro (iD (i:Nat)))) (some (.ro (iD t.1))) (some (.ro (iD t.2.1))) (some (.ro (mq t.2.2))) bV++ [some (.aT 4 [i])]
  ∃ρ',(ρ'=cF (some (.own (.sc (.bl (decide ((i:Int) < b) && (decide (t.2.2=none) || decide (dG ri=h))))))))/\sP (cF bV)=some (if ku b h f v c i (dG ri) t=true then .rt (pairD (some ((i:Int),kk))) ρ' else .nx ρ'):=by
 intro cF;refine⟨_,rfl, ?_⟩;unfold sP;have rr:=(lA k hk rs (av .aA) i ri qT hi).2.2;have r1:=sJ .aA ri;generalize av .aA ri=Ri at *;generalize dG ri=hi at *;generalize hB:(decide ((i:Int) < b) && (decide (t.2.2=none) || decide (hi=h)))=B at *;have ev:∀x,ag (iN λi j=>V.bl (decide (i < j))) (ae 10) (ae 9) (cF x)=some (.sc (.bl (decide ((i:Int) < b)))):=λx=>rfl;have en:∀x,ag (eg id) (ae 13) (λx=>some (D.sc V.az)) (cF x)=some (.sc (.bl (decide (t.2.2=none)))):=λx=>b9 (a:=mq t.2.2) rfl rfl (LP t.2.2 id);have WA:∀x,ag (eg λx=> !x) (ae 13) (λx=>some (D.sc V.az)) (cF x)=some (.sc (.bl (decide (t.2.2≠none)))):=λx=>(b9 (a:=mq t.2.2) rfl rfl (LP t.2.2 (λx=> !x))).trans (by simp);have eh:∀x,ag (aF id) (ag (ar ah aq) (ag (ar ah aq) (ae 0) (ae 10)) λx=>some (D.sc (V.int 1))) (ag (ar ah aq) (ae 3) λx=>some (D.sc (V.int 1))) (cF x)=some (.sc (.bl (decide (hi=h)))):=λx=>b9 (b9 (b9 (a:= .nd k (rs.map (av .aA))) (b:=iD (i:Nat)) rfl rfl rr) rfl r1) (b9 (a:=R) rfl rfl hR) (ou hi h);have eB:(gu λZ=>(ag (iN λi j=>V.bl (decide (i < j))) (ae 10) (ae 9) Z).bind λx=>match x with
     |D.sc (V.bl true)=>(ag (eg id) (ae 13) (λx=>some (D.sc V.az)) Z).bind λx=>match x with
      |D.sc (V.bl false)=>ag (aF id) (ag (ar ah aq) (ag (ar ah aq) (ae 0) (ae 10)) λx=>some (D.sc (V.int 1))) (ag (ar ah aq) (ae 3) λx=>some (D.sc (V.int 1))) Z
      |D.sc (V.bl true)=>some (D.sc (V.bl true))
      |x=>none
     |D.sc (V.bl false)=>some (D.sc (V.bl false))
     |x=>none) (cF bV)=some (.sc (.bl B),cF bV):=by
  refine pV ?_ rfl;rw[ev,bo, <- hB];cases decide ((i:Int) < b) with
  |false=>rfl
  |true=>
   dsimp only;rw[en,bo];cases decide (t.2.2=none) with
   |true=>rfl
   |false=>dsimp only;rw[eh];rfl
 have eA:aR 14 (.own (.sc (.bl B))) (cF bV)=cF (some (.own (.sc (.bl B)))):=by
  simp only[cF,dW,aR,By,Bv,eC,ig,bg h2,bg lB,si,el];rfl
 rw[aK (eX eB eA) rfl];have g1:ag (aF id) (ae 11) (ae 6) (cF (some (.own (.sc (.bl B)))))=some (.sc (.bl (decide (t.1=f)))):=b9 (a:=iD t.1) (b:=iD f) rfl rfl (ou _ _);have g2:ag (iN λi j=>V.bl (decide (j < i))) (ae 12) (ae 7) (cF (some (.own (.sc (.bl B)))))=some (.sc (.bl (decide (v < t.2.1)))):=rfl;have g3:ae 14 (cF (some (.own (.sc (.bl B)))))=some (.sc (.bl B)):=rfl;have g4:ag (aF id) (ae 12) (ae 7) (cF (some (.own (.sc (.bl B)))))=some (.sc (.bl (decide (t.2.1=v)))):=b9 (a:=iD t.2.1) (b:=iD v) rfl rfl (ou _ _);have g5:=WA (some (.own (.sc (.bl B))));have g6:decide (t.2.2≠none)=true->ag (aF λx=> !x) (ae 13) (ae 8) (cF (some (.own (.sc (.bl B)))))=some (.sc (.bl (decide (t.2.2≠some c)))):=λz=>by
  refine b9 (a:=mq t.2.2) (b:=sD c) rfl rfl ?_;cases e:t.2.2 with
  |none=>rw[e]at z;cases z
  |some c'=>
   refine(DM c' c (ht c' e) hc).trans ?_
   congr 3;simp
 have ret:cu (fQ (bU (fK 10) (bU (fK 5) λZ=>some ([],Z)))) (cF (some (.own (.sc (.bl B)))))=some (.rt (pairD (some ((i:Int),kk))) (cF (some (.own (.sc (.bl B)))))):=by
  have m1:fK 10 (cF (some (.own (.sc (.bl B)))))=some (iD (i:Nat),cF (some (.own (.sc (.bl B))))):=rfl;have m2:fK 5 (cF (some (.own (.sc (.bl B)))))=some (iD kk,cF (some (.own (.sc (.bl B))))):=rfl;generalize cF (some (.own (.sc (.bl B))))=Z at *;simp[cu,fQ,bU,m1,m2,pairD,tp,iC]
 have t1:d3 (λZ=>(ag (aF id) (ae 11) (ae 6) Z).bind λx=>match x with | D.sc (V.bl b)=>some b | x=>none) (d3 (λZ=>(ag (iN λi j=>V.bl (decide (j < i))) (ae 12) (ae 7) Z).bind λx=>match x with | D.sc (V.bl b)=>some b | x=>none) λZ=>(ae 14 Z).bind λx=>match x with | D.sc (V.bl b)=>some b | x=>none) (cF (some (.own (.sc (.bl B)))))=some (decide (t.1=f) && (decide (v < t.2.1) && B)):=uY (tB g1) (uY (tB g2) (tB g3));have t2:d3 (λZ=>(ag (aF id) (ae 11) (ae 6) Z).bind λx=>match x with | D.sc (V.bl b)=>some b | x=>none) (d3 (λZ=>(ag (aF id) (ae 12) (ae 7) Z).bind λx=>match x with | D.sc (V.bl b)=>some b | x=>none) (d3 (λZ=>(ag (eg λx=> !x) (ae 13) (λx=>some (D.sc V.az)) Z).bind λx=>match x with | D.sc (V.bl b)=>some b | x=>none) λZ=>(ag (aF λx=> !x) (ae 13) (ae 8) Z).bind λx=>match x with | D.sc (V.bl b)=>some b | x=>none)) (cF (some (.own (.sc (.bl B)))))=some (decide (t.1=f) && (decide (t.2.1=v) && (decide (t.2.2≠none) && decide (t.2.2≠some c)))):=uY (tB g1) (uY (tB g4) (A1 (tB g5) λz=>tB (g6 z)));have e1:=bR (A:=cu (fQ (bU (fK 10) (bU (fK 5) λZ=>some ([],Z))))) (B':=λZ=>some (Fl.nx Z)) t1;have e2:=bR (A:=cu (fQ (bU (fK 10) (bU (fK 5) λZ=>some ([],Z))))) (B':=λZ=>some (Fl.nx Z)) t2;have et:ku b h f v c i hi t=((decide (t.1=f) && (decide (v < t.2.1) && B)) || (decide (t.1=f) && (decide (t.2.1=v) && (decide (t.2.2≠none) && decide (t.2.2≠some c))))):=by unfold ku;rw[hB]
 rw[et];cases q1:(decide (t.1=f) && (decide (v < t.2.1) && B)) with
 |true=>
  rw[q1,if_pos rfl,ret]at e1;exact(iG e1).trans rfl
 |false=>
  rw[q1,if_neg bh]at e1;refine(aK e1 e2).trans ?_;cases q2:(decide (t.1=f) && (decide (t.2.1=v) && (decide (t.2.2≠none) && decide (t.2.2≠some c)))) with
  |true=>rw[if_pos rfl,ret];rfl
  |false=>rfl
variable {K:ak}{C:Addr}[dz K C]
theorem LQ{cs:List D}{i:Nat}{c:D}(h:cs[i]?=some c):aJ (.nd .lst cs) [i]=some c:=by
 rw[aJ,if_neg (λz=>bh z.1),h];exact j5 c
def ik(A:List ((Int×Int)×(Int×bw)))(r:Row):D:= .nd .lst ((hZ A r).map ji)
theorem WB(t:Int×Int×Option Str):VL.plain (ji t)=true:=by
 obtain⟨a,b,c⟩:=t;cases c <;> rfl
theorem WC(k:Kd)(hk:k= .lst\/k= .aA)(rs:List Row)(hl:rs.length < 200)(AA:List ((Int×Int)×(Int×bw)))(A R:D)(kk:Int)(i:Nat)(ri:Row)(qT:rs[i]?=some ri)(h f v:Int)(c:Str)(hc:dU c=true)(b:Int)(ht:∀t∈hZ AA ri,∀c',t.2.2=some c'->dU c'=true)(hR:ar ah aq R (.sc (.int 1))=some (iD h))(x2:Option B)(h2:NA x2)(x11 cL cM bV:Option B)(mW:NA x11)(mY:NA cL)(mZ:NA cM)(lB:NA bV):
  let E:=λx11 cL cM bV=>dW (some (.ro (.nd k (rs.map (av .aA))))) (some (.own A)) x2 (some (.ro R)) (some (.own (.nd .lst (rs.map (ik AA))))) (some (.ro (iD kk))) (some (.own (iD f))) (some (.own (iD v))) (some (.own (sD c))) (some (.own (iD b))) (some (.ro (iD (i:Nat)))) x11 cL cM bV
  ∃dA gj gk fS ρ',NA dA/\NA gj/\NA gk/\NA fS/\forA (cA ah (aC 4) (ae 10)) u4 sP (E x11 cL cM bV)=some (if(hZ AA ri).any (ku b h f v c i (dG ri))=true then .rt (pairD (some ((i:Int),kk))) ρ' else .nx (E dA gj gk fS)):=by
 intro E;have lt:=(cb.mp qT).1;have hi:i < 1000:=by lia
 obtain⟨q1,q2,_⟩:=lA .lst (.inl rfl) rs (ik AA) i ri qT hi;have g:=LQ (cs:=rs.map (ik AA)) (i:=i) (c:=ik AA ri) q2;have np:VL.plain (.nd .lst (rs.map (ik AA)))=false:=rfl;have hp:cA ah (aC 4) (ae 10) (E x11 cL cM bV)=some (.rt 4 [i]):=by
  show(ah (.nd .lst (rs.map (ik AA))) (iD (i:Nat))).bind _=_;rw[q1,bo];show(bM (.nd .lst (rs.map (ik AA))) i).bind _=_;rw[q2,bo];rfl
 have hd:∀x11 cL cM bV,fB (E x11 cL cM bV) (.rt 4 [i])=some (ik AA ri):=λ_ _ _ _=>g;have find:=LM (M:=15) (fg:=u4) (fb:=sP) (hZ AA ri) ji (λt=>if ku b h f v c i (dG ri) t=true then some (pairD (some ((i:Int),kk))) else none) (λZ=>∃dA gj gk fS,NA dA/\NA gj/\NA gk/\NA fS/\Z=E dA gj gk fS++ [some (.aT 4 [i])])
  (λZ ⟨dA,gj,gk,fS,_,_,_,_,e⟩=>by subst e;exact g) (λt _=>WB t)
  (λt mt Z ⟨dA,gj,gk,fS,jk,m3,m4,mr,e⟩=>by
   subst e;obtain⟨ρ',e1,e2⟩:=Wz k hk rs A (.nd .lst (rs.map (ik AA))) R kk i ri qT hi h f v c hc b t (ht t mt) hR x2 fS h2 mr;refine⟨E (some (.ro (iD t.1))) (some (.ro (iD t.2.1))) (some (.ro (mq t.2.2))) fS++ [some (.aT 4 [i])], ?_, ?_⟩
   ·unfold ji;generalize mq t.2.2=O;generalize D.nd .lst (rs.map (ik AA))=W;generalize D.nd k (rs.map (av .aA))=S;unfold u4;simp[E,dW,tp,iD,By,Bv,bg h2,bg jk,bg m3,bg m4,bg mr,aR,dD,gz,el,ig,eC,si]
   ·cases q:ku b h f v c i (dG ri) t with
    |true=>rw[q,if_pos rfl]at e2;rw[if_pos rfl];exact⟨ρ',e2⟩
    |false=>
     rw[q,if_neg bh]at e2;rw[if_neg bh];exact⟨ρ',⟨_,_,_,_,bX,bX,bX,ba,e1⟩,e2⟩)
  (hZ AA ri).length 0 (E x11 cL cM bV++ [some (.aT 4 [i])]) ⟨x11,cL,cM,bV,mW,mY,mZ,lB,rfl⟩ (by lia)
 rw[Gi,LN]at find;have run:∀{fg:D->En->Option En} {fb:En->Option Fl},forA (cA ah (aC 4) (ae 10)) fg fb (E x11 cL cM bV)=(jA 15 fg fb (hZ AA ri).length 0 (E x11 cL cM bV++ [some (.aT 4 [i])])).map (Ab 0 15):=λ{fg fb}=>by
  unfold forA;rw[hp,bo];dsimp only;rw[hd];show(jA 15 fg fb ((hZ AA ri).map ji).length 0 _).map _=_;rw[eG];rfl
 rw[run];cases q:(hZ AA ri).any (ku b h f v c i (dG ri)) with
 |true=>
  rw[q,if_pos rfl]at find;obtain⟨ρ',e⟩:=find;refine⟨none,none,none,none,qG 0 15 ρ',aO,aO,aO,aO, ?_⟩;rw[e];rfl
 |false=>
  rw[q,if_neg bh]at find;obtain⟨ρ',⟨dA,gj,gk,fS,jk,m3,m4,mr,e1⟩,e⟩:=find;refine⟨dA,gj,gk,fS, [],jk,m3,m4,mr, ?_⟩;rw[e,e1];show some (Fl.nx ((eI 15 (E dA gj gk fS++ [some (.aT 4 [i])])).take 15))=_;have:eI 15 (E dA gj gk fS++ [some (.aT 4 [i])])=E dA gj gk fS++ [some (.aT 4 [i])]:=by
   simp only[E,dW,By,Bv,eC,ig,bg h2,bg jk,bg m3,bg m4,bg mr,si,el];rfl
  rw[this];rfl
variable {K:ak}{C:Addr}[dz K C]
theorem A2(m:Nat)(hm:m < 1000):kH [.sc (.int (m:Int))]=some ((jm m).map λi:Nat=>iD (i:Nat)):=by
 unfold kH;dsimp only;rw[if_pos ⟨by lia,by lia⟩];simp[nY,iD]
theorem WD{rs:List Row}(s:gX rs)(A:List ((Int×Int)×(Int×bw))){r:Row}(hr:r∈rs):∀t∈hZ A r,∀c',t.2.2=some c'->dU c'=true:=λt mt c' e=>by
 rcases(xD _ _ _).mp mt with⟨f,v,c,z,rfl⟩ | ⟨p,_,rfl⟩
 ·cases e;exact A0 (s.ok r hr) z
 ·cases e
def u5:En->Option Fl:=λZ=>((au (ae 5) (λx=>some []) Z).bind kH).bind λds=>de (λd Z=>some (aR 10 (B.ro d) Z)) (forA (cA ah (aC 4) (ae 10)) u4 sP) ds Z
theorem WE(k:Kd)(hk:k= .lst\/k= .aA){rs:List Row}(s:gX rs)(hl:rs.length < 200)(A R:D)(kk:Nat)(WG:kk<=rs.length)(h f v:Int)(c:Str)(hc:dU c=true)(b:Int)(hR:ar ah aq R (.sc (.int 1))=some (iD h))(x2:Option B)(h2:NA x2)(x10 x11 cL cM bV:Option B)(pY:NA x10)(mW:NA x11)(mY:NA cL)(mZ:NA cM)(lB:NA bV):
  let E:=λx10 x11 cL cM bV=>dW (some (.ro (.nd k (rs.map (av .aA))))) (some (.own A)) x2 (some (.ro R)) (some (.own (.nd .lst (rs.map (ik (aD 0 rs)))))) (some (.ro (iD (kk:Nat)))) (some (.own (iD f))) (some (.own (iD v))) (some (.own (sD c))) (some (.own (iD b))) x10 x11 cL cM bV
  match ((jm kk).find? (kN (aD 0 rs) rs b h f v c)).map (λi:Nat=>((i:Int),(kk:Int))) with
  |none=>∃iA dA gj gk fS,NA iA/\NA dA/\NA gj/\NA gk/\NA fS/\u5 (E x10 x11 cL cM bV)=some (.nx (E iA dA gj gk fS))
  |some p=>∃ρ',u5 (E x10 x11 cL cM bV)=some (.rt (pairD (some p)) ρ'):=by
 intro E;have find:=E8 (fg:=λd Z=>some (aR 10 (B.ro d) Z)) (fb:=forA (cA ah (aC 4) (ae 10)) u4 sP) (λi:Nat=>iD (i:Nat)) (λi=>if kN (aD 0 rs) rs b h f v c i=true then some (pairD (some ((i:Int),(kk:Int)))) else none) (λZ=>∃iA dA gj gk fS,NA iA/\NA dA/\NA gj/\NA gk/\NA fS/\Z=E iA dA gj gk fS)
  (jm kk) (E x10 x11 cL cM bV) ⟨x10,x11,cL,cM,bV,pY,mW,mY,mZ,lB,rfl⟩ (λi hi Z ⟨iA,dA,gj,gk,fS,ox,jk,m3,m4,mr,e⟩=>by
   subst e;have lt:i < rs.length:=df (Bn.mp hi) WG;have qT:rs[i]?=some rs[i]:=gP lt;obtain⟨u6,xF,xG,xH,ρ',m5,Fi,Fj,Fm,e2⟩:=WC k hk rs hl (aD 0 rs) A R kk i rs[i] qT h f v c hc b (WD s _ (N5 lt)) hR x2 h2 dA gj gk fS jk m3 m4 mr;have et:kN (aD 0 rs) rs b h f v c i=(hZ (aD 0 rs) rs[i]).any (ku b h f v c i (dG rs[i])):=by unfold kN;rw[qT]
   refine⟨E (some (.ro (iD (i:Nat)))) dA gj gk fS, ?_, ?_⟩
   ·refine congrArg some ?_;simp only[E,dW,aR,eC,ig,bg h2,bg ox,bg jk,bg m3,bg m4,bg mr,el];rfl
   ·rw[et];cases q:(hZ (aD 0 rs) rs[i]).any (ku b h f v c i (dG rs[i])) with
    |true=>rw[q,if_pos rfl]at e2;rw[if_pos rfl];exact⟨ρ',e2⟩
    |false=>rw[q,if_neg bh]at e2;rw[if_neg bh];exact⟨_,⟨_,u6,xF,xG,xH,bX,m5,Fi,Fj,Fm,rfl⟩, .inl e2⟩)
 rw[LO (kN (aD 0 rs) rs b h f v c) (λi:Nat=>pairD (some ((i:Int),(kk:Int))))]at find;have run:u5 (E x10 x11 cL cM bV)=de (λd Z=>some (aR 10 (B.ro d) Z)) (forA (cA ah (aC 4) (ae 10)) u4 sP) ((jm kk).map λi:Nat=>iD (i:Nat)) (E x10 x11 cL cM bV):=by
  have h1:au (ae 5) (λx=>some []) (E x10 x11 cL cM bV)=some [.sc (.int (kk:Nat))]:=rfl;unfold u5;rw[h1,bo,A2 kk (by lia),bo]
 rw[run];cases q:(jm kk).find? (kN (aD 0 rs) rs b h f v c) with
 |none=>
  rw[q]at find;obtain⟨ρ',⟨iA,dA,gj,gk,fS,ox,jk,m3,m4,mr,e1⟩,e⟩:=find;exact⟨iA,dA,gj,gk,fS,ox,jk,m3,m4,mr,by rw[e,e1]⟩
 |some i=>
  rw[q]at find;exact find
theorem WH(r:Row)(Z:En)(j4:ae 3 Z=some (av .aA r)):gL (λZ=>(ag (aF id) (ag (ar ah aq) (ae 3) λx=>some (D.sc (V.int 0))) (λx=>some (D.sc (V.str (aE "ask")))) Z).bind λx=>match x with | D.sc (V.bl b)=>some b | x=>none)
  (d3 (λZ=>(ag (aF id) (ag (ar ah aq) (ae 3) λx=>some (D.sc (V.int 0))) (λx=>some (D.sc (V.str (aE "told")))) Z).bind λx=>match x with | D.sc (V.bl b)=>some b | x=>none)
   λZ=>(ag (aF λx=> !x) (ag (ar ah aq) (ag (ar ah aq) (ae 3) λx=>some (D.sc (V.int 3))) λx=>some (D.sc (V.int 0))) (λx=>some (D.sc (V.str (aE "file")))) Z).bind λx=>match x with | D.sc (V.bl b)=>some b | x=>none) Z=some (decide (dm r=none)):=by
 have w:∀{w' x:Str} {b:Bool},ar ah aq (av .aA r) (.sc (.int 0))=some (sD w')->aF id (.sc (.str w')) (.sc (.str x))=some (.sc (.bl b))->ag (aF id) (ag (ar ah aq) (ae 3) λx=>some (D.sc (V.int 0))) (λy=>some (D.sc (V.str x))) Z=some (.sc (.bl b)):=λh1 h2=>b9 (b9 j4 rfl h1) rfl h2;cases r with
 |ask h n q=>exact xE (b:=true) (c:=false) (tB (w rfl AN)) λz=>by cases z
 |eE h f v c=>exact xE (b:=false) (c:=false) (tB (w rfl EO)) λ_=>A1 (b:=false) (c:=false) (tB (w rfl UX)) λz=>by cases z
 |told h n a=>
  have v:∀{w':Str} {b:Bool},ar ah aq (cx .aA a) (.sc (.int 0))=some (sD w')->aF (λx=> !x) (.sc (.str w')) (.sc (.str (aE "file")))=some (.sc (.bl b))->b=decide (dm (.told h n a)=none)->gL (λZ=>(ag (aF id) (ag (ar ah aq) (ae 3) λx=>some (D.sc (V.int 0))) (λx=>some (D.sc (V.str (aE "ask")))) Z).bind λx=>match x with | D.sc (V.bl b)=>some b | x=>none)
    (d3 (λZ=>(ag (aF id) (ag (ar ah aq) (ae 3) λx=>some (D.sc (V.int 0))) (λx=>some (D.sc (V.str (aE "told")))) Z).bind λx=>match x with | D.sc (V.bl b)=>some b | x=>none)
     λZ=>(ag (aF λx=> !x) (ag (ar ah aq) (ag (ar ah aq) (ae 3) λx=>some (D.sc (V.int 3))) λx=>some (D.sc (V.int 0))) (λx=>some (D.sc (V.str (aE "file")))) Z).bind λx=>match x with | D.sc (V.bl b)=>some b | x=>none) Z=some (decide (dm (.told h n a)=none)):=λ{w' b} h1 h2 e=>by
   rw[<- e];exact xE (b:=false) (tB (w rfl AO)) λ_=>A1 (b:=true) (tB (w rfl pS)) λ_=>tB (b9 (b9 (b9 (b:= .sc (.int 3)) j4 rfl rfl) rfl h1) rfl h2)
  cases a with
  |file=>exact v rfl Vq rfl
  |ended=>exact v rfl U7 rfl
  |refused=>exact v rfl Va rfl
  |di=>exact v rfl Vd rfl
  |joined=>exact v rfl Ve rfl
  |ok=>exact v rfl Vh rfl
  |begun=>exact v rfl Vk rfl
  |folder=>exact v rfl Vn rfl
def sQ:En->Option Fl:=bO (cP (λZ=>aY (λb=>(b,Z)) (gL (λZ=>(ag (aF id) (ag (ar ah aq) (ae 3) λx=>some (D.sc (V.int 0))) (λx=>some (D.sc (V.str (aE "ask")))) Z).bind λx=>match x with | D.sc (V.bl b)=>some b | x=>none)
  (d3 (λZ=>(ag (aF id) (ag (ar ah aq) (ae 3) λx=>some (D.sc (V.int 0))) (λx=>some (D.sc (V.str (aE "told")))) Z).bind λx=>match x with | D.sc (V.bl b)=>some b | x=>none)
   λZ=>(ag (aF λx=> !x) (ag (ar ah aq) (ag (ar ah aq) (ae 3) λx=>some (D.sc (V.int 3))) λx=>some (D.sc (V.int 0))) (λx=>some (D.sc (V.str (aE "file")))) Z).bind λx=>match x with | D.sc (V.bl b)=>some b | x=>none) Z))
  (λZ=>some (Fl.ct Z)) λZ=>some (Fl.nx Z))
 (bO (zF [6,7,8] (gu (ag (ar ah aq) (ag (ar ah aq) (ae 4) (ae 5)) λx=>some (D.sc (V.int 0)))))
  (bO (dP 9 (gu (pA (λZ=>(ag (aF id) (ag (ar ah aq) (ae 3) λx=>some (D.sc (V.int 0))) (λx=>some (D.sc (V.str (aE "saw")))) Z).bind λx=>match x with | D.sc (V.bl b)=>some b | x=>none) (ae 5)
    (ag (ar ah aq) (ag (ar ah aq) (ae 1) (uC (ae 3) (λZ=>(some (D.sc (V.int 1))).bind fE) λZ=>(some (D.sc (V.int 3))).bind fE)) λx=>some (D.sc (V.int 0))))))
   u5))
theorem WI(k:Kd)(hk:k= .lst\/k= .aA){rs:List Row}(s:gX rs)(hl:rs.length < 200)(kk:Nat)(r:Row)(hr:rs[kk]?=some r)(x2 x6 x7 x8 x9 x10 x11 cL cM bV:Option B)(h2:NA x2)(h6:NA x6)(h7:NA x7)(h8:NA x8)(h9:NA x9)(pY:NA x10)(mW:NA x11)(mY:NA cL)(mZ:NA cM)(lB:NA bV):
  let E:=λx6 x7 x8 x9 x10 x11 cL cM bV=>dW (some (.ro (.nd k (rs.map (av .aA))))) (some (.own (bP bG (aD 0 rs)))) x2 (some (.ro (av .aA r))) (some (.own (.nd .lst (rs.map (ik (aD 0 rs)))))) (some (.ro (iD (kk:Nat)))) x6 x7 x8 x9 x10 x11 cL cM bV
  match mm (aD 0 rs) rs kk r with
  |none=>∃y6 y7 y8 y9 iA dA gj gk fS,NA y6/\NA y7/\NA y8/\NA y9/\NA iA/\NA dA/\NA gj/\NA gk/\NA fS/\(sQ (E x6 x7 x8 x9 x10 x11 cL cM bV)=some (.nx (E y6 y7 y8 y9 iA dA gj gk fS))\/sQ (E x6 x7 x8 x9 x10 x11 cL cM bV)=some (.ct (E y6 y7 y8 y9 iA dA gj gk fS)))
  |some p=>∃ρ',sQ (E x6 x7 x8 x9 x10 x11 cL cM bV)=some (.rt (pairD (some p)) ρ'):=by
 intro E;have hm:r∈rs:=jR hr;have lt:kk < rs.length:=(cb.mp hr).1;have t0:=WH r (E x6 x7 x8 x9 x10 x11 cL cM bV) rfl;cases hs:dm r with
 |none=>
  have e:mm (aD 0 rs) rs kk r=none:=by unfold mm;rw[hs]
  rw[e];rw[hs]at t0;refine⟨x6,x7,x8,x9,x10,x11,cL,cM,bV,h6,h7,h8,h9,pY,mW,mY,mZ,lB, .inr ?_⟩;unfold sQ bO;rw[bR t0];rfl
 |some y=>
  obtain⟨f,v,c⟩:=y;have hc:=A0 (s.ok r hm) hs;rw[hs]at t0;have e:mm (aD 0 rs) rs kk r=((jm kk).find? (kN (aD 0 rs) rs (jF (aD 0 rs) kk r) (dG r) f v c)).map λi:Nat=>((i:Int),(kk:Int)):=by unfold mm;rw[hs]
  rw[e];have et:∃l,hZ (aD 0 rs) r=(f,v,some c)::l:=by unfold hZ;rw[hs];exact⟨_,rfl⟩
  obtain⟨l,et⟩:=et;have r1:=sJ .aA r;have la:=WE k hk s hl (bP bG (aD 0 rs)) (av .aA r) kk (my lt) (dG r) f v c hc (jF (aD 0 rs) kk r) r1 x2 h2 x10 x11 cL cM bV pY mW mY mZ lB;have WJ:=(lA .lst (.inl rfl) rs (ik (aD 0 rs)) kk r hr (by lia)).2.2;have e1:gu (ag (ar ah aq) (ag (ar ah aq) (ae 4) (ae 5)) λx=>some (D.sc (V.int 0))) (E x6 x7 x8 x9 x10 x11 cL cM bV)=some (tp [iD f,iD v,sD c],E x6 x7 x8 x9 x10 x11 cL cM bV):=by
   refine pV (b9 (b9 (a:= .nd .lst (rs.map (ik (aD 0 rs)))) (b:=iD (kk:Nat)) rfl rfl WJ) rfl ?_) rfl;unfold ik;rw[et];exact(lA .lst (.inl rfl) ((f,v,some c)::l) ji 0 _ rfl (by decide)).2.2
  have e2:zF [6,7,8] (gu (ag (ar ah aq) (ag (ar ah aq) (ae 4) (ae 5)) λx=>some (D.sc (V.int 0)))) (E x6 x7 x8 x9 x10 x11 cL cM bV)=some (.nx (E (some (.own (iD f))) (some (.own (iD v))) (some (.own (sD c))) x9 x10 x11 cL cM bV)):=by
   unfold zF;rw[e1,bo];refine congrArg (λx=>some (Fl.nx x)) ?_;simp only[binds,E,dW,aR,eC,ig,N6,N7,bg h2,bg h6,bg h7,bg h8,bg h9,bg pY,bg mW,bg mY,bg mZ,bg lB,el]
  have e3:pA (λZ=>(ag (aF id) (ag (ar ah aq) (ae 3) λx=>some (D.sc (V.int 0))) (λx=>some (D.sc (V.str (aE "saw")))) Z).bind λx=>match x with | D.sc (V.bl b)=>some b | x=>none) (ae 5)
    (ag (ar ah aq) (ag (ar ah aq) (ae 1) (uC (ae 3) (λZ=>(some (D.sc (V.int 1))).bind fE) λZ=>(some (D.sc (V.int 3))).bind fE)) λx=>some (D.sc (V.int 0))) (E (some (.own (iD f))) (some (.own (iD v))) (some (.own (sD c))) x9 x10 x11 cL cM bV)=some (iD (jF (aD 0 rs) kk r)):=by
   cases r with
   |ask=>cases hs
   |eE h f' v' c'=>
    have t:=tB (f:=ag (aF id) (ag (ar ah aq) (ae 3) λx=>some (D.sc (V.int 0))) (λx=>some (D.sc (V.str (aE "saw"))))) (Z:=E (some (.own (iD f))) (some (.own (iD v))) (some (.own (sD c))) x9 x10 x11 cL cM bV) (b9 (b9 (a:=av .aA (.eE h f' v' c')) (b:= .sc (.int 0)) rfl rfl rfl) rfl AM);unfold pA;refine aj.mpr ⟨true,t, ?_⟩;rw[if_pos rfl];rfl
   |told h n a=>
    have t:=tB (f:=ag (aF id) (ag (ar ah aq) (ae 3) λx=>some (D.sc (V.int 0))) (λx=>some (D.sc (V.str (aE "saw"))))) (Z:=E (some (.own (iD f))) (some (.own (iD v))) (some (.own (sD c))) x9 x10 x11 cL cM bV) (b9 (b9 (a:=av .aA (.told h n a)) (b:= .sc (.int 0)) rfl rfl rfl) rfl mT);obtain⟨j,q,_,ej,_⟩:=s.told kk h n a hr;have LR:=xC s ej;obtain⟨i,i1,i2⟩:=LL bG (aD 0 rs) h n _ LR;have ea:jF (aD 0 rs) kk (.told h n a)=j:=by
     show((lk (h,n) (aD 0 rs)).map (·.1)).getD 0=_;rw[LR];rfl
    rw[ea];unfold pA;refine aj.mpr ⟨false,t, ?_⟩;rw[if_neg bh];refine b9 (a:=bG ((j:Int),q)) (b9 (a:=bP bG (aD 0 rs)) (b:= .nd .tup [iD h,iD n]) rfl rfl ?_) (b:= .sc (.int 0)) rfl rfl;show(ah _ _).bind _=_;rw[i1];exact i2
  have e4:dP 9 (gu (pA (λZ=>(ag (aF id) (ag (ar ah aq) (ae 3) λx=>some (D.sc (V.int 0))) (λx=>some (D.sc (V.str (aE "saw")))) Z).bind λx=>match x with | D.sc (V.bl b)=>some b | x=>none) (ae 5)
    (ag (ar ah aq) (ag (ar ah aq) (ae 1) (uC (ae 3) (λZ=>(some (D.sc (V.int 1))).bind fE) λZ=>(some (D.sc (V.int 3))).bind fE)) λx=>some (D.sc (V.int 0))))) (E (some (.own (iD f))) (some (.own (iD v))) (some (.own (sD c))) x9 x10 x11 cL cM bV)=some (.nx (E (some (.own (iD f))) (some (.own (iD v))) (some (.own (sD c))) (some (.own (iD (jF (aD 0 rs) kk r)))) x10 x11 cL cM bV)):=by
   refine eX (pV e3 rfl) ?_;simp only[E,dW,aR,eC,ig,N6,N7,bg h2,bg h9,bg pY,bg mW,bg mY,bg mZ,bg lB,el]
  have run:sQ (E x6 x7 x8 x9 x10 x11 cL cM bV)=u5 (E (some (.own (iD f))) (some (.own (iD v))) (some (.own (sD c))) (some (.own (iD (jF (aD 0 rs) kk r)))) x10 x11 cL cM bV):=by
   unfold sQ;exact aK ((bR t0).trans (if_neg (by simp))) (aK e2 (aK e4 rfl))
  rw[run];cases q:((jm kk).find? (kN (aD 0 rs) rs (jF (aD 0 rs) kk r) (dG r) f v c)).map (λi:Nat=>((i:Int),(kk:Int))) with
  |none=>
   rw[q]at la;obtain⟨iA,dA,gj,gk,fS,ox,jk,m3,m4,mr,e⟩:=la;exact⟨_,_,_,_,iA,dA,gj,gk,fS,ba,ba,ba,ba,ox,jk,m3,m4,mr, .inl e⟩
  |some p=>
   rw[q]at la;exact la
theorem WK(k:Kd)(hk:k= .lst\/k= .aA){rs:List Row}(s:gX rs)(hl:rs.length < 200):uS K C [.nd k (rs.map (av .aA))]=some (pairD (kO rs)):=by
 have hL:ma (.nd k (rs.map (av .aA)))=some (rs.map (av .aA)):=by rcases hk with rfl | rfl <;> rfl
 have hI:jX (.nd k (rs.map (av .aA)))=some (rs.map (av .aA)):=by rcases hk with rfl | rfl <;> rfl
 obtain⟨y2,y3,n2,n3,e1⟩:=Fg s hl (.nd k (rs.map (av .aA))) rs [] none none rfl aO aO yb;have e2:wY 15 [none,some 1] [0] (λZ=>(ae 0 Z).bind jX) (λd Z=>some (aR 0 (B.ro d) Z)) (λx=>some true) (λZ=>(au (ae 1) (au (ae 0) λx=>some []) Z).bind λds=>if ds.length=2 then oh K C ds else none)
   (dW (some (.ro (.nd k (rs.map (av .aA))))) (some (.own (bP bG (aD 0 rs)))) y2 y3 none none none none none none none none none none none)=some (.nd .lst (rs.map (ik (aD 0 rs)))):=by
  have e:=uD (n:=15) (js:= [none,some 1]) (is:= [0]) (fi:=λZ=>(ae 0 Z).bind jX) (fg:=λd Z=>some (aR 0 (B.ro d) Z)) (ft:=λx=>some true) (fe:=λZ=>(au (ae 1) (au (ae 0) λx=>some []) Z).bind λds=>if ds.length=2 then oh K C ds else none)
   (Z:=dW (some (.ro (.nd k (rs.map (av .aA))))) (some (.own (bP bG (aD 0 rs)))) y2 y3 none none none none none none none none none none none) rs (av .aA) (λ_=>true) (ik (aD 0 rs)) hI (dC (my hl) (by decide)) rfl
   (λr hr=>⟨[some (.ro (av .aA r)),some (.ro (bP bG (aD 0 rs)))],rfl,rfl,λ_=>aj.mpr ⟨[bP bG (aD 0 rs),av .aA r],rfl,(if_pos rfl).trans (Wr s r hr)⟩⟩)
  rw[Gm.mpr (λ_ _=>rfl)]at e;exact e
 have find:=E8 (fg:=gz 2 (dD (λd Z=>some (aR 5 (B.ro d) Z)) (dD (λd Z=>some (aR 3 (B.ro d) Z)) λds Z=>match ds with | []=>some Z | x=>none))) (fb:=sQ) (λx:Row×Nat=> .nd .tup [.sc (.int x.2),av .aA x.1]) (λx=>(mm (aD 0 rs) rs x.2 x.1).map λp=>pairD (some p))
  (λZ=>∃x2 x3 x5 x6 x7 x8 x9 x10 x11 cL cM bV,NA x2/\NA x3/\NA x5/\NA x6/\NA x7/\NA x8/\NA x9/\NA x10/\NA x11/\NA cL/\NA cM/\NA bV/\Z=dW (some (.ro (.nd k (rs.map (av .aA))))) (some (.own (bP bG (aD 0 rs)))) x2 x3 (some (.own (.nd .lst (rs.map (ik (aD 0 rs)))))) x5 x6 x7 x8 x9 x10 x11 cL cM bV)
  rs.zipIdx (dW (some (.ro (.nd k (rs.map (av .aA))))) (some (.own (bP bG (aD 0 rs)))) y2 y3 (some (.own (.nd .lst (rs.map (ik (aD 0 rs)))))) none none none none none none none none none none)
  ⟨y2,y3,none,none,none,none,none,none,none,none,none,none,n2,n3,aO,aO,aO,aO,aO,aO,aO,aO,aO,aO,rfl⟩
  (λx hx Z ⟨x2,x3,x5,x6,x7,x8,x9,x10,x11,cL,cM,bV,h2,h3,h5,h6,h7,h8,h9,pY,mW,mY,mZ,lB,e⟩=>by
   subst e;obtain⟨r,kk⟩:=x;have hr:rs[kk]?=some r:=by
    have:=Zo.mp hx;simpa using this
   refine⟨dW (some (.ro (.nd k (rs.map (av .aA))))) (some (.own (bP bG (aD 0 rs)))) x2 (some (.ro (av .aA r))) (some (.own (.nd .lst (rs.map (ik (aD 0 rs)))))) (some (.ro (iD (kk:Nat)))) x6 x7 x8 x9 x10 x11 cL cM bV, ?_, ?_⟩
   ·generalize D.nd k (rs.map (av .aA))=S;generalize bP bG (aD 0 rs)=A;generalize D.nd .lst (rs.map (ik (aD 0 rs)))=W;generalize av .aA r=R;simp[dW,iD,bg h2,bg h3,bg h5,bg h6,bg h7,bg h8,bg h9,bg pY,bg mW,bg mY,bg mZ,bg lB,aR,dD,gz,el,ig,eC]
   ·have lk:=WI k hk s hl kk r hr x2 x6 x7 x8 x9 x10 x11 cL cM bV h2 h6 h7 h8 h9 pY mW mY mZ lB;dsimp only;cases q:mm (aD 0 rs) rs kk r with
    |none=>
     rw[q]at lk;obtain⟨z6,z7,z8,z9,A3,u6,xF,xG,xH,m6,m7,m8,m9,A4,m5,Fi,Fj,Fm,e⟩:=lk;exact⟨_,⟨x2,_,_,z6,z7,z8,z9,A3,u6,xF,xG,xH,h2,bX,bX,m6,m7,m8,m9,A4,m5,Fi,Fj,Fm,rfl⟩,e⟩
    |some p=>rw[q]at lk;exact lk)
 have ef:rs.zipIdx.findSome? (λx=>(mm (aD 0 rs) rs x.2 x.1).map λp=>pairD (some p))=(kO rs).map λp=>pairD (some p):=by
  unfold kO;rw[List.map_findSome?];rfl
 rw[ef, <- E9]at find;unfold uS Ew;dsimp only;have u7:∀x1 x2 x3 x4 x5 x6 x7 x8 x9 x10 x11 cL cM bV,Ko (aC 0) (dW (some (.ro (.nd k (rs.map (av .aA))))) x1 x2 x3 x4 x5 x6 x7 x8 x9 x10 x11 cL cM bV)=some (jB 0 (rs.map (av .aA))):=λ_ _ _ _ _ _ _ _ _ _ _ _ _ _=>by
  show(ma _).map _=_;rw[hL];rfl
 have e4:aR 4 (.own (.nd .lst (rs.map (ik (aD 0 rs))))) (dW (some (.ro (.nd k (rs.map (av .aA))))) (some (.own (bP bG (aD 0 rs)))) y2 y3 none none none none none none none none none none none)=dW (some (.ro (.nd k (rs.map (av .aA))))) (some (.own (bP bG (aD 0 rs)))) y2 y3 (some (.own (.nd .lst (rs.map (ik (aD 0 rs)))))) none none none none none none none none none none:=by
  simp only[dW,aR,eC,ig,N6,N7,bg n2,bg n3,iy,el]
 cases q:kO rs with
 |none=>
  rw[q]at find;obtain⟨ρ',_,e⟩:=find;exact jY (aK (ρ':=dW (some (.ro (.nd k (rs.map (av .aA))))) (some (.own (bP bG (aD 0 [])))) none none none none none none none none none none none none none) rfl (aK (aj.mpr ⟨_,u7 _ _ _ _ _ _ _ _ _ _ _ _ _ _,e1⟩) (aK (eX (fM e2) e4) (aK (aj.mpr ⟨_,u7 _ _ _ _ _ _ _ _ _ _ _ _ _ _,e⟩) rfl))))
 |some p=>
  rw[q]at find;obtain⟨ρ',e⟩:=find;exact jY (aK (ρ':=dW (some (.ro (.nd k (rs.map (av .aA))))) (some (.own (bP bG (aD 0 [])))) none none none none none none none none none none none none none) rfl (aK (aj.mpr ⟨_,u7 _ _ _ _ _ _ _ _ _ _ _ _ _ _,e1⟩) (aK (eX (fM e2) e4) (iG (aj.mpr ⟨_,u7 _ _ _ _ _ _ _ _ _ _ _ _ _ _,e⟩)))))
end K55
namespace SF
open PySem L2 VL
def dQ(G:List D->Option (D×List D))(fa:En->Option (List Ar))(Z:En):Option (D×En):=(aY (λa=>(a,Z)) (fa Z)).bind λa=>qB G a.fst a.snd
theorem sR{G:List D->Option (D×List D)}{fa:En->Option (List Ar)}{Z ρ':En}{as:List Ar}{ds cW:List D}{d:D}(h0:fa Z=some as)(h1:iw Z as=some ds)(h2:lY (cK as)/\as.all (qA (cK as))=true)(h3:G ds=some (d,cW))(hl:cW.length=(cK as).length)(e:pG Z (cK as) cW=ρ'):dQ G fa Z=some (d,ρ'):=LK h0 h1 h2 h3 hl e
noncomputable def LS:Option B->Bool
 |some (.aT _ (_::_))=>false
 |_=>true
theorem ip{Z:En}(h:Z.all LS=true):Al Z:=λb hb=>by
 have:=Gg.mp h b hb
 match b,this with
 |none,_=>exact .inl aO
 |some (.own _),_=>exact .inl ba
 |some (.ro _),_=>exact .inl bX
 |some (.aT r []),_=>exact .inr ⟨r,rfl⟩
theorem kP{x:Option B}(h:NA x):LS x=true:=by
 match x,h with
 |none,_=>rfl
 |some (.own _),_=>rfl
 |some (.ro _),_=>rfl
 |some (.aT r p),h=>exact absurd rfl (h r p)
theorem bZ{fa:En->Option (D×En)}{fr:En->Option (List D×En)}{Z ρ1 ρ2:En}{a:D}{r:List D}(h1:fa Z=some (a,ρ1))(h2:fr ρ1=some (r,ρ2)):bU fa fr Z=some (a::r,ρ2):=by
 unfold bU;rw[h1,bo];dsimp only;rw[h2];rfl
theorem kQ{f:En->Option (List D×En)}{Z ρ1:En}{l:List D}(h:f Z=some (l,ρ1))(hl:l.length<=12):fQ f Z=some (.nd .tup l,ρ1):=by
 unfold fQ;rw[h,bo];exact if_pos (dC hl (by decide))
theorem A5{f:En->Option (List D×En)}{Z ρ1:En}{l:List D}(h:f Z=some (l,ρ1))(hl:l.length<=12):eQ f Z=some (.nd .lst l,ρ1):=by
 unfold eQ;rw[h,bo];exact if_pos (dC hl (by decide))
theorem Fn{g:List D->Option D}{fa:En->Option (List D×En)}{Z ρ1:En}{l:List D}{d:D}(h1:fa Z=some (l,ρ1))(h2:g l=some d):zw g fa Z=some (d,ρ1):=by
 unfold zw;rw[h1,bo,h2];rfl
theorem gN{k:Kd}{f:En->Option (List D)}{Z:En}{l:List D}(h:f Z=some l)(hl:l.length<=12):bu k f Z=some (.nd k l):=by
 unfold bu;rw[h,bo];exact if_pos (dC hl (by decide))
theorem gO{fa:En->Option D}{fr:En->Option (List D)}{Z:En}{a:D}{r:List D}(h1:fa Z=some a)(h2:fr Z=some r):au fa fr Z=some (a::r):=by
 unfold au;rw[h1,bo,h2];rfl
theorem LU{a b:En->Option (Bool×En)}{Z ρ1 ρ2:En}{x y:Bool}(h1:a Z=some (x,ρ1))(h2:b ρ1=some (y,ρ2))(h3:x=false->ρ2=ρ1):VL.andM a b Z=some (x && y,ρ2):=by
 unfold VL.andM;rw[h1,bo];cases x with
 |true=>exact h2
 |false=>rw[h3 rfl];rfl
theorem mv{fp:En->Option Pl}{fr:En->Option (List Ar)}{Z:En}{q:Pl}{d:D}{as:List Ar}(h:fp Z=some q)(hd:fB Z q=some d)(pl:VL.plain d=true)(h2:fr Z=some as):eJ fp fr Z=some (.tm d::as):=by
 unfold eJ;rw[h,bo,hd,bo,if_pos pl,h2];rfl
theorem LV{fp:En->Option Pl}{fr:En->Option (List Ar)}{Z:En}{q:Pl}{d:D}{as:List Ar}(h:fp Z=some q)(hd:fB Z q=some d)(pl:VL.plain d=false)(h2:fr Z=some as):eJ fp fr Z=some (.rv q d::as):=by
 unfold eJ;rw[h,bo,hd,bo,if_neg (by rw[pl];exact bh),h2];rfl
theorem oy{g:D->D->Option Nat}{fa:En->Option Pl}{fb:En->Option D}{Z:En}{d b c:D}{i r:Nat}{p:List Nat}(h1:fa Z=some (.rt r p))(hd:fB Z (.rt r p)=some d)(h2:fb Z=some b)(h3:g d b=some i)(h4:bM d i=some c)(np:VL.plain d=false):cA g fa fb Z=some (.rt r (p++ [i])):=by
 unfold cA;rw[h1,bo,h2,bo,hd,bo,h3,bo];unfold lV;rw[hd,bo,h4,bo];dsimp only;rw[if_neg (by rw[np];exact bh)]
section
variable {α β κ:Type}[DecidableEq β][DecidableEq κ]
noncomputable def fT (b:β) (a:α):List (β×α)->List (β×α)
 | []=> [(b,a)]
 |x::l=>if x.1=b then(x.1,a)::l else x::fT b a l
theorem Fo(b:β)(a:α):∀l:List (β×α),(fT b a l).length<=l.length + 1
 | []=>by simp[fT]
 |x::l=>by
  unfold fT;have:=Fo b a l
  split
  ·simp
  ·simp;lia
theorem LW(b:β)(a:α):∀{l:List (β×α)} {x:β×α},x∈fT b a l->x∈l\/x.2=a
 | [],x,h=>by
  simp[fT]at h;exact .inr (by rw[h])
 |y::l,x,h=>by
  unfold fT at h
  split at h
  ·cases h with
   |head=>exact .inr rfl
   |tail _ h=>exact .inl (.tail _ h)
  ·cases h with
   |head=>exact .inl (.head _)
   |tail _ h=>exact(LW b a h).imp (.tail _) id
theorem LX(b:β)(a:α):∀{l:List (β×α)} {x:β×α},x∈fT b a l->x.1=b\/∃y∈l,y.1=x.1
 | [],x,h=>by
  simp[fT]at h;exact .inl (by rw[h])
 |y::l,x,h=>by
  unfold fT at h
  split at h
  ·cases h with
   |head=>exact .inr ⟨y, .head _,rfl⟩
   |tail _ h=>exact .inr ⟨x, .tail _ h,rfl⟩
  ·cases h with
   |head=>exact .inr ⟨y, .head _,rfl⟩
   |tail _ h=>exact(LX b a h).imp id λ⟨z,hz,e⟩=>⟨z, .tail _ hz,e⟩
theorem Fq(kk:β->κ)(inj:∀a b,kk a=kk b->a=b)(b:β)(a:α):∀{l:List (β×α)},(l.map λx=>kk x.1).Nodup->((fT b a l).map λx=>kk x.1).Nodup
 | [],_=>by simp[fT]
 |y::l,h=>by
  rw[eO,mB]at h;unfold fT
  split
  ·rw[eO,mB];exact h
  ·rename_i c
   rw[eO,mB];refine⟨λhm=> ?_,Fq kk inj b a h.2⟩;obtain⟨x,hx,e⟩:=jK.mp hm;rcases LX b a hx with z | ⟨z,hz,ez⟩
   ·exact c (inj _ _ (e.symm.trans (by rw[z])))
   ·exact h.1 (jK.mpr ⟨z,hz,by rw[ez];exact e⟩)
theorem Ft(kk:β->κ)(inj:∀a b,kk a=kk b->a=b)(g:α->D)(b:β)(a:α):∀(l:List (β×α)),(∃i,cX (kk b) (l.map λx=>kk x.1)=some i/\(fT b a l).map (λx=>kk x.1)=l.map (λx=>kk x.1)/\(fT b a l).map (λx=>g x.2)=(l.map λx=>g x.2).set i (g a))\/
  (cX (kk b) (l.map λx=>kk x.1)=none/\fT b a l=l++ [(b,a)])
 | []=> .inr ⟨rfl,rfl⟩
 |x::l=>by
  by_cases c:x.1=b
  ·left;refine⟨0, ?_, ?_, ?_⟩
   ·show(if kk x.1=kk b then some 0 else _)=_;rw[if_pos (by rw[c])]
   ·unfold fT;rw[if_pos c];rfl
   ·unfold fT;rw[if_pos c];rfl
  ·have nc:¬ kk x.1=kk b:=λe=>c (inj _ _ e);have e1:cX (kk b) ((x::l).map λx=>kk x.1)=(cX (kk b) (l.map λx=>kk x.1)).map (· + 1):=by
    show(if kk x.1=kk b then some 0 else _)=_;rw[if_neg nc]
   rw[e1];rcases Ft kk inj g b a l with⟨i,h1,h2,h3⟩ | ⟨h1,h2⟩
   ·left;exact⟨i + 1,by rw[h1];rfl,by unfold fT;rw[if_neg c];simp[h2],by unfold fT;rw[if_neg c];simp[h3]⟩
   ·right;exact⟨by rw[h1];rfl,by unfold fT;rw[if_neg c,h2];rfl⟩
end
theorem WL{α:Type}(g:α->D)(L:List (Int×α))(b:Int)(a:α)(hl:L.length < 2000)(nd:(L.map λx=>k1 x.1).Nodup):qF (.cy (L.map λx=>k1 x.1)) (L.map λx=>g x.2) (iD b) (g a)=some (j3 g (fT b a L)):=by
 show(if(L.map λx=>g x.2).length < aN/\(L.map λx=>k1 x.1).Nodup then _ else _)=_;rw[if_pos ⟨by rw[eG];exact df hl (by decide),nd⟩];show(match cX (k1 b) (L.map λx=>k1 x.1) with | some i=>_ | none=>_)=_;rcases Ft k1 AQ g b a L with⟨i,h1,h2,h3⟩ | ⟨h1,h2⟩
 ·rw[h1];unfold j3;rw[h2,h3]
 ·rw[h1];unfold j3;rw[h2];simp[k1]
theorem WM{α:Type}(g:α->D)(L:List ((Int×Int)×α))(b c:Int)(a:α)(hl:L.length < 2000)(nd:(L.map λx=>k2 x.1).Nodup):qH (.dk (L.map λx=>k2 x.1)) (L.map λx=>g x.2) (.nd .tup [iD b,iD c]) (g a)=some (bP g (fT (b,c) a L)):=by
 show(if(L.map λx=>g x.2).length < aN/\(L.map λx=>k2 x.1).Nodup then _ else _)=_;rw[if_pos ⟨by rw[eG];exact df hl (by decide),nd⟩];show(match cX (k2 (b,c)) (L.map λx=>k2 x.1) with | some i=>_ | none=>_)=_;rcases Ft k2 pT g (b,c) a L with⟨i,h1,h2,h3⟩ | ⟨h1,h2⟩
 ·rw[h1];unfold bP;rw[h2,h3]
 ·rw[h1];unfold bP;rw[h2];simp[k2]
structure eF where
 N:List (Int×Int)
 Co:List ((Int×Int)×Str)
 cn:List Int
 as:List (Option bw)
 fi:Int
 od:Int
noncomputable def stK:List bB:= [.inr "now", .inr "contents", .inr "counts", .inr "asked", .inr "files", .inr "odd"]
def wD(w:eF):D:= .nd (.cy stK) [j3 iD w.N,bP sD w.Co, .nd .lst (w.cn.map iD), .nd .lst (w.as.map dn),iD w.fi,iD w.od]
theorem LY(w:eF):ah (wD w) (.sc (.str (aE "now")))=some 0:=rfl
theorem WN(w:eF):ah (wD w) (.sc (.str (aE "contents")))=some 1:=rfl
theorem WO(w:eF):ah (wD w) (.sc (.str (aE "counts")))=some 2:=rfl
theorem Fu(w:eF):ah (wD w) (.sc (.str (aE "asked")))=some 3:=rfl
theorem Fv(w:eF):ah (wD w) (.sc (.str (aE "files")))=some 4:=rfl
theorem LZ(w:eF):ah (wD w) (.sc (.str (aE "odd")))=some 5:=rfl
theorem WQ(w:eF):ar ah aq (wD w) (.sc (.str (aE "now")))=some (j3 iD w.N):=rfl
theorem WR(w:eF):ar ah aq (wD w) (.sc (.str (aE "contents")))=some (bP sD w.Co):=rfl
theorem A6(w:eF):ar ah aq (wD w) (.sc (.str (aE "counts")))=some (.nd .lst (w.cn.map iD)):=rfl
theorem L0(w:eF):ar ah aq (wD w) (.sc (.str (aE "asked")))=some (.nd .lst (w.as.map dn)):=rfl
structure eT(n:Nat)(w:eF):Prop where
 nl:w.N.length<=n
 nn:(w.N.map λx=>k1 x.1).Nodup
 cl:w.Co.length<=n
 cd:(w.Co.map λx=>k2 x.1).Nodup
 cs:∀x∈w.Co,dU x.2=true
 len:w.as.length=w.cn.length
 ha:0 < w.cn.length
 hb:w.cn.length < 100
 f1:0 < w.fi
 f2:w.fi < 100
 o1:0 < w.od
 o2:w.od < 2000
theorem L1{Z:En}(al:Al Z){fp:En->Option Pl}{fe:En->Option D}{r:Nat}{aG:List D}{d:D}(h1:fp Z=some (.rt r []))(hr:aP Z r=some (.nd .lst aG))(h2:fe Z=some d)(hl:aG.length < 2000):gv (mQ fp fe) Z=some (.nx (Z.set r (some (.own (.nd .lst (aG++ [d])))))):=by
 have hn:gw Z r []=some (.nd .lst aG, .lst,aG):=by
  unfold gw;rw[hr,bo,j5];rfl
 refine Fc (d:= .sc .az) ?_;unfold mQ;rw[h1,bo];dsimp only;rw[h2,bo];unfold ja;rw[hn,bo];dsimp only;unfold jW;rw[if_pos (df hl (by decide)),mD,mD,mj al,oq]
theorem Fw{fe:En->Option (D×En)}{fp:En->Option Pl}{fi:En->Option D}{Z ρ1 ρ':En}{d d0:D}{r:Nat}{p:List Nat}{cs:List D}{h:Nat}(al:Al ρ1)(h1:fe Z=some (d,ρ1))(h2:fp ρ1=some (.rt r p))(h3:fi ρ1=some (iD (h:Nat)))(h4:gw ρ1 r p=some (d0, .lst,cs))(hh:h < cs.length)(hc:cs.length < 2000)(e:ρ1.set r (some (.own (bf d0 p (.nd .lst (cs.set h d)))))=ρ'):sg fe fp fi Z=some (.nx ρ'):=by
 unfold sg;rw[h1,bo];dsimp only;rw[h2,bo];dsimp only;rw[h3,bo];unfold ja;rw[h4,bo];dsimp only;have e1:bJ cs.length (h:Int)=some h:=by
  unfold bJ;rw[if_pos (by lia)]
  first | (rw[if_pos (by lia)];simp) | simp[hh] | lia
 show((aY (λp=>cs.set p d) (bJ cs.length (h:Int))).map _).map _=_;rw[e1,mD,mD,mD,mj al,e]
theorem sS{α:Type}{fg:D->En->Option En}{fb:En->Option Fl}(N:Nat)(g:α->D)(P:Nat->En->Prop):∀(l:List α),(∀a∈l,∀j Z,j < N->P j Z->∃ρ1 ρ',fg (g a) Z=some ρ1/\fb ρ1=some (.nx ρ')/\P (j + 1) ρ')->∀(j:Nat) (Z:En),P j Z->j + l.length<=N->∃ρ',de fg fb (l.map g) Z=some (.nx ρ')/\P (j + l.length) ρ'
 | [],_,j,Z,h,_=>⟨Z,rfl,h⟩
 |a::l,st,j,Z,h,hn=>by
  obtain⟨ρ1,ρ',e1,e2,hP⟩:=st a (.head _) j Z (by simp at hn;lia) h;obtain⟨ρ2,e3,WS⟩:=sS N g P l (λb hb=>st b (.tail _ hb)) (j + 1) ρ' hP (by simp at hn;lia);refine⟨ρ2, ?_,by rw[show j + (a::l).length=j + 1 + l.length by simp;lia];exact WS⟩;rw[eO,de,e1];show(fb ρ1).bind _=_;rw[e2];exact e3
theorem L3{f:En->Option (D×En)}{Z ρ1:En}{cs:List D}(h:f Z=some (.nd .lst cs,ρ1))(p:bq cs=true):Af f Z=some (.nd .aA cs,ρ1):=by
 have e:sr (.nd .lst cs)= .nd .aA cs:=by
  show(if bq cs=true then _ else _)=_;rw[if_pos p]
 unfold Af;rw[h,mD];dsimp only;rw[e]
theorem eT.mono{n m:Nat}{w:eF}(hw:eT n w)(h:n<=m):eT m w:=⟨dC hw.nl h,hw.nn,dC hw.cl h,hw.cd,hw.cs,hw.len,hw.ha,hw.hb,hw.f1,hw.f2,hw.o1,hw.o2⟩
end SF
namespace K55
open PySem L2 VL SF
variable {K:ak}{C:Addr}[dz K C]
theorem WT(cs:List Int)(k:Nat):∃c:Int,xp K C [iQ cs,iD k]=some (iD c):=by
 by_cases h:k < cs.length
 ·exact⟨cs[k],by simp[xp,AF,iQ,h,bD,b7,au,ae,bp,cP,iN,cE,bJ,aq,ah,ar,cv,bM,qD,ag,VL.plain,gu,cu,bO,fC]⟩
 ·exact⟨0,by simp[xp,AF,iQ,h,bD,b7,au,ae,bp,cP,iN,cE,bJ,aq,ah,ar,cv,qD,ag,gu,cu,bO,fC]⟩
theorem L4(c k:Int)(hk:0<=k/\k < 2 ^ 30):∃m:Int,0<=m/\m < 1999999973/\AD K C [iD c,iD k]=some (iD m):=by
 let m:=((c % 2147483629 + k * k * 7919 + 11) * 48271 % 2147483647)
 have hm:0<=m/\m < 2147483647:=⟨N8 _ (by decide),N9 _ (by decide)⟩
 refine⟨m * m % 1999999973,N8 _ (by decide),N9 _ (by decide), ?_⟩;have k1: -18446744073709551616 < k/\k < 18446744073709551616:=by lia
 have m1: -18446744073709551616 < m/\m < 18446744073709551616:=by lia
 have m2: -18446744073709551616 < (c % 2147483629 + k * k * 7919 + 11) * 48271 % 2147483647/\(c % 2147483629 + k * k * 7919 + 11) * 48271 % 2147483647 < 18446744073709551616:=m1;simp[AD,Es,k1,m2,m,pK,jx,dP,bD,aR,b7,ae,intD,ag,cu,bO,fC,rF,el,eC,iy]
theorem WU(c m:Int)(hm:0 < m)(h2:m < 2 ^ 200):gG K C [.nd .lst [iD c],iD m]=some (iD (c % m), [.nd .lst [iD (c / m)]]):=by
 have h3:m < 1606938044258990275541962092341162602522202993782792835301376:=h2;simp[gG,Eu,hm,h3,jM,dP,bD,aR,gF,ae,bp,gE,nV,aJ,intD,b8,cE,bJ,aq,ah,ar,cv,bM,ja,fK,gw,ag,cJ,kq,aC,VL.plain,gA,jv,cu,aP,bO,sg,xb,bf,fC,yQ,el,ig,eC,iy,si]
theorem L5(c:Int)(k:Nat)(hk:k < 2 ^ 20):∃r:Int,pP K C [iD c,iD k]=some (.nd .lst [iD r]):=by
 have a1:xg [iD c]=some (iD (if c < 0 then -c else c)):=rfl;have pw:ag (intD vN λi j=>V.int (i ^ j.toNat)) (λx=>some (D.sc (V.int 10))) (λx=>some (D.sc (V.int 18))) [some (.ro (iD c)),some (.ro (iD k)),none,none]=some (iD 1000000000000000000):=by simp[iD,intD,ag,vN]
 have t0:∀b,decide (1000000000000000000<=(if c < 0 then -c else c))=b->(ag (iN λi j=>V.bl (decide (j<=i))) (λZ=>(au (ae 0) (λx=>some []) Z).bind xg) (ag (intD vN λi j=>V.int (i ^ j.toNat)) (λx=>some (D.sc (V.int 10))) λx=>some (D.sc (V.int 18))) [some (.ro (iD c)),some (.ro (iD k)),none,none]).bind (λx=>match x with | D.sc (V.bl b)=>some b | x=>none)=some b:=λb hb=>by
  have:=tB (f:=ag (iN λi j=>V.bl (decide (j<=i))) (λZ=>(au (ae 0) (λx=>some []) Z).bind xg) (ag (intD vN λi j=>V.int (i ^ j.toNat)) (λx=>some (D.sc (V.int 10))) λx=>some (D.sc (V.int 18)))) (Z:= [some (.ro (iD c)),some (.ro (iD k)),none,none]) (b:=b) (b9 (a:=iD (if c < 0 then -c else c)) rfl pw (by rw[<- hb];rfl));exact this
 have key:∃d,pP K C [iD c,iD k]=some d/\∃r,d= .nd .lst [iD r]:=by
  unfold pP Et;dsimp only;cases hb:decide (1000000000000000000<=(if c < 0 then -c else c)) with
  |true=>
   refine⟨.nd .lst [iD (if c < 0 then -c else c)],jY (ρ':= [some (.ro (iD c)),some (.ro (iD k)),none,none]) (iG (((bR (t0 true hb)).trans (if_pos rfl)).trans (ij (A5 (l:= [iD (if c < 0 then -c else c)]) (bZ (a:=iD (if c < 0 then -c else c)) (ρ1:= [some (.ro (iD c)),some (.ro (iD k)),none,none]) (fM rfl) rfl) (by simp))))),_,rfl⟩
  |false=>
   refine Tw (Ev.nx (ρ':= [some (.ro (iD c)),some (.ro (iD k)),none,none]) ((bR (t0 false hb)).trans (if_neg bh)) (Ev.nx (ρ':= [some (.ro (iD c)),some (.ro (iD k)),some (.own (iD 0)),none]) (by simp[iD,dP,aR,el,eC,iy]) (Ev.seq ?_)));refine Ev.for (ds:=nY 0 8) (by simp[kH,au]) (λZ=>∃(nu:Int) (x:Option B),NA x/\Z= [some (.ro (iD c)),some (.ro (iD k)),some (.own (iD nu)),x]) ⟨0,none,aO,rfl⟩ ?_ ?_
   ·rintro d hd Z ⟨nu,x,hx,rfl⟩;obtain⟨j,hj,rfl⟩:=Tz hd;obtain⟨m1,a1,a2,e1⟩:=L4 (K:=K) (C:=C) c (20 * k + j) (by lia);obtain⟨m2,b1,b2,e2⟩:=L4 (K:=K) (C:=C) m1 j (by lia);have z:(0:Int) + j=j:=Int.zero_add _;rw[z];have k1: -18446744073709551616 < (k:Int)/\(k:Int) < 18446744073709551616:=by lia
    generalize AD K C=GM at *;simp[Ev,bg hx,e1,e2,k1,pK,jx,dP,bD,aR,au,bU,ae,intD,eQ,fK,ag,cu,rF,el,ig,eC];exact bX
   ·rintro Z ⟨nu,x,hx,rfl⟩;refine⟨_,ij (A5 (bZ (a:=iD nu) (ρ1:= [some (.ro (iD c)),some (.ro (iD k)),some (.own (iD nu)),x]) rfl rfl) (by simp)), ?_⟩;exact⟨nu,rfl⟩
 obtain⟨d,e,r,rfl⟩:=key;exact⟨r,e⟩
theorem kx{Z:En}{fp:En->Option Pl}{fr:En->Option (List Ar)}{r:Nat}{c m:Int}(al:Al Z)(h1:fp Z=some (.rt r []))(hr:aP Z r=some (.nd .lst [iD c]))(h2:fr Z=some [.tm (iD m)])(hm:0 < m)(h3:m < 10000):dQ (gG K C) (cG fp fr) Z=some (iD (c % m),Z.set r (some (.own (.nd .lst [iD (c / m)])))):=
 sR (mn h1 h2) (by simp[iw,nW,hr,j5]) ⟨BE _ _,rfl⟩ (WU c m hm (by lia)) rfl (AW al hr _)
variable {K:ak}{C:Addr}[dz K C]
def xI(W F:D)(x3:Option B)(c:Int):En:= [some (.aT 4 []),some (.ro W),some (.ro F),x3,some (.own (.nd .lst [iD c]))]
theorem WV{n:Nat}{w:eF}(hw:eT n w)(c f:Int):∃v c',uU K C [.nd .lst [iD c],wD w,iD f]=some (iD v, [.nd .lst [iD c']]):=by
 have g:=EU iD w.N f (iD 0);have e1:ly iD (lk f w.N) (iD 0)=iD ((lk f w.N).getD 0):=by cases lk f w.N <;> rfl
 rw[e1]at g;generalize (lk f w.N).getD 0=now at g;have p0:cA ah (aC 1) (λx=>some (D.sc (V.str (aE "now")))) (xI (wD w) (iD f) none c)=some (.ro (j3 iD w.N)):=u3 rfl rfl (LY w) rfl;have po:∀x3 c,cA ah (aC 1) (λx=>some (D.sc (V.str (aE "odd")))) (xI (wD w) (iD f) x3 c)=some (.ro (iD w.od)):=λx3 c=>u3 rfl rfl (LZ w) rfl;have s1:uM 3 (cA ah (aC 1) λx=>some (D.sc (V.str (aE "now")))) (ag (ar ah aq) (ae 1) λx=>some (D.sc (V.str (aE "now")))) (ae 2) (λx=>some (D.sc (V.int 0))) (λx=>some (D.sc (V.int 0))) (xI (wD w) (iD f) none c)=some (.nx (xI (wD w) (iD f) (some (.ro (iD now))) c)):=Lw p0 (EW p0 (y:=iD f) (x:=iD 0) rfl rfl g) rfl;have al:∀c,Al (xI (wD w) (iD f) (some (.ro (iD now))) c):=λc=>ip rfl;have k1:=kx (K:=K) (C:=C) (fp:=aC 0) (fr:=eJ (cA ah (aC 1) λx=>some (D.sc (V.str (aE "odd")))) λx=>some []) (al c) (r:=4) (c:=c) (m:=w.od) rfl rfl (mv (po _ _) rfl rfl rfl) hw.o1 (by have:=hw.o2;lia);have k2:=λc=>kx (K:=K) (C:=C) (fp:=aC 0) (fr:=fX (λx=>some (D.sc (V.int 4))) λx=>some []) (al c) (r:=4) (c:=c) (m:=4) rfl rfl rfl (by decide) (by decide);unfold uU EF;dsimp only;have t:=sj (gg k1 rfl (ou (c % w.od) 1) (fb:=λZ=>aY (λd=>(d,Z)) (some (D.sc (V.int 1)))));cases hb:decide (c % w.od=1) with
 |true=>
  rw[hb]at t;exact⟨_,_,jz (aK s1 (iG (jZ t ((if_pos rfl).trans (ij (Fn (bZ (a:=iD 0) (fM rfl) (bZ (gg (gg (a:=iD now) rfl (k2 _) rfl) (b:=iD 2) rfl rfl) rfl)) rfl)))))) rfl⟩
 |false=>
  rw[hb]at t;exact⟨_,_,jz (aK s1 (aK (jZ t (if_neg bh)) (ij (d:=iD now) rfl))) rfl⟩
def L6(W F G:D)(c:Int):En:= [some (.aT 4 []),some (.ro W),some (.ro F),some (.ro G),some (.own (.nd .lst [iD c]))]
theorem oz{c m:Int}(hm:0 < m):0<=c % m/\c % m < m:=⟨N8 _ (by lia),N9 _ hm⟩
theorem WW{n:Nat}{w:eF}(hw:eT n w)(c f v:Int):∃s c',dU s=true/\xu K C [.nd .lst [iD c],wD w,iD f,iD v]=some (sD s, [.nd .lst [iD c']]):=by
 have g:=AR sD w.Co f v (sD "");have e1:∃s,dU s=true/\ly sD (lk (f,v) w.Co) (sD "")=sD s:=by
  cases q:lk (f,v) w.Co with
  |none=>exact⟨_,by decide +kernel,rfl⟩
  |some s=>
   refine⟨s, ?_,rfl⟩;have:∀{l:List ((Int×Int)×Str)},(∀x∈l,dU x.2=true)->lk (f,v) l=some s->dU s=true:=λ{l}=>by
    induction l with
    |nil=>intro _ h;cases h
    |cons x l ih=>
     intro h1 h2;unfold lk at h2
     split at h2
     ·cases h2;exact h1 x (.head _)
     ·exact ih (λy hy=>h1 y (.tail _ hy)) h2
   exact this hw.cs q
 obtain⟨s0,WX,e1⟩:=e1;rw[e1]at g;have po:∀c,cA ah (aC 1) (λx=>some (D.sc (V.str (aE "odd")))) (L6 (wD w) (iD f) (iD v) c)=some (.ro (iD w.od)):=λc=>u3 rfl rfl (LZ w) rfl;have al:∀c,Al (L6 (wD w) (iD f) (iD v) c):=λc=>ip rfl;have k1:=kx (K:=K) (C:=C) (fp:=aC 0) (fr:=eJ (cA ah (aC 1) λx=>some (D.sc (V.str (aE "odd")))) λx=>some []) (al c) (r:=4) (c:=c) (m:=w.od) rfl rfl (mv (po _) rfl rfl rfl) hw.o1 (by have:=hw.o2;lia);have k2:=λc=>kx (K:=K) (C:=C) (fp:=aC 0) (fr:=fX (λx=>some (D.sc (V.int 3))) λx=>some []) (al c) (r:=4) (c:=c) (m:=3) rfl rfl rfl (by decide) (by decide);unfold xu EI;dsimp only;have t:=sj (gg k1 rfl (ou (c % w.od) 1) (fb:=λZ=>aY (λd=>(d,Z)) (some (D.sc (V.int 1)))));cases hb:decide (c % w.od=1) with
 |true=>
  rw[hb]at t;have ix:∃s,dU s=true/\gT ah aq (.nd .lst [sD "",sD "x",sD "y.1"]) (iD (c / w.od % 3))=some (sD s):=by
   have:=oz (c:=c / w.od) (m:=3) (by decide);have z:c / w.od % 3=0\/c / w.od % 3=1\/c / w.od % 3=2:=by lia
   rcases z with z | z | z <;> rw[z]
   ·exact⟨"",by decide +kernel,rfl⟩
   ·exact⟨"x",by decide +kernel,rfl⟩
   ·exact⟨"y.1",by decide +kernel,rfl⟩
  obtain⟨s,hs,ix⟩:=ix;exact⟨s,_,hs,jz (iG (jZ t ((if_pos rfl).trans (ij (gg (fM (gN (l:= [sD "",sD "x",sD "y.1"]) rfl (by simp))) (k2 _) ix))))) rfl⟩
 |false=>
  rw[hb]at t;exact⟨s0,_,WX,jz (aK (jZ t (if_neg bh)) (ij (pV (E2 (dd:=bP sD w.Co) (y:= .nd .tup [iD f,iD v]) (x:=sD "") (b9 (a:=wD w) rfl rfl (WR w)) (gN (l:= [iD f,iD v]) rfl (by simp)) rfl g) rfl))) rfl⟩
variable {K:ak}{C:Addr}[dz K C]
theorem Fx{n:Nat}{w:eF}(hw:eT n w){Z:En}(al:Al Z){fp fq fz:En->Option Pl}{r s:Nat}{z:Pl}{c f:Int}(h1:fp Z=some (.rt r []))(hr:aP Z r=some (.nd .lst [iD c]))(h2:fq Z=some (.rt s []))(hs:aP Z s=some (wD w))(ne:r≠s)(h3:fz Z=some z)(hz:fB Z z=some (iD f)):
  ∃v c',dQ (uU K C) (cG fp (eJ fq (eJ fz λx=>some []))) Z=some (iD v,Z.set r (some (.own (.nd .lst [iD c'])))):=by
 obtain⟨v,c',e⟩:=WV (K:=K) (C:=C) hw c f;have hd:fB Z (.rt s [])=some (wD w):=by
  show(aP Z s).bind _=_;rw[hs,bo,j5]
 refine⟨v,c',sR (mn h1 (LV h2 hd rfl (mv h3 hz rfl rfl))) (by simp[iw,nW,hr,j5]) ⟨BE _ _, ?_⟩ e rfl (AW al hr _)⟩;have:(!decide (r=s))=true:=by simp[ne]
 simp[qA,cK,this]
theorem L7{n:Nat}{w:eF}(hw:eT n w){Z:En}(al:Al Z){fp fq fz fu:En->Option Pl}{r s:Nat}{z u:Pl}{c f v:Int}(h1:fp Z=some (.rt r []))(hr:aP Z r=some (.nd .lst [iD c]))(h2:fq Z=some (.rt s []))(hs:aP Z s=some (wD w))(ne:r≠s)(h3:fz Z=some z)(hz:fB Z z=some (iD f))(h4:fu Z=some u)(hu:fB Z u=some (iD v)):
  ∃t c',dU t=true/\dQ (xu K C) (cG fp (eJ fq (eJ fz (eJ fu λx=>some [])))) Z=some (sD t,Z.set r (some (.own (.nd .lst [iD c'])))):=by
 obtain⟨t,c',ht,e⟩:=WW (K:=K) (C:=C) hw c f v;have hd:fB Z (.rt s [])=some (wD w):=by
  show(aP Z s).bind _=_;rw[hs,bo,j5]
 refine⟨t,c',ht,sR (mn h1 (LV h2 hd rfl (mv h3 hz rfl (mv h4 hu rfl rfl)))) (by simp[iw,nW,hr,j5]) ⟨BE _ _, ?_⟩ e rfl (AW al hr _)⟩;have:(!decide (r=s))=true:=by simp[ne]
 simp[qA,cK,this]
theorem WY{fv:En->Option (D×En)}{fp:En->Option Pl}{fy:En->Option D}{Z ρ':En}{d y d0 d':D}{r:Nat}{p:List Nat}{kk:Kd}{cs:List D}(h1:fv Z=some (d,Z))(h2:fp Z=some (.rt r p))(h3:fy Z=some y)(h4:gw Z r p=some (d0,kk,cs))(h5:qF kk cs y d=some d')(e:gE Z r d0 p d'=ρ'):xa fv fp fy Z=some (.nx ρ'):=by
 unfold xa;rw[h1];show(fp Z).bind _=_;rw[h2];show(fy Z).bind _=_;rw[h3];show(gw Z r p).bind _=_;rw[h4];show(qF kk cs y d).map _=_;rw[h5, <- e];rfl
def xJ(f:Int)(s:Str)(c:Int)(W:D)(x4:Option B):En:= [some (.aT 5 []),some (.aT 6 []),some (.ro (iD f)),some (.ro (sD s)),x4,some (.own (.nd .lst [iD c])),some (.own W)]
theorem WZ{n:Nat}{w:eF}(hw:eT n w)(hn:n < 1900)(c f:Int)(s:Str)(hs:dU s=true):∃v c' N' fU,eT (n + 1) { w with N:=N',Co:=fU }/\xv K C [.nd .lst [iD c],wD w,iD f,sD s]=some (iD v, [.nd .lst [iD c'],wD { w with N:=N',Co:=fU }]):=by
 obtain⟨v,c',e1⟩:=Fx (K:=K) (C:=C) hw (Z:=xJ f s c (wD w) none) (ip rfl) (fp:=aC 0) (fq:=aC 1) (fz:=aC 2) (r:=5) (s:=6) (z:= .ro (iD f)) (c:=c) (f:=f) rfl rfl rfl rfl (by decide) rfl rfl;have g:=EU iD w.N f (iD 0);have e0:ly iD (lk f w.N) (iD 0)=iD ((lk f w.N).getD 0):=by cases lk f w.N <;> rfl
 rw[e0]at g;generalize (lk f w.N).getD 0=now at g;have hN:=WL iD w.N f (if now > v + 1 then now else v + 1) (p5 hw.nl (by lia)) hw.nn;have hC:=WM sD w.Co f (v + 1) s (p5 hw.cl (by lia)) hw.cd;refine⟨v + 1,c',fT f (if now > v + 1 then now else v + 1) w.N,fT (f,v + 1) s w.Co,⟨dC (Fo _ _ _) (BB hw.nl),Fq k1 AQ _ _ hw.nn,dC (Fo _ _ _) (BB hw.cl),Fq k2 pT _ _ hw.cd,λx hx=> ?_,hw.len,hw.ha,hw.hb,hw.f1,hw.f2,hw.o1,hw.o2⟩, ?_⟩
 ·rcases LW _ _ hx with h | h
  ·exact hw.cs x h
  ·rw[h];exact hs
 unfold xv EJ;dsimp only;refine jz (ρ':=xJ f s c' (wD { w with N:=fT f (if now > v + 1 then now else v + 1) w.N,Co:=fT (f,v + 1) s w.Co }) (some (.own (iD (v + 1))))) (aK (ρ':=xJ f s c' (wD w) (some (.own (iD (v + 1))))) (eX (gg e1 (b:=iD 1) rfl rfl) rfl)
  (aK (ρ':=xJ f s c' (wD { w with N:=fT f (if now > v + 1 then now else v + 1) w.N }) (some (.own (iD (v + 1))))) (WY (d:=iD (if now > v + 1 then now else v + 1)) (y:=iD f) (r:=6) (p:= [0]) (d0:=wD w) (kk:= .cy (w.N.map λx=>k1 x.1)) (cs:=w.N.map λx=>iD x.2) (fM ?_) (oy (p:= []) rfl rfl rfl (LY w) rfl rfl) rfl rfl hN ?_)
  (aK (ρ':=xJ f s c' (wD { w with N:=fT f (if now > v + 1 then now else v + 1) w.N,Co:=fT (f,v + 1) s w.Co }) (some (.own (iD (v + 1))))) (E3 (d:=sD s) (y:= .nd .tup [iD f,iD (v + 1)]) (r:=6) (p:= [1]) (d0:=wD { w with N:=fT f (if now > v + 1 then now else v + 1) w.N }) (kk:= .dk (w.Co.map λx=>k2 x.1)) (cs:=w.Co.map λx=>sD x.2) rfl (oy (p:= []) rfl rfl rfl (WN _) rfl rfl) (gN (l:= [iD f,iD (v + 1)]) rfl (by simp)) rfl hC ?_)
  (ij (d:=iD (v + 1)) rfl)))) rfl
 ·refine aj.mpr ⟨[iD (v + 1),iD now],gO rfl (gO (E2 (dd:=j3 iD w.N) (y:=iD f) (x:=iD 0) (b9 (a:=wD w) rfl rfl (WQ w)) rfl rfl g) rfl),rfl⟩
 ·rw[mj (ip rfl)];rfl
 ·rw[mj (ip rfl)];rfl
theorem L8{n:Nat}{w:eF}(hw:eT n w)(hn:n < 1900){Z:En}(al:Al Z){fp fq fz fu:En->Option Pl}{r s:Nat}{z u:Pl}{c f:Int}{t:Str}(ht:dU t=true)(h1:fp Z=some (.rt r []))(hr:aP Z r=some (.nd .lst [iD c]))(h2:fq Z=some (.rt s []))(hs:aP Z s=some (wD w))(ne:r≠s)(h3:fz Z=some z)(hz:fB Z z=some (iD f))(h4:fu Z=some u)(hu:fB Z u=some (sD t)):
  ∃v c' N' fU,eT (n + 1) { w with N:=N',Co:=fU }/\dQ (xv K C) (cG fp (cG fq (eJ fz (eJ fu λx=>some [])))) Z=some (iD v,(Z.set r (some (.own (.nd .lst [iD c'])))).set s (some (.own (wD { w with N:=N',Co:=fU })))):=by
 obtain⟨v,c',N',fU,jI,e⟩:=WZ (K:=K) (C:=C) hw hn c f t ht;refine⟨v,c',N',fU,jI,sR (mn h1 (mn h2 (mv h3 hz rfl (mv h4 hu rfl rfl)))) (by simp[iw,nW,hr,hs,j5]) ⟨?_,rfl⟩ e rfl (AX al ne hr hs _ _)⟩;show Gq _ [(⟨r, []⟩:Io),⟨s, []⟩];simp[ne]
variable {K:ak}{C:Addr}[dz K C]
def eZ:D:= .nd .lst [sD "",sD "x",sD "y.1",sD "zz"]
theorem Fy(c:Int):∃s,dU s=true/\gT ah aq eZ (iD (c % 4))=some (sD s):=by
 have:=oz (c:=c) (m:=4) (by decide);have z:c % 4=0\/c % 4=1\/c % 4=2\/c % 4=3:=by lia
 rcases z with z | z | z | z <;> rw[z]
 ·exact⟨"",by decide +kernel,rfl⟩
 ·exact⟨"x",by decide +kernel,rfl⟩
 ·exact⟨"y.1",by decide +kernel,rfl⟩
 ·exact⟨"zz",by decide +kernel,rfl⟩
def gH(h:Nat)(c:Int)(W:D)(x3 x4 x5 x6 x7 x8:Option B):En:= [some (.aT 9 []),some (.aT 10 []),some (.ro (iD (h:Nat))),x3,x4,x5,x6,x7,x8,some (.own (.nd .lst [iD c])),some (.own W)]
theorem A7(h:Nat)(c:Int)(W:D){x3 x4 x5 x6 x7 x8:Option B}(h3:NA x3)(h4:NA x4)(h5:NA x5)(h6:NA x6)(h7:NA x7)(h8:NA x8):Al (gH h c W x3 x4 x5 x6 x7 x8):=ip (by simp[gH,kP h3,kP h4,kP h5,kP h6,kP h7,kP h8];exact⟨rfl,rfl,rfl,rfl,rfl⟩)
theorem qU(m:Int)(hm:0 < m)(h3:m < 10000)(h:Nat)(c:Int)(W:D){x3 x4 x5 x6 x7 x8:Option B}(n3:NA x3)(n4:NA x4)(n5:NA x5)(n6:NA x6)(n7:NA x7)(n8:NA x8):dQ (gG K C) (cG (aC 0) (fX (λx=>some (D.sc (V.int m))) λx=>some [])) (gH h c W x3 x4 x5 x6 x7 x8)=some (iD (c % m),gH h (c / m) W x3 x4 x5 x6 x7 x8):=
 kx (A7 h c W n3 n4 n5 n6 n7 n8) (r:=9) rfl rfl rfl hm h3
theorem L9{n:Nat}{w:eF}(hw:eT n w)(h:Nat)(c:Int){x3 x4 x5 x6 x7 x8:Option B}(n3:NA x3)(n4:NA x4)(n5:NA x5)(n6:NA x6)(n7:NA x7)(n8:NA x8):dQ (gG K C) (cG (aC 0) (eJ (cA ah (aC 1) λx=>some (D.sc (V.str (aE "files")))) λx=>some [])) (gH h c (wD w) x3 x4 x5 x6 x7 x8)=some (iD (c % w.fi),gH h (c / w.fi) (wD w) x3 x4 x5 x6 x7 x8):=
 kx (A7 h c (wD w) n3 n4 n5 n6 n7 n8) (r:=9) (m:=w.fi) rfl rfl (mv (q:= .rt 10 [4]) (oy (p:= []) rfl rfl rfl (Fv w) rfl rfl) rfl rfl rfl) hw.f1 (by have:=hw.f2;lia)
theorem u9{i:Nat}{β:B}{h:Nat}{c:Int}{W:D}{x3 x4 x5 x6 x7 x8:Option B}(n3:NA x3)(n4:NA x4)(n5:NA x5)(n6:NA x6)(n7:NA x7)(n8:NA x8)(hi:i < 9):aR i β (gH h c W x3 x4 x5 x6 x7 x8)=(gH h c W x3 x4 x5 x6 x7 x8).set i (some β):=by
 have a:¬ (9=i):=by lia
 have b:¬ (10=i):=by lia
 simp only[aR,gH,si,eC,ig,bg n3,bg n4,bg n5,bg n6,bg n7,bg n8,el,if_neg a,if_neg b]
def A8(K:ak)(C:Addr)[dz K C]:En->Option Fl:=bO (dP 7 (fQ (bU (λZ=>aY (λd=>(d,Z)) (some (D.sc (V.str (aE "make"))))) (bU (λZ=>aY (λd=>(d,Z)) (some (D.sc (V.int 0)))) (bU (λZ=>aY (λd=>(d,Z)) (some (D.sc (V.str (aE "n")))))
     (bU (uE 4 (gT ah aq) (dQ (gG K C) (cG (aC 0) (fX (λx=>some (D.sc (V.int 4))) λx=>some [])))) λZ=>some ([],Z)))))))
   (bO (cP (wH (i9 (iN λi j=>V.bl (decide (j < i))) (dQ (gG K C) (cG (aC 0) (fX (λx=>some (D.sc (V.int 3))) λx=>some []))) λZ=>aY (λd=>(d,Z)) (some (D.sc (V.int 0)))))
     (dP 7 (fQ (bU (λZ=>aY (λd=>(d,Z)) (some (D.sc (V.str (aE "shut"))))) (bU (i9 jx (λZ=>aY (λd=>(d,Z)) (some (D.sc (V.int 2)))) (dQ (gG K C) (cG (aC 0) (eJ (cA ah (aC 1) λx=>some (D.sc (V.str (aE "files")))) λx=>some []))))
      (bU (dQ (gG K C) (cG (aC 0) (fX (λx=>some (D.sc (V.int 5))) λx=>some []))) (bU (uE 4 (gT ah aq) (dQ (gG K C) (cG (aC 0) (fX (λx=>some (D.sc (V.int 4))) λx=>some [])))) λZ=>some ([],Z)))))))
     λZ=>some (Fl.nx Z))
    (gv (mQ (aC 5) (gB (ae 7)))))
theorem W0{n:Nat}{w:eF}(hw:eT n w)(h:Nat)(c:Int)(x3 x8:Option B)(n3:NA x3)(n8:NA x8)(aG:List D)(ha:aG.length < 2000)(x6 x7:Option B)(n6:NA x6)(n7:NA x7):
  ∃d c',uZ d/\A8 K C (gH h c (wD w) x3 (some (.own eZ)) (some (.own (.nd .lst aG))) x6 x7 x8)=some (.nx (gH h c' (wD w) x3 (some (.own eZ)) (some (.own (.nd .lst (aG++ [br d])))) x6 (some (.own (br d))) x8)):=by
 unfold A8;obtain⟨s,hs,es⟩:=Fy c;have k1:=qU (K:=K) (C:=C) 4 (by decide) (by decide) h c (wD w) (x3:=x3) (x4:=some (.own eZ)) (x5:=some (.own (.nd .lst aG))) (x6:=x6) (x7:=x7) (x8:=x8) n3 ba ba n6 n7 n8;have e1:=kQ (bZ (fa:=λZ=>aY (λd=>(d,Z)) (some (D.sc (V.str (aE "make"))))) (a:=sD "make") rfl (bZ (fa:=λZ=>aY (λd=>(d,Z)) (some (D.sc (V.int 0)))) (a:=iD 0) rfl (bZ (fa:=λZ=>aY (λd=>(d,Z)) (some (D.sc (V.str (aE "n"))))) (a:=sD "n") rfl (bZ (Ac (i:=4) (x0:=eZ) rfl k1 (xs:=eZ) rfl es) (fr:=λZ=>some ([],Z)) rfl)))) (by simp);have e2:=eX e1 (u9 (i:=7) (β:= .own (br (.make s))) n3 ba ba n6 n7 n8 (by decide));have app:∀(d:jD) (c:Int),gv (mQ (aC 5) (gB (ae 7))) (gH h c (wD w) x3 (some (.own eZ)) (some (.own (.nd .lst aG))) x6 (some (.own (br d))) x8)=some (.nx (gH h c (wD w) x3 (some (.own eZ)) (some (.own (.nd .lst (aG++ [br d])))) x6 (some (.own (br d))) x8)):=λd c=>
  L1 (A7 h c (wD w) n3 ba ba n6 ba n8) (r:=5) rfl rfl (by show(if VL.plain (br d)=true then _ else _)=_;rw[if_pos (xw d)]) ha
 have k2:=qU (K:=K) (C:=C) 3 (by decide) (by decide) h (c / 4) (wD w) (x3:=x3) (x4:=some (.own eZ)) (x5:=some (.own (.nd .lst aG))) (x6:=x6) (x7:=some (.own (br (.make s)))) (x8:=x8) n3 ba ba n6 ba n8;have t:=sj (gg k2 (fb:=λZ=>aY (λd=>(d,Z)) (some (D.sc (V.int 0)))) (b:=iD 0) rfl (g:=iN λi j=>V.bl (decide (j < i))) rfl);cases hb:decide ((0:Int) < c / 4 % 3) with
 |false=>
  rw[hb]at t;exact⟨.make s,_,hs,aK e2 (aK (jZ t (if_neg bh)) (app _ _))⟩
 |true=>
  rw[hb]at t;obtain⟨s2,kD,W2⟩:=Fy (c / 4 / 3 / w.fi / 5);have k3:=L9 (K:=K) (C:=C) hw h (c / 4 / 3) (x3:=x3) (x4:=some (.own eZ)) (x5:=some (.own (.nd .lst aG))) (x6:=x6) (x7:=some (.own (br (.make s)))) (x8:=x8) n3 ba ba n6 ba n8;have k4:=qU (K:=K) (C:=C) 5 (by decide) (by decide) h (c / 4 / 3 / w.fi) (wD w) (x3:=x3) (x4:=some (.own eZ)) (x5:=some (.own (.nd .lst aG))) (x6:=x6) (x7:=some (.own (br (.make s)))) (x8:=x8) n3 ba ba n6 ba n8;have k5:=qU (K:=K) (C:=C) 4 (by decide) (by decide) h (c / 4 / 3 / w.fi / 5) (wD w) (x3:=x3) (x4:=some (.own eZ)) (x5:=some (.own (.nd .lst aG))) (x6:=x6) (x7:=some (.own (br (.make s)))) (x8:=x8) n3 ba ba n6 ba n8;have e3:=kQ (bZ (fa:=λZ=>aY (λd=>(d,Z)) (some (D.sc (V.str (aE "shut"))))) (a:=sD "shut") rfl (bZ (gg (fa:=λZ=>aY (λd=>(d,Z)) (some (D.sc (V.int 2)))) (a:=iD 2) (g:=jx) rfl k3 rfl) (bZ k4 (bZ (Ac (i:=4) (x0:=eZ) rfl k5 (xs:=eZ) rfl W2) (fr:=λZ=>some ([],Z)) rfl)))) (by simp);have e4:=eX e3 (u9 (i:=7) (β:= .own (br (.di (2 + c / 4 / 3 % w.fi) (c / 4 / 3 / w.fi % 5) s2))) n3 ba ba n6 ba n8 (by decide));exact⟨.di (2 + c / 4 / 3 % w.fi) (c / 4 / 3 / w.fi % 5) s2,_,kD,aK e2 (aK (jZ t ((if_pos rfl).trans e4)) (app _ _))⟩
variable {K:ak}{C:Addr}[dz K C]
theorem Ma{fa:En->Option (List D×En)}{fg:D->En->Option En}{fb:En->Option Fl}{Z cF:En}{as ds:List D}{r:Option Fl}(h1:fa Z=some (as,cF))(h2:kH as=some ds)(h3:de fg fb ds cF=r):sh fa fg fb Z=r:=by
 unfold sh;rw[h1,bo];dsimp only;rw[h2,bo,h3]
theorem W3(ds:List jD):bq (ds.map br)=true:=nQ λd hd=>by
 obtain⟨x,_,rfl⟩:=jK.mp hd;exact xw x
theorem W4{n:Nat}{w:eF}(hw:eT n w)(h:Nat)(c:Int)(x3:Option B)(n3:NA x3):
  ∃ds c' x6 x7,NA x6/\NA x7/\(ds:List jD).length < 5/\(∀d∈ds,uZ d)/\sh (bU (dQ (gG K C) (cG (aC 0) (fX (λx=>some (D.sc (V.int 4))) λx=>some []))) λZ=>some ([],Z)) (λd Z=>some (aR 6 (B.ro d) Z)) (A8 K C)
   (gH h c (wD w) x3 (some (.own eZ)) (some (.own (.nd .lst []))) none none none)=some (.nx (gH h c' (wD w) x3 (some (.own eZ)) (some (.own (.nd .lst (ds.map br)))) x6 x7 none)):=by
 have k1:=qU (K:=K) (C:=C) 4 (by decide) (by decide) h c (wD w) (x3:=x3) (x4:=some (.own eZ)) (x5:=some (.own (.nd .lst []))) (x6:=none) (x7:=none) (x8:=none) n3 ba ba aO aO aO;have hz:=oz (c:=c) (m:=4) (by decide);have ez:((c % 4).toNat:Int)=c % 4:=Oa hz.1;have hr:kH [iD (c % 4)]=some ((jm (c % 4).toNat).map λi:Nat=>iD (i:Nat)):=by
  have:=A2 (c % 4).toNat (by lia);rw[ez]at this;exact this
 obtain⟨ρ',e,ds,c',x6,x7,n6,n7,hl,hd,rfl⟩:=sS (fg:=λd Z=>some (aR 6 (B.ro d) Z)) (fb:=A8 K C) 10 (λi:Nat=>iD (i:Nat)) (λj Z=>∃(ds:List jD) (c':Int) (x6 x7:Option B),NA x6/\NA x7/\ds.length=j/\(∀d∈ds,uZ d)/\Z=gH h c' (wD w) x3 (some (.own eZ)) (some (.own (.nd .lst (ds.map br)))) x6 x7 none)
  (jm (c % 4).toNat) (λi hi j Z hj ⟨ds,c',x6,x7,n6,n7,hl,hd,e⟩=>by
    subst e;obtain⟨d,c2,h1,e2⟩:=W0 (K:=K) (C:=C) hw h c' x3 none n3 aO (ds.map br) (by simp;lia) (some (.ro (iD (i:Nat)))) x7 bX n7;refine⟨_,_,congrArg some (u9 (i:=6) (β:= .ro (iD (i:Nat))) n3 ba ba n6 n7 aO (by decide)),e2,ds++ [d],c2,some (.ro (iD (i:Nat))),some (.own (br d)),bX,ba,by simp[hl],λx hx=> ?_,by rw[cf];rfl⟩;rcases lJ.mp hx with z | z
    ·exact hd x z
    ·simp at z;rw[z];exact h1)
  0 (gH h (c / 4) (wD w) x3 (some (.own eZ)) (some (.own (.nd .lst []))) none none none) ⟨[],c / 4,none,none,aO,aO,rfl,(λ_ h=>by cases h),rfl⟩ (by simp;lia)
 refine⟨ds,c',x6,x7,n6,n7,by simp at hl;lia,hd,Ma (bZ k1 (fr:=λZ=>some ([],Z)) rfl) hr e⟩
theorem W5{α:Type}(P:α->Prop)(c:Int)(a0 a1 a2 a3 a4 a5 a6:α)(g:α->D)(hp:∀a∈ [a0,a1,a2,a3,a4,a5,a6],P a/\VL.plain (g a)=true):∃a,P a/\VL.plain (g a)=true/\gT ah aq (.nd .lst ([a0,a1,a2,a3,a4,a5,a6].map g)) (iD (c % 7))=some (g a):=by
 have:=oz (c:=c) (m:=7) (by decide);have z:c % 7=0\/c % 7=1\/c % 7=2\/c % 7=3\/c % 7=4\/c % 7=5\/c % 7=6:=by lia
 have go:∀(k:Nat) (a:α), [a0,a1,a2,a3,a4,a5,a6][k]?=some a->gT ah aq (.nd .lst ([a0,a1,a2,a3,a4,a5,a6].map g)) (iD (k:Nat))=some (g a):=λk a h=>by
  unfold gT;rw[(lA .lst (.inl rfl) [a0,a1,a2,a3,a4,a5,a6] g k a h (by have:=(cb.mp h).1;simp at this;lia)).2.2,bo,if_pos (hp a (jR h)).2]
 rcases z with z | z | z | z | z | z | z <;> rw[z]
 ·exact⟨a0,(hp a0 (by simp)).1,(hp a0 (by simp)).2,go 0 a0 rfl⟩
 ·exact⟨a1,(hp a1 (by simp)).1,(hp a1 (by simp)).2,go 1 a1 rfl⟩
 ·exact⟨a2,(hp a2 (by simp)).1,(hp a2 (by simp)).2,go 2 a2 rfl⟩
 ·exact⟨a3,(hp a3 (by simp)).1,(hp a3 (by simp)).2,go 3 a3 rfl⟩
 ·exact⟨a4,(hp a4 (by simp)).1,(hp a4 (by simp)).2,go 4 a4 rfl⟩
 ·exact⟨a5,(hp a5 (by simp)).1,(hp a5 (by simp)).2,go 5 a5 rfl⟩
 ·exact⟨a6,(hp a6 (by simp)).1,(hp a6 (by simp)).2,go 6 a6 rfl⟩
theorem W6{n:Nat}{w:eF}(hw:eT n w)(h:Nat)(hh:h < w.cn.length)(c:Int):∃q c',mV q/\AJ K C [.nd .lst [iD c],wD w,iD (h:Nat)]=some (av .aA (.ask h (w.cn[h] + 1) q), [.nd .lst [iD c'],wD { w with as:=w.as.set h (some q),cn:=w.cn.set h (w.cn[h] + 1) }]):=by
 have hb:=hw.hb;have hl:=hw.len;have a0:=L9 (K:=K) (C:=C) hw h c (x3:=none) (x4:=none) (x5:=none) (x6:=none) (x7:=none) (x8:=none) aO aO aO aO aO aO;have s1:=eX (i:=3) (gg (fa:=λZ=>aY (λd=>(d,Z)) (some (D.sc (V.int 2)))) (a:=iD 2) (g:=jx) rfl a0 rfl) (u9 (i:=3) (β:= .own (iD (2 + c % w.fi))) aO aO aO aO aO aO (by decide));generalize hf:2 + c % w.fi=f at *;obtain⟨ds,c1,x6,x7,n6,n7,wg,rN,e4⟩:=W4 (K:=K) (C:=C) hw h (c / w.fi) (some (.own (iD f))) ba;have k5:=qU (K:=K) (C:=C) 5 (by decide) (by decide) h c1 (wD w) (x3:=some (.own (iD f))) (x4:=some (.own eZ)) (x5:=some (.own (.nd .lst (ds.map br)))) (x6:=x6) (x7:=x7) (x8:=none) ba ba ba n6 n7 aO;have k6:=qU (K:=K) (C:=C) 4 (by decide) (by decide) h (c1 / 5) (wD w) (x3:=some (.own (iD f))) (x4:=some (.own eZ)) (x5:=some (.own (.nd .lst (ds.map br)))) (x6:=x6) (x7:=x7) (x8:=none) ba ba ba n6 n7 aO;obtain⟨s,hs,es⟩:=Fy (c1 / 5);have e5:=A5 (bZ (kQ (bZ (fa:=λZ=>aY (λd=>(d,Z)) (some (D.sc (V.str (aE "see"))))) (a:=sD "see") rfl (bZ (fa:=fK 3) (a:=iD f) (Z:=gH h c1 (wD w) (some (.own (iD f))) (some (.own eZ)) (some (.own (.nd .lst (ds.map br)))) x6 x7 none) rfl (fr:=λZ=>some ([],Z)) rfl)) (by simp))
  (bZ (kQ (bZ (fa:=λZ=>aY (λd=>(d,Z)) (some (D.sc (V.str (aE "open"))))) (a:=sD "open") rfl (bZ (fa:=λZ=>aY (λd=>(d,Z)) (some (D.sc (V.str (aE "/a"))))) (a:=sD "/a") rfl (fr:=λZ=>some ([],Z)) rfl)) (by simp))
   (bZ (kQ (bZ (fa:=λZ=>aY (λd=>(d,Z)) (some (D.sc (V.str (aE "shut"))))) (a:=sD "shut") rfl (bZ (fa:=fK 3) (a:=iD f) rfl (bZ k5 (bZ (Ac (i:=4) (x0:=eZ) rfl k6 (xs:=eZ) rfl es) (fr:=λZ=>some ([],Z)) rfl)))) (by simp)) (fr:=λZ=>some ([],Z)) rfl))) (by simp)
 have s5:=eX e5 (u9 (i:=8) (β:= .own (.nd .lst [bj (.iz f),bj .iF,bj (.di f (c1 % 5) s)])) ba ba ba n6 n7 aO (by decide));have e6:ag jx (ae 8) (bu Kd.lst (au (bu Kd.tup (au (λx=>some (D.sc (V.str (aE "join")))) (au (λZ=>(au (ae 5) (λx=>some []) Z).bind wU) λx=>some []))) (au (bu Kd.tup (au (λx=>some (D.sc (V.str (aE "look")))) λx=>some []))
   (au (bu Kd.tup (au (λx=>some (D.sc (V.str (aE "see")))) (au (ae 3) λx=>some []))) (au (bu Kd.tup (au (λx=>some (D.sc (V.str (aE "begin")))) λx=>some [])) λx=>some [])))))
   (gH h (c1 / 5 / 4) (wD w) (some (.own (iD f))) (some (.own eZ)) (some (.own (.nd .lst (ds.map br)))) x6 x7 (some (.own (.nd .lst [bj (.iz f),bj .iF,bj (.di f (c1 % 5) s)]))))=some (.nd .lst ([.iz f, .iF, .di f (c1 % 5) s, .join ds, .look, .iz f, .begin].map bj)):=by
  have W7:wU [.nd .lst (ds.map br)]=some (tp (ds.map br)):=by
   show(if bq (ds.map br)=true then _ else _)=_;rw[if_pos (W3 ds)];rfl
  refine b9 (a:= .nd .lst [bj (.iz f),bj .iF,bj (.di f (c1 % 5) s)]) (b:= .nd .lst [bj (.join ds),bj .look,bj (.iz f),bj .begin]) rfl (gN (gO (gN (gO (a:=sD "join") rfl (gO (a:=tp (ds.map br)) (r:= []) W7 rfl)) (by simp)) (gO (gN (l:= [sD "look"]) rfl (by simp)) (gO (gN (l:= [sD "see",iD f]) rfl (by simp)) (gO (gN (l:= [sD "begin"]) rfl (by simp)) (r:= []) rfl)))) (by simp)) ?_;show(if _ then _ else _)=_;rw[if_pos ⟨by simp;decide,by simp[bq,pW]⟩];rfl
 have s6:=eX (i:=8) (f:=λZ=>aY (λd=>(d,Z)) (ag jx (ae 8) (bu Kd.lst (au (bu Kd.tup (au (λx=>some (D.sc (V.str (aE "join")))) (au (λZ=>(au (ae 5) (λx=>some []) Z).bind wU) λx=>some []))) (au (bu Kd.tup (au (λx=>some (D.sc (V.str (aE "look")))) λx=>some []))
   (au (bu Kd.tup (au (λx=>some (D.sc (V.str (aE "see")))) (au (ae 3) λx=>some []))) (au (bu Kd.tup (au (λx=>some (D.sc (V.str (aE "begin")))) λx=>some [])) λx=>some []))))) Z)) (fM e6) (u9 (i:=8) (β:= .own (.nd .lst ([.iz f, .iF, .di f (c1 % 5) s, .join ds, .look, .iz f, .begin].map bj))) ba ba ba n6 n7 ba (by decide))
 obtain⟨q,hq,pq,eq⟩:=W5 mV (c1 / 5 / 4) (.iz f) .iF (.di f (c1 % 5) s) (.join ds) .look (.iz f) .begin bj (λa ha=>by
  refine⟨?_,pW a⟩;simp only[bx,dw,or_false]at ha;rcases ha with rfl | rfl | rfl | rfl | rfl | rfl | rfl
  ·trivial
  ·trivial
  ·exact hs
  ·exact⟨wg,rN⟩
  ·trivial
  ·trivial
  ·trivial)
 have k7:=qU (K:=K) (C:=C) 7 (by decide) (by decide) h (c1 / 5 / 4) (wD w) (x3:=some (.own (iD f))) (x4:=some (.own eZ)) (x5:=some (.own (.nd .lst (ds.map br)))) (x6:=x6) (x7:=x7) (x8:=some (.own (.nd .lst ([.iz f, .iF, .di f (c1 % 5) s, .join ds, .look, .iz f, .begin].map bj)))) ba ba ba n6 n7 ba;generalize hX:D.nd .lst ([.iz f, .iF, .di f (c1 % 5) s, .join ds, .look, .iz f, .begin].map bj)=X8 at *;have Mb:∀c W,Al (gH h c W (some (.own (iD f))) (some (.own eZ)) (some (.own (.nd .lst (ds.map br)))) x6 x7 (some (.own X8))):=λc W=>A7 h c W ba ba ba n6 n7 ba;have s7:sg (uE 8 (gT ah aq) (dQ (gG K C) (cG (aC 0) (fX (λx=>some (D.sc (V.int 7))) λx=>some [])))) (cA ah (aC 1) λx=>some (D.sc (V.str (aE "asked")))) (ae 2) (gH h (c1 / 5 / 4) (wD w) (some (.own (iD f))) (some (.own eZ)) (some (.own (.nd .lst (ds.map br)))) x6 x7 (some (.own X8)))=some (.nx (gH h (c1 / 5 / 4 / 7) (wD { w with as:=w.as.set h (some q) }) (some (.own (iD f))) (some (.own eZ)) (some (.own (.nd .lst (ds.map br)))) x6 x7 (some (.own X8)))):=by
  refine Fw (Mb _ _) (Ac (i:=8) (x0:=X8) rfl k7 (xs:=X8) rfl eq) (r:=10) (p:= [3]) (d0:=wD w) (cs:=w.as.map dn) (h:=h) (oy (p:= []) rfl rfl rfl (Fu w) rfl rfl) rfl rfl (by simp;lia) (by simp;lia) ?_;rw[show bj q=dn (some q) from rfl, <- Ob];rfl
 have rc:ar ah aq (.nd .lst (w.cn.map iD)) (iD (h:Nat))=some (iD w.cn[h]):=(lA .lst (.inl rfl) w.cn iD h _ (gP hh) (by lia)).2.2;have s8:sg (λZ=>aY (λd=>(d,Z)) (ag jx (ag (ar ah aq) (ag (ar ah aq) (ae 1) λx=>some (D.sc (V.str (aE "counts")))) (ae 2)) (λx=>some (D.sc (V.int 1))) Z)) (cA ah (aC 1) λx=>some (D.sc (V.str (aE "counts")))) (ae 2) (gH h (c1 / 5 / 4 / 7) (wD { w with as:=w.as.set h (some q) }) (some (.own (iD f))) (some (.own eZ)) (some (.own (.nd .lst (ds.map br)))) x6 x7 (some (.own X8)))=some (.nx (gH h (c1 / 5 / 4 / 7) (wD { w with as:=w.as.set h (some q),cn:=w.cn.set h (w.cn[h] + 1) }) (some (.own (iD f))) (some (.own eZ)) (some (.own (.nd .lst (ds.map br)))) x6 x7 (some (.own X8)))):=by
  refine Fw (d:=iD (w.cn[h] + 1)) (Mb _ _) (fM (b9 (b9 (b9 (a:=wD { w with as:=w.as.set h (some q) }) rfl rfl (A6 _)) (b:=iD (h:Nat)) rfl rc) (b:=iD 1) rfl rfl)) (r:=10) (p:= [2]) (d0:=wD { w with as:=w.as.set h (some q) }) (cs:=w.cn.map iD) (h:=h) (oy (p:= []) rfl rfl rfl (WO _) rfl rfl) rfl rfl (by simp;lia) (by simp;lia) ?_;rw[<- Ob];rfl
 have abV:h < (w.cn.set h (w.cn[h] + 1)).length:=by simpa using hh
 have W8:ar ah aq (.nd .lst ((w.cn.set h (w.cn[h] + 1)).map iD)) (iD (h:Nat))=some (iD (w.cn[h] + 1)):=(lA .lst (.inl rfl) (w.cn.set h (w.cn[h] + 1)) iD h _ (by rw[eN hh]) (by lia)).2.2;have ra:ar ah aq (.nd .lst ((w.as.set h (some q)).map dn)) (iD (h:Nat))=some (bj q):=(lA .lst (.inl rfl) (w.as.set h (some q)) dn h (some q) (by rw[eN (by lia)]) (by lia)).2.2;have s9:=ij (kQ (bZ (fa:=λZ=>aY (λd=>(d,Z)) (some (D.sc (V.str (aE "ask"))))) (a:=sD "ask") rfl (bZ (fa:=fK 2) (a:=iD (h:Nat)) (Z:=gH h (c1 / 5 / 4 / 7) (wD { w with as:=w.as.set h (some q),cn:=w.cn.set h (w.cn[h] + 1) }) (some (.own (iD f))) (some (.own eZ)) (some (.own (.nd .lst (ds.map br)))) x6 x7 (some (.own X8))) rfl
  (bZ (pV (b9 (fa:=ag (ar ah aq) (ae 1) λx=>some (D.sc (V.str (aE "counts")))) (fb:=ae 2) (b9 (a:=wD { w with as:=w.as.set h (some q),cn:=w.cn.set h (w.cn[h] + 1) }) rfl rfl (A6 _)) (b:=iD (h:Nat)) rfl W8) rfl)
   (bZ (pV (b9 (fa:=ag (ar ah aq) (ae 1) λx=>some (D.sc (V.str (aE "asked")))) (fb:=ae 2) (b9 (a:=wD { w with as:=w.as.set h (some q),cn:=w.cn.set h (w.cn[h] + 1) }) rfl rfl (L0 _)) (b:=iD (h:Nat)) rfl ra) pq) (fr:=λZ=>some ([],Z)) rfl)))) (by simp))
 refine⟨q,c1 / 5 / 4 / 7,hq, ?_⟩;unfold AJ EH;dsimp only;exact jz (aK s1 (aK (ρ':=gH h (c / w.fi) (wD w) (some (.own (iD f))) (some (.own eZ)) none none none none) rfl (aK (ρ':=gH h (c / w.fi) (wD w) (some (.own (iD f))) (some (.own eZ)) (some (.own (.nd .lst []))) none none none) rfl (aK e4 (aK s5 (aK s6 (aK s7 (aK s8 s9)))))))) rfl
variable {K:ak}{C:Addr}[dz K C]
def da(q:bw)(c:Int)(W:D)(x3 x4 x5 x6 x7:Option B):En:= [some (.aT 8 []),some (.aT 9 []),some (.ro (bj q)),x3,x4,x5,x6,x7,some (.own (.nd .lst [iD c])),some (.own W)]
theorem sT(q:bw)(c:Int)(W:D){x3 x4 x5 x6 x7:Option B}(h3:NA x3)(h4:NA x4)(h5:NA x5)(h6:NA x6)(h7:NA x7):Al (da q c W x3 x4 x5 x6 x7):=ip (by simp[da,kP h3,kP h4,kP h5,kP h6,kP h7];exact⟨rfl,rfl,rfl,rfl,rfl⟩)
theorem sU(m:Int)(hm:0 < m)(h3:m < 10000)(q:bw)(c:Int)(W:D){x3 x4 x5 x6 x7:Option B}(n3:NA x3)(n4:NA x4)(n5:NA x5)(n6:NA x6)(n7:NA x7):dQ (gG K C) (cG (aC 0) (fX (λx=>some (D.sc (V.int m))) λx=>some [])) (da q c W x3 x4 x5 x6 x7)=some (iD (c % m),da q (c / m) W x3 x4 x5 x6 x7):=
 kx (sT q c W n3 n4 n5 n6 n7) (r:=8) rfl rfl rfl hm h3
theorem W9{n:Nat}{w:eF}(hw:eT n w)(q:bw)(c:Int){x3 x4 x5 x6 x7:Option B}(n3:NA x3)(n4:NA x4)(n5:NA x5)(n6:NA x6)(n7:NA x7):dQ (gG K C) (cG (aC 0) (eJ (cA ah (aC 1) λx=>some (D.sc (V.str (aE "files")))) λx=>some [])) (da q c (wD w) x3 x4 x5 x6 x7)=some (iD (c % w.fi),da q (c / w.fi) (wD w) x3 x4 x5 x6 x7):=
 kx (sT q c (wD w) n3 n4 n5 n6 n7) (r:=8) (m:=w.fi) rfl rfl (mv (q:= .rt 9 [4]) (oy (p:= []) rfl rfl rfl (Fv w) rfl rfl) rfl rfl rfl) hw.f1 (by have:=hw.f2;lia)
theorem va{i:Nat}{β:B}{q:bw}{c:Int}{W:D}{x3 x4 x5 x6 x7:Option B}(n3:NA x3)(n4:NA x4)(n5:NA x5)(n6:NA x6)(n7:NA x7)(hi:i < 8):aR i β (da q c W x3 x4 x5 x6 x7)=(da q c W x3 x4 x5 x6 x7).set i (some β):=by
 have a:¬ (8=i):=by lia
 have b:¬ (9=i):=by lia
 simp only[aR,da,si,eC,ig,bg n3,bg n4,bg n5,bg n6,bg n7,el,if_neg a,if_neg b]
theorem two{α:Type}(c:Int)(a0 a1:α)(g:α->D)(hp:∀a,VL.plain (g a)=true):∃a,(a=a0\/a=a1)/\gT ah aq (.nd .lst ([a0,a1].map g)) (iD (c % 2))=some (g a):=by
 have:=oz (c:=c) (m:=2) (by decide);have z:c % 2=0\/c % 2=1:=by lia
 have go:∀(k:Nat) (a:α), [a0,a1][k]?=some a->gT ah aq (.nd .lst ([a0,a1].map g)) (iD (k:Nat))=some (g a):=λk a h=>by
  unfold gT;rw[(lA .lst (.inl rfl) [a0,a1] g k a h (by have:=(cb.mp h).1;simp at this;lia)).2.2,bo,if_pos (hp a)]
 rcases z with z | z <;> rw[z]
 ·exact⟨a0, .inl rfl,go 0 a0 rfl⟩
 ·exact⟨a1, .inr rfl,go 1 a1 rfl⟩
theorem YK{α:Type}(c:Int)(a0 a1 a2:α)(g:α->D)(hp:∀a,VL.plain (g a)=true):∃a,(a=a0\/a=a1\/a=a2)/\gT ah aq (.nd .lst ([a0,a1,a2].map g)) (iD (c % 3))=some (g a):=by
 have:=oz (c:=c) (m:=3) (by decide);have z:c % 3=0\/c % 3=1\/c % 3=2:=by lia
 have go:∀(k:Nat) (a:α), [a0,a1,a2][k]?=some a->gT ah aq (.nd .lst ([a0,a1,a2].map g)) (iD (k:Nat))=some (g a):=λk a h=>by
  unfold gT;rw[(lA .lst (.inl rfl) [a0,a1,a2] g k a h (by have:=(cb.mp h).1;simp at this;lia)).2.2,bo,if_pos (hp a)]
 rcases z with z | z | z <;> rw[z]
 ·exact⟨a0, .inl rfl,go 0 a0 rfl⟩
 ·exact⟨a1, .inr (.inl rfl),go 1 a1 rfl⟩
 ·exact⟨a2, .inr (.inr rfl),go 2 a2 rfl⟩
def xK(K:ak)(C:Addr)[dz K C]:En->Option Fl:=bO (dP 5 (fQ (bU (λZ=>aY (λd=>(d,Z)) (some (D.sc (V.str (aE "clash"))))) (bU (λZ=>aY (λd=>(d,Z)) (some (D.sc (V.int 9)))) (bU (λZ=>aY (λd=>(d,Z)) (some (D.sc (V.str (aE "stale"))))) λZ=>some ([],Z))))))
 (bO (cP (VL.andM (wH (i9 (iN λi j=>V.bl (decide (j < i))) (dQ (gG K C) (cG (aC 0) (fX (λx=>some (D.sc (V.int 4))) λx=>some []))) λZ=>aY (λd=>(d,Z)) (some (D.sc (V.int 0)))))
    λZ=>aY (λb=>(b,Z)) ((ag (aF id) (ag (ar ah aq) (ae 4) λx=>some (D.sc (V.int 0))) (λx=>some (D.sc (V.str (aE "shut")))) Z).bind λx=>match x with | D.sc (V.bl b)=>some b | x=>none))
   (dP 5 (fQ (bU (λZ=>aY (λd=>(d,Z)) (some (D.sc (V.str (aE "put"))))) (bU (dQ (xv K C) (cG (aC 0) (cG (aC 1) (eJ (cA ah (aC 4) λx=>some (D.sc (V.int 1))) (eJ (cA ah (aC 4) λx=>some (D.sc (V.int 3))) λx=>some []))))) λZ=>some ([],Z)))))
   (cP (λZ=>aY (λb=>(b,Z)) ((ag (aF id) (ag (ar ah aq) (ae 4) λx=>some (D.sc (V.int 0))) (λx=>some (D.sc (V.str (aE "make")))) Z).bind λx=>match x with | D.sc (V.bl b)=>some b | x=>none))
    (dP 5 (i9 (gT ah aq) (λZ=>aY (λd=>(d,Z)) (bu Kd.lst (au (bu Kd.tup (au (λx=>some (D.sc (V.str (aE "made")))) (au (λx=>some (D.sc (V.int 8))) λx=>some []))) (au (bu Kd.tup (au (λx=>some (D.sc (V.str (aE "refused")))) (au (λx=>some (D.sc (V.str (aE "there")))) λx=>some []))) λx=>some [])) Z)) (dQ (gG K C) (cG (aC 0) (fX (λx=>some (D.sc (V.int 2))) λx=>some [])))))
    λZ=>some (Fl.nx Z)))
  (gv (mQ (aC 3) (gB (ae 5)))))
theorem Xa{n:Nat}{w:eF}(hw:eT n w)(hn:n < 1900)(q:bw)(c:Int)(d:jD)(hd:uZ d)(aG:List D)(ha:aG.length < 2000)(x5 x6 x7:Option B)(n5:NA x5)(n6:NA x6)(n7:NA x7):
  ∃p c' N' fU,eT (n + 1) { w with N:=N',Co:=fU }/\xK K C (da q c (wD w) (some (.own (.nd .lst aG))) (some (.ro (br d))) x5 x6 x7)=some (.nx (da q c' (wD { w with N:=N',Co:=fU }) (some (.own (.nd .lst (aG++ [cB p])))) (some (.ro (br d))) (some (.own (cB p))) x6 x7)):=by
 have w1:eT (n + 1) { w with N:=w.N,Co:=w.Co }:=⟨N0 hw.nl,hw.nn,N0 hw.cl,hw.cd,hw.cs,hw.len,hw.ha,hw.hb,hw.f1,hw.f2,hw.o1,hw.o2⟩
 have e1:=eX (i:=5) (kQ (bZ (fa:=λZ=>aY (λd=>(d,Z)) (some (D.sc (V.str (aE "clash"))))) (a:=sD "clash") (Z:=da q c (wD w) (some (.own (.nd .lst aG))) (some (.ro (br d))) x5 x6 x7) rfl (bZ (fa:=λZ=>aY (λd=>(d,Z)) (some (D.sc (V.int 9)))) (a:=iD 9) rfl (bZ (fa:=λZ=>aY (λd=>(d,Z)) (some (D.sc (V.str (aE "stale"))))) (a:=sD "stale") rfl (fr:=λZ=>some ([],Z)) rfl))) (by simp)) (va (i:=5) (β:= .own (cB .me)) ba bX n5 n6 n7 (by decide));have app:∀(p:jP) (c:Int) (W:D),gv (mQ (aC 3) (gB (ae 5))) (da q c W (some (.own (.nd .lst aG))) (some (.ro (br d))) (some (.own (cB p))) x6 x7)=some (.nx (da q c W (some (.own (.nd .lst (aG++ [cB p])))) (some (.ro (br d))) (some (.own (cB p))) x6 x7)):=λp c W=>
  L1 (sT q c W ba bX ba n6 n7) (r:=3) rfl rfl (by show(if VL.plain (cB p)=true then _ else _)=_;rw[if_pos (xx p)]) ha
 have k2:=sU (K:=K) (C:=C) 4 (by decide) (by decide) q c (wD w) (x3:=some (.own (.nd .lst aG))) (x4:=some (.ro (br d))) (x5:=some (.own (cB .me))) (x6:=x6) (x7:=x7) ba bX ba n6 n7;have t:=sj (gg k2 (fb:=λZ=>aY (λd=>(d,Z)) (some (D.sc (V.int 0)))) (b:=iD 0) rfl (g:=iN λi j=>V.bl (decide (j < i))) rfl);have wd:∀{w':Str} {b:Bool} {x:Str} (c:Int),ar ah aq (br d) (.sc (.int 0))=some (sD x)->aF id (.sc (.str x)) (.sc (.str w'))=some (.sc (.bl b))->(ag (aF id) (ag (ar ah aq) (ae 4) λx=>some (D.sc (V.int 0))) (λx=>some (D.sc (V.str w'))) (da q c (wD w) (some (.own (.nd .lst aG))) (some (.ro (br d))) (some (.own (cB .me))) x6 x7)).bind (λx=>match x with | D.sc (V.bl b)=>some b | x=>none)=some b:=λ{w' b x} c h1 h2=>tB (b9 (b9 (a:=br d) rfl rfl h1) rfl h2);unfold xK;cases d with
 |make s=>
  have k3:=sU (K:=K) (C:=C) 2 (by decide) (by decide) q (c / 4) (wD w) (x3:=some (.own (.nd .lst aG))) (x4:=some (.ro (br (.make s)))) (x5:=some (.own (cB .me))) (x6:=x6) (x7:=x7) ba bX ba n6 n7;obtain⟨p,hp,ep⟩:=two (c / 4) jP.made jP.refused cB xx;have e3:=eX (i:=5) (gg (g:=gT ah aq) (fa:=λZ=>aY (λd=>(d,Z)) (bu Kd.lst (au (bu Kd.tup (au (λx=>some (D.sc (V.str (aE "made")))) (au (λx=>some (D.sc (V.int 8))) λx=>some []))) (au (bu Kd.tup (au (λx=>some (D.sc (V.str (aE "refused")))) (au (λx=>some (D.sc (V.str (aE "there")))) λx=>some []))) λx=>some [])) Z)) (fM (gN (gO (a:=cB .made) (gN (l:= [sD "made",iD 8]) rfl (by simp)) (gO (a:=cB .refused) (gN (l:= [sD "refused",sD "there"]) rfl (by simp)) (r:= []) rfl)) (by simp))) k3 ep) (va (i:=5) (β:= .own (cB p)) ba bX ba n6 n7 (by decide));have a:=LU t (b:=λZ=>aY (λb=>(b,Z)) ((ag (aF id) (ag (ar ah aq) (ae 4) λx=>some (D.sc (V.int 0))) (λx=>some (D.sc (V.str (aE "shut")))) Z).bind λx=>match x with | D.sc (V.bl b)=>some b | x=>none)) (y:=false) (ρ2:=da q (c / 4) (wD w) (some (.own (.nd .lst aG))) (some (.ro (br (.make s)))) (some (.own (cB .me))) x6 x7) (congrArg (aY λb=>(b,_)) (wd (c / 4) rfl ER)) (λ_=>rfl);rw[Zp]at a;exact⟨p,_,_,_,w1,aK e1 (aK (jZ a ((if_neg bh).trans (((bR (wd (c / 4) rfl VF)).trans (if_pos rfl)).trans e3))) (app p _ _))⟩
 |di f v s=>
  have a:=LU t (b:=λZ=>aY (λb=>(b,Z)) ((ag (aF id) (ag (ar ah aq) (ae 4) λx=>some (D.sc (V.int 0))) (λx=>some (D.sc (V.str (aE "shut")))) Z).bind λx=>match x with | D.sc (V.bl b)=>some b | x=>none)) (y:=true) (ρ2:=da q (c / 4) (wD w) (some (.own (.nd .lst aG))) (some (.ro (br (.di f v s)))) (some (.own (cB .me))) x6 x7) (congrArg (aY λb=>(b,_)) (wd (c / 4) rfl uW)) (λ_=>rfl);rw[Bool.and_true]at a;cases hb:decide ((0:Int) < c % 4) with
  |false=>
   rw[hb]at a;exact⟨.me,_,_,_,w1,aK e1 (aK (jZ a ((if_neg bh).trans ((bR (wd (c / 4) rfl VG)).trans (if_neg bh)))) (app .me _ _))⟩
  |true=>
   rw[hb]at a;obtain⟨v',c',N',fU,jI,ep⟩:=L8 (K:=K) (C:=C) hw hn (Z:=da q (c / 4) (wD w) (some (.own (.nd .lst aG))) (some (.ro (br (.di f v s)))) (some (.own (cB .me))) x6 x7) (sT q (c / 4) (wD w) ba bX ba n6 n7) (fp:=aC 0) (fq:=aC 1) (fz:=cA ah (aC 4) λx=>some (D.sc (V.int 1))) (fu:=cA ah (aC 4) λx=>some (D.sc (V.int 3))) (r:=8) (s:=9) (z:= .ro (iD f)) (u:= .ro (sD s)) (c:=c / 4) (f:=f) (t:=s) hd rfl rfl rfl rfl (by decide) rfl rfl rfl rfl;have e3:=eX (i:=5) (kQ (bZ (fa:=λZ=>aY (λd=>(d,Z)) (some (D.sc (V.str (aE "put"))))) (a:=sD "put") rfl (bZ ep (fr:=λZ=>some ([],Z)) rfl)) (by simp)) (va (q:=q) (c:=c') (W:=wD { w with N:=N',Co:=fU }) (x3:=some (.own (.nd .lst aG))) (x4:=some (.ro (br (.di f v s)))) (x5:=some (.own (cB .me))) (x6:=x6) (x7:=x7) (i:=5) (β:= .own (cB (.put v'))) ba bX ba n6 n7 (by decide));exact⟨.put v',_,_,_,jI,aK e1 (aK (jZ a ((if_pos rfl).trans e3)) (app (.put v') _ _))⟩
variable {K:ak}{C:Addr}[dz K C]
theorem Mc(ps:List jP):bq (ps.map cB)=true:=nQ λd hd=>by
 obtain⟨x,_,rfl⟩:=jK.mp hd;exact xx x
theorem Md{n:Nat}{w:eF}(hw:eT n w)(q:bw)(c f:Int){x3 x4 x5 x7:Option B}(n3:NA x3)(n4:NA x4)(n5:NA x5)(n7:NA x7):
  ∃v s x c' ρ',dU s=true/\bO (dP 7 (dQ (uU K C) (cG (aC 0) (eJ (aC 1) (eJ (aC 6) λx=>some [])))))
   (cu (fQ (bU (λZ=>aY (λd=>(d,Z)) (some (D.sc (V.str (aE "file"))))) (bU (fK 6) (bU (fK 7) (bU (dQ (xu K C) (cG (aC 0) (eJ (aC 1) (eJ (aC 6) (eJ (aC 7) λx=>some []))))) (bU (dQ (gG K C) (cG (aC 0) (fX (λx=>some (D.sc (V.int 9))) λx=>some []))) λZ=>some ([],Z))))))))
   (da q c (wD w) x3 x4 x5 (some (.own (iD f))) x7)=some (.rt (cx .aA (.file f v s x)) ρ')/\jM (ρ'.drop 8)=some [.nd .lst [iD c'],wD w]:=by
 obtain⟨v,c1,e1⟩:=Fx (K:=K) (C:=C) hw (Z:=da q c (wD w) x3 x4 x5 (some (.own (iD f))) x7) (sT q c (wD w) n3 n4 n5 ba n7) (fp:=aC 0) (fq:=aC 1) (fz:=aC 6) (r:=8) (s:=9) (z:= .rt 6 []) (c:=c) (f:=f) rfl rfl rfl rfl (by decide) rfl rfl;have e2:=eX (i:=7) e1 (va (q:=q) (c:=c1) (W:=wD w) (x3:=x3) (x4:=x4) (x5:=x5) (x6:=some (.own (iD f))) (x7:=x7) (i:=7) (β:= .own (iD v)) n3 n4 n5 ba n7 (by decide));obtain⟨s,c2,hs,e3⟩:=L7 (K:=K) (C:=C) hw (Z:=da q c1 (wD w) x3 x4 x5 (some (.own (iD f))) (some (.own (iD v)))) (sT q c1 (wD w) n3 n4 n5 ba ba) (fp:=aC 0) (fq:=aC 1) (fz:=aC 6) (fu:=aC 7) (r:=8) (s:=9) (z:= .rt 6 []) (u:= .rt 7 []) (c:=c1) (f:=f) (v:=v) rfl rfl rfl rfl (by decide) rfl rfl rfl rfl;have k:=sU (K:=K) (C:=C) 9 (by decide) (by decide) q c2 (wD w) (x3:=x3) (x4:=x4) (x5:=x5) (x6:=some (.own (iD f))) (x7:=some (.own (iD v))) n3 n4 n5 ba ba;exact⟨v,s,c2 % 9,c2 / 9,_,hs,aK e2 (ij (kQ (bZ (a:=sD "file") rfl (bZ (a:=iD f) rfl (bZ (a:=iD v) rfl (bZ e3 (bZ k (fr:=λZ=>some ([],Z)) rfl))))) (by simp))),rfl⟩
theorem Xb{n:Nat}{w:eF}(hw:eT n w)(hn:n < 1800)(q:bw)(hq:mV q)(c:Int):∃a c' N' fU,xB a/\(∀h m,oA (.told h m a) (some q))/\eT (n + 5) { w with N:=N',Co:=fU }/\AL K C [.nd .lst [iD c],wD w,bj q]=some (cx .aA a, [.nd .lst [iD c'],wD { w with N:=N',Co:=fU }]):=by
 have w5:eT (n + 5) { w with N:=w.N,Co:=w.Co }:=hw.mono (oE n 5);have k0:=sU (K:=K) (C:=C) 9 (by decide) (by decide) q c (wD w) (x3:=none) (x4:=none) (x5:=none) (x6:=none) (x7:=none) aO aO aO aO aO;have t:=sj (gg k0 (fb:=λZ=>aY (λd=>(d,Z)) (some (D.sc (V.int 8)))) (b:=iD 8) rfl (ou (c % 9) 8));have wq:∀{w':Str} {b:Bool} {x:Str} (c:Int) (x3 x4 x5 x6 x7:Option B),ar ah aq (bj q) (.sc (.int 0))=some (sD x)->aF id (.sc (.str x)) (.sc (.str w'))=some (.sc (.bl b))->(ag (aF id) (ag (ar ah aq) (ae 2) λx=>some (D.sc (V.int 0))) (λx=>some (D.sc (V.str w'))) (da q c (wD w) x3 x4 x5 x6 x7)).bind (λx=>match x with | D.sc (V.bl b)=>some b | x=>none)=some b:=λ{w' b x} c _ _ _ _ _ h1 h2=>tB (b9 (b9 (a:=bj q) rfl rfl h1) rfl h2);have wi:∀{b:Bool} {x:Str} (c:Int),ar ah aq (bj q) (.sc (.int 0))=some (sD x)->qX (sD x) (.nd .tup [sD "look",sD "begin"])=some b->(ag (λa b=>aY (λb=>D.sc (V.bl b)) (qX a b)) (ag (ar ah aq) (ae 2) λx=>some (D.sc (V.int 0))) (bu Kd.tup (au (λx=>some (D.sc (V.str (aE "look")))) (au (λx=>some (D.sc (V.str (aE "begin")))) λx=>some []))) (da q c (wD w) none none none none none)).bind (λx=>match x with | D.sc (V.bl b)=>some b | x=>none)=some b:=λ{b x} c h1 h2=>
  tB (b9 (b9 (a:=bj q) rfl rfl h1) (gN (l:= [sD "look",sD "begin"]) rfl (by simp)) (by rw[h2];rfl))
 unfold AL EK;dsimp only;cases hb:decide (c % 9=8) with
 |true=>
  rw[hb]at t;obtain⟨a,ha,ea⟩:=YK (c / 9) mf.ended (mf.refused "gone") (mf.refused "stale") (λa=>match a with | .ended=>tp [sD "ended"] | .refused w=>tp [sD "refused",sD w] | _=>iD 0) (λa=>by cases a <;> rfl);have k1:=sU (K:=K) (C:=C) 3 (by decide) (by decide) q (c / 9) (wD w) (x3:=none) (x4:=none) (x5:=none) (x6:=none) (x7:=none) aO aO aO aO aO;have e:=ij (gg (g:=gT ah aq) (fa:=λZ=>aY (λd=>(d,Z)) (bu Kd.lst (au (bu Kd.tup (au (λx=>some (D.sc (V.str (aE "ended")))) λx=>some [])) (au (bu Kd.tup (au (λx=>some (D.sc (V.str (aE "refused")))) (au (λx=>some (D.sc (V.str (aE "gone")))) λx=>some []))) (au (bu Kd.tup (au (λx=>some (D.sc (V.str (aE "refused")))) (au (λx=>some (D.sc (V.str (aE "stale")))) λx=>some []))) λx=>some []))) Z))
   (fM (gN (gO (a:=tp [sD "ended"]) (gN (l:= [sD "ended"]) rfl (by simp)) (gO (a:=tp [sD "refused",sD "gone"]) (gN (l:= [sD "refused",sD "gone"]) rfl (by simp)) (gO (a:=tp [sD "refused",sD "stale"]) (gN (l:= [sD "refused",sD "stale"]) rfl (by simp)) (r:= []) rfl))) (by simp))) k1 ea)
  refine⟨a,c / 9 / 3,_,_, ?_, ?_,w5,jz (iG (jZ t ((if_pos rfl).trans e))) rfl |>.trans ?_⟩
  ·rcases ha with rfl | rfl | rfl
   ·trivial
   ·show dU _=true;decide +kernel
   ·show dU _=true;decide +kernel
  ·rcases ha with rfl | rfl | rfl <;> exact λ_ _=>trivial
  ·rcases ha with rfl | rfl | rfl <;> rfl
 |false=>
  rw[hb]at t;have s0:=jZ t (a:=cu (i9 (gT ah aq) (λZ=>aY (λd=>(d,Z)) (bu Kd.lst (au (bu Kd.tup (au (λx=>some (D.sc (V.str (aE "ended")))) λx=>some [])) (au (bu Kd.tup (au (λx=>some (D.sc (V.str (aE "refused")))) (au (λx=>some (D.sc (V.str (aE "gone")))) λx=>some []))) (au (bu Kd.tup (au (λx=>some (D.sc (V.str (aE "refused")))) (au (λx=>some (D.sc (V.str (aE "stale")))) λx=>some []))) λx=>some []))) Z)) (dQ (gG K C) (cG (aC 0) (fX (λx=>some (D.sc (V.int 3))) λx=>some []))))) (b:=λZ=>some (Fl.nx Z)) (if_neg bh);cases q with
  |di f v s=>
   obtain⟨v',c',N',fU,jI,ep⟩:=L8 (K:=K) (C:=C) hw (by lia) (Z:=da (.di f v s) (c / 9) (wD w) none none none none none) (sT _ _ _ aO aO aO aO aO) (fp:=aC 0) (fq:=aC 1) (fz:=cA ah (aC 2) λx=>some (D.sc (V.int 1))) (fu:=cA ah (aC 2) λx=>some (D.sc (V.int 3))) (r:=8) (s:=9) (z:= .ro (iD f)) (u:= .ro (sD s)) (c:=c / 9) (f:=f) (t:=s) hq rfl rfl rfl rfl (by decide) rfl rfl rfl rfl;have k1:=sU (K:=K) (C:=C) 9 (by decide) (by decide) (.di f v s) c' (wD { w with N:=N',Co:=fU }) (x3:=none) (x4:=none) (x5:=none) (x6:=none) (x7:=none) aO aO aO aO aO;exact⟨.di v' (c' % 9),_,N',fU,trivial,λ_ _=>⟨f,v,s,rfl⟩,jI.mono (by lia),jz (aK s0 (iG (((bR (wq _ _ _ _ _ _ rfl uW)).trans (if_pos rfl)).trans (ij (kQ (bZ (a:=sD "shut") rfl (bZ ep (bZ k1 (fr:=λZ=>some ([],Z)) rfl))) (by simp)))))) rfl⟩
  |join ds=>
   obtain⟨ρ',e,ps,c',N',fU,x4,x5,n4,n5,hl,jI,rfl⟩:=sS (fg:=λd Z=>some (aR 4 (B.ro d) Z)) (fb:=xK K C) 5 br (λj Z=>∃(ps:List jP) (c':Int) (N':List (Int×Int)) (fU:List ((Int×Int)×Str)) (x4 x5:Option B),NA x4/\NA x5/\ps.length=j/\eT (n + j) { w with N:=N',Co:=fU }/\Z=da (.join ds) c' (wD { w with N:=N',Co:=fU }) (some (.own (.nd .lst (ps.map cB)))) x4 x5 none none)
    ds (λd hd j Z hj ⟨ps,c',N',fU,x4,x5,n4,n5,hl,jI,e⟩=>by
     subst e;obtain⟨p,c2,N2,Xc,sV,e2⟩:=Xa (K:=K) (C:=C) jI (by lia) (.join ds) c' d (hq.2 d hd) (ps.map cB) (by simp;lia) x5 none none n5 aO aO;exact⟨_,_,congrArg some (va (i:=4) (β:= .ro (br d)) ba n4 n5 aO aO (by decide)),e2,ps++ [p],c2,N2,Xc,_,_,bX,ba,by simp[hl],sV,by rw[cf];rfl⟩)
    0 (da (.join ds) (c / 9) (wD w) (some (.own (.nd .lst []))) none none none none) ⟨[],c / 9,w.N,w.Co,none,none,aO,aO,rfl,hw,rfl⟩ (by have:=hq.1;lia)
   have Xd:ps.length < 5:=by have:=hq.1;simp at hl;lia
   have fA:forA (cA ah (aC 2) λx=>some (D.sc (V.int 1))) (λd Z=>some (aR 4 (B.ro d) Z)) (xK K C) (da (.join ds) (c / 9) (wD w) (some (.own (.nd .lst []))) none none none none)=de (λd Z=>some (aR 4 (B.ro d) Z)) (xK K C) (ds.map br) (da (.join ds) (c / 9) (wD w) (some (.own (.nd .lst []))) none none none none):=rfl;have fz:Af (fK 3) (da (.join ds) c' (wD { w with N:=N',Co:=fU }) (some (.own (.nd .lst (ps.map cB)))) x4 x5 none none)=some (.nd .aA (ps.map cB),da (.join ds) c' (wD { w with N:=N',Co:=fU }) none x4 x5 none none):=L3 (f:=fK 3) rfl (Mc ps);refine⟨.joined ps,c',N',fU,Xd,λ_ _=>⟨ds,rfl,by have:=hq.1;lia⟩,jI.mono (by have:=hq.1;lia),jz (aK s0 (aK (ρ':=da (.join ds) (c / 9) (wD w) none none none none none) ((bR (wq _ _ _ _ _ _ rfl Vx)).trans (if_neg bh)) (iG (((bR (wq _ _ _ _ _ _ rfl Vy)).trans (if_pos rfl)).trans (aK (ρ':=da (.join ds) (c / 9) (wD w) (some (.own (.nd .lst []))) none none none none) rfl (aK (fA.trans e) (ij (kQ (bZ (a:=sD "joined") rfl (bZ fz (fr:=λZ=>some ([],Z)) rfl)) (by simp))))))))) rfl⟩
  |look=>
   exact⟨.ok,c / 9,_,_,trivial,λ_ _=>trivial,w5,jz (aK s0 (aK (ρ':=da .look (c / 9) (wD w) none none none none none) ((bR (wq _ _ _ _ _ _ rfl Vz)).trans (if_neg bh)) (aK (ρ':=da .look (c / 9) (wD w) none none none none none) ((bR (wq _ _ _ _ _ _ rfl VA)).trans (if_neg bh)) (iG (((bR (wi (b:=true) _ rfl (by decide +kernel))).trans (if_pos rfl)).trans (ij (gg (fM (gN (gO (a:=tp [sD "ok"]) (gN (l:= [sD "ok"]) rfl (by simp)) (gO (a:=tp [sD "begun"]) (gN (l:= [sD "begun"]) rfl (by simp)) (r:= []) rfl)) (by simp))) (b:=iD 0) (fM (aj.mpr ⟨[.sc (.bl false)],gO (b9 (b9 (a:=bj .look) rfl rfl rfl) rfl VB) rfl,rfl⟩)) rfl))))))) rfl⟩
  |begin=>
   exact⟨.begun,c / 9,_,_,trivial,λ_ _=>trivial,w5,jz (aK s0 (aK (ρ':=da .begin (c / 9) (wD w) none none none none none) ((bR (wq _ _ _ _ _ _ rfl VC)).trans (if_neg bh)) (aK (ρ':=da .begin (c / 9) (wD w) none none none none none) ((bR (wq _ _ _ _ _ _ rfl VD)).trans (if_neg bh)) (iG (((bR (wi (b:=true) _ rfl (by decide +kernel))).trans (if_pos rfl)).trans (ij (gg (fM (gN (gO (a:=tp [sD "ok"]) (gN (l:= [sD "ok"]) rfl (by simp)) (gO (a:=tp [sD "begun"]) (gN (l:= [sD "begun"]) rfl (by simp)) (r:= []) rfl)) (by simp))) (b:=iD 1) (fM (aj.mpr ⟨[.sc (.bl true)],gO (b9 (b9 (a:=bj .begin) rfl rfl rfl) rfl VE) rfl,rfl⟩)) rfl))))))) rfl⟩
  |iz f=>
   obtain⟨v,s,x,c',ρ',hs,e,eo⟩:=Md (K:=K) (C:=C) hw (.iz f) (c / 9) f (x3:=none) (x4:=none) (x5:=none) (x7:=none) aO aO aO aO;exact⟨.file f v s x,c',_,_,hs,λ_ _=>trivial,w5,jz (aK s0 (aK (ρ':=da (.iz f) (c / 9) (wD w) none none none none none) ((bR (wq _ _ _ _ _ _ rfl Vt)).trans (if_neg bh)) (aK (ρ':=da (.iz f) (c / 9) (wD w) none none none none none) ((bR (wq _ _ _ _ _ _ rfl Vu)).trans (if_neg bh)) (aK (ρ':=da (.iz f) (c / 9) (wD w) none none none none none) ((bR (wi (b:=false) _ rfl (by decide +kernel))).trans (if_neg bh)) (aK (ρ':=da (.iz f) (c / 9) (wD w) none none none (some (.own (iD f))) none) (AZ (q:= .ro (iD f)) (d:=iD f) rfl rfl rfl rfl) (aK (ρ':=da (.iz f) (c / 9) (wD w) none none none (some (.own (iD f))) none) ((bR (wq _ _ _ _ _ _ rfl Vv)).trans (if_neg bh)) e)))))) eo⟩
  |iF=>
   have k1:=W9 (K:=K) (C:=C) hw .iF (c / 9) (x3:=none) (x4:=none) (x5:=none) (x6:=some (.own (sD "/a"))) (x7:=none) aO aO aO ba aO;have e1:=eX (i:=6) (gg (g:=jx) (fa:=λZ=>aY (λd=>(d,Z)) (some (D.sc (V.int 2)))) (a:=iD 2) rfl k1 rfl) (va (i:=6) (β:= .own (iD (2 + c / 9 % w.fi))) aO aO aO ba aO (by decide));have k2:=sU (K:=K) (C:=C) 4 (by decide) (by decide) .iF (c / 9 / w.fi) (wD w) (x3:=none) (x4:=none) (x5:=none) (x6:=some (.own (iD (2 + c / 9 % w.fi)))) (x7:=none) aO aO aO ba aO;have t2:=sj (gg k2 (fb:=λZ=>aY (λd=>(d,Z)) (some (D.sc (V.int 0)))) (b:=iD 0) rfl (ou (c / 9 / w.fi % 4) 0));have pre:∀{u:En->Option Fl} {d:D} {ρ':En} {l:List D},u (da .iF (c / 9) (wD w) none none none (some (.own (sD "/a"))) none)=some (.rt d ρ')->jM (ρ'.drop 8)=some l->bO (kF 6 (cA ah (aC 2) λx=>some (D.sc (V.int 1)))) u (da .iF (c / 9) (wD w) none none none none none)=some (.rt d ρ'):=λ{u d ρ' l} hu _=>aK (AZ (q:= .ro (sD "/a")) (d:=sD "/a") rfl rfl rfl rfl) hu;cases A9:decide (c / 9 / w.fi % 4=0) with
   |true=>
    rw[A9]at t2;exact⟨.folder,c / 9 / w.fi / 4,_,_,trivial,λ_ _=>trivial,w5,jz (aK s0 (aK (ρ':=da .iF (c / 9) (wD w) none none none none none) ((bR (wq _ _ _ _ _ _ rfl Ll)).trans (if_neg bh)) (aK (ρ':=da .iF (c / 9) (wD w) none none none none none) ((bR (wq _ _ _ _ _ _ rfl Ln)).trans (if_neg bh)) (aK (ρ':=da .iF (c / 9) (wD w) none none none none none) ((bR (wi (b:=false) _ rfl (by decide +kernel))).trans (if_neg bh)) (pre (l:= [.nd .lst [iD (c / 9 / w.fi / 4)],wD w]) (iG (((bR (wq _ _ _ _ _ _ rfl Lo)).trans (if_pos rfl)).trans (aK e1 (jZ t2 ((if_pos rfl).trans (ij (kQ (bZ (a:=sD "folder") rfl (bZ (a:=iD 0) rfl (bZ (a:= .nd .aA [sD "a",sD "clash"]) (L3 (cs:= [sD "a",sD "clash"]) (A5 (bZ (a:=sD "a") rfl (bZ (a:=sD "clash") rfl (fr:=λZ=>some ([],Z)) rfl)) (by simp)) rfl) (fr:=λZ=>some ([],Z)) rfl))) (by simp)))))))) rfl))))) rfl⟩
   |false=>
    rw[A9]at t2;obtain⟨v,s,x,c',ρ',hs,e,eo⟩:=Md (K:=K) (C:=C) hw .iF (c / 9 / w.fi / 4) (2 + c / 9 % w.fi) (x3:=none) (x4:=none) (x5:=none) (x7:=none) aO aO aO aO;exact⟨.file (2 + c / 9 % w.fi) v s x,c',_,_,hs,λ_ _=>trivial,w5,jz (aK s0 (aK (ρ':=da .iF (c / 9) (wD w) none none none none none) ((bR (wq _ _ _ _ _ _ rfl Ll)).trans (if_neg bh)) (aK (ρ':=da .iF (c / 9) (wD w) none none none none none) ((bR (wq _ _ _ _ _ _ rfl Ln)).trans (if_neg bh)) (aK (ρ':=da .iF (c / 9) (wD w) none none none none none) ((bR (wi (b:=false) _ rfl (by decide +kernel))).trans (if_neg bh)) (pre (l:= [.nd .lst [iD c'],wD w]) (aK (((bR (wq _ _ _ _ _ _ rfl Lo)).trans (if_pos rfl)).trans (aK e1 (jZ t2 (if_neg bh)))) e) eo))))) eo⟩
variable {K:ak}{C:Addr}[dz K C]
theorem gX.snoc{rs:List Row}(s:gX rs)(r:Row)(ok:pX r)(ht:∀h n a,r= .told h n a->∃(j:Nat) (q:bw),rs[j]?=some (.ask h n q)/\oA r (some q))(ha:∀h n q,r= .ask h n q->∀(j:Nat) (q':bw),rs[j]?≠some (.ask h n q')):gX (rs++ [r]):=by
 have lt:∀{j:Nat} {x:Row},rs[j]?=some x->j < rs.length:=λh=>(cb.mp h).1;refine⟨λi h n a e=> ?_,λi j h n q q' e e'=> ?_,λx hx=> ?_⟩
 ·rcases iU.mp e with z | ⟨rfl,z⟩
  ·obtain⟨j,q,l,ej,f⟩:=s.told i h n a z;exact⟨j,q,l,iU.mpr (.inl ej),f⟩
  ·obtain⟨j,q,ej,f⟩:=ht h n a z.symm;exact⟨j,q,lt ej,iU.mpr (.inl ej),by rw[z];exact f⟩
 ·rcases iU.mp e with z | ⟨z0,z⟩
  ·rcases iU.mp e' with y | ⟨_,y⟩
   ·exact s.one i j h n q q' z y
   ·exact absurd z (ha h n q' y.symm i q)
  ·rcases iU.mp e' with y | ⟨y0,y⟩
   ·exact absurd y (ha h n q z.symm j q')
   ·rw[z0,y0]
 ·rcases lJ.mp hx with z | z
  ·exact s.ok x z
  ·simp at z;rw[z];exact ok
structure Rl(w:eF)(rs:List Row):Prop where
 Ba:gX rs
 pend:∀(h:Nat) (q:bw) (n:Int),w.as[h]?=some (some q)->w.cn[h]?=some n->mV q/\∃j:Nat,rs[j]?=some (.ask h n q)
 kn:∀(j:Nat) (h n:Int) (q:bw),rs[j]?=some (.ask h n q)->∃(k:Nat) (m:Int),h=k/\w.cn[k]?=some m/\n<=m
theorem Rl.eE{w:eF}{rs:List Row}(R:Rl w rs)(h f v:Int)(c:Str)(hc:dU c=true):Rl w (rs++ [.eE h f v c]):=by
 refine⟨R.Ba.snoc _ hc (λ_ _ _ z=>by cases z) (λ_ _ _ z=>by cases z),λh q n e1 e2=> ?_,λj h n q e=> ?_⟩
 ·obtain⟨a,j,b⟩:=R.pend h q n e1 e2;exact⟨a,j,iU.mpr (.inl b)⟩
 ·rcases iU.mp e with e | ⟨_,e⟩
  ·exact R.kn j h n q e
  ·cases e
theorem Rl.ask{w:eF}{rs:List Row}(R:Rl w rs)(h:Nat)(hh:h < w.cn.length)(hl:w.as.length=w.cn.length)(q:bw)(hq:mV q):Rl { w with as:=w.as.set h (some q),cn:=w.cn.set h (w.cn[h] + 1) } (rs++ [.ask h (w.cn[h] + 1) q]):=by
 have hc:w.cn[h]?=some w.cn[h]:=gP hh;have up:∀{k:Nat} {m:Int},w.cn[k]?=some m->∃m',(w.cn.set h (w.cn[h] + 1))[k]?=some m'/\m<=m':=λ{k m} e=>by
  by_cases c:h=k
  ·subst c;rw[hc]at e;cases e;exact⟨_,eN hh,by lia⟩
  ·exact⟨m,by rw[fF c];exact e,Int.le_refl _⟩
 refine⟨R.Ba.snoc _ hq (λ_ _ _ z=>by cases z) (λh' n' q' z j q2 e=> ?_),λk q' n e1 e2=> ?_,λj h' n q' e=> ?_⟩
 ·cases z;obtain⟨k,m,e3,e4,e5⟩:=R.kn j _ _ _ e;have:h=k:=by lia
  subst this;rw[hc]at e4;cases e4
  lia
 ·by_cases c:h=k
  ·subst c;rw[show(w.as.set h (some q))[h]?=some (some q) from eN (by lia)]at e1;rw[show(w.cn.set h (w.cn[h] + 1))[h]?=some (w.cn[h] + 1) from eN hh]at e2;cases e1;cases e2;exact⟨hq,rs.length,iU.mpr (.inr ⟨rfl,rfl⟩)⟩
  ·rw[show(w.as.set h (some q))[k]?=w.as[k]? from fF c]at e1;rw[show(w.cn.set h (w.cn[h] + 1))[k]?=w.cn[k]? from fF c]at e2;obtain⟨a,j,b⟩:=R.pend k q' n e1 e2;exact⟨a,j,iU.mpr (.inl b)⟩
 ·rcases iU.mp e with e | ⟨_,e⟩
  ·obtain⟨k,m,e3,e4,e5⟩:=R.kn j _ _ _ e;obtain⟨m',e6,e7⟩:=up e4;exact⟨k,m',e3,e6,N3 e5 e7⟩
  ·cases e;exact⟨h,_,rfl,eN hh,Int.le_refl _⟩
theorem Rl.told{w:eF}{rs:List Row}(R:Rl w rs)(h:Nat)(hh:h < w.cn.length)(hl:w.as.length=w.cn.length)(q:bw)(e0:w.as[h]?=some (some q))(a:mf)(ha:xB a)(hf:∀h m,oA (.told h m a) (some q))(N':List (Int×Int))(fU:List ((Int×Int)×Str)):Rl { w with as:=w.as.set h none,N:=N',Co:=fU } (rs++ [.told h w.cn[h] a]):=by
 have hc:w.cn[h]?=some w.cn[h]:=gP hh;obtain⟨_,j0,b0⟩:=R.pend h q _ e0 hc;refine⟨R.Ba.snoc _ ha (λh' n' a' z=>by cases z;exact⟨j0,q,b0,hf _ _⟩) (λ_ _ _ z=>by cases z),λk q' n e1 e2=> ?_,λj h' n q' e=> ?_⟩
 ·by_cases c:h=k
  ·subst c;rw[show(w.as.set h none)[h]?=some none from eN (by lia)]at e1;cases e1
  ·rw[show(w.as.set h none)[k]?=w.as[k]? from fF c]at e1;obtain⟨a,j,b⟩:=R.pend k q' n e1 e2;exact⟨a,j,iU.mpr (.inl b)⟩
 ·rcases iU.mp e with e | ⟨_,e⟩
  ·exact R.kn j h' n q' e
  ·cases e
theorem Xe{Z:En}{r:Nat}{d:D}(h:aP Z r=some d):fB Z (.rt r [])=some d:=by
 show(aP Z r).bind _=_;rw[h,bo,j5]
def hU(c:Int)(W:D)(x2 x3 x4 x5:Option B):En:= [some (.aT 6 []),some (.aT 7 []),x2,x3,x4,x5,some (.own (.nd .lst [iD c])),some (.own W)]
theorem Xf(o:Option bw):eg id (dn o) (.sc .az)=some (.sc (.bl (decide (o=none)))):=by
 cases o with
 |none=>rfl
 |some q=>cases q <;> rfl
theorem Xg{n:Nat}{w:eF}(hw:eT n w)(hn:n < 1800){rs:List Row}(R:Rl w rs)(c:Int):∃r c' w',eT (n + 5) w'/\Rl w' (rs++ [r])/\pR K C [.nd .lst [iD c],wD w]=some (av .aA r, [.nd .lst [iD c'],wD w']):=by
 have hb:=hw.hb;have ha:=hw.ha;have hl:=hw.len;have k1:=kx (K:=K) (C:=C) (Z:=hU c (wD w) none none none none) (ip rfl) (fp:=aC 0) (fr:=fX (λZ=>(au (ag (ar ah aq) (ae 1) λx=>some (D.sc (V.str (aE "counts")))) (λx=>some []) Z).bind qD) λx=>some []) (r:=6) (c:=c) (m:=(w.cn.length:Int)) rfl rfl (Wk (aj.mpr ⟨[.nd .lst (w.cn.map iD)],gO (b9 (a:=wD w) rfl rfl (A6 w)) rfl,by show some (D.sc (V.int (w.cn.map iD).length))=_;rw[eG]⟩) rfl) (by lia) (by lia);have hz:=oz (c:=c) (m:=(w.cn.length:Int)) (by lia);have ez:((c % (w.cn.length:Int)).toNat:Int)=c % (w.cn.length:Int):=Oa hz.1;generalize hh:(c % (w.cn.length:Int)).toNat=h at *;have fm:h < w.cn.length:=by lia
 rw[<- ez]at k1;generalize c / (w.cn.length:Int)=c1 at *;have s1:(dP 2 (dQ (gG K C) (cG (aC 0) (fX (λZ=>(au (ag (ar ah aq) (ae 1) λx=>some (D.sc (V.str (aE "counts")))) (λx=>some []) Z).bind qD) λx=>some [])))) (hU c (wD w) none none none none)=some (.nx (hU c1 (wD w) (some (.own (iD (h:Nat)))) none none none)):=eX k1 rfl;have k2:=kx (K:=K) (C:=C) (Z:=hU c1 (wD w) (some (.own (iD (h:Nat)))) none none none) (ip rfl) (fp:=aC 0) (fr:=fX (λx=>some (D.sc (V.int 5))) λx=>some []) (r:=6) (c:=c1) (m:=5) rfl rfl rfl (by decide) (by decide);have t:=sj (gg k2 (fb:=λZ=>aY (λd=>(d,Z)) (some (D.sc (V.int 0)))) (b:=iD 0) rfl (ou (c1 % 5) 0));unfold pR EL;dsimp only;cases Me:decide (c1 % 5=0) with
 |true=>
  rw[Me]at t;have k3:=kx (K:=K) (C:=C) (Z:=hU (c1 / 5) (wD w) (some (.own (iD (h:Nat)))) none none none) (ip rfl) (fp:=aC 0) (fr:=eJ (cA ah (aC 1) λx=>some (D.sc (V.str (aE "files")))) λx=>some []) (r:=6) (c:=c1 / 5) (m:=w.fi) rfl rfl (mv (q:= .rt 7 [4]) (oy (p:= []) rfl rfl rfl (Fv w) rfl rfl) rfl rfl rfl) hw.f1 (by have:=hw.f2;lia);generalize hf:2 + c1 / 5 % w.fi=f;have e3:(dP 3 (i9 jx (λZ=>aY (λd=>(d,Z)) (some (D.sc (V.int 2)))) (dQ (gG K C) (cG (aC 0) (eJ (cA ah (aC 1) λx=>some (D.sc (V.str (aE "files")))) λx=>some []))))) (hU (c1 / 5) (wD w) (some (.own (iD (h:Nat)))) none none none)=some (.nx (hU (c1 / 5 / w.fi) (wD w) (some (.own (iD (h:Nat)))) (some (.own (iD f))) none none)):=eX (gg (a:=iD 2) (d:=iD f) rfl k3 (by rw[<- hf];rfl)) rfl;obtain⟨v,c2,e4⟩:=Fx (K:=K) (C:=C) hw (Z:=hU (c1 / 5 / w.fi) (wD w) (some (.own (iD (h:Nat)))) (some (.own (iD f))) none none) (ip rfl) (fp:=aC 0) (fq:=aC 1) (fz:=aC 3) (r:=6) (s:=7) (z:= .rt 3 []) (c:=c1 / 5 / w.fi) (f:=f) rfl rfl rfl rfl (by decide) rfl rfl;have e5:(dP 4 (dQ (uU K C) (cG (aC 0) (eJ (aC 1) (eJ (aC 3) λx=>some []))))) (hU (c1 / 5 / w.fi) (wD w) (some (.own (iD (h:Nat)))) (some (.own (iD f))) none none)=some (.nx (hU c2 (wD w) (some (.own (iD (h:Nat)))) (some (.own (iD f))) (some (.own (iD v))) none)):=eX e4 rfl;obtain⟨s,c3,hs,e6⟩:=L7 (K:=K) (C:=C) hw (Z:=hU c2 (wD w) (some (.own (iD (h:Nat)))) (some (.own (iD f))) (some (.own (iD v))) none) (ip rfl) (fp:=aC 0) (fq:=aC 1) (fz:=aC 3) (fu:=aC 4) (r:=6) (s:=7) (z:= .rt 3 []) (u:= .rt 4 []) (c:=c2) (f:=f) (v:=v) rfl rfl rfl rfl (by decide) rfl rfl rfl rfl;exact⟨.eE h f v s,c3,w,hw.mono (by lia),R.eE h f v s hs,jz (aK s1 (iG (jZ t ((if_pos rfl).trans (aK e3 (aK e5 (ij (kQ (bZ (a:=sD "saw") rfl (bZ (a:=iD (h:Nat)) rfl (bZ (a:=iD f) rfl (bZ (a:=iD v) rfl (bZ e6 (fr:=λZ=>some ([],Z)) rfl))))) (by simp))))))))) rfl⟩
 |false=>
  rw[Me]at t;have alt:h < w.as.length:=by lia
  have ra:ar ah aq (.nd .lst (w.as.map dn)) (iD (h:Nat))=some (dn w.as[h]):=(lA .lst (.inl rfl) w.as dn h _ (gP alt) (by lia)).2.2;have rc:ar ah aq (.nd .lst (w.cn.map iD)) (iD (h:Nat))=some (iD w.cn[h]):=(lA .lst (.inl rfl) w.cn iD h _ (gP fm) (by lia)).2.2;have t2:=tB (f:=ag (eg id) (ag (ar ah aq) (ag (ar ah aq) (ae 1) λx=>some (D.sc (V.str (aE "asked")))) (ae 2)) (λx=>some (D.sc V.az))) (Z:=hU (c1 / 5) (wD w) (some (.own (iD (h:Nat)))) none none none) (b9 (b9 (b9 (a:=wD w) rfl rfl (L0 w)) (b:=iD (h:Nat)) rfl ra) rfl (Xf w.as[h]));have ea:w.as[h]?=some w.as[h]:=gP alt;cases hq:w.as[h] with
  |none=>
   rw[hq]at t2;obtain⟨q,c2,qK,e2⟩:=W6 (K:=K) (C:=C) hw h fm (c1 / 5);have e3:dQ (AJ K C) (cG (aC 0) (cG (aC 1) (eJ (aC 2) λx=>some []))) (hU (c1 / 5) (wD w) (some (.own (iD (h:Nat)))) none none none)=some (av .aA (.ask h (w.cn[h] + 1) q),hU c2 (wD { w with as:=w.as.set h (some q),cn:=w.cn.set h (w.cn[h] + 1) }) (some (.own (iD (h:Nat)))) none none none):=
    sR (mn (r:=6) (p:= []) rfl (mn (r:=7) (p:= []) rfl (mv (q:= .rt 2 []) (d:=iD (h:Nat)) rfl rfl rfl rfl))) (by simp[iw,nW,hU,aP,j5]) ⟨by show Gq _ [(⟨6, []⟩:Io),⟨7, []⟩];simp,rfl⟩ e2 rfl (AX (ip rfl) (by decide) (d0:= .nd .lst [iD (c1 / 5)]) (d1:=wD w) rfl rfl _ _)
   refine⟨_,c2, { w with as:=w.as.set h (some q),cn:=w.cn.set h (w.cn[h] + 1) },⟨dC hw.nl (by lia),hw.nn,dC hw.cl (by lia),hw.cd,hw.cs,by simp[hl],by simpa using ha,by simpa using hb,hw.f1,hw.f2,hw.o1,hw.o2⟩,R.ask h fm hl q qK,jz (aK s1 (aK (jZ t (if_neg bh)) (iG (((bR t2).trans (if_pos (by simp))).trans (ij e3))))) rfl⟩
  |some q=>
   rw[hq]at t2 ea;obtain⟨Xh,_⟩:=R.pend h q _ ea (gP fm);have g:=LQ (cs:=w.as.map dn) (i:=h) (c:=bj q) (by rw[du,ea];rfl);obtain⟨i1,i2,_⟩:=lA .lst (.inl rfl) w.as dn h _ ea (by lia);have p1:cA ah (aC 1) (λx=>some (D.sc (V.str (aE "asked")))) (hU (c1 / 5) (wD w) (some (.own (iD (h:Nat)))) none none none)=some (.rt 7 [3]):=oy (p:= []) rfl rfl rfl (Fu w) rfl rfl;have p2:cA ah (cA ah (aC 1) λx=>some (D.sc (V.str (aE "asked")))) (ae 2) (hU (c1 / 5) (wD w) (some (.own (iD (h:Nat)))) none none none)=some (.rt 7 [3,h]):=oy (p:= [3]) (d:= .nd .lst (w.as.map dn)) p1 rfl rfl i1 i2 rfl;have s4:kF 5 (cA ah (cA ah (aC 1) λx=>some (D.sc (V.str (aE "asked")))) (ae 2)) (hU (c1 / 5) (wD w) (some (.own (iD (h:Nat)))) none none none)=some (.nx (hU (c1 / 5) (wD w) (some (.own (iD (h:Nat)))) none none (some (.own (bj q))))):=AZ p2 (d:=bj q) g (pW q) rfl;have s5:sg (λZ=>aY (λd=>(d,Z)) (some (D.sc V.az))) (cA ah (aC 1) λx=>some (D.sc (V.str (aE "asked")))) (ae 2) (hU (c1 / 5) (wD w) (some (.own (iD (h:Nat)))) none none (some (.own (bj q))))=some (.nx (hU (c1 / 5) (wD { w with as:=w.as.set h none }) (some (.own (iD (h:Nat)))) none none (some (.own (bj q))))):=by
    refine Fw (d:= .sc .az) (ip rfl) rfl (r:=7) (p:= [3]) (d0:=wD w) (cs:=w.as.map dn) (h:=h) (oy (p:= []) rfl rfl rfl (Fu w) rfl rfl) rfl rfl (by simp;lia) (by simp;lia) ?_;rw[show(D.sc .az)=dn none from rfl, <- Ob];rfl
   have sV:eT n { w with as:=w.as.set h none }:=⟨hw.nl,hw.nn,hw.cl,hw.cd,hw.cs,by simp[hl],hw.ha,hw.hb,hw.f1,hw.f2,hw.o1,hw.o2⟩
   obtain⟨a,c2,N',fU,Xi,Cp,Xj,e2⟩:=Xb (K:=K) (C:=C) sV hn q Xh (c1 / 5);have e3:dQ (AL K C) (cG (aC 0) (cG (aC 1) (eJ (aC 5) λx=>some []))) (hU (c1 / 5) (wD { w with as:=w.as.set h none }) (some (.own (iD (h:Nat)))) none none (some (.own (bj q))))=some (cx .aA a,hU c2 (wD { w with as:=w.as.set h none,N:=N',Co:=fU }) (some (.own (iD (h:Nat)))) none none (some (.own (bj q)))):=
    sR (mn (r:=6) (p:= []) rfl (mn (r:=7) (p:= []) rfl (mv (q:= .rt 5 []) (d:=bj q) rfl (Xe (d:=bj q) rfl) (pW q) rfl))) (by simp[iw,nW,hU,aP,j5]) ⟨by show Gq _ [(⟨6, []⟩:Io),⟨7, []⟩];simp,rfl⟩ e2 rfl (AX (ip rfl) (by decide) (d0:= .nd .lst [iD (c1 / 5)]) (d1:=wD { w with as:=w.as.set h none }) rfl rfl _ _)
   exact⟨_,c2,_,Xj,R.told h fm hl q ea a Xi Cp N' fU,jz (aK s1 (aK (jZ t (if_neg bh)) (aK ((bR t2).trans (if_neg (by simp))) (aK s4 (aK s5 (ij (kQ (bZ (a:=sD "told") rfl (bZ (a:=iD (h:Nat)) rfl (bZ (pV (b9 (b9 (a:=wD { w with as:=w.as.set h none }) rfl rfl (A6 _)) (b:=iD (h:Nat)) rfl rc) rfl) (bZ e3 (fr:=λZ=>some ([],Z)) rfl)))) (by simp)))))))) rfl⟩
variable {K:ak}{C:Addr}[dz K C]
theorem Xk{fp:En->Option Pl}{fe:En->Option (D×En)}{Z ρ1:En}{r:Nat}{Xl aG:List D}{d:D}(al:Al ρ1)(h1:fp Z=some (.rt r []))(hr:aP Z r=some (.nd .lst Xl))(h2:fe Z=some (d,ρ1))(Xm:aP ρ1 r=some (.nd .lst aG))(hl:aG.length < 2000):gv (qw fp fe) Z=some (.nx (ρ1.set r (some (.own (.nd .lst (aG++ [d])))))):=by
 have hn:gw ρ1 r []=some (.nd .lst aG, .lst,aG):=by
  unfold gw;rw[Xm,bo,j5];rfl
 refine Fc (d:= .sc .az) ?_;unfold qw;rw[h1,bo];dsimp only;rw[if_pos rfl,hr];dsimp only;rw[h2,bo];unfold ja;dsimp only;rw[hn,bo];dsimp only;unfold jW;rw[if_pos (df hl (by decide)),mD,mD,mj al,oq]
def cN(cs:List Int)(c:Int)(H W T:D)(x5 x6 x7 x8 x9 x10 x11:Option B):En:= [some (.ro (iQ cs)),some (.own (.nd .lst [iD c])),some (.own H),some (.own W),some (.own T),x5,x6,x7,x8,x9,x10,x11]
def bN(k:Kd)(rs:List Row):D:= .nd k (rs.map (av .aA))
theorem Fz(cs:List Int)(c:Int)(H W T:D){x5 x6 x7:Option B}(h5:NA x5)(h6:NA x6)(h7:NA x7):Al (cN cs c H W T x5 x6 x7 none none none none):=ip (by simp[cN,kP h5,kP h6,kP h7];exact⟨rfl,rfl,rfl,rfl,rfl,rfl⟩)
theorem sW{i:Nat}{β:B}{cs:List Int}{c:Int}{H W T:D}{x5 x6 x7 x8 x9 x10 x11:Option B}(n5:NA x5)(n6:NA x6)(n7:NA x7)(n8:NA x8)(n9:NA x9)(ox:NA x10)(jk:NA x11):aR i β (cN cs c H W T x5 x6 x7 x8 x9 x10 x11)=(cN cs c H W T x5 x6 x7 x8 x9 x10 x11).set i (some β):=by
 simp only[aR,cN,eC,ig,bg n5,bg n6,bg n7,bg n8,bg n9,bg ox,bg jk,el]
theorem Xn{n:Nat}{w:eF}(hw:eT n w)(hn:n < 1800){rs:List Row}(R:Rl w rs)(hl:rs.length < 1000)(cs:List Int)(c:Int)(H:D){x5 x6 x7:Option B}(n5:NA x5)(n6:NA x6)(n7:NA x7):∃r c' w',eT (n + 5) w'/\Rl w' (rs++ [r])/\gv (qw (aC 4) (dQ (pR K C) (cG (aC 1) (cG (aC 3) λx=>some [])))) (cN cs c H (wD w) (bN .lst rs) x5 x6 x7 none none none none)=some (.nx (cN cs c' H (wD w') (bN .lst (rs++ [r])) x5 x6 x7 none none none none)):=by
 obtain⟨r,c',w',jI,R',e⟩:=Xg (K:=K) (C:=C) hw hn R c;have e1:dQ (pR K C) (cG (aC 1) (cG (aC 3) λx=>some [])) (cN cs c H (wD w) (bN .lst rs) x5 x6 x7 none none none none)=some (av .aA r,cN cs c' H (wD w') (bN .lst rs) x5 x6 x7 none none none none):=
  sR (mn (r:=1) (p:= []) rfl (mn (r:=3) (p:= []) rfl rfl)) (by simp[iw,nW,cN,aP,j5]) ⟨by show Gq _ [(⟨1, []⟩:Io),⟨3, []⟩];simp,rfl⟩ e rfl (AX (Fz cs c H (wD w) _ n5 n6 n7) (by decide) (d0:= .nd .lst [iD c]) (d1:=wD w) rfl rfl _ _)
 refine⟨r,c',w',jI,R',(Xk (Fz cs c' H (wD w') _ n5 n6 n7) (r:=4) rfl rfl e1 (aG:=rs.map (av .aA)) rfl (by simp;lia)).trans ?_⟩;unfold bN;rw[cf];rfl
theorem Xo{w:eF}{rs:List Row}(hw:eT (5 * rs.length) w)(hl:rs.length < 190)(R:Rl w rs)(cs:List Int)(c0 cell:Int)(k:Nat)(hk:k < 1000)(H:D){x5 x6 x7:Option B}(n5:NA x5)(n6:NA x6)(n7:NA x7):∃lC c' w' y7,NA y7/\eT (5 * lC.length) w'/\Rl w' lC/\lC.length<=rs.length + 3/\
  bO (dP 1 λZ=>aY (λd=>(d,Z)) ((au (ae 6) (au (ag pK (ae 5) λx=>some (D.sc (V.int 1))) λx=>some []) Z).bind λds=>if ds.length=2 then pP K C ds else none))
   (sh (bU (i9 jx (λZ=>aY (λd=>(d,Z)) (some (D.sc (V.int 1)))) (dQ (gG K C) (cG (aC 1) (fX (λx=>some (D.sc (V.int 3))) λx=>some [])))) λZ=>some ([],Z)) (λd Z=>some (aR 7 (B.ro d) Z))
    (gv (qw (aC 4) (dQ (pR K C) (cG (aC 1) (cG (aC 3) λx=>some []))))))
   (cN cs c0 H (wD w) (bN .lst rs) (some (.ro (iD (k:Nat)))) (some (.ro (iD cell))) x7 none none none none)=some (.nx (cN cs c' H (wD w') (bN .lst lC) (some (.ro (iD (k:Nat)))) (some (.ro (iD cell))) y7 none none none none)):=by
 obtain⟨c,e0⟩:=L5 (K:=K) (C:=C) cell (k + 1) (by lia);have s1:(dP 1 λZ=>aY (λd=>(d,Z)) ((au (ae 6) (au (ag pK (ae 5) λx=>some (D.sc (V.int 1))) λx=>some []) Z).bind λds=>if ds.length=2 then pP K C ds else none)) (cN cs c0 H (wD w) (bN .lst rs) (some (.ro (iD (k:Nat)))) (some (.ro (iD cell))) x7 none none none none)=some (.nx (cN cs c H (wD w) (bN .lst rs) (some (.ro (iD (k:Nat)))) (some (.ro (iD cell))) x7 none none none none)):=by
  refine eX (fM (aj.mpr ⟨[iD cell,iD ((k + 1:Nat))],gO rfl (gO ?_ rfl),(if_pos rfl).trans e0⟩)) ?_
  ·show some (D.sc (V.int ((k:Int) + 1)))=_;simp[iD]
  ·exact sW bX bX n7 aO aO aO aO
 have k1:=kx (K:=K) (C:=C) (Z:=cN cs c H (wD w) (bN .lst rs) (some (.ro (iD (k:Nat)))) (some (.ro (iD cell))) x7 none none none none) (Fz cs c H (wD w) _ bX bX n7) (fp:=aC 1) (fr:=fX (λx=>some (D.sc (V.int 3))) λx=>some []) (r:=1) (c:=c) (m:=3) rfl rfl rfl (by decide) (by decide);have hz:=oz (c:=c) (m:=3) (by decide);have ez:((1 + c % 3).toNat:Int)=1 + c % 3:=Oa (by lia);have hr:kH [iD (1 + c % 3)]=some ((jm (1 + c % 3).toNat).map λi:Nat=>iD (i:Nat)):=by
  have:=A2 (1 + c % 3).toNat (by lia);rw[ez]at this;exact this
 obtain⟨ρ',e,lC,c',w',y7,m7,jI,R',pz,rfl⟩:=sS (fg:=λd Z=>some (aR 7 (B.ro d) Z)) (fb:=gv (qw (aC 4) (dQ (pR K C) (cG (aC 1) (cG (aC 3) λx=>some []))))) 4 (λi:Nat=>iD (i:Nat)) (λj Z=>∃lC c' w' y7,NA y7/\eT (5 * lC.length) w'/\Rl w' lC/\lC.length=rs.length + j/\Z=cN cs c' H (wD w') (bN .lst lC) (some (.ro (iD (k:Nat)))) (some (.ro (iD cell))) y7 none none none none)
  (jm (1 + c % 3).toNat) (λi hi j Z hj ⟨lC,c',w',y7,m7,jI,R',pz,e⟩=>by
   subst e;obtain⟨r,c2,w2,sV,R2,e2⟩:=Xn (K:=K) (C:=C) jI (by lia) R' (by lia) cs c' H (x5:=some (.ro (iD (k:Nat)))) (x6:=some (.ro (iD cell))) (x7:=some (.ro (iD (i:Nat)))) bX bX bX;exact⟨_,_,congrArg some (sW (i:=7) (β:= .ro (iD (i:Nat))) bX bX m7 aO aO aO aO),e2,lC++ [r],c2,w2,_,bX,by rw[b6];exact sV,R2,by simp;lia,rfl⟩)
  0 (cN cs (c / 3) H (wD w) (bN .lst rs) (some (.ro (iD (k:Nat)))) (some (.ro (iD cell))) x7 none none none none) ⟨rs,c / 3,w,x7,n7,hw,R,by simp,rfl⟩ (by simp;lia)
 refine⟨lC,c',w',y7,m7,jI,R',by simp at pz;lia,aK s1 (Ma (bZ (gg (a:=iD 1) rfl k1 rfl) (fr:=λZ=>some ([],Z)) rfl) hr e)⟩
theorem Mf{α:Type}(g:α->D)(l:List α)(lo hi:Option Int):cutD (l.map g) lo hi=(cutD l lo hi).map g:=by
 unfold cutD;rw[eG,List.map_take,List.map_drop]
theorem Mg{α:Type}(l:List α)(hi:Option Int):∃b,cutD l none hi=l.take b:=⟨_,by unfold cutD;rw[HT.Px,Gi]⟩
theorem Xp{α:Type}(l:List α):(cutD l (some 1) (some 63)).length<=62:=by
 unfold cutD;rw[xZ,show(1:Int)=((1:Nat):Int) from rfl,show(63:Int)=((63:Nat):Int) from rfl,HT.Hj,HT.Hj]
 lia
theorem Xq(cs:List Int)(c0:Int)(H:D){w:eF}(hw:eT 0 w)(R:Rl w []):∃rs c' w' x5 x6 x7,NA x5/\NA x6/\NA x7/\Rl w' rs/\rs.length < 190/\
  (λZ=>(Aj (iP (ae 0) (λZ=>(some (D.sc (V.int 1))).bind fE) λZ=>(some (D.sc (V.int 63))).bind fE) Z).bind λds=>
   de (gz 2 (dD (λd Z=>some (aR 5 (B.ro d) Z)) (dD (λd Z=>some (aR 6 (B.ro d) Z)) λds Z=>match ds with | []=>some Z | x=>none)))
    (bO (dP 1 λZ=>aY (λd=>(d,Z)) ((au (ae 6) (au (ag pK (ae 5) λx=>some (D.sc (V.int 1))) λx=>some []) Z).bind λds=>if ds.length=2 then pP K C ds else none))
     (sh (bU (i9 jx (λZ=>aY (λd=>(d,Z)) (some (D.sc (V.int 1)))) (dQ (gG K C) (cG (aC 1) (fX (λx=>some (D.sc (V.int 3))) λx=>some [])))) λZ=>some ([],Z)) (λd Z=>some (aR 7 (B.ro d) Z))
      (gv (qw (aC 4) (dQ (pR K C) (cG (aC 1) (cG (aC 3) λx=>some [])))))))
    ds Z) (cN cs c0 H (wD w) (bN .lst []) none none none none none none none)=some (.nx (cN cs c' H (wD w') (bN .lst rs) x5 x6 x7 none none none none)):=by
 have pl:bq (cs.map λi=>D.sc (.int i))=true:=nQ λd hd=>by
  obtain⟨i,_,rfl⟩:=jK.mp hd;rfl
 have zh:iP (ae 0) (λZ=>(some (D.sc (V.int 1))).bind fE) (λZ=>(some (D.sc (V.int 63))).bind fE) (cN cs c0 H (wD w) (bN .lst []) none none none none none none none)=some (.nd .lst ((cutD cs (some 1) (some 63)).map iD)):=by
  show(if bq (cs.map λi=>D.sc (.int i))=true then some (D.nd .lst (cutD (cs.map λi=>D.sc (.int i)) (some 1) (some 63))) else none)=_;rw[if_pos pl,Mf]
  first | done | rfl
 have u7:Aj (iP (ae 0) (λZ=>(some (D.sc (V.int 1))).bind fE) λZ=>(some (D.sc (V.int 63))).bind fE) (cN cs c0 H (wD w) (bN .lst []) none none none none none none none)=some ((cutD cs (some 1) (some 63)).zipIdx.map λx=> .nd .tup [.sc (.int x.2),iD x.1]):=by
  unfold Aj;rw[zh,bo, <- E9];rfl
 have IH:=Xp cs;generalize cutD cs (some 1) (some 63)=ls at *;obtain⟨ρ',e,rs,c',w',x5,x6,x7,n5,n6,n7,jI,R',pz,rfl⟩:=sS (fg:=gz 2 (dD (λd Z=>some (aR 5 (B.ro d) Z)) (dD (λd Z=>some (aR 6 (B.ro d) Z)) λds Z=>match ds with | []=>some Z | x=>none)))
  (fb:=bO (dP 1 λZ=>aY (λd=>(d,Z)) ((au (ae 6) (au (ag pK (ae 5) λx=>some (D.sc (V.int 1))) λx=>some []) Z).bind λds=>if ds.length=2 then pP K C ds else none))
     (sh (bU (i9 jx (λZ=>aY (λd=>(d,Z)) (some (D.sc (V.int 1)))) (dQ (gG K C) (cG (aC 1) (fX (λx=>some (D.sc (V.int 3))) λx=>some [])))) λZ=>some ([],Z)) (λd Z=>some (aR 7 (B.ro d) Z))
      (gv (qw (aC 4) (dQ (pR K C) (cG (aC 1) (cG (aC 3) λx=>some []))))))) 62 (λx:Int×Nat=> .nd .tup [.sc (.int x.2),iD x.1])
  (λj Z=>∃rs c' w' x5 x6 x7,NA x5/\NA x6/\NA x7/\eT (5 * rs.length) w'/\Rl w' rs/\rs.length<=3 * j/\Z=cN cs c' H (wD w') (bN .lst rs) x5 x6 x7 none none none none)
  ls.zipIdx (λx hx j Z hj ⟨rs,c',w',x5,x6,x7,n5,n6,n7,jI,R',pz,e⟩=>by
   subst e;obtain⟨cell,k⟩:=x;have hk:k < 62:=by
    have:=Zo.mp hx;have:=(cb.mp this).1
    lia
   obtain⟨Xr,c2,w2,y7,m7,sV,R2,lq,e2⟩:=Xo (K:=K) (C:=C) jI (by lia) R' cs c' cell k (by lia) H (x5:=some (.ro (iD (k:Nat)))) (x6:=some (.ro (iD cell))) (x7:=x7) bX bX n7;refine⟨cN cs c' H (wD w') (bN .lst rs) (some (.ro (iD (k:Nat)))) (some (.ro (iD cell))) x7 none none none none,_, ?_,e2,Xr,c2,w2,_,_,y7,bX,bX,m7,sV,R2,by lia,rfl⟩;generalize bN .lst rs=T;generalize wD w'=W;generalize hS:iQ cs=S;unfold cN;rw[hS];simp[iD,bg n5,bg n6,bg n7,aR,dD,gz,el,ig,eC,iy])
  0 (cN cs c0 H (wD w) (bN .lst []) none none none none none none none) ⟨[],c0,w,none,none,none,aO,aO,aO,hw,R,by simp,rfl⟩ (by simp;lia)
 refine⟨rs,c',w',x5,x6,x7,n5,n6,n7,R',by simp at pz;lia, ?_⟩;dsimp only;rw[u7,bo];exact e
variable {K:ak}{C:Addr}[dz K C]
theorem Mh{full:List Row}(s:gX full)(hl:full.length < 200)(S:D):∀(jh pre:List Row) (L:List (Int×List (Int×Int×Option Int))) (Q:List ((Int×Int)×List (Int×Str))) (x2 x3 x4:Option B),full=pre++jh->NA x2->NA x3->NA x4->Bd (5 * pre.length) L->Bd (5 * pre.length) Q->(∀b,∀x∈(lk b Q).getD [],dU x.2=true)->((aD 0 pre).map λx=>k2 x.1).Nodup->
  ∃ρ',de (gz 2 (dD (λd Z=>some (aR 2 (B.ro d) Z)) (dD (λd Z=>some (aR 3 (B.ro d) Z)) λds Z=>match ds with | []=>some Z | x=>none)))
   (bO (dP 4 λZ=>aY (λd=>(d,Z)) ((au (ae 1) (au (ae 2) (au (ae 3) λx=>some [])) Z).bind λds=>if ds.length=3 then sH K C ds else none))
    (bO (cP (λZ=>aY (λb=>(b,Z)) ((ae 4 Z).bind xc)) (cu (fQ (bU (λZ=>aY (λd=>(d,Z)) ((au (ae 4) (λx=>some []) Z).bind uL)) (bU (fK 2) λZ=>some ([],Z))))) λZ=>some (Fl.nx Z))
     (gv λZ=>(aY (λa=>(a,Z)) (cG (aC 1) (eJ (aC 2) (eJ (aC 3) λx=>some [])) Z)).bind λa=>qB (qO K C) a.fst a.snd)))
   (jB pre.length (jh.map (av .lst))) (jj S (bt C (aD 0 pre) L Q) x2 x3 x4)=some (match run pre.length (aD 0 pre) L Q jh with | none=> .nx ρ' | some p=> .rt (pairD (some p)) ρ')
 | [],pre,L,Q,x2,x3,x4,_,_,_,_,_,_,_,_=>⟨_,rfl⟩
 |r::jh,pre,L,Q,x2,x3,x4,hf,h2,h3,h4,hL,hQ,sM,ml=>by
  have lp:pre.length < 200:=by rw[hf]at hl;simp at hl;lia
  have ro:pX r:=s.ok r (by rw[hf];simp);have cH:=Wu (K:=K) (C:=C) (aD 0 pre) L Q pre.length r ro (5 * pre.length) (by lia) hL hQ sM;obtain⟨hle,Fh,Xs⟩:=Wv (K:=K) (C:=C) s hf hl L Q (5 * pre.length) hL hQ (by lia) ml;have e1:gz 2 (dD (λd Z=>some (aR 2 (B.ro d) Z)) (dD (λd Z=>some (aR 3 (B.ro d) Z)) λds Z=>match ds with | []=>some Z | x=>none)) (.nd .tup [.sc (.int (pre.length:Nat)),av .lst r]) (jj S (bt C (aD 0 pre) L Q) x2 x3 x4)=some (jj S (bt C (aD 0 pre) L Q) (some (.ro (iD (pre.length:Nat)))) (some (.ro (av .lst r))) x4):=by
   generalize bt C (aD 0 pre) L Q=M;generalize av .lst r=R;simp[jj,iD,bg h2,bg h3,bg h4,aR,dD,gz,el,ig,eC]
  rw[eO,jB,de,e1,bo,aK (Wx S _ _ _ x4 h4 cH) rfl];unfold run;cases hx:jN (aD 0 pre) L Q pre.length r with
  |cons i is=>
   have t:(ae 4 (jj S (bt C (aD 0 pre) L Q) (some (.ro (iD (pre.length:Nat)))) (some (.ro (av .lst r))) (some (.own (.nd .lst ((i::is).map iD)))))).bind xc=some true:=rfl;refine⟨jj S (bt C (aD 0 pre) L Q) (some (.ro (iD (pre.length:Nat)))) (some (.ro (av .lst r))) (some (.own (.nd .lst ((i::is).map iD)))), ?_⟩;have w:cu (fQ (bU (λZ=>aY (λd=>(d,Z)) ((au (ae 4) (λx=>some []) Z).bind uL)) (bU (fK 2) λZ=>some ([],Z)))) (jj S (bt C (aD 0 pre) L Q) (some (.ro (iD (pre.length:Nat)))) (some (.ro (av .lst r))) (some (.own (.nd .lst ((i::is).map iD)))))=some (.rt (pairD (some (je i is,(pre.length:Int)))) (jj S (bt C (aD 0 pre) L Q) (some (.ro (iD (pre.length:Nat)))) (some (.ro (av .lst r))) (some (.own (.nd .lst ((i::is).map iD)))))):=by
    generalize bt C (aD 0 pre) L Q=M;generalize av .lst r=R;have m:uL [.nd .lst ((i::is).map iD)]=some (iD (je i is)):=by
     show(qY ((i::is).map iD)).bind MY=_;rw[ints_of];rfl
    generalize j4:jj S M (some (.ro (iD (pre.length:Nat)))) (some (.ro R)) (some (.own (.nd .lst ((i::is).map iD))))=Z;have a1:(au (ae 4) (λx=>some []) Z).bind uL=some (iD (je i is)):=by subst j4;exact m
    have a2:fK 2 Z=some (iD (pre.length:Nat),Z):=by subst j4;rfl
    simp[cu,fQ,bU,a1,a2,pairD,tp,iC]
   rw[iG (((bR t).trans (if_pos rfl)).trans w)];rfl
  |nil=>
   have t:(ae 4 (jj S (bt C (aD 0 pre) L Q) (some (.ro (iD (pre.length:Nat)))) (some (.ro (av .lst r))) (some (.own (.nd .lst (([]:List Int).map iD)))))).bind xc=some false:=rfl;have d:=Wy S _ _ (av .lst r) pre.length (some (.own (.nd .lst (([]:List Int).map iD)))) ba hle;rw[aK ((bR t).trans (if_neg bh)) d,bo];have ih:=Mh s hl S jh (pre++ [r]) (qS pre.length r (aD 0 pre) L) (gU pre.length r Q) (some (.ro (iD (pre.length:Nat)))) (some (.ro (av .lst r))) (some (.own (.nd .lst (([]:List Int).map iD)))) (by rw[hf];simp) bX bX ba (by rw[b6];exact Xs) (by rw[b6];exact(Ws hQ).mono (by simp;lia)) ?_ Fh
   ·rw[b6]at ih;rw[<- sO];exact ih
   ·intro b x hx;unfold gU at hx;cases hs:dm r with
    |none=>rw[hs]at hx;exact sM b x hx
    |some y=>
     obtain⟨f,v,c⟩:=y;rw[hs]at hx;rcases(AV _ _ _ _ _).mp hx with z | ⟨_,rfl⟩
     ·exact sM b x z
     ·exact A0 ro hs
theorem Xt:(aE "least"=aE "asks")=False:=BF
theorem Xu:(aE "contents"=aE "asks")=False:=BF
theorem Xv:(aE "contents"=aE "least")=False:=BF
theorem Xw(hn:∀f∈mh,jo K C f):xr K C [.nd (.obj C []) []]=some (.sc .az, [bt C [] [] []]):=by
 have h:jo K C "asks"/\jo K C "least"/\jo K C "contents":=by simpa[mh]using hn
 obtain⟨h1,h2,h3⟩:=h;simp[xr,Ez,h1,h2,h3,bt,mh,bP,j3,Xt,Xu,Xv,jM,gF,gE,nV,Ji,C6,aJ,b8,gw,cJ,kq,aC,kG,gA,jv,aP,bO,bf,fC]
theorem Xx(hn:∀f∈mh,jo K C f){rs:List Row}(s:gX rs)(hl:rs.length < 200):xt K C [.nd .lst (rs.map (av .lst))]=some (pairD (kO rs)):=by
 obtain⟨ρ',e⟩:=Mh (K:=K) (C:=C) s hl (.nd .lst (rs.map (av .lst))) rs [] [] [] none none none rfl aO aO aO ⟨bT _,λf as h=>by cases h⟩ ⟨bT _,λf as h=>by cases h⟩ (λb x hx=>by cases hx) yb;have m:DD (xr K C) C 0 (λx=>some []) [some (.ro (.nd .lst (rs.map (av .lst)))),none,none,none,none]=some (bt C [] [] []):=by
  have:=Xw (K:=K) (C:=C) hn;unfold DD;rw[bo,if_pos (show([]:List D).length=0 from rfl),this];rfl
 rw[show aD 0 []= [] from rfl,show((([]:List Row).length:Nat):Int)=0 from rfl,Wh s]at e;unfold xt EB;dsimp only;generalize kO rs=X at *;cases X with
 |none=>exact jY (aK (eX (fM m) rfl) (aK (aj.mpr ⟨_,rfl,e⟩) rfl))
 |some p=>exact jY (aK (eX (fM m) rfl) (iG (aj.mpr ⟨_,rfl,e⟩)))
variable {K:ak}{C:Addr}[dz K C]
theorem Xy(r:Row):VL.plain (av .aA r)=true:=by
 cases r with
 |eE=>rfl
 |ask h n q=>simp[av,tp,VL.plain,bq,iD,sD,pW]
 |told h n a=>
  cases a with
  |joined ps=>simp[av,cx,tp,VL.plain,bq,iD,sD,Mc]
  |_=>rfl
theorem Xz(rs:List Row):bq (rs.map (av .aA))=true:=nQ λd hd=>by
 obtain⟨x,_,rfl⟩:=jK.mp hd;exact Xy x
theorem Mi(x:Option (Int×Int)):Ex 2 (pairD x):=by
 cases x with
 |none=>exact .az _
 |some p=>
  refine .tup 1 _ λd hd=> ?_;simp only[bx,dw,or_false]at hd;rcases hd with rfl | rfl <;> exact .int _ _
theorem XA{d:jD}(h:uZ d):Ex 3 (br d):=by
 cases d <;> refine .tup 2 _ λx hx=> ?_ <;> simp only[bx,dw,or_false]at hx <;> rcases hx with rfl | rfl | rfl | rfl <;> first | exact .int _ _ | exact .str _ _ (by decide +kernel) | exact .str _ _ h
theorem XB{q:bw}(h:mV q):Ex 5 (bj q):=by
 cases q with
 |join ds=>
  refine .tup 4 _ λx hx=> ?_;simp only[bx,dw,or_false]at hx;rcases hx with rfl | rfl
  ·exact .str _ _ (by decide +kernel)
  ·refine .tup 3 _ λx hx=> ?_;obtain⟨d,hd,rfl⟩:=jK.mp hx;exact XA (h.2 d hd)
 |di f v c=>
  refine .tup 4 _ λx hx=> ?_;simp only[bx,dw,or_false]at hx;rcases hx with rfl | rfl | rfl | rfl <;> first | exact .int _ _ | exact .str _ _ (by decide +kernel) | exact .str _ _ h
 |_=>
  refine .tup 4 _ λx hx=> ?_;simp only[bx,dw,or_false]at hx
  (first | (rcases hx with rfl | rfl) | (subst hx)) <;> first | exact .int _ _ | exact .str _ _ (by decide +kernel)
theorem XC(p:jP):Ex 3 (cB p):=by
 cases p <;> refine .tup 2 _ λx hx=> ?_ <;> simp only[bx,dw,or_false]at hx <;> (first | (rcases hx with rfl | rfl | rfl) | (rcases hx with rfl | rfl)) <;> first | exact .int _ _ | exact .str _ _ (by decide +kernel)
theorem XD{a:mf}(h:xB a):Ex 5 (cx .lst a):=by
 cases a with
 |joined ps=>
  refine .tup 4 _ λx hx=> ?_;simp only[bx,dw,or_false]at hx;rcases hx with rfl | rfl
  ·exact .str _ _ (by decide +kernel)
  ·refine .lst 3 _ λx hx=> ?_;obtain⟨d,hd,rfl⟩:=jK.mp hx;exact XC d
 |folder=>
  refine .tup 4 _ λx hx=> ?_;simp only[bx,dw,or_false]at hx;rcases hx with rfl | rfl | rfl
  ·exact .str _ _ (by decide +kernel)
  ·exact .int _ _
  ·refine .lst 3 _ λx hx=> ?_;simp only[bx,dw,or_false]at hx;rcases hx with rfl | rfl <;> exact .str _ _ (by decide +kernel)
 |_=>
  refine .tup 4 _ λx hx=> ?_;simp only[bx,dw,or_false]at hx
  (first | (rcases hx with rfl | rfl | rfl | rfl | rfl) | (rcases hx with rfl | rfl | rfl) | (rcases hx with rfl | rfl) | (subst hx)) <;> first | exact .int _ _ | exact .str _ _ (by decide +kernel) | exact .str _ _ h
theorem XE{r:Row}(h:pX r):Ex 6 (av .lst r):=by
 cases r <;> refine .tup 5 _ λx hx=> ?_ <;> simp only[bx,dw,or_false]at hx <;> (first | (rcases hx with rfl | rfl | rfl | rfl | rfl) | (rcases hx with rfl | rfl | rfl | rfl)) <;> first | exact .int _ _ | exact .str _ _ (by decide +kernel) | exact .str _ _ h | exact XB h | exact XD h
theorem XF(a:mf):bH (cx .aA a)=bH (cx .lst a):=by
 cases a with
 |joined ps=>simp only[cx,tp,bH,hJ]
 |folder=>simp only[cx,tp,bH,hJ]
 |_=>rfl
theorem XG(r:Row):bH (av .aA r)=bH (av .lst r):=by
 cases r with
 |told h n a=>
  have:=XF a;simp only[av,tp,bH,hJ,this]
 |_=>rfl
theorem Mj:∀rs:List Row,hJ (rs.map (av .aA))=hJ (rs.map (av .lst))
 | []=>rfl
 |r::rs=>by rw[eO,eO,hJ,hJ,XG r,Mj rs]
theorem XH(k:Kd)(hk:k= .lst\/k= .aA)(rs:List Row)(h:∀r∈rs,pX r):aF (λx=> !x) (.nd .lst (rs.map (av .lst))) (.nd k (rs.map (av .aA)))=some (.sc (.bl false)):=by
 have e:bH (.nd k (rs.map (av .aA)))=bH (.nd .lst (rs.map (av .lst))):=by
  rcases hk with rfl | rfl <;> rw[bH,bH,Mj]
 have ex:Ex 7 (.nd .lst (rs.map (av .lst))):= .lst 6 _ λd hd=>by
  obtain⟨r,hr,rfl⟩:=jK.mp hd;exact XE (h r hr)
 have q:=Ff ex ex (by decide) (by decide) True ⟨λ_=>trivial,λ_=>rfl⟩ (λx=> !x);unfold aF at q |-;rw[e];exact q
def xM(K:ak)(C:Addr)[dz K C]:En->Option Fl:=bO (dP 11 λZ=>aY (λd=>(d,Z)) ((au (ae 9) (λx=>some []) Z).bind λds=>if ds.length=1 then xt K C ds else none))
 (cP (λZ=>aY (λb=>(b,Z)) (gL (λZ=>(ag (aF λx=> !x) (ae 11) (ae 10) Z).bind λx=>match x with | D.sc (V.bl b)=>some b | x=>none)
   (gL (d3 (λZ=>(ag (eg λx=> !x) (ae 10) (λx=>some (D.sc V.az)) Z).bind λx=>match x with | D.sc (V.bl b)=>some b | x=>none)
     λZ=>aY (λx=> !x) (((au (ae 11) (au (λx=>some (D.sc (V.ty "tuple"))) λx=>some []) Z).bind (qE "tuple")).bind λx=>match x with | D.sc (V.bl b)=>some b | x=>none))
    λZ=>(ag (aF λx=> !x) (ae 9) (ae 8) Z).bind λx=>match x with | D.sc (V.bl b)=>some b | x=>none) Z))
  (cu λZ=>aY (λd=>(d,Z)) (some (D.sc (V.bl false)))) λZ=>some (Fl.nx Z))
theorem XI(hn:∀f∈mh,jo K C f)(k:Kd)(hk:k= .lst\/k= .aA){rs:List Row}(s:gX rs)(hl:rs.length < 200)(cs:List Int)(c:Int)(H W T:D){x5 x6 x7 x11:Option B}(n5:NA x5)(n6:NA x6)(n7:NA x7)(jk:NA x11):
  xM K C (cN cs c H W T x5 x6 x7 (some (.ro (bN k rs))) (some (.own (.nd .lst (rs.map (av .lst))))) (some (.own (pairD (kO rs)))) x11)=some (.nx (cN cs c H W T x5 x6 x7 (some (.ro (bN k rs))) (some (.own (.nd .lst (rs.map (av .lst))))) (some (.own (pairD (kO rs)))) (some (.own (pairD (kO rs)))))):=by
 have e:=Xx (K:=K) (C:=C) hn s hl;have ne:=XH k hk rs s.ok;generalize kO rs=X at *;have s1:(dP 11 λZ=>aY (λd=>(d,Z)) ((au (ae 9) (λx=>some []) Z).bind λds=>if ds.length=1 then xt K C ds else none)) (cN cs c H W T x5 x6 x7 (some (.ro (bN k rs))) (some (.own (.nd .lst (rs.map (av .lst))))) (some (.own (pairD X))) x11)=some (.nx (cN cs c H W T x5 x6 x7 (some (.ro (bN k rs))) (some (.own (.nd .lst (rs.map (av .lst))))) (some (.own (pairD X))) (some (.own (pairD X))))):=
  eX (fM (aj.mpr ⟨[.nd .lst (rs.map (av .lst))],rfl,(if_pos rfl).trans e⟩)) (sW n5 n6 n7 bX ba ba jk)
 have q1:aF (λx=> !x) (pairD X) (pairD X)=some (.sc (.bl false)):=Ff (Mi X) (Mi X) (by decide) (by decide) True ⟨λ_=>trivial,λ_=>rfl⟩ (λx=> !x);have t1:=tB (f:=ag (aF λx=> !x) (ae 11) (ae 10)) (Z:=cN cs c H W T x5 x6 x7 (some (.ro (bN k rs))) (some (.own (.nd .lst (rs.map (av .lst))))) (some (.own (pairD X))) (some (.own (pairD X)))) (b9 (a:=pairD X) (b:=pairD X) rfl rfl q1);have t2:=tB (f:=ag (eg λx=> !x) (ae 10) (λx=>some (D.sc V.az))) (Z:=cN cs c H W T x5 x6 x7 (some (.ro (bN k rs))) (some (.own (.nd .lst (rs.map (av .lst))))) (some (.own (pairD X))) (some (.own (pairD X)))) (b:=decide (X≠none)) (b9 (a:=pairD X) rfl rfl (by cases X <;> rfl));have t3:decide (X≠none)=true->aY (λx=> !x) (((au (ae 11) (au (λx=>some (D.sc (V.ty "tuple"))) λx=>some []) (cN cs c H W T x5 x6 x7 (some (.ro (bN k rs))) (some (.own (.nd .lst (rs.map (av .lst))))) (some (.own (pairD X))) (some (.own (pairD X))))).bind (qE "tuple")).bind λx=>match x with | D.sc (V.bl b)=>some b | x=>none)=some false:=λz=>by
  cases X with
  |none=>cases z
  |some p=>rfl
 have t4:=tB (f:=ag (aF λx=> !x) (ae 9) (ae 8)) (Z:=cN cs c H W T x5 x6 x7 (some (.ro (bN k rs))) (some (.own (.nd .lst (rs.map (av .lst))))) (some (.own (pairD X))) (some (.own (pairD X)))) (b9 (a:= .nd .lst (rs.map (av .lst))) (b:=bN k rs) rfl rfl ne);have t:gL (λZ=>(ag (aF λx=> !x) (ae 11) (ae 10) Z).bind λx=>match x with | D.sc (V.bl b)=>some b | x=>none)
   (gL (d3 (λZ=>(ag (eg λx=> !x) (ae 10) (λx=>some (D.sc V.az)) Z).bind λx=>match x with | D.sc (V.bl b)=>some b | x=>none)
     λZ=>aY (λx=> !x) (((au (ae 11) (au (λx=>some (D.sc (V.ty "tuple"))) λx=>some []) Z).bind (qE "tuple")).bind λx=>match x with | D.sc (V.bl b)=>some b | x=>none))
    λZ=>(ag (aF λx=> !x) (ae 9) (ae 8) Z).bind λx=>match x with | D.sc (V.bl b)=>some b | x=>none) (cN cs c H W T x5 x6 x7 (some (.ro (bN k rs))) (some (.own (.nd .lst (rs.map (av .lst))))) (some (.own (pairD X))) (some (.own (pairD X))))=some false:=by
  have a:d3 (λZ=>(ag (eg λx=> !x) (ae 10) (λx=>some (D.sc V.az)) Z).bind λx=>match x with | D.sc (V.bl b)=>some b | x=>none)
     (λZ=>aY (λx=> !x) (((au (ae 11) (au (λx=>some (D.sc (V.ty "tuple"))) λx=>some []) Z).bind (qE "tuple")).bind λx=>match x with | D.sc (V.bl b)=>some b | x=>none)) (cN cs c H W T x5 x6 x7 (some (.ro (bN k rs))) (some (.own (.nd .lst (rs.map (av .lst))))) (some (.own (pairD X))) (some (.own (pairD X))))=some false:=by
   have:=A1 t2 t3 (f:=λZ=>(ag (eg λx=> !x) (ae 10) (λx=>some (D.sc V.az)) Z).bind λx=>match x with | D.sc (V.bl b)=>some b | x=>none) (g:=λZ=>aY (λx=> !x) (((au (ae 11) (au (λx=>some (D.sc (V.ty "tuple"))) λx=>some []) Z).bind (qE "tuple")).bind λx=>match x with | D.sc (V.bl b)=>some b | x=>none));rw[Zp]at this;exact this
  exact xE (b:=false) (c:=false) t1 λ_=>xE (b:=false) (c:=false) a λ_=>t4
 unfold xM;exact aK s1 ((bR t).trans (if_neg bh))
theorem XJ(hn:∀f∈mh,jo K C f)(k:Kd)(hk:k= .lst\/k= .aA){rs:List Row}(s:gX rs)(hl:rs.length < 200)(cs:List Int)(c:Int)(H W T:D){x5 x6 x7 x9 x10 x11:Option B}(n5:NA x5)(n6:NA x6)(n7:NA x7)(n9:NA x9)(ox:NA x10)(jk:NA x11):
  ∃y7 y9 iA dA,NA y7/\NA y9/\NA iA/\NA dA/\bO (dP 9 λZ=>aY (λd=>(d,Z)) ((au (ae 8) (λx=>some []) Z).bind λds=>if ds.length=1 then uQ K C ds else none))
   (bO (dP 10 λZ=>aY (λd=>(d,Z)) ((au (ae 8) (λx=>some []) Z).bind λds=>if ds.length=1 then uS K C ds else none))
    λZ=>((au (λx=>some (D.sc (V.int 2))) (λx=>some []) Z).bind kH).bind λds=>de (λd Z=>some (aR 7 (B.ro d) Z)) (xM K C) ds Z)
   (cN cs c H W T x5 x6 x7 (some (.ro (bN k rs))) x9 x10 x11)=some (.nx (cN cs c H W T x5 x6 y7 (some (.ro (bN k rs))) y9 iA dA)):=by
 have e1:=Wd (K:=K) (C:=C) k hk rs (by lia) s.ok;have e2:=WK (K:=K) (C:=C) k hk s hl;have s1:(dP 9 λZ=>aY (λd=>(d,Z)) ((au (ae 8) (λx=>some []) Z).bind λds=>if ds.length=1 then uQ K C ds else none)) (cN cs c H W T x5 x6 x7 (some (.ro (bN k rs))) x9 x10 x11)=some (.nx (cN cs c H W T x5 x6 x7 (some (.ro (bN k rs))) (some (.own (.nd .lst (rs.map (av .lst))))) x10 x11)):=
  eX (fM (aj.mpr ⟨[bN k rs],rfl,(if_pos rfl).trans e1⟩)) (sW n5 n6 n7 bX n9 ox jk)
 have s2:(dP 10 λZ=>aY (λd=>(d,Z)) ((au (ae 8) (λx=>some []) Z).bind λds=>if ds.length=1 then uS K C ds else none)) (cN cs c H W T x5 x6 x7 (some (.ro (bN k rs))) (some (.own (.nd .lst (rs.map (av .lst))))) x10 x11)=some (.nx (cN cs c H W T x5 x6 x7 (some (.ro (bN k rs))) (some (.own (.nd .lst (rs.map (av .lst))))) (some (.own (pairD (kO rs)))) x11)):=
  eX (fM (aj.mpr ⟨[bN k rs],rfl,(if_pos rfl).trans e2⟩)) (sW n5 n6 n7 bX ba ox jk)
 obtain⟨ρ',e3,y7,dA,m7,m5,rfl⟩:=sS (fg:=λd Z=>some (aR 7 (B.ro d) Z)) (fb:=xM K C) 2 (λi:Nat=>iD (i:Nat)) (λ_ Z=>∃y7 dA,NA y7/\NA dA/\Z=cN cs c H W T x5 x6 y7 (some (.ro (bN k rs))) (some (.own (.nd .lst (rs.map (av .lst))))) (some (.own (pairD (kO rs)))) dA)
  (jm 2) (λi _ j Z _ ⟨y7,dA,m7,m5,e⟩=>by
   subst e;exact⟨_,_,congrArg some (sW (i:=7) (β:= .ro (iD (i:Nat))) n5 n6 m7 bX ba ba m5),XI hn k hk s hl cs c H W T (x5:=x5) (x6:=x6) (x7:=some (.ro (iD (i:Nat)))) (x11:=dA) n5 n6 bX m5,_,_,bX,ba,rfl⟩)
  0 (cN cs c H W T x5 x6 x7 (some (.ro (bN k rs))) (some (.own (.nd .lst (rs.map (av .lst))))) (some (.own (pairD (kO rs)))) x11) ⟨x7,x11,n7,jk,rfl⟩ (by simp)
 have hr:kH [.sc (.int 2)]=some ((jm 2).map λi:Nat=>iD (i:Nat)):=A2 2 (by decide);refine⟨y7,_,_,dA,m7,ba,ba,m5,aK s1 (aK s2 (aj.mpr ⟨_,aj.mpr ⟨[.sc (.int 2)],rfl,hr⟩,e3⟩))⟩
theorem kR:gJ ["_law_script","_law_left_here","_law_hands","_law_state","_law_story","_law_k","_law_cell","_law_turn","_law_some","_law_handed","_law_due","_law_found"] ["_law_script"] (dZ uO):=iR
section
variable (P:Program)(w:World)(K:ak)(mg:Str->Option Value)(base:Heap)(C_Known:Addr)[dz K C_Known]
def FA: {g:oG K C_Known // ∀{P w mg base f fd},gr K "law" "law" uO f fd->gm mg->UI P w K mg base C_Known->UJ P w K mg base C_Known->uP P w K mg base C_Known->UW P w K mg base C_Known->UK P w K mg base C_Known->UM P w K mg base C_Known->UR P w K mg base C_Known->dO P w K mg base eR 8 f fd ["_law_script"] (fW K 1 (b7 12 g))}:=⟨_,λF T Bb FC dE FD uR FE FF=>og F kR λ_ _ _ _ _ _ hr=>(aZ (dt 1 kR.nd (cm Bb hr rfl (aS (cm FC hr rfl (aS (pv 0) ay)) ay)))
  (aZ (dt 2 kR.nd (d6 jd (d6 jd ay (cm dE hr rfl (aS (pv 1) ay))) (d6 qf ay (vQ (r:=wV) Du rfl T.Eo NZ (fD (uG (eK hr.units) (cm dE hr rfl (aS (pv 1) ay)) ay))))))
  (@aZ _ _ _ _ _ (@Uw _ 3 _ _ _ _ _ _ _ kR.nd rfl (tJ rfl) (yL aW HY (yL aW yJ (yL aW (d6 HG (fH (fD ay)) (pv 2)) (yL aW (d6 HG (fH (fD jn)) (pv 2)) QD)))) rfl rfl rfl rfl rfl (tJ rfl))
  (aZ (t9 (i4 hr) (pv 3) aW (d6 jd (d6 jd ay (cm dE hr rfl (aS (pv 1) ay))) (d6 qf ay (vQ (r:=wV) Du rfl T.Eo NZ (fD (uG (eK hr.units) (cm dE hr rfl (aS (pv 1) ay)) ay))))) rfl)
  (aZ (t9 (i4 hr) (pv 3) aW (pxx hr (fH (bS ay (bS ay (bS ay (aS ay ay))))) (cm dE hr rfl (aS (pv 1) ay))) rfl)
  (aZ (dt 4 kR.nd (fH g8))
  (aZ (ke kX rfl (Ax rfl T.Az (fD (o4 (r:=kJ K) pJ (pv 0) (kj ay) (kj ay)))) (lZ (K:=K) rfl (n:=2) rfl (gD (eS 5 kR.nd) (gD (eS 6 kR.nd) lM)))
   (aZ (dt 1 kR.nd (cm Bb hr rfl (aS (pv 6) (d6 jd (pv 5) ay))))
  (fj (ke kX rfl (vI rfl T.xj (fD (d6 jd ay (cm dE hr rfl (aS (pv 1) ay))))) (eS 7 kR.nd)
   (fj (oU (qZ (pv 4) (cm FD hr rfl (aS (pv 1) (pv 3))))))))))
  (aZ (Us 4 (ke kX rfl (qI (fH (bS (pv 4) (aS (o4 (r:=kJ K) pJ (pv 4) Cg (kj (d6 Ie (pln T.Em (pv 4)) ay))) (o4 (r:=kJ K) pJ (pv 4) Cg (kj ay)))))) (eS 8 kR.nd)
   (aZ (dt 9 kR.nd (cm uR hr rfl (fD (pv 8))))
  (aZ (dt 10 kR.nd (cm FE hr rfl (fD (pv 8))))
  (fj (ke kX rfl (vI rfl T.xj (fD ay)) (eS 7 kR.nd)
   (aZ (dt 11 kR.nd (cm FF hr rfl (fD (pv 9))))
  (fj (dY (PW.pt (yh (cQ (one hr.units) (pv 11) (pv 10)) (yh (PW.pt (kY (cQ Ds (pv 10) jn) (oS (OC (yf (oY (r:=zu K "tuple") Dk rfl T.Ep NY (aS (pv 11) (BQ (v:= .ty "tuple") rfl T.Ay Gk rfl)))))))) (BS (cQ (one hr.units) (pv 9) (pv 8))))))
   (dI GH) d4)))))))))
  (dI GH)))))))))⟩
def Ml:List D->Option D:=b7 12 (FA K C_Known).1
end
variable {K:ak}{C:Addr}[dz K C]
theorem Mm{fv:En->Option (D×En)}{fp:En->Option Pl}{fy:En->Option D}{Z ρ1 ρ':En}{d y d0 d':D}{r:Nat}{p:List Nat}{kk:Kd}{cs:List D}(h1:fv Z=some (d,ρ1))(h2:fp ρ1=some (.rt r p))(h3:fy ρ1=some y)(h4:gw ρ1 r p=some (d0,kk,cs))(h5:qF kk cs y d=some d')(e:gE ρ1 r d0 p d'=ρ'):xa fv fp fy Z=some (.nx ρ'):=by
 unfold xa;rw[h1,bo];dsimp only;rw[h2,bo];dsimp only;rw[h3,bo,h4,bo,h5,mD,e]
theorem Mn{C:Int->Int->Prop}{g:Int->Int->V}{i j:Int}(h:C i j):intD C g (iD i) (iD j)=some (.sc (g i j)):=by
 unfold intD;exact if_pos h
theorem XM{f:En->Option (List D×List D)}{Z:En}{kd vd:List D}{ks:List bB}(h:f Z=some (kd,vd))(h1:qW kd=some ks)(h2:ks.Nodup)(h3:ks.length=vd.length)(h4:ks.length<=15):Ae f Z=some (.nd (.cy ks) vd):=by
 unfold Ae;rw[h,bo];dsimp only;rw[h1,bo];exact if_pos ⟨h2,h3,h4⟩
theorem Mo{ks:List bB}{cs:List D}{y d:D}{key:bB}(h1:cv y=some key)(h2:cs.length < aN)(h3:ks.Nodup)(h4:cX key ks=none):qF (.cy ks) cs y d=some (.nd (.cy (ks++ [key])) (cs++ [d])):=by
 unfold qF;dsimp only;rw[h1,bo,if_pos ⟨h2,h3⟩,h4]
theorem Bc{fk fv:En->Option D}{fr:En->Option (List D×List D)}{Z:En}{k v:D}{r:List D×List D}(h1:fk Z=some k)(h2:fv Z=some v)(h3:fr Z=some r):sk fk fv fr Z=some (k::r.1,v::r.2):=by
 unfold sk;rw[h1,bo,h2,bo,h3];rfl
theorem Mp(d:D)(hd:VL.plain d=true)(m:Int)(h0:0<=m)(h1:m < 1000):sE (.nd .lst [d]) (iD m)=some (.nd .lst (bK m.toNat d)):=by
 show(if VL.plain d=true/\0<=m/\m < 1000 then _ else _)=_;rw[if_pos ⟨hd,h0,h1⟩]
theorem Mq(m:Int)(hm:0 < m)(h3:m < 100){Z:En}{c:Int}(al:Al Z)(XN:∀c',Al (Z.set 1 (some (.own (.nd .lst [iD c'])))))(hp:aC 1 Z=some (.rt 1 []))(hr:aP Z 1=some (.nd .lst [iD c]))(vX:∀c',aC 1 (Z.set 1 (some (.own (.nd .lst [iD c']))))=some (.rt 1 []))(XO:∀c',aP (Z.set 1 (some (.own (.nd .lst [iD c'])))) 1=some (.nd .lst [iD c'])):
  ∃v c',0 < v/\v < m + 8/\i9 jx (i9 jx (λZ=>aY (λd=>(d,Z)) (some (D.sc (V.int 1)))) (dQ (gG K C) (cG (aC 1) (fX (λx=>some (D.sc (V.int m))) λx=>some []))))
   (i9 (intD rF λi j=>V.int (i * j)) (λZ=>aY (λd=>(d,Z)) (some (D.sc (V.int 6)))) (zw Dv (bU (i9 (aF id) (dQ (gG K C) (cG (aC 1) (fX (λx=>some (D.sc (V.int 8))) λx=>some []))) λZ=>aY (λd=>(d,Z)) (some (D.sc (V.int 0)))) λZ=>some ([],Z)))) Z=some (iD v,Z.set 1 (some (.own (.nd .lst [iD c'])))):=by
 have k1:=kx (K:=K) (C:=C) (fr:=fX (λx=>some (D.sc (V.int m))) λx=>some []) al hp hr (m:=m) rfl hm (by lia);have k2:=kx (K:=K) (C:=C) (fr:=fX (λx=>some (D.sc (V.int 8))) λx=>some []) (XN (c / m)) (vX _) (XO _) (m:=8) rfl (by decide) (by decide);rw[tL]at k2;have hz:=oz (c:=c) (m:=m) hm;have mul:∀b:Int,intD rF (λi j=>V.int (i * j)) (iD 6) (iD b)=some (iD (6 * b)):=λb=>Mn (.inl ⟨by decide,by decide⟩);cases hb:decide (c / m % 8=0) with
 |true=>
  have q:=ou (c / m % 8) 0;rw[hb]at q;exact⟨1 + c % m + 6 * 1,_,by lia,by lia,gg (gg (a:=iD 1) rfl k1 rfl) (gg (a:=iD 6) rfl (Fn (bZ (gg k2 (b:=iD 0) rfl q) (fr:=λZ=>some ([],Z)) rfl) (d:=iD 1) rfl) (mul 1)) rfl⟩
 |false=>
  have q:=ou (c / m % 8) 0;rw[hb]at q;exact⟨1 + c % m + 6 * 0,_,by lia,by lia,gg (gg (a:=iD 1) rfl k1 rfl) (gg (a:=iD 6) rfl (Fn (bZ (gg k2 (b:=iD 0) rfl q) (fr:=λZ=>some ([],Z)) rfl) (d:=iD 0) rfl) (mul 0)) rfl⟩
theorem XQ(c:Int):∃o,0 < o/\o < 2000/\gT ah aq (.nd .lst [iD 2,iD 5,iD 12,iD 40,iD 1000]) (iD (c % 5))=some (iD o):=by
 have:=oz (c:=c) (m:=5) (by decide);have z:c % 5=0\/c % 5=1\/c % 5=2\/c % 5=3\/c % 5=4:=by lia
 rcases z with z | z | z | z | z <;> rw[z]
 ·exact⟨2,by decide,by decide,rfl⟩
 ·exact⟨5,by decide,by decide,rfl⟩
 ·exact⟨12,by decide,by decide,rfl⟩
 ·exact⟨40,by decide,by decide,rfl⟩
 ·exact⟨1000,by decide,by decide,rfl⟩
noncomputable def ng:List bB:= [.inr "now", .inr "contents", .inr "counts", .inr "asked"]
theorem XR(cs:List Int)(qj:cs.length<=63)(hn:∀f∈mh,jo K C f):Ml K C [iQ cs]=some (tD true):=by
 obtain⟨c0,e0⟩:=WT (K:=K) (C:=C) cs 0;obtain⟨c1,e1⟩:=L5 (K:=K) (C:=C) c0 0 (by decide);have s1:(dP 1 λZ=>aY (λd=>(d,Z)) ((au (λZ=>(au (ae 0) (au (λx=>some (D.sc (V.int 0))) λx=>some []) Z).bind λds=>if ds.length=2 then xp K C ds else none) (au (λx=>some (D.sc (V.int 0))) λx=>some []) Z).bind λds=>if ds.length=2 then pP K C ds else none)) [some (.ro (iQ cs)),none,none,none,none,none,none,none,none,none,none,none]=some (.nx [some (.ro (iQ cs)),some (.own (.nd .lst [iD c1])),none,none,none,none,none,none,none,none,none,none]):=
  eX (fM (aj.mpr ⟨[iD c0,iD 0],gO (aj.mpr ⟨[iQ cs,iD 0],rfl,(if_pos rfl).trans e0⟩) rfl,(if_pos rfl).trans e1⟩)) rfl
 obtain⟨H,c2,H1,H2,e2⟩:=Mq (K:=K) (C:=C) 4 (by decide) (by decide) (Z:= [some (.ro (iQ cs)),some (.own (.nd .lst [iD c1])),none,none,none,none,none,none,none,none,none,none]) (c:=c1) (ip rfl) (λ_=>ip rfl) rfl rfl (λ_=>rfl) (λ_=>rfl);have s2:=eX (i:=2) e2 (ρ':= [some (.ro (iQ cs)),some (.own (.nd .lst [iD c2])),some (.own (iD H)),none,none,none,none,none,none,none,none,none]) rfl;have r1:=Mp (iD 0) rfl H (by lia) (by lia);have r2:=Mp (.sc .az) rfl H (by lia) (by lia);have s3:(dP 3 λZ=>aY (λd=>(d,Z)) (Ae (sk (λx=>some (D.sc (V.str (aE "now")))) (λx=>some (D.nd (Kd.cy []) [])) (sk (λx=>some (D.sc (V.str (aE "contents")))) (λx=>some (D.nd (Kd.dk []) [])) (sk (λx=>some (D.sc (V.str (aE "counts")))) (ag sE (bu Kd.lst (au (λx=>some (D.sc (V.int 0))) λx=>some [])) (ae 2)) (sk (λx=>some (D.sc (V.str (aE "asked")))) (ag sE (bu Kd.lst (au (λx=>some (D.sc V.az)) λx=>some [])) (ae 2)) λx=>some ([], []))))) Z)) [some (.ro (iQ cs)),some (.own (.nd .lst [iD c2])),some (.own (iD H)),none,none,none,none,none,none,none,none,none]
   =some (.nx [some (.ro (iQ cs)),some (.own (.nd .lst [iD c2])),some (.own (iD H)),some (.own (.nd (.cy ng) [.nd (.cy []) [], .nd (.dk []) [], .nd .lst (bK H.toNat (iD 0)), .nd .lst (bK H.toNat (.sc .az))])),none,none,none,none,none,none,none,none]):=by
  refine eX (fM ?_) rfl;have f:=Bc (fk:=λx=>some (D.sc (V.str (aE "now")))) (fv:=λx=>some (D.nd (Kd.cy []) [])) (Z:= [some (.ro (iQ cs)),some (.own (.nd .lst [iD c2])),some (.own (iD H)),none,none,none,none,none,none,none,none,none]) rfl rfl (Bc (fk:=λx=>some (D.sc (V.str (aE "contents")))) (fv:=λx=>some (D.nd (Kd.dk []) [])) rfl rfl (Bc (fk:=λx=>some (D.sc (V.str (aE "counts")))) (fv:=ag sE (bu Kd.lst (au (λx=>some (D.sc (V.int 0))) λx=>some [])) (ae 2)) rfl (b9 (gN (l:= [iD 0]) rfl (by simp)) (b:=iD H) rfl r1) (Bc (fk:=λx=>some (D.sc (V.str (aE "asked")))) (fv:=ag sE (bu Kd.lst (au (λx=>some (D.sc V.az)) λx=>some [])) (ae 2)) rfl (b9 (gN (l:= [.sc .az]) rfl (by simp)) (b:=iD H) rfl r2) (fr:=λx=>some ([], [])) rfl)));exact XM f (ks:=ng) rfl (by decide +kernel) rfl (by decide +kernel)
 obtain⟨F,c3,F1,F2,e4⟩:=Mq (K:=K) (C:=C) 3 (by decide) (by decide) (Z:= [some (.ro (iQ cs)),some (.own (.nd .lst [iD c2])),some (.own (iD H)),some (.own (.nd (.cy ng) [.nd (.cy []) [], .nd (.dk []) [], .nd .lst (bK H.toNat (iD 0)), .nd .lst (bK H.toNat (.sc .az))])),none,none,none,none,none,none,none,none]) (c:=c2) (ip rfl) (λ_=>ip rfl) rfl rfl (λ_=>rfl) (λ_=>rfl);have s4:=Mm (fp:=aC 3) (fy:=λx=>some (D.sc (V.str (aE "files")))) (y:=sD "files") e4 (r:=3) (p:= []) rfl rfl (d0:= .nd (.cy ng) [.nd (.cy []) [], .nd (.dk []) [], .nd .lst (bK H.toNat (iD 0)), .nd .lst (bK H.toNat (.sc .az))]) (kk:= .cy ng) (cs:= [.nd (.cy []) [], .nd (.dk []) [], .nd .lst (bK H.toNat (iD 0)), .nd .lst (bK H.toNat (.sc .az))]) rfl
  (d':= .nd (.cy (ng++ [.inr "files"])) [.nd (.cy []) [], .nd (.dk []) [], .nd .lst (bK H.toNat (iD 0)), .nd .lst (bK H.toNat (.sc .az)),iD F]) (Mo (key:= .inr "files") rfl (by show 4 < aN;decide) (by decide +kernel) (by decide +kernel))
  (ρ':= [some (.ro (iQ cs)),some (.own (.nd .lst [iD c3])),some (.own (iD H)),some (.own (.nd (.cy (ng++ [.inr "files"])) [.nd (.cy []) [], .nd (.dk []) [], .nd .lst (bK H.toNat (iD 0)), .nd .lst (bK H.toNat (.sc .az)),iD F])),none,none,none,none,none,none,none,none]) (by rw[mj (ip rfl)];rfl)
 have k5:=kx (K:=K) (C:=C) (fp:=aC 1) (fr:=fX (λx=>some (D.sc (V.int 5))) λx=>some []) (Z:= [some (.ro (iQ cs)),some (.own (.nd .lst [iD c3])),some (.own (iD H)),some (.own (.nd (.cy (ng++ [.inr "files"])) [.nd (.cy []) [], .nd (.dk []) [], .nd .lst (bK H.toNat (iD 0)), .nd .lst (bK H.toNat (.sc .az)),iD F])),none,none,none,none,none,none,none,none]) (ip rfl) (r:=1) (c:=c3) (m:=5) rfl rfl rfl (by decide) (by decide);obtain⟨o,o1,o2,e5⟩:=XQ c3;have hW:(⟨[], [],bK H.toNat 0,bK H.toNat none,F,o⟩:eF)=⟨[], [],bK H.toNat 0,bK H.toNat none,F,o⟩:=rfl;generalize FG:(⟨[], [],bK H.toNat 0,bK H.toNat none,F,o⟩:eF)=w0 at hW;have eW:wD w0= .nd (.cy (ng++ [.inr "files"]++ [.inr "odd"])) [.nd (.cy []) [], .nd (.dk []) [], .nd .lst (bK H.toNat (iD 0)), .nd .lst (bK H.toNat (.sc .az)),iD F,iD o]:=by
  rw[<- FG];show D.nd _ [_,_, .nd .lst ((bK H.toNat (0:Int)).map iD), .nd .lst ((bK H.toNat none).map dn),_,_]=_;rw[Zq,Zq];rfl
 have s5:=Mm (fv:=i9 (gT ah aq) (λZ=>aY (λd=>(d,Z)) (bu Kd.lst (au (λx=>some (D.sc (V.int 2))) (au (λx=>some (D.sc (V.int 5))) (au (λx=>some (D.sc (V.int 12))) (au (λx=>some (D.sc (V.int 40))) (au (λx=>some (D.sc (V.int 1000))) λx=>some []))))) Z)) (dQ (gG K C) (cG (aC 1) (fX (λx=>some (D.sc (V.int 5))) λx=>some [])))) (fp:=aC 3) (fy:=λx=>some (D.sc (V.str (aE "odd")))) (y:=sD "odd") (gg (fM (gN (l:= [iD 2,iD 5,iD 12,iD 40,iD 1000]) rfl (by simp))) k5 e5) (r:=3) (p:= []) rfl rfl (d0:= .nd (.cy (ng++ [.inr "files"])) [.nd (.cy []) [], .nd (.dk []) [], .nd .lst (bK H.toNat (iD 0)), .nd .lst (bK H.toNat (.sc .az)),iD F]) (kk:= .cy (ng++ [.inr "files"])) (cs:= [.nd (.cy []) [], .nd (.dk []) [], .nd .lst (bK H.toNat (iD 0)), .nd .lst (bK H.toNat (.sc .az)),iD F]) rfl
  (d':=wD w0) (by
   rw[eW];exact Mo (key:= .inr "odd") rfl (by show 5 < aN;decide) (by decide +kernel) (by decide +kernel))
  (ρ':= [some (.ro (iQ cs)),some (.own (.nd .lst [iD (c3 / 5)])),some (.own (iD H)),some (.own (wD w0)),none,none,none,none,none,none,none,none]) (by rw[mj (ip rfl),oq];rfl)
 have XS:eT 0 w0:=by
  rw[<- FG];refine⟨bT _,yb,bT _,yb,(λx hx=>by cases hx),by simp, ?_, ?_,F1, ?_,o1,o2⟩
  ·show 0 < (bK H.toNat (0:Int)).length;simp;lia
  ·show(bK H.toNat (0:Int)).length < 100;simp;lia
  ·show F < 100
   lia
 have R0:Rl w0 []:=by
  refine⟨⟨λi h n a e=> ?_,λi j h n q q' e=> ?_,λr hr=> ?_⟩,λh q n e1 _=> ?_,λj h n q e=> ?_⟩
  ·simp at e
  ·simp at e
  ·cases hr
  ·rw[<- FG]at e1;have:(bK H.toNat (none:Option bw))[h]?=some (some q):=e1;rw[Br]at this
   split at this
   ·cases this
   ·cases this
  ·simp at e
 obtain⟨rs,c',w',x5,x6,x7,n5,n6,n7,R,hl,e7⟩:=Xq (K:=K) (C:=C) cs (c3 / 5) (iD H) XS R0;have cH:=Xz rs;have st:=R.Ba;obtain⟨b1,XT⟩:=Mg rs (some ((rs.length:Int) / 2));obtain⟨b2,A9⟩:=Mg rs (some 1);obtain⟨ρ',e8,Mr,x8,x9,x10,x11,_,_,_,_,_,rfl⟩:=sS (fg:=λd Z=>some (aR 8 (B.ro d) Z)) (fb:=bO (dP 9 λZ=>aY (λd=>(d,Z)) ((au (ae 8) (λx=>some []) Z).bind λds=>if ds.length=1 then uQ K C ds else none))
   (bO (dP 10 λZ=>aY (λd=>(d,Z)) ((au (ae 8) (λx=>some []) Z).bind λds=>if ds.length=1 then uS K C ds else none))
    λZ=>((au (λx=>some (D.sc (V.int 2))) (λx=>some []) Z).bind kH).bind λds=>de (λd Z=>some (aR 7 (B.ro d) Z)) (xM K C) ds Z)) 3 (λx:Kd×List Row=>bN x.1 x.2) (λ_ Z=>∃y7 y8 y9 iA dA,NA y7/\NA y8/\NA y9/\NA iA/\NA dA/\Z=cN cs c' (iD H) (wD w') (bN .aA rs) x5 x6 y7 y8 y9 iA dA)
  [(.aA,rs),(.lst,rs.take b1),(.lst,rs.take b2)] (λx hx j Z _ ⟨y7,y8,y9,iA,dA,m7,m8,m9,A4,m5,e⟩=>by
   subst e;have FH:(x.1= .lst\/x.1= .aA)/\gX x.2/\x.2.length < 200:=by
    simp only[bx,dw,or_false]at hx;rcases hx with rfl | rfl | rfl
    ·exact⟨.inr rfl,st,by show rs.length < 200;lia⟩
    ·exact⟨.inl rfl,st.take b1,by show(rs.take b1).length < 200;simp;lia⟩
    ·exact⟨.inl rfl,st.take b2,by show(rs.take b2).length < 200;simp;lia⟩
   obtain⟨z7,z9,A3,u6,q7,q9,XU,XW,e2⟩:=XJ (K:=K) (C:=C) hn x.1 FH.1 FH.2.1 FH.2.2 cs c' (iD H) (wD w') (bN .aA rs) (x5:=x5) (x6:=x6) (x7:=y7) (x9:=y9) (x10:=iA) (x11:=dA) n5 n6 m7 m9 A4 m5;exact⟨_,_,congrArg some (sW (i:=8) (β:= .ro (bN x.1 x.2)) n5 n6 m7 m8 m9 A4 m5),e2,_,_,_,_,_,q7,bX,q9,XU,XW,rfl⟩)
  0 (cN cs c' (iD H) (wD w') (bN .aA rs) x5 x6 x7 none none none none) ⟨x7,none,none,none,none,n7,aO,aO,aO,aO,rfl⟩ (by simp)
 have hd:ae 4 (cN cs c' (iD H) (wD w') (bN .aA rs) x5 x6 x7 none none none none)=some (bN .aA rs):=rfl;have cut:∀(m:Int) (b:Nat),cutD rs none (some m)=rs.take b->jy (bN .aA rs) none (some m)=some (bN .lst (rs.take b)):=λm b h=>by
  show(if bq (rs.map (av .aA))=true then some (D.nd .lst (cutD (rs.map (av .aA)) none (some m))) else none)=_;rw[if_pos cH,Mf,h];rfl
 have a1:gB (ae 4) (cN cs c' (iD H) (wD w') (bN .aA rs) x5 x6 x7 none none none none)=some (bN .aA rs):=by
  show(if VL.plain (bN .aA rs)=true then _ else _)=_;rw[if_pos (show VL.plain (bN .aA rs)=true from cH)]
 have a2:iP (ae 4) (λx=>some none) (λZ=>(ag (intD yQ λi j=>V.int (i / j)) (λZ=>(au (ae 4) (λx=>some []) Z).bind qD) (λx=>some (D.sc (V.int 2))) Z).bind fE) (cN cs c' (iD H) (wD w') (bN .aA rs) x5 x6 x7 none none none none)=some (bN .lst (rs.take b1)):=by
  have l:ag (intD yQ λi j=>V.int (i / j)) (λZ=>(au (ae 4) (λx=>some []) Z).bind qD) (λx=>some (D.sc (V.int 2))) (cN cs c' (iD H) (wD w') (bN .aA rs) x5 x6 x7 none none none none)=some (iD ((rs.length:Int) / 2)):=by
   refine b9 (a:=iD (rs.length:Int)) (b:=iD 2) ?_ rfl ?_
   ·show some (D.sc (V.int (rs.map (av .aA)).length))=_;rw[eG]
   ·exact Mn ⟨by decide,by decide⟩
  unfold iP;rw[hd,bo,bo];dsimp only;rw[l,bo];exact cut _ b1 XT
 have a3:iP (ae 4) (λx=>some none) (λZ=>(some (D.sc (V.int 1))).bind fE) (cN cs c' (iD H) (wD w') (bN .aA rs) x5 x6 x7 none none none none)=some (bN .lst (rs.take b2)):=cut 1 b2 A9;unfold Ml FA;dsimp only;refine jY (d:= .sc (.bl true)) (ρ':=cN cs c' (iD H) (wD w') (bN .aA rs) x5 x6 Mr x8 x9 x10 x11) (aK s1 (aK s2 (aK s3 (aK s4 (aK s5 (aK (ρ':=cN cs (c3 / 5) (iD H) (wD w0) (bN .lst []) none none none none none none none) rfl (aK e7 (aK (ρ':=cN cs c' (iD H) (wD w') (bN .aA rs) x5 x6 Mr x8 x9 x10 x11) ?_ rfl))))))));show(if bq (rs.map (av .aA))=true then _ else _)=_;rw[if_pos cH];exact aj.mpr ⟨[bN .aA rs,bN .lst (rs.take b1),bN .lst (rs.take b2)],aj.mpr ⟨_,gN (gO a1 (gO a2 (gO a3 rfl))) (by simp),rfl⟩,e8⟩
def FI(K:ak):Sp:=λvs H Q _=>∃(a:Addr) (ns:List Int),vs= [.ref a]/\ib K H a (ns.map V.int)/\ns.length<=63/\∀H',Q (.bl true) H'
theorem XX{K:ak}{H:Hp}{a:Addr}{vs:List V}(hO:yE H)(hS:bW K H a vs):ib K H a vs:=by
 rcases hS with(e | ⟨o,e⟩) | h
 ·rcases hO a with z | ⟨o,xs,z⟩
  ·rw[z]at e;cases e
  ·rw[z]at e;cases e
 ·exact .inl ⟨o,e⟩
 ·exact .inr h
theorem XY{K:ak}{H:Hp}{a:Addr}{ns:List Int}(h:ib K H a (ns.map V.int)):cS K H T1 [.ref a] [iQ ns]:=by
 refine⟨rfl,λi v d hv hd=> ?_⟩;cases i with
 |succ i=>simp at hv
 |zero=>
  cases hv;cases hd;refine .nd (λz=>by cases z) ⟨trivial,h⟩ (by simp) λi v d hv hd=> ?_;rw[du]at hv hd;cases e:ns[i]? with
  |none=>rw[e]at hv;cases hv
  |some x=>
   rw[e]at hv hd;cases hv;cases hd;exact .sc _
theorem jO{P:Program}{w:World}{K:ak}{mg:Str->Option Value}{base h:Heap}{x:Str}{ps:List Str}{k:Nat}{sp:Sp}{st:Stmt}{f:Addr}{oc:Value}{od an:Option Addr}{nE:Array (Option Value)}{kV doc pm dJ ct:Value}(X:K.In h)(G:h.Ns kS mg)(a:W.nsIn K kS x=some (some (.ref f)))(l:K.lookup f=some ⟨oc,od, .func (oC x x (o6 st) (lQ st) (dZ st) .none kV doc pm an dJ ct),nE⟩)(c:Bs K dJ x=true)(kk:vo K (.ref f)=true)
  (o:dO P w K mg base eR k f (oC x x (o6 st) (lQ st) (dZ st) .none kV doc pm an dJ ct) ps sp) (hb:∀(kV doc pm:Value) (an:Option Addr) (dJ ct:Value) (us:List Value),us.length=ps.length->bindArgs (oC x x (o6 st) (lQ st) (dZ st) .none kV doc pm an dJ ct) ⟨us, []⟩=pure (ps.zip us)):gK P w K mg base x ps k sp:=gK.of (ir l c kk) ((ir l c kk).binds hb) (Gr X G a) o
theorem vb{P:List Value->Prop}(h:∀a,P [a]):∀us:List Value,us.length=1->P us
 | [a],_=>h a
theorem qV{P:List Value->Prop}(h:∀a b,P [a,b]):∀us:List Value,us.length=2->P us
 |a::r,e=>vb (P:=λr=>P (a::r)) (h a) r (eP e)
theorem vc{P:List Value->Prop}(h:∀a b c,P [a,b,c]):∀us:List Value,us.length=3->P us
 |a::r,e=>qV (P:=λr=>P (a::r)) (h a) r (eP e)
theorem Ms{P:List Value->Prop}(h:∀a b c d,P [a,b,c,d]):∀us:List Value,us.length=4->P us
 |a::r,e=>vc (P:=λr=>P (a::r)) (h a) r (eP e)
def nA(K:ak)(x:Str)(f:Addr):Prop:=W.nsIn K kS x=some (some (.ref f))
def nZ(K:ak)(x:Str):Prop:=W.nsIn K kS x=some none
def nL(K:ak)(f:Addr)(x y:Str)(s:Stmt)(oc:Value)(od:Option Addr)(kV dc pm:Value)(an:Option Addr)(cd ct:Value)(sl:Array (Option Value)):Prop:=K.lookup f=some ⟨oc,od, .func (oC x y (o6 s) (lQ s) (dZ s) .none kV dc pm an cd ct),sl⟩
def nC(K:ak)(c:Value)(x:Str):Prop:=Bs K c x=true
def nK(K:ak)(f:Addr):Prop:=vo K (.ref f)=true
def nF(K:ak)(C:Addr)(x:Str):Prop:=oB K (.ref C) x=some none
theorem all_mk{l:W.OpenLaw}{w:World}{K:ak}{h:Heap}{mg:Str->Option Value}{C fa:Addr}(X:K.In h)(G:h.Ns kS mg)(XZ:mg "law"=some (.ref fa))
 (a0:nA K "_law_mix" f0) (l0:nL K f0 "_law_mix" "_law_mix" D3 abW abX abY abZ ab0 ab1 X0 ab2 ab3) (c0:nC K X0 "_law_mix") (k0:nK K f0)
 (a1:nA K "_law_left" f1) (l1:nL K f1 "_law_left" "_law_left" D4 ab4 ab5 ab6 ab7 ab8 ab9 X1 aca acb) (c1:nC K X1 "_law_left") (k1:nK K f1)
 (a2:nA K "_law_cell_at" f2) (l2:nL K f2 "_law_cell_at" "_law_cell_at" D5 acd ace acf acg ach aci X2 acj ack) (c2:nC K X2 "_law_cell_at") (k2:nK K f2)
 (a3:nA K "_law_pick" f3) (l3:nL K f3 "_law_pick" "_law_pick" D6 acm acn aco acp acq acr X3 acs acu) (c3:nC K X3 "_law_pick") (k3:nK K f3)
 (a4:nA K "_law_version" f4) (l4:nL K f4 "_law_version" "_law_version" Eg acv acw acx acy acz acA X4 acB acC) (c4:nC K X4 "_law_version") (k4:nK K f4)
 (a5:nA K "_law_content" f5) (l5:nL K f5 "_law_content" "_law_content" Ei acD acE acF acG acH acI X5 acJ acK) (c5:nC K X5 "_law_content") (k5:nK K f5)
 (a6:nA K "_law_ask" f6) (l6:nL K f6 "_law_ask" "_law_ask" Eh acL acM acN acO acP acQ X6 acR acS) (c6:nC K X6 "_law_ask") (k6:nK K f6)
 (a7:nA K "_law_put" f7) (l7:nL K f7 "_law_put" "_law_put" Ej acT acU acV acW acX acY X7 acZ ac0) (c7:nC K X7 "_law_put") (k7:nK K f7)
 (a8:nA K "_law_answer" f8) (l8:nL K f8 "_law_answer" "_law_answer" Ek ac1 ac2 ac3 ac4 ac5 ac6 X9 ac7 ac8) (c8:nC K X9 "_law_answer") (k8:nK K f8)
 (a9:nA K "_law_row" f9) (l9:nL K f9 "_law_row" "_law_row" El ac9 ada adb ade adf adg Ya adh adi) (c9:nC K Ya "_law_row") (k9:nK K f9)
 (Yb:nA K "_law_own" Mt) (Yc:nL K Mt "_law_own" "_law_own" D7 adj adk adl adm adn ado Yd adp adq) (Ye:nC K Yd "_law_own") (Yf:nK K Mt)
 (Yg:nA K "_law_tells" Mu) (Mv:nL K Mu "_law_tells" "_law_tells" D8 ads adt adu adv adw adx Yh ady adz) (Mw:nC K Yh "_law_tells") (Mx:nK K Mu)
 (Yi:nA K "_law_fault" My) (Mz:nL K My "_law_fault" "_law_fault" D9 adA adB adC adD adE adF Yj adG adH) (MA:nC K Yj "_law_fault") (MB:nK K My)
 (Yk:nA K "sight_of" MC) (MD:nL K MC "sight_of" "sight_of" Eb adI adJ adK adL adM adN Yl adO adP) (ME:nC K Yl "sight_of") (MF:nK K MC)
 (Ym:nA K "places_against" MG) (MH:nL K MG "places_against" "places_against" Ec adQ adR adS adT adU adV Yn adW adX) (MI:nC K Yn "places_against") (MJ:nK K MG)
 (Yo:nA K "puts_of" MK) (ML:nL K MK "puts_of" "puts_of" Ed adY adZ ad0 ad1 ad2 ad3 Yp ad4 ad5) (MM:nC K Yp "puts_of") (MN:nK K MK)
 (Yq:nA K "learn" MO) (MP:nL K MO "learn" "learn" Ee ad6 ad7 ad8 ad9 aea aeb Yr aec aed) (MQ:nC K Yr "learn") (MR:nK K MO)
 (Ys:nA K "story_fault" MS) (MT:nL K MS "story_fault" "story_fault" Ef aee aef aeg aeh aei aej Yt aek ael) (MU:nC K Yt "story_fault") (MV:nK K MS)
 (Yu:nA K "law" MW) (Yv:nL K MW "law" "law" uO aem aen Yw Yx Yy Yz MX YA aeo) (YB:nC K MX "law") (YC:nK K MW)
 (z0:nZ K "len")
 (z1:nZ K "range")
 (z2:nZ K "list")
 (z3:nZ K "tuple")
 (z4:nZ K "int")
 (z5:nZ K "max")
 (z6:nZ K "min")
 (z7:nZ K "all")
 (z8:nZ K "any")
 (z9:nZ K "isinstance")
 (A3:nZ K "str")
 (u6:nZ K "bool")
 (xF:nZ K "dict")
 (xG:nZ K "sorted")
 (xH:nZ K "abs")
 (YD:nZ K "enumerate")
 (YE:nZ K "zip")
 (YF:nA K "Known" C)
 (aI:oB K (.ref C) "__init__"=some (some (.ref fI))) (iI:W.isFn K (.ref fI)=true) (lI:nL K fI "__init__" "Known.__init__" Ea aep aeq aer aes aet aeu YG aev aew) (cI:nC K YG "Known.__init__") (kI:nK K fI)
 (pg:FY K C Str.empty=true) (hd:FZ K C=true) (po:Nm K C=true) (sa:oB K (.ref C) "__setattr__"=some (some (.builtin "object.__setattr__"))) (mk:W.makesIn K C=true) (kc:nK K C)
 (n0:nF K C "asks")
 (n1:nF K C "least")
 (n2:nF K C "contents")
 :∃fd:jl,(∀(s:Shared) (v:Value),xR s fd ⟨[v], []⟩ [("_law_script",v)])/\∀base:Heap,K.In base->base.Ns kS mg->dO l.prog w K mg base eR 8 fa fd ["_law_script"] (FI K):=by
 have e:=XZ.symm.trans (Gr X G Yu);cases e;have T:gm mg:=⟨j9 X G z0,j9 X G z1,j9 X G z2,j9 X G z3,j9 X G z4,j9 X G z5,j9 X G z6,j9 X G z7,j9 X G z8,j9 X G z9,j9 X G A3,j9 X G u6,j9 X G xF,j9 X G xG,j9 X G xH,j9 X G YD,j9 X G YE⟩
 refine⟨oC "law" "law" (o6 uO) (lQ uO) (dZ uO) .none Yw Yx Yy Yz MX YA,λs v=> .of_eq rfl,λbase _ _=> ?_⟩;have cls:lN K C:=⟨pg,hd,po,sa⟩
 haveI:dz K C:=⟨cls⟩
 have AE:=jO (P:=l.prog) (w:=w) (base:=base) X G a0 l0 c0 k0 ((Es K C).2 (ir l0 c0 k0) T) λ_ _ _ _ _ _=>qV λ_ _=>rfl;have Bb:=jO (P:=l.prog) (w:=w) (base:=base) X G a1 l1 c1 k1 ((Et K C).2 (ir l1 c1 k1) T AE) λ_ _ _ _ _ _=>qV λ_ _=>rfl;have FC:=jO (P:=l.prog) (w:=w) (base:=base) X G a2 l2 c2 k2 ((AF K C).2 (ir l2 c2 k2) T) λ_ _ _ _ _ _=>qV λ_ _=>rfl;have dE:=jO (P:=l.prog) (w:=w) (base:=base) X G a3 l3 c3 k3 ((Eu K C).2 (ir l3 c3 k3) T) λ_ _ _ _ _ _=>qV λ_ _=>rfl;have pQ:=jO (P:=l.prog) (w:=w) (base:=base) X G a4 l4 c4 k4 ((EF K C).2 (ir l4 c4 k4) T dE) λ_ _ _ _ _ _=>vc λ_ _ _=>rfl;have uV:=jO (P:=l.prog) (w:=w) (base:=base) X G a5 l5 c5 k5 ((EI K C).2 (ir l5 c5 k5) T dE) λ_ _ _ _ _ _=>Ms λ_ _ _ _=>rfl;have EM:=jO (P:=l.prog) (w:=w) (base:=base) X G a6 l6 c6 k6 ((EH K C).2 (ir l6 c6 k6) T dE) λ_ _ _ _ _ _=>vc λ_ _ _=>rfl;have AK:=jO (P:=l.prog) (w:=w) (base:=base) X G a7 l7 c7 k7 ((EJ K C).2 (ir l7 c7 k7) T pQ) λ_ _ _ _ _ _=>Ms λ_ _ _ _=>rfl;have EN:=jO (P:=l.prog) (w:=w) (base:=base) X G a8 l8 c8 k8 ((EK K C).2 (ir l8 c8 k8) T dE AK pQ uV) λ_ _ _ _ _ _=>vc λ_ _ _=>rfl;have FD:=jO (P:=l.prog) (w:=w) (base:=base) X G a9 l9 c9 k9 ((EL K C).2 (ir l9 c9 k9) T dE pQ uV EM EN) λ_ _ _ _ _ _=>qV λ_ _=>rfl;have F:=ir Yc Ye Yf;have b:=F.binds (ps:= ["_law_thing"]) λ_ _ _ _ _ _=>vb λ_=>rfl;have m:=Gr X G Yb;have uR:gK l.prog w K mg base "_law_own" ["_law_thing"] 7 (fW K 1 (uQ K C)):=gK.of F b m (KZ (C_Known:=C) F T b m  6);have Ey:=jO (P:=l.prog) (w:=w) (base:=base) X G Yg Mv Mw Mx ((sG K C).2 (ir Mv Mw Mx) T) λ_ _ _ _ _ _=>qV λ_ _=>rfl;have FE:=jO (P:=l.prog) (w:=w) (base:=base) X G Yi Mz MA MB ((Ew K C).2 (ir Mz MA MB) T Ey) λ_ _ _ _ _ _=>vb λ_=>rfl;have F:=ir lI cI kI;have b:=F.binds (ps:= ["self"]) λ_ _ _ _ _ _=>vb λ_=>rfl;have EC:DI l.prog w K mg base "Known" C ["self"] 1 (gy K (true::bK 0 false) (xr K C)):=⟨cls,fI,_,(Ez K C).2 F T,b,⟨mk,aI,iI,kc⟩,Gr X G YF⟩
 have uT:=jO (P:=l.prog) (w:=w) (base:=base) X G Yk MD ME MF ((md K C).2 (ir MD ME MF) T) λ_ _ _ _ _ _=>vb λ_=>rfl;have ED:=jO (P:=l.prog) (w:=w) (base:=base) X G Ym MH MI MJ ((AH K C).2 (ir MH MI MJ) T uT) λ_ _ _ _ _ _=>vc λ_ _ _=>rfl;have EA:=jO (P:=l.prog) (w:=w) (base:=base) X G Yo ML MM MN ((jC K C).2 (ir ML MM MN) T) λ_ _ _ _ _ _=>qV λ_ _=>rfl;have EE:=jO (P:=l.prog) (w:=w) (base:=base) X G Yq MP MQ MR ((AI K C).2 (ir MP MQ MR) T uT EA) λ_ _ _ _ _ _=>vc λ_ _ _=>rfl;have FF:=jO (P:=l.prog) (w:=w) (base:=base) X G Ys MT MU MV ((EB K C).2 (ir MT MU MV) T EC ED EE) λ_ _ _ _ _ _=>vb λ_=>rfl;have hn:∀f∈mh,jo K C f:=by
  intro f hf;simp only[mh,bx,dw,or_false]at hf;rcases hf with rfl | rfl | rfl
  all_goals assumption
 exact((FA K C).2 (ir Yv YB YC) T Bb FC dE FD uR FE FF).imp λvs H Q E h=>by
  obtain⟨a,ns,rfl,hF,hl,qq⟩:=h;exact⟨[iQ ns],tD true,rfl,XY hF,XR ns hl hn,λv H' _ o=>by
   have e:v= .bl true:=(dF.vw o).cq;subst e;exact qq H'⟩
theorem walk{l:W.OpenLaw}{q:Program}{loose:List Str}{XP:(Str->Option Value)->Heap->Prop}{YP:World->Heap->Prop}{d:DefRec}{K:Params->ak}(hn:l.most=some 63)(vU:d.params.defaults= [])
  (hY:∀(w:World) (h:Heap),YP w h->(K w.params).In h)
  (F:∀(w:World) (mg:Str->Option Value) (fa:Addr) (h:Heap),(K w.params).In h->h.Ns kS mg->mg d.name=some (.ref fa)->
   ∃fd:jl,(∀(s:Shared) (u:Value),xR s fd ⟨[u], []⟩ [("_law_script",u)])/\∀base:Heap,(K w.params).In base->base.Ns kS mg->dO l.prog w (K w.params) mg base eR 8 fa fd ["_law_script"] (FI (K w.params))):
  W.WalkO q loose XP YP l.row.toRowW d [] (λf vs=>NG f vs):=
 L2.Qv (n:=63) (k:=8) (x:="_law_script") (CX:=λ_=>eR) (sp:=λw=>FI (K w.params)) hn (by decide) vU ⟨rfl,by decide,by decide,rfl⟩ hY F (λ_ _ a ns hl hO hS=>⟨a,ns,rfl,XX hO hS,hl,λ_=>rfl⟩) λ_ _ _ _ _ z=>z
end K55
namespace PySem.W.Fast
def tw1171055482737403136:=Nat
def tw13629805183522648416:=Nat
def tw14445351605553241188:=Nat
def tw3889311306148492965:=Nat
def tw16133080094141852647:=Nat
def tw10201700812240436682:=Nat
def tw5072718832367898219:=Nat
def tw388328977359472815:=Nat
def tw8048324543919389938:=Nat
def tw14016949863521500184:=Nat
def tw1255618629719016125:=Nat
def tw5224517187320382461:=Nat
def tw9759695436581999185:=Nat
end PySem.W.Fast
end
open PySem PySem.W PyProof.Rows
set_option maxRecDepth 100000 in
set_option maxHeartbeats 0 in
theorem PySem.Challenge.cw_farshelf_k55_the_first_fault_holds : PySem.Challenge.rw_farshelf_k55_the_first_fault.Holds := by
  w_on; o_law; k_head; (case hw => w_witness2)
  k_fill
  refine K55.walk (l := PySem.Challenge.rw_farshelf_k55_the_first_fault) rfl rfl (fun w h Y => W.kIn_of Y) ?F
  case F =>
    intro w mg fa h KX G hmg
    refine' K55.all_mk KX G hmg _ _ _ _ _ _ _ _ _ _ _ _ _ _ _ _ _ _ _ _ _ _ _ _ _ _ _ _ _ _ _ _ _ _ _ _ _ _ _ _ _ _ _ _ _ _ _ _ _ _ _ _ _ _ _ _ _ _ _ _ _ _ _ _ _ _ _ _ _ _ _ _ _ _ _ _ _ _ _ _ _ _ _ _ _ _ _ _ _ _ _ _ _ _ _ _ _ _ _ _ _ _ _ _ _ _ _ _
    any_goals (first | k_is | (unfold K55.nA; k_is) | (unfold K55.nL; k_is) | (unfold K55.nC; k_is) | (unfold K55.nK; k_is) | (unfold K55.nZ; k_is) | (unfold K55.nF; k_is))

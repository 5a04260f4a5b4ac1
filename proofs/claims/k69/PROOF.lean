import PyProof.Rows.All
import OpenK.KLine
import OpenK.KOwn
import OpenK.KWalk
import KE.KIsAll
import KE.KItem
import KE.KDictSum
import KE.KMinKey
import Wide.FinOn
import PyProof.EqAt
import PyProof.EqKinds
import PyProof.TupleCall
import PySem.Challenge.RW_mindchange_k69_whole_run_poured
set_option Elab.async false
set_option linter.all false
set_option maxRecDepth 100000
set_option maxHeartbeats 8000000
abbrev ae:=@PySem.wpAny_bind
abbrev af:=@List.length_append
abbrev ah:=@List.size_toArray
abbrev ai:=@List.mem_cons
abbrev aw:=@PySem.Heap.lt_size
abbrev ar:=@PySem.wpAny_pure
abbrev ax:=@Array.length_toList
abbrev ay:=@List.map_append
abbrev aE:=@PySem.Str.length_append
abbrev aI:=@List.mem_singleton
abbrev aS:=@Ne.symm
abbrev aT:=@PySem.Paired.length
abbrev a_:=@List.mem_append
abbrev ba:=@List.length_cons
abbrev bg:=@Nat.ne_of_lt
abbrev bo:=@Nat.lt_of_lt_of_le
abbrev bq:=@List.length_take
abbrev bp:=@List.take_length
abbrev bE:=@Int.toNat_natCast
abbrev bP:=@List.all_eq_true
abbrev bS:=@Bool.and_eq_true_iff
abbrev b3:=@Nat.pow_le_pow_right
abbrev b4:=@congrArg
abbrev b6:=@List.map_cons
abbrev b_:=@Nat.ne_of_gt
abbrev cb:=@List.mem_map
abbrev cm:=@List.length_drop
abbrev cn:=@Nat.eq_of_testBit_eq
abbrev cw:=@Nat.lt_irrefl
abbrev cE:=@PySem.wpAny_field
abbrev c9:=@PySem.wpAny_Call_Name_kw
abbrev c8:=@List.length_replicate
abbrev cS:=@List.length_singleton
abbrev c_:=@List.append_nil
abbrev da:=@List.cons_ne_nil
abbrev df:=@PySem.wpAny_truthy_bool
abbrev dn:=@PyProof.Rows.callWith_type1
abbrev dP:=@List.filter_cons_of_neg
abbrev dE:=@List.append_assoc
abbrev dA:=@List.length_range
abbrev d_:=@List.dropLast_concat
abbrev eB:=@Classical.byContradiction
abbrev dQ:=@PySem.wpAny_mono
abbrev dr:=@List.map_map
abbrev dS:=@PySem.W.mg_none_of
abbrev eC:=@PySem.wpAny_loadPart'
abbrev eA:=@PySem.wpAny_seqItems
abbrev eJ:=@List.dropLast_concat_getLast
abbrev ez:=@Bool.and_eq_true
abbrev eh:=@List.any_cons
abbrev eI:=@List.length_filter_le
abbrev eo:=@Int.le_trans
abbrev eL:=@List.mem_replicate
abbrev eR:=@Nat.add_le_add_left
abbrev eS:=@List.map_congr_left
abbrev eP:=@List.mem_range
abbrev fe:=@PySem.Heap.size_push
abbrev eW:=@List.nodup_cons
abbrev fv:=@PySem.wpAny_call_entry
abbrev ff:=@List.lookup_cons
abbrev fo:=@List.reverse_reverse
abbrev fg:=@List.getElem_mem
abbrev fw:=@List.filter_cons_of_pos
abbrev fz:=@PySem.wpAny_holding
abbrev fT:=@PySem.wpAny_newObj_type
abbrev fS:=@List.take_of_length_le
abbrev fi:=@PySem.W.mg_of
abbrev fE:=@List.foldl_cons
abbrev fA:=@List.range_succ
abbrev gx:=@Nat.le_of_ble_eq_true
abbrev gi:=@List.mem_filterMap
abbrev gc:=@PySem.call_meets
abbrev gs:=@Bool.false_eq_true
abbrev gd:=@List.countP_cons
abbrev gp:=@List.filter_append
abbrev gE:=@Nat.mul_le_mul_right
abbrev gL:=@List.flatMap_cons
abbrev gX:=@PySem.F.slot_zip_next
abbrev gy:=@Nat.testBit_xor
abbrev gz:=@Int.natCast_pow
abbrev gV:=@List.filterMap_cons
abbrev gI:=@Nat.lt_trans
abbrev ij:=@PySem.F.plain_min_loop
abbrev iO:=@PySem.wpAny_pyIter_tuple
abbrev hW:=@Int.natCast_nonneg
abbrev j_:=@PySem.F.slot_tuple_iterator_next
abbrev iN:=@PySem.wpAny_setField_rec
abbrev hJ:=@Nat.one_le_two_pow
abbrev i7:=@PySem.builtinLookup_eq_fast
abbrev i8:=@PySem.StrLaws.glued_eq_join
abbrev i_:=@List.drop_eq_getElem_cons
abbrev i3:=@PySem.wpAny_passesOwn
abbrev iX:=@PySem.wpAny_updateSeq
abbrev ka:=@PySem.Around.under_plainId
abbrev g_:=@Nat.pow_succ
abbrev hU:=@Int.zero_add
abbrev j':=@Option.isSome_iff_exists
abbrev iq:=@List.all_cons
abbrev i5:=@PySem.strLen_append
abbrev k6:=@PyProof.Rows.slot_tuple_getitem
abbrev js:=@beq_eq_false_iff_ne
abbrev jv:=@List.replicate_succ
abbrev i':=@List.cons_append
abbrev i9:=@Nat.zero_testBit
abbrev kz:=@List.length_eq_zero_iff
abbrev ku:=@Nat.lt_of_le_of_lt
abbrev kG:=@Nat.testBit_lt_two_pow
abbrev kP:=@PySem.wpAny_execs_nil
abbrev kf:=@List.forIn_cons
abbrev kM:=@PySem.wpAny_ite_false
abbrev kq:=@PySem.W.kia_one
abbrev mh:=@PySem.StrLaws.strSub_toList
abbrev i6:=@if_true
abbrev kH:=@Nat.lt_of_succ_lt
abbrev l7:=@PySem.StrLaws.subAt_one
abbrev mw:=@Nat.testBit_two_pow_sub_one
abbrev jS:=@if_false
abbrev nE:=@List.dropWhile_cons_of_neg
abbrev ny:=@List.takeWhile_cons_of_pos
abbrev kF:=@Nat.testBit_or
abbrev lI:=@Nat.lt_succ_self
abbrev lp:=@beq_self_eq_true
abbrev lP:=@Nat.le_add_right
abbrev mT:=@PySem.plainId_quiet
abbrev pb:=@List.idxOf_lt_length_iff
abbrev md:=@List.mem_filter
abbrev oi:=@PySem.codeAny_builtin
abbrev me:=@Int.natCast_mul
abbrev og:=@PySem.typeLookup_type
abbrev ly:=@beq_iff_eq
abbrev nB:=@List.filterMap_map
abbrev l4:=@Sum.inr.inj
abbrev nt:=@PySem.wpAny_letGo
abbrev p9:=@Nat.toDigits_of_lt_base
abbrev mB:=@Nat.le_of_lt
abbrev rL:=@PySem.wpAny_pyIter_list
abbrev vS:=@PySem.Calls.callWith_builtin
abbrev oq:=@List.flatten_cons
abbrev nI:=@Bool.and_false
abbrev mx:=@Nat.mul_comm
abbrev oj:=@Nat.lt_succ_of_lt
abbrev rg:=@List.range_succ_eq_map
abbrev nz:=@List.forIn_nil
abbrev rS:=@PySem.wpAny_pyIter_enum
abbrev t_:=@PyProof.Rows.joinParts_cons
abbrev pS:=@PySem.wpAny_tryCatch
abbrev se:=@PySem.F.args_zip_next_1
abbrev vj:=@PySem.wpAny_nextOf_list_item
abbrev om:=@List.foldl_append
abbrev sQ:=@PyProof.Rows.split_le
abbrev sR:=@Nat.div_lt_iff_lt_mul
abbrev pV:=@PySem.typeIs_str
abbrev tJ:=@PySem.F.entry_zip_next
abbrev p_:=@List.not_mem_nil
abbrev CF:=@PyProof.Rows.int_text_len_1921
abbrev qc:=@List.append_inj'
abbrev sP:=@PySem.wpAny_attempt
abbrev AH:=@PySem.Calls.evalArgs_plain
abbrev C0:=@List.eq_nil_of_length_eq_zero
abbrev ot:=@Int.le_refl
abbrev tF:=@List.mem_of_mem_take
abbrev tx:=@Nat.pow_lt_pow_right
abbrev sh:=@Bool.eq_iff_iff
abbrev wm:=@PySem.SeqAt.EqAt.same
abbrev wt:=@PySem.F.slot_int_rmul
abbrev rV:=@Option.map_some
abbrev r_:=@List.length_nil
abbrev r9:=@List.sum_append
abbrev rX:=@Nat.testBit_and
abbrev r6:=@Nat.div_add_mod
abbrev vk:=@ne_true_of_eq_false
abbrev vE:=@List.length_pos_iff
abbrev vw:=@List.reverse_append
abbrev vF:=@List.filter_eq_self
abbrev vn:=@PySem.codeAny_mono
abbrev vv:=@PySem.W.callWith_K
abbrev rh:=@List.all_map
abbrev Jn:=@Int.fdiv_eq_ediv_of_nonneg
abbrev ER:=@PySem.SeqAt.EqAt.str_str
abbrev EO:=@PySem.tupleKind_room_in1
abbrev tI:=@List.drop_zero
abbrev EU:=@PySem.F.args_str_split_2
abbrev IY:=@List.takeWhile_cons_of_neg
abbrev IU:=@Nat.testBit_two_pow_add_gt
abbrev IX:=@Nat.testBit_two_pow_add_eq
abbrev IZ:=@List.nodup_iff_pairwise_ne
abbrev xI:=@decide_eq_true_iff
abbrev AE:=@List.any_eq_false
abbrev IT:=@PySem.slot_list_getitem
abbrev As:=@PySem.intItems_at
abbrev JA:=@PySem.F.entry_str_split
abbrev Au:=@Option.bind_assoc
abbrev CY:=@PySem.nums_intItems
abbrev wq:=@List.sum_cons
abbrev CL:=@Array.toList_inj
abbrev Ap:=@PySem.numAt_eq
abbrev CI:=@List.flatMap_nil
abbrev CH:=@Nat.mod_eq_of_lt
abbrev AD:=@List.map_nil
abbrev EN:=@PySem.typeIs_int
abbrev AB:=@Nat.add_comm
abbrev AA:=@Nat.sub_zero
abbrev EM:=@PySem.wpAny_rule
abbrev AF:=@Int.ofNat_le
abbrev AG:=@Int.lt_or_le
abbrev ET:=@List.of_mem_zip
abbrev ES:=@Nat.min_eq_left
abbrev JE:=@Bool.false_and
abbrev I_:=@List.foldl_nil
theorem dk{p:Prop}[Decidable p](h:decide p=true:=by decide +kernel):p:=of_decide_eq_true h
theorem G{p:Prop}(h:p:=by first|lia|omega):p:=h
theorem b9{p:Prop}(h:p:=by decide):p:=h
theorem oz{p:Prop}(h:p:=by simp):p:=h
theorem gT{p:Prop}(h:p:=by kernel_rfl):p:=h
theorem kT{p:Prop}(h:p:=by first|omega | (refine(?_:@Ne Nat _ _);exact G)):p:=h
theorem obz{p:Prop}(h:p:=by first|exact gx rfl|simp):p:=h
theorem ou{p:Prop}(h:p:=by with_unfolding_all rfl):p:=h
theorem v_{p:Prop}(h:p:=by show 1<=PySem.sizeLine;decide):p:=h
theorem xS{p:Prop}(h:p:=by show 2<=PySem.sizeLine;decide):p:=h
theorem E3{p:Prop}(h:p:=by first|exact Or.inl rfl|exact Or.inr rfl):p:=h
theorem Z{α:Sort _}{a:α}:a=a:=rfl
abbrev cK:=@decide_eq_true
abbrev eT:=@of_decide_eq_true
abbrev gS:=@decide_eq_false
abbrev bX:=@if_neg
abbrev qp:=@if_pos
abbrev ki:=@Bool.false_ne_true
abbrev qms:=@List.mem_cons_self
abbrev k9:=@List.mem_cons_of_mem
abbrev g9:=@Nat.le_trans
abbrev pj:=@List.mem_of_getElem?
abbrev xi:=@List.mem_append_left
abbrev pd:=@List.mem_append_right
abbrev kK:=@Option.some.inj
abbrev AU:=@Int.emod_nonneg
abbrev BM:=@Int.emod_lt_of_pos
abbrev qnr:=@Nat.le_refl
abbrev mi:=@Nat.zero_le
abbrev de:=@List.length_map
abbrev kg:=@List.getElem?_map
abbrev qE:=@List.take_add_one
namespace L2
open PySem PySem.Spec PyProof.Rows
end L2
variable{p pos pos' tpos apos p2 e_:PySem.Pos}{a b it aad f C dx sl np z c0 i1 i2 l1 l2 S bl no:PySem.Addr}{us its ds its' bm:List PySem.Value}{x name m qual kd:PySem.Str}{u cd doc pm ja ct oc vl vu a0 dc:PySem.Value}{h h' h1 h2 base:PySem.Heap}{P prog q P0:PySem.Program}{w:PySem.World}{e tg iter value elt:PySem.Expr}{Y:List (PySem.Addr×PySem.Obj)}{s s' s1 s2:PySem.Shared}{t' i j c n k1 sd:Nat}{ch fp:List PySem.Addr}{N ns ps ws loose N' ss kl:List PySem.Str}{A:PySem.Around}{E Q EE:PySem.Value->PySem.Shared->Prop}{R:PySem.Result->PySem.Shared->Prop}{K:PySem.W.Frag}{st:PySem.Stmt}{es ifs elts:List PySem.Expr}{body:List PySem.Stmt}{lo B lean first B':Int}{hi:Option Int}{mA mg:PySem.Str->Option PySem.Value}{kw:List (PySem.Str×PySem.Value)}{env:PySem.Env}{fd:PySem.FuncData}{outer:List PySem.Env}{sc scope:PySem.Scope}{an od:Option PySem.Addr}{MG:Array (Option PySem.Value)}{YP:PySem.World->PySem.Heap->Prop}{ix:List (Option Nat)}{newId:String}{oa:PySem.Obj}{rs:List Int}{cs:List Nat}{rss:List (List Int)}{prs:List (Int×PySem.Str)}
namespace L2
open PySem PySem.Spec PyProof.Rows
abbrev Key:=Sum Int Str
def mW:Key->Value->Bool
 | .inl k,v=>Value.isInt k v
 | .inr x,v=>Value.isStrOf x v
def RW(w:World):Key->Int
 | .inl k=>hashInt k
 | .inr x=>hashStr w x
theorem cY:∀{k:Key}{v:Value},mW k v=true->(∃ i t,k=Sum.inl i/\v=Value.int i t)\/(∃ x t,k=Sum.inr x/\v=Value.str x t)
 | .inl i,v,h=>by
  obtain⟨t,e⟩:=Value.isInt_shape (k:=i) (v:=v) h;exact .inl ⟨i,t,rfl,e⟩
 | .inr x,v,h=>by
  obtain⟨t,e⟩:=Value.isStrOf_shape (x:=x) (v:=v) h;exact .inr ⟨x,t,rfl,e⟩
theorem DX(i:Int)(t:Tok):mW (.inl i) (.int i t)=true:=by simp[mW,Value.isInt]
theorem DY(x:Str)(t:Tok):mW (.inr x) (.str x t)=true:=by simp[mW,Value.isStrOf]
theorem O1(a b:Int):decide ((Sum.inl a:Key)=Sum.inl b)=(a==b):=by
 by_cases e:a=b
 .subst e;simp
 have h:¬(Sum.inl a:Key)=Sum.inl b:=fun q=>e (Sum.inl.inj q)
 rw[gS h];exact(js.mpr e).symm
theorem O2(a b:Str):decide ((Sum.inr a:Key)=Sum.inr b)=decide (a=b):=by
 by_cases e:a=b
 .subst e;simp
 have h:¬(Sum.inr a:Key)=Sum.inr b:=fun q=>e (l4 q)
 rw[gS h,gS e]
theorem O3(a:Int)(b:Str):decide ((Sum.inl a:Key)=Sum.inr b)=false:=gS (fun q=>nomatch q)
theorem O4(a:Str)(b:Int):decide ((Sum.inr a:Key)=Sum.inl b)=false:=gS (fun q=>nomatch q)
def bW(prog:Program)(w:World):PySem.KeyKind prog w Key where
 is:=mW
 hash:=RW w
 inj := fun v a b ha hb=>by
  rcases cY ha with⟨i,t,rfl,rfl⟩|⟨x,t,rfl,rfl⟩
  .rcases cY hb with⟨j,u,rfl,e⟩|⟨y,u,rfl,e⟩
   .injection e with e1 _;rw[e1]
   exact nomatch e
  rcases cY hb with⟨j,u,rfl,e⟩|⟨y,u,rfl,e⟩
  .exact nomatch e
  injection e with e1 _;rw[e1]
 byValue:=fun k v h=>by
  rcases cY h with⟨i,t,rfl,rfl⟩|⟨x,t,rfl,rfl⟩<;>rfl
 pyHash:=fun hv h=>by
  rcases cY hv with⟨i,t,rfl,rfl⟩|⟨x,t,rfl,rfl⟩
  .exact wpAny_pyHash_int h
  exact wpAny_pyHash_str h
 eqBool:=fun hu hv h=>by
  rcases cY hu with⟨i,t,rfl,rfl⟩|⟨x,t,rfl,rfl⟩
  .rcases cY hv with⟨j,u,rfl,rfl⟩|⟨y,u,rfl,rfl⟩
   .rw[O1]at h;exact wpAny_eqBool_int h
   rw[O3]at h;exact SeqAt.EqAt.int_str i t y u _ _ _ _ h
  rcases cY hv with⟨j,u,rfl,rfl⟩|⟨y,u,rfl,rfl⟩
  .rw[O4]at h;exact SeqAt.EqAt.str_int x t j u _ _ _ _ h
  rw[O2]at h;exact wpAny_eqBool_str h
 «strs»:=fun k x t v h=>by
  rcases cY h with⟨i,u,rfl,e⟩|⟨y,u,rfl,e⟩
  .exact nomatch e
  injection e with e1 _
  subst e1;cases v<;>rfl
theorem qC(prog:Program)(w:World)(i:Int)(t:Tok):(bW prog w).is (.inl i) (.int i t)=true:=DX i t
theorem qD(prog:Program)(w:World)(x:Str)(t:Tok):(bW prog w).is (.inr x) (.str x t)=true:=DY x t
inductive V where
 |non|bl (b:Bool)|int (i:Int)|str (x:Str)|byt (b:Array UInt8)|flt (b:UInt64)|ref (a:Addr)|ty (n:String)
 deriving DecidableEq
end L2
variable{xs ys vs dvs mv bv ms mv' bv':List L2.V}{v y:L2.V}{kvs ks:List (L2.Key×L2.V)}
namespace L2
open PySem PySem.Spec PyProof.Rows
def RelV:V->Value->Prop
 | .non,u=>u=Value.none
 | .bl b,u=>u=Value.bool b
 | .int i,u=>∃ t,u=Value.int i t
 | .str x,u=>∃ t,u=Value.str x t
 | .byt b,u=>∃ t,u=Value.bytes b t
 | .flt b,u=>∃ t,u=Value.float b t
 | .ref a,u=>u=Value.ref a
 | .ty n,u=>u=Value.type n
abbrev Vals:List V->List Value->Prop:=Paired RelV
theorem Vals.length{xs:List V}{us:List Value}(r:Vals xs us):xs.length=us.length:=aT r
theorem Vals.get:∀{xs:List V}{us:List Value}{i:Nat}{x:V},Vals xs us->xs[i]?=some x->∃ u,us[i]?=some u/\RelV x u
 |_,_,_,_,.nil,e=>by simp at e
 |_,_,0,_,.cons r _,e=>by simp at e;subst e;exact⟨_,Z,r⟩
 | _,_,i+1,x,.cons _ t,e=>by
  obtain⟨u,h1,h2⟩:=Vals.get (i:=i) (x:=x) t (by simpa using e);exact⟨u,by simpa using h1,h2⟩
theorem Vals.set{x:V}{u:Value}(r:RelV x u):∀{xs:List V}{us:List Value}(i:Nat),Vals xs us->Vals (xs.set i x) (us.set i u)
 |_,_,_,.nil=>.nil
 |_,_,0,.cons _ t=>.cons r t
 |_,_,i+1,.cons q t=>.cons q (Vals.set r i t)
theorem Vals.append:∀{xs ys:List V}{us ws:List Value},Vals xs us->Vals ys ws->Vals (xs++ys) (us++ws)
 |_,_,_,_,.nil,s=>s
 |_,_,_,_,.cons r t,s=>.cons r (Vals.append t s)
theorem Vals.take:∀{xs:List V}{us:List Value}(n:Nat),Vals xs us->Vals (xs.take n) (us.take n)
 |_,_,0,_=>.nil
 |_,_,_+1,.nil=>.nil
 |_,_,n+1,.cons r t=>.cons r (Vals.take n t)
theorem Vals.drop:∀{xs:List V}{us:List Value}(n:Nat),Vals xs us->Vals (xs.drop n) (us.drop n)
 |_,_,0,r=>r
 |_,_,_+1,.nil=>.nil
 |_,_,n+1,.cons _ t=>Vals.drop n t
def mr:Option V->Option Value->Prop
 |some v,some u=>RelV v u
 |none,none=>True
 |_,_=>False
def KV{κ:Type}:List (κ×V)->List (κ×Value)->Prop:=Paired fun(p:κ×V)(q:κ×Value)=>p.1=q.1/\RelV p.2 q.2
def kV:Key->V
 | .inl i=>.int i
 | .inr x=>.str x
inductive HO where
  |lst (xs:List V)
  |tup (xs:List V)
  |dK (kvs:List (Key×V))|dT (kvs:List (List Key×V))
  |set (S:Int->Bool) (n:Nat)
  |ins (C dx:Addr) (fs:List (Str×V))
  |own (x:Addr)
  |xd (fs:List (Str×V))
  |met (f x:Addr)
  |vT (lo hi:Int)
  |xA (o:Obj) (u:HO)
  |EV (ps:Array Value)
  |ext (φ:Heap->Prop)
abbrev Hp:=Addr->Option HO
end L2
variable{H J H1 H2 VM:L2.Hp}{o o':L2.HO}
namespace L2
open PySem PySem.Spec PyProof.Rows
def upd(H:Hp)(a:Addr)(o:HO):Hp:=fun b=>if b=a then some o else H b
theorem ao:upd H a o a=some o:=by unfold upd;rw[qp rfl]
theorem aA(h:b≠a):upd H a o b=H b:=by unfold upd;rw[bX h]
theorem pN{u:HO}:upd (upd H a o) a u=upd H a u:=by
 funext b;unfold upd;split<;>rfl
theorem aY{u:HO}(h:H a=some o)(h':H b=some u)(d:o≠u:=by intro z;cases z):a≠b:=by
 intro e;subst e;rw[h]at h';exact d (kK h')
theorem aD(h:H a=some o)(h':H b=none):a≠b:=by
 intro e;subst e;rw[h]at h';cases h'
def kA(h:Heap)(a:Addr)(its:Array Value):Prop:=∃ o,h.get? a=some o/\o.cls=.type "tuple"/\∃ n,(o.data,o.dict)=(Data.seq its n,none)
theorem kA.tup{h:Heap}{a:Addr}{its:Array Value}(x:kA h a its):IsTup h a its:=let ⟨o,e,c,n,d⟩:=x;⟨o,e,c,n,b4 Prod.fst d⟩
theorem kA.new(h:Heap)(its:Array Value):kA (h.push { cls:=.type "tuple",data:=.seq its }) h.objs.size its:=⟨_,Heap.get?_push_size _ rfl,rfl,_,rfl⟩
section
variable(P:Program)(w:World)
def ft(H:Hp)(h:Heap)(a:Addr):HO->Prop
 | .lst xs=>xs.length<=sizeLine/\∃(its:List Value) (n:Nat),Vals xs its/\h.get? a=some { cls:=.type "list",data:=.seq its.toArray n }
 | .tup xs=>xs.length<=sizeLine/\∃ its:List Value,Vals xs its/\kA h a its.toArray
 | .dK kvs=>kvs.length<=sizeLine/\(a==sysModules)=false/\∃ vs,KV kvs vs/\h.DictOf (bW P w) a vs
 | .dT kvs=>kvs.length<=sizeLine/\(a==sysModules)=false/\∃ xs:List (List Key×Addr×Value),
   Paired (fun(p:List Key×V)(q:List Key×Addr×Value)=>p.1=q.1/\H q.2.1=some (.tup (p.1.map kV))/\RelV p.2 q.2.2) kvs xs /\
   ∃ o es ep,h.get? a=some o/\o.ExactDict/\o.data=.dict es ep/\es.toList=xs.map (entryOfKey (tupleKind (bW P w)))/\(xs.map (·.1)).Nodup
 | .set S n=>h.SetOf (intKind P w) a S n
 | .ins C dx fs=>H dx=some (.own a)/\fs.length<=1000/\dx≠a/\h.get? a=some (W.instObj C dx) /\
   ∃ mA,h.Ns1 dx mA/\(∀ f,mr (fs.lookup f) (mA f))/\PySem.Within mA (fs.map (·.1))
 | .own _=>∃ o,h.get? a=some o
 | .xd fs=>∃ mA,h.Ns1 a mA/\∀ f,mr (fs.lookup f) (mA f)
 | .vT lo hi=>∃ t u v,h.get? a=some { cls:=.type "range",data:=.fields #[.int lo t,.int hi u,.int 1 v] }
 | .xA o u=>h.get? a=some o/\ft H h a u
 | .EV ps=>h.get? a=some { cls:=.none,data:=.fields ps }
 | .met f x=>h.get? a=some (W.methodObj (.ref f) (.ref x))
 | .ext φ=>φ h/\(∃ o,h.get? a=some o)/\∀ h1 h2:Heap,φ h1->(∀ o,h1.get? a=some o->h2.get? a=some o)->φ h2
def mS(H:Hp)(h:Heap):Prop:=∀ a o,H a=some o->ft P w H h a o
end
theorem ft.lt(x:ft P w H h a o):a<h.objs.size:=by
 cases o with
 |lst xs=>obtain⟨_,_,_,_,e⟩:=x;exact aw e
 |tup xs=>obtain⟨_,_,_,p⟩:=x;exact p.tup.lt
 |dK kvs=>obtain⟨_,_,_,_,o,_,_,e,_⟩:=x;exact aw e
 |dT kvs=>obtain⟨_,_,_,_,o,_,_,e,_⟩:=x;exact aw e
 |set S n=>obtain⟨o,_,_,_,e,_⟩:=x;exact aw e
 |ins C dx fs=>obtain⟨_,_,_,e,_⟩:=x;exact aw e
 |own y=>obtain⟨_,e⟩:=x;exact aw e
 |xd fs=>obtain⟨_,⟨_,_,_,e,_⟩,_⟩:=x;exact aw e
 |vT lo hi=>obtain⟨_,_,_,e⟩:=x;exact aw e
 |xA ob u=>obtain⟨e,_⟩:=x;exact aw e
 |EV ps=>exact aw (show h.get? a=some _ from x)
 |met f y=>exact aw (show h.get? a=some _ from x)
 |ext φ=>obtain⟨_,⟨_,e⟩,_⟩:=x;exact aw e
theorem Paired.ib{α β:Type}{F aae:α->β->Prop}:∀{l₁:List α}{l₂:List β},Paired F l₁ l₂->(∀ a b,F a b->aae a b)->Paired aae l₁ l₂
 |_,_,.nil,_=>.nil
 |_,_,.cons r t,f=>.cons (f _ _ r) (Paired.ib t f)
theorem ft.stay(x:ft P w H h a o)(k:∀ b u,(b=a\/H b=some (.own a))->h.get? b=some u->h'.get? b=some u)(ho:∀ b,H b=some (.own a)->J b=some (.own a))(ht:∀ b xs,H b=some (.tup xs)->J b=some (.tup xs)):ft P w J h' a o:=by
 induction o with
 |lst xs=>obtain⟨z,its,n,r,e⟩:=x;exact⟨z,its,n,r,k _ _ (.inl rfl) e⟩
 |tup xs=>obtain⟨z,its,r,ob,e,c⟩:=x;exact⟨z,its,r,ob,k _ _ (.inl rfl) e,c⟩
 |dK kvs=>obtain⟨z,y,vs,r,ob,es,ep,e,c⟩:=x;exact⟨z,y,vs,r,ob,es,ep,k _ _ (.inl rfl) e,c⟩
 | dT kvs =>
  obtain⟨z,y,xs,r,ob,es,ep,e,c⟩:=x;exact⟨z,y,xs,Paired.ib r fun p q z=>⟨z.1,ht _ _ z.2.1,z.2.2⟩,ob,es,ep,k _ _ (.inl rfl) e,c⟩
 |set S n=>obtain⟨ob,es,ep,t,e,c⟩:=x;exact⟨ob,es,ep,t,k _ _ (.inl rfl) e,c⟩
 | ins C dx fs =>
  obtain⟨d,z,ne,e,mA,⟨od,es,ep,e2,c⟩,r⟩:=x;exact⟨ho _ d,z,ne,k _ _ (.inl rfl) e,mA,⟨od,es,ep,k _ _ (.inr d) e2,c⟩,r⟩
 |own y=>obtain⟨ob,e⟩:=x;exact⟨ob,k _ _ (.inl rfl) e⟩
 |xd fs=>obtain⟨mA,⟨od,es,ep,e,c⟩,r⟩:=x;exact⟨mA,⟨od,es,ep,k _ _ (.inl rfl) e,c⟩,r⟩
 |vT lo hi=>obtain⟨t,u,v,e⟩:=x;exact⟨t,u,v,k _ _ (.inl rfl) e⟩
 |xA ob u ih=>obtain⟨e,q⟩:=x;exact⟨k _ _ (.inl rfl) e,ih q⟩
 | EV ps =>
  have e:h.get? a=some { cls:=.none,data:=.fields ps }:=x;show h'.get? a=some { cls:=.none,data:=.fields ps };exact k a _ (.inl rfl) e
 | met f y =>
  have e:h.get? a=some (W.methodObj (.ref f) (.ref y)):=x;show h'.get? a=some (W.methodObj (.ref f) (.ref y));exact k a _ (.inl rfl) e
 |ext φ=>obtain⟨p,⟨o,e⟩,st⟩:=x;exact⟨st _ _ p fun o q=>k _ _ (.inl rfl) q,⟨o,k _ _ (.inl rfl) e⟩,st⟩
theorem mS.lt(x:mS P w H h)(e:H a=some o):a<h.objs.size:=(x a o e).lt
theorem mS.fresh(x:mS P w H h)(e:h.objs.size<=a):H a=none:=by
 cases q:H a with
 |none=>rfl
 |some u=>exact absurd (bo (x.lt q) e) (cw _)
theorem mS.kept(x:mS P w H h)(k:∀ b u,h.get? b=some u->h'.get? b=some u):mS P w H h':=fun a o e =>
 (x a o e).stay (fun b u _ q=>k b u q) (fun _ q=>q) fun _ _ q=>q
theorem mS.laid(x:mS P w H h)(k:∀ b u,h.get? b=some u->h'.get? b=some u)(hp:h.objs.size<=a)(new:ft P w (upd H a o) h' a o):mS P w (upd H a o) h':=fun b u e=>by
 have hn:=x.fresh hp
 by_cases hb:b=a
 .subst hb;rw[ao]at e;cases e;exact new
 rw[aA hb]at e;exact(x b u e).stay (fun c v _ q=>k c v q) (fun c q=>by rw[aA (aD q hn)];exact q) fun c xs q=>by rw[aA (aD q hn)];exact q
def Rd(H:Hp)(a:Addr)(u:HO):Prop:=H a=some u\/∃ o,H a=some (.xA o u)
theorem Rd.ok{u:HO}(r:Rd H a u)(x:mS P w H h):ft P w H h a u:=by
 rcases r with r|⟨o,r⟩
 .exact x a u r
 obtain⟨_,q⟩:=x a _ r;exact q
def Um:Option HO->Prop
 |some (.lst _)=>True
 |some (.dK _)=>True
 |some (.dT _)=>True
 |some (.set _ _)=>True
 |some (.ins _ _ _)=>True
 |some (.ext _)=>True
 |_=>False
section
variable{x e:Addr}
theorem mS.write(ok:mS P w H h)(mu:Um (H x))(he:e=x\/H e=some (.own x))(k:∀ b u,b≠e->h.get? b=some u->h'.get? b=some u)(OW:∃ u,h'.get? e=some u)(new:ft P w (upd H x o') h' x o'):mS P w (upd H x o') h':=fun b u q=>by
 have QU:∀ c y,H c=some (.own y)->c≠x:=fun c y r z=>by subst z;rw[r]at mu;exact mu
 have Wg:∀ c xs,H c=some (.tup xs)->c≠x:=fun c xs r z=>by subst z;rw[r]at mu;exact mu
 by_cases hb:b=x
 .subst hb;rw[ao]at q;cases q;exact new
 rw[aA hb]at q
 by_cases NN:b=e
 .have q':H b=some (.own x):=by
   rcases he with z|z
   .exact absurd (NN.trans z) hb
   rw[NN];exact z
  rw[q]at q';cases q';obtain⟨v,hv⟩:=OW;exact⟨v,by rw[NN];exact hv⟩
 refine(ok b u q).stay (fun c v hc r=>k c v ?_ r) (fun c r=>by rw[aA (QU c b r)];exact r) fun c xs r=>by rw[aA (Wg c xs r)];exact r
 rcases hc with rfl|hc
 .exact NN
 rintro rfl;rcases he with z|z
 .exact QU c b hc z
 rw[hc]at z;cases z;exact hb rfl
end
structure Un(fs ex:List Addr)(H J:Hp)(h h':Heap):Prop where
 keep:∀ b o,h.get? b=some o->H b=none->b∉fs->b∉ex->h'.get? b=some o
 slot:∀ b o,h.get? b=some o->H b=none->b∈fs->b∉ex->∃ sl,h'.get? b=some { o with slots:=sl }
 free:∀ b o,h.get? b=some o->H b=none->b∉ex->J b=none
 there:∀ b o,h.get? b=some o->b∉ex->∃ o',h'.get? b=some o'
 tups:∀ b xs,H b=some (.tup xs)->J b=some (.tup xs)
 nh:∀ b o u,H b=some (.xA o u)->J b=some (.xA o u)
 nS:∀ b ps,H b=some (.EV ps)->∃ more,J b=some (.EV (ps++more))
section
variable{fs fs' ex ex':List Addr}{x e:Addr}
theorem Un.any(u:Un fs ex H H1 h h1){ob:Obj}(q:h.get? b=some ob)(n:H b=none)(hx:b∉ex):∃ sl,h1.get? b=some { ob with slots:=sl }:=by
 by_cases hb:b∈fs
 .exact u.slot b ob q n hb hx
 exact⟨ob.slots,u.keep b ob q n hb hx⟩
theorem Un.kept(k:∀ b u,h.get? b=some u->h'.get? b=some u):Un fs ex H H h h' :=
 ⟨fun b ob q _ _ _=>k b ob q,fun b ob q _ _ _=>⟨ob.slots,k b ob q⟩,fun _ _ _ n _=>n,fun b ob q _=>⟨ob,k b ob q⟩,fun _ _ q=>q,fun _ _ _ q=>q,fun _ ps q=>⟨#[],by rw[q];simp⟩⟩
theorem Un.refl:Un fs ex H H h h:=Un.kept fun _ _ q=>q
theorem Un.laid(k:∀ b u,h.get? b=some u->h'.get? b=some u)(hp:h.objs.size<=a)(hn:H a=none):Un fs ex H (upd H a o) h h' where
 keep:=fun b u q _ _ _=>k b u q
 slot:=fun b u q _ _ _=>⟨u.slots,k b u q⟩
 free:=fun b u q n _=>by rw[aA (bg (bo (aw q) hp))];exact n
 there:=fun b u q _=>⟨u,k b u q⟩
 tups:=fun b xs q=>by rw[aA (aD q hn)];exact q
 nh:=fun b u xs q=>by rw[aA (aD q hn)];exact q
 nS:=fun b ps q=>⟨#[],by rw[aA (aD q hn),q];simp⟩
theorem Un.write(mu:Um (H x))(he:e=x\/H e=some (.own x))(k:∀ b u,b≠e->h.get? b=some u->h'.get? b=some u)(OW:∃ u,h'.get? e=some u):Un fs ex H (upd H x o) h h':=by
 have hx:∀ b,H b=none->b≠x:=fun b n z=>by subst z;rw[n]at mu;exact mu
 have hb:∀ b,H b=none->b≠e:=fun b n z=>by
  subst z;rcases he with r|r
  .exact hx b n r
  rw[n]at r;cases r
 have hm:∀ b u,H b=some u->¬Um (some u)->b≠x:=fun b u q nm z=>by subst z;rw[q]at mu;exact nm mu
 refine⟨fun b u q n _ _=>k b u (hb b n) q,fun b u q n _ _=>⟨u.slots,k b u (hb b n) q⟩,fun b u q n _=>by rw[aA (hx b n)];exact n,fun b u q _=>?_,
  fun b xs q=>by rw[aA (hm b _ q fun z=>z)];exact q,fun b u xs q=>by rw[aA (hm b _ q fun z=>z)];exact q,fun b ps q=>⟨#[],by rw[aA (hm b _ q fun z=>z),q];simp⟩⟩
 by_cases NN:b=e
 .subst NN;exact OW
 exact⟨u,k b u NN q⟩
end
def Fn(h:Heap)(H:Hp):List Addr:=(List.range h.objs.size).filter fun a=>(H a).isSome
def mX(h:Heap)(H:Hp):Heap:=W.hideAll h (Fn h H)
theorem Ea(h:Heap)(H:Hp):(mX h H).objs.size=h.objs.size:=W.hideAll_size _ _
theorem HY{o:Obj}(e:h.get? b=some o)(n:H b=none):(mX h H).get? b=some o :=
 W.hideAll_get _ e fun hm=>by
  have q:(H b).isSome=true:=(md.mp hm).2;rw[n]at q;simp at q
theorem Mf{o:Obj}(e:(mX h H).get? b=some o):h.get? b=some o/\H b=none:=by
 have e':h.get? b=some o:=W.of_hideAll (Fn h H) e;refine⟨e',?_⟩;cases q:H b with
 |none=>rfl
 | some x =>
  have hm:b∈Fn h H:=md.mpr ⟨eP.mpr (aw e'),by simp[q]⟩;have z:(mX h H).get? b=none:=W.hideAll_none (Fn h H) hm;rw[z]at e;cases e
structure Mod(K:W.Frag)(mg:Str->Option Value)(base:Heap):Prop where
 Kk:K.In base
 glob:base.Ns mainGlobals mg
 blt:∃ mb,base.Ns builtinsNs mb/\∀ x:Str,x≠"__name__"->mb x=bootBuiltins x
 nolimit:base.NoLimit
structure Cx where
 prog:Program
 w:World
 K:W.Frag
 mg:Str->Option Value
 base:Heap
 A:Around
 N:List Str
 s₀:Shared
 H₀:Hp
 env:Env
 outer:List Env
 stack:List Env
 ex:List Addr
 fn:Str->Bool
 calm:Bool
 pn:List (Addr×Obj)
 xe:Value->Shared->Prop
end L2
variable{X:L2.Cx}
namespace L2
open PySem PySem.Spec PyProof.Rows
def ky(l:List Env):List Addr:=l.filterMap (·.frame)
abbrev Cx.fs(X:Cx):List Addr:=ky X.outer
def Uj(sc:Scope)(x:Str):Prop:=sc.names.lookup x=some .local \/ sc.names.lookup x=some .cell \/ sc.names.lookup x=some .free
def Loc(sc:Scope)(x:Str):Prop:=sc.names.lookup x=some .local \/ sc.names.lookup x=some .cell
def Look(env:Env)(h:Heap)(m:Str->Option Value)(x:Str)(u:Value):Prop :=
 (env.kindOf x=some .local /\ m x=some u)\/((env.kindOf x=some .cell \/ env.kindOf x=some .free)/\∃ c,env.cells.lookup x=some c/\h.IsCell c (some u))
structure Cx.Ok(X:Cx):Prop where
 mod:Mod X.K X.mg X.base
 kind:X.env.scope.kind=.function
 glob:X.env.globals=mainGlobals
 blt:X.env.builtins=builtinsNs
 above:X.s₀.heap.objs.size<=X.env.locals
 inj:∀ x y c,X.env.cells.lookup x=some c->X.env.cells.lookup y=some c->x=y
 has:∀ x,(X.env.kindOf x=some .cell \/ X.env.kindOf x=some .free)->∃ c,X.env.cells.lookup x=some c
 N2:∀ x c,X.fn x=true->X.env.cells.lookup x=some c->X.s₀.heap.objs.size<=c
 hd:X.calm=true->X.A.handled=none
 frames:X.A.frames=some X.stack
 OC:X.stack=X.outer\/(X.stack=X.env::X.outer/\X.env.frame=some X.env.locals)
 Vq:∀ b∈X.ex,b≠X.env.locals/\∀ x c,X.env.cells.lookup x=some c->c≠b
 bs:∀ b o,X.base.get? b=some o->X.s₀.heap.get? b=some o/\X.H₀ b=none
 EH:X.base.objs.size<=X.s₀.heap.objs.size
 yy:∀ b o,X.base.get? b=some o->b∉X.ex
 Ct:∀ b∈X.ex,b∉X.fs
 oP:X.s₀.heap.FunFrames X.base X.outer
 IM:∀ b∈X.fs,X.H₀ b=none
structure Inv(X:Cx)(Y:List (Addr×Obj))(M:List (Option V))(H:Hp)(s:Shared):Prop where
 ok:X.Ok
 os:s.os=X.s₀.os
 bare:AllBare s.gens
 base:Un X.fs X.ex X.H₀ H X.s₀.heap s.heap
 loc:∃ m,s.heap.Ns X.env.locals m/\∀(i:Nat)(x:Str)(v:V),X.N[i]?=some x->M[i]?=some (some v)->Uj X.env.scope x->∃ u,RelV v u/\Look X.env s.heap m x u
 cell:∀ x c,X.env.cells.lookup x=some c->∃ v,s.heap.IsCell c v
 free:H X.env.locals=none
 lj:∀ x c,X.env.cells.lookup x=some c->H c=none
 pin:∀ p∈X.pn++Y,s.heap.get? p.1=some p.2/\H p.1=none/\p.1≠X.env.locals/\p.1∉X.fs/\∀ v,p.2.data≠.cell v
 hok:mS X.prog X.w H s.heap
 len:M.length=X.N.length
section
variable{M:List (Option V)}
theorem Cx.Ok.Wk(ok:X.Ok){o:Obj}(e:X.base.get? b=some o):b∉X.fs:=fun hb=>by
 have:=(ok.oP.mem hb).1;rw[e]at this;cases this
theorem Inv.bs(I:Inv X Y M H s):∀ b o,X.base.get? b=some o->s.heap.get? b=some o/\H b=none:=fun b o e =>
 ⟨I.base.keep b o (I.ok.bs b o e).1 (I.ok.bs b o e).2 (I.ok.Wk e) (I.ok.yy b o e),I.base.free b o (I.ok.bs b o e).1 (I.ok.bs b o e).2 (I.ok.yy b o e)⟩
theorem Inv.bk(I:Inv X Y M H s):∀ b o,X.base.get? b=some o->s.heap.get? b=some o:=fun b o e=>(I.bs b o e).1
theorem Inv.mod(I:Inv X Y M H s):Mod X.K X.mg X.base:=I.ok.mod
theorem Inv.kIn(I:Inv X Y M H s):X.K.In s.heap:=I.ok.mod.Kk.keeps I.bk
theorem Inv.fr(I:Inv X Y M H s):∃ m,Fr X.base X.env.locals s.heap m :=
 let ⟨m,hn,_⟩:=I.loc
 ⟨m,hn,I.bk,g9 I.ok.EH I.ok.above⟩
theorem Inv.lt(I:Inv X Y M H s):X.env.locals<s.heap.objs.size:=let ⟨_,hn,_⟩:=I.loc;hn.lt
theorem Inv.sz(I:Inv X Y M H s):X.s₀.heap.objs.size<=s.heap.objs.size:=g9 I.ok.above (mB I.lt)
theorem Inv.Wj(I:Inv X Y M H s)(h:s.heap.objs.size<=a):a∉X.fs:=fun hb=>by
 obtain⟨_,o,ho,_⟩:=I.ok.oP.mem hb;exact absurd (bo (aw ho) (g9 I.sz h)) (cw _)
theorem Inv.N1(I:Inv X Y M H s):∀ x c,X.env.cells.lookup x=some c->c≠X.env.locals:=fun x c e z=>by
 obtain⟨v,o,ho,hd⟩:=I.cell x c e;obtain⟨m,⟨o',es,ep,yB,wc,_⟩,_⟩:=I.loc;rw[z,yB]at ho;cases ho;rw[wc]at hd;cases hd
theorem Inv.oP(I:Inv X Y M H s):s.heap.FunFrames X.base X.outer:=by
 have all:∀(l:List Env),(∀ b∈ky l,b∈X.fs)->X.s₀.heap.FunFrames X.base l->s.heap.FunFrames X.base l:=by
  intro l
  induction l with
  |nil=>intro _ _;trivial
  | cons env r ih =>
   intro hs hl;obtain⟨hk,⟨L,o,hf,hn,ho,hd⟩,hr⟩:=hl;have hL:L∈X.fs:=hs L (by unfold ky;rw[gV,hf];exact qms);obtain⟨sl,e⟩:=I.base.slot L o ho (I.ok.IM L hL) hL fun z=>I.ok.Ct L z hL
   exact⟨hk,⟨L,_,hf,hn,e,hd⟩,ih (fun b hb=>hs b (by unfold ky;rw[gV,hf];exact k9 _ hb)) hr⟩
 exact all X.outer (fun _ hb=>hb) I.ok.oP
theorem Inv.stack(I:Inv X Y M H s):s.heap.FunFrames X.base X.stack:=by
 rcases I.ok.OC with e|⟨e,hf⟩
 .rw[e];exact I.oP
 rw[e];obtain⟨m,hn,_⟩:=I.loc;refine .cons (by rw[I.ok.kind];decide) hf hn ?_ I.oP;exact Heap.get?_none_of_le (g9 I.ok.EH I.ok.above)
theorem Inv.nV(I:Inv X Y M H s):∀ b∈ky X.stack,b∈X.env.locals::X.fs:=fun b hb=>by
 rcases I.ok.OC with e|⟨e,hf⟩
 .rw[e]at hb;exact k9 _ hb
 rw[e]at hb;unfold ky at hb;rw[gV,hf]at hb;exact hb
theorem Inv.mI(I:Inv X Y M H s):∀ b∈ky X.stack,H b=none:=fun b hb=>by
 rcases ai.mp (I.nV b hb)with e|hb
 .rw[e];exact I.free
 obtain⟨_,o,ho,_⟩:=I.ok.oP.mem hb;exact I.base.free b o ho (I.ok.IM b hb) fun z=>I.ok.Ct b z hb
theorem Inv.step{g':Array GenState}{d':Drawn}(I:Inv X Y M H s)(E_:∀ b∈ch,(b∈X.ex\/X.s₀.heap.objs.size<=b)/\b≠X.env.locals/\(∀ x c,X.env.cells.lookup x=some c->c≠b)/\∀ p∈X.pn++Y,p.1≠b)(keep:∀ b o,b≠X.env.locals->b∉X.fs->b∉ch->s.heap.get? b=some o->H b=none->h'.get? b=some o)(slot:∀ b o,b≠X.env.locals->b∈X.fs->b∉ch->s.heap.get? b=some o->H b=none->∃ sl,h'.get? b=some { o with slots:=sl })(free:∀ b o,b∉ch->s.heap.get? b=some o->H b=none->J b=none)(there:∀ b o,b∉ch->s.heap.get? b=some o->∃ o',h'.get? b=some o')(tups:∀ b xs,H b=some (.tup xs)->J b=some (.tup xs))(nh:∀ b o u,H b=some (.xA o u)->J b=some (.xA o u))(nS:∀ b ps,H b=some (.EV ps)->∃ more,J b=some (.EV (ps++more)))(ns:∀ m,s.heap.Ns X.env.locals m->h'.Ns X.env.locals m)(hok:mS X.prog X.w J h')(hg:AllBare g'): Inv X Y M J { s with heap:=h',gens:=g',drawn:=d',toks:=t' }:=by
 have Zs:∀ b o,X.s₀.heap.get? b=some o->b≠X.env.locals:=fun b o e=>bg (bo (aw e) I.ok.above)
 have UI:∀ b o,X.s₀.heap.get? b=some o->b∉X.ex->b∉ch:=fun b o e hx hb=>by
  rcases(E_ b hb).1 with z|z
  .exact hx z
  exact absurd (bo (aw e) z) (cw _)
 have cellK:∀ x c,X.env.cells.lookup x=some c->∀ v,s.heap.IsCell c v->h'.IsCell c v:=fun x c e v ⟨o,ho,hd⟩=>by
  have Q2:c∉ch:=fun z=>(E_ c z).2.2.1 x c e rfl
  by_cases hc:c∈X.fs
  .obtain⟨sl,q⟩:=slot c o (I.N1 x c e) hc Q2 ho (I.lj x c e)
   exact⟨_,q,hd⟩
  exact⟨o,keep c o (I.N1 x c e) hc Q2 ho (I.lj x c e),hd⟩
 refine⟨I.ok,I.os,hg,⟨fun b o e n hb hx=>?_,fun b o e n hb hx=>?_,fun b o e n hx=>?_,fun b o e hx=>?_,fun b xs e=>tups b xs (I.base.tups b xs e),fun b o xs e=>nh b o xs (I.base.nh b o xs e),fun b ps e=>?_⟩,?_,fun x c e=>?_,?_,fun x c e=>?_,fun p hp=>?_,hok,I.len⟩
 .exact keep b o (Zs b o e) hb (UI b o e hx) (I.base.keep b o e n hb hx) (I.base.free b o e n hx)
 .obtain⟨sl,e1⟩:=I.base.slot b o e n hb hx
  obtain⟨Mb,e2⟩:=slot b _ (Zs b o e) hb (UI b o e hx) e1 (I.base.free b o e n hx);exact⟨Mb,e2⟩
 .obtain⟨o',e1⟩:=I.base.there b o e hx
  exact free b o' (UI b o e hx) e1 (I.base.free b o e n hx)
 .obtain⟨o',e1⟩:=I.base.there b o e hx
  exact there b o' (UI b o e hx) e1
 .obtain⟨m1,e1⟩:=I.base.nS b ps e
  obtain⟨m2,e2⟩:=nS b _ e1;exact⟨m1++m2,by rw[e2,Array.append_assoc]⟩
 .obtain⟨m,hn,hl⟩:=I.loc
  refine⟨m,ns m hn,fun i x v e1 e2 e3=>?_⟩;obtain⟨u,r,l⟩:=hl i x v e1 e2 e3;refine⟨u,r,?_⟩;rcases l with l|⟨k,c,e,z⟩
  .exact .inl l
  exact .inr ⟨k,c,e,cellK x c e _ z⟩
 .obtain⟨v,z⟩:=I.cell x c e
  exact⟨v,cellK x c e v z⟩
 .obtain⟨m,⟨o,_,_,ho,_⟩,_⟩:=I.loc
  exact free _ o (fun z=>(E_ _ z).2.1 rfl) ho I.free
 .obtain⟨v,o,ho,hd⟩:=I.cell x c e
  exact free c o (fun z=>(E_ c z).2.2.1 x c e rfl) ho (I.lj x c e)
 obtain⟨e,n,ne,nf,d⟩:=I.pin p hp;have Q2:p.1∉ch:=fun z=>(E_ p.1 z).2.2.2 p hp rfl
 exact⟨keep p.1 p.2 ne nf Q2 e n,free p.1 p.2 Q2 e n,ne,nf,d⟩
theorem Inv.un(I:Inv X Y M H s)(u:Un X.fs [] H J s.heap h')(hok:mS X.prog X.w J h'):Inv X Y M J { s with heap:=h',toks:=t' }:=by
 obtain⟨m,⟨o,es,ep,ho,r⟩,_⟩:=id I.loc;obtain⟨sl,hL⟩:=u.any ho I.free oz
 exact I.step (g':=s.gens) (d':=s.drawn) (ch:=[]) (fun _ z=>nomatch z) (fun b o _ hb _ e n=>u.keep b o e n hb oz) (fun b o _ hb _ e n=>u.slot b o e n hb oz) (fun b o _ e n=>u.free b o e n oz) (fun b o _ e=>u.there b o e oz) u.tups u.nh u.nS (fun m' hm=>by
  obtain⟨o',X0,X1,yB,r'⟩:=hm;rw[ho]at yB;cases yB
  exact⟨_,X0,X1,hL,r'⟩) hok I.bare
theorem Inv.call{g':Array GenState}{d':Drawn}(I:Inv X Y M H s)(u:Un (ky X.stack) ch H J s.heap h')(hok:mS X.prog X.w J h')(hg:AllBare g')(E_:∀ b∈ch,(b∈X.ex\/X.s₀.heap.objs.size<=b)/\b≠X.env.locals/\(∀ x c,X.env.cells.lookup x=some c->c≠b)/\∀ p∈X.pn++Y,p.1≠b): Inv X Y M J { s with heap:=h',gens:=g',drawn:=d',toks:=t' }:=by
 obtain⟨m,⟨o,es,ep,ho,r⟩,_⟩:=id I.loc;obtain⟨sl,hL⟩:=u.any ho I.free fun z=>(E_ _ z).2.1 rfl
 exact I.step (ch:=ch) E_ (fun b o hL hb hc e n=>u.keep b o e n (fun z=>(ai.mp (I.nV b z)).elim hL hb) hc) (fun b o _ _ hc e n=>u.any e n hc) (fun b o hc e n=>u.free b o e n hc) (fun b o hc e=>u.there b o e hc) u.tups u.nh u.nS (fun m' hm=>by
  obtain⟨o',X0,X1,yB,r'⟩:=hm;rw[ho]at yB;cases yB
  exact⟨_,X0,X1,hL,r'⟩) hok hg
theorem Inv.turned(I:Inv X Y M H s)(k:∀ b o,b≠it->s.heap.get? b=some o->h'.get? b=some o)(hn:H it=none)(hL:it≠X.env.locals)(h1:it∈X.ex\/X.s₀.heap.objs.size<=it)(h2:∀ x c,X.env.cells.lookup x=some c->c≠it)(h3:∀ p∈X.pn++Y,p.1≠it):Inv X Y M H { s with heap:=h',toks:=t' }:=by
 have Zr:∀ b u,H b=some u->b≠it:=fun b u e z=>by rw[z,hn]at e;cases e
 refine I.step (g':=s.gens) (d':=s.drawn) (ch:=[it]) (fun b hb=>?_) (fun b o _ _ hc e _=>k b o (fun z=>hc (by simp[z])) e) (fun b o _ _ hc e _=>⟨o.slots,k b o (fun z=>hc (by simp[z])) e⟩) (fun _ _ _ _ n=>n)
  (fun b o hc e=>⟨o,k b o (fun z=>hc (by simp[z])) e⟩) (fun _ _ e=>e) (fun _ _ _ e=>e) (fun b ps e=>⟨#[],by rw[e];simp⟩) (fun m hm=>?_) (fun b u e=>?_) I.bare
 .have e:b=it:=by simpa using hb
  subst e;exact⟨h1,hL,h2,h3⟩
 .obtain⟨o,es,ep,ho,r⟩:=hm
  exact⟨o,es,ep,k _ o (aS hL) ho,r⟩
 refine(I.hok b u e).stay (fun c v hc q=>k c v ?_ q) (fun _ q=>q) fun _ _ q=>q
 rcases hc with z|z
 .rw[z];exact Zr b u e
 exact Zr c _ z
theorem Inv.tok(I:Inv X Y M H s)(t:Nat):Inv X Y M H { s with toks:=t }:=I.un (h':=s.heap) (t':=t) Un.refl I.hok
theorem Inv.kept{t':Nat}(I:Inv X Y M H s)(k:∀ b u,s.heap.get? b=some u->h'.get? b=some u):Inv X Y M H { s with heap:=h',toks:=t' }:=I.un (Un.kept k) (I.hok.kept k)
theorem Inv.laid{a:Addr}{o:HO}{t':Nat}(I:Inv X Y M H s)(k:∀ b u,s.heap.get? b=some u->h'.get? b=some u)(hp:s.heap.objs.size<=a)(new:ft X.prog X.w (upd H a o) h' a o): Inv X Y M (upd H a o) { s with heap:=h',toks:=t' }:=I.un (Un.laid k hp (I.hok.fresh hp)) (I.hok.laid k hp new)
theorem Inv.write{x e:Addr}{o:HO}{t':Nat}(I:Inv X Y M H s)(mu:Um (H x))(he:e=x\/H e=some (.own x))(k:∀ b u,b≠e->s.heap.get? b=some u->h'.get? b=some u)(OW:∃ u,h'.get? e=some u)(new:ft X.prog X.w (upd H x o) h' x o):Inv X Y M (upd H x o) { s with heap:=h',toks:=t' }:=I.un (Un.write mu he k OW) (I.hok.write mu he k OW new)
theorem Inv.weak{σ':List (Option V)}(I:Inv X Y M H s)(hl:σ'.length=M.length)(w:∀(i:Nat) v,σ'[i]?=some (some v)->M[i]?=some (some v)):Inv X Y σ' H s :=
 ⟨I.ok,I.os,I.bare,I.base,let ⟨m,hn,CU⟩:=I.loc;⟨m,hn,fun i x v e1 e2 e3=>CU i x v e1 (w i v e2) e3⟩,I.cell,I.free,I.lj,I.pin,I.hok,hl.trans I.len⟩
theorem Inv.rp{J':List (Addr×Obj)}(I:Inv X Y M H s)(h:∀ p∈J',s.heap.get? p.1=some p.2/\H p.1=none/\p.1≠X.env.locals/\p.1∉X.fs/\∀ v,p.2.data≠.cell v):Inv X J' M H s :=
 ⟨I.ok,I.os,I.bare,I.base,I.loc,I.cell,I.free,I.lj,fun p hp=>(a_.mp hp).elim (fun z=>I.pin p (xi _ z)) (h p),I.hok,I.len⟩
theorem wF(hN:N.Nodup)(a:N[i]?=some x)(b:N[j]?=some x):i=j:=by
 obtain⟨h1,e1⟩:=List.getElem?_eq_some_iff.mp a;obtain⟨h2,e2⟩:=List.getElem?_eq_some_iff.mp b;exact(List.getElem_inj hN).mp (e1.trans e2.symm)
theorem uF{aad:Model}{Q:Unit->Shared->Prop}(I:Inv X Y M H s)(hN:X.N.Nodup)(hi:X.N[i]?=some x)(hx:Loc X.env.scope x)(r:RelV v u)
  (h:∀ s',Inv X Y (M.set i (some v)) H s'->(∃ a,Heap.SameBut a s.heap s'.heap/\(a=X.env.locals\/X.env.cells.lookup x=some a))->Q () s') (hf:X.fn x=true\/X.env.scope.names.lookup x=some .local:=by first|exact .inl rfl|exact .inr rfl|assumption):wpAny aad A (storeName X.env x u) Q E s:=by
 obtain⟨m,hn,hl⟩:=id I.loc;have NJ:(X.env.scope.kind == .class||(X.env.scope.kind == .module&&X.env.locals != X.env.globals))=false:=by rw[I.ok.kind];rfl
 have ZV:i<M.length:=by rw[I.len];exact(List.getElem?_eq_some_iff.mp hi).1
 have N1:=I.N1
 have tracked:∀{a:Addr}{h':Heap},(∃ o,s.heap.get? a=some o/\H a=none)->Heap.SameBut a s.heap h'->mS X.prog X.w H h':=fun {a h'} ha hs b ob e=>by
  obtain⟨_,_,hfree⟩:=ha;refine(I.hok b ob e).stay (fun c w' hc q=>(hs.2 c ?_).trans q) (fun _ q=>q) fun _ _ q=>q
  rintro rfl;rcases hc with rfl|hc
  .rw[hfree]at e;cases e
  rw[hfree]at hc;cases hc
 rcases hx with hk|hk
 .refine wpAny_storeName_local hk hn (fun h' hn' hs=>?_) NJ
  obtain⟨oL,_,_,Sj,_⟩:=id hn;refine h _ ⟨I.ok,I.os,I.bare,⟨fun b o e n hb hx=>?_,fun b o e n hb hx=>?_,I.base.free,fun b o e hx=>?_,I.base.tups,I.base.nh,I.base.nS⟩,⟨_,hn',fun j y v' e1 e2 e3=>?_⟩,fun y c e=>?_,I.free,I.lj,fun p hp=>?_,tracked ⟨oL,Sj,I.free⟩ hs,by simpa using I.len⟩ ⟨_,hs,.inl rfl⟩
  .exact(hs.2 b (bg (bo (aw e) I.ok.above))).trans (I.base.keep b o e n hb hx)
  .obtain⟨sl,e1⟩:=I.base.slot b o e n hb hx
   exact⟨sl,(hs.2 b (bg (bo (aw e) I.ok.above))).trans e1⟩
  .obtain⟨o',e1⟩:=I.base.there b o e hx
   exact⟨o',(hs.2 b (bg (bo (aw e) I.ok.above))).trans e1⟩
  .by_cases hj:j=i
   .subst hj
    rw[hi]at e1;cases e1;rw[List.getElem?_set_self ZV]at e2;cases e2;exact⟨u,r,.inl ⟨hk,oz⟩⟩
   rw[List.getElem?_set_ne (aS hj)]at e2;obtain⟨u',r',q⟩:=hl j y v' e1 e2 e3;refine⟨u',r',?_⟩;rcases q with⟨k,e⟩|⟨k,c,e,z⟩
   .refine .inl ⟨k,?_⟩
    have:y≠x:=fun e=>hj (wF hN e1 (e ▸ hi))
    simp[this,e]
   exact .inr ⟨k,c,e,z.sameBut hs (N1 y c e)⟩
  .obtain⟨w',z⟩:=I.cell y c e
   exact⟨w',z.sameBut hs (N1 y c e)⟩
  obtain⟨e,n,ne,nf,d⟩:=I.pin p hp;exact⟨(hs.2 p.1 ne).trans e,n,ne,nf,d⟩
 have Xi:X.fn x=true:=by
  rcases hf with z|z
  .exact z
  rw[z]at hk;cases hk
 obtain⟨c,hc⟩:=I.ok.has x (.inl hk);obtain⟨w',z⟩:=I.cell x c hc;refine wpAny_storeName_cell I.ok.kind hk hc z (fun h' x_ hs=>?_);obtain⟨oc,ZM,WW⟩:=id z;refine h { s with heap:=h' } ⟨I.ok,I.os,I.bare,⟨fun b o e n hb hx=>?_,fun b o e n hb hx=>?_,I.base.free,fun b o e hx=>?_,I.base.tups,I.base.nh,I.base.nS⟩,⟨m,hn.sameBut hs (aS (N1 x c hc)),fun j y v' e1 e2 e3=>?_⟩,fun y c' e=>?_,I.free,I.lj,fun p hp=>?_,tracked ⟨oc,ZM,I.lj x c hc⟩ hs,by simpa using I.len⟩ ⟨c,hs,.inr hc⟩
 .exact(hs.2 b (bg (bo (aw e) (I.ok.N2 x c Xi hc)))).trans (I.base.keep b o e n hb hx)
 .obtain⟨sl,e1⟩:=I.base.slot b o e n hb hx
  exact⟨sl,(hs.2 b (bg (bo (aw e) (I.ok.N2 x c Xi hc)))).trans e1⟩
 .obtain⟨o',e1⟩:=I.base.there b o e hx
  exact⟨o',(hs.2 b (bg (bo (aw e) (I.ok.N2 x c Xi hc)))).trans e1⟩
 .by_cases hj:j=i
  .subst hj
   rw[hi]at e1;cases e1;rw[List.getElem?_set_self ZV]at e2;cases e2;exact⟨u,r,.inr ⟨.inl hk,c,hc,x_⟩⟩
  rw[List.getElem?_set_ne (aS hj)]at e2;obtain⟨u',r',q⟩:=hl j y v' e1 e2 e3;refine⟨u',r',?_⟩;rcases q with q|⟨k,c',e,z'⟩
  .exact .inl q
  refine .inr ⟨k,c',e,z'.sameBut hs ?_⟩;rintro rfl;exact hj (wF hN e1 (I.ok.inj _ _ _ e hc ▸ hi))
 .by_cases Vd:c'=c
  .subst Vd;exact⟨_,x_⟩
  obtain⟨w2,z2⟩:=I.cell y c' e;exact⟨w2,z2.sameBut hs Vd⟩
 obtain⟨e,n,ne,nf,d⟩:=I.pin p hp;refine⟨(hs.2 p.1 ?_).trans e,n,ne,nf,d⟩;intro q;rw[q,ZM]at e;have q':oc=p.2:=kK e;exact d w' (by rw[<- q'];exact WW)
theorem mY{aad:Model}{Q:Unit->Shared->Prop}(I:Inv X Y M H s)(hN:X.N.Nodup)(hi:X.N[i]?=some x)(hx:Loc X.env.scope x)(r:RelV v u)
  (h:∀ s',Inv X Y (M.set i (some v)) H s'->Q () s') (hf:X.fn x=true\/X.env.scope.names.lookup x=some .local:=by first|exact .inl rfl|exact .inr rfl|assumption):wpAny aad A (storeName X.env x u) Q E s :=
 uF I hN hi hx r (fun s' I' _=>h s' I') hf
theorem Inv.LB(I:Inv X Y M H s)(ho:s'.os=s.os)(u:Un (ky X.stack) ch H J s.heap s'.heap)(hok:mS X.prog X.w J s'.heap)(hg:AllBare s'.gens)(E_:∀ b∈ch,(b∈X.ex\/X.s₀.heap.objs.size<=b)/\b≠X.env.locals/\(∀ x c,X.env.cells.lookup x=some c->c≠b)/\∀ p∈X.pn++Y,p.1≠b):Inv X Y M J s':=by
 obtain⟨h',g',d',t',o'⟩:=s';have e:o'=s.os:=ho;subst e;exact I.call (g':=g') (t':=t') (d':=d') u hok hg E_
end
abbrev XK:=Value->Option Addr->Hp->Prop
abbrev St:=List (Option V)
end L2
variable{M:L2.St}
namespace L2
open PySem PySem.Spec PyProof.Rows
abbrev VK:=V->Hp->Prop
abbrev TE:=St->Hp->VK->Prop
end L2
variable{ta tb te tc to tl tv td ty:L2.TE}{JO:List (L2.TE×L2.TE)}
namespace L2
open PySem PySem.Spec PyProof.Rows
abbrev TT:=St->Hp->(Bool->Hp->Prop)->Prop
abbrev TA:=St->Hp->(List V->Hp->Prop)->Prop
structure Ends where
 nx:St->Hp->Prop
 rt:VK
 bk:St->Hp->Prop:=fun _ _=>False
 ct:St->Hp->Prop:=fun _ _=>False
abbrev TS:=Ends->St->Hp->Prop
inductive EP(X:Cx)(Y:List (Addr×Obj))(M:St)(Q:VK)(u:Value)(s':Shared):Prop
 |mk(v:V)(J:Hp)(_:Inv X Y M J s')(_:RelV v u)(_:Q v J)
inductive TP(X:Cx)(Y:List (Addr×Obj))(M:St)(Q:Bool->Hp->Prop)(b:Bool)(s':Shared):Prop
 |mk(J:Hp)(_:Inv X Y M J s')(_:Q b J)
inductive AP(X:Cx)(Y:List (Addr×Obj))(M:St)(Q:List V->Hp->Prop)(us:List Value)(s':Shared):Prop
 |mk(vs:List V)(J:Hp)(_:Inv X Y M J s')(_:Vals vs us)(_:Q vs J)
def SP(X:Cx)(Y:List (Addr×Obj))(D:Ends)(f:Flow)(s':Shared):Prop :=
 match f with
 | .next=>∃ σ' J,Inv X Y σ' J s'/\D.nx σ' J
 | .brk=>∃ σ' J,Inv X Y σ' J s'/\D.bk σ' J
 | .cont=>∃ σ' J,Inv X Y σ' J s'/\D.ct σ' J
 | .ret u=>∃ v σ' J,Inv X Y σ' J s'/\RelV v u/\D.rt v J
def PE(X:Cx)(e:Expr)(t:TE):Prop :=
 ∀(Y:List (Addr×Obj))(s:Shared)(M:St)(H:Hp)(Q:VK),Inv X Y M H s->t M H Q->wpAny (model X.prog X.w) X.A (eval e X.env) (EP X Y M Q) X.xe s
def PT(X:Cx)(e:Expr)(t:TT):Prop :=
 ∀(Y:List (Addr×Obj))(s:Shared)(M:St)(H:Hp)(Q:Bool->Hp->Prop),Inv X Y M H s->t M H Q->wpAny (model X.prog X.w) X.A (isTrue e X.env (eval e X.env)) (TP X Y M Q) X.xe s
def PW(X:Cx)(e:Expr)(t:TT):Prop :=
 ∀(whole:Sem Value)(Y:List (Addr×Obj))(s:Shared)(M:St)(H:Hp)(Q:Bool->Hp->Prop),Inv X Y M H s->t M H Q->wpAny (model X.prog X.w) X.A (isTrue e X.env whole) (TP X Y M Q) X.xe s
theorem PW.pt{t:TT}(h:PW X e t):PT X e t:=h _
def PA(X:Cx)(es:List Expr)(t:TA):Prop :=
 ∀(pos:Pos)(Y:List (Addr×Obj))(s:Shared)(M:St)(H:Hp)(Q:List V->Hp->Prop),Inv X Y M H s->t M H Q->wpAny (model X.prog X.w) X.A (spliced (backTo pos (starEach es X.env))) (AP X Y M Q) X.xe s
def PS(X:Cx)(st:Stmt)(t:TS):Prop :=
 ∀(Y:List (Addr×Obj))(s:Shared)(M:St)(H:Hp)(D:Ends),Inv X Y M H s->t D M H->wpAny (model X.prog X.w) X.A (exec st X.env) (SP X Y D) X.xe s
def y9(X:Cx)(st:List Stmt)(t:TS):Prop :=
 ∀(Y:List (Addr×Obj))(s:Shared)(M:St)(H:Hp)(D:Ends),Inv X Y M H s->t D M H->wpAny (model X.prog X.w) X.A (execs st X.env) (SP X Y D) X.xe s
theorem thn{α:Type}{t:Sem α}{Q Q':α->Shared->Prop}{aad:Model}(h:wpAny aad A t Q E s)(hQ:∀ a s,Q a s->Q' a s):wpAny aad A t Q' E s:=dQ h hQ fun _ _ x=>x
section
theorem bin{a b:Expr}{ta tb:TE}(ha:PE X a ta)(hb:PE X b tb){Y:List (Addr×Obj)}{s:Shared}{M:St}{H:Hp}{R:V->V->Hp->Prop}(I:Inv X Y M H s)(h:ta M H fun x H1=>tb M H1 fun y H2=>R x y H2){α:Type}{Q:α->Shared->Prop}{f:Value->Value->Sem α}(hf:∀ v u s2 x y H2,Inv X Y M H2 s2->RelV x v->RelV y u->R x y H2->wpAny (model X.prog X.w) X.A (f v u) Q X.xe s2): wpAny (model X.prog X.w) X.A (eval a X.env) (fun v s₁=>wpAny (model X.prog X.w) X.A (eval b X.env) (fun u s₂=>wpAny (model X.prog X.w) X.A (f v u) Q X.xe s₂) X.xe s₁) X.xe s:=by
 refine thn (ha Y s M H _ I h) fun v s1 ⟨x,H1,I1,r1,q1⟩=>?_
 refine thn (hb Y s1 M H1 _ I1 q1) fun u s2 ⟨y,H2,I2,r2,q2⟩=>?_
 exact hf v u s2 x y H2 I2 r1 r2 q2
inductive Fs(i:Nat)(M:St)(H:Hp)(Q:VK):Prop
 |mk(v:_)(_:M[i]?=some (some v))(_:Q v H)
def tC(v:V):TE:=fun _ H Q=>Q v H
theorem wG(hN:X.N[i]?=some x) (hv:Uj X.env.scope x) (hd:(x==("__debug__":Str))=false:=by decide) (y6:(x==("__classdict__":Str))=false:=by decide):PE X (.Name x pos) (Fs i):=by
 intro Y s M H Q I h;obtain⟨v,e,h⟩:=h;obtain⟨m,hn,hl⟩:=I.loc;obtain⟨u,r,l⟩:=hl i x v hN e hv;have fin:EP X Y M Q u s:=⟨v,H,I,r,h⟩
 rcases l with⟨hk,hm⟩|⟨hk,c,hc,A'⟩
 .exact wpAny_Name (wpAny_loadName_local I.ok.kind hk hn hm fin) hd
 rcases hk with hk|hk
 .exact wpAny_Name (wpAny_loadName_cell I.ok.kind hk hc A' fin) hd
 exact wpAny_Name (wpAny_loadName_free I.ok.kind hk hc A' fin y6) hd
theorem ak{i j pos}:PE X (.Constant (.int i) j pos) (tC (.int i)):=fun _ _ _ H _ I h=>wpAny_Constant_int ⟨.int i,H,I.tok _,⟨_,rfl⟩,h⟩
theorem fB{b j pos}:PE X (.Constant (.bool b) j pos) (tC (.bl b)):=fun _ _ _ H _ I h=>Constant_bool ⟨.bl b,H,I,rfl,h⟩
theorem bM{j pos}:PE X (.Constant .none j pos) (tC .non):=fun _ _ _ H _ I h=>Constant_none ⟨.non,H,I,rfl,h⟩
theorem az{x j pos}:PE X (.Constant (.str x) j pos) (tC (.str x)):=fun _ _ _ H _ I h=>Calls.Constant_str ⟨.str x,H,I.tok _,⟨_,rfl⟩,h⟩
def Gl(X:Cx)(x:Str):Prop:=X.env.kindOf x=some .globalImplicit
theorem je(I:Inv X Y M H s)(hg:Gl X x)(hm:X.mg x=some u)(h:Q u s)
  (hd:(x==("__debug__":Str))=false:=by decide):wpAny (model X.prog X.w) X.A (eval (.Name x pos) X.env) Q E s :=
 Calls.Name_function_global I.ok.kind hg (Calls.loadGlobal_global (by rw[I.ok.glob];exact I.mod.glob.keeps I.bk) hm h) hd
theorem gP(I:Inv X Y M H s)(hg:Gl X x)(hm:X.mg x=none)(hv:bootBuiltins x=some u)(h:Q u s)
  (hn:x≠"__name__":=by decide) (hd:(x==("__debug__":Str))=false:=by decide):wpAny (model X.prog X.w) X.A (eval (.Name x pos) X.env) Q E s:=by
 obtain⟨mb,h1,h2⟩:=I.mod.blt;exact Calls.Name_function_global I.ok.kind hg (Calls.loadGlobal_builtin (by rw[I.ok.glob];exact I.mod.glob.keeps I.bk) hm (by rw[I.ok.blt];exact h1.keeps I.bk) ((h2 x hn).trans hv) h) hd
theorem Mg(hg:Gl X x) (hm:X.mg x=some u) (r:RelV v u) (hd:(x==("__debug__":Str))=false:=by decide):PE X (.Name x pos) (tC v):=
 fun _ _ _ H _ I h=>je I hg hm ⟨v,H,I,r,h⟩ hd
theorem Mh(hg:Gl X x) (hm:X.mg x=none) (hv:bootBuiltins x=some u) (r:RelV v u) (hn:x≠"__name__":=by decide) (hd:(x==("__debug__":Str))=false:=by decide):PE X (.Name x pos) (tC v):=
 fun _ _ _ H _ I h=>gP I hg hm hv ⟨v,H,I,r,h⟩ hn hd
variable{a b:Expr}
def PC(X:Cx)(op:CmpOp)(a b:Expr)(t:TE):Prop :=
 ∀(Y:List (Addr×Obj))(s:Shared)(M:St)(H:Hp)(Q:VK),Inv X Y M H s->t M H Q ->
  wpAny (model X.prog X.w) X.A (eval a X.env) (fun v s₁=>wpAny (model X.prog X.w) X.A (eval b X.env) (fun u s₂=>wpAny (model X.prog X.w) X.A (compareOp op v u) (EP X Y M Q) X.xe s₂) X.xe s₁) X.xe s
inductive iB(Q:Bool->Hp->Prop)(x:V)(H:Hp):Prop
 |mk(c:Bool)(_:x=.bl c)(_:Q c H)
def tB(t:TE):TT:=fun M H Q=>t M H fun x H1=>iB Q x H1
theorem O5{op:CmpOp}{t:TE}(h:PC X op a b t)(h1:behindInMarks op b=false:=by first|exact DZ _ b9 b9|rfl):PE X (.Compare a [op] [b] pos) t:=fun Y s M H Q I hw=>wpAny_Compare1 (h Y s M H Q I hw) h1
theorem rQ{op:CmpOp}{t:TE}(h:PC X op a b t)(h1:behindInMarks op b=false:=by first|exact DZ _ b9 b9|rfl):PT X (.Compare a [op] [b] pos) (tB t):=by
 intro Y s M H Q I hw;refine wpAny_isTrue_Compare1 (thn (h Y s M H _ I hw) fun v s1 h1=>thn h1 fun u s2 h2=>thn h2 fun c s3 ⟨x,H1,I1,r1,q1⟩=>?_) h1;obtain⟨d,rfl,q⟩:=q1;cases r1;exact df ⟨H1,I1,q⟩
theorem cG{t:TE}(h:PE X e t)(he:∀ whole,isTrue e X.env whole=(do let v <- whole;standAt e.pos;holding [v] (truthy v)):=by intro _;rfl):PT X e (tB t):=by
 intro Y s M H Q I hw;refine isTrue_plain (thn (h Y s M H _ I hw) fun v s1 ⟨x,H1,I1,r1,q1⟩=>?_) (he _);obtain⟨d,rfl,q⟩:=q1;cases r1;exact df ⟨H1,I1,q⟩
variable{tA Uy:TT}{rest:List Expr}
def RX(t u:TT):TT:=fun M H Q=>t M H fun c H1=>if c=true then u M H1 Q else Q false H1
def tOr(t u:TT):TT:=fun M H Q=>t M H fun c H1=>if c=true then Q true H1 else u M H1 Q
def RZ(t:TT):TT:=fun M H Q=>t M H fun c H1=>Q (!c) H1
theorem gk(ha:PT X a tA):PW X (.BoolOp .And [a] pos) tA:=by
 intro wh Y s M H Q I h;refine isTrue_and (thn (ha Y s M H Q I h) fun c s1 e=>?_);cases c with
 |true=>exact isTrue_and_nil e
 |false=>exact e
theorem eZ(ha:PT X a tA):PW X (.BoolOp .Or [a] pos) tA:=by
 intro wh Y s M H Q I h;refine isTrue_or (thn (ha Y s M H Q I h) fun c s1 e=>?_);cases c with
 |false=>exact isTrue_or_nil e
 |true=>exact e
theorem gQ(ha:PT X a tA)(hb:PW X (.BoolOp .And (b::rest) pos) Uy):PW X (.BoolOp .And (a::b::rest) pos) (RX tA Uy):=by
 intro wh Y s M H Q I h;refine isTrue_and (thn (ha Y s M H _ I h) fun c s1 ⟨H1,I1,q1⟩=>?_);cases c with
 |true=>exact hb wh Y s1 M H1 Q I1 q1
 |false=>exact⟨H1,I1,q1⟩
theorem dN(ha:PT X a tA)(hb:PW X (.BoolOp .Or (b::rest) pos) Uy):PW X (.BoolOp .Or (a::b::rest) pos) (tOr tA Uy):=by
 intro wh Y s M H Q I h;refine isTrue_or (thn (ha Y s M H _ I h) fun c s1 ⟨H1,I1,q1⟩=>?_);cases c with
 |true=>exact⟨H1,I1,q1⟩
 |false=>exact hb wh Y s1 M H1 Q I1 q1
theorem cZ(ha:PT X a tA):PT X (.UnaryOp .Not a pos) (RZ tA):=by
 intro Y s M H Q I h;exact isTrue_not (thn (ha Y s M H (fun c H1=>Q (!c) H1) I h) fun c s1 ⟨H1,I1,q1⟩=>⟨H1,I1,q1⟩)
def Q4(ta tb:TE):TE:=fun M H Q=>ta M H fun x H1=>∃ c,x=.bl c/\if c=true then tb M H1 Q else Q (.bl false) H1
def R0(ta tb:TE):TE:=fun M H Q=>ta M H fun x H1=>∃ c,x=.bl c/\if c=true then Q (.bl true) H1 else tb M H1 Q
def Q5(ta:TE):TE:=fun M H Q=>ta M H fun x H1=>∃ c,x=.bl c/\Q (.bl (!c)) H1
theorem j8{op}{t:TE}(h:PE X a t):PE X (.BoolOp op [a] pos) t:=fun Y s M H Q I hw=>BoolOp_one (h Y s M H Q I hw)
theorem nZ(ha:PE X a ta)(hb:PE X (.BoolOp .And (b::rest) pos) tb):PE X (.BoolOp .And (a::b::rest) pos) (Q4 ta tb):=by
 intro Y s M H Q I h;refine BoolOp_and (thn (ha Y s M H _ I h) fun v s1 ⟨x,H1,I1,r1,q1⟩=>?_);obtain⟨c,rfl,q1⟩:=q1;cases r1;refine df ?_;cases c with
 |true=>exact hb Y s1 M H1 Q I1 q1
 |false=>exact⟨.bl false,H1,I1,Z,q1⟩
theorem Lg(ha:PE X a ta)(hb:PE X (.BoolOp .Or (b::rest) pos) tb):PE X (.BoolOp .Or (a::b::rest) pos) (R0 ta tb):=by
 intro Y s M H Q I h;refine BoolOp_or (thn (ha Y s M H _ I h) fun v s1 ⟨x,H1,I1,r1,q1⟩=>?_);obtain⟨c,rfl,q1⟩:=q1;cases r1;refine df ?_;cases c with
 |false=>exact hb Y s1 M H1 Q I1 q1
 |true=>exact⟨.bl true,H1,I1,Z,q1⟩
theorem O6(ha:PE X a ta):PE X (.UnaryOp .Not a pos) (Q5 ta):=by
 intro Y s M H Q I h;refine UnaryOp_ (thn (ha Y s M H _ I h) fun v s1 ⟨x,H1,I1,r1,q1⟩=>?_);obtain⟨c,rfl,q1⟩:=q1;cases r1;exact not_of (df ⟨.bl (!c),H1,I1,rfl,q1⟩)
def tIf(t:TT)(ta tb:TE):TE:=fun M H Q=>t M H fun c H1=>if c=true then ta M H1 Q else tb M H1 Q
theorem fH{c:Expr}(hc:PT X c tA)(ha:PE X a ta)(hb:PE X b tb):PE X (.IfExp c a b pos) (tIf tA ta tb):=by
 intro Y s M H Q I h;refine wpAny_IfExp (thn (hc Y s M H _ I h) fun d s1 ⟨H1,I1,q1⟩=>?_);cases d with
 |true=>exact ha Y s1 M H1 Q I1 q1
 |false=>exact hb Y s1 M H1 Q I1 q1
end
def b5(K:W.Frag)(H:Hp)(a:Addr)(xs:List V):Prop :=
 Rd H a (.lst xs) \/
  ∃(o:Obj) (its:Array Value) (n:Nat),K.lookup a=some o/\o.cls=.type "list"/\o.dict=none/\o.data=.seq its n/\its.size<=sizeLine/\Vals xs its.toList
def SqT(K:W.Frag)(H:Hp)(a:Addr)(xs:List V):Prop :=
 Rd H a (.tup xs) \/
  ∃(o:Obj) (its:Array Value) (n:Nat),K.lookup a=some o/\o.cls=.type "tuple"/\o.data=.seq its n/\its.size<=sizeLine/\Vals xs its.toList
def R1:Value->Option V
 | .none=>some .non
 | .bool b=>some (.bl b)
 | .int i _=>some (.int i)
 | .str x _=>some (.str x)
 | .bytes b _=>some (.byt b)
 | .float b _=>some (.flt b)
 | .ref a=>some (.ref a)
 | .type n=>some (.ty n)
 |_=>none
theorem RelV.abs{x:V}(r:RelV x u):R1 u=some x:=by
 cases x with
 |non=>cases r;rfl
 |bl _=>cases r;rfl
 |int _=>obtain⟨t,rfl⟩:=r;rfl
 |str _=>obtain⟨t,rfl⟩:=r;rfl
 |byt _=>obtain⟨t,rfl⟩:=r;rfl
 |flt _=>obtain⟨t,rfl⟩:=r;rfl
 |ref _=>cases r;rfl
 |ty _=>cases r;rfl
theorem RelV.inj{x:V}(r:RelV x u)(q:RelV y u):x=y:=kK (r.abs.symm.trans q.abs)
theorem Vals.inj:∀{xs ys:List V}{us:List Value},Vals xs us->Vals ys us->xs=ys
 |_,_,_,.nil,.nil=>rfl
 |_,_,_,.cons r t,.cons r' t'=>by rw[r.inj r',Vals.inj t t']
theorem b5.of(h:H a=some (.lst xs)):b5 K H a xs:=.inl (.inl h)
theorem SqT.of(h:H a=some (.tup xs)):SqT K H a xs:=.inl (.inl h)
theorem Inv.list(I:Inv X Y M H s)(h:b5 X.K H a xs):∃ its:List Value,Vals xs its/\PlainL s.heap a its.toArray/\xs.length<=sizeLine:=by
 rcases h with h|⟨o,its,n,hk,hc,hd,hs,hz,r⟩
 .obtain⟨z,its,n,r,e⟩:=h.ok I.hok
  exact⟨its,r,⟨_,n,e,Z,Z,Z⟩,z⟩
 refine⟨its.toList,r,⟨o,n,I.kIn a o hk,hc,hd,by simpa using hs⟩,?_⟩;have e:=r.length;simp only[ax]at e;exact G
theorem Inv.tuple(I:Inv X Y M H s)(h:SqT X.K H a xs):∃ its:List Value,Vals xs its/\IsTup s.heap a its.toArray/\xs.length<=sizeLine:=by
 rcases h with h|⟨o,its,n,hk,hc,hs,hz,r⟩
 .obtain⟨z,its,r,p⟩:=h.ok I.hok
  exact⟨its,r,p.tup,z⟩
 refine⟨its.toList,r,⟨o,I.kIn a o hk,hc,n,by simpa using hs⟩,?_⟩;have e:=r.length;simp only[ax]at e;exact G
theorem Inv.sq(I:Inv X Y M H s)(h:b5 X.K H a xs)(h':b5 X.K H a ys):xs=ys:=by
 obtain⟨its,r,⟨o,n,e,_,_,d⟩,_⟩:=I.list h;obtain⟨its',r',⟨o',n',e',_,_,d'⟩,_⟩:=I.list h';rw[e]at e';cases e';rw[d]at d'
 injection d' with d1 _
 have:its=its':=by simpa using b4 Array.toList d1
 subst this;exact r.inj r'
theorem Inv.pf(I:Inv X Y M H s)(h:SqT X.K H a xs)(h':SqT X.K H a ys):xs=ys:=by
 obtain⟨its,r,⟨o,e,_,n,d⟩,_⟩:=I.tuple h;obtain⟨its',r',⟨o',e',_,n',d'⟩,_⟩:=I.tuple h';rw[e]at e';cases e';rw[d]at d'
 injection d' with d1 _
 have:its=its':=by simpa using b4 Array.toList d1
 subst this;exact r.inj r'
abbrev Cx.ua(X:Cx)(E:Value->Shared->Prop):Cx:={ X with xe:=E }
abbrev Cx.Wi(X:Cx):Cx:=X.ua fun _ _=>False
theorem Cx.Ok.ua(ok:X.Ok)(E:Value->Shared->Prop):(X.ua E).Ok :=
 ⟨ok.mod,ok.kind,ok.glob,ok.blt,ok.above,ok.inj,ok.has,ok.N2,ok.hd,ok.frames,ok.OC,ok.Vq,ok.bs,ok.EH,ok.yy,ok.Ct,ok.oP,ok.IM⟩
theorem Cx.Ok.yi(ok:(X.ua E).Ok):X.Ok :=
 ⟨ok.mod,ok.kind,ok.glob,ok.blt,ok.above,ok.inj,ok.has,ok.N2,ok.hd,ok.frames,ok.OC,ok.Vq,ok.bs,ok.EH,ok.yy,ok.Ct,ok.oP,ok.IM⟩
theorem Inv.ua(I:Inv X Y M H s)(E:Value->Shared->Prop):Inv (X.ua E) Y M H s:=⟨I.ok.ua E,I.os,I.bare,I.base,I.loc,I.cell,I.free,I.lj,I.pin,I.hok,I.len⟩
theorem Inv.yi(I:Inv (X.ua E) Y M H s):Inv X Y M H s:=⟨I.ok.yi,I.os,I.bare,I.base,I.loc,I.cell,I.free,I.lj,I.pin,I.hok,I.len⟩
section
variable{rest:List Stmt}{t u:TS}
def Q6:TS:=fun D M H=>D.nx M H
def BK(t u:TS):TS:=fun D M H=>t { D with nx:=u D } M H
theorem aM:y9 X [] Q6:=fun _ _ M H _ I h=>kP ⟨M,H,I,h⟩
theorem aq(h1:PS X st t)(h2:y9 X rest u):y9 X (st::rest) (BK t u):=by
 intro Y s M H D I h;refine wpAny_execs_cons (thn (h1 Y s M H { D with nx:=u D } I h) fun f s1 q=>?_);cases f with
 | next =>
  obtain⟨σ',J,I',q⟩:=q;exact h2 Y s1 σ' J D I' q
 |ret v=>exact q
 |brk=>exact q
 |cont=>exact q
theorem au(h1:PS X st t):y9 X [st] t:=by
 intro Y s M H D I h;refine wpAny_execs_cons (thn (h1 Y s M H D I h) fun f s1 q=>?_);cases f with
 |next=>exact kP q
 |ret v=>exact q
 |brk=>exact q
 |cont=>exact q
def Q7:TS:=fun D M H=>D.ct M H
theorem yQ:PS X (.Continue pos) Q7:=fun _ _ M H _ I h=>wpAny_Continue ⟨M,H,I,h⟩
theorem Inv.quiet(I:Inv X Y M H s):interactive X.env=false:=by simp[interactive,I.ok.kind]
def Q8(te:TE):TS:=fun D M H=>te M H fun _ H1=>D.nx M H1
theorem bw(he:PE X e te)(hs:swapsWith e none pos.line X.env=pure false:=by rfl):PS X (.Expr e pos) (Q8 te):=by
 intro Y s M H D I h;exact wpAny_Expr_any (thn (he Y s M H _ I h) fun v s1 ⟨x,H1,I1,r1,q1⟩=>⟨M,H1,I1,q1⟩) I.quiet hs
def R3(te:TE):TS:=fun D M H=>te M H D.rt
theorem aC(he:PE X e te):PS X (.Return (some e) pos) (R3 te):=by
 intro Y s M H D I h;exact wpAny_Return_some (thn (he Y s M H _ I h) fun v s1 ⟨x,H1,I1,r1,q1⟩=>⟨x,M,H1,I1,r1,q1⟩)
def Q9:TS:=fun D _ H=>D.rt .non H
theorem Mi:PS X (.Return none pos) Q9:=fun _ _ M H _ I h=>wpAny_Return_none ⟨.non,M,H,I,rfl,h⟩
def R4(c:TT)(t u:TS):TS:=fun D M H=>c M H fun b H1=>if b=true then t D M H1 else u D M H1
theorem aO{c:Expr}{a b:List Stmt}{tc:TT}(hc:PT X c tc)(ha:y9 X a t)(hb:y9 X b u):PS X (.If c a b pos) (R4 tc t u):=by
 intro Y s M H D I h;refine wpAny_If (thn (hc Y s M H _ I h) fun d s1 ⟨H1,I1,q1⟩=>?_);cases d with
 |true=>exact ha Y s1 M H1 D I1 q1
 |false=>exact hb Y s1 M H1 D I1 q1
def Eb:TS:=fun _ _ _=>False
theorem qN:PS X st Eb:=fun _ _ _ _ _ _ h=>h.elim
theorem Ec{sts:List Stmt}:y9 X sts Eb:=fun _ _ _ _ _ _ h=>h.elim
end
abbrev TG:=V->St->Hp->(St->Hp->Prop)->Prop
abbrev LG:=List V->St->Hp->(St->Hp->Prop)->Prop
def PG(X:Cx)(target:Expr)(t:TG):Prop :=
 ∀(Y:List (Addr×Obj))(s:Shared)(M:St)(H:Hp)(v:V)(u:Value)(Q:St->Hp->Prop),Inv X Y M H s->RelV v u->t v M H Q ->
  wpAny (model X.prog X.w) X.A (assign target X.env u) (fun _ s'=>∃ σ' J,Inv X Y σ' J s'/\Q σ' J) X.xe s
def Pt(X:Cx)(ts:List Expr)(t:LG):Prop :=
 ∀(Y:List (Addr×Obj))(s:Shared)(M:St)(H:Hp)(vs:List V)(us:List Value)(Q:St->Hp->Prop),Inv X Y M H s->Vals vs us->t vs M H Q ->
  wpAny (model X.prog X.w) X.A (assignInOrder ((assignEach ts X.env).map (·.2)) us) (fun _ s'=>∃ σ' J,Inv X Y σ' J s'/\Q σ' J) X.xe s
abbrev Ia:=V->V->V->Hp->(Hp->Prop)->Prop
def O7(X:Cx)(t:Ia):Prop :=
 ∀(Y:List (Addr×Obj))(s:Shared)(M:St)(H:Hp)(o i v:V)(ov iv u:Value)(Q:Hp->Prop),Inv X Y M H s->RelV o ov->RelV i iv->RelV v u->t o i v H Q ->
  wpAny (model X.prog X.w) X.A (setItem ov iv u) (fun _ s'=>∃ J,Inv X Y M J s'/\Q J) X.xe s
abbrev VH:=V->V->Hp->VK->Prop
end L2
variable{ti:L2.VH}{D:L2.Ends}{tt:L2.TT}
namespace L2
open PySem PySem.Spec PyProof.Rows
def YV(X:Cx)(op:Operator)(t:VH):Prop :=
 ∀(Y:List (Addr×Obj))(s:Shared)(M:St)(H:Hp)(x y:V)(v u:Value)(Q:VK),Inv X Y M H s->RelV x v->RelV y u->t x y H Q ->
  wpAny (model X.prog X.w) X.A (inplaceOp op v u) (EP X Y M Q) X.xe s
def jN(i:Nat):TG:=fun v M H Q=>Q (M.set i (some v)) H
theorem pO(hN:X.N.Nodup)(hi:X.N[i]?=some x)(hx:Loc X.env.scope x)(hf:X.fn x=true\/X.env.scope.names.lookup x=some .local:=by first|exact .inl rfl|exact .inr rfl|assumption):PG X (.Name x pos) (jN i):=by
 intro Y s M H v u Q I r h;exact wpAny_assign_Name (mY I hN hi hx r (fun s' I'=>⟨_,H,I',h⟩) hf)
def R5:LG:=fun vs M H Q=>vs=[]/\Q M H
def Ra(t:TG)(u:LG):LG:=fun vs M H Q=>∃ v r,vs=v::r/\t v M H fun σ' J=>u r σ' J Q
theorem dO:Pt X [] R5:=by
 intro Y s M H vs us Q I r h;obtain⟨e,h⟩:=h;subst e;cases r;exact assignInOrder_nil ⟨M,H,I,h⟩
theorem bG{t:TG}{u:LG}(h1:PG X e t)(h2:Pt X es u)
  (hs:(assignEach (e::es) X.env).map (·.2)=assign e X.env::(assignEach es X.env).map (·.2):=by rfl):Pt X (e::es) (Ra t u):=by
 intro Y s M H vs us Q I r h;obtain⟨v,vr,e1,h⟩:=h;subst e1;cases r with
 | cons r rr =>
  rw[hs];refine assignInOrder_cons (thn (h1 Y s M H _ _ _ I r h) fun _ s1 ⟨σ1,H1,I1,q1⟩=>?_);exact h2 Y s1 σ1 H1 _ _ Q I1 rr q1
def O8(K:W.Frag)(n:Nat)(t:LG):TG:=fun v M H Q=>∃ a xs,v=.ref a/\SqT K H a xs/\xs.length=n/\t xs M H Q
theorem jA{k:Nat}{t:LG}(hc:X.calm=true)(h:Pt X es t)
  (hn:(assignEach es X.env).length=n:=by rfl) (ia:(assignEach es X.env).findIdx? (·.1)=none:=by rfl):PG X (.Tuple es k pos) (O8 X.K n t):=by
 intro Y s M H v u Q I r hw;obtain⟨a,xs,e1,hq,hl,hw⟩:=hw;subst e1;cases r;obtain⟨its,rv,ht,hz⟩:=I.tuple hq;refine assign_Tuple_tuple (I.ok.hd hc) ht (by simp[hn,<- hl,rv.length]) ia fun h' hx=>?_
 have I1:Inv X Y M H { s with heap:=h' }:=I.kept (t':=s.toks) fun b o e=>hx b o (bg (aw e)) e
 exact h Y _ M H xs _ Q I1 (by simpa using rv) hw
def R6(to ti:TE)(t:Ia):TG:=fun v M H Q=>to M H fun o H1=>ti M H1 fun i H2=>t o i v H2 fun H3=>Q M H3
theorem O9{o i:Expr}{ti:TE}{t:Ia}(ho:PE X o to)(hi:PE X i ti)(hs:O7 X t)
  (ha:∀ v,assign (.Subscript o i pos) X.env v=(do
   let ov <- holding [v] (eval o X.env)
   let iv <- holding [v,ov] (eval i X.env)
   standAt pos
   holding [v,ov,iv] (setItem ov iv v)
   release [v,ov,iv] []):=by intro _;rfl):PG X (.Subscript o i pos) (R6 to ti t):=by
 intro Y s M H v u Q I r h;rw[ha];refine ae (fz (thn (ho Y s M H _ I h) fun ov s1 ⟨x,H1,I1,r1,q1⟩=>?_));refine ae (fz (thn (hi Y s1 M H1 _ I1 q1) fun iv s2 ⟨y,H2,I2,r2,q2⟩=>?_));refine ae (wpAny_standAt (ae (fz (thn (hs Y s2 M H2 x y v ov iv u _ I2 r1 r2 r q2) fun _ s3 ⟨H3,I3,q3⟩=>?_))));exact wpAny_release ⟨M,H3,I3,q3⟩
def wH(te:TE)(g:TG):TS:=fun D M H=>te M H fun x H1=>g x M H1 D.nx
theorem Pa{g:TG}(he:PE X e te)(hg:PG X tg g)(hs:swapsWithSole [tg] e pos.line X.env=pure false:=by rfl)(hw:swappedStores [tg] e X.env=pure none:=by rfl)
  (h1:(assignEach [tg] X.env).map (·.2)=[assign tg X.env]:=by rfl):PS X (.Assign [tg] e pos) (wH te g):=by
 intro Y s M H D I h;refine wpAny_Assign_stores (thn (he Y s M H _ I h) fun v s1 ⟨x,H1,I1,r1,q1⟩=>?_) hs hw;rw[h1];exact thn (hg Y s1 M H1 x v _ I1 r1 q1) fun _ s2 q=>q
theorem iJ(hN:X.N.Nodup)(hi:X.N[i]?=some x)(hx:Loc X.env.scope x)(he:PE X e te)(hs:swapsWith e (some (.Name x pos')) pos.line X.env=pure false:=by rfl)(hf:X.fn x=true\/X.env.scope.names.lookup x=some .local:=by first|exact .inl rfl|exact .inr rfl|assumption):
  PS X (.Assign [.Name x pos'] e pos) (wH te (jN i)):=by
 intro Y s M H D I h;refine wpAny_Assign_Name (thn (he Y s M H _ I h) fun v s1 ⟨y,H1,I1,r1,q1⟩=>?_) hs;exact mY I1 hN hi hx r1 (fun s2 I2=>⟨_,H1,I2,q1⟩) hf
def Pb(i:Nat)(te:TE)(ti:VH):TS:=fun D M H=>∃ x,M[i]?=some (some x)/\te M H fun y H1=>ti x y H1 fun z H2=>D.nx (M.set i (some z)) H2
theorem Ed{op:Operator}(hN:X.N.Nodup)(hi:X.N[i]?=some x)(hx:Loc X.env.scope x)(he:PE X e te)(ho:YV X op ti)(hf:X.fn x=true\/X.env.scope.names.lookup x=some .local:=by first|exact .inl rfl|exact .inr rfl|assumption):
  PS X (.AugAssign (.Name x pos') op e pos) (Pb i te ti):=by
 intro Y s M H D I h;obtain⟨v,e1,h⟩:=h;obtain⟨m,hn,hl⟩:=I.loc;have VQ:Uj X.env.scope x:=by rcases hx with k|k;exact .inl k;exact .inr (.inl k)
 obtain⟨u,r,l⟩:=hl i x v hi e1 VQ;refine wpAny_AugAssign_Name ?_
 have go:wpAny (model X.prog X.w) X.A (eval e X.env) (fun w s₂=>wpAny (model X.prog X.w) X.A (inplaceOp op u w) (fun r s₃=>wpAny (model X.prog X.w) X.A (storeName X.env x r) (fun _=>SP X Y D .next) X.xe s₃) X.xe s₂) X.xe s:=by
  refine thn (he Y s M H _ I h) fun w s1 ⟨y,H1,I1,r1,q1⟩=>?_
  refine thn (ho Y s1 M H1 v y u w _ I1 r r1 q1) fun z s2 ⟨zv,H2,I2,r2,q2⟩=>?_
  exact mY I2 hN hi hx r2 (fun s3 I3=>⟨_,H2,I3,q2⟩) hf
 rcases l with⟨hk,hm⟩|⟨hk,c,hc,A'⟩
 .exact wpAny_loadName_local I.ok.kind hk hn hm go
 rcases hk with hk|hk
 .exact wpAny_loadName_cell I.ok.kind hk hc A' go
 rcases hx with k|k
 .have:X.env.scope.names.lookup x=some .free:=hk
  rw[k]at this;cases this
 have:X.env.scope.names.lookup x=some .free:=hk;rw[k]at this;cases this
def ipI(f:Int->Int->Int):VH:=fun x y H Q=>∃ i j,x=.int i/\y=.int j/\Q (.int (f i j)) H
theorem Pg:YV X .Add (ipI fun i j=>i+j):=by
 intro Y s M H x y v u Q I r1 r2 h;obtain⟨i,j,e1,e2,q⟩:=h;subst e1;subst e2;obtain⟨t,rfl⟩:=r1;obtain⟨t',rfl⟩:=r2;exact iadd_int ⟨.int _,H,I.tok _,⟨_,rfl⟩,q⟩
def Ph(c:TT)(tb:TS):TS:=fun D M H=>∃ W:Nat->St->Hp->Prop,(∃ m,W m M H)/\∀ m M H,W m M H ->
 c M H fun b H1=>if b=true then ∃ N:St->Hp->Prop,(∀ σ' J,N σ' J->∃ m',m'<m/\W m' σ' J)/\tb { D with nx:=N,ct:=N,bk:=D.nx } M H1 else D.nx M H1
theorem j9{c:Expr}{tc:TT}{tb:TS}(hp:PassesOwn (model X.prog X.w) X.A X.env X.xe)(hc:PT X c tc)(hb:y9 X body tb):PS X (.While c body [] pos) (Ph tc tb):=by
 intro Y s M H D I h;obtain⟨W,⟨m0,w0⟩,turn⟩:=h;refine wpAny_While (codeAny_whileLoop (fun n s'=>∃ σ' J,Inv X Y σ' J s'/\W n σ' J) ?_ m0 ⟨M,H,I,w0⟩);rintro n s1 ⟨σ1,H1,I1,w1⟩;refine i3 hp (thn (hc Y s1 σ1 H1 _ I1 (turn n σ1 H1 w1)) fun b s2 ⟨H2,I2,q2⟩=>?_);cases b with
 | true =>
  obtain⟨N,hN,q2⟩:=q2;rw[qp rfl];refine i3 hp (thn (hb Y s2 σ1 H2 _ I2 q2) fun f s3 q3=>?_);cases f with
  | next =>
   obtain⟨σ3,H3,I3,n3⟩:=q3;obtain⟨m',hm,w3⟩:=hN σ3 H3 n3;exact⟨m',hm,σ3,H3,I3,w3⟩
  | cont =>
   obtain⟨σ3,H3,I3,n3⟩:=q3;obtain⟨m',hm,w3⟩:=hN σ3 H3 n3;exact⟨m',hm,σ3,H3,I3,w3⟩
  |brk=>exact q3
  |ret v=>exact q3
 | false =>
  rw[bX ki];exact kP ⟨σ1,H2,I2,q2⟩
structure It where
 go:Nat->Hp->Prop
 JI:Nat->Hp->V->Hp->Prop
 stop:Nat->Hp->Prop
def iK(X:Cx)(Y:List (Addr×Obj))(H:Hp)(b:Addr):Prop :=
 H b=none/\b≠X.env.locals/\b∉X.fs/\(b∈X.ex\/X.s₀.heap.objs.size<=b)/\(∀ x c,X.env.cells.lookup x=some c->c≠b)/\∀ p∈X.pn++Y,p.1≠b
theorem Inv.tj(I:Inv X Y M H s)(hb:s.heap.objs.size<=b)(hn:J b=none):iK X Y J b:=by
 refine⟨hn,b_ (bo I.lt hb),I.Wj hb,.inr (g9 I.sz hb),fun x c e z=>?_,fun p hp z=>?_⟩
 .obtain⟨v,q⟩:=I.cell x c e
  exact absurd (bo q.lt (by rw[z];exact hb)) (cw _)
 exact absurd (bo (aw (I.pin p hp).1) (by rw[z];exact hb)) (cw _)
structure Turn(P:Program)(w:World)(K:W.Frag)(tg:Expr)(aac:It)(fp:List Addr)(it:Addr)(tn:Nat->Heap->Prop):Prop where
 mem:it∈fp
 obj:∀ i h,tn i h->∀ b∈fp,∃ o,h.get? b=some o/\∀ v,o.data≠.cell v
 keep:∀ i h h',tn i h->(∀ b∈fp,∀ o,h.get? b=some o->h'.get? b=some o)->tn i h'
 item:∀(X:Cx),X.prog=P->X.w=w->X.K=K->X.calm=true->∀(i:Nat)(Y:List (Addr×Obj))(s:Shared)(M:St)(H:Hp)(E:Value->Shared->Prop),Inv X Y M H s->(∀ b∈fp,iK X Y H b)->tn i s.heap->aac.go i H ->
  wpAny (model P w) X.A (pyNext (.ref it)) (fun r s1=>∃ u,r=some u /\
   wpAny (model P w) X.A (letOwnedTupleGo tg (.ref it) u) (fun _ s2=>∃ x J,Inv X Y M J s2/\RelV x u/\aac.JI i H x J/\tn (i+1) s2.heap/\∀ b∈fp,J b=none) E s1) E s
 done:∀(X:Cx),X.prog=P->X.w=w->X.K=K->X.calm=true->∀(i:Nat)(Y:List (Addr×Obj))(s:Shared)(M:St)(H:Hp)(E:Value->Shared->Prop),Inv X Y M H s->(∀ b∈fp,iK X Y H b)->tn i s.heap->aac.stop i H ->
  wpAny (model P w) X.A (pyNext (.ref it)) (fun r s1=>r=none/\Inv X Y M H s1) E s
 self:∀(A:Around)(i:Nat)(s:Shared)(Q:Value->Shared->Prop)(E:Value->Shared->Prop),tn i s.heap->Q (.ref it) s->wpAny (model P w) A (pyIter (.ref it)) Q E s
abbrev TI:=St->Hp->(It->Hp->Prop)->Prop
end L2
variable{wi:L2.TI}
namespace L2
open PySem PySem.Spec PyProof.Rows
def PIE(X:Cx)(Y:List (Addr×Obj))(M:St)(tg:Expr)(R:It->Hp->Prop)(Ws:Value)(s2:Shared):Prop :=
 ∃(it:Addr)(fp:List Addr)(tn:Nat->Heap->Prop)(aac:It)(J:Hp),Ws=.ref it/\Inv X Y M J s2/\Turn X.prog X.w X.K tg aac fp it tn/\tn 0 s2.heap/\(∀ b∈fp,iK X Y J b)/\R aac J
def PI(X:Cx)(tg iter:Expr)(wi:TI):Prop :=
 ∀(Y:List (Addr×Obj))(s:Shared)(M:St)(H:Hp)(R:It->Hp->Prop),Inv X Y M H s->wi M H R ->
  wpAny (model X.prog X.w) X.A (eval iter X.env) (fun v s1=>wpAny (model X.prog X.w) X.A (pyIter v) (PIE X Y M tg R) X.xe s1) X.xe s
theorem vV{aad:Model}{o:Obj}{n:String}{vs:Array Value}{Q:Unit->Shared->Prop}(ho:s.heap.get? it=some o)(hc:o.cls=.type n)(hd:o.data=.fields vs)(hn:["enumerate","zip","dict_itemiterator","dict_reverseitemiterator","odict_iterator","itertools.zip_longest","itertools.pairwise"].contains n=false)(hQ:Q () s):wpAny aad A (letOwnedTupleGo tg (.ref it) u) Q E s:=by
 unfold letOwnedTupleGo
 cases tg <;> first
  |exact ar hQ
  | (cases u<;>first
    |exact ar hQ
    | (refine ae (wpAny_load ho ?_)
       rw[hc,hd];show wpAny aad A (if (["enumerate","zip","dict_itemiterator","dict_reverseitemiterator","odict_iterator","itertools.zip_longest","itertools.pairwise"].contains n&&vs[0]? == some (rawInt _))=true then _ else _) Q E s;rw[bX (by intro h;rw[hn,JE]at h;cases h)]
       exact ar hQ))
def Pw(K:W.Frag)(a:Addr):It :=
 ⟨fun i H=>∃ xs x,b5 K H a xs/\xs[i]?=some x,fun i H x J=>J=H/\∀ xs,b5 K H a xs->xs[i]?=some x,fun i H=>∃ xs,b5 K H a xs/\xs.length<=i⟩
def Uo(K:W.Frag)(a:Addr):It :=
 ⟨fun i H=>∃ xs x,SqT K H a xs/\xs[i]?=some x,fun i H x J=>J=H/\∀ xs,SqT K H a xs->xs[i]?=some x,fun i H=>∃ xs,SqT K H a xs/\xs.length<=i⟩
def Up(lo:Int)(n:Nat):It:=⟨fun i _=>i<n,fun i H x J=>J=H/\x=.int (lo+i),fun i _=>n<=i⟩
theorem Ef(a it:Addr):Turn P w K tg (Pw K a) [it] it (fun i h=>h.IsListIter it a i) where
 mem:=by simp
 obj:=fun i h st b hb=>by
  have e:b=it:=by simpa using hb
  subst e;obtain⟨o,e,c,d⟩:=st;exact⟨o,e,fun v z=>by rw[d]at z;cases z⟩
 keep:=fun i h h' st k=>st.at fun o e=>k it oz o e
 item:=by
  intro X hP hw hK hc i Y s M H E I hf st hg;subst hP hw hK;obtain⟨xs,x,hq,hx⟩:=hg;obtain⟨its,rv,p,hz⟩:=I.list hq;obtain⟨u,hu,ru⟩:=rv.get hx;obtain⟨f0,f1,f2,f3,f4,f5⟩:=hf it oz;refine wpAny_pyNext_list_item st p.isList (x:=u) (by simpa using hu) fun h' iA sb=>?_
  have I1:Inv X Y M H { s with heap:=h' }:=I.turned (t':=s.toks) (fun b o hb e=>(sb.2 b hb).trans e) f0 f1 f3 f4 f5;obtain⟨o,e,c,d⟩:=id iA;exact⟨u,Z,vV (s:={ s with heap:=h' }) e c d b9 ⟨x,H,I1,ru,⟨Z,fun ys hy=>by rw[I.sq hy hq];exact hx⟩,iA,fun b hb=>(hf b hb).1⟩⟩
 done:=by
  intro X hP hw hK hc i Y s M H E I hf st hg;subst hP hw hK;obtain⟨xs,hq,hx⟩:=hg;obtain⟨its,rv,p,hz⟩:=I.list hq;obtain⟨f0,f1,f2,f3,f4,f5⟩:=hf it oz;have hl:=rv.length;exact wpAny_pyNext_list_end (I.ok.hd hc) st p.isList (by simp;exact G) fun h' eb=>⟨rfl,I.turned (t':=s.toks) (fun b o hb e=>eb b o hb e) f0 f1 f3 f4 f5⟩
 self:=fun _ _ _ _ _ st h=>wpAny_pyIter_listiter st h
theorem BL(a it:Addr):Turn P w K tg (Uo K a) [it] it (fun i h=>h.IsTupleIter it a i) where
 mem:=by simp
 obj:=fun i h st b hb=>by
  have e:b=it:=by simpa using hb
  subst e;obtain⟨o,e,c,d⟩:=st;exact⟨o,e,fun v z=>by rw[d]at z;cases z⟩
 keep:=fun i h h' st k=>st.at fun o e=>k it oz o e
 item:=by
  intro X hP hw hK hc i Y s M H E I hf st hg;subst hP hw hK;obtain⟨xs,x,hq,hx⟩:=hg;obtain⟨its,rv,p,hz⟩:=I.tuple hq;obtain⟨u,hu,ru⟩:=rv.get hx;obtain⟨f0,f1,f2,f3,f4,f5⟩:=hf it oz;refine wpAny_pyNext_tuple_item st (show s.heap.IsTuple a its.toArray from p) (x:=u) (by simpa using hu) fun h' iA sb=>?_
  have I1:Inv X Y M H { s with heap:=h' }:=I.turned (t':=s.toks) (fun b o hb e=>(sb.2 b hb).trans e) f0 f1 f3 f4 f5;obtain⟨o,e,c,d⟩:=id iA;exact⟨u,Z,vV (s:={ s with heap:=h' }) e c d b9 ⟨x,H,I1,ru,⟨Z,fun ys hy=>by rw[I.pf hy hq];exact hx⟩,iA,fun b hb=>(hf b hb).1⟩⟩
 done:=by
  intro X hP hw hK hc i Y s M H E I hf st hg;subst hP hw hK;obtain⟨xs,hq,hx⟩:=hg;obtain⟨its,rv,p,hz⟩:=I.tuple hq;obtain⟨f0,f1,f2,f3,f4,f5⟩:=hf it oz;have hl:=rv.length;exact wpAny_pyNext_tuple_end (I.ok.hd hc) st (show s.heap.IsTuple a its.toArray from p) (by simp;exact G) fun h' eb=>⟨rfl,I.turned (t':=s.toks) (fun b o hb e=>eb b o hb e) f0 f1 f3 f4 f5⟩
 self:=fun _ _ _ _ _ st h=>wpAny_pyIter_tupleiter st h
theorem BP(it:Addr)(lo:Int)(n:Nat):Turn P w K tg (Up lo n) [it] it (fun i h=>IsRangeIter h it (lo+(i:Nat)*1) ((n:Int)-(i:Nat)) 1) where
 mem:=by simp
 obj := fun i h st b hb=>by
  have e:b=it:=by simpa using hb
  subst e
  exact⟨_,st,fun v z=>by
   have z':Data.fields _=Data.cell v:=z
   cases z'⟩
 keep:=fun i h h' st k=>k it oz _ st
 item:=by
  intro X hP hw hK hc i Y s M H E I hf st hg;subst hP hw hK;obtain⟨f0,f1,f2,f3,f4,f5⟩:=hf it oz;have W:=Walks.range (prog:=X.prog) (w:=X.w) (I.ok.hd hc) it lo 1 n;refine W.item i s _ _ hg st fun v h' tk hv iA kk=>?_
  obtain⟨t,rfl⟩:=hv;have I1:Inv X Y M H { s with heap:=h',toks:=tk }:=I.turned (fun b o hb e=>kk b o (by simpa using hb) e) f0 f1 f3 f4 f5;refine⟨_,Z,vV (s:={ s with heap:=h',toks:=tk }) (n := "range_iterator") iA rfl rfl b9 ⟨.int (lo+i),H,I1,⟨t,?_⟩,⟨Z,Z⟩,iA,fun b hb=>(hf b hb).1⟩⟩;rw[Int.mul_one]
 done:=by
  intro X hP hw hK hc i Y s M H E I hf st hg;subst hP hw hK;obtain⟨f0,f1,f2,f3,f4,f5⟩:=hf it oz;exact wpAny_pyNext_range_end (I.ok.hd hc) st (by have:n<=i:=hg;exact G) fun h' eb=>⟨rfl,I.turned (t':=s.toks) (fun b o hb e=>eb b o hb e) f0 f1 f3 f4 f5⟩
 self:=fun _ _ _ _ _ st h=>wpAny_pyIter_rangeiter st h
def Rb(K:W.Frag)(tl:TE):TI:=fun M H R=>tl M H fun x H1=>∃ a,x=.ref a/\(∃ xs,b5 K H1 a xs)/\R (Pw K a) H1
def R7(K:W.Frag)(tl:TE):TI:=fun M H R=>tl M H fun x H1=>∃ a,x=.ref a/\(∃ xs,SqT K H1 a xs)/\R (Uo K a) H1
theorem bR{l:Expr}(hl:PE X l tl):PI X tg l (Rb X.K tl):=by
 intro Y s M H R I h;refine thn (hl Y s M H _ I h) fun v s1 ⟨x,H1,I1,r1,q1⟩=>?_
 obtain⟨a,e,⟨xs,hq⟩,q⟩:=q1;subst e;cases r1;obtain⟨its,rv,p,hz⟩:=I1.list hq;refine rL p.isList ?_;refine⟨s1.heap.objs.size,[s1.heap.objs.size],_,_,H1,Z,I1.kept (t':=s1.toks) fun b o e=>Heap.get?_push_of_some _ e,Ef a _,⟨_,Heap.get?_push_size _ rfl,Z,Z⟩,fun b hb=>?_,q⟩;have e:b=s1.heap.objs.size:=by simpa using hb
 subst e;exact I1.tj (qnr _) (I1.hok.fresh (qnr _))
theorem Pj{l:Expr}(hl:PE X l tl):PI X tg l (R7 X.K tl):=by
 intro Y s M H R I h;refine thn (hl Y s M H _ I h) fun v s1 ⟨x,H1,I1,r1,q1⟩=>?_
 obtain⟨a,e,⟨xs,hq⟩,q⟩:=q1;subst e;cases r1;obtain⟨its,rv,p,hz⟩:=I1.tuple hq;refine iO (show s1.heap.IsTuple a its.toArray from p) ?_;refine⟨s1.heap.objs.size,[s1.heap.objs.size],_,_,H1,Z,I1.kept (t':=s1.toks) fun b o e=>Heap.get?_push_of_some _ e,BL a _,⟨_,Heap.get?_push_size _ rfl,Z,Z⟩,fun b hb=>?_,q⟩;have e:b=s1.heap.objs.size:=by simpa using hb
 subst e;exact I1.tj (qnr _) (I1.hok.fresh (qnr _))
theorem Ib{R:It->Hp->Prop}{hi:Int}{t u v:Tok}{tk:Nat}(I:Inv X Y M H s)(h1 : -(2^62)<=lo)(h2:lo<2^62)(h3 : -(2^62)<=hi)(h4:hi<2^62)(q:R (Up lo (hi-lo).toNat) H):wpAny (model X.prog X.w) X.A (pyIter (.ref s.heap.objs.size)) (PIE X Y M tg R) E { s with heap:=s.heap.push { cls:=.type "range",data:=.fields #[.int lo t,.int hi u,.int 1 v] },toks:=tk }:=by
 refine wpAny_pyIter_range (IsRange.new ..) (small_one h1 h2 h3 h4) ?_;have I1:Inv X Y M H { s with heap:=s.heap.push { cls:=.type "range",data:=.fields #[.int lo t,.int hi u,.int 1 v] },toks:=tk }:=I.kept fun b o e=>Heap.get?_push_of_some _ e
 refine⟨(s.heap.push { cls:=.type "range",data:=.fields #[.int lo t,.int hi u,.int 1 v] }).objs.size,[(s.heap.push { cls:=.type "range",data:=.fields #[.int lo t,.int hi u,.int 1 v] }).objs.size],_,_,H,rfl,
  I1.kept (t':=tk) fun b o e=>Heap.get?_push_of_some _ e,BP _ lo (hi-lo).toNat,?_,fun b hb=>?_,q⟩
 .have e1:lo+((0:Nat):Int)*1=lo:=by simp
  have e2:(((hi-lo).toNat:Nat):Int)-((0:Nat):Int)=Builtin.Range.rangeSize lo hi 1:=by rw[rangeSize_one];split<;>exact G
  show IsRangeIter _ _ (lo+((0:Nat):Int)*1) ((((hi-lo).toNat:Nat):Int)-((0:Nat):Int)) 1;rw[e1,e2];exact Heap.get?_push_size _ rfl
 have e:b=(s.heap.push { cls:=.type "range",data:=.fields #[.int lo t,.int hi u,.int 1 v] }).objs.size:=by simpa using hb
 subst e;exact I1.tj (qnr _) (I1.hok.fresh (qnr _))
def Lh(ta:TA):TI:=fun M H R=>ta M H fun vs H1=>∃ j:Int,vs=[.int j]/\-(2^62)<=j/\j<2^62/\R (Up 0 j.toNat) H1
theorem Eg{a:Expr} {ta:TA}  (hg:Gl X "range") (hm:X.mg "range"=none) (ha:PA X [a] ta) (hs:starEach [a] X.env=[(false,eval a X.env)]:=by rfl):PI X tg (.Call (.Name "range" p) [a] [] pos) (Lh ta):=by
 intro Y s M H R I h;refine Call_ (gP I hg hm boot_range (dn (thn (ha pos Y s M H _ I h) fun us s1 ⟨vs,H1,I1,r1,q1⟩=>?_) hs rfl));obtain⟨j,e,q1,q2,q⟩:=q1;subst e;cases r1 with
 | cons r rr =>
  cases rr;obtain⟨t,rfl⟩:=r;exact call_range_1 (Ib I1 G G q1 q2 (by simpa using q))
def R8(wi:TI)(g:TG)(tb:TS):TS:=fun D M H=>wi M H fun aac H1=>∃ W:Nat->Nat->St->Hp->Prop,(∃ m,W 0 m M H1)/\∀ i m M H,W i m M H ->
 (aac.stop i H/\D.nx M H)\/(aac.go i H/\∃ N:St->Hp->Prop,(∀ σ' J,N σ' J->∃ m',m'<m/\W (i+1) m' σ' J)/\∀ x J,aac.JI i H x J->g x M J fun σ2 H2=>tb { D with nx:=N,ct:=N,bk:=D.nx } σ2 H2)
def kh(fp:List Addr)(h:Heap):List (Addr×Obj):=fp.filterMap fun b=>(h.get? b).map fun o=>(b,o)
theorem jO{o:Obj}(hb:b∈fp)(e:h.get? b=some o):(b,o)∈kh fp h:=gi.mpr ⟨b,hb,by rw[e];rfl⟩
theorem uG{p:Addr×Obj}(hp:p∈kh fp h):p.1∈fp/\h.get? p.1=some p.2:=by
 obtain⟨b,hb,e⟩:=gi.mp hp;cases q:h.get? b with
 |none=>rw[q]at e;cases e
 | some o =>
  rw[q]at e;have e':(b,o)=p:=kK e;subst e';exact⟨hb,q⟩
theorem Inv.pinned(I:Inv X Y M H s)(hf:∀ b∈fp,iK X Y H b)(ho:∀ b∈fp,∃ o,s.heap.get? b=some o/\∀ v,o.data≠.cell v):Inv X (Y++kh fp s.heap) M H s :=
 I.rp fun p hp=>(a_.mp hp).elim (fun z=>I.pin p (pd _ z)) fun z=>by
  obtain⟨hb,e⟩:=uG z;obtain⟨f0,f1,f2,_⟩:=hf p.1 hb;obtain⟨o,e',d⟩:=ho p.1 hb;rw[e]at e';cases e';exact⟨e,f0,f1,f2,d⟩
theorem Inv.ow{pl:List (Addr×Obj)}(I:Inv X (Y++pl) M H s):Inv X Y M H s:=I.rp fun p hp=>I.pin p (pd _ (xi _ hp))
theorem eG{g:TG}{tb:TS}(hp:PassesOwn (model X.prog X.w) X.A X.env X.xe)(hc:X.calm=true)(hi:PI X tg iter wi)(hg:PG X tg g)(hb:y9 X body tb)
  (hs:∀ x,foldedSetIterable iter X.env x=pure x:=by intro _;rfl):PS X (.For tg iter body [] pos) (R8 wi g tb):=by
 intro Y s M H D I h;refine wpAny_For (thn (hi Y s M H _ I h) fun v s1 h1=>thn h1 fun Ws s2 h2=>?_) hs;obtain⟨it,fp,tn,aac,H2,e,I2,T,UA,f2,W,⟨m0,w0⟩,turn⟩:=h2;subst e;have LJ:∀{J:Hp},(∀ b∈fp,J b=none)->∀ b∈fp,iK X Y J b:=fun hn b hb=>⟨hn b hb,(f2 b hb).2⟩
 refine codeAny_forLoop_any (fun n s'=>∃ i σ' J,Inv X Y σ' J s'/\tn i s'.heap/\(∀ b∈fp,J b=none)/\W i n σ' J) ?_ m0 ⟨0,M,H2,I2,UA,fun b hb=>(f2 b hb).1,w0⟩;rintro n s3 ⟨i,σ3,H3,I3,PZ,TB,w3⟩;rcases turn i n σ3 H3 w3 with⟨stop,qn⟩|⟨go,N,hN,step⟩
 .refine i3 hp (thn (T.done X rfl rfl rfl hc i Y s3 σ3 H3 X.xe I3 (LJ TB) PZ stop) fun r s4 ⟨hr,I4⟩=>?_)
  subst hr;exact kP ⟨σ3,H3,I4,qn⟩
 refine i3 hp (thn (T.item X rfl rfl rfl hc i Y s3 σ3 H3 X.xe I3 (LJ TB) PZ go) fun r s4 ⟨u,hr,h4⟩=>?_);subst hr;refine i3 hp (thn h4 fun _ s5 ⟨x,H5,I5,r5,y5,LL,XG⟩=>?_);have YX:=I5.pinned (LJ XG) (T.obj _ _ LL);refine i3 hp (thn (hg _ s5 σ3 H5 x u _ YX r5 (step x H5 y5)) fun _ s6 ⟨σ6,H6,I6,q6⟩=>?_);refine i3 hp (thn (hb _ s6 σ6 H6 _ I6 q6) fun f s7 q7=>?_)
 have again:∀{σ7:St}{H7:Hp},Inv X (Y++kh fp s5.heap) σ7 H7 s7->N σ7 H7->∃ m,m<n/\∃ i σ' J,Inv X Y σ' J s7/\tn i s7.heap/\(∀ b∈fp,J b=none)/\W i m σ' J:=fun {σ7 H7} I7 n7=>by
  obtain⟨m',hm,w7⟩:=hN σ7 H7 n7;refine⟨m',hm,i+1,σ7,H7,I7.ow,T.keep _ _ _ LL fun b hb o e=>(I7.pin (b,o) (pd _ (pd _ (jO hb e)))).1,fun b hb=>?_,w7⟩;obtain⟨o,e,d⟩:=T.obj _ _ LL b hb;exact(I7.pin (b,o) (pd _ (pd _ (jO hb e)))).2.1
 cases f with
 |next=>obtain⟨σ7,H7,I7,n7⟩:=q7;exact again I7 n7
 |cont=>obtain⟨σ7,H7,I7,n7⟩:=q7;exact again I7 n7
 |brk=>obtain⟨σ7,H7,I7,q7⟩:=q7;exact⟨σ7,H7,I7.ow,q7⟩
 |ret v=>obtain⟨x7,σ7,H7,I7,r7,q7⟩:=q7;exact⟨x7,σ7,H7,I7.ow,r7,q7⟩
theorem fJ{g:TG}{tb:TS}(Pv:Nat->St->Hp->Prop)(h0:Pv 0 M H)(hl:∀ i M H,i<=xs.length->Pv i M H->b5 K H a xs)(hs:∀ i x M H,xs[i]?=some x->Pv i M H->g x M H fun σ2 H2=>tb { D with nx:=Pv (i+1),ct:=Pv (i+1),bk:=D.nx } σ2 H2)(hd:∀ M H,Pv xs.length M H->D.nx M H): ∃ W:Nat->Nat->St->Hp->Prop,(∃ m,W 0 m M H)/\∀ i m M H,W i m M H -> ((Pw K a).stop i H/\D.nx M H)\/((Pw K a).go i H/\∃ N:St->Hp->Prop,(∀ σ' J,N σ' J->∃ m',m'<m/\W (i+1) m' σ' J)/\∀ x J,(Pw K a).JI i H x J->g x M J fun σ2 H2=>tb { D with nx:=N,ct:=N,bk:=D.nx } σ2 H2):=by
 refine⟨fun i m M H=>m=xs.length-i/\i<=xs.length/\Pv i M H,⟨xs.length,oz,mi _,h0⟩,?_⟩;rintro i m M H ⟨rfl,hi,p⟩;have q:=hl i M H hi p
 by_cases f':i<xs.length
 .refine .inr ⟨⟨xs,xs[i],q,by simp[f']⟩,Pv (i+1),fun σ' J p'=>⟨xs.length-(i+1),G,rfl,f',p'⟩,fun x J y=>?_⟩
  obtain⟨e,y⟩:=y;subst e;exact hs i x M _ (y xs q) p
 have e:i=xs.length:=G
 subst e;exact .inl ⟨⟨xs,q,qnr _⟩,hd M H p⟩
theorem Mj{g:TG}{tb:TS}(Pv:Nat->St->Hp->Prop)(h0:Pv 0 M H)(hl:∀ i M H,i<=xs.length->Pv i M H->SqT K H a xs)(hs:∀ i x M H,xs[i]?=some x->Pv i M H->g x M H fun σ2 H2=>tb { D with nx:=Pv (i+1),ct:=Pv (i+1),bk:=D.nx } σ2 H2)(hd:∀ M H,Pv xs.length M H->D.nx M H): ∃ W:Nat->Nat->St->Hp->Prop,(∃ m,W 0 m M H)/\∀ i m M H,W i m M H -> ((Uo K a).stop i H/\D.nx M H)\/((Uo K a).go i H/\∃ N:St->Hp->Prop,(∀ σ' J,N σ' J->∃ m',m'<m/\W (i+1) m' σ' J)/\∀ x J,(Uo K a).JI i H x J->g x M J fun σ2 H2=>tb { D with nx:=N,ct:=N,bk:=D.nx } σ2 H2):=by
 refine⟨fun i m M H=>m=xs.length-i/\i<=xs.length/\Pv i M H,⟨xs.length,oz,mi _,h0⟩,?_⟩;rintro i m M H ⟨rfl,hi,p⟩;have q:=hl i M H hi p
 by_cases f':i<xs.length
 .refine .inr ⟨⟨xs,xs[i],q,by simp[f']⟩,Pv (i+1),fun σ' J p'=>⟨xs.length-(i+1),G,rfl,f',p'⟩,fun x J y=>?_⟩
  obtain⟨e,y⟩:=y;subst e;exact hs i x M _ (y xs q) p
 have e:i=xs.length:=G
 subst e;exact .inl ⟨⟨xs,q,qnr _⟩,hd M H p⟩
abbrev R2:=V->V->Hp->VK->Prop
end L2
variable{r r':L2.R2}
namespace L2
open PySem PySem.Spec PyProof.Rows
def kD(X:Cx)(f:Value->Value->Sem Value)(r:R2):Prop :=
 ∀(Y:List (Addr×Obj))(s:Shared)(M:St)(H:Hp)(x y:V)(v u:Value)(Q:VK),Inv X Y M H s->RelV x v->RelV y u->r x y H Q ->
  wpAny (model X.prog X.w) X.A (f v u) (EP X Y M Q) X.xe s
def Yr(X:Cx)(f:Value->Sem Value)(r:V->Hp->VK->Prop):Prop :=
 ∀(Y:List (Addr×Obj))(s:Shared)(M:St)(H:Hp)(x:V)(v:Value)(Q:VK),Inv X Y M H s->RelV x v->r x H Q ->
  wpAny (model X.prog X.w) X.A (f v) (EP X Y M Q) X.xe s
def dR(X:Cx)(f:Value)(r:List V->Hp->VK->Prop):Prop :=
 ∀(Y:List (Addr×Obj))(s:Shared)(M:St)(H:Hp)(xs:List V)(us:List Value)(Q:VK),Inv X Y M H s->Vals xs us->r xs H Q ->
  wpAny (model X.prog X.w) X.A (call f us) (EP X Y M Q) X.xe s
def R9(X:Cx)(r:V->Hp->(Bool->Hp->Prop)->Prop):Prop :=
 ∀(Y:List (Addr×Obj))(s:Shared)(M:St)(H:Hp)(x:V)(v:Value)(Q:Bool->Hp->Prop),Inv X Y M H s->RelV x v->r x H Q ->
  wpAny (model X.prog X.w) X.A (truthy v) (TP X Y M Q) X.xe s
def PY(r:R2)(ta tb:TE):TE:=fun M H Q=>ta M H fun x H1=>tb M H1 fun y H2=>r x y H2 Q
def tUn(r:V->Hp->VK->Prop)(ta:TE):TE:=fun M H Q=>ta M H fun x H1=>r x H1 Q
inductive rI(C:Int->Int->Prop)(g:Int->Int->V)(x:V)(y:V)(H:Hp)(Q:VK):Prop
 |mk(i j:_)(_:x=.int i)(_:y=.int j)(_:C i j)(_:Q (g i j) H)
inductive EW(g:Int->Int->V)(x:V)(y:V)(H:Hp)(Q:VK):Prop
 |mk(i j:_)(_:x=.int i)(_:y=.int j)(_:Q (g i j) H)
def rU(g:Int->V):V->Hp->VK->Prop:=fun x H Q=>∃ i,x=.int i/\Q (g i) H
section
variable{a b c:Expr}
theorem Ie(ha:PE X a ta)(hb:PE X b tb){R:V->V->Hp->Prop}(I:Inv X Y M H s)(h:ta M H fun x H1=>tb M H1 fun y H2=>R x y H2)  {f:Value->Value->Sem Value}(hf:∀ v u s2 x y H2,Inv X Y M H2 s2->RelV x v->RelV y u->R x y H2->wpAny (model X.prog X.w) X.A (f v u) Q X.xe s2): wpAny (model X.prog X.w) X.A (eval a X.env) (fun v s₁=>wpAny (model X.prog X.w) X.A (eval b X.env) (fun u s₂=>wpAny (model X.prog X.w) X.A (f v u) Q X.xe s₂) X.xe s₁) X.xe s:=by
 refine thn (ha Y s M H _ I h) fun v s1 ⟨x,H1,I1,r1,q1⟩=>?_
 refine thn (hb Y s1 M H1 _ I1 q1) fun u s2 ⟨y,H2,I2,r2,q2⟩=>?_
 exact hf v u s2 x y H2 I2 r1 r2 q2
theorem aF{op:Operator}(ho:kD X (binaryOp op) r)(ha:PE X a ta)(hb:PE X b tb):PE X (.BinOp a op b pos) (PY r ta tb):=by
 intro Y s M H Q I h;exact wpAny_BinOp (Ie ha hb I h fun v u s2 x y H2 I2 rx ry q=>ho Y s2 M H2 x y v u Q I2 rx ry q)
theorem jr{op:UnaryOp}{r:V->Hp->VK->Prop}(ho:Yr X (unaryOp op) r)(ha:PE X a ta):PE X (.UnaryOp op a pos) (tUn r ta):=by
 intro Y s M H Q I h;exact UnaryOp_ (thn (ha Y s M H _ I h) fun v s1 ⟨x,H1,I1,r1,q1⟩=>ho Y s1 M H1 x v Q I1 r1 q1)
theorem J_{f:Value->Value->Sem Value}{C:Int->Int->Prop}{g:Int->Int->Int}(rule:∀(i j:Int)(t u:Tok)(s:Shared)(Q:Value->Shared->Prop)(E:Value->Shared->Prop),C i j->Q (.int (g i j) s.toks) { s with toks:=s.toks+1 }->wpAny (model X.prog X.w) X.A (f (.int i t) (.int j u)) Q E s): kD X f (rI C fun i j=>.int (g i j)):=by
 intro Y s M H x y v u Q I rx ry h;obtain⟨i,j,rfl,rfl,hc,q⟩:=h;obtain⟨t,rfl⟩:=rx;obtain⟨t',rfl⟩:=ry;exact rule i j t t' s _ _ hc ⟨.int (g i j),H,I.tok _,⟨_,rfl⟩,q⟩
theorem wI{f:Value->Value->Sem Value}{g:Int->Int->Int}(rule:∀(i j:Int)(t u:Tok)(s:Shared)(Q:Value->Shared->Prop)(E:Value->Shared->Prop),Q (.int (g i j) s.toks) { s with toks:=s.toks+1 }->wpAny (model X.prog X.w) X.A (f (.int i t) (.int j u)) Q E s): kD X f (EW fun i j=>.int (g i j)):=by
 intro Y s M H x y v u Q I rx ry h;obtain⟨i,j,rfl,rfl,q⟩:=h;obtain⟨t,rfl⟩:=rx;obtain⟨t',rfl⟩:=ry;exact rule i j t t' s _ _ ⟨.int (g i j),H,I.tok _,⟨_,rfl⟩,q⟩
theorem Ig{f:Value->Value->Sem Value}{g:Int->Int->Bool}(rule:∀(i j:Int)(t u:Tok)(s:Shared)(Q:Value->Shared->Prop)(E:Value->Shared->Prop),Q (.bool (g i j)) s->wpAny (model X.prog X.w) X.A (f (.int i t) (.int j u)) Q E s): kD X f (EW fun i j=>.bl (g i j)):=by
 intro Y s M H x y v u Q I rx ry h;obtain⟨i,j,rfl,rfl,q⟩:=h;obtain⟨t,rfl⟩:=rx;obtain⟨t',rfl⟩:=ry;exact rule i j t t' s _ _ ⟨.bl (g i j),H,I,rfl,q⟩
def Sd(i j:Int):Prop:=0<j/\j<1073741824
def oh(i j:Int):Prop:=0<=j/\j<=1000000/\i.natAbs<2^64
def EL(i j:Int):Prop:=(-(2^64)<i/\i<2^64)\/(-(2^64)<j/\j<2^64)
theorem EL.ok{i j:Int}(h:EL i j):IntMulOk i j:=by
 rcases h with⟨h1,h2⟩|⟨h1,h2⟩
 .exact .of_left (intBits_le_64 h1 h2)
 exact .of_right (intBits_le_64 h1 h2)
theorem BR(k:Nat):(0:Int)<=2^k:=by
 rw[two_pow_cast];exact hW _
theorem cO:kD X (binaryOp .Add) (EW fun i j=>.int (i+j)):=wI fun _ _ _ _ _ _ _ q=>add_int q
theorem cV:kD X (binaryOp .Sub) (EW fun i j=>.int (i-j)):=wI fun _ _ _ _ _ _ _ q=>sub_int q
theorem gC:kD X (binaryOp .Mult) (rI EL fun i j=>.int (i*j)):=J_ fun _ _ _ _ _ _ _ hc q=>mul_int q hc.ok
theorem fP:kD X (binaryOp .FloorDiv) (rI Sd fun i j=>.int (i/j)):=J_ fun i j _ _ _ _ _ hc q=>by
 have h1:(0:Int)<j:=hc.1;have h2:j<1073741824:=hc.2;exact floordiv_int G (by rw[Jn i G];exact q) (.inl (PyProof.noPylong_small G))
theorem cj:kD X (binaryOp .Mod) (rI (fun _ j=>0<j) fun i j=>.int (i%j)):=J_ fun i j _ _ _ _ _ hc q=>by
 have h1:(0:Int)<j:=hc;exact mod_int' G (by rw[Int.fmod_eq_emod_of_nonneg i G];exact q)
theorem wJ:kD X (binaryOp .Pow) (rI oh fun i j=>.int (i^j.toNat)):=J_ fun _ _ _ _ _ _ _ hc q=>pow_int_small hc.1 hc.2.1 hc.2.2 q
theorem gD:kD X (binaryOp .LShift) (rI oh fun i j=>.int (i*2^j.toNat)):=J_ fun _ _ _ _ _ _ _ hc q=>lshift_int_small hc.1 hc.2.1 hc.2.2 q
theorem Pk:kD X (binaryOp .RShift) (rI (fun _ j=>0<=j) fun i j=>.int (i/2^j.toNat)):=J_ fun i j _ _ _ _ _ hc q =>
 rshift_int hc (by rw[Jn i (BR _)];exact q)
theorem jB:kD X (binaryOp .BitAnd) (EW fun i j=>.int (Builtin.bitAnd i j)):=wI fun _ _ _ _ _ _ _ q=>and_int q
theorem mZ:kD X (binaryOp .BitOr) (EW fun i j=>.int (Builtin.bitOr i j)):=wI fun _ _ _ _ _ _ _ q=>or_int q
theorem mH:kD X (binaryOp .BitXor) (EW fun i j=>.int (Builtin.bitXor i j)):=wI fun _ _ _ _ _ _ _ q=>xor_int q
theorem unI{f:Value->Sem Value}{g:Int->Int}(rule:∀(i:Int)(t:Tok)(s:Shared)(Q:Value->Shared->Prop)(E:Value->Shared->Prop),Q (.int (g i) s.toks) { s with toks:=s.toks+1 }->wpAny (model X.prog X.w) X.A (f (.int i t)) Q E s): Yr X f (rU fun i=>.int (g i)):=by
 intro Y s M H x v Q I rx h;obtain⟨i,rfl,q⟩:=h;obtain⟨t,rfl⟩:=rx;exact rule i t s _ _ ⟨.int (g i),H,I.tok _,⟨_,rfl⟩,q⟩
theorem gR:Yr X (unaryOp .USub) (rU fun i=>.int (-i)):=unI fun _ _ _ _ _ q=>neg_int q
end
def Pn:V->V->Bool
 | .non,.non=>true | .non,.int _=>true | .int _,.non=>true | .non,.bl _=>true | .bl _,.non=>true | .non,.str _=>true | .str _,.non=>true
 | .int _,.int _=>true | .bl _,.bl _=>true | .str _,.str _=>true | .byt _,.byt _=>true
 | .int _,.str _=>true | .str _,.int _=>true | .bl _,.str _=>true | .str _,.bl _=>true
 |_,_=>false
def rEq:R2:=fun x y H Q=>Pn x y=true/\Q (.bl (decide (x=y))) H
def rNe:R2:=fun x y H Q=>Pn x y=true/\Q (.bl (!decide (x=y))) H
theorem Ah{i j:Int}:decide (V.int i=V.int j)=(i==j):=by
 rw[sh];simp
theorem Eh{i j:Bool}:decide (V.bl i=V.bl j)=(i==j):=by
 rw[sh];simp
theorem Ai{i j:Str}:decide (V.str i=V.str j)=(i==j):=by
 rw[sh];simp
theorem Aj{i j:Array UInt8}:decide (V.byt i=V.byt j)=(i.toList==j.toList):=by
 rw[sh];cases i;cases j;simp
section
variable{a b c:Expr}
theorem bQ{Q:VK}{k k':Bool}(I:Inv X Y M H s)(q:Q (.bl k) H)(e:k=k'):EP X Y M Q (.bool k') s:=by
 subst e;exact⟨.bl k,H,I,Z,q⟩
theorem aW:kD X (compareOp .Eq) rEq:=by
 intro Y s M H x y v u Q I rx ry h;obtain⟨hs,q⟩:=h;cases x with
 | non =>
  cases rx;cases y with
  |non=>cases ry;exact PySem.EqNone.eq_none_none (bQ I q oz)
  |bl j=>cases ry;exact PySem.EqNone.eq_none_bool (bQ I q oz)
  |int j=>obtain⟨t',rfl⟩:=ry;exact PySem.EqNone.eq_none_int (bQ I q oz)
  |str j=>obtain⟨t',rfl⟩:=ry;exact PySem.EqNone.eq_none_str (bQ I q oz)
  |_=>exact absurd (show false=true from hs) ki
 | bl i =>
  cases rx;cases y with
  |non=>cases ry;exact PySem.EqNone.eq_bool_none (bQ I q oz)
  |bl j=>cases ry;exact eq_bool (bQ I q Eh)
  |str j=>obtain⟨t',rfl⟩:=ry;exact PySem.EqMixed.eq_bool_str (bQ I q oz)
  |_=>exact absurd (show false=true from hs) ki
 | int i =>
  obtain⟨t,rfl⟩:=rx;cases y with
  |non=>cases ry;exact PySem.EqNone.eq_int_none (bQ I q oz)
  |int j=>obtain⟨t',rfl⟩:=ry;exact eq_int (bQ I q Ah)
  |str j=>obtain⟨t',rfl⟩:=ry;exact PySem.EqMixed.eq_int_str (bQ I q oz)
  |_=>exact absurd (show false=true from hs) ki
 | str i =>
  obtain⟨t,rfl⟩:=rx;cases y with
  |non=>cases ry;exact PySem.EqNone.eq_str_none (bQ I q oz)
  |bl j=>cases ry;exact PySem.EqMixed.eq_str_bool (bQ I q oz)
  |int j=>obtain⟨t',rfl⟩:=ry;exact PySem.EqMixed.eq_str_int (bQ I q oz)
  |str j=>obtain⟨t',rfl⟩:=ry;exact eq_str (bQ I q Ai)
  |_=>exact absurd (show false=true from hs) ki
 | byt i =>
  obtain⟨t,rfl⟩:=rx;cases y with
  |byt j=>obtain⟨t',rfl⟩:=ry;exact W.eq_bytes (bQ I q Aj)
  |_=>exact absurd (show false=true from hs) ki
 |_=>cases y<;>exact absurd (show false=true from hs) ki
theorem gq:kD X (compareOp .NotEq) rNe:=by
 intro Y s M H x y v u Q I rx ry h;obtain⟨hs,q⟩:=h;cases x with
 | non =>
  cases rx;cases y with
  |non=>cases ry;exact PySem.EqNone.ne_none_none (bQ I q oz)
  |bl j=>cases ry;exact PySem.EqNone.ne_none_bool (bQ I q oz)
  |int j=>obtain⟨t',rfl⟩:=ry;exact PySem.EqNone.ne_none_int (bQ I q oz)
  |str j=>obtain⟨t',rfl⟩:=ry;exact PySem.EqNone.ne_none_str (bQ I q oz)
  |_=>exact absurd (show false=true from hs) ki
 | bl i =>
  cases rx;cases y with
  |non=>cases ry;exact PySem.EqNone.ne_bool_none (bQ I q oz)
  |bl j=>cases ry;exact ne_bool (bQ I q (b4 not Eh))
  |str j=>obtain⟨t',rfl⟩:=ry;exact PySem.EqMixed.ne_bool_str (bQ I q oz)
  |_=>exact absurd (show false=true from hs) ki
 | int i =>
  obtain⟨t,rfl⟩:=rx;cases y with
  |non=>cases ry;exact PySem.EqNone.ne_int_none (bQ I q oz)
  |int j=>obtain⟨t',rfl⟩:=ry;exact ne_int (bQ I q (b4 not Ah))
  |str j=>obtain⟨t',rfl⟩:=ry;exact PySem.EqMixed.ne_int_str (bQ I q oz)
  |_=>exact absurd (show false=true from hs) ki
 | str i =>
  obtain⟨t,rfl⟩:=rx;cases y with
  |non=>cases ry;exact PySem.EqNone.ne_str_none (bQ I q oz)
  |bl j=>cases ry;exact PySem.EqMixed.ne_str_bool (bQ I q oz)
  |int j=>obtain⟨t',rfl⟩:=ry;exact PySem.EqMixed.ne_str_int (bQ I q oz)
  |str j=>obtain⟨t',rfl⟩:=ry;exact ne_str (bQ I q (b4 not Ai))
  |_=>exact absurd (show false=true from hs) ki
 | byt i =>
  obtain⟨t,rfl⟩:=rx;cases y with
  |byt j=>obtain⟨t',rfl⟩:=ry;exact W.ne_bytes (bQ I q (b4 not Aj))
  |_=>exact absurd (show false=true from hs) ki
 |_=>cases y<;>exact absurd (show false=true from hs) ki
theorem pP:kD X (compareOp .Lt) (EW fun i j=>.bl (decide (i<j))):=Ig fun _ _ _ _ _ _ _ q=>lt_int q
theorem lG:kD X (compareOp .LtE) (EW fun i j=>.bl (decide (i<=j))):=Ig fun _ _ _ _ _ _ _ q=>le_int q
theorem pQ:kD X (compareOp .Gt) (EW fun i j=>.bl (decide (j<i))):=Ig fun _ _ _ _ _ _ _ q=>gt_int q
theorem gU:kD X (compareOp .Is) (fun x y H Q=>y=.non /\ Q (.bl (decide (x=.non))) H):=by
 intro Y s M H x y v u Q I rx ry h;obtain⟨rfl,q⟩:=h;cases ry;refine is_none_gen (bQ I q ?_)
 cases x<;>first
  |(cases rx;rfl)
  |(obtain⟨t,rfl⟩:=rx;rfl)
theorem Ml:kD X (compareOp .IsNot) (fun x y H Q=>y=.non /\ Q (.bl (!decide (x=.non))) H):=by
 intro Y s M H x y v u Q I rx ry h;obtain⟨rfl,q⟩:=h;cases ry;refine isnot_none_gen (bQ I q ?_)
 cases x<;>first
  |(cases rx;rfl)
  |(obtain⟨t,rfl⟩:=rx;rfl)
theorem aK(b:Expr){op:CmpOp}(h:op≠.In:=by decide)(h2:op≠.NotIn:=by decide):behindInMarks op b=false:=by
 have e1:(op==CmpOp.In)=false:=by cases op<;>first|rfl|exact absurd rfl h
 have e2:(op==CmpOp.NotIn)=false:=by cases op<;>first|rfl|exact absurd rfl h2
 cases b<;>simp[behindInMarks,e1,e2]
theorem du{op:CmpOp}(ho:kD X (compareOp op) r)(ha:PE X a ta)(hb:PE X b tb)(hm:behindInMarks op b=false):PE X (.Compare a [op] [b] pos) (PY r ta tb):=by
 intro Y s M H Q I h;exact wpAny_Compare1 (Ie ha hb I h fun v u s2 x y H2 I2 rx ry q=>ho Y s2 M H2 x y v u Q I2 rx ry q) hm
def Li(t:TE):TT:=fun M H Q=>t M H fun x J=>iB Q x J
theorem aG{op:CmpOp}(ho:kD X (compareOp op) r)(ha:PE X a ta)(hb:PE X b tb)(hm:behindInMarks op b=false):PT X (.Compare a [op] [b] pos) (Li (PY r ta tb)):=by
 intro Y s M H Q I h
 refine wpAny_isTrue_Compare1 (thn (ha Y s M H _ I h) fun v s1 ⟨x,H1,I1,r1,q1⟩=>thn (hb Y s1 M H1 _ I1 q1) fun u s2 ⟨y,H2,I2,r2,q2⟩ =>
  thn (ho Y s2 M H2 x y v u _ I2 r1 r2 q2) fun c s3 ⟨z,H3,I3,r3,k,e,q3⟩=>?_) hm
 subst e;cases r3;exact df ⟨H3,I3,q3⟩
def Ei(r r':R2)(ta tb tc:TE):TE:=fun M H Q=>ta M H fun x H1=>tb M H1 fun y H2=>r x y H2 fun z H3=>∃ k,z=.bl k /\
 (if k=true then tc M H3 fun w' H4=>r' y w' H4 Q else Q (.bl false) H3)
theorem qO{op MH:CmpOp}(ho:kD X (compareOp op) r)(yB:kD X (compareOp MH) r')(ha:PE X a ta)(hb:PE X b tb)(hc:PE X c tc)
  (hm:lastMarks [op,MH] [b,c]=false:=by with_unfolding_all rfl):PE X (.Compare a [op,MH] [b,c] pos) (Ei r r' ta tb tc):=by
 intro Y s M H Q I h
 refine Compare_chain (thn (ha Y s M H _ I h) fun v s1 ⟨x,H1,I1,r1,q1⟩=>chain_link (thn (hb Y s1 M H1 _ I1 q1) fun u s2 ⟨y,H2,I2,r2,q2⟩ =>
  thn (ho Y s2 M H2 x y v u _ I2 r1 r2 q2) fun d s3 ⟨z,H3,I3,r3,k,e,q3⟩=>?_)) hm
 subst e;cases r3;refine df ?_;cases k with
 |false=>exact ite_ff ⟨.bl false,H3,I3,rfl,q3⟩
 |true=>exact ite_tt (chain_last (thn (hc Y s3 M H3 _ I3 q3) fun w' s4 ⟨z',H4,I4,r4,q4⟩=>yB Y s4 M H4 y z' u w' Q I4 r2 r4 q4))
theorem qP{op MH:CmpOp}(ho:kD X (compareOp op) r)(yB:kD X (compareOp MH) r')(ha:PE X a ta)(hb:PE X b tb)(hc:PE X c tc)
  (hm:lastMarks [op,MH] [b,c]=false:=by with_unfolding_all rfl):PT X (.Compare a [op,MH] [b,c] pos) (Li (Ei r r' ta tb tc)):=by
 intro Y s M H Q I h
 refine isTrue_chain (thn (ha Y s M H _ I h) fun v s1 ⟨x,H1,I1,r1,q1⟩=>test_link (thn (hb Y s1 M H1 _ I1 q1) fun u s2 ⟨y,H2,I2,r2,q2⟩ =>
  thn (ho Y s2 M H2 x y v u _ I2 r1 r2 q2) fun d s3 ⟨z,H3,I3,r3,k,e,q3⟩=>?_)) hm
 subst e;cases r3;refine df ?_;cases k with
 | false =>
  obtain⟨k',e',q'⟩:=q3;cases e';exact ite_ff ⟨H3,I3,q'⟩
 | true =>
  refine ite_tt (test_last (thn (hc Y s3 M H3 _ I3 q3) fun w' s4 ⟨z',H4,I4,r4,q4⟩=>thn (yB Y s4 M H4 y z' u w' _ I4 r2 r4 q4) fun d' s5 ⟨z2,H5,I5,r5,k2,e2,q5⟩=>?_));subst e2;cases r5;exact df ⟨H5,I5,q5⟩
def Pq(K:W.Frag)(x:V)(H:Hp)(k:Bool):Prop :=
 match x with
 | .non=>k=false
 | .bl b=>k=b
 | .int i=>k=(i != 0)
 | .str y=>y.length<=sizeLine/\k=((y.length:Int) != 0)
 | .byt y=>y.size<=sizeLine/\k=((y.size:Int) != 0)
 | .ref p=>(∃ xs,b5 K H p xs/\k = !xs.isEmpty)\/(∃ xs,SqT K H p xs/\k = !xs.isEmpty)\/∃ kvs,H p=some (.dK kvs)/\k = !kvs.isEmpty
 |_=>False
theorem BV{κ:Type}{kvs:List (κ×V)}{vs:List (κ×Value)}(r:KV kvs vs):(!vs.isEmpty) = !kvs.isEmpty:=by
 cases r<;>rfl
theorem rR(r:Vals xs its):(!its.toArray.isEmpty) = !xs.isEmpty:=by
 cases r<;>simp
theorem kj:(sizeLine:Nat)<2^63:=by rw[sizeLine_eq];decide
theorem Pr:R9 X (fun x H Q=>∃ k,Pq X.K x H k/\Q k H):=by
 intro Y s M H x v Q I rx h;obtain⟨k,e,q⟩:=h;have hl:=kj;have hs:sizeLine=16777216:=sizeLine_eq;cases x with
 | non =>
  cases rx;have e':k=false:=e;subst e';exact truthy_none ⟨H,I,q⟩
 | bl b =>
  cases rx;have e':k=b:=e;subst e';exact df ⟨H,I,q⟩
 | int i =>
  obtain⟨t,rfl⟩:=rx;have e':k=(i != 0):=e;subst e';exact PySem.P.truthy_int ⟨H,I,q⟩
 | str y =>
  obtain⟨t,rfl⟩:=rx;obtain⟨hy,e'⟩:y.length<=sizeLine/\k=((y.length:Int) != 0):=e;subst e';exact PySem.P.truthy_str G ⟨H,I.tok _,q⟩
 | byt y =>
  obtain⟨t,rfl⟩:=rx;obtain⟨hy,e'⟩:y.size<=sizeLine/\k=((y.size:Int) != 0):=e;subst e';exact W.truthy_bytes G ⟨H,I.tok _,q⟩
 | ref p =>
  cases rx;have e':(∃ xs,b5 X.K H p xs/\k = !xs.isEmpty)\/(∃ xs,SqT X.K H p xs/\k = !xs.isEmpty)\/∃ kvs,H p=some (.dK kvs)/\k = !kvs.isEmpty:=e;rcases e' with⟨xs,hx,e'⟩|⟨xs,hx,e'⟩|⟨kvs,hx,e'⟩
  .subst e'
   obtain⟨its,r,pl,hz⟩:=I.list hx;have hlen:=r.length;exact wpAny_truthy_list pl.isList (by simp only[ah];exact G) ⟨H,I.tok _,by rw[rR r];exact q⟩
  .subst e'
   obtain⟨its,r,pl,hz⟩:=I.tuple hx;have hlen:=r.length;exact truthy_tuple pl (by simp only[ah];exact G) ⟨H,I.tok _,by rw[rR r];exact q⟩
  subst e';obtain⟨hz,hS,vs,r,m⟩:kvs.length<=sizeLine/\(p==sysModules)=false/\∃ vs,KV kvs vs/\s.heap.DictOf (bW X.prog X.w) p vs:=I.hok p _ hx;have hlen:kvs.length=vs.length:=aT r;exact wpAny_truthy_dict hS m G ⟨H,I.tok _,by rw[BV r];exact q⟩
 |_=>exact(show False from e).elim
theorem ie(ha:PE X a ta)(he:∀ whole,isTrue a X.env whole=(do let v <- whole;standAt a.pos;holding [v] (truthy v))):
  PT X a (fun M H Q=>ta M H fun x J=>∃ k,Pq X.K x J k/\Q k J):=by
 intro Y s M H Q I h;exact isTrue_plain (thn (ha Y s M H _ I h) fun v s1 ⟨x,H1,I1,r1,q1⟩=>Pr Y s1 M H1 x v Q I1 r1 q1) (he _)
theorem bI:kD X (binaryOp .Add) (fun x y H Q=>∃ i j,x=.str i/\y=.str j/\i.length+j.length<=sizeLine/\Q (.str (i++j)) H):=by
 intro Y s M H x y v u Q I rx ry h;obtain⟨i,j,rfl,rfl,hz,q⟩:=h;obtain⟨t,rfl⟩:=rx;obtain⟨t',rfl⟩:=ry;exact add_str (fun t' tk=>⟨.str (i++j),H,I.tok _,⟨_,rfl⟩,q⟩) hz
theorem yR:kD X (inplaceOp .Add) (fun x y H Q=>∃ i j,x=.str i/\y=.str j/\i.length+j.length<=sizeLine/\Q (.str (i++j)) H):=by
 intro Y s M H x y v u Q I rx ry h;obtain⟨i,j,rfl,rfl,hz,q⟩:=h;obtain⟨t,rfl⟩:=rx;obtain⟨t',rfl⟩:=ry;exact iadd_str (fun t' tk=>⟨.str (i++j),H,I.tok _,⟨_,rfl⟩,q⟩) hz
theorem vals1{x:V}(r:Vals [x] us):∃ u,us=[u]/\RelV x u:=by
 cases r with
 |cons r1 r2=>cases r2;exact⟨_,Z,r1⟩
theorem vals2{x:V}(r:Vals [x,y] us):∃ u w',us=[u,w']/\RelV x u/\RelV y w':=by
 cases r with
 | cons r1 r2 =>
  cases r2 with
  |cons r3 r4=>cases r4;exact⟨_,_,Z,r1,r3⟩
theorem uH(hc:X.calm=true):dR X (.builtin "max") (fun xs H Q=>∃ i j,xs=[.int i,.int j]/\Q (.int (if j>i then j else i)) H):=by
 intro Y s M H xs us Q I r h;obtain⟨i,j,rfl,q⟩:=h;obtain⟨u,w',rfl,⟨t,rfl⟩,⟨t',rfl⟩⟩:=vals2 r;refine max_two_ints (I.ok.hd hc) fun h' tk k=>⟨_,H,I.kept k,?_,q⟩
 by_cases hj:j>i
 .rw[qp hj,qp hj];exact⟨_,Z⟩
 rw[bX hj,bX hj];exact⟨_,Z⟩
theorem uI:dR X (.type "int") (fun xs H Q=>(∃ i,xs=[.int i]/\Q (.int i) H)\/∃ k,xs=[.bl k]/\Q (.int (if k then 1 else 0)) H):=by
 intro Y s M H xs us Q I r h;rcases h with⟨i,rfl,q⟩|⟨k,rfl,q⟩
 .obtain⟨u,rfl,t,rfl⟩:=vals1 r
  exact call_int_int ⟨.int i,H,I,⟨_,rfl⟩,q⟩
 obtain⟨u,rfl,r1⟩:=vals1 r;cases r1;exact call_int_bool ⟨.int (if k then 1 else 0),H,I.tok _,⟨_,rfl⟩,q⟩
end
structure y_(h:Heap)(x dx C:Addr)(mA:Str->Option Value):Prop where
 obj:h.get? x=some (W.instObj C dx)
 ns:h.Ns1 dx mA
 ne:dx≠x
theorem Ej(n:h.Ns1 dx mA):∃ od,h.get? dx=some od/\∀ name,W.lookIn name od=some (mA name):=by
 obtain⟨o,es,ep,ho,hd,hk,_,hm⟩:=n;refine⟨o,ho,fun name=>?_⟩;have e:=hm name;unfold nsFind findBy at e;rw[<- Array.find?_toList]at e;unfold W.lookIn;rw[hd];dsimp only
 split
 .rename_i y q
  rw[q]at e;exact b4 some e
 rename_i q
 rw[q]at e
 have a:es.toList.any (·.refKey)=false:=by
  rw[AE];intro y hy;obtain⟨z,t,Xb⟩:=hk y (Array.mem_toList_iff.mp hy);simp[DictEntry.refKey,Xb]
 have a':¬es.toList.any (·.refKey)=true:=by rw[a];exact ki
 rw[bX a'];exact b4 some e
theorem y_.look{x:Addr}(I:y_ h x dx C mA):∃ od,W.InstAt h x (W.instObj C dx) C (some od)/\∀ name,W.lookIn name od=some (mA name):=
 let ⟨od,ho,hl⟩:=Ej I.ns
 ⟨od,⟨I.obj,rfl,rfl,ho⟩,hl⟩
section
variable{x:Addr}{v:Value}
theorem Mm{expr:Bool}(X:K.In s.heap)(I:y_ s.heap x dx C mA)(hg:W.plainGet K C name=true)(hh:W.hasDictIn K C=true)(ha:W.findIn K (.ref C) name=some none)(hv:mA name=some v)(hv':W.handedIn v=true)(h:Q v { s with toks:=s.toks+1 }): wpAny (model prog w) A (getAttr (.ref x) name expr) Q E s:=by
 obtain⟨od,aac,hl⟩:=I.look;exact W.get_value X aac (W.plainGet_of hg).1 (W.findObj_own hh ha rfl (by rw[hl,hv])) hv' h
theorem Ih{pl:Sem Bool}{Q:Value×List Value->Shared->Prop}(X:K.In s.heap)(I:y_ s.heap x dx C mA)(hg:W.plainGet K C name=true)(hf:W.findIn K (.ref C) name=some (some (.ref f)))(ht:W.isFn K (.ref f)=true)(hv:mA name=none)(h:Q (.ref f,[.ref x]) s): wpAny (model prog w) A (getMethod (.ref x) name pl) Q E s:=by
 obtain⟨od,aac,hl⟩:=I.look;exact W.method_fn X aac (W.plainGet_of hg).1 (W.plainGet_of hg).2 hf (ly.mp ht) (by show(W.lookIn name od).map (·.isSome)=some false;rw[hl,hv];rfl) h
theorem Mr{Q:Unit->Shared->Prop}(X:K.In s.heap)(I:y_ s.heap x dx C mA)(hs:W.findIn K (.ref C) "__setattr__"=some (some (.builtin "object.__setattr__")))(hp:W.plainOver K C=true)(ht:W.takerIn K C name=some none)(hh:W.hasDictIn K C=true)(hw:PySem.Within mA ns)(hsz:ns.length<=sizeLine)(h:∀ h',y_ h' x dx C (fun y=>if y=name then some v else mA y)->Heap.SameBut dx s.heap h'->Q () { s with heap:=h',toks:=s.toks+2 }): wpAny (model prog w) A (setAttr (.ref x) name v) Q E s:=by
 obtain⟨od,aac,hl⟩:=I.look;refine W.set_plain X aac hs (W.osa_open (s:={ s with toks:=s.toks+1 }) (r:=none) X aac hp ht fun b=>?_);obtain⟨cd,hc,wc⟩:=W.any_some hh;have hx:s.heap.get? x=some ⟨.ref C,some dx,.plain,#[]⟩:=I.obj;refine ae (ar (ae (ae (wpAny_loadPart hx (ae (W.Looks.here (s:={ s with toks:=s.toks+1 }) (W.looks_clsIn X hc) ?_))))));rw[wc];refine ar (a:=some dx) (ae (ar (ae ?_)));refine wpAny_nsSet1 (s:={ s with toks:=s.toks+1 }) I.ns fun h' Cf AX=>?_
 obtain⟨oD,esD,epD,hoD,hdD,hcD⟩:=Cf.count (PySem.Within.cons name v hw);refine ae (wpAny_lookBehind hoD (by rw[hdD];exact pastItsLine_dict (g9 hcD (by rw[ba];exact G))) ?_);exact ar (h _ ⟨(AX.2 _ (aS I.ne)).trans I.obj,Cf,I.ne⟩ AX)
theorem Ii{vs:List Value}(X:K.In s.heap)(hm:W.makesIn K C=true)
  (hi:W.findIn K (.ref C) "__init__"=some (some (.ref f))) (hf:W.typeIn K (.ref f)=some (.type "function"))
  (h:codeAny (model prog w) (A.under (.builtin "type.__call__" ⟨.ref C::vs,kw⟩)) (.call (.ref f) ⟨.ref (s.heap.objs.size+1):: vs,kw⟩) (W.InitBack (s.heap.objs.size+1) R)
   { s with heap:=(s.heap.push W.emptyDict).push (W.instObj C s.heap.objs.size) }):
  codeAny (model prog w) A (.call (.ref C) ⟨vs,kw⟩) R s:=by
 obtain⟨hh,g,d,t,os⟩:=s;exact W.make_core (W.makes_of X hm) (W.looks_findIn X hi) (fun self=>W.bind_fn X self hf) (.inl rfl) h
end
def bf(f:Str)(v:V):List (Str×V)->List (Str×V)
 |[]=>[(f,v)]
 |(g,x):: r=>if g=f then(g,v):: r else(g,x):: bf f v r
theorem bB(f g:Str)(v:V):∀ fs:List (Str×V),(bf f v fs).lookup g=if g=f then some v else fs.lookup g
 | []=>by
  show List.lookup g [(f,v)]=_
  by_cases h:g=f
  .have hb:(g==f)=true:=ly.mpr h
   simp only[List.lookup,hb,qp h]
  have hb:(g==f)=false:=js.mpr h;simp only[List.lookup,hb,bX h]
 | (k, x):: r=>by
  have ih:=bB f g v r;rw[show bf f v ((k,x):: r)=(if k=f then(k,v):: r else(k,x):: bf f v r)from rfl]
  by_cases hk:k=f
  .rw[qp hk]
   by_cases h:g=k
   .have hb:(g==k)=true:=ly.mpr h
    simp only[List.lookup,hb,qp (h.trans hk)]
   have hb:(g==k)=false:=js.mpr h;simp only[List.lookup,hb,bX (fun e:g=f=>h (e.trans hk.symm))]
  rw[bX hk]
  by_cases h:g=k
  .have hb:(g==k)=true:=ly.mpr h
   simp only[List.lookup,hb,bX (fun e:g=f=>hk (h.symm.trans e))]
  have hb:(g==k)=false:=js.mpr h;simp only[List.lookup,hb];exact ih
theorem oA(f:Str)(v:V):∀ fs:List (Str×V),f∈(bf f v fs).map (·.1)/\∀ g,g∈fs.map (·.1)->g∈(bf f v fs).map (·.1)
 |[]=>⟨by simp[bf],fun g h=>by simp at h⟩
 | (k,x):: r=>by
  obtain⟨i1,i2⟩:=oA f v r;rw[show bf f v ((k,x):: r)=(if k=f then(k,v):: r else(k,x):: bf f v r)from rfl]
  by_cases hk:k=f
  .rw[qp hk]
   subst hk;exact⟨oz,fun g h=>by simpa using h⟩
  rw[bX hk];refine⟨?_,fun g h=>?_⟩
  .rw[b6]
   exact k9 _ i1
  rw[b6]at h ⊢;rcases ai.mp h with e|e
  .exact ai.mpr (.inl e)
  exact k9 _ (i2 g e)
theorem qF(f:Str)(v:V):∀ fs:List (Str×V),(bf f v fs).length <= fs.length+1
 |[]=>by simp[bf]
 | (k,x):: r=>by
  have ih:=qF f v r;rw[show bf f v ((k,x):: r)=(if k=f then(k,v):: r else(k,x):: bf f v r)from rfl]
  by_cases hk:k=f
  .rw[qp hk,ba,ba];exact G
  rw[bX hk,ba,ba];exact G
theorem mr.some_of{o:Option Value}(r:mr (some v) o):∃ u,o=some u/\RelV v u:=by
 cases o with
 |none=>exact(show False from r).elim
 |some u=>exact⟨u,Z,r⟩
theorem mr.none_of{o:Option Value}(r:mr none o):o=none:=by
 cases o with
 |none=>rfl
 |some u=>exact(show False from r).elim
theorem Ek(r:RelV v u):W.handedIn u=true:=by
 cases v with
 |non=>cases(show u=Value.none from r);rfl
 |bl b=>cases(show u=Value.bool b from r);rfl
 |int i=>obtain⟨t,e⟩:=(show ∃ t,u=Value.int i t from r);cases e;rfl
 |str x=>obtain⟨t,e⟩:=(show ∃ t,u=Value.str x t from r);cases e;rfl
 |byt b=>obtain⟨t,e⟩:=(show ∃ t,u=Value.bytes b t from r);cases e;rfl
 |flt b=>obtain⟨t,e⟩:=(show ∃ t,u=Value.float b t from r);cases e;rfl
 |ref a=>cases(show u=Value.ref a from r);rfl
 |ty n=>cases(show u=Value.type n from r);rfl
section
variable{fs fs':List (Str×V)}
theorem pR(hok:mS P w H h)(e:H a=some (.ins C dx fs)):∃ mA,y_ h a dx C mA/\(∀ f,mr (fs.lookup f) (mA f))/\PySem.Within mA (fs.map (·.1))/\fs.length<=1000/\H dx=some (.own a):=by
 obtain⟨d,z,ne,ob,mA,n,r,q⟩:=(show ft P w H h a (.ins C dx fs)from hok a _ e)
 exact⟨mA,⟨ob,n,ne⟩,r,q,z,d⟩
end
structure z_(K:W.Frag)(C:Addr):Prop where
 pg:W.plainGet K C Str.empty=true
 hd:W.hasDictIn K C=true
 po:W.plainOver K C=true
 sa:W.findIn K (.ref C) "__setattr__"=some (some (.builtin "object.__setattr__"))
theorem z_.get(c:z_ K C)(f:Str):W.plainGet K C f=true:=c.pg
def iL(K:W.Frag)(C:Addr)(f:Str):Prop:=W.findIn K (.ref C) f=some none
theorem iL.PU{f:Str}(n:iL K C f):W.takerIn K C f=some none:=by
 unfold W.takerIn;rw[show W.findIn K (.ref C) f=some none from n]
 rfl
structure Meth(K:W.Frag)(C:Addr)(m:Str)(f:Addr):Prop where
 at_:W.findIn K (.ref C) m=some (some (.ref f))
 fn:W.isFn K (.ref f)=true
 kp:W.keepIn K (.ref f)=true
section
variable{fs:List (Str×V)}{f:Str}
theorem BW{b:Bool}(I:Inv X Y M H s)(e:H a=some (.ins C dx fs))(c:z_ X.K C)(n:iL X.K C f)(l:fs.lookup f=some v)(h:∀ u s',Inv X Y M H s'->RelV v u->Q u s'):wpAny (model X.prog X.w) A (getAttr (.ref a) f b) Q E s:=by
 obtain⟨mA,aab,r,_,_,_⟩:=pR I.hok e;obtain⟨u,hu,ru⟩:=mr.some_of (v:=v) (o:=mA f) (by rw[<- l];exact r f);exact Mm I.kIn aab (c.get f) c.hd n hu (Ek ru) (h u _ (I.tok _) ru)
theorem rT{g:Addr}{pl:Sem Bool}{Q:Value×List Value->Shared->Prop}(I:Inv X Y M H s)(e:H a=some (.ins C dx fs))(c:z_ X.K C)(k:Meth X.K C m g)(l:fs.lookup m=none)(h:Q (.ref g,[.ref a]) s):wpAny (model X.prog X.w) A (getMethod (.ref a) m pl) Q E s:=by
 obtain⟨mA,aab,r,_,_,_⟩:=pR I.hok e;have hn:mA m=none:=mr.none_of (by rw[<- l];exact r m);exact Ih I.kIn aab (c.get m) k.at_ k.fn hn h
theorem BX{Q:Unit->Shared->Prop}(I:Inv X Y M H s)(e:H a=some (.ins C dx fs))(c:z_ X.K C)(n:iL X.K C f)(hl:fs.length<1000)(ry:RelV y u)(h:∀ s',Inv X Y M (upd H a (.ins C dx (bf f y fs))) s'->Q () s'):wpAny (model X.prog X.w) A (setAttr (.ref a) f u) Q E s:=by
 obtain⟨mA,aab,r,wi,_,ho⟩:=pR I.hok e;have hz:(fs.map (·.1)).length <= sizeLine:=by rw[de,sizeLine_eq];exact G
 refine Mr I.kIn aab c.sa c.po n.PU c.hd wi hz fun h' O' sb=>h _ ?_
 have hd:∃ o,h'.get? dx=some o:=let ⟨o,_,_,e',_⟩:=O'.ns;⟨o,e'⟩;refine I.write (x:=a) (e:=dx) (by rw[e];exact True.intro) (.inr ho) (fun b q hb z=>(sb.2 b hb).trans z) hd ?_;refine⟨by rw[aA aab.ne];exact ho,?_,aab.ne,O'.obj,_,O'.ns,fun g=>?_,fun g hg=>?_⟩
 .have:=qF f y fs;exact G
 .show mr ((bf f y fs).lookup g) (if g=f then some u else mA g)
  rw[bB]
  by_cases q:g=f
  .rw[qp q,qp q];exact ry
  rw[bX q,bX q];exact r g
 by_cases q:g=f
 .rw[q];exact(oA f y fs).1
 refine(oA f y fs).2 g (wi g fun z=>hg ?_);show(if g=f then some u else mA g)=none;rw[bX q];exact z
theorem Inv.made(I:Inv X Y M H s):Inv X Y M (upd (upd H s.heap.objs.size (.own (s.heap.objs.size+1))) (s.heap.objs.size+1) (.ins C s.heap.objs.size [])) { s with heap:=(s.heap.push W.emptyDict).push (W.instObj C s.heap.objs.size) }:=by
 have e1:(s.heap.push W.emptyDict).get? s.heap.objs.size=some W.emptyDict:=Heap.get?_push_size s.heap rfl
 have e2:((s.heap.push W.emptyDict).push (W.instObj C s.heap.objs.size)).get? (s.heap.objs.size+1)=some (W.instObj C s.heap.objs.size):=by
  have:=Heap.get?_push_size (s.heap.push W.emptyDict) (o:=W.instObj C s.heap.objs.size) rfl
  rwa [fe]at this
 have e3:(s.heap.push W.emptyDict).Ns s.heap.objs.size (fun _=>none):=⟨W.emptyDict,#[],_,e1,rfl,(fun e he=>absurd he oz),fun _=>rfl⟩
 have I1:=I.laid (a:=s.heap.objs.size) (o:=.own (s.heap.objs.size+1)) (h':=s.heap.push W.emptyDict) (t':=s.toks) (fun b u q=>Heap.get?_push_of_some _ q) (qnr _) ⟨_,e1⟩;refine I1.laid (a:=s.heap.objs.size+1) (o:=.ins C s.heap.objs.size []) (t':=s.toks) (fun b u q=>Heap.get?_push_of_some _ q) (Nat.le_of_eq (fe _ _)) ?_;have ne:s.heap.objs.size≠s.heap.objs.size+1:=bg (lI _);refine⟨by rw[aA ne,ao],mi _,ne,e2,fun _=>none,(Heap.Ns1.of_empty e3).at fun o q=>Heap.get?_push_of_some _ q,fun _=>True.intro,fun y hy=>absurd rfl hy⟩
theorem Ms(hb:attributeBase e f env (eval e env)=eval e env)(h:wpAny (model prog w) A (eval e env) (fun o s₁=>wpAny (model prog w) A (getAttr o f true) Q E s₁) E s):wpAny (model prog w) A (eval (.Attribute e f pos) env) Q E s :=
 Attribute_any_ h (by rw[arm_eval_Attribute,hb])
end
inductive Wv(K:W.Frag)(f:Str)(Q:VK)(x:V)(H:Hp):Prop
 |mk(a C dx:Addr)(fs:List (Str×V))(v:V)(_:x=.ref a)(_:H a=some (.ins C dx fs))(_:z_ K C)(_:iL K C f)(_:fs.lookup f=some v)(_:Q v H)
def Pu(K:W.Frag)(ta:TE)(f:Str):TE:=fun M H Q=>ta M H fun x H1=>Wv K f Q x H1
def Sg(K:W.Frag)(ta tv:TE)(f:Str):TS:=fun D M H=>tv M H fun y H1=>ta M H1 fun x H2=>∃ a C dx fs,x=.ref a/\H2 a=some (.ins C dx fs)/\z_ K C/\iL K C f/\fs.length<1000 /\
 D.nx M (upd H2 a (.ins C dx (bf f y fs)))
section
variable{o:Expr}{f:Str}
theorem bC(he:PE X e ta)(hb:attributeBase e f X.env (eval e X.env)=eval e X.env):PE X (.Attribute e f pos) (Pu X.K ta f):=by
 intro Y s M H Q I h;refine Ms hb (thn (he Y s M H _ I h) fun u s1 ⟨x,H1,I1,rx,a,C,dx,fs,v,ex,ea,c,n,l,q⟩=>?_);subst ex;obtain rfl:u=Value.ref a:=rx;exact BW I1 ea c n l fun u' s2 I2 ru=>⟨v,H1,I2,ru,q⟩
theorem iM(ha:PE X o ta)(hv:PE X value tv)(hs:swapsWith value (some (.Attribute o f pos')) pos.line X.env=pure false):PS X (.Assign [.Attribute o f pos'] value pos) (Sg X.K ta tv f):=by
 intro Y s M H D I h;refine plainObj_wpAny_Assign_Attribute (thn (hv Y s M H _ I h) fun u s1 ⟨y,H1,I1,ry,q⟩=>thn (ha Y s1 M H1 _ I1 q) fun ov s2 ⟨x,H2,I2,rx,a,C,dx,fs,ex,ea,c,n,l,q2⟩=>?_) hs;subst ex;obtain rfl:ov=Value.ref a:=rx;exact BX I2 ea c n l ry fun s3 I3=>⟨M,_,I3,q2⟩
end
section
variable{c:Value}{b:Bool}
inductive px(K:W.Frag)(H:Hp):V->Value->Prop where
 |non:px K H .non (.type "NoneType")
 |bl (x:Bool):px K H (.bl x) (.type "bool")
 |int (i:Int):px K H (.int i) (.type "int")
 |str (x:Str):px K H (.str x) (.type "str")
 |flt (x:UInt64):px K H (.flt x) (.type "float")
 |lst {a:Addr} {xs:List V} (e:H a=some (.lst xs)):px K H (.ref a) (.type "list")
 |xA {a:Addr} {o:Obj} {xs:List V} (e:H a=some (.xA o (.lst xs))):px K H (.ref a) (.type "list")
 |tup {a:Addr} {xs:List V} (e:H a=some (.tup xs)):px K H (.ref a) (.type "tuple")
 |dK {a:Addr} {kvs:List (Key×V)} (e:H a=some (.dK kvs)):px K H (.ref a) (.type "dict")
 |dT {a:Addr} {kvs:List (List Key×V)} (e:H a=some (.dT kvs)):px K H (.ref a) (.type "dict")
 | ins {a C dx:Addr} {fs:List (Str×V)} (e:H a=some (.ins C dx fs)) (cl:z_ K C) (ha:W.findIn K (.ref C) "__class__"=some (some (.builtin "object.__class__")))
   (hn:W.specialIn K (.builtin "object.__class__") "__get__"=some (some (.builtin "getset_descriptor.__get__"))) (ZD:W.takesIn K (.builtin "object.__class__")=some true)
   (hm:W.mroIn K C (.type "object")=some true):px K H (.ref a) (.ref C)
theorem El{x:V}{t:Value}(I:Inv X Y M H s)(rx:RelV x u)(ty:px X.K H x t)(e:W.kitOne X.K t c=some b)(h:∀ tk,Q (.bool b) { s with toks:=tk }): wpAny (model X.prog X.w) A (call (.builtin "isinstance") [u,c]) Q E s:=by
 cases ty with
 |non=>cases(show u=Value.none from rx);exact kq W.kitx_none I.kIn True.intro e (fun z=>nomatch z) h
 |bl y=>cases(show u=Value.bool y from rx);exact kq W.kitx_bool I.kIn True.intro e (fun z=>nomatch z) h
 |int i=>obtain⟨t,q⟩:=(show ∃ t,u=Value.int i t from rx);cases q;exact kq W.kitx_int I.kIn True.intro e (fun z=>nomatch z) h
 |str y=>obtain⟨t,q⟩:=(show ∃ t,u=Value.str y t from rx);cases q;exact kq W.kitx_str I.kIn True.intro e (fun z=>nomatch z) h
 |flt y=>obtain⟨t,q⟩:=(show ∃ t,u=Value.float y t from rx);cases q;exact kq W.kitx_float I.kIn True.intro e (fun z=>nomatch z) h
 | @lst a xs ea =>
  cases(show u=Value.ref a from rx);obtain⟨_,_,n,_,h1⟩:=(show ft X.prog X.w H s.heap a (.lst xs)from I.hok a _ ea)
  exact kq W.kitx_list I.kIn ⟨_,h1,rfl⟩ e (fun z=>nomatch z) h
 | @xA a ob xs ea =>
  cases(show u=Value.ref a from rx);obtain⟨_,_,_,n,_,h1⟩:=(show ft X.prog X.w H s.heap a (.xA ob (.lst xs))from I.hok a _ ea)
  exact kq W.kitx_list I.kIn ⟨_,h1,rfl⟩ e (fun z=>nomatch z) h
 | @tup a xs ea =>
  cases(show u=Value.ref a from rx);obtain⟨_,_,_,p⟩:=(show ft X.prog X.w H s.heap a (.tup xs)from I.hok a _ ea)
  obtain⟨o,h1,h2,_⟩:=p;exact kq W.kitx_tuple I.kIn ⟨o,h1,h2⟩ e (fun z=>nomatch z) h
 | @dK a kvs ea =>
  cases(show u=Value.ref a from rx);obtain⟨_,_,vs,_,p⟩:=(show ft X.prog X.w H s.heap a (.dK kvs)from I.hok a _ ea)
  obtain⟨o,es,ep,h1,h2,_⟩:=p;exact kq W.kitx_dict I.kIn ⟨o,h1,h2.1⟩ e (fun z=>nomatch z) h
 | @dT a kvs ea =>
  cases(show u=Value.ref a from rx);obtain⟨_,_,xs,_,o,es,ep,h1,h2,_⟩:=(show ft X.prog X.w H s.heap a (.dT kvs)from I.hok a _ ea)
  exact kq W.kitx_dict I.kIn ⟨o,h1,h2.1⟩ e (fun z=>nomatch z) h
 | @ins a C dx fs ea cl ha hn ZD hm =>
  cases(show u=Value.ref a from rx);obtain⟨mA,aab,_⟩:=pR I.hok ea;obtain⟨od,aac,_⟩:=aab.look;exact kq (W.kitx_own (cl.get _) cl.hd ha hn ZD hm) I.kIn aac e (fun z=>nomatch z) h
end
structure fI(k:Nat)(A:Around):Prop where
 hd:A.handled=none
 dp:A.depth+3*k+5<recursionLimit
 un:A.units+16*k+200<cLine
theorem fI.mono{k:Nat}(r:fI k A)(h:j<=k):fI j A:=⟨r.hd,by have:=r.dp;exact G,by have:=r.un;exact G⟩
theorem fI.deeper{k:Nat}(r:fI (k+1) A)(env:Env):fI k (A.deeper env):=
 ⟨r.hd,by have:=r.dp;show A.depth+1+3*k+5<_;exact G,by have:=r.un;show A.units+3+16*k+200<_;exact G⟩
theorem BZ:(A.under (.builtin "type.__call__" ⟨.ref C::us,kw⟩)).depth=A.depth+1:=by
 first|rfl|simp[Around.under,Code.weight,Code.isCreation,Code.isGuard,Code.isCaller,Code.frames,Code.isFrame,guardIds]
theorem Ca:(A.under (.builtin "type.__call__" ⟨.ref C::us,kw⟩)).units=A.units+1:=by
 first|rfl|simp[Around.under,Code.cUnits,Code.frames,Code.isFrame]
theorem fI.make{k:Nat}(r:fI (k+1) A)(C:Addr)(us:List Value)(kw:List (Str×Value)):fI k (A.under (.builtin "type.__call__" ⟨.ref C::us,kw⟩)):=
 ⟨r.hd,by have:=r.dp;rw[BZ];exact G,by have:=r.un;rw[Ca];exact G⟩
theorem fI.depth{k:Nat}(r:fI k A):A.depth<recursionLimit:=by have:=r.dp;exact G
theorem fI.units{k:Nat}(r:fI k A):A.units+64<cLine:=by have:=r.un;exact G
def oE:TA:=fun _ H Q=>Q [] H
def vW(ta:TE)(tr:TA):TA:=fun M H Q=>ta M H fun x H1=>tr M H1 fun xs H2=>Q (x::xs) H2
section
variable{t:TA}
theorem aj:PA X [] oE:=fun _ _ _ _ H Q I h=>Calls.spliced_nil ⟨[],H,I,.nil,h⟩
theorem aa(ha:PE X e te)(hr:PA X es t)(hs:starEach (e::es) X.env=(false,eval e X.env):: starEach es X.env:=by rfl):PA X (e::es) (vW te t):=by
 intro pos Y s M H Q I h;rw[hs];show wpAny _ _ (spliced ((false,eval e X.env):: backTo pos (starEach es X.env))) _ _ s;refine Calls.spliced_cons (thn (ha Y s M H _ I h) fun u s1 ⟨x,H1,I1,r1,q1⟩=>?_);exact thn (hr pos Y s1 M H1 _ I1 q1) fun us s2 ⟨xs,H2,I2,r2,q2⟩=>⟨x::xs,H2,I2,.cons r1 r2,q2⟩
def Sh(t:TA):TE:=fun M H Q=>t M H fun xs H1=>xs.length<=sizeLine/\∀ p,H1 p=none->Q (.ref p) (upd H1 p (.tup xs))
def Sq(t:TA):TE:=fun M H Q=>t M H fun xs H1=>xs.length<=sizeLine/\∀ p,H1 p=none->Q (.ref p) (upd H1 p (.lst xs))
theorem bj{x1}(h:PA X es t):PE X (.Tuple es x1 pos) (Sh t):=by
 intro Y s M H Q I hq;refine wpAny_Tuple_spliced (thn (h pos Y s M H _ I hq) fun us s1 ⟨xs,H1,I1,r,z,q⟩=>⟨by rw[<- r.length];exact z,?_⟩);have hf:H1 s1.heap.objs.size=none:=I1.hok.fresh (qnr _);refine⟨.ref s1.heap.objs.size,upd H1 s1.heap.objs.size (.tup xs),I1.laid (t':=s1.toks) (fun b u e=>Heap.get?_push_of_some _ e) (qnr _) ?_,Z,q _ hf⟩;exact⟨z,us,r,⟨_,Heap.get?_push_size _ rfl,Z,_,Z⟩⟩
theorem bz(h:PA X es t):PE X (.List es pos) (Sq t):=by
 intro Y s M H Q I hq;refine wpAny_List_spliced (thn (h pos Y s M H _ I hq) fun us s1 ⟨xs,H1,I1,r,z,q⟩=>⟨by rw[<- r.length];exact z,?_⟩);have hf:H1 s1.heap.objs.size=none:=I1.hok.fresh (qnr _);refine⟨.ref s1.heap.objs.size,upd H1 s1.heap.objs.size (.lst xs),I1.laid (t':=s1.toks) (fun b u e=>Heap.get?_push_of_some _ e) (qnr _) ?_,Z,q _ hf⟩;exact⟨z,us,0,r,Heap.get?_push_size _ rfl⟩
end
abbrev Sp:=List V->Hp->VK->XK->Prop
end L2
variable{sp:L2.Sp}
namespace L2
open PySem PySem.Spec PyProof.Rows
abbrev xD:=List Env->Hp->Shared->XK->Value->Shared->Prop
structure z5(P:Program)(w:World)(K:W.Frag)(mg:Str->Option Value)(base:Heap)(A:Around)(outer:List Env)(s:Shared)(H:Hp):Prop where
 frames:A.frames=some outer
 mod:Mod K mg base
 bs:∀ b o,base.get? b=some o->s.heap.get? b=some o/\H b=none
 EH:base.objs.size<=s.heap.objs.size
 oP:s.heap.FunFrames base outer
 IM:∀ b∈ky outer,H b=none
 hok:mS P w H s.heap
 bare:AllBare s.gens
def CE(outer:List Env)(P:Program)(w:World)(H:Hp)(s:Shared)(Q:VK)(u:Value)(s':Shared):Prop :=
 ∃ v J,s'.os=s.os/\AllBare s'.gens/\Un (ky outer) [] H J s.heap s'.heap/\mS P w J s'.heap/\RelV v u/\Q v J
def CR(CX:xD)(outer:List Env)(P:Program)(w:World)(H:Hp)(s:Shared)(Q:VK)(E:XK)(r:Result)(s':Shared):Prop :=
 match r with
 | .ok (.ret u)=>CE outer P w H s Q u s'
 | .ok _=>False
 | .error e=>CX outer H s E e s'
structure g7(P:Program)(w:World)(K:W.Frag)(mg:Str->Option Value)(base:Heap)(CX:xD)(k:Nat)(f:Addr)(fd:FuncData)(ps:List Str)(sp:Sp):Prop where
 len:∀ vs H Q E,sp vs H Q E->vs.length=ps.length
 run:∀(A:Around)(outer:List Env)(s:Shared)(H:Hp)(args:Args)(us:List Value)(vs:List V)(Q:VK)(E:XK),fI k A->z5 P w K mg base A outer s H->BindsTo s fd args (ps.zip us)->Vals vs us->sp vs H Q E ->
  codeAny (model P w) A (.call (.ref f) args) (CR CX outer P w H s Q E) s
theorem g7.mono{P:Program}{w:World}{K:W.Frag}{mg:Str->Option Value}{base:Heap}{CX:xD}{j k:Nat}{f:Addr}{fd:FuncData}{ps:List Str}{sp:Sp}(F:g7 P w K mg base CX j f fd ps sp)(h:j<=k): g7 P w K mg base CX k f fd ps sp:=⟨F.len,fun A outer s H args us vs Q E hr=>F.run A outer s H args us vs Q E (hr.mono h)⟩
theorem g7.imp{CX:xD}{k:Nat}{Zh:Sp}(F:g7 P w K mg base CX k f fd ps sp)(h:∀ vs H Q E,Zh vs H Q E->sp vs H Q E):g7 P w K mg base CX k f fd ps Zh :=
 ⟨fun vs H Q E q=>F.len vs H Q E (h _ _ _ _ q),fun A outer s H args us vs Q E hr he hb hv hs=>F.run A outer s H args us vs Q E hr he hb hv (h _ _ _ _ hs)⟩
theorem z5.make(e:z5 P w K mg base A outer s H)(C:Addr)(us:List Value)(kw:List (Str×Value)): z5 P w K mg base (A.under (.builtin "type.__call__" ⟨.ref C::us,kw⟩)) outer s H:=⟨by first|exact e.frames | (simpa[Around.under,Code.envs,Code.isFrame,pushEnvs]using e.frames),e.mod,e.bs,e.EH,e.oP,e.IM,e.hok,e.bare⟩
theorem Inv.NY(I:Inv X Y M H s):z5 X.prog X.w X.K X.mg X.base X.A X.stack s H :=
 ⟨I.ok.frames,I.ok.mod,I.bs,g9 I.ok.EH I.sz,I.stack,I.mI,I.hok,I.bare⟩
theorem Inv.after{Q:VK}(I:Inv X Y M H s)(h:CE X.stack X.prog X.w H s Q u s'):EP X Y M Q u s':=by
 obtain⟨v,J,os,bare,un,hok,r,q⟩:=h;obtain⟨hh,g,d,t,os'⟩:=s';obtain rfl:os'=s.os:=os;exact⟨v,J,I.call (h':=hh) (g':=g) (d':=d) (t':=t) (ch:=[]) un hok bare (fun b z=>absurd z oz),r,q⟩
def Cd(sp:Sp)(dvs:List V)(E:XK)(t:TA):TE:=fun M H Q=>t M H fun vs H1=>sp (vs++dvs) H1 Q E
inductive Q_(C:Addr)(m:Str)(x:V)(H:Hp)(R:Prop):Prop
 |mk(a dx:Addr)(fs:List (Str×V))(_:x=.ref a)(_:H a=some (.ins C dx fs))(_:fs.lookup m=none)(_:R)
def vX(C:Addr)(m:Str)(sp:Sp)(dvs:List V)(E:XK)(ta:TE)(t:TA):TE:=fun M H Q=>ta M H fun x H1=>Q_ C m x H1 (t M H1 fun vs H2=>sp (x::(vs++dvs)) H2 Q E)
def vY(C:Addr)(sp:Sp)(dvs:List V)(E:XK)(t:TA):TE:=fun M H Q=>t M H fun vs H1=>∀ x dx,H1 x=none->H1 dx=none->dx≠x ->
 sp (.ref x::(vs++dvs)) (upd (upd H1 dx (.own x)) x (.ins C dx [])) (fun v H2=>v=.non /\ Q (.ref x) H2) E
def Binds(K:W.Frag)(fd:FuncData)(ps:List Str)(ds:List Value):Prop :=
 ∀(s:Shared)(us:List Value),K.In s.heap->(us++ds).length=ps.length->BindsTo s fd ⟨us,[]⟩ (ps.zip (us++ds))
theorem Binds.all(h:∀ us:List Value,us.length=ps.length->bindArgs fd ⟨us,[]⟩=pure (ps.zip us)):Binds K fd ps []:=fun s us _ hl=>by
 rw[c_]at hl ⊢;exact .of_eq (h us hl)
def eN(CX:xD)(X:Cx)(E:XK):Prop:=∀(Y:List (Addr×Obj))(M:St)(H:Hp)(s:Shared)(e:Value)(s':Shared),Inv X Y M H s->CX X.stack H s E e s'->X.xe e s'
section
variable{CX:xD}{k:Nat}{E:XK}{o:Expr}{t:TA}
theorem rW{Q:VK}(F:g7 X.prog X.w X.K X.mg X.base CX k f fd ps sp)(hr:fI k X.A)(hb:Binds X.K fd ps ds)(hd:Vals dvs ds)(hx:eN CX X E)(I:Inv X Y M H s)(r:Vals vs us)(h:sp (vs++dvs) H Q E):wpAny (model X.prog X.w) X.A (call (.ref f) us) (EP X Y M Q) X.xe s:=by
 have r2:Vals (vs++dvs) (us++ds):=r.append hd;have hl:(us++ds).length=ps.length:=by rw[<- r2.length];exact F.len _ _ _ _ h
 refine wpAny_call (vn (F.run X.A X.stack s H ⟨us,[]⟩ (us++ds) (vs++dvs) Q E hr I.NY (hb s us I.kIn hl) r2 h) fun r s' hq=>?_);cases r with
 |error e=>exact hx Y M H s e s' I hq
 | ok fl =>
  cases fl with
  |ret u=>exact I.after hq
  |next=>exact False.elim hq
  |brk=>exact False.elim hq
  |cont=>exact False.elim hq
theorem pU(F:g7 X.prog X.w X.K X.mg X.base CX k f fd ps sp)(hr:fI k X.A)(hg:Gl X x)(hm:X.mg x=some (.ref f))(hk:W.keepIn X.K (.ref f)=true)(hb:Binds X.K fd ps ds)(hd:Vals dvs ds)(hx:eN CX X E)
  (ha:PA X (e::es) t) (mf:(x==("__debug__":Str))=false:=by decide) (he:starEach (e::es) X.env=(false,eval e X.env):: starEach es X.env:=by rfl) (ic:(backTo pos (starEach es X.env)).any (·.1)=false:=by rfl):
  PE X (.Call (.Name x p) (e::es) [] pos) (Cd sp dvs E t):=by
 intro Y s M H Q I h;refine c9 (je I hg hm ?_ mf);refine vv (h₀:=X.base) I.ok.mod.Kk hk (thn (ha pos Y s M H _ I h) fun us s1 ⟨vs,H1,I1,r,q⟩=>⟨I1.kIn,?_⟩) he ic;exact rW F hr hb hd hx I1 r q
theorem Mt{pl:Sem Bool}(he:PE X o ta)(c:z_ X.K C)(hm:Meth X.K C m f)(F:g7 X.prog X.w X.K X.mg X.base CX k f fd ps sp)(hr:fI k X.A)(hb:Binds X.K fd ps ds)(hd:Vals dvs ds)(hx:eN CX X E)(ha:PA X (e::es) t)
  (ia:starEach (e::es) X.env=(false,eval e X.env):: starEach es X.env:=by rfl) (ic:(backTo pos (starEach es X.env)).any (·.1)=false:=by rfl)
  (ht:eval (.Call (.Attribute o m apos) (e::es) [] pos) X.env=(do
   let ov <- eval o X.env
   standAt apos.atName
   let (f,first) <- holding [ov] (getMethod ov m pl)
   callWith pos f first (backTo pos (starEach (e::es) X.env)) (backToKw pos (keywordEach [] X.env))):=by rfl):
  PE X (.Call (.Attribute o m apos) (e::es) [] pos) (vX C m sp dvs E ta t):=by
 intro Y s M H Q I h;refine W.methodCall_KW (pl:=pl) (thn (he Y s M H _ I h) fun u s1 ⟨x,H1,I1,rx,a,dx,fs,ex,ea,l,q⟩=>?_) ht;subst ex;obtain rfl:u=Value.ref a:=rx;refine rT I1 ea c hm l ?_;refine vv (first:=[.ref a]) (h₀:=X.base) I.ok.mod.Kk hm.kp (thn (ha pos Y s1 M H1 _ I1 q) fun us s2 ⟨vs,H2,I2,r,q2⟩=>⟨I2.kIn,?_⟩) ia ic;exact rW (us:=.ref a::us) (vs:=.ref a::vs) F hr hb hd hx I2 (.cons rfl r) q2
theorem Ij{pl:Sem Bool}(he:PE X o ta)(c:z_ X.K C)(hm:Meth X.K C m f)(F:g7 X.prog X.w X.K X.mg X.base CX k f fd ps sp)(hr:fI k X.A)(hb:Binds X.K fd ps ds)(hd:Vals dvs ds)(hx:eN CX X E)
  (ht:eval (.Call (.Attribute o m apos) [] [] pos) X.env=(do
   let ov <- eval o X.env
   standAt apos.atName
   let (f,first) <- holding [ov] (getMethod ov m pl)
   callWith pos f first (backTo pos (starEach [] X.env)) (backToKw pos (keywordEach [] X.env))):=by rfl):
  PE X (.Call (.Attribute o m apos) [] [] pos) (vX C m sp dvs E ta oE):=by
 intro Y s M H Q I h;refine W.methodCall_KW (pl:=pl) (thn (he Y s M H _ I h) fun u s1 ⟨x,H1,I1,rx,a,dx,fs,ex,ea,l,q⟩=>?_) ht;subst ex;obtain rfl:u=Value.ref a:=rx;refine rT I1 ea c hm l ?_;exact W.callWith_K0 (first:=[.ref a]) I1.kIn hm.kp (rW (us:=[.ref a]) (vs:=[.ref a]) F hr hb hd hx I1 (.cons rfl .nil) q)
structure Mk(K:W.Frag)(C f:Addr):Prop where
 makes:W.makesIn K C=true
 init:W.findIn K (.ref C) "__init__"=some (some (.ref f))
 fn:W.isFn K (.ref f)=true
 kp:W.keepIn K (.ref C)=true
theorem wL{Q:VK}(aad:Mk X.K C f)(F:g7 X.prog X.w X.K X.mg X.base CX k f fd ps sp)(hr:fI (k+1) X.A)(hb:Binds X.K fd ps ds)(hd:Vals dvs ds)(hx:eN CX X E)(I:Inv X Y M H s)(r:Vals vs us)(h:∀ x dx,H x=none->H dx=none->dx≠x->sp (.ref x::(vs++dvs)) (upd (upd H dx (.own x)) x (.ins C dx [])) (fun v H2=>v=.non /\ Q (.ref x) H2) E): wpAny (model X.prog X.w) X.A (call (.ref C) us) (EP X Y M Q) X.xe s:=by
 have hq:=h (s.heap.objs.size+1) s.heap.objs.size (I.hok.fresh (Nat.le_succ _)) (I.hok.fresh (qnr _)) (bg (lI _));have I2:=Inv.made (C:=C) I;have r2:Vals (V.ref (s.heap.objs.size+1):: (vs++dvs)) (Value.ref (s.heap.objs.size+1):: (us++ds)):=.cons rfl (r.append hd)
 have hl:(Value.ref (s.heap.objs.size+1):: us++ds).length=ps.length:=by
  have e:=r2.length;rw[F.len _ _ _ _ hq]at e;exact e.symm
 refine wpAny_call (Ii (f:=f) I.kIn aad.makes aad.init (ly.mp aad.fn) (vn (F.run _ X.stack _ _ ⟨Value.ref (s.heap.objs.size+1):: us,[]⟩ (Value.ref (s.heap.objs.size+1):: (us++ds)) _ _ E (hr.make C us [])
  (I2.NY.make C us []) (hb _ (Value.ref (s.heap.objs.size+1):: us) I2.kIn hl) r2 hq) fun r s' RY=>?_))
 cases r with
 |error e=>exact hx Y M _ _ e s' I2 RY
 | ok fl =>
  cases fl with
  | ret u =>
   obtain⟨v,J,I3,rv,ev,q3⟩:=I2.after RY;subst ev;exact⟨rv,⟨V.ref (s.heap.objs.size+1),J,I3,Z,q3⟩⟩
  |next=>exact False.elim RY
  |brk=>exact False.elim RY
  |cont=>exact False.elim RY
theorem Mu(aad:Mk X.K C f)(F:g7 X.prog X.w X.K X.mg X.base CX k f fd ps sp)(hr:fI (k+1) X.A)(hg:Gl X x)(hm:X.mg x=some (.ref C))(hb:Binds X.K fd ps ds)(hd:Vals dvs ds)(hx:eN CX X E)
  (ha:PA X (e::es) t) (mf:(x==("__debug__":Str))=false:=by decide) (he:starEach (e::es) X.env=(false,eval e X.env):: starEach es X.env:=by rfl) (ic:(backTo pos (starEach es X.env)).any (·.1)=false:=by rfl):
  PE X (.Call (.Name x p) (e::es) [] pos) (vY C sp dvs E t):=by
 intro Y s M H Q I h;refine c9 (je I hg hm ?_ mf);refine vv (h₀:=X.base) I.ok.mod.Kk aad.kp (thn (ha pos Y s M H _ I h) fun us s1 ⟨vs,H1,I1,r,q⟩=>⟨I1.kIn,?_⟩) he ic;exact wL aad F hr hb hd hx I1 r q
theorem Ik(aad:Mk X.K C f)(F:g7 X.prog X.w X.K X.mg X.base CX k f fd ps sp)(hr:fI (k+1) X.A)(hg:Gl X x)(hm:X.mg x=some (.ref C))(hb:Binds X.K fd ps ds)(hd:Vals dvs ds)(hx:eN CX X E)
  (mf:(x==("__debug__":Str))=false:=by decide):PE X (.Call (.Name x p) [] [] pos) (vY C sp dvs E oE):=by
 intro Y s M H Q I h;refine c9 (je I hg hm ?_ mf);exact W.callWith_K0 I.kIn aad.kp (wL (us:=[]) aad F hr hb hd hx I .nil h)
end
structure ck(N P:List Str)(sc:Scope):Prop where
 kind:sc.kind=.function
 co:sc.isCoroutine=false
 gen:sc.isGenerator=false
 nd:N.Nodup
 pre:N.take P.length=P
 par:∀ x∈P,sc.names.lookup x=some .local \/ sc.names.lookup x=some .cell
 MI:∀ y∈sc.names,y.2≠.free
theorem l8{l:List Str}(h:l.Nodup:=by decide +kernel):l.Nodup:=h
theorem eM{P:List Str}(h1:sc.kind=.function:=by rfl)(h2:sc.isCoroutine=false:=by rfl)(h3:sc.isGenerator=false:=by rfl)(h4:N.Nodup:=by decide +kernel)(h5:N.take P.length=P:=by rfl)(h6:∀ x∈P,sc.names.lookup x=some .local \/ sc.names.lookup x=some .cell:=by decide +kernel)(h7:∀ y∈sc.names,y.2≠.free:=by decide +kernel):ck N P sc:=⟨h1,h2,h3,h4,h5,h6,h7⟩
theorem uJ{kindOf:Str->Option NameKind}{x:Str}:∀{binds:List (Str×Value)}{m:Str->Option Value},(∀ v,(x,v)∉binds)->bindL kindOf binds m x=m x
 |[],_,_=>rfl
 | (n,v):: r,m,h=>by
  unfold bindL;rw[uJ fun w hw=>h w (k9 _ hw)]
  split
  .have:x≠n:=by rintro rfl;exact h v qms
   simp[this]
  rfl
theorem uK{kindOf:Str->Option NameKind}{x:Str}:∀{binds:List (Str×Value)}{m:Str->Option Value},(∀ v,(x,v)∉binds)->bindC kindOf binds m x=m x
 |[],_,_=>rfl
 | (n,v):: r,m,h=>by
  unfold bindC;rw[uK fun w hw=>h w (k9 _ hw)]
  split
  .rfl
  have:x≠n:=by rintro rfl;exact h v qms
  simp[this]
theorem uL{kindOf:Str->Option NameKind}{x:Str}{v:Value}:∀{P:List Str}{vs:List Value}{i:Nat}{m:Str->Option Value},P.Nodup->P[i]?=some x->vs[i]?=some v->kindOf x=some .local -> bindL kindOf (P.zip vs) m x=some v
 |[],_,_,_,_,h,_,_=>by simp at h
 |_::_,[],_,_,_,_,h,_=>by simp at h
 | p::P,w::vs,0,m,nd,h1,h2,hk=>by
  simp at h1 h2;subst h1;subst h2;show bindL kindOf ((p,w):: P.zip vs) m p=_;unfold bindL;rw[uJ fun v hv=>(eW.mp nd).1 (ET hv).1,qp hk];simp
 | p::P,w::vs,i+1,m,nd,h1,h2,hk=>by
  show bindL kindOf ((p,w):: P.zip vs) m x=_;unfold bindL;exact uL (i:=i) (eW.mp nd).2 (by simpa using h1) (by simpa using h2) hk
theorem uM{kindOf:Str->Option NameKind}{x:Str}{v:Value}:∀{P:List Str}{vs:List Value}{i:Nat}{m:Str->Option Value},P.Nodup->P[i]?=some x->vs[i]?=some v->kindOf x≠some .local -> bindC kindOf (P.zip vs) m x=some v
 |[],_,_,_,_,h,_,_=>by simp at h
 |_::_,[],_,_,_,_,h,_=>by simp at h
 | p::P,w::vs,0,m,nd,h1,h2,hk=>by
  simp at h1 h2;subst h1;subst h2;show bindC kindOf ((p,w):: P.zip vs) m p=_;unfold bindC;rw[uK fun v hv=>(eW.mp nd).1 (ET hv).1,bX hk];simp
 | p::P,w::vs,i+1,m,nd,h1,h2,hk=>by
  show bindC kindOf ((p,w):: P.zip vs) m x=_;unfold bindC;exact uM (i:=i) (eW.mp nd).2 (by simpa using h1) (by simpa using h2) hk
def start(N:List Str)(vs:List V):St:=vs.map some++List.replicate (N.length-vs.length) none
def cg(CX:xD)(P:Program)(w:World)(K:W.Frag)(mg:Str->Option Value)(base:Heap)(N:List Str)(qual:Str)(scope:Scope)(f:Addr)(cd:Value)(A:Around)(outer:List Env)(s:Shared)(H:Hp)(E:XK):Cx where
 prog:=P
 w:=w
 K:=K
 mg:=mg
 base:=base
 A:=A.deeper (envOfC qual scope s.heap.objs.size f cd)
 N:=N
 s₀:=s
 H₀:=H
 env:=envOfC qual scope s.heap.objs.size f cd
 outer:=outer
 stack:=envOfC qual scope s.heap.objs.size f cd::outer
 ex:=[]
 calm:=true
 fn:=fun _=>true
 pn:=[]
 xe:=fun e s'=>wpAny (model P w) (A.deeper (envOfC qual scope s.heap.objs.size f cd)) (leaving (envOfC qual scope s.heap.objs.size f cd) e) (fun _ V6=>CX outer H s E e V6) (fun e' V6=>CX outer H s E e' V6) s'
theorem wM(h:sc.names.lookup x=some .cell):∃ c,(cellsFrom n sc.names []).lookup x=some c:=by
 have q:=W.cellsFrom_some sc.names n [] (.inl h);exact j'.mp q
theorem Em{CX:xD}{E:XK}(S:ck N ps scope)(hd:A.handled=none)(e0:z5 P w K mg base A outer s H)(hl:vs.length=ps.length)(r:Vals vs us)(x:InCallC s s.heap.objs.size (bindL (envOfC qual scope s.heap.objs.size f cd).kindOf (ps.zip us) fun _=>none) (cellsFrom (s.heap.objs.size+1) scope.names []) (bindC (envOfC qual scope s.heap.objs.size f cd).kindOf (ps.zip us) fun _=>none) s1): Inv (cg CX P w K mg base N qual scope f cd A outer s H E) [] (start N vs) H s1:=by
 have ic:ps.length<=N.length:=by have:=b4 List.length S.pre;rw[bq]at this;exact G
 obtain⟨h1,tk,rfl,hk⟩:=x.done;have QY:∀ b:Addr,b∉(cg CX P w K mg base N qual scope f cd A outer s H E).ex:=fun b z=>absurd (show b∈([]:List Addr)from z) oz
 refine⟨⟨e0.mod,S.kind,rfl,rfl,qnr _,fun y z c h1 h2=>?_,fun y hy=>?_,fun y c _ h=>?_,fun _=>hd,Around.frames_deeper e0.frames,.inr ⟨rfl,rfl⟩,fun b z=>absurd z (QY b),e0.bs,e0.EH,fun b _ _=>QY b,fun b z=>absurd z (QY b),e0.oP,e0.IM⟩,
  rfl,e0.bare,Un.kept hk,⟨_,x.toInCall.ns,fun i y v h1 h2 h3=>?_⟩,fun y c h=>⟨_,x.cell y c h⟩,e0.hok.fresh (qnr _),fun y c h=>?_,fun p hp=>absurd (show p∈([]:List (Addr×Obj))from hp) oz,e0.hok.kept hk,?_⟩
 .exact name_of_addr x.apart (PySem.mem_of_lookup h1) (PySem.mem_of_lookup h2)
 .have hy:scope.names.lookup y=some .cell \/ scope.names.lookup y=some .free:=hy
  rcases hy with hy|hy
  .exact wM hy
  exact absurd rfl (S.MI _ (PySem.mem_of_lookup hy))
 .exact mB (x.above y c (PySem.mem_of_lookup h))
 .have hi:i<vs.length:=by
   unfold start at h2
   by_cases hi:i<vs.length
   .exact hi
   rw[List.getElem?_append_right (by simpa using hi)]at h2;rw[List.getElem?_replicate]at h2
   split at h2<;>cases h2
  have ha:vs[i]?=some v:=by
   unfold start at h2;rw[List.getElem?_append_left (by simpa using hi),kg]at h2;cases e:vs[i]? with
   |none=>rw[e]at h2;cases h2
   |some a=>rw[e]at h2;cases h2;rfl
  obtain⟨u,hu,rv⟩:=r.get ha
  have hp:ps[i]?=some y:=by
   rw[<- S.pre,List.getElem?_take_of_lt G];exact h1
  have Zt:ps.Nodup:=by rw[<- S.pre];exact S.nd.sublist (List.take_sublist _ _)
  refine⟨u,rv,?_⟩;rcases S.par y (pj hp)with k|k
  .exact .inl ⟨k,uL Zt hp hu k⟩
  obtain⟨c,e⟩:=wM (n:=s.heap.objs.size+1) k;refine .inr ⟨.inl k,c,e,?_⟩;have q:=x.cell y c e;rw[uM Zt hp hu (by show scope.names.lookup y≠_;rw[k];decide)]at q;exact q
 .exact e0.hok.fresh (mB (x.above y c (PySem.mem_of_lookup h)))
 unfold start;show _=N.length;rw[af,de,c8];exact G
theorem Rc{CX:xD}{k:Nat}{params:Arguments}{dV kV:Value}(lk:K.lookup f=some ⟨oc,od,.func (W.fnOf name qual params body scope dV kV doc pm an ja ct),MG⟩)(y6:W.codeIn K ja qual=true)(S:ck N ps scope)(len:∀ vs H Q E,sp vs H Q E->vs.length=ps.length)(sM:∀(A:Around)(outer:List Env)(s:Shared)(H:Hp)(vs:List V)(Q:VK)(E:XK),fI k (A.deeper (envOfC qual scope s.heap.objs.size f ja))->sp vs H Q E -> ∃ t,y9 (cg CX P w K mg base N qual scope f ja A outer s H E) body t/\t { nx:=fun _ J=>Q .non J,rt:=Q } (start N vs) H): g7 P w K mg base CX (k+1) f (W.fnOf name qual params body scope dV kV doc pm an ja ct) ps sp:=by
 refine⟨len,fun A outer s H args us vs Q E hr e0 hb r E6=>?_⟩;have hl:=len _ _ _ _ E6;have KX:K.In s.heap:=e0.mod.Kk.keeps fun b o e=>(e0.bs b o e).1
 have lim:s.heap.NoLimit:=e0.mod.nolimit.keeps fun b o e=>(e0.bs b o e).1
 have SF:∀ y∈ps.zip us,scope.names.lookup y.1=some .local \/ (scope.names.lookup y.1=some .cell /\ ((cellsFrom (s.heap.objs.size+1) scope.names []).lookup y.1).isSome=true):=fun⟨n,v⟩ hy=>by
  rcases S.par n (ET hy).1 with q|q
  .exact .inl q
  exact .inr ⟨q,W.cellsFrom_some _ _ _ (.inl q)⟩
 refine codeAny_call_function hr.depth (KX _ _ lk) rfl S.co S.gen rfl (W.codeRec_of KX y6) (hb _ _ _ _ ?_);refine wpAny_newFunctionEnv_cells S.kind SF fun env he s1 x=>?_
 subst he;refine⟨lim.keeps x.toInCall.keep,codeAny_func ?_⟩;obtain⟨t,ht,hq⟩:=sM A outer s H vs Q E (hr.deeper _) E6;have I:Inv (cg CX P w K mg base N qual scope f ja A outer s H E) [] (start N vs) H s1:=Em S hr.hd e0 hl r x;refine dQ (ht [] s1 (start N vs) H _ I hq) (fun fl s' hs=>?_) fun e s' hs=>hs
 have fin:∀{σ':St}{J:Hp}{v:V}{u:Value},Inv (cg CX P w K mg base N qual scope f ja A outer s H E) [] σ' J s'->RelV v u->Q v J->CE outer P w H s Q u s' :=
  fun {σ' J v u} aac rv q=>⟨v,J,aac.os,aac.bare,aac.base,aac.hok,rv,q⟩
 cases fl with
 | ret u =>
  obtain⟨v,σ',J,aac,rv,q⟩:=hs;exact fin aac rv q
 | next =>
  obtain⟨σ',J,aac,q⟩:=hs;exact fin (v:=V.non) (u:=Value.none) aac rfl q
 | brk =>
  obtain⟨_,_,_,q⟩:=hs;exact False.elim q
 | cont =>
  obtain⟨_,_,_,q⟩:=hs;exact False.elim q
section
variable{t:TA}{id T:String}{r:List V->Hp->VK->Prop}
def Ux(r:List V->Hp->VK->Prop)(t:TA):TE:=fun M H Q=>t M H fun vs H1=>r vs H1 Q
theorem wN(hc:dR X (.builtin id) r) (hg:Gl X x) (hm:X.mg x=none) (hv:bootBuiltins x=some (.builtin id)) (ha:PA X (e::es) t) (hn:x≠"__name__":=by decide) (mf:(x==("__debug__":Str))=false:=by decide)
  (he:starEach (e::es) X.env=(false,eval e X.env):: starEach es X.env:=by rfl) (ic:(backTo pos (starEach es X.env)).any (·.1)=false:=by rfl):PE X (.Call (.Name x p) (e::es) [] pos) (Ux r t):=by
 intro Y s M H Q I h;refine c9 (gP I hg hm hv ?_ hn mf);exact PyProof.Rows.callWith_builtin1 (thn (ha pos Y s M H _ I h) fun us s1 ⟨vs,H1,I1,r1,q1⟩=>hc Y s1 M H1 vs us Q I1 r1 q1) he ic
theorem uN(hc:dR X (.type T) r) (hg:Gl X x) (hm:X.mg x=none) (hv:bootBuiltins x=some (.type T)) (ha:PA X (e::es) t) (hn:x≠"__name__":=by decide) (mf:(x==("__debug__":Str))=false:=by decide)
  (he:starEach (e::es) X.env=(false,eval e X.env):: starEach es X.env:=by rfl) (ic:(backTo pos (starEach es X.env)).any (·.1)=false:=by rfl):PE X (.Call (.Name x p) (e::es) [] pos) (Ux r t):=by
 intro Y s M H Q I h;refine c9 (gP I hg hm hv ?_ hn mf);exact dn (thn (ha pos Y s M H _ I h) fun us s1 ⟨vs,H1,I1,r1,q1⟩=>hc Y s1 M H1 vs us Q I1 r1 q1) he ic
end
end L2
variable{CX:L2.xD}
namespace HT
open PySem PyProof.Rows
theorem IP{t:Addr}{vs ws:List Value}(ht:IsTup s.heap t vs.toArray)(hb:IsTup s.heap b ws.toArray)(hv:vs≠[])(h1:ws=[]->Q (.ref t) s)(h2:ws≠[]->Q (.ref s.heap.objs.size) { s with heap:=s.heap.push { cls:=.type "tuple",data:=.seq (vs++ws).toArray } })(hsz:vs.length+ws.length<=sizeLine):wpAny (model prog w) A (binaryOp .Add (.ref t) (.ref b)) Q E s:=by
 obtain⟨⟨cls,dd,data,sl⟩,ho,hc,n,hd⟩:=id ht;obtain⟨⟨cls2,dd2,data2,Zi⟩,U1,ng,n2,hd2⟩:=id hb;simp only at hc hd ng hd2;subst hc hd ng hd2;have e:vs.toArray++ws.toArray=(vs++ws).toArray:=by simp
 by_cases hw:ws=[]
 .exact concat_meets ⟨_,ho,rfl⟩ ⟨_,U1,rfl⟩ noFill_tuple_add seq_tuple_add PySem.F.slot_tuple_add PySem.F.entry_tuple_add (PySem.F.args_tuple_add_2 _ _)
   (tuple_addW1 t b vs.toArray ws.toArray n n2 dd dd2 sl Zi (by simpa using hv) (by simp[hw])) ⟨ho,U1,h1 hw⟩
 refine concat_meets ⟨_,ho,rfl⟩ ⟨_,U1,rfl⟩ noFill_tuple_add seq_tuple_add PySem.F.slot_tuple_add PySem.F.entry_tuple_add (PySem.F.args_tuple_add_2 _ _)
  (tuple_addW2 t b vs.toArray ws.toArray n n2 dd dd2 sl Zi (by simpa using hv) (by simpa using hw) (by rw[ah,ah];exact hsz)) ⟨ho,U1,?_⟩
 rw[e];exact h2 hw
def fN(n d:Nat):Option Int->Nat
 |none=>d
 |some v=>if v<0 then(v+(n:Int)).toNat else min v.toNat n
theorem DM(n d:Nat)(hd:d<=n)(o:Option Int):fN n d o<=n:=by
 cases o with
 |none=>exact hd
 | some v =>
  show(if v<0 then(v+(n:Int)).toNat else min v.toNat n)<=n
  by_cases hv:v<0
  .rw[qp hv];exact G
  rw[bX hv];exact Nat.min_le_right _ _
theorem Ak(v:Int)(n d:Nat):(if v<0 then max (v+(n:Int)) 0 else min v (n:Int))=((fN n d (some v):Nat):Int):=by
 show(if v<0 then max (v+(n:Int)) 0 else min v (n:Int))=(((if v<0 then(v+(n:Int)).toNat else min v.toNat n):Nat):Int)
 by_cases hv:v<0
 .simp only[qp hv];exact G
 simp only[bX hv];exact G
theorem Ce(lo hi:Option Int)(n:Nat):Builtin.Slice.sliceAdjust lo hi 1 (n:Int)=(((fN n 0 lo:Nat):Int),((fN n n hi:Nat):Int)):=by
 have h1:¬((1:Int)<0):=G
 unfold Builtin.Slice.sliceAdjust;simp only[h1,jS];refine Prod.ext ?_ ?_
 .cases lo with
  |none=>rfl
  |some v=>exact Ak v n 0
 cases hi with
 |none=>rfl
 |some v=>exact Ak v n n
theorem Cg(i j:Nat):Builtin.Slice.slicePlaces (i:Int) (j:Int) 1=j-i:=by
 unfold Builtin.Slice.slicePlaces;have h1:(1:Int)>0:=G
 simp only[h1,i6,Int.ediv_one]
 split<;>exact G
theorem rY{v:Value}{o:Option Int}{Q:Option Int->Shared->Prop}(p:IsPart v o)(h:Q o s):wpAny (model prog w) A (Builtin.Slice.slicePartIndex v) Q E s:=by
 cases p with
 |none=>exact slicePart_none h
 |int i t=>exact slicePart_int h
theorem qQ{lo:Option Int}{Q:Int×Int×Nat->Shared->Prop}(hs:s.heap.IsSliceOf sl vl vu .none)(pl:IsPart vl lo)(pu:IsPart vu hi)(h:Q (((fN n 0 lo:Nat):Int),1,fN n n hi-fN n 0 lo) s):wpAny (model prog w) A (Builtin.Slice.sliceApplied (.ref sl) (pure (n:Int))) Q E s:=by
 obtain⟨os,Sf,n_,OX⟩:=id hs;unfold Builtin.Slice.sliceApplied Builtin.Slice.sliceFields;refine ae (ae (cE Sf OX (x:=vl) rfl (ae (cE Sf OX (x:=vu) rfl (ae (cE Sf OX (x:=.none) rfl (ar ?_)))))));refine ae (slicePart_none ?_);show wpAny _ _ (if ((1:Int)==0)=true then _ else _) _ _ s;rw[bX b9];refine ae (rY pl (ae (rY pu (ae (ar ?_)))));show wpAny _ _ (match Builtin.Slice.sliceAdjust lo hi 1 (n:Int)with | (lo,hi)=>pure (lo,(1:Int),Builtin.Slice.slicePlaces lo hi 1)) _ _ s;rw[Ce lo hi n];show wpAny _ _ (pure (((fN n 0 lo:Nat):Int),(1:Int),Builtin.Slice.slicePlaces ((fN n 0 lo:Nat):Int) ((fN n n hi:Nat):Int) 1)) _ _ s;rw[Cg];exact ar h
theorem Il(xs:Array Value)(i k:Nat):((List.range k).filterMap fun(m:Nat)=>xs[((i:Int)+(m:Int)*1).toNat]?).toArray=((xs.toList.drop i).take k).toArray:=by
 have e:(fun(m:Nat)=>xs[((i:Int)+(m:Int)*1).toNat]?)=fun m=>xs[i+m]?:=by
  funext m
  have:((i:Int)+(m:Int)*1).toNat=i+m:=G
  rw[this]
 rw[e];have:=pick_run xs i k;rw[nB]at this;have e2:((fun x=>xs[x]?) ∘ fun x=>i+x)=fun m=>xs[i+m]?:=rfl
 rw[e2]at this;rw[this]
theorem oI{t:Addr}{items:Array Value}{lo:Option Int}(ht:IsTup s.heap t items)(hs:s.heap.IsSliceOf sl vl vu .none)(pl:IsPart vl lo)(pu:IsPart vu hi)(hw:¬(fN items.size 0 lo=0/\fN items.size items.size hi=items.size))(h:Q (.ref s.heap.objs.size) { s with heap:=s.heap.push { cls:=.type "tuple",data:=.seq ((items.toList.drop (fN items.size 0 lo)).take (fN items.size items.size hi-fN items.size 0 lo)).toArray } })(hsz:items.size<=sizeLine):wpAny (model prog w) A (getItem (.ref t) (.ref sl)) Q E s:=by
 have AV:sizeOk (.seq ((items.toList.drop (fN items.size 0 lo)).take (fN items.size items.size hi-fN items.size 0 lo)).toArray):=by
  show((items.toList.drop (fN items.size 0 lo)).take (fN items.size items.size hi-fN items.size 0 lo)).toArray.size<=sizeLine;rw[ah,bq,cm,ax];exact G
 have hj:fN items.size items.size hi<=items.size:=DM _ _ (qnr _) hi;obtain⟨os,Sf,n_,OX⟩:=id hs;have Vi:s.TypeIs (.ref sl) "slice":=⟨os,Sf,n_⟩
 unfold getItem
 try with_reducible refine fz ?_
 first|refine ae (ar ?_)|skip
 refine ae (wpAny_sequenceKey ht.typeIs b9 ?_)
 refine ae (wpAny_callSpecial?_slot (name:=Str.ofString "__getitem__") ht.typeIs k6
  (fv k6 ht.typeIs entry_tuple_getitem ?_ (args_tuple_getitem _ _)))
 show wpAny _ _ (Builtin.Tuple.tupleItemsOf (.ref t)>>=_) _ _ s;refine ae (tupleItemsOf_ ht ?_);refine ae (wpAny_typeOf Vi ?_);rw[qp b9];refine ae (qQ hs pl pu ?_)
 have xw:¬((((fN items.size 0 lo:Nat):Int)==0&&(1:Int)==1&&(fN items.size items.size hi-fN items.size 0 lo)==items.size)=true):=by
  intro q;rw[ez,ez]at q;have q1:((fN items.size 0 lo:Nat):Int)=0:=eq_of_beq q.1.1;have q2:fN items.size items.size hi-fN items.size 0 lo=items.size:=eq_of_beq q.2;exact hw ⟨G,G⟩
 show wpAny _ _ (if (((fN items.size 0 lo:Nat):Int)==0&&(1:Int)==1&&(fN items.size items.size hi-fN items.size 0 lo)==items.size)=true then _ else _) _ _ s;rw[bX xw,Il]
 first
  |exact ae (m:=Builtin.Tuple.tupleExact _) (fT (ar ⟨_,rfl,ar h⟩) AV)
  |exact ae (m:=Builtin.Tuple.tupleExact _) (fT (ae (ar (ar ⟨_,rfl,ar h⟩))) AV)
  |exact ae (ae (m:=Builtin.Tuple.tupleExact _) (fT (ar (ar ⟨_,rfl,ar h⟩)) AV))
  |exact ae (ae (m:=Builtin.Tuple.tupleExact _) (fT (ar ⟨_,rfl,ar h⟩) AV))
end HT
namespace L2
open PySem PySem.Spec PyProof.Rows
abbrev TO:=St->Hp->(Option Int->Hp->Prop)->Prop
def PO(X:Cx)(e:Option Expr)(t:TO):Prop :=
 ∀(Y:List (Addr×Obj))(s:Shared)(M:St)(H:Hp)(Q:Option Int->Hp->Prop),Inv X Y M H s->t M H Q ->
  wpAny (model X.prog X.w) X.A (evalPart e X.env) (fun u s'=>∃ o J,Inv X Y M J s'/\IsPart u o/\Q o J) X.xe s
def Mv:TO:=fun _ H Q=>Q none H
def Rf(t:TE):TO:=fun M H Q=>t M H fun x H1=>∃ i,x=.int i/\Q (some i) H1
theorem intsAre_of{ns:List Int}:∀{us:List Value},Vals (ns.map V.int) us->IntsAre us ns:=by
 induction ns with
 |nil=>intro us r;rw[AD]at r;cases r;exact .nil
 | cons n ns ih =>
  intro us r;rw[b6]at r;cases r with
  | cons r1 r2 =>
   obtain⟨t,e⟩:=r1;subst e;exact .cons n t (ih r2)
section
variable{lo hi:Option Expr}{tl th:TO}
theorem j6:PO X none Mv:=by
 intro Y s M H Q I h;rw[evalPart_none];exact ar ⟨none,H,I,.none,h⟩
theorem iC(h:PE X e te):PO X (some e) (Rf te):=by
 intro Y s M H Q I hw;rw[evalPart_some];refine thn (h Y s M H _ I hw) fun u s1 ⟨x,H1,I1,r1,q1⟩=>?_
 obtain⟨i,rfl,q⟩:=q1;obtain⟨t,rfl⟩:=r1;exact⟨some i,H1,I1,.int i t,q⟩
def VI(X:Cx)(r:V->Option Int->Option Int->Hp->VK->Prop):Prop :=
 ∀(Y:List (Addr×Obj))(s:Shared)(M:St)(H:Hp)(x:V)(v vl vu:Value)(lo hi:Option Int)(sl:Addr)(Q:VK),Inv X Y M H s->RelV x v->s.heap.IsSliceOf sl vl vu .none -> IsPart vl lo->IsPart vu hi->r x lo hi H Q ->
  ∃ T id,typeLookup (.type T) "__getitem__"=pure (some (.builtin id))/\s.TypeIs v T/\wpAny (model X.prog X.w) X.A (getItem v (.ref sl)) (EP X Y M Q) X.xe s
def tSl(r:V->Option Int->Option Int->Hp->VK->Prop)(te:TE)(tl th:TO):TE:=fun M H Q=>te M H fun x H1=>tl M H1 fun l H2=>th M H2 fun u H3=>r x l u H3 Q
theorem ig{r:V->Option Int->Option Int->Hp->VK->Prop}(hr:VI X r)(he:PE X e te)(hl:PO X lo tl)(hu:PO X hi th):PE X (.Subscript e (.Slice lo hi none p2) pos) (tSl r te tl th):=by
 intro Y s M H Q I h;refine Subscript_ (thn (he Y s M H _ I h) fun v s1 ⟨x,H1,I1,r1,q1⟩=>?_);refine wpAny_Slice (thn (hl Y s1 M H1 _ I1 q1) fun vl s2 ⟨l,H2,I2,pl,q2⟩=>thn (hu Y s2 M H2 _ I2 q2) fun vu s3 ⟨u,H3,I3,pu,q3⟩=>?_);rw[evalPart_none];refine ar ?_;have I4:Inv X Y M H3 { s3 with heap:=s3.heap.push { cls:=.type "slice",data:=.fields #[vl,vu,.none] } }:=I3.kept (t':=s3.toks) fun b ob q=>Heap.get?_push_of_some _ q
 obtain⟨T,id,hT,ht,hg⟩:=hr Y { s3 with heap:=s3.heap.push { cls:=.type "slice",data:=.fields #[vl,vu,.none] } } M H3 x v vl vu l u s3.heap.objs.size Q I4 r1 (Heap.IsSliceOf.new ..) pl pu q3;show wpAny (model X.prog X.w) X.A (subscriptTail e (.Slice lo hi none p2) v (.ref s3.heap.objs.size)) (EP X Y M Q) X.xe { s3 with heap:=s3.heap.push { cls:=.type "slice",data:=.fields #[vl,vu,.none] } };exact tail_any (ops:=[.ref s3.heap.objs.size,v]) ht hT hg ou
def ik(xs:List V)(lo hi:Option Int):List V:=(xs.drop (HT.fN xs.length 0 lo)).take (HT.fN xs.length xs.length hi-HT.fN xs.length 0 lo)
theorem qG(xs:List V)(lo hi:Option Int):(ik xs lo hi).length <= xs.length:=by
 unfold ik;rw[bq,cm];exact G
def Ss(K:W.Frag):V->Option Int->Option Int->Hp->VK->Prop:=fun x lo hi H Q=>∃ a xs,x=.ref a/\SqT K H a xs /\
 ¬(HT.fN xs.length 0 lo=0/\HT.fN xs.length xs.length hi=xs.length)/\∀ p,H p=none->Q (.ref p) (upd H p (.tup (ik xs lo hi)))
theorem Px:VI X (Ss X.K):=by
 intro Y s M H x v vl vu lo hi sl Q I rx hs pl pu h;obtain⟨a,xs,rfl,hx,hw,q⟩:=h;cases rx;obtain⟨its,r,ht,hz⟩:=I.tuple hx;have hlen:its.toArray.size=xs.length:=by rw[ah];exact r.length.symm
 refine⟨"tuple",_,k6.lookup,ht.typeIs,?_⟩;refine HT.oI ht hs pl pu (by rw[hlen];exact hw) ?_ (by rw[hlen];exact hz);rw[hlen];refine⟨.ref s.heap.objs.size,_,I.laid (t':=s.toks) (o:=.tup (ik xs lo hi)) (fun b ob q=>Heap.get?_push_of_some _ q) (qnr _) ?_,Z,q _ (I.hok.fresh (qnr _))⟩;exact⟨g9 (qG xs lo hi) hz,_,(r.drop (HT.fN xs.length 0 lo)).take (HT.fN xs.length xs.length hi-HT.fN xs.length 0 lo),kA.new _ _⟩
inductive QN(K:W.Frag)(x:V)(y:V)(H:Hp)(Q:VK):Prop
 |mk(a b xs ys:_)(_:x=.ref a)(_:y=.ref b)(_:SqT K H a xs)(_:SqT K H b ys)(_:xs≠[])(_:xs.length+ys.length<=sizeLine)(_:(ys=[]->Q (.ref a) H))(_:(ys≠[]->∀ p,H p=none->Q (.ref p) (upd H p (.tup (xs++ys)))))
theorem Vals.rq(r:Vals xs us):us=[]↔xs=[]:=by
 cases r with
 |nil=>simp
 |cons _ _=>simp
theorem Mw:kD X (binaryOp .Add) (QN X.K):=by
 intro Y s M H x y v u Q I rx ry h;obtain⟨a,b,xs,ys,rfl,rfl,ha,hb,hx,hz,q1,q2⟩:=h;cases rx;cases ry;obtain⟨its,r1,p1,_⟩:=I.tuple ha;obtain⟨iE,r2,p2,_⟩:=I.tuple hb;refine HT.IP p1 p2 (fun z=>hx (r1.rq.mp z)) (fun z=>⟨.ref a,H,I,rfl,q1 (r2.rq.mp z)⟩) (fun z=>?_) (by rw[<- r1.length,<- r2.length];exact hz);refine⟨.ref s.heap.objs.size,_,I.laid (t':=s.toks) (o:=.tup (xs++ys)) (fun b ob q=>Heap.get?_push_of_some _ q) (qnr _) ?_,Z,q2 (fun w=>z (r2.rq.mpr w)) _ (I.hok.fresh (qnr _))⟩;exact⟨by rw[af];exact hz,_,r1.append r2,kA.new _ _⟩
end
def ixN(n:Nat)(i:Int):Option Nat:=if 0<=i then(if i<n then some i.toNat else none)else if -(n:Int)<=i then some (i+n).toNat else none
def tw{α:Type}(xs:List α)(i:Int):Option α:=(ixN xs.length i).bind fun j=>xs[j]?
theorem Al{i:Int}(h:ixN n i=some j):seqIndex? i n=some j/\j<n/\-(n:Int)<=i/\i<n:=by
 unfold ixN at h
 by_cases h0:0<=i
 .rw[qp h0]at h
  by_cases h1:i<n
  .rw[qp h1]at h
   have e:i.toNat=j:=kK h;exact⟨by rw[seqIndex_of h0 h1,e],G,G,h1⟩
  rw[bX h1]at h;cases h
 rw[bX h0]at h
 by_cases h1 : -(n:Int)<=i
 .rw[qp h1]at h
  have e:(i+n).toNat=j:=kK h;exact⟨by rw[seqIndex_neg G h1,e],G,h1,G⟩
 rw[bX h1]at h;cases h
theorem t8{α:Type}{xs:List α}{i:Int}{v:α}(h:tw xs i=some v):∃ j,seqIndex? i xs.length=some j/\xs[j]?=some v/\j<xs.length/\-(xs.length:Int)<=i/\i<xs.length:=by
 unfold tw at h;cases e:ixN xs.length i with
 |none=>rw[e]at h;cases h
 | some j =>
  rw[e]at h;obtain⟨h1,h2,h3,h4⟩:=Al e;exact⟨j,h1,h,h2,h3,h4⟩
theorem bu{α:Type}{xs:List α}{v:α}(h:xs[j]?=some v):tw xs (j:Int)=some v:=by
 have hj:j<xs.length:=(List.getElem?_eq_some_iff.mp h).1
 have e:ixN xs.length (j:Int)=some j:=by
  unfold ixN;rw[qp G,qp G];simp
 unfold tw;rw[e];exact h
theorem ir{α:Type}(xs:List α)(v:α):tw (xs++[v]) (-1)=some v:=by
 have hl:(xs++[v]).length=xs.length+1:=by simp
 have e:ixN (xs++[v]).length (-1)=some xs.length:=by
  unfold ixN;rw[hl,bX b9,qp G]
  congr 1
  exact G
 unfold tw;rw[e];show(xs++[v])[xs.length]?=some v;simp
def Am(b:Expr):Prop:=∀ o i,subscripted b false o i=operate [o,i] (getItem o i)
def Of(X:Cx)(r:R2):Prop :=
 ∀(value slice:Expr)(Y:List (Addr×Obj))(s:Shared)(M:St)(H:Hp)(x y:V)(v u:Value)(Q:VK),Inv X Y M H s->RelV x v->RelV y u->r x y H Q ->
  subscripted slice false v u=operate [v,u] (getItem v u)->wpAny (model X.prog X.w) X.A (subscriptTail value slice v u) (EP X Y M Q) X.xe s
def z4(X:Cx)(id:String)(r:V->List V->Hp->VK->Prop):Prop :=
 ∀(Y:List (Addr×Obj))(s:Shared)(M:St)(H:Hp)(x:V)(xs:List V)(v:Value)(us:List Value)(Q:VK),Inv X Y M H s->RelV x v->Vals xs us->r x xs H Q ->
  wpAny (model X.prog X.w) X.A (call (.builtin id) (v::us)) (EP X Y M Q) X.xe s
section
variable{a b:Expr}
theorem Rg(hr:Of X r)(ha:PE X a ta)(hb:PE X b tb)(hs:Am b):PE X (.Subscript a b pos) (PY r ta tb):=by
 intro Y s M H Q I h;exact Subscript_ (Ie ha hb I h fun v u s2 x y H2 I2 rx ry q=>hr a b Y s2 M H2 x y v u Q I2 rx ry q (hs _ _))
theorem cy(hr:Of X r)(ha:PE X a ta)(hb:PE X b tb)(hs:Am b:=by exact fun _ _=>rfl):PE X (.Subscript a b pos) (PY r ta tb):=Rg hr ha hb hs
inductive QI(K:W.Frag)(x:V)(y:V)(H:Hp)(Q:VK):Prop
 |mk(p xs i v:_)(_:x=.ref p)(_:y=.int i)(_:b5 K H p xs)(_:tw xs i=some v)(_:Q v H)
inductive QE(K:W.Frag)(x:V)(y:V)(H:Hp)(Q:VK):Prop
 |mk(p xs i v:_)(_:x=.ref p)(_:y=.int i)(_:SqT K H p xs)(_:tw xs i=some v)(_:Q v H)
inductive V'(x:V)(y:V)(H:Hp)(Q:VK):Prop
 |mk(z i c:_)(_:x=.str z)(_:y=.int i)(_:z.length<=sizeLine)(_:tw z.cps.toList i=some c)(_:Q (.str ⟨#[c]⟩) H)
theorem bh:Of X (QI X.K):=by
 intro value slice Y s M H x y v u Q I rx ry h hs;obtain⟨p,xs,i,z,rfl,rfl,hq,he,q⟩:=h;cases rx;obtain⟨t,rfl⟩:=ry;obtain⟨its,r,pl,hz⟩:=I.list hq;obtain⟨j,h1,h2,h3,h4,h5⟩:=t8 he;obtain⟨w,ew,qB⟩:=r.get h2;have hl:=r.length;have hn:=kj;have fin:EP X Y M Q w s:=⟨z,H,I,qB,q⟩
 by_cases h0:0<=i
 .have hj:i.toNat=j:=by
   rw[seqIndex_of h0 h5]at h1;exact kK h1
  exact item_listR pl.isList h0 G (by rw[hj];simpa using ew) fin hs
 have hj:(i+(its.toArray.size:Int)).toNat=j:=by
  rw[seqIndex_neg G h4]at h1;rw[ah,<- hl];exact kK h1
 exact subscriptTail_builtinR (x:=w) pl.isList.typeIs IT.lookup
  (wpAny_getItem_list_neg (Q:=fun r s'=>r=w/\EP X Y M Q r s') pl.isList G (by rw[ah]<;>exact G) G (by rw[hj];simpa using ew) ⟨rfl,fin⟩) hs
theorem aJ:Of X (QE X.K):=by
 intro value slice Y s M H x y v u Q I rx ry h hs;obtain⟨p,xs,i,z,rfl,rfl,hq,he,q⟩:=h;cases rx;obtain⟨t,rfl⟩:=ry;obtain⟨its,r,pl,hz⟩:=I.tuple hq;obtain⟨j,h1,h2,h3,h4,h5⟩:=t8 he;obtain⟨w,ew,qB⟩:=r.get h2;have hl:=r.length;have hn:=kj;have fin:EP X Y M Q w s:=⟨z,H,I,qB,q⟩
 exact subscriptTail_builtinR (x:=w) pl.typeIs slot_tuple_getitem.lookup
  (getItem_tuple (j:=j) (Q:=fun r s'=>r=w/\EP X Y M Q r s') pl G G (by rw[ah,<- hl];exact h1) (by simpa using ew) ⟨rfl,fin⟩) hs
theorem oF:Of X V':=by
 intro value slice Y s M H x y v u Q I rx ry h hs;obtain⟨z,i,c,rfl,rfl,hz,he,q⟩:=h;obtain⟨t,rfl⟩:=rx;obtain⟨t',rfl⟩:=ry;obtain⟨j,h1,h2,h3,h4,h5⟩:=t8 he;have hl:z.cps.toList.length=z.length:=by simp[Str.length]
 rw[hl]at h1 h4 h5;have hn:=kj
 exact tail_any (pV s z t) slot_str_getitem.lookup (getItem_str (c:=c) (by
  have e1:decide (i < -(2^63:Int))=false:=gS G;have e2:decide (i ≥ 2^63)=false:=gS G
  rw[e1,e2,Bool.or_false]) (by rw[h1];simpa using h2) ⟨.str ⟨#[c]⟩,H,I.tok _,⟨_,rfl⟩,q⟩) hs
theorem Ci(its:List Value)(n j:Nat)(u:Value):Obj.mapSeq (·.setIfInBounds j u) { cls:=.type "list",data:=.seq its.toArray n } = { cls:=.type "list",data:=.seq (its.set j u).toArray n }:=by
 simp[Obj.mapSeq]
theorem Inv.lst{Y:List (Addr×Obj)}{M:St}{H:Hp}{s:Shared}{p:Addr}{xs:List V}(I:Inv X Y M H s)(h:H p=some (.lst xs)): ∃(its:List Value) (n:Nat),Vals xs its/\s.heap.get? p=some { cls:=.type "list",data:=.seq its.toArray n }/\xs.length<=sizeLine:=by
 obtain⟨z,its,n,r,e⟩:=I.hok p _ h;exact⟨its,n,r,e,z⟩
theorem Inv.MO{p:Addr}{n':Nat}{f:Obj->Obj}(I:Inv X Y M H s)(h:H p=some (.lst xs))(ho:s.heap.get? p=some { cls:=.type "list",data:=.seq its.toArray n })(hf:f { cls:=.type "list",data:=.seq its.toArray n } = { cls:=.type "list",data:=.seq its'.toArray n' })(r:Vals ys its')(hz:ys.length<=sizeLine)(t:Nat): Inv X Y M (upd H p (.lst ys)) { s with heap:=s.heap.update p f,toks:=t }:=by
 have e:(s.heap.update p f).get? p=some { cls:=.type "list",data:=.seq its'.toArray n' }:=by
  rw[Heap.get?_update_self f ho (by rw[hf]<;>rfl),hf]
 refine I.write (x:=p) (e:=p) (by rw[h];trivial) (.inl rfl) (fun b u hb q=>(Heap.get?_update_other _ _ (aS hb)).trans q) ⟨_,e⟩ ?_;exact⟨hz,its',n',r,e⟩
def Rh:V->V->V->Hp->(Hp->Prop)->Prop:=fun o i v H Q=>∃ p xs k j,o=.ref p/\i=.int k/\H p=some (.lst xs)/\ixN xs.length k=some j/\Q (upd H p (.lst (xs.set j v)))
theorem set_list:O7 X Rh:=by
 intro Y s M H o i v ov iv u Q I ro ri rv h;obtain⟨p,xs,k,j,rfl,rfl,hp,hj,q⟩:=h;cases ro;obtain⟨t,rfl⟩:=ri;obtain⟨its,n,r,ho,hz⟩:=I.lst hp;obtain⟨h1,h2,h3,h4⟩:=Al hj;have hl:=r.length;have hn:=kj
 have I':Inv X Y M (upd H p (.lst (xs.set j v))) { s with heap:=s.heap.update p (Obj.mapSeq (·.setIfInBounds j u)) } :=
  I.MO hp ho (Ci its n j u) (r.set rv j) (by rw[List.length_set];exact hz) s.toks
 by_cases h0:0<=k
 .have hk:k.toNat=j:=by
   rw[seqIndex_of h0 h4]at h1;exact kK h1
  exact W.ki_setAt ho h0 G (by rw[ah,<- hl];exact h4) (by rw[hk];exact⟨_,I',q⟩)
 have hk:(k+(its.toArray.size:Int)).toNat=j:=by
  rw[seqIndex_neg G h3]at h1;rw[ah,<- hl];exact kK h1
 exact W.ki_setBack ho G (by rw[ah,<- hl];exact h3) G (by rw[hk];exact⟨_,I',q⟩)
theorem wO(lo hi:Option Int)(n:Nat):(sliceBounds lo hi none n).1=((HT.fN n 0 lo:Nat):Int)/\(sliceBounds lo hi none n).2.1=((HT.fN n n hi:Nat):Int)/\(sliceBounds lo hi none n).2.2=1:=by
 refine⟨?_,?_,Z⟩
 .cases lo with
  |none=>simp[sliceBounds,HT.fN]
  | some i =>
   simp only[sliceBounds,HT.fN,Option.getD_none,show(1:Int)>0 by decide,i6]
   by_cases h:i<0
   .simp only[h,i6]<;>exact G
   simp only[h,jS]<;>exact G
 cases hi with
 |none=>simp[sliceBounds,HT.fN]
 | some i =>
  simp only[sliceBounds,HT.fN,Option.getD_none,show(1:Int)>0 by decide,i6]
  by_cases h:i<0
  .simp only[h,i6]<;>exact G
  simp only[h,jS]<;>exact G
theorem vN(its:List Value)(lo hi:Option Int):slicePick its.toArray lo hi none=((its.drop (HT.fN its.length 0 lo)).take (HT.fN its.length its.length hi-HT.fN its.length 0 lo)).toArray:=by
 obtain⟨h1,h2,h3⟩:=wO lo hi its.toArray.size;unfold slicePick;rw[h1,h2,h3];simp only[sliceRange_one,pick_run,ah]<;>rfl
def Su(K:W.Frag):V->Option Int->Option Int->Hp->VK->Prop:=fun x lo hi H Q=>∃ a xs,x=.ref a/\b5 K H a xs/\∀ p,H p=none->Q (.ref p) (upd H p (.lst (ik xs lo hi)))
theorem uc:VI X (Su X.K):=by
 intro Y s M H x v vl vu lo hi sl Q I rx hs pl pu h;obtain⟨a,xs,rfl,hx,q⟩:=h;cases rx;obtain⟨its,r,ht,hz⟩:=I.list hx;have hlen:=r.length;refine⟨"list",_,IT.lookup,ht.isList.typeIs,?_⟩;refine wpAny_getItem_list_slice ht.isList hs pl pu .none oz ?_ (by rw[ah]<;>exact G);rw[vN,<- hlen];refine⟨.ref s.heap.objs.size,_,I.laid (t':=s.toks) (o:=.lst (ik xs lo hi)) (fun b ob q=>Heap.get?_push_of_some _ q) (qnr _) ?_,Z,q _ (I.hok.fresh (qnr _))⟩;exact⟨g9 (qG xs lo hi) hz,_,0,(r.drop (HT.fN xs.length 0 lo)).take (HT.fN xs.length xs.length hi-HT.fN xs.length 0 lo),Heap.get?_push_size _ rfl⟩
def fD:V->Bool
 | .non=>true
 | .bl _=>true
 | .int _=>true
 | .str _=>true
 |_=>false
def mn:V->V->Bool
 | .non,.non=>true
 | .bl a,.bl b=>a==b
 | .bl a,.int b=>(if a then 1 else 0)==b
 | .int a,.bl b=>a==(if b then 1 else 0)
 | .int a,.int b=>a==b
 | .str a,.str b=>a==b
 |_,_=>false
theorem Py{x:V}{v:Value}(ry:RelV y u)(rx:RelV x v)(fy:fD y=true)(fx:fD x=true):SeqAt.EqAt A s u v (mn y x):=by
 cases y with
 | non =>
  cases ry;cases x with
  |non=>cases rx;exact wm _
  |bl b=>cases rx;exact SeqAt.EqAt.none_bool b
  |int b=>obtain⟨t,rfl⟩:=rx;exact SeqAt.EqAt.none_int b t
  |str b=>obtain⟨t,rfl⟩:=rx;exact SeqAt.EqAt.none_str b t
  |_=>exact absurd (show false=true from fx) ki
 | bl a =>
  cases ry;cases x with
  |non=>cases rx;exact SeqAt.EqAt.bool_none a
  |bl b=>cases rx;exact SeqAt.EqAt.bool_bool a b
  |int b=>obtain⟨t,rfl⟩:=rx;exact SeqAt.EqAt.bool_int a b t
  |str b=>obtain⟨t,rfl⟩:=rx;exact SeqAt.EqAt.bool_str a b t
  |_=>exact absurd (show false=true from fx) ki
 | int a =>
  obtain⟨t',rfl⟩:=ry;cases x with
  |non=>cases rx;exact SeqAt.EqAt.int_none a t'
  |bl b=>cases rx;exact SeqAt.EqAt.int_bool a t' b
  |int b=>obtain⟨t,rfl⟩:=rx;exact SeqAt.EqAt.int_int a t' b t
  |str b=>obtain⟨t,rfl⟩:=rx;exact SeqAt.EqAt.int_str a t' b t
  |_=>exact absurd (show false=true from fx) ki
 | str a =>
  obtain⟨t',rfl⟩:=ry;cases x with
  |non=>cases rx;exact SeqAt.EqAt.str_none a t'
  |bl b=>cases rx;exact SeqAt.EqAt.str_bool a t' b
  |int b=>obtain⟨t,rfl⟩:=rx;exact SeqAt.EqAt.str_int a t' b t
  |str b=>obtain⟨t,rfl⟩:=rx;exact ER a t' b t
  |_=>exact absurd (show false=true from fx) ki
 |_=>exact absurd (show false=true from fy) ki
def t4(x:V)(u:Value):Bool:=match u with
 | .none=>mn .non x
 | .bool b=>mn (.bl b) x
 | .int i _=>mn (.int i) x
 | .str z _=>mn (.str z) x
 |_=>false
theorem rZ{x:V}(r:RelV y u)(f:fD y=true):t4 x u=mn y x:=by
 cases y with
 |non=>cases r;rfl
 |bl b=>cases r;rfl
 |int i=>obtain⟨t,rfl⟩:=r;rfl
 |str z=>obtain⟨t,rfl⟩:=r;rfl
 |_=>exact absurd (show false=true from f) ki
theorem mJ{x:V}:∀{xs:List V}{us:List Value},Vals xs us->xs.all fD=true->us.any (t4 x)=xs.any fun y=>mn y x
 |_,_,.nil,_=>rfl
 | y::xs,u::us,.cons r t,f=>by
  rw[iq,ez]at f;rw[eh,eh,rZ r f.1,mJ t f.2]
theorem iu{A:Around}{s:Shared}{x:V}{v:Value}(rx:RelV x v)(fx:fD x=true):∀{xs:List V}{us:List Value},Vals xs us->xs.all fD=true->∀ u∈us,SeqAt.EqAt A s u v (t4 x u)
 |_,_,.nil,_=>fun u hu=>by cases hu
 | y::xs,u::us,.cons r t,f=>fun u' hu=>by
  rw[iq,ez]at f;rcases ai.mp hu with rfl|hu
  .rw[rZ r f.1];exact Py r rx f.1 fx
  exact iu rx fx t f.2 u' hu
def sx(x:V)(xs:List V):Bool:=xs.any fun y=>mn y x
inductive V_(K:W.Frag)(neg:Bool)(x:V)(y:V)(H:Hp)(Q:VK):Prop
 |mk(p xs:_)(_:y=.ref p)(_:(b5 K H p xs\/SqT K H p xs))(_:fD x=true)(_:xs.all fD=true)(_:Q (.bl (if neg then !sx x xs else sx x xs)) H)
theorem iD:kD X (compareOp .In) (V_ X.K false):=by
 intro Y s M H x y v u Q I rx ry h;obtain⟨p,xs,rfl,hq,fx,fs,q⟩:=h;cases ry;rcases hq with hq|hq
 .obtain⟨its,r,pl,hz⟩:=I.list hq
  refine SeqAt.in_listAt (t4 x) pl.isList (fun w hw=>iu rx fx r fs w (by simpa using hw)) ⟨.bl _,H,I,rfl,?_⟩;rw[show its.toArray.any (t4 x)=its.any (t4 x)by simp,mJ r fs];exact q
 obtain⟨its,r,pl,hz⟩:=I.tuple hq;refine SeqAt.in_tupleAt (t4 x) pl (fun w hw=>iu rx fx r fs w (by simpa using hw)) ⟨.bl _,H,I,rfl,?_⟩;rw[show its.toArray.any (t4 x)=its.any (t4 x)by simp,mJ r fs];exact q
theorem km:kD X (compareOp .NotIn) (V_ X.K true):=by
 intro Y s M H x y v u Q I rx ry h;obtain⟨p,xs,rfl,hq,fx,fs,q⟩:=h;cases ry;rcases hq with hq|hq
 .obtain⟨its,r,pl,hz⟩:=I.list hq
  refine SeqAt.notIn_listAt (t4 x) pl.isList (fun w hw=>iu rx fx r fs w (by simpa using hw)) ⟨.bl _,H,I,rfl,?_⟩;rw[show its.toArray.any (t4 x)=its.any (t4 x)by simp,mJ r fs];exact q
 obtain⟨its,r,pl,hz⟩:=I.tuple hq;refine SeqAt.notIn_tupleAt (t4 x) pl (fun w hw=>iu rx fx r fs w (by simpa using hw)) ⟨.bl _,H,I,rfl,?_⟩;rw[show its.toArray.any (t4 x)=its.any (t4 x)by simp,mJ r fs];exact q
theorem aX:dR X (.builtin "len") (fun xs H Q=>∃ p ys,xs=[.ref p]/\(b5 X.K H p ys\/SqT X.K H p ys)/\Q (.int ys.length) H):=by
 intro Y s M H xs us Q I r h;obtain⟨p,ys,rfl,hq,q⟩:=h;obtain⟨u,rfl,rx⟩:=vals1 r;cases rx;have hn:=kj;rcases hq with hq|hq
 .obtain⟨its,r',pl,hz⟩:=I.list hq
  have hlen:=r'.length;exact Calls.call_len_list pl.isList (by simp only[ah]<;>exact G) ⟨.int ys.length,H,I.tok _,⟨s.toks+1,by rw[ah,hlen]⟩,q⟩
 obtain⟨its,r',pl,hz⟩:=I.tuple hq;have hlen:=r'.length;exact len_tuple pl (by simp only[ah]<;>exact G) ⟨.int ys.length,H,I.tok _,⟨s.toks+1,by rw[ah,hlen]⟩,q⟩
theorem kI:dR X (.builtin "len") (fun xs H Q=>∃ z,xs=[.str z]/\z.length<=sizeLine/\Q (.int z.length) H):=by
 intro Y s M H xs us Q I r h;obtain⟨z,rfl,hz,q⟩:=h;obtain⟨u,rfl,t,rfl⟩:=vals1 r;have hn:=kj;exact len_str G ⟨.int z.length,H,I.tok _,⟨_,rfl⟩,q⟩
theorem oG:dR X (.type "list") (fun xs H Q=>∃ p ys,xs=[.ref p]/\(b5 X.K H p ys\/SqT X.K H p ys)/\∀ l,H l=none->Q (.ref l) (upd H l (.lst ys))):=by
 intro Y s M H xs us Q I r h;obtain⟨p,ys,rfl,hq,q⟩:=h;obtain⟨u,rfl,rx⟩:=vals1 r;cases rx
 have fin:∀(its:List Value),Vals ys its->ys.length<=sizeLine->∀(h':Heap)(c':Nat),(∀ b o',s.heap.get? b=some o'->h'.get? b=some o') ->
   h'.get? s.heap.objs.size=some { cls:=.type "list",dict:=none,data:=.seq its.toArray c',slots:=#[] }->EP X Y M Q (.ref s.heap.objs.size) { s with heap:=h' }:=fun its r' hz h' c' kp e =>
  ⟨.ref s.heap.objs.size,_,I.laid (t':=s.toks) kp (qnr _) (show ft X.prog X.w _ h' _ (.lst ys)from⟨hz,its,c',r',e⟩),rfl,q _ (I.hok.fresh (qnr _))⟩
 rcases hq with hq|hq
 .obtain⟨its,r',pl,hz⟩:=I.list hq
  have hlen:=r'.length;obtain⟨o,ho,hc,n,hd⟩:=pl.isList;exact call_list_seq p (.inl rfl) ho hc hd (fun h' c' kp e=>fin its r' hz h' c' kp e) (by simp only[ah]<;>exact G)
 obtain⟨its,r',pl,hz⟩:=I.tuple hq;have hlen:=r'.length;obtain⟨o,ho,hc,n,hd⟩:=pl;exact call_list_seq p (.inr rfl) ho hc hd (fun h' c' kp e=>fin its r' hz h' c' kp e) (by simp only[ah]<;>exact G)
theorem dh:dR X (.type "tuple") (fun xs H Q=>∃ p ys,xs=[.ref p]/\((b5 X.K H p ys/\∀ l,H l=none->Q (.ref l) (upd H l (.tup ys)))\/(SqT X.K H p ys/\Q (.ref p) H))):=by
 intro Y s M H xs us Q I r h;obtain⟨p,ys,rfl,h⟩:=h;obtain⟨u,rfl,rx⟩:=vals1 r;cases rx;rcases h with⟨hq,q⟩|⟨hq,q⟩
 .obtain⟨its,r',pl,hz⟩:=I.list hq
  have hlen:=r'.length;refine call_tuple_list pl.isList (fun h' kp=>?_) (by simp only[ah]<;>exact G);have I1:Inv X Y M H { s with heap:=h' }:=I.kept (t':=s.toks) kp
  have I2:Inv X Y M (upd H h'.objs.size (.tup ys)) { s with heap:=h'.push { cls:=.type "tuple",data:=.seq its.toArray } } :=
   I1.laid (t':=s.toks) (fun b o e=>Heap.get?_push_of_some _ e) (qnr _) (show ft X.prog X.w _ _ _ (.tup ys)from⟨hz,its,r',kA.new _ _⟩)
  exact⟨.ref h'.objs.size,_,I2,Z,q _ (I1.hok.fresh (qnr _))⟩
 obtain⟨its,r',pl,hz⟩:=I.tuple hq;exact call_tuple_same pl ⟨.ref p,H,I,rfl,q⟩
def VW(K:W.Frag)(T:String)(x:V)(H:Hp):Prop:=match x with
 | .str _=>T="str"
 | .int _=>T="int"
 | .ref p=>(T="list"/\∃ xs,b5 K H p xs)\/(T="tuple"/\∃ o,K.lookup p=some o/\o.cls=.type "tuple"/\o.dict=none) \/
   (T="dict"/\((∃ kvs,H p=some (.dK kvs))\/∃ kvs,H p=some (.dT kvs)))\/(T="set"/\∃ S n,H p=some (.set S n))
 |_=>False
theorem En{T:String}{x:V}{v:Value}(I:Inv X Y M H s)(r:RelV x v)(ty:VW X.K T x H): s.TypeIs v T/\∀ a,v=.ref a->∃ ob,s.heap.get? a=some ob/\ob.dict=none:=by
 cases x with
 | str z =>
  obtain⟨t,rfl⟩:=r;cases(show T="str" from ty);exact⟨pV s z t,fun _ e=>nomatch e⟩
 | int i =>
  obtain⟨t,rfl⟩:=r;cases(show T="int" from ty);exact⟨EN s i t,fun _ e=>nomatch e⟩
 | ref p =>
  cases r;rcases ty with⟨rfl,xs,hq⟩|⟨rfl,o,hk,hc,hd⟩|⟨rfl,hk⟩|⟨rfl,S,n,hk⟩
  .obtain⟨its,_,pl,_⟩:=I.list hq
   refine⟨pl.isList.typeIs,fun a e=>?_⟩;cases e;obtain⟨o,n,e,c,hd,_⟩:=pl;exact⟨o,e,hd⟩
  .refine⟨⟨o,I.kIn p o hk,hc⟩,fun a e=>?_⟩
   cases e;exact⟨o,I.kIn _ o hk,hd⟩
  .have z:∃ o,s.heap.get? p=some o/\o.ExactDict:=by
    rcases hk with⟨kvs,hk⟩|⟨kvs,hk⟩
    .obtain⟨_,_,_,_,o,_,_,e,ex,_⟩:=I.hok p _ hk
     exact⟨o,e,ex⟩
    obtain⟨_,_,_,_,o,_,_,e,ex,_⟩:=I.hok p _ hk;exact⟨o,e,ex⟩
   obtain⟨o,e,ex⟩:=z;refine⟨⟨o,e,ex.1⟩,fun a e2=>?_⟩;cases e2;exact⟨o,e,ex.2.1⟩
  obtain⟨o,_,_,_,e,ex,_⟩:=I.hok p _ hk;refine⟨⟨o,e,ex.1⟩,fun a e2=>?_⟩;cases e2;exact⟨o,e,ex.2.1⟩
 |_=>exact False.elim ty
def Sv(K:W.Frag)(T:String)(r:V->List V->Hp->VK->Prop)(to:TE):TE:=fun M H Q=>to M H fun x H1=>VW K T x H1/\r x [] H1 Q
def Zf(K:W.Frag)(T:String)(r:V->List V->Hp->VK->Prop)(to:TE)(t:TA):TE:=fun M H Q=>to M H fun x H1=>VW K T x H1/\t M H1 fun xs H2=>r x xs H2 Q
variable{o:Expr}{t:TA}{T id:String}{r:V->List V->Hp->VK->Prop}
theorem gW(pa:PlainAttrs T) (slot:Slot T name id) (BO:typeOf (.builtin id)=pure (.type "method_descriptor")) (hm:z4 X id r) (ho:PE X o to)
  (oB:attributeBase o name X.env (eval o X.env)=eval o X.env:=by rfl) (sL:(apos.endLine==e_.line)=true:=by rfl):PE X (.Call (.Attribute o name apos) [] [] e_) (Sv X.K T r to):=by
 intro Y s M H Q I h;refine wpAny_Call_method0_late oB sL (thn (ho Y s M H _ I h) fun v s1 ⟨x,H1,I1,r1,ty,q1⟩=>?_);obtain⟨h1,h2⟩:=En I1 r1 ty;exact⟨T,id,pa,slot,BO,h1,h2,vS rfl (PySem.evalArgs_none (hm Y s1 M H1 x [] v [] Q I1 r1 .nil q1))⟩
theorem b8(pa:PlainAttrs T) (slot:Slot T name id) (BO:typeOf (.builtin id)=pure (.type "method_descriptor")) (hm:z4 X id r) (ho:PE X o to) (ha:PA X (e::es) t)
  (oB:attributeBase o name X.env (eval o X.env)=eval o X.env:=by rfl)
  (EB:((backTo e_ (starEach (e::es) X.env)).all (fun x=>!x.1)&&(backToKw e_ (keywordEach [] X.env)).all (fun x=>x.1.isSome)
   && decide ((e::es).length+([]:List Keyword).length+(if ([]:List Keyword).isEmpty then 0 else 1)<30))=true:=by rfl)
  (sL:(apos.endLine==e_.line)=true:=by rfl) (hs:starEach (e::es) X.env=(false,eval e X.env):: starEach es X.env:=by rfl) (sF:(backTo e_ (starEach es X.env)).any (·.1)=false:=by rfl):
  PE X (.Call (.Attribute o name apos) (e::es) [] e_) (Zf X.K T r to t):=by
 intro Y s M H Q I h;refine wpAny_Call_method_late oB EB sL rfl (thn (ho Y s M H _ I h) fun v s1 ⟨x,H1,I1,r1,ty,q1⟩=>?_);obtain⟨h1,h2⟩:=En I1 r1 ty;refine⟨T,id,pa,slot,BO,h1,h2,?_⟩;have hA:=ha e_ Y s1 M H1 _ I1 q1;rw[hs]at hA ⊢;refine vS (by show(false||(backTo e_ (starEach es X.env)).any (·.1))=false;rw[sF]<;>rfl) (AH ?_);exact thn hA fun us s2 ⟨vs,H2,I2,r2,q2⟩=>hm Y s2 M H2 x vs v us Q I2 r1 r2 q2
/- xs.append(e),list.index on a module's tuple .. are z4 facts of 06m -/
end
def VL(X:Cx)(id:String)(r:V->List V->Hp->VK->Prop):Prop :=
 ∀(Y:List (Addr×Obj))(s:Shared)(M:St)(H:Hp)(x:V)(xs:List V)(v:Value)(us:List Value)(Q:VK),Inv X Y M H s->RelV x v->Vals xs us->r x xs H Q ->
  wpAny (model X.prog X.w) X.A (call (.builtin id) (v::us)) (EP X Y M Q) X.xe s
theorem Vals.one:∀{x:V}{us:List Value},Vals [x] us->∃ u,us=[u]/\RelV x u
 |_,_,.cons r .nil=>⟨_,rfl,r⟩
theorem Vals.zero:∀{us:List Value},Vals [] us->us=[]
 |_,.nil=>rfl
theorem Vals.dropLast(h:Vals xs us):Vals xs.dropLast us.dropLast:=by
 induction h with
 |nil=>exact .nil
 | cons r t ih =>
  cases t with
  |nil=>exact .nil
  |cons q t'=>exact .cons r ih
theorem Vals.rep{xs:List V}{us:List Value}(h:Vals xs us):∀ k:Nat,Vals (List.replicate k xs).flatten (List.replicate k us).flatten
 | 0=>.nil
 | k+1=>by
  rw[jv,jv,oq,oq];exact Vals.append h (Vals.rep h k)
theorem Cj{α:Type}(l:List α):l.eraseIdx (l.length-1)=l.dropLast:=by
 induction l with
 |nil=>rfl
 | cons a r ih =>
  cases r with
  |nil=>rfl
  | cons b r =>
   have e:(a::b::r).length-1=((b::r).length-1)+1:=by
    have h1:(a::b::r).length=r.length+2:=rfl;have h2:(b::r).length=r.length+1:=rfl;exact G
   rw[e,List.eraseIdx_cons_succ,ih]
   all_goals rfl
theorem foldl_rep(its:List Value):∀(k:Nat)(acc:List Value), List.foldl (fun x1 x2=>x1++x2) acc.toArray (List.replicate k its.toArray)=(acc++(List.replicate k its).flatten).toArray
 | 0,acc=>by simp
 | k + 1,acc=>by
  have e:acc.toArray++its.toArray=(acc++its).toArray:=by simp
  have e2:(acc++its)++(List.replicate k its).flatten=acc++(List.replicate (k+1) its).flatten:=by
   rw[jv,oq,dE]
  rw[<- e2,<- foldl_rep its k (acc++its),<- e,jv,fE]
section
variable{l:Addr}{zs:List V}
theorem Inv.HP{f:Array Value->Array Value}(I:Inv X Y M H s)(hH:H l=some (.lst xs))(e:s.heap.get? l=some { cls:=.type "list",data:=.seq its.toArray n })(hf:f its.toArray=its'.toArray)(hv:Vals ys its')(hz:ys.length<=sizeLine): Inv X Y M (upd H l (.lst ys)) { s with heap:=s.heap.update l (Obj.mapSeq f),toks:=t' }:=by
 have q:=PySem.IsL.update e f;rw[hf]at q;refine I.write (x:=l) (e:=l) (by rw[hH];exact trivial) (.inl rfl) (fun b' u hb hu=>(Heap.get?_update_other s.heap (Obj.mapSeq f) (aS hb)).trans hu) ⟨_,q⟩ ?_;exact⟨hz,its',_,hv,q⟩
theorem Inv.MQ(I:Inv X Y M H s)(hv:Vals ys its)(hz:ys.length<=sizeLine): Inv X Y M (upd H s.heap.objs.size (.lst ys)) { s with heap:=s.heap.push { cls:=.type "list",data:=.seq its.toArray },toks:=t' } :=
 I.laid (fun _ _ q=>Heap.get?_push_of_some _ q) (qnr _) ⟨hz,its,0,hv,Heap.get?_push_size _ rfl⟩
theorem Inv.fresh(I:Inv X Y M H s):H s.heap.objs.size=none:=I.hok.fresh (qnr _)
theorem Inv.xo(I:Inv X Y M H s)(hH:H l=some (.lst xs)):xs.length<=sizeLine/\∃(its:List Value) (n:Nat),Vals xs its/\xs.length=its.length/\s.heap.get? l=some { cls:=.type "list",data:=.seq its.toArray n }:=by
 obtain⟨z,its,n,r,e⟩:=I.hok l _ hH;exact⟨z,its,n,r,r.length,e⟩
theorem wQ(h:n<=sizeLine):Builtin.List.listTooLong n=false:=by
 unfold Builtin.List.listTooLong;exact gS G
end
inductive rj(x:V)(vs:List V)(H:Hp)(Q:VK):Prop
 |mk(l xs y:_)(_:x=.ref l)(_:vs=[y])(_:H l=some (.lst xs))(_:xs.length<sizeLine)(_:Q .non (upd H l (.lst (xs++[y]))))
theorem cD:VL X "list.append" rj:=by
 intro Y s M H x vs v us Q I rx rv h;obtain⟨l,xs,y,rfl,rfl,hH,hz,q⟩:=h;cases rx;obtain⟨u,rfl,ru⟩:=rv.one;obtain⟨z,its,n,r,hl,e⟩:=I.xo hH;refine gc F.slot_list_append ⟨_,e,rfl⟩ F.entry_list_append (F.args_list_append_2 _ _) (PySem.list_append l its.toArray n u (by rw[ah];exact G)) ⟨e,?_⟩;refine⟨.non,_,I.HP (its':=its++[u]) hH e oz (r.append (.cons ru .nil)) ?_,Z,q⟩;rw[af,cS];exact G
inductive G_(x:V)(vs:List V)(H:Hp)(Q:VK):Prop
 |mk(l b xs zs:_)(_:x=.ref l)(_:vs=[.ref b])(_:H l=some (.lst xs))(_:H b=some (.lst zs))(_:xs.length+zs.length<=sizeLine)(_:Q .non (upd H l (.lst (xs++zs))))
theorem Eo:VL X "list.extend" G_:=by
 intro Y s M H x vs v us Q I rx rv h;obtain⟨l,b,xs,zs,rfl,rfl,hH,hB,hz,q⟩:=h;cases rx;obtain⟨u,rfl,ru⟩:=rv.one;cases ru;obtain⟨z,its,n,r,hl,e⟩:=I.xo hH;obtain⟨z2,iE,n2,r2,mP,e2⟩:=I.xo hB;have hsz:its.toArray.size+iE.toArray.size<=sizeLine:=by rw[ah,ah];exact G
 have D8:¬(!its.toArray.isEmpty&&Builtin.List.listTooLong (its.toArray.size+iE.toArray.size))=true:=by
  rw[wQ hsz,nI];exact ki
 refine gc F.slot_list_extend ⟨_,e,rfl⟩ F.entry_list_extend (F.args_list_extend_2 _ _)
  (AutoSeq1.list_extend_list_list_0 l its.toArray n b iE.toArray n2 D8 (by rw[ah];exact G) G) ⟨e,e2,?_⟩
 refine⟨.non,_,I.HP (its':=its++iE) hH e oz (r.append r2) ?_,Z,q⟩;rw[af];exact G
inductive V9(x:V)(vs:List V)(H:Hp)(Q:VK):Prop
 |mk(l xs y:_)(_:x=.ref l)(_:vs=[])(_:H l=some (.lst xs))(_:xs[xs.length-1]?=some y)(_:Q y (upd H l (.lst xs.dropLast)))
theorem iQ:VL X "list.pop" V9:=by
 intro Y s M H x vs v us Q I rx rv h;obtain⟨l,xs,y,rfl,rfl,hH,hy,q⟩:=h;cases rx;have CM:=rv.zero;subst CM;obtain⟨z,its,n,r,hl,e⟩:=I.xo hH;obtain⟨u,hu,ru⟩:=r.get hy
 have US:its.toArray[its.toArray.size-1]?=some u:=by
  show its.toArray[its.length-1]?=some u;rw[<- Array.getElem?_toList,<- hl];exact hu
 refine gc F.slot_list_pop ⟨_,e,rfl⟩ F.entry_list_pop (F.args_list_pop_1 _) (MeetsSeq.list_pop_last l its.toArray n u US (by rw[ah];exact G)) ⟨e,?_⟩;refine⟨y,_,I.HP (its':=its.dropLast) hH e ?_ r.dropLast ?_,ru,q⟩
 .show its.toArray.eraseIdxIfInBounds (its.toArray.size-1)=its.dropLast.toArray
  rw[ah,List.eraseIdxIfInBounds_toArray,Cj]
 rw[List.length_dropLast];exact G
inductive MC(x:V)(vs:List V)(H:Hp)(Q:VK):Prop
 |mk(l xs:_)(_:x=.ref l)(_:vs=[])(_:H l=some (.lst xs))(_:Q .non (upd H l (.lst [])))
theorem Im:VL X "list.clear" MC:=by
 intro Y s M H x vs v us Q I rx rv h;obtain⟨l,xs,rfl,rfl,hH,q⟩:=h;cases rx;have CM:=rv.zero;subst CM;obtain⟨z,its,n,r,hl,e⟩:=I.xo hH;refine gc F.slot_list_clear ⟨_,e,rfl⟩ F.entry_list_clear (F.args_list_clear_1 _) (AutoSeq1.list_clear_list_0 l its.toArray n (by rw[ah];exact G)) ⟨e,?_⟩;exact⟨.non,_,I.HP (its':=[]) (ys:=[]) hH e rfl .nil (mi _),Z,q⟩
inductive Wa(x:V)(y:V)(H:Hp)(Q:VK):Prop
 |mk(l b xs zs:_)(_:x=.ref l)(_:y=.ref b)(_:H l=some (.lst xs))(_:H b=some (.lst zs))(_:xs.length+zs.length<=sizeLine)(_:∀ p,H p=none->Q (.ref p) (upd H p (.lst (xs++zs))))
theorem oH:kD X (binaryOp .Add) Wa:=by
 intro Y s M H x y v u Q I rx ry h;obtain⟨l,b,xs,zs,rfl,rfl,hH,hB,hz,q⟩:=h;cases rx;cases ry;obtain⟨z,its,n,r,hl,e⟩:=I.xo hH;obtain⟨z2,iE,n2,r2,mP,e2⟩:=I.xo hB;refine PySem.P.add_list e e2 ?_ (by rw[ah,ah];exact G);have ea:its.toArray++iE.toArray=(its++iE).toArray:=by simp
 rw[ea];exact⟨.ref _,_,I.MQ (t':=s.toks) (r.append r2) (by rw[af];exact G),Z,q _ I.fresh⟩
inductive V8(x:V)(y:V)(H:Hp)(Q:VK):Prop
 |mk(l k xs:_)(_:x=.ref l)(_:y=.int k)(_:H l=some (.lst xs))(_ : -(2^63)<=k)(_:k<2^63)(_:xs.length*k.toNat<=sizeLine)(_:∀ p,H p=none->Q (.ref p) (upd H p (.lst (List.replicate k.toNat xs).flatten)))
theorem len_rep{α:Type}(xs:List α)(k:Nat):(List.replicate k xs).flatten.length=k*xs.length:=by
 induction k with
 |zero=>simp
 |succ k ih=>rw[jv,oq,af,ih,Nat.succ_mul,AB]
theorem Ep:kD X (binaryOp .Mult) V8:=by
 intro Y s M H x y v u Q I rx ry h;obtain⟨l,k,xs,rfl,rfl,hH,h1,h2,hz,q⟩:=h;cases rx;obtain⟨t,rfl⟩:=ry;obtain⟨z,its,n,r,hl,e⟩:=I.xo hH;have hlen:its.toArray.size*k.toNat<=sizeLine:=by rw[ah,<- hl];exact hz
 have Xp:¬its.toArray.size*k.toNat>(2^63-1)/8:=by
  have:(sizeLine:Nat)<=(2^63-1)/8:=by decide
  exact G
 have y4:¬(!Builtin.List.listFitsIndex k)=true:=by
  rw[fitsIndex_both h1 h2];exact ki
 have D8:¬Builtin.List.listTooLong (its.toArray.size*k.toNat)=true:=by
  rw[wQ hlen];exact ki
 have NA:List.foldl (fun x1 x2=>x1++x2) #[] (List.replicate (if its.toArray.isEmpty=true then 0 else k.toNat) its.toArray)=(List.replicate k.toNat its).flatten.toArray:=by
  have f0:∀ m:Nat,List.foldl (fun x1 x2=>x1++x2) #[] (List.replicate m its.toArray)=(List.replicate m its).flatten.toArray:=fun m=>by
   have:=foldl_rep its m [];rw[List.nil_append]at this;exact this
  rw[f0];cases its with
  |nil=>simp
  |cons a r'=>rw[bX oz]
 refine wpAny_binaryOp_repeat_ref (T := "list") (U := "int") b9 ⟨_,e,rfl⟩ (fun s'=>EN s' k t) noFill_list_mul F.fills_int_mul wt repeat_list F.slot_int_index.lookup
  (gc wt (EN s k t) F.entry_int_rmul (F.args_int_rmul_2 _ _) (int___rmul___int_list k t l its.toArray n)
   ⟨e,rfl,⟨_,e,rfl⟩,gc F.slot_list_mul ⟨_,e,rfl⟩ F.entry_list_mul (F.args_list_mul_2 _ _) (AutoListH.list___mul___list_int_3 l its.toArray n k t y4 Xp D8) ⟨e,?_⟩⟩)
 rw[NA];exact⟨.ref _,_,I.MQ (t':=s.toks) (r.rep k.toNat) (by rw[len_rep,mx];exact hz),Z,q _ I.fresh⟩
end L2
namespace Att
open PySem PySem.W PySem.Calls PyProof.Rows
theorem sr{P:Params}:∀(ns:List Int)(vs:List Value),WellAll P h vs (ns.map WData.int)->IntsAre vs ns:=by
 intro ns
 induction ns with
 | nil =>
  intro vs w;rw[AD]at w;cases w;exact .nil
 | cons n ns ih =>
  intro vs w;rw[b6]at w;cases w with
  | cons a b =>
   cases a;exact .cons _ _ (ih _ b)
theorem Er{l:OpenLaw}(hn:l.most=some n){P:Params}{args:List WData}{vals:List Value}(IA:l.row.toRowW.claim.pre args=true)(hwl:WellAll P h vals args): ∃ a vs ns,vals=[Value.ref a]/\args=[WData.list (ns.map WData.int)]/\h.get? a=some { cls:=.type "list",data:=.seq vs.toArray }/\IntsAre vs ns/\ns.length<=n:=by
 have hsh:WShape.hasAll [] args [.list .int]=true:=(pre_splitW IA).1;have hc:l.pre.holds [] { args:=args }=true:=(pre_splitW IA).2;obtain⟨d,r,rfl,h1,h2⟩:=hasAllW_cons hsh;obtain rfl:=hasAllW_nil h2;obtain⟨xs,rfl,h3⟩:=hasW_list h1;obtain⟨ns,rfl⟩:=items_int h3
 have hlen:ns.length<=n:=by
  unfold OpenLaw.pre at hc
  have h4:(WTm.not (.lt (.lit (.int (n:Int))) (.len (.arg 0)))).holds [] { args:=[.list (ns.map .int)] }=true:=by
   have h4:=(holds_andW hc).1;rw[hn]at h4;exact h4
  have h5:=condW_of h4 (w_not (w_lt w_lit (w_len_list (w_arg rfl))));rw[de]at h5;refine Nat.le_of_not_lt fun q=>?_
  have q':(n:Int)<((ns.length:Nat):Int):=G
  first
   |(rw[cK q']at h5;exact absurd h5 b9)
   |(simp at h5;exact G)
 cases hwl with
 | cons w1 w2 =>
  cases w2;cases w1 with
  |list ho hall=>exact⟨_,_,ns,Z,Z,ho,sr ns _ hall,hlen⟩
theorem Es(l:OpenLaw)(args:List WData):l.row.toRowW.claim.post args (.bool true) args=true :=
 postW_of (r:=l.row.toRowW) (X:=(true==true))
  (show WShape.has [] (.bool true) .bool=true by first|rfl|decide|simp[WShape.has,WShape.arms,WShape.armsAll])
  (show(WTm.eq .res (.lit (.bool true))).value [] { args:=args,res:=some (.bool true),after:=args }=some (.bool (true==true))from w_eq_bool (w_res rfl) w_lit) rfl
theorem xB{l:OpenLaw}{XP:(Str->Option Value)->Heap->Prop}{d:DefRec}(hn:l.most=some n)(SS:d.params.defaults=[])(call:∀(w:World)(s₀ s₁:Shared)(mg mb:Str->Option Value)(fa:Addr)(o:Obj)(pm cd doc:Value)(a:Addr)(vs:List Value)(ns:List Int), Ground q loose [] XP w s₀ mg mb s₁.heap->YP w s₁.heap -> s₁.heap.get? fa=some o->o.data=.func (docDef d.name d.params d.body d.scope pm cd doc)->s₁.heap.CodeRec cd d.name->mg d.name=some (.ref fa) -> s₁.heap.get? a=some { cls:=.type "list",data:=.seq vs.toArray }->IntsAre vs ns->ns.length<=n->s₁.gens = #[] -> codeAny (model l.prog w) callerA (.call (.ref fa) ⟨[.ref a],[]⟩) (fun r s'=>r=.ok (.ret (.bool true))/\OldK s₁.heap s'.heap/\s'.os=s₁.os/\AllBare s'.gens) s₁): WalkO q loose XP YP l.row.toRowW d [] (fun f vs=>PySem.call f vs):=by
 intro w s₀ s₁ mg mb aae aaa fa o pm cd doc dV kV ho hd y6 hD hmg hg args vals as IA hlay WN hwl ZP;obtain rfl:dV=.none:=Dflts.none hD SS;obtain rfl:kV=.none:=Dflts.noKw hD;obtain⟨a,vs,ns,rfl,rfl,Nl,hints,hlen⟩:=Er hn IA hwl;refine enter_call (vn (call w s₀ s₁ mg mb fa o pm cd doc a vs ns aae aaa ho (fd_plain hd) y6 hmg Nl hints hlen hg) fun r s' hq=>?_);obtain⟨rfl,h2,h3,h4⟩:=hq;exact⟨.inl ⟨.bool true,.bool true,[],Z,fun _=>rfl,.bool true,Es l _,fun _=>⟨List.Pairwise.nil,fun _ hm=>(nomatch hm)⟩⟩,h2,h3,h4⟩
end Att
namespace L2
open PySem PySem.Spec PyProof.Rows
theorem uO:∀{vs:List Value}{ns:List Int},IntsAre vs ns->Vals (ns.map V.int) vs
 |_,_,.nil=>.nil
 |_,_,.cons n t h=>.cons ⟨t,rfl⟩ (uO h)
def IQ(H:Hp):Prop:=∀ b,H b=none\/∃ o xs,H b=some (.xA o (.lst xs))
theorem Io{mb:Str->Option Value}{k:Nat}{fa:Addr}{s₁:Shared}{vs:List Value}{ns:List Int}
  (KX:K.In s₁.heap) (pe:s₁.heap.Ns mainGlobals mg) (hb:s₁.heap.Ns builtinsNs mb) (hbb:∀ x:Str,x≠"__name__"->mb x=bootBuiltins x) (W7:s₁.heap.NoLimit) (hg:s₁.gens = #[])
  (ha:s₁.heap.get? a=some { cls:=.type "list",data:=.seq vs.toArray }) (hi:IntsAre vs ns) (hl:ns.length<=sizeLine) (hr:fI k callerA)
  (F:∀ base:Heap,K.In base->base.Ns mainGlobals mg->g7 P w K mg base CX k fa fd [x] sp) (SW:∀(s:Shared)(u:Value),BindsTo s fd ⟨[u],[]⟩ [(x,u)])
  (E6:∀ H:Hp,IQ H->b5 K H a (ns.map V.int)->sp [.ref a] H (fun v _=>v=.bl true) fun _ _ _=>False)
  (XD:∀ H e s',CX [] H s₁ (fun _ _ _=>False) e s'->False):
  codeAny (model P w) callerA (.call (.ref fa) ⟨[.ref a],[]⟩) (fun r s'=>r=.ok (.ret (.bool true))/\OldK s₁.heap s'.heap/\s'.os=s₁.os/\AllBare s'.gens) s₁:=by
 have rv:=uO hi;have Wm:=hi.length
 have core:∀ H:Hp,IQ H->b5 K H a (ns.map V.int)->mS P w H s₁.heap->(∀ b,H b≠none->b=a)->(H a≠none->K.lookup a=none) ->
   codeAny (model P w) callerA (.call (.ref fa) ⟨[.ref a],[]⟩) (fun r s'=>r=.ok (.ret (.bool true))/\OldK s₁.heap s'.heap/\s'.os=s₁.os/\AllBare s'.gens) s₁:=by
  intro H hO hS hok hA hK;have Bi:∀{b:Addr}{o:Obj},s₁.heap.get? b=some o->H b=none->(mX s₁.heap H).get? b=some o:=fun e n=>HY e n
  have QY:∀{b:Addr}{o:Obj}{es:Array DictEntry}{ep:Nat},s₁.heap.get? b=some o->o.data=.dict es ep->H b=none:=fun {b o es ep} e d=>by
   cases q:H b with
   |none=>rfl
   | some u =>
    have e':b=a:=hA b (by rw[q];simp);subst e';rw[ha]at e;cases e;have d':Data.seq vs.toArray _=Data.dict es ep:=d;cases d'
  have UH:∀{b:Addr}{m:Str->Option Value},s₁.heap.Ns b m->(mX s₁.heap H).Ns b m:=fun {b m} ⟨o,es,ep,e,d,r⟩=>⟨o,es,ep,Bi e (QY e d),d,r⟩
  have Z_:K.In (mX s₁.heap H):=fun b o e=>Bi (KX b o e) (by
   cases q:H b with
   |none=>rfl
   | some u =>
    have e':b=a:=hA b (by rw[q];simp);subst e'
    rw[hK (by rw[q];simp)]at e;cases e)
  have hM:Mod K mg (mX s₁.heap H):=⟨Z_,UH pe,⟨mb,UH hb,hbb⟩,let ⟨mc,h1,h2⟩:=W7;⟨mc,UH h1,h2⟩⟩
  have e0:z5 P w K mg (mX s₁.heap H) callerA [] s₁ H:=⟨rfl,hM,fun b o e=>Mf e,Nat.le_of_eq (Ea _ _),trivial,fun b hb=>absurd (show b∈([]:List Addr)from hb) oz,hok,.of_eq hg⟩
  refine vn ((F _ Z_ (UH pe)).run callerA [] s₁ H ⟨[.ref a],[]⟩ [.ref a] [.ref a] _ _ hr e0 (SW s₁ (.ref a)) (.cons rfl .nil) (E6 H hO hS)) fun r s' h=>?_
  cases r with
  |error e=>exact(XD H e s' h).elim
  | ok fl =>
   cases fl with
   |next=>exact False.elim h
   |brk=>exact False.elim h
   |cont=>exact False.elim h
   | ret u =>
    obtain⟨v,J,os,bare,un,WV,r',q⟩:=h;have q':v=.bl true:=q;subst q';obtain rfl:u=Value.bool true:=r';refine⟨Z,OldK.of_keep fun b o e=>?_,os,bare⟩;cases q:H b with
    |none=>exact un.keep b o e q (by intro z;exact absurd (show b∈([]:List Addr)from z) oz) oz
    | some u =>
     rcases hO b with z|⟨ob,xs,z⟩
     .rw[q]at z;cases z
     have z2:=un.nh b ob _ z;obtain⟨e1,_⟩:=hok b _ z;obtain⟨e2,_⟩:=WV b _ z2;rw[e]at e1;cases e1;exact e2
 cases hk:K.lookup a with
 | some o =>
  have e:=KX a o hk;rw[ha]at e;cases e;refine core (fun _=>none) (fun _=>.inl rfl) (.inr ⟨_,vs.toArray,_,hk,rfl,rfl,rfl,by rw[ah,Wm];exact hl,by simpa using rv⟩) (fun b u z=>by have z':(none:Option HO)=some u:=z;cases z') (fun b z=>absurd rfl z) fun z=>absurd rfl z
 | none =>
  refine core (fun b=>if b=a then some (.xA { cls:=.type "list",data:=.seq vs.toArray } (.lst (ns.map V.int)))else none) (fun b=>?_) (.inl (.inr ⟨{ cls:=.type "list",data:=.seq vs.toArray },qp rfl⟩)) (fun b u z=>?_) (fun b z=>?_) fun _=>hk
  .by_cases hb:b=a
   .exact .inr ⟨_,_,qp hb⟩
   exact .inl (bX hb)
  .by_cases hb:b=a
   .have z':=(qp hb).symm.trans z
    cases z';subst hb;exact⟨ha,by rw[de];exact hl,vs,_,rv,ha⟩
   have z':=(bX hb).symm.trans z;cases z'
  by_cases hb:b=a
  .exact hb
  exact absurd (bX hb) z
abbrev KOf(_:K.In h):W.Frag:=K
theorem Mx{l:W.OpenLaw}{k:Nat}{XP:(Str->Option Value)->Heap->Prop}{d:DefRec}{K:Params->W.Frag}{CX:World->xD}{sp:World->Sp}(hn:l.most=some n)(Cf:n<=sizeLine)(SS:d.params.defaults=[])(hr:fI k callerA)(hY:∀(w:World)(h:Heap),YP w h->(K w.params).In h)(F:∀(w:World)(mg:Str->Option Value)(fa:Addr)(h:Heap),(K w.params).In h->h.Ns mainGlobals mg->mg d.name=some (.ref fa) -> ∃ fd:FuncData,(∀(s:Shared)(u:Value),BindsTo s fd ⟨[u],[]⟩ [(x,u)]) /\ ∀ base:Heap,(K w.params).In base->base.Ns mainGlobals mg->g7 l.prog w (K w.params) mg base (CX w) k fa fd [x] (sp w))(E6:∀(w:World)(H:Hp)(a:Addr)(ns:List Int),ns.length<=n->IQ H->b5 (K w.params) H a (ns.map V.int)->sp w [.ref a] H (fun v _=>v=.bl true) fun _ _ _=>False)(XD:∀(w:World)(H:Hp)(s:Shared)(e:Value)(s':Shared),CX w [] H s (fun _ _ _=>False) e s'->False): W.WalkO q loose XP YP l.row.toRowW d [] (fun f vs=>PySem.call f vs):=by
 refine Att.xB hn SS fun w s₀ s₁ mg mb fa o pm cd doc a vs ns aae aaa ho hd y6 hmg Nl hints hlen hg=>?_
 have KX:=hY w _ aaa;obtain⟨fd,hb,hF⟩:=F w mg fa _ KX aae.T.g hmg;exact Io KX aae.T.g aae.T.b aae.T.builtins aae.T.nolimit hg Nl hints (g9 hlen Cf) hr hF hb (fun H hO hS=>E6 w H a ns hlen hO hS) fun H e s'=>XD w H s₁ e s'
def inClass(s:Stmt)(j:Nat):Stmt:=match s with
 | .ClassDef _ _ _ body _ _ _ _ _ _ _=>body.getD j (.Pass ⟨0,0,0,0⟩)
 |_=>.Pass ⟨0,0,0,0⟩
def gm(s:Stmt):Arguments:=match s with
 | .FunctionDef _ a _ _ _ _ _ _ _ _=>a
 |_=>{ posonlyargs:=[],args:=[],vararg:=none,kwonlyargs:=[],kw_defaults:=[],kwarg:=none,defaults:=[] }
def eX(s:Stmt):List Stmt:=match s with
 | .FunctionDef _ _ b _ _ _ _ _ _ _=>b
 |_=>[]
def aP(s:Stmt):Scope:=match s with
 | .FunctionDef _ _ _ _ _ _ sc _ _ _=>sc
 |_=>{ kind:=.function,names:=[],isGenerator:=false,isCoroutine:=false }
abbrev CX0:xD:=fun _ _ _ _ _ _=>False
abbrev E0:XK:=fun _ _ _=>False
structure CD(K:W.Frag)(x qual:Str)(st:Stmt)(f:Addr)(fd:FuncData):Prop where
 ex:∃(oc:Value)(od:Option Addr)(kV doc pm:Value)(an:Option Addr)(ja ct:Value)(MG:Array (Option Value)),
  fd=W.fnOf x qual (gm st) (eX st) (aP st) .none kV doc pm an ja ct/\K.lookup f=some ⟨oc,od,.func fd,MG⟩/\W.codeIn K ja qual=true
 kp:W.keepIn K (.ref f)=true
theorem CD.binds(F:CD K x qual st f fd)(h:∀(kV doc pm:Value)(an:Option Addr)(ja ct:Value)(us:List Value),us.length=ps.length->bindArgs (W.fnOf x qual (gm st) (eX st) (aP st) .none kV doc pm an ja ct) ⟨us,[]⟩=pure (ps.zip us)):Binds K fd ps []:=by
 obtain⟨oc,od,kV,doc,pm,an,ja,ct,MG,rfl,lk,y6⟩:=F.ex;exact .all (h kV doc pm an ja ct)
theorem Et{kV:Value}(l:K.lookup f=some ⟨oc,od,.func (W.fnOf x qual (gm st) (eX st) (aP st) .none kV doc pm an ja ct),MG⟩)(c:W.codeIn K ja qual=true)(k:W.keepIn K (.ref f)=true):CD K x qual st f (W.fnOf x qual (gm st) (eX st) (aP st) .none kV doc pm an ja ct):=⟨⟨oc,od,kV,doc,pm,an,ja,ct,MG,rfl,l,c⟩,k⟩
theorem fI.mo{k:Nat}(hr:fI k A)(h:j<=k:=by first|decide|omega):fI j A:=hr.mono h
theorem eO{k:Nat}(hr:fI k A):A.units+1<cLine:=ku (eR (by decide:1<=64) _) hr.units
theorem cM(h:n<=1000):n<sizeLine:=ku h b9
theorem pv(i:Nat)   (hN:X.N[i]?=some x:=by rfl) (hv:Uj X.env.scope x:=by first|exact Or.inl rfl|exact Or.inr (Or.inl rfl)|exact Or.inr (Or.inr rfl)) (hd:(x==("__debug__":Str))=false:=by decide)
  (y6:(x==("__classdict__":Str))=false:=by decide):PE X (.Name x pos) (Fs i):=wG hN hv hd y6
theorem bD{A B:Prop}(h:B):if false=true then A else B:=by
 rw[bX ki];exact h
theorem bU{A B:Prop}(h:A):if true=true then A else B:=by
 rw[qp rfl];exact h
theorem aN{c A B:Prop}[Decidable c](h1:c->A)(h2:¬c->B):if c then A else B:=by
 by_cases h:c
 .rw[qp h]
  exact h1 h
 rw[bX h];exact h2 h
def bb(H J:Hp):Prop:=∀ b o,H b=some o->J b=some o
theorem bb.refl(H:Hp):bb H H:=fun _ _ h=>h
theorem bb.trans(a:bb H H1)(b:bb H1 H2):bb H H2:=fun c o h=>b c o (a c o h)
theorem bb.free(e:bb H J){l:Addr}(h:J l=Option.none):H l=Option.none:=by
 cases q:H l with
 |none=>rfl
 | some o =>
  rw[e l o q]at h;cases h
theorem bb.seq(e:bb H J)(h:b5 K H a xs):b5 K J a xs:=by
 rcases h with(h|⟨o,h⟩)|h
 .exact .inl (.inl (e _ _ h))
 .exact .inl (.inr ⟨o,e _ _ h⟩)
 exact .inr h
section
variable{κ:Type}[DecidableEq κ]
def bN(kvs:List (κ×V))(k:κ):Option V:=(kvs.find? fun kv=>decide (kv.1=k)).map (·.2)
def putK(kvs:List (κ×V))(k:κ)(v:V):List (κ×V):=
 if (kvs.any fun kv=>decide (kv.1=k))=true then kvs.map (fun kv=>if kv.1=k then(kv.1,v)else kv)else kvs++[(k,v)]
theorem dw{p:κ×V}{r:List (κ×V)}{k:κ}(e:p.1=k):bN (p::r) k=some p.2:=by simp[bN,List.find?_cons,e]
theorem dz{p:κ×V}{r:List (κ×V)}{k:κ}(e:¬p.1=k):bN (p::r) k=bN r k:=by simp[bN,List.find?_cons,e]
theorem m6(k:κ):∀ kvs:List (κ×V),(kvs.any fun kv=>decide (kv.1=k))=(bN kvs k).isSome
 |[]=>rfl
 | p::r=>by
  rw[eh]
  by_cases e:p.1=k
  .simp only[dw e,cK e,Bool.true_or,Option.isSome_some]
  rw[dz e,gS e,Bool.false_or];exact m6 k r
theorem wR(k j:κ)(y:V):∀ kvs:List (κ×V),bN (kvs.map fun kv=>if kv.1=k then(kv.1,y)else kv) j=(bN kvs j).map fun x=>if j=k then y else x
 |[]=>rfl
 | p::r=>by
  have ih:=wR k j y r;rw[b6]
  by_cases h:p.1=k
  .rw[qp h]
   by_cases e:p.1=j
   .rw[dw (p:=(p.1,y)) e,dw e,rV,qp (e.symm.trans h)]
   rw[dz (p:=(p.1,y)) e,dz e,ih]
  rw[bX h]
  by_cases e:p.1=j
  .rw[dw (p:=p) e,dw e,rV,bX (fun z=>h (e.trans z))]
  rw[dz (p:=p) e,dz e,ih]
theorem uP(k j:κ)(y:V):∀ kvs:List (κ×V),bN kvs k=none->bN (kvs++[(k,y)]) j=if j=k then some y else bN kvs j
 | [],_=>by
  by_cases e:k=j
  .rw[qp e.symm];exact dw (p:=(k,y)) e
  rw[bX (fun z=>e z.symm)];exact dz (p:=(k,y)) e
 | p::r,hn=>by
  rw[i'];have hk:¬p.1=k:=fun z=>by rw[dw z]at hn;cases hn
  rw[dz hk]at hn;have ih:=uP k j y r hn
  by_cases e:p.1=j
  .rw[dw e,dw e,bX (fun z=>hk (e.trans z))]
  rw[dz e,dz e,ih]
theorem Ip(kvs:List (κ×V))(k j:κ)(y:V):bN (putK kvs k y) j=if j=k then some y else bN kvs j:=by
 unfold putK
 by_cases a:(kvs.any fun kv=>decide (kv.1=k))=true
 .rw[qp a,wR]
  rw[m6]at a
  by_cases e:j=k
  .obtain⟨x,hx⟩:=j'.mp a
   rw[qp e,e,hx,rV,qp rfl]
  rw[bX e];cases bN kvs j with
  |none=>rfl
  |some x=>rw[rV,bX e]
 rw[bX a];refine uP k j y kvs ?_;rw[m6]at a;cases q:bN kvs k with
 |none=>rfl
 |some x=>rw[q]at a;exact(a rfl).elim
theorem jt(kvs:List (κ×V))(k:κ)(v:V):(putK kvs k v).length <= kvs.length+1:=by
 unfold putK
 split
 .rw[de];exact G
 rw[af,ba,r_];exact G
theorem mr.k_{o:Option V}{u:Option Value}(r:mr o u):o.isSome=u.isSome:=by
 cases o with
 | none=>cases u with
  |none=>rfl
  |some _=>exact(show False from r).elim
 | some _=>cases u with
  |none=>exact(show False from r).elim
  |some _=>rfl
theorem KV.val{kvs:List (κ×V)}{vs:List (κ×Value)}(r:KV kvs vs)(k:κ):mr (bN kvs k) (valueAt vs k):=by
 unfold KV at r
 induction r with
 |nil=>exact True.intro
 | @cons p q ps qs h t ih =>
  obtain⟨h1,h2⟩:=h
  by_cases e:p.1=k
  .have e':q.1=k:=h1.symm.trans e
   have b:valueAt (q::qs) k=some q.2:=by simp[valueAt,List.find?_cons,e']
   rw[dw e,b];exact h2
  have e':¬q.1=k:=fun z=>e (h1.trans z)
  have b:valueAt (q::qs) k=valueAt qs k:=by simp[valueAt,List.find?_cons,e']
  rw[dz e,b];exact ih
theorem KV.any{kvs:List (κ×V)}{vs:List (κ×Value)}(r:KV kvs vs)(k:κ):(kvs.any fun kv=>decide (kv.1=k))=vs.any fun kv=>decide (kv.1=k):=by
 unfold KV at r
 induction r with
 |nil=>rfl
 |cons h t ih=>rw[eh,eh,ih,h.1]
theorem KV.Mo{kvs:List (κ×V)}{vs:List (κ×Value)}(r:KV kvs vs)(k:κ)(ry:RelV y u): KV (kvs.map fun kv=>if kv.1=k then(kv.1,y)else kv) (vs.map fun kv=>if kv.1=k then(kv.1,u)else kv):=by
 unfold KV at r ⊢
 induction r with
 |nil=>exact .nil
 | @cons p q ps qs h t ih =>
  rw[b6,b6];refine .cons ?_ ih;obtain⟨h1,h2⟩:=h
  by_cases e:p.1=k
  .rw[qp e,qp (h1.symm.trans e)];exact⟨h1,ry⟩
  rw[bX e,bX (fun z=>e (h1.trans z))];exact⟨h1,h2⟩
theorem KV.put{kvs:List (κ×V)}{vs:List (κ×Value)}(r:KV kvs vs)(k:κ)(ry:RelV y u):KV (putK kvs k y) (stored vs k u):=by
 unfold putK stored;rw[r.any k]
 by_cases e:(vs.any fun kv=>decide (kv.1=k))=true
 .rw[qp e,qp e];exact r.Mo k ry
 rw[bX e,bX e];exact Paired.snoc r ⟨rfl,ry⟩
theorem KV.length{kvs:List (κ×V)}{vs:List (κ×Value)}(r:KV kvs vs):kvs.length=vs.length:=aT r
end
theorem lH{k:Key}(r:RelV (kV k) u):(bW P w).is k u=true:=by
 cases k with
 |inl i=>obtain⟨t,e⟩:=(show ∃ t,u=Value.int i t from r);subst e;exact qC P w i t
 |inr x=>obtain⟨t,e⟩:=(show ∃ t,u=Value.str x t from r);subst e;exact qD P w x t
theorem uQ{P:Program}{w:World}:∀{ks:List Key}{us:List Value},Vals (ks.map kV) us->ItemsAre (bW P w) ks us
 |[],_,r=>by rw[AD]at r;cases r;exact .nil
 | k::ks,_,r=>by
  rw[b6]at r;cases r with
  |cons h t=>exact .cons (lH h) (uQ t)
abbrev KT(H:Hp):List (List Key×V)->List (List Key×Addr×Value)->Prop:=Paired fun p q=>p.1=q.1/\H q.2.1=some (.tup (p.1.map kV))/\RelV p.2 q.2.2
theorem KT.val{kvs:List (List Key×V)}{xs:List (List Key×Addr×Value)}(r:KT H kvs xs)(k:List Key):mr (bN kvs k) ((atKey xs k).map (·.2)):=by
 induction r with
 |nil=>exact True.intro
 | @cons p q ps qs h t ih =>
  obtain⟨h1,_,h2⟩:=h
  by_cases e:p.1=k
  .have e':q.1=k:=h1.symm.trans e
   have b:atKey (q::qs) k=some q.2:=by simp[atKey,List.find?_cons,e']
   rw[dw e,b];exact h2
  have e':¬q.1=k:=fun z=>e (h1.trans z)
  have b:atKey (q::qs) k=atKey qs k:=by simp[atKey,List.find?_cons,e']
  rw[dz e,b];exact ih
theorem KT.Mo{kvs:List (List Key×V)}{xs:List (List Key×Addr×Value)}(r:KT H kvs xs)(k:List Key)(ry:RelV y u): KT H (kvs.map fun kv=>if kv.1=k then(kv.1,y)else kv) (xs.map (putAt k u)):=by
 induction r with
 |nil=>exact .nil
 | @cons p q ps qs h t ih =>
  rw[b6,b6];refine .cons ?_ ih;obtain⟨h1,h2,h3⟩:=h;unfold putAt
  by_cases e:p.1=k
  .rw[qp e,qp (h1.symm.trans e)];exact⟨h1,h2,ry⟩
  rw[bX e,bX (fun z=>e (h1.trans z))];exact⟨h1,h2,h3⟩
theorem KT.put{kvs:List (List Key×V)}{xs:List (List Key×Addr×Value)}(r:KT H kvs xs)(k:List Key)(hb:H b=some (.tup (k.map kV)))(ry:RelV y u): KT H (putK kvs k y) (storedH xs k b u):=by
 have e:(kvs.any fun kv=>decide (kv.1=k))=(atKey xs k).isSome:=by
  rw[m6,(r.val k).k_,Option.isSome_map]
 unfold putK storedH;rw[e]
 by_cases q:(atKey xs k).isSome=true
 .rw[qp q,qp q];exact r.Mo k ry
 rw[bX q,bX q];exact Paired.snoc r ⟨rfl,hb,ry⟩
theorem KT.keeps{kvs:List (List Key×V)}{xs:List (List Key×Addr×Value)}(r:KT H kvs xs)(ht:∀ b ys,H b=some (.tup ys)->J b=some (.tup ys)):KT J kvs xs :=
 Paired.ib r fun _ _ z=>⟨z.1,ht _ _ z.2.1,z.2.2⟩
theorem Lj{u:HO}(ok:mS P w H h)(e:Rd H a u):ft P w H h a u:=e.ok ok
theorem vZ(ok:mS P w H h)(e:Rd H a (.dK kvs)):kvs.length<=sizeLine/\(a==sysModules)=false/\∃ vs,KV kvs vs/\h.DictOf (bW P w) a vs :=
 show ft P w H h a (.dK kvs)from Lj ok e
theorem Lk(ok:mS P w H h)(e:H a=some (.dK kvs)):kvs.length<=sizeLine/\(a==sysModules)=false/\∃ vs,KV kvs vs/\h.DictOf (bW P w) a vs:=vZ ok (.inl e)
theorem su{ks:List Key}(ok:mS P w H h)(e:H a=some (.tup (ks.map kV))):(tupleKind (bW P w)).is h ks a:=by
 obtain⟨_,its,r,o,h1,h2,n,h3⟩:=(show ft P w H h a (.tup (ks.map kV))from ok a _ e)
 exact⟨o,its.toArray,n,h1,h2,b4 Prod.fst h3,by simpa using uQ r⟩
theorem wg{kvs:List (List Key×V)}(ok:mS P w H h)(e:Rd H a (.dT kvs)):kvs.length<=sizeLine/\(a==sysModules)=false /\ ∃ xs,KT H kvs xs/\h.DictOfH (tupleKind (bW P w)) a xs:=by
 obtain⟨z,y,xs,r,o,es,ep,h1,h2,h3,h4,h5⟩:=(show ft P w H h a (.dT kvs)from Lj ok e)
 refine⟨z,y,xs,r,o,es,ep,h1,h2,h3,h4,fun x hx=>?_,h5⟩
 have all:∀{l:List (List Key×V)}{m:List (List Key×Addr×Value)},KT H l m->∀ x∈m,(tupleKind (bW P w)).is h x.1 x.2.1:=by
  intro l m q
  induction q with
  |nil=>intro x hx;exact nomatch hx
  | @cons p q ps qs hq t ih =>
   intro x hx;rcases ai.mp hx with e|hx
   .subst e
    exact su ok (by rw[<- hq.1];exact hq.2.1)
   exact ih x hx
 exact all r x hx
theorem Ri{kvs:List (List Key×V)}(ok:mS P w H h)(e:H a=some (.dT kvs)):kvs.length<=sizeLine/\(a==sysModules)=false /\ ∃ xs,KT H kvs xs/\h.DictOfH (tupleKind (bW P w)) a xs:=wg ok (.inl e)
def vi(H:Hp)(a:Addr)(y:V)(r:Option V):Prop :=
 (∃ kvs k,Rd H a (.dK kvs)/\y=kV k/\r=bN kvs k)\/∃ kvs k b,Rd H a (.dT kvs)/\y=.ref b/\H b=some (.tup (k.map kV))/\r=bN kvs k
def ve(H:Hp)(a:Addr)(y v:V)(J:Hp):Prop :=
 (∃ kvs k,H a=some (.dK kvs)/\y=kV k/\kvs.length<sizeLine/\J=upd H a (.dK (putK kvs k v))) \/
 ∃ kvs k b,H a=some (.dT kvs)/\y=.ref b/\H b=some (.tup (k.map kV))/\kvs.length<sizeLine/\J=upd H a (.dT (putK kvs k v))
theorem vi.k{H:Hp}{a:Addr}{kvs:List (Key×V)}{k:Key}(e:H a=some (.dK kvs)):vi H a (kV k) (bN kvs k):=.inl ⟨kvs,k,.inl e,rfl,rfl⟩
theorem ve.k{H:Hp}{a:Addr}{kvs:List (Key×V)}{k:Key}{v:V}(e:H a=some (.dK kvs))(hl:kvs.length<sizeLine):ve H a (kV k) v (upd H a (.dK (putK kvs k v))):=.inl ⟨kvs,k,e,rfl,hl,rfl⟩
section
variable{r:Value}{o:Option V}
theorem Inv.big(I:Inv X Y M H s):sysModules<s.heap.objs.size:=by
 have h:mainGlobals<s.heap.objs.size:=(I.mod.glob.keeps I.bk).lt;exact gI b9 h
theorem Eu(hu:A.units+1<cLine)(I:Inv X Y M H s)(g:vi H a y (some v))(ry:RelV y u)(h:∀ w' s',Inv X Y M H s'->RelV v w'->Q w' s'): wpAny (model X.prog X.w) A (getItem (.ref a) u) Q E s:=by
 rcases g with⟨kvs,k,e,ey,l⟩|⟨kvs,k,b,e,ey,eb,l⟩
 .subst ey
  obtain⟨z,hd,vs,rel,dd⟩:=vZ I.hok e;obtain⟨w',hw,qB⟩:=mr.some_of (v:=v) (o:=valueAt vs k) (by rw[l];exact rel.val k);exact wpAny_getItem_of (lH ry) dd.mapOf hw (h w' _ (I.tok _) qB)
 subst ey;cases(show u=Value.ref b from ry);obtain⟨z,hd,xs,rel,dd⟩:=wg I.hok e;obtain⟨w',hw,qB⟩:=mr.some_of (v:=v) (o:=(atKey xs k).map (·.2)) (by rw[l];exact rel.val k);obtain⟨p,hp,OQ⟩:=Option.map_eq_some_iff.mp hw;refine wpAny_getItem_heap (EO hu) (su I.hok eb) dd hp ?_;rw[OQ];exact h w' _ (I.tok _) qB
theorem My(hu:A.units+1<cLine)(I:Inv X Y M H s)(g:vi H a y o)(ry:RelV y u)(h:∀ s',Inv X Y M H s'->Q (.bool (!o.isSome)) s'): wpAny (model X.prog X.w) A (compareOp .NotIn u (.ref a)) Q E s:=by
 rcases g with⟨kvs,k,e,ey,l⟩|⟨kvs,k,b,e,ey,eb,l⟩
 .subst ey
  obtain⟨z,hd,vs,rel,dd⟩:=vZ I.hok e;refine wpAny_notIn_of (lH ry) hd dd.mapOf ?_;rw[<- (rel.val k).k_,<- l];exact h _ (I.tok _)
 subst ey;cases(show u=Value.ref b from ry);obtain⟨z,hd,xs,rel,dd⟩:=wg I.hok e;refine wpAny_notIn_heap (EO hu) (su I.hok eb) hd dd ?_;have q:=(rel.val k).k_;rw[Option.isSome_map]at q;rw[<- q,<- l];exact h _ (I.tok _)
theorem ud{ob:HO}(I:Inv X Y M H s)(mu:Um (H a))(hs:Heap.SameBut a s.heap h')(he:∃ q,h'.get? a=some q)(new:ft X.prog X.w (upd H a ob) h' a ob): Inv X Y M (upd H a ob) { s with heap:=h',toks:=t' } :=
 I.write (x:=a) (e:=a) mu (.inl rfl) (fun b q hb z=>(hs.2 b hb).trans z) he new
theorem Ew{vs:List (Key×Value)}(z:kvs.length<=sizeLine)(hd:(a==sysModules)=false)(rel:KV kvs vs)(dd:h'.DictOf (bW P w) a vs): ft P w J h' a (.dK kvs):=⟨z,hd,vs,rel,dd⟩
theorem Ex{Q:Unit->Shared->Prop}(hu:A.units+1<cLine)(I:Inv X Y M H s)(g:ve H a y v J)(ry:RelV y u)(rv:RelV v r)(h:∀ s',Inv X Y M J s'->Q () s'): wpAny (model X.prog X.w) A (setItem (.ref a) u r) Q E s:=by
 rcases g with⟨kvs,k,e,ey,l,eH⟩|⟨kvs,k,b,e,ey,eb,l,eH⟩
 .subst ey eH
  obtain⟨z,hd,vs,rel,dd⟩:=Lk I.hok e;have hz:vs.length<=sizeLine:=by rw[<- rel.length];exact z
  have hl:(putK kvs k v).length <= sizeLine:=by have:=jt kvs k v;exact G
  refine wpAny_setItem_pairs (hsz:=hz) (lH ry) dd fun h' dd' hs=>h _ ?_
  have he:∃ q,h'.get? a=some q:=let ⟨q,_,_,hq,_⟩:=dd';⟨q,hq⟩;exact ud I (by rw[e];exact True.intro) hs he (Ew hl hd (rel.put k rv) dd')
 subst ey eH;cases(show u=Value.ref b from ry);obtain⟨z,hd,xs,rel,dd⟩:=Ri I.hok e;have hz:xs.length<=sizeLine:=by rw[<- aT rel];exact z
 have hl:(putK kvs k v).length <= sizeLine:=by have:=jt kvs k v;exact G
 refine wpAny_setItem_heap (hsz:=hz) (EO hu) (su I.hok eb) dd fun h' dd' hs=>h _ ?_
 obtain⟨q,es,ep,hq,h2,h3,h4,_,h5⟩:=dd';refine ud I (by rw[e];exact True.intro) hs ⟨q,hq⟩ ⟨hl,hd,_,(rel.put k eb rv).keeps fun c ys ec=>?_,q,es,ep,hq,h2,h3,h4,h5⟩;rw[aA (aY ec e (fun z=>nomatch z))];exact ec
end
def Ir(i:Expr):Prop:=∀ ov iv,subscripted i false ov iv=operate [ov,iv] (getItem ov iv)
theorem An{slice:Expr}{T id:String}(hl:typeLookup (.type T) "__getitem__"=pure (some (.builtin id)))(hs:Ir slice)(h:wpAny (model prog w) A (eval value env) (fun o s₁=>wpAny (model prog w) A (eval slice env) (fun i s₂=>s₂.TypeIs o T/\wpAny (model prog w) A (getItem o i) Q E s₂) E s₁) E s): wpAny (model prog w) A (eval (.Subscript value slice pos) env) Q E s:=by
 refine Subscript_ (dQ h (fun o s₁ h₁=>dQ h₁ (fun i s₂ h₂=>?_) fun _ _ x=>x) fun _ _ x=>x);obtain⟨hT,h₂⟩:=h₂;unfold subscriptTail;refine ae ?_;rw[getitemInPython_of_ne hT.not_modules];refine ae (wpAny_specialOf hT hl ?_)
 have fin:wpAny (model prog w) A (subscripted slice false o i) (fun r s₃=>wpAny (model prog w) A (letTemporaryGo value o r>>=fun _=>pure r) Q E s₃) E s₂:=by
  rw[hs o i];exact wpAny_operating (dQ h₂ (fun r s₃ h₃=>ae (wpAny_letTemporaryGo (ar h₃))) fun _ _ x=>x)
 first
  |exact ar (ae fin)
  |exact ae (ar (ae fin))
  |exact ae fin
theorem yS{o:Option V}(I:Inv X Y M H s)(g:vi H a y o):s.TypeIs (.ref a) "dict":=by
 rcases g with⟨kvs,k,e,_,_⟩|⟨kvs,k,b,e,_,_,_⟩
 .obtain⟨_,_,vs,_,dd⟩:=vZ I.hok e
  exact dd.typeIs
 obtain⟨_,_,xs,_,dd⟩:=wg I.hok e;exact dd.typeIs
def Rj(td ty:TE):TE:=fun M H Q=>td M H fun x H1=>ty M H1 fun y H2=>∃ a v,x=.ref a/\vi H2 a y (some v)/\Q v H2
def Mz(ty td:TE):TE:=fun M H Q=>ty M H fun y H1=>td M H1 fun x H2=>∃ a o,x=.ref a/\vi H2 a y o/\Q (.bl (!o.isSome)) H2
def Rk(td ty tv:TE):TS:=fun D M H=>tv M H fun v H1=>td M H1 fun x H2=>ty M H2 fun y H3=>∃ a H4,x=.ref a/\ve H3 a y v H4/\D.nx M H4
section
variable{o i:Expr}
theorem pW(hu:X.A.units+1<cLine)(ho:PE X o td)(hi:PE X i ty)(hs:Ir i):PE X (.Subscript o i pos) (Rj td ty):=by
 intro Y s M H Q I h;refine An PySem.F.slot_dict_getitem.lookup hs (thn (ho Y s M H _ I h) fun u s1 ⟨x,H1,I1,rx,q1⟩=>thn (hi Y s1 M H1 _ I1 q1) fun iv s2 ⟨y,H2,I2,ry,a,v,ex,g,q2⟩=>?_);subst ex;obtain rfl:u=Value.ref a:=rx;exact⟨yS I2 g,Eu hu I2 g ry fun w' s3 I3 qB=>⟨v,H2,I3,qB,q2⟩⟩
theorem Ey(hu:X.A.units+1<cLine)(hi:PE X i ty)(ho:PE X o td):PC X .NotIn i o (Mz ty td):=by
 intro Y s M H Q I h;refine thn (hi Y s M H _ I h) fun iv s1 ⟨y,H1,I1,ry,q1⟩=>thn (ho Y s1 M H1 _ I1 q1) fun u s2 ⟨x,H2,I2,rx,a,ov,ex,g,q2⟩=>?_
 subst ex;obtain rfl:u=Value.ref a:=rx;exact My hu I2 g ry fun s3 I3=>⟨.bl (!ov.isSome),H2,I3,rfl,q2⟩
theorem pX(hu:X.A.units+1<cLine)(ho:PE X o td)(hi:PE X i ty)(hv:PE X value tv)(hs:swapsWith value (some (.Subscript o i pos')) pos.line X.env=pure false): PS X (.Assign [.Subscript o i pos'] value pos) (Rk td ty tv):=by
 intro Y s M H D I h;refine wpAny_Assign_Subscript (thn (hv Y s M H _ I h) fun r s1 ⟨v,H1,I1,rv,q1⟩=>thn (ho Y s1 M H1 _ I1 q1) fun u s2 ⟨x,H2,I2,rx,q2⟩=>thn (hi Y s2 M H2 _ I2 q2) fun iv s3 ⟨y,H3,I3,ry,a,H4,ex,g,q3⟩=>?_) hs;subst ex;obtain rfl:u=Value.ref a:=rx;exact Ex hu I3 g ry rv fun s4 I4=>⟨M,H4,I4,q3⟩
end
theorem wU(h:Heap)(hb:sysModules<h.objs.size):ft P w H (h.push { cls:=.type "dict",data:=.dict #[] }) h.objs.size (.dK []):=
 ⟨mi _,js.mpr (aS (bg hb)),[],.nil,Heap.DictOf.new h⟩
def Pz:TE:=fun _ H Q=>∀ p,H p=none->Q (.ref p) (upd H p (.dK []))
theorem m7:PE X (.Dict [] [] pos) Pz:=fun Y s M H Q I h =>
 wpAny_Dict_empty ⟨.ref s.heap.objs.size,_,I.laid (a:=s.heap.objs.size) (o:=.dK []) (t':=s.toks) (fun _ _ q=>Heap.get?_push_of_some _ q) (qnr _) (wU s.heap I.big),rfl,h _ (I.hok.fresh (qnr _))⟩
def wV:List (TE×TE)->St->Hp->(List (V×V)->Hp->Prop)->Prop
 |[],_,H,Q=>Q [] H
 |(tk,tv):: r,M,H,Q=>tk M H fun x H1=>tv M H1 fun y H2=>wV r M H2 fun ps H3=>Q ((x,y):: ps) H3
abbrev VV:List (V×V)->List (Value×Value)->Prop:=Paired fun p q=>RelV p.1 q.1/\RelV p.2 q.2
def VJ(X:Cx)(pos:Pos)(keys:List (Option Expr))(values:List Expr)(JO:List (TE×TE)):Prop :=
 ∀(Y:List (Addr×Obj))(s:Shared)(M:St)(H:Hp)(Q:List (V×V)->Hp->Prop),Inv X Y M H s->wV JO M H Q ->
  wpAny (model X.prog X.w) X.A (evalPairs (pairTrees keys values X.env pos)) (fun vs s'=>∃ ps J,Inv X Y M J s'/\VV ps vs/\Q ps J) X.xe s
theorem MF:VJ X pos [] [] []:=fun Y s M H Q I h=>pairTrees_nil_walk ⟨[],H,I,.nil,h⟩
theorem m8{k v:Expr}{ks:List (Option Expr)}{vs:List Expr}{tk:TE}(hk:PE X k tk)(hv:PE X v tv)(hr:VJ X pos ks vs JO): VJ X pos (some k::ks) (v::vs) ((tk,tv):: JO):=fun Y s M H Q I h =>
 pairTrees_cons_walk (thn (hk Y s M H _ I h) fun u s1 ⟨x,H1,I1,rx,q1⟩=>thn (hv Y s1 M H1 _ I1 q1) fun w2 s2 ⟨y,H2,I2,ry,q2⟩ =>
  thn (hr Y s2 M H2 _ I2 q2) fun ws s3 ⟨ps,H3,I3,rel,q3⟩=>⟨(x,y):: ps,H3,I3,.cons ⟨rx,ry⟩ rel,q3⟩)
def kJ(kvs more:List (Key×V)):List (Key×V):=more.foldl (fun acc kv=>putK acc kv.1 kv.2) kvs
theorem KV.merge:∀{more:List (Key×V)}{rs:List (Key×Value)}{kvs:List (Key×V)}{vs:List (Key×Value)},KV more rs->KV kvs vs->KV (kJ kvs more) (merged vs rs):=by
 intro more rs kvs vs r;unfold KV at r
 induction r generalizing kvs vs with
 |nil=>intro q;exact q
 | @cons p q ps qs h t ih =>
  intro r0
  have e:KV (putK kvs p.1 p.2) (stored vs q.1 q.2):=by
   have:=r0.put p.1 h.2;rw[<- h.1];exact this
  exact ih e
theorem nT:∀(more kvs:List (Key×V)),(kJ kvs more).length <= kvs.length+more.length
 |[],kvs=>by show kvs.length<=kvs.length+0;exact G
 | p::r,kvs=>by
  have h1:=nT r (putK kvs p.1 p.2);have h2:=jt kvs p.1 p.2;show(kJ (putK kvs p.1 p.2) r).length <= _;rw[ba];exact G
theorem sy{P:Program}{w:World}:∀{kvs:List (Key×V)}{ws:List (Value×Value)},VV (kvs.map fun kv=>(kV kv.1,kv.2)) ws->∃ rs,Carries (bW P w) ws rs/\KV kvs rs
 |[],_,r=>by rw[AD]at r;cases r;exact⟨[],True.intro,.nil⟩
 | p::kvs,_,r=>by
  rw[b6]at r;cases r with
  | @cons a b as bs h t =>
   obtain⟨rs,c,q⟩:=sy (P:=P) (w:=w) t;obtain⟨b1,b2⟩:=b;exact⟨(p.1,b2):: rs,⟨lH h.1,Z,c⟩,.cons ⟨Z,h.2⟩ q⟩
def Rm(JO:List (TE×TE)):TE:=fun M H Q=>∀ p,H p=none->wV JO M (upd H p (.dK [])) fun ps H2=>H2 p=some (.dK [])/\∃ kvs:List (Key×V),ps=kvs.map (fun kv=>(kV kv.1,kv.2))/\kvs.length<=15/\Q (.ref p) (upd H2 p (.dK (kJ [] kvs)))
theorem MJ{keys:List (Option Expr)}{values:List Expr}(h:VJ X pos keys values JO)(hall:keys.all (·.isSome)=true)(hl:keys.length=values.length)(h0:keys≠[])(h15:keys.length<=15):PE X (.Dict keys values pos) (Rm JO):=by
 intro Y s M H Q I q;have hn:=I.hok.fresh (qnr s.heap.objs.size);have I1:=I.laid (a:=s.heap.objs.size) (o:=.dK []) (h':=s.heap.push { cls:=.type "dict",data:=.dict #[] }) (t':=s.toks) (fun _ _ q=>Heap.get?_push_of_some _ q) (qnr _) (wU s.heap I.big);refine wpAny_Dict_walk (knd:=bW X.prog X.w) hall hl h0 h15 (thn (h Y _ M _ _ I1 (q _ hn)) fun ws s2 ⟨ps,H2,I2,rel,e,kvs,ep,lk,q2⟩=>?_);subst ep;obtain⟨rs,c,rk⟩:=sy (P:=X.prog) (w:=X.w) rel;obtain⟨z,hd,vs0,r0,dd⟩:=Lk I2.hok e;cases r0;refine⟨rs,c,dd,fun h' dd' hs=>⟨.ref s.heap.objs.size,_,?_,Z,q2⟩⟩
 have hz:(kJ [] kvs).length <= sizeLine:=by
  have h1:=nT kvs [];rw[r_]at h1;rw[sizeLine_eq];exact G
 have he:∃ q,h'.get? s.heap.objs.size=some q:=let ⟨q,_,_,hq,_⟩:=dd';⟨q,hq⟩;exact ud I2 (by rw[e];exact True.intro) hs he (Ew hz hd (rk.merge .nil) dd')
section
variable{κ:Type}[DecidableEq κ]
theorem Ao:∀{l:List κ}{k:κ},l.Nodup->¬k∈l->(l++[k]).Nodup
 |[],k,_,_=>by simp
 | a::r,k,h,hk=>by
  obtain⟨h1,h2⟩:=eW.mp h;show(a::(r++[k])).Nodup;refine eW.mpr ⟨fun m=>?_,Ao h2 fun m=>hk (ai.mpr (Or.inr m))⟩;rcases a_.mp m with q|q
  .exact h1 q
  exact hk (ai.mpr (Or.inl (aI.mp q).symm))
end
theorem qR{α β:Type}{l:List α}{f:α->β->Sem (ForInStep β)}(g:α->β->β)(c:β)(h:∀ x∈l,∀ c,f x c=pure (.yield (g x c))): forIn l c f=(pure (l.foldl (fun c x=>g x c) c):Sem β):=by
 induction l generalizing c with
 |nil=>rfl
 | cons x l ih =>
  rw[kf,h x qms,pure_bind];exact ih (g x c) fun y hy=>h y (k9 _ hy)
def fc(env:Env)(names:List (Str×NameKind)):List (Str×Addr):=
 names.foldl (fun c x=>if x.2 == .free then(x.1,(env.cells.lookup x.1).getD 0):: c else c) []
theorem vO(h:∀ y∈scope.names,y.2=.free -> ∃ c,env.cells.lookup y.1=some c):closureFor scope env=pure (fc env scope.names):=by
 unfold fc;simp only[closureFor]
 rw [qR (fun x c=>if x.2 == .free then(x.1,(env.cells.lookup x.1).getD 0):: c else c) [] (fun x hx c=>by
  obtain⟨n,kind⟩:=x
  by_cases e:kind=NameKind.free
  .subst e
   obtain⟨a,ha⟩:=h _ hx rfl;have Vh:env.cells.lookup n=some a:=ha;simp only[lp,i6,cellOf,Vh,Option.getD_some,pure_bind]
  have e':(kind==NameKind.free)=false:=by simpa using e
  simp only[e',gs,jS])]
 rfl
theorem n0{env:Env}:∀{names:List (Str×NameKind)}{acc:List (Str×Addr)}{p:Str×Addr}, p∈names.foldl (fun c x=>if x.2 == .free then(x.1,(env.cells.lookup x.1).getD 0):: c else c) acc↔p∈acc\/∃ y∈names,y.2=.free /\ p=(y.1,(env.cells.lookup y.1).getD 0)
 |[],acc,p=>by simp
 | x::r,acc,p=>by
  rw[fE,n0]
  by_cases e:x.2=NameKind.free
  .rw [qp (by simpa using e)]
   constructor
   .rintro(h|⟨y,hy,h1,h2⟩)
    .rcases ai.mp h with h|h
     .exact .inr ⟨x,qms,e,h⟩
     exact .inl h
    exact .inr ⟨y,k9 _ hy,h1,h2⟩
   rintro(h|⟨y,hy,h1,h2⟩)
   .exact .inl (k9 _ h)
   rcases ai.mp hy with rfl|hy
   .exact .inl (h2 ▸ qms)
   exact .inr ⟨y,hy,h1,h2⟩
  rw[bX (by simpa using e)]
  constructor
  .rintro(h|⟨y,hy,h1,h2⟩)
   .exact .inl h
   exact .inr ⟨y,k9 _ hy,h1,h2⟩
  rintro(h|⟨y,hy,h1,h2⟩)
  .exact .inl h
  rcases ai.mp hy with rfl|hy
  .exact absurd h1 e
  exact .inr ⟨y,hy,h1,h2⟩
theorem mem_of_lookup{β:Type}:∀{l:List (Str×β)}{x:Str}{c:β},l.lookup x=some c->(x,c)∈l
 |[],_,_,h=>by simp at h
 | (n,d):: r,x,c,h=>by
  rw[ff]at h;cases e:x==n with
  | true =>
   rw[e]at h;have e':x=n:=by simpa using e
   subst e';cases h;exact qms
  | false =>
   rw[e]at h;exact k9 _ (mem_of_lookup h)
theorem nU{β:Type}:∀{l:List (Str×β)}{x:Str}{c:β},(x,c)∈l->∃ d,l.lookup x=some d
 |[],_,_,h=>nomatch h
 | (n, d):: r,x,c,h=>by
  rw[ff];cases e:x==n with
  |true=>exact⟨d,Z⟩
  | false =>
   rcases ai.mp h with h|h
   .injection h with h1 _
    subst h1;simp at e
   exact nU h
theorem fZ{names:List (Str×NameKind)}(h:∀ y∈names,y.2=.free -> ∃ c,env.cells.lookup y.1=some c){c:Addr}(e:(fc env names).lookup x=some c):env.cells.lookup x=some c:=by
 rcases n0.mp (mem_of_lookup e)with z|⟨y,hy,h1,h2⟩
 .cases z
 obtain⟨d,hd⟩:=h y hy h1
 injection h2 with e1 e2
 subst e1;rw[hd]at e2;rw[hd,e2]
 rfl
theorem sE{names:List (Str×NameKind)}(h:(x,NameKind.free)∈names):∃ c,(fc env names).lookup x=some c :=
 nU (n0.mpr (.inr ⟨_,h,rfl,rfl⟩))
theorem mK{env:Env}:∀{names:List (Str×NameKind)}{x:Str}{k:NameKind}, (names.map fun(n,k)=>if (k==NameKind.free&&env.scope.kind == .function&&env.kindOf n==some .cell)then(n,NameKind.cell)else(n,k)).lookup x=some k -> ∃ k0,names.lookup x=some k0/\(k=k0\/(k0=.free /\ k=.cell))
 |[],_,_,h=>by simp at h
 | (n, k):: r,x,k',h=>by
  have ih:=@mK env r x k';rw[b6]at h
  by_cases hc:(k==NameKind.free&&env.scope.kind == .function&&env.kindOf n==some .cell)=true
  .dsimp only at h
   rw[qp hc,ff]at h;rw[ff];cases e:x==n with
   | true =>
    rw[e]at h;cases h;refine⟨k,Z,.inr ⟨?_,Z⟩⟩;simp only[ez,ly]at hc;exact hc.1.1
   | false =>
    rw[e]at h;exact ih h
  dsimp only at h;rw[bX hc,ff]at h;rw[ff];cases e:x==n with
  | true =>
   rw[e]at h;cases h;exact⟨k,Z,.inl rfl⟩
  | false =>
   rw[e]at h;exact ih h
theorem oJ{env:Env}:∀{names:List (Str×NameKind)}{x:Str},names.lookup x=some .free -> (names.map fun(n,k)=>if (k==NameKind.free&&env.scope.kind == .function&&env.kindOf n==some .cell)then(n,NameKind.cell)else(n,k)).lookup x=some .cell \/ (names.map fun(n,k)=>if (k==NameKind.free&&env.scope.kind == .function&&env.kindOf n==some .cell)then(n,NameKind.cell)else(n,k)).lookup x=some .free
 |[],_,h=>by simp at h
 | (n, k):: r,x,h=>by
  have ih:=@oJ env r x;rw[b6];rw[ff]at h
  by_cases hc:(k==NameKind.free&&env.scope.kind == .function&&env.kindOf n==some .cell)=true
  .dsimp only
   rw[qp hc,ff];cases e:x==n with
   |true=>exact .inl rfl
   | false =>
    rw[e]at h;exact ih h
  dsimp only;rw[bX hc,ff];cases e:x==n with
  | true =>
   rw[e]at h;cases h;exact .inr rfl
  | false =>
   rw[e]at h;exact ih h
theorem Ez{target:Expr}{it acc:Value}(I:Nat->Shared->Prop)
  (turn : ∀ n s,I n s->wpAny (model prog w) A (pyNext it) (fun r s₁=>match r with
   |none=>R (.ok .next) s₁
   | some v=>wpAny (model prog w) A (letOwnedTupleGo target it v) (fun _ Zg=>wpAny (model prog w) A (assign target env v) (fun _ s₂ =>
     wpAny (model prog w) A (forIn ifs true fun c r=>if r=true then do let ok <- isTrue c env (eval c env);pure (ForInStep.yield ok)else pure (ForInStep.yield r)) (fun ok s₃ =>
      if ok=true then wpAny (model prog w) A (eval elt env) (fun x s₄ =>
       wpAny (model prog w) A (call (.builtin "list.append") [acc,x]) (fun _ s₅=>∃ m,m<n/\I m s₅) (fun _ _=>False) s₄) (fun _ _=>False) s₃
      else ∃ m,m<n/\I m s₃) (fun _ _=>False) s₂) (fun _ _=>False) Zg) (fun _ _=>False) s₁) (fun _ _=>False) s)
  (n:Nat) (h:I n s):
  codeAny (model prog w) A (.compLoop (.ListComp elt [⟨target,iter,ifs,0⟩] scope pos) 0 it acc env) R s:=by
 refine codeAny_loop rfl I (fun n s hI=>?_) n h;show wpAny _ A ((compTurn (.ListComp elt [⟨target,iter,ifs,0⟩] scope pos) 0 it acc env).onRaise (fun x=>do noteFrame x env;theTreesLotGoes x)) _ _ s;refine wpAny_noted ?_;rw[compTurn_list];refine ae (wpAny_standAt (ae (dQ (turn n s hI) (fun r s₁ h₁=>?_) fun _ _ h'=>h'.elim)));cases r with
 |none=>exact ar h₁
 | some v =>
  refine ae (dQ h₁ (fun _ Zg h₁'=>?_) fun _ _ h'=>h'.elim);refine ae (dQ h₁' (fun _ s₂ h₂=>ae (dQ h₂ (fun ok s₃ h₃=>?_) fun _ _ h'=>h'.elim)) fun _ _ h'=>h'.elim);cases ok with
  |false=>exact ar ⟨rfl,h₃⟩
  | true =>
   exact ae (ae (dQ h₃ (fun x s₄ h₄=>ae (dQ h₄ (fun _ s₅ h₅=>ar (ar ⟨rfl,h₅⟩)) fun _ _ h'=>h'.elim)) fun _ _ h'=>h'.elim))
def Cx.t5(X:Cx)(Y:List (Addr×Obj))(scope:Scope)(cl:List (Str×Addr))(C:Addr)(N':List Str)(fp:List Addr)(s:Shared)(H:Hp):Cx :=
 { X with N:=N',s₀:=s,H₀:=H,env:=compEnvC scope cl C X.env,outer:=X.stack,ex:=fp,fn:=fun _=>false,pn:=X.pn++Y,xe:=fun _ _=>False }
def cR(ix:List (Option Nat))(M:St):St:=ix.map fun o=>o.bind fun i=>(M[i]?).join
def Ext:St->St->Prop
 |[],[]=>True
 |none::a,_::b=>Ext a b
 |some v::a,o::b=>o=some v/\Ext a b
 |_,_=>False
theorem Ext.get:∀{a b:St},Ext a b->∀(j:Nat)(v:V),a[j]?=some (some v)->b[j]?=some (some v)
 |[],[],_,j,v,h=>by simp at h
 |none::a,_::b,e,0,v,h=>by simp at h
 | none::a,_::b,e,j+1,v,h=>by
  have e:Ext a b:=e;rw[List.getElem?_cons_succ]at h ⊢;exact e.get j v h
 | some u::a,o::b,e,0,v,h=>by
  have e1:o=some u:=e.1;rw[List.getElem?_cons_zero]at h ⊢;rw[e1];exact h
 | some u::a,o::b,e,j+1,v,h=>by
  have e:Ext a b:=e.2;rw[List.getElem?_cons_succ]at h ⊢;exact e.get j v h
 |[],_::_,e,_,_,_=>e.elim
 |none::_,[],e,_,_,_=>e.elim
 |some _::_,[],e,_,_,_=>e.elim
theorem Ext.length:∀{a b:St},Ext a b->a.length=b.length
 |[],[],_=>rfl
 | none::a,_::b,e=>by
  have e:Ext a b:=e;simp[e.length]
 | some u::a,o::b,e=>by
  have e:Ext a b:=e.2;simp[e.length]
 |[],_::_,e=>e.elim
 |none::_,[],e=>e.elim
 |some _::_,[],e=>e.elim
def wj(sc:Scope)(N:List Str)(scope:Scope)(N':List Str)(ix:List (Option Nat)):Bool :=
 decide (scope.kind=.function)&&decide (∀ y∈scope.names,y.2≠.cell)&&decide (∀ y∈scope.names,y.2=.local -> scope.names.lookup y.1=some .local) &&
 decide (∀ y∈scope.names,y.2=.free -> sc.names.lookup y.1=some .cell \/ sc.names.lookup y.1=some .free)&&decide (ix.length=N'.length) &&
 ((N'.zip ix).all fun p=>p.2.all fun i=>decide (N[i]?=some p.1)&&decide (scope.names.lookup p.1=some .free))
structure qr(sc:Scope)(N:List Str)(scope:Scope)(N':List Str)(ix:List (Option Nat)):Prop where
 kind:scope.kind=.function
 DU:∀ y∈scope.names,y.2≠.cell
 names:∀ y∈scope.names,y.2=.local -> scope.names.lookup y.1=some .local
 free:∀ y∈scope.names,y.2=.free -> sc.names.lookup y.1=some .cell \/ sc.names.lookup y.1=some .free
 len:ix.length=N'.length
 at_:∀(j:Nat)(x:Str)(i:Nat),N'[j]?=some x->ix[j]?=some (some i)->N[i]?=some x/\scope.names.lookup x=some .free
theorem qr.of(h:wj sc N scope N' ix=true):qr sc N scope N' ix:=by
 unfold wj at h;simp only[ez,decide_eq_true_eq]at h;obtain⟨⟨⟨⟨⟨h1,h2⟩,h3⟩,h4⟩,h5⟩,h6⟩:=h;refine⟨h1,h2,h3,h4,h5,fun j x i e1 e2=>?_⟩
 have hz:(N'.zip ix)[j]?=some (x,some i):=by
  rw[List.getElem?_zip_eq_some];exact⟨e1,e2⟩
 have hm:(x,some i)∈N'.zip ix:=pj hz;have q:=bP.mp h6 _ hm;simp only[Option.all_some,ez,decide_eq_true_eq]at q;exact q
abbrev aL(its:List Value):Obj:={ cls:=.type "list",data:=.seq its.toArray its.length }
theorem iG(ok:X.Ok)(AW:X.env.scope=sc)(B:qr sc N scope N' ix):∀ y∈scope.names,y.2=.free -> ∃ c,X.env.cells.lookup y.1=some c:=fun y hy e=>by
 have q:=B.free y hy e;rw[<- AW]at q;exact ok.has y.1 q
theorem PB(I:Inv X Y M H s)(AW:X.env.scope=sc)(B:qr sc N scope N' ix)(hf:∀ b∈fp,iK X Y H b)(f':∀ b∈fp,b<s.heap.objs.size)(hC:s.heap.objs.size<=C): (X.t5 Y scope (fc X.env scope.names) C N' fp s H).Ok where
 mod:=I.ok.mod
 kind:=B.kind
 glob:=I.ok.glob
 blt:=I.ok.blt
 above:=hC
 inj:=fun x y c a b=>I.ok.inj x y c (fZ (iG I.ok AW B) a) (fZ (iG I.ok AW B) b)
 has := fun x h=>by
  have z:∃ k,(relabel scope X.env).names.lookup x=some k/\(k=.cell \/ k=.free):=by
   rcases h with h|h
   .exact⟨_,h,.inl rfl⟩
   exact⟨_,h,.inr rfl⟩
  obtain⟨k,hk,y3⟩:=z;obtain⟨k0,h0,h1⟩:=mK (env:=X.env) (names:=scope.names) hk;have hm:=mem_of_lookup h0
  have e:k0=.free:=by
   rcases h1 with h1|h1
   .subst h1
    rcases y3 with e|e
    .exact absurd e (B.DU _ hm)
    exact e
   exact h1.1
  subst e;exact sE hm
 N2:=fun x c h _=>by cases h
 hd:=I.ok.hd
 frames:=I.ok.frames
 OC:=.inl rfl
 Vq := fun b hb=>⟨fun e=>by
     have:=f' b hb;have e':b=C:=e;subst e'
     exact absurd (bo this hC) (cw _),fun x c e=>(hf b hb).2.2.2.2.1 x c (fZ (iG I.ok AW B) e)⟩
 bs:=I.bs
 EH:=g9 I.ok.EH I.sz
 yy:=fun b o e hb=>by
  rcases(hf b hb).2.2.2.1 with z|z
  .exact I.ok.yy b o e z
  have q:=aw (I.ok.bs b o e).1;exact absurd (bo q z) (cw _)
 Ct:=fun b hb z=>by
  rcases ai.mp (I.nV b z)with e|e
  .exact(hf b hb).2.1 e
  exact(hf b hb).2.2.1 e
 oP:=I.stack
 IM:=I.mI
theorem MK{tk:Nat}{D:Addr}(I:Inv X Y M H s)(AW:X.env.scope=sc)(hN:X.N=N)(B:qr sc N scope N' ix)(hf:∀ b∈fp,iK X Y H b)(f':∀ b∈fp,b<s.heap.objs.size)(hC:s.heap.objs.size<=C)(hD:s.heap.objs.size<=D)(O0:D≠C)(old:∀ b o,s.heap.get? b=some o->h1.get? b=some o)(pe:h1.Ns C (fun _=>none))(ho:h1.get? D=some (aL its))(e:s1 = { s with heap:=h1,toks:=tk }): Inv (X.t5 Y scope (fc X.env scope.names) C N' fp s H) [(D,aL its)] (cR ix M) H s1:=by
 subst e;have ok':=PB (C:=C) I AW B hf f' hC;have cells:=iG I.ok AW B;have fresh:∀ a,s.heap.objs.size<=a->H a=none:=fun a ha=>I.hok.fresh ha
 refine⟨ok',Z,I.bare,Un.kept old,?_,?_,fresh C hC,?_,?_,I.hok.kept old,?_⟩
 .refine ⟨_,pe,fun j x v e1 e2 hv=>?_⟩
  have e2:(cR ix M)[j]?=some (some v):=e2;unfold cR at e2;rw[kg]at e2;cases q:ix[j]? with
  |none=>rw[q]at e2;cases e2
  | some o =>
   rw[q]at e2;cases o with
   |none=>cases e2
   | some i =>
    have e3:(M[i]?).join=some v:=by simpa using e2
    have e4:M[i]?=some (some v):=by
     cases r:M[i]? with
     |none=>rw[r]at e3;cases e3
     | some o =>
      rw[r]at e3;have e3:o=some v:=e3;rw[e3]
    obtain⟨n1,n2⟩:=B.at_ j x i e1 q;have n3:=B.free _ (mem_of_lookup n2) rfl;obtain⟨m,hm,hl⟩:=I.loc
    have VQ:Uj X.env.scope x:=by
     rw[AW];exact .inr n3
    obtain⟨u,r,l⟩:=hl i x v (by rw[hN];exact n1) e4 VQ;refine⟨u,r,.inr ⟨oJ (env:=X.env) n2,?_⟩⟩;obtain⟨c,hc⟩:=sE (env:=X.env) (mem_of_lookup n2);refine⟨c,hc,?_⟩;have x_:=fZ cells hc;rcases l with⟨k,_⟩|⟨_,c',e5,o',z1,z2⟩
    .have k:X.env.scope.names.lookup x=some .local:=k
     rw[AW]at k;rcases n3 with z|z
     .rw[k]at z;cases z
     rw[k]at z;cases z
    rw[x_]at e5;cases e5;exact⟨o',old _ _ z1,z2⟩
 .intro x c e
  obtain⟨v,o,z1,z2⟩:=I.cell x c (fZ cells e);exact⟨v,o,old _ _ z1,z2⟩
 .intro x c e
  exact I.lj x c (fZ cells e)
 .intro p hp
  rcases a_.mp hp with hp|hp
  .obtain⟨p1,p2,p3,p4,p5⟩:=I.pin p hp
   refine⟨old _ _ p1,p2,fun z=>?_,fun z=>?_,p5⟩
   .have z:p.1=C:=z
    have:=aw p1;rw[z]at this;exact absurd (bo this hC) (cw _)
   rcases ai.mp (I.nV p.1 z)with e|e
   .exact p3 e
   exact p4 e
  have hp:p=(D,aL its):=aI.mp hp;subst hp;refine⟨ho,fresh D hD,O0,fun z=>?_,fun v e=>by cases e⟩
  have q:∃ o,s.heap.get? D=some o:=by
   obtain⟨_,o,z,_⟩:=I.stack.mem z;exact⟨o,z⟩
  obtain⟨o,q⟩:=q;exact absurd (bo (aw q) hD) (cw _)
 show(ix.map _).length=N'.length;rw[de];exact B.len
theorem EY{s4:Shared}{H4:Hp}{σ':St}{D:Addr}{cl:List (Str×Addr)}(I:Inv X Y M H s)(hf:∀ b∈fp,iK X Y H b)(hD:s.heap.objs.size<=D)(hC:s.heap.objs.size<=C)(aac:Inv (X.t5 Y scope cl C N' fp s H) [(D,aL its)] σ' H4 s4)(rv:Vals ys its)(hl:ys.length<=sizeLine):Inv X Y M (upd H4 D (.lst ys)) s4:=by
 have pD:=aac.pin (D,aL its) (pd _ qms);have NV:H4 D=none:=pD.2.1
 have neD:∀ b o,s.heap.get? b=some o->b≠D:=fun b o e z=>by
  have:=aw e;rw[z]at this;exact absurd (bo this hD) (cw _)
 have u:=aac.base;have u:Un (ky X.stack) fp H H4 s.heap s4.heap:=u;refine I.LB (ch:=fp) aac.os ⟨u.keep,u.slot,fun b o e n hx=>?_,u.there,fun b xs e=>?_,fun b o x e=>?_,fun b ps e=>?_⟩ ?_ aac.bare (fun b hb=>⟨(hf b hb).2.2.2.1,(hf b hb).2.1,(hf b hb).2.2.2.2.1,(hf b hb).2.2.2.2.2⟩)
 .rw[aA (neD b o e)]
  exact u.free b o e n hx
 .have q:=u.tups b xs e
  rw[aA (aD q NV)];exact q
 .have q:=u.nh b o x e
  rw[aA (aD q NV)];exact q
 .obtain⟨more,q⟩:=u.nS b ps e
  exact⟨more,by rw[aA (aD q NV)];exact q⟩
 intro b o e
 by_cases hb:b=D
 .subst hb
  rw[ao]at e;cases e;exact⟨hl,its,_,rv,pD.1⟩
 rw[aA hb]at e;exact(aac.hok b o e).stay (fun _ _ _ q=>q) (fun c q=>by rw[aA (aD q NV)];exact q) fun c xs q=>by rw[aA (aD q NV)];exact q
def Pp(X:Cx)(ifs:List Expr)(t:TT):Prop :=
 ∀(Y:List (Addr×Obj))(s:Shared)(M:St)(H:Hp)(Q:Bool->Hp->Prop),Inv X Y M H s->t M H Q ->
  wpAny (model X.prog X.w) X.A (forIn ifs true fun c r=>if r=true then do let ok <- isTrue c X.env (eval c X.env);pure (ForInStep.yield ok)else pure (ForInStep.yield r)) (TP X Y M Q) X.xe s
def Ck:TT:=fun _ H Q=>Q true H
theorem bZ:Pp X [] Ck:=fun Y s M H Q I h=>wpAny_tests_nil ⟨H,I,h⟩
theorem jf{c:Expr}{t:TT}(h:PT X c t):Pp X [c] t:=fun Y s M H Q I q=>wpAny_tests_one (h Y s M H Q I q)
def iR(aac:It)(ix:List (Option Nat))(g:TG)(tt:TT)(te:TE)(M:St)(H:Hp)(Q:VK):Prop :=
 ∃ W : Nat->Nat->List V->Hp->Prop,(∃ m,W 0 m [] H)/\∀ i m ys H,W i m ys H->ys.length<=sizeLine /\
  ((aac.stop i H/\∀ p,H p=none->Q (.ref p) (upd H p (.lst ys))) \/
  (aac.go i H/\∃ N:List V->Hp->Prop,(∀ ys' J,N ys' J->∃ m',m'<m/\W (i+1) m' ys' J) /\
   ∀ x J,aac.JI i H x J->g x (cR ix M) J fun σ2 H2=>Ext (cR ix M) σ2/\tt σ2 H2 fun ok H3=>if ok=true then te σ2 H3 fun y H4=>N (ys++[y]) H4 else N ys H3))
def Cm(wi:TI)(ix:List (Option Nat))(g:TG)(tt:TT)(te:TE):TE:=fun M H Q=>wi M H fun aac H1=>iR aac ix g tt te M H1 Q
section
variable{g:TG}
theorem Aq{use:Option (Value->Sem Unit)}{QQ:Value->Shared->Prop}{Q:VK}(hc:X.calm=true)(hi:PI X tg iter wi)(AW:X.env.scope=sc)(hN:X.N=N)(B:qr sc N scope N' ix)(hg:∀ Y cl C fp s H,PG (X.t5 Y scope cl C N' fp s H) tg g)(ht:∀ Y cl C fp s H,Pp (X.t5 Y scope cl C N' fp s H) ifs tt)(he:∀ Y cl C fp s H,PE (X.t5 Y scope cl C N' fp s H) elt te)(hs:∀ x,foldedSetIterable iter X.env x=pure x)(I:Inv X Y M H s)(h:Cm wi ix g tt te M H Q)(fin:∀(D C:Addr)(s4:Shared)(H4:Hp)(m:Str->Option Value),Inv X Y M H4 s4->Q (.ref D) H4->s4.heap.Ns C m->iK X Y H4 C -> compPost (model X.prog X.w) X.A X.xe use QQ (.ref D) C (.ok .next) s4): wpAny (model X.prog X.w) X.A (comprehension (.ListComp elt [⟨tg,iter,ifs,0⟩] scope pos) scope X.env e_ (newList []) false (eval iter X.env) use) QQ X.xe s:=by
 refine wpAny_comprehension_free (use:=use) rfl hs (vO (iG I.ok AW B)) B.kind B.names (thn (hi Y s M H _ I h) fun v s1 h1=>thn h1 fun Ws s2 h2=>?_);obtain⟨it,fp,tn,aac,H2,e,I2,T,UA,f2,W,⟨m0,w0⟩,turn⟩:=h2;subst e;refine fT (wpAny_newFunctionEnv B.DU (by intro y hy;simp at hy) (fun h₁ Nn Iy=>?_) B.kind);dsimp only at Nn Iy ⊢;generalize NU:s2.heap.push { cls:=.type "list",dict:=none,data:=.seq ([]:List Value).toArray }=G2 at Nn Iy ⊢;have hC:G2.objs.size=s2.heap.objs.size+1:=by rw[<- NU,fe]
 have NW:s2.heap.objs.size<=G2.objs.size:=by rw[hC];exact Nat.le_succ _
 have O0:s2.heap.objs.size≠G2.objs.size:=by rw[hC];exact bg (lI _)
 have old:∀ b o,s2.heap.get? b=some o->h₁.get? b=some o:=fun b o e=>Iy.extBut b o (by rw[hC];exact bg (oj (aw e))) (Heap.get?_push_of_some _ (NU ▸ Heap.get?_push_of_some _ e))
 have pw:h₁.get? s2.heap.objs.size=some (aL []):=Iy.extBut _ _ O0 (Heap.get?_push_of_some _ (NU ▸ Heap.get?_push_size _ rfl))
 have f':∀ b∈fp,b<s2.heap.objs.size:=fun b hb=>by
  obtain⟨o,e,_⟩:=T.obj _ _ UA b hb;exact aw e
 have LM:tn 0 h₁:=T.keep _ _ _ UA fun b _ o e=>old b o e
 have I1:=MK (fp:=fp) (C:=G2.objs.size) (D:=s2.heap.objs.size) (its:=[]) (h1:=h₁) (tk:=s2.toks+([]:List (Str×Value)).length) I2 AW hN B f2 f' NW (qnr _) O0 old Nn pw rfl
 have XH:∀{J:Hp}{pl:List (Addr×Obj)},(∀ b∈fp,J b=none)->(∀ p∈pl,p.1=s2.heap.objs.size)->∀ b∈fp,iK (X.t5 Y scope (fc X.env scope.names) G2.objs.size N' fp s2 H2) pl J b:=fun hn ic b hb=>by
  refine⟨hn b hb,fun z=>?_,fun z=>?_,.inl hb,fun x c e=>(f2 b hb).2.2.2.2.1 x c (fZ (iG I2.ok AW B) e),fun p hp=>?_⟩
  .have z:b=G2.objs.size:=z
   have:=f' b hb;rw[z,hC]at this;exact absurd (kH this) (cw _)
  .rcases ai.mp (I2.nV b z)with e|e
   .exact(f2 b hb).2.1 e
   exact(f2 b hb).2.2.1 e
  rcases a_.mp hp with hp|hp
  .exact(f2 b hb).2.2.2.2.2 p hp
  rw[ic p hp];exact b_ (f' b hb)
 have Nc:∀(o:Obj),∀ p∈[(s2.heap.objs.size,o)],p.1=s2.heap.objs.size:=fun o p hp=>by
  rw[aI.mp hp]
 have loop:codeAny (model X.prog X.w) X.A (.compLoop (.ListComp elt [⟨tg,iter,ifs,0⟩] scope pos) 0 (.ref it) (.ref s2.heap.objs.size) (compEnvC scope (fc X.env scope.names) G2.objs.size X.env))
   (compPost (model X.prog X.w) X.A X.xe use QQ (.ref s2.heap.objs.size) G2.objs.size) { s2 with heap:=h₁,toks:=s2.toks+([]:List (Str×Value)).length }:=by
  refine Ez (fun n s'=>∃ i ys J its,Inv (X.t5 Y scope (fc X.env scope.names) G2.objs.size N' fp s2 H2) [(s2.heap.objs.size,aL its)] (cR ix M) J s'/\Vals ys its/\tn i s'.heap/\(∀ b∈fp,J b=none)/\W i n ys J) ?_ m0
   ⟨0,[],H2,[],I1,.nil,LM,fun b hb=>(f2 b hb).1,w0⟩
  rintro n s3 ⟨i,ys,H3,its,I3,rv,PZ,TB,w3⟩;obtain⟨hl,tr⟩:=turn i n ys H3 w3;rcases tr with⟨stop,q⟩|⟨go,N,hN,step⟩
  .refine thn (T.done (X.t5 Y scope (fc X.env scope.names) G2.objs.size N' fp s2 H2) rfl rfl rfl hc i _ s3 _ H3 _ I3 (XH TB (Nc _)) PZ stop) fun r s4 ⟨hr,I4⟩=>?_
   subst hr;have I5:=EY I2 f2 (qnr _) NW I4 rv hl;obtain⟨m,hm,_⟩:=I4.loc;have NV:=(I4.pin (s2.heap.objs.size,aL its) (pd _ qms)).2.1;refine fin _ _ s4 _ m I5 (q _ NV) hm ?_;have hCn:H3 G2.objs.size=none:=I4.free;refine I2.tj NW ?_;rw[aA (aS O0)];exact hCn
  refine thn (T.item (X.t5 Y scope (fc X.env scope.names) G2.objs.size N' fp s2 H2) rfl rfl rfl hc i _ s3 _ H3 _ I3 (XH TB (Nc _)) PZ go) fun r s4 ⟨u,hr,h4⟩=>?_
  subst hr;refine thn h4 fun _ s5 ⟨x,H5,I5,r5,y5,LL,XG⟩=>?_
  have YX:=I5.pinned (XH XG (Nc _)) (T.obj _ _ LL);refine thn (hg _ _ _ _ _ _ _ s5 _ H5 x u _ YX r5 (step x H5 y5)) fun _ s6 ⟨σ6,H6,I6,ex6,q6⟩=>?_
  refine thn (ht _ _ _ _ _ _ _ s6 σ6 H6 _ I6 q6) fun ok s7 ⟨H7,I7,q7⟩=>?_
  have back:∀{s8:Shared}{H8:Hp}{its':List Value}{ys':List V},Inv (X.t5 Y scope (fc X.env scope.names) G2.objs.size N' fp s2 H2) ([(s2.heap.objs.size,aL its')]++kh fp s5.heap) σ6 H8 s8->Vals ys' its'->N ys' H8 ->
    ∃ m,m<n/\∃ i ys J its,Inv (X.t5 Y scope (fc X.env scope.names) G2.objs.size N' fp s2 H2) [(s2.heap.objs.size,aL its)] (cR ix M) J s8/\Vals ys its/\tn i s8.heap/\(∀ b∈fp,J b=none)/\W i m ys J:=fun {s8 H8 its' ys'} I8 rv8 n8=>by
   obtain⟨m',hm,w8⟩:=hN ys' H8 n8;refine⟨m',hm,i+1,ys',H8,its',(I8.weak ex6.length fun j v e=>ex6.get j v e).ow,rv8,T.keep _ _ _ LL fun b hb o e=>(I8.pin (b,o) (pd _ (pd _ (jO hb e)))).1,fun b hb=>?_,w8⟩;obtain⟨o,e,d⟩:=T.obj _ _ LL b hb;exact(I8.pin (b,o) (pd _ (pd _ (jO hb e)))).2.1
  cases ok with
  | false =>
   rw[bX ki]at q7 ⊢;exact back I7 rv q7
  | true =>
   rw[qp rfl]at q7 ⊢;refine thn (he _ _ _ _ _ _ _ s7 σ6 H7 _ I7 q7) fun yv s8 ⟨y,H8,I8,r8,q8⟩=>?_
   have pD:=I8.pin (s2.heap.objs.size,aL its) (pd _ (xi _ qms));refine append_at (hsz:=by show its.toArray.size<=sizeLine;rw[ah,<- rv.length];exact hl) pD.1 fun h9 hs9 hD9=>?_
   have e9:h9.get? s2.heap.objs.size=some (aL (its++[yv])):=by
    rw[hD9];show some ({ cls:=.type "list",data:=.seq (its.toArray.push yv) (its.length+1) }:Obj)=some { cls:=.type "list",data:=.seq (its++[yv]).toArray (its++[yv]).length };rw[af,cS,List.push_toArray]
   have I8':Inv (X.t5 Y scope (fc X.env scope.names) G2.objs.size N' fp s2 H2) (kh fp s5.heap) σ6 H8 s8:=I8.rp fun p hp=>I8.pin p (pd _ (pd _ hp))
   have UZ:∀ p∈(X.t5 Y scope (fc X.env scope.names) G2.objs.size N' fp s2 H2).pn++kh fp s5.heap,p.1≠s2.heap.objs.size:=fun p hp=>by
    rcases a_.mp hp with hp|hp
    .exact bg (aw (I2.pin p hp).1)
    exact bg (f' _ (uG hp).1)
   have I9:=I8'.turned (t':=s8.toks) (it:=s2.heap.objs.size) (fun b o hb e=>hs9.extBut b o hb e) pD.2.1 O0 (.inr (qnr _)) (fun x c e z=>by
    subst z;obtain⟨v,o,z1,z2⟩:=I8.cell x _ e;rw[pD.1]at z1;cases z1
    cases z2) UZ
   refine back (its':=its++[yv]) (ys':=ys++[y]) (I9.rp fun p hp=>?_) (rv.append (.cons r8 .nil)) q8;rcases a_.mp hp with hp|hp
   .rw[aI.mp hp]
    exact⟨e9,pD.2.1,pD.2.2.1,pD.2.2.2.1,fun v e=>by cases e⟩
   exact I9.pin p (pd _ hp)
 exact codeAny_compStart_list loop (T.self X.A 0 _ _ _ LM loop)
theorem bT(hc:X.calm=true)(N':List Str)(ix:List (Option Nat))(hi:PI X tg iter wi)(hB:wj X.env.scope X.N scope N' ix=true)
  (hg:∀ Y cl C fp s H,PG (X.t5 Y scope cl C N' fp s H) tg g) (ht:∀ Y cl C fp s H,Pp (X.t5 Y scope cl C N' fp s H) ifs tt) (he:∀ Y cl C fp s H,PE (X.t5 Y scope cl C N' fp s H) elt te)
  (hs:∀ x,foldedSetIterable iter X.env x=pure x:=by intro _;rfl):PE X (.ListComp elt [⟨tg,iter,ifs,0⟩] scope pos) (Cm wi ix g tt te):=by
 intro Y s M H Q I h;rw[eval_ListComp];refine Aq (use:=none) hc hi rfl rfl (qr.of hB) hg ht he hs I h fun D C s4 H4 m I4 q4 hm hf=>?_
 refine⟨m,hm,fun h' BY=>?_⟩;exact⟨.ref D,H4,I4.turned (t':=s4.toks) (fun b o hb e=>BY.extBut b o hb e) hf.1 hf.2.1 hf.2.2.2.1 hf.2.2.2.2.1 hf.2.2.2.2.2,Z,q4⟩
theorem iT{P1:Pos}(hc:X.calm=true)(N':List Str)(ix:List (Option Nat))(hNd:X.N.Nodup)(hxi:X.N[i]?=some x)(hx:X.env.scope.names.lookup x=some .local)(hi:PI X tg iter wi)(hB:wj X.env.scope X.N scope N' ix=true)
  (hg:∀ Y cl C fp s H,PG (X.t5 Y scope cl C N' fp s H) tg g) (ht:∀ Y cl C fp s H,Pp (X.t5 Y scope cl C N' fp s H) ifs tt) (he:∀ Y cl C fp s H,PE (X.t5 Y scope cl C N' fp s H) elt te)
  (hsw:swapsWith (.ListComp elt [⟨tg,iter,ifs,0⟩] scope pos) (some (.Name x pos')) P1.line X.env=pure true:=by rfl)
  (hs:∀ x,foldedSetIterable iter X.env x=pure x:=by intro _;rfl):PS X (.Assign [.Name x pos'] (.ListComp elt [⟨tg,iter,ifs,0⟩] scope pos) P1) (wH (Cm wi ix g tt te) (jN i)):=by
 intro Y s M H D I h;rw[exec_Assign_Name_used _ _ _ _ hsw];refine ae (wpAny_standAt (ae ?_));show wpAny _ X.A (do let _ <- comprehension (.ListComp elt [⟨tg,iter,ifs,0⟩] scope pos) scope X.env _ (newList []) false (eval iter X.env) (some (assign (.Name x pos') X.env))) _ _ s;refine ae (dQ (Aq (use:=some (assign (.Name x pos') X.env)) (QQ:=fun _ s'=>SP X Y D .next s') hc hi rfl rfl (qr.of hB) hg ht he hs I h fun Da C s4 H4 m I4 q4 hm hf=>?_) (fun _ s' hq=>ar (ar hq)) fun _ _ e=>e);show wpAny _ X.A (assign (.Name x pos') X.env (.ref Da)) _ _ _;refine wpAny_assign_Name (uF (v:=.ref Da) I4 hNd hxi (.inl hx) rfl (fun s5 I5 WJ=>?_) (.inr hx));obtain⟨a,WJ,ha⟩:=WJ
 have hCa:C≠a:=by
  rcases ha with z|z
  .rw[z];exact hf.2.1
  exact fun e=>hf.2.2.2.2.1 x a z e.symm
 refine⟨m,hm.sameBut WJ hCa,fun h' BY=>?_⟩;exact⟨_,H4,I5.turned (t':=s5.toks) (fun b o hb e=>BY.extBut b o hb e) hf.1 hf.2.1 hf.2.2.2.1 hf.2.2.2.2.1 hf.2.2.2.2.2,q4⟩
end
theorem Iu{α:Type}(xs:List α)(i k:Nat):(List.range k).filterMap (fun m=>xs[i+m]?)=(xs.drop i).take k:=by
 induction k with
 |zero=>simp
 | succ k ih =>
  rw[fA,List.filterMap_append,ih,qE,List.getElem?_drop];cases h:xs[i+k]? with
  |none=>simp[h]
  |some v=>simp[h]
theorem wk(n:Nat)(i:Int)(d:Nat):max 0 (min (if i<0 then i+(n:Int)else i) (n:Int))=((HT.fN n d (some i):Nat):Int):=by
 simp only[HT.fN]
 by_cases h:i<0
 .simp only[h,i6];exact G
 simp only[h,jS];exact G
theorem wW(a b:Nat):List.map (fun k:Nat=>((a:Int)+1*(k:Int)).toNat) (List.range (if (a:Int)<(b:Int)then((b:Int)-a+1-1)/1 else 0).toNat)=(List.range (b-a)).map fun k=>a+k:=by
 have e:(if (a:Int)<(b:Int)then((b:Int)-a+1-1)/1 else 0).toNat=b-a:=by
  split<;>exact G
 rw[e];apply eS;intro k _;exact G
theorem picked_eq(n:Nat)(lo hi:Option Int):Builtin.Str.strSliceIndices lo hi 1 n=(List.range (HT.fN n n hi-HT.fN n 0 lo)).map fun k=>HT.fN n 0 lo+k:=by
 unfold Builtin.Str.strSliceIndices sliceRange;simp only[show((1:Int)>0)=True by simp,i6];rw[<- wW];cases lo with
 | none =>
  cases hi with
  |none=>rfl
  |some j=>simp only[wk n j n];rfl
 | some i =>
  cases hi with
  |none=>simp only[wk n i 0];rfl
  |some j=>simp only[wk n i 0,wk n j n]
def dY(x:Str)(lo hi:Option Int):Str:=⟨((x.cps.toList.drop (HT.fN x.length 0 lo)).take (HT.fN x.length x.length hi-HT.fN x.length 0 lo)).toArray⟩
theorem fK(x:Str)(lo hi:Option Int):(dY x lo hi).cps.toList=(x.cps.toList.drop (HT.fN x.length 0 lo)).take (HT.fN x.length x.length hi-HT.fN x.length 0 lo):=by
 simp[dY]
theorem Ar(x:Str)(lo hi:Option Int):(dY x lo hi).length <= x.length:=by
 show(dY x lo hi).cps.size<=x.cps.size;rw[<- ax,fK,bq,cm,ax];exact G
def Sw:V->Option Int->Option Int->Hp->VK->Prop:=fun x lo hi H Q=>∃ z,x=.str z/\z.length<=sizeLine/\Q (.str (dY z lo hi)) H
theorem wX:VI X Sw:=by
 intro Y s M H x v vl vu lo hi sl Q I r hs pl pu h;obtain⟨z,rfl,hz,q⟩:=h;obtain⟨t,rfl⟩:=r
 obtain⟨l,hl,el⟩:∃ l:Option (Int×Tok),vl=partValue l/\l.map (·.1)=lo:=by
  cases pl with
  |none=>exact⟨none,Z,Z⟩
  |int i t=>exact⟨some (i,t),Z,Z⟩
 obtain⟨u,hu,eu⟩:∃ u:Option (Int×Tok),vu=partValue u/\u.map (·.1)=hi:=by
  cases pu with
  |none=>exact⟨none,Z,Z⟩
  |int i t=>exact⟨some (i,t),Z,Z⟩
 subst hl hu;refine⟨"str",_,F.slot_str_getitem.lookup,pV s z t,wpAny_getItem_str_slice (l:=l) (u:=u) (st:=none) hs rfl ?_⟩
 have ep:slicePicked z l u none=(List.range (HT.fN z.length z.length hi-HT.fN z.length 0 lo)).map fun k=>HT.fN z.length 0 lo+k:=by
  unfold slicePicked;rw[el,eu];exact picked_eq z.length lo hi
 have ec:(slicePicked z l u none).filterMap (fun i=>z.cps[i]?)=(dY z lo hi).cps.toList:=by
  rw[ep,nB,fK]
  have e2:((fun i=>z.cps[i]?) ∘ fun k=>HT.fN z.length 0 lo+k)=fun m=>z.cps.toList[HT.fN z.length 0 lo+m]?:=by
   funext m
   simp
  rw[e2];exact Iu _ _ _
 unfold sliceMade
 split
 .rename_i hw
  have hw':(slicePicked z l u none).length=z.length:=by simpa using hw
  rw[ep,de,dA]at hw'
  have e:dY z lo hi=z:=by
   have b1:HT.fN z.length z.length hi<=z.length:=HT.DM _ _ (qnr _) _
   have e1:(dY z lo hi).cps.toList=z.cps.toList:=by
    rw[fK];have lz:z.cps.toList.length=z.length:=ax
    by_cases h0:z.length=0
    .have:z.cps.toList=[]:=C0 (by rw[lz,h0])
     rw[this];simp
    have a0:HT.fN z.length 0 lo=0:=G
    have b0:HT.fN z.length z.length hi=z.length:=G
    rw[a0,b0,tI,AA,<- lz,bp]
   have e2:(dY z lo hi).cps=z.cps:=CL.mp e1;exact b4 Str.mk e2
  rw[e]at q;exact⟨.str z,H,I,⟨t,Z⟩,q⟩
 have e:(⟨((slicePicked z l u none).filterMap (fun i=>z.cps[i]?)).toArray⟩:Str)=dY z lo hi:=by
  rw[ec]
 rw[e];exact⟨g9 (Ar z lo hi) hz,.str (dY z lo hi),H,I.tok _,⟨_,Z⟩,q⟩
theorem lJ:∀{ys:List Str}{us:List Value},Vals (ys.map V.str) us->StrsAre us ys
 |[],_,h=>by cases h;exact .nil
 | y::ys,_,h=>by
  cases h with
  | cons r t =>
   obtain⟨t',rfl⟩:=r;exact .cons _ _ (lJ t)
theorem uR:∀{us:List Value}{ys:List Str},StrsAre us ys->Vals (ys.map V.str) us
 |_,_,.nil=>.nil
 |_,_,.cons x t h=>.cons ⟨t,rfl⟩ (uR h)
theorem Ln:∀{l₁:List (Key×V)}{l₂:List (Key×Value)},KV l₁ l₂->∀(j:Nat)(k:Key)(x:Value),l₂[j]?=some (k,x)->∃ v,l₁[j]?=some (k,v)
 |_,_,.nil,j,k,x,e=>by simp at e
 | p::_,_,.cons hr _,0,k,x,e=>by
  rw[List.getElem?_cons_zero]at e;have e:=kK e;subst e;have h1:p.1=k:=hr.1;exact⟨p.2,by rw[List.getElem?_cons_zero,<- h1]⟩
 | _::_,_,.cons _ t,j+1,k,x,e=>by
  rw[List.getElem?_cons_succ]at e;obtain⟨v,hv⟩:=Ln t j k x e;exact⟨v,by rw[List.getElem?_cons_succ];exact hv⟩
def PJ:List V->Hp->VK->Prop:=fun xs H Q=>∃(p:Addr)(kvs:List (Key×V))(ys:List Str),xs=[.ref p]/\H p=some (.dK kvs)/\kvs.map (·.1)=ys.map Sum.inr/\ys.length<64 /\
 ∀ l ys',H l=none->ys'.Perm ys->sortedS ys'=true->Q (.ref l) (upd H l (.lst (ys'.map V.str)))
theorem wY(hc:X.calm=true):dR X (.builtin "sorted") PJ:=by
 intro Y s M H xs us Q I r h;obtain⟨p,kvs,ys,rfl,hp,hk,hl,q⟩:=h;obtain⟨u,rfl,ru⟩:=vals1 r;cases ru;obtain⟨hz,lo,vs,rk,hD⟩:=I.hok p _ hp
 have hlk:kvs.length=ys.length:=by
  have:=b4 List.length hk
  rwa [de,de]at this
 have hlv:kvs.length=vs.length:=aT rk;obtain⟨ep,Lm⟩:=hD.dictAt;have hh:X.A.handled=none:=I.ok.hd hc;refine Calls.call_function_entry kind_sorted plain_sorted entry_sorted (args_sorted1 _) ?_;unfold Builtin.«sorted»;refine ae (m:=checkCount "sorted" 1 1 _) (ar ?_);refine ae (W.kdu_collect (A:=X.A.in1) (W.kdl_dict (knd:=bW X.prog X.w) (kvs:=vs) (ep:=ep) lo) hh Lm (g9 (by omega:vs.length<=64) b9) fun h' tk acc q_ pw=>?_);have W8:acc.toList.length=vs.length:=by rw[ax];exact pw.1
 have keys:∀(j:Nat)(kv:Key×V),kvs[j]?=some kv->∃ y,ys[j]?=some y/\kv.1=Sum.inr y:=fun j kv e=>by
  have e1:(kvs.map (·.1))[j]?=some kv.1:=by rw[kg,e];rfl
  rw[hk,kg]at e1;cases e2:ys[j]? with
  |none=>rw[e2]at e1;cases e1
  |some y=>rw[e2]at e1;exact⟨y,Z,(kK e1).symm⟩
 have RF:Vals (ys.map V.str) acc.toList:=by
  have gen:∀(us:List Value)(zs:List Str),us.length=zs.length->(∀(j:Nat) u,us[j]?=some u->∃ y t,zs[j]?=some y/\u=Value.str y t)->Vals (zs.map V.str) us:=by
   intro us
   induction us with
   | nil=>intro zs hl _;cases zs with
    |nil=>exact .nil
    |cons _ _=>simp at hl
   | cons u us ih =>
    intro zs hl h;cases zs with
    |nil=>simp at hl
    | cons z zs =>
     obtain⟨y,t,e1,e2⟩:=h 0 u rfl;rw[List.getElem?_cons_zero]at e1;cases e1;subst e2;exact .cons ⟨t,rfl⟩ (ih zs (by simpa using hl) fun j u' e=>h (j+1) u' e)
  refine gen _ _ G fun j u e=>?_
  obtain⟨k,x,e1,e2⟩:=pw.2 j u (by rw[<- Array.getElem?_toList];exact e);obtain⟨v,e3⟩:=Ln rk j k x e1;obtain⟨y,e4,e5⟩:=keys j _ e3;have e5:k=Sum.inr y:=e5;subst e5;have e2:mW (Sum.inr y) u=true:=e2;rcases cY e2 with⟨i,t,z1,_⟩|⟨y',t,z1,z2⟩
  .cases z1
  cases z1;exact⟨y,t,e4,z2⟩
 have hS:=lJ RF;refine ae (wpAny_newList ?_ (by rw[W8];exact g9 (by omega:vs.length<=64) b9));have Sj:(h'.push { cls:=.type "list",data:=.seq acc.toList.toArray }).get? h'.objs.size=some (seqObj "list" acc.toList.toArray 0):=Heap.get?_push_size _ rfl;refine ae (fz (fv slot_list_sort ⟨_,Sj,rfl⟩ entry_list_sort (list_sort_treeK strKind_oneLt Sj hS.keysOf (fun v₁ v₂ rest e=>keyKind_strs (by rw[<- e];exact hS)) G fun iA a1 a2=>⟨_,rfl,?_⟩) (args_list_sort _)));obtain⟨ys',h1,h2,h3⟩:=sorted_out_str hS a1 a2;refine ar ⟨_,rfl,?_⟩;obtain⟨e,he⟩:=sortedHeap_at (out:=(arrOf iA).map (·.2)) Sj;have I':Inv X Y M H { s with heap:=h',toks:=tk }:=I.kept (t':=tk) q_
 have old:∀ b o,h'.get? b=some o->(sortedHeap (h'.push { cls:=.type "list",data:=.seq acc.toList.toArray }) h'.objs.size acc.toList ((arrOf iA).map (·.2))).get? b=some o:=fun b o eb'=>by
  have f':=aw eb';rw[sortedHeap_old (bg f') (by rw[size_push'];exact oj f')];exact Heap.get?_push_of_some _ eb'
 refine⟨.ref h'.objs.size,_,I'.laid (o:=.lst (ys'.map V.str)) (t':=tk) old (qnr _) ⟨?_,((arrOf iA).map (·.2)).toList,e,uR h1,?_⟩,Z,q _ ys' (I'.hok.fresh (qnr _)) h2 h3⟩
 .rw[de,h2.length_eq]
  exact g9 (mB hl) b9
 rw[he]
theorem ue:∀{bs:List Bool}{us:List Value},Vals (bs.map V.bl) us->us=bs.map Value.bool
 |[],_,h=>by cases h;rfl
 | b::bs,_,h=>by
  cases h with
  | cons r t =>
   have r:_=Value.bool b:=r;rw[b6,r,ue t]
theorem range_any(bs:List Bool):(List.range bs.length).any (fun i=>bs.getD i false)=bs.any id:=by
 induction bs with
 |nil=>rfl
 | cons b r ih =>
  rw[ba,rg,eh,eh,List.any_map,<- ih]
  rfl
theorem range_all(bs:List Bool):(List.range bs.length).all (fun i=>bs.getD i false)=bs.all id:=by
 induction bs with
 |nil=>rfl
 | cons b r ih =>
  rw[ba,rg,iq,iq,rh,<- ih]
  rfl
def Sx(K:W.Frag):List V->Hp->VK->Prop:=fun xs H Q=>∃(p:Addr)(bs:List Bool),xs=[.ref p]/\b5 K H p (bs.map V.bl)/\Q (.bl (bs.any id)) H
def Sy(K:W.Frag):List V->Hp->VK->Prop:=fun xs H Q=>∃(p:Addr)(bs:List Bool),xs=[.ref p]/\b5 K H p (bs.map V.bl)/\Q (.bl (bs.all id)) H
theorem wZ(bs:List Bool):TruthOf prog w A (fun i v=>(bs.map Value.bool).toArray[i]?=some v) (fun i=>bs.getD i false):=by
 intro i v s Q E hP hQ;have hP:(bs.map Value.bool)[i]?=some v:=by simpa using hP
 rw[kg]at hP;cases e:bs[i]? with
 |none=>rw[e]at hP;cases hP
 | some b =>
  rw[e]at hP;have hP:=kK hP;subst hP;have:bs.getD i false=b:=by simp[List.getD,e]
  have hQ:Q (bs.getD i false) s:=hQ;rw[this]at hQ;exact df hQ
theorem Fb(hc:X.calm=true):dR X (.builtin "any") (Sx X.K):=by
 intro Y s M H xs us Q I r h;obtain⟨p,bs,rfl,hp,q⟩:=h;obtain⟨u,rfl,ru⟩:=vals1 r;cases ru;obtain⟨its,rv,pl,hz⟩:=I.list hp;have ei:=ue rv;subst ei
 have f':p<s.heap.objs.size:=by
  obtain⟨_,_,e,_⟩:=pl;exact aw e
 have hh:X.A.handled=none:=I.ok.hd hc;refine call_any_walk (rL pl.isList ⟨s.heap.objs.size,_,_,_,_,_,fun i=>bs.getD i false,rfl,Walks.list (A:=X.A.in1) hh s.heap.objs.size p (bg f') (bs.map Value.bool).toArray,⟨⟨_,Heap.get?_push_size _ rfl,rfl,rfl⟩,pl.isList.push _⟩,wZ bs,fun h' tk hk=>?_⟩)
 have e:(List.range (bs.map Value.bool).toArray.size).any (fun i=>bs.getD i false)=bs.any id:=by
  rw[ah,de];exact range_any bs
 rw[e];refine⟨.bl (bs.any id),H,I.kept (t':=tk) fun b o eb=>hk b o (fun hm=>?_) (Heap.get?_push_of_some _ eb),Z,q⟩;exact absurd (aw eb) (by rw[aI.mp hm];exact cw _)
theorem jC(hc:X.calm=true):dR X (.builtin "all") (Sy X.K):=by
 intro Y s M H xs us Q I r h;obtain⟨p,bs,rfl,hp,q⟩:=h;obtain⟨u,rfl,ru⟩:=vals1 r;cases ru;obtain⟨its,rv,pl,hz⟩:=I.list hp;have ei:=ue rv;subst ei
 have f':p<s.heap.objs.size:=by
  obtain⟨_,_,e,_⟩:=pl;exact aw e
 have hh:X.A.handled=none:=I.ok.hd hc;refine call_all_walk (rL pl.isList ⟨s.heap.objs.size,_,_,_,_,_,fun i=>bs.getD i false,rfl,Walks.list (A:=X.A.in1) hh s.heap.objs.size p (bg f') (bs.map Value.bool).toArray,⟨⟨_,Heap.get?_push_size _ rfl,rfl,rfl⟩,pl.isList.push _⟩,wZ bs,fun h' tk hk=>?_⟩)
 have e:(List.range (bs.map Value.bool).toArray.size).all (fun i=>bs.getD i false)=bs.all id:=by
  rw[ah,de];exact range_all bs
 rw[e];refine⟨.bl (bs.all id),H,I.kept (t':=tk) fun b o eb=>hk b o (fun hm=>?_) (Heap.get?_push_of_some _ eb),Z,q⟩;exact absurd (aw eb) (by rw[aI.mp hm];exact cw _)
def SJ:V->Option Value
 | .ty n=>some (.type n)
 | .ref a=>some (.ref a)
 |_=>none
def SM(K:W.Frag):List V->Hp->VK->Prop:=fun xs H Q=>∃ x c t cv b,xs=[x,c]/\SJ c=some cv/\px K H x t/\W.kitOne K t cv=some b/\Q (.bl b) H
theorem gb:dR X (.builtin "isinstance") (SM X.K):=by
 intro Y s M H xs us Q I r h;obtain⟨x,c,t,cv,b,rfl,hc,ty,hk,q⟩:=h;obtain⟨u,w',rfl,ru,qB⟩:=vals2 r
 have e:w'=cv:=by
  cases c with
  |ty n=>have qB:w'=Value.type n:=qB;rw[qB];exact kK hc
  |ref a=>have qB:w'=Value.ref a:=qB;rw[qB];exact kK hc
  |_=>cases hc
 subst e;exact El I ru ty hk fun tk=>⟨.bl b,H,I.tok tk,rfl,q⟩
inductive rJoin(K:W.Frag)(x:V)(vs:List V)(H:Hp)(Q:VK):Prop
 |mk(z:Str)(p:Addr)(ys:List Str)(_:x=.str z)(_:vs=[.ref p])(_:b5 K H p (ys.map V.str))(_:(ys.map (·.length)).sum+ys.length*z.length<=16777216)(_:Q (.str (Txt.join z ys)) H)
theorem mL:z4 X "str.join" (rJoin X.K):=by
 intro Y s M H x xs v us Q I rx r h;obtain⟨z,p,ys,rfl,rfl,hp,hs,q⟩:=h;obtain⟨t,rfl⟩:=rx;obtain⟨u,rfl,ru⟩:=vals1 r;cases ru;obtain⟨its,rv,pl,hz⟩:=I.list hp;exact join_list pl.isList (by simpa using lJ rv) hs fun t' k=>⟨.str _,H,I.tok k,⟨t',rfl⟩,q⟩
section
variable{g:TG}{Q:VK}
theorem jP(Pv:Nat->List V->Hp->Prop)(h0:Pv 0 [] H)(hn:n<=sizeLine)(hl:∀ i ys H,Pv i ys H->ys.length<=i)(hs:∀ i ys H,i<n->Pv i ys H->g (.int (lo+i)) (cR ix M) H fun σ2 H2=>Ext (cR ix M) σ2/\tt σ2 H2 fun ok H3=>if ok=true then te σ2 H3 fun y H4=>Pv (i+1) (ys++[y]) H4 else Pv (i+1) ys H3)(hd:∀ ys H,Pv n ys H->∀ p,H p=none->Q (.ref p) (upd H p (.lst ys))):iR (Up lo n) ix g tt te M H Q:=by
 refine⟨fun i m ys H=>m=n-i/\i<=n/\Pv i ys H,⟨n,oz,mi _,h0⟩,?_⟩;rintro i m ys H ⟨rfl,hi,p⟩;refine⟨g9 (hl _ _ _ p) (g9 hi hn),?_⟩
 by_cases f':i<n
 .refine .inr ⟨f',Pv (i+1),fun ys' J p'=>⟨n-(i+1),G,rfl,f',p'⟩,fun x J y=>?_⟩
  obtain⟨e,y⟩:=y;subst e y;exact hs i ys _ f' p
 have e:i=n:=G
 subst e;exact .inl ⟨qnr _,hd ys H p⟩
theorem cF(Pv:Nat->List V->Hp->Prop)(h0:Pv 0 [] H)(hn:xs.length<=sizeLine)(hl:∀ i ys H,Pv i ys H->ys.length<=i)(hx:∀ i ys H,Pv i ys H->b5 K H a xs)(hs:∀ i x ys H,xs[i]?=some x->Pv i ys H->g x (cR ix M) H fun σ2 H2=>Ext (cR ix M) σ2/\tt σ2 H2 fun ok H3=>if ok=true then te σ2 H3 fun y H4=>Pv (i+1) (ys++[y]) H4 else Pv (i+1) ys H3)(hd:∀ ys H,Pv xs.length ys H->∀ p,H p=none->Q (.ref p) (upd H p (.lst ys))):iR (Pw K a) ix g tt te M H Q:=by
 refine⟨fun i m ys H=>m=xs.length-i/\i<=xs.length/\Pv i ys H,⟨xs.length,oz,mi _,h0⟩,?_⟩;rintro i m ys H ⟨rfl,hi,p⟩;have q:=hx i ys H p;refine⟨g9 (hl _ _ _ p) (g9 hi hn),?_⟩
 by_cases f':i<xs.length
 .refine .inr ⟨⟨xs,xs[i],q,by simp[f']⟩,Pv (i+1),fun ys' J p'=>⟨xs.length-(i+1),G,rfl,f',p'⟩,fun x J y=>?_⟩
  obtain⟨e,y⟩:=y;subst e;exact hs i x ys _ (y xs q) p
 have e:i=xs.length:=G
 subst e;exact .inl ⟨⟨xs,q,qnr _⟩,hd ys H p⟩
theorem eY(f:Nat->V)(hn:n<=sizeLine)(hs:∀ i (R:VK),i<n->R (f i) H->Ext (cR ix M) ((cR ix M).set 0 (some (.int (lo+i))))/\te ((cR ix M).set 0 (some (.int (lo+i)))) H R)(hd:∀ p,H p=none->Q (.ref p) (upd H p (.lst ((List.range n).map f)))):iR (Up lo n) ix (jN 0) Ck te M H Q:=by
 refine jP (fun i ys J=>J=H/\ys=(List.range i).map f) ⟨rfl,rfl⟩ hn (fun i ys J ⟨_,e⟩=>by rw[e];simp) ?_ (fun ys J ⟨e1,e2⟩ p hp=>by subst e1 e2;exact hd p hp);rintro i ys J hi ⟨rfl,rfl⟩;obtain⟨h1,h2⟩:=hs i (fun y H4=>H4=J/\(List.range i).map f++[y]=(List.range (i+1)).map f) hi ⟨rfl,by rw[fA,ay];rfl⟩;exact⟨h1,h2⟩
end
theorem qU{α:Type}{xs:List α}{i:Int}{v:α}(h0:0<=i)(h:xs[i.toNat]?=some v):tw xs i=some v:=by
 have e:i=((i.toNat:Nat):Int):=G
 rw[e];exact bu h
theorem PK(x:Str){v:Int}(h:0<=v):(dY x none (some v)).cps.toList=x.cps.toList.take v.toNat:=by
 rw[fK]
 have e:HT.fN x.length x.length (some v)=min v.toNat x.length:=by
  show(if v<0 then _ else _)=_;rw[bX G]
 have e0:HT.fN x.length 0 none=0:=rfl;have lx:x.cps.toList.length=x.length:=ax;rw[e,e0,tI,AA];rcases Nat.le_total v.toNat x.length with h1|h1
 .rw[ES h1]
 rw[Nat.min_eq_right h1,<- lx,bp,fS G]
section
variable{l:Expr}{t:LG}
theorem Iv(h:X.K=K:=by rfl):Of X (QI K):=h ▸ bh
theorem iH(h:X.K=K:=by rfl):Of X (QE K):=h ▸ aJ
def Rn(K:W.Frag):List V->Hp->VK->Prop:=fun xs H Q=>∃ p ys,xs=[.ref p]/\(b5 K H p ys\/SqT K H p ys)/\Q (.int ys.length) H
theorem vP(h:X.K=K:=by rfl):dR X (.builtin "len") (Rn K):=h ▸ aX
theorem sG(h:X.K=K:=by rfl):kD X (compareOp .In) (V_ K false):=h ▸ iD
theorem jg{k:Nat}(hK:X.K=K)(hc:X.calm=true)(h:Pt X es t)
  (hn:(assignEach es X.env).length=n:=by rfl) (ia:(assignEach es X.env).findIdx? (·.1)=none:=by rfl):PG X (.Tuple es k pos) (O8 K n t):=hK ▸ jA hc h hn ia
variable{o:Expr}{ta:TA}{T id:String}{r:V->List V->Hp->VK->Prop}
theorem Fd(hK:X.K=K) (pa:PlainAttrs T) (slot:Slot T name id) (BO:typeOf (.builtin id)=pure (.type "method_descriptor")) (hm:z4 X id r) (ho:PE X o to) (ha:PA X (e::es) ta)
  (oB:attributeBase o name X.env (eval o X.env)=eval o X.env:=by rfl)
  (EB:((backTo e_ (starEach (e::es) X.env)).all (fun x=>!x.1)&&(backToKw e_ (keywordEach [] X.env)).all (fun x=>x.1.isSome)
   && decide ((e::es).length+([]:List Keyword).length+(if ([]:List Keyword).isEmpty then 0 else 1)<30))=true:=by rfl)
  (sL:(apos.endLine==e_.line)=true:=by rfl) (hs:starEach (e::es) X.env=(false,eval e X.env):: starEach es X.env:=by rfl) (sF:(backTo e_ (starEach es X.env)).any (·.1)=false:=by rfl):
  PE X (.Call (.Attribute o name apos) (e::es) [] e_) (Zf K T r to ta):=hK ▸ b8 pa slot BO hm ho ha oB EB sL hs sF
end
end L2
namespace Bt
open PySem
theorem len:bootBuiltins "len"=some (.builtin "len"):=by decide +kernel
theorem max:bootBuiltins "max"=some (.builtin "max"):=by decide +kernel
theorem min:bootBuiltins "min"=some (.builtin "min"):=by decide +kernel
theorem sum:bootBuiltins "sum"=some (.builtin "sum"):=by decide +kernel
theorem sorted:bootBuiltins "sorted"=some (.builtin "sorted"):=by decide +kernel
theorem any:bootBuiltins "any"=some (.builtin "any"):=by decide +kernel
theorem all:bootBuiltins "all"=some (.builtin "all"):=by decide +kernel
theorem isinstance:bootBuiltins "isinstance"=some (.builtin "isinstance"):=by decide +kernel
theorem int:bootBuiltins "int"=some (.type "int"):=by decide +kernel
theorem str:bootBuiltins "str"=some (.type "str"):=by decide +kernel
theorem bool:bootBuiltins "bool"=some (.type "bool"):=by decide +kernel
theorem list:bootBuiltins "list"=some (.type "list"):=by decide +kernel
theorem tuple:bootBuiltins "tuple"=some (.type "tuple"):=by decide +kernel
theorem zip:bootBuiltins "zip"=some (.type "zip"):=by decide +kernel
theorem enumerate:bootBuiltins "enumerate"=some (.type "enumerate"):=by decide +kernel
end Bt
namespace L2
open PySem PySem.Spec PyProof.Rows
section
variable{k:Nat}{E:XK}{o:Expr}{t:TA}{id T:String}{r:List V->Hp->VK->Prop}
theorem O(i:Nat) (hN:X.N[i]?=some x:=by kernel_rfl) (hv:X.env.scope.names.lookup x=some .local:=by kernel_rfl) (hd:(x==("__debug__":Str))=false:=by kernel_rfl) (y6:(x==("__classdict__":Str))=false:=by kernel_rfl):
  PE X (.Name x pos) (Fs i):=wG hN (.inl hv) hd y6
theorem ko(i:Nat) (hN:X.N[i]?=some x:=by kernel_rfl) (hv:X.env.scope.names.lookup x=some .cell:=by kernel_rfl) (hd:(x==("__debug__":Str))=false:=by kernel_rfl) (y6:(x==("__classdict__":Str))=false:=by kernel_rfl):
  PE X (.Name x pos) (Fs i):=wG hN (.inr (.inl hv)) hd y6
theorem iP(i:Nat)(hN:X.N.Nodup)(hi:X.N[i]?=some x:=by kernel_rfl)(hx:X.env.scope.names.lookup x=some .local:=by kernel_rfl):PG X (.Name x pos) (jN i):=pO hN hi (.inl hx) (.inr hx)
theorem pgc(i:Nat)(hN:X.N.Nodup)(hi:X.N[i]?=some x:=by kernel_rfl)(hx:X.env.scope.names.lookup x=some .cell:=by kernel_rfl)(hf:X.fn x=true:=by kernel_rfl):PG X (.Name x pos) (jN i):=pO hN hi (.inr hx) (.inl hf)
theorem fR(i:Nat)(hN:X.N.Nodup)(he:PE X e te)(hi:X.N[i]?=some x:=by kernel_rfl)(hx:X.env.scope.names.lookup x=some .local:=by kernel_rfl)(hs:swapsWith e (some (.Name x pos')) pos.line X.env=pure false:=by rfl):
  PS X (.Assign [.Name x pos'] e pos) (wH te (jN i)):=iJ hN hi (.inl hx) he hs (.inr hx)
theorem He(i:Nat)(hN:X.N.Nodup)(he:PE X e te)(hi:X.N[i]?=some x:=by kernel_rfl)(hx:X.env.scope.names.lookup x=some .cell:=by kernel_rfl)(hf:X.fn x=true:=by kernel_rfl)(hs:swapsWith e (some (.Name x pos')) pos.line X.env=pure false:=by kernel_rfl):
  PS X (.Assign [.Name x pos'] e pos) (wH te (jN i)):=iJ hN hi (.inr hx) he hs (.inl hf)
theorem pal(i:Nat){op:Operator}(hN:X.N.Nodup)(he:PE X e te)(ho:YV X op ti)(hi:X.N[i]?=some x:=by kernel_rfl)(hx:X.env.scope.names.lookup x=some .local:=by kernel_rfl):
  PS X (.AugAssign (.Name x pos') op e pos) (Pb i te ti):=Ed hN hi (.inl hx) he ho (.inr hx)
theorem Ro(F:g7 X.prog X.w X.K X.mg X.base CX k f fd ps sp)(hr:fI k X.A)(hm:X.mg x=some (.ref f))(hk:W.keepIn X.K (.ref f)=true)(hb:Binds X.K fd ps [])(hx:eN CX X E)(ha:PA X (e::es) t)
  (hg:X.env.scope.names.lookup x=some .globalImplicit:=by kernel_rfl) (mf:(x==("__debug__":Str))=false:=by kernel_rfl) (he:starEach (e::es) X.env=(false,eval e X.env):: starEach es X.env:=by rfl) (ic:(backTo pos (starEach es X.env)).any (·.1)=false:=by rfl):
  PE X (.Call (.Name x p) (e::es) [] pos) (Cd sp [] E t):=pU F hr hg hm hk hb .nil hx ha mf he ic
theorem aZ(hc:dR X (.builtin id) r) (hm:X.mg x=none) (hv:bootBuiltins x=some (.builtin id)) (ha:PA X (e::es) t) (hg:X.env.scope.names.lookup x=some .globalImplicit:=by kernel_rfl) (hn:(x==("__name__":Str))=false:=by kernel_rfl) (mf:(x==("__debug__":Str))=false:=by kernel_rfl)
  (he:starEach (e::es) X.env=(false,eval e X.env):: starEach es X.env:=by rfl) (ic:(backTo pos (starEach es X.env)).any (·.1)=false:=by rfl):PE X (.Call (.Name x p) (e::es) [] pos) (Ux r t):=wN hc hg hm hv ha (by simpa using hn) mf he ic
theorem dG(hc:dR X (.type T) r) (hm:X.mg x=none) (hv:bootBuiltins x=some (.type T)) (ha:PA X (e::es) t) (hg:X.env.scope.names.lookup x=some .globalImplicit:=by kernel_rfl) (hn:(x==("__name__":Str))=false:=by kernel_rfl) (mf:(x==("__debug__":Str))=false:=by kernel_rfl)
  (he:starEach (e::es) X.env=(false,eval e X.env):: starEach es X.env:=by rfl) (ic:(backTo pos (starEach es X.env)).any (·.1)=false:=by rfl):PE X (.Call (.Name x p) (e::es) [] pos) (Ux r t):=uN hc hg hm hv ha (by simpa using hn) mf he ic
theorem jQ(hm:X.mg x=none) (hv:bootBuiltins x=some u) (hr:RelV v u) (hg:X.env.scope.names.lookup x=some .globalImplicit:=by kernel_rfl) (hn:(x==("__name__":Str))=false:=by kernel_rfl) (mf:(x==("__debug__":Str))=false:=by kernel_rfl):
  PE X (.Name x pos) (tC v):=Mh hg hm hv hr (by simpa using hn) mf
theorem fG(hm:X.mg x=some u) (hr:RelV v u) (hg:X.env.scope.names.lookup x=some .globalImplicit:=by kernel_rfl) (mf:(x==("__debug__":Str))=false:=by kernel_rfl):PE X (.Name x pos) (tC v):=Mg hg hm hr mf
theorem gK{a:Expr} (hm:X.mg "range"=none) (ha:PA X [a] t) (hg:X.env.scope.names.lookup ("range":Str)=some .globalImplicit:=by kernel_rfl) (hs:starEach [a] X.env=[(false,eval a X.env)]:=by rfl):PI X tg (.Call (.Name "range" p) [a] [] pos) (Lh t):=Eg hg hm ha hs
end
structure VN(P:Program)(w:World)(outer:List Env)(H J:Hp)(s s':Shared)(a C:Addr):Prop where
 os:s'.os=s.os
 bare:AllBare s'.gens
 un:Un (ky outer) [] H J s.heap s'.heap
 hok:mS P w J s'.heap
 free:J a=none
 fl:∃(B:Heap)(a0:Value),Heap.FlyingW B outer a (.ref C) a0 s'.heap/\(∀ b o,s.heap.get? b=some o->H b=none->b∉ky outer->B.get? b=some o)/\(∀ b o,s.heap.get? b=some o->b∉ky outer->∃ o',B.get? b=some o')/\∀ b,J b≠none->∃ o,s'.heap.get? b=some o/\B.get? b=some o
def o_(P:Program)(w:World):xD:=fun outer H s E e s'=>∃ a C J,e=.ref a/\VN P w outer H J s s' a C/\E (.ref C) none J
theorem uT(x:mS P w H h)(e:H b≠none):∃ o,h.get? b=some o:=by
 cases q:H b with
 |none=>exact absurd q e
 | some u =>
  have z:=x b u q;cases u with
  |lst xs=>obtain⟨_,_,_,_,e⟩:=z;exact⟨_,e⟩
  |tup xs=>obtain⟨_,_,_,o,e,_⟩:=z;exact⟨_,e⟩
  |dK kvs=>obtain⟨_,_,_,_,o,_,_,e,_⟩:=z;exact⟨_,e⟩
  |dT kvs=>obtain⟨_,_,_,_,o,_,_,e,_⟩:=z;exact⟨_,e⟩
  |set S n=>obtain⟨o,_,_,_,e,_⟩:=z;exact⟨_,e⟩
  |ins C dx fs=>obtain⟨_,_,_,e,_⟩:=z;exact⟨_,e⟩
  |own y=>obtain⟨_,e⟩:=z;exact⟨_,e⟩
  |xd fs=>obtain⟨_,⟨_,_,_,e,_⟩,_⟩:=z;exact⟨_,e⟩
  |vT lo hi=>obtain⟨_,_,_,e⟩:=z;exact⟨_,e⟩
  |xA ob v=>obtain⟨e,_⟩:=z;exact⟨_,e⟩
  | EV ps =>
   have z:h.get? b=some _:=z;exact⟨_,z⟩
  | met f y =>
   have z:h.get? b=some _:=z;exact⟨_,z⟩
  |ext φ=>obtain⟨_,⟨_,e⟩,_⟩:=z;exact⟨_,e⟩
theorem xf{fr:List Addr}{H0:Hp}{h0:Heap}(u:Un fr [] H0 H1 h0 h1)(keep:∀ b o,h1.get? b=some o->H1 b=none->b∉fr->h0.get? b=some o->h2.get? b=some o)(slot:∀ b o,h1.get? b=some o->H1 b=none->b∈fr->∃ sl,h2.get? b=some { o with slots:=sl })(free:∀ b,H1 b=none->(∃ o,h1.get? b=some o)->H2 b=none)(there:∀ b o,h0.get? b=some o->∃ o',h2.get? b=some o')(tups:∀ b xs,H1 b=some (.tup xs)->H2 b=some (.tup xs))(nh:∀ b o x,H1 b=some (.xA o x)->H2 b=some (.xA o x))(nS:∀ b ps,H1 b=some (.EV ps)->∃ more,H2 b=some (.EV (ps++more))):Un fr [] H0 H2 h0 h2 where
 keep:=fun b o e n hb hx=>keep b o (u.keep b o e n hb hx) (u.free b o e n hx) hb e
 slot:=fun b o e n hb hx=>by
  obtain⟨sl,e1⟩:=u.slot b o e n hb hx;obtain⟨Mb,e2⟩:=slot b _ e1 (u.free b o e n hx) hb;exact⟨Mb,e2⟩
 free:=fun b o e n hx=>by
  obtain⟨o',e1⟩:=u.there b o e hx;exact free b (u.free b o e n hx) ⟨o',e1⟩
 there:=fun b o e hx=>there b o e
 tups:=fun b xs e=>tups b xs (u.tups b xs e)
 nh:=fun b o x e=>nh b o x (u.nh b o x e)
 nS:=fun b ps e=>by
  obtain⟨m1,e1⟩:=u.nS b ps e;obtain⟨m2,e2⟩:=nS b _ e1;exact⟨m1++m2,by rw[e2,Array.append_assoc]⟩
section
variable{E:XK}
theorem Iw{e:Addr}{vs:List Value}{Q:Unit->Shared->Prop}(I:Inv (cg CX P w K mg base N qual scope f cd A outer s H E) Y M H1 s1)(hx:Heap.MadeExcOf s1.heap h' e (.ref C) vs)(hQ:∀ h2,VN P w outer H H1 s { s1 with heap:=h2 } e C->Q () { s1 with heap:=h2 }): wpAny (model P w) (cg CX P w K mg base N qual scope f cd A outer s H E).A (leaving (cg CX P w K mg base N qual scope f cd A outer s H E).env (.ref e)) Q EE { s1 with heap:=h' }:=by
 have fm:∀ b∈ky (cg CX P w K mg base N qual scope f cd A outer s H E).stack,s1.heap.get? b≠none:=fun b hb=>by
  obtain⟨_,o,ho,_⟩:=I.stack.mem hb;rw[ho];exact fun z=>by cases z
 have UO:∀ b o,s1.heap.get? b=some o->b∉ky (cg CX P w K mg base N qual scope f cd A outer s H E).stack -> (W.hideAll s1.heap (ky (cg CX P w K mg base N qual scope f cd A outer s H E).stack)).get? b=some o:=fun b o e hb=>W.hideAll_get _ e hb
 have hl:s1.heap.FunFrames (W.hideAll s1.heap (ky (cg CX P w K mg base N qual scope f cd A outer s H E).stack)) (cg CX P w K mg base N qual scope f cd A outer s H E).stack :=
  W.funFrames_hide I.stack fun env he b hb=>gi.mpr ⟨env,he,hb⟩
 refine wpAny_leaves_madeW (base:=W.hideAll s1.heap (ky (cg CX P w K mg base N qual scope f cd A outer s H E).stack)) (h:=s1.heap) I.ok.frames rfl (fun b o q=>W.of_hideAll _ q) hl hx fun h2 t fl tup hnt xt=>hQ h2 ?_
 have keepB:∀ b o,s1.heap.get? b=some o->b∉ky (cg CX P w K mg base N qual scope f cd A outer s H E).stack -> h2.get? b=some o:=fun b o e hb=>fl.1 b o (UO b o e hb)
 have below:∀ b o,s.heap.get? b=some o->b∉ky outer->b∉ky (cg CX P w K mg base N qual scope f cd A outer s H E).stack:=fun b o e hb z=>by
  rcases ai.mp (I.nV b z)with q|q
  .have h1:=aw e
   rw[q]at h1;exact absurd (bo h1 I.ok.above) (cw _)
  exact hb q
 have Lv:∀ b∈ky (cg CX P w K mg base N qual scope f cd A outer s H E).stack,∀ o,s1.heap.get? b=some o->∃ sl,h2.get? b=some { o with slots:=sl }:=fun b hb o e=>by
  obtain⟨_,o',ho,hd⟩:=I.stack.mem hb;rw[e]at ho;cases ho;exact xt b o (hx.keeps b o e) hd
 have sub:∀ b∈ky outer,b∈ky (cg CX P w K mg base N qual scope f cd A outer s H E).stack:=fun b hb=>by
  show b∈ky (_::outer);unfold ky at hb ⊢;obtain⟨env,he,hf⟩:=gi.mp hb;exact gi.mpr ⟨env,k9 _ he,hf⟩
 have Fn:∀ b,H1 b≠none->∃ o,h2.get? b=some o/\(W.hideAll s1.heap (ky (cg CX P w K mg base N qual scope f cd A outer s H E).stack)).get? b=some o:=fun b hb=>by
  obtain⟨o,ho⟩:=uT I.hok hb;have nb:b∉ky (cg CX P w K mg base N qual scope f cd A outer s H E).stack:=fun z=>hb (I.mI b z)
  exact⟨o,keepB b o ho nb,UO b o ho nb⟩
 refine⟨I.os,I.bare,xf I.base (fun b o e _ hb e0=>keepB b o e (below b o e0 hb)) (fun b o e _ hb=>Lv b (sub b hb) o e) (fun b n _=>n) (fun b o e=>?_) (fun _ _ q=>q) (fun _ _ _ q=>q) (fun b ps q=>⟨#[],by rw[q];simp⟩),fun b o q=>?_,?_,_,_,fl,fun b o e n hb=>?_,fun b o e hb=>?_,Fn⟩
 .obtain⟨o',e1⟩:=I.base.there b o e (by show b∉[];simp)
  by_cases hb:b∈ky (cg CX P w K mg base N qual scope f cd A outer s H E).stack
  .obtain⟨sl,e2⟩:=Lv b hb o' e1
   exact⟨_,e2⟩
  exact⟨o',keepB b o' e1 hb⟩
 .refine(I.hok b o q).stay (fun c u hc e=>?_) (fun _ z=>z) fun _ _ z=>z
  have x_:H1 c≠none:=by
   rcases hc with rfl|hc
   .rw[q];exact fun z=>by cases z
   rw[hc];exact fun z=>by cases z
  exact keepB c u e fun z=>x_ (I.mI c z)
 .cases q:H1 e with
  |none=>rfl
  | some u =>
   obtain⟨o,ho⟩:=uT I.hok (b:=e) (by rw[q];exact fun z=>by cases z);rw[hx.new]at ho;cases ho
 .have e1:=I.base.keep b o e n hb (by show b∉[];simp)
  exact UO b o e1 (below b o e hb)
 obtain⟨o',e1⟩:=I.base.there b o e (by show b∉[];simp);exact⟨o',UO b o' e1 (below b o e hb)⟩
theorem PL{e:Addr}{Q:Unit->Shared->Prop}(I:Inv (cg CX P w K mg base N qual scope f cd A outer s H E) Y M H1 s1)(F:VN P w (cg CX P w K mg base N qual scope f cd A outer s H E).stack H1 H2 s1 s2 e C)(hQ:∀ h2,VN P w outer H H2 s { s2 with heap:=h2 } e C->Q () { s2 with heap:=h2 }): wpAny (model P w) (cg CX P w K mg base N qual scope f cd A outer s H E).A (leaving (cg CX P w K mg base N qual scope f cd A outer s H E).env (.ref e)) Q EE s2:=by
 obtain⟨O_,tT,s_,Cs,LA,B,a0,K_,ia,H_,BQ⟩:=F;refine wpAny_leaves_onW I.ok.frames rfl K_ fun h2 fl xt=>hQ h2 ?_
 have below:∀ b o,s.heap.get? b=some o->b∉ky outer->b∉ky (cg CX P w K mg base N qual scope f cd A outer s H E).stack:=fun b o e hb z=>by
  rcases ai.mp (I.nV b z)with q|q
  .have h1:=aw e
   rw[q]at h1;exact absurd (bo h1 I.ok.above) (cw _)
  exact hb q
 have sub:∀ b∈ky outer,b∈ky (cg CX P w K mg base N qual scope f cd A outer s H E).stack:=fun b hb=>by
  show b∈ky (_::outer);unfold ky at hb ⊢;obtain⟨env,he,hf⟩:=gi.mp hb;exact gi.mpr ⟨env,k9 _ he,hf⟩
 have Lv:∀ b∈ky (cg CX P w K mg base N qual scope f cd A outer s H E).stack,∀ o,s1.heap.get? b=some o->∃ sl,h2.get? b=some { o with slots:=sl }:=fun b hb o e=>by
  obtain⟨sl,e1⟩:=s_.slot b o e (I.mI b hb) hb oz;obtain⟨_,o',ho,hd⟩:=I.stack.mem hb;rw[e]at ho;cases ho;obtain⟨Mb,e2⟩:=xt b _ e1 hd;exact⟨Mb,e2⟩
 have keepB:∀ b o,s1.heap.get? b=some o->H1 b=none->b∉ky (cg CX P w K mg base N qual scope f cd A outer s H E).stack -> h2.get? b=some o:=fun b o e n hb=>fl.1 b o (ia b o e n hb)
 have Fn:∀ b,H2 b≠none->∃ o,s2.heap.get? b=some o/\h2.get? b=some o/\B.get? b=some o:=fun b hb=>by
  obtain⟨o,e1,e2⟩:=BQ b hb;exact⟨o,e1,fl.1 b o e2,e2⟩
 refine⟨O_.trans I.os,tT,xf I.base (fun b o e n hb e0=>keepB b o e n (below b o e0 hb)) (fun b o e _ hb=>Lv b (sub b hb) o e) (fun b n ⟨o,e⟩=>s_.free b o e n oz) (fun b o e=>?_) (fun b xs q=>s_.tups b xs q) (fun b o x q=>s_.nh b o x q) (fun b ps q=>s_.nS b ps q),fun b o q=>?_,LA,B,a0,fl,fun b o e n hb=>?_,fun b o e hb=>?_,fun b hb=>?_⟩
 .obtain⟨o',e1⟩:=I.base.there b o e (by show b∉[];simp)
  by_cases hb:b∈ky (cg CX P w K mg base N qual scope f cd A outer s H E).stack
  .obtain⟨sl,e2⟩:=Lv b hb o' e1
   exact⟨_,e2⟩
  obtain⟨o2,e2⟩:=H_ b o' e1 hb;exact⟨o2,fl.1 b o2 e2⟩
 .refine(Cs b o q).stay (fun c u hc e=>?_) (fun _ z=>z) fun _ _ z=>z
  have x_:H2 c≠none:=by
   rcases hc with rfl|hc
   .rw[q];exact fun z=>by cases z
   rw[hc];exact fun z=>by cases z
  obtain⟨o',e1,e2,_⟩:=Fn c x_;have e:s2.heap.get? c=some u:=e;rw[e1]at e;cases e;exact e2
 .have e1:=I.base.keep b o e n hb (by show b∉[];simp)
  exact ia b o e1 (I.base.free b o e n (by show b∉[];simp)) (below b o e hb)
 .obtain⟨o',e1⟩:=I.base.there b o e (by show b∉[];simp)
  exact H_ b o' e1 (below b o e hb)
 obtain⟨o,_,e2,e3⟩:=Fn b hb;exact⟨o,e2,e3⟩
end
def Raises(X:Cx)(E:XK):Prop:=∀(Y:List (Addr×Obj))(M:St)(H:Hp)(s:Shared)(h':Heap)(e C:Addr)(vs:List Value),Inv X Y M H s->Heap.MadeExcOf s.heap h' e (.ref C) vs->E (.ref C) none H->X.xe (.ref e) { s with heap:=h' }
section
variable{E:XK}
theorem dU:Raises (cg (o_ P w) P w K mg base N qual scope f cd A outer s H E) E:=fun Y M H1 s1 h' e C vs I hx q=>Iw I hx fun h2 F=>⟨e,C,H1,rfl,F,q⟩
theorem bH:eN (o_ P w) (cg (o_ P w) P w K mg base N qual scope f cd A outer s H E) E:=fun Y M H1 s1 e s2 I ⟨a,C,H2,ea,F,q⟩=>by
 subst ea;exact PL I F fun h2 F2=>⟨a,C,H2,rfl,F2,q⟩
theorem kR:PassesOwn (model (cg (o_ P w) P w K mg base N qual scope f cd A outer s H E).prog (cg (o_ P w) P w K mg base N qual scope f cd A outer s H E).w) (cg (o_ P w) P w K mg base N qual scope f cd A outer s H E).A (cg (o_ P w) P w K mg base N qual scope f cd A outer s H E).env (cg (o_ P w) P w K mg base N qual scope f cd A outer s H E).xe :=
 PassesOwn.leaving
end
theorem aH:eN (o_ P w) X E0:=fun _ _ _ _ _ _ _ ⟨_,_,_,_,_,q⟩=>q.elim
theorem CD.xl{k:Nat}(F:CD K x qual st f fd)(S:ck N ps (aP st))(len:∀ vs H Q E,sp vs H Q E->vs.length=ps.length)(sM:∀(ja:Value)(A:Around)(outer:List Env)(s:Shared)(H:Hp)(vs:List V)(Q:VK)(E:XK),fI k (A.deeper (envOfC qual (aP st) s.heap.objs.size f ja))->sp vs H Q E -> ∃ t,y9 (cg (o_ P w) P w K mg base N qual (aP st) f ja A outer s H E) (eX st) t/\t { nx:=fun _ J=>Q .non J,rt:=Q } (start N vs) H):g7 P w K mg base (o_ P w) (k+1) f fd ps sp:=by
 obtain⟨oc,od,kV,doc,pm,an,ja,ct,MG,rfl,lk,y6⟩:=F.ex;exact Rc lk y6 S len fun A outer s H vs Q E hr E6=>sM ja A outer s H vs Q E hr E6
theorem CD.QO{k:Nat}(F:CD K x qual st f fd)(S:ck N ps (aP st))(sM:∀(ja:Value)(A:Around)(outer:List Env)(s:Shared)(H:Hp)(vs:List V)(Q:VK)(E:XK),fI k (A.deeper (envOfC qual (aP st) s.heap.objs.size f ja))->sp vs H Q E ->
   ∃ t,y9 (cg (o_ P w) P w K mg base N qual (aP st) f ja A outer s H E) (eX st) t/\t { nx:=fun _ J=>Q .non J,rt:=Q } (start N vs) H) (len:∀ vs H Q E,sp vs H Q E->vs.length=ps.length:=by intro _ _ _ _ h;cases h;subst_vars;rfl):g7 P w K mg base (o_ P w) (k+1) f fd ps sp:=F.xl S len sM
theorem CD.fq{k:Nat}(F:CD K x qual st f fd)(S:ck N ps (aP st))(sM:N.Nodup->∀(ja:Value)(A:Around)(outer:List Env)(s:Shared)(H:Hp)(vs:List V)(Q:VK)(E:XK),fI k (A.deeper (envOfC qual (aP st) s.heap.objs.size f ja))->sp vs H Q E ->
   ∃ t,y9 (cg (o_ P w) P w K mg base N qual (aP st) f ja A outer s H E) (eX st) t/\t { nx:=fun _ J=>Q .non J,rt:=Q } (start N vs) H) (len:∀ vs H Q E,sp vs H Q E->vs.length=ps.length:=by intro _ _ _ _ h;cases h;subst_vars;rfl):g7 P w K mg base (o_ P w) (k+1) f fd ps sp:=F.QO S (sM S.nd) len
abbrev u7:List Value:=[.type "ValueError",.type "Exception",.type "BaseException",.type "object"]
theorem MN{bmB:List Value}(X:K.In h)(q:W.excIn K C bmB newId=true): ∃ bm N nm qn bs hdct sn sub ab col dd k0 k1 k2 k3 k5 mN,h.get? C=some (excClassObj nm qn C N bs bm hdct sn sub ab col dd k0 k1 k2 k3 k5 newId)/\h.Ns N mN/\mN "__init__"=none/\OwnTail h bmB bm:=by
 unfold W.excIn at q
 split at q
 .rename_i dd cd sl ho
  split at q
  .rename_i C' bm k0 k1 k2 k3 n k5 hm hs
   simp only[ez,ly,Bool.not_eq_true']at q;obtain⟨⟨⟨⟨⟨e1,e2⟩,EC⟩,ht⟩,hok⟩,U8⟩:=q;subst e1 e2;obtain⟨nm,bs,mro,ns,qn,hd,sn,sub,ab,col,del⟩:=cd;dsimp only at hm EC hok U8;subst hm EC
   have hsl:sl = #[k0,k1,k2,k3,some (.builtin n),k5]:=by
    obtain⟨l⟩:=sl;simp only at hs;rw[hs]
   subst hsl;exact⟨bm,ns,nm,qn,bs,hd,sn,sub,ab,col,dd,k0,k1,k2,k3,k5,_,X _ _ ho,.of_isNs (W.isNs_of_in X hok),W.nsMap_none_of_in X hok U8,W.tail_of_in X ht⟩
  cases q
 cases q
def PN(C:Addr)(E:XK)(t:TA):TS:=fun _ M H=>t M H fun vs H1=>vs.length<=sizeLine/\E (.ref C) none H1
section
variable{E:XK}{np:Pos}{t:TA}
theorem c7(hR:Raises X E) (hc:X.calm=true) (hm:X.mg x=some (.ref C)) (q:W.excIn X.K C u7 "ValueError.__new__"=true) (ha:PA X (e::es) t)
  (hg:X.env.scope.names.lookup x=some .globalImplicit:=by kernel_rfl) (mf:(x==("__debug__":Str))=false:=by kernel_rfl)
  (he:starEach (e::es) X.env=(false,eval e X.env):: starEach es X.env:=by rfl) (ic:(backTo e_ (starEach es X.env)).any (·.1)=false:=by rfl):
  PS X (.Raise (some (.Call (.Name x np) (e::es) [] e_)) none pos) (PN C E t):=by
 intro Y s M H D I h;obtain⟨tl,N,nm,qn,bs,hdct,sn,sub,ab,col,dd,k0,k1,k2,k3,k5,mN,hC,hN,U8,T⟩:=MN I.mod.Kk q
 refine wpAny_Raise_call_subT (C:=C) (nm:=nm) (q:=qn) (N:=N) (bs:=bs) (bm:=tl) (hdct:=hdct) (sn:=sn) (sub:=sub) (ab:=ab) (col:=col) (dd:=dd) (k0:=k0) (k1:=k1) (k2:=k2) (k3:=k3) (k5:=k5)
  PySem.F.excBase_ValueError (mN:=mN) (T.hasType PySem.F.excBase_ValueError.hasBase) (I.ok.hd hc) (by rw[he];show(false||(backTo e_ (starEach es X.env)).any (·.1))=false;rw[ic];rfl) U8 (je I hg hm ⟨rfl,?_⟩ mf)
 have Vh:=ha e_ Y s M H _ I h;rw[he]at Vh ⊢;refine AH (dQ Vh (fun us s2 h2=>?_) fun _ _ y=>y);obtain⟨vs,H2,I2,rv,hl,hE⟩:=h2;refine⟨Z,by rw[<- rv.length];exact hl,I2.bk _ _ hC,hN.keeps I2.bk,T.keeps I2.bk,fun h' e' hx=>hR Y M H2 s2 h' e' C us I2 hx hE⟩
end
def XP(X:Cx)(Y:List (Addr×Obj))(M:St)(EX:XK):Value->Shared->Prop:=fun e s'=>∃ H1 s1,Inv X Y M H1 s1/\o_ X.prog X.w X.stack H1 s1 EX e s'
abbrev Pm:=St->Hp->VK->XK->Prop
abbrev N9:=Ends->XK->St->Hp->Prop
def Ul(X:Cx)(e:Expr)(t:Pm):Prop :=
 ∀(Y:List (Addr×Obj))(s:Shared)(M:St)(H:Hp)(Q:VK)(EX:XK),Inv X Y M H s->t M H Q EX->wpAny (model X.prog X.w) X.A (eval e X.env) (EP X Y M Q) (XP X Y M EX) s
def YU(X:Cx)(st:Stmt)(t:N9):Prop :=
 ∀(Y:List (Addr×Obj))(s:Shared)(M:St)(H:Hp)(D:Ends)(EX:XK),Inv X Y M H s->t D EX M H->wpAny (model X.prog X.w) X.A (exec st X.env) (SP X Y D) (XP X Y M EX) s
def PP(X:Cx)(st:List Stmt)(t:N9):Prop :=
 ∀(Y:List (Addr×Obj))(s:Shared)(M:St)(H:Hp)(D:Ends)(EX:XK),Inv X Y M H s->t D EX M H->wpAny (model X.prog X.w) X.A (execs st X.env) (SP X Y D) (XP X Y M EX) s
def xg(sp:Sp)(dvs:List V)(t:TA):Pm:=fun M H Q EX=>t M H fun vs H1=>sp (vs++dvs) H1 Q EX
section
variable{k:Nat}{o:Expr}{t:TA}
theorem MP{Q:VK}{EX:XK}(F:g7 X.prog X.w X.K X.mg X.base (o_ X.prog X.w) k f fd ps sp)(hr:fI k X.A)(hb:Binds X.K fd ps ds)(hd:Vals dvs ds)(I:Inv X Y M H s)(r:Vals vs us)(h:sp (vs++dvs) H Q EX):wpAny (model X.prog X.w) X.A (call (.ref f) us) (EP X Y M Q) (XP X Y M EX) s:=by
 have r2:Vals (vs++dvs) (us++ds):=r.append hd;have hl:(us++ds).length=ps.length:=by rw[<- r2.length];exact F.len _ _ _ _ h
 refine wpAny_call (vn (F.run X.A X.stack s H ⟨us,[]⟩ (us++ds) (vs++dvs) Q EX hr I.NY (hb s us I.kIn hl) r2 h) fun r s' hq=>?_);cases r with
 |error e=>exact⟨H,s,I,hq⟩
 | ok fl =>
  cases fl with
  |ret u=>exact I.after hq
  |next=>exact False.elim hq
  |brk=>exact False.elim hq
  |cont=>exact False.elim hq
theorem Iz(F:g7 X.prog X.w X.K X.mg X.base (o_ X.prog X.w) k f fd ps sp)(hr:fI k X.A)(hg:Gl X x)(hm:X.mg x=some (.ref f))(hk:W.keepIn X.K (.ref f)=true)(hb:Binds X.K fd ps ds)(hd:Vals dvs ds)
  (ha:PA X.Wi (e::es) t) (mf:(x==("__debug__":Str))=false:=by decide) (he:starEach (e::es) X.env=(false,eval e X.env):: starEach es X.env:=by rfl) (ic:(backTo pos (starEach es X.env)).any (·.1)=false:=by rfl):
  Ul X (.Call (.Name x p) (e::es) [] pos) (xg sp dvs t):=by
 intro Y s M H Q EX I h;refine c9 (je I hg hm ?_ mf);refine vv (h₀:=X.base) I.ok.mod.Kk hk (dQ (ha pos Y s M H _ (I.ua _) h) (fun us s1 ⟨vs,H1,I1,r,q⟩=>⟨I1.kIn,?_⟩) fun _ _ z=>False.elim z) he ic;exact MP F hr hb hd I1.yi r q
def PQ(te:Pm):N9:=fun D EX M H=>te M H (fun _ H1=>D.nx M H1) EX
theorem IK{te:Pm}(he:Ul X e te)(hs:swapsWith e none pos.line X.env=pure false:=by rfl):YU X (.Expr e pos) (PQ te):=by
 intro Y s M H D EX I h;exact wpAny_Expr_any (dQ (he Y s M H _ EX I h) (fun v s1 ⟨x,H1,I1,r1,q1⟩=>⟨M,H1,I1,q1⟩) fun _ _ z=>z) I.quiet hs
def Rp(i:Nat)(te:Pm):N9:=fun D EX M H=>te M H (fun v H1=>D.nx (M.set i (some v)) H1) EX
theorem MT{te:Pm}(hN:X.N.Nodup)(hi:X.N[i]?=some x)(hx:Loc X.env.scope x)(he:Ul X e te)(hs:swapsWith e (some (.Name x pos')) pos.line X.env=pure false:=by rfl)(hf:X.fn x=true\/X.env.scope.names.lookup x=some .local:=by first|exact .inl rfl|exact .inr rfl|assumption):
  YU X (.Assign [.Name x pos'] e pos) (Rp i te):=by
 intro Y s M H D EX I h;refine wpAny_Assign_Name (dQ (he Y s M H _ EX I h) (fun v s1 ⟨y,H1,I1,r1,q1⟩=>?_) fun _ _ z=>z) hs;exact mY I1 hN hi hx r1 (fun s2 I2=>⟨_,H1,I2,q1⟩) hf
theorem xj{t:N9}(h1:YU X st t):PP X [st] t:=by
 intro Y s M H D EX I h;refine wpAny_execs_cons (dQ (h1 Y s M H D EX I h) (fun f s1 q=>?_) fun _ _ z=>z);cases f with
 |next=>exact kP q
 |ret v=>exact q
 |brk=>exact q
 |cont=>exact q
end
def jh(K:W.Frag)(C:Addr):Option (List Value):=match K.lookup C with
 | some ⟨.type "type",_,.cls cd,sl⟩=>(match cd.mro,sl.toList with
  | .ref C'::bm,[_,_,_,_,some (.builtin _),_]=>if (C'==C && !cd.hasDel)=true then some bm else none
  |_,_=>none)
 |_=>none
theorem xm(X:K.In h)(q:jh K C=some bm): ∃ N nm qn bs hdct sn sub ab col dd k0 k1 k2 k3 k5 newId,h.get? C=some (excClassObj nm qn C N bs bm hdct sn sub ab col dd k0 k1 k2 k3 k5 newId):=by
 unfold jh at q
 split at q
 .rename_i dd cd sl ho
  split at q
  .rename_i C' Ub k0 k1 k2 k3 n k5 hm hs
   split at q
   .rename_i hc
    cases q;simp only[ez,ly,Bool.not_eq_true']at hc;obtain⟨e1,EC⟩:=hc;subst e1;obtain⟨nm,bs,mro,ns,qn,hd,sn,sub,ab,col,del⟩:=cd;dsimp only at hm EC;subst hm EC
    have hsl:sl = #[k0,k1,k2,k3,some (.builtin n),k5]:=by
     obtain⟨l⟩:=sl;simp only at hs;rw[hs]
    subst hsl;exact⟨ns,nm,qn,bs,hd,sn,sub,ab,col,dd,k0,k1,k2,k3,k5,n,X _ _ ho⟩
   cases q
  cases q
 cases q
def under(K:W.Frag)(C aad:Addr):Bool:=(jh K C).any fun bm=>(Value.ref C::bm).contains (.ref aad)
def fb(K:W.Frag)(aad:Addr):Bool:=(jh K aad).any fun bm=>bm.contains (.type "BaseException")
theorem Av{o:Obj}(l:K.lookup C=some o):jh K C=jh [(C,o)] C:=by
 unfold jh;rw[l,List.lookup_cons_self]
theorem Tw{o:Obj}(l:K.lookup C=some o)(e:fb [(C,o)] C=true):fb K C=true:=by
 unfold fb at e ⊢;rw[Av l];exact e
theorem SN{o:Obj}{b:Bool}(l:K.lookup C=some o)(e:under [(C,o)] C aad=b):under K C aad=b:=by
 unfold under at e ⊢;rw[Av l];exact e
abbrev Cx.kU(X:Cx)(e:Addr):Cx:={ X with A:=X.A.mark (some (.ref e)),calm:=false,xe:=fun _ _=>False }
theorem Cx.Ok.kU(ok:X.Ok)(e:Addr):(X.kU e).Ok :=
 ⟨ok.mod,ok.kind,ok.glob,ok.blt,ok.above,ok.inj,ok.has,ok.N2,(fun z=>by cases z),ok.frames,ok.OC,ok.Vq,ok.bs,ok.EH,ok.yy,ok.Ct,ok.oP,ok.IM⟩
theorem Inv.kU(I:Inv X Y M H s)(e:Addr):Inv (X.kU e) Y M H s:=⟨I.ok.kU e,I.os,I.bare,I.base,I.loc,I.cell,I.free,I.lj,I.pin,I.hok,I.len⟩
theorem Inv.uncaught{e:Addr}(I:Inv (X.kU e) Y M H s)(ok:X.Ok):Inv X Y M H s:=⟨ok,I.os,I.bare,I.base,I.loc,I.cell,I.free,I.lj,I.pin,I.hok,I.len⟩
theorem Inv.landed{B h6:Heap}(I:Inv X Y M H1 s1)(xp:X.stack=X.env::X.outer)(os:s2.os=s1.os)(bare:AllBare s2.gens)(u:Un (ky X.stack) [] H1 H2 s1.heap s2.heap)(hok:mS X.prog X.w H2 s2.heap)(ia:∀ b o,s1.heap.get? b=some o->H1 b=none->b∉ky X.stack->B.get? b=some o)(H_:∀ b o,s1.heap.get? b=some o->b∉ky X.stack->∃ o',B.get? b=some o')(BQ:∀ b,H2 b≠none->∃ o,s2.heap.get? b=some o/\B.get? b=some o)(fl:Heap.FlyingW B X.stack a (.ref C) a0 h6)(sm:s2.heap.UpToSlots h6):Inv X Y M H2 { s2 with heap:=h6 }:=by
 have Lv:∀ b∈ky X.stack,∀ o,s1.heap.get? b=some o->∃ sl,h6.get? b=some { o with slots:=sl }:=fun b hb o e=>by
  obtain⟨sl,e1⟩:=u.slot b o e (I.mI b hb) hb oz;obtain⟨_,o',ho,hd⟩:=I.stack.mem hb;rw[e]at ho;cases ho;obtain⟨Mb,e2⟩:=sm b _ e1 hd;exact⟨Mb,e2⟩
 refine I.LB (s':={ s2 with heap:=h6 }) (ch:=[]) os ⟨fun b o e n hb _=>fl.1 b o (ia b o e n hb),fun b o e _ hb _=>Lv b hb o e,u.free,fun b o e _=>?_,u.tups,u.nh,u.nS⟩ (fun b o q=>?_) bare (fun b z=>absurd z oz)
 .by_cases hb:b∈ky X.stack
  .obtain⟨sl,e2⟩:=Lv b hb o e
   exact⟨_,e2⟩
  obtain⟨o2,e2⟩:=H_ b o e hb;exact⟨o2,fl.1 b o2 e2⟩
 refine(hok b o q).stay (fun c v hc e=>?_) (fun _ z=>z) fun _ _ z=>z
 have x_:H2 c≠none:=by
  rcases hc with rfl|hc
  .rw[q];exact fun z=>by cases z
  rw[hc];exact fun z=>by cases z
 obtain⟨o',e1,e2⟩:=BQ c x_;rw[e1]at e;cases e;exact fl.1 c _ e2
open PySem PySem.Spec PyProof.Rows PySem.W
structure ExC(K:W.Frag)(C:Addr):Prop where
 hg:W.findIn K (.ref C) "__getattribute__"=some (some (.builtin "BaseException.__getattribute__"))
 hh:W.findIn K (.ref C) "__getattr__"=some none
 ha:W.findIn K (.ref C) "__class__"=some (some (.builtin "object.__class__"))
 hn:W.specialIn K (.builtin "object.__class__") "__get__"=some (some (.builtin "getset_descriptor.__get__"))
 ht:W.takesIn K (.builtin "object.__class__")=some true
 hm:W.mroIn K C (.type "object")=some true
 hB:W.mroIn K C (.type "BaseException")=some true
 ED:W.hasDictIn K C=true
end L2
namespace L2
open PySem PySem.Spec PyProof.Rows
def Rq(K:W.Frag):List V->Hp->VK->Prop:=fun xs H Q=>∃(p:Addr)(ns:List Int),xs=[.ref p]/\b5 K H p (ns.map V.int)/\0<ns.length/\∀ aad,aad∈ns->(∀ a∈ns,aad<=a)->Q (.int aad) H
theorem uU(hc:X.calm=true):dR X (.builtin "min") (Rq X.K):=by
 intro Y s M H xs us Q I r h;obtain⟨p,ns,rfl,hp,hne,q⟩:=h;obtain⟨u,rfl,ru⟩:=vals1 r;cases ru;obtain⟨its,rv,pl,hz⟩:=I.list hp;have hi:=intsAre_of rv;have hh:X.A.handled=none:=I.ok.hd hc;obtain⟨xs,e⟩:=hi.allInts.items
 have pe:ns=xs.toList.map (·.1):=by
  rw[<- hi.numsOf,<- CY,<- e]
 have hsz:0<xs.size:=by
  have h3:=hne;rw[pe,de,ax]at h3;exact h3
 have hl:=pl.isList;rw[e]at hl;refine min_intList hh hl hsz fun v h' tk hv hk=>?_
 obtain⟨t,rfl⟩:=As hv;obtain⟨h1,h2⟩:=argBest_lt (numAt xs) (xs.size-1);refine⟨.int _,H,I.kept (t':=tk) hk,⟨t,Z⟩,q _ ?_ fun a ha=>?_⟩
 .rw[pe,Ap];exact getD_mem (by rw[de,ax];exact G)
 rw[pe]at ha;obtain⟨j,hj,rfl⟩:=mem_getD ha;rw[de,ax]at hj;rw[<- Ap];exact h2 j G
theorem qH(ns:List Int):∀ k,k<=ns.length->preSum (fun i=>ns.getD i 0) k=(ns.take k).sum
 | 0,_=>by simp[preSum]
 | k+1,h=>by
  have h':k<ns.length:=G
  rw[preSum,qH ns k G,List.take_succ_eq_append_getElem h',r9];simp[List.getD,h']
theorem Aw{x:V}(r:Vals xs us)(f:xs.all fD=true)(e:us[j]?=some u):t4 x u=mn (xs.getD j .non) x:=by
 induction r generalizing j with
 |nil=>simp at e
 | @cons y v ys vs rv t ih =>
  rw[iq,ez]at f;cases j with
  |zero=>simp at e;subst e;simpa using rZ rv f.1
  |succ j=>simpa using ih f.2 (by simpa using e)
theorem Fe{β : Type}{aad:Model}{Q:β->Shared->Prop}(f:Nat->β->Sem (ForInStep β))(n:Nat)(aac:Nat->β->Shared->Prop)(b:β)
  (turn:∀ i b s,i<n->aac i b s->wpAny aad A (f i b) (fun r s'=>match r with | .yield b'=>aac (i+1) b' s' | .done b'=>Q b' s') E s) (fin:∀ b s,aac n b s->Q b s) (h:aac 0 b s):wpAny aad A (forIn [:n] b f) Q E s:=by
 rw[Std.Legacy.Range.forIn_eq_forIn_range']
 have key:∀(k i:Nat)(b:β)(s:Shared),i+k=n->aac i b s->wpAny aad A (forIn (List.range' i k 1) b f) Q E s:=by
  intro k
  induction k with
  | zero => intro i b s e hj;rw[List.range'_zero,nz];obtain rfl:i=n:=G
            exact ar (fin _ _ hj)
  | succ k ih =>
   intro i b s e hj;rw[List.range'_succ,kf];refine ae (dQ (turn i b s G hj) (fun r s' hr=>?_) fun _ _ z=>z);cases r with
   |done b'=>exact ar hr
   |yield b'=>exact ih (i+1) b' s' G hr
 have e:(Std.Legacy.Range.size [:n])=n:=by simp[Std.Legacy.Range.size]
 rw[e];exact key n 0 b s G h
theorem Cp(l:Addr)(items:Array Value)(n:Nat)(dd:Option Addr)(sl:Array (Option Value))(x:Value)(e:Value->Bool)(j:Nat)(hj:j<items.size)(hit:e items[j]=true)(xw:∀ m (hm:m<items.size),m<j->e items[m]=false): Meets (Builtin.«tuple.index» ⟨[.ref l,x],[]⟩) (fun A R s=>s.heap.get? l=some { cls:=.type "tuple",dict:=dd,data:=.seq items n,slots:=sl }/\(∀ y,y∈items->SeqAt.EqAt A.in1 s y x (e y))/\R (.ok (.ret (.int j s.toks))) { s with toks:=s.toks+1 }):=
 .of_wp fun prog w A R s h=>by
  obtain⟨hp,g,d,tk,os⟩:=s;obtain⟨hl,he,h⟩:=h
  wp_walk using eC hl
  show wpAny _ _ (forIn [:min items.size items.size] _ _) _ _ _;rw[Nat.min_self];refine Fe _ _ (fun i b s'=>b.1=none/\i<=j/\s'=⟨hp,g,d,tk,os⟩) _ (fun i b s' hi ⟨hb,hij,hs⟩=>?_) (fun b s' ⟨_,hij,_⟩=>absurd hj G) ⟨rfl,mi _,rfl⟩;subst hs;have OV:items[i]?=some items[i]:=Array.getElem?_eq_getElem hi;simp only[OV];refine ae (he _ (Array.getElem_mem hi) prog w _ _ ?_)
  by_cases Xf:i=j
  .subst Xf
   rw[hit]
   wp_walk
   exact⟨_,Z,h⟩
  rw[xw i hi G]
  wp_walk
  exact⟨Z,G,Z⟩
inductive G'(K:W.Frag)(y:V)(vs:List V)(H:Hp)(Q:VK):Prop
 |mk(p:Addr)(xs:List V)(x:V)(j:Nat)(_:y=.ref p)(_:vs=[x])(_:SqT K H p xs)(_:fD x=true)(_:xs.all fD=true)(_:j<xs.length)(_:mn (xs.getD j .non) x=true)(_:(∀ m,m<j->mn (xs.getD m .non) x=false))(_:Q (.int j) H)
theorem Ff:z4 X "tuple.index" (G' X.K):=by
 intro Y s M H y vs v us Q I ry r h;obtain⟨p,xs,x,j,rfl,rfl,hp,fx,fs,hj,hit,xw,q⟩:=h;cases ry;obtain⟨u,rfl,ru⟩:=vals1 r;obtain⟨its,rv,pl,hz⟩:=I.tuple hp;obtain⟨⟨cls,dd,data,sl⟩,ho,hc,n,hd⟩:=pl;simp only at hc hd;subst hc hd;have hlen:=rv.length
 refine gc PySem.F.slot_tuple_index ⟨_,ho,rfl⟩ PySem.F.entry_tuple_index (PySem.F.args_tuple_index_2 _ _)
  (Cp p its.toArray n dd sl u (t4 x) j (by simpa[hlen]using hj) ?_ ?_) ⟨ho,fun y hy=>iu ru fx rv fs y (by simpa using hy),⟨.int j,H,I.tok _,⟨_,rfl⟩,q⟩⟩
 .rw[Aw (x:=x) rv fs (j:=j) oz];exact hit
 intro m hm f';rw[Aw (x:=x) rv fs (j:=m) oz];exact xw m f'
theorem Inv.turns{p:Addr}(I:Inv X Y M H s)(hf:∀ b∈fp,iK X Y H b)(k:∀ b u,b∉fp->s.heap.get? b=some u->h'.get? b=some u)(hp:s.heap.objs.size<=p)(new:ft X.prog X.w (upd H p o) h' p o):Inv X Y M (upd H p o) { s with heap:=h',toks:=t' }:=by
 have hn:H p=none:=I.hok.fresh hp;have ne:∀ b u,H b=some u->b≠p:=fun b u e z=>by rw[z,hn]at e;cases e
 have nf:∀ b u,H b=some u->b∉fp:=fun b u e z=>by rw[(hf b z).1]at e;cases e
 have old:∀ b u,s.heap.get? b=some u->b≠p:=fun b u e=>bg (bo (aw e) hp)
 refine I.step (g':=s.gens) (d':=s.drawn) (ch:=fp) (fun b hb=>?_) (fun b u _ _ hc e _=>k b u hc e) (fun b u _ _ hc e _=>⟨u.slots,k b u hc e⟩) (fun b u _ e n=>by rw[aA (old b u e)];exact n)
  (fun b u hc e=>⟨u,k b u hc e⟩) (fun b xs e=>by rw[aA (ne _ _ e)];exact e) (fun b o' u e=>by rw[aA (ne _ _ e)];exact e) (fun b ps e=>⟨#[],by rw[aA (ne _ _ e),e];simp⟩) (fun m hm=>?_) (fun b u e=>?_) I.bare
 .obtain⟨_,f1,_,f3,f4,f5⟩:=hf b hb
  exact⟨f3,f1,f4,f5⟩
 .obtain⟨ob,es,ep,ho,r⟩:=hm
  exact⟨ob,es,ep,k _ ob (fun z=>(hf _ z).2.1 rfl) ho,r⟩
 by_cases hb:b=p
 .subst hb
  rw[ao]at e;cases e;exact new
 rw[aA hb]at e;refine(I.hok b u e).stay (fun c v hc q=>k c v ?_ q) (fun c q=>by rw[aA (ne _ _ q)];exact q) fun c xs q=>by rw[aA (ne _ _ q)];exact q
 rcases hc with z|z
 .rw[z];exact nf b u e
 exact nf c _ z
def OA(K:W.Frag)(a:Addr):It :=
 ⟨fun i H=>∃ xs x,b5 K H a xs/\xs[i]?=some x,fun i H x J=>∃ p y,x=.ref p/\H p=none/\(∀ xs,b5 K H a xs->xs[i]?=some y)/\J=upd H p (.tup [.int i,y]),fun i H=>∃ xs,b5 K H a xs/\xs.length<=i⟩
theorem Fg{x1}(a e it:Addr)(hne:e≠it):Turn P w K (.Tuple elts x1 pos) (OA K a) [e,it] e (fun i h=>(∃ old,IsEnum h e it (i:Nat) old)/\h.IsListIter it a i) where
 mem:=by simp
 obj:=fun i h st b hb=>by
  obtain⟨⟨old,s1⟩,o,e1,c,d⟩:=st;rcases ai.mp hb with rfl|hb
  .exact⟨_,s1,fun v z=>by
    have z':Data.fields _=Data.cell v:=z
    cases z'⟩
  have q:b=it:=by simpa using hb
  subst q;exact⟨o,e1,fun v z=>by rw[d]at z;cases z⟩
 keep:=fun i h h' st k=>⟨⟨st.1.choose,k e oz _ st.1.choose_spec⟩,st.2.at fun o q=>k it oz o q⟩
 item:=by
  intro X hP hw hK hc i Y s M H E I hf st hg;subst hP hw hK;obtain⟨xs,x,hq,hx⟩:=hg;obtain⟨its,rv,p,hz⟩:=I.list hq;obtain⟨u,hu,ru⟩:=rv.get hx;obtain⟨⟨old,he⟩,hit⟩:=st;refine wpAny_pyNext_enum_item he hit p.isList (x:=u) (by simpa using hu) hne fun h' ho li tp sz kk=>?_
  refine⟨_,Z,wpAny_letOwnedTupleGo_enum (s:={ s with heap:=h',toks:=s.toks+1 }) ho fun h2 IH sb=>?_⟩
  have f':∀ b∈[e,it],b<s.heap.objs.size:=fun b hb=>by
   rcases ai.mp hb with rfl|hb
   .exact aw he
   have q:b=it:=by simpa using hb
   subst q;obtain⟨_,e1,_⟩:=hit;exact aw e1
  have ME:∀ b∈[e,it],b≠s.heap.objs.size:=fun b hb=>bg (f' b hb)
  have PR:h2.get? s.heap.objs.size=some { cls:=.type "tuple",data:=.seq #[.int i s.toks,u] }:=(sb.2 _ (aS (ME e oz))).trans tp
  have I2:Inv X Y M (upd H s.heap.objs.size (.tup [.int i,x])) { s with heap:=h2,toks:=s.toks+1 }:=by
   refine I.turns (fp:=[e,it]) hf (fun b v hb q=>?_) (qnr _) ⟨xS,[.int i s.toks,u],.cons ⟨_,rfl⟩ (.cons ru .nil),⟨_,PR,rfl,_,rfl⟩⟩;have b1:b≠e:=fun z=>hb (by simp[z])
   have b2:b≠it:=fun z=>hb (by simp[z])
   exact(sb.2 b b1).trans (kk b v b1 b2 q)
  refine⟨.ref s.heap.objs.size,_,I2,Z,⟨_,x,Z,I.hok.fresh (qnr _),(fun ys hy=>by rw[I.sq hy hq];exact hx),Z⟩,⟨⟨u,?_⟩,?_⟩,fun b hb=>?_⟩
  .have q:((i+1:Nat):Int)=(i:Int)+1:=G
   rw[q];exact IH
  .exact li.at fun o q=>(sb.2 it (aS hne)).trans q
  rw[aA (ME b hb)];exact(hf b hb).1
 done:=by
  intro X hP hw hK hc i Y s M H E I hf st hg;subst hP hw hK;obtain⟨xs,hq,hx⟩:=hg;obtain⟨its,rv,p,hz⟩:=I.list hq;obtain⟨⟨old,he⟩,hit⟩:=st;obtain⟨f0,f1,f2,f3,f4,f5⟩:=hf it oz;have hl:=rv.length;exact wpAny_pyNext_enum_end (I.ok.hd hc) he hit p.isList (by simp;exact G) fun h' eb=>⟨rfl,I.turned (t':=s.toks) (fun b o hb q=>eb b o hb q) f0 f1 f3 f4 f5⟩
 self:=fun _ _ _ _ _ st h=>rS st.1.choose_spec h
def Lp(K:W.Frag)(tl:TE):TI:=fun M H R=>tl M H fun x H1=>∃ a,x=.ref a/\(∃ xs,b5 K H1 a xs)/\R (OA K a) H1
theorem M3{x1} {pt:Pos} {l:Expr}  (hl:PE X l tl) (hg:Gl X "enumerate") (hm:X.mg "enumerate"=none)
  (he:starEach [l] X.env=(false,eval l X.env):: starEach [] X.env:=by rfl) (ic:(backTo e_ (starEach [] X.env)).any (·.1)=false:=by rfl):
  PI X (.Tuple elts x1 pt) (.Call (.Name "enumerate" p) [l] [] e_) (Lp X.K tl):=by
 intro Y s M H R I h;refine c9 (gP I hg hm Bt.enumerate ?_ b9 b9);have h':vW tl oE M H (fun vs H1=>match vs with | [x]=>∃ a,x=.ref a/\(∃ xs,b5 X.K H1 a xs)/\R (OA X.K a) H1|_=>False):=h;refine dn (thn ((aa hl aj he) e_ Y s M H _ I h') fun us s1 ⟨vs,H1,I1,r1,q1⟩=>?_) he ic
 obtain⟨x,rfl⟩:∃ x,vs=[x]:=by
  match vs,q1 with
  |[x],_=>exact⟨x,Z⟩
 obtain⟨a,rfl,⟨xs,hq⟩,q⟩:=q1;obtain⟨u,rfl,ru⟩:=vals1 r1;cases ru;obtain⟨its,rv,p,hz⟩:=I1.list hq;refine call_enumerate_list p.isList fun h' SR li sz kk=>?_
 refine rS SR ?_;refine⟨s1.heap.objs.size+1,[s1.heap.objs.size+1,s1.heap.objs.size],_,_,H1,Z,I1.kept (t':=s1.toks) kk,Fg a (s1.heap.objs.size+1) s1.heap.objs.size (Nat.succ_ne_self _),⟨⟨_,SR⟩,li⟩,fun b hb=>?_,q⟩;rcases ai.mp hb with rfl|hb
 .exact I1.tj G (I1.hok.fresh G)
 have e:b=s1.heap.objs.size:=by simpa using hb
 subst e;exact I1.tj (qnr _) (I1.hok.fresh (qnr _))
def Oy(x:Str):It:=⟨fun i _=>i<x.cps.size,fun i H v J=>J=H/\∃ c,x.cps[i]?=some c/\v=.str ⟨#[c]⟩,fun i _=>i=x.cps.size⟩
theorem xn(x:Str)(t:Tok)(it:Addr)(T:String)(W:∀ A:Around,A.handled=none->Walks P w A it [it] [it] x.cps.size (SignAt x) (fun i h=>h.IsStrIter it T x t i))(sf:∀(A:Around)(i:Nat)(s:Shared)(Q:Value->Shared->Prop)(E:Value->Shared->Prop),s.heap.IsStrIter it T x t i->Q (.ref it) s->wpAny (model P w) A (pyIter (.ref it)) Q E s)(hT:["enumerate","zip","dict_itemiterator","dict_reverseitemiterator","odict_iterator","itertools.zip_longest","itertools.pairwise"].contains T=false): Turn P w K tg (Oy x) [it] it (fun i h=>h.IsStrIter it T x t i) where
 mem:=by simp
 obj:=fun i h st b hb=>by
  have e:b=it:=by simpa using hb
  subst e;obtain⟨o,e,c,d⟩:=st;exact⟨o,e,fun v z=>by rw[d]at z;cases z⟩
 keep:=fun i h h' ⟨o,e,r⟩ k=>⟨o,k it oz o e,r⟩
 item:=by
  intro X hP hw hK hc i Y s M H E I hf st hg;subst hP hw hK;obtain⟨f0,f1,f2,f3,f4,f5⟩:=hf it oz;refine(W X.A (I.ok.hd hc)).item i s _ _ hg st fun v h' tk hv iA kk=>?_
  obtain⟨c,u,hcu,rfl⟩:=hv;have I1:Inv X Y M H { s with heap:=h',toks:=tk }:=I.turned (fun b o hb e=>kk b o (by simpa using hb) e) f0 f1 f3 f4 f5;obtain⟨o,e,x_,d⟩:=id iA;exact⟨_,Z,vV (s:={ s with heap:=h',toks:=tk }) e x_ d hT ⟨.str ⟨#[c]⟩,H,I1,⟨u,Z⟩,⟨Z,c,hcu,Z⟩,iA,fun b hb=>(hf b hb).1⟩⟩
 done:=by
  intro X hP hw hK hc i Y s M H E I hf st hg;subst hP hw hK;obtain⟨f0,f1,f2,f3,f4,f5⟩:=hf it oz;have hg:i=x.cps.size:=hg;subst hg;exact(W X.A (I.ok.hd hc)).done s _ _ st fun h' tk kk=>⟨rfl,I.turned (fun b o hb e=>kk b o (by simpa using hb) e) f0 f1 f3 f4 f5⟩
 self:=fun A i s Q E st h=>sf A i s Q E st h
def SQ(tl:TE):TI:=fun M H R=>tl M H fun v H1=>∃ x,v=.str x/\R (Oy x) H1
theorem xq{l:Expr}(hl:PE X l tl):PI X tg l (SQ tl):=by
 intro Y s M H R I h;refine thn (hl Y s M H _ I h) fun v s1 ⟨y,H1,I1,r1,q1⟩=>?_
 obtain⟨x,e,q⟩:=q1;subst e;obtain⟨t,rfl⟩:=r1
 have fp:∀ b∈[s1.heap.objs.size],iK X Y H1 b:=fun b hb=>by
  have e:b=s1.heap.objs.size:=by simpa using hb
  subst e;exact I1.tj (qnr _) (I1.hok.fresh (qnr _))
 cases ha:x.cps.all (· < 128)
 .refine wpAny_pyIter_wide ha ⟨s1.heap.objs.size,[s1.heap.objs.size],_,_,H1,rfl,I1.kept (t':=s1.toks) fun b o e=>Heap.get?_push_of_some _ e,xn x t _ "str_iterator" (fun A hA=>Walks.strWide hA _ x t) (fun _ _ _ _ _ st h=>wpAny_pyIter_striter_wide st h) b9,⟨_,Heap.get?_push_size _ rfl,rfl,rfl⟩,fp,q⟩
 refine wpAny_pyIter_ascii ha ⟨s1.heap.objs.size,[s1.heap.objs.size],_,_,H1,rfl,I1.kept (t':=s1.toks) fun b o e=>Heap.get?_push_of_some _ e,xn x t _ "str_ascii_iterator" (fun A hA=>Walks.strAscii hA _ x t) (fun _ _ _ _ _ st h=>wpAny_pyIter_striter_ascii st h) b9,⟨_,Heap.get?_push_size _ rfl,rfl,rfl⟩,fp,q⟩
section
variable{g:TG}{tb:TS}{Q:VK}
theorem IV(Pv:Nat->St->Hp->Prop)(h0:Pv 0 M H)(hx:∀ i M H,i<=xs.length->Pv i M H->b5 K H a xs)(hs:∀ i x M H,xs[i]?=some x->Pv i M H->∀ p,H p=none->g (.ref p) M (upd H p (.tup [.int i,x])) fun σ2 H2=>tb { D with nx:=Pv (i+1),ct:=Pv (i+1),bk:=D.nx } σ2 H2)(hd:∀ M H,Pv xs.length M H->D.nx M H):∃ W:Nat->Nat->St->Hp->Prop,(∃ m,W 0 m M H)/\∀ i m M H,W i m M H -> ((OA K a).stop i H/\D.nx M H)\/((OA K a).go i H/\∃ N:St->Hp->Prop,(∀ σ' J,N σ' J->∃ m',m'<m/\W (i+1) m' σ' J)/\∀ x J,(OA K a).JI i H x J->g x M J fun σ2 H2=>tb { D with nx:=N,ct:=N,bk:=D.nx } σ2 H2):=by
 refine⟨fun i m M H=>m=xs.length-i/\i<=xs.length/\Pv i M H,⟨xs.length,oz,mi _,h0⟩,?_⟩;rintro i m M H ⟨rfl,hi,p⟩;have q:=hx i M H hi p
 by_cases f':i<xs.length
 .refine .inr ⟨⟨xs,xs[i],q,by simp[f']⟩,Pv (i+1),fun σ' J p'=>⟨xs.length-(i+1),G,rfl,f',p'⟩,fun x J y=>?_⟩
  obtain⟨r,z,rfl,hn,hz,rfl⟩:=y;exact hs i z M _ (hz xs q) p r hn
 have e:i=xs.length:=G
 subst e;exact .inl ⟨⟨xs,q,qnr _⟩,hd M H p⟩
theorem M4(Pv:Nat->St->Hp->Prop)(h0:Pv 0 M H)(hs:∀ i c M H,x.cps[i]?=some c->Pv i M H->g (.str ⟨#[c]⟩) M H fun σ2 H2=>tb { D with nx:=Pv (i+1),ct:=Pv (i+1),bk:=D.nx } σ2 H2)(hd:∀ M H,Pv x.cps.size M H->D.nx M H):∃ W:Nat->Nat->St->Hp->Prop,(∃ m,W 0 m M H)/\∀ i m M H,W i m M H -> ((Oy x).stop i H/\D.nx M H)\/((Oy x).go i H/\∃ N:St->Hp->Prop,(∀ σ' J,N σ' J->∃ m',m'<m/\W (i+1) m' σ' J)/\∀ v J,(Oy x).JI i H v J->g v M J fun σ2 H2=>tb { D with nx:=N,ct:=N,bk:=D.nx } σ2 H2):=by
 refine⟨fun i m M H=>m=x.cps.size-i/\i<=x.cps.size/\Pv i M H,⟨x.cps.size,oz,mi _,h0⟩,?_⟩;rintro i m M H ⟨rfl,hi,p⟩
 by_cases f':i<x.cps.size
 .refine .inr ⟨f',Pv (i+1),fun σ' J p'=>⟨x.cps.size-(i+1),G,rfl,f',p'⟩,fun v J y=>?_⟩
  obtain⟨rfl,c,hc,rfl⟩:=y;exact hs i c M _ hc p
 have e:i=x.cps.size:=G
 subst e;exact .inl ⟨rfl,hd M H p⟩
theorem Fi(Pv:Nat->List V->Hp->Prop)(h0:Pv 0 [] H)(hn:xs.length<=sizeLine)(hl:∀ i ys H,Pv i ys H->ys.length<=i)(hx:∀ i ys H,Pv i ys H->b5 K H a xs)(hs:∀ i x ys H,xs[i]?=some x->Pv i ys H->∀ p,H p=none->g (.ref p) (cR ix M) (upd H p (.tup [.int i,x])) fun σ2 H2=>Ext (cR ix M) σ2/\tt σ2 H2 fun ok H3=>if ok=true then te σ2 H3 fun y H4=>Pv (i+1) (ys++[y]) H4 else Pv (i+1) ys H3)(hd:∀ ys H,Pv xs.length ys H->∀ p,H p=none->Q (.ref p) (upd H p (.lst ys))):iR (OA K a) ix g tt te M H Q:=by
 refine⟨fun i m ys H=>m=xs.length-i/\i<=xs.length/\Pv i ys H,⟨xs.length,oz,mi _,h0⟩,?_⟩;rintro i m ys H ⟨rfl,hi,p⟩;have q:=hx i ys H p;refine⟨g9 (hl _ _ _ p) (g9 hi hn),?_⟩
 by_cases f':i<xs.length
 .refine .inr ⟨⟨xs,xs[i],q,by simp[f']⟩,Pv (i+1),fun ys' J p'=>⟨xs.length-(i+1),G,rfl,f',p'⟩,fun x J y=>?_⟩
  obtain⟨r,z,rfl,hn',hz,rfl⟩:=y;exact hs i z ys _ (hz xs q) p r hn'
 have e:i=xs.length:=G
 subst e;exact .inl ⟨⟨xs,q,qnr _⟩,hd ys H p⟩
theorem IW(Pv:Nat->List V->Hp->Prop)(h0:Pv 0 [] H)(hn:x.cps.size<=sizeLine)(hl:∀ i ys H,Pv i ys H->ys.length<=i)(hs:∀ i c ys H,x.cps[i]?=some c->Pv i ys H->g (.str ⟨#[c]⟩) (cR ix M) H fun σ2 H2=>Ext (cR ix M) σ2/\tt σ2 H2 fun ok H3=>if ok=true then te σ2 H3 fun y H4=>Pv (i+1) (ys++[y]) H4 else Pv (i+1) ys H3)(hd:∀ ys H,Pv x.cps.size ys H->∀ p,H p=none->Q (.ref p) (upd H p (.lst ys))):iR (Oy x) ix g tt te M H Q:=by
 refine⟨fun i m ys H=>m=x.cps.size-i/\i<=x.cps.size/\Pv i ys H,⟨x.cps.size,oz,mi _,h0⟩,?_⟩;rintro i m ys H ⟨rfl,hi,p⟩;refine⟨g9 (hl _ _ _ p) (g9 hi hn),?_⟩
 by_cases f':i<x.cps.size
 .refine .inr ⟨f',Pv (i+1),fun ys' J p'=>⟨x.cps.size-(i+1),G,rfl,f',p'⟩,fun v J y=>?_⟩
  obtain⟨rfl,c,hc,rfl⟩:=y;exact hs i c ys _ hc p
 have e:i=x.cps.size:=G
 subst e;exact .inl ⟨rfl,hd ys H p⟩
theorem oK(f:Nat->V)(hn:x.cps.size<=sizeLine)(hs:∀ c (R:VK),c∈x.cps.toList->R (f c) H->Ext (cR ix M) ((cR ix M).set 0 (some (.str ⟨#[c]⟩)))/\te ((cR ix M).set 0 (some (.str ⟨#[c]⟩))) H R)(hd:∀ p,H p=none->Q (.ref p) (upd H p (.lst (x.cps.toList.map f)))):iR (Oy x) ix (jN 0) Ck te M H Q:=by
 refine IW (x:=x) (fun i ys J=>J=H/\ys=(x.cps.toList.take i).map f) ⟨rfl,rfl⟩ hn (fun i ys J ⟨_,e⟩=>by rw[e,de,bq];exact G) ?_ (fun ys J ⟨e1,e2⟩ p hp=>by
  subst e1 e2;have e3:x.cps.toList.take x.cps.size=x.cps.toList:=fS oz
  rw[e3];exact hd p hp)
 rintro i c ys J hi ⟨rfl,rfl⟩;have OV:x.cps.toList[i]?=some c:=by simpa using hi
 obtain⟨h1,h2⟩:=hs c (fun y H4=>H4=J/\(x.cps.toList.take i).map f++[y]=(x.cps.toList.take (i+1)).map f) (pj OV) ⟨rfl,by rw[qE,OV,ay];rfl⟩;exact⟨h1,h2⟩
end
def Rr(te:TE):TE:=fun M H Q=>te M H fun v H1=>∃ x,v=.str x/\(reprText x).length <= sizeLine/\Q (.str (reprText x)) H1
section
variable{a b:Expr}
theorem uf(he:PE X e te):PE X (.FormattedValue e 114 none pos) (Rr te):=by
 intro Y s M H Q I h;refine wpAny_FormattedValue_repr (thn (he Y s M H _ I h) fun v s1 ⟨y,H1,I1,r1,q1⟩=>?_);obtain⟨x,rfl,hx,q⟩:=q1;obtain⟨t,rfl⟩:=r1;refine wpAny_pyReprObj_gives (T := "str") (id := "str.__repr__") rfl PySem.F.slot_str_repr PySem.F.entry_str_repr (PySem.F.args_str_repr_1 _) (gives_str_repr x t) (hx:=hx) ?_;exact formatField_str (hsz:=hx) fun t' tk=>⟨.str _,H1,I1.tok _,⟨t',rfl⟩,q⟩
def PX(ta tb:TE):TE:=fun M H Q=>ta M H fun v H1=>∃ x,v=.str x/\x.length<=sizeLine/\tb M H1 fun u H2=>∃ y,u=.str y/\(x++y).length <= sizeLine/\Q (.str (x++y)) H2
theorem empty_app(x:Str):Str.empty++x=x:=by
 show Str.mk (#[]++x.cps)=x;simp
theorem xr(ha:PE X a ta)(hb:PE X b tb):PE X (.JoinedStr [a,b] pos) (PX ta tb):=by
 intro Y s M H Q I h;refine JoinedStr_many (t_ (thn (ha Y s M H _ I h) fun v s1 ⟨z,H1,I1,r1,q1⟩=>?_));obtain⟨x,rfl,hx,q⟩:=q1;obtain⟨t,rfl⟩:=r1;show(Str.empty++x).length <= sizeLine/\_;rw[empty_app];refine⟨hx,t_ (thn (hb Y s1 M H1 _ I1 q) fun v s2 ⟨z,H2,I2,r2,q2⟩=>?_)⟩;obtain⟨y,rfl,hy,q⟩:=q2;obtain⟨t',rfl⟩:=r2;exact⟨hy,joinParts_nil (hsz:=hy) ⟨.str _,H2,I2.tok _,⟨_,Z⟩,q⟩⟩
end
theorem repr_fits(hx:∀ c∈x.cps.toList,c<16^8)(hl:x.length<=1000):(reprText x).length <= sizeLine:=by
 have:=PySem.StrLaws.reprText_len x hx;unfold sizeLine;exact G
def yb(P:Program)(w:World)(K:W.Frag)(a:Addr)(kvs:List (Key×V)):Prop :=
 (a==sysModules)=false/\∃ o es ep vs,K.lookup a=some o/\o.ExactDict/\o.data=.dict es ep/\KeysOf (bW P w) es/\Pairs (bW P w) es.toList vs/\(vs.map (·.1)).Nodup /\ KV kvs vs
def Rt(a:Addr)(kvs:List (Key×V))(td ty:TE):TE:=fun M H Q=>td M H fun x H1=>ty M H1 fun y H2=>∃ k v,x=.ref a/\y=kV k/\bN kvs k=some v/\Q v H2
def Qa(neg:Bool)(a:Addr)(kvs:List (Key×V))(ty td:TE):TE:=fun M H Q=>ty M H fun y H1=>td M H1 fun x H2=>∃ k,x=.ref a/\y=kV k/\Q (.bl (if neg then !(bN kvs k).isSome else(bN kvs k).isSome)) H2
section
variable{o i:Expr}
theorem yb.at(aad:yb X.prog X.w X.K a kvs)(I:Inv X Y M H s):∃ vs,KV kvs vs/\s.heap.DictOf (bW X.prog X.w) a vs:=by
 obtain⟨_,o,es,ep,vs,h1,h2,h3,h4,h5,h6,h7⟩:=aad;exact⟨vs,h7,o,es,ep,I.kIn a o h1,h2,h3,h4,h5,h6⟩
theorem ji(aad:yb X.prog X.w X.K a kvs)(hu:X.A.units+1<cLine)(ho:PE X o td)(hi:PE X i ty)(hs:Ir i):PE X (.Subscript o i pos) (Rt a kvs td ty):=by
 intro Y s M H Q I h;refine An PySem.F.slot_dict_getitem.lookup hs (thn (ho Y s M H _ I h) fun u s1 ⟨x,H1,I1,rx,q1⟩=>thn (hi Y s1 M H1 _ I1 q1) fun iv s2 ⟨y,H2,I2,ry,k,v,ex,ey,l,q2⟩=>?_);subst ex ey;obtain rfl:u=Value.ref a:=rx;obtain⟨vs,rel,dd⟩:=aad.at I2;obtain⟨w',hw,qB⟩:=mr.some_of (v:=v) (o:=valueAt vs k) (by rw[<- l];exact rel.val k);exact⟨dd.typeIs,wpAny_getItem_of (lH ry) dd.mapOf hw ⟨v,H2,I2.tok _,qB,q2⟩⟩
theorem Qc(aad:yb X.prog X.w X.K a kvs)(hi:PE X i ty)(ho:PE X o td):PC X .In i o (Qa false a kvs ty td):=by
 intro Y s M H Q I h;refine thn (hi Y s M H _ I h) fun iv s1 ⟨y,H1,I1,ry,q1⟩=>thn (ho Y s1 M H1 _ I1 q1) fun u s2 ⟨x,H2,I2,rx,k,ex,ey,q2⟩=>?_
 subst ex ey;obtain rfl:u=Value.ref a:=rx;obtain⟨vs,rel,dd⟩:=aad.at I2;refine wpAny_in_of (lH ry) aad.1 dd.mapOf ?_;rw[<- (rel.val k).k_];exact⟨.bl _,H2,I2.tok _,Z,q2⟩
theorem oN(aad:yb X.prog X.w X.K a kvs)(hi:PE X i ty)(ho:PE X o td):PC X .NotIn i o (Qa true a kvs ty td):=by
 intro Y s M H Q I h;refine thn (hi Y s M H _ I h) fun iv s1 ⟨y,H1,I1,ry,q1⟩=>thn (ho Y s1 M H1 _ I1 q1) fun u s2 ⟨x,H2,I2,rx,k,ex,ey,q2⟩=>?_
 subst ex ey;obtain rfl:u=Value.ref a:=rx;obtain⟨vs,rel,dd⟩:=aad.at I2;refine wpAny_notIn_of (lH ry) aad.1 dd.mapOf ?_;rw[<- (rel.val k).k_];exact⟨.bl _,H2,I2.tok _,Z,q2⟩
end
def N_(w:World):List DictEntry->List (Key×V)->Prop
 |e::es,(.inr x,v):: r=>e.hash=hashStr w x/\(∃ t,e.key=.str x t)/\RelV v e.val/\N_ w es r
 |e::es,(.inl i,v):: r=>e.hash=hashInt i/\(∃ t,e.key=.int i t)/\RelV v e.val/\N_ w es r
 |[],[]=>True
 |_,_=>False
theorem N_.out{P:Program}{w:World}:∀{es:List DictEntry}{kvs:List (Key×V)},N_ w es kvs->∃ vs,(∀ e∈es,∃ k,(bW P w).is k e.key=true/\e.hash=(bW P w).hash k)/\Pairs (bW P w) es vs/\vs.map (·.1)=kvs.map (·.1)/\KV kvs vs
 |[],[],_=>⟨[],(fun _ z=>nomatch z),.nil,rfl,.nil⟩
 | e::es,(.inr x,v):: r,⟨h1,⟨t,h2⟩,h3,h4⟩=>by
  obtain⟨vs,a1,a2,a3,a4⟩:=N_.out (P:=P) h4;have q:(bW P w).is (.inr x) e.key=true:=by rw[h2];exact qD P w x t
  refine⟨(.inr x,e.val):: vs,fun e' he=>?_,.cons q rfl a2,by simp[a3],.cons ⟨Z,h3⟩ a4⟩;rcases ai.mp he with rfl|he
  .exact⟨.inr x,q,h1⟩
  exact a1 e' he
 | e::es,(.inl i,v):: r,⟨h1,⟨t,h2⟩,h3,h4⟩=>by
  obtain⟨vs,a1,a2,a3,a4⟩:=N_.out (P:=P) h4;have q:(bW P w).is (.inl i) e.key=true:=by rw[h2];exact qC P w i t
  refine⟨(.inl i,e.val):: vs,fun e' he=>?_,.cons q rfl a2,by simp[a3],.cons ⟨Z,h3⟩ a4⟩;rcases ai.mp he with rfl|he
  .exact⟨.inl i,q,h1⟩
  exact a1 e' he
theorem mdk_of{es:Array DictEntry} {ep:Nat} (l:K.lookup a=some ⟨.type "dict",none,.dict es ep,#[]⟩) (m:N_ w es.toList kvs) (n:(kvs.map (·.1)).Nodup) (s:(a==sysModules)=false):yb P w K a kvs:=by
 obtain⟨vs,a1,a2,a3,a4⟩:=m.out (P:=P);exact⟨s,_,es,ep,vs,l,⟨Z,Z,Z⟩,Z,fun e he=>a1 e (by simpa using he),a2,by rw[a3];exact n,a4⟩
theorem lK:kD X (compareOp .LtE) (fun x y H Q=>∃ i j,x=.str i/\y=.str j/\Q (.bl (!decide (j.cps.toList<i.cps.toList))) H):=by
 intro Y s M H x y v u Q I rx ry h;obtain⟨i,j,rfl,rfl,q⟩:=h;obtain⟨t,rfl⟩:=rx;obtain⟨t',rfl⟩:=ry;refine PySem.P.le_str ⟨.bl _,H,I,rfl,?_⟩
 first|exact q|simpa using q
section
variable{k:Nat}{E:XK}{o:Expr}{t:TA}
theorem Qd(aad:Mk X.K C f)(F:g7 X.prog X.w X.K X.mg X.base CX k f fd ps sp)(hr:fI (k+1) X.A)(hm:X.mg x=some (.ref C))(hb:Binds X.K fd ps [])(hx:eN CX X E)
  (hg:X.env.scope.names.lookup x=some .globalImplicit:=by kernel_rfl) (mf:(x==("__debug__":Str))=false:=by kernel_rfl):PE X (.Call (.Name x p) [] [] pos) (vY C sp [] E oE):=Ik aad F hr hg hm hb .nil hx mf
theorem Qe(F:g7 X.prog X.w X.K X.mg X.base (o_ X.prog X.w) k f fd ps sp)(hr:fI k X.A)(hm:X.mg x=some (.ref f))(hk:W.keepIn X.K (.ref f)=true)(hb:Binds X.K fd ps [])(ha:PA X.Wi (e::es) t)
  (hg:X.env.scope.names.lookup x=some .globalImplicit:=by kernel_rfl) (mf:(x==("__debug__":Str))=false:=by kernel_rfl) (he:starEach (e::es) X.env=(false,eval e X.env):: starEach es X.env:=by rfl) (ic:(backTo pos (starEach es X.env)).any (·.1)=false:=by rfl):
  Ul X (.Call (.Name x p) (e::es) [] pos) (xg sp [] t):=Iz F hr hg hm hk hb .nil ha mf he ic
end
theorem walk_ofX{l:W.OpenLaw}{k:Nat}{XP:(Str->Option Value)->Heap->Prop}{d:DefRec}{K:Params->W.Frag}{sp:W.Frag->Sp}(hn:l.most=some n)(Cf:n<=sizeLine)(SS:d.params.defaults=[])(hr:fI k callerA)(hY:∀(w:World)(h:Heap),YP w h->(K w.params).In h)(F:∀(w:World)(mg:Str->Option Value)(fa:Addr)(h:Heap),(K w.params).In h->h.Ns mainGlobals mg->mg d.name=some (.ref fa) -> ∃ fd:FuncData,(∀(s:Shared)(u:Value),BindsTo s fd ⟨[u],[]⟩ [(x,u)]) /\ ∀ base:Heap,(K w.params).In base->base.Ns mainGlobals mg->g7 l.prog w (K w.params) mg base (o_ l.prog w) k fa fd [x] (sp (K w.params)))(E6:∀(K:W.Frag)(H:Hp)(a:Addr)(ns:List Int),ns.length<=n->IQ H->b5 K H a (ns.map V.int)->sp K [.ref a] H (fun v _=>v=.bl true) fun _ _ _=>False): W.WalkO q loose XP YP l.row.toRowW d [] (fun f vs=>PySem.call f vs):=
 Mx (K:=K) (CX:=fun w=>o_ l.prog w) (sp:=fun w=>sp (K w.params)) hn Cf SS hr hY F (fun w H a ns h1 h2 h3=>E6 (K w.params) H a ns h1 h2 h3) fun _ _ _ _ _ ⟨_,_,_,_,_,z⟩=>z
def Qf(ta tb tc:TE):TE:=fun M H Q=>ta M H fun v H1=>∃ x,v=.str x/\x.length<=sizeLine/\tb M H1 fun u H2=>∃ y,u=.str y/\(x++y).length <= sizeLine/\tc M H2 fun r H3=>∃ z,r=.str z/\(x++y++z).length <= sizeLine/\Q (.str (x++y++z)) H3
section
variable{a b c:Expr}
theorem Ja(ha:PE X a ta)(hb:PE X b tb)(hc:PE X c tc):PE X (.JoinedStr [a,b,c] pos) (Qf ta tb tc):=by
 intro Y s M H Q I h;refine JoinedStr_many (t_ (thn (ha Y s M H _ I h) fun v s1 ⟨z,H1,I1,r1,q1⟩=>?_));obtain⟨x,rfl,hx,q⟩:=q1;obtain⟨t,rfl⟩:=r1;show(Str.empty++x).length <= sizeLine/\_;rw[empty_app];refine⟨hx,t_ (thn (hb Y s1 M H1 _ I1 q) fun v s2 ⟨z,H2,I2,r2,q2⟩=>?_)⟩;obtain⟨y,rfl,hy,q⟩:=q2;obtain⟨t',rfl⟩:=r2;refine⟨hy,t_ (thn (hc Y s2 M H2 _ I2 q) fun v s3 ⟨z,H3,I3,r3,q3⟩=>?_)⟩;obtain⟨z,rfl,hz,q⟩:=q3;obtain⟨t'',rfl⟩:=r3;exact⟨hz,joinParts_nil (hsz:=hz) ⟨.str _,H3,I3.tok _,⟨_,Z⟩,q⟩⟩
end
def Ru(K:W.Frag):List V->Hp->VK->Prop:=fun xs H Q=>∃(p:Addr)(ns:List Int),xs=[.ref p]/\b5 K H p (ns.map V.int)/\Q (.int ns.sum) H
theorem Fj(hc:X.calm=true):dR X (.builtin "sum") (Ru X.K):=by
 intro Y s M H xs us Q I r h;obtain⟨p,ns,rfl,hp,q⟩:=h;obtain⟨u,rfl,ru⟩:=vals1 r;cases ru;obtain⟨its,rv,pl,hz⟩:=I.list hp;have hi:=intsAre_of rv;have hh:X.A.handled=none:=I.ok.hd hc;obtain⟨xs,e⟩:=hi.allInts.items
 have pe:ns=xs.toList.map (·.1):=by
  rw[<- hi.numsOf,<- CY,<- e]
 have hlen:ns.length=xs.size:=by rw[pe,de,ax]
 have hn:numAt xs=fun i=>ns.getD i 0:=by
  funext i;rw[pe];exact Ap _ _
 have hl:=pl.isList;rw[e]at hl;refine sum_intListG hh hl fun h' tk t' hk=>?_
 rw[hn,qH ns xs.size G,<- hlen,bp];exact⟨.int _,H,I.kept (t':=tk) hk,⟨t',Z⟩,q⟩
end L2
namespace PySem
open AutoSeq1 (wpAny_loadPart')
theorem Jb(c0:Addr)(its:Array Value)(n:Nat)(X4:Option Addr)(sl:Array (Option Value)):
  Meets (Builtin.«enumerate.__new__» ⟨[.type "enumerate",.ref c0],[]⟩) (fun _ R z=>z.heap.get? c0=some { cls:=.type "tuple",dict:=X4,data:=.seq its n,slots:=sl } /\
   R (.ok (.ret (.ref (z.heap.push { cls:=.type "tuple_iterator",data:=.fields #[.ref c0,.int 0 0] }).objs.size)))
    { z with heap:=(z.heap.push { cls:=.type "tuple_iterator",data:=.fields #[.ref c0,.int 0 0] }).push { cls:=.type "enumerate",data:=.fields #[.none,.bool false,.ref z.heap.objs.size,rawInt 0,.none,.none] } }):=
 .of_wp fun P w A R z h=>by
  obtain⟨hp,g,d,tk,os⟩:=z;obtain⟨q0,h⟩:=h;have D1:=sub_enumerate;have qT:Heap.IsTuple (Shared.heap ⟨hp,g,d,tk,os⟩) c0 its:=⟨_,q0,rfl,n,rfl⟩
  wp_walk using eC q0
  refine wpAny_stack_any fun st=>ar ?_
  split
  .rename_i c _ _ _ _ _
   cases(c==Value.type "enumerate")
   .wp_walk using eC q0,iO qT
    exact⟨_,Z,h⟩
   wp_walk using eC q0,iO qT
   exact⟨_,Z,h⟩
  wp_walk using eC q0,iO qT
  exact⟨_,Z,h⟩
section
variable{z:Shared}
theorem Fl{its:Array Value}(hL:z.heap.IsTuple c0 its)(h:∀ h',IsEnum h' (z.heap.objs.size+1) z.heap.objs.size 0 .none -> h'.IsTupleIter z.heap.objs.size c0 0->h'.objs.size=z.heap.objs.size+2 -> (∀ b o,z.heap.get? b=some o->h'.get? b=some o)->Q (.ref (z.heap.objs.size+1)) { z with heap:=h' }): wpAny (model P w) A (call (.type "enumerate") [.ref c0]) Q E z:=by
 obtain⟨⟨c,X4,dt,sl⟩,hl,hc,n,hd⟩:=hL;obtain rfl:c=.type "tuple":=hc;obtain rfl:dt=.seq its n:=hd;refine callType_new F.called_enumerate b9 (F.typeCall_enumerate_1 _) (F.newCall_enumerate_1 _) (fun obj=>F.args_object_init_2 obj _) F.entry_enumerate_new (Jb c0 its n X4 sl) ⟨hl,?_⟩;have hz:(z.heap.push { cls:=.type "tuple_iterator",data:=.fields #[.ref c0,.int 0 0] }).objs.size=z.heap.objs.size+1:=fe ..;show _/\_;rw[hz]
 have he:IsEnum ((z.heap.push { cls:=.type "tuple_iterator",data:=.fields #[.ref c0,.int 0 0] }).push
   { cls:=.type "enumerate",data:=.fields #[.none,.bool false,.ref z.heap.objs.size,rawInt 0,.none,.none] }) (z.heap.objs.size+1) z.heap.objs.size 0 .none:=by
  have:=Heap.get?_push_size (z.heap.push { cls:=.type "tuple_iterator",data:=.fields #[.ref c0,.int 0 0] })
   (o:={ cls:=.type "enumerate",data:=.fields #[.none,.bool false,.ref z.heap.objs.size,rawInt 0,.none,.none] }) rfl
  rw[hz]at this;exact this
 exact⟨⟨_,he,Z⟩,h _ he ⟨_,Heap.get?_push_of_some _ (Heap.get?_push_size _ rfl),Z,Z⟩ (by rw[fe,hz]) fun b o y=>Heap.get?_push_of_some _ (Heap.get?_push_of_some _ y)⟩
theorem sH{its:Array Value}{x:Value}(hit:z.heap.IsTupleIter it c0 i)(ht:z.heap.IsTuple c0 its)(hx:its[i]?=some x)(hQ:∀ h',h'.IsTupleIter it c0 (i+1)->Heap.SameBut it z.heap h'->Q x { z with heap:=h' }):wpAny (model P w) A (Builtin.SmallTypes.nextOf (.ref it)) Q E z:=by
 obtain⟨o,q1,hc,hd⟩:=id hit;obtain⟨ol,q2,_,nl,q3⟩:=ht;unfold Builtin.SmallTypes.nextOf;refine ae (wpAny_callSpecial?_slot (name:=Str.ofString "__next__") hit.typeIs j_ (fv j_ hit.typeIs F.entry_tuple_iterator_next ?_ (F.args_tuple_iterator_next_1 _)));show wpAny _ _ (field (.ref it) 0>>=_) _ _ z;refine ae (cE q1 hd (x:=.ref c0) rfl ?_);show wpAny _ _ (if (Value.ref c0==Value.none)=true then _ else _) _ _ z;rw[bX (show ¬((Value.ref c0==Value.none)=true)from ki)];show wpAny _ _ (field (.ref it) 1>>=_) _ _ z;refine ae (cE q1 hd (x:=.int i 0) rfl ?_);show wpAny _ _ (seqItems? (.ref c0)>>=_) _ _ z;refine ae (eA q2 q3 ?_);simp only[bE,hx];refine ae (wpAny_setField q1 hd oz (ar ⟨x,rfl,ar (hQ _ ?_ (Heap.SameBut.update ..))⟩));exact⟨_,Heap.get?_update_self _ q1 (Obj.isFreed_of_fields (Obj.data_mapFields hd _)),(Obj.cls_mapFields ..).trans hc,by rw[Obj.data_mapFields hd];simp[rawInt]⟩
theorem uV{its:Array Value}(hh:A.handled=none)(hit:z.heap.IsTupleIter it c0 i)(ht:z.heap.IsTuple c0 its)(hx:its[i]?=none)(hE:∀ h' e,Heap.ExtBut it z.heap h'->(∃ o,h'.get? e=some o/\o.cls=.type "StopIteration")->E (.ref e) { z with heap:=h' }):wpAny (model P w) A (Builtin.SmallTypes.nextOf (.ref it)) Q E z:=by
 obtain⟨o,q1,hc,hd⟩:=id hit;obtain⟨ol,q2,_,nl,q3⟩:=ht;unfold Builtin.SmallTypes.nextOf;refine ae (wpAny_callSpecial?_slot (name:=Str.ofString "__next__") hit.typeIs j_ (fv j_ hit.typeIs F.entry_tuple_iterator_next ?_ (F.args_tuple_iterator_next_1 _)));show wpAny _ _ (field (.ref it) 0>>=_) _ _ z;refine ae (cE q1 hd (x:=.ref c0) rfl ?_);show wpAny _ _ (if (Value.ref c0==Value.none)=true then _ else _) _ _ z;rw[bX (show ¬((Value.ref c0==Value.none)=true)from ki)];show wpAny _ _ (field (.ref it) 1>>=_) _ _ z;refine ae (cE q1 hd (x:=.int i 0) rfl ?_);show wpAny _ _ (seqItems? (.ref c0)>>=_) _ _ z;refine ae (eA q2 q3 ?_);simp only[bE,hx];refine ae (EM (ae (wpAny_setField q1 hd oz ?_)));show wpAny _ _ (newExc (.type "StopIteration") []>>=_) _ _ _;refine ae ?_;simp only[newExc,newTuple];refine ae (fT ?_ (by size_fits));refine ae (m:=firstArgMember _ _) (wpAny_of_eq (a:=Value.none) (by first|rfl | (simp only[firstArgMember];rfl)) ?_);refine fT ?_ (by size_fits);simp only[raiseNew];refine ae (wpAny_handled ?_)
 first|rw[show A.in1.handled=none from hh] | rw[hh]
 refine ae (ar (wpAny_throw ?_));exact hE _ _ (((Heap.SameBut.update ..).extBut.push _).push _) ⟨_,Heap.get?_push_size _ rfl,rfl⟩
end
theorem Heap.IsTuple.on{its:Array Value}(y:h.IsTuple c0 its)(k:∀ o,h.get? c0=some o->h'.get? c0=some o):h'.IsTuple c0 its:=let ⟨o,e,r⟩:=y;⟨o,k o e,r⟩
theorem Heap.IsTupleIter.on(y:h.IsTupleIter it c0 i)(k:∀ o,h.get? it=some o->h'.get? it=some o):h'.IsTupleIter it c0 i:=let ⟨o,e,r⟩:=y;⟨o,k o e,r⟩
theorem Fo(hh:A.handled=none)(it c0:Addr)(hne:c0≠it)(its:Array Value): Draws P w A it [it,c0] its.size (fun i v=>its[i]?=some v) (fun i h=>h.IsTupleIter it c0 i/\h.IsTuple c0 its) where
 live:=fun _ _ st=>by obtain⟨o,e,_⟩:=st.1;exact⟨o,e⟩
 frame:=fun _ _ _ st hk=>⟨st.1.on fun o e=>hk it oz o e,st.2.on fun o e=>hk c0 oz o e⟩
 item:=fun i z Q E hi st hQ=>sH st.1 st.2 (x:=its[i]) (by simp[hi]) fun h' Xd BY=>hQ _ h' z.toks (by simp[hi]) ⟨Xd,st.2.extBut BY.extBut hne⟩ BY
 done:=fun z Q E st hE=>uV hh st.1 st.2 oz hE
end PySem
namespace L2
open PySem PySem.Spec PyProof.Rows
def qW(K:W.Frag)(a:Addr):It :=
 ⟨fun i H=>∃ xs x,SqT K H a xs/\xs[i]?=some x,fun i H x J=>∃ p y,x=.ref p/\H p=none/\(∀ xs,SqT K H a xs->xs[i]?=some y)/\J=upd H p (.tup [.int i,y]),fun i H=>∃ xs,SqT K H a xs/\xs.length<=i⟩
theorem Cq{x1}(a e it:Addr)(hne:e≠it)(hea:e≠a)(ZY:a≠it): Turn P w K (.Tuple elts x1 pos) (qW K a) [e,it] e (fun i h=>(∃ old,IsEnum h e it (i:Nat) old)/\h.IsTupleIter it a i) where
 mem:=by simp
 obj:=fun i h st b hb=>by
  obtain⟨⟨old,s1⟩,o,e1,c,d⟩:=st;rcases ai.mp hb with rfl|hb
  .exact⟨_,s1,fun v z=>by
    have z':Data.fields _=Data.cell v:=z
    cases z'⟩
  have q:b=it:=by simpa using hb
  subst q;exact⟨o,e1,fun v z=>by rw[d]at z;cases z⟩
 keep:=fun i h h' st k=>⟨⟨st.1.choose,k e oz _ st.1.choose_spec⟩,st.2.on fun o q=>k it oz o q⟩
 item:=by
  intro X hP hw hK hc i Y s M H E I hf st hg;subst hP hw hK;obtain⟨xs,x,hq,hx⟩:=hg;obtain⟨its,rv,p,hz⟩:=I.tuple hq;obtain⟨u,hu,ru⟩:=rv.get hx;obtain⟨⟨old,he⟩,hit⟩:=st;have D:=Fo (P:=X.prog) (w:=X.w) (A:=X.A.in1) (I.ok.hd hc) it a ZY its.toArray
  have f':i<its.toArray.size:=by
   have:=(List.getElem?_eq_some_iff.mp hu).1
   simpa using this
  refine wpAny_pyNext_enum_itemD D he ⟨hit,(show s.heap.IsTuple a its.toArray from p)⟩ f' hne (by simp[hne,hea]) fun x' h' tk hP ho stn tp sz kk=>?_
  obtain rfl:x'=u:=by
   have h1:its.toArray[i]?=some u:=by simpa using hu
   rw[hP]at h1;exact kK h1
  refine⟨_,Z,wpAny_letOwnedTupleGo_enum (s:={ s with heap:=h',toks:=tk+1 }) ho fun h2 IH sb=>?_⟩
  have f':∀ b∈[e,it],b<s.heap.objs.size:=fun b hb=>by
   rcases ai.mp hb with rfl|hb
   .exact aw he
   have q:b=it:=by simpa using hb
   subst q;obtain⟨_,e1,_⟩:=hit;exact aw e1
  have ME:∀ b∈[e,it],b≠s.heap.objs.size:=fun b hb=>bg (f' b hb)
  have PR:h2.get? s.heap.objs.size=some { cls:=.type "tuple",data:=.seq #[.int i tk,x'] }:=(sb.2 _ (aS (ME e oz))).trans tp
  have I2:Inv X Y M (upd H s.heap.objs.size (.tup [.int i,x])) { s with heap:=h2,toks:=tk+1 }:=by
   refine I.turns (fp:=[e,it]) hf (fun b v hb q=>?_) (qnr _) ⟨xS,[.int i tk,x'],.cons ⟨_,rfl⟩ (.cons ru .nil),⟨_,PR,rfl,_,rfl⟩⟩;have b1:b≠e:=fun z=>hb (by simp[z])
   have b2:b≠it:=fun z=>hb (by simp[z])
   exact(sb.2 b b1).trans (kk b v b1 b2 q)
  refine⟨.ref s.heap.objs.size,_,I2,Z,⟨_,x,Z,I.hok.fresh (qnr _),(fun ys hy=>by rw[I.pf hy hq];exact hx),Z⟩,⟨⟨x',?_⟩,?_⟩,fun b hb=>?_⟩
  .have q:((i+1:Nat):Int)=(i:Int)+1:=G
   rw[q];exact IH
  .exact stn.1.on fun o q=>(sb.2 it (aS hne)).trans q
  rw[aA (ME b hb)];exact(hf b hb).1
 done:=by
  intro X hP hw hK hc i Y s M H E I hf st hg;subst hP hw hK;obtain⟨xs,hq,hx⟩:=hg;obtain⟨its,rv,p,hz⟩:=I.tuple hq;obtain⟨⟨old,he⟩,hit⟩:=st;obtain⟨f0,f1,f2,f3,f4,f5⟩:=hf it oz;have hl:=rv.length;have D:=Fo (P:=X.prog) (w:=X.w) (A:=X.A.in1) (I.ok.hd hc) it a ZY its.toArray;have hT:s.TypeIs (.ref e) "enumerate":=⟨_,he,rfl⟩
  unfold pyNext;refine ae (sP (wpAny_callSpecial?_slot (name:=Str.ofString "__next__") hT F.slot_enumerate_next (fv F.slot_enumerate_next hT F.entry_enumerate_next ?_ (F.args_enumerate_next_1 _))));show wpAny _ _ (field (.ref e) 2>>=_) _ _ _;refine ae (cE he rfl (x:=.ref it) rfl ?_);refine ae (uV (I.ok.hd hc) hit (show s.heap.IsTuple a its.toArray from p) (by simp;exact G) fun h' y eb hx'=>?_);obtain⟨o,q1,q2⟩:=hx';refine ae (wpAny_isInstance (T := "StopIteration") (b:=true) ⟨o,q1,q2⟩ isSubtype_stop ?_);exact ar ⟨rfl,I.turned (t':=s.toks) (fun b o hb q=>eb b o hb q) f0 f1 f3 f4 f5⟩
 self:=fun _ _ _ _ _ st h=>rS st.1.choose_spec h
def Fp(K:W.Frag)(tl:TE):TI:=fun M H R=>tl M H fun x H1=>∃ a,x=.ref a/\(∃ xs,SqT K H1 a xs)/\R (qW K a) H1
theorem Jc{x1} {pt:Pos} {l:Expr}  (hl:PE X l tl) (hg:Gl X "enumerate") (hm:X.mg "enumerate"=none)
  (he:starEach [l] X.env=(false,eval l X.env):: starEach [] X.env:=by rfl) (ic:(backTo e_ (starEach [] X.env)).any (·.1)=false:=by rfl):
  PI X (.Tuple elts x1 pt) (.Call (.Name "enumerate" p) [l] [] e_) (Fp X.K tl):=by
 intro Y s M H R I h;refine c9 (gP I hg hm Bt.enumerate ?_ b9 b9);have h':vW tl oE M H (fun vs H1=>match vs with | [x]=>∃ a,x=.ref a/\(∃ xs,SqT X.K H1 a xs)/\R (qW X.K a) H1|_=>False):=h;refine dn (thn ((aa hl aj he) e_ Y s M H _ I h') fun us s1 ⟨vs,H1,I1,r1,q1⟩=>?_) he ic
 obtain⟨x,rfl⟩:∃ x,vs=[x]:=by
  match vs,q1 with
  |[x],_=>exact⟨x,Z⟩
 obtain⟨a,rfl,⟨xs,hq⟩,q⟩:=q1;obtain⟨u,rfl,ru⟩:=vals1 r1;cases ru;obtain⟨its,rv,p,hz⟩:=I1.tuple hq;have pT:s1.heap.IsTuple a its.toArray:=p
 have f':a<s1.heap.objs.size:=by
  obtain⟨_,e1,_⟩:=pT;exact aw e1
 refine Fl pT fun h' SR li sz kk=>?_
 refine rS SR ?_;refine⟨s1.heap.objs.size+1,[s1.heap.objs.size+1,s1.heap.objs.size],_,_,H1,Z,I1.kept (t':=s1.toks) kk,Cq a (s1.heap.objs.size+1) s1.heap.objs.size (Nat.succ_ne_self _) (b_ (oj f')) (bg f'),⟨⟨_,SR⟩,li⟩,fun b hb=>?_,q⟩;rcases ai.mp hb with rfl|hb
 .exact I1.tj G (I1.hok.fresh G)
 have e:b=s1.heap.objs.size:=by simpa using hb
 subst e;exact I1.tj (qnr _) (I1.hok.fresh (qnr _))
section
variable{x1:Nat}{pt:Pos}{l:Expr}
theorem Lq(hl:PE X l tl) (hm:X.mg "enumerate"=none) (hg:X.env.scope.names.lookup ("enumerate":Str)=some .globalImplicit:=by kernel_rfl)
  (he:starEach [l] X.env=(false,eval l X.env):: starEach [] X.env:=by rfl) (ic:(backTo e_ (starEach [] X.env)).any (·.1)=false:=by rfl):
  PI X (.Tuple elts x1 pt) (.Call (.Name "enumerate" p) [l] [] e_) (Lp X.K tl):=M3 hl hg hm he ic
theorem oO(hl:PE X l tl) (hm:X.mg "enumerate"=none) (hg:X.env.scope.names.lookup ("enumerate":Str)=some .globalImplicit:=by kernel_rfl)
  (he:starEach [l] X.env=(false,eval l X.env):: starEach [] X.env:=by rfl) (ic:(backTo e_ (starEach [] X.env)).any (·.1)=false:=by rfl):
  PI X (.Tuple elts x1 pt) (.Call (.Name "enumerate" p) [l] [] e_) (Fp X.K tl):=Jc hl hg hm he ic
end
section
variable{g:TG}{tb:TS}{Q:VK}
theorem oR(Pv:Nat->St->Hp->Prop)(h0:Pv 0 M H)(hx:∀ i M H,i<=xs.length->Pv i M H->SqT K H a xs)(hs:∀ i x M H,xs[i]?=some x->Pv i M H->∀ p,H p=none->g (.ref p) M (upd H p (.tup [.int i,x])) fun σ2 H2=>tb { D with nx:=Pv (i+1),ct:=Pv (i+1),bk:=D.nx } σ2 H2)(hd:∀ M H,Pv xs.length M H->D.nx M H):∃ W:Nat->Nat->St->Hp->Prop,(∃ m,W 0 m M H)/\∀ i m M H,W i m M H -> ((qW K a).stop i H/\D.nx M H)\/((qW K a).go i H/\∃ N:St->Hp->Prop,(∀ σ' J,N σ' J->∃ m',m'<m/\W (i+1) m' σ' J)/\∀ x J,(qW K a).JI i H x J->g x M J fun σ2 H2=>tb { D with nx:=N,ct:=N,bk:=D.nx } σ2 H2):=by
 refine⟨fun i m M H=>m=xs.length-i/\i<=xs.length/\Pv i M H,⟨xs.length,oz,mi _,h0⟩,?_⟩;rintro i m M H ⟨rfl,hi,p⟩;have q:=hx i M H hi p
 by_cases f':i<xs.length
 .refine .inr ⟨⟨xs,xs[i],q,by simp[f']⟩,Pv (i+1),fun σ' J p'=>⟨xs.length-(i+1),G,rfl,f',p'⟩,fun x J y=>?_⟩
  obtain⟨r,z,rfl,hn,hz,rfl⟩:=y;exact hs i z M _ (hz xs q) p r hn
 have e:i=xs.length:=G
 subst e;exact .inl ⟨⟨xs,q,qnr _⟩,hd M H p⟩
theorem sI(Pv:Nat->List V->Hp->Prop)(h0:Pv 0 [] H)(hn:xs.length<=sizeLine)(hl:∀ i ys H,Pv i ys H->ys.length<=i)(hx:∀ i ys H,Pv i ys H->SqT K H a xs)(hs:∀ i x ys H,xs[i]?=some x->Pv i ys H->∀ p,H p=none->g (.ref p) (cR ix M) (upd H p (.tup [.int i,x])) fun σ2 H2=>Ext (cR ix M) σ2/\tt σ2 H2 fun ok H3=>if ok=true then te σ2 H3 fun y H4=>Pv (i+1) (ys++[y]) H4 else Pv (i+1) ys H3)(hd:∀ ys H,Pv xs.length ys H->∀ p,H p=none->Q (.ref p) (upd H p (.lst ys))):iR (qW K a) ix g tt te M H Q:=by
 refine⟨fun i m ys H=>m=xs.length-i/\i<=xs.length/\Pv i ys H,⟨xs.length,oz,mi _,h0⟩,?_⟩;rintro i m ys H ⟨rfl,hi,p⟩;have q:=hx i ys H p;refine⟨g9 (hl _ _ _ p) (g9 hi hn),?_⟩
 by_cases f':i<xs.length
 .refine .inr ⟨⟨xs,xs[i],q,by simp[f']⟩,Pv (i+1),fun ys' J p'=>⟨xs.length-(i+1),G,rfl,f',p'⟩,fun x J y=>?_⟩
  obtain⟨r,z,rfl,hn',hz,rfl⟩:=y;exact hs i z ys _ (hz xs q) p r hn'
 have e:i=xs.length:=G
 subst e;exact .inl ⟨⟨xs,q,qnr _⟩,hd ys H p⟩
end
section
def Lr(n:Nat)(lo hi:Option Int):Prop:=HT.fN n 0 lo=0/\HT.fN n n hi=n
instance (n:Nat) (lo hi:Option Int):Decidable (Lr n lo hi):=by unfold Lr;infer_instance
def SX(r:V->List V->Hp->VK->Prop)(to:TE)(t:TA):TE:=fun M H Q=>to M H fun x H1=>∃ p ys,x=.ref p/\H1 p=some (.tup ys)/\t M H1 fun xs H2=>r x xs H2 Q
variable{o:Expr}{t:TA}{id:String}{r:V->List V->Hp->VK->Prop}
theorem Qg(slot:Slot "tuple" name id) (BO:typeOf (.builtin id)=pure (.type "method_descriptor")) (hm:z4 X id r) (ho:PE X o to) (ha:PA X (e::es) t) (oB:attributeBase o name X.env (eval o X.env)=eval o X.env:=by rfl)
  (EB:((backTo e_ (starEach (e::es) X.env)).all (fun x=>!x.1)&&(backToKw e_ (keywordEach [] X.env)).all (fun x=>x.1.isSome)&&decide ((e::es).length+([]:List Keyword).length+(if ([]:List Keyword).isEmpty then 0 else 1)<30))=true:=by rfl)
  (sL:(apos.endLine==e_.line)=true:=by rfl) (hs:starEach (e::es) X.env=(false,eval e X.env):: starEach es X.env:=by rfl) (sF:(backTo e_ (starEach es X.env)).any (·.1)=false:=by rfl):
  PE X (.Call (.Attribute o name apos) (e::es) [] e_) (SX r to t):=by
 intro Y s M H Q I h;refine wpAny_Call_method_late oB EB sL rfl (thn (ho Y s M H _ I h) fun v s1 ⟨x,H1,I1,r1,p,ys,ex,hp,q1⟩=>?_);subst ex;have ev:v=Value.ref p:=r1;subst ev;obtain⟨_,its,_,ob,e1,c1,n,d1⟩:=(show ft X.prog X.w H1 s1.heap p (.tup ys)from I1.hok p _ hp)
 refine⟨"tuple",id,PySem.F.plainAttrs_tuple,slot,BO,⟨ob,e1,c1⟩,fun a ea=>?_,?_⟩
 .cases ea
  exact⟨ob,e1,b4 Prod.snd d1⟩
 have hA:=ha e_ Y s1 M H1 _ I1 q1;rw[hs]at hA ⊢;refine vS (by show(false||(backTo e_ (starEach es X.env)).any (·.1))=false;rw[sF]<;>rfl) (AH ?_);exact thn hA fun us s2 ⟨vs,H2,I2,r2,q2⟩=>hm Y s2 M H2 _ vs _ us Q I2 r1 r2 q2
end
end L2
namespace PySem
section
variable{I:Addr}{wr:List Addr}{P:Nat->Value->Prop}{St:Nat->Heap->Prop}
theorem Fq(W:Walks P0 w A.in1 I fp wr n P St)(bt:Nat->Nat->Bool)(NI:CmpOf P0 w A.in1 .Lt P bt)(S:Addr)(Lo:S∉fp)(d:Value):
  ∀(k j:Nat) (z:Shared) (vb:Value) (c:Nat),n-(j+1)=k->j+1<=n->St (j+1) z.heap->P (argBest bt j) vb->z.heap.get? S=some { cls:=.type "list",dict:=none,data:=.seq #[vb,vb] c,slots:=#[] } ->
  (∀ v h' tk,P (argBest bt (n-1)) v->(∀ b o,b∉wr->b≠S->z.heap.get? b=some o->h'.get? b=some o)->R (.ok (.ret v)) { z with heap:=h',toks:=tk }) ->
  codeAny (model P0 w) A (.builtin "min.loop" ⟨[.ref I,.none,.ref S],[("default",d)]⟩) R z:=by
 have Vk:S∉wr:=fun y=>Lo (W.sub _ y)
 have q0:(toString "min"++toString ".loop" : String)="min.loop":=by decide
 intro k
 induction k with
 | zero =>
  intro j z vb c hk hj ia Vm hS hR;have nK:j+1=n:=G
  refine oi F.entry_min_loop ?_;rw[ka ij _];show wpAny _ A.in1 (seqItems? (.ref S)>>=_) _ _ z;refine ae (eA hS rfl ?_);show wpAny _ A.in1 (tryCatch (pyNext (.ref I)) _>>=_) _ _ z;refine ae (pS (W.done z _ _ (nK ▸ ia) fun h' tk y3=>?_));have q1:=y3 S _ Vk hS;show wpAny _ A.in1 (updateSeq S (fun _=>#[])>>=_) _ _ _;refine ae ?_;refine iX q1 rfl (ae (nt (ar ?_)));exact hR vb _ tk (by rw[<- nK];exact Vm) fun b o ya IJ e=>(Heap.get?_update_other _ _ (aS IJ)).trans (y3 b o ya e)
 | succ k ih =>
  intro j z vb c hk hj ia Vm hS hR;have f':j+1<n:=G
  refine oi F.entry_min_loop ?_;rw[ka ij _];show wpAny _ A.in1 (seqItems? (.ref S)>>=_) _ _ z;refine ae (eA hS rfl ?_);show wpAny _ A.in1 (tryCatch (pyNext (.ref I)) _>>=_) _ _ z;refine ae (pS (W.item (j+1) z _ _ f' ia fun v h' tk hP Ic y3=>?_));have q1:=y3 S _ Vk hS;show wpAny _ A.in1 (tryCatch (holding [v,v] (richCompare .Lt v vb>>=_)) _>>=_) _ _ _;refine ae (pS (fz (ae (NI (j+1) (argBest bt j) v vb _ _ _ hP Vm ?_))));refine ae (fz (df ?_));refine ae (nt (ar ?_));cases hb:bt (j+1) (argBest bt j)with
  | true =>
   simp only[i6];refine ae ?_;refine iX q1 rfl (ae (nt ?_));rw[q0];refine ar ⟨mT ij _,ih (j+1) _ v _ G f' (W.frame _ _ _ Ic fun b Xq o e=>?_) (by simp only[argBest,hb,i6];exact hP) (Heap.get?_update_self _ q1 rfl) fun v' Tx C3 Ta EA=>?_⟩
   .exact(Heap.get?_update_other _ _ (fun y:S=b=>Lo (by rw[y];exact Xq))).trans e
   exact hR v' Tx C3 Ta fun b o ya IJ e=>EA b o ya IJ ((Heap.get?_update_other _ _ (aS IJ)).trans (y3 b o ya e))
  | false =>
   simp only[gs,jS];refine ae (nt ?_);rw[q0];refine ar ⟨mT ij _,ih (j+1) _ vb c G f' Ic (by simp only[argBest,hb,gs,jS];exact Vm) q1 fun v' Tx C3 Ta EA=>?_⟩;exact hR v' Tx C3 Ta fun b o ya IJ e=>EA b o ya IJ (y3 b o ya e)
theorem Cr(W:Walks P0 w A.in1 I fp wr n P St)(bt:Nat->Nat->Bool)(NI:CmpOf P0 w A.in1 .Lt P bt)(S:Addr)(Lo:S∉fp)(d:Value){z:Shared}(ia:St 0 z.heap)
  (hS:z.heap.get? S=some { cls:=.type "list",dict:=none,data:=.seq #[] c,slots:=#[] })
  (hR:0<n->∀ v h' tk,P (argBest bt (n-1)) v->(∀ b o,b∉wr->b≠S->z.heap.get? b=some o->h'.get? b=some o)->R (.ok (.ret v)) { z with heap:=h',toks:=tk })
  (hE:n=0->∀ h' tk,(∀ b o,b∉wr->b≠S->z.heap.get? b=some o->h'.get? b=some o)->R (.ok (.ret d)) { z with heap:=h',toks:=tk }):
  codeAny (model P0 w) A (.builtin "min.loop" ⟨[.ref I,.none,.ref S],[("default",d)]⟩) R z:=by
 have Vk:S∉wr:=fun y=>Lo (W.sub _ y)
 have q0:(toString "min"++toString ".loop" : String)="min.loop":=by decide
 refine oi F.entry_min_loop ?_;rw[ka ij _];show wpAny _ A.in1 (seqItems? (.ref S)>>=_) _ _ z;refine ae (eA hS rfl ?_);show wpAny _ A.in1 (tryCatch (pyNext (.ref I)) _>>=_) _ _ z
 by_cases hn:n=0
 .refine ae (pS (W.done z _ _ (hn ▸ ia) fun h' tk y3=>?_))
  show wpAny _ A.in1 (rule _>>=_) _ _ _;refine ae (EM (ar ?_));exact hE hn h' tk fun b o ya _ e=>y3 b o ya e
 have hn:0<n:=G
 refine ae (pS (W.item 0 z _ _ hn ia fun v h' tk hP Ic y3=>?_));have q1:=y3 S _ Vk hS;show wpAny _ A.in1 (updateSeq S (fun _=>#[v,v])>>=_) _ _ _;refine ae ?_;refine iX q1 rfl ?_;rw[q0];refine ar ⟨mT ij _,Fq W bt NI S Lo d _ 0 _ v _ rfl hn (W.frame _ _ _ Ic fun b Xq o e=>?_) hP (Heap.get?_update_self _ q1 rfl) fun v' Tx C3 Ta EA=>?_⟩
 .exact(Heap.get?_update_other _ _ (fun y:S=b=>Lo (by rw[y];exact Xq))).trans e
 exact hR hn v' Tx C3 Ta fun b o ya IJ e=>EA b o ya IJ ((Heap.get?_update_other _ _ (aS IJ)).trans (y3 b o ya e))
end
theorem Ft(a v:Value):argsOk "min" ⟨[a],[(Str.ofString "default",v)]⟩:=by unfold argsOk;kernel_rfl
section
variable{z:Shared}{l:Addr}{xs:Array (Int×Tok)}
theorem Fv{d:Value}(hh:A.handled=none)(hl:z.heap.IsList l (intItems xs))(h1:0<xs.size->∀ v h' tk,(intItems xs)[argBest (fun i j=>decide (numAt xs i<numAt xs j)) (xs.size-1)]?=some v->(∀ b o,z.heap.get? b=some o->h'.get? b=some o)->Q v { z with heap:=h',toks:=tk })(h0:xs.size=0->∀ h' tk,(∀ b o,z.heap.get? b=some o->h'.get? b=some o)->Q d { z with heap:=h',toks:=tk }): wpAny (model P0 w) A (call (.builtin "min") [.ref l] [(Str.ofString "default",d)]) Q E z:=by
 have q0:(toString "min"++toString ".loop" : String)="min.loop":=by decide
 refine PyProof.Rows.kmk_tree F.kind_min F.plain_min F.entry_min (Ft _ _) ?_;show wpAny _ A.in1 (Builtin.Builtins.bindParams "min" ["key","default"] 0 ⟨[],[(Str.ofString "default",d)]⟩>>=_) _ _ z;refine ae (wpAny_of_eq (show Builtin.Builtins.bindParams "min" ["key","default"] 0 ⟨[],[(Str.ofString "default",d)]⟩=pure [none,some d]from rfl) ?_);refine ae (ar ?_);refine ae (iter_intList hl fun s₂ e st hfp hlI=>?_);subst e;refine ae (fT ?_);have hsz:(intItems xs).size=xs.size:=by simp[intItems]
 have W:=Walks.list (prog:=P0) (w:=w) (A:=A.in1) hh z.heap.objs.size l hlI (intItems xs);have Lo:(z.heap.push { cls:=.type "list_iterator",data:=.fields #[.ref l,.int 0 0] }).objs.size∉[z.heap.objs.size,l]:=fun hm=>cw _ (hfp _ hm)
 rw[q0];refine ar ⟨mT ij _,Cr W _ (CmpOf.ints_lt (numAt xs) (fun _ _=>As)) _ Lo d (W.frame _ _ _ st fun b _ o e=>Heap.get?_push_of_some _ e) (Heap.get?_push_size _ rfl) (fun hn v h' tk hP hk=>?_) (fun hn h' tk hk=>?_)⟩
 .refine h1 (by rw[<- hsz];exact hn) v h' tk (by rw[<- hsz];exact hP) (old_kept fun b o ya e=>hk b o ya (bg (aw e)) (Heap.get?_push_of_some _ e))
 exact h0 (by rw[<- hsz];exact hn) h' tk (old_kept fun b o ya e=>hk b o ya (bg (aw e)) (Heap.get?_push_of_some _ e))
end
end PySem
namespace L2
open PySem PySem.Spec PyProof.Rows
def Rv(K:W.Frag)(tl:TE):TE:=fun M H Q=>tl M H fun x H1=>∃(p:Addr)(ns:List Int),x=.ref p/\b5 K H1 p (ns.map V.int)/\(ns=[]->Q .non H1)/\∀ aad,aad∈ns->(∀ a∈ns,aad<=a)->Q (.int aad) H1
theorem M5{kp dp:Pos}  {l:Expr}  (hc:X.calm=true) (hl:PE X l tl) (hm:X.mg "min"=none) (hg:X.env.scope.names.lookup ("min":Str)=some .globalImplicit:=by kernel_rfl)
  (he:starEach [l] X.env=(false,eval l X.env):: starEach [] X.env:=by rfl):
  PE X (.Call (.Name "min" p) [l] [⟨some "default",.Constant .none j dp,kp⟩] e_) (Rv X.K tl):=by
 intro Y s M H Q I h;refine c9 (gP I hg hm Bt.min ?_ b9 b9);refine callWith_kw ?_ (by rw[he];rfl) (by rw[he];rfl) rfl rfl;have h':vW tl oE M H (fun vs H1=>match vs with | [x]=>∃(p:Addr)(ns:List Int),x=.ref p/\b5 X.K H1 p (ns.map V.int)/\(ns=[]->Q .non H1)/\∀ aad,aad∈ns->(∀ a∈ns,aad<=a)->Q (.int aad) H1|_=>False):=h;refine thn ((aa hl aj he) e_ Y s M H _ I h') fun us s1 ⟨vs,H1,I1,r1,q1⟩=>?_
 obtain⟨x,rfl⟩:∃ x,vs=[x]:=by
  match vs,q1 with
  |[x],_=>exact⟨x,Z⟩
 obtain⟨a,ns,rfl,hp,q0,q⟩:=q1;obtain⟨u,rfl,ru⟩:=vals1 r1;cases ru;refine kws_cons (thn (bM Y s1 M H1 (fun x H2=>x=.non /\ H2=H1) I1 ⟨rfl,rfl⟩) fun dv s2 ⟨x,H2,I2,r2,ex,eH⟩=>kws_nil ?_);subst ex eH;cases r2;have I1:=I2;obtain⟨its,rv,pl,hz⟩:=I1.list hp;have hi:=intsAre_of rv;have hh:X.A.handled=none:=I1.ok.hd hc;obtain⟨xs,e⟩:=hi.allInts.items
 have pe:ns=xs.toList.map (·.1):=by
  rw[<- hi.numsOf,<- CY,<- e]
 have hlen:ns.length=xs.size:=by rw[pe,de,ax]
 have hl:=pl.isList;rw[e]at hl;refine Fv hh hl (fun hn v h' tk hv hk=>?_) (fun hn h' tk hk=>?_)
 .obtain⟨t,rfl⟩:=As hv
  obtain⟨h1,h2⟩:=argBest_lt (numAt xs) (xs.size-1);refine⟨.int _,_,I1.kept (t':=tk) hk,⟨t,Z⟩,q _ ?_ fun b hb=>?_⟩
  .rw[pe,Ap];exact getD_mem (by rw[de,ax];exact G)
  rw[pe]at hb;obtain⟨m,hm,rfl⟩:=mem_getD hb;rw[de,ax]at hm;rw[<- Ap];exact h2 m G
 exact⟨.non,_,I1.kept (t':=tk) hk,Z,q0 (C0 G)⟩
theorem Cu:kD X (binaryOp .Mult) (fun x y H Q=>∃ z n,x=.str z/\y=.int n/\z.length<=1000/\-1000<=n/\n<=1000/\Q (.str (Txt.mul z n)) H):=by
 intro Y s M H x y v u Q I rx ry h;obtain⟨z,n,rfl,rfl,hz,h1,h2,q⟩:=h;obtain⟨t,rfl⟩:=rx;obtain⟨t',rfl⟩:=ry;exact SB.mul (mulOk_of 1000 1000 hz h2 G b9 b9) fun t' k=>⟨.str _,H,I.tok _,⟨t',rfl⟩,q⟩
theorem bits_fit{a n:Int}(ha:a.natAbs<2^1024)(hn:n<=1000000):(Builtin.Int.intBits a:Int)+n<=2^27:=by
 have h:Builtin.Int.intBits a<=1024:=intBits_le ha;exact G
def ug(i j:Int):Prop:=0<=j/\j<=1000000/\i.natAbs<2^1024
theorem jj:kD X (binaryOp .LShift) (rI ug fun i j=>.int (i*2^j.toNat)):=J_ fun _ _ _ _ _ _ _ hc q=>lshift_int hc.1 (bits_fit hc.2.2 hc.2.1) q
end L2
namespace PySem
open Sem (wp)
open Builtin
open AutoSeq1 (wpAny_loadPart')
theorem vQ(l:Addr)(its:List Value)(n:Nat)(dd:Option Addr)(sl:Array (Option Value))(k:Int)(u:Tok)(h1:2<=k)(h2:k<2^63)(hne:its.toArray.isEmpty=false)(hz:its.toArray.size*k.toNat<=sizeLine): Meets (Builtin.«tuple.__mul__» ⟨[.ref l,.int k u],[]⟩) (fun _ R s=>s.heap.get? l=some { cls:=.type "tuple",dict:=dd,data:=.seq its.toArray n,slots:=sl }/\R (.ok (.ret (Value.ref s.heap.objs.size))) { s with heap:=s.heap.push { cls:=Value.type "tuple",data:=Data.seq (List.replicate k.toNat its).flatten.toArray },toks:=s.toks }):=
 .of_wp fun prog w A R s h=>by
  obtain⟨hp,g,d,tk,os⟩:=s;obtain⟨hl,h⟩:=h;have c1:(k < -(2^63)||k ≥ 2^63)=false:=by simp;exact G
  have c2:(its.toArray.isEmpty||k==1)=false:=by rw[hne];simp;exact G
  have c3:(k<=0||its.toArray.isEmpty)=false:=by rw[hne];simp;exact G
  have Zw:((its.toArray.size:Int)*k)=((its.toArray.size*k.toNat:Nat):Int):=by
   have e:k=((k.toNat:Nat):Int):=G
   conv=>lhs;rw[e]
   rw[<- me]
  have hsl:(sizeLine:Nat)<=(2^63-1)/8:=by decide
  have Vr:((2:Int)^63-1)/8=(((2^63-1)/8:Nat):Int):=by decide
  have c4:decide ((its.toArray.size:Int)*k>(2^63-1)/8)=false:=gS (by rw[Zw,Vr];exact G)
  wp_walk using eC hl
  refine kM (by rw[c1];rfl) ?_
  wp_walk using eC hl
  refine kM (by rw[c2];rfl) ?_
  wp_walk using eC hl
  refine kM (by rw[c3];rfl) ?_
  wp_walk using eC hl
  refine kM c4 ?_
  wp_walk using eC hl
  have c5:Tuple.tupleTooMany ((its.toArray.size:Int)*k)=false:=by
   unfold Tuple.tupleTooMany;rw[Zw];exact gS G
  refine kM (by rw[c5];rfl) ?_
  wp_walk using eC hl
  have f0:List.foldl (fun x1 x2=>x1++x2) #[] (List.replicate k.toNat its.toArray)=(List.replicate k.toNat its).flatten.toArray:=by
   have:=L2.foldl_rep its k.toNat [];rw[List.nil_append]at this;exact this
  rw[f0];refine kM (gS (by rw[ah,L2.len_rep,mx];rw[ah]at hz;exact G)) ?_
  wp_walk using eC hl
  exact⟨_,Z,h⟩
theorem qX:fillsNumberSlot (.type "tuple") "mul"=pure false :=
 fillsNumberSlot_seq (id := "tuple.__mul__") (r:=some (.builtin "tuple.__rmul__")) F.slot_tuple_mul.lookup dk F.slot_tuple_rmul.lookup dk
theorem xu:seqRepeat? (.type "tuple")=pure (some (.builtin "tuple.__mul__")):=by
 unfold seqRepeat?;rw[seqSlot_of (T := "tuple") (name := "__mul__") (id := "tuple.__mul__") F.slot_tuple_mul.lookup dk,seqSlot_of (T := "tuple") (name := "__rmul__") (id := "tuple.__rmul__") F.slot_tuple_rmul.lookup dk]
 rfl
theorem uh(a:Int)(t:Tok)(l:Addr)(items:Array Value)(n:Nat)(dd:Option Addr)(sl:Array (Option Value)): Meets (Builtin.«int.__rmul__» ⟨[.int a t,.ref l],[]⟩) (fun _ R s=>s.heap.get? l=some { cls:=.type "tuple",dict:=dd,data:=.seq items n,slots:=sl }/\R (.ok (.ret Value.notImplemented)) s):=
 .of_wp fun prog w A R s h=>by obtain⟨hp,g,d,tk,os⟩:=s;obtain⟨hl,h⟩:=h;wp_walk;exact⟨_,Z,h⟩
end PySem
namespace L2
open PySem PyProof.Rows
inductive Qr(K:W.Frag)(x:V)(y:V)(H:Hp)(Q:VK):Prop
 |mk(a:Addr)(k:Int)(xs:List V)(_:x=.ref a)(_:y=.int k)(_:SqT K H a xs)(_:xs≠[])(_:2<=k)(_:k<2^63)(_:xs.length*k.toNat<=sizeLine)(_:∀ p,H p=none->Q (.ref p) (upd H p (.tup (List.replicate k.toNat xs).flatten)))
theorem M6:kD X (binaryOp .Mult) (Qr X.K):=by
 intro Y s M H x y v u Q I rx ry h;obtain⟨a,k,xs,rfl,rfl,ha,hne,h1,h2,hz,q⟩:=h;cases rx;obtain⟨t,rfl⟩:=ry;obtain⟨its,r,p1,hl⟩:=I.tuple ha;have hlen:its.length=xs.length:=r.length.symm;have hi:its≠[]:=fun z=>hne (r.rq.mp z)
 obtain⟨⟨cls,dd,data,sl⟩,ho,hc,n,hd⟩:=id p1;simp only at hc hd;subst hc hd;have UR:its.toArray.size*k.toNat<=sizeLine:=by rw[ah,hlen];exact hz
 refine wpAny_binaryOp_repeat_ref (T := "tuple") (U := "int") b9 ⟨_,ho,rfl⟩ (fun s'=>EN s' k t) qX F.fills_int_mul wt xu F.slot_int_index.lookup
  (gc wt (EN s k t) F.entry_int_rmul (F.args_int_rmul_2 _ _) (uh k t a its.toArray n dd sl)
   ⟨ho,rfl,⟨_,ho,rfl⟩,gc F.slot_tuple_mul ⟨_,ho,rfl⟩ F.entry_tuple_mul (F.args_tuple_mul_2 _ _) (vQ a its n dd sl k t h1 h2 (by cases its with
    |nil=>exact absurd rfl hi
    |cons x r=>rfl) UR) ⟨ho,?_⟩⟩)
 refine⟨.ref s.heap.objs.size,_,I.laid (t':=s.toks) (o:=.tup (List.replicate k.toNat xs).flatten) (fun b ob q=>Heap.get?_push_of_some _ q) (qnr _) ?_,Z,q _ (I.hok.fresh (qnr _))⟩;exact⟨by rw[len_rep,mx];exact hz,_,r.rep k.toNat,kA.new _ _⟩
end L2
namespace PySem
open AutoSeq1 (wpAny_loadPart')
abbrev Uu(h:Heap)(a:Addr):Heap:=h.push { cls:=.type "list_iterator",data:=.fields #[.ref a,.int 0 0] }
abbrev Ut(h:Heap)(a b:Addr):Heap:=(Uu h a).push { cls:=.type "tuple_iterator",data:=.fields #[.ref b,.int 0 0] }
abbrev Us(h:Heap)(a b:Addr):Heap:=(Ut h a b).push { cls:=.type "tuple",data:=.seq #[.ref h.objs.size,.ref (Uu h a).objs.size] }
abbrev Ur(h:Heap)(a b:Addr):Heap:=(Us h a b).push { cls:=.type "tuple",data:=.seq #[.none,.none] }
abbrev OB(h:Heap)(a b:Addr):Heap:=(Ur h a b).push { cls:=.type "zip",data:=.fields #[.none,.bool false,.bool false,.ref (Ut h a b).objs.size,.ref (Us h a b).objs.size] }
theorem Jd(a b:Addr)(us vs:Array Value): Meets (Builtin.«zip.__new__» ⟨[.type "zip",.ref a,.ref b],[]⟩) (fun _ R z=>z.heap.IsList a us/\z.heap.IsTuple b vs/\R (.ok (.ret (.ref (Ur z.heap a b).objs.size))) { z with heap:=OB z.heap a b }):=
 .of_wp fun P w A R z h=>by
  obtain⟨hp,g,d,tk,os⟩:=z;obtain⟨q1,q2,h⟩:=h;have D1:=sub_zip;have L1:Heap.IsList (Shared.heap ⟨hp,g,d,tk,os⟩) a us:=q1
  have L2:Heap.IsTuple (Shared.heap ⟨hp.push { cls:=.type "list_iterator",data:=.fields #[.ref a,.int 0 0] },g,d,tk,os⟩) b vs:=by
   obtain⟨o,e,r⟩:=q2;exact⟨o,Heap.get?_push_of_some _ e,r⟩
  wp_walk using rL L1,iO L2
  exact⟨_,Z,h⟩
section
variable{z:Shared}
structure qh(n a b:Nat)(i:Nat)(f:Value)(h:Heap):Prop where
 out:IsZip h (n+4) (n+2) (n+3) f
 its:IsPair h (n+2) (.ref n) (.ref (n+1))
 own:∃ x y,IsPair h (n+3) x y
 fst:h.IsListIter n a i
 snd:h.IsTupleIter (n+1) b i
theorem qh.on{n a b:Nat}{i:Nat}{f:Value}{h h':Heap}(x:qh n a b i f h)(k:∀ c:Nat,n<=c->c<=n+4->∀ o,h.get? c=some o->h'.get? c=some o):qh n a b i f h' :=
 ⟨k (n+4) (lP _ _) (qnr _) _ x.out,k (n+2) (lP _ _) (eR b9 _) _ x.its,let ⟨u,v,q⟩:=x.own;⟨u,v,k (n+3) (lP _ _) (eR b9 _) _ q⟩,x.fst.at fun o q=>k n (qnr _) (lP _ _) o q,x.snd.on fun o q=>k (n+1) (lP _ _) (eR b9 _) o q⟩
theorem Fw{a b:Nat}{us vs:Array Value}(q1:z.heap.IsList a us)(q2:z.heap.IsTuple b vs)(h:∀ h',qh z.heap.objs.size a b 0 .none h'->(∀(c:Nat) o,z.heap.get? c=some o->h'.get? c=some o)->Q (.ref (z.heap.objs.size+4)) { z with heap:=h' }): wpAny (model P w) A (call (.type "zip") [.ref a,.ref b]) Q E z:=by
 refine callType_new F.called_zip b9 (F.typeCall_zip_2 _ _) (F.newCall_zip_2 _ _) (fun obj=>F.args_object_init_3 obj _ _) F.entry_zip_new (Jd a b us vs) ⟨q1,q2,?_⟩;have s1:(Uu z.heap a).objs.size=z.heap.objs.size+1:=fe ..;have s2:(Ut z.heap a b).objs.size=z.heap.objs.size+2:=by rw[fe,s1]
 have s3:(Us z.heap a b).objs.size=z.heap.objs.size+3:=by rw[fe,s2]
 have s4:(Ur z.heap a b).objs.size=z.heap.objs.size+4:=by rw[fe,s3]
 have e5:(OB z.heap a b).get? (Ur z.heap a b).objs.size=some _:=Heap.get?_push_size _ rfl;have e4:(OB z.heap a b).get? (Us z.heap a b).objs.size=some _:=Heap.get?_push_of_some _ (Heap.get?_push_size _ rfl);have e3:(OB z.heap a b).get? (Ut z.heap a b).objs.size=some _:=Heap.get?_push_of_some _ (Heap.get?_push_of_some _ (Heap.get?_push_size _ rfl));have e2:(OB z.heap a b).get? (Uu z.heap a).objs.size=some _:=Heap.get?_push_of_some _ (Heap.get?_push_of_some _ (Heap.get?_push_of_some _ (Heap.get?_push_size _ rfl)));have e1:(OB z.heap a b).get? z.heap.objs.size=some _:=Heap.get?_push_of_some _ (Heap.get?_push_of_some _ (Heap.get?_push_of_some _ (Heap.get?_push_of_some _ (Heap.get?_push_size _ rfl))));show _/\_;rw[s2,s3,s4]at e5;rw[s1,s2]at e3;rw[s3]at e4;rw[s1]at e2;rw[s4];exact⟨⟨_,e5,Z⟩,h _ ⟨e5,e3,⟨_,_,e4⟩,⟨_,e1,Z,Z⟩,⟨_,e2,Z,Z⟩⟩ fun c o x=>Heap.get?_push_of_some _ (Heap.get?_push_of_some _ (Heap.get?_push_of_some _ (Heap.get?_push_of_some _ (Heap.get?_push_of_some _ x))))⟩
theorem Fx{a b:Nat}{us vs:Array Value}{x y:Value}{Q:Option Value->Shared->Prop}(ha:a<n)(hb:b<n)(st:qh n a b i .none z.heap)(la:z.heap.IsList a us)(lb:z.heap.IsTuple b vs)(hx:us[i]?=some x)(hy:vs[i]?=some y)(hQ:∀ h',qh n a b (i+1) (rawInt z.heap.objs.size) h'->IsPair h' z.heap.objs.size x y->(∀(c:Nat) o,(c<n\/n+4<c)->z.heap.get? c=some o->h'.get? c=some o)->Q (some (.ref z.heap.objs.size)) { z with heap:=h' }): wpAny (model P w) A (pyNext (.ref (n+4))) Q E z:=by
 obtain⟨qz,qi,⟨u0,v0,qo⟩,q1,q2⟩:=st;have hT:z.TypeIs (.ref (n+4)) "zip":=⟨_,qz,rfl⟩
 unfold pyNext;refine ae (sP (wpAny_callSpecial?_slot (name:=Str.ofString "__next__") hT gX (fv gX hT tJ ?_ (se _))));show wpAny _ _ (field (.ref (n+4)) 2>>=_) _ _ _;refine ae (cE qz rfl (x:=.bool false) rfl ?_);show wpAny _ _ (field (.ref (n+4)) 3>>=_) _ _ _;refine ae (cE qz rfl (x:=.ref (n+2)) rfl ?_);refine ae (eA qi rfl ?_);show wpAny _ _ (Builtin.SmallTypes.ownedTupleIsFree (.ref (n+4))>>=_) _ _ _;refine ae ?_;unfold Builtin.SmallTypes.ownedTupleIsFree;refine ae (cE qz rfl (x:=.none) rfl (ar ?_));simp only[i6];refine ae (EM ?_);refine ae (cE qz rfl (x:=.ref (n+3)) rfl ?_);refine ae (iN qz oz fun h1 MD k1=>?_)
 replace MD:IsZip h1 (n+4) (n+2) (n+3) .ellipsis:=MD
 refine ae ?_;simp only[List.zipIdx_nil,List.zipIdx_cons,nz,kf];refine ae (ae (wpAny_onRaise ?_));show wpAny _ _ (Builtin.SmallTypes.nextOf (.ref n)>>=_) _ _ _;refine ae (vj (q1.extBut k1.extBut kT) (la.extBut k1.extBut kT) hx fun h2 q12 k2=>ar ?_);have Zo:IsPair h2 (n+3) u0 v0:=k2.extBut _ _ kT (k1.extBut _ _ kT qo);refine ae (eA Zo rfl ?_);refine ae (wpAny_updateSeq_pair Zo fun h3 Wc k3=>?_)
 replace Wc:IsPair h3 (n+3) x v0:=Wc
 refine ae (nt (ar ?_));refine ae (ae (wpAny_onRaise ?_));show wpAny _ _ (Builtin.SmallTypes.nextOf (.ref (n+1))>>=_) _ _ _;have VU:∀(c:Nat) o,c≠n+4->c≠n+3->c≠n->z.heap.get? c=some o->h3.get? c=some o:=fun c o c1 c2 c3 e=>k3.extBut _ _ c2 (k2.extBut _ _ c3 (k1.extBut _ _ c1 e))
 refine ae (sH (q2.on fun o e=>VU _ o kT kT kT e) (lb.on fun o e=>VU _ o kT kT kT e) hy fun h4 q24 k4=>ar ?_);have Zn:IsPair h4 (n+3) x v0:=k4.extBut _ _ kT Wc;refine ae (eA Zn rfl ?_);refine ae (wpAny_updateSeq_pair Zn fun h5 UE k5=>?_)
 replace UE:IsPair h5 (n+3) x y:=UE
 refine ae (nt (ar (ar ?_)));refine ae (eA UE rfl ?_);refine ae (wpAny_newTuple ?_);have hsz:h5.objs.size=z.heap.objs.size:=by rw[k5.1,k4.1,k3.1,k2.1,k1.1]
 have Zd:∀(c:Nat) o,c≠n+4->c≠n+3->c≠n->c≠n+1->z.heap.get? c=some o->h5.get? c=some o:=fun c o c1 c2 c3 c4 e=>k5.extBut _ _ c2 (k4.extBut _ _ c4 (VU c o c1 c2 c3 e))
 have Zl:IsZip h5 (n+4) (n+2) (n+3) .ellipsis:=k5.extBut _ _ kT (k4.extBut _ _ kT (k3.extBut _ _ kT (k2.extBut _ _ kT MD)));have q15:h5.IsListIter n a (i+1):=((q12.extBut k3.extBut kT).extBut k4.extBut kT).extBut k5.extBut kT;have q25:h5.IsTupleIter (n+1) b (i+1):=q24.extBut k5.extBut kT;have lz:n+4<h5.objs.size:=aw Zl;show wpAny _ _ (Builtin.SmallTypes.ownedTupleHandOut (.ref (n+4)) (.ref h5.objs.size)>>=_) _ _ _;refine ae ?_;unfold Builtin.SmallTypes.ownedTupleHandOut;have qz6:IsZip (h5.push { cls:=.type "tuple",data:=.seq #[x,y] }) (n+4) (n+2) (n+3) .ellipsis:=Heap.get?_push_of_some _ Zl;refine ae (iN qz6 oz fun h7 Wb k7=>?_)
 replace Wb:IsZip h7 (n+4) (n+2) (n+3) (rawInt h5.objs.size):=Wb
 refine iN Wb oz fun h8 UD k8=>?_
 replace UD:IsZip h8 (n+4) (n+2) (n+3) (rawInt h5.objs.size):=UD
 have up:∀(c:Nat) o,c≠n+4->h5.get? c=some o->h8.get? c=some o:=fun c o c1 e=>k8.extBut _ _ c1 (k7.extBut _ _ c1 (Heap.get?_push_of_some _ e))
 have Zm:IsPair h8 h5.objs.size x y:=k8.extBut _ _ (b_ lz) (k7.extBut _ _ (b_ lz) (Heap.get?_push_size _ rfl));rw[hsz]at UD Zm;refine ar ⟨_,rfl,ar ?_⟩;show Q (some (.ref h5.objs.size)) _;rw[hsz]
 exact hQ h8 ⟨UD,up _ _ kT (Zd _ _ kT kT kT kT qi),⟨_,_,up _ _ kT UE⟩,q15.at fun o e=>up _ o kT e,q25.on fun o e=>up _ o kT e⟩ Zm
  fun c o hc e=>up c o kT (Zd c o kT kT kT kT e)
theorem Je{a b:Nat}{us vs:Array Value}{Q:Option Value->Shared->Prop}(hh:A.handled=none)(ha:a<n)(hb:b<n)(st:qh n a b i .none z.heap)(la:z.heap.IsList a us)(lb:z.heap.IsTuple b vs)(hx:us[i]?=none)(hQ:∀ h',(∀(c:Nat) o,(c<n\/n+4<c)->z.heap.get? c=some o->h'.get? c=some o)->Q none { z with heap:=h' }): wpAny (model P w) A (pyNext (.ref (n+4))) Q E z:=by
 obtain⟨qz,qi,⟨u0,v0,qo⟩,q1,q2⟩:=st;have hT:z.TypeIs (.ref (n+4)) "zip":=⟨_,qz,rfl⟩
 unfold pyNext;refine ae (sP (wpAny_callSpecial?_slot (name:=Str.ofString "__next__") hT gX (fv gX hT tJ ?_ (se _))));show wpAny _ _ (field (.ref (n+4)) 2>>=_) _ _ _;refine ae (cE qz rfl (x:=.bool false) rfl ?_);show wpAny _ _ (field (.ref (n+4)) 3>>=_) _ _ _;refine ae (cE qz rfl (x:=.ref (n+2)) rfl ?_);refine ae (eA qi rfl ?_);show wpAny _ _ (Builtin.SmallTypes.ownedTupleIsFree (.ref (n+4))>>=_) _ _ _;refine ae ?_;unfold Builtin.SmallTypes.ownedTupleIsFree;refine ae (cE qz rfl (x:=.none) rfl (ar ?_));simp only[i6];refine ae (EM ?_);refine ae (cE qz rfl (x:=.ref (n+3)) rfl ?_);refine ae (iN qz oz fun h1 MD k1=>?_)
 replace MD:IsZip h1 (n+4) (n+2) (n+3) .ellipsis:=MD
 refine ae ?_;simp only[List.zipIdx_nil,List.zipIdx_cons,nz,kf];refine ae (ae (wpAny_onRaise ?_));show wpAny _ _ (Builtin.SmallTypes.nextOf (.ref n)>>=_) _ _ _;refine ae (wpAny_nextOf_list_end hh (q1.extBut k1.extBut kT) (la.extBut k1.extBut kT) hx fun h2 e k2 he=>?_);obtain⟨oe,e1,e2⟩:=he;have qz2:IsZip h2 (n+4) (n+2) (n+3) .ellipsis:=k2 _ _ kT MD;have hez:e≠n+4:=fun x=>by subst x;rw[qz2]at e1;cases e1;simp at e2
 refine iN qz2 oz fun h3 _ k3=>?_
 refine ae (wpAny_isInstance (T := "StopIteration") (b:=true) ⟨oe,k3.extBut _ _ hez e1,e2⟩ isSubtype_stop ?_);exact ar (hQ _ fun c o hc q=>k3.extBut _ _ kT (k2 _ _ kT (k1.extBut _ _ kT q)))
end
end PySem
namespace L2
open PySem PySem.Spec PyProof.Rows
theorem Inv.Bz(I:Inv X Y M H s)(hf:∀ b∈fp,iK X Y H b)(k:∀ b u,b∉fp->s.heap.get? b=some u->h'.get? b=some u): Inv X Y M H { s with heap:=h',toks:=t' }:=by
 have nf:∀ b u,H b=some u->b∉fp:=fun b u e z=>by rw[(hf b z).1]at e;cases e
 refine I.step (g':=s.gens) (d':=s.drawn) (ch:=fp) (fun b hb=>?_) (fun b u _ _ hc e _=>k b u hc e) (fun b u _ _ hc e _=>⟨u.slots,k b u hc e⟩) (fun _ _ _ _ n=>n)
  (fun b u hc e=>⟨u,k b u hc e⟩) (fun _ _ e=>e) (fun _ _ _ e=>e) (fun b ps e=>⟨#[],by rw[e];simp⟩) (fun m hm=>?_) (fun b u e=>?_) I.bare
 .obtain⟨_,f1,_,f3,f4,f5⟩:=hf b hb
  exact⟨f3,f1,f4,f5⟩
 .obtain⟨ob,es,ep,ho,r⟩:=hm
  exact⟨ob,es,ep,k _ ob (fun z=>(hf _ z).2.1 rfl) ho,r⟩
 refine(I.hok b u e).stay (fun c v hc q=>k c v ?_ q) (fun _ q=>q) fun _ _ q=>q
 rcases hc with z|z
 .rw[z];exact nf b u e
 exact nf c _ z
def YW(K:W.Frag)(a b:Addr):It :=
 ⟨fun i H=>∃ xs ys x y,b5 K H a xs/\SqT K H b ys/\xs[i]?=some x/\ys[i]?=some y,fun i H v J=>∃ p x y,v=.ref p/\H p=none/\(∀ xs,b5 K H a xs->xs[i]?=some x)/\(∀ ys,SqT K H b ys->ys[i]?=some y)/\J=upd H p (.tup [x,y]),
  fun i H=>∃ xs ys,b5 K H a xs/\SqT K H b ys/\xs.length<=i⟩
theorem C1:c∈[n+4,n+3,n+2,n+1,n]↔n<=c/\c<=n+4:=by
 simp only[ai,p_,or_false];exact G
theorem Jf{x1}(a b n:Nat)(ha:a<n)(hb:b<n): Turn P w K (.Tuple elts x1 pos) (YW K a b) [n+4,n+3,n+2,n+1,n] (n+4) (fun i h=>qh n a b i .none h) where
 mem:=by simp
 obj := fun i h st c hc=>by
  have field:∀{o:Obj}{vs:Array Value},o.data=.fields vs->∀ v,o.data≠.cell v:=fun d v q=>by rw[d]at q;cases q
  have P8:∀{o:Obj}{vs:Array Value}{m:Nat},o.data=.seq vs m->∀ v,o.data≠.cell v:=fun d v q=>by rw[d]at q;cases q
  simp only[ai,p_,or_false]at hc;rcases hc with rfl|rfl|rfl|rfl|rfl
  .exact⟨_,st.out,field rfl⟩
  .obtain⟨u,v,q⟩:=st.own
   exact⟨_,q,P8 rfl⟩
  .exact⟨_,st.its,P8 rfl⟩
  .obtain⟨o,e,_,d⟩:=st.snd
   exact⟨o,e,field d⟩
  obtain⟨o,e,_,d⟩:=st.fst;exact⟨o,e,field d⟩
 keep:=fun i h h' st k=>st.on fun c c1 c2 o q=>k c (C1.mpr ⟨c1,c2⟩) o q
 item:=by
  intro X hP hw hK hc i Y s M H E I hf st hg;subst hP hw hK;obtain⟨xs,ys,x,y,hq,hr,hx,hy⟩:=hg;obtain⟨its,rv,p,hz⟩:=I.list hq;obtain⟨MS,qB,p',UR⟩:=I.tuple hr;obtain⟨u,hu,ru⟩:=rv.get hx;obtain⟨v,hv,V7⟩:=qB.get hy;refine Fx ha hb st p.isList (show s.heap.IsTuple b MS.toArray from p') (x:=u) (y:=v) (by simpa using hu) (by simpa using hv) fun h' iA tp kk=>?_
  have lz:n+4<s.heap.objs.size:=aw st.out;refine⟨_,Z,wpAny_letOwnedTupleGo_zip (s:={ s with heap:=h' }) iA.out fun h2 qz2 sb=>?_⟩;have ME:∀ c∈[n+4,n+3,n+2,n+1,n],c≠s.heap.objs.size:=fun c hc=>bg (ku (C1.mp hc).2 lz)
  have PR:h2.get? s.heap.objs.size=some { cls:=.type "tuple",data:=.seq #[u,v] }:=(sb.2 _ kT).trans tp
  have I2:Inv X Y M (upd H s.heap.objs.size (.tup [x,y])) { s with heap:=h2,toks:=s.toks }:=by
   refine I.turns (fp:=[n+4,n+3,n+2,n+1,n]) hf (fun(c:Nat) o hc q=>?_) (qnr _) ⟨xS,[u,v],.cons ru (.cons V7 .nil),⟨_,PR,rfl,_,rfl⟩⟩;have y7:¬(n<=c/\c<=n+4):=fun z=>hc (C1.mpr z)
   have ng:c<n\/n+4<c:=G
   exact(sb.2 c (by refine(?_:@Ne Nat _ _);exact G)).trans (kk c o ng q)
  refine⟨.ref s.heap.objs.size,_,I2,Z,⟨_,x,y,Z,I.hok.fresh (qnr _),(fun zs hy=>by rw[I.sq hy hq];exact hx),(fun zs hz=>by rw[I.pf hz hr];exact hy),Z⟩,?_,fun c hc=>?_⟩
  .refine⟨qz2,(sb.2 _ kT).trans iA.its,let ⟨u,v,q⟩:=iA.own;⟨u,v,(sb.2 _ kT).trans q⟩,iA.fst.at fun o q=>(sb.2 _ kT).trans q,iA.snd.on fun o q=>(sb.2 _ kT).trans q⟩
  rw[aA (ME c hc)];exact(hf c hc).1
 done:=by
  intro X hP hw hK hc i Y s M H E I hf st hg;subst hP hw hK;obtain⟨xs,ys,hq,hr,hx⟩:=hg;obtain⟨its,rv,p,hz⟩:=I.list hq;obtain⟨MS,qB,p',UR⟩:=I.tuple hr;have hl:=rv.length;refine Je (I.ok.hd hc) ha hb st p.isList (show s.heap.IsTuple b MS.toArray from p') (by simp;exact G) fun h' kk=>⟨rfl,?_⟩
  exact I.Bz (fp:=[n+4,n+3,n+2,n+1,n]) hf fun(c:Nat) o hc q=>kk c o (by
   have y7:¬(n<=c/\c<=n+4):=fun z=>hc (C1.mpr z)
   exact G) q
 self:=fun _ _ _ _ _ st h=>wpAny_pyIter_zip st.out h
def Qh(K:W.Frag)(t:TA):TI:=fun M H R=>t M H fun vs H1=>∃ a b,vs=[.ref a,.ref b]/\(∃ xs,b5 K H1 a xs)/\(∃ ys,SqT K H1 b ys)/\R (YW K a b) H1
theorem Qi{x1} {pt:Pos} {l m:Expr} {t:TA} (ha:PA X [l,m] t) (hg:Gl X "zip") (hm:X.mg "zip"=none)
  (he:starEach [l,m] X.env=(false,eval l X.env):: starEach [m] X.env:=by rfl) (ic:(backTo e_ (starEach [m] X.env)).any (·.1)=false:=by rfl):
  PI X (.Tuple elts x1 pt) (.Call (.Name "zip" p) [l,m] [] e_) (Qh X.K t):=by
 intro Y s M H R I h;refine c9 (gP I hg hm Bt.zip ?_ b9 b9);refine dn (thn (ha e_ Y s M H _ I h) fun us s1 ⟨vs,H1,I1,r1,q1⟩=>?_) he ic;obtain⟨a,b,rfl,⟨xs,hq⟩,⟨ys,hr⟩,q⟩:=q1;cases r1 with
 | cons ra rr =>
  cases rr with
  | cons rb rr =>
   cases rr;cases ra;cases rb;obtain⟨its,rv,p,hz⟩:=I1.list hq;obtain⟨MS,qB,p',UR⟩:=I1.tuple hr;have pT:s1.heap.IsTuple b MS.toArray:=p'
   have la:a<s1.heap.objs.size:=by
    obtain⟨_,e1,_⟩:=p.isList;exact aw e1
   have lb:b<s1.heap.objs.size:=by
    obtain⟨_,e1,_⟩:=pT;exact aw e1
   refine Fw p.isList pT fun h' st kk=>?_
   refine wpAny_pyIter_zip st.out ?_;refine⟨s1.heap.objs.size+4,_,_,_,H1,Z,I1.kept (t':=s1.toks) kk,Jf a b s1.heap.objs.size la lb,st,fun c hc=>?_,q⟩;have hc:s1.heap.objs.size<=c:=(C1.mp hc).1;exact I1.tj hc (I1.hok.fresh hc)
theorem Tc{x1} {pt:Pos} {l m:Expr} {t:TA} (ha:PA X [l,m] t) (hm:X.mg "zip"=none) (hg:X.env.scope.names.lookup ("zip":Str)=some .globalImplicit:=by kernel_rfl)
  (he:starEach [l,m] X.env=(false,eval l X.env):: starEach [m] X.env:=by rfl) (ic:(backTo e_ (starEach [m] X.env)).any (·.1)=false:=by rfl):
  PI X (.Tuple elts x1 pt) (.Call (.Name "zip" p) [l,m] [] e_) (Qh X.K t):=Qi ha hg hm he ic
section
variable{g:TG}{Q:VK}
theorem Jg(MU:xs.length=ys.length)(Pv:Nat->List V->Hp->Prop)(h0:Pv 0 [] H)(hn:xs.length<=sizeLine)(hl:∀ i zs H,Pv i zs H->zs.length<=i)(hx:∀ i zs H,Pv i zs H->b5 K H a xs/\SqT K H b ys)(hs:∀ i x y zs H,xs[i]?=some x->ys[i]?=some y->Pv i zs H->∀ p,H p=none->g (.ref p) (cR ix M) (upd H p (.tup [x,y])) fun σ2 H2=>Ext (cR ix M) σ2/\tt σ2 H2 fun ok H3=>if ok=true then te σ2 H3 fun v H4=>Pv (i+1) (zs++[v]) H4 else Pv (i+1) zs H3)(hd:∀ zs H,Pv xs.length zs H->∀ p,H p=none->Q (.ref p) (upd H p (.lst zs))):iR (YW K a b) ix g tt te M H Q:=by
 refine⟨fun i m zs H=>m=xs.length-i/\i<=xs.length/\Pv i zs H,⟨xs.length,oz,mi _,h0⟩,?_⟩;rintro i m zs H ⟨rfl,hi,p⟩;obtain⟨q,q'⟩:=hx i zs H p;refine⟨g9 (hl _ _ _ p) (g9 hi hn),?_⟩
 by_cases f':i<xs.length
 .refine .inr ⟨⟨xs,ys,xs[i],ys[i],q,q',by simp[f'],by simp[MU ▸ f']⟩,Pv (i+1),fun ys' J p'=>⟨xs.length-(i+1),G,rfl,f',p'⟩,fun x J y=>?_⟩
  obtain⟨r,z1,z2,rfl,hn',UQ,Wx,rfl⟩:=y;exact hs i z1 z2 zs _ (UQ xs q) (Wx ys q') p r hn'
 have e:i=xs.length:=G
 subst e;exact .inl ⟨⟨xs,ys,q,q',qnr _⟩,hd zs H p⟩
end
theorem all_strs(ns ms:List Str):((List.range (min ns.length ms.length)).all (fun j=>ns.getD j ⟨#[]⟩ == ms.getD j ⟨#[]⟩)&&ns.length==ms.length)=decide (ns=ms):=by
 by_cases h:ns=ms
 .subst h
  rw[cK rfl];simp
 rw[gS h];cases hl:(ns.length==ms.length)with
 |false=>simp
 | true =>
  have hl:ns.length=ms.length:=by simpa using hl
  rw[Bool.and_true];refine Bool.eq_false_iff.mpr fun z=>h (List.ext_getElem hl fun j h1 h2=>?_)
  have:=bP.mp z j (eP.mpr G);have this:ns.getD j ⟨#[]⟩=ms.getD j ⟨#[]⟩:=by simpa using this
  rw[List.getD,List.getD,List.getElem?_eq_getElem h1,List.getElem?_eq_getElem h2]at this;exact this
theorem Ax(r:Vals (ns.map V.str) us):us.length=ns.length/\∀(j:Nat)(h:j<us.length),∃ t,us[j]=.str (ns.getD j ⟨#[]⟩) t:=by
 have hl:us.length=ns.length:=by
  have:=r.length;rw[de]at this;exact this.symm
 refine⟨hl,fun j h=>?_⟩;have hj:j<ns.length:=G
 obtain⟨u,hu,ru⟩:=r.get (i:=j) (x:=V.str ns[j]) (by rw[kg,List.getElem?_eq_getElem hj];rfl);obtain⟨t,rfl⟩:=ru;refine⟨t,?_⟩;rw[List.getElem?_eq_getElem h]at hu;rw[kK hu,List.getD,List.getElem?_eq_getElem hj]
 rfl
inductive QA(K:W.Frag)(x:V)(y:V)(H:Hp)(Q:VK):Prop
 |mk(a b:Addr)(ns ms:List Str)(_:x=.ref a)(_:y=.ref b)(_:SqT K H a (ns.map V.str))(_:SqT K H b (ms.map V.str))(_:Q (.bl (!decide (ns=ms))) H)
theorem Ay(hu:X.A.units<cLine):kD X (compareOp .NotEq) (QA X.K):=by
 intro Y s M H x y v u Q I rx ry h;obtain⟨a,b,ns,ms,rfl,rfl,ha,hb,q⟩:=h;cases rx;cases ry;obtain⟨its,r1,p1,_⟩:=I.tuple ha;obtain⟨iE,r2,p2,_⟩:=I.tuple hb;obtain⟨l1,i1⟩:=Ax r1;obtain⟨l2,i2⟩:=Ax r2;refine SeqAt.RcNeAt.tuples (e:=fun j=>ns.getD j ⟨#[]⟩ == ms.getD j ⟨#[]⟩) p1 p2 hu (fun j h1 h2=>?_) _ _ _ _ ?_
 .obtain⟨t1,e1⟩:=i1 j (by simpa using h1)
  obtain⟨t2,e2⟩:=i2 j (by simpa using h2);have e1':its.toArray[j]=.str (ns.getD j ⟨#[]⟩) t1:=by simpa using e1
  have Fc:iE.toArray[j]=.str (ms.getD j ⟨#[]⟩) t2:=by simpa using e2
  rw[e1',Fc];exact ER _ _ _ _
 rw[show its.toArray.size=ns.length by simpa using l1,show iE.toArray.size=ms.length by simpa using l2,all_strs];exact⟨.bl (!decide (ns=ms)),H,I,Z,q⟩
inductive MB(K:W.Frag)(f:Bool->Bool)(x:V)(y:V)(H:Hp)(Q:VK):Prop
 |mk(a b:Addr)(xs:List V)(_:x=.ref a)(_:y=.ref b)(_:b5 K H a xs)(_:b5 K H b [])(_:Q (.bl (f xs.isEmpty)) H)
theorem xx(hu:X.A.units<cLine):kD X (compareOp .Eq) (MB X.K id):=by
 intro Y s M H x y v u Q I rx ry h;obtain⟨a,b,xs,rfl,rfl,ha,hb,q⟩:=h;cases rx;cases ry;obtain⟨its,r1,p1,_⟩:=I.list ha;obtain⟨iE,r2,p2,_⟩:=I.list hb;cases r2;cases r1 with
 | nil =>
  refine SeqAt.eq_listAt (e:=fun _=>true) p1.isList p2.isList rfl hu (fun j h1 _=>absurd h1 (Nat.not_lt_zero j)) ?_;exact⟨.bl true,H,I,Z,q⟩
 |cons r t=>exact SeqAt.eq_list_lengthsAt p1.isList p2.isList oz hu ⟨.bl false,H,I,rfl,q⟩
theorem us0{P:List Value->Prop}(h:P []):∀ us:List Value,us.length=0->P us
 |[],_=>h
theorem PF{P:List Value->Prop}(h:∀(a:Value)(us:List Value),us.length=n->P (a::us)):∀ us:List Value,us.length=n+1->P us
 |a::us,e=>h a us (Nat.succ.inj e)
theorem VT{P:List Value->Prop}(h:∀ a,P [a]):∀ us:List Value,us.length=1->P us:=PF fun a=>us0 (P:=fun us=>P (a::us)) (h a)
theorem LH{P:List Value->Prop}(h:∀ a b,P [a,b]):∀ us:List Value,us.length=2->P us:=PF fun a=>VT (P:=fun us=>P (a::us)) (h a)
theorem VS{P:List Value->Prop}(h:∀ a b c,P [a,b,c]):∀ us:List Value,us.length=3->P us:=PF fun a=>LH (P:=fun us=>P (a::us)) (h a)
theorem VR{P:List Value->Prop}(h:∀ a b c d,P [a,b,c,d]):∀ us:List Value,us.length=4->P us:=PF fun a=>VS (P:=fun us=>P (a::us)) (h a)
theorem Zc{P:List Value->Prop}(h:∀ a b c d e,P [a,b,c,d,e]):∀ us:List Value,us.length=5->P us:=PF fun a=>VR (P:=fun us=>P (a::us)) (h a)
section
variable{k:Nat}{E:XK}{o:Expr}{t:TA}
theorem Ls(aad:Mk X.K C f)(F:g7 X.prog X.w X.K X.mg X.base CX k f fd ps sp)(hr:fI (k+1) X.A)(hm:X.mg x=some (.ref C))(hb:Binds X.K fd ps [])(hx:eN CX X E)(ha:PA X (e::es) t)
  (hg:X.env.scope.names.lookup x=some .globalImplicit:=by kernel_rfl) (mf:(x==("__debug__":Str))=false:=by kernel_rfl) (he:starEach (e::es) X.env=(false,eval e X.env):: starEach es X.env:=by rfl) (ic:(backTo pos (starEach es X.env)).any (·.1)=false:=by rfl):
  PE X (.Call (.Name x p) (e::es) [] pos) (vY C sp [] E t):=Mu aad F hr hg hm hb .nil hx ha mf he ic
end
open PySem PyProof.Rows
inductive EK(K:W.Frag)(H:Hp):Nat->V->V->Prop
 |same (n:Nat) (a:Addr):EK K H n (.ref a) (.ref a)
 |int (n:Nat) (i:Int):EK K H n (.int i) (.int i)
 |str (n:Nat) (x:Str):EK K H n (.str x) (.str x)
 |tup {n:Nat} {a b:Addr} {xs ys:List V} (h1:SqT K H a xs) (h2:SqT K H b ys) (hl:xs.length=ys.length) (h:∀(j:Nat)(x y:V),xs[j]?=some x->ys[j]?=some y->EK K H n x y):EK K H (n+1) (.ref a) (.ref b)
 |lst {n:Nat} {a b:Addr} {xs ys:List V} (h1:b5 K H a xs) (h2:b5 K H b ys) (hl:xs.length=ys.length) (h:∀(j:Nat)(x y:V),xs[j]?=some x->ys[j]?=some y->EK K H n x y):EK K H (n+1) (.ref a) (.ref b)
theorem m9(n:Nat):((List.range n).all fun _=>true)=true:=by simp
theorem oU{K:W.Frag}{H:Hp}{iE:List Value}{R:Value->Value->Prop}(r1:Vals xs its)(r2:Vals ys iE)(h:∀(j:Nat)(x y:V),xs[j]?=some x->ys[j]?=some y->∀ u v,RelV x u->RelV y v->R u v)(j:Nat)(h1:j<its.toArray.size)(h2:j<iE.toArray.size):R its.toArray[j] iE.toArray[j]:=by
 have _g:j<xs.length:=by rw[r1.length];simpa using h1
 have _e:j<ys.length:=by rw[r2.length];simpa using h2
 obtain⟨u,e1,q1⟩:=r1.get (List.getElem?_eq_getElem _g);obtain⟨v,e2,q2⟩:=r2.get (List.getElem?_eq_getElem _e)
 have g1:its.toArray[j]=u:=by
  have:=(List.getElem?_eq_some_iff.mp e1).2
  simpa using this
 have g2:iE.toArray[j]=v:=by
  have:=(List.getElem?_eq_some_iff.mp e2).2
  simpa using this
 rw[g1,g2];exact h j _ _ (List.getElem?_eq_getElem _g) (List.getElem?_eq_getElem _e) u v q1 q2
theorem Jh(I:Inv X Y M H s){x:V}(h:EK X.K H n x y):∀{A:Around},A.units+n<cLine->∀ u v,RelV x u->RelV y v->SeqAt.EqAt A s u v true:=by
 induction h with
 | same n a =>
  intro A hu u v r1 r2;cases r1;cases r2;exact wm _
 | int n i =>
  rintro A hu u v ⟨t1,rfl⟩ ⟨t2,rfl⟩;have h:=SeqAt.EqAt.int_int (A:=A) (s:=s) i t1 i t2;rw[lp]at h;exact h
 | str n x =>
  rintro A hu u v ⟨t1,rfl⟩ ⟨t2,rfl⟩;have h:=ER (A:=A) (s:=s) x t1 x t2;rw[lp]at h;exact h
 | @tup n a b xs ys h1 h2 hl h ih =>
  intro A hu u v r1 r2;cases r1;cases r2
  by_cases e:a=b
  .subst e
   exact wm _
  obtain⟨its,q1,p1,_⟩:=I.tuple h1;obtain⟨iE,q2,p2,_⟩:=I.tuple h2;refine SeqAt.EqAt.of_refs e ?_;have z:=SeqAt.RcAt.tuples (A:=A) (s:=s) (e:=fun _=>true) p1 p2 G (fun j h1 h2=>oU (K:=X.K) (H:=H) (R:=fun u v=>SeqAt.EqAt A.in1 s u v true) q1 q2 (fun j x y e1 e2 u v r1 r2=>ih j x y e1 e2 (A:=A.in1) (by show A.units+1+n<cLine;exact G) u v r1 r2) j h1 h2)
  have e1:its.toArray.size=iE.toArray.size:=by
   have:=q1.length;have:=q2.length;simp;exact G
  rw[m9,e1,lp]at z;exact z
 | @lst n a b xs ys h1 h2 hl h ih =>
  intro A hu u v r1 r2;cases r1;cases r2
  by_cases e:a=b
  .subst e
   exact wm _
  obtain⟨its,q1,p1,_⟩:=I.list h1;obtain⟨iE,q2,p2,_⟩:=I.list h2
  have e1:its.toArray.size=iE.toArray.size:=by
   have:=q1.length;have:=q2.length;simp;exact G
  refine SeqAt.EqAt.of_refs e ?_;have z:=SeqAt.RcAt.lists (A:=A) (s:=s) (e:=fun _=>true) p1.isList p2.isList e1 G (fun j h1 h2=>oU (K:=X.K) (H:=H) (R:=fun u v=>SeqAt.EqAt A.in1 s u v true) q1 q2 (fun j x y e1 e2 u v r1 r2=>ih j x y e1 e2 (A:=A.in1) (by show A.units+1+n<cLine;exact G) u v r1 r2) j h1 h2);rw[m9]at z;exact z
def xF(K:W.Frag)(H:Hp)(x y:V):Prop:=∃(a b:Addr)(xs ys:List V),x=.ref a/\y=.ref b/\((SqT K H a xs/\SqT K H b ys)\/(b5 K H a xs/\b5 K H b ys))/\xs.length=ys.length/\∀(j:Nat)(x y:V),xs[j]?=some x->ys[j]?=some y->EK K H 60 x y
def Rw(K:W.Frag):R2:=fun x y H Q=>xF K H x y/\Q (.bl true) H
theorem Az(hu:X.A.units+64<cLine):kD X (compareOp .Eq) (Rw X.K):=by
 intro Y s M H x y v u Q I rx ry h;obtain⟨⟨a,b,xs,ys,rfl,rfl,A_,hl,hd⟩,k⟩:=h;cases rx;cases ry;have it:∀{its iE:List Value},Vals xs its->Vals ys iE->∀ j (h1:j<its.toArray.size) (h2:j<iE.toArray.size),SeqAt.EqAt X.A.in1 s its.toArray[j] iE.toArray[j] true:=fun q1 q2 j h1 h2=>oU (K:=X.K) (H:=H) (R:=fun u v=>SeqAt.EqAt X.A.in1 s u v true) q1 q2 (fun j x y e1 e2 u v r1 r2=>Jh I (hd j x y e1 e2) (A:=X.A.in1) (by show X.A.units+1+60<cLine;exact G) u v r1 r2) j h1 h2
 rcases A_ with⟨h1,h2⟩|⟨h1,h2⟩
 .obtain⟨its,q1,p1,_⟩:=I.tuple h1
  obtain⟨iE,q2,p2,_⟩:=I.tuple h2
  have e1:its.toArray.size=iE.toArray.size:=by
   have:=q1.length;have:=q2.length;simp;exact G
  refine SeqAt.eq_tupleAt (e:=fun _=>true) p1 p2 G (it q1 q2) ?_;rw[m9,e1,lp];exact⟨.bl true,H,I,Z,k⟩
 obtain⟨its,q1,p1,_⟩:=I.list h1;obtain⟨iE,q2,p2,_⟩:=I.list h2
 have e1:its.toArray.size=iE.toArray.size:=by
  have:=q1.length;have:=q2.length;simp;exact G
 refine SeqAt.eq_listAt (e:=fun _=>true) p1.isList p2.isList e1 G (it q1 q2) ?_;rw[m9];exact⟨.bl true,H,I,Z,k⟩
theorem Ji{ns:List Int}(h1:SqT K H a (ns.map V.int))(h2:SqT K H b (ns.map V.int))(n:Nat):EK K H (n+1) (.ref a) (.ref b):=by
 refine .tup h1 h2 rfl fun j x y e1 e2=>?_
 rw[kg]at e1 e2;cases e:ns[j]? with
 |none=>rw[e]at e1;cases e1
 | some i =>
  rw[e]at e1 e2;cases e1;cases e2;exact .int n i
theorem Jj(h1:SqT K H a (ns.map V.str))(h2:SqT K H b (ns.map V.str))(n:Nat):EK K H (n+1) (.ref a) (.ref b):=by
 refine .tup h1 h2 rfl fun j x y e1 e2=>?_
 rw[kg]at e1 e2;cases e:ns[j]? with
 |none=>rw[e]at e1;cases e1
 | some i =>
  rw[e]at e1 e2;cases e1;cases e2;exact .str n i
def Rx(K:W.Frag):List V->Hp->VK->Prop:=fun xs H Q=>∃(p:Addr)(ns:List Int),xs=[.ref p]/\SqT K H p (ns.map V.int)/\0<ns.length/\∀ aad,aad∈ns->(∀ a∈ns,aad<=a)->Q (.int aad) H
theorem Fy(hc:X.calm=true):dR X (.builtin "min") (Rx X.K):=by
 intro Y s M H xs us Q I r h;obtain⟨p,ns,rfl,hp,hne,q⟩:=h;obtain⟨u,rfl,ru⟩:=vals1 r;cases ru;obtain⟨its,rv,pl,hz⟩:=I.tuple hp;have hi:=intsAre_of rv;have hh:X.A.handled=none:=I.ok.hd hc;obtain⟨xs,e⟩:=hi.allInts.items;have pe:ns=xs.toList.map (·.1):=by rw[<- hi.numsOf,<- CY,<- e]
 have hsz:0<xs.size:=by
  have h3:=hne;rw[pe,de,ax]at h3;exact h3
 have hl:s.heap.IsTuple p its.toArray:=pl;rw[e]at hl
 have f':p<s.heap.objs.size:=by
  obtain⟨_,e1,_⟩:=hl;exact aw e1
 refine call_min_walk (iO hl ?_);refine⟨_,_,_,_,_,_,_,Z,Walks.tuple (A:=X.A.in1) hh s.heap.objs.size p (bg f') (intItems xs),⟨⟨_,Heap.get?_push_size _ rfl,Z,Z⟩,hl.on fun o q=>Heap.get?_push_of_some _ q⟩,fun b hb=>?_,by simpa[intItems]using hsz,CmpOf.ints_lt (numAt xs) (fun _ _=>As),fun v h' tk hP hk=>?_⟩
 .show b<(s.heap.push _).objs.size
  rw[fe];rcases ai.mp hb with rfl|hb
  .exact lI _
  rw[aI.mp hb];exact oj f'
 have hv:(intItems xs)[argBest (fun i j=>decide (numAt xs i<numAt xs j)) (xs.size-1)]?=some v:=by simpa[intItems]using hP
 have y3:∀ b o,s.heap.get? b=some o->h'.get? b=some o:=fun b o e1=>hk b o (fun z=>by
  rw[aI.mp z]at e1
  exact absurd (aw e1) (cw _)) (Heap.get?_push_of_some _ e1)
 obtain⟨t,rfl⟩:=As hv;obtain⟨h1,h2⟩:=argBest_lt (numAt xs) (xs.size-1);refine⟨.int _,H,I.kept (t':=tk) y3,⟨t,Z⟩,q _ ?_ fun a ha=>?_⟩
 .rw[pe,Ap]
  exact getD_mem (by rw[de,ax];exact G)
 rw[pe]at ha;obtain⟨j,hj,rfl⟩:=mem_getD ha;rw[de,ax]at hj;rw[<- Ap];exact h2 j G
def CGr(i j:Int):Prop:=i.natAbs<2^8192/\j.natAbs<2^8192
theorem Ba{a:Int}(ha:a.natAbs<2^8192):Builtin.Int.intBits a<=2^20:=by
 have h:Builtin.Int.intBits a<=8192:=intBits_le ha;have h2:8192<=2^20:=by decide
 exact G
theorem Bb:kD X (binaryOp .Mult) (rI CGr fun i j=>.int (i*j)):=J_ fun _ _ _ _ _ _ _ hc q=>mul_int q (.of_bits (Ba hc.1) (Ba hc.2))
end L2
namespace PySem
open Sem (wp)
open AutoSeq1 (wpAny_loadPart')
namespace RvT
def obj(l:Addr)(i:Int):Obj:={ cls:=.type "reversed",data:=.fields #[.ref l,rawInt i] }
end RvT
end PySem
namespace L2
open PySem PyProof.Rows
theorem yU:kD X (compareOp .NotIn) (fun x y H Q=>∃ a b,x=.str a/\y=.str b/\Q (.bl (!Txt.contains b a)) H):=by
 intro Y s M H x y v u Q I rx ry h;obtain⟨a,b,rfl,rfl,q⟩:=h;obtain⟨t,rfl⟩:=rx;obtain⟨t',rfl⟩:=ry;exact SB.notContains ⟨.bl _,H,I,rfl,q⟩
inductive DO(K:W.Frag)(y:V)(vs:List V)(H:Hp)(Q:VK):Prop
 |mk(p:Addr)(xs:List V)(x:V)(_:y=.ref p)(_:vs=[x])(_:b5 K H p xs)(_:fD x=true)(_:xs.all fD=true)(_:∀ j:Nat,j<=xs.length->j=xs.countP (fun z=>mn z x)->Q (.int j) H)
theorem Cv{x:V}(r:Vals xs us)(f:xs.all fD=true):us.countP (t4 x)=xs.countP (fun z=>mn z x):=by
 induction r with
 |nil=>rfl
 | @cons y v ys vs rv t ih =>
  rw[iq,ez]at f;rw[gd,gd,ih f.2,rZ rv f.1]
theorem Jk:z4 X "list.count" (DO X.K):=by
 intro Y s M H y vs v us Q I ry r h;obtain⟨p,xs,x,rfl,rfl,hp,fx,fs,q⟩:=h;cases ry;obtain⟨u,rfl,ru⟩:=vals1 r;obtain⟨its,rv,pl,hz⟩:=I.list hp;obtain⟨⟨cls,dd,data,sl⟩,n,ho,hc,Xn,hd2⟩:=pl;simp only at hc Xn hd2;subst hc Xn hd2
 refine gc PySem.F.slot_list_count ⟨_,ho,rfl⟩ PySem.F.entry_list_count (PySem.F.args_list_count_2 _ _)
  (SeqAt.list_countAt p its.toArray n none sl u (t4 x)) ⟨ho,fun y hy=>iu ru fx rv fs y (by simpa using hy),⟨.int _,H,I.tok _,⟨_,rfl⟩,?_⟩⟩
 have e:its.toArray.toList.countP (t4 x)=xs.countP (fun z=>mn z x):=by
  rw[<- Cv rv fs]
 rw[e];exact q _ (List.countP_le_length) rfl
end L2
namespace PySem
open PyProof.Rows
namespace StB
def It(h:Heap)(I:Addr)(first:Value)(i:Nat)(S:Addr)(n ep:Nat):Prop:=∃ o,h.get? I=some o/\o.cls=.type "set_iterator"/\o.data=.fields #[first,rawInt (i:Int),.ref S,rawInt (n:Int),rawInt (ep:Int)]
end StB
end PySem
namespace L2
open PySem PySem.Spec PyProof.Rows
theorem vR:z4 X "str.startswith" (fun x vs H Q=>∃ z y,x=.str z/\vs=[.str y]/\Q (.bl (Txt.startswith z y)) H):=by
 intro Y s M H x vs v us Q I rx r h;obtain⟨z,y,rfl,rfl,q⟩:=h;obtain⟨t,rfl⟩:=rx;obtain⟨u,rfl,t',rfl⟩:=vals1 r;exact SC.startswith ⟨.bl _,H,I,rfl,q⟩
theorem oV:z4 X "str.strip" (fun x vs H Q=>∃ z y,x=.str z/\vs=[.str y]/\z.length<=sizeLine/\Q (.str (Txt.stripChars z y)) H):=by
 intro Y s M H x vs v us Q I rx r h;obtain⟨z,y,rfl,rfl,hz,q⟩:=h;obtain⟨t,rfl⟩:=rx;obtain⟨u,rfl,t',rfl⟩:=vals1 r;exact SC.stripChars (fun t' k=>⟨.str _,H,I.tok _,⟨_,rfl⟩,q⟩) hz
theorem Cw:z4 X "str.lstrip" (fun x vs H Q=>∃ z y,x=.str z/\vs=[.str y]/\z.length<=sizeLine/\Q (.str (Txt.lstripChars z y)) H):=by
 intro Y s M H x vs v us Q I rx r h;obtain⟨z,y,rfl,rfl,hz,q⟩:=h;obtain⟨t,rfl⟩:=rx;obtain⟨u,rfl,t',rfl⟩:=vals1 r;exact SC.lstripChars (fun t' k=>⟨.str _,H,I.tok _,⟨_,rfl⟩,q⟩) hz
theorem uW:∀(l:List (Str×Tok)),Vals (l.map fun p=>V.str p.1) (strValues l)
 |[]=>.nil
 |p::r=>.cons ⟨p.2,rfl⟩ (uW r)
theorem xG:z4 X "str.split" (fun x vs H Q=>∃ z y,x=.str z/\vs=[.str y]/\¬y.length=0/\z.length<sizeLine/\(Txt.split z y).length <= sizeLine/\∀ p,H p=none->Q (.ref p) (upd H p (.lst ((Txt.split z y).map V.str)))):=by
 intro Y s M H x vs v us Q I rx r h;obtain⟨z,y,rfl,rfl,hy,hz,hn,q⟩:=h;obtain⟨t,rfl⟩:=rx;obtain⟨u,rfl,t',rfl⟩:=vals1 r;have US:(y.length==0)=false:=by simpa using hy
 have fin:∀(l:List (Str×Tok)) (k:Nat),l.map (·.1)=Txt.split z y->EP X Y M Q (.ref s.heap.objs.size) { s with toks:=k,heap:=s.heap.push { cls:=.type "list",data:=.seq (strValues l).toArray } }:=fun l k e=>by
  have e2:(l.map fun p=>V.str p.1)=(Txt.split z y).map V.str:=by rw[<- e,dr];rfl
  have rv:=uW l;rw[e2]at rv;exact⟨.ref _,_,I.MQ (t':=k) rv (by rw[de];exact hn),Z,q _ I.fresh⟩
 cases h1:(decide (z.length<y.length)||decide (Builtin.Str.strKind z<Builtin.Str.strKind y))
 .cases hf:(Builtin.Str.occurrences z y 0 z.length (z.length+1)).isEmpty
  .have e1:Txt.split z y=Builtin.Str.partsBetween z (Builtin.Str.occurrences z y 0 z.length (z.length+1)) y.length:=(bX (vk h1)).trans (bX (vk hf))
   refine gc F.slot_str_split (pV _ _ _) JA (EU _ _) (meets_str_split_sep z y t t' h1 US hf (mB hz) (by rw[<- e1];exact hn)) ?_;show wants _ _ _ { s with toks:=_,heap:=s.heap.push { cls:=.type "list",data:=.seq (strsFrom s.toks (Builtin.Str.partsBetween z (Builtin.Str.occurrences z y 0 z.length (z.length+1)) y.length)).toArray } };rw[strsFrom_eq];exact fin _ _ ((numbered_texts _ _).trans e1.symm)
  exact gc F.slot_str_split (pV _ _ _) JA (EU _ _) (meets_str_split_not_found z y t t' h1 US hf)
   (fin [(z,t)] s.toks ((bX (vk h1)).trans (qp hf)).symm)
 exact gc F.slot_str_split (pV _ _ _) JA (EU _ _) (meets_str_split_cannot_occur z y t t' h1) (fin [(z,t)] s.toks (qp h1).symm)
def cT(c:Nat):List Nat->List Nat
 |[]=>[]
 |d::r=>if d=c then []else d::cT c r
def cJ(c:Nat):List Nat->List Nat
 |[]=>[]
 |d::r=>if d=c then r else cJ c r
theorem uX{c:Nat}:∀{l:List Nat},(∀ i:Nat,l[i]?≠some c)->cT c l=l/\cJ c l=[]
 |[],_=>⟨rfl,rfl⟩
 | d::r,h=>by
  have h1:¬d=c:=fun e=>h 0 (by rw[e];rfl)
  obtain⟨e1,e2⟩:=uX (l:=r) fun i=>h (i+1)
  show(if d=c then []else d::cT c r)=_/\(if d=c then r else cJ c r)=_;rw[bX h1,bX h1,e1,e2];exact⟨Z,Z⟩
theorem Bc{c:Nat}:∀{l:List Nat}{i:Nat},l[i]?=some c->(∀ k,k<i->l[k]?≠some c)->cT c l=l.take i/\cJ c l=l.drop (i+1)
 |[],i,h,_=>by simp at h
 | d::r,0,h,_=>by
  have e:d=c:=by simpa using h
  show(if d=c then []else d::cT c r)=_/\(if d=c then r else cJ c r)=_;rw[qp e,qp e];exact⟨Z,Z⟩
 | d::r,i+1,h,hn=>by
  have h1:¬d=c:=fun e=>hn 0 G (by rw[e];rfl)
  obtain⟨e1,e2⟩:=Bc (l:=r) (i:=i) h fun k hk=>hn (k+1) G
  show(if d=c then []else d::cT c r)=_/\(if d=c then r else cJ c r)=_;rw[bX h1,bX h1,e1,e2];exact⟨Z,Z⟩
theorem kW:z4 X "str.partition" (fun x vs H Q=>∃(z y:Str) (c:Nat),x=.str z/\vs=[.str y]/\y=⟨#[c]⟩/\z.length<=sizeLine /\ ∀ p (b:Str),H p=none->Q (.ref p) (upd H p (.tup [.str ⟨(cT c z.cps.toList).toArray⟩,.str b,.str ⟨(cJ c z.cps.toList).toArray⟩]))):=by
 intro Y s M H x vs v us Q I rx r h;obtain⟨z,y,c,rfl,rfl,hy,hz,q⟩:=h;subst hy;obtain⟨t,rfl⟩:=rx;obtain⟨u,rfl,t',rfl⟩:=vals1 r
 have mk:∀(l:List Nat)(w:Str),w.cps.toList=l->(⟨l.toArray⟩:Str)=w:=fun l w e=>by
  cases w;rw[<- e]
 refine gc F.slot_str_partition (pV _ _ _) F.entry_str_partition (F.args_str_partition_2 _ _) (meets_str_partition z ⟨#[c]⟩ t t' rfl hz) ?_;rcases StrLaws.occ_head z ⟨#[c]⟩ 1 (qnr 1)with⟨h0,hn⟩|⟨i,rr,h0,hi,hn⟩
 .rw[h0]
  obtain⟨e1,e2⟩:=uX (c:=c) (l:=z.cps.toList) fun j hj=>hn j ((l7 z c j).mpr hj)
  have q':=q s.heap.objs.size Str.empty I.fresh;rw[mk (cT c z.cps.toList) z e1.symm,mk (cJ c z.cps.toList) Str.empty (by rw[e2];rfl)]at q';exact⟨.ref _,_,I.laid (o:=.tup [.str z,.str Str.empty,.str Str.empty]) (t':=s.toks+1) (fun b u e=>Heap.get?_push_of_some _ e) (qnr _) ⟨(by show 3<=sizeLine;decide),_,.cons ⟨_,Z⟩ (.cons ⟨_,Z⟩ (.cons ⟨_,Z⟩ .nil)),kA.new _ _⟩,Z,q'⟩
 rw[h0];have hm:=(l7 z c i).mp hi;obtain⟨e1,e2⟩:=Bc hm fun k hk e=>hn k hk ((l7 z c k).mpr e)
 have q':=q s.heap.objs.size ⟨#[c]⟩ I.fresh
 rw[mk (cT c z.cps.toList) (Builtin.Str.strSub z 0 i) (by rw[e1,mh];simp),mk (cJ c z.cps.toList) (Builtin.Str.strSub z (i+1) z.length) (by
  rw[e2,mh]
  exact fS (by simp[Str.length]))]at q'
 exact⟨.ref _,_,I.laid (o:=.tup [.str (Builtin.Str.strSub z 0 i),.str ⟨#[c]⟩,.str (Builtin.Str.strSub z (i+1) z.length)]) (t':=s.toks+1+1) (fun b u e=>Heap.get?_push_of_some _ e) (qnr _) ⟨(by show 3<=sizeLine;decide),_,.cons ⟨_,Z⟩ (.cons ⟨_,Z⟩ (.cons ⟨_,Z⟩ .nil)),kA.new _ _⟩,Z,q'⟩
theorem jD:dR X (.type "str") (fun xs H Q=>∃ i:Int,xs=[.int i]/\i.natAbs.log2<1920/\Q (.str (toString i:String)) H):=by
 intro Y s M H xs us Q I r h;obtain⟨i,rfl,hi,q⟩:=h;obtain⟨u,rfl,t,rfl⟩:=vals1 r;exact P.str_of_int hi ⟨.str _,H,I.tok _,⟨_,rfl⟩,q⟩
end L2
namespace PySem
open Sem (wp)
def gf(cs:List Nat):Nat:=cs.foldl (fun a c=>a*10+(c-48)) 0
theorem ni(p:Nat->Bool){l:List Nat}(h:∀ c∈l,p c=false):(l.reverse.dropWhile p).reverse=l:=by
 have e:l.reverse.dropWhile p=l.reverse:=by
  cases hl:l.reverse with
  |nil=>rfl
  | cons a b =>
   have ha:a∈l:=by
    have:a∈l.reverse:=by rw[hl];exact qms
    simpa using this
   rw[nE (by rw[h a ha];decide)]
 rw[e,fo]
theorem lL(p:Nat->Bool){l:List Nat}(h:∀ c∈l,p c=false):l.dropWhile p=l:=by
 cases l with
 |nil=>rfl
 |cons a b=>rw[nE (by rw[h a qms];decide)]
theorem jE{f:Array Nat×Bool->Nat->Option (Array Nat×Bool)}(hf:∀ ds b c,48<=c->c<=57->f (ds,b) c=some (ds.push (c-48),true)):∀(cs:List Nat)(ds:Array Nat)(b:Bool),(∀ c∈cs,48<=c/\c<=57)->List.foldlM (m:=Option) f (ds,b) cs=some (ds++(cs.map (· - 48)).toArray,b || !cs.isEmpty)
 |[],ds,b,_=>by simp
 | c::r,ds,b,h=>by
  rw[List.foldlM_cons,hf ds b c (h c qms).1 (h c qms).2];show List.foldlM (m:=Option) f (ds.push (c-48),true) r=_;rw[jE hf r _ _ fun d hd=>h d (k9 _ hd)];simp
theorem di(h1:48<=c)(h2:c<=57):c=48\/c=49\/c=50\/c=51\/c=52\/c=53\/c=54\/c=55\/c=56\/c=57:=G
theorem Fz:typeLookup (.type "str") "__int__"=pure none:=by rw[og,i7];kernel_rfl
theorem yV:typeLookup (.type "str") "__index__"=pure none:=by rw[og,i7];kernel_rfl
theorem yW:typeLookup (.type "str") "__trunc__"=pure none:=by rw[og,i7];kernel_rfl
theorem M7(cs:List Nat):Array.foldl (fun acc d=>acc*10+d) 0 (#[]++(cs.map (· - 48)).toArray)=gf cs:=by
 unfold gf;simp[List.foldl_map]
theorem um(x:Str)(u:Tok){c0:Nat}{r:List Nat}(he:x.cps.toList=c0::r)(h0:49<=c0/\c0<=57\/c0=48/\r=[])(hr:∀ c∈r,48<=c/\c<=57)(hl:r.length<600): Meets (Builtin.«int.__new__» ⟨[.type "int",.str x u],[]⟩) (Made.int (gf (c0::r):Nat)).spec :=
 Meets.of_wp fun prog w A R s hs=>by
  have n_:∀ c∈c0::r,48<=c/\c<=57:=fun c hc=>by
   rcases ai.mp hc with rfl|hc
   .rcases h0 with h|h<;>exact G
   exact hr c hc
  have ha:x.cps.all (· < 128)=true:=by
   rw[<- Array.all_toList,he,bP];intro c hc;have:=n_ c hc;exact cK G
  have hz:(c0::r).takeWhile (· != 0)=c0::r:=by
   have all:∀(l:List Nat),(∀ c∈l,48<=c/\c<=57)->l.takeWhile (· != 0)=l:=by
    intro l
    induction l with
    |nil=>intro _;rfl
    | cons a b ih =>
     intro h;have:=h a qms;rw[ny (by simp;exact G),ih fun c hc=>h c (k9 _ hc)]
   exact all _ n_
  have CU:(c0::r).length <= 640:=by show r.length+1<=640;exact G
  have h6:¬6000<r.length+1:=G
  have WE:c0=49\/c0=50\/c0=51\/c0=52\/c0=53\/c0=54\/c0=55\/c0=56\/c0=57\/(c0=48/\r=[]):=by
   rcases h0 with h|h
   .omega
   exact .inr (.inr (.inr (.inr (.inr (.inr (.inr (.inr (.inr h))))))))
  obtain⟨hp,g,d,tk,os⟩:=s;have f1:=F.conv_sub_int;have f2:=F.madeHere_int;have f3:=Fz;have f4:=yV;have f5:=yW;have hT:(⟨hp,g,d,tk,os⟩:Shared).TypeIs (.str x u) "str":=rfl
  repeat (any_goals (first|assumption|wp_step))
  rw[qp ha,he,hz,qp CU]
  repeat (any_goals (first|assumption|wp_step))
  clear CU hz ha he hT;have key:=M7 (c0::r);generalize hn:gf (c0::r)=n at hs key;rcases WE with rfl|rfl|rfl|rfl|rfl|rfl|rfl|rfl|rfl|⟨rfl,rfl⟩
  rotate_right
  .split
   .rename_i m h
    cases h
   .rename_i h
    cases h
   .rename_i i h
    have e:i=(n:Int):=by
     cases h;rw[<- hn]
     rfl
    subst e;rw[qp oz]
    repeat (any_goals (first|assumption|wp_step))
    all_goals first|exact⟨_,Z,hs⟩|skip
   rename_i h
   cases h
  all_goals
   split
   .rename_i m h
    change (match (Option.bind (α:=Array Nat×Bool) (β:=Array Nat) (List.foldlM (m:=Option) (s:=Array Nat×Bool) (α:=Nat) _ ((#[]:Array Nat),false) (((_:List Nat).reverse.dropWhile _).reverse)) _)with|none=>_|some ds=>_)=_ at h
    rw[ni _ (fun c hc=>by
       rcases di (n_ c hc).1 (n_ c hc).2 with rfl|rfl|rfl|rfl|rfl|rfl|rfl|rfl|rfl|rfl<;>rfl),lL _ (fun c hc=>by
       rcases di (n_ c hc).1 (n_ c hc).2 with rfl|rfl|rfl|rfl|rfl|rfl|rfl|rfl|rfl|rfl<;>rfl),jE (fun ds b c h1 h2=>by
       rcases di h1 h2 with rfl|rfl|rfl|rfl|rfl|rfl|rfl|rfl|rfl|rfl<;>rfl) _ _ _ n_]at h
    simp[h6]at h
   .rename_i h
    change (match (Option.bind (α:=Array Nat×Bool) (β:=Array Nat) (List.foldlM (m:=Option) (s:=Array Nat×Bool) (α:=Nat) _ ((#[]:Array Nat),false) (((_:List Nat).reverse.dropWhile _).reverse)) _)with|none=>_|some ds=>_)=_ at h
    rw[ni _ (fun c hc=>by
       rcases di (n_ c hc).1 (n_ c hc).2 with rfl|rfl|rfl|rfl|rfl|rfl|rfl|rfl|rfl|rfl<;>rfl),lL _ (fun c hc=>by
       rcases di (n_ c hc).1 (n_ c hc).2 with rfl|rfl|rfl|rfl|rfl|rfl|rfl|rfl|rfl|rfl<;>rfl),jE (fun ds b c h1 h2=>by
       rcases di h1 h2 with rfl|rfl|rfl|rfl|rfl|rfl|rfl|rfl|rfl|rfl<;>rfl) _ _ _ n_]at h
    simp[h6]at h
   .rename_i i h
    change (match (Option.bind (α:=Array Nat×Bool) (β:=Array Nat) (List.foldlM (m:=Option) (s:=Array Nat×Bool) (α:=Nat) _ ((#[]:Array Nat),false) (((_:List Nat).reverse.dropWhile _).reverse)) _)with|none=>_|some ds=>_)=_ at h
    rw[ni _ (fun c hc=>by
       rcases di (n_ c hc).1 (n_ c hc).2 with rfl|rfl|rfl|rfl|rfl|rfl|rfl|rfl|rfl|rfl<;>rfl),lL _ (fun c hc=>by
       rcases di (n_ c hc).1 (n_ c hc).2 with rfl|rfl|rfl|rfl|rfl|rfl|rfl|rfl|rfl|rfl<;>rfl),jE (fun ds b c h1 h2=>by
       rcases di h1 h2 with rfl|rfl|rfl|rfl|rfl|rfl|rfl|rfl|rfl|rfl<;>rfl) _ _ _ n_]at h
    simp[h6]at h;simp at key;rw[key]at h;subst h;rw[qp oz]
    repeat (any_goals (first|assumption|wp_step))
    all_goals first|exact⟨_,Z,hs⟩|skip
   rename_i h
   change (match (Option.bind (α:=Array Nat×Bool) (β:=Array Nat) (List.foldlM (m:=Option) (s:=Array Nat×Bool) (α:=Nat) _ ((#[]:Array Nat),false) (((_:List Nat).reverse.dropWhile _).reverse)) _)with|none=>_|some ds=>_)=_ at h
   rw[ni _ (fun c hc=>by
      rcases di (n_ c hc).1 (n_ c hc).2 with rfl|rfl|rfl|rfl|rfl|rfl|rfl|rfl|rfl|rfl<;>rfl),lL _ (fun c hc=>by
      rcases di (n_ c hc).1 (n_ c hc).2 with rfl|rfl|rfl|rfl|rfl|rfl|rfl|rfl|rfl|rfl<;>rfl),jE (fun ds b c h1 h2=>by
      rcases di h1 h2 with rfl|rfl|rfl|rfl|rfl|rfl|rfl|rfl|rfl|rfl<;>rfl) _ _ _ n_]at h
   simp[h6]at h
theorem vU{u:Tok}{c0:Nat}{r:List Nat}(he:x.cps.toList=c0::r)(h0:49<=c0/\c0<=57\/c0=48/\r=[])(hr:∀ c∈r,48<=c/\c<=57)(hl:r.length<600)(h:Q (.int (gf (c0::r):Nat) s.toks) { s with toks:=s.toks+1 }): wpAny (model prog w) A (call (.type "int") [.str x u]) Q E s :=
 call_int_1 (um x u he h0 hr hl) (show(Made.int (gf (c0::r):Nat)).post _ s from⟨rfl,h⟩)
end PySem
namespace L2
open PySem PySem.Spec PyProof.Rows
theorem FJ:dR X (.type "int") (fun xs H Q=>∃(x:Str) (c0:Nat) (r:List Nat),xs=[.str x]/\x.cps.toList=c0::r/\(49<=c0/\c0<=57\/c0=48/\r=[])/\(∀ c∈r,48<=c/\c<=57)/\r.length<600/\Q (.int (gf (c0::r):Nat)) H):=by
 intro Y s M H xs us Q I r h;obtain⟨x,c0,r',rfl,he,h0,hr,hl,q⟩:=h;obtain⟨u,rfl,t,rfl⟩:=vals1 r;exact vU he h0 hr hl ⟨.int _,H,I.tok _,⟨_,rfl⟩,q⟩
def Qj(X:Cx)(tf:TE)(ta:TA):TE:=fun M H Q=>tf M H fun v H1=>∃(f:Addr)(CX:xD)(k:Nat)(fd:FuncData)(ps:List Str)(sp:Sp)(E:XK),v=.ref f/\g7 X.prog X.w X.K X.mg X.base CX k f fd ps sp/\fI k X.A/\W.keepIn X.K (.ref f)=true/\Binds X.K fd ps []/\eN CX X E /\
 ta M H1 fun vs H2=>sp vs H2 Q E
theorem nj{o i:Expr}{tf:TE}{ta:TA}(hf:PE X (.Subscript o i p) tf)(ha:PA X (e::es) ta)
  (he:starEach (e::es) X.env=(false,eval e X.env):: starEach es X.env:=by rfl) (ic:(backTo pos (starEach es X.env)).any (·.1)=false:=by rfl):
  PE X (.Call (.Subscript o i p) (e::es) [] pos) (Qj X tf ta):=by
 intro Y s M H Q I h
 have arm:eval (.Call (.Subscript o i p) (e::es) [] pos) X.env=(do
   callWith pos (<- eval (.Subscript o i p) X.env) [] (backTo pos (starEach (e::es) X.env)) (backToKw pos (keywordEach [] X.env))):=rfl
 rw[arm];refine ae (thn (hf Y s M H _ I h) fun u s1 ⟨x,H1,I1,r1,f,CX,k,fd,ps,sp,E,ev,F,hr,hk,hb,hx,q⟩=>?_);subst ev;cases r1;refine vv (h₀:=X.base) I1.ok.mod.Kk hk (thn (ha pos Y s1 M H1 _ I1 q) fun us s2 ⟨vs,H2,I2,r,q2⟩=>⟨I2.kIn,?_⟩) he ic;exact rW (dvs:=[]) (ds:=[]) F hr hb .nil hx I2 r (by rw[c_];exact q2)
section
variable{aad:Model}
variable{nm q nm' q':Str}{N C' N':Addr}{bs bs' Ub:List Value}{hdct SU:Bool}{sn sn':List Str}{sub VY:List Value}{ab ab':Bool}{col Ye:Option Bool}{dd dd':Option Addr}{k0 k1 k2 k3 k5 j0 j1 j2 j3 j5:Option Value}{MM:String}
theorem nW{g:Array GenState}{d:Drawn}{t:Nat}{os:OsState}{e:Addr}{oe:Obj}{b:Bool}{Q:Bool->Shared->Prop}(hC:h.get? C=some (excClassObj nm q C N bs bm hdct sn sub ab col dd k0 k1 k2 k3 k5 newId))(hM:h.get? C'=some (excClassObj nm' q' C' N' bs' Ub SU sn' VY ab' Ye dd' j0 j1 j2 j3 j5 MM))(he:h.get? e=some oe)(NJ:oe.cls=.ref C)(oB:Ub.contains (.type "BaseException")=true)(D1:(Value.ref C::bm).contains (.ref C')=b)(hq:Q b ⟨h,g,d,t,os⟩):wpAny aad A (excMatches (.ref e) (.ref C')) Q E ⟨h,g,d,t,os⟩:=by
 have hcB:(Value.ref C'::Ub).contains (.type "BaseException")=true:=by rw[List.contains_cons,oB,Bool.or_true]
 have f:=tc_notTuple;cases b
 all_goals unfold excMatches
 all_goals repeat (first | (with_reducible refine wpAny_loadPart_at he ?_;rw[NJ])|with_reducible refine wpAny_loadPart_at hM ?_ | (with_reducible refine wpAny_isSubtype_exc hM ?_;rw[hcB]) | (with_reducible refine wpAny_isSubtype_exc hC ?_;rw[D1])|wp_step)
 all_goals first|exact hq|exact ar hq
end
inductive Uk(X:Cx):List ExceptHandler->List (Addr×TS)->Prop
 |nil:Uk X [] []
 | cons {x:Str} {aad:Addr} {b₀:Stmt} {C4:List Stmt} {np R_:Pos} {rest:List ExceptHandler} {ts:TS} {tr:List (Addr×TS)} (hm:X.mg x=some (.ref aad)) (hM:fb X.K aad=true) (hg:X.env.scope.names.lookup x=some .globalImplicit) (mf:(x==("__debug__":Str))=false)
   (hs:∀ e,y9 (X.kU e) (b₀::C4) ts) (hr:Uk X rest tr):Uk X (.ExceptHandler (some (.Name x np)) none (b₀::C4) R_::rest) ((aad,ts):: tr)
def pick(K:W.Frag)(C:Addr)(D:Ends)(M:St)(H:Hp):List (Addr×TS)->Prop
 |[]=>False
 |(aad,ts):: r=>(under K C aad=true/\ts D M H)\/(under K C aad=false/\pick K C D M H r)
def Ry(K:W.Frag)(tb:N9)(hs:List (Addr×TS)):TS:=fun D M H=>tb D (fun c _ H1=>∃ C,c=.ref C/\(jh K C).isSome=true/\pick K C D M H1 hs) M H
theorem IL{B h5:Heap}(I1:Inv X Y M H1 s1)(xp:X.stack=X.env::X.outer)(O_:s2.os=s1.os)(tT:AllBare s2.gens)(s_:Un (ky X.stack) [] H1 H2 s1.heap s2.heap)(Cs:mS X.prog X.w H2 s2.heap)(ia:∀ b o,s1.heap.get? b=some o->H1 b=none->b∉ky X.stack->B.get? b=some o)(H_:∀ b o,s1.heap.get? b=some o->b∉ky X.stack->∃ o',B.get? b=some o')(BQ:∀ b,H2 b≠none->∃ o,s2.heap.get? b=some o/\B.get? b=some o)(Pc:Heap.FlyingW B X.stack a (.ref C) a0 h5)(sm:s2.heap.UpToSlots h5)  (q1:jh X.K C=some bm): ∀{hs:List ExceptHandler}{l:List (Addr×TS)},Uk X hs l->pick X.K C D M H2 l->wpAny (model X.prog X.w) X.A (handleBy (.ref a) X.env hs) (SP X Y D) X.xe { s2 with heap:=h5 }:=by
 intro hs l P;have I5:Inv X Y M H2 { s2 with heap:=h5 }:=I1.landed xp O_ tT s_ Cs ia H_ BQ Pc sm;obtain⟨ob,ZN,Si⟩:=Pc.there;have KI:X.K.In h5:=I5.kIn
 induction P with
 |nil=>intro k;exact k.elim
 | @cons x aad b₀ C4 np R_ rest ts tr hm hM hg mf BY hr ih =>
  intro k;refine wpAny_handleBy_cons (codeAny_handlers_test (je (X:=X.kU a) (I5.kU a) hg hm ?_ mf)) (by intro q;cases q)
  obtain⟨Ub,q3,q4⟩:∃ bm,jh X.K aad=some bm/\bm.contains (.type "BaseException")=true:=by
   unfold fb at hM;cases e:jh X.K aad with
   |none=>rw[e]at hM;cases hM
   |some bm=>rw[e]at hM;exact⟨bm,Z,hM⟩
  obtain⟨_,_,_,_,_,_,_,_,_,_,_,_,_,_,_,_,oC⟩:=xm KI q1;obtain⟨_,_,_,_,_,_,_,_,_,_,_,_,_,_,_,_,oM⟩:=xm KI q3;have eu:under X.K C aad=(Value.ref C::bm).contains (.ref aad):=by unfold under;rw[q1];rfl
  rcases k with⟨hu,k⟩|⟨hu,k⟩
  .rw[eu]at hu
   refine nW oC oM ZN Si q4 hu (codeAny_handlers_suite ?_);refine lands_againW Pc fun h6 fl6 sm6=>?_
   have I6:Inv X Y M H2 { s2 with heap:=h6 }:=I1.landed xp O_ tT s_ Cs ia H_ BQ fl6 (sm.trans sm6);refine dQ (BY a Y _ _ _ D (I6.kU a) k) (fun f s9 q=>?_) fun _ _ z=>False.elim z
   cases f with
   |next=>obtain⟨σ',J,I9,q⟩:=q;exact⟨_,_,I9.uncaught I1.ok,q⟩
   |brk=>obtain⟨σ',J,I9,q⟩:=q;exact⟨_,_,I9.uncaught I1.ok,q⟩
   |cont=>obtain⟨σ',J,I9,q⟩:=q;exact⟨_,_,I9.uncaught I1.ok,q⟩
   |ret u=>obtain⟨v,σ',J,I9,r,q⟩:=q;exact⟨v,_,_,I9.uncaught I1.ok,r,q⟩
  rw[eu]at hu;exact nW oC oM ZN Si q4 hu (ih k)
theorem Bd{tb:N9}{hs:List ExceptHandler}{l:List (Addr×TS)}(hb:PP X body tb)(P:Uk X hs l)(hne:hs≠[]:=by exact da _ _)
  (xp:X.stack=X.env::X.outer:=by rfl) (Xh:X.env.frame=some X.env.locals:=by rfl):
  PS X (.Try body hs [] [] pos) (Ry X.K tb l):=by
 intro Y s M H D I h
 obtain⟨h0,M1,rfl⟩:∃ h0 M1,hs=h0::M1:=by
  cases hs with
  |nil=>exact absurd rfl hne
  |cons a b=>exact⟨a,b,Z⟩
 refine wpAny_Try_except (dQ (hb Y s M H D _ I h) (fun f s1 q=>?_) fun e s2 q=>?_)
 .cases f with
  |next=>exact kP q
  |ret v=>exact q
  |brk=>exact q
  |cont=>exact q
 obtain⟨H1,s1,I1,a,C,H2,ea,F,C',ec,hu,k⟩:=q;subst ea;cases ec;obtain⟨O_,tT,s_,Cs,LA,B,a0,K_,ia,H_,BQ⟩:=F;have Xg:X.A.frames=some (X.env::X.outer):=by rw[<- xp];exact I1.ok.frames
 rw[xp]at K_;refine wpAny_looks_onW Xg Xh K_ fun h4 SO sm4=>?_
 refine wpAny_landsW SO fun h5 Pc sm5=>?_
 rw[<- xp]at Pc;obtain⟨bm,q1⟩:=j'.mp hu;exact IL I1 xp O_ tT s_ Cs ia H_ BQ Pc (sm4.trans sm5) q1 P k
end L2
namespace PySem
open PyProof.Rows Builtin.Str
theorem kY(c:Nat):(fun d=>(⟨#[c]⟩:Str).cps.contains d)=fun d=>d==c:=by
 funext d
 show(#[c]:Array Nat).contains d=_
 by_cases e:d=c<;>simp[e]
theorem jk(p:Nat->Bool):∀ l:List Nat,l.drop (l.takeWhile p).length=l.dropWhile p
 |[]=>rfl
 | a::r=>by
  by_cases h:p a=true
  .rw[ny h,List.dropWhile_cons_of_pos h]
   exact jk p r
  rw[IY h,nE h]
  rfl
theorem FN(p:Nat->Bool):∀ l:List Nat,(l.takeWhile p).length <= l.length
 |[]=>qnr _
 | a::r=>by
  by_cases h:p a=true
  .rw[ny h]
   have:=FN p r;show(r.takeWhile p).length+1<=r.length+1;exact G
  rw[IY h];exact mi _
theorem Jl(x:Str)(c:Nat):(Txt.lstripChars x ⟨#[c]⟩).cps.toList=x.cps.toList.dropWhile (· == c):=by
 unfold Txt.lstripChars;rw[stripBy_eq,mh];show((x.cps.toList.drop (x.cps.toList.takeWhile (fun d=>(⟨#[c]⟩:Str).cps.contains d)).length).take (x.length-(x.cps.toList.takeWhile (fun d=>(⟨#[c]⟩:Str).cps.contains d)).length))=_;rw[kY,jk];refine fS ?_;rw[<- jk,cm];have:x.length=x.cps.toList.length:=ax.symm;exact G
theorem M8(x:Str)(c:Nat):(Txt.stripChars x ⟨#[c]⟩).cps.toList=((x.cps.toList.dropWhile (· == c)).reverse.dropWhile (· == c)).reverse:=by
 unfold Txt.stripChars;rw[stripBy_eq,mh];have hx:x.length=x.cps.toList.length:=ax.symm
 have e:stripLo (fun d=>(⟨#[c]⟩:Str).cps.contains d) true x=(x.cps.toList.takeWhile (fun d=>d==c)).length:=by
  rw[kY]
  rfl
 show(x.cps.toList.drop (stripLo (fun d=>(⟨#[c]⟩:Str).cps.contains d) true x)).take ((x.length-((x.cps.toList.drop (stripLo (fun d=>(⟨#[c]⟩:Str).cps.contains d) true x)).reverse.takeWhile (fun d=>(⟨#[c]⟩:Str).cps.contains d)).length)-stripLo (fun d=>(⟨#[c]⟩:Str).cps.contains d) true x)=_;rw[e,jk,kY,<- jk (fun d=>d==c) (x.cps.toList.dropWhile (fun d=>d==c)).reverse,List.drop_reverse,fo]
 congr 1
 have h1:(x.cps.toList.dropWhile (fun d=>d==c)).length+(x.cps.toList.takeWhile (fun d=>d==c)).length=x.cps.toList.length:=by
  rw[<- jk,cm];have:=FN (fun d=>d==c) x.cps.toList;exact G
 exact G
def fj(c:Nat):List Nat->List (List Nat)
 |[]=>[[]]
 | d::r=>if d=c then []:: fj c r else match fj c r with
  |[]=>[[d]]
  |p::ps=>(d::p):: ps
theorem jl(c:Nat):∀(u v:List Nat),c∉u->fj c (u++v)=match fj c v with
  |[]=>[u]
  |p::ps=>(u++p):: ps
 | [], v,_=>by
  show fj c v=_;cases h:fj c v with
  | nil =>
   cases v with
   |nil=>cases h
   | cons d r =>
    unfold fj at h
    split at h
    .cases h
    split at h<;>cases h
  |cons p ps=>rfl
 | d::r,v,h=>by
  have h1:¬d=c:=fun e=>h (e ▸ qms)
  show(if d=c then _ else match fj c (r++v)with | []=>[[d]] | p::ps=>(d::p):: ps)=_;rw[bX h1,jl c r v fun z=>h (k9 _ z)];cases fj c v<;>rfl
theorem mD(c:Nat):∀ ps:List Str,ps≠[]->(∀ p∈ps,c∉p.cps.toList)->fj c (Str.join ⟨#[c]⟩ ps).cps.toList=ps.map (·.cps.toList)
 |[],h,_=>absurd rfl h
 | [p],_,h=>by
  show fj c p.cps.toList=[p.cps.toList]
  have:=jl c p.cps.toList [] (h p qms);rw[c_]at this;rw[this];show [p.cps.toList++[]]=_;rw[c_]
 | p::q::r,_,h=>by
  have ih:=mD c (q::r) (da _ _) fun z hz=>h z (k9 _ hz)
  show fj c (p++⟨#[c]⟩++Str.join ⟨#[c]⟩ (q::r)).cps.toList=_
  have e:(p++⟨#[c]⟩++Str.join ⟨#[c]⟩ (q::r)).cps.toList=p.cps.toList++(c::(Str.join ⟨#[c]⟩ (q::r)).cps.toList):=by
   show(p.cps ++ #[c]++(Str.join ⟨#[c]⟩ (q::r)).cps).toList=_;simp
  rw[e,jl c _ _ (h p qms)];have e2:fj c (c::(Str.join ⟨#[c]⟩ (q::r)).cps.toList)=[]:: fj c (Str.join ⟨#[c]⟩ (q::r)).cps.toList:=qp rfl;rw[e2,ih];show(p.cps.toList++[]):: _=_;rw[c_]
  rfl
theorem M9(x:Str)(c:Nat):(Txt.split x ⟨#[c]⟩).map (·.cps.toList)=fj c x.cps.toList:=by
 have h1:=StrLaws.join_split x ⟨#[c]⟩;have h2:=StrLaws.split_free x c;have h3:=split_pos x ⟨#[c]⟩;have h:=mD c (Txt.split x ⟨#[c]⟩) (fun e=>by rw[e]at h3;exact absurd h3 b9) h2;rw[h1]at h;exact h.symm
end PySem
namespace L2
open PySem PyProof.Rows
theorem FP(h:X.K=K:=by rfl):z4 X "list.count" (DO K):=h ▸ Jk
open PySem PySem.Spec PyProof.Rows
inductive MA(K:W.Frag)(x:V)(vs:List V)(H:Hp)(Q:VK):Prop
 |mk(z:Str)(p:Addr)(ys:List Str)(_:x=.str z)(_:vs=[.ref p])(_:SqT K H p (ys.map V.str))(_:(ys.map (·.length)).sum+ys.length*z.length<=16777216)(_:Q (.str (Txt.join z ys)) H)
theorem Jm:z4 X "str.join" (MA X.K):=by
 intro Y s M H x xs v us Q I rx r h;obtain⟨z,p,ys,rfl,rfl,hp,hs,q⟩:=h;obtain⟨t,rfl⟩:=rx;obtain⟨u,rfl,ru⟩:=vals1 r;cases ru;obtain⟨its,rv,pl,hz⟩:=I.tuple hp;exact join_tuple pl (by simpa using lJ rv) hs fun t' k=>⟨.str _,H,I.tok k,⟨t',rfl⟩,q⟩
end L2
namespace PySem.ZL
open PySem
abbrev qY(h:Heap)(z TI TO a:Addr)(f:Bool):Prop :=
 h.get? z=some { cls:=.type "zip",dict:=none,data:=.fields #[rawInt a,.bool f,.bool false,.ref TI,.ref TO],slots:=#[] }
theorem alive{o:Obj}{Q:Option Obj->Shared->Prop}(ho:s.heap.get? a=some o)(h:Q (some o) s):wpAny (model prog w) A (loadIfAlive a) Q E s:=by
 have h':Q (s.heap.get? a) s:=by rw[ho];exact h
 exact fun _ _ _=>h'
theorem xH{TI TO:Addr}{f:Bool}{Q:Bool->Shared->Prop}(hz:qY s.heap z TI TO a f)(ha:s.heap.get? a=some oa)(h:∀ h',qY h' z TI TO a true->Heap.SameBut z s.heap h'->Q false { s with heap:=h' }): wpAny (model prog w) A (Builtin.SmallTypes.ownedTupleIsFree (.ref z)) Q E s:=by
 unfold Builtin.SmallTypes.ownedTupleIsFree;refine ae (cE hz rfl (x:=rawInt a) rfl ?_);show wpAny _ _ (loadIfAlive ((a:Int).toNat)>>=_) _ _ _;rw[bE];refine ae (alive ha ?_);simp only[Option.isNone_some,gs,jS];refine ae (cE hz rfl (x:=.bool f) rfl ?_);cases f with
 | true =>
  rw[bX (show ¬((Value.bool true != Value.bool true)=true)from ki)];exact ar (h _ hz (Heap.SameBut.refl _ _))
 | false =>
  rw[qp (show(Value.bool false != Value.bool true)=true from rfl)];refine ae (iN hz oz fun h₃ he₃ OL=>?_);exact ar (h _ he₃ OL)
theorem Jo{TI TO:Addr}{f:Bool}{k2:Nat}{xs ys:Array Value}{x y:Value}{Q:Option Value->Shared->Prop}(D:ZipApart z TI TO i1 i2 l1 l2)(hz:qY s.heap z TI TO a f)(ha:s.heap.get? a=some oa)(Xx:IsPair s.heap TI (.ref i1) (.ref i2))(h1:s.heap.IsListIter i1 l1 k1)(h2:s.heap.IsListIter i2 l2 k2)(qV:s.heap.IsList l1 xs)(mP:s.heap.IsList l2 ys)(hx:xs[k1]?=some x)(hy:ys[k2]?=some y)(hQ:∀ h',qY h' z TI TO a true->h'.IsListIter i1 l1 (k1+1)->h'.IsListIter i2 l2 (k2+1)->IsPair h' s.heap.objs.size x y->h'.objs.size=s.heap.objs.size+1 -> (∀ c o,c≠z->c≠i1->c≠i2->s.heap.get? c=some o->h'.get? c=some o)->Q (some (.ref s.heap.objs.size)) { s with heap:=h' }): wpAny (model prog w) A (pyNext (.ref z)) Q E s:=by
 have hT:s.TypeIs (.ref z) "zip":=⟨_,hz,rfl⟩
 unfold pyNext;refine ae (sP (wpAny_callSpecial?_slot (name:=Str.ofString "__next__") hT gX (fv gX hT tJ ?_ (se _))));show wpAny _ _ (field (.ref z) 2>>=_) _ _ _;refine ae (cE hz rfl (x:=.bool false) rfl ?_);show wpAny _ _ (field (.ref z) 3>>=_) _ _ _;refine ae (cE hz rfl (x:=.ref TI) rfl ?_);refine ae (eA Xx rfl ?_);show wpAny _ _ (Builtin.SmallTypes.ownedTupleIsFree (.ref z)>>=_) _ _ _;refine ae (xH hz ha fun h₁ Zv E5=>?_);simp only[gs,jS];refine ae ?_;rw[List.forIn_toArray];simp only[kf,nz];refine ae (ae (fz ?_));show wpAny _ _ (Builtin.SmallTypes.nextOf (.ref i1)>>=_) _ _ _;refine ae (vj (h1.extBut E5.extBut D.i1z) (qV.extBut E5.extBut D.l1z) hx fun h₂ h1₂ MY=>ar (ar ?_));refine ae (ae (fz ?_));show wpAny _ _ (Builtin.SmallTypes.nextOf (.ref i2)>>=_) _ _ _;refine ae (vj ((h2.extBut E5.extBut D.i2z).extBut MY.extBut D.i12.symm) ((mP.extBut E5.extBut D.l2z).extBut MY.extBut D.l2i1) hy fun h₃ h2₃ OL=>ar (ar (ar ?_)));refine ae (wpAny_newTuple ?_ xS);have hsz:h₃.objs.size=s.heap.objs.size:=by rw[OL.1,MY.1,E5.1]
 have hz₃:qY h₃ z TI TO a true:=OL.extBut _ _ D.i2z.symm (MY.extBut _ _ D.i1z.symm Zv);have pu:=fun c (o:Obj) (e:h₃.get? c=some o)=>Heap.get?_push_of_some { cls:=.type "tuple",data:=.seq #[x,y] } e
 refine ar ⟨_,rfl,ar ?_⟩;show Q (some (.ref h₃.objs.size)) _;have ht:IsPair (h₃.push { cls:=.type "tuple",data:=.seq #[x,y] }) h₃.objs.size x y:=Heap.get?_push_size _ rfl;have hp:(h₃.push { cls:=.type "tuple",data:=.seq #[x,y] }).objs.size=h₃.objs.size+1:=fe ..;rw[hsz]at ht hp ⊢;exact hQ _ (pu _ _ hz₃) ((h1₂.extBut OL.extBut D.i12).at fun o e=>pu _ o e) (h2₃.at fun o e=>pu _ o e) ht hp fun c o c1 c2 c3 e=>pu c o (OL.extBut _ _ c3 (MY.extBut _ _ c2 (E5.extBut _ _ c1 e)))
theorem Nb{TI TO:Addr}{f:Bool}{xs:Array Value}{Q:Option Value->Shared->Prop}(hh:A.handled=none)(D:ZipApart z TI TO i1 i2 l1 l2)(hz:qY s.heap z TI TO a f)(ha:s.heap.get? a=some oa)(Xx:IsPair s.heap TI (.ref i1) (.ref i2))(h1:s.heap.IsListIter i1 l1 k1)(qV:s.heap.IsList l1 xs)(hx:xs[k1]?=none)(hQ:∀ h',(∀ c o,c≠z->c≠i1->c≠i2->s.heap.get? c=some o->h'.get? c=some o)->Q none { s with heap:=h' }): wpAny (model prog w) A (pyNext (.ref z)) Q E s:=by
 have hT:s.TypeIs (.ref z) "zip":=⟨_,hz,rfl⟩
 unfold pyNext;refine ae (sP (wpAny_callSpecial?_slot (name:=Str.ofString "__next__") hT gX (fv gX hT tJ ?_ (se _))));show wpAny _ _ (field (.ref z) 2>>=_) _ _ _;refine ae (cE hz rfl (x:=.bool false) rfl ?_);show wpAny _ _ (field (.ref z) 3>>=_) _ _ _;refine ae (cE hz rfl (x:=.ref TI) rfl ?_);refine ae (eA Xx rfl ?_);show wpAny _ _ (Builtin.SmallTypes.ownedTupleIsFree (.ref z)>>=_) _ _ _;refine ae (xH hz ha fun h₁ Zv E5=>?_);simp only[gs,jS];refine ae ?_;rw[List.forIn_toArray];simp only[kf,nz];refine ae (ae (fz ?_));show wpAny _ _ (Builtin.SmallTypes.nextOf (.ref i1)>>=_) _ _ _;refine ae (wpAny_nextOf_list_end hh (h1.extBut E5.extBut D.i1z) (qV.extBut E5.extBut D.l1z) hx fun h₂ e MY he=>?_);obtain⟨oe,hoe,hce⟩:=he;refine ae (wpAny_isInstance (T := "StopIteration") (b:=true) ⟨oe,hoe,hce⟩ isSubtype_stop ?_);exact ar (hQ _ fun c o c1 c2 c3 q=>MY _ _ c2 (E5.extBut _ _ c1 q))
structure St(h:Heap)(z TI TO i1 i2 l1 l2 S:Addr)(i:Nat)(xs ys:Array Value):Prop where
 f:(i=0/\IsZip h z TI TO .none)\/∃ a f oa,qY h z TI TO a f/\h.get? a=some oa/\a≠z/\a≠TO/\a≠i1/\a≠i2/\a≠S
 ti:IsPair h TI (.ref i1) (.ref i2)
 to:∃ a b,IsPair h TO a b
 a1:h.IsListIter i1 l1 i
 a2:h.IsListIter i2 l2 i
 b1:h.IsList l1 xs
 b2:h.IsList l2 ys
structure Off(z TI TO i1 i2 l1 l2 S:Addr):Prop where
 z:z≠S
 TI:TI≠S
 TO:TO≠S
 i1:i1≠S
 i2:i2≠S
 l1:l1≠S
 l2:l2≠S
theorem St.keep{h h':Heap}{z TI TO i1 i2 l1 l2 S:Addr}{i:Nat}{xs ys:Array Value}(aab:Off z TI TO i1 i2 l1 l2 S)(x:St h z TI TO i1 i2 l1 l2 S i xs ys)(k:∀ b o,b≠S->h.get? b=some o->h'.get? b=some o):St h' z TI TO i1 i2 l1 l2 S i xs ys:=by
 obtain⟨f,ti,⟨a,b,to⟩,a1,a2,b1,b2⟩:=x;refine⟨?_,k _ _ aab.TI ti,⟨a,b,k _ _ aab.TO to⟩,a1.at fun o e=>k _ o aab.i1 e,a2.at fun o e=>k _ o aab.i2 e,b1.at fun o e=>k _ o aab.l1 e,b2.at fun o e=>k _ o aab.l2 e⟩;rcases f with⟨e,f⟩|⟨a,f,oa,q,r,n1,n2,n3,n4,n5⟩
 .exact .inl ⟨e,k _ _ aab.z f⟩
 exact .inr ⟨a,f,oa,k _ _ aab.z q,k _ _ n5 r,n1,n2,n3,n4,n5⟩
theorem item{TI TO:Addr}{xs ys:Array Value}{x y:Value}{Q:Option Value->Shared->Prop}(D:ZipApart z TI TO i1 i2 l1 l2)(hS:S<s.heap.objs.size)(st:St s.heap z TI TO i1 i2 l1 l2 S i xs ys)(hx:xs[i]?=some x)(hy:ys[i]?=some y)(hQ:∀ h',St h' z TI TO i1 i2 l1 l2 S (i+1) xs ys->IsPair h' s.heap.objs.size x y->h'.objs.size=s.heap.objs.size+1->(∀ c o,c≠z->c≠TO->c≠i1->c≠i2->s.heap.get? c=some o->h'.get? c=some o)->Q (some (.ref s.heap.objs.size)) { s with heap:=h' }): wpAny (model prog w) A (pyNext (.ref z)) Q E s:=by
 obtain⟨f,ti,⟨a,b,to⟩,a1,a2,b1,b2⟩:=st;have lt:∀{c o},s.heap.get? c=some o->s.heap.objs.size≠c:=fun e=>b_ (aw e)
 rcases f with⟨e,f⟩|⟨c,f,oa,q,r,n1,n2,n3,n4,n5⟩
 .refine wpAny_pyNext_zip_item D f ti to a1 a2 b1 b2 hx hy fun h' c1 c2 c3 c4 c5 c6 hk=>?_
  exact hQ h' ⟨.inr ⟨_,false,_,c1,c5,lt f,lt to,(by obtain⟨_,e,_⟩:=a1;exact lt e),(by obtain⟨_,e,_⟩:=a2;exact lt e),b_ hS⟩,hk _ _ D.TIz D.TITO D.TIi1 D.TIi2 ti,⟨_,_,c2⟩,c3,c4,b1.at fun o e=>hk _ o D.l1z D.l1TO D.l1i1 D.l1i2 e,b2.at fun o e=>hk _ o D.l2z D.l2TO D.l2i1 D.l2i2 e⟩ c5 c6 hk
 refine Jo D q r ti a1 a2 b1 b2 hx hy fun h' c1 c3 c4 c5 c6 hk=>?_
 exact hQ h' ⟨.inr ⟨_,true,_,c1,hk _ _ n1 n3 n4 r,n1,n2,n3,n4,n5⟩,hk _ _ D.TIz D.TIi1 D.TIi2 ti,⟨_,_,hk _ _ D.TOz D.TOi1 D.TOi2 to⟩,c3,c4,b1.at fun o e=>hk _ o D.l1z D.l1i1 D.l1i2 e,b2.at fun o e=>hk _ o D.l2z D.l2i1 D.l2i2 e⟩ c5 c6 fun c o e1 _ e3 e4 e=>hk c o e1 e3 e4 e
theorem done{TI TO:Addr}{xs ys:Array Value}{Q:Option Value->Shared->Prop}(hh:A.handled=none)(D:ZipApart z TI TO i1 i2 l1 l2)(st:St s.heap z TI TO i1 i2 l1 l2 S i xs ys)(hx:xs[i]?=none)(hQ:∀ h',(∀ c o,c≠z->c≠TO->c≠i1->c≠i2->s.heap.get? c=some o->h'.get? c=some o)->Q none { s with heap:=h' }): wpAny (model prog w) A (pyNext (.ref z)) Q E s:=by
 obtain⟨f,ti,⟨a,b,to⟩,a1,a2,b1,b2⟩:=st;rcases f with⟨e,f⟩|⟨c,f,oa,q,r,_⟩
 .exact wpAny_pyNext_zip_end hh D f ti to a1 a2 b1 b2 (.inl hx) hQ
 exact Nb hh D q r ti a1 b1 hx fun h' hk=>hQ h' fun c o c1 _ c3 c4 e=>hk c o c1 c3 c4 e
structure Made(xs ys:Array Value)(lo:Addr)(h:Heap)(as:List Addr):Prop where
 above:∀ a∈as,lo<a
 nodup:as.Nodup
 pairs:∀(j:Nat)(a:Addr),as[j]?=some a->∃ x y,xs[j]?=some x/\ys[j]?=some y/\IsPair h a x y
section
variable{xs ys:Array Value}
theorem loop{TI TO:Addr}(hh:A.handled=none)(D:ZipApart z TI TO i1 i2 l1 l2)(aab:Off z TI TO i1 i2 l1 l2 S)(m1:z<S)(m2:TO<S)(m3:i1<S)(m4:i2<S)(MU:xs.size=ys.size)(hn:xs.size<=sizeLine)(res:Value){h₁:Heap}
  (hR:∀ h' tk acc c as,(∀ b o,b≠S->b≠z->b≠TO->b≠i1->b≠i2->h₁.get? b=some o->h'.get? b=some o)->h'.get? S=some { cls:=.type "list",dict:=none,data:=.seq acc c,slots:=#[] }->as.length=xs.size->Made xs ys S h' as ->
   acc.toList=as.map Value.ref->R (.ok (.ret res)) { s with heap:=h',toks:=tk }):
  ∀(k i:Nat)(h:Heap)(tk c:Nat)(acc:Array Value)(as:List Addr),xs.size-i=k->i<=xs.size->St h z TI TO i1 i2 l1 l2 S i xs ys->(∀ b o,b≠S->b≠z->b≠TO->b≠i1->b≠i2->h₁.get? b=some o->h.get? b=some o) ->
   h.get? S=some { cls:=.type "list",dict:=none,data:=.seq acc c,slots:=#[] }->acc.toList=as.map Value.ref->as.length=i->Made xs ys S h as ->
   codeAny (model prog w) A (.builtin "list.extend.loop" ⟨[.ref S,.ref z,res],[]⟩) R { s with heap:=h,toks:=tk }:=by
 intro k
 induction k with
 | zero =>
  intro i h tk c acc as hk hi st keep hS pw rd hG;refine oi PySem.F.entry_extend_loop ?_;rw[ka PySem.F.plain_extend_loop _];show wpAny _ A.in1 (pyNext (.ref z)>>=_) _ _ _;refine ae (done (s:={ s with heap:=h,toks:=tk }) (A:=A.in1) hh D st (Array.getElem?_eq_none G) fun h' he=>?_);refine ar (hR h' tk acc c as (fun b o c0 c1 c2 c3 c4 e=>he b o c1 c2 c3 c4 (keep b o c0 c1 c2 c3 c4 e)) (he S _ (b_ m1) (b_ m2) (b_ m3) (b_ m4) hS) G ⟨hG.above,hG.nodup,fun j a hj=>?_⟩ pw);obtain⟨x,y,e1,e2,e3⟩:=hG.pairs j a hj;have ha:=hG.above a (pj hj);exact⟨x,y,e1,e2,he a _ (b_ (gI m1 ha)) (b_ (gI m2 ha)) (b_ (gI m3 ha)) (b_ (gI m4 ha)) e3⟩
 | succ k ih =>
  intro i h tk c acc as hk hi st keep hS pw rd hG;have f':i<xs.size:=G
  have Sr:i<ys.size:=G
  have hsz:acc.size=i:=by rw[<- ax,pw,de,rd]
  have Xy:S<h.objs.size:=aw hS;refine oi PySem.F.entry_extend_loop ?_;rw[ka PySem.F.plain_extend_loop _];show wpAny _ A.in1 (pyNext (.ref z)>>=_) _ _ _;refine ae (item (s:={ s with heap:=h,toks:=tk }) D Xy st (Array.getElem?_eq_getElem f') (Array.getElem?_eq_getElem Sr) fun h' iA ht hz q_=>?_);dsimp only at ht hz q_ ⊢;have Vl:=q_ S _ (b_ m1) (b_ m2) (b_ m3) (b_ m4) hS;have up:∀ b o,b≠S->h'.get? b=some o->(h'.update S (Obj.mapSeq (·.push (Value.ref h.objs.size)))).get? b=some o:=fun b o hb e=>(Heap.get?_update_other _ _ (aS hb)).trans e
  show wpAny _ A.in1 (updateSeq S (·.push (Value.ref h.objs.size))>>=_) _ _ _;refine ae ?_
  refine iX Vl rfl (ar ⟨mT PySem.F.plain_extend_loop _,ih (i+1) _ tk _ (acc.push (Value.ref h.objs.size)) (as++[h.objs.size]) G f' (iA.keep aab up)
   (fun b o c0 c1 c2 c3 c4 e=>up b o c0 (q_ b o c1 c2 c3 c4 (keep b o c0 c1 c2 c3 c4 e))) (Heap.get?_update_self _ Vl rfl) (by rw[Array.toList_push,pw,ay];rfl) (by rw[af,rd];rfl) ⟨?_,?_,?_⟩⟩) (by rw[hsz];exact G) (by show(acc.push (Value.ref h.objs.size)).size <= sizeLine+1;rw[Array.size_push,hsz];exact G)
  .intro a ha
   rcases a_.mp ha with ha|ha
   .exact hG.above a ha
   rw[aI.mp ha];exact Xy
  .refine List.nodup_append.mpr ⟨hG.nodup,List.pairwise_singleton _ _,fun a ha b hb=>?_⟩
   rw[aI.mp hb];obtain⟨j,hj⟩:=List.mem_iff_getElem?.mp ha;obtain⟨_,_,_,_,e⟩:=hG.pairs j a hj;exact bg (aw e)
  intro j b hj;rcases Nat.lt_trichotomy j as.length with h1|h1|h1
  .rw[List.getElem?_append_left h1]at hj
   obtain⟨x,y,e1,e2,e3⟩:=hG.pairs j b hj;have ha:=hG.above b (pj hj);exact⟨x,y,e1,e2,up b _ (b_ ha) (q_ b _ (b_ (gI m1 ha)) (b_ (gI m2 ha)) (b_ (gI m3 ha)) (b_ (gI m4 ha)) e3)⟩
  .subst h1
   have hb:h.objs.size=b:=by simpa using hj
   subst hb;exact⟨_,_,by rw[rd];exact Array.getElem?_eq_getElem f',by rw[rd];exact Array.getElem?_eq_getElem Sr,up _ _ (b_ Xy) ht⟩
  have Sl:(as++[h.objs.size])[j]?=none:=List.getElem?_eq_none (by rw[af,cS];exact G);rw[Sl]at hj;cases hj
end
theorem Qk:typeLookup (.type "zip") "__len__"=pure none:=by rw[og,i7];kernel_rfl
theorem Nf:typeLookup (.type "zip") "__length_hint__"=pure none:=by rw[og,i7];kernel_rfl
section
variable{xs ys:Array Value}
theorem extend{R:Result->Shared->Prop}{S z TI TO i1 i2 l1 l2:Addr}(hh:A.handled=none)(D:ZipApart z TI TO i1 i2 l1 l2)(aab:Off z TI TO i1 i2 l1 l2 S)(m1:z<S)(m2:TO<S)(m3:i1<S)(m4:i2<S)(MU:xs.size=ys.size)(hn:xs.size<=sizeLine)
  (st:St s.heap z TI TO i1 i2 l1 l2 S 0 xs ys) (hz:IsZip s.heap z TI TO .none) (res:Value) (c₀:Nat) (hS:s.heap.get? S=some { cls:=.type "list",data:=.seq #[] c₀ })
  (hR:∀ h' tk acc c as,(∀ b o,b≠S->b≠z->b≠TO->b≠i1->b≠i2->s.heap.get? b=some o->h'.get? b=some o)->h'.get? S=some { cls:=.type "list",dict:=none,data:=.seq acc c,slots:=#[] }->as.length=xs.size->Made xs ys S h' as ->
   acc.toList=as.map Value.ref->R (.ok (.ret res)) { s with heap:=h',toks:=tk }):
  wpAny (model prog w) A.in1 (Builtin.List.listExtendWith (.ref S) (.ref z) res)
   (fun fin s'=>match fin with | .done f=>R (.ok f) s' | .again c'=>c'.quiet=true/\codeAny (model prog w) A c' R s') (fun e s'=>R (.error e) s') s:=by
 have hT:s.TypeIs (.ref z) "zip":=⟨_,hz,rfl⟩
 unfold Builtin.List.listExtendWith;refine ae (wpAny_typeOf hT ?_);have h1:Builtin.List.listSameRef (.ref S) (.ref z)=false:=by simp[Builtin.List.listSameRef,aS aab.z]
 have h2:(Value.type "zip" == Value.type "list")=false:=by decide
 have h3:(Value.type "zip" == Value.type "tuple")=false:=by decide
 simp only[h1,h2,h3,Bool.or_false,gs,jS];refine ae (wpAny_pyIter_zip hz ?_);refine ae (fz ?_);unfold Builtin.List.listLengthHint;refine ae (wpAny_specialOf hT Qk ?_);show wpAny _ A.in1 (specialOf (Value.ref z) (Str.ofString "__length_hint__")>>=_) _ _ _;refine ae (wpAny_specialOf hT Nf ?_);refine ar ?_
 show wpAny _ A.in1 (rule "list.extend.makes-room" >>= fun _=>Builtin.List.listTouch (.ref S)>>=fun _ =>
  again (.builtin "list.extend.loop" ⟨[.ref S,.ref z,res],[]⟩)) _ _ _
 refine ae (EM ?_);refine ae ?_;show wpAny _ A.in1 (updateSeq S (·.push .none)>>=fun _=>updateSeq S (·.pop)) _ _ _;refine ae (iX hS rfl ?_);have Vj:=Heap.get?_update_self (Obj.mapSeq (·.push Value.none)) hS rfl;refine iX (hz:=by seq_fits) Vj rfl ?_;have hS₃:=Heap.get?_update_self (Obj.mapSeq (·.pop)) Vj rfl
 have OG:∀ b o,b≠S->s.heap.get? b=some o->((s.heap.update S (Obj.mapSeq (·.push Value.none))).update S (Obj.mapSeq (·.pop))).get? b=some o :=
  fun b o hb e=>(Heap.get?_update_other _ _ (aS hb)).trans ((Heap.get?_update_other _ _ (aS hb)).trans e)
 exact ar ⟨mT F.plain_extend_loop _,loop (s:=s) (h₁:=s.heap) hh D aab m1 m2 m3 m4 MU hn res hR xs.size 0 _ s.toks _ #[] [] (AA _) (mi _) (st.keep aab OG) (fun b o c0 _ _ _ _ e=>OG b o c0 e) hS₃ rfl rfl ⟨(fun _ ha=>nomatch ha),List.Pairwise.nil,(fun j a hj=>by simp at hj)⟩⟩
theorem call{TI TO:Addr}(hh:A.handled=none)(D:ZipApart z TI TO i1 i2 l1 l2)(MU:xs.size=ys.size)(hn:xs.size<=sizeLine)
  (hz:IsZip s.heap z TI TO .none) (ti:IsPair s.heap TI (.ref i1) (.ref i2)) (to:IsPair s.heap TO .none .none) (a1:s.heap.IsListIter i1 l1 0) (a2:s.heap.IsListIter i2 l2 0) (b1:s.heap.IsList l1 xs) (b2:s.heap.IsList l2 ys)
  (hQ:∀ h' tk acc c as,(∀ b o,b≠z->b≠TO->b≠i1->b≠i2->s.heap.get? b=some o->h'.get? b=some o)->h'.get? s.heap.objs.size=some { cls:=.type "list",dict:=none,data:=.seq acc c,slots:=#[] }->as.length=xs.size->Made xs ys s.heap.objs.size h' as ->
   acc.toList=as.map Value.ref->Q (.ref s.heap.objs.size) { s with heap:=h',toks:=tk }):
  wpAny (model prog w) A (PySem.call (.type "list") [.ref z]) Q E s:=by
 refine callType_codes (Q₁:=fun obj s₁=>obj=.ref s.heap.objs.size/\s₁ = { s with heap:=s.heap.push { cls:=.type "list",data:=.seq #[] } }) F.called_list (F.typeCall_list_1 _) F.entry_list_init
  (code_list_new _ ⟨rfl,rfl⟩) fun obj s₁ h₁=>?_
 obtain⟨rfl,rfl⟩:=h₁;have hS:(s.heap.push { cls:=.type "list",data:=.seq #[] }).get? s.heap.objs.size=some { cls:=.type "list",data:=.seq #[] }:=Heap.get?_push_size _ rfl;have lt:∀{c o},s.heap.get? c=some o->c<s.heap.objs.size:=fun e=>aw e
 have Z0:i1<s.heap.objs.size:=let ⟨_,e,_⟩:=a1;lt e;have ZZ:i2<s.heap.objs.size:=let ⟨_,e,_⟩:=a2;lt e;have qV:l1<s.heap.objs.size:=let ⟨_,e,_⟩:=b1;lt e;have mP:l2<s.heap.objs.size:=let ⟨_,e,_⟩:=b2;lt e;refine⟨⟨_,hS,Z⟩,F.args_list_init_2 _ _,?_⟩;show wpAny _ _ (do let old <- Builtin.List.listItems (.ref s.heap.objs.size);Builtin.List.listUpdate (.ref s.heap.objs.size) (fun _=>#[]);letGo old.toList.reverse;Builtin.List.listExtendWith (.ref s.heap.objs.size) (.ref z) .none) _ _ _;refine ae ?_;unfold Builtin.List.listItems;refine ae (eA hS rfl (ar ?_));show wpAny _ _ (updateSeq s.heap.objs.size (fun _=>#[])>>=fun _=>letGo (#[]:Array Value).toList.reverse>>=fun _=>Builtin.List.listExtendWith (.ref s.heap.objs.size) (.ref z) .none) _ _ _;refine ae (iX hS rfl ?_);have Vj:=Heap.get?_update_self (Obj.mapSeq (fun _=>(#[]:Array Value))) hS rfl
 have OG:∀ b o,b≠s.heap.objs.size->s.heap.get? b=some o->((s.heap.push { cls:=.type "list",data:=.seq #[] }).update s.heap.objs.size (Obj.mapSeq (fun _=>(#[]:Array Value)))).get? b=some o :=
  fun b o hb e=>(Heap.get?_update_other _ _ (aS hb)).trans (Heap.get?_push_of_some _ e)
 refine ae (nt ?_);have aab:Off z TI TO i1 i2 l1 l2 s.heap.objs.size:=⟨bg (lt hz),bg (lt ti),bg (lt to),bg Z0,bg ZZ,bg qV,bg mP⟩
 have st:St s.heap z TI TO i1 i2 l1 l2 s.heap.objs.size 0 xs ys:=⟨.inl ⟨rfl,hz⟩,ti,⟨_,_,to⟩,a1,a2,b1,b2⟩
 refine extend (A:=A.in1) (s:={ s with heap:=(s.heap.push { cls:=.type "list",data:=.seq #[] }).update s.heap.objs.size (Obj.mapSeq (fun _=>(#[]:Array Value))) }) hh D aab (lt hz) (lt to) Z0 ZZ MU hn (st.keep aab OG) (OG _ _ aab.z hz) .none _ Vj fun h' tk acc c as hk Vl hl hG pw=>?_
 exact⟨Z,hQ h' tk acc c as (fun b o c1 c2 c3 c4 e=>hk b o (bg (lt e)) c1 c2 c3 c4 (OG b o (bg (lt e)) e)) Vl hl hG pw⟩
end
end PySem.ZL
namespace L2
open PySem PySem.Spec PyProof.Rows
theorem Inv.Wn(I:Inv X Y M H s)(k:∀ b u,s.heap.get? b=some u->h'.get? b=some u)(hs:∀ b,b<s.heap.objs.size->J b=H b)(new:∀ a o,J a=some o->s.heap.objs.size<=a->ft X.prog X.w J h' a o):Inv X Y M J { s with heap:=h',toks:=t' }:=by
 have up:∀ b o,H b=some o->J b=some o:=fun b o e=>by rw[hs b (I.hok.lt e)];exact e
 refine I.un ⟨fun b u q _ _ _=>k b u q,fun b u q _ _ _=>⟨u.slots,k b u q⟩,fun b u q n _=>by rw[hs b (aw q)];exact n,fun b u q _=>⟨u,k b u q⟩,fun b xs q=>up _ _ q,fun b u xs q=>up _ _ q,fun b ps q=>⟨#[],by rw[up _ _ q];simp⟩⟩ fun a o e=>?_
 by_cases hb:a<s.heap.objs.size
 .rw[hs a hb]at e
  exact(I.hok a o e).stay (fun c v _ q=>k c v q) (fun c q=>up _ _ q) fun c xs q=>up _ _ q
 exact new a o e (Nat.le_of_not_lt hb)
def nq(H:Hp):List V->List V->List V->Prop
 |[],[],[]=>True
 |u::us,x::xs,y::ys=>(∃ q,u=.ref q/\H q=some (.tup [x,y]))/\nq H us xs ys
 |_,_,_=>False
def OI:List Addr->List V->List V->Addr->Option HO
 |a::as,x::xs,y::ys,b=>if b=a then some (.tup [x,y])else OI as xs ys b
 |_,_,_,_=>none
theorem Be:∀{as:List Addr}{xs ys:List V}{b:Addr}{o:HO},OI as xs ys b=some o->∃(j:Nat)(x y:V),as[j]?=some b/\xs[j]?=some x/\ys[j]?=some y/\o=.tup [x,y]
 | a::as,x::xs,y::ys,b,o,h=>by
  unfold OI at h
  split at h
  .rename_i e
   cases h;exact⟨0,x,y,by rw[e];rfl,Z,Z,Z⟩
  obtain⟨j,x',y',h1,h2,h3,h4⟩:=Be h;exact⟨j+1,x',y',h1,h2,h3,h4⟩
 |[],_,_,_,_,h=>nomatch h
 |_::_,[],_,_,_,h=>nomatch h
 |_::_,_::_,[],_,_,h=>nomatch h
theorem Bf{H:Hp}:∀{as:List Addr}{xs ys:List V},as.Nodup->as.length=xs.length->as.length=ys.length->(∀ a∈as,H a=OI as xs ys a)->nq H (as.map V.ref) xs ys
 |[],[],[],_,_,_,_=>trivial
 | a::as,x::xs,y::ys,nd,h1,h2,h=>by
  obtain⟨n1,n2⟩:=eW.mp nd;refine⟨⟨a,Z,?_⟩,Bf n2 (Nat.succ.inj h1) (Nat.succ.inj h2) fun b hb=>?_⟩
  .rw[h a qms]
   show(if a=a then _ else _)=_;rw[qp rfl]
  rw[h b (k9 _ hb)];show(if b=a then _ else _)=_;rw[bX (fun e:b=a=>n1 (e ▸ hb))]
 |[],_::_,_,_,h1,_,_=>nomatch h1
 |[],[],_::_,_,_,h2,_=>nomatch h2
 |_::_,[],_,_,h1,_,_=>nomatch h1
 |_::_,_::_,[],_,_,h2,_=>nomatch h2
theorem uY:∀ as:List Addr,Vals (as.map V.ref) (as.map Value.ref)
 |[]=>.nil
 |_::as=>.cons rfl (uY as)
theorem qZ{α β:Type}{f g:α->Option β}:∀{l:List α},(∀ a∈l,f a=g a)->l.filterMap f=l.filterMap g
 |[],_=>rfl
 |a::l,h=>by rw[gV,gV,h a qms,qZ fun b hb=>h b (k9 _ hb)]
def Rz(K:W.Frag)(t:TA):TE:=fun M H Q=>t M H fun vs H1=>∃(a b:Addr)(xs ys:List V),vs=[.ref a,.ref b]/\b5 K H1 a xs/\b5 K H1 b ys/\xs.length=ys.length/\∀(l:Addr)(us:List V)(J:Hp),(∀ c o,H1 c=some o->J c=some o)->H1 l=none->J l=some (.lst us)->nq J us xs ys->Q (.ref l) J
theorem Cy{EG:Pos} {l m:Expr} {t:TA} (hc:X.calm=true) (ha:PA X [l,m] t) (hm:X.mg "list"=none) (qS:X.mg "zip"=none)
  (hg:X.env.scope.names.lookup ("list":Str)=some .globalImplicit:=by kernel_rfl) (hg2:X.env.scope.names.lookup ("zip":Str)=some .globalImplicit:=by kernel_rfl)
  (he:starEach [l,m] X.env=(false,eval l X.env):: starEach [m] X.env:=by rfl) (ic:(backTo e_ (starEach [m] X.env)).any (·.1)=false:=by rfl)
  (IH:starEach [Expr.Call (.Name "zip" p) [l,m] [] e_] X.env=(false,eval (.Call (.Name "zip" p) [l,m] [] e_) X.env):: starEach [] X.env:=by rfl) (WT:(backTo EG (starEach [] X.env)).any (·.1)=false:=by rfl):
  PE X (.Call (.Name "list" p2) [.Call (.Name "zip" p) [l,m] [] e_] [] EG) (Rz X.K t):=by
 intro Y s M H Q I h;refine c9 (gP I hg hm Bt.list ?_ b9 b9);refine dn ?_ IH WT;rw[IH];show wpAny _ _ (spliced ((false,eval (.Call (.Name "zip" p) [l,m] [] e_) X.env):: backTo EG (starEach [] X.env))) _ _ s;refine Calls.spliced_cons ?_;refine c9 (gP I hg2 qS Bt.zip ?_ b9 b9);refine dn (thn (ha e_ Y s M H _ I h) fun us s1 ⟨vs,H1,I1,r1,q1⟩=>?_) he ic;obtain⟨a,b,xs,ys,rfl,hq,hr,MU,q⟩:=q1;obtain⟨u1,u2,rfl,ru1,ru2⟩:=vals2 r1;cases ru1;cases ru2;obtain⟨its,rv,p1,UQ⟩:=I1.list hq;obtain⟨MS,qB,Wd,Wx⟩:=I1.list hr;have e1:=rv.length;have e2:=qB.length;have la:a<s1.heap.objs.size:=let ⟨_,e,_⟩:=p1.isList;aw e;have lb:b<s1.heap.objs.size:=let ⟨_,e,_⟩:=Wd.isList;aw e;refine call_zip_2 p1.isList Wd.isList fun h1 qz qi qo qa qb hsz hk=>?_
 refine Calls.spliced_nil ?_;generalize hn:s1.heap.objs.size=n at la lb qz qi qo qa qb hsz ⊢;have la:@LT.lt Nat _ a n:=la;have lb:@LT.lt Nat _ b n:=lb;refine ZL.call (xs:=its.toArray) (ys:=MS.toArray) (s:={ s1 with heap:=h1 }) (I1.ok.hd hc) (TI:=n+2) (TO:=n+3) (i1:=n) (i2:=n+1) (l1:=a) (l2:=b) ?_ (by simp;exact G) (by simp;exact G) qz qi qo qa qb (p1.isList.at fun o e=>hk _ o e) (Wd.isList.at fun o e=>hk _ o e) fun h' tk acc c as keep hS hl hG pw=>?_
 .constructor <;> (refine(?_:@Ne Nat _ _);exact G)
 dsimp only at keep hS hG ⊢;rw[hsz]at hS hG ⊢;have hl:as.length=xs.length:=by rw[hl,ah,e1]
 have kp:∀ c o,s1.heap.get? c=some o->h'.get? c=some o:=fun c o e=>by
  have hc:@LT.lt Nat _ c n:=by rw[<- hn];exact aw e
  exact keep c o (by refine(?_:@Ne Nat _ _);exact G) (by refine(?_:@Ne Nat _ _);exact G) (by refine(?_:@Ne Nat _ _);exact G) (by refine(?_:@Ne Nat _ _);exact G) (hk c o e)
 have old:∀ c,H1 c≠none->@LT.lt Nat _ c n:=fun c e=>by
  cases q:H1 c with
  |none=>exact absurd q e
  |some o=>rw[<- hn];exact I1.hok.lt q
 have ga:∀ a∈as,@LT.lt Nat _ (n+5) a:=fun a ha=>hG.above a ha
 let J:Hp:=fun c=>if c=n+5 then some (.lst (as.map V.ref))else if c∈as then OI as xs ys c else H1 c
 have Z6:J (n+5)=some (.lst (as.map V.ref)):=by show(if n+5=n+5 then _ else _)=_;rw[qp rfl]
 have hold:∀ c,@LT.lt Nat _ c n->J c=H1 c:=fun c hc=>by
  show(if c=n+5 then _ else if c∈as then _ else _)=_;rw[bX (by refine(?_:@Ne Nat _ _);exact G),bX (fun z=>absurd (ga c z) G)]
 have has:∀ c∈as,J c=OI as xs ys c:=fun c hc=>by
  show(if c=n+5 then _ else if c∈as then _ else _)=_;rw[bX (by have:=ga c hc;refine(?_:@Ne Nat _ _);exact G),qp hc]
 refine⟨.ref (n+5),J,I1.Wn kp (fun c hc=>hold c (by rw[<- hn];exact hc)) (fun c o e hc=>?_),Z,q (n+5) (as.map V.ref) J (fun c o e=>?_) ?_ Z6 (Bf hG.nodup hl G has)⟩
 .rw [hn]at hc
  by_cases h5:c=n+5
  .subst h5
   rw[Z6]at e;cases e;exact⟨by rw[de,hl];exact UQ,as.map Value.ref,_,uY as,by rw[hS,<- pw]⟩
  by_cases hm:c∈as
  .rw[has c hm]at e
   obtain⟨j,x,y,j1,j2,j3,rfl⟩:=Be e;obtain⟨u,v,k1,k2,k3⟩:=hG.pairs j c j1;obtain⟨u',hu',ru⟩:=rv.get j2;obtain⟨v',hv',V7⟩:=qB.get j3;have eu:u=u':=by rw[List.getElem?_toArray,hu']at k1;exact(kK k1).symm
   have ev:v=v':=by rw[List.getElem?_toArray,hv']at k2;exact(kK k2).symm
   subst eu ev;exact⟨xS,[u,v],.cons ru (.cons V7 .nil),⟨_,k3,Z,_,Z⟩⟩
  have e':H1 c=some o:=by
   have:J c=H1 c:=by
    show(if c=n+5 then _ else if c∈as then _ else _)=_;rw[bX h5,bX hm]
   rw[<- this];exact e
  exact absurd (old c (by rw[e'];intro z;cases z)) (Nat.not_lt.mpr hc)
 .rw[hold c (old c (by rw[e];intro z;cases z))];exact e
 cases e:H1 (n+5)with
 |none=>rfl
 |some o=>exact absurd (old _ (by rw[e];intro z;cases z)) G
def evs{α:Type}:List α->List α
 |[]=>[]
 |[a]=>[a]
 |a::_::r=>a::evs r
theorem xJ:∀{xs:List V}{us:List Value},Vals xs us->Vals (evs xs) (evs us)
 |_,_,.nil=>.nil
 |_,_,.cons r .nil=>.cons r .nil
 |_,_,.cons r (.cons _ t)=>.cons r (xJ t)
theorem j7{α:Type}:∀ xs:List α,(evs xs).length=(xs.length+1)/2
 |[]=>by simp[evs]
 |[a]=>by simp[evs]
 | a::b::r=>by
  show(evs r).length+1=(r.length+2+1)/2;rw[j7 r];exact G
theorem xK:∀ its:List Value,(List.range ((its.length+1)/2)).filterMap (fun k=>its[2*k]?)=evs its
 |[]=>by simp[evs]
 |[a]=>by simp[evs]
 | a::b::r=>by
  have e:((a::b::r).length+1)/2=(r.length+1)/2+1:=by simp only[ba];exact G
  rw[e,rg,gV,nB];show a::_=a::evs r;rw[<- xK r];refine b4 _ (qZ fun k _=>?_);show(a::b::r)[2*(k+1)]?=r[2*k]?;rw[show 2*(k+1)=2*k+1+1 by omega,List.getElem?_cons_succ,List.getElem?_cons_succ]
theorem Jp(its:List Value)(i:Nat):slicePick its.toArray (some (i:Int)) none (some 2)=(evs (its.drop i)).toArray:=by
 unfold slicePick
 have e:sliceBounds (some (i:Int)) none (some 2) its.toArray.size=(((min i its.length:Nat):Int),(its.length:Int),2):=by
  rw[ah];unfold sliceBounds;simp;exact G
 rw[e];show((sliceRange ((min i its.length:Nat):Int) (its.length:Int) 2).filterMap (its.toArray[·]?)).toArray=_;refine b4 List.toArray ?_;rw[<- xK];unfold sliceRange;simp only[show(2:Int)>0 by decide,i6]
 have hc:(if ((min i its.length:Nat):Int)<(its.length:Int)then((its.length:Int)-((min i its.length:Nat):Int)+2-1)/2 else 0).toNat=((its.drop i).length+1)/2:=by
  rw[cm]
  split
  .omega
  exact G
 rw[hc,nB];refine qZ fun k hk=>?_
 have hk:=eP.mp hk;rw[cm]at hk;show its.toArray[(((min i its.length:Nat):Int)+2*k).toNat]?=(its.drop i)[2*k]?;rw[List.getElem?_toArray,List.getElem?_drop]
 congr 1
 exact G
def Td(K:W.Frag)(te tl ts:TE):TE:=fun M H Q=>te M H fun x H1=>tl M H1 fun z H2=>ts M H2 fun y H3=>∃ a xs i,x=.ref a/\z=.int (i:Nat)/\y=.int 2/\b5 K H3 a xs/\∀ p,H3 p=none->Q (.ref p) (upd H3 p (.lst (evs (xs.drop i))))
theorem FQ{lo st:Expr}{ts:TE}(he:PE X e te)(hl:PE X lo tl)(hs:PE X st ts):PE X (.Subscript e (.Slice (some lo) none (some st) p2) pos) (Td X.K te tl ts):=by
 intro Y s M H Q I h;refine Subscript_ (thn (he Y s M H _ I h) fun v s1 ⟨x,H1,I1,r1,q1⟩=>?_);refine wpAny_Slice ?_;rw[evalPart_some];refine thn (hl Y s1 M H1 _ I1 q1) fun u0 s0 ⟨z,H0,I0,r0,q0⟩=>?_
 rw[evalPart_none];refine ar ?_;rw[evalPart_some];refine thn (hs Y s0 M H0 _ I0 q0) fun u s2 ⟨y,H2,I2,r2,q2⟩=>?_
 obtain⟨a,xs,i,rfl,rfl,rfl,hx,q⟩:=q2;cases r1;obtain⟨t,rfl⟩:=r2;obtain⟨t0,rfl⟩:=r0;have I3:Inv X Y M H2 { s2 with heap:=s2.heap.push { cls:=.type "slice",data:=.fields #[.int i t0,.none,.int 2 t] } }:=I2.kept (t':=s2.toks) fun b ob q=>Heap.get?_push_of_some _ q
 obtain⟨its,r,ht,hz⟩:=I3.list hx;show wpAny (model X.prog X.w) X.A (subscriptTail e (.Slice (some lo) none (some st) p2) (.ref a) (.ref s2.heap.objs.size)) (EP X Y M Q) X.xe { s2 with heap:=s2.heap.push { cls:=.type "slice",data:=.fields #[.int i t0,.none,.int 2 t] } };refine tail_any (ops:=[.ref a,.ref s2.heap.objs.size]) ht.isList.typeIs IT.lookup ?_ ou;have hlen:=r.length;refine wpAny_getItem_list_slice ht.isList (Heap.IsSliceOf.new ..) (.int i t0) .none (.int 2 t) oz ?_ (by rw[ah]<;>exact G);rw[Jp];refine⟨.ref _,_,I3.laid (o:=.lst (evs (xs.drop i))) (fun b ob q=>Heap.get?_push_of_some _ q) (qnr _) ?_,Z,q _ (I3.hok.fresh (qnr _))⟩;exact⟨by rw[j7,cm];exact G,_,0,xJ (r.drop i),Heap.get?_push_size _ rfl⟩
theorem Bg{f:Str}(h:X.K=K)(he:PE X e ta)(hb:attributeBase e f X.env (eval e X.env)=eval e X.env):PE X (.Attribute e f pos) (Pu K ta f):=h ▸ bC he hb
end L2
namespace Mc
open PySem PySem.Spec PyProof.Rows
inductive Op where
 |and|or|thn|same
 deriving DecidableEq
def Op.str:Op->Str
 | .and => "and"
 | .or => "or"
 | .thn => "then"
 | .same => "same"
inductive Tr where
 |nm (x:Str)|yes|no|not (t:Tr)|bin (o:Op) (a b:Tr)
def Tr.tag:Tr->Str
 | .nm _ => "name"
 | .yes => "yes"
 | .no => "no"
 | .not _ => "not"
 | .bin o _ _=>o.str
def Tr.kids:Tr->List Tr
 | .not t=>[t]
 | .bin _ a b=>[a,b]
 |_=>[]
def Tr.depth:Tr->Nat
 | .not t=>t.depth+1
 | .bin _ a b=>max a.depth b.depth+1
 |_=>1
def Tr.size:Tr->Nat
 | .not t=>t.size+1
 | .bin _ a b=>a.size+b.size+1
 |_=>1
def Tr.names:Tr->List Str
 | .nm x=>[x]
 | .not t=>t.names
 | .bin _ a b=>a.names++b.names
 |_=>[]
def Tr.isNm:Tr->Bool
 | .nm _=>true
 |_=>false
theorem Tr.ll(t:Tr):1<=t.depth:=by cases t<;>simp[Tr.depth]
theorem kZ(t:Tr):(t.tag=("name":Str))↔t.isNm=true:=by
 cases t with
 |nm x=>simp[Tr.tag,Tr.isNm]
 |yes=>simp only[Tr.tag,Tr.isNm];decide +kernel
 |no=>simp only[Tr.tag,Tr.isNm];decide +kernel
 |not t=>simp only[Tr.tag,Tr.isNm];decide +kernel
 |bin o a b=>cases o <;> (simp only[Tr.tag,Tr.isNm,Op.str];decide +kernel)
def jM(ts:List Tr):Nat:=ts.foldr (fun t d=>max t.depth d) 0
def dW(ts:List Tr):Nat:=(ts.map Tr.size).sum
theorem Jq(a b:List Tr):jM (a++b)=max (jM a) (jM b):=by
 induction a with
 |nil=>simp[jM]
 |cons t r ih=>simp only[i',jM,List.foldr_cons]at *;rw[ih];exact G
theorem uZ(t:Tr):t.depth=jM t.kids+1:=by
 cases t<;>simp[Tr.kids,jM,Tr.depth]
theorem sJ:∀ ts:List Tr,ts≠[]->jM ts=jM (ts.flatMap Tr.kids)+1
 | [t],_=>by
  have:=uZ t;simp only[gL,CI,c_];show max t.depth 0=_;exact G
 | t::u::r,_=>by
  have h1:=sJ (u::r) oz;have h2:=uZ t;rw[gL,Jq];show max t.depth (jM (u::r))=_;exact G
theorem FT(a b:List Tr):dW (a++b)=dW a+dW b:=by simp[dW]
theorem Cz(t:Tr):t.size=dW t.kids+1:=by
 cases t<;>simp[Tr.kids,dW,Tr.size]
theorem ju(ts:List Tr):dW ts=dW (ts.flatMap Tr.kids)+ts.length:=by
 induction ts with
 |nil=>rfl
 | cons t r ih =>
  rw[gL,FT];show t.size+dW r=_;have:=Cz t;simp only[ba];exact G
theorem sO(ts:List Tr):ts.length<=dW ts:=by rw[ju];exact G
def dm(ts:List Tr):List Str:=ts.flatMap Tr.names
theorem CG(t:Tr)(x:Str):x∈t.names↔t=.nm x\/x∈dm t.kids:=by
 cases t with
 | nm y =>
  simp only[Tr.names,Tr.kids,dm,CI,aI,p_,or_false,Tr.nm.injEq];exact eq_comm
 |yes=>simp[Tr.names,Tr.kids,dm]
 |no=>simp[Tr.names,Tr.kids,dm]
 |not t=>simp[Tr.names,Tr.kids,dm]
 |bin o a b=>simp[Tr.names,Tr.kids,dm]
theorem oW(ts:List Tr)(x:Str):x∈dm ts↔Tr.nm x∈ts\/x∈dm (ts.flatMap Tr.kids):=by
 induction ts with
 |nil=>simp[dm]
 | cons t r ih =>
  have e1:dm (t::r)=t.names++dm r:=rfl;have e2:dm ((t::r).flatMap Tr.kids)=dm t.kids++dm (r.flatMap Tr.kids):=by simp[dm]
  rw[e1,e2,a_,a_,CG,ih,ai]
  constructor
  .rintro((h|h) | (h|h))
   .exact .inl (.inl h.symm)
   .exact .inr (.inl h)
   .exact .inl (.inr h)
   exact .inr (.inr h)
  rintro((h|h) | (h|h))
  .exact .inl (.inl h.symm)
  .exact .inr (.inl h)
  .exact .inl (.inr h)
  exact .inr (.inr h)
theorem lu{α:Type}[DecidableEq α]:∀{a b:List α},a.Nodup->(∀ x∈a,x∈b)->a.length<=b.length
 |[],_,_,_=>mi _
 | x::r,b,ha,h=>by
  have hx:=h x qms;have h1:=lu (b:=b.erase x) (eW.mp ha).2 fun y hy=>(List.mem_erase_of_ne (fun e=>by subst e;exact(eW.mp ha).1 hy)).mpr (h y (k9 _ hy))
  have h2:=List.length_erase_of_mem hx;have h3:0<b.length:=List.length_pos_of_mem hx;simp only[ba];exact G
end Mc
variable{t tr:Mc.Tr}{ts:List Mc.Tr}
namespace Mc
open PySem
abbrev Str.l(x:Str):List Nat:=x.cps.toList
theorem Ng{a b:Str}(h:a.cps.toList=b.cps.toList):a=b:=by
 have e2:a.cps=b.cps:=CL.mp h;cases a;cases b;exact b4 Str.mk e2
theorem wu(a b:Str):(a++b).cps.toList=a.cps.toList++b.cps.toList:=by
 show(a.cps++b.cps).toList=_;simp
theorem nu(a:Str):a.length=a.cps.toList.length:=by
 show a.cps.size=_;simp
theorem Ql:∀ ys:List Str,(Txt.join (⟨#[]⟩:Str) ys).cps.toList=ys.flatMap (·.cps.toList):=by
 have gen:∀ ys:List Str,(Str.join (⟨#[]⟩:Str) ys).cps.toList=ys.flatMap (·.cps.toList):=by
  intro ys
  induction ys with
  |nil=>rfl
  | cons x r ih =>
   cases r with
   | nil =>
    show x.cps.toList=_;simp
   | cons y q =>
    show(x++(⟨#[]⟩:Str)++Str.join ⟨#[]⟩ (y::q)).cps.toList=_;rw[wu,wu,ih,gL];simp
 intro ys;show(Builtin.Str.glued _ ys).cps.toList=_;rw[i8];exact gen ys
abbrev ox:Str := "abcdefghijklmnopqrstuvwxyz"
theorem CJ(i:Nat)(h:i<26):ox.cps.toList[i]?=some (97+i):=by
 have:∀ i:_root_.Fin 26,ox.cps.toList[i.val]?=some (97+i.val):=by decide +kernel
 exact this ⟨i,h⟩
theorem yX:ox.length=26:=by decide +kernel
structure pE(y:Str):Prop where
 pos:1<=y.cps.toList.length
 le:y.cps.toList.length<=8
 ok:∀ c∈y.cps.toList,97<=c/\c<=122
end Mc
namespace Mc
open PySem PySem.Spec PyProof.Rows L2
inductive eD(H:Hp):V->Tr->Prop where
 |nm {a:Addr} {x:Str}:H a=some (.tup [.str "name",.str x])->eD H (.ref a) (.nm x)
 |yes {a:Addr}:H a=some (.tup [.str "yes"])->eD H (.ref a) .yes
 |no {a:Addr}:H a=some (.tup [.str "no"])->eD H (.ref a) .no
 |not {a:Addr} {v:V} {t:Tr}:H a=some (.tup [.str "not",v])->eD H v t->eD H (.ref a) (.not t)
 |bin {a:Addr} {o:Op} {v u:V} {t t':Tr}:H a=some (.tup [.str o.str,v,u])->eD H v t->eD H u t'->eD H (.ref a) (.bin o t t')
def fF(H J:Hp):Prop:=∀ b xs,H b=some (.tup xs)->J b=some (.tup xs)
theorem fF.trans(a:fF H H1)(b:fF H1 H2):fF H H2:=fun c o h=>b c o (a c o h)
theorem _root_.L2.bb.tups(s:bb H J):fF H J:=fun b xs h=>s b _ h
theorem eD.mono(k:fF H J)(h:eD H v t):eD J v t:=by
 induction h with
 |nm e=>exact .nm (k _ _ e)
 |yes e=>exact .yes (k _ _ e)
 |no e=>exact .no (k _ _ e)
 |not e _ ih=>exact .not (k _ _ e) ih
 |bin e _ _ Wu Wt=>exact .bin (k _ _ e) Wu Wt
theorem eD.open(h:eD H v t):∃ a rest,v=.ref a/\H a=some (.tup (.str t.tag::rest))/\(t.isNm=true->∃ x,t=.nm x/\rest=[.str x])/\(t.isNm=false->Paired (eD H) rest t.kids):=by
 cases h with
 |nm e=>exact⟨_,_,rfl,e,fun _=>⟨_,rfl,rfl⟩,fun z=>by cases z⟩
 |yes e=>exact⟨_,_,rfl,e,(fun z=>by cases z),fun _=>.nil⟩
 |no e=>exact⟨_,_,rfl,e,(fun z=>by cases z),fun _=>.nil⟩
 |not e h1=>exact⟨_,_,rfl,e,(fun z=>by cases z),fun _=>.cons h1 .nil⟩
 |bin e h1 h2=>exact⟨_,_,rfl,e,(fun z=>by cases z),fun _=>.cons h1 (.cons h2 .nil)⟩
theorem dD(k:fF H J){us:List V}(h:Paired (eD H) us ts):Paired (eD J) us ts:=Paired.ib h fun _ _ q=>q.mono k
theorem bK{α β:Type}{F:α->β->Prop}:∀{a c:List α}{b d:List β},Paired F a b->Paired F c d->Paired F (a++c) (b++d)
 |_,_,_,_,.nil,s=>s
 |_,_,_,_,.cons r t,s=>.cons r (bK t s)
theorem bx{α β:Type}{F:α->β->Prop}:∀{a:List α}{b:List β},Paired F a b->∀(i:Nat) x,a[i]?=some x->∃ y,b[i]?=some y/\F x y
 |_,_,.nil,i,x,h=>by simp at h
 | _,_,.cons r t,0,x,h=>by
  rw[List.getElem?_cons_zero]at h;cases h;exact⟨_,Z,r⟩
 | _,_,.cons r t,i+1,x,h=>by
  rw[List.getElem?_cons_succ]at h;exact bx t i x h
theorem Jr(x:V)(rest:List V):ik (x::rest) (some 1) none=rest:=by
 unfold ik HT.fN;simp
theorem xM(x:V)(rest:List V):¬(HT.fN (x::rest).length 0 (some 1)=0/\HT.fN (x::rest).length (x::rest).length none=(x::rest).length):=by
 unfold HT.fN;simp
theorem aB{l:Addr}(h:H l=none):bb H (upd H l o):=fun b u e=>by
 rw[aA (aD e h)];exact e
theorem iw(h:H b=some (.lst xs)):fF H (upd H b o):=fun c ys e=>by
 rw[aA (fun z=>by subst z;rw[h]at e;cases e)];exact e
theorem FW(s:bb H J){l:Addr}(h:J l=none):H l=none:=s.free h
theorem FZ{ys:List Str}(h:kvs.map (·.1)=ys.map Sum.inr)(x:Str)(v:V): (putK kvs (Sum.inr x:Key) v).map (·.1)=(if x∈ys then ys else ys++[x]).map Sum.inr:=by
 have nc:((kvs.any fun kv=>decide (kv.1=(Sum.inr x:Key)))=true)↔x∈ys:=by
  rw[List.any_eq_true]
  constructor
  .rintro⟨p,hp,e⟩
   have e:=eT e;have:(Sum.inr x:Key)∈kvs.map (·.1):=cb.mpr ⟨p,hp,e⟩;rw[h]at this;obtain⟨y,hy,e2⟩:=cb.mp this;cases e2;exact hy
  intro hx;have:(Sum.inr x:Key)∈kvs.map (·.1):=by rw[h];exact cb.mpr ⟨x,hx,rfl⟩
  obtain⟨p,hp,e⟩:=cb.mp this;exact⟨p,hp,cK e⟩
 unfold putK
 by_cases e:x∈ys
 .rw[qp (nc.mpr e),qp e,dr,<- h]
  apply eS;intro p _;show(if p.1=(Sum.inr x:Key)then(p.1,v)else p).1=p.1
  split<;>rfl
 rw[bX (fun z=>e (nc.mp z)),bX e,ay,h,ay]
 rfl
theorem lk(h:n<=1000):n<=sizeLine:=mB (cM h)
theorem lks(h:n<=1000:=by first|exact gx rfl|simp):n<=sizeLine:=lk h
theorem CK{ys:List Str}(h:ys.Nodup)(hx:x∉ys):(ys++[x]).Nodup:=Ao h hx
end Mc
namespace Mc
open PySem
theorem rm(a:Nat):(Builtin.bitNot (Builtin.bitNot (a:Int)))=a:=by unfold Builtin.bitNot;exact G
theorem band(a b:Nat):Builtin.bitAnd (a:Int) (b:Int)=((a&&&b:Nat):Int):=by
 unfold Builtin.bitAnd;rw[cK (hW a),cK (hW b)]
 rfl
theorem bor(a b:Nat):Builtin.bitOr (a:Int) (b:Int)=((a|||b:Nat):Int):=by
 unfold Builtin.bitOr Builtin.bitAnd;have h1:¬(0:Int)<=Builtin.bitNot (a:Int):=by unfold Builtin.bitNot;exact G
 have h2:¬(0:Int)<=Builtin.bitNot (b:Int):=by unfold Builtin.bitNot;exact G
 rw[gS h1,gS h2];show Builtin.bitNot (Builtin.bitNot (((Builtin.bitNot (Builtin.bitNot (a:Int))).toNat|||(Builtin.bitNot (Builtin.bitNot (b:Int))).toNat:Nat):Int))=_;rw[rm,rm,rm]
 rfl
theorem yZ:∀(a b:Nat),(a^^^b)+(a&&&b)=a|||b:=by
 intro a
 induction a using Nat.strongRecOn with
 | ind a ih =>
  intro b
  by_cases h:a=0
  .subst h
   simp
  have q:=ih (a/2) G (b/2);have e1:(a^^^b)/2=a/2^^^b/2:=Nat.xor_div_two;have e2:(a&&&b)/2=a/2&&&b/2:=Nat.and_div_two;have e3:(a|||b)/2=a/2|||b/2:=Nat.or_div_two
  have m:∀ x:Nat,x%2=if x.testBit 0 then 1 else 0:=fun x=>by
   rw[Nat.testBit_zero]
   by_cases z:x%2=1
   .simp[z]
   simp[z];exact G
  have f1:=m (a^^^b);have f2:=m (a&&&b);have f3:=m (a|||b);rw[gy]at f1;rw[rX]at f2;rw[kF]at f3;have d1:=r6 (a^^^b) 2;have d2:=r6 (a&&&b) 2;have d3:=r6 (a|||b) 2;rw[e1]at d1;rw[e2]at d2;rw[e3]at d3
  have key:∀(u v:Bool)(x y z:Nat),x=(if (u ^^ v)=true then 1 else 0)->y=(if (u&&v)=true then 1 else 0)->z=(if (u||v)=true then 1 else 0)->x+y=z:=by
   intro u v x y z h1 h2 h3;subst h1 h2 h3;cases u<;>cases v<;>rfl
  have:=key _ _ _ _ _ f1 f2 f3;exact G
theorem bxor(a b:Nat):Builtin.bitXor (a:Int) (b:Int)=((a^^^b:Nat):Int):=by
 unfold Builtin.bitXor;rw[bor,band];have:=yZ a b;exact G
def gh(p:Nat->Bool):Nat->Nat
 | 0=>0
 |m+1=>gh p m+if p m=true then 2^m else 0
theorem pY(p:Nat->Bool):∀ m,gh p m<2^m
 | 0=>Nat.one_pos
 | m+1=>by
  have:=pY p m;have e:2^(m+1)=2^m+2^m:=by rw[g_];exact G
  show gh p m+(if p m=true then 2^m else 0)<_
  split<;>exact G
theorem fu(p:Nat->Bool):∀ m i,(gh p m).testBit i=(decide (i<m)&&p i)
 | 0,i=>by simp[gh]
 | m + 1,i=>by
  have f':=pY p m;have ih:=fu p m
  by_cases h1:i<m
  .have e:(gh p (m+1)).testBit i=(gh p m).testBit i:=by
    show(gh p m+if p m=true then 2^m else 0).testBit i=_
    split
    .rw[AB];exact IU h1 _
    rfl
   rw[e,ih i,cK h1,cK (show i<m+1 by omega)]
  by_cases h2:i=m
  .subst h2
   rw[cK (show i<i+1 by omega)];show(gh p i+if p i=true then 2^i else 0).testBit i=_;have z:(gh p i).testBit i=false:=kG f';cases hp:p i with
   |true=>rw[qp rfl,AB,IX,z];rfl
   |false=>rw[bX b9];exact z
  rw[gS (show ¬i<m+1 by omega)];have:=pY p (m+1);have e:2^(m+1)<=2^i:=b3 b9 G;exact kG G
theorem Js(m:Nat):gh (fun _=>true) m=2^m-1:=by
 refine cn fun i=>?_
 rw[fu,mw,Bool.and_true]
theorem Ga(m:Nat):gh (fun _=>false) m=0:=by
 refine cn fun i=>?_
 rw[fu,i9,nI]
def bO(g:Str->Bool):Tr->Bool
 | .nm x=>g x
 | .yes=>true
 | .no=>false
 | .not t=>!bO g t
 | .bin .and a b=>bO g a&&bO g b
 | .bin .or a b=>bO g a||bO g b
 | .bin .thn a b=>!bO g a||bO g b
 | .bin .same a b=>bO g a==bO g b
def pZ:Op->Nat×Nat->Nat×Nat->Nat×Nat
 | .and,l,r=>(l.1&&&r.1,l.2|||r.2)
 | .or,l,r=>(l.1|||r.1,l.2&&&r.2)
 | .thn,l,r=>(l.2|||r.1,l.1&&&r.2)
 | .same,l,r=>((l.1&&&r.1)|||(l.2&&&r.2),(l.1&&&r.2)|||(l.2&&&r.1))
def dq(f:Str->Nat×Nat)(e:Nat):Tr->Nat×Nat
 | .nm x=>f x
 | .yes=>(e,0)
 | .no=>(0,e)
 | .not t=>((dq f e t).2,(dq f e t).1)
 | .bin o a b=>pZ o (dq f e a) (dq f e b)
theorem jw{f:Str->Nat×Nat}{e i:Nat}{g:Str->Bool}(he:e.testBit i=true):∀{t:Tr},(∀ x∈t.names,(f x).1.testBit i=g x/\(f x).2.testBit i = !g x) -> (dq f e t).1.testBit i=bO g t/\(dq f e t).2.testBit i = !bO g t
 | .nm x,h=>h x qms
 | .yes,_=>⟨he,i9 i⟩
 | .no,_=>⟨i9 i,he⟩
 | .not t,h=>by
  obtain⟨h1,h2⟩:=jw he (t:=t) h;exact⟨h2,by show(dq f e t).1.testBit i = !!bO g t;rw[h1,Bool.not_not]⟩
 | .bin o a b,h=>by
  obtain⟨a1,a2⟩:=jw he (t:=a) fun x hx=>h x (xi _ hx)
  obtain⟨b1,b2⟩:=jw he (t:=b) fun x hx=>h x (pd _ hx)
  cases o<;>simp only[dq,pZ,bO,rX,kF,a1,a2,b1,b2]<;>cases bO g a<;>cases bO g b<;>first|exact⟨Z,Z⟩|exact⟨trivial,trivial⟩|decide
theorem lM{f:Str->Nat×Nat}{e i:Nat}(he:e.testBit i=false):∀{t:Tr},(∀ x∈t.names,(f x).1.testBit i=false/\(f x).2.testBit i=false) -> (dq f e t).1.testBit i=false/\(dq f e t).2.testBit i=false
 | .nm x,h=>h x qms
 | .yes,_=>⟨he,i9 i⟩
 | .no,_=>⟨i9 i,he⟩
 | .not t,h=>by
  obtain⟨h1,h2⟩:=lM he (t:=t) h;exact⟨h2,h1⟩
 | .bin o a b,h=>by
  obtain⟨a1,a2⟩:=lM he (t:=a) fun x hx=>h x (xi _ hx)
  obtain⟨b1,b2⟩:=lM he (t:=b) fun x hx=>h x (pd _ hx)
  cases o<;>simp only[dq,pZ,rX,kF,a1,a2,b1,b2]<;>first|exact⟨Z,Z⟩|exact⟨trivial,trivial⟩|decide
theorem iU{f h:Str->Nat×Nat}{e:Nat}:∀{t:Tr},(∀ x∈t.names,f x=h x)->dq f e t=dq h e t
 | .nm x,q=>q x qms
 | .yes,_=>rfl
 | .no,_=>rfl
 | .not t,q=>by
  have:=iU (e:=e) (t:=t) q;show((dq f e t).2,(dq f e t).1)=_;rw[this];rfl
 | .bin o a b,q=>by
  have e1:=iU (e:=e) (t:=a) fun x hx=>q x (xi _ hx)
  have e2:=iU (e:=e) (t:=b) fun x hx=>q x (pd _ hx)
  show pZ o _ _=pZ o _ _;rw[e1,e2]
def inW(ns:List Str)(i:Nat)(x:Str):Bool:=i.testBit (ns.idxOf x)
def dZ(n k:Nat):Nat:=gh (fun i=>i.testBit k) (2^n)
def cP(n:Nat):Nat:=2^(2^n)-1
def aQ(ns:List Str)(t:Tr):Nat:=gh (fun i=>bO (inW ns i) t) (2^ns.length)
def aV(ns:List Str)(t:Tr):Nat:=gh (fun i=>!bO (inW ns i) t) (2^ns.length)
theorem fX(n i:Nat):(cP n).testBit i=decide (i<2^n):=by unfold cP;rw[mw]
def QP(ns:List Str)(x:Str):Nat×Nat:=(dZ ns.length (ns.idxOf x),cP ns.length^^^dZ ns.length (ns.idxOf x))
theorem z6:(dq (QP ns) (cP ns.length) t).1=aQ ns t:=by
 refine cn fun i=>?_
 unfold aQ;rw[fu]
 by_cases h:i<2^ns.length
 .rw[cK h,Bool.true_and]
  refine(jw (g:=inW ns i) (by rw[fX,cK h]) fun x _=>?_).1;unfold QP dZ;rw[gy,fu,fX,cK h,Bool.true_and,Bool.true_xor];exact⟨Z,Z⟩
 rw[gS h,JE];refine(lM (by rw[fX,gS h]) fun x _=>?_).1;unfold QP dZ;rw[gy,fu,fX,gS h];exact⟨Z,Z⟩
theorem qI:cP ns.length^^^aQ ns t=aV ns t:=by
 refine cn fun i=>?_
 unfold aQ aV;rw[gy,fu,fu,fX];cases decide (i<2^ns.length)<;>cases bO (inW ns i) t<;>rfl
theorem Nh(a k:Nat):((a/2^k)%2:Nat)=if a.testBit k=true then 1 else 0:=by
 rw[Nat.testBit_eq_decide_div_mod_eq]
 by_cases h:a/2^k%2=1
 .rw[cK h,qp rfl,h]
 rw[gS h,bX b9];exact G
theorem p6(n k i:Nat):(dZ n k).testBit i=(decide (i<2^n)&&i.testBit k):=fu _ _ _
theorem Gb(k:Nat):(2^(2^k)-1)*2^(2^k)=dZ (k+1) k:=by
 refine cn fun i=>?_
 have e2:2^(k+1)=2^k+2^k:=by rw[g_];exact G
 rw[p6,mx,Nat.testBit_two_pow_mul,mw]
 by_cases h1:i<2^k
 .have z:i.testBit k=false:=kG h1
  rw[z,nI,gS (show ¬i ≥ 2^k by omega),JE]
 by_cases h2:i<2^(k+1)
 .have z:i.testBit k=true:=by
   have e:i=2^k+(i-2^k):=G
   rw[e,IX,kG (show i-2^k<2^k by omega)]
   rfl
  rw[z,cK h2,cK (show i ≥ 2^k by omega),cK (show i-2^k<2^k by omega)]
 rw[gS h2,gS (show ¬i-2^k<2^k by omega)];simp
theorem Jt{k:Nat}(h:k<j):dZ j k|||(dZ j k*2^(2^j))=dZ (j+1) k:=by
 refine cn fun i=>?_
 have e2:2^(j+1)=2^j+2^j:=by rw[g_];exact G
 rw[kF,p6,p6,mx,Nat.testBit_two_pow_mul,p6]
 by_cases h1:i<2^j
 .rw[cK h1,cK (show i<2^(j+1)by omega),gS (show ¬i ≥ 2^j by omega)]
  simp
 rw[gS h1,cK (show i ≥ 2^j by omega)]
 by_cases h2:i<2^(j+1)
 .have z:(i-2^j).testBit k=i.testBit k:=by
   have e:i=2^j+(i-2^j):=G
   conv=>rhs;rw[e]
   rw[IU h]
  rw[cK h2,cK (show i-2^j<2^j by omega),z];simp
 rw[gS h2,gS (show ¬i-2^j<2^j by omega)];simp
theorem cu(ns:List Str)(t:Tr)(i:Nat):(aQ ns t).testBit i=(decide (i<2^ns.length)&&bO (inW ns i) t):=fu _ _ _
theorem Qm(ns:List Str):aQ ns .yes=cP ns.length:=Js _
theorem RB(ns:List Str):aQ ns .no=0:=Ga _
theorem Qn(ns:List Str)(t:Tr):aQ ns (.not t)=cP ns.length^^^aQ ns t:=by
 refine cn fun i=>?_
 rw[gy,cu,cu,fX];show(decide (i<2^ns.length) && !bO (inW ns i) t)=_;cases decide (i<2^ns.length)<;>cases bO (inW ns i) t<;>rfl
theorem Qo(ns:List Str)(a b:Tr):aQ ns (.bin .and a b)=aQ ns a&&&aQ ns b:=by
 refine cn fun i=>?_
 rw[rX,cu,cu,cu];show(decide (i<2^ns.length)&&(bO (inW ns i) a&&bO (inW ns i) b))=_;cases decide (i<2^ns.length)<;>cases bO (inW ns i) a<;>cases bO (inW ns i) b<;>rfl
theorem RC(ns:List Str)(a b:Tr):aQ ns (.bin .or a b)=aQ ns a|||aQ ns b:=by
 refine cn fun i=>?_
 rw[kF,cu,cu,cu];show(decide (i<2^ns.length)&&(bO (inW ns i) a||bO (inW ns i) b))=_;cases decide (i<2^ns.length)<;>cases bO (inW ns i) a<;>cases bO (inW ns i) b<;>rfl
theorem Qp(ns:List Str)(a b:Tr):aQ ns (.bin .thn a b)=(cP ns.length^^^aQ ns a)|||aQ ns b:=by
 refine cn fun i=>?_
 rw[kF,gy,cu,cu,cu,fX];show(decide (i<2^ns.length)&&(!bO (inW ns i) a||bO (inW ns i) b))=_;cases decide (i<2^ns.length)<;>cases bO (inW ns i) a<;>cases bO (inW ns i) b<;>rfl
theorem Ni(ns:List Str)(a b:Tr):aQ ns (.bin .same a b)=(cP ns.length^^^aQ ns a)^^^aQ ns b:=by
 refine cn fun i=>?_
 rw[gy,gy,cu,cu,cu,fX];show(decide (i<2^ns.length)&&(bO (inW ns i) a==bO (inW ns i) b))=_;cases decide (i<2^ns.length)<;>cases bO (inW ns i) a<;>cases bO (inW ns i) b<;>rfl
def jx(rs:List Int)(side m:Nat):List Int:=((List.range m).filter fun i=>side.testBit i).map fun i=>rs.getD i 0
def sel(rs:List Int)(side:Nat):List Int:=jx rs side rs.length
theorem CN(rs:List Int)(side m:Nat):jx rs side (m+1)=jx rs side m++if side.testBit m=true then [rs.getD m 0]else []:=by
 unfold jx;rw[fA,gp,ay];cases h:side.testBit m with
 |true=>simp[h]
 |false=>simp[h]
theorem Gd(rs:List Int)(side m:Nat):(jx rs side m).length <= m:=by
 unfold jx;rw[de];refine g9 (eI _ _) ?_;rw[dA];exact qnr _
def aU:List Int->Option Int
 |[]=>none
 |x::r=>some (r.foldl min x)
theorem oX:∀(r:List Int)(x:Int),(r.foldl min x=x\/r.foldl min x∈r)/\r.foldl min x<=x/\∀ a∈r,r.foldl min x<=a
 |[],x=>⟨.inl rfl,ot _,fun a h=>nomatch h⟩
 | y::r,x=>by
  obtain⟨h1,h2,h3⟩:=oX r (min x y);show(r.foldl min (min x y)=x\/r.foldl min (min x y)∈y::r)/\r.foldl min (min x y)<=x/\∀ a∈y::r,r.foldl min (min x y)<=a;refine⟨?_,G,fun a ha=>?_⟩
  .rcases h1 with h1|h1
   .rw[h1]
    by_cases h:x<=y
    .exact .inl G
    exact .inr (by rw[show min x y=y by omega];exact qms)
   exact .inr (k9 _ h1)
  rcases ai.mp ha with rfl|ha
  .omega
  exact h3 a ha
theorem rn{l:List Int}{aad:Int}(h1:aad∈l)(h2:∀ a∈l,aad<=a):aU l=some aad:=by
 cases l with
 |nil=>cases h1
 | cons x r =>
  obtain⟨q1,q2,q3⟩:=oX r x;show some (r.foldl min x)=some aad
  have a1:r.foldl min x∈x::r:=by
   rcases q1 with q|q
   .rw[q];exact qms
   exact k9 _ q
  have a2:=h2 _ a1
  have a3:r.foldl min x<=aad:=by
   rcases ai.mp h1 with rfl|h
   .exact q2
   exact q3 aad h
  congr 1
  exact G
theorem h_{x:Int}:x∈sel rs sd↔∃ i,i<rs.length/\sd.testBit i=true/\rs.getD i 0=x:=by
 unfold sel jx;rw[cb]
 constructor
 .rintro⟨i,h,rfl⟩
  obtain⟨h1,h2⟩:=md.mp h;exact⟨i,eP.mp h1,h2,Z⟩
 rintro⟨i,h1,h2,rfl⟩;exact⟨i,md.mpr ⟨eP.mpr h1,h2⟩,Z⟩
theorem dF{l:List Int}{aad:Int}(h:aU l=some aad):aad∈l/\∀ a∈l,aad<=a:=by
 cases l with
 |nil=>cases h
 | cons x r =>
  obtain⟨q1,q2,q3⟩:=oX r x;have e:r.foldl min x=aad:=kK h;rw[e]at q1 q2 q3;refine⟨?_,fun a ha=>?_⟩
  .rcases q1 with q|q
   .rw[q];exact qms
   exact k9 _ q
  rcases ai.mp ha with rfl|ha
  .exact q2
  exact q3 a ha
theorem sS{l:List Int}(h:aU l=none):l=[]:=by
 cases l with
 |nil=>rfl
 |cons x r=>cases h
theorem oY(ns:List Str)(t:Tr)(i:Nat):(aV ns t).testBit i=(decide (i<2^ns.length) && !bO (inW ns i) t):=fu _ _ _
theorem Ge(h:rs.length=2^ns.length)(t:Tr){x:Int}(hx:x∈rs):x∈sel rs (aV ns t)\/x∈sel rs (aQ ns t):=by
 obtain⟨i,hi,e⟩:=List.mem_iff_getElem.mp hx;have eg:rs.getD i 0=x:=by rw[List.getD,List.getElem?_eq_getElem hi];exact e
 cases hb:bO (inW ns i) t with
 |true=>exact .inr (h_.mpr ⟨i,hi,by rw[cu,hb,cK G];rfl,eg⟩)
 |false=>exact .inl (h_.mpr ⟨i,hi,by rw[oY,hb,cK G];rfl,eg⟩)
theorem mO{x:Int}(h:x∈sel rs sd):x∈rs:=by
 obtain⟨i,hi,_,e⟩:=h_.mp h;rw[List.getD,List.getElem?_eq_getElem hi]at e;rw[<- e];exact fg hi
def dH(l:Int):Int:=if 0>l then 0 else l
theorem Bh(l:Int):0<=dH l:=by unfold dH;split<;>exact G
def gY(rs:List Int)(bk:Nat)(dx dy:Int)(m:Nat):List Int:=(List.range m).map fun i=>rs.getD i 0+if bk.testBit i=true then dx else dy
def gj(rs:List Int)(bk:Nat)(x y lean:Int):List Int:=gY rs bk (dH lean-x) (dH (-lean)-y) rs.length
theorem z7(rs:List Int)(bk:Nat)(dx dy:Int)(m:Nat):gY rs bk dx dy (m+1)=gY rs bk dx dy m++[rs.getD m 0+if bk.testBit m=true then dx else dy]:=by
 unfold gY;rw[fA,ay]
 rfl
theorem sU(rs:List Int)(bk:Nat)(dx dy:Int)(m:Nat):(gY rs bk dx dy m).length=m:=by unfold gY;simp
theorem jF(rs:List Int)(bk:Nat)(x y lean:Int):(gj rs bk x y lean).length=rs.length:=sU _ _ _ _ _
theorem jm{bk:Nat}{x y:Int}(h:i<rs.length):(gj rs bk x y lean).getD i 0=rs.getD i 0+if bk.testBit i=true then dH lean-x else dH (-lean)-y:=by
 unfold gj gY;rw[List.getD,kg,List.getElem?_range h]
 rfl
theorem mem_getD{x:Int}(h:x∈rs):∃ i,i<rs.length/\rs.getD i 0=x:=by
 obtain⟨i,hi,e⟩:=List.mem_iff_getElem.mp h;exact⟨i,hi,by rw[List.getD,List.getElem?_eq_getElem hi];exact e⟩
theorem rz(h:i<2^ns.length):(aQ ns t).testBit i = !(aV ns t).testBit i:=by
 rw[cu,oY,cK h];simp
structure rf(ns:List Str)(t:Tr)(rs:List Int)(x y:Int):Prop where
 len:rs.length=2^ns.length
 br:aU (sel rs (aV ns t))=some x
 kp:aU (sel rs (aQ ns t))=some y
theorem rf.Ki{x y:Int}(h:rf ns t rs x y)(hi:i<rs.length)(hb:(aV ns t).testBit i=true):x<=rs.getD i 0:=(dF h.br).2 _ (h_.mpr ⟨i,hi,hb,rfl⟩)
theorem rf.Kb{x y:Int}(h:rf ns t rs x y)(hi:i<rs.length)(hb:(aV ns t).testBit i=false):y<=rs.getD i 0:=(dF h.kp).2 _ (h_.mpr ⟨i,hi,by rw[rz (by have:=h.len;exact G),hb];rfl,rfl⟩)
theorem rf.PH{x y:Int}(h:rf ns t rs x y)(lean:Int):rf ns t (gj rs (aV ns t) x y lean) (dH lean) (dH (-lean)):=by
 have hl:=jF rs (aV ns t) x y lean;refine⟨by rw[hl];exact h.len,rn ?_ ?_,rn ?_ ?_⟩
 .obtain⟨i,hi,hb,e⟩:=h_.mp (dF h.br).1
  refine h_.mpr ⟨i,G,hb,?_⟩;rw[jm hi,e,qp hb];exact G
 .intro a ha
  obtain⟨i,hi,hb,rfl⟩:=h_.mp ha;have hi:i<rs.length:=G
  have:=h.Ki hi hb;rw[jm hi,qp hb];exact G
 .obtain⟨i,hi,hb,e⟩:=h_.mp (dF h.kp).1
  have y8:=hb;rw[rz (by have:=h.len;exact G)]at y8;have y8:(aV ns t).testBit i=false:=by simpa using y8
  refine h_.mpr ⟨i,G,hb,?_⟩;rw[jm hi,e,bX (by rw[y8];decide)];exact G
 intro a ha;obtain⟨i,hi,hb,rfl⟩:=h_.mp ha;have hi:i<rs.length:=G
 have y8:=hb;rw[rz (by have:=h.len;exact G)]at y8;have y8:(aV ns t).testBit i=false:=by simpa using y8
 have:=h.Kb hi y8;rw[jm hi,bX (by rw[y8];decide)];exact G
theorem rf.geT{x y:Int}(h:rf ns t rs x y):∀ z∈gj rs (aV ns t) x y lean,0<=z:=by
 intro z hz;obtain⟨i,hi,rfl⟩:=mem_getD hz;rw[jF]at hi;rw[jm hi];have g1:=Bh lean;have g2:=Bh (-lean);cases hb:(aV ns t).testBit i with
 | true =>
  have:=h.Ki hi hb;rw[qp rfl];exact G
 | false =>
  have:=h.Kb hi hb;rw[bX b9];exact G
theorem rf.PD{x y:Int}(h:rf ns t rs x y)(lean:Int):0∈gj rs (aV ns t) x y lean:=by
 have h2:=h.PH lean
 by_cases hl:0<lean
 .have e:dH (-lean)=0:=by unfold dH;split<;>exact G
  rw[<- e];exact mO (dF h2.kp).1
 have e:dH lean=0:=by unfold dH;split<;>exact G
 have q:=mO (dF h2.br).1;rw[e]at q;exact q
def jy(ns:List Str)(t:Tr)(rs:List Int):List Int:=match aU (sel rs (aV ns t)),aU (sel rs (aQ ns t))with
 |some x,some y=>if 0<x then gj rs (aV ns t) x y 0 else rs
 |_,_=>rs
def iV(ns:List Str)(t:Tr)(rs:List Int)(firm:Int):List Int:=match aU (sel rs (aV ns t)),aU (sel rs (aQ ns t))with
 |some x,some y=>gj rs (aV ns t) x y firm
 |_,_=>rs
structure gN(ns:List Str)(rs:List Int):Prop where
 len:rs.length=2^ns.length
 ge:∀ z∈rs,0<=z
 zero:0∈rs
theorem gN.C2{x y:Int}(h:rf ns t rs x y)(lean:Int):gN ns (gj rs (aV ns t) x y lean):=⟨by rw[jF];exact h.len,h.geT,h.PD lean⟩
theorem gN.Tz(h:gN ns rs)(t:Tr):gN ns (jy ns t rs):=by
 unfold jy
 split
 .split
  .exact gN.C2 ⟨h.len,by assumption,by assumption⟩ 0
  exact h
 exact h
theorem gN.PV(h:gN ns rs)(t:Tr)(firm:Int):gN ns (iV ns t rs firm):=by
 unfold iV
 split
 .exact gN.C2 ⟨h.len,by assumption,by assumption⟩ firm
 exact h
def cz(ps:List (List Int×Int))(i:Nat):Int:=(ps.map fun x=>x.2*x.1.getD i 0).sum
def bJ(N:Nat)(ps:List (List Int×Int)):List Int:=(List.range N).map (cz ps)
theorem eV(N:Nat)(ps:List (List Int×Int)):(bJ N ps).length=N:=by unfold bJ;simp
theorem Gf(N:Nat):bJ N []=List.replicate N 0:=by
 unfold bJ;rw[show cz []=fun _=>(0:Int)from funext fun _=>rfl,List.map_const',dA]
theorem Gg(ps qs:List (List Int×Int))(i:Nat):cz (ps++qs) i=cz ps i+cz qs i:=by
 unfold cz;rw[ay,r9]
theorem sV(ps:List (List Int×Int))(x:List Int×Int)(i:Nat):cz (ps++[x]) i=cz ps i+x.2*x.1.getD i 0:=by
 rw[Gg];simp[cz]
theorem Ju{N:Nat}(ps:List (List Int×Int))(h:i<N):(bJ N ps).getD i 0=cz ps i:=by
 unfold bJ;rw[List.getD,kg,List.getElem?_range h]
 rfl
def jG(N:Nat)(ps:List (List Int×Int))(x:List Int×Int)(m:Nat):List Int:=(List.range m).map fun i=>(bJ N ps).getD i 0+x.2*x.1.getD i 0
theorem z8(N:Nat)(ps:List (List Int×Int))(x:List Int×Int)(m:Nat):jG N ps x (m+1)=jG N ps x m++[(bJ N ps).getD m 0+x.2*x.1.getD m 0]:=by
 unfold jG;rw[fA,ay]
 rfl
theorem CP(N:Nat)(ps:List (List Int×Int))(x:List Int×Int)(m:Nat):(jG N ps x m).length=m:=by unfold jG;simp
theorem CQ(N:Nat)(ps:List (List Int×Int))(x:List Int×Int):jG N ps x N=bJ N (ps++[x]):=by
 unfold jG;show _=(List.range N).map (cz (ps++[x]));refine eS fun i hi=>?_
 rw[Ju _ (eP.mp hi),sV]
def g0(l:List Int)(m:Int):Prop:=m∈l/\∀ a∈l,m<=a
theorem g0.eq{l:List Int}{m k:Int}(h1:g0 l m)(h2:g0 l k):m=k:=by
 have:=h1.2 k h2.1;have:=h2.2 m h1.1;exact G
end Mc
namespace K69
open PySem L2 Mc
def top(i:Nat):Stmt:=PySem.Challenge.pw_mindchange_k69_whole_run_poured.main.body.getD i (.Pass ⟨0,0,0,0⟩)
abbrev S0:Stmt:=top 14
abbrev S1:Stmt:=top 15
abbrev S2:Stmt:=top 16
abbrev S3:Stmt:=top 17
abbrev S4:Stmt:=top 18
abbrev S5:Stmt:=top 19
abbrev S6:Stmt:=top 21
abbrev S7:Stmt:=top 22
abbrev S8:Stmt:=top 23
abbrev S9:Stmt:=top 24
abbrev S10:Stmt:=top 25
abbrev YT:Stmt:=top 26
abbrev S12:Stmt:=top 27
abbrev S13:Stmt:=top 28
abbrev S14:Stmt:=top 29
abbrev S15:Stmt:=top 30
abbrev S16:Stmt:=top 31
abbrev S17:Stmt:=top 33
abbrev S18:Stmt:=top 34
abbrev S19:Stmt:=top 35
abbrev S20:Stmt:=top 36
abbrev S21:Stmt:=top 37
abbrev S22:Stmt:=top 38
abbrev S23:Stmt:=top 39
abbrev S24:Stmt:=top 41
abbrev S25:Stmt:=top 42
abbrev S26:Stmt:=top 43
abbrev S27:Stmt:=top 44
abbrev S28:Stmt:=top 46
abbrev S29:Stmt:=top 47
abbrev S30:Stmt:=top 48
abbrev S31:Stmt:=top 49
abbrev S32:Stmt:=top 50
abbrev S33:Stmt:=inClass (top 52) 0
abbrev S34:Stmt:=inClass (top 52) 1
abbrev S35:Stmt:=inClass (top 52) 2
abbrev S36:Stmt:=inClass (top 52) 3
abbrev S37:Stmt:=inClass (top 52) 4
abbrev S38:Stmt:=inClass (top 52) 5
abbrev S39:Stmt:=inClass (top 52) 6
abbrev S40:Stmt:=inClass (top 52) 7
abbrev S41:Stmt:=inClass (top 52) 8
abbrev S42:Stmt:=inClass (top 52) 9
abbrev S43:Stmt:=inClass (top 52) 10
abbrev S44:Stmt:=inClass (top 52) 11
abbrev S45:Stmt:=top 58
abbrev S46:Stmt:=top 59
abbrev S47:Stmt:=top 60
abbrev S48:Stmt:=inClass (top 61) 0
abbrev S49:Stmt:=inClass (top 61) 1
abbrev YS:Stmt:=inClass (top 61) 2
abbrev S51:Stmt:=inClass (top 61) 3
abbrev S52:Stmt:=inClass (top 61) 4
abbrev S53:Stmt:=inClass (top 61) 5
abbrev S54:Stmt:=inClass (top 61) 6
abbrev S55:Stmt:=top 62
abbrev S56:Stmt:=top 63
abbrev S57:Stmt:=top 68
abbrev S58:Stmt:=top 69
abbrev S59:Stmt:=top 70
abbrev S60:Stmt:=top 71
abbrev S61:Stmt:=top 72
abbrev S62:Stmt:=top 73
abbrev S63:Stmt:=top 74
abbrev S64:Stmt:=top 75
abbrev S65:Stmt:=top 76
abbrev S66:Stmt:=top 77
abbrev YR:Stmt:=top 78
abbrev YQ:Stmt:=top 79
abbrev YO:Stmt:=top 80
abbrev YN:Stmt:=top 81
abbrev YM:Stmt:=top 82
abbrev YL:Stmt:=top 83
abbrev YK:Stmt:=top 84
abbrev YJ:Stmt:=top 86
abbrev YI:Stmt:=inClass (top 88) 0
abbrev YH:Stmt:=top 89
abbrev YG:Stmt:=top 90
abbrev YF:Stmt:=top 91
abbrev YE:Stmt:=top 92
abbrev YD:Stmt:=top 93
abbrev YC:Stmt:=top 94
abbrev S82:Stmt:=top 95
abbrev YB:Stmt:=top 96
abbrev S84:Stmt:=top 97
abbrev YA:Stmt:=top 98
abbrev Yz:Stmt:=top 101
abbrev S87:Stmt:=top 102
abbrev Yy:Stmt:=top 103
abbrev Yx:Stmt:=top 104
abbrev Yw:Stmt:=top 105
abbrev Yv:Stmt:=top 107
abbrev S92:Stmt:=top 108
abbrev S93:Stmt:=top 109
abbrev S94:Stmt:=top 110
abbrev Yu:Stmt:=top 111
abbrev S96:Stmt:=top 112
abbrev Yt:Stmt:=top 113
abbrev S98:Stmt:=top 114
abbrev Ys:Stmt:=top 115
abbrev Jv:Stmt:=top 116
abbrev Qq:Stmt:=top 117
abbrev Qs:Stmt:=top 118
abbrev Jw:Stmt:=top 119
abbrev Jx:Stmt:=top 120
abbrev Jy:Stmt:=top 121
abbrev Jz:Stmt:=top 122
abbrev Qt:Stmt:=top 123
abbrev Qu:Stmt:=top 124
abbrev JB:Stmt:=top 125
abbrev JC:Stmt:=top 126
abbrev JD:Stmt:=top 127
structure Tp(K:W.Frag)(mg:Str->Option Value)(x:Str)(st:Stmt)(ps:List Str)(f:Addr)(fd:FuncData):Prop where
 F:CD K x x st f fd
 b:Binds K fd ps []
 m:mg x=some (.ref f)
 k:W.keepIn K (.ref f)=true
structure Mp(K:W.Frag)(C:Addr)(x q:Str)(st:Stmt)(ps:List Str)(f:Addr)(fd:FuncData):Prop where
 F:CD K x q st f fd
 b:Binds K fd ps []
 e:Meth K C x f
theorem eK{X:L2.Cx} {CX:L2.xD} {k:Nat}    {sp:L2.Sp} {E:L2.XK}      {t:L2.TA}  (q:Tp X.K X.mg x st ps f fd) (F:g7 X.prog X.w X.K X.mg X.base CX k f fd ps sp) (hr:fI j X.A) (hx:eN CX X E) (ha:PA X (e::es) t) (hj:k<=j:=by first|decide|omega) (hg:X.env.scope.names.lookup x=some .globalImplicit:=by kernel_rfl) (mf:(x==("__debug__":Str))=false:=by kernel_rfl) (he:starEach (e::es) X.env=(false,eval e X.env):: starEach es X.env:=by rfl) (ic:(backTo pos (starEach es X.env)).any (·.1)=false:=by rfl):PE X (.Call (.Name x p) (e::es) [] pos) (Cd sp [] E t):=Ro F (hr.mono hj) q.m q.k q.b hx ha hg mf he ic
theorem Qv{X:L2.Cx} {k:Nat}    {sp:L2.Sp}      {t:L2.TA}  (q:Tp X.K X.mg x st ps f fd) (F:g7 X.prog X.w X.K X.mg X.base (o_ X.prog X.w) k f fd ps sp) (hr:fI j X.A) (ha:PA X.Wi (e::es) t) (hj:k<=j:=by first|decide|omega) (hg:X.env.scope.names.lookup x=some .globalImplicit:=by kernel_rfl) (mf:(x==("__debug__":Str))=false:=by kernel_rfl) (he:starEach (e::es) X.env=(false,eval e X.env):: starEach es X.env:=by rfl) (ic:(backTo pos (starEach es X.env)).any (·.1)=false:=by rfl):Ul X (.Call (.Name x p) (e::es) [] pos) (xg sp [] t):=Qe F (hr.mono hj) q.m q.k q.b ha hg mf he ic
theorem E2{X:L2.Cx}{CX:L2.xD}{k:Nat}{sp:L2.Sp}{E:L2.XK}{y:Str}{o:Expr}{ta:L2.TE}{t:L2.TA}{pl:Sem Bool}(he:PE X o ta)(c:z_ X.K C)(q:Mp X.K C m y st ps f fd)(F:g7 X.prog X.w X.K X.mg X.base CX k f fd ps sp)(hr:fI j X.A)(hx:eN CX X E)(ha:PA X (e::es) t)(hj:k<=j:=by first|decide|omega)(ia:starEach (e::es) X.env=(false,eval e X.env):: starEach es X.env:=by rfl)(ic:(backTo pos (starEach es X.env)).any (·.1)=false:=by rfl)(ht:eval (.Call (.Attribute o m apos) (e::es) [] pos) X.env=(do
   let ov <- eval o X.env
   standAt apos.atName
   let (f,first) <- holding [ov] (getMethod ov m pl)
   callWith pos f first (backTo pos (starEach (e::es) X.env)) (backToKw pos (keywordEach [] X.env))):=by rfl):PE X (.Call (.Attribute o m apos) (e::es) [] pos) (vX C m sp [] E ta t):=Mt (pl:=pl) he c q.e F (hr.mono hj) q.b .nil hx ha ia ic ht
theorem gF{X:L2.Cx}{CX:L2.xD}{k:Nat}{sp:L2.Sp}{E:L2.XK}{y:Str}{o:Expr}{ta:L2.TE}{pl:Sem Bool}(he:PE X o ta)(c:z_ X.K C)(q:Mp X.K C m y st ps f fd)(F:g7 X.prog X.w X.K X.mg X.base CX k f fd ps sp)(hr:fI j X.A)(hx:eN CX X E)(hj:k<=j:=by first|decide|omega)(ht:eval (.Call (.Attribute o m apos) [] [] pos) X.env=(do
   let ov <- eval o X.env
   standAt apos.atName
   let (f,first) <- holding [ov] (getMethod ov m pl)
   callWith pos f first (backTo pos (starEach [] X.env)) (backToKw pos (keywordEach [] X.env))):=by rfl):PE X (.Call (.Attribute o m apos) [] [] pos) (vX C m sp [] E ta oE):=Ij (pl:=pl) he c q.e F (hr.mono hj) q.b .nil hx ht
abbrev FM(P:Program)(w:World)(base:Heap)(_:Tp K mg x st ps f fd)(k:Nat)(sp:Sp):=g7 P w K mg base (o_ P w) k f fd ps sp
abbrev Fm(P:Program)(w:World)(mg:Str->Option Value)(base:Heap){y:Str}(_:Mp K C x y st ps f fd)(k:Nat)(sp:Sp):=g7 P w K mg base (o_ P w) k f fd ps sp
structure Tq(K:W.Frag)(x:Str)(st:Stmt)(f:Addr)(fd:FuncData):Prop where
 F:CD K x x st f fd
 a:W.nsIn K mainGlobals x=some (some (.ref f))
structure Mq(K:W.Frag)(C:Addr)(x q:Str)(st:Stmt)(f:Addr)(fd:FuncData):Prop where
 F:CD K x q st f fd
 a:W.findIn K (.ref C) x=some (some (.ref f))
 i:W.isFn K (.ref f)=true
set_option genSizeOf false in
set_option genInjectivity false in
structure l9 where
 a0:Addr
 d0:FuncData
 a1:Addr
 d1:FuncData
 a2:Addr
 d2:FuncData
 a3:Addr
 d3:FuncData
 a4:Addr
 d4:FuncData
 a5:Addr
 d5:FuncData
 a6:Addr
 d6:FuncData
 a7:Addr
 d7:FuncData
 a8:Addr
 d8:FuncData
 a9:Addr
 d9:FuncData
 N4:Addr
 d10:FuncData
 Ui:Addr
 d11:FuncData
 VG:Addr
 d12:FuncData
 VF:Addr
 d13:FuncData
 VE:Addr
 d14:FuncData
 a15:Addr
 d15:FuncData
 a16:Addr
 d16:FuncData
 a17:Addr
 d17:FuncData
 a18:Addr
 d18:FuncData
 a19:Addr
 d19:FuncData
 a20:Addr
 d20:FuncData
 a21:Addr
 d21:FuncData
 a22:Addr
 d22:FuncData
 a23:Addr
 d23:FuncData
 a24:Addr
 d24:FuncData
 a25:Addr
 d25:FuncData
 a26:Addr
 d26:FuncData
 a27:Addr
 d27:FuncData
 a28:Addr
 d28:FuncData
 a29:Addr
 d29:FuncData
 a30:Addr
 d30:FuncData
 a31:Addr
 d31:FuncData
 a32:Addr
 d32:FuncData
 a33:Addr
 d33:FuncData
 a34:Addr
 d34:FuncData
 a35:Addr
 d35:FuncData
 a36:Addr
 d36:FuncData
 a37:Addr
 d37:FuncData
 a38:Addr
 d38:FuncData
 a39:Addr
 d39:FuncData
 a40:Addr
 d40:FuncData
 a41:Addr
 d41:FuncData
 a42:Addr
 d42:FuncData
 a43:Addr
 d43:FuncData
 a44:Addr
 d44:FuncData
 a45:Addr
 d45:FuncData
 a46:Addr
 d46:FuncData
 a47:Addr
 d47:FuncData
 a48:Addr
 d48:FuncData
 a49:Addr
 d49:FuncData
 a50:Addr
 d50:FuncData
 a51:Addr
 d51:FuncData
 a52:Addr
 d52:FuncData
 a53:Addr
 d53:FuncData
 a54:Addr
 d54:FuncData
 a55:Addr
 d55:FuncData
 a56:Addr
 d56:FuncData
 a57:Addr
 d57:FuncData
 a58:Addr
 d58:FuncData
 a59:Addr
 d59:FuncData
 a60:Addr
 d60:FuncData
 a61:Addr
 d61:FuncData
 a62:Addr
 d62:FuncData
 a63:Addr
 d63:FuncData
 a64:Addr
 d64:FuncData
 N3:Addr
 d65:FuncData
 a66:Addr
 d66:FuncData
 Uh:Addr
 d67:FuncData
 Ug:Addr
 d68:FuncData
 LF:Addr
 d69:FuncData
 Ue:Addr
 d70:FuncData
 Ud:Addr
 d71:FuncData
 Uc:Addr
 d72:FuncData
 EI:Addr
 d73:FuncData
 a74:Addr
 d74:FuncData
 a75:Addr
 d75:FuncData
 VD:Addr
 d76:FuncData
 VC:Addr
 d77:FuncData
 VA:Addr
 d78:FuncData
 Vz:Addr
 d79:FuncData
 Vy:Addr
 d80:FuncData
 Vx:Addr
 d81:FuncData
 a82:Addr
 d82:FuncData
 Vw:Addr
 d83:FuncData
 a84:Addr
 d84:FuncData
 Vv:Addr
 d85:FuncData
 a86:Addr
 d86:FuncData
 a87:Addr
 d87:FuncData
 a88:Addr
 d88:FuncData
 a89:Addr
 d89:FuncData
 a90:Addr
 d90:FuncData
 a91:Addr
 d91:FuncData
 a92:Addr
 d92:FuncData
 a93:Addr
 d93:FuncData
 a94:Addr
 d94:FuncData
 a95:Addr
 d95:FuncData
 a96:Addr
 d96:FuncData
 a97:Addr
 d97:FuncData
 a98:Addr
 d98:FuncData
 a99:Addr
 d99:FuncData
 Yq:Addr
 Yd:FuncData
 Yp:Addr
 Yc:FuncData
 Yo:Addr
 Yb:FuncData
 Yn:Addr
 Ya:FuncData
 Ym:Addr
 X_:FuncData
 Yl:Addr
 X':FuncData
 Yk:Addr
 X9:FuncData
 Yj:Addr
 X8:FuncData
 Yi:Addr
 X7:FuncData
 Yh:Addr
 X6:FuncData
 Yg:Addr
 X5:FuncData
 Yf:Addr
 d111:FuncData
 (zaU zk zH zh zi zj zO zP zG zF zaV za zc zb:Addr)
 (zau zav zat zaw zax zay:Tok)
 (zJ zt zo zI zy:Addr)
structure Txt(P:Program)(w:World)(K:W.Frag)(mg:Str->Option Value)(t:l9):Prop where
 q0:Tp K mg "is_letter" S0 ["sign"] t.a0 t.d0
 q1:Tp K mg "is_name" S1 ["text"] t.a1 t.d1
 q2:Tp K mg "parts_of" S2 ["tree"] t.a2 t.d2
 q3:Tp K mg "layer_below" S3 ["layer"] t.a3 t.d3
 q4:Tp K mg "depth" S4 ["tree"] t.a4 t.d4
 q5:Tp K mg "names_in" S5 ["tree"] t.a5 t.d5
 q6:Tp K mg "bit_at" S6 ["number","place"] t.a6 t.d6
 q8:Tp K mg "need_names" S8 ["names","tree"] t.a8 t.d8
 q9:Tp K mg "sides" S9 ["tree","of_names","every"] t.a9 t.d9
 q10:Tp K mg "turned_about" S10 ["side"] t.N4 t.d10
 q11:Tp K mg "joined" YT ["kind","left","right"] t.Ui t.d11
 q12:Tp K mg "full" S12 ["names"] t.VG t.d12
 q13:Tp K mg "worlds_with" S13 ["names","place"] t.VF t.d13
 q14:Tp K mg "sides_of_names" S14 ["names","known_ones"] t.VE t.d14
 q15:Tp K mg "table" S15 ["names","tree"] t.a15 t.d15
 q16:Tp K mg "breaking" S16 ["names","tree"] t.a16 t.d16
 q17:Tp K mg "flat" S17 ["names"] t.a17 t.d17
 q18:Tp K mg "least_rank" S18 ["ranks","worlds"] t.a18 t.d18
 q19:Tp K mg "firmness" S19 ["mind","tree"] t.a19 t.d19
 q20:Tp K mg "held" S20 ["mind","tree"] t.a20 t.d20
 q21:Tp K mg "both_leasts" S21 ["mind","tree"] t.a21 t.d21
 q22:Tp K mg "leaning" S22 ["mind","tree"] t.a22 t.d22
 q23:Tp K mg "less_the_least" S23 ["marks"] t.a23 t.d23
 q24:Tp K mg "need_alike" S24 ["minds"] t.a24 t.d24
 q25:Tp K mg "poured" S25 ["pairs"] t.a25 t.d25
 q26:Tp K mg "is_nearest_in_all" S26 ["minds","world"] t.a26 t.d26
 q27:Tp K mg "common" S27 ["minds"] t.a27 t.d27
 q28:Tp K mg "turned" S28 ["mind","tree","lean"] t.a28 t.d28
 q29:Tp K mg "given_up" S29 ["mind","tree"] t.a29 t.d29
 q30:Tp K mg "taken_on" S30 ["mind","tree","firm"] t.a30 t.d30
 q33:Mp K t.za "__init__" "Log.__init__" S33 ["self","names"] t.a33 t.d33
 q34:Mp K t.za "stand" "Log.stand" S34 ["self","behind"] t.a34 t.d34
 q35:Mp K t.za "take" "Log.take" S35 ["self","tree","firm"] t.a35 t.d35
 q36:Mp K t.za "give" "Log.give" S36 ["self","tree"] t.a36 t.d36
 q37:Mp K t.za "turn" "Log.turn" S37 ["self","tree","lean"] t.a37 t.d37
 q38:Mp K t.za "pour" "Log.pour" S38 ["self","pairs"] t.a38 t.d38
 q39:Mp K t.za "back" "Log.back" S39 ["self"] t.a39 t.d39
 q40:Mp K t.za "again" "Log.again" S40 ["self"] t.a40 t.d40
 q41:Mp K t.za "mind" "Log.mind" S41 ["self"] t.a41 t.d41
 q43:Mp K t.za "backs" "Log.backs" S43 ["self"] t.a43 t.d43
 q44:Mp K t.za "agains" "Log.agains" S44 ["self"] t.a44 t.d44
 q45:Tp K mg "words_of" S45 ["text"] t.a45 t.d45
 q46:Tp K mg "leaf" S46 ["word"] t.a46 t.d46
 q47:Tp K mg "takes_part" S47 ["earlier","later"] t.a47 t.d47
 q48:Mp K t.zc "__init__" "Unfinished.__init__" S48 ["self"] t.a48 t.d48
 q49:Mp K t.zc "begin_part" "Unfinished.begin_part" S49 ["self","word"] t.a49 t.d49
 q50:Mp K t.zc "follow_part" "Unfinished.follow_part" YS ["self","word"] t.a50 t.d50
 q51:Mp K t.zc "fold" "Unfinished.fold" S51 ["self"] t.a51 t.d51
 q52:Mp K t.zc "fold_to_bracket" "Unfinished.fold_to_bracket" S52 ["self"] t.a52 t.d52
 q53:Mp K t.zc "close_bracket" "Unfinished.close_bracket" S53 ["self"] t.a53 t.d53
 q54:Mp K t.zc "whole" "Unfinished.whole" S54 ["self"] t.a54 t.d54
 q55:Tp K mg "tree_of_words" S55 ["words"] t.a55 t.d55
 q56:Tp K mg "read" S56 ["text"] t.a56 t.d56
 q57:Tp K mg "rows_in" S57 ["text"] t.a57 t.d57
 q58:Tp K mg "words_in" S58 ["text"] t.a58 t.d58
 q59:Tp K mg "first_word" S59 ["text"] t.a59 t.d59
 q60:Tp K mg "behind_first_word" S60 ["text"] t.a60 t.d60
 q61:Tp K mg "is_figure" S61 ["sign"] t.a61 t.d61
 q62:Tp K mg "number_in" S62 ["word"] t.a62 t.d62
 q63:Tp K mg "number_above_0" S63 ["word"] t.a63 t.d63
 q64:Tp K mg "lean_in" S64 ["word"] t.a64 t.d64
 q65:Tp K mg "names_form" S65 ["text"] t.N3 t.d65
 q66:Tp K mg "numbered_form" S66 ["number","text"] t.a66 t.d66
 q67:Tp K mg "take_form" YR ["text"] t.Uh t.d67
 q68:Tp K mg "lean_form" YQ ["text"] t.Ug t.d68
 q69:Tp K mg "sentence_form" YO ["text"] t.LF t.d69
 q70:Tp K mg "lost_form" YN ["text"] t.Ue t.d70
 q71:Tp K mg "keep_form" YM ["text"] t.Ud t.d71
 q72:Tp K mg "pour_form" YL ["text"] t.Uc t.d72
 q73:Tp K mg "bare_form" YK ["text"] t.EI t.d73
 q74:Tp K mg "form_of" YJ ["row"] t.a74 t.d74
 q75:Mp K t.zb "__init__" "Course.__init__" YI ["self","names"] t.a75 t.d75
 q76:Tp K mg "do_take" YH ["course","firm","trees"] t.VD t.d76
 q77:Tp K mg "do_give" YG ["course","told","trees"] t.VC t.d77
 q78:Tp K mg "do_lean" YF ["course","lean","trees"] t.VA t.d78
 q79:Tp K mg "do_pour" YE ["course","pairs","trees"] t.Vz t.d79
 q80:Tp K mg "do_back" YD ["course","told","trees"] t.Vy t.d80
 q81:Tp K mg "do_again" YC ["course","told","trees"] t.Vx t.d81
 q82:Tp K mg "shown_world" S82 ["names","world"] t.a82 t.d82
 q83:Tp K mg "answer_ask" YB ["mind","trees"] t.Vw t.d83
 q85:Tp K mg "answer_worlds" YA ["mind","trees"] t.Vv t.d85
 q86:Tp K mg "do_row" Yz ["course","form"] t.a86 t.d86
 q87:Tp K mg "lacks_a_mind" S87 ["course","form"] t.a87 t.d87
 q88:Tp K mg "word_against" Yy ["course","form"] t.a88 t.d88
 q89:Tp K mg "names_told" Yx ["rows"] t.a89 t.d89
 q90:Tp K mg "run" Yw ["text"] t.a90 t.d90
 q91:Tp K mg "_law_cell_at" Yv ["_law_script","_law_k"] t.a91 t.d91
 q92:Tp K mg "_law_whole" S92 ["_law_found"] t.a92 t.d92
 q93:Tp K mg "_law_mixed" S93 ["_law_cell","_law_k"] t.a93 t.d93
 q94:Tp K mg "_law_names_by" S94 ["_law_cell","_law_many"] t.a94 t.d94
 q95:Tp K mg "_law_tree_by" Yu ["_law_names","_law_cell","_law_deep"] t.a95 t.d95
 q96:Tp K mg "_law_column" S96 ["_law_many","_law_place"] t.a96 t.d96
 q97:Tp K mg "_law_table" Yt ["_law_names","_law_tree"] t.a97 t.d97
 q98:Tp K mg "_law_is_mind" S98 ["_law_found","_law_names"] t.a98 t.d98
 q99:Tp K mg "_law_written" Ys ["_law_tree"] t.a99 t.d99
 q100:Tp K mg "_law_plan_by" Jv ["_law_names","_law_cell","_law_k","_law_counts"] t.Yq t.Yd
 q101:Tp K mg "_law_word_by" Qq ["_law_m"] t.Yp t.Yc
 q102:Tp K mg "_law_pairs_by" Qs ["_law_m","_law_kept"] t.Yo t.Yb
 q103:Tp K mg "_law_counted" Jw ["_law_counts","_law_plan"] t.Yn t.Ya
 q104:Tp K mg "_law_plans_by" Jx ["_law_names","_law_cells"] t.Ym t.X_
 q105:Tp K mg "_law_row_of" Jy ["_law_plan"] t.Yl t.X'
 q106:Tp K mg "_law_text_of" Jz ["_law_names","_law_plans"] t.Yk t.X9
 q107:Tp K mg "_law_run_fits" Qt ["_law_found","_law_answers","_law_deeds"] t.Yj t.X8
 q108:Tp K mg "_law_told_names" Qu ["_law_script"] t.Yi t.X7
 q109:Tp K mg "_law_poured_fits" JB ["_law_before","_law_kept","_law_pairs","_law_after"] t.Yh t.X6
 q110:Tp K mg "_law_row_fits" JC ["_law_plan","_law_standing","_law_undone","_law_kept","_law_after"] t.Yg t.X5
 q111:Tp K mg "law" JD ["_law_script"] t.Yf t.d111
 zu:mg "NoSentence"=some (.ref t.zk)
 zar:fb K t.zk=true
 zz:W.excIn K t.zk u7 "ValueError.__new__"=true
 Y_:mg "TooDeep"=some (.ref t.zH)
 zas:fb K t.zH=true
 zam:W.excIn K t.zH u7 "ValueError.__new__"=true
 Za:mg "NoName"=some (.ref t.zh)
 zaq:fb K t.zh=true
 zal:W.excIn K t.zh u7 "ValueError.__new__"=true
 zQ:mg "Always"=some (.ref t.zi)
 zV:fb K t.zi=true
 zag:W.excIn K t.zi u7 "ValueError.__new__"=true
 Y8:under K t.zi t.zi=true
 zS:mg "Never"=some (.ref t.zj)
 zW:fb K t.zj=true
 zah:W.excIn K t.zj u7 "ValueError.__new__"=true
 zaT:under K t.zj t.zi=false
 Y7:under K t.zj t.zj=true
 zaJ:mg "NoMinds"=some (.ref t.zO)
 zak:W.excIn K t.zO u7 "ValueError.__new__"=true
 zaL:mg "Unlike"=some (.ref t.zP)
 zan:W.excIn K t.zP u7 "ValueError.__new__"=true
 zZ:mg "NoBack"=some (.ref t.zG)
 zap:fb K t.zG=true
 zaj:W.excIn K t.zG u7 "ValueError.__new__"=true
 zY:mg "NoAgain"=some (.ref t.zF)
 zao:fb K t.zF=true
 zai:W.excIn K t.zF u7 "ValueError.__new__"=true
 zaF:mg "Log"=some (.ref t.za)
 ze:z_ K t.za
 zaN:Mk K t.za t.a33
 zB:iL K t.za "standing"
 zE:iL K t.za "taken_back"
 zaK:mg "Unfinished"=some (.ref t.zc)
 zf:z_ K t.zc
 zaO:Mk K t.zc t.a48
 zx:iL K t.zc "trees"
 zm:iL K t.zc "signs"
 zaz:mg "Course"=some (.ref t.zb)
 zg:z_ K t.zb
 zaM:Mk K t.zb t.a75
 zp:iL K t.zb "log"
 zN:iL K t.zb "kept"
 zT:iL K t.zb "answers"
 zU:iL K t.zb "minds_behind"
 zaD:mg "LONGEST_NAME"=some (.int 8 t.zau)
 zaE:mg "LONGEST_TEXT"=some (.int 200 t.zav)
 zaB:mg "GREATEST_DEPTH"=some (.int 40 t.zat)
 zaG:mg "MOST_FIGURES"=some (.int 30 t.zaw)
 zaH:mg "MOST_NAMES"=some (.int 8 t.zax)
 zaI:mg "MOST_PAIRS"=some (.int 10 t.zay)
 zaC:mg "KINDS"=some (.ref t.zJ)
 zJ:yb P w K t.zJ [(.inr "&",.str "and"),(.inr "|",.str "or"),(.inr ">",.str "then"),(.inr "=",.str "same")]
 zR:mg "BINDS"=some (.ref t.zt)
 zt:yb P w K t.zt [(.inr "&",.int 4),(.inr "|",.int 3),(.inr ">",.int 2),(.inr "=",.int 1)]
 zK:mg "FORMS"=some (.ref t.zo)
 zo:yb P w K t.zo [(.inr "names",.ref t.N3),(.inr "take",.ref t.Uh),(.inr "give",.ref t.LF),(.inr "lean",.ref t.Ug),(.inr "keep",.ref t.Ud),(.inr "pour",.ref t.Uc),(.inr "back",.ref t.EI),(.inr "again",.ref t.EI),(.inr "ask",.ref t.LF),(.inr "lost",.ref t.Ue),(.inr "worlds",.ref t.EI)]
 zaA:mg "DEEDS"=some (.ref t.zI)
 zI:yb P w K t.zI [(.inr "take",.ref t.VD),(.inr "give",.ref t.VC),(.inr "lean",.ref t.VA),(.inr "pour",.ref t.Vz),(.inr "back",.ref t.Vy),(.inr "again",.ref t.Vx)]
 zX:mg "ANSWERS"=some (.ref t.zy)
 zy:yb P w K t.zy [(.inr "ask",.ref t.Vw),(.inr "lost",.ref t.a84),(.inr "worlds",.ref t.Vv)]
 zC:mg "all"=none
 zaP:mg "any"=none
 zaQ:mg "bool"=none
 zw:mg "enumerate"=none
 zL:mg "int"=none
 zq:mg "isinstance"=none
 zd:mg "len"=none
 zD:mg "list"=none
 Y':mg "max"=none
 zM:mg "min"=none
 zr:mg "range"=none
 zaR:mg "sorted"=none
 zA:mg "str"=none
 zaS:mg "sum"=none
 zn:mg "tuple"=none
 Y9:mg "zip"=none
 bl:∀(s:Shared) (u:Value),BindsTo s t.d111 ⟨[u],[]⟩ [("_law_script",u)]
end K69
seal L2.PE L2.PT L2.PW L2.PA L2.PS L2.y9 L2.PG L2.Pt L2.PI L2.PC L2.PO L2.Pp
open PyProof.Rows
namespace K69
open PySem L2 Mc
inductive L'(K:W.Frag)(vs:List V)(H:Hp)(Q:VK)(E:XK):Prop
 |mk(a:Addr)(ns:List Int)(k:Int)(_:vs=[.ref a,.int k])(_:b5 K H a (ns.map V.int))(_:0<=k)(_:Q (.int (ns.getD k.toNat 0)) H)
section
variable{t:l9}
abbrev FO(P:Program)(w:World)(K:W.Frag)(mg:Str->Option Value)(base:Heap):=g7 P w K mg base (o_ P w)
theorem Qw:ck ["_law_script","_law_k"] ["_law_script","_law_k"] (aP Yv):=eM
theorem Nj(T:Txt P w K mg t):FM P w base T.q91 1 (L' K):=by
 refine T.q91.F.QO Qw (fun ja A outer s H vs Q E hr h=>?_);obtain⟨a,ns,k,rfl,hS,hk,q⟩:=h
 refine⟨_,(aq (aO (aG pP (O 1) (aZ aX T.zd Bt.len (aa (O 0) aj)) (aK _))
    (au (aC (cy bh (O 0) (O 1))))
    aM)
   (au (aC ak))),?_⟩
 refine⟨_,Z,_,Z,a,_,Z,.inl hS,_,_,Z,Z,_,Z,?_⟩;refine aN (fun e=>?_) (fun e=>?_)
 .have e:k<((ns.map V.int).length:Nat):=eT e
  rw[de]at e;refine⟨_,Z,_,Z,a,_,k,.int (ns.getD k.toNat 0),Z,Z,hS,qU hk ?_,q⟩;rw[kg];have:k.toNat<ns.length:=G
  rw[List.getElem?_eq_getElem this];simp[List.getD,List.getElem?_eq_getElem this]
 have e:¬k<((ns.map V.int).length:Nat):=fun z=>e (cK z)
 rw[de]at e
 have z:ns.getD k.toNat 0=0:=by
  rw[List.getD,List.getElem?_eq_none G]
  rfl
 rw[z]at q;exact q
theorem lkB(h:n<=100000):n<=sizeLine:=g9 h b9
theorem nA(o:Op):¬o.str=("yes":Str)/\¬o.str=("no":Str)/\¬o.str=("not":Str)/\¬o.str=("name":Str):=by cases o<;>decide +kernel
theorem Lw{t:Tr} (h:V.str t.tag=V.str ("name":Str)):∃ x,t=.nm x:=by
 have:=(kZ t).mp (V.str.inj h);cases t<;>first|exact⟨_,Z⟩|cases this
theorem Gh{t:Tr} (h:V.str t.tag=V.str ("yes":Str)):t=.yes:=by
 have h:=V.str.inj h;cases t with
 |yes=>rfl
 |nm x=>exact absurd (show("name":Str)="yes" from h) dk
 |no=>exact absurd (show("no":Str)="yes" from h) dk
 |not u=>exact absurd (show("not":Str)="yes" from h) dk
 |bin o a b=>exact absurd (show o.str=("yes":Str)from h) (nA o).1
theorem Lx{t:Tr} (h:V.str t.tag=V.str ("no":Str)):t=.no:=by
 have h:=V.str.inj h;cases t with
 |no=>rfl
 |nm x=>exact absurd (show("name":Str)="no" from h) dk
 |yes=>exact absurd (show("yes":Str)="no" from h) dk
 |not u=>exact absurd (show("not":Str)="no" from h) dk
 |bin o a b=>exact absurd (show o.str=("no":Str)from h) (nA o).2.1
theorem p7{o o':Op}(h:V.str o.str=V.str o'.str):o=o':=by
 have h:=V.str.inj h;cases o<;>cases o'<;>first|rfl|exact absurd h dk
theorem CT{o:Op}{x y:Tr}(h:eD H (.ref a) (.bin o x y)):∃ v u,H a=some (.tup [.str o.str,v,u])/\eD H v x/\eD H u y:=by
 cases h with
 |bin e h1 h2=>exact⟨_,_,e,h1,h2⟩
theorem CV{x:Tr}(h:eD H (.ref a) (.not x)):∃ v,H a=some (.tup [.str "not",v])/\eD H v x:=by
 cases h with
 |not e h1=>exact⟨_,e,h1⟩
theorem JF(h:eD H (.ref a) (.nm x)):H a=some (.tup [.str "name",.str x]):=by
 cases h with
 |nm e=>exact e
inductive FU(vs:List V)(H:Hp)(Q:VK)(E:XK):Prop
 |mk(v t:_)(_:vs=[v])(_:eD H v t)(_:∀(l:Addr)(us:List V)(J:Hp),H l=none->J l=some (.lst us)->bb H J->Paired (eD J) us t.kids->Q (.ref l) J)
inductive GS(vs:List V)(H:Hp)(Q:VK)(E:XK):Prop
 |mk(a:Addr)(us:List V)(ts:List Tr)(_:vs=[.ref a])(_:H a=some (.lst us))(_:Paired (eD H) us ts)(_:dW ts<=100000)(_:∀(l:Addr)(ws:List V)(J:Hp),H l=none->J l=some (.lst ws)->bb H J->Paired (eD J) ws (ts.flatMap Tr.kids)->Q (.ref l) J)
inductive GI(vs:List V)(H:Hp)(Q:VK)(E:XK):Prop
 |mk(v t:_)(_:vs=[v])(_:eD H v t)(_:t.size<=100000)(_:∀ J,bb H J->Q (.int t.depth) J)
theorem AM:ck ["tree"] ["tree"] (aP S2):=eM
theorem JG(T:Txt P w K mg t):FM P w base T.q2 1 FU:=by
 refine T.q2.F.QO AM (fun ja A outer s H vs Q E hr h=>?_);obtain⟨v,tr,rfl,ht,k⟩:=h;obtain⟨a,rest,rfl,ha,IE,xy⟩:=ht.open;have nd:=AM.nd
 refine⟨_,(aq (aO (aG aW (cy aJ (pv 0) ak) az (aK _))
    (au (aC (bz aj)))
    aM)
   (au (aC (uN oG rfl T.zD Bt.list (aa (ig Px (pv 0) (iC ak) j6) aj))))),?_⟩
 refine⟨_,Z,a,_,0,.str tr.tag,Z,Z,SqT.of ha,bu (j:=0) rfl,Z,_,Z,?_⟩;refine aN (fun e=>?_) (fun e=>?_)
 .have e:V.str tr.tag=V.str "name":=eT e
  have e:=(kZ tr).mp (V.str.inj e);obtain⟨x,rfl,_⟩:=IE e;exact⟨mi _,fun l hl=>k l [] _ hl ao (aB hl) .nil⟩
 have e:¬V.str tr.tag=V.str "name":=fun z=>e (cK z)
 have e:tr.isNm=false:=by
  cases q:tr.isNm with
  |false=>rfl
  |true=>exact absurd (b4 V.str ((kZ tr).mpr q)) e
 have hk:=xy e;refine⟨_,Z,_,Z,a,_,Z,SqT.of ha,xM _ _,fun p hp=>⟨p,_,Z,.inr (SqT.of ao),fun l hl=>?_⟩⟩;rw[Jr]at hl ⊢;exact k l rest _ (FW (aB hp) hl) ao ((aB hp).trans (aB hl)) (dD ((aB hp).trans (aB hl)).tups hk)
theorem xN(T:Txt P w K mg t):FM P w base T.q3 2 GS:=by
 refine T.q3.F.fq (N:=["layer","below","tree"]) eM ?_;rintro nd _ _ _ _ H vs Q E hr ⟨a,us,ts,rfl,ha,hp,hsz,k⟩
 refine⟨_,(aq (iJ (i:=1) nd rfl E3 (bz aj))
   (aq (eG kR rfl (bR (pv 0)) (pO (i:=2) nd rfl E3)
    (au (bw (b8 PySem.F.plainAttrs_list PySem.F.slot_list_extend PySem.F.type_list_extend Eo (pv 1) (aa (pU (JG T) (hr.mo) rfl T.q2.m T.q2.k T.q2.b .nil aH (aa (pv 2) aj)) aj)))))
   (au (aC (pv 1))))),?_⟩
 refine⟨mi _,fun b hb=>?_⟩;have A_:a≠b:=aD ha hb;have s0:bb H (upd H b (.lst [])):=aB hb
 refine⟨_,rfl,a,rfl,⟨_,b5.of (s0 _ _ ha)⟩,fJ (K:=K) (a:=a) (xs:=us)
  (fun i M H2=>∃(ws:List V)(v:Option V),M=[some (.ref a),some (.ref b),v]/\bb H H2/\H2 b=some (.lst ws)/\Paired (eD H2) ws ((ts.take i).flatMap Tr.kids))
  ⟨[],none,rfl,s0,ao,.nil⟩ (fun i M H2 _ ⟨_,_,_,s2,_⟩=>b5.of (s2 _ _ ha)) ?_ ?_⟩
 .rintro i y M H2 hi ⟨ws,v,rfl,s2,NO,hw⟩
  obtain⟨tr,BQ,hy⟩:=bx hp i y hi;refine⟨_,Z,.inl ⟨Z,_,b5.of NO⟩,_,Z,y,tr,Z,hy.mono s2.tups,fun l LH H3 hl D_ s3 K'=>?_⟩
  have hlen:ws.length+LH.length<=100000:=by
   have e1:=aT hw;have e2:=aT K'
   have M0:ts=ts.take i++tr::ts.drop (i+1):=by
    have h1:=List.take_append_drop i ts
    have h2:ts.drop i=tr::ts.drop (i+1):=by
     obtain⟨f',he⟩:=List.getElem?_eq_some_iff.mp BQ;rw[i_ f',he]
    rw[<- h2,h1]
   have e3:=ju ts;have e4:(ts.flatMap Tr.kids).length <= dW (ts.flatMap Tr.kids):=sO _
   have e5:(ts.flatMap Tr.kids).length=((ts.take i).flatMap Tr.kids).length+(tr.kids.length+((ts.drop (i+1)).flatMap Tr.kids).length):=by
    conv=>lhs;rw[M0]
    rw[List.flatMap_append,gL,af,af]
   exact G
  have uu:b≠l:=aD NO hl;have Vf:H3 b=some (.lst ws):=s3 _ _ NO;refine⟨b,l,ws,LH,Z,Z,Vf,D_,g9 hlen b9,?_⟩;refine⟨ws++LH,_,Z,fun c o e=>?_,ao,?_⟩
  .rw[aA (fun z=>by subst z;rw[hb]at e;cases e)]
   exact s3 _ _ (s2 _ _ e)
  have e6:ts.take (i+1)=ts.take i++[tr]:=by
   rw[qE,BQ]
   rfl
  rw[e6,List.flatMap_append,gL,CI,c_];exact dD (iw Vf) (bK (dD s3.tups hw) K')
 rintro M H2 ⟨ws,v,rfl,s2,NO,hw⟩;refine⟨_,Z,?_⟩;have e:=aT hp;rw[e,bp]at hw;exact k b ws H2 hb NO s2 hw
inductive F1(vs:List V)(H:Hp)(Q:VK)(E:XK):Prop
 |mk(v t:_)(_:vs=[v])(_:eD H v t)(_:t.size<=100000)(_:(∃ L:List Str,L.length<64/\∀ x∈t.names,x∈L))(_:∀(l:Addr)(ys:List Str)(J:Hp),H l=none->J l=some (.lst (ys.map V.str))->bb H J->sortedS ys=true->ys.Nodup->(∀ x,x∈ys↔x∈t.names)->Q (.ref l) J)
theorem JH(T:Txt P w K mg t):FM P w base T.q5 3 F1:=by
 refine T.q5.F.fq (N:=["tree","found","layer","part"]) eM ?_;rintro nd _ _ _ _ H _ _ _ hr ⟨v,tr,rfl,ht,hsz,⟨L,hL,D1⟩,k⟩;have hu:=eO hr
 refine ⟨_,(aq (iJ (i:=1) nd rfl E3 m7)
   (aq (iJ (i:=2) nd rfl E3 (bz (aa (pv 0) aj)))
   (aq (j9 kR (ie (pv 2) (fun _=>rfl))
    (aq (eG kR rfl (bR (pv 2)) (pO (i:=3) nd rfl E3)
     (au (aO (aG aW (cy aJ (pv 3) ak) az (aK _))
      (au (pX hu (pv 1) (cy aJ (pv 3) ak) fB rfl))
      aM)))
    (au (iJ (i:=2) nd rfl E3 (pU (xN T) (hr.mo) rfl T.q3.m T.q3.k T.q3.b .nil aH (aa (pv 2) aj))))))
   (au (aC (wN (wY rfl) rfl T.zaR Bt.sorted (aa (pv 1) aj))))))),?_⟩
 intro d hd;refine⟨_,Z,(lk obz),fun l hl=>?_⟩;have Xm:d≠l:=fun z=>by subst z;rw[ao]at hl;cases hl
 have SE:H l=none:=(aB hd).free hl
 let St0:Nat->L2.St->Hp->Prop:=fun m M H2=>∃(l:Addr)(us:List V)(ts:List Tr)(kvs:List (Key×V))(ys:List Str)(pv:Option V),M=[some v,some (.ref d),some (.ref l),pv]/\bb H H2/\H2 l=some (.lst us)/\Paired (eD H2) us ts/\dW ts<=100000 /\
  H2 d=some (.dK kvs)/\kvs.map (·.1)=ys.map Sum.inr/\ys.Nodup/\(∀ x,x∈tr.names↔x∈ys\/x∈dm ts)/\m=dW ts
 have Zx:∀{ys:List Str},ys.Nodup->(∀ x∈ys,x∈tr.names)->ys.length<64:=fun {ys} h1 h2=>ku (lu h1 fun x hx=>D1 x (h2 x hx)) hL
 refine⟨St0,⟨_,l,[v],[tr],[],[],none,Z,(aB hd).trans (aB hl),ao,.cons (ht.mono ((aB hd).trans (aB hl)).tups) .nil,?_,?_,Z,List.nodup_nil,?_,Z⟩,?_⟩
 .show tr.size+0<=100000
  exact G
 .rw[aA Xm,ao]
 .intro x
  simp[dm]
 rintro m M H2 ⟨l,us,ts,kvs,ys,pv,rfl,s2,mP,hp,hz,hd2,hk,lh,nc,rfl⟩;refine⟨_,Z,_,.inl ⟨us,b5.of mP,Z⟩,?_⟩;cases us with
 | nil =>
  cases hp;refine bD ?_
  have KS:∀ x,x∈tr.names↔x∈ys:=fun x=>by
   have:=nc x
   simpa[dm]using this
  refine⟨_,Z,d,kvs,ys,Z,hd2,hk,Zx lh fun x hx=>(KS x).mpr hx,fun l' ys' CU OR BY=>?_⟩;exact k l' ys' _ (s2.free CU) ao (s2.trans (aB CU)) BY (OR.nodup_iff.mpr lh) fun x=>by rw[OR.mem_iff,KS x]
 | cons u us =>
  refine bU ?_;refine⟨fun σ' J=>∃ m',m'<dW ts/\St0 m' σ' J,fun _ _ h=>h,?_⟩
  have hne:ts≠[]:=by
   intro z;subst z;cases hp
  have hlp:=aT hp;have U_:l≠d:=fun z=>by subst z;rw[mP]at hd2;cases hd2
  refine⟨_,rfl,l,rfl,⟨_,b5.of mP⟩,fJ (K:=K) (a:=l) (xs:=u::us)
   (fun i M H3=>∃(kvs:List (Key×V))(zs:List Str)(pv:Option V),M=[some v,some (.ref d),some (.ref l),pv]/\(∀ b o,H2 b=some o->b≠d->H3 b=some o)/\H3 d=some (.dK kvs)/\kvs.map (·.1)=zs.map Sum.inr/\zs.Nodup /\
    (∀ x,x∈zs↔x∈ys\/Tr.nm x∈ts.take i))
   ⟨kvs,ys,pv,rfl,fun _ _ h _=>h,hd2,hk,lh,fun x=>by simp⟩ (fun i M H3 _ ⟨_,_,_,_,s3,_⟩=>b5.of (s3 _ _ mP U_)) ?_ ?_⟩
  .rintro i y M H3 hi ⟨kvs,zs,pv,rfl,s3,Vc,K',OT,Cn⟩
   obtain⟨ty,BO,hy⟩:=bx hp i y hi;obtain⟨a,rest,rfl,ha,IE,xy⟩:=hy.open;have had:a≠d:=fun z=>by subst z;rw[ha]at hd2;cases hd2
   have Z5:=s3 _ _ ha had
   have e6:ts.take (i+1)=ts.take i++[ty]:=by
    rw[qE,BO]
    rfl
   have nK:∀ x,Tr.nm x∈ts.take (i+1)->x∈tr.names:=fun x hx=>(nc x).mpr (.inr ((oW ts x).mpr (.inl (tF hx))))
   refine⟨_,Z,a,_,0,.str ty.tag,Z,Z,SqT.of Z5,bu (j:=0) rfl,Z,_,Z,?_⟩;refine aN (fun e=>?_) (fun e=>?_)
   .have e:V.str ty.tag=V.str "name":=eT e
    have e:=(kZ ty).mp (V.str.inj e);obtain⟨x,rfl,rfl⟩:=IE e
    have hlen:zs.length<64:=Zx OT fun x hx=>by
     rcases(Cn x).mp hx with h|h
     .exact(nc x).mpr (.inl h)
     exact nK x (by rw[e6];exact xi _ h)
    have hlk:kvs.length=zs.length:=by
     have:=b4 List.length K'
     rwa [de,de]at this
    refine⟨_,Z,_,Z,a,_,1,.str x,Z,Z,SqT.of Z5,Z,d,_,Z,ve.k (k:=Sum.inr x) Vc (cM G),?_⟩;refine⟨_,if x∈zs then zs else zs++[x],_,Z,fun b o h hb=>?_,ao,FZ K' x _,?_,fun z=>?_⟩
    .rw[aA hb]
     exact s3 b o h hb
    .split
     .exact OT
     exact CK OT (by assumption)
    rw[e6,a_,aI,Tr.nm.injEq]
    by_cases hx:x∈zs
    .rw[qp hx,Cn z]
     constructor
     .rintro(h|h)
      .exact .inl h
      exact .inr (.inl h)
     rintro(h|h|h)
     .exact .inl h
     .exact .inr h
     subst h;exact(Cn z).mp hx
    rw[bX hx,a_,aI,Cn z]
    constructor
    .rintro((h|h)|h)
     .exact .inl h
     .exact .inr (.inl h)
     exact .inr (.inr h)
    rintro(h|h|h)
    .exact .inl (.inl h)
    .exact .inl (.inr h)
    exact .inr h
   have e:¬V.str ty.tag=V.str "name":=fun z=>e (cK z)
   have e:ty.isNm=false:=by
    cases q:ty.isNm with
    |false=>rfl
    |true=>exact absurd (b4 V.str ((kZ ty).mpr q)) e
   refine⟨kvs,zs,_,Z,s3,Vc,K',OT,fun z=>?_⟩;rw[Cn z,e6,a_,aI]
   constructor
   .rintro(h|h)
    .exact .inl h
    exact .inr (.inl h)
   rintro(h|h|h)
   .exact .inl h
   .exact .inr h
   subst h;cases e
  rintro M H3 ⟨kvs,zs,pv,rfl,s3,Vc,K',OT,Cn⟩;have t3:fF H2 H3:=fun b xs h=>s3 b _ h (fun z=>by subst z;rw[hd2]at h;cases h)
  have Cb:=dD t3 hp;rw[hlp,bp]at Cn;refine⟨_,Z,l,u::us,ts,Z,s3 _ _ mP U_,Cb,hz,fun l' ws J hn CU s' OR=>?_⟩;have e2:=ju ts;have e3:0<ts.length:=vE.mpr hne;refine⟨_,G,l',ws,ts.flatMap Tr.kids,kvs,zs,_,Z,fun b o h=>s' b o (s3 b o (s2 b o h) (aD h hd)),CU,OR,G,s' _ _ Vc,K',OT,fun x=>?_,Z⟩;rw[nc x,Cn x,oW ts x,or_assoc]
def we(H:Hp)(a:Addr)(x:Nat×Nat):Prop:=H a=some (.tup [.int x.1,.int x.2])
theorem we.mono{x:Nat×Nat}(s:bb H J)(h:we H a x):we J a x:=s _ _ h
theorem we.tups{x:Nat×Nat}(s:fF H J)(h:we H a x):we J a x:=s _ _ h
inductive BB(vs:List V)(H:Hp)(Q:VK)(E:XK):Prop
 |mk(a x:_)(_:vs=[.ref a])(_:we H a x)(_:∀ q J,bb H J->we J q (x.2,x.1)->Q (.ref q) J)
inductive DF(n:Nat)(vs:List V)(H:Hp)(Q:VK)(E:XK):Prop
 |mk(o a b x y:_)(_:vs=[.str (Op.str o),.ref a,.ref b])(_:1<=n)(_:(o=.thn -> 2<=n))(_:we H a x)(_:we H b y)(_:∀ q J,bb H J->we J q (pZ o x y)->Q (.ref q) J)
def Tells(H:Hp)(kvs:List (Key×V))(f:Str->Nat×Nat)(xs:List Str):Prop:=∀ x∈xs,∃ q,bN kvs (.inr x)=some (.ref q)/\we H q (f x)
theorem Tells.mono{f:Str->Nat×Nat}{xs:List Str}(s:fF H J)(h:Tells H kvs f xs):Tells J kvs f xs:=fun x hx=>let ⟨q,e,t⟩:=h x hx;⟨q,e,t.tups s⟩
inductive FI(d:Nat)(vs:List V)(H:Hp)(Q:VK)(E:XK):Prop
 |mk(v tr m kvs f e:_)(_:vs=[v,.ref m,.int (e:Nat)])(_:eD H v tr)(_:tr.depth<=d)(_:H m=some (.dK kvs))(_:Tells H kvs f tr.names)(_:∀ q J,bb H J->we J q (dq f e tr)->Q (.ref q) J)
theorem sW(T:Txt P w K mg t):FM P w base T.q10 1 BB:=by
 refine T.q10.F.fq (N:=["side"]) eM ?_;rintro nd _ _ _ _ _ _ _ _ hr ⟨a,x,rfl,ha,k⟩;refine⟨_,(au (aC (bj (aa (cy aJ (O 0) ak) (aa (cy aJ (O 0) ak) aj))))),?_⟩;refine⟨_,Z,a,_,1,.int x.2,Z,Z,SqT.of ha,Z,_,Z,a,_,0,.int x.1,Z,Z,SqT.of ha,Z,lk obz,fun q hq=>?_⟩;exact k q _ (aB hq) ao
theorem sk:ck ["kind","left","right","alike","unlike"] ["kind","left","right"] (aP YT):=eM
theorem u9(T:Txt P w K mg t):∀ n:Nat,FO P w K mg base (n+2) t.Ui t.d11 ["kind","left","right"] (DF n)
 | 0=>by
  refine T.q11.F.xl sk (fun vs H Q E h=>by obtain⟨o,a,b,x,y,rfl,_⟩:=h;rfl) (fun ja A outer s H vs Q E hr h=>?_);obtain⟨o,a,b,x,y,rfl,h1,_⟩:=h;exact G
 | n + 1=>by
  refine T.q11.F.xl sk (fun vs H Q E h=>by obtain⟨o,a,b,x,y,rfl,_⟩:=h;rfl) (fun ja A outer s H vs Q E hr h=>?_);obtain⟨o,a,b,x,y,rfl,h1,h2,ha,hb,k⟩:=h;have nd:=sk.nd
  refine⟨_,(aq (aO (aG aW (O 0) az (aK _))
    (au (aC (bj (aa (aF jB (cy aJ (O 1) ak) (cy aJ (O 2) ak)) (aa (aF mZ (cy aJ (O 1) ak) (cy aJ (O 2) ak)) aj)))))
    aM)
   (aq (aO (aG aW (O 0) az (aK _))
    (au (aC (bj (aa (aF mZ (cy aJ (O 1) ak) (cy aJ (O 2) ak)) (aa (aF jB (cy aJ (O 1) ak) (cy aJ (O 2) ak)) aj)))))
    aM)
   (aq (aO (aG aW (O 0) az (aK _))
    (au (aC (eK T.q11 (u9 T n) hr aH (aa az (aa (eK T.q10 (sW T) hr aH (aa (O 1) aj)) (aa (O 2) aj))))))
    aM)
   (aq (fR 3 nd (aF mZ (aF jB (cy aJ (O 1) ak) (cy aJ (O 2) ak)) (aF jB (cy aJ (O 1) ak) (cy aJ (O 2) ak))))
   (aq (fR 4 nd (aF mZ (aF jB (cy aJ (O 1) ak) (cy aJ (O 2) ak)) (aF jB (cy aJ (O 1) ak) (cy aJ (O 2) ak))))
   (au (aC (bj (aa (O 3) (aa (O 4) aj)))))))))),?_⟩
  refine⟨_,Z,Z,_,Z,aN (fun c=>?A) (fun c1=>⟨_,Z,Z,_,Z,aN (fun c=>?aab) (fun c2=>⟨_,Z,Z,_,Z,aN (fun c=>?T) (fun c3=>?S)⟩)⟩)⟩
  case A =>
   obtain rfl:o=.and:=p7 (o':=.and) (eT c);refine⟨_,Z,a,_,0,.int x.1,Z,Z,SqT.of ha,Z,_,Z,b,_,0,.int y.1,Z,Z,SqT.of hb,Z,_,_,Z,Z,_,Z,a,_,1,.int x.2,Z,Z,SqT.of ha,Z,_,Z,b,_,1,.int y.2,Z,Z,SqT.of hb,Z,_,_,Z,Z,lk obz,fun q hq=>?_⟩;exact k q _ (aB hq) (by unfold we;rw[ao];simp only[band,bor];rfl)
  case aab =>
   obtain rfl:o=.or:=p7 (o':=.or) (eT c);refine⟨_,Z,a,_,0,.int x.1,Z,Z,SqT.of ha,Z,_,Z,b,_,0,.int y.1,Z,Z,SqT.of hb,Z,_,_,Z,Z,_,Z,a,_,1,.int x.2,Z,Z,SqT.of ha,Z,_,Z,b,_,1,.int y.2,Z,Z,SqT.of hb,Z,_,_,Z,Z,lk obz,fun q hq=>?_⟩;exact k q _ (aB hq) (by unfold we;rw[ao];simp only[band,bor];rfl)
  case T =>
   obtain rfl:o=.thn:=p7 (o':=.thn) (eT c);refine⟨_,rfl,a,x,rfl,ha,fun q H1 s1 hq=>⟨_,rfl,.or,q,b,(x.2,x.1),y,rfl,by have:=h2 rfl;exact G,(fun z=>by cases z),hq,hb.mono s1,fun q2 H2 s2 hq2=>?_⟩⟩;exact k q2 H2 (s1.trans s2) hq2
  case S =>
   obtain rfl:o=.same:=by
    cases o with
    |and=>exact absurd (cK rfl) c1
    |or=>exact absurd (cK rfl) c2
    |thn=>exact absurd (cK rfl) c3
    |same=>rfl
   refine⟨_,Z,a,_,0,.int x.1,Z,Z,SqT.of ha,Z,_,Z,b,_,0,.int y.1,Z,Z,SqT.of hb,Z,_,_,Z,Z,_,Z,a,_,1,.int x.2,Z,Z,SqT.of ha,Z,_,Z,b,_,1,.int y.2,Z,Z,SqT.of hb,Z,_,_,Z,Z,_,_,Z,Z,?_⟩;refine⟨_,Z,a,_,0,.int x.1,Z,Z,SqT.of ha,Z,_,Z,b,_,1,.int y.2,Z,Z,SqT.of hb,Z,_,_,Z,Z,_,Z,a,_,1,.int x.2,Z,Z,SqT.of ha,Z,_,Z,b,_,0,.int y.1,Z,Z,SqT.of hb,Z,_,_,Z,Z,_,_,Z,Z,?_⟩;refine⟨_,Z,_,Z,lk obz,fun q hq=>?_⟩;exact k q _ (aB hq) (by unfold we;rw[ao];simp only[band,bor];rfl)
theorem ui:ck ["tree","of_names","every","kind","left"] ["tree","of_names","every"] (aP S9):=eM
theorem rA(T:Txt P w K mg t):∀ d:Nat,FO P w K mg base (d+5) t.a9 t.d9 ["tree","of_names","every"] (FI d)
 | 0=>by
  refine T.q9.F.xl ui (fun vs H Q E h=>by obtain⟨v,tr,m,kvs,f,e,rfl,_⟩:=h;rfl) (fun ja A outer s H vs Q E hr h=>?_);obtain⟨v,tr,m,kvs,f,e,rfl,ht,hd,k⟩:=h;have:=tr.ll;exact G
 | d + 1=>by
  refine T.q9.F.xl ui (fun vs H Q E h=>by obtain⟨v,tr,m,kvs,f,e,rfl,_⟩:=h;rfl) (fun ja A outer s H vs Q E hr h=>?_);obtain⟨v,tr,m,kvs,f,e,rfl,ht,hd,hm,htl,k⟩:=h;obtain⟨a,rest,rfl,ha,IE,xy⟩:=ht.open;have nd:=ui.nd;have hu:=eO hr
  refine⟨_,(aq (fR 3 nd (cy aJ (O 0) ak))
   (aq (aO (aG aW (O 3) az (aK _))
    (au (aC (pW hu (O 1) (cy aJ (O 0) ak) (fun _ _=>rfl))))
    aM)
   (aq (aO (aG aW (O 3) az (aK _))
    (au (aC (bj (aa (O 2) (aa ak aj)))))
    aM)
   (aq (aO (aG aW (O 3) az (aK _))
    (au (aC (bj (aa ak (aa (O 2) aj)))))
    aM)
   (aq (fR 4 nd (eK T.q9 (rA T d) hr aH (aa (cy aJ (O 0) ak) (aa (O 1) (aa (O 2) aj)))))
   (aq (aO (aG aW (O 3) az (aK _))
    (au (aC (eK T.q10 (sW T) hr aH (aa (O 4) aj))))
    aM)
   (au (aC (eK T.q11 (u9 T 2) hr aH (aa (O 3) (aa (O 4) (aa (eK T.q9 (rA T d) hr aH (aa (cy aJ (O 0) ak) (aa (O 1) (aa (O 2) aj)))) aj)))))))))))),?_⟩
  refine⟨_,Z,a,_,0,.str tr.tag,Z,Z,SqT.of ha,bu (j:=0) rfl,?_⟩;refine⟨_,Z,Z,_,Z,aN (fun c=>?N) (fun c1=>⟨_,Z,Z,_,Z,aN (fun c=>?aaa) (fun c2=>⟨_,Z,Z,_,Z,aN (fun c=>?aab) (fun c3=>?R)⟩)⟩)⟩
  case N =>
   obtain⟨x,rfl⟩:=Lw (eT c);obtain⟨q,hq,h2⟩:=htl x qms;refine⟨_,Z,_,Z,a,_,1,.str x,Z,Z,SqT.of (JF ht),Z,m,_,Z,?_,k q H (bb.refl H) h2⟩;have:=vi.k (k:=.inr x) hm;rw[hq]at this;exact this
  case aaa =>
   obtain rfl:=Gh (eT c);exact⟨_,Z,lk obz,fun q hq=>k q _ (aB hq) ao⟩
  case aab =>
   obtain rfl:=Lx (eT c);exact⟨_,Z,lk obz,fun q hq=>k q _ (aB hq) ao⟩
  case R =>
   cases tr with
   |nm x=>exact absurd (cK rfl) c1
   |yes=>exact absurd (cK rfl) c2
   |no=>exact absurd (cK rfl) c3
   | not u =>
    obtain⟨vu,Vg,WC⟩:=CV ht;have hd:u.depth+1<=d+1:=hd;refine⟨_,Z,a,_,1,vu,Z,Z,SqT.of Vg,Z,_,Z,_,Z,vu,u,m,kvs,f,e,Z,WC,G,hm,htl,fun q H1 s1 hq=>?_⟩;refine⟨_,Z,Z,_,Z,aN (fun c=>?_) (fun c4=>absurd (cK rfl) c4)⟩;exact⟨_,Z,q,_,Z,hq,fun q2 H2 s2 hq2=>k q2 H2 (s1.trans s2) hq2⟩
   | bin o x y =>
    obtain⟨vx,vy,A_,WB,BO⟩:=CT ht;have hd:max x.depth y.depth+1<=d+1:=hd;refine⟨_,Z,a,_,1,vx,Z,Z,SqT.of A_,Z,_,Z,_,Z,vx,x,m,kvs,f,e,Z,WB,G,hm,fun z hz=>htl z (xi _ hz),fun q H1 s1 hq=>?_⟩;refine⟨_,Z,Z,_,Z,aN (fun c=>absurd (V.str.inj (eT c)) (nA o).2.2.1) (fun c4=>?_)⟩;refine⟨_,Z,_,Z,_,Z,a,_,2,vy,Z,Z,SqT.of (s1 _ _ A_),Z,_,Z,_,Z,vy,y,m,kvs,f,e,Z,BO.mono s1.tups,G,s1 _ _ hm,?_,fun q2 H2 s2 hq2=>?_⟩
    .exact Tells.mono s1.tups fun z hz=>htl z (pd _ hz)
    exact⟨o,q,q2,_,_,Z,b9,fun _=>qnr _,hq.mono s2,hq2,fun q3 H3 s3 WO=>k q3 H3 ((s1.trans s2).trans s3) WO⟩
def iW(n k:Nat):Nat:=if n.testBit k=true then 1 else 0
theorem Te(n k:Nat):Builtin.bitAnd ((n:Int)/2^((k:Int)).toNat) 1=((iW n k:Nat):Int):=by
 have e:((n:Int)/2^((k:Int)).toNat)=((n/2^k:Nat):Int):=by
  rw[bE];simp
 have e1:(1:Int)=((1:Nat):Int):=rfl;rw[e,e1,band,Nat.and_one_is_mod,Nh]
 rfl
inductive P6(vs:List V)(H:Hp)(Q:VK)(E:XK):Prop
 |mk(n k:Nat)(_:vs=[.int n,.int k])(_:Q (.int (iW n k:Nat)) H)
theorem xO(x:Str):∀ ns:List Str,sx (.str x) (ns.map V.str)=decide (x∈ns)
 |[]=>rfl
 | y::r=>by
  have ih:=xO x r;unfold sx at ih ⊢;rw[b6,eh,ih]
  have e:mn (.str y) (.str x)=decide (y=x):=by
   show(y==x)=_
   by_cases z:y=x
   .simp[z]
   simp[z]
  rw[e]
  by_cases z:y=x
  .simp[z]
  by_cases z2:x∈r
  .simp[z2]
  have z3:¬x=y:=fun h=>z h.symm
  simp[z,z2,z3]
theorem vd(ns:List Str):(ns.map V.str).all fD=true:=by
 rw[rh];exact bP.mpr fun _ _=>rfl
def sX(x:Str):Prop:=x.length<=1000/\∀ c∈x.cps.toList,c<16^8
theorem pE.small{y:Str}(h:pE y):sX y:=⟨by rw[nu];have:=h.le;exact G,fun c hc=>by have:=(h.ok c hc).2;exact G⟩
inductive LY(t:l9)(vs:List V)(H:Hp)(Q:VK)(E:XK):Prop
 |mk(p:Addr)(v:V)(ns:List Str)(tr:Tr)(_:vs=[.ref p,v])(_:H p=some (.tup (ns.map V.str)))(_:eD H v tr)(_:tr.size<=100000)(_:(∃ L:List Str,L.length<64/\∀ x∈tr.names,x∈L))(_:(∀ x∈tr.names,sX x))(_:((∀ x∈tr.names,x∈ns)->∀ J,bb H J->Q .non J))(_:((¬ ∀ x∈tr.names,x∈ns)->∀ J,bb H J->E (.ref t.zh) none J))
def Fits(H:Hp)(p:Addr)(v:V)(ns:List Str)(tr:Tr):Prop :=
 H p=some (.tup (ns.map V.str))/\ns.length<=8/\ns.Nodup/\eD H v tr/\tr.size<=100000/\tr.depth<=110/\(∃ L:List Str,L.length<64/\∀ x∈tr.names,x∈L)/\∀ x∈tr.names,sX x
theorem sY(T:Txt P w K mg t):FM P w base T.q6 1 P6:=by
 refine T.q6.F.fq (N:=["number","place"]) eM ?_;rintro nd _ _ _ _ _ _ _ _ hr ⟨n,k,rfl,q⟩;refine⟨_,(au (aC (aF jB (aF Pk (O 0) (O 1)) ak))),?_⟩;refine⟨_,Z,_,Z,_,_,Z,Z,hW k,_,_,Z,Z,?_⟩;rw[<- Te]at q;exact q
theorem Nk(T:Txt P w K mg t):FM P w base T.q8 4 (LY t):=by
 refine T.q8.F.fq (N:=["names","tree","name"]) eM ?_;rintro nd _ _ _ _ _ _ _ _ hr ⟨p,v,ns,tr,rfl,hp,ht,hsz,hL,xt,k1,k2⟩
 refine ⟨_,(au (eG kR rfl (bR (eK T.q5 (JH T) hr aH (aa (O 1) aj))) (iP 2 nd)
    (au (aO (aG km (O 2) (O 0) ou)
     (au (c7 dU rfl T.Za T.zal (aa (Ja az (uf (O 2)) az) aj)))
     aM)))),?_⟩
 refine⟨_,Z,v,tr,Z,ht,hsz,hL,fun l ys H1 hl qV s1 _ _ nc=>?_⟩
 refine⟨l,rfl,⟨_,b5.of qV⟩,fJ (K:=K) (a:=l) (xs:=ys.map V.str)
  (fun i M H2=>∃ o:Option V,M=[some (.ref p),some v,o]/\bb H1 H2/\∀ x∈ys.take i,x∈ns) ⟨none,rfl,bb.refl _,oz⟩ (fun i M H2 _ ⟨_,_,s2,_⟩=>b5.of (s2 _ _ qV)) ?_ ?_⟩
 .rintro i y M H2 hi ⟨o,rfl,s2,nK⟩
  rw[kg]at hi
  obtain⟨x,hx,rfl⟩:∃ x,ys[i]?=some x/\y=V.str x:=by
   cases e:ys[i]? with
   |none=>rw[e]at hi;cases hi
   |some x=>rw[e]at hi;exact⟨x,Z,(kK hi).symm⟩
  have Zy:x∈tr.names:=(nc x).mp (pj hx);refine⟨_,Z,_,Z,p,_,Z,.inr (SqT.of (s2 _ _ (s1 _ _ hp))),Z,vd ns,_,Z,?_⟩;rw[qp rfl,xO]
  by_cases hm:x∈ns
  .rw[cK hm]
   refine bD ?_;refine⟨_,Z,s2,fun z hz=>?_⟩;rw[qE,hx]at hz;rcases a_.mp hz with hz|hz
   .exact nK z hz
   have:z=x:=by simpa using hz
   rw[this];exact hm
  rw[gS hm];refine bU ?_;obtain⟨z1,z2⟩:=xt x Zy;have e1:=PySem.StrLaws.reprText_len x z2;have e3:(Str.ofString "the name ").length=9:=by decide +kernel
  have e4:(Str.ofString " is not told").length=12:=by decide +kernel
  refine⟨_,Z,dk,_,Z,x,Z,repr_fits z2 z1,_,Z,?_,_,Z,?_,v_,k2 (fun z=>hm (z x Zy)) H2 (s1.trans s2)⟩
  .rw[i5,e3];unfold sizeLine;exact G
  rw[i5,i5,e3,e4];unfold sizeLine;exact G
 rintro M H2 ⟨o,rfl,s2,nK⟩;rw[de,bp]at nK;exact k1 (fun x hx=>nK x ((nc x).mpr hx)) H2 (s1.trans s2)
theorem Gi(kvs:List (Key×V))(x y:Str)(v:V):bN (putK kvs (.inr x) v) (.inr y)=if y=x then some v else bN kvs (.inr y):=by
 rw[Ip]
 by_cases h:y=x
 .rw[qp h,qp (by rw[h])]
 rw[bX h,bX (fun z=>h (by injection z))]
theorem Gj(hn:ns.Nodup)(hi:i<ns.length)(hj:j<ns.length)(e:ns[i]=ns[j]):i=j:=by
 rcases Nat.lt_trichotomy i j with h|h|h
 .exact absurd e ((List.pairwise_iff_getElem.mp hn) i j hi hj h)
 .exact h
 exact absurd e.symm ((List.pairwise_iff_getElem.mp hn) j i hj hi h)
theorem Qx(hn:ns.Nodup)(h:ns[i]?=some x):ns.idxOf x=i:=by
 obtain⟨hi,e⟩:=List.getElem?_eq_some_iff.mp h;have h1:ns.idxOf x<ns.length:=pb.mpr (e ▸ fg hi);have h2:ns[ns.idxOf x]=x:=List.getElem_idxOf h1;exact Gj hn h1 hi (h2.trans e.symm)
inductive L5(vs:List V)(H:Hp)(Q:VK)(E:XK):Prop
 |mk(p:Addr)(ns:List Str)(_:vs=[.ref p])(_:H p=some (.tup (ns.map V.str)))(_:ns.length<=8)(_:Q (.int (cP ns.length:Nat)) H)
inductive LO(vs:List V)(H:Hp)(Q:VK)(E:XK):Prop
 |mk(p:Addr)(ns:List Str)(k:Nat)(_:vs=[.ref p,.int k])(_:H p=some (.tup (ns.map V.str)))(_:ns.length<=8)(_:∀ J,bb H J->Q (.int (dZ ns.length k:Nat)) J)
def Kj(ns:List Str)(c:Int)(x:Str):Nat×Nat:=if (ns.idxOf x:Int)<c then QP ns x else(0,0)
inductive V0(vs:List V)(H:Hp)(Q:VK)(E:XK):Prop
 |mk(p:Addr)(ns:List Str)(c:Int)(_:vs=[.ref p,.int c])(_:H p=some (.tup (ns.map V.str)))(_:ns.length<=8)(_:ns.Nodup)(_:∀ m kvs J,bb H J->J m=some (.dK kvs)->Tells J kvs (Kj ns c) ns->Q (.ref m) J)
inductive FH(t:l9)(vs:List V)(H:Hp)(Q:VK)(E:XK):Prop
 |mk(p:Addr)(v:V)(ns:List Str)(tr:Tr)(_:vs=[.ref p,v])(_:Fits H p v ns tr)(_:((∀ x∈tr.names,x∈ns)->∀ J,bb H J->Q (.int (aQ ns tr:Nat)) J))(_:((¬ ∀ x∈tr.names,x∈ns)->∀ J,bb H J->E (.ref t.zh) none J))
theorem xP(p:Nat->Bool):∀ m,((((List.range m).filter p).map fun i=>((2^i:Nat):Int))).sum=((gh p m:Nat):Int)
 | 0=>rfl
 | m+1=>by
  rw[fA,gp,ay,r9,xP p m];show _+(((List.filter p [m]).map fun i=>((2^i:Nat):Int))).sum=((gh p m+(if p m=true then 2^m else 0):Nat):Int)
  cases hp:p m with
  |true=>simp[hp]
  |false=>simp[hp]
theorem uo(T:Txt P w K mg t):FM P w base T.q12 1 L5:=by
 refine T.q12.F.fq (N:=["names"]) eM ?_;rintro nd _ _ _ _ _ _ _ _ hr ⟨p,ns,rfl,hp,h8,k⟩;refine⟨_,(au (aC (aF cV (aF gD ak (aF gD ak (aZ aX T.zd Bt.len (aa (O 0) aj)))) ak))),?_⟩;have sN:2^ns.length<=256:=b3 (n:=2) b9 h8
 have e1:(1:Int)*2^(((ns.map V.str).length:Nat):Int).toNat=((2^ns.length:Nat):Int):=by
  rw[de,bE];simp
 have Fc:cP ns.length=2^(2^ns.length)-1:=rfl;have Vs:dZ ns.length=fun k=>gh (fun i=>i.testBit k) (2^ns.length):=rfl
 generalize 2^ns.length=N at sN e1 Fc Vs;refine⟨_,Z,p,_,Z,.inr (SqT.of hp),_,_,Z,Z,⟨by rw[de];exact G,by rw[de];exact G,b9⟩,_,_,Z,Z,⟨?_,?_,b9⟩,_,_,Z,Z,?_⟩
 .rw[e1];exact G
 .rw[e1];exact G
 have e2:(1:Int)*2^((1:Int)*2^(((ns.map V.str).length:Nat):Int).toNat).toNat-1=((cP ns.length:Nat):Int):=by
  rw[e1,bE,Fc];have:1<=2^N:=hJ;rw[Int.one_mul,Int.ofNat_sub this];simp
 rw[<- e2]at k;exact k
theorem Nm(T:Txt P w K mg t):FM P w base T.q13 2 LO:=by
 refine T.q13.F.fq (N:=["names","place"]) eM ?_;rintro nd _ _ _ _ H _ _ _ hr ⟨p,ns,k,rfl,hp,h8,q⟩;refine⟨_,(au (aC (aZ (Fj rfl) T.zaS Bt.sum (aa (bT rfl ["world","place"] [none,some 1] (gK T.zr (aa (aF gD ak (aZ aX T.zd Bt.len (aa (O 0) aj))) aj)) gT (fun _ _ _ _ _ _=>(iP 0 (l8 (l:=["world","place"])))) (fun _ _ _ _ _ _=>jf (aG aW (eK T.q6 (sY T) hr aH (aa (O 0) (aa (ko 1) aj))) ak (aK _))) (fun _ _ _ _ _ _=>(aF gD ak (O 0)))) aj)))),?_⟩;have sN:2^ns.length<=256:=b3 (n:=2) b9 h8
 have e1:(1:Int)*2^(((ns.map V.str).length:Nat):Int).toNat=((2^ns.length:Nat):Int):=by
  rw[de,bE];simp
 have Fc:cP ns.length=2^(2^ns.length)-1:=rfl;have Vs:dZ ns.length=fun k=>gh (fun i=>i.testBit k) (2^ns.length):=rfl
 generalize 2^ns.length=N at sN e1 Fc Vs;refine⟨_,Z,p,_,Z,.inr (SqT.of hp),_,_,Z,Z,⟨by rw[de];exact G,by rw[de];exact G,b9⟩,?_⟩
 try dsimp only
 rw[e1];refine⟨_,Z,G,G,?_⟩;rw[bE];refine jP (n:=N) (fun i ys J=>J=H/\ys=((List.range i).filter fun j=>j.testBit k).map fun j=>V.int ((2^j:Nat):Int)) ⟨rfl,rfl⟩ (lkB G) (fun i ys J ⟨_,e⟩=>?_) ?_ ?_
 .rw[e,de]
  refine g9 (eI _ _) ?_;rw[dA];exact qnr _
 .rintro i ys J hi ⟨rfl,rfl⟩
  refine⟨⟨Z,trivial⟩,?_⟩;refine⟨_,Z,_,Z,i,k,?_,Z,_,Z,?_⟩
  .rw[hU];rfl
  unfold iW;rw[fA,gp,ay];cases hb:i.testBit k with
  | true =>
   refine bU ?_;refine⟨_,Z,_,_,Z,Z,⟨G,G,b9⟩,Z,?_⟩
   try dsimp only
   rw[List.filter_cons,qp hb,hU,bE];simp
  | false =>
   refine bD ⟨rfl,?_⟩;rw[List.filter_cons,bX (by rw[hb];decide)];simp
 rintro ys J ⟨rfl,rfl⟩ l hl;refine⟨l,((List.range N).filter fun j=>j.testBit k).map fun j=>((2^j:Nat):Int),Z,b5.of (by rw[ao,dr];rfl),?_⟩;have q:=q _ (aB (o:=.lst (((List.range N).filter fun j=>j.testBit k).map fun j=>V.int ((2^j:Nat):Int))) hl);rw[Vs]at q;dsimp only at q;rw[<- xP]at q;exact q
theorem RD(T:Txt P w K mg t):FM P w base T.q14 3 V0:=by
 refine T.q14.F.fq (N:=["names","known_ones","of_names","place","name","kept"]) eM ?_;rintro nd _ _ _ _ H _ _ _ hr ⟨p,ns,c,rfl,hp,h8,lh,k⟩;have hu:=eO hr
 refine⟨_,(aq (fR 2 nd m7)
   (aq (eG kR rfl (oO (O 0) T.zw) (jA (n:=2) rfl (bG (iP 3 nd) (bG (iP 4 nd) dO)))
    (aq (fR 5 nd (eK T.q13 (Nm T) hr aH (aa (O 0) (aa (O 3) aj))))
    (au (pX hu (O 2) (O 4) (fH (aG pP (O 3) (O 1) (aK _)) (bj (aa (O 5) (aa (aF mH (eK T.q12 (uo T) hr aH (aa (O 0) aj)) (O 5)) aj))) (bj (aa ak (aa ak aj)))) rfl))))
   (au (aC (O 2))))),?_⟩
 intro m hm;have s0:bb H (upd H m (.dK [])):=aB hm
 refine⟨_,rfl,p,rfl,⟨_,SqT.of (s0 _ _ hp)⟩,oR (K:=K) (a:=p) (xs:=ns.map V.str)
  (fun i M H2=>∃(o3 o4 o5:Option V)(kvs:List (Key×V)),M=[some (.ref p),some (.int c),some (.ref m),o3,o4,o5]/\bb H H2/\H2 m=some (.dK kvs)/\kvs.length<=i/\Tells H2 kvs (Kj ns c) (ns.take i))
  ⟨none,none,none,[],rfl,s0,ao,qnr _,(fun x hx=>by simp at hx)⟩ (fun i M H2 _ ⟨_,_,_,_,_,s2,_⟩=>SqT.of (s2 _ _ hp)) ?_ ?_⟩
 .rintro i y M H2 hi ⟨o3,o4,o5,kvs,rfl,s2,qS,mP,htl⟩ e he
  rw[kg]at hi
  obtain⟨x,hx,rfl⟩:∃ x,ns[i]?=some x/\y=V.str x:=by
   cases q:ns[i]? with
   |none=>rw[q]at hi;cases hi
   |some x=>rw[q]at hi;exact⟨x,Z,(kK hi).symm⟩
  have hi8:i<8:=by
   have:=(List.getElem?_eq_some_iff.mp hx).1;exact G
  have ZW:=Qx lh hx;have s3:=aB (o:=.tup [.int i,.str x]) he;refine⟨e,_,Z,SqT.of ao,Z,_,_,Z,_,_,Z,Z,?_⟩;refine⟨_,Z,_,Z,p,ns,i,Z,s3 _ _ (s2 _ _ hp),h8,fun H4 s4=>?_⟩;have G0:=s3.trans s4
  have fin:∀(q:Addr)(x1:Nat×Nat)(H5:Hp),bb H4 H5->we H5 q x1->Kj ns c x=x1 ->
    (∃(o3 o4 o5:Option V)(MR:List (Key×V)),[some (V.ref p),some (V.int c),some (V.ref m),some (V.int i),some (V.str x),some (V.int (dZ ns.length i:Nat))]=[some (.ref p),some (.int c),some (.ref m),o3,o4,o5]/\bb H (upd H5 m (.dK (putK kvs (.inr x) (.ref q))))/\(upd H5 m (.dK (putK kvs (.inr x) (.ref q)))) m=some (.dK MR)/\MR.length<=i+1/\Tells (upd H5 m (.dK (putK kvs (.inr x) (.ref q)))) MR (Kj ns c) (ns.take (i+1))):=by
   intro q x1 H5 s5 hq hof;have OU:=s5 _ _ (G0 _ _ qS)
   have kt:fF H5 (upd H5 m (.dK (putK kvs (.inr x) (.ref q)))):=fun b xs eb=>by
    rw[aA (fun z=>by subst z;rw[OU]at eb;cases eb)];exact eb
   refine⟨_,_,_,_,Z,fun b o eb=>?_,ao,g9 (jt kvs (.inr x) (.ref q)) G,fun z hz=>?_⟩
   .rw[aA (aD eb hm)]
    exact s5 _ _ (G0 _ _ (s2 _ _ eb))
   rw[Gi]
   by_cases Ww:z=x
   .subst Ww
    rw[qp rfl,hof];exact⟨q,Z,hq.tups kt⟩
   rw[bX Ww];rw[qE,hx]at hz;rcases a_.mp hz with hz|hz
   .obtain⟨q',h1,h2⟩:=htl z hz
    exact⟨q',h1,h2.tups ((G0.trans s5).tups.trans kt)⟩
   exact absurd (by simpa using hz) Ww
  refine⟨_,Z,_,Z,_,_,Z,Z,_,Z,aN (fun cc=>?_) (fun cc=>?_)⟩
  .have cc:(i:Int)<c:=eT cc
   refine⟨_,Z,_,Z,p,ns,Z,G0 _ _ (s2 _ _ hp),h8,_,Z,_,_,Z,Z,lk obz,fun q hq=>?_⟩;have E9:=hq;have s5:=aB (o:=.tup [.int (dZ ns.length i:Nat),.int (Builtin.bitXor (cP ns.length:Nat) (dZ ns.length i:Nat))]) hq;refine⟨_,Z,_,Z,m,_,Z,ve.k (k:=Sum.inr x) (s5 _ _ (G0 _ _ qS)) (cM G),?_⟩;refine fin q (dZ ns.length i,cP ns.length^^^dZ ns.length i) _ s5 (by unfold we;rw[ao];simp only[bxor]) ?_;unfold Kj QP;rw[ZW,qp cc]
  have cc:¬(i:Int)<c:=fun z=>cc (cK z)
  refine⟨lk obz,fun q hq=>?_⟩;have s5:=aB (o:=.tup [.int 0,.int 0]) hq;refine⟨_,Z,_,Z,m,_,Z,ve.k (k:=Sum.inr x) (s5 _ _ (G0 _ _ qS)) (cM G),?_⟩;refine fin q (0,0) _ s5 ao ?_;unfold Kj;rw[ZW,bX cc]
 rintro M H2 ⟨o3,o4,o5,kvs,rfl,s2,qS,mP,htl⟩;rw[de,bp]at htl;exact⟨_,Z,k m kvs H2 s2 qS htl⟩
theorem xQ(T:Txt P w K mg t):FM P w base T.q15 116 (FH t):=by
 refine T.q15.F.fq (N:=["names","tree"]) eM ?_;rintro nd _ _ _ _ H vs Q E hr ⟨p,v,ns,tr,rfl,⟨hp,h8,lh,ht,hsz,hd,hL,xt⟩,k1,k2⟩
 refine⟨_,(aq (bw (eK T.q8 (Nk T) hr bH (aa (O 0) (aa (O 1) aj))))
   (au (aC (cy aJ (eK T.q9 (rA T 110) hr aH (aa (O 1) (aa (eK T.q14 (RD T) hr aH (aa (O 0) (aa (aZ aX T.zd Bt.len (aa (O 0) aj)) aj))) (aa (eK T.q12 (uo T) hr aH (aa (O 0) aj)) aj)))) ak)))),?_⟩
 refine⟨_,Z,_,Z,p,v,ns,tr,Z,hp,ht,hsz,hL,xt,fun hall H1 s1=>?_,fun xw H1 s1=>k2 xw H1 s1⟩;refine⟨_,Z,_,Z,_,Z,p,_,Z,.inr (SqT.of (s1 _ _ hp)),p,ns,_,Z,s1 _ _ hp,h8,lh,fun m kvs H2 s2 hm htl=>?_⟩;refine⟨_,Z,p,ns,Z,s2 _ _ (s1 _ _ hp),h8,v,tr,m,kvs,_,_,Z,ht.mono (s1.trans s2).tups,hd,hm,fun x hx=>htl x (hall x hx),fun q H3 s3 hq=>?_⟩
 have e:(dq (Kj ns (((ns.map V.str).length:Nat):Int)) (cP ns.length) tr).1=aQ ns tr:=by
  rw[<- z6];refine b4 Prod.fst (iU fun x hx=>?_);unfold Kj;rw[qp];have:=pb.mpr (hall x hx);rw[de];exact G
 refine⟨q,_,0,_,Z,Z,SqT.of hq,Z,?_⟩;have k1:=k1 hall H3 ((s1.trans s2).trans s3);rw[<- e]at k1;exact k1
inductive GO(t:l9)(vs:List V)(H:Hp)(Q:VK)(E:XK):Prop
 |mk(p:Addr)(v:V)(ns:List Str)(tr:Tr)(_:vs=[.ref p,v])(_:Fits H p v ns tr)(_:((∀ x∈tr.names,x∈ns)->∀ J,bb H J->Q (.int (aV ns tr:Nat)) J))(_:((¬ ∀ x∈tr.names,x∈ns)->∀ J,bb H J->E (.ref t.zh) none J))
theorem xR(T:Txt P w K mg t):FM P w base T.q16 117 (GO t):=by
 refine T.q16.F.fq (N:=["names","tree"]) eM ?_;rintro nd _ _ _ _ H vs Q E hr ⟨p,v,ns,tr,rfl,hf,k1,k2⟩;refine⟨_,(au (aC (aF mH (eK T.q12 (uo T) hr aH (aa (O 0) aj)) (eK T.q15 (xQ T) hr bH (aa (O 0) (aa (O 1) aj)))))),?_⟩;refine⟨_,Z,p,ns,Z,hf.1,hf.2.1,_,Z,_,Z,p,v,ns,tr,Z,hf,fun hall H1 s1=>?_,k2⟩;refine⟨_,_,Z,Z,?_⟩;have k1:=k1 hall H1 s1;rw[<- qI,<- bxor]at k1;exact k1
def mF:Option Int->V
 |none=>.non
 |some m=>.int m
def RG:Option Int->Bool
 |none=>true
 |some m=>decide (0<m)
inductive DA(vs:List V)(H:Hp)(Q:VK)(E:XK):Prop
 |mk(r:Addr)(rs:List Int)(wd:Nat)(_:vs=[.ref r,.int wd])(_:H r=some (.tup (rs.map V.int)))(_:rs.length<=256)(_:∀ J,bb H J->Q (mF (aU (sel rs wd))) J)
def cq(H:Hp)(a:Addr)(p r:Addr)(rs:List Int):Prop:=H a=some (.tup [.ref p,.ref r])/\H r=some (.tup (rs.map V.int))/\rs.length<=256
theorem cq.mono{p r:Addr}(s:bb H J)(h:cq H a p r rs):cq J a p r rs:=⟨s _ _ h.1,s _ _ h.2.1,h.2.2⟩
inductive L8(t:l9)(vs:List V)(H:Hp)(Q:VK)(E:XK):Prop
 |mk(a p r:Addr)(rs:List Int)(v:V)(ns:List Str)(tr:Tr)(_:vs=[.ref a,v])(_:cq H a p r rs)(_:Fits H p v ns tr)(_:((∀ x∈tr.names,x∈ns)->∀ J,bb H J->Q (mF (aU (sel rs (aV ns tr)))) J))(_:((¬ ∀ x∈tr.names,x∈ns)->∀ J,bb H J->E (.ref t.zh) none J))
inductive L3(t:l9)(vs:List V)(H:Hp)(Q:VK)(E:XK):Prop
 |mk(a p r:Addr)(rs:List Int)(v:V)(ns:List Str)(tr:Tr)(_:vs=[.ref a,v])(_:cq H a p r rs)(_:Fits H p v ns tr)(_:((∀ x∈tr.names,x∈ns)->∀ J,bb H J->Q (.bl (RG (aU (sel rs (aV ns tr))))) J))(_:((¬ ∀ x∈tr.names,x∈ns)->∀ J,bb H J->E (.ref t.zh) none J))
theorem vf(T:Txt P w K mg t):FM P w base T.q18 2 DA:=by
 refine T.q18.F.fq (N:=["ranks","worlds"]) eM ?_;rintro nd _ _ _ _ H _ _ _ hr ⟨r,rs,wd,rfl,KG,hlen,k⟩;refine⟨_,(au (aC (M5 rfl (bT rfl ["world","rank","worlds"] [none,none,some 1] (oO (O 0) T.zw) gT (fun _ _ _ _ _ _=>(jg (K:=K) (n:=2) rfl rfl (bG (iP 0 (l8 (l:=["world","rank","worlds"]))) (bG (iP 1 (l8 (l:=["world","rank","worlds"]))) dO)))) (fun _ _ _ _ _ _=>jf (aG aW (eK T.q6 (sY T) hr aH (aa (ko 2) (aa (O 0) aj))) ak (aK _))) (fun _ _ _ _ _ _=>(O 1))) T.zM))),?_⟩;refine⟨_,Z,r,Z,⟨_,SqT.of KG⟩,?_⟩;refine sI (K:=K) (a:=r) (xs:=rs.map V.int) (fun i ys J=>bb H J/\ys=(jx rs wd i).map V.int) ⟨bb.refl _,rfl⟩ (lk (by rw[de];exact G)) (fun i ys J ⟨_,e⟩=>by rw[e,de];exact Gd _ _ _) (fun i ys J ⟨s1,_⟩=>SqT.of (s1 _ _ KG)) ?_ ?_
 .rintro i y ys H1 hi ⟨s1,rfl⟩ e he
  rw[kg]at hi
  obtain⟨x,hx,rfl⟩:∃ x,rs[i]?=some x/\y=V.int x:=by
   cases q:rs[i]? with
   |none=>rw[q]at hi;cases hi
   |some x=>rw[q]at hi;exact⟨x,Z,(kK hi).symm⟩
  have s2:=s1.trans (aB (o:=.tup [.int i,.int x]) he);refine⟨e,_,Z,SqT.of ao,Z,_,_,Z,_,_,Z,Z,⟨Z,trivial⟩,?_⟩;refine⟨_,Z,_,Z,wd,i,Z,Z,_,Z,?_⟩;rw[CN];unfold iW;have ex:rs.getD i 0=x:=by rw[List.getD,hx];rfl
  cases hb:wd.testBit i with
  | true =>
   refine bU ?_;refine⟨_,Z,s2,?_⟩;rw[qp rfl,ay,ex]
   rfl
  | false =>
   refine bD ⟨s2,?_⟩;rw[bX b9,c_]
 rintro ys H1 ⟨s1,rfl⟩ l hl;rw[de];have s2:=s1.trans (aB (o:=.lst ((jx rs wd rs.length).map V.int)) hl);refine⟨l,jx rs wd rs.length,Z,b5.of ao,fun e=>?_,fun aad h1 h2=>?_⟩
 .have k:=k _ s2
  unfold sel at k;rw[e]at k;exact e ▸ k
 have k:=k _ s2;unfold sel at k;rw[rn h1 h2]at k;exact k
theorem uq(T:Txt P w K mg t):FM P w base T.q19 118 (L8 t):=by
 refine T.q19.F.fq (N:=["mind","tree"]) eM ?_;rintro nd _ _ _ _ _ _ _ _ hr ⟨a,p,r,rs,v,ns,tr,rfl,hm,hf,k1,k2⟩;refine⟨_,(au (aC (eK T.q18 (vf T) hr aH (aa (cy aJ (O 0) ak) (aa (eK T.q16 (xR T) hr bH (aa (cy aJ (O 0) ak) (aa (O 1) aj))) aj))))),?_⟩;refine⟨_,Z,a,_,1,.ref r,Z,Z,SqT.of hm.1,Z,_,Z,a,_,0,.ref p,Z,Z,SqT.of hm.1,Z,_,Z,p,v,ns,tr,Z,hf,fun hall H1 s1=>?_,k2⟩;exact⟨r,rs,aV ns tr,Z,s1 _ _ hm.2.1,hm.2.2,fun H2 s2=>k1 hall H2 (s1.trans s2)⟩
theorem Np(T:Txt P w K mg t):FM P w base T.q20 119 (L3 t):=by
 refine T.q20.F.fq (N:=["mind","tree","firm"]) eM ?_;rintro nd _ _ _ _ H vs Q E hr ⟨a,p,r,rs,v,ns,tr,rfl,hm,hf,k1,k2⟩
 refine⟨_,(aq (fR 2 nd (eK T.q19 (uq T) hr bH (aa (O 0) (aa (O 1) aj))))
   (au (aC (Lg (du gU (O 2) bM (aK _)) (j8 (du pQ (O 2) ak (aK _))))))),?_⟩
 refine⟨_,Z,_,Z,a,p,r,rs,v,ns,tr,Z,hm,hf,fun hall H1 s1=>?_,k2⟩;have k1:=k1 hall H1 s1;refine⟨_,Z,Z,_,Z,?_⟩;cases ho:aU (sel rs (aV ns tr))with
 | none =>
  rw[ho]at k1;rw[show decide (mF none=V.non)=true from cK rfl];exact bU k1
 | some m =>
  rw[ho]at k1;rw[show decide (mF (some m)=V.non)=false from gS (by intro z;cases z)];refine bD ⟨_,rfl,_,_,rfl,rfl,k1⟩
inductive L_(t:l9)(vs:List V)(H:Hp)(Q:VK)(E:XK):Prop
 |mk(a p r:Addr)(rs:List Int)(v:V)(ns:List Str)(tr:Tr)(_:vs=[.ref a,v])(_:cq H a p r rs)(_:Fits H p v ns tr)(_:((∀ x∈tr.names,x∈ns)->match aU (sel rs (aV ns tr)),aU (sel rs (aQ ns tr))with|none,_=>∀ J,bb H J->E (.ref t.zi) none J|some _,none=>∀ J,bb H J->E (.ref t.zj) none J|some x,some y=>∀(b:Addr)(J:Hp),bb H J->J b=some (.tup [.int x,.int y])->Q (.ref b) J))(_:((¬ ∀ x∈tr.names,x∈ns)->∀ J,bb H J->E (.ref t.zh) none J))
theorem Bj(T:Txt P w K mg t):FM P w base T.q21 119 (L_ t):=by
 refine T.q21.F.fq (N:=["mind","tree","against","in_favour"]) eM ?_;rintro nd _ _ _ _ H vs Q E hr ⟨a,p,r,rs,v,ns,tr,rfl,hm,hf,k1,k2⟩
 refine⟨_,(aq (fR 2 nd (eK T.q19 (uq T) hr bH (aa (O 0) (aa (O 1) aj))))
   (aq (aO (aG gU (O 2) bM (aK _))
    (au (c7 dU rfl T.zQ T.zag (aa az aj)))
    aM)
   (aq (fR 3 nd (eK T.q18 (vf T) hr aH (aa (cy aJ (O 0) ak) (aa (eK T.q15 (xQ T) hr bH (aa (cy aJ (O 0) ak) (aa (O 1) aj))) aj))))
   (aq (aO (aG gU (O 3) bM (aK _))
    (au (c7 dU rfl T.zS T.zah (aa az aj)))
    aM)
   (au (aC (bj (aa (O 2) (aa (O 3) aj))))))))),?_⟩
 refine⟨_,Z,_,Z,a,p,r,rs,v,ns,tr,Z,hm,hf,fun hall H1 s1=>?_,k2⟩;have k1:=k1 hall;refine⟨_,Z,Z,_,Z,?_⟩;cases hb:aU (sel rs (aV ns tr))with
 | none =>
  rw[hb]at k1;rw[show decide (mF none=V.non)=true from cK rfl];exact bU ⟨v_,k1 H1 s1⟩
 | some x =>
  rw[hb]at k1;rw[show decide (mF (some x)=V.non)=false from gS (by intro z;cases z)];refine bD ?_;have hm1:=hm.mono s1;obtain⟨hp,h8,lh,ht,hsz,hd,hL,xt⟩:=id hf;refine⟨_,Z,a,_,1,.ref r,Z,Z,SqT.of hm1.1,Z,_,Z,a,_,0,.ref p,Z,Z,SqT.of hm1.1,Z,_,Z,p,v,ns,tr,Z,⟨s1 _ _ hp,h8,lh,ht.mono s1.tups,hsz,hd,hL,xt⟩,fun _ H2 s2=>?_,fun z=>absurd hall z⟩;refine⟨r,rs,aQ ns tr,Z,s2 _ _ hm1.2.1,hm1.2.2,fun H3 s3=>?_⟩;have qA:=(s1.trans s2).trans s3;refine⟨_,Z,Z,_,Z,?_⟩;cases hk:aU (sel rs (aQ ns tr))with
  | none =>
   rw[hk]at k1;rw[show decide (mF none=V.non)=true from cK rfl];exact bU ⟨v_,k1 H3 qA⟩
  | some y =>
   rw[hk]at k1;rw[show decide (mF (some y)=V.non)=false from gS (by intro z;cases z)];exact bD ⟨_,rfl,_,rfl,lk obz,fun b hb=>k1 b _ (qA.trans (aB hb)) ao⟩
inductive L0(t:l9)(vs:List V)(H:Hp)(Q:VK)(E:XK):Prop
 |mk(a p r:Addr)(rs:List Int)(v:V)(ns:List Str)(tr:Tr)(_:vs=[.ref a,v])(_:cq H a p r rs)(_:Fits H p v ns tr)(_:((∀ x∈tr.names,x∈ns)->match aU (sel rs (aV ns tr)),aU (sel rs (aQ ns tr))with|none,_=>∀ J,bb H J->E (.ref t.zi) none J|some _,none=>∀ J,bb H J->E (.ref t.zj) none J|some x,some y=>∀ J,bb H J->Q (.int (x-y)) J))(_:((¬ ∀ x∈tr.names,x∈ns)->∀ J,bb H J->E (.ref t.zh) none J))
theorem Nq(T:Txt P w K mg t):FM P w base T.q22 120 (L0 t):=by
 refine T.q22.F.fq (N:=["mind","tree","leasts"]) eM ?_;rintro nd _ _ _ _ H vs Q E hr ⟨a,p,r,rs,v,ns,tr,rfl,hm,hf,k1,k2⟩
 refine⟨_,(aq (fR 2 nd (eK T.q21 (Bj T) hr bH (aa (O 0) (aa (O 1) aj))))
   (au (aC (aF cV (cy aJ (O 2) ak) (cy aJ (O 2) ak))))),?_⟩
 refine⟨_,Z,_,Z,a,p,r,rs,v,ns,tr,Z,hm,hf,fun hall=>?_,k2⟩;have k1:=k1 hall;cases hb:aU (sel rs (aV ns tr))with
 |none=>rw[hb]at k1;exact k1
 | some x =>
  rw[hb]at k1;cases hk:aU (sel rs (aQ ns tr))with
  |none=>rw[hk]at k1;exact k1
  | some y =>
   rw[hk]at k1;exact fun b H1 s1 NR=>⟨_,rfl,b,_,0,.int x,rfl,rfl,SqT.of NR,rfl,_,rfl,b,_,1,.int y,rfl,rfl,SqT.of NR,rfl,_,_,rfl,rfl,k1 H1 s1⟩
inductive LP(t:l9)(vs:List V)(H:Hp)(Q:VK)(E:XK):Prop
 |mk(a p r:Addr)(rs:List Int)(v:V)(ns:List Str)(tr:Tr)(lean:Int)(_:vs=[.ref a,v,.int lean])(_:cq H a p r rs)(_:Fits H p v ns tr)(_:((∀ x∈tr.names,x∈ns)->match aU (sel rs (aV ns tr)),aU (sel rs (aQ ns tr))with|none,_=>∀ J,bb H J->E (.ref t.zi) none J|some _,none=>∀ J,bb H J->E (.ref t.zj) none J|some x,some y=>∀(b q:Addr)(J:Hp),bb H J->cq J b p q (gj rs (aV ns tr) x y lean)->Q (.ref b) J))(_:((¬ ∀ x∈tr.names,x∈ns)->∀ J,bb H J->E (.ref t.zh) none J))
theorem ut(T:Txt P w K mg t):FM P w base T.q28 120 (LP t):=by
 refine T.q28.F.fq (N:=["mind","tree","lean","leasts","for_breaking","for_keeping","against","ranks"]) eM ?_;rintro nd _ _ _ _ H vs Q E hr ⟨a,p,r,rs,v,ns,tr,lean,rfl,hm,hf,k1,k2⟩
 refine⟨_,(aq (fR 3 nd (eK T.q21 (Bj T) hr bH (aa (O 0) (aa (O 1) aj))))
   (aq (He 4 nd (aF cV (aZ (uH rfl) T.Y' Bt.max (aa (O 2) (aa ak aj))) (cy aJ (O 3) ak)))
   (aq (He 5 nd (aF cV (aZ (uH rfl) T.Y' Bt.max (aa (jr gR (O 2)) (aa ak aj))) (cy aJ (O 3) ak)))
   (aq (He 6 nd (eK T.q16 (xR T) hr bH (aa (cy aJ (O 0) ak) (aa (O 1) aj))))
   (aq (iT (i:=7) rfl ["world","rank","for_breaking","for_keeping","against"] [none,none,some 4,some 5,some 6] nd rfl rfl (oO (cy aJ (O 0) ak) T.zw) gT (fun _ _ _ _ _ _=>(jg (K:=K) (n:=2) rfl rfl (bG (iP 0 (l8 (l:=["world","rank","for_breaking","for_keeping","against"]))) (bG (iP 1 (l8 (l:=["world","rank","for_breaking","for_keeping","against"]))) dO)))) (fun _ _ _ _ _ _=>bZ) (fun _ _ _ _ _ _=>(aF cO (O 1) (fH (aG aW (eK T.q6 (sY T) hr aH (aa (ko 4) (aa (O 0) aj))) ak (aK _)) (ko 2) (ko 3)))))
   (au (aC (bj (aa (cy aJ (O 0) ak) (aa (dG dh T.zn Bt.tuple (aa (O 7) aj)) aj)))))))))),?_⟩
 refine⟨_,Z,_,Z,a,p,r,rs,v,ns,tr,Z,hm,hf,fun hall=>?_,k2⟩;have k1:=k1 hall;cases hb:aU (sel rs (aV ns tr))with
 |none=>rw[hb]at k1;exact k1
 | some x =>
  rw[hb]at k1;cases hk:aU (sel rs (aQ ns tr))with
  |none=>rw[hk]at k1;exact k1
  | some y =>
   rw[hk]at k1;intro b H1 s1 NR;have hm1:=hm.mono s1;obtain⟨hp,h8,lh,ht,hsz,hd,hL,xt⟩:=id hf;refine⟨_,Z,_,_,Z,_,Z,b,_,0,.int x,Z,Z,SqT.of NR,Z,_,_,Z,Z,?_⟩;refine⟨_,Z,_,Z,_,_,Z,_,Z,b,_,1,.int y,Z,Z,SqT.of NR,Z,_,_,Z,Z,?_⟩;refine⟨_,Z,a,_,0,.ref p,Z,Z,SqT.of hm1.1,Z,_,Z,p,v,ns,tr,Z,⟨s1 _ _ hp,h8,lh,ht.mono s1.tups,hsz,hd,hL,xt⟩,fun _ H2 s2=>?_,fun z=>absurd hall z⟩;have qS:=hm1.mono s2;have m_:=s1.trans s2;refine⟨_,Z,a,_,1,.ref r,Z,Z,SqT.of qS.1,Z,r,Z,⟨_,SqT.of qS.2.1⟩,?_⟩;refine sI (K:=K) (a:=r) (xs:=rs.map V.int) (fun i ys J=>bb H2 J/\ys=(gY rs (aV ns tr) (dH lean-x) (dH (-lean)-y) i).map V.int) ⟨bb.refl _,rfl⟩ (lk (by rw[de];have:=hm.2.2;exact G)) (fun i ys J ⟨_,e⟩=>by rw[e,de,sU];exact qnr _) (fun i ys J ⟨s3,_⟩=>SqT.of (s3 _ _ qS.2.1)) ?_ ?_
   .rintro i z ys H3 hi ⟨s3,rfl⟩ e he
    rw[kg]at hi
    obtain⟨u,hx,rfl⟩:∃ u,rs[i]?=some u/\z=V.int u:=by
     cases q:rs[i]? with
     |none=>rw[q]at hi;cases hi
     |some u=>rw[q]at hi;exact⟨u,Z,(kK hi).symm⟩
    have s4:=s3.trans (aB (o:=.tup [.int i,.int u]) he);refine⟨e,_,Z,SqT.of ao,Z,_,_,Z,_,_,Z,Z,⟨Z,Z,Z,trivial⟩,?_⟩;refine⟨_,Z,_,Z,_,Z,aV ns tr,i,Z,Z,_,Z,?_⟩;rw[z7];unfold iW;have ex:rs.getD i 0=u:=by rw[List.getD,hx];rfl
    cases hbt:(aV ns tr).testBit i with
    | true =>
     refine bU ?_;refine⟨_,Z,_,_,Z,Z,s4,?_⟩;rw[show(if true=true then dH lean-x else dH (-lean)-y)=dH lean-x from qp rfl,ay,ex]
     rfl
    | false =>
     refine bD ?_;refine⟨_,Z,_,_,Z,Z,s4,?_⟩;rw[show(if false=true then dH lean-x else dH (-lean)-y)=dH (-lean)-y from bX b9,ay,ex]
     rfl
   rintro ys H3 ⟨s3,rfl⟩ l hl;rw[de];have s4:=s3.trans (aB (o:=.lst ((gY rs (aV ns tr) (dH lean-x) (dH (-lean)-y) rs.length).map V.int)) hl);refine⟨_,Z,a,_,0,.ref p,Z,Z,SqT.of (s4 _ _ qS.1),Z,_,Z,l,_,Z,.inl ⟨b5.of ao,fun q hq=>?_⟩⟩;have s5:=aB (o:=.tup ((gY rs (aV ns tr) (dH lean-x) (dH (-lean)-y) rs.length).map V.int)) hq;refine⟨lk obz,fun c hc=>?_⟩;have s6:=aB (o:=.tup [.ref p,.ref q]) hc;exact k1 c q _ (((m_.trans s4).trans s5).trans s6) ⟨ao,s6 _ _ ao,by rw[jF];exact hm.2.2⟩
inductive L4(t:l9)(vs:List V)(H:Hp)(Q:VK)(E:XK):Prop
 |mk(a p r:Addr)(rs:List Int)(v:V)(ns:List Str)(tr:Tr)(_:vs=[.ref a,v])(_:cq H a p r rs)(_:gN ns rs)(_:Fits H p v ns tr)(_:((∀ x∈tr.names,x∈ns)->match aU (sel rs (aV ns tr))with|none=>∀ J,bb H J->E (.ref t.zi) none J|some _=>∀(b q:Addr)(J:Hp),bb H J->cq J b p q (jy ns tr rs)->Q (.ref b) J))(_:((¬ ∀ x∈tr.names,x∈ns)->∀ J,bb H J->E (.ref t.zh) none J))
theorem Nr(T:Txt P w K mg t):FM P w base T.q29 121 (L4 t):=by
 refine T.q29.F.fq (N:=["mind","tree"]) eM ?_;rintro nd _ _ _ _ H vs Q E hr ⟨a,p,r,rs,v,ns,tr,rfl,hm,hM,hf,k1,k2⟩
 refine⟨_,(aq (aO (cG (eK T.q20 (Np T) hr bH (aa (O 0) (aa (O 1) aj))))
    (au (aC (eK T.q28 (ut T) hr bH (aa (O 0) (aa (O 1) (aa ak aj))))))
    aM)
   (au (aC (O 0)))),?_⟩
 refine⟨_,Z,_,Z,a,p,r,rs,v,ns,tr,Z,hm,hf,fun hall H1 s1=>?_,k2⟩;have k1:=k1 hall;obtain⟨hp,h8,lh,ht,hsz,hd,hL,xt⟩:=id hf;have hm1:=hm.mono s1;have hf1:Fits H1 p v ns tr:=⟨s1 _ _ hp,h8,lh,ht.mono s1.tups,hsz,hd,hL,xt⟩
 have eg:jy ns tr rs=match aU (sel rs (aV ns tr)),aU (sel rs (aQ ns tr))with|some x,some y=>if 0<x then gj rs (aV ns tr) x y 0 else rs|_,_=>rs:=rfl
 cases hb:aU (sel rs (aV ns tr))with
 | none =>
  rw[hb]at k1;refine⟨_,Z,bU ?_⟩;refine⟨_,Z,_,Z,a,p,r,rs,v,ns,tr,0,Z,hm1,hf1,fun _=>?_,fun z=>absurd hall z⟩;rw[hb];exact fun H2 s2=>k1 H2 (s1.trans s2)
 | some x =>
  rw[hb]at k1 eg;refine⟨_,Z,aN (fun c=>?_) (fun c=>?_)⟩
  .have c:0<x:=eT c
   refine⟨_,Z,_,Z,a,p,r,rs,v,ns,tr,0,Z,hm1,hf1,fun _=>?_,fun z=>absurd hall z⟩;rw[hb];cases hk:aU (sel rs (aQ ns tr))with
   | none =>
    rcases Ge hM.len tr hM.zero with h|h
    .have:=(dF hb).2 _ h
     exact G
    rw[sS hk]at h;cases h
   | some y =>
    rw[hk]at eg;have eg:jy ns tr rs=if 0<x then gj rs (aV ns tr) x y 0 else rs:=eg;rw[qp c]at eg;rw[eg]at k1;exact fun b q H2 s2 qS=>k1 b q H2 (s1.trans s2) qS
  have c:¬0<x:=fun z=>c (cK z)
  have eg:jy ns tr rs=rs:=by
   rw[eg];cases hk:aU (sel rs (aQ ns tr))with
   |none=>rfl
   |some y=>exact bX c
  rw[eg]at k1;exact⟨_,Z,k1 a r H1 s1 hm1⟩
inductive LU(t:l9)(vs:List V)(H:Hp)(Q:VK)(E:XK):Prop
 |mk(a p r:Addr)(rs:List Int)(v:V)(ns:List Str)(tr:Tr)(firm:Int)(_:vs=[.ref a,v,.int firm])(_:cq H a p r rs)(_:Fits H p v ns tr)(_:((∀ x∈tr.names,x∈ns)->match aU (sel rs (aV ns tr)),aU (sel rs (aQ ns tr))with|some _,none=>∀ J,bb H J->E (.ref t.zj) none J|_,_=>∀(b q:Addr)(J:Hp),bb H J->cq J b p q (iV ns tr rs firm)->Q (.ref b) J))(_:((¬ ∀ x∈tr.names,x∈ns)->∀ J,bb H J->E (.ref t.zh) none J))
theorem Nt(T:Txt P w K mg t):FM P w base T.q30 121 (LU t):=by
 refine T.q30.F.fq (N:=["mind","tree","firm"]) eM ?_;rintro nd _ _ _ _ _ _ _ _ hr ⟨a,p,r,rs,v,ns,tr,firm,rfl,hm,hf,k1,k2⟩
 refine⟨_,(aq (aO (aG gU (eK T.q19 (uq T) hr bH (aa (O 0) (aa (O 1) aj))) bM (aK _))
    (au (aC (O 0)))
    aM)
   (au (aC (eK T.q28 (ut T) hr bH (aa (O 0) (aa (O 1) (aa (O 2) aj))))))),?_⟩
 refine⟨_,Z,_,Z,a,p,r,rs,v,ns,tr,Z,hm,hf,fun hall H1 s1=>?_,k2⟩;have k1:=k1 hall;obtain⟨hp,h8,lh,ht,hsz,hd,hL,xt⟩:=id hf;have hm1:=hm.mono s1;have hf1:Fits H1 p v ns tr:=⟨s1 _ _ hp,h8,lh,ht.mono s1.tups,hsz,hd,hL,xt⟩
 unfold iV at k1;refine⟨Z,_,Z,?_⟩;cases hb:aU (sel rs (aV ns tr))with
 | none =>
  rw[hb]at k1;rw[show decide (mF none=V.non)=true from cK rfl];exact bU ⟨_,rfl,k1 a r H1 s1 hm1⟩
 | some x =>
  rw[hb]at k1;rw[show decide (mF (some x)=V.non)=false from gS (by intro z;cases z)];refine bD ?_;refine⟨_,Z,_,Z,_,Z,a,p,r,rs,v,ns,tr,firm,Z,hm1,hf1,fun _=>?_,fun z=>absurd hall z⟩;rw[hb];cases hk:aU (sel rs (aQ ns tr))with
  | none =>
   rw[hk]at k1;exact fun H2 s2=>k1 H2 (s1.trans s2)
  | some y =>
   rw[hk]at k1;exact fun b q H2 s2 qS=>k1 b q H2 (s1.trans s2) qS
theorem RJ:¬(("standing":Str)="taken_back"):=by decide +kernel
def lf(sl bl:Addr):List (Str×V):=bf "taken_back" (.ref bl) (bf "standing" (.ref sl) [])
theorem sZ(sl bl:Addr):(lf sl bl).lookup ("standing":Str)=some (.ref sl):=by
 unfold lf;rw[bB,bX RJ,bB,qp rfl]
theorem CW(sl bl:Addr):(lf sl bl).lookup ("taken_back":Str)=some (.ref bl):=by
 unfold lf;rw[bB,qp rfl]
theorem eQ(sl bl:Addr)  (h1:¬m="taken_back") (h2:¬m="standing"):(lf sl bl).lookup m=none:=by
 unfold lf;rw[bB,bX h1,bB,bX h2]
 rfl
theorem vg(f:Str)(u v:V):∀ l:List (Str×V),bf f u (bf f v l)=bf f u l
 |[]=>by simp[bf]
 | (g,x):: r=>by
  by_cases h:g=f
  .simp[bf,h]
  simp[bf,h,vg f u v r]
theorem Qy(sl bl bl':Addr):bf "taken_back" (.ref bl') (lf sl bl)=lf sl bl':=vg _ _ _ _
structure fh(C:Addr)(H:Hp)(p dx sl bl:Addr)(mv bv:List V):Prop where
 ob:H p=some (.ins C dx (lf sl bl))
 ne:sl≠bl
 st:H sl=some (.lst mv)
 tb:H bl=some (.lst bv)
inductive F8(C:Addr)(vs:List V)(H:Hp)(Q:VK)(E:XK):Prop
 |mk(p dx sl bl:Addr)(mv bv:List V)(y:V)(_:vs=[.ref p])(_:fh C H p dx sl bl (mv++[y]) bv)(_:Q y H)
inductive DD(C:Addr)(vs:List V)(H:Hp)(Q:VK)(E:XK):Prop
 |mk(p dx sl bl:Addr)(mv bv:List V)(_:vs=[.ref p])(_:fh C H p dx sl bl mv bv)(_:Q (.int ((mv.length:Int)-1)) H)
inductive BE(C:Addr)(vs:List V)(H:Hp)(Q:VK)(E:XK):Prop
 |mk(p dx sl bl:Addr)(mv bv:List V)(_:vs=[.ref p])(_:fh C H p dx sl bl mv bv)(_:Q (.int (bv.length:Int)) H)
inductive xa(C:Addr)(vs:List V)(H:Hp)(Q:VK)(E:XK):Prop
 |mk(p dx sl bl:Addr)(mv bv:List V)(y:V)(_:vs=[.ref p,y])(_:fh C H p dx sl bl mv bv)(_:mv.length<=500)(_:∀(bl':Addr)(J:Hp),H bl'=none->fh C J p dx sl bl' (mv++[y]) []->(∀ b o,H b=some o->b≠p->b≠sl->J b=some o)->Q .non J)
theorem lw(T:Txt P w K mg t):Fm P w mg base T.q41 1 (F8 t.za):=by
 refine T.q41.F.fq (N:=["self"]) eM ?_;rintro nd _ _ _ _ _ _ _ _ hr ⟨p,dx,sl,bl,mv,bv,y,rfl,U,k⟩;refine⟨_,(au (aC (cy bh (bC (O 0) rfl) (jr gR ak)))),?_⟩;exact⟨_,Z,p,t.za,dx,_,_,Z,U.ob,T.ze,T.zB,sZ _ _,1,Z,sl,_,_,y,Z,Z,b5.of U.st,ir mv y,k⟩
theorem Gk(T:Txt P w K mg t):Fm P w mg base T.q43 1 (DD t.za):=by
 refine T.q43.F.fq (N:=["self"]) eM ?_;rintro nd _ _ _ _ _ _ _ _ hr ⟨p,dx,sl,bl,mv,bv,rfl,U,k⟩;refine⟨_,(au (aC (aF cV (aZ aX T.zd Bt.len (aa (bC (O 0) rfl) aj)) ak))),?_⟩;exact⟨_,Z,p,t.za,dx,_,_,Z,U.ob,T.ze,T.zB,sZ _ _,sl,mv,Z,.inl (b5.of U.st),_,_,Z,Z,k⟩
theorem CZ(T:Txt P w K mg t):Fm P w mg base T.q44 1 (BE t.za):=by
 refine T.q44.F.fq (N:=["self"]) eM ?_;rintro nd _ _ _ _ _ _ _ _ hr ⟨p,dx,sl,bl,mv,bv,rfl,U,k⟩;refine⟨_,(au (aC (aZ aX T.zd Bt.len (aa (bC (O 0) rfl) aj)))),?_⟩;exact⟨_,Z,p,t.za,dx,_,_,Z,U.ob,T.ze,T.zE,CW _ _,bl,bv,Z,.inl (b5.of U.tb),k⟩
theorem lN(T:Txt P w K mg t):Fm P w mg base T.q34 1 (xa t.za):=by
 refine T.q34.F.fq (N:=["self","behind"]) eM ?_;rintro nd _ _ _ _ H _ _ _ hr ⟨p,dx,sl,bl,mv,bv,y,rfl,U,h500,k⟩
 refine⟨_,(aq (bw (b8 PySem.F.plainAttrs_list PySem.F.slot_list_append PySem.F.type_list_append cD (bC (O 0) rfl) (aa (O 1) aj)))
   (au (iM (O 0) (bz aj) rfl))),?_⟩
 have tP:p≠sl:=aY U.ob U.st;refine⟨_,Z,p,t.za,dx,_,_,Z,U.ob,T.ze,T.zB,sZ _ _,.inl ⟨Z,_,b5.of U.st⟩,_,Z,sl,_,_,Z,Z,U.st,cM G,?_⟩;refine⟨lk obz,fun bl' uu=>?_⟩;have Xr:bl'≠sl:=fun z=>by subst z;rw[ao]at uu;cases uu
 have EF:H bl'=none:=by rw[aA Xr]at uu;exact uu
 have E4:p≠bl':=aD U.ob EF;refine⟨_,Z,p,t.za,dx,_,Z,by rw[aA E4,aA tP];exact U.ob,T.ze,T.zE,(by show 2<1000;decide),?_⟩;rw[Qy];refine k bl' _ EF ⟨ao,aS Xr,?_,?_⟩ fun b o e h1 h2=>?_
 .rw[aA (aS tP),aA (aS Xr),ao]
 .rw[aA (aS E4),ao]
 rw[aA h1,aA (aD e EF),aA h2];exact e
theorem fh.mono(s:bb H J){p:Addr}(U:fh C H p dx sl bl mv bv):fh C J p dx sl bl mv bv:=⟨s _ _ U.ob,U.ne,s _ _ U.st,s _ _ U.tb⟩
def jR(p sl:Addr)(H J:Hp):Prop:=∀ b o,H b=some o->b≠p->b≠sl->J b=some o
inductive F6(t:l9)(vs:List V)(H:Hp)(Q:VK)(E:XK):Prop
 |mk(p dx sl bl:Addr)(mv bv:List V)(a np r:Addr)(rs:List Int)(v:V)(ns:List Str)(tr:Tr)(firm:Int)(_:vs=[.ref p,v,.int firm])(_:fh t.za H p dx sl bl (mv++[.ref a]) bv)(_:mv.length<=400)(_:cq H a np r rs)(_:Fits H np v ns tr)(_:((∀ x∈tr.names,x∈ns)->match aU (sel rs (aV ns tr)),aU (sel rs (aQ ns tr))with|some _,none=>∀ J,bb H J->E (.ref t.zj) none J|_,_=>∀(b q bl':Addr)(J:Hp),H bl'=none->jR p sl H J->fh t.za J p dx sl bl' (mv++[.ref a]++[.ref b]) []->cq J b np q (iV ns tr rs firm)->Q .non J))(_:((¬ ∀ x∈tr.names,x∈ns)->∀ J,bb H J->E (.ref t.zh) none J))
inductive F'(t:l9)(vs:List V)(H:Hp)(Q:VK)(E:XK):Prop
 |mk(p dx sl bl:Addr)(mv bv:List V)(a np r:Addr)(rs:List Int)(v:V)(ns:List Str)(tr:Tr)(_:vs=[.ref p,v])(_:fh t.za H p dx sl bl (mv++[.ref a]) bv)(_:mv.length<=400)(_:cq H a np r rs)(_:gN ns rs)(_:Fits H np v ns tr)(_:((∀ x∈tr.names,x∈ns)->match aU (sel rs (aV ns tr))with|none=>∀ J,bb H J->E (.ref t.zi) none J|some _=>∀(b q bl':Addr)(J:Hp),H bl'=none->jR p sl H J->fh t.za J p dx sl bl' (mv++[.ref a]++[.ref b]) []->cq J b np q (jy ns tr rs)->Q .non J))(_:((¬ ∀ x∈tr.names,x∈ns)->∀ J,bb H J->E (.ref t.zh) none J))
theorem lO{p:Addr}(U:fh C H p dx sl bl mv bv)(k:jR p sl H J){q:Addr}(h:cq H b np q rs):cq J b np q rs :=
 ⟨k _ _ h.1 (aY h.1 U.ob) (aY h.1 U.st),k _ _ h.2.1 (aY h.2.1 U.ob) (aY h.2.1 U.st),h.2.2⟩
theorem JK(T:Txt P w K mg t):Fm P w mg base T.q35 122 (F6 t):=by
 refine T.q35.F.fq (N:=["self","tree","firm"]) eM ?_;rintro nd _ _ _ _ H _ Q _ hr ⟨p,dx,sl,bl,mv,bv,a,np,r,rs,v,ns,tr,firm,rfl,U,l_,hm,fit,k,kn⟩;refine⟨_,(au (bw (E2 (O 0) T.ze T.q34 (lN T) hr aH (aa (eK T.q30 (Nt T) hr bH (aa (gF (O 0) T.ze T.q41 (lw T) hr aH) (aa (O 1) (aa (O 2) aj)))) aj)))),?_⟩
 have go:∀(b q:Addr)(H1:Hp),bb H H1->cq H1 b np q (iV ns tr rs firm)->(∀(b q bl':Addr)(J:Hp),H bl'=none->jR p sl H J->fh t.za J p dx sl bl' (mv++[.ref a]++[.ref b]) []->cq J b np q (iV ns tr rs firm)->Q .non J) ->
   xa t.za [.ref p,.ref b] H1 (fun _ J=>Q .non J) E0:=fun b q H1 s1 hm1 k=>⟨p,dx,sl,bl,mv++[.ref a],bv,.ref b,rfl,U.mono s1,by rw[af];show mv.length+1<=500;exact G,fun bl' H2 EF U2 kp=>k b q bl' H2 (s1.free EF) (fun c o e h1 h2=>kp c o (s1 _ _ e) h1 h2) U2 (lO (U.mono s1) kp hm1)⟩
 refine⟨_,Z,p,dx,_,Z,U.ob,eQ _ _ dk dk,_,Z,p,dx,_,Z,U.ob,eQ _ _ dk dk,p,dx,sl,bl,mv,bv,.ref a,Z,U,_,Z,_,Z,a,np,r,rs,v,ns,tr,firm,Z,hm,fit,fun hall=>?_,kn⟩;have k:=k hall;cases hb:aU (sel rs (aV ns tr))with
 | none =>
  rw[hb]at k;exact fun b q H1 s1 hm1=>go b q H1 s1 hm1 k
 | some x =>
  cases hk:aU (sel rs (aQ ns tr))with
  | none =>
   rw[hb,hk]at k;exact k
  | some y =>
   rw[hb,hk]at k;exact fun b q H1 s1 hm1=>go b q H1 s1 hm1 k
theorem JL(T:Txt P w K mg t):Fm P w mg base T.q36 122 (F' t):=by
 refine T.q36.F.fq (N:=["self","tree"]) eM ?_;rintro nd _ _ _ _ H vs Q E hr ⟨p,dx,sl,bl,mv,bv,a,np,r,rs,v,ns,tr,rfl,U,l_,hm,hM,fit,k,kn⟩;refine⟨_,(au (bw (E2 (O 0) T.ze T.q34 (lN T) hr aH (aa (eK T.q29 (Nr T) hr bH (aa (gF (O 0) T.ze T.q41 (lw T) hr aH) (aa (O 1) aj))) aj)))),?_⟩;refine⟨_,Z,p,dx,_,Z,U.ob,eQ _ _ dk dk,_,Z,p,dx,_,Z,U.ob,eQ _ _ dk dk,p,dx,sl,bl,mv,bv,.ref a,Z,U,_,Z,a,np,r,rs,v,ns,tr,Z,hm,hM,fit,fun hall=>?_,kn⟩;have k:=k hall;cases hb:aU (sel rs (aV ns tr))with
 | none =>
  rw[hb]at k;exact k
 | some x =>
  rw[hb]at k;exact fun b q H1 s1 hm1=>⟨p,dx,sl,bl,mv++[.ref a],bv,.ref b,rfl,U.mono s1,by rw[af];show mv.length+1<=500;exact G,fun bl' H2 EF U2 kp=>k b q bl' H2 (s1.free EF) (fun c o e h1 h2=>kp c o (s1 _ _ e) h1 h2) U2 (lO (U.mono s1) kp hm1)⟩
inductive L7(vs:List V)(H:Hp)(Q:VK)(E:XK):Prop
 |mk(p:Addr)(ns:List Str)(_:vs=[.ref p])(_:H p=some (.tup (ns.map V.str)))(_:1<=ns.length)(_:ns.length<=8)(_:∀(a r:Addr)(J:Hp),bb H J->J r=some (.tup ((List.replicate (2^ns.length) (0:Int)).map V.int))->J a=some (.tup [.ref p,.ref r])->Q (.ref a) J)
inductive F9(C:Addr)(vs:List V)(H:Hp)(Q:VK)(E:XK):Prop
 |mk(p dx np:Addr)(ns:List Str)(_:vs=[.ref p,.ref np])(_:H p=some (.ins C dx []))(_:H np=some (.tup (ns.map V.str)))(_:1<=ns.length)(_:ns.length<=8)(_:∀(sl bl m r:Addr)(J:Hp),H sl=none->H bl=none->fh C J p dx sl bl [.ref m] []->cq J m np r (List.replicate (2^ns.length) (0:Int))->(∀ b o,H b=some o->b≠p->J b=some o)->Q .non J)
theorem Nu(T:Txt P w K mg t):FM P w base T.q17 1 L7:=by
 refine T.q17.F.fq (N:=["names"]) eM ?_;rintro nd _ _ _ _ _ _ _ _ hr ⟨p,ns,rfl,hp,h1,h8,k⟩;refine⟨_,(au (aC (bj (aa (O 0) (aa (aF M6 (bj (aa ak aj)) (aF gD ak (aZ aX T.zd Bt.len (aa (O 0) aj)))) aj))))),?_⟩;have sN:2^ns.length<=256:=b3 (n:=2) b9 h8;have h2:2<=2^ns.length:=b3 (n:=2) (i:=1) b9 h1;have e1:(1:Int)*2^(((ns.map V.str).length:Nat):Int).toNat=((2^ns.length:Nat):Int):=by rw[de,bE];simp
 have er:(List.replicate (2^ns.length) [V.int 0]).flatten=(List.replicate (2^ns.length) (0:Int)).map V.int:=by simp
 refine⟨_,Z,lk obz,fun q hq=>?_⟩;have u1:=aB (o:=.tup [.int 0]) hq;refine⟨_,Z,p,_,Z,.inr (SqT.of (u1 _ _ hp)),_,_,Z,Z,⟨by rw[de];exact G,by rw[de];exact G,b9⟩,?_⟩
 try dsimp -proj -iota only
 rw[e1];refine⟨q,_,[.int 0],Z,Z,SqT.of ao,da _ _,G,G,?_,fun q2 hq2=>?_⟩
 .rw[bE]
  exact lk (by simp;exact G)
 rw[bE,er];have u2:=aB (o:=.tup ((List.replicate (2^ns.length) (0:Int)).map V.int)) hq2;refine⟨lk obz,fun a ha=>?_⟩;have u3:=aB (o:=.tup [.ref p,.ref q2]) ha;exact k a q2 _ ((u1.trans u2).trans u3) (u3 _ _ ao) ao
theorem JM(T:Txt P w K mg t):Fm P w mg base T.q33 2 (F9 t.za):=by
 refine T.q33.F.fq (N:=["self","names"]) eM ?_;rintro nd _ _ _ _ H vs Q E hr ⟨p,dx,np,ns,rfl,hp,hn,h1,h8,k⟩
 refine⟨_,(aq (iM (O 0) (bz (aa (eK T.q17 (Nu T) hr aH (aa (O 1) aj)) aj)) rfl)
   (au (iM (O 0) (bz aj) rfl))),?_⟩
 refine⟨_,Z,np,ns,Z,hn,h1,h8,fun m r H1 s1 E8 hm1=>⟨lk obz,fun sl hsl=>?_⟩⟩;have u1:=aB (o:=.lst [.ref m]) hsl;have hp1:=s1 _ _ hp;have tP:p≠sl:=aD hp1 hsl;refine⟨_,Z,p,t.za,dx,_,Z,u1 _ _ hp1,T.ze,T.zB,(by show 0<1000;decide),?_⟩;refine⟨lk obz,fun bl uu=>?_⟩;have E4:p≠bl:=aD ao uu;have NM:(upd H1 sl (.lst [.ref m])) bl=none:=by rw[aA (aS E4)]at uu;exact uu
 have Wh:sl≠bl:=aD ao NM;have II:H1 bl=none:=by rw[aA (aS Wh)]at NM;exact NM
 refine⟨_,Z,p,t.za,dx,_,Z,by rw[aA E4];exact ao,T.ze,T.zE,(by show 1<1000;decide),?_⟩
 have keep:∀ b o,H1 b=some o->b≠p->(upd (upd (upd (upd H1 sl (.lst [.ref m])) p (.ins t.za dx (bf "standing" (.ref sl) []))) bl (.lst [])) p (.ins t.za dx (bf "taken_back" (.ref bl) (bf "standing" (.ref sl) [])))) b=some o:=fun b o e hb=>by
  rw[aA hb,aA (aD e II),aA hb,aA (aD e hsl)];exact e
 refine k sl bl m r _ (s1.free hsl) (s1.free II) ⟨ao,Wh,?_,?_⟩ ⟨keep _ _ hm1 (aY hm1 hp1),keep _ _ E8 (aY E8 hp1),?_⟩ fun b o e hb=>keep b o (s1 _ _ e) hb
 .rw[aA (aS tP),aA Wh,aA (aS tP),ao]
 .rw[aA (aS E4),ao]
 rw[c8];exact b3 (n:=2) b9 h8
def Dc(sl bl:Addr)(H J:Hp):Prop:=∀ b o,H b=some o->b≠sl->b≠bl->J b=some o
inductive F_(t:l9)(vs:List V)(H:Hp)(Q:VK)(E:XK):Prop
 |mk(p dx sl bl:Addr)(mv bv:List V)(y:V)(_:vs=[.ref p])(_:fh t.za H p dx sl bl (mv++[y]) bv)(_:bv.length<=400)(_:(mv=[]->∀ J,bb H J->E (.ref t.zG) none J))(_:(mv≠[]->∀ J,Dc sl bl H J->fh t.za J p dx sl bl mv (bv++[y])->Q .non J))
inductive DE(t:l9)(vs:List V)(H:Hp)(Q:VK)(E:XK):Prop
 |mk(p dx sl bl:Addr)(mv bv:List V)(_:vs=[.ref p])(_:fh t.za H p dx sl bl mv bv)(_:mv.length<=400)(_:(bv=[]->∀ J,bb H J->E (.ref t.zF) none J))(_:(∀ bv' y,bv=bv'++[y]->∀ J,Dc sl bl H J->fh t.za J p dx sl bl (mv++[y]) bv'->Q .non J))
theorem JN(T:Txt P w K mg t):Fm P w mg base T.q39 2 (F_ t):=by
 refine T.q39.F.fq (N:=["self"]) eM ?_;rintro nd _ _ _ _ H _ _ _ hr ⟨p,dx,sl,bl,mv,bv,y,rfl,U,l_,ke,k⟩
 refine⟨_,(aq (aO (aG aW (gF (O 0) T.ze T.q43 (Gk T) hr aH) ak (aK _))
    (au (c7 dU rfl T.zZ T.zaj (aa az aj)))
    aM)
   (au (bw (b8 PySem.F.plainAttrs_list PySem.F.slot_list_append PySem.F.type_list_append cD (bC (O 0) rfl) (aa (gW PySem.F.plainAttrs_list PySem.F.slot_list_pop PySem.F.type_list_pop iQ (bC (O 0) rfl)) aj))))),?_⟩
 have el:(mv++[y]).length=mv.length+1:=by rw[af];rfl
 refine⟨_,Z,p,dx,_,Z,U.ob,eQ _ _ dk dk,p,dx,sl,bl,_,bv,Z,U,Z,_,Z,aN (fun c=>?_) (fun c=>?_)⟩
 .have c:=V.int.inj (eT c)
  rw[el]at c;exact⟨v_,ke (kz.mp G) H (bb.refl _)⟩
 have hne:mv≠[]:=fun z=>c (cK (by rw[el,z];rfl))
 have tP:p≠sl:=aY U.ob U.st;have E4:p≠bl:=aY U.ob U.tb;refine⟨_,Z,p,t.za,dx,_,_,Z,U.ob,T.ze,T.zE,CW _ _,.inl ⟨Z,_,b5.of U.tb⟩,_,Z,p,t.za,dx,_,_,Z,U.ob,T.ze,T.zB,sZ _ _,.inl ⟨Z,_,b5.of U.st⟩,sl,_,y,Z,Z,U.st,oz,?_⟩;rw[d_];refine⟨bl,bv,y,Z,Z,by rw[aA (aS U.ne)];exact U.tb,cM G,?_⟩;refine k hne _ (fun b o e h1 h2=>by rw[aA h2,aA h1];exact e) ⟨by rw[aA E4,aA tP];exact U.ob,U.ne,by rw[aA U.ne,ao],ao⟩
theorem Gm(T:Txt P w K mg t):Fm P w mg base T.q40 2 (DE t):=by
 refine T.q40.F.fq (N:=["self"]) eM ?_;rintro nd _ _ _ _ H vs Q E hr ⟨p,dx,sl,bl,mv,bv,rfl,U,l_,ke,k⟩
 refine⟨_,(aq (aO (aG aW (gF (O 0) T.ze T.q44 (CZ T) hr aH) ak (aK _))
    (au (c7 dU rfl T.zY T.zai (aa az aj)))
    aM)
   (au (bw (b8 PySem.F.plainAttrs_list PySem.F.slot_list_append PySem.F.type_list_append cD (bC (O 0) rfl) (aa (gW PySem.F.plainAttrs_list PySem.F.slot_list_pop PySem.F.type_list_pop iQ (bC (O 0) rfl)) aj))))),?_⟩
 refine⟨_,Z,p,dx,_,Z,U.ob,eQ _ _ dk dk,p,dx,sl,bl,mv,bv,Z,U,Z,_,Z,aN (fun c=>?_) (fun c=>?_)⟩
 .have c:=V.int.inj (eT c)
  exact⟨v_,ke (kz.mp G) H (bb.refl _)⟩
 have hne:bv≠[]:=fun z=>c (cK (by rw[z];rfl))
 obtain⟨bv',y,rfl⟩:∃ bv' y,bv=bv'++[y]:=⟨_,_,(eJ hne).symm⟩
 have tP:p≠sl:=aY U.ob U.st;have E4:p≠bl:=aY U.ob U.tb;refine⟨_,Z,p,t.za,dx,_,_,Z,U.ob,T.ze,T.zB,sZ _ _,.inl ⟨Z,_,b5.of U.st⟩,_,Z,p,t.za,dx,_,_,Z,U.ob,T.ze,T.zE,CW _ _,.inl ⟨Z,_,b5.of U.tb⟩,bl,_,y,Z,Z,U.tb,oz,?_⟩;rw[d_];refine⟨sl,mv,y,Z,Z,by rw[aA U.ne];exact U.st,cM G,?_⟩;refine k bv' y rfl _ (fun b o e h1 h2=>by rw[aA h1,aA h2];exact e) ⟨by rw[aA tP,aA E4];exact U.ob,U.ne,ao,by rw[aA (aS U.ne),ao]⟩
inductive F3(vs:List V)(H:Hp)(Q:VK)(E:XK):Prop
 |mk(c k:Int)(_:vs=[.int c,.int k])(_:0<=k)(_:k<2^20)(_:∀ m:Int,0<=m->Q (.int m) H)
theorem JP(T:Txt P w K mg t):FM P w base T.q93 1 F3:=by
 refine T.q93.F.fq (N:=["_law_cell","_law_k"]) eM ?_;rintro nd _ _ _ _ H vs Q E hr ⟨c,k,rfl,h0,h1,q⟩;refine⟨_,(au (aC (aF cj (aF gC (aF gC (aF cO (aF cj (O 0) ak) ak) (aF cO (aF gC (O 1) (O 1)) ak)) ak) ak))),?_⟩;have m1:EL k k:=.inl ⟨G,G⟩;have b0:=AU c (show(2305843009213693951:Int)≠0 by decide);have b1:=BM c (show(0:Int)<2305843009213693951 by decide);have m2:EL (c%2305843009213693951+1) (k*k+48271):=.inl ⟨G,G⟩;refine⟨_,Z,_,_,Z,Z,(by show(0:Int)<2305843009213693951;decide),_,_,Z,Z,_,Z,_,Z,_,_,Z,Z,m1,_,_,Z,Z,_,_,Z,Z,m2,_,_,Z,Z,.inr ⟨b9,b9⟩,_,_,Z,Z,(by show(0:Int)<2147483399;decide),q _ (AU _ b9)⟩
inductive VZ(n:Nat)(vs:List V)(H:Hp)(Q:VK)(E:XK):Prop
 |mk(p:Addr)(ns:List Str)(c d:Int)(_:vs=[.ref p,.int c,.int d])(_:H p=some (.tup (ns.map V.str)))(_:1<=ns.length)(_:ns.length<=8)(_:0<=d)(_:d<n)(_:∀(v:V)(tr:Tr)(J:Hp),bb H J->eD J v tr->tr.depth<=n->tr.size+1<=2^n->(∀ x∈tr.names,x∈ns)->Q v J)
theorem Md:ck ["_law_names","_law_cell","_law_deep","_law_sort","_law_rest","_law_one","_law_verb"] ["_law_names","_law_cell","_law_deep"] (aP Yu):=eM
theorem ww(T:Txt P w K mg t):∀ n:Nat,FO P w K mg base (n+1) t.a95 t.d95 ["_law_names","_law_cell","_law_deep"] (VZ n)
 | 0=>by
  refine T.q95.F.xl Md (fun vs H Q E h=>by obtain⟨p,ns,c,d,rfl,_⟩:=h;rfl) (fun ja A outer s H vs Q E hr h=>?_);obtain⟨p,ns,c,d,rfl,_,_,_,h0,h1,_⟩:=h;exact G
 | n + 1 => by
  refine T.q95.F.xl Md (fun vs H Q E h=>by obtain⟨p,ns,c,d,rfl,_⟩:=h;rfl) (fun ja A outer s H vs Q E hr h=>?_);obtain⟨p,ns,c,d,rfl,hp,h1,h8,hd0,hdn,k⟩:=h;have nd:=Md.nd;have hpow:1<=2^n:=hJ;have hpow2:2^(n+1)=2^n+2^n:=by rw[g_];exact G
  refine⟨_,(aq (fR 3 nd (aF cj (O 1) ak))
   (aq (fR 4 nd (aF fP (O 1) ak))
   (aq (aO (PW.pt (dN (aG aW (O 2) ak (aK _)) (eZ (aG pP (O 3) ak (aK _)))))
    (aq (aO (aG aW (aF cj (O 4) ak) ak (aK _))
     (au (aC (bj (aa az aj))))
     aM)
    (aq (aO (aG aW (aF cj (O 4) ak) ak (aK _))
     (au (aC (bj (aa az aj))))
     aM)
    (au (aC (bj (aa az (aa (cy aJ (O 0) (aF cj (aF fP (O 4) ak) (aZ aX T.zd Bt.len (aa (O 0) aj)))) aj)))))))
    aM)
   (aq (fR 5 nd (eK T.q95 (ww T n) hr aH (aa (O 0) (aa (aF cj (aF gC (O 4) ak) ak) (aa (aF cV (O 2) ak) aj)))))
   (aq (aO (aG pP (O 3) ak (aK _))
    (au (aC (bj (aa az (aa (O 5) aj)))))
    aM)
   (aq (fR 6 nd (cy bh (bz (aa az (aa az (aa az (aa az (aa az (aa az aj))))))) (aF cV (O 3) ak)))
   (au (aC (bj (aa (O 6) (aa (O 5) (aa (eK T.q95 (ww T n) hr aH (aa (O 0) (aa (aF cj (aF gC (O 4) ak) ak) (aa (aF cV (O 2) ak) aj)))) aj)))))))))))),?_⟩
  refine⟨_,Z,_,_,Z,Z,(by show(0:Int)<11;decide),?_⟩;refine⟨_,Z,_,_,Z,Z,⟨b9,b9⟩,?_⟩
  try dsimp -proj -iota only
  have hw0:=AU c (show(11:Int)≠0 by decide);have hw9:=BM c (show(0:Int)<11 by decide);generalize c%11=way at hw0 hw9 ⊢;generalize c/11=rest;refine⟨_,Z,Z,_,Z,aN (fun c1=>bU ?A1) (fun c1=>⟨_,Z,_,_,Z,Z,_,Z,aN (fun c2=>?A2) (fun c2=>?B)⟩)⟩
  case A1|A2 =>
   refine⟨_,Z,_,_,Z,Z,(by show(0:Int)<12;decide),Z,_,Z,aN (fun _=>?_) (fun _=>⟨_,Z,_,_,Z,Z,(by show(0:Int)<12;decide),Z,_,Z,aN (fun _=>?_) (fun _=>?_)⟩)⟩
   .refine⟨lk obz,fun p1 hp1=>?_⟩
    exact k (.ref p1) .yes _ (aB hp1) (.yes ao) (by show 1<=n+1;exact G) (by show 1+1<=2^(n+1);exact G) fun x hx=>by cases hx
   .refine⟨lk obz,fun p1 hp1=>?_⟩
    exact k (.ref p1) .no _ (aB hp1) (.no ao) (by show 1<=n+1;exact G) (by show 1+1<=2^(n+1);exact G) fun x hx=>by cases hx
   have el:((ns.map V.str).length:Int)=ns.length:=by rw[de]
   have E9:=AU (rest/12) (by omega:((ns.length:Int))≠0);have hq1:=BM (rest/12) (by omega:0<(ns.length:Int));have f':(rest/12%(ns.length:Int)).toNat<ns.length:=G
   refine⟨_,Z,_,Z,_,_,Z,Z,⟨b9,b9⟩,_,Z,p,_,Z,.inr (SqT.of hp),_,_,Z,Z,(by rw[el];exact G),p,_,_,V.str ns[(rest/12%(ns.length:Int)).toNat],Z,Z,SqT.of hp,qU (by rw[el];exact E9) ?_,lk obz,fun q hq=>?_⟩
   .rw[el,kg,List.getElem?_eq_getElem f']
    rfl
   exact k (.ref q) (.nm ns[(rest/12%(ns.length:Int)).toNat]) _ (aB hq) (.nm ao) (by show 1<=n+1;exact G) (by show 1+1<=2^(n+1);exact G) fun x hx=>by
    have hx:x∈[ns[(rest/12%(ns.length:Int)).toNat]]:=hx;rw[aI.mp hx];exact fg f'
  case B =>
   have Xn:1<=d:=by
    have:¬d=0:=fun z=>c1 (cK (b4 V.int z))
    exact G
   have hw2:3<=way:=by
    have:¬way<3:=fun z=>c2 (cK z)
    exact G
   refine⟨_,Z,_,Z,_,_,Z,Z,.inr ⟨b9,b9⟩,_,_,Z,Z,(by show(0:Int)<2147483647;decide),_,Z,_,_,Z,Z,p,ns,_,d-1,Z,hp,h1,h8,G,G,fun v1 t1 H1 s1 ZF hdp1 hsz1 CO=>?_⟩;refine⟨_,Z,_,_,Z,Z,_,Z,aN (fun _=>?_) (fun c3=>?_)⟩
   .refine⟨_,Z,lk obz,fun q hq=>?_⟩
    exact k (.ref q) (.not t1) _ (s1.trans (aB hq)) (.not ao (ZF.mono (aB hq).tups)) (by show t1.depth+1<=n+1;exact G) (by show t1.size+1+1<=2^(n+1);exact G) CO
   have UT:5<=way:=by
    have:¬way<5:=fun z=>c3 (cK z)
    exact G
   refine⟨lk obz,fun q1 hq1=>?_⟩;have s3:=aB (o:=.lst [.str "and",.str "or",.str "then",.str "same",.str "and",.str "or"]) hq1
   obtain⟨o,ho⟩:∃ o:Op,tw [V.str "and",V.str "or",V.str "then",V.str "same",V.str "and",V.str "or"] (way-5)=some (.str o.str):=by
    have hw:way-5=0\/way-5=1\/way-5=2\/way-5=3\/way-5=4\/way-5=5:=G
    rcases hw with hw|hw|hw|hw|hw|hw<;>rw[hw]
    .exact⟨.and,Z⟩
    .exact⟨.or,Z⟩
    .exact⟨.thn,Z⟩
    .exact⟨.same,Z⟩
    .exact⟨.and,Z⟩
    exact⟨.or,Z⟩
   refine⟨_,Z,_,_,Z,Z,q1,_,_,.str o.str,Z,Z,b5.of ao,ho,?_⟩;have qA:=s1.trans s3;refine⟨_,Z,_,Z,_,Z,_,Z,_,_,Z,Z,.inr ⟨b9,b9⟩,_,_,Z,Z,(by show(0:Int)<2147483629;decide),_,Z,_,_,Z,Z,p,ns,_,d-1,Z,qA _ _ hp,h1,h8,G,G,fun v2 t2 H2 s2 ZE hdp2 hsz2 Cf=>⟨lk obz,fun q2 hq2=>?_⟩⟩;have s4:=aB (o:=.tup [.str o.str,v1,v2]) hq2;refine k (.ref q2) (.bin o t1 t2) _ ((qA.trans s2).trans s4) (.bin (o:=o) ao (ZF.mono ((s3.trans s2).trans s4).tups) (ZE.mono s4.tups)) (by show max t1.depth t2.depth+1<=n+1;exact G) (by show t1.size+t2.size+1+1<=2^(n+1);exact G) fun x hx=>?_
   rcases a_.mp hx with hx|hx
   .exact CO x hx
   exact Cf x hx
inductive DJ(vs:List V)(H:Hp)(Q:VK)(E:XK):Prop
 |mk(n k:Nat)(_:vs=[.int n,.int k])(_:k<n)(_:n<=8)(_:Q (.int (dZ n k:Nat)) H)
theorem E1(k:Nat):(1:Int)*2^((k:Nat):Int).toNat=((2^k:Nat):Int):=by rw[bE];simp
theorem wy{k:Nat}(h:k<=8):2^k<=256:=b3 (n:=2) b9 h
theorem EZ{k:Nat}(h:k<=8):(0:Int)<=((2^k:Nat):Int)/\((2^k:Nat):Int)<=1000:=⟨hW _,AF.mpr (g9 (wy h) b9)⟩
theorem mQ{i j:Int}(h0:0<=j)(h1:j<=1000)(hi:i.natAbs<2^256*2^44):ug i j:=⟨h0,G,bo hi (by rw[<- Nat.pow_add];exact b3 b9 b9)⟩
theorem oZ:(1:Int).natAbs<2^256*2^44:=by decide
theorem De{m:Nat}(h:m<=256):(((2^m-1:Nat):Int)).natAbs<2^256*2^44:=by
 rw[Int.natAbs_natCast];have h1:2^m<=2^256:=b3 b9 h;have h2:1<=2^m:=hJ;exact G
theorem UG(m:Nat):(1:Int)*2^((m:Nat):Int).toNat-1=((2^m-1:Nat):Int):=by
 rw[E1];have:1<=2^m:=hJ;exact G
theorem Gn{k:Nat}(h:j<=8):(((dZ j k:Nat):Int)).natAbs<2^256*2^44:=by
 rw[Int.natAbs_natCast];have h1:dZ j k<2^(2^j):=pY _ _;have h2:2^(2^j)<=2^256:=b3 b9 (wy h);exact G
theorem Gp(T:Txt P w K mg t):FM P w base T.q96 1 DJ:=by
 refine T.q96.F.fq (N:=["_law_many","_law_place","_law_told","_law_size"]) eM ?_;rintro nd _ _ _ _ H vs Q E hr ⟨n,kk,rfl,hk,hn,k⟩
 refine⟨_,(aq (fR 2 nd (aF jj (aF cV (aF jj ak (aF jj ak (O 1))) ak) (aF jj ak (O 1))))
   (aq (fR 3 nd (aF jj ak (O 1)))
   (aq (j9 kR (aG pP (O 3) (aF jj ak (O 0)) (aK _))
    (aq (fR 2 nd (aF mZ (O 2) (aF jj (O 2) (O 3))))
    (au (fR 3 nd (aF gC ak (O 3))))))
   (au (aC (O 2)))))),?_⟩
 have hk8:=wy (show kk<=8 by omega);have cA:ug 1 ((kk:Nat):Int):=mQ G G oZ;have cA2:ug 2 ((kk:Nat):Int):=mQ G G b9
 have cB:ug 1 ((1:Int)*2^((kk:Nat):Int).toNat):=by
  rw[E1];exact mQ (EZ G).1 (EZ G).2 oZ
 have cC:ug ((1:Int)*2^((1:Int)*2^((kk:Nat):Int).toNat).toNat-1) ((1:Int)*2^((kk:Nat):Int).toNat):=by
  rw[E1,UG];exact mQ (EZ G).1 (EZ G).2 (De hk8)
 refine⟨_,Z,_,_,Z,Z,cA,_,_,Z,Z,cB,_,_,Z,Z,_,Z,_,_,Z,Z,cA,_,_,Z,Z,cC,?_⟩
 have e0:((1:Int)*2^((1:Int)*2^((kk:Nat):Int).toNat).toNat-1)*2^((1:Int)*2^((kk:Nat):Int).toNat).toNat=((dZ (kk+1) kk:Nat):Int):=by
  rw[E1,UG,bE,<- Gb,me];simp
 try dsimp -proj -iota only
 rw[e0];refine⟨_,Z,_,_,Z,Z,cA2,?_⟩
 have e1:(2:Int)*2^((kk:Nat):Int).toNat=((2^(kk+1):Nat):Int):=by
  rw[bE,g_,mx,me];simp
 try dsimp -proj -iota only
 rw[e1];refine⟨fun m M H2=>∃ j:Nat,M=[some (.int n),some (.int kk),some (.int (dZ j kk:Nat)),some (.int (2^j:Nat))]/\H2=H/\kk<j/\j<=n/\m=n-j,⟨_,kk+1,Z,Z,G,G,Z⟩,?_⟩;rintro m M H2 ⟨j,rfl,rfl,hj,hjn,rfl⟩;refine⟨_,Z,_,Z,_,_,Z,Z,mQ G G oZ,?_⟩
 try dsimp -proj -iota only
 rw[E1];refine⟨_,_,Z,Z,_,Z,aN (fun c=>?_) (fun c=>?_)⟩
 .have c:((2^j:Nat):Int)<((2^n:Nat):Int):=eT c
  have ZU:j<n:=by
   rcases Nat.lt_or_ge j n with h|h
   .exact h
   have:2^n<=2^j:=b3 b9 h;exact G
  have hj8:=wy (show j<=8 by omega);refine⟨fun σ' J=>∃ m',m'<n-j/\∃ j:Nat,σ'=[some (.int n),some (.int kk),some (.int (dZ j kk:Nat)),some (.int (2^j:Nat))]/\J=H2/\kk<j/\j<=n/\m'=n-j,fun _ _ h=>h,?_⟩;refine⟨_,Z,_,Z,_,Z,_,_,Z,Z,mQ (EZ G).1 (EZ G).2 (Gn G),?_⟩;have e2:((dZ j kk:Nat):Int)*2^((2^j:Nat):Int).toNat=((dZ j kk*2^(2^j):Nat):Int):=by rw[bE,me];simp
  try dsimp -proj -iota only
  rw[e2];refine⟨_,_,Z,Z,?_⟩
  try dsimp -proj -iota only
  rw[bor,Jt hj];refine⟨_,Z,_,_,Z,Z,.inl ⟨b9,b9⟩,?_⟩;have e3:(2:Int)*((2^j:Nat):Int)=((2^(j+1):Nat):Int):=by rw[g_];exact G
  try dsimp -proj -iota only
  rw[e3];exact⟨_,G,j+1,Z,Z,G,G,Z⟩
 have c:¬((2^j:Nat):Int)<((2^n:Nat):Int):=fun z=>c (cK z)
 have ZU:j=n:=by
  rcases Nat.lt_or_ge j n with h|h
  .have:2^j<2^n:=tx b9 h
   exact G
  exact G
 subst ZU;exact⟨_,Z,k⟩
inductive DC(d:Nat)(vs:List V)(H:Hp)(Q:VK)(E:XK):Prop
 |mk(p:Addr)(v:V)(ns:List Str)(tr:Tr)(_:vs=[.ref p,v])(_:H p=some (.tup (ns.map V.str)))(_:ns.length<=8)(_:eD H v tr)(_:tr.depth<=d)(_:(∀ x∈tr.names,x∈ns))(_:∀ J,bb H J->Q (.int (aQ ns tr:Nat)) J)
theorem Bk(x y:Str):mn (.str x) (.str y)=decide (x=y):=by
 show(x==y)=_
 by_cases z:x=y
 .simp[z]
 simp[z]
theorem vh(ns:List Str)(h:j<ns.length):(ns.map V.str).getD j .non=.str ns[j]:=by
 rw[List.getD,kg,List.getElem?_eq_getElem h]
 rfl
theorem Df{m:Nat}(h:m<ns.idxOf x)(hm:m<ns.length):¬ns[m]=x:=by
 have:=List.not_of_lt_findIdx (p:=fun y=>y==x) (xs:=ns) (i:=m) h;intro z;rw[z]at this;simp at this
theorem sj:ck ["_law_names","_law_tree","_law_every","_law_one","_law_other"] ["_law_names","_law_tree"] (aP Yt):=eM
theorem o9(T:Txt P w K mg t):∀ d:Nat,FO P w K mg base (d+2) t.a97 t.d97 ["_law_names","_law_tree"] (DC d)
 | 0=>by
  refine T.q97.F.xl sj (fun vs H Q E h=>by obtain⟨p,v,ns,tr,rfl,_⟩:=h;rfl) (fun ja A outer s H vs Q E hr h=>?_);obtain⟨p,v,ns,tr,rfl,hp,h8,ht,hd,k⟩:=h;have:=tr.ll;exact G
 | d + 1=>by
  refine T.q97.F.xl sj (fun vs H Q E h=>by obtain⟨p,v,ns,tr,rfl,_⟩:=h;rfl) (fun ja A outer s H vs Q E hr h=>?_);obtain⟨p,v,ns,tr,rfl,hp,h8,ht,hd,nK,k⟩:=h;obtain⟨a,rest,rfl,ha,IE,xy⟩:=ht.open;have nd:=sj.nd
  refine⟨_,(aq (fR 2 nd (aF cV (aF gD ak (aF gD ak (aZ aX T.zd Bt.len (aa (O 0) aj)))) ak))
   (aq (aO (aG aW (cy aJ (O 1) ak) az (aK _))
    (au (aC (eK T.q96 (Gp T) hr aH (aa (aZ aX T.zd Bt.len (aa (O 0) aj)) (aa (Qg PySem.F.slot_tuple_index PySem.F.type_tuple_index Ff (O 0) (aa (cy aJ (O 1) ak) aj)) aj)))))
    aM)
   (aq (aO (aG aW (cy aJ (O 1) ak) az (aK _))
    (au (aC (O 2)))
    aM)
   (aq (aO (aG aW (cy aJ (O 1) ak) az (aK _))
    (au (aC ak))
    aM)
   (aq (fR 3 nd (eK T.q97 (o9 T d) hr aH (aa (O 0) (aa (cy aJ (O 1) ak) aj))))
   (aq (aO (aG aW (cy aJ (O 1) ak) az (aK _))
    (au (aC (aF mH (O 2) (O 3))))
    aM)
   (aq (fR 4 nd (eK T.q97 (o9 T d) hr aH (aa (O 0) (aa (cy aJ (O 1) ak) aj))))
   (aq (aO (aG aW (cy aJ (O 1) ak) az (aK _))
    (au (aC (aF jB (O 3) (O 4))))
    aM)
   (aq (aO (aG aW (cy aJ (O 1) ak) az (aK _))
    (au (aC (aF mZ (O 3) (O 4))))
    aM)
   (aq (aO (aG aW (cy aJ (O 1) ak) az (aK _))
    (au (aC (aF mZ (aF mH (O 2) (O 3)) (O 4))))
    aM)
   (au (aC (aF mH (aF mH (O 2) (O 3)) (O 4)))))))))))))),?_⟩
  have el:(ns.map V.str).length=ns.length:=de _;have Wq:tw (V.str tr.tag::rest) 0=some (.str tr.tag):=bu (j:=0) rfl;have c1:oh 1 (((ns.map V.str).length:Nat):Int):=⟨G,by rw[el];exact G,b9⟩
  have c2:oh 1 ((1:Int)*2^(((ns.map V.str).length:Nat):Int).toNat):=by
   rw[el,E1];exact⟨(EZ h8).1,by have:=(EZ h8).2;exact G,b9⟩
  have ef:(1:Int)*2^((1:Int)*2^(((ns.map V.str).length:Nat):Int).toNat).toNat-1=((cP ns.length:Nat):Int):=by
   rw[el,E1,UG]
   rfl
  refine⟨_,Z,p,_,Z,.inr (SqT.of hp),_,_,Z,Z,c1,_,_,Z,Z,c2,_,_,Z,Z,?_⟩
  try dsimp -proj -iota only
  rw[ef];refine⟨_,Z,a,_,0,.str tr.tag,Z,Z,SqT.of ha,Wq,Z,_,Z,aN (fun c=>?N) (fun c1=>⟨_,Z,a,_,0,.str tr.tag,Z,Z,SqT.of ha,Wq,Z,_,Z,aN (fun c=>?aaa) (fun c2=>⟨_,Z,a,_,0,.str tr.tag,Z,Z,SqT.of ha,Wq,Z,_,Z,aN (fun c=>?aab) (fun c3=>?R)⟩)⟩)⟩
  case N =>
   obtain⟨x,rfl⟩:=Lw (eT c);have hx:x∈ns:=nK x qms;have hi:=pb.mpr hx;have hg:ns[ns.idxOf x]=x:=List.getElem_idxOf hi;refine⟨_,Z,p,_,Z,.inr (SqT.of hp),_,Z,p,_,Z,hp,_,Z,a,_,1,.str x,Z,Z,SqT.of (JF ht),Z,p,_,.str x,ns.idxOf x,Z,Z,SqT.of hp,Z,vd ns,by rw[el];exact hi,?_,fun m hm=>?_,ns.length,ns.idxOf x,?_,hi,h8,k H (bb.refl H)⟩
   .rw[vh ns hi,hg,Bk,cK rfl]
   .rw[vh ns G,Bk]
    exact gS (Df hm G)
   rw[el];rfl
  case aaa =>
   obtain rfl:=Gh (eT c);have k:=k H (bb.refl H);rw[Qm]at k;exact⟨_,Z,k⟩
  case aab =>
   obtain rfl:=Lx (eT c);have k:=k H (bb.refl H);rw[RB]at k;exact k
  case R =>
   cases tr with
   |nm x=>exact absurd (cK rfl) c1
   |yes=>exact absurd (cK rfl) c2
   |no=>exact absurd (cK rfl) c3
   | not u =>
    obtain⟨vu,Vg,WC⟩:=CV ht;have hd:u.depth+1<=d+1:=hd;refine⟨_,Z,_,Z,a,_,1,vu,Z,Z,SqT.of Vg,Z,p,vu,ns,u,Z,hp,h8,WC,G,nK,fun H1 s1=>?_⟩;refine⟨_,Z,a,_,0,.str "not",Z,Z,SqT.of (s1 _ _ Vg),Z,Z,_,Z,aN (fun c=>?_) (fun c=>absurd (cK rfl) c)⟩;refine⟨_,Z,_,Z,_,_,Z,Z,?_⟩;have k:=k H1 s1;rw[Qn,<- bxor]at k;exact k
   | bin o x y =>
    obtain⟨vx,vy,A_,WB,BO⟩:=CT ht;have hd:max x.depth y.depth+1<=d+1:=hd;have nn:¬(decide (V.str o.str=V.str ("not":Str))=true):=fun z=>(nA o).2.2.1 (V.str.inj (eT z))
    refine⟨_,Z,_,Z,a,_,1,vx,Z,Z,SqT.of A_,Z,p,vx,ns,x,Z,hp,h8,WB,G,fun z hz=>nK z (xi _ hz),fun H1 s1=>?_⟩;refine⟨_,Z,a,_,0,.str o.str,Z,Z,SqT.of (s1 _ _ A_),Z,Z,_,Z,aN (fun c=>absurd c nn) (fun _=>?_)⟩;refine⟨_,Z,_,Z,a,_,2,vy,Z,Z,SqT.of (s1 _ _ A_),Z,p,vy,ns,y,Z,s1 _ _ hp,h8,BO.mono s1.tups,G,fun z hz=>nK z (pd _ hz),fun H2 s2=>?_⟩;have m_:=s1.trans s2;have k:=k H2 m_;refine⟨_,Z,a,_,0,.str o.str,Z,Z,SqT.of (m_ _ _ A_),Z,Z,_,Z,aN (fun c=>?A) (fun c1=>⟨_,Z,a,_,0,.str o.str,Z,Z,SqT.of (m_ _ _ A_),Z,Z,_,Z,aN (fun c=>?aab) (fun c2=>⟨_,Z,a,_,0,.str o.str,Z,Z,SqT.of (m_ _ _ A_),Z,Z,_,Z,aN (fun c=>?T) (fun c3=>?S)⟩)⟩)⟩
    case A =>
     obtain rfl:o=.and:=p7 (o':=.and) (eT c);rw[Qo,<- band]at k;exact⟨_,Z,_,Z,_,_,Z,Z,k⟩
    case aab =>
     obtain rfl:o=.or:=p7 (o':=.or) (eT c);rw[RC,<- bor]at k;exact⟨_,Z,_,Z,_,_,Z,Z,k⟩
    case T =>
     obtain rfl:o=.thn:=p7 (o':=.thn) (eT c);rw[Qp,<- bor,<- bxor]at k;exact⟨_,Z,_,Z,_,_,Z,Z,_,Z,_,_,Z,Z,k⟩
    case S =>
     obtain rfl:o=.same:=by
      cases o with
      |and=>exact absurd (cK rfl) c1
      |or=>exact absurd (cK rfl) c2
      |thn=>exact absurd (cK rfl) c3
      |same=>rfl
     rw[Ni,<- bxor,<- bxor]at k;exact⟨_,Z,_,Z,_,_,Z,Z,_,Z,_,_,Z,Z,k⟩
inductive FC(vs:List V)(H:Hp)(Q:VK)(E:XK):Prop
 |mk(i:_)(_:vs=[.int i])(_:Q (.bl true) H)
theorem JQ(T:Txt P w K mg t):FM P w base T.q92 1 FC:=by
 refine T.q92.F.fq (N:=["_law_found"]) eM ?_;rintro nd _ _ _ _ _ _ _ _ hr ⟨i,rfl,k⟩;refine⟨_,(au (aC (nZ (aZ gb T.zq Bt.isinstance (aa (O 0) (aa (jQ (v:=.ty "int") T.zL Bt.int rfl) aj))) (j8 (O6 (aZ gb T.zq Bt.isinstance (aa (O 0) (aa (jQ (v:=.ty "bool") T.zaQ Bt.bool rfl) aj)))))))),?_⟩;refine⟨_,Z,_,_,_,_,true,Z,Z,.int _,Z,_,Z,?_⟩;exact⟨_,Z,_,_,_,_,false,Z,Z,.int _,Z,_,Z,k⟩
theorem xT(hl:rs.length=2^ns.length)(hs:sd≠0)(hi:∀ i,sd.testBit i=true->i<2^ns.length):∃ x,aU (sel rs sd)=some x:=by
 cases hc:aU (sel rs sd)with
 |some x=>exact⟨x,Z⟩
 | none =>
  refine absurd (cn fun i=>?_) hs;rw[i9];cases hb:sd.testBit i with
  |false=>rfl
  | true =>
   have:=h_.mpr ⟨i,by rw[hl];exact hi i hb,hb,rfl⟩;rw[sS hc]at this;cases this
inductive LZ(vs:List V)(H:Hp)(Q:VK)(E:XK):Prop
 |mk(l:Addr)(ms:List Int)(_:vs=[.ref l])(_:H l=some (.lst (ms.map V.int)))(_:0<ms.length)(_:ms.length<=256)(_:∀(q:Addr)(m:Int)(J:Hp),bb H J->g0 ms m->J q=some (.tup ((ms.map fun x=>x-m).map V.int))->Q (.ref q) J)
theorem Nv(T:Txt P w K mg t):FM P w base T.q23 1 LZ:=by
 refine T.q23.F.fq (N:=["marks","least"]) eM ?_;rintro nd _ _ _ _ H _ _ _ hr ⟨l,ms,rfl,hl,h0,sN,k⟩
 refine⟨_,(aq (He 1 nd (aZ (uU rfl) T.zM Bt.min (aa (O 0) aj)))
   (au (aC (dG dh T.zn Bt.tuple (aa (bT rfl ["mark","least"] [none,some 1] (bR (O 0)) gT (fun _ _ _ _ _ _=>(iP 0 (l8 (l:=["mark","least"])))) (fun _ _ _ _ _ _=>bZ) (fun _ _ _ _ _ _=>(aF cV (O 0) (ko 1)))) aj))))),?_⟩
 refine⟨_,Z,l,ms,Z,b5.of hl,h0,fun m hm1 qS=>?_⟩;refine⟨_,Z,l,Z,⟨_,b5.of hl⟩,?_⟩;refine cF (K:=K) (a:=l) (xs:=ms.map V.int) (fun i ys J=>J=H/\ys=((ms.take i).map fun x=>x-m).map V.int) ⟨rfl,rfl⟩ (lk (by rw[de];exact G)) (fun i ys J ⟨_,e⟩=>by rw[e,de,de,bq];exact G) (fun i ys J ⟨e,_⟩=>by subst e;exact b5.of hl) ?_ ?_
 .rintro i z ys J hi ⟨rfl,rfl⟩
  rw[kg]at hi
  obtain⟨c,hc,rfl⟩:∃ c,ms[i]?=some c/\z=V.int c:=by
   cases q:ms[i]? with
   |none=>rw[q]at hi;cases hi
   |some c=>rw[q]at hi;exact⟨c,Z,(kK hi).symm⟩
  refine⟨⟨Z,trivial⟩,?_⟩;refine⟨_,Z,_,Z,_,_,Z,Z,Z,?_⟩;rw[qE,hc,ay,ay]
  rfl
 rintro ys J ⟨rfl,rfl⟩ lc yT;rw[de,bp];refine⟨lc,_,Z,.inl ⟨b5.of ao,fun q hq=>?_⟩⟩;exact k q m _ ((aB yT).trans (aB hq)) ⟨hm1,qS⟩ ao
def z0(H:Hp)(v:V)(ns:List Str):Prop:=∃(a p:Addr)(u:V),v=.ref a/\H a=some (.tup [.ref p,u])/\H p=some (.tup (ns.map V.str))
theorem z0.tups(s:fF H J):z0 H v ns->z0 J v ns:=fun⟨a,p,u,h1,h2,h3⟩=>⟨a,p,u,h1,s _ _ h2,s _ _ h3⟩
def kX(H:Hp)(p:Addr)(v:V)(x:List Int×Int):Prop:=∃(q a r:Addr),v=.ref q/\H q=some (.tup [.ref a,.int x.2])/\H a=some (.tup [.ref p,.ref r])/\H r=some (.tup (x.1.map V.int))
theorem kX.tups(s:fF H J){p:Addr}{x:List Int×Int}:kX H p v x->kX J p v x:=fun⟨q,a,r,h1,h2,h3,h4⟩=>⟨q,a,r,h1,s _ _ h2,s _ _ h3,s _ _ h4⟩
theorem kX.mono(s:bb H J){p:Addr}{x:List Int×Int}(h:kX H p v x):kX J p v x:=h.tups s.tups
def xU(N:Nat)(x:List Int×Int):Prop:=x.1.length=N/\x.2.natAbs<2^8192/\∀ z∈x.1,z.natAbs<2^8192
inductive GW(t:l9)(vs:List V)(H:Hp)(Q:VK)(E:XK):Prop
 |mk(l:Addr)(us:List V)(nss:List (List Str))(_:vs=[.ref l])(_:H l=some (.lst us))(_:Paired (z0 H) us nss)(_:(nss=[]->E (.ref t.zO) none H))(_:(∀ n r,nss=n::r->(∀ m∈nss,m=n)->Q .non H))(_:(∀ n r,nss=n::r->(¬ ∀ m∈nss,m=n)->E (.ref t.zP) none H))
inductive C9(t:l9)(vs:List V)(H:Hp)(Q:VK)(E:XK):Prop
 |mk(l p:Addr)(ns:List Str)(us:List V)(ps:List (List Int×Int))(N:Nat)(_:vs=[.ref l])(_:H l=some (.lst us))(_:H p=some (.tup (ns.map V.str)))(_:Paired (kX H p) us ps)(_:0<us.length)(_:us.length<=100)(_:0<N)(_:N<=256)(_:(∀ x∈ps,xU N x))(_:∀(a r:Addr)(m:Int)(J:Hp),bb H J->g0 (bJ N ps) m->cq J a p r ((bJ N ps).map fun x=>x-m)->Q (.ref a) J)
theorem jT{α β:Type}{F:α->β->Prop}{a:List α}{b:List β}(h:Paired F a b):a.length=b.length:=aT h
theorem xV(T:Txt P w K mg t):FM P w base T.q24 1 (GW t):=by
 refine T.q24.F.fq (N:=["minds","mind"]) eM ?_;rintro nd _ _ _ _ H _ _ _ hr ⟨l,us,nss,rfl,hl,hp,k0,k1,k2⟩;have hu:=eO hr;have hlen:=jT hp
 refine ⟨_,(aq (aO (aG aW (aZ aX T.zd Bt.len (aa (O 0) aj)) ak (aK _))
    (au (c7 dU rfl T.zaJ T.zak (aa az aj)))
    aM)
   (au (eG kR rfl (bR (O 0)) (iP 1 nd)
    (au (aO (aG (Ay (kH hu)) (cy aJ (O 1) ak) (cy aJ (cy bh (O 0) ak) ak) (aK _))
     (au (c7 dU rfl T.zaL T.zan (aa az aj)))
     aM))))),?_⟩
 refine⟨_,Z,l,_,Z,.inl (b5.of hl),Z,_,Z,?_⟩;cases nss with
 | nil =>
  have e:us.length=0:=hlen;rw[e];exact bU ⟨v_,k0 rfl⟩
 | cons n r =>
  refine aN (fun c=>?_) (fun _=>?_)
  .have c:=eT c
   have c:((us.length:Nat):Int)=0:=V.int.inj c;rw[ba]at hlen;exact G
  obtain⟨u0,us',rfl⟩:∃ u us',us=u::us':=by
   cases us with
   |nil=>rw[ba]at hlen;cases hlen
   |cons u us'=>exact⟨u,us',Z⟩
  obtain⟨y0,hy0,a0,p0,w0,rfl,OZ,Nd⟩:=bx hp 0 u0 rfl;obtain rfl:n=y0:=kK hy0
  refine⟨_,rfl,l,rfl,⟨_,b5.of hl⟩,fJ (K:=K) (a:=l) (xs:=V.ref a0::us') (fun i M H2=>∃ o:Option V,M=[some (.ref l),o]/\H2=H/\∀ m∈(n::r).take i,m=n)
   ⟨none,rfl,rfl,oz⟩ (fun i M H2 _ ⟨_,_,e,_⟩=>by subst e;exact b5.of hl) ?_ ?_⟩
  .rintro i y M H2 hi ⟨o,rfl,rfl,nK⟩
   obtain⟨m,hm,a1,p1,w1,rfl,ha1,hp1⟩:=bx hp i y hi;refine⟨_,Z,a1,_,0,.ref p1,Z,Z,SqT.of ha1,Z,_,Z,l,_,0,.ref a0,Z,Z,b5.of hl,bu (j:=0) rfl,a0,_,0,.ref p0,Z,Z,SqT.of OZ,Z,p1,p0,m,n,Z,Z,SqT.of hp1,SqT.of Nd,_,Z,?_⟩
   by_cases U9:m=n
   .rw[cK U9]
    refine bD ⟨_,rfl,rfl,fun z hz=>?_⟩;rw[qE,hm]at hz;rcases a_.mp hz with hz|hz
    .exact nK z hz
    have:z=m:=by simpa using hz
    rw[this];exact U9
   rw[gS U9];exact bU ⟨v_,k2 n r rfl fun z=>U9 (z m (pj hm))⟩
  rintro M H2 ⟨o,rfl,rfl,nK⟩;rw[hlen,bp]at nK;exact k1 n r rfl nK
theorem Gq(T:Txt P w K mg t):FM P w base T.q25 2 (C9 t):=by
 refine T.q25.F.fq (N:=["pairs","first","sums","mind","weight"]) eM ?_;rintro nd _ _ _ _ H vs Q E hr ⟨l,p,ns,us,ps,N,rfl,hl,hp,wa,h0,Co,To,Tb,y4,k⟩;have hlen:=jT wa
 refine⟨_,(aq (bw (eK T.q24 (xV T) hr bH (aa (bT rfl ["mind","weight"] [none,none] (bR (O 0)) gT (fun _ _ _ _ _ _=>(jg (K:=K) (n:=2) rfl rfl (bG (iP 0 (l8 (l:=["mind","weight"]))) (bG (iP 1 (l8 (l:=["mind","weight"]))) dO)))) (fun _ _ _ _ _ _=>bZ) (fun _ _ _ _ _ _=>(O 0))) aj)))
   (aq (fR 1 nd (cy aJ (cy bh (O 0) ak) ak))
   (aq (fR 2 nd (aF Ep (bz (aa ak aj)) (aZ aX T.zd Bt.len (aa (cy aJ (O 1) ak) aj))))
   (aq (eG kR rfl (bR (O 0)) (jA (n:=2) rfl (bG (iP 3 nd) (bG (pgc 4 nd) dO)))
    (au (iT (i:=2) rfl ["total","rank","weight"] [none,none,some 4] nd rfl rfl (Tc (aa (O 2) (aa (cy aJ (O 3) ak) aj)) T.Y9) gT (fun _ _ _ _ _ _=>(jg (K:=K) (n:=2) rfl rfl (bG (iP 0 (l8 (l:=["total","rank","weight"]))) (bG (iP 1 (l8 (l:=["total","rank","weight"]))) dO)))) (fun _ _ _ _ _ _=>bZ) (fun _ _ _ _ _ _=>(aF cO (O 0) (aF Bb (ko 2) (O 1)))))))
   (au (aC (bj (aa (cy aJ (O 1) ak) (aa (eK T.q23 (Nv T) hr aH (aa (O 2) aj)) aj))))))))),?_⟩
 refine⟨_,Z,l,Z,⟨_,b5.of hl⟩,?_⟩;refine cF (K:=K) (a:=l) (xs:=us) (fun i ys J=>J=H/\ys.length=i/\Paired (z0 H) ys (List.replicate i ns)) ⟨rfl,rfl,.nil⟩ (lk G) (fun i ys J ⟨_,e,_⟩=>G) (fun i ys J ⟨e,_⟩=>by subst e;exact b5.of hl) ?_ ?_
 .rintro i z ys J hi ⟨rfl,Kn,WR⟩
  obtain⟨x,hx,q,a,r,rfl,hq,ha,sC⟩:=bx wa i z hi;refine⟨q,_,Z,SqT.of hq,Z,_,_,Z,_,_,Z,Z,⟨trivial,?_⟩⟩;refine⟨_,Z,Z,by rw[af,Kn];rfl,?_⟩;rw[List.replicate_succ'];exact bK WR (.cons ⟨a,p,.ref r,rfl,ha,hp⟩ .nil)
 rintro ys J ⟨rfl,Kn,WR⟩ lc yT;have u1:=aB (o:=.lst ys) yT;have WQ:=Paired.ib WR fun _ _ z=>z0.tups u1.tups z
 refine⟨lc,ys,_,Z,ao,WQ,fun z=>?_,fun n r Sk _=>?_,fun n r Sk z=>?_⟩
 .have:=b4 List.length z
  rw[c8]at this;exact absurd this (by show us.length≠0;exact G)
 rotate_left
 .refine absurd (fun m hm=>?_) z
  have hm1:=(eL.mp hm).2;have CO:n∈List.replicate us.length ns:=by rw[Sk];exact qms
  rw[hm1,(eL.mp CO).2]
 have qV:=u1 _ _ hl;have hp1:=u1 _ _ hp;have Na:=Paired.ib wa fun _ _ z=>kX.mono u1 z
 generalize upd J lc (.lst ys)=H1 at u1 qV hp1 Na ⊢
 obtain⟨u0,us',rfl⟩:∃ u us',us=u::us':=by
  cases us with
  |nil=>exact absurd h0 oz
  |cons u us'=>exact⟨u,us',Z⟩
 obtain⟨x0,WA,q0,a0,r0,rfl,E9,OZ,KG⟩:=bx Na 0 u0 rfl;obtain⟨f1,f2,f3⟩:=y4 x0 (pj WA);refine⟨_,Z,l,_,0,.ref q0,Z,Z,b5.of qV,bu (j:=0) rfl,q0,_,0,.ref a0,Z,Z,SqT.of E9,Z,?_⟩;refine⟨lk obz,fun l0 SE=>?_⟩;have u2:=aB (o:=.lst [.int 0]) SE;refine⟨_,Z,a0,_,1,.ref r0,Z,Z,SqT.of (u2 _ _ OZ),Z,r0,_,Z,.inr (SqT.of (u2 _ _ KG)),l0,_,[.int 0],Z,Z,ao,G,by rw[de,f1];exact G,?_,fun l2 mP=>?_⟩
 .rw[de,f1,bE]
  exact lk (by simp;exact G)
 have er:(List.replicate ((((x0.1.map V.int).length:Nat):Int).toNat) [V.int 0]).flatten=(bJ N []).map V.int:=by
  rw[de,f1,bE,Gf];simp
 rw[er];have u3:=u2.trans (aB (o:=.lst ((bJ N []).map V.int)) mP);have SD:(upd (upd H1 l0 (.lst [.int 0])) l2 (.lst ((bJ N []).map V.int))) l2=some (.lst ((bJ N []).map V.int)):=ao;generalize upd (upd H1 l0 (.lst [.int 0])) l2 (.lst ((bJ N []).map V.int))=H2 at u3 SD ⊢
 refine⟨_,rfl,l,rfl,⟨_,b5.of (u3 _ _ qV)⟩,fJ (K:=K) (a:=l) (xs:=V.ref q0::us')
  (fun i M H3=>∃(o1 o2:Option V)(lm:Addr),M=[some (.ref l),some (.ref a0),some (.ref lm),o1,o2]/\bb H1 H3/\H3 lm=some (.lst ((bJ N (ps.take i)).map V.int)))
  ⟨none,none,l2,rfl,u3,SD⟩ (fun i M H3 _ ⟨_,_,_,_,s3,_⟩=>b5.of (s3 _ _ qV)) ?_ ?_⟩
 .rintro i y M H3 hi ⟨o1,o2,lm,rfl,s3,ND⟩
  obtain⟨x,hx,q,a,r,rfl,hq,ha,sC⟩:=bx Na i y hi;obtain⟨g1,g2,g3⟩:=y4 x (pj hx);have M_:=s3 _ _ sC;refine⟨q,_,Z,SqT.of (s3 _ _ hq),Z,_,_,Z,_,_,Z,Z,?_⟩;refine⟨_,Z,_,Z,a,_,1,.ref r,Z,Z,SqT.of (s3 _ _ ha),Z,lm,r,Z,⟨_,b5.of ND⟩,⟨_,SqT.of M_⟩,?_⟩
  refine Jg (K:=K) (a:=lm) (b:=r) (xs:=(bJ N (ps.take i)).map V.int) (ys:=x.1.map V.int) (by rw[de,de,eV,g1])
   (fun j zs J=>bb H3 J/\zs=(jG N (ps.take i) x j).map V.int) ⟨bb.refl _,rfl⟩ (lk (by rw[de,eV];exact G)) (fun j zs J ⟨_,e⟩=>by rw[e,de,CP];exact qnr _) (fun j zs J ⟨s4,_⟩=>⟨b5.of (s4 _ _ ND),SqT.of (s4 _ _ M_)⟩) ?_ ?_
  .rintro j v1 v2 zs H4 h1 h2 ⟨s4,rfl⟩ e he
   rw[kg]at h1 h2
   obtain⟨c1,y7,rfl⟩:∃ c,(bJ N (ps.take i))[j]?=some c/\v1=V.int c:=by
    cases qq:(bJ N (ps.take i))[j]? with
    |none=>rw[qq]at h1;cases h1
    |some c=>rw[qq]at h1;exact⟨c,Z,(kK h1).symm⟩
   obtain⟨c2,ng,rfl⟩:∃ c,x.1[j]?=some c/\v2=V.int c:=by
    cases qq:x.1[j]? with
    |none=>rw[qq]at h2;cases h2
    |some c=>rw[qq]at h2;exact⟨c,Z,(kK h2).symm⟩
   have s5:=s4.trans (aB (o:=.tup [.int c1,.int c2]) he);refine⟨e,_,Z,SqT.of ao,Z,_,_,Z,_,_,Z,Z,⟨Z,trivial⟩,?_⟩;refine⟨_,Z,_,Z,_,Z,_,_,Z,Z,⟨g2,g3 c2 (pj ng)⟩,_,_,Z,Z,s5,?_⟩;rw[z8,ay];have e1:(bJ N (ps.take i)).getD j 0=c1:=by rw[List.getD,y7];rfl
   have e2:x.1.getD j 0=c2:=by rw[List.getD,ng];rfl
   rw[e1,e2]
   rfl
  rintro zs H4 ⟨s4,rfl⟩ lq W6;refine⟨_,_,lq,Z,s3.trans (s4.trans (aB W6)),?_⟩;rw[ao,de,eV,CQ,qE,hx]
  rfl
 rintro M H3 ⟨o1,o2,lm,rfl,s3,ND⟩;rw[hlen,bp]at ND;have sl:=eV N ps;refine⟨_,Z,a0,_,0,.ref p,Z,Z,SqT.of (s3 _ _ OZ),Z,_,Z,lm,bJ N ps,Z,ND,G,G,fun q m H4 s4 hm hq4=>⟨lk obz,fun a ha=>?_⟩⟩;have u5:=aB (o:=.tup [.ref p,.ref q]) ha;exact k a q m _ (u1.trans ((s3.trans s4).trans u5)) hm ⟨ao,u5 _ _ hq4,by rw[de,sl];exact Tb⟩
inductive F5(t:l9)(vs:List V)(H:Hp)(Q:VK)(E:XK):Prop
 |mk(p dx sl bl:Addr)(mv bv:List V)(a np r:Addr)(rs:List Int)(v:V)(ns:List Str)(tr:Tr)(lean:Int)(_:vs=[.ref p,v,.int lean])(_:fh t.za H p dx sl bl (mv++[.ref a]) bv)(_:mv.length<=400)(_:cq H a np r rs)(_:Fits H np v ns tr)(_:((∀ x∈tr.names,x∈ns)->match aU (sel rs (aV ns tr)),aU (sel rs (aQ ns tr))with|none,_=>∀ J,bb H J->E (.ref t.zi) none J|some _,none=>∀ J,bb H J->E (.ref t.zj) none J|some x,some y=>∀(b q bl':Addr)(J:Hp),H bl'=none->jR p sl H J->fh t.za J p dx sl bl' (mv++[.ref a]++[.ref b]) []->cq J b np q (gj rs (aV ns tr) x y lean)->Q .non J))(_:((¬ ∀ x∈tr.names,x∈ns)->∀ J,bb H J->E (.ref t.zh) none J))
inductive F7(t:l9)(vs:List V)(H:Hp)(Q:VK)(E:XK):Prop
 |mk(p dx sl bl:Addr)(mv bv:List V)(a np r:Addr)(rs:List Int)(lq:Addr)(ns:List Str)(us:List V)(ps:List (List Int×Int))(N:Nat)(_:vs=[.ref p,.ref lq])(_:fh t.za H p dx sl bl (mv++[.ref a]) bv)(_:mv.length<=400)(_:cq H a np r rs)(_:H np=some (.tup (ns.map V.str)))(_:H lq=some (.lst us))(_:us.length<=60)(_:Paired (kX H np) us ps)(_:0<N)(_:N<=256)(_:xU N (rs,1))(_:(∀ x∈ps,xU N x))(_:∀(b q bl':Addr)(m:Int)(J:Hp),H bl'=none->jR p sl H J->fh t.za J p dx sl bl' (mv++[.ref a]++[.ref b]) []->g0 (bJ N ((rs,1):: ps)) m->cq J b np q ((bJ N ((rs,1):: ps)).map fun x=>x-m)->Q .non J)
theorem JR(T:Txt P w K mg t):Fm P w mg base T.q37 121 (F5 t):=by
 refine T.q37.F.fq (N:=["self","tree","lean"]) eM ?_;rintro nd _ _ _ _ _ _ _ _ hr ⟨p,dx,sl,bl,mv,bv,a,np,r,rs,v,ns,tr,lean,rfl,U,l_,hm,fit,k,kn⟩;refine⟨_,(au (bw (E2 (O 0) T.ze T.q34 (lN T) hr aH (aa (eK T.q28 (ut T) hr bH (aa (gF (O 0) T.ze T.q41 (lw T) hr aH) (aa (O 1) (aa (O 2) aj)))) aj)))),?_⟩;refine⟨_,Z,p,dx,_,Z,U.ob,eQ _ _ dk dk,_,Z,p,dx,_,Z,U.ob,eQ _ _ dk dk,p,dx,sl,bl,mv,bv,.ref a,Z,U,_,Z,_,Z,a,np,r,rs,v,ns,tr,lean,Z,hm,fit,fun hall=>?_,kn⟩;have k:=k hall;cases hb:aU (sel rs (aV ns tr))with
 | none =>
  rw[hb]at k;exact k
 | some x =>
  cases hk:aU (sel rs (aQ ns tr))with
  | none =>
   rw[hb,hk]at k;exact k
  | some y =>
   rw[hb,hk]at k;exact fun b q H1 s1 hm1=>⟨p,dx,sl,bl,mv++[.ref a],bv,.ref b,rfl,U.mono s1,by rw[af];show mv.length+1<=500;exact G,fun bl' H2 EF U2 kp=>k b q bl' H2 (s1.free EF) (fun c o e h1 h2=>kp c o (s1 _ _ e) h1 h2) U2 (lO (U.mono s1) kp hm1)⟩
theorem JS(T:Txt P w K mg t):Fm P w mg base T.q38 3 (F7 t):=by
 refine T.q38.F.fq (N:=["self","pairs"]) eM ?_;rintro nd _ _ _ _ H vs Q E hr ⟨p,dx,sl,bl,mv,bv,a,np,r,rs,lq,ns,us,ps,N,rfl,U,l_,hm,lS,W6,h60,wa,To,hN1,Lc,hf,k⟩;refine⟨_,(au (bw (E2 (O 0) T.ze T.q34 (lN T) hr aH (aa (eK T.q25 (Gq T) hr bH (aa (aF oH (bz (aa (bj (aa (gF (O 0) T.ze T.q41 (lw T) hr aH) (aa ak aj))) aj)) (O 1)) aj)) aj)))),?_⟩;refine⟨_,Z,p,dx,_,Z,U.ob,eQ _ _ dk dk,_,Z,p,dx,_,Z,U.ob,eQ _ _ dk dk,p,dx,sl,bl,mv,bv,.ref a,Z,U,lk obz,fun q1 hq1=>⟨lk obz,fun q2 hq2=>?_⟩⟩;have s1:=aB (o:=.tup [.ref a,.int 1]) hq1;have s2:=aB (o:=.lst [.ref q1]) hq2;have m_:=s1.trans s2;refine⟨_,Z,q2,lq,_,_,Z,Z,ao,m_ _ _ W6,lk (by simp;exact G),fun q3 WO=>?_⟩;have s3:=aB (o:=.lst ([.ref q1]++us)) WO;have qA:=m_.trans s3;refine⟨q3,np,ns,[.ref q1]++us,(rs,1):: ps,N,Z,ao,qA _ _ lS,.cons ⟨q1,a,r,Z,s3 _ _ (s2 _ _ ao),qA _ _ hm.1,qA _ _ hm.2.1⟩ (Paired.ib wa fun _ _ z=>z.mono qA),oz,by simp;exact G,To,hN1,fun x hx=>?_,fun b q m H4 s4 hl KU=>?_⟩
 .rcases ai.mp hx with rfl|hx
  .exact Lc
  exact hf x hx
 have Mn:=qA.trans s4;exact⟨p,dx,sl,bl,mv++[.ref a],bv,.ref b,Z,U.mono Mn,by rw[af];show mv.length+1<=500;exact G,fun bl' H5 EF U5 kp=>k b q bl' m H5 (Mn.free EF) (fun c o e h1 h2=>kp c o (Mn _ _ e) h1 h2) U5 hl (lO (U.mono Mn) kp KU)⟩
structure Names(ns:List Str):Prop where
 nd:ns.Nodup
 nm:∀ x∈ns,pE x
inductive C_(vs:List V)(H:Hp)(Q:VK)(E:XK):Prop
 |mk(c n:Int)(_:vs=[.int c,.int n])(_:1<=n)(_:n<=8)(_:∀(p:Addr)(ns:List Str)(J:Hp),bb H J->J p=some (.tup (ns.map V.str))->ns.length=n.toNat->Names ns->Q (.ref p) J)
def rB(c:Nat)(n:Nat):Str:=⟨(List.replicate n c).toArray⟩
theorem ph(c n:Nat):(rB c n).cps.toList=List.replicate n c:=by simp[rB]
theorem Nx(c:Nat)(n:Int):Txt.mul ⟨#[c]⟩ n=rB c n.toNat:=by
 refine Ng ?_;rw[mul_one_list,ph]
theorem jU{i:Int}(h0:0<=i)(h:i<26):tw ox.cps.toList i=some (97+i.toNat):=qU h0 (CJ i.toNat G)
theorem uv(c:Nat):(⟨#[c]⟩:Str).length=1:=rfl
theorem Ny(f:Nat->Nat)(n:Nat)(z:Str):(((List.range n).map fun i=>(⟨#[f i]⟩:Str)).map (·.length)).sum+((List.range n).map fun i=>(⟨#[f i]⟩:Str)).length*z.length=n+n*z.length:=by
 have e:∀ l:List Nat,((l.map fun i=>(⟨#[f i]⟩:Str)).map (·.length)).sum=l.length:=by
  intro l
  induction l with
  |nil=>rfl
  | cons x r ih =>
   rw[b6,b6,wq,ih,ba];show 1+r.length=_;exact G
 rw[e,de,dA]
theorem xW(f:Nat->Nat):∀ l:List Nat,(l.flatMap fun i=>[f i])=l.map f
 |[]=>rfl
 |x::r=>by rw[gL,b6,xW f r];rfl
theorem Gr:("":Str)=⟨#[]⟩:=by decide +kernel
theorem JT(x:Str){u:Int}(hu:0<=u):(dY x (some u) none).cps.toList=x.cps.toList.drop u.toNat:=by
 rw[fK];have e:HT.fN x.length x.length none=x.length:=rfl
 have e0:HT.fN x.length 0 (some u)=min u.toNat x.length:=by
  show(if u<0 then _ else _)=_;rw[bX G]
 have lx:x.cps.toList.length=x.length:=ax;rw[e,e0];rcases Nat.le_total u.toNat x.length with h1|h1
 .rw[ES h1]
  exact fS (by rw[cm];exact G)
 rw[Nat.min_eq_right h1,List.drop_of_length_le (show x.cps.toList.length<=x.length by omega),List.drop_of_length_le (show x.cps.toList.length<=u.toNat by omega),List.take_nil]
theorem pA(f:Nat->Str)(hi:∀ i j,i<n->j<n->f i=f j->i=j)(hn:∀ i,i<n->pE (f i)):Names ((List.range n).map f):=by
 refine⟨?_,fun x hx=>?_⟩
 .rw[IZ,List.pairwise_map]
  refine List.Pairwise.imp_of_mem (R:=fun a b=>a≠b) (fun {a b} ha hb A_ e=>A_ ?_) (IZ.mp List.nodup_range);exact hi a b (eP.mp ha) (eP.mp hb) e
 obtain⟨i,h,rfl⟩:=cb.mp hx;exact hn i (eP.mp h)
def yn(first:Int)(k:Nat):Nat:=97+((first+5*k)%26).toNat
def ML(lT:Str)(place first:Int)(k:Nat):Str:=dY lT none (some place)++⟨#[yn first k]⟩++dY lT (some place) none
theorem Bl(hi:i<8)(hj:j<8)(h:yn first i=yn first j):i=j:=by
 unfold yn at h;exact G
theorem Gs(first:Int)(k:Nat):97<=yn first k/\yn first k<=122:=by unfold yn;exact G
theorem wz{lT:Str}{place:Int}(h0:0<=place)(k:Nat):(ML lT place first k).cps.toList=lT.cps.toList.take place.toNat++[yn first k]++lT.cps.toList.drop place.toNat:=by
 unfold ML;rw[wu,wu,PK _ h0,JT _ h0]
def nN:List Str:=["back","take","worlds","again","names","give","lean","ask"]
theorem z9(m:Nat):Names (nN.take m):=by
 refine⟨List.Sublist.nodup (List.take_sublist _ _) dk,fun x hx=>?_⟩;have h:∀ x∈nN,1<=x.cps.toList.length/\x.cps.toList.length<=8/\∀ c∈x.cps.toList,97<=c/\c<=122:=by decide +kernel
 have:=h x (tF hx);exact⟨this.1,this.2.1,this.2.2⟩
theorem Gu(T:Txt P w K mg t):FM P w base T.q94 1 C_:=by
 refine T.q94.F.fq (N:=["_law_cell","_law_many","_law_letters","_law_first","_law_size","_law_place","_law_stem"]) eM ?_;rintro nd _ _ _ _ H _ Q _ hr ⟨c,n,rfl,CO,hn8,k⟩
 refine⟨_,(aq (He 2 nd az)
   (aq (aO (aG aW (aF cj (ko 0) ak) ak (aK _))
    (au (aC (dG dh T.zn Bt.tuple (aa (ig uc (bz (aa az (aa az (aa az (aa az (aa az (aa az (aa az (aa az aj))))))))) j6 (iC (ko 1))) aj))))
    aM)
   (aq (He 3 nd (aF cj (aF fP (ko 0) ak) ak))
   (aq (aO (aG aW (aF cj (ko 0) ak) ak (aK _))
    (au (aC (dG dh T.zn Bt.tuple (aa (bT rfl ["_law_k","_law_letters","_law_first"] [none,some 2,some 3] (gK T.zr (aa (ko 1) aj)) gT (fun _ _ _ _ _ _=>(iP 0 (l8 (l:=["_law_k","_law_letters","_law_first"])))) (fun _ _ _ _ _ _=>bZ) (fun _ _ _ _ _ _=>(cy oF (ko 1) (aF cj (aF cO (ko 2) (aF gC ak (O 0))) ak)))) aj))))
    aM)
   (aq (aO (aG aW (aF cj (ko 0) ak) ak (aK _))
    (au (aC (dG dh T.zn Bt.tuple (aa (bT rfl ["_law_k","_law_letters","_law_first","_law_many"] [none,some 2,some 3,some 1] (gK T.zr (aa (ko 1) aj)) gT (fun _ _ _ _ _ _=>(iP 0 (l8 (l:=["_law_k","_law_letters","_law_first","_law_many"])))) (fun _ _ _ _ _ _=>bZ) (fun _ _ _ _ _ _=>(aF Cu (cy oF (ko 1) (ko 2)) (aF cV (ko 3) (O 0))))) aj))))
    aM)
   (aq (fR 4 nd (aF cO ak (aF cj (aF fP (ko 0) ak) ak)))
   (aq (He 5 nd (aF cj (aF fP (ko 0) ak) (aF cO (O 4) ak)))
   (aq (He 6 nd (b8 PySem.F.plainAttrs_str PySem.F.slot_str_join PySem.F.type_str_join mL az (aa (bT rfl ["_law_k","_law_letters","_law_cell"] [none,some 2,some 0] (gK T.zr (aa (O 4) aj)) gT (fun _ _ _ _ _ _=>(iP 0 (l8 (l:=["_law_k","_law_letters","_law_cell"])))) (fun _ _ _ _ _ _=>bZ) (fun _ _ _ _ _ _=>(cy oF (ko 1) (aF cj (aF cO (aF fP (ko 2) ak) (aF gC ak (O 0))) ak)))) aj)))
   (au (aC (dG dh T.zn Bt.tuple (aa (bT rfl ["_law_k","_law_stem","_law_letters","_law_place","_law_first"] [none,some 6,some 2,some 5,some 3] (gK T.zr (aa (ko 1) aj)) gT (fun _ _ _ _ _ _=>(iP 0 (l8 (l:=["_law_k","_law_stem","_law_letters","_law_place","_law_first"])))) (fun _ _ _ _ _ _=>bZ) (fun _ _ _ _ _ _=>(aF bI (aF bI (ig wX (ko 1) j6 (iC (ko 3))) (cy oF (ko 2) (aF cj (aF cO (ko 4) (aF gC ak (O 0))) ak))) (ig wX (ko 1) (iC (ko 3)) j6)))) aj)))))))))))),?_⟩
 have UM:ox.length<=sizeLine:=by rw[yX];decide
 refine⟨_,Z,_,_,Z,Z,(by show(0:Int)<16;decide),Z,_,Z,aN (fun _=>?b0) (fun _=>?b1)⟩
 case b0 =>
  refine⟨lk obz,fun q0 E9=>?_⟩;have s0:=aB (o:=.lst (nN.map V.str)) E9;refine⟨_,Z,_,Z,q0,nN.map V.str,Z,b5.of ao,fun p3 Cb=>?_⟩
  have ec:ik (nN.map V.str) none (some n)=(nN.take n.toNat).map V.str:=by
   rw[List.map_take];unfold ik HT.fN;simp only[tI,de];rw[bX G,AA,ES (by show n.toNat<=8;exact G)]
  rw[ec];have s1:=aB (o:=.lst ((nN.take n.toNat).map V.str)) Cb;refine⟨p3,_,Z,.inl ⟨b5.of ao,fun l hl=>?_⟩⟩;exact k l _ _ ((s0.trans s1).trans (aB hl)) ao (by rw[bq];show min n.toNat 8=_;exact G) (z9 _)
 case b1 =>
 refine⟨_,Z,_,_,Z,Z,⟨b9,b9⟩,_,_,Z,Z,(by show(0:Int)<26;decide),?_⟩
 try dsimp -proj -iota only
 obtain⟨first,hfi,Lc,hf1⟩:∃ first:Int,c/5%26=first/\0<=first/\first<26:=⟨_,rfl,G,G⟩
 rw[hfi];have hn:n.toNat<=8:=G
 have fin:∀(f:Nat->Str)(p3:Addr)(H2 H3:Hp),bb H H2->H2 p3=none->H3=upd H2 p3 (.lst (((List.range n.toNat).map f).map V.str))->Names ((List.range n.toNat).map f)->∀ l,H3 l=none->Q (.ref l) (upd H3 l (.tup (((List.range n.toNat).map f).map V.str))):=by
  rintro f p3 H2 H3 s2 Cb rfl hN l hl;exact k l _ _ ((s2.trans (aB Cb)).trans (aB hl)) ao oz hN
 refine⟨_,Z,_,_,Z,Z,(by show(0:Int)<5;decide),Z,_,Z,aN (fun _=>?a0) (fun _=>⟨_,Z,_,_,Z,Z,(by show(0:Int)<5;decide),Z,_,Z,aN (fun _=>?a1) (fun _=>?a2)⟩)⟩
 case a0 =>
  refine⟨_,Z,n,Z,G,G,?_⟩;refine eY (n:=n.toNat) (fun i=>.str ⟨#[yn first i]⟩) (lk G) (fun i R hi r=>?_) (fun p3 Cb=>?_)
  .refine⟨⟨Z,Z,trivial⟩,?_⟩
   refine⟨_,Z,_,Z,_,Z,_,_,Z,Z,.inl ⟨b9,b9⟩,_,_,Z,Z,_,_,Z,Z,(by show(0:Int)<26;decide),_,_,_,Z,Z,UM,jU G G,?_⟩;have e:yn first i=97+((first+5*(0+(i:Int)))%26).toNat:=by unfold yn;rw[hU]
   rw[<- e];exact r
  have e:((List.range n.toNat).map fun i=>V.str ⟨#[yn first i]⟩)=((List.range n.toNat).map fun i=>(⟨#[yn first i]⟩:Str)).map V.str:=by rw[dr];rfl
  rw[e]
  exact⟨p3,_,rfl,.inl ⟨b5.of ao,fun l hl=>fin _ p3 _ _ (bb.refl H) Cb rfl (pA _ (fun i j hi hj h=>Bl (first:=first) G G (by have:=b4 (fun z:Str=>z.cps.toList) h;exact(List.cons.inj this).1)) (fun i _=>⟨by show 1<=1;decide,by show 1<=8;decide,fun x hx=>by
   have hx:x∈[yn first i]:=hx
   rw[aI.mp hx];exact Gs first i⟩)) l hl⟩⟩
 case a1 =>
  obtain⟨fill,Xj,hff⟩:∃ fill:Nat,97+first.toNat=fill/\97<=fill/\fill<=122:=⟨_,rfl,G,G⟩
  refine⟨_,Z,n,Z,G,G,?_⟩;refine eY (n:=n.toNat) (fun(i:Nat)=>.str (rB fill (n-i).toNat)) (lk G) (fun i R hi r=>?_) (fun p3 Cb=>?_)
  .refine⟨⟨Z,Z,Z,trivial⟩,?_⟩
   refine⟨_,Z,_,Z,_,_,_,Z,Z,UM,jU Lc hf1,_,Z,_,Z,_,_,Z,Z,_,_,Z,Z,(by rw[uv];decide),?_,?_,?_⟩
   .show(-1000:Int)<=n-(0+(i:Int))
    exact G
   .show n-(0+(i:Int))<=(1000:Int)
    exact G
   have e:Txt.mul ⟨#[97+first.toNat]⟩ (n-(0+(i:Int)))=rB fill (n-i).toNat:=by
    rw[Nx,hU,Xj]
   rw[<- e]at r;exact r
  have e:((List.range n.toNat).map fun(i:Nat)=>V.str (rB fill (n-i).toNat))=((List.range n.toNat).map fun(i:Nat)=>rB fill (n-i).toNat).map V.str:=by rw[dr];rfl
  rw[e]
  exact⟨p3,_,rfl,.inl ⟨b5.of ao,fun l hl=>fin _ p3 _ _ (bb.refl H) Cb rfl (pA _ (fun i j hi hj h=>by
   have h:=b4 (fun z:Str=>z.cps.toList.length) h;simp only[ph,c8]at h
   exact G) (fun i hi=>⟨by rw[ph,c8];exact G,by rw[ph,c8];exact G,fun x hx=>by
   rw[ph]at hx
   rw[(eL.mp hx).2];exact hff⟩)) l hl⟩⟩
 case a2 =>
  refine⟨_,Z,_,_,Z,Z,⟨b9,b9⟩,_,_,Z,Z,(by show(0:Int)<7;decide),_,_,Z,Z,?_⟩
  try dsimp -proj -iota only
  obtain⟨size,hse,hs1,hs7⟩:∃ size:Int,1+c/130%7=size/\1<=size/\size<=7:=⟨_,rfl,G,G⟩
  rw[hse];refine⟨_,Z,_,_,Z,Z,⟨b9,b9⟩,_,Z,_,_,Z,Z,_,_,Z,Z,(by show(0:Int)<size+1;exact G),?_⟩
  try dsimp -proj -iota only
  have Nd:=AU (c/910) (show size+1≠0 by omega);have hp1:=BM (c/910) (show 0<size+1 by omega);generalize c/910%(size+1)=place at Nd hp1 ⊢;refine⟨Z,_,Z,size,Z,G,G,?_⟩;refine eY (n:=size.toNat) (fun(i:Nat)=>.str ⟨#[97+((c/6370+3*(i:Int))%26).toNat]⟩) (lk G) (fun i R hi r=>?_) (fun p1 WU=>?_)
  .refine⟨⟨Z,Z,trivial⟩,?_⟩
   refine⟨_,Z,_,Z,_,_,Z,Z,⟨b9,b9⟩,_,Z,_,_,Z,Z,.inl ⟨b9,b9⟩,_,_,Z,Z,_,_,Z,Z,(by show(0:Int)<26;decide),_,_,_,Z,Z,UM,jU G G,?_⟩;have e:97+((c/6370+3*(0+(i:Int)))%26).toNat=97+((c/6370+3*(i:Int))%26).toNat:=by rw[hU]
   rw[e];exact r
  have WH:(((List.range size.toNat).map fun(i:Nat)=>(⟨#[97+((c/6370+3*(i:Int))%26).toNat]⟩:Str)).map (·.length)).sum+((List.range size.toNat).map fun(i:Nat)=>(⟨#[97+((c/6370+3*(i:Int))%26).toNat]⟩:Str)).length*("":Str).length <= 16777216:=by
   rw[Ny (fun(i:Nat)=>97+((c/6370+3*(i:Int))%26).toNat) size.toNat]
   try simp only[de,dA]
   have e:("":Str).length=0:=by decide +kernel
   rw[e];exact G
  refine⟨_,p1,(List.range size.toNat).map fun(i:Nat)=>⟨#[97+((c/6370+3*(i:Int))%26).toNat]⟩,Z,Z,b5.of (by rw[ao,dr];rfl),WH,?_⟩
  have D2:(Txt.join ("":Str) ((List.range size.toNat).map fun(i:Nat)=>(⟨#[97+((c/6370+3*(i:Int))%26).toNat]⟩:Str))).cps.toList=(List.range size.toNat).map fun(i:Nat)=>97+((c/6370+3*(i:Int))%26).toNat:=by
   rw[Gr,Ql,List.flatMap_map];exact xW (fun(i:Nat)=>97+((c/6370+3*(i:Int))%26).toNat) _
  generalize Txt.join ("":Str) ((List.range size.toNat).map fun(i:Nat)=>(⟨#[97+((c/6370+3*(i:Int))%26).toNat]⟩:Str))=lT at D2 ⊢;have hsl:lT.cps.toList.length=size.toNat:=by rw[D2,de,dA]
  have ZG:∀ x∈lT.cps.toList,97<=x/\x<=122:=fun x hx=>by
   rw[D2]at hx;obtain⟨i,_,rfl⟩:=cb.mp hx;exact G
  have ZQ:lT.length<=sizeLine:=lk (by rw[nu,hsl];exact G);have s1:=aB (o:=.lst ((List.range size.toNat).map fun(i:Nat)=>V.str ⟨#[97+((c/6370+3*(i:Int))%26).toNat]⟩)) WU;generalize upd H p1 (.lst ((List.range size.toNat).map fun(i:Nat)=>V.str ⟨#[97+((c/6370+3*(i:Int))%26).toNat]⟩))=H1 at s1 ⊢
  have cl:∀ lo hi,(dY lT lo hi).length <= 8:=fun lo hi=>by
   rw[nu,fK,bq,cm,hsl];exact G
  refine⟨_,Z,n,Z,G,G,?_⟩;refine eY (n:=n.toNat) (fun i=>.str (ML lT place first i)) (lk G) (fun i R hi r=>?_) (fun p3 Cb=>?_)
  .refine⟨⟨Z,Z,Z,Z,trivial⟩,?_⟩
   refine⟨_,Z,_,Z,_,Z,lT,Z,ZQ,_,Z,_,Z,_,Z,_,_,Z,Z,.inl ⟨b9,b9⟩,_,_,Z,Z,_,_,Z,Z,(by show(0:Int)<26;decide),_,_,_,Z,Z,UM,jU G G,_,_,Z,Z,lk (by rw[uv];have:=cl none (some place);exact G),_,Z,_,Z,_,Z,lT,Z,ZQ,_,_,Z,Z,lk (by rw[aE,uv];have:=cl none (some place);have:=cl (some place) none;exact G),?_⟩
   have e:dY lT none (some place)++(⟨#[97+((first+5*(0+(i:Int)))%26).toNat]⟩:Str)++dY lT (some place) none=ML lT place first i:=by
    unfold ML yn;rw[hU]
   rw[<- e]at r;exact r
  have e:((List.range n.toNat).map fun i=>V.str (ML lT place first i))=((List.range n.toNat).map (ML lT place first)).map V.str:=by rw[dr];rfl
  rw[e]
  exact⟨p3,_,rfl,.inl ⟨b5.of ao,fun l hl=>fin _ p3 _ _ s1 Cb rfl (pA _ (fun i j hi hj h=>by
   have h:=b4 (fun z:Str=>z.cps.toList) h;simp only[wz Nd]at h;rw[dE,dE]at h;have h:=List.append_cancel_left h;simp only[List.singleton_append,List.cons.injEq]at h
   exact Bl G G h.1) (fun i _=>⟨by
   rw[wz Nd];simp only[af,bq,cm,cS];exact G,by
   rw[wz Nd];simp only[af,bq,cm,cS];exact G,fun x hx=>by
   rw[wz Nd]at hx;rcases a_.mp hx with hx|hx
   .rcases a_.mp hx with hx|hx
    .exact ZG x (tF hx)
    rw[aI.mp hx];exact Gs first i
   exact ZG x (List.mem_of_mem_drop hx)⟩)) l hl⟩⟩
theorem Tf(b:Bool):∃ n:Int,tw [V.int 8,V.int 4] (if b=true then 1 else 0)=some (.int n)/\0<n/\n<=8:=by
 cases b with
 |false=>exact⟨8,Z,b9,b9⟩
 |true=>exact⟨4,Z,b9,b9⟩
inductive FF(K:W.Frag)(vs:List V)(H:Hp)(Q:VK)(E:XK):Prop
 |mk(a:Addr)(cs:List Int)(_:vs=[.ref a])(_:b5 K H a (cs.map V.int))(_:∀(np:Addr)(ns:List Str)(J:Hp),bb H J->J np=some (.tup (ns.map V.str))->1<=ns.length->ns.length<=8->Names ns->Q (.ref np) J)
theorem JV(T:Txt P w K mg t):FM P w base T.q108 2 (FF K):=by
 refine T.q108.F.fq (N:=["_law_script","_law_first"]) eM ?_;rintro nd _ _ _ _ H vs Q E hr ⟨a,cs,rfl,hS,k⟩
 refine⟨_,(aq (fR 1 nd (eK T.q91 (Nj T) hr aH (aa (O 0) (aa ak aj))))
   (au (aC (eK T.q94 (Gu T) hr aH (aa (O 1) (aa (aF cO ak (aF cj (aF fP (O 1) ak) (cy bh (bz (aa ak (aa ak aj))) (dG uI T.zL Bt.int (aa (du pQ (aZ aX T.zd Bt.len (aa (O 0) aj)) ak (aK _)) aj))))) aj)))))),?_⟩
 refine⟨_,Z,a,cs,0,Z,hS,b9,?_⟩
 try dsimp -proj -iota only
 generalize cs.getD (0:Int).toNat 0=first
 obtain⟨n8,Lm,ZO,hn8⟩:=Tf (decide ((20:Int)<((cs.map V.int).length:Nat)));have KW:=AU (first/3) (show n8≠0 by omega);have hm1:=BM (first/3) ZO;refine⟨_,Z,_,Z,_,_,Z,Z,⟨b9,b9⟩,lk obz,fun q0 E9=>?_⟩;have s0:=aB (o:=.lst [.int 8,.int 4]) E9;refine⟨_,Z,a,_,Z,.inl (s0.seq hS),_,_,Z,Z,.inr ⟨_,Z,q0,_,_,.int n8,Z,Z,b5.of ao,Lm,_,_,Z,Z,ZO,_,_,Z,Z,first,1+first/3%n8,Z,G,G,fun np ns H1 s1 lS KP hN=>?_⟩⟩;exact k np ns H1 (s0.trans s1) lS G G hN
inductive BF(vs:List V)(H:Hp)(Q:VK)(E:XK):Prop
 |mk(a np p r:Addr)(ns:List Str)(rs:List Int)(_:vs=[.ref a,.ref p])(_:cq H a np r rs)(_:H np=some (.tup (ns.map V.str)))(_:H p=some (.tup (ns.map V.str)))(_:ns.length<=8)(_:gN ns rs)(_:Q (.bl true) H)
theorem Dg(T:Txt P w K mg t):FM P w base T.q98 2 BF:=by
 refine T.q98.F.fq (N:=["_law_found","_law_names","_law_rank"]) eM ?_;rintro nd _ _ _ _ H _ _ _ hr ⟨a,np,p,r,ns,rs,rfl,⟨ha,sC,sN⟩,lS,hp,h8,hM,k⟩;have hu:=eO hr
 refine ⟨_,(aq (aO (PW.pt (dN (cZ (cG (aZ gb T.zq Bt.isinstance (aa (O 0) (aa (jQ (v:=.ty "tuple") T.zn Bt.tuple rfl) aj))))) (dN (aG gq (aZ aX T.zd Bt.len (aa (O 0) aj)) ak (aK _)) (dN (cZ (cG (aZ gb T.zq Bt.isinstance (aa (cy aJ (O 0) ak) (aa (jQ (v:=.ty "tuple") T.zn Bt.tuple rfl) aj))))) (eZ (aG (Ay (kH hu)) (cy aJ (O 0) ak) (O 1) (aK _)))))))
    (au (aC fB))
    aM)
   (aq (aO (PW.pt (dN (cZ (cG (aZ gb T.zq Bt.isinstance (aa (cy aJ (O 0) ak) (aa (jQ (v:=.ty "tuple") T.zn Bt.tuple rfl) aj))))) (eZ (aG gq (aZ aX T.zd Bt.len (aa (cy aJ (O 0) ak) aj)) (aF gD ak (aZ aX T.zd Bt.len (aa (O 1) aj))) (aK _)))))
    (au (aC fB))
    aM)
   (aq (eG kR rfl (Pj (cy aJ (O 0) ak)) (iP 2 nd)
    (au (aO (PW.pt (dN (cZ (cG (eK T.q92 (JQ T) hr aH (aa (O 2) aj)))) (eZ (aG pP (O 2) ak (aK _)))))
     (au (aC fB))
     aM)))
   (au (aC (du aW (aZ (Fy rfl) T.zM Bt.min (aa (cy aJ (O 0) ak) aj)) ak (aK _))))))),?_⟩
 have el:(ns.map V.str).length=ns.length:=de _;have c1:oh 1 (((ns.map V.str).length:Nat):Int):=⟨G,by rw[el];exact G,b9⟩
 have e1:(1:Int)*2^(((ns.map V.str).length:Nat):Int).toNat=((rs.length:Nat):Int):=by rw[el,E1,hM.len]
 refine⟨_,Z,_,_,_,_,true,Z,Z,.tup ha,Z,_,Z,bD ?_⟩;refine⟨_,Z,a,_,Z,.inr (SqT.of ha),Z,_,Z,aN (fun c=>absurd c (by rw[cK (show V.int (([V.ref np,V.ref r].length:Nat):Int)=V.int 2 from rfl)];decide)) (fun _=>?_)⟩;refine⟨_,Z,a,_,0,_,Z,Z,SqT.of ha,Z,_,_,_,_,true,Z,Z,.tup lS,Z,_,Z,bD ?_⟩;refine⟨_,Z,a,_,0,_,Z,Z,SqT.of ha,Z,_,Z,np,p,ns,ns,Z,Z,SqT.of lS,SqT.of hp,_,Z,?_⟩;rw[cK (rfl:ns=ns)];refine bD ?_;refine⟨_,Z,a,_,1,_,Z,Z,SqT.of ha,Z,_,_,_,_,true,Z,Z,.tup sC,Z,_,Z,bD ?_⟩;refine⟨_,Z,a,_,1,_,Z,Z,SqT.of ha,Z,r,_,Z,.inr (SqT.of sC),_,Z,p,_,Z,.inr (SqT.of hp),_,_,Z,Z,c1,?_⟩
 try dsimp -proj -iota only
 rw[e1,de];refine⟨Z,_,Z,aN (fun c=>absurd c (by rw[cK rfl];decide)) (fun _=>?_)⟩;refine⟨_,Z,a,_,1,_,Z,Z,SqT.of ha,Z,r,Z,⟨_,SqT.of sC⟩,Mj (K:=K) (a:=r) (xs:=rs.map V.int) (fun i M H2=>∃(o:Option V),M=[some (.ref a),some (.ref p),o]/\H2=H) ⟨none,Z,Z⟩ (fun i M H2 _ ⟨_,_,e⟩=>by subst e;exact SqT.of sC) ?_ ?_⟩
 .rintro i y M H2 hi ⟨o,rfl,rfl⟩
  rw[kg]at hi
  obtain⟨x,hx,rfl⟩:∃ x,rs[i]?=some x/\y=V.int x:=by
   cases e:rs[i]? with
   |none=>rw[e]at hi;cases hi
   |some x=>rw[e]at hi;exact⟨x,Z,(kK hi).symm⟩
  have h0:=hM.ge x (pj hx);refine⟨_,Z,x,Z,_,Z,bD ?_⟩;exact⟨_,Z,_,_,Z,Z,_,Z,aN (fun c=>absurd (eT c) G) (fun _=>⟨_,Z,Z⟩)⟩
 rintro M H2 ⟨o,rfl,rfl⟩;refine⟨_,Z,a,_,1,_,Z,Z,SqT.of ha,Z,r,rs,Z,SqT.of sC,List.length_pos_of_mem hM.zero,fun aad h1 h2=>⟨Z,?_⟩⟩;have e:aad=0:=Int.le_antisymm (h2 0 hM.zero) (hM.ge aad h1);subst e;exact k
def t9(B:Int)(rs:List Int):Prop:=∀ z∈rs,z<=B
theorem Bm{l D:Int}(h0:0<=D)(h:l<=D):dH l<=D:=by
 unfold dH
 split
 .exact h0
 exact h
theorem Qz{z:Int}(h:z∈rs):∃ i,i<rs.length/\rs.getD i 0=z:=by
 obtain⟨i,hi,e⟩:=List.getElem_of_mem h;exact⟨i,hi,by rw[List.getD,List.getElem?_eq_getElem hi];exact e⟩
theorem tu(h:i<rs.length):rs.getD i 0∈rs:=by
 rw[List.getD,List.getElem?_eq_getElem h];exact fg h
theorem rC{bk:Nat}{x y D:Int}(hx:0<=x)(hy:0<=y)(h0:0<=D)(h1:lean<=D)(h2 : -lean<=D)(hb:t9 B rs):t9 (B+D) (gj rs bk x y lean):=fun z hz=>by
 obtain⟨i,hi,rfl⟩:=Qz hz;rw[jF]at hi;rw[jm hi];have a1:=hb _ (tu hi);have p1:=Bm h0 h1;have p2:=Bm h0 h2
 split<;>exact G
theorem gG(h:gN ns rs){x:Int}(hx:aU (sel rs sd)=some x):0<=x:=h.ge x (mO (dF hx).1)
theorem t9.more(h:t9 B rs)(hb:B<=B'):t9 B' rs:=fun z hz=>eo (h z hz) hb
theorem JW{D:Int}(hM:gN ns rs)(h0:0<=D)(hb:t9 B rs):t9 (B+D) (jy ns tr rs):=by
 unfold jy
 split
 .rename_i x y hx hy
  split
  .exact rC (gG hM hx) (gG hM hy) h0 h0 G hb
  exact hb.more G
 exact hb.more G
theorem JX{firm D:Int}(hM:gN ns rs)(h0:0<=D)(h1:firm<=D)(h2 : -firm<=D)(hb:t9 B rs):t9 (B+D) (iV ns tr rs firm):=by
 unfold iV
 split
 .rename_i x y hx hy
  exact rC (gG hM hx) (gG hM hy) h0 h1 h2 hb
 exact hb.more G
theorem Dh{aae:L2.St->Hp->Prop}{B:Prop}(S:L2.St->Hp->Prop)(h:(∀ M J,S M J->aae M J)->B)(g:∀ M J,S M J->aae M J):B:=h g
theorem Di{S L B:Prop}(hh:(S->L)->B)(gg:S->L):B:=hh gg
def cN(x:Str):Prop:=x="&"\/x="|"\/x=">"\/x="="
def eU(x:Str):Int:=if x="&" then 4 else if x="|" then 3 else if x=">" then 2 else 1
def fQ(e l:Str):Bool:=if e="(" then false else if e="~" then true else if e=l then !decide (l=">")else decide (eU l<eU e)
abbrev bdL:List (Key×V):=[(.inr "&",.int 4),(.inr "|",.int 3),(.inr ">",.int 2),(.inr "=",.int 1)]
abbrev kdL:List (Key×V):=[(.inr "&",.str "and"),(.inr "|",.str "or"),(.inr ">",.str "then"),(.inr "=",.str "same")]
theorem Dj(h:cN x):bN bdL (.inr x)=some (.int (eU x)):=by
 rcases h with rfl|rfl|rfl|rfl<;>decide +kernel
theorem RK(h:¬cN x):bN bdL (.inr x)=none:=by
 have h1:¬x="&":=fun z=>h (.inl z)
 have h2:¬x="|":=fun z=>h (.inr (.inl z))
 have h3:¬x=">":=fun z=>h (.inr (.inr (.inl z)))
 have h4:¬x="=":=fun z=>h (.inr (.inr (.inr z)))
 simp[bN,List.find?,aS h1,aS h2,aS h3,aS h4,fun z=>h1 (Eq.symm z),fun z=>h2 (Eq.symm z),fun z=>h3 (Eq.symm z),fun z=>h4 (Eq.symm z)]
inductive FG(vs:List V)(H:Hp)(Q:VK)(E:XK):Prop
 |mk(e l:_)(_:vs=[.str e,.str l])(_:(e="("\/e="~"\/cN e))(_:cN l)(_:Q (.bl (fQ e l)) H)
theorem JZ(T:Txt P w K mg t):FM P w base T.q47 1 FG:=by
 refine T.q47.F.fq (N:=["earlier","later"]) eM ?_;rintro nd _ _ _ _ H vs Q E hr ⟨e,l,rfl,he,hl,k⟩;have hu:=eO hr
 refine⟨_,(aq (aO (aG aW (O 0) az (aK _))
    (au (aC fB))
    aM)
   (aq (aO (aG aW (O 0) az (aK _))
    (au (aC fB))
    aM)
   (aq (aO (aG aW (O 0) (O 1) (aK _))
    (au (aC (du gq (O 1) az (aK _))))
    aM)
   (au (aC (du pQ (ji T.zt hu (fG (v:=.ref t.zt) T.zR rfl) (O 0) (fun _ _=>rfl)) (ji T.zt hu (fG (v:=.ref t.zt) T.zR rfl) (O 1) (fun _ _=>rfl)) (aK _))))))),?_⟩
 unfold fQ at k;refine⟨_,Z,Z,_,Z,?_⟩;refine aN (fun e1=>?_) (fun e1=>?_)
 .have e1:e="(":=V.str.inj (eT e1)
  rw[qp e1]at k;exact k
 have e1:¬e="(":=fun z=>e1 (cK (b4 V.str z))
 rw[bX e1]at k;refine⟨_,Z,Z,_,Z,?_⟩;refine aN (fun e2=>?_) (fun e2=>?_)
 .have e2:e="~":=V.str.inj (eT e2)
  rw[qp e2]at k;exact k
 have e2:¬e="~":=fun z=>e2 (cK (b4 V.str z))
 rw[bX e2]at k;have he:cN e:=by rcases he with z|z|z;exact absurd z e1;exact absurd z e2;exact z
 refine⟨_,Z,_,Z,Z,_,Z,?_⟩;refine aN (fun e3=>?_) (fun e3=>?_)
 .have e3:e=l:=V.str.inj (eT e3)
  rw[qp e3]at k;refine⟨_,Z,Z,?_⟩
  have q:(!decide (V.str l=V.str (Str.ofString ">"))) = !decide (l=">"):=by
   by_cases z:l=">"
   .simp[z]
   simp[z]
  rw[q];exact k
 have e3:¬e=l:=fun z=>e3 (cK (b4 V.str z))
 rw[bX e3]at k;refine⟨_,Z,.inr e,_,Z,Z,Dj he,_,Z,.inr l,_,Z,Z,Dj hl,_,_,Z,Z,?_⟩;exact k
def dj(c:Nat):Bool:=decide (97<=c)&&decide (c<=122)
def isName(x:Str):Bool:=(decide (1<=(x.length:Int))&&decide ((x.length:Int)<=8))&&x.cps.toList.all dj
def Small(x:Str):Prop:=x.length<=1000/\∀ c∈x.cps.toList,c<16^8
inductive Dx(vs:List V)(H:Hp)(Q:VK)(E:XK):Prop
 |mk(c:_)(_:vs=[.str ⟨#[c]⟩])(_:Q (.bl (dj c)) H)
inductive DH(vs:List V)(H:Hp)(Q:VK)(E:XK):Prop
 |mk(x:_)(_:vs=[.str x])(_:x.length<=sizeLine)(_:∀ J,(∀ b o,H b=some o->J b=some o)->Q (.bl (isName x)) J)
theorem tD(a b:Nat):decide (([a]:List Nat) < [b])=decide (a<b):=by
 have e:(([a]:List Nat) < [b])↔a<b:=by simp[List.cons_lt_cons_iff]
 simp[e]
theorem Tg(c:Nat):(!decide ((⟨#[c]⟩:Str).cps.toList<(Str.ofString "a").cps.toList))=decide (97<=c):=by
 show(!decide ([c] < [97]))=_;rw[tD]
 by_cases h:97<=c
 .simp[h]
 simp[h];exact G
theorem Th(c:Nat):(!decide ((Str.ofString "z").cps.toList<(⟨#[c]⟩:Str).cps.toList))=decide (c<=122):=by
 show(!decide ([122] < [c]))=_;rw[tD]
 by_cases h:c<=122
 .simp[h]
 simp[h];exact G
theorem vm(T:Txt P w K mg t):FM P w base T.q0 1 Dx:=by
 refine T.q0.F.fq (N:=["sign"]) eM ?_;rintro nd _ _ _ _ _ _ _ _ hr ⟨c,rfl,k⟩;refine⟨_,(au (aC (qO lK lK az (O 0) az))),?_⟩;refine⟨_,Z,_,_,Z,Z,?_⟩;rw[Tg];refine⟨_,Z,?_⟩
 by_cases h1:97<=c
 .rw[qp (cK h1)]
  refine⟨_,_,Z,Z,?_⟩;rw[Th];have e:dj c=decide (c<=122):=by simp[dj,h1]
  rw[<- e];exact k
 rw[bX (by simpa using h1)];have e:dj c=false:=by simp[dj,h1]
 rw[e]at k;exact k
theorem lQ(T:Txt P w K mg t):FM P w base T.q1 2 DH:=by
 refine T.q1.F.fq (N:=["text"]) eM ?_;rintro nd _ _ _ _ H vs Q E hr ⟨x,rfl,hx,k⟩;refine⟨_,(au (aC (nZ (qO lG lG ak (aZ kI T.zd Bt.len (aa (O 0) aj)) (fG (v:=.int 8) T.zaD ⟨_,Z⟩)) (j8 (aZ (jC rfl) T.zC Bt.all (aa (bT rfl ["sign"] [none] (xq (O 0)) gT (fun _ _ _ _ _ _=>(iP 0 (l8 (l:=["sign"])))) (fun _ _ _ _ _ _=>bZ) (fun _ _ _ _ _ _=>(eK T.q0 (vm T) hr aH (aa (O 0) aj)))) aj)))))),?_⟩;refine⟨_,Z,_,Z,hx,_,_,Z,Z,_,Z,?_⟩;have fin:isName x=false->Q (.bl false) H:=fun e=>by have:=k H (fun _ _ z=>z);rw[e]at this;exact this
 refine aN (fun e1=>?_) (fun e1=>⟨_,rfl,fin (by simp at e1;simp[isName];exact G)⟩);have e1:=eT e1;refine⟨_,_,Z,Z,_,Z,?_⟩;refine aN (fun e2=>?_) (fun e2=>fin (by simp at e2;simp[isName];exact G));have e2:=eT e2;refine⟨_,Z,x,Z,oK (fun c=>.bl (dj c)) hx (fun c R _ hR=>⟨True.intro,_,Z,c,Z,hR⟩) fun p hp=>?_⟩;refine⟨p,x.cps.toList.map dj,Z,?_,?_⟩
 .refine b5.of ?_
  rw[ao,dr];rfl
 have:=k (upd H p (.lst (x.cps.toList.map fun c=>V.bl (dj c)))) (fun b o q=>by rw[aA (fun z=>by rw[z,hp]at q;cases q)];exact q);have e:isName x=(x.cps.toList.map dj).all id:=by simp[isName,e1,e2]
 rw[e]at this;exact this
inductive FD(t:l9)(vs:List V)(H:Hp)(Q:VK)(E:XK):Prop
 |mk(x:_)(_:vs=[.str x])(_:Small x)(_:((x="1"/\∀ p,H p=none->Q (.ref p) (upd H p (.tup [.str "yes"])))\/(x="0"/\∀ p,H p=none->Q (.ref p) (upd H p (.tup [.str "no"])))\/(¬x="1"/\¬x="0"/\∀ J,(∀ b o,H b=some o->J b=some o)->if isName x=true then ∀ p,J p=none->Q (.ref p) (upd J p (.tup [.str "name",.str x]))else E (.ref t.zk) none J)))
theorem J0(T:Txt P w K mg t):FM P w base T.q46 3 (FD t):=by
 refine T.q46.F.fq (N:=["word"]) eM ?_;rintro nd _ _ _ _ H _ Q E hr ⟨x,rfl,hx,k⟩
 refine⟨_,(aq (aO (aG aW (O 0) az (aK _))
    (au (aC (bj (aa az aj))))
    aM)
   (aq (aO (aG aW (O 0) az (aK _))
    (au (aC (bj (aa az aj))))
    aM)
   (aq (aO (cZ (cG (eK T.q1 (lQ T) hr aH (aa (O 0) aj))))
    (au (c7 dU rfl T.zu T.zz (aa (xr az (uf (O 0))) aj)))
    aM)
   (au (aC (bj (aa az (aa (O 0) aj)))))))),?_⟩
 refine⟨_,Z,Z,_,Z,?_⟩;refine aN (fun e=>?_) (fun e=>?_)
 .have e:x="1":=V.str.inj (eT e)
  rcases k with⟨_,k⟩|⟨e',_⟩|⟨e',_⟩
  .exact⟨v_,fun p hp=>k p hp⟩
  .rw[e]at e';exact absurd e' dk
  exact absurd e e'
 have e1:¬x="1":=fun z=>e (cK (b4 V.str z))
 refine⟨_,Z,Z,_,Z,?_⟩;refine aN (fun e=>?_) (fun e=>?_)
 .have e:x="0":=V.str.inj (eT e)
  rcases k with⟨e',_⟩|⟨_,k⟩|⟨_,e',_⟩
  .exact absurd e' e1
  .exact⟨v_,fun p hp=>k p hp⟩
  exact absurd e e'
 have e0:¬x="0":=fun z=>e (cK (b4 V.str z))
 have k:∀ J,(∀ b o,H b=some o->J b=some o)->if isName x=true then ∀ p,J p=none->Q (.ref p) (upd J p (.tup [.str "name",.str x]))else E (.ref t.zk) none J:=by
  rcases k with⟨e',_⟩|⟨e',_⟩|⟨_,_,k⟩
  .exact absurd e' e1
  .exact absurd e' e0
  exact k
 refine⟨_,Z,x,Z,g9 hx.1 b9,fun J s'=>?_⟩;have k':=k J s';refine⟨_,Z,?_⟩;cases hn:isName x with
 | true =>
  rw[hn,qp rfl]at k';exact⟨_,Z,xS,fun p hp=>k' p hp⟩
 | false =>
  rw[hn,bX b9]at k';rw[qp (show(!false)=true from rfl)];refine⟨_,Z,dk,_,Z,x,Z,repr_fits hx.2 hx.1,_,Z,?_,v_,k'⟩;have e1:=PySem.StrLaws.reprText_len x hx.2;have e2:=hx.1;rw[i5];have e3:(Str.ofString "no part of a sentence begins with ").length=34:=by decide +kernel
  rw[e3];unfold sizeLine;exact G
def dX(st:List Str×Str)(c:Nat):List Str×Str :=
 if dj c=true then(st.1,st.2++⟨#[c]⟩)else
  (if c=32 then(if st.2="" then st.1 else st.1++[st.2])else(if st.2="" then st.1 else st.1++[st.2])++[⟨#[c]⟩],"")
def fM(l:List Nat):List Str×Str:=l.foldl dX ([],"")
theorem jV(l:List Nat)(c:Nat):fM (l++[c])=dX (fM l) c:=by simp[fM]
def jH(x:Str):List Str:=(fM (x.cps.toList++[32])).1
theorem Gv{st:List Str×Str}(h1:st.1.length<=2*n)(h2:st.2.length<=n):(dX st c).1.length<=2*(n+1)/\(dX st c).2.length<=n+1:=by
 unfold dX;have e0:(Str.ofString "").length=0:=rfl
 split
 .refine⟨by show st.1.length<=_;exact G,?_⟩
  show(st.2++⟨#[c]⟩:Str).length <= _;rw[i5];have:(⟨#[c]⟩:Str).length=1:=rfl;exact G
 refine⟨?_,?_⟩
 .show(if c=32 then _ else _:List Str).length <= _
  split<;>split<;>first|omega | (simp only[af,ba,r_];exact G)
 show(Str.ofString "").length <= _;rw[e0];exact mi _
theorem lR:∀(k:Nat)(l:List Nat),l.length=k->(fM l).1.length<=2*l.length/\(fM l).2.length<=l.length
 | 0,l,h=>by
  have:l=[]:=kz.mp h;subst this;exact⟨qnr _,qnr _⟩
 | k+1,l,h=>by
  have hne:l≠[]:=fun z=>by rw[z]at h;cases h
  obtain⟨l',c,rfl⟩:∃ l' c,l=l'++[c]:=⟨l.dropLast,l.getLast hne,(eJ hne).symm⟩
  rw[jV];have hk:l'.length=k:=by simpa using h
  obtain⟨h1,h2⟩:=lR k l' hk;have:=Gv (c:=c) h1 h2
  simpa using this
inductive FA(vs:List V)(H:Hp)(Q:VK)(E:XK):Prop
 |mk(x:_)(_:vs=[.str x])(_:x.length<=1000)(_:∀ p,H p=none->Q (.ref p) (upd H p (.lst ((jH x).map V.str))))
theorem J1(T:Txt P w K mg t):FM P w base T.q45 2 FA:=by
 refine T.q45.F.fq (N:=["text","words","name","sign"]) eM ?_;rintro nd _ _ _ _ H _ _ _ hr ⟨x,rfl,hx,k⟩
 refine ⟨_,(aq (fR 1 nd (bz aj))
   (aq (fR 2 nd az)
   (aq (eG kR rfl (xq (aF bI (O 0) az)) (iP 3 nd)
    (aq (aO (cG (eK T.q0 (vm T) hr aH (aa (O 3) aj)))
     (aq (pal 2 nd (O 3) yR)
     (au yQ))
     aM)
    (aq (aO (aG gq (O 2) az (aK _))
     (aq (bw (b8 PySem.F.plainAttrs_list PySem.F.slot_list_append PySem.F.type_list_append cD (O 1) (aa (O 2) aj)))
     (au (fR 2 nd az)))
     aM)
    (au (aO (aG gq (O 3) az (aK _))
     (au (bw (b8 PySem.F.plainAttrs_list PySem.F.slot_list_append PySem.F.type_list_append cD (O 1) (aa (O 3) aj))))
     aM)))))
   (au (aC (O 1)))))),?_⟩
 have hl:x.length+(Str.ofString " ").length <= sizeLine:=by
  have:(Str.ofString " ").length=1:=rfl;unfold sizeLine;exact G
 refine⟨mi _,fun p hp=>?_⟩
 refine⟨_,rfl,_,_,rfl,rfl,hl,_,rfl,M4 (x:=x++Str.ofString " ") (fun i M H2=>∃ sg,M=[some (.str x),some (.ref p),some (.str (fM ((x++Str.ofString " ").cps.toList.take i)).2),sg]/\H2=upd H p (.lst ((fM ((x++Str.ofString " ").cps.toList.take i)).1.map V.str)))
  ⟨none,rfl,rfl⟩ ?_ ?_⟩
 .rintro i c M H2 hi ⟨sg,rfl,rfl⟩
  have OV:(x++Str.ofString " ").cps.toList[i]?=some c:=by simpa using hi
  have e1:fM ((x++Str.ofString " ").cps.toList.take (i+1))=dX (fM ((x++Str.ofString " ").cps.toList.take i)) c:=by
   rw[qE,OV];exact jV _ _
  have hb:=lR _ ((x++Str.ofString " ").cps.toList.take i) rfl
  have hn:((x++Str.ofString " ").cps.toList.take i).length <= 1001:=by
   have q1:(x++Str.ofString " ").length=x.length+1:=i5 _ _;have q2:(x++Str.ofString " ").cps.toList.length=(x++Str.ofString " ").length:=by simp[Str.length]
   rw[bq];exact G
  rw[e1];generalize fM ((x++Str.ofString " ").cps.toList.take i)=st at hb ⊢;obtain⟨ws,nm⟩:=st;obtain⟨NR,NO⟩:=hb;dsimp only at NR NO ⊢;refine⟨_,Z,c,Z,_,Z,?_⟩;unfold dX;cases hL:dj c with
  | true =>
   rw[qp rfl];refine⟨_,Z,_,Z,_,_,Z,Z,?_,⟨_,Z,Z⟩⟩;have:(⟨#[c]⟩:Str).length=1:=rfl;unfold sizeLine;exact G
  | false =>
   rw[bX b9]
   have hc:(⟨#[c]⟩:Str)=Str.ofString " "↔c=32:=by
    constructor
    .intro z
     have z:=b4 (fun y:Str=>y.cps.toList) z;have z:[c]=[32]:=z
     simpa using z
    rintro rfl;rfl
   refine⟨_,Z,Z,_,Z,?_⟩;refine aN (fun e=>?_) (fun e=>?_)
   .have e:¬nm="":=by
     intro z;subst z;simp at e
    refine⟨_,Z,.inl ⟨Z,_,b5.of ao⟩,_,Z,p,_,_,Z,Z,ao,(by unfold sizeLine;simp;exact G),?_⟩;refine⟨_,Z,Z,_,Z,?_⟩;refine aN (fun e2=>?_) (fun e2=>?_)
    .have e2:¬c=32:=by
      intro z;have:=hc.mpr z;rw[this]at e2;simp at e2
     refine⟨_,Z,.inl ⟨Z,_,b5.of ao⟩,_,Z,p,_,_,Z,Z,ao,(by unfold sizeLine;simp;exact G),?_⟩;refine⟨_,Z,?_⟩;rw[pN,pN];simp[e,e2]
    have e2:c=32:=by
     apply eB;intro z;exact e2 (by simp[show ¬(⟨#[c]⟩:Str)=Str.ofString " " from fun y=>z (hc.mp y)])
    refine⟨_,Z,?_⟩;rw[pN];simp[e,e2]
   have e:nm="":=by
    apply eB;intro z;exact e (by simp[z])
   refine⟨_,Z,Z,_,Z,?_⟩;refine aN (fun e2=>?_) (fun e2=>?_)
   .have e2:¬c=32:=by
     intro z;have:=hc.mpr z;rw[this]at e2;simp at e2
    refine⟨_,Z,.inl ⟨Z,_,b5.of ao⟩,_,Z,p,_,_,Z,Z,ao,(by unfold sizeLine;simp;exact G),?_⟩;refine⟨_,by rw[e];rfl,?_⟩;rw[pN];simp[e,e2]
   have e2:c=32:=by
    apply eB;intro z;exact e2 (by simp[show ¬(⟨#[c]⟩:Str)=Str.ofString " " from fun y=>z (hc.mp y)])
   refine⟨_,by rw[e];rfl,?_⟩;simp[e,e2]
 rintro M H2 ⟨sg,rfl,rfl⟩
 have e:(x++Str.ofString " ").cps.toList.take (x++Str.ofString " ").cps.size=x.cps.toList++[32]:=by
  rw[fS oz];show(x.cps ++ #[32]).toList=_;simp
 rw[e];exact⟨_,Z,k p hp⟩
theorem RL:¬(("trees":Str)="signs"):=by decide +kernel
def fl(tl sl:Addr):List (Str×V):=bf "signs" (.ref sl) (bf "trees" (.ref tl) [])
theorem jn(tl sl:Addr):(fl tl sl).lookup ("trees":Str)=some (.ref tl):=by
 unfold fl;rw[bB,bX RL,bB,qp rfl]
theorem eE(tl sl:Addr):(fl tl sl).lookup ("signs":Str)=some (.ref sl):=by
 unfold fl;rw[bB,qp rfl]
theorem lU(tl sl:Addr)  (h1:¬m="signs") (h2:¬m="trees"):(fl tl sl).lookup m=none:=by
 unfold fl;rw[bB,bX h1,bB,bX h2]
 all_goals rfl
structure oQ(C:Addr)(H:Hp)(p dx tl sl:Addr)(ts:List Tr)(ss:List Str):Prop where
 ob:H p=some (.ins C dx (fl tl sl))
 ne:tl≠sl
 tr:∃ us,H tl=some (.lst us)/\Paired (eD H) us.reverse ts
 sg:H sl=some (.lst (ss.reverse.map V.str))
def iS(tl sl:Addr)(H J:Hp):Prop:=∀ b o,H b=some o->b≠tl->b≠sl->J b=some o
inductive FE(C:Addr)(vs:List V)(H:Hp)(Q:VK)(E:XK):Prop
 |mk(p dx:_)(_:vs=[.ref p])(_:H p=some (.ins C dx []))(_:∀ tl sl J,H tl=none->H sl=none->oQ C J p dx tl sl [] []->(∀ b o,H b=some o->b≠p->J b=some o)->Q .non J)
def pB(x:Str):Op:=if x="&" then .and else if x="|" then .or else if x=">" then .thn else .same
theorem RM(h:cN x):bN kdL (.inr x)=some (.str (pB x).str):=by
 rcases h with rfl|rfl|rfl|rfl<;>decide +kernel
def fC(s:Str):List Tr->List Tr
 | r::rest=>if s="~" then .not r::rest else match rest with
  |l::so=>.bin (pB s) l r::so
  |[]=>[r]
 |[]=>[]
inductive L6(C:Addr)(vs:List V)(H:Hp)(Q:VK)(E:XK):Prop
 |mk(p dx tl sl ts s ss:_)(_:vs=[.ref p])(_:oQ C H p dx tl sl ts (s::ss))(_:((s="~"/\1<=ts.length)\/(cN s/\2<=ts.length)))(_:ts.length<=5000)(_:∀ J,oQ C J p dx tl sl (fC s ts) ss->iS tl sl H J->Q .non J)
theorem J2(T:Txt P w K mg t):Fm P w mg base T.q48 1 (FE t.zc):=by
 refine T.q48.F.fq (N:=["self"]) eM ?_;rintro nd _ _ _ _ _ _ _ _ hr ⟨p,dx,rfl,hp,k⟩
 refine⟨_,(aq (iM (O 0) (bz aj) rfl)
   (au (iM (O 0) (bz aj) rfl))),?_⟩
 refine⟨mi _,fun tl htl=>?_⟩;have n1:p≠tl:=aD hp htl;refine⟨_,Z,p,t.zc,dx,_,Z,by rw[aA n1];exact hp,T.zf,T.zx,(by show 0<1000;decide),?_⟩;refine⟨mi _,fun sl hsl=>?_⟩;have n2:p≠sl:=aD ao hsl
 have n3:tl≠sl:=by
  intro z;subst z;rw[aA (aS n1),ao]at hsl;cases hsl
 refine⟨_,Z,p,t.zc,dx,_,Z,by rw[aA n2,ao],T.zf,T.zm,(by show 1<1000;decide),?_⟩;refine k tl sl _ htl ?_ ⟨ao,n3,⟨[],?_,.nil⟩,?_⟩ fun b o e hb=>?_
 .rw[aA (aS n2),aA (aS n3)]at hsl;exact hsl
 .rw[aA (aS n1),aA n3,aA (aS n1),ao]
 .rw[aA (aS n2),ao];rfl
 have b1:b≠tl:=aD e htl;have b2:b≠sl:=aD (by rw[aA hb,aA b1];exact e) hsl;rw[aA hb,aA b2,aA hb,aA b1];exact e
theorem Bo(T:Txt P w K mg t):Fm P w mg base T.q51 1 (L6 t.zc):=by
 refine T.q51.F.fq (N:=["self","sign","right","left"]) eM ?_;rintro nd _ _ _ s H _ _ _ hr ⟨p,dx,tl,sl,ts,sg,ss,rfl,U,hs,hl,k⟩;have hu:=eO hr
 refine⟨_,(aq (fR 1 nd (gW PySem.F.plainAttrs_list PySem.F.slot_list_pop PySem.F.type_list_pop iQ (bC (O 0) rfl)))
   (aq (fR 2 nd (gW PySem.F.plainAttrs_list PySem.F.slot_list_pop PySem.F.type_list_pop iQ (bC (O 0) rfl)))
   (aq (aO (aG aW (O 1) az (aK _))
    (aq (bw (b8 PySem.F.plainAttrs_list PySem.F.slot_list_append PySem.F.type_list_append cD (bC (O 0) rfl) (aa (bj (aa az (aa (O 2) aj))) aj)))
    (au Mi))
    aM)
   (aq (fR 3 nd (gW PySem.F.plainAttrs_list PySem.F.slot_list_pop PySem.F.type_list_pop iQ (bC (O 0) rfl)))
   (au (bw (b8 PySem.F.plainAttrs_list PySem.F.slot_list_append PySem.F.type_list_append cD (bC (O 0) rfl) (aa (bj (aa (ji T.zJ hu (fG (v:=.ref t.zJ) T.zaC rfl) (O 1) (fun _ _=>rfl)) (aa (O 3) (aa (O 2) aj)))) aj)))))))),?_⟩
 obtain⟨ob,ne,⟨us,htl,hpu⟩,hsl⟩:=U;have Iq:H sl=some (.lst (ss.reverse.map V.str++[.str sg])):=by rw[hsl];simp
 have tP:p≠sl:=aY ob hsl;have HK:p≠tl:=aY ob htl
 obtain⟨r,rest,rfl⟩:∃ r rest,ts=r::rest:=by
  cases ts with
  |nil=>rcases hs with⟨_,z⟩|⟨_,z⟩<;>simp at z
  |cons r rest=>exact⟨r,rest,Z⟩
 obtain⟨ur,vr,CM,E8,hpr⟩:∃ ur vr,us=vr.reverse++[ur]/\eD H ur r/\Paired (eD H) vr rest:=by
  generalize hq:us.reverse=q at hpu;cases hpu with
  |cons h1 h2=>exact⟨_,_,by rw[<- fo us,hq];simp,h1,h2⟩
 subst CM;refine⟨_,Z,p,t.zc,dx,_,_,Z,ob,T.zf,T.zm,eE _ _,.inl ⟨Z,_,b5.of hsl⟩,sl,_,.str sg,Z,Z,Iq,oz,?_⟩;rw[d_];generalize _a:upd H sl (.lst (ss.reverse.map V.str))=H1;have o1:∀ b,b≠sl->H1 b=H b:=fun b hb=>by rw[<- _a,aA hb]
 refine⟨_,Z,p,t.zc,dx,_,_,Z,(o1 p tP).trans ob,T.zf,T.zx,jn _ _,.inl ⟨Z,_,b5.of ((o1 tl ne).trans htl)⟩,tl,_,ur,Z,Z,(o1 tl ne).trans htl,oz,?_⟩;rw[d_];generalize NU:upd H1 tl (.lst vr.reverse)=H2;have o2:∀ b,b≠sl->b≠tl->H2 b=H b:=fun b hb y8=>by rw[<- NU,aA y8,o1 b hb]
 have uk:H2 tl=some (.lst vr.reverse):=by rw[<- NU,ao]
 have D3:H2 sl=some (.lst (ss.reverse.map V.str)):=by rw[<- NU,aA (aS ne),<- _a,ao]
 have VX:fF H H2:=fun b xs e=>(o2 b (aY e hsl) (aY e htl)).trans e
 refine⟨_,Z,Z,_,Z,?_⟩;refine aN (fun e=>?_) (fun e=>?_)
 .have e:sg="~":=V.str.inj (eT e)
  refine⟨_,Z,p,t.zc,dx,_,_,Z,(o2 p tP HK).trans ob,T.zf,T.zx,jn _ _,.inl ⟨Z,_,b5.of uk⟩,_,Z,xS,fun q hq=>?_⟩;have n1:tl≠q:=aD uk hq;have n2:sl≠q:=aD D3 hq;refine⟨tl,_,_,Z,Z,by rw[aA n1];exact uk,?_,?_⟩
  .have:=aT hpr
   simp at hl ⊢;unfold sizeLine;exact G
  have up:∀ b o,H2 b=some o->b≠tl->upd (upd H2 q (.tup [.str "not",ur])) tl (.lst (vr.reverse++[.ref q])) b=some o:=fun b o z hb=>by
   rw[aA hb,aA (aD z hq)];exact z
  have Fh:fF H (upd (upd H2 q (.tup [.str "not",ur])) tl (.lst (vr.reverse++[.ref q]))):=fun b xs z=>up b _ (VX b xs z) (aY z htl)
  refine k _ ⟨up p _ ((o2 p tP HK).trans ob) HK,ne,⟨_,ao,?_⟩,up sl _ D3 (aS ne)⟩ fun b o z h1 h2=>up b o ((o2 b h2 h1).trans z) h1
  rw[vw];simp only[fC,e,i6,fo];refine .cons (.not ?_ (E8.mono Fh)) (dD Fh hpr);rw[aA (aS n1),ao]
 have e:¬sg="~":=fun z=>e (cK (b4 V.str z))
 obtain⟨hop,h2⟩:cN sg/\2<=(r::rest).length:=by rcases hs with⟨z,_⟩|z;exact absurd z e;exact z
 obtain⟨l,so,rfl⟩:∃ l so,rest=l::so:=by
  cases rest with
  |nil=>simp at h2
  |cons l so=>exact⟨l,so,Z⟩
 obtain⟨ul,JJ,rfl,qV,hpr⟩:∃ ul JJ,vr=ul::JJ/\eD H ul l/\Paired (eD H) JJ so:=by
  cases hpr with
  |cons h1 h2=>exact⟨_,_,Z,h1,h2⟩
 have RE:H2 tl=some (.lst (JJ.reverse++[ul])):=by rw[uk];simp
 refine⟨_,Z,p,t.zc,dx,_,_,Z,(o2 p tP HK).trans ob,T.zf,T.zx,jn _ _,.inl ⟨Z,_,b5.of uk⟩,tl,_,ul,Z,Z,RE,oz,?_⟩;rw[d_];generalize XC:upd H2 tl (.lst JJ.reverse)=H3;have o3:∀ b,b≠sl->b≠tl->H3 b=H b:=fun b hb y8=>by rw[<- XC,aA y8,o2 b hb y8]
 have MW:H3 tl=some (.lst JJ.reverse):=by rw[<- XC,ao]
 have RH:H3 sl=some (.lst (ss.reverse.map V.str)):=by rw[<- XC,aA (aS ne),D3]
 have Fh:fF H H3:=fun b xs e=>(o3 b (aY e hsl) (aY e htl)).trans e
 refine⟨_,Z,p,t.zc,dx,_,_,Z,(o3 p tP HK).trans ob,T.zf,T.zx,jn _ _,.inl ⟨Z,_,b5.of MW⟩,_,Z,.inr sg,_,Z,Z,RM hop,_,Z,_,Z,(by show 3<=sizeLine;decide),fun q hq=>?_⟩;have n1:tl≠q:=aD MW hq;have n2:sl≠q:=aD RH hq;refine⟨tl,_,_,Z,Z,by rw[aA n1];exact MW,?_,?_⟩
 .have:=aT hpr
  simp at hl ⊢;unfold sizeLine;exact G
 have up:∀ b o,H3 b=some o->b≠tl->upd (upd H3 q (.tup [.str (pB sg).str,ul,ur])) tl (.lst (JJ.reverse++[.ref q])) b=some o:=fun b o z hb=>by
  rw[aA hb,aA (aD z hq)];exact z
 have LI:fF H (upd (upd H3 q (.tup [.str (pB sg).str,ul,ur])) tl (.lst (JJ.reverse++[.ref q]))):=fun b xs z=>up b _ (Fh b xs z) (aY z htl)
 refine k _ ⟨up p _ ((o3 p tP HK).trans ob) HK,ne,⟨_,ao,?_⟩,up sl _ RH (aS ne)⟩ fun b o z h1 h2=>up b o ((o3 b h2 h1).trans z) h1
 rw[vw];simp only[fC,e,jS,fo];refine .cons (.bin ?_ (qV.mono LI) (E8.mono LI)) (dD LI hpr);rw[aA (aS n1),ao]
def DT(ss:List Str):Prop:=∀ s∈ss,s="("\/s="~"\/cN s
def nb(ss:List Str):Nat:=ss.countP fun s:Str=>!decide (s="(") && !decide (s="~")
def bc(c:Str->Bool):List Tr->List Str->List Tr×List Str
 |ts,[]=>(ts,[])
 |ts,s::ss=>if c s=true then bc c (fC s ts) ss else(ts,s::ss)
theorem lV{s:Str}(h:cN s):¬s="("/\¬s="~":=by
 rcases h with rfl|rfl|rfl|rfl<;>exact⟨dk,dk⟩
theorem xX(ss:List Str):nb ("~" :: ss)=nb ss:=by
 unfold nb;rw[gd];simp
theorem Ly{s:Str}(h:cN s)(ss:List Str):nb (s::ss)=nb ss+1:=by
 unfold nb;rw[gd];simp[(lV h).1,(lV h).2]
theorem Lz(ss:List Str):nb ("(" :: ss)=nb ss:=by
 unfold nb;rw[gd];simp
theorem jW{s:Str}   (ho:s="~"\/cN s) (h:ts.length=nb (s::ss)+1):((s="~"/\1<=ts.length)\/(cN s/\2<=ts.length))/\(fC s ts).length=nb ss+1:=by
 rcases ho with rfl|ho
 .rw[xX]at h
  refine⟨.inl ⟨Z,G⟩,?_⟩;cases ts with
  |nil=>simp at h
  |cons r rest=>simpa[fC]using h
 rw[Ly ho]at h;refine⟨.inr ⟨ho,G⟩,?_⟩
 match ts,h with
 |r::l::rest,h=>simpa[fC,(lV ho).2]using h
theorem iS.trans{tl:Addr}(a:iS tl sl H H1)(b:iS tl sl H1 H2):iS tl sl H H2:=fun c o e h1 h2=>b c o (a c o e h1 h2) h1 h2
def bL(s:Str):Bool:=!decide (s="(")
inductive P4(C:Addr)(vs:List V)(H:Hp)(Q:VK)(E:XK):Prop
 |mk(p dx tl sl ts ss:_)(_:vs=[.ref p])(_:oQ C H p dx tl sl ts ss)(_:DT ss)(_:ts.length=nb ss+1)(_:ts.length<=5000)(_:∀ J,oQ C J p dx tl sl (bc bL ts ss).1 (bc bL ts ss).2 -> iS tl sl H J->Q .non J)
theorem Gw(T:Txt P w K mg t):Fm P w mg base T.q52 2 (P4 t.zc):=by
 refine T.q52.F.fq (N:=["self"]) eM ?_;rintro nd _ _ _ s H vs Q E hr ⟨p,dx,tl,sl,ts,ss,rfl,U,hok,hc,hl,k⟩
 refine⟨_,(au (j9 kR (PW.pt (gQ (ie (bC (O 0) rfl) (fun _=>rfl)) (gk (aG gq (cy bh (bC (O 0) rfl) (jr gR ak)) az (aK _)))))
    (au (bw (gF (O 0) T.zf T.q51 (Bo T) hr aH))))),?_⟩
 refine⟨fun m M H2=>∃ mE ss',m=ss'.length/\M=[some (.ref p)]/\oQ t.zc H2 p dx tl sl mE ss'/\iS tl sl H H2/\DT ss'/\mE.length=nb ss'+1/\mE.length<=5000/\bc bL mE ss'=bc bL ts ss,
  ⟨_,ts,ss,rfl,rfl,U,fun _ _ z _ _=>z,hok,hc,hl,rfl⟩,?_⟩
 rintro m M H2 ⟨mE,ss',rfl,rfl,U2,k2,Cc,ng,mP,hf⟩;refine⟨_,Z,p,_,dx,_,_,Z,U2.ob,T.zf,T.zm,eE _ _,_,.inl ⟨_,b5.of U2.sg,Z⟩,?_⟩;cases ss' with
 | nil =>
  refine bD ?_;refine bD ?_;rw[<- hf]at k;exact k H2 U2 k2
 | cons s1 wx =>
  have Kx:H2 sl=some (.lst (wx.reverse.map V.str++[.str s1])):=by rw[U2.sg];simp
  rw[qp oz];refine⟨_,Z,p,_,dx,_,_,Z,U2.ob,T.zf,T.zm,eE _ _,_,Z,sl,_,-1,.str s1,Z,Z,b5.of Kx,ir _ _,Z,_,Z,?_⟩;refine aN (fun e=>?_) (fun e=>?_)
  .have e:¬s1="(":=by intro z;subst z;simp at e
   have ho:s1="~"\/cN s1:=(Cc s1 oz).resolve_left e;obtain⟨q1,q2⟩:=jW ho ng;refine⟨fun σ' J=>σ'=[some (.ref p)]/\oQ t.zc J p dx tl sl (fC s1 mE) wx/\iS tl sl H2 J,?_,?_⟩
   .rintro σ' J ⟨rfl,U3,k3⟩
    refine⟨wx.length,oz,fC s1 mE,wx,Z,Z,U3,k2.trans k3,fun s hs=>Cc s (by simp[hs]),q2,?_,?_⟩
    .have h1:nb wx<=nb (s1::wx):=by unfold nb;rw[gd];exact G
     exact G
    rw[<- hf];simp[bc,bL,e]
   exact⟨_,Z,p,dx,_,Z,U2.ob,lU _ _ dk dk,p,dx,tl,sl,mE,s1,wx,Z,U2,q1,mP,fun J U3 k3=>⟨Z,U3,k3⟩⟩
  have e:s1="(":=by
   apply eB;intro z;exact e (by simp[z])
  have:bc bL mE (s1::wx)=(mE,s1::wx):=by simp[bc,bL,e]
  rw[<- hf,this]at k;exact k H2 U2 k2
inductive GL(t:l9)(vs:List V)(H:Hp)(Q:VK)(E:XK):Prop
 |mk(p dx tl sl ts ss:_)(_:vs=[.ref p])(_:oQ t.zc H p dx tl sl ts ss)(_:DT ss)(_:ts.length=nb ss+1)(_:ts.length<=5000)(_:(∀ J,(bc bL ts ss).2=[]->iS tl sl H J->E (.ref t.zk) none J))(_:(∀ J s2 ss2,(bc bL ts ss).2=s2::ss2->oQ t.zc J p dx tl sl (bc bL ts ss).1 ss2->iS tl sl H J->Q .non J))
inductive C6(t:l9)(vs:List V)(H:Hp)(Q:VK)(E:XK):Prop
 |mk(p dx tl sl ts ss:_)(_:vs=[.ref p])(_:oQ t.zc H p dx tl sl ts ss)(_:DT ss)(_:ts.length=nb ss+1)(_:ts.length<=5000)(_:(∀ J,¬(bc bL ts ss).2=[]->iS tl sl H J->E (.ref t.zk) none J))(_:(∀ J v r rest,(bc bL ts ss).2=[]->(bc bL ts ss).1=r::rest->eD J v r->iS tl sl H J->Q v J))
theorem Aa(ho:DT ss)(h:ts.length=nb ss+1):(bc bL ts ss).1.length=nb (bc bL ts ss).2+1:=by
 induction ss generalizing ts with
 |nil=>exact h
 | cons s ss ih =>
  unfold bc
  by_cases e:s="("
  .simp[bL,e];rw[e]at h;exact h
  have yB:s="~"\/cN s:=(ho s oz).resolve_left e;have q:=jW yB h;simp only[bL,e,decide_false,Bool.not_false,i6];exact ih (fun x hx=>ho x (by simp[hx])) q.2
theorem J3(T:Txt P w K mg t):Fm P w mg base T.q53 3 (GL t):=by
 refine T.q53.F.fq (N:=["self"]) eM ?_;rintro nd _ _ _ _ _ _ _ _ hr ⟨p,dx,tl,sl,ts,ss,rfl,U,hok,hc,hl,kE,kQ⟩
 refine⟨_,(aq (bw (gF (O 0) T.zf T.q52 (Gw T) hr aH))
   (aq (aO (cZ (ie (bC (O 0) rfl) (fun _=>rfl)))
    (au (c7 dU rfl T.zu T.zz (aa az aj)))
    aM)
   (au (bw (gW PySem.F.plainAttrs_list PySem.F.slot_list_pop PySem.F.type_list_pop iQ (bC (O 0) rfl)))))),?_⟩
 refine⟨_,Z,p,dx,_,Z,U.ob,lU _ _ dk dk,p,dx,tl,sl,ts,ss,Z,U,hok,hc,hl,fun H2 U2 k2=>?_⟩;generalize bc bL ts ss=f at *;obtain⟨ts2,ss2⟩:=f;refine⟨_,Z,p,_,dx,_,_,Z,U2.ob,T.zf,T.zm,eE _ _,_,.inl ⟨_,b5.of U2.sg,Z⟩,?_⟩;cases ss2 with
 |nil=>exact bU ⟨v_,kE H2 rfl k2⟩
 | cons s2 ss3 =>
  rw[bX oz];have Kx:H2 sl=some (.lst (ss3.reverse.map V.str++[.str s2])):=by rw[U2.sg];simp
  have tP:p≠sl:=aY U2.ob Kx;refine⟨_,Z,p,_,dx,_,_,Z,U2.ob,T.zf,T.zm,eE _ _,.inl ⟨Z,_,b5.of Kx⟩,sl,_,.str s2,Z,Z,Kx,oz,?_⟩;rw[d_];obtain⟨us,htl,hpu⟩:=U2.tr;have up:∀ b o,H2 b=some o->b≠sl->upd H2 sl (.lst (ss3.reverse.map V.str)) b=some o:=fun b o z hb=>by rw[aA hb];exact z
  have tup:fF H2 (upd H2 sl (.lst (ss3.reverse.map V.str))):=fun b xs z=>up b _ z (aY z Kx)
  exact kQ _ s2 ss3 rfl ⟨up p _ U2.ob tP,U2.ne,⟨us,up tl _ htl U2.ne,dD tup hpu⟩,ao⟩ (k2.trans fun b o z h1 h2=>up b o z h2)
theorem Gx(T:Txt P w K mg t):Fm P w mg base T.q54 3 (C6 t):=by
 refine T.q54.F.fq (N:=["self"]) eM ?_;rintro nd _ _ _ _ H vs Q E hr ⟨p,dx,tl,sl,ts,ss,rfl,U,hok,hc,hl,kE,kQ⟩
 refine⟨_,(aq (bw (gF (O 0) T.zf T.q52 (Gw T) hr aH))
   (aq (aO (ie (bC (O 0) rfl) (fun _=>rfl))
    (au (c7 dU rfl T.zu T.zz (aa az aj)))
    aM)
   (au (aC (gW PySem.F.plainAttrs_list PySem.F.slot_list_pop PySem.F.type_list_pop iQ (bC (O 0) rfl)))))),?_⟩
 have ng:=Aa hok hc;refine⟨_,Z,p,dx,_,Z,U.ob,lU _ _ dk dk,p,dx,tl,sl,ts,ss,Z,U,hok,hc,hl,fun H2 U2 k2=>?_⟩;generalize bc bL ts ss=f at *;obtain⟨ts2,ss2⟩:=f;refine⟨_,Z,p,_,dx,_,_,Z,U2.ob,T.zf,T.zm,eE _ _,_,.inl ⟨_,b5.of U2.sg,Z⟩,?_⟩;cases ss2 with
 | cons s2 ss3 =>
  rw[qp oz];exact⟨v_,kE H2 oz k2⟩
 | nil =>
  refine bD ?_;obtain⟨us,htl,hpu⟩:=U2.tr;have OY:ts2.length=1:=ng
  obtain⟨r,rest,rfl⟩:∃ r rest,ts2=r::rest:=by
   cases ts2 with
   |nil=>simp at OY
   |cons r rest=>exact⟨r,rest,Z⟩
  obtain⟨ur,vr,rfl,E8,_⟩:∃(ur:V)(vr:List V),us=vr.reverse++[ur]/\eD H2 ur r/\Paired (eD H2) vr rest:=by
   have hpu':Paired (eD H2) us.reverse (r::rest):=hpu;generalize hq:us.reverse=q at hpu';cases hpu' with
   |cons h1 h2=>exact⟨_,_,by rw[<- fo us,hq];simp,h1,h2⟩
  refine⟨_,Z,p,_,dx,_,_,Z,U2.ob,T.zf,T.zx,jn _ _,.inl ⟨Z,_,b5.of htl⟩,tl,_,ur,Z,Z,htl,oz,?_⟩;rw[d_];have up:∀ b o,H2 b=some o->b≠tl->upd H2 tl (.lst vr.reverse) b=some o:=fun b o z hb=>by rw[aA hb];exact z
  have tup:fF H2 (upd H2 tl (.lst vr.reverse)):=fun b xs z=>up b _ z (aY z htl)
  exact kQ _ ur r rest rfl rfl (E8.mono tup) (k2.trans fun b o z h1 h2=>up b o z h1)
inductive GU(t:l9)(vs:List V)(H:Hp)(Q:VK)(E:XK):Prop
 |mk(p dx tl sl ts ss x:_)(_:vs=[.ref p,.str x])(_:oQ t.zc H p dx tl sl ts ss)(_:Small x)(_:ts.length<=5000)(_:ss.length<=5000)(_:(if x="~"\/x="(" then ∀ J,oQ t.zc J p dx tl sl ts (x::ss)->iS tl sl H J->Q (.bl true) J else if x="1" then ∀ J,oQ t.zc J p dx tl sl (.yes::ts) ss->iS tl sl H J->Q (.bl false) J else if x="0" then ∀ J,oQ t.zc J p dx tl sl (.no::ts) ss->iS tl sl H J->Q (.bl false) J else if isName x=true then ∀ J,oQ t.zc J p dx tl sl (.nm x::ts) ss->iS tl sl H J->Q (.bl false) J else ∀ J,iS tl sl H J->E (.ref t.zk) none J))
theorem oQ.sign{p tl:Addr}(U:oQ C H p dx tl sl ts ss)(x:Str):oQ C (upd H sl (.lst (ss.reverse.map V.str++[.str x]))) p dx tl sl ts (x::ss)/\iS tl sl H (upd H sl (.lst (ss.reverse.map V.str++[.str x]))):=by
 obtain⟨us,htl,hpu⟩:=U.tr;have tP:p≠sl:=aY U.ob U.sg;have up:∀ b o,H b=some o->b≠sl->upd H sl (.lst (ss.reverse.map V.str++[.str x])) b=some o:=fun b o z hb=>by rw[aA hb];exact z
 have tup:fF H (upd H sl (.lst (ss.reverse.map V.str++[.str x]))):=fun b xs z=>up b _ z (aY z U.sg)
 exact⟨⟨up p _ U.ob tP,U.ne,⟨us,up tl _ htl U.ne,dD tup hpu⟩,by rw[ao];simp⟩,fun b o z _ h2=>up b o z h2⟩
theorem oQ.part{p tl:Addr}(U:oQ C H p dx tl sl ts ss)(s1:∀ b o,H b=some o->H1 b=some o){r:Tr}(hv:eD H1 v r){us:List V}(CM:H tl=some (.lst us)): oQ C (upd H1 tl (.lst (us++[v]))) p dx tl sl (r::ts) ss/\iS tl sl H (upd H1 tl (.lst (us++[v]))):=by
 obtain⟨us',htl,hpu⟩:=U.tr;rw[CM]at htl;cases htl;have HK:p≠tl:=aY U.ob CM;have up:∀ b o,H1 b=some o->b≠tl->upd H1 tl (.lst (us++[v])) b=some o:=fun b o z hb=>by rw[aA hb];exact z
 have PM:fF H1 (upd H1 tl (.lst (us++[v]))):=fun b xs z=>up b _ z (aY z (s1 _ _ CM))
 have tup:fF H (upd H1 tl (.lst (us++[v]))):=fun b xs z=>PM b xs (s1 b _ z)
 refine⟨⟨up p _ (s1 _ _ U.ob) HK,U.ne,⟨_,ao,?_⟩,up sl _ (s1 _ _ U.sg) (aS U.ne)⟩,fun b o z h1 _=>up b o (s1 b o z) h1⟩;rw[vw];exact .cons (hv.mono PM) (dD tup hpu)
theorem J4(T:Txt P w K mg t):Fm P w mg base T.q49 4 (GU t):=by
 refine T.q49.F.fq (N:=["self","word"]) eM ?_;rintro nd _ _ _ s H vs Q E hr ⟨p,dx,tl,sl,ts,ss,x,rfl,U,hx,qV,mP,k⟩
 refine⟨_,(aq (aO (PW.pt (dN (aG aW (O 1) az (aK _)) (eZ (aG aW (O 1) az (aK _)))))
    (aq (bw (b8 PySem.F.plainAttrs_list PySem.F.slot_list_append PySem.F.type_list_append cD (bC (O 0) rfl) (aa (O 1) aj)))
    (au (aC fB)))
    aM)
   (aq (bw (b8 PySem.F.plainAttrs_list PySem.F.slot_list_append PySem.F.type_list_append cD (bC (O 0) rfl) (aa (eK T.q46 (J0 T) hr bH (aa (O 1) aj)) aj)))
   (au (aC fB)))),?_⟩
 obtain⟨us,htl,hpu⟩:=U.tr;have hlen:us.length=ts.length:=by rw[<- aT hpu];simp
 have lay:∀(H1:Hp)(v:V)(r:Tr),(∀ b o,H b=some o->H1 b=some o)->eD H1 v r->(∀ J,oQ t.zc J p dx tl sl (r::ts) ss->iS tl sl H J->Q (.bl false) J)->rj (.ref tl) [v] H1 (fun _ H2=>Q (.bl false) H2):=fun H1 v r s1 hv k' =>
  ⟨tl,us,v,rfl,rfl,s1 _ _ htl,by unfold sizeLine;exact G,k' _ (U.part s1 hv htl).1 (U.part s1 hv htl).2⟩
 have sgn:(∀ J,oQ t.zc J p dx tl sl ts (x::ss)->iS tl sl H J->Q (.bl true) J)->rj (.ref sl) [.str x] H (fun _ H2=>Q (.bl true) H2):=fun k' =>
  ⟨sl,_,_,rfl,rfl,U.sg,by simp;unfold sizeLine;exact G,k' _ (U.sign x).1 (U.sign x).2⟩
 refine⟨_,Z,Z,_,Z,?_⟩;refine aN (fun e=>?_) (fun e=>?_)
 .have e:x="~":=V.str.inj (eT e)
  rw[qp (.inl e)]at k;refine bU ?_;exact⟨_,Z,p,_,dx,_,_,Z,U.ob,T.zf,T.zm,eE _ _,.inl ⟨Z,_,b5.of U.sg⟩,_,Z,sgn k⟩
 have e1:¬x="~":=fun z=>e (cK (b4 V.str z))
 refine⟨_,Z,Z,_,Z,?_⟩;refine aN (fun e=>?_) (fun e=>?_)
 .have e:x="(":=V.str.inj (eT e)
  rw[qp (.inr e)]at k;exact⟨_,Z,p,_,dx,_,_,Z,U.ob,T.zf,T.zm,eE _ _,.inl ⟨Z,_,b5.of U.sg⟩,_,Z,sgn k⟩
 have e2:¬x="(":=fun z=>e (cK (b4 V.str z))
 rw[bX (by rintro(z|z);exact e1 z;exact e2 z)]at k;refine⟨_,Z,p,_,dx,_,_,Z,U.ob,T.zf,T.zx,jn _ _,.inl ⟨Z,_,b5.of htl⟩,_,Z,x,Z,hx,?_⟩;have fresh:∀(H1:Hp)(q:Addr)(o:HO),H1 q=none->∀ b u,H1 b=some u->upd H1 q o b=some u:=fun H1 q o hq b u z=>by rw[aA (aD z hq)];exact z
 by_cases h1:x="1"
 .rw[qp h1]at k
  exact .inl ⟨h1,fun q hq=>lay _ _ _ (fresh H q _ hq) (.yes ao) k⟩
 rw[bX h1]at k
 by_cases h0:x="0"
 .rw[qp h0]at k
  exact .inr (.inl ⟨h0,fun q hq=>lay _ _ _ (fresh H q _ hq) (.no ao) k⟩)
 rw[bX h0]at k;refine .inr (.inr ⟨h1,h0,fun H1 s1=>?_⟩);cases hn:isName x with
 | true =>
  rw[qp hn]at k;exact bU fun q hq=>lay _ _ _ (fun b o z=>fresh H1 q _ hq b o (s1 b o z)) (.nm ao) k
 | false =>
  rw[bX (by rw[hn];decide)]at k;exact bD (k H1 fun b o z _ _=>s1 b o z)
def tk(x:Str)(s:Str):Bool:=fQ s x
def J5(t:l9):Sp:=fun vs H Q E=>∃ p dx tl sl ts ss x,vs=[.ref p,.str x]/\oQ t.zc H p dx tl sl ts ss/\DT ss/\ts.length=nb ss+1/\ts.length<=5000/\ss.length<=5000/\Small x /\
 (x=")"->(∀ J,(bc bL ts ss).2=[]->iS tl sl H J->E (.ref t.zk) none J)/\(∀ J s2 ss2,(bc bL ts ss).2=s2::ss2->oQ t.zc J p dx tl sl (bc bL ts ss).1 ss2->iS tl sl H J->Q (.bl false) J)) /\
 (¬x=")"->¬cN x->∀ J,iS tl sl H J->E (.ref t.zk) none J) /\
 (¬x=")"->cN x->∀ J,oQ t.zc J p dx tl sl (bc (tk x) ts ss).1 (x::(bc (tk x) ts ss).2)->iS tl sl H J->Q (.bl true) J)
theorem LC(x:Str):tk x "("=false:=by simp[tk,fQ]
theorem xh:ck ["self","word"] ["self","word"] (aP YS):=eM
theorem Gy(T:Txt P w K mg t):Fm P w mg base T.q50 4 (J5 t):=by
 refine T.q50.F.xl xh (fun vs H Q E h=>by obtain⟨p,dx,tl,sl,ts,ss,x,rfl,_⟩:=h;rfl) (fun ja A outer s H vs Q E hr h=>?_);obtain⟨p,dx,tl,sl,ts,ss,x,rfl,U,hok,hc,hl,mP,hx,kB,kN,kO⟩:=h;have nd:=xh.nd
 refine⟨_,(aq (aO (aG aW (O 1) az (aK _))
    (aq (bw (gF (O 0) T.zf T.q53 (J3 T) hr bH))
    (au (aC fB)))
    aM)
   (aq (aO (rQ (oN T.zt (O 1) (fG (v:=.ref t.zt) T.zR rfl)))
    (au (c7 dU rfl T.zu T.zz (aa (xr (uf (O 1)) az) aj)))
    aM)
   (aq (j9 kR (PW.pt (gQ (ie (bC (O 0) rfl) (fun _=>rfl)) (gk (cG (eK T.q47 (JZ T) hr aH (aa (cy bh (bC (O 0) rfl) (jr gR ak)) (aa (O 1) aj)))))))
    (au (bw (gF (O 0) T.zf T.q51 (Bo T) hr aH))))
   (aq (bw (b8 PySem.F.plainAttrs_list PySem.F.slot_list_append PySem.F.type_list_append cD (bC (O 0) rfl) (aa (O 1) aj)))
   (au (aC fB)))))),?_⟩
 refine⟨_,Z,Z,_,Z,?_⟩;refine aN (fun e=>?_) (fun e=>?_)
 .have e:x=")":=V.str.inj (eT e)
  obtain⟨k1,k2⟩:=kB e;exact⟨_,Z,p,dx,_,Z,U.ob,lU _ _ dk dk,p,dx,tl,sl,ts,ss,Z,U,hok,hc,hl,k1,fun J s2 ss2 h1 U2 h2=>k2 J s2 ss2 h1 U2 h2⟩
 have e1:¬x=")":=fun z=>e (cK (b4 V.str z))
 refine⟨_,Z,.inr x,Z,Z,_,Z,?_⟩
 by_cases ho:cN x
 case neg =>
  rw[RK ho];refine bU ?_;refine⟨_,Z,x,Z,repr_fits hx.2 hx.1,_,Z,repr_fits hx.2 hx.1,_,Z,?_,v_,kN e1 ho H fun _ _ z _ _=>z⟩;have q1:=PySem.StrLaws.reprText_len x hx.2;have q2:=hx.1;rw[i5];have q3:(Str.ofString " can't follow a part of a sentence").length=34:=by decide +kernel
  rw[q3];unfold sizeLine;exact G
 case pos =>
  rw[Dj ho];refine bD ?_;have kO:=kO e1 ho
  refine⟨fun m M H2=>∃ mE ss',m=ss'.length/\M=[some (.ref p),some (.str x)]/\oQ t.zc H2 p dx tl sl mE ss'/\iS tl sl H H2/\DT ss'/\mE.length=nb ss'+1/\mE.length<=5000/\ss'.length<=5000/\bc (tk x) mE ss'=bc (tk x) ts ss,
   ⟨_,ts,ss,rfl,rfl,U,fun _ _ z _ _=>z,hok,hc,hl,mP,rfl⟩,?_⟩
  rintro m M H2 ⟨mE,ss',rfl,rfl,U2,k2,Cc,ng,D_,hl4,hf⟩
  have fin:bc (tk x) mE ss'=(mE,ss')->rj (.ref sl) [.str x] H2 (fun _ H3=>Q (.bl true) H3):=fun hq=>by
   rw[<- hf,hq]at kO;exact⟨sl,_,_,Z,Z,U2.sg,by simp;unfold sizeLine;exact G,kO _ (U2.sign x).1 (k2.trans (U2.sign x).2)⟩
  refine⟨_,Z,p,_,dx,_,_,Z,U2.ob,T.zf,T.zm,eE _ _,_,.inl ⟨_,b5.of U2.sg,Z⟩,?_⟩;cases ss' with
  | nil =>
   refine bD ?_;refine bD ?_;exact⟨_,Z,p,_,dx,_,_,Z,U2.ob,T.zf,T.zm,eE _ _,.inl ⟨Z,_,b5.of U2.sg⟩,_,Z,fin rfl⟩
  | cons s1 wx =>
   have Kx:H2 sl=some (.lst (wx.reverse.map V.str++[.str s1])):=by rw[U2.sg];simp
   rw[qp oz];refine⟨_,Z,p,_,dx,_,_,Z,U2.ob,T.zf,T.zm,eE _ _,_,Z,sl,_,-1,.str s1,Z,Z,b5.of Kx,ir _ _,_,Z,s1,x,Z,Cc s1 oz,ho,_,Z,?_⟩;cases ht:fQ s1 x with
   | true =>
    refine bU ?_;have e:¬s1="(":=by intro z;subst z;have:=LC x;unfold tk at this;rw[ht]at this;cases this
    have yB:s1="~"\/cN s1:=(Cc s1 oz).resolve_left e;obtain⟨q1,q2⟩:=jW yB ng;refine⟨fun σ' J=>σ'=[some (.ref p),some (.str x)]/\oQ t.zc J p dx tl sl (fC s1 mE) wx/\iS tl sl H2 J,?_,?_⟩
    .rintro σ' J ⟨rfl,U3,k3⟩
     refine⟨wx.length,oz,fC s1 mE,wx,Z,Z,U3,k2.trans k3,fun s hs=>Cc s (by simp[hs]),q2,?_,?_,?_⟩
     .have h1:nb wx<=nb (s1::wx):=by unfold nb;rw[gd];exact G
      exact G
     .simp at hl4;exact G
     rw[<- hf];simp[bc,tk,ht]
    exact⟨_,Z,p,dx,_,Z,U2.ob,lU _ _ dk dk,p,dx,tl,sl,mE,s1,wx,Z,U2,q1,D_,fun J U3 k3=>⟨Z,U3,k3⟩⟩
   | false =>
    refine bD ?_;exact⟨_,Z,p,_,dx,_,_,Z,U2.ob,T.zf,T.zm,eE _ _,.inl ⟨Z,_,b5.of U2.sg⟩,_,Z,fin (by simp[bc,tk,ht])⟩
def gr(x:Str):Option Tr:=if x="1" then some .yes else if x="0" then some .no else if isName x=true then some (.nm x)else none
instance (x:Str):Decidable (cN x):=by unfold cN;infer_instance
abbrev Rd:=List Tr×List Str×Bool
def cH(st:Rd)(x:Str):Option Rd :=
 if st.2.2=true then(if x="~"\/x="(" then some (st.1,x::st.2.1,true)else(gr x).map fun r=>(r::st.1,st.2.1,false))
 else if x=")" then(match (bc bL st.1 st.2.1).2 with
  |[]=>none
  |_::ss=>some ((bc bL st.1 st.2.1).1,ss,false))
 else if cN x then some ((bc (tk x) st.1 st.2.1).1,x::(bc (tk x) st.1 st.2.1).2,true)
 else none
def dI:List Str->Rd->Option Rd
 |[],st=>some st
 |x::ws,st=>(cH st x).bind (dI ws)
def rD(st:Rd):Option Tr:=if st.2.2=true then none else match (bc bL st.1 st.2.1).2,(bc bL st.1 st.2.1).1 with
 |[],r::_=>some r
 |_,_=>none
def jz(ws:List Str):Option Tr:=(dI ws ([],[],true)).bind rD
theorem Gz(ws:List Str)(x:Str)(st:Rd):dI (ws++[x]) st=(dI ws st).bind fun s=>cH s x:=by
 induction ws generalizing st with
 |nil=>simp[dI]
 | cons y ws ih =>
  simp only[i',dI,Au]
  congr 1
  funext s
  exact ih s
theorem GC{st s1:Rd}(h:dI (ws.take i) st=some s1)(hx:ws[i]?=some x)(hn:cH s1 x=none):dI ws st=none:=by
 have e:ws=ws.take i++x::ws.drop (i+1):=by
  obtain⟨hi,hv⟩:=List.getElem?_eq_some_iff.mp hx;have e2:ws.drop i=x::ws.drop (i+1):=by rw[i_ hi,hv]
  rw[<- e2,List.take_append_drop]
 rw[e]
 have gen:∀(u v:List Str)(s:Rd),dI (u++v) s=(dI u s).bind (dI v):=by
  intro u
  induction u with
  |nil=>intro v s;rfl
  |cons y u ih=>intro v s;simp only[i',dI,Au];congr 1;funext z;exact ih v z
 rw[gen,h];simp[dI,hn]
theorem xY{c:Str->Bool}(h:DT ss):DT (bc c ts ss).2:=by
 induction ss generalizing ts with
 |nil=>exact h
 | cons s ss ih =>
  unfold bc
  split
  .exact ih fun x hx=>h x (by simp[hx])
  exact h
theorem vp{c:Str->Bool}:(bc c ts ss).2.length<=ss.length:=by
 induction ss generalizing ts with
 |nil=>exact qnr _
 | cons s ss ih =>
  unfold bc
  split
  .exact g9 ih oz
  exact qnr _
theorem vq{c:Str->Bool} (hb:c "("=false)   (ho:DT ss) (h:ts.length=nb ss+1):(bc c ts ss).1.length=nb (bc c ts ss).2+1:=by
 induction ss generalizing ts with
 |nil=>exact h
 | cons s ss ih =>
  unfold bc
  split
  .rename_i hc
   have e:¬s="(":=by intro z;rw[z,hb]at hc;cases hc
   exact ih (fun x hx=>ho x (by simp[hx])) (jW ((ho s oz).resolve_left e) h).2
  exact h
theorem Dk{c:Str->Bool}{r:List Str}{s:Str}(h:(bc c ts ss).2=s::r):c s=false:=by
 induction ss generalizing ts with
 |nil=>cases h
 | cons y ss ih =>
  unfold bc at h
  split at h
  .exact ih h
  rename_i hc
  cases h;exact Bool.eq_false_iff.mpr hc
structure Uq(n:Nat)(st:Rd):Prop where
 ok:DT st.2.1
 cnt:st.1.length=nb st.2.1+(if st.2.2=true then 0 else 1)
 ss:st.2.1.length<=n
theorem LK(ss:List Str):nb ss<=ss.length:=List.countP_le_length
theorem Uq.step{st iA:Rd}(F:Uq n st)(h:cH st x=some iA):Uq (n+1) iA:=by
 obtain⟨ts,ss,due⟩:=st;obtain⟨ok,cnt,hs⟩:=F;dsimp only at ok cnt hs;unfold cH at h;dsimp only at h;cases due with
 | true =>
  rw[qp rfl]at h cnt
  split at h
  .rename_i hx
   cases h;refine⟨fun s hs=>?_,?_,by simp;exact G⟩
   .rcases ai.mp hs with rfl|hs
    .rcases hx with z|z;exact .inr (.inl z);exact .inl z
    exact ok s hs
   show ts.length=nb (x::ss)+0;rcases hx with rfl|rfl
   .rw[xX];exact cnt
   rw[Lz];exact cnt
  cases hl:gr x with
  |none=>rw[hl]at h;cases h
  | some r =>
   rw[hl]at h;cases h;exact⟨ok,by show(r::ts).length=nb ss+1;simp;exact G,by show ss.length<=_;exact G⟩
 | false =>
  rw[bX b9]at h cnt
  split at h
  .split at h
   .cases h
   rename_i s2 ss2 he
   cases h;have o:=xY (c:=bL) (ts:=ts) ok;have l:=vp (c:=bL) (ts:=ts) (ss:=ss);have c:=vq (c:=bL) (by simp[bL]) ok cnt;rw[he]at o l c
   have hb:s2="(":=by
    have z:=Dk he;unfold bL at z
    simpa using z
   subst hb;rw[Lz]at c;exact⟨fun s hs=>o s (by simp[hs]),c,by show ss2.length<=_;simp at l;exact G⟩
  split at h
  .rename_i ho
   cases h;have o:=xY (c:=tk x) (ts:=ts) ok;have l:=vp (c:=tk x) (ts:=ts) (ss:=ss);have c:=vq (c:=tk x) (LC x) ok cnt;refine⟨fun s hs=>?_,?_,?_⟩
   .rcases ai.mp hs with rfl|hs
    .exact .inr (.inr ho)
    exact o s hs
   .show _=nb (x::_)+0
    rw[Ly ho];exact c
   show(x::_:List Str).length <= _;simp;exact G
  cases h
inductive LS(t:l9)(vs:List V)(H:Hp)(Q:VK)(E:XK):Prop
 |mk(a:Addr)(ws:List Str)(_:vs=[.ref a])(_:H a=some (.lst (ws.map V.str)))(_:ws.length<=2500)(_:(∀ x∈ws,Small x))(_:(jz ws=none->∀ J,bb H J->E (.ref t.zk) none J))(_:(∀ r,jz ws=some r->∀ v J,bb H J->eD J v r->Q v J))
theorem Nz(T:Txt P w K mg t):FM P w base T.q55 5 (LS t):=by
 refine T.q55.F.fq (N:=["words","unfinished","part_due","word"]) eM ?_;rintro nd _ _ _ _ H _ _ E hr ⟨a,ws,rfl,ha,hl,xt,kE,kQ⟩
 refine ⟨_,(aq (fR 1 nd (Qd T.zaO (J2 T) (hr.mo) T.zaK T.q48.b aH))
   (aq (fR 2 nd fB)
   (aq (eG kR rfl (bR (O 0)) (iP 3 nd)
    (au (aO (cG (O 2))
     (au (fR 2 nd (E2 (O 1) T.zf T.q49 (J4 T) hr bH (aa (O 3) aj))))
     (au (fR 2 nd (E2 (O 1) T.zf T.q50 (Gy T) hr bH (aa (O 3) aj)))))))
   (aq (aO (cG (O 2))
    (au (c7 dU rfl T.zu T.zz (aa az aj)))
    aM)
   (au (aC (gF (O 1) T.zf T.q54 (Gx T) hr bH))))))),?_⟩
 intro p dx hp Ll hne;refine⟨p,dx,Z,ao,fun tl sl H1 htl hsl U kp=>⟨Z,?_⟩⟩;have s1:bb H H1:=fun b o z=>kp b o (by rw[aA (aD z hp),aA (aD z Ll)];exact z) (aD z hp)
 have fr:∀ b o,H b=some o->b≠tl/\b≠sl:=fun b o z=>by
  have z':upd (upd H dx (.own p)) p (.ins t.zc dx []) b=some o:=by rw[aA (aD z hp),aA (aD z Ll)];exact z
  exact⟨aD z' htl,aD z' hsl⟩
 have kS:∀{H2 H3:Hp},bb H H2->iS tl sl H2 H3->bb H H3:=fun s2 k3 b o z=>k3 b o (s2 b o z) (fr b o z).1 (fr b o z).2
 refine⟨_,rfl,a,rfl,⟨_,b5.of (s1 _ _ ha)⟩,fJ (K:=K) (a:=a) (xs:=ws.map V.str)
  (fun i M H2=>∃ ts ss due v,dI (ws.take i) ([],[],true)=some (ts,ss,due)/\M=[some (.ref a),some (.ref p),some (.bl due),v]/\oQ t.zc H2 p dx tl sl ts ss/\bb H H2/\Uq i (ts,ss,due))
  ⟨[],[],true,none,rfl,rfl,U,s1,⟨(fun _ z=>nomatch z),rfl,qnr _⟩⟩ (fun i M H2 _ ⟨_,_,_,_,_,_,_,s2,_⟩=>b5.of (s2 _ _ ha)) ?_ ?_⟩
 .rintro i y M H2 hi ⟨ts,ss,due,v,D4,rfl,U2,s2,F⟩
  obtain⟨x,hx,rfl⟩:∃ x,ws[i]?=some x/\V.str x=y:=by
   rw[kg]at hi;exact Option.map_eq_some_iff.mp hi
  have ZX:i<ws.length:=(List.getElem?_eq_some_iff.mp hx).1;have hxs:Small x:=xt x (pj hx)
  have Vo:ts.length<=5000:=by
   have c:=F.cnt;have n:=LK ss;have l:=F.ss;dsimp only at c l
   split at c<;>exact G
  have _k:ss.length<=5000:=by have l:=F.ss;dsimp only at l;exact G
  have go:∀ iA,cH (ts,ss,due) x=some iA->dI (ws.take (i+1)) ([],[],true)=some iA/\Uq (i+1) iA:=fun iA h=>by
   refine⟨?_,F.step h⟩;rw[qE,hx];show dI (ws.take i++[x]) _=_;rw[Gz,D4];exact h
  have bad:cH (ts,ss,due) x=none->∀ J,bb H J->E (.ref t.zk) none J:=fun h=>kE (by unfold jz;rw[GC D4 hx h];rfl)
  refine⟨_,Z,_,Z,?_⟩;cases due with
  | true =>
   refine bU ?_;refine⟨_,Z,p,dx,_,Z,U2.ob,lU _ _ dk dk,_,Z,p,dx,tl,sl,ts,ss,x,Z,U2,hxs,Vo,_k,?_⟩
   have LM:∀ r,¬(x="~"\/x="(")->gr x=r->cH (ts,ss,true) x=r.map fun r=>(r::ts,ss,false):=fun r h1 h2=>by
    unfold cH;dsimp only;rw[qp rfl,bX h1,h2]
   by_cases HV:x="~"\/x="("
   .rw[qp HV]
    intro H3 U3 k3;have g:=go (ts,x::ss,true) (by unfold cH;dsimp only;rw[qp rfl,qp HV]);exact⟨ts,x::ss,true,_,g.1,Z,U3,kS s2 k3,g.2⟩
   rw[bX HV]
   by_cases h1:x="1"
   .rw[qp h1]
    intro H3 U3 k3;have g:=go (.yes::ts,ss,false) (LM (some .yes) HV (by unfold gr;rw[qp h1]));exact⟨_,ss,false,_,g.1,Z,U3,kS s2 k3,g.2⟩
   rw[bX h1]
   by_cases h0:x="0"
   .rw[qp h0]
    intro H3 U3 k3;have g:=go (.no::ts,ss,false) (LM (some .no) HV (by unfold gr;rw[bX h1,qp h0]));exact⟨_,ss,false,_,g.1,Z,U3,kS s2 k3,g.2⟩
   rw[bX h0]
   by_cases hn:isName x=true
   .rw[qp hn]
    intro H3 U3 k3;have g:=go (.nm x::ts,ss,false) (LM (some (.nm x)) HV (by unfold gr;rw[bX h1,bX h0,qp hn]));exact⟨_,ss,false,_,g.1,Z,U3,kS s2 k3,g.2⟩
   rw[bX hn];intro H3 k3;exact bad (LM none HV (by unfold gr;rw[bX h1,bX h0,bX hn])) H3 (kS s2 k3)
  | false =>
   refine bD ?_;refine⟨_,Z,p,dx,_,Z,U2.ob,lU _ _ dk dk,_,Z,p,dx,tl,sl,ts,ss,x,Z,U2,F.ok,F.cnt,Vo,_k,hxs,?_⟩;refine⟨fun e=>⟨fun H3 he k3=>bad ?_ H3 (kS s2 k3),fun H3 s3 ss3 he U3 k3=>?_⟩,fun e1 e2 H3 k3=>bad ?_ H3 (kS s2 k3),fun e1 e2 H3 U3 k3=>?_⟩
   .unfold cH;dsimp only;rw[bX b9,qp e,he]
   .have g:=go ((bc bL ts ss).1,ss3,false) (by unfold cH;dsimp only;rw[bX b9,qp e,he])
    exact⟨_,ss3,false,_,g.1,Z,U3,kS s2 k3,g.2⟩
   .unfold cH;dsimp only;rw[bX b9,bX e1,bX e2]
   have g:=go ((bc (tk x) ts ss).1,x::(bc (tk x) ts ss).2,true) (by unfold cH;dsimp only;rw[bX b9,bX e1,qp e2]);exact⟨_,_,true,_,g.1,Z,U3,kS s2 k3,g.2⟩
 rintro M H2 ⟨ts,ss,due,v,D4,rfl,U2,s2,F⟩;rw[de,bp]at D4;have ND:(ws.map V.str).length=ws.length:=de _;have tf:jz ws=rD (ts,ss,due):=by unfold jz;rw[D4];rfl
 refine⟨_,Z,_,Z,?_⟩;cases due with
 |true=>exact bU ⟨v_,kE (by rw[tf];rfl) H2 s2⟩
 | false =>
  refine bD ?_
  have Vo:ts.length<=5000:=by
   have c:=F.cnt;have n:=LK ss;have l:=F.ss;dsimp only at c l;rw[ND]at l
   split at c<;>exact G
  refine⟨_,Z,p,dx,_,Z,U2.ob,lU _ _ dk dk,p,dx,tl,sl,ts,ss,Z,U2,F.ok,F.cnt,Vo,fun H3 hn k3=>kE ?_ H3 (kS s2 k3),fun H3 v r rest h1 h2 hv k3=>kQ r ?_ v H3 (kS s2 k3) hv⟩
  .rw[tf]
   unfold rD
   try dsimp only
   rw[bX b9]
   split
   .rename_i h1 _;exact absurd h1 hn
   rfl
  rw[tf];unfold rD
  try dsimp only
  rw[bX b9,h1,h2]
theorem J6(T:Txt P w K mg t):FM P w base T.q4 3 GI:=by
 refine T.q4.F.fq (N:=["tree","layers","layer"]) eM ?_;rintro nd _ _ _ _ H vs Q E hr ⟨v,tr,rfl,ht,hsz,k⟩
 refine⟨_,(aq (iJ (i:=1) nd rfl E3 ak)
   (aq (iJ (i:=2) nd rfl E3 (bz (aa (pv 0) aj)))
   (aq (j9 kR (ie (pv 2) (fun _=>rfl))
    (aq (Ed (i:=1) nd rfl E3 ak Pg)
    (au (iJ (i:=2) nd rfl E3 (pU (xN T) (hr.mo) rfl T.q3.m T.q3.k T.q3.b .nil aH (aa (pv 2) aj))))))
   (au (aC (pv 1)))))),?_⟩
 refine⟨_,Z,(lk obz),fun l hl=>?_⟩
 refine⟨fun m M H2=>∃(n:Nat)(l:Addr)(us:List V)(ts:List Tr),M=[some v,some (.int n),some (.ref l)]/\bb H H2/\H2 l=some (.lst us)/\Paired (eD H2) us ts/\dW ts<=100000/\n+jM ts=tr.depth/\m=dW ts,
  ⟨_,0,l,[v],[tr],rfl,aB hl,ao,.cons (ht.mono (aB hl).tups) .nil,?_,?_,rfl⟩,?_⟩
 .show tr.size+0<=100000
  exact G
 .show 0+max tr.depth 0=tr.depth
  exact G
 rintro m M H2 ⟨n,l,us,ts,rfl,s2,mP,hp,hz,hd,rfl⟩;refine⟨_,Z,_,.inl ⟨us,b5.of mP,Z⟩,?_⟩;cases us with
 | nil =>
  cases hp;refine bD ?_;refine⟨_,Z,?_⟩;have hd:n+0=tr.depth:=hd;have e:n=tr.depth:=G
  subst e;exact k H2 s2
 | cons u us =>
  refine bU ?_;refine⟨fun σ' J=>∃ m',m'<dW ts/\∃(n:Nat)(l:Addr)(us:List V)(ts:List Tr),σ'=[some v,some (.int n),some (.ref l)]/\bb H J/\J l=some (.lst us)/\Paired (eD J) us ts/\dW ts<=100000/\n+jM ts=tr.depth/\m'=dW ts,fun _ _ h=>h,?_⟩;refine⟨_,Z,_,_,Z,Z,_,Z,l,u::us,ts,Z,mP,hp,hz,fun l' ws J hn CU s' OR=>?_⟩
  have hne:ts≠[]:=by
   intro z;subst z;cases hp
  have e1:=sJ ts hne;have e2:=ju ts;have e3:0<ts.length:=vE.mpr hne;exact⟨_,G,n+1,l',ws,ts.flatMap Tr.kids,Z,s2.trans s',CU,OR,G,G,Z⟩
inductive Out where
 |tree (r:Tr)|si|deep
def wA(x:Str):Out:=if 200<x.length then .si else match jz (jH x)with
 |none=>.si
 |some r=>if 40<r.depth then .deep else .tree r
inductive LV(t:l9)(vs:List V)(H:Hp)(Q:VK)(E:XK):Prop
 |mk(x:_)(_:vs=[.str x])(_:x.length<=sizeLine)(_:(∀ c∈x.cps.toList,c<16^8))(_:∀ J,bb H J->(match wA x with | .tree r=>∀ v,eD J v r->Q v J | .si=>E (.ref t.zk) none J | .deep=>E (.ref t.zH) none J))
theorem cW(x y:Str):(x++y).cps.toList=x.cps.toList++y.cps.toList:=by
 show(x.cps++y.cps).toList=_;simp
theorem qJ:∀(k:Nat)(l:List Nat),l.length=k->(∀ c∈l,c<16^8) -> (∀ y,y∈(fM l).1 \/ y=(fM l).2 -> y.length<=l.length+1/\∀ c∈y.cps.toList,c<16^8)
 | 0,l,h,_=>by
  have:l=[]:=kz.mp h;subst this;intro y hy;rcases hy with hy|rfl
  .exact nomatch hy
  exact⟨mi _,fun c hc=>nomatch hc⟩
 | k + 1,l,h,hc=>by
  have hne:l≠[]:=fun z=>by rw[z]at h;cases h
  obtain⟨l',c,rfl⟩:∃ l' c,l=l'++[c]:=⟨l.dropLast,l.getLast hne,(eJ hne).symm⟩
  have hk:l'.length=k:=by simpa using h
  have ih:=qJ k l' hk (fun d hd=>hc d (by simp[hd]));have lb:=(lR _ l' rfl).2;have Vd:c<16^8:=hc c oz
  have one:(⟨#[c]⟩:Str).length <= (l'++[c]).length+1/\∀ d∈(⟨#[c]⟩:Str).cps.toList,d<16^8:=by
   refine⟨by show 1<=_;simp,fun d hd=>?_⟩;have:d=c:=by simpa using hd
   rw[this];exact Vd
  have nil:(Str.ofString "").length <= (l'++[c]).length+1/\∀ d∈(Str.ofString "").cps.toList,d<16^8:=⟨mi _,fun d hd=>nomatch hd⟩
  have up:∀ y,(y∈(fM l').1 \/ y=(fM l').2)->y.length<=(l'++[c]).length+1/\∀ d∈y.cps.toList,d<16^8:=fun y hy=>⟨by have:=(ih y hy).1;simp;exact G,(ih y hy).2⟩
  rw[jV];generalize fM l'=st at ih lb up;obtain⟨ws,nm⟩:=st;intro y hy;unfold dX at hy
  split at hy
  .rcases hy with hy|rfl
   .exact up y (.inl hy)
   have q:=up nm (.inr rfl);refine⟨?_,fun d hd=>?_⟩
   .show(nm++⟨#[c]⟩:Str).length <= _
    rw[i5];have:(⟨#[c]⟩:Str).length=1:=rfl;dsimp only at lb;simp;exact G
   have hd:d∈(nm++⟨#[c]⟩:Str).cps.toList:=hd;rw[cW]at hd;rcases a_.mp hd with hd|hd
   .exact q.2 d hd
   exact one.2 d hd
  rcases hy with hy|rfl
  .have hy:y∈(if c=32 then _ else _:List Str):=hy
   split at hy<;>split at hy
   .exact up y (.inl hy)
   .rcases a_.mp hy with hy|hy
    .exact up y (.inl hy)
    exact up y (.inr (by simpa using hy))
   .rcases a_.mp hy with hy|hy
    .exact up y (.inl hy)
    have:y=⟨#[c]⟩:=by simpa using hy
    rw[this];exact one
   rcases a_.mp hy with hy|hy
   .rcases a_.mp hy with hy|hy
    .exact up y (.inl hy)
    exact up y (.inr (by simpa using hy))
   have:y=⟨#[c]⟩:=by simpa using hy
   rw[this];exact one
  exact nil
theorem Ab(hl:x.length<=200)(hc:∀ c∈x.cps.toList,c<16^8):(jH x).length <= 2500/\∀ y∈jH x,Small y:=by
 have hlen:(x.cps.toList++[32]).length=x.length+1:=by simp[Str.length]
 unfold jH;refine⟨?_,fun y hy=>?_⟩
 .have:=(lR _ (x.cps.toList++[32]) rfl).1
  exact G
 have:=qJ _ (x.cps.toList++[32]) rfl (fun c h=>by
  rcases a_.mp h with h|h
  .exact hc c h
  have:c=32:=by simpa using h
  rw[this];decide) y (.inl hy)
 exact⟨G,this.2⟩
def AI(ts:List Tr)(ss:List Str):Nat:=(ts.map Tr.size).sum+ss.length
theorem GD(s:Str)(ts:List Tr):((fC s ts).map Tr.size).sum <= (ts.map Tr.size).sum+1:=by
 match ts with
 |[]=>simp[fC]
 | [r] =>
  show((if s="~" then [Tr.not r]else [r]).map Tr.size).sum <= _
  split<;>simp[Tr.size]
 | r::l::rest =>
  show((if s="~" then Tr.not r::l::rest else .bin (pB s) l r::rest).map Tr.size).sum <= _
  split<;>simp[Tr.size]<;>exact G
theorem pC{c:Str->Bool}:AI (bc c ts ss).1 (bc c ts ss).2 <= AI ts ss:=by
 induction ss generalizing ts with
 |nil=>exact qnr _
 | cons s ss ih =>
  unfold bc
  split
  .refine g9 ih ?_
   have:=GD s ts;unfold AI;simp;exact G
  exact qnr _
theorem J7{st iA:Rd}(h:cH st x=some iA):AI iA.1 iA.2.1<=AI st.1 st.2.1+1:=by
 obtain⟨ts,ss,due⟩:=st;unfold cH at h;dsimp only at h
 split at h
 .split at h
  .cases h;unfold AI;simp;exact G
  unfold gr at h
  split at h
  .cases h;unfold AI;simp[Tr.size];exact G
  split at h
  .cases h;unfold AI;simp[Tr.size];exact G
  split at h
  .cases h;unfold AI;simp[Tr.size];exact G
  cases h
 split at h
 .split at h
  .cases h
  rename_i s2 ss2 he
  cases h;have q:=pC (c:=bL) (ts:=ts) (ss:=ss);rw[he]at q;unfold AI at q ⊢;simp at q ⊢;exact G
 split at h
 .cases h
  have q:=pC (c:=tk x) (ts:=ts) (ss:=ss);unfold AI at q ⊢;simp;exact G
 cases h
theorem NB{st iA:Rd}(h:dI ws st=some iA):AI iA.1 iA.2.1<=AI st.1 st.2.1+ws.length:=by
 induction ws generalizing st with
 |nil=>cases h;exact qnr _
 | cons x ws ih =>
  unfold dI at h;obtain⟨s1,h1,h2⟩:=Option.bind_eq_some_iff.mp h;have:=J7 h1;have:=ih h2;simp;exact G
theorem GF{r:Tr}(h:jz ws=some r)(hl:ws.length<=2500):r.size<=100000:=by
 unfold jz at h;obtain⟨st,h1,h2⟩:=Option.bind_eq_some_iff.mp h;have q:=NB h1;unfold rD at h2
 split at h2
 .cases h2
 split at h2
 .rename_i e1 e2
  cases h2;have z:=pC (c:=bL) (ts:=st.1) (ss:=st.2.1);rw[e2]at z;unfold AI at z q;simp at z q;exact G
 cases h2
theorem NK(T:Txt P w K mg t):FM P w base T.q56 6 (LV t):=by
 refine T.q56.F.fq (N:=["text","tree"]) eM ?_;rintro nd _ _ _ s H _ _ _ hr ⟨x,rfl,hl,hc,k⟩
 refine⟨_,(aq (aO (aG pQ (aZ kI T.zd Bt.len (aa (O 0) aj)) (fG (v:=.int 200) T.zaE ⟨_,rfl⟩) (aK _))
    (au (c7 dU rfl T.zu T.zz (aa az aj)))
    aM)
   (aq (fR 1 nd (eK T.q55 (Nz T) hr bH (aa (eK T.q45 (J1 T) hr aH (aa (O 0) aj)) aj)))
   (aq (aO (aG pQ (eK T.q4 (J6 T) hr aH (aa (O 1) aj)) (fG (v:=.int 40) T.zaB ⟨_,rfl⟩) (aK _))
    (au (c7 dU rfl T.Y_ T.zam (aa az aj)))
    aM)
   (au (aC (O 1)))))),?_⟩
 refine⟨_,Z,_,Z,hl,_,_,Z,Z,_,Z,?_⟩;unfold wA at k;refine aN (fun e=>?_) (fun e=>?_)
 .have e:(200:Int)<x.length:=eT e
  rw[qp G]at k;exact⟨v_,k H fun _ _ z=>z⟩
 have e:¬(200:Int)<x.length:=fun z=>e (cK z)
 rw[bX G]at k;obtain⟨w1,w2⟩:=Ab G hc;refine⟨_,Z,x,Z,G,fun p hp=>⟨p,jH x,Z,ao,w1,w2,fun hn H1 s1=>?_,fun r E8 v H1 s1 hv=>?_⟩⟩
 .rw[hn]at k
  exact k H1 ((aB hp).trans s1)
 rw[E8]at k;refine⟨_,Z,v,r,Z,hv,GF E8 w1,fun H2 s2=>?_⟩;have k:=k H2 ((aB hp).trans (s1.trans s2));refine⟨_,_,Z,Z,_,Z,?_⟩;refine aN (fun e=>?_) (fun e=>?_)
 .have e:(40:Int)<r.depth:=eT e
  dsimp only at k;rw[qp G]at k;exact⟨v_,k⟩
 have e:¬(40:Int)<r.depth:=fun z=>e (cK z)
 dsimp only at k;rw[bX G]at k;exact⟨_,Z,k v (hv.mono s2.tups)⟩
inductive Wr:Int->Tr->List Str->Prop
 |leaf {n:Int} {x:Str} {t:Tr} (h:gr x=some t) (h1:¬x="~") (h2:¬x="("):Wr n t [x]
 |not {n:Int} {t:Tr} {ws:List Str} (h:Wr 5 t ws):Wr n (.not t) ("~" :: ws)
 |bra {n:Int} {t:Tr} {ws:List Str} (h:Wr 0 t ws):Wr n t ("(" :: (ws++[(")":Str)]))
 |bin {n nl nr:Int} {o:Str} {l r:Tr} {wl wr:List Str} (ho:cN o) (hn:n<=eU o) (hl:eU o<=nl/\(o=">"->eU o<nl)) (hr:eU o<=nr/\(¬o=">"->eU o<nr)) (h1:Wr nl l wl) (h2:Wr nr r wr):Wr n (.bin (pB o) l r) (wl++o::wr)
def EJ(n:Int):List Str->Prop
 |[]=>True
 |s::_=>∀ o,cN o->n<=eU o->fQ s o=false
theorem EJ.more{n m:Int}(h:n<=m):∀{ss:List Str},EJ n ss->EJ m ss
 |[],_=>trivial
 |_::_,f=>fun o ho hn=>f o ho (eo h hn)
def Ti(n:Int)(s:Str):Prop:=s="~"\/(cN s/\n<=eU s)
theorem xZ{o:Str}(h:cN o):eU o<=4:=by
 rcases h with rfl|rfl|rfl|rfl<;>decide +kernel
theorem QB{o:Str}(h:cN o):1<=eU o:=by
 rcases h with rfl|rfl|rfl|rfl<;>decide +kernel
theorem J8{o p:Str}(h:cN o)(h':cN p)(e:eU o=eU p):o=p:=by
 rcases h with rfl|rfl|rfl|rfl<;>rcases h' with rfl|rfl|rfl|rfl<;>first|rfl|exact absurd e dk
theorem yc{s o:Str}(hs:cN s)(ho:cN o):fQ s o=if s=o then !decide (o=">")else decide (eU o<eU s):=by
 unfold fQ;rw[bX (lV hs).1,bX (lV hs).2]
theorem Dl(o:Str):fQ "~" o=true:=by
 unfold fQ;rw[bX dk,qp rfl]
theorem GJ(o:Str):fQ "(" o=false:=by
 unfold fQ;rw[qp rfl]
theorem yd{c:Str->Bool}{s:Str}(h:¬c s=true):bc c ts (s::ss)=(ts,s::ss):=by
 show(if c s=true then _ else _)=_;rw[bX h]
theorem vz{c:Str->Bool}{s:Str}(h:c s=true):bc c ts (s::ss)=bc c (fC s ts) ss:=by
 show(if c s=true then _ else _)=_;rw[qp h]
theorem Dm{o:Str}(ho:cN o){n:Int}(hn:n<=eU o):∀{ss:List Str},EJ n ss->bc (tk o) ts ss=(ts,ss)
 |[],_=>rfl
 | s::ss,f=>yd (by
  have:tk o s=false:=f o ho hn;rw[this]
  decide)
theorem Dn(r:Tr)(rest:List Tr):fC "~" (r::rest)=.not r::rest:=by
 simp[fC]
theorem J9{o:Str}(ho:cN o)(r l:Tr)(rest:List Tr):fC o (r::l::rest)=.bin (pB o) l r::rest:=by
 simp[fC,(lV ho).2]
theorem ye(u v:List Str)(s:Rd):dI (u++v) s=(dI u s).bind (dI v):=by
 induction u generalizing s with
 |nil=>rfl
 | cons y u ih =>
  simp only[i',dI,Au]
  congr 1
  funext z
  exact ih z
theorem tG(h:x="~"\/x="(") (ts:List Tr) (ss:List Str):cH (ts,ss,true) x=some (ts,x::ss,true):=by
 unfold cH;rw[qp rfl,qp h]
theorem GK{r:Tr} (h1:¬x="~") (h2:¬x="(") (h:gr x=some r) (ts:List Tr) (ss:List Str):cH (ts,ss,true) x=some (r::ts,ss,false):=by
 unfold cH;rw[qp rfl,bX (fun z=>z.elim h1 h2),h]
 rfl
theorem NP{o:Str}(ho:cN o)(ts:List Tr)(ss:List Str):cH (ts,ss,false) o=some ((bc (tk o) ts ss).1,o::(bc (tk o) ts ss).2,true):=by
 unfold cH;have hne:¬o=")":=by rcases ho with rfl|rfl|rfl|rfl<;>decide +kernel
 rw[bX ki,bX hne,qp ho]
theorem Do{mE:List Tr}{ss':List Str}(h:bc bL ts ss=(mE,x::ss')):cH (ts,ss,false) ")"=some (mE,ss',false):=by
 unfold cH;rw[bX ki,qp rfl]
 try dsimp only
 rw[h]
theorem QC{n:Int}{t:Tr}(h:Wr n t ws):∀(ts:List Tr)(ss:List Str),EJ n ss -> ∃(mE:List Tr)(ps:List Str),dI ws (ts,ss,true)=some (mE,ps++ss,false)/\(∀ s∈ps,Ti n s)/\∀ c:Str->Bool,(∀ s∈ps,c s=true)->bc c mE (ps++ss)=bc c (t::ts) ss:=by
 induction h with
 | leaf h h1 h2 =>
  intro ts ss _;refine⟨_,[],?_,(fun s hs=>nomatch hs),fun c _=>rfl⟩;show(cH _ _).bind _=_;rw[GK h1 h2 h]
  rfl
 | @not n t ws h ih =>
  intro ts ss _;obtain⟨mE,ps,e,hp,hc⟩:=ih ts ("~" :: ss) (fun o ho hn=>by have:=xZ ho;exact G);refine⟨mE,ps++[("~":Str)],?_,fun s hs=>?_,fun c n_=>?_⟩
  .show(cH _ _).bind _=_
   rw[tG (.inl rfl)];show dI ws _=_;rw[e,dE]
   rfl
  .rcases a_.mp hs with hs|hs
   .rcases hp s hs with h|⟨ho,h⟩
    .exact .inl h
    have:=xZ ho;exact G
   exact .inl (aI.mp hs)
  rw[dE];show bc c mE (ps++("~":Str):: ss)=_;rw[hc c fun s hs=>n_ s (xi _ hs),vz (n_ "~" oz),Dn]
 | @bra n t ws h ih =>
  intro ts ss _;obtain⟨mE,ps,e,hp,hc⟩:=ih ts ("(" :: ss) (fun o _ _=>GJ o);refine⟨t::ts,[],?_,fun s hs=>(nomatch hs),fun c _=>rfl⟩;show(cH _ _).bind _=_;rw[tG (.inr rfl)];show dI (ws++[(")":Str)]) _=_;rw[ye,e];show(cH _ _).bind _=_
  have hf:bc bL mE (ps++("(":Str):: ss)=(t::ts,("(":Str):: ss):=by
   rw[hc bL fun s hs=>?_]
   .exact yd dk
   rcases hp s hs with rfl|⟨ho,_⟩
   .decide +kernel
   unfold bL;rw[gS (lV ho).1]
   rfl
  rw[Do hf]
  rfl
 | @bin n nl nr o l r wl wr ho hn hl hr h1 h2 Wu Wt =>
  intro ts ss hf;obtain⟨tsl,fR,el,ic,ED⟩:=Wu ts ss (hf.more (eo hn hl.1))
  have tkl:∀ s∈fR,tk o s=true:=fun s hs=>by
   rcases ic s hs with rfl|⟨BY,hb⟩
   .exact Dl o
   show fQ s o=true;rw[yc BY ho]
   by_cases e:s=o
   .rw[qp e,gS fun z=>?_]
    .rfl
    have:=hl.2 z;rw[e]at hb;exact G
   rw[bX e];refine cK ?_;have h1:=hl.1;have h2:eU s≠eU o:=fun z=>e (J8 BY ho z)
   exact G
  have fl:bc (tk o) tsl (fR++ss)=(l::ts,ss):=by rw[ED _ tkl,Dm ho hn hf]
  obtain⟨Ze,Zp,er,hpr,hcr⟩:=Wt (l::ts) (o::ss) (fun p hp hb=>by
   rw[yc ho hp]
   by_cases e:o=p
   .rw[qp e]
    by_cases e2:p=">"
    .rw[cK e2];rfl
    have:=hr.2 (by rw[e];exact e2);rw[e]at this;exact G
   rw[bX e];refine gS ?_;have h1:=hr.1
   exact G)
  refine⟨Ze,Zp++[o],?_,fun s hs=>?_,fun c n_=>?_⟩
  .rw[ye,el]
   show(cH _ _).bind _=_;rw[NP ho,fl];show dI wr _=_;rw[er,dE]
   rfl
  .rcases a_.mp hs with hs|hs
   .rcases hpr s hs with h|⟨h,hb⟩
    .exact .inl h
    exact .inr ⟨h,by have:=hr.1;exact G⟩
   rw[aI.mp hs];exact .inr ⟨ho,hn⟩
  rw[dE];show bc c Ze (Zp++o::ss)=_;rw[hcr c fun s hs=>n_ s (xi _ hs),vz (n_ o oz),J9 ho]
theorem NQ{n:Int}{t:Tr}(h:Wr n t ws):jz ws=some t:=by
 obtain⟨mE,ps,e,hp,hc⟩:=QC h [] [] trivial;unfold jz;rw[e];show rD (mE,ps++[],false)=some t
 have hf:=hc bL fun s hs=>by
  rcases hp s hs with rfl|⟨ho,_⟩
  .decide +kernel
  unfold bL;rw[gS (lV ho).1]
  rfl
 unfold rD;rw[bX ki]
 try dsimp only
 rw[hf]
 rfl
def flush(st:List Str×Str):List Str:=if st.2="" then st.1 else st.1++[st.2]
def dJ(cs:List Nat)(ws:List Str):Prop:=∀ acc:List Str,flush (cs.foldl dX (acc,""))=acc++ws
theorem yf(h:dJ x.cps.toList ws):jH x=ws:=by
 unfold jH;rw[jV];have h:=h [];show(dX (List.foldl dX ([],"") x.cps.toList) 32).1=ws;generalize List.foldl dX ([],"") x.cps.toList=st at h;unfold dX;rw[bX b9,qp rfl];exact h
def isSign(c:Nat):Prop:=dj c=false/\¬c=32
theorem jX(h:isSign c)(st:List Str×Str):dX st c=(flush st++[⟨#[c]⟩],("":Str)):=by
 unfold dX flush;rw[bX (by rw[h.1];decide),bX h.2]
theorem qK(st:List Str×Str):dX st 32=(flush st,("":Str)):=by
 unfold dX flush;rw[bX b9,qp rfl]
theorem gn(l:List Str):flush (l,"")=l:=qp rfl
theorem GP(h:isSign c)(hs:dJ cs ws):dJ (c::cs) (⟨#[c]⟩:: ws):=fun acc=>by
 rw[fE,jX h,gn,hs];simp
theorem NT(h:isSign c)(hs:dJ cs ws):dJ (cs++[c]) (ws++[⟨#[c]⟩]):=fun acc=>by
 rw[om,fE,I_,jX h,gn,hs];simp
theorem Bp(h:isSign c):dJ [c] [⟨#[c]⟩]:=fun acc=>by
 rw[fE,I_,jX h,gn,gn]
theorem QD{ds:List Nat}{vs:List Str}(hc:isSign c)(h:dJ cs ws)(hd:dJ ds vs):dJ (cs++c::ds) (ws++⟨#[c]⟩:: vs):=fun acc=>by
 rw[om,fE,jX hc,h,hd];simp
theorem Ka(h:dJ cs ws):dJ (32::cs) ws:=fun acc=>by
 rw[fE,qK,gn,h]
theorem GQ(h:dJ cs ws):dJ (cs++[32]) ws:=fun acc=>by
 rw[om,fE,I_,qK,gn,h]
theorem pF(acc:List Str):∀(cs:List Nat)(y:Str),(∀ c∈cs,dj c=true)->cs.foldl dX (acc,y)=(acc,⟨(y.cps.toList++cs).toArray⟩)
 | [],y,_=>by
  show(acc,y)=_;rw[c_]
 | c::cs,y,h=>by
  rw[fE]
  have e:dX (acc,y) c=(acc,y++⟨#[c]⟩):=by
   unfold dX;rw[qp (h c qms)]
  rw[e,pF acc cs _ fun d hd=>h d (k9 _ hd),cW];simp
theorem NZ(h:isName x=true):dJ x.cps.toList [x]:=fun acc=>by
 unfold isName at h;obtain⟨h1,h2⟩:=bS.mp h;obtain⟨h1,_⟩:=bS.mp h1;have h1:=eT h1;rw[pF acc x.cps.toList "" fun c hc=>bP.mp h2 c hc];have e0:("":Str).cps.toList=[]:=by decide +kernel
 have e:(⟨(("":Str).cps.toList++x.cps.toList).toArray⟩:Str)=x:=by
  rw[e0];simp
 rw[e];unfold flush;rw[bX fun z=>?_];have z:x="":=z;rw[z]at h1;exact absurd h1 dk
theorem yg:("(":Str)=⟨#[40]⟩:=by decide +kernel
theorem Bq:(")":Str)=⟨#[41]⟩:=by decide +kernel
theorem yh:("~":Str)=⟨#[126]⟩:=by decide +kernel
theorem nC:("1":Str)=⟨#[49]⟩:=by decide +kernel
theorem jJ:("0":Str)=⟨#[48]⟩:=by decide +kernel
theorem N5:(" ":Str)=⟨#[32]⟩:=by decide +kernel
theorem p8(h:isName x=true)(hc:dj c=false):¬x=⟨#[c]⟩:=fun z=>by
 rw[z]at h;unfold isName at h;have h2:=(bS.mp h).2;have:dj c=true:=bP.mp h2 c oz;rw[hc]at this;cases this
theorem GR(h:isName x=true):gr x=some (.nm x):=by
 unfold gr;rw[bX (by rw[nC];exact p8 h b9),bX (by rw[jJ];exact p8 h b9),qp h]
theorem lW(h:pE x):isName x=true:=by
 have e:x.length=x.cps.toList.length:=ax.symm;unfold isName;rw[cK (show(1:Int)<=(x.length:Int)by have:=h.pos;exact G),cK (show(x.length:Int)<=8 by have:=h.le;exact G)];refine bP.mpr fun c hc=>?_
 have:=h.ok c hc;unfold dj;rw[cK this.1,cK this.2]
 rfl
def lA(cs:List Nat):Str:=⟨cs.toArray⟩
theorem GX(cs:List Nat):(lA cs).cps.toList=cs:=by simp[lA]
theorem lB{y:Str}(h:x.cps.toList=y.cps.toList):x=y:=by
 cases x;cases y;exact b4 Str.mk (CL.mp h)
def cQ(x:Str):Str:=lA (cT 32 x.cps.toList)
def bY(x:Str):Str:=lA ((cJ 32 x.cps.toList).dropWhile (· == 32))
theorem pG:(" ":Str)=⟨#[32]⟩:=by decide +kernel
inductive GG(vs:List V)(H:Hp)(Q:VK)(E:XK):Prop
 |mk(x:_)(_:vs=[.str x])(_:x.length<=sizeLine)(_:∀ J,(∀ b o,H b=some o->J b=some o)->Q (.str (cQ x)) J)
inductive BH(vs:List V)(H:Hp)(Q:VK)(E:XK):Prop
 |mk(x:_)(_:vs=[.str x])(_:x.length<=sizeLine)(_:∀ J,(∀ b o,H b=some o->J b=some o)->Q (.str (bY x)) J)
theorem pH(c:Nat):∀ l:List Nat,(cT c l).length <= l.length
 |[]=>qnr _
 | d::r=>by
  have:=pH c r;show(if d=c then []else d::cT c r).length <= r.length+1
  split
  .exact mi _
  show(cT c r).length+1<=_;exact G
theorem lX(c:Nat):∀ l:List Nat,(cJ c l).length <= l.length
 |[]=>qnr _
 | d::r=>by
  have:=lX c r;show(if d=c then r else cJ c r).length <= r.length+1
  split
  .omega
  exact G
def gM(c:Nat):Bool:=decide (48<=c)&&decide (c<=57)
def gw(x:Str):Bool:=(decide (1<=(x.length:Int))&&decide ((x.length:Int)<=30))&&x.cps.toList.all gM && !(decide (x.cps.toList.head?=some 48) && !decide (x="0"))
def rE(x:Str):V:=if gw x=true then .int (gf x.cps.toList:Nat)else .non
inductive P5(vs:List V)(H:Hp)(Q:VK)(E:XK):Prop
 |mk(c:_)(_:vs=[.str ⟨#[c]⟩])(_:Q (.bl (gM c)) H)
inductive FY(vs:List V)(H:Hp)(Q:VK)(E:XK):Prop
 |mk(x:_)(_:vs=[.str x])(_:x.length<=sizeLine)(_:∀ J,(∀ b o,H b=some o->J b=some o)->Q (rE x) J)
theorem le_0(c:Nat):(!decide ((⟨#[c]⟩:Str).cps.toList<(Str.ofString "0").cps.toList))=decide (48<=c):=by
 show(!decide ([c] < [48]))=_;rw[tD]
 by_cases h:48<=c
 .simp[h]
 simp[h];exact G
theorem Tj(c:Nat):(!decide ((Str.ofString "9").cps.toList<(⟨#[c]⟩:Str).cps.toList))=decide (c<=57):=by
 show(!decide ([57] < [c]))=_;rw[tD]
 by_cases h:c<=57
 .simp[h]
 simp[h];exact G
theorem nD(T:Txt P w K mg t):FM P w base T.q59 1 GG:=by
 refine T.q59.F.fq (N:=["text"]) eM ?_;rintro nd _ _ _ _ _ _ _ _ hr ⟨x,rfl,hx,k⟩;refine⟨_,(au (aC (cy aJ (b8 PySem.F.plainAttrs_str PySem.F.slot_str_partition PySem.F.type_str_partition kW (O 0) (aa az aj)) ak))),?_⟩;refine⟨_,Z,Z,x,_,32,Z,Z,pG,hx,fun p b hp=>⟨p,_,0,_,Z,Z,SqT.of ao,Z,?_⟩⟩;exact k _ (fun b' o e=>by rw[aA (aD e hp)];exact e)
theorem nF(T:Txt P w K mg t):FM P w base T.q60 1 BH:=by
 refine T.q60.F.fq (N:=["text"]) eM ?_;rintro nd _ _ _ _ _ _ _ _ hr ⟨x,rfl,hx,k⟩;refine⟨_,(au (aC (b8 PySem.F.plainAttrs_str PySem.F.slot_str_lstrip PySem.F.type_str_lstrip Cw (cy aJ (b8 PySem.F.plainAttrs_str PySem.F.slot_str_partition PySem.F.type_str_partition kW (O 0) (aa az aj)) ak) (aa az aj)))),?_⟩;refine⟨_,Z,Z,x,_,32,Z,Z,pG,hx,fun p b hp=>⟨p,_,2,_,Z,Z,SqT.of ao,Z,Z,_,_,Z,Z,?_,?_⟩⟩
 .have h1:=lX 32 x.cps.toList
  have h2:x.length=x.cps.toList.length:=ax.symm;show(cJ 32 x.cps.toList).toArray.size<=sizeLine;rw[ah];exact G
 have e:Txt.lstripChars ⟨(cJ 32 x.cps.toList).toArray⟩ " "=bY x:=by
  refine lB ?_;rw[pG,Jl];unfold bY;rw[GX]
 rw[e];exact k _ (fun b' o e=>by rw[aA (aD e hp)];exact e)
theorem QF(T:Txt P w K mg t):FM P w base T.q61 1 P5:=by
 refine T.q61.F.fq (N:=["sign"]) eM ?_;rintro nd _ _ _ _ _ _ _ _ hr ⟨c,rfl,k⟩;refine⟨_,(au (aC (qO lK lK az (O 0) az))),?_⟩;refine⟨_,Z,_,_,Z,Z,_,Z,?_⟩;rw[le_0];unfold gM at k;cases h:decide (48<=c)with
 | false =>
  rw[h]at k;rw[bX ki];exact k
 | true =>
  rw[h]at k;rw[qp rfl];refine⟨_,_,Z,Z,?_⟩;rw[Tj];exact k
theorem aR{p:Addr}(hp:H p=none):∀ b u,H b=some u->(upd H p o) b=some u:=fun b u q=>by
 rw[aA (fun z=>by rw[z,hp]at q;cases q)];exact q
def cL(x:Str):V:=if gw x=true then(if gf x.cps.toList=0 then .non else .int (gf x.cps.toList:Nat))else .non
def Tn:V->V
 | .int i=>.int (-i)
 |v=>v
def lY(x:Str):V:=if Txt.startswith x "-"=true then Tn (cL (dY x (some 1) none))else rE x
inductive LX(vs:List V)(H:Hp)(Q:VK)(E:XK):Prop
 |mk(x:_)(_:vs=[.str x])(_:x.length<=sizeLine)(_:∀ J,(∀ b o,H b=some o->J b=some o)->Q (cL x) J)
inductive DB(vs:List V)(H:Hp)(Q:VK)(E:XK):Prop
 |mk(x:_)(_:vs=[.str x])(_:x.length<=sizeLine)(_:∀ J,(∀ b o,H b=some o->J b=some o)->Q (lY x) J)
theorem yj(T:Txt P w K mg t):FM P w base T.q62 2 FY:=by
 refine T.q62.F.fq (N:=["word"]) eM ?_;rintro nd _ _ _ _ H _ Q _ hr ⟨x,rfl,hx,k⟩
 refine⟨_,(aq (aO (PW.pt (dN (cZ (qP lG lG ak (aZ kI T.zd Bt.len (aa (O 0) aj)) (fG (v:=.int 30) T.zaG ⟨_,rfl⟩))) (eZ (cZ (cG (aZ (jC rfl) T.zC Bt.all (aa (bT rfl ["sign"] [none] (xq (O 0)) gT (fun _ _ _ _ _ _=>(iP 0 (l8 (l:=["sign"])))) (fun _ _ _ _ _ _=>bZ) (fun _ _ _ _ _ _=>(eK T.q61 (QF T) hr aH (aa (O 0) aj)))) aj)))))))
    (au (aC bM))
    aM)
   (aq (aO (PW.pt (gQ (aG aW (cy oF (O 0) ak) az (aK _)) (gk (aG gq (O 0) az (aK _)))))
    (au (aC bM))
    aM)
   (au (aC (dG FJ T.zL Bt.int (aa (O 0) aj)))))),?_⟩
 have OK:x.length=x.cps.toList.length:=ax.symm
 have fin:∀ J,(∀ b o,H b=some o->J b=some o)->gw x=false->Q .non J:=fun J s' e=>by
  have:=k J s';unfold rE at this;rw[e,bX ki]at this;exact this
 have Zj:∀ b o,H b=some o->H b=some o:=fun _ _ z=>z
 refine⟨_,Z,_,Z,hx,_,_,Z,Z,_,Z,?_⟩;refine aN (fun e1=>?_) (fun e1=>⟨_,rfl,bU (fin H Zj (by simp at e1;simp[gw];exact G))⟩);have e1:=eT e1;refine⟨_,_,Z,Z,_,Z,?_⟩;cases e2:decide ((x.length:Int)<=30)with
 |false=>exact bU (fin H Zj (by simp at e2;simp[gw];exact G))
 |true =>
 refine bD ?_;refine⟨_,Z,x,Z,oK (fun c=>.bl (gM c)) hx (fun c R _ hR=>⟨True.intro,_,Z,c,Z,hR⟩) fun p hp=>?_⟩;have s1:=aR (o:=.lst (x.cps.toList.map fun c=>V.bl (gM c))) hp;refine⟨p,x.cps.toList.map gM,Z,?_,?_⟩
 .refine b5.of ?_
  rw[ao,dr];rfl
 generalize upd H p (.lst (x.cps.toList.map fun c=>V.bl (gM c)))=H1 at s1 ⊢;have X3:(x.cps.toList.map gM).all id=x.cps.toList.all gM:=by simp
 rw[X3];cases e3:x.cps.toList.all gM with
 |false=>exact⟨_,Z,bU (fin H1 s1 (by simp only[gw,e3];simp))⟩
 |true =>
 refine⟨_,Z,bD ?_⟩;have Fc:=eT e2
 obtain⟨c0,r,hc⟩:∃ c0 r,x.cps.toList=c0::r:=by
  cases h:x.cps.toList with
  |nil=>rw[h]at OK;have:x.length=0:=OK;exact G
  |cons a b=>exact⟨a,b,Z⟩
 have SK:∀ c∈c0::r,48<=c/\c<=57:=fun c x_=>by
  have:=bP.mp e3 c (by rw[hc];exact x_);unfold gM at this
  simpa using this
 have Lm:x.cps[0]?=some c0:=by rw[<- Array.getElem?_toList,hc];rfl
 have Pd:("0":Str)=⟨#[48]⟩:=by decide +kernel
 have done:(49<=c0/\c0<=57\/c0=48/\r=[])->gw x=true->Q (.int (gf (c0::r):Nat)) H1:=fun _ e=>by
  have:=k H1 s1;unfold rE at this;rw[e,qp rfl,hc]at this;exact this
 have RO:r.length<600:=by
  rw[hc]at OK;have:x.length=r.length+1:=OK;exact G
 have UN:gw x = !(decide (c0=48) && !decide (x="0")):=by
  unfold gw;rw[cK e1,cK Fc,e3,hc];simp
 have Lm:tw x.cps.toList 0=some c0:=bu (j:=0) (by rw[hc];rfl)
 have eq0:decide (V.str ⟨#[c0]⟩=V.str ("0":Str))=decide (c0=48):=by
  by_cases e:c0=48
  .rw[cK e,cK (by rw[Pd,e])]
  rw[gS e,gS (fun z=>e (by
   have h:=V.str.inj z;rw[Pd]at h;have h2:=b4 (fun y:Str=>y.cps.toList) h
   exact(List.cons.inj h2).1))]
 have eqx:decide (V.str x=V.str ("0":Str))=decide (x="0"):=by
  by_cases e:x="0"
  .rw[cK e,cK (by rw[e])]
  rw[gS e,gS (fun z=>e (V.str.inj z))]
 have K0:gw x=true->∃(x':Str)(Ua:Nat)(r':List Nat),[V.str x]=[V.str x']/\x'.cps.toList=Ua::r'/\(49<=Ua/\Ua<=57\/Ua=48/\r'=[])/\(∀ c∈r',48<=c/\c<=57)/\r'.length<600/\Q (.int (gf (Ua::r'):Nat)) H1:=fun e=>by
  have h0:=SK c0 qms
  have ZK:49<=c0/\c0<=57\/c0=48/\r=[]:=by
   by_cases e4:c0=48
   .refine .inr ⟨e4,?_⟩
    rw[UN,cK e4]at e;have e5:x="0":=by simpa using e
    rw[e5,Pd]at hc;have hc:[48]=c0::r:=hc;exact(List.cons.inj hc).2.symm
   exact .inl G
  exact⟨x,c0,r,Z,hc,ZK,fun c x_=>SK c (k9 _ x_),RO,done ZK e⟩
 refine⟨_,Z,x,0,c0,Z,Z,hx,Lm,Z,_,Z,?_⟩;rw[eq0];cases e4:decide (c0=48)with
 |false=>exact bD (bD ⟨_,rfl,K0 (by rw[UN,e4];rfl)⟩)
 | true =>
  refine bU ⟨_,rfl,rfl,_,rfl,?_⟩;rw[eqx];cases e5:decide (x="0")with
  |true=>exact bD ⟨_,rfl,K0 (by rw[UN,e4,e5];rfl)⟩
  |false=>exact bU (fin H1 s1 (by rw[UN,e4,e5];rfl))
theorem uw(T:Txt P w K mg t):FM P w base T.q63 3 LX:=by
 refine T.q63.F.fq (N:=["word","number"]) eM ?_;rintro nd _ _ _ _ _ _ _ _ hr ⟨x,rfl,hx,k⟩
 refine⟨_,(aq (fR 1 nd (eK T.q62 (yj T) hr aH (aa (O 0) aj)))
   (au (aC (fH (aG aW (O 1) ak (aK _)) bM (O 1))))),?_⟩
 refine⟨_,Z,x,Z,hx,fun H1 s1=>?_⟩;have k1:=k H1 s1;unfold cL at k1;unfold rE;cases h:gw x with
 | false =>
  rw[h,bX ki]at k1;rw[bX ki];exact⟨_,Z,Z,_,Z,aN (fun z=>k1) (fun _=>⟨_,Z,k1⟩)⟩
 | true =>
  rw[h,qp rfl]at k1;rw[qp rfl];refine⟨_,Z,Z,_,Z,aN (fun z=>?_) (fun z=>?_)⟩
  .have z:=V.int.inj (eT z)
   rw[qp G]at k1;exact k1
  have z:¬gf x.cps.toList=0:=fun e=>z (cK (by rw[e];rfl))
  rw[bX z]at k1;exact⟨_,Z,k1⟩
theorem GZ(T:Txt P w K mg t):FM P w base T.q64 4 DB:=by
 refine T.q64.F.fq (N:=["word","number"]) eM ?_;rintro nd _ _ _ _ _ _ _ _ hr ⟨x,rfl,hx,k⟩
 refine⟨_,(aq (aO (cZ (cG (b8 PySem.F.plainAttrs_str PySem.F.slot_str_startswith PySem.F.type_str_startswith vR (O 0) (aa az aj))))
    (au (aC (eK T.q62 (yj T) hr aH (aa (O 0) aj))))
    aM)
   (aq (fR 1 nd (eK T.q63 (uw T) hr aH (aa (ig wX (O 0) (iC ak) j6) aj)))
   (au (aC (fH (aG gU (O 1) bM (aK _)) bM (jr gR (O 1))))))),?_⟩
 refine⟨_,Z,Z,x,_,Z,Z,_,Z,?_⟩;unfold lY at k;cases h:Txt.startswith x "-" with
 | false =>
  rw[h,bX ki]at k;exact bU ⟨_,rfl,x,rfl,hx,k⟩
 | true =>
  rw[h,qp rfl]at k;refine bD ?_;refine⟨_,Z,_,Z,x,Z,hx,dY x (some 1) none,Z,g9 (Ar x _ _) hx,fun H1 s1=>?_⟩;have k1:=k H1 s1;unfold cL at k1 ⊢;cases h2:gw (dY x (some 1) none)with
  | false =>
   rw[h2,bX ki]at k1;rw[bX ki];exact⟨_,Z,Z,_,Z,aN (fun _=>k1) (fun z=>absurd (cK rfl) z)⟩
  | true =>
   rw[h2,qp rfl]at k1;rw[qp rfl]
   by_cases h3:gf (dY x (some 1) none).cps.toList=0
   .rw[qp h3]at k1 ⊢
    exact⟨_,Z,Z,_,Z,aN (fun _=>k1) (fun z=>absurd (cK rfl) z)⟩
   rw[bX h3]at k1 ⊢;exact⟨_,rfl,rfl,_,rfl,aN (fun z=>absurd (eT z) (by intro z;cases z)) (fun _=>⟨_,rfl,_,rfl,k1⟩)⟩
def fU:Nat:=1000000
theorem iI:fU+10<=sizeLine:=by decide
def yl(H:Hp)(v fk:V)(ts:List Str):Prop:=∃ q l,v=.ref q/\H q=some (.tup [fk,.ref l])/\H l=some (.lst (ts.map V.str))
def LQ(H:Hp)(v:V):Option (V×List Str)->Prop
 |none=>v=.non
 |some (fk,ts)=>yl H v fk ts
def L9(f:Str->Option (V×List Str)):Sp:=fun vs H Q _=>∃ x,vs=[.str x]/\x.length<=fU/\∀ r J,(∀ b o,H b=some o->J b=some o)->LQ J r (f x)->Q r J
def Dp(v:V)(ts:List Str):Option (V×List Str):=if v=.non then none else some (v,ts)
def wB(x:Str):Option (V×List Str):=some (.non,[x])
def tH(x:Str):Option (V×List Str):=if x="" then some (.non,[])else none
def qd(x:Str):Option (V×List Str):=if isName x=true then some (.str x,[])else none
def tK(x:Str):Option (V×List Str):=Dp (cL (cQ x)) [bY x]
def tL(x:Str):Option (V×List Str):=Dp (lY (cQ x)) [bY x]
inductive yk(vs:List V)(H:Hp)(Q:VK)(E:XK):Prop
 |mk(v x:_)(_:vs=[v,.str x])(_:(v=.non \/ ∃ i,v=.int i))(_:x.length<=fU)(_:∀ r J,(∀ b o,H b=some o->J b=some o)->LQ J r (Dp v [bY x])->Q r J)
theorem bA(s:∀ b o,H b=some o->H1 b=some o)(s':∀ b o,H1 b=some o->H2 b=some o):∀ b o,H b=some o->H2 b=some o:=fun b o e=>s' b o (s b o e)
theorem vA(x:Str):(cQ x).length <= x.length:=by
 have h1:=pH 32 x.cps.toList;have h2:x.length=x.cps.toList.length:=ax.symm;show(cT 32 x.cps.toList).toArray.size<=_;rw[ah];exact G
theorem pI(x:Str):cL x=.non \/ ∃ i,cL x=.int i:=by
 unfold cL
 split
 .split
  .exact .inl rfl
  exact .inr ⟨_,rfl⟩
 exact .inl rfl
theorem G3(x:Str):lY x=.non \/ ∃ i,lY x=.int i:=by
 unfold lY
 split
 .rcases pI (dY x (some 1) none)with e|⟨i,e⟩
  .rw[e];exact .inl rfl
  rw[e];exact .inr ⟨_,rfl⟩
 unfold rE
 split
 .exact .inr ⟨_,rfl⟩
 exact .inl rfl
theorem AL:ck ["text"] ["text"] (aP YO):=eM
theorem Kc(T:Txt P w K mg t):FM P w base T.q69 1 (L9 wB):=by
 refine T.q69.F.xl AL (fun vs H Q E h=>by obtain⟨x,rfl,_⟩:=h;rfl) (fun ja A outer s H vs Q E hr h=>?_);obtain⟨x,rfl,hx,k⟩:=h;have nd:=AL.nd;refine⟨_,(au (aC (bj (aa bM (aa (bz (aa (O 0) aj)) aj))))),?_⟩;refine⟨_,Z,v_,fun l hl=>⟨xS,fun q hq=>?_⟩⟩;exact k _ _ (bA (aR hl) (aR hq)) ⟨q,l,rfl,ao,aR hq _ _ ao⟩
theorem AS:ck ["text"] ["text"] (aP YK):=eM
theorem Kd(T:Txt P w K mg t):FM P w base T.q73 1 (L9 tH):=by
 refine T.q73.F.xl AS (fun vs H Q E h=>by obtain⟨x,rfl,_⟩:=h;rfl) (fun ja A outer s H vs Q E hr h=>?_);obtain⟨x,rfl,hx,k⟩:=h;have nd:=AS.nd;refine⟨_,(au (aC (fH (aG aW (O 0) az (aK _)) (bj (aa bM (aa (bz aj) aj))) bM))),?_⟩;unfold tH at k;refine⟨_,Z,Z,_,Z,aN (fun z=>?_) (fun z=>?_)⟩
 .rw[qp (V.str.inj (eT z))]at k
  refine⟨(by show 0<=sizeLine;decide),fun l hl=>⟨xS,fun q hq=>?_⟩⟩;exact k _ _ (bA (aR hl) (aR hq)) ⟨q,l,rfl,ao,aR hq _ _ ao⟩
 rw[bX (fun e=>z (cK (by rw[e])))]at k;exact k _ _ (fun _ _ e=>e) rfl
theorem AR:ck ["text"] ["text"] (aP YM):=eM
theorem Ke(T:Txt P w K mg t):FM P w base T.q71 3 (L9 qd):=by
 refine T.q71.F.xl AR (fun vs H Q E h=>by obtain⟨x,rfl,_⟩:=h;rfl) (fun ja A outer s H vs Q E hr h=>?_);obtain⟨x,rfl,hx,k⟩:=h;have nd:=AR.nd;refine⟨_,(au (aC (fH (cG (eK T.q1 (lQ T) hr aH (aa (O 0) aj))) (bj (aa (O 0) (aa (bz aj) aj))) bM))),?_⟩;unfold qd at k;refine⟨_,Z,x,Z,g9 hx b9,fun H1 s1=>⟨_,Z,?_⟩⟩;cases h:isName x with
 | true =>
  rw[h,qp rfl]at k;refine bU ⟨_,rfl,(by show 0<=sizeLine;decide),fun l hl=>⟨xS,fun q hq=>?_⟩⟩;exact k _ _ (bA s1 (bA (aR hl) (aR hq))) ⟨q,l,rfl,ao,aR hq _ _ ao⟩
 | false =>
  rw[h,bX ki]at k;exact bD (k _ _ s1 rfl)
theorem qL(T:Txt P w K mg t):FM P w base T.q66 2 yk:=by
 refine T.q66.F.fq (N:=["number","text"]) eM ?_;rintro nd _ _ _ _ _ _ _ _ hr ⟨v,x,rfl,hv,hx,k⟩;refine⟨_,(au (aC (fH (aG gU (O 0) bM (aK _)) bM (bj (aa (O 0) (aa (bz (aa (eK T.q60 (nF T) hr aH (aa (O 1) aj)) aj)) aj)))))),?_⟩;unfold Dp at k;rcases hv with rfl|⟨i,rfl⟩
 .rw[qp rfl]at k
  exact⟨_,Z,Z,_,Z,aN (fun _=>k _ _ (fun _ _ e=>e) rfl) (fun z=>absurd (cK rfl) z)⟩
 rw[bX (by intro z;cases z)]at k;refine⟨_,rfl,rfl,_,rfl,aN (fun z=>absurd (eT z) (by intro z;cases z)) (fun _=>?_)⟩;refine⟨_,Z,_,Z,x,Z,g9 hx b9,fun H1 s1=>⟨v_,fun l hl=>⟨xS,fun q hq=>?_⟩⟩⟩;exact k _ _ (bA s1 (bA (aR hl) (aR hq))) ⟨q,l,rfl,ao,aR hq _ _ ao⟩
theorem AJ:ck ["text"] ["text"] (aP YR):=eM
theorem Kf(T:Txt P w K mg t):FM P w base T.q67 4 (L9 tK):=by
 refine T.q67.F.xl AJ (fun vs H Q E h=>by obtain⟨x,rfl,_⟩:=h;rfl) (fun ja A outer s H vs Q E hr h=>?_);obtain⟨x,rfl,hx,k⟩:=h;have nd:=AJ.nd;refine⟨_,(au (aC (eK T.q66 (qL T) hr aH (aa (eK T.q63 (uw T) hr aH (aa (eK T.q59 (nD T) hr aH (aa (O 0) aj)) aj)) (aa (O 0) aj))))),?_⟩;have K_:=vA x;refine⟨_,Z,x,Z,g9 hx b9,fun H1 s1=>⟨cQ x,Z,g9 K_ (g9 hx b9),fun H2 s2=>?_⟩⟩;exact⟨_,Z,_,x,Z,pI _,hx,fun r H3 s3 sC=>k r H3 (bA s1 (bA s2 s3)) sC⟩
theorem AQ:ck ["text"] ["text"] (aP YQ):=eM
theorem Kg(T:Txt P w K mg t):FM P w base T.q68 5 (L9 tL):=by
 refine T.q68.F.xl AQ (fun vs H Q E h=>by obtain⟨x,rfl,_⟩:=h;rfl) (fun ja A outer s H vs Q E hr h=>?_);obtain⟨x,rfl,hx,k⟩:=h;have nd:=AQ.nd;refine⟨_,(au (aC (eK T.q66 (qL T) hr aH (aa (eK T.q64 (GZ T) hr aH (aa (eK T.q59 (nD T) hr aH (aa (O 0) aj)) aj)) (aa (O 0) aj))))),?_⟩;have K_:=vA x;refine⟨_,Z,x,Z,g9 hx b9,fun H1 s1=>⟨cQ x,Z,g9 K_ (g9 hx b9),fun H2 s2=>?_⟩⟩;exact⟨_,Z,_,x,Z,G3 _,hx,fun r H3 s3 sC=>k r H3 (bA s1 (bA s2 s3)) sC⟩
def b7(x:Str):List Str:=(Txt.split x " ").filter fun(w:Str)=>!decide (w="")
inductive BA(vs:List V)(H:Hp)(Q:VK)(E:XK):Prop
 |mk(x:_)(_:vs=[.str x])(_:x.length<=fU)(_:∀ p J,(∀ b o,H b=some o->J b=some o)->J p=some (.lst ((b7 x).map V.str))->Q (.ref p) J)
def lC(x:Str):Str:=Txt.stripChars x " "
def Dq(x:Str):Option (V×List Str):=if Txt.contains x ":"=true then some (.non,[lC (lA (cT 58 x.cps.toList)),lC (lA (cJ 58 x.cps.toList))])else none
theorem RN:(":":Str)=⟨#[58]⟩:=by decide +kernel
def fV(ns:List Str):Bool:=(decide (1<=(ns.length:Int))&&decide ((ns.length:Int)<=8))&&ns.all fun n=>isName n&&decide ((ns.map V.str).countP (fun z=>mn z (.str n))=1)
inductive w_(vs:List V)(H:Hp)(Q:VK)(E:XK):Prop
 |mk(x:_)(_:vs=[.str x])(_:x.length<=fU)(_:∀ r J,(∀ b o,H b=some o->J b=some o)->(if fV (b7 x)=true then ∃ p,yl J r (.ref p) []/\J p=some (.tup ((b7 x).map V.str))else r=.non)->Q r J)
theorem tM(T:Txt P w K mg t):FM P w base T.q58 1 BA:=by
 refine T.q58.F.fq (N:=["text"]) eM ?_;rintro nd _ _ _ _ H _ _ _ hr ⟨x,rfl,hx,k⟩;refine⟨_,(au (aC (bT rfl ["word"] [none] (bR (b8 PySem.F.plainAttrs_str PySem.F.slot_str_split PySem.F.type_str_split xG (O 0) (aa az aj))) gT (fun _ _ _ _ _ _=>(iP 0 (l8 (l:=["word"])))) (fun _ _ _ _ _ _=>jf (aG gq (O 0) az (aK _))) (fun _ _ _ _ _ _=>(O 0))))),?_⟩;have hm:=iI;have hsl:=sQ x " ";refine⟨_,Z,Z,x,_,Z,Z,(by rw[pG];decide),G,G,fun p hp=>?_⟩;have s1:=aR (o:=.lst ((Txt.split x " ").map V.str)) hp;have hp1:(upd H p (.lst ((Txt.split x " ").map V.str))) p=some (.lst ((Txt.split x " ").map V.str)):=ao;generalize upd H p (.lst ((Txt.split x " ").map V.str))=H1 at s1 hp1 ⊢;refine⟨p,Z,⟨_,b5.of hp1⟩,?_⟩
 refine cF (K:=K) (a:=p) (xs:=(Txt.split x " ").map V.str) (fun i ys J=>J=H1/\ys=(((Txt.split x " ").take i).filter fun(w:Str)=>!decide (w="")).map V.str) ⟨rfl,rfl⟩ (by rw[de];exact G) (fun i ys J ⟨_,e⟩=>by
  rw[e,de];have:=eI (fun w:Str=>!decide (w="")) ((Txt.split x " ").take i);rw[bq]at this
  exact G) (fun i ys J ⟨e,_⟩=>by subst e;exact b5.of hp1) ?_ ?_
 .rintro i z ys J hi ⟨e,rfl⟩
  subst e;rw[kg]at hi
  obtain⟨c,hc,rfl⟩:∃ c,(Txt.split x " ")[i]?=some c/\z=V.str c:=by
   cases q:(Txt.split x " ")[i]? with
   |none=>rw[q]at hi;cases hi
   |some c=>rw[q]at hi;exact⟨c,Z,(kK hi).symm⟩
  have et:(((Txt.split x " ").take (i+1)).filter fun(w:Str)=>!decide (w=""))=(((Txt.split x " ").take i).filter fun(w:Str)=>!decide (w=""))++(if c="" then []else [c]):=by
   rw[qE,hc,gp]
   congr 1
   show List.filter _ [c]=_
   by_cases h:c=""
   .rw[qp h,dP (by rw[cK h];decide)]
    rfl
   rw[bX h,fw (by rw[gS h];rfl)]
   rfl
  refine⟨trivial,_,Z,Z,_,Z,aN (fun z=>?_) (fun z=>?_)⟩
  .have z:¬c="":=fun e=>by rw[e,cK rfl]at z;cases z
   refine⟨_,Z,Z,?_⟩;rw[et,bX z,ay]
   rfl
  have z:c="":=eB fun e=>z (by rw[gS (fun q=>e (V.str.inj q))];rfl)
  refine⟨Z,?_⟩;rw[et,qp z,c_]
 rintro ys J ⟨e,rfl⟩;subst e;show ∀ l,J l=none->_;rw[de,bp];intro l hl;exact k l _ (bA s1 (aR hl)) ao
theorem AO:ck ["text","parts"] ["text"] (aP YN):=eM
theorem Kh(T:Txt P w K mg t):FM P w base T.q70 1 (L9 Dq):=by
 refine T.q70.F.xl AO (fun vs H Q E h=>by obtain⟨x,rfl,_⟩:=h;rfl) (fun ja A outer s H vs Q E hr h=>?_);obtain⟨x,rfl,hx,k⟩:=h;have nd:=AO.nd
 refine⟨_,(aq (aO (aG yU az (O 0) ou)
    (au (aC bM))
    aM)
   (aq (fR 1 nd (b8 PySem.F.plainAttrs_str PySem.F.slot_str_partition PySem.F.type_str_partition kW (O 0) (aa az aj)))
   (au (aC (bj (aa bM (aa (bz (aa (b8 PySem.F.plainAttrs_str PySem.F.slot_str_strip PySem.F.type_str_strip oV (cy aJ (O 1) ak) (aa az aj)) (aa (b8 PySem.F.plainAttrs_str PySem.F.slot_str_strip PySem.F.type_str_strip oV (cy aJ (O 1) ak) (aa az aj)) aj))) aj))))))),?_⟩
 have hm:=iI;have OK:x.length=x.cps.toList.length:=ax.symm;unfold Dq at k;refine⟨_,Z,_,_,Z,Z,_,Z,?_⟩;cases h:Txt.contains x ":" with
 | false =>
  rw[h,bX ki]at k;exact bU (k _ _ (fun _ _ e=>e) rfl)
 | true =>
  rw[h,qp rfl]at k;refine bD ?_;refine⟨_,Z,Z,x,_,58,Z,Z,RN,G,fun p b hp=>?_⟩;have s1:=aR (o:=.tup [.str ⟨(cT 58 x.cps.toList).toArray⟩,.str b,.str ⟨(cJ 58 x.cps.toList).toArray⟩]) hp;have hp1:(upd H p (.tup [.str ⟨(cT 58 x.cps.toList).toArray⟩,.str b,.str ⟨(cJ 58 x.cps.toList).toArray⟩])) p=some (.tup [.str (lA (cT 58 x.cps.toList)),.str b,.str (lA (cJ 58 x.cps.toList))]):=ao;generalize upd H p (.tup [.str ⟨(cT 58 x.cps.toList).toArray⟩,.str b,.str ⟨(cJ 58 x.cps.toList).toArray⟩])=H1 at s1 hp1 ⊢
  have hA:(lA (cT 58 x.cps.toList)).length <= sizeLine:=by
   have:=pH 58 x.cps.toList;show(cT 58 x.cps.toList).toArray.size<=_;rw[ah];exact G
  have hB:(lA (cJ 58 x.cps.toList)).length <= sizeLine:=by
   have:=lX 58 x.cps.toList;show(cJ 58 x.cps.toList).toArray.size<=_;rw[ah];exact G
  refine⟨_,Z,p,_,0,_,Z,Z,SqT.of hp1,Z,Z,_,_,Z,Z,hA,_,Z,p,_,2,_,Z,Z,SqT.of hp1,Z,Z,_,_,Z,Z,hB,xS,fun l hl=>⟨xS,fun q hq=>?_⟩⟩;exact k _ _ (bA s1 (bA (aR hl) (aR hq))) ⟨q,l,rfl,ao,aR hq _ _ ao⟩
theorem qM{n:Str}(h:n∈b7 x):n.length<=x.length:=PyProof.Rows.part_short (md.mp h).1
theorem tO(x:Str):(b7 x).length <= x.length+2:=g9 (eI _ _) (sQ x " ")
theorem tQ(ns:List Str):(ns.map V.str).all fD=true:=by
 rw[bP];intro v hv;obtain⟨n,_,rfl⟩:=cb.mp hv
 rfl
theorem G4(T:Txt P w K mg t):FM P w base T.q65 3 w_:=by
 refine T.q65.F.fq (N:=["text","names"]) eM ?_;rintro nd _ _ _ _ H _ Q _ hr ⟨x,rfl,hx,k⟩
 refine⟨_,(aq (He 1 nd (eK T.q58 (tM T) hr aH (aa (O 0) aj)))
   (aq (aO (cZ (qP lG lG ak (aZ aX T.zd Bt.len (aa (ko 1) aj)) (fG (v:=.int 8) T.zaH ⟨_,rfl⟩)))
    (au (aC bM))
    aM)
   (aq (aO (cZ (cG (aZ (jC rfl) T.zC Bt.all (aa (bT rfl ["name","names"] [none,some 1] (bR (ko 1)) gT (fun _ _ _ _ _ _=>(iP 0 (l8 (l:=["name","names"])))) (fun _ _ _ _ _ _=>bZ) (fun _ _ _ _ _ _=>(nZ (eK T.q1 (lQ T) hr aH (aa (O 0) aj)) (j8 (du aW (Fd (K:=K) rfl PySem.F.plainAttrs_list PySem.F.slot_list_count PySem.F.type_list_count (FP (K:=K)) (ko 1) (aa (O 0) aj)) ak (aK _)))))) aj))))
    (au (aC bM))
    aM)
   (au (aC (bj (aa (dG dh T.zn Bt.tuple (aa (ko 1) aj)) (aa (bz aj) aj)))))))),?_⟩
 have hm:=iI;refine⟨_,Z,x,Z,hx,fun p H1 s1 hp1=>?_⟩;have pe:∀ n∈b7 x,n.length<=sizeLine:=fun n hn=>by have:=qM hn;exact G
 have KP:=tO x;generalize b7 x=ns at hp1 pe KP k;have fin:∀ J,(∀ b o,H b=some o->J b=some o)->fV ns=false->Q .non J:=fun J s' e=>k _ _ s' (by rw[e,bX ki])
 refine⟨_,Z,p,_,Z,.inl (b5.of hp1),_,_,Z,Z,_,Z,?_⟩;rw[de];refine aN (fun e1=>?_) (fun e1=>⟨_,rfl,bU (fin H1 s1 (by simp at e1;simp[fV];exact G))⟩);have e1:=eT e1;refine⟨_,_,Z,Z,_,Z,?_⟩;cases e2:decide ((ns.length:Int)<=8)with
 |false=>exact bU (fin H1 s1 (by simp at e2;simp[fV];exact G))
 |true =>
 refine bD ?_;refine⟨_,Z,p,Z,⟨_,b5.of hp1⟩,?_⟩;refine cF (K:=K) (a:=p) (xs:=ns.map V.str) (fun i ys J=>(∀ b o,H1 b=some o->J b=some o)/\ys=((ns.take i).map fun n=>isName n&&decide ((ns.map V.str).countP (fun z=>mn z (.str n))=1)).map V.bl) ⟨fun _ _ e=>e,rfl⟩ (by rw[de];exact G) (fun i ys J ⟨_,e⟩=>by rw[e,de,de,bq];exact G) (fun i ys J ⟨s',_⟩=>b5.of (s' _ _ hp1)) ?_ ?_
 .rintro i z ys H2 hi ⟨s2,rfl⟩
  rw[kg]at hi
  obtain⟨n,hn,rfl⟩:∃ c,ns[i]?=some c/\z=V.str c:=by
   cases q:ns[i]? with
   |none=>rw[q]at hi;cases hi
   |some c=>rw[q]at hi;exact⟨c,Z,(kK hi).symm⟩
  have IE:n∈ns:=pj hn
  have et:∀ b:Bool,(isName n&&decide ((ns.map V.str).countP (fun z=>mn z (.str n))=1))=b->((ns.take i).map fun n=>isName n&&decide ((ns.map V.str).countP (fun z=>mn z (.str n))=1)).map V.bl++[V.bl b]=((ns.take (i+1)).map fun n=>isName n&&decide ((ns.map V.str).countP (fun z=>mn z (.str n))=1)).map V.bl:=fun b e=>by
   rw[qE,hn,ay,ay,<- e]
   rfl
  refine⟨⟨Z,trivial⟩,_,Z,n,Z,pe n IE,fun H3 s3=>⟨_,Z,?_⟩⟩;have G1:=bA s2 s3;cases h:isName n with
  |false=>exact bD ⟨G1,et false (by rw[h];rfl)⟩
  | true =>
   refine bU ⟨_,rfl,.inl ⟨rfl,_,b5.of (G1 _ _ hp1)⟩,_,rfl,p,_,.str n,rfl,rfl,b5.of (G1 _ _ hp1),rfl,tQ ns,fun j hj ej=>⟨rfl,G1,et _ ?_⟩⟩;rw[h,Bool.true_and,<- ej]
   by_cases e:j=1
   .rw[cK e,cK (by rw[e];rfl)]
   rw[gS e,gS (fun z=>e (by have:=V.int.inj z;exact G))]
 rintro ys H2 ⟨s2,rfl⟩ lc yT;rw[de,bp];have s3:=aR (o:=.lst ((ns.map fun n=>isName n&&decide ((ns.map V.str).countP (fun z=>mn z (.str n))=1)).map V.bl)) yT;refine⟨lc,_,Z,b5.of ao,?_⟩;generalize upd H2 lc (.lst ((ns.map fun n=>isName n&&decide ((ns.map V.str).countP (fun z=>mn z (.str n))=1)).map V.bl))=H3 at s3 ⊢;have qA:=bA s1 (bA s2 s3);have Cb:=s3 _ _ (s2 _ _ hp1)
 have ea:(ns.map fun n=>isName n&&decide ((ns.map V.str).countP (fun z=>mn z (.str n))=1)).all id=ns.all fun n=>isName n&&decide ((ns.map V.str).countP (fun z=>mn z (.str n))=1):=by
  rw[rh]
  rfl
 rw[ea];have Fc:=eT e2
 have eb:fV ns=ns.all fun n=>isName n&&decide ((ns.map V.str).countP (fun z=>mn z (.str n))=1):=by
  unfold fV;rw[cK e1,cK Fc]
  rfl
 rw[<- eb];cases h:fV ns with
 |false=>exact⟨_,Z,bU (fin H3 qA h)⟩
 | true =>
  refine⟨_,Z,bD ?_⟩;refine⟨_,Z,p,_,Z,.inl ⟨b5.of Cb,fun q hq=>⟨(by show 0<=sizeLine;decide),fun l hl=>⟨xS,fun r sC=>?_⟩⟩⟩⟩;refine k _ _ (bA qA (bA (aR hq) (bA (aR hl) (aR sC)))) ?_;rw[h,qp rfl];exact⟨q,⟨r,l,Z,ao,aR sC _ _ ao⟩,aR sC _ _ (aR hl _ _ ao)⟩
theorem tR(x:Str):(bY x).length <= x.length:=by
 have h1:=lX 32 x.cps.toList;have h2:x.length=x.cps.toList.length:=ax.symm
 have h3:((cJ 32 x.cps.toList).dropWhile (· == 32)).length <= (cJ 32 x.cps.toList).length:=by
  rw[<- jk,cm];exact G
 show((cJ 32 x.cps.toList).dropWhile (· == 32)).toArray.size<=_;rw[ah];exact G
def iY(kd:Str):Option (Str->Option (V×List Str)):=
 if kd="take" then some tK else if kd="give"\/kd="ask" then some wB else if kd="lean" then some tL else if kd="keep" then some qd else if kd="back"\/kd="again"\/kd="worlds" then some tH else if kd="lost" then some Dq else none
theorem ym:ck ["row","kind","pair"] ["row"] (aP YJ):=eM
theorem QG:("\n":Str)=⟨#[10]⟩:=by decide +kernel
def gZ(x:Str):List (Nat×Str):=(Txt.split x "\n").zipIdx.map fun p=>(p.2,lC p.1)
def qg(x:Str):List (Nat×Str):=(gZ x).filter fun(r:Nat×Str)=>!decide (r.2="")
def pz(H:Hp)(v:V)(r:Nat×Str):Prop:=∃ q,v=.ref q/\H q=some (.tup [.int (r.1:Int),.str r.2])
theorem pz.mono(s:∀ b o,H b=some o->J b=some o){r:Nat×Str}:pz H v r->pz J v r:=fun⟨q,h1,h2⟩=>⟨q,h1,s _ _ h2⟩
inductive C8(vs:List V)(H:Hp)(Q:VK)(E:XK):Prop
 |mk(x:_)(_:vs=[.str x])(_:x.length<=fU)(_:∀ p us J,(∀ b o,H b=some o->J b=some o)->J p=some (.lst us)->Paired (pz J) us (qg x)->Q (.ref p) J)
theorem G5(x:Str):(gZ x).length=(Txt.split x "\n").length:=by
 unfold gZ;rw[de,List.length_zipIdx]
theorem Kl{s:Str} (h:(Txt.split x "\n")[i]?=some s):(gZ x)[i]?=some (i,lC s):=by
 unfold gZ;rw[kg,List.getElem?_zipIdx,h];simp
theorem G6(T:Txt P w K mg t):FM P w base T.q57 1 C8:=by
 refine T.q57.F.fq (N:=["text","rows"]) eM ?_;rintro nd _ _ _ _ H vs Q E hr ⟨x,rfl,hx,k⟩
 refine⟨_,(aq (iT (i:=1) rfl ["place","row"] [none,none] nd rfl rfl (Lq (b8 PySem.F.plainAttrs_str PySem.F.slot_str_split PySem.F.type_str_split xG (O 0) (aa az aj)) T.zw) gT (fun _ _ _ _ _ _=>(jg (K:=K) (n:=2) rfl rfl (bG (iP 0 (l8 (l:=["place","row"]))) (bG (iP 1 (l8 (l:=["place","row"]))) dO)))) (fun _ _ _ _ _ _=>bZ) (fun _ _ _ _ _ _=>(bj (aa (O 0) (aa (Fd (K:=K) rfl PySem.F.plainAttrs_str PySem.F.slot_str_strip PySem.F.type_str_strip oV (O 1) (aa az aj)) aj)))))
   (au (aC (bT rfl ["pair"] [none] (bR (O 1)) gT (fun _ _ _ _ _ _=>(iP 0 (l8 (l:=["pair"])))) (fun _ _ _ _ _ _=>jf (aG gq (cy (iH (K:=K)) (O 0) ak) az (aK _))) (fun _ _ _ _ _ _=>(O 0)))))),?_⟩
 have hm:=iI;have hsl:=sQ x "\n";refine⟨_,Z,Z,x,_,Z,Z,(by rw[QG];decide),G,G,fun p hp=>?_⟩;have s1:=aR (o:=.lst ((Txt.split x "\n").map V.str)) hp;have hp1:(upd H p (.lst ((Txt.split x "\n").map V.str))) p=some (.lst ((Txt.split x "\n").map V.str)):=ao;generalize upd H p (.lst ((Txt.split x "\n").map V.str))=H1 at s1 hp1 ⊢;have rd:=G5 x;refine⟨p,Z,⟨_,b5.of hp1⟩,?_⟩;refine Fi (K:=K) (a:=p) (xs:=(Txt.split x "\n").map V.str) (fun i ys J=>(∀ b o,H1 b=some o->J b=some o)/\Paired (pz J) ys ((gZ x).take i)) ⟨fun _ _ e=>e,.nil⟩ (by rw[de];exact G) (fun i ys J ⟨_,e⟩=>by rw[aT e,bq];exact G) (fun i ys J ⟨s',_⟩=>b5.of (s' _ _ hp1)) ?_ ?_
 .rintro i y ys H2 hi ⟨s2,hP⟩ e he
  rw[kg]at hi
  obtain⟨c,hc,rfl⟩:∃ c,(Txt.split x "\n")[i]?=some c/\y=V.str c:=by
   cases q:(Txt.split x "\n")[i]? with
   |none=>rw[q]at hi;cases hi
   |some c=>rw[q]at hi;exact⟨c,Z,(kK hi).symm⟩
  have ED:c.length<=sizeLine:=by have:=PyProof.Rows.part_short (pj hc);exact G
  have s3:=aR (o:=.tup [.int (i:Int),.str c]) he;refine⟨e,_,Z,SqT.of ao,Z,_,_,Z,_,_,Z,Z,trivial,?_⟩;refine⟨_,Z,_,Z,Z,c,_,Z,Z,ED,xS,fun m CS=>?_⟩;have s4:=aR (o:=.tup [.int (i:Int),.str (Txt.stripChars c " ")]) CS;refine⟨bA s2 (bA s3 s4),?_⟩;rw[qE,Kl hc];exact bK (Paired.ib hP fun _ _ z=>pz.mono (bA s3 s4) z) (.cons ⟨m,rfl,ao⟩ .nil)
 rintro ys H2 ⟨s2,hP⟩ l hl;rw[de,<- rd,bp]at hP;have s3:=aR (o:=.lst ys) hl;have D_:(upd H2 l (.lst ys)) l=some (.lst ys):=ao;have Z9:=Paired.ib hP fun _ _ z=>pz.mono s3 z
 generalize upd H2 l (.lst ys)=H3 at s3 D_ Z9 ⊢;have qA:=bA s1 (bA s2 s3);have Kn:=aT hP;refine⟨_,Z,l,Z,⟨_,b5.of D_⟩,?_⟩
 refine cF (K:=K) (a:=l) (xs:=ys) (fun i zs J=>J=H3/\Paired (pz H3) zs (((gZ x).take i).filter fun(r:Nat×Str)=>!decide (r.2=""))) ⟨rfl,.nil⟩ G (fun i zs J ⟨_,e⟩=>by
  rw[aT e];have:=eI (fun r:Nat×Str=>!decide (r.2="")) ((gZ x).take i);rw[bq]at this
  exact G) (fun i zs J ⟨e,_⟩=>by subst e;exact b5.of D_) ?_ ?_
 .rintro i v zs J hi ⟨e,hZ⟩
  subst e;obtain⟨r,sC,q,rfl,hq⟩:=bx Z9 i v hi
  have et:((gZ x).take (i+1)).filter (fun(r:Nat×Str)=>!decide (r.2=""))=((gZ x).take i).filter (fun(r:Nat×Str)=>!decide (r.2=""))++(if r.2="" then []else [r]):=by
   rw[qE,sC,gp]
   congr 1
   show List.filter _ [r]=_
   by_cases h:r.2=""
   .rw[qp h,dP (by rw[cK h];decide)]
    rfl
   rw[bX h,fw (by rw[gS h];rfl)]
   rfl
  refine⟨trivial,_,Z,q,_,1,.str r.2,Z,Z,SqT.of hq,Z,Z,_,Z,aN (fun z=>?_) (fun z=>?_)⟩
  .have z:¬r.2="":=fun e=>by rw[e,cK rfl]at z;cases z
   refine⟨_,Z,Z,?_⟩;rw[et,bX z];exact bK hZ (.cons ⟨q,rfl,hq⟩ .nil)
  have z:r.2="":=eB fun e=>z (by rw[gS (fun q=>e (V.str.inj q))];rfl)
  refine⟨Z,?_⟩;rw[et,qp z,c_];exact hZ
 rintro zs J ⟨e,hZ⟩ l2 mP;subst e;have el:ys.length=(gZ x).length:=Kn;rw[el,bp]at hZ;exact k l2 zs _ (bA qA (aR mP)) ao (Paired.ib hZ fun _ _ z=>pz.mono (aR mP) z)
inductive GB(vs:List V)(H:Hp)(Q:VK)(E:XK):Prop
 |mk(x:_)(_:vs=[.str x])(_:x.length<=fU)(_:cQ x="names")(_:fV (b7 (bY x))=true)(_:∀ q p l J,(∀ b o,H b=some o->J b=some o)->J q=some (.tup [.str "names",.ref p,.ref l])->J p=some (.tup ((b7 (bY x)).map V.str))->Q (.ref q) J)
inductive w9(vs:List V)(H:Hp)(Q:VK)(E:XK):Prop
 |mk(l:Addr)(v:V)(us:List V)(i:Nat)(x:Str)(_:vs=[.ref l])(_:H l=some (.lst (v::us)))(_:us.length<=fU)(_:pz H v (i,x))(_:x.length<=fU)(_:cQ x="names")(_:fV (b7 (bY x))=true)(_:∀ p J,(∀ b o,H b=some o->J b=some o)->J p=some (.tup ((b7 (bY x)).map V.str))->Q (.ref p) J)
theorem Km(T:Txt P w K mg t):FM P w base T.q74 6 GB:=by
 refine T.q74.F.fq (k:=5) ym ?_;rintro nd _ _ _ _ _ _ _ _ hr ⟨x,rfl,hx,hO,hB,k⟩;have hu:=eO hr
 refine⟨_,(aq (fR 1 nd (eK T.q59 (nD T) hr aH (aa (O 0) aj)))
   (aq (aO (rQ (oN T.zo (O 1) (fG (v:=.ref t.zo) T.zK rfl)))
    (au (aC bM))
    aM)
   (aq (fR 2 nd (nj (ji T.zo hu (fG (v:=.ref t.zo) T.zK rfl) (O 1) (fun _ _=>rfl)) (aa (eK T.q60 (nF T) hr aH (aa (O 0) aj)) aj)))
   (au (aC (fH (aG gU (O 2) bM (aK _)) bM (bj (aa (O 1) (aa (cy aJ (O 2) ak) (aa (cy aJ (O 2) ak) aj)))))))))),?_⟩
 have hm:=iI;have hb:=tR x;refine⟨_,Z,x,Z,G,fun H1 s1=>?_⟩;generalize cQ x=kd at hO;subst hO;have hv:bN ([(.inr "names",.ref t.N3),(.inr "take",.ref t.Uh),(.inr "give",.ref t.LF),(.inr "lean",.ref t.Ug),(.inr "keep",.ref t.Ud),(.inr "pour",.ref t.Uc),(.inr "back",.ref t.EI),(.inr "again",.ref t.EI),(.inr "ask",.ref t.LF),(.inr "lost",.ref t.Ue),(.inr "worlds",.ref t.EI)]:List (Key×V)) (Sum.inr "names" : Key)=some (V.ref t.N3):=by kernel_rfl
 refine⟨_,Z,.inr "names",Z,Z,_,Z,?_⟩;rw[hv];refine bD ?_;refine⟨_,Z,.inr "names",V.ref t.N3,Z,Z,hv,t.N3,o_ P w,5,t.d65,["text"],w_,_,Z,(G4 T).mono b9,hr,T.q65.k,T.q65.b,aH,_,Z,x,Z,G,fun H2 s2=>⟨bY x,Z,G,fun r H3 s3 M_=>?_⟩⟩;have qA:=bA s1 (bA s2 s3);rw[hB,qp rfl]at M_;obtain⟨p,⟨q,l,rfl,hq,hl⟩,hp⟩:=M_;refine⟨_,rfl,rfl,_,rfl,aN (fun z=>absurd (eT z) (by intro z;cases z)) (fun _=>?_)⟩;refine⟨_,Z,_,Z,q,_,0,.ref p,Z,Z,SqT.of hq,Z,_,Z,q,_,1,.ref l,Z,Z,SqT.of hq,Z,(by show 3<=sizeLine;decide),fun m CS=>?_⟩;exact k m p l _ (bA qA (aR CS)) ao (aR CS _ _ hp)
theorem Ac:ck ["rows","form"] ["rows"] (aP Yx):=eM
theorem yo(T:Txt P w K mg t):FM P w base T.q89 7 w9:=by
 refine T.q89.F.fq (k:=6) Ac ?_;rintro nd _ _ _ _ H vs Q E hr ⟨l,v,us,i,x,rfl,hl,tS,⟨qv,rfl,hqv⟩,hx,hk,hB,k⟩
 refine⟨_,(aq (aO (aG aW (aZ aX T.zd Bt.len (aa (O 0) aj)) ak (aK _))
    (au qN)
    aM)
   (aq (fR 1 nd (eK T.q74 (Km T) hr aH (aa (cy aJ (cy bh (O 0) ak) ak) aj)))
   (aq (aO (PW.pt (dN (aG gU (O 1) bM (aK _)) (eZ (aG gq (cy aJ (O 1) ak) az (aK _)))))
    (au qN)
    aM)
   (au (aC (cy aJ (O 1) ak)))))),?_⟩
 have hm:=iI;refine⟨_,Z,l,_,Z,.inl (b5.of hl),Z,_,Z,aN (fun z=>absurd (V.int.inj (eT z)) (by show ¬((us.length+1:Nat):Int)=0;exact G)) (fun _=>?_)⟩;refine⟨_,Z,l,_,0,.ref qv,Z,Z,b5.of hl,bu (j:=0) rfl,qv,_,1,.str x,Z,Z,SqT.of hqv,Z,x,Z,hx,hk,hB,fun q p l2 H1 s1 hq hp=>?_⟩;refine⟨_,rfl,rfl,_,rfl,aN (fun z=>absurd (eT z) (by intro z;cases z)) (fun _=>?_)⟩;refine⟨_,Z,q,_,0,_,Z,Z,SqT.of hq,Z,Z,_,Z,aN (fun z=>absurd z (by rw[cK rfl];decide)) (fun _=>?_)⟩;exact⟨_,Z,q,_,1,.ref p,Z,Z,SqT.of hq,Z,k p H1 s1 hp⟩
def Dr(i:Int):Str:=if i=0 then "open" else if 0<i then("held ":Str)++(toString i:String)else("denied ":Str)++(toString (-i):String)
def Ko(rs:List Int)(ns:List Str)(tr:Tr):Str:=match aU (sel rs (aV ns tr)),aU (sel rs (aQ ns tr))with
 |none,_ => "always"
 |some _,none => "never"
 |some m,some y=>Dr (m-y)
inductive P7(vs:List V)(H:Hp)(Q:VK)(E:XK):Prop
 |mk(a p r l:Addr)(rs:List Int)(v:V)(us:List V)(ns:List Str)(tr:Tr)(_:vs=[.ref a,.ref l])(_:cq H a p r rs)(_:H l=some (.lst (v::us)))(_:Fits H p v ns tr)(_:(∀ x∈tr.names,x∈ns))(_:(∀ m y,aU (sel rs (aV ns tr))=some m->aU (sel rs (aQ ns tr))=some y->(m-y).natAbs.log2<1920))(_:∀ J,bb H J->Q (.str (Ko rs ns tr)) J)
theorem nY(h:L2.under K C aad=true):(jh K C).isSome=true:=by
 unfold L2.under at h;cases e:jh K C with
 |none=>rw[e]at h;cases h
 |some b=>rfl
theorem RP:ck ["mind","trees","lean"] ["mind","trees"] (aP YB):=eM
theorem QH(T:Txt P w K mg t):FM P w base T.q83 121 P7:=by
 refine T.q83.F.fq (k:=120) RP ?_;rintro nd _ _ _ _ H vs Q E hr ⟨a,p,r,l,rs,v,us,ns,tr,rfl,hm,hl,hf,hall,D9,k⟩
 refine⟨_,(aq (Bd (xj (MT (i:=2) nd rfl (Or.inl rfl) (Qv T.q22 (Nq T) hr (aa (O 0) (aa (cy bh (O 1) ak) aj)))))
    (.cons T.zQ T.zV gT gT (fun e=>(au (aC az))) (.cons T.zS T.zW gT gT (fun e=>(au (aC az))) .nil)))
   (aq (aO (aG aW (O 2) ak (aK _))
    (au (aC az))
    aM)
   (au (aC (fH (aG pQ (O 2) ak (aK _)) (aF bI az (dG jD T.zA Bt.str (aa (O 2) aj))) (aF bI az (dG jD T.zA Bt.str (aa (jr gR (O 2)) aj)))))))),?_⟩
 unfold Ko at k;refine⟨_,Z,_,Z,l,_,0,v,Z,Z,b5.of hl,bu (j:=0) rfl,a,p,r,rs,v,ns,tr,Z,hm,hf,fun _=>?_,fun z=>absurd hall z⟩;cases ho:aU (sel rs (aV ns tr))with
 | none =>
  rw[ho]at k;exact fun H1 s1=>⟨t.zi,rfl,nY T.Y8,.inl ⟨T.Y8,k H1 s1⟩⟩
 | some m =>
  rw[ho]at k;cases hk:aU (sel rs (aQ ns tr))with
  | none =>
   rw[hk]at k;exact fun H1 s1=>⟨t.zj,rfl,nY T.Y7,.inr ⟨T.zaT,.inl ⟨T.Y7,k H1 s1⟩⟩⟩
  | some y =>
   rw[hk]at k;have SA:=D9 m y ho hk;intro H1 s1;have k1:Q (.str (Dr (m-y))) H1:=k H1 s1;generalize m-y=i at SA k1;unfold Dr at k1;refine⟨_,Z,Z,_,Z,aN (fun z=>?_) (fun z=>?_)⟩
   .rw[qp (V.int.inj (eT z))]at k1
    exact k1
   have z:¬i=0:=fun e=>z (cK (by rw[e]))
   rw[bX z]at k1;refine⟨_,Z,_,_,Z,Z,_,Z,aN (fun g=>?_) (fun g=>?_)⟩
   .have g:0<i:=eT g
    rw[qp g]at k1;refine⟨_,Z,i,Z,SA,_,_,Z,Z,?_,k1⟩;have:=CF SA;have e5:("held ":Str).length=5:=by decide +kernel
    rw[e5];exact g9 (eR this 5) b9
   have g:¬0<i:=fun e=>g (cK e)
   rw[bX g]at k1;refine⟨_,Z,_,Z,-i,Z,by rw[Int.natAbs_neg];exact SA,_,_,Z,Z,?_,k1⟩;have:=CF (i:=-i) (by rw[Int.natAbs_neg];exact SA);have e7:("denied ":Str).length=7:=by decide +kernel
   rw[e7];exact g9 (eR this 7) b9
def jK(n:Nat)(wd:Nat):Str:=Txt.join ("":Str) ((List.range n).map fun(i:Nat)=>((toString ((iW wd i:Nat):Int):String):Str))
inductive Fu(vs:List V)(H:Hp)(Q:VK)(E:XK):Prop
 |mk(p:Addr)(ns:List Str)(wd:Nat)(_:vs=[.ref p,.int (wd:Int)])(_:H p=some (.tup (ns.map V.str)))(_:ns.length<=8)(_:∀ J,bb H J->Q (.str (jK ns.length wd)) J)
theorem pJ(wd i:Nat):((toString ((iW wd i:Nat):Int):String):Str).length=1/\(((iW wd i:Nat):Int)).natAbs.log2<1920:=by
 unfold iW
 split<;>exact⟨dk,dk⟩
theorem Kp(T:Txt P w K mg t):FM P w base T.q82 2 Fu:=by
 refine T.q82.F.fq (N:=["names","world"]) eM ?_;rintro nd _ _ _ _ _ _ _ _ hr ⟨p,ns,wd,rfl,hp,h8,k⟩;refine⟨_,(au (aC (b8 PySem.F.plainAttrs_str PySem.F.slot_str_join PySem.F.type_str_join mL az (aa (bT rfl ["place","world"] [none,some 1] (gK T.zr (aa (aZ aX T.zd Bt.len (aa (O 0) aj)) aj)) gT (fun _ _ _ _ _ _=>(iP 0 (l8 (l:=["place","world"])))) (fun _ _ _ _ _ _=>bZ) (fun _ _ _ _ _ _=>(dG jD T.zA Bt.str (aa (eK T.q6 (sY T) hr aH (aa (ko 1) (aa (O 0) aj))) aj)))) aj)))),?_⟩;have el:(ns.map V.str).length=ns.length:=de _;refine⟨Z,_,Z,p,_,Z,.inr (SqT.of hp),_,Z,G,by rw[el];exact G,?_⟩;rw[bE,el];refine eY (lo:=0) (n:=ns.length) (fun i=>V.str (toString ((iW wd i:Nat):Int):String)) (g9 h8 b9) (fun i R hi hR=>⟨⟨rfl,trivial⟩,_,rfl,_,rfl,wd,i,(by show [V.int (wd:Int),V.int (0+(i:Int))]++[]=_;rw[hU];rfl),_,rfl,(pJ wd i).2,hR⟩) fun l hl=>?_
 have em:((List.range ns.length).map fun i=>V.str (toString ((iW wd i:Nat):Int):String))=(((List.range ns.length).map fun(i:Nat)=>((toString ((iW wd i:Nat):Int):String):Str)).map V.str):=by
  rw[dr]
  rfl
 rw[em];refine⟨_,l,_,Z,Z,b5.of ao,?_,k _ (aB hl)⟩
 have es:∀ m:Nat,((((List.range m).map fun(i:Nat)=>((toString ((iW wd i:Nat):Int):String):Str)).map (·.length)).sum)=m:=by
  intro m
  induction m with
  |zero=>rfl
  | succ m ih =>
   rw[fA,ay,ay,r9,ih];show m+((((toString ((iW wd m:Nat):Int):String):Str).length)+0)=m+1;rw[(pJ wd m).1]
 rw[es,de,dA];have e0:("":Str).length=0:=rfl;rw[e0,Nat.mul_zero];exact G
/- chains of ∃ and/\in one piece: a proof term holds each side once -/
inductive C11(A0 A1 A2 A3 A4 A5 A6 A7 A8 A9 A10:Prop):Prop
 |mk(_:A0)(_:A1)(_:A2)(_:A3)(_:A4)(_:A5)(_:A6)(_:A7)(_:A8)(_:A9)(_:A10)
inductive C13(A0 A1 A2 A3 A4 A5 A6 A7 A8 A9 A10 A11 A12:Prop):Prop
 |mk(_:A0)(_:A1)(_:A2)(_:A3)(_:A4)(_:A5)(_:A6)(_:A7)(_:A8)(_:A9)(_:A10)(_:A11)(_:A12)
inductive E7{a0 a1 a2 a3 a4 a5 a6:Type}(p:a0->a1->a2->a3->a4->a5->a6->Prop):Prop
 |mk(x0:a0)(x1:a1)(x2:a2)(x3:a3)(x4:a4)(x5:a5)(x6:a6)(_:p x0 x1 x2 x3 x4 x5 x6)
inductive E11{a0 a1 a2 a3 a4 a5 a6 a7 a8 a9 N4:Type}(p:a0->a1->a2->a3->a4->a5->a6->a7->a8->a9->N4->Prop):Prop
 |mk(x0:a0)(x1:a1)(x2:a2)(x3:a3)(x4:a4)(x5:a5)(x6:a6)(x7:a7)(x8:a8)(x9:a9)(VP:N4)(_:p x0 x1 x2 x3 x4 x5 x6 x7 x8 x9 VP)
inductive E15{a0 a1 a2 a3 a4 a5 a6 a7 a8 a9 N4 Ui VG VF VE:Type}(p:a0->a1->a2->a3->a4->a5->a6->a7->a8->a9->N4->Ui->VG->VF->VE->Prop):Prop
 |mk(x0:a0)(x1:a1)(x2:a2)(x3:a3)(x4:a4)(x5:a5)(x6:a6)(x7:a7)(x8:a8)(x9:a9)(VP:N4)(x11:Ui)(x12:VG)(x13:VF)(x14:VE)(_:p x0 x1 x2 x3 x4 x5 x6 x7 x8 x9 VP x11 x12 x13 x14)
def cf(lg kp al ml:Addr):List (Str×V):=bf "minds_behind" (.ref ml) (bf "answers" (.ref al) (bf "kept" (.ref kp) (bf "log" (.ref lg) [])))
theorem jY(lg kp al ml:Addr):(cf lg kp al ml).lookup ("log":Str)=some (.ref lg):=by
 unfold cf;rw[bB,bX dk,bB,bX dk,bB,bX dk,bB,qp rfl]
theorem Ds(lg kp al ml:Addr):(cf lg kp al ml).lookup ("kept":Str)=some (.ref kp):=by
 unfold cf;rw[bB,bX dk,bB,bX dk,bB,qp rfl]
theorem LR(lg kp al ml:Addr):(cf lg kp al ml).lookup ("answers":Str)=some (.ref al):=by
 unfold cf;rw[bB,bX dk,bB,qp rfl]
theorem Ma(lg kp al ml:Addr):(cf lg kp al ml).lookup ("minds_behind":Str)=some (.ref ml):=by
 unfold cf;rw[bB,qp rfl]
structure CA where
 (c cx p dx sl kp al ml:Addr)
structure jI(t:l9)(H:Hp)(g:CA)(bl:Addr)(mv bv:List V)(xs:List Str)(ms:List V)(ks:List (Key×V)):Prop where
 co:H g.c=some (.ins t.zb g.cx (cf g.p g.kp g.al g.ml))
 lg:fh t.za H g.p g.dx g.sl bl mv bv
 an:H g.al=some (.lst (xs.map V.str))
 mb:H g.ml=some (.lst ms)
 kd:H g.kp=some (.dK ks)
 n1:g.al≠g.sl
 n2:g.al≠bl
 n3:g.ml≠g.sl
 n4:g.ml≠bl
 n5:g.al≠g.ml
 n6:g.p≠g.c
def gu(g:CA)(bl:Addr)(H J:Hp):Prop:=∀ b o,H b=some o->b≠g.p->b≠g.sl->b≠g.al->b≠g.ml->b≠g.kp->b≠bl->J b=some o
theorem fh.other{p:Addr}(U:fh C H p dx sl bl mv bv){c:Addr}(h1:p≠c)(h2:sl≠c)(h3:bl≠c):fh C (upd H c o) p dx sl bl mv bv :=
 ⟨by rw[aA h1];exact U.ob,U.ne,by rw[aA h2];exact U.st,by rw[aA h3];exact U.tb⟩
theorem cq.uj{r:Addr}(h:cq H a np r rs){c:Addr}{u:HO}(hc:H c=some u)(hu:∀ xs,u≠.tup xs):cq (upd H c o) a np r rs :=
 ⟨by rw[aA (aY h.1 hc (fun z=>hu _ z.symm))];exact h.1,by rw[aA (aY h.2.1 hc (fun z=>hu _ z.symm))];exact h.2.1,h.2.2⟩
theorem cq.same(s:bb H J){r:Addr}(h:cq H a np r rs):cq J a np r rs:=⟨s _ _ h.1,s _ _ h.2.1,h.2.2⟩
def fO(ns:List Str):List Int:=List.replicate (2^ns.length) (0:Int)
inductive GN(t:l9)(vs:List V)(H:Hp)(Q:VK)(E:XK):Prop
 |mk(c cx np:Addr)(ns:List Str)(_:vs=[.ref c,.ref np])(_:H c=some (.ins t.zb cx []))(_:H np=some (.tup (ns.map V.str)))(_:1<=ns.length)(_:ns.length<=8)(_:∀(p dx sl kp al ml bl m r:Addr)(J:Hp),jI t J ⟨c,cx,p,dx,sl,kp,al,ml⟩ bl [.ref m] [] [] [] []->cq J m np r (fO ns)->H p=none->H sl=none->H al=none->H ml=none->H kp=none->H bl=none->(∀ b o,H b=some o->b≠c->J b=some o)->Q .non J)
theorem N6:ck ["self","names"] ["self","names"] (aP YI):=eM
theorem Kq(T:Txt P w K mg t):Fm P w mg base T.q75 5 (GN t):=by
 refine T.q75.F.fq (k:=4) N6 ?_;rintro nd _ _ _ _ H _ _ _ hr ⟨c,cx,np,ns,rfl,hc,hn,h1,h8,k⟩
 refine⟨_,(aq (iM (O 0) (Ls T.zaN (JM T) (hr.mo) T.zaF T.q33.b aH (aa (O 1) aj)) rfl)
   (aq (iM (O 0) m7 rfl)
   (aq (iM (O 0) (bz aj) rfl)
   (au (iM (O 0) (bz aj) rfl))))),?_⟩
 refine⟨_,Z,fun p dx hp Ll hpd=>?_⟩;have Q1:c≠p:=aD hc hp;have ncd:c≠dx:=aD hc Ll;refine⟨p,dx,np,ns,Z,ao,by rw[aA (aD hn hp),aA (aD hn Ll)];exact hn,h1,h8,fun sl bl m r H1 hsl uu U hm keep=>⟨Z,?_⟩⟩;have k1:bb H H1:=fun b o e=>keep b o (by rw[aA (aD e hp),aA (aD e Ll)];exact e) (aD e hp)
 have nsl:H sl=none:=by
  by_cases e:sl=p
  .rw[e];exact hp
  by_cases e2:sl=dx
  .rw[e2];exact Ll
  rw[aA e,aA e2]at hsl;exact hsl
 have nbl:H bl=none:=by
  by_cases e:bl=p
  .rw[e];exact hp
  by_cases e2:bl=dx
  .rw[e2];exact Ll
  rw[aA e,aA e2]at uu;exact uu
 have y7:=k1 _ _ hc;have UJ:c≠sl:=aY y7 U.st;have UL:c≠bl:=aY y7 U.tb;have il:∀ xs:List V,HO.ins t.zb cx []≠.tup xs:=fun xs z=>by cases z
 refine⟨_,Z,c,t.zb,cx,_,Z,y7,T.zg,T.zp,(by show 0<1000;decide),?_⟩;have U2:=U.other (c:=c) (o:=.ins t.zb cx (bf "log" (.ref p) [])) (aS Q1) (aS UJ) (aS UL);have qS:=hm.uj (c:=c) (o:=.ins t.zb cx (bf "log" (.ref p) [])) y7 (fun xs z=>by cases z);have ng:(upd H1 c (.ins t.zb cx (bf "log" (.ref p) []))) c=some (.ins t.zb cx (bf "log" (.ref p) [])):=ao;have k2:∀ b o,H b=some o->b≠c->(upd H1 c (.ins t.zb cx (bf "log" (.ref p) []))) b=some o:=fun b o e hb=>by rw[aA hb];exact k1 _ _ e
 generalize upd H1 c (.ins t.zb cx (bf "log" (.ref p) []))=H2 at U2 qS ng k2 ⊢;intro kp q_;have s3:=aB (o:=.dK []) q_;have UK:c≠kp:=aD ng q_
 have nkp:H kp=none:=by
  cases e:H kp with
  |none=>rfl
  |some o=>rw[k2 kp o e (aS UK)]at q_;cases q_
 refine⟨_,Z,c,t.zb,cx,_,Z,s3 _ _ ng,T.zg,T.zN,(by show 1<1000;decide),?_⟩;have U3:=(U2.mono s3).other (c:=c) (o:=.ins t.zb cx (bf "kept" (.ref kp) (bf "log" (.ref p) []))) (aS Q1) (aS UJ) (aS UL);have Cn:=(qS.same s3).uj (c:=c) (o:=.ins t.zb cx (bf "kept" (.ref kp) (bf "log" (.ref p) []))) (s3 _ _ ng) (fun xs z=>by cases z);have OY:(upd (upd H2 kp (.dK [])) c (.ins t.zb cx (bf "kept" (.ref kp) (bf "log" (.ref p) [])))) c=some (.ins t.zb cx (bf "kept" (.ref kp) (bf "log" (.ref p) []))):=ao;have d3:(upd (upd H2 kp (.dK [])) c (.ins t.zb cx (bf "kept" (.ref kp) (bf "log" (.ref p) [])))) kp=some (.dK []):=by rw[aA (aS UK),ao]
 have k3:∀ b o,H b=some o->b≠c->(upd (upd H2 kp (.dK [])) c (.ins t.zb cx (bf "kept" (.ref kp) (bf "log" (.ref p) [])))) b=some o:=fun b o e hb=>by rw[aA hb];exact s3 _ _ (k2 _ _ e hb)
 generalize upd (upd H2 kp (.dK [])) c (.ins t.zb cx (bf "kept" (.ref kp) (bf "log" (.ref p) [])))=H3 at U3 Cn OY d3 k3 ⊢;refine⟨lk obz,fun al rd=>?_⟩;have s4:=aB (o:=.lst []) rd;have Wl:c≠al:=aD OY rd
 have nal:H al=none:=by
  cases e:H al with
  |none=>rfl
  |some o=>rw[k3 al o e (aS Wl)]at rd;cases rd
 have nas:al≠sl:=fun z=>by rw[z,U3.st]at rd;cases rd
 have nab:al≠bl:=fun z=>by rw[z,U3.tb]at rd;cases rd
 refine⟨_,Z,c,t.zb,cx,_,Z,s4 _ _ OY,T.zg,T.zT,(by show 2<1000;decide),?_⟩;have U4:=(U3.mono s4).other (c:=c) (o:=.ins t.zb cx (bf "answers" (.ref al) (bf "kept" (.ref kp) (bf "log" (.ref p) [])))) (aS Q1) (aS UJ) (aS UL);have KU:=(Cn.same s4).uj (c:=c) (o:=.ins t.zb cx (bf "answers" (.ref al) (bf "kept" (.ref kp) (bf "log" (.ref p) [])))) (s4 _ _ OY) (fun xs z=>by cases z);have Ve:(upd (upd H3 al (.lst [])) c (.ins t.zb cx (bf "answers" (.ref al) (bf "kept" (.ref kp) (bf "log" (.ref p) []))))) c=some (.ins t.zb cx (bf "answers" (.ref al) (bf "kept" (.ref kp) (bf "log" (.ref p) [])))):=ao;have Xv:(upd (upd H3 al (.lst [])) c (.ins t.zb cx (bf "answers" (.ref al) (bf "kept" (.ref kp) (bf "log" (.ref p) []))))) al=some (.lst []):=by rw[aA (aS Wl),ao]
 have d4:(upd (upd H3 al (.lst [])) c (.ins t.zb cx (bf "answers" (.ref al) (bf "kept" (.ref kp) (bf "log" (.ref p) []))))) kp=some (.dK []):=by rw[aA (aS UK)];exact s4 _ _ d3
 have k4:∀ b o,H b=some o->b≠c->(upd (upd H3 al (.lst [])) c (.ins t.zb cx (bf "answers" (.ref al) (bf "kept" (.ref kp) (bf "log" (.ref p) []))))) b=some o:=fun b o e hb=>by rw[aA hb];exact s4 _ _ (k3 _ _ e hb)
 generalize upd (upd H3 al (.lst [])) c (.ins t.zb cx (bf "answers" (.ref al) (bf "kept" (.ref kp) (bf "log" (.ref p) []))))=H4 at U4 KU Ve Xv d4 k4 ⊢;refine⟨lk obz,fun ml wb=>?_⟩;have s5:=aB (o:=.lst []) wb;have Zu:c≠ml:=aD Ve wb
 have nml:H ml=none:=by
  cases e:H ml with
  |none=>rfl
  |some o=>rw[k4 ml o e (aS Zu)]at wb;cases wb
 have nms:ml≠sl:=fun z=>by rw[z,U4.st]at wb;cases wb
 have nmb:ml≠bl:=fun z=>by rw[z,U4.tb]at wb;cases wb
 have nma:al≠ml:=aD Xv wb;refine⟨_,Z,c,t.zb,cx,_,Z,s5 _ _ Ve,T.zg,T.zU,(by show 3<1000;decide),?_⟩;refine k p dx sl kp al ml bl m r _ ⟨ao,(U4.mono s5).other (aS Q1) (aS UJ) (aS UL),?_,?_,?_,nas,nab,nms,nmb,nma,aS Q1⟩ ((KU.same s5).uj (s5 _ _ Ve) (fun xs z=>by cases z)) hp nsl nal nml nkp nbl fun b o e hb=>?_
 .rw[aA (aS Wl)]
  exact s5 _ _ Xv
 .rw[aA (aS Zu),ao]
 .rw[aA (aS UK)]
  exact s5 _ _ d4
 rw[aA hb];exact s5 _ _ (k4 _ _ e hb)
def IS(t:Tr):Prop:=t.size<=100000/\t.depth<=110/\(∃ L:List Str,L.length<64/\∀ x∈t.names,x∈L)/\∀ x∈t.names,sX x
theorem IS.fits{p:Addr}{t:Tr}(h:IS t)(hp:H p=some (.tup (ns.map V.str)))(h8:ns.length<=8)(lh:ns.Nodup)(ht:eD H v t):Fits H p v ns t:=⟨hp,h8,lh,ht,h.1,h.2.1,h.2.2.1,h.2.2.2⟩
def f_(H:Hp)(np:Addr)(v:V)(rs:List Int):Prop:=∃ a r,v=.ref a/\cq H a np r rs
theorem f_.tups(s:fF H J):f_ H np v rs->f_ J np v rs:=fun⟨a,r,e,h⟩=>⟨a,r,e,s _ _ h.1,s _ _ h.2.1,h.2.2⟩
inductive nL
 |v (x:V)
 |ps (l:List (Str×Int))
def WP(H:Hp)(u:V)(p:Str×Int):Prop:=∃ q,u=.ref q/\H q=some (.tup [.str p.1,.int p.2])
def qk(H:Hp)(v:V):nL->Prop
 | .v x=>v=x
 | .ps l=>∃ q us,v=.ref q/\H q=some (.lst us)/\Paired (WP H) us l
theorem qk.mono(s:bb H J){p:nL}(h:qk H v p):qk J v p:=by
 cases p with
 |v x=>exact h
 | ps l =>
  obtain⟨q,us,e,h1,h2⟩:=h;exact⟨q,us,e,s _ _ h1,Paired.ib h2 fun _ _ ⟨q,e,h⟩=>⟨q,e,s _ _ h⟩⟩
abbrev Kept:=List (Str×List Int)
def va(H:Hp)(np:Addr)(ks:List (Key×V))(kr:Kept):Prop:=Paired (fun(p:Key×V)(q:Str×List Int)=>p.1=.inr q.1/\f_ H np p.2 q.2) ks kr
theorem va.tups{H J:Hp}(s:fF H J){np:Addr}{ks:List (Key×V)}{kr:Kept}(h:va H np ks kr):va J np ks kr:=Paired.ib h fun _ _ z=>⟨z.1,z.2.tups s⟩
def fL(kr:Kept)(x:Str):Option (List Int):=(kr.find? fun q=>decide (q.1=x)).map (·.2)
def iy(kr:Kept)(x:Str)(rs:List Int):Kept:=if (kr.any fun q=>decide (q.1=x))=true then kr.map (fun q=>if q.1=x then(q.1,rs)else q)else kr++[(x,rs)]
theorem G7{kr:Kept}(h:va H np ks kr)(x:Str):(fL kr x=none->bN ks (.inr x)=none)/\∀ rs,fL kr x=some rs->∃ v,bN ks (.inr x)=some v/\f_ H np v rs:=by
 induction h with
 |nil=>exact⟨(fun _=>rfl),fun rs e=>nomatch e⟩
 | @cons p q ks kr r _ ih =>
  by_cases e:q.1=x
  .have e1:fL (q::kr) x=some q.2:=by simp[fL,List.find?_cons,e]
   have e2:bN (p::ks) (.inr x:Key)=some p.2:=dw (by rw[r.1,e]);rw[e1,e2];exact⟨(fun z=>nomatch z),fun rs z=>⟨_,rfl,by cases z;exact r.2⟩⟩
  have e1:fL (q::kr) x=fL kr x:=by simp[fL,List.find?_cons,e]
  have e2:bN (p::ks) (.inr x:Key)=bN ks (.inr x):=dz (by rw[r.1];exact fun z=>e (l4 z));rw[e1,e2];exact ih
theorem QJ{kr:Kept}(h:va H np ks kr)(hm:f_ H np v rs):va H np (putK ks (.inr x) v) (iy kr x rs):=by
 have ea:(ks.any fun kv=>decide (kv.1=(.inr x:Key)))=(kr.any fun q=>decide (q.1=x)):=by
  clear hm
  induction h with
  |nil=>rfl
  | @cons p q ks kr r _ ih =>
   rw[eh,eh,ih];refine b4 (· || _) ?_;rw[r.1]
   by_cases e:q.1=x
   .rw[cK e,cK (by rw[e])]
   rw[gS e,gS fun z=>e (l4 z)]
 unfold putK iy;rw[ea]
 split
 .rename_i hh
  clear ea hh
  induction h with
  |nil=>exact .nil
  | @cons p q ks kr r _ ih =>
   refine .cons ?_ ih
   try dsimp only
   by_cases e:q.1=x
   .rw[qp e,qp (by rw[r.1,e])]
    exact⟨r.1,hm⟩
   rw[bX e,bX (by rw[r.1];exact fun z=>e (l4 z))];exact r
 exact bK h (.cons ⟨rfl,hm⟩ .nil)
theorem bV{α β:Type}{R:α->β->Prop}:∀{ys:List β}{us:List α}{y:β},Paired R us (ys++[y])->∃ u0 u,us=u0++[u]/\Paired R u0 ys/\R u y
 |[],_,_,.cons h .nil=>⟨[],_,rfl,.nil,h⟩
 | _::_,_,_,.cons h t =>
  let ⟨u0,u,e,h1,h2⟩:=bV t
  ⟨_::u0,u,by rw[e];rfl,.cons h h1,h2⟩
def Dt(ns:List Str)(rs:List Int)(fk:nL)(ts:List Tr)(rs':List Int):Prop:=∃(f:Int)(tr:Tr),fk=.v (.int f)/\ts=[tr]/\rs'=iV ns tr rs f/\(aU (sel rs (aV ns tr))=none\/∃ y,aU (sel rs (aQ ns tr))=some y)
def Du(ns:List Str)(rs:List Int)(ts:List Tr)(rs':List Int):Prop:=∃(tr:Tr),ts=[tr]/\rs'=jy ns tr rs/\∃ x,aU (sel rs (aV ns tr))=some x
def Dv(ns:List Str)(rs:List Int)(fk:nL)(ts:List Tr)(rs':List Int):Prop:=∃(i:Int)(tr:Tr)(x y:Int),fk=.v (.int i)/\ts=[tr]/\aU (sel rs (aV ns tr))=some x/\aU (sel rs (aQ ns tr))=some y/\rs'=gj rs (aV ns tr) x y i
def qj(ns:List Str)(kr:Kept)(rs:List Int)(fk:nL)(rs':List Int):Prop:=∃(l:List (Str×Int))(ps:List (List Int×Int)),fk=.ps l/\Paired (fun a b=>fL kr a.1=some b.1/\b.2=a.2) l ps/\l.length<=10/\xU (2^ns.length) (rs,1)/\(∀ x∈ps,xU (2^ns.length) x)/\∀ m,g0 (bJ (2^ns.length) ((rs,1):: ps)) m->rs'=(bJ (2^ns.length) ((rs,1):: ps)).map fun x=>x-m
abbrev Dd:=List Str->Kept->List (List Int)->List (List Int)->nL->List Tr->List (List Int)->List (List Int)->Prop
def newD(D:List Str->Kept->List Int->nL->List Tr->List Int->Prop):Dd:=fun ns kr st _ fk ts iA tb'=>∃ s0 rs rs',st=s0++[rs]/\iA=st++[rs']/\tb'=[]/\gN ns rs/\D ns kr rs fk ts rs'
def wC:Dd:=fun _ _ st tb _ _ iA tb'=>∃ s0 rs,st=s0++[rs]/\s0≠[]/\iA=s0/\tb'=tb++[rs]
def tU:Dd:=fun _ _ st tb _ _ iA tb'=>∃ t0 rs,tb=t0++[rs]/\iA=st++[rs]/\tb'=t0
inductive xb(t:l9)(D:Dd)(vs:List V)(H:Hp)(Q:VK)(E:XK):Prop
 |mk(g:CA)(bl:Addr)(mv bv:List V)(xs:List Str)(ms:List V)(ks:List (Key×V))(np l:Addr)(ns:List Str)(kr:Kept)(st tb:List (List Int))(fk:nL)(pv:V)(us:List V)(ts:List Tr)(iA tb':List (List Int))(_:vs=[.ref g.c,pv,.ref l])(_:jI t H g bl mv bv xs ms ks)(_:mv.length<=400)(_:bv.length<=400)(_:Paired (f_ H np) mv st)(_:Paired (f_ H np) bv tb)(_:va H np ks kr)(_:H np=some (.tup (ns.map V.str)))(_:ns.length<=8)(_:ns.Nodup)(_:qk H pv fk)(_:H l=some (.lst us))(_:Paired (eD H) us ts)(_:(∀ u∈ts,IS u/\∀ x∈u.names,x∈ns))(_:D ns kr st tb fk ts iA tb')(_:∀(bl':Addr)(mv' bv':List V)(J:Hp),(bl'=bl\/H bl'=none)->gu g bl H J->jI t J g bl' mv' bv' xs ms ks->Paired (f_ J np) mv' iA->Paired (f_ J np) bv' tb'->Q .non J)
theorem jI.mono{t:l9}{H J:Hp}(s:bb H J){g:CA}{bl:Addr}{mv bv:List V}{xs:List Str}{ms:List V}{ks:List (Key×V)}(U:jI t H g bl mv bv xs ms ks):jI t J g bl mv bv xs ms ks:=⟨s _ _ U.co,U.lg.mono s,s _ _ U.an,s _ _ U.mb,s _ _ U.kd,U.n1,U.n2,U.n3,U.n4,U.n5,U.n6⟩
theorem gu.ahead{g:CA}(s:bb H J)(k:gu g bl J VM):gu g bl H VM:=fun b o e=>k b o (s _ _ e)
theorem tV{p:Addr}(U:fh C H p dx sl bl mv bv)(k:jR p sl H J):fF H J:=fun b xs h=>k b _ h (aY h U.ob) (aY h U.st)
theorem ql{g:CA}{bl':Addr}{xs:List Str}(U:jI t H g bl mv bv xs ms ks)(uu:H bl'=none)(k:jR g.p g.sl H J)(L:fh t.za J g.p g.dx g.sl bl' mv' bv'):jI t J g bl' mv' bv' xs ms ks/\gu g bl H J :=
 ⟨⟨k _ _ U.co (aS U.n6) (aY U.co U.lg.st),L,k _ _ U.an (aY U.an U.lg.ob) U.n1,k _ _ U.mb (aY U.mb U.lg.ob) U.n3,k _ _ U.kd (aY U.kd U.lg.ob) (aY U.kd U.lg.st),U.n1,aD U.an uu,U.n3,aD U.mb uu,U.n5,U.n6⟩,fun b o e h1 h2 _ _ _ _=>k b o e h1 h2⟩
theorem Br{g:CA}{xs:List Str}(U:jI t H g bl mv bv xs ms ks)(k:Dc g.sl bl H J)(L:fh t.za J g.p g.dx g.sl bl mv' bv'):jI t J g bl mv' bv' xs ms ks/\gu g bl H J/\fF H J :=
 ⟨⟨k _ _ U.co (aY U.co U.lg.st) (aY U.co U.lg.tb),L,k _ _ U.an U.n1 U.n2,k _ _ U.mb U.n3 U.n4,k _ _ U.kd (aY U.kd U.lg.st) (aY U.kd U.lg.tb),U.n1,U.n2,U.n3,U.n4,U.n5,U.n6⟩,fun b o e _ h2 _ _ _ h6=>k b o e h2 h6,fun b xs h=>k b _ h (aY h U.lg.st) (aY h U.lg.tb)⟩
theorem jZ{α β:Type}{R:α->β->Prop}{us:List α}{b:β}(h:Paired R us [b]):∃ u,us=[u]/\R u b:=by
 cases h with
 | cons h1 h2 =>
  cases h2;exact⟨_,Z,h1⟩
theorem bF(s:fF H J)(h:Paired (f_ H np) vs rss):Paired (f_ J np) vs rss:=Paired.ib h fun _ _ z=>z.tups s
theorem rF{g:CA}{m0:List V}{xs:List Str}{r:Addr}{s0:List (List Int)}{rs':List Int}{Q:VK}(U:jI t H g bl (m0++[.ref a]) bv xs ms ks)(h0:Paired (f_ H np) m0 s0)(hm:cq H a np r rs)(k:∀(bl':Addr)(mv' bv':List V)(J:Hp),(bl'=bl\/H bl'=none)->gu g bl H J->jI t J g bl' mv' bv' xs ms ks->Paired (f_ J np) mv' (s0++[rs]++[rs'])->Paired (f_ J np) bv' []->Q .non J): ∀(b q bl':Addr)(J:Hp),H bl'=none->jR g.p g.sl H J->fh t.za J g.p g.dx g.sl bl' (m0++[.ref a]++[.ref b]) []->cq J b np q rs'->Q .non J:=fun b q bl' J hb kp L CS=>by
 have tp:=tV U.lg kp;exact k bl' _ _ J (.inr hb) (ql U hb kp L).2 (ql U hb kp L).1 (bK (bK (bF tp h0) (.cons (f_.tups tp ⟨a,r,rfl,hm⟩) .nil)) (.cons ⟨b,q,rfl,CS⟩ .nil)) .nil
theorem Kr:ck ["course","firm","trees"] ["course","firm","trees"] (aP YH):=eM
theorem G8(T:Txt P w K mg t):FM P w base T.q76 123 (xb t (newD fun ns _ rs fk ts rs'=>Dt ns rs fk ts rs')):=by
 refine T.q76.F.fq (k:=122) Kr ?_;rintro nd _ _ _ _ _ _ _ _ hr ⟨g,bl,mv,bv,xs,ms,ks,np,l,ns,kr,st,tb,fk,pv,us,ts,iA,tb',rfl,U,l_,hb400,ia,n9,q_,lS,h8,lh,sD,hl,hP,hok,⟨s0,rs,rs',rfl,rfl,rfl,hM,f,tr,rfl,rfl,rfl,hD⟩,k⟩;obtain⟨v,rfl,hv⟩:=jZ hP;obtain⟨ho,hall⟩:=hok tr qms;obtain⟨m0,_,rfl,h0,a,r,rfl,hm⟩:=bV ia;have sD:pv=.int f:=sD;subst sD;rw[af]at l_;have go:=rF (rs':=iV ns tr rs f) U h0 hm k;refine⟨_,(au (bw (E2 (bC (O 0) rfl) T.ze T.q35 (JK T) hr bH (aa (cy bh (O 2) ak) (aa (O 1) aj))))),?_⟩;refine⟨_,Z,g.c,t.zb,g.cx,_,_,Z,U.co,T.zg,T.zp,jY _ _ _ _,g.p,g.dx,_,Z,U.lg.ob,eQ _ _ dk dk,_,Z,l,_,0,v,Z,Z,b5.of hl,bu (j:=0) rfl,_,Z,g.p,g.dx,g.sl,bl,m0,bv,a,np,r,rs,v,ns,tr,f,Z,U.lg,G,hm,ho.fits lS h8 lh hv,fun _=>?_,fun z=>absurd hall z⟩;rcases hD with e|⟨y,e⟩
 .rw[e]
  exact go
 rw[e];cases aU (sel rs (aV ns tr))with
 |none=>exact go
 |some x=>exact go
theorem Ks:ck ["course","told","trees"] ["course","told","trees"] (aP YG):=eM
theorem G9(T:Txt P w K mg t):FM P w base T.q77 123 (xb t (newD fun ns _ rs _ ts rs'=>Du ns rs ts rs')):=by
 refine T.q77.F.fq (k:=122) Ks ?_;rintro nd _ _ _ _ _ _ _ _ hr ⟨g,bl,mv,bv,xs,ms,ks,np,l,ns,kr,st,tb,fk,pv,us,ts,iA,tb',rfl,U,l_,hb400,ia,n9,q_,lS,h8,lh,sD,hl,hP,hok,⟨s0,rs,rs',rfl,rfl,rfl,hM,tr,rfl,rfl,x,hx⟩,k⟩;obtain⟨v,rfl,hv⟩:=jZ hP;obtain⟨ho,hall⟩:=hok tr qms;obtain⟨m0,_,rfl,h0,a,r,rfl,hm⟩:=bV ia;rw[af]at l_;refine⟨_,(au (bw (E2 (bC (O 0) rfl) T.ze T.q36 (JL T) hr bH (aa (cy bh (O 2) ak) aj)))),?_⟩;refine⟨_,Z,g.c,t.zb,g.cx,_,_,Z,U.co,T.zg,T.zp,jY _ _ _ _,g.p,g.dx,_,Z,U.lg.ob,eQ _ _ dk dk,_,Z,l,_,0,v,Z,Z,b5.of hl,bu (j:=0) rfl,g.p,g.dx,g.sl,bl,m0,bv,a,np,r,rs,v,ns,tr,Z,U.lg,G,hm,hM,ho.fits lS h8 lh hv,fun _=>?_,fun z=>absurd hall z⟩;rw[hx];exact rF U h0 hm k
theorem Ku:ck ["course","lean","trees"] ["course","lean","trees"] (aP YF):=eM
theorem Hc(T:Txt P w K mg t):FM P w base T.q78 123 (xb t (newD fun ns _ rs fk ts rs'=>Dv ns rs fk ts rs')):=by
 refine T.q78.F.fq (k:=122) Ku ?_;rintro nd _ _ _ _ _ _ _ _ hr ⟨g,bl,mv,bv,xs,ms,ks,np,l,ns,kr,st,tb,fk,pv,us,ts,iA,tb',rfl,U,l_,hb400,ia,n9,q_,lS,h8,lh,sD,hl,hP,hok,⟨s0,rs,rs',rfl,rfl,rfl,hM,i,tr,x,y,rfl,rfl,hx,hy,rfl⟩,k⟩;obtain⟨v,rfl,hv⟩:=jZ hP;obtain⟨ho,hall⟩:=hok tr qms;obtain⟨m0,_,rfl,h0,a,r,rfl,hm⟩:=bV ia;have sD:pv=.int i:=sD;subst sD;rw[af]at l_;refine⟨_,(au (bw (E2 (bC (O 0) rfl) T.ze T.q37 (JR T) hr bH (aa (cy bh (O 2) ak) (aa (O 1) aj))))),?_⟩;refine⟨_,Z,g.c,t.zb,g.cx,_,_,Z,U.co,T.zg,T.zp,jY _ _ _ _,g.p,g.dx,_,Z,U.lg.ob,eQ _ _ dk dk,_,Z,l,_,0,v,Z,Z,b5.of hl,bu (j:=0) rfl,_,Z,g.p,g.dx,g.sl,bl,m0,bv,a,np,r,rs,v,ns,tr,i,Z,U.lg,G,hm,ho.fits lS h8 lh hv,fun _=>?_,fun z=>absurd hall z⟩;rw[hx,hy];exact rF U h0 hm k
theorem Kv:ck ["course","told","trees"] ["course","told","trees"] (aP YD):=eM
theorem Hd(T:Txt P w K mg t):FM P w base T.q80 123 (xb t wC):=by
 refine T.q80.F.fq (k:=122) Kv ?_;rintro nd _ _ _ _ _ _ _ _ hr ⟨g,bl,mv,bv,xs,ms,ks,np,l,ns,kr,st,tb,fk,pv,us,ts,iA,tb',rfl,U,l_,hb400,ia,n9,q_,lS,h8,lh,sD,hl,hP,hok,⟨s0,rs,rfl,hne,rfl,rfl⟩,k⟩;obtain⟨m0,y,rfl,h0,hy⟩:=bV ia
 have KW:m0≠[]:=fun z=>by
  subst z;cases h0;exact hne rfl
 refine⟨_,(au (bw (gF (bC (O 0) rfl) T.ze T.q39 (JN T) hr bH))),?_⟩;refine⟨_,Z,g.c,t.zb,g.cx,_,_,Z,U.co,T.zg,T.zp,jY _ _ _ _,g.p,g.dx,_,Z,U.lg.ob,eQ _ _ dk dk,g.p,g.dx,g.sl,bl,m0,bv,y,Z,U.lg,hb400,fun z=>absurd z KW,fun _ J kb L=>?_⟩;obtain⟨c1,c2,c3⟩:=Br U kb L;exact k bl _ _ J (.inl rfl) c2 c1 (bF c3 h0) (bK (bF c3 n9) (.cons (hy.tups c3) .nil))
theorem Hf:ck ["course","told","trees"] ["course","told","trees"] (aP YC):=eM
theorem Dw(T:Txt P w K mg t):FM P w base T.q81 123 (xb t tU):=by
 refine T.q81.F.fq (k:=122) Hf ?_;rintro nd _ _ _ _ _ _ _ _ hr ⟨g,bl,mv,bv,xs,ms,ks,np,l,ns,kr,st,tb,fk,pv,us,ts,iA,tb',rfl,U,l_,hb400,ia,n9,q_,lS,h8,lh,sD,hl,hP,hok,⟨t0,rs,rfl,rfl,rfl⟩,k⟩;obtain⟨b0,y,rfl,h0,hy⟩:=bV n9;refine⟨_,(au (bw (gF (bC (O 0) rfl) T.ze T.q40 (Gm T) hr bH))),?_⟩;refine⟨_,Z,g.c,t.zb,g.cx,_,_,Z,U.co,T.zg,T.zp,jY _ _ _ _,g.p,g.dx,_,Z,U.lg.ob,eQ _ _ dk dk,g.p,g.dx,g.sl,bl,mv,_,Z,U.lg,l_,fun z=>absurd z oz,fun bv' y' e J kb L=>?_⟩;obtain⟨e1,e2⟩:=qc e rfl;cases e2;subst e1;obtain⟨c1,c2,c3⟩:=Br U kb L;exact k bl _ _ J (.inl rfl) c2 c1 (bK (bF c3 ia) (.cons (hy.tups c3) .nil)) (bF c3 h0)
theorem Kw:ck ["course","pairs","trees"] ["course","pairs","trees"] (aP YE):=eM
theorem Hg(T:Txt P w K mg t):FM P w base T.q79 123 (xb t (newD fun ns kr rs fk _ rs'=>qj ns kr rs fk rs')):=by
 refine T.q79.F.fq (k:=122) Kw ?_;rintro nd _ _ _ _ H vs Q E hr ⟨g,bl,mv,bv,xs,ms,ks,np,l,ns,kr,st,tb,fk,pv,us,ts,iA,tb',rfl,U,l_,hb400,ia,n9,q_,lS,h8,lh,sD,hl,hP,hok,⟨s0,rs,rs',rfl,rfl,rfl,hM,pl,ps,rfl,wa,Lu,Lc,hf,OM⟩,k⟩;have hu:=eO hr;obtain⟨m0,_,rfl,h0,a,r,rfl,hm⟩:=bV ia;obtain⟨q,ws,rfl,hq,Zz⟩:=sD;rw[af]at l_;have e1:=aT Zz;have e2:=aT wa;refine⟨_,(au (bw (E2 (bC (ko 0) rfl) T.ze T.q38 (JS T) hr bH (aa (bT rfl ["word","weight","course"] [none,none,some 0] (bR (O 1)) gT (fun _ _ _ _ _ _=>(jg (K:=K) (n:=2) rfl rfl (bG (iP 0 (l8 (l:=["word","weight","course"]))) (bG (iP 1 (l8 (l:=["word","weight","course"]))) dO)))) (fun _ _ _ _ _ _=>bZ) (fun _ _ _ _ _ _=>(bj (aa (pW hu (Bg (K:=K) rfl (ko 2) rfl) (O 0) (fun _ _=>rfl)) (aa (O 1) aj))))) aj)))),?_⟩;refine⟨_,Z,g.c,t.zb,g.cx,_,_,Z,U.co,T.zg,T.zp,jY _ _ _ _,g.p,g.dx,_,Z,U.lg.ob,eQ _ _ dk dk,_,Z,q,Z,⟨_,b5.of hq⟩,?_⟩;refine cF (K:=K) (a:=q) (xs:=ws) (fun i ys J=>bb H J/\Paired (kX J np) ys (ps.take i)) ⟨bb.refl _,.nil⟩ (lk G) (fun i ys J ⟨_,e⟩=>by rw[aT e,bq];exact G) (fun i ys J ⟨s',_⟩=>b5.of (s' _ _ hq)) ?_ ?_
 .rintro i y ys H1 hi ⟨s1,hY⟩
  obtain⟨⟨kw,n⟩,Xa,qq,rfl,ON⟩:=bx Zz i y hi;obtain⟨⟨rk,n'⟩,hrn,MV,en⟩:=bx wa i (kw,n) Xa;have en:n'=n:=en;subst en;obtain⟨v,hv,av,rv,rfl,NC⟩:=(G7 q_ kw).2 rk MV;refine⟨qq,_,Z,SqT.of (s1 _ _ ON),Z,_,_,Z,_,_,Z,Z,?_⟩;refine⟨⟨Z,trivial⟩,?_⟩;refine⟨_,Z,g.c,t.zb,g.cx,_,_,Z,s1 _ _ U.co,T.zg,T.zN,Ds _ _ _ _,_,Z,g.kp,.ref av,Z,.inl ⟨ks,.inr kw,.inl (s1 _ _ U.kd),Z,hv.symm⟩,_,Z,lk obz,fun q1 hq1=>?_⟩;have s2:=aB (o:=.tup [.ref av,.int n']) hq1;refine⟨s1.trans s2,?_⟩;rw[qE,hrn];exact bK (Paired.ib hY fun _ _ z=>z.mono s2) (.cons ⟨q1,av,rv,rfl,ao,s2 _ _ (s1 _ _ NC.1),s2 _ _ (s1 _ _ NC.2.1)⟩ .nil)
 rintro ys H1 ⟨s1,hY⟩ q1 hq1;rw[show ws.length=ps.length by omega,bp]at hY;have s2:=aB (o:=.lst ys) hq1;have m_:=s1.trans s2;have hN:0<2^ns.length:=Nat.pow_pos b9;have Z':2^ns.length<=256:=b3 b9 h8;have U2:=U.mono m_;refine⟨g.p,g.dx,g.sl,bl,m0,bv,a,np,r,rs,q1,ns,ys,ps,2^ns.length,Z,U2.lg,G,hm.same m_,m_ _ _ lS,ao,?_,Paired.ib hY fun _ _ z=>z.mono s2,hN,Z',Lc,hf,fun b q' bl' m H3 hb kp L ZP Cn=>?_⟩
 .rw[aT hY];exact G
 have e:=OM m ZP;subst e;have tp:=tV U2.lg kp;refine k bl' _ _ H3 (.inr (m_.free hb)) (gu.ahead m_ (ql U2 hb kp L).2) (ql U2 hb kp L).1 (bK (bK (bF (m_.tups.trans tp) h0) (.cons (f_.tups (m_.tups.trans tp) ⟨a,r,rfl,hm⟩) .nil)) (.cons ⟨b,q',rfl,Cn⟩ .nil)) .nil
def Po(x:Str)(tr:Tr):Prop:=x.length<=sizeLine/\(∀ c∈x.cps.toList,c<16^8)/\wA x=.tree tr
def gA:=List Str->List Int->List Tr->Str->Prop
inductive GV(L:gA)(vs:List V)(H:Hp)(Q:VK)(E:XK):Prop
 |mk(a p r l:Addr)(rs:List Int)(us:List V)(ns:List Str)(ts:List Tr)(txt:Str)(_:vs=[.ref a,.ref l])(_:cq H a p r rs)(_:gN ns rs)(_:H p=some (.tup (ns.map V.str)))(_:ns.length<=8)(_:ns.Nodup)(_:H l=some (.lst us))(_:Paired (eD H) us ts)(_:(∀ u∈ts,IS u/\∀ x∈u.names,x∈ns))(_:L ns rs ts txt)(_:∀ J,bb H J->Q (.str txt) J)
def Ky:gA:=fun ns rs ts txt=>∃ tr,ts=[tr]/\txt=Ko rs ns tr/\∀ m y,aU (sel rs (aV ns tr))=some m->aU (sel rs (aQ ns tr))=some y->(m-y).natAbs.log2<1920
inductive kL:Str->Dd->Prop
 |take:kL "take" (newD fun ns _ rs fk ts rs'=>Dt ns rs fk ts rs')
 |give:kL "give" (newD fun ns _ rs _ ts rs'=>Du ns rs ts rs')
 |lean:kL "lean" (newD fun ns _ rs fk ts rs'=>Dv ns rs fk ts rs')
 |DS:kL "pour" (newD fun ns kr rs fk _ rs'=>qj ns kr rs fk rs')
 |back:kL "back" wC
 |again:kL "again" tU
abbrev QK(t:l9):List (Key×V):=[(.inr "ask",.ref t.Vw),(.inr "lost",.ref t.a84),(.inr "worlds",.ref t.Vv)]
abbrev RQ(t:l9):List (Key×V):=[(.inr "take",.ref t.VD),(.inr "give",.ref t.VC),(.inr "lean",.ref t.VA),(.inr "pour",.ref t.Vz),(.inr "back",.ref t.Vy),(.inr "again",.ref t.Vx)]
def wD(P:Program)(w:World)(K:W.Frag)(mg:Str->Option Value)(base:Heap)(t:l9)(AK:Str->gA->Prop):Prop:=∀ kd L,AK kd L->¬kd="keep"/\¬kd="names"/\¬kd="pour"/\∃(f:Addr) (fd:FuncData),bN (QK t) (.inr kd)=some (.ref f)/\FO P w K mg base 123 f fd ["mind","trees"] (GV L)/\W.keepIn K (.ref f)=true/\Binds K fd ["mind","trees"] []
structure vc(H:Hp)(q:Addr)(kd:Str)(fk:nL)(ts:List Tr):Prop where
 ex:∃(l:Addr)(pv:V)(ss:List Str),H q=some (.tup [.str kd,pv,.ref l])/\qk H pv fk/\H l=some (.lst (ss.map V.str))/\Paired Po ss ts/\ss.length<=10
inductive JU(t:l9)(AK:Str->gA->Prop)(vs:List V)(H:Hp)(Q:VK)(E:XK):Prop
 |mk(g:CA)(bl:Addr)(mv bv:List V)(xs:List Str)(ms:List V)(ks:List (Key×V))(np q:Addr)(ns:List Str)(kr:Kept)(st tb:List (List Int))(kd:Str)(fk:nL)(ts:List Tr)(_:vs=[.ref g.c,.ref q])(_:jI t H g bl mv bv xs ms ks)(_:(mv.length<=400/\bv.length<=400/\xs.length<=400/\ms.length<=400/\ks.length<=400))(_:Paired (f_ H np) mv st)(_:Paired (f_ H np) bv tb)(_:va H np ks kr)(_:H np=some (.tup (ns.map V.str)))(_:ns.length<=8)(_:ns.Nodup)(_:vc H q kd fk ts)(_:(∀ u∈ts,IS u/\∀ x∈u.names,x∈ns))(_:((∃ D s' rs' tb',kL kd D/\D ns kr st tb fk ts (s'++[rs']) tb'/\∀(bl':Addr) (mv':List V) (v':V) (bv':List V) (J:Hp),(bl'=bl\/H bl'=none)->gu g bl H J->jI t J g bl' (mv'++[v']) bv' xs (ms++[v']) ks->Paired (f_ J np) (mv'++[v']) (s'++[rs'])->Paired (f_ J np) bv' tb'->Q .non J)\/(∃ s0 rs L txt,st=s0++[rs]/\gN ns rs/\AK kd L/\L ns rs ts txt/\∀(J:Hp),gu g bl H J->jI t J g bl mv bv (xs++[txt]) ms ks->Q .non J)\/(∃ s0 rs x,kd="keep"/\fk=.v (.str x)/\st=s0++[rs]/\∀(v:V) (J:Hp),f_ J np v rs->gu g bl H J->jI t J g bl mv bv xs ms (putK ks (.inr x) v)->Q .non J)))
theorem mR{g:CA}{xs:List Str}(U:jI t H g bl mv bv xs ms ks)(k:gu g bl H J):fF H J:=fun b xs h =>
 k b _ h (aY h U.lg.ob) (aY h U.lg.st) (aY h U.an) (aY h U.mb) (aY h U.kd) (aY h U.lg.tb)
theorem Hh{g:CA}{xs:List Str}(U:jI t H g bl mv bv xs ms ks)(x:Str):jI t (upd H g.al (.lst (xs.map V.str++[.str x]))) g bl mv bv (xs++[x]) ms ks/\gu g bl H (upd H g.al (.lst (xs.map V.str++[.str x]))):=
 ⟨⟨by rw[aA (aY U.co U.an)];exact U.co,U.lg.other (aY U.lg.ob U.an) (aS U.n1) (aS U.n2),by rw[ao,ay];rfl,by rw[aA (aS U.n5)];exact U.mb,by rw[aA (aY U.kd U.an)];exact U.kd,U.n1,U.n2,U.n3,U.n4,U.n5,U.n6⟩,fun b o e _ _ h _ _ _=>by rw[aA h];exact e⟩
theorem N7{g:CA}{xs:List Str}(U:jI t H g bl mv bv xs ms ks)(x:V):jI t (upd H g.ml (.lst (ms++[x]))) g bl mv bv xs (ms++[x]) ks/\∀ bl',gu g bl' H (upd H g.ml (.lst (ms++[x]))):=
 ⟨⟨by rw[aA (aY U.co U.mb)];exact U.co,U.lg.other (aY U.lg.ob U.mb) (aS U.n3) (aS U.n4),by rw[aA U.n5];exact U.an,ao,by rw[aA (aY U.kd U.mb)];exact U.kd,U.n1,U.n2,U.n3,U.n4,U.n5,U.n6⟩,fun _ b o e _ _ _ h _ _=>by rw[aA h];exact e⟩
theorem N8{g:CA}{xs:List Str}(U:jI t H g bl mv bv xs ms ks)(Wo:List (Key×V)):jI t (upd H g.kp (.dK Wo)) g bl mv bv xs ms Wo/\gu g bl H (upd H g.kp (.dK Wo)):=
 ⟨⟨by rw[aA (aY U.co U.kd)];exact U.co,U.lg.other (aY U.lg.ob U.kd) (aY U.lg.st U.kd) (aY U.lg.tb U.kd),by rw[aA (aY U.an U.kd)];exact U.an,by rw[aA (aY U.mb U.kd)];exact U.mb,ao,U.n1,U.n2,U.n3,U.n4,U.n5,U.n6⟩,fun b o e _ _ _ _ h _=>by rw[aA h];exact e⟩
theorem gu.trans{g:CA}(k:gu g bl H J)(k':gu g bl J VM):gu g bl H VM:=fun b o e h1 h2 h3 h4 h5 h6=>k' b o (k b o e h1 h2 h3 h4 h5 h6) h1 h2 h3 h4 h5 h6
theorem Oa(T:Txt P w K mg t):FM P w base T.q83 123 (GV Ky):=((QH T).mono b9).imp fun vs H Q E h=>by
 obtain⟨a,p,r,l,rs,us,ns,ts,txt,rfl,hm,hM,hp,h8,lh,hl,hP,hok,⟨tr,rfl,rfl,D9⟩,k⟩:=h;obtain⟨v,rfl,hv⟩:=jZ hP;obtain⟨ho,hall⟩:=hok tr qms;exact⟨a,p,r,l,rs,v,[],ns,tr,Z,hm,hl,ho.fits hp h8 lh hv,hall,D9,k⟩
theorem Ob(T:Txt P w K mg t){D:Dd}(h:kL kd D):∃(f:Addr) (fd:FuncData) (ps:List Str),bN (RQ t) (Sum.inr kd:Key)=some (V.ref f)/\bN (QK t) (Sum.inr kd:Key)=none/\¬kd="keep"/\FO P w K mg base 123 f fd ps (xb t D)/\W.keepIn K (.ref f)=true/\Binds K fd ps []:=by
 cases h with
 |take=>exact⟨t.VD,t.d76,_,gT,gT,dk,G8 T,T.q76.k,T.q76.b⟩
 |give=>exact⟨t.VC,t.d77,_,gT,gT,dk,G9 T,T.q77.k,T.q77.b⟩
 |lean=>exact⟨t.VA,t.d78,_,gT,gT,dk,Hc T,T.q78.k,T.q78.b⟩
 |DS=>exact⟨t.Vz,t.d79,_,gT,gT,dk,Hg T,T.q79.k,T.q79.b⟩
 |back=>exact⟨t.Vy,t.d80,_,gT,gT,dk,Hd T,T.q80.k,T.q80.b⟩
 |again=>exact⟨t.Vx,t.d81,_,gT,gT,dk,Dw T,T.q81.k,T.q81.b⟩
theorem Oc:ck ["course","form","kind","trees"] ["course","form"] (aP Yz):=eM
theorem Kz(T:Txt P w K mg t){AK:Str->gA->Prop}(hA:wD P w K mg base t AK):FO P w K mg base 124 t.a86 t.d86 ["course","form"] (JU t AK):=by
 have Y0:=lw (base:=base) T;refine T.q86.F.fq (k:=123) Oc ?_;rintro nd _ _ _ _ H vs Q E hr ⟨g,bl,mv,bv,xs,ms,ks,np,q,ns,kr,st,tb,kd,fk,ts,rfl,U,⟨l_,hb4,hx4,KU,hk4⟩,ia,n9,q_,lS,h8,lh,⟨l,pv,ss,hq,sD,hl,hP,Lu⟩,hok,k⟩;have hu:=eO hr
 refine ⟨_,(aq (fR 2 nd (cy aJ (O 1) ak))
   (aq (iT (i:=3) rfl ["text"] [none] nd rfl rfl (bR (cy aJ (O 1) ak)) gT (fun _ _ _ _ _ _=>(iP 0 (l8 (l:=["text"])))) (fun _ _ _ _ _ _=>bZ) (fun _ _ _ _ _ _=>(eK T.q56 (NK T) hr aH (aa (O 0) aj))))
   (au (aO (aG aW (O 2) az (aK _))
    (au (pX hu (bC (O 0) rfl) (cy aJ (O 1) ak) (gF (bC (O 0) rfl) T.ze T.q41 Y0 hr aH) rfl))
    (au (aO (rQ (Qc T.zy (O 2) (fG (v:=.ref t.zy) T.zX rfl)))
     (au (bw (b8 PySem.F.plainAttrs_list PySem.F.slot_list_append PySem.F.type_list_append cD (bC (O 0) rfl) (aa (nj (ji T.zy hu (fG (v:=.ref t.zy) T.zX rfl) (O 2) (fun _ _=>rfl)) (aa (gF (bC (O 0) rfl) T.ze T.q41 Y0 hr aH) (aa (O 3) aj))) aj))))
     (aq (bw (nj (ji T.zI hu (fG (v:=.ref t.zI) T.zaA rfl) (O 2) (fun _ _=>rfl)) (aa (O 0) (aa (cy aJ (O 1) ak) (aa (O 3) aj)))))
     (au (bw (b8 PySem.F.plainAttrs_list PySem.F.slot_list_append PySem.F.type_list_append cD (bC (O 0) rfl) (aa (gF (bC (O 0) rfl) T.ze T.q41 Y0 hr aH) aj))))))))))),?_⟩
 refine⟨_,Z,q,_,0,_,Z,Z,SqT.of hq,Z,?_⟩;refine⟨_,Z,q,_,2,_,Z,Z,SqT.of hq,Z,l,Z,⟨_,b5.of hl⟩,?_⟩;refine cF (K:=K) (a:=l) (xs:=ss.map V.str) (fun i ys J=>bb H J/\Paired (eD J) ys (ts.take i)) ⟨bb.refl _,.nil⟩ (lk (by rw[de];exact G)) (fun i ys J ⟨_,e⟩=>by rw[aT e,bq];exact G) (fun i ys J ⟨s',_⟩=>b5.of (s' _ _ hl)) ?_ ?_
 .rintro i y ys H1 hi ⟨s1,hY⟩
  rw[kg]at hi
  obtain⟨x,hx,rfl⟩:∃ x,ss[i]?=some x/\y=V.str x:=by
   cases q:ss[i]? with
   |none=>rw[q]at hi;cases hi
   |some c=>rw[q]at hi;exact⟨c,Z,(kK hi).symm⟩
  obtain⟨tr,BQ,h1,h2,h3⟩:=bx hP i x hx;refine⟨trivial,_,Z,x,Z,h1,h2,fun H2 s2=>?_⟩;rw[h3];intro v hv;refine⟨s1.trans s2,?_⟩;rw[qE,BQ];exact bK (Paired.ib hY fun _ _ z=>z.mono s2.tups) (.cons hv .nil)
 rintro ys H1 ⟨s1,hY⟩ tl htl;have el:(ss.map V.str).length=ts.length:=by rw[de,aT hP]
 rw[el,bp]at hY;have s2:=s1.trans (aB (o:=.lst ys) htl);have uk:(upd H1 tl (.lst ys)) tl=some (.lst ys):=ao;have Xw:Paired (eD (upd H1 tl (.lst ys))) ys ts:=Paired.ib hY fun _ _ z=>z.mono (aB htl).tups
 generalize upd H1 tl (.lst ys)=H2 at s2 uk Xw ⊢;have U2:=U.mono s2;have hq2:=s2 _ _ hq;have BS:=bF s2.tups ia;rcases k with⟨D,s',rs',tb',hK,hD,k⟩|⟨s0,rs,L,txt,rfl,hM,hK,hL,k⟩|⟨s0,rs,x,rfl,rfl,rfl,k⟩
 . -- a deed
   obtain⟨f,fd,ps,hvd,hva,W0,F,hk,SY⟩:=Ob (base:=base) T hK;refine⟨_,Z,Z,_,Z,aN (fun z=>absurd (V.str.inj (eT z)) W0) (fun _=>?_)⟩;refine⟨_,Z,.inr kd,Z,Z,_,Z,?_⟩;rw[show bN _ (Sum.inr kd:Key)=none from hva];refine bD ?_;refine⟨_,Z,.inr kd,V.ref f,Z,Z,hvd,f,o_ P w,123,fd,ps,xb t D,_,Z,F,hr,hk,SY,aH,_,Z,_,Z,q,_,1,pv,Z,Z,SqT.of hq2,Z,_,Z,?_⟩;refine⟨g,bl,mv,bv,xs,ms,ks,np,tl,ns,kr,st,tb,fk,pv,ys,ts,s'++[rs'],tb',Z,U2,l_,hb4,BS,bF s2.tups n9,q_.tups s2.tups,s2 _ _ lS,h8,lh,sD.mono s2,uk,Xw,hok,hD,fun bl' mv' bv' H3 uu kp U3 ZH Vf=>?_⟩;obtain⟨m0,v',rfl,h0,hv'⟩:=bV ZH;refine⟨_,Z,g.c,t.zb,g.cx,_,_,Z,U3.co,T.zg,T.zU,Ma _ _ _ _,.inl ⟨Z,_,b5.of U3.mb⟩,?_⟩;refine⟨_,Z,g.c,t.zb,g.cx,_,_,Z,U3.co,T.zg,T.zp,jY _ _ _ _,g.p,g.dx,_,Z,U3.lg.ob,eQ _ _ dk dk,g.p,g.dx,g.sl,bl',m0,bv',v',Z,U3.lg,g.ml,_,_,Z,Z,U3.mb,cM G,?_⟩;have c:=N7 U3 v';have tp:=mR U3 (c.2 bl');exact k bl' m0 v' bv' _ (uu.imp id s2.free) (gu.ahead s2 (kp.trans (c.2 bl))) c.1 (bF tp ZH) (bF tp Vf)
 . -- an answer
   obtain⟨m0,_,rfl,h0,a,r,rfl,hm⟩:=bV BS;obtain⟨W0,_,_,f,fd,hv,F,hk,SY⟩:=hA kd L hK;refine⟨_,Z,Z,_,Z,aN (fun z=>absurd (V.str.inj (eT z)) W0) (fun _=>?_)⟩;refine⟨_,Z,.inr kd,Z,Z,_,Z,?_⟩;rw[show bN _ (Sum.inr kd:Key)=some (V.ref f)from hv];refine bU ?_;refine⟨_,Z,g.c,t.zb,g.cx,_,_,Z,U2.co,T.zg,T.zT,LR _ _ _ _,.inl ⟨Z,_,b5.of U2.an⟩,?_⟩;refine⟨_,Z,.inr kd,V.ref f,Z,Z,hv,f,o_ P w,123,fd,_,GV L,_,Z,F,hr,hk,SY,aH,?_⟩;refine⟨_,Z,g.c,t.zb,g.cx,_,_,Z,U2.co,T.zg,T.zp,jY _ _ _ _,g.p,g.dx,_,Z,U2.lg.ob,eQ _ _ dk dk,g.p,g.dx,g.sl,bl,m0,bv,.ref a,Z,U2.lg,_,Z,?_⟩;refine⟨a,np,r,tl,rs,ys,ns,ts,txt,Z,hm,hM,s2 _ _ lS,h8,lh,uk,Xw,hok,hL,fun H3 s3=>?_⟩;have U3:=U2.mono s3;refine⟨g.al,_,_,Z,Z,U3.an,cM (by rw[de];exact G),?_⟩;exact k _ (gu.ahead (s2.trans s3) (Hh U3 txt).2) (Hh U3 txt).1
 . -- keep
   obtain⟨m0,v,rfl,h0,hm⟩:=bV BS;have sD:pv=.str x:=sD;subst sD;refine⟨_,Z,Z,_,Z,aN (fun _=>?_) (fun z=>absurd (cK rfl) z)⟩;refine⟨_,Z,g.c,t.zb,g.cx,_,_,Z,U2.co,T.zg,T.zp,jY _ _ _ _,g.p,g.dx,_,Z,U2.lg.ob,eQ _ _ dk dk,g.p,g.dx,g.sl,bl,m0,bv,v,Z,U2.lg,?_⟩;refine⟨_,Z,g.c,t.zb,g.cx,_,_,Z,U2.co,T.zg,T.zN,Ds _ _ _ _,_,Z,q,_,1,_,Z,Z,SqT.of hq2,Z,?_⟩;refine⟨g.kp,_,Z,ve.k (k:=.inr x) U2.kd (cM G),?_⟩;have c:=N8 U2 (putK ks (.inr x) v);exact k v _ (hm.tups (mR U2 c.2)) (gu.ahead s2 c.2) c.1
def g8(ws:List Str):Bool:=(decide (ws.length%2=0)&&(decide (1<=ws.length/2)&&decide (ws.length/2<=10)))&&((evs ws).all (fun x=>!decide (cL x=.non))&&(evs (ws.drop 1)).all isName)
inductive FL(vs:List V)(H:Hp)(Q:VK)(E:XK):Prop
 |mk(x:_)(_:vs=[.str x])(_:x.length<=fU)(_:∀ r J,(∀ b o,H b=some o->J b=some o)->(if g8 (b7 x)=true then ∃ p us,yl J r (.ref p) []/\J p=some (.lst us)/\nq J us ((evs ((b7 x).drop 1)).map V.str) ((evs (b7 x)).map cL)else r=.non)->Q r J)
theorem ux{α β:Type}(f:α->β):∀ xs:List α,evs (xs.map f)=(evs xs).map f
 |[]=>by simp[evs]
 |[a]=>by simp[evs]
 |a::b::r=>by simp[evs,ux f r]
theorem uy{α:Type}:∀{xs:List α}{x:α},x∈evs xs->x∈xs
 |[],_,h=>by simp[evs]at h
 |[a],_,h=>by simpa[evs]using h
 | a::b::r,x,h=>by
  simp only[evs,ai]at h;rcases h with rfl|h
  .exact qms
  exact k9 _ (k9 _ (uy h))
theorem QL(vs:List V)(h:∀ v∈vs,v=.non \/ ∃ i,v=.int i):vs.all fD=true/\sx .non vs=vs.any fun v=>decide (v=.non):=by
 induction vs with
 |nil=>exact⟨Z,Z⟩
 | cons v vs ih =>
  obtain⟨h1,h2⟩:=ih fun u hu=>h u (k9 _ hu)
  have e:sx .non (v::vs)=(mn v .non||sx .non vs):=rfl;rw[e,h2];rcases h v qms with rfl|⟨i,rfl⟩
  .exact⟨by rw[iq,h1];rfl,Z⟩
  exact⟨by rw[iq,h1];rfl,by rw[eh,gS (fun z:V.int i=.non=>nomatch z)];rfl⟩
theorem yp{H J:Hp}(s:∀ b o,H b=some o->J b=some o):∀{us xs ys:List V},nq H us xs ys->nq J us xs ys
 |[],[],[],_=>trivial
 |_::_,_::_,_::_,⟨⟨q,e,h⟩,t⟩=>⟨⟨q,e,s _ _ h⟩,yp s t⟩
theorem Od:ck ["text","words","weights","keeping_words"] ["text"] (aP YL):=eM
theorem KC(T:Txt P w K mg t):FM P w base T.q72 4 FL:=by
 refine T.q72.F.fq (k:=3) Od ?_;rintro nd _ _ _ _ H vs Q E hr ⟨x,rfl,hx,k⟩;have hu:=eO hr
 refine⟨_,(aq (fR 1 nd (eK T.q58 (tM T) hr aH (aa (O 0) aj)))
   (aq (aO (PW.pt (dN (aG aW (aF cj (aZ aX T.zd Bt.len (aa (O 1) aj)) ak) ak (aK _)) (eZ (cZ (qP lG lG ak (aF fP (aZ aX T.zd Bt.len (aa (O 1) aj)) ak) (fG (v:=.int 10) T.zaI ⟨_,rfl⟩))))))
    (au (aC bM))
    aM)
   (aq (iT (i:=2) rfl ["word"] [none] nd rfl rfl (bR (FQ (O 1) ak ak)) gT (fun _ _ _ _ _ _=>(iP 0 (l8 (l:=["word"])))) (fun _ _ _ _ _ _=>bZ) (fun _ _ _ _ _ _=>(eK T.q63 (uw T) hr aH (aa (O 0) aj))))
   (aq (fR 3 nd (FQ (O 1) ak ak))
   (aq (aO (PW.pt (dN (aG iD bM (O 2) ou) (eZ (cZ (cG (aZ (jC rfl) T.zC Bt.all (aa (bT rfl ["word"] [none] (bR (O 3)) gT (fun _ _ _ _ _ _=>(iP 0 (l8 (l:=["word"])))) (fun _ _ _ _ _ _=>bZ) (fun _ _ _ _ _ _=>(eK T.q1 (lQ T) hr aH (aa (O 0) aj)))) aj)))))))
    (au (aC bM))
    aM)
   (au (aC (bj (aa (Cy rfl (aa (O 3) (aa (O 2) aj)) T.zD T.Y9) (aa (bz aj) aj)))))))))),?_⟩
 have hm:=iI;refine⟨_,Z,x,Z,hx,fun p H1 s1 hp1=>?_⟩;have pe:∀ n∈b7 x,n.length<=sizeLine:=fun n hn=>by have:=qM hn;exact G
 have KP:=tO x;generalize b7 x=ws at hp1 pe KP k;have fin:∀ J,(∀ b o,H b=some o->J b=some o)->g8 ws=false->Q .non J:=fun J s' e=>k _ _ s' (by rw[e,bX ki])
 have el:(ws.map V.str).length=ws.length:=de _;refine⟨_,Z,p,_,Z,.inl (b5.of hp1),_,_,Z,Z,(by show(0:Int)<2;decide),Z,_,Z,aN (fun z=>?_) (fun z=>?_)⟩
 .have z:=V.int.inj (eT z)
  rw[el]at z;have z:ws.length%2=1:=G
  exact bU (fin H1 s1 (by simp[g8,z]))
 have z:ws.length%2=0:=by
  rw[el]at z;have:¬((ws.length:Nat):Int)%2=1:=fun e=>z (cK (by show V.int _=_;rw[e]))
  exact G
 refine⟨_,Z,p,_,Z,.inl (b5.of hp1),_,_,Z,Z,⟨b9,b9⟩,_,_,Z,Z,_,Z,?_⟩
 try dsimp -proj -iota only
 rw[el];have Vu:((ws.length:Nat):Int)/2=((ws.length/2:Nat):Int):=G
 rw[Vu];refine aN (fun e1=>?_) (fun e1=>⟨_,rfl,bU (fin H1 s1 (by simp at e1;simp[g8];exact G))⟩);have e1:=eT e1;refine⟨_,_,Z,Z,_,Z,?_⟩
 try dsimp -proj -iota only
 cases e2:decide (((ws.length/2:Nat):Int)<=10)with
 |false=>exact bU (fin H1 s1 (by simp at e2;simp[g8];exact G))
 |true =>
 refine bD ?_;have e2:=eT e2;have h20:ws.length<=20:=G
 refine⟨_,Z,p,_,0,Z,Z,Z,b5.of hp1,fun q1 hq1=>?_⟩;rw[tI,ux];have s2:=aR (o:=.lst ((evs ws).map V.str)) hq1;have hq2:(upd H1 q1 (.lst ((evs ws).map V.str))) q1=some (.lst ((evs ws).map V.str)):=ao;have m_:=bA s1 s2;have OQ:=s2 _ _ hp1;generalize upd H1 q1 (.lst ((evs ws).map V.str))=H2 at m_ hq2 OQ ⊢;have hel:(evs ws).length <= 20:=by rw[j7];exact G
 refine⟨q1,Z,⟨_,b5.of hq2⟩,?_⟩;refine cF (K:=K) (a:=q1) (xs:=(evs ws).map V.str) (fun i ys J=>(∀ b o,H2 b=some o->J b=some o)/\ys=((evs ws).take i).map cL) ⟨fun _ _ e=>e,rfl⟩ (lk (by rw[de];exact G)) (fun i ys J ⟨_,e⟩=>by rw[e,de,bq];exact G) (fun i ys J ⟨s',_⟩=>b5.of (s' _ _ hq2)) ?_ ?_
 .rintro i y ys H3 hi ⟨s3,rfl⟩
  rw[kg]at hi
  obtain⟨n,hn,rfl⟩:∃ c,(evs ws)[i]?=some c/\y=V.str c:=by
   cases q:(evs ws)[i]? with
   |none=>rw[q]at hi;cases hi
   |some c=>rw[q]at hi;exact⟨c,Z,(kK hi).symm⟩
  refine⟨trivial,_,Z,n,Z,pe n (uy (pj hn)),fun H4 s4=>⟨bA s3 s4,?_⟩⟩;rw[qE,hn,ay]
  rfl
 rintro ys H3 ⟨s3,rfl⟩ wl hwl;rw[de,bp];have s4:=aR (o:=.lst ((evs ws).map cL)) hwl;have ZC:(upd H3 wl (.lst ((evs ws).map cL))) wl=some (.lst ((evs ws).map cL)):=ao;have Mn:=bA m_ (bA s3 s4);have ZJ:=s4 _ _ (s3 _ _ OQ);generalize upd H3 wl (.lst ((evs ws).map cL))=H4 at Mn ZJ ZC ⊢;refine⟨_,Z,p,_,1,Z,Z,Z,b5.of ZJ,fun q5 hq5=>?_⟩;rw[<- List.map_drop,ux];have s5:=aR (o:=.lst ((evs (ws.drop 1)).map V.str)) hq5;have Va:(upd H4 q5 (.lst ((evs (ws.drop 1)).map V.str))) q5=some (.lst ((evs (ws.drop 1)).map V.str)):=ao;have Me:=bA Mn s5;have UT:=s5 _ _ ZC;generalize upd H4 q5 (.lst ((evs (ws.drop 1)).map V.str))=H5 at Me Va UT ⊢
 have NF:∀ v∈(evs ws).map cL,v=.non \/ ∃ i,v=.int i:=fun v hv=>by
  obtain⟨n,_,rfl⟩:=cb.mp hv;exact pI n
 obtain⟨SI,Xs⟩:=QL _ NF;refine⟨_,Z,wl,_,Z,.inl (b5.of UT),Z,SI,_,Z,?_⟩;rw[bX ki,Xs];cases ha:((evs ws).map cL).any fun v=>decide (v=.non)with
 | true =>
  refine bU (fin H5 Me ?_);obtain⟨v,hv,hv2⟩:=List.any_eq_true.mp ha;obtain⟨n,hn,rfl⟩:=cb.mp hv
  have hf:(evs ws).all (fun x=>!decide (cL x=.non))=false:=by
   rw[List.all_eq_false];exact⟨n,hn,by rw[hv2];decide⟩
  simp[g8,hf]
 |false =>
 refine bD ?_;refine⟨_,Z,q5,Z,⟨_,b5.of Va⟩,?_⟩;have Xm:(evs (ws.drop 1)).length <= 20:=by rw[j7,cm];exact G
 refine cF (K:=K) (a:=q5) (xs:=(evs (ws.drop 1)).map V.str) (fun i ys J=>(∀ b o,H5 b=some o->J b=some o)/\ys=(((evs (ws.drop 1)).take i).map isName).map V.bl) ⟨fun _ _ e=>e,rfl⟩ (lk (by rw[de];exact G)) (fun i ys J ⟨_,e⟩=>by rw[e,de,de,bq];exact G) (fun i ys J ⟨s',_⟩=>b5.of (s' _ _ Va)) ?_ ?_
 .rintro i y ys H6 hi ⟨s6,rfl⟩
  rw[kg]at hi
  obtain⟨n,hn,rfl⟩:∃ c,(evs (ws.drop 1))[i]?=some c/\y=V.str c:=by
   cases q:(evs (ws.drop 1))[i]? with
   |none=>rw[q]at hi;cases hi
   |some c=>rw[q]at hi;exact⟨c,Z,(kK hi).symm⟩
  refine⟨trivial,_,Z,n,Z,pe n (List.mem_of_mem_drop (uy (pj hn))),fun H7 s7=>⟨bA s6 s7,?_⟩⟩;rw[qE,hn,ay,ay]
  rfl
 rintro ys H6 ⟨s6,rfl⟩ lc yT;rw[de,bp];have s7:=aR (o:=.lst (((evs (ws.drop 1)).map isName).map V.bl)) yT;have ZR:(upd H6 lc (.lst (((evs (ws.drop 1)).map isName).map V.bl))) lc=some (.lst (((evs (ws.drop 1)).map isName).map V.bl)):=ao;have V5:=bA Me (bA s6 s7);have ZA:=s7 _ _ (s6 _ _ UT);have ZS:=s7 _ _ (s6 _ _ Va);generalize upd H6 lc (.lst (((evs (ws.drop 1)).map isName).map V.bl))=H7 at V5 ZA ZS ZR ⊢;refine⟨lc,_,Z,b5.of ZR,?_⟩
 have ea:((evs (ws.drop 1)).map isName).all id=(evs (ws.drop 1)).all isName:=by
  rw[rh]
  rfl
 rw[ea];cases hb:(evs (ws.drop 1)).all isName with
 |false=>exact⟨_,Z,bU (fin H7 V5 (by unfold g8;rw[hb,nI,nI]))⟩
 |true =>
 have Wy:g8 ws=true:=by
  have hf:(evs ws).all (fun x=>!decide (cL x=.non))=true:=by
   rw[bP];intro n hn;have:=AE.mp ha (cL n) (List.mem_map_of_mem hn);cases h:decide (cL n=.non)with
   |true=>exact absurd h this
   |false=>rfl
  unfold g8;rw[hf,hb,cK z,cK (show 1<=ws.length/2 by omega),cK (show ws.length/2<=10 by omega)]
  rfl
 refine⟨_,Z,bD ?_⟩;refine⟨_,Z,_,Z,q5,wl,_,_,Z,b5.of ZS,b5.of ZA,by rw[de,de,j7,j7,cm];exact G,fun zl us H8 s8 hzl0 UP hZ=>⟨(by show 0<=sizeLine;decide),fun l hl=>⟨xS,fun r sC=>?_⟩⟩⟩;have s9:=bA (aR (o:=.lst []) hl) (aR (o:=.tup [.ref zl,.ref l]) sC);refine k _ _ (bA V5 (bA s8 s9)) ?_;rw[Wy,qp rfl];exact⟨zl,us,⟨r,l,Z,ao,aR sC _ _ ao⟩,s9 _ _ UP,yp s9 hZ⟩
def qm(kd x:Str)(fk:nL)(ss:List Str):Prop:=(∃ aab v,iY kd=some aab/\aab x=some (v,ss)/\fk=.v v)\/(kd="pour"/\ss=[]/\∃ l:List (Str×Int),fk=.ps l/\g8 (b7 x)=true/\evs ((b7 x).drop 1)=l.map (·.1)/\(evs (b7 x)).map cL=l.map fun p=>.int p.2)
inductive GH(kd:Str)(vs:List V)(H:Hp)(Q:VK)(E:XK):Prop
 |mk(x:Str)(fk:nL)(ss:List Str)(_:vs=[.str x])(_:x.length<=fU)(_:qm kd x fk ss)(_:∀ r J,(∀ b o,H b=some o->J b=some o)->(∃ q l pv,r=.ref q/\J q=some (.tup [pv,.ref l])/\qk J pv fk/\J l=some (.lst (ss.map V.str)))->Q r J)
def Tt(H:Hp)(v:V)(kd:Str)(fk:nL)(ss:List Str):Prop:=∃ q l pv,v=.ref q/\H q=some (.tup [.str kd,pv,.ref l])/\qk H pv fk/\H l=some (.lst (ss.map V.str))
inductive GA(vs:List V)(H:Hp)(Q:VK)(E:XK):Prop
 |mk(x:Str)(fk:nL)(ss:List Str)(_:vs=[.str x])(_:x.length<=fU)(_:qm (cQ x) (bY x) fk ss)(_:∀ r J,(∀ b o,H b=some o->J b=some o)->Tt J r (cQ x) fk ss->Q r J)
theorem Hi{H:Hp}:∀{us:List V}{l:List (Str×Int)},nq H us (l.map fun p=>V.str p.1) (l.map fun p=>V.int p.2)->Paired (WP H) us l
 |[],[],_=>.nil
 |_::_,_::_,⟨⟨q,e,h⟩,t⟩=>.cons ⟨q,e,h⟩ (Hi t)
 |[],_::_,h=>False.elim h
 |_::_,[],h=>False.elim h
theorem vB:iY "pour"=none:=by
 unfold iY;rw[bX dk,bX dk,bX dk,bX dk,bX dk,bX dk]
theorem qt{k:Nat}    {aab:Str->Option (V×List Str)} (h:iY kd=some aab) (F:FO P w K mg base k f fd ["text"] (L9 aab)):FO P w K mg base k f fd ["text"] (GH kd):=F.imp fun vs H Q E q=>by
 obtain⟨x,fk,ss,rfl,hx,hG,k⟩:=q;refine⟨x,Z,hx,fun r J s hF=>k r J s ?_⟩;rcases hG with⟨O',v,hO,hv,rfl⟩|⟨rfl,_⟩
 .rw[h]at hO
  cases hO;rw[hv]at hF;obtain⟨q,l,rfl,hq,hl⟩:=hF;exact⟨q,l,v,Z,hq,Z,hl⟩
 rw[vB]at h;cases h
theorem Oe(T:Txt P w K mg t):FM P w base T.q72 5 (GH "pour"):=((KC T).mono b9).imp fun vs H Q E q=>by
 obtain⟨x,fk,ss,rfl,hx,hG,k⟩:=q;refine⟨x,Z,hx,fun r J s hF=>k r J s ?_⟩;rcases hG with⟨O',v,hO,_⟩|⟨_,rfl,l,rfl,hB,e1,e2⟩
 .rw[vB]at hO
  cases hO
 rw[hB,qp rfl,e1,e2,dr]at hF;obtain⟨p,us,⟨q,l',rfl,hq,hl⟩,hp,hZ⟩:=hF;exact⟨q,l',_,Z,hq,⟨p,us,Z,hp,Hi hZ⟩,hl⟩
theorem Og(T:Txt P w K mg t){fk:nL}(h:qm kd x fk ss):∃(f:Addr) (fd:FuncData),bN ([(.inr "names",.ref t.N3),(.inr "take",.ref t.Uh),(.inr "give",.ref t.LF),(.inr "lean",.ref t.Ug),(.inr "keep",.ref t.Ud),(.inr "pour",.ref t.Uc),(.inr "back",.ref t.EI),(.inr "again",.ref t.EI),(.inr "ask",.ref t.LF),(.inr "lost",.ref t.Ue),(.inr "worlds",.ref t.EI)]:List (Key×V)) (Sum.inr kd:Key)=some (V.ref f)/\FO P w K mg base 5 f fd ["text"] (GH kd)/\W.keepIn K (.ref f)=true/\Binds K fd ["text"] []:=by
 rcases h with⟨aab,v,hO,_⟩|⟨rfl,_⟩
 .have h0:=hO
  unfold iY at hO
  split at hO
  .rename_i e
   cases hO;subst e;exact⟨t.Uh,t.d67,gT,qt h0 ((Kf T).mono b9),T.q67.k,T.q67.b⟩
  split at hO
  .rename_i e
   cases hO;rcases e with e|e<;>subst e<;>exact⟨t.LF,t.d69,gT,qt h0 ((Kc T).mono b9),T.q69.k,T.q69.b⟩
  split at hO
  .rename_i e
   cases hO;subst e;exact⟨t.Ug,t.d68,gT,qt h0 ((Kg T).mono b9),T.q68.k,T.q68.b⟩
  split at hO
  .rename_i e
   cases hO;subst e;exact⟨t.Ud,t.d71,gT,qt h0 ((Ke T).mono b9),T.q71.k,T.q71.b⟩
  split at hO
  .rename_i e
   cases hO;rcases e with e|e|e<;>subst e<;>exact⟨t.EI,t.d73,gT,qt h0 ((Kd T).mono b9),T.q73.k,T.q73.b⟩
  split at hO
  .rename_i e
   cases hO;subst e;exact⟨t.Ue,t.d70,gT,qt h0 ((Kh T).mono b9),T.q70.k,T.q70.b⟩
  cases hO
 exact⟨t.Uc,t.d72,gT,Oe T,T.q72.k,T.q72.b⟩
theorem KD(T:Txt P w K mg t):FM P w base T.q74 6 GA:=by
 refine T.q74.F.fq (k:=5) ym ?_;rintro nd _ _ _ _ H vs Q E hr ⟨x,fk,ss,rfl,hx,hG,k⟩;have hu:=eO hr
 refine⟨_,(aq (fR 1 nd (eK T.q59 (nD T) hr aH (aa (O 0) aj)))
   (aq (aO (rQ (oN T.zo (O 1) (fG (v:=.ref t.zo) T.zK rfl)))
    (au (aC bM))
    aM)
   (aq (fR 2 nd (nj (ji T.zo hu (fG (v:=.ref t.zo) T.zK rfl) (O 1) (fun _ _=>rfl)) (aa (eK T.q60 (nF T) hr aH (aa (O 0) aj)) aj)))
   (au (aC (fH (aG gU (O 2) bM (aK _)) bM (bj (aa (O 1) (aa (cy aJ (O 2) ak) (aa (cy aJ (O 2) ak) aj)))))))))),?_⟩
 have hm:=iI;have hb:=tR x;refine⟨_,Z,x,Z,G,fun H1 s1=>?_⟩;generalize cQ x=kd at hG k;obtain⟨f,fd,hv,F,hk,SY⟩:=Og (base:=base) T hG;refine⟨_,Z,.inr kd,Z,Z,_,Z,?_⟩;rw[hv];refine bD ?_;refine⟨_,Z,.inr kd,V.ref f,Z,Z,hv,f,o_ P w,5,fd,["text"],GH kd,_,Z,F,hr,hk,SY,aH,_,Z,x,Z,G,fun H2 s2=>⟨bY x,fk,ss,Z,G,hG,fun r H3 s3 M_=>?_⟩⟩;have qA:=bA s1 (bA s2 s3);obtain⟨q,l,pv,rfl,hq,sD,hl⟩:=M_;refine⟨_,rfl,rfl,_,rfl,aN (fun z=>absurd (eT z) (by intro z;cases z)) (fun _=>?_)⟩;refine⟨_,Z,_,Z,q,_,0,pv,Z,Z,SqT.of hq,Z,_,Z,q,_,1,.ref l,Z,Z,SqT.of hq,Z,(by show 3<=sizeLine;decide),fun m CS=>?_⟩;exact k _ _ (bA qA (aR CS)) ⟨m,l,pv,rfl,ao,sD.mono (aR CS),aR CS _ _ hl⟩
inductive F4(t:l9)(vs:List V)(H:Hp)(Q:VK)(E:XK):Prop
 |mk(g:CA)(bl:Addr)(mv bv:List V)(xs:List Str)(ms:List V)(ks:List (Key×V))(q l:Addr)(kd:Str)(pv:V)(fk:nL)(_:vs=[.ref g.c,.ref q])(_:jI t H g bl mv bv xs ms ks)(_:H q=some (.tup [.str kd,pv,.ref l]))(_:qk H pv fk)(_:(kd="pour"->∃ pl,fk=.ps pl/\pl.length<=10/\∀ x∈pl,(bN ks (.inr x.1)).isSome=true))(_:∀ J,bb H J->Q (.bl false) J)
theorem vc.mono{H J:Hp}(s:bb H J){q:Addr}{kd:Str}{fk:nL}{ts:List Tr}(h:vc H q kd fk ts):vc J q kd fk ts:=by
 obtain⟨l,pv,ss,h1,h2,h3,h4⟩:=h.ex;exact⟨l,pv,ss,s _ _ h1,h2.mono s,s _ _ h3,h4⟩
theorem KH(T:Txt P w K mg t):FM P w base T.q87 1 (F4 t):=by
 refine T.q87.F.fq (N:=["course","form"]) eM ?_;rintro nd _ _ _ _ H _ _ _ hr ⟨g,bl,mv,bv,xs,ms,ks,q,l,kd,pv,fk,rfl,U,hq,sD,hn,k⟩;have hu:=eO hr;refine⟨_,(au (aC (nZ (du aW (cy aJ (O 1) ak) az (aK _)) (j8 (aZ (Fb rfl) T.zaP Bt.any (aa (bT rfl ["word","weight","course"] [none,none,some 0] (bR (cy aJ (O 1) ak)) gT (fun _ _ _ _ _ _=>(jg (K:=K) (n:=2) rfl rfl (bG (iP 0 (l8 (l:=["word","weight","course"]))) (bG (iP 1 (l8 (l:=["word","weight","course"]))) dO)))) (fun _ _ _ _ _ _=>bZ) (fun _ _ _ _ _ _=>(O5 (Ey hu (O 0) (Bg (K:=K) rfl (ko 2) rfl))))) aj)))))),?_⟩;refine⟨_,Z,q,_,0,_,Z,Z,SqT.of hq,Z,Z,?_⟩
 by_cases ep:kd="pour"
 .have e:decide (V.str kd=V.str ("pour":Str))=true:=cK (by rw[ep])
  try dsimp -proj -iota only
  rw[e];obtain⟨pl,rfl,Lu,hall⟩:=hn ep;obtain⟨pq,us,rfl,ZI,CM⟩:=sD;have e1:=aT CM;refine⟨true,Z,bU ⟨_,Z,q,_,1,_,Z,Z,SqT.of hq,Z,pq,Z,⟨_,b5.of ZI⟩,?_⟩⟩;refine cF (K:=K) (a:=pq) (xs:=us) (fun i ys J=>J=H/\ys=(List.replicate i false).map V.bl) ⟨rfl,rfl⟩ (lk G) (fun i ys J ⟨_,e⟩=>by rw[e,de,c8];exact qnr _) (fun i ys J ⟨e,_⟩=>by subst e;exact b5.of ZI) ?_ ?_
  .rintro i y ys H1 hi ⟨e0,rfl⟩
   have e0:=e0.symm;subst e0;obtain⟨⟨kw,n⟩,Xa,qq,rfl,ON⟩:=bx CM i y hi;obtain⟨v,hv⟩:=j'.mp (hall _ (pj Xa));refine⟨qq,_,Z,SqT.of ON,Z,_,_,Z,_,_,Z,Z,⟨Z,trivial⟩,?_⟩;refine⟨_,Z,_,Z,g.c,t.zb,g.cx,_,_,Z,U.co,T.zg,T.zN,Ds _ _ _ _,g.kp,some v,Z,.inl ⟨ks,.inr kw,.inl U.kd,Z,hv.symm⟩,Z,?_⟩;rw[List.replicate_succ',ay]
   rfl
  rintro ys H1 ⟨e0,rfl⟩ lc yT;have e0:=e0.symm;subst e0;have s1:=aB (o:=.lst ((List.replicate us.length false).map V.bl)) yT;refine⟨lc,_,Z,b5.of ao,?_⟩
  have ea:(List.replicate us.length false).any id=false:=by
   rw[AE];intro b hb;rw[(eL.mp hb).2]
   decide
  rw[ea];exact k _ s1
 have e:decide (V.str kd=V.str ("pour":Str))=false:=gS fun z=>ep (V.str.inj z)
 try dsimp -proj -iota only
 rw[e];exact⟨false,Z,k _ (bb.refl _)⟩
theorem Oh:ck ["course","form"] ["course","form"] (aP Yy):=eM
theorem KJ(T:Txt P w K mg t){AK:Str->gA->Prop}(hA:wD P w K mg base t AK):FO P w K mg base 125 t.a88 t.d88 ["course","form"] (JU t AK):=by
 refine T.q88.F.fq (k:=124) Oh ?_;rintro nd _ _ _ _ H vs Q E hr ⟨g,bl,mv,bv,xs,ms,ks,np,q,ns,kr,st,tb,kd,fk,ts,rfl,U,hlen,ia,n9,q_,lS,h8,lh,hF,hok,k⟩;obtain⟨l,pv,ss,hq,sD,_⟩:=hF.ex
 have AY:¬kd="names"/\(kd="pour"->∃ pl,fk=.ps pl/\pl.length<=10/\∀ x∈pl,(bN ks (.inr x.1)).isSome=true):=by
  rcases k with⟨D,s',rs',tb',hD,h,_⟩|⟨_,_,L,txt,_,_,hK,_⟩|⟨_,_,_,rfl,_⟩
  .cases hD with
   |take=>exact⟨dk,fun z=>absurd z dk⟩
   |give=>exact⟨dk,fun z=>absurd z dk⟩
   |lean=>exact⟨dk,fun z=>absurd z dk⟩
   |back=>exact⟨dk,fun z=>absurd z dk⟩
   |again=>exact⟨dk,fun z=>absurd z dk⟩
   | DS =>
    refine⟨dk,fun _=>?_⟩;obtain⟨_,_,_,_,_,_,_,pl,ps,e,wa,Lu,_⟩:=h;refine⟨pl,e,Lu,fun x hx=>?_⟩;obtain⟨i,hi⟩:=List.mem_iff_getElem?.mp hx;obtain⟨y,_,hy,_⟩:=bx wa i x hi;obtain⟨v,hv,_⟩:=(G7 q_ x.1).2 _ hy;rw[hv]
    rfl
  .exact⟨(hA kd L hK).2.1,fun z=>absurd z (hA kd L hK).2.2.1⟩
  exact⟨dk,fun z=>absurd z dk⟩
 refine⟨_,(aq (aO (PW.pt (dN (aG gU (O 1) bM (aK _)) (eZ (aG aW (cy aJ (O 1) ak) az (aK _)))))
    (au (aC az))
    aM)
   (aq (aO (ie (eK T.q87 (KH T) hr aH (aa (O 0) (aa (O 1) aj))) (fun _=>rfl))
    (au (aC az))
    aM)
   (aq (Bd (xj (IK (Qv T.q86 (Kz T hA) hr (aa (O 0) (aa (O 1) aj)))))
    (.cons T.zu T.zar gT gT (fun e=>(au (aC az))) (.cons T.Y_ T.zas gT gT (fun e=>(au (aC az))) (.cons T.Za T.zaq gT gT (fun e=>(au (aC az))) (.cons T.zQ T.zV gT gT (fun e=>(au (aC az))) (.cons T.zS T.zW gT gT (fun e=>(au (aC az))) (.cons T.zZ T.zap gT gT (fun e=>(au (aC az))) (.cons T.zY T.zao gT gT (fun e=>(au (aC az))) .nil))))))))
   (au (aC bM))))),?_⟩
 refine⟨_,rfl,rfl,_,rfl,aN (fun z=>absurd (eT z) (by intro z;cases z)) (fun _=>?_)⟩;refine⟨_,Z,q,_,0,_,Z,Z,SqT.of hq,Z,Z,_,Z,aN (fun z=>absurd (V.str.inj (eT z)) AY.1) (fun _=>?_)⟩;refine⟨_,Z,_,Z,g,bl,mv,bv,xs,ms,ks,q,l,kd,pv,fk,Z,U,hq,sD,AY.2,fun H1 s1=>?_⟩;refine⟨_,Z,?_⟩;refine⟨_,Z,_,Z,g,bl,mv,bv,xs,ms,ks,np,q,ns,kr,st,tb,kd,fk,ts,Z,U.mono s1,hlen,bF s1.tups ia,bF s1.tups n9,q_.tups s1.tups,s1 _ _ lS,h8,lh,hF.mono s1,hok,?_⟩;rcases k with⟨D,s',rs',tb',h1,h2,k⟩|⟨s0,rs,L,txt,h1,h2,h3,h4,k⟩|⟨s0,rs,x,h1,h2,h3,k⟩
 .exact .inl ⟨D,s',rs',tb',h1,h2,fun bl' mv' v' bv' J hb kc=>k bl' mv' v' bv' J (hb.imp id s1.free) (gu.ahead s1 kc)⟩
 .exact .inr (.inl ⟨s0,rs,L,txt,h1,h2,h3,h4,fun J kc=>k J (gu.ahead s1 kc)⟩)
 exact .inr (.inr ⟨s0,rs,x,h1,h2,h3,fun v J hv kc=>k v J hv (gu.ahead s1 kc)⟩)
inductive Runs(AK:Str->gA->Prop)(ns:List Str):List (Str×nL×List Tr)->List (List Int)->List (List Int)->Kept->List (List Int)->List Str->Prop
 |nil (st tb:List (List Int)) (kr:Kept):Runs AK ns [] st tb kr [] []
 |deed {kd:Str} {fk:nL} {ts:List Tr} {D:Dd} {st tb s' tb':List (List Int)} {kr:Kept} {rs':List Int} {rws:List (Str×nL×List Tr)} {kC:List (List Int)} {xs:List Str}:(∀ u∈ts,IS u/\∀ x∈u.names,x∈ns)->kL kd D->D ns kr st tb fk ts (s'++[rs']) tb'->Runs AK ns rws (s'++[rs']) tb' kr kC xs->Runs AK ns ((kd,fk,ts):: rws) st tb kr (rs'::kC) xs
 |ans {kd:Str} {fk:nL} {ts:List Tr} {st tb s0:List (List Int)} {kr:Kept} {rs:List Int} {L:gA} {txt:Str} {rws:List (Str×nL×List Tr)} {kC:List (List Int)} {xs:List Str}:(∀ u∈ts,IS u/\∀ x∈u.names,x∈ns)->st=s0++[rs]->gN ns rs->AK kd L->L ns rs ts txt->Runs AK ns rws st tb kr kC xs->Runs AK ns ((kd,fk,ts):: rws) st tb kr kC (txt::xs)
 |keep {x:Str} {st tb s0:List (List Int)} {kr:Kept} {rs:List Int} {rws:List (Str×nL×List Tr)} {kC:List (List Int)} {xs:List Str}:st=s0++[rs]->Runs AK ns rws st tb (iy kr x rs) kC xs->Runs AK ns (("keep",.v (.str x),[]):: rws) st tb kr kC xs
def Dy(r:Nat×Str)(x:Str×nL×List Tr):Prop:=r.2.length<=fU/\cQ r.2=x.1/\∃(ss:List Str),qm x.1 (bY r.2) x.2.1 ss/\Paired Po ss x.2.2/\ss.length<=10
inductive P2(t:l9)(AK:Str->gA->Prop)(vs:List V)(H:Hp)(Q:VK)(E:XK):Prop
 |mk(x:Str)(i0:Nat)(r0:Str)(rest:List (Nat×Str))(rws:List (Str×nL×List Tr))(ns:List Str)(kC:List (List Int))(xs:List Str)(_:vs=[.str x])(_:x.length<=fU)(_:qg x=(i0,r0):: rest)(_:r0.length<=fU)(_:cQ r0="names")(_:fV (b7 (bY r0))=true)(_:b7 (bY r0)=ns)(_:1<=ns.length)(_:ns.length<=8)(_:ns.Nodup)(_:rest.length<=300)(_:Paired Dy rest rws)(_:Runs AK ns rws [fO ns] [] [] kC xs)(_:∀(q al ml np:Addr) (ms:List V) (J:Hp),bb H J->J q=some (.tup [.ref al,.ref ml])->J al=some (.lst (xs.map V.str))->J ml=some (.lst ms)->J np=some (.tup (ns.map V.str))->Paired (f_ J np) ms kC->Q (.ref q) J)
theorem vC{D:Dd}(h:kL kd D){kr:Kept}{st tb iA tb':List (List Int)}{fk:nL}(d:D ns kr st tb fk ts iA tb'):iA.length<=st.length+1/\tb'.length<=tb.length+1:=by
 have new:∀{D},newD D ns kr st tb fk ts iA tb'->iA.length<=st.length+1/\tb'.length<=tb.length+1:=fun⟨s0,rs,rs',_,e,e2,_⟩=>by
  rw[e,e2,af];exact⟨qnr _,mi _⟩
 cases h with
 |take=>exact new d
 |give=>exact new d
 |lean=>exact new d
 |DS=>exact new d
 | back =>
  obtain⟨s0,rs,rfl,_,rfl,rfl⟩:=d;rw[af,af];exact⟨G,qnr _⟩
 | again =>
  obtain⟨t0,rs,rfl,rfl,rfl⟩:=d;rw[af,af];exact⟨qnr _,G⟩
theorem yq(kr:Kept)(x:Str)(rs:List Int):(iy kr x rs).length <= kr.length+1:=by
 unfold iy
 split
 .rw[de];exact G
 rw[af];exact qnr _
theorem Hj(ns:List Str):gN ns (fO ns):=⟨c8,fun z hz=>by rw[(eL.mp hz).2];exact ot 0,eL.mpr ⟨by have:=hJ (n:=ns.length);exact G,rfl⟩⟩
theorem Hk(v:V)(us:List V):ik (v::us) (some 1) none=us:=by
 unfold ik;simp[HT.fN]
theorem RT:ck ["text","rows","course","place","row","word"] ["text"] (aP Yw):=eM
theorem QM(T:Txt P w K mg t){AK:Str->gA->Prop}(hA:wD P w K mg base t AK):FO P w K mg base 126 t.a90 t.d90 ["text"] (P2 t AK):=by
 refine T.q90.F.fq (k:=125) RT ?_;rintro nd _ _ _ _ H vs Q E hr ⟨x,i0,r0,rest,rws,ns,kC,xs,rfl,hx,RI,KG,Xc,hB,pe,h1,h8,lh,XF,hS,hR,k⟩
 refine ⟨_,(aq (fR 1 nd (eK T.q57 (G6 T) hr aH (aa (O 0) aj)))
   (aq (fR 2 nd (Ls T.zaM (Kq T) (hr.mo) T.zaz T.q75.b aH (aa (eK T.q89 (yo T) hr aH (aa (O 1) aj)) aj)))
   (aq (eG kR rfl (bR (ig uc (O 1) (iC ak) j6)) (jA (n:=2) rfl (bG (iP 3 nd) (bG (iP 4 nd) dO)))
    (aq (fR 5 nd (eK T.q88 (KJ T hA) hr aH (aa (O 2) (aa (eK T.q74 (KD T) hr aH (aa (O 4) aj)) aj))))
    (au (aO (aG Ml (O 5) bM (aK _))
     (au qN)
     aM))))
   (au (aC (bj (aa (bC (O 2) rfl) (aa (bC (O 2) rfl) aj)))))))),?_⟩
 refine⟨_,Z,x,Z,hx,fun rl us H1 s1 KA hPr=>?_⟩;rw[RI]at hPr
 obtain⟨v0,us',rfl,hv0,S_⟩:∃ v0 us',us=v0::us'/\pz H1 v0 (i0,r0)/\Paired (pz H1) us' rest:=by
  cases hPr with
  |cons a b=>exact⟨_,_,Z,a,b⟩
 have tS:us'.length=rest.length:=aT S_;refine⟨_,Z,rl,v0,us',i0,r0,Z,KA,by rw[tS];exact g9 XF b9,hv0,KG,Xc,hB,fun np H2 s2 lS=>?_⟩;rw[pe]at lS;have WL:=s2 _ _ KA;have XA:Paired (pz H2) us' rest:=Paired.ib S_ fun _ _ z=>z.mono s2
 have UC:bb H H2:=fun b o e=>s2 _ _ (s1 _ _ e)
 intro c cx hc Z3 hccx;have WY:np≠c:=aD lS hc;have WX:np≠cx:=aD lS Z3;refine⟨c,cx,np,ns,Z,ao,by rw[aA WY,aA WX];exact lS,h1,h8,fun p dx sl kp al ml bl m r H3 U hm hp hsl rd wb q_ uu keep=>⟨Z,?_⟩⟩;have G1:bb H2 H3:=fun b o e=>keep b o (by rw[aA (aD e hc),aA (aD e Z3)];exact e) (aD e hc)
 have fr:∀ b,(upd (upd H2 cx (.own c)) c (.ins t.zb cx [])) b=none->H2 b=none:=fun b e=>by
  by_cases e1:b=c
  .rw[e1]at e;rw[ao]at e;cases e
  rw[aA e1]at e
  by_cases e2:b=cx
  .rw[e2]at e;rw[ao]at e;cases e
  rw[aA e2]at e;exact e
 have OQ:=fr _ hp;have D3:=fr _ hsl;have Xt:=fr _ rd;have W3:=fr _ wb;have W_:=fr _ q_;have II:=fr _ uu;have WK:=G1 _ _ WL;have lift:∀{Ha Hb:Hp}{bl:Addr},H2 bl=none->bb H2 Ha->gu ⟨c,cx,p,dx,sl,kp,al,ml⟩ bl Ha Hb->bb H2 Hb:=fun hb sa kc b o e=>kc b o (sa _ _ e) (aD e OQ) (aD e D3) (aD e Xt) (aD e W3) (aD e W_) (aD e hb)
 refine⟨_,Z,_,Z,rl,_,Z,b5.of WK,fun BI sA=>?_⟩;have ec:ik (v0::us') (some 1) none=us':=Hk v0 us';rw[ec];have GY:=aB (o:=.lst us') sA;have M':(upd H3 BI (.lst us')) BI=some (.lst us'):=ao;have n1:BI≠p:=aS (aD U.lg.ob sA);have n2:BI≠sl:=aS (aD U.lg.st sA);have n3:BI≠al:=aS (aD U.an sA);have n4:BI≠ml:=aS (aD U.mb sA);have n5:BI≠kp:=aS (aD U.kd sA);have n6:BI≠bl:=aS (aD U.lg.tb sA);have U4:=U.mono GY;have KU:=hm.same GY;have G0:=G1.trans GY;generalize upd H3 BI (.lst us')=H4 at M' U4 KU G0 ⊢;have SE:rest.length=rws.length:=aT hS
 refine⟨BI,rfl,⟨_,b5.of M'⟩,fJ (K:=K) (a:=BI) (xs:=us')
  (fun i M J=>E15 fun(o3 o4 o5:Option V)(bl:Addr)(mv bv:List V)(st tb:List (List Int))(x1 x2:List Str)(ms:List V)(m1 m2:List (List Int))(ks:List (Key×V))(kr:Kept)=>C13 (M=[some (.str x),some (.ref rl),some (.ref c),o3,o4,o5]) (bb H2 J) (J BI=some (.lst us')) (jI t J ⟨c,cx,p,dx,sl,kp,al,ml⟩ bl mv bv x1 ms ks) ((H2 bl=none/\BI≠bl)) (Paired (f_ J np) mv st) (Paired (f_ J np) bv tb) (va J np ks kr) (Paired (f_ J np) ms m1) (Runs AK ns (rws.drop i) st tb kr m2 x2) (kC=m1++m2) (xs=x1++x2) ((st.length<=i+1/\tb.length<=i/\x1.length<=i/\m1.length<=i/\kr.length<=i)))
  ⟨none,none,none,bl,[.ref m],[],[fO ns],[],[],xs,[],[],kC,[],[],rfl,G0,M',U4,⟨II,n6⟩,.cons ⟨m,r,rfl,KU⟩ .nil,.nil,.nil,.nil,hR,rfl,rfl,qnr _,qnr _,qnr _,qnr _,qnr _⟩ (fun i M J _ ⟨_,_,_,_,_,_,_,_,_,_,_,_,_,_,_,_,_,h,_,_,_,_,_,_,_,_,_,_⟩=>b5.of h) ?_ ?_⟩
 .rintro i y M H5 hi ⟨o3,o4,o5,bl,mv,bv,st,tb,x1,x2,ms,m1,m2,ks,kr,rfl,Qb,hrl5,U5,⟨hbl5,n6⟩,ia,n9,W',NS,hRu,hmss,hxs,hL1,hL2,HV,hm1,hL3⟩
  have ZX:i<us'.length:=(List.getElem?_eq_some_iff.mp hi).1;obtain⟨⟨j,yt⟩,hj,q,rfl,hq⟩:=bx XA i y hi;obtain⟨⟨kd,fk,ts⟩,hrw,Kn,Vb,ss,hG,Xz,Lu⟩:=bx hS i (j,yt) hj;have Kn:yt.length<=fU:=Kn;have Vb:cQ yt=kd:=Vb;have hG:qm kd (bY yt) fk ss:=hG;have Xz:Paired Po ss ts:=Xz
  have X2:rws.drop i=(kd,fk,ts):: rws.drop (i+1):=by
   obtain⟨f',e⟩:=List.getElem?_eq_some_iff.mp hrw;rw[i_ f',e]
  have wb:=aT NS;have NC:=aT ia;have hbv:=aT n9;have hks:=aT W';refine⟨q,_,Z,SqT.of (Qb _ _ hq),Z,_,_,Z,_,_,Z,Z,?_⟩;refine⟨_,Z,_,Z,yt,fk,ss,Z,Kn,by rw[Vb];exact hG,fun v H6 s6 Z7=>?_⟩;rw[Vb]at Z7;obtain⟨q6,l6,pv6,rfl,UY,OP,hl6⟩:=Z7;have s6:bb H5 H6:=s6;have U6:=U5.mono s6;have s26:=Qb.trans s6;have hPm6:=bF s6.tups NS;have MZ:=bF s6.tups ia;have MX:=bF s6.tups n9;have hkr6:=W'.tups s6.tups;rw[X2]at hRu;refine⟨⟨c,cx,p,dx,sl,kp,al,ml⟩,bl,mv,bv,x1,ms,ks,np,q6,ns,kr,st,tb,kd,fk,ts,Z,U6,⟨G,G,G,G,G⟩,MZ,MX,hkr6,s26 _ _ lS,h8,lh,⟨l6,pv6,ss,UY,OP,hl6,Xz,Lu⟩,?_,?_⟩
  .cases hRu with
   |deed h _ _ _=>exact h
   |ans h _ _ _ _ _=>exact h
   |keep _ _=>exact fun u hu=>nomatch hu
  cases hRu with
  | deed hok hK hD hrest =>
   rename_i D s' tb' rs' m2'
   obtain⟨l1,l2⟩:=vC hK hD;refine .inl ⟨D,s',rs',tb',hK,hD,fun bl' mv' v' bv' H7 hbl' kc U7 hs7 hb7=>?_⟩;have tp:=mR U6 kc;refine⟨_,Z,Z,_,Z,aN (fun z=>absurd z (by rw[cK rfl];decide)) (fun _=>?_)⟩
   have hv':f_ H7 np v' rs':=by
    obtain⟨_,_,e,_,h⟩:=bV hs7;obtain⟨_,e2⟩:=qc e rfl;cases e2;exact h
   refine⟨_,_,_,bl',mv'++[v'],bv',s'++[rs'],tb',x1,x2,ms++[v'],m1++[rs'],m2',ks,kr,Z,lift hbl5 s26 kc,kc _ _ (s6 _ _ hrl5) n1 n2 n3 n4 n5 n6,U7,?_,hs7,hb7,hkr6.tups tp,bK (bF tp hPm6) (.cons hv' .nil),hrest,by rw[hmss,dE];rfl,hxs,G,G,G,by rw[af];exact Nat.succ_le_succ hm1,G⟩;rcases hbl' with rfl|hb
   .exact⟨hbl5,n6⟩
   exact⟨s26.free hb,aD (s6 _ _ hrl5) hb⟩
  | ans hok hst0 hM hK hL hrest =>
   rename_i s0 rs L txt x2'
   refine .inr (.inl ⟨s0,rs,L,txt,hst0,hM,hK,hL,fun H7 kc U7=>?_⟩);have tp:=mR U6 kc;refine⟨_,Z,Z,_,Z,aN (fun z=>absurd z (by rw[cK rfl];decide)) (fun _=>?_)⟩;exact⟨_,_,_,bl,mv,bv,st,tb,x1++[txt],x2',ms,m1,m2,ks,kr,Z,lift hbl5 s26 kc,kc _ _ (s6 _ _ hrl5) n1 n2 n3 n4 n5 n6,U7,⟨hbl5,n6⟩,bF tp MZ,bF tp MX,hkr6.tups tp,bF tp hPm6,hrest,hmss,by rw[hxs,dE];rfl,G,G,by rw[af];exact Nat.succ_le_succ HV,G,G⟩
  | @keep x0 _ _ s0 _ rs _ _ _ hst0 hrest =>
   refine .inr (.inr ⟨s0,rs,x0,rfl,rfl,hst0,fun v H7 hv kc U7=>?_⟩);have tp:=mR U6 kc;have:=yq kr x0 rs;refine⟨_,Z,Z,_,Z,aN (fun z=>absurd z (by rw[cK rfl];decide)) (fun _=>?_)⟩;exact⟨_,_,_,bl,mv,bv,st,tb,x1,x2,ms,m1,m2,_,iy kr x0 rs,Z,lift hbl5 s26 kc,kc _ _ (s6 _ _ hrl5) n1 n2 n3 n4 n5 n6,U7,⟨hbl5,n6⟩,bF tp MZ,bF tp MX,QJ (hkr6.tups tp) hv,bF tp hPm6,hrest,hmss,hxs,G,G,G,G,G⟩
 rintro M H5 ⟨o3,o4,o5,bl,mv,bv,st,tb,x1,x2,ms,m1,m2,ks,kr,rfl,Qb,hrl5,U5,_,ia,n9,W',NS,hRu,hmss,hxs,_⟩;have ed:rws.drop us'.length=[]:=List.drop_eq_nil_of_le G;rw[ed]at hRu;cases hRu;rw[c_]at hmss hxs;subst hmss hxs;refine⟨_,Z,c,t.zb,cx,_,_,Z,U5.co,T.zg,T.zT,LR _ _ _ _,_,Z,c,t.zb,cx,_,_,Z,U5.co,T.zg,T.zU,Ma _ _ _ _,lk obz,fun e he=>?_⟩;have s7:=aB (o:=.tup [.ref al,.ref ml]) he;exact k e al ml np ms _ ((UC.trans Qb).trans s7) ao (s7 _ _ U5.an) (s7 _ _ U5.mb) (s7 _ _ (Qb _ _ lS)) (bF s7.tups NS)
def VB:List Str:=["take","lean","keep","pour","back","again","ask","worlds"]
structure xC(ns:List Str)(tr:Tr)(a b:Int)(kl:List Str)(kd:Str):Prop where
 mem:kd∈VB
 tk:kd="take"->aQ ns tr≠0
 gv:kd="give"->aQ ns tr≠cP ns.length
 ln:kd="lean"->aQ ns tr≠0/\aQ ns tr≠cP ns.length
 bk:kd="back"->a≠0
 ag:kd="again"->b≠0
 pr:kd="pour"->kl≠[]
def CC(kd:Str)(num:Int):Prop:=(kd="lean"/\-(10^30)<num/\num<10^30)\/(¬kd="lean"/\0<num/\num<10^30)
structure CB(ns:List Str)(tr:Tr):Prop where
 dp:tr.depth<=4
 sz:tr.size<=100
 nm:∀ x∈tr.names,x∈ns
inductive LW(vs:List V)(H:Hp)(Q:VK)(E:XK):Prop
 |mk(np cl e:Addr)(ns kl:List Str)(c k a b:Int)(_:vs=[.ref np,.int c,.int k,.ref cl])(_:H np=some (.tup (ns.map V.str)))(_:1<=ns.length)(_:ns.length<=8)(_:0<=k)(_:k<1000)(_:H cl=some (.lst [.int a,.int b,.ref e]))(_:H e=some (.lst (kl.map V.str)))(_:∀(q:Addr)(vt vo:V)(tr:Tr)(kd:Str)(num i:Int)(J:Hp),bb H J->J q=some (.tup [.str kd,.int num,vt,vo,.int i])->eD J vt tr->CB ns tr->xC ns tr a b kl kd->CC kd num->0<=i->Q (.ref q) J)
theorem gH(p:Str->Bool)(h:VB.all p=true)(hk:kd∈VB):p kd=true:=bP.mp h kd hk
theorem Oi{m:Int}(h0:0<=m)(h:m<10):∃ kd:Str,tw [V.str "take",V.str "lean",V.str "keep",V.str "pour",V.str "take",V.str "pour",V.str "keep",V.str "pour",V.str "back",V.str "again"] m=some (.str kd)/\kd∈VB:=by
 obtain⟨n,rfl⟩:∃ n:Nat,m=(n:Int):=⟨m.toNat,G⟩
 have hn:n<(["take","lean","keep","pour","take","pour","keep","pour","back","again"]:List Str).length:=by show n<10;exact G
 refine⟨(["take","lean","keep","pour","take","pour","keep","pour","back","again"]:List Str)[n],?_,bP.mp (show(["take","lean","keep","pour","take","pour","keep","pour","back","again"]:List Str).all (fun x=>decide (x∈VB))=true by decide +kernel) _ (fg hn) |> eT⟩;show tw ((["take","lean","keep","pour","take","pour","keep","pour","back","again"]:List Str).map V.str) _=_;refine bu (j:=n) ?_;rw[kg,List.getElem?_eq_getElem hn]
 rfl
theorem tW{a b:Int}:xC ns tr a b kl "ask":=⟨dk,fun z=>absurd z dk,fun z=>absurd z dk,fun z=>absurd z dk,fun z=>absurd z dk,fun z=>absurd z dk,fun z=>absurd z dk⟩
theorem QR:ck ["_law_names","_law_cell","_law_k","_law_counts","_law_m","_law_verb","_law_tree","_law_other","_law_told","_law_always","_law_number"] ["_law_names","_law_cell","_law_k","_law_counts"] (aP Jv):=eM
theorem Oj(T:Txt P w K mg t):FM P w base T.q100 7 LW:=by
 have YZ:=JP (base:=base) T;refine T.q100.F.fq (k:=6) QR ?_;rintro nd _ _ _ _ H _ _ _ hr ⟨np,cl,e,ns,kl,c,kk,a,b,rfl,lS,h1,h8,Xc,hk1,ED,he,k⟩;have hu:=eO hr
 refine⟨_,(aq (fR 4 nd (eK T.q93 YZ hr aH (aa (O 1) (aa (O 2) aj))))
   (aq (fR 5 nd (cy bh (bz (aa az (aa az (aa az (aa az (aa az (aa az (aa az (aa az (aa az (aa az aj))))))))))) (aF cj (O 4) ak)))
   (aq (fR 6 nd (eK T.q95 (ww T 4) hr aH (aa (O 0) (aa (eK T.q93 YZ hr aH (aa (O 1) (aa (aF cO (O 2) ak) aj))) (aa ak aj)))))
   (aq (fR 7 nd (eK T.q95 (ww T 4) hr aH (aa (O 0) (aa (eK T.q93 YZ hr aH (aa (O 1) (aa (aF cO (O 2) ak) aj))) (aa ak aj)))))
   (aq (fR 8 nd (eK T.q97 (o9 T 4) hr aH (aa (O 0) (aa (O 6) aj))))
   (aq (fR 9 nd (du aW (O 8) (aF cV (aF gD ak (aF gD ak (aZ aX T.zd Bt.len (aa (O 0) aj)))) ak) (aK _)))
   (aq (aO (PW.pt (dN (PW.pt (gQ (aG aW (O 5) az (aK _)) (gk (aG aW (O 8) ak (aK _))))) (dN (PW.pt (gQ (aG iD (O 5) (bj (aa az (aa az aj))) ou) (gk (cG (O 9))))) (eZ (PW.pt (gQ (aG aW (O 5) az (aK _)) (gk (PW.pt (dN (cG (O 9)) (eZ (aG aW (O 8) ak (aK _))))))))))))
    (au (fR 5 nd az))
    aM)
   (aq (aO (PW.pt (dN (PW.pt (gQ (aG aW (O 5) az (aK _)) (gk (aG aW (cy bh (O 3) ak) ak (aK _))))) (eZ (PW.pt (gQ (aG aW (O 5) az (aK _)) (gk (aG aW (cy bh (O 3) ak) ak (aK _))))))))
    (au (fR 5 nd az))
    aM)
   (aq (aO (PW.pt (gQ (aG aW (O 5) az (aK _)) (gk (aG (xx (kH hu)) (cy bh (O 3) ak) (bz aj) (aK _)))))
    (au (fR 5 nd az))
    aM)
   (aq (fR 10 nd (aF cO ak (aF cj (O 1) (aF cV (aF wJ ak ak) ak))))
   (aq (aO (aG aW (O 5) az (aK _))
    (au (fR 10 nd (aF cV (aF cj (O 1) (aF cV (aF gC ak (aF wJ ak ak)) ak)) (aF cV (aF wJ ak ak) ak))))
    aM)
   (au (aC (bj (aa (O 5) (aa (O 10) (aa (O 6) (aa (O 7) (aa (aF fP (O 4) ak) aj))))))))))))))))))),?_⟩
 refine⟨_,Z,_,Z,c,kk,Z,Xc,G,fun m hm=>?_⟩;have OU:=AU m (show(10:Int)≠0 by decide);have W5:=BM m (show(0:Int)<10 by decide);obtain⟨HU,Lm,NH⟩:=Oi OU W5;refine⟨lk obz,fun q0 E9=>?_⟩;have s0:=aB (o:=.lst [V.str "take",V.str "lean",V.str "keep",V.str "pour",V.str "take",V.str "pour",V.str "keep",V.str "pour",V.str "back",V.str "again"]) E9;refine⟨_,Z,_,_,Z,Z,(by show(0:Int)<10;decide),q0,_,_,.str HU,Z,Z,b5.of ao,Lm,?_⟩;generalize upd H q0 (.lst [V.str "take",V.str "lean",V.str "keep",V.str "pour",V.str "take",V.str "pour",V.str "keep",V.str "pour",V.str "back",V.str "again"])=H0 at s0 ⊢;refine⟨_,Z,_,Z,_,Z,_,_,Z,Z,c,kk+100,Z,G,G,fun m1 hm1=>⟨np,ns,m1,3,Z,s0 _ _ lS,h1,h8,b9,b9,fun vt tr H1 s1 ht hd hz hn=>?_⟩⟩;refine⟨_,Z,_,Z,_,Z,_,_,Z,Z,c,kk+200,Z,G,G,fun m2 qS=>⟨np,ns,m2,3,Z,s1 _ _ (s0 _ _ lS),h1,h8,b9,b9,fun vo tr2 H2 s2 ZE hd2 Wx Cf=>?_⟩⟩;have UC:=(s0.trans s1).trans s2;have ID:=UC _ _ lS;refine⟨_,Z,_,Z,np,vt,ns,tr,Z,ID,h8,ht.mono s2.tups,hd,hn,fun H3 s3=>?_⟩;have Zk:=UC.trans s3;have IC:=Zk _ _ lS;have ht3:=ht.mono (s2.trans s3).tups;have el:(ns.map V.str).length=ns.length:=de _;have c1:oh 1 (((ns.map V.str).length:Nat):Int):=⟨G,by rw[el];exact G,b9⟩
 have c2:oh 1 ((1:Int)*2^(((ns.map V.str).length:Nat):Int).toNat):=by
  rw[el,E1];exact⟨(EZ h8).1,by have:=(EZ h8).2;exact G,b9⟩
 have ef:(1:Int)*2^((1:Int)*2^(((ns.map V.str).length:Nat):Int).toNat).toNat-1=((cP ns.length:Nat):Int):=by
  rw[el,E1,UG]
  rfl
 refine⟨_,Z,_,Z,np,_,Z,.inr (SqT.of IC),_,_,Z,Z,c1,_,_,Z,Z,c2,_,_,Z,Z,?_⟩
 try dsimp -proj -iota only
 rw[ef];refine⟨Z,?_⟩;obtain⟨Pf,S'⟩:∃ Pf:Bool,decide (V.int ((aQ ns tr:Nat):Int)=V.int ((cP ns.length:Nat):Int))=Pf:=⟨_,rfl⟩
 rw[S'];have nK:sx (.str HU) [V.str "give",V.str "lost"]=decide (HU="give"):=gH (fun kd=>sx (.str kd) [V.str "give",V.str "lost"]==decide (kd="give")) dk NH |> eq_of_beq
 have ha:Pf=true↔aQ ns tr=cP ns.length:=by
  rw[<- S',xI];exact⟨fun z=>Int.ofNat.inj (V.int.inj z),fun z=>by rw[z]⟩
 have _h:∀{n:Nat},decide (V.int ((n:Nat):Int)=V.int 0)=true↔n=0:=fun {n}=>by
  rw[xI];exact⟨fun z=>Int.ofNat.inj (V.int.inj z),fun z=>by rw[z];rfl⟩
 apply Dh (fun M J=>∃ kd:Str,M=[some (.ref np),some (.int c),some (.int kk),some (.ref cl),some (.int m),some (.str kd),some vt,some vo,some (.int (aQ ns tr:Nat)),some (.bl Pf),none]/\bb H3 J/\xC ns tr 1 1 ["a"] kd)
 .intro g
  apply Di (S:=HU="take"->aQ ns tr≠0)
  .intro g2
   refine⟨_,Z,Z,_,Z,aN (fun z1=>?x1) (fun z1=>bD ?x2)⟩
   case x1 =>
    refine⟨_,Z,Z,_,Z,aN (fun z2=>bU ?y1) (fun z2=>?y2)⟩
    case y1 =>
     show BK _ _ _ _ _;apply g;exact⟨"ask",Z,bb.refl _,tW⟩
    case y2 =>
     apply g2;exact fun _ z=>z2 (_h.mpr z)
   case x2=>exact g2 fun z=>absurd (cK (by rw[z])) z1
  intro hS;refine⟨_,Z,lk obz,fun q1 hq1=>⟨q1,_,Z,.inr (SqT.of ao),Z,Z,?_⟩⟩;have s4:=aB (o:=.tup [.str "give",.str "lost"]) hq1;generalize upd H3 q1 (.tup [.str "give",.str "lost"])=H4 at s4 ⊢;rw[bX ki,nK];apply Di (S:=HU="give"->aQ ns tr≠cP ns.length)
  .intro g3
   refine⟨_,Z,aN (fun z1=>?x1) (fun z1=>bD ?x2)⟩
   case x1 =>
    refine⟨_,Z,_,Z,aN (fun z2=>bU ?y1) (fun z2=>?y2)⟩
    case y1=>exact g _ _ ⟨"ask",rfl,s4,tW⟩
    case y2 =>
     apply g3;exact fun _ z=>z2 (ha.mpr z)
   case x2=>exact g3 fun z=>absurd (cK z) z1
  intro hG;refine⟨_,Z,Z,_,Z,aN (fun z1=>?x1) (fun z1=>bD ?x2)⟩
  case x1 =>
   have e1:HU="lean":=V.str.inj (eT z1);refine⟨_,Z,_,Z,aN (fun z2=>bU ?y1) (fun z2=>?y2)⟩
   case y1=>exact g _ _ ⟨"ask",rfl,s4,tW⟩
   case y2 =>
    refine⟨_,Z,Z,_,Z,aN (fun z3=>?w1) (fun z3=>?w2)⟩
    case w1=>exact g _ _ ⟨"ask",rfl,s4,tW⟩
    case w2=>exact g _ _ ⟨HU,rfl,s4,⟨NH,hS,hG,fun _=>⟨fun z=>z3 (_h.mpr z),fun z=>z2 (ha.mpr z)⟩,fun _=>by decide,fun _=>by decide,fun _=>da _ _⟩⟩
  case x2 =>
   have e1:¬HU="lean":=fun z=>z1 (cK (by rw[z]))
   exact g _ _ ⟨HU,rfl,s4,⟨NH,hS,hG,fun z=>absurd z e1,fun _=>by decide,fun _=>by decide,fun _=>da _ _⟩⟩
 rintro M H4 ⟨kd,rfl,s4,hV⟩;have OF:=Zk.trans s4;have UW:=ht3.mono s4.tups;have NL:=OF _ _ ED;have he4:=OF _ _ he;have cp:oh 10 30:=⟨b9,b9,b9⟩
 apply Dh (fun M J=>∃ kd:Str,M=[some (.ref np),some (.int c),some (.int kk),some (.ref cl),some (.int m),some (.str kd),some vt,some vo,some (.int (aQ ns tr:Nat)),some (.bl Pf),none]/\J=H4/\xC ns tr a b ["a"] kd)
 .intro g
  have wo:xC ns tr a b ["a"] "worlds":=⟨dk,fun z=>absurd z dk,fun z=>absurd z dk,fun z=>absurd z dk,fun z=>absurd z dk,fun z=>absurd z dk,fun z=>absurd z dk⟩
  have i0:∀{n:Int},decide (V.int n=V.int 0)=true↔n=0:=fun {n}=>by
   rw[xI];exact⟨fun z=>V.int.inj z,fun z=>by rw[z]⟩
  apply Di (S:=kd="back"->a≠0)
  .intro g2
   refine⟨_,Z,Z,_,Z,aN (fun z1=>?x1) (fun z1=>bD ?x2)⟩
   case x1 =>
    refine⟨_,Z,cl,_,0,_,Z,Z,b5.of NL,Z,Z,_,Z,aN (fun z2=>bU ?y1) (fun z2=>?y2)⟩
    case y1 =>
     show BK _ _ _ _ _;apply g;exact⟨"worlds",Z,Z,wo⟩
    case y2 =>
     apply g2;exact fun _ z=>z2 (i0.mpr z)
   case x2=>exact g2 fun z=>absurd (cK (by rw[z])) z1
  intro hB;refine⟨_,Z,Z,_,Z,aN (fun z1=>?x1) (fun z1=>bD ?x2)⟩
  case x1 =>
   refine⟨_,Z,cl,_,1,_,Z,Z,b5.of NL,Z,Z,_,Z,aN (fun z2=>?y1) (fun z2=>?y2)⟩
   case y1=>exact g _ _ ⟨"worlds",rfl,rfl,wo⟩
   case y2=>exact g _ _ ⟨kd,rfl,rfl,⟨hV.mem,hV.tk,hV.gv,hV.ln,hB,fun _ z=>z2 (i0.mpr z),hV.pr⟩⟩
  case x2=>exact g _ _ ⟨kd,rfl,rfl,⟨hV.mem,hV.tk,hV.gv,hV.ln,hB,fun z=>absurd (cK (by rw[z])) z1,hV.pr⟩⟩
 rintro M J ⟨kd,rfl,eH,hV⟩;have eH:=eH.symm;subst eH;apply Dh (fun M J=>∃ kd:Str,M=[some (.ref np),some (.int c),some (.int kk),some (.ref cl),some (.int m),some (.str kd),some vt,some vo,some (.int (aQ ns tr:Nat)),some (.bl Pf),none]/\bb H4 J/\xC ns tr a b kl kd)
 .intro g
  refine⟨_,Z,Z,_,Z,aN (fun z1=>?x1) (fun z1=>bD ?x2)⟩
  case x1 =>
   refine⟨_,Z,cl,_,2,_,Z,Z,b5.of NL,Z,lk obz,fun q1 hq1=>?_⟩;have s5:=aB (o:=.lst []) hq1;refine⟨e,q1,_,Z,Z,b5.of (s5 _ _ he4),b5.of ao,_,Z,aN (fun z2=>?y1) (fun z2=>?y2)⟩
   case y1 =>
    show BK _ _ _ _ _;apply g;exact⟨"keep",Z,s5,⟨dk,fun z=>absurd z dk,fun z=>absurd z dk,fun z=>absurd z dk,fun z=>absurd z dk,fun z=>absurd z dk,fun z=>absurd z dk⟩⟩
   case y2=>exact g _ _ ⟨kd,rfl,s5,⟨hV.mem,hV.tk,hV.gv,hV.ln,hV.bk,hV.ag,fun _ z=>z2 (by rw[z];rfl)⟩⟩
  case x2=>exact g _ _ ⟨kd,rfl,bb.refl _,⟨hV.mem,hV.tk,hV.gv,hV.ln,hV.bk,hV.ag,fun z=>absurd (cK (by rw[z])) z1⟩⟩
 rintro M H6 ⟨kd,rfl,s6,hV⟩;have OF:=OF.trans s6;have UW:=UW.mono s6.tups;refine⟨_,Z,_,_,Z,Z,cp,_,_,Z,Z,_,_,Z,Z,(by show(0:Int)<10^(30:Int).toNat-1;decide),_,_,Z,Z,?_⟩
 try dsimp -proj -iota only
 have a0:=AU c (show(10:Int)^(30:Int).toNat-1≠0 by decide);have a1:=BM c (show(0:Int)<10^(30:Int).toNat-1 by decide);have TY:(10:Int)^(30:Int).toNat=10^30:=rfl;rw[TY]at a0 a1 ⊢;obtain⟨num,IB⟩:∃ num,1+c%(10^30-1)=num:=⟨_,rfl⟩
 rw[IB];refine⟨_,Z,Z,_,Z,aN (fun z=>?_) (fun z=>?_)⟩
 .have e1:kd="lean":=V.str.inj (eT z)
  refine⟨_,Z,_,_,Z,Z,cp,_,_,Z,Z,.inl ⟨b9,b9⟩,_,_,Z,Z,_,_,Z,Z,(by show(0:Int)<2*10^(30:Int).toNat-1;decide),_,_,Z,Z,cp,_,_,Z,Z,_,_,Z,Z,?_⟩
  try dsimp -proj -iota only
  have b0:=AU c (show(2:Int)*10^(30:Int).toNat-1≠0 by decide);have b1:=BM c (show(0:Int)<2*10^(30:Int).toNat-1 by decide);rw[TY]at b0 b1 ⊢;refine⟨_,Z,_,Z,_,Z,_,Z,_,Z,_,_,Z,Z,⟨b9,b9⟩,lk obz,fun q hq=>?_⟩;have s5:=aB (o:=.tup [.str kd,.int (c%(2*10^30-1)-(10^30-1)),vt,vo,.int (m/10)]) hq;exact k q vt vo tr kd _ _ _ (OF.trans s5) ao (UW.mono s5.tups) ⟨hd,G,hn⟩ hV (.inl ⟨e1,G,G⟩) G
 have e1:¬kd="lean":=fun e=>z (cK (by rw[e]))
 refine⟨_,Z,_,Z,_,Z,_,Z,_,Z,_,_,Z,Z,⟨b9,b9⟩,lk obz,fun q hq=>?_⟩;have s5:=aB (o:=.tup [.str kd,.int num,vt,vo,.int (m/10)]) hq;exact k q vt vo tr kd _ _ _ (OF.trans s5) ao (UW.mono s5.tups) ⟨hd,G,hn⟩ hV (.inr ⟨e1,G,G⟩) G
def WD:List Str:=["a","names","keepnowz","back","worlds"]
def cX(m:Int):Str:=WD.getD (m%5).toNat "a"
theorem jL(m:Int):cX m∈WD:=by
 have h0:=AU m (show(5:Int)≠0 by decide);have h1:=BM m (show(0:Int)<5 by decide);have h:(m%5).toNat<WD.length:=by show(m%5).toNat<5;exact G
 unfold cX;rw[List.getD_eq_getElem?_getD,List.getElem?_eq_getElem h];exact fg h
inductive C5(vs:List V)(H:Hp)(Q:VK)(E:XK):Prop
 |mk(m:Int)(_:vs=[.int m])(_:∀ J,bb H J->Q (.str (cX m)) J)
def uz(H:Hp)(u:V)(p:Int×Str):Prop:=∃ q,u=.ref q/\H q=some (.tup [.int p.1,.str p.2])
def j4(kl:List Str)(prs:List (Int×Str)):Prop:=1<=prs.length/\prs.length<=4/\∀ p∈prs,1<=p.1/\p.1<=1000003/\p.2∈kl
inductive FV(vs:List V)(H:Hp)(Q:VK)(E:XK):Prop
 |mk(l:Addr)(m:Int)(kl:List Str)(_:vs=[.int m,.ref l])(_:H l=some (.lst (kl.map V.str)))(_:kl≠[])(_:kl.length<=100)(_:0<=m)(_:∀(p:Addr)(us:List V)(prs:List (Int×Str))(J:Hp),bb H J->H p=none->J p=some (.lst us)->Paired (uz J) us prs->j4 kl prs->Q (.ref p) J)
def cI(kd:Str)(a b:Int)(kl:List Str)(i:Int):Int×Int×List Str:=if kd∈(["take","give","lean","pour"]:List Str)then(a+1,0,kl)else if kd="back" then(a-1,b+1,kl)else if kd="again" then(a+1,b-1,kl)else if kd="keep"/\cX i∉kl then(a,b,kl++[cX i])else(a,b,kl)
inductive BG(vs:List V)(H:Hp)(Q:VK)(E:XK):Prop
 |mk(cl q e:Addr)(a b i:Int)(kl:List Str)(kd:Str)(u1 u2 u3:V)(_:vs=[.ref cl,.ref q])(_:H cl=some (.lst [.int a,.int b,.ref e]))(_:H e=some (.lst (kl.map V.str)))(_:kl.length<=100)(_:H q=some (.tup [.str kd,u1,u2,u3,.int i]))(_:kd∈VB)(_:∀(Pe e':Addr)(J:Hp),bb H J->J Pe=some (.lst [.int (cI kd a b kl i).1,.int (cI kd a b kl i).2.1,.ref e'])->J e'=some (.lst ((cI kd a b kl i).2.2.map V.str))->(Pe=cl\/H Pe=none)->(e'=e\/H e'=none)->Q (.ref Pe) J)
structure Pl where
 (kd:Str) (num:Int) (tr:Tr) (i:Int) (prs:List (Int×Str))
def iF(no:Addr)(H:Hp)(v:V)(x:Pl):Prop:=∃(q pa:Addr)(vt vo:V)(us:List V),v=.ref q/\H q=some (.tup [.str x.kd,.int x.num,vt,vo,.int x.i,.ref pa])/\eD H vt x.tr/\H pa=some (.lst us)/\Paired (uz H) us x.prs/\pa≠no
theorem iF.mono{no:Addr}{H J:Hp}(s:bb H J){v:V}{x:Pl}(h:iF no H v x):iF no J v x:=by
 obtain⟨q,pa,vt,vo,us,e,h1,h2,h3,h4,h5⟩:=h;exact⟨q,pa,vt,vo,us,e,s _ _ h1,h2.mono s.tups,s _ _ h3,Paired.ib h4 fun _ _ ⟨q,e,h⟩=>⟨q,e,s _ _ h⟩,h5⟩
theorem iF.upd{no:Addr}{H:Hp}{ys:List V}(hn:H no=some (.lst ys)){o:HO}{v:V}{x:Pl}(h:iF no H v x):iF no (upd H no o) v x:=by
 obtain⟨q,pa,vt,vo,us,e,h1,h2,h3,h4,h5⟩:=h;have T:fF H (L2.upd H no o):=fun b xs eb=>by rw[aA (aY eb hn)];exact eb
 exact⟨q,pa,vt,vo,us,e,T _ _ h1,h2.mono T,by rw[aA h5];exact h3,Paired.ib h4 fun _ _ ⟨q,e,h⟩=>⟨q,e,T _ _ h⟩,h5⟩
inductive oS(ns:List Str):Int->Int->List Str->List Pl->Prop
 |nil (a b:Int) (kl:List Str):oS ns a b kl []
 |cons {a b:Int} {kl:List Str} {x:Pl} {r:List Pl}:CB ns x.tr->xC ns x.tr a b kl x.kd->CC x.kd x.num->0<=x.i->(kl≠[]->j4 kl x.prs)->oS ns (cI x.kd a b kl x.i).1 (cI x.kd a b kl x.i).2.1 (cI x.kd a b kl x.i).2.2 r->oS ns a b kl (x::r)
def ma(a b:Int)(kl:List Str):List Pl->Int×Int×List Str
 |[]=>(a,b,kl)
 |x::r=>ma (cI x.kd a b kl x.i).1 (cI x.kd a b kl x.i).2.1 (cI x.kd a b kl x.i).2.2 r
theorem vD:∀{pls:List Pl}{a b:Int}{kl:List Str}{x:Pl},ma a b kl (pls++[x])=cI x.kd (ma a b kl pls).1 (ma a b kl pls).2.1 (ma a b kl pls).2.2 x.i
 |[],_,_,_,_=>rfl
 |_::r,_,_,_,_=>vD (pls:=r)
theorem yr{ns:List Str}:∀{pls:List Pl}{a b:Int}{kl:List Str}{x:Pl},oS ns a b kl pls->CB ns x.tr->xC ns x.tr (ma a b kl pls).1 (ma a b kl pls).2.1 (ma a b kl pls).2.2 x.kd->CC x.kd x.num->0<=x.i->((ma a b kl pls).2.2≠[]->j4 (ma a b kl pls).2.2 x.prs)->oS ns a b kl (pls++[x])
 |[],_,_,_,_,_,h1,h2,h3,h4,h5=>.cons h1 h2 h3 h4 h5 (.nil _ _ _)
 |_::_,_,_,_,_,.cons g1 g2 g3 g4 g5 g6,h1,h2,h3,h4,h5=>.cons g1 g2 g3 g4 g5 (yr g6 h1 h2 h3 h4 h5)
theorem Ol(kd:Str)(a b:Int)(kl:List Str)(i:Int):(cI kd a b kl i).2.2.length<=kl.length+1:=by
 unfold cI
 repeat' split
 all_goals (try rw[af])<;>simp
inductive FR(K:W.Frag)(vs:List V)(H:Hp)(Q:VK)(E:XK):Prop
 |mk(np l:Addr)(ns:List Str)(cs:List Int)(_:vs=[.ref np,.ref l])(_:H np=some (.tup (ns.map V.str)))(_:1<=ns.length)(_:ns.length<=8)(_:H l=some (.lst (cs.map V.int)))(_:cs.length<=90)(_:∀(p:Addr)(us:List V)(pls:List Pl)(J:Hp),bb H J->J p=some (.lst us)->Paired (iF p J) us pls->oS ns 0 0 [] pls->pls.length=cs.length->Q (.ref p) J)
theorem Bs(x:Str):∀ kl:List Str,sx (.str x) (kl.map V.str)=decide (x∈kl)
 |[]=>rfl
 | y::r=>by
  show(mn (.str y) (.str x)||sx (.str x) (r.map V.str))=_;rw[Bs x r]
  by_cases e:x=y
  .rw[cK (show x∈y::r by rw[e];exact qms),e]
   have:mn (.str y) (.str y)=true:=by simp[mn]
   rw[this];rfl
  have h:mn (.str y) (.str x)=false:=by simp[mn];exact fun z=>e z.symm
  rw[h,Bool.false_or]
  by_cases m:x∈r
  .rw[cK m,cK (k9 _ m)]
  rw[gS m,gS fun z=>(ai.mp z).elim e m]
theorem lZ(T:Txt P w K mg t):FM P w base T.q101 1 C5:=by
 refine T.q101.F.fq (N:=["_law_m"]) eM ?_;rintro nd _ _ _ _ _ _ _ _ hr ⟨m,rfl,k⟩;refine⟨_,(au (aC (cy bh (bz (aa az (aa az (aa az (aa az (aa az aj)))))) (aF cj (O 0) ak)))),?_⟩;have h0:=AU m (show(5:Int)≠0 by decide);have h1:=BM m (show(0:Int)<5 by decide);refine⟨lk obz,fun q hq=>⟨_,Z,_,_,Z,Z,(by show(0:Int)<5;decide),q,_,_,.str (cX m),Z,Z,b5.of ao,?_,k _ (aB hq)⟩⟩;have h:(m%5).toNat<WD.length:=by show(m%5).toNat<5;exact G
 obtain⟨n,hn⟩:∃ n:Nat,m%5=(n:Int):=⟨(m%5).toNat,G⟩
 have h:n<WD.length:=by show n<5;exact G
 show tw (WD.map V.str) _=_;unfold cX;rw[hn,bE];refine bu (j:=n) ?_;rw[kg,List.getD_eq_getElem?_getD,List.getElem?_eq_getElem h]
 rfl
theorem KN(T:Txt P w K mg t):FM P w base T.q102 1 FV:=by
 refine T.q102.F.fq (N:=["_law_m","_law_kept"]) eM ?_;rintro nd _ _ _ _ H _ _ _ hr ⟨l,m,kl,rfl,hl,hne,Co,hm,k⟩;refine⟨_,(au (aC (bT rfl ["_law_k","_law_kept","_law_m"] [none,some 1,some 0] (gK T.zr (aa (aF cO ak (aF cj (ko 0) ak)) aj)) gT (fun _ _ _ _ _ _=>(iP 0 (l8 (l:=["_law_k","_law_kept","_law_m"])))) (fun _ _ _ _ _ _=>bZ) (fun _ _ _ _ _ _=>(bj (aa (aF cO ak (aF cj (aF fP (ko 2) (aF cO (O 0) ak)) ak)) (aa (cy (Iv (K:=K)) (ko 1) (aF cj (aF fP (ko 2) (aF cO (aF gC ak (O 0)) ak)) (aZ (vP (K:=K)) T.zd Bt.len (aa (ko 1) aj)))) aj))))))),?_⟩;have a0:=AU m (show(4:Int)≠0 by decide);have a1:=BM m (show(0:Int)<4 by decide);have K2:0<kl.length:=vE.mpr hne;have el:(kl.map V.str).length=kl.length:=de _;refine⟨_,Z,_,_,Z,Z,(by show(0:Int)<4;decide),_,_,Z,Z,_,Z,by show(-(2^62):Int)<=1+m%4;exact G,by show(1+m%4:Int)<2^62;exact G,?_⟩;refine jP (lo:=0) (n:=(1+m%4).toNat) (fun i ys J=>bb H J/\∃ prs,Paired (uz J) ys prs/\prs.length=i/\∀ p∈prs,1<=p.1/\p.1<=1000003/\p.2∈kl) ⟨bb.refl _,[],.nil,rfl,fun p hp=>nomatch hp⟩ (lk G) (fun i ys J ⟨_,prs,e,e2,_⟩=>by rw[aT e,e2];exact qnr _) ?_ ?_
 .rintro i ys H1 hi ⟨s1,prs,hP,hlen,hok⟩
  refine⟨⟨Z,Z,trivial⟩,?_⟩;have b0:=AU (m/(5*(0+(i:Int))+2)) (show((kl.length:Nat):Int)≠0 by omega);have b1:=BM (m/(5*(0+(i:Int))+2)) (show(0:Int)<((kl.length:Nat):Int)by omega);obtain⟨n,hn⟩:∃ n:Nat,m/(5*(0+(i:Int))+2)%((kl.length:Nat):Int)=(n:Int):=⟨(m/(5*(0+(i:Int))+2)%((kl.length:Nat):Int)).toNat,G⟩
  have KP:n<kl.length:=G
  have c0:=AU (m/(0+(i:Int)+3)) (show(1000003:Int)≠0 by decide);have c1:=BM (m/(0+(i:Int)+3)) (show(0:Int)<1000003 by decide);refine⟨_,Z,_,Z,_,_,Z,Z,_,_,Z,Z,⟨by show(0:Int)<0+(i:Int)+3;exact G,by show 0+(i:Int)+3<1073741824;exact G⟩,_,_,Z,Z,(by show(0:Int)<1000003;decide),_,_,Z,Z,?_⟩;refine⟨_,Z,_,Z,_,Z,_,_,Z,Z,.inl ⟨b9,b9⟩,_,_,Z,Z,_,_,Z,Z,⟨by show(0:Int)<5*(0+(i:Int))+2;exact G,by show 5*(0+(i:Int))+2<1073741824;exact G⟩,_,Z,l,_,Z,.inl (b5.of (s1 _ _ hl)),_,_,Z,Z,(by show(0:Int)<(((kl.map V.str).length:Nat):Int);rw[el];exact G),l,_,_,.str kl[n],Z,Z,b5.of (s1 _ _ hl),?_,lk obz,fun q hq=>?_⟩
  .rw[el,hn]
   refine bu (j:=n) ?_;rw[kg,List.getElem?_eq_getElem KP]
   rfl
  have s2:=aB (o:=.tup [.int (1+m/(0+(i:Int)+3)%1000003),.str kl[n]]) hq;refine⟨s1.trans s2,prs++[(1+m/(0+(i:Int)+3)%1000003,kl[n])],bK (Paired.ib hP fun _ _ ⟨q,e,h⟩=>⟨q,e,s2 _ _ h⟩) (.cons ⟨q,Z,ao⟩ .nil),by rw[af,hlen];rfl,fun p hp=>?_⟩;rcases a_.mp hp with hp|hp
  .exact hok p hp
  rw[aI.mp hp];exact⟨by show 1<=1+m/(0+(i:Int)+3)%1000003;exact G,by show 1+m/(0+(i:Int)+3)%1000003<=1000003;exact G,fg KP⟩
 rintro ys H1 ⟨s1,prs,hP,hlen,hok⟩ p hp;have s2:=aB (o:=.lst ys) hp;exact k p ys prs _ (s1.trans s2) (s1.free hp) ao (Paired.ib hP fun _ _ ⟨q,e,h⟩=>⟨q,e,s2 _ _ h⟩) ⟨G,G,hok⟩
theorem Hl:ck ["_law_counts","_law_plan"] ["_law_counts","_law_plan"] (aP Jw):=eM
theorem Dz(T:Txt P w K mg t):FM P w base T.q103 2 BG:=by
 refine T.q103.F.fq (k:=1) Hl ?_;rintro nd _ _ _ _ H _ _ _ hr ⟨cl,q,e,a,b,i,kl,kd,u1,u2,u3,rfl,ED,he,Co,hq,AY,k⟩
 refine⟨_,(aq (aO (aG iD (cy aJ (O 1) ak) (bj (aa az (aa az (aa az (aa az aj))))) ou)
    (au (aC (bz (aa (aF cO (cy bh (O 0) ak) ak) (aa ak (aa (cy bh (O 0) ak) aj))))))
    aM)
   (aq (aO (aG aW (cy aJ (O 1) ak) az (aK _))
    (au (aC (bz (aa (aF cV (cy bh (O 0) ak) ak) (aa (aF cO (cy bh (O 0) ak) ak) (aa (cy bh (O 0) ak) aj))))))
    aM)
   (aq (aO (aG aW (cy aJ (O 1) ak) az (aK _))
    (au (aC (bz (aa (aF cO (cy bh (O 0) ak) ak) (aa (aF cV (cy bh (O 0) ak) ak) (aa (cy bh (O 0) ak) aj))))))
    aM)
   (aq (aO (PW.pt (gQ (aG aW (cy aJ (O 1) ak) az (aK _)) (gk (aG km (eK T.q101 (lZ T) hr aH (aa (cy aJ (O 1) ak) aj)) (cy bh (O 0) ak) ou))))
    (au (aC (bz (aa (cy bh (O 0) ak) (aa (cy bh (O 0) ak) (aa (aF oH (cy bh (O 0) ak) (bz (aa (eK T.q101 (lZ T) hr aH (aa (cy aJ (O 1) ak) aj)) aj))) aj))))))
    aM)
   (au (aC (O 0))))))),?_⟩
 have nK:sx (.str kd) [V.str "take",V.str "give",V.str "lean",V.str "pour"]=decide (kd∈(["take","give","lean","pour"]:List Str)):=gH (fun kd=>sx (.str kd) [V.str "take",V.str "give",V.str "lean",V.str "pour"]==decide (kd∈(["take","give","lean","pour"]:List Str))) dk AY |> eq_of_beq
 refine⟨_,Z,q,_,0,.str kd,Z,Z,SqT.of hq,bu (j:=0) rfl,lk obz,fun q1 hq1=>⟨q1,_,Z,.inr (SqT.of ao),Z,Z,?_⟩⟩;have s1:=aB (o:=.tup [.str "take",.str "give",.str "lean",.str "pour"]) hq1;generalize upd H q1 (.tup [.str "take",.str "give",.str "lean",.str "pour"])=H1 at s1 ⊢;have oy:=s1 _ _ ED;have xv:=s1 _ _ hq;have AZ:=s1 _ _ he;rw[bX ki,nK];unfold cI at k;refine⟨_,Z,aN (fun z=>?_) (fun z=>?_)⟩
 .rw[qp (eT z)]at k
  refine⟨_,Z,cl,_,0,_,Z,Z,b5.of oy,Z,_,_,Z,Z,_,Z,cl,_,2,_,Z,Z,b5.of oy,Z,lk obz,fun c2 ng=>?_⟩;exact k c2 e _ (s1.trans (aB ng)) ao (aB ng _ _ AZ) (.inr (s1.free ng)) (.inl rfl)
 rw[bX (fun h=>z (cK h))]at k;refine⟨_,Z,q,_,0,_,Z,Z,SqT.of xv,bu (j:=0) rfl,Z,_,Z,aN (fun z=>?_) (fun z=>?_)⟩
 .rw[qp (V.str.inj (eT z))]at k
  refine⟨_,Z,cl,_,0,_,Z,Z,b5.of oy,Z,_,_,Z,Z,_,Z,cl,_,1,_,Z,Z,b5.of oy,Z,_,_,Z,Z,_,Z,cl,_,2,_,Z,Z,b5.of oy,Z,lk obz,fun c2 ng=>?_⟩;exact k c2 e _ (s1.trans (aB ng)) ao (aB ng _ _ AZ) (.inr (s1.free ng)) (.inl rfl)
 rw[bX (fun h=>z (cK (by rw[h])))]at k;refine⟨_,Z,q,_,0,_,Z,Z,SqT.of xv,bu (j:=0) rfl,Z,_,Z,aN (fun z=>?_) (fun z=>?_)⟩
 .rw[qp (V.str.inj (eT z))]at k
  refine⟨_,Z,cl,_,0,_,Z,Z,b5.of oy,Z,_,_,Z,Z,_,Z,cl,_,1,_,Z,Z,b5.of oy,Z,_,_,Z,Z,_,Z,cl,_,2,_,Z,Z,b5.of oy,Z,lk obz,fun c2 ng=>?_⟩;exact k c2 e _ (s1.trans (aB ng)) ao (aB ng _ _ AZ) (.inr (s1.free ng)) (.inl rfl)
 rw[bX (fun h=>z (cK (by rw[h])))]at k;refine⟨_,Z,q,_,0,_,Z,Z,SqT.of xv,bu (j:=0) rfl,Z,_,Z,aN (fun z=>?_) (fun z=>bD ?_)⟩
 .have ek:kd="keep":=V.str.inj (eT z)
  refine⟨_,Z,q,_,4,_,Z,Z,SqT.of xv,bu (j:=4) rfl,i,Z,fun H2 s2=>?_⟩;refine⟨_,Z,cl,_,2,_,Z,Z,b5.of (s2 _ _ oy),Z,e,_,Z,.inl (b5.of (s2 _ _ AZ)),Z,tQ kl,_,Z,?_⟩;rw[qp rfl,Bs];refine aN (fun z=>?_) (fun z=>?_)
  .have z:¬cX i∈kl:=fun h=>by rw[cK h]at z;cases z
   rw[qp ⟨ek,z⟩]at k;refine⟨_,Z,cl,_,0,_,Z,Z,b5.of (s2 _ _ oy),Z,_,Z,cl,_,1,_,Z,Z,b5.of (s2 _ _ oy),Z,_,Z,cl,_,2,_,Z,Z,b5.of (s2 _ _ oy),Z,?_⟩;refine⟨_,Z,q,_,4,_,Z,Z,SqT.of (s2 _ _ xv),bu (j:=4) rfl,i,Z,fun H3 s3=>⟨lk obz,fun l1 qV=>?_⟩⟩;have s4:=aB (o:=.lst [.str (cX i)]) qV;refine⟨e,l1,_,_,Z,Z,s4 _ _ (s3 _ _ (s2 _ _ AZ)),ao,lk (by rw[de];show kl.length+1<=1000;exact G),fun e2 IH=>⟨lk obz,fun c2 ng=>?_⟩⟩;have s5:=aB (o:=.lst (kl.map V.str++[.str (cX i)])) IH;have s6:=aB (o:=.lst [.int a,.int b,.ref e2]) ng;have Me:=((s1.trans s2).trans s3).trans s4;exact k c2 e2 _ ((Me.trans s5).trans s6) ao (by rw[ay];exact s6 _ _ ao) (.inr ((Me.trans s5).free ng)) (.inr (Me.free IH))
  rw[bX (fun h=>z (by rw[gS h.2];rfl))]at k;exact⟨_,Z,k cl e _ (s1.trans s2) (s2 _ _ oy) (s2 _ _ AZ) (.inl rfl) (.inl rfl)⟩
 rw[bX (fun h=>z (cK (by rw[h.1])))]at k;exact⟨_,Z,k cl e _ s1 oy AZ (.inl rfl) (.inl rfl)⟩
theorem Om:ck ["_law_names","_law_cells","_law_plans","_law_counts","_law_k","_law_cell","_law_plan"] ["_law_names","_law_cells"] (aP Jx):=eM
theorem KQ(T:Txt P w K mg t):FM P w base T.q104 8 (FR K):=by
 refine T.q104.F.fq (k:=7) Om ?_;rintro nd _ _ _ _ H _ _ _ hr ⟨np,l,ns,cs,rfl,lS,h1,h8,hl,_d,k⟩;have hu:=eO hr
 refine⟨_,(aq (fR 2 nd (bz aj))
   (aq (fR 3 nd (bz (aa ak (aa ak (aa (bz aj) aj)))))
   (aq (eG kR rfl (Lq (O 1) T.zw) (jA (n:=2) rfl (bG (iP 4 nd) (bG (iP 5 nd) dO)))
    (aq (fR 6 nd (eK T.q100 (Oj T) hr aH (aa (O 0) (aa (O 5) (aa (O 4) (aa (O 3) aj))))))
    (aq (bw (b8 PySem.F.plainAttrs_list PySem.F.slot_list_append PySem.F.type_list_append cD (O 2) (aa (aF Mw (O 6) (bj (aa (eK T.q102 (KN T) hr aH (aa (cy aJ (O 6) ak) (aa (aF oH (cy bh (O 3) ak) (aF Ep (bz (aa az aj)) (dG uI T.zL Bt.int (aa (du (xx (kH hu)) (cy bh (O 3) ak) (bz aj) (aK _)) aj)))) aj))) aj))) aj)))
    (au (fR 3 nd (eK T.q103 (Dz T) hr aH (aa (O 3) (aa (O 6) aj))))))))
   (au (aC (O 2)))))),?_⟩
 refine⟨lk obz,fun pl ic=>⟨lk obz,fun e he=>⟨lk obz,fun cl ED=>?_⟩⟩⟩;have u1:=aB (o:=.lst []) ic;have u2:=aB (o:=.lst []) he;have u3:=aB (o:=.lst [.int 0,.int 0,.ref e]) ED;have s3:=(u1.trans u2).trans u3;have Sb:=u3 _ _ (u2 _ _ (show(upd H pl (.lst [])) pl=some (.lst [])from ao));have Z2:=u3 _ _ (show(upd (upd H pl (.lst [])) e (.lst [])) e=some (.lst [])from ao);have SV:(upd (upd (upd H pl (.lst [])) e (.lst [])) cl (.lst [.int 0,.int 0,.ref e])) cl=_:=ao;have npe:e≠pl:=aS (aD ao he);have npc:cl≠pl:=aS (aD (u2 _ _ ao) ED);generalize upd (upd (upd H pl (.lst [])) e (.lst [])) cl (.lst [.int 0,.int 0,.ref e])=H0 at s3 Sb Z2 SV ⊢;have SE:=s3 _ _ hl
 refine⟨_,rfl,l,rfl,⟨_,b5.of SE⟩,IV (K:=K) (a:=l) (xs:=cs.map V.int)
  (fun i M J=>E7 fun(o4 o5 o6:Option V)(cl e:Addr)(us:List V)(pls:List Pl)=>C11 (M=[some (.ref np),some (.ref l),some (.ref pl),some (.ref cl),o4,o5,o6]) (bb H J) (J pl=some (.lst us)) (J e=some (.lst ((ma 0 0 [] pls).2.2.map V.str))) (J cl=some (.lst [.int (ma 0 0 [] pls).1,.int (ma 0 0 [] pls).2.1,.ref e])) (cl≠pl) (e≠pl) (Paired (iF pl J) us pls) (oS ns 0 0 [] pls) (pls.length=i) ((ma 0 0 [] pls).2.2.length<=i))
  ⟨none,none,none,cl,e,[],[],rfl,s3,Sb,Z2,SV,npc,npe,.nil,.nil _ _ _,rfl,qnr _⟩ (fun i M J _ ⟨_,_,_,_,_,_,_,_,s',_,_,_,_,_,_,_,_,_⟩=>b5.of (s' _ _ hl)) ?_ ?_⟩
 .rintro i y M H1 hi ⟨o4,o5,o6,cl,e,us,pls,rfl,s1,hp1,AZ,y7,Xo,Xk,hP,hok,hlen,K2⟩ d hd
  have hi90:i<90:=by
   have:=(List.getElem?_eq_some_iff.mp hi).1;rw[de]at this;exact G
  rw[kg]at hi
  obtain⟨c,hc,rfl⟩:∃ c,cs[i]?=some c/\y=V.int c:=by
   cases q:cs[i]? with
   |none=>rw[q]at hi;cases hi
   |some c=>rw[q]at hi;exact⟨c,Z,(kK hi).symm⟩
  obtain⟨a,ha⟩:∃ a,(ma 0 0 [] pls).1=a:=⟨_,rfl⟩
  obtain⟨b,hb⟩:∃ b,(ma 0 0 [] pls).2.1=b:=⟨_,rfl⟩
  obtain⟨kl,hk⟩:∃ kl,(ma 0 0 [] pls).2.2=kl:=⟨_,rfl⟩
  rw[ha,hb]at y7;rw[hk]at AZ K2;have v1:=aB (o:=.tup [.int i,.int c]) hd;refine⟨d,_,Z,SqT.of ao,Z,_,_,Z,_,_,Z,Z,?_⟩;generalize upd H1 d (.tup [.int i,.int c])=H2 at v1 ⊢;refine⟨_,Z,_,Z,_,Z,_,Z,np,cl,e,ns,kl,c,i,a,b,Z,v1 _ _ (s1 _ _ lS),h1,h8,G,G,v1 _ _ y7,v1 _ _ AZ,fun q vt vo tr kd num m5 H3 s3 hq ht hT hV hN OU=>?_⟩;have v3:=v1.trans s3;have tS:us.length=i:=by rw[aT hP,hlen]
  refine⟨_,Z,.inl ⟨Z,_,b5.of (v3 _ _ hp1)⟩,_,Z,_,Z,q,_,4,_,Z,Z,SqT.of hq,Z,_,Z,cl,_,2,_,Z,Z,b5.of (v3 _ _ y7),Z,lk obz,fun la W8=>?_⟩;have v4:=aB (o:=.lst [.str "a"]) W8;refine⟨_,Z,cl,_,2,_,Z,Z,b5.of (v4 _ _ (v3 _ _ y7)),Z,lk obz,fun lb hlb=>?_⟩;have v5:=aB (o:=.lst []) hlb
  obtain⟨z,ex,hz,hz0,UQ,WM,OS,hex,OK⟩:∃(z:Int) (ex:List Str),(if id (kl.map V.str).isEmpty=true then(1:Int)else 0)=z/\0<=z/\z<=1/\(List.replicate z.toNat [V.str "a"]).flatten=ex.map V.str/\kl++ex≠[]/\(kl≠[]->ex=[])/\ex.length<=1:=by
   cases kl with
   |nil=>exact⟨1,["a"],Z,b9,b9,Z,da _ _,fun z=>absurd rfl z,qnr _⟩
   |cons x r=>exact⟨0,[],Z,b9,b9,Z,(fun z=>nomatch z),(fun _=>rfl),mi _⟩
  refine⟨e,lb,_,Z,Z,b5.of (v5 _ _ (v4 _ _ (v3 _ _ AZ))),b5.of ao,.inr ⟨_,Z,la,z,_,Z,b4 V.int hz,v5 _ _ ao,G,G,lk (by show 1*z.toNat<=1000;exact G),fun lc yT=>?_⟩⟩;rw[WM]at *;have v6:=aB (o:=.lst (ex.map V.str)) yT;refine⟨e,lc,_,_,Z,Z,v6 _ _ (v5 _ _ (v4 _ _ (v3 _ _ AZ))),ao,lk (by rw[de,de];exact G),fun ld U_=>?_⟩;have v7:=aB (o:=.lst (kl.map V.str++ex.map V.str)) U_;refine⟨ld,m5,kl++ex,Z,by rw[ay];exact ao,OS,by rw[af];exact G,OU,fun pa ws prs H4 s4 UZ KO pk B_=>⟨lk obz,fun qe hqe=>?_⟩⟩;have v8:=aB (o:=.tup [.ref pa]) hqe;have w3:bb H3 _:=((v4.trans v5).trans v6).trans v7;have w4:=w3.trans s4;have w5:=w4.trans v8;refine⟨q,qe,_,_,Z,Z,SqT.of (w5 _ _ hq),SqT.of ao,da _ _,lk obz,(fun z=>absurd z (da _ _)),fun _ qf hqf=>?_⟩;have v9:=aB (o:=.tup ([.str kd,.int num,vt,vo,.int m5]++[.ref pa])) hqf;have w6:=w5.trans v9;have Zb:=v8.trans v9;have RS:(upd (upd H4 qe (.tup [.ref pa])) qf (.tup ([.str kd,.int num,vt,vo,.int m5]++[.ref pa]))) qf=some (.tup [.str kd,.int num,vt,vo,.int m5,.ref pa]):=ao;have Se:=Zb _ _ KO;have KL:Paired (uz (upd (upd H4 qe (.tup [.ref pa])) qf (.tup ([.str kd,.int num,vt,vo,.int m5]++[.ref pa])))) ws prs:=Paired.ib pk fun _ _ ⟨q,e,h⟩=>⟨q,e,Zb _ _ h⟩
  have npa:pa≠pl:=aS (aD (w3 _ _ (v3 _ _ hp1)) UZ);generalize upd (upd H4 qe (.tup [.ref pa])) qf (.tup ([.str kd,.int num,vt,vo,.int m5]++[.ref pa]))=H5 at w6 RS Se KL ⊢;have x5:=v3.trans w6;have U0:=x5 _ _ hp1;refine⟨pl,_,_,Z,Z,U0,cM G,?_⟩;have T5:fF H5 (upd H5 pl (.lst (us++[.ref qf]))):=fun b xs eb=>by rw[aA (aY eb U0)];exact eb
  have Z4:(upd H5 pl (.lst (us++[.ref qf]))) cl=some (.lst [.int a,.int b,.ref e]):=by rw[aA Xo];exact x5 _ _ y7
  have Z1:(upd H5 pl (.lst (us++[.ref qf]))) e=some (.lst (kl.map V.str)):=by rw[aA Xk];exact x5 _ _ AZ
  have UY:(upd H5 pl (.lst (us++[.ref qf]))) q=some (.tup [.str kd,.int num,vt,vo,.int m5]):=T5 _ _ (w6 _ _ hq);have OP:(upd H5 pl (.lst (us++[.ref qf]))) pl=some (.lst (us++[.ref qf])):=ao;have s6:bb H (upd H5 pl (.lst (us++[.ref qf]))):=fun b o eb=>by rw[aA (aD eb ic)];exact x5 _ _ (s1 _ _ eb)
  have Z8:Paired (iF pl (upd H5 pl (.lst (us++[.ref qf])))) (us++[.ref qf]) (pls++[⟨kd,num,tr,m5,prs⟩]):=bK (Paired.ib hP fun _ _ z=>(z.mono x5).upd U0) (.cons (iF.upd U0 ⟨qf,pa,vt,vo,ws,rfl,RS,ht.mono w6.tups,Se,KL,npa⟩) .nil);generalize upd H5 pl (.lst (us++[.ref qf]))=H6 at Z4 Z1 UY OP s6 Z8 ⊢;refine⟨_,Z,_,Z,cl,q,e,a,b,m5,kl,kd,_,_,_,Z,Z4,Z1,G,UY,hV.mem,fun Pe e' H7 s7 hc7 he7 Xh Xj=>?_⟩;have ee:ma 0 0 [] (pls++[⟨kd,num,tr,m5,prs⟩])=cI kd a b kl m5:=by rw[vD,ha,hb,hk]
  refine⟨_,_,_,Pe,e',us++[.ref qf],pls++[⟨kd,num,tr,m5,prs⟩],Z,s6.trans s7,s7 _ _ OP,by rw[ee];exact he7,by rw[ee];exact hc7,?_,?_,Paired.ib Z8 fun _ _ z=>z.mono s7,?_,by rw[af,hlen];rfl,?_⟩
  .rcases Xh with z|z
   .rw[z];exact Xo
   exact aS (aD OP z)
  .rcases Xj with z|z
   .rw[z];exact Xk
   exact aS (aD OP z)
  .refine yr hok hT ?_ hN OU ?_
   .rw[ha,hb,hk];exact hV
   rw[hk];intro hne;rw[hex hne,c_]at B_;exact B_
  rw[ee];have:=Ol kd a b kl m5;exact G
 rintro M H1 ⟨o4,o5,o6,cl,e,us,pls,rfl,s1,hp1,AZ,y7,Xo,Xk,hP,hok,hlen,_⟩;rw[de]at hlen;exact⟨_,Z,k pl us pls H1 s1 hp1 hP hok hlen⟩
theorem rG{c:Nat}:∀{u:List Nat},c∉u->∀ v,cT c (u++c::v)=u/\cJ c (u++c::v)=v
 |[],_,v=>⟨qp rfl,qp rfl⟩
 | d::u,h,v=>by
  have hd:¬d=c:=fun e=>h (by rw[e];exact qms)
  obtain⟨h1,h2⟩:=rG (u:=u) (fun z=>h (k9 _ z)) v;refine⟨?_,?_⟩
  .show(if d=c then []else d::cT c (u++c::v))=_
   rw[bX hd,h1]
  show(if d=c then _ else cJ c (u++c::v))=_;rw[bX hd,h2]
theorem rH{c:Nat}:∀{u:List Nat},c∉u->cT c u=u/\cJ c u=[]
 |[],_=>⟨rfl,rfl⟩
 | d::u,h=>by
  have hd:¬d=c:=fun e=>h (by rw[e];exact qms)
  obtain⟨h1,h2⟩:=rH (u:=u) (fun z=>h (k9 _ z));refine⟨?_,?_⟩
  .show(if d=c then []else d::cT c u)=_
   rw[bX hd,h1]
  show(if d=c then _ else cJ c u)=_;rw[bX hd,h2]
theorem DG{l:List Nat}(h:¬l.head?=some 32):l.dropWhile (· == 32)=l:=by
 cases l with
 |nil=>rfl
 | cons c l =>
  rw[List.dropWhile_cons,bX];intro e;exact h (by rw[List.head?_cons,eq_of_beq e])
theorem yu{l:List Nat}(h:x.cps.toList=l):lA l=x:=lB (by rw[GX,h])
theorem Bu:(" ":Str).cps.toList=[32]:=by rw[pG]
theorem gJ{u v:Str}(h:32∉u.cps.toList)(hv:¬v.cps.toList.head?=some 32):cQ (u++" "++v)=u/\bY (u++" "++v)=v:=by
 have e:(u++" "++v:Str).cps.toList=u.cps.toList++32::v.cps.toList:=by
  rw[cW,cW,Bu];simp
 unfold cQ bY;rw[e,(rG h _).1,(rG h _).2,DG hv];exact⟨yu rfl,yu rfl⟩
theorem Hm{u:Str}(h:32∉u.cps.toList):cQ u=u/\bY u="":=by
 unfold cQ bY;rw[(rH h).1,(rH h).2];exact⟨yu rfl,Z⟩
structure Clean(p:Str):Prop where
 nl:10∉p.cps.toList
 hd:∃ c,p.cps.toList.head?=some c/\¬c=32
 la:∃ c,p.cps.toList.getLast?=some c/\¬c=32
theorem Clean.wc{p:Str}(h:Clean p):¬p.cps.toList.head?=some 32:=by
 obtain⟨c,e,hc⟩:=h.hd;rw[e];exact fun z=>hc (kK z)
theorem Ad{p:Str}(h:Clean p):lC p=p:=by
 refine lB ?_;unfold lC;rw[pG,M8,DG h.wc]
 have:¬p.cps.toList.reverse.head?=some 32:=by
  obtain⟨c,e,hc⟩:=h.la;rw[List.head?_reverse,e];exact fun z=>hc (kK z)
 rw[DG this,fo]
theorem KR{p:Str}(h:Clean p):¬p="":=fun e=>by
 obtain⟨c,e',_⟩:=h.hd;rw[e]at e';have:("":Str).cps.toList=[]:=by decide +kernel
 rw[this]at e';cases e'
theorem Oo{xs ys:List Str}(h:xs.map (·.cps.toList)=ys.map (·.cps.toList)):xs=ys:=by
 induction xs generalizing ys with
 | nil=>cases ys with
  |nil=>rfl
  |cons y ys=>cases h
 | cons x xs ih=>cases ys with
  |nil=>cases h
  | cons y ys =>
   rw[b6,b6,List.cons.injEq]at h;rw[lB h.1,ih h.2]
theorem nG(c:Nat)(hne:ps≠[])(h:∀ p∈ps,c∉p.cps.toList):Txt.split (Txt.join ⟨#[c]⟩ ps) ⟨#[c]⟩=ps:=by
 have e:Txt.join ⟨#[c]⟩ ps=Str.join ⟨#[c]⟩ ps:=i8 _ _;refine Oo ?_;rw[M9,e,mD c ps hne h]
theorem Oq(hne:ps≠[])(h:∀ p∈ps,Clean p):qg (Txt.join "\n" ps)=ps.zipIdx.map fun(x:Str×Nat)=>(x.2,x.1):=by
 have e:Txt.split (Txt.join "\n" ps) "\n"=ps:=by
  rw[QG];exact nG 10 hne fun p hp=>(h p hp).nl
 unfold qg gZ;rw[e]
 have e2:(ps.zipIdx.map fun p=>(p.2,lC p.1))=ps.zipIdx.map fun(x:Str×Nat)=>(x.2,x.1):=eS fun x hx=>by
  have hm:x.1∈ps:=by
   have:=List.mem_zipIdx hx;rw[this.2.2];exact fg _
  rw[Ad (h _ hm)]
 rw[e2,vF];intro r hr;obtain⟨x,hx,rfl⟩:=cb.mp hr
 have hm:x.1∈ps:=by
  have:=List.mem_zipIdx hx;rw[this.2.2];exact fg _
 show(!decide (x.1=""))=true;rw[gS (KR (h _ hm))]
 rfl
theorem fY{u v:Str}(h1:10∉u.cps.toList)(h2:∃ c,u.cps.toList.head?=some c/\¬c=32)(hv:Clean v):Clean (u++" "++v):=by
 have e:(u++" "++v:Str).cps.toList=u.cps.toList++32::v.cps.toList:=by
  rw[cW,cW,Bu];simp
 refine⟨?_,?_,?_⟩
 .rw[e]
  intro z;rcases a_.mp z with z|z
  .exact h1 z
  rcases ai.mp z with z|z
  .exact absurd z b9
  exact hv.nl z
 .obtain⟨c,h,hc⟩:=h2
  refine⟨c,?_,hc⟩;rw[e];cases hu:u.cps.toList with
  |nil=>rw[hu]at h;cases h
  |cons d r=>rw[hu]at h;exact h
 obtain⟨c,h,hc⟩:=hv.la;refine⟨c,?_,hc⟩;rw[e,List.getLast?_append,List.getLast?_cons];rw[h]
 rfl
theorem pK(h:isName x=true)(hc:dj c=false):c∉x.cps.toList:=fun z=>by
 unfold isName at h;have:dj c=true:=bP.mp (bS.mp h).2 c z;rw[hc]at this;cases this
theorem words_of(hne:ns≠[])(h:∀ n∈ns,isName n=true):b7 (Txt.join " " ns)=ns:=by
 have hb:∀ n∈ns,32∉n.cps.toList/\¬n="":=fun n hn=>by
  have:=h n hn;refine⟨fun z=>?_,fun z=>?_⟩
  .exact pK this (c:=32) b9 z
  rw[z]at this;exact absurd this dk
 unfold b7
 have e:Txt.split (Txt.join " " ns) " "=ns:=by
  rw[pG];exact nG 32 hne fun p hp=>(hb p hp).1
 rw[e,vF];intro n hn;rw[gS (hb n hn).2]
 rfl
def dg:Nat->Nat->List Nat
 | 0,n=>[48+n%10]
 |k+1,n=>if n<10 then [48+n]else dg k (n/10)++[48+n%10]
theorem uA:∀ d:Nat,d<10->(Nat.digitChar d).toNat=48+d:=by decide
theorem rJ:∀(k n:Nat),n<10^(k+1)->(Nat.toDigits 10 n).map Char.toNat=dg k n
 | 0,n,h=>by
  have h:n<10:=h;rw[p9 h];show [(Nat.digitChar n).toNat]=[48+n%10]
  rw[uA n h,CH h]
 | k + 1,n,h=>by
  show _=if n<10 then [48+n]else dg k (n/10)++[48+n%10]
  by_cases hn:n<10
  .rw[qp hn,p9 hn]
   show [(Nat.digitChar n).toNat]=_;rw[uA n hn]
  rw[bX hn]
  have h1:n/10<10^(k+1):=by
   rw[sR b9,<- g_];exact h
  have h2:n%10<10:=Nat.mod_lt _ b9;have h3:0<n/10:=G
  have e:10*(n/10)+n%10=n:=r6 n 10;have:=Nat.toDigits_append_toDigits (b:=10) (n:=n/10) (d:=n%10) b9 h3 h2;rw[e]at this;rw[<- this,ay,rJ k _ h1,p9 h2];show _++[(Nat.digitChar (n%10)).toNat]=_;rw[uA _ h2]
theorem yw:∀(k n:Nat),n<10^(k+1)->gf (dg k n)=n
 | 0,n,h=>by
  have h:n<10:=h;show 0*10+(48+n%10-48)=n;rw[CH h];exact G
 | k + 1,n,h=>by
  show gf (if n<10 then [48+n]else dg k (n/10)++[48+n%10])=n
  by_cases hn:n<10
  .rw[qp hn]
   show 0*10+(48+n-48)=n;exact G
  rw[bX hn]
  have h1:n/10<10^(k+1):=by
   rw[sR b9,<- g_];exact h
  unfold gf;rw[om];show gf (dg k (n/10))*10+(48+n%10-48)=n;rw[yw k _ h1];exact G
theorem jo:∀(k n:Nat),1<=(dg k n).length /\ (dg k n).length <= k+1
 | 0,n=>⟨qnr _,qnr _⟩
 | k+1,n=>by
  have:=jo k (n/10);show 1<=(if n<10 then [48+n]else dg k (n/10)++[48+n%10]).length /\ (if n<10 then [48+n]else dg k (n/10)++[48+n%10]).length <= k+1+1
  split
  .exact⟨qnr _,oz⟩
  rw[af];show 1<=_+1/\_+1<=_;exact G
theorem nH:∀(k n:Nat),∀ c∈dg k n,48<=c/\c<=57
 | 0,n=>fun c hc=>by
  have hc:c=48+n%10:=aI.mp hc;exact G
 | k + 1,n=>fun c hc=>by
  have hc:c∈(if n<10 then [48+n]else dg k (n/10)++[48+n%10]):=hc
  split at hc
  .have:=aI.mp hc
   exact G
  rcases a_.mp hc with hc|hc
  .exact nH k _ c hc
  have:=aI.mp hc;exact G
theorem vG:∀(k n:Nat),0<n->n<10^(k+1)->∃ c r,dg k n=c::r/\¬c=48
 | 0,n,h0,h=>⟨48+n%10,[],rfl,by have h:n<10:=h;rw[CH h];exact G⟩
 | k + 1,n,h0,h=>by
  show ∃ c r,(if n<10 then [48+n]else dg k (n/10)++[48+n%10])=c::r/\¬c=48
  split
  .exact⟨48+n,[],Z,G⟩
  have h1:n/10<10^(k+1):=by
   rw[sR b9,<- g_];exact h
  obtain⟨c,r,e,hc⟩:=vG k (n/10) G h1;exact⟨c,r++[48+n%10],by rw[e];rfl,hc⟩
def DK(n:Nat):List Nat:=dg 29 n
def cU(i:Int):Str:=((toString i:String):Str)
theorem lD(h:n<10^30):(cU (n:Int)).cps.toList=DK n:=by
 show(Str.ofString (toString (n:Int))).cps.toList=_;rw[Str.ofString_eq_toList];show((toString (n:Int)).toList.map Char.toNat)=_;have e:toString (n:Int)=String.ofList (Nat.toDigits 10 n):=rfl;rw[e,String.toList_ofList];exact rJ 29 n h
theorem rK(h:n+1<10^30):(cU (-((n+1:Nat):Int))).cps.toList=45::DK (n+1):=by
 show(Str.ofString (toString (-((n+1:Nat):Int)))).cps.toList=_;rw[Str.ofString_eq_toList];show((toString (-((n+1:Nat):Int))).toList.map Char.toNat)=_;have e:toString (-((n+1:Nat):Int))="-"++String.ofList (Nat.toDigits 10 (n+1)):=rfl;rw[e,String.toList_append,ay,String.toList_ofList (l:=Nat.toDigits 10 (n+1)),rJ 29 (n+1) h]
 rfl
theorem nJ(hx:x.cps.toList=DK n)(h:n<10^30):gw x=true/\gf x.cps.toList=n:=by
 have hl:=jo 29 n;have hf:=nH 29 n;have el:x.length=x.cps.toList.length:=ax.symm;have CU:x.cps.toList.length=(dg 29 n).length:=by rw[hx];rfl
 refine⟨?_,by rw[hx];exact yw 29 n h⟩;unfold gw;rw[cK (show(1:Int)<=(x.length:Int)by omega),cK (show(x.length:Int)<=30 by omega)]
 have ha:x.cps.toList.all gM=true:=by
  rw[bP,hx];intro c hc;have:=hf c hc;unfold gM;rw[cK this.1,cK this.2]
  rfl
 rw[ha];show(!(decide (x.cps.toList.head?=some 48) && !decide (x="0")))=true
 by_cases h0:n=0
 .have ex:x="0":=lB (by rw[hx,h0,jJ];decide)
  rw[cK ex];simp
 obtain⟨c,r,e,hc⟩:=vG 29 n G h
 have:¬x.cps.toList.head?=some 48:=by
  rw[hx];show ¬(dg 29 n).head?=some 48;rw[e];exact fun z=>hc (kK z)
 rw[gS this]
 rfl
theorem yx{r:List Nat}(h:x.cps.toList=45::r):Txt.startswith x "-"=true:=by
 have e:("-":Str)=⟨#[45]⟩:=by decide +kernel
 rw[e];obtain⟨h1,h2⟩:=(l7 x 45 0).mpr (by rw[h];rfl);exact bS.mpr ⟨cK h1,h2⟩
theorem Hn(h:¬x.cps.toList.head?=some 45):¬Txt.startswith x "-"=true:=by
 have e:("-":Str)=⟨#[45]⟩:=by decide +kernel
 rw[e];intro z;obtain⟨z1,z2⟩:=bS.mp z;have:=(l7 x 45 0).mp ⟨eT z1,z2⟩;exact h (by rw[List.head?_eq_getElem?];exact this)
theorem Ot(x:Str):(dY x (some 1) none).cps.toList=x.cps.toList.drop 1:=by
 rw[fK];have e:x.length=x.cps.toList.length:=ax.symm;rw[e];generalize x.cps.toList=l;cases l with
 |nil=>rfl
 |cons c r=>simp[HT.fN]
theorem vH(h0:0<n)(h:n<10^30):cL (cU (n:Int))=.int (n:Int):=by
 obtain⟨h1,h2⟩:=nJ (lD h) h;unfold cL;rw[qp h1,h2,bX G]
theorem Ho{i:Int}(h1 : -(10^30)<i)(h2:i<10^30):lY (cU i)=.int i:=by
 unfold lY;rcases AG i 0 with hi|hi
 .obtain⟨n,rfl⟩:∃ n:Nat,i = -((n+1:Nat):Int):=⟨(-i).toNat-1,G⟩
  have hn:n+1<10^30:=G
  have e:=rK hn;have hs:Txt.startswith (cU (-((n+1:Nat):Int))) "-"=true:=yx e;rw[qp hs];have ec:(dY (cU (-((n+1:Nat):Int))) (some 1) none).cps.toList=DK (n+1):=by rw[Ot,e];rfl
  obtain⟨q1,q2⟩:=nJ ec hn;unfold cL;rw[qp q1,q2,bX G]
  rfl
 obtain⟨n,rfl⟩:∃ n:Nat,i=(n:Int):=⟨i.toNat,G⟩
 have hn:n<10^30:=G
 obtain⟨q1,q2⟩:=nJ (lD hn) hn
 have hs:¬Txt.startswith (cU (n:Int)) "-"=true:=Hn (by
  rw[lD hn];have hf:=nH 29 n;have hl:=jo 29 n;show ¬(dg 29 n).head?=some 45;cases hq:dg 29 n with
  |nil=>rw[hq]at hl;exact absurd hl.1 b9
  | cons c r =>
   have:=hf c (by rw[hq];exact qms);intro z;have:=kK z
   exact G)
 rw[bX hs];unfold rE;rw[qp q1,q2]
def HG:Op->Str
 | .and => "&"
 | .or => "|"
 | .thn => ">"
 | .same => "="
def OH:Op->Nat
 | .and=>38
 | .or=>124
 | .thn=>62
 | .same=>61
theorem DN(o:Op):HG o=⟨#[OH o]⟩:=by cases o<;>decide +kernel
theorem yz(o:Op):cN (HG o):=by
 cases o
 .exact .inl rfl
 .exact .inr (.inl rfl)
 .exact .inr (.inr (.inl rfl))
 exact .inr (.inr (.inr rfl))
theorem QS(o:Op):pB (HG o)=o:=by cases o<;>decide +kernel
def wrT:Tr->Str
 | .nm x=>x
 | .yes => "1"
 | .no => "0"
 | .not a => "~"++wrT a
 | .bin o a b => "("++wrT a++" "++HG o++" "++wrT b++")"
def eF(t:Tr):Prop:=∀ x∈t.names,isName x=true
theorem mU(a:Tr):(wrT (.not a)).cps.toList=126::(wrT a).cps.toList:=by
 show("~"++wrT a:Str).cps.toList=_;rw[cW,yh]
 rfl
theorem mV(o:Op)(a b:Tr):(wrT (.bin o a b)).cps.toList=40::(((wrT a).cps.toList++[32])++OH o::(32::(wrT b).cps.toList))++[41]:=by
 show("("++wrT a++" "++HG o++" "++wrT b++")":Str).cps.toList=_;rw[cW,cW,cW,cW,cW,cW,yg,Bq,N5,DN];simp
theorem mj:∀{tr:Tr},eF tr->∃ ws,dJ (wrT tr).cps.toList ws/\Wr 5 tr ws
 | .nm x,h=>by
  have hx:=h x qms;exact⟨[x],NZ hx,.leaf (GR hx) (by rw[yh];exact p8 hx b9) (by rw[yg];exact p8 hx b9)⟩
 | .yes,_=>⟨[⟨#[49]⟩],by show dJ ("1":Str).cps.toList _;rw[nC];exact Bp ⟨b9,b9⟩,by rw[<- nC];exact .leaf (by unfold gr;rw[qp rfl]) dk dk⟩
 | .no,_=>⟨[⟨#[48]⟩],by show dJ ("0":Str).cps.toList _;rw[jJ];exact Bp ⟨b9,b9⟩,by rw[<- jJ];exact .leaf (by unfold gr;rw[bX dk,qp rfl]) dk dk⟩
 | .not a,h=>by
  obtain⟨ws,h1,h2⟩:=mj (tr:=a) h;refine⟨⟨#[126]⟩:: ws,?_,?_⟩
  .rw[mU]
   exact GP ⟨b9,b9⟩ h1
  rw[<- yh];exact .not h2
 | .bin o a b,h=>by
  obtain⟨w1,h1,h2⟩:=mj (tr:=a) fun x hx=>h x (xi _ hx)
  obtain⟨w2,h3,h4⟩:=mj (tr:=b) fun x hx=>h x (pd _ hx)
  have ho:isSign (OH o):=by cases o<;>exact⟨b9,b9⟩
  refine⟨⟨#[40]⟩:: ((w1++HG o::w2)++[⟨#[41]⟩]),?_,?_⟩
  .rw[mV,DN]
   refine NT (ws:=⟨#[40]⟩:: (w1++⟨#[OH o]⟩:: w2)) ⟨b9,b9⟩ ?_;exact GP ⟨b9,b9⟩ (QD ho (GQ h1) (Ka h3))
  rw[<- yg,<- Bq];have hb:=xZ (yz o);have:=Wr.bin (n:=0) (yz o) (by have:=QB (yz o);exact G) ⟨G,fun _=>G⟩ ⟨G,fun _=>G⟩ h2 h4;rw[QS]at this;exact .bra this
def HI(c:Nat):Prop:=dj c=true\/c=49\/c=48\/c=126\/c=40\/c=41\/c=32\/c=38\/c=124\/c=62\/c=61
theorem lE:∀{tr:Tr},eF tr->∀ c∈(wrT tr).cps.toList,HI c
 | .nm x,h,c,hc=>by
  have hx:=h x qms;unfold isName at hx;exact .inl (bP.mp (bS.mp hx).2 c hc)
 | .yes,_,c,hc=>by
  have hc:c∈("1":Str).cps.toList:=hc;rw[nC]at hc;exact .inr (.inl (aI.mp hc))
 | .no,_,c,hc=>by
  have hc:c∈("0":Str).cps.toList:=hc;rw[jJ]at hc;exact .inr (.inr (.inl (aI.mp hc)))
 | .not a,h,c,hc=>by
  rw[mU]at hc;rcases ai.mp hc with rfl|hc
  .simp[HI]
  exact lE (tr:=a) h c hc
 | .bin o a b,h,c,hc=>by
  rw[mV]at hc;have ho:HI (OH o):=by cases o<;>simp[HI,OH]
  simp only[a_,ai,p_,or_false,i']at hc;rcases hc with rfl | ((hc|rfl) | (rfl | (rfl|hc)))|rfl
  .simp[HI]
  .exact lE (tr:=a) (fun x hx=>h x (xi _ hx)) c hc
  .simp[HI]
  .exact ho
  .simp[HI]
  .exact lE (tr:=b) (fun x hx=>h x (pd _ hx)) c hc
  simp[HI]
theorem yC(h:HI c):¬c=10/\¬c=58/\c<16^8:=by
 have e:16^8=4294967296:=by decide
 rcases h with h|h|h|h|h|h|h|h|h|h|h
 .unfold dj at h
  obtain⟨h1,h2⟩:=bS.mp h;have h1:=eT h1;have h2:=eT h2;exact G
 all_goals omega
def iZ:Nat->Nat
 | 0=>0
 | 1=>8
 |d+2=>2*iZ (d+1)+5
theorem vI:∀ d,1<=d->8<=iZ d
 | 1,_=>qnr _
 | d+2,_=>by
  have:=vI (d+1) G;show 8<=2*iZ (d+1)+5;exact G
theorem jb:∀{d e:Nat},d<=e->iZ d<=iZ e
 | 0,e,_=>mi _
 | 1,e,h=>vI e h
 |d+2,0,h=>absurd h G
 |d+2,1,h=>absurd h G
 | d+2,e+2,h=>by
  have:=jb (d:=d+1) (e:=e+1) G;show 2*iZ (d+1)+5<=2*iZ (e+1)+5;exact G
theorem pL:∀{tr:Tr},eF tr->(wrT tr).cps.toList.length<=iZ tr.depth
 | .nm x,h=>by
  have hx:=h x qms;unfold isName at hx;have:=eT (bS.mp (bS.mp hx).1).2;have e:x.length=x.cps.toList.length:=ax.symm;show x.cps.toList.length<=8;exact G
 | .yes,_=>by
  show("1":Str).cps.toList.length<=8;rw[nC]
  decide
 | .no,_=>by
  show("0":Str).cps.toList.length<=8;rw[jJ]
  decide
 | .not a,h=>by
  have:=pL (tr:=a) h;have hp:=a.ll;obtain⟨d,hd⟩:∃ d,a.depth=d+1:=⟨a.depth-1,G⟩
  have e:(Tr.not a).depth=d+2:=by show a.depth+1=_;exact G
  rw[mU,e];rw[hd]at this;show(wrT a).cps.toList.length+1<=2*iZ (d+1)+5;exact G
 | .bin o a b,h=>by
  have h1:=pL (tr:=a) fun x hx=>h x (xi _ hx)
  have h2:=pL (tr:=b) fun x hx=>h x (pd _ hx)
  have hp:=a.ll;obtain⟨d,hd⟩:∃ d,max a.depth b.depth=d+1:=⟨max a.depth b.depth-1,G⟩
  have e:(Tr.bin o a b).depth=d+2:=by show max a.depth b.depth+1=_;exact G
  rw[mV,e];have m1:=jb (d:=a.depth) (e:=d+1) G;have m2:=jb (d:=b.depth) (e:=d+1) G;simp only[af,ba,r_];show _<=2*iZ (d+1)+5;exact G
theorem Ou(h:eF tr)(hd:tr.depth<=40)(hl:(wrT tr).cps.toList.length<=200):Po (wrT tr) tr:=by
 have e:(wrT tr).length=(wrT tr).cps.toList.length:=ax.symm;obtain⟨ws,h1,h2⟩:=mj h;refine⟨g9 G (show 200<=sizeLine by decide),fun c hc=>(yC (lE h c hc)).2.2,?_⟩;unfold wA;rw[bX G,yf h1,NQ h2];show(if 40<tr.depth then Out.deep else Out.tree tr)=_;rw[bX G]
theorem KY{l:List Nat}(h1:l≠[])(h2:∀ c∈l,dj c=true):∃ c,l.getLast?=some c/\¬c=32:=by
 refine⟨l.getLast h1,List.getLast?_eq_some_getLast h1,fun z=>?_⟩;have:=h2 _ (List.getLast_mem h1);rw[z]at this;exact absurd this b9
theorem Bv:∀{tr:Tr},eF tr->∃ c,(wrT tr).cps.toList.getLast?=some c/\¬c=32
 | .nm x,h=>by
  have hx:=h x qms;unfold isName at hx;obtain⟨h1,h2⟩:=bS.mp hx;have h1:=eT (bS.mp h1).1;have e:x.length=x.cps.toList.length:=ax.symm;show ∃ c,x.cps.toList.getLast?=some c/\¬c=32;exact KY (fun z=>by rw[z]at e;rw[e]at h1;exact absurd h1 b9) fun c hc=>bP.mp h2 c hc
 | .yes,_=>⟨49,by show("1":Str).cps.toList.getLast?=_;rw[nC];rfl,b9⟩
 | .no,_=>⟨48,by show("0":Str).cps.toList.getLast?=_;rw[jJ];rfl,b9⟩
 | .not a,h=>by
  obtain⟨c,h1,h2⟩:=Bv (tr:=a) h;refine⟨c,?_,h2⟩;rw[mU,List.getLast?_cons,h1]
  rfl
 | .bin o a b,h=>⟨41,by rw[mV,List.getLast?_append];rfl,b9⟩
theorem yD(h:eF tr):Clean (wrT tr):=by
 have hs:=lE h;refine⟨fun z=>(yC (hs 10 z)).1 rfl,?_,?_⟩
 .cases tr with
  | nm x =>
   have hx:=h x qms;show ∃ c,x.cps.toList.head?=some c/\¬c=32;unfold isName at hx;obtain⟨h1,h2⟩:=bS.mp hx;have h1:=eT (bS.mp h1).1;have e:x.length=x.cps.toList.length:=ax.symm;cases hq:x.cps.toList with
   |nil=>rw[hq]at e;rw[e]at h1;exact absurd h1 b9
   | cons c r =>
    refine⟨c,Z,fun z=>?_⟩;have:=bP.mp h2 c (by rw[hq];exact qms);rw[z]at this;exact absurd this b9
  |yes=>exact⟨49,by show("1":Str).cps.toList.head?=_;rw[nC];rfl,b9⟩
  |no=>exact⟨48,by show("0":Str).cps.toList.head?=_;rw[jJ];rfl,b9⟩
  |not a=>exact⟨126,by rw[mU];rfl,b9⟩
  |bin o a b=>exact⟨40,by rw[mV];rfl,b9⟩
 exact Bv h
abbrev KZ:List (Key×V):=[(.inr "and",.str "&"),(.inr "or",.str "|"),(.inr "then",.str ">"),(.inr "same",.str "=")]
theorem QT(o:Op):bN (kJ [] KZ) (.inr o.str)=some (.str (HG o)):=by cases o<;>decide +kernel
theorem Hq{p:Addr}(h:H p=none):bb H (upd (upd H p o) p o'):=fun b u e=>by
 rw[aA (aD e h),aA (aD e h)];exact e
inductive LN(d:Nat)(vs:List V)(H:Hp)(Q:VK)(E:XK):Prop
 |mk(v:V)(tr:Tr)(_:vs=[v])(_:eD H v tr)(_:tr.depth<=d)(_:d<=8)(_:eF tr)(_:∀ J,bb H J->Q (.str (wrT tr)) J)
theorem rM(h:eF tr)(hd:tr.depth<=8):(wrT tr).length <= 2000:=by
 have e:(wrT tr).length=(wrT tr).cps.toList.length:=ax.symm;have h1:=pL h;have h2:=jb hd;have h3:iZ 8=1659:=rfl;exact G
theorem DL:ck ["_law_tree","_law_sign"] ["_law_tree"] (aP Ys):=eM
theorem uB(T:Txt P w K mg t):∀ d:Nat,FO P w K mg base (d+1) t.a99 t.d99 ["_law_tree"] (LN d)
 | 0=>⟨fun vs H Q E h=>by obtain⟨v,tr,rfl,_⟩:=h;rfl,fun _ _ _ _ _ _ _ _ _ _ _ _ _ h=>by
  obtain⟨v,tr,rfl,_,hd,_⟩:=h;have:=tr.ll
  omega⟩
 | d + 1=>by
  have YY:=uB T d;refine T.q99.F.xl (k:=d+1) DL (fun vs H Q E h=>by obtain⟨v,tr,rfl,_⟩:=h;rfl) (fun ja A outer s H vs Q E hr h=>?_);obtain⟨v,tr,rfl,ht,hd,h8,xw,k⟩:=h;have nd:=DL.nd;have hu:=eO hr
  refine⟨_,(aq (aO (aG aW (cy aJ (O 0) ak) az (aK _))
    (au (aC (cy aJ (O 0) ak)))
    aM)
   (aq (aO (aG aW (cy aJ (O 0) ak) az (aK _))
    (au (aC az))
    aM)
   (aq (aO (aG aW (cy aJ (O 0) ak) az (aK _))
    (au (aC az))
    aM)
   (aq (aO (aG aW (cy aJ (O 0) ak) az (aK _))
    (au (aC (aF bI az (eK T.q99 YY hr aH (aa (cy aJ (O 0) ak) aj)))))
    aM)
   (aq (fR 1 nd (pW hu (MJ (m8 az az (m8 az az (m8 az az (m8 az az MF)))) rfl rfl (da _ _) dk) (cy aJ (O 0) ak) (fun _ _=>rfl)))
   (au (aC (aF bI (aF bI (aF bI (aF bI (aF bI (aF bI az (eK T.q99 YY hr aH (aa (cy aJ (O 0) ak) aj))) az) (O 1)) az) (eK T.q99 YY hr aH (aa (cy aJ (O 0) ak) aj))) az)))))))),?_⟩
  have sz:10000<=sizeLine:=by decide
  cases tr with
  | nm x =>
   obtain⟨a,rest,rfl,_⟩:=ht.open;have ha:=JF ht;refine⟨_,Z,a,_,0,_,Z,Z,SqT.of ha,Z,Z,_,Z,aN (fun _=>?_) (fun z=>absurd (cK rfl) z)⟩;exact⟨_,Z,a,_,1,_,Z,Z,SqT.of ha,Z,k H (bb.refl _)⟩
  | yes =>
   obtain⟨a,rest,rfl,ha,_,xy⟩:=ht.open;have:=xy rfl;cases this;refine⟨_,Z,a,_,0,_,Z,Z,SqT.of ha,Z,Z,_,Z,aN (fun z=>absurd (V.str.inj (eT z)) dk) (fun _=>?_)⟩;refine⟨_,Z,a,_,0,_,Z,Z,SqT.of ha,Z,Z,_,Z,aN (fun _=>?_) (fun z=>absurd (cK rfl) z)⟩;exact k H (bb.refl _)
  | no =>
   obtain⟨a,rest,rfl,ha,_,xy⟩:=ht.open;have:=xy rfl;cases this;refine⟨_,Z,a,_,0,_,Z,Z,SqT.of ha,Z,Z,_,Z,aN (fun z=>absurd (V.str.inj (eT z)) dk) (fun _=>?_)⟩;refine⟨_,Z,a,_,0,_,Z,Z,SqT.of ha,Z,Z,_,Z,aN (fun z=>absurd (V.str.inj (eT z)) dk) (fun _=>?_)⟩;refine⟨_,Z,a,_,0,_,Z,Z,SqT.of ha,Z,Z,_,Z,aN (fun _=>?_) (fun z=>absurd (cK rfl) z)⟩;exact k H (bb.refl _)
  | not u =>
   obtain⟨a,rest,rfl,_⟩:=ht.open;obtain⟨v1,ha,t1⟩:=CV ht;have wc:u.depth+1<=d+1:=hd;refine⟨_,Z,a,_,0,_,Z,Z,SqT.of ha,Z,Z,_,Z,aN (fun z=>absurd (V.str.inj (eT z)) dk) (fun _=>?_)⟩;refine⟨_,Z,a,_,0,_,Z,Z,SqT.of ha,Z,Z,_,Z,aN (fun z=>absurd (V.str.inj (eT z)) dk) (fun _=>?_)⟩;refine⟨_,Z,a,_,0,_,Z,Z,SqT.of ha,Z,Z,_,Z,aN (fun z=>absurd (V.str.inj (eT z)) dk) (fun _=>?_)⟩;refine⟨_,Z,a,_,0,_,Z,Z,SqT.of ha,Z,Z,_,Z,aN (fun _=>?_) (fun z=>absurd (cK rfl) z)⟩;have Sm:eF u:=xw;have hs:=rM Sm G;refine⟨_,Z,a,_,1,v1,Z,Z,SqT.of ha,Z,v1,u,Z,t1,G,G,Sm,fun H1 s1=>?_⟩;have e1:("~":Str).length=1:=by decide +kernel
   exact⟨_,_,Z,Z,G,k H1 s1⟩
  | bin o x y =>
   obtain⟨a,rest,rfl,_⟩:=ht.open;obtain⟨v1,v2,ha,t1,t2⟩:=CT ht;have wc:max x.depth y.depth+1<=d+1:=hd;have CO:eF x:=fun z hz=>xw z (xi _ hz)
   have Cf:eF y:=fun z hz=>xw z (pd _ hz)
   have hs1:=rM CO G;have AX:=rM Cf G;refine⟨_,rfl,a,_,0,_,rfl,rfl,SqT.of ha,rfl,rfl,_,rfl,aN (fun z=>absurd (V.str.inj (eT z)) (by cases o<;>decide +kernel)) (fun _=>?_)⟩;refine⟨_,rfl,a,_,0,_,rfl,rfl,SqT.of ha,rfl,rfl,_,rfl,aN (fun z=>absurd (V.str.inj (eT z)) (by cases o<;>decide +kernel)) (fun _=>?_)⟩;refine⟨_,rfl,a,_,0,_,rfl,rfl,SqT.of ha,rfl,rfl,_,rfl,aN (fun z=>absurd (V.str.inj (eT z)) (by cases o<;>decide +kernel)) (fun _=>?_)⟩;refine⟨_,rfl,a,_,0,_,rfl,rfl,SqT.of ha,rfl,rfl,_,rfl,aN (fun z=>absurd (V.str.inj (eT z)) (by cases o<;>decide +kernel)) (fun _=>?_)⟩;refine fun p hp=>⟨ao,KZ,rfl,b9,?_⟩
   have OE:bb H (upd (upd H p (.dK [])) p (.dK (kJ [] KZ))):=Hq hp;refine⟨_,Z,a,_,0,.str o.str,Z,Z,SqT.of (OE _ _ ha),Z,p,.str (HG o),Z,?_,?_⟩
   .rw[<- QT o]
    exact vi.k (k:=.inr o.str) ao
   have lo:(HG o).length=1:=by rw[DN];rfl
   have l1:("(":Str).length=1:=by decide +kernel
   have l2:(" ":Str).length=1:=by decide +kernel
   have l3:(")":Str).length=1:=by decide +kernel
   refine⟨_,Z,a,_,1,v1,Z,Z,SqT.of (OE _ _ ha),Z,v1,x,Z,t1.mono OE.tups,G,G,CO,fun H1 s1=>?_⟩;refine⟨_,_,Z,Z,G,_,_,Z,Z,by rw[aE];exact G,_,Z,_,_,Z,Z,by rw[aE,aE];exact G,_,_,Z,Z,by rw[aE,aE,aE];exact G,?_⟩;refine⟨_,Z,a,_,2,v2,Z,Z,SqT.of (s1 _ _ (OE _ _ ha)),Z,v2,y,Z,t2.mono (OE.trans s1).tups,G,G,Cf,fun H2 s2=>?_⟩;refine⟨_,_,Z,Z,by rw[aE,aE,aE,aE];exact G,_,_,Z,Z,by rw[aE,aE,aE,aE,aE];exact G,?_⟩;exact k H2 ((OE.trans s1).trans s2)
def xk(p:Int×Str):Str:=cU p.1++" "++p.2
def dB(x:Pl):Str:=if x.kd="take"\/x.kd="lean" then x.kd++" "++cU x.num++" "++wrT x.tr else if x.kd="give"\/x.kd="ask" then x.kd++" "++wrT x.tr else if x.kd="keep" then "keep "++cX x.i else if x.kd="pour" then Txt.join " " ("pour" :: x.prs.map xk)else x.kd
structure PlOk(ns:List Str)(x:Pl):Prop where
 tr:CB ns x.tr
 mem:x.kd∈VB
 nb:CC x.kd x.num
 pr:x.kd="pour"->j4 WD x.prs
theorem QV{a b i:Int}(h:∀ k∈kl,k∈WD):∀ k∈(cI kd a b kl i).2.2,k∈WD:=by
 unfold cI
 repeat' split
 .exact h
 .exact h
 .exact h
 .intro k hk
  rcases a_.mp hk with hk|hk
  .exact h k hk
  rw[aI.mp hk];exact jL i
 exact h
theorem Bw{ns:List Str}:∀{pls:List Pl}{a b:Int}{kl:List Str},oS ns a b kl pls->(∀ k∈kl,k∈WD)->∀ x∈pls,PlOk ns x
 |_,_,_,_,.nil _ _ _,_,x,hx=>nomatch hx
 | _,_,_,_,.cons h1 h2 h3 h4 h5 h6,hw,x,hx=>by
  rcases ai.mp hx with rfl|hx
  .exact⟨h1,h2.mem,h3,fun e=>⟨(h5 (h2.pr e)).1,(h5 (h2.pr e)).2.1,fun p hp=>let h:=(h5 (h2.pr e)).2.2 p hp;⟨h.1,h.2.1,hw _ h.2.2⟩⟩⟩
  exact Bw h6 (QV hw) x hx
theorem nM(hN:Names ns)(h:∀ x∈tr.names,x∈ns):eF tr:=fun x hx=>lW (hN.nm x (h x hx))
theorem Bx{i:Int}(h1 : -(10^30)<i)(h2:i<10^30):i.natAbs.log2<1920:=by
 by_cases h0:i.natAbs=0
 .rw[h0];decide
 refine(Nat.log2_lt h0).mpr ?_;have:i.natAbs<10^30:=G
 exact gI this b9
theorem nO{i:Int}(h1 : -(10^30)<i)(h2:i<10^30):(cU i).length <= 31:=by
 rw[nu];rcases AG i 0 with hi|hi
 .obtain⟨n,rfl⟩:∃ n:Nat,i = -((n+1:Nat):Int):=⟨(-i).toNat-1,G⟩
  rw[rK G];have:=(jo 29 (n+1)).2;show(dg 29 (n+1)).length+1<=31;exact G
 obtain⟨n,rfl⟩:∃ n:Nat,i=(n:Int):=⟨i.toNat,G⟩
 rw[lD G];have:=(jo 29 n).2;show(dg 29 n).length <= 31;exact G
theorem CC.vT{num:Int}(h:CC kd num): -(10^30)<num/\num<10^30:=by
 rcases h with⟨_,h⟩|⟨_,h1,h2⟩
 .exact h
 exact⟨G,h2⟩
theorem kd_len(h:kd∈VB):kd.length<=6:=gH (fun kd=>decide (kd.length<=6)) dk h |> eT
theorem tX{k:Str}(h:k∈WD):k.length<=8:=bP.mp (show WD.all (fun k=>decide (k.length<=8))=true by decide +kernel) k h |> eT
theorem Ov{p:Int×Str}(h1:1<=p.1)(h2:p.1<=1000003)(h3:p.2∈WD):(xk p).length <= 40:=by
 have a1:=nO (i:=p.1) G G;have a2:=tX h3;have l2:(" ":Str).length=1:=by decide +kernel
 unfold xk;rw[aE,aE];exact G
theorem uC(hN:Names ns)(h:CB ns tr):(wrT tr).length <= 99:=by
 rw[nu];exact g9 (pL (nM hN h.nm)) (jb h.dp)
theorem rN(z:Str)(ys:List Str):(Txt.join z ys).length <= (ys.map (·.length)).sum+ys.length*z.length:=by
 have:=size_glued z ys;show(Builtin.Str.glued z ys).length <= _;rw[this];exact eR (gE _ (Nat.sub_le _ _)) _
theorem tY{ys:List Str}{m:Nat}(h:∀ y∈ys,y.length<=m):(ys.map (·.length)).sum <= ys.length*m:=by
 induction ys with
 |nil=>exact mi _
 | cons y r ih =>
  rw[b6,wq,ba,Nat.succ_mul];have:=h y qms;have:=ih fun z hz=>h z (k9 _ hz)
  exact G
theorem yE(h:j4 WD prs):(((("pour":Str):: prs.map xk).map (·.length)).sum+(("pour":Str):: prs.map xk).length*(" ":Str).length)<=205:=by
 have l2:(" ":Str).length=1:=by decide +kernel
 have hs:=tY (ys := "pour" :: prs.map xk) (m:=40) fun y hy=>by
  rcases ai.mp hy with rfl|hy
  .decide +kernel
  obtain⟨p,hp,rfl⟩:=cb.mp hy;obtain⟨h1,h2,h3⟩:=h.2.2 p hp;exact Ov h1 h2 h3
 have:=h.2.1;rw[ba,de]at hs ⊢;rw[l2];have:(prs.length+1)*40<=5*40:=gE _ G;exact G
theorem rO(hN:Names ns){x:Pl}(h:PlOk ns x):(dB x).length <= 205:=by
 have h1:=kd_len h.mem;have h2:=uC hN h.tr;have h3:=nO h.nb.vT.1 h.nb.vT.2;have l2:(" ":Str).length=1:=by decide +kernel
 have l5:("keep ":Str).length=5:=by decide +kernel
 have h4:=tX (jL x.i);unfold dB
 split
 .rw[aE,aE,aE,aE]
  exact G
 split
 .rw[aE,aE]
  exact G
 split
 .rw[aE]
  exact G
 split
 .rename_i e
  exact g9 (rN _ _) (yE (h.pr e))
 exact G
inductive FK(vs:List V)(H:Hp)(Q:VK)(E:XK):Prop
 |mk(no:Addr)(v:V)(x:Pl)(ns:List Str)(_:vs=[v])(_:iF no H v x)(_:PlOk ns x)(_:Names ns)(_:∀ J,bb H J->Q (.str (dB x)) J)
def my(ns:List Str)(pls:List Pl):Str:=Txt.join "\n" (("names" ++ " "++Txt.join " " ns):: pls.map dB)
inductive C7(vs:List V)(H:Hp)(Q:VK)(E:XK):Prop
 |mk(no np l:Addr)(us:List V)(pls:List Pl)(ns:List Str)(_:vs=[.ref np,.ref l])(_:H np=some (.tup (ns.map V.str)))(_:ns.length<=8)(_:H l=some (.lst us))(_:Paired (iF no H) us pls)(_:(∀ x∈pls,PlOk ns x))(_:Names ns)(_:pls.length<=90)(_:∀ J,bb H J->Q (.str (my ns pls)) J)
theorem vJ(hN:Names ns)(h8:ns.length<=8):(ns.map (·.length)).sum+ns.length*(" ":Str).length <= 72/\(Txt.join " " ns).length <= 72:=by
 have l2:(" ":Str).length=1:=by decide +kernel
 have h1:=tY (ys:=ns) (m:=8) fun y hy=>by
  rw[nu];exact(hN.nm y hy).le
 have h2:=rN " " ns;have h3:ns.length*8<=64:=G
 rw[l2]at h2 ⊢;exact G
theorem Ow:ck ["_law_plan","_law_verb","_law_colon"] ["_law_plan"] (aP Jy):=eM
theorem K1(T:Txt P w K mg t):FM P w base T.q105 6 FK:=by
 refine T.q105.F.fq (k:=5) Ow ?_;rintro nd _ _ _ _ H _ _ _ hr ⟨no,v,⟨kd,num,tr,i,prs⟩,ns,rfl,⟨q,pa,vt,vo,us,rfl,hq,ht,KO,pk,_⟩,hok,hN,k⟩
 refine⟨_,(aq (fR 1 nd (cy aJ (O 0) ak))
   (aq (aO (aG iD (O 1) (bj (aa az (aa az aj))) ou)
    (au (aC (aF bI (aF bI (aF bI (aF bI (O 1) az) (dG jD T.zA Bt.str (aa (cy aJ (O 0) ak) aj))) az) (eK T.q99 (uB T 4) hr aH (aa (cy aJ (O 0) ak) aj)))))
    aM)
   (aq (aO (aG iD (O 1) (bj (aa az (aa az aj))) ou)
    (au (aC (aF bI (aF bI (O 1) az) (eK T.q99 (uB T 4) hr aH (aa (cy aJ (O 0) ak) aj)))))
    aM)
   (aq (aO (aG aW (O 1) az (aK _))
    Ec
    aM)
   (aq (aO (aG aW (O 1) az (aK _))
    (au (aC (aF bI az (eK T.q101 (lZ T) hr aH (aa (cy aJ (O 0) ak) aj)))))
    aM)
   (aq (aO (aG aW (O 1) az (aK _))
    (au (aC (b8 PySem.F.plainAttrs_str PySem.F.slot_str_join PySem.F.type_str_join mL az (aa (aF oH (bz (aa az aj)) (bT rfl ["_law_pair"] [none] (bR (cy aJ (O 0) ak)) gT (fun _ _ _ _ _ _=>(iP 0 (l8 (l:=["_law_pair"])))) (fun _ _ _ _ _ _=>bZ) (fun _ _ _ _ _ _=>(aF bI (aF bI (dG jD T.zA Bt.str (aa (cy (iH (K:=K)) (O 0) ak) aj)) az) (cy (iH (K:=K)) (O 0) ak))))) aj))))
    aM)
   (au (aC (O 1))))))))),?_⟩
 have K2:kd.length<=6:=kd_len hok.mem;have xw:=nM hN hok.tr.nm;have hwl:(wrT tr).length <= 99:=uC hN hok.tr;have KP:(cU num).length <= 31:=nO hok.nb.vT.1 hok.nb.vT.2;have D9:num.natAbs.log2<1920:=Bx hok.nb.vT.1 hok.nb.vT.2;have l2:(" ":Str).length=1:=by decide +kernel
 have sz:1000<=sizeLine:=by decide
 have hq:H q=some (.tup [.str kd,.int num,vt,vo,.int i,.ref pa]):=hq;have ht:eD H vt tr:=ht;have pk:Paired (uz H) us prs:=pk;have B_:kd="pour"->j4 WD prs:=hok.pr;have nc:kd∈VB:=hok.mem;unfold dB at k;dsimp only at k;have nK:sx (.str kd) [V.str "take",V.str "lean"]=decide (kd="take"\/kd="lean"):=gH (fun kd=>sx (.str kd) [V.str "take",V.str "lean"]==decide (kd="take"\/kd="lean")) dk nc |> eq_of_beq
 have Xe:sx (.str kd) [V.str "give",V.str "ask"]=decide (kd="give"\/kd="ask"):=gH (fun kd=>sx (.str kd) [V.str "give",V.str "ask"]==decide (kd="give"\/kd="ask")) dk nc |> eq_of_beq
 have WZ:¬kd="lost":=gH (fun kd=>!decide (kd="lost")) dk nc |> fun z e=>by rw[cK e]at z;cases z
 refine⟨_,Z,q,_,0,_,Z,Z,SqT.of hq,Z,?_⟩;refine⟨_,Z,lk obz,fun q1 hq1=>⟨q1,_,Z,.inr (SqT.of ao),Z,Z,?_⟩⟩;have s1:=aB (o:=.tup [.str "take",.str "lean"]) hq1;generalize upd H q1 (.tup [.str "take",.str "lean"])=H1 at s1 ⊢;have xv:=s1 _ _ hq;rw[bX ki,nK];refine⟨_,Z,aN (fun z=>?_) (fun z=>?_)⟩
 .have z:=eT z
  rw[qp z]at k;refine⟨_,Z,_,_,Z,Z,G,_,Z,q,_,1,_,Z,Z,SqT.of xv,Z,num,Z,D9,_,_,Z,Z,?_,?_⟩
  .show(kd++" ":Str).length+(cU num).length <= sizeLine
   rw[aE];exact G
  refine⟨_,_,Z,Z,?_,?_⟩
  .show(kd++" "++cU num:Str).length+(" ":Str).length <= sizeLine
   rw[aE,aE];exact G
  refine⟨_,Z,q,_,2,vt,Z,Z,SqT.of xv,Z,vt,tr,Z,ht.mono s1.tups,hok.tr.dp,b9,xw,fun H2 s2=>?_⟩;refine⟨_,_,Z,Z,?_,k H2 (s1.trans s2)⟩;show(kd++" "++cU num++" ":Str).length+(wrT tr).length <= sizeLine;rw[aE,aE,aE];exact G
 rw[bX (fun e=>z (cK e))]at k;refine⟨_,Z,lk obz,fun q2 hq2=>⟨q2,_,Z,.inr (SqT.of ao),Z,Z,?_⟩⟩;have s2:=aB (o:=.tup [.str "give",.str "ask"]) hq2;generalize upd H1 q2 (.tup [.str "give",.str "ask"])=H2 at s2 ⊢;have m_:=s1.trans s2;have RU:=m_ _ _ hq;rw[bX ki,Xe];refine⟨_,Z,aN (fun z=>?_) (fun z=>?_)⟩
 .rw[qp (eT z)]at k
  refine⟨_,Z,_,_,Z,Z,G,?_⟩;refine⟨_,Z,q,_,2,vt,Z,Z,SqT.of RU,Z,vt,tr,Z,ht.mono m_.tups,hok.tr.dp,b9,xw,fun H3 s3=>?_⟩;refine⟨_,_,Z,Z,?_,k H3 (m_.trans s3)⟩;show(kd++" ":Str).length+(wrT tr).length <= sizeLine;rw[aE];exact G
 rw[bX (fun e=>z (cK e))]at k;refine⟨_,Z,Z,_,Z,aN (fun z=>absurd (V.str.inj (eT z)) WZ) (fun _=>?_)⟩;refine⟨_,Z,Z,_,Z,aN (fun z=>?_) (fun z=>?_)⟩
 .rw[qp (V.str.inj (eT z))]at k
  refine⟨_,Z,q,_,4,_,Z,Z,SqT.of RU,bu (j:=4) rfl,i,Z,fun H3 s3=>?_⟩;have h4:=tX (jL i);refine⟨_,_,Z,Z,?_,k H3 (m_.trans s3)⟩;show("keep ":Str).length+(cX i).length <= sizeLine;have l5:("keep ":Str).length=5:=by decide +kernel
  exact G
 rw[bX (fun e=>z (cK (by rw[e])))]at k;refine⟨_,Z,Z,_,Z,aN (fun z=>?_) (fun z=>?_)⟩
 .have z:=V.str.inj (eT z)
  rw[qp z]at k;have B_:=B_ z;have tS:=aT pk;refine⟨Z,lk obz,fun l1 qV=>?_⟩;have s3:=m_.trans (aB (o:=.lst [.str "pour"]) qV);have Ee:(upd H2 l1 (.lst [.str "pour"])) l1=some (.lst [.str "pour"]):=ao;generalize upd H2 l1 (.lst [.str "pour"])=H3 at s3 Ee ⊢;refine⟨_,Z,q,_,5,_,Z,Z,SqT.of (s3 _ _ hq),bu (j:=5) rfl,pa,Z,⟨_,b5.of (s3 _ _ KO)⟩,?_⟩;have h4:=B_.2.1;refine cF (K:=K) (a:=pa) (xs:=us) (fun i ys J=>J=H3/\ys=((prs.take i).map xk).map V.str) ⟨rfl,rfl⟩ (lk G) (fun i ys J ⟨_,e⟩=>by rw[e,de,de,bq];exact G) (fun i ys J ⟨e,_⟩=>by subst e;exact b5.of (s3 _ _ KO)) ?_ ?_
  .rintro j y ys H4 hj ⟨e0,rfl⟩
   have e0:=e0.symm;subst e0;obtain⟨p,hp,qq,rfl,ON⟩:=bx pk j y hj;obtain⟨g1,g2,g3⟩:=B_.2.2 p (pj hp);have n1:=nO (i:=p.1) G G;have n2:=tX g3;refine⟨trivial,_,Z,qq,_,0,_,Z,Z,SqT.of (s3 _ _ ON),Z,p.1,Z,Bx G G,_,_,Z,Z,?_,_,Z,qq,_,1,_,Z,Z,SqT.of (s3 _ _ ON),Z,_,_,Z,Z,?_,Z,?_⟩
   .show(cU p.1).length+(" ":Str).length <= sizeLine
    exact G
   .show(cU p.1++" ":Str).length+p.2.length<=sizeLine
    rw[aE];exact G
   rw[qE,hp,ay,ay]
   rfl
  rintro ys H4 ⟨e0,rfl⟩ l2 mP;have e0:=e0.symm;subst e0;rw[tS,bp];have s4:=aB (o:=.lst ((prs.map xk).map V.str)) mP;refine⟨l1,l2,_,_,Z,Z,s4 _ _ Ee,ao,lk (by simp;exact G),fun l3 D_=>?_⟩;have e3:[V.str "pour"]++(prs.map xk).map V.str=((("pour":Str):: prs.map xk).map V.str):=rfl;rw[e3];exact⟨_,l3,_,Z,Z,b5.of ao,g9 (yE B_) b9,k _ ((s3.trans s4).trans (aB D_))⟩
 rw[bX (fun e=>z (cK (by rw[e])))]at k;exact⟨_,Z,k _ m_⟩
theorem K3:ck ["_law_names","_law_plans"] ["_law_names","_law_plans"] (aP Jz):=eM
theorem Hr(T:Txt P w K mg t):FM P w base T.q106 7 C7:=by
 refine T.q106.F.fq (k:=6) K3 ?_;rintro nd _ _ _ _ H _ _ _ hr ⟨no,np,l,us,pls,ns,rfl,lS,h8,hl,hP,hok,hN,_d,k⟩;refine⟨_,(au (aC (b8 PySem.F.plainAttrs_str PySem.F.slot_str_join PySem.F.type_str_join mL az (aa (aF oH (bz (aa (aF bI az (b8 PySem.F.plainAttrs_str PySem.F.slot_str_join PySem.F.type_str_join Jm az (aa (O 0) aj))) aj)) (bT rfl ["_law_plan"] [none] (bR (O 1)) gT (fun _ _ _ _ _ _=>(iP 0 (l8 (l:=["_law_plan"])))) (fun _ _ _ _ _ _=>bZ) (fun _ _ _ _ _ _=>(eK T.q105 (K1 T) hr aH (aa (O 0) aj))))) aj)))),?_⟩;obtain⟨CO,Cf⟩:=vJ hN h8;have tS:us.length=pls.length:=aT hP;have l6:("names ":Str).length=6:=by decide +kernel
 have e6:("names ":Str)="names" ++ " ":=by decide +kernel
 have sz:1000<=sizeLine:=by decide
 refine⟨Z,Z,_,Z,_,np,ns,Z,Z,SqT.of lS,g9 CO b9,_,_,Z,Z,G,lk obz,fun l1 qV=>?_⟩;have s1:=aB (o:=.lst [.str ("names "++Txt.join " " ns)]) qV;have Ee:(upd H l1 (.lst [.str ("names "++Txt.join " " ns)])) l1=some (.lst [.str ("names "++Txt.join " " ns)]):=ao;generalize upd H l1 (.lst [.str ("names "++Txt.join " " ns)])=H1 at s1 Ee ⊢;refine⟨_,Z,l,Z,⟨_,b5.of (s1 _ _ hl)⟩,?_⟩;refine cF (K:=K) (a:=l) (xs:=us) (fun i ys J=>bb H1 J/\ys=((pls.take i).map dB).map V.str) ⟨bb.refl _,rfl⟩ (lk G) (fun i ys J ⟨_,e⟩=>by rw[e,de,de,bq];exact G) (fun i ys J ⟨s',_⟩=>b5.of (s' _ _ (s1 _ _ hl))) ?_ ?_
 .rintro i y ys H2 hi ⟨s2,rfl⟩
  obtain⟨x,hx,E'⟩:=bx hP i y hi;have hmx:x∈pls:=pj hx;refine⟨trivial,_,Z,no,y,x,ns,Z,E'.mono (s1.trans s2),hok x hmx,hN,fun H3 s3=>⟨s2.trans s3,?_⟩⟩;rw[qE,hx,ay,ay]
  rfl
 rintro ys H2 ⟨s2,rfl⟩ l2 mP;rw[tS,bp];have s3:=aB (o:=.lst ((pls.map dB).map V.str)) mP;refine⟨l1,l2,_,_,Z,Z,s3 _ _ (s2 _ _ Ee),ao,lk (by simp;exact G),fun l3 D_=>?_⟩;have e3:[V.str ("names "++Txt.join " " ns)]++(pls.map dB).map V.str=((("names" ++ " "++Txt.join " " ns):: pls.map dB).map V.str):=by rw[e6];rfl
 rw[e3];have ln:("\n":Str).length=1:=by decide +kernel
 refine⟨_,l3,_,Z,Z,b5.of ao,?_,k _ (((s1.trans s2).trans s3).trans (aB D_))⟩
 have hs:=tY (ys:=("names" ++ " "++Txt.join " " ns):: pls.map dB) (m:=205) fun y hy=>by
  rcases ai.mp hy with rfl|hy
  .rw[<- e6,aE]
   exact G
  obtain⟨x,hx,rfl⟩:=cb.mp hy;exact rO hN (hok x hx)
 rw[ba,de]at hs ⊢;rw[ln];have:(pls.length+1)*205<=91*205:=gE _ G;exact G
theorem yF(a b c:Str):a++b++c=a++(b++c):=lB (by rw[cW,cW,cW,cW,dE])
def Plain(p:Str):Prop:=32∉p.cps.toList/\10∉p.cps.toList/\p.cps.toList≠[]
theorem Plain.hd{p:Str}(h:Plain p):∃ c,p.cps.toList.head?=some c/\¬c=32:=by
 cases e:p.cps.toList with
 |nil=>exact absurd e h.2.2
 |cons c r=>exact⟨c,Z,fun z=>h.1 (by rw[e,z];exact qms)⟩
theorem Plain.clean{p:Str}(h:Plain p):Clean p :=
 ⟨h.2.1,h.hd,p.cps.toList.getLast h.2.2,List.getLast?_eq_some_getLast h.2.2,fun z=>h.1 (by rw[<- z];exact List.getLast_mem h.2.2)⟩
theorem Hs:iY "take"=some tK:=qp rfl
theorem Ht:iY "lean"=some tL:=by
 unfold iY;rw[bX dk,bX dk,qp rfl]
theorem Hu(h:kd="give"\/kd="ask"):iY kd=some wB:=by
 unfold iY;rw[bX (by rcases h with e|e<;>rw[e]<;>decide +kernel),qp h]
theorem Hv:iY "keep"=some qd:=by
 unfold iY;rw[bX dk,bX dk,bX dk,qp rfl]
theorem Hw(h:kd="back"\/kd="again"\/kd="worlds"):iY kd=some tH:=by
 unfold iY;rw[bX (by rcases h with e|e|e<;>rw[e]<;>decide +kernel),bX (by rcases h with e|e|e<;>rw[e]<;>decide +kernel),bX (by rcases h with e|e|e<;>rw[e]<;>decide +kernel),bX (by rcases h with e|e|e<;>rw[e]<;>decide +kernel),qp h]
def dC(x:Pl):nL:=if x.kd="take"\/x.kd="lean" then .v (.int x.num)else if x.kd="keep" then .v (.str (cX x.i))else if x.kd="pour" then .ps (x.prs.map fun p=>(p.2,p.1))else .v .non
def ub(x:Pl):List Tr:=if x.kd∈(["take","lean","give","ask"]:List Str)then [x.tr]else []
def mG(x:Pl):Str×nL×List Tr:=(x.kd,dC x,ub x)
theorem nP{i:Int}(h1 : -(10^30)<i)(h2:i<10^30):Plain (cU i):=by
 have key:∀ n k:Nat,∀ c∈dg k n,¬c=32/\¬c=10:=fun n k c hc=>by
  have:=nH k n c hc;exact G
 rcases AG i 0 with hi|hi
 .obtain⟨n,rfl⟩:∃ n:Nat,i = -((n+1:Nat):Int):=⟨(-i).toNat-1,G⟩
  unfold Plain;rw[rK G];refine⟨fun z=>?_,fun z=>?_,da _ _⟩
  .rcases ai.mp z with z|z
   .exact absurd z b9
   exact(key _ _ _ z).1 rfl
  rcases ai.mp z with z|z
  .exact absurd z b9
  exact(key _ _ _ z).2 rfl
 obtain⟨n,rfl⟩:∃ n:Nat,i=(n:Int):=⟨i.toNat,G⟩
 unfold Plain;rw[lD G];refine⟨fun z=>(key _ _ _ z).1 rfl,fun z=>(key _ _ _ z).2 rfl,fun z=>?_⟩;have:=(jo 29 n).1;have z:dg 29 n=[]:=z;rw[z]at this;exact absurd this b9
theorem yG(h:kd∈VB):Plain kd:=by
 have:=gH (fun kd=>decide (32∉kd.cps.toList)&&(decide (10∉kd.cps.toList)&&decide (kd.cps.toList≠[]))) dk h;obtain⟨h1,h2⟩:=bS.mp this;obtain⟨h2,h3⟩:=bS.mp h2;exact⟨eT h1,eT h2,eT h3⟩
theorem qu{k:Str}(h:k∈WD):isName k=true:=bP.mp (show WD.all isName=true by decide +kernel) k h
theorem gO{n:Str}(h:isName n=true):Plain n:=by
 refine⟨pK h b9,pK h b9,fun z=>?_⟩;have:n="":=lB (by rw[z];rfl);rw[this]at h;exact absurd h dk
theorem jq(a b:Str)(r:List Str):Txt.join " " (a::b::r)=a++" "++Txt.join " " (b::r):=by
 have e1:Txt.join " " (a::b::r)=Str.join " " (a::b::r):=i8 _ _;have e2:Txt.join " " (b::r)=Str.join " " (b::r):=i8 _ _;rw[e1,e2]
 rfl
theorem join_one(a:Str):Txt.join " " [a]=a:=i8 _ _
theorem jc:∀{ns:List Str},ns≠[]->(∀ n∈ns,Plain n)->Clean (Txt.join " " ns)
 |[],h,_=>absurd rfl h
 | [n],_,h=>by
  rw[join_one];exact(h n qms).clean
 | n::m::r,_,h=>by
  rw[jq];exact fY (h n qms).2.1 (h n qms).hd (jc (da _ _) fun x hx=>h x (k9 _ hx))
theorem Ae(hne:ns≠[])(h:∀ n∈ns,Plain n):b7 (Txt.join " " ns)=ns:=by
 unfold b7
 have e:Txt.split (Txt.join " " ns) " "=ns:=by
  rw[pG];exact nG 32 hne fun p hp=>(h p hp).1
 rw[e,vF];intro n hn;rw[gS (fun z=>(h n hn).2.2 (by rw[z];rfl))]
 rfl
def sT:List (Int×Str)->List Str
 |[]=>[]
 |p::r=>cU p.1::p.2::sT r
theorem yH:∀{prs:List (Int×Str)},prs≠[]->Txt.join " " (prs.map xk)=Txt.join " " (sT prs)
 |[],h=>absurd rfl h
 | [p],_=>by
  show Txt.join " " [xk p]=Txt.join " " [cU p.1,p.2];rw[join_one,jq,join_one]
  rfl
 | p::q::r,_=>by
  have ih:=yH (prs:=q::r) (da _ _);show Txt.join " " (xk p::xk q::r.map xk)=Txt.join " " (cU p.1::p.2::cU q.1::q.2::sT r);rw[jq,jq,jq (p.2)];have ih:Txt.join " " (xk q::r.map xk)=Txt.join " " (cU q.1::q.2::sT r):=ih;rw[ih];show cU p.1++" "++p.2++" "++_=_;rw[yF (cU p.1++" ") p.2,yF (cU p.1++" ") (p.2++" ")]
theorem mz:∀{prs:List (Int×Str)},(∀ p∈prs,1<=p.1/\p.1<=1000003/\p.2∈WD)->∀ x∈sT prs,Plain x
 |[],_,x,hx=>nomatch hx
 | p::r,h,x,hx=>by
  obtain⟨h1,h2,h3⟩:=h p qms;rcases ai.mp hx with rfl|hx
  .exact nP G G
  rcases ai.mp hx with rfl|hx
  .exact gO (qu h3)
  exact mz (fun p hp=>h p (k9 _ hp)) x hx
theorem tZ:∀ prs:List (Int×Str),evs (sT prs)=prs.map (fun p=>cU p.1)/\evs ((sT prs).drop 1)=prs.map (·.2)/\(sT prs).length=2*prs.length
 |[]=>⟨by simp[sT,evs],by simp[sT,evs],rfl⟩
 |[p]=>⟨by simp[sT,evs],by simp[sT,evs],rfl⟩
 | p::q::r=>by
  obtain⟨h1,h2,h3⟩:=tZ (q::r);refine⟨?_,?_,?_⟩
  .show cU p.1::evs (sT (q::r))=_
   rw[h1];rfl
  .show p.2::evs ((sT (q::r)).drop 1)=_
   rw[h2];rfl
  show(sT (q::r)).length+2=_;rw[h3];simp only[ba];exact G
theorem Ox(h:j4 WD prs):b7 (Txt.join " " (sT prs))=sT prs/\g8 (sT prs)=true/\(prs.map (fun p=>cU p.1)).map cL=prs.map fun p=>.int p.1:=by
 obtain⟨h1,h4,hall⟩:=h;obtain⟨e1,e2,e3⟩:=tZ prs;have hne:prs≠[]:=fun z=>by rw[z]at h1;exact absurd h1 b9
 have hw:sT prs≠[]:=fun z=>by
  rw[z]at e3;have e3:0=2*prs.length:=e3;exact G
 have IB:∀ p∈prs,cL (cU p.1)=.int p.1:=fun p hp=>by
  obtain⟨g1,g2,_⟩:=hall p hp;obtain⟨n,hn⟩:∃ n:Nat,p.1=(n:Int):=⟨p.1.toNat,G⟩
  rw[hn,vH G G]
 refine⟨Ae hw (mz hall),?_,?_⟩
 .unfold g8
  rw[e1,e2,e3,cK (show 2*prs.length%2=0 by omega),cK (show 1<=2*prs.length/2 by omega),cK (show 2*prs.length/2<=10 by omega)]
  have a1:(prs.map fun p=>cU p.1).all (fun x=>!decide (cL x=.non))=true:=by
   rw[bP];intro x hx;obtain⟨p,hp,rfl⟩:=cb.mp hx;rw[IB p hp]
   rfl
  have a2:(prs.map (·.2)).all isName=true:=by
   rw[bP];intro x hx;obtain⟨p,hp,rfl⟩:=cb.mp hx;exact qu (hall p hp).2.2
  rw[a1,a2]
  rfl
 rw[dr];exact eS fun p hp=>IB p hp
theorem By{x:Pl} (h:x.kd="take"\/x.kd="lean"):dB x=x.kd++" "++(cU x.num++" "++wrT x.tr):=by
 unfold dB;rw[qp h,yF,yF (x.kd++" ")]
 congr 1
 rw[yF]
theorem yI{x:Pl} (hk:x.kd="pour") (h:j4 WD x.prs):dB x="pour" ++ " "++Txt.join " " (sT x.prs):=by
 have hne:x.prs≠[]:=fun z=>by have:=h.1;rw[z]at this;exact absurd this b9
 unfold dB;rw[bX (by rw[hk];decide +kernel),bX (by rw[hk];decide +kernel),bX (by rw[hk];decide +kernel),qp hk];rw[<- yH hne];cases e:x.prs with
 |nil=>exact absurd e hne
 |cons p r=>exact jq _ _ _
theorem rP(h:kd∈VB):(kd="take"\/kd="lean")\/(kd="give"\/kd="ask")\/kd="keep"\/kd="pour"\/(kd="back"\/kd="again"\/kd="worlds"):=gH (fun kd=>decide ((kd="take"\/kd="lean")\/(kd="give"\/kd="ask")\/kd="keep"\/kd="pour"\/(kd="back"\/kd="again"\/kd="worlds"))) dk h |> eT
theorem QW:("keep ":Str)="keep" ++ " ":=by decide +kernel
theorem yJ{x:Pl} (h:x.kd="give"\/x.kd="ask"):dB x=x.kd++" "++wrT x.tr:=by
 unfold dB;rw[bX (by rcases h with e|e<;>rw[e]<;>decide +kernel),qp h]
theorem yK{x:Pl} (h:x.kd="keep"):dB x="keep" ++ " "++cX x.i:=by
 unfold dB;rw[bX (by rw[h];decide +kernel),bX (by rw[h];decide +kernel),qp h,QW]
theorem row_bare{x:Pl} (h:x.kd="back"\/x.kd="again"\/x.kd="worlds"):dB x=x.kd:=by
 unfold dB;rw[bX (by rcases h with e|e|e<;>rw[e]<;>decide +kernel),bX (by rcases h with e|e|e<;>rw[e]<;>decide +kernel),bX (by rcases h with e|e|e<;>rw[e]<;>decide +kernel),bX (by rcases h with e|e|e<;>rw[e]<;>decide +kernel)]
theorem Hx(hN:Names ns){x:Pl}(h:PlOk ns x):Clean (dB x):=by
 have kp:=yG h.mem;have np:=nP h.nb.vT.1 h.nb.vT.2;have hw:=yD (nM hN h.tr.nm);rcases rP h.mem with e|e|e|e|e
 .rw[By e]
  exact fY kp.2.1 kp.hd (fY np.2.1 np.hd hw)
 .rw[yJ e]
  exact fY kp.2.1 kp.hd hw
 .rw[yK e,<- e]
  exact fY kp.2.1 kp.hd (gO (qu (jL x.i))).clean
 .rw[yI e (h.pr e),<- e]
  refine fY kp.2.1 kp.hd (jc (fun z=>?_) (mz (h.pr e).2.2));have h3:=(tZ x.prs).2.2;have:=(h.pr e).1;rw[z]at h3;have h3:0=2*x.prs.length:=h3;exact G
 rw[row_bare e];exact kp.clean
theorem K4(hN:Names ns){x:Pl}(h:PlOk ns x)(i:Nat):Dy (i,dB x) (mG x):=by
 have kp:=yG h.mem;have np:=nP h.nb.vT.1 h.nb.vT.2;have xw:=nM hN h.tr.nm;have hw:=yD xw;have hwl:=uC hN h.tr;rw[nu]at hwl;have WN:Po (wrT x.tr) x.tr:=Ou xw (by have:=h.tr.dp;exact G) G;refine⟨g9 (rO hN h) b9,?_⟩;show cQ (dB x)=x.kd/\∃ ss:List Str,qm x.kd (bY (dB x)) (dC x) ss/\Paired Po ss (ub x)/\ss.length<=10;rcases rP h.mem with e|e|e|e|e
 .have hc:=fY np.2.1 np.hd hw
  have f1:=(gJ np.1 hw.wc).1;have f2:=(gJ np.1 hw.wc).2;have et:ub x=[x.tr]:=qp (by rcases e with e|e<;>rw[e]<;>decide +kernel);rw[By e,(gJ kp.1 hc.wc).1,(gJ kp.1 hc.wc).2,et];refine⟨Z,[wrT x.tr],?_,.cons WN .nil,gx rfl⟩;have ep:dC x=.v (.int x.num):=qp e;rw[ep];rcases e with e|e
  .refine .inl ⟨tK,.int x.num,by rw[e];exact Hs,?_,rfl⟩
   unfold tK;rw[f1,f2]
   have hp:0<x.num/\x.num<10^30:=by
    rcases h.nb with⟨z,_⟩|⟨_,h0⟩
    .rw[e]at z;exact absurd z dk
    exact h0
   obtain⟨n,hn⟩:∃ n:Nat,x.num=(n:Int):=⟨x.num.toNat,G⟩
   rw[hn,vH G G]
   rfl
  refine .inl ⟨tL,.int x.num,by rw[e];exact Ht,?_,rfl⟩;unfold tL;rw[f1,f2,Ho h.nb.vT.1 h.nb.vT.2]
  rfl
 .have et:ub x=[x.tr]:=qp (by rcases e with e|e<;>rw[e]<;>decide +kernel)
  have ep:dC x=.v .non:=by
   unfold dC;rw[bX (by rcases e with e|e<;>rw[e]<;>decide +kernel),bX (by rcases e with e|e<;>rw[e]<;>decide +kernel),bX (by rcases e with e|e<;>rw[e]<;>decide +kernel)]
  rw[yJ e,(gJ kp.1 hw.wc).1,(gJ kp.1 hw.wc).2,et,ep];exact⟨Z,[wrT x.tr],.inl ⟨wB,.non,Hu e,Z,Z⟩,.cons WN .nil,gx rfl⟩
 .have et:ub x=[]:=bX (by rw[e];decide +kernel)
  have ep:dC x=.v (.str (cX x.i)):=by
   unfold dC;rw[bX (by rw[e];decide +kernel),qp e]
  have hn:=qu (jL x.i);rw[e]at kp;rw[yK e,(gJ kp.1 (gO hn).clean.wc).1,(gJ kp.1 (gO hn).clean.wc).2,et,ep];refine⟨e.symm,[],.inl ⟨qd,.str (cX x.i),by rw[e];exact Hv,?_,Z⟩,.nil,mi _⟩;unfold qd;rw[qp hn]
 .have et:ub x=[]:=bX (by rw[e];decide +kernel)
  have ep:dC x=.ps (x.prs.map fun p=>(p.2,p.1)):=by
   unfold dC;rw[bX (by rw[e];decide +kernel),bX (by rw[e];decide +kernel),qp e]
  have hp:=h.pr e;obtain⟨o1,o2,o3⟩:=Ox hp;obtain⟨e1,e2,e3⟩:=tZ x.prs
  have hc:Clean (Txt.join " " (sT x.prs)):=jc (fun z=>by
   rw[z]at e3;have e3:0=2*x.prs.length:=e3;have:=hp.1
   exact G) (mz hp.2.2)
  rw[e]at kp;rw[yI e hp,(gJ kp.1 hc.wc).1,(gJ kp.1 hc.wc).2,et,ep];refine⟨e.symm,[],.inr ⟨e,Z,x.prs.map fun p=>(p.2,p.1),Z,?_,?_,?_⟩,.nil,mi _⟩
  .rw[o1];exact o2
  .rw[o1,e2,dr];rfl
  rw[o1,e1,o3,dr];rfl
 have et:ub x=[]:=bX (by rcases e with e|e|e<;>rw[e]<;>decide +kernel)
 have ep:dC x=.v .non:=by
  unfold dC;rw[bX (by rcases e with e|e|e<;>rw[e]<;>decide +kernel),bX (by rcases e with e|e|e<;>rw[e]<;>decide +kernel),bX (by rcases e with e|e|e<;>rw[e]<;>decide +kernel)]
 rw[row_bare e,(Hm kp.1).1,(Hm kp.1).2,et,ep];exact⟨Z,[],.inl ⟨tH,.non,Hw e,qp rfl,Z⟩,.nil,mi _⟩
theorem nX:32∉("names":Str).cps.toList/\10∉("names":Str).cps.toList/\∃ c,("names":Str).cps.toList.head?=some c/\¬c=32:=⟨dk,dk,110,dk,b9⟩
theorem Hy(lh:ns.Nodup){n:Str}(h:n∈ns):(ns.map V.str).countP (fun z=>mn z (.str n))=1:=by
 induction ns with
 |nil=>cases h
 | cons m r ih =>
  rw[eW]at lh;rw[b6,gd];have key:∀ a b:Str,mn (.str a) (.str b)=decide (a=b):=fun a b=>rfl
  rcases ai.mp h with e|h
  .subst e
   have:(r.map V.str).countP (fun z=>mn z (.str n))=0:=by
    rw[List.countP_eq_zero];intro z hz;obtain⟨w,hw,rfl⟩:=cb.mp hz;rw[key,gS (show ¬w=n from fun e=>lh.1 (by rw[<- e];exact hw))]
    decide
   rw[this,key,cK rfl]
   rfl
  rw[ih lh.2 h,key,gS (show ¬m=n from fun e=>lh.1 (by rw[e];exact h))]
  rfl
theorem Oz(hN:Names ns)(h1:1<=ns.length)(h8:ns.length<=8):fV ns=true:=by
 unfold fV;rw[cK (show(1:Int)<=(ns.length:Int)by omega),cK (show(ns.length:Int)<=8 by omega)];show(ns.all _)=true;rw[bP];intro n hn;rw[lW (hN.nm n hn),cK (Hy hN.nd hn)]
 rfl
def oT(H:Hp)(p:Addr)(v:V)(rs:List Int):Prop:=∃(a r:Addr),v=.ref a/\H a=some (.tup [.ref p,.ref r])/\H r=some (.tup (rs.map V.int))
theorem oT.tups(s:fF H J){p:Addr}:oT H p v rs->oT J p v rs:=fun⟨a,r,h1,h2,h3⟩=>⟨a,r,h1,s _ _ h2,s _ _ h3⟩
theorem oT.mono(s:bb H J){p:Addr}(h:oT H p v rs):oT J p v rs:=h.tups s.tups
def qw(rss:List (List Int))(i:Nat):Bool:=rss.all fun rs=>decide (rs.getD i 0=0)
def uD(N:Nat)(rss:List (List Int)):List Int:=((List.range N).filter (qw rss)).map fun i:Nat=>(i:Int)
inductive F0(vs:List V)(H:Hp)(Q:VK)(E:XK):Prop
 |mk(l p:Addr)(us:List V)(rss:List (List Int))(i:Nat)(_:vs=[.ref l,.int i])(_:H l=some (.lst us))(_:us.length<=100)(_:Paired (oT H p) us rss)(_:(∀ rs∈rss,i<rs.length))(_:∀ J,bb H J->Q (.bl (qw rss i)) J)
inductive DI(vs:List V)(H:Hp)(Q:VK)(E:XK):Prop
 |mk(l p:Addr)(ns:List Str)(us:List V)(rss:List (List Int))(N:Nat)(_:vs=[.ref l])(_:H l=some (.lst us))(_:H p=some (.tup (ns.map V.str)))(_:Paired (oT H p) us rss)(_:0<us.length)(_:us.length<=100)(_:N<=256)(_:(∀ rs∈rss,rs.length=N))(_:∀(q:Addr)(J:Hp),bb H J->H q=none->J q=some (.lst ((uD N rss).map V.int))->Q (.ref q) J)
theorem K5(T:Txt P w K mg t):FM P w base T.q26 1 F0:=by
 refine T.q26.F.fq (N:=["minds","world"]) eM ?_;rintro nd _ _ _ _ H _ _ _ hr ⟨l,p,us,rss,i,rfl,hl,Co,wa,hi,k⟩;have hlen:=jT wa;refine⟨_,(au (aC (aZ (jC rfl) T.zC Bt.all (aa (bT rfl ["mind","world"] [none,some 1] (bR (O 0)) gT (fun _ _ _ _ _ _=>(iP 0 (l8 (l:=["mind","world"])))) (fun _ _ _ _ _ _=>bZ) (fun _ _ _ _ _ _=>(du aW (cy (iH (K:=K)) (cy (iH (K:=K)) (O 0) ak) (ko 1)) ak (aK _)))) aj)))),?_⟩;refine⟨_,Z,l,Z,⟨_,b5.of hl⟩,?_⟩;refine cF (K:=K) (a:=l) (xs:=us) (fun j ys J=>J=H/\ys=((rss.take j).map fun rs=>decide (rs.getD i 0=0)).map V.bl) ⟨rfl,rfl⟩ (lk G) (fun j ys J ⟨_,e⟩=>by rw[e,de,de,bq];exact G) (fun j ys J ⟨e,_⟩=>by subst e;exact b5.of hl) ?_ ?_
 .rintro j z ys J hj ⟨rfl,rfl⟩
  obtain⟨rs,OM,a,r,rfl,ha,sC⟩:=bx wa j z hj;have hir:=hi rs (pj OM)
  have i2:tw (rs.map V.int) (i:Int)=some (V.int (rs.getD i 0)):=by
   refine bu ?_;rw[kg,List.getD,List.getElem?_eq_getElem hir]
   rfl
  refine⟨⟨Z,trivial⟩,?_⟩;refine⟨_,Z,a,_,1,.ref r,Z,Z,SqT.of ha,Z,_,Z,r,_,_,_,Z,Z,SqT.of sC,i2,Z,Z,?_⟩;rw[qE,OM,ay,ay];have e:decide (V.int (rs.getD i 0)=V.int 0)=decide (rs.getD i 0=0):=decide_eq_decide.mpr ⟨fun z=>V.int.inj z,fun z=>b4 V.int z⟩;rw[e]
  rfl
 rintro ys J ⟨rfl,rfl⟩ lc yT;refine⟨lc,_,Z,b5.of ao,?_⟩
 have e:((rss.take us.length).map fun rs=>decide (rs.getD i 0=0)).all id=qw rss i:=by
  rw[hlen,bp,rh]
  rfl
 rw[e];exact k _ (aB yT)
theorem Hz(T:Txt P w K mg t):FM P w base T.q27 2 DI:=by
 refine T.q27.F.fq (N:=["minds"]) eM ?_;rintro nd _ _ _ _ H _ _ _ hr ⟨l,p,ns,us,rss,N,rfl,hl,hp,wa,h0,Co,hN,KA,k⟩;have hlen:=jT wa
 refine⟨_,(aq (bw (eK T.q24 (xV T) hr bH (aa (ko 0) aj)))
   (au (aC (bT rfl ["world","minds"] [none,some 0] (gK T.zr (aa (aZ aX T.zd Bt.len (aa (cy aJ (cy bh (ko 0) ak) ak) aj)) aj)) gT (fun _ _ _ _ _ _=>(iP 0 (l8 (l:=["world","minds"])))) (fun _ _ _ _ _ _=>jf (cG (eK T.q26 (K5 T) hr aH (aa (ko 1) (aa (O 0) aj))))) (fun _ _ _ _ _ _=>(O 0)))))),?_⟩
 have IE:Paired (z0 H) us (List.replicate us.length ns):=by
  clear k KA h0 Co hl
  induction wa with
  |nil=>exact .nil
  | cons r _ ih =>
   obtain⟨a,b,h1,h2,h3⟩:=r;exact .cons ⟨a,p,.ref b,h1,h2,hp⟩ (ih (by simpa using hlen))
 refine⟨_,Z,l,us,_,Z,hl,IE,fun z=>?_,fun n r Sk _=>?_,fun n r Sk z=>?_⟩
 .have:=b4 List.length z
  rw[c8]at this;exact absurd this (by show us.length≠0;exact G)
 rotate_left
 .refine absurd (fun m hm=>?_) z
  have hm1:=(eL.mp hm).2;have CO:n∈List.replicate us.length ns:=by rw[Sk];exact qms
  rw[hm1,(eL.mp CO).2]
 obtain⟨u0,us',rfl⟩:∃ u us',us=u::us':=by
  cases us with
  |nil=>exact absurd h0 oz
  |cons u us'=>exact⟨u,us',Z⟩
 obtain⟨x0,WA,a0,r0,rfl,OZ,KG⟩:=bx wa 0 u0 rfl;have f1:=KA x0 (pj WA);refine⟨_,Z,l,_,0,.ref a0,Z,Z,b5.of hl,bu (j:=0) rfl,a0,_,1,.ref r0,Z,Z,SqT.of OZ,Z,r0,_,Z,.inr (SqT.of KG),_,Z,G,by rw[de,f1];exact G,?_⟩;rw[de,f1,bE];refine jP (n:=N) (fun j zs J=>bb H J/\zs.length<=j/\zs=(((List.range j).filter (qw rss)).map fun i:Nat=>(i:Int)).map V.int) ⟨bb.refl _,qnr _,rfl⟩ (lk G) (fun j zs J ⟨_,e,_⟩=>e) ?_ ?_
 .rintro j zs J hj ⟨s1,UP,rfl⟩
  refine⟨⟨Z,trivial⟩,?_⟩;refine⟨_,Z,_,Z,l,p,_,rss,j,by rw[hU];rfl,s1 _ _ hl,Co,Paired.ib wa fun _ _ z=>oT.mono s1 z,fun rs OM=>by rw[KA rs OM];exact hj,fun H2 s2=>?_⟩;rw[fA,gp];cases hb:qw rss j with
  | true =>
   refine⟨_,Z,bU ⟨_,Z,s1.trans s2,by rw[af];exact Nat.add_le_add UP (qnr _),?_⟩⟩;rw[fw hb,List.filter_nil,ay,ay,hU]
   rfl
  | false =>
   refine⟨_,Z,bD ⟨s1.trans s2,G,?_⟩⟩;rw[dP (by rw[hb];decide),List.filter_nil,c_]
 rintro zs J ⟨s1,_,rfl⟩ q hq;exact k q _ (s1.trans (aB hq)) (s1.free hq) ao
def fW(rs:List Int):List Nat:=(List.range rs.length).filter fun i=>decide (rs.getD i 0=0)
def BJ(n:Nat)(rs:List Int):Str:=Txt.join " " ((fW rs).map (jK n))
def uE:gA:=fun ns rs ts txt=>txt=BJ ns.length rs
theorem yL(rs:List Int):uD rs.length [rs]=(fW rs).map fun i:Nat=>(i:Int):=by
 unfold uD fW qw
 congr 1
 refine List.filter_congr fun i _=>?_
 show(decide (rs.getD i 0=0)&&true)=_;rw[Bool.and_true]
theorem vK(rs:List Int):(fW rs).length <= rs.length:=by
 unfold fW;refine g9 (eI _ _) ?_;rw[dA];exact qnr _
theorem HF(z:Str)(ys:List Str):(Txt.join z ys).length <= (ys.map (·.length)).sum+ys.length*z.length:=by
 have:=size_glued z ys;show(Builtin.Str.glued z ys).length <= _;rw[this];exact eR (gE _ (Nat.sub_le _ _)) _
theorem yM{ys:List Str}{m:Nat}(h:∀ y∈ys,y.length<=m):(ys.map (·.length)).sum <= ys.length*m:=by
 induction ys with
 |nil=>exact mi _
 | cons y r ih =>
  rw[b6,wq,ba,Nat.succ_mul];have:=h y qms;have:=ih fun z hz=>h z (k9 _ hz)
  exact G
theorem HH(n wd:Nat):(jK n wd).length <= n:=by
 unfold jK;refine g9 (HF _ _) ?_;have e0:("":Str).length=0:=rfl;rw[e0,Nat.mul_zero,Nat.add_zero];refine g9 (yM (m:=1) fun y hy=>?_) ?_
 .obtain⟨i,_,rfl⟩:=cb.mp hy
  exact Nat.le_of_eq (pJ wd i).1
 rw[de,dA];exact G
theorem Af(h8:n<=8)(h:rs.length<=256):(((fW rs).map (jK n)).map (·.length)).sum+((fW rs).map (jK n)).length*(" ":Str).length <= 5000:=by
 have l1:(" ":Str).length=1:=by decide +kernel
 have h1:=yM (ys:=(fW rs).map (jK n)) (m:=8) fun y hy=>by
  obtain⟨i,_,rfl⟩:=cb.mp hy;exact g9 (HH n i) h8
 have h2:=vK rs;rw[de]at h1 ⊢;rw[l1];have:(fW rs).length*8<=256*8:=gE _ G;exact G
theorem xc:ck ["mind","trees"] ["mind","trees"] (aP YA):=eM
theorem HJ(T:Txt P w K mg t):FM P w base T.q85 123 (GV uE):=by
 refine T.q85.F.QO (k:=122) xc (fun ja A outer s H vs Q E hr h=>?_);obtain⟨a,p,r,l,rs,us,ns,ts,txt,rfl,hm,hM,hp,h8,lh,hl,hP,hok,hL,k⟩:=h;have hL:txt=BJ ns.length rs:=hL;subst hL;have nd:=xc.nd;refine⟨_,(au (aC (b8 PySem.F.plainAttrs_str PySem.F.slot_str_join PySem.F.type_str_join mL az (aa (bT rfl ["world","mind"] [none,some 0] (bR (eK T.q27 (Hz T) hr bH (aa (bz (aa (ko 0) aj)) aj))) gT (fun _ _ _ _ _ _=>(iP 0 (l8 (l:=["world","mind"])))) (fun _ _ _ _ _ _=>bZ) (fun _ _ _ _ _ _=>(eK T.q82 (Kp T) hr aH (aa (cy (iH (K:=K)) (ko 1) ak) (aa (O 0) aj))))) aj)))),?_⟩;have sN:=hm.2.2;refine⟨Z,_,Z,lk obz,fun l1 qV=>?_⟩;have s1:=aB (o:=.lst [.ref a]) qV;refine⟨l1,p,ns,[.ref a],[rs],rs.length,Z,ao,s1 _ _ hp,.cons ⟨a,r,Z,s1 _ _ hm.1,s1 _ _ hm.2.1⟩ .nil,gx rfl,gx rfl,sN,fun x hx=>by rw[aI.mp hx],fun q H1 s2 _ hq=>?_⟩;have m_:=s1.trans s2;rw[yL]at hq;have UP:=vK rs;refine⟨q,Z,⟨_,b5.of hq⟩,?_⟩;refine cF (K:=K) (a:=q) (xs:=((fW rs).map fun i:Nat=>(i:Int)).map V.int) (fun i ys J=>bb H1 J/\ys=(((fW rs).take i).map (jK ns.length)).map V.str) ⟨bb.refl _,rfl⟩ (lk (by rw[de,de];exact G)) (fun i ys J ⟨_,e⟩=>by rw[e,de,de,bq];exact G) (fun i ys J ⟨s',_⟩=>b5.of (s' _ _ hq)) ?_ ?_
 .rintro i y ys H2 hi ⟨s3,rfl⟩
  rw[kg,kg]at hi
  obtain⟨c,hc,rfl⟩:∃ c:Nat,(fW rs)[i]?=some c/\y=V.int (c:Int):=by
   cases q:(fW rs)[i]? with
   |none=>rw[q]at hi;cases hi
   |some c=>rw[q]at hi;exact⟨c,Z,(kK hi).symm⟩
  have qA:=m_.trans s3;refine⟨⟨Z,trivial⟩,_,Z,a,_,0,.ref p,Z,Z,SqT.of (qA _ _ hm.1),Z,_,Z,p,ns,c,Z,qA _ _ hp,h8,fun H3 s4=>⟨s3.trans s4,?_⟩⟩;rw[qE,hc,ay,ay]
  rfl
 rintro ys H2 ⟨s3,rfl⟩ l2 mP;rw[de,de,bp];refine⟨_,l2,_,Z,Z,b5.of ao,g9 (Af h8 sN) b9,k _ ((m_.trans s3).trans (aB mP))⟩
theorem nQ(x:List Int×Int)(ps:List (List Int×Int))(i:Nat):cz (x::ps) i=x.2*x.1.getD i 0+cz ps i:=by
 unfold cz;rw[b6,wq]
theorem pM{N i:Nat}(hi:i<N){C:Int}:∀{ps:List (List Int×Int)},(∀ x∈ps,x.1.length=N/\∀ z∈x.1,0<=x.2*z/\x.2*z<=C)->0<=cz ps i/\cz ps i<=(ps.length:Int)*C
 | [],_=>by
  refine⟨ot 0,?_⟩;show(0:Int)<=0*C;exact G
 | x::ps,h=>by
  obtain⟨h1,h2⟩:=pM hi (C:=C) (ps:=ps) fun y hy=>h y (k9 _ hy)
  obtain⟨hl,hx⟩:=h x qms;obtain⟨h3,h4⟩:=hx _ (tu (by rw[hl];exact hi));rw[nQ];refine⟨G,?_⟩;rw[ba,Int.natCast_add,Int.add_mul];exact G
theorem HN{ps:List (List Int×Int)}{m:Int}(h:g0 (bJ (2^ns.length) ps) m):gN ns ((bJ (2^ns.length) ps).map fun x=>x-m):=by
 refine⟨by rw[de,eV],fun z hz=>?_,cb.mpr ⟨m,h.1,Int.sub_self m⟩⟩;obtain⟨x,hx,rfl⟩:=cb.mp hz;have:=h.2 x hx;exact G
theorem yN{N:Nat}{ps:List (List Int×Int)}{z:Int}(h:z∈bJ N ps):∃ i,i<N/\z=cz ps i:=by
 obtain⟨i,hi,e⟩:=cb.mp h;exact⟨i,eP.mp hi,e.symm⟩
theorem K6{N:Nat}{ps:List (List Int×Int)}{m C D:Int}(hl:rs.length=N)(hge:∀ z∈rs,0<=z)(hb:t9 B rs)(R':∀ x∈ps,x.1.length=N/\∀ z∈x.1,0<=x.2*z/\x.2*z<=C)(hD:(ps.length:Int)*C<=D)(hm:g0 (bJ N ((rs,1):: ps)) m):t9 (B+D) ((bJ N ((rs,1):: ps)).map fun x=>x-m):=fun z hz=>by
 obtain⟨x,hx,rfl⟩:=cb.mp hz;obtain⟨j,hj,ej⟩:=yN hm.1;obtain⟨i,hi,rfl⟩:=yN hx;have a1:=pM hi R';have a2:=pM hj R';have b1:=hb _ (tu (by rw[hl];exact hi));have b2:=hge _ (tu (by rw[hl];exact hj));rw[nQ]at ej ⊢;show 1*rs.getD i 0+cz ps i-m<=_;have ej:m=1*rs.getD j 0+cz ps j:=ej;exact G
theorem K7(h:aV ns tr=0):aQ ns tr=cP ns.length:=by
 have:=qI (ns:=ns) (t:=tr);rw[h]at this;have e:(cP ns.length^^^aQ ns tr)^^^aQ ns tr=0^^^aQ ns tr:=by rw[this]
 rw[Nat.xor_assoc,Nat.xor_self,Nat.xor_zero,Nat.zero_xor]at e;exact e.symm
theorem vL(hM:gN ns rs)(h:aQ ns tr≠cP ns.length):∃ x,aU (sel rs (aV ns tr))=some x:=xT hM.len (fun z=>h (K7 z)) fun i hb=>by
 rw[oY]at hb;exact eT (bS.mp hb).1
theorem t6(hM:gN ns rs)(h:aQ ns tr≠0):∃ x,aU (sel rs (aQ ns tr))=some x:=xT hM.len h fun i hb=>by
 rw[cu]at hb;exact eT (bS.mp hb).1
def wK(kd:Str)(L:gA):Prop:=(kd="ask"/\L=Ky)\/(kd="worlds"/\L=uE)
def DV:List Str:=["take","give","lean","pour","back","again"]
def jd(x:Pl):Bool:=decide (x.kd∈DV)
def iz(x:Pl):Bool:=decide (x.kd∈(["ask","worlds"]:List Str))
def i4(ns:List Str)(B:Int)(l:List (List Int)):Prop:=∀ rs∈l,gN ns rs/\t9 B rs
theorem i4.more{ns:List Str}{B B':Int}{l:List (List Int)}(h:i4 ns B l)(hb:B<=B'):i4 ns B' l:=fun rs hr=>⟨(h rs hr).1,(h rs hr).2.more hb⟩
theorem i4.app{l m:List (List Int)}(h:i4 ns B l)(h':i4 ns B m):i4 ns B (l++m):=fun rs hr=>(a_.mp hr).elim (h rs) (h' rs)
theorem Tu(hN:Names ns)(h8:ns.length<=8)(h:CB ns tr):IS tr/\∀ x∈tr.names,x∈ns :=
 ⟨⟨g9 h.sz b9,g9 h.dp b9,⟨ns,G,h.nm⟩,fun x hx=>pE.small (hN.nm x (h.nm x hx))⟩,h.nm⟩
theorem Tv(n:Nat):(1:Int)<=2^n:=by
 have h:=AF.mpr (hJ (n:=n));rw[gz]at h;exact h
theorem yO{z:Int}(h0:0<=z)(h1:z<=B)(hB:B<=2^1900):z.natAbs<2^8192:=by
 refine Int.ofNat_lt.mp ?_;rw[Int.natAbs_of_nonneg h0];refine Int.lt_of_le_of_lt (eo h1 hB) ?_;have h:(2:Nat)^1900<2^8192:=tx b9 b9;have h':=Int.ofNat_lt.mpr h;rw[gz,gz]at h';rw[gz];exact h'
theorem OD:(1:Int).natAbs<2^8192:=by
 show 1<2^8192;exact Nat.one_lt_two_pow b9
theorem QX{kr:Kept}(h:x∈kr.map (·.1)):∃ rs,fL kr x=some rs/\rs∈kr.map (·.2):=by
 induction kr with
 |nil=>cases h
 | cons q r ih =>
  by_cases e:q.1=x
  .exact⟨q.2,by simp[fL,List.find?_cons,e],qms⟩
  rcases ai.mp h with z|h
  .exact absurd z.symm e
  obtain⟨rs,h1,h2⟩:=ih h;refine⟨rs,?_,k9 _ h2⟩;have:fL (q::r) x=fL r x:=by simp[fL,List.find?_cons,e]
  rw[this];exact h1
theorem K8(kr:Kept)(x:Str)(rs:List Int):(iy kr x rs).map (·.1)=if x∈kr.map (·.1)then kr.map (·.1)else kr.map (·.1)++[x]:=by
 have ha:(kr.any fun q=>decide (q.1=x))=decide (x∈kr.map (·.1)):=by
  induction kr with
  |nil=>rfl
  | cons q r ih =>
   rw[eh,ih]
   by_cases e:q.1=x
   .rw[cK e,cK (show x∈(q::r).map (·.1)by rw[<- e];exact qms)];rfl
   rw[gS e,Bool.false_or]
   by_cases m:x∈r.map (·.1)
   .rw[cK m];exact(cK (k9 _ m)).symm
   rw[gS m];exact(gS fun z=>(ai.mp z).elim (fun z=>e z.symm) m).symm
 unfold iy;rw[ha]
 by_cases m:x∈kr.map (·.1)
 .rw[qp (cK m),qp m,dr]
  refine eS fun q _=>?_
  show(if q.1=x then(q.1,rs)else q).1=q.1
  split<;>rfl
 rw[bX (by rw[gS m];decide),bX m,ay]
 rfl
theorem K9{kr:Kept}(h:i4 ns B (kr.map (·.2)))(hr:gN ns rs/\t9 B rs):i4 ns B ((iy kr x rs).map (·.2)):=by
 unfold iy
 split
 .intro z hz
  rw[dr]at hz;obtain⟨q,hq,rfl⟩:=cb.mp hz;show gN ns (if q.1=x then(q.1,rs)else q).2 /\ t9 B (if q.1=x then(q.1,rs)else q).2
  split
  .exact hr
  exact h _ (List.mem_map_of_mem hq)
 rw[ay]
 exact h.app fun z hz=>by
  rw[aI.mp hz];exact hr
theorem lF:∀{l:List Int},0<l.length->∃ m,g0 l m
 |[],h=>absurd h b9
 |[a],_=>⟨a,qms,fun b hb=>by rw[aI.mp hb];exact ot _⟩
 | a::b::r,_=>by
  obtain⟨m,h1,h2⟩:=lF (l:=b::r) (Nat.succ_pos _);rcases AG m a with h|h
  .exact⟨m,k9 _ h1,fun z hz=>(ai.mp hz).elim (fun e=>by rw[e];exact Int.le_of_lt h) (h2 z)⟩
  exact⟨a,qms,fun z hz=>(ai.mp hz).elim (fun e=>by rw[e];exact ot _) fun hz=>eo h (h2 z hz)⟩
theorem OJ{kr:Kept}(hp:j4 (kr.map (·.1)) prs)(hM:gN ns rs)(hB:t9 B rs)(hk:i4 ns B (kr.map (·.2)))(h0:10^31<=B)(h1:B<=2^1900):∃ rs',qj ns kr rs (.ps (prs.map fun p=>(p.2,p.1))) rs'/\gN ns rs'/\t9 (B*2^23) rs':=by
 have XE:0<=B:=eo b9 h0
 obtain⟨ps,hP,R'⟩:∃ ps:List (List Int×Int),Paired (fun(a:Str×Int) b=>fL kr a.1=some b.1/\b.2=a.2) (prs.map fun p=>(p.2,p.1)) ps/\∀ x∈ps,x.1∈kr.map (·.2)/\1<=x.2/\x.2<=1000003:=by
  have:=hp.2.2;clear hp
  induction prs with
  |nil=>exact⟨[],.nil,fun x hx=>nomatch hx⟩
  | cons p r ih =>
   obtain⟨ps,h1,h2⟩:=ih fun q hq=>this q (k9 _ hq)
   obtain⟨g1,g2,g3⟩:=this p qms;obtain⟨z,hz,hm⟩:=QX g3;refine⟨(z,p.1):: ps,.cons ⟨hz,Z⟩ h1,fun x hx=>?_⟩;rcases ai.mp hx with rfl|hx
   .exact⟨hm,g1,g2⟩
   exact h2 x hx
 have hl:=aT hP;rw[de]at hl;have h4:=hp.2.1;have hN:0<2^ns.length:=Nat.two_pow_pos _;obtain⟨m,hm⟩:∃ m,g0 (bJ (2^ns.length) ((rs,1):: ps)) m:=lF (by rw[eV];exact hN)
 have prd:∀ x∈ps,x.1.length=2^ns.length/\∀ z∈x.1,0<=x.2*z/\x.2*z<=1000003*B:=fun x hx=>by
  obtain⟨a1,a2,a3⟩:=R' x hx;obtain⟨g1,g2⟩:=hk _ a1;exact⟨g1.len,fun z hz=>⟨Int.mul_nonneg G (g1.ge z hz),Int.mul_le_mul a3 (g2 z hz) (g1.ge z hz) b9⟩⟩
 have hD:(ps.length:Int)*(1000003*B)<=4*(1000003*B):=Int.mul_le_mul_of_nonneg_right G (Int.mul_nonneg b9 XE);refine⟨_,⟨_,ps,Z,hP,by rw[de];exact G,⟨hM.len,OD,fun z hz=>yO (hM.ge z hz) (hB z hz) h1⟩,fun x hx=>?_,fun m' CS=>by rw[CS.eq hm]⟩,HN hm,(K6 hM.len hM.ge hB prd hD hm).more ?_⟩
 .obtain⟨a1,a2,a3⟩:=R' x hx
  obtain⟨g1,g2⟩:=hk _ a1;exact⟨g1.len,yO G (eo a3 (eo b9 h0)) h1,fun z hz=>yO (g1.ge z hz) (g2 z hz) h1⟩
 have e2:(2:Int)^23=8388608:=by decide
 rw[e2];exact G
theorem La(hM:gN ns rs)(hB:t9 B rs)(h1:B<=2^1900){s1 s2:Nat}{m y:Int}(hm:aU (sel rs s1)=some m)(hy:aU (sel rs s2)=some y):(m-y).natAbs.log2<1920:=by
 have m0:=gG hM hm;have y0:=gG hM hy;have m1:=hB m (mO (dF hm).1);have y1:=hB y (mO (dF hy).1)
 by_cases hz:(m-y).natAbs=0
 .rw[hz];decide
 refine(Nat.log2_lt hz).mpr ?_
 have a1:((m-y).natAbs:Int)<=2^1900:=by
  generalize (2:Int)^1900=N at h1;exact G
 have h:(2:Nat)^1900<2^1920:=tx b9 b9;refine ku (AF.mp ?_) h;rw[gz];exact a1
theorem qy{ns:List Str}(hN:Names ns)(h8:ns.length<=8):∀{pls:List Pl}{a b:Int}{kl:List Str}{st tb:List (List Int)}{kr:Kept}{B:Int},oS ns a b kl pls->(st.length:Int)=a+1->0<=a->(tb.length:Int)=b->kl=kr.map (·.1)->i4 ns B st->i4 ns B tb->i4 ns B (kr.map (·.2))->10^31<=B->B*2^(23*pls.length)<=2^1900 -> ∃ kC xs,Runs wK ns (pls.map mG) st tb kr kC xs/\(∀ m∈kC,gN ns m)/\kC.length=(pls.filter jd).length /\ xs.length=(pls.filter iz).length
 |[],_,_,_,_,_,_,_,_,_,_,_,_,_,_,_,_,_=>⟨[],[],.nil _ _ _,(fun m hm=>nomatch hm),rfl,rfl⟩
 | x::r,a,b,kl,st,tb,kr,B,.cons hT hV hNb hi pk hrest,ia,ha,n9,K2,h1,h2,h3,hB,Ts=>by
  have XE:0<=B:=eo b9 hB
  have Vt:B*2^(23*(x::r).length)=B*2^23*2^(23*r.length):=by
   rw[ba,Nat.mul_add,AB,Int.pow_add,Int.mul_assoc]
  rw[Vt]at Ts
  have uS:B<=B*2^23:=by
   have e2:(2:Int)^23=8388608:=by decide
   rw[e2];exact G
  have hBt:B*2^23<=2^1900:=by
   refine eo ?_ Ts;have:=Int.mul_le_mul_of_nonneg_left (Tv (23*r.length)) (eo XE uS);rw[Int.mul_one]at this;exact this
  have _c:B<=2^1900:=eo uS hBt
  have up:∀{rs:List Int},t9 (B+10^31) rs->t9 (B*2^23) rs:=fun h=>h.more (by
   have e2:(2:Int)^23=8388608:=by decide
   rw[e2];generalize (10:Int)^31=D at hB
   exact G)
  have Vi:∀ u∈ub x,IS u/\∀ y∈u.names,y∈ns:=fun u hu=>by
   unfold ub at hu
   split at hu
   .rw[aI.mp hu]
    exact Tu hN h8 hT
   cases hu
  obtain⟨s0,rs,rfl⟩:∃ s0 rs,st=s0++[rs]:=by
   have hne:st≠[]:=fun z=>by rw[z]at ia;have ia:(0:Int)=a+1:=ia;exact G
   exact⟨_,_,(eJ hne).symm⟩
  obtain⟨hM,NX⟩:=h1 rs (pd _ qms);rw[af,cS]at ia;have hr:=hNb.vT;have D0:(0:Int)<=10^31:=by decide
  have n1:x.num<=10^31:=G
  have n2 : -x.num<=10^31:=G
  have deed:∀{D:Dd}{s' tb':List (List Int)}{rs':List Int},kL x.kd D->D ns kr (s0++[rs]) tb (dC x) (ub x) (s'++[rs']) tb'->x.kd∈DV->((cI x.kd a b kl x.i).2.2=kl/\((s'++[rs']).length:Int)=(cI x.kd a b kl x.i).1+1/\0<=(cI x.kd a b kl x.i).1 /\ (tb'.length:Int)=(cI x.kd a b kl x.i).2.1)->i4 ns (B*2^23) (s'++[rs'])->i4 ns (B*2^23) tb' ->
    ∃ kC xs,Runs wK ns ((x::r).map mG) (s0++[rs]) tb kr kC xs/\(∀ m∈kC,gN ns m)/\kC.length=((x::r).filter jd).length /\ xs.length=((x::r).filter iz).length:=fun hK hD hd ⟨c1,c2,c3,c4⟩ o1 o2=>by
   obtain⟨kC,xs,g1,g2,g3,g4⟩:=qy hN h8 hrest c2 c3 c4 (c1.trans K2) o1 o2 (h3.more uS) (eo hB uS) Ts;have e1:jd x=true:=cK hd
   have e2:iz x=false:=gS (fun z=>by
    have:=bP.mp (show DV.all (fun k=>decide (k∉(["ask","worlds"]:List Str)))=true by decide +kernel) _ hd
    exact absurd z (eT this))
   refine⟨_::kC,xs,.deed Vi hK hD g1,fun m hm=>?_,?_,?_⟩
   .rcases ai.mp hm with rfl|hm
    .exact(o1 _ (pd _ qms)).1
    exact g2 m hm
   .rw[fw e1,ba,ba,g3]
   rw[dP (by rw[e2];decide),g4]
  have HL:∀{D:List Str->Kept->List Int->nL->List Tr->List Int->Prop} {rs':List Int},kL x.kd (newD D)->D ns kr rs (dC x) (ub x) rs'->x.kd∈(["take","give","lean","pour"]:List Str)->gN ns rs'->t9 (B*2^23) rs' ->
    ∃ kC xs,Runs wK ns ((x::r).map mG) (s0++[rs]) tb kr kC xs/\(∀ m∈kC,gN ns m)/\kC.length=((x::r).filter jd).length /\ xs.length=((x::r).filter iz).length:=fun {D rs'} hK hD hd XB hB'=>by
   have ec:cI x.kd a b kl x.i=(a+1,0,kl):=qp hd;refine deed (s':=s0++[rs]) (tb':=[]) hK ⟨s0,rs,rs',rfl,rfl,rfl,hM,hD⟩ ?_ ?_ ((h1.more uS).app fun z hz=>by rw[aI.mp hz];exact⟨XB,hB'⟩) (fun z hz=>nomatch hz)
   .exact bP.mp (show(["take","give","lean","pour"]:List Str).all (fun k=>decide (k∈DV))=true by decide +kernel) _ hd |> eT
   rw[ec];refine⟨Z,?_,by show 0<=a+1;exact G,Z⟩;show(((s0++[rs])++[rs']).length:Int)=a+1+1;rw[af,af];show((s0.length+1+1:Nat):Int)=_;exact G
  have ans:∀{L:gA} {txt:Str},wK x.kd L->L ns rs (ub x) txt->(x.kd="ask"\/x.kd="worlds") ->
    ∃ kC xs,Runs wK ns ((x::r).map mG) (s0++[rs]) tb kr kC xs/\(∀ m∈kC,gN ns m)/\kC.length=((x::r).filter jd).length /\ xs.length=((x::r).filter iz).length:=fun hK hL hd=>by
   have ec:cI x.kd a b kl x.i=(a,b,kl):=by
    unfold cI;rw[bX (by rcases hd with e|e<;>rw[e]<;>decide +kernel),bX (by rcases hd with e|e<;>rw[e]<;>decide +kernel),bX (by rcases hd with e|e<;>rw[e]<;>decide +kernel),bX (fun z=>by rcases hd with e|e<;>rw[e]at z<;>exact absurd z.1 dk)]
   rw[ec]at hrest;obtain⟨kC,xs,g1,g2,g3,g4⟩:=qy hN h8 hrest (by rw[af];show((s0.length+1:Nat):Int)=_;exact G) ha n9 K2 (h1.more uS) (h2.more uS) (h3.more uS) (eo hB uS) Ts;have e1:jd x=false:=gS (by rcases hd with e|e<;>rw[e]<;>decide +kernel);have e2:iz x=true:=cK (by rcases hd with e|e<;>rw[e]<;>decide +kernel);refine⟨kC,_::xs,.ans Vi rfl hM hK hL g1,g2,?_,?_⟩
   .rw[dP (by rw[e1];decide),g3]
   rw[fw e2,ba,ba,g4]
  have UU:x.kd∈(["take","lean","give","ask"]:List Str)->ub x=[x.tr]:=fun h=>qp h
  have D6:(x.kd="take"\/x.kd="lean")->dC x=.v (.int x.num):=fun h=>qp h
  rcases rP hV.mem with(e|e) | (e|e)|e|e | (e|e|e)
  .obtain⟨y,hy⟩:=t6 hM (hV.tk e)
   exact HL (D:=fun ns _ rs fk ts rs'=>Dt ns rs fk ts rs') (by rw[e];exact .take) ⟨x.num,x.tr,D6 (.inl e),UU (by rw[e];decide +kernel),rfl,.inr ⟨y,hy⟩⟩ (by rw[e];decide +kernel) (hM.PV _ _) (up (JX hM D0 n1 n2 NX))
  .obtain⟨p,hp⟩:=vL hM (hV.ln e).2
   obtain⟨q,hq⟩:=t6 hM (hV.ln e).1;exact HL (D:=fun ns _ rs fk ts rs'=>Dv ns rs fk ts rs') (by rw[e];exact .lean) ⟨x.num,x.tr,p,q,D6 (.inr e),UU (by rw[e];decide +kernel),hp,hq,rfl⟩ (by rw[e];decide +kernel) (gN.C2 ⟨hM.len,hp,hq⟩ _) (up (rC (gG hM hp) (gG hM hq) D0 n1 n2 NX))
  .obtain⟨y,hy⟩:=vL hM (hV.gv e)
   exact HL (D:=fun ns _ rs _ ts rs'=>Du ns rs ts rs') (by rw[e];exact .give) ⟨x.tr,UU (by rw[e];decide +kernel),rfl,y,hy⟩ (by rw[e];decide +kernel) (hM.Tz _) (up (JW hM D0 NX))
  .refine ans (L:=Ky) (.inl ⟨e,rfl⟩) ⟨x.tr,UU (by rw[e];decide +kernel),rfl,fun m y hm hy=>La hM NX _c hm hy⟩ (.inl e)
  . -- keep
    have ep:dC x=.v (.str (cX x.i)):=by
     unfold dC;rw[bX (by rw[e];decide +kernel),qp e]
    have et:ub x=[]:=bX (by rw[e];decide +kernel)
    have ec:cI x.kd a b kl x.i=(a,b,(iy kr (cX x.i) rs).map (·.1)):=by
     unfold cI;rw[bX (by rw[e];decide +kernel),bX (by rw[e];decide +kernel),bX (by rw[e];decide +kernel),K8,<- K2]
     by_cases m:cX x.i∈kl
     .rw[bX (fun z=>z.2 m),qp m]
     rw[qp ⟨e,m⟩,bX m]
    rw[ec]at hrest;obtain⟨kC,xs,g1,g2,g3,g4⟩:=qy hN h8 hrest (by rw[af];show((s0.length+1:Nat):Int)=_;exact G) ha n9 rfl (h1.more uS) (h2.more uS) ((K9 h3 ⟨hM,NX⟩).more uS) (eo hB uS) Ts;have e1:jd x=false:=gS (by rw[e];decide +kernel);have e2:iz x=false:=gS (by rw[e];decide +kernel);refine⟨kC,xs,?_,g2,?_,?_⟩
    .show Runs wK ns ((x.kd,dC x,ub x):: r.map mG) _ _ _ _ _
     rw[ep,et,e];exact .keep rfl g1
    .rw[dP (by rw[e1];decide),g3]
    rw[dP (by rw[e2];decide),g4]
  .obtain⟨rs',p1,p2,p3⟩:=OJ (K2 ▸ pk (hV.pr e)) hM NX h3 hB _c
   have ep:dC x=.ps (x.prs.map fun p=>(p.2,p.1)):=by
    unfold dC;rw[bX (by rw[e];decide +kernel),bX (by rw[e];decide +kernel),qp e]
   exact HL (D:=fun ns kr rs fk _ rs'=>qj ns kr rs fk rs') (by rw[e];exact .DS) (by rw[ep];exact p1) (by rw[e];decide +kernel) p2 p3
  . -- back
    have hne:s0≠[]:=fun z=>by
     rw[z]at ia;have ia:(1:Int)=a+1:=ia;exact hV.bk e G
    obtain⟨s',rs',rfl⟩:∃ s' rs',s0=s'++[rs']:=⟨_,_,(eJ hne).symm⟩
    have ec:cI x.kd a b kl x.i=(a-1,b+1,kl):=by
     unfold cI;rw[bX (by rw[e];decide +kernel),qp e]
    refine deed (D:=wC) (s':=s') (rs':=rs') (tb':=tb++[rs]) (by rw[e];exact .back) ⟨_,rs,rfl,hne,rfl,rfl⟩ (by rw[e];decide +kernel) ?_ (i4.more (B:=B) (l:=s'++[rs']) (fun z hz=>h1 z (xi _ hz)) uS) ((h2.more uS).app fun z hz=>by rw[aI.mp hz];exact⟨hM,NX.more uS⟩);rw[ec];rw[af,cS]at ia;refine⟨Z,?_,by show 0<=a-1;exact G,?_⟩
    .show((s'++[rs']).length:Int)=a-1+1
     rw[af,cS];exact G
    show((tb++[rs]).length:Int)=b+1;rw[af,cS];exact G
  . -- again
    have hne:tb≠[]:=fun z=>by
     rw[z]at n9;have n9:(0:Int)=b:=n9;exact hV.ag e n9.symm
    obtain⟨t0,y,rfl⟩:∃ t0 y,tb=t0++[y]:=⟨_,_,(eJ hne).symm⟩
    have ec:cI x.kd a b kl x.i=(a+1,b-1,kl):=by
     unfold cI;rw[bX (by rw[e];decide +kernel),bX (by rw[e];decide +kernel),qp e]
    refine deed (D:=tU) (s':=s0++[rs]) (rs':=y) (tb':=t0) (by rw[e];exact .again) ⟨_,y,rfl,rfl,rfl⟩ (by rw[e];decide +kernel) ?_ ((h1.more uS).app (i4.more (B:=B) (l:=[y]) (fun z hz=>h2 z (pd _ hz)) uS)) (i4.more (B:=B) (l:=t0) (fun z hz=>h2 z (xi _ hz)) uS);rw[ec];rw[af,cS]at n9;refine⟨Z,?_,by show 0<=a+1;exact G,?_⟩
    .show(((s0++[rs])++[y]).length:Int)=a+1+1
     rw[af,af];show((s0.length+1+1:Nat):Int)=_;exact G
    show(t0.length:Int)=b-1;exact G
  exact ans (L:=uE) (.inr ⟨e,rfl⟩) rfl (.inr e)
def ip(H:Hp)(ns:List Str)(v:V)(rs:List Int):Prop:=∃ a nb r,v=.ref a/\cq H a nb r rs/\H nb=some (.tup (ns.map V.str))
theorem ip.tups(s:fF H J):ip H ns v rs->ip J ns v rs:=fun⟨a,nb,r,e,h,h2⟩=>⟨a,nb,r,e,⟨s _ _ h.1,s _ _ h.2.1,h.2.2⟩,s _ _ h2⟩
def u_(H:Hp)(ns:List Str)(ks:List (Key×V))(kr:Kept):Prop:=Paired (fun(p:Key×V)(q:Str×List Int)=>p.1=.inr q.1/\ip H ns p.2 q.2) ks kr
theorem u_.tups{H J:Hp}(s:fF H J){ns:List Str}{ks:List (Key×V)}{kr:Kept}(h:u_ H ns ks kr):u_ J ns ks kr:=Paired.ib h fun _ _ z=>⟨z.1,z.2.tups s⟩
theorem QZ{kr:Kept}(h:u_ H ns ks kr)(x:Str):(fL kr x=none->bN ks (.inr x)=none)/\∀ rs,fL kr x=some rs->∃ v,bN ks (.inr x)=some v/\ip H ns v rs:=by
 induction h with
 |nil=>exact⟨(fun _=>rfl),fun rs e=>nomatch e⟩
 | @cons p q ks kr r _ ih =>
  by_cases e:q.1=x
  .have e1:fL (q::kr) x=some q.2:=by simp[fL,List.find?_cons,e]
   have e2:bN (p::ks) (.inr x:Key)=some p.2:=dw (by rw[r.1,e]);rw[e1,e2];exact⟨(fun z=>nomatch z),fun rs z=>⟨_,rfl,by cases z;exact r.2⟩⟩
  have e1:fL (q::kr) x=fL kr x:=by simp[fL,List.find?_cons,e]
  have e2:bN (p::ks) (.inr x:Key)=bN ks (.inr x):=dz (by rw[r.1];exact fun z=>e (l4 z));rw[e1,e2];exact ih
def gB(N:Nat)(ps:List (List Int×Int))(x:List Int×Int)(j:Nat):List Int:=(List.range N).map fun w=>cz ps w+if w<j then x.2*x.1.getD w 0 else 0
theorem mC(N:Nat)(ps:List (List Int×Int))(x:List Int×Int)(j:Nat):(gB N ps x j).length=N:=by unfold gB;simp
theorem nR{N w:Nat}(ps:List (List Int×Int))(x:List Int×Int)(j:Nat)(h:w<N):(gB N ps x j)[w]?=some (cz ps w+if w<j then x.2*x.1.getD w 0 else 0):=by
 unfold gB;rw[kg,List.getElem?_range h]
 rfl
theorem DP(N:Nat)(ps:List (List Int×Int))(x:List Int×Int):gB N ps x 0=bJ N ps:=by
 unfold gB bJ;refine eS fun w _=>?_
 rw[bX (Nat.not_lt_zero w)];exact Int.add_zero _
theorem HQ(N:Nat)(ps:List (List Int×Int))(x:List Int×Int):gB N ps x N=bJ N (ps++[x]):=by
 unfold gB bJ;refine eS fun w hw=>?_
 rw[qp (eP.mp hw),sV]
theorem HR{N:Nat}(ps:List (List Int×Int))(x:List Int×Int)(hj:j<N):((gB N ps x j).map V.int).set j (.int (cz ps j+x.2*x.1.getD j 0))=(gB N ps x (j+1)).map V.int:=by
 refine List.ext_getElem? fun w=>?_
 rw[List.getElem?_set,de,mC]
 by_cases hw:w<N
 .by_cases e:j=w
  .subst e
   rw[qp rfl,qp hw,kg,nR _ _ _ hw,qp (lI j)]
   rfl
  rw[bX e,kg,kg,nR _ _ _ hw,nR _ _ _ hw];have:(w<j)=(w<j+1):=propext ⟨fun h=>G,fun h=>G⟩;simp only[this]
 rw[bX G,List.getElem?_eq_none (by rw[de,mC];exact G),List.getElem?_eq_none (by rw[de,mC];exact G)]
theorem Lb{N:Nat}(h:rs.length=N):bJ N [(rs,1)]=rs:=by
 refine List.ext_getElem? fun i=>?_
 by_cases hi:i<N
 .unfold bJ
  rw[kg,List.getElem?_range hi];show some (cz [(rs,1)] i)=_;rw[nQ,List.getElem?_eq_getElem G];have e:cz [] i=0:=rfl;rw[e];show some (1*rs.getD i 0+0)=_;rw[List.getD,List.getElem?_eq_getElem G];show some (1*rs[i]+0)=some rs[i];rw[Int.one_mul,Int.add_zero]
 rw[List.getElem?_eq_none (by rw[eV];exact G),List.getElem?_eq_none G]
inductive FX(vs:List V)(H:Hp)(Q:VK)(E:XK):Prop
 |mk(a kd pl b:Addr)(ns:List Str)(rs rs':List Int)(ks:List (Key×V))(kr:Kept)(us:List V)(prs:List (Int×Str))(_:vs=[.ref a,.ref kd,.ref pl,.ref b])(_:ip H ns (.ref a) rs)(_:H kd=some (.dK ks))(_:u_ H ns ks kr)(_:H pl=some (.lst us))(_:Paired (uz H) us prs)(_:ip H ns (.ref b) rs')(_:ns.length<=8)(_:qj ns kr rs (.ps (prs.map fun p=>(p.2,p.1))) rs')(_:∀ J,bb H J->Q (.bl true) J)
theorem AN:ck ["_law_before","_law_kept","_law_pairs","_law_after","_law_sums","_law_weight","_law_word","_law_world","_law_rank","_law_gap"] ["_law_before","_law_kept","_law_pairs","_law_after"] (aP JB):=eM
theorem Ld(T:Txt P w K mg t):FM P w base T.q109 1 FX:=by
 refine T.q109.F.QO AN (fun ja A outer s H vs Q E hr h=>?_);obtain⟨a,kd,pl,b,ns,rs,rs',ks,kr,us,prs,rfl,⟨_,na,ra,ea,ha,hna⟩,AY,IG,ic,pk,⟨_,nb,rb,eb,hb,hnb⟩,h8,⟨l,ps,el,hP,Lu,Lc,y4,D5⟩,k⟩:=h;cases ea;cases eb;cases el;have nd:=AN.nd;have hu:=eO hr;have qV:=aT pk;have mP:=aT hP;rw[de]at mP Lu
 refine ⟨_,(aq (fR 4 nd (dG oG T.zD Bt.list (aa (cy aJ (O 0) ak) aj)))
   (aq (eG kR rfl (bR (O 2)) (jA (n:=2) rfl (bG (iP 5 nd) (bG (iP 6 nd) dO)))
    (au (eG kR rfl (oO (cy aJ (pW hu (O 1) (O 6) (fun _ _=>rfl)) ak) T.zw) (jA (n:=2) rfl (bG (iP 7 nd) (bG (iP 8 nd) dO)))
     (au (Pa (aF cO (cy bh (O 4) (O 7)) (aF Bb (O 5) (O 8))) (O9 (O 4) (O 7) set_list))))))
   (aq (fR 9 nd (aZ (uU rfl) T.zM Bt.min (aa (O 4) aj)))
   (aq (eG kR rfl (oO (cy aJ (O 3) ak) T.zw) (jA (n:=2) rfl (bG (iP 7 nd) (bG (iP 8 nd) dO)))
    (au (aO (aG gq (aF cV (cy bh (O 4) (O 7)) (O 8)) (O 9) (aK _))
     (au (aC fB))
     aM)))
   (au (aC fB)))))),?_⟩
 obtain⟨N,hN⟩:∃ N,N=2^ns.length:=⟨_,rfl⟩
 have To:0<N:=hN ▸ Nat.two_pow_pos _;have Z':N<=256:=hN ▸ b3 (n:=2) b9 h8;rw[<- hN]at Lc y4 D5;have KA:rs.length=N:=Lc.1;obtain⟨m,hm⟩:∃ m,g0 (bJ N ((rs,1):: ps)) m:=lF (by rw[eV];exact To);have D5:=D5 m hm;have rl:rs'.length=N:=by rw[D5,de,eV]
 refine⟨_,Z,a,_,1,.ref ra,Z,Z,SqT.of ha.1,Z,ra,_,Z,.inr (SqT.of ha.2.1),fun ls U'=>?_⟩;have er:rs.map V.int=(bJ N ((rs,1):: ps.take 0)).map V.int:=by rw[List.take_zero,Lb KA]
 rw[er];have u1:=aB (o:=.lst ((bJ N ((rs,1):: ps.take 0)).map V.int)) U'
 refine⟨_,rfl,pl,rfl,⟨_,b5.of (u1 _ _ ic)⟩,fJ (K:=K) (a:=pl) (xs:=us)
  (fun i M H3=>∃(o5 o6 o7 o8:Option V),M=[some (.ref a),some (.ref kd),some (.ref pl),some (.ref b),some (.ref ls),o5,o6,o7,o8,none]/\bb H H3/\H3 ls=some (.lst ((bJ N ((rs,1):: ps.take i)).map V.int)))
  ⟨none,none,none,none,rfl,u1,ao⟩ (fun i M H3 _ ⟨_,_,_,_,_,s3,_⟩=>b5.of (s3 _ _ ic)) ?_ ?_⟩
 .rintro i y M H3 hi ⟨o5,o6,o7,o8,rfl,s3,D7⟩
  obtain⟨p,hp,qx,rfl,hq⟩:=bx pk i y hi;obtain⟨x,hx,MV,hw⟩:=bx hP i (p.2,p.1) (by rw[kg,hp];rfl);have hw:x.2=p.1:=hw;obtain⟨g1,g2,g3⟩:=y4 x (pj hx);obtain⟨v,hv,av,nv,rv,rfl,NC,_⟩:=(QZ IG p.2).2 _ MV;refine⟨qx,_,Z,SqT.of (s3 _ _ hq),Z,_,_,Z,_,_,Z,Z,?_⟩
  refine⟨_,rfl,_,rfl,kd,_,rfl,.inl ⟨ks,.inr p.2,.inl (s3 _ _ AY),rfl,hv.symm⟩,av,_,1,.ref rv,rfl,rfl,SqT.of (s3 _ _ NC.1),rfl,rv,rfl,⟨_,SqT.of (s3 _ _ NC.2.1)⟩,oR (K:=K) (a:=rv) (xs:=x.1.map V.int)
   (fun j M H4=>∃(o7 o8:Option V),M=[some (.ref a),some (.ref kd),some (.ref pl),some (.ref b),some (.ref ls),some (.int p.1),some (.str p.2),o7,o8,none]/\bb H H4/\H4 ls=some (.lst ((gB N ((rs,1):: ps.take i) x j).map V.int)))
   ⟨_,_,rfl,s3,by rw[DP];exact D7⟩ (fun j M H4 _ ⟨_,_,_,s4,_⟩=>SqT.of (s4 _ _ NC.2.1)) ?_ ?_⟩
  .rintro j z M H4 hj ⟨o7,o8,rfl,s4,IF⟩ d hd
   have SH:j<N:=by
    have:=(List.getElem?_eq_some_iff.mp hj).1;rw[de]at this;exact G
   rw[kg]at hj
   obtain⟨c,hc,rfl⟩:∃ c,x.1[j]?=some c/\z=V.int c:=by
    cases e:x.1[j]? with
    |none=>rw[e]at hj;cases hj
    |some c=>rw[e]at hj;exact⟨c,Z,(kK hj).symm⟩
   have ec:x.1.getD j 0=c:=by rw[List.getD,hc];rfl
   have v1:=aB (o:=.tup [.int j,.int c]) hd;have Sz:=v1 _ _ IF
   have at_:tw ((gB N ((rs,1):: ps.take i) x j).map V.int) (j:Int)=some (.int (cz ((rs,1):: ps.take i) j)):=by
    refine bu ?_;rw[kg,nR _ _ _ SH,bX (cw j),Int.add_zero]
    rfl
   refine⟨d,_,Z,SqT.of ao,Z,_,_,Z,_,_,Z,Z,?_⟩;refine⟨_,Z,_,Z,ls,_,_,_,Z,Z,b5.of Sz,at_,_,Z,_,Z,_,_,Z,Z,⟨hw ▸ g2,g3 c (pj hc)⟩,_,_,Z,Z,_,Z,_,Z,ls,_,_,j,Z,Z,Sz,?_,?_⟩
   .rw[de,mC]
    unfold ixN;rw[qp (hW j),qp G]
    rfl
   have e2:((gB N ((rs,1):: ps.take i) x j).map V.int).set j (.int (cz ((rs,1):: ps.take i) j+p.1*c))=(gB N ((rs,1):: ps.take i) x (j+1)).map V.int:=by rw[<- HR _ _ SH,ec,hw]
   try dsimp -proj -iota only
   rw[e2];refine⟨_,_,Z,fun c o e=>?_,ao⟩;rw[aA (aD e U')];exact v1 _ _ (s4 _ _ e)
  rintro M H4 ⟨o7,o8,rfl,s4,IF⟩;rw[de,g1,HQ]at IF;refine⟨_,_,_,_,Z,s4,?_⟩;rw[qE,hx];exact IF
 rintro M H3 ⟨o5,o6,o7,o8,rfl,s3,D7⟩;rw[show us.length=ps.length by omega,bp]at D7;refine⟨_,Z,ls,_,Z,b5.of D7,by rw[eV];exact To,fun aad h1 h2=>?_⟩;obtain rfl:=g0.eq hm ⟨h1,h2⟩
 refine⟨_,rfl,b,_,1,.ref rb,rfl,rfl,SqT.of (s3 _ _ hb.1),rfl,rb,rfl,⟨_,SqT.of (s3 _ _ hb.2.1)⟩,oR (K:=K) (a:=rb) (xs:=rs'.map V.int)
  (fun j M H4=>∃(o7 o8:Option V),M=[some (.ref a),some (.ref kd),some (.ref pl),some (.ref b),some (.ref ls),o5,o6,o7,o8,some (.int m)]/\bb H3 H4)
  ⟨_,_,rfl,bb.refl _⟩ (fun j M H4 _ ⟨_,_,_,s4⟩=>SqT.of (s4 _ _ (s3 _ _ hb.2.1))) ?_ ?_⟩
 .rintro j z M H4 hj ⟨o7,o8,rfl,s4⟩ d hd
  have SH:j<N:=by
   have:=(List.getElem?_eq_some_iff.mp hj).1;rw[de]at this;exact G
  have hz:z=.int (cz ((rs,1):: ps) j-m):=by
   rw[kg,D5,kg]at hj;unfold bJ at hj;rw[kg,List.getElem?_range SH]at hj;exact(kK hj).symm
  subst hz;have v1:=aB (o:=.tup [.int j,.int (cz ((rs,1):: ps) j-m)]) hd
  have at_:tw ((bJ N ((rs,1):: ps)).map V.int) (j:Int)=some (.int (cz ((rs,1):: ps) j)):=by
   refine bu ?_;rw[kg];unfold bJ;rw[kg,List.getElem?_range SH]
   rfl
  refine⟨d,_,Z,SqT.of ao,Z,_,_,Z,_,_,Z,Z,?_⟩;refine⟨_,Z,_,Z,ls,_,_,_,Z,Z,b5.of (v1 _ _ (s4 _ _ D7)),at_,_,Z,_,_,Z,Z,_,Z,Z,_,Z,?_⟩;have e:decide (V.int (cz ((rs,1):: ps) j-(cz ((rs,1):: ps) j-m))=V.int m)=true:=cK (b4 V.int G)
  try dsimp -proj -iota only
  rw[e];exact bD ⟨_,_,rfl,s4.trans v1⟩
 rintro M H4 ⟨o7,o8,rfl,s4⟩;exact k _ (s3.trans s4)
inductive spLaw(K:W.Frag)(vs:List V)(H:Hp)(Q:VK)(E:XK):Prop
 |mk(a:Addr)(ns:List Int)(_:vs=[.ref a])(_:b5 K H a (ns.map V.int))(_:ns.length<=63)(_:∀ J,Q (.bl true) J)
inductive BC(vs:List V)(H:Hp)(Q:VK)(E:XK):Prop
 |mk(q al ml:Addr)(xs:List Str)(ms:List V)(a d:Int)(_:vs=[.ref q,.int a,.int d])(_:H q=some (.tup [.ref al,.ref ml]))(_:H al=some (.lst (xs.map V.str)))(_:H ml=some (.lst ms))(_:a=(xs.length:Int))(_:d=(ms.length:Int))(_:Q (.bl true) H)
theorem Ag{na nb r q:Addr}(h1:cq H a na r rs)(h2:cq H b nb q rs)(e1:H na=some (.tup (ns.map V.str)))(e2:H nb=some (.tup (ns.map V.str))):xF K H (.ref a) (.ref b):=by
 refine⟨a,b,_,_,Z,Z,.inl ⟨SqT.of h1.1,SqT.of h2.1⟩,Z,fun j x y z1 z2=>?_⟩
 match j with
 | 0=>cases z1;cases z2;exact Jj (SqT.of e1) (SqT.of e2) 59
 | 1=>cases z1;cases z2;exact Ji (SqT.of h1.2.1) (SqT.of h2.2.1) 59
 |j+2=>cases z1
theorem t7{ns:List Str}(hN:Names ns):∀(pls:List Pl)(k:Nat),(∀ x∈pls,PlOk ns x)->Paired Dy (((pls.map dB).zipIdx k).map fun(x:Str×Nat)=>(x.2,x.1)) (pls.map mG)
 |[],_,_=>.nil
 |x::r,k,h=>.cons (K4 hN (h x qms) k) (t7 hN r (k+1) fun y hy=>h y (k9 _ hy))
theorem HS(hN:Names ns)(h1:1<=ns.length){pls:List Pl}(hok:∀ x∈pls,PlOk ns x):qg (my ns pls)=(0,("names" ++ " "++Txt.join " " ns)):: (((pls.map dB).zipIdx 1).map fun(x:Str×Nat)=>(x.2,x.1)):=by
 have OS:∀ n∈ns,isName n=true:=fun n hn=>lW (hN.nm n hn)
 have hne:ns≠[]:=fun z=>by rw[z]at h1;exact absurd h1 b9
 unfold my;rw[Oq (da _ _) fun p hp=>?_]
 .rfl
 rcases ai.mp hp with rfl|hp
 .exact fY nX.2.1 nX.2.2 (jc hne fun n hn=>gO (OS n hn))
 obtain⟨x,hx,rfl⟩:=cb.mp hp;exact Hx hN (hok x hx)
theorem HW(hN:Names ns)(h1:1<=ns.length)(h8:ns.length<=8){pls:List Pl}(hok:∀ x∈pls,PlOk ns x)(_d:pls.length<=90): ∃(r0:Str) (rest:List (Nat×Str)),(my ns pls).length <= fU/\qg (my ns pls)=(0,r0):: rest/\r0.length<=fU/\cQ r0="names"/\fV (b7 (bY r0))=true/\b7 (bY r0)=ns/\rest.length<=300/\Paired Dy rest (pls.map mG):=by
 have OS:∀ n∈ns,isName n=true:=fun n hn=>lW (hN.nm n hn)
 have hne:ns≠[]:=fun z=>by rw[z]at h1;exact absurd h1 b9
 have hj:Clean (Txt.join " " ns):=jc hne fun n hn=>gO (OS n hn)
 obtain⟨f1,f2⟩:=gJ nX.1 hj.wc;have hw:=words_of hne OS;obtain⟨n1,n2⟩:=vJ hN h8;have l5:("names":Str).length=5:=by decide +kernel
 have l1:(" ":Str).length=1:=by decide +kernel
 have lr:("names" ++ " "++Txt.join " " ns:Str).length <= 205:=by
  rw[aE,aE];exact G
 have hlen:(my ns pls).length <= fU:=by
  unfold my;refine g9 (rN _ _) ?_
  have hs:=tY (ys:=("names" ++ " "++Txt.join " " ns):: pls.map dB) (m:=205) fun y hy=>by
   rcases ai.mp hy with rfl|hy
   .exact lr
   obtain⟨x,hx,rfl⟩:=cb.mp hy;exact rO hN (hok x hx)
  have ln:("\n":Str).length=1:=by decide +kernel
  rw[ba,de]at hs ⊢;rw[ln];have:(pls.length+1)*205<=91*205:=gE _ G;have hm:30000<=fU:=by decide
  exact G
 refine⟨_,_,hlen,HS hN h1 hok,g9 lr b9,f1,?_,?_,?_,t7 hN pls 1 hok⟩
 .rw[f2,hw]
  exact Oz hN h1 h8
 .rw[f2,hw]
 rw[de,List.length_zipIdx,de];exact G
theorem vM{x:V}:ip H ns x rs->ip H ns y rs->xF K H x y:=fun⟨_,_,_,e1,h1,n1⟩ ⟨_,_,_,e2,h2,n2⟩=>by
 subst e1 e2;exact Ag h1 h2 n1 n2
theorem dM(s:fF H J)(h:Paired (ip H ns) vs rss):Paired (ip J ns) vs rss:=Paired.ib h fun _ _ z=>z.tups s
inductive BD(vs:List V)(H:Hp)(Q:VK)(E:XK):Prop
 |mk(H0:Hp)(no sl ul kd b:Addr)(v:V)(x:Pl)(ns:List Str)(sv bv:List V)(st tb s' tb':List (List Int))(rs':List Int)(ks:List (Key×V))(kr:Kept)(D:Dd)(_:vs=[v,.ref sl,.ref ul,.ref kd,.ref b])(_:iF no H0 v x)(_:bb H0 H)(_:H0 sl=none)(_:H0 ul=none)(_:H sl=some (.lst sv))(_:H ul=some (.lst bv))(_:sl≠ul)(_:H kd=some (.dK ks))(_:u_ H ns ks kr)(_:sv.length<=400)(_:bv.length<=400)(_:ns.length<=8)(_:Paired (ip H ns) sv st)(_:Paired (ip H ns) bv tb)(_:ip H ns (.ref b) rs')(_:kL x.kd D)(_:D ns kr st tb (dC x) (ub x) (s'++[rs']) tb')(_:∀(Uz bv':List V)(J:Hp),(∀ c o,H c=some o->c≠sl->c≠ul->J c=some o)->J sl=some (.lst Uz)->J ul=some (.lst bv')->Paired (ip J ns) Uz (s'++[rs'])->Paired (ip J ns) bv' tb'->Q (.bl true) J)
theorem DQ(T:Txt P w K mg t):FM P w base T.q107 1 BC:=by
 refine T.q107.F.fq (N:=["_law_found","_law_answers","_law_deeds","_law_line"]) eM ?_;rintro nd _ _ _ _ H _ _ _ hr ⟨q,al,ml,xs,ms,a,d,rfl,hq,rd,wb,ea,ed,k⟩
 refine ⟨_,(aq (aO (PW.pt (dN (cZ (cG (aZ gb T.zq Bt.isinstance (aa (O 0) (aa (jQ (v:=.ty "tuple") T.zn Bt.tuple rfl) aj))))) (dN (aG gq (aZ aX T.zd Bt.len (aa (O 0) aj)) ak (aK _)) (dN (cZ (cG (aZ gb T.zq Bt.isinstance (aa (cy aJ (O 0) ak) (aa (jQ (v:=.ty "list") T.zD Bt.list rfl) aj))))) (eZ (aG gq (aZ aX T.zd Bt.len (aa (cy aJ (O 0) ak) aj)) (O 1) (aK _)))))))
    (au (aC fB))
    aM)
   (aq (eG kR rfl (bR (cy aJ (O 0) ak)) (iP 3 nd)
    (au (aO (cZ (cG (aZ gb T.zq Bt.isinstance (aa (O 3) (aa (jQ (v:=.ty "str") T.zA Bt.str rfl) aj)))))
     (au (aC fB))
     aM)))
   (au (aC (nZ (aZ gb T.zq Bt.isinstance (aa (cy aJ (O 0) ak) (aa (jQ (v:=.ty "list") T.zD Bt.list rfl) aj))) (j8 (du aW (aZ aX T.zd Bt.len (aa (cy aJ (O 0) ak) aj)) (O 2) (aK _)))))))),?_⟩
 refine⟨_,Z,_,_,_,_,true,Z,Z,.tup hq,Z,_,Z,bD ?_⟩;refine⟨_,Z,q,_,Z,.inr (SqT.of hq),Z,_,Z,aN (fun c=>absurd c (by rw[cK (show V.int (([V.ref al,V.ref ml].length:Nat):Int)=V.int 2 from rfl)];decide)) (fun _=>?_)⟩;refine⟨_,Z,q,_,0,_,Z,Z,SqT.of hq,Z,_,_,_,_,true,Z,Z,.lst rd,Z,_,Z,bD ?_⟩;refine⟨_,Z,q,_,0,_,Z,Z,SqT.of hq,Z,al,_,Z,.inl (b5.of rd),_,Z,Z,_,Z,aN (fun c=>absurd c (by rw[cK (show V.int (((xs.map V.str).length:Nat):Int)=V.int a by rw[de,ea])];decide)) (fun _=>?_)⟩;refine⟨_,Z,q,_,0,_,Z,Z,SqT.of hq,Z,al,Z,⟨_,b5.of rd⟩,fJ (K:=K) (a:=al) (xs:=xs.map V.str) (fun i M J=>∃ o:Option V,M=[some (.ref q),some (.int a),some (.int d),o]/\J=H) ⟨none,Z,Z⟩ (fun i M J _ ⟨_,_,e⟩=>by subst e;exact b5.of rd) ?_ ?_⟩
 .rintro i y M J hi ⟨o,rfl,e⟩
  have e:=e.symm;subst e;rw[kg]at hi
  obtain⟨c,hc,rfl⟩:∃ c,xs[i]?=some c/\y=V.str c:=by
   cases q:xs[i]? with
   |none=>rw[q]at hi;cases hi
   |some c=>rw[q]at hi;exact⟨c,Z,(kK hi).symm⟩
  refine⟨_,Z,_,_,_,_,true,Z,Z,.str _,Z,_,Z,bD ?_⟩;exact⟨_,Z,Z⟩
 rintro M J ⟨o,rfl,e⟩;have e:=e.symm;subst e;refine⟨_,Z,q,_,1,_,Z,Z,SqT.of hq,Z,_,_,_,_,true,Z,Z,.lst wb,Z,_,Z,?_⟩;rw[qp rfl];refine⟨_,Z,q,_,1,_,Z,Z,SqT.of hq,Z,ml,_,Z,.inl (b5.of wb),_,Z,Z,?_⟩
 try dsimp -proj -iota only
 rw[cK (show V.int ((ms.length:Nat):Int)=V.int d by rw[ed])];exact k
theorem HX:ck ["_law_plan","_law_standing","_law_undone","_law_kept","_law_after","_law_before"] ["_law_plan","_law_standing","_law_undone","_law_kept","_law_after"] (aP JC):=eM
theorem DR(T:Txt P w K mg t):FM P w base T.q110 2 BD:=by
 refine T.q110.F.fq (k:=1) HX ?_;rintro nd _ _ _ _ H _ Q _ hr ⟨H0,no,sl,ul,kd,b,v,x,ns,sv,bv,st,tb,s',tb',rs',ks,kr,D,rfl,E',s0,M1,hu0,hsl,tS,hne,AY,IG,hsv,hbv,h8,ia,n9,hb,hK,hD,k⟩;have hu:=eO hr;obtain⟨q,pa,vt,vo,us,rfl,hq,ht,KO,pk,_⟩:=E';have UX:=s0 _ _ hq
 refine⟨_,(aq (aO (aG aW (cy aJ (O 0) ak) az (aK _))
    (aq (bw (b8 PySem.F.plainAttrs_list PySem.F.slot_list_append PySem.F.type_list_append cD (O 2) (aa (gW PySem.F.plainAttrs_list PySem.F.slot_list_pop PySem.F.type_list_pop iQ (O 1)) aj)))
    (au (aC (du (Az hr.units) (O 4) (cy bh (O 1) (jr gR ak)) (aK _)))))
    aM)
   (aq (aO (aG aW (cy aJ (O 0) ak) az (aK _))
    (aq (bw (b8 PySem.F.plainAttrs_list PySem.F.slot_list_append PySem.F.type_list_append cD (O 1) (aa (gW PySem.F.plainAttrs_list PySem.F.slot_list_pop PySem.F.type_list_pop iQ (O 2)) aj)))
    (au (aC (du (Az hr.units) (O 4) (cy bh (O 1) (jr gR ak)) (aK _)))))
    aM)
   (aq (fR 5 nd (cy bh (O 1) (jr gR ak)))
   (aq (bw (gW PySem.F.plainAttrs_list PySem.F.slot_list_clear PySem.F.type_list_clear Im (O 2)))
   (aq (bw (b8 PySem.F.plainAttrs_list PySem.F.slot_list_append PySem.F.type_list_append cD (O 1) (aa (O 4) aj)))
   (au (aC (Lg (du gq (cy aJ (O 0) ak) az (aK _)) (j8 (eK T.q109 (Ld T) hr aH (aa (O 5) (aa (O 3) (aa (cy aJ (O 0) ak) (aa (O 4) aj)))))))))))))),?_⟩
 refine⟨_,Z,q,_,0,_,Z,Z,SqT.of UX,bu (j:=0) rfl,Z,_,Z,aN (fun z=>?_) (fun z=>?_)⟩
 .have z:x.kd="back":=V.str.inj (eT z)
  have hD:wC ns kr st tb (dC x) (ub x) (s'++[rs']) tb':=by
   rw[z]at hK;cases hK with
   |back=>exact hD
  obtain⟨s1,rs,rfl,_,rfl,rfl⟩:=hD;obtain⟨tN,y,rfl,h0,hy⟩:=bV ia;refine⟨_,Z,.inl ⟨Z,_,b5.of tS⟩,_,Z,.inl ⟨Z,_,b5.of hsl⟩,sl,_,y,Z,Z,hsl,oz,?_⟩;rw[d_];have RA:(upd H sl (.lst tN)) ul=some (.lst bv):=by rw[aA (aS hne)];exact tS
  refine⟨ul,bv,y,Z,Z,RA,cM G,?_⟩;have t1:fF H (upd H sl (.lst tN)):=iw hsl;have t2:fF H (upd (upd H sl (.lst tN)) ul (.lst (bv++[y]))):=t1.trans (iw RA);have AX:(upd (upd H sl (.lst tN)) ul (.lst (bv++[y]))) sl=some (.lst tN):=by rw[aA hne,ao]
  have Kt:(upd (upd H sl (.lst tN)) ul (.lst (bv++[y]))) ul=some (.lst (bv++[y])):=ao;have kp:∀ c o,H c=some o->c≠sl->c≠ul->(upd (upd H sl (.lst tN)) ul (.lst (bv++[y]))) c=some o:=fun c o e h1 h2=>by rw[aA h2,aA h1];exact e
  generalize upd (upd H sl (.lst tN)) ul (.lst (bv++[y]))=H2 at t2 AX Kt kp ⊢;have BS:=dM t2 h0;obtain⟨sv2,y2,rfl,_,Wz⟩:=bV BS;exact⟨_,Z,_,Z,1,Z,sl,_,_,y2,Z,Z,b5.of AX,ir sv2 y2,vM (hb.tups t2) Wz,k _ _ H2 kp AX Kt BS (bK (dM t2 n9) (.cons (hy.tups t2) .nil))⟩
 refine⟨_,Z,q,_,0,_,Z,Z,SqT.of UX,bu (j:=0) rfl,Z,_,Z,aN (fun z2=>?_) (fun z2=>?_)⟩
 .have z:x.kd="again":=V.str.inj (eT z2)
  have hD:tU ns kr st tb (dC x) (ub x) (s'++[rs']) tb':=by
   rw[z]at hK;cases hK with
   |again=>exact hD
  obtain⟨t0,rs,rfl,e1,rfl⟩:=hD;obtain⟨e3,e4⟩:=qc e1 rfl;clear e1;cases e4;subst e3;obtain⟨LD,y,rfl,h0,hy⟩:=bV n9;refine⟨_,Z,.inl ⟨Z,_,b5.of hsl⟩,_,Z,.inl ⟨Z,_,b5.of tS⟩,ul,_,y,Z,Z,tS,oz,?_⟩;rw[d_];have BU:(upd H ul (.lst LD)) sl=some (.lst sv):=by rw[aA hne];exact hsl
  refine⟨sl,sv,y,Z,Z,BU,cM G,?_⟩;have t1:fF H (upd H ul (.lst LD)):=iw tS;have t2:fF H (upd (upd H ul (.lst LD)) sl (.lst (sv++[y]))):=t1.trans (iw BU);have Kt:(upd (upd H ul (.lst LD)) sl (.lst (sv++[y]))) ul=some (.lst LD):=by rw[aA (aS hne),ao]
  have AX:(upd (upd H ul (.lst LD)) sl (.lst (sv++[y]))) sl=some (.lst (sv++[y])):=ao;have kp:∀ c o,H c=some o->c≠sl->c≠ul->(upd (upd H ul (.lst LD)) sl (.lst (sv++[y]))) c=some o:=fun c o e h1 h2=>by rw[aA h1,aA h2];exact e
  generalize upd (upd H ul (.lst LD)) sl (.lst (sv++[y]))=H2 at t2 AX Kt kp ⊢;exact⟨_,Z,_,Z,1,Z,sl,_,_,y,Z,Z,b5.of AX,ir sv y,vM (hb.tups t2) (hy.tups t2),k _ _ H2 kp AX Kt (bK (dM t2 ia) (.cons (hy.tups t2) .nil)) (dM t2 h0)⟩
 have NA:∃(D:List Str->Kept->List Int->nL->List Tr->List Int->Prop),newD D ns kr st tb (dC x) (ub x) (s'++[rs']) tb'/\(x.kd="pour"->D=fun ns kr rs fk _ rs'=>qj ns kr rs fk rs'):=by
  have n1:¬x.kd="back":=fun e=>z (cK (by rw[e]))
  have n2:¬x.kd="again":=fun e=>z2 (cK (by rw[e]))
  generalize x.kd=kx at hK n1 n2;cases hK with
  |take=>exact⟨_,hD,fun e=>absurd e dk⟩
  |give=>exact⟨_,hD,fun e=>absurd e dk⟩
  |lean=>exact⟨_,hD,fun e=>absurd e dk⟩
  |DS=>exact⟨_,hD,fun _=>rfl⟩
  |back=>exact absurd rfl n1
  |again=>exact absurd rfl n2
 obtain⟨D',⟨s1,rs,rs'',rfl,e1,rfl,hM,_b⟩,B_⟩:=NA;obtain⟨e3,e4⟩:=qc e1 rfl;clear e1 hD;cases e4;subst e3;obtain⟨tN,y,rfl,h0,hy⟩:=bV ia;refine⟨_,Z,1,Z,sl,_,_,y,Z,Z,b5.of hsl,ir tN y,?_⟩;refine⟨_,Z,.inl ⟨Z,_,b5.of tS⟩,ul,_,Z,Z,tS,?_⟩;have BU:(upd H ul (.lst [])) sl=some (.lst (tN++[y])):=by rw[aA hne];exact hsl
 refine⟨_,Z,.inl ⟨Z,_,b5.of BU⟩,_,Z,sl,_,_,Z,Z,BU,cM G,?_⟩;have t1:fF H (upd H ul (.lst [])):=iw tS;have t2:fF H (upd (upd H ul (.lst [])) sl (.lst (tN++[y]++[.ref b]))):=t1.trans (iw BU);have Kt:(upd (upd H ul (.lst [])) sl (.lst (tN++[y]++[.ref b]))) ul=some (.lst []):=by rw[aA (aS hne),ao]
 have AX:(upd (upd H ul (.lst [])) sl (.lst (tN++[y]++[.ref b]))) sl=some (.lst (tN++[y]++[.ref b])):=ao;have kp:∀ c o,H c=some o->c≠sl->c≠ul->(upd (upd H ul (.lst [])) sl (.lst (tN++[y]++[.ref b]))) c=some o:=fun c o e h1 h2=>by rw[aA h1,aA h2];exact e
 generalize upd (upd H ul (.lst [])) sl (.lst (tN++[y]++[.ref b]))=H2 at t2 AX Kt kp ⊢
 have fin:∀ H3,bb H2 H3->Q (.bl true) H3:=fun H3 s3=>by
  have t3:=t2.trans s3.tups;exact k _ _ H3 (fun c o e h1 h2=>s3 _ _ (kp c o e h1 h2)) (s3 _ _ AX) (s3 _ _ Kt) (bK (dM t3 ia) (.cons (hb.tups t3) .nil)) .nil
 refine⟨_,Z,q,_,0,_,Z,Z,SqT.of (t2 _ _ UX),bu (j:=0) rfl,Z,?_⟩;refine⟨_,Z,aN (fun _=>fin _ (bb.refl _)) (fun c=>?_)⟩
 have e:x.kd="pour":=eB fun n=>c (by
  show(!decide (V.str x.kd=V.str "pour"))=true;rw[gS fun z=>n (V.str.inj z)]
  rfl)
 have ep:dC x=.ps (x.prs.map fun p=>(p.2,p.1)):=by
  unfold dC;rw[bX (by rw[e];decide +kernel),bX (by rw[e];decide +kernel),qp e]
 rw[B_ e,ep]at _b;have Wz:=hy.tups t2;obtain⟨a,na,ra,rfl,_⟩:=hy;refine⟨_,Z,_,Z,_,Z,q,_,5,_,Z,Z,SqT.of (t2 _ _ UX),bu (j:=5) rfl,_,Z,a,kd,pa,b,ns,rs,rs',ks,kr,us,x.prs,Z,Wz,kp _ _ AY (aY AY hsl) (aY AY tS),IG.tups t2,kp _ _ (s0 _ _ KO) (aD KO M1) (aD KO hu0),Paired.ib pk fun _ _ ⟨q,e,h⟩=>⟨q,e,t2 _ _ (s0 _ _ h)⟩,hb.tups t2,h8,_b,fun H3 s3=>fin H3 s3⟩
theorem Le(ns:List Int)(lo hi:Option Int):∃ cs:List Int,ik (ns.map V.int) lo hi=cs.map V.int/\cs.length<=ns.length:=by
 refine⟨(ns.drop (HT.fN (ns.map V.int).length 0 lo)).take (HT.fN (ns.map V.int).length (ns.map V.int).length hi-HT.fN (ns.map V.int).length 0 lo),?_,?_⟩
 .unfold ik
  rw[List.map_take,List.map_drop]
 rw[bq,cm];exact G
theorem Lf{AK:Str->gA->Prop}{fk:nL}{rws:List (Str×nL×List Tr)}{st tb kC:List (List Int)}{kr:Kept}{xs:List Str}(h:Runs AK ns ((kd,fk,ts):: rws) st tb kr kC xs): (∃ D s' rs' tb' HM,kL kd D/\D ns kr st tb fk ts (s'++[rs']) tb'/\kC=rs'::HM/\Runs AK ns rws (s'++[rs']) tb' kr HM xs)\/(∃ L txt s0 rs Uv,st=s0++[rs]/\AK kd L/\L ns rs ts txt/\xs=txt::Uv/\Runs AK ns rws st tb kr kC Uv)\/(∃ x s0 rs,kd="keep"/\fk=.v (.str x)/\st=s0++[rs]/\Runs AK ns rws st tb (iy kr x rs) kC xs):=by
 cases h with
 |deed _ h1 h2 h3=>exact .inl ⟨_,_,_,_,_,h1,h2,rfl,h3⟩
 |ans _ h1 _ h2 h3 h4=>exact .inr (.inl ⟨_,_,_,_,_,h1,h2,h3,rfl,h4⟩)
 |keep h1 h2=>exact .inr (.inr ⟨_,_,_,rfl,rfl,h1,h2⟩)
theorem Q0{kr:Kept}(h:u_ H ns ks kr)(hm:ip H ns v rs):u_ H ns (putK ks (.inr x) v) (iy kr x rs):=by
 have ea:(ks.any fun kv=>decide (kv.1=(.inr x:Key)))=(kr.any fun q=>decide (q.1=x)):=by
  clear hm
  induction h with
  |nil=>rfl
  | @cons p q ks kr r _ ih =>
   rw[eh,eh,ih];refine b4 (· || _) ?_;rw[r.1]
   by_cases e:q.1=x
   .rw[cK e,cK (by rw[e])]
   rw[gS e,gS fun z=>e (l4 z)]
 unfold putK iy;rw[ea]
 split
 .rename_i hh
  clear ea hh
  induction h with
  |nil=>exact .nil
  | @cons p q ks kr r _ ih =>
   refine .cons ?_ ih
   try dsimp only
   by_cases e:q.1=x
   .rw[qp e,qp (by rw[r.1,e])]
    exact⟨r.1,hm⟩
   rw[bX e,bX (by rw[r.1];exact fun z=>e (l4 z))];exact r
 exact bK h (.cons ⟨rfl,hm⟩ .nil)
theorem DW(h:n<=63):(10:Int)^31*2^(23*n)<=2^1900:=by
 have h1:(10^31*2^(23*n):Nat)<=2^103*2^1449:=Nat.mul_le_mul b9 (b3 b9 G)
 have h2:(2^103*2^1449:Nat)<=2^1900:=by
  rw[<- Nat.pow_add];exact b3 b9 b9
 have h3:=AF.mpr (g9 h1 h2);rw[me,gz,gz,gz]at h3;exact h3
theorem yP{pls:List Pl}{f:Pl->Bool}{x:Pl}(h:pls[i]?=some x):((pls.take (i+1)).filter f).length=((pls.take i).filter f).length+(if f x=true then 1 else 0):=by
 rw[qE,h,gp,af]
 congr 1
 show(List.filter f [x]).length=_;cases hz:f x with
 |true=>rw[fw hz];rfl
 |false=>rw[dP (by rw[hz];decide)];rfl
theorem Q3(T:Txt P w K mg t):wD P w K mg base t wK:=fun kd L h=>by
 rcases h with⟨rfl,rfl⟩|⟨rfl,rfl⟩
 .exact⟨dk,dk,dk,t.Vw,t.d83,gT,Oa T,T.q83.k,T.q83.b⟩
 exact⟨dk,dk,dk,t.Vv,t.d85,gT,HJ T,T.q85.k,T.q85.b⟩
theorem RV:ck ["_law_script","_law_names","_law_plans","_law_deeds","_law_asks","_law_found","_law_standing","_law_undone","_law_kept","_law_at","_law_plan","_law_after"] ["_law_script"] (aP JD):=eM
theorem ok_law(T:Txt P w K mg t):FM P w base T.q111 127 (spLaw K):=by
 have G90:=QM (base:=base) T (Q3 T);refine T.q111.F.fq (k:=126) RV ?_;rintro nd _ _ _ _ _ _ _ _ hr ⟨a,cs,rfl,hS,hlen,k⟩;have hu:=eO hr
 refine ⟨_, (aq (fR 1 nd (eK T.q108 (JV T) hr aH (aa (O 0) aj)))
   (aq (fR 2 nd (eK T.q104 (KQ T) hr aH (aa (O 1) (aa (ig uc (O 0) (iC ak) (iC ak)) aj))))
   (aq (fR 3 nd (aZ aX T.zd Bt.len (aa (bT rfl ["_law_plan"] [none] (bR (O 2)) gT (fun _ _ _ _ _ _=>(iP 0 (l8 (l:=["_law_plan"])))) (fun _ _ _ _ _ _=>jf (aG (sG (K:=K)) (cy (iH (K:=K)) (O 0) ak) (bj (aa az (aa az (aa az (aa az (aa az aj)))))) ou)) (fun _ _ _ _ _ _=>(O 0))) aj)))
   (aq (fR 4 nd (aZ aX T.zd Bt.len (aa (bT rfl ["_law_plan"] [none] (bR (O 2)) gT (fun _ _ _ _ _ _=>(iP 0 (l8 (l:=["_law_plan"])))) (fun _ _ _ _ _ _=>jf (aG (sG (K:=K)) (cy (iH (K:=K)) (O 0) ak) (bj (aa az (aa az aj))) ou)) (fun _ _ _ _ _ _=>(O 0))) aj)))
   (aq (fR 5 nd (eK T.q90 G90 hr aH (aa (eK T.q106 (Hr T) hr aH (aa (O 1) (aa (O 2) aj))) aj)))
   (aq (aO (cZ (cG (eK T.q107 (DQ T) hr aH (aa (O 5) (aa (O 4) (aa (O 3) aj))))))
    (au (aC fB))
    aM)
   (aq (fR 6 nd (bz (aa (bj (aa (O 1) (aa (dG dh T.zn Bt.tuple (aa (bT rfl ["_law_world"] [none] (gK T.zr (aa (aF gD ak (aZ aX T.zd Bt.len (aa (O 1) aj))) aj)) gT (fun _ _ _ _ _ _=>(iP 0 (l8 (l:=["_law_world"])))) (fun _ _ _ _ _ _=>bZ) (fun _ _ _ _ _ _=>ak)) aj)) aj))) aj)))
   (aq (fR 7 nd (bz aj))
   (aq (fR 8 nd m7)
   (aq (fR 9 nd ak)
   (aq (eG kR rfl (bR (O 2)) (iP 10 nd)
    (au (aO (aG aW (cy aJ (O 10) ak) az (aK _))
     (au (pX hu (O 8) (eK T.q101 (lZ T) hr aH (aa (cy aJ (O 10) ak) aj)) (cy bh (O 6) (jr gR ak)) rfl))
     (au (aO (aG km (cy aJ (O 10) ak) (bj (aa az (aa az aj))) ou)
      (aq (fR 11 nd (cy bh (cy aJ (O 5) ak) (O 9)))
      (aq (fR 9 nd (aF cO (O 9) ak))
      (au (aO (PW.pt (dN (cZ (cG (eK T.q98 (Dg T) hr aH (aa (O 11) (aa (O 1) aj))))) (eZ (cZ (cG (eK T.q110 (DR T) hr aH (aa (O 10) (aa (O 6) (aa (O 7) (aa (O 8) (aa (O 11) aj)))))))))))
       (au (aC fB))
       aM))))
      aM)))))
   (au (aC fB))))))))))))),?_⟩
 refine⟨_,Z,a,cs,Z,hS,fun np ns H1 s01 lS h1 h8 hN=>?_⟩;obtain⟨ds,OX,Xm⟩:=Le cs (some 1) (some 91);refine⟨_,Z,_,Z,_,Z,_,Z,a,_,Z,s01.seq hS,fun ls U'=>?_⟩;rw[OX];have m_:=aB (o:=.lst (ds.map V.int)) U';refine⟨np,ls,ns,ds,Z,m_ _ _ lS,h1,h8,ao,G,fun pl us pls H3 G1 ic hP B_ UZ=>?_⟩;have qA:=m_.trans G1;have h63:pls.length<=63:=G
 have hok:=Bw B_ (fun x hx=>nomatch hx);have tS:us.length=pls.length:=aT hP;have IC:=qA _ _ lS;refine⟨_,Z,pl,Z,⟨_,b5.of ic⟩,?_⟩
 refine cF (K:=K) (a:=pl) (xs:=us) (fun i ys J=>bb H3 J/\ys.length=((pls.take i).filter jd).length) ⟨bb.refl _,rfl⟩ (lk G) (fun i ys J ⟨_,e⟩=>by
  rw[e];have:=eI jd (pls.take i);rw[bq]at this
  exact G) (fun i ys J ⟨s',_⟩=>b5.of (s' _ _ ic)) ?_ ?_
 .rintro i y ys H4 hi ⟨GY,hY⟩
  obtain⟨x,hx,E'⟩:=bx hP i y hi;obtain⟨q,pa,vt,vo,ws,rfl,hq,_⟩:=E';have nK:sx (.str x.kd) [V.str "take",V.str "lean",V.str "pour",V.str "back",V.str "again"]=jd x:=gH (fun kd=>sx (.str kd) [V.str "take",V.str "lean",V.str "pour",V.str "back",V.str "again"]==decide (kd∈DV)) dk (hok x (pj hx)).mem |> eq_of_beq
  refine⟨trivial,_,Z,q,_,0,.str x.kd,Z,Z,SqT.of (GY _ _ hq),Z,lk obz,fun q1 hq1=>⟨q1,_,Z,.inr (SqT.of ao),Z,Z,?_⟩⟩;have V3:=aB (o:=.tup [V.str "take",V.str "lean",V.str "pour",V.str "back",V.str "again"]) hq1;generalize upd H4 q1 (.tup [V.str "take",V.str "lean",V.str "pour",V.str "back",V.str "again"])=H5 at V3 ⊢;rw[bX ki,nK];have et:=yP (f:=jd) hx;refine⟨_,Z,aN (fun z=>?_) (fun z=>?_)⟩
  .refine⟨_,Z,GY.trans V3,?_⟩
   rw[et,qp z,af,hY]
   rfl
  refine⟨GY.trans V3,?_⟩;rw[et,bX z,hY]
  rfl
 rintro dv H4 ⟨GY,hY⟩ dl Xl;rw[tS,bp]at hY;have P_:=GY.trans (aB (o:=.lst dv) Xl);refine⟨dl,_,Z,.inl (b5.of ao),?_⟩;generalize upd H4 dl (.lst dv)=H5 at P_ ⊢;refine⟨_,Z,pl,Z,⟨_,b5.of (P_ _ _ ic)⟩,?_⟩
 refine cF (K:=K) (a:=pl) (xs:=us) (fun i ys J=>bb H5 J/\ys.length=((pls.take i).filter iz).length) ⟨bb.refl _,rfl⟩ (lk G) (fun i ys J ⟨_,e⟩=>by
  rw[e];have:=eI iz (pls.take i);rw[bq]at this
  exact G) (fun i ys J ⟨s',_⟩=>b5.of (s' _ _ (P_ _ _ ic))) ?_ ?_
 .rintro i y ys H6 hi ⟨P9,hY⟩
  obtain⟨x,hx,E'⟩:=bx hP i y hi;obtain⟨q,pa,vt,vo,ws,rfl,hq,_⟩:=E';have nK:sx (.str x.kd) [V.str "ask",V.str "worlds"]=iz x:=gH (fun kd=>sx (.str kd) [V.str "ask",V.str "worlds"]==decide (kd∈(["ask","worlds"]:List Str))) dk (hok x (pj hx)).mem |> eq_of_beq
  refine⟨trivial,_,Z,q,_,0,.str x.kd,Z,Z,SqT.of (P9 _ _ (P_ _ _ hq)),Z,lk obz,fun q1 hq1=>⟨q1,_,Z,.inr (SqT.of ao),Z,Z,?_⟩⟩;have V2:=aB (o:=.tup [V.str "ask",V.str "worlds"]) hq1;generalize upd H6 q1 (.tup [V.str "ask",V.str "worlds"])=H7 at V2 ⊢;rw[bX ki,nK];have et:=yP (f:=iz) hx;refine⟨_,Z,aN (fun z=>?_) (fun z=>?_)⟩
  .refine⟨_,Z,P9.trans V2,?_⟩
   rw[et,qp z,af,hY]
   rfl
  refine⟨P9.trans V2,?_⟩;rw[et,bX z,hY]
  rfl
 rintro av H6 ⟨P9,hX⟩ al0 Xu;rw[tS,bp]at hX;have P':=(P_.trans P9).trans (aB (o:=.lst av) Xu);refine⟨al0,_,Z,.inl (b5.of ao),?_⟩;generalize upd H6 al0 (.lst av)=H7 at P' ⊢;obtain⟨kC,xs,g1,g2,g3,g4⟩:=qy (st:=[fO ns]) (tb:=[]) (kr:=[]) (B:=10^31) hN h8 B_ rfl b9 rfl rfl (fun z hz=>by rw[aI.mp hz];exact⟨Hj ns,fun y hy=>by rw[(eL.mp hy).2];decide⟩) (fun z hz=>nomatch hz) (fun z hz=>nomatch hz) (ot _) (DW h63);refine⟨_,Z,_,Z,pl,np,pl,us,pls,ns,Z,P' _ _ IC,h8,P' _ _ ic,Paired.ib hP fun _ _ w=>w.mono P',hok,hN,G,fun H8 s78=>?_⟩;obtain⟨r0,rest,f1,f2,f3,f4,f5,f6,f7,f8⟩:=HW hN h1 h8 hok G;refine⟨my ns pls,0,r0,rest,pls.map mG,ns,kC,xs,Z,f1,f2,f3,f4,f5,f6,h1,h8,hN.nd,f7,f8,g1,fun q al ml Zq ms H9 s89 hq rd wb ID NS=>?_⟩;have V4:=(P'.trans s78).trans s89;have W2:=aT NS;refine⟨_,Z,_,Z,_,Z,q,al,ml,xs,ms,_,_,Z,hq,rd,wb,G,G,_,Z,bD ?_⟩;have Nw:=V4 _ _ IC;obtain⟨N,Vn⟩:∃ N,N=2^ns.length:=⟨_,rfl⟩
 have sN:N<=256:=Vn ▸ b3 (n:=2) b9 h8;have e1:(1:Int)*2^(((ns.map V.str).length:Nat):Int).toNat=(N:Int):=by rw[de,bE,Vn];simp
 refine⟨_,Z,_,Z,np,_,Z,.inr (SqT.of Nw),_,_,Z,Z,⟨by rw[de];exact G,by rw[de];exact G,b9⟩,?_⟩;refine⟨_,Z,by show -(2^62)<=(1:Int)*2^(((ns.map V.str).length:Nat):Int).toNat;rw[e1];exact G,by show(1:Int)*2^(((ns.map V.str).length:Nat):Int).toNat<2^62;rw[e1];exact G,?_⟩
 try dsimp -proj -iota only
 rw[e1,bE];refine eY (n:=N) (fun _=>.int 0) (lk G) (fun i R hi r=>⟨trivial,r⟩) (fun lc yT=>?_)
 have er:((List.range N).map fun _=>V.int 0)=(fO ns).map V.int:=by
  unfold fO;rw[<- Vn,List.map_const',dA];simp
 rw[er];have u1:=aB (o:=.lst ((fO ns).map V.int)) yT;refine⟨lc,_,Z,.inl ⟨b5.of ao,fun r2 hr2=>⟨lk obz,fun mq hmq=>⟨lk obz,fun sl hsl=>⟨lk obz,fun ul HZ=>fun kd AY=>?_⟩⟩⟩⟩⟩;have u2:=aB (o:=.tup ((fO ns).map V.int)) hr2;have u3:=aB (o:=.tup [.ref np,.ref r2]) hmq;have Bn:=(u1.trans u2).trans u3;have KW:ip (upd (upd (upd H9 lc (.lst ((fO ns).map V.int))) r2 (.tup ((fO ns).map V.int))) mq (.tup [.ref np,.ref r2])) ns (.ref mq) (fO ns):=⟨mq,np,r2,rfl,⟨ao,u3 _ _ ao,by unfold fO;rw[c8,<- Vn];exact sN⟩,Bn _ _ Nw⟩
 generalize upd (upd (upd H9 lc (.lst ((fO ns).map V.int))) r2 (.tup ((fO ns).map V.int))) mq (.tup [.ref np,.ref r2])=HA at Bn KW hsl HZ AY ⊢;have u4:=aB (o:=.lst [.ref mq]) hsl;have u5:=aB (o:=.lst []) HZ;have u6:=aB (o:=.dK []) AY;have _j:H9 sl=none:=Bn.free hsl;have _i:H9 ul=none:=(Bn.trans u4).free HZ;have fkd:H9 kd=none:=((Bn.trans u4).trans u5).free AY;have Iq:(upd (upd (upd HA sl (.lst [.ref mq])) ul (.lst [])) kd (.dK [])) sl=some (.lst [.ref mq]):=u6 _ _ (u5 _ _ ao);have Rl:(upd (upd (upd HA sl (.lst [.ref mq])) ul (.lst [])) kd (.dK [])) ul=some (.lst []):=u6 _ _ ao;have SG:(upd (upd (upd HA sl (.lst [.ref mq])) ul (.lst [])) kd (.dK [])) kd=some (.dK []):=ao;have nsu:sl≠ul:=aD ao HZ;have V1:=((Bn.trans u4).trans u5).trans u6;have KW:=KW.tups ((u4.trans u5).trans u6).tups;generalize upd (upd (upd HA sl (.lst [.ref mq])) ul (.lst [])) kd (.dK [])=HB at V1 Iq Rl SG KW ⊢;have Sa:=V4 _ _ ic;have hP9:Paired (iF pl H9) us pls:=Paired.ib hP fun _ _ w=>w.mono V4
 refine⟨_,rfl,pl,rfl,⟨_,b5.of (V1 _ _ Sa)⟩,fJ (K:=K) (a:=pl) (xs:=us)
  (fun i M J=>E11 fun(Wf We:Option V)(sv bv:List V)(ks:List (Key×V))(st tb:List (List Int))(kr:Kept)(m1 m2:List (List Int))(x2:List Str)=>C11 (M=[some (.ref a),some (.ref np),some (.ref pl),some (.int (dv.length:Nat)),some (.int (av.length:Nat)),some (.ref q),some (.ref sl),some (.ref ul),some (.ref kd),some (.int (m1.length:Nat)),Wf,We]) (bb H9 J) (J sl=some (.lst sv)) (J ul=some (.lst bv)) (J kd=some (.dK ks)) (Paired (ip J ns) sv st) (Paired (ip J ns) bv tb) (u_ J ns ks kr) (Runs wK ns ((pls.drop i).map mG) st tb kr m2 x2) (kC=m1++m2) ((st.length<=i+1/\tb.length<=i/\kr.length<=i)))
  ⟨none,none,[.ref mq],[],[],[fO ns],[],[],[],kC,xs,rfl,V1,Iq,Rl,SG,.cons KW .nil,.nil,.nil,g1,rfl,qnr _,qnr _,qnr _⟩ (fun i M J _ ⟨_,_,_,_,_,_,_,_,_,_,_,_,s',_,_,_,_,_,_,_,_,_⟩=>b5.of (s' _ _ Sa)) ?_ ?_⟩
 .rintro i y M HC hi ⟨Wf,We,sv,bv,ks,st,tb,kr,m1,m2,x2,rfl,UB,yA,BN,yY,ia,n9,IG,hRu,hmss,hL1,hL2,hL3⟩
  obtain⟨x,hx,E'⟩:=bx hP9 i y hi;have ZX:i<pls.length:=(List.getElem?_eq_some_iff.mp hx).1;have nc:=(hok x (pj hx)).mem
  have X2:pls.drop i=x::pls.drop (i+1):=by
   obtain⟨f',e⟩:=List.getElem?_eq_some_iff.mp hx;rw[i_ f',e]
  rw[X2]at hRu;have WS:=E';obtain⟨qx,pa,vt,vo,ws,rfl,hqx,_⟩:=E';have OO:=UB _ _ hqx;have lsv:=aT ia;have lbv:=aT n9;have lks:=aT IG;have nK:sx (.str x.kd) [V.str "ask",V.str "worlds"]=iz x:=gH (fun kd=>sx (.str kd) [V.str "ask",V.str "worlds"]==decide (kd∈(["ask","worlds"]:List Str))) dk nc |> eq_of_beq
  rcases Lf hRu with⟨D,s',rs',tb',HM,hK,hD,qS,hrest⟩|⟨L,txt,s0,rs,Uv,M1,hK,hL,hx2,hrest⟩|⟨x0,s0,rs,W9,D6,M1,hrest⟩
  .have nk:¬x.kd="keep":=by generalize x.kd=kx at hK;cases hK<;>decide +kernel
   have na:iz x=false:=by unfold iz;generalize x.kd=kx at hK;cases hK<;>decide +kernel
   obtain⟨l1,l2⟩:=vC hK hD
   have W4:kC[m1.length]?=some rs':=by
    rw[hmss,qS,List.getElem?_append_right (qnr _),Nat.sub_self]
    rfl
   have Sn:m1.length<ms.length:=by
    rw[W2];exact(List.getElem?_eq_some_iff.mp W4).1
   obtain⟨rs2,RR,b,rb,hvb,hmb⟩:=bx NS m1.length ms[m1.length] (List.getElem?_eq_getElem Sn);rw[W4]at RR;cases RR;have XB:=g2 rs' (pj W4);refine⟨_,Z,qx,_,0,_,Z,Z,SqT.of OO,bu (j:=0) rfl,Z,_,Z,aN (fun z=>absurd (V.str.inj (eT z)) nk) (fun _=>?_)⟩;refine⟨_,Z,qx,_,0,_,Z,Z,SqT.of OO,bu (j:=0) rfl,lk obz,fun q1 hq1=>⟨q1,_,Z,.inr (SqT.of ao),Z,Z,?_⟩⟩;have mM:=aB (o:=.tup [.str "ask",.str "worlds"]) hq1;generalize upd HC q1 (.tup [.str "ask",.str "worlds"])=HD at mM ⊢;rw[qp rfl,nK,na];refine⟨_,Z,bU ?_⟩;have JY:=UB.trans mM;refine⟨_,Z,q,_,1,_,Z,Z,SqT.of (JY _ _ hq),bu (j:=1) rfl,_,Z,ml,_,_,.ref b,Z,Z,b5.of (JY _ _ wb),bu (j:=m1.length) (by rw[List.getElem?_eq_getElem Sn,hvb]),?_⟩;refine⟨_,Z,_,_,Z,Z,?_⟩;have So:=hmb.same JY;refine⟨_,Z,_,Z,b,Zq,np,rb,ns,rs',Z,So,JY _ _ ID,JY _ _ Nw,h8,XB,_,Z,bD ?_⟩;refine⟨_,Z,_,Z,_,Z,_,Z,_,Z,H9,pl,sl,ul,kd,b,.ref qx,x,ns,sv,bv,st,tb,s',tb',rs',ks,kr,D,Z,WS,JY,_j,_i,mM _ _ yA,mM _ _ BN,nsu,mM _ _ yY,IG.tups mM.tups,G,G,h8,dM mM.tups ia,dM mM.tups n9,⟨b,Zq,rb,Z,So,JY _ _ ID⟩,hK,hD,fun Uz bv' HE kp hsE huE WI WG=>⟨_,Z,bD ?_⟩⟩;have s9E:bb H9 HE:=fun c o e=>kp c o (JY _ _ e) (aD e _j) (aD e _i)
   have tE:fF HD HE:=fun c us e=>kp c _ e (aY e (mM _ _ yA)) (aY e (mM _ _ BN))
   refine⟨some (.ref qx),some (.ref b),Uz,bv',ks,s'++[rs'],tb',kr,m1++[rs'],HM,x2,?_,s9E,hsE,huE,kp _ _ (mM _ _ yY) (aY (mM _ _ yY) (mM _ _ yA)) (aY (mM _ _ yY) (mM _ _ BN)),WI,WG,(IG.tups mM.tups).tups tE,hrest,by rw[hmss,qS,dE];rfl,G,G,G⟩;rw[af]
   rfl
  .have ZT:x.kd="ask"\/x.kd="worlds":=by
    rcases hK with⟨e,_⟩|⟨e,_⟩
    .exact .inl e
    exact .inr e
   have nk:¬x.kd="keep":=by rcases ZT with e|e<;>rw[e]<;>decide +kernel
   have na:iz x=true:=cK (by rcases ZT with e|e<;>rw[e]<;>decide +kernel);refine⟨_,Z,qx,_,0,_,Z,Z,SqT.of OO,bu (j:=0) rfl,Z,_,Z,aN (fun z=>absurd (V.str.inj (eT z)) nk) (fun _=>?_)⟩;refine⟨_,Z,qx,_,0,_,Z,Z,SqT.of OO,bu (j:=0) rfl,lk obz,fun q1 hq1=>⟨q1,_,Z,.inr (SqT.of ao),Z,Z,?_⟩⟩;have mM:=aB (o:=.tup [.str "ask",.str "worlds"]) hq1;generalize upd HC q1 (.tup [.str "ask",.str "worlds"])=HD at mM ⊢;rw[qp rfl,nK,na];refine⟨_,Z,bD ?_⟩;exact⟨_,_,sv,bv,ks,st,tb,kr,m1,m2,Uv,Z,UB.trans mM,mM _ _ yA,mM _ _ BN,mM _ _ yY,dM mM.tups ia,dM mM.tups n9,IG.tups mM.tups,hrest,hmss,G,G,G⟩
  have ep:dC x=.v (.str (cX x.i)):=by
   unfold dC;rw[bX (by rw[W9];decide +kernel),qp W9]
  rw[ep]at D6;cases D6;subst M1;obtain⟨tN,v,rfl,h0,hv⟩:=bV ia;refine⟨_,Z,qx,_,0,_,Z,Z,SqT.of OO,bu (j:=0) rfl,Z,_,Z,aN (fun _=>?_) (fun z=>absurd (cK (by rw[W9])) z)⟩;refine⟨_,Z,1,Z,sl,_,_,v,Z,Z,b5.of yA,ir tN v,?_⟩;refine⟨_,Z,_,Z,qx,_,4,_,Z,Z,SqT.of OO,bu (j:=4) rfl,x.i,Z,fun HD mM=>?_⟩;refine⟨kd,_,Z,ve.k (k:=.inr (cX x.i)) (mM _ _ yY) (cM G),?_⟩;have NG:=mM _ _ yY;have tE:fF HD (upd HD kd (.dK (putK ks (.inr (cX x.i)) v))):=fun c us e=>by rw[aA (aY e NG)];exact e
  have Uw:=mM.tups.trans tE;have:=yq kr (cX x.i) rs;refine⟨_,_,tN++[v],bv,_,_,tb,iy kr (cX x.i) rs,m1,m2,x2,Z,fun c o e=>?_,?_,?_,ao,dM Uw ia,dM Uw n9,Q0 (IG.tups Uw) (hv.tups Uw),hrest,hmss,G,G,G⟩
  .rw[aA (aD e fkd)]
   exact mM _ _ (UB _ _ e)
  .rw[aA (aY (mM _ _ yA) NG)]
   exact mM _ _ yA
  rw[aA (aY (mM _ _ BN) NG)];exact mM _ _ BN
 rintro M HC ⟨Wf,We,sv,bv,ks,st,tb,kr,m1,m2,x2,rfl,_⟩;exact k _
theorem tm(X:K.In h)(aae:h.Ns mainGlobals mg)(q:Tq K x st f fd)(b:∀(kV doc pm:Value)(an:Option Addr)(ja ct:Value)(us:List Value),us.length=ps.length->bindArgs (W.fnOf x x (gm st) (eX st) (aP st) .none kV doc pm an ja ct) ⟨us,[]⟩=pure (ps.zip us):=by first|exact fun _ _ _ _ _ _=>L2.VT fun _=>rfl|exact fun _ _ _ _ _ _=>L2.LH fun _ _=>rfl|exact fun _ _ _ _ _ _=>L2.VS fun _ _ _=>rfl|exact fun _ _ _ _ _ _=>L2.VR fun _ _ _ _=>rfl|exact fun _ _ _ _ _ _=>L2.Zc fun _ _ _ _ _=>rfl):Tp K mg x st ps f fd:=⟨q.F,q.F.binds b,fi X aae q.a,q.F.kp⟩
theorem mm{y:Str}(q:Mq K C x y st f fd)(b:∀(kV doc pm:Value)(an:Option Addr)(ja ct:Value)(us:List Value),us.length=ps.length->bindArgs (W.fnOf x y (gm st) (eX st) (aP st) .none kV doc pm an ja ct) ⟨us,[]⟩=pure (ps.zip us):=by first|exact fun _ _ _ _ _ _=>L2.VT fun _=>rfl|exact fun _ _ _ _ _ _=>L2.LH fun _ _=>rfl|exact fun _ _ _ _ _ _=>L2.VS fun _ _ _=>rfl|exact fun _ _ _ _ _ _=>L2.VR fun _ _ _ _=>rfl|exact fun _ _ _ _ _ _=>L2.Zc fun _ _ _ _ _=>rfl):Mp K C x y st ps f fd:=⟨q.F,q.F.binds b,⟨q.a,q.i,q.F.kp⟩⟩
end
theorem tq{sl:Array (Option Value)}{kV:Value}(a:W.nsIn K mainGlobals x=some (some (.ref f)))(l:K.lookup f=some ⟨oc,od,.func (W.fnOf x x (gm st) (eX st) (aP st) .none kV dc pm an cd ct),sl⟩)(c:W.codeIn K cd x=true)(k:W.keepIn K (.ref f)=true):Tq K x st f (W.fnOf x x (gm st) (eX st) (aP st) .none kV dc pm an cd ct):=⟨Et l c k,a⟩
theorem mq{q:Str}{sl:Array (Option Value)}{kV:Value}(a:W.findIn K (.ref C) x=some (some (.ref f)))(i:W.isFn K (.ref f)=true)(l:K.lookup f=some ⟨oc,od,.func (W.fnOf x q (gm st) (eX st) (aP st) .none kV dc pm an cd ct),sl⟩)(c:W.codeIn K cd q=true)(k:W.keepIn K (.ref f)=true):Mq K C x q st f (W.fnOf x q (gm st) (eX st) (aP st) .none kV dc pm an cd ct):=⟨Et l c k,a,i⟩
theorem txt_mk(X:K.In h)(aae:h.Ns mainGlobals mg)
  {f0 f1 f2 f3 f4 f5 f6 f8 f9 f10 f11 f12 f13 f14 f15 f16 f17 f18 f19 f20 f21 f22 f23 f24 f25 f26 f27 f28 f29 _9 _8 _7 _6 _5 _4 _3 _2 _1 _0 _Z _Y _X _W _V _U _T _S _R _Q _P _O _N _M _L _K _J _I _H _G _F _E XZ _D XY XX Vp XW XU XT TC _C _B XS XR XQ XO XN XM _A XJ _z XI _y _x _w _v _u _t _s _r _q _p _o _n _m _l TX TV TU TR TQ TN TM TL TK TJ TH TF B0 B1 B2 B3 B4 B5 B6 B7 B8 B9 VO xE Y6 Y5 Y4 Y3 Y2 Y1:Addr} {e0 e1 e2 e3 e4 e5 e6 e8 e9 Vu e11 e12 e13 e14 e15 e16 e17 e18 e19 e20 e21 e22 Vt e24 e25 e26 e27 e28 e29 TY e33 e34 e35 e36 e37 e38 e39 e40 e41 e43 e44 e45 e46 e47 Pd e49 e50 e51 e52 e53 e54 e55 e56 e57 e58 e59 e60 e61 e62 Vr e64 e65 e66 e67 e68 e69 e70 e71 e72 e73 e74 e75 e76 e77 e78 e79 e80 e81 e82 e83 e85 e86 e87 e88 e89 e90 e91 e92 e93 e94 e95 e96 e97 e98 e99 T_ T' T9 T8 T7 T6 T4 T3 T2 T1 TZ N0:FuncData} {B18 B19 B20 B21 B22 B23:Tok}
  (A0:W.nsIn K mainGlobals "MindError"=some (some (.ref B3)))
  (A1:W.nsIn K mainGlobals "NoSentence"=some (some (.ref B9)))
  (A2:W.nsIn K mainGlobals "TooDeep"=some (some (.ref VO)))
  (A3:W.nsIn K mainGlobals "NoName"=some (some (.ref B8)))
  (A4:W.nsIn K mainGlobals "Always"=some (some (.ref B0)))
  (A5:W.nsIn K mainGlobals "Never"=some (some (.ref B4)))
  (A6:W.nsIn K mainGlobals "NoMinds"=some (some (.ref B7)))
  (A7:W.nsIn K mainGlobals "Unlike"=some (some (.ref Y6)))
  (A8:W.nsIn K mainGlobals "NoBack"=some (some (.ref B6)))
  (A9:W.nsIn K mainGlobals "NoAgain"=some (some (.ref B5)))
  (A10:W.nsIn K mainGlobals "Log"=some (some (.ref B2)))
  (A11:W.nsIn K mainGlobals "Unfinished"=some (some (.ref xE)))
  (A12:W.nsIn K mainGlobals "Course"=some (some (.ref B1)))
  (q0:Tq K "is_letter" S0 f0 e0)
  (q1:Tq K "is_name" S1 f1 e1)
  (q2:Tq K "parts_of" S2 f2 e2)
  (q3:Tq K "layer_below" S3 f3 e3)
  (q4:Tq K "depth" S4 f4 e4)
  (q5:Tq K "names_in" S5 f5 e5)
  (q6:Tq K "bit_at" S6 f6 e6)
  (q8:Tq K "need_names" S8 f8 e8)
  (q9:Tq K "sides" S9 f9 e9)
  (q10:Tq K "turned_about" S10 f10 Vu)
  (q11:Tq K "joined" YT f11 e11)
  (q12:Tq K "full" S12 f12 e12)
  (q13:Tq K "worlds_with" S13 f13 e13)
  (q14:Tq K "sides_of_names" S14 f14 e14)
  (q15:Tq K "table" S15 f15 e15)
  (q16:Tq K "breaking" S16 f16 e16)
  (q17:Tq K "flat" S17 f17 e17)
  (q18:Tq K "least_rank" S18 f18 e18)
  (q19:Tq K "firmness" S19 f19 e19)
  (q20:Tq K "held" S20 f20 e20)
  (q21:Tq K "both_leasts" S21 f21 e21)
  (q22:Tq K "leaning" S22 f22 e22)
  (q23:Tq K "less_the_least" S23 f23 Vt)
  (q24:Tq K "need_alike" S24 f24 e24)
  (q25:Tq K "poured" S25 f25 e25)
  (q26:Tq K "is_nearest_in_all" S26 f26 e26)
  (q27:Tq K "common" S27 f27 e27)
  (q28:Tq K "turned" S28 f28 e28)
  (q29:Tq K "given_up" S29 f29 e29)
  (q30:Tq K "taken_on" S30 _9 TY)
  (q33:Mq K B2 "__init__" "Log.__init__" S33 _8 e33)
  (q34:Mq K B2 "stand" "Log.stand" S34 _7 e34)
  (q35:Mq K B2 "take" "Log.take" S35 _6 e35)
  (q36:Mq K B2 "give" "Log.give" S36 _5 e36)
  (q37:Mq K B2 "turn" "Log.turn" S37 _4 e37)
  (q38:Mq K B2 "pour" "Log.pour" S38 _3 e38)
  (q39:Mq K B2 "back" "Log.back" S39 _2 e39)
  (q40:Mq K B2 "again" "Log.again" S40 _1 e40)
  (q41:Mq K B2 "mind" "Log.mind" S41 _0 e41)
  (q43:Mq K B2 "backs" "Log.backs" S43 _Z e43)
  (q44:Mq K B2 "agains" "Log.agains" S44 _Y e44)
  (q45:Tq K "words_of" S45 _X e45)
  (q46:Tq K "leaf" S46 _W e46)
  (q47:Tq K "takes_part" S47 _V e47)
  (q48:Mq K xE "__init__" "Unfinished.__init__" S48 _U Pd)
  (q49:Mq K xE "begin_part" "Unfinished.begin_part" S49 _T e49)
  (q50:Mq K xE "follow_part" "Unfinished.follow_part" YS _S e50)
  (q51:Mq K xE "fold" "Unfinished.fold" S51 _R e51)
  (q52:Mq K xE "fold_to_bracket" "Unfinished.fold_to_bracket" S52 _Q e52)
  (q53:Mq K xE "close_bracket" "Unfinished.close_bracket" S53 _P e53)
  (q54:Mq K xE "whole" "Unfinished.whole" S54 _O e54)
  (q55:Tq K "tree_of_words" S55 _N e55)
  (q56:Tq K "read" S56 _M e56)
  (q57:Tq K "rows_in" S57 _L e57)
  (q58:Tq K "words_in" S58 _K e58)
  (q59:Tq K "first_word" S59 _J e59)
  (q60:Tq K "behind_first_word" S60 _I e60)
  (q61:Tq K "is_figure" S61 _H e61)
  (q62:Tq K "number_in" S62 _G e62)
  (q63:Tq K "number_above_0" S63 _F Vr)
  (q64:Tq K "lean_in" S64 _E e64)
  (q65:Tq K "names_form" S65 XZ e65)
  (q66:Tq K "numbered_form" S66 _D e66)
  (q67:Tq K "take_form" YR XY e67)
  (q68:Tq K "lean_form" YQ XX e68)
  (q69:Tq K "sentence_form" YO Vp e69)
  (q70:Tq K "lost_form" YN XW e70)
  (q71:Tq K "keep_form" YM XU e71)
  (q72:Tq K "pour_form" YL XT e72)
  (q73:Tq K "bare_form" YK TC e73)
  (q74:Tq K "form_of" YJ _C e74)
  (q75:Mq K B1 "__init__" "Course.__init__" YI _B e75)
  (q76:Tq K "do_take" YH XS e76)
  (q77:Tq K "do_give" YG XR e77)
  (q78:Tq K "do_lean" YF XQ e78)
  (q79:Tq K "do_pour" YE XO e79)
  (q80:Tq K "do_back" YD XN e80)
  (q81:Tq K "do_again" YC XM e81)
  (q82:Tq K "shown_world" S82 _A e82)
  (q83:Tq K "answer_ask" YB XJ e83)
  (q85:Tq K "answer_worlds" YA XI e85)
  (q86:Tq K "do_row" Yz _y e86)
  (q87:Tq K "lacks_a_mind" S87 _x e87)
  (q88:Tq K "word_against" Yy _w e88)
  (q89:Tq K "names_told" Yx _v e89)
  (q90:Tq K "run" Yw _u e90)
  (q91:Tq K "_law_cell_at" Yv _t e91)
  (q92:Tq K "_law_whole" S92 _s e92)
  (q93:Tq K "_law_mixed" S93 _r e93)
  (q94:Tq K "_law_names_by" S94 _q e94)
  (q95:Tq K "_law_tree_by" Yu _p e95)
  (q96:Tq K "_law_column" S96 _o e96)
  (q97:Tq K "_law_table" Yt _n e97)
  (q98:Tq K "_law_is_mind" S98 _m e98)
  (q99:Tq K "_law_written" Ys _l e99)
  (q100:Tq K "_law_plan_by" Jv TX T_)
  (q101:Tq K "_law_word_by" Qq TV T')
  (q102:Tq K "_law_pairs_by" Qs TU T9)
  (q103:Tq K "_law_counted" Jw TR T8)
  (q104:Tq K "_law_plans_by" Jx TQ T7)
  (q105:Tq K "_law_row_of" Jy TN T6)
  (q106:Tq K "_law_text_of" Jz TM T4)
  (q107:Tq K "_law_run_fits" Qt TL T3)
  (q108:Tq K "_law_told_names" Qu TK T2)
  (q109:Tq K "_law_poured_fits" JB TJ T1)
  (q110:Tq K "_law_row_fits" JC TH TZ)
  (q111:Tq K "law" JD TF N0)
  (A13:fb K B9=true)
  (A14:W.excIn K B9 u7 "ValueError.__new__"=true)
  (A15:fb K VO=true)
  (A16:W.excIn K VO u7 "ValueError.__new__"=true)
  (A17:fb K B8=true)
  (A18:W.excIn K B8 u7 "ValueError.__new__"=true)
  (A19:fb K B0=true)
  (A20:W.excIn K B0 u7 "ValueError.__new__"=true)
  (A21:under K B0 B0=true)
  (A22:fb K B4=true)
  (A23:W.excIn K B4 u7 "ValueError.__new__"=true)
  (A24:under K B4 B0=false)
  (A25:under K B4 B4=true)
  (A26:W.excIn K B7 u7 "ValueError.__new__"=true)
  (A27:W.excIn K Y6 u7 "ValueError.__new__"=true)
  (A28:fb K B6=true)
  (A29:W.excIn K B6 u7 "ValueError.__new__"=true)
  (A30:fb K B5=true)
  (A31:W.excIn K B5 u7 "ValueError.__new__"=true)
  (A32:W.plainGet K B2 Str.empty=true)
  (A33:W.hasDictIn K B2=true)
  (A34:W.plainOver K B2=true)
  (A35:W.findIn K (.ref B2) "__setattr__"=some (some (.builtin "object.__setattr__")))
  (A36:W.makesIn K B2=true)
  (A37:W.keepIn K (.ref B2)=true)
  (A38:W.findIn K (.ref B2) "standing"=some none)
  (A39:W.findIn K (.ref B2) "taken_back"=some none)
  (A40:W.plainGet K xE Str.empty=true)
  (A41:W.hasDictIn K xE=true)
  (A42:W.plainOver K xE=true)
  (A43:W.findIn K (.ref xE) "__setattr__"=some (some (.builtin "object.__setattr__")))
  (A44:W.makesIn K xE=true)
  (A45:W.keepIn K (.ref xE)=true)
  (A46:W.findIn K (.ref xE) "trees"=some none)
  (A47:W.findIn K (.ref xE) "signs"=some none)
  (A48:W.plainGet K B1 Str.empty=true)
  (A49:W.hasDictIn K B1=true)
  (A50:W.plainOver K B1=true)
  (A51:W.findIn K (.ref B1) "__setattr__"=some (some (.builtin "object.__setattr__")))
  (A52:W.makesIn K B1=true)
  (A53:W.keepIn K (.ref B1)=true)
  (A54:W.findIn K (.ref B1) "log"=some none)
  (A55:W.findIn K (.ref B1) "kept"=some none)
  (A56:W.findIn K (.ref B1) "answers"=some none)
  (A57:W.findIn K (.ref B1) "minds_behind"=some none)
  (A58:W.nsIn K mainGlobals "LONGEST_NAME"=some (some (.int 8 B18)))
  (A59:W.nsIn K mainGlobals "LONGEST_TEXT"=some (some (.int 200 B19)))
  (A60:W.nsIn K mainGlobals "GREATEST_DEPTH"=some (some (.int 40 B20)))
  (A61:W.nsIn K mainGlobals "MOST_FIGURES"=some (some (.int 30 B21)))
  (A62:W.nsIn K mainGlobals "MOST_NAMES"=some (some (.int 8 B22)))
  (A63:W.nsIn K mainGlobals "MOST_PAIRS"=some (some (.int 10 B23)))
  (A64:W.nsIn K mainGlobals "KINDS"=some (some (.ref Y5)))
  (A65:yb P w K Y5 [(.inr "&",.str "and"),(.inr "|",.str "or"),(.inr ">",.str "then"),(.inr "=",.str "same")])
  (A66:W.nsIn K mainGlobals "BINDS"=some (some (.ref Y4)))
  (A67:yb P w K Y4 [(.inr "&",.int 4),(.inr "|",.int 3),(.inr ">",.int 2),(.inr "=",.int 1)])
  (A68:W.nsIn K mainGlobals "FORMS"=some (some (.ref Y3)))
  (A69:yb P w K Y3 [(.inr "names",.ref XZ),(.inr "take",.ref XY),(.inr "give",.ref Vp),(.inr "lean",.ref XX),(.inr "keep",.ref XU),(.inr "pour",.ref XT),(.inr "back",.ref TC),(.inr "again",.ref TC),(.inr "ask",.ref Vp),(.inr "lost",.ref XW),(.inr "worlds",.ref TC)])
  (A70:W.nsIn K mainGlobals "DEEDS"=some (some (.ref Y2)))
  (A71:yb P w K Y2 [(.inr "take",.ref XS),(.inr "give",.ref XR),(.inr "lean",.ref XQ),(.inr "pour",.ref XO),(.inr "back",.ref XN),(.inr "again",.ref XM)])
  (A72:W.nsIn K mainGlobals "ANSWERS"=some (some (.ref Y1)))
  (A73:yb P w K Y1 [(.inr "ask",.ref XJ),(.inr "lost",.ref _z),(.inr "worlds",.ref XI)])
  (A74:W.nsIn K mainGlobals "all"=some none)
  (A75:W.nsIn K mainGlobals "any"=some none)
  (A76:W.nsIn K mainGlobals "bool"=some none)
  (A77:W.nsIn K mainGlobals "enumerate"=some none)
  (A78:W.nsIn K mainGlobals "int"=some none)
  (A79:W.nsIn K mainGlobals "isinstance"=some none)
  (A80:W.nsIn K mainGlobals "len"=some none)
  (A81:W.nsIn K mainGlobals "list"=some none)
  (A82:W.nsIn K mainGlobals "max"=some none)
  (A83:W.nsIn K mainGlobals "min"=some none)
  (A84:W.nsIn K mainGlobals "range"=some none)
  (A85:W.nsIn K mainGlobals "sorted"=some none)
  (A86:W.nsIn K mainGlobals "str"=some none)
  (A87:W.nsIn K mainGlobals "sum"=some none)
  (A88:W.nsIn K mainGlobals "tuple"=some none)
  (A89:W.nsIn K mainGlobals "zip"=some none) (hl:∀(s:Shared) (u:Value),BindsTo s N0 ⟨[u],[]⟩ [("_law_script",u)]):∃ t:l9,Txt P w K mg t :=
 ⟨⟨f0,e0,f1,e1,f2,e2,f3,e3,f4,e4,f5,e5,f6,e6,0,e0,f8,e8,f9,e9,f10,Vu,f11,e11,f12,e12,f13,e13,f14,e14,f15,e15,f16,e16,f17,e17,f18,e18,f19,e19,f20,e20,f21,e21,f22,e22,f23,Vt,f24,e24,f25,e25,f26,e26,f27,e27,f28,e28,f29,e29,_9,TY,0,e0,0,e0,_8,e33,_7,e34,_6,e35,_5,e36,_4,e37,_3,e38,_2,e39,_1,e40,_0,e41,0,e0,_Z,e43,_Y,e44,_X,e45,_W,e46,_V,e47,_U,Pd,_T,e49,_S,e50,_R,e51,_Q,e52,_P,e53,_O,e54,_N,e55,_M,e56,_L,e57,_K,e58,_J,e59,_I,e60,_H,e61,_G,e62,_F,Vr,_E,e64,XZ,e65,_D,e66,XY,e67,XX,e68,Vp,e69,XW,e70,XU,e71,XT,e72,TC,e73,_C,e74,_B,e75,XS,e76,XR,e77,XQ,e78,XO,e79,XN,e80,XM,e81,_A,e82,XJ,e83,_z,e0,XI,e85,_y,e86,_x,e87,_w,e88,_v,e89,_u,e90,_t,e91,_s,e92,_r,e93,_q,e94,_p,e95,_o,e96,_n,e97,_m,e98,_l,e99,TX,T_,TV,T',TU,T9,TR,T8,TQ,T7,TN,T6,TM,T4,TL,T3,TK,T2,TJ,T1,TH,TZ,TF,N0,B3,B9,VO,B8,B0,B4,B7,Y6,B6,B5,0,B2,xE,B1,B18,B19,B20,B21,B22,B23,Y5,Y4,Y3,Y2,Y1⟩,⟨tm X aae q0,tm X aae q1,tm X aae q2,tm X aae q3,tm X aae q4,tm X aae q5,tm X aae q6,tm X aae q8,tm X aae q9,tm X aae q10,tm X aae q11,tm X aae q12,tm X aae q13,tm X aae q14,tm X aae q15,tm X aae q16,tm X aae q17,tm X aae q18,tm X aae q19,tm X aae q20,tm X aae q21,tm X aae q22,tm X aae q23,tm X aae q24,tm X aae q25,tm X aae q26,tm X aae q27,tm X aae q28,tm X aae q29,tm X aae q30,mm q33,mm q34,mm q35,mm q36,mm q37,mm q38,mm q39,mm q40,mm q41,mm q43,mm q44,tm X aae q45,tm X aae q46,tm X aae q47,mm q48,mm q49,mm q50,mm q51,mm q52,mm q53,mm q54,tm X aae q55,tm X aae q56,tm X aae q57,tm X aae q58,tm X aae q59,tm X aae q60,tm X aae q61,tm X aae q62,tm X aae q63,tm X aae q64,tm X aae q65,tm X aae q66,tm X aae q67,tm X aae q68,tm X aae q69,tm X aae q70,tm X aae q71,tm X aae q72,tm X aae q73,tm X aae q74,mm q75,tm X aae q76,tm X aae q77,tm X aae q78,tm X aae q79,tm X aae q80,tm X aae q81,tm X aae q82,tm X aae q83,tm X aae q85,tm X aae q86,tm X aae q87,tm X aae q88,tm X aae q89,tm X aae q90,tm X aae q91,tm X aae q92,tm X aae q93,tm X aae q94,tm X aae q95,tm X aae q96,tm X aae q97,tm X aae q98,tm X aae q99,tm X aae q100,tm X aae q101,tm X aae q102,tm X aae q103,tm X aae q104,tm X aae q105,tm X aae q106,tm X aae q107,tm X aae q108,tm X aae q109,tm X aae q110,tm X aae q111,fi X aae A1,A13,A14,fi X aae A2,A15,A16,fi X aae A3,A17,A18,fi X aae A4,A19,A20,A21,fi X aae A5,A22,A23,A24,A25,fi X aae A6,A26,fi X aae A7,A27,fi X aae A8,A28,A29,fi X aae A9,A30,A31,fi X aae A10,⟨A32,A33,A34,A35⟩,⟨A36,q33.a,q33.i,A37⟩,A38,A39,fi X aae A11,⟨A40,A41,A42,A43⟩,⟨A44,q48.a,q48.i,A45⟩,A46,A47,fi X aae A12,⟨A48,A49,A50,A51⟩,⟨A52,q75.a,q75.i,A53⟩,A54,A55,A56,A57,fi X aae A58,fi X aae A59,fi X aae A60,fi X aae A61,fi X aae A62,fi X aae A63,fi X aae A64,A65,fi X aae A66,A67,fi X aae A68,A69,fi X aae A70,A71,fi X aae A72,A73,dS X aae A74,dS X aae A75,dS X aae A76,dS X aae A77,dS X aae A78,dS X aae A79,dS X aae A80,dS X aae A81,dS X aae A82,dS X aae A83,dS X aae A84,dS X aae A85,dS X aae A86,dS X aae A87,dS X aae A88,dS X aae A89,hl⟩⟩
end K69
structure PySem.W.Fast:Prop where(tw705610569868757002 tw4420249279083301021 tw5565181235972468460 tw4732760755580848027 tw8536450874856532826 tw10496283129528767138 tw15081948857497279274 tw15763148051212648581 tw12192399560849269021 tw18143139980035081566 tw15333677498314555482 tw16821094036465911388 tw6888440126453743866 tw8209354363749609214 tw3822739800940128651 tw8715934073506265634 tw13296299620128268820 tw9037373530245921198 tw14067672884337166841 tw15673957956941839542 tw14504589513668060255 tw14875562783172281803 tw13330608146768771413 tw16597653982928911843 tw14962368068612332654 tw16390042631840912699 tw7033861694312689403 tw1737785797061520280 tw3097127240749555135 tw1669983011512638312 tw2277643948298579583 tw1858885687192956996 tw9682466196307345371 tw9991997112840672094 tw5801460603358278037 tw4846923915451415905 tw3141983804465592397 tw4441538301798683058 tw10477125146485950297 tw15939564239788317031 tw11269294243579321112 tw9338029919488198328 tw8087121925043216425 tw13598922148796348150 tw10610933276341475856 tw16253606903109921282 tw6269543739892433169 tw14951429620691267257 tw91911404980045775 tw18089026703491402692 tw12582165253470037724 tw10592952590310617992 tw2711335832890976118 tw175737789281418285 tw10893159566119547803 tw16298442866872502596 tw16212313373816292972 tw305742381320464148 tw14244663794540222004 tw14191265725792951152 tw1042811631941497951 tw3138572080459065131 tw3480841702433469637 tw8057278662575028445 tw9852703410129684026 tw681543421886072045 tw7961379021999927161 tw9418754237115749962 tw5260116866316756614 tw13324284311600117266 tw12848039264706156469 tw14855549148548925275 tw10449894270396876145 tw4652613032848626444 tw10089975388427597681 tw10018867088353483286 tw3157310142005111416 tw13273569876128649412 tw1242425581736547426 tw9998087507566010267 tw1791079157627315185 tw3490610937563788923 tw2361421489640387816 tw823018435071484325 tw13352405521339367942 tw12044046190866294173 tw3064842952691910240 tw8033893761053577793 tw12118352874931460068 tw4694983122980968518 tw5441251320668797310 tw15238752012687308230 tw3109243059635271113 tw4656545724510484540 tw4950006611694964533 tw292176159069658755 tw6410268378795602555 tw4971046429468615477 tw18397696981121657052 tw11463117157732144444 tw9835809528630625818 tw2995081207121257851 tw3645046756642757755 tw3245994363249235446 tw11960900551797995088 tw13230921203311123066 tw11895240584411807657 tw11584567991287743883 tw13561642883038850162 tw9415292343124536414 tw1475261404030333851 tw15022990703613261362 tw6974855351369439694 tw4462370974286590018 tw6717232272604155412 tw8512329091511567590 tw4715356500259863817 tw14200754427433551691 tw7618574460277885156 tw15263693464764079638 tw16414864488261926414 tw5506147878883701566 tw13655168117124472529 tw2735660893699904620 tw1138565454581319455 tw14135032020111671867 tw11784595363653209129 tw17809530917457467788 tw5610046295346083543 tw14006938635940746745 tw14843192836244692452 tw16430310571951058877 tw9840084541991553204 tw94253115870050796 tw2767225765252387603 tw11050018433665395370 tw14135621554119632022 tw15573726675253640539 tw13204671066817385729 tw14596571846653591144 tw1114190915877591918 tw12262657226011287115 tw2181403548265955011 tw5513737006761001666 tw9364274977303236039 tw3806966901248924147 tw16325523974377660134 tw5397347310833142853 tw2986398327379077549 tw1496893209491882849 tw8193850114413512590 tw344391117635636523 tw7199900271535620311 tw13689908845175612810 tw12328540595661762030 tw14568653191517483126 tw131631558265145159 tw13122537669920677488 tw14894092534085893945 tw5838979441366332489 tw10055649679391013519 tw13206888474913121844 tw11021120934546120491 tw17248975723336956447 tw3930587314007499223 tw11142572945130706669 tw1007638908750467889 tw7039096566270351890 tw4815388252695228752 tw773476052163401139 tw17143910971453069832 tw16387249597447311938 tw10065668894527682557 tw1439434058590855340 tw3937094435434827336 tw2619401892504221558 tw16026296619172879443 tw5250372406479315507 tw2235193861775790051 tw10642797961165466098 tw16007350461920555932 tw9664935938819194773 tw1394883063355013300 tw16167142645477024473 tw17724462713797771384 tw14731094436053130710 tw810413588373532340 tw10150486341471461072 tw16265675398629458704 tw534408147130918182 tw16450227825912465671 tw8133493321578987493 tw748896072528734849 tw5057448921486185384 tw10943610976862299132 tw7864300183336779214 tw8220460111187139971 tw5716360767152868349 tw34071393492595516 tw29597943678254582 tw2442041311259960780 tw7387424690263768349 tw17299907472538167224 tw8414922813762354169 tw5293243493414591461 tw12149616811390754988 tw15636477111082367351 tw16822910855902887922 tw8956126750712112011 tw4513967483309209975 tw15310923009199299802 tw3902199387734912379 tw17803599586292817045 tw4865727063759034260 tw5416291352470364742 tw12778645961305764881 tw11009377296734659805 tw6070541922544987665 tw1486884624701861670 tw1606471991234640583 tw5338405968433774233 tw14938798585535553657 tw12712823176894394371 tw13839684498189715562 tw2348249345663704180 tw9914267411949765430 tw6388590071287719303 tw12148149533047960813 tw13867992591727566991 tw6002497883493724123 tw6166213495127860740 tw12570406902287332894 tw8148767139196356826 tw7865529294242183453 tw4858604085642890055 tw8386495378066963369 tw2085649524116861144 tw12610417017295220333 tw11686600596746136636 tw6642095821991532216 tw3226342102636743686 tw17053980390796646325 tw4067733131304457391 tw14377230104503394885 tw12649627816740175031 tw6489828080562222829 tw6853012258450147022 tw5402395222557232462 tw15850478159904182745 tw9304694289425131110 tw13866959136487438729 tw10074944565394309041 tw2371945444474451200 tw18187281029557680246 tw2587386228896646761 tw16523802761083581839 tw17010732657573058066 tw900935293064589132 tw9529998749749923037 tw14999203719973569120 tw8738830933241036997 tw14779532998232258272 tw15638214622410415357 tw15542081323450038459 tw13325595705644756925 tw645550726319381273 tw788483488121729926 tw3092491896993387934 tw3871123904847213261 tw11691328868940209298 tw14492120183593995981 tw3133692667925611229 tw9670542290644824099 tw15017848538363609392 tw5777752635301729821 tw15570042600161475682 tw9319110188821707321 tw14862029962234248669 tw11967686903047824595 tw16065421715153788527 tw16695125945037334228 tw7592025060010574614 tw14326147629056516669 tw2101869582259592933 tw4407082362574138013 tw10012030650323986097 tw571295209423750431 tw9200578422337873384 tw14555759356835309065 tw14842983935746641098 tw3087908876511191725 tw7892318187870179875 tw10713279136220839343 tw14500554302374037723 tw4007935901908476618 tw1320964290785803099 tw2987078138745429621 tw15401913272886486132 tw2748274869319209904 tw15122170901963131202 tw2795718333046538279 tw11321335189462839642 tw6797076599542923778 tw10825759460698512983 tw8826009797413463303 tw4797087600825372802 tw3869463278398153332 tw10566579558433772892 tw5233309022988091013 tw1883042524539559111 tw848988347109817567 tw17077653755331239185 tw16059576944973715560 tw8691431635075081364 tw12115927363581277059 tw16749820675308997490 tw13440125507341704760 tw5765147119299940077 tw3744191901902854577 tw16114303357823112260 tw2013987727739778363 tw12301642236433874627 tw15807374103098077538 tw8854446495569666221 tw12584393381796560295 tw13733099241318387276 tw3711023512005418072 tw11293841978662159152 tw9686040682446624380 tw5986799890745921032 tw15152270774062501126 tw10199312229879162793 tw2430161708776848953 tw5731100806795700708 tw13999153241573253414 tw3284429508406182162 tw8185198611852164618 tw9567676888414606741 tw11163335400797283266 tw1398632690561682100 tw11403418177518221999 tw17725820074207722857 tw13188084114092080859 tw5217153490514477086 tw2484049556200495980 tw11004336485348514142 tw6374166526473856551 tw18096103273445500538 tw8134529449410498017 tw1812349876262577194 tw11926197736447837325 tw1255715893887410610 tw11180932349298458608 tw14591590641198772173 tw14064386869741434088 tw13033707698662080490 tw2489112138756609429 tw2459047693716660835 tw14514340676957134107 tw14647442725939196804 tw15771350451847259995 tw1127154755385310279 tw16115305502479702554 tw14277855613291446596 tw10002939342262627209 tw14209014491393946277 tw3326201713178391367 tw1929974658053072289 tw12836754522754241641 tw2018306441505083873 tw15322757063221887798 tw17118075714523026812 tw12123971491777781232 tw10448057065129419475 tw8076854840837722535 tw326096477535611542 tw8161013509817831674 tw10444453699833567769 tw11299903856337989299 tw6934774752239882153 tw16998096621135219565 tw15510107789006179574 tw11273954052937628609 tw8841861593932514951 tw2781193094906648169 tw2189949543454820200 tw1914451978378301991 tw5555552536513597527 tw14892485526248487035 tw15606259353137294013 tw16813247221231517567 tw5110411424692388604 tw14096867929872880710 tw6430079540088609747 tw3385377166946531268 tw13161738818808567095 tw3564036212417632425 tw2047863622980696667 tw5395688190823780664 tw9985514619631130282 tw12108743269698863407 tw18250358579249377765 tw6439292643587151781 tw10537134272503066344 tw15892359937349243044 tw2280725475828219659 tw7937155364321170321 tw12096118536098787961 tw8000415816663638210 tw5395838911399550344 tw17922631928122239782 tw14612667638695183603 tw130437961143843720 tw15965394754407052148 tw5064196433964451578 tw17189022070960269522 tw15981345799879078551 tw11614655036073292230 tw17785144870480578728 tw15992768451876557565 tw583679381106165649 tw223964720938740879 tw3281730738015977979 tw16717051094510918243 tw5304196434565411793 tw10408249898528034960 tw7629708441581813107 tw6178819723740639862 tw14679169064600845717 tw5109045881505195950 tw7339375592516738257 tw1552288859510310908 tw9934328181068236324 tw13985866877663806582 tw16289801968715655365 tw2172297793062867046 tw5727566288444805520 tw17893241690936370618 tw14698616687981181225 tw3083099740724799981 tw17722073627656180050 tw3470814434946670408 tw15728821871309365546 tw12554597346292729417 tw15949019377883670461 tw11493988545777051429 tw10931002255805118784 tw16581611521341935528 tw4167832913539576904 tw10369084732842411765 tw8500857140068746349 tw13660271519330161464 tw16351138631752207206 tw11914577446287277988 tw15811115772585267851 tw2901823178487624224 tw16931197803596991825 tw10604305980776151869 tw2046640101448107092 tw5246173963066020259 tw11409586083727077142 tw6553435523019855961 tw258608145580903428 tw3681907443470927825 tw16179880252756948935 tw3810740457368864815 tw5153179642571622850 tw3617399809942192058 tw16692253480262955710 tw12698520954466856952 tw8924664837944391111 tw5256940359531781201 tw2910669007909266156 tw17313124170684566182 tw9525281919547160187 tw2255520218952394960 tw60758663690436283 tw2511309237272987021 tw7182572181163896824 tw600899523069406567 tw11032744162966834139 tw16174351279046259585 tw5057195793354378890 tw11082929969120793322 tw15303923628187926367 tw7074143251746676487 tw8465005910025272543 tw1960183424872638901 tw6652773238774730862 tw2696789418258084925 tw16835056192336072390 tw232573705961782192 tw17783477313013321153 tw6793731229707057804 tw12068821681962939364:True)
open PySem PySem.W PyProof.Rows
set_option maxRecDepth 100000 in
set_option maxHeartbeats 0 in
theorem PySem.Challenge.cw_mindchange_k69_whole_run_poured_holds : PySem.Challenge.rw_mindchange_k69_whole_run_poured.Holds := by
 w_on;o_law;k_head;(case hw=>w_witness2)
 k_fill
 refine L2.walk_ofX (l:=PySem.Challenge.rw_mindchange_k69_whole_run_poured) (n:=63) (k:=127) (x := "_law_script") (sp:=K69.spLaw) rfl (by decide) rfl ⟨rfl,by decide,by decide⟩ (fun w h aaa=>PySem.W.kIn_of aaa) ?F ?S
 case F =>
  intro w mg fa h KX aae hmg
  have T:∃ t,K69.Txt PySem.Challenge.rw_mindchange_k69_whole_run_poured.prog w (L2.KOf KX) mg t:=by
   dsimp only[L2.KOf]
   refine' K69.txt_mk KX aae ?A0 ?A1 ?A2 ?A3 ?A4 ?A5 ?A6 ?A7 ?A8 ?A9 ?A10 ?A11 ?A12 ?q0 ?q1 ?q2 ?q3 ?q4 ?q5 ?q6 ?q8 ?q9 ?q10 ?q11 ?q12 ?q13 ?q14 ?q15 ?q16 ?q17 ?q18 ?q19 ?q20 ?q21 ?q22 ?q23 ?q24 ?q25 ?q26 ?q27 ?q28 ?q29 ?q30 ?q33 ?q34 ?q35 ?q36 ?q37 ?q38 ?q39 ?q40 ?q41 ?q43 ?q44 ?q45 ?q46 ?q47 ?q48 ?q49 ?q50 ?q51 ?q52 ?q53 ?q54 ?q55 ?q56 ?q57 ?q58 ?q59 ?q60 ?q61 ?q62 ?q63 ?q64 ?q65 ?q66 ?q67 ?q68 ?q69 ?q70 ?q71 ?q72 ?q73 ?q74 ?q75 ?q76 ?q77 ?q78 ?q79 ?q80 ?q81 ?q82 ?q83 ?q85 ?q86 ?q87 ?q88 ?q89 ?q90 ?q91 ?q92 ?q93 ?q94 ?q95 ?q96 ?q97 ?q98 ?q99 ?q100 ?q101 ?q102 ?q103 ?q104 ?q105 ?q106 ?q107 ?q108 ?q109 ?q110 ?q111 ?A13 ?A14 ?A15 ?A16 ?A17 ?A18 ?A19 ?A20 ?A21 ?A22 ?A23 ?A24 ?A25 ?A26 ?A27 ?A28 ?A29 ?A30 ?A31 ?A32 ?A33 ?A34 ?A35 ?A36 ?A37 ?A38 ?A39 ?A40 ?A41 ?A42 ?A43 ?A44 ?A45 ?A46 ?A47 ?A48 ?A49 ?A50 ?A51 ?A52 ?A53 ?A54 ?A55 ?A56 ?A57 ?A58 ?A59 ?A60 ?A61 ?A62 ?A63 ?A64 ?A65 ?A66 ?A67 ?A68 ?A69 ?A70 ?A71 ?A72 ?A73 ?A74 ?A75 ?A76 ?A77 ?A78 ?A79 ?A80 ?A81 ?A82 ?A83 ?A84 ?A85 ?A86 ?A87 ?A88 ?A89 ?zhl
   (case A0|A1|A2|A3|A4|A5|A6|A7|A8|A9|A10|A11|A12=>k_is)
   (case q0|q1|q2|q3|q4|q5|q6|q8|q9|q10|q11|q12|q13|q14|q15|q16|q17|q18|q19|q20|q21|q22|q23|q24|q25|q26|q27|q28|q29|q30|q45|q46|q47|q55|q56|q57|q58|q59|q60|q61|q62|q63|q64|q65|q66|q67|q68|q69|q70|q71|q72|q73|q74|q76|q77|q78|q79|q80|q81|q82|q83|q85|q86|q87|q88|q89|q90|q91|q92|q93|q94|q95|q96|q97|q98|q99|q100|q101|q102|q103|q104|q105|q106|q107|q108|q109|q110|q111=>refine' K69.tq ?a ?l ?c ?k;(case a=>k_is);(case l=>k_is);(case c=>k_is);(case k=>k_is))
   (case q33|q34|q35|q36|q37|q38|q39|q40|q41|q43|q44|q48|q49|q50|q51|q52|q53|q54|q75=>refine' K69.mq ?a ?i ?l ?c ?k;(case a=>k_is);(case i=>k_is);(case l=>k_is);(case c=>k_is);(case k=>k_is))
   (case A32|A33|A34|A35|A36|A37|A38|A39|A40|A41|A42|A43|A44|A45|A46|A47|A48|A49|A50|A51|A52|A53|A54|A55|A56|A57|A58|A59|A60|A61|A62|A63|A64|A66|A68|A70|A72|A74|A75|A76|A77|A78|A79|A80|A81|A82|A83|A84|A85|A86|A87|A88|A89=>k_is)
   (case A13|A15|A17|A19|A21|A22|A24|A25|A28|A30=>kernel_rfl)
   (case A14=>k_exc)
   (case A16=>k_exc)
   (case A18=>k_exc)
   (case A20=>k_exc)
   (case A23=>k_exc)
   (case A26=>k_exc)
   (case A27=>k_exc)
   (case A29=>k_exc)
   (case A31=>k_exc)
   (case A65=>(refine' L2.mdk_of ?l ?m ?n ?s;(case l=>k_is);(case m=>(repeat (refine⟨rfl,⟨_,rfl⟩,⟨_,rfl⟩,?_⟩));exact True.intro);(case n=>decide +kernel);(case s=>kernel_rfl)))
   (case A67=>(refine' L2.mdk_of ?l ?m ?n ?s;(case l=>k_is);(case m=>(repeat (refine⟨rfl,⟨_,rfl⟩,⟨_,rfl⟩,?_⟩));exact True.intro);(case n=>decide +kernel);(case s=>kernel_rfl)))
   (case A69=>(refine' L2.mdk_of ?l ?m ?n ?s;(case l=>k_is);(case m=>(repeat (refine⟨rfl,⟨_,rfl⟩,rfl,?_⟩));exact True.intro);(case n=>decide +kernel);(case s=>kernel_rfl)))
   (case A71=>(refine' L2.mdk_of ?l ?m ?n ?s;(case l=>k_is);(case m=>(repeat (refine⟨rfl,⟨_,rfl⟩,rfl,?_⟩));exact True.intro);(case n=>decide +kernel);(case s=>kernel_rfl)))
   (case A73=>(refine' L2.mdk_of ?l ?m ?n ?s;(case l=>k_is);(case m=>(repeat (refine⟨rfl,⟨_,rfl⟩,rfl,?_⟩));exact True.intro);(case n=>decide +kernel);(case s=>kernel_rfl)))
   (case zhl=>exact fun s u=>.of_eq rfl)
  obtain⟨t,T⟩:=T
  have e0:=hmg.symm.trans T.q111.m
  cases e0
  refine' ⟨t.d111,?b,fun base kb nb=>K69.ok_law T⟩
  exact T.bl
 case S=>exact fun K H a ns hl hO hS=>⟨a,ns,rfl,hS,hl,fun _=>rfl⟩
#print axioms PySem.Challenge.cw_mindchange_k69_whole_run_poured_holds
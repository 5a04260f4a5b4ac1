import PyProof.Rows.All
import OpenK.KLine
import OpenK.KOwn
import OpenK.KWalk
import KE.KIsAll
import KE.KItem
import KE.KDictSum
import KE.KMinKey
import Wide.FinOn
import PyProof.EqAt
import PyProof.EqKinds
import PyProof.TupleCall
import PySem.Challenge.RW_mindchange_k68_whole_run_back
set_option Elab.async false
set_option linter.all false
set_option maxRecDepth 100000
set_option maxHeartbeats 8000000
abbrev ae:=@PySem.wpAny_bind
abbrev af:=@List.length_append
abbrev ah:=@List.size_toArray
abbrev ai:=@List.mem_cons
abbrev ar:=@List.map_append
abbrev ax:=@PySem.Heap.lt_size
abbrev aw:=@PySem.wpAny_pure
abbrev ay:=@Array.length_toList
abbrev aE:=@PySem.Str.length_append
abbrev aI:=@List.mem_singleton
abbrev aS:=@Ne.symm
abbrev aT:=@List.mem_append
abbrev a_:=@PySem.Paired.length
abbrev ba:=@List.length_cons
abbrev bg:=@Nat.ne_of_lt
abbrev bo:=@Nat.lt_of_lt_of_le
abbrev bp:=@List.length_take
abbrev bq:=@Int.toNat_natCast
abbrev bE:=@List.take_length
abbrev bP:=@List.all_eq_true
abbrev bS:=@Bool.and_eq_true_iff
abbrev b6:=@Nat.pow_le_pow_right
abbrev b5:=@List.map_cons
abbrev b9:=@List.mem_map
abbrev b_:=@congrArg
abbrev cb:=@Nat.ne_of_gt
abbrev cm:=@List.length_drop
abbrev cn:=@List.append_nil
abbrev cw:=@Nat.eq_of_testBit_eq
abbrev cE:=@List.length_range
abbrev cS:=@PySem.wpAny_field
abbrev de:=@PySem.wpAny_Call_Name_kw
abbrev c_:=@List.length_replicate
abbrev c9:=@List.length_singleton
abbrev da:=@List.length_filter_le
abbrev c8:=@Nat.lt_irrefl
abbrev df:=@List.cons_ne_nil
abbrev dE:=@PySem.wpAny_truthy_bool
abbrev dr:=@List.append_assoc
abbrev dQ:=@PyProof.Rows.callWith_type1
abbrev dP:=@Nat.add_le_add_left
abbrev dA:=@List.map_map
abbrev dS:=@List.filter_cons_of_neg
abbrev eo:=@List.dropLast_concat
abbrev d_:=@PySem.wpAny_mono
abbrev eh:=@PySem.W.mg_none_of
abbrev eC:=@PySem.wpAny_loadPart'
abbrev eB:=@PySem.wpAny_seqItems
abbrev eK:=@List.dropLast_concat_getLast
abbrev eA:=@Bool.and_eq_true
abbrev ez:=@Int.le_trans
abbrev eM:=@List.filter_append
abbrev eL:=@List.mem_replicate
abbrev eJ:=@List.range_succ
abbrev e_:=@Classical.byContradiction
abbrev eT:=@List.mem_range
abbrev ff:=@PySem.Heap.size_push
abbrev eR:=@List.any_cons
abbrev eW:=@List.nodup_cons
abbrev fw:=@PySem.wpAny_call_entry
abbrev fh:=@List.lookup_cons
abbrev ft:=@List.reverse_reverse
abbrev fi:=@List.getElem_mem
abbrev fz:=@List.filter_cons_of_pos
abbrev fR:=@PySem.wpAny_newObj_type
abbrev fI:=@List.take_of_length_le
abbrev fq:=@PySem.W.mg_of
abbrev fA:=@List.foldl_cons
abbrev gu:=@Nat.le_of_ble_eq_true
abbrev gd:=@List.mem_filterMap
abbrev gi:=@Int.natCast_nonneg
abbrev f':=@PySem.call_meets
abbrev gp:=@Bool.false_eq_true
abbrev f_:=@List.countP_cons
abbrev hJ:=@PyProof.Rows.int_text_len_1921
abbrev gE:=@Nat.mul_le_mul_right
abbrev gL:=@Nat.lt_of_succ_lt
abbrev gN:=@List.flatMap_cons
abbrev g9:=@PySem.F.slot_zip_next
abbrev gy:=@Nat.testBit_xor
abbrev gz:=@Int.natCast_pow
abbrev g7:=@List.filterMap_cons
abbrev g0:=@List.map_congr_left
abbrev gI:=@Nat.lt_trans
abbrev gS:=@Int.zero_add
abbrev ia:=@PySem.F.plain_min_loop
abbrev iO:=@PySem.wpAny_pyIter_tuple
abbrev ki:=@PySem.F.slot_tuple_iterator_next
abbrev iN:=@PySem.wpAny_setField_rec
abbrev hW:=@Nat.one_le_two_pow
abbrev i8:=@PySem.builtinLookup_eq_fast
abbrev i9:=@PySem.StrLaws.glued_eq_join
abbrev js:=@List.drop_eq_getElem_cons
abbrev iX:=@PySem.wpAny_passesOwn
abbrev iS:=@PySem.wpAny_updateSeq
abbrev ko:=@PySem.Around.under_plainId
abbrev hU:=@Nat.pow_succ
abbrev kg:=@Option.isSome_iff_exists
abbrev i4:=@PySem.wpAny_holding
abbrev ib:=@List.all_cons
abbrev i5:=@PySem.strLen_append
abbrev k9:=@PyProof.Rows.slot_tuple_getitem
abbrev jS:=@beq_eq_false_iff_ne
abbrev j':=@List.replicate_succ
abbrev i_:=@List.cons_append
abbrev i':=@Nat.zero_testBit
abbrev kA:=@List.length_eq_zero_iff
abbrev ky:=@Nat.lt_of_le_of_lt
abbrev kM:=@List.length_pos_of_mem
abbrev kL:=@Nat.testBit_lt_two_pow
abbrev kT:=@PySem.wpAny_execs_nil
abbrev kq:=@List.forIn_cons
abbrev kR:=@PySem.wpAny_ite_false
abbrev ku:=@PySem.W.kia_one
abbrev mn:=@PySem.StrLaws.strSub_toList
abbrev i7:=@if_true
abbrev l7:=@PySem.StrLaws.subAt_one
abbrev mB:=@Nat.testBit_two_pow_sub_one
abbrev kf:=@if_false
abbrev nz:=@List.dropWhile_cons_of_neg
abbrev nk:=@List.takeWhile_cons_of_pos
abbrev kK:=@Nat.testBit_or
abbrev ly:=@beq_self_eq_true
abbrev lP:=@Nat.le_add_right
abbrev mT:=@PySem.plainId_quiet
abbrev o_:=@List.idxOf_lt_length_iff
abbrev me:=@List.mem_filter
abbrev n0:=@PySem.codeAny_builtin
abbrev mf:=@Int.natCast_mul
abbrev nX:=@PySem.typeLookup_type
abbrev lI:=@beq_iff_eq
abbrev ny:=@List.filterMap_map
abbrev nh:=@PySem.wpAny_letGo
abbrev pV:=@Nat.toDigits_of_lt_base
abbrev mI:=@Nat.le_of_lt
abbrev ro:=@PySem.wpAny_pyIter_list
abbrev vk:=@PySem.Calls.callWith_builtin
abbrev og:=@List.flatten_cons
abbrev nB:=@Bool.and_false
abbrev mE:=@Nat.mul_comm
abbrev n9:=@Nat.lt_succ_of_lt
abbrev rd:=@List.range_succ_eq_map
abbrev nt:=@List.forIn_nil
abbrev rp:=@PySem.wpAny_pyIter_enum
abbrev tS:=@PyProof.Rows.joinParts_cons
abbrev pE:=@PySem.wpAny_tryCatch
abbrev r6:=@PySem.F.args_zip_next_1
abbrev u7:=@PySem.wpAny_nextOf_list_item
abbrev n_:=@List.foldl_append
abbrev sL:=@PyProof.Rows.split_le
abbrev sM:=@Nat.div_lt_iff_lt_mul
abbrev p9:=@Nat.lt_succ_self
abbrev pS:=@PySem.typeIs_str
abbrev tx:=@PySem.F.entry_zip_next
abbrev p_:=@List.not_mem_nil
abbrev qc:=@List.append_inj'
abbrev sF:=@PySem.wpAny_attempt
abbrev AF:=@PySem.Calls.evalArgs_plain
abbrev CM:=@List.eq_nil_of_length_eq_zero
abbrev oi:=@Int.le_refl
abbrev s_:=@List.mem_of_mem_take
abbrev sT:=@Nat.pow_lt_pow_right
abbrev r9:=@Bool.eq_iff_iff
abbrev vS:=@PySem.SeqAt.EqAt.same
abbrev v_:=@PySem.F.slot_int_rmul
abbrev rq:=@Option.map_some
abbrev rX:=@List.length_nil
abbrev rV:=@List.sum_append
abbrev rL:=@Nat.testBit_and
abbrev rS:=@Nat.div_add_mod
abbrev u_:=@ne_true_of_eq_false
abbrev vi:=@List.length_pos_iff
abbrev ve:=@List.reverse_append
abbrev vj:=@List.filter_eq_self
abbrev va:=@PySem.codeAny_mono
abbrev vc:=@PySem.W.callWith_K
abbrev rf:=@List.all_map
abbrev IY:=@Int.fdiv_eq_ediv_of_nonneg
abbrev EN:=@PySem.SeqAt.EqAt.str_str
abbrev EM:=@PySem.tupleKind_room_in1
abbrev tj:=@List.drop_zero
abbrev ES:=@PySem.F.args_str_split_2
abbrev IT:=@List.takeWhile_cons_of_neg
abbrev IQ:=@Nat.testBit_two_pow_add_gt
abbrev IS:=@Nat.testBit_two_pow_add_eq
abbrev IU:=@List.nodup_iff_pairwise_ne
abbrev tw:=@Int.natAbs_neg
abbrev xC:=@decide_eq_true_iff
abbrev AB:=@List.any_eq_false
abbrev IP:=@PySem.slot_list_getitem
abbrev z5:=@PySem.intItems_at
abbrev IZ:=@PySem.F.entry_str_split
abbrev z_:=@Option.bind_assoc
abbrev CI:=@PySem.nums_intItems
abbrev vT:=@List.sum_cons
abbrev Ct:=@Array.toList_inj
abbrev z4:=@PySem.numAt_eq
abbrev Co:=@List.flatMap_nil
abbrev Cs:=@List.filter_cons
abbrev Cn:=@Nat.mod_eq_of_lt
abbrev As:=@Nat.le_of_eq
abbrev AA:=@List.map_nil
abbrev EL:=@PySem.typeIs_int
abbrev Au:=@Nat.add_comm
abbrev Ap:=@Nat.sub_zero
abbrev EK:=@PySem.wpAny_rule
abbrev AD:=@Int.ofNat_le
abbrev AE:=@Int.lt_or_le
abbrev ER:=@List.of_mem_zip
abbrev EO:=@Nat.min_eq_left
abbrev CL:=@Sum.inr.inj
abbrev I_:=@Bool.false_and
abbrev IX:=@List.foldl_nil
theorem dk{p:Prop}[Decidable p](h:decide p=true:=by decide +kernel):p:=of_decide_eq_true h
theorem G{p:Prop}(h:p:=by first|lia|omega):p:=h
theorem b4{p:Prop}(h:p:=by decide):p:=h
theorem oz{p:Prop}(h:p:=by simp):p:=h
theorem gT{p:Prop}(h:p:=by kernel_rfl):p:=h
theorem kU{p:Prop}(h:p:=by first|omega | (refine(?_:@Ne Nat _ _);exact G)):p:=h
theorem obz{p:Prop}(h:p:=by first|exact gu rfl|simp):p:=h
theorem ou{p:Prop}(h:p:=by with_unfolding_all rfl):p:=h
theorem vv{p:Prop}(h:p:=by show 1<=PySem.sizeLine;decide):p:=h
theorem xE{p:Prop}(h:p:=by show 2<=PySem.sizeLine;decide):p:=h
theorem E2{p:Prop}(h:p:=by first|exact Or.inl rfl|exact Or.inr rfl):p:=h
theorem Z{α:Sort _}{a:α}:a=a:=rfl
abbrev cK:=@decide_eq_true
abbrev eS:=@of_decide_eq_true
abbrev gX:=@decide_eq_false
abbrev bX:=@if_neg
abbrev qp:=@if_pos
abbrev jv:=@Bool.false_ne_true
abbrev qms:=@List.mem_cons_self
abbrev k_:=@List.mem_cons_of_mem
abbrev gV:=@Nat.le_trans
abbrev qB:=@List.mem_of_getElem?
abbrev w9:=@List.mem_append_left
abbrev pd:=@List.mem_append_right
abbrev kF:=@Option.some.inj
abbrev AR:=@Int.emod_nonneg
abbrev BE:=@Int.emod_lt_of_pos
abbrev qnr:=@Nat.le_refl
abbrev mr:=@Nat.zero_le
abbrev dn:=@List.length_map
abbrev lS:=@List.getElem?_map
abbrev rh:=@List.take_add_one
namespace L2
open PySem PySem.Spec PyProof.Rows
end L2
variable{p pos pos' tpos apos p2 fb:PySem.Pos}{a b it aad f C dx sl np z c0 i1 i2 l1 l2 S bl no:PySem.Addr}{us its ds bm:List PySem.Value}{u cd doc pm j_ ct oc vl vu a0 dc:PySem.Value}{h h' h1 h2 base:PySem.Heap}{P prog q P0:PySem.Program}{w:PySem.World}{x name m qual kd:PySem.Str}{e tg iter value elt:PySem.Expr}{Y:List (PySem.Addr×PySem.Obj)}{s s' s1 s2:PySem.Shared}{t' i j c n k1 sd:Nat}{ch fp:List PySem.Addr}{N ns ps ws loose N' ss kl:List PySem.Str}{A:PySem.Around}{E Q EE:PySem.Value->PySem.Shared->Prop}{R:PySem.Result->PySem.Shared->Prop}{K:PySem.W.Frag}{st:PySem.Stmt}{es ifs elts:List PySem.Expr}{body:List PySem.Stmt}{lo B lean first B':Int}{hi:Option Int}{mA mg:PySem.Str->Option PySem.Value}{kw:List (PySem.Str×PySem.Value)}{env:PySem.Env}{fd:PySem.FuncData}{outer:List PySem.Env}{sc scope:PySem.Scope}{an od:Option PySem.Addr}{Md:Array (Option PySem.Value)}{YP:PySem.World->PySem.Heap->Prop}{ix:List (Option Nat)}{newId:String}{oa:PySem.Obj}{rs:List Int}{cs:List Nat}{rss:List (List Int)}{prs:List (Int×PySem.Str)}
namespace L2
open PySem PySem.Spec PyProof.Rows
abbrev Key:=Sum Int Str
def m6:Key->Value->Bool
 | .inl k,v=>Value.isInt k v
 | .inr x,v=>Value.isStrOf x v
def RM(w:World):Key->Int
 | .inl k=>hashInt k
 | .inr x=>hashStr w x
theorem cZ:∀{k:Key}{v:Value},m6 k v=true->(∃ i t,k=Sum.inl i/\v=Value.int i t)\/(∃ x t,k=Sum.inr x/\v=Value.str x t)
 | .inl i,v,h=>by
  obtain⟨t,e⟩:=Value.isInt_shape (k:=i) (v:=v) h;exact .inl ⟨i,t,rfl,e⟩
 | .inr x,v,h=>by
  obtain⟨t,e⟩:=Value.isStrOf_shape (x:=x) (v:=v) h;exact .inr ⟨x,t,rfl,e⟩
theorem DP(i:Int)(t:Tok):m6 (.inl i) (.int i t)=true:=by simp[m6,Value.isInt]
theorem DQ(x:Str)(t:Tok):m6 (.inr x) (.str x t)=true:=by simp[m6,Value.isStrOf]
theorem Ov(a b:Int):decide ((Sum.inl a:Key)=Sum.inl b)=(a==b):=by
 by_cases e:a=b
 .subst e;simp
 have h:¬(Sum.inl a:Key)=Sum.inl b:=fun q=>e (Sum.inl.inj q)
 rw[gX h];exact(jS.mpr e).symm
theorem Ow(a b:Str):decide ((Sum.inr a:Key)=Sum.inr b)=decide (a=b):=by
 by_cases e:a=b
 .subst e;simp
 have h:¬(Sum.inr a:Key)=Sum.inr b:=fun q=>e (CL q)
 rw[gX h,gX e]
theorem Ox(a:Int)(b:Str):decide ((Sum.inl a:Key)=Sum.inr b)=false:=gX (fun q=>nomatch q)
theorem Oz(a:Str)(b:Int):decide ((Sum.inr a:Key)=Sum.inl b)=false:=gX (fun q=>nomatch q)
def bT(prog:Program)(w:World):PySem.KeyKind prog w Key where
 is:=m6
 hash:=RM w
 inj := fun v a b ha hb=>by
  rcases cZ ha with⟨i,t,rfl,rfl⟩|⟨x,t,rfl,rfl⟩
  .rcases cZ hb with⟨j,u,rfl,e⟩|⟨y,u,rfl,e⟩
   .injection e with e1 _;rw[e1]
   exact nomatch e
  rcases cZ hb with⟨j,u,rfl,e⟩|⟨y,u,rfl,e⟩
  .exact nomatch e
  injection e with e1 _;rw[e1]
 byValue:=fun k v h=>by
  rcases cZ h with⟨i,t,rfl,rfl⟩|⟨x,t,rfl,rfl⟩<;>rfl
 pyHash:=fun hv h=>by
  rcases cZ hv with⟨i,t,rfl,rfl⟩|⟨x,t,rfl,rfl⟩
  .exact wpAny_pyHash_int h
  exact wpAny_pyHash_str h
 eqBool:=fun hu hv h=>by
  rcases cZ hu with⟨i,t,rfl,rfl⟩|⟨x,t,rfl,rfl⟩
  .rcases cZ hv with⟨j,u,rfl,rfl⟩|⟨y,u,rfl,rfl⟩
   .rw[Ov]at h;exact wpAny_eqBool_int h
   rw[Ox]at h;exact SeqAt.EqAt.int_str i t y u _ _ _ _ h
  rcases cZ hv with⟨j,u,rfl,rfl⟩|⟨y,u,rfl,rfl⟩
  .rw[Oz]at h;exact SeqAt.EqAt.str_int x t j u _ _ _ _ h
  rw[Ow]at h;exact wpAny_eqBool_str h
 «strs»:=fun k x t v h=>by
  rcases cZ h with⟨i,u,rfl,e⟩|⟨y,u,rfl,e⟩
  .exact nomatch e
  injection e with e1 _
  subst e1;cases v<;>rfl
theorem qt(prog:Program)(w:World)(i:Int)(t:Tok):(bT prog w).is (.inl i) (.int i t)=true:=DP i t
theorem qu(prog:Program)(w:World)(x:Str)(t:Tok):(bT prog w).is (.inr x) (.str x t)=true:=DQ x t
inductive V where
 |non|bl (b:Bool)|int (i:Int)|str (x:Str)|byt (b:Array UInt8)|flt (b:UInt64)|ref (a:Addr)|ty (n:String)
 deriving DecidableEq
end L2
variable{xs ys vs dvs mv bv ms mv' bv':List L2.V}{v y:L2.V}{kvs ks:List (L2.Key×L2.V)}
namespace L2
open PySem PySem.Spec PyProof.Rows
def RelV:V->Value->Prop
 | .non,u=>u=Value.none
 | .bl b,u=>u=Value.bool b
 | .int i,u=>∃ t,u=Value.int i t
 | .str x,u=>∃ t,u=Value.str x t
 | .byt b,u=>∃ t,u=Value.bytes b t
 | .flt b,u=>∃ t,u=Value.float b t
 | .ref a,u=>u=Value.ref a
 | .ty n,u=>u=Value.type n
abbrev Vals:List V->List Value->Prop:=Paired RelV
theorem Vals.length{xs:List V}{us:List Value}(r:Vals xs us):xs.length=us.length:=a_ r
theorem Vals.get:∀{xs:List V}{us:List Value}{i:Nat}{x:V},Vals xs us->xs[i]?=some x->∃ u,us[i]?=some u/\RelV x u
 |_,_,_,_,.nil,e=>by simp at e
 |_,_,0,_,.cons r _,e=>by simp at e;subst e;exact⟨_,Z,r⟩
 | _,_,i+1,x,.cons _ t,e=>by
  obtain⟨u,h1,h2⟩:=Vals.get (i:=i) (x:=x) t (by simpa using e);exact⟨u,by simpa using h1,h2⟩
theorem Vals.append:∀{xs ys:List V}{us ws:List Value},Vals xs us->Vals ys ws->Vals (xs++ys) (us++ws)
 |_,_,_,_,.nil,s=>s
 |_,_,_,_,.cons r t,s=>.cons r (Vals.append t s)
theorem Vals.take:∀{xs:List V}{us:List Value}(n:Nat),Vals xs us->Vals (xs.take n) (us.take n)
 |_,_,0,_=>.nil
 |_,_,_+1,.nil=>.nil
 |_,_,n+1,.cons r t=>.cons r (Vals.take n t)
theorem Vals.drop:∀{xs:List V}{us:List Value}(n:Nat),Vals xs us->Vals (xs.drop n) (us.drop n)
 |_,_,0,r=>r
 |_,_,_+1,.nil=>.nil
 |_,_,n+1,.cons _ t=>Vals.drop n t
def mx:Option V->Option Value->Prop
 |some v,some u=>RelV v u
 |none,none=>True
 |_,_=>False
def KV{κ:Type}:List (κ×V)->List (κ×Value)->Prop:=Paired fun(p:κ×V)(q:κ×Value)=>p.1=q.1/\RelV p.2 q.2
def kV:Key->V
 | .inl i=>.int i
 | .inr x=>.str x
inductive HO where
  |lst (xs:List V)
  |tup (xs:List V)
  |dK (kvs:List (Key×V))|dT (kvs:List (List Key×V))
  |set (S:Int->Bool) (n:Nat)
  |ins (C dx:Addr) (fs:List (Str×V))
  |own (x:Addr)
  |xd (fs:List (Str×V))
  |met (f x:Addr)
  |vn (lo hi:Int)
  |xt (o:Obj) (u:HO)
  |ET (ps:Array Value)
  |ext (φ:Heap->Prop)
abbrev Hp:=Addr->Option HO
end L2
variable{H J H1 H2 VN:L2.Hp}{o o':L2.HO}
namespace L2
open PySem PySem.Spec PyProof.Rows
def upd(H:Hp)(a:Addr)(o:HO):Hp:=fun b=>if b=a then some o else H b
theorem ao:upd H a o a=some o:=by unfold upd;rw[qp rfl]
theorem aB(h:b≠a):upd H a o b=H b:=by unfold upd;rw[bX h]
theorem pO{u:HO}:upd (upd H a o) a u=upd H a u:=by
 funext b;unfold upd;split<;>rfl
theorem aZ{u:HO}(h:H a=some o)(h':H b=some u)(d:o≠u:=by intro z;cases z):a≠b:=by
 intro e;subst e;rw[h]at h';exact d (kF h')
theorem aG(h:H a=some o)(h':H b=none):a≠b:=by
 intro e;subst e;rw[h]at h';cases h'
def kD(h:Heap)(a:Addr)(its:Array Value):Prop:=∃ o,h.get? a=some o/\o.cls=.type "tuple"/\∃ n,(o.data,o.dict)=(Data.seq its n,none)
theorem kD.tup{h:Heap}{a:Addr}{its:Array Value}(x:kD h a its):IsTup h a its:=let ⟨o,e,c,n,d⟩:=x;⟨o,e,c,n,b_ Prod.fst d⟩
theorem kD.new(h:Heap)(its:Array Value):kD (h.push { cls:=.type "tuple",data:=.seq its }) h.objs.size its:=⟨_,Heap.get?_push_size _ rfl,rfl,_,rfl⟩
section
variable(P:Program)(w:World)
def fv(H:Hp)(h:Heap)(a:Addr):HO->Prop
 | .lst xs=>xs.length<=sizeLine/\∃(its:List Value) (n:Nat),Vals xs its/\h.get? a=some { cls:=.type "list",data:=.seq its.toArray n }
 | .tup xs=>xs.length<=sizeLine/\∃ its:List Value,Vals xs its/\kD h a its.toArray
 | .dK kvs=>kvs.length<=sizeLine/\(a==sysModules)=false/\∃ vs,KV kvs vs/\h.DictOf (bT P w) a vs
 | .dT kvs=>kvs.length<=sizeLine/\(a==sysModules)=false/\∃ xs:List (List Key×Addr×Value),
   Paired (fun(p:List Key×V)(q:List Key×Addr×Value)=>p.1=q.1/\H q.2.1=some (.tup (p.1.map kV))/\RelV p.2 q.2.2) kvs xs /\
   ∃ o es ep,h.get? a=some o/\o.ExactDict/\o.data=.dict es ep/\es.toList=xs.map (entryOfKey (tupleKind (bT P w)))/\(xs.map (·.1)).Nodup
 | .set S n=>h.SetOf (intKind P w) a S n
 | .ins C dx fs=>H dx=some (.own a)/\fs.length<=1000/\dx≠a/\h.get? a=some (W.instObj C dx) /\
   ∃ mA,h.Ns1 dx mA/\(∀ f,mx (fs.lookup f) (mA f))/\PySem.Within mA (fs.map (·.1))
 | .own _=>∃ o,h.get? a=some o
 | .xd fs=>∃ mA,h.Ns1 a mA/\∀ f,mx (fs.lookup f) (mA f)
 | .vn lo hi=>∃ t u v,h.get? a=some { cls:=.type "range",data:=.fields #[.int lo t,.int hi u,.int 1 v] }
 | .xt o u=>h.get? a=some o/\fv H h a u
 | .ET ps=>h.get? a=some { cls:=.none,data:=.fields ps }
 | .met f x=>h.get? a=some (W.methodObj (.ref f) (.ref x))
 | .ext φ=>φ h/\(∃ o,h.get? a=some o)/\∀ h1 h2:Heap,φ h1->(∀ o,h1.get? a=some o->h2.get? a=some o)->φ h2
def mS(H:Hp)(h:Heap):Prop:=∀ a o,H a=some o->fv P w H h a o
end
theorem fv.lt(x:fv P w H h a o):a<h.objs.size:=by
 cases o with
 |lst xs=>obtain⟨_,_,_,_,e⟩:=x;exact ax e
 |tup xs=>obtain⟨_,_,_,p⟩:=x;exact p.tup.lt
 |dK kvs=>obtain⟨_,_,_,_,o,_,_,e,_⟩:=x;exact ax e
 |dT kvs=>obtain⟨_,_,_,_,o,_,_,e,_⟩:=x;exact ax e
 |set S n=>obtain⟨o,_,_,_,e,_⟩:=x;exact ax e
 |ins C dx fs=>obtain⟨_,_,_,e,_⟩:=x;exact ax e
 |own y=>obtain⟨_,e⟩:=x;exact ax e
 |xd fs=>obtain⟨_,⟨_,_,_,e,_⟩,_⟩:=x;exact ax e
 |vn lo hi=>obtain⟨_,_,_,e⟩:=x;exact ax e
 |xt ob u=>obtain⟨e,_⟩:=x;exact ax e
 |ET ps=>exact ax (show h.get? a=some _ from x)
 |met f y=>exact ax (show h.get? a=some _ from x)
 |ext φ=>obtain⟨_,⟨_,e⟩,_⟩:=x;exact ax e
theorem Paired.iA{α β:Type}{F aae:α->β->Prop}:∀{l₁:List α}{l₂:List β},Paired F l₁ l₂->(∀ a b,F a b->aae a b)->Paired aae l₁ l₂
 |_,_,.nil,_=>.nil
 |_,_,.cons r t,f=>.cons (f _ _ r) (Paired.iA t f)
theorem fv.stay(x:fv P w H h a o)(k:∀ b u,(b=a\/H b=some (.own a))->h.get? b=some u->h'.get? b=some u)(ho:∀ b,H b=some (.own a)->J b=some (.own a))(ht:∀ b xs,H b=some (.tup xs)->J b=some (.tup xs)):fv P w J h' a o:=by
 induction o with
 |lst xs=>obtain⟨z,its,n,r,e⟩:=x;exact⟨z,its,n,r,k _ _ (.inl rfl) e⟩
 |tup xs=>obtain⟨z,its,r,ob,e,c⟩:=x;exact⟨z,its,r,ob,k _ _ (.inl rfl) e,c⟩
 |dK kvs=>obtain⟨z,y,vs,r,ob,es,ep,e,c⟩:=x;exact⟨z,y,vs,r,ob,es,ep,k _ _ (.inl rfl) e,c⟩
 | dT kvs =>
  obtain⟨z,y,xs,r,ob,es,ep,e,c⟩:=x;exact⟨z,y,xs,Paired.iA r fun p q z=>⟨z.1,ht _ _ z.2.1,z.2.2⟩,ob,es,ep,k _ _ (.inl rfl) e,c⟩
 |set S n=>obtain⟨ob,es,ep,t,e,c⟩:=x;exact⟨ob,es,ep,t,k _ _ (.inl rfl) e,c⟩
 | ins C dx fs =>
  obtain⟨d,z,ne,e,mA,⟨od,es,ep,e2,c⟩,r⟩:=x;exact⟨ho _ d,z,ne,k _ _ (.inl rfl) e,mA,⟨od,es,ep,k _ _ (.inr d) e2,c⟩,r⟩
 |own y=>obtain⟨ob,e⟩:=x;exact⟨ob,k _ _ (.inl rfl) e⟩
 |xd fs=>obtain⟨mA,⟨od,es,ep,e,c⟩,r⟩:=x;exact⟨mA,⟨od,es,ep,k _ _ (.inl rfl) e,c⟩,r⟩
 |vn lo hi=>obtain⟨t,u,v,e⟩:=x;exact⟨t,u,v,k _ _ (.inl rfl) e⟩
 |xt ob u ih=>obtain⟨e,q⟩:=x;exact⟨k _ _ (.inl rfl) e,ih q⟩
 | ET ps =>
  have e:h.get? a=some { cls:=.none,data:=.fields ps }:=x;show h'.get? a=some { cls:=.none,data:=.fields ps };exact k a _ (.inl rfl) e
 | met f y =>
  have e:h.get? a=some (W.methodObj (.ref f) (.ref y)):=x;show h'.get? a=some (W.methodObj (.ref f) (.ref y));exact k a _ (.inl rfl) e
 |ext φ=>obtain⟨p,⟨o,e⟩,st⟩:=x;exact⟨st _ _ p fun o q=>k _ _ (.inl rfl) q,⟨o,k _ _ (.inl rfl) e⟩,st⟩
theorem mS.lt(x:mS P w H h)(e:H a=some o):a<h.objs.size:=(x a o e).lt
theorem mS.fresh(x:mS P w H h)(e:h.objs.size<=a):H a=none:=by
 cases q:H a with
 |none=>rfl
 |some u=>exact absurd (bo (x.lt q) e) (c8 _)
theorem mS.kept(x:mS P w H h)(k:∀ b u,h.get? b=some u->h'.get? b=some u):mS P w H h':=fun a o e =>
 (x a o e).stay (fun b u _ q=>k b u q) (fun _ q=>q) fun _ _ q=>q
theorem mS.laid(x:mS P w H h)(k:∀ b u,h.get? b=some u->h'.get? b=some u)(hp:h.objs.size<=a)(new:fv P w (upd H a o) h' a o):mS P w (upd H a o) h':=fun b u e=>by
 have hn:=x.fresh hp
 by_cases hb:b=a
 .subst hb;rw[ao]at e;cases e;exact new
 rw[aB hb]at e;exact(x b u e).stay (fun c v _ q=>k c v q) (fun c q=>by rw[aB (aG q hn)];exact q) fun c xs q=>by rw[aB (aG q hn)];exact q
def Rd(H:Hp)(a:Addr)(u:HO):Prop:=H a=some u\/∃ o,H a=some (.xt o u)
theorem Rd.ok{u:HO}(r:Rd H a u)(x:mS P w H h):fv P w H h a u:=by
 rcases r with r|⟨o,r⟩
 .exact x a u r
 obtain⟨_,q⟩:=x a _ r;exact q
def Uk:Option HO->Prop
 |some (.lst _)=>True
 |some (.dK _)=>True
 |some (.dT _)=>True
 |some (.set _ _)=>True
 |some (.ins _ _ _)=>True
 |some (.ext _)=>True
 |_=>False
section
variable{x e:Addr}
theorem mS.write(ok:mS P w H h)(mu:Uk (H x))(he:e=x\/H e=some (.own x))(k:∀ b u,b≠e->h.get? b=some u->h'.get? b=some u)(OR:∃ u,h'.get? e=some u)(new:fv P w (upd H x o') h' x o'):mS P w (upd H x o') h':=fun b u q=>by
 have QI:∀ c y,H c=some (.own y)->c≠x:=fun c y r z=>by subst z;rw[r]at mu;exact mu
 have We:∀ c xs,H c=some (.tup xs)->c≠x:=fun c xs r z=>by subst z;rw[r]at mu;exact mu
 by_cases hb:b=x
 .subst hb;rw[ao]at q;cases q;exact new
 rw[aB hb]at q
 by_cases NF:b=e
 .have q':H b=some (.own x):=by
   rcases he with z|z
   .exact absurd (NF.trans z) hb
   rw[NF];exact z
  rw[q]at q';cases q';obtain⟨v,hv⟩:=OR;exact⟨v,by rw[NF];exact hv⟩
 refine(ok b u q).stay (fun c v hc r=>k c v ?_ r) (fun c r=>by rw[aB (QI c b r)];exact r) fun c xs r=>by rw[aB (We c xs r)];exact r
 rcases hc with rfl|hc
 .exact NF
 rintro rfl;rcases he with z|z
 .exact QI c b hc z
 rw[hc]at z;cases z;exact hb rfl
end
structure Un(fs ex:List Addr)(H J:Hp)(h h':Heap):Prop where
 keep:∀ b o,h.get? b=some o->H b=none->b∉fs->b∉ex->h'.get? b=some o
 slot:∀ b o,h.get? b=some o->H b=none->b∈fs->b∉ex->∃ sl,h'.get? b=some { o with slots:=sl }
 free:∀ b o,h.get? b=some o->H b=none->b∉ex->J b=none
 there:∀ b o,h.get? b=some o->b∉ex->∃ o',h'.get? b=some o'
 tups:∀ b xs,H b=some (.tup xs)->J b=some (.tup xs)
 nc:∀ b o u,H b=some (.xt o u)->J b=some (.xt o u)
 nI:∀ b ps,H b=some (.ET ps)->∃ more,J b=some (.ET (ps++more))
section
variable{fs fs' ex ex':List Addr}{x e:Addr}
theorem Un.any(u:Un fs ex H H1 h h1){ob:Obj}(q:h.get? b=some ob)(n:H b=none)(hx:b∉ex):∃ sl,h1.get? b=some { ob with slots:=sl }:=by
 by_cases hb:b∈fs
 .exact u.slot b ob q n hb hx
 exact⟨ob.slots,u.keep b ob q n hb hx⟩
theorem Un.kept(k:∀ b u,h.get? b=some u->h'.get? b=some u):Un fs ex H H h h' :=
 ⟨fun b ob q _ _ _=>k b ob q,fun b ob q _ _ _=>⟨ob.slots,k b ob q⟩,fun _ _ _ n _=>n,fun b ob q _=>⟨ob,k b ob q⟩,fun _ _ q=>q,fun _ _ _ q=>q,fun _ ps q=>⟨#[],by rw[q];simp⟩⟩
theorem Un.refl:Un fs ex H H h h:=Un.kept fun _ _ q=>q
theorem Un.laid(k:∀ b u,h.get? b=some u->h'.get? b=some u)(hp:h.objs.size<=a)(hn:H a=none):Un fs ex H (upd H a o) h h' where
 keep:=fun b u q _ _ _=>k b u q
 slot:=fun b u q _ _ _=>⟨u.slots,k b u q⟩
 free:=fun b u q n _=>by rw[aB (bg (bo (ax q) hp))];exact n
 there:=fun b u q _=>⟨u,k b u q⟩
 tups:=fun b xs q=>by rw[aB (aG q hn)];exact q
 nc:=fun b u xs q=>by rw[aB (aG q hn)];exact q
 nI:=fun b ps q=>⟨#[],by rw[aB (aG q hn),q];simp⟩
theorem Un.write(mu:Uk (H x))(he:e=x\/H e=some (.own x))(k:∀ b u,b≠e->h.get? b=some u->h'.get? b=some u)(OR:∃ u,h'.get? e=some u):Un fs ex H (upd H x o) h h':=by
 have hx:∀ b,H b=none->b≠x:=fun b n z=>by subst z;rw[n]at mu;exact mu
 have hb:∀ b,H b=none->b≠e:=fun b n z=>by
  subst z;rcases he with r|r
  .exact hx b n r
  rw[n]at r;cases r
 have hm:∀ b u,H b=some u->¬Uk (some u)->b≠x:=fun b u q nm z=>by subst z;rw[q]at mu;exact nm mu
 refine⟨fun b u q n _ _=>k b u (hb b n) q,fun b u q n _ _=>⟨u.slots,k b u (hb b n) q⟩,fun b u q n _=>by rw[aB (hx b n)];exact n,fun b u q _=>?_,
  fun b xs q=>by rw[aB (hm b _ q fun z=>z)];exact q,fun b u xs q=>by rw[aB (hm b _ q fun z=>z)];exact q,fun b ps q=>⟨#[],by rw[aB (hm b _ q fun z=>z),q];simp⟩⟩
 by_cases NF:b=e
 .subst NF;exact OR
 exact⟨u,k b u NF q⟩
end
def Fc(h:Heap)(H:Hp):List Addr:=(List.range h.objs.size).filter fun a=>(H a).isSome
def m7(h:Heap)(H:Hp):Heap:=W.hideAll h (Fc h H)
theorem DR(h:Heap)(H:Hp):(m7 h H).objs.size=h.objs.size:=W.hideAll_size _ _
theorem HQ{o:Obj}(e:h.get? b=some o)(n:H b=none):(m7 h H).get? b=some o :=
 W.hideAll_get _ e fun hm=>by
  have q:(H b).isSome=true:=(me.mp hm).2;rw[n]at q;simp at q
theorem Lw{o:Obj}(e:(m7 h H).get? b=some o):h.get? b=some o/\H b=none:=by
 have e':h.get? b=some o:=W.of_hideAll (Fc h H) e;refine⟨e',?_⟩;cases q:H b with
 |none=>rfl
 | some x =>
  have hm:b∈Fc h H:=me.mpr ⟨eT.mpr (ax e'),by simp[q]⟩;have z:(m7 h H).get? b=none:=W.hideAll_none (Fc h H) hm;rw[z]at e;cases e
structure Mod(K:W.Frag)(mg:Str->Option Value)(base:Heap):Prop where
 Kb:K.In base
 glob:base.Ns mainGlobals mg
 blt:∃ mb,base.Ns builtinsNs mb/\∀ x:Str,x≠"__name__"->mb x=bootBuiltins x
 nolimit:base.NoLimit
structure Cx where
 prog:Program
 w:World
 K:W.Frag
 mg:Str->Option Value
 base:Heap
 A:Around
 N:List Str
 s₀:Shared
 H₀:Hp
 env:Env
 outer:List Env
 stack:List Env
 ex:List Addr
 fn:Str->Bool
 calm:Bool
 pn:List (Addr×Obj)
 xe:Value->Shared->Prop
end L2
variable{X:L2.Cx}
namespace L2
open PySem PySem.Spec PyProof.Rows
def kz(l:List Env):List Addr:=l.filterMap (·.frame)
abbrev Cx.fs(X:Cx):List Addr:=kz X.outer
def Uh(sc:Scope)(x:Str):Prop:=sc.names.lookup x=some .local \/ sc.names.lookup x=some .cell \/ sc.names.lookup x=some .free
def Loc(sc:Scope)(x:Str):Prop:=sc.names.lookup x=some .local \/ sc.names.lookup x=some .cell
def Look(env:Env)(h:Heap)(m:Str->Option Value)(x:Str)(u:Value):Prop :=
 (env.kindOf x=some .local /\ m x=some u)\/((env.kindOf x=some .cell \/ env.kindOf x=some .free)/\∃ c,env.cells.lookup x=some c/\h.IsCell c (some u))
structure Cx.Ok(X:Cx):Prop where
 mod:Mod X.K X.mg X.base
 kind:X.env.scope.kind=.function
 glob:X.env.globals=mainGlobals
 blt:X.env.builtins=builtinsNs
 above:X.s₀.heap.objs.size<=X.env.locals
 inj:∀ x y c,X.env.cells.lookup x=some c->X.env.cells.lookup y=some c->x=y
 has:∀ x,(X.env.kindOf x=some .cell \/ X.env.kindOf x=some .free)->∃ c,X.env.cells.lookup x=some c
 NU:∀ x c,X.fn x=true->X.env.cells.lookup x=some c->X.s₀.heap.objs.size<=c
 hd:X.calm=true->X.A.handled=none
 frames:X.A.frames=some X.stack
 N9:X.stack=X.outer\/(X.stack=X.env::X.outer/\X.env.frame=some X.env.locals)
 Vq:∀ b∈X.ex,b≠X.env.locals/\∀ x c,X.env.cells.lookup x=some c->c≠b
 bs:∀ b o,X.base.get? b=some o->X.s₀.heap.get? b=some o/\X.H₀ b=none
 EF:X.base.objs.size<=X.s₀.heap.objs.size
 yn:∀ b o,X.base.get? b=some o->b∉X.ex
 B_:∀ b∈X.ex,b∉X.fs
 oI:X.s₀.heap.FunFrames X.base X.outer
 II:∀ b∈X.fs,X.H₀ b=none
structure Inv(X:Cx)(Y:List (Addr×Obj))(M:List (Option V))(H:Hp)(s:Shared):Prop where
 ok:X.Ok
 os:s.os=X.s₀.os
 bare:AllBare s.gens
 base:Un X.fs X.ex X.H₀ H X.s₀.heap s.heap
 loc:∃ m,s.heap.Ns X.env.locals m/\∀(i:Nat)(x:Str)(v:V),X.N[i]?=some x->M[i]?=some (some v)->Uh X.env.scope x->∃ u,RelV v u/\Look X.env s.heap m x u
 cell:∀ x c,X.env.cells.lookup x=some c->∃ v,s.heap.IsCell c v
 free:H X.env.locals=none
 ll:∀ x c,X.env.cells.lookup x=some c->H c=none
 pin:∀ p∈X.pn++Y,s.heap.get? p.1=some p.2/\H p.1=none/\p.1≠X.env.locals/\p.1∉X.fs/\∀ v,p.2.data≠.cell v
 hok:mS X.prog X.w H s.heap
 len:M.length=X.N.length
section
variable{M:List (Option V)}
theorem Cx.Ok.Wi(ok:X.Ok){o:Obj}(e:X.base.get? b=some o):b∉X.fs:=fun hb=>by
 have:=(ok.oI.mem hb).1;rw[e]at this;cases this
theorem Inv.bs(I:Inv X Y M H s):∀ b o,X.base.get? b=some o->s.heap.get? b=some o/\H b=none:=fun b o e =>
 ⟨I.base.keep b o (I.ok.bs b o e).1 (I.ok.bs b o e).2 (I.ok.Wi e) (I.ok.yn b o e),I.base.free b o (I.ok.bs b o e).1 (I.ok.bs b o e).2 (I.ok.yn b o e)⟩
theorem Inv.bk(I:Inv X Y M H s):∀ b o,X.base.get? b=some o->s.heap.get? b=some o:=fun b o e=>(I.bs b o e).1
theorem Inv.mod(I:Inv X Y M H s):Mod X.K X.mg X.base:=I.ok.mod
theorem Inv.kIn(I:Inv X Y M H s):X.K.In s.heap:=I.ok.mod.Kb.keeps I.bk
theorem Inv.fr(I:Inv X Y M H s):∃ m,Fr X.base X.env.locals s.heap m :=
 let ⟨m,hn,_⟩:=I.loc
 ⟨m,hn,I.bk,gV I.ok.EF I.ok.above⟩
theorem Inv.lt(I:Inv X Y M H s):X.env.locals<s.heap.objs.size:=let ⟨_,hn,_⟩:=I.loc;hn.lt
theorem Inv.sz(I:Inv X Y M H s):X.s₀.heap.objs.size<=s.heap.objs.size:=gV I.ok.above (mI I.lt)
theorem Inv.Wh(I:Inv X Y M H s)(h:s.heap.objs.size<=a):a∉X.fs:=fun hb=>by
 obtain⟨_,o,ho,_⟩:=I.ok.oI.mem hb;exact absurd (bo (ax ho) (gV I.sz h)) (c8 _)
theorem Inv.NS(I:Inv X Y M H s):∀ x c,X.env.cells.lookup x=some c->c≠X.env.locals:=fun x c e z=>by
 obtain⟨v,o,ho,hd⟩:=I.cell x c e;obtain⟨m,⟨o',es,ep,yy,vE,_⟩,_⟩:=I.loc;rw[z,yy]at ho;cases ho;rw[vE]at hd;cases hd
theorem Inv.oI(I:Inv X Y M H s):s.heap.FunFrames X.base X.outer:=by
 have all:∀(l:List Env),(∀ b∈kz l,b∈X.fs)->X.s₀.heap.FunFrames X.base l->s.heap.FunFrames X.base l:=by
  intro l
  induction l with
  |nil=>intro _ _;trivial
  | cons env r ih =>
   intro hs hl;obtain⟨hk,⟨L,o,hf,hn,ho,hd⟩,hr⟩:=hl;have hL:L∈X.fs:=hs L (by unfold kz;rw[g7,hf];exact qms);obtain⟨sl,e⟩:=I.base.slot L o ho (I.ok.II L hL) hL fun z=>I.ok.B_ L z hL
   exact⟨hk,⟨L,_,hf,hn,e,hd⟩,ih (fun b hb=>hs b (by unfold kz;rw[g7,hf];exact k_ _ hb)) hr⟩
 exact all X.outer (fun _ hb=>hb) I.ok.oI
theorem Inv.stack(I:Inv X Y M H s):s.heap.FunFrames X.base X.stack:=by
 rcases I.ok.N9 with e|⟨e,hf⟩
 .rw[e];exact I.oI
 rw[e];obtain⟨m,hn,_⟩:=I.loc;refine .cons (by rw[I.ok.kind];decide) hf hn ?_ I.oI;exact Heap.get?_none_of_le (gV I.ok.EF I.ok.above)
theorem Inv.nK(I:Inv X Y M H s):∀ b∈kz X.stack,b∈X.env.locals::X.fs:=fun b hb=>by
 rcases I.ok.N9 with e|⟨e,hf⟩
 .rw[e]at hb;exact k_ _ hb
 rw[e]at hb;unfold kz at hb;rw[g7,hf]at hb;exact hb
theorem Inv.mP(I:Inv X Y M H s):∀ b∈kz X.stack,H b=none:=fun b hb=>by
 rcases ai.mp (I.nK b hb)with e|hb
 .rw[e];exact I.free
 obtain⟨_,o,ho,_⟩:=I.ok.oI.mem hb;exact I.base.free b o ho (I.ok.II b hb) fun z=>I.ok.B_ b z hb
theorem Inv.step{g':Array GenState}{d':Drawn}(I:Inv X Y M H s)(E9:∀ b∈ch,(b∈X.ex\/X.s₀.heap.objs.size<=b)/\b≠X.env.locals/\(∀ x c,X.env.cells.lookup x=some c->c≠b)/\∀ p∈X.pn++Y,p.1≠b)(keep:∀ b o,b≠X.env.locals->b∉X.fs->b∉ch->s.heap.get? b=some o->H b=none->h'.get? b=some o)(slot:∀ b o,b≠X.env.locals->b∈X.fs->b∉ch->s.heap.get? b=some o->H b=none->∃ sl,h'.get? b=some { o with slots:=sl })(free:∀ b o,b∉ch->s.heap.get? b=some o->H b=none->J b=none)(there:∀ b o,b∉ch->s.heap.get? b=some o->∃ o',h'.get? b=some o')(tups:∀ b xs,H b=some (.tup xs)->J b=some (.tup xs))(nc:∀ b o u,H b=some (.xt o u)->J b=some (.xt o u))(nI:∀ b ps,H b=some (.ET ps)->∃ more,J b=some (.ET (ps++more)))(ns:∀ m,s.heap.Ns X.env.locals m->h'.Ns X.env.locals m)(hok:mS X.prog X.w J h')(hg:AllBare g'): Inv X Y M J { s with heap:=h',gens:=g',drawn:=d',toks:=t' }:=by
 have Zv:∀ b o,X.s₀.heap.get? b=some o->b≠X.env.locals:=fun b o e=>bg (bo (ax e) I.ok.above)
 have UG:∀ b o,X.s₀.heap.get? b=some o->b∉X.ex->b∉ch:=fun b o e hx hb=>by
  rcases(E9 b hb).1 with z|z
  .exact hx z
  exact absurd (bo (ax e) z) (c8 _)
 have cellK:∀ x c,X.env.cells.lookup x=some c->∀ v,s.heap.IsCell c v->h'.IsCell c v:=fun x c e v ⟨o,ho,hd⟩=>by
  have QP:c∉ch:=fun z=>(E9 c z).2.2.1 x c e rfl
  by_cases hc:c∈X.fs
  .obtain⟨sl,q⟩:=slot c o (I.NS x c e) hc QP ho (I.ll x c e)
   exact⟨_,q,hd⟩
  exact⟨o,keep c o (I.NS x c e) hc QP ho (I.ll x c e),hd⟩
 refine⟨I.ok,I.os,hg,⟨fun b o e n hb hx=>?_,fun b o e n hb hx=>?_,fun b o e n hx=>?_,fun b o e hx=>?_,fun b xs e=>tups b xs (I.base.tups b xs e),fun b o xs e=>nc b o xs (I.base.nc b o xs e),fun b ps e=>?_⟩,?_,fun x c e=>?_,?_,fun x c e=>?_,fun p hp=>?_,hok,I.len⟩
 .exact keep b o (Zv b o e) hb (UG b o e hx) (I.base.keep b o e n hb hx) (I.base.free b o e n hx)
 .obtain⟨sl,e1⟩:=I.base.slot b o e n hb hx
  obtain⟨L3,e2⟩:=slot b _ (Zv b o e) hb (UG b o e hx) e1 (I.base.free b o e n hx);exact⟨L3,e2⟩
 .obtain⟨o',e1⟩:=I.base.there b o e hx
  exact free b o' (UG b o e hx) e1 (I.base.free b o e n hx)
 .obtain⟨o',e1⟩:=I.base.there b o e hx
  exact there b o' (UG b o e hx) e1
 .obtain⟨m1,e1⟩:=I.base.nI b ps e
  obtain⟨m2,e2⟩:=nI b _ e1;exact⟨m1++m2,by rw[e2,Array.append_assoc]⟩
 .obtain⟨m,hn,hl⟩:=I.loc
  refine⟨m,ns m hn,fun i x v e1 e2 e3=>?_⟩;obtain⟨u,r,l⟩:=hl i x v e1 e2 e3;refine⟨u,r,?_⟩;rcases l with l|⟨k,c,e,z⟩
  .exact .inl l
  exact .inr ⟨k,c,e,cellK x c e _ z⟩
 .obtain⟨v,z⟩:=I.cell x c e
  exact⟨v,cellK x c e v z⟩
 .obtain⟨m,⟨o,_,_,ho,_⟩,_⟩:=I.loc
  exact free _ o (fun z=>(E9 _ z).2.1 rfl) ho I.free
 .obtain⟨v,o,ho,hd⟩:=I.cell x c e
  exact free c o (fun z=>(E9 c z).2.2.1 x c e rfl) ho (I.ll x c e)
 obtain⟨e,n,ne,nf,d⟩:=I.pin p hp;have QP:p.1∉ch:=fun z=>(E9 p.1 z).2.2.2 p hp rfl
 exact⟨keep p.1 p.2 ne nf QP e n,free p.1 p.2 QP e n,ne,nf,d⟩
theorem Inv.un(I:Inv X Y M H s)(u:Un X.fs [] H J s.heap h')(hok:mS X.prog X.w J h'):Inv X Y M J { s with heap:=h',toks:=t' }:=by
 obtain⟨m,⟨o,es,ep,ho,r⟩,_⟩:=id I.loc;obtain⟨sl,hL⟩:=u.any ho I.free oz
 exact I.step (g':=s.gens) (d':=s.drawn) (ch:=[]) (fun _ z=>nomatch z) (fun b o _ hb _ e n=>u.keep b o e n hb oz) (fun b o _ hb _ e n=>u.slot b o e n hb oz) (fun b o _ e n=>u.free b o e n oz) (fun b o _ e=>u.there b o e oz) u.tups u.nc u.nI (fun m' hm=>by
  obtain⟨o',XZ,X0,yy,r'⟩:=hm;rw[ho]at yy;cases yy
  exact⟨_,XZ,X0,hL,r'⟩) hok I.bare
theorem Inv.call{g':Array GenState}{d':Drawn}(I:Inv X Y M H s)(u:Un (kz X.stack) ch H J s.heap h')(hok:mS X.prog X.w J h')(hg:AllBare g')(E9:∀ b∈ch,(b∈X.ex\/X.s₀.heap.objs.size<=b)/\b≠X.env.locals/\(∀ x c,X.env.cells.lookup x=some c->c≠b)/\∀ p∈X.pn++Y,p.1≠b): Inv X Y M J { s with heap:=h',gens:=g',drawn:=d',toks:=t' }:=by
 obtain⟨m,⟨o,es,ep,ho,r⟩,_⟩:=id I.loc;obtain⟨sl,hL⟩:=u.any ho I.free fun z=>(E9 _ z).2.1 rfl
 exact I.step (ch:=ch) E9 (fun b o hL hb hc e n=>u.keep b o e n (fun z=>(ai.mp (I.nK b z)).elim hL hb) hc) (fun b o _ _ hc e n=>u.any e n hc) (fun b o hc e n=>u.free b o e n hc) (fun b o hc e=>u.there b o e hc) u.tups u.nc u.nI (fun m' hm=>by
  obtain⟨o',XZ,X0,yy,r'⟩:=hm;rw[ho]at yy;cases yy
  exact⟨_,XZ,X0,hL,r'⟩) hok hg
theorem Inv.turned(I:Inv X Y M H s)(k:∀ b o,b≠it->s.heap.get? b=some o->h'.get? b=some o)(hn:H it=none)(hL:it≠X.env.locals)(h1:it∈X.ex\/X.s₀.heap.objs.size<=it)(h2:∀ x c,X.env.cells.lookup x=some c->c≠it)(h3:∀ p∈X.pn++Y,p.1≠it):Inv X Y M H { s with heap:=h',toks:=t' }:=by
 have Zu:∀ b u,H b=some u->b≠it:=fun b u e z=>by rw[z,hn]at e;cases e
 refine I.step (g':=s.gens) (d':=s.drawn) (ch:=[it]) (fun b hb=>?_) (fun b o _ _ hc e _=>k b o (fun z=>hc (by simp[z])) e) (fun b o _ _ hc e _=>⟨o.slots,k b o (fun z=>hc (by simp[z])) e⟩) (fun _ _ _ _ n=>n)
  (fun b o hc e=>⟨o,k b o (fun z=>hc (by simp[z])) e⟩) (fun _ _ e=>e) (fun _ _ _ e=>e) (fun b ps e=>⟨#[],by rw[e];simp⟩) (fun m hm=>?_) (fun b u e=>?_) I.bare
 .have e:b=it:=by simpa using hb
  subst e;exact⟨h1,hL,h2,h3⟩
 .obtain⟨o,es,ep,ho,r⟩:=hm
  exact⟨o,es,ep,k _ o (aS hL) ho,r⟩
 refine(I.hok b u e).stay (fun c v hc q=>k c v ?_ q) (fun _ q=>q) fun _ _ q=>q
 rcases hc with z|z
 .rw[z];exact Zu b u e
 exact Zu c _ z
theorem Inv.tok(I:Inv X Y M H s)(t:Nat):Inv X Y M H { s with toks:=t }:=I.un (h':=s.heap) (t':=t) Un.refl I.hok
theorem Inv.kept{t':Nat}(I:Inv X Y M H s)(k:∀ b u,s.heap.get? b=some u->h'.get? b=some u):Inv X Y M H { s with heap:=h',toks:=t' }:=I.un (Un.kept k) (I.hok.kept k)
theorem Inv.laid{a:Addr}{o:HO}{t':Nat}(I:Inv X Y M H s)(k:∀ b u,s.heap.get? b=some u->h'.get? b=some u)(hp:s.heap.objs.size<=a)(new:fv X.prog X.w (upd H a o) h' a o): Inv X Y M (upd H a o) { s with heap:=h',toks:=t' }:=I.un (Un.laid k hp (I.hok.fresh hp)) (I.hok.laid k hp new)
theorem Inv.write{x e:Addr}{o:HO}{t':Nat}(I:Inv X Y M H s)(mu:Uk (H x))(he:e=x\/H e=some (.own x))(k:∀ b u,b≠e->s.heap.get? b=some u->h'.get? b=some u)(OR:∃ u,h'.get? e=some u)(new:fv X.prog X.w (upd H x o) h' x o):Inv X Y M (upd H x o) { s with heap:=h',toks:=t' }:=I.un (Un.write mu he k OR) (I.hok.write mu he k OR new)
theorem Inv.weak{σ':List (Option V)}(I:Inv X Y M H s)(hl:σ'.length=M.length)(w:∀(i:Nat) v,σ'[i]?=some (some v)->M[i]?=some (some v)):Inv X Y σ' H s :=
 ⟨I.ok,I.os,I.bare,I.base,let ⟨m,hn,CH⟩:=I.loc;⟨m,hn,fun i x v e1 e2 e3=>CH i x v e1 (w i v e2) e3⟩,I.cell,I.free,I.ll,I.pin,I.hok,hl.trans I.len⟩
theorem Inv.ri{JO:List (Addr×Obj)}(I:Inv X Y M H s)(h:∀ p∈JO,s.heap.get? p.1=some p.2/\H p.1=none/\p.1≠X.env.locals/\p.1∉X.fs/\∀ v,p.2.data≠.cell v):Inv X JO M H s :=
 ⟨I.ok,I.os,I.bare,I.base,I.loc,I.cell,I.free,I.ll,fun p hp=>(aT.mp hp).elim (fun z=>I.pin p (w9 _ z)) (h p),I.hok,I.len⟩
theorem wF(hN:N.Nodup)(a:N[i]?=some x)(b:N[j]?=some x):i=j:=by
 obtain⟨h1,e1⟩:=List.getElem?_eq_some_iff.mp a;obtain⟨h2,e2⟩:=List.getElem?_eq_some_iff.mp b;exact(List.getElem_inj hN).mp (e1.trans e2.symm)
theorem uF{aad:Model}{Q:Unit->Shared->Prop}(I:Inv X Y M H s)(hN:X.N.Nodup)(hi:X.N[i]?=some x)(hx:Loc X.env.scope x)(r:RelV v u)
  (h:∀ s',Inv X Y (M.set i (some v)) H s'->(∃ a,Heap.SameBut a s.heap s'.heap/\(a=X.env.locals\/X.env.cells.lookup x=some a))->Q () s') (hf:X.fn x=true\/X.env.scope.names.lookup x=some .local:=by first|exact .inl rfl|exact .inr rfl|assumption):wpAny aad A (storeName X.env x u) Q E s:=by
 obtain⟨m,hn,hl⟩:=id I.loc;have NA:(X.env.scope.kind == .class||(X.env.scope.kind == .module&&X.env.locals != X.env.globals))=false:=by rw[I.ok.kind];rfl
 have Z4:i<M.length:=by rw[I.len];exact(List.getElem?_eq_some_iff.mp hi).1
 have NS:=I.NS
 have tracked:∀{a:Addr}{h':Heap},(∃ o,s.heap.get? a=some o/\H a=none)->Heap.SameBut a s.heap h'->mS X.prog X.w H h':=fun {a h'} ha hs b ob e=>by
  obtain⟨_,_,hfree⟩:=ha;refine(I.hok b ob e).stay (fun c w' hc q=>(hs.2 c ?_).trans q) (fun _ q=>q) fun _ _ q=>q
  rintro rfl;rcases hc with rfl|hc
  .rw[hfree]at e;cases e
  rw[hfree]at hc;cases hc
 rcases hx with hk|hk
 .refine wpAny_storeName_local hk hn (fun h' hn' hs=>?_) NA
  obtain⟨oL,_,_,Sj,_⟩:=id hn;refine h _ ⟨I.ok,I.os,I.bare,⟨fun b o e n hb hx=>?_,fun b o e n hb hx=>?_,I.base.free,fun b o e hx=>?_,I.base.tups,I.base.nc,I.base.nI⟩,⟨_,hn',fun j y v' e1 e2 e3=>?_⟩,fun y c e=>?_,I.free,I.ll,fun p hp=>?_,tracked ⟨oL,Sj,I.free⟩ hs,by simpa using I.len⟩ ⟨_,hs,.inl rfl⟩
  .exact(hs.2 b (bg (bo (ax e) I.ok.above))).trans (I.base.keep b o e n hb hx)
  .obtain⟨sl,e1⟩:=I.base.slot b o e n hb hx
   exact⟨sl,(hs.2 b (bg (bo (ax e) I.ok.above))).trans e1⟩
  .obtain⟨o',e1⟩:=I.base.there b o e hx
   exact⟨o',(hs.2 b (bg (bo (ax e) I.ok.above))).trans e1⟩
  .by_cases hj:j=i
   .subst hj
    rw[hi]at e1;cases e1;rw[List.getElem?_set_self Z4]at e2;cases e2;exact⟨u,r,.inl ⟨hk,oz⟩⟩
   rw[List.getElem?_set_ne (aS hj)]at e2;obtain⟨u',r',q⟩:=hl j y v' e1 e2 e3;refine⟨u',r',?_⟩;rcases q with⟨k,e⟩|⟨k,c,e,z⟩
   .refine .inl ⟨k,?_⟩
    have:y≠x:=fun e=>hj (wF hN e1 (e ▸ hi))
    simp[this,e]
   exact .inr ⟨k,c,e,z.sameBut hs (NS y c e)⟩
  .obtain⟨w',z⟩:=I.cell y c e
   exact⟨w',z.sameBut hs (NS y c e)⟩
  obtain⟨e,n,ne,nf,d⟩:=I.pin p hp;exact⟨(hs.2 p.1 ne).trans e,n,ne,nf,d⟩
 have Xh:X.fn x=true:=by
  rcases hf with z|z
  .exact z
  rw[z]at hk;cases hk
 obtain⟨c,hc⟩:=I.ok.has x (.inl hk);obtain⟨w',z⟩:=I.cell x c hc;refine wpAny_storeName_cell I.ok.kind hk hc z (fun h' xS hs=>?_);obtain⟨oc,ZT,WW⟩:=id z;refine h { s with heap:=h' } ⟨I.ok,I.os,I.bare,⟨fun b o e n hb hx=>?_,fun b o e n hb hx=>?_,I.base.free,fun b o e hx=>?_,I.base.tups,I.base.nc,I.base.nI⟩,⟨m,hn.sameBut hs (aS (NS x c hc)),fun j y v' e1 e2 e3=>?_⟩,fun y c' e=>?_,I.free,I.ll,fun p hp=>?_,tracked ⟨oc,ZT,I.ll x c hc⟩ hs,by simpa using I.len⟩ ⟨c,hs,.inr hc⟩
 .exact(hs.2 b (bg (bo (ax e) (I.ok.NU x c Xh hc)))).trans (I.base.keep b o e n hb hx)
 .obtain⟨sl,e1⟩:=I.base.slot b o e n hb hx
  exact⟨sl,(hs.2 b (bg (bo (ax e) (I.ok.NU x c Xh hc)))).trans e1⟩
 .obtain⟨o',e1⟩:=I.base.there b o e hx
  exact⟨o',(hs.2 b (bg (bo (ax e) (I.ok.NU x c Xh hc)))).trans e1⟩
 .by_cases hj:j=i
  .subst hj
   rw[hi]at e1;cases e1;rw[List.getElem?_set_self Z4]at e2;cases e2;exact⟨u,r,.inr ⟨.inl hk,c,hc,xS⟩⟩
  rw[List.getElem?_set_ne (aS hj)]at e2;obtain⟨u',r',q⟩:=hl j y v' e1 e2 e3;refine⟨u',r',?_⟩;rcases q with q|⟨k,c',e,z'⟩
  .exact .inl q
  refine .inr ⟨k,c',e,z'.sameBut hs ?_⟩;rintro rfl;exact hj (wF hN e1 (I.ok.inj _ _ _ e hc ▸ hi))
 .by_cases Vd:c'=c
  .subst Vd;exact⟨_,xS⟩
  obtain⟨w2,z2⟩:=I.cell y c' e;exact⟨w2,z2.sameBut hs Vd⟩
 obtain⟨e,n,ne,nf,d⟩:=I.pin p hp;refine⟨(hs.2 p.1 ?_).trans e,n,ne,nf,d⟩;intro q;rw[q,ZT]at e;have q':oc=p.2:=kF e;exact d w' (by rw[<- q'];exact WW)
theorem m8{aad:Model}{Q:Unit->Shared->Prop}(I:Inv X Y M H s)(hN:X.N.Nodup)(hi:X.N[i]?=some x)(hx:Loc X.env.scope x)(r:RelV v u)
  (h:∀ s',Inv X Y (M.set i (some v)) H s'->Q () s') (hf:X.fn x=true\/X.env.scope.names.lookup x=some .local:=by first|exact .inl rfl|exact .inr rfl|assumption):wpAny aad A (storeName X.env x u) Q E s :=
 uF I hN hi hx r (fun s' I' _=>h s' I') hf
theorem Inv.K2(I:Inv X Y M H s)(ho:s'.os=s.os)(u:Un (kz X.stack) ch H J s.heap s'.heap)(hok:mS X.prog X.w J s'.heap)(hg:AllBare s'.gens)(E9:∀ b∈ch,(b∈X.ex\/X.s₀.heap.objs.size<=b)/\b≠X.env.locals/\(∀ x c,X.env.cells.lookup x=some c->c≠b)/\∀ p∈X.pn++Y,p.1≠b):Inv X Y M J s':=by
 obtain⟨h',g',d',t',o'⟩:=s';have e:o'=s.os:=ho;subst e;exact I.call (g':=g') (t':=t') (d':=d') u hok hg E9
end
abbrev XK:=Value->Option Addr->Hp->Prop
abbrev St:=List (Option V)
end L2
variable{M:L2.St}
namespace L2
open PySem PySem.Spec PyProof.Rows
abbrev VK:=V->Hp->Prop
abbrev TE:=St->Hp->VK->Prop
end L2
variable{ta tb te tc tl tv to td ty:L2.TE}{JE:List (L2.TE×L2.TE)}
namespace L2
open PySem PySem.Spec PyProof.Rows
abbrev TT:=St->Hp->(Bool->Hp->Prop)->Prop
abbrev TA:=St->Hp->(List V->Hp->Prop)->Prop
structure Ends where
 nx:St->Hp->Prop
 rt:VK
 bk:St->Hp->Prop:=fun _ _=>False
 ct:St->Hp->Prop:=fun _ _=>False
abbrev TS:=Ends->St->Hp->Prop
inductive EP(X:Cx)(Y:List (Addr×Obj))(M:St)(Q:VK)(u:Value)(s':Shared):Prop
 |mk(v:V)(J:Hp)(_:Inv X Y M J s')(_:RelV v u)(_:Q v J)
inductive TP(X:Cx)(Y:List (Addr×Obj))(M:St)(Q:Bool->Hp->Prop)(b:Bool)(s':Shared):Prop
 |mk(J:Hp)(_:Inv X Y M J s')(_:Q b J)
inductive AP(X:Cx)(Y:List (Addr×Obj))(M:St)(Q:List V->Hp->Prop)(us:List Value)(s':Shared):Prop
 |mk(vs:List V)(J:Hp)(_:Inv X Y M J s')(_:Vals vs us)(_:Q vs J)
def SP(X:Cx)(Y:List (Addr×Obj))(D:Ends)(f:Flow)(s':Shared):Prop :=
 match f with
 | .next=>∃ σ' J,Inv X Y σ' J s'/\D.nx σ' J
 | .brk=>∃ σ' J,Inv X Y σ' J s'/\D.bk σ' J
 | .cont=>∃ σ' J,Inv X Y σ' J s'/\D.ct σ' J
 | .ret u=>∃ v σ' J,Inv X Y σ' J s'/\RelV v u/\D.rt v J
def PE(X:Cx)(e:Expr)(t:TE):Prop :=
 ∀(Y:List (Addr×Obj))(s:Shared)(M:St)(H:Hp)(Q:VK),Inv X Y M H s->t M H Q->wpAny (model X.prog X.w) X.A (eval e X.env) (EP X Y M Q) X.xe s
def PT(X:Cx)(e:Expr)(t:TT):Prop :=
 ∀(Y:List (Addr×Obj))(s:Shared)(M:St)(H:Hp)(Q:Bool->Hp->Prop),Inv X Y M H s->t M H Q->wpAny (model X.prog X.w) X.A (isTrue e X.env (eval e X.env)) (TP X Y M Q) X.xe s
def PW(X:Cx)(e:Expr)(t:TT):Prop :=
 ∀(whole:Sem Value)(Y:List (Addr×Obj))(s:Shared)(M:St)(H:Hp)(Q:Bool->Hp->Prop),Inv X Y M H s->t M H Q->wpAny (model X.prog X.w) X.A (isTrue e X.env whole) (TP X Y M Q) X.xe s
theorem PW.pt{t:TT}(h:PW X e t):PT X e t:=h _
def PA(X:Cx)(es:List Expr)(t:TA):Prop :=
 ∀(pos:Pos)(Y:List (Addr×Obj))(s:Shared)(M:St)(H:Hp)(Q:List V->Hp->Prop),Inv X Y M H s->t M H Q->wpAny (model X.prog X.w) X.A (spliced (backTo pos (starEach es X.env))) (AP X Y M Q) X.xe s
def PS(X:Cx)(st:Stmt)(t:TS):Prop :=
 ∀(Y:List (Addr×Obj))(s:Shared)(M:St)(H:Hp)(D:Ends),Inv X Y M H s->t D M H->wpAny (model X.prog X.w) X.A (exec st X.env) (SP X Y D) X.xe s
def y6(X:Cx)(st:List Stmt)(t:TS):Prop :=
 ∀(Y:List (Addr×Obj))(s:Shared)(M:St)(H:Hp)(D:Ends),Inv X Y M H s->t D M H->wpAny (model X.prog X.w) X.A (execs st X.env) (SP X Y D) X.xe s
theorem thn{α:Type}{t:Sem α}{Q Q':α->Shared->Prop}{aad:Model}(h:wpAny aad A t Q E s)(hQ:∀ a s,Q a s->Q' a s):wpAny aad A t Q' E s:=d_ h hQ fun _ _ x=>x
section
theorem bin{a b:Expr}{ta tb:TE}(ha:PE X a ta)(hb:PE X b tb){Y:List (Addr×Obj)}{s:Shared}{M:St}{H:Hp}{R:V->V->Hp->Prop}(I:Inv X Y M H s)(h:ta M H fun x H1=>tb M H1 fun y H2=>R x y H2){α:Type}{Q:α->Shared->Prop}{f:Value->Value->Sem α}(hf:∀ v u s2 x y H2,Inv X Y M H2 s2->RelV x v->RelV y u->R x y H2->wpAny (model X.prog X.w) X.A (f v u) Q X.xe s2): wpAny (model X.prog X.w) X.A (eval a X.env) (fun v s₁=>wpAny (model X.prog X.w) X.A (eval b X.env) (fun u s₂=>wpAny (model X.prog X.w) X.A (f v u) Q X.xe s₂) X.xe s₁) X.xe s:=by
 refine thn (ha Y s M H _ I h) fun v s1 ⟨x,H1,I1,r1,q1⟩=>?_
 refine thn (hb Y s1 M H1 _ I1 q1) fun u s2 ⟨y,H2,I2,r2,q2⟩=>?_
 exact hf v u s2 x y H2 I2 r1 r2 q2
inductive Fh(i:Nat)(M:St)(H:Hp)(Q:VK):Prop
 |mk(v:_)(_:M[i]?=some (some v))(_:Q v H)
def tC(v:V):TE:=fun _ H Q=>Q v H
theorem wG(hN:X.N[i]?=some x) (hv:Uh X.env.scope x) (hd:(x==("__debug__":Str))=false:=by decide) (yY:(x==("__classdict__":Str))=false:=by decide):PE X (.Name x pos) (Fh i):=by
 intro Y s M H Q I h;obtain⟨v,e,h⟩:=h;obtain⟨m,hn,hl⟩:=I.loc;obtain⟨u,r,l⟩:=hl i x v hN e hv;have fin:EP X Y M Q u s:=⟨v,H,I,r,h⟩
 rcases l with⟨hk,hm⟩|⟨hk,c,hc,AW⟩
 .exact wpAny_Name (wpAny_loadName_local I.ok.kind hk hn hm fin) hd
 rcases hk with hk|hk
 .exact wpAny_Name (wpAny_loadName_cell I.ok.kind hk hc AW fin) hd
 exact wpAny_Name (wpAny_loadName_free I.ok.kind hk hc AW fin yY) hd
theorem ak{i j pos}:PE X (.Constant (.int i) j pos) (tC (.int i)):=fun _ _ _ H _ I h=>wpAny_Constant_int ⟨.int i,H,I.tok _,⟨_,rfl⟩,h⟩
theorem eF{b j pos}:PE X (.Constant (.bool b) j pos) (tC (.bl b)):=fun _ _ _ H _ I h=>Constant_bool ⟨.bl b,H,I,rfl,h⟩
theorem bL{j pos}:PE X (.Constant .none j pos) (tC .non):=fun _ _ _ H _ I h=>Constant_none ⟨.non,H,I,rfl,h⟩
theorem az{x j pos}:PE X (.Constant (.str x) j pos) (tC (.str x)):=fun _ _ _ H _ I h=>Calls.Constant_str ⟨.str x,H,I.tok _,⟨_,rfl⟩,h⟩
def Gl(X:Cx)(x:Str):Prop:=X.env.kindOf x=some .globalImplicit
theorem jl(I:Inv X Y M H s)(hg:Gl X x)(hm:X.mg x=some u)(h:Q u s)
  (hd:(x==("__debug__":Str))=false:=by decide):wpAny (model X.prog X.w) X.A (eval (.Name x pos) X.env) Q E s :=
 Calls.Name_function_global I.ok.kind hg (Calls.loadGlobal_global (by rw[I.ok.glob];exact I.mod.glob.keeps I.bk) hm h) hd
theorem ig(I:Inv X Y M H s)(hg:Gl X x)(hm:X.mg x=none)(hv:bootBuiltins x=some u)(h:Q u s)
  (hn:x≠"__name__":=by decide) (hd:(x==("__debug__":Str))=false:=by decide):wpAny (model X.prog X.w) X.A (eval (.Name x pos) X.env) Q E s:=by
 obtain⟨mb,h1,h2⟩:=I.mod.blt;exact Calls.Name_function_global I.ok.kind hg (Calls.loadGlobal_builtin (by rw[I.ok.glob];exact I.mod.glob.keeps I.bk) hm (by rw[I.ok.blt];exact h1.keeps I.bk) ((h2 x hn).trans hv) h) hd
theorem Lx(hg:Gl X x) (hm:X.mg x=some u) (r:RelV v u) (hd:(x==("__debug__":Str))=false:=by decide):PE X (.Name x pos) (tC v):=
 fun _ _ _ H _ I h=>jl I hg hm ⟨v,H,I,r,h⟩ hd
theorem Ly(hg:Gl X x) (hm:X.mg x=none) (hv:bootBuiltins x=some u) (r:RelV v u) (hn:x≠"__name__":=by decide) (hd:(x==("__debug__":Str))=false:=by decide):PE X (.Name x pos) (tC v):=
 fun _ _ _ H _ I h=>ig I hg hm hv ⟨v,H,I,r,h⟩ hn hd
variable{a b:Expr}
def PC(X:Cx)(op:CmpOp)(a b:Expr)(t:TE):Prop :=
 ∀(Y:List (Addr×Obj))(s:Shared)(M:St)(H:Hp)(Q:VK),Inv X Y M H s->t M H Q ->
  wpAny (model X.prog X.w) X.A (eval a X.env) (fun v s₁=>wpAny (model X.prog X.w) X.A (eval b X.env) (fun u s₂=>wpAny (model X.prog X.w) X.A (compareOp op v u) (EP X Y M Q) X.xe s₂) X.xe s₁) X.xe s
inductive iB(Q:Bool->Hp->Prop)(x:V)(H:Hp):Prop
 |mk(c:Bool)(_:x=.bl c)(_:Q c H)
def tB(t:TE):TT:=fun M H Q=>t M H fun x H1=>iB Q x H1
theorem OD{op:CmpOp}{t:TE}(h:PC X op a b t)(h1:behindInMarks op b=false:=by first|exact DU _ b4 b4|rfl):PE X (.Compare a [op] [b] pos) t:=fun Y s M H Q I hw=>wpAny_Compare1 (h Y s M H Q I hw) h1
theorem rO{op:CmpOp}{t:TE}(h:PC X op a b t)(h1:behindInMarks op b=false:=by first|exact DU _ b4 b4|rfl):PT X (.Compare a [op] [b] pos) (tB t):=by
 intro Y s M H Q I hw;refine wpAny_isTrue_Compare1 (thn (h Y s M H _ I hw) fun v s1 h1=>thn h1 fun u s2 h2=>thn h2 fun c s3 ⟨x,H1,I1,r1,q1⟩=>?_) h1;obtain⟨d,rfl,q⟩:=q1;cases r1;exact dE ⟨H1,I1,q⟩
theorem cz{t:TE}(h:PE X e t)(he:∀ whole,isTrue e X.env whole=(do let v <- whole;standAt e.pos;holding [v] (truthy v)):=by intro _;rfl):PT X e (tB t):=by
 intro Y s M H Q I hw;refine isTrue_plain (thn (h Y s M H _ I hw) fun v s1 ⟨x,H1,I1,r1,q1⟩=>?_) (he _);obtain⟨d,rfl,q⟩:=q1;cases r1;exact dE ⟨H1,I1,q⟩
variable{tA Uw:TT}{rest:List Expr}
def RN(t u:TT):TT:=fun M H Q=>t M H fun c H1=>if c=true then u M H1 Q else Q false H1
def tOr(t u:TT):TT:=fun M H Q=>t M H fun c H1=>if c=true then Q true H1 else u M H1 Q
def RP(t:TT):TT:=fun M H Q=>t M H fun c H1=>Q (!c) H1
theorem fu(ha:PT X a tA):PW X (.BoolOp .And [a] pos) tA:=by
 intro wh Y s M H Q I h;refine isTrue_and (thn (ha Y s M H Q I h) fun c s1 e=>?_);cases c with
 |true=>exact isTrue_and_nil e
 |false=>exact e
theorem eV(ha:PT X a tA):PW X (.BoolOp .Or [a] pos) tA:=by
 intro wh Y s M H Q I h;refine isTrue_or (thn (ha Y s M H Q I h) fun c s1 e=>?_);cases c with
 |false=>exact isTrue_or_nil e
 |true=>exact e
theorem gw(ha:PT X a tA)(hb:PW X (.BoolOp .And (b::rest) pos) Uw):PW X (.BoolOp .And (a::b::rest) pos) (RN tA Uw):=by
 intro wh Y s M H Q I h;refine isTrue_and (thn (ha Y s M H _ I h) fun c s1 ⟨H1,I1,q1⟩=>?_);cases c with
 |true=>exact hb wh Y s1 M H1 Q I1 q1
 |false=>exact⟨H1,I1,q1⟩
theorem dH(ha:PT X a tA)(hb:PW X (.BoolOp .Or (b::rest) pos) Uw):PW X (.BoolOp .Or (a::b::rest) pos) (tOr tA Uw):=by
 intro wh Y s M H Q I h;refine isTrue_or (thn (ha Y s M H _ I h) fun c s1 ⟨H1,I1,q1⟩=>?_);cases c with
 |true=>exact⟨H1,I1,q1⟩
 |false=>exact hb wh Y s1 M H1 Q I1 q1
theorem cW(ha:PT X a tA):PT X (.UnaryOp .Not a pos) (RP tA):=by
 intro Y s M H Q I h;exact isTrue_not (thn (ha Y s M H (fun c H1=>Q (!c) H1) I h) fun c s1 ⟨H1,I1,q1⟩=>⟨H1,I1,q1⟩)
def QT(ta tb:TE):TE:=fun M H Q=>ta M H fun x H1=>∃ c,x=.bl c/\if c=true then tb M H1 Q else Q (.bl false) H1
def RQ(ta tb:TE):TE:=fun M H Q=>ta M H fun x H1=>∃ c,x=.bl c/\if c=true then Q (.bl true) H1 else tb M H1 Q
def QV(ta:TE):TE:=fun M H Q=>ta M H fun x H1=>∃ c,x=.bl c/\Q (.bl (!c)) H1
theorem mH{op}{t:TE}(h:PE X a t):PE X (.BoolOp op [a] pos) t:=fun Y s M H Q I hw=>BoolOp_one (h Y s M H Q I hw)
theorem oF(ha:PE X a ta)(hb:PE X (.BoolOp .And (b::rest) pos) tb):PE X (.BoolOp .And (a::b::rest) pos) (QT ta tb):=by
 intro Y s M H Q I h;refine BoolOp_and (thn (ha Y s M H _ I h) fun v s1 ⟨x,H1,I1,r1,q1⟩=>?_);obtain⟨c,rfl,q1⟩:=q1;cases r1;refine dE ?_;cases c with
 |true=>exact hb Y s1 M H1 Q I1 q1
 |false=>exact⟨.bl false,H1,I1,Z,q1⟩
theorem QW(ha:PE X a ta)(hb:PE X (.BoolOp .Or (b::rest) pos) tb):PE X (.BoolOp .Or (a::b::rest) pos) (RQ ta tb):=by
 intro Y s M H Q I h;refine BoolOp_or (thn (ha Y s M H _ I h) fun v s1 ⟨x,H1,I1,r1,q1⟩=>?_);obtain⟨c,rfl,q1⟩:=q1;cases r1;refine dE ?_;cases c with
 |false=>exact hb Y s1 M H1 Q I1 q1
 |true=>exact⟨.bl true,H1,I1,Z,q1⟩
theorem OJ(ha:PE X a ta):PE X (.UnaryOp .Not a pos) (QV ta):=by
 intro Y s M H Q I h;refine UnaryOp_ (thn (ha Y s M H _ I h) fun v s1 ⟨x,H1,I1,r1,q1⟩=>?_);obtain⟨c,rfl,q1⟩:=q1;cases r1;exact not_of (dE ⟨.bl (!c),H1,I1,rfl,q1⟩)
def tIf(t:TT)(ta tb:TE):TE:=fun M H Q=>t M H fun c H1=>if c=true then ta M H1 Q else tb M H1 Q
theorem fD{c:Expr}(hc:PT X c tA)(ha:PE X a ta)(hb:PE X b tb):PE X (.IfExp c a b pos) (tIf tA ta tb):=by
 intro Y s M H Q I h;refine wpAny_IfExp (thn (hc Y s M H _ I h) fun d s1 ⟨H1,I1,q1⟩=>?_);cases d with
 |true=>exact ha Y s1 M H1 Q I1 q1
 |false=>exact hb Y s1 M H1 Q I1 q1
end
def b3(K:W.Frag)(H:Hp)(a:Addr)(xs:List V):Prop :=
 Rd H a (.lst xs) \/
  ∃(o:Obj) (its:Array Value) (n:Nat),K.lookup a=some o/\o.cls=.type "list"/\o.dict=none/\o.data=.seq its n/\its.size<=sizeLine/\Vals xs its.toList
def SqT(K:W.Frag)(H:Hp)(a:Addr)(xs:List V):Prop :=
 Rd H a (.tup xs) \/
  ∃(o:Obj) (its:Array Value) (n:Nat),K.lookup a=some o/\o.cls=.type "tuple"/\o.data=.seq its n/\its.size<=sizeLine/\Vals xs its.toList
def RT:Value->Option V
 | .none=>some .non
 | .bool b=>some (.bl b)
 | .int i _=>some (.int i)
 | .str x _=>some (.str x)
 | .bytes b _=>some (.byt b)
 | .float b _=>some (.flt b)
 | .ref a=>some (.ref a)
 | .type n=>some (.ty n)
 |_=>none
theorem RelV.abs{x:V}(r:RelV x u):RT u=some x:=by
 cases x with
 |non=>cases r;rfl
 |bl _=>cases r;rfl
 |int _=>obtain⟨t,rfl⟩:=r;rfl
 |str _=>obtain⟨t,rfl⟩:=r;rfl
 |byt _=>obtain⟨t,rfl⟩:=r;rfl
 |flt _=>obtain⟨t,rfl⟩:=r;rfl
 |ref _=>cases r;rfl
 |ty _=>cases r;rfl
theorem RelV.inj{x:V}(r:RelV x u)(q:RelV y u):x=y:=kF (r.abs.symm.trans q.abs)
theorem Vals.inj:∀{xs ys:List V}{us:List Value},Vals xs us->Vals ys us->xs=ys
 |_,_,_,.nil,.nil=>rfl
 |_,_,_,.cons r t,.cons r' t'=>by rw[r.inj r',Vals.inj t t']
theorem b3.of(h:H a=some (.lst xs)):b3 K H a xs:=.inl (.inl h)
theorem SqT.of(h:H a=some (.tup xs)):SqT K H a xs:=.inl (.inl h)
theorem Inv.list(I:Inv X Y M H s)(h:b3 X.K H a xs):∃ its:List Value,Vals xs its/\PlainL s.heap a its.toArray/\xs.length<=sizeLine:=by
 rcases h with h|⟨o,its,n,hk,hc,hd,hs,hz,r⟩
 .obtain⟨z,its,n,r,e⟩:=h.ok I.hok
  exact⟨its,r,⟨_,n,e,Z,Z,Z⟩,z⟩
 refine⟨its.toList,r,⟨o,n,I.kIn a o hk,hc,hd,by simpa using hs⟩,?_⟩;have e:=r.length;simp only[ay]at e;exact G
theorem Inv.tuple(I:Inv X Y M H s)(h:SqT X.K H a xs):∃ its:List Value,Vals xs its/\IsTup s.heap a its.toArray/\xs.length<=sizeLine:=by
 rcases h with h|⟨o,its,n,hk,hc,hs,hz,r⟩
 .obtain⟨z,its,r,p⟩:=h.ok I.hok
  exact⟨its,r,p.tup,z⟩
 refine⟨its.toList,r,⟨o,I.kIn a o hk,hc,n,by simpa using hs⟩,?_⟩;have e:=r.length;simp only[ay]at e;exact G
theorem Inv.sj(I:Inv X Y M H s)(h:b3 X.K H a xs)(h':b3 X.K H a ys):xs=ys:=by
 obtain⟨its,r,⟨o,n,e,_,_,d⟩,_⟩:=I.list h;obtain⟨its',r',⟨o',n',e',_,_,d'⟩,_⟩:=I.list h';rw[e]at e';cases e';rw[d]at d'
 injection d' with d1 _
 have:its=its':=by simpa using b_ Array.toList d1
 subst this;exact r.inj r'
theorem Inv.pf(I:Inv X Y M H s)(h:SqT X.K H a xs)(h':SqT X.K H a ys):xs=ys:=by
 obtain⟨its,r,⟨o,e,_,n,d⟩,_⟩:=I.tuple h;obtain⟨its',r',⟨o',e',_,n',d'⟩,_⟩:=I.tuple h';rw[e]at e';cases e';rw[d]at d'
 injection d' with d1 _
 have:its=its':=by simpa using b_ Array.toList d1
 subst this;exact r.inj r'
abbrev Cx.tT(X:Cx)(E:Value->Shared->Prop):Cx:={ X with xe:=E }
abbrev Cx.Wg(X:Cx):Cx:=X.tT fun _ _=>False
theorem Cx.Ok.tT(ok:X.Ok)(E:Value->Shared->Prop):(X.tT E).Ok :=
 ⟨ok.mod,ok.kind,ok.glob,ok.blt,ok.above,ok.inj,ok.has,ok.NU,ok.hd,ok.frames,ok.N9,ok.Vq,ok.bs,ok.EF,ok.yn,ok.B_,ok.oI,ok.II⟩
theorem Cx.Ok.yb(ok:(X.tT E).Ok):X.Ok :=
 ⟨ok.mod,ok.kind,ok.glob,ok.blt,ok.above,ok.inj,ok.has,ok.NU,ok.hd,ok.frames,ok.N9,ok.Vq,ok.bs,ok.EF,ok.yn,ok.B_,ok.oI,ok.II⟩
theorem Inv.tT(I:Inv X Y M H s)(E:Value->Shared->Prop):Inv (X.tT E) Y M H s:=⟨I.ok.tT E,I.os,I.bare,I.base,I.loc,I.cell,I.free,I.ll,I.pin,I.hok,I.len⟩
theorem Inv.yb(I:Inv (X.tT E) Y M H s):Inv X Y M H s:=⟨I.ok.yb,I.os,I.bare,I.base,I.loc,I.cell,I.free,I.ll,I.pin,I.hok,I.len⟩
section
variable{rest:List Stmt}{t u:TS}
def QX:TS:=fun D M H=>D.nx M H
def Bv(t u:TS):TS:=fun D M H=>t { D with nx:=u D } M H
theorem aM:y6 X [] QX:=fun _ _ M H _ I h=>kT ⟨M,H,I,h⟩
theorem aq(h1:PS X st t)(h2:y6 X rest u):y6 X (st::rest) (Bv t u):=by
 intro Y s M H D I h;refine wpAny_execs_cons (thn (h1 Y s M H { D with nx:=u D } I h) fun f s1 q=>?_);cases f with
 | next =>
  obtain⟨σ',J,I',q⟩:=q;exact h2 Y s1 σ' J D I' q
 |ret v=>exact q
 |brk=>exact q
 |cont=>exact q
theorem au(h1:PS X st t):y6 X [st] t:=by
 intro Y s M H D I h;refine wpAny_execs_cons (thn (h1 Y s M H D I h) fun f s1 q=>?_);cases f with
 |next=>exact kT q
 |ret v=>exact q
 |brk=>exact q
 |cont=>exact q
def QZ:TS:=fun D M H=>D.ct M H
theorem yO:PS X (.Continue pos) QZ:=fun _ _ M H _ I h=>wpAny_Continue ⟨M,H,I,h⟩
theorem Inv.quiet(I:Inv X Y M H s):interactive X.env=false:=by simp[interactive,I.ok.kind]
def Q0(te:TE):TS:=fun D M H=>te M H fun _ H1=>D.nx M H1
theorem bw(he:PE X e te)(hs:swapsWith e none pos.line X.env=pure false:=by rfl):PS X (.Expr e pos) (Q0 te):=by
 intro Y s M H D I h;exact wpAny_Expr_any (thn (he Y s M H _ I h) fun v s1 ⟨x,H1,I1,r1,q1⟩=>⟨M,H1,I1,q1⟩) I.quiet hs
def RV(te:TE):TS:=fun D M H=>te M H D.rt
theorem aC(he:PE X e te):PS X (.Return (some e) pos) (RV te):=by
 intro Y s M H D I h;exact wpAny_Return_some (thn (he Y s M H _ I h) fun v s1 ⟨x,H1,I1,r1,q1⟩=>⟨x,M,H1,I1,r1,q1⟩)
def Q3:TS:=fun D _ H=>D.rt .non H
theorem Lz:PS X (.Return none pos) Q3:=fun _ _ M H _ I h=>wpAny_Return_none ⟨.non,M,H,I,rfl,h⟩
def RW(c:TT)(t u:TS):TS:=fun D M H=>c M H fun b H1=>if b=true then t D M H1 else u D M H1
theorem aO{c:Expr}{a b:List Stmt}{tc:TT}(hc:PT X c tc)(ha:y6 X a t)(hb:y6 X b u):PS X (.If c a b pos) (RW tc t u):=by
 intro Y s M H D I h;refine wpAny_If (thn (hc Y s M H _ I h) fun d s1 ⟨H1,I1,q1⟩=>?_);cases d with
 |true=>exact ha Y s1 M H1 D I1 q1
 |false=>exact hb Y s1 M H1 D I1 q1
def DW:TS:=fun _ _ _=>False
theorem qK:PS X st DW:=fun _ _ _ _ _ _ h=>h.elim
theorem DX{sts:List Stmt}:y6 X sts DW:=fun _ _ _ _ _ _ h=>h.elim
end
abbrev TG:=V->St->Hp->(St->Hp->Prop)->Prop
abbrev Lc:=List V->St->Hp->(St->Hp->Prop)->Prop
def PG(X:Cx)(target:Expr)(t:TG):Prop :=
 ∀(Y:List (Addr×Obj))(s:Shared)(M:St)(H:Hp)(v:V)(u:Value)(Q:St->Hp->Prop),Inv X Y M H s->RelV v u->t v M H Q ->
  wpAny (model X.prog X.w) X.A (assign target X.env u) (fun _ s'=>∃ σ' J,Inv X Y σ' J s'/\Q σ' J) X.xe s
def Pf(X:Cx)(ts:List Expr)(t:Lc):Prop :=
 ∀(Y:List (Addr×Obj))(s:Shared)(M:St)(H:Hp)(vs:List V)(us:List Value)(Q:St->Hp->Prop),Inv X Y M H s->Vals vs us->t vs M H Q ->
  wpAny (model X.prog X.w) X.A (assignInOrder ((assignEach ts X.env).map (·.2)) us) (fun _ s'=>∃ σ' J,Inv X Y σ' J s'/\Q σ' J) X.xe s
abbrev VI:=V->V->Hp->VK->Prop
end L2
variable{ti:L2.VI}{D:L2.Ends}{tt:L2.TT}
namespace L2
open PySem PySem.Spec PyProof.Rows
def YX(X:Cx)(op:Operator)(t:VI):Prop :=
 ∀(Y:List (Addr×Obj))(s:Shared)(M:St)(H:Hp)(x y:V)(v u:Value)(Q:VK),Inv X Y M H s->RelV x v->RelV y u->t x y H Q ->
  wpAny (model X.prog X.w) X.A (inplaceOp op v u) (EP X Y M Q) X.xe s
def jP(i:Nat):TG:=fun v M H Q=>Q (M.set i (some v)) H
theorem pP(hN:X.N.Nodup)(hi:X.N[i]?=some x)(hx:Loc X.env.scope x)(hf:X.fn x=true\/X.env.scope.names.lookup x=some .local:=by first|exact .inl rfl|exact .inr rfl|assumption):PG X (.Name x pos) (jP i):=by
 intro Y s M H v u Q I r h;exact wpAny_assign_Name (m8 I hN hi hx r (fun s' I'=>⟨_,H,I',h⟩) hf)
def RX:Lc:=fun vs M H Q=>vs=[]/\Q M H
def Q4(t:TG)(u:Lc):Lc:=fun vs M H Q=>∃ v r,vs=v::r/\t v M H fun σ' J=>u r σ' J Q
theorem dI:Pf X [] RX:=by
 intro Y s M H vs us Q I r h;obtain⟨e,h⟩:=h;subst e;cases r;exact assignInOrder_nil ⟨M,H,I,h⟩
theorem bH{t:TG}{u:Lc}(h1:PG X e t)(h2:Pf X es u)
  (hs:(assignEach (e::es) X.env).map (·.2)=assign e X.env::(assignEach es X.env).map (·.2):=by rfl):Pf X (e::es) (Q4 t u):=by
 intro Y s M H vs us Q I r h;obtain⟨v,vr,e1,h⟩:=h;subst e1;cases r with
 | cons r rr =>
  rw[hs];refine assignInOrder_cons (thn (h1 Y s M H _ _ _ I r h) fun _ s1 ⟨σ1,H1,I1,q1⟩=>?_);exact h2 Y s1 σ1 H1 _ _ Q I1 rr q1
def O1(K:W.Frag)(n:Nat)(t:Lc):TG:=fun v M H Q=>∃ a xs,v=.ref a/\SqT K H a xs/\xs.length=n/\t xs M H Q
theorem oG{k:Nat}{t:Lc}(hc:X.calm=true)(h:Pf X es t)
  (hn:(assignEach es X.env).length=n:=by rfl) (ic:(assignEach es X.env).findIdx? (·.1)=none:=by rfl):PG X (.Tuple es k pos) (O1 X.K n t):=by
 intro Y s M H v u Q I r hw;obtain⟨a,xs,e1,hq,hl,hw⟩:=hw;subst e1;cases r;obtain⟨its,rv,ht,hz⟩:=I.tuple hq;refine assign_Tuple_tuple (I.ok.hd hc) ht (by simp[hn,<- hl,rv.length]) ic fun h' hx=>?_
 have I1:Inv X Y M H { s with heap:=h' }:=I.kept (t':=s.toks) fun b o e=>hx b o (bg (ax e)) e
 exact h Y _ M H xs _ Q I1 (by simpa using rv) hw
def Bw(te:TE)(g:TG):TS:=fun D M H=>te M H fun x H1=>g x M H1 D.nx
theorem iU(hN:X.N.Nodup)(hi:X.N[i]?=some x)(hx:Loc X.env.scope x)(he:PE X e te)(hs:swapsWith e (some (.Name x pos')) pos.line X.env=pure false:=by rfl)(hf:X.fn x=true\/X.env.scope.names.lookup x=some .local:=by first|exact .inl rfl|exact .inr rfl|assumption):
  PS X (.Assign [.Name x pos'] e pos) (Bw te (jP i)):=by
 intro Y s M H D I h;refine wpAny_Assign_Name (thn (he Y s M H _ I h) fun v s1 ⟨y,H1,I1,r1,q1⟩=>?_) hs;exact m8 I1 hN hi hx r1 (fun s2 I2=>⟨_,H1,I2,q1⟩) hf
def O2(i:Nat)(te:TE)(ti:VI):TS:=fun D M H=>∃ x,M[i]?=some (some x)/\te M H fun y H1=>ti x y H1 fun z H2=>D.nx (M.set i (some z)) H2
theorem DY{op:Operator}(hN:X.N.Nodup)(hi:X.N[i]?=some x)(hx:Loc X.env.scope x)(he:PE X e te)(ho:YX X op ti)(hf:X.fn x=true\/X.env.scope.names.lookup x=some .local:=by first|exact .inl rfl|exact .inr rfl|assumption):
  PS X (.AugAssign (.Name x pos') op e pos) (O2 i te ti):=by
 intro Y s M H D I h;obtain⟨v,e1,h⟩:=h;obtain⟨m,hn,hl⟩:=I.loc;have VQ:Uh X.env.scope x:=by rcases hx with k|k;exact .inl k;exact .inr (.inl k)
 obtain⟨u,r,l⟩:=hl i x v hi e1 VQ;refine wpAny_AugAssign_Name ?_
 have go:wpAny (model X.prog X.w) X.A (eval e X.env) (fun w s₂=>wpAny (model X.prog X.w) X.A (inplaceOp op u w) (fun r s₃=>wpAny (model X.prog X.w) X.A (storeName X.env x r) (fun _=>SP X Y D .next) X.xe s₃) X.xe s₂) X.xe s:=by
  refine thn (he Y s M H _ I h) fun w s1 ⟨y,H1,I1,r1,q1⟩=>?_
  refine thn (ho Y s1 M H1 v y u w _ I1 r r1 q1) fun z s2 ⟨zv,H2,I2,r2,q2⟩=>?_
  exact m8 I2 hN hi hx r2 (fun s3 I3=>⟨_,H2,I3,q2⟩) hf
 rcases l with⟨hk,hm⟩|⟨hk,c,hc,AW⟩
 .exact wpAny_loadName_local I.ok.kind hk hn hm go
 rcases hk with hk|hk
 .exact wpAny_loadName_cell I.ok.kind hk hc AW go
 rcases hx with k|k
 .have:X.env.scope.names.lookup x=some .free:=hk
  rw[k]at this;cases this
 have:X.env.scope.names.lookup x=some .free:=hk;rw[k]at this;cases this
def ipI(f:Int->Int->Int):VI:=fun x y H Q=>∃ i j,x=.int i/\y=.int j/\Q (.int (f i j)) H
theorem O3:YX X .Add (ipI fun i j=>i+j):=by
 intro Y s M H x y v u Q I r1 r2 h;obtain⟨i,j,e1,e2,q⟩:=h;subst e1;subst e2;obtain⟨t,rfl⟩:=r1;obtain⟨t',rfl⟩:=r2;exact iadd_int ⟨.int _,H,I.tok _,⟨_,rfl⟩,q⟩
def O4(c:TT)(tb:TS):TS:=fun D M H=>∃ W:Nat->St->Hp->Prop,(∃ m,W m M H)/\∀ m M H,W m M H ->
 c M H fun b H1=>if b=true then ∃ N:St->Hp->Prop,(∀ σ' J,N σ' J->∃ m',m'<m/\W m' σ' J)/\tb { D with nx:=N,ct:=N,bk:=D.nx } M H1 else D.nx M H1
theorem kj{c:Expr}{tc:TT}{tb:TS}(hp:PassesOwn (model X.prog X.w) X.A X.env X.xe)(hc:PT X c tc)(hb:y6 X body tb):PS X (.While c body [] pos) (O4 tc tb):=by
 intro Y s M H D I h;obtain⟨W,⟨m0,w0⟩,turn⟩:=h;refine wpAny_While (codeAny_whileLoop (fun n s'=>∃ σ' J,Inv X Y σ' J s'/\W n σ' J) ?_ m0 ⟨M,H,I,w0⟩);rintro n s1 ⟨σ1,H1,I1,w1⟩;refine iX hp (thn (hc Y s1 σ1 H1 _ I1 (turn n σ1 H1 w1)) fun b s2 ⟨H2,I2,q2⟩=>?_);cases b with
 | true =>
  obtain⟨N,hN,q2⟩:=q2;rw[qp rfl];refine iX hp (thn (hb Y s2 σ1 H2 _ I2 q2) fun f s3 q3=>?_);cases f with
  | next =>
   obtain⟨σ3,H3,I3,n3⟩:=q3;obtain⟨m',hm,w3⟩:=hN σ3 H3 n3;exact⟨m',hm,σ3,H3,I3,w3⟩
  | cont =>
   obtain⟨σ3,H3,I3,n3⟩:=q3;obtain⟨m',hm,w3⟩:=hN σ3 H3 n3;exact⟨m',hm,σ3,H3,I3,w3⟩
  |brk=>exact q3
  |ret v=>exact q3
 | false =>
  rw[bX jv];exact kT ⟨σ1,H2,I2,q2⟩
structure It where
 go:Nat->Hp->Prop
 Jn:Nat->Hp->V->Hp->Prop
 stop:Nat->Hp->Prop
def iV(X:Cx)(Y:List (Addr×Obj))(H:Hp)(b:Addr):Prop :=
 H b=none/\b≠X.env.locals/\b∉X.fs/\(b∈X.ex\/X.s₀.heap.objs.size<=b)/\(∀ x c,X.env.cells.lookup x=some c->c≠b)/\∀ p∈X.pn++Y,p.1≠b
theorem Inv.sQ(I:Inv X Y M H s)(hb:s.heap.objs.size<=b)(hn:J b=none):iV X Y J b:=by
 refine⟨hn,cb (bo I.lt hb),I.Wh hb,.inr (gV I.sz hb),fun x c e z=>?_,fun p hp z=>?_⟩
 .obtain⟨v,q⟩:=I.cell x c e
  exact absurd (bo q.lt (by rw[z];exact hb)) (c8 _)
 exact absurd (bo (ax (I.pin p hp).1) (by rw[z];exact hb)) (c8 _)
structure Turn(P:Program)(w:World)(K:W.Frag)(tg:Expr)(aac:It)(fp:List Addr)(it:Addr)(tn:Nat->Heap->Prop):Prop where
 mem:it∈fp
 obj:∀ i h,tn i h->∀ b∈fp,∃ o,h.get? b=some o/\∀ v,o.data≠.cell v
 keep:∀ i h h',tn i h->(∀ b∈fp,∀ o,h.get? b=some o->h'.get? b=some o)->tn i h'
 item:∀(X:Cx),X.prog=P->X.w=w->X.K=K->X.calm=true->∀(i:Nat)(Y:List (Addr×Obj))(s:Shared)(M:St)(H:Hp)(E:Value->Shared->Prop),Inv X Y M H s->(∀ b∈fp,iV X Y H b)->tn i s.heap->aac.go i H ->
  wpAny (model P w) X.A (pyNext (.ref it)) (fun r s1=>∃ u,r=some u /\
   wpAny (model P w) X.A (letOwnedTupleGo tg (.ref it) u) (fun _ s2=>∃ x J,Inv X Y M J s2/\RelV x u/\aac.Jn i H x J/\tn (i+1) s2.heap/\∀ b∈fp,J b=none) E s1) E s
 done:∀(X:Cx),X.prog=P->X.w=w->X.K=K->X.calm=true->∀(i:Nat)(Y:List (Addr×Obj))(s:Shared)(M:St)(H:Hp)(E:Value->Shared->Prop),Inv X Y M H s->(∀ b∈fp,iV X Y H b)->tn i s.heap->aac.stop i H ->
  wpAny (model P w) X.A (pyNext (.ref it)) (fun r s1=>r=none/\Inv X Y M H s1) E s
 self:∀(A:Around)(i:Nat)(s:Shared)(Q:Value->Shared->Prop)(E:Value->Shared->Prop),tn i s.heap->Q (.ref it) s->wpAny (model P w) A (pyIter (.ref it)) Q E s
abbrev TI:=St->Hp->(It->Hp->Prop)->Prop
end L2
variable{wi:L2.TI}
namespace L2
open PySem PySem.Spec PyProof.Rows
def PIE(X:Cx)(Y:List (Addr×Obj))(M:St)(tg:Expr)(R:It->Hp->Prop)(Wq:Value)(s2:Shared):Prop :=
 ∃(it:Addr)(fp:List Addr)(tn:Nat->Heap->Prop)(aac:It)(J:Hp),Wq=.ref it/\Inv X Y M J s2/\Turn X.prog X.w X.K tg aac fp it tn/\tn 0 s2.heap/\(∀ b∈fp,iV X Y J b)/\R aac J
def PI(X:Cx)(tg iter:Expr)(wi:TI):Prop :=
 ∀(Y:List (Addr×Obj))(s:Shared)(M:St)(H:Hp)(R:It->Hp->Prop),Inv X Y M H s->wi M H R ->
  wpAny (model X.prog X.w) X.A (eval iter X.env) (fun v s1=>wpAny (model X.prog X.w) X.A (pyIter v) (PIE X Y M tg R) X.xe s1) X.xe s
theorem vU{aad:Model}{o:Obj}{n:String}{vs:Array Value}{Q:Unit->Shared->Prop}(ho:s.heap.get? it=some o)(hc:o.cls=.type n)(hd:o.data=.fields vs)(hn:["enumerate","zip","dict_itemiterator","dict_reverseitemiterator","odict_iterator","itertools.zip_longest","itertools.pairwise"].contains n=false)(hQ:Q () s):wpAny aad A (letOwnedTupleGo tg (.ref it) u) Q E s:=by
 unfold letOwnedTupleGo
 cases tg <;> first
  |exact aw hQ
  | (cases u<;>first
    |exact aw hQ
    | (refine ae (wpAny_load ho ?_)
       rw[hc,hd];show wpAny aad A (if (["enumerate","zip","dict_itemiterator","dict_reverseitemiterator","odict_iterator","itertools.zip_longest","itertools.pairwise"].contains n&&vs[0]? == some (rawInt _))=true then _ else _) Q E s;rw[bX (by intro h;rw[hn,I_]at h;cases h)]
       exact aw hQ))
def Pm(K:W.Frag)(a:Addr):It :=
 ⟨fun i H=>∃ xs x,b3 K H a xs/\xs[i]?=some x,fun i H x J=>J=H/\∀ xs,b3 K H a xs->xs[i]?=some x,fun i H=>∃ xs,b3 K H a xs/\xs.length<=i⟩
def Ul(K:W.Frag)(a:Addr):It :=
 ⟨fun i H=>∃ xs x,SqT K H a xs/\xs[i]?=some x,fun i H x J=>J=H/\∀ xs,SqT K H a xs->xs[i]?=some x,fun i H=>∃ xs,SqT K H a xs/\xs.length<=i⟩
def Um(lo:Int)(n:Nat):It:=⟨fun i _=>i<n,fun i H x J=>J=H/\x=.int (lo+i),fun i _=>n<=i⟩
theorem Ea(a it:Addr):Turn P w K tg (Pm K a) [it] it (fun i h=>h.IsListIter it a i) where
 mem:=by simp
 obj:=fun i h st b hb=>by
  have e:b=it:=by simpa using hb
  subst e;obtain⟨o,e,c,d⟩:=st;exact⟨o,e,fun v z=>by rw[d]at z;cases z⟩
 keep:=fun i h h' st k=>st.at fun o e=>k it oz o e
 item:=by
  intro X hP hw hK hc i Y s M H E I hf st hg;subst hP hw hK;obtain⟨xs,x,hq,hx⟩:=hg;obtain⟨its,rv,p,hz⟩:=I.list hq;obtain⟨u,hu,ru⟩:=rv.get hx;obtain⟨f0,f1,f2,f3,f4,f5⟩:=hf it oz;refine wpAny_pyNext_list_item st p.isList (x:=u) (by simpa using hu) fun h' ip sb=>?_
  have I1:Inv X Y M H { s with heap:=h' }:=I.turned (t':=s.toks) (fun b o hb e=>(sb.2 b hb).trans e) f0 f1 f3 f4 f5;obtain⟨o,e,c,d⟩:=id ip;exact⟨u,Z,vU (s:={ s with heap:=h' }) e c d b4 ⟨x,H,I1,ru,⟨Z,fun ys hy=>by rw[I.sj hy hq];exact hx⟩,ip,fun b hb=>(hf b hb).1⟩⟩
 done:=by
  intro X hP hw hK hc i Y s M H E I hf st hg;subst hP hw hK;obtain⟨xs,hq,hx⟩:=hg;obtain⟨its,rv,p,hz⟩:=I.list hq;obtain⟨f0,f1,f2,f3,f4,f5⟩:=hf it oz;have hl:=rv.length;exact wpAny_pyNext_list_end (I.ok.hd hc) st p.isList (by simp;exact G) fun h' eb=>⟨rfl,I.turned (t':=s.toks) (fun b o hb e=>eb b o hb e) f0 f1 f3 f4 f5⟩
 self:=fun _ _ _ _ _ st h=>wpAny_pyIter_listiter st h
theorem Bx(a it:Addr):Turn P w K tg (Ul K a) [it] it (fun i h=>h.IsTupleIter it a i) where
 mem:=by simp
 obj:=fun i h st b hb=>by
  have e:b=it:=by simpa using hb
  subst e;obtain⟨o,e,c,d⟩:=st;exact⟨o,e,fun v z=>by rw[d]at z;cases z⟩
 keep:=fun i h h' st k=>st.at fun o e=>k it oz o e
 item:=by
  intro X hP hw hK hc i Y s M H E I hf st hg;subst hP hw hK;obtain⟨xs,x,hq,hx⟩:=hg;obtain⟨its,rv,p,hz⟩:=I.tuple hq;obtain⟨u,hu,ru⟩:=rv.get hx;obtain⟨f0,f1,f2,f3,f4,f5⟩:=hf it oz;refine wpAny_pyNext_tuple_item st (show s.heap.IsTuple a its.toArray from p) (x:=u) (by simpa using hu) fun h' ip sb=>?_
  have I1:Inv X Y M H { s with heap:=h' }:=I.turned (t':=s.toks) (fun b o hb e=>(sb.2 b hb).trans e) f0 f1 f3 f4 f5;obtain⟨o,e,c,d⟩:=id ip;exact⟨u,Z,vU (s:={ s with heap:=h' }) e c d b4 ⟨x,H,I1,ru,⟨Z,fun ys hy=>by rw[I.pf hy hq];exact hx⟩,ip,fun b hb=>(hf b hb).1⟩⟩
 done:=by
  intro X hP hw hK hc i Y s M H E I hf st hg;subst hP hw hK;obtain⟨xs,hq,hx⟩:=hg;obtain⟨its,rv,p,hz⟩:=I.tuple hq;obtain⟨f0,f1,f2,f3,f4,f5⟩:=hf it oz;have hl:=rv.length;exact wpAny_pyNext_tuple_end (I.ok.hd hc) st (show s.heap.IsTuple a its.toArray from p) (by simp;exact G) fun h' eb=>⟨rfl,I.turned (t':=s.toks) (fun b o hb e=>eb b o hb e) f0 f1 f3 f4 f5⟩
 self:=fun _ _ _ _ _ st h=>wpAny_pyIter_tupleiter st h
theorem By(it:Addr)(lo:Int)(n:Nat):Turn P w K tg (Um lo n) [it] it (fun i h=>IsRangeIter h it (lo+(i:Nat)*1) ((n:Int)-(i:Nat)) 1) where
 mem:=by simp
 obj := fun i h st b hb=>by
  have e:b=it:=by simpa using hb
  subst e
  exact⟨_,st,fun v z=>by
   have z':Data.fields _=Data.cell v:=z
   cases z'⟩
 keep:=fun i h h' st k=>k it oz _ st
 item:=by
  intro X hP hw hK hc i Y s M H E I hf st hg;subst hP hw hK;obtain⟨f0,f1,f2,f3,f4,f5⟩:=hf it oz;have W:=Walks.range (prog:=X.prog) (w:=X.w) (I.ok.hd hc) it lo 1 n;refine W.item i s _ _ hg st fun v h' tk hv ip kk=>?_
  obtain⟨t,rfl⟩:=hv;have I1:Inv X Y M H { s with heap:=h',toks:=tk }:=I.turned (fun b o hb e=>kk b o (by simpa using hb) e) f0 f1 f3 f4 f5;refine⟨_,Z,vU (s:={ s with heap:=h',toks:=tk }) (n := "range_iterator") ip rfl rfl b4 ⟨.int (lo+i),H,I1,⟨t,?_⟩,⟨Z,Z⟩,ip,fun b hb=>(hf b hb).1⟩⟩;rw[Int.mul_one]
 done:=by
  intro X hP hw hK hc i Y s M H E I hf st hg;subst hP hw hK;obtain⟨f0,f1,f2,f3,f4,f5⟩:=hf it oz;exact wpAny_pyNext_range_end (I.ok.hd hc) st (by have:n<=i:=hg;exact G) fun h' eb=>⟨rfl,I.turned (t':=s.toks) (fun b o hb e=>eb b o hb e) f0 f1 f3 f4 f5⟩
 self:=fun _ _ _ _ _ st h=>wpAny_pyIter_rangeiter st h
def Q5(K:W.Frag)(tl:TE):TI:=fun M H R=>tl M H fun x H1=>∃ a,x=.ref a/\(∃ xs,b3 K H1 a xs)/\R (Pm K a) H1
def RZ(K:W.Frag)(tl:TE):TI:=fun M H R=>tl M H fun x H1=>∃ a,x=.ref a/\(∃ xs,SqT K H1 a xs)/\R (Ul K a) H1
theorem bU{l:Expr}(hl:PE X l tl):PI X tg l (Q5 X.K tl):=by
 intro Y s M H R I h;refine thn (hl Y s M H _ I h) fun v s1 ⟨x,H1,I1,r1,q1⟩=>?_
 obtain⟨a,e,⟨xs,hq⟩,q⟩:=q1;subst e;cases r1;obtain⟨its,rv,p,hz⟩:=I1.list hq;refine ro p.isList ?_;refine⟨s1.heap.objs.size,[s1.heap.objs.size],_,_,H1,Z,I1.kept (t':=s1.toks) fun b o e=>Heap.get?_push_of_some _ e,Ea a _,⟨_,Heap.get?_push_size _ rfl,Z,Z⟩,fun b hb=>?_,q⟩;have e:b=s1.heap.objs.size:=by simpa using hb
 subst e;exact I1.sQ (qnr _) (I1.hok.fresh (qnr _))
theorem O5{l:Expr}(hl:PE X l tl):PI X tg l (RZ X.K tl):=by
 intro Y s M H R I h;refine thn (hl Y s M H _ I h) fun v s1 ⟨x,H1,I1,r1,q1⟩=>?_
 obtain⟨a,e,⟨xs,hq⟩,q⟩:=q1;subst e;cases r1;obtain⟨its,rv,p,hz⟩:=I1.tuple hq;refine iO (show s1.heap.IsTuple a its.toArray from p) ?_;refine⟨s1.heap.objs.size,[s1.heap.objs.size],_,_,H1,Z,I1.kept (t':=s1.toks) fun b o e=>Heap.get?_push_of_some _ e,Bx a _,⟨_,Heap.get?_push_size _ rfl,Z,Z⟩,fun b hb=>?_,q⟩;have e:b=s1.heap.objs.size:=by simpa using hb
 subst e;exact I1.sQ (qnr _) (I1.hok.fresh (qnr _))
theorem HR{R:It->Hp->Prop}{hi:Int}{t u v:Tok}{tk:Nat}(I:Inv X Y M H s)(h1 : -(2^62)<=lo)(h2:lo<2^62)(h3 : -(2^62)<=hi)(h4:hi<2^62)(q:R (Um lo (hi-lo).toNat) H):wpAny (model X.prog X.w) X.A (pyIter (.ref s.heap.objs.size)) (PIE X Y M tg R) E { s with heap:=s.heap.push { cls:=.type "range",data:=.fields #[.int lo t,.int hi u,.int 1 v] },toks:=tk }:=by
 refine wpAny_pyIter_range (IsRange.new ..) (small_one h1 h2 h3 h4) ?_;have I1:Inv X Y M H { s with heap:=s.heap.push { cls:=.type "range",data:=.fields #[.int lo t,.int hi u,.int 1 v] },toks:=tk }:=I.kept fun b o e=>Heap.get?_push_of_some _ e
 refine⟨(s.heap.push { cls:=.type "range",data:=.fields #[.int lo t,.int hi u,.int 1 v] }).objs.size,[(s.heap.push { cls:=.type "range",data:=.fields #[.int lo t,.int hi u,.int 1 v] }).objs.size],_,_,H,rfl,
  I1.kept (t':=tk) fun b o e=>Heap.get?_push_of_some _ e,By _ lo (hi-lo).toNat,?_,fun b hb=>?_,q⟩
 .have e1:lo+((0:Nat):Int)*1=lo:=by simp
  have e2:(((hi-lo).toNat:Nat):Int)-((0:Nat):Int)=Builtin.Range.rangeSize lo hi 1:=by rw[rangeSize_one];split<;>exact G
  show IsRangeIter _ _ (lo+((0:Nat):Int)*1) ((((hi-lo).toNat:Nat):Int)-((0:Nat):Int)) 1;rw[e1,e2];exact Heap.get?_push_size _ rfl
 have e:b=(s.heap.push { cls:=.type "range",data:=.fields #[.int lo t,.int hi u,.int 1 v] }).objs.size:=by simpa using hb
 subst e;exact I1.sQ (qnr _) (I1.hok.fresh (qnr _))
def K7(ta:TA):TI:=fun M H R=>ta M H fun vs H1=>∃ j:Int,vs=[.int j]/\-(2^62)<=j/\j<2^62/\R (Um 0 j.toNat) H1
theorem Eb{a:Expr} {ta:TA}  (hg:Gl X "range") (hm:X.mg "range"=none) (ha:PA X [a] ta) (hs:starEach [a] X.env=[(false,eval a X.env)]:=by rfl):PI X tg (.Call (.Name "range" p) [a] [] pos) (K7 ta):=by
 intro Y s M H R I h;refine Call_ (ig I hg hm boot_range (dQ (thn (ha pos Y s M H _ I h) fun us s1 ⟨vs,H1,I1,r1,q1⟩=>?_) hs rfl));obtain⟨j,e,q1,q2,q⟩:=q1;subst e;cases r1 with
 | cons r rr =>
  cases rr;obtain⟨t,rfl⟩:=r;exact call_range_1 (HR I1 G G q1 q2 (by simpa using q))
def R0(wi:TI)(g:TG)(tb:TS):TS:=fun D M H=>wi M H fun aac H1=>∃ W:Nat->Nat->St->Hp->Prop,(∃ m,W 0 m M H1)/\∀ i m M H,W i m M H ->
 (aac.stop i H/\D.nx M H)\/(aac.go i H/\∃ N:St->Hp->Prop,(∀ σ' J,N σ' J->∃ m',m'<m/\W (i+1) m' σ' J)/\∀ x J,aac.Jn i H x J->g x M J fun σ2 H2=>tb { D with nx:=N,ct:=N,bk:=D.nx } σ2 H2)
def km(fp:List Addr)(h:Heap):List (Addr×Obj):=fp.filterMap fun b=>(h.get? b).map fun o=>(b,o)
theorem jQ{o:Obj}(hb:b∈fp)(e:h.get? b=some o):(b,o)∈km fp h:=gd.mpr ⟨b,hb,by rw[e];rfl⟩
theorem uG{p:Addr×Obj}(hp:p∈km fp h):p.1∈fp/\h.get? p.1=some p.2:=by
 obtain⟨b,hb,e⟩:=gd.mp hp;cases q:h.get? b with
 |none=>rw[q]at e;cases e
 | some o =>
  rw[q]at e;have e':(b,o)=p:=kF e;subst e';exact⟨hb,q⟩
theorem Inv.pinned(I:Inv X Y M H s)(hf:∀ b∈fp,iV X Y H b)(ho:∀ b∈fp,∃ o,s.heap.get? b=some o/\∀ v,o.data≠.cell v):Inv X (Y++km fp s.heap) M H s :=
 I.ri fun p hp=>(aT.mp hp).elim (fun z=>I.pin p (pd _ z)) fun z=>by
  obtain⟨hb,e⟩:=uG z;obtain⟨f0,f1,f2,_⟩:=hf p.1 hb;obtain⟨o,e',d⟩:=ho p.1 hb;rw[e]at e';cases e';exact⟨e,f0,f1,f2,d⟩
theorem Inv.oj{pl:List (Addr×Obj)}(I:Inv X (Y++pl) M H s):Inv X Y M H s:=I.ri fun p hp=>I.pin p (pd _ (w9 _ hp))
theorem fM{g:TG}{tb:TS}(hp:PassesOwn (model X.prog X.w) X.A X.env X.xe)(hc:X.calm=true)(hi:PI X tg iter wi)(hg:PG X tg g)(hb:y6 X body tb)
  (hs:∀ x,foldedSetIterable iter X.env x=pure x:=by intro _;rfl):PS X (.For tg iter body [] pos) (R0 wi g tb):=by
 intro Y s M H D I h;refine wpAny_For (thn (hi Y s M H _ I h) fun v s1 h1=>thn h1 fun Wq s2 h2=>?_) hs;obtain⟨it,fp,tn,aac,H2,e,I2,T,Uy,f2,W,⟨m0,w0⟩,turn⟩:=h2;subst e;have Lo:∀{J:Hp},(∀ b∈fp,J b=none)->∀ b∈fp,iV X Y J b:=fun hn b hb=>⟨hn b hb,(f2 b hb).2⟩
 refine codeAny_forLoop_any (fun n s'=>∃ i σ' J,Inv X Y σ' J s'/\tn i s'.heap/\(∀ b∈fp,J b=none)/\W i n σ' J) ?_ m0 ⟨0,M,H2,I2,Uy,fun b hb=>(f2 b hb).1,w0⟩;rintro n s3 ⟨i,σ3,H3,I3,PM,Tj,w3⟩;rcases turn i n σ3 H3 w3 with⟨stop,qn⟩|⟨go,N,hN,step⟩
 .refine iX hp (thn (T.done X rfl rfl rfl hc i Y s3 σ3 H3 X.xe I3 (Lo Tj) PM stop) fun r s4 ⟨hr,I4⟩=>?_)
  subst hr;exact kT ⟨σ3,H3,I4,qn⟩
 refine iX hp (thn (T.item X rfl rfl rfl hc i Y s3 σ3 H3 X.xe I3 (Lo Tj) PM go) fun r s4 ⟨u,hr,h4⟩=>?_);subst hr;refine iX hp (thn h4 fun _ s5 ⟨x,H5,I5,r5,y5,Lu,XF⟩=>?_);have YZ:=I5.pinned (Lo XF) (T.obj _ _ Lu);refine iX hp (thn (hg _ s5 σ3 H5 x u _ YZ r5 (step x H5 y5)) fun _ s6 ⟨σ6,H6,I6,q6⟩=>?_);refine iX hp (thn (hb _ s6 σ6 H6 _ I6 q6) fun f s7 q7=>?_)
 have again:∀{σ7:St}{H7:Hp},Inv X (Y++km fp s5.heap) σ7 H7 s7->N σ7 H7->∃ m,m<n/\∃ i σ' J,Inv X Y σ' J s7/\tn i s7.heap/\(∀ b∈fp,J b=none)/\W i m σ' J:=fun {σ7 H7} I7 n7=>by
  obtain⟨m',hm,w7⟩:=hN σ7 H7 n7;refine⟨m',hm,i+1,σ7,H7,I7.oj,T.keep _ _ _ Lu fun b hb o e=>(I7.pin (b,o) (pd _ (pd _ (jQ hb e)))).1,fun b hb=>?_,w7⟩;obtain⟨o,e,d⟩:=T.obj _ _ Lu b hb;exact(I7.pin (b,o) (pd _ (pd _ (jQ hb e)))).2.1
 cases f with
 |next=>obtain⟨σ7,H7,I7,n7⟩:=q7;exact again I7 n7
 |cont=>obtain⟨σ7,H7,I7,n7⟩:=q7;exact again I7 n7
 |brk=>obtain⟨σ7,H7,I7,q7⟩:=q7;exact⟨σ7,H7,I7.oj,q7⟩
 |ret v=>obtain⟨x7,σ7,H7,I7,r7,q7⟩:=q7;exact⟨x7,σ7,H7,I7.oj,r7,q7⟩
theorem gf{g:TG}{tb:TS}(Pv:Nat->St->Hp->Prop)(h0:Pv 0 M H)(hl:∀ i M H,i<=xs.length->Pv i M H->b3 K H a xs)(hs:∀ i x M H,xs[i]?=some x->Pv i M H->g x M H fun σ2 H2=>tb { D with nx:=Pv (i+1),ct:=Pv (i+1),bk:=D.nx } σ2 H2)(hd:∀ M H,Pv xs.length M H->D.nx M H): ∃ W:Nat->Nat->St->Hp->Prop,(∃ m,W 0 m M H)/\∀ i m M H,W i m M H -> ((Pm K a).stop i H/\D.nx M H)\/((Pm K a).go i H/\∃ N:St->Hp->Prop,(∀ σ' J,N σ' J->∃ m',m'<m/\W (i+1) m' σ' J)/\∀ x J,(Pm K a).Jn i H x J->g x M J fun σ2 H2=>tb { D with nx:=N,ct:=N,bk:=D.nx } σ2 H2):=by
 refine⟨fun i m M H=>m=xs.length-i/\i<=xs.length/\Pv i M H,⟨xs.length,oz,mr _,h0⟩,?_⟩;rintro i m M H ⟨rfl,hi,p⟩;have q:=hl i M H hi p
 by_cases fS:i<xs.length
 .refine .inr ⟨⟨xs,xs[i],q,by simp[fS]⟩,Pv (i+1),fun σ' J p'=>⟨xs.length-(i+1),G,rfl,fS,p'⟩,fun x J y=>?_⟩
  obtain⟨e,y⟩:=y;subst e;exact hs i x M _ (y xs q) p
 have e:i=xs.length:=G
 subst e;exact .inl ⟨⟨xs,q,qnr _⟩,hd M H p⟩
theorem LC{g:TG}{tb:TS}(Pv:Nat->St->Hp->Prop)(h0:Pv 0 M H)(hl:∀ i M H,i<=xs.length->Pv i M H->SqT K H a xs)(hs:∀ i x M H,xs[i]?=some x->Pv i M H->g x M H fun σ2 H2=>tb { D with nx:=Pv (i+1),ct:=Pv (i+1),bk:=D.nx } σ2 H2)(hd:∀ M H,Pv xs.length M H->D.nx M H): ∃ W:Nat->Nat->St->Hp->Prop,(∃ m,W 0 m M H)/\∀ i m M H,W i m M H -> ((Ul K a).stop i H/\D.nx M H)\/((Ul K a).go i H/\∃ N:St->Hp->Prop,(∀ σ' J,N σ' J->∃ m',m'<m/\W (i+1) m' σ' J)/\∀ x J,(Ul K a).Jn i H x J->g x M J fun σ2 H2=>tb { D with nx:=N,ct:=N,bk:=D.nx } σ2 H2):=by
 refine⟨fun i m M H=>m=xs.length-i/\i<=xs.length/\Pv i M H,⟨xs.length,oz,mr _,h0⟩,?_⟩;rintro i m M H ⟨rfl,hi,p⟩;have q:=hl i M H hi p
 by_cases fS:i<xs.length
 .refine .inr ⟨⟨xs,xs[i],q,by simp[fS]⟩,Pv (i+1),fun σ' J p'=>⟨xs.length-(i+1),G,rfl,fS,p'⟩,fun x J y=>?_⟩
  obtain⟨e,y⟩:=y;subst e;exact hs i x M _ (y xs q) p
 have e:i=xs.length:=G
 subst e;exact .inl ⟨⟨xs,q,qnr _⟩,hd M H p⟩
abbrev R2:=V->V->Hp->VK->Prop
end L2
variable{r r':L2.R2}
namespace L2
open PySem PySem.Spec PyProof.Rows
def kH(X:Cx)(f:Value->Value->Sem Value)(r:R2):Prop :=
 ∀(Y:List (Addr×Obj))(s:Shared)(M:St)(H:Hp)(x y:V)(v u:Value)(Q:VK),Inv X Y M H s->RelV x v->RelV y u->r x y H Q ->
  wpAny (model X.prog X.w) X.A (f v u) (EP X Y M Q) X.xe s
def Yu(X:Cx)(f:Value->Sem Value)(r:V->Hp->VK->Prop):Prop :=
 ∀(Y:List (Addr×Obj))(s:Shared)(M:St)(H:Hp)(x:V)(v:Value)(Q:VK),Inv X Y M H s->RelV x v->r x H Q ->
  wpAny (model X.prog X.w) X.A (f v) (EP X Y M Q) X.xe s
def dJ(X:Cx)(f:Value)(r:List V->Hp->VK->Prop):Prop :=
 ∀(Y:List (Addr×Obj))(s:Shared)(M:St)(H:Hp)(xs:List V)(us:List Value)(Q:VK),Inv X Y M H s->Vals xs us->r xs H Q ->
  wpAny (model X.prog X.w) X.A (call f us) (EP X Y M Q) X.xe s
def R1(X:Cx)(r:V->Hp->(Bool->Hp->Prop)->Prop):Prop :=
 ∀(Y:List (Addr×Obj))(s:Shared)(M:St)(H:Hp)(x:V)(v:Value)(Q:Bool->Hp->Prop),Inv X Y M H s->RelV x v->r x H Q ->
  wpAny (model X.prog X.w) X.A (truthy v) (TP X Y M Q) X.xe s
def PH(r:R2)(ta tb:TE):TE:=fun M H Q=>ta M H fun x H1=>tb M H1 fun y H2=>r x y H2 Q
def tUn(r:V->Hp->VK->Prop)(ta:TE):TE:=fun M H Q=>ta M H fun x H1=>r x H1 Q
inductive rI(C:Int->Int->Prop)(g:Int->Int->V)(x:V)(y:V)(H:Hp)(Q:VK):Prop
 |mk(i j:_)(_:x=.int i)(_:y=.int j)(_:C i j)(_:Q (g i j) H)
inductive EV(g:Int->Int->V)(x:V)(y:V)(H:Hp)(Q:VK):Prop
 |mk(i j:_)(_:x=.int i)(_:y=.int j)(_:Q (g i j) H)
def rU(g:Int->V):V->Hp->VK->Prop:=fun x H Q=>∃ i,x=.int i/\Q (g i) H
section
variable{a b c:Expr}
theorem HS(ha:PE X a ta)(hb:PE X b tb){R:V->V->Hp->Prop}(I:Inv X Y M H s)(h:ta M H fun x H1=>tb M H1 fun y H2=>R x y H2)  {f:Value->Value->Sem Value}(hf:∀ v u s2 x y H2,Inv X Y M H2 s2->RelV x v->RelV y u->R x y H2->wpAny (model X.prog X.w) X.A (f v u) Q X.xe s2): wpAny (model X.prog X.w) X.A (eval a X.env) (fun v s₁=>wpAny (model X.prog X.w) X.A (eval b X.env) (fun u s₂=>wpAny (model X.prog X.w) X.A (f v u) Q X.xe s₂) X.xe s₁) X.xe s:=by
 refine thn (ha Y s M H _ I h) fun v s1 ⟨x,H1,I1,r1,q1⟩=>?_
 refine thn (hb Y s1 M H1 _ I1 q1) fun u s2 ⟨y,H2,I2,r2,q2⟩=>?_
 exact hf v u s2 x y H2 I2 r1 r2 q2
theorem aD{op:Operator}(ho:kH X (binaryOp op) r)(ha:PE X a ta)(hb:PE X b tb):PE X (.BinOp a op b pos) (PH r ta tb):=by
 intro Y s M H Q I h;exact wpAny_BinOp (HS ha hb I h fun v u s2 x y H2 I2 rx ry q=>ho Y s2 M H2 x y v u Q I2 rx ry q)
theorem iW{op:UnaryOp}{r:V->Hp->VK->Prop}(ho:Yu X (unaryOp op) r)(ha:PE X a ta):PE X (.UnaryOp op a pos) (tUn r ta):=by
 intro Y s M H Q I h;exact UnaryOp_ (thn (ha Y s M H _ I h) fun v s1 ⟨x,H1,I1,r1,q1⟩=>ho Y s1 M H1 x v Q I1 r1 q1)
theorem JU{f:Value->Value->Sem Value}{C:Int->Int->Prop}{g:Int->Int->Int}(rule:∀(i j:Int)(t u:Tok)(s:Shared)(Q:Value->Shared->Prop)(E:Value->Shared->Prop),C i j->Q (.int (g i j) s.toks) { s with toks:=s.toks+1 }->wpAny (model X.prog X.w) X.A (f (.int i t) (.int j u)) Q E s): kH X f (rI C fun i j=>.int (g i j)):=by
 intro Y s M H x y v u Q I rx ry h;obtain⟨i,j,rfl,rfl,hc,q⟩:=h;obtain⟨t,rfl⟩:=rx;obtain⟨t',rfl⟩:=ry;exact rule i j t t' s _ _ hc ⟨.int (g i j),H,I.tok _,⟨_,rfl⟩,q⟩
theorem wH{f:Value->Value->Sem Value}{g:Int->Int->Int}(rule:∀(i j:Int)(t u:Tok)(s:Shared)(Q:Value->Shared->Prop)(E:Value->Shared->Prop),Q (.int (g i j) s.toks) { s with toks:=s.toks+1 }->wpAny (model X.prog X.w) X.A (f (.int i t) (.int j u)) Q E s): kH X f (EV fun i j=>.int (g i j)):=by
 intro Y s M H x y v u Q I rx ry h;obtain⟨i,j,rfl,rfl,q⟩:=h;obtain⟨t,rfl⟩:=rx;obtain⟨t',rfl⟩:=ry;exact rule i j t t' s _ _ ⟨.int (g i j),H,I.tok _,⟨_,rfl⟩,q⟩
theorem HW{f:Value->Value->Sem Value}{g:Int->Int->Bool}(rule:∀(i j:Int)(t u:Tok)(s:Shared)(Q:Value->Shared->Prop)(E:Value->Shared->Prop),Q (.bool (g i j)) s->wpAny (model X.prog X.w) X.A (f (.int i t) (.int j u)) Q E s): kH X f (EV fun i j=>.bl (g i j)):=by
 intro Y s M H x y v u Q I rx ry h;obtain⟨i,j,rfl,rfl,q⟩:=h;obtain⟨t,rfl⟩:=rx;obtain⟨t',rfl⟩:=ry;exact rule i j t t' s _ _ ⟨.bl (g i j),H,I,rfl,q⟩
def R3(i j:Int):Prop:=0<j/\j<1073741824
def oH(i j:Int):Prop:=0<=j/\j<=1000000/\i.natAbs<2^64
def EJ(i j:Int):Prop:=(-(2^64)<i/\i<2^64)\/(-(2^64)<j/\j<2^64)
theorem EJ.ok{i j:Int}(h:EJ i j):IntMulOk i j:=by
 rcases h with⟨h1,h2⟩|⟨h1,h2⟩
 .exact .of_left (intBits_le_64 h1 h2)
 exact .of_right (intBits_le_64 h1 h2)
theorem BJ(k:Nat):(0:Int)<=2^k:=by
 rw[two_pow_cast];exact gi _
theorem cN:kH X (binaryOp .Add) (EV fun i j=>.int (i+j)):=wH fun _ _ _ _ _ _ _ q=>add_int q
theorem cX:kH X (binaryOp .Sub) (EV fun i j=>.int (i-j)):=wH fun _ _ _ _ _ _ _ q=>sub_int q
theorem gM:kH X (binaryOp .Mult) (rI EJ fun i j=>.int (i*j)):=JU fun _ _ _ _ _ _ _ hc q=>mul_int q hc.ok
theorem fO:kH X (binaryOp .FloorDiv) (rI R3 fun i j=>.int (i/j)):=JU fun i j _ _ _ _ _ hc q=>by
 have h1:(0:Int)<j:=hc.1;have h2:j<1073741824:=hc.2;exact floordiv_int G (by rw[IY i G];exact q) (.inl (PyProof.noPylong_small G))
theorem cu:kH X (binaryOp .Mod) (rI (fun _ j=>0<j) fun i j=>.int (i%j)):=JU fun i j _ _ _ _ _ hc q=>by
 have h1:(0:Int)<j:=hc;exact mod_int' G (by rw[Int.fmod_eq_emod_of_nonneg i G];exact q)
theorem wI:kH X (binaryOp .Pow) (rI oH fun i j=>.int (i^j.toNat)):=JU fun _ _ _ _ _ _ _ hc q=>pow_int_small hc.1 hc.2.1 hc.2.2 q
theorem gO:kH X (binaryOp .LShift) (rI oH fun i j=>.int (i*2^j.toNat)):=JU fun _ _ _ _ _ _ _ hc q=>lshift_int_small hc.1 hc.2.1 hc.2.2 q
theorem rP:kH X (binaryOp .RShift) (rI (fun _ j=>0<=j) fun i j=>.int (i/2^j.toNat)):=JU fun i j _ _ _ _ _ hc q =>
 rshift_int hc (by rw[IY i (BJ _)];exact q)
theorem gP:kH X (binaryOp .BitAnd) (EV fun i j=>.int (Builtin.bitAnd i j)):=wH fun _ _ _ _ _ _ _ q=>and_int q
theorem m9:kH X (binaryOp .BitOr) (EV fun i j=>.int (Builtin.bitOr i j)):=wH fun _ _ _ _ _ _ _ q=>or_int q
theorem mJ:kH X (binaryOp .BitXor) (EV fun i j=>.int (Builtin.bitXor i j)):=wH fun _ _ _ _ _ _ _ q=>xor_int q
theorem unI{f:Value->Sem Value}{g:Int->Int}(rule:∀(i:Int)(t:Tok)(s:Shared)(Q:Value->Shared->Prop)(E:Value->Shared->Prop),Q (.int (g i) s.toks) { s with toks:=s.toks+1 }->wpAny (model X.prog X.w) X.A (f (.int i t)) Q E s): Yu X f (rU fun i=>.int (g i)):=by
 intro Y s M H x v Q I rx h;obtain⟨i,rfl,q⟩:=h;obtain⟨t,rfl⟩:=rx;exact rule i t s _ _ ⟨.int (g i),H,I.tok _,⟨_,rfl⟩,q⟩
theorem gQ:Yu X (unaryOp .USub) (rU fun i=>.int (-i)):=unI fun _ _ _ _ _ q=>neg_int q
end
def O6:V->V->Bool
 | .non,.non=>true | .non,.int _=>true | .int _,.non=>true | .non,.bl _=>true | .bl _,.non=>true | .non,.str _=>true | .str _,.non=>true
 | .int _,.int _=>true | .bl _,.bl _=>true | .str _,.str _=>true | .byt _,.byt _=>true
 | .int _,.str _=>true | .str _,.int _=>true | .bl _,.str _=>true | .str _,.bl _=>true
 |_,_=>false
def rEq:R2:=fun x y H Q=>O6 x y=true/\Q (.bl (decide (x=y))) H
def rNe:R2:=fun x y H Q=>O6 x y=true/\Q (.bl (!decide (x=y))) H
theorem Af{i j:Int}:decide (V.int i=V.int j)=(i==j):=by
 rw[r9];simp
theorem Ec{i j:Bool}:decide (V.bl i=V.bl j)=(i==j):=by
 rw[r9];simp
theorem Ag{i j:Str}:decide (V.str i=V.str j)=(i==j):=by
 rw[r9];simp
theorem Ah{i j:Array UInt8}:decide (V.byt i=V.byt j)=(i.toList==j.toList):=by
 rw[r9];cases i;cases j;simp
section
variable{a b c:Expr}
theorem bQ{Q:VK}{k k':Bool}(I:Inv X Y M H s)(q:Q (.bl k) H)(e:k=k'):EP X Y M Q (.bool k') s:=by
 subst e;exact⟨.bl k,H,I,Z,q⟩
theorem aV:kH X (compareOp .Eq) rEq:=by
 intro Y s M H x y v u Q I rx ry h;obtain⟨hs,q⟩:=h;cases x with
 | non =>
  cases rx;cases y with
  |non=>cases ry;exact PySem.EqNone.eq_none_none (bQ I q oz)
  |bl j=>cases ry;exact PySem.EqNone.eq_none_bool (bQ I q oz)
  |int j=>obtain⟨t',rfl⟩:=ry;exact PySem.EqNone.eq_none_int (bQ I q oz)
  |str j=>obtain⟨t',rfl⟩:=ry;exact PySem.EqNone.eq_none_str (bQ I q oz)
  |_=>exact absurd (show false=true from hs) jv
 | bl i =>
  cases rx;cases y with
  |non=>cases ry;exact PySem.EqNone.eq_bool_none (bQ I q oz)
  |bl j=>cases ry;exact eq_bool (bQ I q Ec)
  |str j=>obtain⟨t',rfl⟩:=ry;exact PySem.EqMixed.eq_bool_str (bQ I q oz)
  |_=>exact absurd (show false=true from hs) jv
 | int i =>
  obtain⟨t,rfl⟩:=rx;cases y with
  |non=>cases ry;exact PySem.EqNone.eq_int_none (bQ I q oz)
  |int j=>obtain⟨t',rfl⟩:=ry;exact eq_int (bQ I q Af)
  |str j=>obtain⟨t',rfl⟩:=ry;exact PySem.EqMixed.eq_int_str (bQ I q oz)
  |_=>exact absurd (show false=true from hs) jv
 | str i =>
  obtain⟨t,rfl⟩:=rx;cases y with
  |non=>cases ry;exact PySem.EqNone.eq_str_none (bQ I q oz)
  |bl j=>cases ry;exact PySem.EqMixed.eq_str_bool (bQ I q oz)
  |int j=>obtain⟨t',rfl⟩:=ry;exact PySem.EqMixed.eq_str_int (bQ I q oz)
  |str j=>obtain⟨t',rfl⟩:=ry;exact eq_str (bQ I q Ag)
  |_=>exact absurd (show false=true from hs) jv
 | byt i =>
  obtain⟨t,rfl⟩:=rx;cases y with
  |byt j=>obtain⟨t',rfl⟩:=ry;exact W.eq_bytes (bQ I q Ah)
  |_=>exact absurd (show false=true from hs) jv
 |_=>cases y<;>exact absurd (show false=true from hs) jv
theorem gY:kH X (compareOp .NotEq) rNe:=by
 intro Y s M H x y v u Q I rx ry h;obtain⟨hs,q⟩:=h;cases x with
 | non =>
  cases rx;cases y with
  |non=>cases ry;exact PySem.EqNone.ne_none_none (bQ I q oz)
  |bl j=>cases ry;exact PySem.EqNone.ne_none_bool (bQ I q oz)
  |int j=>obtain⟨t',rfl⟩:=ry;exact PySem.EqNone.ne_none_int (bQ I q oz)
  |str j=>obtain⟨t',rfl⟩:=ry;exact PySem.EqNone.ne_none_str (bQ I q oz)
  |_=>exact absurd (show false=true from hs) jv
 | bl i =>
  cases rx;cases y with
  |non=>cases ry;exact PySem.EqNone.ne_bool_none (bQ I q oz)
  |bl j=>cases ry;exact ne_bool (bQ I q (b_ not Ec))
  |str j=>obtain⟨t',rfl⟩:=ry;exact PySem.EqMixed.ne_bool_str (bQ I q oz)
  |_=>exact absurd (show false=true from hs) jv
 | int i =>
  obtain⟨t,rfl⟩:=rx;cases y with
  |non=>cases ry;exact PySem.EqNone.ne_int_none (bQ I q oz)
  |int j=>obtain⟨t',rfl⟩:=ry;exact ne_int (bQ I q (b_ not Af))
  |str j=>obtain⟨t',rfl⟩:=ry;exact PySem.EqMixed.ne_int_str (bQ I q oz)
  |_=>exact absurd (show false=true from hs) jv
 | str i =>
  obtain⟨t,rfl⟩:=rx;cases y with
  |non=>cases ry;exact PySem.EqNone.ne_str_none (bQ I q oz)
  |bl j=>cases ry;exact PySem.EqMixed.ne_str_bool (bQ I q oz)
  |int j=>obtain⟨t',rfl⟩:=ry;exact PySem.EqMixed.ne_str_int (bQ I q oz)
  |str j=>obtain⟨t',rfl⟩:=ry;exact ne_str (bQ I q (b_ not Ag))
  |_=>exact absurd (show false=true from hs) jv
 | byt i =>
  obtain⟨t,rfl⟩:=rx;cases y with
  |byt j=>obtain⟨t',rfl⟩:=ry;exact W.ne_bytes (bQ I q (b_ not Ah))
  |_=>exact absurd (show false=true from hs) jv
 |_=>cases y<;>exact absurd (show false=true from hs) jv
theorem ni:kH X (compareOp .Lt) (EV fun i j=>.bl (decide (i<j))):=HW fun _ _ _ _ _ _ _ q=>lt_int q
theorem lH:kH X (compareOp .LtE) (EV fun i j=>.bl (decide (i<=j))):=HW fun _ _ _ _ _ _ _ q=>le_int q
theorem nj:kH X (compareOp .Gt) (EV fun i j=>.bl (decide (j<i))):=HW fun _ _ _ _ _ _ _ q=>gt_int q
theorem ik:kH X (compareOp .Is) (fun x y H Q=>y=.non /\ Q (.bl (decide (x=.non))) H):=by
 intro Y s M H x y v u Q I rx ry h;obtain⟨rfl,q⟩:=h;cases ry;refine is_none_gen (bQ I q ?_)
 cases x<;>first
  |(cases rx;rfl)
  |(obtain⟨t,rfl⟩:=rx;rfl)
theorem LK:kH X (compareOp .IsNot) (fun x y H Q=>y=.non /\ Q (.bl (!decide (x=.non))) H):=by
 intro Y s M H x y v u Q I rx ry h;obtain⟨rfl,q⟩:=h;cases ry;refine isnot_none_gen (bQ I q ?_)
 cases x<;>first
  |(cases rx;rfl)
  |(obtain⟨t,rfl⟩:=rx;rfl)
theorem aH(b:Expr){op:CmpOp}(h:op≠.In:=by decide)(h2:op≠.NotIn:=by decide):behindInMarks op b=false:=by
 have e1:(op==CmpOp.In)=false:=by cases op<;>first|rfl|exact absurd rfl h
 have e2:(op==CmpOp.NotIn)=false:=by cases op<;>first|rfl|exact absurd rfl h2
 cases b<;>simp[behindInMarks,e1,e2]
theorem cM{op:CmpOp}(ho:kH X (compareOp op) r)(ha:PE X a ta)(hb:PE X b tb)(hm:behindInMarks op b=false):PE X (.Compare a [op] [b] pos) (PH r ta tb):=by
 intro Y s M H Q I h;exact wpAny_Compare1 (HS ha hb I h fun v u s2 x y H2 I2 rx ry q=>ho Y s2 M H2 x y v u Q I2 rx ry q) hm
def K8(t:TE):TT:=fun M H Q=>t M H fun x J=>iB Q x J
theorem aF{op:CmpOp}(ho:kH X (compareOp op) r)(ha:PE X a ta)(hb:PE X b tb)(hm:behindInMarks op b=false):PT X (.Compare a [op] [b] pos) (K8 (PH r ta tb)):=by
 intro Y s M H Q I h
 refine wpAny_isTrue_Compare1 (thn (ha Y s M H _ I h) fun v s1 ⟨x,H1,I1,r1,q1⟩=>thn (hb Y s1 M H1 _ I1 q1) fun u s2 ⟨y,H2,I2,r2,q2⟩ =>
  thn (ho Y s2 M H2 x y v u _ I2 r1 r2 q2) fun c s3 ⟨z,H3,I3,r3,k,e,q3⟩=>?_) hm
 subst e;cases r3;exact dE ⟨H3,I3,q3⟩
def Ed(r r':R2)(ta tb tc:TE):TE:=fun M H Q=>ta M H fun x H1=>tb M H1 fun y H2=>r x y H2 fun z H3=>∃ k,z=.bl k /\
 (if k=true then tc M H3 fun w' H4=>r' y w' H4 Q else Q (.bl false) H3)
theorem qL{op Me:CmpOp}(ho:kH X (compareOp op) r)(yy:kH X (compareOp Me) r')(ha:PE X a ta)(hb:PE X b tb)(hc:PE X c tc)
  (hm:lastMarks [op,Me] [b,c]=false:=by with_unfolding_all rfl):PE X (.Compare a [op,Me] [b,c] pos) (Ed r r' ta tb tc):=by
 intro Y s M H Q I h
 refine Compare_chain (thn (ha Y s M H _ I h) fun v s1 ⟨x,H1,I1,r1,q1⟩=>chain_link (thn (hb Y s1 M H1 _ I1 q1) fun u s2 ⟨y,H2,I2,r2,q2⟩ =>
  thn (ho Y s2 M H2 x y v u _ I2 r1 r2 q2) fun d s3 ⟨z,H3,I3,r3,k,e,q3⟩=>?_)) hm
 subst e;cases r3;refine dE ?_;cases k with
 |false=>exact ite_ff ⟨.bl false,H3,I3,rfl,q3⟩
 |true=>exact ite_tt (chain_last (thn (hc Y s3 M H3 _ I3 q3) fun w' s4 ⟨z',H4,I4,r4,q4⟩=>yy Y s4 M H4 y z' u w' Q I4 r2 r4 q4))
theorem qM{op Me:CmpOp}(ho:kH X (compareOp op) r)(yy:kH X (compareOp Me) r')(ha:PE X a ta)(hb:PE X b tb)(hc:PE X c tc)
  (hm:lastMarks [op,Me] [b,c]=false:=by with_unfolding_all rfl):PT X (.Compare a [op,Me] [b,c] pos) (K8 (Ed r r' ta tb tc)):=by
 intro Y s M H Q I h
 refine isTrue_chain (thn (ha Y s M H _ I h) fun v s1 ⟨x,H1,I1,r1,q1⟩=>test_link (thn (hb Y s1 M H1 _ I1 q1) fun u s2 ⟨y,H2,I2,r2,q2⟩ =>
  thn (ho Y s2 M H2 x y v u _ I2 r1 r2 q2) fun d s3 ⟨z,H3,I3,r3,k,e,q3⟩=>?_)) hm
 subst e;cases r3;refine dE ?_;cases k with
 | false =>
  obtain⟨k',e',q'⟩:=q3;cases e';exact ite_ff ⟨H3,I3,q'⟩
 | true =>
  refine ite_tt (test_last (thn (hc Y s3 M H3 _ I3 q3) fun w' s4 ⟨z',H4,I4,r4,q4⟩=>thn (yy Y s4 M H4 y z' u w' _ I4 r2 r4 q4) fun d' s5 ⟨z2,H5,I5,r5,k2,e2,q5⟩=>?_));subst e2;cases r5;exact dE ⟨H5,I5,q5⟩
def O7(K:W.Frag)(x:V)(H:Hp)(k:Bool):Prop :=
 match x with
 | .non=>k=false
 | .bl b=>k=b
 | .int i=>k=(i != 0)
 | .str y=>y.length<=sizeLine/\k=((y.length:Int) != 0)
 | .byt y=>y.size<=sizeLine/\k=((y.size:Int) != 0)
 | .ref p=>(∃ xs,b3 K H p xs/\k = !xs.isEmpty)\/(∃ xs,SqT K H p xs/\k = !xs.isEmpty)\/∃ kvs,H p=some (.dK kvs)/\k = !kvs.isEmpty
 |_=>False
theorem BK{κ:Type}{kvs:List (κ×V)}{vs:List (κ×Value)}(r:KV kvs vs):(!vs.isEmpty) = !kvs.isEmpty:=by
 cases r<;>rfl
theorem rQ(r:Vals xs its):(!its.toArray.isEmpty) = !xs.isEmpty:=by
 cases r<;>simp
theorem mK:(sizeLine:Nat)<2^63:=by rw[sizeLine_eq];decide
theorem O8:R1 X (fun x H Q=>∃ k,O7 X.K x H k/\Q k H):=by
 intro Y s M H x v Q I rx h;obtain⟨k,e,q⟩:=h;have hl:=mK;have hs:sizeLine=16777216:=sizeLine_eq;cases x with
 | non =>
  cases rx;have e':k=false:=e;subst e';exact truthy_none ⟨H,I,q⟩
 | bl b =>
  cases rx;have e':k=b:=e;subst e';exact dE ⟨H,I,q⟩
 | int i =>
  obtain⟨t,rfl⟩:=rx;have e':k=(i != 0):=e;subst e';exact PySem.P.truthy_int ⟨H,I,q⟩
 | str y =>
  obtain⟨t,rfl⟩:=rx;obtain⟨hy,e'⟩:y.length<=sizeLine/\k=((y.length:Int) != 0):=e;subst e';exact PySem.P.truthy_str G ⟨H,I.tok _,q⟩
 | byt y =>
  obtain⟨t,rfl⟩:=rx;obtain⟨hy,e'⟩:y.size<=sizeLine/\k=((y.size:Int) != 0):=e;subst e';exact W.truthy_bytes G ⟨H,I.tok _,q⟩
 | ref p =>
  cases rx;have e':(∃ xs,b3 X.K H p xs/\k = !xs.isEmpty)\/(∃ xs,SqT X.K H p xs/\k = !xs.isEmpty)\/∃ kvs,H p=some (.dK kvs)/\k = !kvs.isEmpty:=e;rcases e' with⟨xs,hx,e'⟩|⟨xs,hx,e'⟩|⟨kvs,hx,e'⟩
  .subst e'
   obtain⟨its,r,pl,hz⟩:=I.list hx;have hlen:=r.length;exact wpAny_truthy_list pl.isList (by simp only[ah];exact G) ⟨H,I.tok _,by rw[rQ r];exact q⟩
  .subst e'
   obtain⟨its,r,pl,hz⟩:=I.tuple hx;have hlen:=r.length;exact truthy_tuple pl (by simp only[ah];exact G) ⟨H,I.tok _,by rw[rQ r];exact q⟩
  subst e';obtain⟨hz,hS,vs,r,m⟩:kvs.length<=sizeLine/\(p==sysModules)=false/\∃ vs,KV kvs vs/\s.heap.DictOf (bT X.prog X.w) p vs:=I.hok p _ hx;have hlen:kvs.length=vs.length:=a_ r;exact wpAny_truthy_dict hS m G ⟨H,I.tok _,by rw[BK r];exact q⟩
 |_=>exact(show False from e).elim
theorem iD(ha:PE X a ta)(he:∀ whole,isTrue a X.env whole=(do let v <- whole;standAt a.pos;holding [v] (truthy v))):
  PT X a (fun M H Q=>ta M H fun x J=>∃ k,O7 X.K x J k/\Q k J):=by
 intro Y s M H Q I h;exact isTrue_plain (thn (ha Y s M H _ I h) fun v s1 ⟨x,H1,I1,r1,q1⟩=>O8 Y s1 M H1 x v Q I1 r1 q1) (he _)
theorem bC:kH X (binaryOp .Add) (fun x y H Q=>∃ i j,x=.str i/\y=.str j/\i.length+j.length<=sizeLine/\Q (.str (i++j)) H):=by
 intro Y s M H x y v u Q I rx ry h;obtain⟨i,j,rfl,rfl,hz,q⟩:=h;obtain⟨t,rfl⟩:=rx;obtain⟨t',rfl⟩:=ry;exact add_str (fun t' tk=>⟨.str (i++j),H,I.tok _,⟨_,rfl⟩,q⟩) hz
theorem yP:kH X (inplaceOp .Add) (fun x y H Q=>∃ i j,x=.str i/\y=.str j/\i.length+j.length<=sizeLine/\Q (.str (i++j)) H):=by
 intro Y s M H x y v u Q I rx ry h;obtain⟨i,j,rfl,rfl,hz,q⟩:=h;obtain⟨t,rfl⟩:=rx;obtain⟨t',rfl⟩:=ry;exact iadd_str (fun t' tk=>⟨.str (i++j),H,I.tok _,⟨_,rfl⟩,q⟩) hz
theorem vals1{x:V}(r:Vals [x] us):∃ u,us=[u]/\RelV x u:=by
 cases r with
 |cons r1 r2=>cases r2;exact⟨_,Z,r1⟩
theorem vals2{x:V}(r:Vals [x,y] us):∃ u w',us=[u,w']/\RelV x u/\RelV y w':=by
 cases r with
 | cons r1 r2 =>
  cases r2 with
  |cons r3 r4=>cases r4;exact⟨_,_,Z,r1,r3⟩
theorem uH(hc:X.calm=true):dJ X (.builtin "max") (fun xs H Q=>∃ i j,xs=[.int i,.int j]/\Q (.int (if j>i then j else i)) H):=by
 intro Y s M H xs us Q I r h;obtain⟨i,j,rfl,q⟩:=h;obtain⟨u,w',rfl,⟨t,rfl⟩,⟨t',rfl⟩⟩:=vals2 r;refine max_two_ints (I.ok.hd hc) fun h' tk k=>⟨_,H,I.kept k,?_,q⟩
 by_cases hj:j>i
 .rw[qp hj,qp hj];exact⟨_,Z⟩
 rw[bX hj,bX hj];exact⟨_,Z⟩
theorem uI:dJ X (.type "int") (fun xs H Q=>(∃ i,xs=[.int i]/\Q (.int i) H)\/∃ k,xs=[.bl k]/\Q (.int (if k then 1 else 0)) H):=by
 intro Y s M H xs us Q I r h;rcases h with⟨i,rfl,q⟩|⟨k,rfl,q⟩
 .obtain⟨u,rfl,t,rfl⟩:=vals1 r
  exact call_int_int ⟨.int i,H,I,⟨_,rfl⟩,q⟩
 obtain⟨u,rfl,r1⟩:=vals1 r;cases r1;exact call_int_bool ⟨.int (if k then 1 else 0),H,I.tok _,⟨_,rfl⟩,q⟩
end
structure y7(h:Heap)(x dx C:Addr)(mA:Str->Option Value):Prop where
 obj:h.get? x=some (W.instObj C dx)
 ns:h.Ns1 dx mA
 ne:dx≠x
theorem Ef(n:h.Ns1 dx mA):∃ od,h.get? dx=some od/\∀ name,W.lookIn name od=some (mA name):=by
 obtain⟨o,es,ep,ho,hd,hk,_,hm⟩:=n;refine⟨o,ho,fun name=>?_⟩;have e:=hm name;unfold nsFind findBy at e;rw[<- Array.find?_toList]at e;unfold W.lookIn;rw[hd];dsimp only
 split
 .rename_i y q
  rw[q]at e;exact b_ some e
 rename_i q
 rw[q]at e
 have a:es.toList.any (·.refKey)=false:=by
  rw[AB];intro y hy;obtain⟨z,t,Xb⟩:=hk y (Array.mem_toList_iff.mp hy);simp[DictEntry.refKey,Xb]
 have a':¬es.toList.any (·.refKey)=true:=by rw[a];exact jv
 rw[bX a'];exact b_ some e
theorem y7.look{x:Addr}(I:y7 h x dx C mA):∃ od,W.InstAt h x (W.instObj C dx) C (some od)/\∀ name,W.lookIn name od=some (mA name):=
 let ⟨od,ho,hl⟩:=Ef I.ns
 ⟨od,⟨I.obj,rfl,rfl,ho⟩,hl⟩
section
variable{x:Addr}{v:Value}
theorem LQ{expr:Bool}(X:K.In s.heap)(I:y7 s.heap x dx C mA)(hg:W.plainGet K C name=true)(hh:W.hasDictIn K C=true)(ha:W.findIn K (.ref C) name=some none)(hv:mA name=some v)(hv':W.handedIn v=true)(h:Q v { s with toks:=s.toks+1 }): wpAny (model prog w) A (getAttr (.ref x) name expr) Q E s:=by
 obtain⟨od,aac,hl⟩:=I.look;exact W.get_value X aac (W.plainGet_of hg).1 (W.findObj_own hh ha rfl (by rw[hl,hv])) hv' h
theorem HX{pl:Sem Bool}{Q:Value×List Value->Shared->Prop}(X:K.In s.heap)(I:y7 s.heap x dx C mA)(hg:W.plainGet K C name=true)(hf:W.findIn K (.ref C) name=some (some (.ref f)))(ht:W.isFn K (.ref f)=true)(hv:mA name=none)(h:Q (.ref f,[.ref x]) s): wpAny (model prog w) A (getMethod (.ref x) name pl) Q E s:=by
 obtain⟨od,aac,hl⟩:=I.look;exact W.method_fn X aac (W.plainGet_of hg).1 (W.plainGet_of hg).2 hf (lI.mp ht) (by show(W.lookIn name od).map (·.isSome)=some false;rw[hl,hv];rfl) h
theorem LR{Q:Unit->Shared->Prop}(X:K.In s.heap)(I:y7 s.heap x dx C mA)(hs:W.findIn K (.ref C) "__setattr__"=some (some (.builtin "object.__setattr__")))(hp:W.plainOver K C=true)(ht:W.takerIn K C name=some none)(hh:W.hasDictIn K C=true)(hw:PySem.Within mA ns)(hsz:ns.length<=sizeLine)(h:∀ h',y7 h' x dx C (fun y=>if y=name then some v else mA y)->Heap.SameBut dx s.heap h'->Q () { s with heap:=h',toks:=s.toks+2 }): wpAny (model prog w) A (setAttr (.ref x) name v) Q E s:=by
 obtain⟨od,aac,hl⟩:=I.look;refine W.set_plain X aac hs (W.osa_open (s:={ s with toks:=s.toks+1 }) (r:=none) X aac hp ht fun b=>?_);obtain⟨cd,hc,vE⟩:=W.any_some hh;have hx:s.heap.get? x=some ⟨.ref C,some dx,.plain,#[]⟩:=I.obj;refine ae (aw (ae (ae (wpAny_loadPart hx (ae (W.Looks.here (s:={ s with toks:=s.toks+1 }) (W.looks_clsIn X hc) ?_))))));rw[vE];refine aw (a:=some dx) (ae (aw (ae ?_)));refine wpAny_nsSet1 (s:={ s with toks:=s.toks+1 }) I.ns fun h' BQ D3=>?_
 obtain⟨oD,esD,epD,hoD,hdD,hcD⟩:=BQ.count (PySem.Within.cons name v hw);refine ae (wpAny_lookBehind hoD (by rw[hdD];exact pastItsLine_dict (gV hcD (by rw[ba];exact G))) ?_);exact aw (h _ ⟨(D3.2 _ (aS I.ne)).trans I.obj,BQ,I.ne⟩ D3)
theorem HY{vs:List Value}(X:K.In s.heap)(hm:W.makesIn K C=true)
  (hi:W.findIn K (.ref C) "__init__"=some (some (.ref f))) (hf:W.typeIn K (.ref f)=some (.type "function"))
  (h:codeAny (model prog w) (A.under (.builtin "type.__call__" ⟨.ref C::vs,kw⟩)) (.call (.ref f) ⟨.ref (s.heap.objs.size+1):: vs,kw⟩) (W.InitBack (s.heap.objs.size+1) R)
   { s with heap:=(s.heap.push W.emptyDict).push (W.instObj C s.heap.objs.size) }):
  codeAny (model prog w) A (.call (.ref C) ⟨vs,kw⟩) R s:=by
 obtain⟨hh,g,d,t,os⟩:=s;exact W.make_core (W.makes_of X hm) (W.looks_findIn X hi) (fun self=>W.bind_fn X self hf) (.inl rfl) h
end
def bf(f:Str)(v:V):List (Str×V)->List (Str×V)
 |[]=>[(f,v)]
 |(g,x):: r=>if g=f then(g,v):: r else(g,x):: bf f v r
theorem bB(f g:Str)(v:V):∀ fs:List (Str×V),(bf f v fs).lookup g=if g=f then some v else fs.lookup g
 | []=>by
  show List.lookup g [(f,v)]=_
  by_cases h:g=f
  .have hb:(g==f)=true:=lI.mpr h
   simp only[List.lookup,hb,qp h]
  have hb:(g==f)=false:=jS.mpr h;simp only[List.lookup,hb,bX h]
 | (k, x):: r=>by
  have ih:=bB f g v r;rw[show bf f v ((k,x):: r)=(if k=f then(k,v):: r else(k,x):: bf f v r)from rfl]
  by_cases hk:k=f
  .rw[qp hk]
   by_cases h:g=k
   .have hb:(g==k)=true:=lI.mpr h
    simp only[List.lookup,hb,qp (h.trans hk)]
   have hb:(g==k)=false:=jS.mpr h;simp only[List.lookup,hb,bX (fun e:g=f=>h (e.trans hk.symm))]
  rw[bX hk]
  by_cases h:g=k
  .have hb:(g==k)=true:=lI.mpr h
   simp only[List.lookup,hb,bX (fun e:g=f=>hk (h.symm.trans e))]
  have hb:(g==k)=false:=jS.mpr h;simp only[List.lookup,hb];exact ih
theorem oJ(f:Str)(v:V):∀ fs:List (Str×V),f∈(bf f v fs).map (·.1)/\∀ g,g∈fs.map (·.1)->g∈(bf f v fs).map (·.1)
 |[]=>⟨by simp[bf],fun g h=>by simp at h⟩
 | (k,x):: r=>by
  obtain⟨i1,i2⟩:=oJ f v r;rw[show bf f v ((k,x):: r)=(if k=f then(k,v):: r else(k,x):: bf f v r)from rfl]
  by_cases hk:k=f
  .rw[qp hk]
   subst hk;exact⟨oz,fun g h=>by simpa using h⟩
  rw[bX hk];refine⟨?_,fun g h=>?_⟩
  .rw[b5]
   exact k_ _ i1
  rw[b5]at h ⊢;rcases ai.mp h with e|e
  .exact ai.mpr (.inl e)
  exact k_ _ (i2 g e)
theorem qw(f:Str)(v:V):∀ fs:List (Str×V),(bf f v fs).length <= fs.length+1
 |[]=>by simp[bf]
 | (k,x):: r=>by
  have ih:=qw f v r;rw[show bf f v ((k,x):: r)=(if k=f then(k,v):: r else(k,x):: bf f v r)from rfl]
  by_cases hk:k=f
  .rw[qp hk,ba,ba];exact G
  rw[bX hk,ba,ba];exact G
theorem mx.some_of{o:Option Value}(r:mx (some v) o):∃ u,o=some u/\RelV v u:=by
 cases o with
 |none=>exact(show False from r).elim
 |some u=>exact⟨u,Z,r⟩
theorem mx.none_of{o:Option Value}(r:mx none o):o=none:=by
 cases o with
 |none=>rfl
 |some u=>exact(show False from r).elim
theorem Eg(r:RelV v u):W.handedIn u=true:=by
 cases v with
 |non=>cases(show u=Value.none from r);rfl
 |bl b=>cases(show u=Value.bool b from r);rfl
 |int i=>obtain⟨t,e⟩:=(show ∃ t,u=Value.int i t from r);cases e;rfl
 |str x=>obtain⟨t,e⟩:=(show ∃ t,u=Value.str x t from r);cases e;rfl
 |byt b=>obtain⟨t,e⟩:=(show ∃ t,u=Value.bytes b t from r);cases e;rfl
 |flt b=>obtain⟨t,e⟩:=(show ∃ t,u=Value.float b t from r);cases e;rfl
 |ref a=>cases(show u=Value.ref a from r);rfl
 |ty n=>cases(show u=Value.type n from r);rfl
section
variable{fs fs':List (Str×V)}
theorem pQ(hok:mS P w H h)(e:H a=some (.ins C dx fs)):∃ mA,y7 h a dx C mA/\(∀ f,mx (fs.lookup f) (mA f))/\PySem.Within mA (fs.map (·.1))/\fs.length<=1000/\H dx=some (.own a):=by
 obtain⟨d,z,ne,ob,mA,n,r,q⟩:=(show fv P w H h a (.ins C dx fs)from hok a _ e)
 exact⟨mA,⟨ob,n,ne⟩,r,q,z,d⟩
end
structure z0(K:W.Frag)(C:Addr):Prop where
 pg:W.plainGet K C Str.empty=true
 hd:W.hasDictIn K C=true
 po:W.plainOver K C=true
 sa:W.findIn K (.ref C) "__setattr__"=some (some (.builtin "object.__setattr__"))
theorem z0.get(c:z0 K C)(f:Str):W.plainGet K C f=true:=c.pg
def iL(K:W.Frag)(C:Addr)(f:Str):Prop:=W.findIn K (.ref C) f=some none
theorem iL.PD{f:Str}(n:iL K C f):W.takerIn K C f=some none:=by
 unfold W.takerIn;rw[show W.findIn K (.ref C) f=some none from n]
 rfl
structure Meth(K:W.Frag)(C:Addr)(m:Str)(f:Addr):Prop where
 at_:W.findIn K (.ref C) m=some (some (.ref f))
 fn:W.isFn K (.ref f)=true
 kp:W.keepIn K (.ref f)=true
section
variable{fs:List (Str×V)}{f:Str}
theorem BL{b:Bool}(I:Inv X Y M H s)(e:H a=some (.ins C dx fs))(c:z0 X.K C)(n:iL X.K C f)(l:fs.lookup f=some v)(h:∀ u s',Inv X Y M H s'->RelV v u->Q u s'):wpAny (model X.prog X.w) A (getAttr (.ref a) f b) Q E s:=by
 obtain⟨mA,aab,r,_,_,_⟩:=pQ I.hok e;obtain⟨u,hu,ru⟩:=mx.some_of (v:=v) (o:=mA f) (by rw[<- l];exact r f);exact LQ I.kIn aab (c.get f) c.hd n hu (Eg ru) (h u _ (I.tok _) ru)
theorem rR{g:Addr}{pl:Sem Bool}{Q:Value×List Value->Shared->Prop}(I:Inv X Y M H s)(e:H a=some (.ins C dx fs))(c:z0 X.K C)(k:Meth X.K C m g)(l:fs.lookup m=none)(h:Q (.ref g,[.ref a]) s):wpAny (model X.prog X.w) A (getMethod (.ref a) m pl) Q E s:=by
 obtain⟨mA,aab,r,_,_,_⟩:=pQ I.hok e;have hn:mA m=none:=mx.none_of (by rw[<- l];exact r m);exact HX I.kIn aab (c.get m) k.at_ k.fn hn h
theorem BP{Q:Unit->Shared->Prop}(I:Inv X Y M H s)(e:H a=some (.ins C dx fs))(c:z0 X.K C)(n:iL X.K C f)(hl:fs.length<1000)(ry:RelV y u)(h:∀ s',Inv X Y M (upd H a (.ins C dx (bf f y fs))) s'->Q () s'):wpAny (model X.prog X.w) A (setAttr (.ref a) f u) Q E s:=by
 obtain⟨mA,aab,r,wi,_,ho⟩:=pQ I.hok e;have hz:(fs.map (·.1)).length <= sizeLine:=by rw[dn,sizeLine_eq];exact G
 refine LR I.kIn aab c.sa c.po n.PD c.hd wi hz fun h' O' sb=>h _ ?_
 have hd:∃ o,h'.get? dx=some o:=let ⟨o,_,_,e',_⟩:=O'.ns;⟨o,e'⟩;refine I.write (x:=a) (e:=dx) (by rw[e];exact True.intro) (.inr ho) (fun b q hb z=>(sb.2 b hb).trans z) hd ?_;refine⟨by rw[aB aab.ne];exact ho,?_,aab.ne,O'.obj,_,O'.ns,fun g=>?_,fun g hg=>?_⟩
 .have:=qw f y fs;exact G
 .show mx ((bf f y fs).lookup g) (if g=f then some u else mA g)
  rw[bB]
  by_cases q:g=f
  .rw[qp q,qp q];exact ry
  rw[bX q,bX q];exact r g
 by_cases q:g=f
 .rw[q];exact(oJ f y fs).1
 refine(oJ f y fs).2 g (wi g fun z=>hg ?_);show(if g=f then some u else mA g)=none;rw[bX q];exact z
theorem Inv.made(I:Inv X Y M H s):Inv X Y M (upd (upd H s.heap.objs.size (.own (s.heap.objs.size+1))) (s.heap.objs.size+1) (.ins C s.heap.objs.size [])) { s with heap:=(s.heap.push W.emptyDict).push (W.instObj C s.heap.objs.size) }:=by
 have e1:(s.heap.push W.emptyDict).get? s.heap.objs.size=some W.emptyDict:=Heap.get?_push_size s.heap rfl
 have e2:((s.heap.push W.emptyDict).push (W.instObj C s.heap.objs.size)).get? (s.heap.objs.size+1)=some (W.instObj C s.heap.objs.size):=by
  have:=Heap.get?_push_size (s.heap.push W.emptyDict) (o:=W.instObj C s.heap.objs.size) rfl
  rwa [ff]at this
 have e3:(s.heap.push W.emptyDict).Ns s.heap.objs.size (fun _=>none):=⟨W.emptyDict,#[],_,e1,rfl,(fun e he=>absurd he oz),fun _=>rfl⟩
 have I1:=I.laid (a:=s.heap.objs.size) (o:=.own (s.heap.objs.size+1)) (h':=s.heap.push W.emptyDict) (t':=s.toks) (fun b u q=>Heap.get?_push_of_some _ q) (qnr _) ⟨_,e1⟩;refine I1.laid (a:=s.heap.objs.size+1) (o:=.ins C s.heap.objs.size []) (t':=s.toks) (fun b u q=>Heap.get?_push_of_some _ q) (As (ff _ _)) ?_;have ne:s.heap.objs.size≠s.heap.objs.size+1:=bg (p9 _);refine⟨by rw[aB ne,ao],mr _,ne,e2,fun _=>none,(Heap.Ns1.of_empty e3).at fun o q=>Heap.get?_push_of_some _ q,fun _=>True.intro,fun y hy=>absurd rfl hy⟩
theorem Ma(hb:attributeBase e f env (eval e env)=eval e env)(h:wpAny (model prog w) A (eval e env) (fun o s₁=>wpAny (model prog w) A (getAttr o f true) Q E s₁) E s):wpAny (model prog w) A (eval (.Attribute e f pos) env) Q E s :=
 Attribute_any_ h (by rw[arm_eval_Attribute,hb])
end
inductive Wu(K:W.Frag)(f:Str)(Q:VK)(x:V)(H:Hp):Prop
 |mk(a C dx:Addr)(fs:List (Str×V))(v:V)(_:x=.ref a)(_:H a=some (.ins C dx fs))(_:z0 K C)(_:iL K C f)(_:fs.lookup f=some v)(_:Q v H)
def O9(K:W.Frag)(ta:TE)(f:Str):TE:=fun M H Q=>ta M H fun x H1=>Wu K f Q x H1
def R4(K:W.Frag)(ta tv:TE)(f:Str):TS:=fun D M H=>tv M H fun y H1=>ta M H1 fun x H2=>∃ a C dx fs,x=.ref a/\H2 a=some (.ins C dx fs)/\z0 K C/\iL K C f/\fs.length<1000 /\
 D.nx M (upd H2 a (.ins C dx (bf f y fs)))
section
variable{o:Expr}{f:Str}
theorem bF(he:PE X e ta)(hb:attributeBase e f X.env (eval e X.env)=eval e X.env):PE X (.Attribute e f pos) (O9 X.K ta f):=by
 intro Y s M H Q I h;refine Ma hb (thn (he Y s M H _ I h) fun u s1 ⟨x,H1,I1,rx,a,C,dx,fs,v,ex,ea,c,n,l,q⟩=>?_);subst ex;obtain rfl:u=Value.ref a:=rx;exact BL I1 ea c n l fun u' s2 I2 ru=>⟨v,H1,I2,ru,q⟩
theorem iY(ha:PE X o ta)(hv:PE X value tv)(hs:swapsWith value (some (.Attribute o f pos')) pos.line X.env=pure false):PS X (.Assign [.Attribute o f pos'] value pos) (R4 X.K ta tv f):=by
 intro Y s M H D I h;refine plainObj_wpAny_Assign_Attribute (thn (hv Y s M H _ I h) fun u s1 ⟨y,H1,I1,ry,q⟩=>thn (ha Y s1 M H1 _ I1 q) fun ov s2 ⟨x,H2,I2,rx,a,C,dx,fs,ex,ea,c,n,l,q2⟩=>?_) hs;subst ex;obtain rfl:ov=Value.ref a:=rx;exact BP I2 ea c n l ry fun s3 I3=>⟨M,_,I3,q2⟩
end
section
variable{c:Value}{b:Bool}
inductive pw(K:W.Frag)(H:Hp):V->Value->Prop where
 |non:pw K H .non (.type "NoneType")
 |bl (x:Bool):pw K H (.bl x) (.type "bool")
 |int (i:Int):pw K H (.int i) (.type "int")
 |str (x:Str):pw K H (.str x) (.type "str")
 |flt (x:UInt64):pw K H (.flt x) (.type "float")
 |lst {a:Addr} {xs:List V} (e:H a=some (.lst xs)):pw K H (.ref a) (.type "list")
 |xt {a:Addr} {o:Obj} {xs:List V} (e:H a=some (.xt o (.lst xs))):pw K H (.ref a) (.type "list")
 |tup {a:Addr} {xs:List V} (e:H a=some (.tup xs)):pw K H (.ref a) (.type "tuple")
 |dK {a:Addr} {kvs:List (Key×V)} (e:H a=some (.dK kvs)):pw K H (.ref a) (.type "dict")
 |dT {a:Addr} {kvs:List (List Key×V)} (e:H a=some (.dT kvs)):pw K H (.ref a) (.type "dict")
 | ins {a C dx:Addr} {fs:List (Str×V)} (e:H a=some (.ins C dx fs)) (cl:z0 K C) (ha:W.findIn K (.ref C) "__class__"=some (some (.builtin "object.__class__")))
   (hn:W.specialIn K (.builtin "object.__class__") "__get__"=some (some (.builtin "getset_descriptor.__get__"))) (ZJ:W.takesIn K (.builtin "object.__class__")=some true)
   (hm:W.mroIn K C (.type "object")=some true):pw K H (.ref a) (.ref C)
theorem Eh{x:V}{t:Value}(I:Inv X Y M H s)(rx:RelV x u)(ty:pw X.K H x t)(e:W.kitOne X.K t c=some b)(h:∀ tk,Q (.bool b) { s with toks:=tk }): wpAny (model X.prog X.w) A (call (.builtin "isinstance") [u,c]) Q E s:=by
 cases ty with
 |non=>cases(show u=Value.none from rx);exact ku W.kitx_none I.kIn True.intro e (fun z=>nomatch z) h
 |bl y=>cases(show u=Value.bool y from rx);exact ku W.kitx_bool I.kIn True.intro e (fun z=>nomatch z) h
 |int i=>obtain⟨t,q⟩:=(show ∃ t,u=Value.int i t from rx);cases q;exact ku W.kitx_int I.kIn True.intro e (fun z=>nomatch z) h
 |str y=>obtain⟨t,q⟩:=(show ∃ t,u=Value.str y t from rx);cases q;exact ku W.kitx_str I.kIn True.intro e (fun z=>nomatch z) h
 |flt y=>obtain⟨t,q⟩:=(show ∃ t,u=Value.float y t from rx);cases q;exact ku W.kitx_float I.kIn True.intro e (fun z=>nomatch z) h
 | @lst a xs ea =>
  cases(show u=Value.ref a from rx);obtain⟨_,_,n,_,h1⟩:=(show fv X.prog X.w H s.heap a (.lst xs)from I.hok a _ ea)
  exact ku W.kitx_list I.kIn ⟨_,h1,rfl⟩ e (fun z=>nomatch z) h
 | @xt a ob xs ea =>
  cases(show u=Value.ref a from rx);obtain⟨_,_,_,n,_,h1⟩:=(show fv X.prog X.w H s.heap a (.xt ob (.lst xs))from I.hok a _ ea)
  exact ku W.kitx_list I.kIn ⟨_,h1,rfl⟩ e (fun z=>nomatch z) h
 | @tup a xs ea =>
  cases(show u=Value.ref a from rx);obtain⟨_,_,_,p⟩:=(show fv X.prog X.w H s.heap a (.tup xs)from I.hok a _ ea)
  obtain⟨o,h1,h2,_⟩:=p;exact ku W.kitx_tuple I.kIn ⟨o,h1,h2⟩ e (fun z=>nomatch z) h
 | @dK a kvs ea =>
  cases(show u=Value.ref a from rx);obtain⟨_,_,vs,_,p⟩:=(show fv X.prog X.w H s.heap a (.dK kvs)from I.hok a _ ea)
  obtain⟨o,es,ep,h1,h2,_⟩:=p;exact ku W.kitx_dict I.kIn ⟨o,h1,h2.1⟩ e (fun z=>nomatch z) h
 | @dT a kvs ea =>
  cases(show u=Value.ref a from rx);obtain⟨_,_,xs,_,o,es,ep,h1,h2,_⟩:=(show fv X.prog X.w H s.heap a (.dT kvs)from I.hok a _ ea)
  exact ku W.kitx_dict I.kIn ⟨o,h1,h2.1⟩ e (fun z=>nomatch z) h
 | @ins a C dx fs ea cl ha hn ZJ hm =>
  cases(show u=Value.ref a from rx);obtain⟨mA,aab,_⟩:=pQ I.hok ea;obtain⟨od,aac,_⟩:=aab.look;exact ku (W.kitx_own (cl.get _) cl.hd ha hn ZJ hm) I.kIn aac e (fun z=>nomatch z) h
end
structure fE(k:Nat)(A:Around):Prop where
 hd:A.handled=none
 dp:A.depth+3*k+5<recursionLimit
 un:A.units+16*k+200<cLine
theorem fE.mono{k:Nat}(r:fE k A)(h:j<=k):fE j A:=⟨r.hd,by have:=r.dp;exact G,by have:=r.un;exact G⟩
theorem fE.deeper{k:Nat}(r:fE (k+1) A)(env:Env):fE k (A.deeper env):=
 ⟨r.hd,by have:=r.dp;show A.depth+1+3*k+5<_;exact G,by have:=r.un;show A.units+3+16*k+200<_;exact G⟩
theorem BR:(A.under (.builtin "type.__call__" ⟨.ref C::us,kw⟩)).depth=A.depth+1:=by
 first|rfl|simp[Around.under,Code.weight,Code.isCreation,Code.isGuard,Code.isCaller,Code.frames,Code.isFrame,guardIds]
theorem BV:(A.under (.builtin "type.__call__" ⟨.ref C::us,kw⟩)).units=A.units+1:=by
 first|rfl|simp[Around.under,Code.cUnits,Code.frames,Code.isFrame]
theorem fE.make{k:Nat}(r:fE (k+1) A)(C:Addr)(us:List Value)(kw:List (Str×Value)):fE k (A.under (.builtin "type.__call__" ⟨.ref C::us,kw⟩)):=
 ⟨r.hd,by have:=r.dp;rw[BR];exact G,by have:=r.un;rw[BV];exact G⟩
theorem fE.depth{k:Nat}(r:fE k A):A.depth<recursionLimit:=by have:=r.dp;exact G
theorem fE.units{k:Nat}(r:fE k A):A.units+64<cLine:=by have:=r.un;exact G
def oK:TA:=fun _ H Q=>Q [] H
def vV(ta:TE)(tr:TA):TA:=fun M H Q=>ta M H fun x H1=>tr M H1 fun xs H2=>Q (x::xs) H2
section
variable{t:TA}
theorem aj:PA X [] oK:=fun _ _ _ _ H Q I h=>Calls.spliced_nil ⟨[],H,I,.nil,h⟩
theorem aa(ha:PE X e te)(hr:PA X es t)(hs:starEach (e::es) X.env=(false,eval e X.env):: starEach es X.env:=by rfl):PA X (e::es) (vV te t):=by
 intro pos Y s M H Q I h;rw[hs];show wpAny _ _ (spliced ((false,eval e X.env):: backTo pos (starEach es X.env))) _ _ s;refine Calls.spliced_cons (thn (ha Y s M H _ I h) fun u s1 ⟨x,H1,I1,r1,q1⟩=>?_);exact thn (hr pos Y s1 M H1 _ I1 q1) fun us s2 ⟨xs,H2,I2,r2,q2⟩=>⟨x::xs,H2,I2,.cons r1 r2,q2⟩
def R5(t:TA):TE:=fun M H Q=>t M H fun xs H1=>xs.length<=sizeLine/\∀ p,H1 p=none->Q (.ref p) (upd H1 p (.tup xs))
def R6(t:TA):TE:=fun M H Q=>t M H fun xs H1=>xs.length<=sizeLine/\∀ p,H1 p=none->Q (.ref p) (upd H1 p (.lst xs))
theorem bu{x1}(h:PA X es t):PE X (.Tuple es x1 pos) (R5 t):=by
 intro Y s M H Q I hq;refine wpAny_Tuple_spliced (thn (h pos Y s M H _ I hq) fun us s1 ⟨xs,H1,I1,r,z,q⟩=>⟨by rw[<- r.length];exact z,?_⟩);have hf:H1 s1.heap.objs.size=none:=I1.hok.fresh (qnr _);refine⟨.ref s1.heap.objs.size,upd H1 s1.heap.objs.size (.tup xs),I1.laid (t':=s1.toks) (fun b u e=>Heap.get?_push_of_some _ e) (qnr _) ?_,Z,q _ hf⟩;exact⟨z,us,r,⟨_,Heap.get?_push_size _ rfl,Z,_,Z⟩⟩
theorem bx(h:PA X es t):PE X (.List es pos) (R6 t):=by
 intro Y s M H Q I hq;refine wpAny_List_spliced (thn (h pos Y s M H _ I hq) fun us s1 ⟨xs,H1,I1,r,z,q⟩=>⟨by rw[<- r.length];exact z,?_⟩);have hf:H1 s1.heap.objs.size=none:=I1.hok.fresh (qnr _);refine⟨.ref s1.heap.objs.size,upd H1 s1.heap.objs.size (.lst xs),I1.laid (t':=s1.toks) (fun b u e=>Heap.get?_push_of_some _ e) (qnr _) ?_,Z,q _ hf⟩;exact⟨z,us,0,r,Heap.get?_push_size _ rfl⟩
end
abbrev Sp:=List V->Hp->VK->XK->Prop
end L2
variable{sp:L2.Sp}
namespace L2
open PySem PySem.Spec PyProof.Rows
abbrev xA:=List Env->Hp->Shared->XK->Value->Shared->Prop
structure y_(P:Program)(w:World)(K:W.Frag)(mg:Str->Option Value)(base:Heap)(A:Around)(outer:List Env)(s:Shared)(H:Hp):Prop where
 frames:A.frames=some outer
 mod:Mod K mg base
 bs:∀ b o,base.get? b=some o->s.heap.get? b=some o/\H b=none
 EF:base.objs.size<=s.heap.objs.size
 oI:s.heap.FunFrames base outer
 II:∀ b∈kz outer,H b=none
 hok:mS P w H s.heap
 bare:AllBare s.gens
def CE(outer:List Env)(P:Program)(w:World)(H:Hp)(s:Shared)(Q:VK)(u:Value)(s':Shared):Prop :=
 ∃ v J,s'.os=s.os/\AllBare s'.gens/\Un (kz outer) [] H J s.heap s'.heap/\mS P w J s'.heap/\RelV v u/\Q v J
def CR(CX:xA)(outer:List Env)(P:Program)(w:World)(H:Hp)(s:Shared)(Q:VK)(E:XK)(r:Result)(s':Shared):Prop :=
 match r with
 | .ok (.ret u)=>CE outer P w H s Q u s'
 | .ok _=>False
 | .error e=>CX outer H s E e s'
structure g_(P:Program)(w:World)(K:W.Frag)(mg:Str->Option Value)(base:Heap)(CX:xA)(k:Nat)(f:Addr)(fd:FuncData)(ps:List Str)(sp:Sp):Prop where
 len:∀ vs H Q E,sp vs H Q E->vs.length=ps.length
 run:∀(A:Around)(outer:List Env)(s:Shared)(H:Hp)(args:Args)(us:List Value)(vs:List V)(Q:VK)(E:XK),fE k A->y_ P w K mg base A outer s H->BindsTo s fd args (ps.zip us)->Vals vs us->sp vs H Q E ->
  codeAny (model P w) A (.call (.ref f) args) (CR CX outer P w H s Q E) s
theorem g_.mono{P:Program}{w:World}{K:W.Frag}{mg:Str->Option Value}{base:Heap}{CX:xA}{j k:Nat}{f:Addr}{fd:FuncData}{ps:List Str}{sp:Sp}(F:g_ P w K mg base CX j f fd ps sp)(h:j<=k): g_ P w K mg base CX k f fd ps sp:=⟨F.len,fun A outer s H args us vs Q E hr=>F.run A outer s H args us vs Q E (hr.mono h)⟩
theorem g_.imp{CX:xA}{k:Nat}{Zj:Sp}(F:g_ P w K mg base CX k f fd ps sp)(h:∀ vs H Q E,Zj vs H Q E->sp vs H Q E):g_ P w K mg base CX k f fd ps Zj :=
 ⟨fun vs H Q E q=>F.len vs H Q E (h _ _ _ _ q),fun A outer s H args us vs Q E hr he hb hv hs=>F.run A outer s H args us vs Q E hr he hb hv (h _ _ _ _ hs)⟩
theorem y_.make(e:y_ P w K mg base A outer s H)(C:Addr)(us:List Value)(kw:List (Str×Value)): y_ P w K mg base (A.under (.builtin "type.__call__" ⟨.ref C::us,kw⟩)) outer s H:=⟨by first|exact e.frames | (simpa[Around.under,Code.envs,Code.isFrame,pushEnvs]using e.frames),e.mod,e.bs,e.EF,e.oI,e.II,e.hok,e.bare⟩
theorem Inv.NO(I:Inv X Y M H s):y_ X.prog X.w X.K X.mg X.base X.A X.stack s H :=
 ⟨I.ok.frames,I.ok.mod,I.bs,gV I.ok.EF I.sz,I.stack,I.mP,I.hok,I.bare⟩
theorem Inv.after{Q:VK}(I:Inv X Y M H s)(h:CE X.stack X.prog X.w H s Q u s'):EP X Y M Q u s':=by
 obtain⟨v,J,os,bare,un,hok,r,q⟩:=h;obtain⟨hh,g,d,t,os'⟩:=s';obtain rfl:os'=s.os:=os;exact⟨v,J,I.call (h':=hh) (g':=g) (d':=d) (t':=t) (ch:=[]) un hok bare (fun b z=>absurd z oz),r,q⟩
def BW(sp:Sp)(dvs:List V)(E:XK)(t:TA):TE:=fun M H Q=>t M H fun vs H1=>sp (vs++dvs) H1 Q E
inductive QU(C:Addr)(m:Str)(x:V)(H:Hp)(R:Prop):Prop
 |mk(a dx:Addr)(fs:List (Str×V))(_:x=.ref a)(_:H a=some (.ins C dx fs))(_:fs.lookup m=none)(_:R)
def vW(C:Addr)(m:Str)(sp:Sp)(dvs:List V)(E:XK)(ta:TE)(t:TA):TE:=fun M H Q=>ta M H fun x H1=>QU C m x H1 (t M H1 fun vs H2=>sp (x::(vs++dvs)) H2 Q E)
def vX(C:Addr)(sp:Sp)(dvs:List V)(E:XK)(t:TA):TE:=fun M H Q=>t M H fun vs H1=>∀ x dx,H1 x=none->H1 dx=none->dx≠x ->
 sp (.ref x::(vs++dvs)) (upd (upd H1 dx (.own x)) x (.ins C dx [])) (fun v H2=>v=.non /\ Q (.ref x) H2) E
def Binds(K:W.Frag)(fd:FuncData)(ps:List Str)(ds:List Value):Prop :=
 ∀(s:Shared)(us:List Value),K.In s.heap->(us++ds).length=ps.length->BindsTo s fd ⟨us,[]⟩ (ps.zip (us++ds))
theorem Binds.all(h:∀ us:List Value,us.length=ps.length->bindArgs fd ⟨us,[]⟩=pure (ps.zip us)):Binds K fd ps []:=fun s us _ hl=>by
 rw[cn]at hl ⊢;exact .of_eq (h us hl)
def eE(CX:xA)(X:Cx)(E:XK):Prop:=∀(Y:List (Addr×Obj))(M:St)(H:Hp)(s:Shared)(e:Value)(s':Shared),Inv X Y M H s->CX X.stack H s E e s'->X.xe e s'
section
variable{CX:xA}{k:Nat}{E:XK}{o:Expr}{t:TA}
theorem rT{Q:VK}(F:g_ X.prog X.w X.K X.mg X.base CX k f fd ps sp)(hr:fE k X.A)(hb:Binds X.K fd ps ds)(hd:Vals dvs ds)(hx:eE CX X E)(I:Inv X Y M H s)(r:Vals vs us)(h:sp (vs++dvs) H Q E):wpAny (model X.prog X.w) X.A (call (.ref f) us) (EP X Y M Q) X.xe s:=by
 have r2:Vals (vs++dvs) (us++ds):=r.append hd;have hl:(us++ds).length=ps.length:=by rw[<- r2.length];exact F.len _ _ _ _ h
 refine wpAny_call (va (F.run X.A X.stack s H ⟨us,[]⟩ (us++ds) (vs++dvs) Q E hr I.NO (hb s us I.kIn hl) r2 h) fun r s' hq=>?_);cases r with
 |error e=>exact hx Y M H s e s' I hq
 | ok fl =>
  cases fl with
  |ret u=>exact I.after hq
  |next=>exact False.elim hq
  |brk=>exact False.elim hq
  |cont=>exact False.elim hq
theorem pR(F:g_ X.prog X.w X.K X.mg X.base CX k f fd ps sp)(hr:fE k X.A)(hg:Gl X x)(hm:X.mg x=some (.ref f))(hk:W.keepIn X.K (.ref f)=true)(hb:Binds X.K fd ps ds)(hd:Vals dvs ds)(hx:eE CX X E)
  (ha:PA X (e::es) t) (mi:(x==("__debug__":Str))=false:=by decide) (he:starEach (e::es) X.env=(false,eval e X.env):: starEach es X.env:=by rfl) (ij:(backTo pos (starEach es X.env)).any (·.1)=false:=by rfl):
  PE X (.Call (.Name x p) (e::es) [] pos) (BW sp dvs E t):=by
 intro Y s M H Q I h;refine de (jl I hg hm ?_ mi);refine vc (h₀:=X.base) I.ok.mod.Kb hk (thn (ha pos Y s M H _ I h) fun us s1 ⟨vs,H1,I1,r,q⟩=>⟨I1.kIn,?_⟩) he ij;exact rT F hr hb hd hx I1 r q
theorem Mf{pl:Sem Bool}(he:PE X o ta)(c:z0 X.K C)(hm:Meth X.K C m f)(F:g_ X.prog X.w X.K X.mg X.base CX k f fd ps sp)(hr:fE k X.A)(hb:Binds X.K fd ps ds)(hd:Vals dvs ds)(hx:eE CX X E)(ha:PA X (e::es) t)
  (ic:starEach (e::es) X.env=(false,eval e X.env):: starEach es X.env:=by rfl) (ij:(backTo pos (starEach es X.env)).any (·.1)=false:=by rfl)
  (ht:eval (.Call (.Attribute o m apos) (e::es) [] pos) X.env=(do
   let ov <- eval o X.env
   standAt apos.atName
   let (f,first) <- holding [ov] (getMethod ov m pl)
   callWith pos f first (backTo pos (starEach (e::es) X.env)) (backToKw pos (keywordEach [] X.env))):=by rfl):
  PE X (.Call (.Attribute o m apos) (e::es) [] pos) (vW C m sp dvs E ta t):=by
 intro Y s M H Q I h;refine W.methodCall_KW (pl:=pl) (thn (he Y s M H _ I h) fun u s1 ⟨x,H1,I1,rx,a,dx,fs,ex,ea,l,q⟩=>?_) ht;subst ex;obtain rfl:u=Value.ref a:=rx;refine rR I1 ea c hm l ?_;refine vc (first:=[.ref a]) (h₀:=X.base) I.ok.mod.Kb hm.kp (thn (ha pos Y s1 M H1 _ I1 q) fun us s2 ⟨vs,H2,I2,r,q2⟩=>⟨I2.kIn,?_⟩) ic ij;exact rT (us:=.ref a::us) (vs:=.ref a::vs) F hr hb hd hx I2 (.cons rfl r) q2
theorem Ia{pl:Sem Bool}(he:PE X o ta)(c:z0 X.K C)(hm:Meth X.K C m f)(F:g_ X.prog X.w X.K X.mg X.base CX k f fd ps sp)(hr:fE k X.A)(hb:Binds X.K fd ps ds)(hd:Vals dvs ds)(hx:eE CX X E)
  (ht:eval (.Call (.Attribute o m apos) [] [] pos) X.env=(do
   let ov <- eval o X.env
   standAt apos.atName
   let (f,first) <- holding [ov] (getMethod ov m pl)
   callWith pos f first (backTo pos (starEach [] X.env)) (backToKw pos (keywordEach [] X.env))):=by rfl):
  PE X (.Call (.Attribute o m apos) [] [] pos) (vW C m sp dvs E ta oK):=by
 intro Y s M H Q I h;refine W.methodCall_KW (pl:=pl) (thn (he Y s M H _ I h) fun u s1 ⟨x,H1,I1,rx,a,dx,fs,ex,ea,l,q⟩=>?_) ht;subst ex;obtain rfl:u=Value.ref a:=rx;refine rR I1 ea c hm l ?_;exact W.callWith_K0 (first:=[.ref a]) I1.kIn hm.kp (rT (us:=[.ref a]) (vs:=[.ref a]) F hr hb hd hx I1 (.cons rfl .nil) q)
structure Mk(K:W.Frag)(C f:Addr):Prop where
 makes:W.makesIn K C=true
 init:W.findIn K (.ref C) "__init__"=some (some (.ref f))
 fn:W.isFn K (.ref f)=true
 kp:W.keepIn K (.ref C)=true
theorem wJ{Q:VK}(aad:Mk X.K C f)(F:g_ X.prog X.w X.K X.mg X.base CX k f fd ps sp)(hr:fE (k+1) X.A)(hb:Binds X.K fd ps ds)(hd:Vals dvs ds)(hx:eE CX X E)(I:Inv X Y M H s)(r:Vals vs us)(h:∀ x dx,H x=none->H dx=none->dx≠x->sp (.ref x::(vs++dvs)) (upd (upd H dx (.own x)) x (.ins C dx [])) (fun v H2=>v=.non /\ Q (.ref x) H2) E): wpAny (model X.prog X.w) X.A (call (.ref C) us) (EP X Y M Q) X.xe s:=by
 have hq:=h (s.heap.objs.size+1) s.heap.objs.size (I.hok.fresh (Nat.le_succ _)) (I.hok.fresh (qnr _)) (bg (p9 _));have I2:=Inv.made (C:=C) I;have r2:Vals (V.ref (s.heap.objs.size+1):: (vs++dvs)) (Value.ref (s.heap.objs.size+1):: (us++ds)):=.cons rfl (r.append hd)
 have hl:(Value.ref (s.heap.objs.size+1):: us++ds).length=ps.length:=by
  have e:=r2.length;rw[F.len _ _ _ _ hq]at e;exact e.symm
 refine wpAny_call (HY (f:=f) I.kIn aad.makes aad.init (lI.mp aad.fn) (va (F.run _ X.stack _ _ ⟨Value.ref (s.heap.objs.size+1):: us,[]⟩ (Value.ref (s.heap.objs.size+1):: (us++ds)) _ _ E (hr.make C us [])
  (I2.NO.make C us []) (hb _ (Value.ref (s.heap.objs.size+1):: us) I2.kIn hl) r2 hq) fun r s' RY=>?_))
 cases r with
 |error e=>exact hx Y M _ _ e s' I2 RY
 | ok fl =>
  cases fl with
  | ret u =>
   obtain⟨v,J,I3,rv,ev,q3⟩:=I2.after RY;subst ev;exact⟨rv,⟨V.ref (s.heap.objs.size+1),J,I3,Z,q3⟩⟩
  |next=>exact False.elim RY
  |brk=>exact False.elim RY
  |cont=>exact False.elim RY
theorem Mg(aad:Mk X.K C f)(F:g_ X.prog X.w X.K X.mg X.base CX k f fd ps sp)(hr:fE (k+1) X.A)(hg:Gl X x)(hm:X.mg x=some (.ref C))(hb:Binds X.K fd ps ds)(hd:Vals dvs ds)(hx:eE CX X E)
  (ha:PA X (e::es) t) (mi:(x==("__debug__":Str))=false:=by decide) (he:starEach (e::es) X.env=(false,eval e X.env):: starEach es X.env:=by rfl) (ij:(backTo pos (starEach es X.env)).any (·.1)=false:=by rfl):
  PE X (.Call (.Name x p) (e::es) [] pos) (vX C sp dvs E t):=by
 intro Y s M H Q I h;refine de (jl I hg hm ?_ mi);refine vc (h₀:=X.base) I.ok.mod.Kb aad.kp (thn (ha pos Y s M H _ I h) fun us s1 ⟨vs,H1,I1,r,q⟩=>⟨I1.kIn,?_⟩) he ij;exact wJ aad F hr hb hd hx I1 r q
theorem Ib(aad:Mk X.K C f)(F:g_ X.prog X.w X.K X.mg X.base CX k f fd ps sp)(hr:fE (k+1) X.A)(hg:Gl X x)(hm:X.mg x=some (.ref C))(hb:Binds X.K fd ps ds)(hd:Vals dvs ds)(hx:eE CX X E)
  (mi:(x==("__debug__":Str))=false:=by decide):PE X (.Call (.Name x p) [] [] pos) (vX C sp dvs E oK):=by
 intro Y s M H Q I h;refine de (jl I hg hm ?_ mi);exact W.callWith_K0 I.kIn aad.kp (wJ (us:=[]) aad F hr hb hd hx I .nil h)
end
structure ck(N P:List Str)(sc:Scope):Prop where
 kind:sc.kind=.function
 co:sc.isCoroutine=false
 gen:sc.isGenerator=false
 nd:N.Nodup
 pre:N.take P.length=P
 par:∀ x∈P,sc.names.lookup x=some .local \/ sc.names.lookup x=some .cell
 Mn:∀ y∈sc.names,y.2≠.free
theorem kG{l:List Str}(h:l.Nodup:=by decide +kernel):l.Nodup:=h
theorem eP{P:List Str}(h1:sc.kind=.function:=by rfl)(h2:sc.isCoroutine=false:=by rfl)(h3:sc.isGenerator=false:=by rfl)(h4:N.Nodup:=by decide +kernel)(h5:N.take P.length=P:=by rfl)(h6:∀ x∈P,sc.names.lookup x=some .local \/ sc.names.lookup x=some .cell:=by decide +kernel)(h7:∀ y∈sc.names,y.2≠.free:=by decide +kernel):ck N P sc:=⟨h1,h2,h3,h4,h5,h6,h7⟩
theorem uJ{kindOf:Str->Option NameKind}{x:Str}:∀{binds:List (Str×Value)}{m:Str->Option Value},(∀ v,(x,v)∉binds)->bindL kindOf binds m x=m x
 |[],_,_=>rfl
 | (n,v):: r,m,h=>by
  unfold bindL;rw[uJ fun w hw=>h w (k_ _ hw)]
  split
  .have:x≠n:=by rintro rfl;exact h v qms
   simp[this]
  rfl
theorem uK{kindOf:Str->Option NameKind}{x:Str}:∀{binds:List (Str×Value)}{m:Str->Option Value},(∀ v,(x,v)∉binds)->bindC kindOf binds m x=m x
 |[],_,_=>rfl
 | (n,v):: r,m,h=>by
  unfold bindC;rw[uK fun w hw=>h w (k_ _ hw)]
  split
  .rfl
  have:x≠n:=by rintro rfl;exact h v qms
  simp[this]
theorem uL{kindOf:Str->Option NameKind}{x:Str}{v:Value}:∀{P:List Str}{vs:List Value}{i:Nat}{m:Str->Option Value},P.Nodup->P[i]?=some x->vs[i]?=some v->kindOf x=some .local -> bindL kindOf (P.zip vs) m x=some v
 |[],_,_,_,_,h,_,_=>by simp at h
 |_::_,[],_,_,_,_,h,_=>by simp at h
 | p::P,w::vs,0,m,nd,h1,h2,hk=>by
  simp at h1 h2;subst h1;subst h2;show bindL kindOf ((p,w):: P.zip vs) m p=_;unfold bindL;rw[uJ fun v hv=>(eW.mp nd).1 (ER hv).1,qp hk];simp
 | p::P,w::vs,i+1,m,nd,h1,h2,hk=>by
  show bindL kindOf ((p,w):: P.zip vs) m x=_;unfold bindL;exact uL (i:=i) (eW.mp nd).2 (by simpa using h1) (by simpa using h2) hk
theorem uM{kindOf:Str->Option NameKind}{x:Str}{v:Value}:∀{P:List Str}{vs:List Value}{i:Nat}{m:Str->Option Value},P.Nodup->P[i]?=some x->vs[i]?=some v->kindOf x≠some .local -> bindC kindOf (P.zip vs) m x=some v
 |[],_,_,_,_,h,_,_=>by simp at h
 |_::_,[],_,_,_,_,h,_=>by simp at h
 | p::P,w::vs,0,m,nd,h1,h2,hk=>by
  simp at h1 h2;subst h1;subst h2;show bindC kindOf ((p,w):: P.zip vs) m p=_;unfold bindC;rw[uK fun v hv=>(eW.mp nd).1 (ER hv).1,bX hk];simp
 | p::P,w::vs,i+1,m,nd,h1,h2,hk=>by
  show bindC kindOf ((p,w):: P.zip vs) m x=_;unfold bindC;exact uM (i:=i) (eW.mp nd).2 (by simpa using h1) (by simpa using h2) hk
def start(N:List Str)(vs:List V):St:=vs.map some++List.replicate (N.length-vs.length) none
def cj(CX:xA)(P:Program)(w:World)(K:W.Frag)(mg:Str->Option Value)(base:Heap)(N:List Str)(qual:Str)(scope:Scope)(f:Addr)(cd:Value)(A:Around)(outer:List Env)(s:Shared)(H:Hp)(E:XK):Cx where
 prog:=P
 w:=w
 K:=K
 mg:=mg
 base:=base
 A:=A.deeper (envOfC qual scope s.heap.objs.size f cd)
 N:=N
 s₀:=s
 H₀:=H
 env:=envOfC qual scope s.heap.objs.size f cd
 outer:=outer
 stack:=envOfC qual scope s.heap.objs.size f cd::outer
 ex:=[]
 calm:=true
 fn:=fun _=>true
 pn:=[]
 xe:=fun e s'=>wpAny (model P w) (A.deeper (envOfC qual scope s.heap.objs.size f cd)) (leaving (envOfC qual scope s.heap.objs.size f cd) e) (fun _ V6=>CX outer H s E e V6) (fun e' V6=>CX outer H s E e' V6) s'
theorem wL(h:sc.names.lookup x=some .cell):∃ c,(cellsFrom n sc.names []).lookup x=some c:=by
 have q:=W.cellsFrom_some sc.names n [] (.inl h);exact kg.mp q
theorem Ei{CX:xA}{E:XK}(S:ck N ps scope)(hd:A.handled=none)(e0:y_ P w K mg base A outer s H)(hl:vs.length=ps.length)(r:Vals vs us)(x:InCallC s s.heap.objs.size (bindL (envOfC qual scope s.heap.objs.size f cd).kindOf (ps.zip us) fun _=>none) (cellsFrom (s.heap.objs.size+1) scope.names []) (bindC (envOfC qual scope s.heap.objs.size f cd).kindOf (ps.zip us) fun _=>none) s1): Inv (cj CX P w K mg base N qual scope f cd A outer s H E) [] (start N vs) H s1:=by
 have ij:ps.length<=N.length:=by have:=b_ List.length S.pre;rw[bp]at this;exact G
 obtain⟨h1,tk,rfl,hk⟩:=x.done;have QN:∀ b:Addr,b∉(cj CX P w K mg base N qual scope f cd A outer s H E).ex:=fun b z=>absurd (show b∈([]:List Addr)from z) oz
 refine⟨⟨e0.mod,S.kind,rfl,rfl,qnr _,fun y z c h1 h2=>?_,fun y hy=>?_,fun y c _ h=>?_,fun _=>hd,Around.frames_deeper e0.frames,.inr ⟨rfl,rfl⟩,fun b z=>absurd z (QN b),e0.bs,e0.EF,fun b _ _=>QN b,fun b z=>absurd z (QN b),e0.oI,e0.II⟩,
  rfl,e0.bare,Un.kept hk,⟨_,x.toInCall.ns,fun i y v h1 h2 h3=>?_⟩,fun y c h=>⟨_,x.cell y c h⟩,e0.hok.fresh (qnr _),fun y c h=>?_,fun p hp=>absurd (show p∈([]:List (Addr×Obj))from hp) oz,e0.hok.kept hk,?_⟩
 .exact name_of_addr x.apart (PySem.mem_of_lookup h1) (PySem.mem_of_lookup h2)
 .have hy:scope.names.lookup y=some .cell \/ scope.names.lookup y=some .free:=hy
  rcases hy with hy|hy
  .exact wL hy
  exact absurd rfl (S.Mn _ (PySem.mem_of_lookup hy))
 .exact mI (x.above y c (PySem.mem_of_lookup h))
 .have hi:i<vs.length:=by
   unfold start at h2
   by_cases hi:i<vs.length
   .exact hi
   rw[List.getElem?_append_right (by simpa using hi)]at h2;rw[List.getElem?_replicate]at h2
   split at h2<;>cases h2
  have ha:vs[i]?=some v:=by
   unfold start at h2;rw[List.getElem?_append_left (by simpa using hi),lS]at h2;cases e:vs[i]? with
   |none=>rw[e]at h2;cases h2
   |some a=>rw[e]at h2;cases h2;rfl
  obtain⟨u,hu,rv⟩:=r.get ha
  have hp:ps[i]?=some y:=by
   rw[<- S.pre,List.getElem?_take_of_lt G];exact h1
  have Zw:ps.Nodup:=by rw[<- S.pre];exact S.nd.sublist (List.take_sublist _ _)
  refine⟨u,rv,?_⟩;rcases S.par y (qB hp)with k|k
  .exact .inl ⟨k,uL Zw hp hu k⟩
  obtain⟨c,e⟩:=wL (n:=s.heap.objs.size+1) k;refine .inr ⟨.inl k,c,e,?_⟩;have q:=x.cell y c e;rw[uM Zw hp hu (by show scope.names.lookup y≠_;rw[k];decide)]at q;exact q
 .exact e0.hok.fresh (mI (x.above y c (PySem.mem_of_lookup h)))
 unfold start;show _=N.length;rw[af,dn,c_];exact G
theorem Q6{CX:xA}{k:Nat}{params:Arguments}{dV kV:Value}(lk:K.lookup f=some ⟨oc,od,.func (W.fnOf name qual params body scope dV kV doc pm an j_ ct),Md⟩)(yY:W.codeIn K j_ qual=true)(S:ck N ps scope)(len:∀ vs H Q E,sp vs H Q E->vs.length=ps.length)(sC:∀(A:Around)(outer:List Env)(s:Shared)(H:Hp)(vs:List V)(Q:VK)(E:XK),fE k (A.deeper (envOfC qual scope s.heap.objs.size f j_))->sp vs H Q E -> ∃ t,y6 (cj CX P w K mg base N qual scope f j_ A outer s H E) body t/\t { nx:=fun _ J=>Q .non J,rt:=Q } (start N vs) H): g_ P w K mg base CX (k+1) f (W.fnOf name qual params body scope dV kV doc pm an j_ ct) ps sp:=by
 refine⟨len,fun A outer s H args us vs Q E hr e0 hb r E5=>?_⟩;have hl:=len _ _ _ _ E5;have KX:K.In s.heap:=e0.mod.Kb.keeps fun b o e=>(e0.bs b o e).1
 have lim:s.heap.NoLimit:=e0.mod.nolimit.keeps fun b o e=>(e0.bs b o e).1
 have SE:∀ y∈ps.zip us,scope.names.lookup y.1=some .local \/ (scope.names.lookup y.1=some .cell /\ ((cellsFrom (s.heap.objs.size+1) scope.names []).lookup y.1).isSome=true):=fun⟨n,v⟩ hy=>by
  rcases S.par n (ER hy).1 with q|q
  .exact .inl q
  exact .inr ⟨q,W.cellsFrom_some _ _ _ (.inl q)⟩
 refine codeAny_call_function hr.depth (KX _ _ lk) rfl S.co S.gen rfl (W.codeRec_of KX yY) (hb _ _ _ _ ?_);refine wpAny_newFunctionEnv_cells S.kind SE fun env he s1 x=>?_
 subst he;refine⟨lim.keeps x.toInCall.keep,codeAny_func ?_⟩;obtain⟨t,ht,hq⟩:=sC A outer s H vs Q E (hr.deeper _) E5;have I:Inv (cj CX P w K mg base N qual scope f j_ A outer s H E) [] (start N vs) H s1:=Ei S hr.hd e0 hl r x;refine d_ (ht [] s1 (start N vs) H _ I hq) (fun fl s' hs=>?_) fun e s' hs=>hs
 have fin:∀{σ':St}{J:Hp}{v:V}{u:Value},Inv (cj CX P w K mg base N qual scope f j_ A outer s H E) [] σ' J s'->RelV v u->Q v J->CE outer P w H s Q u s' :=
  fun {σ' J v u} aac rv q=>⟨v,J,aac.os,aac.bare,aac.base,aac.hok,rv,q⟩
 cases fl with
 | ret u =>
  obtain⟨v,σ',J,aac,rv,q⟩:=hs;exact fin aac rv q
 | next =>
  obtain⟨σ',J,aac,q⟩:=hs;exact fin (v:=V.non) (u:=Value.none) aac rfl q
 | brk =>
  obtain⟨_,_,_,q⟩:=hs;exact False.elim q
 | cont =>
  obtain⟨_,_,_,q⟩:=hs;exact False.elim q
section
variable{t:TA}{id T:String}{r:List V->Hp->VK->Prop}
def Uv(r:List V->Hp->VK->Prop)(t:TA):TE:=fun M H Q=>t M H fun vs H1=>r vs H1 Q
theorem wM(hc:dJ X (.builtin id) r) (hg:Gl X x) (hm:X.mg x=none) (hv:bootBuiltins x=some (.builtin id)) (ha:PA X (e::es) t) (hn:x≠"__name__":=by decide) (mi:(x==("__debug__":Str))=false:=by decide)
  (he:starEach (e::es) X.env=(false,eval e X.env):: starEach es X.env:=by rfl) (ij:(backTo pos (starEach es X.env)).any (·.1)=false:=by rfl):PE X (.Call (.Name x p) (e::es) [] pos) (Uv r t):=by
 intro Y s M H Q I h;refine de (ig I hg hm hv ?_ hn mi);exact PyProof.Rows.callWith_builtin1 (thn (ha pos Y s M H _ I h) fun us s1 ⟨vs,H1,I1,r1,q1⟩=>hc Y s1 M H1 vs us Q I1 r1 q1) he ij
theorem uN(hc:dJ X (.type T) r) (hg:Gl X x) (hm:X.mg x=none) (hv:bootBuiltins x=some (.type T)) (ha:PA X (e::es) t) (hn:x≠"__name__":=by decide) (mi:(x==("__debug__":Str))=false:=by decide)
  (he:starEach (e::es) X.env=(false,eval e X.env):: starEach es X.env:=by rfl) (ij:(backTo pos (starEach es X.env)).any (·.1)=false:=by rfl):PE X (.Call (.Name x p) (e::es) [] pos) (Uv r t):=by
 intro Y s M H Q I h;refine de (ig I hg hm hv ?_ hn mi);exact dQ (thn (ha pos Y s M H _ I h) fun us s1 ⟨vs,H1,I1,r1,q1⟩=>hc Y s1 M H1 vs us Q I1 r1 q1) he ij
end
end L2
variable{CX:L2.xA}
namespace HT
open PySem PyProof.Rows
theorem IJ{t:Addr}{vs ws:List Value}(ht:IsTup s.heap t vs.toArray)(hb:IsTup s.heap b ws.toArray)(hv:vs≠[])(h1:ws=[]->Q (.ref t) s)(h2:ws≠[]->Q (.ref s.heap.objs.size) { s with heap:=s.heap.push { cls:=.type "tuple",data:=.seq (vs++ws).toArray } })(hsz:vs.length+ws.length<=sizeLine):wpAny (model prog w) A (binaryOp .Add (.ref t) (.ref b)) Q E s:=by
 obtain⟨⟨cls,dd,data,sl⟩,ho,hc,n,hd⟩:=id ht;obtain⟨⟨cls2,dd2,data2,Zk⟩,U1,m_,n2,hd2⟩:=id hb;simp only at hc hd m_ hd2;subst hc hd m_ hd2;have e:vs.toArray++ws.toArray=(vs++ws).toArray:=by simp
 by_cases hw:ws=[]
 .exact concat_meets ⟨_,ho,rfl⟩ ⟨_,U1,rfl⟩ noFill_tuple_add seq_tuple_add PySem.F.slot_tuple_add PySem.F.entry_tuple_add (PySem.F.args_tuple_add_2 _ _)
   (tuple_addW1 t b vs.toArray ws.toArray n n2 dd dd2 sl Zk (by simpa using hv) (by simp[hw])) ⟨ho,U1,h1 hw⟩
 refine concat_meets ⟨_,ho,rfl⟩ ⟨_,U1,rfl⟩ noFill_tuple_add seq_tuple_add PySem.F.slot_tuple_add PySem.F.entry_tuple_add (PySem.F.args_tuple_add_2 _ _)
  (tuple_addW2 t b vs.toArray ws.toArray n n2 dd dd2 sl Zk (by simpa using hv) (by simpa using hw) (by rw[ah,ah];exact hsz)) ⟨ho,U1,?_⟩
 rw[e];exact h2 hw
def fF(n d:Nat):Option Int->Nat
 |none=>d
 |some v=>if v<0 then(v+(n:Int)).toNat else min v.toNat n
theorem DI(n d:Nat)(hd:d<=n)(o:Option Int):fF n d o<=n:=by
 cases o with
 |none=>exact hd
 | some v =>
  show(if v<0 then(v+(n:Int)).toNat else min v.toNat n)<=n
  by_cases hv:v<0
  .rw[qp hv];exact G
  rw[bX hv];exact Nat.min_le_right _ _
theorem Ai(v:Int)(n d:Nat):(if v<0 then max (v+(n:Int)) 0 else min v (n:Int))=((fF n d (some v):Nat):Int):=by
 show(if v<0 then max (v+(n:Int)) 0 else min v (n:Int))=(((if v<0 then(v+(n:Int)).toNat else min v.toNat n):Nat):Int)
 by_cases hv:v<0
 .simp only[qp hv];exact G
 simp only[bX hv];exact G
theorem BX(lo hi:Option Int)(n:Nat):Builtin.Slice.sliceAdjust lo hi 1 (n:Int)=(((fF n 0 lo:Nat):Int),((fF n n hi:Nat):Int)):=by
 have h1:¬((1:Int)<0):=G
 unfold Builtin.Slice.sliceAdjust;simp only[h1,kf];refine Prod.ext ?_ ?_
 .cases lo with
  |none=>rfl
  |some v=>exact Ai v n 0
 cases hi with
 |none=>rfl
 |some v=>exact Ai v n n
theorem BZ(i j:Nat):Builtin.Slice.slicePlaces (i:Int) (j:Int) 1=j-i:=by
 unfold Builtin.Slice.slicePlaces;have h1:(1:Int)>0:=G
 simp only[h1,i7,Int.ediv_one]
 split<;>exact G
theorem rW{v:Value}{o:Option Int}{Q:Option Int->Shared->Prop}(p:IsPart v o)(h:Q o s):wpAny (model prog w) A (Builtin.Slice.slicePartIndex v) Q E s:=by
 cases p with
 |none=>exact slicePart_none h
 |int i t=>exact slicePart_int h
theorem qN{lo:Option Int}{Q:Int×Int×Nat->Shared->Prop}(hs:s.heap.IsSliceOf sl vl vu .none)(pl:IsPart vl lo)(pu:IsPart vu hi)(h:Q (((fF n 0 lo:Nat):Int),1,fF n n hi-fF n 0 lo) s):wpAny (model prog w) A (Builtin.Slice.sliceApplied (.ref sl) (pure (n:Int))) Q E s:=by
 obtain⟨os,Sf,nV,OS⟩:=id hs;unfold Builtin.Slice.sliceApplied Builtin.Slice.sliceFields;refine ae (ae (cS Sf OS (x:=vl) rfl (ae (cS Sf OS (x:=vu) rfl (ae (cS Sf OS (x:=.none) rfl (aw ?_)))))));refine ae (slicePart_none ?_);show wpAny _ _ (if ((1:Int)==0)=true then _ else _) _ _ s;rw[bX b4];refine ae (rW pl (ae (rW pu (ae (aw ?_)))));show wpAny _ _ (match Builtin.Slice.sliceAdjust lo hi 1 (n:Int)with | (lo,hi)=>pure (lo,(1:Int),Builtin.Slice.slicePlaces lo hi 1)) _ _ s;rw[BX lo hi n];show wpAny _ _ (pure (((fF n 0 lo:Nat):Int),(1:Int),Builtin.Slice.slicePlaces ((fF n 0 lo:Nat):Int) ((fF n n hi:Nat):Int) 1)) _ _ s;rw[BZ];exact aw h
theorem Ie(xs:Array Value)(i k:Nat):((List.range k).filterMap fun(m:Nat)=>xs[((i:Int)+(m:Int)*1).toNat]?).toArray=((xs.toList.drop i).take k).toArray:=by
 have e:(fun(m:Nat)=>xs[((i:Int)+(m:Int)*1).toNat]?)=fun m=>xs[i+m]?:=by
  funext m
  have:((i:Int)+(m:Int)*1).toNat=i+m:=G
  rw[this]
 rw[e];have:=pick_run xs i k;rw[ny]at this;have e2:((fun x=>xs[x]?) ∘ fun x=>i+x)=fun m=>xs[i+m]?:=rfl
 rw[e2]at this;rw[this]
theorem oB{t:Addr}{items:Array Value}{lo:Option Int}(ht:IsTup s.heap t items)(hs:s.heap.IsSliceOf sl vl vu .none)(pl:IsPart vl lo)(pu:IsPart vu hi)(hw:¬(fF items.size 0 lo=0/\fF items.size items.size hi=items.size))(h:Q (.ref s.heap.objs.size) { s with heap:=s.heap.push { cls:=.type "tuple",data:=.seq ((items.toList.drop (fF items.size 0 lo)).take (fF items.size items.size hi-fF items.size 0 lo)).toArray } })(hsz:items.size<=sizeLine):wpAny (model prog w) A (getItem (.ref t) (.ref sl)) Q E s:=by
 have AS:sizeOk (.seq ((items.toList.drop (fF items.size 0 lo)).take (fF items.size items.size hi-fF items.size 0 lo)).toArray):=by
  show((items.toList.drop (fF items.size 0 lo)).take (fF items.size items.size hi-fF items.size 0 lo)).toArray.size<=sizeLine;rw[ah,bp,cm,ay];exact G
 have hj:fF items.size items.size hi<=items.size:=DI _ _ (qnr _) hi;obtain⟨os,Sf,nV,OS⟩:=id hs;have Vi:s.TypeIs (.ref sl) "slice":=⟨os,Sf,nV⟩
 unfold getItem
 try with_reducible refine i4 ?_
 first|refine ae (aw ?_)|skip
 refine ae (wpAny_sequenceKey ht.typeIs b4 ?_)
 refine ae (wpAny_callSpecial?_slot (name:=Str.ofString "__getitem__") ht.typeIs k9
  (fw k9 ht.typeIs entry_tuple_getitem ?_ (args_tuple_getitem _ _)))
 show wpAny _ _ (Builtin.Tuple.tupleItemsOf (.ref t)>>=_) _ _ s;refine ae (tupleItemsOf_ ht ?_);refine ae (wpAny_typeOf Vi ?_);rw[qp b4];refine ae (qN hs pl pu ?_)
 have xl:¬((((fF items.size 0 lo:Nat):Int)==0&&(1:Int)==1&&(fF items.size items.size hi-fF items.size 0 lo)==items.size)=true):=by
  intro q;rw[eA,eA]at q;have q1:((fF items.size 0 lo:Nat):Int)=0:=eq_of_beq q.1.1;have q2:fF items.size items.size hi-fF items.size 0 lo=items.size:=eq_of_beq q.2;exact hw ⟨G,G⟩
 show wpAny _ _ (if (((fF items.size 0 lo:Nat):Int)==0&&(1:Int)==1&&(fF items.size items.size hi-fF items.size 0 lo)==items.size)=true then _ else _) _ _ s;rw[bX xl,Ie]
 first
  |exact ae (m:=Builtin.Tuple.tupleExact _) (fR (aw ⟨_,rfl,aw h⟩) AS)
  |exact ae (m:=Builtin.Tuple.tupleExact _) (fR (ae (aw (aw ⟨_,rfl,aw h⟩))) AS)
  |exact ae (ae (m:=Builtin.Tuple.tupleExact _) (fR (aw (aw ⟨_,rfl,aw h⟩)) AS))
  |exact ae (ae (m:=Builtin.Tuple.tupleExact _) (fR (aw ⟨_,rfl,aw h⟩) AS))
end HT
namespace L2
open PySem PySem.Spec PyProof.Rows
abbrev TO:=St->Hp->(Option Int->Hp->Prop)->Prop
def PO(X:Cx)(e:Option Expr)(t:TO):Prop :=
 ∀(Y:List (Addr×Obj))(s:Shared)(M:St)(H:Hp)(Q:Option Int->Hp->Prop),Inv X Y M H s->t M H Q ->
  wpAny (model X.prog X.w) X.A (evalPart e X.env) (fun u s'=>∃ o J,Inv X Y M J s'/\IsPart u o/\Q o J) X.xe s
def Mh:TO:=fun _ H Q=>Q none H
def Q7(t:TE):TO:=fun M H Q=>t M H fun x H1=>∃ i,x=.int i/\Q (some i) H1
theorem intsAre_of{ns:List Int}:∀{us:List Value},Vals (ns.map V.int) us->IntsAre us ns:=by
 induction ns with
 |nil=>intro us r;rw[AA]at r;cases r;exact .nil
 | cons n ns ih =>
  intro us r;rw[b5]at r;cases r with
  | cons r1 r2 =>
   obtain⟨t,e⟩:=r1;subst e;exact .cons n t (ih r2)
section
variable{lo hi:Option Expr}{tl th:TO}
theorem j9:PO X none Mh:=by
 intro Y s M H Q I h;rw[evalPart_none];exact aw ⟨none,H,I,.none,h⟩
theorem iM(h:PE X e te):PO X (some e) (Q7 te):=by
 intro Y s M H Q I hw;rw[evalPart_some];refine thn (h Y s M H _ I hw) fun u s1 ⟨x,H1,I1,r1,q1⟩=>?_
 obtain⟨i,rfl,q⟩:=q1;obtain⟨t,rfl⟩:=r1;exact⟨some i,H1,I1,.int i t,q⟩
def VJ(X:Cx)(r:V->Option Int->Option Int->Hp->VK->Prop):Prop :=
 ∀(Y:List (Addr×Obj))(s:Shared)(M:St)(H:Hp)(x:V)(v vl vu:Value)(lo hi:Option Int)(sl:Addr)(Q:VK),Inv X Y M H s->RelV x v->s.heap.IsSliceOf sl vl vu .none -> IsPart vl lo->IsPart vu hi->r x lo hi H Q ->
  ∃ T id,typeLookup (.type T) "__getitem__"=pure (some (.builtin id))/\s.TypeIs v T/\wpAny (model X.prog X.w) X.A (getItem v (.ref sl)) (EP X Y M Q) X.xe s
def tSl(r:V->Option Int->Option Int->Hp->VK->Prop)(te:TE)(tl th:TO):TE:=fun M H Q=>te M H fun x H1=>tl M H1 fun l H2=>th M H2 fun u H3=>r x l u H3 Q
theorem iG{r:V->Option Int->Option Int->Hp->VK->Prop}(hr:VJ X r)(he:PE X e te)(hl:PO X lo tl)(hu:PO X hi th):PE X (.Subscript e (.Slice lo hi none p2) pos) (tSl r te tl th):=by
 intro Y s M H Q I h;refine Subscript_ (thn (he Y s M H _ I h) fun v s1 ⟨x,H1,I1,r1,q1⟩=>?_);refine wpAny_Slice (thn (hl Y s1 M H1 _ I1 q1) fun vl s2 ⟨l,H2,I2,pl,q2⟩=>thn (hu Y s2 M H2 _ I2 q2) fun vu s3 ⟨u,H3,I3,pu,q3⟩=>?_);rw[evalPart_none];refine aw ?_;have I4:Inv X Y M H3 { s3 with heap:=s3.heap.push { cls:=.type "slice",data:=.fields #[vl,vu,.none] } }:=I3.kept (t':=s3.toks) fun b ob q=>Heap.get?_push_of_some _ q
 obtain⟨T,id,hT,ht,hg⟩:=hr Y { s3 with heap:=s3.heap.push { cls:=.type "slice",data:=.fields #[vl,vu,.none] } } M H3 x v vl vu l u s3.heap.objs.size Q I4 r1 (Heap.IsSliceOf.new ..) pl pu q3;show wpAny (model X.prog X.w) X.A (subscriptTail e (.Slice lo hi none p2) v (.ref s3.heap.objs.size)) (EP X Y M Q) X.xe { s3 with heap:=s3.heap.push { cls:=.type "slice",data:=.fields #[vl,vu,.none] } };exact tail_any (ops:=[.ref s3.heap.objs.size,v]) ht hT hg ou
def iH(xs:List V)(lo hi:Option Int):List V:=(xs.drop (HT.fF xs.length 0 lo)).take (HT.fF xs.length xs.length hi-HT.fF xs.length 0 lo)
theorem qy(xs:List V)(lo hi:Option Int):(iH xs lo hi).length <= xs.length:=by
 unfold iH;rw[bp,cm];exact G
def R7(K:W.Frag):V->Option Int->Option Int->Hp->VK->Prop:=fun x lo hi H Q=>∃ a xs,x=.ref a/\SqT K H a xs /\
 ¬(HT.fF xs.length 0 lo=0/\HT.fF xs.length xs.length hi=xs.length)/\∀ p,H p=none->Q (.ref p) (upd H p (.tup (iH xs lo hi)))
theorem Pa:VJ X (R7 X.K):=by
 intro Y s M H x v vl vu lo hi sl Q I rx hs pl pu h;obtain⟨a,xs,rfl,hx,hw,q⟩:=h;cases rx;obtain⟨its,r,ht,hz⟩:=I.tuple hx;have hlen:its.toArray.size=xs.length:=by rw[ah];exact r.length.symm
 refine⟨"tuple",_,k9.lookup,ht.typeIs,?_⟩;refine HT.oB ht hs pl pu (by rw[hlen];exact hw) ?_ (by rw[hlen];exact hz);rw[hlen];refine⟨.ref s.heap.objs.size,_,I.laid (t':=s.toks) (o:=.tup (iH xs lo hi)) (fun b ob q=>Heap.get?_push_of_some _ q) (qnr _) ?_,Z,q _ (I.hok.fresh (qnr _))⟩;exact⟨gV (qy xs lo hi) hz,_,(r.drop (HT.fF xs.length 0 lo)).take (HT.fF xs.length xs.length hi-HT.fF xs.length 0 lo),kD.new _ _⟩
inductive Qr(K:W.Frag)(x:V)(y:V)(H:Hp)(Q:VK):Prop
 |mk(a b xs ys:_)(_:x=.ref a)(_:y=.ref b)(_:SqT K H a xs)(_:SqT K H b ys)(_:xs≠[])(_:xs.length+ys.length<=sizeLine)(_:(ys=[]->Q (.ref a) H))(_:(ys≠[]->∀ p,H p=none->Q (.ref p) (upd H p (.tup (xs++ys)))))
theorem Vals.rj(r:Vals xs us):us=[]↔xs=[]:=by
 cases r with
 |nil=>simp
 |cons _ _=>simp
theorem Mi:kH X (binaryOp .Add) (Qr X.K):=by
 intro Y s M H x y v u Q I rx ry h;obtain⟨a,b,xs,ys,rfl,rfl,ha,hb,hx,hz,q1,q2⟩:=h;cases rx;cases ry;obtain⟨its,r1,p1,_⟩:=I.tuple ha;obtain⟨iF,r2,p2,_⟩:=I.tuple hb;refine HT.IJ p1 p2 (fun z=>hx (r1.rj.mp z)) (fun z=>⟨.ref a,H,I,rfl,q1 (r2.rj.mp z)⟩) (fun z=>?_) (by rw[<- r1.length,<- r2.length];exact hz);refine⟨.ref s.heap.objs.size,_,I.laid (t':=s.toks) (o:=.tup (xs++ys)) (fun b ob q=>Heap.get?_push_of_some _ q) (qnr _) ?_,Z,q2 (fun w=>z (r2.rj.mpr w)) _ (I.hok.fresh (qnr _))⟩;exact⟨by rw[af];exact hz,_,r1.append r2,kD.new _ _⟩
end
def ixN(n:Nat)(i:Int):Option Nat:=if 0<=i then(if i<n then some i.toNat else none)else if -(n:Int)<=i then some (i+n).toNat else none
def sR{α:Type}(xs:List α)(i:Int):Option α:=(ixN xs.length i).bind fun j=>xs[j]?
theorem Mj{i:Int}(h:ixN n i=some j):seqIndex? i n=some j/\j<n/\-(n:Int)<=i/\i<n:=by
 unfold ixN at h
 by_cases h0:0<=i
 .rw[qp h0]at h
  by_cases h1:i<n
  .rw[qp h1]at h
   have e:i.toNat=j:=kF h;exact⟨by rw[seqIndex_of h0 h1,e],G,G,h1⟩
  rw[bX h1]at h;cases h
 rw[bX h0]at h
 by_cases h1 : -(n:Int)<=i
 .rw[qp h1]at h
  have e:(i+n).toNat=j:=kF h;exact⟨by rw[seqIndex_neg G h1,e],G,h1,G⟩
 rw[bX h1]at h;cases h
theorem t6{α:Type}{xs:List α}{i:Int}{v:α}(h:sR xs i=some v):∃ j,seqIndex? i xs.length=some j/\xs[j]?=some v/\j<xs.length/\-(xs.length:Int)<=i/\i<xs.length:=by
 unfold sR at h;cases e:ixN xs.length i with
 |none=>rw[e]at h;cases h
 | some j =>
  rw[e]at h;obtain⟨h1,h2,h3,h4⟩:=Mj e;exact⟨j,h1,h,h2,h3,h4⟩
theorem bh{α:Type}{xs:List α}{v:α}(h:xs[j]?=some v):sR xs (j:Int)=some v:=by
 have hj:j<xs.length:=(List.getElem?_eq_some_iff.mp h).1
 have e:ixN xs.length (j:Int)=some j:=by
  unfold ixN;rw[qp G,qp G];simp
 unfold sR;rw[e];exact h
theorem iI{α:Type}(xs:List α)(v:α):sR (xs++[v]) (-1)=some v:=by
 have hl:(xs++[v]).length=xs.length+1:=by simp
 have e:ixN (xs++[v]).length (-1)=some xs.length:=by
  unfold ixN;rw[hl,bX b4,qp G]
  congr 1
  exact G
 unfold sR;rw[e];show(xs++[v])[xs.length]?=some v;simp
def Aj(b:Expr):Prop:=∀ o i,subscripted b false o i=operate [o,i] (getItem o i)
def N0(X:Cx)(r:R2):Prop :=
 ∀(value slice:Expr)(Y:List (Addr×Obj))(s:Shared)(M:St)(H:Hp)(x y:V)(v u:Value)(Q:VK),Inv X Y M H s->RelV x v->RelV y u->r x y H Q ->
  subscripted slice false v u=operate [v,u] (getItem v u)->wpAny (model X.prog X.w) X.A (subscriptTail value slice v u) (EP X Y M Q) X.xe s
def y9(X:Cx)(id:String)(r:V->List V->Hp->VK->Prop):Prop :=
 ∀(Y:List (Addr×Obj))(s:Shared)(M:St)(H:Hp)(x:V)(xs:List V)(v:Value)(us:List Value)(Q:VK),Inv X Y M H s->RelV x v->Vals xs us->r x xs H Q ->
  wpAny (model X.prog X.w) X.A (call (.builtin id) (v::us)) (EP X Y M Q) X.xe s
section
variable{a b:Expr}
theorem Q8(hr:N0 X r)(ha:PE X a ta)(hb:PE X b tb)(hs:Aj b):PE X (.Subscript a b pos) (PH r ta tb):=by
 intro Y s M H Q I h;exact Subscript_ (HS ha hb I h fun v u s2 x y H2 I2 rx ry q=>hr a b Y s2 M H2 x y v u Q I2 rx ry q (hs _ _))
theorem cy(hr:N0 X r)(ha:PE X a ta)(hb:PE X b tb)(hs:Aj b:=by exact fun _ _=>rfl):PE X (.Subscript a b pos) (PH r ta tb):=Q8 hr ha hb hs
inductive Qb(K:W.Frag)(x:V)(y:V)(H:Hp)(Q:VK):Prop
 |mk(p xs i v:_)(_:x=.ref p)(_:y=.int i)(_:b3 K H p xs)(_:sR xs i=some v)(_:Q v H)
inductive P_(K:W.Frag)(x:V)(y:V)(H:Hp)(Q:VK):Prop
 |mk(p xs i v:_)(_:x=.ref p)(_:y=.int i)(_:SqT K H p xs)(_:sR xs i=some v)(_:Q v H)
inductive V'(x:V)(y:V)(H:Hp)(Q:VK):Prop
 |mk(z i c:_)(_:x=.str z)(_:y=.int i)(_:z.length<=sizeLine)(_:sR z.cps.toList i=some c)(_:Q (.str ⟨#[c]⟩) H)
theorem bj:N0 X (Qb X.K):=by
 intro value slice Y s M H x y v u Q I rx ry h hs;obtain⟨p,xs,i,z,rfl,rfl,hq,he,q⟩:=h;cases rx;obtain⟨t,rfl⟩:=ry;obtain⟨its,r,pl,hz⟩:=I.list hq;obtain⟨j,h1,h2,h3,h4,h5⟩:=t6 he;obtain⟨w,ew,qA⟩:=r.get h2;have hl:=r.length;have hn:=mK;have fin:EP X Y M Q w s:=⟨z,H,I,qA,q⟩
 by_cases h0:0<=i
 .have hj:i.toNat=j:=by
   rw[seqIndex_of h0 h5]at h1;exact kF h1
  exact item_listR pl.isList h0 G (by rw[hj];simpa using ew) fin hs
 have hj:(i+(its.toArray.size:Int)).toNat=j:=by
  rw[seqIndex_neg G h4]at h1;rw[ah,<- hl];exact kF h1
 exact subscriptTail_builtinR (x:=w) pl.isList.typeIs IP.lookup
  (wpAny_getItem_list_neg (Q:=fun r s'=>r=w/\EP X Y M Q r s') pl.isList G (by rw[ah]<;>exact G) G (by rw[hj];simpa using ew) ⟨rfl,fin⟩) hs
theorem aJ:N0 X (P_ X.K):=by
 intro value slice Y s M H x y v u Q I rx ry h hs;obtain⟨p,xs,i,z,rfl,rfl,hq,he,q⟩:=h;cases rx;obtain⟨t,rfl⟩:=ry;obtain⟨its,r,pl,hz⟩:=I.tuple hq;obtain⟨j,h1,h2,h3,h4,h5⟩:=t6 he;obtain⟨w,ew,qA⟩:=r.get h2;have hl:=r.length;have hn:=mK;have fin:EP X Y M Q w s:=⟨z,H,I,qA,q⟩
 exact subscriptTail_builtinR (x:=w) pl.typeIs slot_tuple_getitem.lookup
  (getItem_tuple (j:=j) (Q:=fun r s'=>r=w/\EP X Y M Q r s') pl G G (by rw[ah,<- hl];exact h1) (by simpa using ew) ⟨rfl,fin⟩) hs
theorem oN:N0 X V':=by
 intro value slice Y s M H x y v u Q I rx ry h hs;obtain⟨z,i,c,rfl,rfl,hz,he,q⟩:=h;obtain⟨t,rfl⟩:=rx;obtain⟨t',rfl⟩:=ry;obtain⟨j,h1,h2,h3,h4,h5⟩:=t6 he;have hl:z.cps.toList.length=z.length:=by simp[Str.length]
 rw[hl]at h1 h4 h5;have hn:=mK
 exact tail_any (pS s z t) slot_str_getitem.lookup (getItem_str (c:=c) (by
  have e1:decide (i < -(2^63:Int))=false:=gX G;have e2:decide (i ≥ 2^63)=false:=gX G
  rw[e1,e2,Bool.or_false]) (by rw[h1];simpa using h2) ⟨.str ⟨#[c]⟩,H,I.tok _,⟨_,rfl⟩,q⟩) hs
theorem wN(lo hi:Option Int)(n:Nat):(sliceBounds lo hi none n).1=((HT.fF n 0 lo:Nat):Int)/\(sliceBounds lo hi none n).2.1=((HT.fF n n hi:Nat):Int)/\(sliceBounds lo hi none n).2.2=1:=by
 refine⟨?_,?_,Z⟩
 .cases lo with
  |none=>simp[sliceBounds,HT.fF]
  | some i =>
   simp only[sliceBounds,HT.fF,Option.getD_none,show(1:Int)>0 by decide,i7]
   by_cases h:i<0
   .simp only[h,i7]<;>exact G
   simp only[h,kf]<;>exact G
 cases hi with
 |none=>simp[sliceBounds,HT.fF]
 | some i =>
  simp only[sliceBounds,HT.fF,Option.getD_none,show(1:Int)>0 by decide,i7]
  by_cases h:i<0
  .simp only[h,i7]<;>exact G
  simp only[h,kf]<;>exact G
theorem vM(its:List Value)(lo hi:Option Int):slicePick its.toArray lo hi none=((its.drop (HT.fF its.length 0 lo)).take (HT.fF its.length its.length hi-HT.fF its.length 0 lo)).toArray:=by
 obtain⟨h1,h2,h3⟩:=wN lo hi its.toArray.size;unfold slicePick;rw[h1,h2,h3];simp only[sliceRange_one,pick_run,ah]<;>rfl
def R8(K:W.Frag):V->Option Int->Option Int->Hp->VK->Prop:=fun x lo hi H Q=>∃ a xs,x=.ref a/\b3 K H a xs/\∀ p,H p=none->Q (.ref p) (upd H p (.lst (iH xs lo hi)))
theorem t7:VJ X (R8 X.K):=by
 intro Y s M H x v vl vu lo hi sl Q I rx hs pl pu h;obtain⟨a,xs,rfl,hx,q⟩:=h;cases rx;obtain⟨its,r,ht,hz⟩:=I.list hx;have hlen:=r.length;refine⟨"list",_,IP.lookup,ht.isList.typeIs,?_⟩;refine wpAny_getItem_list_slice ht.isList hs pl pu .none oz ?_ (by rw[ah]<;>exact G);rw[vM,<- hlen];refine⟨.ref s.heap.objs.size,_,I.laid (t':=s.toks) (o:=.lst (iH xs lo hi)) (fun b ob q=>Heap.get?_push_of_some _ q) (qnr _) ?_,Z,q _ (I.hok.fresh (qnr _))⟩;exact⟨gV (qy xs lo hi) hz,_,0,(r.drop (HT.fF xs.length 0 lo)).take (HT.fF xs.length xs.length hi-HT.fF xs.length 0 lo),Heap.get?_push_size _ rfl⟩
def fB:V->Bool
 | .non=>true
 | .bl _=>true
 | .int _=>true
 | .str _=>true
 |_=>false
def mw:V->V->Bool
 | .non,.non=>true
 | .bl a,.bl b=>a==b
 | .bl a,.int b=>(if a then 1 else 0)==b
 | .int a,.bl b=>a==(if b then 1 else 0)
 | .int a,.int b=>a==b
 | .str a,.str b=>a==b
 |_,_=>false
theorem Pb{x:V}{v:Value}(ry:RelV y u)(rx:RelV x v)(fy:fB y=true)(fx:fB x=true):SeqAt.EqAt A s u v (mw y x):=by
 cases y with
 | non =>
  cases ry;cases x with
  |non=>cases rx;exact vS _
  |bl b=>cases rx;exact SeqAt.EqAt.none_bool b
  |int b=>obtain⟨t,rfl⟩:=rx;exact SeqAt.EqAt.none_int b t
  |str b=>obtain⟨t,rfl⟩:=rx;exact SeqAt.EqAt.none_str b t
  |_=>exact absurd (show false=true from fx) jv
 | bl a =>
  cases ry;cases x with
  |non=>cases rx;exact SeqAt.EqAt.bool_none a
  |bl b=>cases rx;exact SeqAt.EqAt.bool_bool a b
  |int b=>obtain⟨t,rfl⟩:=rx;exact SeqAt.EqAt.bool_int a b t
  |str b=>obtain⟨t,rfl⟩:=rx;exact SeqAt.EqAt.bool_str a b t
  |_=>exact absurd (show false=true from fx) jv
 | int a =>
  obtain⟨t',rfl⟩:=ry;cases x with
  |non=>cases rx;exact SeqAt.EqAt.int_none a t'
  |bl b=>cases rx;exact SeqAt.EqAt.int_bool a t' b
  |int b=>obtain⟨t,rfl⟩:=rx;exact SeqAt.EqAt.int_int a t' b t
  |str b=>obtain⟨t,rfl⟩:=rx;exact SeqAt.EqAt.int_str a t' b t
  |_=>exact absurd (show false=true from fx) jv
 | str a =>
  obtain⟨t',rfl⟩:=ry;cases x with
  |non=>cases rx;exact SeqAt.EqAt.str_none a t'
  |bl b=>cases rx;exact SeqAt.EqAt.str_bool a t' b
  |int b=>obtain⟨t,rfl⟩:=rx;exact SeqAt.EqAt.str_int a t' b t
  |str b=>obtain⟨t,rfl⟩:=rx;exact EN a t' b t
  |_=>exact absurd (show false=true from fx) jv
 |_=>exact absurd (show false=true from fy) jv
def tJ(x:V)(u:Value):Bool:=match u with
 | .none=>mw .non x
 | .bool b=>mw (.bl b) x
 | .int i _=>mw (.int i) x
 | .str z _=>mw (.str z) x
 |_=>false
theorem rY{x:V}(r:RelV y u)(f:fB y=true):tJ x u=mw y x:=by
 cases y with
 |non=>cases r;rfl
 |bl b=>cases r;rfl
 |int i=>obtain⟨t,rfl⟩:=r;rfl
 |str z=>obtain⟨t,rfl⟩:=r;rfl
 |_=>exact absurd (show false=true from f) jv
theorem mL{x:V}:∀{xs:List V}{us:List Value},Vals xs us->xs.all fB=true->us.any (tJ x)=xs.any fun y=>mw y x
 |_,_,.nil,_=>rfl
 | y::xs,u::us,.cons r t,f=>by
  rw[ib,eA]at f;rw[eR,eR,rY r f.1,mL t f.2]
theorem iJ{A:Around}{s:Shared}{x:V}{v:Value}(rx:RelV x v)(fx:fB x=true):∀{xs:List V}{us:List Value},Vals xs us->xs.all fB=true->∀ u∈us,SeqAt.EqAt A s u v (tJ x u)
 |_,_,.nil,_=>fun u hu=>by cases hu
 | y::xs,u::us,.cons r t,f=>fun u' hu=>by
  rw[ib,eA]at f;rcases ai.mp hu with rfl|hu
  .rw[rY r f.1];exact Pb r rx f.1 fx
  exact iJ rx fx t f.2 u' hu
def qE(x:V)(xs:List V):Bool:=xs.any fun y=>mw y x
inductive V_(K:W.Frag)(neg:Bool)(x:V)(y:V)(H:Hp)(Q:VK):Prop
 |mk(p xs:_)(_:y=.ref p)(_:(b3 K H p xs\/SqT K H p xs))(_:fB x=true)(_:xs.all fB=true)(_:Q (.bl (if neg then !qE x xs else qE x xs)) H)
theorem fX:kH X (compareOp .In) (V_ X.K false):=by
 intro Y s M H x y v u Q I rx ry h;obtain⟨p,xs,rfl,hq,fx,fs,q⟩:=h;cases ry;rcases hq with hq|hq
 .obtain⟨its,r,pl,hz⟩:=I.list hq
  refine SeqAt.in_listAt (tJ x) pl.isList (fun w hw=>iJ rx fx r fs w (by simpa using hw)) ⟨.bl _,H,I,rfl,?_⟩;rw[show its.toArray.any (tJ x)=its.any (tJ x)by simp,mL r fs];exact q
 obtain⟨its,r,pl,hz⟩:=I.tuple hq;refine SeqAt.in_tupleAt (tJ x) pl (fun w hw=>iJ rx fx r fs w (by simpa using hw)) ⟨.bl _,H,I,rfl,?_⟩;rw[show its.toArray.any (tJ x)=its.any (tJ x)by simp,mL r fs];exact q
theorem oO:kH X (compareOp .NotIn) (V_ X.K true):=by
 intro Y s M H x y v u Q I rx ry h;obtain⟨p,xs,rfl,hq,fx,fs,q⟩:=h;cases ry;rcases hq with hq|hq
 .obtain⟨its,r,pl,hz⟩:=I.list hq
  refine SeqAt.notIn_listAt (tJ x) pl.isList (fun w hw=>iJ rx fx r fs w (by simpa using hw)) ⟨.bl _,H,I,rfl,?_⟩;rw[show its.toArray.any (tJ x)=its.any (tJ x)by simp,mL r fs];exact q
 obtain⟨its,r,pl,hz⟩:=I.tuple hq;refine SeqAt.notIn_tupleAt (tJ x) pl (fun w hw=>iJ rx fx r fs w (by simpa using hw)) ⟨.bl _,H,I,rfl,?_⟩;rw[show its.toArray.any (tJ x)=its.any (tJ x)by simp,mL r fs];exact q
theorem aX:dJ X (.builtin "len") (fun xs H Q=>∃ p ys,xs=[.ref p]/\(b3 X.K H p ys\/SqT X.K H p ys)/\Q (.int ys.length) H):=by
 intro Y s M H xs us Q I r h;obtain⟨p,ys,rfl,hq,q⟩:=h;obtain⟨u,rfl,rx⟩:=vals1 r;cases rx;have hn:=mK;rcases hq with hq|hq
 .obtain⟨its,r',pl,hz⟩:=I.list hq
  have hlen:=r'.length;exact Calls.call_len_list pl.isList (by simp only[ah]<;>exact G) ⟨.int ys.length,H,I.tok _,⟨s.toks+1,by rw[ah,hlen]⟩,q⟩
 obtain⟨its,r',pl,hz⟩:=I.tuple hq;have hlen:=r'.length;exact len_tuple pl (by simp only[ah]<;>exact G) ⟨.int ys.length,H,I.tok _,⟨s.toks+1,by rw[ah,hlen]⟩,q⟩
theorem kI:dJ X (.builtin "len") (fun xs H Q=>∃ z,xs=[.str z]/\z.length<=sizeLine/\Q (.int z.length) H):=by
 intro Y s M H xs us Q I r h;obtain⟨z,rfl,hz,q⟩:=h;obtain⟨u,rfl,t,rfl⟩:=vals1 r;have hn:=mK;exact len_str G ⟨.int z.length,H,I.tok _,⟨_,rfl⟩,q⟩
theorem wO:dJ X (.type "list") (fun xs H Q=>∃ p ys,xs=[.ref p]/\(b3 X.K H p ys\/SqT X.K H p ys)/\∀ l,H l=none->Q (.ref l) (upd H l (.lst ys))):=by
 intro Y s M H xs us Q I r h;obtain⟨p,ys,rfl,hq,q⟩:=h;obtain⟨u,rfl,rx⟩:=vals1 r;cases rx
 have fin:∀(its:List Value),Vals ys its->ys.length<=sizeLine->∀(h':Heap)(c':Nat),(∀ b o',s.heap.get? b=some o'->h'.get? b=some o') ->
   h'.get? s.heap.objs.size=some { cls:=.type "list",dict:=none,data:=.seq its.toArray c',slots:=#[] }->EP X Y M Q (.ref s.heap.objs.size) { s with heap:=h' }:=fun its r' hz h' c' kp e =>
  ⟨.ref s.heap.objs.size,_,I.laid (t':=s.toks) kp (qnr _) (show fv X.prog X.w _ h' _ (.lst ys)from⟨hz,its,c',r',e⟩),rfl,q _ (I.hok.fresh (qnr _))⟩
 rcases hq with hq|hq
 .obtain⟨its,r',pl,hz⟩:=I.list hq
  have hlen:=r'.length;obtain⟨o,ho,hc,n,hd⟩:=pl.isList;exact call_list_seq p (.inl rfl) ho hc hd (fun h' c' kp e=>fin its r' hz h' c' kp e) (by simp only[ah]<;>exact G)
 obtain⟨its,r',pl,hz⟩:=I.tuple hq;have hlen:=r'.length;obtain⟨o,ho,hc,n,hd⟩:=pl;exact call_list_seq p (.inr rfl) ho hc hd (fun h' c' kp e=>fin its r' hz h' c' kp e) (by simp only[ah]<;>exact G)
theorem di:dJ X (.type "tuple") (fun xs H Q=>∃ p ys,xs=[.ref p]/\((b3 X.K H p ys/\∀ l,H l=none->Q (.ref l) (upd H l (.tup ys)))\/(SqT X.K H p ys/\Q (.ref p) H))):=by
 intro Y s M H xs us Q I r h;obtain⟨p,ys,rfl,h⟩:=h;obtain⟨u,rfl,rx⟩:=vals1 r;cases rx;rcases h with⟨hq,q⟩|⟨hq,q⟩
 .obtain⟨its,r',pl,hz⟩:=I.list hq
  have hlen:=r'.length;refine call_tuple_list pl.isList (fun h' kp=>?_) (by simp only[ah]<;>exact G);have I1:Inv X Y M H { s with heap:=h' }:=I.kept (t':=s.toks) kp
  have I2:Inv X Y M (upd H h'.objs.size (.tup ys)) { s with heap:=h'.push { cls:=.type "tuple",data:=.seq its.toArray } } :=
   I1.laid (t':=s.toks) (fun b o e=>Heap.get?_push_of_some _ e) (qnr _) (show fv X.prog X.w _ _ _ (.tup ys)from⟨hz,its,r',kD.new _ _⟩)
  exact⟨.ref h'.objs.size,_,I2,Z,q _ (I1.hok.fresh (qnr _))⟩
 obtain⟨its,r',pl,hz⟩:=I.tuple hq;exact call_tuple_same pl ⟨.ref p,H,I,rfl,q⟩
def VU(K:W.Frag)(T:String)(x:V)(H:Hp):Prop:=match x with
 | .str _=>T="str"
 | .int _=>T="int"
 | .ref p=>(T="list"/\∃ xs,b3 K H p xs)\/(T="tuple"/\∃ o,K.lookup p=some o/\o.cls=.type "tuple"/\o.dict=none) \/
   (T="dict"/\((∃ kvs,H p=some (.dK kvs))\/∃ kvs,H p=some (.dT kvs)))\/(T="set"/\∃ S n,H p=some (.set S n))
 |_=>False
theorem Ej{T:String}{x:V}{v:Value}(I:Inv X Y M H s)(r:RelV x v)(ty:VU X.K T x H): s.TypeIs v T/\∀ a,v=.ref a->∃ ob,s.heap.get? a=some ob/\ob.dict=none:=by
 cases x with
 | str z =>
  obtain⟨t,rfl⟩:=r;cases(show T="str" from ty);exact⟨pS s z t,fun _ e=>nomatch e⟩
 | int i =>
  obtain⟨t,rfl⟩:=r;cases(show T="int" from ty);exact⟨EL s i t,fun _ e=>nomatch e⟩
 | ref p =>
  cases r;rcases ty with⟨rfl,xs,hq⟩|⟨rfl,o,hk,hc,hd⟩|⟨rfl,hk⟩|⟨rfl,S,n,hk⟩
  .obtain⟨its,_,pl,_⟩:=I.list hq
   refine⟨pl.isList.typeIs,fun a e=>?_⟩;cases e;obtain⟨o,n,e,c,hd,_⟩:=pl;exact⟨o,e,hd⟩
  .refine⟨⟨o,I.kIn p o hk,hc⟩,fun a e=>?_⟩
   cases e;exact⟨o,I.kIn _ o hk,hd⟩
  .have z:∃ o,s.heap.get? p=some o/\o.ExactDict:=by
    rcases hk with⟨kvs,hk⟩|⟨kvs,hk⟩
    .obtain⟨_,_,_,_,o,_,_,e,ex,_⟩:=I.hok p _ hk
     exact⟨o,e,ex⟩
    obtain⟨_,_,_,_,o,_,_,e,ex,_⟩:=I.hok p _ hk;exact⟨o,e,ex⟩
   obtain⟨o,e,ex⟩:=z;refine⟨⟨o,e,ex.1⟩,fun a e2=>?_⟩;cases e2;exact⟨o,e,ex.2.1⟩
  obtain⟨o,_,_,_,e,ex,_⟩:=I.hok p _ hk;refine⟨⟨o,e,ex.1⟩,fun a e2=>?_⟩;cases e2;exact⟨o,e,ex.2.1⟩
 |_=>exact False.elim ty
def R9(K:W.Frag)(T:String)(r:V->List V->Hp->VK->Prop)(to:TE):TE:=fun M H Q=>to M H fun x H1=>VU K T x H1/\r x [] H1 Q
def Zh(K:W.Frag)(T:String)(r:V->List V->Hp->VK->Prop)(to:TE)(t:TA):TE:=fun M H Q=>to M H fun x H1=>VU K T x H1/\t M H1 fun xs H2=>r x xs H2 Q
variable{o:Expr}{t:TA}{T id:String}{r:V->List V->Hp->VK->Prop}
theorem ir(pa:PlainAttrs T) (slot:Slot T name id) (BF:typeOf (.builtin id)=pure (.type "method_descriptor")) (hm:y9 X id r) (ho:PE X o to)
  (oy:attributeBase o name X.env (eval o X.env)=eval o X.env:=by rfl) (sA:(apos.endLine==fb.line)=true:=by rfl):PE X (.Call (.Attribute o name apos) [] [] fb) (R9 X.K T r to):=by
 intro Y s M H Q I h;refine wpAny_Call_method0_late oy sA (thn (ho Y s M H _ I h) fun v s1 ⟨x,H1,I1,r1,ty,q1⟩=>?_);obtain⟨h1,h2⟩:=Ej I1 r1 ty;exact⟨T,id,pa,slot,BF,h1,h2,vk rfl (PySem.evalArgs_none (hm Y s1 M H1 x [] v [] Q I1 r1 .nil q1))⟩
theorem bY(pa:PlainAttrs T) (slot:Slot T name id) (BF:typeOf (.builtin id)=pure (.type "method_descriptor")) (hm:y9 X id r) (ho:PE X o to) (ha:PA X (e::es) t)
  (oy:attributeBase o name X.env (eval o X.env)=eval o X.env:=by rfl)
  (D_:((backTo fb (starEach (e::es) X.env)).all (fun x=>!x.1)&&(backToKw fb (keywordEach [] X.env)).all (fun x=>x.1.isSome)
   && decide ((e::es).length+([]:List Keyword).length+(if ([]:List Keyword).isEmpty then 0 else 1)<30))=true:=by rfl)
  (sA:(apos.endLine==fb.line)=true:=by rfl) (hs:starEach (e::es) X.env=(false,eval e X.env):: starEach es X.env:=by rfl) (sx:(backTo fb (starEach es X.env)).any (·.1)=false:=by rfl):
  PE X (.Call (.Attribute o name apos) (e::es) [] fb) (Zh X.K T r to t):=by
 intro Y s M H Q I h;refine wpAny_Call_method_late oy D_ sA rfl (thn (ho Y s M H _ I h) fun v s1 ⟨x,H1,I1,r1,ty,q1⟩=>?_);obtain⟨h1,h2⟩:=Ej I1 r1 ty;refine⟨T,id,pa,slot,BF,h1,h2,?_⟩;have hA:=ha fb Y s1 M H1 _ I1 q1;rw[hs]at hA ⊢;refine vk (by show(false||(backTo fb (starEach es X.env)).any (·.1))=false;rw[sx]<;>rfl) (AF ?_);exact thn hA fun us s2 ⟨vs,H2,I2,r2,q2⟩=>hm Y s2 M H2 x vs v us Q I2 r1 r2 q2
/- xs.append(e),list.index on a module's tuple .. are y9 facts of 06m -/
end
def VM(X:Cx)(id:String)(r:V->List V->Hp->VK->Prop):Prop :=
 ∀(Y:List (Addr×Obj))(s:Shared)(M:St)(H:Hp)(x:V)(xs:List V)(v:Value)(us:List Value)(Q:VK),Inv X Y M H s->RelV x v->Vals xs us->r x xs H Q ->
  wpAny (model X.prog X.w) X.A (call (.builtin id) (v::us)) (EP X Y M Q) X.xe s
theorem Vals.one:∀{x:V}{us:List Value},Vals [x] us->∃ u,us=[u]/\RelV x u
 |_,_,.cons r .nil=>⟨_,rfl,r⟩
theorem Vals.zero:∀{us:List Value},Vals [] us->us=[]
 |_,.nil=>rfl
theorem Vals.dropLast(h:Vals xs us):Vals xs.dropLast us.dropLast:=by
 induction h with
 |nil=>exact .nil
 | cons r t ih =>
  cases t with
  |nil=>exact .nil
  |cons q t'=>exact .cons r ih
theorem Vals.rep{xs:List V}{us:List Value}(h:Vals xs us):∀ k:Nat,Vals (List.replicate k xs).flatten (List.replicate k us).flatten
 | 0=>.nil
 | k+1=>by
  rw[j',j',og,og];exact Vals.append h (Vals.rep h k)
theorem Ca{α:Type}(l:List α):l.eraseIdx (l.length-1)=l.dropLast:=by
 induction l with
 |nil=>rfl
 | cons a r ih =>
  cases r with
  |nil=>rfl
  | cons b r =>
   have e:(a::b::r).length-1=((b::r).length-1)+1:=by
    have h1:(a::b::r).length=r.length+2:=rfl;have h2:(b::r).length=r.length+1:=rfl;exact G
   rw[e,List.eraseIdx_cons_succ,ih]
   all_goals rfl
theorem foldl_rep(its:List Value):∀(k:Nat)(acc:List Value), List.foldl (fun x1 x2=>x1++x2) acc.toArray (List.replicate k its.toArray)=(acc++(List.replicate k its).flatten).toArray
 | 0,acc=>by simp
 | k + 1,acc=>by
  have e:acc.toArray++its.toArray=(acc++its).toArray:=by simp
  have e2:(acc++its)++(List.replicate k its).flatten=acc++(List.replicate (k+1) its).flatten:=by
   rw[j',og,dr]
  rw[<- e2,<- foldl_rep its k (acc++its),<- e,j',fA]
section
variable{l:Addr}{zs:List V}
theorem Inv.HI{its':List Value}{f:Array Value->Array Value}(I:Inv X Y M H s)(hH:H l=some (.lst xs))(e:s.heap.get? l=some { cls:=.type "list",data:=.seq its.toArray n })(hf:f its.toArray=its'.toArray)(hv:Vals ys its')(hz:ys.length<=sizeLine): Inv X Y M (upd H l (.lst ys)) { s with heap:=s.heap.update l (Obj.mapSeq f),toks:=t' }:=by
 have q:=PySem.IsL.update e f;rw[hf]at q;refine I.write (x:=l) (e:=l) (by rw[hH];exact trivial) (.inl rfl) (fun b' u hb hu=>(Heap.get?_update_other s.heap (Obj.mapSeq f) (aS hb)).trans hu) ⟨_,q⟩ ?_;exact⟨hz,its',_,hv,q⟩
theorem Inv.MB(I:Inv X Y M H s)(hv:Vals ys its)(hz:ys.length<=sizeLine): Inv X Y M (upd H s.heap.objs.size (.lst ys)) { s with heap:=s.heap.push { cls:=.type "list",data:=.seq its.toArray },toks:=t' } :=
 I.laid (fun _ _ q=>Heap.get?_push_of_some _ q) (qnr _) ⟨hz,its,0,hv,Heap.get?_push_size _ rfl⟩
theorem Inv.fresh(I:Inv X Y M H s):H s.heap.objs.size=none:=I.hok.fresh (qnr _)
theorem Inv.xb(I:Inv X Y M H s)(hH:H l=some (.lst xs)):xs.length<=sizeLine/\∃(its:List Value) (n:Nat),Vals xs its/\xs.length=its.length/\s.heap.get? l=some { cls:=.type "list",data:=.seq its.toArray n }:=by
 obtain⟨z,its,n,r,e⟩:=I.hok l _ hH;exact⟨z,its,n,r,r.length,e⟩
theorem wQ(h:n<=sizeLine):Builtin.List.listTooLong n=false:=by
 unfold Builtin.List.listTooLong;exact gX G
end
inductive rg(x:V)(vs:List V)(H:Hp)(Q:VK):Prop
 |mk(l xs y:_)(_:x=.ref l)(_:vs=[y])(_:H l=some (.lst xs))(_:xs.length<sizeLine)(_:Q .non (upd H l (.lst (xs++[y]))))
theorem cD:VM X "list.append" rg:=by
 intro Y s M H x vs v us Q I rx rv h;obtain⟨l,xs,y,rfl,rfl,hH,hz,q⟩:=h;cases rx;obtain⟨u,rfl,ru⟩:=rv.one;obtain⟨z,its,n,r,hl,e⟩:=I.xb hH;refine f' F.slot_list_append ⟨_,e,rfl⟩ F.entry_list_append (F.args_list_append_2 _ _) (PySem.list_append l its.toArray n u (by rw[ah];exact G)) ⟨e,?_⟩;refine⟨.non,_,I.HI (its':=its++[u]) hH e oz (r.append (.cons ru .nil)) ?_,Z,q⟩;rw[af,c9];exact G
inductive GY(x:V)(vs:List V)(H:Hp)(Q:VK):Prop
 |mk(l b xs zs:_)(_:x=.ref l)(_:vs=[.ref b])(_:H l=some (.lst xs))(_:H b=some (.lst zs))(_:xs.length+zs.length<=sizeLine)(_:Q .non (upd H l (.lst (xs++zs))))
theorem Ek:VM X "list.extend" GY:=by
 intro Y s M H x vs v us Q I rx rv h;obtain⟨l,b,xs,zs,rfl,rfl,hH,hB,hz,q⟩:=h;cases rx;obtain⟨u,rfl,ru⟩:=rv.one;cases ru;obtain⟨z,its,n,r,hl,e⟩:=I.xb hH;obtain⟨z2,iF,n2,r2,l8,e2⟩:=I.xb hB;have hsz:its.toArray.size+iF.toArray.size<=sizeLine:=by rw[ah,ah];exact G
 have D6:¬(!its.toArray.isEmpty&&Builtin.List.listTooLong (its.toArray.size+iF.toArray.size))=true:=by
  rw[wQ hsz,nB];exact jv
 refine f' F.slot_list_extend ⟨_,e,rfl⟩ F.entry_list_extend (F.args_list_extend_2 _ _)
  (AutoSeq1.list_extend_list_list_0 l its.toArray n b iF.toArray n2 D6 (by rw[ah];exact G) G) ⟨e,e2,?_⟩
 refine⟨.non,_,I.HI (its':=its++iF) hH e oz (r.append r2) ?_,Z,q⟩;rw[af];exact G
inductive V9(x:V)(vs:List V)(H:Hp)(Q:VK):Prop
 |mk(l xs y:_)(_:x=.ref l)(_:vs=[])(_:H l=some (.lst xs))(_:xs[xs.length-1]?=some y)(_:Q y (upd H l (.lst xs.dropLast)))
theorem iZ:VM X "list.pop" V9:=by
 intro Y s M H x vs v us Q I rx rv h;obtain⟨l,xs,y,rfl,rfl,hH,hy,q⟩:=h;cases rx;have CC:=rv.zero;subst CC;obtain⟨z,its,n,r,hl,e⟩:=I.xb hH;obtain⟨u,hu,ru⟩:=r.get hy
 have UQ:its.toArray[its.toArray.size-1]?=some u:=by
  show its.toArray[its.length-1]?=some u;rw[<- Array.getElem?_toList,<- hl];exact hu
 refine f' F.slot_list_pop ⟨_,e,rfl⟩ F.entry_list_pop (F.args_list_pop_1 _) (MeetsSeq.list_pop_last l its.toArray n u UQ (by rw[ah];exact G)) ⟨e,?_⟩;refine⟨y,_,I.HI (its':=its.dropLast) hH e ?_ r.dropLast ?_,ru,q⟩
 .show its.toArray.eraseIdxIfInBounds (its.toArray.size-1)=its.dropLast.toArray
  rw[ah,List.eraseIdxIfInBounds_toArray,Ca]
 rw[List.length_dropLast];exact G
inductive L'(x:V)(vs:List V)(H:Hp)(Q:VK):Prop
 |mk(l xs:_)(_:x=.ref l)(_:vs=[])(_:H l=some (.lst xs))(_:Q .non (upd H l (.lst [])))
theorem Ig:VM X "list.clear" L':=by
 intro Y s M H x vs v us Q I rx rv h;obtain⟨l,xs,rfl,rfl,hH,q⟩:=h;cases rx;have CC:=rv.zero;subst CC;obtain⟨z,its,n,r,hl,e⟩:=I.xb hH;refine f' F.slot_list_clear ⟨_,e,rfl⟩ F.entry_list_clear (F.args_list_clear_1 _) (AutoSeq1.list_clear_list_0 l its.toArray n (by rw[ah];exact G)) ⟨e,?_⟩;exact⟨.non,_,I.HI (its':=[]) (ys:=[]) hH e rfl .nil (mr _),Z,q⟩
inductive Wa(x:V)(y:V)(H:Hp)(Q:VK):Prop
 |mk(l b xs zs:_)(_:x=.ref l)(_:y=.ref b)(_:H l=some (.lst xs))(_:H b=some (.lst zs))(_:xs.length+zs.length<=sizeLine)(_:∀ p,H p=none->Q (.ref p) (upd H p (.lst (xs++zs))))
theorem oR:kH X (binaryOp .Add) Wa:=by
 intro Y s M H x y v u Q I rx ry h;obtain⟨l,b,xs,zs,rfl,rfl,hH,hB,hz,q⟩:=h;cases rx;cases ry;obtain⟨z,its,n,r,hl,e⟩:=I.xb hH;obtain⟨z2,iF,n2,r2,l8,e2⟩:=I.xb hB;refine PySem.P.add_list e e2 ?_ (by rw[ah,ah];exact G);have ea:its.toArray++iF.toArray=(its++iF).toArray:=by simp
 rw[ea];exact⟨.ref _,_,I.MB (t':=s.toks) (r.append r2) (by rw[af];exact G),Z,q _ I.fresh⟩
inductive V8(x:V)(y:V)(H:Hp)(Q:VK):Prop
 |mk(l k xs:_)(_:x=.ref l)(_:y=.int k)(_:H l=some (.lst xs))(_ : -(2^63)<=k)(_:k<2^63)(_:xs.length*k.toNat<=sizeLine)(_:∀ p,H p=none->Q (.ref p) (upd H p (.lst (List.replicate k.toNat xs).flatten)))
theorem len_rep{α:Type}(xs:List α)(k:Nat):(List.replicate k xs).flatten.length=k*xs.length:=by
 induction k with
 |zero=>simp
 |succ k ih=>rw[j',og,af,ih,Nat.succ_mul,Au]
theorem El:kH X (binaryOp .Mult) V8:=by
 intro Y s M H x y v u Q I rx ry h;obtain⟨l,k,xs,rfl,rfl,hH,h1,h2,hz,q⟩:=h;cases rx;obtain⟨t,rfl⟩:=ry;obtain⟨z,its,n,r,hl,e⟩:=I.xb hH;have hlen:its.toArray.size*k.toNat<=sizeLine:=by rw[ah,<- hl];exact hz
 have Xo:¬its.toArray.size*k.toNat>(2^63-1)/8:=by
  have:(sizeLine:Nat)<=(2^63-1)/8:=by decide
  exact G
 have ID:¬(!Builtin.List.listFitsIndex k)=true:=by
  rw[fitsIndex_both h1 h2];exact jv
 have D6:¬Builtin.List.listTooLong (its.toArray.size*k.toNat)=true:=by
  rw[wQ hlen];exact jv
 have Nc:List.foldl (fun x1 x2=>x1++x2) #[] (List.replicate (if its.toArray.isEmpty=true then 0 else k.toNat) its.toArray)=(List.replicate k.toNat its).flatten.toArray:=by
  have f0:∀ m:Nat,List.foldl (fun x1 x2=>x1++x2) #[] (List.replicate m its.toArray)=(List.replicate m its).flatten.toArray:=fun m=>by
   have:=foldl_rep its m [];rw[List.nil_append]at this;exact this
  rw[f0];cases its with
  |nil=>simp
  |cons a r'=>rw[bX oz]
 refine wpAny_binaryOp_repeat_ref (T := "list") (U := "int") b4 ⟨_,e,rfl⟩ (fun s'=>EL s' k t) noFill_list_mul F.fills_int_mul v_ repeat_list F.slot_int_index.lookup
  (f' v_ (EL s k t) F.entry_int_rmul (F.args_int_rmul_2 _ _) (int___rmul___int_list k t l its.toArray n)
   ⟨e,rfl,⟨_,e,rfl⟩,f' F.slot_list_mul ⟨_,e,rfl⟩ F.entry_list_mul (F.args_list_mul_2 _ _) (AutoListH.list___mul___list_int_3 l its.toArray n k t ID Xo D6) ⟨e,?_⟩⟩)
 rw[Nc];exact⟨.ref _,_,I.MB (t':=s.toks) (r.rep k.toNat) (by rw[len_rep,mE];exact hz),Z,q _ I.fresh⟩
end L2
namespace Att
open PySem PySem.W PySem.Calls PyProof.Rows
theorem rZ{P:Params}:∀(ns:List Int)(vs:List Value),WellAll P h vs (ns.map WData.int)->IntsAre vs ns:=by
 intro ns
 induction ns with
 | nil =>
  intro vs w;rw[AA]at w;cases w;exact .nil
 | cons n ns ih =>
  intro vs w;rw[b5]at w;cases w with
  | cons a b =>
   cases a;exact .cons _ _ (ih _ b)
theorem Em{l:OpenLaw}(hn:l.most=some n){P:Params}{args:List WData}{vals:List Value}(Ic:l.row.toRowW.claim.pre args=true)(hwl:WellAll P h vals args): ∃ a vs ns,vals=[Value.ref a]/\args=[WData.list (ns.map WData.int)]/\h.get? a=some { cls:=.type "list",data:=.seq vs.toArray }/\IntsAre vs ns/\ns.length<=n:=by
 have hsh:WShape.hasAll [] args [.list .int]=true:=(pre_splitW Ic).1;have hc:l.pre.holds [] { args:=args }=true:=(pre_splitW Ic).2;obtain⟨d,r,rfl,h1,h2⟩:=hasAllW_cons hsh;obtain rfl:=hasAllW_nil h2;obtain⟨xs,rfl,h3⟩:=hasW_list h1;obtain⟨ns,rfl⟩:=items_int h3
 have hlen:ns.length<=n:=by
  unfold OpenLaw.pre at hc
  have h4:(WTm.not (.lt (.lit (.int (n:Int))) (.len (.arg 0)))).holds [] { args:=[.list (ns.map .int)] }=true:=by
   have h4:=(holds_andW hc).1;rw[hn]at h4;exact h4
  have h5:=condW_of h4 (w_not (w_lt w_lit (w_len_list (w_arg rfl))));rw[dn]at h5;refine Nat.le_of_not_lt fun q=>?_
  have q':(n:Int)<((ns.length:Nat):Int):=G
  first
   |(rw[cK q']at h5;exact absurd h5 b4)
   |(simp at h5;exact G)
 cases hwl with
 | cons w1 w2 =>
  cases w2;cases w1 with
  |list ho hall=>exact⟨_,_,ns,Z,Z,ho,rZ ns _ hall,hlen⟩
theorem En(l:OpenLaw)(args:List WData):l.row.toRowW.claim.post args (.bool true) args=true :=
 postW_of (r:=l.row.toRowW) (X:=(true==true))
  (show WShape.has [] (.bool true) .bool=true by first|rfl|decide|simp[WShape.has,WShape.arms,WShape.armsAll])
  (show(WTm.eq .res (.lit (.bool true))).value [] { args:=args,res:=some (.bool true),after:=args }=some (.bool (true==true))from w_eq_bool (w_res rfl) w_lit) rfl
theorem xv{l:OpenLaw}{XP:(Str->Option Value)->Heap->Prop}{d:DefRec}(hn:l.most=some n)(SO:d.params.defaults=[])(call:∀(w:World)(s₀ s₁:Shared)(mg mb:Str->Option Value)(fa:Addr)(o:Obj)(pm cd doc:Value)(a:Addr)(vs:List Value)(ns:List Int), Ground q loose [] XP w s₀ mg mb s₁.heap->YP w s₁.heap -> s₁.heap.get? fa=some o->o.data=.func (docDef d.name d.params d.body d.scope pm cd doc)->s₁.heap.CodeRec cd d.name->mg d.name=some (.ref fa) -> s₁.heap.get? a=some { cls:=.type "list",data:=.seq vs.toArray }->IntsAre vs ns->ns.length<=n->s₁.gens = #[] -> codeAny (model l.prog w) callerA (.call (.ref fa) ⟨[.ref a],[]⟩) (fun r s'=>r=.ok (.ret (.bool true))/\OldK s₁.heap s'.heap/\s'.os=s₁.os/\AllBare s'.gens) s₁): WalkO q loose XP YP l.row.toRowW d [] (fun f vs=>PySem.call f vs):=by
 intro w s₀ s₁ mg mb aae aaa fa o pm cd doc dV kV ho hd yY hD hmg hg args vals as Ic hlay WN hwl ZX;obtain rfl:dV=.none:=Dflts.none hD SO;obtain rfl:kV=.none:=Dflts.noKw hD;obtain⟨a,vs,ns,rfl,rfl,M',hints,hlen⟩:=Em hn Ic hwl;refine enter_call (va (call w s₀ s₁ mg mb fa o pm cd doc a vs ns aae aaa ho (fd_plain hd) yY hmg M' hints hlen hg) fun r s' hq=>?_);obtain⟨rfl,h2,h3,h4⟩:=hq;exact⟨.inl ⟨.bool true,.bool true,[],Z,fun _=>rfl,.bool true,En l _,fun _=>⟨List.Pairwise.nil,fun _ hm=>(nomatch hm)⟩⟩,h2,h3,h4⟩
end Att
namespace L2
open PySem PySem.Spec PyProof.Rows
theorem uO:∀{vs:List Value}{ns:List Int},IntsAre vs ns->Vals (ns.map V.int) vs
 |_,_,.nil=>.nil
 |_,_,.cons n t h=>.cons ⟨t,rfl⟩ (uO h)
def IL(H:Hp):Prop:=∀ b,H b=none\/∃ o xs,H b=some (.xt o (.lst xs))
theorem Ih{mb:Str->Option Value}{k:Nat}{fa:Addr}{s₁:Shared}{vs:List Value}{ns:List Int}
  (KX:K.In s₁.heap) (pe:s₁.heap.Ns mainGlobals mg) (hb:s₁.heap.Ns builtinsNs mb) (hbb:∀ x:Str,x≠"__name__"->mb x=bootBuiltins x) (W7:s₁.heap.NoLimit) (hg:s₁.gens = #[])
  (ha:s₁.heap.get? a=some { cls:=.type "list",data:=.seq vs.toArray }) (hi:IntsAre vs ns) (hl:ns.length<=sizeLine) (hr:fE k callerA)
  (F:∀ base:Heap,K.In base->base.Ns mainGlobals mg->g_ P w K mg base CX k fa fd [x] sp) (SU:∀(s:Shared)(u:Value),BindsTo s fd ⟨[u],[]⟩ [(x,u)])
  (E5:∀ H:Hp,IL H->b3 K H a (ns.map V.int)->sp [.ref a] H (fun v _=>v=.bl true) fun _ _ _=>False)
  (XC:∀ H e s',CX [] H s₁ (fun _ _ _=>False) e s'->False):
  codeAny (model P w) callerA (.call (.ref fa) ⟨[.ref a],[]⟩) (fun r s'=>r=.ok (.ret (.bool true))/\OldK s₁.heap s'.heap/\s'.os=s₁.os/\AllBare s'.gens) s₁:=by
 have rv:=uO hi;have Wl:=hi.length
 have core:∀ H:Hp,IL H->b3 K H a (ns.map V.int)->mS P w H s₁.heap->(∀ b,H b≠none->b=a)->(H a≠none->K.lookup a=none) ->
   codeAny (model P w) callerA (.call (.ref fa) ⟨[.ref a],[]⟩) (fun r s'=>r=.ok (.ret (.bool true))/\OldK s₁.heap s'.heap/\s'.os=s₁.os/\AllBare s'.gens) s₁:=by
  intro H hO hS hok hA hK;have AY:∀{b:Addr}{o:Obj},s₁.heap.get? b=some o->H b=none->(m7 s₁.heap H).get? b=some o:=fun e n=>HQ e n
  have QN:∀{b:Addr}{o:Obj}{es:Array DictEntry}{ep:Nat},s₁.heap.get? b=some o->o.data=.dict es ep->H b=none:=fun {b o es ep} e d=>by
   cases q:H b with
   |none=>rfl
   | some u =>
    have e':b=a:=hA b (by rw[q];simp);subst e';rw[ha]at e;cases e;have d':Data.seq vs.toArray _=Data.dict es ep:=d;cases d'
  have UE:∀{b:Addr}{m:Str->Option Value},s₁.heap.Ns b m->(m7 s₁.heap H).Ns b m:=fun {b m} ⟨o,es,ep,e,d,r⟩=>⟨o,es,ep,AY e (QN e d),d,r⟩
  have _j:K.In (m7 s₁.heap H):=fun b o e=>AY (KX b o e) (by
   cases q:H b with
   |none=>rfl
   | some u =>
    have e':b=a:=hA b (by rw[q];simp);subst e'
    rw[hK (by rw[q];simp)]at e;cases e)
  have hM:Mod K mg (m7 s₁.heap H):=⟨_j,UE pe,⟨mb,UE hb,hbb⟩,let ⟨mc,h1,h2⟩:=W7;⟨mc,UE h1,h2⟩⟩
  have e0:y_ P w K mg (m7 s₁.heap H) callerA [] s₁ H:=⟨rfl,hM,fun b o e=>Lw e,As (DR _ _),trivial,fun b hb=>absurd (show b∈([]:List Addr)from hb) oz,hok,.of_eq hg⟩
  refine va ((F _ _j (UE pe)).run callerA [] s₁ H ⟨[.ref a],[]⟩ [.ref a] [.ref a] _ _ hr e0 (SU s₁ (.ref a)) (.cons rfl .nil) (E5 H hO hS)) fun r s' h=>?_
  cases r with
  |error e=>exact(XC H e s' h).elim
  | ok fl =>
   cases fl with
   |next=>exact False.elim h
   |brk=>exact False.elim h
   |cont=>exact False.elim h
   | ret u =>
    obtain⟨v,J,os,bare,un,WV,r',q⟩:=h;have q':v=.bl true:=q;subst q';obtain rfl:u=Value.bool true:=r';refine⟨Z,OldK.of_keep fun b o e=>?_,os,bare⟩;cases q:H b with
    |none=>exact un.keep b o e q (by intro z;exact absurd (show b∈([]:List Addr)from z) oz) oz
    | some u =>
     rcases hO b with z|⟨ob,xs,z⟩
     .rw[q]at z;cases z
     have z2:=un.nc b ob _ z;obtain⟨e1,_⟩:=hok b _ z;obtain⟨e2,_⟩:=WV b _ z2;rw[e]at e1;cases e1;exact e2
 cases hk:K.lookup a with
 | some o =>
  have e:=KX a o hk;rw[ha]at e;cases e;refine core (fun _=>none) (fun _=>.inl rfl) (.inr ⟨_,vs.toArray,_,hk,rfl,rfl,rfl,by rw[ah,Wl];exact hl,by simpa using rv⟩) (fun b u z=>by have z':(none:Option HO)=some u:=z;cases z') (fun b z=>absurd rfl z) fun z=>absurd rfl z
 | none =>
  refine core (fun b=>if b=a then some (.xt { cls:=.type "list",data:=.seq vs.toArray } (.lst (ns.map V.int)))else none) (fun b=>?_) (.inl (.inr ⟨{ cls:=.type "list",data:=.seq vs.toArray },qp rfl⟩)) (fun b u z=>?_) (fun b z=>?_) fun _=>hk
  .by_cases hb:b=a
   .exact .inr ⟨_,_,qp hb⟩
   exact .inl (bX hb)
  .by_cases hb:b=a
   .have z':=(qp hb).symm.trans z
    cases z';subst hb;exact⟨ha,by rw[dn];exact hl,vs,_,rv,ha⟩
   have z':=(bX hb).symm.trans z;cases z'
  by_cases hb:b=a
  .exact hb
  exact absurd (bX hb) z
abbrev KOf(_:K.In h):W.Frag:=K
theorem Ml{l:W.OpenLaw}{k:Nat}{XP:(Str->Option Value)->Heap->Prop}{d:DefRec}{K:Params->W.Frag}{CX:World->xA}{sp:World->Sp}(hn:l.most=some n)(BQ:n<=sizeLine)(SO:d.params.defaults=[])(hr:fE k callerA)(hY:∀(w:World)(h:Heap),YP w h->(K w.params).In h)(F:∀(w:World)(mg:Str->Option Value)(fa:Addr)(h:Heap),(K w.params).In h->h.Ns mainGlobals mg->mg d.name=some (.ref fa) -> ∃ fd:FuncData,(∀(s:Shared)(u:Value),BindsTo s fd ⟨[u],[]⟩ [(x,u)]) /\ ∀ base:Heap,(K w.params).In base->base.Ns mainGlobals mg->g_ l.prog w (K w.params) mg base (CX w) k fa fd [x] (sp w))(E5:∀(w:World)(H:Hp)(a:Addr)(ns:List Int),ns.length<=n->IL H->b3 (K w.params) H a (ns.map V.int)->sp w [.ref a] H (fun v _=>v=.bl true) fun _ _ _=>False)(XC:∀(w:World)(H:Hp)(s:Shared)(e:Value)(s':Shared),CX w [] H s (fun _ _ _=>False) e s'->False): W.WalkO q loose XP YP l.row.toRowW d [] (fun f vs=>PySem.call f vs):=by
 refine Att.xv hn SO fun w s₀ s₁ mg mb fa o pm cd doc a vs ns aae aaa ho hd yY hmg M' hints hlen hg=>?_
 have KX:=hY w _ aaa;obtain⟨fd,hb,hF⟩:=F w mg fa _ KX aae.T.g hmg;exact Ih KX aae.T.g aae.T.b aae.T.builtins aae.T.nolimit hg M' hints (gV hlen BQ) hr hF hb (fun H hO hS=>E5 w H a ns hlen hO hS) fun H e s'=>XC w H s₁ e s'
def inClass(s:Stmt)(j:Nat):Stmt:=match s with
 | .ClassDef _ _ _ body _ _ _ _ _ _ _=>body.getD j (.Pass ⟨0,0,0,0⟩)
 |_=>.Pass ⟨0,0,0,0⟩
def gB(s:Stmt):Arguments:=match s with
 | .FunctionDef _ a _ _ _ _ _ _ _ _=>a
 |_=>{ posonlyargs:=[],args:=[],vararg:=none,kwonlyargs:=[],kw_defaults:=[],kwarg:=none,defaults:=[] }
def eU(s:Stmt):List Stmt:=match s with
 | .FunctionDef _ _ b _ _ _ _ _ _ _=>b
 |_=>[]
def aR(s:Stmt):Scope:=match s with
 | .FunctionDef _ _ _ _ _ _ sc _ _ _=>sc
 |_=>{ kind:=.function,names:=[],isGenerator:=false,isCoroutine:=false }
abbrev CX0:xA:=fun _ _ _ _ _ _=>False
abbrev E0:XK:=fun _ _ _=>False
structure Cf(K:W.Frag)(x qual:Str)(st:Stmt)(f:Addr)(fd:FuncData):Prop where
 ex:∃(oc:Value)(od:Option Addr)(kV doc pm:Value)(an:Option Addr)(j_ ct:Value)(Md:Array (Option Value)),
  fd=W.fnOf x qual (gB st) (eU st) (aR st) .none kV doc pm an j_ ct/\K.lookup f=some ⟨oc,od,.func fd,Md⟩/\W.codeIn K j_ qual=true
 kp:W.keepIn K (.ref f)=true
theorem Cf.binds(F:Cf K x qual st f fd)(h:∀(kV doc pm:Value)(an:Option Addr)(j_ ct:Value)(us:List Value),us.length=ps.length->bindArgs (W.fnOf x qual (gB st) (eU st) (aR st) .none kV doc pm an j_ ct) ⟨us,[]⟩=pure (ps.zip us)):Binds K fd ps []:=by
 obtain⟨oc,od,kV,doc,pm,an,j_,ct,Md,rfl,lk,yY⟩:=F.ex;exact .all (h kV doc pm an j_ ct)
theorem Eo{kV:Value}(l:K.lookup f=some ⟨oc,od,.func (W.fnOf x qual (gB st) (eU st) (aR st) .none kV doc pm an j_ ct),Md⟩)(c:W.codeIn K j_ qual=true)(k:W.keepIn K (.ref f)=true):Cf K x qual st f (W.fnOf x qual (gB st) (eU st) (aR st) .none kV doc pm an j_ ct):=⟨⟨oc,od,kV,doc,pm,an,j_,ct,Md,rfl,l,c⟩,k⟩
theorem fE.mo{k:Nat}(hr:fE k A)(h:j<=k:=by first|decide|omega):fE j A:=hr.mono h
theorem fc{k:Nat}(hr:fE k A):A.units+1<cLine:=ky (dP (by decide:1<=64) _) hr.units
theorem cO(h:n<=1000):n<sizeLine:=ky h b4
theorem pv(i:Nat)   (hN:X.N[i]?=some x:=by rfl) (hv:Uh X.env.scope x:=by first|exact Or.inl rfl|exact Or.inr (Or.inl rfl)|exact Or.inr (Or.inr rfl)) (hd:(x==("__debug__":Str))=false:=by decide)
  (yY:(x==("__classdict__":Str))=false:=by decide):PE X (.Name x pos) (Fh i):=wG hN hv hd yY
theorem bz{A B:Prop}(h:B):if false=true then A else B:=by
 rw[bX jv];exact h
theorem bN{A B:Prop}(h:A):if true=true then A else B:=by
 rw[qp rfl];exact h
theorem aN{c A B:Prop}[Decidable c](h1:c->A)(h2:¬c->B):if c then A else B:=by
 by_cases h:c
 .rw[qp h]
  exact h1 h
 rw[bX h];exact h2 h
def bb(H J:Hp):Prop:=∀ b o,H b=some o->J b=some o
theorem bb.refl(H:Hp):bb H H:=fun _ _ h=>h
theorem bb.trans(a:bb H H1)(b:bb H1 H2):bb H H2:=fun c o h=>b c o (a c o h)
theorem bb.free(e:bb H J){l:Addr}(h:J l=Option.none):H l=Option.none:=by
 cases q:H l with
 |none=>rfl
 | some o =>
  rw[e l o q]at h;cases h
theorem bb.seq(e:bb H J)(h:b3 K H a xs):b3 K J a xs:=by
 rcases h with(h|⟨o,h⟩)|h
 .exact .inl (.inl (e _ _ h))
 .exact .inl (.inr ⟨o,e _ _ h⟩)
 exact .inr h
section
variable{κ:Type}[DecidableEq κ]
def bR(kvs:List (κ×V))(k:κ):Option V:=(kvs.find? fun kv=>decide (kv.1=k)).map (·.2)
def putK(kvs:List (κ×V))(k:κ)(v:V):List (κ×V):=
 if (kvs.any fun kv=>decide (kv.1=k))=true then kvs.map (fun kv=>if kv.1=k then(kv.1,v)else kv)else kvs++[(k,v)]
theorem dR{p:κ×V}{r:List (κ×V)}{k:κ}(e:p.1=k):bR (p::r) k=some p.2:=by simp[bR,List.find?_cons,e]
theorem dU{p:κ×V}{r:List (κ×V)}{k:κ}(e:¬p.1=k):bR (p::r) k=bR r k:=by simp[bR,List.find?_cons,e]
theorem nq(k:κ):∀ kvs:List (κ×V),(kvs.any fun kv=>decide (kv.1=k))=(bR kvs k).isSome
 |[]=>rfl
 | p::r=>by
  rw[eR]
  by_cases e:p.1=k
  .simp only[dR e,cK e,Bool.true_or,Option.isSome_some]
  rw[dU e,gX e,Bool.false_or];exact nq k r
theorem wR(k j:κ)(y:V):∀ kvs:List (κ×V),bR (kvs.map fun kv=>if kv.1=k then(kv.1,y)else kv) j=(bR kvs j).map fun x=>if j=k then y else x
 |[]=>rfl
 | p::r=>by
  have ih:=wR k j y r;rw[b5]
  by_cases h:p.1=k
  .rw[qp h]
   by_cases e:p.1=j
   .rw[dR (p:=(p.1,y)) e,dR e,rq,qp (e.symm.trans h)]
   rw[dU (p:=(p.1,y)) e,dU e,ih]
  rw[bX h]
  by_cases e:p.1=j
  .rw[dR (p:=p) e,dR e,rq,bX (fun z=>h (e.trans z))]
  rw[dU (p:=p) e,dU e,ih]
theorem uP(k j:κ)(y:V):∀ kvs:List (κ×V),bR kvs k=none->bR (kvs++[(k,y)]) j=if j=k then some y else bR kvs j
 | [],_=>by
  by_cases e:k=j
  .rw[qp e.symm];exact dR (p:=(k,y)) e
  rw[bX (fun z=>e z.symm)];exact dU (p:=(k,y)) e
 | p::r,hn=>by
  rw[i_];have hk:¬p.1=k:=fun z=>by rw[dR z]at hn;cases hn
  rw[dU hk]at hn;have ih:=uP k j y r hn
  by_cases e:p.1=j
  .rw[dR e,dR e,bX (fun z=>hk (e.trans z))]
  rw[dU e,dU e,ih]
theorem Ii(kvs:List (κ×V))(k j:κ)(y:V):bR (putK kvs k y) j=if j=k then some y else bR kvs j:=by
 unfold putK
 by_cases a:(kvs.any fun kv=>decide (kv.1=k))=true
 .rw[qp a,wR]
  rw[nq]at a
  by_cases e:j=k
  .obtain⟨x,hx⟩:=kg.mp a
   rw[qp e,e,hx,rq,qp rfl]
  rw[bX e];cases bR kvs j with
  |none=>rfl
  |some x=>rw[rq,bX e]
 rw[bX a];refine uP k j y kvs ?_;rw[nq]at a;cases q:bR kvs k with
 |none=>rfl
 |some x=>rw[q]at a;exact(a rfl).elim
theorem jz(kvs:List (κ×V))(k:κ)(v:V):(putK kvs k v).length <= kvs.length+1:=by
 unfold putK
 split
 .rw[dn];exact G
 rw[af,ba,rX];exact G
theorem mx.lh{o:Option V}{u:Option Value}(r:mx o u):o.isSome=u.isSome:=by
 cases o with
 | none=>cases u with
  |none=>rfl
  |some _=>exact(show False from r).elim
 | some _=>cases u with
  |none=>exact(show False from r).elim
  |some _=>rfl
theorem KV.val{kvs:List (κ×V)}{vs:List (κ×Value)}(r:KV kvs vs)(k:κ):mx (bR kvs k) (valueAt vs k):=by
 unfold KV at r
 induction r with
 |nil=>exact True.intro
 | @cons p q ps qs h t ih =>
  obtain⟨h1,h2⟩:=h
  by_cases e:p.1=k
  .have e':q.1=k:=h1.symm.trans e
   have b:valueAt (q::qs) k=some q.2:=by simp[valueAt,List.find?_cons,e']
   rw[dR e,b];exact h2
  have e':¬q.1=k:=fun z=>e (h1.trans z)
  have b:valueAt (q::qs) k=valueAt qs k:=by simp[valueAt,List.find?_cons,e']
  rw[dU e,b];exact ih
theorem KV.any{kvs:List (κ×V)}{vs:List (κ×Value)}(r:KV kvs vs)(k:κ):(kvs.any fun kv=>decide (kv.1=k))=vs.any fun kv=>decide (kv.1=k):=by
 unfold KV at r
 induction r with
 |nil=>rfl
 |cons h t ih=>rw[eR,eR,ih,h.1]
theorem KV.L7{kvs:List (κ×V)}{vs:List (κ×Value)}(r:KV kvs vs)(k:κ)(ry:RelV y u): KV (kvs.map fun kv=>if kv.1=k then(kv.1,y)else kv) (vs.map fun kv=>if kv.1=k then(kv.1,u)else kv):=by
 unfold KV at r ⊢
 induction r with
 |nil=>exact .nil
 | @cons p q ps qs h t ih =>
  rw[b5,b5];refine .cons ?_ ih;obtain⟨h1,h2⟩:=h
  by_cases e:p.1=k
  .rw[qp e,qp (h1.symm.trans e)];exact⟨h1,ry⟩
  rw[bX e,bX (fun z=>e (h1.trans z))];exact⟨h1,h2⟩
theorem KV.put{kvs:List (κ×V)}{vs:List (κ×Value)}(r:KV kvs vs)(k:κ)(ry:RelV y u):KV (putK kvs k y) (stored vs k u):=by
 unfold putK stored;rw[r.any k]
 by_cases e:(vs.any fun kv=>decide (kv.1=k))=true
 .rw[qp e,qp e];exact r.L7 k ry
 rw[bX e,bX e];exact Paired.snoc r ⟨rfl,ry⟩
theorem KV.length{kvs:List (κ×V)}{vs:List (κ×Value)}(r:KV kvs vs):kvs.length=vs.length:=a_ r
end
theorem lJ{k:Key}(r:RelV (kV k) u):(bT P w).is k u=true:=by
 cases k with
 |inl i=>obtain⟨t,e⟩:=(show ∃ t,u=Value.int i t from r);subst e;exact qt P w i t
 |inr x=>obtain⟨t,e⟩:=(show ∃ t,u=Value.str x t from r);subst e;exact qu P w x t
theorem uQ{P:Program}{w:World}:∀{ks:List Key}{us:List Value},Vals (ks.map kV) us->ItemsAre (bT P w) ks us
 |[],_,r=>by rw[AA]at r;cases r;exact .nil
 | k::ks,_,r=>by
  rw[b5]at r;cases r with
  |cons h t=>exact .cons (lJ h) (uQ t)
abbrev KT(H:Hp):List (List Key×V)->List (List Key×Addr×Value)->Prop:=Paired fun p q=>p.1=q.1/\H q.2.1=some (.tup (p.1.map kV))/\RelV p.2 q.2.2
theorem KT.val{kvs:List (List Key×V)}{xs:List (List Key×Addr×Value)}(r:KT H kvs xs)(k:List Key):mx (bR kvs k) ((atKey xs k).map (·.2)):=by
 induction r with
 |nil=>exact True.intro
 | @cons p q ps qs h t ih =>
  obtain⟨h1,_,h2⟩:=h
  by_cases e:p.1=k
  .have e':q.1=k:=h1.symm.trans e
   have b:atKey (q::qs) k=some q.2:=by simp[atKey,List.find?_cons,e']
   rw[dR e,b];exact h2
  have e':¬q.1=k:=fun z=>e (h1.trans z)
  have b:atKey (q::qs) k=atKey qs k:=by simp[atKey,List.find?_cons,e']
  rw[dU e,b];exact ih
theorem KT.L7{kvs:List (List Key×V)}{xs:List (List Key×Addr×Value)}(r:KT H kvs xs)(k:List Key)(ry:RelV y u): KT H (kvs.map fun kv=>if kv.1=k then(kv.1,y)else kv) (xs.map (putAt k u)):=by
 induction r with
 |nil=>exact .nil
 | @cons p q ps qs h t ih =>
  rw[b5,b5];refine .cons ?_ ih;obtain⟨h1,h2,h3⟩:=h;unfold putAt
  by_cases e:p.1=k
  .rw[qp e,qp (h1.symm.trans e)];exact⟨h1,h2,ry⟩
  rw[bX e,bX (fun z=>e (h1.trans z))];exact⟨h1,h2,h3⟩
theorem KT.put{kvs:List (List Key×V)}{xs:List (List Key×Addr×Value)}(r:KT H kvs xs)(k:List Key)(hb:H b=some (.tup (k.map kV)))(ry:RelV y u): KT H (putK kvs k y) (storedH xs k b u):=by
 have e:(kvs.any fun kv=>decide (kv.1=k))=(atKey xs k).isSome:=by
  rw[nq,(r.val k).lh,Option.isSome_map]
 unfold putK storedH;rw[e]
 by_cases q:(atKey xs k).isSome=true
 .rw[qp q,qp q];exact r.L7 k ry
 rw[bX q,bX q];exact Paired.snoc r ⟨rfl,hb,ry⟩
theorem KT.keeps{kvs:List (List Key×V)}{xs:List (List Key×Addr×Value)}(r:KT H kvs xs)(ht:∀ b ys,H b=some (.tup ys)->J b=some (.tup ys)):KT J kvs xs :=
 Paired.iA r fun _ _ z=>⟨z.1,ht _ _ z.2.1,z.2.2⟩
theorem K9{u:HO}(ok:mS P w H h)(e:Rd H a u):fv P w H h a u:=e.ok ok
theorem vY(ok:mS P w H h)(e:Rd H a (.dK kvs)):kvs.length<=sizeLine/\(a==sysModules)=false/\∃ vs,KV kvs vs/\h.DictOf (bT P w) a vs :=
 show fv P w H h a (.dK kvs)from K9 ok e
theorem La(ok:mS P w H h)(e:H a=some (.dK kvs)):kvs.length<=sizeLine/\(a==sysModules)=false/\∃ vs,KV kvs vs/\h.DictOf (bT P w) a vs:=vY ok (.inl e)
theorem sr{ks:List Key}(ok:mS P w H h)(e:H a=some (.tup (ks.map kV))):(tupleKind (bT P w)).is h ks a:=by
 obtain⟨_,its,r,o,h1,h2,n,h3⟩:=(show fv P w H h a (.tup (ks.map kV))from ok a _ e)
 exact⟨o,its.toArray,n,h1,h2,b_ Prod.fst h3,by simpa using uQ r⟩
theorem vZ{kvs:List (List Key×V)}(ok:mS P w H h)(e:Rd H a (.dT kvs)):kvs.length<=sizeLine/\(a==sysModules)=false /\ ∃ xs,KT H kvs xs/\h.DictOfH (tupleKind (bT P w)) a xs:=by
 obtain⟨z,y,xs,r,o,es,ep,h1,h2,h3,h4,h5⟩:=(show fv P w H h a (.dT kvs)from K9 ok e)
 refine⟨z,y,xs,r,o,es,ep,h1,h2,h3,h4,fun x hx=>?_,h5⟩
 have all:∀{l:List (List Key×V)}{m:List (List Key×Addr×Value)},KT H l m->∀ x∈m,(tupleKind (bT P w)).is h x.1 x.2.1:=by
  intro l m q
  induction q with
  |nil=>intro x hx;exact nomatch hx
  | @cons p q ps qs hq t ih =>
   intro x hx;rcases ai.mp hx with e|hx
   .subst e
    exact sr ok (by rw[<- hq.1];exact hq.2.1)
   exact ih x hx
 exact all r x hx
theorem Q9{kvs:List (List Key×V)}(ok:mS P w H h)(e:H a=some (.dT kvs)):kvs.length<=sizeLine/\(a==sysModules)=false /\ ∃ xs,KT H kvs xs/\h.DictOfH (tupleKind (bT P w)) a xs:=vZ ok (.inl e)
def uS(H:Hp)(a:Addr)(y:V)(r:Option V):Prop :=
 (∃ kvs k,Rd H a (.dK kvs)/\y=kV k/\r=bR kvs k)\/∃ kvs k b,Rd H a (.dT kvs)/\y=.ref b/\H b=some (.tup (k.map kV))/\r=bR kvs k
def xy(H:Hp)(a:Addr)(y v:V)(J:Hp):Prop :=
 (∃ kvs k,H a=some (.dK kvs)/\y=kV k/\kvs.length<sizeLine/\J=upd H a (.dK (putK kvs k v))) \/
 ∃ kvs k b,H a=some (.dT kvs)/\y=.ref b/\H b=some (.tup (k.map kV))/\kvs.length<sizeLine/\J=upd H a (.dT (putK kvs k v))
theorem uS.k{H:Hp}{a:Addr}{kvs:List (Key×V)}{k:Key}(e:H a=some (.dK kvs)):uS H a (kV k) (bR kvs k):=.inl ⟨kvs,k,.inl e,rfl,rfl⟩
theorem xy.k{H:Hp}{a:Addr}{kvs:List (Key×V)}{k:Key}{v:V}(e:H a=some (.dK kvs))(hl:kvs.length<sizeLine):xy H a (kV k) v (upd H a (.dK (putK kvs k v))):=.inl ⟨kvs,k,e,rfl,hl,rfl⟩
section
variable{r:Value}{o:Option V}
theorem Inv.big(I:Inv X Y M H s):sysModules<s.heap.objs.size:=by
 have h:mainGlobals<s.heap.objs.size:=(I.mod.glob.keeps I.bk).lt;exact gI b4 h
theorem Ep(hu:A.units+1<cLine)(I:Inv X Y M H s)(g:uS H a y (some v))(ry:RelV y u)(h:∀ w' s',Inv X Y M H s'->RelV v w'->Q w' s'): wpAny (model X.prog X.w) A (getItem (.ref a) u) Q E s:=by
 rcases g with⟨kvs,k,e,ey,l⟩|⟨kvs,k,b,e,ey,eb,l⟩
 .subst ey
  obtain⟨z,hd,vs,rel,dd⟩:=vY I.hok e;obtain⟨w',hw,qA⟩:=mx.some_of (v:=v) (o:=valueAt vs k) (by rw[l];exact rel.val k);exact wpAny_getItem_of (lJ ry) dd.mapOf hw (h w' _ (I.tok _) qA)
 subst ey;cases(show u=Value.ref b from ry);obtain⟨z,hd,xs,rel,dd⟩:=vZ I.hok e;obtain⟨w',hw,qA⟩:=mx.some_of (v:=v) (o:=(atKey xs k).map (·.2)) (by rw[l];exact rel.val k);obtain⟨p,hp,OK⟩:=Option.map_eq_some_iff.mp hw;refine wpAny_getItem_heap (EM hu) (sr I.hok eb) dd hp ?_;rw[OK];exact h w' _ (I.tok _) qA
theorem Mm(hu:A.units+1<cLine)(I:Inv X Y M H s)(g:uS H a y o)(ry:RelV y u)(h:∀ s',Inv X Y M H s'->Q (.bool (!o.isSome)) s'): wpAny (model X.prog X.w) A (compareOp .NotIn u (.ref a)) Q E s:=by
 rcases g with⟨kvs,k,e,ey,l⟩|⟨kvs,k,b,e,ey,eb,l⟩
 .subst ey
  obtain⟨z,hd,vs,rel,dd⟩:=vY I.hok e;refine wpAny_notIn_of (lJ ry) hd dd.mapOf ?_;rw[<- (rel.val k).lh,<- l];exact h _ (I.tok _)
 subst ey;cases(show u=Value.ref b from ry);obtain⟨z,hd,xs,rel,dd⟩:=vZ I.hok e;refine wpAny_notIn_heap (EM hu) (sr I.hok eb) hd dd ?_;have q:=(rel.val k).lh;rw[Option.isSome_map]at q;rw[<- q,<- l];exact h _ (I.tok _)
theorem t8{ob:HO}(I:Inv X Y M H s)(mu:Uk (H a))(hs:Heap.SameBut a s.heap h')(he:∃ q,h'.get? a=some q)(new:fv X.prog X.w (upd H a ob) h' a ob): Inv X Y M (upd H a ob) { s with heap:=h',toks:=t' } :=
 I.write (x:=a) (e:=a) mu (.inl rfl) (fun b q hb z=>(hs.2 b hb).trans z) he new
theorem Er{vs:List (Key×Value)}(z:kvs.length<=sizeLine)(hd:(a==sysModules)=false)(rel:KV kvs vs)(dd:h'.DictOf (bT P w) a vs): fv P w J h' a (.dK kvs):=⟨z,hd,vs,rel,dd⟩
theorem Es{Q:Unit->Shared->Prop}(hu:A.units+1<cLine)(I:Inv X Y M H s)(g:xy H a y v J)(ry:RelV y u)(rv:RelV v r)(h:∀ s',Inv X Y M J s'->Q () s'): wpAny (model X.prog X.w) A (setItem (.ref a) u r) Q E s:=by
 rcases g with⟨kvs,k,e,ey,l,eH⟩|⟨kvs,k,b,e,ey,eb,l,eH⟩
 .subst ey eH
  obtain⟨z,hd,vs,rel,dd⟩:=La I.hok e;have hz:vs.length<=sizeLine:=by rw[<- rel.length];exact z
  have hl:(putK kvs k v).length <= sizeLine:=by have:=jz kvs k v;exact G
  refine wpAny_setItem_pairs (hsz:=hz) (lJ ry) dd fun h' dd' hs=>h _ ?_
  have he:∃ q,h'.get? a=some q:=let ⟨q,_,_,hq,_⟩:=dd';⟨q,hq⟩;exact t8 I (by rw[e];exact True.intro) hs he (Er hl hd (rel.put k rv) dd')
 subst ey eH;cases(show u=Value.ref b from ry);obtain⟨z,hd,xs,rel,dd⟩:=Q9 I.hok e;have hz:xs.length<=sizeLine:=by rw[<- a_ rel];exact z
 have hl:(putK kvs k v).length <= sizeLine:=by have:=jz kvs k v;exact G
 refine wpAny_setItem_heap (hsz:=hz) (EM hu) (sr I.hok eb) dd fun h' dd' hs=>h _ ?_
 obtain⟨q,es,ep,hq,h2,h3,h4,_,h5⟩:=dd';refine t8 I (by rw[e];exact True.intro) hs ⟨q,hq⟩ ⟨hl,hd,_,(rel.put k eb rv).keeps fun c ys ec=>?_,q,es,ep,hq,h2,h3,h4,h5⟩;rw[aB (aZ ec e (fun z=>nomatch z))];exact ec
end
def Ij(i:Expr):Prop:=∀ ov iv,subscripted i false ov iv=operate [ov,iv] (getItem ov iv)
theorem Ak{slice:Expr}{T id:String}(hl:typeLookup (.type T) "__getitem__"=pure (some (.builtin id)))(hs:Ij slice)(h:wpAny (model prog w) A (eval value env) (fun o s₁=>wpAny (model prog w) A (eval slice env) (fun i s₂=>s₂.TypeIs o T/\wpAny (model prog w) A (getItem o i) Q E s₂) E s₁) E s): wpAny (model prog w) A (eval (.Subscript value slice pos) env) Q E s:=by
 refine Subscript_ (d_ h (fun o s₁ h₁=>d_ h₁ (fun i s₂ h₂=>?_) fun _ _ x=>x) fun _ _ x=>x);obtain⟨hT,h₂⟩:=h₂;unfold subscriptTail;refine ae ?_;rw[getitemInPython_of_ne hT.not_modules];refine ae (wpAny_specialOf hT hl ?_)
 have fin:wpAny (model prog w) A (subscripted slice false o i) (fun r s₃=>wpAny (model prog w) A (letTemporaryGo value o r>>=fun _=>pure r) Q E s₃) E s₂:=by
  rw[hs o i];exact wpAny_operating (d_ h₂ (fun r s₃ h₃=>ae (wpAny_letTemporaryGo (aw h₃))) fun _ _ x=>x)
 first
  |exact aw (ae fin)
  |exact ae (aw (ae fin))
  |exact ae fin
theorem yQ{o:Option V}(I:Inv X Y M H s)(g:uS H a y o):s.TypeIs (.ref a) "dict":=by
 rcases g with⟨kvs,k,e,_,_⟩|⟨kvs,k,b,e,_,_,_⟩
 .obtain⟨_,_,vs,_,dd⟩:=vY I.hok e
  exact dd.typeIs
 obtain⟨_,_,xs,_,dd⟩:=vZ I.hok e;exact dd.typeIs
def Ra(td ty:TE):TE:=fun M H Q=>td M H fun x H1=>ty M H1 fun y H2=>∃ a v,x=.ref a/\uS H2 a y (some v)/\Q v H2
def Mr(ty td:TE):TE:=fun M H Q=>ty M H fun y H1=>td M H1 fun x H2=>∃ a o,x=.ref a/\uS H2 a y o/\Q (.bl (!o.isSome)) H2
def Rb(td ty tv:TE):TS:=fun D M H=>tv M H fun v H1=>td M H1 fun x H2=>ty M H2 fun y H3=>∃ a H4,x=.ref a/\xy H3 a y v H4/\D.nx M H4
section
variable{o i:Expr}
theorem uc(hu:X.A.units+1<cLine)(ho:PE X o td)(hi:PE X i ty)(hs:Ij i):PE X (.Subscript o i pos) (Ra td ty):=by
 intro Y s M H Q I h;refine Ak PySem.F.slot_dict_getitem.lookup hs (thn (ho Y s M H _ I h) fun u s1 ⟨x,H1,I1,rx,q1⟩=>thn (hi Y s1 M H1 _ I1 q1) fun iv s2 ⟨y,H2,I2,ry,a,v,ex,g,q2⟩=>?_);subst ex;obtain rfl:u=Value.ref a:=rx;exact⟨yQ I2 g,Ep hu I2 g ry fun w' s3 I3 qA=>⟨v,H2,I3,qA,q2⟩⟩
theorem Et(hu:X.A.units+1<cLine)(hi:PE X i ty)(ho:PE X o td):PC X .NotIn i o (Mr ty td):=by
 intro Y s M H Q I h;refine thn (hi Y s M H _ I h) fun iv s1 ⟨y,H1,I1,ry,q1⟩=>thn (ho Y s1 M H1 _ I1 q1) fun u s2 ⟨x,H2,I2,rx,a,ov,ex,g,q2⟩=>?_
 subst ex;obtain rfl:u=Value.ref a:=rx;exact Mm hu I2 g ry fun s3 I3=>⟨.bl (!ov.isSome),H2,I3,rfl,q2⟩
theorem ud(hu:X.A.units+1<cLine)(ho:PE X o td)(hi:PE X i ty)(hv:PE X value tv)(hs:swapsWith value (some (.Subscript o i pos')) pos.line X.env=pure false): PS X (.Assign [.Subscript o i pos'] value pos) (Rb td ty tv):=by
 intro Y s M H D I h;refine wpAny_Assign_Subscript (thn (hv Y s M H _ I h) fun r s1 ⟨v,H1,I1,rv,q1⟩=>thn (ho Y s1 M H1 _ I1 q1) fun u s2 ⟨x,H2,I2,rx,q2⟩=>thn (hi Y s2 M H2 _ I2 q2) fun iv s3 ⟨y,H3,I3,ry,a,H4,ex,g,q3⟩=>?_) hs;subst ex;obtain rfl:u=Value.ref a:=rx;exact Es hu I3 g ry rv fun s4 I4=>⟨M,H4,I4,q3⟩
end
theorem wU(h:Heap)(hb:sysModules<h.objs.size):fv P w H (h.push { cls:=.type "dict",data:=.dict #[] }) h.objs.size (.dK []):=
 ⟨mr _,jS.mpr (aS (bg hb)),[],.nil,Heap.DictOf.new h⟩
def Pg:TE:=fun _ H Q=>∀ p,H p=none->Q (.ref p) (upd H p (.dK []))
theorem qO:PE X (.Dict [] [] pos) Pg:=fun Y s M H Q I h =>
 wpAny_Dict_empty ⟨.ref s.heap.objs.size,_,I.laid (a:=s.heap.objs.size) (o:=.dK []) (t':=s.toks) (fun _ _ q=>Heap.get?_push_of_some _ q) (qnr _) (wU s.heap I.big),rfl,h _ (I.hok.fresh (qnr _))⟩
def wV:List (TE×TE)->St->Hp->(List (V×V)->Hp->Prop)->Prop
 |[],_,H,Q=>Q [] H
 |(tk,tv):: r,M,H,Q=>tk M H fun x H1=>tv M H1 fun y H2=>wV r M H2 fun ps H3=>Q ((x,y):: ps) H3
abbrev VV:List (V×V)->List (Value×Value)->Prop:=Paired fun p q=>RelV p.1 q.1/\RelV p.2 q.2
def VL(X:Cx)(pos:Pos)(keys:List (Option Expr))(values:List Expr)(JE:List (TE×TE)):Prop :=
 ∀(Y:List (Addr×Obj))(s:Shared)(M:St)(H:Hp)(Q:List (V×V)->Hp->Prop),Inv X Y M H s->wV JE M H Q ->
  wpAny (model X.prog X.w) X.A (evalPairs (pairTrees keys values X.env pos)) (fun vs s'=>∃ ps J,Inv X Y M J s'/\VV ps vs/\Q ps J) X.xe s
theorem Ms:VL X pos [] [] []:=fun Y s M H Q I h=>pairTrees_nil_walk ⟨[],H,I,.nil,h⟩
theorem nu{k v:Expr}{ks:List (Option Expr)}{vs:List Expr}{tk:TE}(hk:PE X k tk)(hv:PE X v tv)(hr:VL X pos ks vs JE): VL X pos (some k::ks) (v::vs) ((tk,tv):: JE):=fun Y s M H Q I h =>
 pairTrees_cons_walk (thn (hk Y s M H _ I h) fun u s1 ⟨x,H1,I1,rx,q1⟩=>thn (hv Y s1 M H1 _ I1 q1) fun w2 s2 ⟨y,H2,I2,ry,q2⟩ =>
  thn (hr Y s2 M H2 _ I2 q2) fun ws s3 ⟨ps,H3,I3,rel,q3⟩=>⟨(x,y):: ps,H3,I3,.cons ⟨rx,ry⟩ rel,q3⟩)
def kJ(kvs more:List (Key×V)):List (Key×V):=more.foldl (fun acc kv=>putK acc kv.1 kv.2) kvs
theorem KV.merge:∀{more:List (Key×V)}{rs:List (Key×Value)}{kvs:List (Key×V)}{vs:List (Key×Value)},KV more rs->KV kvs vs->KV (kJ kvs more) (merged vs rs):=by
 intro more rs kvs vs r;unfold KV at r
 induction r generalizing kvs vs with
 |nil=>intro q;exact q
 | @cons p q ps qs h t ih =>
  intro r0
  have e:KV (putK kvs p.1 p.2) (stored vs q.1 q.2):=by
   have:=r0.put p.1 h.2;rw[<- h.1];exact this
  exact ih e
theorem nZ:∀(more kvs:List (Key×V)),(kJ kvs more).length <= kvs.length+more.length
 |[],kvs=>by show kvs.length<=kvs.length+0;exact G
 | p::r,kvs=>by
  have h1:=nZ r (putK kvs p.1 p.2);have h2:=jz kvs p.1 p.2;show(kJ (putK kvs p.1 p.2) r).length <= _;rw[ba];exact G
theorem su{P:Program}{w:World}:∀{kvs:List (Key×V)}{ws:List (Value×Value)},VV (kvs.map fun kv=>(kV kv.1,kv.2)) ws->∃ rs,Carries (bT P w) ws rs/\KV kvs rs
 |[],_,r=>by rw[AA]at r;cases r;exact⟨[],True.intro,.nil⟩
 | p::kvs,_,r=>by
  rw[b5]at r;cases r with
  | @cons a b as bs h t =>
   obtain⟨rs,c,q⟩:=su (P:=P) (w:=w) t;obtain⟨b1,b2⟩:=b;exact⟨(p.1,b2):: rs,⟨lJ h.1,Z,c⟩,.cons ⟨Z,h.2⟩ q⟩
def Rc(JE:List (TE×TE)):TE:=fun M H Q=>∀ p,H p=none->wV JE M (upd H p (.dK [])) fun ps H2=>H2 p=some (.dK [])/\∃ kvs:List (Key×V),ps=kvs.map (fun kv=>(kV kv.1,kv.2))/\kvs.length<=15/\Q (.ref p) (upd H2 p (.dK (kJ [] kvs)))
theorem Mt{keys:List (Option Expr)}{values:List Expr}(h:VL X pos keys values JE)(hall:keys.all (·.isSome)=true)(hl:keys.length=values.length)(h0:keys≠[])(h15:keys.length<=15):PE X (.Dict keys values pos) (Rc JE):=by
 intro Y s M H Q I q;have hn:=I.hok.fresh (qnr s.heap.objs.size);have I1:=I.laid (a:=s.heap.objs.size) (o:=.dK []) (h':=s.heap.push { cls:=.type "dict",data:=.dict #[] }) (t':=s.toks) (fun _ _ q=>Heap.get?_push_of_some _ q) (qnr _) (wU s.heap I.big);refine wpAny_Dict_walk (knd:=bT X.prog X.w) hall hl h0 h15 (thn (h Y _ M _ _ I1 (q _ hn)) fun ws s2 ⟨ps,H2,I2,rel,e,kvs,ep,lk,q2⟩=>?_);subst ep;obtain⟨rs,c,rk⟩:=su (P:=X.prog) (w:=X.w) rel;obtain⟨z,hd,vs0,r0,dd⟩:=La I2.hok e;cases r0;refine⟨rs,c,dd,fun h' dd' hs=>⟨.ref s.heap.objs.size,_,?_,Z,q2⟩⟩
 have hz:(kJ [] kvs).length <= sizeLine:=by
  have h1:=nZ kvs [];rw[rX]at h1;rw[sizeLine_eq];exact G
 have he:∃ q,h'.get? s.heap.objs.size=some q:=let ⟨q,_,_,hq,_⟩:=dd';⟨q,hq⟩;exact t8 I2 (by rw[e];exact True.intro) hs he (Er hz hd (rk.merge .nil) dd')
section
variable{κ:Type}[DecidableEq κ]
theorem Al:∀{l:List κ}{k:κ},l.Nodup->¬k∈l->(l++[k]).Nodup
 |[],k,_,_=>by simp
 | a::r,k,h,hk=>by
  obtain⟨h1,h2⟩:=eW.mp h;show(a::(r++[k])).Nodup;refine eW.mpr ⟨fun m=>?_,Al h2 fun m=>hk (ai.mpr (Or.inr m))⟩;rcases aT.mp m with q|q
  .exact h1 q
  exact hk (ai.mpr (Or.inl (aI.mp q).symm))
end
theorem qP{α β:Type}{l:List α}{f:α->β->Sem (ForInStep β)}(g:α->β->β)(c:β)(h:∀ x∈l,∀ c,f x c=pure (.yield (g x c))): forIn l c f=(pure (l.foldl (fun c x=>g x c) c):Sem β):=by
 induction l generalizing c with
 |nil=>rfl
 | cons x l ih =>
  rw[kq,h x qms,pure_bind];exact ih (g x c) fun y hy=>h y (k_ _ hy)
def eX(env:Env)(names:List (Str×NameKind)):List (Str×Addr):=
 names.foldl (fun c x=>if x.2 == .free then(x.1,(env.cells.lookup x.1).getD 0):: c else c) []
theorem vN(h:∀ y∈scope.names,y.2=.free -> ∃ c,env.cells.lookup y.1=some c):closureFor scope env=pure (eX env scope.names):=by
 unfold eX;simp only[closureFor]
 rw [qP (fun x c=>if x.2 == .free then(x.1,(env.cells.lookup x.1).getD 0):: c else c) [] (fun x hx c=>by
  obtain⟨n,kind⟩:=x
  by_cases e:kind=NameKind.free
  .subst e
   obtain⟨a,ha⟩:=h _ hx rfl;have Vh:env.cells.lookup n=some a:=ha;simp only[ly,i7,cellOf,Vh,Option.getD_some,pure_bind]
  have e':(kind==NameKind.free)=false:=by simpa using e
  simp only[e',gp,kf])]
 rfl
theorem nN{env:Env}:∀{names:List (Str×NameKind)}{acc:List (Str×Addr)}{p:Str×Addr}, p∈names.foldl (fun c x=>if x.2 == .free then(x.1,(env.cells.lookup x.1).getD 0):: c else c) acc↔p∈acc\/∃ y∈names,y.2=.free /\ p=(y.1,(env.cells.lookup y.1).getD 0)
 |[],acc,p=>by simp
 | x::r,acc,p=>by
  rw[fA,nN]
  by_cases e:x.2=NameKind.free
  .rw [qp (by simpa using e)]
   constructor
   .rintro(h|⟨y,hy,h1,h2⟩)
    .rcases ai.mp h with h|h
     .exact .inr ⟨x,qms,e,h⟩
     exact .inl h
    exact .inr ⟨y,k_ _ hy,h1,h2⟩
   rintro(h|⟨y,hy,h1,h2⟩)
   .exact .inl (k_ _ h)
   rcases ai.mp hy with rfl|hy
   .exact .inl (h2 ▸ qms)
   exact .inr ⟨y,hy,h1,h2⟩
  rw[bX (by simpa using e)]
  constructor
  .rintro(h|⟨y,hy,h1,h2⟩)
   .exact .inl h
   exact .inr ⟨y,k_ _ hy,h1,h2⟩
  rintro(h|⟨y,hy,h1,h2⟩)
  .exact .inl h
  rcases ai.mp hy with rfl|hy
  .exact absurd h1 e
  exact .inr ⟨y,hy,h1,h2⟩
theorem mem_of_lookup{β:Type}:∀{l:List (Str×β)}{x:Str}{c:β},l.lookup x=some c->(x,c)∈l
 |[],_,_,h=>by simp at h
 | (n,d):: r,x,c,h=>by
  rw[fh]at h;cases e:x==n with
  | true =>
   rw[e]at h;have e':x=n:=by simpa using e
   subst e';cases h;exact qms
  | false =>
   rw[e]at h;exact k_ _ (mem_of_lookup h)
theorem oh{β:Type}:∀{l:List (Str×β)}{x:Str}{c:β},(x,c)∈l->∃ d,l.lookup x=some d
 |[],_,_,h=>nomatch h
 | (n, d):: r,x,c,h=>by
  rw[fh];cases e:x==n with
  |true=>exact⟨d,Z⟩
  | false =>
   rcases ai.mp h with h|h
   .injection h with h1 _
    subst h1;simp at e
   exact oh h
theorem gh{names:List (Str×NameKind)}(h:∀ y∈names,y.2=.free -> ∃ c,env.cells.lookup y.1=some c){c:Addr}(e:(eX env names).lookup x=some c):env.cells.lookup x=some c:=by
 rcases nN.mp (mem_of_lookup e)with z|⟨y,hy,h1,h2⟩
 .cases z
 obtain⟨d,hd⟩:=h y hy h1
 injection h2 with e1 e2
 subst e1;rw[hd]at e2;rw[hd,e2]
 rfl
theorem sy{names:List (Str×NameKind)}(h:(x,NameKind.free)∈names):∃ c,(eX env names).lookup x=some c :=
 oh (nN.mpr (.inr ⟨_,h,rfl,rfl⟩))
theorem mO{env:Env}:∀{names:List (Str×NameKind)}{x:Str}{k:NameKind}, (names.map fun(n,k)=>if (k==NameKind.free&&env.scope.kind == .function&&env.kindOf n==some .cell)then(n,NameKind.cell)else(n,k)).lookup x=some k -> ∃ k0,names.lookup x=some k0/\(k=k0\/(k0=.free /\ k=.cell))
 |[],_,_,h=>by simp at h
 | (n, k):: r,x,k',h=>by
  have ih:=@mO env r x k';rw[b5]at h
  by_cases hc:(k==NameKind.free&&env.scope.kind == .function&&env.kindOf n==some .cell)=true
  .dsimp only at h
   rw[qp hc,fh]at h;rw[fh];cases e:x==n with
   | true =>
    rw[e]at h;cases h;refine⟨k,Z,.inr ⟨?_,Z⟩⟩;simp only[eA,lI]at hc;exact hc.1.1
   | false =>
    rw[e]at h;exact ih h
  dsimp only at h;rw[bX hc,fh]at h;rw[fh];cases e:x==n with
  | true =>
   rw[e]at h;cases h;exact⟨k,Z,.inl rfl⟩
  | false =>
   rw[e]at h;exact ih h
theorem oU{env:Env}:∀{names:List (Str×NameKind)}{x:Str},names.lookup x=some .free -> (names.map fun(n,k)=>if (k==NameKind.free&&env.scope.kind == .function&&env.kindOf n==some .cell)then(n,NameKind.cell)else(n,k)).lookup x=some .cell \/ (names.map fun(n,k)=>if (k==NameKind.free&&env.scope.kind == .function&&env.kindOf n==some .cell)then(n,NameKind.cell)else(n,k)).lookup x=some .free
 |[],_,h=>by simp at h
 | (n, k):: r,x,h=>by
  have ih:=@oU env r x;rw[b5];rw[fh]at h
  by_cases hc:(k==NameKind.free&&env.scope.kind == .function&&env.kindOf n==some .cell)=true
  .dsimp only
   rw[qp hc,fh];cases e:x==n with
   |true=>exact .inl rfl
   | false =>
    rw[e]at h;exact ih h
  dsimp only;rw[bX hc,fh];cases e:x==n with
  | true =>
   rw[e]at h;cases h;exact .inr rfl
  | false =>
   rw[e]at h;exact ih h
theorem Eu{target:Expr}{it acc:Value}(I:Nat->Shared->Prop)
  (turn : ∀ n s,I n s->wpAny (model prog w) A (pyNext it) (fun r s₁=>match r with
   |none=>R (.ok .next) s₁
   | some v=>wpAny (model prog w) A (letOwnedTupleGo target it v) (fun _ Zi=>wpAny (model prog w) A (assign target env v) (fun _ s₂ =>
     wpAny (model prog w) A (forIn ifs true fun c r=>if r=true then do let ok <- isTrue c env (eval c env);pure (ForInStep.yield ok)else pure (ForInStep.yield r)) (fun ok s₃ =>
      if ok=true then wpAny (model prog w) A (eval elt env) (fun x s₄ =>
       wpAny (model prog w) A (call (.builtin "list.append") [acc,x]) (fun _ s₅=>∃ m,m<n/\I m s₅) (fun _ _=>False) s₄) (fun _ _=>False) s₃
      else ∃ m,m<n/\I m s₃) (fun _ _=>False) s₂) (fun _ _=>False) Zi) (fun _ _=>False) s₁) (fun _ _=>False) s)
  (n:Nat) (h:I n s):
  codeAny (model prog w) A (.compLoop (.ListComp elt [⟨target,iter,ifs,0⟩] scope pos) 0 it acc env) R s:=by
 refine codeAny_loop rfl I (fun n s hI=>?_) n h;show wpAny _ A ((compTurn (.ListComp elt [⟨target,iter,ifs,0⟩] scope pos) 0 it acc env).onRaise (fun x=>do noteFrame x env;theTreesLotGoes x)) _ _ s;refine wpAny_noted ?_;rw[compTurn_list];refine ae (wpAny_standAt (ae (d_ (turn n s hI) (fun r s₁ h₁=>?_) fun _ _ h'=>h'.elim)));cases r with
 |none=>exact aw h₁
 | some v =>
  refine ae (d_ h₁ (fun _ Zi h₁'=>?_) fun _ _ h'=>h'.elim);refine ae (d_ h₁' (fun _ s₂ h₂=>ae (d_ h₂ (fun ok s₃ h₃=>?_) fun _ _ h'=>h'.elim)) fun _ _ h'=>h'.elim);cases ok with
  |false=>exact aw ⟨rfl,h₃⟩
  | true =>
   exact ae (ae (d_ h₃ (fun x s₄ h₄=>ae (d_ h₄ (fun _ s₅ h₅=>aw (aw ⟨rfl,h₅⟩)) fun _ _ h'=>h'.elim)) fun _ _ h'=>h'.elim))
def Cx.tN(X:Cx)(Y:List (Addr×Obj))(scope:Scope)(cl:List (Str×Addr))(C:Addr)(N':List Str)(fp:List Addr)(s:Shared)(H:Hp):Cx :=
 { X with N:=N',s₀:=s,H₀:=H,env:=compEnvC scope cl C X.env,outer:=X.stack,ex:=fp,fn:=fun _=>false,pn:=X.pn++Y,xe:=fun _ _=>False }
def cR(ix:List (Option Nat))(M:St):St:=ix.map fun o=>o.bind fun i=>(M[i]?).join
def Ext:St->St->Prop
 |[],[]=>True
 |none::a,_::b=>Ext a b
 |some v::a,o::b=>o=some v/\Ext a b
 |_,_=>False
theorem Ext.get:∀{a b:St},Ext a b->∀(j:Nat)(v:V),a[j]?=some (some v)->b[j]?=some (some v)
 |[],[],_,j,v,h=>by simp at h
 |none::a,_::b,e,0,v,h=>by simp at h
 | none::a,_::b,e,j+1,v,h=>by
  have e:Ext a b:=e;rw[List.getElem?_cons_succ]at h ⊢;exact e.get j v h
 | some u::a,o::b,e,0,v,h=>by
  have e1:o=some u:=e.1;rw[List.getElem?_cons_zero]at h ⊢;rw[e1];exact h
 | some u::a,o::b,e,j+1,v,h=>by
  have e:Ext a b:=e.2;rw[List.getElem?_cons_succ]at h ⊢;exact e.get j v h
 |[],_::_,e,_,_,_=>e.elim
 |none::_,[],e,_,_,_=>e.elim
 |some _::_,[],e,_,_,_=>e.elim
theorem Ext.length:∀{a b:St},Ext a b->a.length=b.length
 |[],[],_=>rfl
 | none::a,_::b,e=>by
  have e:Ext a b:=e;simp[e.length]
 | some u::a,o::b,e=>by
  have e:Ext a b:=e.2;simp[e.length]
 |[],_::_,e=>e.elim
 |none::_,[],e=>e.elim
 |some _::_,[],e=>e.elim
def wg(sc:Scope)(N:List Str)(scope:Scope)(N':List Str)(ix:List (Option Nat)):Bool :=
 decide (scope.kind=.function)&&decide (∀ y∈scope.names,y.2≠.cell)&&decide (∀ y∈scope.names,y.2=.local -> scope.names.lookup y.1=some .local) &&
 decide (∀ y∈scope.names,y.2=.free -> sc.names.lookup y.1=some .cell \/ sc.names.lookup y.1=some .free)&&decide (ix.length=N'.length) &&
 ((N'.zip ix).all fun p=>p.2.all fun i=>decide (N[i]?=some p.1)&&decide (scope.names.lookup p.1=some .free))
structure qr(sc:Scope)(N:List Str)(scope:Scope)(N':List Str)(ix:List (Option Nat)):Prop where
 kind:scope.kind=.function
 DT:∀ y∈scope.names,y.2≠.cell
 names:∀ y∈scope.names,y.2=.local -> scope.names.lookup y.1=some .local
 free:∀ y∈scope.names,y.2=.free -> sc.names.lookup y.1=some .cell \/ sc.names.lookup y.1=some .free
 len:ix.length=N'.length
 at_:∀(j:Nat)(x:Str)(i:Nat),N'[j]?=some x->ix[j]?=some (some i)->N[i]?=some x/\scope.names.lookup x=some .free
theorem qr.of(h:wg sc N scope N' ix=true):qr sc N scope N' ix:=by
 unfold wg at h;simp only[eA,decide_eq_true_eq]at h;obtain⟨⟨⟨⟨⟨h1,h2⟩,h3⟩,h4⟩,h5⟩,h6⟩:=h;refine⟨h1,h2,h3,h4,h5,fun j x i e1 e2=>?_⟩
 have hz:(N'.zip ix)[j]?=some (x,some i):=by
  rw[List.getElem?_zip_eq_some];exact⟨e1,e2⟩
 have hm:(x,some i)∈N'.zip ix:=qB hz;have q:=bP.mp h6 _ hm;simp only[Option.all_some,eA,decide_eq_true_eq]at q;exact q
abbrev aL(its:List Value):Obj:={ cls:=.type "list",data:=.seq its.toArray its.length }
theorem iQ(ok:X.Ok)(AU:X.env.scope=sc)(B:qr sc N scope N' ix):∀ y∈scope.names,y.2=.free -> ∃ c,X.env.cells.lookup y.1=some c:=fun y hy e=>by
 have q:=B.free y hy e;rw[<- AU]at q;exact ok.has y.1 q
theorem Ph(I:Inv X Y M H s)(AU:X.env.scope=sc)(B:qr sc N scope N' ix)(hf:∀ b∈fp,iV X Y H b)(fS:∀ b∈fp,b<s.heap.objs.size)(hC:s.heap.objs.size<=C): (X.tN Y scope (eX X.env scope.names) C N' fp s H).Ok where
 mod:=I.ok.mod
 kind:=B.kind
 glob:=I.ok.glob
 blt:=I.ok.blt
 above:=hC
 inj:=fun x y c a b=>I.ok.inj x y c (gh (iQ I.ok AU B) a) (gh (iQ I.ok AU B) b)
 has := fun x h=>by
  have z:∃ k,(relabel scope X.env).names.lookup x=some k/\(k=.cell \/ k=.free):=by
   rcases h with h|h
   .exact⟨_,h,.inl rfl⟩
   exact⟨_,h,.inr rfl⟩
  obtain⟨k,hk,yT⟩:=z;obtain⟨k0,h0,h1⟩:=mO (env:=X.env) (names:=scope.names) hk;have hm:=mem_of_lookup h0
  have e:k0=.free:=by
   rcases h1 with h1|h1
   .subst h1
    rcases yT with e|e
    .exact absurd e (B.DT _ hm)
    exact e
   exact h1.1
  subst e;exact sy hm
 NU:=fun x c h _=>by cases h
 hd:=I.ok.hd
 frames:=I.ok.frames
 N9:=.inl rfl
 Vq := fun b hb=>⟨fun e=>by
     have:=fS b hb;have e':b=C:=e;subst e'
     exact absurd (bo this hC) (c8 _),fun x c e=>(hf b hb).2.2.2.2.1 x c (gh (iQ I.ok AU B) e)⟩
 bs:=I.bs
 EF:=gV I.ok.EF I.sz
 yn:=fun b o e hb=>by
  rcases(hf b hb).2.2.2.1 with z|z
  .exact I.ok.yn b o e z
  have q:=ax (I.ok.bs b o e).1;exact absurd (bo q z) (c8 _)
 B_:=fun b hb z=>by
  rcases ai.mp (I.nK b z)with e|e
  .exact(hf b hb).2.1 e
  exact(hf b hb).2.2.1 e
 oI:=I.stack
 II:=I.mP
theorem Mu{tk:Nat}{D:Addr}(I:Inv X Y M H s)(AU:X.env.scope=sc)(hN:X.N=N)(B:qr sc N scope N' ix)(hf:∀ b∈fp,iV X Y H b)(fS:∀ b∈fp,b<s.heap.objs.size)(hC:s.heap.objs.size<=C)(hD:s.heap.objs.size<=D)(OV:D≠C)(old:∀ b o,s.heap.get? b=some o->h1.get? b=some o)(pe:h1.Ns C (fun _=>none))(ho:h1.get? D=some (aL its))(e:s1 = { s with heap:=h1,toks:=tk }): Inv (X.tN Y scope (eX X.env scope.names) C N' fp s H) [(D,aL its)] (cR ix M) H s1:=by
 subst e;have ok':=Ph (C:=C) I AU B hf fS hC;have cells:=iQ I.ok AU B;have fresh:∀ a,s.heap.objs.size<=a->H a=none:=fun a ha=>I.hok.fresh ha
 refine⟨ok',Z,I.bare,Un.kept old,?_,?_,fresh C hC,?_,?_,I.hok.kept old,?_⟩
 .refine ⟨_,pe,fun j x v e1 e2 hv=>?_⟩
  have e2:(cR ix M)[j]?=some (some v):=e2;unfold cR at e2;rw[lS]at e2;cases q:ix[j]? with
  |none=>rw[q]at e2;cases e2
  | some o =>
   rw[q]at e2;cases o with
   |none=>cases e2
   | some i =>
    have e3:(M[i]?).join=some v:=by simpa using e2
    have e4:M[i]?=some (some v):=by
     cases r:M[i]? with
     |none=>rw[r]at e3;cases e3
     | some o =>
      rw[r]at e3;have e3:o=some v:=e3;rw[e3]
    obtain⟨n1,n2⟩:=B.at_ j x i e1 q;have n3:=B.free _ (mem_of_lookup n2) rfl;obtain⟨m,hm,hl⟩:=I.loc
    have VQ:Uh X.env.scope x:=by
     rw[AU];exact .inr n3
    obtain⟨u,r,l⟩:=hl i x v (by rw[hN];exact n1) e4 VQ;refine⟨u,r,.inr ⟨oU (env:=X.env) n2,?_⟩⟩;obtain⟨c,hc⟩:=sy (env:=X.env) (mem_of_lookup n2);refine⟨c,hc,?_⟩;have xS:=gh cells hc;rcases l with⟨k,_⟩|⟨_,c',e5,o',z1,z2⟩
    .have k:X.env.scope.names.lookup x=some .local:=k
     rw[AU]at k;rcases n3 with z|z
     .rw[k]at z;cases z
     rw[k]at z;cases z
    rw[xS]at e5;cases e5;exact⟨o',old _ _ z1,z2⟩
 .intro x c e
  obtain⟨v,o,z1,z2⟩:=I.cell x c (gh cells e);exact⟨v,o,old _ _ z1,z2⟩
 .intro x c e
  exact I.ll x c (gh cells e)
 .intro p hp
  rcases aT.mp hp with hp|hp
  .obtain⟨p1,p2,p3,p4,p5⟩:=I.pin p hp
   refine⟨old _ _ p1,p2,fun z=>?_,fun z=>?_,p5⟩
   .have z:p.1=C:=z
    have:=ax p1;rw[z]at this;exact absurd (bo this hC) (c8 _)
   rcases ai.mp (I.nK p.1 z)with e|e
   .exact p3 e
   exact p4 e
  have hp:p=(D,aL its):=aI.mp hp;subst hp;refine⟨ho,fresh D hD,OV,fun z=>?_,fun v e=>by cases e⟩
  have q:∃ o,s.heap.get? D=some o:=by
   obtain⟨_,o,z,_⟩:=I.stack.mem z;exact⟨o,z⟩
  obtain⟨o,q⟩:=q;exact absurd (bo (ax q) hD) (c8 _)
 show(ix.map _).length=N'.length;rw[dn];exact B.len
theorem Ew{s4:Shared}{H4:Hp}{σ':St}{D:Addr}{cl:List (Str×Addr)}(I:Inv X Y M H s)(hf:∀ b∈fp,iV X Y H b)(hD:s.heap.objs.size<=D)(hC:s.heap.objs.size<=C)(aac:Inv (X.tN Y scope cl C N' fp s H) [(D,aL its)] σ' H4 s4)(rv:Vals ys its)(hl:ys.length<=sizeLine):Inv X Y M (upd H4 D (.lst ys)) s4:=by
 have pD:=aac.pin (D,aL its) (pd _ qms);have NL:H4 D=none:=pD.2.1
 have neD:∀ b o,s.heap.get? b=some o->b≠D:=fun b o e z=>by
  have:=ax e;rw[z]at this;exact absurd (bo this hD) (c8 _)
 have u:=aac.base;have u:Un (kz X.stack) fp H H4 s.heap s4.heap:=u;refine I.K2 (ch:=fp) aac.os ⟨u.keep,u.slot,fun b o e n hx=>?_,u.there,fun b xs e=>?_,fun b o x e=>?_,fun b ps e=>?_⟩ ?_ aac.bare (fun b hb=>⟨(hf b hb).2.2.2.1,(hf b hb).2.1,(hf b hb).2.2.2.2.1,(hf b hb).2.2.2.2.2⟩)
 .rw[aB (neD b o e)]
  exact u.free b o e n hx
 .have q:=u.tups b xs e
  rw[aB (aG q NL)];exact q
 .have q:=u.nc b o x e
  rw[aB (aG q NL)];exact q
 .obtain⟨more,q⟩:=u.nI b ps e
  exact⟨more,by rw[aB (aG q NL)];exact q⟩
 intro b o e
 by_cases hb:b=D
 .subst hb
  rw[ao]at e;cases e;exact⟨hl,its,_,rv,pD.1⟩
 rw[aB hb]at e;exact(aac.hok b o e).stay (fun _ _ _ q=>q) (fun c q=>by rw[aB (aG q NL)];exact q) fun c xs q=>by rw[aB (aG q NL)];exact q
def Pe(X:Cx)(ifs:List Expr)(t:TT):Prop :=
 ∀(Y:List (Addr×Obj))(s:Shared)(M:St)(H:Hp)(Q:Bool->Hp->Prop),Inv X Y M H s->t M H Q ->
  wpAny (model X.prog X.w) X.A (forIn ifs true fun c r=>if r=true then do let ok <- isTrue c X.env (eval c X.env);pure (ForInStep.yield ok)else pure (ForInStep.yield r)) (TP X Y M Q) X.xe s
def Cd:TT:=fun _ H Q=>Q true H
theorem bV:Pe X [] Cd:=fun Y s M H Q I h=>wpAny_tests_nil ⟨H,I,h⟩
theorem gC{c:Expr}{t:TT}(h:PT X c t):Pe X [c] t:=fun Y s M H Q I q=>wpAny_tests_one (h Y s M H Q I q)
def jb(aac:It)(ix:List (Option Nat))(g:TG)(tt:TT)(te:TE)(M:St)(H:Hp)(Q:VK):Prop :=
 ∃ W : Nat->Nat->List V->Hp->Prop,(∃ m,W 0 m [] H)/\∀ i m ys H,W i m ys H->ys.length<=sizeLine /\
  ((aac.stop i H/\∀ p,H p=none->Q (.ref p) (upd H p (.lst ys))) \/
  (aac.go i H/\∃ N:List V->Hp->Prop,(∀ ys' J,N ys' J->∃ m',m'<m/\W (i+1) m' ys' J) /\
   ∀ x J,aac.Jn i H x J->g x (cR ix M) J fun σ2 H2=>Ext (cR ix M) σ2/\tt σ2 H2 fun ok H3=>if ok=true then te σ2 H3 fun y H4=>N (ys++[y]) H4 else N ys H3))
def Ce(wi:TI)(ix:List (Option Nat))(g:TG)(tt:TT)(te:TE):TE:=fun M H Q=>wi M H fun aac H1=>jb aac ix g tt te M H1 Q
section
variable{g:TG}
theorem Am{use:Option (Value->Sem Unit)}{QQ:Value->Shared->Prop}{Q:VK}(hc:X.calm=true)(hi:PI X tg iter wi)(AU:X.env.scope=sc)(hN:X.N=N)(B:qr sc N scope N' ix)(hg:∀ Y cl C fp s H,PG (X.tN Y scope cl C N' fp s H) tg g)(ht:∀ Y cl C fp s H,Pe (X.tN Y scope cl C N' fp s H) ifs tt)(he:∀ Y cl C fp s H,PE (X.tN Y scope cl C N' fp s H) elt te)(hs:∀ x,foldedSetIterable iter X.env x=pure x)(I:Inv X Y M H s)(h:Ce wi ix g tt te M H Q)(fin:∀(D C:Addr)(s4:Shared)(H4:Hp)(m:Str->Option Value),Inv X Y M H4 s4->Q (.ref D) H4->s4.heap.Ns C m->iV X Y H4 C -> compPost (model X.prog X.w) X.A X.xe use QQ (.ref D) C (.ok .next) s4): wpAny (model X.prog X.w) X.A (comprehension (.ListComp elt [⟨tg,iter,ifs,0⟩] scope pos) scope X.env fb (newList []) false (eval iter X.env) use) QQ X.xe s:=by
 refine wpAny_comprehension_free (use:=use) rfl hs (vN (iQ I.ok AU B)) B.kind B.names (thn (hi Y s M H _ I h) fun v s1 h1=>thn h1 fun Wq s2 h2=>?_);obtain⟨it,fp,tn,aac,H2,e,I2,T,Uy,f2,W,⟨m0,w0⟩,turn⟩:=h2;subst e;refine fR (wpAny_newFunctionEnv B.DT (by intro y hy;simp at hy) (fun h₁ M_ H_=>?_) B.kind);dsimp only at M_ H_ ⊢;generalize NJ:s2.heap.push { cls:=.type "list",dict:=none,data:=.seq ([]:List Value).toArray }=G2 at M_ H_ ⊢;have hC:G2.objs.size=s2.heap.objs.size+1:=by rw[<- NJ,ff]
 have NM:s2.heap.objs.size<=G2.objs.size:=by rw[hC];exact Nat.le_succ _
 have OV:s2.heap.objs.size≠G2.objs.size:=by rw[hC];exact bg (p9 _)
 have old:∀ b o,s2.heap.get? b=some o->h₁.get? b=some o:=fun b o e=>H_.extBut b o (by rw[hC];exact bg (n9 (ax e))) (Heap.get?_push_of_some _ (NJ ▸ Heap.get?_push_of_some _ e))
 have pk:h₁.get? s2.heap.objs.size=some (aL []):=H_.extBut _ _ OV (Heap.get?_push_of_some _ (NJ ▸ Heap.get?_push_size _ rfl))
 have fS:∀ b∈fp,b<s2.heap.objs.size:=fun b hb=>by
  obtain⟨o,e,_⟩:=T.obj _ _ Uy b hb;exact ax e
 have Lv:tn 0 h₁:=T.keep _ _ _ Uy fun b _ o e=>old b o e
 have I1:=Mu (fp:=fp) (C:=G2.objs.size) (D:=s2.heap.objs.size) (its:=[]) (h1:=h₁) (tk:=s2.toks+([]:List (Str×Value)).length) I2 AU hN B f2 fS NM (qnr _) OV old M_ pk rfl
 have XG:∀{J:Hp}{pl:List (Addr×Obj)},(∀ b∈fp,J b=none)->(∀ p∈pl,p.1=s2.heap.objs.size)->∀ b∈fp,iV (X.tN Y scope (eX X.env scope.names) G2.objs.size N' fp s2 H2) pl J b:=fun hn ij b hb=>by
  refine⟨hn b hb,fun z=>?_,fun z=>?_,.inl hb,fun x c e=>(f2 b hb).2.2.2.2.1 x c (gh (iQ I2.ok AU B) e),fun p hp=>?_⟩
  .have z:b=G2.objs.size:=z
   have:=fS b hb;rw[z,hC]at this;exact absurd (gL this) (c8 _)
  .rcases ai.mp (I2.nK b z)with e|e
   .exact(f2 b hb).2.1 e
   exact(f2 b hb).2.2.1 e
  rcases aT.mp hp with hp|hp
  .exact(f2 b hb).2.2.2.2.2 p hp
  rw[ij p hp];exact cb (fS b hb)
 have MZ:∀(o:Obj),∀ p∈[(s2.heap.objs.size,o)],p.1=s2.heap.objs.size:=fun o p hp=>by
  rw[aI.mp hp]
 have loop:codeAny (model X.prog X.w) X.A (.compLoop (.ListComp elt [⟨tg,iter,ifs,0⟩] scope pos) 0 (.ref it) (.ref s2.heap.objs.size) (compEnvC scope (eX X.env scope.names) G2.objs.size X.env))
   (compPost (model X.prog X.w) X.A X.xe use QQ (.ref s2.heap.objs.size) G2.objs.size) { s2 with heap:=h₁,toks:=s2.toks+([]:List (Str×Value)).length }:=by
  refine Eu (fun n s'=>∃ i ys J its,Inv (X.tN Y scope (eX X.env scope.names) G2.objs.size N' fp s2 H2) [(s2.heap.objs.size,aL its)] (cR ix M) J s'/\Vals ys its/\tn i s'.heap/\(∀ b∈fp,J b=none)/\W i n ys J) ?_ m0
   ⟨0,[],H2,[],I1,.nil,Lv,fun b hb=>(f2 b hb).1,w0⟩
  rintro n s3 ⟨i,ys,H3,its,I3,rv,PM,Tj,w3⟩;obtain⟨hl,tr⟩:=turn i n ys H3 w3;rcases tr with⟨stop,q⟩|⟨go,N,hN,step⟩
  .refine thn (T.done (X.tN Y scope (eX X.env scope.names) G2.objs.size N' fp s2 H2) rfl rfl rfl hc i _ s3 _ H3 _ I3 (XG Tj (MZ _)) PM stop) fun r s4 ⟨hr,I4⟩=>?_
   subst hr;have I5:=Ew I2 f2 (qnr _) NM I4 rv hl;obtain⟨m,hm,_⟩:=I4.loc;have NL:=(I4.pin (s2.heap.objs.size,aL its) (pd _ qms)).2.1;refine fin _ _ s4 _ m I5 (q _ NL) hm ?_;have hCn:H3 G2.objs.size=none:=I4.free;refine I2.sQ NM ?_;rw[aB (aS OV)];exact hCn
  refine thn (T.item (X.tN Y scope (eX X.env scope.names) G2.objs.size N' fp s2 H2) rfl rfl rfl hc i _ s3 _ H3 _ I3 (XG Tj (MZ _)) PM go) fun r s4 ⟨u,hr,h4⟩=>?_
  subst hr;refine thn h4 fun _ s5 ⟨x,H5,I5,r5,y5,Lu,XF⟩=>?_
  have YZ:=I5.pinned (XG XF (MZ _)) (T.obj _ _ Lu);refine thn (hg _ _ _ _ _ _ _ s5 _ H5 x u _ YZ r5 (step x H5 y5)) fun _ s6 ⟨σ6,H6,I6,ex6,q6⟩=>?_
  refine thn (ht _ _ _ _ _ _ _ s6 σ6 H6 _ I6 q6) fun ok s7 ⟨H7,I7,q7⟩=>?_
  have back:∀{s8:Shared}{H8:Hp}{its':List Value}{ys':List V},Inv (X.tN Y scope (eX X.env scope.names) G2.objs.size N' fp s2 H2) ([(s2.heap.objs.size,aL its')]++km fp s5.heap) σ6 H8 s8->Vals ys' its'->N ys' H8 ->
    ∃ m,m<n/\∃ i ys J its,Inv (X.tN Y scope (eX X.env scope.names) G2.objs.size N' fp s2 H2) [(s2.heap.objs.size,aL its)] (cR ix M) J s8/\Vals ys its/\tn i s8.heap/\(∀ b∈fp,J b=none)/\W i m ys J:=fun {s8 H8 its' ys'} I8 rv8 n8=>by
   obtain⟨m',hm,w8⟩:=hN ys' H8 n8;refine⟨m',hm,i+1,ys',H8,its',(I8.weak ex6.length fun j v e=>ex6.get j v e).oj,rv8,T.keep _ _ _ Lu fun b hb o e=>(I8.pin (b,o) (pd _ (pd _ (jQ hb e)))).1,fun b hb=>?_,w8⟩;obtain⟨o,e,d⟩:=T.obj _ _ Lu b hb;exact(I8.pin (b,o) (pd _ (pd _ (jQ hb e)))).2.1
  cases ok with
  | false =>
   rw[bX jv]at q7 ⊢;exact back I7 rv q7
  | true =>
   rw[qp rfl]at q7 ⊢;refine thn (he _ _ _ _ _ _ _ s7 σ6 H7 _ I7 q7) fun yv s8 ⟨y,H8,I8,r8,q8⟩=>?_
   have pD:=I8.pin (s2.heap.objs.size,aL its) (pd _ (w9 _ qms));refine append_at (hsz:=by show its.toArray.size<=sizeLine;rw[ah,<- rv.length];exact hl) pD.1 fun h9 hs9 hD9=>?_
   have e9:h9.get? s2.heap.objs.size=some (aL (its++[yv])):=by
    rw[hD9];show some ({ cls:=.type "list",data:=.seq (its.toArray.push yv) (its.length+1) }:Obj)=some { cls:=.type "list",data:=.seq (its++[yv]).toArray (its++[yv]).length };rw[af,c9,List.push_toArray]
   have I8':Inv (X.tN Y scope (eX X.env scope.names) G2.objs.size N' fp s2 H2) (km fp s5.heap) σ6 H8 s8:=I8.ri fun p hp=>I8.pin p (pd _ (pd _ hp))
   have UY:∀ p∈(X.tN Y scope (eX X.env scope.names) G2.objs.size N' fp s2 H2).pn++km fp s5.heap,p.1≠s2.heap.objs.size:=fun p hp=>by
    rcases aT.mp hp with hp|hp
    .exact bg (ax (I2.pin p hp).1)
    exact bg (fS _ (uG hp).1)
   have I9:=I8'.turned (t':=s8.toks) (it:=s2.heap.objs.size) (fun b o hb e=>hs9.extBut b o hb e) pD.2.1 OV (.inr (qnr _)) (fun x c e z=>by
    subst z;obtain⟨v,o,z1,z2⟩:=I8.cell x _ e;rw[pD.1]at z1;cases z1
    cases z2) UY
   refine back (its':=its++[yv]) (ys':=ys++[y]) (I9.ri fun p hp=>?_) (rv.append (.cons r8 .nil)) q8;rcases aT.mp hp with hp|hp
   .rw[aI.mp hp]
    exact⟨e9,pD.2.1,pD.2.2.1,pD.2.2.2.1,fun v e=>by cases e⟩
   exact I9.pin p (pd _ hp)
 exact codeAny_compStart_list loop (T.self X.A 0 _ _ _ Lv loop)
theorem bM(hc:X.calm=true)(N':List Str)(ix:List (Option Nat))(hi:PI X tg iter wi)(hB:wg X.env.scope X.N scope N' ix=true)
  (hg:∀ Y cl C fp s H,PG (X.tN Y scope cl C N' fp s H) tg g) (ht:∀ Y cl C fp s H,Pe (X.tN Y scope cl C N' fp s H) ifs tt) (he:∀ Y cl C fp s H,PE (X.tN Y scope cl C N' fp s H) elt te)
  (hs:∀ x,foldedSetIterable iter X.env x=pure x:=by intro _;rfl):PE X (.ListComp elt [⟨tg,iter,ifs,0⟩] scope pos) (Ce wi ix g tt te):=by
 intro Y s M H Q I h;rw[eval_ListComp];refine Am (use:=none) hc hi rfl rfl (qr.of hB) hg ht he hs I h fun D C s4 H4 m I4 q4 hm hf=>?_
 refine⟨m,hm,fun h' BI=>?_⟩;exact⟨.ref D,H4,I4.turned (t':=s4.toks) (fun b o hb e=>BI.extBut b o hb e) hf.1 hf.2.1 hf.2.2.2.1 hf.2.2.2.2.1 hf.2.2.2.2.2,Z,q4⟩
theorem gj{PR:Pos}(hc:X.calm=true)(N':List Str)(ix:List (Option Nat))(hNd:X.N.Nodup)(Wy:X.N[i]?=some x)(hx:X.env.scope.names.lookup x=some .local)(hi:PI X tg iter wi)(hB:wg X.env.scope X.N scope N' ix=true)
  (hg:∀ Y cl C fp s H,PG (X.tN Y scope cl C N' fp s H) tg g) (ht:∀ Y cl C fp s H,Pe (X.tN Y scope cl C N' fp s H) ifs tt) (he:∀ Y cl C fp s H,PE (X.tN Y scope cl C N' fp s H) elt te)
  (hsw:swapsWith (.ListComp elt [⟨tg,iter,ifs,0⟩] scope pos) (some (.Name x pos')) PR.line X.env=pure true:=by rfl)
  (hs:∀ x,foldedSetIterable iter X.env x=pure x:=by intro _;rfl):PS X (.Assign [.Name x pos'] (.ListComp elt [⟨tg,iter,ifs,0⟩] scope pos) PR) (Bw (Ce wi ix g tt te) (jP i)):=by
 intro Y s M H D I h;rw[exec_Assign_Name_used _ _ _ _ hsw];refine ae (wpAny_standAt (ae ?_));show wpAny _ X.A (do let _ <- comprehension (.ListComp elt [⟨tg,iter,ifs,0⟩] scope pos) scope X.env _ (newList []) false (eval iter X.env) (some (assign (.Name x pos') X.env))) _ _ s;refine ae (d_ (Am (use:=some (assign (.Name x pos') X.env)) (QQ:=fun _ s'=>SP X Y D .next s') hc hi rfl rfl (qr.of hB) hg ht he hs I h fun Da C s4 H4 m I4 q4 hm hf=>?_) (fun _ s' hq=>aw (aw hq)) fun _ _ e=>e);show wpAny _ X.A (assign (.Name x pos') X.env (.ref Da)) _ _ _;refine wpAny_assign_Name (uF (v:=.ref Da) I4 hNd Wy (.inl hx) rfl (fun s5 I5 WJ=>?_) (.inr hx));obtain⟨a,WJ,ha⟩:=WJ
 have hCa:C≠a:=by
  rcases ha with z|z
  .rw[z];exact hf.2.1
  exact fun e=>hf.2.2.2.2.1 x a z e.symm
 refine⟨m,hm.sameBut WJ hCa,fun h' BI=>?_⟩;exact⟨_,H4,I5.turned (t':=s5.toks) (fun b o hb e=>BI.extBut b o hb e) hf.1 hf.2.1 hf.2.2.2.1 hf.2.2.2.2.1 hf.2.2.2.2.2,q4⟩
end
theorem Ik{α:Type}(xs:List α)(i k:Nat):(List.range k).filterMap (fun m=>xs[i+m]?)=(xs.drop i).take k:=by
 induction k with
 |zero=>simp
 | succ k ih =>
  rw[eJ,List.filterMap_append,ih,rh,List.getElem?_drop];cases h:xs[i+k]? with
  |none=>simp[h]
  |some v=>simp[h]
theorem wj(n:Nat)(i:Int)(d:Nat):max 0 (min (if i<0 then i+(n:Int)else i) (n:Int))=((HT.fF n d (some i):Nat):Int):=by
 simp only[HT.fF]
 by_cases h:i<0
 .simp only[h,i7];exact G
 simp only[h,kf];exact G
theorem wW(a b:Nat):List.map (fun k:Nat=>((a:Int)+1*(k:Int)).toNat) (List.range (if (a:Int)<(b:Int)then((b:Int)-a+1-1)/1 else 0).toNat)=(List.range (b-a)).map fun k=>a+k:=by
 have e:(if (a:Int)<(b:Int)then((b:Int)-a+1-1)/1 else 0).toNat=b-a:=by
  split<;>exact G
 rw[e];apply g0;intro k _;exact G
theorem picked_eq(n:Nat)(lo hi:Option Int):Builtin.Str.strSliceIndices lo hi 1 n=(List.range (HT.fF n n hi-HT.fF n 0 lo)).map fun k=>HT.fF n 0 lo+k:=by
 unfold Builtin.Str.strSliceIndices sliceRange;simp only[show((1:Int)>0)=True by simp,i7];rw[<- wW];cases lo with
 | none =>
  cases hi with
  |none=>rfl
  |some j=>simp only[wj n j n];rfl
 | some i =>
  cases hi with
  |none=>simp only[wj n i 0];rfl
  |some j=>simp only[wj n i 0,wj n j n]
def dW(x:Str)(lo hi:Option Int):Str:=⟨((x.cps.toList.drop (HT.fF x.length 0 lo)).take (HT.fF x.length x.length hi-HT.fF x.length 0 lo)).toArray⟩
theorem fG(x:Str)(lo hi:Option Int):(dW x lo hi).cps.toList=(x.cps.toList.drop (HT.fF x.length 0 lo)).take (HT.fF x.length x.length hi-HT.fF x.length 0 lo):=by
 simp[dW]
theorem An(x:Str)(lo hi:Option Int):(dW x lo hi).length <= x.length:=by
 show(dW x lo hi).cps.size<=x.cps.size;rw[<- ay,fG,bp,cm,ay];exact G
def Sd:V->Option Int->Option Int->Hp->VK->Prop:=fun x lo hi H Q=>∃ z,x=.str z/\z.length<=sizeLine/\Q (.str (dW z lo hi)) H
theorem wX:VJ X Sd:=by
 intro Y s M H x v vl vu lo hi sl Q I r hs pl pu h;obtain⟨z,rfl,hz,q⟩:=h;obtain⟨t,rfl⟩:=r
 obtain⟨l,hl,el⟩:∃ l:Option (Int×Tok),vl=partValue l/\l.map (·.1)=lo:=by
  cases pl with
  |none=>exact⟨none,Z,Z⟩
  |int i t=>exact⟨some (i,t),Z,Z⟩
 obtain⟨u,hu,eu⟩:∃ u:Option (Int×Tok),vu=partValue u/\u.map (·.1)=hi:=by
  cases pu with
  |none=>exact⟨none,Z,Z⟩
  |int i t=>exact⟨some (i,t),Z,Z⟩
 subst hl hu;refine⟨"str",_,F.slot_str_getitem.lookup,pS s z t,wpAny_getItem_str_slice (l:=l) (u:=u) (st:=none) hs rfl ?_⟩
 have ep:slicePicked z l u none=(List.range (HT.fF z.length z.length hi-HT.fF z.length 0 lo)).map fun k=>HT.fF z.length 0 lo+k:=by
  unfold slicePicked;rw[el,eu];exact picked_eq z.length lo hi
 have ec:(slicePicked z l u none).filterMap (fun i=>z.cps[i]?)=(dW z lo hi).cps.toList:=by
  rw[ep,ny,fG]
  have e2:((fun i=>z.cps[i]?) ∘ fun k=>HT.fF z.length 0 lo+k)=fun m=>z.cps.toList[HT.fF z.length 0 lo+m]?:=by
   funext m
   simp
  rw[e2];exact Ik _ _ _
 unfold sliceMade
 split
 .rename_i hw
  have hw':(slicePicked z l u none).length=z.length:=by simpa using hw
  rw[ep,dn,cE]at hw'
  have e:dW z lo hi=z:=by
   have b1:HT.fF z.length z.length hi<=z.length:=HT.DI _ _ (qnr _) _
   have e1:(dW z lo hi).cps.toList=z.cps.toList:=by
    rw[fG];have lz:z.cps.toList.length=z.length:=ay
    by_cases h0:z.length=0
    .have:z.cps.toList=[]:=CM (by rw[lz,h0])
     rw[this];simp
    have a0:HT.fF z.length 0 lo=0:=G
    have b0:HT.fF z.length z.length hi=z.length:=G
    rw[a0,b0,tj,Ap,<- lz,bE]
   have e2:(dW z lo hi).cps=z.cps:=Ct.mp e1;exact b_ Str.mk e2
  rw[e]at q;exact⟨.str z,H,I,⟨t,Z⟩,q⟩
 have e:(⟨((slicePicked z l u none).filterMap (fun i=>z.cps[i]?)).toArray⟩:Str)=dW z lo hi:=by
  rw[ec]
 rw[e];exact⟨gV (An z lo hi) hz,.str (dW z lo hi),H,I.tok _,⟨_,Z⟩,q⟩
theorem lK:∀{ys:List Str}{us:List Value},Vals (ys.map V.str) us->StrsAre us ys
 |[],_,h=>by cases h;exact .nil
 | y::ys,_,h=>by
  cases h with
  | cons r t =>
   obtain⟨t',rfl⟩:=r;exact .cons _ _ (lK t)
theorem uR:∀{us:List Value}{ys:List Str},StrsAre us ys->Vals (ys.map V.str) us
 |_,_,.nil=>.nil
 |_,_,.cons x t h=>.cons ⟨t,rfl⟩ (uR h)
theorem Lb:∀{l₁:List (Key×V)}{l₂:List (Key×Value)},KV l₁ l₂->∀(j:Nat)(k:Key)(x:Value),l₂[j]?=some (k,x)->∃ v,l₁[j]?=some (k,v)
 |_,_,.nil,j,k,x,e=>by simp at e
 | p::_,_,.cons hr _,0,k,x,e=>by
  rw[List.getElem?_cons_zero]at e;have e:=kF e;subst e;have h1:p.1=k:=hr.1;exact⟨p.2,by rw[List.getElem?_cons_zero,<- h1]⟩
 | _::_,_,.cons _ t,j+1,k,x,e=>by
  rw[List.getElem?_cons_succ]at e;obtain⟨v,hv⟩:=Lb t j k x e;exact⟨v,by rw[List.getElem?_cons_succ];exact hv⟩
def Pj:List V->Hp->VK->Prop:=fun xs H Q=>∃(p:Addr)(kvs:List (Key×V))(ys:List Str),xs=[.ref p]/\H p=some (.dK kvs)/\kvs.map (·.1)=ys.map Sum.inr/\ys.length<64 /\
 ∀ l ys',H l=none->ys'.Perm ys->sortedS ys'=true->Q (.ref l) (upd H l (.lst (ys'.map V.str)))
theorem wY(hc:X.calm=true):dJ X (.builtin "sorted") Pj:=by
 intro Y s M H xs us Q I r h;obtain⟨p,kvs,ys,rfl,hp,hk,hl,q⟩:=h;obtain⟨u,rfl,ru⟩:=vals1 r;cases ru;obtain⟨hz,lo,vs,rk,hD⟩:=I.hok p _ hp
 have hlk:kvs.length=ys.length:=by
  have:=b_ List.length hk
  rwa [dn,dn]at this
 have hlv:kvs.length=vs.length:=a_ rk;obtain⟨ep,EC⟩:=hD.dictAt;have hh:X.A.handled=none:=I.ok.hd hc;refine Calls.call_function_entry kind_sorted plain_sorted entry_sorted (args_sorted1 _) ?_;unfold Builtin.«sorted»;refine ae (m:=checkCount "sorted" 1 1 _) (aw ?_);refine ae (W.kdu_collect (A:=X.A.in1) (W.kdl_dict (knd:=bT X.prog X.w) (kvs:=vs) (ep:=ep) lo) hh EC (gV (by omega:vs.length<=64) b4) fun h' tk acc qV pk=>?_);have W9:acc.toList.length=vs.length:=by rw[ay];exact pk.1
 have keys:∀(j:Nat)(kv:Key×V),kvs[j]?=some kv->∃ y,ys[j]?=some y/\kv.1=Sum.inr y:=fun j kv e=>by
  have e1:(kvs.map (·.1))[j]?=some kv.1:=by rw[lS,e];rfl
  rw[hk,lS]at e1;cases e2:ys[j]? with
  |none=>rw[e2]at e1;cases e1
  |some y=>rw[e2]at e1;exact⟨y,Z,(kF e1).symm⟩
 have RA:Vals (ys.map V.str) acc.toList:=by
  have gen:∀(us:List Value)(zs:List Str),us.length=zs.length->(∀(j:Nat) u,us[j]?=some u->∃ y t,zs[j]?=some y/\u=Value.str y t)->Vals (zs.map V.str) us:=by
   intro us
   induction us with
   | nil=>intro zs hl _;cases zs with
    |nil=>exact .nil
    |cons _ _=>simp at hl
   | cons u us ih =>
    intro zs hl h;cases zs with
    |nil=>simp at hl
    | cons z zs =>
     obtain⟨y,t,e1,e2⟩:=h 0 u rfl;rw[List.getElem?_cons_zero]at e1;cases e1;subst e2;exact .cons ⟨t,rfl⟩ (ih zs (by simpa using hl) fun j u' e=>h (j+1) u' e)
  refine gen _ _ G fun j u e=>?_
  obtain⟨k,x,e1,e2⟩:=pk.2 j u (by rw[<- Array.getElem?_toList];exact e);obtain⟨v,e3⟩:=Lb rk j k x e1;obtain⟨y,e4,e5⟩:=keys j _ e3;have e5:k=Sum.inr y:=e5;subst e5;have e2:m6 (Sum.inr y) u=true:=e2;rcases cZ e2 with⟨i,t,z1,_⟩|⟨y',t,z1,z2⟩
  .cases z1
  cases z1;exact⟨y,t,e4,z2⟩
 have hS:=lK RA;refine ae (wpAny_newList ?_ (by rw[W9];exact gV (by omega:vs.length<=64) b4));have Sj:(h'.push { cls:=.type "list",data:=.seq acc.toList.toArray }).get? h'.objs.size=some (seqObj "list" acc.toList.toArray 0):=Heap.get?_push_size _ rfl;refine ae (i4 (fw slot_list_sort ⟨_,Sj,rfl⟩ entry_list_sort (list_sort_treeK strKind_oneLt Sj hS.keysOf (fun v₁ v₂ rest e=>keyKind_strs (by rw[<- e];exact hS)) G fun ip a1 a2=>⟨_,rfl,?_⟩) (args_list_sort _)));obtain⟨ys',h1,h2,h3⟩:=sorted_out_str hS a1 a2;refine aw ⟨_,rfl,?_⟩;obtain⟨e,he⟩:=sortedHeap_at (out:=(arrOf ip).map (·.2)) Sj;have I':Inv X Y M H { s with heap:=h',toks:=tk }:=I.kept (t':=tk) qV
 have old:∀ b o,h'.get? b=some o->(sortedHeap (h'.push { cls:=.type "list",data:=.seq acc.toList.toArray }) h'.objs.size acc.toList ((arrOf ip).map (·.2))).get? b=some o:=fun b o eb'=>by
  have fS:=ax eb';rw[sortedHeap_old (bg fS) (by rw[size_push'];exact n9 fS)];exact Heap.get?_push_of_some _ eb'
 refine⟨.ref h'.objs.size,_,I'.laid (o:=.lst (ys'.map V.str)) (t':=tk) old (qnr _) ⟨?_,((arrOf ip).map (·.2)).toList,e,uR h1,?_⟩,Z,q _ ys' (I'.hok.fresh (qnr _)) h2 h3⟩
 .rw[dn,h2.length_eq]
  exact gV (mI hl) b4
 rw[he]
theorem ue:∀{bs:List Bool}{us:List Value},Vals (bs.map V.bl) us->us=bs.map Value.bool
 |[],_,h=>by cases h;rfl
 | b::bs,_,h=>by
  cases h with
  | cons r t =>
   have r:_=Value.bool b:=r;rw[b5,r,ue t]
theorem range_any(bs:List Bool):(List.range bs.length).any (fun i=>bs.getD i false)=bs.any id:=by
 induction bs with
 |nil=>rfl
 | cons b r ih =>
  rw[ba,rd,eR,eR,List.any_map,<- ih]
  rfl
theorem range_all(bs:List Bool):(List.range bs.length).all (fun i=>bs.getD i false)=bs.all id:=by
 induction bs with
 |nil=>rfl
 | cons b r ih =>
  rw[ba,rd,ib,ib,rf,<- ih]
  rfl
def Sg(K:W.Frag):List V->Hp->VK->Prop:=fun xs H Q=>∃(p:Addr)(bs:List Bool),xs=[.ref p]/\b3 K H p (bs.map V.bl)/\Q (.bl (bs.any id)) H
def Sh(K:W.Frag):List V->Hp->VK->Prop:=fun xs H Q=>∃(p:Addr)(bs:List Bool),xs=[.ref p]/\b3 K H p (bs.map V.bl)/\Q (.bl (bs.all id)) H
theorem wZ(bs:List Bool):TruthOf prog w A (fun i v=>(bs.map Value.bool).toArray[i]?=some v) (fun i=>bs.getD i false):=by
 intro i v s Q E hP hQ;have hP:(bs.map Value.bool)[i]?=some v:=by simpa using hP
 rw[lS]at hP;cases e:bs[i]? with
 |none=>rw[e]at hP;cases hP
 | some b =>
  rw[e]at hP;have hP:=kF hP;subst hP;have:bs.getD i false=b:=by simp[List.getD,e]
  have hQ:Q (bs.getD i false) s:=hQ;rw[this]at hQ;exact dE hQ
theorem Ex(hc:X.calm=true):dJ X (.builtin "any") (Sg X.K):=by
 intro Y s M H xs us Q I r h;obtain⟨p,bs,rfl,hp,q⟩:=h;obtain⟨u,rfl,ru⟩:=vals1 r;cases ru;obtain⟨its,rv,pl,hz⟩:=I.list hp;have ei:=ue rv;subst ei
 have fS:p<s.heap.objs.size:=by
  obtain⟨_,_,e,_⟩:=pl;exact ax e
 have hh:X.A.handled=none:=I.ok.hd hc;refine call_any_walk (ro pl.isList ⟨s.heap.objs.size,_,_,_,_,_,fun i=>bs.getD i false,rfl,Walks.list (A:=X.A.in1) hh s.heap.objs.size p (bg fS) (bs.map Value.bool).toArray,⟨⟨_,Heap.get?_push_size _ rfl,rfl,rfl⟩,pl.isList.push _⟩,wZ bs,fun h' tk hk=>?_⟩)
 have e:(List.range (bs.map Value.bool).toArray.size).any (fun i=>bs.getD i false)=bs.any id:=by
  rw[ah,dn];exact range_any bs
 rw[e];refine⟨.bl (bs.any id),H,I.kept (t':=tk) fun b o eb=>hk b o (fun hm=>?_) (Heap.get?_push_of_some _ eb),Z,q⟩;exact absurd (ax eb) (by rw[aI.mp hm];exact c8 _)
theorem jE(hc:X.calm=true):dJ X (.builtin "all") (Sh X.K):=by
 intro Y s M H xs us Q I r h;obtain⟨p,bs,rfl,hp,q⟩:=h;obtain⟨u,rfl,ru⟩:=vals1 r;cases ru;obtain⟨its,rv,pl,hz⟩:=I.list hp;have ei:=ue rv;subst ei
 have fS:p<s.heap.objs.size:=by
  obtain⟨_,_,e,_⟩:=pl;exact ax e
 have hh:X.A.handled=none:=I.ok.hd hc;refine call_all_walk (ro pl.isList ⟨s.heap.objs.size,_,_,_,_,_,fun i=>bs.getD i false,rfl,Walks.list (A:=X.A.in1) hh s.heap.objs.size p (bg fS) (bs.map Value.bool).toArray,⟨⟨_,Heap.get?_push_size _ rfl,rfl,rfl⟩,pl.isList.push _⟩,wZ bs,fun h' tk hk=>?_⟩)
 have e:(List.range (bs.map Value.bool).toArray.size).all (fun i=>bs.getD i false)=bs.all id:=by
  rw[ah,dn];exact range_all bs
 rw[e];refine⟨.bl (bs.all id),H,I.kept (t':=tk) fun b o eb=>hk b o (fun hm=>?_) (Heap.get?_push_of_some _ eb),Z,q⟩;exact absurd (ax eb) (by rw[aI.mp hm];exact c8 _)
def Sq:V->Option Value
 | .ty n=>some (.type n)
 | .ref a=>some (.ref a)
 |_=>none
def Ss(K:W.Frag):List V->Hp->VK->Prop:=fun xs H Q=>∃ x c t cv b,xs=[x,c]/\Sq c=some cv/\pw K H x t/\W.kitOne K t cv=some b/\Q (.bl b) H
theorem gk:dJ X (.builtin "isinstance") (Ss X.K):=by
 intro Y s M H xs us Q I r h;obtain⟨x,c,t,cv,b,rfl,hc,ty,hk,q⟩:=h;obtain⟨u,w',rfl,ru,qA⟩:=vals2 r
 have e:w'=cv:=by
  cases c with
  |ty n=>have qA:w'=Value.type n:=qA;rw[qA];exact kF hc
  |ref a=>have qA:w'=Value.ref a:=qA;rw[qA];exact kF hc
  |_=>cases hc
 subst e;exact Eh I ru ty hk fun tk=>⟨.bl b,H,I.tok tk,rfl,q⟩
inductive rJoin(K:W.Frag)(x:V)(vs:List V)(H:Hp)(Q:VK):Prop
 |mk(z:Str)(p:Addr)(ys:List Str)(_:x=.str z)(_:vs=[.ref p])(_:b3 K H p (ys.map V.str))(_:(ys.map (·.length)).sum+ys.length*z.length<=16777216)(_:Q (.str (Txt.join z ys)) H)
theorem jm:y9 X "str.join" (rJoin X.K):=by
 intro Y s M H x xs v us Q I rx r h;obtain⟨z,p,ys,rfl,rfl,hp,hs,q⟩:=h;obtain⟨t,rfl⟩:=rx;obtain⟨u,rfl,ru⟩:=vals1 r;cases ru;obtain⟨its,rv,pl,hz⟩:=I.list hp;exact join_list pl.isList (by simpa using lK rv) hs fun t' k=>⟨.str _,H,I.tok k,⟨t',rfl⟩,q⟩
section
variable{g:TG}{Q:VK}
theorem jR(Pv:Nat->List V->Hp->Prop)(h0:Pv 0 [] H)(hn:n<=sizeLine)(hl:∀ i ys H,Pv i ys H->ys.length<=i)(hs:∀ i ys H,i<n->Pv i ys H->g (.int (lo+i)) (cR ix M) H fun σ2 H2=>Ext (cR ix M) σ2/\tt σ2 H2 fun ok H3=>if ok=true then te σ2 H3 fun y H4=>Pv (i+1) (ys++[y]) H4 else Pv (i+1) ys H3)(hd:∀ ys H,Pv n ys H->∀ p,H p=none->Q (.ref p) (upd H p (.lst ys))):jb (Um lo n) ix g tt te M H Q:=by
 refine⟨fun i m ys H=>m=n-i/\i<=n/\Pv i ys H,⟨n,oz,mr _,h0⟩,?_⟩;rintro i m ys H ⟨rfl,hi,p⟩;refine⟨gV (hl _ _ _ p) (gV hi hn),?_⟩
 by_cases fS:i<n
 .refine .inr ⟨fS,Pv (i+1),fun ys' J p'=>⟨n-(i+1),G,rfl,fS,p'⟩,fun x J y=>?_⟩
  obtain⟨e,y⟩:=y;subst e y;exact hs i ys _ fS p
 have e:i=n:=G
 subst e;exact .inl ⟨qnr _,hd ys H p⟩
theorem cF(Pv:Nat->List V->Hp->Prop)(h0:Pv 0 [] H)(hn:xs.length<=sizeLine)(hl:∀ i ys H,Pv i ys H->ys.length<=i)(hx:∀ i ys H,Pv i ys H->b3 K H a xs)(hs:∀ i x ys H,xs[i]?=some x->Pv i ys H->g x (cR ix M) H fun σ2 H2=>Ext (cR ix M) σ2/\tt σ2 H2 fun ok H3=>if ok=true then te σ2 H3 fun y H4=>Pv (i+1) (ys++[y]) H4 else Pv (i+1) ys H3)(hd:∀ ys H,Pv xs.length ys H->∀ p,H p=none->Q (.ref p) (upd H p (.lst ys))):jb (Pm K a) ix g tt te M H Q:=by
 refine⟨fun i m ys H=>m=xs.length-i/\i<=xs.length/\Pv i ys H,⟨xs.length,oz,mr _,h0⟩,?_⟩;rintro i m ys H ⟨rfl,hi,p⟩;have q:=hx i ys H p;refine⟨gV (hl _ _ _ p) (gV hi hn),?_⟩
 by_cases fS:i<xs.length
 .refine .inr ⟨⟨xs,xs[i],q,by simp[fS]⟩,Pv (i+1),fun ys' J p'=>⟨xs.length-(i+1),G,rfl,fS,p'⟩,fun x J y=>?_⟩
  obtain⟨e,y⟩:=y;subst e;exact hs i x ys _ (y xs q) p
 have e:i=xs.length:=G
 subst e;exact .inl ⟨⟨xs,q,qnr _⟩,hd ys H p⟩
theorem dz(f:Nat->V)(hn:n<=sizeLine)(hs:∀ i (R:VK),i<n->R (f i) H->Ext (cR ix M) ((cR ix M).set 0 (some (.int (lo+i))))/\te ((cR ix M).set 0 (some (.int (lo+i)))) H R)(hd:∀ p,H p=none->Q (.ref p) (upd H p (.lst ((List.range n).map f)))):jb (Um lo n) ix (jP 0) Cd te M H Q:=by
 refine jR (fun i ys J=>J=H/\ys=(List.range i).map f) ⟨rfl,rfl⟩ hn (fun i ys J ⟨_,e⟩=>by rw[e];simp) ?_ (fun ys J ⟨e1,e2⟩ p hp=>by subst e1 e2;exact hd p hp);rintro i ys J hi ⟨rfl,rfl⟩;obtain⟨h1,h2⟩:=hs i (fun y H4=>H4=J/\(List.range i).map f++[y]=(List.range (i+1)).map f) hi ⟨rfl,by rw[eJ,ar];rfl⟩;exact⟨h1,h2⟩
end
theorem qQ{α:Type}{xs:List α}{i:Int}{v:α}(h0:0<=i)(h:xs[i.toNat]?=some v):sR xs i=some v:=by
 have e:i=((i.toNat:Nat):Int):=G
 rw[e];exact bh h
theorem Pk(x:Str){v:Int}(h:0<=v):(dW x none (some v)).cps.toList=x.cps.toList.take v.toNat:=by
 rw[fG]
 have e:HT.fF x.length x.length (some v)=min v.toNat x.length:=by
  show(if v<0 then _ else _)=_;rw[bX G]
 have e0:HT.fF x.length 0 none=0:=rfl;have lx:x.cps.toList.length=x.length:=ay;rw[e,e0,tj,Ap];rcases Nat.le_total v.toNat x.length with h1|h1
 .rw[EO h1]
 rw[Nat.min_eq_right h1,<- lx,bE,fI G]
section
variable{l:Expr}{t:Lc}
theorem Il(h:X.K=K:=by rfl):N0 X (Qb K):=h ▸ bj
theorem gZ(h:X.K=K:=by rfl):N0 X (P_ K):=h ▸ aJ
def Rf(K:W.Frag):List V->Hp->VK->Prop:=fun xs H Q=>∃ p ys,xs=[.ref p]/\(b3 K H p ys\/SqT K H p ys)/\Q (.int ys.length) H
theorem vO(h:X.K=K:=by rfl):dJ X (.builtin "len") (Rf K):=h ▸ aX
theorem sE(h:X.K=K:=by rfl):kH X (compareOp .In) (V_ K false):=h ▸ fX
theorem gD{k:Nat}(hK:X.K=K)(hc:X.calm=true)(h:Pf X es t)
  (hn:(assignEach es X.env).length=n:=by rfl) (ic:(assignEach es X.env).findIdx? (·.1)=none:=by rfl):PG X (.Tuple es k pos) (O1 K n t):=hK ▸ oG hc h hn ic
variable{o:Expr}{ta:TA}{T id:String}{r:V->List V->Hp->VK->Prop}
theorem Ey(hK:X.K=K) (pa:PlainAttrs T) (slot:Slot T name id) (BF:typeOf (.builtin id)=pure (.type "method_descriptor")) (hm:y9 X id r) (ho:PE X o to) (ha:PA X (e::es) ta)
  (oy:attributeBase o name X.env (eval o X.env)=eval o X.env:=by rfl)
  (D_:((backTo fb (starEach (e::es) X.env)).all (fun x=>!x.1)&&(backToKw fb (keywordEach [] X.env)).all (fun x=>x.1.isSome)
   && decide ((e::es).length+([]:List Keyword).length+(if ([]:List Keyword).isEmpty then 0 else 1)<30))=true:=by rfl)
  (sA:(apos.endLine==fb.line)=true:=by rfl) (hs:starEach (e::es) X.env=(false,eval e X.env):: starEach es X.env:=by rfl) (sx:(backTo fb (starEach es X.env)).any (·.1)=false:=by rfl):
  PE X (.Call (.Attribute o name apos) (e::es) [] fb) (Zh K T r to ta):=hK ▸ bY pa slot BF hm ho ha oy D_ sA hs sx
end
end L2
namespace Bt
open PySem
theorem len:bootBuiltins "len"=some (.builtin "len"):=by decide +kernel
theorem max:bootBuiltins "max"=some (.builtin "max"):=by decide +kernel
theorem min:bootBuiltins "min"=some (.builtin "min"):=by decide +kernel
theorem sum:bootBuiltins "sum"=some (.builtin "sum"):=by decide +kernel
theorem sorted:bootBuiltins "sorted"=some (.builtin "sorted"):=by decide +kernel
theorem any:bootBuiltins "any"=some (.builtin "any"):=by decide +kernel
theorem all:bootBuiltins "all"=some (.builtin "all"):=by decide +kernel
theorem isinstance:bootBuiltins "isinstance"=some (.builtin "isinstance"):=by decide +kernel
theorem int:bootBuiltins "int"=some (.type "int"):=by decide +kernel
theorem str:bootBuiltins "str"=some (.type "str"):=by decide +kernel
theorem bool:bootBuiltins "bool"=some (.type "bool"):=by decide +kernel
theorem list:bootBuiltins "list"=some (.type "list"):=by decide +kernel
theorem tuple:bootBuiltins "tuple"=some (.type "tuple"):=by decide +kernel
theorem zip:bootBuiltins "zip"=some (.type "zip"):=by decide +kernel
theorem enumerate:bootBuiltins "enumerate"=some (.type "enumerate"):=by decide +kernel
end Bt
namespace L2
open PySem PySem.Spec PyProof.Rows
section
variable{k:Nat}{E:XK}{o:Expr}{t:TA}{id T:String}{r:List V->Hp->VK->Prop}
theorem O(i:Nat) (hN:X.N[i]?=some x:=by kernel_rfl) (hv:X.env.scope.names.lookup x=some .local:=by kernel_rfl) (hd:(x==("__debug__":Str))=false:=by kernel_rfl) (yY:(x==("__classdict__":Str))=false:=by kernel_rfl):
  PE X (.Name x pos) (Fh i):=wG hN (.inl hv) hd yY
theorem ja(i:Nat) (hN:X.N[i]?=some x:=by kernel_rfl) (hv:X.env.scope.names.lookup x=some .cell:=by kernel_rfl) (hd:(x==("__debug__":Str))=false:=by kernel_rfl) (yY:(x==("__classdict__":Str))=false:=by kernel_rfl):
  PE X (.Name x pos) (Fh i):=wG hN (.inr (.inl hv)) hd yY
theorem iq(i:Nat)(hN:X.N.Nodup)(hi:X.N[i]?=some x:=by kernel_rfl)(hx:X.env.scope.names.lookup x=some .local:=by kernel_rfl):PG X (.Name x pos) (jP i):=pP hN hi (.inl hx) (.inr hx)
theorem pgc(i:Nat)(hN:X.N.Nodup)(hi:X.N[i]?=some x:=by kernel_rfl)(hx:X.env.scope.names.lookup x=some .cell:=by kernel_rfl)(hf:X.fn x=true:=by kernel_rfl):PG X (.Name x pos) (jP i):=pP hN hi (.inr hx) (.inl hf)
theorem fN(i:Nat)(hN:X.N.Nodup)(he:PE X e te)(hi:X.N[i]?=some x:=by kernel_rfl)(hx:X.env.scope.names.lookup x=some .local:=by kernel_rfl)(hs:swapsWith e (some (.Name x pos')) pos.line X.env=pure false:=by rfl):
  PS X (.Assign [.Name x pos'] e pos) (Bw te (jP i)):=iU hN hi (.inl hx) he hs (.inr hx)
theorem G0(i:Nat)(hN:X.N.Nodup)(he:PE X e te)(hi:X.N[i]?=some x:=by kernel_rfl)(hx:X.env.scope.names.lookup x=some .cell:=by kernel_rfl)(hf:X.fn x=true:=by kernel_rfl)(hs:swapsWith e (some (.Name x pos')) pos.line X.env=pure false:=by kernel_rfl):
  PS X (.Assign [.Name x pos'] e pos) (Bw te (jP i)):=iU hN hi (.inr hx) he hs (.inl hf)
theorem pal(i:Nat){op:Operator}(hN:X.N.Nodup)(he:PE X e te)(ho:YX X op ti)(hi:X.N[i]?=some x:=by kernel_rfl)(hx:X.env.scope.names.lookup x=some .local:=by kernel_rfl):
  PS X (.AugAssign (.Name x pos') op e pos) (O2 i te ti):=DY hN hi (.inl hx) he ho (.inr hx)
theorem Rg(F:g_ X.prog X.w X.K X.mg X.base CX k f fd ps sp)(hr:fE k X.A)(hm:X.mg x=some (.ref f))(hk:W.keepIn X.K (.ref f)=true)(hb:Binds X.K fd ps [])(hx:eE CX X E)(ha:PA X (e::es) t)
  (hg:X.env.scope.names.lookup x=some .globalImplicit:=by kernel_rfl) (mi:(x==("__debug__":Str))=false:=by kernel_rfl) (he:starEach (e::es) X.env=(false,eval e X.env):: starEach es X.env:=by rfl) (ij:(backTo pos (starEach es X.env)).any (·.1)=false:=by rfl):
  PE X (.Call (.Name x p) (e::es) [] pos) (BW sp [] E t):=pR F hr hg hm hk hb .nil hx ha mi he ij
theorem aY(hc:dJ X (.builtin id) r) (hm:X.mg x=none) (hv:bootBuiltins x=some (.builtin id)) (ha:PA X (e::es) t) (hg:X.env.scope.names.lookup x=some .globalImplicit:=by kernel_rfl) (hn:(x==("__name__":Str))=false:=by kernel_rfl) (mi:(x==("__debug__":Str))=false:=by kernel_rfl)
  (he:starEach (e::es) X.env=(false,eval e X.env):: starEach es X.env:=by rfl) (ij:(backTo pos (starEach es X.env)).any (·.1)=false:=by rfl):PE X (.Call (.Name x p) (e::es) [] pos) (Uv r t):=wM hc hg hm hv ha (by simpa using hn) mi he ij
theorem c7(hc:dJ X (.type T) r) (hm:X.mg x=none) (hv:bootBuiltins x=some (.type T)) (ha:PA X (e::es) t) (hg:X.env.scope.names.lookup x=some .globalImplicit:=by kernel_rfl) (hn:(x==("__name__":Str))=false:=by kernel_rfl) (mi:(x==("__debug__":Str))=false:=by kernel_rfl)
  (he:starEach (e::es) X.env=(false,eval e X.env):: starEach es X.env:=by rfl) (ij:(backTo pos (starEach es X.env)).any (·.1)=false:=by rfl):PE X (.Call (.Name x p) (e::es) [] pos) (Uv r t):=uN hc hg hm hv ha (by simpa using hn) mi he ij
theorem jT(hm:X.mg x=none) (hv:bootBuiltins x=some u) (hr:RelV v u) (hg:X.env.scope.names.lookup x=some .globalImplicit:=by kernel_rfl) (hn:(x==("__name__":Str))=false:=by kernel_rfl) (mi:(x==("__debug__":Str))=false:=by kernel_rfl):
  PE X (.Name x pos) (tC v):=Ly hg hm hv hr (by simpa using hn) mi
theorem fC(hm:X.mg x=some u) (hr:RelV v u) (hg:X.env.scope.names.lookup x=some .globalImplicit:=by kernel_rfl) (mi:(x==("__debug__":Str))=false:=by kernel_rfl):PE X (.Name x pos) (tC v):=Lx hg hm hr mi
theorem gF{a:Expr} (hm:X.mg "range"=none) (ha:PA X [a] t) (hg:X.env.scope.names.lookup ("range":Str)=some .globalImplicit:=by kernel_rfl) (hs:starEach [a] X.env=[(false,eval a X.env)]:=by rfl):PI X tg (.Call (.Name "range" p) [a] [] pos) (K7 t):=Eb hg hm ha hs
end
structure VO(P:Program)(w:World)(outer:List Env)(H J:Hp)(s s':Shared)(a C:Addr):Prop where
 os:s'.os=s.os
 bare:AllBare s'.gens
 un:Un (kz outer) [] H J s.heap s'.heap
 hok:mS P w J s'.heap
 free:J a=none
 fl:∃(B:Heap)(a0:Value),Heap.FlyingW B outer a (.ref C) a0 s'.heap/\(∀ b o,s.heap.get? b=some o->H b=none->b∉kz outer->B.get? b=some o)/\(∀ b o,s.heap.get? b=some o->b∉kz outer->∃ o',B.get? b=some o')/\∀ b,J b≠none->∃ o,s'.heap.get? b=some o/\B.get? b=some o
def oT(P:Program)(w:World):xA:=fun outer H s E e s'=>∃ a C J,e=.ref a/\VO P w outer H J s s' a C/\E (.ref C) none J
theorem uT(x:mS P w H h)(e:H b≠none):∃ o,h.get? b=some o:=by
 cases q:H b with
 |none=>exact absurd q e
 | some u =>
  have z:=x b u q;cases u with
  |lst xs=>obtain⟨_,_,_,_,e⟩:=z;exact⟨_,e⟩
  |tup xs=>obtain⟨_,_,_,o,e,_⟩:=z;exact⟨_,e⟩
  |dK kvs=>obtain⟨_,_,_,_,o,_,_,e,_⟩:=z;exact⟨_,e⟩
  |dT kvs=>obtain⟨_,_,_,_,o,_,_,e,_⟩:=z;exact⟨_,e⟩
  |set S n=>obtain⟨o,_,_,_,e,_⟩:=z;exact⟨_,e⟩
  |ins C dx fs=>obtain⟨_,_,_,e,_⟩:=z;exact⟨_,e⟩
  |own y=>obtain⟨_,e⟩:=z;exact⟨_,e⟩
  |xd fs=>obtain⟨_,⟨_,_,_,e,_⟩,_⟩:=z;exact⟨_,e⟩
  |vn lo hi=>obtain⟨_,_,_,e⟩:=z;exact⟨_,e⟩
  |xt ob v=>obtain⟨e,_⟩:=z;exact⟨_,e⟩
  | ET ps =>
   have z:h.get? b=some _:=z;exact⟨_,z⟩
  | met f y =>
   have z:h.get? b=some _:=z;exact⟨_,z⟩
  |ext φ=>obtain⟨_,⟨_,e⟩,_⟩:=z;exact⟨_,e⟩
theorem xf{fr:List Addr}{H0:Hp}{h0:Heap}(u:Un fr [] H0 H1 h0 h1)(keep:∀ b o,h1.get? b=some o->H1 b=none->b∉fr->h0.get? b=some o->h2.get? b=some o)(slot:∀ b o,h1.get? b=some o->H1 b=none->b∈fr->∃ sl,h2.get? b=some { o with slots:=sl })(free:∀ b,H1 b=none->(∃ o,h1.get? b=some o)->H2 b=none)(there:∀ b o,h0.get? b=some o->∃ o',h2.get? b=some o')(tups:∀ b xs,H1 b=some (.tup xs)->H2 b=some (.tup xs))(nc:∀ b o x,H1 b=some (.xt o x)->H2 b=some (.xt o x))(nI:∀ b ps,H1 b=some (.ET ps)->∃ more,H2 b=some (.ET (ps++more))):Un fr [] H0 H2 h0 h2 where
 keep:=fun b o e n hb hx=>keep b o (u.keep b o e n hb hx) (u.free b o e n hx) hb e
 slot:=fun b o e n hb hx=>by
  obtain⟨sl,e1⟩:=u.slot b o e n hb hx;obtain⟨L3,e2⟩:=slot b _ e1 (u.free b o e n hx) hb;exact⟨L3,e2⟩
 free:=fun b o e n hx=>by
  obtain⟨o',e1⟩:=u.there b o e hx;exact free b (u.free b o e n hx) ⟨o',e1⟩
 there:=fun b o e hx=>there b o e
 tups:=fun b xs e=>tups b xs (u.tups b xs e)
 nc:=fun b o x e=>nc b o x (u.nc b o x e)
 nI:=fun b ps e=>by
  obtain⟨m1,e1⟩:=u.nI b ps e;obtain⟨m2,e2⟩:=nI b _ e1;exact⟨m1++m2,by rw[e2,Array.append_assoc]⟩
section
variable{E:XK}
theorem Im{e:Addr}{vs:List Value}{Q:Unit->Shared->Prop}(I:Inv (cj CX P w K mg base N qual scope f cd A outer s H E) Y M H1 s1)(hx:Heap.MadeExcOf s1.heap h' e (.ref C) vs)(hQ:∀ h2,VO P w outer H H1 s { s1 with heap:=h2 } e C->Q () { s1 with heap:=h2 }): wpAny (model P w) (cj CX P w K mg base N qual scope f cd A outer s H E).A (leaving (cj CX P w K mg base N qual scope f cd A outer s H E).env (.ref e)) Q EE { s1 with heap:=h' }:=by
 have fm:∀ b∈kz (cj CX P w K mg base N qual scope f cd A outer s H E).stack,s1.heap.get? b≠none:=fun b hb=>by
  obtain⟨_,o,ho,_⟩:=I.stack.mem hb;rw[ho];exact fun z=>by cases z
 have UM:∀ b o,s1.heap.get? b=some o->b∉kz (cj CX P w K mg base N qual scope f cd A outer s H E).stack -> (W.hideAll s1.heap (kz (cj CX P w K mg base N qual scope f cd A outer s H E).stack)).get? b=some o:=fun b o e hb=>W.hideAll_get _ e hb
 have hl:s1.heap.FunFrames (W.hideAll s1.heap (kz (cj CX P w K mg base N qual scope f cd A outer s H E).stack)) (cj CX P w K mg base N qual scope f cd A outer s H E).stack :=
  W.funFrames_hide I.stack fun env he b hb=>gd.mpr ⟨env,he,hb⟩
 refine wpAny_leaves_madeW (base:=W.hideAll s1.heap (kz (cj CX P w K mg base N qual scope f cd A outer s H E).stack)) (h:=s1.heap) I.ok.frames rfl (fun b o q=>W.of_hideAll _ q) hl hx fun h2 t fl tup hnt xh=>hQ h2 ?_
 have keepB:∀ b o,s1.heap.get? b=some o->b∉kz (cj CX P w K mg base N qual scope f cd A outer s H E).stack -> h2.get? b=some o:=fun b o e hb=>fl.1 b o (UM b o e hb)
 have below:∀ b o,s.heap.get? b=some o->b∉kz outer->b∉kz (cj CX P w K mg base N qual scope f cd A outer s H E).stack:=fun b o e hb z=>by
  rcases ai.mp (I.nK b z)with q|q
  .have h1:=ax e
   rw[q]at h1;exact absurd (bo h1 I.ok.above) (c8 _)
  exact hb q
 have KW:∀ b∈kz (cj CX P w K mg base N qual scope f cd A outer s H E).stack,∀ o,s1.heap.get? b=some o->∃ sl,h2.get? b=some { o with slots:=sl }:=fun b hb o e=>by
  obtain⟨_,o',ho,hd⟩:=I.stack.mem hb;rw[e]at ho;cases ho;exact xh b o (hx.keeps b o e) hd
 have sub:∀ b∈kz outer,b∈kz (cj CX P w K mg base N qual scope f cd A outer s H E).stack:=fun b hb=>by
  show b∈kz (_::outer);unfold kz at hb ⊢;obtain⟨env,he,hf⟩:=gd.mp hb;exact gd.mpr ⟨env,k_ _ he,hf⟩
 have Fc:∀ b,H1 b≠none->∃ o,h2.get? b=some o/\(W.hideAll s1.heap (kz (cj CX P w K mg base N qual scope f cd A outer s H E).stack)).get? b=some o:=fun b hb=>by
  obtain⟨o,ho⟩:=uT I.hok hb;have nb:b∉kz (cj CX P w K mg base N qual scope f cd A outer s H E).stack:=fun z=>hb (I.mP b z)
  exact⟨o,keepB b o ho nb,UM b o ho nb⟩
 refine⟨I.os,I.bare,xf I.base (fun b o e _ hb e0=>keepB b o e (below b o e0 hb)) (fun b o e _ hb=>KW b (sub b hb) o e) (fun b n _=>n) (fun b o e=>?_) (fun _ _ q=>q) (fun _ _ _ q=>q) (fun b ps q=>⟨#[],by rw[q];simp⟩),fun b o q=>?_,?_,_,_,fl,fun b o e n hb=>?_,fun b o e hb=>?_,Fc⟩
 .obtain⟨o',e1⟩:=I.base.there b o e (by show b∉[];simp)
  by_cases hb:b∈kz (cj CX P w K mg base N qual scope f cd A outer s H E).stack
  .obtain⟨sl,e2⟩:=KW b hb o' e1
   exact⟨_,e2⟩
  exact⟨o',keepB b o' e1 hb⟩
 .refine(I.hok b o q).stay (fun c u hc e=>?_) (fun _ z=>z) fun _ _ z=>z
  have xS:H1 c≠none:=by
   rcases hc with rfl|hc
   .rw[q];exact fun z=>by cases z
   rw[hc];exact fun z=>by cases z
  exact keepB c u e fun z=>xS (I.mP c z)
 .cases q:H1 e with
  |none=>rfl
  | some u =>
   obtain⟨o,ho⟩:=uT I.hok (b:=e) (by rw[q];exact fun z=>by cases z);rw[hx.new]at ho;cases ho
 .have e1:=I.base.keep b o e n hb (by show b∉[];simp)
  exact UM b o e1 (below b o e hb)
 obtain⟨o',e1⟩:=I.base.there b o e (by show b∉[];simp);exact⟨o',UM b o' e1 (below b o e hb)⟩
theorem Pn{e:Addr}{Q:Unit->Shared->Prop}(I:Inv (cj CX P w K mg base N qual scope f cd A outer s H E) Y M H1 s1)(F:VO P w (cj CX P w K mg base N qual scope f cd A outer s H E).stack H1 H2 s1 s2 e C)(hQ:∀ h2,VO P w outer H H2 s { s2 with heap:=h2 } e C->Q () { s2 with heap:=h2 }): wpAny (model P w) (cj CX P w K mg base N qual scope f cd A outer s H E).A (leaving (cj CX P w K mg base N qual scope f cd A outer s H E).env (.ref e)) Q EE s2:=by
 obtain⟨OX,tI,sP,BY,K0,B,a0,KP,ic,HP,xI⟩:=F;refine wpAny_leaves_onW I.ok.frames rfl KP fun h2 fl xh=>hQ h2 ?_
 have below:∀ b o,s.heap.get? b=some o->b∉kz outer->b∉kz (cj CX P w K mg base N qual scope f cd A outer s H E).stack:=fun b o e hb z=>by
  rcases ai.mp (I.nK b z)with q|q
  .have h1:=ax e
   rw[q]at h1;exact absurd (bo h1 I.ok.above) (c8 _)
  exact hb q
 have sub:∀ b∈kz outer,b∈kz (cj CX P w K mg base N qual scope f cd A outer s H E).stack:=fun b hb=>by
  show b∈kz (_::outer);unfold kz at hb ⊢;obtain⟨env,he,hf⟩:=gd.mp hb;exact gd.mpr ⟨env,k_ _ he,hf⟩
 have KW:∀ b∈kz (cj CX P w K mg base N qual scope f cd A outer s H E).stack,∀ o,s1.heap.get? b=some o->∃ sl,h2.get? b=some { o with slots:=sl }:=fun b hb o e=>by
  obtain⟨sl,e1⟩:=sP.slot b o e (I.mP b hb) hb oz;obtain⟨_,o',ho,hd⟩:=I.stack.mem hb;rw[e]at ho;cases ho;obtain⟨L3,e2⟩:=xh b _ e1 hd;exact⟨L3,e2⟩
 have keepB:∀ b o,s1.heap.get? b=some o->H1 b=none->b∉kz (cj CX P w K mg base N qual scope f cd A outer s H E).stack -> h2.get? b=some o:=fun b o e n hb=>fl.1 b o (ic b o e n hb)
 have Fc:∀ b,H2 b≠none->∃ o,s2.heap.get? b=some o/\h2.get? b=some o/\B.get? b=some o:=fun b hb=>by
  obtain⟨o,e1,e2⟩:=xI b hb;exact⟨o,e1,fl.1 b o e2,e2⟩
 refine⟨OX.trans I.os,tI,xf I.base (fun b o e n hb e0=>keepB b o e n (below b o e0 hb)) (fun b o e _ hb=>KW b (sub b hb) o e) (fun b n ⟨o,e⟩=>sP.free b o e n oz) (fun b o e=>?_) (fun b xs q=>sP.tups b xs q) (fun b o x q=>sP.nc b o x q) (fun b ps q=>sP.nI b ps q),fun b o q=>?_,K0,B,a0,fl,fun b o e n hb=>?_,fun b o e hb=>?_,fun b hb=>?_⟩
 .obtain⟨o',e1⟩:=I.base.there b o e (by show b∉[];simp)
  by_cases hb:b∈kz (cj CX P w K mg base N qual scope f cd A outer s H E).stack
  .obtain⟨sl,e2⟩:=KW b hb o' e1
   exact⟨_,e2⟩
  obtain⟨o2,e2⟩:=HP b o' e1 hb;exact⟨o2,fl.1 b o2 e2⟩
 .refine(BY b o q).stay (fun c u hc e=>?_) (fun _ z=>z) fun _ _ z=>z
  have xS:H2 c≠none:=by
   rcases hc with rfl|hc
   .rw[q];exact fun z=>by cases z
   rw[hc];exact fun z=>by cases z
  obtain⟨o',e1,e2,_⟩:=Fc c xS;have e:s2.heap.get? c=some u:=e;rw[e1]at e;cases e;exact e2
 .have e1:=I.base.keep b o e n hb (by show b∉[];simp)
  exact ic b o e1 (I.base.free b o e n (by show b∉[];simp)) (below b o e hb)
 .obtain⟨o',e1⟩:=I.base.there b o e (by show b∉[];simp)
  exact HP b o' e1 (below b o e hb)
 obtain⟨o,_,e2,e3⟩:=Fc b hb;exact⟨o,e2,e3⟩
end
def Raises(X:Cx)(E:XK):Prop:=∀(Y:List (Addr×Obj))(M:St)(H:Hp)(s:Shared)(h':Heap)(e C:Addr)(vs:List Value),Inv X Y M H s->Heap.MadeExcOf s.heap h' e (.ref C) vs->E (.ref C) none H->X.xe (.ref e) { s with heap:=h' }
section
variable{E:XK}
theorem dM:Raises (cj (oT P w) P w K mg base N qual scope f cd A outer s H E) E:=fun Y M H1 s1 h' e C vs I hx q=>Im I hx fun h2 F=>⟨e,C,H1,rfl,F,q⟩
theorem bI:eE (oT P w) (cj (oT P w) P w K mg base N qual scope f cd A outer s H E) E:=fun Y M H1 s1 e s2 I ⟨a,C,H2,ea,F,q⟩=>by
 subst ea;exact Pn I F fun h2 F2=>⟨a,C,H2,rfl,F2,q⟩
theorem l_:PassesOwn (model (cj (oT P w) P w K mg base N qual scope f cd A outer s H E).prog (cj (oT P w) P w K mg base N qual scope f cd A outer s H E).w) (cj (oT P w) P w K mg base N qual scope f cd A outer s H E).A (cj (oT P w) P w K mg base N qual scope f cd A outer s H E).env (cj (oT P w) P w K mg base N qual scope f cd A outer s H E).xe :=
 PassesOwn.leaving
end
theorem aK:eE (oT P w) X E0:=fun _ _ _ _ _ _ _ ⟨_,_,_,_,_,q⟩=>q.elim
theorem Cf.xa{k:Nat}(F:Cf K x qual st f fd)(S:ck N ps (aR st))(len:∀ vs H Q E,sp vs H Q E->vs.length=ps.length)(sC:∀(j_:Value)(A:Around)(outer:List Env)(s:Shared)(H:Hp)(vs:List V)(Q:VK)(E:XK),fE k (A.deeper (envOfC qual (aR st) s.heap.objs.size f j_))->sp vs H Q E -> ∃ t,y6 (cj (oT P w) P w K mg base N qual (aR st) f j_ A outer s H E) (eU st) t/\t { nx:=fun _ J=>Q .non J,rt:=Q } (start N vs) H):g_ P w K mg base (oT P w) (k+1) f fd ps sp:=by
 obtain⟨oc,od,kV,doc,pm,an,j_,ct,Md,rfl,lk,yY⟩:=F.ex;exact Q6 lk yY S len fun A outer s H vs Q E hr E5=>sC j_ A outer s H vs Q E hr E5
theorem Cf.UD{k:Nat}(F:Cf K x qual st f fd)(S:ck N ps (aR st))(sC:∀(j_:Value)(A:Around)(outer:List Env)(s:Shared)(H:Hp)(vs:List V)(Q:VK)(E:XK),fE k (A.deeper (envOfC qual (aR st) s.heap.objs.size f j_))->sp vs H Q E ->
   ∃ t,y6 (cj (oT P w) P w K mg base N qual (aR st) f j_ A outer s H E) (eU st) t/\t { nx:=fun _ J=>Q .non J,rt:=Q } (start N vs) H) (len:∀ vs H Q E,sp vs H Q E->vs.length=ps.length:=by intro _ _ _ _ h;cases h;subst_vars;rfl):g_ P w K mg base (oT P w) (k+1) f fd ps sp:=F.xa S len sC
theorem Cf.fk{k:Nat}(F:Cf K x qual st f fd)(S:ck N ps (aR st))(sC:N.Nodup->∀(j_:Value)(A:Around)(outer:List Env)(s:Shared)(H:Hp)(vs:List V)(Q:VK)(E:XK),fE k (A.deeper (envOfC qual (aR st) s.heap.objs.size f j_))->sp vs H Q E ->
   ∃ t,y6 (cj (oT P w) P w K mg base N qual (aR st) f j_ A outer s H E) (eU st) t/\t { nx:=fun _ J=>Q .non J,rt:=Q } (start N vs) H) (len:∀ vs H Q E,sp vs H Q E->vs.length=ps.length:=by intro _ _ _ _ h;cases h;subst_vars;rfl):g_ P w K mg base (oT P w) (k+1) f fd ps sp:=F.UD S (sC S.nd) len
abbrev uj:List Value:=[.type "ValueError",.type "Exception",.type "BaseException",.type "object"]
theorem Mv{bmB:List Value}(X:K.In h)(q:W.excIn K C bmB newId=true): ∃ bm N nm qn bs hdct sn sub ab col dd k0 k1 k2 k3 k5 mN,h.get? C=some (excClassObj nm qn C N bs bm hdct sn sub ab col dd k0 k1 k2 k3 k5 newId)/\h.Ns N mN/\mN "__init__"=none/\OwnTail h bmB bm:=by
 unfold W.excIn at q
 split at q
 .rename_i dd cd sl ho
  split at q
  .rename_i C' bm k0 k1 k2 k3 n k5 hm hs
   simp only[eA,lI,Bool.not_eq_true']at q;obtain⟨⟨⟨⟨⟨e1,e2⟩,Ee⟩,ht⟩,hok⟩,U8⟩:=q;subst e1 e2;obtain⟨nm,bs,mro,ns,qn,hd,sn,sub,ab,col,del⟩:=cd;dsimp only at hm Ee hok U8;subst hm Ee
   have hsl:sl = #[k0,k1,k2,k3,some (.builtin n),k5]:=by
    obtain⟨l⟩:=sl;simp only at hs;rw[hs]
   subst hsl;exact⟨bm,ns,nm,qn,bs,hd,sn,sub,ab,col,dd,k0,k1,k2,k3,k5,_,X _ _ ho,.of_isNs (W.isNs_of_in X hok),W.nsMap_none_of_in X hok U8,W.tail_of_in X ht⟩
  cases q
 cases q
def Pq(C:Addr)(E:XK)(t:TA):TS:=fun _ M H=>t M H fun vs H1=>vs.length<=sizeLine/\E (.ref C) none H1
section
variable{E:XK}{np:Pos}{t:TA}
theorem dg(hR:Raises X E) (hc:X.calm=true) (hm:X.mg x=some (.ref C)) (q:W.excIn X.K C uj "ValueError.__new__"=true) (ha:PA X (e::es) t)
  (hg:X.env.scope.names.lookup x=some .globalImplicit:=by kernel_rfl) (mi:(x==("__debug__":Str))=false:=by kernel_rfl)
  (he:starEach (e::es) X.env=(false,eval e X.env):: starEach es X.env:=by rfl) (ij:(backTo fb (starEach es X.env)).any (·.1)=false:=by rfl):
  PS X (.Raise (some (.Call (.Name x np) (e::es) [] fb)) none pos) (Pq C E t):=by
 intro Y s M H D I h;obtain⟨tl,N,nm,qn,bs,hdct,sn,sub,ab,col,dd,k0,k1,k2,k3,k5,mN,hC,hN,U8,T⟩:=Mv I.mod.Kb q
 refine wpAny_Raise_call_subT (C:=C) (nm:=nm) (q:=qn) (N:=N) (bs:=bs) (bm:=tl) (hdct:=hdct) (sn:=sn) (sub:=sub) (ab:=ab) (col:=col) (dd:=dd) (k0:=k0) (k1:=k1) (k2:=k2) (k3:=k3) (k5:=k5)
  PySem.F.excBase_ValueError (mN:=mN) (T.hasType PySem.F.excBase_ValueError.hasBase) (I.ok.hd hc) (by rw[he];show(false||(backTo fb (starEach es X.env)).any (·.1))=false;rw[ij];rfl) U8 (jl I hg hm ⟨rfl,?_⟩ mi)
 have Vh:=ha fb Y s M H _ I h;rw[he]at Vh ⊢;refine AF (d_ Vh (fun us s2 h2=>?_) fun _ _ y=>y);obtain⟨vs,H2,I2,rv,hl,hE⟩:=h2;refine⟨Z,by rw[<- rv.length];exact hl,I2.bk _ _ hC,hN.keeps I2.bk,T.keeps I2.bk,fun h' e' hx=>hR Y M H2 s2 h' e' C us I2 hx hE⟩
end
def XP(X:Cx)(Y:List (Addr×Obj))(M:St)(EX:XK):Value->Shared->Prop:=fun e s'=>∃ H1 s1,Inv X Y M H1 s1/\oT X.prog X.w X.stack H1 s1 EX e s'
abbrev Pc:=St->Hp->VK->XK->Prop
abbrev NX:=Ends->XK->St->Hp->Prop
def Uj(X:Cx)(e:Expr)(t:Pc):Prop :=
 ∀(Y:List (Addr×Obj))(s:Shared)(M:St)(H:Hp)(Q:VK)(EX:XK),Inv X Y M H s->t M H Q EX->wpAny (model X.prog X.w) X.A (eval e X.env) (EP X Y M Q) (XP X Y M EX) s
def YW(X:Cx)(st:Stmt)(t:NX):Prop :=
 ∀(Y:List (Addr×Obj))(s:Shared)(M:St)(H:Hp)(D:Ends)(EX:XK),Inv X Y M H s->t D EX M H->wpAny (model X.prog X.w) X.A (exec st X.env) (SP X Y D) (XP X Y M EX) s
def Pr(X:Cx)(st:List Stmt)(t:NX):Prop :=
 ∀(Y:List (Addr×Obj))(s:Shared)(M:St)(H:Hp)(D:Ends)(EX:XK),Inv X Y M H s->t D EX M H->wpAny (model X.prog X.w) X.A (execs st X.env) (SP X Y D) (XP X Y M EX) s
def xg(sp:Sp)(dvs:List V)(t:TA):Pc:=fun M H Q EX=>t M H fun vs H1=>sp (vs++dvs) H1 Q EX
section
variable{k:Nat}{o:Expr}{t:TA}
theorem Mw{Q:VK}{EX:XK}(F:g_ X.prog X.w X.K X.mg X.base (oT X.prog X.w) k f fd ps sp)(hr:fE k X.A)(hb:Binds X.K fd ps ds)(hd:Vals dvs ds)(I:Inv X Y M H s)(r:Vals vs us)(h:sp (vs++dvs) H Q EX):wpAny (model X.prog X.w) X.A (call (.ref f) us) (EP X Y M Q) (XP X Y M EX) s:=by
 have r2:Vals (vs++dvs) (us++ds):=r.append hd;have hl:(us++ds).length=ps.length:=by rw[<- r2.length];exact F.len _ _ _ _ h
 refine wpAny_call (va (F.run X.A X.stack s H ⟨us,[]⟩ (us++ds) (vs++dvs) Q EX hr I.NO (hb s us I.kIn hl) r2 h) fun r s' hq=>?_);cases r with
 |error e=>exact⟨H,s,I,hq⟩
 | ok fl =>
  cases fl with
  |ret u=>exact I.after hq
  |next=>exact False.elim hq
  |brk=>exact False.elim hq
  |cont=>exact False.elim hq
theorem Io(F:g_ X.prog X.w X.K X.mg X.base (oT X.prog X.w) k f fd ps sp)(hr:fE k X.A)(hg:Gl X x)(hm:X.mg x=some (.ref f))(hk:W.keepIn X.K (.ref f)=true)(hb:Binds X.K fd ps ds)(hd:Vals dvs ds)
  (ha:PA X.Wg (e::es) t) (mi:(x==("__debug__":Str))=false:=by decide) (he:starEach (e::es) X.env=(false,eval e X.env):: starEach es X.env:=by rfl) (ij:(backTo pos (starEach es X.env)).any (·.1)=false:=by rfl):
  Uj X (.Call (.Name x p) (e::es) [] pos) (xg sp dvs t):=by
 intro Y s M H Q EX I h;refine de (jl I hg hm ?_ mi);refine vc (h₀:=X.base) I.ok.mod.Kb hk (d_ (ha pos Y s M H _ (I.tT _) h) (fun us s1 ⟨vs,H1,I1,r,q⟩=>⟨I1.kIn,?_⟩) fun _ _ z=>False.elim z) he ij;exact Mw F hr hb hd I1.yb r q
def Pu(te:Pc):NX:=fun D EX M H=>te M H (fun _ H1=>D.nx M H1) EX
theorem Ip{te:Pc}(he:Uj X e te)(hs:swapsWith e none pos.line X.env=pure false:=by rfl):YW X (.Expr e pos) (Pu te):=by
 intro Y s M H D EX I h;exact wpAny_Expr_any (d_ (he Y s M H _ EX I h) (fun v s1 ⟨x,H1,I1,r1,q1⟩=>⟨M,H1,I1,q1⟩) fun _ _ z=>z) I.quiet hs
def Rh(i:Nat)(te:Pc):NX:=fun D EX M H=>te M H (fun v H1=>D.nx (M.set i (some v)) H1) EX
theorem Mx{te:Pc}(hN:X.N.Nodup)(hi:X.N[i]?=some x)(hx:Loc X.env.scope x)(he:Uj X e te)(hs:swapsWith e (some (.Name x pos')) pos.line X.env=pure false:=by rfl)(hf:X.fn x=true\/X.env.scope.names.lookup x=some .local:=by first|exact .inl rfl|exact .inr rfl|assumption):
  YW X (.Assign [.Name x pos'] e pos) (Rh i te):=by
 intro Y s M H D EX I h;refine wpAny_Assign_Name (d_ (he Y s M H _ EX I h) (fun v s1 ⟨y,H1,I1,r1,q1⟩=>?_) fun _ _ z=>z) hs;exact m8 I1 hN hi hx r1 (fun s2 I2=>⟨_,H1,I2,q1⟩) hf
theorem xj{t:NX}(h1:YW X st t):Pr X [st] t:=by
 intro Y s M H D EX I h;refine wpAny_execs_cons (d_ (h1 Y s M H D EX I h) (fun f s1 q=>?_) fun _ _ z=>z);cases f with
 |next=>exact kT q
 |ret v=>exact q
 |brk=>exact q
 |cont=>exact q
end
def jn(K:W.Frag)(C:Addr):Option (List Value):=match K.lookup C with
 | some ⟨.type "type",_,.cls cd,sl⟩=>(match cd.mro,sl.toList with
  | .ref C'::bm,[_,_,_,_,some (.builtin _),_]=>if (C'==C && !cd.hasDel)=true then some bm else none
  |_,_=>none)
 |_=>none
theorem xm(X:K.In h)(q:jn K C=some bm): ∃ N nm qn bs hdct sn sub ab col dd k0 k1 k2 k3 k5 newId,h.get? C=some (excClassObj nm qn C N bs bm hdct sn sub ab col dd k0 k1 k2 k3 k5 newId):=by
 unfold jn at q
 split at q
 .rename_i dd cd sl ho
  split at q
  .rename_i C' T' k0 k1 k2 k3 n k5 hm hs
   split at q
   .rename_i hc
    cases q;simp only[eA,lI,Bool.not_eq_true']at hc;obtain⟨e1,Ee⟩:=hc;subst e1;obtain⟨nm,bs,mro,ns,qn,hd,sn,sub,ab,col,del⟩:=cd;dsimp only at hm Ee;subst hm Ee
    have hsl:sl = #[k0,k1,k2,k3,some (.builtin n),k5]:=by
     obtain⟨l⟩:=sl;simp only at hs;rw[hs]
    subst hsl;exact⟨ns,nm,qn,bs,hd,sn,sub,ab,col,dd,k0,k1,k2,k3,k5,n,X _ _ ho⟩
   cases q
  cases q
 cases q
def under(K:W.Frag)(C aad:Addr):Bool:=(jn K C).any fun bm=>(Value.ref C::bm).contains (.ref aad)
def fe(K:W.Frag)(aad:Addr):Bool:=(jn K aad).any fun bm=>bm.contains (.type "BaseException")
theorem Ao{o:Obj}(l:K.lookup C=some o):jn K C=jn [(C,o)] C:=by
 unfold jn;rw[l,List.lookup_cons_self]
theorem Tg{o:Obj}(l:K.lookup C=some o)(e:fe [(C,o)] C=true):fe K C=true:=by
 unfold fe at e ⊢;rw[Ao l];exact e
theorem Su{o:Obj}{b:Bool}(l:K.lookup C=some o)(e:under [(C,o)] C aad=b):under K C aad=b:=by
 unfold under at e ⊢;rw[Ao l];exact e
abbrev Cx.kX(X:Cx)(e:Addr):Cx:={ X with A:=X.A.mark (some (.ref e)),calm:=false,xe:=fun _ _=>False }
theorem Cx.Ok.kX(ok:X.Ok)(e:Addr):(X.kX e).Ok :=
 ⟨ok.mod,ok.kind,ok.glob,ok.blt,ok.above,ok.inj,ok.has,ok.NU,(fun z=>by cases z),ok.frames,ok.N9,ok.Vq,ok.bs,ok.EF,ok.yn,ok.B_,ok.oI,ok.II⟩
theorem Inv.kX(I:Inv X Y M H s)(e:Addr):Inv (X.kX e) Y M H s:=⟨I.ok.kX e,I.os,I.bare,I.base,I.loc,I.cell,I.free,I.ll,I.pin,I.hok,I.len⟩
theorem Inv.uncaught{e:Addr}(I:Inv (X.kX e) Y M H s)(ok:X.Ok):Inv X Y M H s:=⟨ok,I.os,I.bare,I.base,I.loc,I.cell,I.free,I.ll,I.pin,I.hok,I.len⟩
theorem Inv.landed{B h6:Heap}(I:Inv X Y M H1 s1)(xc:X.stack=X.env::X.outer)(os:s2.os=s1.os)(bare:AllBare s2.gens)(u:Un (kz X.stack) [] H1 H2 s1.heap s2.heap)(hok:mS X.prog X.w H2 s2.heap)(ic:∀ b o,s1.heap.get? b=some o->H1 b=none->b∉kz X.stack->B.get? b=some o)(HP:∀ b o,s1.heap.get? b=some o->b∉kz X.stack->∃ o',B.get? b=some o')(xI:∀ b,H2 b≠none->∃ o,s2.heap.get? b=some o/\B.get? b=some o)(fl:Heap.FlyingW B X.stack a (.ref C) a0 h6)(sm:s2.heap.UpToSlots h6):Inv X Y M H2 { s2 with heap:=h6 }:=by
 have KW:∀ b∈kz X.stack,∀ o,s1.heap.get? b=some o->∃ sl,h6.get? b=some { o with slots:=sl }:=fun b hb o e=>by
  obtain⟨sl,e1⟩:=u.slot b o e (I.mP b hb) hb oz;obtain⟨_,o',ho,hd⟩:=I.stack.mem hb;rw[e]at ho;cases ho;obtain⟨L3,e2⟩:=sm b _ e1 hd;exact⟨L3,e2⟩
 refine I.K2 (s':={ s2 with heap:=h6 }) (ch:=[]) os ⟨fun b o e n hb _=>fl.1 b o (ic b o e n hb),fun b o e _ hb _=>KW b hb o e,u.free,fun b o e _=>?_,u.tups,u.nc,u.nI⟩ (fun b o q=>?_) bare (fun b z=>absurd z oz)
 .by_cases hb:b∈kz X.stack
  .obtain⟨sl,e2⟩:=KW b hb o e
   exact⟨_,e2⟩
  obtain⟨o2,e2⟩:=HP b o e hb;exact⟨o2,fl.1 b o2 e2⟩
 refine(hok b o q).stay (fun c v hc e=>?_) (fun _ z=>z) fun _ _ z=>z
 have xS:H2 c≠none:=by
  rcases hc with rfl|hc
  .rw[q];exact fun z=>by cases z
  rw[hc];exact fun z=>by cases z
 obtain⟨o',e1,e2⟩:=xI c xS;rw[e1]at e;cases e;exact fl.1 c _ e2
open PySem PySem.Spec PyProof.Rows PySem.W
structure ExC(K:W.Frag)(C:Addr):Prop where
 hg:W.findIn K (.ref C) "__getattribute__"=some (some (.builtin "BaseException.__getattribute__"))
 hh:W.findIn K (.ref C) "__getattr__"=some none
 ha:W.findIn K (.ref C) "__class__"=some (some (.builtin "object.__class__"))
 hn:W.specialIn K (.builtin "object.__class__") "__get__"=some (some (.builtin "getset_descriptor.__get__"))
 ht:W.takesIn K (.builtin "object.__class__")=some true
 hm:W.mroIn K C (.type "object")=some true
 hB:W.mroIn K C (.type "BaseException")=some true
 EA:W.hasDictIn K C=true
end L2
namespace L2
open PySem PySem.Spec PyProof.Rows
def Ri(K:W.Frag):List V->Hp->VK->Prop:=fun xs H Q=>∃(p:Addr)(ns:List Int),xs=[.ref p]/\b3 K H p (ns.map V.int)/\0<ns.length/\∀ aad,aad∈ns->(∀ a∈ns,aad<=a)->Q (.int aad) H
theorem oV(hc:X.calm=true):dJ X (.builtin "min") (Ri X.K):=by
 intro Y s M H xs us Q I r h;obtain⟨p,ns,rfl,hp,hne,q⟩:=h;obtain⟨u,rfl,ru⟩:=vals1 r;cases ru;obtain⟨its,rv,pl,hz⟩:=I.list hp;have hi:=intsAre_of rv;have hh:X.A.handled=none:=I.ok.hd hc;obtain⟨xs,e⟩:=hi.allInts.items
 have pe:ns=xs.toList.map (·.1):=by
  rw[<- hi.numsOf,<- CI,<- e]
 have hsz:0<xs.size:=by
  have h3:=hne;rw[pe,dn,ay]at h3;exact h3
 have hl:=pl.isList;rw[e]at hl;refine min_intList hh hl hsz fun v h' tk hv hk=>?_
 obtain⟨t,rfl⟩:=z5 hv;obtain⟨h1,h2⟩:=argBest_lt (numAt xs) (xs.size-1);refine⟨.int _,H,I.kept (t':=tk) hk,⟨t,Z⟩,q _ ?_ fun a ha=>?_⟩
 .rw[pe,z4];exact getD_mem (by rw[dn,ay];exact G)
 rw[pe]at ha;obtain⟨j,hj,rfl⟩:=mem_getD ha;rw[dn,ay]at hj;rw[<- z4];exact h2 j G
theorem qC(ns:List Int):∀ k,k<=ns.length->preSum (fun i=>ns.getD i 0) k=(ns.take k).sum
 | 0,_=>by simp[preSum]
 | k+1,h=>by
  have h':k<ns.length:=G
  rw[preSum,qC ns k G,List.take_succ_eq_append_getElem h',rV];simp[List.getD,h']
theorem Aq{x:V}(r:Vals xs us)(f:xs.all fB=true)(e:us[j]?=some u):tJ x u=mw (xs.getD j .non) x:=by
 induction r generalizing j with
 |nil=>simp at e
 | @cons y v ys vs rv t ih =>
  rw[ib,eA]at f;cases j with
  |zero=>simp at e;subst e;simpa using rY rv f.1
  |succ j=>simpa using ih f.2 (by simpa using e)
theorem Ez{β : Type}{aad:Model}{Q:β->Shared->Prop}(f:Nat->β->Sem (ForInStep β))(n:Nat)(aac:Nat->β->Shared->Prop)(b:β)
  (turn:∀ i b s,i<n->aac i b s->wpAny aad A (f i b) (fun r s'=>match r with | .yield b'=>aac (i+1) b' s' | .done b'=>Q b' s') E s) (fin:∀ b s,aac n b s->Q b s) (h:aac 0 b s):wpAny aad A (forIn [:n] b f) Q E s:=by
 rw[Std.Legacy.Range.forIn_eq_forIn_range']
 have key:∀(k i:Nat)(b:β)(s:Shared),i+k=n->aac i b s->wpAny aad A (forIn (List.range' i k 1) b f) Q E s:=by
  intro k
  induction k with
  | zero => intro i b s e hj;rw[List.range'_zero,nt];obtain rfl:i=n:=G
            exact aw (fin _ _ hj)
  | succ k ih =>
   intro i b s e hj;rw[List.range'_succ,kq];refine ae (d_ (turn i b s G hj) (fun r s' hr=>?_) fun _ _ z=>z);cases r with
   |done b'=>exact aw hr
   |yield b'=>exact ih (i+1) b' s' G hr
 have e:(Std.Legacy.Range.size [:n])=n:=by simp[Std.Legacy.Range.size]
 rw[e];exact key n 0 b s G h
theorem Cg(l:Addr)(items:Array Value)(n:Nat)(dd:Option Addr)(sl:Array (Option Value))(x:Value)(e:Value->Bool)(j:Nat)(hj:j<items.size)(hit:e items[j]=true)(xl:∀ m (hm:m<items.size),m<j->e items[m]=false): Meets (Builtin.«tuple.index» ⟨[.ref l,x],[]⟩) (fun A R s=>s.heap.get? l=some { cls:=.type "tuple",dict:=dd,data:=.seq items n,slots:=sl }/\(∀ y,y∈items->SeqAt.EqAt A.in1 s y x (e y))/\R (.ok (.ret (.int j s.toks))) { s with toks:=s.toks+1 }):=
 .of_wp fun prog w A R s h=>by
  obtain⟨hp,g,d,tk,os⟩:=s;obtain⟨hl,he,h⟩:=h
  wp_walk using eC hl
  show wpAny _ _ (forIn [:min items.size items.size] _ _) _ _ _;rw[Nat.min_self];refine Ez _ _ (fun i b s'=>b.1=none/\i<=j/\s'=⟨hp,g,d,tk,os⟩) _ (fun i b s' hi ⟨hb,hij,hs⟩=>?_) (fun b s' ⟨_,hij,_⟩=>absurd hj G) ⟨rfl,mr _,rfl⟩;subst hs;have OQ:items[i]?=some items[i]:=Array.getElem?_eq_getElem hi;simp only[OQ];refine ae (he _ (Array.getElem_mem hi) prog w _ _ ?_)
  by_cases Xe:i=j
  .subst Xe
   rw[hit]
   wp_walk
   exact⟨_,Z,h⟩
  rw[xl i hi G]
  wp_walk
  exact⟨Z,G,Z⟩
inductive GW(K:W.Frag)(y:V)(vs:List V)(H:Hp)(Q:VK):Prop
 |mk(p:Addr)(xs:List V)(x:V)(j:Nat)(_:y=.ref p)(_:vs=[x])(_:SqT K H p xs)(_:fB x=true)(_:xs.all fB=true)(_:j<xs.length)(_:mw (xs.getD j .non) x=true)(_:(∀ m,m<j->mw (xs.getD m .non) x=false))(_:Q (.int j) H)
theorem EY:y9 X "tuple.index" (GW X.K):=by
 intro Y s M H y vs v us Q I ry r h;obtain⟨p,xs,x,j,rfl,rfl,hp,fx,fs,hj,hit,xl,q⟩:=h;cases ry;obtain⟨u,rfl,ru⟩:=vals1 r;obtain⟨its,rv,pl,hz⟩:=I.tuple hp;obtain⟨⟨cls,dd,data,sl⟩,ho,hc,n,hd⟩:=pl;simp only at hc hd;subst hc hd;have hlen:=rv.length
 refine f' PySem.F.slot_tuple_index ⟨_,ho,rfl⟩ PySem.F.entry_tuple_index (PySem.F.args_tuple_index_2 _ _)
  (Cg p its.toArray n dd sl u (tJ x) j (by simpa[hlen]using hj) ?_ ?_) ⟨ho,fun y hy=>iJ ru fx rv fs y (by simpa using hy),⟨.int j,H,I.tok _,⟨_,rfl⟩,q⟩⟩
 .rw[Aq (x:=x) rv fs (j:=j) oz];exact hit
 intro m hm fS;rw[Aq (x:=x) rv fs (j:=m) oz];exact xl m fS
theorem Inv.turns{p:Addr}(I:Inv X Y M H s)(hf:∀ b∈fp,iV X Y H b)(k:∀ b u,b∉fp->s.heap.get? b=some u->h'.get? b=some u)(hp:s.heap.objs.size<=p)(new:fv X.prog X.w (upd H p o) h' p o):Inv X Y M (upd H p o) { s with heap:=h',toks:=t' }:=by
 have hn:H p=none:=I.hok.fresh hp;have ne:∀ b u,H b=some u->b≠p:=fun b u e z=>by rw[z,hn]at e;cases e
 have nf:∀ b u,H b=some u->b∉fp:=fun b u e z=>by rw[(hf b z).1]at e;cases e
 have old:∀ b u,s.heap.get? b=some u->b≠p:=fun b u e=>bg (bo (ax e) hp)
 refine I.step (g':=s.gens) (d':=s.drawn) (ch:=fp) (fun b hb=>?_) (fun b u _ _ hc e _=>k b u hc e) (fun b u _ _ hc e _=>⟨u.slots,k b u hc e⟩) (fun b u _ e n=>by rw[aB (old b u e)];exact n)
  (fun b u hc e=>⟨u,k b u hc e⟩) (fun b xs e=>by rw[aB (ne _ _ e)];exact e) (fun b o' u e=>by rw[aB (ne _ _ e)];exact e) (fun b ps e=>⟨#[],by rw[aB (ne _ _ e),e];simp⟩) (fun m hm=>?_) (fun b u e=>?_) I.bare
 .obtain⟨_,f1,_,f3,f4,f5⟩:=hf b hb
  exact⟨f3,f1,f4,f5⟩
 .obtain⟨ob,es,ep,ho,r⟩:=hm
  exact⟨ob,es,ep,k _ ob (fun z=>(hf _ z).2.1 rfl) ho,r⟩
 by_cases hb:b=p
 .subst hb
  rw[ao]at e;cases e;exact new
 rw[aB hb]at e;refine(I.hok b u e).stay (fun c v hc q=>k c v ?_ q) (fun c q=>by rw[aB (ne _ _ q)];exact q) fun c xs q=>by rw[aB (ne _ _ q)];exact q
 rcases hc with z|z
 .rw[z];exact nf b u e
 exact nf c _ z
def N2(K:W.Frag)(a:Addr):It :=
 ⟨fun i H=>∃ xs x,b3 K H a xs/\xs[i]?=some x,fun i H x J=>∃ p y,x=.ref p/\H p=none/\(∀ xs,b3 K H a xs->xs[i]?=some y)/\J=upd H p (.tup [.int i,y]),fun i H=>∃ xs,b3 K H a xs/\xs.length<=i⟩
theorem Fb{x1}(a e it:Addr)(hne:e≠it):Turn P w K (.Tuple elts x1 pos) (N2 K a) [e,it] e (fun i h=>(∃ old,IsEnum h e it (i:Nat) old)/\h.IsListIter it a i) where
 mem:=by simp
 obj:=fun i h st b hb=>by
  obtain⟨⟨old,s1⟩,o,e1,c,d⟩:=st;rcases ai.mp hb with rfl|hb
  .exact⟨_,s1,fun v z=>by
    have z':Data.fields _=Data.cell v:=z
    cases z'⟩
  have q:b=it:=by simpa using hb
  subst q;exact⟨o,e1,fun v z=>by rw[d]at z;cases z⟩
 keep:=fun i h h' st k=>⟨⟨st.1.choose,k e oz _ st.1.choose_spec⟩,st.2.at fun o q=>k it oz o q⟩
 item:=by
  intro X hP hw hK hc i Y s M H E I hf st hg;subst hP hw hK;obtain⟨xs,x,hq,hx⟩:=hg;obtain⟨its,rv,p,hz⟩:=I.list hq;obtain⟨u,hu,ru⟩:=rv.get hx;obtain⟨⟨old,he⟩,hit⟩:=st;refine wpAny_pyNext_enum_item he hit p.isList (x:=u) (by simpa using hu) hne fun h' ho li tp sz kk=>?_
  refine⟨_,Z,wpAny_letOwnedTupleGo_enum (s:={ s with heap:=h',toks:=s.toks+1 }) ho fun h2 IE sb=>?_⟩
  have fS:∀ b∈[e,it],b<s.heap.objs.size:=fun b hb=>by
   rcases ai.mp hb with rfl|hb
   .exact ax he
   have q:b=it:=by simpa using hb
   subst q;obtain⟨_,e1,_⟩:=hit;exact ax e1
  have Mb:∀ b∈[e,it],b≠s.heap.objs.size:=fun b hb=>bg (fS b hb)
  have Pw:h2.get? s.heap.objs.size=some { cls:=.type "tuple",data:=.seq #[.int i s.toks,u] }:=(sb.2 _ (aS (Mb e oz))).trans tp
  have I2:Inv X Y M (upd H s.heap.objs.size (.tup [.int i,x])) { s with heap:=h2,toks:=s.toks+1 }:=by
   refine I.turns (fp:=[e,it]) hf (fun b v hb q=>?_) (qnr _) ⟨xE,[.int i s.toks,u],.cons ⟨_,rfl⟩ (.cons ru .nil),⟨_,Pw,rfl,_,rfl⟩⟩;have b1:b≠e:=fun z=>hb (by simp[z])
   have b2:b≠it:=fun z=>hb (by simp[z])
   exact(sb.2 b b1).trans (kk b v b1 b2 q)
  refine⟨.ref s.heap.objs.size,_,I2,Z,⟨_,x,Z,I.hok.fresh (qnr _),(fun ys hy=>by rw[I.sj hy hq];exact hx),Z⟩,⟨⟨u,?_⟩,?_⟩,fun b hb=>?_⟩
  .have q:((i+1:Nat):Int)=(i:Int)+1:=G
   rw[q];exact IE
  .exact li.at fun o q=>(sb.2 it (aS hne)).trans q
  rw[aB (Mb b hb)];exact(hf b hb).1
 done:=by
  intro X hP hw hK hc i Y s M H E I hf st hg;subst hP hw hK;obtain⟨xs,hq,hx⟩:=hg;obtain⟨its,rv,p,hz⟩:=I.list hq;obtain⟨⟨old,he⟩,hit⟩:=st;obtain⟨f0,f1,f2,f3,f4,f5⟩:=hf it oz;have hl:=rv.length;exact wpAny_pyNext_enum_end (I.ok.hd hc) he hit p.isList (by simp;exact G) fun h' eb=>⟨rfl,I.turned (t':=s.toks) (fun b o hb q=>eb b o hb q) f0 f1 f3 f4 f5⟩
 self:=fun _ _ _ _ _ st h=>rp st.1.choose_spec h
def Ld(K:W.Frag)(tl:TE):TI:=fun M H R=>tl M H fun x H1=>∃ a,x=.ref a/\(∃ xs,b3 K H1 a xs)/\R (N2 K a) H1
theorem My{x1} {pt:Pos} {l:Expr}  (hl:PE X l tl) (hg:Gl X "enumerate") (hm:X.mg "enumerate"=none)
  (he:starEach [l] X.env=(false,eval l X.env):: starEach [] X.env:=by rfl) (ij:(backTo fb (starEach [] X.env)).any (·.1)=false:=by rfl):
  PI X (.Tuple elts x1 pt) (.Call (.Name "enumerate" p) [l] [] fb) (Ld X.K tl):=by
 intro Y s M H R I h;refine de (ig I hg hm Bt.enumerate ?_ b4 b4);have h':vV tl oK M H (fun vs H1=>match vs with | [x]=>∃ a,x=.ref a/\(∃ xs,b3 X.K H1 a xs)/\R (N2 X.K a) H1|_=>False):=h;refine dQ (thn ((aa hl aj he) fb Y s M H _ I h') fun us s1 ⟨vs,H1,I1,r1,q1⟩=>?_) he ij
 obtain⟨x,rfl⟩:∃ x,vs=[x]:=by
  match vs,q1 with
  |[x],_=>exact⟨x,Z⟩
 obtain⟨a,rfl,⟨xs,hq⟩,q⟩:=q1;obtain⟨u,rfl,ru⟩:=vals1 r1;cases ru;obtain⟨its,rv,p,hz⟩:=I1.list hq;refine call_enumerate_list p.isList fun h' SK li sz kk=>?_
 refine rp SK ?_;refine⟨s1.heap.objs.size+1,[s1.heap.objs.size+1,s1.heap.objs.size],_,_,H1,Z,I1.kept (t':=s1.toks) kk,Fb a (s1.heap.objs.size+1) s1.heap.objs.size (Nat.succ_ne_self _),⟨⟨_,SK⟩,li⟩,fun b hb=>?_,q⟩;rcases ai.mp hb with rfl|hb
 .exact I1.sQ G (I1.hok.fresh G)
 have e:b=s1.heap.objs.size:=by simpa using hb
 subst e;exact I1.sQ (qnr _) (I1.hok.fresh (qnr _))
def N1(x:Str):It:=⟨fun i _=>i<x.cps.size,fun i H v J=>J=H/\∃ c,x.cps[i]?=some c/\v=.str ⟨#[c]⟩,fun i _=>i=x.cps.size⟩
theorem xn(x:Str)(t:Tok)(it:Addr)(T:String)(W:∀ A:Around,A.handled=none->Walks P w A it [it] [it] x.cps.size (SignAt x) (fun i h=>h.IsStrIter it T x t i))(sf:∀(A:Around)(i:Nat)(s:Shared)(Q:Value->Shared->Prop)(E:Value->Shared->Prop),s.heap.IsStrIter it T x t i->Q (.ref it) s->wpAny (model P w) A (pyIter (.ref it)) Q E s)(hT:["enumerate","zip","dict_itemiterator","dict_reverseitemiterator","odict_iterator","itertools.zip_longest","itertools.pairwise"].contains T=false): Turn P w K tg (N1 x) [it] it (fun i h=>h.IsStrIter it T x t i) where
 mem:=by simp
 obj:=fun i h st b hb=>by
  have e:b=it:=by simpa using hb
  subst e;obtain⟨o,e,c,d⟩:=st;exact⟨o,e,fun v z=>by rw[d]at z;cases z⟩
 keep:=fun i h h' ⟨o,e,r⟩ k=>⟨o,k it oz o e,r⟩
 item:=by
  intro X hP hw hK hc i Y s M H E I hf st hg;subst hP hw hK;obtain⟨f0,f1,f2,f3,f4,f5⟩:=hf it oz;refine(W X.A (I.ok.hd hc)).item i s _ _ hg st fun v h' tk hv ip kk=>?_
  obtain⟨c,u,hcu,rfl⟩:=hv;have I1:Inv X Y M H { s with heap:=h',toks:=tk }:=I.turned (fun b o hb e=>kk b o (by simpa using hb) e) f0 f1 f3 f4 f5;obtain⟨o,e,xS,d⟩:=id ip;exact⟨_,Z,vU (s:={ s with heap:=h',toks:=tk }) e xS d hT ⟨.str ⟨#[c]⟩,H,I1,⟨u,Z⟩,⟨Z,c,hcu,Z⟩,ip,fun b hb=>(hf b hb).1⟩⟩
 done:=by
  intro X hP hw hK hc i Y s M H E I hf st hg;subst hP hw hK;obtain⟨f0,f1,f2,f3,f4,f5⟩:=hf it oz;have hg:i=x.cps.size:=hg;subst hg;exact(W X.A (I.ok.hd hc)).done s _ _ st fun h' tk kk=>⟨rfl,I.turned (fun b o hb e=>kk b o (by simpa using hb) e) f0 f1 f3 f4 f5⟩
 self:=fun A i s Q E st h=>sf A i s Q E st h
def Sv(tl:TE):TI:=fun M H R=>tl M H fun v H1=>∃ x,v=.str x/\R (N1 x) H1
theorem xq{l:Expr}(hl:PE X l tl):PI X tg l (Sv tl):=by
 intro Y s M H R I h;refine thn (hl Y s M H _ I h) fun v s1 ⟨y,H1,I1,r1,q1⟩=>?_
 obtain⟨x,e,q⟩:=q1;subst e;obtain⟨t,rfl⟩:=r1
 have fp:∀ b∈[s1.heap.objs.size],iV X Y H1 b:=fun b hb=>by
  have e:b=s1.heap.objs.size:=by simpa using hb
  subst e;exact I1.sQ (qnr _) (I1.hok.fresh (qnr _))
 cases ha:x.cps.all (· < 128)
 .refine wpAny_pyIter_wide ha ⟨s1.heap.objs.size,[s1.heap.objs.size],_,_,H1,rfl,I1.kept (t':=s1.toks) fun b o e=>Heap.get?_push_of_some _ e,xn x t _ "str_iterator" (fun A hA=>Walks.strWide hA _ x t) (fun _ _ _ _ _ st h=>wpAny_pyIter_striter_wide st h) b4,⟨_,Heap.get?_push_size _ rfl,rfl,rfl⟩,fp,q⟩
 refine wpAny_pyIter_ascii ha ⟨s1.heap.objs.size,[s1.heap.objs.size],_,_,H1,rfl,I1.kept (t':=s1.toks) fun b o e=>Heap.get?_push_of_some _ e,xn x t _ "str_ascii_iterator" (fun A hA=>Walks.strAscii hA _ x t) (fun _ _ _ _ _ st h=>wpAny_pyIter_striter_ascii st h) b4,⟨_,Heap.get?_push_size _ rfl,rfl,rfl⟩,fp,q⟩
section
variable{g:TG}{tb:TS}{Q:VK}
theorem Ir(Pv:Nat->St->Hp->Prop)(h0:Pv 0 M H)(hx:∀ i M H,i<=xs.length->Pv i M H->b3 K H a xs)(hs:∀ i x M H,xs[i]?=some x->Pv i M H->∀ p,H p=none->g (.ref p) M (upd H p (.tup [.int i,x])) fun σ2 H2=>tb { D with nx:=Pv (i+1),ct:=Pv (i+1),bk:=D.nx } σ2 H2)(hd:∀ M H,Pv xs.length M H->D.nx M H):∃ W:Nat->Nat->St->Hp->Prop,(∃ m,W 0 m M H)/\∀ i m M H,W i m M H -> ((N2 K a).stop i H/\D.nx M H)\/((N2 K a).go i H/\∃ N:St->Hp->Prop,(∀ σ' J,N σ' J->∃ m',m'<m/\W (i+1) m' σ' J)/\∀ x J,(N2 K a).Jn i H x J->g x M J fun σ2 H2=>tb { D with nx:=N,ct:=N,bk:=D.nx } σ2 H2):=by
 refine⟨fun i m M H=>m=xs.length-i/\i<=xs.length/\Pv i M H,⟨xs.length,oz,mr _,h0⟩,?_⟩;rintro i m M H ⟨rfl,hi,p⟩;have q:=hx i M H hi p
 by_cases fS:i<xs.length
 .refine .inr ⟨⟨xs,xs[i],q,by simp[fS]⟩,Pv (i+1),fun σ' J p'=>⟨xs.length-(i+1),G,rfl,fS,p'⟩,fun x J y=>?_⟩
  obtain⟨r,z,rfl,hn,hz,rfl⟩:=y;exact hs i z M _ (hz xs q) p r hn
 have e:i=xs.length:=G
 subst e;exact .inl ⟨⟨xs,q,qnr _⟩,hd M H p⟩
theorem Mz(Pv:Nat->St->Hp->Prop)(h0:Pv 0 M H)(hs:∀ i c M H,x.cps[i]?=some c->Pv i M H->g (.str ⟨#[c]⟩) M H fun σ2 H2=>tb { D with nx:=Pv (i+1),ct:=Pv (i+1),bk:=D.nx } σ2 H2)(hd:∀ M H,Pv x.cps.size M H->D.nx M H):∃ W:Nat->Nat->St->Hp->Prop,(∃ m,W 0 m M H)/\∀ i m M H,W i m M H -> ((N1 x).stop i H/\D.nx M H)\/((N1 x).go i H/\∃ N:St->Hp->Prop,(∀ σ' J,N σ' J->∃ m',m'<m/\W (i+1) m' σ' J)/\∀ v J,(N1 x).Jn i H v J->g v M J fun σ2 H2=>tb { D with nx:=N,ct:=N,bk:=D.nx } σ2 H2):=by
 refine⟨fun i m M H=>m=x.cps.size-i/\i<=x.cps.size/\Pv i M H,⟨x.cps.size,oz,mr _,h0⟩,?_⟩;rintro i m M H ⟨rfl,hi,p⟩
 by_cases fS:i<x.cps.size
 .refine .inr ⟨fS,Pv (i+1),fun σ' J p'=>⟨x.cps.size-(i+1),G,rfl,fS,p'⟩,fun v J y=>?_⟩
  obtain⟨rfl,c,hc,rfl⟩:=y;exact hs i c M _ hc p
 have e:i=x.cps.size:=G
 subst e;exact .inl ⟨rfl,hd M H p⟩
theorem Fd(Pv:Nat->List V->Hp->Prop)(h0:Pv 0 [] H)(hn:xs.length<=sizeLine)(hl:∀ i ys H,Pv i ys H->ys.length<=i)(hx:∀ i ys H,Pv i ys H->b3 K H a xs)(hs:∀ i x ys H,xs[i]?=some x->Pv i ys H->∀ p,H p=none->g (.ref p) (cR ix M) (upd H p (.tup [.int i,x])) fun σ2 H2=>Ext (cR ix M) σ2/\tt σ2 H2 fun ok H3=>if ok=true then te σ2 H3 fun y H4=>Pv (i+1) (ys++[y]) H4 else Pv (i+1) ys H3)(hd:∀ ys H,Pv xs.length ys H->∀ p,H p=none->Q (.ref p) (upd H p (.lst ys))):jb (N2 K a) ix g tt te M H Q:=by
 refine⟨fun i m ys H=>m=xs.length-i/\i<=xs.length/\Pv i ys H,⟨xs.length,oz,mr _,h0⟩,?_⟩;rintro i m ys H ⟨rfl,hi,p⟩;have q:=hx i ys H p;refine⟨gV (hl _ _ _ p) (gV hi hn),?_⟩
 by_cases fS:i<xs.length
 .refine .inr ⟨⟨xs,xs[i],q,by simp[fS]⟩,Pv (i+1),fun ys' J p'=>⟨xs.length-(i+1),G,rfl,fS,p'⟩,fun x J y=>?_⟩
  obtain⟨r,z,rfl,hn',hz,rfl⟩:=y;exact hs i z ys _ (hz xs q) p r hn'
 have e:i=xs.length:=G
 subst e;exact .inl ⟨⟨xs,q,qnr _⟩,hd ys H p⟩
theorem Iu(Pv:Nat->List V->Hp->Prop)(h0:Pv 0 [] H)(hn:x.cps.size<=sizeLine)(hl:∀ i ys H,Pv i ys H->ys.length<=i)(hs:∀ i c ys H,x.cps[i]?=some c->Pv i ys H->g (.str ⟨#[c]⟩) (cR ix M) H fun σ2 H2=>Ext (cR ix M) σ2/\tt σ2 H2 fun ok H3=>if ok=true then te σ2 H3 fun y H4=>Pv (i+1) (ys++[y]) H4 else Pv (i+1) ys H3)(hd:∀ ys H,Pv x.cps.size ys H->∀ p,H p=none->Q (.ref p) (upd H p (.lst ys))):jb (N1 x) ix g tt te M H Q:=by
 refine⟨fun i m ys H=>m=x.cps.size-i/\i<=x.cps.size/\Pv i ys H,⟨x.cps.size,oz,mr _,h0⟩,?_⟩;rintro i m ys H ⟨rfl,hi,p⟩;refine⟨gV (hl _ _ _ p) (gV hi hn),?_⟩
 by_cases fS:i<x.cps.size
 .refine .inr ⟨fS,Pv (i+1),fun ys' J p'=>⟨x.cps.size-(i+1),G,rfl,fS,p'⟩,fun v J y=>?_⟩
  obtain⟨rfl,c,hc,rfl⟩:=y;exact hs i c ys _ hc p
 have e:i=x.cps.size:=G
 subst e;exact .inl ⟨rfl,hd ys H p⟩
theorem oW(f:Nat->V)(hn:x.cps.size<=sizeLine)(hs:∀ c (R:VK),c∈x.cps.toList->R (f c) H->Ext (cR ix M) ((cR ix M).set 0 (some (.str ⟨#[c]⟩)))/\te ((cR ix M).set 0 (some (.str ⟨#[c]⟩))) H R)(hd:∀ p,H p=none->Q (.ref p) (upd H p (.lst (x.cps.toList.map f)))):jb (N1 x) ix (jP 0) Cd te M H Q:=by
 refine Iu (x:=x) (fun i ys J=>J=H/\ys=(x.cps.toList.take i).map f) ⟨rfl,rfl⟩ hn (fun i ys J ⟨_,e⟩=>by rw[e,dn,bp];exact G) ?_ (fun ys J ⟨e1,e2⟩ p hp=>by
  subst e1 e2;have e3:x.cps.toList.take x.cps.size=x.cps.toList:=fI oz
  rw[e3];exact hd p hp)
 rintro i c ys J hi ⟨rfl,rfl⟩;have OQ:x.cps.toList[i]?=some c:=by simpa using hi
 obtain⟨h1,h2⟩:=hs c (fun y H4=>H4=J/\(x.cps.toList.take i).map f++[y]=(x.cps.toList.take (i+1)).map f) (qB OQ) ⟨rfl,by rw[rh,OQ,ar];rfl⟩;exact⟨h1,h2⟩
end
def Rj(te:TE):TE:=fun M H Q=>te M H fun v H1=>∃ x,v=.str x/\(reprText x).length <= sizeLine/\Q (.str (reprText x)) H1
section
variable{a b:Expr}
theorem uf(he:PE X e te):PE X (.FormattedValue e 114 none pos) (Rj te):=by
 intro Y s M H Q I h;refine wpAny_FormattedValue_repr (thn (he Y s M H _ I h) fun v s1 ⟨y,H1,I1,r1,q1⟩=>?_);obtain⟨x,rfl,hx,q⟩:=q1;obtain⟨t,rfl⟩:=r1;refine wpAny_pyReprObj_gives (T := "str") (id := "str.__repr__") rfl PySem.F.slot_str_repr PySem.F.entry_str_repr (PySem.F.args_str_repr_1 _) (gives_str_repr x t) (hx:=hx) ?_;exact formatField_str (hsz:=hx) fun t' tk=>⟨.str _,H1,I1.tok _,⟨t',rfl⟩,q⟩
def Px(ta tb:TE):TE:=fun M H Q=>ta M H fun v H1=>∃ x,v=.str x/\x.length<=sizeLine/\tb M H1 fun u H2=>∃ y,u=.str y/\(x++y).length <= sizeLine/\Q (.str (x++y)) H2
theorem empty_app(x:Str):Str.empty++x=x:=by
 show Str.mk (#[]++x.cps)=x;simp
theorem xr(ha:PE X a ta)(hb:PE X b tb):PE X (.JoinedStr [a,b] pos) (Px ta tb):=by
 intro Y s M H Q I h;refine JoinedStr_many (tS (thn (ha Y s M H _ I h) fun v s1 ⟨z,H1,I1,r1,q1⟩=>?_));obtain⟨x,rfl,hx,q⟩:=q1;obtain⟨t,rfl⟩:=r1;show(Str.empty++x).length <= sizeLine/\_;rw[empty_app];refine⟨hx,tS (thn (hb Y s1 M H1 _ I1 q) fun v s2 ⟨z,H2,I2,r2,q2⟩=>?_)⟩;obtain⟨y,rfl,hy,q⟩:=q2;obtain⟨t',rfl⟩:=r2;exact⟨hy,joinParts_nil (hsz:=hy) ⟨.str _,H2,I2.tok _,⟨_,Z⟩,q⟩⟩
end
theorem repr_fits(hx:∀ c∈x.cps.toList,c<16^8)(hl:x.length<=1000):(reprText x).length <= sizeLine:=by
 have:=PySem.StrLaws.reprText_len x hx;unfold sizeLine;exact G
def ya(P:Program)(w:World)(K:W.Frag)(a:Addr)(kvs:List (Key×V)):Prop :=
 (a==sysModules)=false/\∃ o es ep vs,K.lookup a=some o/\o.ExactDict/\o.data=.dict es ep/\KeysOf (bT P w) es/\Pairs (bT P w) es.toList vs/\(vs.map (·.1)).Nodup /\ KV kvs vs
def Rk(a:Addr)(kvs:List (Key×V))(td ty:TE):TE:=fun M H Q=>td M H fun x H1=>ty M H1 fun y H2=>∃ k v,x=.ref a/\y=kV k/\bR kvs k=some v/\Q v H2
def Py(neg:Bool)(a:Addr)(kvs:List (Key×V))(ty td:TE):TE:=fun M H Q=>ty M H fun y H1=>td M H1 fun x H2=>∃ k,x=.ref a/\y=kV k/\Q (.bl (if neg then !(bR kvs k).isSome else(bR kvs k).isSome)) H2
section
variable{o i:Expr}
theorem ya.at(aad:ya X.prog X.w X.K a kvs)(I:Inv X Y M H s):∃ vs,KV kvs vs/\s.heap.DictOf (bT X.prog X.w) a vs:=by
 obtain⟨_,o,es,ep,vs,h1,h2,h3,h4,h5,h6,h7⟩:=aad;exact⟨vs,h7,o,es,ep,I.kIn a o h1,h2,h3,h4,h5,h6⟩
theorem jo(aad:ya X.prog X.w X.K a kvs)(hu:X.A.units+1<cLine)(ho:PE X o td)(hi:PE X i ty)(hs:Ij i):PE X (.Subscript o i pos) (Rk a kvs td ty):=by
 intro Y s M H Q I h;refine Ak PySem.F.slot_dict_getitem.lookup hs (thn (ho Y s M H _ I h) fun u s1 ⟨x,H1,I1,rx,q1⟩=>thn (hi Y s1 M H1 _ I1 q1) fun iv s2 ⟨y,H2,I2,ry,k,v,ex,ey,l,q2⟩=>?_);subst ex ey;obtain rfl:u=Value.ref a:=rx;obtain⟨vs,rel,dd⟩:=aad.at I2;obtain⟨w',hw,qA⟩:=mx.some_of (v:=v) (o:=valueAt vs k) (by rw[<- l];exact rel.val k);exact⟨dd.typeIs,wpAny_getItem_of (lJ ry) dd.mapOf hw ⟨v,H2,I2.tok _,qA,q2⟩⟩
theorem Pz(aad:ya X.prog X.w X.K a kvs)(hi:PE X i ty)(ho:PE X o td):PC X .In i o (Py false a kvs ty td):=by
 intro Y s M H Q I h;refine thn (hi Y s M H _ I h) fun iv s1 ⟨y,H1,I1,ry,q1⟩=>thn (ho Y s1 M H1 _ I1 q1) fun u s2 ⟨x,H2,I2,rx,k,ex,ey,q2⟩=>?_
 subst ex ey;obtain rfl:u=Value.ref a:=rx;obtain⟨vs,rel,dd⟩:=aad.at I2;refine wpAny_in_of (lJ ry) aad.1 dd.mapOf ?_;rw[<- (rel.val k).lh];exact⟨.bl _,H2,I2.tok _,Z,q2⟩
theorem oX(aad:ya X.prog X.w X.K a kvs)(hi:PE X i ty)(ho:PE X o td):PC X .NotIn i o (Py true a kvs ty td):=by
 intro Y s M H Q I h;refine thn (hi Y s M H _ I h) fun iv s1 ⟨y,H1,I1,ry,q1⟩=>thn (ho Y s1 M H1 _ I1 q1) fun u s2 ⟨x,H2,I2,rx,k,ex,ey,q2⟩=>?_
 subst ex ey;obtain rfl:u=Value.ref a:=rx;obtain⟨vs,rel,dd⟩:=aad.at I2;refine wpAny_notIn_of (lJ ry) aad.1 dd.mapOf ?_;rw[<- (rel.val k).lh];exact⟨.bl _,H2,I2.tok _,Z,q2⟩
end
def NY(w:World):List DictEntry->List (Key×V)->Prop
 |e::es,(.inr x,v):: r=>e.hash=hashStr w x/\(∃ t,e.key=.str x t)/\RelV v e.val/\NY w es r
 |e::es,(.inl i,v):: r=>e.hash=hashInt i/\(∃ t,e.key=.int i t)/\RelV v e.val/\NY w es r
 |[],[]=>True
 |_,_=>False
theorem NY.out{P:Program}{w:World}:∀{es:List DictEntry}{kvs:List (Key×V)},NY w es kvs->∃ vs,(∀ e∈es,∃ k,(bT P w).is k e.key=true/\e.hash=(bT P w).hash k)/\Pairs (bT P w) es vs/\vs.map (·.1)=kvs.map (·.1)/\KV kvs vs
 |[],[],_=>⟨[],(fun _ z=>nomatch z),.nil,rfl,.nil⟩
 | e::es,(.inr x,v):: r,⟨h1,⟨t,h2⟩,h3,h4⟩=>by
  obtain⟨vs,a1,a2,a3,a4⟩:=NY.out (P:=P) h4;have q:(bT P w).is (.inr x) e.key=true:=by rw[h2];exact qu P w x t
  refine⟨(.inr x,e.val):: vs,fun e' he=>?_,.cons q rfl a2,by simp[a3],.cons ⟨Z,h3⟩ a4⟩;rcases ai.mp he with rfl|he
  .exact⟨.inr x,q,h1⟩
  exact a1 e' he
 | e::es,(.inl i,v):: r,⟨h1,⟨t,h2⟩,h3,h4⟩=>by
  obtain⟨vs,a1,a2,a3,a4⟩:=NY.out (P:=P) h4;have q:(bT P w).is (.inl i) e.key=true:=by rw[h2];exact qt P w i t
  refine⟨(.inl i,e.val):: vs,fun e' he=>?_,.cons q rfl a2,by simp[a3],.cons ⟨Z,h3⟩ a4⟩;rcases ai.mp he with rfl|he
  .exact⟨.inl i,q,h1⟩
  exact a1 e' he
theorem mdk_of{es:Array DictEntry} {ep:Nat} (l:K.lookup a=some ⟨.type "dict",none,.dict es ep,#[]⟩) (m:NY w es.toList kvs) (n:(kvs.map (·.1)).Nodup) (s:(a==sysModules)=false):ya P w K a kvs:=by
 obtain⟨vs,a1,a2,a3,a4⟩:=m.out (P:=P);exact⟨s,_,es,ep,vs,l,⟨Z,Z,Z⟩,Z,fun e he=>a1 e (by simpa using he),a2,by rw[a3];exact n,a4⟩
theorem lL:kH X (compareOp .LtE) (fun x y H Q=>∃ i j,x=.str i/\y=.str j/\Q (.bl (!decide (j.cps.toList<i.cps.toList))) H):=by
 intro Y s M H x y v u Q I rx ry h;obtain⟨i,j,rfl,rfl,q⟩:=h;obtain⟨t,rfl⟩:=rx;obtain⟨t',rfl⟩:=ry;refine PySem.P.le_str ⟨.bl _,H,I,rfl,?_⟩
 first|exact q|simpa using q
section
variable{k:Nat}{E:XK}{o:Expr}{t:TA}
theorem PB(aad:Mk X.K C f)(F:g_ X.prog X.w X.K X.mg X.base CX k f fd ps sp)(hr:fE (k+1) X.A)(hm:X.mg x=some (.ref C))(hb:Binds X.K fd ps [])(hx:eE CX X E)
  (hg:X.env.scope.names.lookup x=some .globalImplicit:=by kernel_rfl) (mi:(x==("__debug__":Str))=false:=by kernel_rfl):PE X (.Call (.Name x p) [] [] pos) (vX C sp [] E oK):=Ib aad F hr hg hm hb .nil hx mi
theorem PJ(F:g_ X.prog X.w X.K X.mg X.base (oT X.prog X.w) k f fd ps sp)(hr:fE k X.A)(hm:X.mg x=some (.ref f))(hk:W.keepIn X.K (.ref f)=true)(hb:Binds X.K fd ps [])(ha:PA X.Wg (e::es) t)
  (hg:X.env.scope.names.lookup x=some .globalImplicit:=by kernel_rfl) (mi:(x==("__debug__":Str))=false:=by kernel_rfl) (he:starEach (e::es) X.env=(false,eval e X.env):: starEach es X.env:=by rfl) (ij:(backTo pos (starEach es X.env)).any (·.1)=false:=by rfl):
  Uj X (.Call (.Name x p) (e::es) [] pos) (xg sp [] t):=Io F hr hg hm hk hb .nil ha mi he ij
end
theorem walk_ofX{l:W.OpenLaw}{k:Nat}{XP:(Str->Option Value)->Heap->Prop}{d:DefRec}{K:Params->W.Frag}{sp:W.Frag->Sp}(hn:l.most=some n)(BQ:n<=sizeLine)(SO:d.params.defaults=[])(hr:fE k callerA)(hY:∀(w:World)(h:Heap),YP w h->(K w.params).In h)(F:∀(w:World)(mg:Str->Option Value)(fa:Addr)(h:Heap),(K w.params).In h->h.Ns mainGlobals mg->mg d.name=some (.ref fa) -> ∃ fd:FuncData,(∀(s:Shared)(u:Value),BindsTo s fd ⟨[u],[]⟩ [(x,u)]) /\ ∀ base:Heap,(K w.params).In base->base.Ns mainGlobals mg->g_ l.prog w (K w.params) mg base (oT l.prog w) k fa fd [x] (sp (K w.params)))(E5:∀(K:W.Frag)(H:Hp)(a:Addr)(ns:List Int),ns.length<=n->IL H->b3 K H a (ns.map V.int)->sp K [.ref a] H (fun v _=>v=.bl true) fun _ _ _=>False): W.WalkO q loose XP YP l.row.toRowW d [] (fun f vs=>PySem.call f vs):=
 Ml (K:=K) (CX:=fun w=>oT l.prog w) (sp:=fun w=>sp (K w.params)) hn BQ SO hr hY F (fun w H a ns h1 h2 h3=>E5 (K w.params) H a ns h1 h2 h3) fun _ _ _ _ _ ⟨_,_,_,_,_,z⟩=>z
def PK(ta tb tc:TE):TE:=fun M H Q=>ta M H fun v H1=>∃ x,v=.str x/\x.length<=sizeLine/\tb M H1 fun u H2=>∃ y,u=.str y/\(x++y).length <= sizeLine/\tc M H2 fun r H3=>∃ z,r=.str z/\(x++y++z).length <= sizeLine/\Q (.str (x++y++z)) H3
section
variable{a b c:Expr}
theorem Iv(ha:PE X a ta)(hb:PE X b tb)(hc:PE X c tc):PE X (.JoinedStr [a,b,c] pos) (PK ta tb tc):=by
 intro Y s M H Q I h;refine JoinedStr_many (tS (thn (ha Y s M H _ I h) fun v s1 ⟨z,H1,I1,r1,q1⟩=>?_));obtain⟨x,rfl,hx,q⟩:=q1;obtain⟨t,rfl⟩:=r1;show(Str.empty++x).length <= sizeLine/\_;rw[empty_app];refine⟨hx,tS (thn (hb Y s1 M H1 _ I1 q) fun v s2 ⟨z,H2,I2,r2,q2⟩=>?_)⟩;obtain⟨y,rfl,hy,q⟩:=q2;obtain⟨t',rfl⟩:=r2;refine⟨hy,tS (thn (hc Y s2 M H2 _ I2 q) fun v s3 ⟨z,H3,I3,r3,q3⟩=>?_)⟩;obtain⟨z,rfl,hz,q⟩:=q3;obtain⟨t'',rfl⟩:=r3;exact⟨hz,joinParts_nil (hsz:=hz) ⟨.str _,H3,I3.tok _,⟨_,Z⟩,q⟩⟩
end
def Rm(K:W.Frag):List V->Hp->VK->Prop:=fun xs H Q=>∃(p:Addr)(ns:List Int),xs=[.ref p]/\b3 K H p (ns.map V.int)/\Q (.int ns.sum) H
theorem Fe(hc:X.calm=true):dJ X (.builtin "sum") (Rm X.K):=by
 intro Y s M H xs us Q I r h;obtain⟨p,ns,rfl,hp,q⟩:=h;obtain⟨u,rfl,ru⟩:=vals1 r;cases ru;obtain⟨its,rv,pl,hz⟩:=I.list hp;have hi:=intsAre_of rv;have hh:X.A.handled=none:=I.ok.hd hc;obtain⟨xs,e⟩:=hi.allInts.items
 have pe:ns=xs.toList.map (·.1):=by
  rw[<- hi.numsOf,<- CI,<- e]
 have hlen:ns.length=xs.size:=by rw[pe,dn,ay]
 have hn:numAt xs=fun i=>ns.getD i 0:=by
  funext i;rw[pe];exact z4 _ _
 have hl:=pl.isList;rw[e]at hl;refine sum_intListG hh hl fun h' tk t' hk=>?_
 rw[hn,qC ns xs.size G,<- hlen,bE];exact⟨.int _,H,I.kept (t':=tk) hk,⟨t',Z⟩,q⟩
end L2
namespace PySem
open AutoSeq1 (wpAny_loadPart')
theorem Iw(c0:Addr)(its:Array Value)(n:Nat)(X3:Option Addr)(sl:Array (Option Value)):
  Meets (Builtin.«enumerate.__new__» ⟨[.type "enumerate",.ref c0],[]⟩) (fun _ R z=>z.heap.get? c0=some { cls:=.type "tuple",dict:=X3,data:=.seq its n,slots:=sl } /\
   R (.ok (.ret (.ref (z.heap.push { cls:=.type "tuple_iterator",data:=.fields #[.ref c0,.int 0 0] }).objs.size)))
    { z with heap:=(z.heap.push { cls:=.type "tuple_iterator",data:=.fields #[.ref c0,.int 0 0] }).push { cls:=.type "enumerate",data:=.fields #[.none,.bool false,.ref z.heap.objs.size,rawInt 0,.none,.none] } }):=
 .of_wp fun P w A R z h=>by
  obtain⟨hp,g,d,tk,os⟩:=z;obtain⟨q0,h⟩:=h;have DZ:=sub_enumerate;have qT:Heap.IsTuple (Shared.heap ⟨hp,g,d,tk,os⟩) c0 its:=⟨_,q0,rfl,n,rfl⟩
  wp_walk using eC q0
  refine wpAny_stack_any fun st=>aw ?_
  split
  .rename_i c _ _ _ _ _
   cases(c==Value.type "enumerate")
   .wp_walk using eC q0,iO qT
    exact⟨_,Z,h⟩
   wp_walk using eC q0,iO qT
   exact⟨_,Z,h⟩
  wp_walk using eC q0,iO qT
  exact⟨_,Z,h⟩
section
variable{z:Shared}
theorem Ff{its:Array Value}(hL:z.heap.IsTuple c0 its)(h:∀ h',IsEnum h' (z.heap.objs.size+1) z.heap.objs.size 0 .none -> h'.IsTupleIter z.heap.objs.size c0 0->h'.objs.size=z.heap.objs.size+2 -> (∀ b o,z.heap.get? b=some o->h'.get? b=some o)->Q (.ref (z.heap.objs.size+1)) { z with heap:=h' }): wpAny (model P w) A (call (.type "enumerate") [.ref c0]) Q E z:=by
 obtain⟨⟨c,X3,dt,sl⟩,hl,hc,n,hd⟩:=hL;obtain rfl:c=.type "tuple":=hc;obtain rfl:dt=.seq its n:=hd;refine callType_new F.called_enumerate b4 (F.typeCall_enumerate_1 _) (F.newCall_enumerate_1 _) (fun obj=>F.args_object_init_2 obj _) F.entry_enumerate_new (Iw c0 its n X3 sl) ⟨hl,?_⟩;have hz:(z.heap.push { cls:=.type "tuple_iterator",data:=.fields #[.ref c0,.int 0 0] }).objs.size=z.heap.objs.size+1:=ff ..;show _/\_;rw[hz]
 have he:IsEnum ((z.heap.push { cls:=.type "tuple_iterator",data:=.fields #[.ref c0,.int 0 0] }).push
   { cls:=.type "enumerate",data:=.fields #[.none,.bool false,.ref z.heap.objs.size,rawInt 0,.none,.none] }) (z.heap.objs.size+1) z.heap.objs.size 0 .none:=by
  have:=Heap.get?_push_size (z.heap.push { cls:=.type "tuple_iterator",data:=.fields #[.ref c0,.int 0 0] })
   (o:={ cls:=.type "enumerate",data:=.fields #[.none,.bool false,.ref z.heap.objs.size,rawInt 0,.none,.none] }) rfl
  rw[hz]at this;exact this
 exact⟨⟨_,he,Z⟩,h _ he ⟨_,Heap.get?_push_of_some _ (Heap.get?_push_size _ rfl),Z,Z⟩ (by rw[ff,hz]) fun b o y=>Heap.get?_push_of_some _ (Heap.get?_push_of_some _ y)⟩
theorem sG{its:Array Value}{x:Value}(hit:z.heap.IsTupleIter it c0 i)(ht:z.heap.IsTuple c0 its)(hx:its[i]?=some x)(hQ:∀ h',h'.IsTupleIter it c0 (i+1)->Heap.SameBut it z.heap h'->Q x { z with heap:=h' }):wpAny (model P w) A (Builtin.SmallTypes.nextOf (.ref it)) Q E z:=by
 obtain⟨o,q1,hc,hd⟩:=id hit;obtain⟨ol,q2,_,nl,q3⟩:=ht;unfold Builtin.SmallTypes.nextOf;refine ae (wpAny_callSpecial?_slot (name:=Str.ofString "__next__") hit.typeIs ki (fw ki hit.typeIs F.entry_tuple_iterator_next ?_ (F.args_tuple_iterator_next_1 _)));show wpAny _ _ (field (.ref it) 0>>=_) _ _ z;refine ae (cS q1 hd (x:=.ref c0) rfl ?_);show wpAny _ _ (if (Value.ref c0==Value.none)=true then _ else _) _ _ z;rw[bX (show ¬((Value.ref c0==Value.none)=true)from jv)];show wpAny _ _ (field (.ref it) 1>>=_) _ _ z;refine ae (cS q1 hd (x:=.int i 0) rfl ?_);show wpAny _ _ (seqItems? (.ref c0)>>=_) _ _ z;refine ae (eB q2 q3 ?_);simp only[bq,hx];refine ae (wpAny_setField q1 hd oz (aw ⟨x,rfl,aw (hQ _ ?_ (Heap.SameBut.update ..))⟩));exact⟨_,Heap.get?_update_self _ q1 (Obj.isFreed_of_fields (Obj.data_mapFields hd _)),(Obj.cls_mapFields ..).trans hc,by rw[Obj.data_mapFields hd];simp[rawInt]⟩
theorem uU{its:Array Value}(hh:A.handled=none)(hit:z.heap.IsTupleIter it c0 i)(ht:z.heap.IsTuple c0 its)(hx:its[i]?=none)(hE:∀ h' e,Heap.ExtBut it z.heap h'->(∃ o,h'.get? e=some o/\o.cls=.type "StopIteration")->E (.ref e) { z with heap:=h' }):wpAny (model P w) A (Builtin.SmallTypes.nextOf (.ref it)) Q E z:=by
 obtain⟨o,q1,hc,hd⟩:=id hit;obtain⟨ol,q2,_,nl,q3⟩:=ht;unfold Builtin.SmallTypes.nextOf;refine ae (wpAny_callSpecial?_slot (name:=Str.ofString "__next__") hit.typeIs ki (fw ki hit.typeIs F.entry_tuple_iterator_next ?_ (F.args_tuple_iterator_next_1 _)));show wpAny _ _ (field (.ref it) 0>>=_) _ _ z;refine ae (cS q1 hd (x:=.ref c0) rfl ?_);show wpAny _ _ (if (Value.ref c0==Value.none)=true then _ else _) _ _ z;rw[bX (show ¬((Value.ref c0==Value.none)=true)from jv)];show wpAny _ _ (field (.ref it) 1>>=_) _ _ z;refine ae (cS q1 hd (x:=.int i 0) rfl ?_);show wpAny _ _ (seqItems? (.ref c0)>>=_) _ _ z;refine ae (eB q2 q3 ?_);simp only[bq,hx];refine ae (EK (ae (wpAny_setField q1 hd oz ?_)));show wpAny _ _ (newExc (.type "StopIteration") []>>=_) _ _ _;refine ae ?_;simp only[newExc,newTuple];refine ae (fR ?_ (by size_fits));refine ae (m:=firstArgMember _ _) (wpAny_of_eq (a:=Value.none) (by first|rfl | (simp only[firstArgMember];rfl)) ?_);refine fR ?_ (by size_fits);simp only[raiseNew];refine ae (wpAny_handled ?_)
 first|rw[show A.in1.handled=none from hh] | rw[hh]
 refine ae (aw (wpAny_throw ?_));exact hE _ _ (((Heap.SameBut.update ..).extBut.push _).push _) ⟨_,Heap.get?_push_size _ rfl,rfl⟩
end
theorem Heap.IsTuple.on{its:Array Value}(y:h.IsTuple c0 its)(k:∀ o,h.get? c0=some o->h'.get? c0=some o):h'.IsTuple c0 its:=let ⟨o,e,r⟩:=y;⟨o,k o e,r⟩
theorem Heap.IsTupleIter.on(y:h.IsTupleIter it c0 i)(k:∀ o,h.get? it=some o->h'.get? it=some o):h'.IsTupleIter it c0 i:=let ⟨o,e,r⟩:=y;⟨o,k o e,r⟩
theorem Fg(hh:A.handled=none)(it c0:Addr)(hne:c0≠it)(its:Array Value): Draws P w A it [it,c0] its.size (fun i v=>its[i]?=some v) (fun i h=>h.IsTupleIter it c0 i/\h.IsTuple c0 its) where
 live:=fun _ _ st=>by obtain⟨o,e,_⟩:=st.1;exact⟨o,e⟩
 frame:=fun _ _ _ st hk=>⟨st.1.on fun o e=>hk it oz o e,st.2.on fun o e=>hk c0 oz o e⟩
 item:=fun i z Q E hi st hQ=>sG st.1 st.2 (x:=its[i]) (by simp[hi]) fun h' Xd BI=>hQ _ h' z.toks (by simp[hi]) ⟨Xd,st.2.extBut BI.extBut hne⟩ BI
 done:=fun z Q E st hE=>uU hh st.1 st.2 oz hE
end PySem
namespace L2
open PySem PySem.Spec PyProof.Rows
def qR(K:W.Frag)(a:Addr):It :=
 ⟨fun i H=>∃ xs x,SqT K H a xs/\xs[i]?=some x,fun i H x J=>∃ p y,x=.ref p/\H p=none/\(∀ xs,SqT K H a xs->xs[i]?=some y)/\J=upd H p (.tup [.int i,y]),fun i H=>∃ xs,SqT K H a xs/\xs.length<=i⟩
theorem Ci{x1}(a e it:Addr)(hne:e≠it)(hea:e≠a)(Z7:a≠it): Turn P w K (.Tuple elts x1 pos) (qR K a) [e,it] e (fun i h=>(∃ old,IsEnum h e it (i:Nat) old)/\h.IsTupleIter it a i) where
 mem:=by simp
 obj:=fun i h st b hb=>by
  obtain⟨⟨old,s1⟩,o,e1,c,d⟩:=st;rcases ai.mp hb with rfl|hb
  .exact⟨_,s1,fun v z=>by
    have z':Data.fields _=Data.cell v:=z
    cases z'⟩
  have q:b=it:=by simpa using hb
  subst q;exact⟨o,e1,fun v z=>by rw[d]at z;cases z⟩
 keep:=fun i h h' st k=>⟨⟨st.1.choose,k e oz _ st.1.choose_spec⟩,st.2.on fun o q=>k it oz o q⟩
 item:=by
  intro X hP hw hK hc i Y s M H E I hf st hg;subst hP hw hK;obtain⟨xs,x,hq,hx⟩:=hg;obtain⟨its,rv,p,hz⟩:=I.tuple hq;obtain⟨u,hu,ru⟩:=rv.get hx;obtain⟨⟨old,he⟩,hit⟩:=st;have D:=Fg (P:=X.prog) (w:=X.w) (A:=X.A.in1) (I.ok.hd hc) it a Z7 its.toArray
  have fS:i<its.toArray.size:=by
   have:=(List.getElem?_eq_some_iff.mp hu).1
   simpa using this
  refine wpAny_pyNext_enum_itemD D he ⟨hit,(show s.heap.IsTuple a its.toArray from p)⟩ fS hne (by simp[hne,hea]) fun x' h' tk hP ho stn tp sz kk=>?_
  obtain rfl:x'=u:=by
   have h1:its.toArray[i]?=some u:=by simpa using hu
   rw[hP]at h1;exact kF h1
  refine⟨_,Z,wpAny_letOwnedTupleGo_enum (s:={ s with heap:=h',toks:=tk+1 }) ho fun h2 IE sb=>?_⟩
  have fS:∀ b∈[e,it],b<s.heap.objs.size:=fun b hb=>by
   rcases ai.mp hb with rfl|hb
   .exact ax he
   have q:b=it:=by simpa using hb
   subst q;obtain⟨_,e1,_⟩:=hit;exact ax e1
  have Mb:∀ b∈[e,it],b≠s.heap.objs.size:=fun b hb=>bg (fS b hb)
  have Pw:h2.get? s.heap.objs.size=some { cls:=.type "tuple",data:=.seq #[.int i tk,x'] }:=(sb.2 _ (aS (Mb e oz))).trans tp
  have I2:Inv X Y M (upd H s.heap.objs.size (.tup [.int i,x])) { s with heap:=h2,toks:=tk+1 }:=by
   refine I.turns (fp:=[e,it]) hf (fun b v hb q=>?_) (qnr _) ⟨xE,[.int i tk,x'],.cons ⟨_,rfl⟩ (.cons ru .nil),⟨_,Pw,rfl,_,rfl⟩⟩;have b1:b≠e:=fun z=>hb (by simp[z])
   have b2:b≠it:=fun z=>hb (by simp[z])
   exact(sb.2 b b1).trans (kk b v b1 b2 q)
  refine⟨.ref s.heap.objs.size,_,I2,Z,⟨_,x,Z,I.hok.fresh (qnr _),(fun ys hy=>by rw[I.pf hy hq];exact hx),Z⟩,⟨⟨x',?_⟩,?_⟩,fun b hb=>?_⟩
  .have q:((i+1:Nat):Int)=(i:Int)+1:=G
   rw[q];exact IE
  .exact stn.1.on fun o q=>(sb.2 it (aS hne)).trans q
  rw[aB (Mb b hb)];exact(hf b hb).1
 done:=by
  intro X hP hw hK hc i Y s M H E I hf st hg;subst hP hw hK;obtain⟨xs,hq,hx⟩:=hg;obtain⟨its,rv,p,hz⟩:=I.tuple hq;obtain⟨⟨old,he⟩,hit⟩:=st;obtain⟨f0,f1,f2,f3,f4,f5⟩:=hf it oz;have hl:=rv.length;have D:=Fg (P:=X.prog) (w:=X.w) (A:=X.A.in1) (I.ok.hd hc) it a Z7 its.toArray;have hT:s.TypeIs (.ref e) "enumerate":=⟨_,he,rfl⟩
  unfold pyNext;refine ae (sF (wpAny_callSpecial?_slot (name:=Str.ofString "__next__") hT F.slot_enumerate_next (fw F.slot_enumerate_next hT F.entry_enumerate_next ?_ (F.args_enumerate_next_1 _))));show wpAny _ _ (field (.ref e) 2>>=_) _ _ _;refine ae (cS he rfl (x:=.ref it) rfl ?_);refine ae (uU (I.ok.hd hc) hit (show s.heap.IsTuple a its.toArray from p) (by simp;exact G) fun h' y eb hx'=>?_);obtain⟨o,q1,q2⟩:=hx';refine ae (wpAny_isInstance (T := "StopIteration") (b:=true) ⟨o,q1,q2⟩ isSubtype_stop ?_);exact aw ⟨rfl,I.turned (t':=s.toks) (fun b o hb q=>eb b o hb q) f0 f1 f3 f4 f5⟩
 self:=fun _ _ _ _ _ st h=>rp st.1.choose_spec h
def Fi(K:W.Frag)(tl:TE):TI:=fun M H R=>tl M H fun x H1=>∃ a,x=.ref a/\(∃ xs,SqT K H1 a xs)/\R (qR K a) H1
theorem Iz{x1} {pt:Pos} {l:Expr}  (hl:PE X l tl) (hg:Gl X "enumerate") (hm:X.mg "enumerate"=none)
  (he:starEach [l] X.env=(false,eval l X.env):: starEach [] X.env:=by rfl) (ij:(backTo fb (starEach [] X.env)).any (·.1)=false:=by rfl):
  PI X (.Tuple elts x1 pt) (.Call (.Name "enumerate" p) [l] [] fb) (Fi X.K tl):=by
 intro Y s M H R I h;refine de (ig I hg hm Bt.enumerate ?_ b4 b4);have h':vV tl oK M H (fun vs H1=>match vs with | [x]=>∃ a,x=.ref a/\(∃ xs,SqT X.K H1 a xs)/\R (qR X.K a) H1|_=>False):=h;refine dQ (thn ((aa hl aj he) fb Y s M H _ I h') fun us s1 ⟨vs,H1,I1,r1,q1⟩=>?_) he ij
 obtain⟨x,rfl⟩:∃ x,vs=[x]:=by
  match vs,q1 with
  |[x],_=>exact⟨x,Z⟩
 obtain⟨a,rfl,⟨xs,hq⟩,q⟩:=q1;obtain⟨u,rfl,ru⟩:=vals1 r1;cases ru;obtain⟨its,rv,p,hz⟩:=I1.tuple hq;have pT:s1.heap.IsTuple a its.toArray:=p
 have fS:a<s1.heap.objs.size:=by
  obtain⟨_,e1,_⟩:=pT;exact ax e1
 refine Ff pT fun h' SK li sz kk=>?_
 refine rp SK ?_;refine⟨s1.heap.objs.size+1,[s1.heap.objs.size+1,s1.heap.objs.size],_,_,H1,Z,I1.kept (t':=s1.toks) kk,Ci a (s1.heap.objs.size+1) s1.heap.objs.size (Nat.succ_ne_self _) (cb (n9 fS)) (bg fS),⟨⟨_,SK⟩,li⟩,fun b hb=>?_,q⟩;rcases ai.mp hb with rfl|hb
 .exact I1.sQ G (I1.hok.fresh G)
 have e:b=s1.heap.objs.size:=by simpa using hb
 subst e;exact I1.sQ (qnr _) (I1.hok.fresh (qnr _))
section
variable{x1:Nat}{pt:Pos}{l:Expr}
theorem Le(hl:PE X l tl) (hm:X.mg "enumerate"=none) (hg:X.env.scope.names.lookup ("enumerate":Str)=some .globalImplicit:=by kernel_rfl)
  (he:starEach [l] X.env=(false,eval l X.env):: starEach [] X.env:=by rfl) (ij:(backTo fb (starEach [] X.env)).any (·.1)=false:=by rfl):
  PI X (.Tuple elts x1 pt) (.Call (.Name "enumerate" p) [l] [] fb) (Ld X.K tl):=My hl hg hm he ij
theorem mQ(hl:PE X l tl) (hm:X.mg "enumerate"=none) (hg:X.env.scope.names.lookup ("enumerate":Str)=some .globalImplicit:=by kernel_rfl)
  (he:starEach [l] X.env=(false,eval l X.env):: starEach [] X.env:=by rfl) (ij:(backTo fb (starEach [] X.env)).any (·.1)=false:=by rfl):
  PI X (.Tuple elts x1 pt) (.Call (.Name "enumerate" p) [l] [] fb) (Fi X.K tl):=Iz hl hg hm he ij
end
section
variable{g:TG}{tb:TS}{Q:VK}
theorem Fj(Pv:Nat->St->Hp->Prop)(h0:Pv 0 M H)(hx:∀ i M H,i<=xs.length->Pv i M H->SqT K H a xs)(hs:∀ i x M H,xs[i]?=some x->Pv i M H->∀ p,H p=none->g (.ref p) M (upd H p (.tup [.int i,x])) fun σ2 H2=>tb { D with nx:=Pv (i+1),ct:=Pv (i+1),bk:=D.nx } σ2 H2)(hd:∀ M H,Pv xs.length M H->D.nx M H):∃ W:Nat->Nat->St->Hp->Prop,(∃ m,W 0 m M H)/\∀ i m M H,W i m M H -> ((qR K a).stop i H/\D.nx M H)\/((qR K a).go i H/\∃ N:St->Hp->Prop,(∀ σ' J,N σ' J->∃ m',m'<m/\W (i+1) m' σ' J)/\∀ x J,(qR K a).Jn i H x J->g x M J fun σ2 H2=>tb { D with nx:=N,ct:=N,bk:=D.nx } σ2 H2):=by
 refine⟨fun i m M H=>m=xs.length-i/\i<=xs.length/\Pv i M H,⟨xs.length,oz,mr _,h0⟩,?_⟩;rintro i m M H ⟨rfl,hi,p⟩;have q:=hx i M H hi p
 by_cases fS:i<xs.length
 .refine .inr ⟨⟨xs,xs[i],q,by simp[fS]⟩,Pv (i+1),fun σ' J p'=>⟨xs.length-(i+1),G,rfl,fS,p'⟩,fun x J y=>?_⟩
  obtain⟨r,z,rfl,hn,hz,rfl⟩:=y;exact hs i z M _ (hz xs q) p r hn
 have e:i=xs.length:=G
 subst e;exact .inl ⟨⟨xs,q,qnr _⟩,hd M H p⟩
theorem jc(Pv:Nat->List V->Hp->Prop)(h0:Pv 0 [] H)(hn:xs.length<=sizeLine)(hl:∀ i ys H,Pv i ys H->ys.length<=i)(hx:∀ i ys H,Pv i ys H->SqT K H a xs)(hs:∀ i x ys H,xs[i]?=some x->Pv i ys H->∀ p,H p=none->g (.ref p) (cR ix M) (upd H p (.tup [.int i,x])) fun σ2 H2=>Ext (cR ix M) σ2/\tt σ2 H2 fun ok H3=>if ok=true then te σ2 H3 fun y H4=>Pv (i+1) (ys++[y]) H4 else Pv (i+1) ys H3)(hd:∀ ys H,Pv xs.length ys H->∀ p,H p=none->Q (.ref p) (upd H p (.lst ys))):jb (qR K a) ix g tt te M H Q:=by
 refine⟨fun i m ys H=>m=xs.length-i/\i<=xs.length/\Pv i ys H,⟨xs.length,oz,mr _,h0⟩,?_⟩;rintro i m ys H ⟨rfl,hi,p⟩;have q:=hx i ys H p;refine⟨gV (hl _ _ _ p) (gV hi hn),?_⟩
 by_cases fS:i<xs.length
 .refine .inr ⟨⟨xs,xs[i],q,by simp[fS]⟩,Pv (i+1),fun ys' J p'=>⟨xs.length-(i+1),G,rfl,fS,p'⟩,fun x J y=>?_⟩
  obtain⟨r,z,rfl,hn',hz,rfl⟩:=y;exact hs i z ys _ (hz xs q) p r hn'
 have e:i=xs.length:=G
 subst e;exact .inl ⟨⟨xs,q,qnr _⟩,hd ys H p⟩
end
section
def Lf(n:Nat)(lo hi:Option Int):Prop:=HT.fF n 0 lo=0/\HT.fF n n hi=n
instance (n:Nat) (lo hi:Option Int):Decidable (Lf n lo hi):=by unfold Lf;infer_instance
def Sw(r:V->List V->Hp->VK->Prop)(to:TE)(t:TA):TE:=fun M H Q=>to M H fun x H1=>∃ p ys,x=.ref p/\H1 p=some (.tup ys)/\t M H1 fun xs H2=>r x xs H2 Q
variable{o:Expr}{t:TA}{id:String}{r:V->List V->Hp->VK->Prop}
theorem PL(slot:Slot "tuple" name id) (BF:typeOf (.builtin id)=pure (.type "method_descriptor")) (hm:y9 X id r) (ho:PE X o to) (ha:PA X (e::es) t) (oy:attributeBase o name X.env (eval o X.env)=eval o X.env:=by rfl)
  (D_:((backTo fb (starEach (e::es) X.env)).all (fun x=>!x.1)&&(backToKw fb (keywordEach [] X.env)).all (fun x=>x.1.isSome)&&decide ((e::es).length+([]:List Keyword).length+(if ([]:List Keyword).isEmpty then 0 else 1)<30))=true:=by rfl)
  (sA:(apos.endLine==fb.line)=true:=by rfl) (hs:starEach (e::es) X.env=(false,eval e X.env):: starEach es X.env:=by rfl) (sx:(backTo fb (starEach es X.env)).any (·.1)=false:=by rfl):
  PE X (.Call (.Attribute o name apos) (e::es) [] fb) (Sw r to t):=by
 intro Y s M H Q I h;refine wpAny_Call_method_late oy D_ sA rfl (thn (ho Y s M H _ I h) fun v s1 ⟨x,H1,I1,r1,p,ys,ex,hp,q1⟩=>?_);subst ex;have ev:v=Value.ref p:=r1;subst ev;obtain⟨_,its,_,ob,e1,c1,n,d1⟩:=(show fv X.prog X.w H1 s1.heap p (.tup ys)from I1.hok p _ hp)
 refine⟨"tuple",id,PySem.F.plainAttrs_tuple,slot,BF,⟨ob,e1,c1⟩,fun a ea=>?_,?_⟩
 .cases ea
  exact⟨ob,e1,b_ Prod.snd d1⟩
 have hA:=ha fb Y s1 M H1 _ I1 q1;rw[hs]at hA ⊢;refine vk (by show(false||(backTo fb (starEach es X.env)).any (·.1))=false;rw[sx]<;>rfl) (AF ?_);exact thn hA fun us s2 ⟨vs,H2,I2,r2,q2⟩=>hm Y s2 M H2 _ vs _ us Q I2 r1 r2 q2
end
end L2
namespace PySem
section
variable{I:Addr}{wr:List Addr}{P:Nat->Value->Prop}{St:Nat->Heap->Prop}
theorem Fl(W:Walks P0 w A.in1 I fp wr n P St)(bt:Nat->Nat->Bool)(Nw:CmpOf P0 w A.in1 .Lt P bt)(S:Addr)(KU:S∉fp)(d:Value):
  ∀(k j:Nat) (z:Shared) (vb:Value) (c:Nat),n-(j+1)=k->j+1<=n->St (j+1) z.heap->P (argBest bt j) vb->z.heap.get? S=some { cls:=.type "list",dict:=none,data:=.seq #[vb,vb] c,slots:=#[] } ->
  (∀ v h' tk,P (argBest bt (n-1)) v->(∀ b o,b∉wr->b≠S->z.heap.get? b=some o->h'.get? b=some o)->R (.ok (.ret v)) { z with heap:=h',toks:=tk }) ->
  codeAny (model P0 w) A (.builtin "min.loop" ⟨[.ref I,.none,.ref S],[("default",d)]⟩) R z:=by
 have Vk:S∉wr:=fun y=>KU (W.sub _ y)
 have q0:(toString "min"++toString ".loop" : String)="min.loop":=by decide
 intro k
 induction k with
 | zero =>
  intro j z vb c hk hj ic Vm hS hR;have nS:j+1=n:=G
  refine n0 F.entry_min_loop ?_;rw[ko ia _];show wpAny _ A.in1 (seqItems? (.ref S)>>=_) _ _ z;refine ae (eB hS rfl ?_);show wpAny _ A.in1 (tryCatch (pyNext (.ref I)) _>>=_) _ _ z;refine ae (pE (W.done z _ _ (nS ▸ ic) fun h' tk yT=>?_));have q1:=yT S _ Vk hS;show wpAny _ A.in1 (updateSeq S (fun _=>#[])>>=_) _ _ _;refine ae ?_;refine iS q1 rfl (ae (nh (aw ?_)));exact hR vb _ tk (by rw[<- nS];exact Vm) fun b o x_ IG e=>(Heap.get?_update_other _ _ (aS IG)).trans (yT b o x_ e)
 | succ k ih =>
  intro j z vb c hk hj ic Vm hS hR;have fS:j+1<n:=G
  refine n0 F.entry_min_loop ?_;rw[ko ia _];show wpAny _ A.in1 (seqItems? (.ref S)>>=_) _ _ z;refine ae (eB hS rfl ?_);show wpAny _ A.in1 (tryCatch (pyNext (.ref I)) _>>=_) _ _ z;refine ae (pE (W.item (j+1) z _ _ fS ic fun v h' tk hP HV yT=>?_));have q1:=yT S _ Vk hS;show wpAny _ A.in1 (tryCatch (holding [v,v] (richCompare .Lt v vb>>=_)) _>>=_) _ _ _;refine ae (pE (i4 (ae (Nw (j+1) (argBest bt j) v vb _ _ _ hP Vm ?_))));refine ae (i4 (dE ?_));refine ae (nh (aw ?_));cases hb:bt (j+1) (argBest bt j)with
  | true =>
   simp only[i7];refine ae ?_;refine iS q1 rfl (ae (nh ?_));rw[q0];refine aw ⟨mT ia _,ih (j+1) _ v _ G fS (W.frame _ _ _ HV fun b Xp o e=>?_) (by simp only[argBest,hb,i7];exact hP) (Heap.get?_update_self _ q1 rfl) fun v' Th CY S_ D9=>?_⟩
   .exact(Heap.get?_update_other _ _ (fun y:S=b=>KU (by rw[y];exact Xp))).trans e
   exact hR v' Th CY S_ fun b o x_ IG e=>D9 b o x_ IG ((Heap.get?_update_other _ _ (aS IG)).trans (yT b o x_ e))
  | false =>
   simp only[gp,kf];refine ae (nh ?_);rw[q0];refine aw ⟨mT ia _,ih (j+1) _ vb c G fS HV (by simp only[argBest,hb,gp,kf];exact Vm) q1 fun v' Th CY S_ D9=>?_⟩;exact hR v' Th CY S_ fun b o x_ IG e=>D9 b o x_ IG (yT b o x_ e)
theorem Cj(W:Walks P0 w A.in1 I fp wr n P St)(bt:Nat->Nat->Bool)(Nw:CmpOf P0 w A.in1 .Lt P bt)(S:Addr)(KU:S∉fp)(d:Value){z:Shared}(ic:St 0 z.heap)
  (hS:z.heap.get? S=some { cls:=.type "list",dict:=none,data:=.seq #[] c,slots:=#[] })
  (hR:0<n->∀ v h' tk,P (argBest bt (n-1)) v->(∀ b o,b∉wr->b≠S->z.heap.get? b=some o->h'.get? b=some o)->R (.ok (.ret v)) { z with heap:=h',toks:=tk })
  (hE:n=0->∀ h' tk,(∀ b o,b∉wr->b≠S->z.heap.get? b=some o->h'.get? b=some o)->R (.ok (.ret d)) { z with heap:=h',toks:=tk }):
  codeAny (model P0 w) A (.builtin "min.loop" ⟨[.ref I,.none,.ref S],[("default",d)]⟩) R z:=by
 have Vk:S∉wr:=fun y=>KU (W.sub _ y)
 have q0:(toString "min"++toString ".loop" : String)="min.loop":=by decide
 refine n0 F.entry_min_loop ?_;rw[ko ia _];show wpAny _ A.in1 (seqItems? (.ref S)>>=_) _ _ z;refine ae (eB hS rfl ?_);show wpAny _ A.in1 (tryCatch (pyNext (.ref I)) _>>=_) _ _ z
 by_cases hn:n=0
 .refine ae (pE (W.done z _ _ (hn ▸ ic) fun h' tk yT=>?_))
  show wpAny _ A.in1 (rule _>>=_) _ _ _;refine ae (EK (aw ?_));exact hE hn h' tk fun b o x_ _ e=>yT b o x_ e
 have hn:0<n:=G
 refine ae (pE (W.item 0 z _ _ hn ic fun v h' tk hP HV yT=>?_));have q1:=yT S _ Vk hS;show wpAny _ A.in1 (updateSeq S (fun _=>#[v,v])>>=_) _ _ _;refine ae ?_;refine iS q1 rfl ?_;rw[q0];refine aw ⟨mT ia _,Fl W bt Nw S KU d _ 0 _ v _ rfl hn (W.frame _ _ _ HV fun b Xp o e=>?_) hP (Heap.get?_update_self _ q1 rfl) fun v' Th CY S_ D9=>?_⟩
 .exact(Heap.get?_update_other _ _ (fun y:S=b=>KU (by rw[y];exact Xp))).trans e
 exact hR hn v' Th CY S_ fun b o x_ IG e=>D9 b o x_ IG ((Heap.get?_update_other _ _ (aS IG)).trans (yT b o x_ e))
end
theorem Fo(a v:Value):argsOk "min" ⟨[a],[(Str.ofString "default",v)]⟩:=by unfold argsOk;kernel_rfl
section
variable{z:Shared}{l:Addr}{xs:Array (Int×Tok)}
theorem Fp{d:Value}(hh:A.handled=none)(hl:z.heap.IsList l (intItems xs))(h1:0<xs.size->∀ v h' tk,(intItems xs)[argBest (fun i j=>decide (numAt xs i<numAt xs j)) (xs.size-1)]?=some v->(∀ b o,z.heap.get? b=some o->h'.get? b=some o)->Q v { z with heap:=h',toks:=tk })(h0:xs.size=0->∀ h' tk,(∀ b o,z.heap.get? b=some o->h'.get? b=some o)->Q d { z with heap:=h',toks:=tk }): wpAny (model P0 w) A (call (.builtin "min") [.ref l] [(Str.ofString "default",d)]) Q E z:=by
 have q0:(toString "min"++toString ".loop" : String)="min.loop":=by decide
 refine PyProof.Rows.kmk_tree F.kind_min F.plain_min F.entry_min (Fo _ _) ?_;show wpAny _ A.in1 (Builtin.Builtins.bindParams "min" ["key","default"] 0 ⟨[],[(Str.ofString "default",d)]⟩>>=_) _ _ z;refine ae (wpAny_of_eq (show Builtin.Builtins.bindParams "min" ["key","default"] 0 ⟨[],[(Str.ofString "default",d)]⟩=pure [none,some d]from rfl) ?_);refine ae (aw ?_);refine ae (iter_intList hl fun s₂ e st hfp hlI=>?_);subst e;refine ae (fR ?_);have hsz:(intItems xs).size=xs.size:=by simp[intItems]
 have W:=Walks.list (prog:=P0) (w:=w) (A:=A.in1) hh z.heap.objs.size l hlI (intItems xs);have KU:(z.heap.push { cls:=.type "list_iterator",data:=.fields #[.ref l,.int 0 0] }).objs.size∉[z.heap.objs.size,l]:=fun hm=>c8 _ (hfp _ hm)
 rw[q0];refine aw ⟨mT ia _,Cj W _ (CmpOf.ints_lt (numAt xs) (fun _ _=>z5)) _ KU d (W.frame _ _ _ st fun b _ o e=>Heap.get?_push_of_some _ e) (Heap.get?_push_size _ rfl) (fun hn v h' tk hP hk=>?_) (fun hn h' tk hk=>?_)⟩
 .refine h1 (by rw[<- hsz];exact hn) v h' tk (by rw[<- hsz];exact hP) (old_kept fun b o x_ e=>hk b o x_ (bg (ax e)) (Heap.get?_push_of_some _ e))
 exact h0 (by rw[<- hsz];exact hn) h' tk (old_kept fun b o x_ e=>hk b o x_ (bg (ax e)) (Heap.get?_push_of_some _ e))
end
end PySem
namespace L2
open PySem PySem.Spec PyProof.Rows
def Rn(K:W.Frag)(tl:TE):TE:=fun M H Q=>tl M H fun x H1=>∃(p:Addr)(ns:List Int),x=.ref p/\b3 K H1 p (ns.map V.int)/\(ns=[]->Q .non H1)/\∀ aad,aad∈ns->(∀ a∈ns,aad<=a)->Q (.int aad) H1
theorem MF{kp dp:Pos}  {l:Expr}  (hc:X.calm=true) (hl:PE X l tl) (hm:X.mg "min"=none) (hg:X.env.scope.names.lookup ("min":Str)=some .globalImplicit:=by kernel_rfl)
  (he:starEach [l] X.env=(false,eval l X.env):: starEach [] X.env:=by rfl):
  PE X (.Call (.Name "min" p) [l] [⟨some "default",.Constant .none j dp,kp⟩] fb) (Rn X.K tl):=by
 intro Y s M H Q I h;refine de (ig I hg hm Bt.min ?_ b4 b4);refine callWith_kw ?_ (by rw[he];rfl) (by rw[he];rfl) rfl rfl;have h':vV tl oK M H (fun vs H1=>match vs with | [x]=>∃(p:Addr)(ns:List Int),x=.ref p/\b3 X.K H1 p (ns.map V.int)/\(ns=[]->Q .non H1)/\∀ aad,aad∈ns->(∀ a∈ns,aad<=a)->Q (.int aad) H1|_=>False):=h;refine thn ((aa hl aj he) fb Y s M H _ I h') fun us s1 ⟨vs,H1,I1,r1,q1⟩=>?_
 obtain⟨x,rfl⟩:∃ x,vs=[x]:=by
  match vs,q1 with
  |[x],_=>exact⟨x,Z⟩
 obtain⟨a,ns,rfl,hp,q0,q⟩:=q1;obtain⟨u,rfl,ru⟩:=vals1 r1;cases ru;refine kws_cons (thn (bL Y s1 M H1 (fun x H2=>x=.non /\ H2=H1) I1 ⟨rfl,rfl⟩) fun dv s2 ⟨x,H2,I2,r2,ex,eH⟩=>kws_nil ?_);subst ex eH;cases r2;have I1:=I2;obtain⟨its,rv,pl,hz⟩:=I1.list hp;have hi:=intsAre_of rv;have hh:X.A.handled=none:=I1.ok.hd hc;obtain⟨xs,e⟩:=hi.allInts.items
 have pe:ns=xs.toList.map (·.1):=by
  rw[<- hi.numsOf,<- CI,<- e]
 have hlen:ns.length=xs.size:=by rw[pe,dn,ay]
 have hl:=pl.isList;rw[e]at hl;refine Fp hh hl (fun hn v h' tk hv hk=>?_) (fun hn h' tk hk=>?_)
 .obtain⟨t,rfl⟩:=z5 hv
  obtain⟨h1,h2⟩:=argBest_lt (numAt xs) (xs.size-1);refine⟨.int _,_,I1.kept (t':=tk) hk,⟨t,Z⟩,q _ ?_ fun b hb=>?_⟩
  .rw[pe,z4];exact getD_mem (by rw[dn,ay];exact G)
  rw[pe]at hb;obtain⟨m,hm,rfl⟩:=mem_getD hb;rw[dn,ay]at hm;rw[<- z4];exact h2 m G
 exact⟨.non,_,I1.kept (t':=tk) hk,Z,q0 (CM G)⟩
theorem Ck:kH X (binaryOp .Mult) (fun x y H Q=>∃ z n,x=.str z/\y=.int n/\z.length<=1000/\-1000<=n/\n<=1000/\Q (.str (Txt.mul z n)) H):=by
 intro Y s M H x y v u Q I rx ry h;obtain⟨z,n,rfl,rfl,hz,h1,h2,q⟩:=h;obtain⟨t,rfl⟩:=rx;obtain⟨t',rfl⟩:=ry;exact SB.mul (mulOk_of 1000 1000 hz h2 G b4 b4) fun t' k=>⟨.str _,H,I.tok _,⟨t',rfl⟩,q⟩
theorem bits_fit{a n:Int}(ha:a.natAbs<2^1024)(hn:n<=1000000):(Builtin.Int.intBits a:Int)+n<=2^27:=by
 have h:Builtin.Int.intBits a<=1024:=intBits_le ha;exact G
def ug(i j:Int):Prop:=0<=j/\j<=1000000/\i.natAbs<2^1024
theorem jq:kH X (binaryOp .LShift) (rI ug fun i j=>.int (i*2^j.toNat)):=JU fun _ _ _ _ _ _ _ hc q=>lshift_int hc.1 (bits_fit hc.2.2 hc.2.1) q
end L2
namespace PySem
open Sem (wp)
open Builtin
open AutoSeq1 (wpAny_loadPart')
theorem vP(l:Addr)(its:List Value)(n:Nat)(dd:Option Addr)(sl:Array (Option Value))(k:Int)(u:Tok)(h1:2<=k)(h2:k<2^63)(hne:its.toArray.isEmpty=false)(hz:its.toArray.size*k.toNat<=sizeLine): Meets (Builtin.«tuple.__mul__» ⟨[.ref l,.int k u],[]⟩) (fun _ R s=>s.heap.get? l=some { cls:=.type "tuple",dict:=dd,data:=.seq its.toArray n,slots:=sl }/\R (.ok (.ret (Value.ref s.heap.objs.size))) { s with heap:=s.heap.push { cls:=Value.type "tuple",data:=Data.seq (List.replicate k.toNat its).flatten.toArray },toks:=s.toks }):=
 .of_wp fun prog w A R s h=>by
  obtain⟨hp,g,d,tk,os⟩:=s;obtain⟨hl,h⟩:=h;have c1:(k < -(2^63)||k ≥ 2^63)=false:=by simp;exact G
  have c2:(its.toArray.isEmpty||k==1)=false:=by rw[hne];simp;exact G
  have c3:(k<=0||its.toArray.isEmpty)=false:=by rw[hne];simp;exact G
  have ZC:((its.toArray.size:Int)*k)=((its.toArray.size*k.toNat:Nat):Int):=by
   have e:k=((k.toNat:Nat):Int):=G
   conv=>lhs;rw[e]
   rw[<- mf]
  have hsl:(sizeLine:Nat)<=(2^63-1)/8:=by decide
  have Vr:((2:Int)^63-1)/8=(((2^63-1)/8:Nat):Int):=by decide
  have c4:decide ((its.toArray.size:Int)*k>(2^63-1)/8)=false:=gX (by rw[ZC,Vr];exact G)
  wp_walk using eC hl
  refine kR (by rw[c1];rfl) ?_
  wp_walk using eC hl
  refine kR (by rw[c2];rfl) ?_
  wp_walk using eC hl
  refine kR (by rw[c3];rfl) ?_
  wp_walk using eC hl
  refine kR c4 ?_
  wp_walk using eC hl
  have c5:Tuple.tupleTooMany ((its.toArray.size:Int)*k)=false:=by
   unfold Tuple.tupleTooMany;rw[ZC];exact gX G
  refine kR (by rw[c5];rfl) ?_
  wp_walk using eC hl
  have f0:List.foldl (fun x1 x2=>x1++x2) #[] (List.replicate k.toNat its.toArray)=(List.replicate k.toNat its).flatten.toArray:=by
   have:=L2.foldl_rep its k.toNat [];rw[List.nil_append]at this;exact this
  rw[f0];refine kR (gX (by rw[ah,L2.len_rep,mE];rw[ah]at hz;exact G)) ?_
  wp_walk using eC hl
  exact⟨_,Z,h⟩
theorem qU:fillsNumberSlot (.type "tuple") "mul"=pure false :=
 fillsNumberSlot_seq (id := "tuple.__mul__") (r:=some (.builtin "tuple.__rmul__")) F.slot_tuple_mul.lookup dk F.slot_tuple_rmul.lookup dk
theorem xu:seqRepeat? (.type "tuple")=pure (some (.builtin "tuple.__mul__")):=by
 unfold seqRepeat?;rw[seqSlot_of (T := "tuple") (name := "__mul__") (id := "tuple.__mul__") F.slot_tuple_mul.lookup dk,seqSlot_of (T := "tuple") (name := "__rmul__") (id := "tuple.__rmul__") F.slot_tuple_rmul.lookup dk]
 rfl
theorem uh(a:Int)(t:Tok)(l:Addr)(items:Array Value)(n:Nat)(dd:Option Addr)(sl:Array (Option Value)): Meets (Builtin.«int.__rmul__» ⟨[.int a t,.ref l],[]⟩) (fun _ R s=>s.heap.get? l=some { cls:=.type "tuple",dict:=dd,data:=.seq items n,slots:=sl }/\R (.ok (.ret Value.notImplemented)) s):=
 .of_wp fun prog w A R s h=>by obtain⟨hp,g,d,tk,os⟩:=s;obtain⟨hl,h⟩:=h;wp_walk;exact⟨_,Z,h⟩
end PySem
namespace L2
open PySem PyProof.Rows
inductive P9(K:W.Frag)(x:V)(y:V)(H:Hp)(Q:VK):Prop
 |mk(a:Addr)(k:Int)(xs:List V)(_:x=.ref a)(_:y=.int k)(_:SqT K H a xs)(_:xs≠[])(_:2<=k)(_:k<2^63)(_:xs.length*k.toNat<=sizeLine)(_:∀ p,H p=none->Q (.ref p) (upd H p (.tup (List.replicate k.toNat xs).flatten)))
theorem MJ:kH X (binaryOp .Mult) (P9 X.K):=by
 intro Y s M H x y v u Q I rx ry h;obtain⟨a,k,xs,rfl,rfl,ha,hne,h1,h2,hz,q⟩:=h;cases rx;obtain⟨t,rfl⟩:=ry;obtain⟨its,r,p1,hl⟩:=I.tuple ha;have hlen:its.length=xs.length:=r.length.symm;have hi:its≠[]:=fun z=>hne (r.rj.mp z)
 obtain⟨⟨cls,dd,data,sl⟩,ho,hc,n,hd⟩:=id p1;simp only at hc hd;subst hc hd;have UP:its.toArray.size*k.toNat<=sizeLine:=by rw[ah,hlen];exact hz
 refine wpAny_binaryOp_repeat_ref (T := "tuple") (U := "int") b4 ⟨_,ho,rfl⟩ (fun s'=>EL s' k t) qU F.fills_int_mul v_ xu F.slot_int_index.lookup
  (f' v_ (EL s k t) F.entry_int_rmul (F.args_int_rmul_2 _ _) (uh k t a its.toArray n dd sl)
   ⟨ho,rfl,⟨_,ho,rfl⟩,f' F.slot_tuple_mul ⟨_,ho,rfl⟩ F.entry_tuple_mul (F.args_tuple_mul_2 _ _) (vP a its n dd sl k t h1 h2 (by cases its with
    |nil=>exact absurd rfl hi
    |cons x r=>rfl) UP) ⟨ho,?_⟩⟩)
 refine⟨.ref s.heap.objs.size,_,I.laid (t':=s.toks) (o:=.tup (List.replicate k.toNat xs).flatten) (fun b ob q=>Heap.get?_push_of_some _ q) (qnr _) ?_,Z,q _ (I.hok.fresh (qnr _))⟩;exact⟨by rw[len_rep,mE];exact hz,_,r.rep k.toNat,kD.new _ _⟩
end L2
namespace PySem
open AutoSeq1 (wpAny_loadPart')
abbrev Us(h:Heap)(a:Addr):Heap:=h.push { cls:=.type "list_iterator",data:=.fields #[.ref a,.int 0 0] }
abbrev Ur(h:Heap)(a b:Addr):Heap:=(Us h a).push { cls:=.type "tuple_iterator",data:=.fields #[.ref b,.int 0 0] }
abbrev Uq(h:Heap)(a b:Addr):Heap:=(Ur h a b).push { cls:=.type "tuple",data:=.seq #[.ref h.objs.size,.ref (Us h a).objs.size] }
abbrev Up(h:Heap)(a b:Addr):Heap:=(Uq h a b).push { cls:=.type "tuple",data:=.seq #[.none,.none] }
abbrev N4(h:Heap)(a b:Addr):Heap:=(Up h a b).push { cls:=.type "zip",data:=.fields #[.none,.bool false,.bool false,.ref (Ur h a b).objs.size,.ref (Uq h a b).objs.size] }
theorem IK(a b:Addr)(us vs:Array Value): Meets (Builtin.«zip.__new__» ⟨[.type "zip",.ref a,.ref b],[]⟩) (fun _ R z=>z.heap.IsList a us/\z.heap.IsTuple b vs/\R (.ok (.ret (.ref (Up z.heap a b).objs.size))) { z with heap:=N4 z.heap a b }):=
 .of_wp fun P w A R z h=>by
  obtain⟨hp,g,d,tk,os⟩:=z;obtain⟨q1,q2,h⟩:=h;have DZ:=sub_zip;have L1:Heap.IsList (Shared.heap ⟨hp,g,d,tk,os⟩) a us:=q1
  have L2:Heap.IsTuple (Shared.heap ⟨hp.push { cls:=.type "list_iterator",data:=.fields #[.ref a,.int 0 0] },g,d,tk,os⟩) b vs:=by
   obtain⟨o,e,r⟩:=q2;exact⟨o,Heap.get?_push_of_some _ e,r⟩
  wp_walk using ro L1,iO L2
  exact⟨_,Z,h⟩
section
variable{z:Shared}
structure qh(n a b:Nat)(i:Nat)(f:Value)(h:Heap):Prop where
 out:IsZip h (n+4) (n+2) (n+3) f
 its:IsPair h (n+2) (.ref n) (.ref (n+1))
 own:∃ x y,IsPair h (n+3) x y
 fst:h.IsListIter n a i
 snd:h.IsTupleIter (n+1) b i
theorem qh.on{n a b:Nat}{i:Nat}{f:Value}{h h':Heap}(x:qh n a b i f h)(k:∀ c:Nat,n<=c->c<=n+4->∀ o,h.get? c=some o->h'.get? c=some o):qh n a b i f h' :=
 ⟨k (n+4) (lP _ _) (qnr _) _ x.out,k (n+2) (lP _ _) (dP b4 _) _ x.its,let ⟨u,v,q⟩:=x.own;⟨u,v,k (n+3) (lP _ _) (dP b4 _) _ q⟩,x.fst.at fun o q=>k n (qnr _) (lP _ _) o q,x.snd.on fun o q=>k (n+1) (lP _ _) (dP b4 _) o q⟩
theorem Fq{a b:Nat}{us vs:Array Value}(q1:z.heap.IsList a us)(q2:z.heap.IsTuple b vs)(h:∀ h',qh z.heap.objs.size a b 0 .none h'->(∀(c:Nat) o,z.heap.get? c=some o->h'.get? c=some o)->Q (.ref (z.heap.objs.size+4)) { z with heap:=h' }): wpAny (model P w) A (call (.type "zip") [.ref a,.ref b]) Q E z:=by
 refine callType_new F.called_zip b4 (F.typeCall_zip_2 _ _) (F.newCall_zip_2 _ _) (fun obj=>F.args_object_init_3 obj _ _) F.entry_zip_new (IK a b us vs) ⟨q1,q2,?_⟩;have s1:(Us z.heap a).objs.size=z.heap.objs.size+1:=ff ..;have s2:(Ur z.heap a b).objs.size=z.heap.objs.size+2:=by rw[ff,s1]
 have s3:(Uq z.heap a b).objs.size=z.heap.objs.size+3:=by rw[ff,s2]
 have s4:(Up z.heap a b).objs.size=z.heap.objs.size+4:=by rw[ff,s3]
 have e5:(N4 z.heap a b).get? (Up z.heap a b).objs.size=some _:=Heap.get?_push_size _ rfl;have e4:(N4 z.heap a b).get? (Uq z.heap a b).objs.size=some _:=Heap.get?_push_of_some _ (Heap.get?_push_size _ rfl);have e3:(N4 z.heap a b).get? (Ur z.heap a b).objs.size=some _:=Heap.get?_push_of_some _ (Heap.get?_push_of_some _ (Heap.get?_push_size _ rfl));have e2:(N4 z.heap a b).get? (Us z.heap a).objs.size=some _:=Heap.get?_push_of_some _ (Heap.get?_push_of_some _ (Heap.get?_push_of_some _ (Heap.get?_push_size _ rfl)));have e1:(N4 z.heap a b).get? z.heap.objs.size=some _:=Heap.get?_push_of_some _ (Heap.get?_push_of_some _ (Heap.get?_push_of_some _ (Heap.get?_push_of_some _ (Heap.get?_push_size _ rfl))));show _/\_;rw[s2,s3,s4]at e5;rw[s1,s2]at e3;rw[s3]at e4;rw[s1]at e2;rw[s4];exact⟨⟨_,e5,Z⟩,h _ ⟨e5,e3,⟨_,_,e4⟩,⟨_,e1,Z,Z⟩,⟨_,e2,Z,Z⟩⟩ fun c o x=>Heap.get?_push_of_some _ (Heap.get?_push_of_some _ (Heap.get?_push_of_some _ (Heap.get?_push_of_some _ (Heap.get?_push_of_some _ x))))⟩
theorem Ft{a b:Nat}{us vs:Array Value}{x y:Value}{Q:Option Value->Shared->Prop}(ha:a<n)(hb:b<n)(st:qh n a b i .none z.heap)(la:z.heap.IsList a us)(lb:z.heap.IsTuple b vs)(hx:us[i]?=some x)(hy:vs[i]?=some y)(hQ:∀ h',qh n a b (i+1) (rawInt z.heap.objs.size) h'->IsPair h' z.heap.objs.size x y->(∀(c:Nat) o,(c<n\/n+4<c)->z.heap.get? c=some o->h'.get? c=some o)->Q (some (.ref z.heap.objs.size)) { z with heap:=h' }): wpAny (model P w) A (pyNext (.ref (n+4))) Q E z:=by
 obtain⟨qz,qi,⟨u0,v0,qo⟩,q1,q2⟩:=st;have hT:z.TypeIs (.ref (n+4)) "zip":=⟨_,qz,rfl⟩
 unfold pyNext;refine ae (sF (wpAny_callSpecial?_slot (name:=Str.ofString "__next__") hT g9 (fw g9 hT tx ?_ (r6 _))));show wpAny _ _ (field (.ref (n+4)) 2>>=_) _ _ _;refine ae (cS qz rfl (x:=.bool false) rfl ?_);show wpAny _ _ (field (.ref (n+4)) 3>>=_) _ _ _;refine ae (cS qz rfl (x:=.ref (n+2)) rfl ?_);refine ae (eB qi rfl ?_);show wpAny _ _ (Builtin.SmallTypes.ownedTupleIsFree (.ref (n+4))>>=_) _ _ _;refine ae ?_;unfold Builtin.SmallTypes.ownedTupleIsFree;refine ae (cS qz rfl (x:=.none) rfl (aw ?_));simp only[i7];refine ae (EK ?_);refine ae (cS qz rfl (x:=.ref (n+3)) rfl ?_);refine ae (iN qz oz fun h1 L_ k1=>?_)
 replace L_:IsZip h1 (n+4) (n+2) (n+3) .ellipsis:=L_
 refine ae ?_;simp only[List.zipIdx_nil,List.zipIdx_cons,nt,kq];refine ae (ae (wpAny_onRaise ?_));show wpAny _ _ (Builtin.SmallTypes.nextOf (.ref n)>>=_) _ _ _;refine ae (u7 (q1.extBut k1.extBut kU) (la.extBut k1.extBut kU) hx fun h2 q12 k2=>aw ?_);have Zr:IsPair h2 (n+3) u0 v0:=k2.extBut _ _ kU (k1.extBut _ _ kU qo);refine ae (eB Zr rfl ?_);refine ae (wpAny_updateSeq_pair Zr fun h3 Wc k3=>?_)
 replace Wc:IsPair h3 (n+3) x v0:=Wc
 refine ae (nh (aw ?_));refine ae (ae (wpAny_onRaise ?_));show wpAny _ _ (Builtin.SmallTypes.nextOf (.ref (n+1))>>=_) _ _ _;have VT:∀(c:Nat) o,c≠n+4->c≠n+3->c≠n->z.heap.get? c=some o->h3.get? c=some o:=fun c o c1 c2 c3 e=>k3.extBut _ _ c2 (k2.extBut _ _ c3 (k1.extBut _ _ c1 e))
 refine ae (sG (q2.on fun o e=>VT _ o kU kU kU e) (lb.on fun o e=>VT _ o kU kU kU e) hy fun h4 q24 k4=>aw ?_);have Zq:IsPair h4 (n+3) x v0:=k4.extBut _ _ kU Wc;refine ae (eB Zq rfl ?_);refine ae (wpAny_updateSeq_pair Zq fun h5 UB k5=>?_)
 replace UB:IsPair h5 (n+3) x y:=UB
 refine ae (nh (aw (aw ?_)));refine ae (eB UB rfl ?_);refine ae (wpAny_newTuple ?_);have hsz:h5.objs.size=z.heap.objs.size:=by rw[k5.1,k4.1,k3.1,k2.1,k1.1]
 have Zf:∀(c:Nat) o,c≠n+4->c≠n+3->c≠n->c≠n+1->z.heap.get? c=some o->h5.get? c=some o:=fun c o c1 c2 c3 c4 e=>k5.extBut _ _ c2 (k4.extBut _ _ c4 (VT c o c1 c2 c3 e))
 have Zo:IsZip h5 (n+4) (n+2) (n+3) .ellipsis:=k5.extBut _ _ kU (k4.extBut _ _ kU (k3.extBut _ _ kU (k2.extBut _ _ kU L_)));have q15:h5.IsListIter n a (i+1):=((q12.extBut k3.extBut kU).extBut k4.extBut kU).extBut k5.extBut kU;have q25:h5.IsTupleIter (n+1) b (i+1):=q24.extBut k5.extBut kU;have lz:n+4<h5.objs.size:=ax Zo;show wpAny _ _ (Builtin.SmallTypes.ownedTupleHandOut (.ref (n+4)) (.ref h5.objs.size)>>=_) _ _ _;refine ae ?_;unfold Builtin.SmallTypes.ownedTupleHandOut;have qz6:IsZip (h5.push { cls:=.type "tuple",data:=.seq #[x,y] }) (n+4) (n+2) (n+3) .ellipsis:=Heap.get?_push_of_some _ Zo;refine ae (iN qz6 oz fun h7 Wb k7=>?_)
 replace Wb:IsZip h7 (n+4) (n+2) (n+3) (rawInt h5.objs.size):=Wb
 refine iN Wb oz fun h8 UA k8=>?_
 replace UA:IsZip h8 (n+4) (n+2) (n+3) (rawInt h5.objs.size):=UA
 have up:∀(c:Nat) o,c≠n+4->h5.get? c=some o->h8.get? c=some o:=fun c o c1 e=>k8.extBut _ _ c1 (k7.extBut _ _ c1 (Heap.get?_push_of_some _ e))
 have Zp:IsPair h8 h5.objs.size x y:=k8.extBut _ _ (cb lz) (k7.extBut _ _ (cb lz) (Heap.get?_push_size _ rfl));rw[hsz]at UA Zp;refine aw ⟨_,rfl,aw ?_⟩;show Q (some (.ref h5.objs.size)) _;rw[hsz]
 exact hQ h8 ⟨UA,up _ _ kU (Zf _ _ kU kU kU kU qi),⟨_,_,up _ _ kU UB⟩,q15.at fun o e=>up _ o kU e,q25.on fun o e=>up _ o kU e⟩ Zp
  fun c o hc e=>up c o kU (Zf c o kU kU kU kU e)
theorem IV{a b:Nat}{us vs:Array Value}{Q:Option Value->Shared->Prop}(hh:A.handled=none)(ha:a<n)(hb:b<n)(st:qh n a b i .none z.heap)(la:z.heap.IsList a us)(lb:z.heap.IsTuple b vs)(hx:us[i]?=none)(hQ:∀ h',(∀(c:Nat) o,(c<n\/n+4<c)->z.heap.get? c=some o->h'.get? c=some o)->Q none { z with heap:=h' }): wpAny (model P w) A (pyNext (.ref (n+4))) Q E z:=by
 obtain⟨qz,qi,⟨u0,v0,qo⟩,q1,q2⟩:=st;have hT:z.TypeIs (.ref (n+4)) "zip":=⟨_,qz,rfl⟩
 unfold pyNext;refine ae (sF (wpAny_callSpecial?_slot (name:=Str.ofString "__next__") hT g9 (fw g9 hT tx ?_ (r6 _))));show wpAny _ _ (field (.ref (n+4)) 2>>=_) _ _ _;refine ae (cS qz rfl (x:=.bool false) rfl ?_);show wpAny _ _ (field (.ref (n+4)) 3>>=_) _ _ _;refine ae (cS qz rfl (x:=.ref (n+2)) rfl ?_);refine ae (eB qi rfl ?_);show wpAny _ _ (Builtin.SmallTypes.ownedTupleIsFree (.ref (n+4))>>=_) _ _ _;refine ae ?_;unfold Builtin.SmallTypes.ownedTupleIsFree;refine ae (cS qz rfl (x:=.none) rfl (aw ?_));simp only[i7];refine ae (EK ?_);refine ae (cS qz rfl (x:=.ref (n+3)) rfl ?_);refine ae (iN qz oz fun h1 L_ k1=>?_)
 replace L_:IsZip h1 (n+4) (n+2) (n+3) .ellipsis:=L_
 refine ae ?_;simp only[List.zipIdx_nil,List.zipIdx_cons,nt,kq];refine ae (ae (wpAny_onRaise ?_));show wpAny _ _ (Builtin.SmallTypes.nextOf (.ref n)>>=_) _ _ _;refine ae (wpAny_nextOf_list_end hh (q1.extBut k1.extBut kU) (la.extBut k1.extBut kU) hx fun h2 e k2 he=>?_);obtain⟨oe,e1,e2⟩:=he;have qz2:IsZip h2 (n+4) (n+2) (n+3) .ellipsis:=k2 _ _ kU L_;have hez:e≠n+4:=fun x=>by subst x;rw[qz2]at e1;cases e1;simp at e2
 refine iN qz2 oz fun h3 _ k3=>?_
 refine ae (wpAny_isInstance (T := "StopIteration") (b:=true) ⟨oe,k3.extBut _ _ hez e1,e2⟩ isSubtype_stop ?_);exact aw (hQ _ fun c o hc q=>k3.extBut _ _ kU (k2 _ _ kU (k1.extBut _ _ kU q)))
end
end PySem
namespace L2
open PySem PySem.Spec PyProof.Rows
theorem Inv.AZ(I:Inv X Y M H s)(hf:∀ b∈fp,iV X Y H b)(k:∀ b u,b∉fp->s.heap.get? b=some u->h'.get? b=some u): Inv X Y M H { s with heap:=h',toks:=t' }:=by
 have nf:∀ b u,H b=some u->b∉fp:=fun b u e z=>by rw[(hf b z).1]at e;cases e
 refine I.step (g':=s.gens) (d':=s.drawn) (ch:=fp) (fun b hb=>?_) (fun b u _ _ hc e _=>k b u hc e) (fun b u _ _ hc e _=>⟨u.slots,k b u hc e⟩) (fun _ _ _ _ n=>n)
  (fun b u hc e=>⟨u,k b u hc e⟩) (fun _ _ e=>e) (fun _ _ _ e=>e) (fun b ps e=>⟨#[],by rw[e];simp⟩) (fun m hm=>?_) (fun b u e=>?_) I.bare
 .obtain⟨_,f1,_,f3,f4,f5⟩:=hf b hb
  exact⟨f3,f1,f4,f5⟩
 .obtain⟨ob,es,ep,ho,r⟩:=hm
  exact⟨ob,es,ep,k _ ob (fun z=>(hf _ z).2.1 rfl) ho,r⟩
 refine(I.hok b u e).stay (fun c v hc q=>k c v ?_ q) (fun _ q=>q) fun _ _ q=>q
 rcases hc with z|z
 .rw[z];exact nf b u e
 exact nf c _ z
def YY(K:W.Frag)(a b:Addr):It :=
 ⟨fun i H=>∃ xs ys x y,b3 K H a xs/\SqT K H b ys/\xs[i]?=some x/\ys[i]?=some y,fun i H v J=>∃ p x y,v=.ref p/\H p=none/\(∀ xs,b3 K H a xs->xs[i]?=some x)/\(∀ ys,SqT K H b ys->ys[i]?=some y)/\J=upd H p (.tup [x,y]),
  fun i H=>∃ xs ys,b3 K H a xs/\SqT K H b ys/\xs.length<=i⟩
theorem CO:c∈[n+4,n+3,n+2,n+1,n]↔n<=c/\c<=n+4:=by
 simp only[ai,p_,or_false];exact G
theorem IW{x1}(a b n:Nat)(ha:a<n)(hb:b<n): Turn P w K (.Tuple elts x1 pos) (YY K a b) [n+4,n+3,n+2,n+1,n] (n+4) (fun i h=>qh n a b i .none h) where
 mem:=by simp
 obj := fun i h st c hc=>by
  have field:∀{o:Obj}{vs:Array Value},o.data=.fields vs->∀ v,o.data≠.cell v:=fun d v q=>by rw[d]at q;cases q
  have P4:∀{o:Obj}{vs:Array Value}{m:Nat},o.data=.seq vs m->∀ v,o.data≠.cell v:=fun d v q=>by rw[d]at q;cases q
  simp only[ai,p_,or_false]at hc;rcases hc with rfl|rfl|rfl|rfl|rfl
  .exact⟨_,st.out,field rfl⟩
  .obtain⟨u,v,q⟩:=st.own
   exact⟨_,q,P4 rfl⟩
  .exact⟨_,st.its,P4 rfl⟩
  .obtain⟨o,e,_,d⟩:=st.snd
   exact⟨o,e,field d⟩
  obtain⟨o,e,_,d⟩:=st.fst;exact⟨o,e,field d⟩
 keep:=fun i h h' st k=>st.on fun c c1 c2 o q=>k c (CO.mpr ⟨c1,c2⟩) o q
 item:=by
  intro X hP hw hK hc i Y s M H E I hf st hg;subst hP hw hK;obtain⟨xs,ys,x,y,hq,hr,hx,hy⟩:=hg;obtain⟨its,rv,p,hz⟩:=I.list hq;obtain⟨MD,qA,p',UP⟩:=I.tuple hr;obtain⟨u,hu,ru⟩:=rv.get hx;obtain⟨v,hv,V7⟩:=qA.get hy;refine Ft ha hb st p.isList (show s.heap.IsTuple b MD.toArray from p') (x:=u) (y:=v) (by simpa using hu) (by simpa using hv) fun h' ip tp kk=>?_
  have lz:n+4<s.heap.objs.size:=ax st.out;refine⟨_,Z,wpAny_letOwnedTupleGo_zip (s:={ s with heap:=h' }) ip.out fun h2 qz2 sb=>?_⟩;have Mb:∀ c∈[n+4,n+3,n+2,n+1,n],c≠s.heap.objs.size:=fun c hc=>bg (ky (CO.mp hc).2 lz)
  have Pw:h2.get? s.heap.objs.size=some { cls:=.type "tuple",data:=.seq #[u,v] }:=(sb.2 _ kU).trans tp
  have I2:Inv X Y M (upd H s.heap.objs.size (.tup [x,y])) { s with heap:=h2,toks:=s.toks }:=by
   refine I.turns (fp:=[n+4,n+3,n+2,n+1,n]) hf (fun(c:Nat) o hc q=>?_) (qnr _) ⟨xE,[u,v],.cons ru (.cons V7 .nil),⟨_,Pw,rfl,_,rfl⟩⟩;have y3:¬(n<=c/\c<=n+4):=fun z=>hc (CO.mpr z)
   have m_:c<n\/n+4<c:=G
   exact(sb.2 c (by refine(?_:@Ne Nat _ _);exact G)).trans (kk c o m_ q)
  refine⟨.ref s.heap.objs.size,_,I2,Z,⟨_,x,y,Z,I.hok.fresh (qnr _),(fun zs hy=>by rw[I.sj hy hq];exact hx),(fun zs hz=>by rw[I.pf hz hr];exact hy),Z⟩,?_,fun c hc=>?_⟩
  .refine⟨qz2,(sb.2 _ kU).trans ip.its,let ⟨u,v,q⟩:=ip.own;⟨u,v,(sb.2 _ kU).trans q⟩,ip.fst.at fun o q=>(sb.2 _ kU).trans q,ip.snd.on fun o q=>(sb.2 _ kU).trans q⟩
  rw[aB (Mb c hc)];exact(hf c hc).1
 done:=by
  intro X hP hw hK hc i Y s M H E I hf st hg;subst hP hw hK;obtain⟨xs,ys,hq,hr,hx⟩:=hg;obtain⟨its,rv,p,hz⟩:=I.list hq;obtain⟨MD,qA,p',UP⟩:=I.tuple hr;have hl:=rv.length;refine IV (I.ok.hd hc) ha hb st p.isList (show s.heap.IsTuple b MD.toArray from p') (by simp;exact G) fun h' kk=>⟨rfl,?_⟩
  exact I.AZ (fp:=[n+4,n+3,n+2,n+1,n]) hf fun(c:Nat) o hc q=>kk c o (by
   have y3:¬(n<=c/\c<=n+4):=fun z=>hc (CO.mpr z)
   exact G) q
 self:=fun _ _ _ _ _ st h=>wpAny_pyIter_zip st.out h
def PN(K:W.Frag)(t:TA):TI:=fun M H R=>t M H fun vs H1=>∃ a b,vs=[.ref a,.ref b]/\(∃ xs,b3 K H1 a xs)/\(∃ ys,SqT K H1 b ys)/\R (YY K a b) H1
theorem PP{x1} {pt:Pos} {l m:Expr} {t:TA} (ha:PA X [l,m] t) (hg:Gl X "zip") (hm:X.mg "zip"=none)
  (he:starEach [l,m] X.env=(false,eval l X.env):: starEach [m] X.env:=by rfl) (ij:(backTo fb (starEach [m] X.env)).any (·.1)=false:=by rfl):
  PI X (.Tuple elts x1 pt) (.Call (.Name "zip" p) [l,m] [] fb) (PN X.K t):=by
 intro Y s M H R I h;refine de (ig I hg hm Bt.zip ?_ b4 b4);refine dQ (thn (ha fb Y s M H _ I h) fun us s1 ⟨vs,H1,I1,r1,q1⟩=>?_) he ij;obtain⟨a,b,rfl,⟨xs,hq⟩,⟨ys,hr⟩,q⟩:=q1;cases r1 with
 | cons ra rr =>
  cases rr with
  | cons rb rr =>
   cases rr;cases ra;cases rb;obtain⟨its,rv,p,hz⟩:=I1.list hq;obtain⟨MD,qA,p',UP⟩:=I1.tuple hr;have pT:s1.heap.IsTuple b MD.toArray:=p'
   have la:a<s1.heap.objs.size:=by
    obtain⟨_,e1,_⟩:=p.isList;exact ax e1
   have lb:b<s1.heap.objs.size:=by
    obtain⟨_,e1,_⟩:=pT;exact ax e1
   refine Fq p.isList pT fun h' st kk=>?_
   refine wpAny_pyIter_zip st.out ?_;refine⟨s1.heap.objs.size+4,_,_,_,H1,Z,I1.kept (t':=s1.toks) kk,IW a b s1.heap.objs.size la lb,st,fun c hc=>?_,q⟩;have hc:s1.heap.objs.size<=c:=(CO.mp hc).1;exact I1.sQ hc (I1.hok.fresh hc)
theorem Sx{x1} {pt:Pos} {l m:Expr} {t:TA} (ha:PA X [l,m] t) (hm:X.mg "zip"=none) (hg:X.env.scope.names.lookup ("zip":Str)=some .globalImplicit:=by kernel_rfl)
  (he:starEach [l,m] X.env=(false,eval l X.env):: starEach [m] X.env:=by rfl) (ij:(backTo fb (starEach [m] X.env)).any (·.1)=false:=by rfl):
  PI X (.Tuple elts x1 pt) (.Call (.Name "zip" p) [l,m] [] fb) (PN X.K t):=PP ha hg hm he ij
section
variable{g:TG}{Q:VK}
theorem Ja(ME:xs.length=ys.length)(Pv:Nat->List V->Hp->Prop)(h0:Pv 0 [] H)(hn:xs.length<=sizeLine)(hl:∀ i zs H,Pv i zs H->zs.length<=i)(hx:∀ i zs H,Pv i zs H->b3 K H a xs/\SqT K H b ys)(hs:∀ i x y zs H,xs[i]?=some x->ys[i]?=some y->Pv i zs H->∀ p,H p=none->g (.ref p) (cR ix M) (upd H p (.tup [x,y])) fun σ2 H2=>Ext (cR ix M) σ2/\tt σ2 H2 fun ok H3=>if ok=true then te σ2 H3 fun v H4=>Pv (i+1) (zs++[v]) H4 else Pv (i+1) zs H3)(hd:∀ zs H,Pv xs.length zs H->∀ p,H p=none->Q (.ref p) (upd H p (.lst zs))):jb (YY K a b) ix g tt te M H Q:=by
 refine⟨fun i m zs H=>m=xs.length-i/\i<=xs.length/\Pv i zs H,⟨xs.length,oz,mr _,h0⟩,?_⟩;rintro i m zs H ⟨rfl,hi,p⟩;obtain⟨q,q'⟩:=hx i zs H p;refine⟨gV (hl _ _ _ p) (gV hi hn),?_⟩
 by_cases fS:i<xs.length
 .refine .inr ⟨⟨xs,ys,xs[i],ys[i],q,q',by simp[fS],by simp[ME ▸ fS]⟩,Pv (i+1),fun ys' J p'=>⟨xs.length-(i+1),G,rfl,fS,p'⟩,fun x J y=>?_⟩
  obtain⟨r,z1,z2,rfl,hn',UO,Ww,rfl⟩:=y;exact hs i z1 z2 zs _ (UO xs q) (Ww ys q') p r hn'
 have e:i=xs.length:=G
 subst e;exact .inl ⟨⟨xs,ys,q,q',qnr _⟩,hd zs H p⟩
end
theorem all_strs(ns ms:List Str):((List.range (min ns.length ms.length)).all (fun j=>ns.getD j ⟨#[]⟩ == ms.getD j ⟨#[]⟩)&&ns.length==ms.length)=decide (ns=ms):=by
 by_cases h:ns=ms
 .subst h
  rw[cK rfl];simp
 rw[gX h];cases hl:(ns.length==ms.length)with
 |false=>simp
 | true =>
  have hl:ns.length=ms.length:=by simpa using hl
  rw[Bool.and_true];refine Bool.eq_false_iff.mpr fun z=>h (List.ext_getElem hl fun j h1 h2=>?_)
  have:=bP.mp z j (eT.mpr G);have this:ns.getD j ⟨#[]⟩=ms.getD j ⟨#[]⟩:=by simpa using this
  rw[List.getD,List.getD,List.getElem?_eq_getElem h1,List.getElem?_eq_getElem h2]at this;exact this
theorem Ar(r:Vals (ns.map V.str) us):us.length=ns.length/\∀(j:Nat)(h:j<us.length),∃ t,us[j]=.str (ns.getD j ⟨#[]⟩) t:=by
 have hl:us.length=ns.length:=by
  have:=r.length;rw[dn]at this;exact this.symm
 refine⟨hl,fun j h=>?_⟩;have hj:j<ns.length:=G
 obtain⟨u,hu,ru⟩:=r.get (i:=j) (x:=V.str ns[j]) (by rw[lS,List.getElem?_eq_getElem hj];rfl);obtain⟨t,rfl⟩:=ru;refine⟨t,?_⟩;rw[List.getElem?_eq_getElem h]at hu;rw[kF hu,List.getD,List.getElem?_eq_getElem hj]
 rfl
inductive P'(K:W.Frag)(x:V)(y:V)(H:Hp)(Q:VK):Prop
 |mk(a b:Addr)(ns ms:List Str)(_:x=.ref a)(_:y=.ref b)(_:SqT K H a (ns.map V.str))(_:SqT K H b (ms.map V.str))(_:Q (.bl (!decide (ns=ms))) H)
theorem Av(hu:X.A.units<cLine):kH X (compareOp .NotEq) (P' X.K):=by
 intro Y s M H x y v u Q I rx ry h;obtain⟨a,b,ns,ms,rfl,rfl,ha,hb,q⟩:=h;cases rx;cases ry;obtain⟨its,r1,p1,_⟩:=I.tuple ha;obtain⟨iF,r2,p2,_⟩:=I.tuple hb;obtain⟨l1,i1⟩:=Ar r1;obtain⟨l2,i2⟩:=Ar r2;refine SeqAt.RcNeAt.tuples (e:=fun j=>ns.getD j ⟨#[]⟩ == ms.getD j ⟨#[]⟩) p1 p2 hu (fun j h1 h2=>?_) _ _ _ _ ?_
 .obtain⟨t1,e1⟩:=i1 j (by simpa using h1)
  obtain⟨t2,e2⟩:=i2 j (by simpa using h2);have e1':its.toArray[j]=.str (ns.getD j ⟨#[]⟩) t1:=by simpa using e1
  have E':iF.toArray[j]=.str (ms.getD j ⟨#[]⟩) t2:=by simpa using e2
  rw[e1',E'];exact EN _ _ _ _
 rw[show its.toArray.size=ns.length by simpa using l1,show iF.toArray.size=ms.length by simpa using l2,all_strs];exact⟨.bl (!decide (ns=ms)),H,I,Z,q⟩
inductive L9(K:W.Frag)(f:Bool->Bool)(x:V)(y:V)(H:Hp)(Q:VK):Prop
 |mk(a b:Addr)(xs:List V)(_:x=.ref a)(_:y=.ref b)(_:b3 K H a xs)(_:b3 K H b [])(_:Q (.bl (f xs.isEmpty)) H)
theorem nA(hu:X.A.units<cLine):kH X (compareOp .Eq) (L9 X.K id):=by
 intro Y s M H x y v u Q I rx ry h;obtain⟨a,b,xs,rfl,rfl,ha,hb,q⟩:=h;cases rx;cases ry;obtain⟨its,r1,p1,_⟩:=I.list ha;obtain⟨iF,r2,p2,_⟩:=I.list hb;cases r2;cases r1 with
 | nil =>
  refine SeqAt.eq_listAt (e:=fun _=>true) p1.isList p2.isList rfl hu (fun j h1 _=>absurd h1 (Nat.not_lt_zero j)) ?_;exact⟨.bl true,H,I,Z,q⟩
 |cons r t=>exact SeqAt.eq_list_lengthsAt p1.isList p2.isList oz hu ⟨.bl false,H,I,rfl,q⟩
theorem us0{P:List Value->Prop}(h:P []):∀ us:List Value,us.length=0->P us
 |[],_=>h
theorem Uu{P:List Value->Prop}(h:∀(a:Value)(us:List Value),us.length=n->P (a::us)):∀ us:List Value,us.length=n+1->P us
 |a::us,e=>h a us (Nat.succ.inj e)
theorem VS{P:List Value->Prop}(h:∀ a,P [a]):∀ us:List Value,us.length=1->P us:=Uu fun a=>us0 (P:=fun us=>P (a::us)) (h a)
theorem Ll{P:List Value->Prop}(h:∀ a b,P [a,b]):∀ us:List Value,us.length=2->P us:=Uu fun a=>VS (P:=fun us=>P (a::us)) (h a)
theorem VR{P:List Value->Prop}(h:∀ a b c,P [a,b,c]):∀ us:List Value,us.length=3->P us:=Uu fun a=>Ll (P:=fun us=>P (a::us)) (h a)
theorem Ze{P:List Value->Prop}(h:∀ a b c d,P [a,b,c,d]):∀ us:List Value,us.length=4->P us:=Uu fun a=>VR (P:=fun us=>P (a::us)) (h a)
section
variable{k:Nat}{E:XK}{o:Expr}{t:TA}
theorem Lg(aad:Mk X.K C f)(F:g_ X.prog X.w X.K X.mg X.base CX k f fd ps sp)(hr:fE (k+1) X.A)(hm:X.mg x=some (.ref C))(hb:Binds X.K fd ps [])(hx:eE CX X E)(ha:PA X (e::es) t)
  (hg:X.env.scope.names.lookup x=some .globalImplicit:=by kernel_rfl) (mi:(x==("__debug__":Str))=false:=by kernel_rfl) (he:starEach (e::es) X.env=(false,eval e X.env):: starEach es X.env:=by rfl) (ij:(backTo pos (starEach es X.env)).any (·.1)=false:=by rfl):
  PE X (.Call (.Name x p) (e::es) [] pos) (vX C sp [] E t):=Mg aad F hr hg hm hb .nil hx ha mi he ij
end
open PySem PyProof.Rows
inductive EI(K:W.Frag)(H:Hp):Nat->V->V->Prop
 |same (n:Nat) (a:Addr):EI K H n (.ref a) (.ref a)
 |int (n:Nat) (i:Int):EI K H n (.int i) (.int i)
 |str (n:Nat) (x:Str):EI K H n (.str x) (.str x)
 |tup {n:Nat} {a b:Addr} {xs ys:List V} (h1:SqT K H a xs) (h2:SqT K H b ys) (hl:xs.length=ys.length) (h:∀(j:Nat)(x y:V),xs[j]?=some x->ys[j]?=some y->EI K H n x y):EI K H (n+1) (.ref a) (.ref b)
 |lst {n:Nat} {a b:Addr} {xs ys:List V} (h1:b3 K H a xs) (h2:b3 K H b ys) (hl:xs.length=ys.length) (h:∀(j:Nat)(x y:V),xs[j]?=some x->ys[j]?=some y->EI K H n x y):EI K H (n+1) (.ref a) (.ref b)
theorem nC(n:Nat):((List.range n).all fun _=>true)=true:=by simp
theorem oY{K:W.Frag}{H:Hp}{iF:List Value}{R:Value->Value->Prop}(r1:Vals xs its)(r2:Vals ys iF)(h:∀(j:Nat)(x y:V),xs[j]?=some x->ys[j]?=some y->∀ u v,RelV x u->RelV y v->R u v)(j:Nat)(h1:j<its.toArray.size)(h2:j<iF.toArray.size):R its.toArray[j] iF.toArray[j]:=by
 have _o:j<xs.length:=by rw[r1.length];simpa using h1
 have _n:j<ys.length:=by rw[r2.length];simpa using h2
 obtain⟨u,e1,q1⟩:=r1.get (List.getElem?_eq_getElem _o);obtain⟨v,e2,q2⟩:=r2.get (List.getElem?_eq_getElem _n)
 have g1:its.toArray[j]=u:=by
  have:=(List.getElem?_eq_some_iff.mp e1).2
  simpa using this
 have g2:iF.toArray[j]=v:=by
  have:=(List.getElem?_eq_some_iff.mp e2).2
  simpa using this
 rw[g1,g2];exact h j _ _ (List.getElem?_eq_getElem _o) (List.getElem?_eq_getElem _n) u v q1 q2
theorem Jb(I:Inv X Y M H s){x:V}(h:EI X.K H n x y):∀{A:Around},A.units+n<cLine->∀ u v,RelV x u->RelV y v->SeqAt.EqAt A s u v true:=by
 induction h with
 | same n a =>
  intro A hu u v r1 r2;cases r1;cases r2;exact vS _
 | int n i =>
  rintro A hu u v ⟨t1,rfl⟩ ⟨t2,rfl⟩;have h:=SeqAt.EqAt.int_int (A:=A) (s:=s) i t1 i t2;rw[ly]at h;exact h
 | str n x =>
  rintro A hu u v ⟨t1,rfl⟩ ⟨t2,rfl⟩;have h:=EN (A:=A) (s:=s) x t1 x t2;rw[ly]at h;exact h
 | @tup n a b xs ys h1 h2 hl h ih =>
  intro A hu u v r1 r2;cases r1;cases r2
  by_cases e:a=b
  .subst e
   exact vS _
  obtain⟨its,q1,p1,_⟩:=I.tuple h1;obtain⟨iF,q2,p2,_⟩:=I.tuple h2;refine SeqAt.EqAt.of_refs e ?_;have z:=SeqAt.RcAt.tuples (A:=A) (s:=s) (e:=fun _=>true) p1 p2 G (fun j h1 h2=>oY (K:=X.K) (H:=H) (R:=fun u v=>SeqAt.EqAt A.in1 s u v true) q1 q2 (fun j x y e1 e2 u v r1 r2=>ih j x y e1 e2 (A:=A.in1) (by show A.units+1+n<cLine;exact G) u v r1 r2) j h1 h2)
  have e1:its.toArray.size=iF.toArray.size:=by
   have:=q1.length;have:=q2.length;simp;exact G
  rw[nC,e1,ly]at z;exact z
 | @lst n a b xs ys h1 h2 hl h ih =>
  intro A hu u v r1 r2;cases r1;cases r2
  by_cases e:a=b
  .subst e
   exact vS _
  obtain⟨its,q1,p1,_⟩:=I.list h1;obtain⟨iF,q2,p2,_⟩:=I.list h2
  have e1:its.toArray.size=iF.toArray.size:=by
   have:=q1.length;have:=q2.length;simp;exact G
  refine SeqAt.EqAt.of_refs e ?_;have z:=SeqAt.RcAt.lists (A:=A) (s:=s) (e:=fun _=>true) p1.isList p2.isList e1 G (fun j h1 h2=>oY (K:=X.K) (H:=H) (R:=fun u v=>SeqAt.EqAt A.in1 s u v true) q1 q2 (fun j x y e1 e2 u v r1 r2=>ih j x y e1 e2 (A:=A.in1) (by show A.units+1+n<cLine;exact G) u v r1 r2) j h1 h2);rw[nC]at z;exact z
def xx(K:W.Frag)(H:Hp)(x y:V):Prop:=∃(a b:Addr)(xs ys:List V),x=.ref a/\y=.ref b/\((SqT K H a xs/\SqT K H b ys)\/(b3 K H a xs/\b3 K H b ys))/\xs.length=ys.length/\∀(j:Nat)(x y:V),xs[j]?=some x->ys[j]?=some y->EI K H 60 x y
def Ro(K:W.Frag):R2:=fun x y H Q=>xx K H x y/\Q (.bl true) H
theorem Aw(hu:X.A.units+64<cLine):kH X (compareOp .Eq) (Ro X.K):=by
 intro Y s M H x y v u Q I rx ry h;obtain⟨⟨a,b,xs,ys,rfl,rfl,AX,hl,hd⟩,k⟩:=h;cases rx;cases ry;have it:∀{its iF:List Value},Vals xs its->Vals ys iF->∀ j (h1:j<its.toArray.size) (h2:j<iF.toArray.size),SeqAt.EqAt X.A.in1 s its.toArray[j] iF.toArray[j] true:=fun q1 q2 j h1 h2=>oY (K:=X.K) (H:=H) (R:=fun u v=>SeqAt.EqAt X.A.in1 s u v true) q1 q2 (fun j x y e1 e2 u v r1 r2=>Jb I (hd j x y e1 e2) (A:=X.A.in1) (by show X.A.units+1+60<cLine;exact G) u v r1 r2) j h1 h2
 rcases AX with⟨h1,h2⟩|⟨h1,h2⟩
 .obtain⟨its,q1,p1,_⟩:=I.tuple h1
  obtain⟨iF,q2,p2,_⟩:=I.tuple h2
  have e1:its.toArray.size=iF.toArray.size:=by
   have:=q1.length;have:=q2.length;simp;exact G
  refine SeqAt.eq_tupleAt (e:=fun _=>true) p1 p2 G (it q1 q2) ?_;rw[nC,e1,ly];exact⟨.bl true,H,I,Z,k⟩
 obtain⟨its,q1,p1,_⟩:=I.list h1;obtain⟨iF,q2,p2,_⟩:=I.list h2
 have e1:its.toArray.size=iF.toArray.size:=by
  have:=q1.length;have:=q2.length;simp;exact G
 refine SeqAt.eq_listAt (e:=fun _=>true) p1.isList p2.isList e1 G (it q1 q2) ?_;rw[nC];exact⟨.bl true,H,I,Z,k⟩
theorem Jc{ns:List Int}(h1:SqT K H a (ns.map V.int))(h2:SqT K H b (ns.map V.int))(n:Nat):EI K H (n+1) (.ref a) (.ref b):=by
 refine .tup h1 h2 rfl fun j x y e1 e2=>?_
 rw[lS]at e1 e2;cases e:ns[j]? with
 |none=>rw[e]at e1;cases e1
 | some i =>
  rw[e]at e1 e2;cases e1;cases e2;exact .int n i
theorem Jd(h1:SqT K H a (ns.map V.str))(h2:SqT K H b (ns.map V.str))(n:Nat):EI K H (n+1) (.ref a) (.ref b):=by
 refine .tup h1 h2 rfl fun j x y e1 e2=>?_
 rw[lS]at e1 e2;cases e:ns[j]? with
 |none=>rw[e]at e1;cases e1
 | some i =>
  rw[e]at e1 e2;cases e1;cases e2;exact .str n i
def Rp(K:W.Frag):List V->Hp->VK->Prop:=fun xs H Q=>∃(p:Addr)(ns:List Int),xs=[.ref p]/\SqT K H p (ns.map V.int)/\0<ns.length/\∀ aad,aad∈ns->(∀ a∈ns,aad<=a)->Q (.int aad) H
theorem Fv(hc:X.calm=true):dJ X (.builtin "min") (Rp X.K):=by
 intro Y s M H xs us Q I r h;obtain⟨p,ns,rfl,hp,hne,q⟩:=h;obtain⟨u,rfl,ru⟩:=vals1 r;cases ru;obtain⟨its,rv,pl,hz⟩:=I.tuple hp;have hi:=intsAre_of rv;have hh:X.A.handled=none:=I.ok.hd hc;obtain⟨xs,e⟩:=hi.allInts.items;have pe:ns=xs.toList.map (·.1):=by rw[<- hi.numsOf,<- CI,<- e]
 have hsz:0<xs.size:=by
  have h3:=hne;rw[pe,dn,ay]at h3;exact h3
 have hl:s.heap.IsTuple p its.toArray:=pl;rw[e]at hl
 have fS:p<s.heap.objs.size:=by
  obtain⟨_,e1,_⟩:=hl;exact ax e1
 refine call_min_walk (iO hl ?_);refine⟨_,_,_,_,_,_,_,Z,Walks.tuple (A:=X.A.in1) hh s.heap.objs.size p (bg fS) (intItems xs),⟨⟨_,Heap.get?_push_size _ rfl,Z,Z⟩,hl.on fun o q=>Heap.get?_push_of_some _ q⟩,fun b hb=>?_,by simpa[intItems]using hsz,CmpOf.ints_lt (numAt xs) (fun _ _=>z5),fun v h' tk hP hk=>?_⟩
 .show b<(s.heap.push _).objs.size
  rw[ff];rcases ai.mp hb with rfl|hb
  .exact p9 _
  rw[aI.mp hb];exact n9 fS
 have hv:(intItems xs)[argBest (fun i j=>decide (numAt xs i<numAt xs j)) (xs.size-1)]?=some v:=by simpa[intItems]using hP
 have yT:∀ b o,s.heap.get? b=some o->h'.get? b=some o:=fun b o e1=>hk b o (fun z=>by
  rw[aI.mp z]at e1
  exact absurd (ax e1) (c8 _)) (Heap.get?_push_of_some _ e1)
 obtain⟨t,rfl⟩:=z5 hv;obtain⟨h1,h2⟩:=argBest_lt (numAt xs) (xs.size-1);refine⟨.int _,H,I.kept (t':=tk) yT,⟨t,Z⟩,q _ ?_ fun a ha=>?_⟩
 .rw[pe,z4]
  exact getD_mem (by rw[dn,ay];exact G)
 rw[pe]at ha;obtain⟨j,hj,rfl⟩:=mem_getD ha;rw[dn,ay]at hj;rw[<- z4];exact h2 j G
def CGr(i j:Int):Prop:=i.natAbs<2^8192/\j.natAbs<2^8192
theorem Ax{a:Int}(ha:a.natAbs<2^8192):Builtin.Int.intBits a<=2^20:=by
 have h:Builtin.Int.intBits a<=8192:=intBits_le ha;have h2:8192<=2^20:=by decide
 exact G
theorem MK:kH X (binaryOp .Mult) (rI CGr fun i j=>.int (i*j)):=JU fun _ _ _ _ _ _ _ hc q=>mul_int q (.of_bits (Ax hc.1) (Ax hc.2))
end L2
namespace PySem
open Sem (wp)
open AutoSeq1 (wpAny_loadPart')
namespace RvT
def obj(l:Addr)(i:Int):Obj:={ cls:=.type "reversed",data:=.fields #[.ref l,rawInt i] }
end RvT
end PySem
namespace L2
open PySem PyProof.Rows
theorem yR:kH X (compareOp .NotIn) (fun x y H Q=>∃ a b,x=.str a/\y=.str b/\Q (.bl (!Txt.contains b a)) H):=by
 intro Y s M H x y v u Q I rx ry h;obtain⟨a,b,rfl,rfl,q⟩:=h;obtain⟨t,rfl⟩:=rx;obtain⟨t',rfl⟩:=ry;exact SB.notContains ⟨.bl _,H,I,rfl,q⟩
inductive DM(K:W.Frag)(y:V)(vs:List V)(H:Hp)(Q:VK):Prop
 |mk(p:Addr)(xs:List V)(x:V)(_:y=.ref p)(_:vs=[x])(_:b3 K H p xs)(_:fB x=true)(_:xs.all fB=true)(_:∀ j:Nat,j<=xs.length->j=xs.countP (fun z=>mw z x)->Q (.int j) H)
theorem Cm{x:V}(r:Vals xs us)(f:xs.all fB=true):us.countP (tJ x)=xs.countP (fun z=>mw z x):=by
 induction r with
 |nil=>rfl
 | @cons y v ys vs rv t ih =>
  rw[ib,eA]at f;rw[f_,f_,ih f.2,rY rv f.1]
theorem Je:y9 X "list.count" (DM X.K):=by
 intro Y s M H y vs v us Q I ry r h;obtain⟨p,xs,x,rfl,rfl,hp,fx,fs,q⟩:=h;cases ry;obtain⟨u,rfl,ru⟩:=vals1 r;obtain⟨its,rv,pl,hz⟩:=I.list hp;obtain⟨⟨cls,dd,data,sl⟩,n,ho,hc,Xm,hd2⟩:=pl;simp only at hc Xm hd2;subst hc Xm hd2
 refine f' PySem.F.slot_list_count ⟨_,ho,rfl⟩ PySem.F.entry_list_count (PySem.F.args_list_count_2 _ _)
  (SeqAt.list_countAt p its.toArray n none sl u (tJ x)) ⟨ho,fun y hy=>iJ ru fx rv fs y (by simpa using hy),⟨.int _,H,I.tok _,⟨_,rfl⟩,?_⟩⟩
 have e:its.toArray.toList.countP (tJ x)=xs.countP (fun z=>mw z x):=by
  rw[<- Cm rv fs]
 rw[e];exact q _ (List.countP_le_length) rfl
end L2
namespace PySem
open PyProof.Rows
namespace StB
def It(h:Heap)(I:Addr)(first:Value)(i:Nat)(S:Addr)(n ep:Nat):Prop:=∃ o,h.get? I=some o/\o.cls=.type "set_iterator"/\o.data=.fields #[first,rawInt (i:Int),.ref S,rawInt (n:Int),rawInt (ep:Int)]
end StB
end PySem
namespace L2
open PySem PySem.Spec PyProof.Rows
theorem vQ:y9 X "str.startswith" (fun x vs H Q=>∃ z y,x=.str z/\vs=[.str y]/\Q (.bl (Txt.startswith z y)) H):=by
 intro Y s M H x vs v us Q I rx r h;obtain⟨z,y,rfl,rfl,q⟩:=h;obtain⟨t,rfl⟩:=rx;obtain⟨u,rfl,t',rfl⟩:=vals1 r;exact SC.startswith ⟨.bl _,H,I,rfl,q⟩
theorem oZ:y9 X "str.strip" (fun x vs H Q=>∃ z y,x=.str z/\vs=[.str y]/\z.length<=sizeLine/\Q (.str (Txt.stripChars z y)) H):=by
 intro Y s M H x vs v us Q I rx r h;obtain⟨z,y,rfl,rfl,hz,q⟩:=h;obtain⟨t,rfl⟩:=rx;obtain⟨u,rfl,t',rfl⟩:=vals1 r;exact SC.stripChars (fun t' k=>⟨.str _,H,I.tok _,⟨_,rfl⟩,q⟩) hz
theorem Cp:y9 X "str.lstrip" (fun x vs H Q=>∃ z y,x=.str z/\vs=[.str y]/\z.length<=sizeLine/\Q (.str (Txt.lstripChars z y)) H):=by
 intro Y s M H x vs v us Q I rx r h;obtain⟨z,y,rfl,rfl,hz,q⟩:=h;obtain⟨t,rfl⟩:=rx;obtain⟨u,rfl,t',rfl⟩:=vals1 r;exact SC.lstripChars (fun t' k=>⟨.str _,H,I.tok _,⟨_,rfl⟩,q⟩) hz
theorem uV:∀(l:List (Str×Tok)),Vals (l.map fun p=>V.str p.1) (strValues l)
 |[]=>.nil
 |p::r=>.cons ⟨p.2,rfl⟩ (uV r)
theorem xF:y9 X "str.split" (fun x vs H Q=>∃ z y,x=.str z/\vs=[.str y]/\¬y.length=0/\z.length<sizeLine/\(Txt.split z y).length <= sizeLine/\∀ p,H p=none->Q (.ref p) (upd H p (.lst ((Txt.split z y).map V.str)))):=by
 intro Y s M H x vs v us Q I rx r h;obtain⟨z,y,rfl,rfl,hy,hz,hn,q⟩:=h;obtain⟨t,rfl⟩:=rx;obtain⟨u,rfl,t',rfl⟩:=vals1 r;have UQ:(y.length==0)=false:=by simpa using hy
 have fin:∀(l:List (Str×Tok)) (k:Nat),l.map (·.1)=Txt.split z y->EP X Y M Q (.ref s.heap.objs.size) { s with toks:=k,heap:=s.heap.push { cls:=.type "list",data:=.seq (strValues l).toArray } }:=fun l k e=>by
  have e2:(l.map fun p=>V.str p.1)=(Txt.split z y).map V.str:=by rw[<- e,dA];rfl
  have rv:=uV l;rw[e2]at rv;exact⟨.ref _,_,I.MB (t':=k) rv (by rw[dn];exact hn),Z,q _ I.fresh⟩
 cases h1:(decide (z.length<y.length)||decide (Builtin.Str.strKind z<Builtin.Str.strKind y))
 .cases hf:(Builtin.Str.occurrences z y 0 z.length (z.length+1)).isEmpty
  .have e1:Txt.split z y=Builtin.Str.partsBetween z (Builtin.Str.occurrences z y 0 z.length (z.length+1)) y.length:=(bX (u_ h1)).trans (bX (u_ hf))
   refine f' F.slot_str_split (pS _ _ _) IZ (ES _ _) (meets_str_split_sep z y t t' h1 UQ hf (mI hz) (by rw[<- e1];exact hn)) ?_;show wants _ _ _ { s with toks:=_,heap:=s.heap.push { cls:=.type "list",data:=.seq (strsFrom s.toks (Builtin.Str.partsBetween z (Builtin.Str.occurrences z y 0 z.length (z.length+1)) y.length)).toArray } };rw[strsFrom_eq];exact fin _ _ ((numbered_texts _ _).trans e1.symm)
  exact f' F.slot_str_split (pS _ _ _) IZ (ES _ _) (meets_str_split_not_found z y t t' h1 UQ hf)
   (fin [(z,t)] s.toks ((bX (u_ h1)).trans (qp hf)).symm)
 exact f' F.slot_str_split (pS _ _ _) IZ (ES _ _) (meets_str_split_cannot_occur z y t t' h1) (fin [(z,t)] s.toks (qp h1).symm)
def cT(c:Nat):List Nat->List Nat
 |[]=>[]
 |d::r=>if d=c then []else d::cT c r
def cI(c:Nat):List Nat->List Nat
 |[]=>[]
 |d::r=>if d=c then r else cI c r
theorem uW{c:Nat}:∀{l:List Nat},(∀ i:Nat,l[i]?≠some c)->cT c l=l/\cI c l=[]
 |[],_=>⟨rfl,rfl⟩
 | d::r,h=>by
  have h1:¬d=c:=fun e=>h 0 (by rw[e];rfl)
  obtain⟨e1,e2⟩:=uW (l:=r) fun i=>h (i+1)
  show(if d=c then []else d::cT c r)=_/\(if d=c then r else cI c r)=_;rw[bX h1,bX h1,e1,e2];exact⟨Z,Z⟩
theorem Ay{c:Nat}:∀{l:List Nat}{i:Nat},l[i]?=some c->(∀ k,k<i->l[k]?≠some c)->cT c l=l.take i/\cI c l=l.drop (i+1)
 |[],i,h,_=>by simp at h
 | d::r,0,h,_=>by
  have e:d=c:=by simpa using h
  show(if d=c then []else d::cT c r)=_/\(if d=c then r else cI c r)=_;rw[qp e,qp e];exact⟨Z,Z⟩
 | d::r,i+1,h,hn=>by
  have h1:¬d=c:=fun e=>hn 0 G (by rw[e];rfl)
  obtain⟨e1,e2⟩:=Ay (l:=r) (i:=i) h fun k hk=>hn (k+1) G
  show(if d=c then []else d::cT c r)=_/\(if d=c then r else cI c r)=_;rw[bX h1,bX h1,e1,e2];exact⟨Z,Z⟩
theorem kW:y9 X "str.partition" (fun x vs H Q=>∃(z y:Str) (c:Nat),x=.str z/\vs=[.str y]/\y=⟨#[c]⟩/\z.length<=sizeLine /\ ∀ p (b:Str),H p=none->Q (.ref p) (upd H p (.tup [.str ⟨(cT c z.cps.toList).toArray⟩,.str b,.str ⟨(cI c z.cps.toList).toArray⟩]))):=by
 intro Y s M H x vs v us Q I rx r h;obtain⟨z,y,c,rfl,rfl,hy,hz,q⟩:=h;subst hy;obtain⟨t,rfl⟩:=rx;obtain⟨u,rfl,t',rfl⟩:=vals1 r
 have mk:∀(l:List Nat)(w:Str),w.cps.toList=l->(⟨l.toArray⟩:Str)=w:=fun l w e=>by
  cases w;rw[<- e]
 refine f' F.slot_str_partition (pS _ _ _) F.entry_str_partition (F.args_str_partition_2 _ _) (meets_str_partition z ⟨#[c]⟩ t t' rfl hz) ?_;rcases StrLaws.occ_head z ⟨#[c]⟩ 1 (qnr 1)with⟨h0,hn⟩|⟨i,rr,h0,hi,hn⟩
 .rw[h0]
  obtain⟨e1,e2⟩:=uW (c:=c) (l:=z.cps.toList) fun j hj=>hn j ((l7 z c j).mpr hj)
  have q':=q s.heap.objs.size Str.empty I.fresh;rw[mk (cT c z.cps.toList) z e1.symm,mk (cI c z.cps.toList) Str.empty (by rw[e2];rfl)]at q';exact⟨.ref _,_,I.laid (o:=.tup [.str z,.str Str.empty,.str Str.empty]) (t':=s.toks+1) (fun b u e=>Heap.get?_push_of_some _ e) (qnr _) ⟨(by show 3<=sizeLine;decide),_,.cons ⟨_,Z⟩ (.cons ⟨_,Z⟩ (.cons ⟨_,Z⟩ .nil)),kD.new _ _⟩,Z,q'⟩
 rw[h0];have hm:=(l7 z c i).mp hi;obtain⟨e1,e2⟩:=Ay hm fun k hk e=>hn k hk ((l7 z c k).mpr e)
 have q':=q s.heap.objs.size ⟨#[c]⟩ I.fresh
 rw[mk (cT c z.cps.toList) (Builtin.Str.strSub z 0 i) (by rw[e1,mn];simp),mk (cI c z.cps.toList) (Builtin.Str.strSub z (i+1) z.length) (by
  rw[e2,mn]
  exact fI (by simp[Str.length]))]at q'
 exact⟨.ref _,_,I.laid (o:=.tup [.str (Builtin.Str.strSub z 0 i),.str ⟨#[c]⟩,.str (Builtin.Str.strSub z (i+1) z.length)]) (t':=s.toks+1+1) (fun b u e=>Heap.get?_push_of_some _ e) (qnr _) ⟨(by show 3<=sizeLine;decide),_,.cons ⟨_,Z⟩ (.cons ⟨_,Z⟩ (.cons ⟨_,Z⟩ .nil)),kD.new _ _⟩,Z,q'⟩
theorem fY:dJ X (.type "str") (fun xs H Q=>∃ i:Int,xs=[.int i]/\i.natAbs.log2<1920/\Q (.str (toString i:String)) H):=by
 intro Y s M H xs us Q I r h;obtain⟨i,rfl,hi,q⟩:=h;obtain⟨u,rfl,t,rfl⟩:=vals1 r;exact P.str_of_int hi ⟨.str _,H,I.tok _,⟨_,rfl⟩,q⟩
end L2
namespace PySem
open Sem (wp)
def gm(cs:List Nat):Nat:=cs.foldl (fun a c=>a*10+(c-48)) 0
theorem nD(p:Nat->Bool){l:List Nat}(h:∀ c∈l,p c=false):(l.reverse.dropWhile p).reverse=l:=by
 have e:l.reverse.dropWhile p=l.reverse:=by
  cases hl:l.reverse with
  |nil=>rfl
  | cons a b =>
   have ha:a∈l:=by
    have:a∈l.reverse:=by rw[hl];exact qms
    simpa using this
   rw[nz (by rw[h a ha];decide)]
 rw[e,ft]
theorem lM(p:Nat->Bool){l:List Nat}(h:∀ c∈l,p c=false):l.dropWhile p=l:=by
 cases l with
 |nil=>rfl
 |cons a b=>rw[nz (by rw[h a qms];decide)]
theorem jF{f:Array Nat×Bool->Nat->Option (Array Nat×Bool)}(hf:∀ ds b c,48<=c->c<=57->f (ds,b) c=some (ds.push (c-48),true)):∀(cs:List Nat)(ds:Array Nat)(b:Bool),(∀ c∈cs,48<=c/\c<=57)->List.foldlM (m:=Option) f (ds,b) cs=some (ds++(cs.map (· - 48)).toArray,b || !cs.isEmpty)
 |[],ds,b,_=>by simp
 | c::r,ds,b,h=>by
  rw[List.foldlM_cons,hf ds b c (h c qms).1 (h c qms).2];show List.foldlM (m:=Option) f (ds.push (c-48),true) r=_;rw[jF hf r _ _ fun d hd=>h d (k_ _ hd)];simp
theorem dj(h1:48<=c)(h2:c<=57):c=48\/c=49\/c=50\/c=51\/c=52\/c=53\/c=54\/c=55\/c=56\/c=57:=G
theorem Fw:typeLookup (.type "str") "__int__"=pure none:=by rw[nX,i8];kernel_rfl
theorem yS:typeLookup (.type "str") "__index__"=pure none:=by rw[nX,i8];kernel_rfl
theorem yU:typeLookup (.type "str") "__trunc__"=pure none:=by rw[nX,i8];kernel_rfl
theorem MN(cs:List Nat):Array.foldl (fun acc d=>acc*10+d) 0 (#[]++(cs.map (· - 48)).toArray)=gm cs:=by
 unfold gm;simp[List.foldl_map]
theorem um(x:Str)(u:Tok){c0:Nat}{r:List Nat}(he:x.cps.toList=c0::r)(h0:49<=c0/\c0<=57\/c0=48/\r=[])(hr:∀ c∈r,48<=c/\c<=57)(hl:r.length<600): Meets (Builtin.«int.__new__» ⟨[.type "int",.str x u],[]⟩) (Made.int (gm (c0::r):Nat)).spec :=
 Meets.of_wp fun prog w A R s hs=>by
  have nV:∀ c∈c0::r,48<=c/\c<=57:=fun c hc=>by
   rcases ai.mp hc with rfl|hc
   .rcases h0 with h|h<;>exact G
   exact hr c hc
  have ha:x.cps.all (· < 128)=true:=by
   rw[<- Array.all_toList,he,bP];intro c hc;have:=nV c hc;exact cK G
  have hz:(c0::r).takeWhile (· != 0)=c0::r:=by
   have all:∀(l:List Nat),(∀ c∈l,48<=c/\c<=57)->l.takeWhile (· != 0)=l:=by
    intro l
    induction l with
    |nil=>intro _;rfl
    | cons a b ih =>
     intro h;have:=h a qms;rw[nk (by simp;exact G),ih fun c hc=>h c (k_ _ hc)]
   exact all _ nV
  have CH:(c0::r).length <= 640:=by show r.length+1<=640;exact G
  have h6:¬6000<r.length+1:=G
  have WE:c0=49\/c0=50\/c0=51\/c0=52\/c0=53\/c0=54\/c0=55\/c0=56\/c0=57\/(c0=48/\r=[]):=by
   rcases h0 with h|h
   .omega
   exact .inr (.inr (.inr (.inr (.inr (.inr (.inr (.inr (.inr h))))))))
  obtain⟨hp,g,d,tk,os⟩:=s;have f1:=F.conv_sub_int;have f2:=F.madeHere_int;have f3:=Fw;have f4:=yS;have f5:=yU;have hT:(⟨hp,g,d,tk,os⟩:Shared).TypeIs (.str x u) "str":=rfl
  repeat (any_goals (first|assumption|wp_step))
  rw[qp ha,he,hz,qp CH]
  repeat (any_goals (first|assumption|wp_step))
  clear CH hz ha he hT;have key:=MN (c0::r);generalize hn:gm (c0::r)=n at hs key;rcases WE with rfl|rfl|rfl|rfl|rfl|rfl|rfl|rfl|rfl|⟨rfl,rfl⟩
  rotate_right
  .split
   .rename_i m h
    cases h
   .rename_i h
    cases h
   .rename_i i h
    have e:i=(n:Int):=by
     cases h;rw[<- hn]
     rfl
    subst e;rw[qp oz]
    repeat (any_goals (first|assumption|wp_step))
    all_goals first|exact⟨_,Z,hs⟩|skip
   rename_i h
   cases h
  all_goals
   split
   .rename_i m h
    change (match (Option.bind (α:=Array Nat×Bool) (β:=Array Nat) (List.foldlM (m:=Option) (s:=Array Nat×Bool) (α:=Nat) _ ((#[]:Array Nat),false) (((_:List Nat).reverse.dropWhile _).reverse)) _)with|none=>_|some ds=>_)=_ at h
    rw[nD _ (fun c hc=>by
       rcases dj (nV c hc).1 (nV c hc).2 with rfl|rfl|rfl|rfl|rfl|rfl|rfl|rfl|rfl|rfl<;>rfl),lM _ (fun c hc=>by
       rcases dj (nV c hc).1 (nV c hc).2 with rfl|rfl|rfl|rfl|rfl|rfl|rfl|rfl|rfl|rfl<;>rfl),jF (fun ds b c h1 h2=>by
       rcases dj h1 h2 with rfl|rfl|rfl|rfl|rfl|rfl|rfl|rfl|rfl|rfl<;>rfl) _ _ _ nV]at h
    simp[h6]at h
   .rename_i h
    change (match (Option.bind (α:=Array Nat×Bool) (β:=Array Nat) (List.foldlM (m:=Option) (s:=Array Nat×Bool) (α:=Nat) _ ((#[]:Array Nat),false) (((_:List Nat).reverse.dropWhile _).reverse)) _)with|none=>_|some ds=>_)=_ at h
    rw[nD _ (fun c hc=>by
       rcases dj (nV c hc).1 (nV c hc).2 with rfl|rfl|rfl|rfl|rfl|rfl|rfl|rfl|rfl|rfl<;>rfl),lM _ (fun c hc=>by
       rcases dj (nV c hc).1 (nV c hc).2 with rfl|rfl|rfl|rfl|rfl|rfl|rfl|rfl|rfl|rfl<;>rfl),jF (fun ds b c h1 h2=>by
       rcases dj h1 h2 with rfl|rfl|rfl|rfl|rfl|rfl|rfl|rfl|rfl|rfl<;>rfl) _ _ _ nV]at h
    simp[h6]at h
   .rename_i i h
    change (match (Option.bind (α:=Array Nat×Bool) (β:=Array Nat) (List.foldlM (m:=Option) (s:=Array Nat×Bool) (α:=Nat) _ ((#[]:Array Nat),false) (((_:List Nat).reverse.dropWhile _).reverse)) _)with|none=>_|some ds=>_)=_ at h
    rw[nD _ (fun c hc=>by
       rcases dj (nV c hc).1 (nV c hc).2 with rfl|rfl|rfl|rfl|rfl|rfl|rfl|rfl|rfl|rfl<;>rfl),lM _ (fun c hc=>by
       rcases dj (nV c hc).1 (nV c hc).2 with rfl|rfl|rfl|rfl|rfl|rfl|rfl|rfl|rfl|rfl<;>rfl),jF (fun ds b c h1 h2=>by
       rcases dj h1 h2 with rfl|rfl|rfl|rfl|rfl|rfl|rfl|rfl|rfl|rfl<;>rfl) _ _ _ nV]at h
    simp[h6]at h;simp at key;rw[key]at h;subst h;rw[qp oz]
    repeat (any_goals (first|assumption|wp_step))
    all_goals first|exact⟨_,Z,hs⟩|skip
   rename_i h
   change (match (Option.bind (α:=Array Nat×Bool) (β:=Array Nat) (List.foldlM (m:=Option) (s:=Array Nat×Bool) (α:=Nat) _ ((#[]:Array Nat),false) (((_:List Nat).reverse.dropWhile _).reverse)) _)with|none=>_|some ds=>_)=_ at h
   rw[nD _ (fun c hc=>by
      rcases dj (nV c hc).1 (nV c hc).2 with rfl|rfl|rfl|rfl|rfl|rfl|rfl|rfl|rfl|rfl<;>rfl),lM _ (fun c hc=>by
      rcases dj (nV c hc).1 (nV c hc).2 with rfl|rfl|rfl|rfl|rfl|rfl|rfl|rfl|rfl|rfl<;>rfl),jF (fun ds b c h1 h2=>by
      rcases dj h1 h2 with rfl|rfl|rfl|rfl|rfl|rfl|rfl|rfl|rfl|rfl<;>rfl) _ _ _ nV]at h
   simp[h6]at h
theorem vR{u:Tok}{c0:Nat}{r:List Nat}(he:x.cps.toList=c0::r)(h0:49<=c0/\c0<=57\/c0=48/\r=[])(hr:∀ c∈r,48<=c/\c<=57)(hl:r.length<600)(h:Q (.int (gm (c0::r):Nat) s.toks) { s with toks:=s.toks+1 }): wpAny (model prog w) A (call (.type "int") [.str x u]) Q E s :=
 call_int_1 (um x u he h0 hr hl) (show(Made.int (gm (c0::r):Nat)).post _ s from⟨rfl,h⟩)
end PySem
namespace L2
open PySem PySem.Spec PyProof.Rows
theorem Fx:dJ X (.type "int") (fun xs H Q=>∃(x:Str) (c0:Nat) (r:List Nat),xs=[.str x]/\x.cps.toList=c0::r/\(49<=c0/\c0<=57\/c0=48/\r=[])/\(∀ c∈r,48<=c/\c<=57)/\r.length<600/\Q (.int (gm (c0::r):Nat)) H):=by
 intro Y s M H xs us Q I r h;obtain⟨x,c0,r',rfl,he,h0,hr,hl,q⟩:=h;obtain⟨u,rfl,t,rfl⟩:=vals1 r;exact vR he h0 hr hl ⟨.int _,H,I.tok _,⟨_,rfl⟩,q⟩
def PQ(X:Cx)(tf:TE)(ta:TA):TE:=fun M H Q=>tf M H fun v H1=>∃(f:Addr)(CX:xA)(k:Nat)(fd:FuncData)(ps:List Str)(sp:Sp)(E:XK),v=.ref f/\g_ X.prog X.w X.K X.mg X.base CX k f fd ps sp/\fE k X.A/\W.keepIn X.K (.ref f)=true/\Binds X.K fd ps []/\eE CX X E /\
 ta M H1 fun vs H2=>sp vs H2 Q E
theorem nF{o i:Expr}{tf:TE}{ta:TA}(hf:PE X (.Subscript o i p) tf)(ha:PA X (e::es) ta)
  (he:starEach (e::es) X.env=(false,eval e X.env):: starEach es X.env:=by rfl) (ij:(backTo pos (starEach es X.env)).any (·.1)=false:=by rfl):
  PE X (.Call (.Subscript o i p) (e::es) [] pos) (PQ X tf ta):=by
 intro Y s M H Q I h
 have arm:eval (.Call (.Subscript o i p) (e::es) [] pos) X.env=(do
   callWith pos (<- eval (.Subscript o i p) X.env) [] (backTo pos (starEach (e::es) X.env)) (backToKw pos (keywordEach [] X.env))):=rfl
 rw[arm];refine ae (thn (hf Y s M H _ I h) fun u s1 ⟨x,H1,I1,r1,f,CX,k,fd,ps,sp,E,ev,F,hr,hk,hb,hx,q⟩=>?_);subst ev;cases r1;refine vc (h₀:=X.base) I1.ok.mod.Kb hk (thn (ha pos Y s1 M H1 _ I1 q) fun us s2 ⟨vs,H2,I2,r,q2⟩=>⟨I2.kIn,?_⟩) he ij;exact rT (dvs:=[]) (ds:=[]) F hr hb .nil hx I2 r (by rw[cn];exact q2)
section
variable{aad:Model}
variable{nm q nm' q':Str}{N C' N':Addr}{bs bs' T':List Value}{hdct SR:Bool}{sn sn':List Str}{sub VX:List Value}{ab ab':Bool}{col Yf:Option Bool}{dd dd':Option Addr}{k0 k1 k2 k3 k5 j0 j1 j2 j3 j5:Option Value}{MA:String}
theorem oA{g:Array GenState}{d:Drawn}{t:Nat}{os:OsState}{e:Addr}{oe:Obj}{b:Bool}{Q:Bool->Shared->Prop}(hC:h.get? C=some (excClassObj nm q C N bs bm hdct sn sub ab col dd k0 k1 k2 k3 k5 newId))(hM:h.get? C'=some (excClassObj nm' q' C' N' bs' T' SR sn' VX ab' Yf dd' j0 j1 j2 j3 j5 MA))(he:h.get? e=some oe)(NA:oe.cls=.ref C)(oy:T'.contains (.type "BaseException")=true)(DZ:(Value.ref C::bm).contains (.ref C')=b)(hq:Q b ⟨h,g,d,t,os⟩):wpAny aad A (excMatches (.ref e) (.ref C')) Q E ⟨h,g,d,t,os⟩:=by
 have hcB:(Value.ref C'::T').contains (.type "BaseException")=true:=by rw[List.contains_cons,oy,Bool.or_true]
 have f:=tc_notTuple;cases b
 all_goals unfold excMatches
 all_goals repeat (first | (with_reducible refine wpAny_loadPart_at he ?_;rw[NA])|with_reducible refine wpAny_loadPart_at hM ?_ | (with_reducible refine wpAny_isSubtype_exc hM ?_;rw[hcB]) | (with_reducible refine wpAny_isSubtype_exc hC ?_;rw[DZ])|wp_step)
 all_goals first|exact hq|exact aw hq
end
inductive Ui(X:Cx):List ExceptHandler->List (Addr×TS)->Prop
 |nil:Ui X [] []
 | cons {x:Str} {aad:Addr} {b₀:Stmt} {C0:List Stmt} {np R_:Pos} {rest:List ExceptHandler} {ts:TS} {tr:List (Addr×TS)} (hm:X.mg x=some (.ref aad)) (hM:fe X.K aad=true) (hg:X.env.scope.names.lookup x=some .globalImplicit) (mi:(x==("__debug__":Str))=false)
   (hs:∀ e,y6 (X.kX e) (b₀::C0) ts) (hr:Ui X rest tr):Ui X (.ExceptHandler (some (.Name x np)) none (b₀::C0) R_::rest) ((aad,ts):: tr)
def pick(K:W.Frag)(C:Addr)(D:Ends)(M:St)(H:Hp):List (Addr×TS)->Prop
 |[]=>False
 |(aad,ts):: r=>(under K C aad=true/\ts D M H)\/(under K C aad=false/\pick K C D M H r)
def Rq(K:W.Frag)(tb:NX)(hs:List (Addr×TS)):TS:=fun D M H=>tb D (fun c _ H1=>∃ C,c=.ref C/\(jn K C).isSome=true/\pick K C D M H1 hs) M H
theorem IH{B h5:Heap}(I1:Inv X Y M H1 s1)(xc:X.stack=X.env::X.outer)(OX:s2.os=s1.os)(tI:AllBare s2.gens)(sP:Un (kz X.stack) [] H1 H2 s1.heap s2.heap)(BY:mS X.prog X.w H2 s2.heap)(ic:∀ b o,s1.heap.get? b=some o->H1 b=none->b∉kz X.stack->B.get? b=some o)(HP:∀ b o,s1.heap.get? b=some o->b∉kz X.stack->∃ o',B.get? b=some o')(xI:∀ b,H2 b≠none->∃ o,s2.heap.get? b=some o/\B.get? b=some o)(OY:Heap.FlyingW B X.stack a (.ref C) a0 h5)(sm:s2.heap.UpToSlots h5)  (q1:jn X.K C=some bm): ∀{hs:List ExceptHandler}{l:List (Addr×TS)},Ui X hs l->pick X.K C D M H2 l->wpAny (model X.prog X.w) X.A (handleBy (.ref a) X.env hs) (SP X Y D) X.xe { s2 with heap:=h5 }:=by
 intro hs l P;have I5:Inv X Y M H2 { s2 with heap:=h5 }:=I1.landed xc OX tI sP BY ic HP xI OY sm;obtain⟨ob,ZU,Si⟩:=OY.there;have KI:X.K.In h5:=I5.kIn
 induction P with
 |nil=>intro k;exact k.elim
 | @cons x aad b₀ C0 np R_ rest ts tr hm hM hg mi BI hr ih =>
  intro k;refine wpAny_handleBy_cons (codeAny_handlers_test (jl (X:=X.kX a) (I5.kX a) hg hm ?_ mi)) (by intro q;cases q)
  obtain⟨T',q3,q4⟩:∃ bm,jn X.K aad=some bm/\bm.contains (.type "BaseException")=true:=by
   unfold fe at hM;cases e:jn X.K aad with
   |none=>rw[e]at hM;cases hM
   |some bm=>rw[e]at hM;exact⟨bm,Z,hM⟩
  obtain⟨_,_,_,_,_,_,_,_,_,_,_,_,_,_,_,_,oC⟩:=xm KI q1;obtain⟨_,_,_,_,_,_,_,_,_,_,_,_,_,_,_,_,oM⟩:=xm KI q3;have eu:under X.K C aad=(Value.ref C::bm).contains (.ref aad):=by unfold under;rw[q1];rfl
  rcases k with⟨hu,k⟩|⟨hu,k⟩
  .rw[eu]at hu
   refine oA oC oM ZU Si q4 hu (codeAny_handlers_suite ?_);refine lands_againW OY fun h6 fl6 sm6=>?_
   have I6:Inv X Y M H2 { s2 with heap:=h6 }:=I1.landed xc OX tI sP BY ic HP xI fl6 (sm.trans sm6);refine d_ (BI a Y _ _ _ D (I6.kX a) k) (fun f s9 q=>?_) fun _ _ z=>False.elim z
   cases f with
   |next=>obtain⟨σ',J,I9,q⟩:=q;exact⟨_,_,I9.uncaught I1.ok,q⟩
   |brk=>obtain⟨σ',J,I9,q⟩:=q;exact⟨_,_,I9.uncaught I1.ok,q⟩
   |cont=>obtain⟨σ',J,I9,q⟩:=q;exact⟨_,_,I9.uncaught I1.ok,q⟩
   |ret u=>obtain⟨v,σ',J,I9,r,q⟩:=q;exact⟨v,_,_,I9.uncaught I1.ok,r,q⟩
  rw[eu]at hu;exact oA oC oM ZU Si q4 hu (ih k)
theorem Az{tb:NX}{hs:List ExceptHandler}{l:List (Addr×TS)}(hb:Pr X body tb)(P:Ui X hs l)(hne:hs≠[]:=by exact df _ _)
  (xc:X.stack=X.env::X.outer:=by rfl) (Xg:X.env.frame=some X.env.locals:=by rfl):
  PS X (.Try body hs [] [] pos) (Rq X.K tb l):=by
 intro Y s M H D I h
 obtain⟨h0,RF,rfl⟩:∃ h0 RF,hs=h0::RF:=by
  cases hs with
  |nil=>exact absurd rfl hne
  |cons a b=>exact⟨a,b,Z⟩
 refine wpAny_Try_except (d_ (hb Y s M H D _ I h) (fun f s1 q=>?_) fun e s2 q=>?_)
 .cases f with
  |next=>exact kT q
  |ret v=>exact q
  |brk=>exact q
  |cont=>exact q
 obtain⟨H1,s1,I1,a,C,H2,ea,F,C',ec,hu,k⟩:=q;subst ea;cases ec;obtain⟨OX,tI,sP,BY,K0,B,a0,KP,ic,HP,xI⟩:=F;have Xf:X.A.frames=some (X.env::X.outer):=by rw[<- xc];exact I1.ok.frames
 rw[xc]at KP;refine wpAny_looks_onW Xf Xg KP fun h4 SI sm4=>?_
 refine wpAny_landsW SI fun h5 OY sm5=>?_
 rw[<- xc]at OY;obtain⟨bm,q1⟩:=kg.mp hu;exact IH I1 xc OX tI sP BY ic HP xI OY (sm4.trans sm5) q1 P k
end L2
namespace PySem
open PyProof.Rows Builtin.Str
theorem kY(c:Nat):(fun d=>(⟨#[c]⟩:Str).cps.contains d)=fun d=>d==c:=by
 funext d
 show(#[c]:Array Nat).contains d=_
 by_cases e:d=c<;>simp[e]
theorem jr(p:Nat->Bool):∀ l:List Nat,l.drop (l.takeWhile p).length=l.dropWhile p
 |[]=>rfl
 | a::r=>by
  by_cases h:p a=true
  .rw[nk h,List.dropWhile_cons_of_pos h]
   exact jr p r
  rw[IT h,nz h]
  rfl
theorem Fy(p:Nat->Bool):∀ l:List Nat,(l.takeWhile p).length <= l.length
 |[]=>qnr _
 | a::r=>by
  by_cases h:p a=true
  .rw[nk h]
   have:=Fy p r;show(r.takeWhile p).length+1<=r.length+1;exact G
  rw[IT h];exact mr _
theorem Jf(x:Str)(c:Nat):(Txt.lstripChars x ⟨#[c]⟩).cps.toList=x.cps.toList.dropWhile (· == c):=by
 unfold Txt.lstripChars;rw[stripBy_eq,mn];show((x.cps.toList.drop (x.cps.toList.takeWhile (fun d=>(⟨#[c]⟩:Str).cps.contains d)).length).take (x.length-(x.cps.toList.takeWhile (fun d=>(⟨#[c]⟩:Str).cps.contains d)).length))=_;rw[kY,jr];refine fI ?_;rw[<- jr,cm];have:x.length=x.cps.toList.length:=ay.symm;exact G
theorem MP(x:Str)(c:Nat):(Txt.stripChars x ⟨#[c]⟩).cps.toList=((x.cps.toList.dropWhile (· == c)).reverse.dropWhile (· == c)).reverse:=by
 unfold Txt.stripChars;rw[stripBy_eq,mn];have hx:x.length=x.cps.toList.length:=ay.symm
 have e:stripLo (fun d=>(⟨#[c]⟩:Str).cps.contains d) true x=(x.cps.toList.takeWhile (fun d=>d==c)).length:=by
  rw[kY]
  rfl
 show(x.cps.toList.drop (stripLo (fun d=>(⟨#[c]⟩:Str).cps.contains d) true x)).take ((x.length-((x.cps.toList.drop (stripLo (fun d=>(⟨#[c]⟩:Str).cps.contains d) true x)).reverse.takeWhile (fun d=>(⟨#[c]⟩:Str).cps.contains d)).length)-stripLo (fun d=>(⟨#[c]⟩:Str).cps.contains d) true x)=_;rw[e,jr,kY,<- jr (fun d=>d==c) (x.cps.toList.dropWhile (fun d=>d==c)).reverse,List.drop_reverse,ft]
 congr 1
 have h1:(x.cps.toList.dropWhile (fun d=>d==c)).length+(x.cps.toList.takeWhile (fun d=>d==c)).length=x.cps.toList.length:=by
  rw[<- jr,cm];have:=Fy (fun d=>d==c) x.cps.toList;exact G
 exact G
def eY(c:Nat):List Nat->List (List Nat)
 |[]=>[[]]
 | d::r=>if d=c then []:: eY c r else match eY c r with
  |[]=>[[d]]
  |p::ps=>(d::p):: ps
theorem jt(c:Nat):∀(u v:List Nat),c∉u->eY c (u++v)=match eY c v with
  |[]=>[u]
  |p::ps=>(u++p):: ps
 | [], v,_=>by
  show eY c v=_;cases h:eY c v with
  | nil =>
   cases v with
   |nil=>cases h
   | cons d r =>
    unfold eY at h
    split at h
    .cases h
    split at h<;>cases h
  |cons p ps=>rfl
 | d::r,v,h=>by
  have h1:¬d=c:=fun e=>h (e ▸ qms)
  show(if d=c then _ else match eY c (r++v)with | []=>[[d]] | p::ps=>(d::p):: ps)=_;rw[bX h1,jt c r v fun z=>h (k_ _ z)];cases eY c v<;>rfl
theorem mF(c:Nat):∀ ps:List Str,ps≠[]->(∀ p∈ps,c∉p.cps.toList)->eY c (Str.join ⟨#[c]⟩ ps).cps.toList=ps.map (·.cps.toList)
 |[],h,_=>absurd rfl h
 | [p],_,h=>by
  show eY c p.cps.toList=[p.cps.toList]
  have:=jt c p.cps.toList [] (h p qms);rw[cn]at this;rw[this];show [p.cps.toList++[]]=_;rw[cn]
 | p::q::r,_,h=>by
  have ih:=mF c (q::r) (df _ _) fun z hz=>h z (k_ _ hz)
  show eY c (p++⟨#[c]⟩++Str.join ⟨#[c]⟩ (q::r)).cps.toList=_
  have e:(p++⟨#[c]⟩++Str.join ⟨#[c]⟩ (q::r)).cps.toList=p.cps.toList++(c::(Str.join ⟨#[c]⟩ (q::r)).cps.toList):=by
   show(p.cps ++ #[c]++(Str.join ⟨#[c]⟩ (q::r)).cps).toList=_;simp
  rw[e,jt c _ _ (h p qms)];have e2:eY c (c::(Str.join ⟨#[c]⟩ (q::r)).cps.toList)=[]:: eY c (Str.join ⟨#[c]⟩ (q::r)).cps.toList:=qp rfl;rw[e2,ih];show(p.cps.toList++[]):: _=_;rw[cn]
  rfl
theorem MT(x:Str)(c:Nat):(Txt.split x ⟨#[c]⟩).map (·.cps.toList)=eY c x.cps.toList:=by
 have h1:=StrLaws.join_split x ⟨#[c]⟩;have h2:=StrLaws.split_free x c;have h3:=split_pos x ⟨#[c]⟩;have h:=mF c (Txt.split x ⟨#[c]⟩) (fun e=>by rw[e]at h3;exact absurd h3 b4) h2;rw[h1]at h;exact h.symm
end PySem
namespace L2
open PySem PyProof.Rows
theorem Fz(h:X.K=K:=by rfl):y9 X "list.count" (DM K):=h ▸ Je
open PySem PySem.Spec PyProof.Rows
inductive L8(K:W.Frag)(x:V)(vs:List V)(H:Hp)(Q:VK):Prop
 |mk(z:Str)(p:Addr)(ys:List Str)(_:x=.str z)(_:vs=[.ref p])(_:SqT K H p (ys.map V.str))(_:(ys.map (·.length)).sum+ys.length*z.length<=16777216)(_:Q (.str (Txt.join z ys)) H)
theorem Jg:y9 X "str.join" (L8 X.K):=by
 intro Y s M H x xs v us Q I rx r h;obtain⟨z,p,ys,rfl,rfl,hp,hs,q⟩:=h;obtain⟨t,rfl⟩:=rx;obtain⟨u,rfl,ru⟩:=vals1 r;cases ru;obtain⟨its,rv,pl,hz⟩:=I.tuple hp;exact join_tuple pl (by simpa using lK rv) hs fun t' k=>⟨.str _,H,I.tok k,⟨t',rfl⟩,q⟩
end L2
namespace PySem.ZL
open PySem
abbrev qW(h:Heap)(z TI TO a:Addr)(f:Bool):Prop :=
 h.get? z=some { cls:=.type "zip",dict:=none,data:=.fields #[rawInt a,.bool f,.bool false,.ref TI,.ref TO],slots:=#[] }
theorem alive{o:Obj}{Q:Option Obj->Shared->Prop}(ho:s.heap.get? a=some o)(h:Q (some o) s):wpAny (model prog w) A (loadIfAlive a) Q E s:=by
 have h':Q (s.heap.get? a) s:=by rw[ho];exact h
 exact fun _ _ _=>h'
theorem xG{TI TO:Addr}{f:Bool}{Q:Bool->Shared->Prop}(hz:qW s.heap z TI TO a f)(ha:s.heap.get? a=some oa)(h:∀ h',qW h' z TI TO a true->Heap.SameBut z s.heap h'->Q false { s with heap:=h' }): wpAny (model prog w) A (Builtin.SmallTypes.ownedTupleIsFree (.ref z)) Q E s:=by
 unfold Builtin.SmallTypes.ownedTupleIsFree;refine ae (cS hz rfl (x:=rawInt a) rfl ?_);show wpAny _ _ (loadIfAlive ((a:Int).toNat)>>=_) _ _ _;rw[bq];refine ae (alive ha ?_);simp only[Option.isNone_some,gp,kf];refine ae (cS hz rfl (x:=.bool f) rfl ?_);cases f with
 | true =>
  rw[bX (show ¬((Value.bool true != Value.bool true)=true)from jv)];exact aw (h _ hz (Heap.SameBut.refl _ _))
 | false =>
  rw[qp (show(Value.bool false != Value.bool true)=true from rfl)];refine ae (iN hz oz fun h₃ he₃ OE=>?_);exact aw (h _ he₃ OE)
theorem Jh{TI TO:Addr}{f:Bool}{k2:Nat}{xs ys:Array Value}{x y:Value}{Q:Option Value->Shared->Prop}(D:ZipApart z TI TO i1 i2 l1 l2)(hz:qW s.heap z TI TO a f)(ha:s.heap.get? a=some oa)(Xw:IsPair s.heap TI (.ref i1) (.ref i2))(h1:s.heap.IsListIter i1 l1 k1)(h2:s.heap.IsListIter i2 l2 k2)(ow:s.heap.IsList l1 xs)(l8:s.heap.IsList l2 ys)(hx:xs[k1]?=some x)(hy:ys[k2]?=some y)(hQ:∀ h',qW h' z TI TO a true->h'.IsListIter i1 l1 (k1+1)->h'.IsListIter i2 l2 (k2+1)->IsPair h' s.heap.objs.size x y->h'.objs.size=s.heap.objs.size+1 -> (∀ c o,c≠z->c≠i1->c≠i2->s.heap.get? c=some o->h'.get? c=some o)->Q (some (.ref s.heap.objs.size)) { s with heap:=h' }): wpAny (model prog w) A (pyNext (.ref z)) Q E s:=by
 have hT:s.TypeIs (.ref z) "zip":=⟨_,hz,rfl⟩
 unfold pyNext;refine ae (sF (wpAny_callSpecial?_slot (name:=Str.ofString "__next__") hT g9 (fw g9 hT tx ?_ (r6 _))));show wpAny _ _ (field (.ref z) 2>>=_) _ _ _;refine ae (cS hz rfl (x:=.bool false) rfl ?_);show wpAny _ _ (field (.ref z) 3>>=_) _ _ _;refine ae (cS hz rfl (x:=.ref TI) rfl ?_);refine ae (eB Xw rfl ?_);show wpAny _ _ (Builtin.SmallTypes.ownedTupleIsFree (.ref z)>>=_) _ _ _;refine ae (xG hz ha fun h₁ ZA E4=>?_);simp only[gp,kf];refine ae ?_;rw[List.forIn_toArray];simp only[kq,nt];refine ae (ae (i4 ?_));show wpAny _ _ (Builtin.SmallTypes.nextOf (.ref i1)>>=_) _ _ _;refine ae (u7 (h1.extBut E4.extBut D.i1z) (ow.extBut E4.extBut D.l1z) hx fun h₂ h1₂ MM=>aw (aw ?_));refine ae (ae (i4 ?_));show wpAny _ _ (Builtin.SmallTypes.nextOf (.ref i2)>>=_) _ _ _;refine ae (u7 ((h2.extBut E4.extBut D.i2z).extBut MM.extBut D.i12.symm) ((l8.extBut E4.extBut D.l2z).extBut MM.extBut D.l2i1) hy fun h₃ h2₃ OE=>aw (aw (aw ?_)));refine ae (wpAny_newTuple ?_ xE);have hsz:h₃.objs.size=s.heap.objs.size:=by rw[OE.1,MM.1,E4.1]
 have hz₃:qW h₃ z TI TO a true:=OE.extBut _ _ D.i2z.symm (MM.extBut _ _ D.i1z.symm ZA);have pu:=fun c (o:Obj) (e:h₃.get? c=some o)=>Heap.get?_push_of_some { cls:=.type "tuple",data:=.seq #[x,y] } e
 refine aw ⟨_,rfl,aw ?_⟩;show Q (some (.ref h₃.objs.size)) _;have ht:IsPair (h₃.push { cls:=.type "tuple",data:=.seq #[x,y] }) h₃.objs.size x y:=Heap.get?_push_size _ rfl;have hp:(h₃.push { cls:=.type "tuple",data:=.seq #[x,y] }).objs.size=h₃.objs.size+1:=ff ..;rw[hsz]at ht hp ⊢;exact hQ _ (pu _ _ hz₃) ((h1₂.extBut OE.extBut D.i12).at fun o e=>pu _ o e) (h2₃.at fun o e=>pu _ o e) ht hp fun c o c1 c2 c3 e=>pu c o (OE.extBut _ _ c3 (MM.extBut _ _ c2 (E4.extBut _ _ c1 e)))
theorem M3{TI TO:Addr}{f:Bool}{xs:Array Value}{Q:Option Value->Shared->Prop}(hh:A.handled=none)(D:ZipApart z TI TO i1 i2 l1 l2)(hz:qW s.heap z TI TO a f)(ha:s.heap.get? a=some oa)(Xw:IsPair s.heap TI (.ref i1) (.ref i2))(h1:s.heap.IsListIter i1 l1 k1)(ow:s.heap.IsList l1 xs)(hx:xs[k1]?=none)(hQ:∀ h',(∀ c o,c≠z->c≠i1->c≠i2->s.heap.get? c=some o->h'.get? c=some o)->Q none { s with heap:=h' }): wpAny (model prog w) A (pyNext (.ref z)) Q E s:=by
 have hT:s.TypeIs (.ref z) "zip":=⟨_,hz,rfl⟩
 unfold pyNext;refine ae (sF (wpAny_callSpecial?_slot (name:=Str.ofString "__next__") hT g9 (fw g9 hT tx ?_ (r6 _))));show wpAny _ _ (field (.ref z) 2>>=_) _ _ _;refine ae (cS hz rfl (x:=.bool false) rfl ?_);show wpAny _ _ (field (.ref z) 3>>=_) _ _ _;refine ae (cS hz rfl (x:=.ref TI) rfl ?_);refine ae (eB Xw rfl ?_);show wpAny _ _ (Builtin.SmallTypes.ownedTupleIsFree (.ref z)>>=_) _ _ _;refine ae (xG hz ha fun h₁ ZA E4=>?_);simp only[gp,kf];refine ae ?_;rw[List.forIn_toArray];simp only[kq,nt];refine ae (ae (i4 ?_));show wpAny _ _ (Builtin.SmallTypes.nextOf (.ref i1)>>=_) _ _ _;refine ae (wpAny_nextOf_list_end hh (h1.extBut E4.extBut D.i1z) (ow.extBut E4.extBut D.l1z) hx fun h₂ e MM he=>?_);obtain⟨oe,hoe,hce⟩:=he;refine ae (wpAny_isInstance (T := "StopIteration") (b:=true) ⟨oe,hoe,hce⟩ isSubtype_stop ?_);exact aw (hQ _ fun c o c1 c2 c3 q=>MM _ _ c2 (E4.extBut _ _ c1 q))
structure St(h:Heap)(z TI TO i1 i2 l1 l2 S:Addr)(i:Nat)(xs ys:Array Value):Prop where
 f:(i=0/\IsZip h z TI TO .none)\/∃ a f oa,qW h z TI TO a f/\h.get? a=some oa/\a≠z/\a≠TO/\a≠i1/\a≠i2/\a≠S
 ti:IsPair h TI (.ref i1) (.ref i2)
 to:∃ a b,IsPair h TO a b
 a1:h.IsListIter i1 l1 i
 a2:h.IsListIter i2 l2 i
 b1:h.IsList l1 xs
 b2:h.IsList l2 ys
structure Off(z TI TO i1 i2 l1 l2 S:Addr):Prop where
 z:z≠S
 TI:TI≠S
 TO:TO≠S
 i1:i1≠S
 i2:i2≠S
 l1:l1≠S
 l2:l2≠S
theorem St.keep{h h':Heap}{z TI TO i1 i2 l1 l2 S:Addr}{i:Nat}{xs ys:Array Value}(aab:Off z TI TO i1 i2 l1 l2 S)(x:St h z TI TO i1 i2 l1 l2 S i xs ys)(k:∀ b o,b≠S->h.get? b=some o->h'.get? b=some o):St h' z TI TO i1 i2 l1 l2 S i xs ys:=by
 obtain⟨f,ti,⟨a,b,to⟩,a1,a2,b1,b2⟩:=x;refine⟨?_,k _ _ aab.TI ti,⟨a,b,k _ _ aab.TO to⟩,a1.at fun o e=>k _ o aab.i1 e,a2.at fun o e=>k _ o aab.i2 e,b1.at fun o e=>k _ o aab.l1 e,b2.at fun o e=>k _ o aab.l2 e⟩;rcases f with⟨e,f⟩|⟨a,f,oa,q,r,n1,n2,n3,n4,n5⟩
 .exact .inl ⟨e,k _ _ aab.z f⟩
 exact .inr ⟨a,f,oa,k _ _ aab.z q,k _ _ n5 r,n1,n2,n3,n4,n5⟩
theorem item{TI TO:Addr}{xs ys:Array Value}{x y:Value}{Q:Option Value->Shared->Prop}(D:ZipApart z TI TO i1 i2 l1 l2)(hS:S<s.heap.objs.size)(st:St s.heap z TI TO i1 i2 l1 l2 S i xs ys)(hx:xs[i]?=some x)(hy:ys[i]?=some y)(hQ:∀ h',St h' z TI TO i1 i2 l1 l2 S (i+1) xs ys->IsPair h' s.heap.objs.size x y->h'.objs.size=s.heap.objs.size+1->(∀ c o,c≠z->c≠TO->c≠i1->c≠i2->s.heap.get? c=some o->h'.get? c=some o)->Q (some (.ref s.heap.objs.size)) { s with heap:=h' }): wpAny (model prog w) A (pyNext (.ref z)) Q E s:=by
 obtain⟨f,ti,⟨a,b,to⟩,a1,a2,b1,b2⟩:=st;have lt:∀{c o},s.heap.get? c=some o->s.heap.objs.size≠c:=fun e=>cb (ax e)
 rcases f with⟨e,f⟩|⟨c,f,oa,q,r,n1,n2,n3,n4,n5⟩
 .refine wpAny_pyNext_zip_item D f ti to a1 a2 b1 b2 hx hy fun h' c1 c2 c3 c4 c5 c6 hk=>?_
  exact hQ h' ⟨.inr ⟨_,false,_,c1,c5,lt f,lt to,(by obtain⟨_,e,_⟩:=a1;exact lt e),(by obtain⟨_,e,_⟩:=a2;exact lt e),cb hS⟩,hk _ _ D.TIz D.TITO D.TIi1 D.TIi2 ti,⟨_,_,c2⟩,c3,c4,b1.at fun o e=>hk _ o D.l1z D.l1TO D.l1i1 D.l1i2 e,b2.at fun o e=>hk _ o D.l2z D.l2TO D.l2i1 D.l2i2 e⟩ c5 c6 hk
 refine Jh D q r ti a1 a2 b1 b2 hx hy fun h' c1 c3 c4 c5 c6 hk=>?_
 exact hQ h' ⟨.inr ⟨_,true,_,c1,hk _ _ n1 n3 n4 r,n1,n2,n3,n4,n5⟩,hk _ _ D.TIz D.TIi1 D.TIi2 ti,⟨_,_,hk _ _ D.TOz D.TOi1 D.TOi2 to⟩,c3,c4,b1.at fun o e=>hk _ o D.l1z D.l1i1 D.l1i2 e,b2.at fun o e=>hk _ o D.l2z D.l2i1 D.l2i2 e⟩ c5 c6 fun c o e1 _ e3 e4 e=>hk c o e1 e3 e4 e
theorem done{TI TO:Addr}{xs ys:Array Value}{Q:Option Value->Shared->Prop}(hh:A.handled=none)(D:ZipApart z TI TO i1 i2 l1 l2)(st:St s.heap z TI TO i1 i2 l1 l2 S i xs ys)(hx:xs[i]?=none)(hQ:∀ h',(∀ c o,c≠z->c≠TO->c≠i1->c≠i2->s.heap.get? c=some o->h'.get? c=some o)->Q none { s with heap:=h' }): wpAny (model prog w) A (pyNext (.ref z)) Q E s:=by
 obtain⟨f,ti,⟨a,b,to⟩,a1,a2,b1,b2⟩:=st;rcases f with⟨e,f⟩|⟨c,f,oa,q,r,_⟩
 .exact wpAny_pyNext_zip_end hh D f ti to a1 a2 b1 b2 (.inl hx) hQ
 exact M3 hh D q r ti a1 b1 hx fun h' hk=>hQ h' fun c o c1 _ c3 c4 e=>hk c o c1 c3 c4 e
structure Made(xs ys:Array Value)(lo:Addr)(h:Heap)(as:List Addr):Prop where
 above:∀ a∈as,lo<a
 nodup:as.Nodup
 pairs:∀(j:Nat)(a:Addr),as[j]?=some a->∃ x y,xs[j]?=some x/\ys[j]?=some y/\IsPair h a x y
section
variable{xs ys:Array Value}
theorem loop{TI TO:Addr}(hh:A.handled=none)(D:ZipApart z TI TO i1 i2 l1 l2)(aab:Off z TI TO i1 i2 l1 l2 S)(m1:z<S)(m2:TO<S)(m3:i1<S)(m4:i2<S)(ME:xs.size=ys.size)(hn:xs.size<=sizeLine)(res:Value){h₁:Heap}
  (hR:∀ h' tk acc c as,(∀ b o,b≠S->b≠z->b≠TO->b≠i1->b≠i2->h₁.get? b=some o->h'.get? b=some o)->h'.get? S=some { cls:=.type "list",dict:=none,data:=.seq acc c,slots:=#[] }->as.length=xs.size->Made xs ys S h' as ->
   acc.toList=as.map Value.ref->R (.ok (.ret res)) { s with heap:=h',toks:=tk }):
  ∀(k i:Nat)(h:Heap)(tk c:Nat)(acc:Array Value)(as:List Addr),xs.size-i=k->i<=xs.size->St h z TI TO i1 i2 l1 l2 S i xs ys->(∀ b o,b≠S->b≠z->b≠TO->b≠i1->b≠i2->h₁.get? b=some o->h.get? b=some o) ->
   h.get? S=some { cls:=.type "list",dict:=none,data:=.seq acc c,slots:=#[] }->acc.toList=as.map Value.ref->as.length=i->Made xs ys S h as ->
   codeAny (model prog w) A (.builtin "list.extend.loop" ⟨[.ref S,.ref z,res],[]⟩) R { s with heap:=h,toks:=tk }:=by
 intro k
 induction k with
 | zero =>
  intro i h tk c acc as hk hi st keep hS pk pj hG;refine n0 PySem.F.entry_extend_loop ?_;rw[ko PySem.F.plain_extend_loop _];show wpAny _ A.in1 (pyNext (.ref z)>>=_) _ _ _;refine ae (done (s:={ s with heap:=h,toks:=tk }) (A:=A.in1) hh D st (Array.getElem?_eq_none G) fun h' he=>?_);refine aw (hR h' tk acc c as (fun b o c0 c1 c2 c3 c4 e=>he b o c1 c2 c3 c4 (keep b o c0 c1 c2 c3 c4 e)) (he S _ (cb m1) (cb m2) (cb m3) (cb m4) hS) G ⟨hG.above,hG.nodup,fun j a hj=>?_⟩ pk);obtain⟨x,y,e1,e2,e3⟩:=hG.pairs j a hj;have ha:=hG.above a (qB hj);exact⟨x,y,e1,e2,he a _ (cb (gI m1 ha)) (cb (gI m2 ha)) (cb (gI m3 ha)) (cb (gI m4 ha)) e3⟩
 | succ k ih =>
  intro i h tk c acc as hk hi st keep hS pk pj hG;have fS:i<xs.size:=G
  have Sz:i<ys.size:=G
  have hsz:acc.size=i:=by rw[<- ay,pk,dn,pj]
  have Xx:S<h.objs.size:=ax hS;refine n0 PySem.F.entry_extend_loop ?_;rw[ko PySem.F.plain_extend_loop _];show wpAny _ A.in1 (pyNext (.ref z)>>=_) _ _ _;refine ae (item (s:={ s with heap:=h,toks:=tk }) D Xx st (Array.getElem?_eq_getElem fS) (Array.getElem?_eq_getElem Sz) fun h' ip ht hz qV=>?_);dsimp only at ht hz qV ⊢;have Vl:=qV S _ (cb m1) (cb m2) (cb m3) (cb m4) hS;have up:∀ b o,b≠S->h'.get? b=some o->(h'.update S (Obj.mapSeq (·.push (Value.ref h.objs.size)))).get? b=some o:=fun b o hb e=>(Heap.get?_update_other _ _ (aS hb)).trans e
  show wpAny _ A.in1 (updateSeq S (·.push (Value.ref h.objs.size))>>=_) _ _ _;refine ae ?_
  refine iS Vl rfl (aw ⟨mT PySem.F.plain_extend_loop _,ih (i+1) _ tk _ (acc.push (Value.ref h.objs.size)) (as++[h.objs.size]) G fS (ip.keep aab up)
   (fun b o c0 c1 c2 c3 c4 e=>up b o c0 (qV b o c1 c2 c3 c4 (keep b o c0 c1 c2 c3 c4 e))) (Heap.get?_update_self _ Vl rfl) (by rw[Array.toList_push,pk,ar];rfl) (by rw[af,pj];rfl) ⟨?_,?_,?_⟩⟩) (by rw[hsz];exact G) (by show(acc.push (Value.ref h.objs.size)).size <= sizeLine+1;rw[Array.size_push,hsz];exact G)
  .intro a ha
   rcases aT.mp ha with ha|ha
   .exact hG.above a ha
   rw[aI.mp ha];exact Xx
  .refine List.nodup_append.mpr ⟨hG.nodup,List.pairwise_singleton _ _,fun a ha b hb=>?_⟩
   rw[aI.mp hb];obtain⟨j,hj⟩:=List.mem_iff_getElem?.mp ha;obtain⟨_,_,_,_,e⟩:=hG.pairs j a hj;exact bg (ax e)
  intro j b hj;rcases Nat.lt_trichotomy j as.length with h1|h1|h1
  .rw[List.getElem?_append_left h1]at hj
   obtain⟨x,y,e1,e2,e3⟩:=hG.pairs j b hj;have ha:=hG.above b (qB hj);exact⟨x,y,e1,e2,up b _ (cb ha) (qV b _ (cb (gI m1 ha)) (cb (gI m2 ha)) (cb (gI m3 ha)) (cb (gI m4 ha)) e3)⟩
  .subst h1
   have hb:h.objs.size=b:=by simpa using hj
   subst hb;exact⟨_,_,by rw[pj];exact Array.getElem?_eq_getElem fS,by rw[pj];exact Array.getElem?_eq_getElem Sz,up _ _ (cb Xx) ht⟩
  have Sl:(as++[h.objs.size])[j]?=none:=List.getElem?_eq_none (by rw[af,c9];exact G);rw[Sl]at hj;cases hj
end
theorem PX:typeLookup (.type "zip") "__len__"=pure none:=by rw[nX,i8];kernel_rfl
theorem M4:typeLookup (.type "zip") "__length_hint__"=pure none:=by rw[nX,i8];kernel_rfl
section
variable{xs ys:Array Value}
theorem extend{R:Result->Shared->Prop}{S z TI TO i1 i2 l1 l2:Addr}(hh:A.handled=none)(D:ZipApart z TI TO i1 i2 l1 l2)(aab:Off z TI TO i1 i2 l1 l2 S)(m1:z<S)(m2:TO<S)(m3:i1<S)(m4:i2<S)(ME:xs.size=ys.size)(hn:xs.size<=sizeLine)
  (st:St s.heap z TI TO i1 i2 l1 l2 S 0 xs ys) (hz:IsZip s.heap z TI TO .none) (res:Value) (c₀:Nat) (hS:s.heap.get? S=some { cls:=.type "list",data:=.seq #[] c₀ })
  (hR:∀ h' tk acc c as,(∀ b o,b≠S->b≠z->b≠TO->b≠i1->b≠i2->s.heap.get? b=some o->h'.get? b=some o)->h'.get? S=some { cls:=.type "list",dict:=none,data:=.seq acc c,slots:=#[] }->as.length=xs.size->Made xs ys S h' as ->
   acc.toList=as.map Value.ref->R (.ok (.ret res)) { s with heap:=h',toks:=tk }):
  wpAny (model prog w) A.in1 (Builtin.List.listExtendWith (.ref S) (.ref z) res)
   (fun fin s'=>match fin with | .done f=>R (.ok f) s' | .again c'=>c'.quiet=true/\codeAny (model prog w) A c' R s') (fun e s'=>R (.error e) s') s:=by
 have hT:s.TypeIs (.ref z) "zip":=⟨_,hz,rfl⟩
 unfold Builtin.List.listExtendWith;refine ae (wpAny_typeOf hT ?_);have h1:Builtin.List.listSameRef (.ref S) (.ref z)=false:=by simp[Builtin.List.listSameRef,aS aab.z]
 have h2:(Value.type "zip" == Value.type "list")=false:=by decide
 have h3:(Value.type "zip" == Value.type "tuple")=false:=by decide
 simp only[h1,h2,h3,Bool.or_false,gp,kf];refine ae (wpAny_pyIter_zip hz ?_);refine ae (i4 ?_);unfold Builtin.List.listLengthHint;refine ae (wpAny_specialOf hT PX ?_);show wpAny _ A.in1 (specialOf (Value.ref z) (Str.ofString "__length_hint__")>>=_) _ _ _;refine ae (wpAny_specialOf hT M4 ?_);refine aw ?_
 show wpAny _ A.in1 (rule "list.extend.makes-room" >>= fun _=>Builtin.List.listTouch (.ref S)>>=fun _ =>
  again (.builtin "list.extend.loop" ⟨[.ref S,.ref z,res],[]⟩)) _ _ _
 refine ae (EK ?_);refine ae ?_;show wpAny _ A.in1 (updateSeq S (·.push .none)>>=fun _=>updateSeq S (·.pop)) _ _ _;refine ae (iS hS rfl ?_);have Vj:=Heap.get?_update_self (Obj.mapSeq (·.push Value.none)) hS rfl;refine iS (hz:=by seq_fits) Vj rfl ?_;have hS₃:=Heap.get?_update_self (Obj.mapSeq (·.pop)) Vj rfl
 have Oy:∀ b o,b≠S->s.heap.get? b=some o->((s.heap.update S (Obj.mapSeq (·.push Value.none))).update S (Obj.mapSeq (·.pop))).get? b=some o :=
  fun b o hb e=>(Heap.get?_update_other _ _ (aS hb)).trans ((Heap.get?_update_other _ _ (aS hb)).trans e)
 exact aw ⟨mT F.plain_extend_loop _,loop (s:=s) (h₁:=s.heap) hh D aab m1 m2 m3 m4 ME hn res hR xs.size 0 _ s.toks _ #[] [] (Ap _) (mr _) (st.keep aab Oy) (fun b o c0 _ _ _ _ e=>Oy b o c0 e) hS₃ rfl rfl ⟨(fun _ ha=>nomatch ha),List.Pairwise.nil,(fun j a hj=>by simp at hj)⟩⟩
theorem call{TI TO:Addr}(hh:A.handled=none)(D:ZipApart z TI TO i1 i2 l1 l2)(ME:xs.size=ys.size)(hn:xs.size<=sizeLine)
  (hz:IsZip s.heap z TI TO .none) (ti:IsPair s.heap TI (.ref i1) (.ref i2)) (to:IsPair s.heap TO .none .none) (a1:s.heap.IsListIter i1 l1 0) (a2:s.heap.IsListIter i2 l2 0) (b1:s.heap.IsList l1 xs) (b2:s.heap.IsList l2 ys)
  (hQ:∀ h' tk acc c as,(∀ b o,b≠z->b≠TO->b≠i1->b≠i2->s.heap.get? b=some o->h'.get? b=some o)->h'.get? s.heap.objs.size=some { cls:=.type "list",dict:=none,data:=.seq acc c,slots:=#[] }->as.length=xs.size->Made xs ys s.heap.objs.size h' as ->
   acc.toList=as.map Value.ref->Q (.ref s.heap.objs.size) { s with heap:=h',toks:=tk }):
  wpAny (model prog w) A (PySem.call (.type "list") [.ref z]) Q E s:=by
 refine callType_codes (Q₁:=fun obj s₁=>obj=.ref s.heap.objs.size/\s₁ = { s with heap:=s.heap.push { cls:=.type "list",data:=.seq #[] } }) F.called_list (F.typeCall_list_1 _) F.entry_list_init
  (code_list_new _ ⟨rfl,rfl⟩) fun obj s₁ h₁=>?_
 obtain⟨rfl,rfl⟩:=h₁;have hS:(s.heap.push { cls:=.type "list",data:=.seq #[] }).get? s.heap.objs.size=some { cls:=.type "list",data:=.seq #[] }:=Heap.get?_push_size _ rfl;have lt:∀{c o},s.heap.get? c=some o->c<s.heap.objs.size:=fun e=>ax e
 have Z9:i1<s.heap.objs.size:=let ⟨_,e,_⟩:=a1;lt e;have Z8:i2<s.heap.objs.size:=let ⟨_,e,_⟩:=a2;lt e;have ow:l1<s.heap.objs.size:=let ⟨_,e,_⟩:=b1;lt e;have l8:l2<s.heap.objs.size:=let ⟨_,e,_⟩:=b2;lt e;refine⟨⟨_,hS,Z⟩,F.args_list_init_2 _ _,?_⟩;show wpAny _ _ (do let old <- Builtin.List.listItems (.ref s.heap.objs.size);Builtin.List.listUpdate (.ref s.heap.objs.size) (fun _=>#[]);letGo old.toList.reverse;Builtin.List.listExtendWith (.ref s.heap.objs.size) (.ref z) .none) _ _ _;refine ae ?_;unfold Builtin.List.listItems;refine ae (eB hS rfl (aw ?_));show wpAny _ _ (updateSeq s.heap.objs.size (fun _=>#[])>>=fun _=>letGo (#[]:Array Value).toList.reverse>>=fun _=>Builtin.List.listExtendWith (.ref s.heap.objs.size) (.ref z) .none) _ _ _;refine ae (iS hS rfl ?_);have Vj:=Heap.get?_update_self (Obj.mapSeq (fun _=>(#[]:Array Value))) hS rfl
 have Oy:∀ b o,b≠s.heap.objs.size->s.heap.get? b=some o->((s.heap.push { cls:=.type "list",data:=.seq #[] }).update s.heap.objs.size (Obj.mapSeq (fun _=>(#[]:Array Value)))).get? b=some o :=
  fun b o hb e=>(Heap.get?_update_other _ _ (aS hb)).trans (Heap.get?_push_of_some _ e)
 refine ae (nh ?_);have aab:Off z TI TO i1 i2 l1 l2 s.heap.objs.size:=⟨bg (lt hz),bg (lt ti),bg (lt to),bg Z9,bg Z8,bg ow,bg l8⟩
 have st:St s.heap z TI TO i1 i2 l1 l2 s.heap.objs.size 0 xs ys:=⟨.inl ⟨rfl,hz⟩,ti,⟨_,_,to⟩,a1,a2,b1,b2⟩
 refine extend (A:=A.in1) (s:={ s with heap:=(s.heap.push { cls:=.type "list",data:=.seq #[] }).update s.heap.objs.size (Obj.mapSeq (fun _=>(#[]:Array Value))) }) hh D aab (lt hz) (lt to) Z9 Z8 ME hn (st.keep aab Oy) (Oy _ _ aab.z hz) .none _ Vj fun h' tk acc c as hk Vl hl hG pk=>?_
 exact⟨Z,hQ h' tk acc c as (fun b o c1 c2 c3 c4 e=>hk b o (bg (lt e)) c1 c2 c3 c4 (Oy b o (bg (lt e)) e)) Vl hl hG pk⟩
end
end PySem.ZL
namespace L2
open PySem PySem.Spec PyProof.Rows
theorem Inv.Wm(I:Inv X Y M H s)(k:∀ b u,s.heap.get? b=some u->h'.get? b=some u)(hs:∀ b,b<s.heap.objs.size->J b=H b)(new:∀ a o,J a=some o->s.heap.objs.size<=a->fv X.prog X.w J h' a o):Inv X Y M J { s with heap:=h',toks:=t' }:=by
 have up:∀ b o,H b=some o->J b=some o:=fun b o e=>by rw[hs b (I.hok.lt e)];exact e
 refine I.un ⟨fun b u q _ _ _=>k b u q,fun b u q _ _ _=>⟨u.slots,k b u q⟩,fun b u q n _=>by rw[hs b (ax q)];exact n,fun b u q _=>⟨u,k b u q⟩,fun b xs q=>up _ _ q,fun b u xs q=>up _ _ q,fun b ps q=>⟨#[],by rw[up _ _ q];simp⟩⟩ fun a o e=>?_
 by_cases hb:a<s.heap.objs.size
 .rw[hs a hb]at e
  exact(I.hok a o e).stay (fun c v _ q=>k c v q) (fun c q=>up _ _ q) fun c xs q=>up _ _ q
 exact new a o e (Nat.le_of_not_lt hb)
def nG(H:Hp):List V->List V->List V->Prop
 |[],[],[]=>True
 |u::us,x::xs,y::ys=>(∃ q,u=.ref q/\H q=some (.tup [x,y]))/\nG H us xs ys
 |_,_,_=>False
def OB:List Addr->List V->List V->Addr->Option HO
 |a::as,x::xs,y::ys,b=>if b=a then some (.tup [x,y])else OB as xs ys b
 |_,_,_,_=>none
theorem Ba:∀{as:List Addr}{xs ys:List V}{b:Addr}{o:HO},OB as xs ys b=some o->∃(j:Nat)(x y:V),as[j]?=some b/\xs[j]?=some x/\ys[j]?=some y/\o=.tup [x,y]
 | a::as,x::xs,y::ys,b,o,h=>by
  unfold OB at h
  split at h
  .rename_i e
   cases h;exact⟨0,x,y,by rw[e];rfl,Z,Z,Z⟩
  obtain⟨j,x',y',h1,h2,h3,h4⟩:=Ba h;exact⟨j+1,x',y',h1,h2,h3,h4⟩
 |[],_,_,_,_,h=>nomatch h
 |_::_,[],_,_,_,h=>nomatch h
 |_::_,_::_,[],_,_,h=>nomatch h
theorem Bb{H:Hp}:∀{as:List Addr}{xs ys:List V},as.Nodup->as.length=xs.length->as.length=ys.length->(∀ a∈as,H a=OB as xs ys a)->nG H (as.map V.ref) xs ys
 |[],[],[],_,_,_,_=>trivial
 | a::as,x::xs,y::ys,nd,h1,h2,h=>by
  obtain⟨n1,n2⟩:=eW.mp nd;refine⟨⟨a,Z,?_⟩,Bb n2 (Nat.succ.inj h1) (Nat.succ.inj h2) fun b hb=>?_⟩
  .rw[h a qms]
   show(if a=a then _ else _)=_;rw[qp rfl]
  rw[h b (k_ _ hb)];show(if b=a then _ else _)=_;rw[bX (fun e:b=a=>n1 (e ▸ hb))]
 |[],_::_,_,_,h1,_,_=>nomatch h1
 |[],[],_::_,_,_,h2,_=>nomatch h2
 |_::_,[],_,_,h1,_,_=>nomatch h1
 |_::_,_::_,[],_,_,h2,_=>nomatch h2
theorem uX:∀ as:List Addr,Vals (as.map V.ref) (as.map Value.ref)
 |[]=>.nil
 |_::as=>.cons rfl (uX as)
theorem qX{α β:Type}{f g:α->Option β}:∀{l:List α},(∀ a∈l,f a=g a)->l.filterMap f=l.filterMap g
 |[],_=>rfl
 |a::l,h=>by rw[g7,g7,h a qms,qX fun b hb=>h b (k_ _ hb)]
def Rr(K:W.Frag)(t:TA):TE:=fun M H Q=>t M H fun vs H1=>∃(a b:Addr)(xs ys:List V),vs=[.ref a,.ref b]/\b3 K H1 a xs/\b3 K H1 b ys/\xs.length=ys.length/\∀(l:Addr)(us:List V)(J:Hp),(∀ c o,H1 c=some o->J c=some o)->H1 l=none->J l=some (.lst us)->nG J us xs ys->Q (.ref l) J
theorem Cq{ED:Pos} {l m:Expr} {t:TA} (hc:X.calm=true) (ha:PA X [l,m] t) (hm:X.mg "list"=none) (qS:X.mg "zip"=none)
  (hg:X.env.scope.names.lookup ("list":Str)=some .globalImplicit:=by kernel_rfl) (hg2:X.env.scope.names.lookup ("zip":Str)=some .globalImplicit:=by kernel_rfl)
  (he:starEach [l,m] X.env=(false,eval l X.env):: starEach [m] X.env:=by rfl) (ij:(backTo fb (starEach [m] X.env)).any (·.1)=false:=by rfl)
  (IE:starEach [Expr.Call (.Name "zip" p) [l,m] [] fb] X.env=(false,eval (.Call (.Name "zip" p) [l,m] [] fb) X.env):: starEach [] X.env:=by rfl) (WT:(backTo ED (starEach [] X.env)).any (·.1)=false:=by rfl):
  PE X (.Call (.Name "list" p2) [.Call (.Name "zip" p) [l,m] [] fb] [] ED) (Rr X.K t):=by
 intro Y s M H Q I h;refine de (ig I hg hm Bt.list ?_ b4 b4);refine dQ ?_ IE WT;rw[IE];show wpAny _ _ (spliced ((false,eval (.Call (.Name "zip" p) [l,m] [] fb) X.env):: backTo ED (starEach [] X.env))) _ _ s;refine Calls.spliced_cons ?_;refine de (ig I hg2 qS Bt.zip ?_ b4 b4);refine dQ (thn (ha fb Y s M H _ I h) fun us s1 ⟨vs,H1,I1,r1,q1⟩=>?_) he ij;obtain⟨a,b,xs,ys,rfl,hq,hr,ME,q⟩:=q1;obtain⟨u1,u2,rfl,ru1,ru2⟩:=vals2 r1;cases ru1;cases ru2;obtain⟨its,rv,p1,UO⟩:=I1.list hq;obtain⟨MD,qA,Wd,Ww⟩:=I1.list hr;have e1:=rv.length;have e2:=qA.length;have la:a<s1.heap.objs.size:=let ⟨_,e,_⟩:=p1.isList;ax e;have lb:b<s1.heap.objs.size:=let ⟨_,e,_⟩:=Wd.isList;ax e;refine call_zip_2 p1.isList Wd.isList fun h1 qz qi qo qa qb hsz hk=>?_
 refine Calls.spliced_nil ?_;generalize hn:s1.heap.objs.size=n at la lb qz qi qo qa qb hsz ⊢;have la:@LT.lt Nat _ a n:=la;have lb:@LT.lt Nat _ b n:=lb;refine ZL.call (xs:=its.toArray) (ys:=MD.toArray) (s:={ s1 with heap:=h1 }) (I1.ok.hd hc) (TI:=n+2) (TO:=n+3) (i1:=n) (i2:=n+1) (l1:=a) (l2:=b) ?_ (by simp;exact G) (by simp;exact G) qz qi qo qa qb (p1.isList.at fun o e=>hk _ o e) (Wd.isList.at fun o e=>hk _ o e) fun h' tk acc c as keep hS hl hG pk=>?_
 .constructor <;> (refine(?_:@Ne Nat _ _);exact G)
 dsimp only at keep hS hG ⊢;rw[hsz]at hS hG ⊢;have hl:as.length=xs.length:=by rw[hl,ah,e1]
 have kp:∀ c o,s1.heap.get? c=some o->h'.get? c=some o:=fun c o e=>by
  have hc:@LT.lt Nat _ c n:=by rw[<- hn];exact ax e
  exact keep c o (by refine(?_:@Ne Nat _ _);exact G) (by refine(?_:@Ne Nat _ _);exact G) (by refine(?_:@Ne Nat _ _);exact G) (by refine(?_:@Ne Nat _ _);exact G) (hk c o e)
 have old:∀ c,H1 c≠none->@LT.lt Nat _ c n:=fun c e=>by
  cases q:H1 c with
  |none=>exact absurd q e
  |some o=>rw[<- hn];exact I1.hok.lt q
 have ga:∀ a∈as,@LT.lt Nat _ (n+5) a:=fun a ha=>hG.above a ha
 let J:Hp:=fun c=>if c=n+5 then some (.lst (as.map V.ref))else if c∈as then OB as xs ys c else H1 c
 have _d:J (n+5)=some (.lst (as.map V.ref)):=by show(if n+5=n+5 then _ else _)=_;rw[qp rfl]
 have hold:∀ c,@LT.lt Nat _ c n->J c=H1 c:=fun c hc=>by
  show(if c=n+5 then _ else if c∈as then _ else _)=_;rw[bX (by refine(?_:@Ne Nat _ _);exact G),bX (fun z=>absurd (ga c z) G)]
 have has:∀ c∈as,J c=OB as xs ys c:=fun c hc=>by
  show(if c=n+5 then _ else if c∈as then _ else _)=_;rw[bX (by have:=ga c hc;refine(?_:@Ne Nat _ _);exact G),qp hc]
 refine⟨.ref (n+5),J,I1.Wm kp (fun c hc=>hold c (by rw[<- hn];exact hc)) (fun c o e hc=>?_),Z,q (n+5) (as.map V.ref) J (fun c o e=>?_) ?_ _d (Bb hG.nodup hl G has)⟩
 .rw [hn]at hc
  by_cases h5:c=n+5
  .subst h5
   rw[_d]at e;cases e;exact⟨by rw[dn,hl];exact UO,as.map Value.ref,_,uX as,by rw[hS,<- pk]⟩
  by_cases hm:c∈as
  .rw[has c hm]at e
   obtain⟨j,x,y,j1,j2,j3,rfl⟩:=Ba e;obtain⟨u,v,k1,k2,k3⟩:=hG.pairs j c j1;obtain⟨u',hu',ru⟩:=rv.get j2;obtain⟨v',hv',V7⟩:=qA.get j3;have eu:u=u':=by rw[List.getElem?_toArray,hu']at k1;exact(kF k1).symm
   have ev:v=v':=by rw[List.getElem?_toArray,hv']at k2;exact(kF k2).symm
   subst eu ev;exact⟨xE,[u,v],.cons ru (.cons V7 .nil),⟨_,k3,Z,_,Z⟩⟩
  have e':H1 c=some o:=by
   have:J c=H1 c:=by
    show(if c=n+5 then _ else if c∈as then _ else _)=_;rw[bX h5,bX hm]
   rw[<- this];exact e
  exact absurd (old c (by rw[e'];intro z;cases z)) (Nat.not_lt.mpr hc)
 .rw[hold c (old c (by rw[e];intro z;cases z))];exact e
 cases e:H1 (n+5)with
 |none=>rfl
 |some o=>exact absurd (old _ (by rw[e];intro z;cases z)) G
def evs{α:Type}:List α->List α
 |[]=>[]
 |[a]=>[a]
 |a::_::r=>a::evs r
theorem xH:∀{xs:List V}{us:List Value},Vals xs us->Vals (evs xs) (evs us)
 |_,_,.nil=>.nil
 |_,_,.cons r .nil=>.cons r .nil
 |_,_,.cons r (.cons _ t)=>.cons r (xH t)
theorem kh{α:Type}:∀ xs:List α,(evs xs).length=(xs.length+1)/2
 |[]=>by simp[evs]
 |[a]=>by simp[evs]
 | a::b::r=>by
  show(evs r).length+1=(r.length+2+1)/2;rw[kh r];exact G
theorem xJ:∀ its:List Value,(List.range ((its.length+1)/2)).filterMap (fun k=>its[2*k]?)=evs its
 |[]=>by simp[evs]
 |[a]=>by simp[evs]
 | a::b::r=>by
  have e:((a::b::r).length+1)/2=(r.length+1)/2+1:=by simp only[ba];exact G
  rw[e,rd,g7,ny];show a::_=a::evs r;rw[<- xJ r];refine b_ _ (qX fun k _=>?_);show(a::b::r)[2*(k+1)]?=r[2*k]?;rw[show 2*(k+1)=2*k+1+1 by omega,List.getElem?_cons_succ,List.getElem?_cons_succ]
theorem Ji(its:List Value)(i:Nat):slicePick its.toArray (some (i:Int)) none (some 2)=(evs (its.drop i)).toArray:=by
 unfold slicePick
 have e:sliceBounds (some (i:Int)) none (some 2) its.toArray.size=(((min i its.length:Nat):Int),(its.length:Int),2):=by
  rw[ah];unfold sliceBounds;simp;exact G
 rw[e];show((sliceRange ((min i its.length:Nat):Int) (its.length:Int) 2).filterMap (its.toArray[·]?)).toArray=_;refine b_ List.toArray ?_;rw[<- xJ];unfold sliceRange;simp only[show(2:Int)>0 by decide,i7]
 have hc:(if ((min i its.length:Nat):Int)<(its.length:Int)then((its.length:Int)-((min i its.length:Nat):Int)+2-1)/2 else 0).toNat=((its.drop i).length+1)/2:=by
  rw[cm]
  split
  .omega
  exact G
 rw[hc,ny];refine qX fun k hk=>?_
 have hk:=eT.mp hk;rw[cm]at hk;show its.toArray[(((min i its.length:Nat):Int)+2*k).toNat]?=(its.drop i)[2*k]?;rw[List.getElem?_toArray,List.getElem?_drop]
 congr 1
 exact G
def Sy(K:W.Frag)(te tl ts:TE):TE:=fun M H Q=>te M H fun x H1=>tl M H1 fun z H2=>ts M H2 fun y H3=>∃ a xs i,x=.ref a/\z=.int (i:Nat)/\y=.int 2/\b3 K H3 a xs/\∀ p,H3 p=none->Q (.ref p) (upd H3 p (.lst (evs (xs.drop i))))
theorem FJ{lo st:Expr}{ts:TE}(he:PE X e te)(hl:PE X lo tl)(hs:PE X st ts):PE X (.Subscript e (.Slice (some lo) none (some st) p2) pos) (Sy X.K te tl ts):=by
 intro Y s M H Q I h;refine Subscript_ (thn (he Y s M H _ I h) fun v s1 ⟨x,H1,I1,r1,q1⟩=>?_);refine wpAny_Slice ?_;rw[evalPart_some];refine thn (hl Y s1 M H1 _ I1 q1) fun u0 s0 ⟨z,H0,I0,r0,q0⟩=>?_
 rw[evalPart_none];refine aw ?_;rw[evalPart_some];refine thn (hs Y s0 M H0 _ I0 q0) fun u s2 ⟨y,H2,I2,r2,q2⟩=>?_
 obtain⟨a,xs,i,rfl,rfl,rfl,hx,q⟩:=q2;cases r1;obtain⟨t,rfl⟩:=r2;obtain⟨t0,rfl⟩:=r0;have I3:Inv X Y M H2 { s2 with heap:=s2.heap.push { cls:=.type "slice",data:=.fields #[.int i t0,.none,.int 2 t] } }:=I2.kept (t':=s2.toks) fun b ob q=>Heap.get?_push_of_some _ q
 obtain⟨its,r,ht,hz⟩:=I3.list hx;show wpAny (model X.prog X.w) X.A (subscriptTail e (.Slice (some lo) none (some st) p2) (.ref a) (.ref s2.heap.objs.size)) (EP X Y M Q) X.xe { s2 with heap:=s2.heap.push { cls:=.type "slice",data:=.fields #[.int i t0,.none,.int 2 t] } };refine tail_any (ops:=[.ref a,.ref s2.heap.objs.size]) ht.isList.typeIs IP.lookup ?_ ou;have hlen:=r.length;refine wpAny_getItem_list_slice ht.isList (Heap.IsSliceOf.new ..) (.int i t0) .none (.int 2 t) oz ?_ (by rw[ah]<;>exact G);rw[Ji];refine⟨.ref _,_,I3.laid (o:=.lst (evs (xs.drop i))) (fun b ob q=>Heap.get?_push_of_some _ q) (qnr _) ?_,Z,q _ (I3.hok.fresh (qnr _))⟩;exact⟨by rw[kh,cm];exact G,_,0,xH (r.drop i),Heap.get?_push_size _ rfl⟩
theorem Bc{f:Str}(h:X.K=K)(he:PE X e ta)(hb:attributeBase e f X.env (eval e X.env)=eval e X.env):PE X (.Attribute e f pos) (O9 K ta f):=h ▸ bF he hb
end L2
namespace Mc
open PySem PySem.Spec PyProof.Rows
inductive Op where
 |and|or|thn|same
 deriving DecidableEq
def Op.str:Op->Str
 | .and => "and"
 | .or => "or"
 | .thn => "then"
 | .same => "same"
inductive Tr where
 |nm (x:Str)|yes|no|not (t:Tr)|bin (o:Op) (a b:Tr)
def Tr.tag:Tr->Str
 | .nm _ => "name"
 | .yes => "yes"
 | .no => "no"
 | .not _ => "not"
 | .bin o _ _=>o.str
def Tr.kids:Tr->List Tr
 | .not t=>[t]
 | .bin _ a b=>[a,b]
 |_=>[]
def Tr.depth:Tr->Nat
 | .not t=>t.depth+1
 | .bin _ a b=>max a.depth b.depth+1
 |_=>1
def Tr.size:Tr->Nat
 | .not t=>t.size+1
 | .bin _ a b=>a.size+b.size+1
 |_=>1
def Tr.names:Tr->List Str
 | .nm x=>[x]
 | .not t=>t.names
 | .bin _ a b=>a.names++b.names
 |_=>[]
def Tr.isNm:Tr->Bool
 | .nm _=>true
 |_=>false
theorem Tr.lp(t:Tr):1<=t.depth:=by cases t<;>simp[Tr.depth]
theorem kZ(t:Tr):(t.tag=("name":Str))↔t.isNm=true:=by
 cases t with
 |nm x=>simp[Tr.tag,Tr.isNm]
 |yes=>simp only[Tr.tag,Tr.isNm];decide +kernel
 |no=>simp only[Tr.tag,Tr.isNm];decide +kernel
 |not t=>simp only[Tr.tag,Tr.isNm];decide +kernel
 |bin o a b=>cases o <;> (simp only[Tr.tag,Tr.isNm,Op.str];decide +kernel)
def jN(ts:List Tr):Nat:=ts.foldr (fun t d=>max t.depth d) 0
def dN(ts:List Tr):Nat:=(ts.map Tr.size).sum
theorem Jj(a b:List Tr):jN (a++b)=max (jN a) (jN b):=by
 induction a with
 |nil=>simp[jN]
 |cons t r ih=>simp only[i_,jN,List.foldr_cons]at *;rw[ih];exact G
theorem uY(t:Tr):t.depth=jN t.kids+1:=by
 cases t<;>simp[Tr.kids,jN,Tr.depth]
theorem sH:∀ ts:List Tr,ts≠[]->jN ts=jN (ts.flatMap Tr.kids)+1
 | [t],_=>by
  have:=uY t;simp only[gN,Co,cn];show max t.depth 0=_;exact G
 | t::u::r,_=>by
  have h1:=sH (u::r) oz;have h2:=uY t;rw[gN,Jj];show max t.depth (jN (u::r))=_;exact G
theorem FN(a b:List Tr):dN (a++b)=dN a+dN b:=by simp[dN]
theorem Cr(t:Tr):t.size=dN t.kids+1:=by
 cases t<;>simp[Tr.kids,dN,Tr.size]
theorem jA(ts:List Tr):dN ts=dN (ts.flatMap Tr.kids)+ts.length:=by
 induction ts with
 |nil=>rfl
 | cons t r ih =>
  rw[gN,FN];show t.size+dN r=_;have:=Cr t;simp only[ba];exact G
theorem sI(ts:List Tr):ts.length<=dN ts:=by rw[jA];exact G
def du(ts:List Tr):List Str:=ts.flatMap Tr.names
theorem Cu(t:Tr)(x:Str):x∈t.names↔t=.nm x\/x∈du t.kids:=by
 cases t with
 | nm y =>
  simp only[Tr.names,Tr.kids,du,Co,aI,p_,or_false,Tr.nm.injEq];exact eq_comm
 |yes=>simp[Tr.names,Tr.kids,du]
 |no=>simp[Tr.names,Tr.kids,du]
 |not t=>simp[Tr.names,Tr.kids,du]
 |bin o a b=>simp[Tr.names,Tr.kids,du]
theorem o7(ts:List Tr)(x:Str):x∈du ts↔Tr.nm x∈ts\/x∈du (ts.flatMap Tr.kids):=by
 induction ts with
 |nil=>simp[du]
 | cons t r ih =>
  have e1:du (t::r)=t.names++du r:=rfl;have e2:du ((t::r).flatMap Tr.kids)=du t.kids++du (r.flatMap Tr.kids):=by simp[du]
  rw[e1,e2,aT,aT,Cu,ih,ai]
  constructor
  .rintro((h|h) | (h|h))
   .exact .inl (.inl h.symm)
   .exact .inr (.inl h)
   .exact .inl (.inr h)
   exact .inr (.inr h)
  rintro((h|h) | (h|h))
  .exact .inl (.inl h.symm)
  .exact .inr (.inl h)
  .exact .inl (.inr h)
  exact .inr (.inr h)
theorem lu{α:Type}[DecidableEq α]:∀{a b:List α},a.Nodup->(∀ x∈a,x∈b)->a.length<=b.length
 |[],_,_,_=>mr _
 | x::r,b,ha,h=>by
  have hx:=h x qms;have h1:=lu (b:=b.erase x) (eW.mp ha).2 fun y hy=>(List.mem_erase_of_ne (fun e=>by subst e;exact(eW.mp ha).1 hy)).mpr (h y (k_ _ hy))
  have h2:=List.length_erase_of_mem hx;have h3:0<b.length:=kM hx;simp only[ba];exact G
end Mc
variable{t tr:Mc.Tr}{ts:List Mc.Tr}
namespace Mc
open PySem
abbrev Str.l(x:Str):List Nat:=x.cps.toList
theorem M5{a b:Str}(h:a.cps.toList=b.cps.toList):a=b:=by
 have e2:a.cps=b.cps:=Ct.mp h;cases a;cases b;exact b_ Str.mk e2
theorem wk(a b:Str):(a++b).cps.toList=a.cps.toList++b.cps.toList:=by
 show(a.cps++b.cps).toList=_;simp
theorem nH(a:Str):a.length=a.cps.toList.length:=by
 show a.cps.size=_;simp
theorem Qa:∀ ys:List Str,(Txt.join (⟨#[]⟩:Str) ys).cps.toList=ys.flatMap (·.cps.toList):=by
 have gen:∀ ys:List Str,(Str.join (⟨#[]⟩:Str) ys).cps.toList=ys.flatMap (·.cps.toList):=by
  intro ys
  induction ys with
  |nil=>rfl
  | cons x r ih =>
   cases r with
   | nil =>
    show x.cps.toList=_;simp
   | cons y q =>
    show(x++(⟨#[]⟩:Str)++Str.join ⟨#[]⟩ (y::q)).cps.toList=_;rw[wk,wk,ih,gN];simp
 intro ys;show(Builtin.Str.glued _ ys).cps.toList=_;rw[i9];exact gen ys
abbrev om:Str := "abcdefghijklmnopqrstuvwxyz"
theorem Cv(i:Nat)(h:i<26):om.cps.toList[i]?=some (97+i):=by
 have:∀ i:_root_.Fin 26,om.cps.toList[i.val]?=some (97+i.val):=by decide +kernel
 exact this ⟨i,h⟩
theorem yV:om.length=26:=by decide +kernel
structure pz(y:Str):Prop where
 pos:1<=y.cps.toList.length
 le:y.cps.toList.length<=8
 ok:∀ c∈y.cps.toList,97<=c/\c<=122
end Mc
namespace Mc
open PySem PySem.Spec PyProof.Rows L2
inductive eD(H:Hp):V->Tr->Prop where
 |nm {a:Addr} {x:Str}:H a=some (.tup [.str "name",.str x])->eD H (.ref a) (.nm x)
 |yes {a:Addr}:H a=some (.tup [.str "yes"])->eD H (.ref a) .yes
 |no {a:Addr}:H a=some (.tup [.str "no"])->eD H (.ref a) .no
 |not {a:Addr} {v:V} {t:Tr}:H a=some (.tup [.str "not",v])->eD H v t->eD H (.ref a) (.not t)
 |bin {a:Addr} {o:Op} {v u:V} {t t':Tr}:H a=some (.tup [.str o.str,v,u])->eD H v t->eD H u t'->eD H (.ref a) (.bin o t t')
def gc(H J:Hp):Prop:=∀ b xs,H b=some (.tup xs)->J b=some (.tup xs)
theorem gc.trans(a:gc H H1)(b:gc H1 H2):gc H H2:=fun c o h=>b c o (a c o h)
theorem _root_.L2.bb.tups(s:bb H J):gc H J:=fun b xs h=>s b _ h
theorem eD.mono(k:gc H J)(h:eD H v t):eD J v t:=by
 induction h with
 |nm e=>exact .nm (k _ _ e)
 |yes e=>exact .yes (k _ _ e)
 |no e=>exact .no (k _ _ e)
 |not e _ ih=>exact .not (k _ _ e) ih
 |bin e _ _ Wt Ws=>exact .bin (k _ _ e) Wt Ws
theorem eD.open(h:eD H v t):∃ a rest,v=.ref a/\H a=some (.tup (.str t.tag::rest))/\(t.isNm=true->∃ x,t=.nm x/\rest=[.str x])/\(t.isNm=false->Paired (eD H) rest t.kids):=by
 cases h with
 |nm e=>exact⟨_,_,rfl,e,fun _=>⟨_,rfl,rfl⟩,fun z=>by cases z⟩
 |yes e=>exact⟨_,_,rfl,e,(fun z=>by cases z),fun _=>.nil⟩
 |no e=>exact⟨_,_,rfl,e,(fun z=>by cases z),fun _=>.nil⟩
 |not e h1=>exact⟨_,_,rfl,e,(fun z=>by cases z),fun _=>.cons h1 .nil⟩
 |bin e h1 h2=>exact⟨_,_,rfl,e,(fun z=>by cases z),fun _=>.cons h1 (.cons h2 .nil)⟩
theorem dC(k:gc H J){us:List V}(h:Paired (eD H) us ts):Paired (eD J) us ts:=Paired.iA h fun _ _ q=>q.mono k
theorem bJ{α β:Type}{F:α->β->Prop}:∀{a c:List α}{b d:List β},Paired F a b->Paired F c d->Paired F (a++c) (b++d)
 |_,_,_,_,.nil,s=>s
 |_,_,_,_,.cons r t,s=>.cons r (bJ t s)
theorem bD{α β:Type}{F:α->β->Prop}:∀{a:List α}{b:List β},Paired F a b->∀(i:Nat) x,a[i]?=some x->∃ y,b[i]?=some y/\F x y
 |_,_,.nil,i,x,h=>by simp at h
 | _,_,.cons r t,0,x,h=>by
  rw[List.getElem?_cons_zero]at h;cases h;exact⟨_,Z,r⟩
 | _,_,.cons r t,i+1,x,h=>by
  rw[List.getElem?_cons_succ]at h;exact bD t i x h
theorem Jk(x:V)(rest:List V):iH (x::rest) (some 1) none=rest:=by
 unfold iH HT.fF;simp
theorem xK(x:V)(rest:List V):¬(HT.fF (x::rest).length 0 (some 1)=0/\HT.fF (x::rest).length (x::rest).length none=(x::rest).length):=by
 unfold HT.fF;simp
theorem aA{l:Addr}(h:H l=none):bb H (upd H l o):=fun b u e=>by
 rw[aB (aG e h)];exact e
theorem iK(h:H b=some (.lst xs)):gc H (upd H b o):=fun c ys e=>by
 rw[aB (fun z=>by subst z;rw[h]at e;cases e)];exact e
theorem FP(s:bb H J){l:Addr}(h:J l=none):H l=none:=s.free h
theorem FQ{ys:List Str}(h:kvs.map (·.1)=ys.map Sum.inr)(x:Str)(v:V): (putK kvs (Sum.inr x:Key) v).map (·.1)=(if x∈ys then ys else ys++[x]).map Sum.inr:=by
 have ot:((kvs.any fun kv=>decide (kv.1=(Sum.inr x:Key)))=true)↔x∈ys:=by
  rw[List.any_eq_true]
  constructor
  .rintro⟨p,hp,e⟩
   have e:=eS e;have:(Sum.inr x:Key)∈kvs.map (·.1):=b9.mpr ⟨p,hp,e⟩;rw[h]at this;obtain⟨y,hy,e2⟩:=b9.mp this;cases e2;exact hy
  intro hx;have:(Sum.inr x:Key)∈kvs.map (·.1):=by rw[h];exact b9.mpr ⟨x,hx,rfl⟩
  obtain⟨p,hp,e⟩:=b9.mp this;exact⟨p,hp,cK e⟩
 unfold putK
 by_cases e:x∈ys
 .rw[qp (ot.mpr e),qp e,dA,<- h]
  apply g0;intro p _;show(if p.1=(Sum.inr x:Key)then(p.1,v)else p).1=p.1
  split<;>rfl
 rw[bX (fun z=>e (ot.mp z)),bX e,ar,h,ar]
 rfl
theorem lk(h:n<=1000):n<=sizeLine:=mI (cO h)
theorem lks(h:n<=1000:=by first|exact gu rfl|simp):n<=sizeLine:=lk h
theorem Cw{ys:List Str}(h:ys.Nodup)(hx:x∉ys):(ys++[x]).Nodup:=Al h hx
end Mc
namespace Mc
open PySem
theorem qY(a:Nat):(Builtin.bitNot (Builtin.bitNot (a:Int)))=a:=by unfold Builtin.bitNot;exact G
theorem band(a b:Nat):Builtin.bitAnd (a:Int) (b:Int)=((a&&&b:Nat):Int):=by
 unfold Builtin.bitAnd;rw[cK (gi a),cK (gi b)]
 rfl
theorem bor(a b:Nat):Builtin.bitOr (a:Int) (b:Int)=((a|||b:Nat):Int):=by
 unfold Builtin.bitOr Builtin.bitAnd;have h1:¬(0:Int)<=Builtin.bitNot (a:Int):=by unfold Builtin.bitNot;exact G
 have h2:¬(0:Int)<=Builtin.bitNot (b:Int):=by unfold Builtin.bitNot;exact G
 rw[gX h1,gX h2];show Builtin.bitNot (Builtin.bitNot (((Builtin.bitNot (Builtin.bitNot (a:Int))).toNat|||(Builtin.bitNot (Builtin.bitNot (b:Int))).toNat:Nat):Int))=_;rw[qY,qY,qY]
 rfl
theorem yW:∀(a b:Nat),(a^^^b)+(a&&&b)=a|||b:=by
 intro a
 induction a using Nat.strongRecOn with
 | ind a ih =>
  intro b
  by_cases h:a=0
  .subst h
   simp
  have q:=ih (a/2) G (b/2);have e1:(a^^^b)/2=a/2^^^b/2:=Nat.xor_div_two;have e2:(a&&&b)/2=a/2&&&b/2:=Nat.and_div_two;have e3:(a|||b)/2=a/2|||b/2:=Nat.or_div_two
  have m:∀ x:Nat,x%2=if x.testBit 0 then 1 else 0:=fun x=>by
   rw[Nat.testBit_zero]
   by_cases z:x%2=1
   .simp[z]
   simp[z];exact G
  have f1:=m (a^^^b);have f2:=m (a&&&b);have f3:=m (a|||b);rw[gy]at f1;rw[rL]at f2;rw[kK]at f3;have d1:=rS (a^^^b) 2;have d2:=rS (a&&&b) 2;have d3:=rS (a|||b) 2;rw[e1]at d1;rw[e2]at d2;rw[e3]at d3
  have key:∀(u v:Bool)(x y z:Nat),x=(if (u ^^ v)=true then 1 else 0)->y=(if (u&&v)=true then 1 else 0)->z=(if (u||v)=true then 1 else 0)->x+y=z:=by
   intro u v x y z h1 h2 h3;subst h1 h2 h3;cases u<;>cases v<;>rfl
  have:=key _ _ _ _ _ f1 f2 f3;exact G
theorem bxor(a b:Nat):Builtin.bitXor (a:Int) (b:Int)=((a^^^b:Nat):Int):=by
 unfold Builtin.bitXor;rw[bor,band];have:=yW a b;exact G
def gn(p:Nat->Bool):Nat->Nat
 | 0=>0
 |m+1=>gn p m+if p m=true then 2^m else 0
theorem pU(p:Nat->Bool):∀ m,gn p m<2^m
 | 0=>Nat.one_pos
 | m+1=>by
  have:=pU p m;have e:2^(m+1)=2^m+2^m:=by rw[hU];exact G
  show gn p m+(if p m=true then 2^m else 0)<_
  split<;>exact G
theorem eZ(p:Nat->Bool):∀ m i,(gn p m).testBit i=(decide (i<m)&&p i)
 | 0,i=>by simp[gn]
 | m + 1,i=>by
  have fS:=pU p m;have ih:=eZ p m
  by_cases h1:i<m
  .have e:(gn p (m+1)).testBit i=(gn p m).testBit i:=by
    show(gn p m+if p m=true then 2^m else 0).testBit i=_
    split
    .rw[Au];exact IQ h1 _
    rfl
   rw[e,ih i,cK h1,cK (show i<m+1 by omega)]
  by_cases h2:i=m
  .subst h2
   rw[cK (show i<i+1 by omega)];show(gn p i+if p i=true then 2^i else 0).testBit i=_;have z:(gn p i).testBit i=false:=kL fS;cases hp:p i with
   |true=>rw[qp rfl,Au,IS,z];rfl
   |false=>rw[bX b4];exact z
  rw[gX (show ¬i<m+1 by omega)];have:=pU p (m+1);have e:2^(m+1)<=2^i:=b6 b4 G;exact kL G
theorem Jl(m:Nat):gn (fun _=>true) m=2^m-1:=by
 refine cw fun i=>?_
 rw[eZ,mB,Bool.and_true]
theorem FT(m:Nat):gn (fun _=>false) m=0:=by
 refine cw fun i=>?_
 rw[eZ,i',nB]
def bO(g:Str->Bool):Tr->Bool
 | .nm x=>g x
 | .yes=>true
 | .no=>false
 | .not t=>!bO g t
 | .bin .and a b=>bO g a&&bO g b
 | .bin .or a b=>bO g a||bO g b
 | .bin .thn a b=>!bO g a||bO g b
 | .bin .same a b=>bO g a==bO g b
def pW:Op->Nat×Nat->Nat×Nat->Nat×Nat
 | .and,l,r=>(l.1&&&r.1,l.2|||r.2)
 | .or,l,r=>(l.1|||r.1,l.2&&&r.2)
 | .thn,l,r=>(l.2|||r.1,l.1&&&r.2)
 | .same,l,r=>((l.1&&&r.1)|||(l.2&&&r.2),(l.1&&&r.2)|||(l.2&&&r.1))
def dw(f:Str->Nat×Nat)(e:Nat):Tr->Nat×Nat
 | .nm x=>f x
 | .yes=>(e,0)
 | .no=>(0,e)
 | .not t=>((dw f e t).2,(dw f e t).1)
 | .bin o a b=>pW o (dw f e a) (dw f e b)
theorem jB{f:Str->Nat×Nat}{e i:Nat}{g:Str->Bool}(he:e.testBit i=true):∀{t:Tr},(∀ x∈t.names,(f x).1.testBit i=g x/\(f x).2.testBit i = !g x) -> (dw f e t).1.testBit i=bO g t/\(dw f e t).2.testBit i = !bO g t
 | .nm x,h=>h x qms
 | .yes,_=>⟨he,i' i⟩
 | .no,_=>⟨i' i,he⟩
 | .not t,h=>by
  obtain⟨h1,h2⟩:=jB he (t:=t) h;exact⟨h2,by show(dw f e t).1.testBit i = !!bO g t;rw[h1,Bool.not_not]⟩
 | .bin o a b,h=>by
  obtain⟨a1,a2⟩:=jB he (t:=a) fun x hx=>h x (w9 _ hx)
  obtain⟨b1,b2⟩:=jB he (t:=b) fun x hx=>h x (pd _ hx)
  cases o<;>simp only[dw,pW,bO,rL,kK,a1,a2,b1,b2]<;>cases bO g a<;>cases bO g b<;>first|exact⟨Z,Z⟩|exact⟨trivial,trivial⟩|decide
theorem lN{f:Str->Nat×Nat}{e i:Nat}(he:e.testBit i=false):∀{t:Tr},(∀ x∈t.names,(f x).1.testBit i=false/\(f x).2.testBit i=false) -> (dw f e t).1.testBit i=false/\(dw f e t).2.testBit i=false
 | .nm x,h=>h x qms
 | .yes,_=>⟨he,i' i⟩
 | .no,_=>⟨i' i,he⟩
 | .not t,h=>by
  obtain⟨h1,h2⟩:=lN he (t:=t) h;exact⟨h2,h1⟩
 | .bin o a b,h=>by
  obtain⟨a1,a2⟩:=lN he (t:=a) fun x hx=>h x (w9 _ hx)
  obtain⟨b1,b2⟩:=lN he (t:=b) fun x hx=>h x (pd _ hx)
  cases o<;>simp only[dw,pW,rL,kK,a1,a2,b1,b2]<;>first|exact⟨Z,Z⟩|exact⟨trivial,trivial⟩|decide
theorem jd{f h:Str->Nat×Nat}{e:Nat}:∀{t:Tr},(∀ x∈t.names,f x=h x)->dw f e t=dw h e t
 | .nm x,q=>q x qms
 | .yes,_=>rfl
 | .no,_=>rfl
 | .not t,q=>by
  have:=jd (e:=e) (t:=t) q;show((dw f e t).2,(dw f e t).1)=_;rw[this];rfl
 | .bin o a b,q=>by
  have e1:=jd (e:=e) (t:=a) fun x hx=>q x (w9 _ hx)
  have e2:=jd (e:=e) (t:=b) fun x hx=>q x (pd _ hx)
  show pW o _ _=pW o _ _;rw[e1,e2]
def inW(ns:List Str)(i:Nat)(x:Str):Bool:=i.testBit (ns.idxOf x)
def dX(n k:Nat):Nat:=gn (fun i=>i.testBit k) (2^n)
def cP(n:Nat):Nat:=2^(2^n)-1
def aP(ns:List Str)(t:Tr):Nat:=gn (fun i=>bO (inW ns i) t) (2^ns.length)
def aU(ns:List Str)(t:Tr):Nat:=gn (fun i=>!bO (inW ns i) t) (2^ns.length)
theorem fZ(n i:Nat):(cP n).testBit i=decide (i<2^n):=by unfold cP;rw[mB]
def QA(ns:List Str)(x:Str):Nat×Nat:=(dX ns.length (ns.idxOf x),cP ns.length^^^dX ns.length (ns.idxOf x))
theorem yX:(dw (QA ns) (cP ns.length) t).1=aP ns t:=by
 refine cw fun i=>?_
 unfold aP;rw[eZ]
 by_cases h:i<2^ns.length
 .rw[cK h,Bool.true_and]
  refine(jB (g:=inW ns i) (by rw[fZ,cK h]) fun x _=>?_).1;unfold QA dX;rw[gy,eZ,fZ,cK h,Bool.true_and,Bool.true_xor];exact⟨Z,Z⟩
 rw[gX h,I_];refine(lN (by rw[fZ,gX h]) fun x _=>?_).1;unfold QA dX;rw[gy,eZ,fZ,gX h];exact⟨Z,Z⟩
theorem qD:cP ns.length^^^aP ns t=aU ns t:=by
 refine cw fun i=>?_
 unfold aP aU;rw[gy,eZ,eZ,fZ];cases decide (i<2^ns.length)<;>cases bO (inW ns i) t<;>rfl
theorem M6(a k:Nat):((a/2^k)%2:Nat)=if a.testBit k=true then 1 else 0:=by
 rw[Nat.testBit_eq_decide_div_mod_eq]
 by_cases h:a/2^k%2=1
 .rw[cK h,qp rfl,h]
 rw[gX h,bX b4];exact G
theorem pX(n k i:Nat):(dX n k).testBit i=(decide (i<2^n)&&i.testBit k):=eZ _ _ _
theorem FW(k:Nat):(2^(2^k)-1)*2^(2^k)=dX (k+1) k:=by
 refine cw fun i=>?_
 have e2:2^(k+1)=2^k+2^k:=by rw[hU];exact G
 rw[pX,mE,Nat.testBit_two_pow_mul,mB]
 by_cases h1:i<2^k
 .have z:i.testBit k=false:=kL h1
  rw[z,nB,gX (show ¬i ≥ 2^k by omega),I_]
 by_cases h2:i<2^(k+1)
 .have z:i.testBit k=true:=by
   have e:i=2^k+(i-2^k):=G
   rw[e,IS,kL (show i-2^k<2^k by omega)]
   rfl
  rw[z,cK h2,cK (show i ≥ 2^k by omega),cK (show i-2^k<2^k by omega)]
 rw[gX h2,gX (show ¬i-2^k<2^k by omega)];simp
theorem Jm{k:Nat}(h:k<j):dX j k|||(dX j k*2^(2^j))=dX (j+1) k:=by
 refine cw fun i=>?_
 have e2:2^(j+1)=2^j+2^j:=by rw[hU];exact G
 rw[kK,pX,pX,mE,Nat.testBit_two_pow_mul,pX]
 by_cases h1:i<2^j
 .rw[cK h1,cK (show i<2^(j+1)by omega),gX (show ¬i ≥ 2^j by omega)]
  simp
 rw[gX h1,cK (show i ≥ 2^j by omega)]
 by_cases h2:i<2^(j+1)
 .have z:(i-2^j).testBit k=i.testBit k:=by
   have e:i=2^j+(i-2^j):=G
   conv=>rhs;rw[e]
   rw[IQ h]
  rw[cK h2,cK (show i-2^j<2^j by omega),z];simp
 rw[gX h2,gX (show ¬i-2^j<2^j by omega)];simp
theorem b8(ns:List Str)(t:Tr)(i:Nat):(aP ns t).testBit i=(decide (i<2^ns.length)&&bO (inW ns i) t):=eZ _ _ _
theorem Qc(ns:List Str):aP ns .yes=cP ns.length:=Jl _
theorem Rt(ns:List Str):aP ns .no=0:=FT _
theorem Qd(ns:List Str)(t:Tr):aP ns (.not t)=cP ns.length^^^aP ns t:=by
 refine cw fun i=>?_
 rw[gy,b8,b8,fZ];show(decide (i<2^ns.length) && !bO (inW ns i) t)=_;cases decide (i<2^ns.length)<;>cases bO (inW ns i) t<;>rfl
theorem Qe(ns:List Str)(a b:Tr):aP ns (.bin .and a b)=aP ns a&&&aP ns b:=by
 refine cw fun i=>?_
 rw[rL,b8,b8,b8];show(decide (i<2^ns.length)&&(bO (inW ns i) a&&bO (inW ns i) b))=_;cases decide (i<2^ns.length)<;>cases bO (inW ns i) a<;>cases bO (inW ns i) b<;>rfl
theorem Ru(ns:List Str)(a b:Tr):aP ns (.bin .or a b)=aP ns a|||aP ns b:=by
 refine cw fun i=>?_
 rw[kK,b8,b8,b8];show(decide (i<2^ns.length)&&(bO (inW ns i) a||bO (inW ns i) b))=_;cases decide (i<2^ns.length)<;>cases bO (inW ns i) a<;>cases bO (inW ns i) b<;>rfl
theorem Qf(ns:List Str)(a b:Tr):aP ns (.bin .thn a b)=(cP ns.length^^^aP ns a)|||aP ns b:=by
 refine cw fun i=>?_
 rw[kK,gy,b8,b8,b8,fZ];show(decide (i<2^ns.length)&&(!bO (inW ns i) a||bO (inW ns i) b))=_;cases decide (i<2^ns.length)<;>cases bO (inW ns i) a<;>cases bO (inW ns i) b<;>rfl
theorem M7(ns:List Str)(a b:Tr):aP ns (.bin .same a b)=(cP ns.length^^^aP ns a)^^^aP ns b:=by
 refine cw fun i=>?_
 rw[gy,gy,b8,b8,b8,fZ];show(decide (i<2^ns.length)&&(bO (inW ns i) a==bO (inW ns i) b))=_;cases decide (i<2^ns.length)<;>cases bO (inW ns i) a<;>cases bO (inW ns i) b<;>rfl
def fH(rs:List Int)(side m:Nat):List Int:=((List.range m).filter fun i=>side.testBit i).map fun i=>rs.getD i 0
def sel(rs:List Int)(side:Nat):List Int:=fH rs side rs.length
theorem sJ(rs:List Int)(side m:Nat):fH rs side (m+1)=fH rs side m++if side.testBit m=true then [rs.getD m 0]else []:=by
 unfold fH;rw[eJ,eM,ar];cases h:side.testBit m with
 |true=>simp[h]
 |false=>simp[h]
theorem uZ(rs:List Int)(side m:Nat):(fH rs side m).length <= m:=by
 unfold fH;rw[dn];refine gV (da _ _) ?_;rw[cE];exact qnr _
def aQ:List Int->Option Int
 |[]=>none
 |x::r=>some (r.foldl min x)
theorem o8:∀(r:List Int)(x:Int),(r.foldl min x=x\/r.foldl min x∈r)/\r.foldl min x<=x/\∀ a∈r,r.foldl min x<=a
 |[],x=>⟨.inl rfl,oi _,fun a h=>nomatch h⟩
 | y::r,x=>by
  obtain⟨h1,h2,h3⟩:=o8 r (min x y);show(r.foldl min (min x y)=x\/r.foldl min (min x y)∈y::r)/\r.foldl min (min x y)<=x/\∀ a∈y::r,r.foldl min (min x y)<=a;refine⟨?_,G,fun a ha=>?_⟩
  .rcases h1 with h1|h1
   .rw[h1]
    by_cases h:x<=y
    .exact .inl G
    exact .inr (by rw[show min x y=y by omega];exact qms)
   exact .inr (k_ _ h1)
  rcases ai.mp ha with rfl|ha
  .omega
  exact h3 a ha
theorem lw{l:List Int}{aad:Int}(h1:aad∈l)(h2:∀ a∈l,aad<=a):aQ l=some aad:=by
 cases l with
 |nil=>cases h1
 | cons x r =>
  obtain⟨q1,q2,q3⟩:=o8 r x;show some (r.foldl min x)=some aad
  have a1:r.foldl min x∈x::r:=by
   rcases q1 with q|q
   .rw[q];exact qms
   exact k_ _ q
  have a2:=h2 _ a1
  have a3:r.foldl min x<=aad:=by
   rcases ai.mp h1 with rfl|h
   .exact q2
   exact q3 aad h
  congr 1
  exact G
theorem h_{x:Int}:x∈sel rs sd↔∃ i,i<rs.length/\sd.testBit i=true/\rs.getD i 0=x:=by
 unfold sel fH;rw[b9]
 constructor
 .rintro⟨i,h,rfl⟩
  obtain⟨h1,h2⟩:=me.mp h;exact⟨i,eT.mp h1,h2,Z⟩
 rintro⟨i,h1,h2,rfl⟩;exact⟨i,me.mpr ⟨eT.mpr h1,h2⟩,Z⟩
theorem cU{l:List Int}{aad:Int}(h:aQ l=some aad):aad∈l/\∀ a∈l,aad<=a:=by
 cases l with
 |nil=>cases h
 | cons x r =>
  obtain⟨q1,q2,q3⟩:=o8 r x;have e:r.foldl min x=aad:=kF h;rw[e]at q1 q2 q3;refine⟨?_,fun a ha=>?_⟩
  .rcases q1 with q|q
   .rw[q];exact qms
   exact k_ _ q
  rcases ai.mp ha with rfl|ha
  .exact q2
  exact q3 a ha
theorem jU{l:List Int}(h:aQ l=none):l=[]:=by
 cases l with
 |nil=>rfl
 |cons x r=>cases h
theorem lO(ns:List Str)(t:Tr)(i:Nat):(aU ns t).testBit i=(decide (i<2^ns.length) && !bO (inW ns i) t):=eZ _ _ _
theorem FZ(h:rs.length=2^ns.length)(t:Tr){x:Int}(hx:x∈rs):x∈sel rs (aU ns t)\/x∈sel rs (aP ns t):=by
 obtain⟨i,hi,e⟩:=List.mem_iff_getElem.mp hx;have eg:rs.getD i 0=x:=by rw[List.getD,List.getElem?_eq_getElem hi];exact e
 cases hb:bO (inW ns i) t with
 |true=>exact .inr (h_.mpr ⟨i,hi,by rw[b8,hb,cK G];rfl,eg⟩)
 |false=>exact .inl (h_.mpr ⟨i,hi,by rw[lO,hb,cK G];rfl,eg⟩)
theorem mR{x:Int}(h:x∈sel rs sd):x∈rs:=by
 obtain⟨i,hi,_,e⟩:=h_.mp h;rw[List.getD,List.getElem?_eq_getElem hi]at e;rw[<- e];exact fi hi
def dD(l:Int):Int:=if 0>l then 0 else l
theorem Bd(l:Int):0<=dD l:=by unfold dD;split<;>exact G
def iu(rs:List Int)(bk:Nat)(dx dy:Int)(m:Nat):List Int:=(List.range m).map fun i=>rs.getD i 0+if bk.testBit i=true then dx else dy
def gq(rs:List Int)(bk:Nat)(x y lean:Int):List Int:=iu rs bk (dD lean-x) (dD (-lean)-y) rs.length
theorem yZ(rs:List Int)(bk:Nat)(dx dy:Int)(m:Nat):iu rs bk dx dy (m+1)=iu rs bk dx dy m++[rs.getD m 0+if bk.testBit m=true then dx else dy]:=by
 unfold iu;rw[eJ,ar]
 rfl
theorem sO(rs:List Int)(bk:Nat)(dx dy:Int)(m:Nat):(iu rs bk dx dy m).length=m:=by unfold iu;simp
theorem jG(rs:List Int)(bk:Nat)(x y lean:Int):(gq rs bk x y lean).length=rs.length:=sO _ _ _ _ _
theorem ju{bk:Nat}{x y:Int}(h:i<rs.length):(gq rs bk x y lean).getD i 0=rs.getD i 0+if bk.testBit i=true then dD lean-x else dD (-lean)-y:=by
 unfold gq iu;rw[List.getD,lS,List.getElem?_range h]
 rfl
theorem mem_getD{x:Int}(h:x∈rs):∃ i,i<rs.length/\rs.getD i 0=x:=by
 obtain⟨i,hi,e⟩:=List.mem_iff_getElem.mp h;exact⟨i,hi,by rw[List.getD,List.getElem?_eq_getElem hi];exact e⟩
theorem qZ(h:i<2^ns.length):(aP ns t).testBit i = !(aU ns t).testBit i:=by
 rw[b8,lO,cK h];simp
structure q_(ns:List Str)(t:Tr)(rs:List Int)(x y:Int):Prop where
 len:rs.length=2^ns.length
 br:aQ (sel rs (aU ns t))=some x
 kp:aQ (sel rs (aP ns t))=some y
theorem q_.J'{x y:Int}(h:q_ ns t rs x y)(hi:i<rs.length)(hb:(aU ns t).testBit i=true):x<=rs.getD i 0:=(cU h.br).2 _ (h_.mpr ⟨i,hi,hb,rfl⟩)
theorem q_.JY{x y:Int}(h:q_ ns t rs x y)(hi:i<rs.length)(hb:(aU ns t).testBit i=false):y<=rs.getD i 0:=(cU h.kp).2 _ (h_.mpr ⟨i,hi,by rw[qZ (by have:=h.len;exact G),hb];rfl,rfl⟩)
theorem q_.Pp{x y:Int}(h:q_ ns t rs x y)(lean:Int):q_ ns t (gq rs (aU ns t) x y lean) (dD lean) (dD (-lean)):=by
 have hl:=jG rs (aU ns t) x y lean;refine⟨by rw[hl];exact h.len,lw ?_ ?_,lw ?_ ?_⟩
 .obtain⟨i,hi,hb,e⟩:=h_.mp (cU h.br).1
  refine h_.mpr ⟨i,G,hb,?_⟩;rw[ju hi,e,qp hb];exact G
 .intro a ha
  obtain⟨i,hi,hb,rfl⟩:=h_.mp ha;have hi:i<rs.length:=G
  have:=h.J' hi hb;rw[ju hi,qp hb];exact G
 .obtain⟨i,hi,hb,e⟩:=h_.mp (cU h.kp).1
  have y4:=hb;rw[qZ (by have:=h.len;exact G)]at y4;have y4:(aU ns t).testBit i=false:=by simpa using y4
  refine h_.mpr ⟨i,G,hb,?_⟩;rw[ju hi,e,bX (by rw[y4];decide)];exact G
 intro a ha;obtain⟨i,hi,hb,rfl⟩:=h_.mp ha;have hi:i<rs.length:=G
 have y4:=hb;rw[qZ (by have:=h.len;exact G)]at y4;have y4:(aU ns t).testBit i=false:=by simpa using y4
 have:=h.JY hi y4;rw[ju hi,bX (by rw[y4];decide)];exact G
theorem q_.geT{x y:Int}(h:q_ ns t rs x y):∀ z∈gq rs (aU ns t) x y lean,0<=z:=by
 intro z hz;obtain⟨i,hi,rfl⟩:=mem_getD hz;rw[jG]at hi;rw[ju hi];have g1:=Bd lean;have g2:=Bd (-lean);cases hb:(aU ns t).testBit i with
 | true =>
  have:=h.J' hi hb;rw[qp rfl];exact G
 | false =>
  have:=h.JY hi hb;rw[bX b4];exact G
theorem q_.Po{x y:Int}(h:q_ ns t rs x y)(lean:Int):0∈gq rs (aU ns t) x y lean:=by
 have h2:=h.Pp lean
 by_cases hl:0<lean
 .have e:dD (-lean)=0:=by unfold dD;split<;>exact G
  rw[<- e];exact mR (cU h2.kp).1
 have e:dD lean=0:=by unfold dD;split<;>exact G
 have q:=mR (cU h2.br).1;rw[e]at q;exact q
def jC(ns:List Str)(t:Tr)(rs:List Int):List Int:=match aQ (sel rs (aU ns t)),aQ (sel rs (aP ns t))with
 |some x,some y=>if 0<x then gq rs (aU ns t) x y 0 else rs
 |_,_=>rs
def je(ns:List Str)(t:Tr)(rs:List Int)(firm:Int):List Int:=match aQ (sel rs (aU ns t)),aQ (sel rs (aP ns t))with
 |some x,some y=>gq rs (aU ns t) x y firm
 |_,_=>rs
structure gx(ns:List Str)(rs:List Int):Prop where
 len:rs.length=2^ns.length
 ge:∀ z∈rs,0<=z
 zero:0∈rs
theorem gx.CU{x y:Int}(h:q_ ns t rs x y)(lean:Int):gx ns (gq rs (aU ns t) x y lean):=⟨by rw[jG];exact h.len,h.geT,h.Po lean⟩
theorem gx.Ti(h:gx ns rs)(t:Tr):gx ns (jC ns t rs):=by
 unfold jC
 split
 .split
  .exact gx.CU ⟨h.len,by assumption,by assumption⟩ 0
  exact h
 exact h
theorem gx.PF(h:gx ns rs)(t:Tr)(firm:Int):gx ns (je ns t rs firm):=by
 unfold je
 split
 .exact gx.CU ⟨h.len,by assumption,by assumption⟩ firm
 exact h
def eG(ps:List (List Int×Int))(i:Nat):Int:=(ps.map fun x=>x.2*x.1.getD i 0).sum
def cg(N:Nat)(ps:List (List Int×Int)):List Int:=(List.range N).map (eG ps)
theorem iR(N:Nat)(ps:List (List Int×Int)):(cg N ps).length=N:=by unfold cg;simp
theorem Ga(N:Nat):cg N []=List.replicate N 0:=by
 unfold cg;rw[show eG []=fun _=>(0:Int)from funext fun _=>rfl,List.map_const',cE]
theorem Gb(ps qs:List (List Int×Int))(i:Nat):eG (ps++qs) i=eG ps i+eG qs i:=by
 unfold eG;rw[ar,rV]
theorem Cy(ps:List (List Int×Int))(x:List Int×Int)(i:Nat):eG (ps++[x]) i=eG ps i+x.2*x.1.getD i 0:=by
 rw[Gb];simp[eG]
theorem Jo{N:Nat}(ps:List (List Int×Int))(h:i<N):(cg N ps).getD i 0=eG ps i:=by
 unfold cg;rw[List.getD,lS,List.getElem?_range h]
 rfl
def jH(N:Nat)(ps:List (List Int×Int))(x:List Int×Int)(m:Nat):List Int:=(List.range m).map fun i=>(cg N ps).getD i 0+x.2*x.1.getD i 0
theorem z6(N:Nat)(ps:List (List Int×Int))(x:List Int×Int)(m:Nat):jH N ps x (m+1)=jH N ps x m++[(cg N ps).getD m 0+x.2*x.1.getD m 0]:=by
 unfold jH;rw[eJ,ar]
 rfl
theorem Cz(N:Nat)(ps:List (List Int×Int))(x:List Int×Int)(m:Nat):(jH N ps x m).length=m:=by unfold jH;simp
theorem CG(N:Nat)(ps:List (List Int×Int))(x:List Int×Int):jH N ps x N=cg N (ps++[x]):=by
 unfold jH;show _=(List.range N).map (eG (ps++[x]));refine g0 fun i hi=>?_
 rw[Jo _ (eT.mp hi),Cy]
def iE(l:List Int)(m:Int):Prop:=m∈l/\∀ a∈l,m<=a
theorem iE.eq{l:List Int}{m k:Int}(h1:iE l m)(h2:iE l k):m=k:=by
 have:=h1.2 k h2.1;have:=h2.2 m h1.1;exact G
end Mc
namespace K68
open PySem L2 Mc
def top(i:Nat):Stmt:=PySem.Challenge.pw_mindchange_k68_whole_run_back.main.body.getD i (.Pass ⟨0,0,0,0⟩)
abbrev S0:Stmt:=top 14
abbrev S1:Stmt:=top 15
abbrev S2:Stmt:=top 16
abbrev S3:Stmt:=top 17
abbrev S4:Stmt:=top 18
abbrev S5:Stmt:=top 19
abbrev S6:Stmt:=top 21
abbrev S7:Stmt:=top 22
abbrev S8:Stmt:=top 23
abbrev S9:Stmt:=top 24
abbrev S10:Stmt:=top 25
abbrev YV:Stmt:=top 26
abbrev S12:Stmt:=top 27
abbrev S13:Stmt:=top 28
abbrev S14:Stmt:=top 29
abbrev S15:Stmt:=top 30
abbrev S16:Stmt:=top 31
abbrev S17:Stmt:=top 33
abbrev S18:Stmt:=top 34
abbrev S19:Stmt:=top 35
abbrev S20:Stmt:=top 36
abbrev S21:Stmt:=top 37
abbrev S22:Stmt:=top 38
abbrev S23:Stmt:=top 39
abbrev S24:Stmt:=top 41
abbrev S25:Stmt:=top 42
abbrev S26:Stmt:=top 43
abbrev S27:Stmt:=top 44
abbrev S28:Stmt:=top 46
abbrev S29:Stmt:=top 47
abbrev S30:Stmt:=top 48
abbrev S31:Stmt:=top 49
abbrev S32:Stmt:=top 50
abbrev S33:Stmt:=inClass (top 52) 0
abbrev S34:Stmt:=inClass (top 52) 1
abbrev S35:Stmt:=inClass (top 52) 2
abbrev S36:Stmt:=inClass (top 52) 3
abbrev S37:Stmt:=inClass (top 52) 4
abbrev S38:Stmt:=inClass (top 52) 5
abbrev S39:Stmt:=inClass (top 52) 6
abbrev S40:Stmt:=inClass (top 52) 7
abbrev S41:Stmt:=inClass (top 52) 8
abbrev S42:Stmt:=inClass (top 52) 9
abbrev S43:Stmt:=inClass (top 52) 10
abbrev S44:Stmt:=inClass (top 52) 11
abbrev S45:Stmt:=top 58
abbrev S46:Stmt:=top 59
abbrev S47:Stmt:=top 60
abbrev S48:Stmt:=inClass (top 61) 0
abbrev S49:Stmt:=inClass (top 61) 1
abbrev YU:Stmt:=inClass (top 61) 2
abbrev S51:Stmt:=inClass (top 61) 3
abbrev S52:Stmt:=inClass (top 61) 4
abbrev S53:Stmt:=inClass (top 61) 5
abbrev S54:Stmt:=inClass (top 61) 6
abbrev S55:Stmt:=top 62
abbrev S56:Stmt:=top 63
abbrev S57:Stmt:=top 68
abbrev S58:Stmt:=top 69
abbrev S59:Stmt:=top 70
abbrev S60:Stmt:=top 71
abbrev S61:Stmt:=top 72
abbrev S62:Stmt:=top 73
abbrev S63:Stmt:=top 74
abbrev S64:Stmt:=top 75
abbrev S65:Stmt:=top 76
abbrev S66:Stmt:=top 77
abbrev YT:Stmt:=top 78
abbrev YS:Stmt:=top 79
abbrev YR:Stmt:=top 80
abbrev YQ:Stmt:=top 81
abbrev YO:Stmt:=top 82
abbrev YN:Stmt:=top 83
abbrev YM:Stmt:=top 84
abbrev YL:Stmt:=top 86
abbrev YK:Stmt:=inClass (top 88) 0
abbrev YJ:Stmt:=top 89
abbrev YI:Stmt:=top 90
abbrev YH:Stmt:=top 91
abbrev YG:Stmt:=top 92
abbrev YF:Stmt:=top 93
abbrev YE:Stmt:=top 94
abbrev S82:Stmt:=top 95
abbrev YD:Stmt:=top 96
abbrev S84:Stmt:=top 97
abbrev YC:Stmt:=top 98
abbrev YB:Stmt:=top 101
abbrev S87:Stmt:=top 102
abbrev YA:Stmt:=top 103
abbrev Yz:Stmt:=top 104
abbrev Yy:Stmt:=top 105
abbrev Yx:Stmt:=top 107
abbrev S92:Stmt:=top 108
abbrev S93:Stmt:=top 109
abbrev S94:Stmt:=top 110
abbrev Yw:Stmt:=top 111
abbrev S96:Stmt:=top 112
abbrev Yv:Stmt:=top 113
abbrev S98:Stmt:=top 114
abbrev S99:Stmt:=top 115
abbrev Jp:Stmt:=top 118
abbrev Jq:Stmt:=top 119
abbrev Qg:Stmt:=top 120
abbrev Qh:Stmt:=top 121
abbrev Jr:Stmt:=top 122
abbrev Js:Stmt:=top 123
abbrev Jt:Stmt:=top 124
abbrev Ju:Stmt:=top 125
abbrev Qi:Stmt:=top 126
abbrev Qj:Stmt:=top 127
abbrev Qk:Stmt:=top 128
abbrev Ql:Stmt:=top 129
abbrev Jv:Stmt:=top 130
abbrev Qm:Stmt:=top 132
abbrev Jw:Stmt:=top 133
structure Tp(K:W.Frag)(mg:Str->Option Value)(x:Str)(st:Stmt)(ps:List Str)(f:Addr)(fd:FuncData):Prop where
 F:Cf K x x st f fd
 b:Binds K fd ps []
 m:mg x=some (.ref f)
 k:W.keepIn K (.ref f)=true
structure Mp(K:W.Frag)(C:Addr)(x q:Str)(st:Stmt)(ps:List Str)(f:Addr)(fd:FuncData):Prop where
 F:Cf K x q st f fd
 b:Binds K fd ps []
 e:Meth K C x f
theorem eI{X:L2.Cx} {CX:L2.xA} {k:Nat}    {sp:L2.Sp} {E:L2.XK}      {t:L2.TA}  (q:Tp X.K X.mg x st ps f fd) (F:g_ X.prog X.w X.K X.mg X.base CX k f fd ps sp) (hr:fE j X.A) (hx:eE CX X E) (ha:PA X (e::es) t) (hj:k<=j:=by first|decide|omega) (hg:X.env.scope.names.lookup x=some .globalImplicit:=by kernel_rfl) (mi:(x==("__debug__":Str))=false:=by kernel_rfl) (he:starEach (e::es) X.env=(false,eval e X.env):: starEach es X.env:=by rfl) (ij:(backTo pos (starEach es X.env)).any (·.1)=false:=by rfl):PE X (.Call (.Name x p) (e::es) [] pos) (BW sp [] E t):=Rg F (hr.mono hj) q.m q.k q.b hx ha hg mi he ij
theorem Qn{X:L2.Cx} {k:Nat}    {sp:L2.Sp}      {t:L2.TA}  (q:Tp X.K X.mg x st ps f fd) (F:g_ X.prog X.w X.K X.mg X.base (oT X.prog X.w) k f fd ps sp) (hr:fE j X.A) (ha:PA X.Wg (e::es) t) (hj:k<=j:=by first|decide|omega) (hg:X.env.scope.names.lookup x=some .globalImplicit:=by kernel_rfl) (mi:(x==("__debug__":Str))=false:=by kernel_rfl) (he:starEach (e::es) X.env=(false,eval e X.env):: starEach es X.env:=by rfl) (ij:(backTo pos (starEach es X.env)).any (·.1)=false:=by rfl):Uj X (.Call (.Name x p) (e::es) [] pos) (xg sp [] t):=PJ F (hr.mono hj) q.m q.k q.b ha hg mi he ij
theorem E1{X:L2.Cx}{CX:L2.xA}{k:Nat}{sp:L2.Sp}{E:L2.XK}{y:Str}{o:Expr}{ta:L2.TE}{t:L2.TA}{pl:Sem Bool}(he:PE X o ta)(c:z0 X.K C)(q:Mp X.K C m y st ps f fd)(F:g_ X.prog X.w X.K X.mg X.base CX k f fd ps sp)(hr:fE j X.A)(hx:eE CX X E)(ha:PA X (e::es) t)(hj:k<=j:=by first|decide|omega)(ic:starEach (e::es) X.env=(false,eval e X.env):: starEach es X.env:=by rfl)(ij:(backTo pos (starEach es X.env)).any (·.1)=false:=by rfl)(ht:eval (.Call (.Attribute o m apos) (e::es) [] pos) X.env=(do
   let ov <- eval o X.env
   standAt apos.atName
   let (f,first) <- holding [ov] (getMethod ov m pl)
   callWith pos f first (backTo pos (starEach (e::es) X.env)) (backToKw pos (keywordEach [] X.env))):=by rfl):PE X (.Call (.Attribute o m apos) (e::es) [] pos) (vW C m sp [] E ta t):=Mf (pl:=pl) he c q.e F (hr.mono hj) q.b .nil hx ha ic ij ht
theorem gR{X:L2.Cx}{CX:L2.xA}{k:Nat}{sp:L2.Sp}{E:L2.XK}{y:Str}{o:Expr}{ta:L2.TE}{pl:Sem Bool}(he:PE X o ta)(c:z0 X.K C)(q:Mp X.K C m y st ps f fd)(F:g_ X.prog X.w X.K X.mg X.base CX k f fd ps sp)(hr:fE j X.A)(hx:eE CX X E)(hj:k<=j:=by first|decide|omega)(ht:eval (.Call (.Attribute o m apos) [] [] pos) X.env=(do
   let ov <- eval o X.env
   standAt apos.atName
   let (f,first) <- holding [ov] (getMethod ov m pl)
   callWith pos f first (backTo pos (starEach [] X.env)) (backToKw pos (keywordEach [] X.env))):=by rfl):PE X (.Call (.Attribute o m apos) [] [] pos) (vW C m sp [] E ta oK):=Ia (pl:=pl) he c q.e F (hr.mono hj) q.b .nil hx ht
abbrev FM(P:Program)(w:World)(base:Heap)(_:Tp K mg x st ps f fd)(k:Nat)(sp:Sp):=g_ P w K mg base (oT P w) k f fd ps sp
abbrev Fm(P:Program)(w:World)(mg:Str->Option Value)(base:Heap){y:Str}(_:Mp K C x y st ps f fd)(k:Nat)(sp:Sp):=g_ P w K mg base (oT P w) k f fd ps sp
structure Tq(K:W.Frag)(x:Str)(st:Stmt)(f:Addr)(fd:FuncData):Prop where
 F:Cf K x x st f fd
 a:W.nsIn K mainGlobals x=some (some (.ref f))
structure Mq(K:W.Frag)(C:Addr)(x q:Str)(st:Stmt)(f:Addr)(fd:FuncData):Prop where
 F:Cf K x q st f fd
 a:W.findIn K (.ref C) x=some (some (.ref f))
 i:W.isFn K (.ref f)=true
set_option genSizeOf false in
set_option genInjectivity false in
structure l9 where
 a0:Addr
 d0:FuncData
 a1:Addr
 d1:FuncData
 a2:Addr
 d2:FuncData
 a3:Addr
 d3:FuncData
 a4:Addr
 d4:FuncData
 a5:Addr
 d5:FuncData
 a6:Addr
 d6:FuncData
 a7:Addr
 d7:FuncData
 a8:Addr
 d8:FuncData
 a9:Addr
 d9:FuncData
 VH:Addr
 d10:FuncData
 Ue:Addr
 d11:FuncData
 VG:Addr
 d12:FuncData
 VF:Addr
 d13:FuncData
 VE:Addr
 d14:FuncData
 a15:Addr
 d15:FuncData
 a16:Addr
 d16:FuncData
 a17:Addr
 d17:FuncData
 a18:Addr
 d18:FuncData
 a19:Addr
 d19:FuncData
 a20:Addr
 d20:FuncData
 a21:Addr
 d21:FuncData
 a22:Addr
 d22:FuncData
 a23:Addr
 d23:FuncData
 a24:Addr
 d24:FuncData
 a25:Addr
 d25:FuncData
 a26:Addr
 d26:FuncData
 a27:Addr
 d27:FuncData
 a28:Addr
 d28:FuncData
 a29:Addr
 d29:FuncData
 a30:Addr
 d30:FuncData
 a31:Addr
 d31:FuncData
 a32:Addr
 d32:FuncData
 a33:Addr
 d33:FuncData
 a34:Addr
 d34:FuncData
 a35:Addr
 d35:FuncData
 a36:Addr
 d36:FuncData
 a37:Addr
 d37:FuncData
 a38:Addr
 d38:FuncData
 a39:Addr
 d39:FuncData
 a40:Addr
 d40:FuncData
 a41:Addr
 d41:FuncData
 a42:Addr
 d42:FuncData
 a43:Addr
 d43:FuncData
 a44:Addr
 d44:FuncData
 a45:Addr
 d45:FuncData
 a46:Addr
 d46:FuncData
 a47:Addr
 d47:FuncData
 a48:Addr
 d48:FuncData
 a49:Addr
 d49:FuncData
 a50:Addr
 d50:FuncData
 a51:Addr
 d51:FuncData
 a52:Addr
 d52:FuncData
 a53:Addr
 d53:FuncData
 a54:Addr
 d54:FuncData
 a55:Addr
 d55:FuncData
 a56:Addr
 d56:FuncData
 a57:Addr
 d57:FuncData
 a58:Addr
 d58:FuncData
 a59:Addr
 d59:FuncData
 a60:Addr
 d60:FuncData
 a61:Addr
 d61:FuncData
 a62:Addr
 d62:FuncData
 a63:Addr
 d63:FuncData
 a64:Addr
 d64:FuncData
 NW:Addr
 d65:FuncData
 a66:Addr
 d66:FuncData
 Ud:Addr
 d67:FuncData
 Uc:Addr
 d68:FuncData
 K_:Addr
 d69:FuncData
 Ub:Addr
 d70:FuncData
 Ua:Addr
 d71:FuncData
 T_:Addr
 d72:FuncData
 EG:Addr
 d73:FuncData
 a74:Addr
 d74:FuncData
 a75:Addr
 d75:FuncData
 VD:Addr
 d76:FuncData
 VC:Addr
 d77:FuncData
 VA:Addr
 d78:FuncData
 Vz:Addr
 d79:FuncData
 Vy:Addr
 d80:FuncData
 Vx:Addr
 d81:FuncData
 a82:Addr
 d82:FuncData
 Vw:Addr
 d83:FuncData
 a84:Addr
 d84:FuncData
 Vv:Addr
 d85:FuncData
 a86:Addr
 d86:FuncData
 a87:Addr
 d87:FuncData
 a88:Addr
 d88:FuncData
 a89:Addr
 d89:FuncData
 a90:Addr
 d90:FuncData
 a91:Addr
 d91:FuncData
 a92:Addr
 d92:FuncData
 a93:Addr
 d93:FuncData
 a94:Addr
 d94:FuncData
 a95:Addr
 d95:FuncData
 a96:Addr
 d96:FuncData
 a97:Addr
 d97:FuncData
 a98:Addr
 d98:FuncData
 a99:Addr
 d99:FuncData
 Ug:Addr
 T8:FuncData
 Yt:Addr
 Ye:FuncData
 Ys:Addr
 Yd:FuncData
 Yr:Addr
 Yc:FuncData
 Yq:Addr
 Yb:FuncData
 Yp:Addr
 Ya:FuncData
 Yo:Addr
 X_:FuncData
 Yn:Addr
 X':FuncData
 Ym:Addr
 X9:FuncData
 Yl:Addr
 X8:FuncData
 Yk:Addr
 X7:FuncData
 Yj:Addr
 X6:FuncData
 Yi:Addr
 X5:FuncData
 Yh:Addr
 X4:FuncData
 Yg:Addr
 d114:FuncData
 (zaU zk zH zh zi zj zO zP zG zF zaV za zc zb:Addr)
 (zau zav zat zaw zax zay:Tok)
 (zJ zu zo zI zz:Addr)
structure Txt(P:Program)(w:World)(K:W.Frag)(mg:Str->Option Value)(t:l9):Prop where
 q0:Tp K mg "is_letter" S0 ["sign"] t.a0 t.d0
 q1:Tp K mg "is_name" S1 ["text"] t.a1 t.d1
 q2:Tp K mg "parts_of" S2 ["tree"] t.a2 t.d2
 q3:Tp K mg "layer_below" S3 ["layer"] t.a3 t.d3
 q4:Tp K mg "depth" S4 ["tree"] t.a4 t.d4
 q5:Tp K mg "names_in" S5 ["tree"] t.a5 t.d5
 q6:Tp K mg "bit_at" S6 ["number","place"] t.a6 t.d6
 q8:Tp K mg "need_names" S8 ["names","tree"] t.a8 t.d8
 q9:Tp K mg "sides" S9 ["tree","of_names","every"] t.a9 t.d9
 q10:Tp K mg "turned_about" S10 ["side"] t.VH t.d10
 q11:Tp K mg "joined" YV ["kind","left","right"] t.Ue t.d11
 q12:Tp K mg "full" S12 ["names"] t.VG t.d12
 q13:Tp K mg "worlds_with" S13 ["names","place"] t.VF t.d13
 q14:Tp K mg "sides_of_names" S14 ["names","known_ones"] t.VE t.d14
 q15:Tp K mg "table" S15 ["names","tree"] t.a15 t.d15
 q16:Tp K mg "breaking" S16 ["names","tree"] t.a16 t.d16
 q17:Tp K mg "flat" S17 ["names"] t.a17 t.d17
 q18:Tp K mg "least_rank" S18 ["ranks","worlds"] t.a18 t.d18
 q19:Tp K mg "firmness" S19 ["mind","tree"] t.a19 t.d19
 q20:Tp K mg "held" S20 ["mind","tree"] t.a20 t.d20
 q21:Tp K mg "both_leasts" S21 ["mind","tree"] t.a21 t.d21
 q22:Tp K mg "leaning" S22 ["mind","tree"] t.a22 t.d22
 q23:Tp K mg "less_the_least" S23 ["marks"] t.a23 t.d23
 q24:Tp K mg "need_alike" S24 ["minds"] t.a24 t.d24
 q25:Tp K mg "poured" S25 ["pairs"] t.a25 t.d25
 q26:Tp K mg "is_nearest_in_all" S26 ["minds","world"] t.a26 t.d26
 q27:Tp K mg "common" S27 ["minds"] t.a27 t.d27
 q28:Tp K mg "turned" S28 ["mind","tree","lean"] t.a28 t.d28
 q29:Tp K mg "given_up" S29 ["mind","tree"] t.a29 t.d29
 q30:Tp K mg "taken_on" S30 ["mind","tree","firm"] t.a30 t.d30
 q33:Mp K t.za "__init__" "Log.__init__" S33 ["self","names"] t.a33 t.d33
 q34:Mp K t.za "stand" "Log.stand" S34 ["self","behind"] t.a34 t.d34
 q35:Mp K t.za "take" "Log.take" S35 ["self","tree","firm"] t.a35 t.d35
 q36:Mp K t.za "give" "Log.give" S36 ["self","tree"] t.a36 t.d36
 q37:Mp K t.za "turn" "Log.turn" S37 ["self","tree","lean"] t.a37 t.d37
 q38:Mp K t.za "pour" "Log.pour" S38 ["self","pairs"] t.a38 t.d38
 q39:Mp K t.za "back" "Log.back" S39 ["self"] t.a39 t.d39
 q40:Mp K t.za "again" "Log.again" S40 ["self"] t.a40 t.d40
 q41:Mp K t.za "mind" "Log.mind" S41 ["self"] t.a41 t.d41
 q43:Mp K t.za "backs" "Log.backs" S43 ["self"] t.a43 t.d43
 q44:Mp K t.za "agains" "Log.agains" S44 ["self"] t.a44 t.d44
 q45:Tp K mg "words_of" S45 ["text"] t.a45 t.d45
 q46:Tp K mg "leaf" S46 ["word"] t.a46 t.d46
 q47:Tp K mg "takes_part" S47 ["earlier","later"] t.a47 t.d47
 q48:Mp K t.zc "__init__" "Unfinished.__init__" S48 ["self"] t.a48 t.d48
 q49:Mp K t.zc "begin_part" "Unfinished.begin_part" S49 ["self","word"] t.a49 t.d49
 q50:Mp K t.zc "follow_part" "Unfinished.follow_part" YU ["self","word"] t.a50 t.d50
 q51:Mp K t.zc "fold" "Unfinished.fold" S51 ["self"] t.a51 t.d51
 q52:Mp K t.zc "fold_to_bracket" "Unfinished.fold_to_bracket" S52 ["self"] t.a52 t.d52
 q53:Mp K t.zc "close_bracket" "Unfinished.close_bracket" S53 ["self"] t.a53 t.d53
 q54:Mp K t.zc "whole" "Unfinished.whole" S54 ["self"] t.a54 t.d54
 q55:Tp K mg "tree_of_words" S55 ["words"] t.a55 t.d55
 q56:Tp K mg "read" S56 ["text"] t.a56 t.d56
 q57:Tp K mg "rows_in" S57 ["text"] t.a57 t.d57
 q58:Tp K mg "words_in" S58 ["text"] t.a58 t.d58
 q59:Tp K mg "first_word" S59 ["text"] t.a59 t.d59
 q60:Tp K mg "behind_first_word" S60 ["text"] t.a60 t.d60
 q61:Tp K mg "is_figure" S61 ["sign"] t.a61 t.d61
 q62:Tp K mg "number_in" S62 ["word"] t.a62 t.d62
 q63:Tp K mg "number_above_0" S63 ["word"] t.a63 t.d63
 q64:Tp K mg "lean_in" S64 ["word"] t.a64 t.d64
 q65:Tp K mg "names_form" S65 ["text"] t.NW t.d65
 q66:Tp K mg "numbered_form" S66 ["number","text"] t.a66 t.d66
 q67:Tp K mg "take_form" YT ["text"] t.Ud t.d67
 q68:Tp K mg "lean_form" YS ["text"] t.Uc t.d68
 q69:Tp K mg "sentence_form" YR ["text"] t.K_ t.d69
 q70:Tp K mg "lost_form" YQ ["text"] t.Ub t.d70
 q71:Tp K mg "keep_form" YO ["text"] t.Ua t.d71
 q72:Tp K mg "pour_form" YN ["text"] t.T_ t.d72
 q73:Tp K mg "bare_form" YM ["text"] t.EG t.d73
 q74:Tp K mg "form_of" YL ["row"] t.a74 t.d74
 q75:Mp K t.zb "__init__" "Course.__init__" YK ["self","names"] t.a75 t.d75
 q76:Tp K mg "do_take" YJ ["course","firm","trees"] t.VD t.d76
 q77:Tp K mg "do_give" YI ["course","told","trees"] t.VC t.d77
 q78:Tp K mg "do_lean" YH ["course","lean","trees"] t.VA t.d78
 q79:Tp K mg "do_pour" YG ["course","pairs","trees"] t.Vz t.d79
 q80:Tp K mg "do_back" YF ["course","told","trees"] t.Vy t.d80
 q81:Tp K mg "do_again" YE ["course","told","trees"] t.Vx t.d81
 q82:Tp K mg "shown_world" S82 ["names","world"] t.a82 t.d82
 q83:Tp K mg "answer_ask" YD ["mind","trees"] t.Vw t.d83
 q85:Tp K mg "answer_worlds" YC ["mind","trees"] t.Vv t.d85
 q86:Tp K mg "do_row" YB ["course","form"] t.a86 t.d86
 q87:Tp K mg "lacks_a_mind" S87 ["course","form"] t.a87 t.d87
 q88:Tp K mg "word_against" YA ["course","form"] t.a88 t.d88
 q89:Tp K mg "names_told" Yz ["rows"] t.a89 t.d89
 q90:Tp K mg "run" Yy ["text"] t.a90 t.d90
 q91:Tp K mg "_law_cell_at" Yx ["_law_script","_law_k"] t.a91 t.d91
 q92:Tp K mg "_law_whole" S92 ["_law_found"] t.a92 t.d92
 q93:Tp K mg "_law_mixed" S93 ["_law_cell","_law_k"] t.a93 t.d93
 q94:Tp K mg "_law_names_by" S94 ["_law_cell","_law_many"] t.a94 t.d94
 q95:Tp K mg "_law_tree_by" Yw ["_law_names","_law_cell","_law_deep"] t.a95 t.d95
 q96:Tp K mg "_law_column" S96 ["_law_many","_law_place"] t.a96 t.d96
 q97:Tp K mg "_law_table" Yv ["_law_names","_law_tree"] t.a97 t.d97
 q98:Tp K mg "_law_is_mind" S98 ["_law_found","_law_names"] t.a98 t.d98
 q99:Tp K mg "_law_sides" S99 ["_law_ranks","_law_told"] t.a99 t.d99
 q100:Tp K mg "_law_written" Jp ["_law_tree"] t.Ug t.T8
 q101:Tp K mg "_law_plan_by" Jq ["_law_names","_law_cell","_law_k","_law_counts"] t.Yt t.Ye
 q102:Tp K mg "_law_word_by" Qg ["_law_m"] t.Ys t.Yd
 q103:Tp K mg "_law_pairs_by" Qh ["_law_m","_law_kept"] t.Yr t.Yc
 q104:Tp K mg "_law_counted" Jr ["_law_counts","_law_plan"] t.Yq t.Yb
 q105:Tp K mg "_law_plans_by" Js ["_law_names","_law_cells"] t.Yp t.Ya
 q106:Tp K mg "_law_row_of" Jt ["_law_plan"] t.Yo t.X_
 q107:Tp K mg "_law_text_of" Ju ["_law_names","_law_plans"] t.Yn t.X'
 q108:Tp K mg "_law_run_fits" Qi ["_law_found","_law_answers","_law_deeds"] t.Ym t.X9
 q109:Tp K mg "_law_told_names" Qj ["_law_script"] t.Yl t.X8
 q110:Tp K mg "_law_world_text" Qk ["_law_names","_law_world"] t.Yk t.X7
 q111:Tp K mg "_law_worlds_text" Ql ["_law_mind"] t.Yj t.X6
 q112:Tp K mg "_law_ask_fits" Jv ["_law_mind","_law_tree","_law_answer"] t.Yi t.X5
 q113:Tp K mg "_law_row_fits" Qm ["_law_plan","_law_standing","_law_undone","_law_mind"] t.Yh t.X4
 q114:Tp K mg "law" Jw ["_law_script"] t.Yg t.d114
 zx:mg "NoSentence"=some (.ref t.zk)
 zar:fe K t.zk=true
 zA:W.excIn K t.zk uj "ValueError.__new__"=true
 Za:mg "TooDeep"=some (.ref t.zH)
 zas:fe K t.zH=true
 zam:W.excIn K t.zH uj "ValueError.__new__"=true
 Zb:mg "NoName"=some (.ref t.zh)
 zaq:fe K t.zh=true
 zal:W.excIn K t.zh uj "ValueError.__new__"=true
 zQ:mg "Always"=some (.ref t.zi)
 zV:fe K t.zi=true
 zag:W.excIn K t.zi uj "ValueError.__new__"=true
 Y9:under K t.zi t.zi=true
 zS:mg "Never"=some (.ref t.zj)
 zW:fe K t.zj=true
 zah:W.excIn K t.zj uj "ValueError.__new__"=true
 zaT:under K t.zj t.zi=false
 Y8:under K t.zj t.zj=true
 zaJ:mg "NoMinds"=some (.ref t.zO)
 zak:W.excIn K t.zO uj "ValueError.__new__"=true
 zaL:mg "Unlike"=some (.ref t.zP)
 zan:W.excIn K t.zP uj "ValueError.__new__"=true
 zZ:mg "NoBack"=some (.ref t.zG)
 zap:fe K t.zG=true
 zaj:W.excIn K t.zG uj "ValueError.__new__"=true
 zY:mg "NoAgain"=some (.ref t.zF)
 zao:fe K t.zF=true
 zai:W.excIn K t.zF uj "ValueError.__new__"=true
 zaF:mg "Log"=some (.ref t.za)
 ze:z0 K t.za
 zaN:Mk K t.za t.a33
 zB:iL K t.za "standing"
 zE:iL K t.za "taken_back"
 zaK:mg "Unfinished"=some (.ref t.zc)
 zf:z0 K t.zc
 zaO:Mk K t.zc t.a48
 zy:iL K t.zc "trees"
 zm:iL K t.zc "signs"
 zaz:mg "Course"=some (.ref t.zb)
 zg:z0 K t.zb
 zaM:Mk K t.zb t.a75
 zq:iL K t.zb "log"
 zN:iL K t.zb "kept"
 zT:iL K t.zb "answers"
 zU:iL K t.zb "minds_behind"
 zaD:mg "LONGEST_NAME"=some (.int 8 t.zau)
 zaE:mg "LONGEST_TEXT"=some (.int 200 t.zav)
 zaB:mg "GREATEST_DEPTH"=some (.int 40 t.zat)
 zaG:mg "MOST_FIGURES"=some (.int 30 t.zaw)
 zaH:mg "MOST_NAMES"=some (.int 8 t.zax)
 zaI:mg "MOST_PAIRS"=some (.int 10 t.zay)
 zaC:mg "KINDS"=some (.ref t.zJ)
 zJ:ya P w K t.zJ [(.inr "&",.str "and"),(.inr "|",.str "or"),(.inr ">",.str "then"),(.inr "=",.str "same")]
 zR:mg "BINDS"=some (.ref t.zu)
 zu:ya P w K t.zu [(.inr "&",.int 4),(.inr "|",.int 3),(.inr ">",.int 2),(.inr "=",.int 1)]
 zK:mg "FORMS"=some (.ref t.zo)
 zo:ya P w K t.zo [(.inr "names",.ref t.NW),(.inr "take",.ref t.Ud),(.inr "give",.ref t.K_),(.inr "lean",.ref t.Uc),(.inr "keep",.ref t.Ua),(.inr "pour",.ref t.T_),(.inr "back",.ref t.EG),(.inr "again",.ref t.EG),(.inr "ask",.ref t.K_),(.inr "lost",.ref t.Ub),(.inr "worlds",.ref t.EG)]
 zaA:mg "DEEDS"=some (.ref t.zI)
 zI:ya P w K t.zI [(.inr "take",.ref t.VD),(.inr "give",.ref t.VC),(.inr "lean",.ref t.VA),(.inr "pour",.ref t.Vz),(.inr "back",.ref t.Vy),(.inr "again",.ref t.Vx)]
 zX:mg "ANSWERS"=some (.ref t.zz)
 zz:ya P w K t.zz [(.inr "ask",.ref t.Vw),(.inr "lost",.ref t.a84),(.inr "worlds",.ref t.Vv)]
 zC:mg "all"=none
 zaP:mg "any"=none
 zaQ:mg "bool"=none
 zw:mg "enumerate"=none
 zL:mg "int"=none
 zr:mg "isinstance"=none
 zd:mg "len"=none
 zM:mg "list"=none
 Y_:mg "max"=none
 zD:mg "min"=none
 zp:mg "range"=none
 zaR:mg "sorted"=none
 zt:mg "str"=none
 zaS:mg "sum"=none
 zn:mg "tuple"=none
 Y':mg "zip"=none
 bl:∀(s:Shared) (u:Value),BindsTo s t.d114 ⟨[u],[]⟩ [("_law_script",u)]
end K68
seal L2.PE L2.PT L2.PW L2.PA L2.PS L2.y6 L2.PG L2.Pf L2.PI L2.PC L2.PO L2.Pe
open PyProof.Rows
namespace K68
open PySem L2 Mc
inductive LY(K:W.Frag)(vs:List V)(H:Hp)(Q:VK)(E:XK):Prop
 |mk(a:Addr)(ns:List Int)(k:Int)(_:vs=[.ref a,.int k])(_:b3 K H a (ns.map V.int))(_:0<=k)(_:Q (.int (ns.getD k.toNat 0)) H)
section
variable{t:l9}
abbrev FO(P:Program)(w:World)(K:W.Frag)(mg:Str->Option Value)(base:Heap):=g_ P w K mg base (oT P w)
theorem Qo:ck ["_law_script","_law_k"] ["_law_script","_law_k"] (aR Yx):=eP
theorem M8(T:Txt P w K mg t):FM P w base T.q91 1 (LY K):=by
 refine T.q91.F.UD Qo (fun j_ A outer s H vs Q E hr h=>?_);obtain⟨a,ns,k,rfl,hS,hk,q⟩:=h
 refine⟨_,(aq (aO (aF ni (O 1) (aY aX T.zd Bt.len (aa (O 0) aj)) (aH _))
    (au (aC (cy bj (O 0) (O 1))))
    aM)
   (au (aC ak))),?_⟩
 refine⟨_,Z,_,Z,a,_,Z,.inl hS,_,_,Z,Z,_,Z,?_⟩;refine aN (fun e=>?_) (fun e=>?_)
 .have e:k<((ns.map V.int).length:Nat):=eS e
  rw[dn]at e;refine⟨_,Z,_,Z,a,_,k,.int (ns.getD k.toNat 0),Z,Z,hS,qQ hk ?_,q⟩;rw[lS];have:k.toNat<ns.length:=G
  rw[List.getElem?_eq_getElem this];simp[List.getD,List.getElem?_eq_getElem this]
 have e:¬k<((ns.map V.int).length:Nat):=fun z=>e (cK z)
 rw[dn]at e
 have z:ns.getD k.toNat 0=0:=by
  rw[List.getD,List.getElem?_eq_none G]
  rfl
 rw[z]at q;exact q
theorem lkB(h:n<=100000):n<=sizeLine:=gV h b4
theorem nJ(o:Op):¬o.str=("yes":Str)/\¬o.str=("no":Str)/\¬o.str=("not":Str)/\¬o.str=("name":Str):=by cases o<;>decide +kernel
theorem Lh{t:Tr} (h:V.str t.tag=V.str ("name":Str)):∃ x,t=.nm x:=by
 have:=(kZ t).mp (V.str.inj h);cases t<;>first|exact⟨_,Z⟩|cases this
theorem Gd{t:Tr} (h:V.str t.tag=V.str ("yes":Str)):t=.yes:=by
 have h:=V.str.inj h;cases t with
 |yes=>rfl
 |nm x=>exact absurd (show("name":Str)="yes" from h) dk
 |no=>exact absurd (show("no":Str)="yes" from h) dk
 |not u=>exact absurd (show("not":Str)="yes" from h) dk
 |bin o a b=>exact absurd (show o.str=("yes":Str)from h) (nJ o).1
theorem Li{t:Tr} (h:V.str t.tag=V.str ("no":Str)):t=.no:=by
 have h:=V.str.inj h;cases t with
 |no=>rfl
 |nm x=>exact absurd (show("name":Str)="no" from h) dk
 |yes=>exact absurd (show("yes":Str)="no" from h) dk
 |not u=>exact absurd (show("not":Str)="no" from h) dk
 |bin o a b=>exact absurd (show o.str=("no":Str)from h) (nJ o).2.1
theorem pY{o o':Op}(h:V.str o.str=V.str o'.str):o=o':=by
 have h:=V.str.inj h;cases o<;>cases o'<;>first|rfl|exact absurd h dk
theorem CJ{o:Op}{x y:Tr}(h:eD H (.ref a) (.bin o x y)):∃ v u,H a=some (.tup [.str o.str,v,u])/\eD H v x/\eD H u y:=by
 cases h with
 |bin e h1 h2=>exact⟨_,_,e,h1,h2⟩
theorem CK{x:Tr}(h:eD H (.ref a) (.not x)):∃ v,H a=some (.tup [.str "not",v])/\eD H v x:=by
 cases h with
 |not e h1=>exact⟨_,e,h1⟩
theorem Jx(h:eD H (.ref a) (.nm x)):H a=some (.tup [.str "name",.str x]):=by
 cases h with
 |nm e=>exact e
inductive FL(vs:List V)(H:Hp)(Q:VK)(E:XK):Prop
 |mk(v t:_)(_:vs=[v])(_:eD H v t)(_:∀(l:Addr)(us:List V)(J:Hp),H l=none->J l=some (.lst us)->bb H J->Paired (eD J) us t.kids->Q (.ref l) J)
inductive GL(vs:List V)(H:Hp)(Q:VK)(E:XK):Prop
 |mk(a:Addr)(us:List V)(ts:List Tr)(_:vs=[.ref a])(_:H a=some (.lst us))(_:Paired (eD H) us ts)(_:dN ts<=100000)(_:∀(l:Addr)(ws:List V)(J:Hp),H l=none->J l=some (.lst ws)->bb H J->Paired (eD J) ws (ts.flatMap Tr.kids)->Q (.ref l) J)
inductive GB(vs:List V)(H:Hp)(Q:VK)(E:XK):Prop
 |mk(v t:_)(_:vs=[v])(_:eD H v t)(_:t.size<=100000)(_:∀ J,bb H J->Q (.int t.depth) J)
theorem AJ:ck ["tree"] ["tree"] (aR S2):=eP
theorem Jy(T:Txt P w K mg t):FM P w base T.q2 1 FL:=by
 refine T.q2.F.UD AJ (fun j_ A outer s H vs Q E hr h=>?_);obtain⟨v,tr,rfl,ht,k⟩:=h;obtain⟨a,rest,rfl,ha,IB,xp⟩:=ht.open;have nd:=AJ.nd
 refine⟨_,(aq (aO (aF aV (cy aJ (pv 0) ak) az (aH _))
    (au (aC (bx aj)))
    aM)
   (au (aC (uN wO rfl T.zM Bt.list (aa (iG Pa (pv 0) (iM ak) j9) aj))))),?_⟩
 refine⟨_,Z,a,_,0,.str tr.tag,Z,Z,SqT.of ha,bh (j:=0) rfl,Z,_,Z,?_⟩;refine aN (fun e=>?_) (fun e=>?_)
 .have e:V.str tr.tag=V.str "name":=eS e
  have e:=(kZ tr).mp (V.str.inj e);obtain⟨x,rfl,_⟩:=IB e;exact⟨mr _,fun l hl=>k l [] _ hl ao (aA hl) .nil⟩
 have e:¬V.str tr.tag=V.str "name":=fun z=>e (cK z)
 have e:tr.isNm=false:=by
  cases q:tr.isNm with
  |false=>rfl
  |true=>exact absurd (b_ V.str ((kZ tr).mpr q)) e
 have hk:=xp e;refine⟨_,Z,_,Z,a,_,Z,SqT.of ha,xK _ _,fun p hp=>⟨p,_,Z,.inr (SqT.of ao),fun l hl=>?_⟩⟩;rw[Jk]at hl ⊢;exact k l rest _ (FP (aA hp) hl) ao ((aA hp).trans (aA hl)) (dC ((aA hp).trans (aA hl)).tups hk)
theorem xM(T:Txt P w K mg t):FM P w base T.q3 2 GL:=by
 refine T.q3.F.fk (N:=["layer","below","tree"]) eP ?_;rintro nd _ _ _ _ H vs Q E hr ⟨a,us,ts,rfl,ha,hp,hsz,k⟩
 refine⟨_,(aq (iU (i:=1) nd rfl E2 (bx aj))
   (aq (fM l_ rfl (bU (pv 0)) (pP (i:=2) nd rfl E2)
    (au (bw (bY PySem.F.plainAttrs_list PySem.F.slot_list_extend PySem.F.type_list_extend Ek (pv 1) (aa (pR (Jy T) (hr.mo) rfl T.q2.m T.q2.k T.q2.b .nil aK (aa (pv 2) aj)) aj)))))
   (au (aC (pv 1))))),?_⟩
 refine⟨mr _,fun b hb=>?_⟩;have AX:a≠b:=aG ha hb;have s0:bb H (upd H b (.lst [])):=aA hb
 refine⟨_,rfl,a,rfl,⟨_,b3.of (s0 _ _ ha)⟩,gf (K:=K) (a:=a) (xs:=us)
  (fun i M H2=>∃(ws:List V)(v:Option V),M=[some (.ref a),some (.ref b),v]/\bb H H2/\H2 b=some (.lst ws)/\Paired (eD H2) ws ((ts.take i).flatMap Tr.kids))
  ⟨[],none,rfl,s0,ao,.nil⟩ (fun i M H2 _ ⟨_,_,_,s2,_⟩=>b3.of (s2 _ _ ha)) ?_ ?_⟩
 .rintro i y M H2 hi ⟨ws,v,rfl,s2,NG,hw⟩
  obtain⟨tr,xI,hy⟩:=bD hp i y hi;refine⟨_,Z,.inl ⟨Z,_,b3.of NG⟩,_,Z,y,tr,Z,hy.mono s2.tups,fun l Ll H3 hl D8 s3 KO=>?_⟩
  have hlen:ws.length+Ll.length<=100000:=by
   have e1:=a_ hw;have e2:=a_ KO
   have MR:ts=ts.take i++tr::ts.drop (i+1):=by
    have h1:=List.take_append_drop i ts
    have h2:ts.drop i=tr::ts.drop (i+1):=by
     obtain⟨fS,he⟩:=List.getElem?_eq_some_iff.mp xI;rw[js fS,he]
    rw[<- h2,h1]
   have e3:=jA ts;have e4:(ts.flatMap Tr.kids).length <= dN (ts.flatMap Tr.kids):=sI _
   have e5:(ts.flatMap Tr.kids).length=((ts.take i).flatMap Tr.kids).length+(tr.kids.length+((ts.drop (i+1)).flatMap Tr.kids).length):=by
    conv=>lhs;rw[MR]
    rw[List.flatMap_append,gN,af,af]
   exact G
  have ub:b≠l:=aG NG hl;have Vf:H3 b=some (.lst ws):=s3 _ _ NG;refine⟨b,l,ws,Ll,Z,Z,Vf,D8,gV hlen b4,?_⟩;refine⟨ws++Ll,_,Z,fun c o e=>?_,ao,?_⟩
  .rw[aB (fun z=>by subst z;rw[hb]at e;cases e)]
   exact s3 _ _ (s2 _ _ e)
  have e6:ts.take (i+1)=ts.take i++[tr]:=by
   rw[rh,xI]
   rfl
  rw[e6,List.flatMap_append,gN,Co,cn];exact dC (iK Vf) (bJ (dC s3.tups hw) KO)
 rintro M H2 ⟨ws,v,rfl,s2,NG,hw⟩;refine⟨_,Z,?_⟩;have e:=a_ hp;rw[e,bE]at hw;exact k b ws H2 hb NG s2 hw
inductive FX(vs:List V)(H:Hp)(Q:VK)(E:XK):Prop
 |mk(v t:_)(_:vs=[v])(_:eD H v t)(_:t.size<=100000)(_:(∃ L:List Str,L.length<64/\∀ x∈t.names,x∈L))(_:∀(l:Addr)(ys:List Str)(J:Hp),H l=none->J l=some (.lst (ys.map V.str))->bb H J->sortedS ys=true->ys.Nodup->(∀ x,x∈ys↔x∈t.names)->Q (.ref l) J)
theorem Jz(T:Txt P w K mg t):FM P w base T.q5 3 FX:=by
 refine T.q5.F.fk (N:=["tree","found","layer","part"]) eP ?_;rintro nd _ _ _ _ H _ _ _ hr ⟨v,tr,rfl,ht,hsz,⟨L,hL,DZ⟩,k⟩;have hu:=fc hr
 refine ⟨_,(aq (iU (i:=1) nd rfl E2 qO)
   (aq (iU (i:=2) nd rfl E2 (bx (aa (pv 0) aj)))
   (aq (kj l_ (iD (pv 2) (fun _=>rfl))
    (aq (fM l_ rfl (bU (pv 2)) (pP (i:=3) nd rfl E2)
     (au (aO (aF aV (cy aJ (pv 3) ak) az (aH _))
      (au (ud hu (pv 1) (cy aJ (pv 3) ak) eF rfl))
      aM)))
    (au (iU (i:=2) nd rfl E2 (pR (xM T) (hr.mo) rfl T.q3.m T.q3.k T.q3.b .nil aK (aa (pv 2) aj))))))
   (au (aC (wM (wY rfl) rfl T.zaR Bt.sorted (aa (pv 1) aj))))))),?_⟩
 intro d hd;refine⟨_,Z,(lk obz),fun l hl=>?_⟩;have Xl:d≠l:=fun z=>by subst z;rw[ao]at hl;cases hl
 have SD:H l=none:=(aA hd).free hl
 let St0:Nat->L2.St->Hp->Prop:=fun m M H2=>∃(l:Addr)(us:List V)(ts:List Tr)(kvs:List (Key×V))(ys:List Str)(pv:Option V),M=[some v,some (.ref d),some (.ref l),pv]/\bb H H2/\H2 l=some (.lst us)/\Paired (eD H2) us ts/\dN ts<=100000 /\
  H2 d=some (.dK kvs)/\kvs.map (·.1)=ys.map Sum.inr/\ys.Nodup/\(∀ x,x∈tr.names↔x∈ys\/x∈du ts)/\m=dN ts
 have ZD:∀{ys:List Str},ys.Nodup->(∀ x∈ys,x∈tr.names)->ys.length<64:=fun {ys} h1 h2=>ky (lu h1 fun x hx=>DZ x (h2 x hx)) hL
 refine⟨St0,⟨_,l,[v],[tr],[],[],none,Z,(aA hd).trans (aA hl),ao,.cons (ht.mono ((aA hd).trans (aA hl)).tups) .nil,?_,?_,Z,List.nodup_nil,?_,Z⟩,?_⟩
 .show tr.size+0<=100000
  exact G
 .rw[aB Xl,ao]
 .intro x
  simp[du]
 rintro m M H2 ⟨l,us,ts,kvs,ys,pv,rfl,s2,l8,hp,hz,hd2,hk,lj,ot,rfl⟩;refine⟨_,Z,_,.inl ⟨us,b3.of l8,Z⟩,?_⟩;cases us with
 | nil =>
  cases hp;refine bz ?_
  have Kt:∀ x,x∈tr.names↔x∈ys:=fun x=>by
   have:=ot x
   simpa[du]using this
  refine⟨_,Z,d,kvs,ys,Z,hd2,hk,ZD lj fun x hx=>(Kt x).mpr hx,fun l' ys' CH OL BI=>?_⟩;exact k l' ys' _ (s2.free CH) ao (s2.trans (aA CH)) BI (OL.nodup_iff.mpr lj) fun x=>by rw[OL.mem_iff,Kt x]
 | cons u us =>
  refine bN ?_;refine⟨fun σ' J=>∃ m',m'<dN ts/\St0 m' σ' J,fun _ _ h=>h,?_⟩
  have hne:ts≠[]:=by
   intro z;subst z;cases hp
  have hlp:=a_ hp;have U':l≠d:=fun z=>by subst z;rw[l8]at hd2;cases hd2
  refine⟨_,rfl,l,rfl,⟨_,b3.of l8⟩,gf (K:=K) (a:=l) (xs:=u::us)
   (fun i M H3=>∃(kvs:List (Key×V))(zs:List Str)(pv:Option V),M=[some v,some (.ref d),some (.ref l),pv]/\(∀ b o,H2 b=some o->b≠d->H3 b=some o)/\H3 d=some (.dK kvs)/\kvs.map (·.1)=zs.map Sum.inr/\zs.Nodup /\
    (∀ x,x∈zs↔x∈ys\/Tr.nm x∈ts.take i))
   ⟨kvs,ys,pv,rfl,fun _ _ h _=>h,hd2,hk,lj,fun x=>by simp⟩ (fun i M H3 _ ⟨_,_,_,_,s3,_⟩=>b3.of (s3 _ _ l8 U')) ?_ ?_⟩
  .rintro i y M H3 hi ⟨kvs,zs,pv,rfl,s3,Vc,KO,ON,BS⟩
   obtain⟨ty,BF,hy⟩:=bD hp i y hi;obtain⟨a,rest,rfl,ha,IB,xp⟩:=hy.open;have had:a≠d:=fun z=>by subst z;rw[ha]at hd2;cases hd2
   have _c:=s3 _ _ ha had
   have e6:ts.take (i+1)=ts.take i++[ty]:=by
    rw[rh,BF]
    rfl
   have nS:∀ x,Tr.nm x∈ts.take (i+1)->x∈tr.names:=fun x hx=>(ot x).mpr (.inr ((o7 ts x).mpr (.inl (s_ hx))))
   refine⟨_,Z,a,_,0,.str ty.tag,Z,Z,SqT.of _c,bh (j:=0) rfl,Z,_,Z,?_⟩;refine aN (fun e=>?_) (fun e=>?_)
   .have e:V.str ty.tag=V.str "name":=eS e
    have e:=(kZ ty).mp (V.str.inj e);obtain⟨x,rfl,rfl⟩:=IB e
    have hlen:zs.length<64:=ZD ON fun x hx=>by
     rcases(BS x).mp hx with h|h
     .exact(ot x).mpr (.inl h)
     exact nS x (by rw[e6];exact w9 _ h)
    have hlk:kvs.length=zs.length:=by
     have:=b_ List.length KO
     rwa [dn,dn]at this
    refine⟨_,Z,_,Z,a,_,1,.str x,Z,Z,SqT.of _c,Z,d,_,Z,xy.k (k:=Sum.inr x) Vc (cO G),?_⟩;refine⟨_,if x∈zs then zs else zs++[x],_,Z,fun b o h hb=>?_,ao,FQ KO x _,?_,fun z=>?_⟩
    .rw[aB hb]
     exact s3 b o h hb
    .split
     .exact ON
     exact Cw ON (by assumption)
    rw[e6,aT,aI,Tr.nm.injEq]
    by_cases hx:x∈zs
    .rw[qp hx,BS z]
     constructor
     .rintro(h|h)
      .exact .inl h
      exact .inr (.inl h)
     rintro(h|h|h)
     .exact .inl h
     .exact .inr h
     subst h;exact(BS z).mp hx
    rw[bX hx,aT,aI,BS z]
    constructor
    .rintro((h|h)|h)
     .exact .inl h
     .exact .inr (.inl h)
     exact .inr (.inr h)
    rintro(h|h|h)
    .exact .inl (.inl h)
    .exact .inl (.inr h)
    exact .inr h
   have e:¬V.str ty.tag=V.str "name":=fun z=>e (cK z)
   have e:ty.isNm=false:=by
    cases q:ty.isNm with
    |false=>rfl
    |true=>exact absurd (b_ V.str ((kZ ty).mpr q)) e
   refine⟨kvs,zs,_,Z,s3,Vc,KO,ON,fun z=>?_⟩;rw[BS z,e6,aT,aI]
   constructor
   .rintro(h|h)
    .exact .inl h
    exact .inr (.inl h)
   rintro(h|h|h)
   .exact .inl h
   .exact .inr h
   subst h;cases e
  rintro M H3 ⟨kvs,zs,pv,rfl,s3,Vc,KO,ON,BS⟩;have t3:gc H2 H3:=fun b xs h=>s3 b _ h (fun z=>by subst z;rw[hd2]at h;cases h)
  have BN:=dC t3 hp;rw[hlp,bE]at BS;refine⟨_,Z,l,u::us,ts,Z,s3 _ _ l8 U',BN,hz,fun l' ws J hn CH s' OL=>?_⟩;have e2:=jA ts;have e3:0<ts.length:=vi.mpr hne;refine⟨_,G,l',ws,ts.flatMap Tr.kids,kvs,zs,_,Z,fun b o h=>s' b o (s3 b o (s2 b o h) (aG h hd)),CH,OL,G,s' _ _ Vc,KO,ON,fun x=>?_,Z⟩;rw[ot x,BS x,o7 ts x,or_assoc]
def vF(H:Hp)(a:Addr)(x:Nat×Nat):Prop:=H a=some (.tup [.int x.1,.int x.2])
theorem vF.mono{x:Nat×Nat}(s:bb H J)(h:vF H a x):vF J a x:=s _ _ h
theorem vF.tups{x:Nat×Nat}(s:gc H J)(h:vF H a x):vF J a x:=s _ _ h
inductive A_(vs:List V)(H:Hp)(Q:VK)(E:XK):Prop
 |mk(a x:_)(_:vs=[.ref a])(_:vF H a x)(_:∀ q J,bb H J->vF J q (x.2,x.1)->Q (.ref q) J)
inductive DC(n:Nat)(vs:List V)(H:Hp)(Q:VK)(E:XK):Prop
 |mk(o a b x y:_)(_:vs=[.str (Op.str o),.ref a,.ref b])(_:1<=n)(_:(o=.thn -> 2<=n))(_:vF H a x)(_:vF H b y)(_:∀ q J,bb H J->vF J q (pW o x y)->Q (.ref q) J)
def Tells(H:Hp)(kvs:List (Key×V))(f:Str->Nat×Nat)(xs:List Str):Prop:=∀ x∈xs,∃ q,bR kvs (.inr x)=some (.ref q)/\vF H q (f x)
theorem Tells.mono{f:Str->Nat×Nat}{xs:List Str}(s:gc H J)(h:Tells H kvs f xs):Tells J kvs f xs:=fun x hx=>let ⟨q,e,t⟩:=h x hx;⟨q,e,t.tups s⟩
inductive FG(d:Nat)(vs:List V)(H:Hp)(Q:VK)(E:XK):Prop
 |mk(v tr m kvs f e:_)(_:vs=[v,.ref m,.int (e:Nat)])(_:eD H v tr)(_:tr.depth<=d)(_:H m=some (.dK kvs))(_:Tells H kvs f tr.names)(_:∀ q J,bb H J->vF J q (dw f e tr)->Q (.ref q) J)
theorem sS(T:Txt P w K mg t):FM P w base T.q10 1 A_:=by
 refine T.q10.F.fk (N:=["side"]) eP ?_;rintro nd _ _ _ _ _ _ _ _ hr ⟨a,x,rfl,ha,k⟩;refine⟨_,(au (aC (bu (aa (cy aJ (O 0) ak) (aa (cy aJ (O 0) ak) aj))))),?_⟩;refine⟨_,Z,a,_,1,.int x.2,Z,Z,SqT.of ha,Z,_,Z,a,_,0,.int x.1,Z,Z,SqT.of ha,Z,lk obz,fun q hq=>?_⟩;exact k q _ (aA hq) ao
theorem sh:ck ["kind","left","right","alike","unlike"] ["kind","left","right"] (aR YV):=eP
theorem u6(T:Txt P w K mg t):∀ n:Nat,FO P w K mg base (n+2) t.Ue t.d11 ["kind","left","right"] (DC n)
 | 0=>by
  refine T.q11.F.xa sh (fun vs H Q E h=>by obtain⟨o,a,b,x,y,rfl,_⟩:=h;rfl) (fun j_ A outer s H vs Q E hr h=>?_);obtain⟨o,a,b,x,y,rfl,h1,_⟩:=h;exact G
 | n + 1=>by
  refine T.q11.F.xa sh (fun vs H Q E h=>by obtain⟨o,a,b,x,y,rfl,_⟩:=h;rfl) (fun j_ A outer s H vs Q E hr h=>?_);obtain⟨o,a,b,x,y,rfl,h1,h2,ha,hb,k⟩:=h;have nd:=sh.nd
  refine⟨_,(aq (aO (aF aV (O 0) az (aH _))
    (au (aC (bu (aa (aD gP (cy aJ (O 1) ak) (cy aJ (O 2) ak)) (aa (aD m9 (cy aJ (O 1) ak) (cy aJ (O 2) ak)) aj)))))
    aM)
   (aq (aO (aF aV (O 0) az (aH _))
    (au (aC (bu (aa (aD m9 (cy aJ (O 1) ak) (cy aJ (O 2) ak)) (aa (aD gP (cy aJ (O 1) ak) (cy aJ (O 2) ak)) aj)))))
    aM)
   (aq (aO (aF aV (O 0) az (aH _))
    (au (aC (eI T.q11 (u6 T n) hr aK (aa az (aa (eI T.q10 (sS T) hr aK (aa (O 1) aj)) (aa (O 2) aj))))))
    aM)
   (aq (fN 3 nd (aD m9 (aD gP (cy aJ (O 1) ak) (cy aJ (O 2) ak)) (aD gP (cy aJ (O 1) ak) (cy aJ (O 2) ak))))
   (aq (fN 4 nd (aD m9 (aD gP (cy aJ (O 1) ak) (cy aJ (O 2) ak)) (aD gP (cy aJ (O 1) ak) (cy aJ (O 2) ak))))
   (au (aC (bu (aa (O 3) (aa (O 4) aj)))))))))),?_⟩
  refine⟨_,Z,Z,_,Z,aN (fun c=>?A) (fun c1=>⟨_,Z,Z,_,Z,aN (fun c=>?aab) (fun c2=>⟨_,Z,Z,_,Z,aN (fun c=>?T) (fun c3=>?S)⟩)⟩)⟩
  case A =>
   obtain rfl:o=.and:=pY (o':=.and) (eS c);refine⟨_,Z,a,_,0,.int x.1,Z,Z,SqT.of ha,Z,_,Z,b,_,0,.int y.1,Z,Z,SqT.of hb,Z,_,_,Z,Z,_,Z,a,_,1,.int x.2,Z,Z,SqT.of ha,Z,_,Z,b,_,1,.int y.2,Z,Z,SqT.of hb,Z,_,_,Z,Z,lk obz,fun q hq=>?_⟩;exact k q _ (aA hq) (by unfold vF;rw[ao];simp only[band,bor];rfl)
  case aab =>
   obtain rfl:o=.or:=pY (o':=.or) (eS c);refine⟨_,Z,a,_,0,.int x.1,Z,Z,SqT.of ha,Z,_,Z,b,_,0,.int y.1,Z,Z,SqT.of hb,Z,_,_,Z,Z,_,Z,a,_,1,.int x.2,Z,Z,SqT.of ha,Z,_,Z,b,_,1,.int y.2,Z,Z,SqT.of hb,Z,_,_,Z,Z,lk obz,fun q hq=>?_⟩;exact k q _ (aA hq) (by unfold vF;rw[ao];simp only[band,bor];rfl)
  case T =>
   obtain rfl:o=.thn:=pY (o':=.thn) (eS c);refine⟨_,rfl,a,x,rfl,ha,fun q H1 s1 hq=>⟨_,rfl,.or,q,b,(x.2,x.1),y,rfl,by have:=h2 rfl;exact G,(fun z=>by cases z),hq,hb.mono s1,fun q2 H2 s2 hq2=>?_⟩⟩;exact k q2 H2 (s1.trans s2) hq2
  case S =>
   obtain rfl:o=.same:=by
    cases o with
    |and=>exact absurd (cK rfl) c1
    |or=>exact absurd (cK rfl) c2
    |thn=>exact absurd (cK rfl) c3
    |same=>rfl
   refine⟨_,Z,a,_,0,.int x.1,Z,Z,SqT.of ha,Z,_,Z,b,_,0,.int y.1,Z,Z,SqT.of hb,Z,_,_,Z,Z,_,Z,a,_,1,.int x.2,Z,Z,SqT.of ha,Z,_,Z,b,_,1,.int y.2,Z,Z,SqT.of hb,Z,_,_,Z,Z,_,_,Z,Z,?_⟩;refine⟨_,Z,a,_,0,.int x.1,Z,Z,SqT.of ha,Z,_,Z,b,_,1,.int y.2,Z,Z,SqT.of hb,Z,_,_,Z,Z,_,Z,a,_,1,.int x.2,Z,Z,SqT.of ha,Z,_,Z,b,_,0,.int y.1,Z,Z,SqT.of hb,Z,_,_,Z,Z,_,_,Z,Z,?_⟩;refine⟨_,Z,_,Z,lk obz,fun q hq=>?_⟩;exact k q _ (aA hq) (by unfold vF;rw[ao];simp only[band,bor];rfl)
theorem t4:ck ["tree","of_names","every","kind","left"] ["tree","of_names","every"] (aR S9):=eP
theorem rm(T:Txt P w K mg t):∀ d:Nat,FO P w K mg base (d+5) t.a9 t.d9 ["tree","of_names","every"] (FG d)
 | 0=>by
  refine T.q9.F.xa t4 (fun vs H Q E h=>by obtain⟨v,tr,m,kvs,f,e,rfl,_⟩:=h;rfl) (fun j_ A outer s H vs Q E hr h=>?_);obtain⟨v,tr,m,kvs,f,e,rfl,ht,hd,k⟩:=h;have:=tr.lp;exact G
 | d + 1=>by
  refine T.q9.F.xa t4 (fun vs H Q E h=>by obtain⟨v,tr,m,kvs,f,e,rfl,_⟩:=h;rfl) (fun j_ A outer s H vs Q E hr h=>?_);obtain⟨v,tr,m,kvs,f,e,rfl,ht,hd,hm,htl,k⟩:=h;obtain⟨a,rest,rfl,ha,IB,xp⟩:=ht.open;have nd:=t4.nd;have hu:=fc hr
  refine⟨_,(aq (fN 3 nd (cy aJ (O 0) ak))
   (aq (aO (aF aV (O 3) az (aH _))
    (au (aC (uc hu (O 1) (cy aJ (O 0) ak) (fun _ _=>rfl))))
    aM)
   (aq (aO (aF aV (O 3) az (aH _))
    (au (aC (bu (aa (O 2) (aa ak aj)))))
    aM)
   (aq (aO (aF aV (O 3) az (aH _))
    (au (aC (bu (aa ak (aa (O 2) aj)))))
    aM)
   (aq (fN 4 nd (eI T.q9 (rm T d) hr aK (aa (cy aJ (O 0) ak) (aa (O 1) (aa (O 2) aj)))))
   (aq (aO (aF aV (O 3) az (aH _))
    (au (aC (eI T.q10 (sS T) hr aK (aa (O 4) aj))))
    aM)
   (au (aC (eI T.q11 (u6 T 2) hr aK (aa (O 3) (aa (O 4) (aa (eI T.q9 (rm T d) hr aK (aa (cy aJ (O 0) ak) (aa (O 1) (aa (O 2) aj)))) aj)))))))))))),?_⟩
  refine⟨_,Z,a,_,0,.str tr.tag,Z,Z,SqT.of ha,bh (j:=0) rfl,?_⟩;refine⟨_,Z,Z,_,Z,aN (fun c=>?N) (fun c1=>⟨_,Z,Z,_,Z,aN (fun c=>?aaa) (fun c2=>⟨_,Z,Z,_,Z,aN (fun c=>?aab) (fun c3=>?R)⟩)⟩)⟩
  case N =>
   obtain⟨x,rfl⟩:=Lh (eS c);obtain⟨q,hq,h2⟩:=htl x qms;refine⟨_,Z,_,Z,a,_,1,.str x,Z,Z,SqT.of (Jx ht),Z,m,_,Z,?_,k q H (bb.refl H) h2⟩;have:=uS.k (k:=.inr x) hm;rw[hq]at this;exact this
  case aaa =>
   obtain rfl:=Gd (eS c);exact⟨_,Z,lk obz,fun q hq=>k q _ (aA hq) ao⟩
  case aab =>
   obtain rfl:=Li (eS c);exact⟨_,Z,lk obz,fun q hq=>k q _ (aA hq) ao⟩
  case R =>
   cases tr with
   |nm x=>exact absurd (cK rfl) c1
   |yes=>exact absurd (cK rfl) c2
   |no=>exact absurd (cK rfl) c3
   | not u =>
    obtain⟨vu,Vg,WC⟩:=CK ht;have hd:u.depth+1<=d+1:=hd;refine⟨_,Z,a,_,1,vu,Z,Z,SqT.of Vg,Z,_,Z,_,Z,vu,u,m,kvs,f,e,Z,WC,G,hm,htl,fun q H1 s1 hq=>?_⟩;refine⟨_,Z,Z,_,Z,aN (fun c=>?_) (fun c4=>absurd (cK rfl) c4)⟩;exact⟨_,Z,q,_,Z,hq,fun q2 H2 s2 hq2=>k q2 H2 (s1.trans s2) hq2⟩
   | bin o x y =>
    obtain⟨vx,vy,AX,Q_,BF⟩:=CJ ht;have hd:max x.depth y.depth+1<=d+1:=hd;refine⟨_,Z,a,_,1,vx,Z,Z,SqT.of AX,Z,_,Z,_,Z,vx,x,m,kvs,f,e,Z,Q_,G,hm,fun z hz=>htl z (w9 _ hz),fun q H1 s1 hq=>?_⟩;refine⟨_,Z,Z,_,Z,aN (fun c=>absurd (V.str.inj (eS c)) (nJ o).2.2.1) (fun c4=>?_)⟩;refine⟨_,Z,_,Z,_,Z,a,_,2,vy,Z,Z,SqT.of (s1 _ _ AX),Z,_,Z,_,Z,vy,y,m,kvs,f,e,Z,BF.mono s1.tups,G,s1 _ _ hm,?_,fun q2 H2 s2 hq2=>?_⟩
    .exact Tells.mono s1.tups fun z hz=>htl z (pd _ hz)
    exact⟨o,q,q2,_,_,Z,b4,fun _=>qnr _,hq.mono s2,hq2,fun q3 H3 s3 WQ=>k q3 H3 ((s1.trans s2).trans s3) WQ⟩
def gr(n k:Nat):Nat:=if n.testBit k=true then 1 else 0
theorem CN(n k:Nat):Builtin.bitAnd ((n:Int)/2^((k:Int)).toNat) 1=((gr n k:Nat):Int):=by
 have e:((n:Int)/2^((k:Int)).toNat)=((n/2^k:Nat):Int):=by
  rw[bq];simp
 have e1:(1:Int)=((1:Nat):Int):=rfl;rw[e,e1,band,Nat.and_one_is_mod,M6]
 rfl
inductive P1(vs:List V)(H:Hp)(Q:VK)(E:XK):Prop
 |mk(n k:Nat)(_:vs=[.int n,.int k])(_:Q (.int (gr n k:Nat)) H)
theorem xN(x:Str):∀ ns:List Str,qE (.str x) (ns.map V.str)=decide (x∈ns)
 |[]=>rfl
 | y::r=>by
  have ih:=xN x r;unfold qE at ih ⊢;rw[b5,eR,ih]
  have e:mw (.str y) (.str x)=decide (y=x):=by
   show(y==x)=_
   by_cases z:y=x
   .simp[z]
   simp[z]
  rw[e]
  by_cases z:y=x
  .simp[z]
  by_cases z2:x∈r
  .simp[z2]
  have z3:¬x=y:=fun h=>z h.symm
  simp[z,z2,z3]
theorem u9(ns:List Str):(ns.map V.str).all fB=true:=by
 rw[rf];exact bP.mpr fun _ _=>rfl
def sU(x:Str):Prop:=x.length<=1000/\∀ c∈x.cps.toList,c<16^8
theorem pz.small{y:Str}(h:pz y):sU y:=⟨by rw[nH];have:=h.le;exact G,fun c hc=>by have:=(h.ok c hc).2;exact G⟩
inductive LL(t:l9)(vs:List V)(H:Hp)(Q:VK)(E:XK):Prop
 |mk(p:Addr)(v:V)(ns:List Str)(tr:Tr)(_:vs=[.ref p,v])(_:H p=some (.tup (ns.map V.str)))(_:eD H v tr)(_:tr.size<=100000)(_:(∃ L:List Str,L.length<64/\∀ x∈tr.names,x∈L))(_:(∀ x∈tr.names,sU x))(_:((∀ x∈tr.names,x∈ns)->∀ J,bb H J->Q .non J))(_:((¬ ∀ x∈tr.names,x∈ns)->∀ J,bb H J->E (.ref t.zh) none J))
def Fits(H:Hp)(p:Addr)(v:V)(ns:List Str)(tr:Tr):Prop :=
 H p=some (.tup (ns.map V.str))/\ns.length<=8/\ns.Nodup/\eD H v tr/\tr.size<=100000/\tr.depth<=110/\(∃ L:List Str,L.length<64/\∀ x∈tr.names,x∈L)/\∀ x∈tr.names,sU x
theorem sV(T:Txt P w K mg t):FM P w base T.q6 1 P1:=by
 refine T.q6.F.fk (N:=["number","place"]) eP ?_;rintro nd _ _ _ _ _ _ _ _ hr ⟨n,k,rfl,q⟩;refine⟨_,(au (aC (aD gP (aD rP (O 0) (O 1)) ak))),?_⟩;refine⟨_,Z,_,Z,_,_,Z,Z,gi k,_,_,Z,Z,?_⟩;rw[<- CN]at q;exact q
theorem M9(T:Txt P w K mg t):FM P w base T.q8 4 (LL t):=by
 refine T.q8.F.fk (N:=["names","tree","name"]) eP ?_;rintro nd _ _ _ _ _ _ _ _ hr ⟨p,v,ns,tr,rfl,hp,ht,hsz,hL,xh,k1,k2⟩
 refine ⟨_,(au (fM l_ rfl (bU (eI T.q5 (Jz T) hr aK (aa (O 1) aj))) (iq 2 nd)
    (au (aO (aF oO (O 2) (O 0) ou)
     (au (dg dM rfl T.Zb T.zal (aa (Iv az (uf (O 2)) az) aj)))
     aM)))),?_⟩
 refine⟨_,Z,v,tr,Z,ht,hsz,hL,fun l ys H1 hl ow s1 _ _ ot=>?_⟩
 refine⟨l,rfl,⟨_,b3.of ow⟩,gf (K:=K) (a:=l) (xs:=ys.map V.str)
  (fun i M H2=>∃ o:Option V,M=[some (.ref p),some v,o]/\bb H1 H2/\∀ x∈ys.take i,x∈ns) ⟨none,rfl,bb.refl _,oz⟩ (fun i M H2 _ ⟨_,_,s2,_⟩=>b3.of (s2 _ _ ow)) ?_ ?_⟩
 .rintro i y M H2 hi ⟨o,rfl,s2,nS⟩
  rw[lS]at hi
  obtain⟨x,hx,rfl⟩:∃ x,ys[i]?=some x/\y=V.str x:=by
   cases e:ys[i]? with
   |none=>rw[e]at hi;cases hi
   |some x=>rw[e]at hi;exact⟨x,Z,(kF hi).symm⟩
  have ZE:x∈tr.names:=(ot x).mp (qB hx);refine⟨_,Z,_,Z,p,_,Z,.inr (SqT.of (s2 _ _ (s1 _ _ hp))),Z,u9 ns,_,Z,?_⟩;rw[qp rfl,xN]
  by_cases hm:x∈ns
  .rw[cK hm]
   refine bz ?_;refine⟨_,Z,s2,fun z hz=>?_⟩;rw[rh,hx]at hz;rcases aT.mp hz with hz|hz
   .exact nS z hz
   have:z=x:=by simpa using hz
   rw[this];exact hm
  rw[gX hm];refine bN ?_;obtain⟨z1,z2⟩:=xh x ZE;have e1:=PySem.StrLaws.reprText_len x z2;have e3:(Str.ofString "the name ").length=9:=by decide +kernel
  have e4:(Str.ofString " is not told").length=12:=by decide +kernel
  refine⟨_,Z,dk,_,Z,x,Z,repr_fits z2 z1,_,Z,?_,_,Z,?_,vv,k2 (fun z=>hm (z x ZE)) H2 (s1.trans s2)⟩
  .rw[i5,e3];unfold sizeLine;exact G
  rw[i5,i5,e3,e4];unfold sizeLine;exact G
 rintro M H2 ⟨o,rfl,s2,nS⟩;rw[dn,bE]at nS;exact k1 (fun x hx=>nS x ((ot x).mpr hx)) H2 (s1.trans s2)
theorem Ge(kvs:List (Key×V))(x y:Str)(v:V):bR (putK kvs (.inr x) v) (.inr y)=if y=x then some v else bR kvs (.inr y):=by
 rw[Ii]
 by_cases h:y=x
 .rw[qp h,qp (by rw[h])]
 rw[bX h,bX (fun z=>h (by injection z))]
theorem Gf(hn:ns.Nodup)(hi:i<ns.length)(hj:j<ns.length)(e:ns[i]=ns[j]):i=j:=by
 rcases Nat.lt_trichotomy i j with h|h|h
 .exact absurd e ((List.pairwise_iff_getElem.mp hn) i j hi hj h)
 .exact h
 exact absurd e.symm ((List.pairwise_iff_getElem.mp hn) j i hj hi h)
theorem Qp(hn:ns.Nodup)(h:ns[i]?=some x):ns.idxOf x=i:=by
 obtain⟨hi,e⟩:=List.getElem?_eq_some_iff.mp h;have h1:ns.idxOf x<ns.length:=o_.mpr (e ▸ fi hi);have h2:ns[ns.idxOf x]=x:=List.getElem_idxOf h1;exact Gf hn h1 hi (h2.trans e.symm)
inductive LS(vs:List V)(H:Hp)(Q:VK)(E:XK):Prop
 |mk(p:Addr)(ns:List Str)(_:vs=[.ref p])(_:H p=some (.tup (ns.map V.str)))(_:ns.length<=8)(_:Q (.int (cP ns.length:Nat)) H)
inductive LB(vs:List V)(H:Hp)(Q:VK)(E:XK):Prop
 |mk(p:Addr)(ns:List Str)(k:Nat)(_:vs=[.ref p,.int k])(_:H p=some (.tup (ns.map V.str)))(_:ns.length<=8)(_:∀ J,bb H J->Q (.int (dX ns.length k:Nat)) J)
def J_(ns:List Str)(c:Int)(x:Str):Nat×Nat:=if (ns.idxOf x:Int)<c then QA ns x else(0,0)
inductive V0(vs:List V)(H:Hp)(Q:VK)(E:XK):Prop
 |mk(p:Addr)(ns:List Str)(c:Int)(_:vs=[.ref p,.int c])(_:H p=some (.tup (ns.map V.str)))(_:ns.length<=8)(_:ns.Nodup)(_:∀ m kvs J,bb H J->J m=some (.dK kvs)->Tells J kvs (J_ ns c) ns->Q (.ref m) J)
inductive FF(t:l9)(vs:List V)(H:Hp)(Q:VK)(E:XK):Prop
 |mk(p:Addr)(v:V)(ns:List Str)(tr:Tr)(_:vs=[.ref p,v])(_:Fits H p v ns tr)(_:((∀ x∈tr.names,x∈ns)->∀ J,bb H J->Q (.int (aP ns tr:Nat)) J))(_:((¬ ∀ x∈tr.names,x∈ns)->∀ J,bb H J->E (.ref t.zh) none J))
theorem xO(p:Nat->Bool):∀ m,((((List.range m).filter p).map fun i=>((2^i:Nat):Int))).sum=((gn p m:Nat):Int)
 | 0=>rfl
 | m+1=>by
  rw[eJ,eM,ar,rV,xO p m];show _+(((List.filter p [m]).map fun i=>((2^i:Nat):Int))).sum=((gn p m+(if p m=true then 2^m else 0):Nat):Int)
  cases hp:p m with
  |true=>simp[hp]
  |false=>simp[hp]
theorem uo(T:Txt P w K mg t):FM P w base T.q12 1 LS:=by
 refine T.q12.F.fk (N:=["names"]) eP ?_;rintro nd _ _ _ _ _ _ _ _ hr ⟨p,ns,rfl,hp,h8,k⟩;refine⟨_,(au (aC (aD cX (aD gO ak (aD gO ak (aY aX T.zd Bt.len (aa (O 0) aj)))) ak))),?_⟩;have sD:2^ns.length<=256:=b6 (n:=2) b4 h8
 have e1:(1:Int)*2^(((ns.map V.str).length:Nat):Int).toNat=((2^ns.length:Nat):Int):=by
  rw[dn,bq];simp
 have E':cP ns.length=2^(2^ns.length)-1:=rfl;have Vs:dX ns.length=fun k=>gn (fun i=>i.testBit k) (2^ns.length):=rfl
 generalize 2^ns.length=N at sD e1 E' Vs;refine⟨_,Z,p,_,Z,.inr (SqT.of hp),_,_,Z,Z,⟨by rw[dn];exact G,by rw[dn];exact G,b4⟩,_,_,Z,Z,⟨?_,?_,b4⟩,_,_,Z,Z,?_⟩
 .rw[e1];exact G
 .rw[e1];exact G
 have e2:(1:Int)*2^((1:Int)*2^(((ns.map V.str).length:Nat):Int).toNat).toNat-1=((cP ns.length:Nat):Int):=by
  rw[e1,bq,E'];have:1<=2^N:=hW;rw[Int.one_mul,Int.ofNat_sub this];simp
 rw[<- e2]at k;exact k
theorem Nb(T:Txt P w K mg t):FM P w base T.q13 2 LB:=by
 refine T.q13.F.fk (N:=["names","place"]) eP ?_;rintro nd _ _ _ _ H _ _ _ hr ⟨p,ns,k,rfl,hp,h8,q⟩;refine⟨_,(au (aC (aY (Fe rfl) T.zaS Bt.sum (aa (bM rfl ["world","place"] [none,some 1] (gF T.zp (aa (aD gO ak (aY aX T.zd Bt.len (aa (O 0) aj))) aj)) gT (fun _ _ _ _ _ _=>(iq 0 (kG (l:=["world","place"])))) (fun _ _ _ _ _ _=>gC (aF aV (eI T.q6 (sV T) hr aK (aa (O 0) (aa (ja 1) aj))) ak (aH _))) (fun _ _ _ _ _ _=>(aD gO ak (O 0)))) aj)))),?_⟩;have sD:2^ns.length<=256:=b6 (n:=2) b4 h8
 have e1:(1:Int)*2^(((ns.map V.str).length:Nat):Int).toNat=((2^ns.length:Nat):Int):=by
  rw[dn,bq];simp
 have E':cP ns.length=2^(2^ns.length)-1:=rfl;have Vs:dX ns.length=fun k=>gn (fun i=>i.testBit k) (2^ns.length):=rfl
 generalize 2^ns.length=N at sD e1 E' Vs;refine⟨_,Z,p,_,Z,.inr (SqT.of hp),_,_,Z,Z,⟨by rw[dn];exact G,by rw[dn];exact G,b4⟩,?_⟩
 try dsimp only
 rw[e1];refine⟨_,Z,G,G,?_⟩;rw[bq];refine jR (n:=N) (fun i ys J=>J=H/\ys=((List.range i).filter fun j=>j.testBit k).map fun j=>V.int ((2^j:Nat):Int)) ⟨rfl,rfl⟩ (lkB G) (fun i ys J ⟨_,e⟩=>?_) ?_ ?_
 .rw[e,dn]
  refine gV (da _ _) ?_;rw[cE];exact qnr _
 .rintro i ys J hi ⟨rfl,rfl⟩
  refine⟨⟨Z,trivial⟩,?_⟩;refine⟨_,Z,_,Z,i,k,?_,Z,_,Z,?_⟩
  .rw[gS];rfl
  unfold gr;rw[eJ,eM,ar];cases hb:i.testBit k with
  | true =>
   refine bN ?_;refine⟨_,Z,_,_,Z,Z,⟨G,G,b4⟩,Z,?_⟩
   try dsimp only
   rw[Cs,qp hb,gS,bq];simp
  | false =>
   refine bz ⟨rfl,?_⟩;rw[Cs,bX (by rw[hb];decide)];simp
 rintro ys J ⟨rfl,rfl⟩ l hl;refine⟨l,((List.range N).filter fun j=>j.testBit k).map fun j=>((2^j:Nat):Int),Z,b3.of (by rw[ao,dA];rfl),?_⟩;have q:=q _ (aA (o:=.lst (((List.range N).filter fun j=>j.testBit k).map fun j=>V.int ((2^j:Nat):Int))) hl);rw[Vs]at q;dsimp only at q;rw[<- xO]at q;exact q
theorem Rv(T:Txt P w K mg t):FM P w base T.q14 3 V0:=by
 refine T.q14.F.fk (N:=["names","known_ones","of_names","place","name","kept"]) eP ?_;rintro nd _ _ _ _ H _ _ _ hr ⟨p,ns,c,rfl,hp,h8,lj,k⟩;have hu:=fc hr
 refine⟨_,(aq (fN 2 nd qO)
   (aq (fM l_ rfl (mQ (O 0) T.zw) (oG (n:=2) rfl (bH (iq 3 nd) (bH (iq 4 nd) dI)))
    (aq (fN 5 nd (eI T.q13 (Nb T) hr aK (aa (O 0) (aa (O 3) aj))))
    (au (ud hu (O 2) (O 4) (fD (aF ni (O 3) (O 1) (aH _)) (bu (aa (O 5) (aa (aD mJ (eI T.q12 (uo T) hr aK (aa (O 0) aj)) (O 5)) aj))) (bu (aa ak (aa ak aj)))) rfl))))
   (au (aC (O 2))))),?_⟩
 intro m hm;have s0:bb H (upd H m (.dK [])):=aA hm
 refine⟨_,rfl,p,rfl,⟨_,SqT.of (s0 _ _ hp)⟩,Fj (K:=K) (a:=p) (xs:=ns.map V.str)
  (fun i M H2=>∃(o3 o4 o5:Option V)(kvs:List (Key×V)),M=[some (.ref p),some (.int c),some (.ref m),o3,o4,o5]/\bb H H2/\H2 m=some (.dK kvs)/\kvs.length<=i/\Tells H2 kvs (J_ ns c) (ns.take i))
  ⟨none,none,none,[],rfl,s0,ao,qnr _,(fun x hx=>by simp at hx)⟩ (fun i M H2 _ ⟨_,_,_,_,_,s2,_⟩=>SqT.of (s2 _ _ hp)) ?_ ?_⟩
 .rintro i y M H2 hi ⟨o3,o4,o5,kvs,rfl,s2,qS,l8,htl⟩ e he
  rw[lS]at hi
  obtain⟨x,hx,rfl⟩:∃ x,ns[i]?=some x/\y=V.str x:=by
   cases q:ns[i]? with
   |none=>rw[q]at hi;cases hi
   |some x=>rw[q]at hi;exact⟨x,Z,(kF hi).symm⟩
  have hi8:i<8:=by
   have:=(List.getElem?_eq_some_iff.mp hx).1;exact G
  have Z5:=Qp lj hx;have s3:=aA (o:=.tup [.int i,.str x]) he;refine⟨e,_,Z,SqT.of ao,Z,_,_,Z,_,_,Z,Z,?_⟩;refine⟨_,Z,_,Z,p,ns,i,Z,s3 _ _ (s2 _ _ hp),h8,fun H4 s4=>?_⟩;have GU:=s3.trans s4
  have fin:∀(q:Addr)(x1:Nat×Nat)(H5:Hp),bb H4 H5->vF H5 q x1->J_ ns c x=x1 ->
    (∃(o3 o4 o5:Option V)(MC:List (Key×V)),[some (V.ref p),some (V.int c),some (V.ref m),some (V.int i),some (V.str x),some (V.int (dX ns.length i:Nat))]=[some (.ref p),some (.int c),some (.ref m),o3,o4,o5]/\bb H (upd H5 m (.dK (putK kvs (.inr x) (.ref q))))/\(upd H5 m (.dK (putK kvs (.inr x) (.ref q)))) m=some (.dK MC)/\MC.length<=i+1/\Tells (upd H5 m (.dK (putK kvs (.inr x) (.ref q)))) MC (J_ ns c) (ns.take (i+1))):=by
   intro q x1 H5 s5 hq hof;have OP:=s5 _ _ (GU _ _ qS)
   have kt:gc H5 (upd H5 m (.dK (putK kvs (.inr x) (.ref q)))):=fun b xs eb=>by
    rw[aB (fun z=>by subst z;rw[OP]at eb;cases eb)];exact eb
   refine⟨_,_,_,_,Z,fun b o eb=>?_,ao,gV (jz kvs (.inr x) (.ref q)) G,fun z hz=>?_⟩
   .rw[aB (aG eb hm)]
    exact s5 _ _ (GU _ _ (s2 _ _ eb))
   rw[Ge]
   by_cases Wv:z=x
   .subst Wv
    rw[qp rfl,hof];exact⟨q,Z,hq.tups kt⟩
   rw[bX Wv];rw[rh,hx]at hz;rcases aT.mp hz with hz|hz
   .obtain⟨q',h1,h2⟩:=htl z hz
    exact⟨q',h1,h2.tups ((GU.trans s5).tups.trans kt)⟩
   exact absurd (by simpa using hz) Wv
  refine⟨_,Z,_,Z,_,_,Z,Z,_,Z,aN (fun cc=>?_) (fun cc=>?_)⟩
  .have cc:(i:Int)<c:=eS cc
   refine⟨_,Z,_,Z,p,ns,Z,GU _ _ (s2 _ _ hp),h8,_,Z,_,_,Z,Z,lk obz,fun q hq=>?_⟩;have E8:=hq;have s5:=aA (o:=.tup [.int (dX ns.length i:Nat),.int (Builtin.bitXor (cP ns.length:Nat) (dX ns.length i:Nat))]) hq;refine⟨_,Z,_,Z,m,_,Z,xy.k (k:=Sum.inr x) (s5 _ _ (GU _ _ qS)) (cO G),?_⟩;refine fin q (dX ns.length i,cP ns.length^^^dX ns.length i) _ s5 (by unfold vF;rw[ao];simp only[bxor]) ?_;unfold J_ QA;rw[Z5,qp cc]
  have cc:¬(i:Int)<c:=fun z=>cc (cK z)
  refine⟨lk obz,fun q hq=>?_⟩;have s5:=aA (o:=.tup [.int 0,.int 0]) hq;refine⟨_,Z,_,Z,m,_,Z,xy.k (k:=Sum.inr x) (s5 _ _ (GU _ _ qS)) (cO G),?_⟩;refine fin q (0,0) _ s5 ao ?_;unfold J_;rw[Z5,bX cc]
 rintro M H2 ⟨o3,o4,o5,kvs,rfl,s2,qS,l8,htl⟩;rw[dn,bE]at htl;exact⟨_,Z,k m kvs H2 s2 qS htl⟩
theorem xP(T:Txt P w K mg t):FM P w base T.q15 116 (FF t):=by
 refine T.q15.F.fk (N:=["names","tree"]) eP ?_;rintro nd _ _ _ _ H vs Q E hr ⟨p,v,ns,tr,rfl,⟨hp,h8,lj,ht,hsz,hd,hL,xh⟩,k1,k2⟩
 refine⟨_,(aq (bw (eI T.q8 (M9 T) hr bI (aa (O 0) (aa (O 1) aj))))
   (au (aC (cy aJ (eI T.q9 (rm T 110) hr aK (aa (O 1) (aa (eI T.q14 (Rv T) hr aK (aa (O 0) (aa (aY aX T.zd Bt.len (aa (O 0) aj)) aj))) (aa (eI T.q12 (uo T) hr aK (aa (O 0) aj)) aj)))) ak)))),?_⟩
 refine⟨_,Z,_,Z,p,v,ns,tr,Z,hp,ht,hsz,hL,xh,fun hall H1 s1=>?_,fun xl H1 s1=>k2 xl H1 s1⟩;refine⟨_,Z,_,Z,_,Z,p,_,Z,.inr (SqT.of (s1 _ _ hp)),p,ns,_,Z,s1 _ _ hp,h8,lj,fun m kvs H2 s2 hm htl=>?_⟩;refine⟨_,Z,p,ns,Z,s2 _ _ (s1 _ _ hp),h8,v,tr,m,kvs,_,_,Z,ht.mono (s1.trans s2).tups,hd,hm,fun x hx=>htl x (hall x hx),fun q H3 s3 hq=>?_⟩
 have e:(dw (J_ ns (((ns.map V.str).length:Nat):Int)) (cP ns.length) tr).1=aP ns tr:=by
  rw[<- yX];refine b_ Prod.fst (jd fun x hx=>?_);unfold J_;rw[qp];have:=o_.mpr (hall x hx);rw[dn];exact G
 refine⟨q,_,0,_,Z,Z,SqT.of hq,Z,?_⟩;have k1:=k1 hall H3 ((s1.trans s2).trans s3);rw[<- e]at k1;exact k1
inductive GI(t:l9)(vs:List V)(H:Hp)(Q:VK)(E:XK):Prop
 |mk(p:Addr)(v:V)(ns:List Str)(tr:Tr)(_:vs=[.ref p,v])(_:Fits H p v ns tr)(_:((∀ x∈tr.names,x∈ns)->∀ J,bb H J->Q (.int (aU ns tr:Nat)) J))(_:((¬ ∀ x∈tr.names,x∈ns)->∀ J,bb H J->E (.ref t.zh) none J))
theorem xQ(T:Txt P w K mg t):FM P w base T.q16 117 (GI t):=by
 refine T.q16.F.fk (N:=["names","tree"]) eP ?_;rintro nd _ _ _ _ H vs Q E hr ⟨p,v,ns,tr,rfl,hf,k1,k2⟩;refine⟨_,(au (aC (aD mJ (eI T.q12 (uo T) hr aK (aa (O 0) aj)) (eI T.q15 (xP T) hr bI (aa (O 0) (aa (O 1) aj)))))),?_⟩;refine⟨_,Z,p,ns,Z,hf.1,hf.2.1,_,Z,_,Z,p,v,ns,tr,Z,hf,fun hall H1 s1=>?_,k2⟩;refine⟨_,_,Z,Z,?_⟩;have k1:=k1 hall H1 s1;rw[<- qD,<- bxor]at k1;exact k1
def mG:Option Int->V
 |none=>.non
 |some m=>.int m
def Rw:Option Int->Bool
 |none=>true
 |some m=>decide (0<m)
inductive C9(vs:List V)(H:Hp)(Q:VK)(E:XK):Prop
 |mk(r:Addr)(rs:List Int)(wd:Nat)(_:vs=[.ref r,.int wd])(_:H r=some (.tup (rs.map V.int)))(_:rs.length<=256)(_:∀ J,bb H J->Q (mG (aQ (sel rs wd))) J)
def cq(H:Hp)(a:Addr)(p r:Addr)(rs:List Int):Prop:=H a=some (.tup [.ref p,.ref r])/\H r=some (.tup (rs.map V.int))/\rs.length<=256
theorem cq.mono{p r:Addr}(s:bb H J)(h:cq H a p r rs):cq J a p r rs:=⟨s _ _ h.1,s _ _ h.2.1,h.2.2⟩
inductive LW(t:l9)(vs:List V)(H:Hp)(Q:VK)(E:XK):Prop
 |mk(a p r:Addr)(rs:List Int)(v:V)(ns:List Str)(tr:Tr)(_:vs=[.ref a,v])(_:cq H a p r rs)(_:Fits H p v ns tr)(_:((∀ x∈tr.names,x∈ns)->∀ J,bb H J->Q (mG (aQ (sel rs (aU ns tr)))) J))(_:((¬ ∀ x∈tr.names,x∈ns)->∀ J,bb H J->E (.ref t.zh) none J))
inductive LO(t:l9)(vs:List V)(H:Hp)(Q:VK)(E:XK):Prop
 |mk(a p r:Addr)(rs:List Int)(v:V)(ns:List Str)(tr:Tr)(_:vs=[.ref a,v])(_:cq H a p r rs)(_:Fits H p v ns tr)(_:((∀ x∈tr.names,x∈ns)->∀ J,bb H J->Q (.bl (Rw (aQ (sel rs (aU ns tr))))) J))(_:((¬ ∀ x∈tr.names,x∈ns)->∀ J,bb H J->E (.ref t.zh) none J))
theorem vd(T:Txt P w K mg t):FM P w base T.q18 2 C9:=by
 refine T.q18.F.fk (N:=["ranks","worlds"]) eP ?_;rintro nd _ _ _ _ H _ _ _ hr ⟨r,rs,wd,rfl,BM,hlen,k⟩;refine⟨_,(au (aC (MF rfl (bM rfl ["world","rank","worlds"] [none,none,some 1] (mQ (O 0) T.zw) gT (fun _ _ _ _ _ _=>(gD (K:=K) (n:=2) rfl rfl (bH (iq 0 (kG (l:=["world","rank","worlds"]))) (bH (iq 1 (kG (l:=["world","rank","worlds"]))) dI)))) (fun _ _ _ _ _ _=>gC (aF aV (eI T.q6 (sV T) hr aK (aa (ja 2) (aa (O 0) aj))) ak (aH _))) (fun _ _ _ _ _ _=>(O 1))) T.zD))),?_⟩;refine⟨_,Z,r,Z,⟨_,SqT.of BM⟩,?_⟩;refine jc (K:=K) (a:=r) (xs:=rs.map V.int) (fun i ys J=>bb H J/\ys=(fH rs wd i).map V.int) ⟨bb.refl _,rfl⟩ (lk (by rw[dn];exact G)) (fun i ys J ⟨_,e⟩=>by rw[e,dn];exact uZ _ _ _) (fun i ys J ⟨s1,_⟩=>SqT.of (s1 _ _ BM)) ?_ ?_
 .rintro i y ys H1 hi ⟨s1,rfl⟩ e he
  rw[lS]at hi
  obtain⟨x,hx,rfl⟩:∃ x,rs[i]?=some x/\y=V.int x:=by
   cases q:rs[i]? with
   |none=>rw[q]at hi;cases hi
   |some x=>rw[q]at hi;exact⟨x,Z,(kF hi).symm⟩
  have s2:=s1.trans (aA (o:=.tup [.int i,.int x]) he);refine⟨e,_,Z,SqT.of ao,Z,_,_,Z,_,_,Z,Z,⟨Z,trivial⟩,?_⟩;refine⟨_,Z,_,Z,wd,i,Z,Z,_,Z,?_⟩;rw[sJ];unfold gr;have ex:rs.getD i 0=x:=by rw[List.getD,hx];rfl
  cases hb:wd.testBit i with
  | true =>
   refine bN ?_;refine⟨_,Z,s2,?_⟩;rw[qp rfl,ar,ex]
   rfl
  | false =>
   refine bz ⟨s2,?_⟩;rw[bX b4,cn]
 rintro ys H1 ⟨s1,rfl⟩ l hl;rw[dn];have s2:=s1.trans (aA (o:=.lst ((fH rs wd rs.length).map V.int)) hl);refine⟨l,fH rs wd rs.length,Z,b3.of ao,fun e=>?_,fun aad h1 h2=>?_⟩
 .have k:=k _ s2
  unfold sel at k;rw[e]at k;exact e ▸ k
 have k:=k _ s2;unfold sel at k;rw[lw h1 h2]at k;exact k
theorem uq(T:Txt P w K mg t):FM P w base T.q19 118 (LW t):=by
 refine T.q19.F.fk (N:=["mind","tree"]) eP ?_;rintro nd _ _ _ _ _ _ _ _ hr ⟨a,p,r,rs,v,ns,tr,rfl,hm,hf,k1,k2⟩;refine⟨_,(au (aC (eI T.q18 (vd T) hr aK (aa (cy aJ (O 0) ak) (aa (eI T.q16 (xQ T) hr bI (aa (cy aJ (O 0) ak) (aa (O 1) aj))) aj))))),?_⟩;refine⟨_,Z,a,_,1,.ref r,Z,Z,SqT.of hm.1,Z,_,Z,a,_,0,.ref p,Z,Z,SqT.of hm.1,Z,_,Z,p,v,ns,tr,Z,hf,fun hall H1 s1=>?_,k2⟩;exact⟨r,rs,aU ns tr,Z,s1 _ _ hm.2.1,hm.2.2,fun H2 s2=>k1 hall H2 (s1.trans s2)⟩
theorem Nf(T:Txt P w K mg t):FM P w base T.q20 119 (LO t):=by
 refine T.q20.F.fk (N:=["mind","tree","firm"]) eP ?_;rintro nd _ _ _ _ H vs Q E hr ⟨a,p,r,rs,v,ns,tr,rfl,hm,hf,k1,k2⟩
 refine⟨_,(aq (fN 2 nd (eI T.q19 (uq T) hr bI (aa (O 0) (aa (O 1) aj))))
   (au (aC (QW (cM ik (O 2) bL (aH _)) (mH (cM nj (O 2) ak (aH _))))))),?_⟩
 refine⟨_,Z,_,Z,a,p,r,rs,v,ns,tr,Z,hm,hf,fun hall H1 s1=>?_,k2⟩;have k1:=k1 hall H1 s1;refine⟨_,Z,Z,_,Z,?_⟩;cases ho:aQ (sel rs (aU ns tr))with
 | none =>
  rw[ho]at k1;rw[show decide (mG none=V.non)=true from cK rfl];exact bN k1
 | some m =>
  rw[ho]at k1;rw[show decide (mG (some m)=V.non)=false from gX (by intro z;cases z)];refine bz ⟨_,rfl,_,_,rfl,rfl,k1⟩
inductive LZ(t:l9)(vs:List V)(H:Hp)(Q:VK)(E:XK):Prop
 |mk(a p r:Addr)(rs:List Int)(v:V)(ns:List Str)(tr:Tr)(_:vs=[.ref a,v])(_:cq H a p r rs)(_:Fits H p v ns tr)(_:((∀ x∈tr.names,x∈ns)->match aQ (sel rs (aU ns tr)),aQ (sel rs (aP ns tr))with|none,_=>∀ J,bb H J->E (.ref t.zi) none J|some _,none=>∀ J,bb H J->E (.ref t.zj) none J|some x,some y=>∀(b:Addr)(J:Hp),bb H J->J b=some (.tup [.int x,.int y])->Q (.ref b) J))(_:((¬ ∀ x∈tr.names,x∈ns)->∀ J,bb H J->E (.ref t.zh) none J))
theorem Be(T:Txt P w K mg t):FM P w base T.q21 119 (LZ t):=by
 refine T.q21.F.fk (N:=["mind","tree","against","in_favour"]) eP ?_;rintro nd _ _ _ _ H vs Q E hr ⟨a,p,r,rs,v,ns,tr,rfl,hm,hf,k1,k2⟩
 refine⟨_,(aq (fN 2 nd (eI T.q19 (uq T) hr bI (aa (O 0) (aa (O 1) aj))))
   (aq (aO (aF ik (O 2) bL (aH _))
    (au (dg dM rfl T.zQ T.zag (aa az aj)))
    aM)
   (aq (fN 3 nd (eI T.q18 (vd T) hr aK (aa (cy aJ (O 0) ak) (aa (eI T.q15 (xP T) hr bI (aa (cy aJ (O 0) ak) (aa (O 1) aj))) aj))))
   (aq (aO (aF ik (O 3) bL (aH _))
    (au (dg dM rfl T.zS T.zah (aa az aj)))
    aM)
   (au (aC (bu (aa (O 2) (aa (O 3) aj))))))))),?_⟩
 refine⟨_,Z,_,Z,a,p,r,rs,v,ns,tr,Z,hm,hf,fun hall H1 s1=>?_,k2⟩;have k1:=k1 hall;refine⟨_,Z,Z,_,Z,?_⟩;cases hb:aQ (sel rs (aU ns tr))with
 | none =>
  rw[hb]at k1;rw[show decide (mG none=V.non)=true from cK rfl];exact bN ⟨vv,k1 H1 s1⟩
 | some x =>
  rw[hb]at k1;rw[show decide (mG (some x)=V.non)=false from gX (by intro z;cases z)];refine bz ?_;have hm1:=hm.mono s1;obtain⟨hp,h8,lj,ht,hsz,hd,hL,xh⟩:=id hf;refine⟨_,Z,a,_,1,.ref r,Z,Z,SqT.of hm1.1,Z,_,Z,a,_,0,.ref p,Z,Z,SqT.of hm1.1,Z,_,Z,p,v,ns,tr,Z,⟨s1 _ _ hp,h8,lj,ht.mono s1.tups,hsz,hd,hL,xh⟩,fun _ H2 s2=>?_,fun z=>absurd hall z⟩;refine⟨r,rs,aP ns tr,Z,s2 _ _ hm1.2.1,hm1.2.2,fun H3 s3=>?_⟩;have pb:=(s1.trans s2).trans s3;refine⟨_,Z,Z,_,Z,?_⟩;cases hk:aQ (sel rs (aP ns tr))with
  | none =>
   rw[hk]at k1;rw[show decide (mG none=V.non)=true from cK rfl];exact bN ⟨vv,k1 H3 pb⟩
  | some y =>
   rw[hk]at k1;rw[show decide (mG (some y)=V.non)=false from gX (by intro z;cases z)];exact bz ⟨_,rfl,_,rfl,lk obz,fun b hb=>k1 b _ (pb.trans (aA hb)) ao⟩
inductive LN(t:l9)(vs:List V)(H:Hp)(Q:VK)(E:XK):Prop
 |mk(a p r:Addr)(rs:List Int)(v:V)(ns:List Str)(tr:Tr)(_:vs=[.ref a,v])(_:cq H a p r rs)(_:Fits H p v ns tr)(_:((∀ x∈tr.names,x∈ns)->match aQ (sel rs (aU ns tr)),aQ (sel rs (aP ns tr))with|none,_=>∀ J,bb H J->E (.ref t.zi) none J|some _,none=>∀ J,bb H J->E (.ref t.zj) none J|some x,some y=>∀ J,bb H J->Q (.int (x-y)) J))(_:((¬ ∀ x∈tr.names,x∈ns)->∀ J,bb H J->E (.ref t.zh) none J))
theorem Ng(T:Txt P w K mg t):FM P w base T.q22 120 (LN t):=by
 refine T.q22.F.fk (N:=["mind","tree","leasts"]) eP ?_;rintro nd _ _ _ _ H vs Q E hr ⟨a,p,r,rs,v,ns,tr,rfl,hm,hf,k1,k2⟩
 refine⟨_,(aq (fN 2 nd (eI T.q21 (Be T) hr bI (aa (O 0) (aa (O 1) aj))))
   (au (aC (aD cX (cy aJ (O 2) ak) (cy aJ (O 2) ak))))),?_⟩
 refine⟨_,Z,_,Z,a,p,r,rs,v,ns,tr,Z,hm,hf,fun hall=>?_,k2⟩;have k1:=k1 hall;cases hb:aQ (sel rs (aU ns tr))with
 |none=>rw[hb]at k1;exact k1
 | some x =>
  rw[hb]at k1;cases hk:aQ (sel rs (aP ns tr))with
  |none=>rw[hk]at k1;exact k1
  | some y =>
   rw[hk]at k1;exact fun b H1 s1 NH=>⟨_,rfl,b,_,0,.int x,rfl,rfl,SqT.of NH,rfl,_,rfl,b,_,1,.int y,rfl,rfl,SqT.of NH,rfl,_,_,rfl,rfl,k1 H1 s1⟩
inductive LD(t:l9)(vs:List V)(H:Hp)(Q:VK)(E:XK):Prop
 |mk(a p r:Addr)(rs:List Int)(v:V)(ns:List Str)(tr:Tr)(lean:Int)(_:vs=[.ref a,v,.int lean])(_:cq H a p r rs)(_:Fits H p v ns tr)(_:((∀ x∈tr.names,x∈ns)->match aQ (sel rs (aU ns tr)),aQ (sel rs (aP ns tr))with|none,_=>∀ J,bb H J->E (.ref t.zi) none J|some _,none=>∀ J,bb H J->E (.ref t.zj) none J|some x,some y=>∀(b q:Addr)(J:Hp),bb H J->cq J b p q (gq rs (aU ns tr) x y lean)->Q (.ref b) J))(_:((¬ ∀ x∈tr.names,x∈ns)->∀ J,bb H J->E (.ref t.zh) none J))
theorem ut(T:Txt P w K mg t):FM P w base T.q28 120 (LD t):=by
 refine T.q28.F.fk (N:=["mind","tree","lean","leasts","for_breaking","for_keeping","against","ranks"]) eP ?_;rintro nd _ _ _ _ H vs Q E hr ⟨a,p,r,rs,v,ns,tr,lean,rfl,hm,hf,k1,k2⟩
 refine⟨_,(aq (fN 3 nd (eI T.q21 (Be T) hr bI (aa (O 0) (aa (O 1) aj))))
   (aq (G0 4 nd (aD cX (aY (uH rfl) T.Y_ Bt.max (aa (O 2) (aa ak aj))) (cy aJ (O 3) ak)))
   (aq (G0 5 nd (aD cX (aY (uH rfl) T.Y_ Bt.max (aa (iW gQ (O 2)) (aa ak aj))) (cy aJ (O 3) ak)))
   (aq (G0 6 nd (eI T.q16 (xQ T) hr bI (aa (cy aJ (O 0) ak) (aa (O 1) aj))))
   (aq (gj (i:=7) rfl ["world","rank","for_breaking","for_keeping","against"] [none,none,some 4,some 5,some 6] nd rfl rfl (mQ (cy aJ (O 0) ak) T.zw) gT (fun _ _ _ _ _ _=>(gD (K:=K) (n:=2) rfl rfl (bH (iq 0 (kG (l:=["world","rank","for_breaking","for_keeping","against"]))) (bH (iq 1 (kG (l:=["world","rank","for_breaking","for_keeping","against"]))) dI)))) (fun _ _ _ _ _ _=>bV) (fun _ _ _ _ _ _=>(aD cN (O 1) (fD (aF aV (eI T.q6 (sV T) hr aK (aa (ja 4) (aa (O 0) aj))) ak (aH _)) (ja 2) (ja 3)))))
   (au (aC (bu (aa (cy aJ (O 0) ak) (aa (c7 di T.zn Bt.tuple (aa (O 7) aj)) aj)))))))))),?_⟩
 refine⟨_,Z,_,Z,a,p,r,rs,v,ns,tr,Z,hm,hf,fun hall=>?_,k2⟩;have k1:=k1 hall;cases hb:aQ (sel rs (aU ns tr))with
 |none=>rw[hb]at k1;exact k1
 | some x =>
  rw[hb]at k1;cases hk:aQ (sel rs (aP ns tr))with
  |none=>rw[hk]at k1;exact k1
  | some y =>
   rw[hk]at k1;intro b H1 s1 NH;have hm1:=hm.mono s1;obtain⟨hp,h8,lj,ht,hsz,hd,hL,xh⟩:=id hf;refine⟨_,Z,_,_,Z,_,Z,b,_,0,.int x,Z,Z,SqT.of NH,Z,_,_,Z,Z,?_⟩;refine⟨_,Z,_,Z,_,_,Z,_,Z,b,_,1,.int y,Z,Z,SqT.of NH,Z,_,_,Z,Z,?_⟩;refine⟨_,Z,a,_,0,.ref p,Z,Z,SqT.of hm1.1,Z,_,Z,p,v,ns,tr,Z,⟨s1 _ _ hp,h8,lj,ht.mono s1.tups,hsz,hd,hL,xh⟩,fun _ H2 s2=>?_,fun z=>absurd hall z⟩;have qS:=hm1.mono s2;have mh:=s1.trans s2;refine⟨_,Z,a,_,1,.ref r,Z,Z,SqT.of qS.1,Z,r,Z,⟨_,SqT.of qS.2.1⟩,?_⟩;refine jc (K:=K) (a:=r) (xs:=rs.map V.int) (fun i ys J=>bb H2 J/\ys=(iu rs (aU ns tr) (dD lean-x) (dD (-lean)-y) i).map V.int) ⟨bb.refl _,rfl⟩ (lk (by rw[dn];have:=hm.2.2;exact G)) (fun i ys J ⟨_,e⟩=>by rw[e,dn,sO];exact qnr _) (fun i ys J ⟨s3,_⟩=>SqT.of (s3 _ _ qS.2.1)) ?_ ?_
   .rintro i z ys H3 hi ⟨s3,rfl⟩ e he
    rw[lS]at hi
    obtain⟨u,hx,rfl⟩:∃ u,rs[i]?=some u/\z=V.int u:=by
     cases q:rs[i]? with
     |none=>rw[q]at hi;cases hi
     |some u=>rw[q]at hi;exact⟨u,Z,(kF hi).symm⟩
    have s4:=s3.trans (aA (o:=.tup [.int i,.int u]) he);refine⟨e,_,Z,SqT.of ao,Z,_,_,Z,_,_,Z,Z,⟨Z,Z,Z,trivial⟩,?_⟩;refine⟨_,Z,_,Z,_,Z,aU ns tr,i,Z,Z,_,Z,?_⟩;rw[yZ];unfold gr;have ex:rs.getD i 0=u:=by rw[List.getD,hx];rfl
    cases hbt:(aU ns tr).testBit i with
    | true =>
     refine bN ?_;refine⟨_,Z,_,_,Z,Z,s4,?_⟩;rw[show(if true=true then dD lean-x else dD (-lean)-y)=dD lean-x from qp rfl,ar,ex]
     rfl
    | false =>
     refine bz ?_;refine⟨_,Z,_,_,Z,Z,s4,?_⟩;rw[show(if false=true then dD lean-x else dD (-lean)-y)=dD (-lean)-y from bX b4,ar,ex]
     rfl
   rintro ys H3 ⟨s3,rfl⟩ l hl;rw[dn];have s4:=s3.trans (aA (o:=.lst ((iu rs (aU ns tr) (dD lean-x) (dD (-lean)-y) rs.length).map V.int)) hl);refine⟨_,Z,a,_,0,.ref p,Z,Z,SqT.of (s4 _ _ qS.1),Z,_,Z,l,_,Z,.inl ⟨b3.of ao,fun q hq=>?_⟩⟩;have s5:=aA (o:=.tup ((iu rs (aU ns tr) (dD lean-x) (dD (-lean)-y) rs.length).map V.int)) hq;refine⟨lk obz,fun c hc=>?_⟩;have s6:=aA (o:=.tup [.ref p,.ref q]) hc;exact k1 c q _ (((mh.trans s4).trans s5).trans s6) ⟨ao,s6 _ _ ao,by rw[jG];exact hm.2.2⟩
inductive LP(t:l9)(vs:List V)(H:Hp)(Q:VK)(E:XK):Prop
 |mk(a p r:Addr)(rs:List Int)(v:V)(ns:List Str)(tr:Tr)(_:vs=[.ref a,v])(_:cq H a p r rs)(_:gx ns rs)(_:Fits H p v ns tr)(_:((∀ x∈tr.names,x∈ns)->match aQ (sel rs (aU ns tr))with|none=>∀ J,bb H J->E (.ref t.zi) none J|some _=>∀(b q:Addr)(J:Hp),bb H J->cq J b p q (jC ns tr rs)->Q (.ref b) J))(_:((¬ ∀ x∈tr.names,x∈ns)->∀ J,bb H J->E (.ref t.zh) none J))
theorem Nh(T:Txt P w K mg t):FM P w base T.q29 121 (LP t):=by
 refine T.q29.F.fk (N:=["mind","tree"]) eP ?_;rintro nd _ _ _ _ H vs Q E hr ⟨a,p,r,rs,v,ns,tr,rfl,hm,hM,hf,k1,k2⟩
 refine⟨_,(aq (aO (cz (eI T.q20 (Nf T) hr bI (aa (O 0) (aa (O 1) aj))))
    (au (aC (eI T.q28 (ut T) hr bI (aa (O 0) (aa (O 1) (aa ak aj))))))
    aM)
   (au (aC (O 0)))),?_⟩
 refine⟨_,Z,_,Z,a,p,r,rs,v,ns,tr,Z,hm,hf,fun hall H1 s1=>?_,k2⟩;have k1:=k1 hall;obtain⟨hp,h8,lj,ht,hsz,hd,hL,xh⟩:=id hf;have hm1:=hm.mono s1;have hf1:Fits H1 p v ns tr:=⟨s1 _ _ hp,h8,lj,ht.mono s1.tups,hsz,hd,hL,xh⟩
 have eg:jC ns tr rs=match aQ (sel rs (aU ns tr)),aQ (sel rs (aP ns tr))with|some x,some y=>if 0<x then gq rs (aU ns tr) x y 0 else rs|_,_=>rs:=rfl
 cases hb:aQ (sel rs (aU ns tr))with
 | none =>
  rw[hb]at k1;refine⟨_,Z,bN ?_⟩;refine⟨_,Z,_,Z,a,p,r,rs,v,ns,tr,0,Z,hm1,hf1,fun _=>?_,fun z=>absurd hall z⟩;rw[hb];exact fun H2 s2=>k1 H2 (s1.trans s2)
 | some x =>
  rw[hb]at k1 eg;refine⟨_,Z,aN (fun c=>?_) (fun c=>?_)⟩
  .have c:0<x:=eS c
   refine⟨_,Z,_,Z,a,p,r,rs,v,ns,tr,0,Z,hm1,hf1,fun _=>?_,fun z=>absurd hall z⟩;rw[hb];cases hk:aQ (sel rs (aP ns tr))with
   | none =>
    rcases FZ hM.len tr hM.zero with h|h
    .have:=(cU hb).2 _ h
     exact G
    rw[jU hk]at h;cases h
   | some y =>
    rw[hk]at eg;have eg:jC ns tr rs=if 0<x then gq rs (aU ns tr) x y 0 else rs:=eg;rw[qp c]at eg;rw[eg]at k1;exact fun b q H2 s2 qS=>k1 b q H2 (s1.trans s2) qS
  have c:¬0<x:=fun z=>c (cK z)
  have eg:jC ns tr rs=rs:=by
   rw[eg];cases hk:aQ (sel rs (aP ns tr))with
   |none=>rfl
   |some y=>exact bX c
  rw[eg]at k1;exact⟨_,Z,k1 a r H1 s1 hm1⟩
inductive LG(t:l9)(vs:List V)(H:Hp)(Q:VK)(E:XK):Prop
 |mk(a p r:Addr)(rs:List Int)(v:V)(ns:List Str)(tr:Tr)(firm:Int)(_:vs=[.ref a,v,.int firm])(_:cq H a p r rs)(_:Fits H p v ns tr)(_:((∀ x∈tr.names,x∈ns)->match aQ (sel rs (aU ns tr)),aQ (sel rs (aP ns tr))with|some _,none=>∀ J,bb H J->E (.ref t.zj) none J|_,_=>∀(b q:Addr)(J:Hp),bb H J->cq J b p q (je ns tr rs firm)->Q (.ref b) J))(_:((¬ ∀ x∈tr.names,x∈ns)->∀ J,bb H J->E (.ref t.zh) none J))
theorem Ni(T:Txt P w K mg t):FM P w base T.q30 121 (LG t):=by
 refine T.q30.F.fk (N:=["mind","tree","firm"]) eP ?_;rintro nd _ _ _ _ _ _ _ _ hr ⟨a,p,r,rs,v,ns,tr,firm,rfl,hm,hf,k1,k2⟩
 refine⟨_,(aq (aO (aF ik (eI T.q19 (uq T) hr bI (aa (O 0) (aa (O 1) aj))) bL (aH _))
    (au (aC (O 0)))
    aM)
   (au (aC (eI T.q28 (ut T) hr bI (aa (O 0) (aa (O 1) (aa (O 2) aj))))))),?_⟩
 refine⟨_,Z,_,Z,a,p,r,rs,v,ns,tr,Z,hm,hf,fun hall H1 s1=>?_,k2⟩;have k1:=k1 hall;obtain⟨hp,h8,lj,ht,hsz,hd,hL,xh⟩:=id hf;have hm1:=hm.mono s1;have hf1:Fits H1 p v ns tr:=⟨s1 _ _ hp,h8,lj,ht.mono s1.tups,hsz,hd,hL,xh⟩
 unfold je at k1;refine⟨Z,_,Z,?_⟩;cases hb:aQ (sel rs (aU ns tr))with
 | none =>
  rw[hb]at k1;rw[show decide (mG none=V.non)=true from cK rfl];exact bN ⟨_,rfl,k1 a r H1 s1 hm1⟩
 | some x =>
  rw[hb]at k1;rw[show decide (mG (some x)=V.non)=false from gX (by intro z;cases z)];refine bz ?_;refine⟨_,Z,_,Z,_,Z,a,p,r,rs,v,ns,tr,firm,Z,hm1,hf1,fun _=>?_,fun z=>absurd hall z⟩;rw[hb];cases hk:aQ (sel rs (aP ns tr))with
  | none =>
   rw[hk]at k1;exact fun H2 s2=>k1 H2 (s1.trans s2)
  | some y =>
   rw[hk]at k1;exact fun b q H2 s2 qS=>k1 b q H2 (s1.trans s2) qS
theorem Rx:¬(("standing":Str)="taken_back"):=by decide +kernel
def lf(sl bl:Addr):List (Str×V):=bf "taken_back" (.ref bl) (bf "standing" (.ref sl) [])
theorem sW(sl bl:Addr):(lf sl bl).lookup ("standing":Str)=some (.ref sl):=by
 unfold lf;rw[bB,bX Rx,bB,qp rfl]
theorem CP(sl bl:Addr):(lf sl bl).lookup ("taken_back":Str)=some (.ref bl):=by
 unfold lf;rw[bB,qp rfl]
theorem eN(sl bl:Addr)  (h1:¬m="taken_back") (h2:¬m="standing"):(lf sl bl).lookup m=none:=by
 unfold lf;rw[bB,bX h1,bB,bX h2]
 rfl
theorem vf(f:Str)(u v:V):∀ l:List (Str×V),bf f u (bf f v l)=bf f u l
 |[]=>by simp[bf]
 | (g,x):: r=>by
  by_cases h:g=f
  .simp[bf,h]
  simp[bf,h,vf f u v r]
theorem Qq(sl bl bl':Addr):bf "taken_back" (.ref bl') (lf sl bl)=lf sl bl':=vf _ _ _ _
structure fo(C:Addr)(H:Hp)(p dx sl bl:Addr)(mv bv:List V):Prop where
 ob:H p=some (.ins C dx (lf sl bl))
 ne:sl≠bl
 st:H sl=some (.lst mv)
 tb:H bl=some (.lst bv)
inductive F5(C:Addr)(vs:List V)(H:Hp)(Q:VK)(E:XK):Prop
 |mk(p dx sl bl:Addr)(mv bv:List V)(y:V)(_:vs=[.ref p])(_:fo C H p dx sl bl (mv++[y]) bv)(_:Q y H)
inductive DA(C:Addr)(vs:List V)(H:Hp)(Q:VK)(E:XK):Prop
 |mk(p dx sl bl:Addr)(mv bv:List V)(_:vs=[.ref p])(_:fo C H p dx sl bl mv bv)(_:Q (.int ((mv.length:Int)-1)) H)
inductive Bz(C:Addr)(vs:List V)(H:Hp)(Q:VK)(E:XK):Prop
 |mk(p dx sl bl:Addr)(mv bv:List V)(_:vs=[.ref p])(_:fo C H p dx sl bl mv bv)(_:Q (.int (bv.length:Int)) H)
inductive wm(C:Addr)(vs:List V)(H:Hp)(Q:VK)(E:XK):Prop
 |mk(p dx sl bl:Addr)(mv bv:List V)(y:V)(_:vs=[.ref p,y])(_:fo C H p dx sl bl mv bv)(_:mv.length<=500)(_:∀(bl':Addr)(J:Hp),H bl'=none->fo C J p dx sl bl' (mv++[y]) []->(∀ b o,H b=some o->b≠p->b≠sl->J b=some o)->Q .non J)
theorem lA(T:Txt P w K mg t):Fm P w mg base T.q41 1 (F5 t.za):=by
 refine T.q41.F.fk (N:=["self"]) eP ?_;rintro nd _ _ _ _ _ _ _ _ hr ⟨p,dx,sl,bl,mv,bv,y,rfl,U,k⟩;refine⟨_,(au (aC (cy bj (bF (O 0) rfl) (iW gQ ak)))),?_⟩;exact⟨_,Z,p,t.za,dx,_,_,Z,U.ob,T.ze,T.zB,sW _ _,1,Z,sl,_,_,y,Z,Z,b3.of U.st,iI mv y,k⟩
theorem Gg(T:Txt P w K mg t):Fm P w mg base T.q43 1 (DA t.za):=by
 refine T.q43.F.fk (N:=["self"]) eP ?_;rintro nd _ _ _ _ _ _ _ _ hr ⟨p,dx,sl,bl,mv,bv,rfl,U,k⟩;refine⟨_,(au (aC (aD cX (aY aX T.zd Bt.len (aa (bF (O 0) rfl) aj)) ak))),?_⟩;exact⟨_,Z,p,t.za,dx,_,_,Z,U.ob,T.ze,T.zB,sW _ _,sl,mv,Z,.inl (b3.of U.st),_,_,Z,Z,k⟩
theorem CQ(T:Txt P w K mg t):Fm P w mg base T.q44 1 (Bz t.za):=by
 refine T.q44.F.fk (N:=["self"]) eP ?_;rintro nd _ _ _ _ _ _ _ _ hr ⟨p,dx,sl,bl,mv,bv,rfl,U,k⟩;refine⟨_,(au (aC (aY aX T.zd Bt.len (aa (bF (O 0) rfl) aj)))),?_⟩;exact⟨_,Z,p,t.za,dx,_,_,Z,U.ob,T.ze,T.zE,CP _ _,bl,bv,Z,.inl (b3.of U.tb),k⟩
theorem lQ(T:Txt P w K mg t):Fm P w mg base T.q34 1 (wm t.za):=by
 refine T.q34.F.fk (N:=["self","behind"]) eP ?_;rintro nd _ _ _ _ H _ _ _ hr ⟨p,dx,sl,bl,mv,bv,y,rfl,U,h500,k⟩
 refine⟨_,(aq (bw (bY PySem.F.plainAttrs_list PySem.F.slot_list_append PySem.F.type_list_append cD (bF (O 0) rfl) (aa (O 1) aj)))
   (au (iY (O 0) (bx aj) rfl))),?_⟩
 have tF:p≠sl:=aZ U.ob U.st;refine⟨_,Z,p,t.za,dx,_,_,Z,U.ob,T.ze,T.zB,sW _ _,.inl ⟨Z,_,b3.of U.st⟩,_,Z,sl,_,_,Z,Z,U.st,cO G,?_⟩;refine⟨lk obz,fun bl' ub=>?_⟩;have Xq:bl'≠sl:=fun z=>by subst z;rw[ao]at ub;cases ub
 have EB:H bl'=none:=by rw[aB Xq]at ub;exact ub
 have E3:p≠bl':=aG U.ob EB;refine⟨_,Z,p,t.za,dx,_,Z,by rw[aB E3,aB tF];exact U.ob,T.ze,T.zE,(by show 2<1000;decide),?_⟩;rw[Qq];refine k bl' _ EB ⟨ao,aS Xq,?_,?_⟩ fun b o e h1 h2=>?_
 .rw[aB (aS tF),aB (aS Xq),ao]
 .rw[aB (aS E3),ao]
 rw[aB h1,aB (aG e EB),aB h2];exact e
theorem fo.mono(s:bb H J){p:Addr}(U:fo C H p dx sl bl mv bv):fo C J p dx sl bl mv bv:=⟨s _ _ U.ob,U.ne,s _ _ U.st,s _ _ U.tb⟩
def jV(p sl:Addr)(H J:Hp):Prop:=∀ b o,H b=some o->b≠p->b≠sl->J b=some o
inductive F3(t:l9)(vs:List V)(H:Hp)(Q:VK)(E:XK):Prop
 |mk(p dx sl bl:Addr)(mv bv:List V)(a np r:Addr)(rs:List Int)(v:V)(ns:List Str)(tr:Tr)(firm:Int)(_:vs=[.ref p,v,.int firm])(_:fo t.za H p dx sl bl (mv++[.ref a]) bv)(_:mv.length<=400)(_:cq H a np r rs)(_:Fits H np v ns tr)(_:((∀ x∈tr.names,x∈ns)->match aQ (sel rs (aU ns tr)),aQ (sel rs (aP ns tr))with|some _,none=>∀ J,bb H J->E (.ref t.zj) none J|_,_=>∀(b q bl':Addr)(J:Hp),H bl'=none->jV p sl H J->fo t.za J p dx sl bl' (mv++[.ref a]++[.ref b]) []->cq J b np q (je ns tr rs firm)->Q .non J))(_:((¬ ∀ x∈tr.names,x∈ns)->∀ J,bb H J->E (.ref t.zh) none J))
inductive F7(t:l9)(vs:List V)(H:Hp)(Q:VK)(E:XK):Prop
 |mk(p dx sl bl:Addr)(mv bv:List V)(a np r:Addr)(rs:List Int)(v:V)(ns:List Str)(tr:Tr)(_:vs=[.ref p,v])(_:fo t.za H p dx sl bl (mv++[.ref a]) bv)(_:mv.length<=400)(_:cq H a np r rs)(_:gx ns rs)(_:Fits H np v ns tr)(_:((∀ x∈tr.names,x∈ns)->match aQ (sel rs (aU ns tr))with|none=>∀ J,bb H J->E (.ref t.zi) none J|some _=>∀(b q bl':Addr)(J:Hp),H bl'=none->jV p sl H J->fo t.za J p dx sl bl' (mv++[.ref a]++[.ref b]) []->cq J b np q (jC ns tr rs)->Q .non J))(_:((¬ ∀ x∈tr.names,x∈ns)->∀ J,bb H J->E (.ref t.zh) none J))
theorem lR{p:Addr}(U:fo C H p dx sl bl mv bv)(k:jV p sl H J){q:Addr}(h:cq H b np q rs):cq J b np q rs :=
 ⟨k _ _ h.1 (aZ h.1 U.ob) (aZ h.1 U.st),k _ _ h.2.1 (aZ h.2.1 U.ob) (aZ h.2.1 U.st),h.2.2⟩
theorem JB(T:Txt P w K mg t):Fm P w mg base T.q35 122 (F3 t):=by
 refine T.q35.F.fk (N:=["self","tree","firm"]) eP ?_;rintro nd _ _ _ _ H _ Q _ hr ⟨p,dx,sl,bl,mv,bv,a,np,r,rs,v,ns,tr,firm,rfl,U,ma,hm,fit,k,kn⟩;refine⟨_,(au (bw (E1 (O 0) T.ze T.q34 (lQ T) hr aK (aa (eI T.q30 (Ni T) hr bI (aa (gR (O 0) T.ze T.q41 (lA T) hr aK) (aa (O 1) (aa (O 2) aj)))) aj)))),?_⟩
 have go:∀(b q:Addr)(H1:Hp),bb H H1->cq H1 b np q (je ns tr rs firm)->(∀(b q bl':Addr)(J:Hp),H bl'=none->jV p sl H J->fo t.za J p dx sl bl' (mv++[.ref a]++[.ref b]) []->cq J b np q (je ns tr rs firm)->Q .non J) ->
   wm t.za [.ref p,.ref b] H1 (fun _ J=>Q .non J) E0:=fun b q H1 s1 hm1 k=>⟨p,dx,sl,bl,mv++[.ref a],bv,.ref b,rfl,U.mono s1,by rw[af];show mv.length+1<=500;exact G,fun bl' H2 EB U2 kp=>k b q bl' H2 (s1.free EB) (fun c o e h1 h2=>kp c o (s1 _ _ e) h1 h2) U2 (lR (U.mono s1) kp hm1)⟩
 refine⟨_,Z,p,dx,_,Z,U.ob,eN _ _ dk dk,_,Z,p,dx,_,Z,U.ob,eN _ _ dk dk,p,dx,sl,bl,mv,bv,.ref a,Z,U,_,Z,_,Z,a,np,r,rs,v,ns,tr,firm,Z,hm,fit,fun hall=>?_,kn⟩;have k:=k hall;cases hb:aQ (sel rs (aU ns tr))with
 | none =>
  rw[hb]at k;exact fun b q H1 s1 hm1=>go b q H1 s1 hm1 k
 | some x =>
  cases hk:aQ (sel rs (aP ns tr))with
  | none =>
   rw[hb,hk]at k;exact k
  | some y =>
   rw[hb,hk]at k;exact fun b q H1 s1 hm1=>go b q H1 s1 hm1 k
theorem JC(T:Txt P w K mg t):Fm P w mg base T.q36 122 (F7 t):=by
 refine T.q36.F.fk (N:=["self","tree"]) eP ?_;rintro nd _ _ _ _ H vs Q E hr ⟨p,dx,sl,bl,mv,bv,a,np,r,rs,v,ns,tr,rfl,U,ma,hm,hM,fit,k,kn⟩;refine⟨_,(au (bw (E1 (O 0) T.ze T.q34 (lQ T) hr aK (aa (eI T.q29 (Nh T) hr bI (aa (gR (O 0) T.ze T.q41 (lA T) hr aK) (aa (O 1) aj))) aj)))),?_⟩;refine⟨_,Z,p,dx,_,Z,U.ob,eN _ _ dk dk,_,Z,p,dx,_,Z,U.ob,eN _ _ dk dk,p,dx,sl,bl,mv,bv,.ref a,Z,U,_,Z,a,np,r,rs,v,ns,tr,Z,hm,hM,fit,fun hall=>?_,kn⟩;have k:=k hall;cases hb:aQ (sel rs (aU ns tr))with
 | none =>
  rw[hb]at k;exact k
 | some x =>
  rw[hb]at k;exact fun b q H1 s1 hm1=>⟨p,dx,sl,bl,mv++[.ref a],bv,.ref b,rfl,U.mono s1,by rw[af];show mv.length+1<=500;exact G,fun bl' H2 EB U2 kp=>k b q bl' H2 (s1.free EB) (fun c o e h1 h2=>kp c o (s1 _ _ e) h1 h2) U2 (lR (U.mono s1) kp hm1)⟩
inductive LV(vs:List V)(H:Hp)(Q:VK)(E:XK):Prop
 |mk(p:Addr)(ns:List Str)(_:vs=[.ref p])(_:H p=some (.tup (ns.map V.str)))(_:1<=ns.length)(_:ns.length<=8)(_:∀(a r:Addr)(J:Hp),bb H J->J r=some (.tup ((List.replicate (2^ns.length) (0:Int)).map V.int))->J a=some (.tup [.ref p,.ref r])->Q (.ref a) J)
inductive F6(C:Addr)(vs:List V)(H:Hp)(Q:VK)(E:XK):Prop
 |mk(p dx np:Addr)(ns:List Str)(_:vs=[.ref p,.ref np])(_:H p=some (.ins C dx []))(_:H np=some (.tup (ns.map V.str)))(_:1<=ns.length)(_:ns.length<=8)(_:∀(sl bl m r:Addr)(J:Hp),H sl=none->H bl=none->fo C J p dx sl bl [.ref m] []->cq J m np r (List.replicate (2^ns.length) (0:Int))->(∀ b o,H b=some o->b≠p->J b=some o)->Q .non J)
theorem Nj(T:Txt P w K mg t):FM P w base T.q17 1 LV:=by
 refine T.q17.F.fk (N:=["names"]) eP ?_;rintro nd _ _ _ _ _ _ _ _ hr ⟨p,ns,rfl,hp,h1,h8,k⟩;refine⟨_,(au (aC (bu (aa (O 0) (aa (aD MJ (bu (aa ak aj)) (aD gO ak (aY aX T.zd Bt.len (aa (O 0) aj)))) aj))))),?_⟩;have sD:2^ns.length<=256:=b6 (n:=2) b4 h8;have h2:2<=2^ns.length:=b6 (n:=2) (i:=1) b4 h1;have e1:(1:Int)*2^(((ns.map V.str).length:Nat):Int).toNat=((2^ns.length:Nat):Int):=by rw[dn,bq];simp
 have er:(List.replicate (2^ns.length) [V.int 0]).flatten=(List.replicate (2^ns.length) (0:Int)).map V.int:=by simp
 refine⟨_,Z,lk obz,fun q hq=>?_⟩;have u1:=aA (o:=.tup [.int 0]) hq;refine⟨_,Z,p,_,Z,.inr (SqT.of (u1 _ _ hp)),_,_,Z,Z,⟨by rw[dn];exact G,by rw[dn];exact G,b4⟩,?_⟩
 try dsimp -proj -iota only
 rw[e1];refine⟨q,_,[.int 0],Z,Z,SqT.of ao,df _ _,G,G,?_,fun q2 hq2=>?_⟩
 .rw[bq]
  exact lk (by simp;exact G)
 rw[bq,er];have u2:=aA (o:=.tup ((List.replicate (2^ns.length) (0:Int)).map V.int)) hq2;refine⟨lk obz,fun a ha=>?_⟩;have u3:=aA (o:=.tup [.ref p,.ref q2]) ha;exact k a q2 _ ((u1.trans u2).trans u3) (u3 _ _ ao) ao
theorem JD(T:Txt P w K mg t):Fm P w mg base T.q33 2 (F6 t.za):=by
 refine T.q33.F.fk (N:=["self","names"]) eP ?_;rintro nd _ _ _ _ H vs Q E hr ⟨p,dx,np,ns,rfl,hp,hn,h1,h8,k⟩
 refine⟨_,(aq (iY (O 0) (bx (aa (eI T.q17 (Nj T) hr aK (aa (O 1) aj)) aj)) rfl)
   (au (iY (O 0) (bx aj) rfl))),?_⟩
 refine⟨_,Z,np,ns,Z,hn,h1,h8,fun m r H1 s1 E6 hm1=>⟨lk obz,fun sl hsl=>?_⟩⟩;have u1:=aA (o:=.lst [.ref m]) hsl;have hp1:=s1 _ _ hp;have tF:p≠sl:=aG hp1 hsl;refine⟨_,Z,p,t.za,dx,_,Z,u1 _ _ hp1,T.ze,T.zB,(by show 0<1000;decide),?_⟩;refine⟨lk obz,fun bl ub=>?_⟩;have E3:p≠bl:=aG ao ub;have ND:(upd H1 sl (.lst [.ref m])) bl=none:=by rw[aB (aS E3)]at ub;exact ub
 have Wf:sl≠bl:=aG ao ND;have IF:H1 bl=none:=by rw[aB (aS Wf)]at ND;exact ND
 refine⟨_,Z,p,t.za,dx,_,Z,by rw[aB E3];exact ao,T.ze,T.zE,(by show 1<1000;decide),?_⟩
 have keep:∀ b o,H1 b=some o->b≠p->(upd (upd (upd (upd H1 sl (.lst [.ref m])) p (.ins t.za dx (bf "standing" (.ref sl) []))) bl (.lst [])) p (.ins t.za dx (bf "taken_back" (.ref bl) (bf "standing" (.ref sl) [])))) b=some o:=fun b o e hb=>by
  rw[aB hb,aB (aG e IF),aB hb,aB (aG e hsl)];exact e
 refine k sl bl m r _ (s1.free hsl) (s1.free IF) ⟨ao,Wf,?_,?_⟩ ⟨keep _ _ hm1 (aZ hm1 hp1),keep _ _ E6 (aZ E6 hp1),?_⟩ fun b o e hb=>keep b o (s1 _ _ e) hb
 .rw[aB (aS tF),aB Wf,aB (aS tF),ao]
 .rw[aB (aS E3),ao]
 rw[c_];exact b6 (n:=2) b4 h8
def CT(sl bl:Addr)(H J:Hp):Prop:=∀ b o,H b=some o->b≠sl->b≠bl->J b=some o
inductive F8(t:l9)(vs:List V)(H:Hp)(Q:VK)(E:XK):Prop
 |mk(p dx sl bl:Addr)(mv bv:List V)(y:V)(_:vs=[.ref p])(_:fo t.za H p dx sl bl (mv++[y]) bv)(_:bv.length<=400)(_:(mv=[]->∀ J,bb H J->E (.ref t.zG) none J))(_:(mv≠[]->∀ J,CT sl bl H J->fo t.za J p dx sl bl mv (bv++[y])->Q .non J))
inductive DB(t:l9)(vs:List V)(H:Hp)(Q:VK)(E:XK):Prop
 |mk(p dx sl bl:Addr)(mv bv:List V)(_:vs=[.ref p])(_:fo t.za H p dx sl bl mv bv)(_:mv.length<=400)(_:(bv=[]->∀ J,bb H J->E (.ref t.zF) none J))(_:(∀ bv' y,bv=bv'++[y]->∀ J,CT sl bl H J->fo t.za J p dx sl bl (mv++[y]) bv'->Q .non J))
theorem JF(T:Txt P w K mg t):Fm P w mg base T.q39 2 (F8 t):=by
 refine T.q39.F.fk (N:=["self"]) eP ?_;rintro nd _ _ _ _ H _ _ _ hr ⟨p,dx,sl,bl,mv,bv,y,rfl,U,ma,ke,k⟩
 refine⟨_,(aq (aO (aF aV (gR (O 0) T.ze T.q43 (Gg T) hr aK) ak (aH _))
    (au (dg dM rfl T.zZ T.zaj (aa az aj)))
    aM)
   (au (bw (bY PySem.F.plainAttrs_list PySem.F.slot_list_append PySem.F.type_list_append cD (bF (O 0) rfl) (aa (ir PySem.F.plainAttrs_list PySem.F.slot_list_pop PySem.F.type_list_pop iZ (bF (O 0) rfl)) aj))))),?_⟩
 have el:(mv++[y]).length=mv.length+1:=by rw[af];rfl
 refine⟨_,Z,p,dx,_,Z,U.ob,eN _ _ dk dk,p,dx,sl,bl,_,bv,Z,U,Z,_,Z,aN (fun c=>?_) (fun c=>?_)⟩
 .have c:=V.int.inj (eS c)
  rw[el]at c;exact⟨vv,ke (kA.mp G) H (bb.refl _)⟩
 have hne:mv≠[]:=fun z=>c (cK (by rw[el,z];rfl))
 have tF:p≠sl:=aZ U.ob U.st;have E3:p≠bl:=aZ U.ob U.tb;refine⟨_,Z,p,t.za,dx,_,_,Z,U.ob,T.ze,T.zE,CP _ _,.inl ⟨Z,_,b3.of U.tb⟩,_,Z,p,t.za,dx,_,_,Z,U.ob,T.ze,T.zB,sW _ _,.inl ⟨Z,_,b3.of U.st⟩,sl,_,y,Z,Z,U.st,oz,?_⟩;rw[eo];refine⟨bl,bv,y,Z,Z,by rw[aB (aS U.ne)];exact U.tb,cO G,?_⟩;refine k hne _ (fun b o e h1 h2=>by rw[aB h2,aB h1];exact e) ⟨by rw[aB E3,aB tF];exact U.ob,U.ne,by rw[aB U.ne,ao],ao⟩
theorem Gh(T:Txt P w K mg t):Fm P w mg base T.q40 2 (DB t):=by
 refine T.q40.F.fk (N:=["self"]) eP ?_;rintro nd _ _ _ _ H vs Q E hr ⟨p,dx,sl,bl,mv,bv,rfl,U,ma,ke,k⟩
 refine⟨_,(aq (aO (aF aV (gR (O 0) T.ze T.q44 (CQ T) hr aK) ak (aH _))
    (au (dg dM rfl T.zY T.zai (aa az aj)))
    aM)
   (au (bw (bY PySem.F.plainAttrs_list PySem.F.slot_list_append PySem.F.type_list_append cD (bF (O 0) rfl) (aa (ir PySem.F.plainAttrs_list PySem.F.slot_list_pop PySem.F.type_list_pop iZ (bF (O 0) rfl)) aj))))),?_⟩
 refine⟨_,Z,p,dx,_,Z,U.ob,eN _ _ dk dk,p,dx,sl,bl,mv,bv,Z,U,Z,_,Z,aN (fun c=>?_) (fun c=>?_)⟩
 .have c:=V.int.inj (eS c)
  exact⟨vv,ke (kA.mp G) H (bb.refl _)⟩
 have hne:bv≠[]:=fun z=>c (cK (by rw[z];rfl))
 obtain⟨bv',y,rfl⟩:∃ bv' y,bv=bv'++[y]:=⟨_,_,(eK hne).symm⟩
 have tF:p≠sl:=aZ U.ob U.st;have E3:p≠bl:=aZ U.ob U.tb;refine⟨_,Z,p,t.za,dx,_,_,Z,U.ob,T.ze,T.zB,sW _ _,.inl ⟨Z,_,b3.of U.st⟩,_,Z,p,t.za,dx,_,_,Z,U.ob,T.ze,T.zE,CP _ _,.inl ⟨Z,_,b3.of U.tb⟩,bl,_,y,Z,Z,U.tb,oz,?_⟩;rw[eo];refine⟨sl,mv,y,Z,Z,by rw[aB U.ne];exact U.st,cO G,?_⟩;refine k bv' y rfl _ (fun b o e h1 h2=>by rw[aB h1,aB h2];exact e) ⟨by rw[aB tF,aB E3];exact U.ob,U.ne,ao,by rw[aB (aS U.ne),ao]⟩
inductive FY(vs:List V)(H:Hp)(Q:VK)(E:XK):Prop
 |mk(c k:Int)(_:vs=[.int c,.int k])(_:0<=k)(_:k<2^20)(_:∀ m:Int,0<=m->Q (.int m) H)
theorem JG(T:Txt P w K mg t):FM P w base T.q93 1 FY:=by
 refine T.q93.F.fk (N:=["_law_cell","_law_k"]) eP ?_;rintro nd _ _ _ _ H vs Q E hr ⟨c,k,rfl,h0,h1,q⟩;refine⟨_,(au (aC (aD cu (aD gM (aD gM (aD cN (aD cu (O 0) ak) ak) (aD cN (aD gM (O 1) (O 1)) ak)) ak) ak))),?_⟩;have m1:EJ k k:=.inl ⟨G,G⟩;have b0:=AR c (show(2305843009213693951:Int)≠0 by decide);have b1:=BE c (show(0:Int)<2305843009213693951 by decide);have m2:EJ (c%2305843009213693951+1) (k*k+48271):=.inl ⟨G,G⟩;refine⟨_,Z,_,_,Z,Z,(by show(0:Int)<2305843009213693951;decide),_,_,Z,Z,_,Z,_,Z,_,_,Z,Z,m1,_,_,Z,Z,_,_,Z,Z,m2,_,_,Z,Z,.inr ⟨b4,b4⟩,_,_,Z,Z,(by show(0:Int)<2147483399;decide),q _ (AR _ b4)⟩
inductive VZ(n:Nat)(vs:List V)(H:Hp)(Q:VK)(E:XK):Prop
 |mk(p:Addr)(ns:List Str)(c d:Int)(_:vs=[.ref p,.int c,.int d])(_:H p=some (.tup (ns.map V.str)))(_:1<=ns.length)(_:ns.length<=8)(_:0<=d)(_:d<n)(_:∀(v:V)(tr:Tr)(J:Hp),bb H J->eD J v tr->tr.depth<=n->tr.size+1<=2^n->(∀ x∈tr.names,x∈ns)->Q v J)
theorem L4:ck ["_law_names","_law_cell","_law_deep","_law_sort","_law_rest","_law_one","_law_verb"] ["_law_names","_law_cell","_law_deep"] (aR Yw):=eP
theorem wu(T:Txt P w K mg t):∀ n:Nat,FO P w K mg base (n+1) t.a95 t.d95 ["_law_names","_law_cell","_law_deep"] (VZ n)
 | 0=>by
  refine T.q95.F.xa L4 (fun vs H Q E h=>by obtain⟨p,ns,c,d,rfl,_⟩:=h;rfl) (fun j_ A outer s H vs Q E hr h=>?_);obtain⟨p,ns,c,d,rfl,_,_,_,h0,h1,_⟩:=h;exact G
 | n + 1 => by
  refine T.q95.F.xa L4 (fun vs H Q E h=>by obtain⟨p,ns,c,d,rfl,_⟩:=h;rfl) (fun j_ A outer s H vs Q E hr h=>?_);obtain⟨p,ns,c,d,rfl,hp,h1,h8,hd0,hdn,k⟩:=h;have nd:=L4.nd;have hpow:1<=2^n:=hW;have hpow2:2^(n+1)=2^n+2^n:=by rw[hU];exact G
  refine⟨_,(aq (fN 3 nd (aD cu (O 1) ak))
   (aq (fN 4 nd (aD fO (O 1) ak))
   (aq (aO (PW.pt (dH (aF aV (O 2) ak (aH _)) (eV (aF ni (O 3) ak (aH _)))))
    (aq (aO (aF aV (aD cu (O 4) ak) ak (aH _))
     (au (aC (bu (aa az aj))))
     aM)
    (aq (aO (aF aV (aD cu (O 4) ak) ak (aH _))
     (au (aC (bu (aa az aj))))
     aM)
    (au (aC (bu (aa az (aa (cy aJ (O 0) (aD cu (aD fO (O 4) ak) (aY aX T.zd Bt.len (aa (O 0) aj)))) aj)))))))
    aM)
   (aq (fN 5 nd (eI T.q95 (wu T n) hr aK (aa (O 0) (aa (aD cu (aD gM (O 4) ak) ak) (aa (aD cX (O 2) ak) aj)))))
   (aq (aO (aF ni (O 3) ak (aH _))
    (au (aC (bu (aa az (aa (O 5) aj)))))
    aM)
   (aq (fN 6 nd (cy bj (bx (aa az (aa az (aa az (aa az (aa az (aa az aj))))))) (aD cX (O 3) ak)))
   (au (aC (bu (aa (O 6) (aa (O 5) (aa (eI T.q95 (wu T n) hr aK (aa (O 0) (aa (aD cu (aD gM (O 4) ak) ak) (aa (aD cX (O 2) ak) aj)))) aj)))))))))))),?_⟩
  refine⟨_,Z,_,_,Z,Z,(by show(0:Int)<11;decide),?_⟩;refine⟨_,Z,_,_,Z,Z,⟨b4,b4⟩,?_⟩
  try dsimp -proj -iota only
  have hw0:=AR c (show(11:Int)≠0 by decide);have hw9:=BE c (show(0:Int)<11 by decide);generalize c%11=way at hw0 hw9 ⊢;generalize c/11=rest;refine⟨_,Z,Z,_,Z,aN (fun c1=>bN ?A1) (fun c1=>⟨_,Z,_,_,Z,Z,_,Z,aN (fun c2=>?A2) (fun c2=>?B)⟩)⟩
  case A1|A2 =>
   refine⟨_,Z,_,_,Z,Z,(by show(0:Int)<12;decide),Z,_,Z,aN (fun _=>?_) (fun _=>⟨_,Z,_,_,Z,Z,(by show(0:Int)<12;decide),Z,_,Z,aN (fun _=>?_) (fun _=>?_)⟩)⟩
   .refine⟨lk obz,fun p1 hp1=>?_⟩
    exact k (.ref p1) .yes _ (aA hp1) (.yes ao) (by show 1<=n+1;exact G) (by show 1+1<=2^(n+1);exact G) fun x hx=>by cases hx
   .refine⟨lk obz,fun p1 hp1=>?_⟩
    exact k (.ref p1) .no _ (aA hp1) (.no ao) (by show 1<=n+1;exact G) (by show 1+1<=2^(n+1);exact G) fun x hx=>by cases hx
   have el:((ns.map V.str).length:Int)=ns.length:=by rw[dn]
   have E8:=AR (rest/12) (by omega:((ns.length:Int))≠0);have hq1:=BE (rest/12) (by omega:0<(ns.length:Int));have fS:(rest/12%(ns.length:Int)).toNat<ns.length:=G
   refine⟨_,Z,_,Z,_,_,Z,Z,⟨b4,b4⟩,_,Z,p,_,Z,.inr (SqT.of hp),_,_,Z,Z,(by rw[el];exact G),p,_,_,V.str ns[(rest/12%(ns.length:Int)).toNat],Z,Z,SqT.of hp,qQ (by rw[el];exact E8) ?_,lk obz,fun q hq=>?_⟩
   .rw[el,lS,List.getElem?_eq_getElem fS]
    rfl
   exact k (.ref q) (.nm ns[(rest/12%(ns.length:Int)).toNat]) _ (aA hq) (.nm ao) (by show 1<=n+1;exact G) (by show 1+1<=2^(n+1);exact G) fun x hx=>by
    have hx:x∈[ns[(rest/12%(ns.length:Int)).toNat]]:=hx;rw[aI.mp hx];exact fi fS
  case B =>
   have Xm:1<=d:=by
    have:¬d=0:=fun z=>c1 (cK (b_ V.int z))
    exact G
   have hw2:3<=way:=by
    have:¬way<3:=fun z=>c2 (cK z)
    exact G
   refine⟨_,Z,_,Z,_,_,Z,Z,.inr ⟨b4,b4⟩,_,_,Z,Z,(by show(0:Int)<2147483647;decide),_,Z,_,_,Z,Z,p,ns,_,d-1,Z,hp,h1,h8,G,G,fun v1 t1 H1 s1 ZM hdp1 hsz1 CD=>?_⟩;refine⟨_,Z,_,_,Z,Z,_,Z,aN (fun _=>?_) (fun c3=>?_)⟩
   .refine⟨_,Z,lk obz,fun q hq=>?_⟩
    exact k (.ref q) (.not t1) _ (s1.trans (aA hq)) (.not ao (ZM.mono (aA hq).tups)) (by show t1.depth+1<=n+1;exact G) (by show t1.size+1+1<=2^(n+1);exact G) CD
   have US:5<=way:=by
    have:¬way<5:=fun z=>c3 (cK z)
    exact G
   refine⟨lk obz,fun q1 hq1=>?_⟩;have s3:=aA (o:=.lst [.str "and",.str "or",.str "then",.str "same",.str "and",.str "or"]) hq1
   obtain⟨o,ho⟩:∃ o:Op,sR [V.str "and",V.str "or",V.str "then",V.str "same",V.str "and",V.str "or"] (way-5)=some (.str o.str):=by
    have hw:way-5=0\/way-5=1\/way-5=2\/way-5=3\/way-5=4\/way-5=5:=G
    rcases hw with hw|hw|hw|hw|hw|hw<;>rw[hw]
    .exact⟨.and,Z⟩
    .exact⟨.or,Z⟩
    .exact⟨.thn,Z⟩
    .exact⟨.same,Z⟩
    .exact⟨.and,Z⟩
    exact⟨.or,Z⟩
   refine⟨_,Z,_,_,Z,Z,q1,_,_,.str o.str,Z,Z,b3.of ao,ho,?_⟩;have pb:=s1.trans s3;refine⟨_,Z,_,Z,_,Z,_,Z,_,_,Z,Z,.inr ⟨b4,b4⟩,_,_,Z,Z,(by show(0:Int)<2147483629;decide),_,Z,_,_,Z,Z,p,ns,_,d-1,Z,pb _ _ hp,h1,h8,G,G,fun v2 t2 H2 s2 ZK hdp2 hsz2 BQ=>⟨lk obz,fun q2 hq2=>?_⟩⟩;have s4:=aA (o:=.tup [.str o.str,v1,v2]) hq2;refine k (.ref q2) (.bin o t1 t2) _ ((pb.trans s2).trans s4) (.bin (o:=o) ao (ZM.mono ((s3.trans s2).trans s4).tups) (ZK.mono s4.tups)) (by show max t1.depth t2.depth+1<=n+1;exact G) (by show t1.size+t2.size+1+1<=2^(n+1);exact G) fun x hx=>?_
   rcases aT.mp hx with hx|hx
   .exact CD x hx
   exact BQ x hx
inductive DF(vs:List V)(H:Hp)(Q:VK)(E:XK):Prop
 |mk(n k:Nat)(_:vs=[.int n,.int k])(_:k<n)(_:n<=8)(_:Q (.int (dX n k:Nat)) H)
theorem EZ(k:Nat):(1:Int)*2^((k:Nat):Int).toNat=((2^k:Nat):Int):=by rw[bq];simp
theorem ww{k:Nat}(h:k<=8):2^k<=256:=b6 (n:=2) b4 h
theorem EW{k:Nat}(h:k<=8):(0:Int)<=((2^k:Nat):Int)/\((2^k:Nat):Int)<=1000:=⟨gi _,AD.mpr (gV (ww h) b4)⟩
theorem mU{i j:Int}(h0:0<=j)(h1:j<=1000)(hi:i.natAbs<2^256*2^44):ug i j:=⟨h0,G,bo hi (by rw[<- Nat.pow_add];exact b6 b4 b4)⟩
theorem o9:(1:Int).natAbs<2^256*2^44:=by decide
theorem CV{m:Nat}(h:m<=256):(((2^m-1:Nat):Int)).natAbs<2^256*2^44:=by
 rw[Int.natAbs_natCast];have h1:2^m<=2^256:=b6 b4 h;have h2:1<=2^m:=hW;exact G
theorem UC(m:Nat):(1:Int)*2^((m:Nat):Int).toNat-1=((2^m-1:Nat):Int):=by
 rw[EZ];have:1<=2^m:=hW;exact G
theorem Gi{k:Nat}(h:j<=8):(((dX j k:Nat):Int)).natAbs<2^256*2^44:=by
 rw[Int.natAbs_natCast];have h1:dX j k<2^(2^j):=pU _ _;have h2:2^(2^j)<=2^256:=b6 b4 (ww h);exact G
theorem Gj(T:Txt P w K mg t):FM P w base T.q96 1 DF:=by
 refine T.q96.F.fk (N:=["_law_many","_law_place","_law_told","_law_size"]) eP ?_;rintro nd _ _ _ _ H vs Q E hr ⟨n,kk,rfl,hk,hn,k⟩
 refine⟨_,(aq (fN 2 nd (aD jq (aD cX (aD jq ak (aD jq ak (O 1))) ak) (aD jq ak (O 1))))
   (aq (fN 3 nd (aD jq ak (O 1)))
   (aq (kj l_ (aF ni (O 3) (aD jq ak (O 0)) (aH _))
    (aq (fN 2 nd (aD m9 (O 2) (aD jq (O 2) (O 3))))
    (au (fN 3 nd (aD gM ak (O 3))))))
   (au (aC (O 2)))))),?_⟩
 have hk8:=ww (show kk<=8 by omega);have cA:ug 1 ((kk:Nat):Int):=mU G G o9;have cA2:ug 2 ((kk:Nat):Int):=mU G G b4
 have cB:ug 1 ((1:Int)*2^((kk:Nat):Int).toNat):=by
  rw[EZ];exact mU (EW G).1 (EW G).2 o9
 have cC:ug ((1:Int)*2^((1:Int)*2^((kk:Nat):Int).toNat).toNat-1) ((1:Int)*2^((kk:Nat):Int).toNat):=by
  rw[EZ,UC];exact mU (EW G).1 (EW G).2 (CV hk8)
 refine⟨_,Z,_,_,Z,Z,cA,_,_,Z,Z,cB,_,_,Z,Z,_,Z,_,_,Z,Z,cA,_,_,Z,Z,cC,?_⟩
 have e0:((1:Int)*2^((1:Int)*2^((kk:Nat):Int).toNat).toNat-1)*2^((1:Int)*2^((kk:Nat):Int).toNat).toNat=((dX (kk+1) kk:Nat):Int):=by
  rw[EZ,UC,bq,<- FW,mf];simp
 try dsimp -proj -iota only
 rw[e0];refine⟨_,Z,_,_,Z,Z,cA2,?_⟩
 have e1:(2:Int)*2^((kk:Nat):Int).toNat=((2^(kk+1):Nat):Int):=by
  rw[bq,hU,mE,mf];simp
 try dsimp -proj -iota only
 rw[e1];refine⟨fun m M H2=>∃ j:Nat,M=[some (.int n),some (.int kk),some (.int (dX j kk:Nat)),some (.int (2^j:Nat))]/\H2=H/\kk<j/\j<=n/\m=n-j,⟨_,kk+1,Z,Z,G,G,Z⟩,?_⟩;rintro m M H2 ⟨j,rfl,rfl,hj,hjn,rfl⟩;refine⟨_,Z,_,Z,_,_,Z,Z,mU G G o9,?_⟩
 try dsimp -proj -iota only
 rw[EZ];refine⟨_,_,Z,Z,_,Z,aN (fun c=>?_) (fun c=>?_)⟩
 .have c:((2^j:Nat):Int)<((2^n:Nat):Int):=eS c
  have Z3:j<n:=by
   rcases Nat.lt_or_ge j n with h|h
   .exact h
   have:2^n<=2^j:=b6 b4 h;exact G
  have hj8:=ww (show j<=8 by omega);refine⟨fun σ' J=>∃ m',m'<n-j/\∃ j:Nat,σ'=[some (.int n),some (.int kk),some (.int (dX j kk:Nat)),some (.int (2^j:Nat))]/\J=H2/\kk<j/\j<=n/\m'=n-j,fun _ _ h=>h,?_⟩;refine⟨_,Z,_,Z,_,Z,_,_,Z,Z,mU (EW G).1 (EW G).2 (Gi G),?_⟩;have e2:((dX j kk:Nat):Int)*2^((2^j:Nat):Int).toNat=((dX j kk*2^(2^j):Nat):Int):=by rw[bq,mf];simp
  try dsimp -proj -iota only
  rw[e2];refine⟨_,_,Z,Z,?_⟩
  try dsimp -proj -iota only
  rw[bor,Jm hj];refine⟨_,Z,_,_,Z,Z,.inl ⟨b4,b4⟩,?_⟩;have e3:(2:Int)*((2^j:Nat):Int)=((2^(j+1):Nat):Int):=by rw[hU];exact G
  try dsimp -proj -iota only
  rw[e3];exact⟨_,G,j+1,Z,Z,G,G,Z⟩
 have c:¬((2^j:Nat):Int)<((2^n:Nat):Int):=fun z=>c (cK z)
 have Z3:j=n:=by
  rcases Nat.lt_or_ge j n with h|h
  .have:2^j<2^n:=sT b4 h
   exact G
  exact G
 subst Z3;exact⟨_,Z,k⟩
inductive Dx(d:Nat)(vs:List V)(H:Hp)(Q:VK)(E:XK):Prop
 |mk(p:Addr)(v:V)(ns:List Str)(tr:Tr)(_:vs=[.ref p,v])(_:H p=some (.tup (ns.map V.str)))(_:ns.length<=8)(_:eD H v tr)(_:tr.depth<=d)(_:(∀ x∈tr.names,x∈ns))(_:∀ J,bb H J->Q (.int (aP ns tr:Nat)) J)
theorem Bf(x y:Str):mw (.str x) (.str y)=decide (x=y):=by
 show(x==y)=_
 by_cases z:x=y
 .simp[z]
 simp[z]
theorem vg(ns:List Str)(h:j<ns.length):(ns.map V.str).getD j .non=.str ns[j]:=by
 rw[List.getD,lS,List.getElem?_eq_getElem h]
 rfl
theorem CW{m:Nat}(h:m<ns.idxOf x)(hm:m<ns.length):¬ns[m]=x:=by
 have:=List.not_of_lt_findIdx (p:=fun y=>y==x) (xs:=ns) (i:=m) h;intro z;rw[z]at this;simp at this
theorem se:ck ["_law_names","_law_tree","_law_every","_law_one","_law_other"] ["_law_names","_law_tree"] (aR Yv):=eP
theorem lU(T:Txt P w K mg t):∀ d:Nat,FO P w K mg base (d+2) t.a97 t.d97 ["_law_names","_law_tree"] (Dx d)
 | 0=>by
  refine T.q97.F.xa se (fun vs H Q E h=>by obtain⟨p,v,ns,tr,rfl,_⟩:=h;rfl) (fun j_ A outer s H vs Q E hr h=>?_);obtain⟨p,v,ns,tr,rfl,hp,h8,ht,hd,k⟩:=h;have:=tr.lp;exact G
 | d + 1=>by
  refine T.q97.F.xa se (fun vs H Q E h=>by obtain⟨p,v,ns,tr,rfl,_⟩:=h;rfl) (fun j_ A outer s H vs Q E hr h=>?_);obtain⟨p,v,ns,tr,rfl,hp,h8,ht,hd,nS,k⟩:=h;obtain⟨a,rest,rfl,ha,IB,xp⟩:=ht.open;have nd:=se.nd
  refine⟨_,(aq (fN 2 nd (aD cX (aD gO ak (aD gO ak (aY aX T.zd Bt.len (aa (O 0) aj)))) ak))
   (aq (aO (aF aV (cy aJ (O 1) ak) az (aH _))
    (au (aC (eI T.q96 (Gj T) hr aK (aa (aY aX T.zd Bt.len (aa (O 0) aj)) (aa (PL PySem.F.slot_tuple_index PySem.F.type_tuple_index EY (O 0) (aa (cy aJ (O 1) ak) aj)) aj)))))
    aM)
   (aq (aO (aF aV (cy aJ (O 1) ak) az (aH _))
    (au (aC (O 2)))
    aM)
   (aq (aO (aF aV (cy aJ (O 1) ak) az (aH _))
    (au (aC ak))
    aM)
   (aq (fN 3 nd (eI T.q97 (lU T d) hr aK (aa (O 0) (aa (cy aJ (O 1) ak) aj))))
   (aq (aO (aF aV (cy aJ (O 1) ak) az (aH _))
    (au (aC (aD mJ (O 2) (O 3))))
    aM)
   (aq (fN 4 nd (eI T.q97 (lU T d) hr aK (aa (O 0) (aa (cy aJ (O 1) ak) aj))))
   (aq (aO (aF aV (cy aJ (O 1) ak) az (aH _))
    (au (aC (aD gP (O 3) (O 4))))
    aM)
   (aq (aO (aF aV (cy aJ (O 1) ak) az (aH _))
    (au (aC (aD m9 (O 3) (O 4))))
    aM)
   (aq (aO (aF aV (cy aJ (O 1) ak) az (aH _))
    (au (aC (aD m9 (aD mJ (O 2) (O 3)) (O 4))))
    aM)
   (au (aC (aD mJ (aD mJ (O 2) (O 3)) (O 4)))))))))))))),?_⟩
  have el:(ns.map V.str).length=ns.length:=dn _;have Wo:sR (V.str tr.tag::rest) 0=some (.str tr.tag):=bh (j:=0) rfl;have c1:oH 1 (((ns.map V.str).length:Nat):Int):=⟨G,by rw[el];exact G,b4⟩
  have c2:oH 1 ((1:Int)*2^(((ns.map V.str).length:Nat):Int).toNat):=by
   rw[el,EZ];exact⟨(EW h8).1,by have:=(EW h8).2;exact G,b4⟩
  have ef:(1:Int)*2^((1:Int)*2^(((ns.map V.str).length:Nat):Int).toNat).toNat-1=((cP ns.length:Nat):Int):=by
   rw[el,EZ,UC]
   rfl
  refine⟨_,Z,p,_,Z,.inr (SqT.of hp),_,_,Z,Z,c1,_,_,Z,Z,c2,_,_,Z,Z,?_⟩
  try dsimp -proj -iota only
  rw[ef];refine⟨_,Z,a,_,0,.str tr.tag,Z,Z,SqT.of ha,Wo,Z,_,Z,aN (fun c=>?N) (fun c1=>⟨_,Z,a,_,0,.str tr.tag,Z,Z,SqT.of ha,Wo,Z,_,Z,aN (fun c=>?aaa) (fun c2=>⟨_,Z,a,_,0,.str tr.tag,Z,Z,SqT.of ha,Wo,Z,_,Z,aN (fun c=>?aab) (fun c3=>?R)⟩)⟩)⟩
  case N =>
   obtain⟨x,rfl⟩:=Lh (eS c);have hx:x∈ns:=nS x qms;have hi:=o_.mpr hx;have hg:ns[ns.idxOf x]=x:=List.getElem_idxOf hi;refine⟨_,Z,p,_,Z,.inr (SqT.of hp),_,Z,p,_,Z,hp,_,Z,a,_,1,.str x,Z,Z,SqT.of (Jx ht),Z,p,_,.str x,ns.idxOf x,Z,Z,SqT.of hp,Z,u9 ns,by rw[el];exact hi,?_,fun m hm=>?_,ns.length,ns.idxOf x,?_,hi,h8,k H (bb.refl H)⟩
   .rw[vg ns hi,hg,Bf,cK rfl]
   .rw[vg ns G,Bf]
    exact gX (CW hm G)
   rw[el];rfl
  case aaa =>
   obtain rfl:=Gd (eS c);have k:=k H (bb.refl H);rw[Qc]at k;exact⟨_,Z,k⟩
  case aab =>
   obtain rfl:=Li (eS c);have k:=k H (bb.refl H);rw[Rt]at k;exact k
  case R =>
   cases tr with
   |nm x=>exact absurd (cK rfl) c1
   |yes=>exact absurd (cK rfl) c2
   |no=>exact absurd (cK rfl) c3
   | not u =>
    obtain⟨vu,Vg,WC⟩:=CK ht;have hd:u.depth+1<=d+1:=hd;refine⟨_,Z,_,Z,a,_,1,vu,Z,Z,SqT.of Vg,Z,p,vu,ns,u,Z,hp,h8,WC,G,nS,fun H1 s1=>?_⟩;refine⟨_,Z,a,_,0,.str "not",Z,Z,SqT.of (s1 _ _ Vg),Z,Z,_,Z,aN (fun c=>?_) (fun c=>absurd (cK rfl) c)⟩;refine⟨_,Z,_,Z,_,_,Z,Z,?_⟩;have k:=k H1 s1;rw[Qd,<- bxor]at k;exact k
   | bin o x y =>
    obtain⟨vx,vy,AX,Q_,BF⟩:=CJ ht;have hd:max x.depth y.depth+1<=d+1:=hd;have nn:¬(decide (V.str o.str=V.str ("not":Str))=true):=fun z=>(nJ o).2.2.1 (V.str.inj (eS z))
    refine⟨_,Z,_,Z,a,_,1,vx,Z,Z,SqT.of AX,Z,p,vx,ns,x,Z,hp,h8,Q_,G,fun z hz=>nS z (w9 _ hz),fun H1 s1=>?_⟩;refine⟨_,Z,a,_,0,.str o.str,Z,Z,SqT.of (s1 _ _ AX),Z,Z,_,Z,aN (fun c=>absurd c nn) (fun _=>?_)⟩;refine⟨_,Z,_,Z,a,_,2,vy,Z,Z,SqT.of (s1 _ _ AX),Z,p,vy,ns,y,Z,s1 _ _ hp,h8,BF.mono s1.tups,G,fun z hz=>nS z (pd _ hz),fun H2 s2=>?_⟩;have mh:=s1.trans s2;have k:=k H2 mh;refine⟨_,Z,a,_,0,.str o.str,Z,Z,SqT.of (mh _ _ AX),Z,Z,_,Z,aN (fun c=>?A) (fun c1=>⟨_,Z,a,_,0,.str o.str,Z,Z,SqT.of (mh _ _ AX),Z,Z,_,Z,aN (fun c=>?aab) (fun c2=>⟨_,Z,a,_,0,.str o.str,Z,Z,SqT.of (mh _ _ AX),Z,Z,_,Z,aN (fun c=>?T) (fun c3=>?S)⟩)⟩)⟩
    case A =>
     obtain rfl:o=.and:=pY (o':=.and) (eS c);rw[Qe,<- band]at k;exact⟨_,Z,_,Z,_,_,Z,Z,k⟩
    case aab =>
     obtain rfl:o=.or:=pY (o':=.or) (eS c);rw[Ru,<- bor]at k;exact⟨_,Z,_,Z,_,_,Z,Z,k⟩
    case T =>
     obtain rfl:o=.thn:=pY (o':=.thn) (eS c);rw[Qf,<- bor,<- bxor]at k;exact⟨_,Z,_,Z,_,_,Z,Z,_,Z,_,_,Z,Z,k⟩
    case S =>
     obtain rfl:o=.same:=by
      cases o with
      |and=>exact absurd (cK rfl) c1
      |or=>exact absurd (cK rfl) c2
      |thn=>exact absurd (cK rfl) c3
      |same=>rfl
     rw[M7,<- bxor,<- bxor]at k;exact⟨_,Z,_,Z,_,_,Z,Z,_,Z,_,_,Z,Z,k⟩
inductive Fu(vs:List V)(H:Hp)(Q:VK)(E:XK):Prop
 |mk(i:_)(_:vs=[.int i])(_:Q (.bl true) H)
theorem JH(T:Txt P w K mg t):FM P w base T.q92 1 Fu:=by
 refine T.q92.F.fk (N:=["_law_found"]) eP ?_;rintro nd _ _ _ _ _ _ _ _ hr ⟨i,rfl,k⟩;refine⟨_,(au (aC (oF (aY gk T.zr Bt.isinstance (aa (O 0) (aa (jT (v:=.ty "int") T.zL Bt.int rfl) aj))) (mH (OJ (aY gk T.zr Bt.isinstance (aa (O 0) (aa (jT (v:=.ty "bool") T.zaQ Bt.bool rfl) aj)))))))),?_⟩;refine⟨_,Z,_,_,_,_,true,Z,Z,.int _,Z,_,Z,?_⟩;exact⟨_,Z,_,_,_,_,false,Z,Z,.int _,Z,_,Z,k⟩
theorem xR(hl:rs.length=2^ns.length)(hs:sd≠0)(hi:∀ i,sd.testBit i=true->i<2^ns.length):∃ x,aQ (sel rs sd)=some x:=by
 cases hc:aQ (sel rs sd)with
 |some x=>exact⟨x,Z⟩
 | none =>
  refine absurd (cw fun i=>?_) hs;rw[i'];cases hb:sd.testBit i with
  |false=>rfl
  | true =>
   have:=h_.mpr ⟨i,by rw[hl];exact hi i hb,hb,rfl⟩;rw[jU hc]at this;cases this
inductive LM(vs:List V)(H:Hp)(Q:VK)(E:XK):Prop
 |mk(l:Addr)(ms:List Int)(_:vs=[.ref l])(_:H l=some (.lst (ms.map V.int)))(_:0<ms.length)(_:ms.length<=256)(_:∀(q:Addr)(m:Int)(J:Hp),bb H J->iE ms m->J q=some (.tup ((ms.map fun x=>x-m).map V.int))->Q (.ref q) J)
theorem Nk(T:Txt P w K mg t):FM P w base T.q23 1 LM:=by
 refine T.q23.F.fk (N:=["marks","least"]) eP ?_;rintro nd _ _ _ _ H _ _ _ hr ⟨l,ms,rfl,hl,h0,sD,k⟩
 refine⟨_,(aq (G0 1 nd (aY (oV rfl) T.zD Bt.min (aa (O 0) aj)))
   (au (aC (c7 di T.zn Bt.tuple (aa (bM rfl ["mark","least"] [none,some 1] (bU (O 0)) gT (fun _ _ _ _ _ _=>(iq 0 (kG (l:=["mark","least"])))) (fun _ _ _ _ _ _=>bV) (fun _ _ _ _ _ _=>(aD cX (O 0) (ja 1)))) aj))))),?_⟩
 refine⟨_,Z,l,ms,Z,b3.of hl,h0,fun m hm1 qS=>?_⟩;refine⟨_,Z,l,Z,⟨_,b3.of hl⟩,?_⟩;refine cF (K:=K) (a:=l) (xs:=ms.map V.int) (fun i ys J=>J=H/\ys=((ms.take i).map fun x=>x-m).map V.int) ⟨rfl,rfl⟩ (lk (by rw[dn];exact G)) (fun i ys J ⟨_,e⟩=>by rw[e,dn,dn,bp];exact G) (fun i ys J ⟨e,_⟩=>by subst e;exact b3.of hl) ?_ ?_
 .rintro i z ys J hi ⟨rfl,rfl⟩
  rw[lS]at hi
  obtain⟨c,hc,rfl⟩:∃ c,ms[i]?=some c/\z=V.int c:=by
   cases q:ms[i]? with
   |none=>rw[q]at hi;cases hi
   |some c=>rw[q]at hi;exact⟨c,Z,(kF hi).symm⟩
  refine⟨⟨Z,trivial⟩,?_⟩;refine⟨_,Z,_,Z,_,_,Z,Z,Z,?_⟩;rw[rh,hc,ar,ar]
  rfl
 rintro ys J ⟨rfl,rfl⟩ lc yB;rw[dn,bE];refine⟨lc,_,Z,.inl ⟨b3.of ao,fun q hq=>?_⟩⟩;exact k q m _ ((aA yB).trans (aA hq)) ⟨hm1,qS⟩ ao
def y8(H:Hp)(v:V)(ns:List Str):Prop:=∃(a p:Addr)(u:V),v=.ref a/\H a=some (.tup [.ref p,u])/\H p=some (.tup (ns.map V.str))
theorem y8.tups(s:gc H J):y8 H v ns->y8 J v ns:=fun⟨a,p,u,h1,h2,h3⟩=>⟨a,p,u,h1,s _ _ h2,s _ _ h3⟩
def k6(H:Hp)(p:Addr)(v:V)(x:List Int×Int):Prop:=∃(q a r:Addr),v=.ref q/\H q=some (.tup [.ref a,.int x.2])/\H a=some (.tup [.ref p,.ref r])/\H r=some (.tup (x.1.map V.int))
theorem k6.tups(s:gc H J){p:Addr}{x:List Int×Int}:k6 H p v x->k6 J p v x:=fun⟨q,a,r,h1,h2,h3,h4⟩=>⟨q,a,r,h1,s _ _ h2,s _ _ h3,s _ _ h4⟩
theorem k6.mono(s:bb H J){p:Addr}{x:List Int×Int}(h:k6 H p v x):k6 J p v x:=h.tups s.tups
def xT(N:Nat)(x:List Int×Int):Prop:=x.1.length=N/\x.2.natAbs<2^8192/\∀ z∈x.1,z.natAbs<2^8192
inductive GS(t:l9)(vs:List V)(H:Hp)(Q:VK)(E:XK):Prop
 |mk(l:Addr)(us:List V)(nss:List (List Str))(_:vs=[.ref l])(_:H l=some (.lst us))(_:Paired (y8 H) us nss)(_:(nss=[]->E (.ref t.zO) none H))(_:(∀ n r,nss=n::r->(∀ m∈nss,m=n)->Q .non H))(_:(∀ n r,nss=n::r->(¬ ∀ m∈nss,m=n)->E (.ref t.zP) none H))
inductive C6(t:l9)(vs:List V)(H:Hp)(Q:VK)(E:XK):Prop
 |mk(l p:Addr)(ns:List Str)(us:List V)(ps:List (List Int×Int))(N:Nat)(_:vs=[.ref l])(_:H l=some (.lst us))(_:H p=some (.tup (ns.map V.str)))(_:Paired (k6 H p) us ps)(_:0<us.length)(_:us.length<=100)(_:0<N)(_:N<=256)(_:(∀ x∈ps,xT N x))(_:∀(a r:Addr)(m:Int)(J:Hp),bb H J->iE (cg N ps) m->cq J a p r ((cg N ps).map fun x=>x-m)->Q (.ref a) J)
theorem jW{α β:Type}{F:α->β->Prop}{a:List α}{b:List β}(h:Paired F a b):a.length=b.length:=a_ h
theorem xU(T:Txt P w K mg t):FM P w base T.q24 1 (GS t):=by
 refine T.q24.F.fk (N:=["minds","mind"]) eP ?_;rintro nd _ _ _ _ H _ _ _ hr ⟨l,us,nss,rfl,hl,hp,k0,k1,k2⟩;have hu:=fc hr;have hlen:=jW hp
 refine ⟨_,(aq (aO (aF aV (aY aX T.zd Bt.len (aa (O 0) aj)) ak (aH _))
    (au (dg dM rfl T.zaJ T.zak (aa az aj)))
    aM)
   (au (fM l_ rfl (bU (O 0)) (iq 1 nd)
    (au (aO (aF (Av (gL hu)) (cy aJ (O 1) ak) (cy aJ (cy bj (O 0) ak) ak) (aH _))
     (au (dg dM rfl T.zaL T.zan (aa az aj)))
     aM))))),?_⟩
 refine⟨_,Z,l,_,Z,.inl (b3.of hl),Z,_,Z,?_⟩;cases nss with
 | nil =>
  have e:us.length=0:=hlen;rw[e];exact bN ⟨vv,k0 rfl⟩
 | cons n r =>
  refine aN (fun c=>?_) (fun _=>?_)
  .have c:=eS c
   have c:((us.length:Nat):Int)=0:=V.int.inj c;rw[ba]at hlen;exact G
  obtain⟨u0,us',rfl⟩:∃ u us',us=u::us':=by
   cases us with
   |nil=>rw[ba]at hlen;cases hlen
   |cons u us'=>exact⟨u,us',Z⟩
  obtain⟨y0,hy0,a0,p0,w0,rfl,OU,M1⟩:=bD hp 0 u0 rfl;obtain rfl:n=y0:=kF hy0
  refine⟨_,rfl,l,rfl,⟨_,b3.of hl⟩,gf (K:=K) (a:=l) (xs:=V.ref a0::us') (fun i M H2=>∃ o:Option V,M=[some (.ref l),o]/\H2=H/\∀ m∈(n::r).take i,m=n)
   ⟨none,rfl,rfl,oz⟩ (fun i M H2 _ ⟨_,_,e,_⟩=>by subst e;exact b3.of hl) ?_ ?_⟩
  .rintro i y M H2 hi ⟨o,rfl,rfl,nS⟩
   obtain⟨m,hm,a1,p1,w1,rfl,ha1,hp1⟩:=bD hp i y hi;refine⟨_,Z,a1,_,0,.ref p1,Z,Z,SqT.of ha1,Z,_,Z,l,_,0,.ref a0,Z,Z,b3.of hl,bh (j:=0) rfl,a0,_,0,.ref p0,Z,Z,SqT.of OU,Z,p1,p0,m,n,Z,Z,SqT.of hp1,SqT.of M1,_,Z,?_⟩
   by_cases U9:m=n
   .rw[cK U9]
    refine bz ⟨_,rfl,rfl,fun z hz=>?_⟩;rw[rh,hm]at hz;rcases aT.mp hz with hz|hz
    .exact nS z hz
    have:z=m:=by simpa using hz
    rw[this];exact U9
   rw[gX U9];exact bN ⟨vv,k2 n r rfl fun z=>U9 (z m (qB hm))⟩
  rintro M H2 ⟨o,rfl,rfl,nS⟩;rw[hlen,bE]at nS;exact k1 n r rfl nS
theorem Gk(T:Txt P w K mg t):FM P w base T.q25 2 (C6 t):=by
 refine T.q25.F.fk (N:=["pairs","first","sums","mind","weight"]) eP ?_;rintro nd _ _ _ _ H vs Q E hr ⟨l,p,ns,us,ps,N,rfl,hl,hp,vw,h0,BU,_i,Ta,ID,k⟩;have hlen:=jW vw
 refine⟨_,(aq (bw (eI T.q24 (xU T) hr bI (aa (bM rfl ["mind","weight"] [none,none] (bU (O 0)) gT (fun _ _ _ _ _ _=>(gD (K:=K) (n:=2) rfl rfl (bH (iq 0 (kG (l:=["mind","weight"]))) (bH (iq 1 (kG (l:=["mind","weight"]))) dI)))) (fun _ _ _ _ _ _=>bV) (fun _ _ _ _ _ _=>(O 0))) aj)))
   (aq (fN 1 nd (cy aJ (cy bj (O 0) ak) ak))
   (aq (fN 2 nd (aD El (bx (aa ak aj)) (aY aX T.zd Bt.len (aa (cy aJ (O 1) ak) aj))))
   (aq (fM l_ rfl (bU (O 0)) (oG (n:=2) rfl (bH (iq 3 nd) (bH (pgc 4 nd) dI)))
    (au (gj (i:=2) rfl ["total","rank","weight"] [none,none,some 4] nd rfl rfl (Sx (aa (O 2) (aa (cy aJ (O 3) ak) aj)) T.Y') gT (fun _ _ _ _ _ _=>(gD (K:=K) (n:=2) rfl rfl (bH (iq 0 (kG (l:=["total","rank","weight"]))) (bH (iq 1 (kG (l:=["total","rank","weight"]))) dI)))) (fun _ _ _ _ _ _=>bV) (fun _ _ _ _ _ _=>(aD cN (O 0) (aD MK (ja 2) (O 1)))))))
   (au (aC (bu (aa (cy aJ (O 1) ak) (aa (eI T.q23 (Nk T) hr aK (aa (O 2) aj)) aj))))))))),?_⟩
 refine⟨_,Z,l,Z,⟨_,b3.of hl⟩,?_⟩;refine cF (K:=K) (a:=l) (xs:=us) (fun i ys J=>J=H/\ys.length=i/\Paired (y8 H) ys (List.replicate i ns)) ⟨rfl,rfl,.nil⟩ (lk G) (fun i ys J ⟨_,e,_⟩=>G) (fun i ys J ⟨e,_⟩=>by subst e;exact b3.of hl) ?_ ?_
 .rintro i z ys J hi ⟨rfl,Ki,WS⟩
  obtain⟨x,hx,q,a,r,rfl,hq,ha,so⟩:=bD vw i z hi;refine⟨q,_,Z,SqT.of hq,Z,_,_,Z,_,_,Z,Z,⟨trivial,?_⟩⟩;refine⟨_,Z,Z,by rw[af,Ki];rfl,?_⟩;rw[List.replicate_succ'];exact bJ WS (.cons ⟨a,p,.ref r,rfl,ha,hp⟩ .nil)
 rintro ys J ⟨rfl,Ki,WS⟩ lc yB;have u1:=aA (o:=.lst ys) yB;have WR:=Paired.iA WS fun _ _ z=>y8.tups u1.tups z
 refine⟨lc,ys,_,Z,ao,WR,fun z=>?_,fun n r Sk _=>?_,fun n r Sk z=>?_⟩
 .have:=b_ List.length z
  rw[c_]at this;exact absurd this (by show us.length≠0;exact G)
 rotate_left
 .refine absurd (fun m hm=>?_) z
  have hm1:=(eL.mp hm).2;have CD:n∈List.replicate us.length ns:=by rw[Sk];exact qms
  rw[hm1,(eL.mp CD).2]
 have ow:=u1 _ _ hl;have hp1:=u1 _ _ hp;have MY:=Paired.iA vw fun _ _ z=>k6.mono u1 z
 generalize upd J lc (.lst ys)=H1 at u1 ow hp1 MY ⊢
 obtain⟨u0,us',rfl⟩:∃ u us',us=u::us':=by
  cases us with
  |nil=>exact absurd h0 oz
  |cons u us'=>exact⟨u,us',Z⟩
 obtain⟨x0,Wz,q0,a0,r0,rfl,E8,OU,BM⟩:=bD MY 0 u0 rfl;obtain⟨f1,f2,f3⟩:=ID x0 (qB Wz);refine⟨_,Z,l,_,0,.ref q0,Z,Z,b3.of ow,bh (j:=0) rfl,q0,_,0,.ref a0,Z,Z,SqT.of E8,Z,?_⟩;refine⟨lk obz,fun l0 SD=>?_⟩;have u2:=aA (o:=.lst [.int 0]) SD;refine⟨_,Z,a0,_,1,.ref r0,Z,Z,SqT.of (u2 _ _ OU),Z,r0,_,Z,.inr (SqT.of (u2 _ _ BM)),l0,_,[.int 0],Z,Z,ao,G,by rw[dn,f1];exact G,?_,fun l2 l8=>?_⟩
 .rw[dn,f1,bq]
  exact lk (by simp;exact G)
 have er:(List.replicate ((((x0.1.map V.int).length:Nat):Int).toNat) [V.int 0]).flatten=(cg N []).map V.int:=by
  rw[dn,f1,bq,Ga];simp
 rw[er];have u3:=u2.trans (aA (o:=.lst ((cg N []).map V.int)) l8);have SA:(upd (upd H1 l0 (.lst [.int 0])) l2 (.lst ((cg N []).map V.int))) l2=some (.lst ((cg N []).map V.int)):=ao;generalize upd (upd H1 l0 (.lst [.int 0])) l2 (.lst ((cg N []).map V.int))=H2 at u3 SA ⊢
 refine⟨_,rfl,l,rfl,⟨_,b3.of (u3 _ _ ow)⟩,gf (K:=K) (a:=l) (xs:=V.ref q0::us')
  (fun i M H3=>∃(o1 o2:Option V)(lm:Addr),M=[some (.ref l),some (.ref a0),some (.ref lm),o1,o2]/\bb H1 H3/\H3 lm=some (.lst ((cg N (ps.take i)).map V.int)))
  ⟨none,none,l2,rfl,u3,SA⟩ (fun i M H3 _ ⟨_,_,_,_,s3,_⟩=>b3.of (s3 _ _ ow)) ?_ ?_⟩
 .rintro i y M H3 hi ⟨o1,o2,lm,rfl,s3,Nd⟩
  obtain⟨x,hx,q,a,r,rfl,hq,ha,so⟩:=bD MY i y hi;obtain⟨g1,g2,g3⟩:=ID x (qB hx);have MW:=s3 _ _ so;refine⟨q,_,Z,SqT.of (s3 _ _ hq),Z,_,_,Z,_,_,Z,Z,?_⟩;refine⟨_,Z,_,Z,a,_,1,.ref r,Z,Z,SqT.of (s3 _ _ ha),Z,lm,r,Z,⟨_,b3.of Nd⟩,⟨_,SqT.of MW⟩,?_⟩
  refine Ja (K:=K) (a:=lm) (b:=r) (xs:=(cg N (ps.take i)).map V.int) (ys:=x.1.map V.int) (by rw[dn,dn,iR,g1])
   (fun j zs J=>bb H3 J/\zs=(jH N (ps.take i) x j).map V.int) ⟨bb.refl _,rfl⟩ (lk (by rw[dn,iR];exact G)) (fun j zs J ⟨_,e⟩=>by rw[e,dn,Cz];exact qnr _) (fun j zs J ⟨s4,_⟩=>⟨b3.of (s4 _ _ Nd),SqT.of (s4 _ _ MW)⟩) ?_ ?_
  .rintro j v1 v2 zs H4 h1 h2 ⟨s4,rfl⟩ e he
   rw[lS]at h1 h2
   obtain⟨c1,y3,rfl⟩:∃ c,(cg N (ps.take i))[j]?=some c/\v1=V.int c:=by
    cases qq:(cg N (ps.take i))[j]? with
    |none=>rw[qq]at h1;cases h1
    |some c=>rw[qq]at h1;exact⟨c,Z,(kF h1).symm⟩
   obtain⟨c2,m_,rfl⟩:∃ c,x.1[j]?=some c/\v2=V.int c:=by
    cases qq:x.1[j]? with
    |none=>rw[qq]at h2;cases h2
    |some c=>rw[qq]at h2;exact⟨c,Z,(kF h2).symm⟩
   have s5:=s4.trans (aA (o:=.tup [.int c1,.int c2]) he);refine⟨e,_,Z,SqT.of ao,Z,_,_,Z,_,_,Z,Z,⟨Z,trivial⟩,?_⟩;refine⟨_,Z,_,Z,_,Z,_,_,Z,Z,⟨g2,g3 c2 (qB m_)⟩,_,_,Z,Z,s5,?_⟩;rw[z6,ar];have e1:(cg N (ps.take i)).getD j 0=c1:=by rw[List.getD,y3];rfl
   have e2:x.1.getD j 0=c2:=by rw[List.getD,m_];rfl
   rw[e1,e2]
   rfl
  rintro zs H4 ⟨s4,rfl⟩ lq W6;refine⟨_,_,lq,Z,s3.trans (s4.trans (aA W6)),?_⟩;rw[ao,dn,iR,CG,rh,hx]
  rfl
 rintro M H3 ⟨o1,o2,lm,rfl,s3,Nd⟩;rw[hlen,bE]at Nd;have sl:=iR N ps;refine⟨_,Z,a0,_,0,.ref p,Z,Z,SqT.of (s3 _ _ OU),Z,_,Z,lm,cg N ps,Z,Nd,G,G,fun q m H4 s4 hm hq4=>⟨lk obz,fun a ha=>?_⟩⟩;have u5:=aA (o:=.tup [.ref p,.ref q]) ha;exact k a q m _ (u1.trans ((s3.trans s4).trans u5)) hm ⟨ao,u5 _ _ hq4,by rw[dn,sl];exact Ta⟩
inductive F1(t:l9)(vs:List V)(H:Hp)(Q:VK)(E:XK):Prop
 |mk(p dx sl bl:Addr)(mv bv:List V)(a np r:Addr)(rs:List Int)(v:V)(ns:List Str)(tr:Tr)(lean:Int)(_:vs=[.ref p,v,.int lean])(_:fo t.za H p dx sl bl (mv++[.ref a]) bv)(_:mv.length<=400)(_:cq H a np r rs)(_:Fits H np v ns tr)(_:((∀ x∈tr.names,x∈ns)->match aQ (sel rs (aU ns tr)),aQ (sel rs (aP ns tr))with|none,_=>∀ J,bb H J->E (.ref t.zi) none J|some _,none=>∀ J,bb H J->E (.ref t.zj) none J|some x,some y=>∀(b q bl':Addr)(J:Hp),H bl'=none->jV p sl H J->fo t.za J p dx sl bl' (mv++[.ref a]++[.ref b]) []->cq J b np q (gq rs (aU ns tr) x y lean)->Q .non J))(_:((¬ ∀ x∈tr.names,x∈ns)->∀ J,bb H J->E (.ref t.zh) none J))
inductive F4(t:l9)(vs:List V)(H:Hp)(Q:VK)(E:XK):Prop
 |mk(p dx sl bl:Addr)(mv bv:List V)(a np r:Addr)(rs:List Int)(lq:Addr)(ns:List Str)(us:List V)(ps:List (List Int×Int))(N:Nat)(_:vs=[.ref p,.ref lq])(_:fo t.za H p dx sl bl (mv++[.ref a]) bv)(_:mv.length<=400)(_:cq H a np r rs)(_:H np=some (.tup (ns.map V.str)))(_:H lq=some (.lst us))(_:us.length<=60)(_:Paired (k6 H np) us ps)(_:0<N)(_:N<=256)(_:xT N (rs,1))(_:(∀ x∈ps,xT N x))(_:∀(b q bl':Addr)(m:Int)(J:Hp),H bl'=none->jV p sl H J->fo t.za J p dx sl bl' (mv++[.ref a]++[.ref b]) []->iE (cg N ((rs,1):: ps)) m->cq J b np q ((cg N ((rs,1):: ps)).map fun x=>x-m)->Q .non J)
theorem JK(T:Txt P w K mg t):Fm P w mg base T.q37 121 (F1 t):=by
 refine T.q37.F.fk (N:=["self","tree","lean"]) eP ?_;rintro nd _ _ _ _ _ _ _ _ hr ⟨p,dx,sl,bl,mv,bv,a,np,r,rs,v,ns,tr,lean,rfl,U,ma,hm,fit,k,kn⟩;refine⟨_,(au (bw (E1 (O 0) T.ze T.q34 (lQ T) hr aK (aa (eI T.q28 (ut T) hr bI (aa (gR (O 0) T.ze T.q41 (lA T) hr aK) (aa (O 1) (aa (O 2) aj)))) aj)))),?_⟩;refine⟨_,Z,p,dx,_,Z,U.ob,eN _ _ dk dk,_,Z,p,dx,_,Z,U.ob,eN _ _ dk dk,p,dx,sl,bl,mv,bv,.ref a,Z,U,_,Z,_,Z,a,np,r,rs,v,ns,tr,lean,Z,hm,fit,fun hall=>?_,kn⟩;have k:=k hall;cases hb:aQ (sel rs (aU ns tr))with
 | none =>
  rw[hb]at k;exact k
 | some x =>
  cases hk:aQ (sel rs (aP ns tr))with
  | none =>
   rw[hb,hk]at k;exact k
  | some y =>
   rw[hb,hk]at k;exact fun b q H1 s1 hm1=>⟨p,dx,sl,bl,mv++[.ref a],bv,.ref b,rfl,U.mono s1,by rw[af];show mv.length+1<=500;exact G,fun bl' H2 EB U2 kp=>k b q bl' H2 (s1.free EB) (fun c o e h1 h2=>kp c o (s1 _ _ e) h1 h2) U2 (lR (U.mono s1) kp hm1)⟩
theorem JL(T:Txt P w K mg t):Fm P w mg base T.q38 3 (F4 t):=by
 refine T.q38.F.fk (N:=["self","pairs"]) eP ?_;rintro nd _ _ _ _ H vs Q E hr ⟨p,dx,sl,bl,mv,bv,a,np,r,rs,lq,ns,us,ps,N,rfl,U,ma,hm,lT,W6,h60,vw,_i,hN1,SH,hf,k⟩;refine⟨_,(au (bw (E1 (O 0) T.ze T.q34 (lQ T) hr aK (aa (eI T.q25 (Gk T) hr bI (aa (aD oR (bx (aa (bu (aa (gR (O 0) T.ze T.q41 (lA T) hr aK) (aa ak aj))) aj)) (O 1)) aj)) aj)))),?_⟩;refine⟨_,Z,p,dx,_,Z,U.ob,eN _ _ dk dk,_,Z,p,dx,_,Z,U.ob,eN _ _ dk dk,p,dx,sl,bl,mv,bv,.ref a,Z,U,lk obz,fun q1 hq1=>⟨lk obz,fun q2 hq2=>?_⟩⟩;have s1:=aA (o:=.tup [.ref a,.int 1]) hq1;have s2:=aA (o:=.lst [.ref q1]) hq2;have mh:=s1.trans s2;refine⟨_,Z,q2,lq,_,_,Z,Z,ao,mh _ _ W6,lk (by simp;exact G),fun q3 WQ=>?_⟩;have s3:=aA (o:=.lst ([.ref q1]++us)) WQ;have pb:=mh.trans s3;refine⟨q3,np,ns,[.ref q1]++us,(rs,1):: ps,N,Z,ao,pb _ _ lT,.cons ⟨q1,a,r,Z,s3 _ _ (s2 _ _ ao),pb _ _ hm.1,pb _ _ hm.2.1⟩ (Paired.iA vw fun _ _ z=>z.mono pb),oz,by simp;exact G,_i,hN1,fun x hx=>?_,fun b q m H4 s4 hl Kx=>?_⟩
 .rcases ai.mp hx with rfl|hx
  .exact SH
  exact hf x hx
 have DL:=pb.trans s4;exact⟨p,dx,sl,bl,mv++[.ref a],bv,.ref b,Z,U.mono DL,by rw[af];show mv.length+1<=500;exact G,fun bl' H5 EB U5 kp=>k b q bl' m H5 (DL.free EB) (fun c o e h1 h2=>kp c o (DL _ _ e) h1 h2) U5 hl (lR (U.mono DL) kp Kx)⟩
structure Names(ns:List Str):Prop where
 nd:ns.Nodup
 nm:∀ x∈ns,pz x
inductive C7(vs:List V)(H:Hp)(Q:VK)(E:XK):Prop
 |mk(c n:Int)(_:vs=[.int c,.int n])(_:1<=n)(_:n<=8)(_:∀(p:Addr)(ns:List Str)(J:Hp),bb H J->J p=some (.tup (ns.map V.str))->ns.length=n.toNat->Names ns->Q (.ref p) J)
def rn(c:Nat)(n:Nat):Str:=⟨(List.replicate n c).toArray⟩
theorem ph(c n:Nat):(rn c n).cps.toList=List.replicate n c:=by simp[rn]
theorem Nm(c:Nat)(n:Int):Txt.mul ⟨#[c]⟩ n=rn c n.toNat:=by
 refine M5 ?_;rw[mul_one_list,ph]
theorem jX{i:Int}(h0:0<=i)(h:i<26):sR om.cps.toList i=some (97+i.toNat):=qQ h0 (Cv i.toNat G)
theorem uv(c:Nat):(⟨#[c]⟩:Str).length=1:=rfl
theorem Np(f:Nat->Nat)(n:Nat)(z:Str):(((List.range n).map fun i=>(⟨#[f i]⟩:Str)).map (·.length)).sum+((List.range n).map fun i=>(⟨#[f i]⟩:Str)).length*z.length=n+n*z.length:=by
 have e:∀ l:List Nat,((l.map fun i=>(⟨#[f i]⟩:Str)).map (·.length)).sum=l.length:=by
  intro l
  induction l with
  |nil=>rfl
  | cons x r ih =>
   rw[b5,b5,vT,ih,ba];show 1+r.length=_;exact G
 rw[e,dn,cE]
theorem xV(f:Nat->Nat):∀ l:List Nat,(l.flatMap fun i=>[f i])=l.map f
 |[]=>rfl
 |x::r=>by rw[gN,b5,xV f r];rfl
theorem Gm:("":Str)=⟨#[]⟩:=by decide +kernel
theorem JM(x:Str){u:Int}(hu:0<=u):(dW x (some u) none).cps.toList=x.cps.toList.drop u.toNat:=by
 rw[fG];have e:HT.fF x.length x.length none=x.length:=rfl
 have e0:HT.fF x.length 0 (some u)=min u.toNat x.length:=by
  show(if u<0 then _ else _)=_;rw[bX G]
 have lx:x.cps.toList.length=x.length:=ay;rw[e,e0];rcases Nat.le_total u.toNat x.length with h1|h1
 .rw[EO h1]
  exact fI (by rw[cm];exact G)
 rw[Nat.min_eq_right h1,List.drop_of_length_le (show x.cps.toList.length<=x.length by omega),List.drop_of_length_le (show x.cps.toList.length<=u.toNat by omega),List.take_nil]
theorem pA(f:Nat->Str)(hi:∀ i j,i<n->j<n->f i=f j->i=j)(hn:∀ i,i<n->pz (f i)):Names ((List.range n).map f):=by
 refine⟨?_,fun x hx=>?_⟩
 .rw[IU,List.pairwise_map]
  refine List.Pairwise.imp_of_mem (R:=fun a b=>a≠b) (fun {a b} ha hb AX e=>AX ?_) (IU.mp List.nodup_range);exact hi a b (eT.mp ha) (eT.mp hb) e
 obtain⟨i,h,rfl⟩:=b9.mp hx;exact hn i (eT.mp h)
def yk(first:Int)(k:Nat):Nat:=97+((first+5*k)%26).toNat
def Mo(l4:Str)(place first:Int)(k:Nat):Str:=dW l4 none (some place)++⟨#[yk first k]⟩++dW l4 (some place) none
theorem Bg(hi:i<8)(hj:j<8)(h:yk first i=yk first j):i=j:=by
 unfold yk at h;exact G
theorem Gn(first:Int)(k:Nat):97<=yk first k/\yk first k<=122:=by unfold yk;exact G
theorem wy{l4:Str}{place:Int}(h0:0<=place)(k:Nat):(Mo l4 place first k).cps.toList=l4.cps.toList.take place.toNat++[yk first k]++l4.cps.toList.drop place.toNat:=by
 unfold Mo;rw[wk,wk,Pk _ h0,JM _ h0]
def nE:List Str:=["back","take","worlds","again","names","give","lean","ask"]
theorem z7(m:Nat):Names (nE.take m):=by
 refine⟨List.Sublist.nodup (List.take_sublist _ _) dk,fun x hx=>?_⟩;have h:∀ x∈nE,1<=x.cps.toList.length/\x.cps.toList.length<=8/\∀ c∈x.cps.toList,97<=c/\c<=122:=by decide +kernel
 have:=h x (s_ hx);exact⟨this.1,this.2.1,this.2.2⟩
theorem Gp(T:Txt P w K mg t):FM P w base T.q94 1 C7:=by
 refine T.q94.F.fk (N:=["_law_cell","_law_many","_law_letters","_law_first","_law_size","_law_place","_law_stem"]) eP ?_;rintro nd _ _ _ _ H _ Q _ hr ⟨c,n,rfl,CD,hn8,k⟩
 refine⟨_,(aq (G0 2 nd az)
   (aq (aO (aF aV (aD cu (ja 0) ak) ak (aH _))
    (au (aC (c7 di T.zn Bt.tuple (aa (iG t7 (bx (aa az (aa az (aa az (aa az (aa az (aa az (aa az (aa az aj))))))))) j9 (iM (ja 1))) aj))))
    aM)
   (aq (G0 3 nd (aD cu (aD fO (ja 0) ak) ak))
   (aq (aO (aF aV (aD cu (ja 0) ak) ak (aH _))
    (au (aC (c7 di T.zn Bt.tuple (aa (bM rfl ["_law_k","_law_letters","_law_first"] [none,some 2,some 3] (gF T.zp (aa (ja 1) aj)) gT (fun _ _ _ _ _ _=>(iq 0 (kG (l:=["_law_k","_law_letters","_law_first"])))) (fun _ _ _ _ _ _=>bV) (fun _ _ _ _ _ _=>(cy oN (ja 1) (aD cu (aD cN (ja 2) (aD gM ak (O 0))) ak)))) aj))))
    aM)
   (aq (aO (aF aV (aD cu (ja 0) ak) ak (aH _))
    (au (aC (c7 di T.zn Bt.tuple (aa (bM rfl ["_law_k","_law_letters","_law_first","_law_many"] [none,some 2,some 3,some 1] (gF T.zp (aa (ja 1) aj)) gT (fun _ _ _ _ _ _=>(iq 0 (kG (l:=["_law_k","_law_letters","_law_first","_law_many"])))) (fun _ _ _ _ _ _=>bV) (fun _ _ _ _ _ _=>(aD Ck (cy oN (ja 1) (ja 2)) (aD cX (ja 3) (O 0))))) aj))))
    aM)
   (aq (fN 4 nd (aD cN ak (aD cu (aD fO (ja 0) ak) ak)))
   (aq (G0 5 nd (aD cu (aD fO (ja 0) ak) (aD cN (O 4) ak)))
   (aq (G0 6 nd (bY PySem.F.plainAttrs_str PySem.F.slot_str_join PySem.F.type_str_join jm az (aa (bM rfl ["_law_k","_law_letters","_law_cell"] [none,some 2,some 0] (gF T.zp (aa (O 4) aj)) gT (fun _ _ _ _ _ _=>(iq 0 (kG (l:=["_law_k","_law_letters","_law_cell"])))) (fun _ _ _ _ _ _=>bV) (fun _ _ _ _ _ _=>(cy oN (ja 1) (aD cu (aD cN (aD fO (ja 2) ak) (aD gM ak (O 0))) ak)))) aj)))
   (au (aC (c7 di T.zn Bt.tuple (aa (bM rfl ["_law_k","_law_stem","_law_letters","_law_place","_law_first"] [none,some 6,some 2,some 5,some 3] (gF T.zp (aa (ja 1) aj)) gT (fun _ _ _ _ _ _=>(iq 0 (kG (l:=["_law_k","_law_stem","_law_letters","_law_place","_law_first"])))) (fun _ _ _ _ _ _=>bV) (fun _ _ _ _ _ _=>(aD bC (aD bC (iG wX (ja 1) j9 (iM (ja 3))) (cy oN (ja 2) (aD cu (aD cN (ja 4) (aD gM ak (O 0))) ak))) (iG wX (ja 1) (iM (ja 3)) j9)))) aj)))))))))))),?_⟩
 have UK:om.length<=sizeLine:=by rw[yV];decide
 refine⟨_,Z,_,_,Z,Z,(by show(0:Int)<16;decide),Z,_,Z,aN (fun _=>?b0) (fun _=>?b1)⟩
 case b0 =>
  refine⟨lk obz,fun q0 E8=>?_⟩;have s0:=aA (o:=.lst (nE.map V.str)) E8;refine⟨_,Z,_,Z,q0,nE.map V.str,Z,b3.of ao,fun p3 BN=>?_⟩
  have ec:iH (nE.map V.str) none (some n)=(nE.take n.toNat).map V.str:=by
   rw[List.map_take];unfold iH HT.fF;simp only[tj,dn];rw[bX G,Ap,EO (by show n.toNat<=8;exact G)]
  rw[ec];have s1:=aA (o:=.lst ((nE.take n.toNat).map V.str)) BN;refine⟨p3,_,Z,.inl ⟨b3.of ao,fun l hl=>?_⟩⟩;exact k l _ _ ((s0.trans s1).trans (aA hl)) ao (by rw[bp];show min n.toNat 8=_;exact G) (z7 _)
 case b1 =>
 refine⟨_,Z,_,_,Z,Z,⟨b4,b4⟩,_,_,Z,Z,(by show(0:Int)<26;decide),?_⟩
 try dsimp -proj -iota only
 obtain⟨first,hfi,SH,hf1⟩:∃ first:Int,c/5%26=first/\0<=first/\first<26:=⟨_,rfl,G,G⟩
 rw[hfi];have hn:n.toNat<=8:=G
 have fin:∀(f:Nat->Str)(p3:Addr)(H2 H3:Hp),bb H H2->H2 p3=none->H3=upd H2 p3 (.lst (((List.range n.toNat).map f).map V.str))->Names ((List.range n.toNat).map f)->∀ l,H3 l=none->Q (.ref l) (upd H3 l (.tup (((List.range n.toNat).map f).map V.str))):=by
  rintro f p3 H2 H3 s2 BN rfl hN l hl;exact k l _ _ ((s2.trans (aA BN)).trans (aA hl)) ao oz hN
 refine⟨_,Z,_,_,Z,Z,(by show(0:Int)<5;decide),Z,_,Z,aN (fun _=>?a0) (fun _=>⟨_,Z,_,_,Z,Z,(by show(0:Int)<5;decide),Z,_,Z,aN (fun _=>?a1) (fun _=>?a2)⟩)⟩
 case a0 =>
  refine⟨_,Z,n,Z,G,G,?_⟩;refine dz (n:=n.toNat) (fun i=>.str ⟨#[yk first i]⟩) (lk G) (fun i R hi r=>?_) (fun p3 BN=>?_)
  .refine⟨⟨Z,Z,trivial⟩,?_⟩
   refine⟨_,Z,_,Z,_,Z,_,_,Z,Z,.inl ⟨b4,b4⟩,_,_,Z,Z,_,_,Z,Z,(by show(0:Int)<26;decide),_,_,_,Z,Z,UK,jX G G,?_⟩;have e:yk first i=97+((first+5*(0+(i:Int)))%26).toNat:=by unfold yk;rw[gS]
   rw[<- e];exact r
  have e:((List.range n.toNat).map fun i=>V.str ⟨#[yk first i]⟩)=((List.range n.toNat).map fun i=>(⟨#[yk first i]⟩:Str)).map V.str:=by rw[dA];rfl
  rw[e]
  exact⟨p3,_,rfl,.inl ⟨b3.of ao,fun l hl=>fin _ p3 _ _ (bb.refl H) BN rfl (pA _ (fun i j hi hj h=>Bg (first:=first) G G (by have:=b_ (fun z:Str=>z.cps.toList) h;exact(List.cons.inj this).1)) (fun i _=>⟨by show 1<=1;decide,by show 1<=8;decide,fun x hx=>by
   have hx:x∈[yk first i]:=hx
   rw[aI.mp hx];exact Gn first i⟩)) l hl⟩⟩
 case a1 =>
  obtain⟨fill,Xi,hff⟩:∃ fill:Nat,97+first.toNat=fill/\97<=fill/\fill<=122:=⟨_,rfl,G,G⟩
  refine⟨_,Z,n,Z,G,G,?_⟩;refine dz (n:=n.toNat) (fun(i:Nat)=>.str (rn fill (n-i).toNat)) (lk G) (fun i R hi r=>?_) (fun p3 BN=>?_)
  .refine⟨⟨Z,Z,Z,trivial⟩,?_⟩
   refine⟨_,Z,_,Z,_,_,_,Z,Z,UK,jX SH hf1,_,Z,_,Z,_,_,Z,Z,_,_,Z,Z,(by rw[uv];decide),?_,?_,?_⟩
   .show(-1000:Int)<=n-(0+(i:Int))
    exact G
   .show n-(0+(i:Int))<=(1000:Int)
    exact G
   have e:Txt.mul ⟨#[97+first.toNat]⟩ (n-(0+(i:Int)))=rn fill (n-i).toNat:=by
    rw[Nm,gS,Xi]
   rw[<- e]at r;exact r
  have e:((List.range n.toNat).map fun(i:Nat)=>V.str (rn fill (n-i).toNat))=((List.range n.toNat).map fun(i:Nat)=>rn fill (n-i).toNat).map V.str:=by rw[dA];rfl
  rw[e]
  exact⟨p3,_,rfl,.inl ⟨b3.of ao,fun l hl=>fin _ p3 _ _ (bb.refl H) BN rfl (pA _ (fun i j hi hj h=>by
   have h:=b_ (fun z:Str=>z.cps.toList.length) h;simp only[ph,c_]at h
   exact G) (fun i hi=>⟨by rw[ph,c_];exact G,by rw[ph,c_];exact G,fun x hx=>by
   rw[ph]at hx
   rw[(eL.mp hx).2];exact hff⟩)) l hl⟩⟩
 case a2 =>
  refine⟨_,Z,_,_,Z,Z,⟨b4,b4⟩,_,_,Z,Z,(by show(0:Int)<7;decide),_,_,Z,Z,?_⟩
  try dsimp -proj -iota only
  obtain⟨size,hse,hs1,hs7⟩:∃ size:Int,1+c/130%7=size/\1<=size/\size<=7:=⟨_,rfl,G,G⟩
  rw[hse];refine⟨_,Z,_,_,Z,Z,⟨b4,b4⟩,_,Z,_,_,Z,Z,_,_,Z,Z,(by show(0:Int)<size+1;exact G),?_⟩
  try dsimp -proj -iota only
  have M1:=AR (c/910) (show size+1≠0 by omega);have hp1:=BE (c/910) (show 0<size+1 by omega);generalize c/910%(size+1)=place at M1 hp1 ⊢;refine⟨Z,_,Z,size,Z,G,G,?_⟩;refine dz (n:=size.toNat) (fun(i:Nat)=>.str ⟨#[97+((c/6370+3*(i:Int))%26).toNat]⟩) (lk G) (fun i R hi r=>?_) (fun p1 WU=>?_)
  .refine⟨⟨Z,Z,trivial⟩,?_⟩
   refine⟨_,Z,_,Z,_,_,Z,Z,⟨b4,b4⟩,_,Z,_,_,Z,Z,.inl ⟨b4,b4⟩,_,_,Z,Z,_,_,Z,Z,(by show(0:Int)<26;decide),_,_,_,Z,Z,UK,jX G G,?_⟩;have e:97+((c/6370+3*(0+(i:Int)))%26).toNat=97+((c/6370+3*(i:Int))%26).toNat:=by rw[gS]
   rw[e];exact r
  have WH:(((List.range size.toNat).map fun(i:Nat)=>(⟨#[97+((c/6370+3*(i:Int))%26).toNat]⟩:Str)).map (·.length)).sum+((List.range size.toNat).map fun(i:Nat)=>(⟨#[97+((c/6370+3*(i:Int))%26).toNat]⟩:Str)).length*("":Str).length <= 16777216:=by
   rw[Np (fun(i:Nat)=>97+((c/6370+3*(i:Int))%26).toNat) size.toNat]
   try simp only[dn,cE]
   have e:("":Str).length=0:=by decide +kernel
   rw[e];exact G
  refine⟨_,p1,(List.range size.toNat).map fun(i:Nat)=>⟨#[97+((c/6370+3*(i:Int))%26).toNat]⟩,Z,Z,b3.of (by rw[ao,dA];rfl),WH,?_⟩
  have D1:(Txt.join ("":Str) ((List.range size.toNat).map fun(i:Nat)=>(⟨#[97+((c/6370+3*(i:Int))%26).toNat]⟩:Str))).cps.toList=(List.range size.toNat).map fun(i:Nat)=>97+((c/6370+3*(i:Int))%26).toNat:=by
   rw[Gm,Qa,List.flatMap_map];exact xV (fun(i:Nat)=>97+((c/6370+3*(i:Int))%26).toNat) _
  generalize Txt.join ("":Str) ((List.range size.toNat).map fun(i:Nat)=>(⟨#[97+((c/6370+3*(i:Int))%26).toNat]⟩:Str))=l4 at D1 ⊢;have hsl:l4.cps.toList.length=size.toNat:=by rw[D1,dn,cE]
  have ZN:∀ x∈l4.cps.toList,97<=x/\x<=122:=fun x hx=>by
   rw[D1]at hx;obtain⟨i,_,rfl⟩:=b9.mp hx;exact G
  have ZY:l4.length<=sizeLine:=lk (by rw[nH,hsl];exact G);have s1:=aA (o:=.lst ((List.range size.toNat).map fun(i:Nat)=>V.str ⟨#[97+((c/6370+3*(i:Int))%26).toNat]⟩)) WU;generalize upd H p1 (.lst ((List.range size.toNat).map fun(i:Nat)=>V.str ⟨#[97+((c/6370+3*(i:Int))%26).toNat]⟩))=H1 at s1 ⊢
  have cl:∀ lo hi,(dW l4 lo hi).length <= 8:=fun lo hi=>by
   rw[nH,fG,bp,cm,hsl];exact G
  refine⟨_,Z,n,Z,G,G,?_⟩;refine dz (n:=n.toNat) (fun i=>.str (Mo l4 place first i)) (lk G) (fun i R hi r=>?_) (fun p3 BN=>?_)
  .refine⟨⟨Z,Z,Z,Z,trivial⟩,?_⟩
   refine⟨_,Z,_,Z,_,Z,l4,Z,ZY,_,Z,_,Z,_,Z,_,_,Z,Z,.inl ⟨b4,b4⟩,_,_,Z,Z,_,_,Z,Z,(by show(0:Int)<26;decide),_,_,_,Z,Z,UK,jX G G,_,_,Z,Z,lk (by rw[uv];have:=cl none (some place);exact G),_,Z,_,Z,_,Z,l4,Z,ZY,_,_,Z,Z,lk (by rw[aE,uv];have:=cl none (some place);have:=cl (some place) none;exact G),?_⟩
   have e:dW l4 none (some place)++(⟨#[97+((first+5*(0+(i:Int)))%26).toNat]⟩:Str)++dW l4 (some place) none=Mo l4 place first i:=by
    unfold Mo yk;rw[gS]
   rw[<- e]at r;exact r
  have e:((List.range n.toNat).map fun i=>V.str (Mo l4 place first i))=((List.range n.toNat).map (Mo l4 place first)).map V.str:=by rw[dA];rfl
  rw[e]
  exact⟨p3,_,rfl,.inl ⟨b3.of ao,fun l hl=>fin _ p3 _ _ s1 BN rfl (pA _ (fun i j hi hj h=>by
   have h:=b_ (fun z:Str=>z.cps.toList) h;simp only[wy M1]at h;rw[dr,dr]at h;have h:=List.append_cancel_left h;simp only[List.singleton_append,List.cons.injEq]at h
   exact Bg G G h.1) (fun i _=>⟨by
   rw[wy M1];simp only[af,bp,cm,c9];exact G,by
   rw[wy M1];simp only[af,bp,cm,c9];exact G,fun x hx=>by
   rw[wy M1]at hx;rcases aT.mp hx with hx|hx
   .rcases aT.mp hx with hx|hx
    .exact ZN x (s_ hx)
    rw[aI.mp hx];exact Gn first i
   exact ZN x (List.mem_of_mem_drop hx)⟩)) l hl⟩⟩
theorem SJ(b:Bool):∃ n:Int,sR [V.int 8,V.int 4] (if b=true then 1 else 0)=some (.int n)/\0<n/\n<=8:=by
 cases b with
 |false=>exact⟨8,Z,b4,b4⟩
 |true=>exact⟨4,Z,b4,b4⟩
inductive FD(K:W.Frag)(vs:List V)(H:Hp)(Q:VK)(E:XK):Prop
 |mk(a:Addr)(cs:List Int)(_:vs=[.ref a])(_:b3 K H a (cs.map V.int))(_:∀(np:Addr)(ns:List Str)(J:Hp),bb H J->J np=some (.tup (ns.map V.str))->1<=ns.length->ns.length<=8->Names ns->Q (.ref np) J)
theorem JN(T:Txt P w K mg t):FM P w base T.q109 2 (FD K):=by
 refine T.q109.F.fk (N:=["_law_script","_law_first"]) eP ?_;rintro nd _ _ _ _ H vs Q E hr ⟨a,cs,rfl,hS,k⟩
 refine⟨_,(aq (fN 1 nd (eI T.q91 (M8 T) hr aK (aa (O 0) (aa ak aj))))
   (au (aC (eI T.q94 (Gp T) hr aK (aa (O 1) (aa (aD cN ak (aD cu (aD fO (O 1) ak) (cy bj (bx (aa ak (aa ak aj))) (c7 uI T.zL Bt.int (aa (cM nj (aY aX T.zd Bt.len (aa (O 0) aj)) ak (aH _)) aj))))) aj)))))),?_⟩
 refine⟨_,Z,a,cs,0,Z,hS,b4,?_⟩
 try dsimp -proj -iota only
 generalize cs.getD (0:Int).toNat 0=first
 obtain⟨n8,EC,ZW,hn8⟩:=SJ (decide ((20:Int)<((cs.map V.int).length:Nat)));have KA:=AR (first/3) (show n8≠0 by omega);have hm1:=BE (first/3) ZW;refine⟨_,Z,_,Z,_,_,Z,Z,⟨b4,b4⟩,lk obz,fun q0 E8=>?_⟩;have s0:=aA (o:=.lst [.int 8,.int 4]) E8;refine⟨_,Z,a,_,Z,.inl (s0.seq hS),_,_,Z,Z,.inr ⟨_,Z,q0,_,_,.int n8,Z,Z,b3.of ao,EC,_,_,Z,Z,ZW,_,_,Z,Z,first,1+first/3%n8,Z,G,G,fun np ns H1 s1 lT Kn hN=>?_⟩⟩;exact k np ns H1 (s0.trans s1) lT G G hN
inductive BA(vs:List V)(H:Hp)(Q:VK)(E:XK):Prop
 |mk(a np p r:Addr)(ns:List Str)(rs:List Int)(_:vs=[.ref a,.ref p])(_:cq H a np r rs)(_:H np=some (.tup (ns.map V.str)))(_:H p=some (.tup (ns.map V.str)))(_:ns.length<=8)(_:gx ns rs)(_:Q (.bl true) H)
theorem CZ(T:Txt P w K mg t):FM P w base T.q98 2 BA:=by
 refine T.q98.F.fk (N:=["_law_found","_law_names","_law_rank"]) eP ?_;rintro nd _ _ _ _ H _ _ _ hr ⟨a,np,p,r,ns,rs,rfl,⟨ha,so,sD⟩,lT,hp,h8,hM,k⟩;have hu:=fc hr
 refine ⟨_,(aq (aO (PW.pt (dH (cW (cz (aY gk T.zr Bt.isinstance (aa (O 0) (aa (jT (v:=.ty "tuple") T.zn Bt.tuple rfl) aj))))) (dH (aF gY (aY aX T.zd Bt.len (aa (O 0) aj)) ak (aH _)) (dH (cW (cz (aY gk T.zr Bt.isinstance (aa (cy aJ (O 0) ak) (aa (jT (v:=.ty "tuple") T.zn Bt.tuple rfl) aj))))) (eV (aF (Av (gL hu)) (cy aJ (O 0) ak) (O 1) (aH _)))))))
    (au (aC eF))
    aM)
   (aq (aO (PW.pt (dH (cW (cz (aY gk T.zr Bt.isinstance (aa (cy aJ (O 0) ak) (aa (jT (v:=.ty "tuple") T.zn Bt.tuple rfl) aj))))) (eV (aF gY (aY aX T.zd Bt.len (aa (cy aJ (O 0) ak) aj)) (aD gO ak (aY aX T.zd Bt.len (aa (O 1) aj))) (aH _)))))
    (au (aC eF))
    aM)
   (aq (fM l_ rfl (O5 (cy aJ (O 0) ak)) (iq 2 nd)
    (au (aO (PW.pt (dH (cW (cz (eI T.q92 (JH T) hr aK (aa (O 2) aj)))) (eV (aF ni (O 2) ak (aH _)))))
     (au (aC eF))
     aM)))
   (au (aC (cM aV (aY (Fv rfl) T.zD Bt.min (aa (cy aJ (O 0) ak) aj)) ak (aH _))))))),?_⟩
 have el:(ns.map V.str).length=ns.length:=dn _;have c1:oH 1 (((ns.map V.str).length:Nat):Int):=⟨G,by rw[el];exact G,b4⟩
 have e1:(1:Int)*2^(((ns.map V.str).length:Nat):Int).toNat=((rs.length:Nat):Int):=by rw[el,EZ,hM.len]
 refine⟨_,Z,_,_,_,_,true,Z,Z,.tup ha,Z,_,Z,bz ?_⟩;refine⟨_,Z,a,_,Z,.inr (SqT.of ha),Z,_,Z,aN (fun c=>absurd c (by rw[cK (show V.int (([V.ref np,V.ref r].length:Nat):Int)=V.int 2 from rfl)];decide)) (fun _=>?_)⟩;refine⟨_,Z,a,_,0,_,Z,Z,SqT.of ha,Z,_,_,_,_,true,Z,Z,.tup lT,Z,_,Z,bz ?_⟩;refine⟨_,Z,a,_,0,_,Z,Z,SqT.of ha,Z,_,Z,np,p,ns,ns,Z,Z,SqT.of lT,SqT.of hp,_,Z,?_⟩;rw[cK (rfl:ns=ns)];refine bz ?_;refine⟨_,Z,a,_,1,_,Z,Z,SqT.of ha,Z,_,_,_,_,true,Z,Z,.tup so,Z,_,Z,bz ?_⟩;refine⟨_,Z,a,_,1,_,Z,Z,SqT.of ha,Z,r,_,Z,.inr (SqT.of so),_,Z,p,_,Z,.inr (SqT.of hp),_,_,Z,Z,c1,?_⟩
 try dsimp -proj -iota only
 rw[e1,dn];refine⟨Z,_,Z,aN (fun c=>absurd c (by rw[cK rfl];decide)) (fun _=>?_)⟩;refine⟨_,Z,a,_,1,_,Z,Z,SqT.of ha,Z,r,Z,⟨_,SqT.of so⟩,LC (K:=K) (a:=r) (xs:=rs.map V.int) (fun i M H2=>∃(o:Option V),M=[some (.ref a),some (.ref p),o]/\H2=H) ⟨none,Z,Z⟩ (fun i M H2 _ ⟨_,_,e⟩=>by subst e;exact SqT.of so) ?_ ?_⟩
 .rintro i y M H2 hi ⟨o,rfl,rfl⟩
  rw[lS]at hi
  obtain⟨x,hx,rfl⟩:∃ x,rs[i]?=some x/\y=V.int x:=by
   cases e:rs[i]? with
   |none=>rw[e]at hi;cases hi
   |some x=>rw[e]at hi;exact⟨x,Z,(kF hi).symm⟩
  have h0:=hM.ge x (qB hx);refine⟨_,Z,x,Z,_,Z,bz ?_⟩;exact⟨_,Z,_,_,Z,Z,_,Z,aN (fun c=>absurd (eS c) G) (fun _=>⟨_,Z,Z⟩)⟩
 rintro M H2 ⟨o,rfl,rfl⟩;refine⟨_,Z,a,_,1,_,Z,Z,SqT.of ha,Z,r,rs,Z,SqT.of so,kM hM.zero,fun aad h1 h2=>⟨Z,?_⟩⟩;have e:aad=0:=Int.le_antisymm (h2 0 hM.zero) (hM.ge aad h1);subst e;exact k
def tP(B:Int)(rs:List Int):Prop:=∀ z∈rs,z<=B
theorem Bh{l D:Int}(h0:0<=D)(h:l<=D):dD l<=D:=by
 unfold dD
 split
 .exact h0
 exact h
theorem Qs{z:Int}(h:z∈rs):∃ i,i<rs.length/\rs.getD i 0=z:=by
 obtain⟨i,hi,e⟩:=List.getElem_of_mem h;exact⟨i,hi,by rw[List.getD,List.getElem?_eq_getElem hi];exact e⟩
theorem sX(h:i<rs.length):rs.getD i 0∈rs:=by
 rw[List.getD,List.getElem?_eq_getElem h];exact fi h
theorem rz{bk:Nat}{x y D:Int}(hx:0<=x)(hy:0<=y)(h0:0<=D)(h1:lean<=D)(h2 : -lean<=D)(hb:tP B rs):tP (B+D) (gq rs bk x y lean):=fun z hz=>by
 obtain⟨i,hi,rfl⟩:=Qs hz;rw[jG]at hi;rw[ju hi];have a1:=hb _ (sX hi);have p1:=Bh h0 h1;have p2:=Bh h0 h2
 split<;>exact G
theorem gU(h:gx ns rs){x:Int}(hx:aQ (sel rs sd)=some x):0<=x:=h.ge x (mR (cU hx).1)
theorem tP.more(h:tP B rs)(hb:B<=B'):tP B' rs:=fun z hz=>ez (h z hz) hb
theorem JP{D:Int}(hM:gx ns rs)(h0:0<=D)(hb:tP B rs):tP (B+D) (jC ns tr rs):=by
 unfold jC
 split
 .rename_i x y hx hy
  split
  .exact rz (gU hM hx) (gU hM hy) h0 h0 G hb
  exact hb.more G
 exact hb.more G
theorem JQ{firm D:Int}(hM:gx ns rs)(h0:0<=D)(h1:firm<=D)(h2 : -firm<=D)(hb:tP B rs):tP (B+D) (je ns tr rs firm):=by
 unfold je
 split
 .rename_i x y hx hy
  exact rz (gU hM hx) (gU hM hy) h0 h1 h2 hb
 exact hb.more G
theorem Dc{aae:L2.St->Hp->Prop}{B:Prop}(S:L2.St->Hp->Prop)(h:(∀ M J,S M J->aae M J)->B)(g:∀ M J,S M J->aae M J):B:=h g
theorem De{S L B:Prop}(hh:(S->L)->B)(gg:S->L):B:=hh gg
def cL(x:Str):Prop:=x="&"\/x="|"\/x=">"\/x="="
def eO(x:Str):Int:=if x="&" then 4 else if x="|" then 3 else if x=">" then 2 else 1
def fP(e l:Str):Bool:=if e="(" then false else if e="~" then true else if e=l then !decide (l=">")else decide (eO l<eO e)
abbrev bdL:List (Key×V):=[(.inr "&",.int 4),(.inr "|",.int 3),(.inr ">",.int 2),(.inr "=",.int 1)]
abbrev kdL:List (Key×V):=[(.inr "&",.str "and"),(.inr "|",.str "or"),(.inr ">",.str "then"),(.inr "=",.str "same")]
theorem Df(h:cL x):bR bdL (.inr x)=some (.int (eO x)):=by
 rcases h with rfl|rfl|rfl|rfl<;>decide +kernel
theorem Ry(h:¬cL x):bR bdL (.inr x)=none:=by
 have h1:¬x="&":=fun z=>h (.inl z)
 have h2:¬x="|":=fun z=>h (.inr (.inl z))
 have h3:¬x=">":=fun z=>h (.inr (.inr (.inl z)))
 have h4:¬x="=":=fun z=>h (.inr (.inr (.inr z)))
 simp[bR,List.find?,aS h1,aS h2,aS h3,aS h4,fun z=>h1 (Eq.symm z),fun z=>h2 (Eq.symm z),fun z=>h3 (Eq.symm z),fun z=>h4 (Eq.symm z)]
inductive FE(vs:List V)(H:Hp)(Q:VK)(E:XK):Prop
 |mk(e l:_)(_:vs=[.str e,.str l])(_:(e="("\/e="~"\/cL e))(_:cL l)(_:Q (.bl (fP e l)) H)
theorem JR(T:Txt P w K mg t):FM P w base T.q47 1 FE:=by
 refine T.q47.F.fk (N:=["earlier","later"]) eP ?_;rintro nd _ _ _ _ H vs Q E hr ⟨e,l,rfl,he,hl,k⟩;have hu:=fc hr
 refine⟨_,(aq (aO (aF aV (O 0) az (aH _))
    (au (aC eF))
    aM)
   (aq (aO (aF aV (O 0) az (aH _))
    (au (aC eF))
    aM)
   (aq (aO (aF aV (O 0) (O 1) (aH _))
    (au (aC (cM gY (O 1) az (aH _))))
    aM)
   (au (aC (cM nj (jo T.zu hu (fC (v:=.ref t.zu) T.zR rfl) (O 0) (fun _ _=>rfl)) (jo T.zu hu (fC (v:=.ref t.zu) T.zR rfl) (O 1) (fun _ _=>rfl)) (aH _))))))),?_⟩
 unfold fP at k;refine⟨_,Z,Z,_,Z,?_⟩;refine aN (fun e1=>?_) (fun e1=>?_)
 .have e1:e="(":=V.str.inj (eS e1)
  rw[qp e1]at k;exact k
 have e1:¬e="(":=fun z=>e1 (cK (b_ V.str z))
 rw[bX e1]at k;refine⟨_,Z,Z,_,Z,?_⟩;refine aN (fun e2=>?_) (fun e2=>?_)
 .have e2:e="~":=V.str.inj (eS e2)
  rw[qp e2]at k;exact k
 have e2:¬e="~":=fun z=>e2 (cK (b_ V.str z))
 rw[bX e2]at k;have he:cL e:=by rcases he with z|z|z;exact absurd z e1;exact absurd z e2;exact z
 refine⟨_,Z,_,Z,Z,_,Z,?_⟩;refine aN (fun e3=>?_) (fun e3=>?_)
 .have e3:e=l:=V.str.inj (eS e3)
  rw[qp e3]at k;refine⟨_,Z,Z,?_⟩
  have q:(!decide (V.str l=V.str (Str.ofString ">"))) = !decide (l=">"):=by
   by_cases z:l=">"
   .simp[z]
   simp[z]
  rw[q];exact k
 have e3:¬e=l:=fun z=>e3 (cK (b_ V.str z))
 rw[bX e3]at k;refine⟨_,Z,.inr e,_,Z,Z,Df he,_,Z,.inr l,_,Z,Z,Df hl,_,_,Z,Z,?_⟩;exact k
def dq(c:Nat):Bool:=decide (97<=c)&&decide (c<=122)
def isName(x:Str):Bool:=(decide (1<=(x.length:Int))&&decide ((x.length:Int)<=8))&&x.cps.toList.all dq
def Small(x:Str):Prop:=x.length<=1000/\∀ c∈x.cps.toList,c<16^8
inductive C8(vs:List V)(H:Hp)(Q:VK)(E:XK):Prop
 |mk(c:_)(_:vs=[.str ⟨#[c]⟩])(_:Q (.bl (dq c)) H)
inductive DD(vs:List V)(H:Hp)(Q:VK)(E:XK):Prop
 |mk(x:_)(_:vs=[.str x])(_:x.length<=sizeLine)(_:∀ J,(∀ b o,H b=some o->J b=some o)->Q (.bl (isName x)) J)
theorem sY(a b:Nat):decide (([a]:List Nat) < [b])=decide (a<b):=by
 have e:(([a]:List Nat) < [b])↔a<b:=by simp[List.cons_lt_cons_iff]
 simp[e]
theorem SM(c:Nat):(!decide ((⟨#[c]⟩:Str).cps.toList<(Str.ofString "a").cps.toList))=decide (97<=c):=by
 show(!decide ([c] < [97]))=_;rw[sY]
 by_cases h:97<=c
 .simp[h]
 simp[h];exact G
theorem SN(c:Nat):(!decide ((Str.ofString "z").cps.toList<(⟨#[c]⟩:Str).cps.toList))=decide (c<=122):=by
 show(!decide ([122] < [c]))=_;rw[sY]
 by_cases h:c<=122
 .simp[h]
 simp[h];exact G
theorem vh(T:Txt P w K mg t):FM P w base T.q0 1 C8:=by
 refine T.q0.F.fk (N:=["sign"]) eP ?_;rintro nd _ _ _ _ _ _ _ _ hr ⟨c,rfl,k⟩;refine⟨_,(au (aC (qL lL lL az (O 0) az))),?_⟩;refine⟨_,Z,_,_,Z,Z,?_⟩;rw[SM];refine⟨_,Z,?_⟩
 by_cases h1:97<=c
 .rw[qp (cK h1)]
  refine⟨_,_,Z,Z,?_⟩;rw[SN];have e:dq c=decide (c<=122):=by simp[dq,h1]
  rw[<- e];exact k
 rw[bX (by simpa using h1)];have e:dq c=false:=by simp[dq,h1]
 rw[e]at k;exact k
theorem lV(T:Txt P w K mg t):FM P w base T.q1 2 DD:=by
 refine T.q1.F.fk (N:=["text"]) eP ?_;rintro nd _ _ _ _ H vs Q E hr ⟨x,rfl,hx,k⟩;refine⟨_,(au (aC (oF (qL lH lH ak (aY kI T.zd Bt.len (aa (O 0) aj)) (fC (v:=.int 8) T.zaD ⟨_,Z⟩)) (mH (aY (jE rfl) T.zC Bt.all (aa (bM rfl ["sign"] [none] (xq (O 0)) gT (fun _ _ _ _ _ _=>(iq 0 (kG (l:=["sign"])))) (fun _ _ _ _ _ _=>bV) (fun _ _ _ _ _ _=>(eI T.q0 (vh T) hr aK (aa (O 0) aj)))) aj)))))),?_⟩;refine⟨_,Z,_,Z,hx,_,_,Z,Z,_,Z,?_⟩;have fin:isName x=false->Q (.bl false) H:=fun e=>by have:=k H (fun _ _ z=>z);rw[e]at this;exact this
 refine aN (fun e1=>?_) (fun e1=>⟨_,rfl,fin (by simp at e1;simp[isName];exact G)⟩);have e1:=eS e1;refine⟨_,_,Z,Z,_,Z,?_⟩;refine aN (fun e2=>?_) (fun e2=>fin (by simp at e2;simp[isName];exact G));have e2:=eS e2;refine⟨_,Z,x,Z,oW (fun c=>.bl (dq c)) hx (fun c R _ hR=>⟨True.intro,_,Z,c,Z,hR⟩) fun p hp=>?_⟩;refine⟨p,x.cps.toList.map dq,Z,?_,?_⟩
 .refine b3.of ?_
  rw[ao,dA];rfl
 have:=k (upd H p (.lst (x.cps.toList.map fun c=>V.bl (dq c)))) (fun b o q=>by rw[aB (fun z=>by rw[z,hp]at q;cases q)];exact q);have e:isName x=(x.cps.toList.map dq).all id:=by simp[isName,e1,e2]
 rw[e]at this;exact this
inductive FA(t:l9)(vs:List V)(H:Hp)(Q:VK)(E:XK):Prop
 |mk(x:_)(_:vs=[.str x])(_:Small x)(_:((x="1"/\∀ p,H p=none->Q (.ref p) (upd H p (.tup [.str "yes"])))\/(x="0"/\∀ p,H p=none->Q (.ref p) (upd H p (.tup [.str "no"])))\/(¬x="1"/\¬x="0"/\∀ J,(∀ b o,H b=some o->J b=some o)->if isName x=true then ∀ p,J p=none->Q (.ref p) (upd J p (.tup [.str "name",.str x]))else E (.ref t.zk) none J)))
theorem JS(T:Txt P w K mg t):FM P w base T.q46 3 (FA t):=by
 refine T.q46.F.fk (N:=["word"]) eP ?_;rintro nd _ _ _ _ H _ Q E hr ⟨x,rfl,hx,k⟩
 refine⟨_,(aq (aO (aF aV (O 0) az (aH _))
    (au (aC (bu (aa az aj))))
    aM)
   (aq (aO (aF aV (O 0) az (aH _))
    (au (aC (bu (aa az aj))))
    aM)
   (aq (aO (cW (cz (eI T.q1 (lV T) hr aK (aa (O 0) aj))))
    (au (dg dM rfl T.zx T.zA (aa (xr az (uf (O 0))) aj)))
    aM)
   (au (aC (bu (aa az (aa (O 0) aj)))))))),?_⟩
 refine⟨_,Z,Z,_,Z,?_⟩;refine aN (fun e=>?_) (fun e=>?_)
 .have e:x="1":=V.str.inj (eS e)
  rcases k with⟨_,k⟩|⟨e',_⟩|⟨e',_⟩
  .exact⟨vv,fun p hp=>k p hp⟩
  .rw[e]at e';exact absurd e' dk
  exact absurd e e'
 have e1:¬x="1":=fun z=>e (cK (b_ V.str z))
 refine⟨_,Z,Z,_,Z,?_⟩;refine aN (fun e=>?_) (fun e=>?_)
 .have e:x="0":=V.str.inj (eS e)
  rcases k with⟨e',_⟩|⟨_,k⟩|⟨_,e',_⟩
  .exact absurd e' e1
  .exact⟨vv,fun p hp=>k p hp⟩
  exact absurd e e'
 have e0:¬x="0":=fun z=>e (cK (b_ V.str z))
 have k:∀ J,(∀ b o,H b=some o->J b=some o)->if isName x=true then ∀ p,J p=none->Q (.ref p) (upd J p (.tup [.str "name",.str x]))else E (.ref t.zk) none J:=by
  rcases k with⟨e',_⟩|⟨e',_⟩|⟨_,_,k⟩
  .exact absurd e' e1
  .exact absurd e' e0
  exact k
 refine⟨_,Z,x,Z,gV hx.1 b4,fun J s'=>?_⟩;have k':=k J s';refine⟨_,Z,?_⟩;cases hn:isName x with
 | true =>
  rw[hn,qp rfl]at k';exact⟨_,Z,xE,fun p hp=>k' p hp⟩
 | false =>
  rw[hn,bX b4]at k';rw[qp (show(!false)=true from rfl)];refine⟨_,Z,dk,_,Z,x,Z,repr_fits hx.2 hx.1,_,Z,?_,vv,k'⟩;have e1:=PySem.StrLaws.reprText_len x hx.2;have e2:=hx.1;rw[i5];have e3:(Str.ofString "no part of a sentence begins with ").length=34:=by decide +kernel
  rw[e3];unfold sizeLine;exact G
def dO(st:List Str×Str)(c:Nat):List Str×Str :=
 if dq c=true then(st.1,st.2++⟨#[c]⟩)else
  (if c=32 then(if st.2="" then st.1 else st.1++[st.2])else(if st.2="" then st.1 else st.1++[st.2])++[⟨#[c]⟩],"")
def fJ(l:List Nat):List Str×Str:=l.foldl dO ([],"")
theorem jY(l:List Nat)(c:Nat):fJ (l++[c])=dO (fJ l) c:=by simp[fJ]
def jJ(x:Str):List Str:=(fJ (x.cps.toList++[32])).1
theorem Gq{st:List Str×Str}(h1:st.1.length<=2*n)(h2:st.2.length<=n):(dO st c).1.length<=2*(n+1)/\(dO st c).2.length<=n+1:=by
 unfold dO;have e0:(Str.ofString "").length=0:=rfl
 split
 .refine⟨by show st.1.length<=_;exact G,?_⟩
  show(st.2++⟨#[c]⟩:Str).length <= _;rw[i5];have:(⟨#[c]⟩:Str).length=1:=rfl;exact G
 refine⟨?_,?_⟩
 .show(if c=32 then _ else _:List Str).length <= _
  split<;>split<;>first|omega | (simp only[af,ba,rX];exact G)
 show(Str.ofString "").length <= _;rw[e0];exact mr _
theorem lW:∀(k:Nat)(l:List Nat),l.length=k->(fJ l).1.length<=2*l.length/\(fJ l).2.length<=l.length
 | 0,l,h=>by
  have:l=[]:=kA.mp h;subst this;exact⟨qnr _,qnr _⟩
 | k+1,l,h=>by
  have hne:l≠[]:=fun z=>by rw[z]at h;cases h
  obtain⟨l',c,rfl⟩:∃ l' c,l=l'++[c]:=⟨l.dropLast,l.getLast hne,(eK hne).symm⟩
  rw[jY];have hk:l'.length=k:=by simpa using h
  obtain⟨h1,h2⟩:=lW k l' hk;have:=Gq (c:=c) h1 h2
  simpa using this
inductive Fs(vs:List V)(H:Hp)(Q:VK)(E:XK):Prop
 |mk(x:_)(_:vs=[.str x])(_:x.length<=1000)(_:∀ p,H p=none->Q (.ref p) (upd H p (.lst ((jJ x).map V.str))))
theorem JT(T:Txt P w K mg t):FM P w base T.q45 2 Fs:=by
 refine T.q45.F.fk (N:=["text","words","name","sign"]) eP ?_;rintro nd _ _ _ _ H _ _ _ hr ⟨x,rfl,hx,k⟩
 refine ⟨_,(aq (fN 1 nd (bx aj))
   (aq (fN 2 nd az)
   (aq (fM l_ rfl (xq (aD bC (O 0) az)) (iq 3 nd)
    (aq (aO (cz (eI T.q0 (vh T) hr aK (aa (O 3) aj)))
     (aq (pal 2 nd (O 3) yP)
     (au yO))
     aM)
    (aq (aO (aF gY (O 2) az (aH _))
     (aq (bw (bY PySem.F.plainAttrs_list PySem.F.slot_list_append PySem.F.type_list_append cD (O 1) (aa (O 2) aj)))
     (au (fN 2 nd az)))
     aM)
    (au (aO (aF gY (O 3) az (aH _))
     (au (bw (bY PySem.F.plainAttrs_list PySem.F.slot_list_append PySem.F.type_list_append cD (O 1) (aa (O 3) aj))))
     aM)))))
   (au (aC (O 1)))))),?_⟩
 have hl:x.length+(Str.ofString " ").length <= sizeLine:=by
  have:(Str.ofString " ").length=1:=rfl;unfold sizeLine;exact G
 refine⟨mr _,fun p hp=>?_⟩
 refine⟨_,rfl,_,_,rfl,rfl,hl,_,rfl,Mz (x:=x++Str.ofString " ") (fun i M H2=>∃ sg,M=[some (.str x),some (.ref p),some (.str (fJ ((x++Str.ofString " ").cps.toList.take i)).2),sg]/\H2=upd H p (.lst ((fJ ((x++Str.ofString " ").cps.toList.take i)).1.map V.str)))
  ⟨none,rfl,rfl⟩ ?_ ?_⟩
 .rintro i c M H2 hi ⟨sg,rfl,rfl⟩
  have OQ:(x++Str.ofString " ").cps.toList[i]?=some c:=by simpa using hi
  have e1:fJ ((x++Str.ofString " ").cps.toList.take (i+1))=dO (fJ ((x++Str.ofString " ").cps.toList.take i)) c:=by
   rw[rh,OQ];exact jY _ _
  have hb:=lW _ ((x++Str.ofString " ").cps.toList.take i) rfl
  have hn:((x++Str.ofString " ").cps.toList.take i).length <= 1001:=by
   have q1:(x++Str.ofString " ").length=x.length+1:=i5 _ _;have q2:(x++Str.ofString " ").cps.toList.length=(x++Str.ofString " ").length:=by simp[Str.length]
   rw[bp];exact G
  rw[e1];generalize fJ ((x++Str.ofString " ").cps.toList.take i)=st at hb ⊢;obtain⟨ws,nm⟩:=st;obtain⟨NH,NG⟩:=hb;dsimp only at NH NG ⊢;refine⟨_,Z,c,Z,_,Z,?_⟩;unfold dO;cases hL:dq c with
  | true =>
   rw[qp rfl];refine⟨_,Z,_,Z,_,_,Z,Z,?_,⟨_,Z,Z⟩⟩;have:(⟨#[c]⟩:Str).length=1:=rfl;unfold sizeLine;exact G
  | false =>
   rw[bX b4]
   have hc:(⟨#[c]⟩:Str)=Str.ofString " "↔c=32:=by
    constructor
    .intro z
     have z:=b_ (fun y:Str=>y.cps.toList) z;have z:[c]=[32]:=z
     simpa using z
    rintro rfl;rfl
   refine⟨_,Z,Z,_,Z,?_⟩;refine aN (fun e=>?_) (fun e=>?_)
   .have e:¬nm="":=by
     intro z;subst z;simp at e
    refine⟨_,Z,.inl ⟨Z,_,b3.of ao⟩,_,Z,p,_,_,Z,Z,ao,(by unfold sizeLine;simp;exact G),?_⟩;refine⟨_,Z,Z,_,Z,?_⟩;refine aN (fun e2=>?_) (fun e2=>?_)
    .have e2:¬c=32:=by
      intro z;have:=hc.mpr z;rw[this]at e2;simp at e2
     refine⟨_,Z,.inl ⟨Z,_,b3.of ao⟩,_,Z,p,_,_,Z,Z,ao,(by unfold sizeLine;simp;exact G),?_⟩;refine⟨_,Z,?_⟩;rw[pO,pO];simp[e,e2]
    have e2:c=32:=by
     apply e_;intro z;exact e2 (by simp[show ¬(⟨#[c]⟩:Str)=Str.ofString " " from fun y=>z (hc.mp y)])
    refine⟨_,Z,?_⟩;rw[pO];simp[e,e2]
   have e:nm="":=by
    apply e_;intro z;exact e (by simp[z])
   refine⟨_,Z,Z,_,Z,?_⟩;refine aN (fun e2=>?_) (fun e2=>?_)
   .have e2:¬c=32:=by
     intro z;have:=hc.mpr z;rw[this]at e2;simp at e2
    refine⟨_,Z,.inl ⟨Z,_,b3.of ao⟩,_,Z,p,_,_,Z,Z,ao,(by unfold sizeLine;simp;exact G),?_⟩;refine⟨_,by rw[e];rfl,?_⟩;rw[pO];simp[e,e2]
   have e2:c=32:=by
    apply e_;intro z;exact e2 (by simp[show ¬(⟨#[c]⟩:Str)=Str.ofString " " from fun y=>z (hc.mp y)])
   refine⟨_,by rw[e];rfl,?_⟩;simp[e,e2]
 rintro M H2 ⟨sg,rfl,rfl⟩
 have e:(x++Str.ofString " ").cps.toList.take (x++Str.ofString " ").cps.size=x.cps.toList++[32]:=by
  rw[fI oz];show(x.cps ++ #[32]).toList=_;simp
 rw[e];exact⟨_,Z,k p hp⟩
theorem Rz:¬(("trees":Str)="signs"):=by decide +kernel
def fl(tl sl:Addr):List (Str×V):=bf "signs" (.ref sl) (bf "trees" (.ref tl) [])
theorem jw(tl sl:Addr):(fl tl sl).lookup ("trees":Str)=some (.ref tl):=by
 unfold fl;rw[bB,bX Rz,bB,qp rfl]
theorem dY(tl sl:Addr):(fl tl sl).lookup ("signs":Str)=some (.ref sl):=by
 unfold fl;rw[bB,qp rfl]
theorem lX(tl sl:Addr)  (h1:¬m="signs") (h2:¬m="trees"):(fl tl sl).lookup m=none:=by
 unfold fl;rw[bB,bX h1,bB,bX h2]
 all_goals rfl
structure oP(C:Addr)(H:Hp)(p dx tl sl:Addr)(ts:List Tr)(ss:List Str):Prop where
 ob:H p=some (.ins C dx (fl tl sl))
 ne:tl≠sl
 tr:∃ us,H tl=some (.lst us)/\Paired (eD H) us.reverse ts
 sg:H sl=some (.lst (ss.reverse.map V.str))
def iP(tl sl:Addr)(H J:Hp):Prop:=∀ b o,H b=some o->b≠tl->b≠sl->J b=some o
inductive FC(C:Addr)(vs:List V)(H:Hp)(Q:VK)(E:XK):Prop
 |mk(p dx:_)(_:vs=[.ref p])(_:H p=some (.ins C dx []))(_:∀ tl sl J,H tl=none->H sl=none->oP C J p dx tl sl [] []->(∀ b o,H b=some o->b≠p->J b=some o)->Q .non J)
def pB(x:Str):Op:=if x="&" then .and else if x="|" then .or else if x=">" then .thn else .same
theorem RB(h:cL x):bR kdL (.inr x)=some (.str (pB x).str):=by
 rcases h with rfl|rfl|rfl|rfl<;>decide +kernel
def fj(s:Str):List Tr->List Tr
 | r::rest=>if s="~" then .not r::rest else match rest with
  |l::si=>.bin (pB s) l r::si
  |[]=>[r]
 |[]=>[]
inductive LU(C:Addr)(vs:List V)(H:Hp)(Q:VK)(E:XK):Prop
 |mk(p dx tl sl ts s ss:_)(_:vs=[.ref p])(_:oP C H p dx tl sl ts (s::ss))(_:((s="~"/\1<=ts.length)\/(cL s/\2<=ts.length)))(_:ts.length<=5000)(_:∀ J,oP C J p dx tl sl (fj s ts) ss->iP tl sl H J->Q .non J)
theorem JV(T:Txt P w K mg t):Fm P w mg base T.q48 1 (FC t.zc):=by
 refine T.q48.F.fk (N:=["self"]) eP ?_;rintro nd _ _ _ _ _ _ _ _ hr ⟨p,dx,rfl,hp,k⟩
 refine⟨_,(aq (iY (O 0) (bx aj) rfl)
   (au (iY (O 0) (bx aj) rfl))),?_⟩
 refine⟨mr _,fun tl htl=>?_⟩;have n1:p≠tl:=aG hp htl;refine⟨_,Z,p,t.zc,dx,_,Z,by rw[aB n1];exact hp,T.zf,T.zy,(by show 0<1000;decide),?_⟩;refine⟨mr _,fun sl hsl=>?_⟩;have n2:p≠sl:=aG ao hsl
 have n3:tl≠sl:=by
  intro z;subst z;rw[aB (aS n1),ao]at hsl;cases hsl
 refine⟨_,Z,p,t.zc,dx,_,Z,by rw[aB n2,ao],T.zf,T.zm,(by show 1<1000;decide),?_⟩;refine k tl sl _ htl ?_ ⟨ao,n3,⟨[],?_,.nil⟩,?_⟩ fun b o e hb=>?_
 .rw[aB (aS n2),aB (aS n3)]at hsl;exact hsl
 .rw[aB (aS n1),aB n3,aB (aS n1),ao]
 .rw[aB (aS n2),ao];rfl
 have b1:b≠tl:=aG e htl;have b2:b≠sl:=aG (by rw[aB hb,aB b1];exact e) hsl;rw[aB hb,aB b2,aB hb,aB b1];exact e
theorem Bj(T:Txt P w K mg t):Fm P w mg base T.q51 1 (LU t.zc):=by
 refine T.q51.F.fk (N:=["self","sign","right","left"]) eP ?_;rintro nd _ _ _ s H _ _ _ hr ⟨p,dx,tl,sl,ts,sg,ss,rfl,U,hs,hl,k⟩;have hu:=fc hr
 refine⟨_,(aq (fN 1 nd (ir PySem.F.plainAttrs_list PySem.F.slot_list_pop PySem.F.type_list_pop iZ (bF (O 0) rfl)))
   (aq (fN 2 nd (ir PySem.F.plainAttrs_list PySem.F.slot_list_pop PySem.F.type_list_pop iZ (bF (O 0) rfl)))
   (aq (aO (aF aV (O 1) az (aH _))
    (aq (bw (bY PySem.F.plainAttrs_list PySem.F.slot_list_append PySem.F.type_list_append cD (bF (O 0) rfl) (aa (bu (aa az (aa (O 2) aj))) aj)))
    (au Lz))
    aM)
   (aq (fN 3 nd (ir PySem.F.plainAttrs_list PySem.F.slot_list_pop PySem.F.type_list_pop iZ (bF (O 0) rfl)))
   (au (bw (bY PySem.F.plainAttrs_list PySem.F.slot_list_append PySem.F.type_list_append cD (bF (O 0) rfl) (aa (bu (aa (jo T.zJ hu (fC (v:=.ref t.zJ) T.zaC rfl) (O 1) (fun _ _=>rfl)) (aa (O 3) (aa (O 2) aj)))) aj)))))))),?_⟩
 obtain⟨ob,ne,⟨us,htl,hpu⟩,hsl⟩:=U;have HZ:H sl=some (.lst (ss.reverse.map V.str++[.str sg])):=by rw[hsl];simp
 have tF:p≠sl:=aZ ob hsl;have G_:p≠tl:=aZ ob htl
 obtain⟨r,rest,rfl⟩:∃ r rest,ts=r::rest:=by
  cases ts with
  |nil=>rcases hs with⟨_,z⟩|⟨_,z⟩<;>simp at z
  |cons r rest=>exact⟨r,rest,Z⟩
 obtain⟨ur,vr,CC,E6,hpr⟩:∃ ur vr,us=vr.reverse++[ur]/\eD H ur r/\Paired (eD H) vr rest:=by
  generalize hq:us.reverse=q at hpu;cases hpu with
  |cons h1 h2=>exact⟨_,_,by rw[<- ft us,hq];simp,h1,h2⟩
 subst CC;refine⟨_,Z,p,t.zc,dx,_,_,Z,ob,T.zf,T.zm,dY _ _,.inl ⟨Z,_,b3.of hsl⟩,sl,_,.str sg,Z,Z,HZ,oz,?_⟩;rw[eo];generalize _k:upd H sl (.lst (ss.reverse.map V.str))=H1;have o1:∀ b,b≠sl->H1 b=H b:=fun b hb=>by rw[<- _k,aB hb]
 refine⟨_,Z,p,t.zc,dx,_,_,Z,(o1 p tF).trans ob,T.zf,T.zy,jw _ _,.inl ⟨Z,_,b3.of ((o1 tl ne).trans htl)⟩,tl,_,ur,Z,Z,(o1 tl ne).trans htl,oz,?_⟩;rw[eo];generalize NJ:upd H1 tl (.lst vr.reverse)=H2;have o2:∀ b,b≠sl->b≠tl->H2 b=H b:=fun b hb y4=>by rw[<- NJ,aB y4,o1 b hb]
 have t_:H2 tl=some (.lst vr.reverse):=by rw[<- NJ,ao]
 have D2:H2 sl=some (.lst (ss.reverse.map V.str)):=by rw[<- NJ,aB (aS ne),<- _k,ao]
 have VW:gc H H2:=fun b xs e=>(o2 b (aZ e hsl) (aZ e htl)).trans e
 refine⟨_,Z,Z,_,Z,?_⟩;refine aN (fun e=>?_) (fun e=>?_)
 .have e:sg="~":=V.str.inj (eS e)
  refine⟨_,Z,p,t.zc,dx,_,_,Z,(o2 p tF G_).trans ob,T.zf,T.zy,jw _ _,.inl ⟨Z,_,b3.of t_⟩,_,Z,xE,fun q hq=>?_⟩;have n1:tl≠q:=aG t_ hq;have n2:sl≠q:=aG D2 hq;refine⟨tl,_,_,Z,Z,by rw[aB n1];exact t_,?_,?_⟩
  .have:=a_ hpr
   simp at hl ⊢;unfold sizeLine;exact G
  have up:∀ b o,H2 b=some o->b≠tl->upd (upd H2 q (.tup [.str "not",ur])) tl (.lst (vr.reverse++[.ref q])) b=some o:=fun b o z hb=>by
   rw[aB hb,aB (aG z hq)];exact z
  have E_:gc H (upd (upd H2 q (.tup [.str "not",ur])) tl (.lst (vr.reverse++[.ref q]))):=fun b xs z=>up b _ (VW b xs z) (aZ z htl)
  refine k _ ⟨up p _ ((o2 p tF G_).trans ob) G_,ne,⟨_,ao,?_⟩,up sl _ D2 (aS ne)⟩ fun b o z h1 h2=>up b o ((o2 b h2 h1).trans z) h1
  rw[ve];simp only[fj,e,i7,ft];refine .cons (.not ?_ (E6.mono E_)) (dC E_ hpr);rw[aB (aS n1),ao]
 have e:¬sg="~":=fun z=>e (cK (b_ V.str z))
 obtain⟨hop,h2⟩:cL sg/\2<=(r::rest).length:=by rcases hs with⟨z,_⟩|z;exact absurd z e;exact z
 obtain⟨l,si,rfl⟩:∃ l si,rest=l::si:=by
  cases rest with
  |nil=>simp at h2
  |cons l si=>exact⟨l,si,Z⟩
 obtain⟨ul,JA,rfl,ow,hpr⟩:∃ ul JA,vr=ul::JA/\eD H ul l/\Paired (eD H) JA si:=by
  cases hpr with
  |cons h1 h2=>exact⟨_,_,Z,h1,h2⟩
 have Rl:H2 tl=some (.lst (JA.reverse++[ul])):=by rw[t_];simp
 refine⟨_,Z,p,t.zc,dx,_,_,Z,(o2 p tF G_).trans ob,T.zf,T.zy,jw _ _,.inl ⟨Z,_,b3.of t_⟩,tl,_,ul,Z,Z,Rl,oz,?_⟩;rw[eo];generalize XB:upd H2 tl (.lst JA.reverse)=H3;have o3:∀ b,b≠sl->b≠tl->H3 b=H b:=fun b hb y4=>by rw[<- XB,aB y4,o2 b hb y4]
 have MH:H3 tl=some (.lst JA.reverse):=by rw[<- XB,ao]
 have RE:H3 sl=some (.lst (ss.reverse.map V.str)):=by rw[<- XB,aB (aS ne),D2]
 have E_:gc H H3:=fun b xs e=>(o3 b (aZ e hsl) (aZ e htl)).trans e
 refine⟨_,Z,p,t.zc,dx,_,_,Z,(o3 p tF G_).trans ob,T.zf,T.zy,jw _ _,.inl ⟨Z,_,b3.of MH⟩,_,Z,.inr sg,_,Z,Z,RB hop,_,Z,_,Z,(by show 3<=sizeLine;decide),fun q hq=>?_⟩;have n1:tl≠q:=aG MH hq;have n2:sl≠q:=aG RE hq;refine⟨tl,_,_,Z,Z,by rw[aB n1];exact MH,?_,?_⟩
 .have:=a_ hpr
  simp at hl ⊢;unfold sizeLine;exact G
 have up:∀ b o,H3 b=some o->b≠tl->upd (upd H3 q (.tup [.str (pB sg).str,ul,ur])) tl (.lst (JA.reverse++[.ref q])) b=some o:=fun b o z hb=>by
  rw[aB hb,aB (aG z hq)];exact z
 have Lm:gc H (upd (upd H3 q (.tup [.str (pB sg).str,ul,ur])) tl (.lst (JA.reverse++[.ref q]))):=fun b xs z=>up b _ (E_ b xs z) (aZ z htl)
 refine k _ ⟨up p _ ((o3 p tF G_).trans ob) G_,ne,⟨_,ao,?_⟩,up sl _ RE (aS ne)⟩ fun b o z h1 h2=>up b o ((o3 b h2 h1).trans z) h1
 rw[ve];simp only[fj,e,kf,ft];refine .cons (.bin ?_ (ow.mono Lm) (E6.mono Lm)) (dC Lm hpr);rw[aB (aS n1),ao]
def DS(ss:List Str):Prop:=∀ s∈ss,s="("\/s="~"\/cL s
def nb(ss:List Str):Nat:=ss.countP fun s:Str=>!decide (s="(") && !decide (s="~")
def bc(c:Str->Bool):List Tr->List Str->List Tr×List Str
 |ts,[]=>(ts,[])
 |ts,s::ss=>if c s=true then bc c (fj s ts) ss else(ts,s::ss)
theorem lY{s:Str}(h:cL s):¬s="("/\¬s="~":=by
 rcases h with rfl|rfl|rfl|rfl<;>exact⟨dk,dk⟩
theorem xW(ss:List Str):nb ("~" :: ss)=nb ss:=by
 unfold nb;rw[f_];simp
theorem Lj{s:Str}(h:cL s)(ss:List Str):nb (s::ss)=nb ss+1:=by
 unfold nb;rw[f_];simp[(lY h).1,(lY h).2]
theorem Lk(ss:List Str):nb ("(" :: ss)=nb ss:=by
 unfold nb;rw[f_];simp
theorem jZ{s:Str}   (ho:s="~"\/cL s) (h:ts.length=nb (s::ss)+1):((s="~"/\1<=ts.length)\/(cL s/\2<=ts.length))/\(fj s ts).length=nb ss+1:=by
 rcases ho with rfl|ho
 .rw[xW]at h
  refine⟨.inl ⟨Z,G⟩,?_⟩;cases ts with
  |nil=>simp at h
  |cons r rest=>simpa[fj]using h
 rw[Lj ho]at h;refine⟨.inr ⟨ho,G⟩,?_⟩
 match ts,h with
 |r::l::rest,h=>simpa[fj,(lY ho).2]using h
theorem iP.trans{tl:Addr}(a:iP tl sl H H1)(b:iP tl sl H1 H2):iP tl sl H H2:=fun c o e h1 h2=>b c o (a c o e h1 h2) h1 h2
def bK(s:Str):Bool:=!decide (s="(")
inductive PY(C:Addr)(vs:List V)(H:Hp)(Q:VK)(E:XK):Prop
 |mk(p dx tl sl ts ss:_)(_:vs=[.ref p])(_:oP C H p dx tl sl ts ss)(_:DS ss)(_:ts.length=nb ss+1)(_:ts.length<=5000)(_:∀ J,oP C J p dx tl sl (bc bK ts ss).1 (bc bK ts ss).2 -> iP tl sl H J->Q .non J)
theorem Gr(T:Txt P w K mg t):Fm P w mg base T.q52 2 (PY t.zc):=by
 refine T.q52.F.fk (N:=["self"]) eP ?_;rintro nd _ _ _ s H vs Q E hr ⟨p,dx,tl,sl,ts,ss,rfl,U,hok,hc,hl,k⟩
 refine⟨_,(au (kj l_ (PW.pt (gw (iD (bF (O 0) rfl) (fun _=>rfl)) (fu (aF gY (cy bj (bF (O 0) rfl) (iW gQ ak)) az (aH _)))))
    (au (bw (gR (O 0) T.zf T.q51 (Bj T) hr aK))))),?_⟩
 refine⟨fun m M H2=>∃ mM ss',m=ss'.length/\M=[some (.ref p)]/\oP t.zc H2 p dx tl sl mM ss'/\iP tl sl H H2/\DS ss'/\mM.length=nb ss'+1/\mM.length<=5000/\bc bK mM ss'=bc bK ts ss,
  ⟨_,ts,ss,rfl,rfl,U,fun _ _ z _ _=>z,hok,hc,hl,rfl⟩,?_⟩
 rintro m M H2 ⟨mM,ss',rfl,rfl,U2,k2,BO,m_,l8,hf⟩;refine⟨_,Z,p,_,dx,_,_,Z,U2.ob,T.zf,T.zm,dY _ _,_,.inl ⟨_,b3.of U2.sg,Z⟩,?_⟩;cases ss' with
 | nil =>
  refine bz ?_;refine bz ?_;rw[<- hf]at k;exact k H2 U2 k2
 | cons s1 wb =>
  have Kj:H2 sl=some (.lst (wb.reverse.map V.str++[.str s1])):=by rw[U2.sg];simp
  rw[qp oz];refine⟨_,Z,p,_,dx,_,_,Z,U2.ob,T.zf,T.zm,dY _ _,_,Z,sl,_,-1,.str s1,Z,Z,b3.of Kj,iI _ _,Z,_,Z,?_⟩;refine aN (fun e=>?_) (fun e=>?_)
  .have e:¬s1="(":=by intro z;subst z;simp at e
   have ho:s1="~"\/cL s1:=(BO s1 oz).resolve_left e;obtain⟨q1,q2⟩:=jZ ho m_;refine⟨fun σ' J=>σ'=[some (.ref p)]/\oP t.zc J p dx tl sl (fj s1 mM) wb/\iP tl sl H2 J,?_,?_⟩
   .rintro σ' J ⟨rfl,U3,k3⟩
    refine⟨wb.length,oz,fj s1 mM,wb,Z,Z,U3,k2.trans k3,fun s hs=>BO s (by simp[hs]),q2,?_,?_⟩
    .have h1:nb wb<=nb (s1::wb):=by unfold nb;rw[f_];exact G
     exact G
    rw[<- hf];simp[bc,bK,e]
   exact⟨_,Z,p,dx,_,Z,U2.ob,lX _ _ dk dk,p,dx,tl,sl,mM,s1,wb,Z,U2,q1,l8,fun J U3 k3=>⟨Z,U3,k3⟩⟩
  have e:s1="(":=by
   apply e_;intro z;exact e (by simp[z])
  have:bc bK mM (s1::wb)=(mM,s1::wb):=by simp[bc,bK,e]
  rw[<- hf,this]at k;exact k H2 U2 k2
inductive GG(t:l9)(vs:List V)(H:Hp)(Q:VK)(E:XK):Prop
 |mk(p dx tl sl ts ss:_)(_:vs=[.ref p])(_:oP t.zc H p dx tl sl ts ss)(_:DS ss)(_:ts.length=nb ss+1)(_:ts.length<=5000)(_:(∀ J,(bc bK ts ss).2=[]->iP tl sl H J->E (.ref t.zk) none J))(_:(∀ J s2 ss2,(bc bK ts ss).2=s2::ss2->oP t.zc J p dx tl sl (bc bK ts ss).1 ss2->iP tl sl H J->Q .non J))
inductive C2(t:l9)(vs:List V)(H:Hp)(Q:VK)(E:XK):Prop
 |mk(p dx tl sl ts ss:_)(_:vs=[.ref p])(_:oP t.zc H p dx tl sl ts ss)(_:DS ss)(_:ts.length=nb ss+1)(_:ts.length<=5000)(_:(∀ J,¬(bc bK ts ss).2=[]->iP tl sl H J->E (.ref t.zk) none J))(_:(∀ J v r rest,(bc bK ts ss).2=[]->(bc bK ts ss).1=r::rest->eD J v r->iP tl sl H J->Q v J))
theorem z8(ho:DS ss)(h:ts.length=nb ss+1):(bc bK ts ss).1.length=nb (bc bK ts ss).2+1:=by
 induction ss generalizing ts with
 |nil=>exact h
 | cons s ss ih =>
  unfold bc
  by_cases e:s="("
  .simp[bK,e];rw[e]at h;exact h
  have yy:s="~"\/cL s:=(ho s oz).resolve_left e;have q:=jZ yy h;simp only[bK,e,decide_false,Bool.not_false,i7];exact ih (fun x hx=>ho x (by simp[hx])) q.2
theorem JW(T:Txt P w K mg t):Fm P w mg base T.q53 3 (GG t):=by
 refine T.q53.F.fk (N:=["self"]) eP ?_;rintro nd _ _ _ _ _ _ _ _ hr ⟨p,dx,tl,sl,ts,ss,rfl,U,hok,hc,hl,kE,kQ⟩
 refine⟨_,(aq (bw (gR (O 0) T.zf T.q52 (Gr T) hr aK))
   (aq (aO (cW (iD (bF (O 0) rfl) (fun _=>rfl)))
    (au (dg dM rfl T.zx T.zA (aa az aj)))
    aM)
   (au (bw (ir PySem.F.plainAttrs_list PySem.F.slot_list_pop PySem.F.type_list_pop iZ (bF (O 0) rfl)))))),?_⟩
 refine⟨_,Z,p,dx,_,Z,U.ob,lX _ _ dk dk,p,dx,tl,sl,ts,ss,Z,U,hok,hc,hl,fun H2 U2 k2=>?_⟩;generalize bc bK ts ss=f at *;obtain⟨ts2,ss2⟩:=f;refine⟨_,Z,p,_,dx,_,_,Z,U2.ob,T.zf,T.zm,dY _ _,_,.inl ⟨_,b3.of U2.sg,Z⟩,?_⟩;cases ss2 with
 |nil=>exact bN ⟨vv,kE H2 rfl k2⟩
 | cons s2 ss3 =>
  rw[bX oz];have Kj:H2 sl=some (.lst (ss3.reverse.map V.str++[.str s2])):=by rw[U2.sg];simp
  have tF:p≠sl:=aZ U2.ob Kj;refine⟨_,Z,p,_,dx,_,_,Z,U2.ob,T.zf,T.zm,dY _ _,.inl ⟨Z,_,b3.of Kj⟩,sl,_,.str s2,Z,Z,Kj,oz,?_⟩;rw[eo];obtain⟨us,htl,hpu⟩:=U2.tr;have up:∀ b o,H2 b=some o->b≠sl->upd H2 sl (.lst (ss3.reverse.map V.str)) b=some o:=fun b o z hb=>by rw[aB hb];exact z
  have tup:gc H2 (upd H2 sl (.lst (ss3.reverse.map V.str))):=fun b xs z=>up b _ z (aZ z Kj)
  exact kQ _ s2 ss3 rfl ⟨up p _ U2.ob tF,U2.ne,⟨us,up tl _ htl U2.ne,dC tup hpu⟩,ao⟩ (k2.trans fun b o z h1 h2=>up b o z h2)
theorem Gs(T:Txt P w K mg t):Fm P w mg base T.q54 3 (C2 t):=by
 refine T.q54.F.fk (N:=["self"]) eP ?_;rintro nd _ _ _ _ H vs Q E hr ⟨p,dx,tl,sl,ts,ss,rfl,U,hok,hc,hl,kE,kQ⟩
 refine⟨_,(aq (bw (gR (O 0) T.zf T.q52 (Gr T) hr aK))
   (aq (aO (iD (bF (O 0) rfl) (fun _=>rfl))
    (au (dg dM rfl T.zx T.zA (aa az aj)))
    aM)
   (au (aC (ir PySem.F.plainAttrs_list PySem.F.slot_list_pop PySem.F.type_list_pop iZ (bF (O 0) rfl)))))),?_⟩
 have m_:=z8 hok hc;refine⟨_,Z,p,dx,_,Z,U.ob,lX _ _ dk dk,p,dx,tl,sl,ts,ss,Z,U,hok,hc,hl,fun H2 U2 k2=>?_⟩;generalize bc bK ts ss=f at *;obtain⟨ts2,ss2⟩:=f;refine⟨_,Z,p,_,dx,_,_,Z,U2.ob,T.zf,T.zm,dY _ _,_,.inl ⟨_,b3.of U2.sg,Z⟩,?_⟩;cases ss2 with
 | cons s2 ss3 =>
  rw[qp oz];exact⟨vv,kE H2 oz k2⟩
 | nil =>
  refine bz ?_;obtain⟨us,htl,hpu⟩:=U2.tr;have OT:ts2.length=1:=m_
  obtain⟨r,rest,rfl⟩:∃ r rest,ts2=r::rest:=by
   cases ts2 with
   |nil=>simp at OT
   |cons r rest=>exact⟨r,rest,Z⟩
  obtain⟨ur,vr,rfl,E6,_⟩:∃(ur:V)(vr:List V),us=vr.reverse++[ur]/\eD H2 ur r/\Paired (eD H2) vr rest:=by
   have hpu':Paired (eD H2) us.reverse (r::rest):=hpu;generalize hq:us.reverse=q at hpu';cases hpu' with
   |cons h1 h2=>exact⟨_,_,by rw[<- ft us,hq];simp,h1,h2⟩
  refine⟨_,Z,p,_,dx,_,_,Z,U2.ob,T.zf,T.zy,jw _ _,.inl ⟨Z,_,b3.of htl⟩,tl,_,ur,Z,Z,htl,oz,?_⟩;rw[eo];have up:∀ b o,H2 b=some o->b≠tl->upd H2 tl (.lst vr.reverse) b=some o:=fun b o z hb=>by rw[aB hb];exact z
  have tup:gc H2 (upd H2 tl (.lst vr.reverse)):=fun b xs z=>up b _ z (aZ z htl)
  exact kQ _ ur r rest rfl rfl (E6.mono tup) (k2.trans fun b o z h1 h2=>up b o z h1)
inductive GN(t:l9)(vs:List V)(H:Hp)(Q:VK)(E:XK):Prop
 |mk(p dx tl sl ts ss x:_)(_:vs=[.ref p,.str x])(_:oP t.zc H p dx tl sl ts ss)(_:Small x)(_:ts.length<=5000)(_:ss.length<=5000)(_:(if x="~"\/x="(" then ∀ J,oP t.zc J p dx tl sl ts (x::ss)->iP tl sl H J->Q (.bl true) J else if x="1" then ∀ J,oP t.zc J p dx tl sl (.yes::ts) ss->iP tl sl H J->Q (.bl false) J else if x="0" then ∀ J,oP t.zc J p dx tl sl (.no::ts) ss->iP tl sl H J->Q (.bl false) J else if isName x=true then ∀ J,oP t.zc J p dx tl sl (.nm x::ts) ss->iP tl sl H J->Q (.bl false) J else ∀ J,iP tl sl H J->E (.ref t.zk) none J))
theorem oP.sign{p tl:Addr}(U:oP C H p dx tl sl ts ss)(x:Str):oP C (upd H sl (.lst (ss.reverse.map V.str++[.str x]))) p dx tl sl ts (x::ss)/\iP tl sl H (upd H sl (.lst (ss.reverse.map V.str++[.str x]))):=by
 obtain⟨us,htl,hpu⟩:=U.tr;have tF:p≠sl:=aZ U.ob U.sg;have up:∀ b o,H b=some o->b≠sl->upd H sl (.lst (ss.reverse.map V.str++[.str x])) b=some o:=fun b o z hb=>by rw[aB hb];exact z
 have tup:gc H (upd H sl (.lst (ss.reverse.map V.str++[.str x]))):=fun b xs z=>up b _ z (aZ z U.sg)
 exact⟨⟨up p _ U.ob tF,U.ne,⟨us,up tl _ htl U.ne,dC tup hpu⟩,by rw[ao];simp⟩,fun b o z _ h2=>up b o z h2⟩
theorem oP.part{p tl:Addr}(U:oP C H p dx tl sl ts ss)(s1:∀ b o,H b=some o->H1 b=some o){r:Tr}(hv:eD H1 v r){us:List V}(CC:H tl=some (.lst us)): oP C (upd H1 tl (.lst (us++[v]))) p dx tl sl (r::ts) ss/\iP tl sl H (upd H1 tl (.lst (us++[v]))):=by
 obtain⟨us',htl,hpu⟩:=U.tr;rw[CC]at htl;cases htl;have G_:p≠tl:=aZ U.ob CC;have up:∀ b o,H1 b=some o->b≠tl->upd H1 tl (.lst (us++[v])) b=some o:=fun b o z hb=>by rw[aB hb];exact z
 have Pt:gc H1 (upd H1 tl (.lst (us++[v]))):=fun b xs z=>up b _ z (aZ z (s1 _ _ CC))
 have tup:gc H (upd H1 tl (.lst (us++[v]))):=fun b xs z=>Pt b xs (s1 b _ z)
 refine⟨⟨up p _ (s1 _ _ U.ob) G_,U.ne,⟨_,ao,?_⟩,up sl _ (s1 _ _ U.sg) (aS U.ne)⟩,fun b o z h1 _=>up b o (s1 b o z) h1⟩;rw[ve];exact .cons (hv.mono Pt) (dC tup hpu)
theorem JX(T:Txt P w K mg t):Fm P w mg base T.q49 4 (GN t):=by
 refine T.q49.F.fk (N:=["self","word"]) eP ?_;rintro nd _ _ _ s H vs Q E hr ⟨p,dx,tl,sl,ts,ss,x,rfl,U,hx,ow,l8,k⟩
 refine⟨_,(aq (aO (PW.pt (dH (aF aV (O 1) az (aH _)) (eV (aF aV (O 1) az (aH _)))))
    (aq (bw (bY PySem.F.plainAttrs_list PySem.F.slot_list_append PySem.F.type_list_append cD (bF (O 0) rfl) (aa (O 1) aj)))
    (au (aC eF)))
    aM)
   (aq (bw (bY PySem.F.plainAttrs_list PySem.F.slot_list_append PySem.F.type_list_append cD (bF (O 0) rfl) (aa (eI T.q46 (JS T) hr bI (aa (O 1) aj)) aj)))
   (au (aC eF)))),?_⟩
 obtain⟨us,htl,hpu⟩:=U.tr;have hlen:us.length=ts.length:=by rw[<- a_ hpu];simp
 have lay:∀(H1:Hp)(v:V)(r:Tr),(∀ b o,H b=some o->H1 b=some o)->eD H1 v r->(∀ J,oP t.zc J p dx tl sl (r::ts) ss->iP tl sl H J->Q (.bl false) J)->rg (.ref tl) [v] H1 (fun _ H2=>Q (.bl false) H2):=fun H1 v r s1 hv k' =>
  ⟨tl,us,v,rfl,rfl,s1 _ _ htl,by unfold sizeLine;exact G,k' _ (U.part s1 hv htl).1 (U.part s1 hv htl).2⟩
 have sgn:(∀ J,oP t.zc J p dx tl sl ts (x::ss)->iP tl sl H J->Q (.bl true) J)->rg (.ref sl) [.str x] H (fun _ H2=>Q (.bl true) H2):=fun k' =>
  ⟨sl,_,_,rfl,rfl,U.sg,by simp;unfold sizeLine;exact G,k' _ (U.sign x).1 (U.sign x).2⟩
 refine⟨_,Z,Z,_,Z,?_⟩;refine aN (fun e=>?_) (fun e=>?_)
 .have e:x="~":=V.str.inj (eS e)
  rw[qp (.inl e)]at k;refine bN ?_;exact⟨_,Z,p,_,dx,_,_,Z,U.ob,T.zf,T.zm,dY _ _,.inl ⟨Z,_,b3.of U.sg⟩,_,Z,sgn k⟩
 have e1:¬x="~":=fun z=>e (cK (b_ V.str z))
 refine⟨_,Z,Z,_,Z,?_⟩;refine aN (fun e=>?_) (fun e=>?_)
 .have e:x="(":=V.str.inj (eS e)
  rw[qp (.inr e)]at k;exact⟨_,Z,p,_,dx,_,_,Z,U.ob,T.zf,T.zm,dY _ _,.inl ⟨Z,_,b3.of U.sg⟩,_,Z,sgn k⟩
 have e2:¬x="(":=fun z=>e (cK (b_ V.str z))
 rw[bX (by rintro(z|z);exact e1 z;exact e2 z)]at k;refine⟨_,Z,p,_,dx,_,_,Z,U.ob,T.zf,T.zy,jw _ _,.inl ⟨Z,_,b3.of htl⟩,_,Z,x,Z,hx,?_⟩;have fresh:∀(H1:Hp)(q:Addr)(o:HO),H1 q=none->∀ b u,H1 b=some u->upd H1 q o b=some u:=fun H1 q o hq b u z=>by rw[aB (aG z hq)];exact z
 by_cases h1:x="1"
 .rw[qp h1]at k
  exact .inl ⟨h1,fun q hq=>lay _ _ _ (fresh H q _ hq) (.yes ao) k⟩
 rw[bX h1]at k
 by_cases h0:x="0"
 .rw[qp h0]at k
  exact .inr (.inl ⟨h0,fun q hq=>lay _ _ _ (fresh H q _ hq) (.no ao) k⟩)
 rw[bX h0]at k;refine .inr (.inr ⟨h1,h0,fun H1 s1=>?_⟩);cases hn:isName x with
 | true =>
  rw[qp hn]at k;exact bN fun q hq=>lay _ _ _ (fun b o z=>fresh H1 q _ hq b o (s1 b o z)) (.nm ao) k
 | false =>
  rw[bX (by rw[hn];decide)]at k;exact bz (k H1 fun b o z _ _=>s1 b o z)
def tk(x:Str)(s:Str):Bool:=fP s x
def JZ(t:l9):Sp:=fun vs H Q E=>∃ p dx tl sl ts ss x,vs=[.ref p,.str x]/\oP t.zc H p dx tl sl ts ss/\DS ss/\ts.length=nb ss+1/\ts.length<=5000/\ss.length<=5000/\Small x /\
 (x=")"->(∀ J,(bc bK ts ss).2=[]->iP tl sl H J->E (.ref t.zk) none J)/\(∀ J s2 ss2,(bc bK ts ss).2=s2::ss2->oP t.zc J p dx tl sl (bc bK ts ss).1 ss2->iP tl sl H J->Q (.bl false) J)) /\
 (¬x=")"->¬cL x->∀ J,iP tl sl H J->E (.ref t.zk) none J) /\
 (¬x=")"->cL x->∀ J,oP t.zc J p dx tl sl (bc (tk x) ts ss).1 (x::(bc (tk x) ts ss).2)->iP tl sl H J->Q (.bl true) J)
theorem Ln(x:Str):tk x "("=false:=by simp[tk,fP]
theorem wx:ck ["self","word"] ["self","word"] (aR YU):=eP
theorem Gu(T:Txt P w K mg t):Fm P w mg base T.q50 4 (JZ t):=by
 refine T.q50.F.xa wx (fun vs H Q E h=>by obtain⟨p,dx,tl,sl,ts,ss,x,rfl,_⟩:=h;rfl) (fun j_ A outer s H vs Q E hr h=>?_);obtain⟨p,dx,tl,sl,ts,ss,x,rfl,U,hok,hc,hl,l8,hx,kB,kN,kO⟩:=h;have nd:=wx.nd
 refine⟨_,(aq (aO (aF aV (O 1) az (aH _))
    (aq (bw (gR (O 0) T.zf T.q53 (JW T) hr bI))
    (au (aC eF)))
    aM)
   (aq (aO (rO (oX T.zu (O 1) (fC (v:=.ref t.zu) T.zR rfl)))
    (au (dg dM rfl T.zx T.zA (aa (xr (uf (O 1)) az) aj)))
    aM)
   (aq (kj l_ (PW.pt (gw (iD (bF (O 0) rfl) (fun _=>rfl)) (fu (cz (eI T.q47 (JR T) hr aK (aa (cy bj (bF (O 0) rfl) (iW gQ ak)) (aa (O 1) aj)))))))
    (au (bw (gR (O 0) T.zf T.q51 (Bj T) hr aK))))
   (aq (bw (bY PySem.F.plainAttrs_list PySem.F.slot_list_append PySem.F.type_list_append cD (bF (O 0) rfl) (aa (O 1) aj)))
   (au (aC eF)))))),?_⟩
 refine⟨_,Z,Z,_,Z,?_⟩;refine aN (fun e=>?_) (fun e=>?_)
 .have e:x=")":=V.str.inj (eS e)
  obtain⟨k1,k2⟩:=kB e;exact⟨_,Z,p,dx,_,Z,U.ob,lX _ _ dk dk,p,dx,tl,sl,ts,ss,Z,U,hok,hc,hl,k1,fun J s2 ss2 h1 U2 h2=>k2 J s2 ss2 h1 U2 h2⟩
 have e1:¬x=")":=fun z=>e (cK (b_ V.str z))
 refine⟨_,Z,.inr x,Z,Z,_,Z,?_⟩
 by_cases ho:cL x
 case neg =>
  rw[Ry ho];refine bN ?_;refine⟨_,Z,x,Z,repr_fits hx.2 hx.1,_,Z,repr_fits hx.2 hx.1,_,Z,?_,vv,kN e1 ho H fun _ _ z _ _=>z⟩;have q1:=PySem.StrLaws.reprText_len x hx.2;have q2:=hx.1;rw[i5];have q3:(Str.ofString " can't follow a part of a sentence").length=34:=by decide +kernel
  rw[q3];unfold sizeLine;exact G
 case pos =>
  rw[Df ho];refine bz ?_;have kO:=kO e1 ho
  refine⟨fun m M H2=>∃ mM ss',m=ss'.length/\M=[some (.ref p),some (.str x)]/\oP t.zc H2 p dx tl sl mM ss'/\iP tl sl H H2/\DS ss'/\mM.length=nb ss'+1/\mM.length<=5000/\ss'.length<=5000/\bc (tk x) mM ss'=bc (tk x) ts ss,
   ⟨_,ts,ss,rfl,rfl,U,fun _ _ z _ _=>z,hok,hc,hl,l8,rfl⟩,?_⟩
  rintro m M H2 ⟨mM,ss',rfl,rfl,U2,k2,BO,m_,D8,hl4,hf⟩
  have fin:bc (tk x) mM ss'=(mM,ss')->rg (.ref sl) [.str x] H2 (fun _ H3=>Q (.bl true) H3):=fun hq=>by
   rw[<- hf,hq]at kO;exact⟨sl,_,_,Z,Z,U2.sg,by simp;unfold sizeLine;exact G,kO _ (U2.sign x).1 (k2.trans (U2.sign x).2)⟩
  refine⟨_,Z,p,_,dx,_,_,Z,U2.ob,T.zf,T.zm,dY _ _,_,.inl ⟨_,b3.of U2.sg,Z⟩,?_⟩;cases ss' with
  | nil =>
   refine bz ?_;refine bz ?_;exact⟨_,Z,p,_,dx,_,_,Z,U2.ob,T.zf,T.zm,dY _ _,.inl ⟨Z,_,b3.of U2.sg⟩,_,Z,fin rfl⟩
  | cons s1 wb =>
   have Kj:H2 sl=some (.lst (wb.reverse.map V.str++[.str s1])):=by rw[U2.sg];simp
   rw[qp oz];refine⟨_,Z,p,_,dx,_,_,Z,U2.ob,T.zf,T.zm,dY _ _,_,Z,sl,_,-1,.str s1,Z,Z,b3.of Kj,iI _ _,_,Z,s1,x,Z,BO s1 oz,ho,_,Z,?_⟩;cases ht:fP s1 x with
   | true =>
    refine bN ?_;have e:¬s1="(":=by intro z;subst z;have:=Ln x;unfold tk at this;rw[ht]at this;cases this
    have yy:s1="~"\/cL s1:=(BO s1 oz).resolve_left e;obtain⟨q1,q2⟩:=jZ yy m_;refine⟨fun σ' J=>σ'=[some (.ref p),some (.str x)]/\oP t.zc J p dx tl sl (fj s1 mM) wb/\iP tl sl H2 J,?_,?_⟩
    .rintro σ' J ⟨rfl,U3,k3⟩
     refine⟨wb.length,oz,fj s1 mM,wb,Z,Z,U3,k2.trans k3,fun s hs=>BO s (by simp[hs]),q2,?_,?_,?_⟩
     .have h1:nb wb<=nb (s1::wb):=by unfold nb;rw[f_];exact G
      exact G
     .simp at hl4;exact G
     rw[<- hf];simp[bc,tk,ht]
    exact⟨_,Z,p,dx,_,Z,U2.ob,lX _ _ dk dk,p,dx,tl,sl,mM,s1,wb,Z,U2,q1,D8,fun J U3 k3=>⟨Z,U3,k3⟩⟩
   | false =>
    refine bz ?_;exact⟨_,Z,p,_,dx,_,_,Z,U2.ob,T.zf,T.zm,dY _ _,.inl ⟨Z,_,b3.of U2.sg⟩,_,Z,fin (by simp[bc,tk,ht])⟩
def gH(x:Str):Option Tr:=if x="1" then some .yes else if x="0" then some .no else if isName x=true then some (.nm x)else none
instance (x:Str):Decidable (cL x):=by unfold cL;infer_instance
abbrev Rd:=List Tr×List Str×Bool
def cG(st:Rd)(x:Str):Option Rd :=
 if st.2.2=true then(if x="~"\/x="(" then some (st.1,x::st.2.1,true)else(gH x).map fun r=>(r::st.1,st.2.1,false))
 else if x=")" then(match (bc bK st.1 st.2.1).2 with
  |[]=>none
  |_::ss=>some ((bc bK st.1 st.2.1).1,ss,false))
 else if cL x then some ((bc (tk x) st.1 st.2.1).1,x::(bc (tk x) st.1 st.2.1).2,true)
 else none
def dF:List Str->Rd->Option Rd
 |[],st=>some st
 |x::ws,st=>(cG st x).bind (dF ws)
def rA(st:Rd):Option Tr:=if st.2.2=true then none else match (bc bK st.1 st.2.1).2,(bc bK st.1 st.2.1).1 with
 |[],r::_=>some r
 |_,_=>none
def jD(ws:List Str):Option Tr:=(dF ws ([],[],true)).bind rA
theorem Gv(ws:List Str)(x:Str)(st:Rd):dF (ws++[x]) st=(dF ws st).bind fun s=>cG s x:=by
 induction ws generalizing st with
 |nil=>simp[dF]
 | cons y ws ih =>
  simp only[i_,dF,z_]
  congr 1
  funext s
  exact ih s
theorem Gw{st s1:Rd}(h:dF (ws.take i) st=some s1)(hx:ws[i]?=some x)(hn:cG s1 x=none):dF ws st=none:=by
 have e:ws=ws.take i++x::ws.drop (i+1):=by
  obtain⟨hi,hv⟩:=List.getElem?_eq_some_iff.mp hx;have e2:ws.drop i=x::ws.drop (i+1):=by rw[js hi,hv]
  rw[<- e2,List.take_append_drop]
 rw[e]
 have gen:∀(u v:List Str)(s:Rd),dF (u++v) s=(dF u s).bind (dF v):=by
  intro u
  induction u with
  |nil=>intro v s;rfl
  |cons y u ih=>intro v s;simp only[i_,dF,z_];congr 1;funext z;exact ih v z
 rw[gen,h];simp[dF,hn]
theorem xX{c:Str->Bool}(h:DS ss):DS (bc c ts ss).2:=by
 induction ss generalizing ts with
 |nil=>exact h
 | cons s ss ih =>
  unfold bc
  split
  .exact ih fun x hx=>h x (by simp[hx])
  exact h
theorem vm{c:Str->Bool}:(bc c ts ss).2.length<=ss.length:=by
 induction ss generalizing ts with
 |nil=>exact qnr _
 | cons s ss ih =>
  unfold bc
  split
  .exact gV ih oz
  exact qnr _
theorem vp{c:Str->Bool} (hb:c "("=false)   (ho:DS ss) (h:ts.length=nb ss+1):(bc c ts ss).1.length=nb (bc c ts ss).2+1:=by
 induction ss generalizing ts with
 |nil=>exact h
 | cons s ss ih =>
  unfold bc
  split
  .rename_i hc
   have e:¬s="(":=by intro z;rw[z,hb]at hc;cases hc
   exact ih (fun x hx=>ho x (by simp[hx])) (jZ ((ho s oz).resolve_left e) h).2
  exact h
theorem Dg{c:Str->Bool}{r:List Str}{s:Str}(h:(bc c ts ss).2=s::r):c s=false:=by
 induction ss generalizing ts with
 |nil=>cases h
 | cons y ss ih =>
  unfold bc at h
  split at h
  .exact ih h
  rename_i hc
  cases h;exact Bool.eq_false_iff.mpr hc
structure Uo(n:Nat)(st:Rd):Prop where
 ok:DS st.2.1
 cnt:st.1.length=nb st.2.1+(if st.2.2=true then 0 else 1)
 ss:st.2.1.length<=n
theorem Lp(ss:List Str):nb ss<=ss.length:=List.countP_le_length
theorem Uo.step{st ip:Rd}(F:Uo n st)(h:cG st x=some ip):Uo (n+1) ip:=by
 obtain⟨ts,ss,due⟩:=st;obtain⟨ok,cnt,hs⟩:=F;dsimp only at ok cnt hs;unfold cG at h;dsimp only at h;cases due with
 | true =>
  rw[qp rfl]at h cnt
  split at h
  .rename_i hx
   cases h;refine⟨fun s hs=>?_,?_,by simp;exact G⟩
   .rcases ai.mp hs with rfl|hs
    .rcases hx with z|z;exact .inr (.inl z);exact .inl z
    exact ok s hs
   show ts.length=nb (x::ss)+0;rcases hx with rfl|rfl
   .rw[xW];exact cnt
   rw[Lk];exact cnt
  cases hl:gH x with
  |none=>rw[hl]at h;cases h
  | some r =>
   rw[hl]at h;cases h;exact⟨ok,by show(r::ts).length=nb ss+1;simp;exact G,by show ss.length<=_;exact G⟩
 | false =>
  rw[bX b4]at h cnt
  split at h
  .split at h
   .cases h
   rename_i s2 ss2 he
   cases h;have o:=xX (c:=bK) (ts:=ts) ok;have l:=vm (c:=bK) (ts:=ts) (ss:=ss);have c:=vp (c:=bK) (by simp[bK]) ok cnt;rw[he]at o l c
   have hb:s2="(":=by
    have z:=Dg he;unfold bK at z
    simpa using z
   subst hb;rw[Lk]at c;exact⟨fun s hs=>o s (by simp[hs]),c,by show ss2.length<=_;simp at l;exact G⟩
  split at h
  .rename_i ho
   cases h;have o:=xX (c:=tk x) (ts:=ts) ok;have l:=vm (c:=tk x) (ts:=ts) (ss:=ss);have c:=vp (c:=tk x) (Ln x) ok cnt;refine⟨fun s hs=>?_,?_,?_⟩
   .rcases ai.mp hs with rfl|hs
    .exact .inr (.inr ho)
    exact o s hs
   .show _=nb (x::_)+0
    rw[Lj ho];exact c
   show(x::_:List Str).length <= _;simp;exact G
  cases h
inductive LF(t:l9)(vs:List V)(H:Hp)(Q:VK)(E:XK):Prop
 |mk(a:Addr)(ws:List Str)(_:vs=[.ref a])(_:H a=some (.lst (ws.map V.str)))(_:ws.length<=2500)(_:(∀ x∈ws,Small x))(_:(jD ws=none->∀ J,bb H J->E (.ref t.zk) none J))(_:(∀ r,jD ws=some r->∀ v J,bb H J->eD J v r->Q v J))
theorem Nq(T:Txt P w K mg t):FM P w base T.q55 5 (LF t):=by
 refine T.q55.F.fk (N:=["words","unfinished","part_due","word"]) eP ?_;rintro nd _ _ _ _ H _ _ E hr ⟨a,ws,rfl,ha,hl,xh,kE,kQ⟩
 refine ⟨_,(aq (fN 1 nd (PB T.zaO (JV T) (hr.mo) T.zaK T.q48.b aK))
   (aq (fN 2 nd eF)
   (aq (fM l_ rfl (bU (O 0)) (iq 3 nd)
    (au (aO (cz (O 2))
     (au (fN 2 nd (E1 (O 1) T.zf T.q49 (JX T) hr bI (aa (O 3) aj))))
     (au (fN 2 nd (E1 (O 1) T.zf T.q50 (Gu T) hr bI (aa (O 3) aj)))))))
   (aq (aO (cz (O 2))
    (au (dg dM rfl T.zx T.zA (aa az aj)))
    aM)
   (au (aC (gR (O 1) T.zf T.q54 (Gs T) hr bI))))))),?_⟩
 intro p dx hp KS hne;refine⟨p,dx,Z,ao,fun tl sl H1 htl hsl U kp=>⟨Z,?_⟩⟩;have s1:bb H H1:=fun b o z=>kp b o (by rw[aB (aG z hp),aB (aG z KS)];exact z) (aG z hp)
 have fr:∀ b o,H b=some o->b≠tl/\b≠sl:=fun b o z=>by
  have z':upd (upd H dx (.own p)) p (.ins t.zc dx []) b=some o:=by rw[aB (aG z hp),aB (aG z KS)];exact z
  exact⟨aG z' htl,aG z' hsl⟩
 have kS:∀{H2 H3:Hp},bb H H2->iP tl sl H2 H3->bb H H3:=fun s2 k3 b o z=>k3 b o (s2 b o z) (fr b o z).1 (fr b o z).2
 refine⟨_,rfl,a,rfl,⟨_,b3.of (s1 _ _ ha)⟩,gf (K:=K) (a:=a) (xs:=ws.map V.str)
  (fun i M H2=>∃ ts ss due v,dF (ws.take i) ([],[],true)=some (ts,ss,due)/\M=[some (.ref a),some (.ref p),some (.bl due),v]/\oP t.zc H2 p dx tl sl ts ss/\bb H H2/\Uo i (ts,ss,due))
  ⟨[],[],true,none,rfl,rfl,U,s1,⟨(fun _ z=>nomatch z),rfl,qnr _⟩⟩ (fun i M H2 _ ⟨_,_,_,_,_,_,_,s2,_⟩=>b3.of (s2 _ _ ha)) ?_ ?_⟩
 .rintro i y M H2 hi ⟨ts,ss,due,v,D4,rfl,U2,s2,F⟩
  obtain⟨x,hx,rfl⟩:∃ x,ws[i]?=some x/\V.str x=y:=by
   rw[lS]at hi;exact Option.map_eq_some_iff.mp hi
  have Z6:i<ws.length:=(List.getElem?_eq_some_iff.mp hx).1;have hxs:Small x:=xh x (qB hx)
  have Vo:ts.length<=5000:=by
   have c:=F.cnt;have n:=Lp ss;have l:=F.ss;dsimp only at c l
   split at c<;>exact G
  have _q:ss.length<=5000:=by have l:=F.ss;dsimp only at l;exact G
  have go:∀ ip,cG (ts,ss,due) x=some ip->dF (ws.take (i+1)) ([],[],true)=some ip/\Uo (i+1) ip:=fun ip h=>by
   refine⟨?_,F.step h⟩;rw[rh,hx];show dF (ws.take i++[x]) _=_;rw[Gv,D4];exact h
  have bad:cG (ts,ss,due) x=none->∀ J,bb H J->E (.ref t.zk) none J:=fun h=>kE (by unfold jD;rw[Gw D4 hx h];rfl)
  refine⟨_,Z,_,Z,?_⟩;cases due with
  | true =>
   refine bN ?_;refine⟨_,Z,p,dx,_,Z,U2.ob,lX _ _ dk dk,_,Z,p,dx,tl,sl,ts,ss,x,Z,U2,hxs,Vo,_q,?_⟩
   have Lv:∀ r,¬(x="~"\/x="(")->gH x=r->cG (ts,ss,true) x=r.map fun r=>(r::ts,ss,false):=fun r h1 h2=>by
    unfold cG;dsimp only;rw[qp rfl,bX h1,h2]
   by_cases HL:x="~"\/x="("
   .rw[qp HL]
    intro H3 U3 k3;have g:=go (ts,x::ss,true) (by unfold cG;dsimp only;rw[qp rfl,qp HL]);exact⟨ts,x::ss,true,_,g.1,Z,U3,kS s2 k3,g.2⟩
   rw[bX HL]
   by_cases h1:x="1"
   .rw[qp h1]
    intro H3 U3 k3;have g:=go (.yes::ts,ss,false) (Lv (some .yes) HL (by unfold gH;rw[qp h1]));exact⟨_,ss,false,_,g.1,Z,U3,kS s2 k3,g.2⟩
   rw[bX h1]
   by_cases h0:x="0"
   .rw[qp h0]
    intro H3 U3 k3;have g:=go (.no::ts,ss,false) (Lv (some .no) HL (by unfold gH;rw[bX h1,qp h0]));exact⟨_,ss,false,_,g.1,Z,U3,kS s2 k3,g.2⟩
   rw[bX h0]
   by_cases hn:isName x=true
   .rw[qp hn]
    intro H3 U3 k3;have g:=go (.nm x::ts,ss,false) (Lv (some (.nm x)) HL (by unfold gH;rw[bX h1,bX h0,qp hn]));exact⟨_,ss,false,_,g.1,Z,U3,kS s2 k3,g.2⟩
   rw[bX hn];intro H3 k3;exact bad (Lv none HL (by unfold gH;rw[bX h1,bX h0,bX hn])) H3 (kS s2 k3)
  | false =>
   refine bz ?_;refine⟨_,Z,p,dx,_,Z,U2.ob,lX _ _ dk dk,_,Z,p,dx,tl,sl,ts,ss,x,Z,U2,F.ok,F.cnt,Vo,_q,hxs,?_⟩;refine⟨fun e=>⟨fun H3 he k3=>bad ?_ H3 (kS s2 k3),fun H3 s3 ss3 he U3 k3=>?_⟩,fun e1 e2 H3 k3=>bad ?_ H3 (kS s2 k3),fun e1 e2 H3 U3 k3=>?_⟩
   .unfold cG;dsimp only;rw[bX b4,qp e,he]
   .have g:=go ((bc bK ts ss).1,ss3,false) (by unfold cG;dsimp only;rw[bX b4,qp e,he])
    exact⟨_,ss3,false,_,g.1,Z,U3,kS s2 k3,g.2⟩
   .unfold cG;dsimp only;rw[bX b4,bX e1,bX e2]
   have g:=go ((bc (tk x) ts ss).1,x::(bc (tk x) ts ss).2,true) (by unfold cG;dsimp only;rw[bX b4,bX e1,qp e2]);exact⟨_,_,true,_,g.1,Z,U3,kS s2 k3,g.2⟩
 rintro M H2 ⟨ts,ss,due,v,D4,rfl,U2,s2,F⟩;rw[dn,bE]at D4;have Nd:(ws.map V.str).length=ws.length:=dn _;have tf:jD ws=rA (ts,ss,due):=by unfold jD;rw[D4];rfl
 refine⟨_,Z,_,Z,?_⟩;cases due with
 |true=>exact bN ⟨vv,kE (by rw[tf];rfl) H2 s2⟩
 | false =>
  refine bz ?_
  have Vo:ts.length<=5000:=by
   have c:=F.cnt;have n:=Lp ss;have l:=F.ss;dsimp only at c l;rw[Nd]at l
   split at c<;>exact G
  refine⟨_,Z,p,dx,_,Z,U2.ob,lX _ _ dk dk,p,dx,tl,sl,ts,ss,Z,U2,F.ok,F.cnt,Vo,fun H3 hn k3=>kE ?_ H3 (kS s2 k3),fun H3 v r rest h1 h2 hv k3=>kQ r ?_ v H3 (kS s2 k3) hv⟩
  .rw[tf]
   unfold rA
   try dsimp only
   rw[bX b4]
   split
   .rename_i h1 _;exact absurd h1 hn
   rfl
  rw[tf];unfold rA
  try dsimp only
  rw[bX b4,h1,h2]
theorem J0(T:Txt P w K mg t):FM P w base T.q4 3 GB:=by
 refine T.q4.F.fk (N:=["tree","layers","layer"]) eP ?_;rintro nd _ _ _ _ H vs Q E hr ⟨v,tr,rfl,ht,hsz,k⟩
 refine⟨_,(aq (iU (i:=1) nd rfl E2 ak)
   (aq (iU (i:=2) nd rfl E2 (bx (aa (pv 0) aj)))
   (aq (kj l_ (iD (pv 2) (fun _=>rfl))
    (aq (DY (i:=1) nd rfl E2 ak O3)
    (au (iU (i:=2) nd rfl E2 (pR (xM T) (hr.mo) rfl T.q3.m T.q3.k T.q3.b .nil aK (aa (pv 2) aj))))))
   (au (aC (pv 1)))))),?_⟩
 refine⟨_,Z,(lk obz),fun l hl=>?_⟩
 refine⟨fun m M H2=>∃(n:Nat)(l:Addr)(us:List V)(ts:List Tr),M=[some v,some (.int n),some (.ref l)]/\bb H H2/\H2 l=some (.lst us)/\Paired (eD H2) us ts/\dN ts<=100000/\n+jN ts=tr.depth/\m=dN ts,
  ⟨_,0,l,[v],[tr],rfl,aA hl,ao,.cons (ht.mono (aA hl).tups) .nil,?_,?_,rfl⟩,?_⟩
 .show tr.size+0<=100000
  exact G
 .show 0+max tr.depth 0=tr.depth
  exact G
 rintro m M H2 ⟨n,l,us,ts,rfl,s2,l8,hp,hz,hd,rfl⟩;refine⟨_,Z,_,.inl ⟨us,b3.of l8,Z⟩,?_⟩;cases us with
 | nil =>
  cases hp;refine bz ?_;refine⟨_,Z,?_⟩;have hd:n+0=tr.depth:=hd;have e:n=tr.depth:=G
  subst e;exact k H2 s2
 | cons u us =>
  refine bN ?_;refine⟨fun σ' J=>∃ m',m'<dN ts/\∃(n:Nat)(l:Addr)(us:List V)(ts:List Tr),σ'=[some v,some (.int n),some (.ref l)]/\bb H J/\J l=some (.lst us)/\Paired (eD J) us ts/\dN ts<=100000/\n+jN ts=tr.depth/\m'=dN ts,fun _ _ h=>h,?_⟩;refine⟨_,Z,_,_,Z,Z,_,Z,l,u::us,ts,Z,l8,hp,hz,fun l' ws J hn CH s' OL=>?_⟩
  have hne:ts≠[]:=by
   intro z;subst z;cases hp
  have e1:=sH ts hne;have e2:=jA ts;have e3:0<ts.length:=vi.mpr hne;exact⟨_,G,n+1,l',ws,ts.flatMap Tr.kids,Z,s2.trans s',CH,OL,G,G,Z⟩
inductive Out where
 |tree (r:Tr)|r_|deep
def wz(x:Str):Out:=if 200<x.length then .r_ else match jD (jJ x)with
 |none=>.r_
 |some r=>if 40<r.depth then .deep else .tree r
inductive LH(t:l9)(vs:List V)(H:Hp)(Q:VK)(E:XK):Prop
 |mk(x:_)(_:vs=[.str x])(_:x.length<=sizeLine)(_:(∀ c∈x.cps.toList,c<16^8))(_:∀ J,bb H J->(match wz x with | .tree r=>∀ v,eD J v r->Q v J | .r_=>E (.ref t.zk) none J | .deep=>E (.ref t.zH) none J))
theorem cY(x y:Str):(x++y).cps.toList=x.cps.toList++y.cps.toList:=by
 show(x.cps++y.cps).toList=_;simp
theorem qF:∀(k:Nat)(l:List Nat),l.length=k->(∀ c∈l,c<16^8) -> (∀ y,y∈(fJ l).1 \/ y=(fJ l).2 -> y.length<=l.length+1/\∀ c∈y.cps.toList,c<16^8)
 | 0,l,h,_=>by
  have:l=[]:=kA.mp h;subst this;intro y hy;rcases hy with hy|rfl
  .exact nomatch hy
  exact⟨mr _,fun c hc=>nomatch hc⟩
 | k + 1,l,h,hc=>by
  have hne:l≠[]:=fun z=>by rw[z]at h;cases h
  obtain⟨l',c,rfl⟩:∃ l' c,l=l'++[c]:=⟨l.dropLast,l.getLast hne,(eK hne).symm⟩
  have hk:l'.length=k:=by simpa using h
  have ih:=qF k l' hk (fun d hd=>hc d (by simp[hd]));have lb:=(lW _ l' rfl).2;have Vd:c<16^8:=hc c oz
  have one:(⟨#[c]⟩:Str).length <= (l'++[c]).length+1/\∀ d∈(⟨#[c]⟩:Str).cps.toList,d<16^8:=by
   refine⟨by show 1<=_;simp,fun d hd=>?_⟩;have:d=c:=by simpa using hd
   rw[this];exact Vd
  have nil:(Str.ofString "").length <= (l'++[c]).length+1/\∀ d∈(Str.ofString "").cps.toList,d<16^8:=⟨mr _,fun d hd=>nomatch hd⟩
  have up:∀ y,(y∈(fJ l').1 \/ y=(fJ l').2)->y.length<=(l'++[c]).length+1/\∀ d∈y.cps.toList,d<16^8:=fun y hy=>⟨by have:=(ih y hy).1;simp;exact G,(ih y hy).2⟩
  rw[jY];generalize fJ l'=st at ih lb up;obtain⟨ws,nm⟩:=st;intro y hy;unfold dO at hy
  split at hy
  .rcases hy with hy|rfl
   .exact up y (.inl hy)
   have q:=up nm (.inr rfl);refine⟨?_,fun d hd=>?_⟩
   .show(nm++⟨#[c]⟩:Str).length <= _
    rw[i5];have:(⟨#[c]⟩:Str).length=1:=rfl;dsimp only at lb;simp;exact G
   have hd:d∈(nm++⟨#[c]⟩:Str).cps.toList:=hd;rw[cY]at hd;rcases aT.mp hd with hd|hd
   .exact q.2 d hd
   exact one.2 d hd
  rcases hy with hy|rfl
  .have hy:y∈(if c=32 then _ else _:List Str):=hy
   split at hy<;>split at hy
   .exact up y (.inl hy)
   .rcases aT.mp hy with hy|hy
    .exact up y (.inl hy)
    exact up y (.inr (by simpa using hy))
   .rcases aT.mp hy with hy|hy
    .exact up y (.inl hy)
    have:y=⟨#[c]⟩:=by simpa using hy
    rw[this];exact one
   rcases aT.mp hy with hy|hy
   .rcases aT.mp hy with hy|hy
    .exact up y (.inl hy)
    exact up y (.inr (by simpa using hy))
   have:y=⟨#[c]⟩:=by simpa using hy
   rw[this];exact one
  exact nil
theorem z9(hl:x.length<=200)(hc:∀ c∈x.cps.toList,c<16^8):(jJ x).length <= 2500/\∀ y∈jJ x,Small y:=by
 have hlen:(x.cps.toList++[32]).length=x.length+1:=by simp[Str.length]
 unfold jJ;refine⟨?_,fun y hy=>?_⟩
 .have:=(lW _ (x.cps.toList++[32]) rfl).1
  exact G
 have:=qF _ (x.cps.toList++[32]) rfl (fun c h=>by
  rcases aT.mp h with h|h
  .exact hc c h
  have:c=32:=by simpa using h
  rw[this];decide) y (.inl hy)
 exact⟨G,this.2⟩
def AG(ts:List Tr)(ss:List Str):Nat:=(ts.map Tr.size).sum+ss.length
theorem Gx(s:Str)(ts:List Tr):((fj s ts).map Tr.size).sum <= (ts.map Tr.size).sum+1:=by
 match ts with
 |[]=>simp[fj]
 | [r] =>
  show((if s="~" then [Tr.not r]else [r]).map Tr.size).sum <= _
  split<;>simp[Tr.size]
 | r::l::rest =>
  show((if s="~" then Tr.not r::l::rest else .bin (pB s) l r::rest).map Tr.size).sum <= _
  split<;>simp[Tr.size]<;>exact G
theorem pC{c:Str->Bool}:AG (bc c ts ss).1 (bc c ts ss).2 <= AG ts ss:=by
 induction ss generalizing ts with
 |nil=>exact qnr _
 | cons s ss ih =>
  unfold bc
  split
  .refine gV ih ?_
   have:=Gx s ts;unfold AG;simp;exact G
  exact qnr _
theorem J1{st ip:Rd}(h:cG st x=some ip):AG ip.1 ip.2.1<=AG st.1 st.2.1+1:=by
 obtain⟨ts,ss,due⟩:=st;unfold cG at h;dsimp only at h
 split at h
 .split at h
  .cases h;unfold AG;simp;exact G
  unfold gH at h
  split at h
  .cases h;unfold AG;simp[Tr.size];exact G
  split at h
  .cases h;unfold AG;simp[Tr.size];exact G
  split at h
  .cases h;unfold AG;simp[Tr.size];exact G
  cases h
 split at h
 .split at h
  .cases h
  rename_i s2 ss2 he
  cases h;have q:=pC (c:=bK) (ts:=ts) (ss:=ss);rw[he]at q;unfold AG at q ⊢;simp at q ⊢;exact G
 split at h
 .cases h
  have q:=pC (c:=tk x) (ts:=ts) (ss:=ss);unfold AG at q ⊢;simp;exact G
 cases h
theorem Nr{st ip:Rd}(h:dF ws st=some ip):AG ip.1 ip.2.1<=AG st.1 st.2.1+ws.length:=by
 induction ws generalizing st with
 |nil=>cases h;exact qnr _
 | cons x ws ih =>
  unfold dF at h;obtain⟨s1,h1,h2⟩:=Option.bind_eq_some_iff.mp h;have:=J1 h1;have:=ih h2;simp;exact G
theorem Gy{r:Tr}(h:jD ws=some r)(hl:ws.length<=2500):r.size<=100000:=by
 unfold jD at h;obtain⟨st,h1,h2⟩:=Option.bind_eq_some_iff.mp h;have q:=Nr h1;unfold rA at h2
 split at h2
 .cases h2
 split at h2
 .rename_i e1 e2
  cases h2;have z:=pC (c:=bK) (ts:=st.1) (ss:=st.2.1);rw[e2]at z;unfold AG at z q;simp at z q;exact G
 cases h2
theorem Nt(T:Txt P w K mg t):FM P w base T.q56 6 (LH t):=by
 refine T.q56.F.fk (N:=["text","tree"]) eP ?_;rintro nd _ _ _ s H _ _ _ hr ⟨x,rfl,hl,hc,k⟩
 refine⟨_,(aq (aO (aF nj (aY kI T.zd Bt.len (aa (O 0) aj)) (fC (v:=.int 200) T.zaE ⟨_,rfl⟩) (aH _))
    (au (dg dM rfl T.zx T.zA (aa az aj)))
    aM)
   (aq (fN 1 nd (eI T.q55 (Nq T) hr bI (aa (eI T.q45 (JT T) hr aK (aa (O 0) aj)) aj)))
   (aq (aO (aF nj (eI T.q4 (J0 T) hr aK (aa (O 1) aj)) (fC (v:=.int 40) T.zaB ⟨_,rfl⟩) (aH _))
    (au (dg dM rfl T.Za T.zam (aa az aj)))
    aM)
   (au (aC (O 1)))))),?_⟩
 refine⟨_,Z,_,Z,hl,_,_,Z,Z,_,Z,?_⟩;unfold wz at k;refine aN (fun e=>?_) (fun e=>?_)
 .have e:(200:Int)<x.length:=eS e
  rw[qp G]at k;exact⟨vv,k H fun _ _ z=>z⟩
 have e:¬(200:Int)<x.length:=fun z=>e (cK z)
 rw[bX G]at k;obtain⟨w1,w2⟩:=z9 G hc;refine⟨_,Z,x,Z,G,fun p hp=>⟨p,jJ x,Z,ao,w1,w2,fun hn H1 s1=>?_,fun r E6 v H1 s1 hv=>?_⟩⟩
 .rw[hn]at k
  exact k H1 ((aA hp).trans s1)
 rw[E6]at k;refine⟨_,Z,v,r,Z,hv,Gy E6 w1,fun H2 s2=>?_⟩;have k:=k H2 ((aA hp).trans (s1.trans s2));refine⟨_,_,Z,Z,_,Z,?_⟩;refine aN (fun e=>?_) (fun e=>?_)
 .have e:(40:Int)<r.depth:=eS e
  dsimp only at k;rw[qp G]at k;exact⟨vv,k⟩
 have e:¬(40:Int)<r.depth:=fun z=>e (cK z)
 dsimp only at k;rw[bX G]at k;exact⟨_,Z,k v (hv.mono s2.tups)⟩
inductive Wr:Int->Tr->List Str->Prop
 |leaf {n:Int} {x:Str} {t:Tr} (h:gH x=some t) (h1:¬x="~") (h2:¬x="("):Wr n t [x]
 |not {n:Int} {t:Tr} {ws:List Str} (h:Wr 5 t ws):Wr n (.not t) ("~" :: ws)
 |bra {n:Int} {t:Tr} {ws:List Str} (h:Wr 0 t ws):Wr n t ("(" :: (ws++[(")":Str)]))
 |bin {n nl nr:Int} {o:Str} {l r:Tr} {wl wr:List Str} (ho:cL o) (hn:n<=eO o) (hl:eO o<=nl/\(o=">"->eO o<nl)) (hr:eO o<=nr/\(¬o=">"->eO o<nr)) (h1:Wr nl l wl) (h2:Wr nr r wr):Wr n (.bin (pB o) l r) (wl++o::wr)
def EH(n:Int):List Str->Prop
 |[]=>True
 |s::_=>∀ o,cL o->n<=eO o->fP s o=false
theorem EH.more{n m:Int}(h:n<=m):∀{ss:List Str},EH n ss->EH m ss
 |[],_=>trivial
 |_::_,f=>fun o ho hn=>f o ho (ez h hn)
def SQ(n:Int)(s:Str):Prop:=s="~"\/(cL s/\n<=eO s)
theorem xY{o:Str}(h:cL o):eO o<=4:=by
 rcases h with rfl|rfl|rfl|rfl<;>decide +kernel
theorem Qt{o:Str}(h:cL o):1<=eO o:=by
 rcases h with rfl|rfl|rfl|rfl<;>decide +kernel
theorem J2{o p:Str}(h:cL o)(h':cL p)(e:eO o=eO p):o=p:=by
 rcases h with rfl|rfl|rfl|rfl<;>rcases h' with rfl|rfl|rfl|rfl<;>first|rfl|exact absurd e dk
theorem xZ{s o:Str}(hs:cL s)(ho:cL o):fP s o=if s=o then !decide (o=">")else decide (eO o<eO s):=by
 unfold fP;rw[bX (lY hs).1,bX (lY hs).2]
theorem Dh(o:Str):fP "~" o=true:=by
 unfold fP;rw[bX dk,qp rfl]
theorem Gz(o:Str):fP "(" o=false:=by
 unfold fP;rw[qp rfl]
theorem yc{c:Str->Bool}{s:Str}(h:¬c s=true):bc c ts (s::ss)=(ts,s::ss):=by
 show(if c s=true then _ else _)=_;rw[bX h]
theorem vq{c:Str->Bool}{s:Str}(h:c s=true):bc c ts (s::ss)=bc c (fj s ts) ss:=by
 show(if c s=true then _ else _)=_;rw[qp h]
theorem Di{o:Str}(ho:cL o){n:Int}(hn:n<=eO o):∀{ss:List Str},EH n ss->bc (tk o) ts ss=(ts,ss)
 |[],_=>rfl
 | s::ss,f=>yc (by
  have:tk o s=false:=f o ho hn;rw[this]
  decide)
theorem Dj(r:Tr)(rest:List Tr):fj "~" (r::rest)=.not r::rest:=by
 simp[fj]
theorem J3{o:Str}(ho:cL o)(r l:Tr)(rest:List Tr):fj o (r::l::rest)=.bin (pB o) l r::rest:=by
 simp[fj,(lY ho).2]
theorem yd(u v:List Str)(s:Rd):dF (u++v) s=(dF u s).bind (dF v):=by
 induction u generalizing s with
 |nil=>rfl
 | cons y u ih =>
  simp only[i_,dF,z_]
  congr 1
  funext z
  exact ih z
theorem sZ(h:x="~"\/x="(") (ts:List Tr) (ss:List Str):cG (ts,ss,true) x=some (ts,x::ss,true):=by
 unfold cG;rw[qp rfl,qp h]
theorem GC{r:Tr} (h1:¬x="~") (h2:¬x="(") (h:gH x=some r) (ts:List Tr) (ss:List Str):cG (ts,ss,true) x=some (r::ts,ss,false):=by
 unfold cG;rw[qp rfl,bX (fun z=>z.elim h1 h2),h]
 rfl
theorem Nu{o:Str}(ho:cL o)(ts:List Tr)(ss:List Str):cG (ts,ss,false) o=some ((bc (tk o) ts ss).1,o::(bc (tk o) ts ss).2,true):=by
 unfold cG;have hne:¬o=")":=by rcases ho with rfl|rfl|rfl|rfl<;>decide +kernel
 rw[bX jv,bX hne,qp ho]
theorem Dk{mM:List Tr}{ss':List Str}(h:bc bK ts ss=(mM,x::ss')):cG (ts,ss,false) ")"=some (mM,ss',false):=by
 unfold cG;rw[bX jv,qp rfl]
 try dsimp only
 rw[h]
theorem Qu{n:Int}{t:Tr}(h:Wr n t ws):∀(ts:List Tr)(ss:List Str),EH n ss -> ∃(mM:List Tr)(ps:List Str),dF ws (ts,ss,true)=some (mM,ps++ss,false)/\(∀ s∈ps,SQ n s)/\∀ c:Str->Bool,(∀ s∈ps,c s=true)->bc c mM (ps++ss)=bc c (t::ts) ss:=by
 induction h with
 | leaf h h1 h2 =>
  intro ts ss _;refine⟨_,[],?_,(fun s hs=>nomatch hs),fun c _=>rfl⟩;show(cG _ _).bind _=_;rw[GC h1 h2 h]
  rfl
 | @not n t ws h ih =>
  intro ts ss _;obtain⟨mM,ps,e,hp,hc⟩:=ih ts ("~" :: ss) (fun o ho hn=>by have:=xY ho;exact G);refine⟨mM,ps++[("~":Str)],?_,fun s hs=>?_,fun c nV=>?_⟩
  .show(cG _ _).bind _=_
   rw[sZ (.inl rfl)];show dF ws _=_;rw[e,dr]
   rfl
  .rcases aT.mp hs with hs|hs
   .rcases hp s hs with h|⟨ho,h⟩
    .exact .inl h
    have:=xY ho;exact G
   exact .inl (aI.mp hs)
  rw[dr];show bc c mM (ps++("~":Str):: ss)=_;rw[hc c fun s hs=>nV s (w9 _ hs),vq (nV "~" oz),Dj]
 | @bra n t ws h ih =>
  intro ts ss _;obtain⟨mM,ps,e,hp,hc⟩:=ih ts ("(" :: ss) (fun o _ _=>Gz o);refine⟨t::ts,[],?_,fun s hs=>(nomatch hs),fun c _=>rfl⟩;show(cG _ _).bind _=_;rw[sZ (.inr rfl)];show dF (ws++[(")":Str)]) _=_;rw[yd,e];show(cG _ _).bind _=_
  have hf:bc bK mM (ps++("(":Str):: ss)=(t::ts,("(":Str):: ss):=by
   rw[hc bK fun s hs=>?_]
   .exact yc dk
   rcases hp s hs with rfl|⟨ho,_⟩
   .decide +kernel
   unfold bK;rw[gX (lY ho).1]
   rfl
  rw[Dk hf]
  rfl
 | @bin n nl nr o l r wl wr ho hn hl hr h1 h2 Wt Ws =>
  intro ts ss hf;obtain⟨tsl,fN,el,ij,EA⟩:=Wt ts ss (hf.more (ez hn hl.1))
  have tkl:∀ s∈fN,tk o s=true:=fun s hs=>by
   rcases ij s hs with rfl|⟨BI,hb⟩
   .exact Dh o
   show fP s o=true;rw[xZ BI ho]
   by_cases e:s=o
   .rw[qp e,gX fun z=>?_]
    .rfl
    have:=hl.2 z;rw[e]at hb;exact G
   rw[bX e];refine cK ?_;have h1:=hl.1;have h2:eO s≠eO o:=fun z=>e (J2 BI ho z)
   exact G
  have fl:bc (tk o) tsl (fN++ss)=(l::ts,ss):=by rw[EA _ tkl,Di ho hn hf]
  obtain⟨Zg,Zs,er,hpr,hcr⟩:=Ws (l::ts) (o::ss) (fun p hp hb=>by
   rw[xZ ho hp]
   by_cases e:o=p
   .rw[qp e]
    by_cases e2:p=">"
    .rw[cK e2];rfl
    have:=hr.2 (by rw[e];exact e2);rw[e]at this;exact G
   rw[bX e];refine gX ?_;have h1:=hr.1
   exact G)
  refine⟨Zg,Zs++[o],?_,fun s hs=>?_,fun c nV=>?_⟩
  .rw[yd,el]
   show(cG _ _).bind _=_;rw[Nu ho,fl];show dF wr _=_;rw[er,dr]
   rfl
  .rcases aT.mp hs with hs|hs
   .rcases hpr s hs with h|⟨h,hb⟩
    .exact .inl h
    exact .inr ⟨h,by have:=hr.1;exact G⟩
   rw[aI.mp hs];exact .inr ⟨ho,hn⟩
  rw[dr];show bc c Zg (Zs++o::ss)=_;rw[hcr c fun s hs=>nV s (w9 _ hs),vq (nV o oz),J3 ho]
theorem Nv{n:Int}{t:Tr}(h:Wr n t ws):jD ws=some t:=by
 obtain⟨mM,ps,e,hp,hc⟩:=Qu h [] [] trivial;unfold jD;rw[e];show rA (mM,ps++[],false)=some t
 have hf:=hc bK fun s hs=>by
  rcases hp s hs with rfl|⟨ho,_⟩
  .decide +kernel
  unfold bK;rw[gX (lY ho).1]
  rfl
 unfold rA;rw[bX jv]
 try dsimp only
 rw[hf]
 rfl
def flush(st:List Str×Str):List Str:=if st.2="" then st.1 else st.1++[st.2]
def dG(cs:List Nat)(ws:List Str):Prop:=∀ acc:List Str,flush (cs.foldl dO (acc,""))=acc++ws
theorem ye(h:dG x.cps.toList ws):jJ x=ws:=by
 unfold jJ;rw[jY];have h:=h [];show(dO (List.foldl dO ([],"") x.cps.toList) 32).1=ws;generalize List.foldl dO ([],"") x.cps.toList=st at h;unfold dO;rw[bX b4,qp rfl];exact h
def isSign(c:Nat):Prop:=dq c=false/\¬c=32
theorem j4(h:isSign c)(st:List Str×Str):dO st c=(flush st++[⟨#[c]⟩],("":Str)):=by
 unfold dO flush;rw[bX (by rw[h.1];decide),bX h.2]
theorem qG(st:List Str×Str):dO st 32=(flush st,("":Str)):=by
 unfold dO flush;rw[bX b4,qp rfl]
theorem gG(l:List Str):flush (l,"")=l:=qp rfl
theorem GD(h:isSign c)(hs:dG cs ws):dG (c::cs) (⟨#[c]⟩:: ws):=fun acc=>by
 rw[fA,j4 h,gG,hs];simp
theorem Nx(h:isSign c)(hs:dG cs ws):dG (cs++[c]) (ws++[⟨#[c]⟩]):=fun acc=>by
 rw[n_,fA,IX,j4 h,gG,hs];simp
theorem Bk(h:isSign c):dG [c] [⟨#[c]⟩]:=fun acc=>by
 rw[fA,IX,j4 h,gG,gG]
theorem Qv{ds:List Nat}{vs:List Str}(hc:isSign c)(h:dG cs ws)(hd:dG ds vs):dG (cs++c::ds) (ws++⟨#[c]⟩:: vs):=fun acc=>by
 rw[n_,fA,j4 hc,h,hd];simp
theorem J4(h:dG cs ws):dG (32::cs) ws:=fun acc=>by
 rw[fA,qG,gG,h]
theorem GF(h:dG cs ws):dG (cs++[32]) ws:=fun acc=>by
 rw[n_,fA,IX,qG,gG,h]
theorem pF(acc:List Str):∀(cs:List Nat)(y:Str),(∀ c∈cs,dq c=true)->cs.foldl dO (acc,y)=(acc,⟨(y.cps.toList++cs).toArray⟩)
 | [],y,_=>by
  show(acc,y)=_;rw[cn]
 | c::cs,y,h=>by
  rw[fA]
  have e:dO (acc,y) c=(acc,y++⟨#[c]⟩):=by
   unfold dO;rw[qp (h c qms)]
  rw[e,pF acc cs _ fun d hd=>h d (k_ _ hd),cY];simp
theorem Ny(h:isName x=true):dG x.cps.toList [x]:=fun acc=>by
 unfold isName at h;obtain⟨h1,h2⟩:=bS.mp h;obtain⟨h1,_⟩:=bS.mp h1;have h1:=eS h1;rw[pF acc x.cps.toList "" fun c hc=>bP.mp h2 c hc];have e0:("":Str).cps.toList=[]:=by decide +kernel
 have e:(⟨(("":Str).cps.toList++x.cps.toList).toArray⟩:Str)=x:=by
  rw[e0];simp
 rw[e];unfold flush;rw[bX fun z=>?_];have z:x="":=z;rw[z]at h1;exact absurd h1 dk
theorem yf:("(":Str)=⟨#[40]⟩:=by decide +kernel
theorem Bl:(")":Str)=⟨#[41]⟩:=by decide +kernel
theorem yg:("~":Str)=⟨#[126]⟩:=by decide +kernel
theorem nM:("1":Str)=⟨#[49]⟩:=by decide +kernel
theorem jK:("0":Str)=⟨#[48]⟩:=by decide +kernel
theorem Nz:(" ":Str)=⟨#[32]⟩:=by decide +kernel
theorem pZ(h:isName x=true)(hc:dq c=false):¬x=⟨#[c]⟩:=fun z=>by
 rw[z]at h;unfold isName at h;have h2:=(bS.mp h).2;have:dq c=true:=bP.mp h2 c oz;rw[hc]at this;cases this
theorem GJ(h:isName x=true):gH x=some (.nm x):=by
 unfold gH;rw[bX (by rw[nM];exact pZ h b4),bX (by rw[jK];exact pZ h b4),qp h]
theorem lZ(h:pz x):isName x=true:=by
 have e:x.length=x.cps.toList.length:=ay.symm;unfold isName;rw[cK (show(1:Int)<=(x.length:Int)by have:=h.pos;exact G),cK (show(x.length:Int)<=8 by have:=h.le;exact G)];refine bP.mpr fun c hc=>?_
 have:=h.ok c hc;unfold dq;rw[cK this.1,cK this.2]
 rfl
def lB(cs:List Nat):Str:=⟨cs.toArray⟩
theorem GK(cs:List Nat):(lB cs).cps.toList=cs:=by simp[lB]
theorem lC{y:Str}(h:x.cps.toList=y.cps.toList):x=y:=by
 cases x;cases y;exact b_ Str.mk (Ct.mp h)
def cQ(x:Str):Str:=lB (cT 32 x.cps.toList)
def bW(x:Str):Str:=lB ((cI 32 x.cps.toList).dropWhile (· == 32))
theorem pG:(" ":Str)=⟨#[32]⟩:=by decide +kernel
inductive F_(vs:List V)(H:Hp)(Q:VK)(E:XK):Prop
 |mk(x:_)(_:vs=[.str x])(_:x.length<=sizeLine)(_:∀ J,(∀ b o,H b=some o->J b=some o)->Q (.str (cQ x)) J)
inductive BC(vs:List V)(H:Hp)(Q:VK)(E:XK):Prop
 |mk(x:_)(_:vs=[.str x])(_:x.length<=sizeLine)(_:∀ J,(∀ b o,H b=some o->J b=some o)->Q (.str (bW x)) J)
theorem pH(c:Nat):∀ l:List Nat,(cT c l).length <= l.length
 |[]=>qnr _
 | d::r=>by
  have:=pH c r;show(if d=c then []else d::cT c r).length <= r.length+1
  split
  .exact mr _
  show(cT c r).length+1<=_;exact G
theorem mj(c:Nat):∀ l:List Nat,(cI c l).length <= l.length
 |[]=>qnr _
 | d::r=>by
  have:=mj c r;show(if d=c then r else cI c r).length <= r.length+1
  split
  .omega
  exact G
def g8(c:Nat):Bool:=decide (48<=c)&&decide (c<=57)
def gJ(x:Str):Bool:=(decide (1<=(x.length:Int))&&decide ((x.length:Int)<=30))&&x.cps.toList.all g8 && !(decide (x.cps.toList.head?=some 48) && !decide (x="0"))
def rB(x:Str):V:=if gJ x=true then .int (gm x.cps.toList:Nat)else .non
inductive PZ(vs:List V)(H:Hp)(Q:VK)(E:XK):Prop
 |mk(c:_)(_:vs=[.str ⟨#[c]⟩])(_:Q (.bl (g8 c)) H)
inductive FU(vs:List V)(H:Hp)(Q:VK)(E:XK):Prop
 |mk(x:_)(_:vs=[.str x])(_:x.length<=sizeLine)(_:∀ J,(∀ b o,H b=some o->J b=some o)->Q (rB x) J)
theorem le_0(c:Nat):(!decide ((⟨#[c]⟩:Str).cps.toList<(Str.ofString "0").cps.toList))=decide (48<=c):=by
 show(!decide ([c] < [48]))=_;rw[sY]
 by_cases h:48<=c
 .simp[h]
 simp[h];exact G
theorem SX(c:Nat):(!decide ((Str.ofString "9").cps.toList<(⟨#[c]⟩:Str).cps.toList))=decide (c<=57):=by
 show(!decide ([57] < [c]))=_;rw[sY]
 by_cases h:c<=57
 .simp[h]
 simp[h];exact G
theorem nO(T:Txt P w K mg t):FM P w base T.q59 1 F_:=by
 refine T.q59.F.fk (N:=["text"]) eP ?_;rintro nd _ _ _ _ _ _ _ _ hr ⟨x,rfl,hx,k⟩;refine⟨_,(au (aC (cy aJ (bY PySem.F.plainAttrs_str PySem.F.slot_str_partition PySem.F.type_str_partition kW (O 0) (aa az aj)) ak))),?_⟩;refine⟨_,Z,Z,x,_,32,Z,Z,pG,hx,fun p b hp=>⟨p,_,0,_,Z,Z,SqT.of ao,Z,?_⟩⟩;exact k _ (fun b' o e=>by rw[aB (aG e hp)];exact e)
theorem nP(T:Txt P w K mg t):FM P w base T.q60 1 BC:=by
 refine T.q60.F.fk (N:=["text"]) eP ?_;rintro nd _ _ _ _ _ _ _ _ hr ⟨x,rfl,hx,k⟩;refine⟨_,(au (aC (bY PySem.F.plainAttrs_str PySem.F.slot_str_lstrip PySem.F.type_str_lstrip Cp (cy aJ (bY PySem.F.plainAttrs_str PySem.F.slot_str_partition PySem.F.type_str_partition kW (O 0) (aa az aj)) ak) (aa az aj)))),?_⟩;refine⟨_,Z,Z,x,_,32,Z,Z,pG,hx,fun p b hp=>⟨p,_,2,_,Z,Z,SqT.of ao,Z,Z,_,_,Z,Z,?_,?_⟩⟩
 .have h1:=mj 32 x.cps.toList
  have h2:x.length=x.cps.toList.length:=ay.symm;show(cI 32 x.cps.toList).toArray.size<=sizeLine;rw[ah];exact G
 have e:Txt.lstripChars ⟨(cI 32 x.cps.toList).toArray⟩ " "=bW x:=by
  refine lC ?_;rw[pG,Jf];unfold bW;rw[GK]
 rw[e];exact k _ (fun b' o e=>by rw[aB (aG e hp)];exact e)
theorem Qw(T:Txt P w K mg t):FM P w base T.q61 1 PZ:=by
 refine T.q61.F.fk (N:=["sign"]) eP ?_;rintro nd _ _ _ _ _ _ _ _ hr ⟨c,rfl,k⟩;refine⟨_,(au (aC (qL lL lL az (O 0) az))),?_⟩;refine⟨_,Z,_,_,Z,Z,_,Z,?_⟩;rw[le_0];unfold g8 at k;cases h:decide (48<=c)with
 | false =>
  rw[h]at k;rw[bX jv];exact k
 | true =>
  rw[h]at k;rw[qp rfl];refine⟨_,_,Z,Z,?_⟩;rw[SX];exact k
theorem aW{p:Addr}(hp:H p=none):∀ b u,H b=some u->(upd H p o) b=some u:=fun b u q=>by
 rw[aB (fun z=>by rw[z,hp]at q;cases q)];exact q
def cJ(x:Str):V:=if gJ x=true then(if gm x.cps.toList=0 then .non else .int (gm x.cps.toList:Nat))else .non
def Tc:V->V
 | .int i=>.int (-i)
 |v=>v
def my(x:Str):V:=if Txt.startswith x "-"=true then Tc (cJ (dW x (some 1) none))else rB x
inductive LJ(vs:List V)(H:Hp)(Q:VK)(E:XK):Prop
 |mk(x:_)(_:vs=[.str x])(_:x.length<=sizeLine)(_:∀ J,(∀ b o,H b=some o->J b=some o)->Q (cJ x) J)
inductive C_(vs:List V)(H:Hp)(Q:VK)(E:XK):Prop
 |mk(x:_)(_:vs=[.str x])(_:x.length<=sizeLine)(_:∀ J,(∀ b o,H b=some o->J b=some o)->Q (my x) J)
theorem yh(T:Txt P w K mg t):FM P w base T.q62 2 FU:=by
 refine T.q62.F.fk (N:=["word"]) eP ?_;rintro nd _ _ _ _ H _ Q _ hr ⟨x,rfl,hx,k⟩
 refine⟨_,(aq (aO (PW.pt (dH (cW (qM lH lH ak (aY kI T.zd Bt.len (aa (O 0) aj)) (fC (v:=.int 30) T.zaG ⟨_,rfl⟩))) (eV (cW (cz (aY (jE rfl) T.zC Bt.all (aa (bM rfl ["sign"] [none] (xq (O 0)) gT (fun _ _ _ _ _ _=>(iq 0 (kG (l:=["sign"])))) (fun _ _ _ _ _ _=>bV) (fun _ _ _ _ _ _=>(eI T.q61 (Qw T) hr aK (aa (O 0) aj)))) aj)))))))
    (au (aC bL))
    aM)
   (aq (aO (PW.pt (gw (aF aV (cy oN (O 0) ak) az (aH _)) (fu (aF gY (O 0) az (aH _)))))
    (au (aC bL))
    aM)
   (au (aC (c7 Fx T.zL Bt.int (aa (O 0) aj)))))),?_⟩
 have OC:x.length=x.cps.toList.length:=ay.symm
 have fin:∀ J,(∀ b o,H b=some o->J b=some o)->gJ x=false->Q .non J:=fun J s' e=>by
  have:=k J s';unfold rB at this;rw[e,bX jv]at this;exact this
 have Zl:∀ b o,H b=some o->H b=some o:=fun _ _ z=>z
 refine⟨_,Z,_,Z,hx,_,_,Z,Z,_,Z,?_⟩;refine aN (fun e1=>?_) (fun e1=>⟨_,rfl,bN (fin H Zl (by simp at e1;simp[gJ];exact G))⟩);have e1:=eS e1;refine⟨_,_,Z,Z,_,Z,?_⟩;cases e2:decide ((x.length:Int)<=30)with
 |false=>exact bN (fin H Zl (by simp at e2;simp[gJ];exact G))
 |true =>
 refine bz ?_;refine⟨_,Z,x,Z,oW (fun c=>.bl (g8 c)) hx (fun c R _ hR=>⟨True.intro,_,Z,c,Z,hR⟩) fun p hp=>?_⟩;have s1:=aW (o:=.lst (x.cps.toList.map fun c=>V.bl (g8 c))) hp;refine⟨p,x.cps.toList.map g8,Z,?_,?_⟩
 .refine b3.of ?_
  rw[ao,dA];rfl
 generalize upd H p (.lst (x.cps.toList.map fun c=>V.bl (g8 c)))=H1 at s1 ⊢;have X2:(x.cps.toList.map g8).all id=x.cps.toList.all g8:=by simp
 rw[X2];cases e3:x.cps.toList.all g8 with
 |false=>exact⟨_,Z,bN (fin H1 s1 (by simp only[gJ,e3];simp))⟩
 |true =>
 refine⟨_,Z,bz ?_⟩;have E':=eS e2
 obtain⟨c0,r,hc⟩:∃ c0 r,x.cps.toList=c0::r:=by
  cases h:x.cps.toList with
  |nil=>rw[h]at OC;have:x.length=0:=OC;exact G
  |cons a b=>exact⟨a,b,Z⟩
 have SG:∀ c∈c0::r,48<=c/\c<=57:=fun c xS=>by
  have:=bP.mp e3 c (by rw[hc];exact xS);unfold g8 at this
  simpa using this
 have EC:x.cps[0]?=some c0:=by rw[<- Array.getElem?_toList,hc];rfl
 have OZ:("0":Str)=⟨#[48]⟩:=by decide +kernel
 have done:(49<=c0/\c0<=57\/c0=48/\r=[])->gJ x=true->Q (.int (gm (c0::r):Nat)) H1:=fun _ e=>by
  have:=k H1 s1;unfold rB at this;rw[e,qp rfl,hc]at this;exact this
 have RI:r.length<600:=by
  rw[hc]at OC;have:x.length=r.length+1:=OC;exact G
 have UL:gJ x = !(decide (c0=48) && !decide (x="0")):=by
  unfold gJ;rw[cK e1,cK E',e3,hc];simp
 have EC:sR x.cps.toList 0=some c0:=bh (j:=0) (by rw[hc];rfl)
 have eq0:decide (V.str ⟨#[c0]⟩=V.str ("0":Str))=decide (c0=48):=by
  by_cases e:c0=48
  .rw[cK e,cK (by rw[OZ,e])]
  rw[gX e,gX (fun z=>e (by
   have h:=V.str.inj z;rw[OZ]at h;have h2:=b_ (fun y:Str=>y.cps.toList) h
   exact(List.cons.inj h2).1))]
 have eqx:decide (V.str x=V.str ("0":Str))=decide (x="0"):=by
  by_cases e:x="0"
  .rw[cK e,cK (by rw[e])]
  rw[gX e,gX (fun z=>e (V.str.inj z))]
 have KG:gJ x=true->∃(x':Str)(T9:Nat)(r':List Nat),[V.str x]=[V.str x']/\x'.cps.toList=T9::r'/\(49<=T9/\T9<=57\/T9=48/\r'=[])/\(∀ c∈r',48<=c/\c<=57)/\r'.length<600/\Q (.int (gm (T9::r'):Nat)) H1:=fun e=>by
  have h0:=SG c0 qms
  have ZS:49<=c0/\c0<=57\/c0=48/\r=[]:=by
   by_cases e4:c0=48
   .refine .inr ⟨e4,?_⟩
    rw[UL,cK e4]at e;have e5:x="0":=by simpa using e
    rw[e5,OZ]at hc;have hc:[48]=c0::r:=hc;exact(List.cons.inj hc).2.symm
   exact .inl G
  exact⟨x,c0,r,Z,hc,ZS,fun c xS=>SG c (k_ _ xS),RI,done ZS e⟩
 refine⟨_,Z,x,0,c0,Z,Z,hx,EC,Z,_,Z,?_⟩;rw[eq0];cases e4:decide (c0=48)with
 |false=>exact bz (bz ⟨_,rfl,KG (by rw[UL,e4];rfl)⟩)
 | true =>
  refine bN ⟨_,rfl,rfl,_,rfl,?_⟩;rw[eqx];cases e5:decide (x="0")with
  |true=>exact bz ⟨_,rfl,KG (by rw[UL,e4,e5];rfl)⟩
  |false=>exact bN (fin H1 s1 (by rw[UL,e4,e5];rfl))
theorem uw(T:Txt P w K mg t):FM P w base T.q63 3 LJ:=by
 refine T.q63.F.fk (N:=["word","number"]) eP ?_;rintro nd _ _ _ _ _ _ _ _ hr ⟨x,rfl,hx,k⟩
 refine⟨_,(aq (fN 1 nd (eI T.q62 (yh T) hr aK (aa (O 0) aj)))
   (au (aC (fD (aF aV (O 1) ak (aH _)) bL (O 1))))),?_⟩
 refine⟨_,Z,x,Z,hx,fun H1 s1=>?_⟩;have k1:=k H1 s1;unfold cJ at k1;unfold rB;cases h:gJ x with
 | false =>
  rw[h,bX jv]at k1;rw[bX jv];exact⟨_,Z,Z,_,Z,aN (fun z=>k1) (fun _=>⟨_,Z,k1⟩)⟩
 | true =>
  rw[h,qp rfl]at k1;rw[qp rfl];refine⟨_,Z,Z,_,Z,aN (fun z=>?_) (fun z=>?_)⟩
  .have z:=V.int.inj (eS z)
   rw[qp G]at k1;exact k1
  have z:¬gm x.cps.toList=0:=fun e=>z (cK (by rw[e];rfl))
  rw[bX z]at k1;exact⟨_,Z,k1⟩
theorem GP(T:Txt P w K mg t):FM P w base T.q64 4 C_:=by
 refine T.q64.F.fk (N:=["word","number"]) eP ?_;rintro nd _ _ _ _ _ _ _ _ hr ⟨x,rfl,hx,k⟩
 refine⟨_,(aq (aO (cW (cz (bY PySem.F.plainAttrs_str PySem.F.slot_str_startswith PySem.F.type_str_startswith vQ (O 0) (aa az aj))))
    (au (aC (eI T.q62 (yh T) hr aK (aa (O 0) aj))))
    aM)
   (aq (fN 1 nd (eI T.q63 (uw T) hr aK (aa (iG wX (O 0) (iM ak) j9) aj)))
   (au (aC (fD (aF ik (O 1) bL (aH _)) bL (iW gQ (O 1))))))),?_⟩
 refine⟨_,Z,Z,x,_,Z,Z,_,Z,?_⟩;unfold my at k;cases h:Txt.startswith x "-" with
 | false =>
  rw[h,bX jv]at k;exact bN ⟨_,rfl,x,rfl,hx,k⟩
 | true =>
  rw[h,qp rfl]at k;refine bz ?_;refine⟨_,Z,_,Z,x,Z,hx,dW x (some 1) none,Z,gV (An x _ _) hx,fun H1 s1=>?_⟩;have k1:=k H1 s1;unfold cJ at k1 ⊢;cases h2:gJ (dW x (some 1) none)with
  | false =>
   rw[h2,bX jv]at k1;rw[bX jv];exact⟨_,Z,Z,_,Z,aN (fun _=>k1) (fun z=>absurd (cK rfl) z)⟩
  | true =>
   rw[h2,qp rfl]at k1;rw[qp rfl]
   by_cases h3:gm (dW x (some 1) none).cps.toList=0
   .rw[qp h3]at k1 ⊢
    exact⟨_,Z,Z,_,Z,aN (fun _=>k1) (fun z=>absurd (cK rfl) z)⟩
   rw[bX h3]at k1 ⊢;exact⟨_,rfl,rfl,_,rfl,aN (fun z=>absurd (eS z) (by intro z;cases z)) (fun _=>⟨_,rfl,_,rfl,k1⟩)⟩
def fQ:Nat:=1000000
theorem iT:fQ+10<=sizeLine:=by decide
def yj(H:Hp)(v fg:V)(ts:List Str):Prop:=∃ q l,v=.ref q/\H q=some (.tup [fg,.ref l])/\H l=some (.lst (ts.map V.str))
def Lq(H:Hp)(v:V):Option (V×List Str)->Prop
 |none=>v=.non
 |some (fg,ts)=>yj H v fg ts
def LX(f:Str->Option (V×List Str)):Sp:=fun vs H Q _=>∃ x,vs=[.str x]/\x.length<=fQ/\∀ r J,(∀ b o,H b=some o->J b=some o)->Lq J r (f x)->Q r J
def Dl(v:V)(ts:List Str):Option (V×List Str):=if v=.non then none else some (v,ts)
def wA(x:Str):Option (V×List Str):=some (.non,[x])
def tu(x:Str):Option (V×List Str):=if x="" then some (.non,[])else none
def p6(x:Str):Option (V×List Str):=if isName x=true then some (.str x,[])else none
def tD(x:Str):Option (V×List Str):=Dl (cJ (cQ x)) [bW x]
def tE(x:Str):Option (V×List Str):=Dl (my (cQ x)) [bW x]
inductive yi(vs:List V)(H:Hp)(Q:VK)(E:XK):Prop
 |mk(v x:_)(_:vs=[v,.str x])(_:(v=.non \/ ∃ i,v=.int i))(_:x.length<=fQ)(_:∀ r J,(∀ b o,H b=some o->J b=some o)->Lq J r (Dl v [bW x])->Q r J)
theorem bA(s:∀ b o,H b=some o->H1 b=some o)(s':∀ b o,H1 b=some o->H2 b=some o):∀ b o,H b=some o->H2 b=some o:=fun b o e=>s' b o (s b o e)
theorem vz(x:Str):(cQ x).length <= x.length:=by
 have h1:=pH 32 x.cps.toList;have h2:x.length=x.cps.toList.length:=ay.symm;show(cT 32 x.cps.toList).toArray.size<=_;rw[ah];exact G
theorem pI(x:Str):cJ x=.non \/ ∃ i,cJ x=.int i:=by
 unfold cJ
 split
 .split
  .exact .inl rfl
  exact .inr ⟨_,rfl⟩
 exact .inl rfl
theorem GQ(x:Str):my x=.non \/ ∃ i,my x=.int i:=by
 unfold my
 split
 .rcases pI (dW x (some 1) none)with e|⟨i,e⟩
  .rw[e];exact .inl rfl
  rw[e];exact .inr ⟨_,rfl⟩
 unfold rB
 split
 .exact .inr ⟨_,rfl⟩
 exact .inl rfl
theorem AI:ck ["text"] ["text"] (aR YR):=eP
theorem J5(T:Txt P w K mg t):FM P w base T.q69 1 (LX wA):=by
 refine T.q69.F.xa AI (fun vs H Q E h=>by obtain⟨x,rfl,_⟩:=h;rfl) (fun j_ A outer s H vs Q E hr h=>?_);obtain⟨x,rfl,hx,k⟩:=h;have nd:=AI.nd;refine⟨_,(au (aC (bu (aa bL (aa (bx (aa (O 0) aj)) aj))))),?_⟩;refine⟨_,Z,vv,fun l hl=>⟨xE,fun q hq=>?_⟩⟩;exact k _ _ (bA (aW hl) (aW hq)) ⟨q,l,rfl,ao,aW hq _ _ ao⟩
theorem AO:ck ["text"] ["text"] (aR YM):=eP
theorem J6(T:Txt P w K mg t):FM P w base T.q73 1 (LX tu):=by
 refine T.q73.F.xa AO (fun vs H Q E h=>by obtain⟨x,rfl,_⟩:=h;rfl) (fun j_ A outer s H vs Q E hr h=>?_);obtain⟨x,rfl,hx,k⟩:=h;have nd:=AO.nd;refine⟨_,(au (aC (fD (aF aV (O 0) az (aH _)) (bu (aa bL (aa (bx aj) aj))) bL))),?_⟩;unfold tu at k;refine⟨_,Z,Z,_,Z,aN (fun z=>?_) (fun z=>?_)⟩
 .rw[qp (V.str.inj (eS z))]at k
  refine⟨(by show 0<=sizeLine;decide),fun l hl=>⟨xE,fun q hq=>?_⟩⟩;exact k _ _ (bA (aW hl) (aW hq)) ⟨q,l,rfl,ao,aW hq _ _ ao⟩
 rw[bX (fun e=>z (cK (by rw[e])))]at k;exact k _ _ (fun _ _ e=>e) rfl
theorem AN:ck ["text"] ["text"] (aR YO):=eP
theorem J7(T:Txt P w K mg t):FM P w base T.q71 3 (LX p6):=by
 refine T.q71.F.xa AN (fun vs H Q E h=>by obtain⟨x,rfl,_⟩:=h;rfl) (fun j_ A outer s H vs Q E hr h=>?_);obtain⟨x,rfl,hx,k⟩:=h;have nd:=AN.nd;refine⟨_,(au (aC (fD (cz (eI T.q1 (lV T) hr aK (aa (O 0) aj))) (bu (aa (O 0) (aa (bx aj) aj))) bL))),?_⟩;unfold p6 at k;refine⟨_,Z,x,Z,gV hx b4,fun H1 s1=>⟨_,Z,?_⟩⟩;cases h:isName x with
 | true =>
  rw[h,qp rfl]at k;refine bN ⟨_,rfl,(by show 0<=sizeLine;decide),fun l hl=>⟨xE,fun q hq=>?_⟩⟩;exact k _ _ (bA s1 (bA (aW hl) (aW hq))) ⟨q,l,rfl,ao,aW hq _ _ ao⟩
 | false =>
  rw[h,bX jv]at k;exact bz (k _ _ s1 rfl)
theorem qH(T:Txt P w K mg t):FM P w base T.q66 2 yi:=by
 refine T.q66.F.fk (N:=["number","text"]) eP ?_;rintro nd _ _ _ _ _ _ _ _ hr ⟨v,x,rfl,hv,hx,k⟩;refine⟨_,(au (aC (fD (aF ik (O 0) bL (aH _)) bL (bu (aa (O 0) (aa (bx (aa (eI T.q60 (nP T) hr aK (aa (O 1) aj)) aj)) aj)))))),?_⟩;unfold Dl at k;rcases hv with rfl|⟨i,rfl⟩
 .rw[qp rfl]at k
  exact⟨_,Z,Z,_,Z,aN (fun _=>k _ _ (fun _ _ e=>e) rfl) (fun z=>absurd (cK rfl) z)⟩
 rw[bX (by intro z;cases z)]at k;refine⟨_,rfl,rfl,_,rfl,aN (fun z=>absurd (eS z) (by intro z;cases z)) (fun _=>?_)⟩;refine⟨_,Z,_,Z,x,Z,gV hx b4,fun H1 s1=>⟨vv,fun l hl=>⟨xE,fun q hq=>?_⟩⟩⟩;exact k _ _ (bA s1 (bA (aW hl) (aW hq))) ⟨q,l,rfl,ao,aW hq _ _ ao⟩
theorem AH:ck ["text"] ["text"] (aR YT):=eP
theorem J8(T:Txt P w K mg t):FM P w base T.q67 4 (LX tD):=by
 refine T.q67.F.xa AH (fun vs H Q E h=>by obtain⟨x,rfl,_⟩:=h;rfl) (fun j_ A outer s H vs Q E hr h=>?_);obtain⟨x,rfl,hx,k⟩:=h;have nd:=AH.nd;refine⟨_,(au (aC (eI T.q66 (qH T) hr aK (aa (eI T.q63 (uw T) hr aK (aa (eI T.q59 (nO T) hr aK (aa (O 0) aj)) aj)) (aa (O 0) aj))))),?_⟩;have KP:=vz x;refine⟨_,Z,x,Z,gV hx b4,fun H1 s1=>⟨cQ x,Z,gV KP (gV hx b4),fun H2 s2=>?_⟩⟩;exact⟨_,Z,_,x,Z,pI _,hx,fun r H3 s3 so=>k r H3 (bA s1 (bA s2 s3)) so⟩
theorem AM:ck ["text"] ["text"] (aR YS):=eP
theorem J9(T:Txt P w K mg t):FM P w base T.q68 5 (LX tE):=by
 refine T.q68.F.xa AM (fun vs H Q E h=>by obtain⟨x,rfl,_⟩:=h;rfl) (fun j_ A outer s H vs Q E hr h=>?_);obtain⟨x,rfl,hx,k⟩:=h;have nd:=AM.nd;refine⟨_,(au (aC (eI T.q66 (qH T) hr aK (aa (eI T.q64 (GP T) hr aK (aa (eI T.q59 (nO T) hr aK (aa (O 0) aj)) aj)) (aa (O 0) aj))))),?_⟩;have KP:=vz x;refine⟨_,Z,x,Z,gV hx b4,fun H1 s1=>⟨cQ x,Z,gV KP (gV hx b4),fun H2 s2=>?_⟩⟩;exact⟨_,Z,_,x,Z,GQ _,hx,fun r H3 s3 so=>k r H3 (bA s1 (bA s2 s3)) so⟩
def b7(x:Str):List Str:=(Txt.split x " ").filter fun(w:Str)=>!decide (w="")
inductive A'(vs:List V)(H:Hp)(Q:VK)(E:XK):Prop
 |mk(x:_)(_:vs=[.str x])(_:x.length<=fQ)(_:∀ p J,(∀ b o,H b=some o->J b=some o)->J p=some (.lst ((b7 x).map V.str))->Q (.ref p) J)
def lD(x:Str):Str:=Txt.stripChars x " "
def Dm(x:Str):Option (V×List Str):=if Txt.contains x ":"=true then some (.non,[lD (lB (cT 58 x.cps.toList)),lD (lB (cI 58 x.cps.toList))])else none
theorem RC:(":":Str)=⟨#[58]⟩:=by decide +kernel
def fU(ns:List Str):Bool:=(decide (1<=(ns.length:Int))&&decide ((ns.length:Int)<=8))&&ns.all fun n=>isName n&&decide ((ns.map V.str).countP (fun z=>mw z (.str n))=1)
inductive we(vs:List V)(H:Hp)(Q:VK)(E:XK):Prop
 |mk(x:_)(_:vs=[.str x])(_:x.length<=fQ)(_:∀ r J,(∀ b o,H b=some o->J b=some o)->(if fU (b7 x)=true then ∃ p,yj J r (.ref p) []/\J p=some (.tup ((b7 x).map V.str))else r=.non)->Q r J)
theorem tG(T:Txt P w K mg t):FM P w base T.q58 1 A':=by
 refine T.q58.F.fk (N:=["text"]) eP ?_;rintro nd _ _ _ _ H _ _ _ hr ⟨x,rfl,hx,k⟩;refine⟨_,(au (aC (bM rfl ["word"] [none] (bU (bY PySem.F.plainAttrs_str PySem.F.slot_str_split PySem.F.type_str_split xF (O 0) (aa az aj))) gT (fun _ _ _ _ _ _=>(iq 0 (kG (l:=["word"])))) (fun _ _ _ _ _ _=>gC (aF gY (O 0) az (aH _))) (fun _ _ _ _ _ _=>(O 0))))),?_⟩;have hm:=iT;have hsl:=sL x " ";refine⟨_,Z,Z,x,_,Z,Z,(by rw[pG];decide),G,G,fun p hp=>?_⟩;have s1:=aW (o:=.lst ((Txt.split x " ").map V.str)) hp;have hp1:(upd H p (.lst ((Txt.split x " ").map V.str))) p=some (.lst ((Txt.split x " ").map V.str)):=ao;generalize upd H p (.lst ((Txt.split x " ").map V.str))=H1 at s1 hp1 ⊢;refine⟨p,Z,⟨_,b3.of hp1⟩,?_⟩
 refine cF (K:=K) (a:=p) (xs:=(Txt.split x " ").map V.str) (fun i ys J=>J=H1/\ys=(((Txt.split x " ").take i).filter fun(w:Str)=>!decide (w="")).map V.str) ⟨rfl,rfl⟩ (by rw[dn];exact G) (fun i ys J ⟨_,e⟩=>by
  rw[e,dn];have:=da (fun w:Str=>!decide (w="")) ((Txt.split x " ").take i);rw[bp]at this
  exact G) (fun i ys J ⟨e,_⟩=>by subst e;exact b3.of hp1) ?_ ?_
 .rintro i z ys J hi ⟨e,rfl⟩
  subst e;rw[lS]at hi
  obtain⟨c,hc,rfl⟩:∃ c,(Txt.split x " ")[i]?=some c/\z=V.str c:=by
   cases q:(Txt.split x " ")[i]? with
   |none=>rw[q]at hi;cases hi
   |some c=>rw[q]at hi;exact⟨c,Z,(kF hi).symm⟩
  have et:(((Txt.split x " ").take (i+1)).filter fun(w:Str)=>!decide (w=""))=(((Txt.split x " ").take i).filter fun(w:Str)=>!decide (w=""))++(if c="" then []else [c]):=by
   rw[rh,hc,eM]
   congr 1
   show List.filter _ [c]=_
   by_cases h:c=""
   .rw[qp h,dS (by rw[cK h];decide)]
    rfl
   rw[bX h,fz (by rw[gX h];rfl)]
   rfl
  refine⟨trivial,_,Z,Z,_,Z,aN (fun z=>?_) (fun z=>?_)⟩
  .have z:¬c="":=fun e=>by rw[e,cK rfl]at z;cases z
   refine⟨_,Z,Z,?_⟩;rw[et,bX z,ar]
   rfl
  have z:c="":=e_ fun e=>z (by rw[gX (fun q=>e (V.str.inj q))];rfl)
  refine⟨Z,?_⟩;rw[et,qp z,cn]
 rintro ys J ⟨e,rfl⟩;subst e;show ∀ l,J l=none->_;rw[dn,bE];intro l hl;exact k l _ (bA s1 (aW hl)) ao
theorem AL:ck ["text","parts"] ["text"] (aR YQ):=eP
theorem Ka(T:Txt P w K mg t):FM P w base T.q70 1 (LX Dm):=by
 refine T.q70.F.xa AL (fun vs H Q E h=>by obtain⟨x,rfl,_⟩:=h;rfl) (fun j_ A outer s H vs Q E hr h=>?_);obtain⟨x,rfl,hx,k⟩:=h;have nd:=AL.nd
 refine⟨_,(aq (aO (aF yR az (O 0) ou)
    (au (aC bL))
    aM)
   (aq (fN 1 nd (bY PySem.F.plainAttrs_str PySem.F.slot_str_partition PySem.F.type_str_partition kW (O 0) (aa az aj)))
   (au (aC (bu (aa bL (aa (bx (aa (bY PySem.F.plainAttrs_str PySem.F.slot_str_strip PySem.F.type_str_strip oZ (cy aJ (O 1) ak) (aa az aj)) (aa (bY PySem.F.plainAttrs_str PySem.F.slot_str_strip PySem.F.type_str_strip oZ (cy aJ (O 1) ak) (aa az aj)) aj))) aj))))))),?_⟩
 have hm:=iT;have OC:x.length=x.cps.toList.length:=ay.symm;unfold Dm at k;refine⟨_,Z,_,_,Z,Z,_,Z,?_⟩;cases h:Txt.contains x ":" with
 | false =>
  rw[h,bX jv]at k;exact bN (k _ _ (fun _ _ e=>e) rfl)
 | true =>
  rw[h,qp rfl]at k;refine bz ?_;refine⟨_,Z,Z,x,_,58,Z,Z,RC,G,fun p b hp=>?_⟩;have s1:=aW (o:=.tup [.str ⟨(cT 58 x.cps.toList).toArray⟩,.str b,.str ⟨(cI 58 x.cps.toList).toArray⟩]) hp;have hp1:(upd H p (.tup [.str ⟨(cT 58 x.cps.toList).toArray⟩,.str b,.str ⟨(cI 58 x.cps.toList).toArray⟩])) p=some (.tup [.str (lB (cT 58 x.cps.toList)),.str b,.str (lB (cI 58 x.cps.toList))]):=ao;generalize upd H p (.tup [.str ⟨(cT 58 x.cps.toList).toArray⟩,.str b,.str ⟨(cI 58 x.cps.toList).toArray⟩])=H1 at s1 hp1 ⊢
  have hA:(lB (cT 58 x.cps.toList)).length <= sizeLine:=by
   have:=pH 58 x.cps.toList;show(cT 58 x.cps.toList).toArray.size<=_;rw[ah];exact G
  have hB:(lB (cI 58 x.cps.toList)).length <= sizeLine:=by
   have:=mj 58 x.cps.toList;show(cI 58 x.cps.toList).toArray.size<=_;rw[ah];exact G
  refine⟨_,Z,p,_,0,_,Z,Z,SqT.of hp1,Z,Z,_,_,Z,Z,hA,_,Z,p,_,2,_,Z,Z,SqT.of hp1,Z,Z,_,_,Z,Z,hB,xE,fun l hl=>⟨xE,fun q hq=>?_⟩⟩;exact k _ _ (bA s1 (bA (aW hl) (aW hq))) ⟨q,l,rfl,ao,aW hq _ _ ao⟩
theorem qI{n:Str}(h:n∈b7 x):n.length<=x.length:=PyProof.Rows.part_short (me.mp h).1
theorem tH(x:Str):(b7 x).length <= x.length+2:=gV (da _ _) (sL x " ")
theorem tK(ns:List Str):(ns.map V.str).all fB=true:=by
 rw[bP];intro v hv;obtain⟨n,_,rfl⟩:=b9.mp hv
 rfl
theorem GR(T:Txt P w K mg t):FM P w base T.q65 3 we:=by
 refine T.q65.F.fk (N:=["text","names"]) eP ?_;rintro nd _ _ _ _ H _ Q _ hr ⟨x,rfl,hx,k⟩
 refine⟨_,(aq (G0 1 nd (eI T.q58 (tG T) hr aK (aa (O 0) aj)))
   (aq (aO (cW (qM lH lH ak (aY aX T.zd Bt.len (aa (ja 1) aj)) (fC (v:=.int 8) T.zaH ⟨_,rfl⟩)))
    (au (aC bL))
    aM)
   (aq (aO (cW (cz (aY (jE rfl) T.zC Bt.all (aa (bM rfl ["name","names"] [none,some 1] (bU (ja 1)) gT (fun _ _ _ _ _ _=>(iq 0 (kG (l:=["name","names"])))) (fun _ _ _ _ _ _=>bV) (fun _ _ _ _ _ _=>(oF (eI T.q1 (lV T) hr aK (aa (O 0) aj)) (mH (cM aV (Ey (K:=K) rfl PySem.F.plainAttrs_list PySem.F.slot_list_count PySem.F.type_list_count (Fz (K:=K)) (ja 1) (aa (O 0) aj)) ak (aH _)))))) aj))))
    (au (aC bL))
    aM)
   (au (aC (bu (aa (c7 di T.zn Bt.tuple (aa (ja 1) aj)) (aa (bx aj) aj)))))))),?_⟩
 have hm:=iT;refine⟨_,Z,x,Z,hx,fun p H1 s1 hp1=>?_⟩;have pe:∀ n∈b7 x,n.length<=sizeLine:=fun n hn=>by have:=qI hn;exact G
 have Kn:=tH x;generalize b7 x=ns at hp1 pe Kn k;have fin:∀ J,(∀ b o,H b=some o->J b=some o)->fU ns=false->Q .non J:=fun J s' e=>k _ _ s' (by rw[e,bX jv])
 refine⟨_,Z,p,_,Z,.inl (b3.of hp1),_,_,Z,Z,_,Z,?_⟩;rw[dn];refine aN (fun e1=>?_) (fun e1=>⟨_,rfl,bN (fin H1 s1 (by simp at e1;simp[fU];exact G))⟩);have e1:=eS e1;refine⟨_,_,Z,Z,_,Z,?_⟩;cases e2:decide ((ns.length:Int)<=8)with
 |false=>exact bN (fin H1 s1 (by simp at e2;simp[fU];exact G))
 |true =>
 refine bz ?_;refine⟨_,Z,p,Z,⟨_,b3.of hp1⟩,?_⟩;refine cF (K:=K) (a:=p) (xs:=ns.map V.str) (fun i ys J=>(∀ b o,H1 b=some o->J b=some o)/\ys=((ns.take i).map fun n=>isName n&&decide ((ns.map V.str).countP (fun z=>mw z (.str n))=1)).map V.bl) ⟨fun _ _ e=>e,rfl⟩ (by rw[dn];exact G) (fun i ys J ⟨_,e⟩=>by rw[e,dn,dn,bp];exact G) (fun i ys J ⟨s',_⟩=>b3.of (s' _ _ hp1)) ?_ ?_
 .rintro i z ys H2 hi ⟨s2,rfl⟩
  rw[lS]at hi
  obtain⟨n,hn,rfl⟩:∃ c,ns[i]?=some c/\z=V.str c:=by
   cases q:ns[i]? with
   |none=>rw[q]at hi;cases hi
   |some c=>rw[q]at hi;exact⟨c,Z,(kF hi).symm⟩
  have IB:n∈ns:=qB hn
  have et:∀ b:Bool,(isName n&&decide ((ns.map V.str).countP (fun z=>mw z (.str n))=1))=b->((ns.take i).map fun n=>isName n&&decide ((ns.map V.str).countP (fun z=>mw z (.str n))=1)).map V.bl++[V.bl b]=((ns.take (i+1)).map fun n=>isName n&&decide ((ns.map V.str).countP (fun z=>mw z (.str n))=1)).map V.bl:=fun b e=>by
   rw[rh,hn,ar,ar,<- e]
   rfl
  refine⟨⟨Z,trivial⟩,_,Z,n,Z,pe n IB,fun H3 s3=>⟨_,Z,?_⟩⟩;have GV:=bA s2 s3;cases h:isName n with
  |false=>exact bz ⟨GV,et false (by rw[h];rfl)⟩
  | true =>
   refine bN ⟨_,rfl,.inl ⟨rfl,_,b3.of (GV _ _ hp1)⟩,_,rfl,p,_,.str n,rfl,rfl,b3.of (GV _ _ hp1),rfl,tK ns,fun j hj ej=>⟨rfl,GV,et _ ?_⟩⟩;rw[h,Bool.true_and,<- ej]
   by_cases e:j=1
   .rw[cK e,cK (by rw[e];rfl)]
   rw[gX e,gX (fun z=>e (by have:=V.int.inj z;exact G))]
 rintro ys H2 ⟨s2,rfl⟩ lc yB;rw[dn,bE];have s3:=aW (o:=.lst ((ns.map fun n=>isName n&&decide ((ns.map V.str).countP (fun z=>mw z (.str n))=1)).map V.bl)) yB;refine⟨lc,_,Z,b3.of ao,?_⟩;generalize upd H2 lc (.lst ((ns.map fun n=>isName n&&decide ((ns.map V.str).countP (fun z=>mw z (.str n))=1)).map V.bl))=H3 at s3 ⊢;have pb:=bA s1 (bA s2 s3);have BN:=s3 _ _ (s2 _ _ hp1)
 have ea:(ns.map fun n=>isName n&&decide ((ns.map V.str).countP (fun z=>mw z (.str n))=1)).all id=ns.all fun n=>isName n&&decide ((ns.map V.str).countP (fun z=>mw z (.str n))=1):=by
  rw[rf]
  rfl
 rw[ea];have E':=eS e2
 have eb:fU ns=ns.all fun n=>isName n&&decide ((ns.map V.str).countP (fun z=>mw z (.str n))=1):=by
  unfold fU;rw[cK e1,cK E']
  rfl
 rw[<- eb];cases h:fU ns with
 |false=>exact⟨_,Z,bN (fin H3 pb h)⟩
 | true =>
  refine⟨_,Z,bz ?_⟩;refine⟨_,Z,p,_,Z,.inl ⟨b3.of BN,fun q hq=>⟨(by show 0<=sizeLine;decide),fun l hl=>⟨xE,fun r so=>?_⟩⟩⟩⟩;refine k _ _ (bA pb (bA (aW hq) (bA (aW hl) (aW so)))) ?_;rw[h,qp rfl];exact⟨q,⟨r,l,Z,ao,aW so _ _ ao⟩,aW so _ _ (aW hl _ _ ao)⟩
theorem tL(x:Str):(bW x).length <= x.length:=by
 have h1:=mj 32 x.cps.toList;have h2:x.length=x.cps.toList.length:=ay.symm
 have h3:((cI 32 x.cps.toList).dropWhile (· == 32)).length <= (cI 32 x.cps.toList).length:=by
  rw[<- jr,cm];exact G
 show((cI 32 x.cps.toList).dropWhile (· == 32)).toArray.size<=_;rw[ah];exact G
def jf(kd:Str):Option (Str->Option (V×List Str)):=
 if kd="take" then some tD else if kd="give"\/kd="ask" then some wA else if kd="lean" then some tE else if kd="keep" then some p6 else if kd="back"\/kd="again"\/kd="worlds" then some tu else if kd="lost" then some Dm else none
theorem yl:ck ["row","kind","pair"] ["row"] (aR YL):=eP
theorem Qx:("\n":Str)=⟨#[10]⟩:=by decide +kernel
def iz(x:Str):List (Nat×Str):=(Txt.split x "\n").zipIdx.map fun p=>(p.2,lD p.1)
def p7(x:Str):List (Nat×Str):=(iz x).filter fun(r:Nat×Str)=>!decide (r.2="")
def px(H:Hp)(v:V)(r:Nat×Str):Prop:=∃ q,v=.ref q/\H q=some (.tup [.int (r.1:Int),.str r.2])
theorem px.mono(s:∀ b o,H b=some o->J b=some o){r:Nat×Str}:px H v r->px J v r:=fun⟨q,h1,h2⟩=>⟨q,h1,s _ _ h2⟩
inductive C5(vs:List V)(H:Hp)(Q:VK)(E:XK):Prop
 |mk(x:_)(_:vs=[.str x])(_:x.length<=fQ)(_:∀ p us J,(∀ b o,H b=some o->J b=some o)->J p=some (.lst us)->Paired (px J) us (p7 x)->Q (.ref p) J)
theorem GX(x:Str):(iz x).length=(Txt.split x "\n").length:=by
 unfold iz;rw[dn,List.length_zipIdx]
theorem Kc{s:Str} (h:(Txt.split x "\n")[i]?=some s):(iz x)[i]?=some (i,lD s):=by
 unfold iz;rw[lS,List.getElem?_zipIdx,h];simp
theorem GZ(T:Txt P w K mg t):FM P w base T.q57 1 C5:=by
 refine T.q57.F.fk (N:=["text","rows"]) eP ?_;rintro nd _ _ _ _ H vs Q E hr ⟨x,rfl,hx,k⟩
 refine⟨_,(aq (gj (i:=1) rfl ["place","row"] [none,none] nd rfl rfl (Le (bY PySem.F.plainAttrs_str PySem.F.slot_str_split PySem.F.type_str_split xF (O 0) (aa az aj)) T.zw) gT (fun _ _ _ _ _ _=>(gD (K:=K) (n:=2) rfl rfl (bH (iq 0 (kG (l:=["place","row"]))) (bH (iq 1 (kG (l:=["place","row"]))) dI)))) (fun _ _ _ _ _ _=>bV) (fun _ _ _ _ _ _=>(bu (aa (O 0) (aa (Ey (K:=K) rfl PySem.F.plainAttrs_str PySem.F.slot_str_strip PySem.F.type_str_strip oZ (O 1) (aa az aj)) aj)))))
   (au (aC (bM rfl ["pair"] [none] (bU (O 1)) gT (fun _ _ _ _ _ _=>(iq 0 (kG (l:=["pair"])))) (fun _ _ _ _ _ _=>gC (aF gY (cy (gZ (K:=K)) (O 0) ak) az (aH _))) (fun _ _ _ _ _ _=>(O 0)))))),?_⟩
 have hm:=iT;have hsl:=sL x "\n";refine⟨_,Z,Z,x,_,Z,Z,(by rw[Qx];decide),G,G,fun p hp=>?_⟩;have s1:=aW (o:=.lst ((Txt.split x "\n").map V.str)) hp;have hp1:(upd H p (.lst ((Txt.split x "\n").map V.str))) p=some (.lst ((Txt.split x "\n").map V.str)):=ao;generalize upd H p (.lst ((Txt.split x "\n").map V.str))=H1 at s1 hp1 ⊢;have pj:=GX x;refine⟨p,Z,⟨_,b3.of hp1⟩,?_⟩;refine Fd (K:=K) (a:=p) (xs:=(Txt.split x "\n").map V.str) (fun i ys J=>(∀ b o,H1 b=some o->J b=some o)/\Paired (px J) ys ((iz x).take i)) ⟨fun _ _ e=>e,.nil⟩ (by rw[dn];exact G) (fun i ys J ⟨_,e⟩=>by rw[a_ e,bp];exact G) (fun i ys J ⟨s',_⟩=>b3.of (s' _ _ hp1)) ?_ ?_
 .rintro i y ys H2 hi ⟨s2,hP⟩ e he
  rw[lS]at hi
  obtain⟨c,hc,rfl⟩:∃ c,(Txt.split x "\n")[i]?=some c/\y=V.str c:=by
   cases q:(Txt.split x "\n")[i]? with
   |none=>rw[q]at hi;cases hi
   |some c=>rw[q]at hi;exact⟨c,Z,(kF hi).symm⟩
  have EA:c.length<=sizeLine:=by have:=PyProof.Rows.part_short (qB hc);exact G
  have s3:=aW (o:=.tup [.int (i:Int),.str c]) he;refine⟨e,_,Z,SqT.of ao,Z,_,_,Z,_,_,Z,Z,trivial,?_⟩;refine⟨_,Z,_,Z,Z,c,_,Z,Z,EA,xE,fun m CF=>?_⟩;have s4:=aW (o:=.tup [.int (i:Int),.str (Txt.stripChars c " ")]) CF;refine⟨bA s2 (bA s3 s4),?_⟩;rw[rh,Kc hc];exact bJ (Paired.iA hP fun _ _ z=>px.mono (bA s3 s4) z) (.cons ⟨m,rfl,ao⟩ .nil)
 rintro ys H2 ⟨s2,hP⟩ l hl;rw[dn,<- pj,bE]at hP;have s3:=aW (o:=.lst ys) hl;have D8:(upd H2 l (.lst ys)) l=some (.lst ys):=ao;have _h:=Paired.iA hP fun _ _ z=>px.mono s3 z
 generalize upd H2 l (.lst ys)=H3 at s3 D8 _h ⊢;have pb:=bA s1 (bA s2 s3);have Ki:=a_ hP;refine⟨_,Z,l,Z,⟨_,b3.of D8⟩,?_⟩
 refine cF (K:=K) (a:=l) (xs:=ys) (fun i zs J=>J=H3/\Paired (px H3) zs (((iz x).take i).filter fun(r:Nat×Str)=>!decide (r.2=""))) ⟨rfl,.nil⟩ G (fun i zs J ⟨_,e⟩=>by
  rw[a_ e];have:=da (fun r:Nat×Str=>!decide (r.2="")) ((iz x).take i);rw[bp]at this
  exact G) (fun i zs J ⟨e,_⟩=>by subst e;exact b3.of D8) ?_ ?_
 .rintro i v zs J hi ⟨e,hZ⟩
  subst e;obtain⟨r,so,q,rfl,hq⟩:=bD _h i v hi
  have et:((iz x).take (i+1)).filter (fun(r:Nat×Str)=>!decide (r.2=""))=((iz x).take i).filter (fun(r:Nat×Str)=>!decide (r.2=""))++(if r.2="" then []else [r]):=by
   rw[rh,so,eM]
   congr 1
   show List.filter _ [r]=_
   by_cases h:r.2=""
   .rw[qp h,dS (by rw[cK h];decide)]
    rfl
   rw[bX h,fz (by rw[gX h];rfl)]
   rfl
  refine⟨trivial,_,Z,q,_,1,.str r.2,Z,Z,SqT.of hq,Z,Z,_,Z,aN (fun z=>?_) (fun z=>?_)⟩
  .have z:¬r.2="":=fun e=>by rw[e,cK rfl]at z;cases z
   refine⟨_,Z,Z,?_⟩;rw[et,bX z];exact bJ hZ (.cons ⟨q,rfl,hq⟩ .nil)
  have z:r.2="":=e_ fun e=>z (by rw[gX (fun q=>e (V.str.inj q))];rfl)
  refine⟨Z,?_⟩;rw[et,qp z,cn];exact hZ
 rintro zs J ⟨e,hZ⟩ l2 l8;subst e;have el:ys.length=(iz x).length:=Ki;rw[el,bE]at hZ;exact k l2 zs _ (bA pb (aW l8)) ao (Paired.iA hZ fun _ _ z=>px.mono (aW l8) z)
inductive F'(vs:List V)(H:Hp)(Q:VK)(E:XK):Prop
 |mk(x:_)(_:vs=[.str x])(_:x.length<=fQ)(_:cQ x="names")(_:fU (b7 (bW x))=true)(_:∀ q p l J,(∀ b o,H b=some o->J b=some o)->J q=some (.tup [.str "names",.ref p,.ref l])->J p=some (.tup ((b7 (bW x)).map V.str))->Q (.ref q) J)
inductive wc(vs:List V)(H:Hp)(Q:VK)(E:XK):Prop
 |mk(l:Addr)(v:V)(us:List V)(i:Nat)(x:Str)(_:vs=[.ref l])(_:H l=some (.lst (v::us)))(_:us.length<=fQ)(_:px H v (i,x))(_:x.length<=fQ)(_:cQ x="names")(_:fU (b7 (bW x))=true)(_:∀ p J,(∀ b o,H b=some o->J b=some o)->J p=some (.tup ((b7 (bW x)).map V.str))->Q (.ref p) J)
theorem Kd(T:Txt P w K mg t):FM P w base T.q74 6 F':=by
 refine T.q74.F.fk (k:=5) yl ?_;rintro nd _ _ _ _ _ _ _ _ hr ⟨x,rfl,hx,hO,hB,k⟩;have hu:=fc hr
 refine⟨_,(aq (fN 1 nd (eI T.q59 (nO T) hr aK (aa (O 0) aj)))
   (aq (aO (rO (oX T.zo (O 1) (fC (v:=.ref t.zo) T.zK rfl)))
    (au (aC bL))
    aM)
   (aq (fN 2 nd (nF (jo T.zo hu (fC (v:=.ref t.zo) T.zK rfl) (O 1) (fun _ _=>rfl)) (aa (eI T.q60 (nP T) hr aK (aa (O 0) aj)) aj)))
   (au (aC (fD (aF ik (O 2) bL (aH _)) bL (bu (aa (O 1) (aa (cy aJ (O 2) ak) (aa (cy aJ (O 2) ak) aj)))))))))),?_⟩
 have hm:=iT;have hb:=tL x;refine⟨_,Z,x,Z,G,fun H1 s1=>?_⟩;generalize cQ x=kd at hO;subst hO;have hv:bR ([(.inr "names",.ref t.NW),(.inr "take",.ref t.Ud),(.inr "give",.ref t.K_),(.inr "lean",.ref t.Uc),(.inr "keep",.ref t.Ua),(.inr "pour",.ref t.T_),(.inr "back",.ref t.EG),(.inr "again",.ref t.EG),(.inr "ask",.ref t.K_),(.inr "lost",.ref t.Ub),(.inr "worlds",.ref t.EG)]:List (Key×V)) (Sum.inr "names" : Key)=some (V.ref t.NW):=by kernel_rfl
 refine⟨_,Z,.inr "names",Z,Z,_,Z,?_⟩;rw[hv];refine bz ?_;refine⟨_,Z,.inr "names",V.ref t.NW,Z,Z,hv,t.NW,oT P w,5,t.d65,["text"],we,_,Z,(GR T).mono b4,hr,T.q65.k,T.q65.b,aK,_,Z,x,Z,G,fun H2 s2=>⟨bW x,Z,G,fun r H3 s3 MW=>?_⟩⟩;have pb:=bA s1 (bA s2 s3);rw[hB,qp rfl]at MW;obtain⟨p,⟨q,l,rfl,hq,hl⟩,hp⟩:=MW;refine⟨_,rfl,rfl,_,rfl,aN (fun z=>absurd (eS z) (by intro z;cases z)) (fun _=>?_)⟩;refine⟨_,Z,_,Z,q,_,0,.ref p,Z,Z,SqT.of hq,Z,_,Z,q,_,1,.ref l,Z,Z,SqT.of hq,Z,(by show 3<=sizeLine;decide),fun m CF=>?_⟩;exact k m p l _ (bA pb (aW CF)) ao (aW CF _ _ hp)
theorem Aa:ck ["rows","form"] ["rows"] (aR Yz):=eP
theorem ym(T:Txt P w K mg t):FM P w base T.q89 7 wc:=by
 refine T.q89.F.fk (k:=6) Aa ?_;rintro nd _ _ _ _ H vs Q E hr ⟨l,v,us,i,x,rfl,hl,t9,⟨qv,rfl,hqv⟩,hx,hk,hB,k⟩
 refine⟨_,(aq (aO (aF aV (aY aX T.zd Bt.len (aa (O 0) aj)) ak (aH _))
    (au qK)
    aM)
   (aq (fN 1 nd (eI T.q74 (Kd T) hr aK (aa (cy aJ (cy bj (O 0) ak) ak) aj)))
   (aq (aO (PW.pt (dH (aF ik (O 1) bL (aH _)) (eV (aF gY (cy aJ (O 1) ak) az (aH _)))))
    (au qK)
    aM)
   (au (aC (cy aJ (O 1) ak)))))),?_⟩
 have hm:=iT;refine⟨_,Z,l,_,Z,.inl (b3.of hl),Z,_,Z,aN (fun z=>absurd (V.int.inj (eS z)) (by show ¬((us.length+1:Nat):Int)=0;exact G)) (fun _=>?_)⟩;refine⟨_,Z,l,_,0,.ref qv,Z,Z,b3.of hl,bh (j:=0) rfl,qv,_,1,.str x,Z,Z,SqT.of hqv,Z,x,Z,hx,hk,hB,fun q p l2 H1 s1 hq hp=>?_⟩;refine⟨_,rfl,rfl,_,rfl,aN (fun z=>absurd (eS z) (by intro z;cases z)) (fun _=>?_)⟩;refine⟨_,Z,q,_,0,_,Z,Z,SqT.of hq,Z,Z,_,Z,aN (fun z=>absurd z (by rw[cK rfl];decide)) (fun _=>?_)⟩;exact⟨_,Z,q,_,1,.ref p,Z,Z,SqT.of hq,Z,k p H1 s1 hp⟩
def tM(i:Int):Str:=if i=0 then "open" else if 0<i then("held ":Str)++(toString i:String)else("denied ":Str)++(toString (-i):String)
def ux(rs:List Int)(ns:List Str)(tr:Tr):Str:=match aQ (sel rs (aU ns tr)),aQ (sel rs (aP ns tr))with
 |none,_ => "always"
 |some _,none => "never"
 |some m,some y=>tM (m-y)
inductive P2(vs:List V)(H:Hp)(Q:VK)(E:XK):Prop
 |mk(a p r l:Addr)(rs:List Int)(v:V)(us:List V)(ns:List Str)(tr:Tr)(_:vs=[.ref a,.ref l])(_:cq H a p r rs)(_:H l=some (.lst (v::us)))(_:Fits H p v ns tr)(_:(∀ x∈tr.names,x∈ns))(_:(∀ m y,aQ (sel rs (aU ns tr))=some m->aQ (sel rs (aP ns tr))=some y->(m-y).natAbs.log2<1920))(_:∀ J,bb H J->Q (.str (ux rs ns tr)) J)
theorem oE(h:L2.under K C aad=true):(jn K C).isSome=true:=by
 unfold L2.under at h;cases e:jn K C with
 |none=>rw[e]at h;cases h
 |some b=>rfl
theorem RD:ck ["mind","trees","lean"] ["mind","trees"] (aR YD):=eP
theorem Qy(T:Txt P w K mg t):FM P w base T.q83 121 P2:=by
 refine T.q83.F.fk (k:=120) RD ?_;rintro nd _ _ _ _ H vs Q E hr ⟨a,p,r,l,rs,v,us,ns,tr,rfl,hm,hl,hf,hall,yA,k⟩
 refine⟨_,(aq (Az (xj (Mx (i:=2) nd rfl (Or.inl rfl) (Qn T.q22 (Ng T) hr (aa (O 0) (aa (cy bj (O 1) ak) aj)))))
    (.cons T.zQ T.zV gT gT (fun e=>(au (aC az))) (.cons T.zS T.zW gT gT (fun e=>(au (aC az))) .nil)))
   (aq (aO (aF aV (O 2) ak (aH _))
    (au (aC az))
    aM)
   (au (aC (fD (aF nj (O 2) ak (aH _)) (aD bC az (c7 fY T.zt Bt.str (aa (O 2) aj))) (aD bC az (c7 fY T.zt Bt.str (aa (iW gQ (O 2)) aj)))))))),?_⟩
 unfold ux at k;refine⟨_,Z,_,Z,l,_,0,v,Z,Z,b3.of hl,bh (j:=0) rfl,a,p,r,rs,v,ns,tr,Z,hm,hf,fun _=>?_,fun z=>absurd hall z⟩;cases ho:aQ (sel rs (aU ns tr))with
 | none =>
  rw[ho]at k;exact fun H1 s1=>⟨t.zi,rfl,oE T.Y9,.inl ⟨T.Y9,k H1 s1⟩⟩
 | some m =>
  rw[ho]at k;cases hk:aQ (sel rs (aP ns tr))with
  | none =>
   rw[hk]at k;exact fun H1 s1=>⟨t.zj,rfl,oE T.Y8,.inr ⟨T.zaT,.inl ⟨T.Y8,k H1 s1⟩⟩⟩
  | some y =>
   rw[hk]at k;have D7:=yA m y ho hk;intro H1 s1;have k1:Q (.str (tM (m-y))) H1:=k H1 s1;generalize m-y=i at D7 k1;unfold tM at k1;refine⟨_,Z,Z,_,Z,aN (fun z=>?_) (fun z=>?_)⟩
   .rw[qp (V.int.inj (eS z))]at k1
    exact k1
   have z:¬i=0:=fun e=>z (cK (by rw[e]))
   rw[bX z]at k1;refine⟨_,Z,_,_,Z,Z,_,Z,aN (fun g=>?_) (fun g=>?_)⟩
   .have g:0<i:=eS g
    rw[qp g]at k1;refine⟨_,Z,i,Z,D7,_,_,Z,Z,?_,k1⟩;have:=hJ D7;have e5:("held ":Str).length=5:=by decide +kernel
    rw[e5];exact gV (dP this 5) b4
   have g:¬0<i:=fun e=>g (cK e)
   rw[bX g]at k1;refine⟨_,Z,_,Z,-i,Z,by rw[tw];exact D7,_,_,Z,Z,?_,k1⟩;have:=hJ (i:=-i) (by rw[tw];exact D7);have e7:("denied ":Str).length=7:=by decide +kernel
   rw[e7];exact gV (dP this 7) b4
def iw(n:Nat)(wd:Nat):Str:=Txt.join ("":Str) ((List.range n).map fun(i:Nat)=>((toString ((gr wd i:Nat):Int):String):Str))
inductive Fn(vs:List V)(H:Hp)(Q:VK)(E:XK):Prop
 |mk(p:Addr)(ns:List Str)(wd:Nat)(_:vs=[.ref p,.int (wd:Int)])(_:H p=some (.tup (ns.map V.str)))(_:ns.length<=8)(_:∀ J,bb H J->Q (.str (iw ns.length wd)) J)
theorem jL(wd i:Nat):((toString ((gr wd i:Nat):Int):String):Str).length=1/\(((gr wd i:Nat):Int)).natAbs.log2<1920:=by
 unfold gr
 split<;>exact⟨dk,dk⟩
theorem Ke(T:Txt P w K mg t):FM P w base T.q82 2 Fn:=by
 refine T.q82.F.fk (N:=["names","world"]) eP ?_;rintro nd _ _ _ _ _ _ _ _ hr ⟨p,ns,wd,rfl,hp,h8,k⟩;refine⟨_,(au (aC (bY PySem.F.plainAttrs_str PySem.F.slot_str_join PySem.F.type_str_join jm az (aa (bM rfl ["place","world"] [none,some 1] (gF T.zp (aa (aY aX T.zd Bt.len (aa (O 0) aj)) aj)) gT (fun _ _ _ _ _ _=>(iq 0 (kG (l:=["place","world"])))) (fun _ _ _ _ _ _=>bV) (fun _ _ _ _ _ _=>(c7 fY T.zt Bt.str (aa (eI T.q6 (sV T) hr aK (aa (ja 1) (aa (O 0) aj))) aj)))) aj)))),?_⟩;have el:(ns.map V.str).length=ns.length:=dn _;refine⟨Z,_,Z,p,_,Z,.inr (SqT.of hp),_,Z,G,by rw[el];exact G,?_⟩;rw[bq,el];refine dz (lo:=0) (n:=ns.length) (fun i=>V.str (toString ((gr wd i:Nat):Int):String)) (gV h8 b4) (fun i R hi hR=>⟨⟨rfl,trivial⟩,_,rfl,_,rfl,wd,i,(by show [V.int (wd:Int),V.int (0+(i:Int))]++[]=_;rw[gS];rfl),_,rfl,(jL wd i).2,hR⟩) fun l hl=>?_
 have em:((List.range ns.length).map fun i=>V.str (toString ((gr wd i:Nat):Int):String))=(((List.range ns.length).map fun(i:Nat)=>((toString ((gr wd i:Nat):Int):String):Str)).map V.str):=by
  rw[dA]
  rfl
 rw[em];refine⟨_,l,_,Z,Z,b3.of ao,?_,k _ (aA hl)⟩
 have es:∀ m:Nat,((((List.range m).map fun(i:Nat)=>((toString ((gr wd i:Nat):Int):String):Str)).map (·.length)).sum)=m:=by
  intro m
  induction m with
  |zero=>rfl
  | succ m ih =>
   rw[eJ,ar,ar,rV,ih];show m+((((toString ((gr wd m:Nat):Int):String):Str).length)+0)=m+1;rw[(jL wd m).1]
 rw[es,dn,cE];have e0:("":Str).length=0:=rfl;rw[e0,Nat.mul_zero];exact G
/- chains of ∃ and/\in one piece: a proof term holds each side once -/
inductive C10(A0 A1 A2 A3 A4 A5 A6 A7 A8 A9:Prop):Prop
 |mk(_:A0)(_:A1)(_:A2)(_:A3)(_:A4)(_:A5)(_:A6)(_:A7)(_:A8)(_:A9)
inductive C11(A0 A1 A2 A3 A4 A5 A6 A7 A8 A9 A10:Prop):Prop
 |mk(_:A0)(_:A1)(_:A2)(_:A3)(_:A4)(_:A5)(_:A6)(_:A7)(_:A8)(_:A9)(_:A10)
inductive C13(A0 A1 A2 A3 A4 A5 A6 A7 A8 A9 A10 A11 A12:Prop):Prop
 |mk(_:A0)(_:A1)(_:A2)(_:A3)(_:A4)(_:A5)(_:A6)(_:A7)(_:A8)(_:A9)(_:A10)(_:A11)(_:A12)
inductive E7{a0 a1 a2 a3 a4 a5 a6:Type}(p:a0->a1->a2->a3->a4->a5->a6->Prop):Prop
 |mk(x0:a0)(x1:a1)(x2:a2)(x3:a3)(x4:a4)(x5:a5)(x6:a6)(_:p x0 x1 x2 x3 x4 x5 x6)
inductive E10{a0 a1 a2 a3 a4 a5 a6 a7 a8 a9:Type}(p:a0->a1->a2->a3->a4->a5->a6->a7->a8->a9->Prop):Prop
 |mk(x0:a0)(x1:a1)(x2:a2)(x3:a3)(x4:a4)(x5:a5)(x6:a6)(x7:a7)(x8:a8)(x9:a9)(_:p x0 x1 x2 x3 x4 x5 x6 x7 x8 x9)
inductive E15{a0 a1 a2 a3 a4 a5 a6 a7 a8 a9 VH Ue VG VF VE:Type}(p:a0->a1->a2->a3->a4->a5->a6->a7->a8->a9->VH->Ue->VG->VF->VE->Prop):Prop
 |mk(x0:a0)(x1:a1)(x2:a2)(x3:a3)(x4:a4)(x5:a5)(x6:a6)(x7:a7)(x8:a8)(x9:a9)(x10:VH)(x11:Ue)(x12:VG)(x13:VF)(x14:VE)(_:p x0 x1 x2 x3 x4 x5 x6 x7 x8 x9 x10 x11 x12 x13 x14)
def cf(lg kp al ml:Addr):List (Str×V):=bf "minds_behind" (.ref ml) (bf "answers" (.ref al) (bf "kept" (.ref kp) (bf "log" (.ref lg) [])))
theorem j6(lg kp al ml:Addr):(cf lg kp al ml).lookup ("log":Str)=some (.ref lg):=by
 unfold cf;rw[bB,bX dk,bB,bX dk,bB,bX dk,bB,qp rfl]
theorem Dn(lg kp al ml:Addr):(cf lg kp al ml).lookup ("kept":Str)=some (.ref kp):=by
 unfold cf;rw[bB,bX dk,bB,bX dk,bB,qp rfl]
theorem Lr(lg kp al ml:Addr):(cf lg kp al ml).lookup ("answers":Str)=some (.ref al):=by
 unfold cf;rw[bB,bX dk,bB,qp rfl]
theorem Ls(lg kp al ml:Addr):(cf lg kp al ml).lookup ("minds_behind":Str)=some (.ref ml):=by
 unfold cf;rw[bB,qp rfl]
structure CA where
 (c cx p dx sl kp al ml:Addr)
structure ka(t:l9)(H:Hp)(g:CA)(bl:Addr)(mv bv:List V)(xs:List Str)(ms:List V)(ks:List (Key×V)):Prop where
 co:H g.c=some (.ins t.zb g.cx (cf g.p g.kp g.al g.ml))
 lg:fo t.za H g.p g.dx g.sl bl mv bv
 an:H g.al=some (.lst (xs.map V.str))
 mb:H g.ml=some (.lst ms)
 kd:H g.kp=some (.dK ks)
 n1:g.al≠g.sl
 n2:g.al≠bl
 n3:g.ml≠g.sl
 n4:g.ml≠bl
 n5:g.al≠g.ml
 n6:g.p≠g.c
def gs(g:CA)(bl:Addr)(H J:Hp):Prop:=∀ b o,H b=some o->b≠g.p->b≠g.sl->b≠g.al->b≠g.ml->b≠g.kp->b≠bl->J b=some o
theorem fo.other{p:Addr}(U:fo C H p dx sl bl mv bv){c:Addr}(h1:p≠c)(h2:sl≠c)(h3:bl≠c):fo C (upd H c o) p dx sl bl mv bv :=
 ⟨by rw[aB h1];exact U.ob,U.ne,by rw[aB h2];exact U.st,by rw[aB h3];exact U.tb⟩
theorem cq.t5{r:Addr}(h:cq H a np r rs){c:Addr}{u:HO}(hc:H c=some u)(hu:∀ xs,u≠.tup xs):cq (upd H c o) a np r rs :=
 ⟨by rw[aB (aZ h.1 hc (fun z=>hu _ z.symm))];exact h.1,by rw[aB (aZ h.2.1 hc (fun z=>hu _ z.symm))];exact h.2.1,h.2.2⟩
theorem cq.same(s:bb H J){r:Addr}(h:cq H a np r rs):cq J a np r rs:=⟨s _ _ h.1,s _ _ h.2.1,h.2.2⟩
def fK(ns:List Str):List Int:=List.replicate (2^ns.length) (0:Int)
inductive GH(t:l9)(vs:List V)(H:Hp)(Q:VK)(E:XK):Prop
 |mk(c cx np:Addr)(ns:List Str)(_:vs=[.ref c,.ref np])(_:H c=some (.ins t.zb cx []))(_:H np=some (.tup (ns.map V.str)))(_:1<=ns.length)(_:ns.length<=8)(_:∀(p dx sl kp al ml bl m r:Addr)(J:Hp),ka t J ⟨c,cx,p,dx,sl,kp,al,ml⟩ bl [.ref m] [] [] [] []->cq J m np r (fK ns)->H p=none->H sl=none->H al=none->H ml=none->H kp=none->H bl=none->(∀ b o,H b=some o->b≠c->J b=some o)->Q .non J)
theorem NB:ck ["self","names"] ["self","names"] (aR YK):=eP
theorem Kf(T:Txt P w K mg t):Fm P w mg base T.q75 5 (GH t):=by
 refine T.q75.F.fk (k:=4) NB ?_;rintro nd _ _ _ _ H _ _ _ hr ⟨c,cx,np,ns,rfl,hc,hn,h1,h8,k⟩
 refine⟨_,(aq (iY (O 0) (Lg T.zaN (JD T) (hr.mo) T.zaF T.q33.b aK (aa (O 1) aj)) rfl)
   (aq (iY (O 0) qO rfl)
   (aq (iY (O 0) (bx aj) rfl)
   (au (iY (O 0) (bx aj) rfl))))),?_⟩
 refine⟨_,Z,fun p dx hp KS hpd=>?_⟩;have QO:c≠p:=aG hc hp;have ncd:c≠dx:=aG hc KS;refine⟨p,dx,np,ns,Z,ao,by rw[aB (aG hn hp),aB (aG hn KS)];exact hn,h1,h8,fun sl bl m r H1 hsl ub U hm keep=>⟨Z,?_⟩⟩;have k1:bb H H1:=fun b o e=>keep b o (by rw[aB (aG e hp),aB (aG e KS)];exact e) (aG e hp)
 have nsl:H sl=none:=by
  by_cases e:sl=p
  .rw[e];exact hp
  by_cases e2:sl=dx
  .rw[e2];exact KS
  rw[aB e,aB e2]at hsl;exact hsl
 have nbl:H bl=none:=by
  by_cases e:bl=p
  .rw[e];exact hp
  by_cases e2:bl=dx
  .rw[e2];exact KS
  rw[aB e,aB e2]at ub;exact ub
 have y3:=k1 _ _ hc;have UH:c≠sl:=aZ y3 U.st;have UJ:c≠bl:=aZ y3 U.tb;have il:∀ xs:List V,HO.ins t.zb cx []≠.tup xs:=fun xs z=>by cases z
 refine⟨_,Z,c,t.zb,cx,_,Z,y3,T.zg,T.zq,(by show 0<1000;decide),?_⟩;have U2:=U.other (c:=c) (o:=.ins t.zb cx (bf "log" (.ref p) [])) (aS QO) (aS UH) (aS UJ);have qS:=hm.t5 (c:=c) (o:=.ins t.zb cx (bf "log" (.ref p) [])) y3 (fun xs z=>by cases z);have m_:(upd H1 c (.ins t.zb cx (bf "log" (.ref p) []))) c=some (.ins t.zb cx (bf "log" (.ref p) [])):=ao;have k2:∀ b o,H b=some o->b≠c->(upd H1 c (.ins t.zb cx (bf "log" (.ref p) []))) b=some o:=fun b o e hb=>by rw[aB hb];exact k1 _ _ e
 generalize upd H1 c (.ins t.zb cx (bf "log" (.ref p) []))=H2 at U2 qS m_ k2 ⊢;intro kp qV;have s3:=aA (o:=.dK []) qV;have UI:c≠kp:=aG m_ qV
 have nkp:H kp=none:=by
  cases e:H kp with
  |none=>rfl
  |some o=>rw[k2 kp o e (aS UI)]at qV;cases qV
 refine⟨_,Z,c,t.zb,cx,_,Z,s3 _ _ m_,T.zg,T.zN,(by show 1<1000;decide),?_⟩;have U3:=(U2.mono s3).other (c:=c) (o:=.ins t.zb cx (bf "kept" (.ref kp) (bf "log" (.ref p) []))) (aS QO) (aS UH) (aS UJ);have BS:=(qS.same s3).t5 (c:=c) (o:=.ins t.zb cx (bf "kept" (.ref kp) (bf "log" (.ref p) []))) (s3 _ _ m_) (fun xs z=>by cases z);have OT:(upd (upd H2 kp (.dK [])) c (.ins t.zb cx (bf "kept" (.ref kp) (bf "log" (.ref p) [])))) c=some (.ins t.zb cx (bf "kept" (.ref kp) (bf "log" (.ref p) []))):=ao;have d3:(upd (upd H2 kp (.dK [])) c (.ins t.zb cx (bf "kept" (.ref kp) (bf "log" (.ref p) [])))) kp=some (.dK []):=by rw[aB (aS UI),ao]
 have k3:∀ b o,H b=some o->b≠c->(upd (upd H2 kp (.dK [])) c (.ins t.zb cx (bf "kept" (.ref kp) (bf "log" (.ref p) [])))) b=some o:=fun b o e hb=>by rw[aB hb];exact s3 _ _ (k2 _ _ e hb)
 generalize upd (upd H2 kp (.dK [])) c (.ins t.zb cx (bf "kept" (.ref kp) (bf "log" (.ref p) [])))=H3 at U3 BS OT d3 k3 ⊢;refine⟨lk obz,fun al pj=>?_⟩;have s4:=aA (o:=.lst []) pj;have Wk:c≠al:=aG OT pj
 have nal:H al=none:=by
  cases e:H al with
  |none=>rfl
  |some o=>rw[k3 al o e (aS Wk)]at pj;cases pj
 have nas:al≠sl:=fun z=>by rw[z,U3.st]at pj;cases pj
 have nab:al≠bl:=fun z=>by rw[z,U3.tb]at pj;cases pj
 refine⟨_,Z,c,t.zb,cx,_,Z,s4 _ _ OT,T.zg,T.zT,(by show 2<1000;decide),?_⟩;have U4:=(U3.mono s4).other (c:=c) (o:=.ins t.zb cx (bf "answers" (.ref al) (bf "kept" (.ref kp) (bf "log" (.ref p) [])))) (aS QO) (aS UH) (aS UJ);have Kx:=(BS.same s4).t5 (c:=c) (o:=.ins t.zb cx (bf "answers" (.ref al) (bf "kept" (.ref kp) (bf "log" (.ref p) [])))) (s4 _ _ OT) (fun xs z=>by cases z);have Ve:(upd (upd H3 al (.lst [])) c (.ins t.zb cx (bf "answers" (.ref al) (bf "kept" (.ref kp) (bf "log" (.ref p) []))))) c=some (.ins t.zb cx (bf "answers" (.ref al) (bf "kept" (.ref kp) (bf "log" (.ref p) [])))):=ao;have Xu:(upd (upd H3 al (.lst [])) c (.ins t.zb cx (bf "answers" (.ref al) (bf "kept" (.ref kp) (bf "log" (.ref p) []))))) al=some (.lst []):=by rw[aB (aS Wk),ao]
 have d4:(upd (upd H3 al (.lst [])) c (.ins t.zb cx (bf "answers" (.ref al) (bf "kept" (.ref kp) (bf "log" (.ref p) []))))) kp=some (.dK []):=by rw[aB (aS UI)];exact s4 _ _ d3
 have k4:∀ b o,H b=some o->b≠c->(upd (upd H3 al (.lst [])) c (.ins t.zb cx (bf "answers" (.ref al) (bf "kept" (.ref kp) (bf "log" (.ref p) []))))) b=some o:=fun b o e hb=>by rw[aB hb];exact s4 _ _ (k3 _ _ e hb)
 generalize upd (upd H3 al (.lst [])) c (.ins t.zb cx (bf "answers" (.ref al) (bf "kept" (.ref kp) (bf "log" (.ref p) []))))=H4 at U4 Kx Ve Xu d4 k4 ⊢;refine⟨lk obz,fun ml ua=>?_⟩;have s5:=aA (o:=.lst []) ua;have Zx:c≠ml:=aG Ve ua
 have nml:H ml=none:=by
  cases e:H ml with
  |none=>rfl
  |some o=>rw[k4 ml o e (aS Zx)]at ua;cases ua
 have nms:ml≠sl:=fun z=>by rw[z,U4.st]at ua;cases ua
 have nmb:ml≠bl:=fun z=>by rw[z,U4.tb]at ua;cases ua
 have nma:al≠ml:=aG Xu ua;refine⟨_,Z,c,t.zb,cx,_,Z,s5 _ _ Ve,T.zg,T.zU,(by show 3<1000;decide),?_⟩;refine k p dx sl kp al ml bl m r _ ⟨ao,(U4.mono s5).other (aS QO) (aS UH) (aS UJ),?_,?_,?_,nas,nab,nms,nmb,nma,aS QO⟩ ((Kx.same s5).t5 (s5 _ _ Ve) (fun xs z=>by cases z)) hp nsl nal nml nkp nbl fun b o e hb=>?_
 .rw[aB (aS Wk)]
  exact s5 _ _ Xu
 .rw[aB (aS Zx),ao]
 .rw[aB (aS UI)]
  exact s5 _ _ d4
 rw[aB hb];exact s5 _ _ (k4 _ _ e hb)
def IM(t:Tr):Prop:=t.size<=100000/\t.depth<=110/\(∃ L:List Str,L.length<64/\∀ x∈t.names,x∈L)/\∀ x∈t.names,sU x
theorem IM.fits{p:Addr}{t:Tr}(h:IM t)(hp:H p=some (.tup (ns.map V.str)))(h8:ns.length<=8)(lj:ns.Nodup)(ht:eD H v t):Fits H p v ns t:=⟨hp,h8,lj,ht,h.1,h.2.1,h.2.2.1,h.2.2.2⟩
def fT(H:Hp)(np:Addr)(v:V)(rs:List Int):Prop:=∃ a r,v=.ref a/\cq H a np r rs
theorem fT.tups(s:gc H J):fT H np v rs->fT J np v rs:=fun⟨a,r,e,h⟩=>⟨a,r,e,s _ _ h.1,s _ _ h.2.1,h.2.2⟩
inductive ng
 |v (x:V)
 |ps (l:List (Str×Int))
def WP(H:Hp)(u:V)(p:Str×Int):Prop:=∃ q,u=.ref q/\H q=some (.tup [.str p.1,.int p.2])
def qk(H:Hp)(v:V):ng->Prop
 | .v x=>v=x
 | .ps l=>∃ q us,v=.ref q/\H q=some (.lst us)/\Paired (WP H) us l
theorem qk.mono(s:bb H J){p:ng}(h:qk H v p):qk J v p:=by
 cases p with
 |v x=>exact h
 | ps l =>
  obtain⟨q,us,e,h1,h2⟩:=h;exact⟨q,us,e,s _ _ h1,Paired.iA h2 fun _ _ ⟨q,e,h⟩=>⟨q,e,s _ _ h⟩⟩
abbrev Kept:=List (Str×List Int)
def uk(H:Hp)(np:Addr)(ks:List (Key×V))(kr:Kept):Prop:=Paired (fun(p:Key×V)(q:Str×List Int)=>p.1=.inr q.1/\fT H np p.2 q.2) ks kr
theorem uk.tups{H J:Hp}(s:gc H J){np:Addr}{ks:List (Key×V)}{kr:Kept}(h:uk H np ks kr):uk J np ks kr:=Paired.iA h fun _ _ z=>⟨z.1,z.2.tups s⟩
def jg(kr:Kept)(x:Str):Option (List Int):=(kr.find? fun q=>decide (q.1=x)).map (·.2)
def jO(kr:Kept)(x:Str)(rs:List Int):Kept:=if (kr.any fun q=>decide (q.1=x))=true then kr.map (fun q=>if q.1=x then(q.1,rs)else q)else kr++[(x,rs)]
theorem G3{kr:Kept}(h:uk H np ks kr)(x:Str):(jg kr x=none->bR ks (.inr x)=none)/\∀ rs,jg kr x=some rs->∃ v,bR ks (.inr x)=some v/\fT H np v rs:=by
 induction h with
 |nil=>exact⟨(fun _=>rfl),fun rs e=>nomatch e⟩
 | @cons p q ks kr r _ ih =>
  by_cases e:q.1=x
  .have e1:jg (q::kr) x=some q.2:=by simp[jg,List.find?_cons,e]
   have e2:bR (p::ks) (.inr x:Key)=some p.2:=dR (by rw[r.1,e]);rw[e1,e2];exact⟨(fun z=>nomatch z),fun rs z=>⟨_,rfl,by cases z;exact r.2⟩⟩
  have e1:jg (q::kr) x=jg kr x:=by simp[jg,List.find?_cons,e]
  have e2:bR (p::ks) (.inr x:Key)=bR ks (.inr x):=dU (by rw[r.1];exact fun z=>e (CL z));rw[e1,e2];exact ih
theorem Qz{kr:Kept}(h:uk H np ks kr)(hm:fT H np v rs):uk H np (putK ks (.inr x) v) (jO kr x rs):=by
 have ea:(ks.any fun kv=>decide (kv.1=(.inr x:Key)))=(kr.any fun q=>decide (q.1=x)):=by
  clear hm
  induction h with
  |nil=>rfl
  | @cons p q ks kr r _ ih =>
   rw[eR,eR,ih];refine b_ (· || _) ?_;rw[r.1]
   by_cases e:q.1=x
   .rw[cK e,cK (by rw[e])]
   rw[gX e,gX fun z=>e (CL z)]
 unfold putK jO;rw[ea]
 split
 .rename_i hh
  clear ea hh
  induction h with
  |nil=>exact .nil
  | @cons p q ks kr r _ ih =>
   refine .cons ?_ ih
   try dsimp only
   by_cases e:q.1=x
   .rw[qp e,qp (by rw[r.1,e])]
    exact⟨r.1,hm⟩
   rw[bX e,bX (by rw[r.1];exact fun z=>e (CL z))];exact r
 exact bJ h (.cons ⟨rfl,hm⟩ .nil)
theorem bZ{α β:Type}{R:α->β->Prop}:∀{ys:List β}{us:List α}{y:β},Paired R us (ys++[y])->∃ u0 u,us=u0++[u]/\Paired R u0 ys/\R u y
 |[],_,_,.cons h .nil=>⟨[],_,rfl,.nil,h⟩
 | _::_,_,_,.cons h t =>
  let ⟨u0,u,e,h1,h2⟩:=bZ t
  ⟨_::u0,u,by rw[e];rfl,.cons h h1,h2⟩
def Do(ns:List Str)(rs:List Int)(fg:ng)(ts:List Tr)(rs':List Int):Prop:=∃(f:Int)(tr:Tr),fg=.v (.int f)/\ts=[tr]/\rs'=je ns tr rs f/\(aQ (sel rs (aU ns tr))=none\/∃ y,aQ (sel rs (aP ns tr))=some y)
def Dp(ns:List Str)(rs:List Int)(ts:List Tr)(rs':List Int):Prop:=∃(tr:Tr),ts=[tr]/\rs'=jC ns tr rs/\∃ x,aQ (sel rs (aU ns tr))=some x
def Dq(ns:List Str)(rs:List Int)(fg:ng)(ts:List Tr)(rs':List Int):Prop:=∃(i:Int)(tr:Tr)(x y:Int),fg=.v (.int i)/\ts=[tr]/\aQ (sel rs (aU ns tr))=some x/\aQ (sel rs (aP ns tr))=some y/\rs'=gq rs (aU ns tr) x y i
def wB(ns:List Str)(kr:Kept)(rs:List Int)(fg:ng)(rs':List Int):Prop:=∃(l:List (Str×Int))(ps:List (List Int×Int)),fg=.ps l/\Paired (fun a b=>jg kr a.1=some b.1/\b.2=a.2) l ps/\l.length<=10/\xT (2^ns.length) (rs,1)/\(∀ x∈ps,xT (2^ns.length) x)/\∀ m,iE (cg (2^ns.length) ((rs,1):: ps)) m->rs'=(cg (2^ns.length) ((rs,1):: ps)).map fun x=>x-m
abbrev Dd:=List Str->Kept->List (List Int)->List (List Int)->ng->List Tr->List (List Int)->List (List Int)->Prop
def newD(D:List Str->Kept->List Int->ng->List Tr->List Int->Prop):Dd:=fun ns kr st _ fg ts ip tb'=>∃ s0 rs rs',st=s0++[rs]/\ip=st++[rs']/\tb'=[]/\gx ns rs/\D ns kr rs fg ts rs'
def wC:Dd:=fun _ _ st tb _ _ ip tb'=>∃ s0 rs,st=s0++[rs]/\s0≠[]/\ip=s0/\tb'=tb++[rs]
def tO:Dd:=fun _ _ st tb _ _ ip tb'=>∃ t0 rs,tb=t0++[rs]/\ip=st++[rs]/\tb'=t0
inductive wq(t:l9)(D:Dd)(vs:List V)(H:Hp)(Q:VK)(E:XK):Prop
 |mk(g:CA)(bl:Addr)(mv bv:List V)(xs:List Str)(ms:List V)(ks:List (Key×V))(np l:Addr)(ns:List Str)(kr:Kept)(st tb:List (List Int))(fg:ng)(pv:V)(us:List V)(ts:List Tr)(ip tb':List (List Int))(_:vs=[.ref g.c,pv,.ref l])(_:ka t H g bl mv bv xs ms ks)(_:mv.length<=400)(_:bv.length<=400)(_:Paired (fT H np) mv st)(_:Paired (fT H np) bv tb)(_:uk H np ks kr)(_:H np=some (.tup (ns.map V.str)))(_:ns.length<=8)(_:ns.Nodup)(_:qk H pv fg)(_:H l=some (.lst us))(_:Paired (eD H) us ts)(_:(∀ u∈ts,IM u/\∀ x∈u.names,x∈ns))(_:D ns kr st tb fg ts ip tb')(_:∀(bl':Addr)(mv' bv':List V)(J:Hp),(bl'=bl\/H bl'=none)->gs g bl H J->ka t J g bl' mv' bv' xs ms ks->Paired (fT J np) mv' ip->Paired (fT J np) bv' tb'->Q .non J)
theorem ka.mono{t:l9}{H J:Hp}(s:bb H J){g:CA}{bl:Addr}{mv bv:List V}{xs:List Str}{ms:List V}{ks:List (Key×V)}(U:ka t H g bl mv bv xs ms ks):ka t J g bl mv bv xs ms ks:=⟨s _ _ U.co,U.lg.mono s,s _ _ U.an,s _ _ U.mb,s _ _ U.kd,U.n1,U.n2,U.n3,U.n4,U.n5,U.n6⟩
theorem gs.ahead{g:CA}(s:bb H J)(k:gs g bl J VN):gs g bl H VN:=fun b o e=>k b o (s _ _ e)
theorem tQ{p:Addr}(U:fo C H p dx sl bl mv bv)(k:jV p sl H J):gc H J:=fun b xs h=>k b _ h (aZ h U.ob) (aZ h U.st)
theorem p8{g:CA}{bl':Addr}{xs:List Str}(U:ka t H g bl mv bv xs ms ks)(ub:H bl'=none)(k:jV g.p g.sl H J)(L:fo t.za J g.p g.dx g.sl bl' mv' bv'):ka t J g bl' mv' bv' xs ms ks/\gs g bl H J :=
 ⟨⟨k _ _ U.co (aS U.n6) (aZ U.co U.lg.st),L,k _ _ U.an (aZ U.an U.lg.ob) U.n1,k _ _ U.mb (aZ U.mb U.lg.ob) U.n3,k _ _ U.kd (aZ U.kd U.lg.ob) (aZ U.kd U.lg.st),U.n1,aG U.an ub,U.n3,aG U.mb ub,U.n5,U.n6⟩,fun b o e h1 h2 _ _ _ _=>k b o e h1 h2⟩
theorem Bm{g:CA}{xs:List Str}(U:ka t H g bl mv bv xs ms ks)(k:CT g.sl bl H J)(L:fo t.za J g.p g.dx g.sl bl mv' bv'):ka t J g bl mv' bv' xs ms ks/\gs g bl H J/\gc H J :=
 ⟨⟨k _ _ U.co (aZ U.co U.lg.st) (aZ U.co U.lg.tb),L,k _ _ U.an U.n1 U.n2,k _ _ U.mb U.n3 U.n4,k _ _ U.kd (aZ U.kd U.lg.st) (aZ U.kd U.lg.tb),U.n1,U.n2,U.n3,U.n4,U.n5,U.n6⟩,fun b o e _ h2 _ _ _ h6=>k b o e h2 h6,fun b xs h=>k b _ h (aZ h U.lg.st) (aZ h U.lg.tb)⟩
theorem j7{α β:Type}{R:α->β->Prop}{us:List α}{b:β}(h:Paired R us [b]):∃ u,us=[u]/\R u b:=by
 cases h with
 | cons h1 h2 =>
  cases h2;exact⟨_,Z,h1⟩
theorem bG(s:gc H J)(h:Paired (fT H np) vs rss):Paired (fT J np) vs rss:=Paired.iA h fun _ _ z=>z.tups s
theorem rC{g:CA}{m0:List V}{xs:List Str}{r:Addr}{s0:List (List Int)}{rs':List Int}{Q:VK}(U:ka t H g bl (m0++[.ref a]) bv xs ms ks)(h0:Paired (fT H np) m0 s0)(hm:cq H a np r rs)(k:∀(bl':Addr)(mv' bv':List V)(J:Hp),(bl'=bl\/H bl'=none)->gs g bl H J->ka t J g bl' mv' bv' xs ms ks->Paired (fT J np) mv' (s0++[rs]++[rs'])->Paired (fT J np) bv' []->Q .non J): ∀(b q bl':Addr)(J:Hp),H bl'=none->jV g.p g.sl H J->fo t.za J g.p g.dx g.sl bl' (m0++[.ref a]++[.ref b]) []->cq J b np q rs'->Q .non J:=fun b q bl' J hb kp L CF=>by
 have tp:=tQ U.lg kp;exact k bl' _ _ J (.inr hb) (p8 U hb kp L).2 (p8 U hb kp L).1 (bJ (bJ (bG tp h0) (.cons (fT.tups tp ⟨a,r,rfl,hm⟩) .nil)) (.cons ⟨b,q,rfl,CF⟩ .nil)) .nil
theorem Kg:ck ["course","firm","trees"] ["course","firm","trees"] (aR YJ):=eP
theorem G4(T:Txt P w K mg t):FM P w base T.q76 123 (wq t (newD fun ns _ rs fg ts rs'=>Do ns rs fg ts rs')):=by
 refine T.q76.F.fk (k:=122) Kg ?_;rintro nd _ _ _ _ _ _ _ _ hr ⟨g,bl,mv,bv,xs,ms,ks,np,l,ns,kr,st,tb,fg,pv,us,ts,ip,tb',rfl,U,ma,hb400,ic,oq,qV,lT,h8,lj,sq,hl,hP,hok,⟨s0,rs,rs',rfl,rfl,rfl,hM,f,tr,rfl,rfl,rfl,hD⟩,k⟩;obtain⟨v,rfl,hv⟩:=j7 hP;obtain⟨ho,hall⟩:=hok tr qms;obtain⟨m0,_,rfl,h0,a,r,rfl,hm⟩:=bZ ic;have sq:pv=.int f:=sq;subst sq;rw[af]at ma;have go:=rC (rs':=je ns tr rs f) U h0 hm k;refine⟨_,(au (bw (E1 (bF (O 0) rfl) T.ze T.q35 (JB T) hr bI (aa (cy bj (O 2) ak) (aa (O 1) aj))))),?_⟩;refine⟨_,Z,g.c,t.zb,g.cx,_,_,Z,U.co,T.zg,T.zq,j6 _ _ _ _,g.p,g.dx,_,Z,U.lg.ob,eN _ _ dk dk,_,Z,l,_,0,v,Z,Z,b3.of hl,bh (j:=0) rfl,_,Z,g.p,g.dx,g.sl,bl,m0,bv,a,np,r,rs,v,ns,tr,f,Z,U.lg,G,hm,ho.fits lT h8 lj hv,fun _=>?_,fun z=>absurd hall z⟩;rcases hD with e|⟨y,e⟩
 .rw[e]
  exact go
 rw[e];cases aQ (sel rs (aU ns tr))with
 |none=>exact go
 |some x=>exact go
theorem Kh:ck ["course","told","trees"] ["course","told","trees"] (aR YI):=eP
theorem G5(T:Txt P w K mg t):FM P w base T.q77 123 (wq t (newD fun ns _ rs _ ts rs'=>Dp ns rs ts rs')):=by
 refine T.q77.F.fk (k:=122) Kh ?_;rintro nd _ _ _ _ _ _ _ _ hr ⟨g,bl,mv,bv,xs,ms,ks,np,l,ns,kr,st,tb,fg,pv,us,ts,ip,tb',rfl,U,ma,hb400,ic,oq,qV,lT,h8,lj,sq,hl,hP,hok,⟨s0,rs,rs',rfl,rfl,rfl,hM,tr,rfl,rfl,x,hx⟩,k⟩;obtain⟨v,rfl,hv⟩:=j7 hP;obtain⟨ho,hall⟩:=hok tr qms;obtain⟨m0,_,rfl,h0,a,r,rfl,hm⟩:=bZ ic;rw[af]at ma;refine⟨_,(au (bw (E1 (bF (O 0) rfl) T.ze T.q36 (JC T) hr bI (aa (cy bj (O 2) ak) aj)))),?_⟩;refine⟨_,Z,g.c,t.zb,g.cx,_,_,Z,U.co,T.zg,T.zq,j6 _ _ _ _,g.p,g.dx,_,Z,U.lg.ob,eN _ _ dk dk,_,Z,l,_,0,v,Z,Z,b3.of hl,bh (j:=0) rfl,g.p,g.dx,g.sl,bl,m0,bv,a,np,r,rs,v,ns,tr,Z,U.lg,G,hm,hM,ho.fits lT h8 lj hv,fun _=>?_,fun z=>absurd hall z⟩;rw[hx];exact rC U h0 hm k
theorem Kl:ck ["course","lean","trees"] ["course","lean","trees"] (aR YH):=eP
theorem G6(T:Txt P w K mg t):FM P w base T.q78 123 (wq t (newD fun ns _ rs fg ts rs'=>Dq ns rs fg ts rs')):=by
 refine T.q78.F.fk (k:=122) Kl ?_;rintro nd _ _ _ _ _ _ _ _ hr ⟨g,bl,mv,bv,xs,ms,ks,np,l,ns,kr,st,tb,fg,pv,us,ts,ip,tb',rfl,U,ma,hb400,ic,oq,qV,lT,h8,lj,sq,hl,hP,hok,⟨s0,rs,rs',rfl,rfl,rfl,hM,i,tr,x,y,rfl,rfl,hx,hy,rfl⟩,k⟩;obtain⟨v,rfl,hv⟩:=j7 hP;obtain⟨ho,hall⟩:=hok tr qms;obtain⟨m0,_,rfl,h0,a,r,rfl,hm⟩:=bZ ic;have sq:pv=.int i:=sq;subst sq;rw[af]at ma;refine⟨_,(au (bw (E1 (bF (O 0) rfl) T.ze T.q37 (JK T) hr bI (aa (cy bj (O 2) ak) (aa (O 1) aj))))),?_⟩;refine⟨_,Z,g.c,t.zb,g.cx,_,_,Z,U.co,T.zg,T.zq,j6 _ _ _ _,g.p,g.dx,_,Z,U.lg.ob,eN _ _ dk dk,_,Z,l,_,0,v,Z,Z,b3.of hl,bh (j:=0) rfl,_,Z,g.p,g.dx,g.sl,bl,m0,bv,a,np,r,rs,v,ns,tr,i,Z,U.lg,G,hm,ho.fits lT h8 lj hv,fun _=>?_,fun z=>absurd hall z⟩;rw[hx,hy];exact rC U h0 hm k
theorem Km:ck ["course","told","trees"] ["course","told","trees"] (aR YF):=eP
theorem G7(T:Txt P w K mg t):FM P w base T.q80 123 (wq t wC):=by
 refine T.q80.F.fk (k:=122) Km ?_;rintro nd _ _ _ _ _ _ _ _ hr ⟨g,bl,mv,bv,xs,ms,ks,np,l,ns,kr,st,tb,fg,pv,us,ts,ip,tb',rfl,U,ma,hb400,ic,oq,qV,lT,h8,lj,sq,hl,hP,hok,⟨s0,rs,rfl,hne,rfl,rfl⟩,k⟩;obtain⟨m0,y,rfl,h0,hy⟩:=bZ ic
 have KA:m0≠[]:=fun z=>by
  subst z;cases h0;exact hne rfl
 refine⟨_,(au (bw (gR (bF (O 0) rfl) T.ze T.q39 (JF T) hr bI))),?_⟩;refine⟨_,Z,g.c,t.zb,g.cx,_,_,Z,U.co,T.zg,T.zq,j6 _ _ _ _,g.p,g.dx,_,Z,U.lg.ob,eN _ _ dk dk,g.p,g.dx,g.sl,bl,m0,bv,y,Z,U.lg,hb400,fun z=>absurd z KA,fun _ J kb L=>?_⟩;obtain⟨c1,c2,c3⟩:=Bm U kb L;exact k bl _ _ J (.inl rfl) c2 c1 (bG c3 h0) (bJ (bG c3 oq) (.cons (hy.tups c3) .nil))
theorem G8:ck ["course","told","trees"] ["course","told","trees"] (aR YE):=eP
theorem Dr(T:Txt P w K mg t):FM P w base T.q81 123 (wq t tO):=by
 refine T.q81.F.fk (k:=122) G8 ?_;rintro nd _ _ _ _ _ _ _ _ hr ⟨g,bl,mv,bv,xs,ms,ks,np,l,ns,kr,st,tb,fg,pv,us,ts,ip,tb',rfl,U,ma,hb400,ic,oq,qV,lT,h8,lj,sq,hl,hP,hok,⟨t0,rs,rfl,rfl,rfl⟩,k⟩;obtain⟨b0,y,rfl,h0,hy⟩:=bZ oq;refine⟨_,(au (bw (gR (bF (O 0) rfl) T.ze T.q40 (Gh T) hr bI))),?_⟩;refine⟨_,Z,g.c,t.zb,g.cx,_,_,Z,U.co,T.zg,T.zq,j6 _ _ _ _,g.p,g.dx,_,Z,U.lg.ob,eN _ _ dk dk,g.p,g.dx,g.sl,bl,mv,_,Z,U.lg,ma,fun z=>absurd z oz,fun bv' y' e J kb L=>?_⟩;obtain⟨e1,e2⟩:=qc e rfl;cases e2;subst e1;obtain⟨c1,c2,c3⟩:=Bm U kb L;exact k bl _ _ J (.inl rfl) c2 c1 (bJ (bG c3 ic) (.cons (hy.tups c3) .nil)) (bG c3 h0)
theorem Ko:ck ["course","pairs","trees"] ["course","pairs","trees"] (aR YG):=eP
theorem G9(T:Txt P w K mg t):FM P w base T.q79 123 (wq t (newD fun ns kr rs fg _ rs'=>wB ns kr rs fg rs')):=by
 refine T.q79.F.fk (k:=122) Ko ?_;rintro nd _ _ _ _ H vs Q E hr ⟨g,bl,mv,bv,xs,ms,ks,np,l,ns,kr,st,tb,fg,pv,us,ts,ip,tb',rfl,U,ma,hb400,ic,oq,qV,lT,h8,lj,sq,hl,hP,hok,⟨s0,rs,rs',rfl,rfl,rfl,hM,pl,ps,rfl,vw,OW,SH,hf,OF⟩,k⟩;have hu:=fc hr;obtain⟨m0,_,rfl,h0,a,r,rfl,hm⟩:=bZ ic;obtain⟨q,ws,rfl,hq,ZG⟩:=sq;rw[af]at ma;have e1:=a_ ZG;have e2:=a_ vw;refine⟨_,(au (bw (E1 (bF (ja 0) rfl) T.ze T.q38 (JL T) hr bI (aa (bM rfl ["word","weight","course"] [none,none,some 0] (bU (O 1)) gT (fun _ _ _ _ _ _=>(gD (K:=K) (n:=2) rfl rfl (bH (iq 0 (kG (l:=["word","weight","course"]))) (bH (iq 1 (kG (l:=["word","weight","course"]))) dI)))) (fun _ _ _ _ _ _=>bV) (fun _ _ _ _ _ _=>(bu (aa (uc hu (Bc (K:=K) rfl (ja 2) rfl) (O 0) (fun _ _=>rfl)) (aa (O 1) aj))))) aj)))),?_⟩;refine⟨_,Z,g.c,t.zb,g.cx,_,_,Z,U.co,T.zg,T.zq,j6 _ _ _ _,g.p,g.dx,_,Z,U.lg.ob,eN _ _ dk dk,_,Z,q,Z,⟨_,b3.of hq⟩,?_⟩;refine cF (K:=K) (a:=q) (xs:=ws) (fun i ys J=>bb H J/\Paired (k6 J np) ys (ps.take i)) ⟨bb.refl _,.nil⟩ (lk G) (fun i ys J ⟨_,e⟩=>by rw[a_ e,bp];exact G) (fun i ys J ⟨s',_⟩=>b3.of (s' _ _ hq)) ?_ ?_
 .rintro i y ys H1 hi ⟨s1,hY⟩
  obtain⟨⟨kw,n⟩,Xa,qq,rfl,OH⟩:=bD ZG i y hi;obtain⟨⟨rk,n'⟩,hrn,WA,en⟩:=bD vw i (kw,n) Xa;have en:n'=n:=en;subst en;obtain⟨v,hv,av,rv,rfl,OO⟩:=(G3 qV kw).2 rk WA;refine⟨qq,_,Z,SqT.of (s1 _ _ OH),Z,_,_,Z,_,_,Z,Z,?_⟩;refine⟨⟨Z,trivial⟩,?_⟩;refine⟨_,Z,g.c,t.zb,g.cx,_,_,Z,s1 _ _ U.co,T.zg,T.zN,Dn _ _ _ _,_,Z,g.kp,.ref av,Z,.inl ⟨ks,.inr kw,.inl (s1 _ _ U.kd),Z,hv.symm⟩,_,Z,lk obz,fun q1 hq1=>?_⟩;have s2:=aA (o:=.tup [.ref av,.int n']) hq1;refine⟨s1.trans s2,?_⟩;rw[rh,hrn];exact bJ (Paired.iA hY fun _ _ z=>z.mono s2) (.cons ⟨q1,av,rv,rfl,ao,s2 _ _ (s1 _ _ OO.1),s2 _ _ (s1 _ _ OO.2.1)⟩ .nil)
 rintro ys H1 ⟨s1,hY⟩ q1 hq1;rw[show ws.length=ps.length by omega,bE]at hY;have s2:=aA (o:=.lst ys) hq1;have mh:=s1.trans s2;have hN:0<2^ns.length:=Nat.pow_pos b4;have hN8:2^ns.length<=256:=b6 b4 h8;have U2:=U.mono mh;refine⟨g.p,g.dx,g.sl,bl,m0,bv,a,np,r,rs,q1,ns,ys,ps,2^ns.length,Z,U2.lg,G,hm.same mh,mh _ _ lT,ao,?_,Paired.iA hY fun _ _ z=>z.mono s2,hN,hN8,SH,hf,fun b q' bl' m H3 hb kp L ZX BS=>?_⟩
 .rw[a_ hY];exact G
 have e:=OF m ZX;subst e;have tp:=tQ U2.lg kp;refine k bl' _ _ H3 (.inr (mh.free hb)) (gs.ahead mh (p8 U2 hb kp L).2) (p8 U2 hb kp L).1 (bJ (bJ (bG (mh.tups.trans tp) h0) (.cons (fT.tups (mh.tups.trans tp) ⟨a,r,rfl,hm⟩) .nil)) (.cons ⟨b,q',rfl,BS⟩ .nil)) .nil
def Pd(x:Str)(tr:Tr):Prop:=x.length<=sizeLine/\(∀ c∈x.cps.toList,c<16^8)/\wz x=.tree tr
def gK:=List Str->List Int->List Tr->Str->Prop
inductive GO(L:gK)(vs:List V)(H:Hp)(Q:VK)(E:XK):Prop
 |mk(a p r l:Addr)(rs:List Int)(us:List V)(ns:List Str)(ts:List Tr)(txt:Str)(_:vs=[.ref a,.ref l])(_:cq H a p r rs)(_:gx ns rs)(_:H p=some (.tup (ns.map V.str)))(_:ns.length<=8)(_:ns.Nodup)(_:H l=some (.lst us))(_:Paired (eD H) us ts)(_:(∀ u∈ts,IM u/\∀ x∈u.names,x∈ns))(_:L ns rs ts txt)(_:∀ J,bb H J->Q (.str txt) J)
def Kp:gK:=fun ns rs ts txt=>∃ tr,ts=[tr]/\txt=ux rs ns tr/\∀ m y,aQ (sel rs (aU ns tr))=some m->aQ (sel rs (aP ns tr))=some y->(m-y).natAbs.log2<1920
inductive kP:Str->Dd->Prop
 |take:kP "take" (newD fun ns _ rs fg ts rs'=>Do ns rs fg ts rs')
 |give:kP "give" (newD fun ns _ rs _ ts rs'=>Dp ns rs ts rs')
 |lean:kP "lean" (newD fun ns _ rs fg ts rs'=>Dq ns rs fg ts rs')
 |DO:kP "pour" (newD fun ns kr rs fg _ rs'=>wB ns kr rs fg rs')
 |back:kP "back" wC
 |again:kP "again" tO
abbrev QB(t:l9):List (Key×V):=[(.inr "ask",.ref t.Vw),(.inr "lost",.ref t.a84),(.inr "worlds",.ref t.Vv)]
abbrev RG(t:l9):List (Key×V):=[(.inr "take",.ref t.VD),(.inr "give",.ref t.VC),(.inr "lean",.ref t.VA),(.inr "pour",.ref t.Vz),(.inr "back",.ref t.Vy),(.inr "again",.ref t.Vx)]
def wD(P:Program)(w:World)(K:W.Frag)(mg:Str->Option Value)(base:Heap)(t:l9)(AK:Str->gK->Prop):Prop:=∀ kd L,AK kd L->¬kd="keep"/\¬kd="names"/\¬kd="pour"/\∃(f:Addr) (fd:FuncData),bR (QB t) (.inr kd)=some (.ref f)/\FO P w K mg base 123 f fd ["mind","trees"] (GO L)/\W.keepIn K (.ref f)=true/\Binds K fd ["mind","trees"] []
structure uu(H:Hp)(q:Addr)(kd:Str)(fg:ng)(ts:List Tr):Prop where
 ex:∃(l:Addr)(pv:V)(ss:List Str),H q=some (.tup [.str kd,pv,.ref l])/\qk H pv fg/\H l=some (.lst (ss.map V.str))/\Paired Pd ss ts/\ss.length<=10
inductive JI(t:l9)(AK:Str->gK->Prop)(vs:List V)(H:Hp)(Q:VK)(E:XK):Prop
 |mk(g:CA)(bl:Addr)(mv bv:List V)(xs:List Str)(ms:List V)(ks:List (Key×V))(np q:Addr)(ns:List Str)(kr:Kept)(st tb:List (List Int))(kd:Str)(fg:ng)(ts:List Tr)(_:vs=[.ref g.c,.ref q])(_:ka t H g bl mv bv xs ms ks)(_:(mv.length<=400/\bv.length<=400/\xs.length<=400/\ms.length<=400/\ks.length<=400))(_:Paired (fT H np) mv st)(_:Paired (fT H np) bv tb)(_:uk H np ks kr)(_:H np=some (.tup (ns.map V.str)))(_:ns.length<=8)(_:ns.Nodup)(_:uu H q kd fg ts)(_:(∀ u∈ts,IM u/\∀ x∈u.names,x∈ns))(_:((∃ D s' rs' tb',kP kd D/\D ns kr st tb fg ts (s'++[rs']) tb'/\∀(bl':Addr) (mv':List V) (v':V) (bv':List V) (J:Hp),(bl'=bl\/H bl'=none)->gs g bl H J->ka t J g bl' (mv'++[v']) bv' xs (ms++[v']) ks->Paired (fT J np) (mv'++[v']) (s'++[rs'])->Paired (fT J np) bv' tb'->Q .non J)\/(∃ s0 rs L txt,st=s0++[rs]/\gx ns rs/\AK kd L/\L ns rs ts txt/\∀(J:Hp),gs g bl H J->ka t J g bl mv bv (xs++[txt]) ms ks->Q .non J)\/(∃ s0 rs x,kd="keep"/\fg=.v (.str x)/\st=s0++[rs]/\∀(v:V) (J:Hp),fT J np v rs->gs g bl H J->ka t J g bl mv bv xs ms (putK ks (.inr x) v)->Q .non J)))
theorem mV{g:CA}{xs:List Str}(U:ka t H g bl mv bv xs ms ks)(k:gs g bl H J):gc H J:=fun b xs h =>
 k b _ h (aZ h U.lg.ob) (aZ h U.lg.st) (aZ h U.an) (aZ h U.mb) (aZ h U.kd) (aZ h U.lg.tb)
theorem Hc{g:CA}{xs:List Str}(U:ka t H g bl mv bv xs ms ks)(x:Str):ka t (upd H g.al (.lst (xs.map V.str++[.str x]))) g bl mv bv (xs++[x]) ms ks/\gs g bl H (upd H g.al (.lst (xs.map V.str++[.str x]))):=
 ⟨⟨by rw[aB (aZ U.co U.an)];exact U.co,U.lg.other (aZ U.lg.ob U.an) (aS U.n1) (aS U.n2),by rw[ao,ar];rfl,by rw[aB (aS U.n5)];exact U.mb,by rw[aB (aZ U.kd U.an)];exact U.kd,U.n1,U.n2,U.n3,U.n4,U.n5,U.n6⟩,fun b o e _ _ h _ _ _=>by rw[aB h];exact e⟩
theorem NK{g:CA}{xs:List Str}(U:ka t H g bl mv bv xs ms ks)(x:V):ka t (upd H g.ml (.lst (ms++[x]))) g bl mv bv xs (ms++[x]) ks/\∀ bl',gs g bl' H (upd H g.ml (.lst (ms++[x]))):=
 ⟨⟨by rw[aB (aZ U.co U.mb)];exact U.co,U.lg.other (aZ U.lg.ob U.mb) (aS U.n3) (aS U.n4),by rw[aB U.n5];exact U.an,ao,by rw[aB (aZ U.kd U.mb)];exact U.kd,U.n1,U.n2,U.n3,U.n4,U.n5,U.n6⟩,fun _ b o e _ _ _ h _ _=>by rw[aB h];exact e⟩
theorem NP{g:CA}{xs:List Str}(U:ka t H g bl mv bv xs ms ks)(Wn:List (Key×V)):ka t (upd H g.kp (.dK Wn)) g bl mv bv xs ms Wn/\gs g bl H (upd H g.kp (.dK Wn)):=
 ⟨⟨by rw[aB (aZ U.co U.kd)];exact U.co,U.lg.other (aZ U.lg.ob U.kd) (aZ U.lg.st U.kd) (aZ U.lg.tb U.kd),by rw[aB (aZ U.an U.kd)];exact U.an,by rw[aB (aZ U.mb U.kd)];exact U.mb,ao,U.n1,U.n2,U.n3,U.n4,U.n5,U.n6⟩,fun b o e _ _ _ _ h _=>by rw[aB h];exact e⟩
theorem gs.trans{g:CA}(k:gs g bl H J)(k':gs g bl J VN):gs g bl H VN:=fun b o e h1 h2 h3 h4 h5 h6=>k' b o (k b o e h1 h2 h3 h4 h5 h6) h1 h2 h3 h4 h5 h6
theorem NQ(T:Txt P w K mg t):FM P w base T.q83 123 (GO Kp):=((Qy T).mono b4).imp fun vs H Q E h=>by
 obtain⟨a,p,r,l,rs,us,ns,ts,txt,rfl,hm,hM,hp,h8,lj,hl,hP,hok,⟨tr,rfl,rfl,yA⟩,k⟩:=h;obtain⟨v,rfl,hv⟩:=j7 hP;obtain⟨ho,hall⟩:=hok tr qms;exact⟨a,p,r,l,rs,v,[],ns,tr,Z,hm,hl,ho.fits hp h8 lj hv,hall,yA,k⟩
theorem NT(T:Txt P w K mg t){D:Dd}(h:kP kd D):∃(f:Addr) (fd:FuncData) (ps:List Str),bR (RG t) (Sum.inr kd:Key)=some (V.ref f)/\bR (QB t) (Sum.inr kd:Key)=none/\¬kd="keep"/\FO P w K mg base 123 f fd ps (wq t D)/\W.keepIn K (.ref f)=true/\Binds K fd ps []:=by
 cases h with
 |take=>exact⟨t.VD,t.d76,_,gT,gT,dk,G4 T,T.q76.k,T.q76.b⟩
 |give=>exact⟨t.VC,t.d77,_,gT,gT,dk,G5 T,T.q77.k,T.q77.b⟩
 |lean=>exact⟨t.VA,t.d78,_,gT,gT,dk,G6 T,T.q78.k,T.q78.b⟩
 |DO=>exact⟨t.Vz,t.d79,_,gT,gT,dk,G9 T,T.q79.k,T.q79.b⟩
 |back=>exact⟨t.Vy,t.d80,_,gT,gT,dk,G7 T,T.q80.k,T.q80.b⟩
 |again=>exact⟨t.Vx,t.d81,_,gT,gT,dk,Dr T,T.q81.k,T.q81.b⟩
theorem NZ:ck ["course","form","kind","trees"] ["course","form"] (aR YB):=eP
theorem Kq(T:Txt P w K mg t){AK:Str->gK->Prop}(hA:wD P w K mg base t AK):FO P w K mg base 124 t.a86 t.d86 ["course","form"] (JI t AK):=by
 have Y1:=lA (base:=base) T;refine T.q86.F.fk (k:=123) NZ ?_;rintro nd _ _ _ _ H vs Q E hr ⟨g,bl,mv,bv,xs,ms,ks,np,q,ns,kr,st,tb,kd,fg,ts,rfl,U,⟨ma,hb4,hx4,Kx,hk4⟩,ic,oq,qV,lT,h8,lj,⟨l,pv,ss,hq,sq,hl,hP,OW⟩,hok,k⟩;have hu:=fc hr
 refine ⟨_,(aq (fN 2 nd (cy aJ (O 1) ak))
   (aq (gj (i:=3) rfl ["text"] [none] nd rfl rfl (bU (cy aJ (O 1) ak)) gT (fun _ _ _ _ _ _=>(iq 0 (kG (l:=["text"])))) (fun _ _ _ _ _ _=>bV) (fun _ _ _ _ _ _=>(eI T.q56 (Nt T) hr aK (aa (O 0) aj))))
   (au (aO (aF aV (O 2) az (aH _))
    (au (ud hu (bF (O 0) rfl) (cy aJ (O 1) ak) (gR (bF (O 0) rfl) T.ze T.q41 Y1 hr aK) rfl))
    (au (aO (rO (Pz T.zz (O 2) (fC (v:=.ref t.zz) T.zX rfl)))
     (au (bw (bY PySem.F.plainAttrs_list PySem.F.slot_list_append PySem.F.type_list_append cD (bF (O 0) rfl) (aa (nF (jo T.zz hu (fC (v:=.ref t.zz) T.zX rfl) (O 2) (fun _ _=>rfl)) (aa (gR (bF (O 0) rfl) T.ze T.q41 Y1 hr aK) (aa (O 3) aj))) aj))))
     (aq (bw (nF (jo T.zI hu (fC (v:=.ref t.zI) T.zaA rfl) (O 2) (fun _ _=>rfl)) (aa (O 0) (aa (cy aJ (O 1) ak) (aa (O 3) aj)))))
     (au (bw (bY PySem.F.plainAttrs_list PySem.F.slot_list_append PySem.F.type_list_append cD (bF (O 0) rfl) (aa (gR (bF (O 0) rfl) T.ze T.q41 Y1 hr aK) aj))))))))))),?_⟩
 refine⟨_,Z,q,_,0,_,Z,Z,SqT.of hq,Z,?_⟩;refine⟨_,Z,q,_,2,_,Z,Z,SqT.of hq,Z,l,Z,⟨_,b3.of hl⟩,?_⟩;refine cF (K:=K) (a:=l) (xs:=ss.map V.str) (fun i ys J=>bb H J/\Paired (eD J) ys (ts.take i)) ⟨bb.refl _,.nil⟩ (lk (by rw[dn];exact G)) (fun i ys J ⟨_,e⟩=>by rw[a_ e,bp];exact G) (fun i ys J ⟨s',_⟩=>b3.of (s' _ _ hl)) ?_ ?_
 .rintro i y ys H1 hi ⟨s1,hY⟩
  rw[lS]at hi
  obtain⟨x,hx,rfl⟩:∃ x,ss[i]?=some x/\y=V.str x:=by
   cases q:ss[i]? with
   |none=>rw[q]at hi;cases hi
   |some c=>rw[q]at hi;exact⟨c,Z,(kF hi).symm⟩
  obtain⟨tr,xI,h1,h2,h3⟩:=bD hP i x hx;refine⟨trivial,_,Z,x,Z,h1,h2,fun H2 s2=>?_⟩;rw[h3];intro v hv;refine⟨s1.trans s2,?_⟩;rw[rh,xI];exact bJ (Paired.iA hY fun _ _ z=>z.mono s2.tups) (.cons hv .nil)
 rintro ys H1 ⟨s1,hY⟩ tl htl;have el:(ss.map V.str).length=ts.length:=by rw[dn,a_ hP]
 rw[el,bE]at hY;have s2:=s1.trans (aA (o:=.lst ys) htl);have t_:(upd H1 tl (.lst ys)) tl=some (.lst ys):=ao;have Xv:Paired (eD (upd H1 tl (.lst ys))) ys ts:=Paired.iA hY fun _ _ z=>z.mono (aA htl).tups
 generalize upd H1 tl (.lst ys)=H2 at s2 t_ Xv ⊢;have U2:=U.mono s2;have hq2:=s2 _ _ hq;have BG:=bG s2.tups ic;rcases k with⟨D,s',rs',tb',hK,hD,k⟩|⟨s0,rs,L,txt,rfl,hM,hK,hL,k⟩|⟨s0,rs,x,rfl,rfl,rfl,k⟩
 . -- a deed
   obtain⟨f,fd,ps,hvd,hva,W0,F,hk,SV⟩:=NT (base:=base) T hK;refine⟨_,Z,Z,_,Z,aN (fun z=>absurd (V.str.inj (eS z)) W0) (fun _=>?_)⟩;refine⟨_,Z,.inr kd,Z,Z,_,Z,?_⟩;rw[show bR _ (Sum.inr kd:Key)=none from hva];refine bz ?_;refine⟨_,Z,.inr kd,V.ref f,Z,Z,hvd,f,oT P w,123,fd,ps,wq t D,_,Z,F,hr,hk,SV,aK,_,Z,_,Z,q,_,1,pv,Z,Z,SqT.of hq2,Z,_,Z,?_⟩;refine⟨g,bl,mv,bv,xs,ms,ks,np,tl,ns,kr,st,tb,fg,pv,ys,ts,s'++[rs'],tb',Z,U2,ma,hb4,BG,bG s2.tups oq,qV.tups s2.tups,s2 _ _ lT,h8,lj,sq.mono s2,t_,Xv,hok,hD,fun bl' mv' bv' H3 ub kp U3 ZO Vf=>?_⟩;obtain⟨m0,v',rfl,h0,hv'⟩:=bZ ZO;refine⟨_,Z,g.c,t.zb,g.cx,_,_,Z,U3.co,T.zg,T.zU,Ls _ _ _ _,.inl ⟨Z,_,b3.of U3.mb⟩,?_⟩;refine⟨_,Z,g.c,t.zb,g.cx,_,_,Z,U3.co,T.zg,T.zq,j6 _ _ _ _,g.p,g.dx,_,Z,U3.lg.ob,eN _ _ dk dk,g.p,g.dx,g.sl,bl',m0,bv',v',Z,U3.lg,g.ml,_,_,Z,Z,U3.mb,cO G,?_⟩;have c:=NK U3 v';have tp:=mV U3 (c.2 bl');exact k bl' m0 v' bv' _ (ub.imp id s2.free) (gs.ahead s2 (kp.trans (c.2 bl))) c.1 (bG tp ZO) (bG tp Vf)
 . -- an answer
   obtain⟨m0,_,rfl,h0,a,r,rfl,hm⟩:=bZ BG;obtain⟨W0,_,_,f,fd,hv,F,hk,SV⟩:=hA kd L hK;refine⟨_,Z,Z,_,Z,aN (fun z=>absurd (V.str.inj (eS z)) W0) (fun _=>?_)⟩;refine⟨_,Z,.inr kd,Z,Z,_,Z,?_⟩;rw[show bR _ (Sum.inr kd:Key)=some (V.ref f)from hv];refine bN ?_;refine⟨_,Z,g.c,t.zb,g.cx,_,_,Z,U2.co,T.zg,T.zT,Lr _ _ _ _,.inl ⟨Z,_,b3.of U2.an⟩,?_⟩;refine⟨_,Z,.inr kd,V.ref f,Z,Z,hv,f,oT P w,123,fd,_,GO L,_,Z,F,hr,hk,SV,aK,?_⟩;refine⟨_,Z,g.c,t.zb,g.cx,_,_,Z,U2.co,T.zg,T.zq,j6 _ _ _ _,g.p,g.dx,_,Z,U2.lg.ob,eN _ _ dk dk,g.p,g.dx,g.sl,bl,m0,bv,.ref a,Z,U2.lg,_,Z,?_⟩;refine⟨a,np,r,tl,rs,ys,ns,ts,txt,Z,hm,hM,s2 _ _ lT,h8,lj,t_,Xv,hok,hL,fun H3 s3=>?_⟩;have U3:=U2.mono s3;refine⟨g.al,_,_,Z,Z,U3.an,cO (by rw[dn];exact G),?_⟩;exact k _ (gs.ahead (s2.trans s3) (Hc U3 txt).2) (Hc U3 txt).1
 . -- keep
   obtain⟨m0,v,rfl,h0,hm⟩:=bZ BG;have sq:pv=.str x:=sq;subst sq;refine⟨_,Z,Z,_,Z,aN (fun _=>?_) (fun z=>absurd (cK rfl) z)⟩;refine⟨_,Z,g.c,t.zb,g.cx,_,_,Z,U2.co,T.zg,T.zq,j6 _ _ _ _,g.p,g.dx,_,Z,U2.lg.ob,eN _ _ dk dk,g.p,g.dx,g.sl,bl,m0,bv,v,Z,U2.lg,?_⟩;refine⟨_,Z,g.c,t.zb,g.cx,_,_,Z,U2.co,T.zg,T.zN,Dn _ _ _ _,_,Z,q,_,1,_,Z,Z,SqT.of hq2,Z,?_⟩;refine⟨g.kp,_,Z,xy.k (k:=.inr x) U2.kd (cO G),?_⟩;have c:=NP U2 (putK ks (.inr x) v);exact k v _ (hm.tups (mV U2 c.2)) (gs.ahead s2 c.2) c.1
def iC(ws:List Str):Bool:=(decide (ws.length%2=0)&&(decide (1<=ws.length/2)&&decide (ws.length/2<=10)))&&((evs ws).all (fun x=>!decide (cJ x=.non))&&(evs (ws.drop 1)).all isName)
inductive FI(vs:List V)(H:Hp)(Q:VK)(E:XK):Prop
 |mk(x:_)(_:vs=[.str x])(_:x.length<=fQ)(_:∀ r J,(∀ b o,H b=some o->J b=some o)->(if iC (b7 x)=true then ∃ p us,yj J r (.ref p) []/\J p=some (.lst us)/\nG J us ((evs ((b7 x).drop 1)).map V.str) ((evs (b7 x)).map cJ)else r=.non)->Q r J)
theorem uy{α β:Type}(f:α->β):∀ xs:List α,evs (xs.map f)=(evs xs).map f
 |[]=>by simp[evs]
 |[a]=>by simp[evs]
 |a::b::r=>by simp[evs,uy f r]
theorem uz{α:Type}:∀{xs:List α}{x:α},x∈evs xs->x∈xs
 |[],_,h=>by simp[evs]at h
 |[a],_,h=>by simpa[evs]using h
 | a::b::r,x,h=>by
  simp only[evs,ai]at h;rcases h with rfl|h
  .exact qms
  exact k_ _ (k_ _ (uz h))
theorem QC(vs:List V)(h:∀ v∈vs,v=.non \/ ∃ i,v=.int i):vs.all fB=true/\qE .non vs=vs.any fun v=>decide (v=.non):=by
 induction vs with
 |nil=>exact⟨Z,Z⟩
 | cons v vs ih =>
  obtain⟨h1,h2⟩:=ih fun u hu=>h u (k_ _ hu)
  have e:qE .non (v::vs)=(mw v .non||qE .non vs):=rfl;rw[e,h2];rcases h v qms with rfl|⟨i,rfl⟩
  .exact⟨by rw[ib,h1];rfl,Z⟩
  exact⟨by rw[ib,h1];rfl,by rw[eR,gX (fun z:V.int i=.non=>nomatch z)];rfl⟩
theorem yo{H J:Hp}(s:∀ b o,H b=some o->J b=some o):∀{us xs ys:List V},nG H us xs ys->nG J us xs ys
 |[],[],[],_=>trivial
 |_::_,_::_,_::_,⟨⟨q,e,h⟩,t⟩=>⟨⟨q,e,s _ _ h⟩,yo s t⟩
theorem N5:ck ["text","words","weights","keeping_words"] ["text"] (aR YN):=eP
theorem Kr(T:Txt P w K mg t):FM P w base T.q72 4 FI:=by
 refine T.q72.F.fk (k:=3) N5 ?_;rintro nd _ _ _ _ H vs Q E hr ⟨x,rfl,hx,k⟩;have hu:=fc hr
 refine⟨_,(aq (fN 1 nd (eI T.q58 (tG T) hr aK (aa (O 0) aj)))
   (aq (aO (PW.pt (dH (aF aV (aD cu (aY aX T.zd Bt.len (aa (O 1) aj)) ak) ak (aH _)) (eV (cW (qM lH lH ak (aD fO (aY aX T.zd Bt.len (aa (O 1) aj)) ak) (fC (v:=.int 10) T.zaI ⟨_,rfl⟩))))))
    (au (aC bL))
    aM)
   (aq (gj (i:=2) rfl ["word"] [none] nd rfl rfl (bU (FJ (O 1) ak ak)) gT (fun _ _ _ _ _ _=>(iq 0 (kG (l:=["word"])))) (fun _ _ _ _ _ _=>bV) (fun _ _ _ _ _ _=>(eI T.q63 (uw T) hr aK (aa (O 0) aj))))
   (aq (fN 3 nd (FJ (O 1) ak ak))
   (aq (aO (PW.pt (dH (aF fX bL (O 2) ou) (eV (cW (cz (aY (jE rfl) T.zC Bt.all (aa (bM rfl ["word"] [none] (bU (O 3)) gT (fun _ _ _ _ _ _=>(iq 0 (kG (l:=["word"])))) (fun _ _ _ _ _ _=>bV) (fun _ _ _ _ _ _=>(eI T.q1 (lV T) hr aK (aa (O 0) aj)))) aj)))))))
    (au (aC bL))
    aM)
   (au (aC (bu (aa (Cq rfl (aa (O 3) (aa (O 2) aj)) T.zM T.Y') (aa (bx aj) aj)))))))))),?_⟩
 have hm:=iT;refine⟨_,Z,x,Z,hx,fun p H1 s1 hp1=>?_⟩;have pe:∀ n∈b7 x,n.length<=sizeLine:=fun n hn=>by have:=qI hn;exact G
 have Kn:=tH x;generalize b7 x=ws at hp1 pe Kn k;have fin:∀ J,(∀ b o,H b=some o->J b=some o)->iC ws=false->Q .non J:=fun J s' e=>k _ _ s' (by rw[e,bX jv])
 have el:(ws.map V.str).length=ws.length:=dn _;refine⟨_,Z,p,_,Z,.inl (b3.of hp1),_,_,Z,Z,(by show(0:Int)<2;decide),Z,_,Z,aN (fun z=>?_) (fun z=>?_)⟩
 .have z:=V.int.inj (eS z)
  rw[el]at z;have z:ws.length%2=1:=G
  exact bN (fin H1 s1 (by simp[iC,z]))
 have z:ws.length%2=0:=by
  rw[el]at z;have:¬((ws.length:Nat):Int)%2=1:=fun e=>z (cK (by show V.int _=_;rw[e]))
  exact G
 refine⟨_,Z,p,_,Z,.inl (b3.of hp1),_,_,Z,Z,⟨b4,b4⟩,_,_,Z,Z,_,Z,?_⟩
 try dsimp -proj -iota only
 rw[el];have Vu:((ws.length:Nat):Int)/2=((ws.length/2:Nat):Int):=G
 rw[Vu];refine aN (fun e1=>?_) (fun e1=>⟨_,rfl,bN (fin H1 s1 (by simp at e1;simp[iC];exact G))⟩);have e1:=eS e1;refine⟨_,_,Z,Z,_,Z,?_⟩
 try dsimp -proj -iota only
 cases e2:decide (((ws.length/2:Nat):Int)<=10)with
 |false=>exact bN (fin H1 s1 (by simp at e2;simp[iC];exact G))
 |true =>
 refine bz ?_;have e2:=eS e2;have h20:ws.length<=20:=G
 refine⟨_,Z,p,_,0,Z,Z,Z,b3.of hp1,fun q1 hq1=>?_⟩;rw[tj,uy];have s2:=aW (o:=.lst ((evs ws).map V.str)) hq1;have hq2:(upd H1 q1 (.lst ((evs ws).map V.str))) q1=some (.lst ((evs ws).map V.str)):=ao;have mh:=bA s1 s2;have OK:=s2 _ _ hp1;generalize upd H1 q1 (.lst ((evs ws).map V.str))=H2 at mh hq2 OK ⊢;have hel:(evs ws).length <= 20:=by rw[kh];exact G
 refine⟨q1,Z,⟨_,b3.of hq2⟩,?_⟩;refine cF (K:=K) (a:=q1) (xs:=(evs ws).map V.str) (fun i ys J=>(∀ b o,H2 b=some o->J b=some o)/\ys=((evs ws).take i).map cJ) ⟨fun _ _ e=>e,rfl⟩ (lk (by rw[dn];exact G)) (fun i ys J ⟨_,e⟩=>by rw[e,dn,bp];exact G) (fun i ys J ⟨s',_⟩=>b3.of (s' _ _ hq2)) ?_ ?_
 .rintro i y ys H3 hi ⟨s3,rfl⟩
  rw[lS]at hi
  obtain⟨n,hn,rfl⟩:∃ c,(evs ws)[i]?=some c/\y=V.str c:=by
   cases q:(evs ws)[i]? with
   |none=>rw[q]at hi;cases hi
   |some c=>rw[q]at hi;exact⟨c,Z,(kF hi).symm⟩
  refine⟨trivial,_,Z,n,Z,pe n (uz (qB hn)),fun H4 s4=>⟨bA s3 s4,?_⟩⟩;rw[rh,hn,ar]
  rfl
 rintro ys H3 ⟨s3,rfl⟩ wl hwl;rw[dn,bE];have s4:=aW (o:=.lst ((evs ws).map cJ)) hwl;have ZI:(upd H3 wl (.lst ((evs ws).map cJ))) wl=some (.lst ((evs ws).map cJ)):=ao;have DL:=bA mh (bA s3 s4);have ZR:=s4 _ _ (s3 _ _ OK);generalize upd H3 wl (.lst ((evs ws).map cJ))=H4 at DL ZR ZI ⊢;refine⟨_,Z,p,_,1,Z,Z,Z,b3.of ZR,fun q5 hq5=>?_⟩;rw[<- List.map_drop,uy];have s5:=aW (o:=.lst ((evs (ws.drop 1)).map V.str)) hq5;have Va:(upd H4 q5 (.lst ((evs (ws.drop 1)).map V.str))) q5=some (.lst ((evs (ws.drop 1)).map V.str)):=ao;have L6:=bA DL s5;have US:=s5 _ _ ZI;generalize upd H4 q5 (.lst ((evs (ws.drop 1)).map V.str))=H5 at L6 Va US ⊢
 have Nl:∀ v∈(evs ws).map cJ,v=.non \/ ∃ i,v=.int i:=fun v hv=>by
  obtain⟨n,_,rfl⟩:=b9.mp hv;exact pI n
 obtain⟨SF,Xr⟩:=QC _ Nl;refine⟨_,Z,wl,_,Z,.inl (b3.of US),Z,SF,_,Z,?_⟩;rw[bX jv,Xr];cases ha:((evs ws).map cJ).any fun v=>decide (v=.non)with
 | true =>
  refine bN (fin H5 L6 ?_);obtain⟨v,hv,hv2⟩:=List.any_eq_true.mp ha;obtain⟨n,hn,rfl⟩:=b9.mp hv
  have hf:(evs ws).all (fun x=>!decide (cJ x=.non))=false:=by
   rw[List.all_eq_false];exact⟨n,hn,by rw[hv2];decide⟩
  simp[iC,hf]
 |false =>
 refine bz ?_;refine⟨_,Z,q5,Z,⟨_,b3.of Va⟩,?_⟩;have Xl:(evs (ws.drop 1)).length <= 20:=by rw[kh,cm];exact G
 refine cF (K:=K) (a:=q5) (xs:=(evs (ws.drop 1)).map V.str) (fun i ys J=>(∀ b o,H5 b=some o->J b=some o)/\ys=(((evs (ws.drop 1)).take i).map isName).map V.bl) ⟨fun _ _ e=>e,rfl⟩ (lk (by rw[dn];exact G)) (fun i ys J ⟨_,e⟩=>by rw[e,dn,dn,bp];exact G) (fun i ys J ⟨s',_⟩=>b3.of (s' _ _ Va)) ?_ ?_
 .rintro i y ys H6 hi ⟨s6,rfl⟩
  rw[lS]at hi
  obtain⟨n,hn,rfl⟩:∃ c,(evs (ws.drop 1))[i]?=some c/\y=V.str c:=by
   cases q:(evs (ws.drop 1))[i]? with
   |none=>rw[q]at hi;cases hi
   |some c=>rw[q]at hi;exact⟨c,Z,(kF hi).symm⟩
  refine⟨trivial,_,Z,n,Z,pe n (List.mem_of_mem_drop (uz (qB hn))),fun H7 s7=>⟨bA s6 s7,?_⟩⟩;rw[rh,hn,ar,ar]
  rfl
 rintro ys H6 ⟨s6,rfl⟩ lc yB;rw[dn,bE];have s7:=aW (o:=.lst (((evs (ws.drop 1)).map isName).map V.bl)) yB;have ZZ:(upd H6 lc (.lst (((evs (ws.drop 1)).map isName).map V.bl))) lc=some (.lst (((evs (ws.drop 1)).map isName).map V.bl)):=ao;have V5:=bA L6 (bA s6 s7);have ZH:=s7 _ _ (s6 _ _ US);have Z1:=s7 _ _ (s6 _ _ Va);generalize upd H6 lc (.lst (((evs (ws.drop 1)).map isName).map V.bl))=H7 at V5 ZH Z1 ZZ ⊢;refine⟨lc,_,Z,b3.of ZZ,?_⟩
 have ea:((evs (ws.drop 1)).map isName).all id=(evs (ws.drop 1)).all isName:=by
  rw[rf]
  rfl
 rw[ea];cases hb:(evs (ws.drop 1)).all isName with
 |false=>exact⟨_,Z,bN (fin H7 V5 (by unfold iC;rw[hb,nB,nB]))⟩
 |true =>
 have Wx:iC ws=true:=by
  have hf:(evs ws).all (fun x=>!decide (cJ x=.non))=true:=by
   rw[bP];intro n hn;have:=AB.mp ha (cJ n) (List.mem_map_of_mem hn);cases h:decide (cJ n=.non)with
   |true=>exact absurd h this
   |false=>rfl
  unfold iC;rw[hf,hb,cK z,cK (show 1<=ws.length/2 by omega),cK (show ws.length/2<=10 by omega)]
  rfl
 refine⟨_,Z,bz ?_⟩;refine⟨_,Z,_,Z,q5,wl,_,_,Z,b3.of Z1,b3.of ZH,by rw[dn,dn,kh,kh,cm];exact G,fun zl us H8 s8 hzl0 UN hZ=>⟨(by show 0<=sizeLine;decide),fun l hl=>⟨xE,fun r so=>?_⟩⟩⟩;have s9:=bA (aW (o:=.lst []) hl) (aW (o:=.tup [.ref zl,.ref l]) so);refine k _ _ (bA V5 (bA s8 s9)) ?_;rw[Wx,qp rfl];exact⟨zl,us,⟨r,l,Z,ao,aW so _ _ ao⟩,s9 _ _ UN,yo s9 hZ⟩
def qd(kd x:Str)(fg:ng)(ss:List Str):Prop:=(∃ aab v,jf kd=some aab/\aab x=some (v,ss)/\fg=.v v)\/(kd="pour"/\ss=[]/\∃ l:List (Str×Int),fg=.ps l/\iC (b7 x)=true/\evs ((b7 x).drop 1)=l.map (·.1)/\(evs (b7 x)).map cJ=l.map fun p=>.int p.2)
inductive GA(kd:Str)(vs:List V)(H:Hp)(Q:VK)(E:XK):Prop
 |mk(x:Str)(fg:ng)(ss:List Str)(_:vs=[.str x])(_:x.length<=fQ)(_:qd kd x fg ss)(_:∀ r J,(∀ b o,H b=some o->J b=some o)->(∃ q l pv,r=.ref q/\J q=some (.tup [pv,.ref l])/\qk J pv fg/\J l=some (.lst (ss.map V.str)))->Q r J)
def Td(H:Hp)(v:V)(kd:Str)(fg:ng)(ss:List Str):Prop:=∃ q l pv,v=.ref q/\H q=some (.tup [.str kd,pv,.ref l])/\qk H pv fg/\H l=some (.lst (ss.map V.str))
inductive F9(vs:List V)(H:Hp)(Q:VK)(E:XK):Prop
 |mk(x:Str)(fg:ng)(ss:List Str)(_:vs=[.str x])(_:x.length<=fQ)(_:qd (cQ x) (bW x) fg ss)(_:∀ r J,(∀ b o,H b=some o->J b=some o)->Td J r (cQ x) fg ss->Q r J)
theorem Hd{H:Hp}:∀{us:List V}{l:List (Str×Int)},nG H us (l.map fun p=>V.str p.1) (l.map fun p=>V.int p.2)->Paired (WP H) us l
 |[],[],_=>.nil
 |_::_,_::_,⟨⟨q,e,h⟩,t⟩=>.cons ⟨q,e,h⟩ (Hd t)
 |[],_::_,h=>False.elim h
 |_::_,[],h=>False.elim h
theorem vA:jf "pour"=none:=by
 unfold jf;rw[bX dk,bX dk,bX dk,bX dk,bX dk,bX dk]
theorem qg{k:Nat}    {aab:Str->Option (V×List Str)} (h:jf kd=some aab) (F:FO P w K mg base k f fd ["text"] (LX aab)):FO P w K mg base k f fd ["text"] (GA kd):=F.imp fun vs H Q E q=>by
 obtain⟨x,fg,ss,rfl,hx,hG,k⟩:=q;refine⟨x,Z,hx,fun r J s hF=>k r J s ?_⟩;rcases hG with⟨O',v,hO,hv,rfl⟩|⟨rfl,_⟩
 .rw[h]at hO
  cases hO;rw[hv]at hF;obtain⟨q,l,rfl,hq,hl⟩:=hF;exact⟨q,l,v,Z,hq,Z,hl⟩
 rw[vA]at h;cases h
theorem N6(T:Txt P w K mg t):FM P w base T.q72 5 (GA "pour"):=((Kr T).mono b4).imp fun vs H Q E q=>by
 obtain⟨x,fg,ss,rfl,hx,hG,k⟩:=q;refine⟨x,Z,hx,fun r J s hF=>k r J s ?_⟩;rcases hG with⟨O',v,hO,_⟩|⟨_,rfl,l,rfl,hB,e1,e2⟩
 .rw[vA]at hO
  cases hO
 rw[hB,qp rfl,e1,e2,dA]at hF;obtain⟨p,us,⟨q,l',rfl,hq,hl⟩,hp,hZ⟩:=hF;exact⟨q,l',_,Z,hq,⟨p,us,Z,hp,Hd hZ⟩,hl⟩
theorem N7(T:Txt P w K mg t){fg:ng}(h:qd kd x fg ss):∃(f:Addr) (fd:FuncData),bR ([(.inr "names",.ref t.NW),(.inr "take",.ref t.Ud),(.inr "give",.ref t.K_),(.inr "lean",.ref t.Uc),(.inr "keep",.ref t.Ua),(.inr "pour",.ref t.T_),(.inr "back",.ref t.EG),(.inr "again",.ref t.EG),(.inr "ask",.ref t.K_),(.inr "lost",.ref t.Ub),(.inr "worlds",.ref t.EG)]:List (Key×V)) (Sum.inr kd:Key)=some (V.ref f)/\FO P w K mg base 5 f fd ["text"] (GA kd)/\W.keepIn K (.ref f)=true/\Binds K fd ["text"] []:=by
 rcases h with⟨aab,v,hO,_⟩|⟨rfl,_⟩
 .have h0:=hO
  unfold jf at hO
  split at hO
  .rename_i e
   cases hO;subst e;exact⟨t.Ud,t.d67,gT,qg h0 ((J8 T).mono b4),T.q67.k,T.q67.b⟩
  split at hO
  .rename_i e
   cases hO;rcases e with e|e<;>subst e<;>exact⟨t.K_,t.d69,gT,qg h0 ((J5 T).mono b4),T.q69.k,T.q69.b⟩
  split at hO
  .rename_i e
   cases hO;subst e;exact⟨t.Uc,t.d68,gT,qg h0 ((J9 T).mono b4),T.q68.k,T.q68.b⟩
  split at hO
  .rename_i e
   cases hO;subst e;exact⟨t.Ua,t.d71,gT,qg h0 ((J7 T).mono b4),T.q71.k,T.q71.b⟩
  split at hO
  .rename_i e
   cases hO;rcases e with e|e|e<;>subst e<;>exact⟨t.EG,t.d73,gT,qg h0 ((J6 T).mono b4),T.q73.k,T.q73.b⟩
  split at hO
  .rename_i e
   cases hO;subst e;exact⟨t.Ub,t.d70,gT,qg h0 ((Ka T).mono b4),T.q70.k,T.q70.b⟩
  cases hO
 exact⟨t.T_,t.d72,gT,N6 T,T.q72.k,T.q72.b⟩
theorem Ks(T:Txt P w K mg t):FM P w base T.q74 6 F9:=by
 refine T.q74.F.fk (k:=5) yl ?_;rintro nd _ _ _ _ H vs Q E hr ⟨x,fg,ss,rfl,hx,hG,k⟩;have hu:=fc hr
 refine⟨_,(aq (fN 1 nd (eI T.q59 (nO T) hr aK (aa (O 0) aj)))
   (aq (aO (rO (oX T.zo (O 1) (fC (v:=.ref t.zo) T.zK rfl)))
    (au (aC bL))
    aM)
   (aq (fN 2 nd (nF (jo T.zo hu (fC (v:=.ref t.zo) T.zK rfl) (O 1) (fun _ _=>rfl)) (aa (eI T.q60 (nP T) hr aK (aa (O 0) aj)) aj)))
   (au (aC (fD (aF ik (O 2) bL (aH _)) bL (bu (aa (O 1) (aa (cy aJ (O 2) ak) (aa (cy aJ (O 2) ak) aj)))))))))),?_⟩
 have hm:=iT;have hb:=tL x;refine⟨_,Z,x,Z,G,fun H1 s1=>?_⟩;generalize cQ x=kd at hG k;obtain⟨f,fd,hv,F,hk,SV⟩:=N7 (base:=base) T hG;refine⟨_,Z,.inr kd,Z,Z,_,Z,?_⟩;rw[hv];refine bz ?_;refine⟨_,Z,.inr kd,V.ref f,Z,Z,hv,f,oT P w,5,fd,["text"],GA kd,_,Z,F,hr,hk,SV,aK,_,Z,x,Z,G,fun H2 s2=>⟨bW x,fg,ss,Z,G,hG,fun r H3 s3 MW=>?_⟩⟩;have pb:=bA s1 (bA s2 s3);obtain⟨q,l,pv,rfl,hq,sq,hl⟩:=MW;refine⟨_,rfl,rfl,_,rfl,aN (fun z=>absurd (eS z) (by intro z;cases z)) (fun _=>?_)⟩;refine⟨_,Z,_,Z,q,_,0,pv,Z,Z,SqT.of hq,Z,_,Z,q,_,1,.ref l,Z,Z,SqT.of hq,Z,(by show 3<=sizeLine;decide),fun m CF=>?_⟩;exact k _ _ (bA pb (aW CF)) ⟨m,l,pv,rfl,ao,sq.mono (aW CF),aW CF _ _ hl⟩
inductive F0(t:l9)(vs:List V)(H:Hp)(Q:VK)(E:XK):Prop
 |mk(g:CA)(bl:Addr)(mv bv:List V)(xs:List Str)(ms:List V)(ks:List (Key×V))(q l:Addr)(kd:Str)(pv:V)(fg:ng)(_:vs=[.ref g.c,.ref q])(_:ka t H g bl mv bv xs ms ks)(_:H q=some (.tup [.str kd,pv,.ref l]))(_:qk H pv fg)(_:(kd="pour"->∃ pl,fg=.ps pl/\pl.length<=10/\∀ x∈pl,(bR ks (.inr x.1)).isSome=true))(_:∀ J,bb H J->Q (.bl false) J)
theorem uu.mono{H J:Hp}(s:bb H J){q:Addr}{kd:Str}{fg:ng}{ts:List Tr}(h:uu H q kd fg ts):uu J q kd fg ts:=by
 obtain⟨l,pv,ss,h1,h2,h3,h4⟩:=h.ex;exact⟨l,pv,ss,s _ _ h1,h2.mono s,s _ _ h3,h4⟩
theorem Ku(T:Txt P w K mg t):FM P w base T.q87 1 (F0 t):=by
 refine T.q87.F.fk (N:=["course","form"]) eP ?_;rintro nd _ _ _ _ H _ _ _ hr ⟨g,bl,mv,bv,xs,ms,ks,q,l,kd,pv,fg,rfl,U,hq,sq,hn,k⟩;have hu:=fc hr;refine⟨_,(au (aC (oF (cM aV (cy aJ (O 1) ak) az (aH _)) (mH (aY (Ex rfl) T.zaP Bt.any (aa (bM rfl ["word","weight","course"] [none,none,some 0] (bU (cy aJ (O 1) ak)) gT (fun _ _ _ _ _ _=>(gD (K:=K) (n:=2) rfl rfl (bH (iq 0 (kG (l:=["word","weight","course"]))) (bH (iq 1 (kG (l:=["word","weight","course"]))) dI)))) (fun _ _ _ _ _ _=>bV) (fun _ _ _ _ _ _=>(OD (Et hu (O 0) (Bc (K:=K) rfl (ja 2) rfl))))) aj)))))),?_⟩;refine⟨_,Z,q,_,0,_,Z,Z,SqT.of hq,Z,Z,?_⟩
 by_cases ep:kd="pour"
 .have e:decide (V.str kd=V.str ("pour":Str))=true:=cK (by rw[ep])
  try dsimp -proj -iota only
  rw[e];obtain⟨pl,rfl,OW,hall⟩:=hn ep;obtain⟨pq,us,rfl,ZQ,CC⟩:=sq;have e1:=a_ CC;refine⟨true,Z,bN ⟨_,Z,q,_,1,_,Z,Z,SqT.of hq,Z,pq,Z,⟨_,b3.of ZQ⟩,?_⟩⟩;refine cF (K:=K) (a:=pq) (xs:=us) (fun i ys J=>J=H/\ys=(List.replicate i false).map V.bl) ⟨rfl,rfl⟩ (lk G) (fun i ys J ⟨_,e⟩=>by rw[e,dn,c_];exact qnr _) (fun i ys J ⟨e,_⟩=>by subst e;exact b3.of ZQ) ?_ ?_
  .rintro i y ys H1 hi ⟨e0,rfl⟩
   have e0:=e0.symm;subst e0;obtain⟨⟨kw,n⟩,Xa,qq,rfl,OH⟩:=bD CC i y hi;obtain⟨v,hv⟩:=kg.mp (hall _ (qB Xa));refine⟨qq,_,Z,SqT.of OH,Z,_,_,Z,_,_,Z,Z,⟨Z,trivial⟩,?_⟩;refine⟨_,Z,_,Z,g.c,t.zb,g.cx,_,_,Z,U.co,T.zg,T.zN,Dn _ _ _ _,g.kp,some v,Z,.inl ⟨ks,.inr kw,.inl U.kd,Z,hv.symm⟩,Z,?_⟩;rw[List.replicate_succ',ar]
   rfl
  rintro ys H1 ⟨e0,rfl⟩ lc yB;have e0:=e0.symm;subst e0;have s1:=aA (o:=.lst ((List.replicate us.length false).map V.bl)) yB;refine⟨lc,_,Z,b3.of ao,?_⟩
  have ea:(List.replicate us.length false).any id=false:=by
   rw[AB];intro b hb;rw[(eL.mp hb).2]
   decide
  rw[ea];exact k _ s1
 have e:decide (V.str kd=V.str ("pour":Str))=false:=gX fun z=>ep (V.str.inj z)
 try dsimp -proj -iota only
 rw[e];exact⟨false,Z,k _ (bb.refl _)⟩
theorem N8:ck ["course","form"] ["course","form"] (aR YA):=eP
theorem Kv(T:Txt P w K mg t){AK:Str->gK->Prop}(hA:wD P w K mg base t AK):FO P w K mg base 125 t.a88 t.d88 ["course","form"] (JI t AK):=by
 refine T.q88.F.fk (k:=124) N8 ?_;rintro nd _ _ _ _ H vs Q E hr ⟨g,bl,mv,bv,xs,ms,ks,np,q,ns,kr,st,tb,kd,fg,ts,rfl,U,hlen,ic,oq,qV,lT,h8,lj,hF,hok,k⟩;obtain⟨l,pv,ss,hq,sq,_⟩:=hF.ex
 have U_:¬kd="names"/\(kd="pour"->∃ pl,fg=.ps pl/\pl.length<=10/\∀ x∈pl,(bR ks (.inr x.1)).isSome=true):=by
  rcases k with⟨D,s',rs',tb',hD,h,_⟩|⟨_,_,L,txt,_,_,hK,_⟩|⟨_,_,_,rfl,_⟩
  .cases hD with
   |take=>exact⟨dk,fun z=>absurd z dk⟩
   |give=>exact⟨dk,fun z=>absurd z dk⟩
   |lean=>exact⟨dk,fun z=>absurd z dk⟩
   |back=>exact⟨dk,fun z=>absurd z dk⟩
   |again=>exact⟨dk,fun z=>absurd z dk⟩
   | DO =>
    refine⟨dk,fun _=>?_⟩;obtain⟨_,_,_,_,_,_,_,pl,ps,e,vw,OW,_⟩:=h;refine⟨pl,e,OW,fun x hx=>?_⟩;obtain⟨i,hi⟩:=List.mem_iff_getElem?.mp hx;obtain⟨y,_,hy,_⟩:=bD vw i x hi;obtain⟨v,hv,_⟩:=(G3 qV x.1).2 _ hy;rw[hv]
    rfl
  .exact⟨(hA kd L hK).2.1,fun z=>absurd z (hA kd L hK).2.2.1⟩
  exact⟨dk,fun z=>absurd z dk⟩
 refine⟨_,(aq (aO (PW.pt (dH (aF ik (O 1) bL (aH _)) (eV (aF aV (cy aJ (O 1) ak) az (aH _)))))
    (au (aC az))
    aM)
   (aq (aO (iD (eI T.q87 (Ku T) hr aK (aa (O 0) (aa (O 1) aj))) (fun _=>rfl))
    (au (aC az))
    aM)
   (aq (Az (xj (Ip (Qn T.q86 (Kq T hA) hr (aa (O 0) (aa (O 1) aj)))))
    (.cons T.zx T.zar gT gT (fun e=>(au (aC az))) (.cons T.Za T.zas gT gT (fun e=>(au (aC az))) (.cons T.Zb T.zaq gT gT (fun e=>(au (aC az))) (.cons T.zQ T.zV gT gT (fun e=>(au (aC az))) (.cons T.zS T.zW gT gT (fun e=>(au (aC az))) (.cons T.zZ T.zap gT gT (fun e=>(au (aC az))) (.cons T.zY T.zao gT gT (fun e=>(au (aC az))) .nil))))))))
   (au (aC bL))))),?_⟩
 refine⟨_,rfl,rfl,_,rfl,aN (fun z=>absurd (eS z) (by intro z;cases z)) (fun _=>?_)⟩;refine⟨_,Z,q,_,0,_,Z,Z,SqT.of hq,Z,Z,_,Z,aN (fun z=>absurd (V.str.inj (eS z)) U_.1) (fun _=>?_)⟩;refine⟨_,Z,_,Z,g,bl,mv,bv,xs,ms,ks,q,l,kd,pv,fg,Z,U,hq,sq,U_.2,fun H1 s1=>?_⟩;refine⟨_,Z,?_⟩;refine⟨_,Z,_,Z,g,bl,mv,bv,xs,ms,ks,np,q,ns,kr,st,tb,kd,fg,ts,Z,U.mono s1,hlen,bG s1.tups ic,bG s1.tups oq,qV.tups s1.tups,s1 _ _ lT,h8,lj,hF.mono s1,hok,?_⟩;rcases k with⟨D,s',rs',tb',h1,h2,k⟩|⟨s0,rs,L,txt,h1,h2,h3,h4,k⟩|⟨s0,rs,x,h1,h2,h3,k⟩
 .exact .inl ⟨D,s',rs',tb',h1,h2,fun bl' mv' v' bv' J hb kc=>k bl' mv' v' bv' J (hb.imp id s1.free) (gs.ahead s1 kc)⟩
 .exact .inr (.inl ⟨s0,rs,L,txt,h1,h2,h3,h4,fun J kc=>k J (gs.ahead s1 kc)⟩)
 exact .inr (.inr ⟨s0,rs,x,h1,h2,h3,fun v J hv kc=>k v J hv (gs.ahead s1 kc)⟩)
inductive Runs(AK:Str->gK->Prop)(ns:List Str):List (Str×ng×List Tr)->List (List Int)->List (List Int)->Kept->List (List Int)->List Str->Prop
 |nil (st tb:List (List Int)) (kr:Kept):Runs AK ns [] st tb kr [] []
 |deed {kd:Str} {fg:ng} {ts:List Tr} {D:Dd} {st tb s' tb':List (List Int)} {kr:Kept} {rs':List Int} {rws:List (Str×ng×List Tr)} {kC:List (List Int)} {xs:List Str}:(∀ u∈ts,IM u/\∀ x∈u.names,x∈ns)->kP kd D->D ns kr st tb fg ts (s'++[rs']) tb'->Runs AK ns rws (s'++[rs']) tb' kr kC xs->Runs AK ns ((kd,fg,ts):: rws) st tb kr (rs'::kC) xs
 |ans {kd:Str} {fg:ng} {ts:List Tr} {st tb s0:List (List Int)} {kr:Kept} {rs:List Int} {L:gK} {txt:Str} {rws:List (Str×ng×List Tr)} {kC:List (List Int)} {xs:List Str}:(∀ u∈ts,IM u/\∀ x∈u.names,x∈ns)->st=s0++[rs]->gx ns rs->AK kd L->L ns rs ts txt->Runs AK ns rws st tb kr kC xs->Runs AK ns ((kd,fg,ts):: rws) st tb kr kC (txt::xs)
 |keep {x:Str} {st tb s0:List (List Int)} {kr:Kept} {rs:List Int} {rws:List (Str×ng×List Tr)} {kC:List (List Int)} {xs:List Str}:st=s0++[rs]->Runs AK ns rws st tb (jO kr x rs) kC xs->Runs AK ns (("keep",.v (.str x),[]):: rws) st tb kr kC xs
def Ds(r:Nat×Str)(x:Str×ng×List Tr):Prop:=r.2.length<=fQ/\cQ r.2=x.1/\∃(ss:List Str),qd x.1 (bW r.2) x.2.1 ss/\Paired Pd ss x.2.2/\ss.length<=10
inductive PV(t:l9)(AK:Str->gK->Prop)(vs:List V)(H:Hp)(Q:VK)(E:XK):Prop
 |mk(x:Str)(i0:Nat)(r0:Str)(rest:List (Nat×Str))(rws:List (Str×ng×List Tr))(ns:List Str)(kC:List (List Int))(xs:List Str)(_:vs=[.str x])(_:x.length<=fQ)(_:p7 x=(i0,r0):: rest)(_:r0.length<=fQ)(_:cQ r0="names")(_:fU (b7 (bW r0))=true)(_:b7 (bW r0)=ns)(_:1<=ns.length)(_:ns.length<=8)(_:ns.Nodup)(_:rest.length<=300)(_:Paired Ds rest rws)(_:Runs AK ns rws [fK ns] [] [] kC xs)(_:∀(q al ml np:Addr) (ms:List V) (J:Hp),bb H J->J q=some (.tup [.ref al,.ref ml])->J al=some (.lst (xs.map V.str))->J ml=some (.lst ms)->J np=some (.tup (ns.map V.str))->Paired (fT J np) ms kC->Q (.ref q) J)
theorem vB{D:Dd}(h:kP kd D){kr:Kept}{st tb ip tb':List (List Int)}{fg:ng}(d:D ns kr st tb fg ts ip tb'):ip.length<=st.length+1/\tb'.length<=tb.length+1:=by
 have new:∀{D},newD D ns kr st tb fg ts ip tb'->ip.length<=st.length+1/\tb'.length<=tb.length+1:=fun⟨s0,rs,rs',_,e,e2,_⟩=>by
  rw[e,e2,af];exact⟨qnr _,mr _⟩
 cases h with
 |take=>exact new d
 |give=>exact new d
 |lean=>exact new d
 |DO=>exact new d
 | back =>
  obtain⟨s0,rs,rfl,_,rfl,rfl⟩:=d;rw[af,af];exact⟨G,qnr _⟩
 | again =>
  obtain⟨t0,rs,rfl,rfl,rfl⟩:=d;rw[af,af];exact⟨qnr _,G⟩
theorem Kw(kr:Kept)(x:Str)(rs:List Int):(jO kr x rs).length <= kr.length+1:=by
 unfold jO
 split
 .rw[dn];exact G
 rw[af];exact qnr _
theorem Hf(ns:List Str):gx ns (fK ns):=⟨c_,fun z hz=>by rw[(eL.mp hz).2];exact oi 0,eL.mpr ⟨by have:=hW (n:=ns.length);exact G,rfl⟩⟩
theorem Hg(v:V)(us:List V):iH (v::us) (some 1) none=us:=by
 unfold iH;simp[HT.fF]
theorem RJ:ck ["text","rows","course","place","row","word"] ["text"] (aR Yy):=eP
theorem QD(T:Txt P w K mg t){AK:Str->gK->Prop}(hA:wD P w K mg base t AK):FO P w K mg base 126 t.a90 t.d90 ["text"] (PV t AK):=by
 refine T.q90.F.fk (k:=125) RJ ?_;rintro nd _ _ _ _ H vs Q E hr ⟨x,i0,r0,rest,rws,ns,kC,xs,rfl,hx,RH,BM,Xc,hB,pe,h1,h8,lj,XE,hS,hR,k⟩
 refine ⟨_,(aq (fN 1 nd (eI T.q57 (GZ T) hr aK (aa (O 0) aj)))
   (aq (fN 2 nd (Lg T.zaM (Kf T) (hr.mo) T.zaz T.q75.b aK (aa (eI T.q89 (ym T) hr aK (aa (O 1) aj)) aj)))
   (aq (fM l_ rfl (bU (iG t7 (O 1) (iM ak) j9)) (oG (n:=2) rfl (bH (iq 3 nd) (bH (iq 4 nd) dI)))
    (aq (fN 5 nd (eI T.q88 (Kv T hA) hr aK (aa (O 2) (aa (eI T.q74 (Ks T) hr aK (aa (O 4) aj)) aj))))
    (au (aO (aF LK (O 5) bL (aH _))
     (au qK)
     aM))))
   (au (aC (bu (aa (bF (O 2) rfl) (aa (bF (O 2) rfl) aj)))))))),?_⟩
 refine⟨_,Z,x,Z,hx,fun rl us H1 s1 OG hPr=>?_⟩;rw[RH]at hPr
 obtain⟨v0,us',rfl,hv0,S'⟩:∃ v0 us',us=v0::us'/\px H1 v0 (i0,r0)/\Paired (px H1) us' rest:=by
  cases hPr with
  |cons a b=>exact⟨_,_,Z,a,b⟩
 have t9:us'.length=rest.length:=a_ S';refine⟨_,Z,rl,v0,us',i0,r0,Z,OG,by rw[t9];exact gV XE b4,hv0,BM,Xc,hB,fun np H2 s2 lT=>?_⟩;rw[pe]at lT;have WL:=s2 _ _ OG;have Xz:Paired (px H2) us' rest:=Paired.iA S' fun _ _ z=>z.mono s2
 have Uz:bb H H2:=fun b o e=>s2 _ _ (s1 _ _ e)
 intro c cx hc _a hccx;have WY:np≠c:=aG lT hc;have WX:np≠cx:=aG lT _a;refine⟨c,cx,np,ns,Z,ao,by rw[aB WY,aB WX];exact lT,h1,h8,fun p dx sl kp al ml bl m r H3 U hm hp hsl pj ua qV ub keep=>⟨Z,?_⟩⟩;have GV:bb H2 H3:=fun b o e=>keep b o (by rw[aB (aG e hc),aB (aG e _a)];exact e) (aG e hc)
 have fr:∀ b,(upd (upd H2 cx (.own c)) c (.ins t.zb cx [])) b=none->H2 b=none:=fun b e=>by
  by_cases e1:b=c
  .rw[e1]at e;rw[ao]at e;cases e
  rw[aB e1]at e
  by_cases e2:b=cx
  .rw[e2]at e;rw[ao]at e;cases e
  rw[aB e2]at e;exact e
 have OK:=fr _ hp;have D2:=fr _ hsl;have Xs:=fr _ pj;have W3:=fr _ ua;have W_:=fr _ qV;have IF:=fr _ ub;have WK:=GV _ _ WL;have lift:∀{Ha Hb:Hp}{bl:Addr},H2 bl=none->bb H2 Ha->gs ⟨c,cx,p,dx,sl,kp,al,ml⟩ bl Ha Hb->bb H2 Hb:=fun hb sa kc b o e=>kc b o (sa _ _ e) (aG e OK) (aG e D2) (aG e Xs) (aG e W3) (aG e W_) (aG e hb)
 refine⟨_,Z,_,Z,rl,_,Z,b3.of WK,fun BD sk=>?_⟩;have ec:iH (v0::us') (some 1) none=us':=Hg v0 us';rw[ec];have xD:=aA (o:=.lst us') sk;have MV:(upd H3 BD (.lst us')) BD=some (.lst us'):=ao;have n1:BD≠p:=aS (aG U.lg.ob sk);have n2:BD≠sl:=aS (aG U.lg.st sk);have n3:BD≠al:=aS (aG U.an sk);have n4:BD≠ml:=aS (aG U.mb sk);have n5:BD≠kp:=aS (aG U.kd sk);have n6:BD≠bl:=aS (aG U.lg.tb sk);have U4:=U.mono xD;have Kx:=hm.same xD;have GU:=GV.trans xD;generalize upd H3 BD (.lst us')=H4 at MV U4 Kx GU ⊢;have SD:rest.length=rws.length:=a_ hS
 refine⟨BD,rfl,⟨_,b3.of MV⟩,gf (K:=K) (a:=BD) (xs:=us')
  (fun i M J=>E15 fun(o3 o4 o5:Option V)(bl:Addr)(mv bv:List V)(st tb:List (List Int))(x1 x2:List Str)(ms:List V)(m1 m2:List (List Int))(ks:List (Key×V))(kr:Kept)=>C13 (M=[some (.str x),some (.ref rl),some (.ref c),o3,o4,o5]) (bb H2 J) (J BD=some (.lst us')) (ka t J ⟨c,cx,p,dx,sl,kp,al,ml⟩ bl mv bv x1 ms ks) ((H2 bl=none/\BD≠bl)) (Paired (fT J np) mv st) (Paired (fT J np) bv tb) (uk J np ks kr) (Paired (fT J np) ms m1) (Runs AK ns (rws.drop i) st tb kr m2 x2) (kC=m1++m2) (xs=x1++x2) ((st.length<=i+1/\tb.length<=i/\x1.length<=i/\m1.length<=i/\kr.length<=i)))
  ⟨none,none,none,bl,[.ref m],[],[fK ns],[],[],xs,[],[],kC,[],[],rfl,GU,MV,U4,⟨IF,n6⟩,.cons ⟨m,r,rfl,Kx⟩ .nil,.nil,.nil,.nil,hR,rfl,rfl,qnr _,qnr _,qnr _,qnr _,qnr _⟩ (fun i M J _ ⟨_,_,_,_,_,_,_,_,_,_,_,_,_,_,_,_,_,h,_,_,_,_,_,_,_,_,_,_⟩=>b3.of h) ?_ ?_⟩
 .rintro i y M H5 hi ⟨o3,o4,o5,bl,mv,bv,st,tb,x1,x2,ms,m1,m2,ks,kr,rfl,P8,hrl5,U5,⟨hbl5,n6⟩,ic,oq,W',NI,hRu,hmss,hxs,hL1,hL2,HL,hm1,hL3⟩
  have Z6:i<us'.length:=(List.getElem?_eq_some_iff.mp hi).1;obtain⟨⟨j,yt⟩,hj,q,rfl,hq⟩:=bD Xz i y hi;obtain⟨⟨kd,fg,ts⟩,hrw,Ki,Vb,ss,hG,Xy,OW⟩:=bD hS i (j,yt) hj;have Ki:yt.length<=fQ:=Ki;have Vb:cQ yt=kd:=Vb;have hG:qd kd (bW yt) fg ss:=hG;have Xy:Paired Pd ss ts:=Xy
  have X1:rws.drop i=(kd,fg,ts):: rws.drop (i+1):=by
   obtain⟨fS,e⟩:=List.getElem?_eq_some_iff.mp hrw;rw[js fS,e]
  have ua:=a_ NI;have OO:=a_ ic;have hbv:=a_ oq;have hks:=a_ W';refine⟨q,_,Z,SqT.of (P8 _ _ hq),Z,_,_,Z,_,_,Z,Z,?_⟩;refine⟨_,Z,_,Z,yt,fg,ss,Z,Ki,by rw[Vb];exact hG,fun v H6 s6 _e=>?_⟩;rw[Vb]at _e;obtain⟨q6,l6,pv6,rfl,UX,OI,hl6⟩:=_e;have s6:bb H5 H6:=s6;have U6:=U5.mono s6;have s26:=P8.trans s6;have hPm6:=bG s6.tups NI;have MQ:=bG s6.tups ic;have ML:=bG s6.tups oq;have hkr6:=W'.tups s6.tups;rw[X1]at hRu;refine⟨⟨c,cx,p,dx,sl,kp,al,ml⟩,bl,mv,bv,x1,ms,ks,np,q6,ns,kr,st,tb,kd,fg,ts,Z,U6,⟨G,G,G,G,G⟩,MQ,ML,hkr6,s26 _ _ lT,h8,lj,⟨l6,pv6,ss,UX,OI,hl6,Xy,OW⟩,?_,?_⟩
  .cases hRu with
   |deed h _ _ _=>exact h
   |ans h _ _ _ _ _=>exact h
   |keep _ _=>exact fun u hu=>nomatch hu
  cases hRu with
  | deed hok hK hD hrest =>
   rename_i D s' tb' rs' m2'
   obtain⟨l1,l2⟩:=vB hK hD;refine .inl ⟨D,s',rs',tb',hK,hD,fun bl' mv' v' bv' H7 hbl' kc U7 hs7 hb7=>?_⟩;have tp:=mV U6 kc;refine⟨_,Z,Z,_,Z,aN (fun z=>absurd z (by rw[cK rfl];decide)) (fun _=>?_)⟩
   have hv':fT H7 np v' rs':=by
    obtain⟨_,_,e,_,h⟩:=bZ hs7;obtain⟨_,e2⟩:=qc e rfl;cases e2;exact h
   refine⟨_,_,_,bl',mv'++[v'],bv',s'++[rs'],tb',x1,x2,ms++[v'],m1++[rs'],m2',ks,kr,Z,lift hbl5 s26 kc,kc _ _ (s6 _ _ hrl5) n1 n2 n3 n4 n5 n6,U7,?_,hs7,hb7,hkr6.tups tp,bJ (bG tp hPm6) (.cons hv' .nil),hrest,by rw[hmss,dr];rfl,hxs,G,G,G,by rw[af];exact Nat.succ_le_succ hm1,G⟩;rcases hbl' with rfl|hb
   .exact⟨hbl5,n6⟩
   exact⟨s26.free hb,aG (s6 _ _ hrl5) hb⟩
  | ans hok hst0 hM hK hL hrest =>
   rename_i s0 rs L txt x2'
   refine .inr (.inl ⟨s0,rs,L,txt,hst0,hM,hK,hL,fun H7 kc U7=>?_⟩);have tp:=mV U6 kc;refine⟨_,Z,Z,_,Z,aN (fun z=>absurd z (by rw[cK rfl];decide)) (fun _=>?_)⟩;exact⟨_,_,_,bl,mv,bv,st,tb,x1++[txt],x2',ms,m1,m2,ks,kr,Z,lift hbl5 s26 kc,kc _ _ (s6 _ _ hrl5) n1 n2 n3 n4 n5 n6,U7,⟨hbl5,n6⟩,bG tp MQ,bG tp ML,hkr6.tups tp,bG tp hPm6,hrest,hmss,by rw[hxs,dr];rfl,G,G,by rw[af];exact Nat.succ_le_succ HL,G,G⟩
  | @keep x0 _ _ s0 _ rs _ _ _ hst0 hrest =>
   refine .inr (.inr ⟨s0,rs,x0,rfl,rfl,hst0,fun v H7 hv kc U7=>?_⟩);have tp:=mV U6 kc;have:=Kw kr x0 rs;refine⟨_,Z,Z,_,Z,aN (fun z=>absurd z (by rw[cK rfl];decide)) (fun _=>?_)⟩;exact⟨_,_,_,bl,mv,bv,st,tb,x1,x2,ms,m1,m2,_,jO kr x0 rs,Z,lift hbl5 s26 kc,kc _ _ (s6 _ _ hrl5) n1 n2 n3 n4 n5 n6,U7,⟨hbl5,n6⟩,bG tp MQ,bG tp ML,Qz (hkr6.tups tp) hv,bG tp hPm6,hrest,hmss,hxs,G,G,G,G,G⟩
 rintro M H5 ⟨o3,o4,o5,bl,mv,bv,st,tb,x1,x2,ms,m1,m2,ks,kr,rfl,P8,hrl5,U5,_,ic,oq,W',NI,hRu,hmss,hxs,_⟩;have ed:rws.drop us'.length=[]:=List.drop_eq_nil_of_le G;rw[ed]at hRu;cases hRu;rw[cn]at hmss hxs;subst hmss hxs;refine⟨_,Z,c,t.zb,cx,_,_,Z,U5.co,T.zg,T.zT,Lr _ _ _ _,_,Z,c,t.zb,cx,_,_,Z,U5.co,T.zg,T.zU,Ls _ _ _ _,lk obz,fun e he=>?_⟩;have s7:=aA (o:=.tup [.ref al,.ref ml]) he;exact k e al ml np ms _ ((Uz.trans P8).trans s7) ao (s7 _ _ U5.an) (s7 _ _ U5.mb) (s7 _ _ (P8 _ _ lT)) (bG s7.tups NI)
def VB:List Str:=["take","give","lean","back","again","pour","keep","worlds","ask"]
structure xw(ns:List Str)(tr:Tr)(a b:Int)(kl:List Str)(kd:Str):Prop where
 mem:kd∈VB
 tk:kd="take"->aP ns tr≠0
 gv:kd="give"->aP ns tr≠cP ns.length
 ln:kd="lean"->aP ns tr≠0/\aP ns tr≠cP ns.length
 bk:kd="back"->a≠0
 ag:kd="again"->b≠0
 pr:kd="pour"->kl≠[]
def Cc(kd:Str)(num:Int):Prop:=(kd="lean"/\-(10^30)<num/\num<10^30)\/(¬kd="lean"/\0<num/\num<10^30)
structure Cb(ns:List Str)(tr:Tr):Prop where
 dp:tr.depth<=4
 sz:tr.size<=100
 nm:∀ x∈tr.names,x∈ns
inductive LI(vs:List V)(H:Hp)(Q:VK)(E:XK):Prop
 |mk(np cl e:Addr)(ns kl:List Str)(c k a b:Int)(_:vs=[.ref np,.int c,.int k,.ref cl])(_:H np=some (.tup (ns.map V.str)))(_:1<=ns.length)(_:ns.length<=8)(_:0<=k)(_:k<1000)(_:H cl=some (.lst [.int a,.int b,.ref e]))(_:H e=some (.lst (kl.map V.str)))(_:∀(q:Addr)(vt vo:V)(tr:Tr)(kd:Str)(num i:Int)(J:Hp),bb H J->J q=some (.tup [.str kd,.int num,vt,vo,.int i])->eD J vt tr->Cb ns tr->xw ns tr a b kl kd->Cc kd num->0<=i->Q (.ref q) J)
theorem gA(p:Str->Bool)(h:VB.all p=true)(hk:kd∈VB):p kd=true:=bP.mp h kd hk
theorem Oa{m:Int}(h0:0<=m)(h:m<11):∃ kd:Str,sR [V.str "take",V.str "give",V.str "lean",V.str "back",V.str "again",V.str "back",V.str "again",V.str "pour",V.str "keep",V.str "worlds",V.str "ask"] m=some (.str kd)/\kd∈VB:=by
 obtain⟨n,rfl⟩:∃ n:Nat,m=(n:Int):=⟨m.toNat,G⟩
 have hn:n<(["take","give","lean","back","again","back","again","pour","keep","worlds","ask"]:List Str).length:=by show n<11;exact G
 refine⟨(["take","give","lean","back","again","back","again","pour","keep","worlds","ask"]:List Str)[n],?_,bP.mp (show(["take","give","lean","back","again","back","again","pour","keep","worlds","ask"]:List Str).all (fun x=>decide (x∈VB))=true by decide +kernel) _ (fi hn) |> eS⟩;show sR ((["take","give","lean","back","again","back","again","pour","keep","worlds","ask"]:List Str).map V.str) _=_;refine bh (j:=n) ?_;rw[lS,List.getElem?_eq_getElem hn]
 rfl
theorem tR{a b:Int}:xw ns tr a b kl "ask":=⟨dk,fun z=>absurd z dk,fun z=>absurd z dk,fun z=>absurd z dk,fun z=>absurd z dk,fun z=>absurd z dk,fun z=>absurd z dk⟩
theorem QF:ck ["_law_names","_law_cell","_law_k","_law_counts","_law_m","_law_verb","_law_tree","_law_other","_law_told","_law_always","_law_number"] ["_law_names","_law_cell","_law_k","_law_counts"] (aR Jq):=eP
theorem Ob(T:Txt P w K mg t):FM P w base T.q101 7 LI:=by
 have Y0:=JG (base:=base) T;refine T.q101.F.fk (k:=6) QF ?_;rintro nd _ _ _ _ H _ _ _ hr ⟨np,cl,e,ns,kl,c,kk,a,b,rfl,lT,h1,h8,Xc,hk1,EA,he,k⟩;have hu:=fc hr
 refine⟨_,(aq (fN 4 nd (eI T.q93 Y0 hr aK (aa (O 1) (aa (O 2) aj))))
   (aq (fN 5 nd (cy bj (bx (aa az (aa az (aa az (aa az (aa az (aa az (aa az (aa az (aa az (aa az (aa az aj)))))))))))) (aD cu (O 4) ak)))
   (aq (fN 6 nd (eI T.q95 (wu T 4) hr aK (aa (O 0) (aa (eI T.q93 Y0 hr aK (aa (O 1) (aa (aD cN (O 2) ak) aj))) (aa ak aj)))))
   (aq (fN 7 nd (eI T.q95 (wu T 4) hr aK (aa (O 0) (aa (eI T.q93 Y0 hr aK (aa (O 1) (aa (aD cN (O 2) ak) aj))) (aa ak aj)))))
   (aq (fN 8 nd (eI T.q97 (lU T 4) hr aK (aa (O 0) (aa (O 6) aj))))
   (aq (fN 9 nd (cM aV (O 8) (aD cX (aD gO ak (aD gO ak (aY aX T.zd Bt.len (aa (O 0) aj)))) ak) (aH _)))
   (aq (aO (PW.pt (dH (PW.pt (gw (aF aV (O 5) az (aH _)) (fu (aF aV (O 8) ak (aH _))))) (dH (PW.pt (gw (aF fX (O 5) (bu (aa az (aa az aj))) ou) (fu (cz (O 9))))) (eV (PW.pt (gw (aF aV (O 5) az (aH _)) (fu (PW.pt (dH (cz (O 9)) (eV (aF aV (O 8) ak (aH _))))))))))))
    (au (fN 5 nd az))
    aM)
   (aq (aO (PW.pt (dH (PW.pt (gw (aF aV (O 5) az (aH _)) (fu (aF aV (cy bj (O 3) ak) ak (aH _))))) (eV (PW.pt (gw (aF aV (O 5) az (aH _)) (fu (aF aV (cy bj (O 3) ak) ak (aH _))))))))
    (au (fN 5 nd az))
    aM)
   (aq (aO (PW.pt (gw (aF aV (O 5) az (aH _)) (fu (aF (nA (gL hu)) (cy bj (O 3) ak) (bx aj) (aH _)))))
    (au (fN 5 nd az))
    aM)
   (aq (fN 10 nd (aD cN ak (aD cu (O 1) (aD cX (aD wI ak ak) ak))))
   (aq (aO (aF aV (O 5) az (aH _))
    (au (fN 10 nd (aD cX (aD cu (O 1) (aD cX (aD gM ak (aD wI ak ak)) ak)) (aD cX (aD wI ak ak) ak))))
    aM)
   (au (aC (bu (aa (O 5) (aa (O 10) (aa (O 6) (aa (O 7) (aa (aD fO (O 4) ak) aj))))))))))))))))))),?_⟩
 refine⟨_,Z,_,Z,c,kk,Z,Xc,G,fun m hm=>?_⟩;have OP:=AR m (show(11:Int)≠0 by decide);have W5:=BE m (show(0:Int)<11 by decide);obtain⟨HK,EC,Nn⟩:=Oa OP W5;refine⟨lk obz,fun q0 E8=>?_⟩;have s0:=aA (o:=.lst [V.str "take",V.str "give",V.str "lean",V.str "back",V.str "again",V.str "back",V.str "again",V.str "pour",V.str "keep",V.str "worlds",V.str "ask"]) E8;refine⟨_,Z,_,_,Z,Z,(by show(0:Int)<11;decide),q0,_,_,.str HK,Z,Z,b3.of ao,EC,?_⟩;generalize upd H q0 (.lst [V.str "take",V.str "give",V.str "lean",V.str "back",V.str "again",V.str "back",V.str "again",V.str "pour",V.str "keep",V.str "worlds",V.str "ask"])=H0 at s0 ⊢;refine⟨_,Z,_,Z,_,Z,_,_,Z,Z,c,kk+100,Z,G,G,fun m1 hm1=>⟨np,ns,m1,3,Z,s0 _ _ lT,h1,h8,b4,b4,fun vt tr H1 s1 ht hd hz hn=>?_⟩⟩;refine⟨_,Z,_,Z,_,Z,_,_,Z,Z,c,kk+200,Z,G,G,fun m2 qS=>⟨np,ns,m2,3,Z,s1 _ _ (s0 _ _ lT),h1,h8,b4,b4,fun vo tr2 H2 s2 ZK hd2 Ww BQ=>?_⟩⟩;have Uz:=(s0.trans s1).trans s2;have IA:=Uz _ _ lT;refine⟨_,Z,_,Z,np,vt,ns,tr,Z,IA,h8,ht.mono s2.tups,hd,hn,fun H3 s3=>?_⟩;have Zn:=Uz.trans s3;have Iy:=Zn _ _ lT;have ht3:=ht.mono (s2.trans s3).tups;have el:(ns.map V.str).length=ns.length:=dn _;have c1:oH 1 (((ns.map V.str).length:Nat):Int):=⟨G,by rw[el];exact G,b4⟩
 have c2:oH 1 ((1:Int)*2^(((ns.map V.str).length:Nat):Int).toNat):=by
  rw[el,EZ];exact⟨(EW h8).1,by have:=(EW h8).2;exact G,b4⟩
 have ef:(1:Int)*2^((1:Int)*2^(((ns.map V.str).length:Nat):Int).toNat).toNat-1=((cP ns.length:Nat):Int):=by
  rw[el,EZ,UC]
  rfl
 refine⟨_,Z,_,Z,np,_,Z,.inr (SqT.of Iy),_,_,Z,Z,c1,_,_,Z,Z,c2,_,_,Z,Z,?_⟩
 try dsimp -proj -iota only
 rw[ef];refine⟨Z,?_⟩;obtain⟨O_,SY⟩:∃ O_:Bool,decide (V.int ((aP ns tr:Nat):Int)=V.int ((cP ns.length:Nat):Int))=O_:=⟨_,rfl⟩
 rw[SY];have nS:qE (.str HK) [V.str "give",V.str "lost"]=decide (HK="give"):=gA (fun kd=>qE (.str kd) [V.str "give",V.str "lost"]==decide (kd="give")) dk Nn |> eq_of_beq
 have ha:O_=true↔aP ns tr=cP ns.length:=by
  rw[<- SY,xC];exact⟨fun z=>Int.ofNat.inj (V.int.inj z),fun z=>by rw[z]⟩
 have _p:∀{n:Nat},decide (V.int ((n:Nat):Int)=V.int 0)=true↔n=0:=fun {n}=>by
  rw[xC];exact⟨fun z=>Int.ofNat.inj (V.int.inj z),fun z=>by rw[z];rfl⟩
 apply Dc (fun M J=>∃ kd:Str,M=[some (.ref np),some (.int c),some (.int kk),some (.ref cl),some (.int m),some (.str kd),some vt,some vo,some (.int (aP ns tr:Nat)),some (.bl O_),none]/\bb H3 J/\xw ns tr 1 1 ["a"] kd)
 .intro g
  apply De (S:=HK="take"->aP ns tr≠0)
  .intro g2
   refine⟨_,Z,Z,_,Z,aN (fun z1=>?x1) (fun z1=>bz ?x2)⟩
   case x1 =>
    refine⟨_,Z,Z,_,Z,aN (fun z2=>bN ?y1) (fun z2=>?y2)⟩
    case y1 =>
     show Bv _ _ _ _ _;apply g;exact⟨"ask",Z,bb.refl _,tR⟩
    case y2 =>
     apply g2;exact fun _ z=>z2 (_p.mpr z)
   case x2=>exact g2 fun z=>absurd (cK (by rw[z])) z1
  intro hS;refine⟨_,Z,lk obz,fun q1 hq1=>⟨q1,_,Z,.inr (SqT.of ao),Z,Z,?_⟩⟩;have s4:=aA (o:=.tup [.str "give",.str "lost"]) hq1;generalize upd H3 q1 (.tup [.str "give",.str "lost"])=H4 at s4 ⊢;rw[bX jv,nS];apply De (S:=HK="give"->aP ns tr≠cP ns.length)
  .intro g3
   refine⟨_,Z,aN (fun z1=>?x1) (fun z1=>bz ?x2)⟩
   case x1 =>
    refine⟨_,Z,_,Z,aN (fun z2=>bN ?y1) (fun z2=>?y2)⟩
    case y1=>exact g _ _ ⟨"ask",rfl,s4,tR⟩
    case y2 =>
     apply g3;exact fun _ z=>z2 (ha.mpr z)
   case x2=>exact g3 fun z=>absurd (cK z) z1
  intro hG;refine⟨_,Z,Z,_,Z,aN (fun z1=>?x1) (fun z1=>bz ?x2)⟩
  case x1 =>
   have e1:HK="lean":=V.str.inj (eS z1);refine⟨_,Z,_,Z,aN (fun z2=>bN ?y1) (fun z2=>?y2)⟩
   case y1=>exact g _ _ ⟨"ask",rfl,s4,tR⟩
   case y2 =>
    refine⟨_,Z,Z,_,Z,aN (fun z3=>?w1) (fun z3=>?w2)⟩
    case w1=>exact g _ _ ⟨"ask",rfl,s4,tR⟩
    case w2=>exact g _ _ ⟨HK,rfl,s4,⟨Nn,hS,hG,fun _=>⟨fun z=>z3 (_p.mpr z),fun z=>z2 (ha.mpr z)⟩,fun _=>by decide,fun _=>by decide,fun _=>df _ _⟩⟩
  case x2 =>
   have e1:¬HK="lean":=fun z=>z1 (cK (by rw[z]))
   exact g _ _ ⟨HK,rfl,s4,⟨Nn,hS,hG,fun z=>absurd z e1,fun _=>by decide,fun _=>by decide,fun _=>df _ _⟩⟩
 rintro M H4 ⟨kd,rfl,s4,hV⟩;have Of:=Zn.trans s4;have UU:=ht3.mono s4.tups;have NC:=Of _ _ EA;have he4:=Of _ _ he;have cp:oH 10 30:=⟨b4,b4,b4⟩
 apply Dc (fun M J=>∃ kd:Str,M=[some (.ref np),some (.int c),some (.int kk),some (.ref cl),some (.int m),some (.str kd),some vt,some vo,some (.int (aP ns tr:Nat)),some (.bl O_),none]/\J=H4/\xw ns tr a b ["a"] kd)
 .intro g
  have wo:xw ns tr a b ["a"] "worlds":=⟨dk,fun z=>absurd z dk,fun z=>absurd z dk,fun z=>absurd z dk,fun z=>absurd z dk,fun z=>absurd z dk,fun z=>absurd z dk⟩
  have i0:∀{n:Int},decide (V.int n=V.int 0)=true↔n=0:=fun {n}=>by
   rw[xC];exact⟨fun z=>V.int.inj z,fun z=>by rw[z]⟩
  apply De (S:=kd="back"->a≠0)
  .intro g2
   refine⟨_,Z,Z,_,Z,aN (fun z1=>?x1) (fun z1=>bz ?x2)⟩
   case x1 =>
    refine⟨_,Z,cl,_,0,_,Z,Z,b3.of NC,Z,Z,_,Z,aN (fun z2=>bN ?y1) (fun z2=>?y2)⟩
    case y1 =>
     show Bv _ _ _ _ _;apply g;exact⟨"worlds",Z,Z,wo⟩
    case y2 =>
     apply g2;exact fun _ z=>z2 (i0.mpr z)
   case x2=>exact g2 fun z=>absurd (cK (by rw[z])) z1
  intro hB;refine⟨_,Z,Z,_,Z,aN (fun z1=>?x1) (fun z1=>bz ?x2)⟩
  case x1 =>
   refine⟨_,Z,cl,_,1,_,Z,Z,b3.of NC,Z,Z,_,Z,aN (fun z2=>?y1) (fun z2=>?y2)⟩
   case y1=>exact g _ _ ⟨"worlds",rfl,rfl,wo⟩
   case y2=>exact g _ _ ⟨kd,rfl,rfl,⟨hV.mem,hV.tk,hV.gv,hV.ln,hB,fun _ z=>z2 (i0.mpr z),hV.pr⟩⟩
  case x2=>exact g _ _ ⟨kd,rfl,rfl,⟨hV.mem,hV.tk,hV.gv,hV.ln,hB,fun z=>absurd (cK (by rw[z])) z1,hV.pr⟩⟩
 rintro M J ⟨kd,rfl,eH,hV⟩;have eH:=eH.symm;subst eH;apply Dc (fun M J=>∃ kd:Str,M=[some (.ref np),some (.int c),some (.int kk),some (.ref cl),some (.int m),some (.str kd),some vt,some vo,some (.int (aP ns tr:Nat)),some (.bl O_),none]/\bb H4 J/\xw ns tr a b kl kd)
 .intro g
  refine⟨_,Z,Z,_,Z,aN (fun z1=>?x1) (fun z1=>bz ?x2)⟩
  case x1 =>
   refine⟨_,Z,cl,_,2,_,Z,Z,b3.of NC,Z,lk obz,fun q1 hq1=>?_⟩;have s5:=aA (o:=.lst []) hq1;refine⟨e,q1,_,Z,Z,b3.of (s5 _ _ he4),b3.of ao,_,Z,aN (fun z2=>?y1) (fun z2=>?y2)⟩
   case y1 =>
    show Bv _ _ _ _ _;apply g;exact⟨"keep",Z,s5,⟨dk,fun z=>absurd z dk,fun z=>absurd z dk,fun z=>absurd z dk,fun z=>absurd z dk,fun z=>absurd z dk,fun z=>absurd z dk⟩⟩
   case y2=>exact g _ _ ⟨kd,rfl,s5,⟨hV.mem,hV.tk,hV.gv,hV.ln,hV.bk,hV.ag,fun _ z=>z2 (by rw[z];rfl)⟩⟩
  case x2=>exact g _ _ ⟨kd,rfl,bb.refl _,⟨hV.mem,hV.tk,hV.gv,hV.ln,hV.bk,hV.ag,fun z=>absurd (cK (by rw[z])) z1⟩⟩
 rintro M H6 ⟨kd,rfl,s6,hV⟩;have Of:=Of.trans s6;have UU:=UU.mono s6.tups;refine⟨_,Z,_,_,Z,Z,cp,_,_,Z,Z,_,_,Z,Z,(by show(0:Int)<10^(30:Int).toNat-1;decide),_,_,Z,Z,?_⟩
 try dsimp -proj -iota only
 have a0:=AR c (show(10:Int)^(30:Int).toNat-1≠0 by decide);have a1:=BE c (show(0:Int)<10^(30:Int).toNat-1 by decide);have TM:(10:Int)^(30:Int).toNat=10^30:=rfl;rw[TM]at a0 a1 ⊢;obtain⟨num,Iq⟩:∃ num,1+c%(10^30-1)=num:=⟨_,rfl⟩
 rw[Iq];refine⟨_,Z,Z,_,Z,aN (fun z=>?_) (fun z=>?_)⟩
 .have e1:kd="lean":=V.str.inj (eS z)
  refine⟨_,Z,_,_,Z,Z,cp,_,_,Z,Z,.inl ⟨b4,b4⟩,_,_,Z,Z,_,_,Z,Z,(by show(0:Int)<2*10^(30:Int).toNat-1;decide),_,_,Z,Z,cp,_,_,Z,Z,_,_,Z,Z,?_⟩
  try dsimp -proj -iota only
  have b0:=AR c (show(2:Int)*10^(30:Int).toNat-1≠0 by decide);have b1:=BE c (show(0:Int)<2*10^(30:Int).toNat-1 by decide);rw[TM]at b0 b1 ⊢;refine⟨_,Z,_,Z,_,Z,_,Z,_,Z,_,_,Z,Z,⟨b4,b4⟩,lk obz,fun q hq=>?_⟩;have s5:=aA (o:=.tup [.str kd,.int (c%(2*10^30-1)-(10^30-1)),vt,vo,.int (m/11)]) hq;exact k q vt vo tr kd _ _ _ (Of.trans s5) ao (UU.mono s5.tups) ⟨hd,G,hn⟩ hV (.inl ⟨e1,G,G⟩) G
 have e1:¬kd="lean":=fun e=>z (cK (by rw[e]))
 refine⟨_,Z,_,Z,_,Z,_,Z,_,Z,_,_,Z,Z,⟨b4,b4⟩,lk obz,fun q hq=>?_⟩;have s5:=aA (o:=.tup [.str kd,.int num,vt,vo,.int (m/11)]) hq;exact k q vt vo tr kd _ _ _ (Of.trans s5) ao (UU.mono s5.tups) ⟨hd,G,hn⟩ hV (.inr ⟨e1,G,G⟩) G
def WD:List Str:=["a","names","keepnowz","back","worlds"]
def eQ(m:Int):Str:=WD.getD (m%5).toNat "a"
theorem jM(m:Int):eQ m∈WD:=by
 have h0:=AR m (show(5:Int)≠0 by decide);have h1:=BE m (show(0:Int)<5 by decide);have h:(m%5).toNat<WD.length:=by show(m%5).toNat<5;exact G
 unfold eQ;rw[List.getD_eq_getElem?_getD,List.getElem?_eq_getElem h];exact fi h
inductive C1(vs:List V)(H:Hp)(Q:VK)(E:XK):Prop
 |mk(m:Int)(_:vs=[.int m])(_:∀ J,bb H J->Q (.str (eQ m)) J)
def yp(H:Hp)(u:V)(p:Int×Str):Prop:=∃ q,u=.ref q/\H q=some (.tup [.int p.1,.str p.2])
def j8(kl:List Str)(prs:List (Int×Str)):Prop:=1<=prs.length/\prs.length<=4/\∀ p∈prs,1<=p.1/\p.1<=1000003/\p.2∈kl
inductive FR(vs:List V)(H:Hp)(Q:VK)(E:XK):Prop
 |mk(l:Addr)(m:Int)(kl:List Str)(_:vs=[.int m,.ref l])(_:H l=some (.lst (kl.map V.str)))(_:kl≠[])(_:kl.length<=100)(_:0<=m)(_:∀(p:Addr)(us:List V)(prs:List (Int×Str))(J:Hp),bb H J->H p=none->J p=some (.lst us)->Paired (yp J) us prs->j8 kl prs->Q (.ref p) J)
def cH(kd:Str)(a b:Int)(kl:List Str)(i:Int):Int×Int×List Str:=if kd∈(["take","give","lean","pour"]:List Str)then(a+1,0,kl)else if kd="back" then(a-1,b+1,kl)else if kd="again" then(a+1,b-1,kl)else if kd="keep"/\eQ i∉kl then(a,b,kl++[eQ i])else(a,b,kl)
inductive BB(vs:List V)(H:Hp)(Q:VK)(E:XK):Prop
 |mk(cl q e:Addr)(a b i:Int)(kl:List Str)(kd:Str)(u1 u2 u3:V)(_:vs=[.ref cl,.ref q])(_:H cl=some (.lst [.int a,.int b,.ref e]))(_:H e=some (.lst (kl.map V.str)))(_:kl.length<=100)(_:H q=some (.tup [.str kd,u1,u2,u3,.int i]))(_:kd∈VB)(_:∀(O0 e':Addr)(J:Hp),bb H J->J O0=some (.lst [.int (cH kd a b kl i).1,.int (cH kd a b kl i).2.1,.ref e'])->J e'=some (.lst ((cH kd a b kl i).2.2.map V.str))->(O0=cl\/H O0=none)->(e'=e\/H e'=none)->Q (.ref O0) J)
structure Pl where
 (kd:Str) (num:Int) (tr:Tr) (i:Int) (prs:List (Int×Str))
def i6(no:Addr)(H:Hp)(v:V)(x:Pl):Prop:=∃(q pa:Addr)(vt vo:V)(us:List V),v=.ref q/\H q=some (.tup [.str x.kd,.int x.num,vt,vo,.int x.i,.ref pa])/\eD H vt x.tr/\H pa=some (.lst us)/\Paired (yp H) us x.prs/\pa≠no
theorem i6.mono{no:Addr}{H J:Hp}(s:bb H J){v:V}{x:Pl}(h:i6 no H v x):i6 no J v x:=by
 obtain⟨q,pa,vt,vo,us,e,h1,h2,h3,h4,h5⟩:=h;exact⟨q,pa,vt,vo,us,e,s _ _ h1,h2.mono s.tups,s _ _ h3,Paired.iA h4 fun _ _ ⟨q,e,h⟩=>⟨q,e,s _ _ h⟩,h5⟩
theorem i6.upd{no:Addr}{H:Hp}{ys:List V}(hn:H no=some (.lst ys)){o:HO}{v:V}{x:Pl}(h:i6 no H v x):i6 no (upd H no o) v x:=by
 obtain⟨q,pa,vt,vo,us,e,h1,h2,h3,h4,h5⟩:=h;have T:gc H (L2.upd H no o):=fun b xs eb=>by rw[aB (aZ eb hn)];exact eb
 exact⟨q,pa,vt,vo,us,e,T _ _ h1,h2.mono T,by rw[aB h5];exact h3,Paired.iA h4 fun _ _ ⟨q,e,h⟩=>⟨q,e,T _ _ h⟩,h5⟩
inductive oQ(ns:List Str):Int->Int->List Str->List Pl->Prop
 |nil (a b:Int) (kl:List Str):oQ ns a b kl []
 |cons {a b:Int} {kl:List Str} {x:Pl} {r:List Pl}:Cb ns x.tr->xw ns x.tr a b kl x.kd->Cc x.kd x.num->0<=x.i->(kl≠[]->j8 kl x.prs)->oQ ns (cH x.kd a b kl x.i).1 (cH x.kd a b kl x.i).2.1 (cH x.kd a b kl x.i).2.2 r->oQ ns a b kl (x::r)
def md(a b:Int)(kl:List Str):List Pl->Int×Int×List Str
 |[]=>(a,b,kl)
 |x::r=>md (cH x.kd a b kl x.i).1 (cH x.kd a b kl x.i).2.1 (cH x.kd a b kl x.i).2.2 r
theorem vC:∀{pls:List Pl}{a b:Int}{kl:List Str}{x:Pl},md a b kl (pls++[x])=cH x.kd (md a b kl pls).1 (md a b kl pls).2.1 (md a b kl pls).2.2 x.i
 |[],_,_,_,_=>rfl
 |_::r,_,_,_,_=>vC (pls:=r)
theorem yq{ns:List Str}:∀{pls:List Pl}{a b:Int}{kl:List Str}{x:Pl},oQ ns a b kl pls->Cb ns x.tr->xw ns x.tr (md a b kl pls).1 (md a b kl pls).2.1 (md a b kl pls).2.2 x.kd->Cc x.kd x.num->0<=x.i->((md a b kl pls).2.2≠[]->j8 (md a b kl pls).2.2 x.prs)->oQ ns a b kl (pls++[x])
 |[],_,_,_,_,_,h1,h2,h3,h4,h5=>.cons h1 h2 h3 h4 h5 (.nil _ _ _)
 |_::_,_,_,_,_,.cons g1 g2 g3 g4 g5 g6,h1,h2,h3,h4,h5=>.cons g1 g2 g3 g4 g5 (yq g6 h1 h2 h3 h4 h5)
theorem Oc(kd:Str)(a b:Int)(kl:List Str)(i:Int):(cH kd a b kl i).2.2.length<=kl.length+1:=by
 unfold cH
 repeat' split
 all_goals (try rw[af])<;>simp
inductive FK(K:W.Frag)(vs:List V)(H:Hp)(Q:VK)(E:XK):Prop
 |mk(np l:Addr)(ns:List Str)(cs:List Int)(_:vs=[.ref np,.ref l])(_:H np=some (.tup (ns.map V.str)))(_:1<=ns.length)(_:ns.length<=8)(_:H l=some (.lst (cs.map V.int)))(_:cs.length<=90)(_:∀(p:Addr)(us:List V)(pls:List Pl)(J:Hp),bb H J->J p=some (.lst us)->Paired (i6 p J) us pls->oQ ns 0 0 [] pls->pls.length=cs.length->Q (.ref p) J)
theorem Bo(x:Str):∀ kl:List Str,qE (.str x) (kl.map V.str)=decide (x∈kl)
 |[]=>rfl
 | y::r=>by
  show(mw (.str y) (.str x)||qE (.str x) (r.map V.str))=_;rw[Bo x r]
  by_cases e:x=y
  .rw[cK (show x∈y::r by rw[e];exact qms),e]
   have:mw (.str y) (.str y)=true:=by simp[mw]
   rw[this];rfl
  have h:mw (.str y) (.str x)=false:=by simp[mw];exact fun z=>e z.symm
  rw[h,Bool.false_or]
  by_cases m:x∈r
  .rw[cK m,cK (k_ _ m)]
  rw[gX m,gX fun z=>(ai.mp z).elim e m]
theorem pJ(T:Txt P w K mg t):FM P w base T.q102 1 C1:=by
 refine T.q102.F.fk (N:=["_law_m"]) eP ?_;rintro nd _ _ _ _ _ _ _ _ hr ⟨m,rfl,k⟩;refine⟨_,(au (aC (cy bj (bx (aa az (aa az (aa az (aa az (aa az aj)))))) (aD cu (O 0) ak)))),?_⟩;have h0:=AR m (show(5:Int)≠0 by decide);have h1:=BE m (show(0:Int)<5 by decide);refine⟨lk obz,fun q hq=>⟨_,Z,_,_,Z,Z,(by show(0:Int)<5;decide),q,_,_,.str (eQ m),Z,Z,b3.of ao,?_,k _ (aA hq)⟩⟩;have h:(m%5).toNat<WD.length:=by show(m%5).toNat<5;exact G
 obtain⟨n,hn⟩:∃ n:Nat,m%5=(n:Int):=⟨(m%5).toNat,G⟩
 have h:n<WD.length:=by show n<5;exact G
 show sR (WD.map V.str) _=_;unfold eQ;rw[hn,bq];refine bh (j:=n) ?_;rw[lS,List.getD_eq_getElem?_getD,List.getElem?_eq_getElem h]
 rfl
theorem Ky(T:Txt P w K mg t):FM P w base T.q103 1 FR:=by
 refine T.q103.F.fk (N:=["_law_m","_law_kept"]) eP ?_;rintro nd _ _ _ _ H _ _ _ hr ⟨l,m,kl,rfl,hl,hne,BU,hm,k⟩;refine⟨_,(au (aC (bM rfl ["_law_k","_law_kept","_law_m"] [none,some 1,some 0] (gF T.zp (aa (aD cN ak (aD cu (ja 0) ak)) aj)) gT (fun _ _ _ _ _ _=>(iq 0 (kG (l:=["_law_k","_law_kept","_law_m"])))) (fun _ _ _ _ _ _=>bV) (fun _ _ _ _ _ _=>(bu (aa (aD cN ak (aD cu (aD fO (ja 2) (aD cN (O 0) ak)) ak)) (aa (cy (Il (K:=K)) (ja 1) (aD cu (aD fO (ja 2) (aD cN (aD gM ak (O 0)) ak)) (aY (vO (K:=K)) T.zd Bt.len (aa (ja 1) aj)))) aj))))))),?_⟩;have a0:=AR m (show(4:Int)≠0 by decide);have a1:=BE m (show(0:Int)<4 by decide);have KL:0<kl.length:=vi.mpr hne;have el:(kl.map V.str).length=kl.length:=dn _;refine⟨_,Z,_,_,Z,Z,(by show(0:Int)<4;decide),_,_,Z,Z,_,Z,by show(-(2^62):Int)<=1+m%4;exact G,by show(1+m%4:Int)<2^62;exact G,?_⟩;refine jR (lo:=0) (n:=(1+m%4).toNat) (fun i ys J=>bb H J/\∃ prs,Paired (yp J) ys prs/\prs.length=i/\∀ p∈prs,1<=p.1/\p.1<=1000003/\p.2∈kl) ⟨bb.refl _,[],.nil,rfl,fun p hp=>nomatch hp⟩ (lk G) (fun i ys J ⟨_,prs,e,e2,_⟩=>by rw[a_ e,e2];exact qnr _) ?_ ?_
 .rintro i ys H1 hi ⟨s1,prs,hP,hlen,hok⟩
  refine⟨⟨Z,Z,trivial⟩,?_⟩;have b0:=AR (m/(5*(0+(i:Int))+2)) (show((kl.length:Nat):Int)≠0 by omega);have b1:=BE (m/(5*(0+(i:Int))+2)) (show(0:Int)<((kl.length:Nat):Int)by omega);obtain⟨n,hn⟩:∃ n:Nat,m/(5*(0+(i:Int))+2)%((kl.length:Nat):Int)=(n:Int):=⟨(m/(5*(0+(i:Int))+2)%((kl.length:Nat):Int)).toNat,G⟩
  have Kn:n<kl.length:=G
  have c0:=AR (m/(0+(i:Int)+3)) (show(1000003:Int)≠0 by decide);have c1:=BE (m/(0+(i:Int)+3)) (show(0:Int)<1000003 by decide);refine⟨_,Z,_,Z,_,_,Z,Z,_,_,Z,Z,⟨by show(0:Int)<0+(i:Int)+3;exact G,by show 0+(i:Int)+3<1073741824;exact G⟩,_,_,Z,Z,(by show(0:Int)<1000003;decide),_,_,Z,Z,?_⟩;refine⟨_,Z,_,Z,_,Z,_,_,Z,Z,.inl ⟨b4,b4⟩,_,_,Z,Z,_,_,Z,Z,⟨by show(0:Int)<5*(0+(i:Int))+2;exact G,by show 5*(0+(i:Int))+2<1073741824;exact G⟩,_,Z,l,_,Z,.inl (b3.of (s1 _ _ hl)),_,_,Z,Z,(by show(0:Int)<(((kl.map V.str).length:Nat):Int);rw[el];exact G),l,_,_,.str kl[n],Z,Z,b3.of (s1 _ _ hl),?_,lk obz,fun q hq=>?_⟩
  .rw[el,hn]
   refine bh (j:=n) ?_;rw[lS,List.getElem?_eq_getElem Kn]
   rfl
  have s2:=aA (o:=.tup [.int (1+m/(0+(i:Int)+3)%1000003),.str kl[n]]) hq;refine⟨s1.trans s2,prs++[(1+m/(0+(i:Int)+3)%1000003,kl[n])],bJ (Paired.iA hP fun _ _ ⟨q,e,h⟩=>⟨q,e,s2 _ _ h⟩) (.cons ⟨q,Z,ao⟩ .nil),by rw[af,hlen];rfl,fun p hp=>?_⟩;rcases aT.mp hp with hp|hp
  .exact hok p hp
  rw[aI.mp hp];exact⟨by show 1<=1+m/(0+(i:Int)+3)%1000003;exact G,by show 1+m/(0+(i:Int)+3)%1000003<=1000003;exact G,fi Kn⟩
 rintro ys H1 ⟨s1,prs,hP,hlen,hok⟩ p hp;have s2:=aA (o:=.lst ys) hp;exact k p ys prs _ (s1.trans s2) (s1.free hp) ao (Paired.iA hP fun _ _ ⟨q,e,h⟩=>⟨q,e,s2 _ _ h⟩) ⟨G,G,hok⟩
theorem Hh:ck ["_law_counts","_law_plan"] ["_law_counts","_law_plan"] (aR Jr):=eP
theorem Dt(T:Txt P w K mg t):FM P w base T.q104 2 BB:=by
 refine T.q104.F.fk (k:=1) Hh ?_;rintro nd _ _ _ _ H _ _ _ hr ⟨cl,q,e,a,b,i,kl,kd,u1,u2,u3,rfl,EA,he,BU,hq,U_,k⟩
 refine⟨_,(aq (aO (aF fX (cy aJ (O 1) ak) (bu (aa az (aa az (aa az (aa az aj))))) ou)
    (au (aC (bx (aa (aD cN (cy bj (O 0) ak) ak) (aa ak (aa (cy bj (O 0) ak) aj))))))
    aM)
   (aq (aO (aF aV (cy aJ (O 1) ak) az (aH _))
    (au (aC (bx (aa (aD cX (cy bj (O 0) ak) ak) (aa (aD cN (cy bj (O 0) ak) ak) (aa (cy bj (O 0) ak) aj))))))
    aM)
   (aq (aO (aF aV (cy aJ (O 1) ak) az (aH _))
    (au (aC (bx (aa (aD cN (cy bj (O 0) ak) ak) (aa (aD cX (cy bj (O 0) ak) ak) (aa (cy bj (O 0) ak) aj))))))
    aM)
   (aq (aO (PW.pt (gw (aF aV (cy aJ (O 1) ak) az (aH _)) (fu (aF oO (eI T.q102 (pJ T) hr aK (aa (cy aJ (O 1) ak) aj)) (cy bj (O 0) ak) ou))))
    (au (aC (bx (aa (cy bj (O 0) ak) (aa (cy bj (O 0) ak) (aa (aD oR (cy bj (O 0) ak) (bx (aa (eI T.q102 (pJ T) hr aK (aa (cy aJ (O 1) ak) aj)) aj))) aj))))))
    aM)
   (au (aC (O 0))))))),?_⟩
 have nS:qE (.str kd) [V.str "take",V.str "give",V.str "lean",V.str "pour"]=decide (kd∈(["take","give","lean","pour"]:List Str)):=gA (fun kd=>qE (.str kd) [V.str "take",V.str "give",V.str "lean",V.str "pour"]==decide (kd∈(["take","give","lean","pour"]:List Str))) dk U_ |> eq_of_beq
 refine⟨_,Z,q,_,0,.str kd,Z,Z,SqT.of hq,bh (j:=0) rfl,lk obz,fun q1 hq1=>⟨q1,_,Z,.inr (SqT.of ao),Z,Z,?_⟩⟩;have s1:=aA (o:=.tup [.str "take",.str "give",.str "lean",.str "pour"]) hq1;generalize upd H q1 (.tup [.str "take",.str "give",.str "lean",.str "pour"])=H1 at s1 ⊢;have ox:=s1 _ _ EA;have xi:=s1 _ _ hq;have AV:=s1 _ _ he;rw[bX jv,nS];unfold cH at k;refine⟨_,Z,aN (fun z=>?_) (fun z=>?_)⟩
 .rw[qp (eS z)]at k
  refine⟨_,Z,cl,_,0,_,Z,Z,b3.of ox,Z,_,_,Z,Z,_,Z,cl,_,2,_,Z,Z,b3.of ox,Z,lk obz,fun c2 m_=>?_⟩;exact k c2 e _ (s1.trans (aA m_)) ao (aA m_ _ _ AV) (.inr (s1.free m_)) (.inl rfl)
 rw[bX (fun h=>z (cK h))]at k;refine⟨_,Z,q,_,0,_,Z,Z,SqT.of xi,bh (j:=0) rfl,Z,_,Z,aN (fun z=>?_) (fun z=>?_)⟩
 .rw[qp (V.str.inj (eS z))]at k
  refine⟨_,Z,cl,_,0,_,Z,Z,b3.of ox,Z,_,_,Z,Z,_,Z,cl,_,1,_,Z,Z,b3.of ox,Z,_,_,Z,Z,_,Z,cl,_,2,_,Z,Z,b3.of ox,Z,lk obz,fun c2 m_=>?_⟩;exact k c2 e _ (s1.trans (aA m_)) ao (aA m_ _ _ AV) (.inr (s1.free m_)) (.inl rfl)
 rw[bX (fun h=>z (cK (by rw[h])))]at k;refine⟨_,Z,q,_,0,_,Z,Z,SqT.of xi,bh (j:=0) rfl,Z,_,Z,aN (fun z=>?_) (fun z=>?_)⟩
 .rw[qp (V.str.inj (eS z))]at k
  refine⟨_,Z,cl,_,0,_,Z,Z,b3.of ox,Z,_,_,Z,Z,_,Z,cl,_,1,_,Z,Z,b3.of ox,Z,_,_,Z,Z,_,Z,cl,_,2,_,Z,Z,b3.of ox,Z,lk obz,fun c2 m_=>?_⟩;exact k c2 e _ (s1.trans (aA m_)) ao (aA m_ _ _ AV) (.inr (s1.free m_)) (.inl rfl)
 rw[bX (fun h=>z (cK (by rw[h])))]at k;refine⟨_,Z,q,_,0,_,Z,Z,SqT.of xi,bh (j:=0) rfl,Z,_,Z,aN (fun z=>?_) (fun z=>bz ?_)⟩
 .have ek:kd="keep":=V.str.inj (eS z)
  refine⟨_,Z,q,_,4,_,Z,Z,SqT.of xi,bh (j:=4) rfl,i,Z,fun H2 s2=>?_⟩;refine⟨_,Z,cl,_,2,_,Z,Z,b3.of (s2 _ _ ox),Z,e,_,Z,.inl (b3.of (s2 _ _ AV)),Z,tK kl,_,Z,?_⟩;rw[qp rfl,Bo];refine aN (fun z=>?_) (fun z=>?_)
  .have z:¬eQ i∈kl:=fun h=>by rw[cK h]at z;cases z
   rw[qp ⟨ek,z⟩]at k;refine⟨_,Z,cl,_,0,_,Z,Z,b3.of (s2 _ _ ox),Z,_,Z,cl,_,1,_,Z,Z,b3.of (s2 _ _ ox),Z,_,Z,cl,_,2,_,Z,Z,b3.of (s2 _ _ ox),Z,?_⟩;refine⟨_,Z,q,_,4,_,Z,Z,SqT.of (s2 _ _ xi),bh (j:=4) rfl,i,Z,fun H3 s3=>⟨lk obz,fun l1 ow=>?_⟩⟩;have s4:=aA (o:=.lst [.str (eQ i)]) ow;refine⟨e,l1,_,_,Z,Z,s4 _ _ (s3 _ _ (s2 _ _ AV)),ao,lk (by rw[dn];show kl.length+1<=1000;exact G),fun e2 IE=>⟨lk obz,fun c2 m_=>?_⟩⟩;have s5:=aA (o:=.lst (kl.map V.str++[.str (eQ i)])) IE;have s6:=aA (o:=.lst [.int a,.int b,.ref e2]) m_;have L6:=((s1.trans s2).trans s3).trans s4;exact k c2 e2 _ ((L6.trans s5).trans s6) ao (by rw[ar];exact s6 _ _ ao) (.inr ((L6.trans s5).free m_)) (.inr (L6.free IE))
  rw[bX (fun h=>z (by rw[gX h.2];rfl))]at k;exact⟨_,Z,k cl e _ (s1.trans s2) (s2 _ _ ox) (s2 _ _ AV) (.inl rfl) (.inl rfl)⟩
 rw[bX (fun h=>z (cK (by rw[h.1])))]at k;exact⟨_,Z,k cl e _ s1 ox AV (.inl rfl) (.inl rfl)⟩
theorem Od:ck ["_law_names","_law_cells","_law_plans","_law_counts","_law_k","_law_cell","_law_plan"] ["_law_names","_law_cells"] (aR Js):=eP
theorem Kz(T:Txt P w K mg t):FM P w base T.q105 8 (FK K):=by
 refine T.q105.F.fk (k:=7) Od ?_;rintro nd _ _ _ _ H _ _ _ hr ⟨np,l,ns,cs,rfl,lT,h1,h8,hl,_m,k⟩;have hu:=fc hr
 refine⟨_,(aq (fN 2 nd (bx aj))
   (aq (fN 3 nd (bx (aa ak (aa ak (aa (bx aj) aj)))))
   (aq (fM l_ rfl (Le (O 1) T.zw) (oG (n:=2) rfl (bH (iq 4 nd) (bH (iq 5 nd) dI)))
    (aq (fN 6 nd (eI T.q101 (Ob T) hr aK (aa (O 0) (aa (O 5) (aa (O 4) (aa (O 3) aj))))))
    (aq (bw (bY PySem.F.plainAttrs_list PySem.F.slot_list_append PySem.F.type_list_append cD (O 2) (aa (aD Mi (O 6) (bu (aa (eI T.q103 (Ky T) hr aK (aa (cy aJ (O 6) ak) (aa (aD oR (cy bj (O 3) ak) (aD El (bx (aa az aj)) (c7 uI T.zL Bt.int (aa (cM (nA (gL hu)) (cy bj (O 3) ak) (bx aj) (aH _)) aj)))) aj))) aj))) aj)))
    (au (fN 3 nd (eI T.q104 (Dt T) hr aK (aa (O 3) (aa (O 6) aj))))))))
   (au (aC (O 2)))))),?_⟩
 refine⟨lk obz,fun pl ij=>⟨lk obz,fun e he=>⟨lk obz,fun cl EA=>?_⟩⟩⟩;have u1:=aA (o:=.lst []) ij;have u2:=aA (o:=.lst []) he;have u3:=aA (o:=.lst [.int 0,.int 0,.ref e]) EA;have s3:=(u1.trans u2).trans u3;have Sb:=u3 _ _ (u2 _ _ (show(upd H pl (.lst [])) pl=some (.lst [])from ao));have Z_:=u3 _ _ (show(upd (upd H pl (.lst [])) e (.lst [])) e=some (.lst [])from ao);have SS:(upd (upd (upd H pl (.lst [])) e (.lst [])) cl (.lst [.int 0,.int 0,.ref e])) cl=_:=ao;have npe:e≠pl:=aS (aG ao he);have npc:cl≠pl:=aS (aG (u2 _ _ ao) EA);generalize upd (upd (upd H pl (.lst [])) e (.lst [])) cl (.lst [.int 0,.int 0,.ref e])=H0 at s3 Sb Z_ SS ⊢;have SD:=s3 _ _ hl
 refine⟨_,rfl,l,rfl,⟨_,b3.of SD⟩,Ir (K:=K) (a:=l) (xs:=cs.map V.int)
  (fun i M J=>E7 fun(o4 o5 o6:Option V)(cl e:Addr)(us:List V)(pls:List Pl)=>C11 (M=[some (.ref np),some (.ref l),some (.ref pl),some (.ref cl),o4,o5,o6]) (bb H J) (J pl=some (.lst us)) (J e=some (.lst ((md 0 0 [] pls).2.2.map V.str))) (J cl=some (.lst [.int (md 0 0 [] pls).1,.int (md 0 0 [] pls).2.1,.ref e])) (cl≠pl) (e≠pl) (Paired (i6 pl J) us pls) (oQ ns 0 0 [] pls) (pls.length=i) ((md 0 0 [] pls).2.2.length<=i))
  ⟨none,none,none,cl,e,[],[],rfl,s3,Sb,Z_,SS,npc,npe,.nil,.nil _ _ _,rfl,qnr _⟩ (fun i M J _ ⟨_,_,_,_,_,_,_,_,s',_,_,_,_,_,_,_,_,_⟩=>b3.of (s' _ _ hl)) ?_ ?_⟩
 .rintro i y M H1 hi ⟨o4,o5,o6,cl,e,us,pls,rfl,s1,hp1,AV,y3,Xn,Xj,hP,hok,hlen,KL⟩ d hd
  have hi90:i<90:=by
   have:=(List.getElem?_eq_some_iff.mp hi).1;rw[dn]at this;exact G
  rw[lS]at hi
  obtain⟨c,hc,rfl⟩:∃ c,cs[i]?=some c/\y=V.int c:=by
   cases q:cs[i]? with
   |none=>rw[q]at hi;cases hi
   |some c=>rw[q]at hi;exact⟨c,Z,(kF hi).symm⟩
  obtain⟨a,ha⟩:∃ a,(md 0 0 [] pls).1=a:=⟨_,rfl⟩
  obtain⟨b,hb⟩:∃ b,(md 0 0 [] pls).2.1=b:=⟨_,rfl⟩
  obtain⟨kl,hk⟩:∃ kl,(md 0 0 [] pls).2.2=kl:=⟨_,rfl⟩
  rw[ha,hb]at y3;rw[hk]at AV KL;have v1:=aA (o:=.tup [.int i,.int c]) hd;refine⟨d,_,Z,SqT.of ao,Z,_,_,Z,_,_,Z,Z,?_⟩;generalize upd H1 d (.tup [.int i,.int c])=H2 at v1 ⊢;refine⟨_,Z,_,Z,_,Z,_,Z,np,cl,e,ns,kl,c,i,a,b,Z,v1 _ _ (s1 _ _ lT),h1,h8,G,G,v1 _ _ y3,v1 _ _ AV,fun q vt vo tr kd num m5 H3 s3 hq ht hT hV hN OP=>?_⟩;have v3:=v1.trans s3;have t9:us.length=i:=by rw[a_ hP,hlen]
  refine⟨_,Z,.inl ⟨Z,_,b3.of (v3 _ _ hp1)⟩,_,Z,_,Z,q,_,4,_,Z,Z,SqT.of hq,Z,_,Z,cl,_,2,_,Z,Z,b3.of (v3 _ _ y3),Z,lk obz,fun la W9=>?_⟩;have v4:=aA (o:=.lst [.str "a"]) W9;refine⟨_,Z,cl,_,2,_,Z,Z,b3.of (v4 _ _ (v3 _ _ y3)),Z,lk obz,fun lb hlb=>?_⟩;have v5:=aA (o:=.lst []) hlb
  obtain⟨z,ex,hz,hz0,UO,WM,OM,hex,OC⟩:∃(z:Int) (ex:List Str),(if id (kl.map V.str).isEmpty=true then(1:Int)else 0)=z/\0<=z/\z<=1/\(List.replicate z.toNat [V.str "a"]).flatten=ex.map V.str/\kl++ex≠[]/\(kl≠[]->ex=[])/\ex.length<=1:=by
   cases kl with
   |nil=>exact⟨1,["a"],Z,b4,b4,Z,df _ _,fun z=>absurd rfl z,qnr _⟩
   |cons x r=>exact⟨0,[],Z,b4,b4,Z,(fun z=>nomatch z),(fun _=>rfl),mr _⟩
  refine⟨e,lb,_,Z,Z,b3.of (v5 _ _ (v4 _ _ (v3 _ _ AV))),b3.of ao,.inr ⟨_,Z,la,z,_,Z,b_ V.int hz,v5 _ _ ao,G,G,lk (by show 1*z.toNat<=1000;exact G),fun lc yB=>?_⟩⟩;rw[WM]at *;have v6:=aA (o:=.lst (ex.map V.str)) yB;refine⟨e,lc,_,_,Z,Z,v6 _ _ (v5 _ _ (v4 _ _ (v3 _ _ AV))),ao,lk (by rw[dn,dn];exact G),fun ld U'=>?_⟩;have v7:=aA (o:=.lst (kl.map V.str++ex.map V.str)) U';refine⟨ld,m5,kl++ex,Z,by rw[ar];exact ao,OM,by rw[af];exact G,OP,fun pa ws prs H4 s4 UY UZ xk D5=>⟨lk obz,fun qe hqe=>?_⟩⟩;have v8:=aA (o:=.tup [.ref pa]) hqe;have w3:bb H3 _:=((v4.trans v5).trans v6).trans v7;have w4:=w3.trans s4;have w5:=w4.trans v8;refine⟨q,qe,_,_,Z,Z,SqT.of (w5 _ _ hq),SqT.of ao,df _ _,lk obz,(fun z=>absurd z (df _ _)),fun _ qf hqf=>?_⟩;have v9:=aA (o:=.tup ([.str kd,.int num,vt,vo,.int m5]++[.ref pa])) hqf;have w6:=w5.trans v9;have Zd:=v8.trans v9;have RR:(upd (upd H4 qe (.tup [.ref pa])) qf (.tup ([.str kd,.int num,vt,vo,.int m5]++[.ref pa]))) qf=some (.tup [.str kd,.int num,vt,vo,.int m5,.ref pa]):=ao;have Se:=Zd _ _ UZ;have Kk:Paired (yp (upd (upd H4 qe (.tup [.ref pa])) qf (.tup ([.str kd,.int num,vt,vo,.int m5]++[.ref pa])))) ws prs:=Paired.iA xk fun _ _ ⟨q,e,h⟩=>⟨q,e,Zd _ _ h⟩
  have npa:pa≠pl:=aS (aG (w3 _ _ (v3 _ _ hp1)) UY);generalize upd (upd H4 qe (.tup [.ref pa])) qf (.tup ([.str kd,.int num,vt,vo,.int m5]++[.ref pa]))=H5 at w6 RR Se Kk ⊢;have x5:=v3.trans w6;have U0:=x5 _ _ hp1;refine⟨pl,_,_,Z,Z,U0,cO G,?_⟩;have T5:gc H5 (upd H5 pl (.lst (us++[.ref qf]))):=fun b xs eb=>by rw[aB (aZ eb U0)];exact eb
  have _b:(upd H5 pl (.lst (us++[.ref qf]))) cl=some (.lst [.int a,.int b,.ref e]):=by rw[aB Xn];exact x5 _ _ y3
  have Z':(upd H5 pl (.lst (us++[.ref qf]))) e=some (.lst (kl.map V.str)):=by rw[aB Xj];exact x5 _ _ AV
  have UX:(upd H5 pl (.lst (us++[.ref qf]))) q=some (.tup [.str kd,.int num,vt,vo,.int m5]):=T5 _ _ (w6 _ _ hq);have OI:(upd H5 pl (.lst (us++[.ref qf]))) pl=some (.lst (us++[.ref qf])):=ao;have s6:bb H (upd H5 pl (.lst (us++[.ref qf]))):=fun b o eb=>by rw[aB (aG eb ij)];exact x5 _ _ (s1 _ _ eb)
  have _g:Paired (i6 pl (upd H5 pl (.lst (us++[.ref qf])))) (us++[.ref qf]) (pls++[⟨kd,num,tr,m5,prs⟩]):=bJ (Paired.iA hP fun _ _ z=>(z.mono x5).upd U0) (.cons (i6.upd U0 ⟨qf,pa,vt,vo,ws,rfl,RR,ht.mono w6.tups,Se,Kk,npa⟩) .nil);generalize upd H5 pl (.lst (us++[.ref qf]))=H6 at _b Z' UX OI s6 _g ⊢;refine⟨_,Z,_,Z,cl,q,e,a,b,m5,kl,kd,_,_,_,Z,_b,Z',G,UX,hV.mem,fun O0 e' H7 s7 hc7 he7 Xg Xi=>?_⟩;have ee:md 0 0 [] (pls++[⟨kd,num,tr,m5,prs⟩])=cH kd a b kl m5:=by rw[vC,ha,hb,hk]
  refine⟨_,_,_,O0,e',us++[.ref qf],pls++[⟨kd,num,tr,m5,prs⟩],Z,s6.trans s7,s7 _ _ OI,by rw[ee];exact he7,by rw[ee];exact hc7,?_,?_,Paired.iA _g fun _ _ z=>z.mono s7,?_,by rw[af,hlen];rfl,?_⟩
  .rcases Xg with z|z
   .rw[z];exact Xn
   exact aS (aG OI z)
  .rcases Xi with z|z
   .rw[z];exact Xj
   exact aS (aG OI z)
  .refine yq hok hT ?_ hN OP ?_
   .rw[ha,hb,hk];exact hV
   rw[hk];intro hne;rw[hex hne,cn]at D5;exact D5
  rw[ee];have:=Oc kd a b kl m5;exact G
 rintro M H1 ⟨o4,o5,o6,cl,e,us,pls,rfl,s1,hp1,AV,y3,Xn,Xj,hP,hok,hlen,_⟩;rw[dn]at hlen;exact⟨_,Z,k pl us pls H1 s1 hp1 hP hok hlen⟩
theorem rD{c:Nat}:∀{u:List Nat},c∉u->∀ v,cT c (u++c::v)=u/\cI c (u++c::v)=v
 |[],_,v=>⟨qp rfl,qp rfl⟩
 | d::u,h,v=>by
  have hd:¬d=c:=fun e=>h (by rw[e];exact qms)
  obtain⟨h1,h2⟩:=rD (u:=u) (fun z=>h (k_ _ z)) v;refine⟨?_,?_⟩
  .show(if d=c then []else d::cT c (u++c::v))=_
   rw[bX hd,h1]
  show(if d=c then _ else cI c (u++c::v))=_;rw[bX hd,h2]
theorem rE{c:Nat}:∀{u:List Nat},c∉u->cT c u=u/\cI c u=[]
 |[],_=>⟨rfl,rfl⟩
 | d::u,h=>by
  have hd:¬d=c:=fun e=>h (by rw[e];exact qms)
  obtain⟨h1,h2⟩:=rE (u:=u) (fun z=>h (k_ _ z));refine⟨?_,?_⟩
  .show(if d=c then []else d::cT c u)=_
   rw[bX hd,h1]
  show(if d=c then _ else cI c u)=_;rw[bX hd,h2]
theorem Du{l:List Nat}(h:¬l.head?=some 32):l.dropWhile (· == 32)=l:=by
 cases l with
 |nil=>rfl
 | cons c l =>
  rw[List.dropWhile_cons,bX];intro e;exact h (by rw[List.head?_cons,eq_of_beq e])
theorem yr{l:List Nat}(h:x.cps.toList=l):lB l=x:=lC (by rw[GK,h])
theorem Bp:(" ":Str).cps.toList=[32]:=by rw[pG]
theorem gW{u v:Str}(h:32∉u.cps.toList)(hv:¬v.cps.toList.head?=some 32):cQ (u++" "++v)=u/\bW (u++" "++v)=v:=by
 have e:(u++" "++v:Str).cps.toList=u.cps.toList++32::v.cps.toList:=by
  rw[cY,cY,Bp];simp
 unfold cQ bW;rw[e,(rD h _).1,(rD h _).2,Du hv];exact⟨yr rfl,yr rfl⟩
theorem Hi{u:Str}(h:32∉u.cps.toList):cQ u=u/\bW u="":=by
 unfold cQ bW;rw[(rE h).1,(rE h).2];exact⟨yr rfl,Z⟩
structure Clean(p:Str):Prop where
 nl:10∉p.cps.toList
 hd:∃ c,p.cps.toList.head?=some c/\¬c=32
 la:∃ c,p.cps.toList.getLast?=some c/\¬c=32
theorem Clean.vE{p:Str}(h:Clean p):¬p.cps.toList.head?=some 32:=by
 obtain⟨c,e,hc⟩:=h.hd;rw[e];exact fun z=>hc (kF z)
theorem Ab{p:Str}(h:Clean p):lD p=p:=by
 refine lC ?_;unfold lD;rw[pG,MP,Du h.vE]
 have:¬p.cps.toList.reverse.head?=some 32:=by
  obtain⟨c,e,hc⟩:=h.la;rw[List.head?_reverse,e];exact fun z=>hc (kF z)
 rw[Du this,ft]
theorem KC{p:Str}(h:Clean p):¬p="":=fun e=>by
 obtain⟨c,e',_⟩:=h.hd;rw[e]at e';have:("":Str).cps.toList=[]:=by decide +kernel
 rw[this]at e';cases e'
theorem Oe{xs ys:List Str}(h:xs.map (·.cps.toList)=ys.map (·.cps.toList)):xs=ys:=by
 induction xs generalizing ys with
 | nil=>cases ys with
  |nil=>rfl
  |cons y ys=>cases h
 | cons x xs ih=>cases ys with
  |nil=>cases h
  | cons y ys =>
   rw[b5,b5,List.cons.injEq]at h;rw[lC h.1,ih h.2]
theorem nQ(c:Nat)(hne:ps≠[])(h:∀ p∈ps,c∉p.cps.toList):Txt.split (Txt.join ⟨#[c]⟩ ps) ⟨#[c]⟩=ps:=by
 have e:Txt.join ⟨#[c]⟩ ps=Str.join ⟨#[c]⟩ ps:=i9 _ _;refine Oe ?_;rw[MT,e,mF c ps hne h]
theorem Og(hne:ps≠[])(h:∀ p∈ps,Clean p):p7 (Txt.join "\n" ps)=ps.zipIdx.map fun(x:Str×Nat)=>(x.2,x.1):=by
 have e:Txt.split (Txt.join "\n" ps) "\n"=ps:=by
  rw[Qx];exact nQ 10 hne fun p hp=>(h p hp).nl
 unfold p7 iz;rw[e]
 have e2:(ps.zipIdx.map fun p=>(p.2,lD p.1))=ps.zipIdx.map fun(x:Str×Nat)=>(x.2,x.1):=g0 fun x hx=>by
  have hm:x.1∈ps:=by
   have:=List.mem_zipIdx hx;rw[this.2.2];exact fi _
  rw[Ab (h _ hm)]
 rw[e2,vj];intro r hr;obtain⟨x,hx,rfl⟩:=b9.mp hr
 have hm:x.1∈ps:=by
  have:=List.mem_zipIdx hx;rw[this.2.2];exact fi _
 show(!decide (x.1=""))=true;rw[gX (KC (h _ hm))]
 rfl
theorem gb{u v:Str}(h1:10∉u.cps.toList)(h2:∃ c,u.cps.toList.head?=some c/\¬c=32)(hv:Clean v):Clean (u++" "++v):=by
 have e:(u++" "++v:Str).cps.toList=u.cps.toList++32::v.cps.toList:=by
  rw[cY,cY,Bp];simp
 refine⟨?_,?_,?_⟩
 .rw[e]
  intro z;rcases aT.mp z with z|z
  .exact h1 z
  rcases ai.mp z with z|z
  .exact absurd z b4
  exact hv.nl z
 .obtain⟨c,h,hc⟩:=h2
  refine⟨c,?_,hc⟩;rw[e];cases hu:u.cps.toList with
  |nil=>rw[hu]at h;cases h
  |cons d r=>rw[hu]at h;exact h
 obtain⟨c,h,hc⟩:=hv.la;refine⟨c,?_,hc⟩;rw[e,List.getLast?_append,List.getLast?_cons];rw[h]
 rfl
theorem pK(h:isName x=true)(hc:dq c=false):c∉x.cps.toList:=fun z=>by
 unfold isName at h;have:dq c=true:=bP.mp (bS.mp h).2 c z;rw[hc]at this;cases this
theorem words_of(hne:ns≠[])(h:∀ n∈ns,isName n=true):b7 (Txt.join " " ns)=ns:=by
 have hb:∀ n∈ns,32∉n.cps.toList/\¬n="":=fun n hn=>by
  have:=h n hn;refine⟨fun z=>?_,fun z=>?_⟩
  .exact pK this (c:=32) b4 z
  rw[z]at this;exact absurd this dk
 unfold b7
 have e:Txt.split (Txt.join " " ns) " "=ns:=by
  rw[pG];exact nQ 32 hne fun p hp=>(hb p hp).1
 rw[e,vj];intro n hn;rw[gX (hb n hn).2]
 rfl
def dh:Nat->Nat->List Nat
 | 0,n=>[48+n%10]
 |k+1,n=>if n<10 then [48+n]else dh k (n/10)++[48+n%10]
theorem uA:∀ d:Nat,d<10->(Nat.digitChar d).toNat=48+d:=by decide
theorem rF:∀(k n:Nat),n<10^(k+1)->(Nat.toDigits 10 n).map Char.toNat=dh k n
 | 0,n,h=>by
  have h:n<10:=h;rw[pV h];show [(Nat.digitChar n).toNat]=[48+n%10]
  rw[uA n h,Cn h]
 | k + 1,n,h=>by
  show _=if n<10 then [48+n]else dh k (n/10)++[48+n%10]
  by_cases hn:n<10
  .rw[qp hn,pV hn]
   show [(Nat.digitChar n).toNat]=_;rw[uA n hn]
  rw[bX hn]
  have h1:n/10<10^(k+1):=by
   rw[sM b4,<- hU];exact h
  have h2:n%10<10:=Nat.mod_lt _ b4;have h3:0<n/10:=G
  have e:10*(n/10)+n%10=n:=rS n 10;have:=Nat.toDigits_append_toDigits (b:=10) (n:=n/10) (d:=n%10) b4 h3 h2;rw[e]at this;rw[<- this,ar,rF k _ h1,pV h2];show _++[(Nat.digitChar (n%10)).toNat]=_;rw[uA _ h2]
theorem yu:∀(k n:Nat),n<10^(k+1)->gm (dh k n)=n
 | 0,n,h=>by
  have h:n<10:=h;show 0*10+(48+n%10-48)=n;rw[Cn h];exact G
 | k + 1,n,h=>by
  show gm (if n<10 then [48+n]else dh k (n/10)++[48+n%10])=n
  by_cases hn:n<10
  .rw[qp hn]
   show 0*10+(48+n-48)=n;exact G
  rw[bX hn]
  have h1:n/10<10^(k+1):=by
   rw[sM b4,<- hU];exact h
  unfold gm;rw[n_];show gm (dh k (n/10))*10+(48+n%10-48)=n;rw[yu k _ h1];exact G
theorem jx:∀(k n:Nat),1<=(dh k n).length /\ (dh k n).length <= k+1
 | 0,n=>⟨qnr _,qnr _⟩
 | k+1,n=>by
  have:=jx k (n/10);show 1<=(if n<10 then [48+n]else dh k (n/10)++[48+n%10]).length /\ (if n<10 then [48+n]else dh k (n/10)++[48+n%10]).length <= k+1+1
  split
  .exact⟨qnr _,oz⟩
  rw[af];show 1<=_+1/\_+1<=_;exact G
theorem nR:∀(k n:Nat),∀ c∈dh k n,48<=c/\c<=57
 | 0,n=>fun c hc=>by
  have hc:c=48+n%10:=aI.mp hc;exact G
 | k + 1,n=>fun c hc=>by
  have hc:c∈(if n<10 then [48+n]else dh k (n/10)++[48+n%10]):=hc
  split at hc
  .have:=aI.mp hc
   exact G
  rcases aT.mp hc with hc|hc
  .exact nR k _ c hc
  have:=aI.mp hc;exact G
theorem vD:∀(k n:Nat),0<n->n<10^(k+1)->∃ c r,dh k n=c::r/\¬c=48
 | 0,n,h0,h=>⟨48+n%10,[],rfl,by have h:n<10:=h;rw[Cn h];exact G⟩
 | k + 1,n,h0,h=>by
  show ∃ c r,(if n<10 then [48+n]else dh k (n/10)++[48+n%10])=c::r/\¬c=48
  split
  .exact⟨48+n,[],Z,G⟩
  have h1:n/10<10^(k+1):=by
   rw[sM b4,<- hU];exact h
  obtain⟨c,r,e,hc⟩:=vD k (n/10) G h1;exact⟨c,r++[48+n%10],by rw[e];rfl,hc⟩
def Dv(n:Nat):List Nat:=dh 29 n
def cV(i:Int):Str:=((toString i:String):Str)
theorem lE(h:n<10^30):(cV (n:Int)).cps.toList=Dv n:=by
 show(Str.ofString (toString (n:Int))).cps.toList=_;rw[Str.ofString_eq_toList];show((toString (n:Int)).toList.map Char.toNat)=_;have e:toString (n:Int)=String.ofList (Nat.toDigits 10 n):=rfl;rw[e,String.toList_ofList];exact rF 29 n h
theorem rG(h:n+1<10^30):(cV (-((n+1:Nat):Int))).cps.toList=45::Dv (n+1):=by
 show(Str.ofString (toString (-((n+1:Nat):Int)))).cps.toList=_;rw[Str.ofString_eq_toList];show((toString (-((n+1:Nat):Int))).toList.map Char.toNat)=_;have e:toString (-((n+1:Nat):Int))="-"++String.ofList (Nat.toDigits 10 (n+1)):=rfl;rw[e,String.toList_append,ar,String.toList_ofList (l:=Nat.toDigits 10 (n+1)),rF 29 (n+1) h]
 rfl
theorem nT(hx:x.cps.toList=Dv n)(h:n<10^30):gJ x=true/\gm x.cps.toList=n:=by
 have hl:=jx 29 n;have hf:=nR 29 n;have el:x.length=x.cps.toList.length:=ay.symm;have CH:x.cps.toList.length=(dh 29 n).length:=by rw[hx];rfl
 refine⟨?_,by rw[hx];exact yu 29 n h⟩;unfold gJ;rw[cK (show(1:Int)<=(x.length:Int)by omega),cK (show(x.length:Int)<=30 by omega)]
 have ha:x.cps.toList.all g8=true:=by
  rw[bP,hx];intro c hc;have:=hf c hc;unfold g8;rw[cK this.1,cK this.2]
  rfl
 rw[ha];show(!(decide (x.cps.toList.head?=some 48) && !decide (x="0")))=true
 by_cases h0:n=0
 .have ex:x="0":=lC (by rw[hx,h0,jK];decide)
  rw[cK ex];simp
 obtain⟨c,r,e,hc⟩:=vD 29 n G h
 have:¬x.cps.toList.head?=some 48:=by
  rw[hx];show ¬(dh 29 n).head?=some 48;rw[e];exact fun z=>hc (kF z)
 rw[gX this]
 rfl
theorem yw{r:List Nat}(h:x.cps.toList=45::r):Txt.startswith x "-"=true:=by
 have e:("-":Str)=⟨#[45]⟩:=by decide +kernel
 rw[e];obtain⟨h1,h2⟩:=(l7 x 45 0).mpr (by rw[h];rfl);exact bS.mpr ⟨cK h1,h2⟩
theorem Hj(h:¬x.cps.toList.head?=some 45):¬Txt.startswith x "-"=true:=by
 have e:("-":Str)=⟨#[45]⟩:=by decide +kernel
 rw[e];intro z;obtain⟨z1,z2⟩:=bS.mp z;have:=(l7 x 45 0).mp ⟨eS z1,z2⟩;exact h (by rw[List.head?_eq_getElem?];exact this)
theorem Oh(x:Str):(dW x (some 1) none).cps.toList=x.cps.toList.drop 1:=by
 rw[fG];have e:x.length=x.cps.toList.length:=ay.symm;rw[e];generalize x.cps.toList=l;cases l with
 |nil=>rfl
 |cons c r=>simp[HT.fF]
theorem vG(h0:0<n)(h:n<10^30):cJ (cV (n:Int))=.int (n:Int):=by
 obtain⟨h1,h2⟩:=nT (lE h) h;unfold cJ;rw[qp h1,h2,bX G]
theorem Hk{i:Int}(h1 : -(10^30)<i)(h2:i<10^30):my (cV i)=.int i:=by
 unfold my;rcases AE i 0 with hi|hi
 .obtain⟨n,rfl⟩:∃ n:Nat,i = -((n+1:Nat):Int):=⟨(-i).toNat-1,G⟩
  have hn:n+1<10^30:=G
  have e:=rG hn;have hs:Txt.startswith (cV (-((n+1:Nat):Int))) "-"=true:=yw e;rw[qp hs];have ec:(dW (cV (-((n+1:Nat):Int))) (some 1) none).cps.toList=Dv (n+1):=by rw[Oh,e];rfl
  obtain⟨q1,q2⟩:=nT ec hn;unfold cJ;rw[qp q1,q2,bX G]
  rfl
 obtain⟨n,rfl⟩:∃ n:Nat,i=(n:Int):=⟨i.toNat,G⟩
 have hn:n<10^30:=G
 obtain⟨q1,q2⟩:=nT (lE hn) hn
 have hs:¬Txt.startswith (cV (n:Int)) "-"=true:=Hj (by
  rw[lE hn];have hf:=nR 29 n;have hl:=jx 29 n;show ¬(dh 29 n).head?=some 45;cases hq:dh 29 n with
  |nil=>rw[hq]at hl;exact absurd hl.1 b4
  | cons c r =>
   have:=hf c (by rw[hq];exact qms);intro z;have:=kF z
   exact G)
 rw[bX hs];unfold rB;rw[qp q1,q2]
def G1:Op->Str
 | .and => "&"
 | .or => "|"
 | .thn => ">"
 | .same => "="
def OA:Op->Nat
 | .and=>38
 | .or=>124
 | .thn=>62
 | .same=>61
theorem Dw(o:Op):G1 o=⟨#[OA o]⟩:=by cases o<;>decide +kernel
theorem yx(o:Op):cL (G1 o):=by
 cases o
 .exact .inl rfl
 .exact .inr (.inl rfl)
 .exact .inr (.inr (.inl rfl))
 exact .inr (.inr (.inr rfl))
theorem QG(o:Op):pB (G1 o)=o:=by cases o<;>decide +kernel
def wrT:Tr->Str
 | .nm x=>x
 | .yes => "1"
 | .no => "0"
 | .not a => "~"++wrT a
 | .bin o a b => "("++wrT a++" "++G1 o++" "++wrT b++")"
def dZ(t:Tr):Prop:=∀ x∈t.names,isName x=true
theorem mW(a:Tr):(wrT (.not a)).cps.toList=126::(wrT a).cps.toList:=by
 show("~"++wrT a:Str).cps.toList=_;rw[cY,yg]
 rfl
theorem mX(o:Op)(a b:Tr):(wrT (.bin o a b)).cps.toList=40::(((wrT a).cps.toList++[32])++OA o::(32::(wrT b).cps.toList))++[41]:=by
 show("("++wrT a++" "++G1 o++" "++wrT b++")":Str).cps.toList=_;rw[cY,cY,cY,cY,cY,cY,yf,Bl,Nz,Dw];simp
theorem mz:∀{tr:Tr},dZ tr->∃ ws,dG (wrT tr).cps.toList ws/\Wr 5 tr ws
 | .nm x,h=>by
  have hx:=h x qms;exact⟨[x],Ny hx,.leaf (GJ hx) (by rw[yg];exact pZ hx b4) (by rw[yf];exact pZ hx b4)⟩
 | .yes,_=>⟨[⟨#[49]⟩],by show dG ("1":Str).cps.toList _;rw[nM];exact Bk ⟨b4,b4⟩,by rw[<- nM];exact .leaf (by unfold gH;rw[qp rfl]) dk dk⟩
 | .no,_=>⟨[⟨#[48]⟩],by show dG ("0":Str).cps.toList _;rw[jK];exact Bk ⟨b4,b4⟩,by rw[<- jK];exact .leaf (by unfold gH;rw[bX dk,qp rfl]) dk dk⟩
 | .not a,h=>by
  obtain⟨ws,h1,h2⟩:=mz (tr:=a) h;refine⟨⟨#[126]⟩:: ws,?_,?_⟩
  .rw[mW]
   exact GD ⟨b4,b4⟩ h1
  rw[<- yg];exact .not h2
 | .bin o a b,h=>by
  obtain⟨w1,h1,h2⟩:=mz (tr:=a) fun x hx=>h x (w9 _ hx)
  obtain⟨w2,h3,h4⟩:=mz (tr:=b) fun x hx=>h x (pd _ hx)
  have ho:isSign (OA o):=by cases o<;>exact⟨b4,b4⟩
  refine⟨⟨#[40]⟩:: ((w1++G1 o::w2)++[⟨#[41]⟩]),?_,?_⟩
  .rw[mX,Dw]
   refine Nx (ws:=⟨#[40]⟩:: (w1++⟨#[OA o]⟩:: w2)) ⟨b4,b4⟩ ?_;exact GD ⟨b4,b4⟩ (Qv ho (GF h1) (J4 h3))
  rw[<- yf,<- Bl];have hb:=xY (yx o);have:=Wr.bin (n:=0) (yx o) (by have:=Qt (yx o);exact G) ⟨G,fun _=>G⟩ ⟨G,fun _=>G⟩ h2 h4;rw[QG]at this;exact .bra this
def G'(c:Nat):Prop:=dq c=true\/c=49\/c=48\/c=126\/c=40\/c=41\/c=32\/c=38\/c=124\/c=62\/c=61
theorem lF:∀{tr:Tr},dZ tr->∀ c∈(wrT tr).cps.toList,G' c
 | .nm x,h,c,hc=>by
  have hx:=h x qms;unfold isName at hx;exact .inl (bP.mp (bS.mp hx).2 c hc)
 | .yes,_,c,hc=>by
  have hc:c∈("1":Str).cps.toList:=hc;rw[nM]at hc;exact .inr (.inl (aI.mp hc))
 | .no,_,c,hc=>by
  have hc:c∈("0":Str).cps.toList:=hc;rw[jK]at hc;exact .inr (.inr (.inl (aI.mp hc)))
 | .not a,h,c,hc=>by
  rw[mW]at hc;rcases ai.mp hc with rfl|hc
  .simp[G']
  exact lF (tr:=a) h c hc
 | .bin o a b,h,c,hc=>by
  rw[mX]at hc;have ho:G' (OA o):=by cases o<;>simp[G',OA]
  simp only[aT,ai,p_,or_false,i_]at hc;rcases hc with rfl | ((hc|rfl) | (rfl | (rfl|hc)))|rfl
  .simp[G']
  .exact lF (tr:=a) (fun x hx=>h x (w9 _ hx)) c hc
  .simp[G']
  .exact ho
  .simp[G']
  .exact lF (tr:=b) (fun x hx=>h x (pd _ hx)) c hc
  simp[G']
theorem yz(h:G' c):¬c=10/\¬c=58/\c<16^8:=by
 have e:16^8=4294967296:=by decide
 rcases h with h|h|h|h|h|h|h|h|h|h|h
 .unfold dq at h
  obtain⟨h1,h2⟩:=bS.mp h;have h1:=eS h1;have h2:=eS h2;exact G
 all_goals omega
def jh:Nat->Nat
 | 0=>0
 | 1=>8
 |d+2=>2*jh (d+1)+5
theorem vH:∀ d,1<=d->8<=jh d
 | 1,_=>qnr _
 | d+2,_=>by
  have:=vH (d+1) G;show 8<=2*jh (d+1)+5;exact G
theorem ji:∀{d e:Nat},d<=e->jh d<=jh e
 | 0,e,_=>mr _
 | 1,e,h=>vH e h
 |d+2,0,h=>absurd h G
 |d+2,1,h=>absurd h G
 | d+2,e+2,h=>by
  have:=ji (d:=d+1) (e:=e+1) G;show 2*jh (d+1)+5<=2*jh (e+1)+5;exact G
theorem pL:∀{tr:Tr},dZ tr->(wrT tr).cps.toList.length<=jh tr.depth
 | .nm x,h=>by
  have hx:=h x qms;unfold isName at hx;have:=eS (bS.mp (bS.mp hx).1).2;have e:x.length=x.cps.toList.length:=ay.symm;show x.cps.toList.length<=8;exact G
 | .yes,_=>by
  show("1":Str).cps.toList.length<=8;rw[nM]
  decide
 | .no,_=>by
  show("0":Str).cps.toList.length<=8;rw[jK]
  decide
 | .not a,h=>by
  have:=pL (tr:=a) h;have hp:=a.lp;obtain⟨d,hd⟩:∃ d,a.depth=d+1:=⟨a.depth-1,G⟩
  have e:(Tr.not a).depth=d+2:=by show a.depth+1=_;exact G
  rw[mW,e];rw[hd]at this;show(wrT a).cps.toList.length+1<=2*jh (d+1)+5;exact G
 | .bin o a b,h=>by
  have h1:=pL (tr:=a) fun x hx=>h x (w9 _ hx)
  have h2:=pL (tr:=b) fun x hx=>h x (pd _ hx)
  have hp:=a.lp;obtain⟨d,hd⟩:∃ d,max a.depth b.depth=d+1:=⟨max a.depth b.depth-1,G⟩
  have e:(Tr.bin o a b).depth=d+2:=by show max a.depth b.depth+1=_;exact G
  rw[mX,e];have m1:=ji (d:=a.depth) (e:=d+1) G;have m2:=ji (d:=b.depth) (e:=d+1) G;simp only[af,ba,rX];show _<=2*jh (d+1)+5;exact G
theorem Oi(h:dZ tr)(hd:tr.depth<=40)(hl:(wrT tr).cps.toList.length<=200):Pd (wrT tr) tr:=by
 have e:(wrT tr).length=(wrT tr).cps.toList.length:=ay.symm;obtain⟨ws,h1,h2⟩:=mz h;refine⟨gV G (show 200<=sizeLine by decide),fun c hc=>(yz (lF h c hc)).2.2,?_⟩;unfold wz;rw[bX G,ye h1,Nv h2];show(if 40<tr.depth then Out.deep else Out.tree tr)=_;rw[bX G]
theorem KD{l:List Nat}(h1:l≠[])(h2:∀ c∈l,dq c=true):∃ c,l.getLast?=some c/\¬c=32:=by
 refine⟨l.getLast h1,List.getLast?_eq_some_getLast h1,fun z=>?_⟩;have:=h2 _ (List.getLast_mem h1);rw[z]at this;exact absurd this b4
theorem Bq:∀{tr:Tr},dZ tr->∃ c,(wrT tr).cps.toList.getLast?=some c/\¬c=32
 | .nm x,h=>by
  have hx:=h x qms;unfold isName at hx;obtain⟨h1,h2⟩:=bS.mp hx;have h1:=eS (bS.mp h1).1;have e:x.length=x.cps.toList.length:=ay.symm;show ∃ c,x.cps.toList.getLast?=some c/\¬c=32;exact KD (fun z=>by rw[z]at e;rw[e]at h1;exact absurd h1 b4) fun c hc=>bP.mp h2 c hc
 | .yes,_=>⟨49,by show("1":Str).cps.toList.getLast?=_;rw[nM];rfl,b4⟩
 | .no,_=>⟨48,by show("0":Str).cps.toList.getLast?=_;rw[jK];rfl,b4⟩
 | .not a,h=>by
  obtain⟨c,h1,h2⟩:=Bq (tr:=a) h;refine⟨c,?_,h2⟩;rw[mW,List.getLast?_cons,h1]
  rfl
 | .bin o a b,h=>⟨41,by rw[mX,List.getLast?_append];rfl,b4⟩
theorem yC(h:dZ tr):Clean (wrT tr):=by
 have hs:=lF h;refine⟨fun z=>(yz (hs 10 z)).1 rfl,?_,?_⟩
 .cases tr with
  | nm x =>
   have hx:=h x qms;show ∃ c,x.cps.toList.head?=some c/\¬c=32;unfold isName at hx;obtain⟨h1,h2⟩:=bS.mp hx;have h1:=eS (bS.mp h1).1;have e:x.length=x.cps.toList.length:=ay.symm;cases hq:x.cps.toList with
   |nil=>rw[hq]at e;rw[e]at h1;exact absurd h1 b4
   | cons c r =>
    refine⟨c,Z,fun z=>?_⟩;have:=bP.mp h2 c (by rw[hq];exact qms);rw[z]at this;exact absurd this b4
  |yes=>exact⟨49,by show("1":Str).cps.toList.head?=_;rw[nM];rfl,b4⟩
  |no=>exact⟨48,by show("0":Str).cps.toList.head?=_;rw[jK];rfl,b4⟩
  |not a=>exact⟨126,by rw[mW];rfl,b4⟩
  |bin o a b=>exact⟨40,by rw[mX];rfl,b4⟩
 exact Bq h
abbrev KH:List (Key×V):=[(.inr "and",.str "&"),(.inr "or",.str "|"),(.inr "then",.str ">"),(.inr "same",.str "=")]
theorem QH(o:Op):bR (kJ [] KH) (.inr o.str)=some (.str (G1 o)):=by cases o<;>decide +kernel
theorem Hl{p:Addr}(h:H p=none):bb H (upd (upd H p o) p o'):=fun b u e=>by
 rw[aB (aG e h),aB (aG e h)];exact e
inductive LA(d:Nat)(vs:List V)(H:Hp)(Q:VK)(E:XK):Prop
 |mk(v:V)(tr:Tr)(_:vs=[v])(_:eD H v tr)(_:tr.depth<=d)(_:d<=8)(_:dZ tr)(_:∀ J,bb H J->Q (.str (wrT tr)) J)
theorem rH(h:dZ tr)(hd:tr.depth<=8):(wrT tr).length <= 2000:=by
 have e:(wrT tr).length=(wrT tr).cps.toList.length:=ay.symm;have h1:=pL h;have h2:=ji hd;have h3:jh 8=1659:=rfl;exact G
theorem DH:ck ["_law_tree","_law_sign"] ["_law_tree"] (aR Jp):=eP
theorem uB(T:Txt P w K mg t):∀ d:Nat,FO P w K mg base (d+1) t.Ug t.T8 ["_law_tree"] (LA d)
 | 0=>⟨fun vs H Q E h=>by obtain⟨v,tr,rfl,_⟩:=h;rfl,fun _ _ _ _ _ _ _ _ _ _ _ _ _ h=>by
  obtain⟨v,tr,rfl,_,hd,_⟩:=h;have:=tr.lp
  omega⟩
 | d + 1=>by
  have N3:=uB T d;refine T.q100.F.xa (k:=d+1) DH (fun vs H Q E h=>by obtain⟨v,tr,rfl,_⟩:=h;rfl) (fun j_ A outer s H vs Q E hr h=>?_);obtain⟨v,tr,rfl,ht,hd,h8,xl,k⟩:=h;have nd:=DH.nd;have hu:=fc hr
  refine⟨_,(aq (aO (aF aV (cy aJ (O 0) ak) az (aH _))
    (au (aC (cy aJ (O 0) ak)))
    aM)
   (aq (aO (aF aV (cy aJ (O 0) ak) az (aH _))
    (au (aC az))
    aM)
   (aq (aO (aF aV (cy aJ (O 0) ak) az (aH _))
    (au (aC az))
    aM)
   (aq (aO (aF aV (cy aJ (O 0) ak) az (aH _))
    (au (aC (aD bC az (eI T.q100 N3 hr aK (aa (cy aJ (O 0) ak) aj)))))
    aM)
   (aq (fN 1 nd (uc hu (Mt (nu az az (nu az az (nu az az (nu az az Ms)))) rfl rfl (df _ _) dk) (cy aJ (O 0) ak) (fun _ _=>rfl)))
   (au (aC (aD bC (aD bC (aD bC (aD bC (aD bC (aD bC az (eI T.q100 N3 hr aK (aa (cy aJ (O 0) ak) aj))) az) (O 1)) az) (eI T.q100 N3 hr aK (aa (cy aJ (O 0) ak) aj))) az)))))))),?_⟩
  have sz:10000<=sizeLine:=by decide
  cases tr with
  | nm x =>
   obtain⟨a,rest,rfl,_⟩:=ht.open;have ha:=Jx ht;refine⟨_,Z,a,_,0,_,Z,Z,SqT.of ha,Z,Z,_,Z,aN (fun _=>?_) (fun z=>absurd (cK rfl) z)⟩;exact⟨_,Z,a,_,1,_,Z,Z,SqT.of ha,Z,k H (bb.refl _)⟩
  | yes =>
   obtain⟨a,rest,rfl,ha,_,xp⟩:=ht.open;have:=xp rfl;cases this;refine⟨_,Z,a,_,0,_,Z,Z,SqT.of ha,Z,Z,_,Z,aN (fun z=>absurd (V.str.inj (eS z)) dk) (fun _=>?_)⟩;refine⟨_,Z,a,_,0,_,Z,Z,SqT.of ha,Z,Z,_,Z,aN (fun _=>?_) (fun z=>absurd (cK rfl) z)⟩;exact k H (bb.refl _)
  | no =>
   obtain⟨a,rest,rfl,ha,_,xp⟩:=ht.open;have:=xp rfl;cases this;refine⟨_,Z,a,_,0,_,Z,Z,SqT.of ha,Z,Z,_,Z,aN (fun z=>absurd (V.str.inj (eS z)) dk) (fun _=>?_)⟩;refine⟨_,Z,a,_,0,_,Z,Z,SqT.of ha,Z,Z,_,Z,aN (fun z=>absurd (V.str.inj (eS z)) dk) (fun _=>?_)⟩;refine⟨_,Z,a,_,0,_,Z,Z,SqT.of ha,Z,Z,_,Z,aN (fun _=>?_) (fun z=>absurd (cK rfl) z)⟩;exact k H (bb.refl _)
  | not u =>
   obtain⟨a,rest,rfl,_⟩:=ht.open;obtain⟨v1,ha,t1⟩:=CK ht;have vE:u.depth+1<=d+1:=hd;refine⟨_,Z,a,_,0,_,Z,Z,SqT.of ha,Z,Z,_,Z,aN (fun z=>absurd (V.str.inj (eS z)) dk) (fun _=>?_)⟩;refine⟨_,Z,a,_,0,_,Z,Z,SqT.of ha,Z,Z,_,Z,aN (fun z=>absurd (V.str.inj (eS z)) dk) (fun _=>?_)⟩;refine⟨_,Z,a,_,0,_,Z,Z,SqT.of ha,Z,Z,_,Z,aN (fun z=>absurd (V.str.inj (eS z)) dk) (fun _=>?_)⟩;refine⟨_,Z,a,_,0,_,Z,Z,SqT.of ha,Z,Z,_,Z,aN (fun _=>?_) (fun z=>absurd (cK rfl) z)⟩;have Sm:dZ u:=xl;have hs:=rH Sm G;refine⟨_,Z,a,_,1,v1,Z,Z,SqT.of ha,Z,v1,u,Z,t1,G,G,Sm,fun H1 s1=>?_⟩;have e1:("~":Str).length=1:=by decide +kernel
   exact⟨_,_,Z,Z,G,k H1 s1⟩
  | bin o x y =>
   obtain⟨a,rest,rfl,_⟩:=ht.open;obtain⟨v1,v2,ha,t1,t2⟩:=CJ ht;have vE:max x.depth y.depth+1<=d+1:=hd;have CD:dZ x:=fun z hz=>xl z (w9 _ hz)
   have BQ:dZ y:=fun z hz=>xl z (pd _ hz)
   have hs1:=rH CD G;have D3:=rH BQ G;refine⟨_,rfl,a,_,0,_,rfl,rfl,SqT.of ha,rfl,rfl,_,rfl,aN (fun z=>absurd (V.str.inj (eS z)) (by cases o<;>decide +kernel)) (fun _=>?_)⟩;refine⟨_,rfl,a,_,0,_,rfl,rfl,SqT.of ha,rfl,rfl,_,rfl,aN (fun z=>absurd (V.str.inj (eS z)) (by cases o<;>decide +kernel)) (fun _=>?_)⟩;refine⟨_,rfl,a,_,0,_,rfl,rfl,SqT.of ha,rfl,rfl,_,rfl,aN (fun z=>absurd (V.str.inj (eS z)) (by cases o<;>decide +kernel)) (fun _=>?_)⟩;refine⟨_,rfl,a,_,0,_,rfl,rfl,SqT.of ha,rfl,rfl,_,rfl,aN (fun z=>absurd (V.str.inj (eS z)) (by cases o<;>decide +kernel)) (fun _=>?_)⟩;refine fun p hp=>⟨ao,KH,rfl,b4,?_⟩
   have N_:bb H (upd (upd H p (.dK [])) p (.dK (kJ [] KH))):=Hl hp;refine⟨_,Z,a,_,0,.str o.str,Z,Z,SqT.of (N_ _ _ ha),Z,p,.str (G1 o),Z,?_,?_⟩
   .rw[<- QH o]
    exact uS.k (k:=.inr o.str) ao
   have lo:(G1 o).length=1:=by rw[Dw];rfl
   have l1:("(":Str).length=1:=by decide +kernel
   have l2:(" ":Str).length=1:=by decide +kernel
   have l3:(")":Str).length=1:=by decide +kernel
   refine⟨_,Z,a,_,1,v1,Z,Z,SqT.of (N_ _ _ ha),Z,v1,x,Z,t1.mono N_.tups,G,G,CD,fun H1 s1=>?_⟩;refine⟨_,_,Z,Z,G,_,_,Z,Z,by rw[aE];exact G,_,Z,_,_,Z,Z,by rw[aE,aE];exact G,_,_,Z,Z,by rw[aE,aE,aE];exact G,?_⟩;refine⟨_,Z,a,_,2,v2,Z,Z,SqT.of (s1 _ _ (N_ _ _ ha)),Z,v2,y,Z,t2.mono (N_.trans s1).tups,G,G,BQ,fun H2 s2=>?_⟩;refine⟨_,_,Z,Z,by rw[aE,aE,aE,aE];exact G,_,_,Z,Z,by rw[aE,aE,aE,aE,aE];exact G,?_⟩;exact k H2 ((N_.trans s1).trans s2)
def w_(p:Int×Str):Str:=cV p.1++" "++p.2
def dB(x:Pl):Str:=if x.kd="take"\/x.kd="lean" then x.kd++" "++cV x.num++" "++wrT x.tr else if x.kd="give"\/x.kd="ask" then x.kd++" "++wrT x.tr else if x.kd="keep" then "keep "++eQ x.i else if x.kd="pour" then Txt.join " " ("pour" :: x.prs.map w_)else x.kd
structure PlOk(ns:List Str)(x:Pl):Prop where
 tr:Cb ns x.tr
 mem:x.kd∈VB
 nb:Cc x.kd x.num
 pr:x.kd="pour"->j8 WD x.prs
theorem QJ{a b i:Int}(h:∀ k∈kl,k∈WD):∀ k∈(cH kd a b kl i).2.2,k∈WD:=by
 unfold cH
 repeat' split
 .exact h
 .exact h
 .exact h
 .intro k hk
  rcases aT.mp hk with hk|hk
  .exact h k hk
  rw[aI.mp hk];exact jM i
 exact h
theorem Br{ns:List Str}:∀{pls:List Pl}{a b:Int}{kl:List Str},oQ ns a b kl pls->(∀ k∈kl,k∈WD)->∀ x∈pls,PlOk ns x
 |_,_,_,_,.nil _ _ _,_,x,hx=>nomatch hx
 | _,_,_,_,.cons h1 h2 h3 h4 h5 h6,hw,x,hx=>by
  rcases ai.mp hx with rfl|hx
  .exact⟨h1,h2.mem,h3,fun e=>⟨(h5 (h2.pr e)).1,(h5 (h2.pr e)).2.1,fun p hp=>let h:=(h5 (h2.pr e)).2.2 p hp;⟨h.1,h.2.1,hw _ h.2.2⟩⟩⟩
  exact Br h6 (QJ hw) x hx
theorem nU(hN:Names ns)(h:∀ x∈tr.names,x∈ns):dZ tr:=fun x hx=>lZ (hN.nm x (h x hx))
theorem Bs{i:Int}(h1 : -(10^30)<i)(h2:i<10^30):i.natAbs.log2<1920:=by
 by_cases h0:i.natAbs=0
 .rw[h0];decide
 refine(Nat.log2_lt h0).mpr ?_;have:i.natAbs<10^30:=G
 exact gI this b4
theorem nW{i:Int}(h1 : -(10^30)<i)(h2:i<10^30):(cV i).length <= 31:=by
 rw[nH];rcases AE i 0 with hi|hi
 .obtain⟨n,rfl⟩:∃ n:Nat,i = -((n+1:Nat):Int):=⟨(-i).toNat-1,G⟩
  rw[rG G];have:=(jx 29 (n+1)).2;show(dh 29 (n+1)).length+1<=31;exact G
 obtain⟨n,rfl⟩:∃ n:Nat,i=(n:Int):=⟨i.toNat,G⟩
 rw[lE G];have:=(jx 29 n).2;show(dh 29 n).length <= 31;exact G
theorem Cc.vn{num:Int}(h:Cc kd num): -(10^30)<num/\num<10^30:=by
 rcases h with⟨_,h⟩|⟨_,h1,h2⟩
 .exact h
 exact⟨G,h2⟩
theorem kd_len(h:kd∈VB):kd.length<=6:=gA (fun kd=>decide (kd.length<=6)) dk h |> eS
theorem tU{k:Str}(h:k∈WD):k.length<=8:=bP.mp (show WD.all (fun k=>decide (k.length<=8))=true by decide +kernel) k h |> eS
theorem Oj{p:Int×Str}(h1:1<=p.1)(h2:p.1<=1000003)(h3:p.2∈WD):(w_ p).length <= 40:=by
 have a1:=nW (i:=p.1) G G;have a2:=tU h3;have l2:(" ":Str).length=1:=by decide +kernel
 unfold w_;rw[aE,aE];exact G
theorem uC(hN:Names ns)(h:Cb ns tr):(wrT tr).length <= 99:=by
 rw[nH];exact gV (pL (nU hN h.nm)) (ji h.dp)
theorem rJ(z:Str)(ys:List Str):(Txt.join z ys).length <= (ys.map (·.length)).sum+ys.length*z.length:=by
 have:=size_glued z ys;show(Builtin.Str.glued z ys).length <= _;rw[this];exact dP (gE _ (Nat.sub_le _ _)) _
theorem tV{ys:List Str}{m:Nat}(h:∀ y∈ys,y.length<=m):(ys.map (·.length)).sum <= ys.length*m:=by
 induction ys with
 |nil=>exact mr _
 | cons y r ih =>
  rw[b5,vT,ba,Nat.succ_mul];have:=h y qms;have:=ih fun z hz=>h z (k_ _ hz)
  exact G
theorem yD(h:j8 WD prs):(((("pour":Str):: prs.map w_).map (·.length)).sum+(("pour":Str):: prs.map w_).length*(" ":Str).length)<=205:=by
 have l2:(" ":Str).length=1:=by decide +kernel
 have hs:=tV (ys := "pour" :: prs.map w_) (m:=40) fun y hy=>by
  rcases ai.mp hy with rfl|hy
  .decide +kernel
  obtain⟨p,hp,rfl⟩:=b9.mp hy;obtain⟨h1,h2,h3⟩:=h.2.2 p hp;exact Oj h1 h2 h3
 have:=h.2.1;rw[ba,dn]at hs ⊢;rw[l2];have:(prs.length+1)*40<=5*40:=gE _ G;exact G
theorem rK(hN:Names ns){x:Pl}(h:PlOk ns x):(dB x).length <= 205:=by
 have h1:=kd_len h.mem;have h2:=uC hN h.tr;have h3:=nW h.nb.vn.1 h.nb.vn.2;have l2:(" ":Str).length=1:=by decide +kernel
 have l5:("keep ":Str).length=5:=by decide +kernel
 have h4:=tU (jM x.i);unfold dB
 split
 .rw[aE,aE,aE,aE]
  exact G
 split
 .rw[aE,aE]
  exact G
 split
 .rw[aE]
  exact G
 split
 .rename_i e
  exact gV (rJ _ _) (yD (h.pr e))
 exact G
inductive FH(vs:List V)(H:Hp)(Q:VK)(E:XK):Prop
 |mk(no:Addr)(v:V)(x:Pl)(ns:List Str)(_:vs=[v])(_:i6 no H v x)(_:PlOk ns x)(_:Names ns)(_:∀ J,bb H J->Q (.str (dB x)) J)
def mC(ns:List Str)(pls:List Pl):Str:=Txt.join "\n" (("names" ++ " "++Txt.join " " ns):: pls.map dB)
inductive C3(vs:List V)(H:Hp)(Q:VK)(E:XK):Prop
 |mk(no np l:Addr)(us:List V)(pls:List Pl)(ns:List Str)(_:vs=[.ref np,.ref l])(_:H np=some (.tup (ns.map V.str)))(_:ns.length<=8)(_:H l=some (.lst us))(_:Paired (i6 no H) us pls)(_:(∀ x∈pls,PlOk ns x))(_:Names ns)(_:pls.length<=90)(_:∀ J,bb H J->Q (.str (mC ns pls)) J)
theorem vI(hN:Names ns)(h8:ns.length<=8):(ns.map (·.length)).sum+ns.length*(" ":Str).length <= 72/\(Txt.join " " ns).length <= 72:=by
 have l2:(" ":Str).length=1:=by decide +kernel
 have h1:=tV (ys:=ns) (m:=8) fun y hy=>by
  rw[nH];exact(hN.nm y hy).le
 have h2:=rJ " " ns;have h3:ns.length*8<=64:=G
 rw[l2]at h2 ⊢;exact G
theorem Ol:ck ["_law_plan","_law_verb","_law_colon"] ["_law_plan"] (aR Jt):=eP
theorem KJ(T:Txt P w K mg t):FM P w base T.q106 6 FH:=by
 refine T.q106.F.fk (k:=5) Ol ?_;rintro nd _ _ _ _ H _ _ _ hr ⟨no,v,⟨kd,num,tr,i,prs⟩,ns,rfl,⟨q,pa,vt,vo,us,rfl,hq,ht,UZ,xk,_⟩,hok,hN,k⟩
 refine⟨_,(aq (fN 1 nd (cy aJ (O 0) ak))
   (aq (aO (aF fX (O 1) (bu (aa az (aa az aj))) ou)
    (au (aC (aD bC (aD bC (aD bC (aD bC (O 1) az) (c7 fY T.zt Bt.str (aa (cy aJ (O 0) ak) aj))) az) (eI T.q100 (uB T 4) hr aK (aa (cy aJ (O 0) ak) aj)))))
    aM)
   (aq (aO (aF fX (O 1) (bu (aa az (aa az aj))) ou)
    (au (aC (aD bC (aD bC (O 1) az) (eI T.q100 (uB T 4) hr aK (aa (cy aJ (O 0) ak) aj)))))
    aM)
   (aq (aO (aF aV (O 1) az (aH _))
    DX
    aM)
   (aq (aO (aF aV (O 1) az (aH _))
    (au (aC (aD bC az (eI T.q102 (pJ T) hr aK (aa (cy aJ (O 0) ak) aj)))))
    aM)
   (aq (aO (aF aV (O 1) az (aH _))
    (au (aC (bY PySem.F.plainAttrs_str PySem.F.slot_str_join PySem.F.type_str_join jm az (aa (aD oR (bx (aa az aj)) (bM rfl ["_law_pair"] [none] (bU (cy aJ (O 0) ak)) gT (fun _ _ _ _ _ _=>(iq 0 (kG (l:=["_law_pair"])))) (fun _ _ _ _ _ _=>bV) (fun _ _ _ _ _ _=>(aD bC (aD bC (c7 fY T.zt Bt.str (aa (cy (gZ (K:=K)) (O 0) ak) aj)) az) (cy (gZ (K:=K)) (O 0) ak))))) aj))))
    aM)
   (au (aC (O 1))))))))),?_⟩
 have KL:kd.length<=6:=kd_len hok.mem;have xl:=nU hN hok.tr.nm;have hwl:(wrT tr).length <= 99:=uC hN hok.tr;have Kn:(cV num).length <= 31:=nW hok.nb.vn.1 hok.nb.vn.2;have yA:num.natAbs.log2<1920:=Bs hok.nb.vn.1 hok.nb.vn.2;have l2:(" ":Str).length=1:=by decide +kernel
 have sz:1000<=sizeLine:=by decide
 have hq:H q=some (.tup [.str kd,.int num,vt,vo,.int i,.ref pa]):=hq;have ht:eD H vt tr:=ht;have xk:Paired (yp H) us prs:=xk;have D5:kd="pour"->j8 WD prs:=hok.pr;have ot:kd∈VB:=hok.mem;unfold dB at k;dsimp only at k;have nS:qE (.str kd) [V.str "take",V.str "lean"]=decide (kd="take"\/kd="lean"):=gA (fun kd=>qE (.str kd) [V.str "take",V.str "lean"]==decide (kd="take"\/kd="lean")) dk ot |> eq_of_beq
 have IC:qE (.str kd) [V.str "give",V.str "ask"]=decide (kd="give"\/kd="ask"):=gA (fun kd=>qE (.str kd) [V.str "give",V.str "ask"]==decide (kd="give"\/kd="ask")) dk ot |> eq_of_beq
 have WZ:¬kd="lost":=gA (fun kd=>!decide (kd="lost")) dk ot |> fun z e=>by rw[cK e]at z;cases z
 refine⟨_,Z,q,_,0,_,Z,Z,SqT.of hq,Z,?_⟩;refine⟨_,Z,lk obz,fun q1 hq1=>⟨q1,_,Z,.inr (SqT.of ao),Z,Z,?_⟩⟩;have s1:=aA (o:=.tup [.str "take",.str "lean"]) hq1;generalize upd H q1 (.tup [.str "take",.str "lean"])=H1 at s1 ⊢;have xi:=s1 _ _ hq;rw[bX jv,nS];refine⟨_,Z,aN (fun z=>?_) (fun z=>?_)⟩
 .have z:=eS z
  rw[qp z]at k;refine⟨_,Z,_,_,Z,Z,G,_,Z,q,_,1,_,Z,Z,SqT.of xi,Z,num,Z,yA,_,_,Z,Z,?_,?_⟩
  .show(kd++" ":Str).length+(cV num).length <= sizeLine
   rw[aE];exact G
  refine⟨_,_,Z,Z,?_,?_⟩
  .show(kd++" "++cV num:Str).length+(" ":Str).length <= sizeLine
   rw[aE,aE];exact G
  refine⟨_,Z,q,_,2,vt,Z,Z,SqT.of xi,Z,vt,tr,Z,ht.mono s1.tups,hok.tr.dp,b4,xl,fun H2 s2=>?_⟩;refine⟨_,_,Z,Z,?_,k H2 (s1.trans s2)⟩;show(kd++" "++cV num++" ":Str).length+(wrT tr).length <= sizeLine;rw[aE,aE,aE];exact G
 rw[bX (fun e=>z (cK e))]at k;refine⟨_,Z,lk obz,fun q2 hq2=>⟨q2,_,Z,.inr (SqT.of ao),Z,Z,?_⟩⟩;have s2:=aA (o:=.tup [.str "give",.str "ask"]) hq2;generalize upd H1 q2 (.tup [.str "give",.str "ask"])=H2 at s2 ⊢;have mh:=s1.trans s2;have RU:=mh _ _ hq;rw[bX jv,IC];refine⟨_,Z,aN (fun z=>?_) (fun z=>?_)⟩
 .rw[qp (eS z)]at k
  refine⟨_,Z,_,_,Z,Z,G,?_⟩;refine⟨_,Z,q,_,2,vt,Z,Z,SqT.of RU,Z,vt,tr,Z,ht.mono mh.tups,hok.tr.dp,b4,xl,fun H3 s3=>?_⟩;refine⟨_,_,Z,Z,?_,k H3 (mh.trans s3)⟩;show(kd++" ":Str).length+(wrT tr).length <= sizeLine;rw[aE];exact G
 rw[bX (fun e=>z (cK e))]at k;refine⟨_,Z,Z,_,Z,aN (fun z=>absurd (V.str.inj (eS z)) WZ) (fun _=>?_)⟩;refine⟨_,Z,Z,_,Z,aN (fun z=>?_) (fun z=>?_)⟩
 .rw[qp (V.str.inj (eS z))]at k
  refine⟨_,Z,q,_,4,_,Z,Z,SqT.of RU,bh (j:=4) rfl,i,Z,fun H3 s3=>?_⟩;have h4:=tU (jM i);refine⟨_,_,Z,Z,?_,k H3 (mh.trans s3)⟩;show("keep ":Str).length+(eQ i).length <= sizeLine;have l5:("keep ":Str).length=5:=by decide +kernel
  exact G
 rw[bX (fun e=>z (cK (by rw[e])))]at k;refine⟨_,Z,Z,_,Z,aN (fun z=>?_) (fun z=>?_)⟩
 .have z:=V.str.inj (eS z)
  rw[qp z]at k;have D5:=D5 z;have t9:=a_ xk;refine⟨Z,lk obz,fun l1 ow=>?_⟩;have s3:=mh.trans (aA (o:=.lst [.str "pour"]) ow);have xo:(upd H2 l1 (.lst [.str "pour"])) l1=some (.lst [.str "pour"]):=ao;generalize upd H2 l1 (.lst [.str "pour"])=H3 at s3 xo ⊢;refine⟨_,Z,q,_,5,_,Z,Z,SqT.of (s3 _ _ hq),bh (j:=5) rfl,pa,Z,⟨_,b3.of (s3 _ _ UZ)⟩,?_⟩;have h4:=D5.2.1;refine cF (K:=K) (a:=pa) (xs:=us) (fun i ys J=>J=H3/\ys=((prs.take i).map w_).map V.str) ⟨rfl,rfl⟩ (lk G) (fun i ys J ⟨_,e⟩=>by rw[e,dn,dn,bp];exact G) (fun i ys J ⟨e,_⟩=>by subst e;exact b3.of (s3 _ _ UZ)) ?_ ?_
  .rintro j y ys H4 hj ⟨e0,rfl⟩
   have e0:=e0.symm;subst e0;obtain⟨p,hp,qq,rfl,OH⟩:=bD xk j y hj;obtain⟨g1,g2,g3⟩:=D5.2.2 p (qB hp);have n1:=nW (i:=p.1) G G;have n2:=tU g3;refine⟨trivial,_,Z,qq,_,0,_,Z,Z,SqT.of (s3 _ _ OH),Z,p.1,Z,Bs G G,_,_,Z,Z,?_,_,Z,qq,_,1,_,Z,Z,SqT.of (s3 _ _ OH),Z,_,_,Z,Z,?_,Z,?_⟩
   .show(cV p.1).length+(" ":Str).length <= sizeLine
    exact G
   .show(cV p.1++" ":Str).length+p.2.length<=sizeLine
    rw[aE];exact G
   rw[rh,hp,ar,ar]
   rfl
  rintro ys H4 ⟨e0,rfl⟩ l2 l8;have e0:=e0.symm;subst e0;rw[t9,bE];have s4:=aA (o:=.lst ((prs.map w_).map V.str)) l8;refine⟨l1,l2,_,_,Z,Z,s4 _ _ xo,ao,lk (by simp;exact G),fun l3 D8=>?_⟩;have e3:[V.str "pour"]++(prs.map w_).map V.str=((("pour":Str):: prs.map w_).map V.str):=rfl;rw[e3];exact⟨_,l3,_,Z,Z,b3.of ao,gV (yD D5) b4,k _ ((s3.trans s4).trans (aA D8))⟩
 rw[bX (fun e=>z (cK (by rw[e])))]at k;exact⟨_,Z,k _ mh⟩
theorem KN:ck ["_law_names","_law_plans"] ["_law_names","_law_plans"] (aR Ju):=eP
theorem Hm(T:Txt P w K mg t):FM P w base T.q107 7 C3:=by
 refine T.q107.F.fk (k:=6) KN ?_;rintro nd _ _ _ _ H _ _ _ hr ⟨no,np,l,us,pls,ns,rfl,lT,h8,hl,hP,hok,hN,_m,k⟩;refine⟨_,(au (aC (bY PySem.F.plainAttrs_str PySem.F.slot_str_join PySem.F.type_str_join jm az (aa (aD oR (bx (aa (aD bC az (bY PySem.F.plainAttrs_str PySem.F.slot_str_join PySem.F.type_str_join Jg az (aa (O 0) aj))) aj)) (bM rfl ["_law_plan"] [none] (bU (O 1)) gT (fun _ _ _ _ _ _=>(iq 0 (kG (l:=["_law_plan"])))) (fun _ _ _ _ _ _=>bV) (fun _ _ _ _ _ _=>(eI T.q106 (KJ T) hr aK (aa (O 0) aj))))) aj)))),?_⟩;obtain⟨CD,BQ⟩:=vI hN h8;have t9:us.length=pls.length:=a_ hP;have l6:("names ":Str).length=6:=by decide +kernel
 have e6:("names ":Str)="names" ++ " ":=by decide +kernel
 have sz:1000<=sizeLine:=by decide
 refine⟨Z,Z,_,Z,_,np,ns,Z,Z,SqT.of lT,gV CD b4,_,_,Z,Z,G,lk obz,fun l1 ow=>?_⟩;have s1:=aA (o:=.lst [.str ("names "++Txt.join " " ns)]) ow;have xo:(upd H l1 (.lst [.str ("names "++Txt.join " " ns)])) l1=some (.lst [.str ("names "++Txt.join " " ns)]):=ao;generalize upd H l1 (.lst [.str ("names "++Txt.join " " ns)])=H1 at s1 xo ⊢;refine⟨_,Z,l,Z,⟨_,b3.of (s1 _ _ hl)⟩,?_⟩;refine cF (K:=K) (a:=l) (xs:=us) (fun i ys J=>bb H1 J/\ys=((pls.take i).map dB).map V.str) ⟨bb.refl _,rfl⟩ (lk G) (fun i ys J ⟨_,e⟩=>by rw[e,dn,dn,bp];exact G) (fun i ys J ⟨s',_⟩=>b3.of (s' _ _ (s1 _ _ hl))) ?_ ?_
 .rintro i y ys H2 hi ⟨s2,rfl⟩
  obtain⟨x,hx,MX⟩:=bD hP i y hi;have hmx:x∈pls:=qB hx;refine⟨trivial,_,Z,no,y,x,ns,Z,MX.mono (s1.trans s2),hok x hmx,hN,fun H3 s3=>⟨s2.trans s3,?_⟩⟩;rw[rh,hx,ar,ar]
  rfl
 rintro ys H2 ⟨s2,rfl⟩ l2 l8;rw[t9,bE];have s3:=aA (o:=.lst ((pls.map dB).map V.str)) l8;refine⟨l1,l2,_,_,Z,Z,s3 _ _ (s2 _ _ xo),ao,lk (by simp;exact G),fun l3 D8=>?_⟩;have e3:[V.str ("names "++Txt.join " " ns)]++(pls.map dB).map V.str=((("names" ++ " "++Txt.join " " ns):: pls.map dB).map V.str):=by rw[e6];rfl
 rw[e3];have ln:("\n":Str).length=1:=by decide +kernel
 refine⟨_,l3,_,Z,Z,b3.of ao,?_,k _ (((s1.trans s2).trans s3).trans (aA D8))⟩
 have hs:=tV (ys:=("names" ++ " "++Txt.join " " ns):: pls.map dB) (m:=205) fun y hy=>by
  rcases ai.mp hy with rfl|hy
  .rw[<- e6,aE]
   exact G
  obtain⟨x,hx,rfl⟩:=b9.mp hy;exact rK hN (hok x hx)
 rw[ba,dn]at hs ⊢;rw[ln];have:(pls.length+1)*205<=91*205:=gE _ G;exact G
theorem yE(a b c:Str):a++b++c=a++(b++c):=lC (by rw[cY,cY,cY,cY,dr])
def Plain(p:Str):Prop:=32∉p.cps.toList/\10∉p.cps.toList/\p.cps.toList≠[]
theorem Plain.hd{p:Str}(h:Plain p):∃ c,p.cps.toList.head?=some c/\¬c=32:=by
 cases e:p.cps.toList with
 |nil=>exact absurd e h.2.2
 |cons c r=>exact⟨c,Z,fun z=>h.1 (by rw[e,z];exact qms)⟩
theorem Plain.clean{p:Str}(h:Plain p):Clean p :=
 ⟨h.2.1,h.hd,p.cps.toList.getLast h.2.2,List.getLast?_eq_some_getLast h.2.2,fun z=>h.1 (by rw[<- z];exact List.getLast_mem h.2.2)⟩
theorem Hn:jf "take"=some tD:=qp rfl
theorem Ho:jf "lean"=some tE:=by
 unfold jf;rw[bX dk,bX dk,qp rfl]
theorem Hq(h:kd="give"\/kd="ask"):jf kd=some wA:=by
 unfold jf;rw[bX (by rcases h with e|e<;>rw[e]<;>decide +kernel),qp h]
theorem Hr:jf "keep"=some p6:=by
 unfold jf;rw[bX dk,bX dk,bX dk,qp rfl]
theorem Hs(h:kd="back"\/kd="again"\/kd="worlds"):jf kd=some tu:=by
 unfold jf;rw[bX (by rcases h with e|e|e<;>rw[e]<;>decide +kernel),bX (by rcases h with e|e|e<;>rw[e]<;>decide +kernel),bX (by rcases h with e|e|e<;>rw[e]<;>decide +kernel),bX (by rcases h with e|e|e<;>rw[e]<;>decide +kernel),qp h]
def fV(x:Pl):ng:=if x.kd="take"\/x.kd="lean" then .v (.int x.num)else if x.kd="keep" then .v (.str (eQ x.i))else if x.kd="pour" then .ps (x.prs.map fun p=>(p.2,p.1))else .v .non
def wa(x:Pl):List Tr:=if x.kd∈(["take","lean","give","ask"]:List Str)then [x.tr]else []
def lG(x:Pl):Str×ng×List Tr:=(x.kd,fV x,wa x)
theorem nY{i:Int}(h1 : -(10^30)<i)(h2:i<10^30):Plain (cV i):=by
 have key:∀ n k:Nat,∀ c∈dh k n,¬c=32/\¬c=10:=fun n k c hc=>by
  have:=nR k n c hc;exact G
 rcases AE i 0 with hi|hi
 .obtain⟨n,rfl⟩:∃ n:Nat,i = -((n+1:Nat):Int):=⟨(-i).toNat-1,G⟩
  unfold Plain;rw[rG G];refine⟨fun z=>?_,fun z=>?_,df _ _⟩
  .rcases ai.mp z with z|z
   .exact absurd z b4
   exact(key _ _ _ z).1 rfl
  rcases ai.mp z with z|z
  .exact absurd z b4
  exact(key _ _ _ z).2 rfl
 obtain⟨n,rfl⟩:∃ n:Nat,i=(n:Int):=⟨i.toNat,G⟩
 unfold Plain;rw[lE G];refine⟨fun z=>(key _ _ _ z).1 rfl,fun z=>(key _ _ _ z).2 rfl,fun z=>?_⟩;have:=(jx 29 n).1;have z:dh 29 n=[]:=z;rw[z]at this;exact absurd this b4
theorem yF(h:kd∈VB):Plain kd:=by
 have:=gA (fun kd=>decide (32∉kd.cps.toList)&&(decide (10∉kd.cps.toList)&&decide (kd.cps.toList≠[]))) dk h;obtain⟨h1,h2⟩:=bS.mp this;obtain⟨h2,h3⟩:=bS.mp h2;exact⟨eS h1,eS h2,eS h3⟩
theorem qj{k:Str}(h:k∈WD):isName k=true:=bP.mp (show WD.all isName=true by decide +kernel) k h
theorem ie{n:Str}(h:isName n=true):Plain n:=by
 refine⟨pK h b4,pK h b4,fun z=>?_⟩;have:n="":=lC (by rw[z];rfl);rw[this]at h;exact absurd h dk
theorem jy(a b:Str)(r:List Str):Txt.join " " (a::b::r)=a++" "++Txt.join " " (b::r):=by
 have e1:Txt.join " " (a::b::r)=Str.join " " (a::b::r):=i9 _ _;have e2:Txt.join " " (b::r)=Str.join " " (b::r):=i9 _ _;rw[e1,e2]
 rfl
theorem join_one(a:Str):Txt.join " " [a]=a:=i9 _ _
theorem jj:∀{ns:List Str},ns≠[]->(∀ n∈ns,Plain n)->Clean (Txt.join " " ns)
 |[],h,_=>absurd rfl h
 | [n],_,h=>by
  rw[join_one];exact(h n qms).clean
 | n::m::r,_,h=>by
  rw[jy];exact gb (h n qms).2.1 (h n qms).hd (jj (df _ _) fun x hx=>h x (k_ _ hx))
theorem Ac(hne:ns≠[])(h:∀ n∈ns,Plain n):b7 (Txt.join " " ns)=ns:=by
 unfold b7
 have e:Txt.split (Txt.join " " ns) " "=ns:=by
  rw[pG];exact nQ 32 hne fun p hp=>(h p hp).1
 rw[e,vj];intro n hn;rw[gX (fun z=>(h n hn).2.2 (by rw[z];rfl))]
 rfl
def sN:List (Int×Str)->List Str
 |[]=>[]
 |p::r=>cV p.1::p.2::sN r
theorem yG:∀{prs:List (Int×Str)},prs≠[]->Txt.join " " (prs.map w_)=Txt.join " " (sN prs)
 |[],h=>absurd rfl h
 | [p],_=>by
  show Txt.join " " [w_ p]=Txt.join " " [cV p.1,p.2];rw[join_one,jy,join_one]
  rfl
 | p::q::r,_=>by
  have ih:=yG (prs:=q::r) (df _ _);show Txt.join " " (w_ p::w_ q::r.map w_)=Txt.join " " (cV p.1::p.2::cV q.1::q.2::sN r);rw[jy,jy,jy (p.2)];have ih:Txt.join " " (w_ q::r.map w_)=Txt.join " " (cV q.1::q.2::sN r):=ih;rw[ih];show cV p.1++" "++p.2++" "++_=_;rw[yE (cV p.1++" ") p.2,yE (cV p.1++" ") (p.2++" ")]
theorem mD:∀{prs:List (Int×Str)},(∀ p∈prs,1<=p.1/\p.1<=1000003/\p.2∈WD)->∀ x∈sN prs,Plain x
 |[],_,x,hx=>nomatch hx
 | p::r,h,x,hx=>by
  obtain⟨h1,h2,h3⟩:=h p qms;rcases ai.mp hx with rfl|hx
  .exact nY G G
  rcases ai.mp hx with rfl|hx
  .exact ie (qj h3)
  exact mD (fun p hp=>h p (k_ _ hp)) x hx
theorem tW:∀ prs:List (Int×Str),evs (sN prs)=prs.map (fun p=>cV p.1)/\evs ((sN prs).drop 1)=prs.map (·.2)/\(sN prs).length=2*prs.length
 |[]=>⟨by simp[sN,evs],by simp[sN,evs],rfl⟩
 |[p]=>⟨by simp[sN,evs],by simp[sN,evs],rfl⟩
 | p::q::r=>by
  obtain⟨h1,h2,h3⟩:=tW (q::r);refine⟨?_,?_,?_⟩
  .show cV p.1::evs (sN (q::r))=_
   rw[h1];rfl
  .show p.2::evs ((sN (q::r)).drop 1)=_
   rw[h2];rfl
  show(sN (q::r)).length+2=_;rw[h3];simp only[ba];exact G
theorem Om(h:j8 WD prs):b7 (Txt.join " " (sN prs))=sN prs/\iC (sN prs)=true/\(prs.map (fun p=>cV p.1)).map cJ=prs.map fun p=>.int p.1:=by
 obtain⟨h1,h4,hall⟩:=h;obtain⟨e1,e2,e3⟩:=tW prs;have hne:prs≠[]:=fun z=>by rw[z]at h1;exact absurd h1 b4
 have hw:sN prs≠[]:=fun z=>by
  rw[z]at e3;have e3:0=2*prs.length:=e3;exact G
 have Iq:∀ p∈prs,cJ (cV p.1)=.int p.1:=fun p hp=>by
  obtain⟨g1,g2,_⟩:=hall p hp;obtain⟨n,hn⟩:∃ n:Nat,p.1=(n:Int):=⟨p.1.toNat,G⟩
  rw[hn,vG G G]
 refine⟨Ac hw (mD hall),?_,?_⟩
 .unfold iC
  rw[e1,e2,e3,cK (show 2*prs.length%2=0 by omega),cK (show 1<=2*prs.length/2 by omega),cK (show 2*prs.length/2<=10 by omega)]
  have a1:(prs.map fun p=>cV p.1).all (fun x=>!decide (cJ x=.non))=true:=by
   rw[bP];intro x hx;obtain⟨p,hp,rfl⟩:=b9.mp hx;rw[Iq p hp]
   rfl
  have a2:(prs.map (·.2)).all isName=true:=by
   rw[bP];intro x hx;obtain⟨p,hp,rfl⟩:=b9.mp hx;exact qj (hall p hp).2.2
  rw[a1,a2]
  rfl
 rw[dA];exact g0 fun p hp=>Iq p hp
theorem Bu{x:Pl} (h:x.kd="take"\/x.kd="lean"):dB x=x.kd++" "++(cV x.num++" "++wrT x.tr):=by
 unfold dB;rw[qp h,yE,yE (x.kd++" ")]
 congr 1
 rw[yE]
theorem yH{x:Pl} (hk:x.kd="pour") (h:j8 WD x.prs):dB x="pour" ++ " "++Txt.join " " (sN x.prs):=by
 have hne:x.prs≠[]:=fun z=>by have:=h.1;rw[z]at this;exact absurd this b4
 unfold dB;rw[bX (by rw[hk];decide +kernel),bX (by rw[hk];decide +kernel),bX (by rw[hk];decide +kernel),qp hk];rw[<- yG hne];cases e:x.prs with
 |nil=>exact absurd e hne
 |cons p r=>exact jy _ _ _
theorem rM(h:kd∈VB):(kd="take"\/kd="lean")\/(kd="give"\/kd="ask")\/kd="keep"\/kd="pour"\/(kd="back"\/kd="again"\/kd="worlds"):=gA (fun kd=>decide ((kd="take"\/kd="lean")\/(kd="give"\/kd="ask")\/kd="keep"\/kd="pour"\/(kd="back"\/kd="again"\/kd="worlds"))) dk h |> eS
theorem QK:("keep ":Str)="keep" ++ " ":=by decide +kernel
theorem yI{x:Pl} (h:x.kd="give"\/x.kd="ask"):dB x=x.kd++" "++wrT x.tr:=by
 unfold dB;rw[bX (by rcases h with e|e<;>rw[e]<;>decide +kernel),qp h]
theorem yJ{x:Pl} (h:x.kd="keep"):dB x="keep" ++ " "++eQ x.i:=by
 unfold dB;rw[bX (by rw[h];decide +kernel),bX (by rw[h];decide +kernel),qp h,QK]
theorem row_bare{x:Pl} (h:x.kd="back"\/x.kd="again"\/x.kd="worlds"):dB x=x.kd:=by
 unfold dB;rw[bX (by rcases h with e|e|e<;>rw[e]<;>decide +kernel),bX (by rcases h with e|e|e<;>rw[e]<;>decide +kernel),bX (by rcases h with e|e|e<;>rw[e]<;>decide +kernel),bX (by rcases h with e|e|e<;>rw[e]<;>decide +kernel)]
theorem Ht(hN:Names ns){x:Pl}(h:PlOk ns x):Clean (dB x):=by
 have kp:=yF h.mem;have np:=nY h.nb.vn.1 h.nb.vn.2;have hw:=yC (nU hN h.tr.nm);rcases rM h.mem with e|e|e|e|e
 .rw[Bu e]
  exact gb kp.2.1 kp.hd (gb np.2.1 np.hd hw)
 .rw[yI e]
  exact gb kp.2.1 kp.hd hw
 .rw[yJ e,<- e]
  exact gb kp.2.1 kp.hd (ie (qj (jM x.i))).clean
 .rw[yH e (h.pr e),<- e]
  refine gb kp.2.1 kp.hd (jj (fun z=>?_) (mD (h.pr e).2.2));have h3:=(tW x.prs).2.2;have:=(h.pr e).1;rw[z]at h3;have h3:0=2*x.prs.length:=h3;exact G
 rw[row_bare e];exact kp.clean
theorem KQ(hN:Names ns){x:Pl}(h:PlOk ns x)(i:Nat):Ds (i,dB x) (lG x):=by
 have kp:=yF h.mem;have np:=nY h.nb.vn.1 h.nb.vn.2;have xl:=nU hN h.tr.nm;have hw:=yC xl;have hwl:=uC hN h.tr;rw[nH]at hwl;have WN:Pd (wrT x.tr) x.tr:=Oi xl (by have:=h.tr.dp;exact G) G;refine⟨gV (rK hN h) b4,?_⟩;show cQ (dB x)=x.kd/\∃ ss:List Str,qd x.kd (bW (dB x)) (fV x) ss/\Paired Pd ss (wa x)/\ss.length<=10;rcases rM h.mem with e|e|e|e|e
 .have hc:=gb np.2.1 np.hd hw
  have f1:=(gW np.1 hw.vE).1;have f2:=(gW np.1 hw.vE).2;have et:wa x=[x.tr]:=qp (by rcases e with e|e<;>rw[e]<;>decide +kernel);rw[Bu e,(gW kp.1 hc.vE).1,(gW kp.1 hc.vE).2,et];refine⟨Z,[wrT x.tr],?_,.cons WN .nil,gu rfl⟩;have ep:fV x=.v (.int x.num):=qp e;rw[ep];rcases e with e|e
  .refine .inl ⟨tD,.int x.num,by rw[e];exact Hn,?_,rfl⟩
   unfold tD;rw[f1,f2]
   have hp:0<x.num/\x.num<10^30:=by
    rcases h.nb with⟨z,_⟩|⟨_,h0⟩
    .rw[e]at z;exact absurd z dk
    exact h0
   obtain⟨n,hn⟩:∃ n:Nat,x.num=(n:Int):=⟨x.num.toNat,G⟩
   rw[hn,vG G G]
   rfl
  refine .inl ⟨tE,.int x.num,by rw[e];exact Ho,?_,rfl⟩;unfold tE;rw[f1,f2,Hk h.nb.vn.1 h.nb.vn.2]
  rfl
 .have et:wa x=[x.tr]:=qp (by rcases e with e|e<;>rw[e]<;>decide +kernel)
  have ep:fV x=.v .non:=by
   unfold fV;rw[bX (by rcases e with e|e<;>rw[e]<;>decide +kernel),bX (by rcases e with e|e<;>rw[e]<;>decide +kernel),bX (by rcases e with e|e<;>rw[e]<;>decide +kernel)]
  rw[yI e,(gW kp.1 hw.vE).1,(gW kp.1 hw.vE).2,et,ep];exact⟨Z,[wrT x.tr],.inl ⟨wA,.non,Hq e,Z,Z⟩,.cons WN .nil,gu rfl⟩
 .have et:wa x=[]:=bX (by rw[e];decide +kernel)
  have ep:fV x=.v (.str (eQ x.i)):=by
   unfold fV;rw[bX (by rw[e];decide +kernel),qp e]
  have hn:=qj (jM x.i);rw[e]at kp;rw[yJ e,(gW kp.1 (ie hn).clean.vE).1,(gW kp.1 (ie hn).clean.vE).2,et,ep];refine⟨e.symm,[],.inl ⟨p6,.str (eQ x.i),by rw[e];exact Hr,?_,Z⟩,.nil,mr _⟩;unfold p6;rw[qp hn]
 .have et:wa x=[]:=bX (by rw[e];decide +kernel)
  have ep:fV x=.ps (x.prs.map fun p=>(p.2,p.1)):=by
   unfold fV;rw[bX (by rw[e];decide +kernel),bX (by rw[e];decide +kernel),qp e]
  have hp:=h.pr e;obtain⟨o1,o2,o3⟩:=Om hp;obtain⟨e1,e2,e3⟩:=tW x.prs
  have hc:Clean (Txt.join " " (sN x.prs)):=jj (fun z=>by
   rw[z]at e3;have e3:0=2*x.prs.length:=e3;have:=hp.1
   exact G) (mD hp.2.2)
  rw[e]at kp;rw[yH e hp,(gW kp.1 hc.vE).1,(gW kp.1 hc.vE).2,et,ep];refine⟨e.symm,[],.inr ⟨e,Z,x.prs.map fun p=>(p.2,p.1),Z,?_,?_,?_⟩,.nil,mr _⟩
  .rw[o1];exact o2
  .rw[o1,e2,dA];rfl
  rw[o1,e1,o3,dA];rfl
 have et:wa x=[]:=bX (by rcases e with e|e|e<;>rw[e]<;>decide +kernel)
 have ep:fV x=.v .non:=by
  unfold fV;rw[bX (by rcases e with e|e|e<;>rw[e]<;>decide +kernel),bX (by rcases e with e|e|e<;>rw[e]<;>decide +kernel),bX (by rcases e with e|e|e<;>rw[e]<;>decide +kernel)]
 rw[row_bare e,(Hi kp.1).1,(Hi kp.1).2,et,ep];exact⟨Z,[],.inl ⟨tu,.non,Hs e,qp rfl,Z⟩,.nil,mr _⟩
theorem nL:32∉("names":Str).cps.toList/\10∉("names":Str).cps.toList/\∃ c,("names":Str).cps.toList.head?=some c/\¬c=32:=⟨dk,dk,110,dk,b4⟩
theorem Hu(lj:ns.Nodup){n:Str}(h:n∈ns):(ns.map V.str).countP (fun z=>mw z (.str n))=1:=by
 induction ns with
 |nil=>cases h
 | cons m r ih =>
  rw[eW]at lj;rw[b5,f_];have key:∀ a b:Str,mw (.str a) (.str b)=decide (a=b):=fun a b=>rfl
  rcases ai.mp h with e|h
  .subst e
   have:(r.map V.str).countP (fun z=>mw z (.str n))=0:=by
    rw[List.countP_eq_zero];intro z hz;obtain⟨w,hw,rfl⟩:=b9.mp hz;rw[key,gX (show ¬w=n from fun e=>lj.1 (by rw[<- e];exact hw))]
    decide
   rw[this,key,cK rfl]
   rfl
  rw[ih lj.2 h,key,gX (show ¬m=n from fun e=>lj.1 (by rw[e];exact h))]
  rfl
theorem Oo(hN:Names ns)(h1:1<=ns.length)(h8:ns.length<=8):fU ns=true:=by
 unfold fU;rw[cK (show(1:Int)<=(ns.length:Int)by omega),cK (show(ns.length:Int)<=8 by omega)];show(ns.all _)=true;rw[bP];intro n hn;rw[lZ (hN.nm n hn),cK (Hu hN.nd hn)]
 rfl
def oS(H:Hp)(p:Addr)(v:V)(rs:List Int):Prop:=∃(a r:Addr),v=.ref a/\H a=some (.tup [.ref p,.ref r])/\H r=some (.tup (rs.map V.int))
theorem oS.tups(s:gc H J){p:Addr}:oS H p v rs->oS J p v rs:=fun⟨a,r,h1,h2,h3⟩=>⟨a,r,h1,s _ _ h2,s _ _ h3⟩
theorem oS.mono(s:bb H J){p:Addr}(h:oS H p v rs):oS J p v rs:=h.tups s.tups
def ql(rss:List (List Int))(i:Nat):Bool:=rss.all fun rs=>decide (rs.getD i 0=0)
def uD(N:Nat)(rss:List (List Int)):List Int:=((List.range N).filter (ql rss)).map fun i:Nat=>(i:Int)
inductive FV(vs:List V)(H:Hp)(Q:VK)(E:XK):Prop
 |mk(l p:Addr)(us:List V)(rss:List (List Int))(i:Nat)(_:vs=[.ref l,.int i])(_:H l=some (.lst us))(_:us.length<=100)(_:Paired (oS H p) us rss)(_:(∀ rs∈rss,i<rs.length))(_:∀ J,bb H J->Q (.bl (ql rss i)) J)
inductive DE(vs:List V)(H:Hp)(Q:VK)(E:XK):Prop
 |mk(l p:Addr)(ns:List Str)(us:List V)(rss:List (List Int))(N:Nat)(_:vs=[.ref l])(_:H l=some (.lst us))(_:H p=some (.tup (ns.map V.str)))(_:Paired (oS H p) us rss)(_:0<us.length)(_:us.length<=100)(_:N<=256)(_:(∀ rs∈rss,rs.length=N))(_:∀(q:Addr)(J:Hp),bb H J->H q=none->J q=some (.lst ((uD N rss).map V.int))->Q (.ref q) J)
theorem KR(T:Txt P w K mg t):FM P w base T.q26 1 FV:=by
 refine T.q26.F.fk (N:=["minds","world"]) eP ?_;rintro nd _ _ _ _ H _ _ _ hr ⟨l,p,us,rss,i,rfl,hl,BU,vw,hi,k⟩;have hlen:=jW vw;refine⟨_,(au (aC (aY (jE rfl) T.zC Bt.all (aa (bM rfl ["mind","world"] [none,some 1] (bU (O 0)) gT (fun _ _ _ _ _ _=>(iq 0 (kG (l:=["mind","world"])))) (fun _ _ _ _ _ _=>bV) (fun _ _ _ _ _ _=>(cM aV (cy (gZ (K:=K)) (cy (gZ (K:=K)) (O 0) ak) (ja 1)) ak (aH _)))) aj)))),?_⟩;refine⟨_,Z,l,Z,⟨_,b3.of hl⟩,?_⟩;refine cF (K:=K) (a:=l) (xs:=us) (fun j ys J=>J=H/\ys=((rss.take j).map fun rs=>decide (rs.getD i 0=0)).map V.bl) ⟨rfl,rfl⟩ (lk G) (fun j ys J ⟨_,e⟩=>by rw[e,dn,dn,bp];exact G) (fun j ys J ⟨e,_⟩=>by subst e;exact b3.of hl) ?_ ?_
 .rintro j z ys J hj ⟨rfl,rfl⟩
  obtain⟨rs,OF,a,r,rfl,ha,so⟩:=bD vw j z hj;have hir:=hi rs (qB OF)
  have i2:sR (rs.map V.int) (i:Int)=some (V.int (rs.getD i 0)):=by
   refine bh ?_;rw[lS,List.getD,List.getElem?_eq_getElem hir]
   rfl
  refine⟨⟨Z,trivial⟩,?_⟩;refine⟨_,Z,a,_,1,.ref r,Z,Z,SqT.of ha,Z,_,Z,r,_,_,_,Z,Z,SqT.of so,i2,Z,Z,?_⟩;rw[rh,OF,ar,ar];have e:decide (V.int (rs.getD i 0)=V.int 0)=decide (rs.getD i 0=0):=decide_eq_decide.mpr ⟨fun z=>V.int.inj z,fun z=>b_ V.int z⟩;rw[e]
  rfl
 rintro ys J ⟨rfl,rfl⟩ lc yB;refine⟨lc,_,Z,b3.of ao,?_⟩
 have e:((rss.take us.length).map fun rs=>decide (rs.getD i 0=0)).all id=ql rss i:=by
  rw[hlen,bE,rf]
  rfl
 rw[e];exact k _ (aA yB)
theorem Hv(T:Txt P w K mg t):FM P w base T.q27 2 DE:=by
 refine T.q27.F.fk (N:=["minds"]) eP ?_;rintro nd _ _ _ _ H _ _ _ hr ⟨l,p,ns,us,rss,N,rfl,hl,hp,vw,h0,BU,hN,OG,k⟩;have hlen:=jW vw
 refine⟨_,(aq (bw (eI T.q24 (xU T) hr bI (aa (ja 0) aj)))
   (au (aC (bM rfl ["world","minds"] [none,some 0] (gF T.zp (aa (aY aX T.zd Bt.len (aa (cy aJ (cy bj (ja 0) ak) ak) aj)) aj)) gT (fun _ _ _ _ _ _=>(iq 0 (kG (l:=["world","minds"])))) (fun _ _ _ _ _ _=>gC (cz (eI T.q26 (KR T) hr aK (aa (ja 1) (aa (O 0) aj))))) (fun _ _ _ _ _ _=>(O 0)))))),?_⟩
 have IB:Paired (y8 H) us (List.replicate us.length ns):=by
  clear k OG h0 BU hl
  induction vw with
  |nil=>exact .nil
  | cons r _ ih =>
   obtain⟨a,b,h1,h2,h3⟩:=r;exact .cons ⟨a,p,.ref b,h1,h2,hp⟩ (ih (by simpa using hlen))
 refine⟨_,Z,l,us,_,Z,hl,IB,fun z=>?_,fun n r Sk _=>?_,fun n r Sk z=>?_⟩
 .have:=b_ List.length z
  rw[c_]at this;exact absurd this (by show us.length≠0;exact G)
 rotate_left
 .refine absurd (fun m hm=>?_) z
  have hm1:=(eL.mp hm).2;have CD:n∈List.replicate us.length ns:=by rw[Sk];exact qms
  rw[hm1,(eL.mp CD).2]
 obtain⟨u0,us',rfl⟩:∃ u us',us=u::us':=by
  cases us with
  |nil=>exact absurd h0 oz
  |cons u us'=>exact⟨u,us',Z⟩
 obtain⟨x0,Wz,a0,r0,rfl,OU,BM⟩:=bD vw 0 u0 rfl;have f1:=OG x0 (qB Wz);refine⟨_,Z,l,_,0,.ref a0,Z,Z,b3.of hl,bh (j:=0) rfl,a0,_,1,.ref r0,Z,Z,SqT.of OU,Z,r0,_,Z,.inr (SqT.of BM),_,Z,G,by rw[dn,f1];exact G,?_⟩;rw[dn,f1,bq];refine jR (n:=N) (fun j zs J=>bb H J/\zs.length<=j/\zs=(((List.range j).filter (ql rss)).map fun i:Nat=>(i:Int)).map V.int) ⟨bb.refl _,qnr _,rfl⟩ (lk G) (fun j zs J ⟨_,e,_⟩=>e) ?_ ?_
 .rintro j zs J hj ⟨s1,UN,rfl⟩
  refine⟨⟨Z,trivial⟩,?_⟩;refine⟨_,Z,_,Z,l,p,_,rss,j,by rw[gS];rfl,s1 _ _ hl,BU,Paired.iA vw fun _ _ z=>oS.mono s1 z,fun rs OF=>by rw[OG rs OF];exact hj,fun H2 s2=>?_⟩;rw[eJ,eM];cases hb:ql rss j with
  | true =>
   refine⟨_,Z,bN ⟨_,Z,s1.trans s2,by rw[af];exact Nat.add_le_add UN (qnr _),?_⟩⟩;rw[fz hb,List.filter_nil,ar,ar,gS]
   rfl
  | false =>
   refine⟨_,Z,bz ⟨s1.trans s2,G,?_⟩⟩;rw[dS (by rw[hb];decide),List.filter_nil,cn]
 rintro zs J ⟨s1,_,rfl⟩ q hq;exact k q _ (s1.trans (aA hq)) (s1.free hq) ao
def fW(rs:List Int):List Nat:=(List.range rs.length).filter fun i=>decide (rs.getD i 0=0)
def mY(n:Nat)(rs:List Int):Str:=Txt.join " " ((fW rs).map (iw n))
def uE:gK:=fun ns rs ts txt=>txt=mY ns.length rs
theorem yK(rs:List Int):uD rs.length [rs]=(fW rs).map fun i:Nat=>(i:Int):=by
 unfold uD fW ql
 congr 1
 refine List.filter_congr fun i _=>?_
 show(decide (rs.getD i 0=0)&&true)=_;rw[Bool.and_true]
theorem vJ(rs:List Int):(fW rs).length <= rs.length:=by
 unfold fW;refine gV (da _ _) ?_;rw[cE];exact qnr _
theorem Hw(z:Str)(ys:List Str):(Txt.join z ys).length <= (ys.map (·.length)).sum+ys.length*z.length:=by
 have:=size_glued z ys;show(Builtin.Str.glued z ys).length <= _;rw[this];exact dP (gE _ (Nat.sub_le _ _)) _
theorem rN{ys:List Str}{m:Nat}(h:∀ y∈ys,y.length<=m):(ys.map (·.length)).sum <= ys.length*m:=by
 induction ys with
 |nil=>exact mr _
 | cons y r ih =>
  rw[b5,vT,ba,Nat.succ_mul];have:=h y qms;have:=ih fun z hz=>h z (k_ _ hz)
  exact G
theorem Hx(n wd:Nat):(iw n wd).length <= n:=by
 unfold iw;refine gV (Hw _ _) ?_;have e0:("":Str).length=0:=rfl;rw[e0,Nat.mul_zero,Nat.add_zero];refine gV (rN (m:=1) fun y hy=>?_) ?_
 .obtain⟨i,_,rfl⟩:=b9.mp hy
  exact As (jL wd i).1
 rw[dn,cE];exact G
theorem qJ(h8:n<=8)(h:rs.length<=256):(((fW rs).map (iw n)).map (·.length)).sum+((fW rs).map (iw n)).length*(" ":Str).length <= 5000:=by
 have l1:(" ":Str).length=1:=by decide +kernel
 have h1:=rN (ys:=(fW rs).map (iw n)) (m:=8) fun y hy=>by
  obtain⟨i,_,rfl⟩:=b9.mp hy;exact gV (Hx n i) h8
 have h2:=vJ rs;rw[dn]at h1 ⊢;rw[l1];have:(fW rs).length*8<=256*8:=gE _ G;exact G
theorem wt:ck ["mind","trees"] ["mind","trees"] (aR YC):=eP
theorem Hy(T:Txt P w K mg t):FM P w base T.q85 123 (GO uE):=by
 refine T.q85.F.UD (k:=122) wt (fun j_ A outer s H vs Q E hr h=>?_);obtain⟨a,p,r,l,rs,us,ns,ts,txt,rfl,hm,hM,hp,h8,lj,hl,hP,hok,hL,k⟩:=h;have hL:txt=mY ns.length rs:=hL;subst hL;have nd:=wt.nd;refine⟨_,(au (aC (bY PySem.F.plainAttrs_str PySem.F.slot_str_join PySem.F.type_str_join jm az (aa (bM rfl ["world","mind"] [none,some 0] (bU (eI T.q27 (Hv T) hr bI (aa (bx (aa (ja 0) aj)) aj))) gT (fun _ _ _ _ _ _=>(iq 0 (kG (l:=["world","mind"])))) (fun _ _ _ _ _ _=>bV) (fun _ _ _ _ _ _=>(eI T.q82 (Ke T) hr aK (aa (cy (gZ (K:=K)) (ja 1) ak) (aa (O 0) aj))))) aj)))),?_⟩;have sD:=hm.2.2;refine⟨Z,_,Z,lk obz,fun l1 ow=>?_⟩;have s1:=aA (o:=.lst [.ref a]) ow;refine⟨l1,p,ns,[.ref a],[rs],rs.length,Z,ao,s1 _ _ hp,.cons ⟨a,r,Z,s1 _ _ hm.1,s1 _ _ hm.2.1⟩ .nil,gu rfl,gu rfl,sD,fun x hx=>by rw[aI.mp hx],fun q H1 s2 _ hq=>?_⟩;have mh:=s1.trans s2;rw[yK]at hq;have UN:=vJ rs;refine⟨q,Z,⟨_,b3.of hq⟩,?_⟩;refine cF (K:=K) (a:=q) (xs:=((fW rs).map fun i:Nat=>(i:Int)).map V.int) (fun i ys J=>bb H1 J/\ys=(((fW rs).take i).map (iw ns.length)).map V.str) ⟨bb.refl _,rfl⟩ (lk (by rw[dn,dn];exact G)) (fun i ys J ⟨_,e⟩=>by rw[e,dn,dn,bp];exact G) (fun i ys J ⟨s',_⟩=>b3.of (s' _ _ hq)) ?_ ?_
 .rintro i y ys H2 hi ⟨s3,rfl⟩
  rw[lS,lS]at hi
  obtain⟨c,hc,rfl⟩:∃ c:Nat,(fW rs)[i]?=some c/\y=V.int (c:Int):=by
   cases q:(fW rs)[i]? with
   |none=>rw[q]at hi;cases hi
   |some c=>rw[q]at hi;exact⟨c,Z,(kF hi).symm⟩
  have pb:=mh.trans s3;refine⟨⟨Z,trivial⟩,_,Z,a,_,0,.ref p,Z,Z,SqT.of (pb _ _ hm.1),Z,_,Z,p,ns,c,Z,pb _ _ hp,h8,fun H3 s4=>⟨s3.trans s4,?_⟩⟩;rw[rh,hc,ar,ar]
  rfl
 rintro ys H2 ⟨s3,rfl⟩ l2 l8;rw[dn,dn,bE];refine⟨_,l2,_,Z,Z,b3.of ao,gV (qJ h8 sD) b4,k _ ((mh.trans s3).trans (aA l8))⟩
theorem tX(x:List Int×Int)(ps:List (List Int×Int))(i:Nat):eG (x::ps) i=x.2*x.1.getD i 0+eG ps i:=by
 unfold eG;rw[b5,vT]
theorem pM{N i:Nat}(hi:i<N){C:Int}:∀{ps:List (List Int×Int)},(∀ x∈ps,x.1.length=N/\∀ z∈x.1,0<=x.2*z/\x.2*z<=C)->0<=eG ps i/\eG ps i<=(ps.length:Int)*C
 | [],_=>by
  refine⟨oi 0,?_⟩;show(0:Int)<=0*C;exact G
 | x::ps,h=>by
  obtain⟨h1,h2⟩:=pM hi (C:=C) (ps:=ps) fun y hy=>h y (k_ _ hy)
  obtain⟨hl,hx⟩:=h x qms;obtain⟨h3,h4⟩:=hx _ (sX (by rw[hl];exact hi));rw[tX];refine⟨G,?_⟩;rw[ba,Int.natCast_add,Int.add_mul];exact G
theorem Hz{ps:List (List Int×Int)}{m:Int}(h:iE (cg (2^ns.length) ps) m):gx ns ((cg (2^ns.length) ps).map fun x=>x-m):=by
 refine⟨by rw[dn,iR],fun z hz=>?_,b9.mpr ⟨m,h.1,Int.sub_self m⟩⟩;obtain⟨x,hx,rfl⟩:=b9.mp hz;have:=h.2 x hx;exact G
theorem yL{N:Nat}{ps:List (List Int×Int)}{z:Int}(h:z∈cg N ps):∃ i,i<N/\z=eG ps i:=by
 obtain⟨i,hi,e⟩:=b9.mp h;exact⟨i,eT.mp hi,e.symm⟩
theorem KY{N:Nat}{ps:List (List Int×Int)}{m C D:Int}(hl:rs.length=N)(hge:∀ z∈rs,0<=z)(hb:tP B rs)(R':∀ x∈ps,x.1.length=N/\∀ z∈x.1,0<=x.2*z/\x.2*z<=C)(hD:(ps.length:Int)*C<=D)(hm:iE (cg N ((rs,1):: ps)) m):tP (B+D) ((cg N ((rs,1):: ps)).map fun x=>x-m):=fun z hz=>by
 obtain⟨x,hx,rfl⟩:=b9.mp hz;obtain⟨j,hj,ej⟩:=yL hm.1;obtain⟨i,hi,rfl⟩:=yL hx;have a1:=pM hi R';have a2:=pM hj R';have b1:=hb _ (sX (by rw[hl];exact hi));have b2:=hge _ (sX (by rw[hl];exact hj));rw[tX]at ej ⊢;show 1*rs.getD i 0+eG ps i-m<=_;have ej:m=1*rs.getD j 0+eG ps j:=ej;exact G
theorem KZ(h:aU ns tr=0):aP ns tr=cP ns.length:=by
 have:=qD (ns:=ns) (t:=tr);rw[h]at this;have e:(cP ns.length^^^aP ns tr)^^^aP ns tr=0^^^aP ns tr:=by rw[this]
 rw[Nat.xor_assoc,Nat.xor_self,Nat.xor_zero,Nat.zero_xor]at e;exact e.symm
theorem vK(hM:gx ns rs)(h:aP ns tr≠cP ns.length):∃ x,aQ (sel rs (aU ns tr))=some x:=xR hM.len (fun z=>h (KZ z)) fun i hb=>by
 rw[lO]at hb;exact eS (bS.mp hb).1
theorem tY(hM:gx ns rs)(h:aP ns tr≠0):∃ x,aQ (sel rs (aP ns tr))=some x:=xR hM.len h fun i hb=>by
 rw[b8]at hb;exact eS (bS.mp hb).1
def wK(kd:Str)(L:gK):Prop:=(kd="ask"/\L=Kp)\/(kd="worlds"/\L=uE)
def DV:List Str:=["take","give","lean","pour","back","again"]
def fL(x:Pl):Bool:=decide (x.kd∈DV)
def jk(x:Pl):Bool:=decide (x.kd∈(["ask","worlds"]:List Str))
def i3(ns:List Str)(B:Int)(l:List (List Int)):Prop:=∀ rs∈l,gx ns rs/\tP B rs
theorem i3.more{ns:List Str}{B B':Int}{l:List (List Int)}(h:i3 ns B l)(hb:B<=B'):i3 ns B' l:=fun rs hr=>⟨(h rs hr).1,(h rs hr).2.more hb⟩
theorem i3.app{l m:List (List Int)}(h:i3 ns B l)(h':i3 ns B m):i3 ns B (l++m):=fun rs hr=>(aT.mp hr).elim (h rs) (h' rs)
theorem Te(hN:Names ns)(h8:ns.length<=8)(h:Cb ns tr):IM tr/\∀ x∈tr.names,x∈ns :=
 ⟨⟨gV h.sz b4,gV h.dp b4,⟨ns,G,h.nm⟩,fun x hx=>pz.small (hN.nm x (h.nm x hx))⟩,h.nm⟩
theorem Tf(n:Nat):(1:Int)<=2^n:=by
 have h:=AD.mpr (hW (n:=n));rw[gz]at h;exact h
theorem yM{z:Int}(h0:0<=z)(h1:z<=B)(hB:B<=2^1900):z.natAbs<2^8192:=by
 refine Int.ofNat_lt.mp ?_;rw[Int.natAbs_of_nonneg h0];refine Int.lt_of_le_of_lt (ez h1 hB) ?_;have h:(2:Nat)^1900<2^8192:=sT b4 b4;have h':=Int.ofNat_lt.mpr h;rw[gz,gz]at h';rw[gz];exact h'
theorem Oq:(1:Int).natAbs<2^8192:=by
 show 1<2^8192;exact Nat.one_lt_two_pow b4
theorem QL{kr:Kept}(h:x∈kr.map (·.1)):∃ rs,jg kr x=some rs/\rs∈kr.map (·.2):=by
 induction kr with
 |nil=>cases h
 | cons q r ih =>
  by_cases e:q.1=x
  .exact⟨q.2,by simp[jg,List.find?_cons,e],qms⟩
  rcases ai.mp h with z|h
  .exact absurd z.symm e
  obtain⟨rs,h1,h2⟩:=ih h;refine⟨rs,?_,k_ _ h2⟩;have:jg (q::r) x=jg r x:=by simp[jg,List.find?_cons,e]
  rw[this];exact h1
theorem K1(kr:Kept)(x:Str)(rs:List Int):(jO kr x rs).map (·.1)=if x∈kr.map (·.1)then kr.map (·.1)else kr.map (·.1)++[x]:=by
 have ha:(kr.any fun q=>decide (q.1=x))=decide (x∈kr.map (·.1)):=by
  induction kr with
  |nil=>rfl
  | cons q r ih =>
   rw[eR,ih]
   by_cases e:q.1=x
   .rw[cK e,cK (show x∈(q::r).map (·.1)by rw[<- e];exact qms)];rfl
   rw[gX e,Bool.false_or]
   by_cases m:x∈r.map (·.1)
   .rw[cK m];exact(cK (k_ _ m)).symm
   rw[gX m];exact(gX fun z=>(ai.mp z).elim (fun z=>e z.symm) m).symm
 unfold jO;rw[ha]
 by_cases m:x∈kr.map (·.1)
 .rw[qp (cK m),qp m,dA]
  refine g0 fun q _=>?_
  show(if q.1=x then(q.1,rs)else q).1=q.1
  split<;>rfl
 rw[bX (by rw[gX m];decide),bX m,ar]
 rfl
theorem K3{kr:Kept}(h:i3 ns B (kr.map (·.2)))(hr:gx ns rs/\tP B rs):i3 ns B ((jO kr x rs).map (·.2)):=by
 unfold jO
 split
 .intro z hz
  rw[dA]at hz;obtain⟨q,hq,rfl⟩:=b9.mp hz;show gx ns (if q.1=x then(q.1,rs)else q).2 /\ tP B (if q.1=x then(q.1,rs)else q).2
  split
  .exact hr
  exact h _ (List.mem_map_of_mem hq)
 rw[ar]
 exact h.app fun z hz=>by
  rw[aI.mp hz];exact hr
theorem pN:∀{l:List Int},0<l.length->∃ m,iE l m
 |[],h=>absurd h b4
 |[a],_=>⟨a,qms,fun b hb=>by rw[aI.mp hb];exact oi _⟩
 | a::b::r,_=>by
  obtain⟨m,h1,h2⟩:=pN (l:=b::r) (Nat.succ_pos _);rcases AE m a with h|h
  .exact⟨m,k_ _ h1,fun z hz=>(ai.mp hz).elim (fun e=>by rw[e];exact Int.le_of_lt h) (h2 z)⟩
  exact⟨a,qms,fun z hz=>(ai.mp hz).elim (fun e=>by rw[e];exact oi _) fun hz=>ez h (h2 z hz)⟩
theorem Ot{kr:Kept}(hp:j8 (kr.map (·.1)) prs)(hM:gx ns rs)(hB:tP B rs)(hk:i3 ns B (kr.map (·.2)))(h0:10^31<=B)(h1:B<=2^1900):∃ rs',wB ns kr rs (.ps (prs.map fun p=>(p.2,p.1))) rs'/\gx ns rs'/\tP (B*2^23) rs':=by
 have XD:0<=B:=ez b4 h0
 obtain⟨ps,hP,R'⟩:∃ ps:List (List Int×Int),Paired (fun(a:Str×Int) b=>jg kr a.1=some b.1/\b.2=a.2) (prs.map fun p=>(p.2,p.1)) ps/\∀ x∈ps,x.1∈kr.map (·.2)/\1<=x.2/\x.2<=1000003:=by
  have:=hp.2.2;clear hp
  induction prs with
  |nil=>exact⟨[],.nil,fun x hx=>nomatch hx⟩
  | cons p r ih =>
   obtain⟨ps,h1,h2⟩:=ih fun q hq=>this q (k_ _ hq)
   obtain⟨g1,g2,g3⟩:=this p qms;obtain⟨z,hz,hm⟩:=QL g3;refine⟨(z,p.1):: ps,.cons ⟨hz,Z⟩ h1,fun x hx=>?_⟩;rcases ai.mp hx with rfl|hx
   .exact⟨hm,g1,g2⟩
   exact h2 x hx
 have hl:=a_ hP;rw[dn]at hl;have h4:=hp.2.1;have hN:0<2^ns.length:=Nat.two_pow_pos _;obtain⟨m,hm⟩:∃ m,iE (cg (2^ns.length) ((rs,1):: ps)) m:=pN (by rw[iR];exact hN)
 have prd:∀ x∈ps,x.1.length=2^ns.length/\∀ z∈x.1,0<=x.2*z/\x.2*z<=1000003*B:=fun x hx=>by
  obtain⟨a1,a2,a3⟩:=R' x hx;obtain⟨g1,g2⟩:=hk _ a1;exact⟨g1.len,fun z hz=>⟨Int.mul_nonneg G (g1.ge z hz),Int.mul_le_mul a3 (g2 z hz) (g1.ge z hz) b4⟩⟩
 have hD:(ps.length:Int)*(1000003*B)<=4*(1000003*B):=Int.mul_le_mul_of_nonneg_right G (Int.mul_nonneg b4 XD);refine⟨_,⟨_,ps,Z,hP,by rw[dn];exact G,⟨hM.len,Oq,fun z hz=>yM (hM.ge z hz) (hB z hz) h1⟩,fun x hx=>?_,fun m' CF=>by rw[CF.eq hm]⟩,Hz hm,(KY hM.len hM.ge hB prd hD hm).more ?_⟩
 .obtain⟨a1,a2,a3⟩:=R' x hx
  obtain⟨g1,g2⟩:=hk _ a1;exact⟨g1.len,yM G (ez a3 (ez b4 h0)) h1,fun z hz=>yM (g1.ge z hz) (g2 z hz) h1⟩
 have e2:(2:Int)^23=8388608:=by decide
 rw[e2];exact G
theorem K4(hM:gx ns rs)(hB:tP B rs)(h1:B<=2^1900){s1 s2:Nat}{m y:Int}(hm:aQ (sel rs s1)=some m)(hy:aQ (sel rs s2)=some y):(m-y).natAbs.log2<1920:=by
 have m0:=gU hM hm;have y0:=gU hM hy;have m1:=hB m (mR (cU hm).1);have y1:=hB y (mR (cU hy).1)
 by_cases hz:(m-y).natAbs=0
 .rw[hz];decide
 refine(Nat.log2_lt hz).mpr ?_
 have a1:((m-y).natAbs:Int)<=2^1900:=by
  generalize (2:Int)^1900=N at h1;exact G
 have h:(2:Nat)^1900<2^1920:=sT b4 b4;refine ky (AD.mp ?_) h;rw[gz];exact a1
theorem qm{ns:List Str}(hN:Names ns)(h8:ns.length<=8):∀{pls:List Pl}{a b:Int}{kl:List Str}{st tb:List (List Int)}{kr:Kept}{B:Int},oQ ns a b kl pls->(st.length:Int)=a+1->0<=a->(tb.length:Int)=b->kl=kr.map (·.1)->i3 ns B st->i3 ns B tb->i3 ns B (kr.map (·.2))->10^31<=B->B*2^(23*pls.length)<=2^1900 -> ∃ kC xs,Runs wK ns (pls.map lG) st tb kr kC xs/\(∀ m∈kC,gx ns m)/\kC.length=(pls.filter fL).length /\ xs.length=(pls.filter jk).length
 |[],_,_,_,_,_,_,_,_,_,_,_,_,_,_,_,_,_=>⟨[],[],.nil _ _ _,(fun m hm=>nomatch hm),rfl,rfl⟩
 | x::r,a,b,kl,st,tb,kr,B,.cons hT hV hNb hi xk hrest,ic,ha,oq,KL,h1,h2,h3,hB,Tb=>by
  have XD:0<=B:=ez b4 hB
  have Vt:B*2^(23*(x::r).length)=B*2^23*2^(23*r.length):=by
   rw[ba,Nat.mul_add,Au,Int.pow_add,Int.mul_assoc]
  rw[Vt]at Tb
  have ui:B<=B*2^23:=by
   have e2:(2:Int)^23=8388608:=by decide
   rw[e2];exact G
  have hBt:B*2^23<=2^1900:=by
   refine ez ?_ Tb;have:=Int.mul_le_mul_of_nonneg_left (Tf (23*r.length)) (ez XD ui);rw[Int.mul_one]at this;exact this
  have _l:B<=2^1900:=ez ui hBt
  have up:∀{rs:List Int},tP (B+10^31) rs->tP (B*2^23) rs:=fun h=>h.more (by
   have e2:(2:Int)^23=8388608:=by decide
   rw[e2];generalize (10:Int)^31=D at hB
   exact G)
  have Vi:∀ u∈wa x,IM u/\∀ y∈u.names,y∈ns:=fun u hu=>by
   unfold wa at hu
   split at hu
   .rw[aI.mp hu]
    exact Te hN h8 hT
   cases hu
  obtain⟨s0,rs,rfl⟩:∃ s0 rs,st=s0++[rs]:=by
   have hne:st≠[]:=fun z=>by rw[z]at ic;have ic:(0:Int)=a+1:=ic;exact G
   exact⟨_,_,(eK hne).symm⟩
  obtain⟨hM,NN⟩:=h1 rs (pd _ qms);rw[af,c9]at ic;have hr:=hNb.vn;have D0:(0:Int)<=10^31:=by decide
  have n1:x.num<=10^31:=G
  have n2 : -x.num<=10^31:=G
  have deed:∀{D:Dd}{s' tb':List (List Int)}{rs':List Int},kP x.kd D->D ns kr (s0++[rs]) tb (fV x) (wa x) (s'++[rs']) tb'->x.kd∈DV->((cH x.kd a b kl x.i).2.2=kl/\((s'++[rs']).length:Int)=(cH x.kd a b kl x.i).1+1/\0<=(cH x.kd a b kl x.i).1 /\ (tb'.length:Int)=(cH x.kd a b kl x.i).2.1)->i3 ns (B*2^23) (s'++[rs'])->i3 ns (B*2^23) tb' ->
    ∃ kC xs,Runs wK ns ((x::r).map lG) (s0++[rs]) tb kr kC xs/\(∀ m∈kC,gx ns m)/\kC.length=((x::r).filter fL).length /\ xs.length=((x::r).filter jk).length:=fun hK hD hd ⟨c1,c2,c3,c4⟩ o1 o2=>by
   obtain⟨kC,xs,g1,g2,g3,g4⟩:=qm hN h8 hrest c2 c3 c4 (c1.trans KL) o1 o2 (h3.more ui) (ez hB ui) Tb;have e1:fL x=true:=cK hd
   have e2:jk x=false:=gX (fun z=>by
    have:=bP.mp (show DV.all (fun k=>decide (k∉(["ask","worlds"]:List Str)))=true by decide +kernel) _ hd
    exact absurd z (eS this))
   refine⟨_::kC,xs,.deed Vi hK hD g1,fun m hm=>?_,?_,?_⟩
   .rcases ai.mp hm with rfl|hm
    .exact(o1 _ (pd _ qms)).1
    exact g2 m hm
   .rw[fz e1,ba,ba,g3]
   rw[dS (by rw[e2];decide),g4]
  have He:∀{D:List Str->Kept->List Int->ng->List Tr->List Int->Prop} {rs':List Int},kP x.kd (newD D)->D ns kr rs (fV x) (wa x) rs'->x.kd∈(["take","give","lean","pour"]:List Str)->gx ns rs'->tP (B*2^23) rs' ->
    ∃ kC xs,Runs wK ns ((x::r).map lG) (s0++[rs]) tb kr kC xs/\(∀ m∈kC,gx ns m)/\kC.length=((x::r).filter fL).length /\ xs.length=((x::r).filter jk).length:=fun {D rs'} hK hD hd XA hB'=>by
   have ec:cH x.kd a b kl x.i=(a+1,0,kl):=qp hd;refine deed (s':=s0++[rs]) (tb':=[]) hK ⟨s0,rs,rs',rfl,rfl,rfl,hM,hD⟩ ?_ ?_ ((h1.more ui).app fun z hz=>by rw[aI.mp hz];exact⟨XA,hB'⟩) (fun z hz=>nomatch hz)
   .exact bP.mp (show(["take","give","lean","pour"]:List Str).all (fun k=>decide (k∈DV))=true by decide +kernel) _ hd |> eS
   rw[ec];refine⟨Z,?_,by show 0<=a+1;exact G,Z⟩;show(((s0++[rs])++[rs']).length:Int)=a+1+1;rw[af,af];show((s0.length+1+1:Nat):Int)=_;exact G
  have ans:∀{L:gK} {txt:Str},wK x.kd L->L ns rs (wa x) txt->(x.kd="ask"\/x.kd="worlds") ->
    ∃ kC xs,Runs wK ns ((x::r).map lG) (s0++[rs]) tb kr kC xs/\(∀ m∈kC,gx ns m)/\kC.length=((x::r).filter fL).length /\ xs.length=((x::r).filter jk).length:=fun hK hL hd=>by
   have ec:cH x.kd a b kl x.i=(a,b,kl):=by
    unfold cH;rw[bX (by rcases hd with e|e<;>rw[e]<;>decide +kernel),bX (by rcases hd with e|e<;>rw[e]<;>decide +kernel),bX (by rcases hd with e|e<;>rw[e]<;>decide +kernel),bX (fun z=>by rcases hd with e|e<;>rw[e]at z<;>exact absurd z.1 dk)]
   rw[ec]at hrest;obtain⟨kC,xs,g1,g2,g3,g4⟩:=qm hN h8 hrest (by rw[af];show((s0.length+1:Nat):Int)=_;exact G) ha oq KL (h1.more ui) (h2.more ui) (h3.more ui) (ez hB ui) Tb;have e1:fL x=false:=gX (by rcases hd with e|e<;>rw[e]<;>decide +kernel);have e2:jk x=true:=cK (by rcases hd with e|e<;>rw[e]<;>decide +kernel);refine⟨kC,_::xs,.ans Vi rfl hM hK hL g1,g2,?_,?_⟩
   .rw[dS (by rw[e1];decide),g3]
   rw[fz e2,ba,ba,g4]
  have UT:x.kd∈(["take","lean","give","ask"]:List Str)->wa x=[x.tr]:=fun h=>qp h
  have M0:(x.kd="take"\/x.kd="lean")->fV x=.v (.int x.num):=fun h=>qp h
  rcases rM hV.mem with(e|e) | (e|e)|e|e | (e|e|e)
  .obtain⟨y,hy⟩:=tY hM (hV.tk e)
   exact He (D:=fun ns _ rs fg ts rs'=>Do ns rs fg ts rs') (by rw[e];exact .take) ⟨x.num,x.tr,M0 (.inl e),UT (by rw[e];decide +kernel),rfl,.inr ⟨y,hy⟩⟩ (by rw[e];decide +kernel) (hM.PF _ _) (up (JQ hM D0 n1 n2 NN))
  .obtain⟨p,hp⟩:=vK hM (hV.ln e).2
   obtain⟨q,hq⟩:=tY hM (hV.ln e).1;exact He (D:=fun ns _ rs fg ts rs'=>Dq ns rs fg ts rs') (by rw[e];exact .lean) ⟨x.num,x.tr,p,q,M0 (.inr e),UT (by rw[e];decide +kernel),hp,hq,rfl⟩ (by rw[e];decide +kernel) (gx.CU ⟨hM.len,hp,hq⟩ _) (up (rz (gU hM hp) (gU hM hq) D0 n1 n2 NN))
  .obtain⟨y,hy⟩:=vK hM (hV.gv e)
   exact He (D:=fun ns _ rs _ ts rs'=>Dp ns rs ts rs') (by rw[e];exact .give) ⟨x.tr,UT (by rw[e];decide +kernel),rfl,y,hy⟩ (by rw[e];decide +kernel) (hM.Ti _) (up (JP hM D0 NN))
  .refine ans (L:=Kp) (.inl ⟨e,rfl⟩) ⟨x.tr,UT (by rw[e];decide +kernel),rfl,fun m y hm hy=>K4 hM NN _l hm hy⟩ (.inl e)
  . -- keep
    have ep:fV x=.v (.str (eQ x.i)):=by
     unfold fV;rw[bX (by rw[e];decide +kernel),qp e]
    have et:wa x=[]:=bX (by rw[e];decide +kernel)
    have ec:cH x.kd a b kl x.i=(a,b,(jO kr (eQ x.i) rs).map (·.1)):=by
     unfold cH;rw[bX (by rw[e];decide +kernel),bX (by rw[e];decide +kernel),bX (by rw[e];decide +kernel),K1,<- KL]
     by_cases m:eQ x.i∈kl
     .rw[bX (fun z=>z.2 m),qp m]
     rw[qp ⟨e,m⟩,bX m]
    rw[ec]at hrest;obtain⟨kC,xs,g1,g2,g3,g4⟩:=qm hN h8 hrest (by rw[af];show((s0.length+1:Nat):Int)=_;exact G) ha oq rfl (h1.more ui) (h2.more ui) ((K3 h3 ⟨hM,NN⟩).more ui) (ez hB ui) Tb;have e1:fL x=false:=gX (by rw[e];decide +kernel);have e2:jk x=false:=gX (by rw[e];decide +kernel);refine⟨kC,xs,?_,g2,?_,?_⟩
    .show Runs wK ns ((x.kd,fV x,wa x):: r.map lG) _ _ _ _ _
     rw[ep,et,e];exact .keep rfl g1
    .rw[dS (by rw[e1];decide),g3]
    rw[dS (by rw[e2];decide),g4]
  .obtain⟨rs',p1,p2,p3⟩:=Ot (KL ▸ xk (hV.pr e)) hM NN h3 hB _l
   have ep:fV x=.ps (x.prs.map fun p=>(p.2,p.1)):=by
    unfold fV;rw[bX (by rw[e];decide +kernel),bX (by rw[e];decide +kernel),qp e]
   exact He (D:=fun ns kr rs fg _ rs'=>wB ns kr rs fg rs') (by rw[e];exact .DO) (by rw[ep];exact p1) (by rw[e];decide +kernel) p2 p3
  . -- back
    have hne:s0≠[]:=fun z=>by
     rw[z]at ic;have ic:(1:Int)=a+1:=ic;exact hV.bk e G
    obtain⟨s',rs',rfl⟩:∃ s' rs',s0=s'++[rs']:=⟨_,_,(eK hne).symm⟩
    have ec:cH x.kd a b kl x.i=(a-1,b+1,kl):=by
     unfold cH;rw[bX (by rw[e];decide +kernel),qp e]
    refine deed (D:=wC) (s':=s') (rs':=rs') (tb':=tb++[rs]) (by rw[e];exact .back) ⟨_,rs,rfl,hne,rfl,rfl⟩ (by rw[e];decide +kernel) ?_ (i3.more (B:=B) (l:=s'++[rs']) (fun z hz=>h1 z (w9 _ hz)) ui) ((h2.more ui).app fun z hz=>by rw[aI.mp hz];exact⟨hM,NN.more ui⟩);rw[ec];rw[af,c9]at ic;refine⟨Z,?_,by show 0<=a-1;exact G,?_⟩
    .show((s'++[rs']).length:Int)=a-1+1
     rw[af,c9];exact G
    show((tb++[rs]).length:Int)=b+1;rw[af,c9];exact G
  . -- again
    have hne:tb≠[]:=fun z=>by
     rw[z]at oq;have oq:(0:Int)=b:=oq;exact hV.ag e oq.symm
    obtain⟨t0,y,rfl⟩:∃ t0 y,tb=t0++[y]:=⟨_,_,(eK hne).symm⟩
    have ec:cH x.kd a b kl x.i=(a+1,b-1,kl):=by
     unfold cH;rw[bX (by rw[e];decide +kernel),bX (by rw[e];decide +kernel),qp e]
    refine deed (D:=tO) (s':=s0++[rs]) (rs':=y) (tb':=t0) (by rw[e];exact .again) ⟨_,y,rfl,rfl,rfl⟩ (by rw[e];decide +kernel) ?_ ((h1.more ui).app (i3.more (B:=B) (l:=[y]) (fun z hz=>h2 z (pd _ hz)) ui)) (i3.more (B:=B) (l:=t0) (fun z hz=>h2 z (w9 _ hz)) ui);rw[ec];rw[af,c9]at oq;refine⟨Z,?_,by show 0<=a+1;exact G,?_⟩
    .show(((s0++[rs])++[y]).length:Int)=a+1+1
     rw[af,af];show((s0.length+1+1:Nat):Int)=_;exact G
    show(t0.length:Int)=b-1;exact G
  exact ans (L:=uE) (.inr ⟨e,rfl⟩) rfl (.inr e)
def iy(rs:List Int)(side m:Nat):List Int:=((List.range m).filter fun i=>!side.testBit i).map fun i=>rs.getD i 0
theorem Ad(rs:List Int)(side m:Nat):iy rs side (m+1)=iy rs side m++if side.testBit m=true then []else [rs.getD m 0]:=by
 unfold iy;rw[eJ,eM,ar];cases h:side.testBit m with
 |true=>simp[h]
 |false=>simp[h]
theorem Dy(rs:List Int)(side m:Nat):(iy rs side m).length <= m:=by
 unfold iy;rw[dn];refine gV (da _ _) ?_;rw[cE];exact qnr _
theorem Dz(hl:rs.length=2^ns.length):iy rs (aP ns tr) rs.length=sel rs (aU ns tr):=by
 unfold iy sel fH
 congr 1
 refine List.filter_congr fun i hi=>?_
 have hi:=eT.mp hi;rw[hl]at hi;rw[b8,lO,cK hi];simp
inductive C4(vs:List V)(H:Hp)(Q:VK)(E:XK):Prop
 |mk(r:Addr)(rs:List Int)(td:Nat)(_:vs=[.ref r,.int td])(_:H r=some (.tup (rs.map V.int)))(_:rs.length<=256)(_:∀(q l1 l2:Addr)(J:Hp),bb H J->J q=some (.tup [.ref l1,.ref l2])->J l1=some (.lst ((sel rs td).map V.int))->J l2=some (.lst ((iy rs td rs.length).map V.int))->Q (.ref q) J)
theorem HH(T:Txt P w K mg t):FM P w base T.q99 1 C4:=by
 refine T.q99.F.fk (N:=["_law_ranks","_law_told","_law_keeping","_law_breaking"]) eP ?_;rintro nd _ _ _ _ H vs Q E hr ⟨r,rs,td,rfl,BM,hlen,k⟩
 refine⟨_,(aq (gj (i:=2) rfl ["_law_world","_law_rank","_law_told"] [none,none,some 1] nd rfl rfl (mQ (O 0) T.zw) gT (fun _ _ _ _ _ _=>(gD (K:=K) (n:=2) rfl rfl (bH (iq 0 (kG (l:=["_law_world","_law_rank","_law_told"]))) (bH (iq 1 (kG (l:=["_law_world","_law_rank","_law_told"]))) dI)))) (fun _ _ _ _ _ _=>gC (aF aV (aD gP (aD rP (ja 2) (O 0)) ak) ak (aH _))) (fun _ _ _ _ _ _=>(O 1)))
   (aq (gj (i:=3) rfl ["_law_world","_law_rank","_law_told"] [none,none,some 1] nd rfl rfl (mQ (O 0) T.zw) gT (fun _ _ _ _ _ _=>(gD (K:=K) (n:=2) rfl rfl (bH (iq 0 (kG (l:=["_law_world","_law_rank","_law_told"]))) (bH (iq 1 (kG (l:=["_law_world","_law_rank","_law_told"]))) dI)))) (fun _ _ _ _ _ _=>gC (aF aV (aD gP (aD rP (ja 2) (O 0)) ak) ak (aH _))) (fun _ _ _ _ _ _=>(O 1)))
   (au (aC (bu (aa (O 2) (aa (O 3) aj))))))),?_⟩
 refine⟨_,Z,r,Z,⟨_,SqT.of BM⟩,?_⟩;refine jc (K:=K) (a:=r) (xs:=rs.map V.int) (fun i ys J=>bb H J/\ys=(fH rs td i).map V.int) ⟨bb.refl _,rfl⟩ (lk (by rw[dn];exact G)) (fun i ys J ⟨_,e⟩=>by rw[e,dn];exact uZ _ _ _) (fun i ys J ⟨s1,_⟩=>SqT.of (s1 _ _ BM)) ?_ ?_
 .rintro i y ys H1 hi ⟨s1,rfl⟩ e he
  rw[lS]at hi
  obtain⟨x,hx,rfl⟩:∃ x,rs[i]?=some x/\y=V.int x:=by
   cases q:rs[i]? with
   |none=>rw[q]at hi;cases hi
   |some x=>rw[q]at hi;exact⟨x,Z,(kF hi).symm⟩
  have s2:=s1.trans (aA (o:=.tup [.int i,.int x]) he);refine⟨e,_,Z,SqT.of ao,Z,_,_,Z,_,_,Z,Z,⟨Z,trivial⟩,?_⟩;refine⟨_,Z,_,Z,_,_,Z,Z,gi i,_,_,Z,Z,?_⟩
  try dsimp -proj -iota only
  rw[CN];unfold gr;rw[sJ];have ex:rs.getD i 0=x:=by rw[List.getD,hx];rfl
  cases hb:td.testBit i with
  | true =>
   refine⟨Z,_,Z,bN ?_⟩;refine⟨_,Z,s2,?_⟩;rw[qp rfl,ar,ex]
   rfl
  | false =>
   refine⟨Z,_,Z,bz ⟨s2,?_⟩⟩;rw[bX b4,cn]
 rintro ys H1 ⟨s1,rfl⟩ l1 ow;rw[dn];have s2:=s1.trans (aA (o:=.lst ((fH rs td rs.length).map V.int)) ow);have xo:(upd H1 l1 (.lst ((fH rs td rs.length).map V.int))) l1=some (.lst ((fH rs td rs.length).map V.int)):=ao;generalize upd H1 l1 (.lst ((fH rs td rs.length).map V.int))=H2 at s2 xo ⊢;refine⟨_,Z,r,Z,⟨_,SqT.of (s2 _ _ BM)⟩,?_⟩;refine jc (K:=K) (a:=r) (xs:=rs.map V.int) (fun i ys J=>bb H2 J/\ys=(iy rs td i).map V.int) ⟨bb.refl _,rfl⟩ (lk (by rw[dn];exact G)) (fun i ys J ⟨_,e⟩=>by rw[e,dn];exact Dy _ _ _) (fun i ys J ⟨s1,_⟩=>SqT.of (s1 _ _ (s2 _ _ BM))) ?_ ?_
 .rintro i y ys H1 hi ⟨s1,rfl⟩ e he
  rw[lS]at hi
  obtain⟨x,hx,rfl⟩:∃ x,rs[i]?=some x/\y=V.int x:=by
   cases q:rs[i]? with
   |none=>rw[q]at hi;cases hi
   |some x=>rw[q]at hi;exact⟨x,Z,(kF hi).symm⟩
  have s2:=s1.trans (aA (o:=.tup [.int i,.int x]) he);refine⟨e,_,Z,SqT.of ao,Z,_,_,Z,_,_,Z,Z,⟨Z,trivial⟩,?_⟩;refine⟨_,Z,_,Z,_,_,Z,Z,gi i,_,_,Z,Z,?_⟩
  try dsimp -proj -iota only
  rw[CN];unfold gr;rw[Ad];have ex:rs.getD i 0=x:=by rw[List.getD,hx];rfl
  cases hb:td.testBit i with
  | true =>
   refine⟨Z,_,Z,bz ⟨s2,?_⟩⟩;rw[qp rfl,cn]
  | false =>
   refine⟨Z,_,Z,bN ?_⟩;refine⟨_,Z,s2,?_⟩;rw[bX b4,ar,ex]
   rfl
 rintro ys H3 ⟨s3,rfl⟩ l2 l8;rw[dn];have s4:=aA (o:=.lst ((iy rs td rs.length).map V.int)) l8;refine⟨_,Z,_,Z,lk obz,fun q hq=>?_⟩;have s5:=aA (o:=.tup [.ref l1,.ref l2]) hq;exact k q l1 l2 _ (((s2.trans s3).trans s4).trans s5) ao (s5 _ _ (s4 _ _ (s3 _ _ xo))) (s5 _ _ ao)
inductive VY(vs:List V)(H:Hp)(Q:VK)(E:XK):Prop
 |mk(p:Addr)(ns:List Str)(wd:Nat)(_:vs=[.ref p,.int (wd:Int)])(_:H p=some (.tup (ns.map V.str)))(_:ns.length<=8)(_:∀ J,bb H J->Q (.str (iw ns.length wd)) J)
inductive PU(vs:List V)(H:Hp)(Q:VK)(E:XK):Prop
 |mk(a p r:Addr)(ns:List Str)(rs:List Int)(_:vs=[.ref a])(_:cq H a p r rs)(_:H p=some (.tup (ns.map V.str)))(_:ns.length<=8)(_:∀ J,bb H J->Q (.str (mY ns.length rs)) J)
inductive L0(vs:List V)(H:Hp)(Q:VK)(E:XK):Prop
 |mk(a p r:Addr)(v:V)(ns:List Str)(rs:List Int)(tr:Tr)(_:vs=[.ref a,v,.str (ux rs ns tr)])(_:cq H a p r rs)(_:gx ns rs)(_:H p=some (.tup (ns.map V.str)))(_:ns.length<=8)(_:eD H v tr)(_:tr.depth<=5)(_:(∀ x∈tr.names,x∈ns))(_:(∀ m y,aQ (sel rs (aU ns tr))=some m->aQ (sel rs (aP ns tr))=some y->(m-y).natAbs.log2<1920))(_:∀ J,bb H J->Q (.bl true) J)
theorem mZ(x:Str){y:Str}(h:x=y):decide (V.str x=V.str y)=true:=cK (by rw[h])
theorem RK(T:Txt P w K mg t):FM P w base T.q110 1 VY:=by
 refine T.q110.F.fk (N:=["_law_names","_law_world"]) eP ?_;rintro nd _ _ _ _ _ _ _ _ hr ⟨p,ns,wd,rfl,hp,h8,k⟩;refine⟨_,(au (aC (bY PySem.F.plainAttrs_str PySem.F.slot_str_join PySem.F.type_str_join jm az (aa (bM rfl ["_law_k","_law_world"] [none,some 1] (gF T.zp (aa (aY aX T.zd Bt.len (aa (O 0) aj)) aj)) gT (fun _ _ _ _ _ _=>(iq 0 (kG (l:=["_law_k","_law_world"])))) (fun _ _ _ _ _ _=>bV) (fun _ _ _ _ _ _=>(c7 fY T.zt Bt.str (aa (aD gP (aD rP (ja 1) (O 0)) ak) aj)))) aj)))),?_⟩;have el:(ns.map V.str).length=ns.length:=dn _;refine⟨Z,_,Z,p,_,Z,.inr (SqT.of hp),_,Z,G,by rw[el];exact G,?_⟩;rw[bq,el];refine dz (lo:=0) (n:=ns.length) (fun i=>V.str (toString ((gr wd i:Nat):Int):String)) (gV h8 b4) (fun i R hi hR=>?_) fun l hl=>?_
 .refine⟨⟨Z,trivial⟩,_,Z,_,Z,_,_,Z,Z,(by show(0:Int)<=0+(i:Int);exact G),_,_,Z,Z,?_⟩
  try dsimp -proj -iota only
  rw[gS,CN];exact⟨_,Z,(jL wd i).2,hR⟩
 have em:((List.range ns.length).map fun i=>V.str (toString ((gr wd i:Nat):Int):String))=(((List.range ns.length).map fun(i:Nat)=>((toString ((gr wd i:Nat):Int):String):Str)).map V.str):=by
  rw[dA]
  rfl
 rw[em];refine⟨_,l,_,Z,Z,b3.of ao,?_,k _ (aA hl)⟩;have e0:("":Str).length=0:=rfl;rw[e0,Nat.mul_zero,Nat.add_zero];refine gV (rN (m:=1) fun y hy=>?_) ?_
 .obtain⟨i,_,rfl⟩:=b9.mp hy
  exact As (jL wd i).1
 rw[dn,cE];exact G
theorem QM(T:Txt P w K mg t):FM P w base T.q111 2 PU:=by
 refine T.q111.F.fk (N:=["_law_mind"]) eP ?_;rintro nd _ _ _ _ H _ _ _ hr ⟨a,p,r,ns,rs,rfl,hm,hp,h8,k⟩;refine⟨_,(au (aC (bY PySem.F.plainAttrs_str PySem.F.slot_str_join PySem.F.type_str_join jm az (aa (bM rfl ["_law_world","_law_rank","_law_mind"] [none,none,some 0] (mQ (cy aJ (ja 0) ak) T.zw) gT (fun _ _ _ _ _ _=>(gD (K:=K) (n:=2) rfl rfl (bH (iq 0 (kG (l:=["_law_world","_law_rank","_law_mind"]))) (bH (iq 1 (kG (l:=["_law_world","_law_rank","_law_mind"]))) dI)))) (fun _ _ _ _ _ _=>gC (aF aV (O 1) ak (aH _))) (fun _ _ _ _ _ _=>(eI T.q110 (RK T) hr aK (aa (cy (gZ (K:=K)) (ja 2) ak) (aa (O 0) aj))))) aj)))),?_⟩;refine⟨Z,_,Z,a,_,1,.ref r,Z,Z,SqT.of hm.1,Z,r,Z,⟨_,SqT.of hm.2.1⟩,?_⟩
 refine jc (K:=K) (a:=r) (xs:=rs.map V.int) (fun i ys J=>bb H J/\ys=(((List.range i).filter fun j=>decide (rs.getD j 0=0)).map (iw ns.length)).map V.str) ⟨bb.refl _,rfl⟩ (lk (by rw[dn];have:=hm.2.2;exact G)) (fun i ys J ⟨_,e⟩=>by
  rw[e,dn,dn];refine gV (da _ _) ?_
  rw[cE];exact qnr _) (fun i ys J ⟨s1,_⟩=>SqT.of (s1 _ _ hm.2.1)) ?_ ?_
 .rintro i y ys H1 hi ⟨s1,rfl⟩ e he
  rw[lS]at hi
  obtain⟨x,hx,rfl⟩:∃ x,rs[i]?=some x/\y=V.int x:=by
   cases q:rs[i]? with
   |none=>rw[q]at hi;cases hi
   |some x=>rw[q]at hi;exact⟨x,Z,(kF hi).symm⟩
  have ex:rs.getD i 0=x:=by rw[List.getD,hx];rfl
  have s2:=s1.trans (aA (o:=.tup [.int i,.int x]) he)
  have es:((List.range (i+1)).filter fun j=>decide (rs.getD j 0=0))=((List.range i).filter fun j=>decide (rs.getD j 0=0))++if x=0 then [i]else []:=by
   rw[eJ,eM,Cs,ex]
   by_cases h:x=0
   .rw[cK h,qp rfl,qp h];rfl
   rw[gX h,bX jv,bX h];rfl
  refine⟨e,_,Z,SqT.of ao,Z,_,_,Z,_,_,Z,Z,⟨Z,trivial⟩,?_⟩;refine⟨_,Z,Z,_,Z,aN (fun z=>?_) (fun z=>?_)⟩
  .have z:x=0:=V.int.inj (eS z)
   rw[es,qp z,ar,ar];exact⟨_,Z,a,_,0,.ref p,Z,Z,SqT.of (s2 _ _ hm.1),Z,_,Z,p,ns,i,Z,s2 _ _ hp,h8,fun H3 s3=>⟨s2.trans s3,Z⟩⟩
  have z:¬x=0:=fun e=>z (cK (by rw[e]))
  rw[es,bX z,cn];exact⟨s2,Z⟩
 rintro ys H1 ⟨s1,rfl⟩ l hl;rw[dn];exact⟨_,l,_,Z,Z,b3.of ao,gV (qJ h8 hm.2.2) b4,k _ (s1.trans (aA hl))⟩
theorem QR:ck ["_law_mind","_law_tree","_law_answer","_law_sides_here","_law_lean"] ["_law_mind","_law_tree","_law_answer"] (aR Jv):=eP
theorem Ou(T:Txt P w K mg t):FM P w base T.q112 8 L0:=by
 refine T.q112.F.fk (k:=7) QR ?_;rintro nd _ _ _ _ H _ _ _ hr ⟨a,p,r,v,ns,rs,tr,rfl,hm,hM,hp,h8,ht,hd,hn,yA,k⟩;have hu:=fc hr
 refine⟨_,(aq (fN 3 nd (eI T.q99 (HH T) hr aK (aa (cy aJ (O 0) ak) (aa (eI T.q97 (lU T 5) hr aK (aa (cy aJ (O 0) ak) (aa (O 1) aj))) aj))))
   (aq (aO (aF (nA (gL hu)) (cy aJ (O 3) ak) (bx aj) (aH _))
    (au (aC (cM aV (O 2) az (aH _))))
    aM)
   (aq (aO (aF (nA (gL hu)) (cy aJ (O 3) ak) (bx aj) (aH _))
    (au (aC (cM aV (O 2) az (aH _))))
    aM)
   (aq (fN 4 nd (aD cX (aY (oV rfl) T.zD Bt.min (aa (cy aJ (O 3) ak) aj)) (aY (oV rfl) T.zD Bt.min (aa (cy aJ (O 3) ak) aj))))
   (aq (aO (aF nj (O 4) ak (aH _))
    (au (aC (cM aV (O 2) (aD bC az (c7 fY T.zt Bt.str (aa (O 4) aj))) (aH _))))
    aM)
   (aq (aO (aF ni (O 4) ak (aH _))
    (au (aC (cM aV (O 2) (aD bC az (c7 fY T.zt Bt.str (aa (iW gQ (O 4)) aj))) (aH _))))
    aM)
   (au (aC (cM aV (O 2) az (aH _)))))))))),?_⟩
 refine⟨_,Z,a,_,1,.ref r,Z,Z,SqT.of hm.1,Z,_,Z,a,_,0,.ref p,Z,Z,SqT.of hm.1,Z,_,Z,p,v,ns,tr,Z,hp,h8,ht,hd,hn,fun H1 s1=>⟨r,rs,aP ns tr,Z,s1 _ _ hm.2.1,hm.2.2,fun q l1 l2 H2 s2 hq ow l8=>?_⟩⟩;rw[Dz hM.len]at l8;have mh:=s1.trans s2;generalize hT:ux rs ns tr=txt;unfold ux at hT;refine⟨_,Z,q,_,1,.ref l2,Z,Z,SqT.of hq,Z,lk obz,fun le hle=>?_⟩;have s3:=aA (o:=.lst []) hle;refine⟨l2,le,_,Z,Z,b3.of (s3 _ _ l8),b3.of ao,_,Z,aN (fun z=>?_) (fun z=>?_)⟩
 .have hz:sel rs (aU ns tr)=[]:=List.map_eq_nil_iff.mp (List.isEmpty_iff.mp z)
  have hn:aQ (sel rs (aU ns tr))=none:=by rw[hz];rfl
  rw[hn]at hT;refine⟨_,Z,Z,?_⟩
  try dsimp -proj -iota only
  rw[mZ txt hT.symm];exact k _ (mh.trans s3)
 obtain⟨m,Sn⟩:∃ m,aQ (sel rs (aU ns tr))=some m:=by
  cases e:aQ (sel rs (aU ns tr))with
  |some m=>exact⟨m,Z⟩
  | none =>
   have:sel rs (aU ns tr)=[]:=jU e;exact absurd (by show(List.map V.int (sel rs (aU ns tr))).isEmpty=true;rw[this];rfl) z
 generalize upd H2 le (.lst [])=H3 at s3 ⊢;have pb:=mh.trans s3;refine⟨_,Z,q,_,0,.ref l1,Z,Z,SqT.of (s3 _ _ hq),Z,lk obz,fun Zz W8=>?_⟩;have s4:=aA (o:=.lst []) W8;have xD:=s3.trans s4;refine⟨l1,Zz,_,Z,Z,b3.of (xD _ _ ow),b3.of ao,_,Z,aN (fun z2=>?_) (fun z2=>?_)⟩
 .have hz:sel rs (aP ns tr)=[]:=List.map_eq_nil_iff.mp (List.isEmpty_iff.mp z2)
  have hn:aQ (sel rs (aP ns tr))=none:=by rw[hz];rfl
  rw[Sn,hn]at hT;refine⟨_,Z,Z,?_⟩
  try dsimp -proj -iota only
  rw[mZ txt hT.symm];exact k _ (pb.trans s4)
 obtain⟨y,hy⟩:∃ m,aQ (sel rs (aP ns tr))=some m:=by
  cases e:aQ (sel rs (aP ns tr))with
  |some m=>exact⟨m,Z⟩
  | none =>
   have:sel rs (aP ns tr)=[]:=jU e;exact absurd (by show(List.map V.int (sel rs (aP ns tr))).isEmpty=true;rw[this];rfl) z2
 generalize upd H3 Zz (.lst [])=H4 at s4 xD ⊢;have DL:=pb.trans s4;have p1:0<(sel rs (aU ns tr)).length:=kM (cU Sn).1;have p2:0<(sel rs (aP ns tr)).length:=kM (cU hy).1;refine⟨_,Z,q,_,1,.ref l2,Z,Z,SqT.of (xD _ _ hq),Z,l2,_,Z,b3.of (xD _ _ l8),p1,fun aad a1 a2=>?_⟩;obtain rfl:m=aad:=kF (Sn.symm.trans (lw a1 a2));refine⟨_,Z,q,_,0,.ref l1,Z,Z,SqT.of (xD _ _ hq),Z,l1,_,Z,b3.of (xD _ _ ow),p2,fun aad b1 b2=>?_⟩;obtain rfl:y=aad:=kF (hy.symm.trans (lw b1 b2));rw[Sn,hy]at hT;have hT:tM (m-y)=txt:=hT;have D7:=yA m y Sn hy;refine⟨_,_,Z,Z,?_⟩
 try dsimp -proj -iota only
 generalize m-y=i at hT D7 ⊢;unfold tM at hT;refine⟨_,Z,_,_,Z,Z,_,Z,aN (fun g=>?_) (fun g=>?_)⟩
 .have g:0<i:=eS g
  rw[bX G,qp g]at hT;refine⟨_,Z,_,Z,i,Z,D7,_,_,Z,Z,?_,Z,?_⟩
  .have:=hJ D7
   have e5:("held ":Str).length=5:=by decide +kernel
   rw[e5];exact gV (dP this 5) b4
  try dsimp -proj -iota only
  rw[mZ txt hT.symm];exact k _ DL
 have g:¬0<i:=fun e=>g (cK e)
 refine⟨_,Z,_,_,Z,Z,_,Z,aN (fun g2=>?_) (fun g2=>?_)⟩
 .have g2:i<0:=eS g2
  rw[bX G,bX g]at hT;refine⟨_,Z,_,Z,_,Z,-i,Z,by rw[tw];exact D7,_,_,Z,Z,?_,Z,?_⟩
  .have:=hJ (i:=-i) (by rw[tw];exact D7)
   have e7:("denied ":Str).length=7:=by decide +kernel
   rw[e7];exact gV (dP this 7) b4
  try dsimp -proj -iota only
  rw[mZ txt hT.symm];exact k _ DL
 have g2:¬i<0:=fun e=>g2 (cK e)
 rw[qp G]at hT;refine⟨_,Z,Z,?_⟩
 try dsimp -proj -iota only
 rw[mZ txt hT.symm];exact k _ DL
def jI(H:Hp)(ns:List Str)(v:V)(rs:List Int):Prop:=∃ a nb r,v=.ref a/\cq H a nb r rs/\H nb=some (.tup (ns.map V.str))
theorem jI.tups(s:gc H J):jI H ns v rs->jI J ns v rs:=fun⟨a,nb,r,e,h,h2⟩=>⟨a,nb,r,e,⟨s _ _ h.1,s _ _ h.2.1,h.2.2⟩,s _ _ h2⟩
inductive spLaw(K:W.Frag)(vs:List V)(H:Hp)(Q:VK)(E:XK):Prop
 |mk(a:Addr)(ns:List Int)(_:vs=[.ref a])(_:b3 K H a (ns.map V.int))(_:ns.length<=63)(_:∀ J,Q (.bl true) J)
inductive Bi(vs:List V)(H:Hp)(Q:VK)(E:XK):Prop
 |mk(q al ml:Addr)(xs:List Str)(ms:List V)(a d:Int)(_:vs=[.ref q,.int a,.int d])(_:H q=some (.tup [.ref al,.ref ml]))(_:H al=some (.lst (xs.map V.str)))(_:H ml=some (.lst ms))(_:a=(xs.length:Int))(_:d=(ms.length:Int))(_:Q (.bl true) H)
theorem Ae{na nb r q:Addr}(h1:cq H a na r rs)(h2:cq H b nb q rs)(e1:H na=some (.tup (ns.map V.str)))(e2:H nb=some (.tup (ns.map V.str))):xx K H (.ref a) (.ref b):=by
 refine⟨a,b,_,_,Z,Z,.inl ⟨SqT.of h1.1,SqT.of h2.1⟩,Z,fun j x y z1 z2=>?_⟩
 match j with
 | 0=>cases z1;cases z2;exact Jd (SqT.of e1) (SqT.of e2) 59
 | 1=>cases z1;cases z2;exact Jc (SqT.of h1.2.1) (SqT.of h2.2.1) 59
 |j+2=>cases z1
theorem tZ{ns:List Str}(hN:Names ns):∀(pls:List Pl)(k:Nat),(∀ x∈pls,PlOk ns x)->Paired Ds (((pls.map dB).zipIdx k).map fun(x:Str×Nat)=>(x.2,x.1)) (pls.map lG)
 |[],_,_=>.nil
 |x::r,k,h=>.cons (KQ hN (h x qms) k) (tZ hN r (k+1) fun y hy=>h y (k_ _ hy))
theorem HJ(hN:Names ns)(h1:1<=ns.length){pls:List Pl}(hok:∀ x∈pls,PlOk ns x):p7 (mC ns pls)=(0,("names" ++ " "++Txt.join " " ns)):: (((pls.map dB).zipIdx 1).map fun(x:Str×Nat)=>(x.2,x.1)):=by
 have OM:∀ n∈ns,isName n=true:=fun n hn=>lZ (hN.nm n hn)
 have hne:ns≠[]:=fun z=>by rw[z]at h1;exact absurd h1 b4
 unfold mC;rw[Og (df _ _) fun p hp=>?_]
 .rfl
 rcases ai.mp hp with rfl|hp
 .exact gb nL.2.1 nL.2.2 (jj hne fun n hn=>ie (OM n hn))
 obtain⟨x,hx,rfl⟩:=b9.mp hp;exact Ht hN (hok x hx)
theorem HN(hN:Names ns)(h1:1<=ns.length)(h8:ns.length<=8){pls:List Pl}(hok:∀ x∈pls,PlOk ns x)(_m:pls.length<=90): ∃(r0:Str) (rest:List (Nat×Str)),(mC ns pls).length <= fQ/\p7 (mC ns pls)=(0,r0):: rest/\r0.length<=fQ/\cQ r0="names"/\fU (b7 (bW r0))=true/\b7 (bW r0)=ns/\rest.length<=300/\Paired Ds rest (pls.map lG):=by
 have OM:∀ n∈ns,isName n=true:=fun n hn=>lZ (hN.nm n hn)
 have hne:ns≠[]:=fun z=>by rw[z]at h1;exact absurd h1 b4
 have hj:Clean (Txt.join " " ns):=jj hne fun n hn=>ie (OM n hn)
 obtain⟨f1,f2⟩:=gW nL.1 hj.vE;have hw:=words_of hne OM;obtain⟨n1,n2⟩:=vI hN h8;have l5:("names":Str).length=5:=by decide +kernel
 have l1:(" ":Str).length=1:=by decide +kernel
 have lr:("names" ++ " "++Txt.join " " ns:Str).length <= 205:=by
  rw[aE,aE];exact G
 have hlen:(mC ns pls).length <= fQ:=by
  unfold mC;refine gV (rJ _ _) ?_
  have hs:=tV (ys:=("names" ++ " "++Txt.join " " ns):: pls.map dB) (m:=205) fun y hy=>by
   rcases ai.mp hy with rfl|hy
   .exact lr
   obtain⟨x,hx,rfl⟩:=b9.mp hy;exact rK hN (hok x hx)
  have ln:("\n":Str).length=1:=by decide +kernel
  rw[ba,dn]at hs ⊢;rw[ln];have:(pls.length+1)*205<=91*205:=gE _ G;have hm:30000<=fQ:=by decide
  exact G
 refine⟨_,_,hlen,HJ hN h1 hok,gV lr b4,f1,?_,?_,?_,tZ hN pls 1 hok⟩
 .rw[f2,hw]
  exact Oo hN h1 h8
 .rw[f2,hw]
 rw[dn,List.length_zipIdx,dn];exact G
theorem vL{x:V}:jI H ns x rs->jI H ns y rs->xx K H x y:=fun⟨_,_,_,e1,h1,n1⟩ ⟨_,_,_,e2,h2,n2⟩=>by
 subst e1 e2;exact Ae h1 h2 n1 n2
theorem dm(s:gc H J)(h:Paired (jI H ns) vs rss):Paired (jI J ns) vs rss:=Paired.iA h fun _ _ z=>z.tups s
inductive Bn(vs:List V)(H:Hp)(Q:VK)(E:XK):Prop
 |mk(sl ul b:Addr)(v:V)(q:Addr)(us:List V)(kx:Str)(ns:List Str)(kr:Kept)(fg:ng)(ts:List Tr)(sv bv:List V)(st tb s' tb':List (List Int))(rs':List Int)(D:Dd)(_:vs=[.ref q,.ref sl,.ref ul,.ref b])(_:H q=some (.tup (.str kx::us)))(_:H sl=some (.lst sv))(_:H ul=some (.lst bv))(_:sl≠ul)(_:sv.length<=400)(_:bv.length<=400)(_:Paired (jI H ns) sv st)(_:Paired (jI H ns) bv tb)(_:jI H ns (.ref b) rs')(_:kP kx D)(_:D ns kr st tb fg ts (s'++[rs']) tb')(_:∀(Ux bv':List V)(J:Hp),(∀ c o,H c=some o->c≠sl->c≠ul->J c=some o)->J sl=some (.lst Ux)->J ul=some (.lst bv')->Paired (jI J ns) Ux (s'++[rs'])->Paired (jI J ns) bv' tb'->Q (.bl true) J)
theorem DG(T:Txt P w K mg t):FM P w base T.q108 1 Bi:=by
 refine T.q108.F.fk (N:=["_law_found","_law_answers","_law_deeds","_law_line"]) eP ?_;rintro nd _ _ _ _ H _ _ _ hr ⟨q,al,ml,xs,ms,a,d,rfl,hq,pj,ua,ea,ed,k⟩
 refine ⟨_,(aq (aO (PW.pt (dH (cW (cz (aY gk T.zr Bt.isinstance (aa (O 0) (aa (jT (v:=.ty "tuple") T.zn Bt.tuple rfl) aj))))) (dH (aF gY (aY aX T.zd Bt.len (aa (O 0) aj)) ak (aH _)) (dH (cW (cz (aY gk T.zr Bt.isinstance (aa (cy aJ (O 0) ak) (aa (jT (v:=.ty "list") T.zM Bt.list rfl) aj))))) (eV (aF gY (aY aX T.zd Bt.len (aa (cy aJ (O 0) ak) aj)) (O 1) (aH _)))))))
    (au (aC eF))
    aM)
   (aq (fM l_ rfl (bU (cy aJ (O 0) ak)) (iq 3 nd)
    (au (aO (cW (cz (aY gk T.zr Bt.isinstance (aa (O 3) (aa (jT (v:=.ty "str") T.zt Bt.str rfl) aj)))))
     (au (aC eF))
     aM)))
   (au (aC (oF (aY gk T.zr Bt.isinstance (aa (cy aJ (O 0) ak) (aa (jT (v:=.ty "list") T.zM Bt.list rfl) aj))) (mH (cM aV (aY aX T.zd Bt.len (aa (cy aJ (O 0) ak) aj)) (O 2) (aH _)))))))),?_⟩
 refine⟨_,Z,_,_,_,_,true,Z,Z,.tup hq,Z,_,Z,bz ?_⟩;refine⟨_,Z,q,_,Z,.inr (SqT.of hq),Z,_,Z,aN (fun c=>absurd c (by rw[cK (show V.int (([V.ref al,V.ref ml].length:Nat):Int)=V.int 2 from rfl)];decide)) (fun _=>?_)⟩;refine⟨_,Z,q,_,0,_,Z,Z,SqT.of hq,Z,_,_,_,_,true,Z,Z,.lst pj,Z,_,Z,bz ?_⟩;refine⟨_,Z,q,_,0,_,Z,Z,SqT.of hq,Z,al,_,Z,.inl (b3.of pj),_,Z,Z,_,Z,aN (fun c=>absurd c (by rw[cK (show V.int (((xs.map V.str).length:Nat):Int)=V.int a by rw[dn,ea])];decide)) (fun _=>?_)⟩;refine⟨_,Z,q,_,0,_,Z,Z,SqT.of hq,Z,al,Z,⟨_,b3.of pj⟩,gf (K:=K) (a:=al) (xs:=xs.map V.str) (fun i M J=>∃ o:Option V,M=[some (.ref q),some (.int a),some (.int d),o]/\J=H) ⟨none,Z,Z⟩ (fun i M J _ ⟨_,_,e⟩=>by subst e;exact b3.of pj) ?_ ?_⟩
 .rintro i y M J hi ⟨o,rfl,e⟩
  have e:=e.symm;subst e;rw[lS]at hi
  obtain⟨c,hc,rfl⟩:∃ c,xs[i]?=some c/\y=V.str c:=by
   cases q:xs[i]? with
   |none=>rw[q]at hi;cases hi
   |some c=>rw[q]at hi;exact⟨c,Z,(kF hi).symm⟩
  refine⟨_,Z,_,_,_,_,true,Z,Z,.str _,Z,_,Z,bz ?_⟩;exact⟨_,Z,Z⟩
 rintro M J ⟨o,rfl,e⟩;have e:=e.symm;subst e;refine⟨_,Z,q,_,1,_,Z,Z,SqT.of hq,Z,_,_,_,_,true,Z,Z,.lst ua,Z,_,Z,?_⟩;rw[qp rfl];refine⟨_,Z,q,_,1,_,Z,Z,SqT.of hq,Z,ml,_,Z,.inl (b3.of ua),_,Z,Z,?_⟩
 try dsimp -proj -iota only
 rw[cK (show V.int ((ms.length:Nat):Int)=V.int d by rw[ed])];exact k
theorem DK(T:Txt P w K mg t):FM P w base T.q113 1 Bn:=by
 refine T.q113.F.fk (N:=["_law_plan","_law_standing","_law_undone","_law_mind"]) eP ?_;rintro nd _ _ _ _ H _ _ _ hr ⟨sl,ul,b,v,q,us,kx,ns,kr,fg,ts,sv,bv,st,tb,s',tb',rs',D,rfl,WO,hsl,t9,hne,hsv,hbv,ic,oq,hb,hK,hD,k⟩
 refine⟨_,(aq (aO (aF aV (cy aJ (O 0) ak) az (aH _))
    (aq (bw (bY PySem.F.plainAttrs_list PySem.F.slot_list_append PySem.F.type_list_append cD (O 2) (aa (ir PySem.F.plainAttrs_list PySem.F.slot_list_pop PySem.F.type_list_pop iZ (O 1)) aj)))
    (au (aC (cM (Aw hr.units) (O 3) (cy bj (O 1) (iW gQ ak)) (aH _)))))
    aM)
   (aq (aO (aF aV (cy aJ (O 0) ak) az (aH _))
    (aq (bw (bY PySem.F.plainAttrs_list PySem.F.slot_list_append PySem.F.type_list_append cD (O 1) (aa (ir PySem.F.plainAttrs_list PySem.F.slot_list_pop PySem.F.type_list_pop iZ (O 2)) aj)))
    (au (aC (cM (Aw hr.units) (O 3) (cy bj (O 1) (iW gQ ak)) (aH _)))))
    aM)
   (aq (bw (ir PySem.F.plainAttrs_list PySem.F.slot_list_clear PySem.F.type_list_clear Ig (O 2)))
   (aq (bw (bY PySem.F.plainAttrs_list PySem.F.slot_list_append PySem.F.type_list_append cD (O 1) (aa (O 3) aj)))
   (au (aC eF)))))),?_⟩
 refine⟨_,Z,q,_,0,_,Z,Z,SqT.of WO,bh (j:=0) rfl,Z,_,Z,aN (fun z=>?_) (fun z=>?_)⟩
 .have z:kx="back":=V.str.inj (eS z)
  have hD:wC ns kr st tb fg ts (s'++[rs']) tb':=by
   rw[z]at hK;cases hK with
   |back=>exact hD
  obtain⟨s1,rs,rfl,_,rfl,rfl⟩:=hD;obtain⟨CB,y,rfl,h0,hy⟩:=bZ ic;refine⟨_,Z,.inl ⟨Z,_,b3.of t9⟩,_,Z,.inl ⟨Z,_,b3.of hsl⟩,sl,_,y,Z,Z,hsl,oz,?_⟩;rw[eo];have Q1:(upd H sl (.lst CB)) ul=some (.lst bv):=by rw[aB (aS hne)];exact t9
  refine⟨ul,bv,y,Z,Z,Q1,cO G,?_⟩;have t1:gc H (upd H sl (.lst CB)):=iK hsl;have t2:gc H (upd (upd H sl (.lst CB)) ul (.lst (bv++[y]))):=t1.trans (iK Q1);have D3:(upd (upd H sl (.lst CB)) ul (.lst (bv++[y]))) sl=some (.lst CB):=by rw[aB hne,ao]
  have Q2:(upd (upd H sl (.lst CB)) ul (.lst (bv++[y]))) ul=some (.lst (bv++[y])):=ao;have kp:∀ c o,H c=some o->c≠sl->c≠ul->(upd (upd H sl (.lst CB)) ul (.lst (bv++[y]))) c=some o:=fun c o e h1 h2=>by rw[aB h2,aB h1];exact e
  generalize upd (upd H sl (.lst CB)) ul (.lst (bv++[y]))=H2 at t2 D3 Q2 kp ⊢;have BG:=dm t2 h0;obtain⟨sv2,y2,rfl,_,hy2⟩:=bZ BG;exact⟨_,Z,_,Z,1,Z,sl,_,_,y2,Z,Z,b3.of D3,iI sv2 y2,vL (hb.tups t2) hy2,k _ _ H2 kp D3 Q2 BG (bJ (dm t2 oq) (.cons (hy.tups t2) .nil))⟩
 refine⟨_,Z,q,_,0,_,Z,Z,SqT.of WO,bh (j:=0) rfl,Z,_,Z,aN (fun z2=>?_) (fun z2=>?_)⟩
 .have z:kx="again":=V.str.inj (eS z2)
  have hD:tO ns kr st tb fg ts (s'++[rs']) tb':=by
   rw[z]at hK;cases hK with
   |again=>exact hD
  obtain⟨t0,rs,rfl,e1,rfl⟩:=hD;obtain⟨e3,e4⟩:=qc e1 rfl;clear e1;cases e4;subst e3;obtain⟨K',y,rfl,h0,hy⟩:=bZ oq;refine⟨_,Z,.inl ⟨Z,_,b3.of hsl⟩,_,Z,.inl ⟨Z,_,b3.of t9⟩,ul,_,y,Z,Z,t9,oz,?_⟩;rw[eo];have BH:(upd H ul (.lst K')) sl=some (.lst sv):=by rw[aB hne];exact hsl
  refine⟨sl,sv,y,Z,Z,BH,cO G,?_⟩;have t1:gc H (upd H ul (.lst K')):=iK t9;have t2:gc H (upd (upd H ul (.lst K')) sl (.lst (sv++[y]))):=t1.trans (iK BH);have Q2:(upd (upd H ul (.lst K')) sl (.lst (sv++[y]))) ul=some (.lst K'):=by rw[aB (aS hne),ao]
  have D3:(upd (upd H ul (.lst K')) sl (.lst (sv++[y]))) sl=some (.lst (sv++[y])):=ao;have kp:∀ c o,H c=some o->c≠sl->c≠ul->(upd (upd H ul (.lst K')) sl (.lst (sv++[y]))) c=some o:=fun c o e h1 h2=>by rw[aB h1,aB h2];exact e
  generalize upd (upd H ul (.lst K')) sl (.lst (sv++[y]))=H2 at t2 D3 Q2 kp ⊢;exact⟨_,Z,_,Z,1,Z,sl,_,_,y,Z,Z,b3.of D3,iI sv y,vL (hb.tups t2) (hy.tups t2),k _ _ H2 kp D3 Q2 (bJ (dm t2 ic) (.cons (hy.tups t2) .nil)) (dm t2 h0)⟩
 have Nc:∃(D:List Str->Kept->List Int->ng->List Tr->List Int->Prop),newD D ns kr st tb fg ts (s'++[rs']) tb':=by
  have n1:¬kx="back":=fun e=>z (cK (by rw[e]))
  have n2:¬kx="again":=fun e=>z2 (cK (by rw[e]))
  clear WO z z2;cases hK with
  |take=>exact⟨_,hD⟩
  |give=>exact⟨_,hD⟩
  |lean=>exact⟨_,hD⟩
  |DO=>exact⟨_,hD⟩
  |back=>exact absurd rfl n1
  |again=>exact absurd rfl n2
 obtain⟨D',s1,rs,rs'',rfl,e1,rfl,_⟩:=Nc;obtain⟨e3,e4⟩:=qc e1 rfl;clear e1 hD;cases e4;subst e3;refine⟨_,Z,.inl ⟨Z,_,b3.of t9⟩,ul,_,Z,Z,t9,?_⟩;have BH:(upd H ul (.lst [])) sl=some (.lst sv):=by rw[aB hne];exact hsl
 refine⟨_,Z,.inl ⟨Z,_,b3.of BH⟩,_,Z,sl,_,_,Z,Z,BH,cO G,?_⟩;have t1:gc H (upd H ul (.lst [])):=iK t9;have t2:gc H (upd (upd H ul (.lst [])) sl (.lst (sv++[.ref b]))):=t1.trans (iK BH);exact k _ _ _ (fun c o e h1 h2=>by rw[aB h1,aB h2];exact e) ao (by rw[aB (aS hne),ao]) (bJ (dm t2 ic) (.cons (hb.tups t2) .nil)) .nil
theorem K5(ns:List Int)(lo hi:Option Int):∃ cs:List Int,iH (ns.map V.int) lo hi=cs.map V.int/\cs.length<=ns.length:=by
 refine⟨(ns.drop (HT.fF (ns.map V.int).length 0 lo)).take (HT.fF (ns.map V.int).length (ns.map V.int).length hi-HT.fF (ns.map V.int).length 0 lo),?_,?_⟩
 .unfold iH
  rw[List.map_take,List.map_drop]
 rw[bp,cm];exact G
theorem K6{AK:Str->gK->Prop}{fg:ng}{rws:List (Str×ng×List Tr)}{st tb kC:List (List Int)}{kr:Kept}{xs:List Str}(h:Runs AK ns ((kd,fg,ts):: rws) st tb kr kC xs): (∃ D s' rs' tb' HG,kP kd D/\D ns kr st tb fg ts (s'++[rs']) tb'/\kC=rs'::HG/\Runs AK ns rws (s'++[rs']) tb' kr HG xs)\/(∃ L txt s0 rs Ut,st=s0++[rs]/\gx ns rs/\AK kd L/\L ns rs ts txt/\xs=txt::Ut/\Runs AK ns rws st tb kr kC Ut)\/(∃ x s0 rs,kd="keep"/\fg=.v (.str x)/\st=s0++[rs]/\Runs AK ns rws st tb (jO kr x rs) kC xs):=by
 cases h with
 |deed _ h1 h2 h3=>exact .inl ⟨_,_,_,_,_,h1,h2,rfl,h3⟩
 |ans _ h1 h0 h2 h3 h4=>exact .inr (.inl ⟨_,_,_,_,_,h1,h0,h2,h3,rfl,h4⟩)
 |keep h1 h2=>exact .inr (.inr ⟨_,_,_,rfl,rfl,h1,h2⟩)
theorem DN(h:n<=63):(10:Int)^31*2^(23*n)<=2^1900:=by
 have h1:(10^31*2^(23*n):Nat)<=2^103*2^1449:=Nat.mul_le_mul b4 (b6 b4 G)
 have h2:(2^103*2^1449:Nat)<=2^1900:=by
  rw[<- Nat.pow_add];exact b6 b4 b4
 have h3:=AD.mpr (gV h1 h2);rw[mf,gz,gz,gz]at h3;exact h3
theorem yN{pls:List Pl}{f:Pl->Bool}{x:Pl}(h:pls[i]?=some x):((pls.take (i+1)).filter f).length=((pls.take i).filter f).length+(if f x=true then 1 else 0):=by
 rw[rh,h,eM,af]
 congr 1
 show(List.filter f [x]).length=_;cases hz:f x with
 |true=>rw[fz hz];rfl
 |false=>rw[dS (by rw[hz];decide)];rfl
theorem QS(T:Txt P w K mg t):wD P w K mg base t wK:=fun kd L h=>by
 rcases h with⟨rfl,rfl⟩|⟨rfl,rfl⟩
 .exact⟨dk,dk,dk,t.Vw,t.d83,gT,NQ T,T.q83.k,T.q83.b⟩
 exact⟨dk,dk,dk,t.Vv,t.d85,gT,Hy T,T.q85.k,T.q85.b⟩
theorem RL:ck ["_law_script","_law_names","_law_plans","_law_deeds","_law_asks","_law_found","_law_standing","_law_undone","_law_at","_law_spot","_law_plan"] ["_law_script"] (aR Jw):=eP
theorem ok_law(T:Txt P w K mg t):FM P w base T.q114 127 (spLaw K):=by
 have G90:=QD (base:=base) T (QS T);refine T.q114.F.fk (k:=126) RL ?_;rintro nd _ _ _ _ _ _ _ _ hr ⟨a,cs,rfl,hS,hlen,k⟩;have hu:=fc hr
 refine ⟨_, (aq (fN 1 nd (eI T.q109 (JN T) hr aK (aa (O 0) aj)))
   (aq (fN 2 nd (eI T.q105 (Kz T) hr aK (aa (O 1) (aa (iG t7 (O 0) (iM ak) (iM ak)) aj))))
   (aq (fN 3 nd (aY aX T.zd Bt.len (aa (bM rfl ["_law_plan"] [none] (bU (O 2)) gT (fun _ _ _ _ _ _=>(iq 0 (kG (l:=["_law_plan"])))) (fun _ _ _ _ _ _=>gC (aF (sE (K:=K)) (cy (gZ (K:=K)) (O 0) ak) (bu (aa az (aa az (aa az (aa az (aa az (aa az aj))))))) ou)) (fun _ _ _ _ _ _=>(O 0))) aj)))
   (aq (fN 4 nd (aY aX T.zd Bt.len (aa (bM rfl ["_law_plan"] [none] (bU (O 2)) gT (fun _ _ _ _ _ _=>(iq 0 (kG (l:=["_law_plan"])))) (fun _ _ _ _ _ _=>gC (aF (sE (K:=K)) (cy (gZ (K:=K)) (O 0) ak) (bu (aa az (aa az (aa az aj)))) ou)) (fun _ _ _ _ _ _=>(O 0))) aj)))
   (aq (fN 5 nd (eI T.q90 G90 hr aK (aa (eI T.q107 (Hm T) hr aK (aa (O 1) (aa (O 2) aj))) aj)))
   (aq (aO (cW (cz (eI T.q108 (DG T) hr aK (aa (O 5) (aa (O 4) (aa (O 3) aj))))))
    (au (aC eF))
    aM)
   (aq (fN 6 nd (bx (aa (bu (aa (O 1) (aa (c7 di T.zn Bt.tuple (aa (bM rfl ["_law_world"] [none] (gF T.zp (aa (aD gO ak (aY aX T.zd Bt.len (aa (O 1) aj))) aj)) gT (fun _ _ _ _ _ _=>(iq 0 (kG (l:=["_law_world"])))) (fun _ _ _ _ _ _=>bV) (fun _ _ _ _ _ _=>ak)) aj)) aj))) aj)))
   (aq (fN 7 nd (bx aj))
   (aq (fN 8 nd ak)
   (aq (fN 9 nd ak)
   (aq (fM l_ rfl (bU (O 2)) (iq 10 nd)
    (au (aO (aF fX (cy aJ (O 10) ak) (bu (aa az (aa az (aa az (aa az (aa az (aa az aj))))))) ou)
     (aq (aO (PW.pt (dH (cW (cz (eI T.q98 (CZ T) hr aK (aa (cy bj (cy aJ (O 5) ak) (O 8)) (aa (O 1) aj))))) (eV (cW (cz (eI T.q113 (DK T) hr aK (aa (O 10) (aa (O 6) (aa (O 7) (aa (cy bj (cy aJ (O 5) ak) (O 8)) aj))))))))))
      (au (aC eF))
      aM)
     (au (fN 8 nd (aD cN (O 8) ak))))
     (au (aO (aF fX (cy aJ (O 10) ak) (bu (aa az (aa az aj))) ou)
      (aq (aO (PW.pt (gw (aF aV (cy aJ (O 10) ak) az (aH _)) (fu (aF gY (cy bj (cy aJ (O 5) ak) (O 9)) (eI T.q111 (QM T) hr aK (aa (cy bj (O 6) (iW gQ ak)) aj)) (aH _)))))
       (au (aC eF))
       aM)
      (aq (aO (PW.pt (gw (aF aV (cy aJ (O 10) ak) az (aH _)) (fu (cW (cz (eI T.q112 (Ou T) hr aK (aa (cy bj (O 6) (iW gQ ak)) (aa (cy aJ (O 10) ak) (aa (cy bj (cy aJ (O 5) ak) (O 9)) aj)))))))))
       (au (aC eF))
       aM)
      (au (fN 9 nd (aD cN (O 9) ak)))))
      aM)))))
   (au (aC eF))))))))))))),?_⟩
 refine⟨_,Z,a,cs,Z,hS,fun np ns H1 s01 lT h1 h8 hN=>?_⟩;obtain⟨ds,OS,Xl⟩:=K5 cs (some 1) (some 91);refine⟨_,Z,_,Z,_,Z,_,Z,a,_,Z,s01.seq hS,fun ls hls=>?_⟩;rw[OS];have mh:=aA (o:=.lst (ds.map V.int)) hls;refine⟨np,ls,ns,ds,Z,mh _ _ lT,h1,h8,ao,G,fun pl us pls H3 GV ij hP D5 UY=>?_⟩;have pb:=mh.trans GV;have h63:pls.length<=63:=G
 have hok:=Br D5 (fun x hx=>nomatch hx);have t9:us.length=pls.length:=a_ hP;have Iy:=pb _ _ lT;refine⟨_,Z,pl,Z,⟨_,b3.of ij⟩,?_⟩
 refine cF (K:=K) (a:=pl) (xs:=us) (fun i ys J=>bb H3 J/\ys.length=((pls.take i).filter fL).length) ⟨bb.refl _,rfl⟩ (lk G) (fun i ys J ⟨_,e⟩=>by
  rw[e];have:=da fL (pls.take i);rw[bp]at this
  exact G) (fun i ys J ⟨s',_⟩=>b3.of (s' _ _ ij)) ?_ ?_
 .rintro i y ys H4 hi ⟨xD,hY⟩
  obtain⟨x,hx,MX⟩:=bD hP i y hi;obtain⟨q,pa,vt,vo,ws,rfl,hq,_⟩:=MX;have nS:qE (.str x.kd) [V.str "take",V.str "give",V.str "lean",V.str "pour",V.str "back",V.str "again"]=fL x:=gA (fun kd=>qE (.str kd) [V.str "take",V.str "give",V.str "lean",V.str "pour",V.str "back",V.str "again"]==decide (kd∈DV)) dk (hok x (qB hx)).mem |> eq_of_beq
  refine⟨trivial,_,Z,q,_,0,.str x.kd,Z,Z,SqT.of (xD _ _ hq),Z,lk obz,fun q1 hq1=>⟨q1,_,Z,.inr (SqT.of ao),Z,Z,?_⟩⟩;have V3:=aA (o:=.tup [V.str "take",V.str "give",V.str "lean",V.str "pour",V.str "back",V.str "again"]) hq1;generalize upd H4 q1 (.tup [V.str "take",V.str "give",V.str "lean",V.str "pour",V.str "back",V.str "again"])=H5 at V3 ⊢;rw[bX jv,nS];have et:=yN (f:=fL) hx;refine⟨_,Z,aN (fun z=>?_) (fun z=>?_)⟩
  .refine⟨_,Z,xD.trans V3,?_⟩
   rw[et,qp z,af,hY]
   rfl
  refine⟨xD.trans V3,?_⟩;rw[et,bX z,hY]
  rfl
 rintro dv H4 ⟨xD,hY⟩ dl Xk;rw[t9,bE]at hY;have P7:=xD.trans (aA (o:=.lst dv) Xk);refine⟨dl,_,Z,.inl (b3.of ao),?_⟩;generalize upd H4 dl (.lst dv)=H5 at P7 ⊢;refine⟨_,Z,pl,Z,⟨_,b3.of (P7 _ _ ij)⟩,?_⟩
 refine cF (K:=K) (a:=pl) (xs:=us) (fun i ys J=>bb H5 J/\ys.length=((pls.take i).filter jk).length) ⟨bb.refl _,rfl⟩ (lk G) (fun i ys J ⟨_,e⟩=>by
  rw[e];have:=da jk (pls.take i);rw[bp]at this
  exact G) (fun i ys J ⟨s',_⟩=>b3.of (s' _ _ (P7 _ _ ij))) ?_ ?_
 .rintro i y ys H6 hi ⟨P5,hY⟩
  obtain⟨x,hx,MX⟩:=bD hP i y hi;obtain⟨q,pa,vt,vo,ws,rfl,hq,_⟩:=MX;have nS:qE (.str x.kd) [V.str "ask",V.str "lost",V.str "worlds"]=jk x:=gA (fun kd=>qE (.str kd) [V.str "ask",V.str "lost",V.str "worlds"]==decide (kd∈(["ask","worlds"]:List Str))) dk (hok x (qB hx)).mem |> eq_of_beq
  refine⟨trivial,_,Z,q,_,0,.str x.kd,Z,Z,SqT.of (P5 _ _ (P7 _ _ hq)),Z,lk obz,fun q1 hq1=>⟨q1,_,Z,.inr (SqT.of ao),Z,Z,?_⟩⟩;have V2:=aA (o:=.tup [V.str "ask",V.str "lost",V.str "worlds"]) hq1;generalize upd H6 q1 (.tup [V.str "ask",V.str "lost",V.str "worlds"])=H7 at V2 ⊢;rw[bX jv,nS];have et:=yN (f:=jk) hx;refine⟨_,Z,aN (fun z=>?_) (fun z=>?_)⟩
  .refine⟨_,Z,P5.trans V2,?_⟩
   rw[et,qp z,af,hY]
   rfl
  refine⟨P5.trans V2,?_⟩;rw[et,bX z,hY]
  rfl
 rintro av H6 ⟨P5,hX⟩ al0 Xt;rw[t9,bE]at hX;have P6:=(P7.trans P5).trans (aA (o:=.lst av) Xt);refine⟨al0,_,Z,.inl (b3.of ao),?_⟩;generalize upd H6 al0 (.lst av)=H7 at P6 ⊢;obtain⟨kC,xs,g1,g2,g3,g4⟩:=qm (st:=[fK ns]) (tb:=[]) (kr:=[]) (B:=10^31) hN h8 D5 rfl b4 rfl rfl (fun z hz=>by rw[aI.mp hz];exact⟨Hf ns,fun y hy=>by rw[(eL.mp hy).2];decide⟩) (fun z hz=>nomatch hz) (fun z hz=>nomatch hz) (oi _) (DN h63);refine⟨_,Z,_,Z,pl,np,pl,us,pls,ns,Z,P6 _ _ Iy,h8,P6 _ _ ij,Paired.iA hP fun _ _ w=>w.mono P6,hok,hN,G,fun H8 s78=>?_⟩;obtain⟨r0,rest,f1,f2,f3,f4,f5,f6,f7,f8⟩:=HN hN h1 h8 hok G;refine⟨mC ns pls,0,r0,rest,pls.map lG,ns,kC,xs,Z,f1,f2,f3,f4,f5,f6,h1,h8,hN.nd,f7,f8,g1,fun q al ml Zt ms H9 s89 hq pj ua IA NI=>?_⟩;have V4:=(P6.trans s78).trans s89;have W2:=a_ NI;refine⟨_,Z,_,Z,_,Z,q,al,ml,xs,ms,_,_,Z,hq,pj,ua,G,G,_,Z,bz ?_⟩;have Na:=V4 _ _ Iy;obtain⟨N,Vn⟩:∃ N,N=2^ns.length:=⟨_,rfl⟩
 have sD:N<=256:=Vn ▸ b6 (n:=2) b4 h8;have e1:(1:Int)*2^(((ns.map V.str).length:Nat):Int).toNat=(N:Int):=by rw[dn,bq,Vn];simp
 refine⟨_,Z,_,Z,np,_,Z,.inr (SqT.of Na),_,_,Z,Z,⟨by rw[dn];exact G,by rw[dn];exact G,b4⟩,?_⟩;refine⟨_,Z,by show -(2^62)<=(1:Int)*2^(((ns.map V.str).length:Nat):Int).toNat;rw[e1];exact G,by show(1:Int)*2^(((ns.map V.str).length:Nat):Int).toNat<2^62;rw[e1];exact G,?_⟩
 try dsimp -proj -iota only
 rw[e1,bq];refine dz (n:=N) (fun _=>.int 0) (lk G) (fun i R hi r=>⟨trivial,r⟩) (fun lc yB=>?_)
 have er:((List.range N).map fun _=>V.int 0)=(fK ns).map V.int:=by
  unfold fK;rw[<- Vn,List.map_const',cE];simp
 rw[er];have u1:=aA (o:=.lst ((fK ns).map V.int)) yB;refine⟨lc,_,Z,.inl ⟨b3.of ao,fun r2 hr2=>⟨lk obz,fun mq hmq=>⟨lk obz,fun sl hsl=>⟨lk obz,fun ul HM=>?_⟩⟩⟩⟩⟩;have u2:=aA (o:=.tup ((fK ns).map V.int)) hr2;have u3:=aA (o:=.tup [.ref np,.ref r2]) hmq;have CS:=(u1.trans u2).trans u3;have KA:jI (upd (upd (upd H9 lc (.lst ((fK ns).map V.int))) r2 (.tup ((fK ns).map V.int))) mq (.tup [.ref np,.ref r2])) ns (.ref mq) (fK ns):=⟨mq,np,r2,rfl,⟨ao,u3 _ _ ao,by unfold fK;rw[c_,<- Vn];exact sD⟩,CS _ _ Na⟩
 generalize upd (upd (upd H9 lc (.lst ((fK ns).map V.int))) r2 (.tup ((fK ns).map V.int))) mq (.tup [.ref np,.ref r2])=HA at CS KA hsl HM ⊢;have u4:=aA (o:=.lst [.ref mq]) hsl;have u5:=aA (o:=.lst []) HM;have fsl:H9 sl=none:=CS.free hsl;have ful:H9 ul=none:=(CS.trans u4).free HM;have HZ:(upd (upd HA sl (.lst [.ref mq])) ul (.lst [])) sl=some (.lst [.ref mq]):=u5 _ _ ao;have QY:(upd (upd HA sl (.lst [.ref mq])) ul (.lst [])) ul=some (.lst []):=ao;have nsu:sl≠ul:=aG ao HM;have V1:=(CS.trans u4).trans u5;have KA:=KA.tups (u4.trans u5).tups;generalize upd (upd HA sl (.lst [.ref mq])) ul (.lst [])=HB at V1 HZ QY KA ⊢;have Sa:=V4 _ _ ij;have hP9:Paired (i6 pl H9) us pls:=Paired.iA hP fun _ _ w=>w.mono V4
 refine⟨_,rfl,pl,rfl,⟨_,b3.of (V1 _ _ Sa)⟩,gf (K:=K) (a:=pl) (xs:=us)
  (fun i M J=>E10 fun(QE:Option V)(sv bv:List V)(st tb:List (List Int))(kr:Kept)(m1 m2:List (List Int))(x1 x2:List Str)=>C10 (M=[some (.ref a),some (.ref np),some (.ref pl),some (.int (dv.length:Nat)),some (.int (av.length:Nat)),some (.ref q),some (.ref sl),some (.ref ul),some (.int (m1.length:Nat)),some (.int (x1.length:Nat)),QE]) (bb H9 J) (J sl=some (.lst sv)) (J ul=some (.lst bv)) (Paired (jI J ns) sv st) (Paired (jI J ns) bv tb) (Runs wK ns ((pls.drop i).map lG) st tb kr m2 x2) (kC=m1++m2) (xs=x1++x2) ((st.length<=i+1/\tb.length<=i)))
  ⟨none,[.ref mq],[],[fK ns],[],[],[],kC,[],xs,rfl,V1,HZ,QY,.cons KA .nil,.nil,g1,rfl,rfl,qnr _,qnr _⟩ (fun i M J _ ⟨_,_,_,_,_,_,_,_,_,_,_,s',_,_,_,_,_,_,_,_⟩=>b3.of (s' _ _ Sa)) ?_ ?_⟩
 .rintro i y M HC hi ⟨QE,sv,bv,st,tb,kr,m1,m2,x1,x2,rfl,Zm,WI,WB,ic,oq,hRu,hmss,hxs,hL1,hL2⟩
  obtain⟨x,hx,MX⟩:=bD hP9 i y hi;have Z6:i<pls.length:=(List.getElem?_eq_some_iff.mp hx).1;have UR:=hok x (qB hx)
  have X1:pls.drop i=x::pls.drop (i+1):=by
   obtain⟨fS,e⟩:=List.getElem?_eq_some_iff.mp hx;rw[js fS,e]
  rw[X1]at hRu;obtain⟨qx,pa,vt,vo,ws,rfl,hqx,Q_,_⟩:=MX;have ZP:=Zm _ _ hqx;have lsv:=a_ ic;have lbv:=a_ oq;have nS:qE (.str x.kd) [V.str "take",V.str "give",V.str "lean",V.str "pour",V.str "back",V.str "again"]=fL x:=gA (fun kd=>qE (.str kd) [V.str "take",V.str "give",V.str "lean",V.str "pour",V.str "back",V.str "again"]==decide (kd∈DV)) dk UR.mem |> eq_of_beq
  have IC:qE (.str x.kd) [V.str "ask",V.str "worlds"]=jk x:=gA (fun kd=>qE (.str kd) [V.str "ask",V.str "worlds"]==decide (kd∈(["ask","worlds"]:List Str))) dk UR.mem |> eq_of_beq
  refine⟨_,Z,qx,_,0,_,Z,Z,SqT.of ZP,bh (j:=0) rfl,lk obz,fun q1 hq1=>⟨q1,_,Z,.inr (SqT.of ao),Z,Z,?_⟩⟩;have L5:=aA (o:=.tup [V.str "take",V.str "give",V.str "lean",V.str "pour",V.str "back",V.str "again"]) hq1;generalize upd HC q1 (.tup [V.str "take",V.str "give",V.str "lean",V.str "pour",V.str "back",V.str "again"])=HD at L5 ⊢;have DJ:=Zm.trans L5;have UW:=L5 _ _ ZP;have MU:=L5 _ _ WI;have MG:=L5 _ _ WB;have MO:=dm L5.tups ic;have MI:=dm L5.tups oq;rw[bX jv,nS];rcases K6 hRu with⟨D,s',rs',tb',HG,hK,hD,qS,hrest⟩|⟨L,txt,s0,rs,Ut,RF,hM,hK,hL,ZF,hrest⟩|⟨x0,s0,rs,Z0,M0,RF,hrest⟩
  .have na:fL x=true:=by unfold fL;generalize x.kd=kx at hK;cases hK<;>decide +kernel
   rw[na];refine⟨_,Z,bN ?_⟩;obtain⟨l1,l2⟩:=vB hK hD
   have W4:kC[m1.length]?=some rs':=by
    rw[hmss,qS,List.getElem?_append_right (qnr _),Nat.sub_self]
    rfl
   have So:m1.length<ms.length:=by
    rw[W2];exact(List.getElem?_eq_some_iff.mp W4).1
   obtain⟨rs2,RO,b,rb,hvb,hmb⟩:=bD NI m1.length ms[m1.length] (List.getElem?_eq_getElem So);rw[W4]at RO;cases RO;have XA:=g2 rs' (qB W4);have EC:sR ms (m1.length:Int)=some (V.ref b):=bh (j:=m1.length) (by rw[List.getElem?_eq_getElem So,hvb]);have Sr:=hmb.same DJ;refine⟨_,Z,q,_,1,_,Z,Z,SqT.of (DJ _ _ hq),bh (j:=1) rfl,_,Z,ml,_,_,.ref b,Z,Z,b3.of (DJ _ _ ua),EC,_,Z,b,Zt,np,rb,ns,rs',Z,Sr,DJ _ _ IA,DJ _ _ Na,h8,XA,_,Z,bz ?_⟩;refine⟨_,Z,_,Z,_,Z,_,Z,q,_,1,_,Z,Z,SqT.of (DJ _ _ hq),bh (j:=1) rfl,_,Z,ml,_,_,.ref b,Z,Z,b3.of (DJ _ _ ua),EC,sl,ul,b,.non,qx,_,x.kd,ns,kr,fV x,wa x,sv,bv,st,tb,s',tb',rs',D,Z,UW,MU,MG,nsu,G,G,MO,MI,⟨b,Zt,rb,Z,Sr,DJ _ _ IA⟩,hK,hD,fun Ux bv' HE kp hsE huE HU WG=>⟨_,Z,bz ?_⟩⟩;have JJ:bb H9 HE:=fun c o e=>kp c o (DJ _ _ e) (aG e fsl) (aG e ful)
   refine⟨_,Z,_,_,Z,Z,some (.ref qx),Ux,bv',s'++[rs'],tb',kr,m1++[rs'],HG,x1,x2,?_,JJ,hsE,huE,HU,WG,hrest,by rw[hmss,qS,dr];rfl,hxs,G,G⟩;rw[af]
   rfl
  .have Z2:x.kd="ask"\/x.kd="worlds":=by
    rcases hK with⟨e,_⟩|⟨e,_⟩
    .exact .inl e
    exact .inr e
   have Wj:fL x=false:=gX (by rcases Z2 with e|e<;>rw[e]<;>decide +kernel);have na:jk x=true:=cK (by rcases Z2 with e|e<;>rw[e]<;>decide +kernel);rw[Wj];refine⟨_,Z,bz ?_⟩;refine⟨_,Z,qx,_,0,_,Z,Z,SqT.of UW,bh (j:=0) rfl,lk obz,fun q2 hq2=>⟨q2,_,Z,.inr (SqT.of ao),Z,Z,?_⟩⟩;have AQ:=aA (o:=.tup [.str "ask",.str "worlds"]) hq2;generalize upd HD q2 (.tup [.str "ask",.str "worlds"])=HE at AQ ⊢;rw[bX jv,IC,na];refine⟨_,Z,bN ?_⟩;have JJ:=DJ.trans AQ;have RS:=AQ _ _ UW;have MS:=AQ _ _ MU;have HU:=dm AQ.tups MO
   have Wy:xs[x1.length]?=some txt:=by
    rw[hxs,ZF,List.getElem?_append_right (qnr _),Nat.sub_self]
    rfl
   have SW:sR (xs.map V.str) (x1.length:Int)=some (V.str txt):=bh (j:=x1.length) (by rw[lS,Wy];rfl);subst RF;obtain⟨CB,v,rfl,h0,NV,nv,rv,rfl,OO,ZV⟩:=bZ HU
   have inv:∀ HF,bb HE HF->E10 fun(QE:Option V)(sv bv:List V)(st tb:List (List Int))(kr:Kept)(Zy m2:List (List Int))(Zc x2:List Str)=>C10 ([some (V.ref a),some (V.ref np),some (V.ref pl),some (V.int (dv.length:Nat)),some (V.int (av.length:Nat)),some (V.ref q),some (V.ref sl),some (V.ref ul),some (V.int (m1.length:Nat)),some (V.int ((x1.length:Int)+1)),some (V.ref qx)]=[some (.ref a),some (.ref np),some (.ref pl),some (.int (dv.length:Nat)),some (.int (av.length:Nat)),some (.ref q),some (.ref sl),some (.ref ul),some (.int (Zy.length:Nat)),some (.int (Zc.length:Nat)),QE]) (bb H9 HF) (HF sl=some (.lst sv)) (HF ul=some (.lst bv)) (Paired (jI HF ns) sv st) (Paired (jI HF ns) bv tb) (Runs wK ns ((pls.drop (i+1)).map lG) st tb kr m2 x2) (kC=Zy++m2) (xs=Zc++x2) ((st.length<=i+1+1/\tb.length<=i+1)):=fun HF EU=>by
    refine⟨some (.ref qx),CB++[.ref NV],bv,s0++[rs],tb,kr,m1,m2,x1++[txt],Ut,?_,JJ.trans EU,EU _ _ MS,EU _ _ (AQ _ _ MG),dm (EU.tups) HU,dm (AQ.tups.trans EU.tups) MI,hrest,hmss,by rw[hxs,ZF,dr];rfl,G,G⟩;rw[af]
    rfl
   rcases hK with⟨hk,rfl⟩|⟨hk,rfl⟩
   .obtain⟨tr,xI,rfl,hsz⟩:=hL
    have et:wa x=[x.tr]:=qp (by rw[hk];decide +kernel);rw[et]at xI;cases xI;refine⟨_,Z,qx,_,0,_,Z,Z,SqT.of RS,bh (j:=0) rfl,Z,_,Z,aN (fun z=>absurd (V.str.inj (eS z)) (by rw[hk];decide +kernel)) (fun _=>bz ?_)⟩;refine⟨_,Z,qx,_,0,_,Z,Z,SqT.of RS,bh (j:=0) rfl,Z,_,Z,aN (fun _=>?_) (fun z=>absurd (cK (by rw[hk])) z)⟩;refine⟨_,Z,1,Z,sl,_,_,.ref NV,Z,Z,b3.of MS,iI CB (.ref NV),_,Z,qx,_,2,_,Z,Z,SqT.of RS,bh (j:=2) rfl,_,Z,q,_,0,_,Z,Z,SqT.of (JJ _ _ hq),bh (j:=0) rfl,_,Z,al,_,_,_,Z,Z,b3.of (JJ _ _ pj),SW,NV,nv,rv,vt,ns,rs,x.tr,Z,OO,hM,ZV,h8,Q_.mono JJ.tups,by have:=UR.tr.dp;exact G,UR.tr.nm,hsz,fun HF EU=>⟨_,Z,bz ?_⟩⟩;exact⟨_,Z,_,_,Z,Z,inv HF EU⟩
   have hL:txt=mY ns.length rs:=hL;refine⟨_,Z,qx,_,0,_,Z,Z,SqT.of RS,bh (j:=0) rfl,Z,_,Z,aN (fun _=>?_) (fun z=>absurd (cK (by rw[hk])) z)⟩;refine⟨_,Z,q,_,0,_,Z,Z,SqT.of (JJ _ _ hq),bh (j:=0) rfl,_,Z,al,_,_,_,Z,Z,b3.of (JJ _ _ pj),SW,_,Z,1,Z,sl,_,_,.ref NV,Z,Z,b3.of MS,iI CB (.ref NV),NV,nv,rv,ns,rs,Z,OO,ZV,h8,fun HF EU=>⟨Z,_,Z,aN (fun z=>?_) (fun _=>?_)⟩⟩
   .rw[cK (show V.str txt=V.str (mY ns.length rs)by rw[hL])]at z
    cases z
   refine⟨_,Z,qx,_,0,_,Z,Z,SqT.of (EU _ _ RS),bh (j:=0) rfl,Z,_,Z,aN (fun z=>absurd (V.str.inj (eS z)) (by rw[hk];decide +kernel)) (fun _=>bz ?_)⟩;exact⟨_,Z,_,_,Z,Z,inv HF EU⟩
  have Wj:fL x=false:=gX (by rw[Z0];decide +kernel);have na:jk x=false:=gX (by rw[Z0];decide +kernel);rw[Wj];refine⟨_,Z,bz ?_⟩;refine⟨_,Z,qx,_,0,_,Z,Z,SqT.of UW,bh (j:=0) rfl,lk obz,fun q2 hq2=>⟨q2,_,Z,.inr (SqT.of ao),Z,Z,?_⟩⟩;have AQ:=aA (o:=.tup [.str "ask",.str "worlds"]) hq2;generalize upd HD q2 (.tup [.str "ask",.str "worlds"])=HE at AQ ⊢;rw[bX jv,IC,na];refine⟨_,Z,bz ?_⟩;exact⟨_,sv,bv,st,tb,_,m1,m2,x1,x2,Z,DJ.trans AQ,AQ _ _ MU,AQ _ _ MG,dm AQ.tups MO,dm AQ.tups MI,hrest,hmss,hxs,G,G⟩
 rintro M HC ⟨QE,sv,bv,st,tb,kr,m1,m2,x1,x2,rfl,_⟩;exact k _
theorem tm(X:K.In h)(aae:h.Ns mainGlobals mg)(q:Tq K x st f fd)(b:∀(kV doc pm:Value)(an:Option Addr)(j_ ct:Value)(us:List Value),us.length=ps.length->bindArgs (W.fnOf x x (gB st) (eU st) (aR st) .none kV doc pm an j_ ct) ⟨us,[]⟩=pure (ps.zip us):=by first|exact fun _ _ _ _ _ _=>L2.VS fun _=>rfl|exact fun _ _ _ _ _ _=>L2.Ll fun _ _=>rfl|exact fun _ _ _ _ _ _=>L2.VR fun _ _ _=>rfl|exact fun _ _ _ _ _ _=>L2.Ze fun _ _ _ _=>rfl):Tp K mg x st ps f fd:=⟨q.F,q.F.binds b,fq X aae q.a,q.F.kp⟩
theorem mm{y:Str}(q:Mq K C x y st f fd)(b:∀(kV doc pm:Value)(an:Option Addr)(j_ ct:Value)(us:List Value),us.length=ps.length->bindArgs (W.fnOf x y (gB st) (eU st) (aR st) .none kV doc pm an j_ ct) ⟨us,[]⟩=pure (ps.zip us):=by first|exact fun _ _ _ _ _ _=>L2.VS fun _=>rfl|exact fun _ _ _ _ _ _=>L2.Ll fun _ _=>rfl|exact fun _ _ _ _ _ _=>L2.VR fun _ _ _=>rfl|exact fun _ _ _ _ _ _=>L2.Ze fun _ _ _ _=>rfl):Mp K C x y st ps f fd:=⟨q.F,q.F.binds b,⟨q.a,q.i,q.F.kp⟩⟩
end
theorem tq{sl:Array (Option Value)}{kV:Value}(a:W.nsIn K mainGlobals x=some (some (.ref f)))(l:K.lookup f=some ⟨oc,od,.func (W.fnOf x x (gB st) (eU st) (aR st) .none kV dc pm an cd ct),sl⟩)(c:W.codeIn K cd x=true)(k:W.keepIn K (.ref f)=true):Tq K x st f (W.fnOf x x (gB st) (eU st) (aR st) .none kV dc pm an cd ct):=⟨Eo l c k,a⟩
theorem mq{q:Str}{sl:Array (Option Value)}{kV:Value}(a:W.findIn K (.ref C) x=some (some (.ref f)))(i:W.isFn K (.ref f)=true)(l:K.lookup f=some ⟨oc,od,.func (W.fnOf x q (gB st) (eU st) (aR st) .none kV dc pm an cd ct),sl⟩)(c:W.codeIn K cd q=true)(k:W.keepIn K (.ref f)=true):Mq K C x q st f (W.fnOf x q (gB st) (eU st) (aR st) .none kV dc pm an cd ct):=⟨Eo l c k,a,i⟩
theorem txt_mk(X:K.In h)(aae:h.Ns mainGlobals mg)
  {f0 f1 f2 f3 f4 f5 f6 f8 f9 f10 f11 f12 f13 f14 f15 f16 f17 f18 f19 f20 f21 f22 f23 f24 f25 f26 f27 f28 f29 f30 f33 f34 f35 f36 f37 _9 _8 _7 _6 _5 _4 _3 _2 _1 _0 _Z _Y _X _W _V _U _T _S _R _Q _P _O _N _M _L _K XY _J XX XW Vp XU XT XS Tn _I _H XR XQ XO XN XM XJ _G XI _F XH _E _D _C _B _A _z _y _x _w _v _u _t _s _r TL TK TJ TH TF TC TB Tz Tx Tw Tv Tu Tt Ts To B0 B1 B2 B3 B4 B5 B6 B7 B8 B9 VP xB Y7 Y6 Y5 Y4 Y3 Y2:Addr} {e0 e1 e2 e3 e4 e5 e6 e8 e9 Vu e11 e12 e13 e14 e15 e16 e17 e18 e19 e20 e21 e22 Vt e24 e25 e26 e27 e28 e29 TM e33 e34 e35 e36 e37 e38 e39 e40 e41 e43 e44 e45 e46 e47 OZ e49 e50 e51 e52 e53 e54 e55 e56 e57 e58 e59 e60 e61 e62 Vr e64 e65 e66 e67 e68 e69 e70 e71 e72 e73 e74 e75 e76 e77 e78 e79 e80 e81 e82 e83 e85 e86 e87 e88 e89 e90 e91 e92 e93 e94 e95 e96 e97 e98 e99 T7 T6 T4 T3 T2 T1 TZ TY TX TV TU TR TQ TN NR:FuncData} {B18 B19 B20 B21 B22 B23:Tok}
  (A0:W.nsIn K mainGlobals "MindError"=some (some (.ref B3)))
  (A1:W.nsIn K mainGlobals "NoSentence"=some (some (.ref B9)))
  (A2:W.nsIn K mainGlobals "TooDeep"=some (some (.ref VP)))
  (A3:W.nsIn K mainGlobals "NoName"=some (some (.ref B8)))
  (A4:W.nsIn K mainGlobals "Always"=some (some (.ref B0)))
  (A5:W.nsIn K mainGlobals "Never"=some (some (.ref B4)))
  (A6:W.nsIn K mainGlobals "NoMinds"=some (some (.ref B7)))
  (A7:W.nsIn K mainGlobals "Unlike"=some (some (.ref Y7)))
  (A8:W.nsIn K mainGlobals "NoBack"=some (some (.ref B6)))
  (A9:W.nsIn K mainGlobals "NoAgain"=some (some (.ref B5)))
  (A10:W.nsIn K mainGlobals "Log"=some (some (.ref B2)))
  (A11:W.nsIn K mainGlobals "Unfinished"=some (some (.ref xB)))
  (A12:W.nsIn K mainGlobals "Course"=some (some (.ref B1)))
  (q0:Tq K "is_letter" S0 f0 e0)
  (q1:Tq K "is_name" S1 f1 e1)
  (q2:Tq K "parts_of" S2 f2 e2)
  (q3:Tq K "layer_below" S3 f3 e3)
  (q4:Tq K "depth" S4 f4 e4)
  (q5:Tq K "names_in" S5 f5 e5)
  (q6:Tq K "bit_at" S6 f6 e6)
  (q8:Tq K "need_names" S8 f8 e8)
  (q9:Tq K "sides" S9 f9 e9)
  (q10:Tq K "turned_about" S10 f10 Vu)
  (q11:Tq K "joined" YV f11 e11)
  (q12:Tq K "full" S12 f12 e12)
  (q13:Tq K "worlds_with" S13 f13 e13)
  (q14:Tq K "sides_of_names" S14 f14 e14)
  (q15:Tq K "table" S15 f15 e15)
  (q16:Tq K "breaking" S16 f16 e16)
  (q17:Tq K "flat" S17 f17 e17)
  (q18:Tq K "least_rank" S18 f18 e18)
  (q19:Tq K "firmness" S19 f19 e19)
  (q20:Tq K "held" S20 f20 e20)
  (q21:Tq K "both_leasts" S21 f21 e21)
  (q22:Tq K "leaning" S22 f22 e22)
  (q23:Tq K "less_the_least" S23 f23 Vt)
  (q24:Tq K "need_alike" S24 f24 e24)
  (q25:Tq K "poured" S25 f25 e25)
  (q26:Tq K "is_nearest_in_all" S26 f26 e26)
  (q27:Tq K "common" S27 f27 e27)
  (q28:Tq K "turned" S28 f28 e28)
  (q29:Tq K "given_up" S29 f29 e29)
  (q30:Tq K "taken_on" S30 f30 TM)
  (q33:Mq K B2 "__init__" "Log.__init__" S33 f33 e33)
  (q34:Mq K B2 "stand" "Log.stand" S34 f34 e34)
  (q35:Mq K B2 "take" "Log.take" S35 f35 e35)
  (q36:Mq K B2 "give" "Log.give" S36 f36 e36)
  (q37:Mq K B2 "turn" "Log.turn" S37 f37 e37)
  (q38:Mq K B2 "pour" "Log.pour" S38 _9 e38)
  (q39:Mq K B2 "back" "Log.back" S39 _8 e39)
  (q40:Mq K B2 "again" "Log.again" S40 _7 e40)
  (q41:Mq K B2 "mind" "Log.mind" S41 _6 e41)
  (q43:Mq K B2 "backs" "Log.backs" S43 _5 e43)
  (q44:Mq K B2 "agains" "Log.agains" S44 _4 e44)
  (q45:Tq K "words_of" S45 _3 e45)
  (q46:Tq K "leaf" S46 _2 e46)
  (q47:Tq K "takes_part" S47 _1 e47)
  (q48:Mq K xB "__init__" "Unfinished.__init__" S48 _0 OZ)
  (q49:Mq K xB "begin_part" "Unfinished.begin_part" S49 _Z e49)
  (q50:Mq K xB "follow_part" "Unfinished.follow_part" YU _Y e50)
  (q51:Mq K xB "fold" "Unfinished.fold" S51 _X e51)
  (q52:Mq K xB "fold_to_bracket" "Unfinished.fold_to_bracket" S52 _W e52)
  (q53:Mq K xB "close_bracket" "Unfinished.close_bracket" S53 _V e53)
  (q54:Mq K xB "whole" "Unfinished.whole" S54 _U e54)
  (q55:Tq K "tree_of_words" S55 _T e55)
  (q56:Tq K "read" S56 _S e56)
  (q57:Tq K "rows_in" S57 _R e57)
  (q58:Tq K "words_in" S58 _Q e58)
  (q59:Tq K "first_word" S59 _P e59)
  (q60:Tq K "behind_first_word" S60 _O e60)
  (q61:Tq K "is_figure" S61 _N e61)
  (q62:Tq K "number_in" S62 _M e62)
  (q63:Tq K "number_above_0" S63 _L Vr)
  (q64:Tq K "lean_in" S64 _K e64)
  (q65:Tq K "names_form" S65 XY e65)
  (q66:Tq K "numbered_form" S66 _J e66)
  (q67:Tq K "take_form" YT XX e67)
  (q68:Tq K "lean_form" YS XW e68)
  (q69:Tq K "sentence_form" YR Vp e69)
  (q70:Tq K "lost_form" YQ XU e70)
  (q71:Tq K "keep_form" YO XT e71)
  (q72:Tq K "pour_form" YN XS e72)
  (q73:Tq K "bare_form" YM Tn e73)
  (q74:Tq K "form_of" YL _I e74)
  (q75:Mq K B1 "__init__" "Course.__init__" YK _H e75)
  (q76:Tq K "do_take" YJ XR e76)
  (q77:Tq K "do_give" YI XQ e77)
  (q78:Tq K "do_lean" YH XO e78)
  (q79:Tq K "do_pour" YG XN e79)
  (q80:Tq K "do_back" YF XM e80)
  (q81:Tq K "do_again" YE XJ e81)
  (q82:Tq K "shown_world" S82 _G e82)
  (q83:Tq K "answer_ask" YD XI e83)
  (q85:Tq K "answer_worlds" YC XH e85)
  (q86:Tq K "do_row" YB _E e86)
  (q87:Tq K "lacks_a_mind" S87 _D e87)
  (q88:Tq K "word_against" YA _C e88)
  (q89:Tq K "names_told" Yz _B e89)
  (q90:Tq K "run" Yy _A e90)
  (q91:Tq K "_law_cell_at" Yx _z e91)
  (q92:Tq K "_law_whole" S92 _y e92)
  (q93:Tq K "_law_mixed" S93 _x e93)
  (q94:Tq K "_law_names_by" S94 _w e94)
  (q95:Tq K "_law_tree_by" Yw _v e95)
  (q96:Tq K "_law_column" S96 _u e96)
  (q97:Tq K "_law_table" Yv _t e97)
  (q98:Tq K "_law_is_mind" S98 _s e98)
  (q99:Tq K "_law_sides" S99 _r e99)
  (q100:Tq K "_law_written" Jp TL T7)
  (q101:Tq K "_law_plan_by" Jq TK T6)
  (q102:Tq K "_law_word_by" Qg TJ T4)
  (q103:Tq K "_law_pairs_by" Qh TH T3)
  (q104:Tq K "_law_counted" Jr TF T2)
  (q105:Tq K "_law_plans_by" Js TC T1)
  (q106:Tq K "_law_row_of" Jt TB TZ)
  (q107:Tq K "_law_text_of" Ju Tz TY)
  (q108:Tq K "_law_run_fits" Qi Tx TX)
  (q109:Tq K "_law_told_names" Qj Tw TV)
  (q110:Tq K "_law_world_text" Qk Tv TU)
  (q111:Tq K "_law_worlds_text" Ql Tu TR)
  (q112:Tq K "_law_ask_fits" Jv Tt TQ)
  (q113:Tq K "_law_row_fits" Qm Ts TN)
  (q114:Tq K "law" Jw To NR)
  (A13:fe K B9=true)
  (A14:W.excIn K B9 uj "ValueError.__new__"=true)
  (A15:fe K VP=true)
  (A16:W.excIn K VP uj "ValueError.__new__"=true)
  (A17:fe K B8=true)
  (A18:W.excIn K B8 uj "ValueError.__new__"=true)
  (A19:fe K B0=true)
  (A20:W.excIn K B0 uj "ValueError.__new__"=true)
  (A21:under K B0 B0=true)
  (A22:fe K B4=true)
  (A23:W.excIn K B4 uj "ValueError.__new__"=true)
  (A24:under K B4 B0=false)
  (A25:under K B4 B4=true)
  (A26:W.excIn K B7 uj "ValueError.__new__"=true)
  (A27:W.excIn K Y7 uj "ValueError.__new__"=true)
  (A28:fe K B6=true)
  (A29:W.excIn K B6 uj "ValueError.__new__"=true)
  (A30:fe K B5=true)
  (A31:W.excIn K B5 uj "ValueError.__new__"=true)
  (A32:W.plainGet K B2 Str.empty=true)
  (A33:W.hasDictIn K B2=true)
  (A34:W.plainOver K B2=true)
  (A35:W.findIn K (.ref B2) "__setattr__"=some (some (.builtin "object.__setattr__")))
  (A36:W.makesIn K B2=true)
  (A37:W.keepIn K (.ref B2)=true)
  (A38:W.findIn K (.ref B2) "standing"=some none)
  (A39:W.findIn K (.ref B2) "taken_back"=some none)
  (A40:W.plainGet K xB Str.empty=true)
  (A41:W.hasDictIn K xB=true)
  (A42:W.plainOver K xB=true)
  (A43:W.findIn K (.ref xB) "__setattr__"=some (some (.builtin "object.__setattr__")))
  (A44:W.makesIn K xB=true)
  (A45:W.keepIn K (.ref xB)=true)
  (A46:W.findIn K (.ref xB) "trees"=some none)
  (A47:W.findIn K (.ref xB) "signs"=some none)
  (A48:W.plainGet K B1 Str.empty=true)
  (A49:W.hasDictIn K B1=true)
  (A50:W.plainOver K B1=true)
  (A51:W.findIn K (.ref B1) "__setattr__"=some (some (.builtin "object.__setattr__")))
  (A52:W.makesIn K B1=true)
  (A53:W.keepIn K (.ref B1)=true)
  (A54:W.findIn K (.ref B1) "log"=some none)
  (A55:W.findIn K (.ref B1) "kept"=some none)
  (A56:W.findIn K (.ref B1) "answers"=some none)
  (A57:W.findIn K (.ref B1) "minds_behind"=some none)
  (A58:W.nsIn K mainGlobals "LONGEST_NAME"=some (some (.int 8 B18)))
  (A59:W.nsIn K mainGlobals "LONGEST_TEXT"=some (some (.int 200 B19)))
  (A60:W.nsIn K mainGlobals "GREATEST_DEPTH"=some (some (.int 40 B20)))
  (A61:W.nsIn K mainGlobals "MOST_FIGURES"=some (some (.int 30 B21)))
  (A62:W.nsIn K mainGlobals "MOST_NAMES"=some (some (.int 8 B22)))
  (A63:W.nsIn K mainGlobals "MOST_PAIRS"=some (some (.int 10 B23)))
  (A64:W.nsIn K mainGlobals "KINDS"=some (some (.ref Y6)))
  (A65:ya P w K Y6 [(.inr "&",.str "and"),(.inr "|",.str "or"),(.inr ">",.str "then"),(.inr "=",.str "same")])
  (A66:W.nsIn K mainGlobals "BINDS"=some (some (.ref Y5)))
  (A67:ya P w K Y5 [(.inr "&",.int 4),(.inr "|",.int 3),(.inr ">",.int 2),(.inr "=",.int 1)])
  (A68:W.nsIn K mainGlobals "FORMS"=some (some (.ref Y4)))
  (A69:ya P w K Y4 [(.inr "names",.ref XY),(.inr "take",.ref XX),(.inr "give",.ref Vp),(.inr "lean",.ref XW),(.inr "keep",.ref XT),(.inr "pour",.ref XS),(.inr "back",.ref Tn),(.inr "again",.ref Tn),(.inr "ask",.ref Vp),(.inr "lost",.ref XU),(.inr "worlds",.ref Tn)])
  (A70:W.nsIn K mainGlobals "DEEDS"=some (some (.ref Y3)))
  (A71:ya P w K Y3 [(.inr "take",.ref XR),(.inr "give",.ref XQ),(.inr "lean",.ref XO),(.inr "pour",.ref XN),(.inr "back",.ref XM),(.inr "again",.ref XJ)])
  (A72:W.nsIn K mainGlobals "ANSWERS"=some (some (.ref Y2)))
  (A73:ya P w K Y2 [(.inr "ask",.ref XI),(.inr "lost",.ref _F),(.inr "worlds",.ref XH)])
  (A74:W.nsIn K mainGlobals "all"=some none)
  (A75:W.nsIn K mainGlobals "any"=some none)
  (A76:W.nsIn K mainGlobals "bool"=some none)
  (A77:W.nsIn K mainGlobals "enumerate"=some none)
  (A78:W.nsIn K mainGlobals "int"=some none)
  (A79:W.nsIn K mainGlobals "isinstance"=some none)
  (A80:W.nsIn K mainGlobals "len"=some none)
  (A81:W.nsIn K mainGlobals "list"=some none)
  (A82:W.nsIn K mainGlobals "max"=some none)
  (A83:W.nsIn K mainGlobals "min"=some none)
  (A84:W.nsIn K mainGlobals "range"=some none)
  (A85:W.nsIn K mainGlobals "sorted"=some none)
  (A86:W.nsIn K mainGlobals "str"=some none)
  (A87:W.nsIn K mainGlobals "sum"=some none)
  (A88:W.nsIn K mainGlobals "tuple"=some none)
  (A89:W.nsIn K mainGlobals "zip"=some none) (hl:∀(s:Shared) (u:Value),BindsTo s NR ⟨[u],[]⟩ [("_law_script",u)]):∃ t:l9,Txt P w K mg t :=
 ⟨⟨f0,e0,f1,e1,f2,e2,f3,e3,f4,e4,f5,e5,f6,e6,0,e0,f8,e8,f9,e9,f10,Vu,f11,e11,f12,e12,f13,e13,f14,e14,f15,e15,f16,e16,f17,e17,f18,e18,f19,e19,f20,e20,f21,e21,f22,e22,f23,Vt,f24,e24,f25,e25,f26,e26,f27,e27,f28,e28,f29,e29,f30,TM,0,e0,0,e0,f33,e33,f34,e34,f35,e35,f36,e36,f37,e37,_9,e38,_8,e39,_7,e40,_6,e41,0,e0,_5,e43,_4,e44,_3,e45,_2,e46,_1,e47,_0,OZ,_Z,e49,_Y,e50,_X,e51,_W,e52,_V,e53,_U,e54,_T,e55,_S,e56,_R,e57,_Q,e58,_P,e59,_O,e60,_N,e61,_M,e62,_L,Vr,_K,e64,XY,e65,_J,e66,XX,e67,XW,e68,Vp,e69,XU,e70,XT,e71,XS,e72,Tn,e73,_I,e74,_H,e75,XR,e76,XQ,e77,XO,e78,XN,e79,XM,e80,XJ,e81,_G,e82,XI,e83,_F,e0,XH,e85,_E,e86,_D,e87,_C,e88,_B,e89,_A,e90,_z,e91,_y,e92,_x,e93,_w,e94,_v,e95,_u,e96,_t,e97,_s,e98,_r,e99,TL,T7,TK,T6,TJ,T4,TH,T3,TF,T2,TC,T1,TB,TZ,Tz,TY,Tx,TX,Tw,TV,Tv,TU,Tu,TR,Tt,TQ,Ts,TN,To,NR,B3,B9,VP,B8,B0,B4,B7,Y7,B6,B5,0,B2,xB,B1,B18,B19,B20,B21,B22,B23,Y6,Y5,Y4,Y3,Y2⟩,⟨tm X aae q0,tm X aae q1,tm X aae q2,tm X aae q3,tm X aae q4,tm X aae q5,tm X aae q6,tm X aae q8,tm X aae q9,tm X aae q10,tm X aae q11,tm X aae q12,tm X aae q13,tm X aae q14,tm X aae q15,tm X aae q16,tm X aae q17,tm X aae q18,tm X aae q19,tm X aae q20,tm X aae q21,tm X aae q22,tm X aae q23,tm X aae q24,tm X aae q25,tm X aae q26,tm X aae q27,tm X aae q28,tm X aae q29,tm X aae q30,mm q33,mm q34,mm q35,mm q36,mm q37,mm q38,mm q39,mm q40,mm q41,mm q43,mm q44,tm X aae q45,tm X aae q46,tm X aae q47,mm q48,mm q49,mm q50,mm q51,mm q52,mm q53,mm q54,tm X aae q55,tm X aae q56,tm X aae q57,tm X aae q58,tm X aae q59,tm X aae q60,tm X aae q61,tm X aae q62,tm X aae q63,tm X aae q64,tm X aae q65,tm X aae q66,tm X aae q67,tm X aae q68,tm X aae q69,tm X aae q70,tm X aae q71,tm X aae q72,tm X aae q73,tm X aae q74,mm q75,tm X aae q76,tm X aae q77,tm X aae q78,tm X aae q79,tm X aae q80,tm X aae q81,tm X aae q82,tm X aae q83,tm X aae q85,tm X aae q86,tm X aae q87,tm X aae q88,tm X aae q89,tm X aae q90,tm X aae q91,tm X aae q92,tm X aae q93,tm X aae q94,tm X aae q95,tm X aae q96,tm X aae q97,tm X aae q98,tm X aae q99,tm X aae q100,tm X aae q101,tm X aae q102,tm X aae q103,tm X aae q104,tm X aae q105,tm X aae q106,tm X aae q107,tm X aae q108,tm X aae q109,tm X aae q110,tm X aae q111,tm X aae q112,tm X aae q113,tm X aae q114,fq X aae A1,A13,A14,fq X aae A2,A15,A16,fq X aae A3,A17,A18,fq X aae A4,A19,A20,A21,fq X aae A5,A22,A23,A24,A25,fq X aae A6,A26,fq X aae A7,A27,fq X aae A8,A28,A29,fq X aae A9,A30,A31,fq X aae A10,⟨A32,A33,A34,A35⟩,⟨A36,q33.a,q33.i,A37⟩,A38,A39,fq X aae A11,⟨A40,A41,A42,A43⟩,⟨A44,q48.a,q48.i,A45⟩,A46,A47,fq X aae A12,⟨A48,A49,A50,A51⟩,⟨A52,q75.a,q75.i,A53⟩,A54,A55,A56,A57,fq X aae A58,fq X aae A59,fq X aae A60,fq X aae A61,fq X aae A62,fq X aae A63,fq X aae A64,A65,fq X aae A66,A67,fq X aae A68,A69,fq X aae A70,A71,fq X aae A72,A73,eh X aae A74,eh X aae A75,eh X aae A76,eh X aae A77,eh X aae A78,eh X aae A79,eh X aae A80,eh X aae A81,eh X aae A82,eh X aae A83,eh X aae A84,eh X aae A85,eh X aae A86,eh X aae A87,eh X aae A88,eh X aae A89,hl⟩⟩
end K68
structure PySem.W.Fast:Prop where(tw13551303132348857813 tw17642925962179501163 tw5540812724471655020 tw11249980752324352048 tw6553502795089580801 tw13827458369393547843 tw3656360529720694434 tw5015425894034616294 tw8138785266786202588 tw4821771760938943587 tw11780862586642255589 tw662905374074526567 tw14712454225898861627 tw13292893221690953484 tw10136966926761378027 tw18252304735601294503 tw15663728232738863140 tw10606881321075535569 tw6533344413845754174 tw759362944152024038 tw9131664439334579905 tw10032080331860902885 tw7308062275009114721 tw11470077855051558459 tw5564518450726015777 tw16711756156454574050 tw8000788182880641458 tw1833201508073740193 tw5585803827919225312 tw11743497231357856264 tw12306997558556270695 tw646321510191303818 tw8307899153014871449 tw7132406901659834174 tw2772888277277912887 tw7236654765739418647 tw6194908750746295846 tw9062075247292537707 tw11624418502341975179 tw18064378256740431245 tw8033027550025978687 tw14145062713821936441 tw6441521743062290352 tw1306519974714701722 tw339899908712136112 tw10038389161224839251 tw5535396798486215699 tw12053092520653618546 tw5954604535394721393 tw1295800966980171049 tw7095279945652446409 tw10601071081436442207 tw1646676514192853720 tw12784567328230140648 tw3822613627603506070 tw2404082952248691891 tw12425567426533206295 tw8180887195804953065 tw9769923170851372578 tw14662863115130847418 tw14339416327926532338 tw525104964345934612 tw16450311266428649446 tw8245296337576851424 tw7875519198099250508 tw17136598469776561366 tw2199915079412736371 tw3649073782116476810 tw8642510732620179807 tw13965879609091299178 tw15978451790011824423 tw6376392170186894739 tw16725313633657302518 tw13668610873447382707 tw13472384103288789731 tw5815296427725720352 tw13484858873913542206 tw5046042551250845593 tw12579958112147156621 tw4675468255759836321 tw17459569922613139147 tw15091392401881631824 tw11011357574633941635 tw6144928355750486703 tw16463854620934919201 tw9206029912628351366 tw13399450613377537016 tw14061084437358641602 tw8347628991458003018 tw15665569496702675606 tw496893934551798988 tw5242850624109523506 tw18249718006424950303 tw11749138244225798036 tw6216839341925686923 tw10036565164718899304 tw15683259885863933822 tw5043088768888765823 tw16648321097929939775 tw13260063005748111239 tw18165687749776926382 tw8079089258999118268 tw2088934463743132263 tw13350937557439056319 tw11863933965427301939 tw9184923314493665175 tw14448000507976794343 tw9931307107049335527 tw6266774066868061011 tw6243172755194853999 tw14328239735460959710 tw1803007660041401260 tw13091462877520332385 tw12318709401253955836 tw18285375748556995496 tw1975963719475336825 tw7263324046519169768 tw13445264661552049059 tw2739717175006461848 tw41131329566949075 tw12801485097536517648 tw17630836626203156853 tw11434378973132824645 tw15075630189042590566 tw5036525380598073758 tw14054769387939044009 tw11311445376477151054 tw2699197568846275617 tw9421142032127230492 tw900932266247757554 tw14248403263986257671 tw2903544278036072887 tw9697381688572586011 tw8109629682327498101 tw14985703027612328544 tw17949551800801911903 tw12104511178266659198 tw131049559898231566 tw17197306322987081744 tw9757705268645003936 tw5533431314522566098 tw10262284859845924736 tw3165944708700416075 tw2957221533156690599 tw12756313612283588637 tw11258927456354554617 tw1893550771079762306 tw6429361361855471142 tw6272566049794588222 tw12660612663664708644 tw13830874903895328212 tw11961693784017636843 tw10262123157419500465 tw15186260266602350684 tw10152474428578002221 tw8653117706953197178 tw2660186803060191163 tw14723735237129332301 tw17383991687522661812 tw2686742241973233848 tw11516541834656663660 tw8558173614304662954 tw15463892238877186422 tw16072499459953218723 tw10201793309471345303 tw9933716065081113329 tw11459268395740967686 tw16805687865214053224 tw1696767487360105194 tw5539735077733844047 tw5304772246995307633 tw10690085067662485946 tw15988799172815454387 tw1233844033810477618 tw7412685447640257665 tw6381522225860550350 tw7506858918548803776 tw13102477073785907746 tw11525833670330097756 tw1228477496643022829 tw13456727571873592905 tw15502064326133759170 tw16509390326006260877 tw13869439577916225721 tw13124873184937136676 tw5007455656947580883 tw14547641067369702530 tw7438957821707925391 tw12825332616040108956 tw12014752304956802433 tw8451401832793031728 tw7474194496902976412 tw14445404836858829619 tw4028315485072197600 tw338323076047689118 tw5989113127715623114 tw14173142570885835399 tw16214045174154837111 tw5937481587863203629 tw6966492183063580782 tw16860754388554490231 tw11346810725425515530 tw15815136557118069431 tw2106951753252621004 tw3849065936451005545 tw15074066394279603521 tw3654096800495090056 tw17988486963108298581 tw10017674970501114569 tw1898061167237180630 tw972425254800004873 tw8843348631959220779 tw10249578177392832588 tw14227750689554524027 tw11023115035826877934 tw774409516392399722 tw4919607568475953662 tw3633521610746022692 tw6220381323659425551 tw3339266416624024272 tw9190722964802252312 tw15844308830711612443 tw12109412338844531275 tw16433932985533594816 tw13035602500557906412 tw16438533553998439653 tw5822044642893652452 tw15958574379605749381 tw4341744551519131868 tw6363652151751482576 tw4258802663234750128 tw8125793372157671937 tw1242266173005472165 tw11938604789514380813 tw1749858018847270315 tw18151504171264478255 tw1039060617747339100 tw3361406635618229888 tw7751826134606332024 tw4713280577892689487 tw2415209352464517976 tw14843679969672388724 tw12145933245111625271 tw17054786005394407536 tw1564644669468708456 tw578754373893694530 tw2590540582991027365 tw9753829498359238870 tw8765017691620244060 tw6724547285672079848 tw12411684682350287128 tw10243767815495875713 tw3793356711156090983 tw614299940798760371 tw8825916115778300782 tw15535240108939501412 tw10476415446904509440 tw3711193942485729832 tw1589117724964097628 tw10752371670102476714 tw14331254447175503992 tw8604004342309179820 tw16224904153371400973 tw16031629063198138241 tw6021004869472987661 tw9136292100445592124 tw918173604003116509 tw9502086926919091673 tw4440627245100111747 tw1987650182576363133 tw5361636361360548716 tw12472477316797690424 tw4774605212926230171 tw7699689883456627641 tw17596425544439864307 tw10337602087991904094 tw1299850227682699753 tw13929150584726249177 tw12848659209209323063 tw12044142712384814289 tw1919813583439081031 tw16911620795149285812 tw14689522876102118167 tw63513117937850728 tw14033486494299838442 tw18427825976217711128 tw16305948906096852219 tw13445011337182569296 tw11322675689495328436 tw13923723946202964548 tw16733323651070920850 tw17444204594783446750 tw4619336470611398558 tw9127366884668037171 tw14644767006061461504 tw12996523814646049750 tw241029558932195374 tw861934669097498040 tw6088709006299427348 tw7278372919334704159 tw5931327146187869132 tw1698734827341674381 tw18381841656518258583 tw10331067808674782081 tw1606166751414710561 tw10629751391428560295 tw11981029144174948546 tw1251639535955467470 tw7314326361934568257 tw4049691448656021636 tw16061475107930721724 tw8991725207833735039 tw14341300668989250254 tw9015352785403562692 tw5491490412053553299 tw16862084796393837679 tw5951156476370964417 tw6743862495118897445 tw13430950680445663534 tw1466975487433110737 tw9352721546646448231 tw9121036559420224917 tw6592169901459682462 tw11501183600688783393 tw9324435953230187126 tw169840825767184906 tw6453148856322634808 tw17846880274818993801 tw9014578088292345020 tw4831541348877446204 tw14044897100789979297 tw17749624302524371063 tw4463818490735716459 tw7634615906286418506 tw16068446172643079102 tw14200407612491039470 tw15648790991333002945 tw1277528998039008918 tw753759444058149351 tw11055216676809701004 tw8495871227395762467 tw1444085225960892535 tw5446297036101602389 tw17702019116578853980 tw585975243602019056 tw17449042248172237276 tw15758305222969758700 tw12223751392459514371 tw12176273850224962750 tw1031348944151632241 tw769676101085182315 tw17672812075254046251 tw12627851709642805847 tw12732071243472520018 tw12511368935297289393 tw17588994003906223823 tw5105078981472807171 tw4906929601636311629 tw9492058214134686518 tw2902301585237969015 tw4507052202224568450 tw4793610317648058627 tw4372722274558113714 tw8399333413243778525 tw7266882424488918156 tw18195892916702245098 tw15984713844763825219 tw17237584217542089111 tw15261765000724237305 tw481793246956290508 tw8278378594306533870 tw4659794090010438266 tw924824754179194765 tw13257873704242925000 tw13191721995799694654 tw4616091327514542792 tw14612443842869556159 tw9094066712132621920 tw3722951376614306423 tw15508803535016791886 tw5341133564954410607 tw11198744492310438502 tw18188124182378590496 tw5784136182510799036 tw14359096896780837932 tw16842945716242511344 tw14785805140893737122 tw9114996620162667635 tw7715704381630758362 tw7347932495521018197 tw13777401001618033999 tw2884832017145481227 tw13895556382865458561 tw8201859745907402054 tw798609133876366238 tw6697909728271128294 tw5262795627695819331 tw9754828102408102455 tw4358726901052343878 tw69736784026938690 tw13059792021240219484 tw1670098572534788012 tw6690978553015761345 tw5391813564735594925 tw7529941556321277571 tw4801411946851372238 tw7526741788048860948 tw3196819284098686222 tw16573371716301410459 tw7692656933276528763 tw2061502403200601891 tw11211377431558350471 tw1955563592337352957 tw3129254467763660756 tw10136204273055314700 tw8377136689814096654 tw3801636424985732355 tw6380527105766346972 tw555513127557563848 tw10008570943099385119 tw14308263812861521815 tw2710287467330604435 tw4394358705126774443 tw762888329118723255 tw8331125932928788964 tw16075121480526335319 tw5058073291436823513 tw3502211460743668789 tw12252333467465257219 tw4700405651061150311 tw15822775818086742669 tw11359100203299824001 tw5704639949190611682 tw13170481483140595170 tw10528645378715021005 tw881435892566722347 tw12786504239618419185 tw15860766643318040437 tw14906710541257736917 tw8368756161039349297 tw18107111788239821511 tw1067325445168454660 tw4352278607705203031 tw2557040883240620575 tw8937343176602360813 tw6847221784968427419 tw3136816113268694993 tw18399791392337561685 tw7448088854314979681 tw13663405423457386306 tw6003810303352993996 tw15987468709321639073 tw14435192189847386100 tw11165938533557258866 tw8180894969933826659 tw13086170098271042145 tw7047012256384103465 tw12322181768032882803 tw6026980822773556093 tw14730461260192563190 tw8944847880076812425 tw6719363141121416427 tw1072624023373793832 tw15575913847524184181 tw3914070317227694242 tw9554771972672884849 tw11326860375244285519 tw6050287306707219425 tw15711308628756560333 tw17941006034076936790 tw7863593903843511832 tw9332260004651159919 tw17356865658656052698 tw895450529049495882 tw6774270066237734511 tw12300501752679230892 tw12583299040762666075 tw13799110578865878445 tw5472373150649809514 tw892059648527478266 tw4137780402966034557 tw11501255368915249095 tw17293743102324483903 tw1489120044272890969 tw16712428677385962794 tw4023326716096403218 tw6775904101820010356 tw1129672094553266188 tw6828349519027341613 tw15492245930515318218 tw13196593551980213033 tw4008608999956691101 tw9049718087784846013 tw6233560141551192043 tw8782733471351876240 tw15818822855414310438 tw2382555382568328491 tw7351407750661619044 tw6742917705103509996 tw8561076404716027465 tw5917422982566788198 tw9197300799701092965 tw4167883110937088421 tw1053779555611875182 tw8008673487113941711 tw655950862405779390 tw14552233396523367813 tw3608006921007236861 tw6033623849589808863 tw12344622604775977253 tw12842594945481137239 tw4384854083568255104 tw7575586858285869103 tw12000280633770380586 tw12907117695590274379 tw11703455595653802061 tw13767590603886872628 tw17789115663580868742 tw5696879849962227425:True)
open PySem PySem.W PyProof.Rows
set_option maxRecDepth 100000 in
set_option maxHeartbeats 0 in
theorem PySem.Challenge.cw_mindchange_k68_whole_run_back_holds : PySem.Challenge.rw_mindchange_k68_whole_run_back.Holds := by
 w_on;o_law;k_head;(case hw=>w_witness2)
 k_fill
 refine L2.walk_ofX (l:=PySem.Challenge.rw_mindchange_k68_whole_run_back) (n:=63) (k:=127) (x := "_law_script") (sp:=K68.spLaw) rfl (by decide) rfl ⟨rfl,by decide,by decide⟩ (fun w h aaa=>PySem.W.kIn_of aaa) ?F ?S
 case F =>
  intro w mg fa h KX aae hmg
  have T:∃ t,K68.Txt PySem.Challenge.rw_mindchange_k68_whole_run_back.prog w (L2.KOf KX) mg t:=by
   dsimp only[L2.KOf]
   refine' K68.txt_mk KX aae ?A0 ?A1 ?A2 ?A3 ?A4 ?A5 ?A6 ?A7 ?A8 ?A9 ?A10 ?A11 ?A12 ?q0 ?q1 ?q2 ?q3 ?q4 ?q5 ?q6 ?q8 ?q9 ?q10 ?q11 ?q12 ?q13 ?q14 ?q15 ?q16 ?q17 ?q18 ?q19 ?q20 ?q21 ?q22 ?q23 ?q24 ?q25 ?q26 ?q27 ?q28 ?q29 ?q30 ?q33 ?q34 ?q35 ?q36 ?q37 ?q38 ?q39 ?q40 ?q41 ?q43 ?q44 ?q45 ?q46 ?q47 ?q48 ?q49 ?q50 ?q51 ?q52 ?q53 ?q54 ?q55 ?q56 ?q57 ?q58 ?q59 ?q60 ?q61 ?q62 ?q63 ?q64 ?q65 ?q66 ?q67 ?q68 ?q69 ?q70 ?q71 ?q72 ?q73 ?q74 ?q75 ?q76 ?q77 ?q78 ?q79 ?q80 ?q81 ?q82 ?q83 ?q85 ?q86 ?q87 ?q88 ?q89 ?q90 ?q91 ?q92 ?q93 ?q94 ?q95 ?q96 ?q97 ?q98 ?q99 ?q100 ?q101 ?q102 ?q103 ?q104 ?q105 ?q106 ?q107 ?q108 ?q109 ?q110 ?q111 ?q112 ?q113 ?q114 ?A13 ?A14 ?A15 ?A16 ?A17 ?A18 ?A19 ?A20 ?A21 ?A22 ?A23 ?A24 ?A25 ?A26 ?A27 ?A28 ?A29 ?A30 ?A31 ?A32 ?A33 ?A34 ?A35 ?A36 ?A37 ?A38 ?A39 ?A40 ?A41 ?A42 ?A43 ?A44 ?A45 ?A46 ?A47 ?A48 ?A49 ?A50 ?A51 ?A52 ?A53 ?A54 ?A55 ?A56 ?A57 ?A58 ?A59 ?A60 ?A61 ?A62 ?A63 ?A64 ?A65 ?A66 ?A67 ?A68 ?A69 ?A70 ?A71 ?A72 ?A73 ?A74 ?A75 ?A76 ?A77 ?A78 ?A79 ?A80 ?A81 ?A82 ?A83 ?A84 ?A85 ?A86 ?A87 ?A88 ?A89 ?zhl
   (case A0|A1|A2|A3|A4|A5|A6|A7|A8|A9|A10|A11|A12=>k_is)
   (case q0|q1|q2|q3|q4|q5|q6|q8|q9|q10|q11|q12|q13|q14|q15|q16|q17|q18|q19|q20|q21|q22|q23|q24|q25|q26|q27|q28|q29|q30|q45|q46|q47|q55|q56|q57|q58|q59|q60|q61|q62|q63|q64|q65|q66|q67|q68|q69|q70|q71|q72|q73|q74|q76|q77|q78|q79|q80|q81|q82|q83|q85|q86|q87|q88|q89|q90|q91|q92|q93|q94|q95|q96|q97|q98|q99|q100|q101|q102|q103|q104|q105|q106|q107|q108|q109|q110|q111|q112|q113|q114=>refine' K68.tq ?a ?l ?c ?k;(case a=>k_is);(case l=>k_is);(case c=>k_is);(case k=>k_is))
   (case q33|q34|q35|q36|q37|q38|q39|q40|q41|q43|q44|q48|q49|q50|q51|q52|q53|q54|q75=>refine' K68.mq ?a ?i ?l ?c ?k;(case a=>k_is);(case i=>k_is);(case l=>k_is);(case c=>k_is);(case k=>k_is))
   (case A32|A33|A34|A35|A36|A37|A38|A39|A40|A41|A42|A43|A44|A45|A46|A47|A48|A49|A50|A51|A52|A53|A54|A55|A56|A57|A58|A59|A60|A61|A62|A63|A64|A66|A68|A70|A72|A74|A75|A76|A77|A78|A79|A80|A81|A82|A83|A84|A85|A86|A87|A88|A89=>k_is)
   (case A13|A15|A17|A19|A21|A22|A24|A25|A28|A30=>kernel_rfl)
   (case A14=>k_exc)
   (case A16=>k_exc)
   (case A18=>k_exc)
   (case A20=>k_exc)
   (case A23=>k_exc)
   (case A26=>k_exc)
   (case A27=>k_exc)
   (case A29=>k_exc)
   (case A31=>k_exc)
   (case A65=>(refine' L2.mdk_of ?l ?m ?n ?s;(case l=>k_is);(case m=>(repeat (refine⟨rfl,⟨_,rfl⟩,⟨_,rfl⟩,?_⟩));exact True.intro);(case n=>decide +kernel);(case s=>kernel_rfl)))
   (case A67=>(refine' L2.mdk_of ?l ?m ?n ?s;(case l=>k_is);(case m=>(repeat (refine⟨rfl,⟨_,rfl⟩,⟨_,rfl⟩,?_⟩));exact True.intro);(case n=>decide +kernel);(case s=>kernel_rfl)))
   (case A69=>(refine' L2.mdk_of ?l ?m ?n ?s;(case l=>k_is);(case m=>(repeat (refine⟨rfl,⟨_,rfl⟩,rfl,?_⟩));exact True.intro);(case n=>decide +kernel);(case s=>kernel_rfl)))
   (case A71=>(refine' L2.mdk_of ?l ?m ?n ?s;(case l=>k_is);(case m=>(repeat (refine⟨rfl,⟨_,rfl⟩,rfl,?_⟩));exact True.intro);(case n=>decide +kernel);(case s=>kernel_rfl)))
   (case A73=>(refine' L2.mdk_of ?l ?m ?n ?s;(case l=>k_is);(case m=>(repeat (refine⟨rfl,⟨_,rfl⟩,rfl,?_⟩));exact True.intro);(case n=>decide +kernel);(case s=>kernel_rfl)))
   (case zhl=>exact fun s u=>.of_eq rfl)
  obtain⟨t,T⟩:=T
  have e0:=hmg.symm.trans T.q114.m
  cases e0
  refine' ⟨t.d114,?b,fun base kb nb=>K68.ok_law T⟩
  exact T.bl
 case S=>exact fun K H a ns hl hO hS=>⟨a,ns,rfl,hS,hl,fun _=>rfl⟩
#print axioms PySem.Challenge.cw_mindchange_k68_whole_run_back_holds